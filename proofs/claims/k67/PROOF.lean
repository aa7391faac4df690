import PyProof.Rows.All
import Wide.All
import OpenK.AllK
import Wide.FinOn
import Lean
import PyProof.EqAt
import PyProof.EqKinds
import PyProof.TupleCall
import KE.KDictList
import PyProof.SetKind
import PyProof.IsRules
import KE.KSortTup
import PyProof.ZipIter
import PyProof.Draws
import PyProof.EnumMake
import PyProof.WalksEnum
import PySem.Challenge.RW_layworld_k67_told_worlds_counted
noncomputable section
open Option renaming some->ba,none->gV
set_option hygiene false
local macro_rules|`(abbrev $i:declId $s:optDeclSig $v:declVal)=>`(noncomputable def $i:declId $s:optDeclSig $v:declVal)|`(def $i:declId $b* :$t $v:declVal)=>`(theorem $i:declId $b* :$t $v:declVal)|`(tactic|omega)=>`(tactic|first|lia|omega (config:={}))|`(tactic|left)=>`(tactic|dsimp only[wS,wE,wA,wV,wG,List.set])|`(tactic|nofun)=>`(tactic|refine aK λK hK=>?_)
local macro_rules|`(#v[])=>`((by decide))|`(#v[$x:term])=>`(.cons $x .nil)|`(#v[$x:term,$y:term,*])=>`(.cons $x #v[$y,*])
local macro_rules|`(#[$x:term])=>`(⟨$x⟩)|`(#[$x:term,$y:term,*])=>`(⟨$x,$y,*⟩)
local macro_rules|`(∅)=>`((by omega))
open _root_ renaming List->Jn,Option->Jw,Nat->Jx,Int->JI,decide_eq_true_eq->JL,if_pos->JZ,Bool->J6,Array->J8,if_neg->Kb,decide_eq_false->Ki,of_decide_eq_true->Kt,beq_self_eq_true->KM,if_false->KZ,False->K5,String->Lc,decide_eq_true->Lg,if_true->Ls,or_false->LA,of_decide_eq_false->Ms,decide_eq_false_iff_not->MV,DecidableEq->MX,beq_eq_false_iff_ne->Og,forall_congr'->Ql,True->Qo,bne_self_eq_false->QZ,not_or->Rk,decide_true->Rz,decide_false->SH,dif_pos->TB,Unit->TZ
open PySem renaming wpAny_bind->Jo,Value->Jr,Shared->Jt,wpAny_pure->Ju,Addr->JA,Str->JV,Expr->J3,Program->Kh,Around->Kk,World->Km,wpAny_newObj_type->Kr,Heap->Kw,sizeLine_eq->Ky,wpAny_callSpecial?_slot->KI,wpAny_call_entry->KL,wpAny_holding->KR,codeAny_builtin->KU,SetTable->KY,wpAny_setState_of->K6,wpAny_seqItems->Lh,Obj->Lo,wpAny_field->Lp,wpAny_mono->LH,NameKind->LL,plainId_quiet->LO,wpAny_typeNameOfWhole_keyiter->L1,wpAny_truthy_bool->L7,DictEntry->L8,Spec->Mn,Pos->Mo,FuncData->Mp,wpAny_setField_rec->Mq,wpAny_passesOwn->Mx,wpAny_pyIter_list->MC,wpAny_typeNameOf_keyiter->MH,Stmt->MK,mem_of_lookup->ML,Builtin->MM,wpAny_askSetting->MQ,wpAny_isInstance->MR,wpAny_typeOf->MZ,wpAny_ite_split->M3,wpAny_attempt->M5,Scope->M7,wpAny_letGo->Ng,wpAny_forIn_list->Nk,wpAny_updateSeq->ND,wpAny_Call_Name_kw->NE,wpAny_of_eq->NJ,codeAny_mono->NL,wpAny_runValue->NP,wpAny_dictEntries->NS,IsPair->N2,wpAny_standAt->N4,wpAny_loadPart'->Ob,wpAny_setEntries_of->Oh,wpAny_rule->Os,IsPart->Ou,call_meets->Ow,isSubtype_stop->Oz,wpAny_fieldsOf->OA,wpAny_newTuple->OB,wpAny_setField->OF,wpAny_tryCatch->OG,wpAny_pyIter_slot->OU,wpAny_newList->O3,wpAny_comprehension_free->O4,noFill_tuple_add->O5,Paired->Pa,wpAny_load->Pc,ItemsOf->Pi,wpAny_execs_nil->Po,codeAny_of_tree->Pr,wpAny_specialOf->Ps,wpAny_dictEpoch->Pu,builtinLookup_eq_fast->PC,wpAny_isSame_ref_self->PF,wpAny_isOneOf_keyiter->PK,GenState->PQ,wpAny_pyIter_keyiter->PY,wpAny_updateSeq_pair->P2,PassesOwn->P9,rangeSize_one->Qg,seq_tuple_add->Qh,wpAny_handled->Qj,IsZip->Qk,Params->Qt,sub_set_self->Qu,wpAny_pyIter_tuple->QA,Env->QF,wpAny_assign_Name->QG,Operator->QI,BindsTo->QJ,concat_meets->QK,wpAny_sequenceKey->QL,seqIndex_neg->QM,list_append->QN,wpAny_setEpoch_of->QU,wpAny_pyIter_enum->Q7,wpAny_pyHash_int->Q9,wpAny_pyHash_str->Ra,Result->Rc,wpAny_pyIter_zip->Rn,seqIndex_of->Rv,wpAny_throw->Rw,Walks->Rx,wpAny_mkInt->Ry,typeLookup_type->RD,Keyword->RK,wpAny_Name->RL,wpAny_bindName->RM,typeIs_int->RO,fitsIndex_both->RQ,call->RT,isSubtype_type->RX,entryFor_alias->RY,callType_newIn->R3,intBits_le_64->R8,evalPart_none->Sc,call_list_seq->Sd,wpAny_onRaise->Sq,small_one->Sy,CmpOp->Sz,call_range_1->SD,IsRangeIter->SQ,wpAny_alloc->SX,Sem->Td,BoolOp->Tu,IsEnum->Tv,IsRange->TC,Fin->TJ,Drawn->TX,Model->TY,Tok->Ua
open List renaming length_map->Jp,getElem?_map->Jy,getElem?_eq_getElem->Jz,length_append->JC,mem_singleton->JD,mem_map->JE,getElem?_eq_some_iff->JF,mem_of_getElem?->JG,set->JK,size_toArray->JM,all_eq_true->JP,mem_range->JQ,getD_eq_getElem?_getD->JT,zipWith->JU,range->JW,mem_cons->JX,take_add_one->J2,length_range->J7,length_cons->J9,take_length->Kc,mem_append->Kd,map_append->Ke,mem_append_right->Kg,length_take->Kn,not_mem_nil->Ko,getElem_mem->Kq,replicate->Ks,getElem?_append_left->Ku,mem_filter->Kz,map_cons->KF,map_congr_left->KG,getElem?_eq_none_iff->KH,all_cons->KJ,mem_flatMap->KN,mem_cons_of_mem->KO,length_eq_zero_iff->KS,mem_cons_self->KT,mem_append_left->KW,length_singleton->K1,nodup_cons->K4,flatMap_cons->K7,mem_of_mem_take->Lb,append_nil->Le,dropLast_concat_getLast->Li,length_filter_le->Ll,map_map->Lu,lookup_cons->Lv,replicate_succ->Lx,nodup_append->Ly,filter_append->LI,getElem_inj->LJ,mem_iff_getElem->LM,getElem?_append_right->LP,append_assoc->LQ,getElem?_set->LR,getElem?_range->LS,length_nil->LV,ext_getElem->LY,nodup_range->LZ,length_dropLast->L5,eq_nil_of_length_eq_zero->L6,filter_cons_of_pos->Ma,filter_cons_of_neg->Mb,range_succ->Mc,length_zipWith->Mg,flatMap_append->Mh,length_pos_of_mem->Mj,idxOf_lt_length_of_mem->Mk,any_cons->Ml,nodup_iff_pairwise_ne->Mu,getElem_idxOf->Mv,flatten_cons->MA,pairwise_map->MD,idxOf_lt_length_iff->MJ,foldlM_cons->MT,take_append_of_le_length->MY,zip_cons_cons->M1,find?_cons->M4,getElem?_eq_none->M6,getElem_take->M9,mem_of_mem_drop->Nf,length_drop->Ni,pairwise_iff_getElem->Np,getLastD_eq_getLast?->Nq,exists_mem_of_ne_nil->Nr,filterMap_cons->Nt,getElem?_take_of_lt->Nw,sum_cons->Nz,length_erase_of_mem->NB,drop_of_length_le->NR,take_of_length_le->NT,take_append_drop->NV,append_inj'->N3,map_take->N6,mem_erase_of_ne->N8,dropLast_concat->N9,getLast?_eq_some_getLast->Oa,forIn_cons->Od,mem_filterMap->Ot,length_eraseIdx_of_lt->Oy,mem_eraseDups->OI,filter_filter->OL,ne_nil_of_mem->OM,extract_eq_take_drop->OO,rel_of_pairwise_cons->OP,ext_getElem?->OV,filter_congr->OX,getElem_map->O8,getLast_mem->O9,getElem?_set_self->Pb,range_succ_eq_map->Pg,of_mem_zip->Pp,find?_some->Pz,length_replicate->PB,getElem?_zipWith->PM,dropLast_sublist->PP,getElem?_set_ne->PR,drop_zero->PV,forIn_nil->P0,nodup_nil->P1,take_zero->P3,getLastD_concat->P4,eraseDups_cons->Qd,length_pos_iff->Qe,mem_map_of_mem->Qf,pairwise_cons->Qz,map_nil->QR,zip_nil_left->QS,any_toArray->Rl,isEmpty_iff->Rp,cons_ne_nil->Rr,cons_append->Rs,perm_middle->Rt,length->Ru,foldr_cons->RH,drop_left'->RJ,foldl->RP,all_map->SF,extract->SL,map->SY,map_id->Ta,Nodup->Tx
open PySem.Heap renaming get?_push_of_some->Jq,get?_push_size->JJ,lt_size->JN,get?_update_other->Kx,get?_update_self->Lk,size_push->Lq,SameBut->LC,get?_update_ne->Nv,ExtBut->PX,size_update->Rm,push->TK
open Option renaming map_eq_some_iff->Js,map_some->Kv,isSome_iff_exists->KD,toList->NC,map_eq_none_iff->NO,getD_none->Rf,getD_some->Ro,map_map->RZ
open Bool renaming and_eq_true->Jv,false_ne_true->J1,false_eq_true->J5,or_eq_true->LF,not_true->MG,not_eq_true'->M8,and_true->Ny,true_and->N5,and_false->Ox,eq_false_iff->OY,false_or->O1,eq_iff_iff->Py,and_eq_false_iff->PD,not_false->PU,and_eq_true_iff->P6,or_false->Qi
open Nat renaming le_refl->JB,le_trans->JY,ne_of_lt->J0,lt_of_lt_of_le->J4,lt_irrefl->K8,lt_succ_self->K9,zero_le->Lj,ne_of_gt->Lm,pow_le_pow_left->LU,div_lt_of_lt_mul->L3,pow_le_pow_right->L4,lt_succ_of_lt->L9,le_add_right->Mm,lt_of_le_of_lt->Mt,le_succ->MB,mul_le_mul_right->ME,mul_le_mul->MW,succ_mul->M0,lt_or_gt_of_ne->M2,le_of_lt->Nh,mul_comm->Nj,succ_le_succ->NZ,eq_zero_or_pos->OJ,add_comm->Pe,lt_trans->Pf,mod_lt->Ph,mul_zero->Pl,pow_succ->Pn,le_of_ble_eq_true->PN,not_lt->Qw,le_of_not_lt->Ri,succ_ne_zero->Rj,min_eq_right->Rq,min_eq_left->RI,add_assoc->Sk,min_self->SG,sub_zero->SM,mul_pos->Tb,pow_pos->Tc,ble->Uc
open PySem.W renaming Frag->JH,look_both->KC,keepIn->Lf,fnOf->L0,kia_one->My,codeIn->MO,kas_sort->MU,nsIn->Nl,methodObj->OR,cellsFrom_some->Pd,OpenLaw->Pq,kat_nil->Px,KdlSrc->PZ,WalkO->Se,Looks->So,mg_of->Sw,recOk->Sx,xlAt->SN
open Int renaming toNat_natCast->JO,natCast_nonneg->JR,emod_lt_of_pos->Mr,emod_nonneg->Mz,toNat_of_nonneg->Nu,natCast_mul->Oc,ediv_nonneg->Of,zero_add->Pk
open Array renaming length_toList->JS,getElem?_toList->K2,size_map->La,getElem?_eq_some_iff->Lr,getElem?_eq_getElem->LX,map->MS,mem_toList_iff->Nc,toList_extract->Nd,getD->NF,forIn_toList->NG,mem_of_getElem?->NU,getElem_toList->N7,toList_append->Oi,getElem?_map->OD,perm_iff_toList_perm->OH,toList_push->OT,toList_map->O7,append_assoc->Qp,filterMap->RE,map_map->Sl,toList->SC
open Option.some renaming injEq->Kf,inj->KQ
open PySem.Value renaming ref->Kj,none->KA,type->Lw,bool->Na,int->NW,str->NX
open PySem.SetTable renaming insertAt->Kl,below->MP,grown->NQ,Probe->OC,sizeAbove->OE,layClean->Q1,fits->Sh,sameMemory->To,relaid->TU,laid->T8
open PySem.Around renaming under_plainId->KP
open PySem.Obj renaming mapSeq->Ld,data_mapFields->NH,isFreed_of_fields->PL,cls_mapFields->QX,mapFields->Sn
open PySem.Builtin.List renaming listExtendWith->Ln,listTooLong->MF,listLengthHint->Ol,listSameRef->O0,listFitsIndex->RS
open PySem.Builtin.Tuple renaming tupleExact->Lz,tupleItemsOf->Nb,tupleHashOf->Nn,tupleCompareSizes->Q8,tupleIsExact->RV
open PySem.Builtin.SmallTypes renaming ownedTupleIsFree->LB,ownedTupleHandOut->Mf,nextOf->OQ
open PySem.Str renaming ofString->LD,length->Tq,join->T6
open ForInStep renaming yield->LG
open PySem.Builtin.Range renaming rangeSize->LK,small->Oj
open PyProof.Rows renaming callWith_type1->LN,slot_tuple_getitem->LW,subscriptTail_builtinR->NN,assignInOrder_cons->Oq,AllBare->OS,listUpdate_at->O2,SortKind->O6,get?_update_seq->Pw,entry_tuple_getitem->Qb,lt_int->Qc,args_tuple_getitem->Qr,IsTup->QE,assignInOrder_nil->QH,IntsAre->QQ,listItems_at->QY,callWith_builtin1->Re,seqEpoch_at->RA,entry_list_sort->RG,slicePart_none->RN,slot_list_sort->R0,args_list_sort->R1,tupleItemsOf_->R9,plain_sorted->SI,entry_sorted->SJ,args_sorted1->SK,boot_sum->SO,kind_sorted->SZ,Call_->T0
open PySem.Builtin.Slice renaming slicePlaces->Mw,sliceAdjust->Nm,sliceApplied->Ov,slicePartIndex->RB,sliceFields->R4
open PySem.Heap.SameBut renaming update->MN,refl->QV
open PySem.Calls renaming call_function_entry->No,Name_function_global->Op,Constant_str->Qq
open PySem.F renaming args_tuple_add_2->Nx,entry_tuple_add->NI,plainAttrs_list->NK,slot_tuple_add->NM,slot_dict_get->PH
open PySem.NameKind renaming free->NA,cell->T9
open PySem.SeqAt renaming EqAt->NY,notIn_listAt->Qs,in_tupleAt->Rg,in_listAt->RC
open True renaming intro->N1
open PySem.Builtin.Dict_items renaming ownsTuple->Oe
open PySem.Builtin.Builtins renaming bindParams->Om
open PySem.Challenge renaming pw_layworld_k67_told_worlds_counted->On,rw_layworld_k67_told_worlds_counted->Oo
open Classical renaming byContradiction->ON,propDecidable->SA
open PySem.SetTable.probe renaming go->OW
open PySem.Paired renaming length->OZ
open PySem.Env renaming kindOf->Pj
open PySem.Builtin.Dict renaming showsAll->PJ,dictSlotNone->R6,pendingCount->R7
open List.Pairwise renaming filter->P5,imp_of_mem->Su,nil->Tz
open Sum renaming inl->P7,inr->P8
open PySem.Expr renaming Name->Qa
open PySem.SeqAt.EqAt renaming int_str->Qm,str_int->Qn,none_bool->SR,bool_none->SS,bool_bool->SU,none_int->Te,none_str->Tf,bool_int->Th,bool_str->Ti,int_none->Tj,int_bool->Tk,str_none->Tl,str_bool->Tn,int_int->Ts,str_str->Tt,same->TR
open PUnit renaming unit->Qv
open PySem.Code renaming quiet_builtin->Qx
open PySem.Walks renaming list->Qy
open PySem.ScopeKind renaming function->QC
open PySem.AutoListH renaming list___mul___list_int_3->QD
open PySem.AutoSeq1 renaming list_extend_list_list_0->QP,sub_tuple_tuple->Sg
open PySem.SetTable.below renaming go->QT
open Function renaming comp_def->Q6,comp->Sr
open PyProof.Rows.IsTup renaming new->Rb
open PySem.IsL renaming update->Rh
open PySem.Builtin.Frozenset renaming updateFrom->RF,newClass->RW,sizeOf->Si
open PySem.Builtin.Str renaming tooLong->R5,glued->TD
open PySem.Moved renaming eq_with->Sj
open Prod.mk renaming injEq->Sv
open PySem.MeetsSeq renaming list_pop_at->SV
open PySem.Txt renaming join->SW,mul->Ub
open PySem.Heap.IsSliceOf renaming new->Tp
open List.Sublist renaming refl->TF
open PySem.Flow renaming next->TH
open PySem.W.Looks renaming ld->TM
open List.Perm renaming nil_eq->TN,swap->T5,map->T7
open PySem.W.XL renaming keeps->TQ
open PySem.PassesOwn renaming never->TV
open List.cons renaming injEq->TW
open Prod renaming ext->T3
open Or renaming inr->T4
open Nat.succ renaming inj->Ud
set_option genSizeOf false
namespace ZZ.Lean
set_option Elab.async false
set_option linter.all false
set_option maxRecDepth 100000
namespace L2
open PySem PySem.Spec PyProof.Rows
noncomputable abbrev nE:=Sum JI JV
abbrev Cm:nE->Jr->J6
 | .inl k,v=>Value.isInt k v
 | .inr x,v=>Value.isStrOf x v
abbrev Hh (w:Km):nE->JI
 | .inl k=>hashInt k
 | .inr x=>hashStr w x
def bh:∀ {k:nE} {v:Jr},Cm k v=true->(∃i t,k=P7 i/\v=NW i t)\/(∃x t,k=P8 x/\v=NX x t)
 | .inl i,v,h=>by
  obtain⟨t,e⟩:=Value.isInt_shape (k:=i) (v:=v) h;exact .inl #[i,t,rfl,e]
 | .inr x,v,h=>by
  obtain⟨t,e⟩:=Value.isStrOf_shape (x:=x) (v:=v) h;exact .inr #[x,t,rfl,e]
def CP (a b:JI):decide ((P7 a:nE)=P7 b)=(a==b):=by
 by_cases e:a=b
 ·subst e; simp
 ·have h:¬ (P7 a:nE)=P7 b:=λq=>e (Sum.inl.inj q)
  rw[Ki h];exact(Og.mpr e).symm
def CQ (a b:JV):decide ((P8 a:nE)=P8 b)=decide (a=b):=by
 by_cases e:a=b
 ·subst e; simp
 ·have h:¬ (P8 a:nE)=P8 b:=λq=>e (Sum.inr.inj q)
  rw[Ki h,Ki e]
def CS (a:JI)(b:JV):decide ((P7 a:nE)=P8 b)=false:=Ki (λq=>nomatch q)
def CT (a:JV)(b:JI):decide ((P8 a:nE)=P7 b)=false:=Ki (λq=>nomatch q)
abbrev nF (prog:Kh)(w:Km):PySem.KeyKind prog w nE where
 is:=Cm
 hash:=Hh w
 inj:=λv a b ha hb=>by
  rcases bh ha with⟨i,t,rfl,rfl⟩|⟨x,t,rfl,rfl⟩
  ·rcases bh hb with⟨j,u,rfl,e⟩|⟨y,u,rfl,e⟩
   ·injection e with e1 _; rw[e1]
   ·exact nomatch e
  ·rcases bh hb with⟨j,u,rfl,e⟩|⟨y,u,rfl,e⟩
   ·exact nomatch e
   ·injection e with e1 _; rw[e1]
 byValue:=λk v h=>by
  rcases bh h with⟨i,t,rfl,rfl⟩|⟨x,t,rfl,rfl⟩ <;> rfl
 pyHash:=λhv h=>by
  rcases bh hv with⟨i,t,rfl,rfl⟩|⟨x,t,rfl,rfl⟩
  ·exact Q9 h
  ·exact Ra h
 eqBool:=λhu hv h=>by
  rcases bh hu with⟨i,t,rfl,rfl⟩|⟨x,t,rfl,rfl⟩
  ·rcases bh hv with⟨j,u,rfl,rfl⟩|⟨y,u,rfl,rfl⟩
   ·rw[CP]at h; exact wpAny_eqBool_int h
   ·rw[CS]at h; exact Qm i t y u _ _ _ _ h
  ·rcases bh hv with⟨j,u,rfl,rfl⟩|⟨y,u,rfl,rfl⟩
   ·rw[CT]at h; exact Qn x t j u _ _ _ _ h
   ·rw[CQ]at h; exact wpAny_eqBool_str h
 «strs»:=λk x t v h=>by
  rcases bh h with⟨i,u,rfl,e⟩|⟨y,u,rfl,e⟩
  ·exact nomatch e
  ·injection e with e1 _
   subst e1;cases v <;> rfl
inductive V where
 | non|bl (b:J6)|int (i:JI)|str (x:JV)|byt (b:J8 UInt8)|flt (b:UInt64)|ref (a:JA)|ty (n:Lc)
 deriving MX
abbrev RelV:V->Jr->Prop
 | .non,u=>u=KA
 | .bl b,u=>u=Na b
 | .int i,u=>∃t,u=NW i t
 | .str x,u=>∃t,u=NX x t
 | .byt b,u=>∃t,u=Value.bytes b t
 | .flt b,u=>∃t,u=Value.float b t
 | .ref a,u=>u=Kj a
 | .ty n,u=>u=Lw n
noncomputable abbrev Vals:Jn V->Jn Jr->Prop:=Pa RelV
def Vals.length {xs:Jn V}{us:Jn Jr}(r:Vals xs us):xs.length=us.length:=OZ r
def Vals.get:∀ {xs:Jn V} {us:Jn Jr} {i:Jx} {x:V},Vals xs us->xs[i]?=ba x->∃u,us[i]?=ba u/\RelV x u
 | _,_,_,_,.nil,e=>by simp at e
 | _,_,0,_,.cons r _,e=>by simp at e; subst e; exact#[_,rfl,r]
 | _,_,i+1,x,.cons _ t,e=>by
  obtain⟨u,h1,h2⟩:=Vals.get (i:=i) (x:=x) t (by simpa using e)
  exact#[u,by simpa using h1,h2]
def Vals.set {x:V}{u:Jr}(r:RelV x u):∀ {xs:Jn V} {us:Jn Jr} (i:Jx),Vals xs us->Vals (xs.set i x) (us.set i u)
 | _,_,_,.nil=>.nil
 | _,_,0,.cons _ t=>.cons r t
 | _,_,i+1,.cons q t=>.cons q (Vals.set r i t)
def Vals.append:∀ {xs ys:Jn V} {us ws:Jn Jr},Vals xs us->Vals ys ws->Vals (xs++ys) (us++ws)
 | _,_,_,_,.nil,s=>s
 | _,_,_,_,.cons r t,s=>.cons r (Vals.append t s)
def Vals.take:∀ {xs:Jn V} {us:Jn Jr} (n:Jx),Vals xs us->Vals (xs.take n) (us.take n)
 | _,_,0,_=>.nil
 | _,_,_+1,.nil=>.nil
 | _,_,n+1,.cons r t=>.cons r (Vals.take n t)
def Vals.drop:∀ {xs:Jn V} {us:Jn Jr} (n:Jx),Vals xs us->Vals (xs.drop n) (us.drop n)
 | _,_,0,r=>r
 | _,_,_+1,.nil=>.nil
 | _,_,n+1,.cons _ t=>Vals.drop n t
abbrev EZ:Jw V->Jw Jr->Prop
 | some v,ba u=>RelV v u
 | none,gV=>Qo
 | _,_=>K5
abbrev KV {κ:Type}:Jn (κ×V)->Jn (κ×Jr)->Prop:=Pa λ(p:κ×V) (q:κ×Jr)=>p.1=q.1/\RelV p.2 q.2
abbrev kV:nE->V
 | .inl i=>.int i
 | .inr x=>.str x
inductive HO where
 | lst (xs:Jn V)
 | tup (xs:Jn V)
 | dK (U:Jn (nE×V))|dT (U:Jn (Jn nE×V))
 | set (S:JI->J6) (n:Jx)
 | ins (C dx:JA) (fs:Jn (JV×V))
 | own (x:JA)
 | xd (fs:Jn (JV×V))
 | met (f x:JA)
 | rng (lo hi:JI)
 | frz (o:Lo) (u:HO)
 | tbl (ps:J8 Jr)
 | ext (φ:Kw->Prop)
noncomputable abbrev Hp:=JA->Jw HO
abbrev br (H:Hp)(a:JA)(o:HO):Hp:=λb=>if b=a then ba o else H b
def aI {H:Hp}{a:JA}{o:HO}:br H a o a=ba o:=by unfold br; rw[JZ rfl]
def aC {H:Hp}{a b:JA}{o:HO}(h:b≠a):br H a o b=H b:=by unfold br; rw[Kb h]
def dZ {H:Hp}{a b:JA}{o:HO}(h:H a=ba o)(h':H b=gV):a≠b:=by
 intro e; subst e; rw[h]at h'; cases h'
section
variable (P:Kh) (w:Km)
abbrev ObjOk (H:Hp)(h:Kw)(a:JA):HO->Prop
 | .lst xs=>xs.length<=sizeLine/\∃(its:Jn Jr) (n:Jx),Vals xs its/\h.get? a=ba { cls:=.type "list",data:=.seq its.toArray n }
 | .tup xs=>xs.length<=sizeLine/\∃its:Jn Jr,Vals xs its/\QE h a its.toArray
 | .dK U=>U.length<=sizeLine/\(a==sysModules)=false/\∃vs,KV U vs/\h.DictOf (nF P w) a vs
 | .dT U=>U.length<=sizeLine/\(a==sysModules)=false/\∃xs:Jn (Jn nE×JA×Jr),
   Pa (λ(p:Jn nE×V) (q:Jn nE×JA×Jr)=>p.1=q.1/\H q.2.1=ba (.tup (p.1.map kV))/\RelV p.2 q.2.2) U xs/\
   ∃o es ep,h.get? a=ba o/\o.ExactDict/\o.data=.dict es ep/\es.toList=xs.map (entryOfKey (tupleKind (nF P w)))/\(xs.map (·.1)).Nodup
 | .set S n=>h.SetOf (intKind P w) a S n
 | .ins C dx fs=>H dx=ba (.own a)/\fs.length<=1000/\dx≠a/\h.get? a=ba (PySem.W.instObj C dx)/\
   ∃mA,h.Ns1 dx mA/\(∀f,EZ (fs.lookup f) (mA f))/\PySem.Within mA (fs.map (·.1))
 | .own _=>∃o,h.get? a=ba o
 | .xd fs=>∃mA,h.Ns1 a mA/\∀f,EZ (fs.lookup f) (mA f)
 | .rng lo hi=>∃t u v,h.get? a=ba { cls:=.type "range",data:=.fields [.int lo t,.int hi u,.int 1 v].toArray }
 | .frz o u=>h.get? a=ba o/\ObjOk H h a u
 | .tbl ps=>h.get? a=ba { cls:=.none,data:=.fields ps }
 | .met f x=>h.get? a=ba (OR (.ref f) (.ref x))
 | .ext φ=>φ h/\(∃o,h.get? a=ba o)/\∀h1 h2:Kw,φ h1->(∀o,h1.get? a=ba o->h2.get? a=ba o)->φ h2
abbrev HOk (H:Hp)(h:Kw):Prop:=∀a o,H a=ba o->ObjOk P w H h a o
end
section
variable{P:Kh}{w:Km}{H H':Hp}{h h':Kw}{a:JA}{o:HO}
def ObjOk.lt (x:ObjOk P w H h a o):a < h.objs.size:=by
 cases o with
 | lst xs=>obtain⟨_,_,_,_,e⟩:=x; exact JN e
 | tup xs=>obtain⟨_,_,_,p⟩:=x; exact p.lt
 | dK U=>obtain⟨_,_,_,_,o,_,_,e,_⟩:=x; exact JN e
 | dT U=>obtain⟨_,_,_,_,o,_,_,e,_⟩:=x; exact JN e
 | set S n=>obtain⟨o,_,_,_,e,_⟩:=x; exact JN e
 | ins C dx fs=>obtain⟨_,_,_,e,_⟩:=x; exact JN e
 | own y=>obtain⟨_,e⟩:=x; exact JN e
 | xd fs=>obtain⟨_,⟨_,_,_,e,_⟩,_⟩:=x; exact JN e
 | rng lo hi=>obtain⟨_,_,_,e⟩:=x; exact JN e
 | frz ob u=>obtain⟨e,_⟩:=x; exact JN e
 | tbl ps=>exact JN (show h.get? a=ba _ from x)
 | met f y=>exact JN (show h.get? a=ba _ from x)
 | ext φ=>obtain⟨_,⟨_,e⟩,_⟩:=x; exact JN e
def Paired.mapP {α β:Type}{F G:α->β->Prop}:∀ {l₁:Jn α} {l₂:Jn β},Pa F l₁ l₂->(∀a b,F a b->G a b)->Pa G l₁ l₂
 | _,_,.nil,_=>.nil
 | _,_,.cons r t,f=>.cons (f _ _ r) (Paired.mapP t f)
def ObjOk.stay (x:ObjOk P w H h a o)(k:∀b u,(b=a\/H b=ba (.own a))->h.get? b=ba u->h'.get? b=ba u)
  (ho:∀b,H b=ba (.own a)->H' b=ba (.own a)) (ht:∀b xs,H b=ba (.tup xs)->H' b=ba (.tup xs)):ObjOk P w H' h' a o:=by
 induction o with
 | lst xs=>obtain⟨z,its,n,r,e⟩:=x; exact#[z,its,n,r,k _ _ (.inl rfl) e]
 | tup xs=>obtain⟨z,its,r,ob,e,c⟩:=x; exact#[z,its,r,ob,k _ _ (.inl rfl) e,c]
 | dK U=>obtain⟨z,y,vs,r,ob,es,ep,e,c⟩:=x; exact#[z,y,vs,r,ob,es,ep,k _ _ (.inl rfl) e,c]
 | dT U=>
  obtain⟨z,y,xs,r,ob,es,ep,e,c⟩:=x;exact#[z,y,xs,Paired.mapP r λp q z=>#[z.1,ht _ _ z.2.1,z.2.2],ob,es,ep,k _ _ (.inl rfl) e,c]
 | set S n=>obtain⟨ob,es,ep,t,e,c⟩:=x; exact#[ob,es,ep,t,k _ _ (.inl rfl) e,c]
 | ins C dx fs=>
  obtain⟨d,z,ne,e,mA,⟨od,es,ep,e2,c⟩,r⟩:=x;exact#[ho _ d,z,ne,k _ _ (.inl rfl) e,mA,#[od,es,ep,k _ _ (.inr d) e2,c],r]
 | own y=>obtain⟨ob,e⟩:=x; exact#[ob,k _ _ (.inl rfl) e]
 | xd fs=>obtain⟨mA,⟨od,es,ep,e,c⟩,r⟩:=x; exact#[mA,#[od,es,ep,k _ _ (.inl rfl) e,c],r]
 | rng lo hi=>obtain⟨t,u,v,e⟩:=x; exact#[t,u,v,k _ _ (.inl rfl) e]
 | frz ob u ih=>obtain⟨e,q⟩:=x; exact#[k _ _ (.inl rfl) e,ih q]
 | tbl ps=>
  have e:h.get? a=ba { cls:=.none,data:=.fields ps }:=x;show h'.get? a=ba { cls:=.none,data:=.fields ps };exact k a _ (.inl rfl) e
 | met f y=>
  have e:h.get? a=ba (OR (.ref f) (.ref y)):=x;show h'.get? a=ba (OR (.ref f) (.ref y));exact k a _ (.inl rfl) e
 | ext φ=>obtain⟨p,⟨o,e⟩,st⟩:=x; exact#[st _ _ p λo q=>k _ _ (.inl rfl) q,#[o,k _ _ (.inl rfl) e],st]
def HOk.lt (x:HOk P w H h)(e:H a=ba o):a < h.objs.size:=(x a o e).lt
def HOk.fresh (x:HOk P w H h)(e:h.objs.size<=a):H a=gV:=by
 cases q:H a with
 | none=>rfl
 | some u=>exact absurd (J4 (x.lt q) e) (K8 _)
def HOk.kept (x:HOk P w H h)(k:∀b u,h.get? b=ba u->h'.get? b=ba u):HOk P w H h':=λa o e=>
 (x a o e).stay (λb u _ q=>k b u q) (λ_ q=>q) λ_ _ q=>q
def HOk.laid (x:HOk P w H h)(k:∀b u,h.get? b=ba u->h'.get? b=ba u)(hp:h.objs.size<=a)(new:ObjOk P w (br H a o) h' a o):HOk P w (br H a o) h':=λb u e=>by
 have hn:=x.fresh hp
 by_cases hb:b=a
 ·subst hb; rw[aI]at e; cases e; exact new
 ·rw[aC hb]at e;exact(x b u e).stay (λc v _ q=>k c v q) (λc q=>by rw[aC (dZ q hn)]; exact q) λc xs q=>by rw[aC (dZ q hn)]; exact q
end
abbrev Rd (H:Hp)(a:JA)(u:HO):Prop:=H a=ba u\/∃o,H a=ba (.frz o u)
def Rd.ok {P:Kh}{w:Km}{H:Hp}{h:Kw}{a:JA}{u:HO}(r:Rd H a u)(x:HOk P w H h):ObjOk P w H h a u:=by
 rcases r with r|⟨o,r⟩
 ·exact x a u r
 ·obtain⟨_,q⟩:=x a _ r;exact q
abbrev E1:Jw HO->Prop
 | some (.lst _)=>Qo
 | some (.dK _)=>Qo
 | some (.dT _)=>Qo
 | some (.set _ _)=>Qo
 | some (.ins _ _ _)=>Qo
 | some (.ext _)=>Qo
 | _=>K5
section
variable{P:Kh}{w:Km}{H:Hp}{h h':Kw}{x e:JA}{o':HO}
def HOk.write (ok:HOk P w H h)(mu:E1 (H x))(he:e=x\/H e=ba (.own x))(k:∀b u,b≠e->h.get? b=ba u->h'.get? b=ba u)(heo:∃u,h'.get? e=ba u)
  (new:ObjOk P w (br H x o') h' x o'):HOk P w (br H x o') h':=λb u q=>by
 have nown:∀c y,H c=ba (.own y)->c≠x:=λc y r z=>by subst z; rw[r]at mu; exact mu
 have ntup:∀c xs,H c=ba (.tup xs)->c≠x:=λc xs r z=>by subst z; rw[r]at mu; exact mu
 by_cases hb:b=x
 ·subst hb; rw[aI]at q; cases q; exact new
 ·rw[aC hb]at q
  by_cases hbe:b=e
  ·have q':H b=ba (.own x):=by
    rcases he with z|z
    ·exact absurd (hbe.trans z) hb
    ·rw[hbe]; exact z
   rw[q]at q'; cases q'
   obtain⟨v,hv⟩:=heo;exact#[v,by rw[hbe]; exact hv]
  ·refine(ok b u q).stay (λc v hc r=>k c v ?_ r) (λc r=>by rw[aC (nown c b r)]; exact r) λc xs r=>by rw[aC (ntup c xs r)]; exact r
   rcases hc with rfl|hc
   ·exact hbe
   ·rintro rfl;rcases he with z|z
    ·exact nown c b hc z
    ·rw[hc]at z; cases z; exact hb rfl
end
structure Un (fs ex:Jn JA)(H H':Hp)(h h':Kw):Prop where
 keep:∀b o,h.get? b=ba o->H b=gV->b∉fs->b∉ex->h'.get? b=ba o
 slot:∀b o,h.get? b=ba o->H b=gV->b∈fs->b∉ex->∃sl,h'.get? b=ba { o with slots:=sl }
 free:∀b o,h.get? b=ba o->H b=gV->b∉ex->H' b=gV
 there:∀b o,h.get? b=ba o->b∉ex->∃o',h'.get? b=ba o'
 tups:∀b xs,H b=ba (.tup xs)->H' b=ba (.tup xs)
 frzs:∀b o u,H b=ba (.frz o u)->H' b=ba (.frz o u)
 tbls:∀b ps,H b=ba (.tbl ps)->∃more,H' b=ba (.tbl (ps++more))
section
variable{fs fs' ex ex':Jn JA}{H H1 H2:Hp}{h h1 h2 h':Kw}{a x e:JA}{o:HO}
def Un.any (u:Un fs ex H H1 h h1){b:JA}{ob:Lo}(q:h.get? b=ba ob)(n:H b=gV)(hx:b∉ex):∃sl,h1.get? b=ba { ob with slots:=sl }:=by
 by_cases hb:b∈fs
 ·exact u.slot b ob q n hb hx
 ·exact#[ob.slots,u.keep b ob q n hb hx]
def Un.trans (a:Un fs ex H H1 h h1)(b:Un fs ex H1 H2 h1 h2):Un fs ex H H2 h h2 where
 keep:=λc ob q n hc hx=>b.keep c ob (a.keep c ob q n hc hx) (a.free c ob q n hx) hc hx
 slot:=λc ob q n hc hx=>by
  obtain⟨sl,e1⟩:=a.slot c ob q n hc hx;obtain⟨sl',e2⟩:=b.slot c _ e1 (a.free c ob q n hx) hc hx;exact#[sl',e2]
 free:=λc ob q n hx=>by
  obtain⟨o',e1⟩:=a.there c ob q hx;exact b.free c o' e1 (a.free c ob q n hx) hx
 there:=λc ob q hx=>by
  obtain⟨o',e1⟩:=a.there c ob q hx;exact b.there c o' e1 hx
 tups:=λc xs q=>b.tups c xs (a.tups c xs q)
 frzs:=λc ob xs q=>b.frzs c ob xs (a.frzs c ob xs q)
 tbls:=λc ps q=>by
  obtain⟨m1,e1⟩:=a.tbls c ps q;obtain⟨m2,e2⟩:=b.tbls c _ e1;exact#[m1++m2,by rw[e2,Qp]]
def Un.kept (k:∀b u,h.get? b=ba u->h'.get? b=ba u):Un fs ex H H h h':=
 #[λb ob q _ _ _=>k b ob q,λb ob q _ _ _=>#[ob.slots,k b ob q],λ_ _ _ n _=>n,λb ob q _=>#[ob,k b ob q],λ_ _ q=>q,λ_ _ _ q=>q,λ_ ps q=>#[#[],by rw[q]; simp]]
def Un.refl:Un fs ex H H h h:=Un.kept λ_ _ q=>q
def Un.laid (k:∀b u,h.get? b=ba u->h'.get? b=ba u)(hp:h.objs.size<=a)(hn:H a=gV):Un fs ex H (br H a o) h h' where
 keep:=λb u q _ _ _=>k b u q
 slot:=λb u q _ _ _=>#[u.slots,k b u q]
 free:=λb u q n _=>by rw[aC (J0 (J4 (JN q) hp))]; exact n
 there:=λb u q _=>#[u,k b u q]
 tups:=λb xs q=>by rw[aC (dZ q hn)]; exact q
 frzs:=λb u xs q=>by rw[aC (dZ q hn)]; exact q
 tbls:=λb ps q=>#[#[],by rw[aC (dZ q hn),q]; simp]
def Un.write (mu:E1 (H x))(he:e=x\/H e=ba (.own x))(k:∀b u,b≠e->h.get? b=ba u->h'.get? b=ba u)(heo:∃u,h'.get? e=ba u):Un fs ex H (br H x o) h h':=by
 have hx:∀b,H b=gV->b≠x:=λb n z=>by subst z; rw[n]at mu; exact mu
 have hb:∀b,H b=gV->b≠e:=λb n z=>by
  subst z;rcases he with r|r
  ·exact hx b n r
  ·rw[n]at r; cases r
 have hm:∀b u,H b=ba u->¬ E1 (ba u)->b≠x:=λb u q nm z=>by subst z; rw[q]at mu; exact nm mu
 refine#[λb u q n _ _=>k b u (hb b n) q,λb u q n _ _=>#[u.slots,k b u (hb b n) q],λb u q n _=>by rw[aC (hx b n)]; exact n,λb u q _=>?_,
  λb xs q=>by rw[aC (hm b _ q λz=>z)]; exact q,λb u xs q=>by rw[aC (hm b _ q λz=>z)]; exact q,λb ps q=>#[#[],by rw[aC (hm b _ q λz=>z),q]; simp]]
 by_cases hbe:b=e
 ·subst hbe; exact heo
 ·exact#[u,k b u hbe q]
end
abbrev G5 (h:Kw)(H:Hp):Jn JA:=(JW h.objs.size).filter λa=>(H a).isSome
abbrev nG (h:Kw)(H:Hp):Kw:=PySem.W.hideAll h (G5 h H)
def uZ (h:Kw)(H:Hp):(nG h H).objs.size=h.objs.size:=PySem.W.hideAll_size _ _
def wF {h:Kw}{H:Hp}{b:JA}{o:Lo}(e:h.get? b=ba o)(n:H b=gV):(nG h H).get? b=ba o:=
 PySem.W.hideAll_get _ e λhm=>by
  have q:(H b).isSome=true:=(Kz.mp hm).2;rw[n]at q; simp at q
def Ae {h:Kw}{H:Hp}{b:JA}{o:Lo}(e:(nG h H).get? b=ba o):h.get? b=ba o/\H b=gV:=by
 have e':h.get? b=ba o:=PySem.W.of_hideAll (G5 h H) e;refine#[e',?_];cases q:H b with
 | none=>rfl
 | some x=>
  have hm:b∈G5 h H:=Kz.mpr #[JQ.mpr (JN e'),by simp[q]]
  have z:(nG h H).get? b=gV:=PySem.W.hideAll_none (G5 h H) hm;rw[z]at e; cases e
abbrev Ag (g h:Kw)(L:JA):Jn (JA×Lo):=(JW h.objs.size).filterMap λa=>if a=L\/(g.get? a).isSome=true then gV else(h.get? a).map λo=>(a,o)
abbrev bu (g h:Kw)(L d:JA):Jn (JA×Lo):=(Ag g h L).filter λp=>decide (p.1≠d)
structure Mod (K:JH)(mg:JV->Jw Jr)(base:Kw):Prop where
 kin:K.In base
 glob:base.Ns mainGlobals mg
 blt:∃mb,base.Ns builtinsNs mb/\∀x:JV,x≠"__name__"->mb x=bootBuiltins x
 nolimit:base.NoLimit
structure Cx where
 prog:Kh
 w:Km
 K:JH
 mg:JV->Jw Jr
 base:Kw
 A:Kk
 N:Jn JV
 s₀:Jt
 H₀:Hp
 env:QF
 outer:Jn QF
 stack:Jn QF
 ex:Jn JA
 fn:JV->J6
 calm:J6
 pn:Jn (JA×Lo)
 xe:Jr->Jt->Prop
abbrev rD (l:Jn QF):Jn JA:=l.filterMap (·.frame)
noncomputable abbrev Cx.fs (X:Cx):Jn JA:=rD X.outer
abbrev G6 (sc:M7)(x:JV):Prop:=sc.names.lookup x=ba .local\/sc.names.lookup x=ba .cell\/sc.names.lookup x=ba .free
abbrev Ah (sc:M7)(x:JV):Prop:=sc.names.lookup x=ba .local\/sc.names.lookup x=ba .cell
abbrev Hi (env:QF)(h:Kw)(m:JV->Jw Jr)(x:JV)(u:Jr):Prop:=
 (env.kindOf x=ba .local/\m x=ba u)\/((env.kindOf x=ba .cell\/env.kindOf x=ba .free)/\∃c,env.cells.lookup x=ba c/\h.IsCell c (ba u))
structure Cx.Ok (X:Cx):Prop where
 mod:Mod X.K X.mg X.base
 kind:X.env.scope.kind=.function
 glob:X.env.globals=mainGlobals
 blt:X.env.builtins=builtinsNs
 above:X.s₀.heap.objs.size<=X.env.locals
 inj:∀x y c,X.env.cells.lookup x=ba c->X.env.cells.lookup y=ba c->x=y
 has:∀x,(X.env.kindOf x=ba .cell\/X.env.kindOf x=ba .free)->∃c,X.env.cells.lookup x=ba c
 cab:∀x c,X.fn x=true->X.env.cells.lookup x=ba c->X.s₀.heap.objs.size<=c
 hd:X.calm=true->X.A.handled=gV
 frames:X.A.frames=ba X.stack
 stk:X.stack=X.outer\/(X.stack=X.env::X.outer/\X.env.frame=ba X.env.locals)
 exf:∀b∈X.ex,b≠X.env.locals/\∀x c,X.env.cells.lookup x=ba c->c≠b
 bs:∀b o,X.base.get? b=ba o->X.s₀.heap.get? b=ba o/\X.H₀ b=gV
 bsz:X.base.objs.size<=X.s₀.heap.objs.size
 noex:∀b o,X.base.get? b=ba o->b∉X.ex
 exfs:∀b∈X.ex,b∉X.fs
 funs:X.s₀.heap.FunFrames X.base X.outer
 frf:∀b∈X.fs,X.H₀ b=gV
structure Inv (X:Cx)(J:Jn (JA×Lo))(Y:Jn (Jw V))(H:Hp)(s:Jt):Prop where
 ok:X.Ok
 os:s.os=X.s₀.os
 bare:OS s.gens
 base:Un X.fs X.ex X.H₀ H X.s₀.heap s.heap
 loc:∃m,s.heap.Ns X.env.locals m/\∀(i:Jx) (x:JV) (v:V),X.N[i]?=ba x->Y[i]?=ba (ba v)->G6 X.env.scope x->∃u,RelV v u/\Hi X.env s.heap m x u
 cell:∀x c,X.env.cells.lookup x=ba c->∃v,s.heap.IsCell c v
 free:H X.env.locals=gV
 freeC:∀x c,X.env.cells.lookup x=ba c->H c=gV
 pin:∀p∈X.pn++J,s.heap.get? p.1=ba p.2/\H p.1=gV/\p.1≠X.env.locals/\p.1∉X.fs/\∀v,p.2.data≠.cell v
 hok:HOk X.prog X.w H s.heap
 len:Y.length=X.N.length
section
variable{X:Cx}{J:Jn (JA×Lo)}{Y:Jn (Jw V)}{H H':Hp}{s:Jt}{h':Kw}
def Cx.Ok.nofr (ok:X.Ok){b:JA}{o:Lo}(e:X.base.get? b=ba o):b∉X.fs:=λhb=>by
 have:=(ok.funs.mem hb).1;rw[e]at this; cases this
def Inv.bs (I:Inv X J Y H s):∀b o,X.base.get? b=ba o->s.heap.get? b=ba o/\H b=gV:=λb o e=>
 #[I.base.keep b o (I.ok.bs b o e).1 (I.ok.bs b o e).2 (I.ok.nofr e) (I.ok.noex b o e),I.base.free b o (I.ok.bs b o e).1 (I.ok.bs b o e).2 (I.ok.noex b o e)]
def Inv.bk (I:Inv X J Y H s):∀b o,X.base.get? b=ba o->s.heap.get? b=ba o:=λb o e=>(I.bs b o e).1
def Inv.mod (I:Inv X J Y H s):Mod X.K X.mg X.base:=I.ok.mod
def Inv.kIn (I:Inv X J Y H s):X.K.In s.heap:=I.ok.mod.kin.keeps I.bk
def Inv.lt (I:Inv X J Y H s):X.env.locals < s.heap.objs.size:=let ⟨_,hn,_⟩:=I.loc; hn.lt
def Inv.sz (I:Inv X J Y H s):X.s₀.heap.objs.size<=s.heap.objs.size:=JY I.ok.above (Nh I.lt)
def Inv.nofs (I:Inv X J Y H s){a:JA}(h:s.heap.objs.size<=a):a∉X.fs:=λhb=>by
 obtain⟨_,o,ho,_⟩:=I.ok.funs.mem hb;exact absurd (J4 (JN ho) (JY I.sz h)) (K8 _)
def Inv.cne (I:Inv X J Y H s):∀x c,X.env.cells.lookup x=ba c->c≠X.env.locals:=λx c e z=>by
 obtain⟨v,o,ho,hd⟩:=I.cell x c e;obtain⟨m,⟨o',es,ep,ho',hd',_⟩,_⟩:=I.loc;rw[z,ho']at ho; cases ho; rw[hd']at hd; cases hd
def Inv.funs (I:Inv X J Y H s):s.heap.FunFrames X.base X.outer:=by
 have all:∀(l:Jn QF),(∀b∈rD l,b∈X.fs)->X.s₀.heap.FunFrames X.base l->s.heap.FunFrames X.base l:=by
  intro l
  induction l with
  | nil=>intro _ _; trivial
  | cons env r ih=>
   intro hs hl;obtain⟨hk,⟨L,o,hf,hn,ho,hd⟩,hr⟩:=hl;have hL:L∈X.fs:=hs L (by unfold rD; rw[Nt,hf]; exact KT)
   obtain⟨sl,e⟩:=I.base.slot L o ho (I.ok.frf L hL) hL λz=>I.ok.exfs L z hL
   exact#[hk,#[L,_,hf,hn,e,hd],ih (λb hb=>hs b (by unfold rD; rw[Nt,hf]; exact KO _ hb)) hr]
 exact all X.outer (λ_ hb=>hb) I.ok.funs
def Inv.stack (I:Inv X J Y H s):s.heap.FunFrames X.base X.stack:=by
 rcases I.ok.stk with e|⟨e,hf⟩
 ·rw[e]; exact I.funs
 ·rw[e];obtain⟨m,hn,_⟩:=I.loc;refine .cons (by rw[I.ok.kind]; decide) hf hn ?_ I.funs
  exact Heap.get?_none_of_le (JY I.ok.bsz I.ok.above)
def Inv.stkSub (I:Inv X J Y H s):∀b∈rD X.stack,b∈X.env.locals::X.fs:=λb hb=>by
 rcases I.ok.stk with e|⟨e,hf⟩
 ·rw[e]at hb; exact KO _ hb
 ·rw[e]at hb;unfold rD at hb;rw[Nt,hf]at hb;exact hb
def Inv.stkFree (I:Inv X J Y H s):∀b∈rD X.stack,H b=gV:=λb hb=>by
 rcases JX.mp (I.stkSub b hb)with e|hb
 ·rw[e]; exact I.free
 ·obtain⟨_,o,ho,_⟩:=I.ok.funs.mem hb;exact I.base.free b o ho (I.ok.frf b hb) λz=>I.ok.exfs b z hb
def Inv.step {g':J8 PQ}{t':Jx}{d':TX}{ch:Jn JA}(I:Inv X J Y H s)
  (hch:∀b∈ch,(b∈X.ex\/X.s₀.heap.objs.size<=b)/\b≠X.env.locals/\(∀x c,X.env.cells.lookup x=ba c->c≠b)/\∀p∈X.pn++J,p.1≠b)
  (keep:∀b o,b≠X.env.locals->b∉X.fs->b∉ch->s.heap.get? b=ba o->H b=gV->h'.get? b=ba o)
  (slot:∀b o,b≠X.env.locals->b∈X.fs->b∉ch->s.heap.get? b=ba o->H b=gV->∃sl,h'.get? b=ba { o with slots:=sl }) (free:∀b o,b∉ch->s.heap.get? b=ba o->H b=gV->H' b=gV)
  (there:∀b o,b∉ch->s.heap.get? b=ba o->∃o',h'.get? b=ba o')
  (tups:∀b xs,H b=ba (.tup xs)->H' b=ba (.tup xs)) (frzs:∀b o u,H b=ba (.frz o u)->H' b=ba (.frz o u)) (tbls:∀b ps,H b=ba (.tbl ps)->∃more,H' b=ba (.tbl (ps++more)))
  (ns:∀m,s.heap.Ns X.env.locals m->h'.Ns X.env.locals m) (hok:HOk X.prog X.w H' h') (hg:OS g') :
  Inv X J Y H' { s with heap:=h',gens:=g',drawn:=d',toks:=t' }:=by
 have neL:∀b o,X.s₀.heap.get? b=ba o->b≠X.env.locals:=λb o e=>J0 (J4 (JN e) I.ok.above)
 have neC:∀b o,X.s₀.heap.get? b=ba o->b∉X.ex->b∉ch:=λb o e hx hb=>by
  rcases(hch b hb).1 with z|z
  ·exact hx z
  ·exact absurd (J4 (JN e) z) (K8 _)
 have cellK:∀x c,X.env.cells.lookup x=ba c->∀v,s.heap.IsCell c v->h'.IsCell c v:=λx c e v #[o,ho,hd]=>by
  have nch:c∉ch:=λz=>(hch c z).2.2.1 x c e rfl
  by_cases hc:c∈X.fs
  ·obtain⟨sl,q⟩:=slot c o (I.cne x c e) hc nch ho (I.freeC x c e);exact#[_,q,hd]
  ·exact#[o,keep c o (I.cne x c e) hc nch ho (I.freeC x c e),hd]
 refine#[I.ok,I.os,hg,#[λb o e n hb hx=>?_,λb o e n hb hx=>?_,λb o e n hx=>?_,λb o e hx=>?_,λb xs e=>tups b xs (I.base.tups b xs e),λb o xs e=>frzs b o xs (I.base.frzs b o xs e),λb ps e=>?_],?_,λx c e=>?_,?_,λx c e=>?_,λp hp=>?_,hok,I.len]
 ·exact keep b o (neL b o e) hb (neC b o e hx) (I.base.keep b o e n hb hx) (I.base.free b o e n hx)
 ·obtain⟨sl,e1⟩:=I.base.slot b o e n hb hx;obtain⟨sl',e2⟩:=slot b _ (neL b o e) hb (neC b o e hx) e1 (I.base.free b o e n hx);exact#[sl',e2]
 ·obtain⟨o',e1⟩:=I.base.there b o e hx;exact free b o' (neC b o e hx) e1 (I.base.free b o e n hx)
 ·obtain⟨o',e1⟩:=I.base.there b o e hx;exact there b o' (neC b o e hx) e1
 ·obtain⟨m1,e1⟩:=I.base.tbls b ps e;obtain⟨m2,e2⟩:=tbls b _ e1;exact#[m1++m2,by rw[e2,Qp]]
 ·obtain⟨m,hn,hl⟩:=I.loc;refine#[m,ns m hn,λi x v e1 e2 e3=>?_]
  obtain⟨u,r,l⟩:=hl i x v e1 e2 e3;refine#[u,r,?_];rcases l with l|⟨k,c,e,z⟩
  ·exact .inl l
  ·exact .inr #[k,c,e,cellK x c e _ z]
 ·obtain⟨v,z⟩:=I.cell x c e;exact#[v,cellK x c e v z]
 ·obtain⟨m,⟨o,_,_,ho,_⟩,_⟩:=I.loc;exact free _ o (λz=>(hch _ z).2.1 rfl) ho I.free
 ·obtain⟨v,o,ho,hd⟩:=I.cell x c e;exact free c o (λz=>(hch c z).2.2.1 x c e rfl) ho (I.freeC x c e)
 ·obtain⟨e,n,ne,nf,d⟩:=I.pin p hp;have nch:p.1∉ch:=λz=>(hch p.1 z).2.2.2 p hp rfl
  exact#[keep p.1 p.2 ne nf nch e n,free p.1 p.2 nch e n,ne,nf,d]
def Inv.un {t':Jx}(I:Inv X J Y H s)(u:Un X.fs [] H H' s.heap h')(hok:HOk X.prog X.w H' h'):Inv X J Y H' { s with heap:=h',toks:=t' }:=by
 obtain⟨m,⟨o,es,ep,ho,r⟩,_⟩:=id I.loc;obtain⟨sl,hL⟩:=u.any ho I.free (by simp)
 exact I.step (g':=s.gens) (d':=s.drawn) (ch:=[]) (λ_ z=>nomatch z) (λb o _ hb _ e n=>u.keep b o e n hb (by simp)) (λb o _ hb _ e n=>u.slot b o e n hb (by simp)) (λb o _ e n=>u.free b o e n (by simp)) (λb o _ e=>u.there b o e (by simp)) u.tups u.frzs u.tbls (λm' hm=>by
  obtain⟨o',es',ep',ho',r'⟩:=hm;rw[ho]at ho'; cases ho'
  exact#[_,es',ep',hL,r']) hok I.bare
def Inv.call {g':J8 PQ}{t':Jx}{d':TX}{ch:Jn JA}(I:Inv X J Y H s)(u:Un (rD X.stack) ch H H' s.heap h')(hok:HOk X.prog X.w H' h')(hg:OS g')
  (hch:∀b∈ch,(b∈X.ex\/X.s₀.heap.objs.size<=b)/\b≠X.env.locals/\(∀x c,X.env.cells.lookup x=ba c->c≠b)/\∀p∈X.pn++J,p.1≠b) :
  Inv X J Y H' { s with heap:=h',gens:=g',drawn:=d',toks:=t' }:=by
 obtain⟨m,⟨o,es,ep,ho,r⟩,_⟩:=id I.loc;obtain⟨sl,hL⟩:=u.any ho I.free λz=>(hch _ z).2.1 rfl
 exact I.step (ch:=ch) hch (λb o hL hb hc e n=>u.keep b o e n (λz=>(JX.mp (I.stkSub b z)).elim hL hb) hc) (λb o _ _ hc e n=>u.any e n hc) (λb o hc e n=>u.free b o e n hc) (λb o hc e=>u.there b o e hc) u.tups u.frzs u.tbls (λm' hm=>by
  obtain⟨o',es',ep',ho',r'⟩:=hm;rw[ho]at ho'; cases ho'
  exact#[_,es',ep',hL,r']) hok hg
def Inv.turned {t':Jx}{it:JA}(I:Inv X J Y H s)(k:∀b o,b≠it->s.heap.get? b=ba o->h'.get? b=ba o)(hn:H it=gV)(hL:it≠X.env.locals)
  (h1:it∈X.ex\/X.s₀.heap.objs.size<=it) (h2:∀x c,X.env.cells.lookup x=ba c->c≠it) (h3:∀p∈X.pn++J,p.1≠it):Inv X J Y H { s with heap:=h',toks:=t' }:=by
 have nit:∀b u,H b=ba u->b≠it:=λb u e z=>by rw[z,hn]at e; cases e
 refine I.step (g':=s.gens) (d':=s.drawn) (ch:=[it]) (λb hb=>?_) (λb o _ _ hc e _=>k b o (λz=>hc (by simp[z])) e) (λb o _ _ hc e _=>#[o.slots,k b o (λz=>hc (by simp[z])) e]) (λ_ _ _ _ n=>n)
  (λb o hc e=>#[o,k b o (λz=>hc (by simp[z])) e]) (λ_ _ e=>e) (λ_ _ _ e=>e) (λb ps e=>#[#[],by rw[e]; simp]) (λm hm=>?_) (λb u e=>?_) I.bare
 ·have e:b=it:=by simpa using hb
  subst e;exact#[h1,hL,h2,h3]
 ·obtain⟨o,es,ep,ho,r⟩:=hm;exact#[o,es,ep,k _ o (Ne.symm hL) ho,r]
 ·refine(I.hok b u e).stay (λc v hc q=>k c v ?_ q) (λ_ q=>q) λ_ _ q=>q
  rcases hc with z|z
  ·rw[z]; exact nit b u e
  ·exact nit c _ z
def Inv.tok (I:Inv X J Y H s)(t:Jx):Inv X J Y H { s with toks:=t }:=I.un (h':=s.heap) (t':=t) Un.refl I.hok
def Inv.kept {t':Jx}(I:Inv X J Y H s)(k:∀b u,s.heap.get? b=ba u->h'.get? b=ba u):Inv X J Y H { s with heap:=h',toks:=t' }:=I.un (Un.kept k) (I.hok.kept k)
def Inv.laid {a:JA}{o:HO}{t':Jx}(I:Inv X J Y H s)(k:∀b u,s.heap.get? b=ba u->h'.get? b=ba u)(hp:s.heap.objs.size<=a)(new:ObjOk X.prog X.w (br H a o) h' a o) :
  Inv X J Y (br H a o) { s with heap:=h',toks:=t' }:=I.un (Un.laid k hp (I.hok.fresh hp)) (I.hok.laid k hp new)
def Inv.write {x e:JA}{o:HO}{t':Jx}(I:Inv X J Y H s)(mu:E1 (H x))(he:e=x\/H e=ba (.own x))(k:∀b u,b≠e->s.heap.get? b=ba u->h'.get? b=ba u)(heo:∃u,h'.get? e=ba u)
  (new:ObjOk X.prog X.w (br H x o) h' x o):Inv X J Y (br H x o) { s with heap:=h',toks:=t' }:=I.un (Un.write mu he k heo) (I.hok.write mu he k heo new)
def Inv.pins_of {J':Jn (JA×Lo)}(I:Inv X J Y H s)(h:∀p∈J',s.heap.get? p.1=ba p.2/\H p.1=gV/\p.1≠X.env.locals/\p.1∉X.fs/\∀v,p.2.data≠.cell v):Inv X J' Y H s:=
 #[I.ok,I.os,I.bare,I.base,I.loc,I.cell,I.free,I.freeC,λp hp=>(Kd.mp hp).elim (λz=>I.pin p (KW _ z)) (h p),I.hok,I.len]
def pb {N:Jn JV}(hN:N.Nodup){i j:Jx}{x:JV}(a:N[i]?=ba x)(b:N[j]?=ba x):i=j:=by
 obtain⟨h1,e1⟩:=JF.mp a;obtain⟨h2,e2⟩:=JF.mp b;exact(LJ hN).mp (e1.trans e2.symm)
def u4 {tv:TY}{A:Kk}{E:Jr->Jt->Prop}{i:Jx}{x:JV}{v:V}{u:Jr}{Q:TZ->Jt->Prop}(I:Inv X J Y H s)(hN:X.N.Nodup)(hi:X.N[i]?=ba x)(hx:Ah X.env.scope x)(r:RelV v u)
  (h:∀s',Inv X J (Y.set i (ba v)) H s'->(∃a,LC a s.heap s'.heap/\(a=X.env.locals\/X.env.cells.lookup x=ba a))->Q () s') (hf:X.fn x=true\/X.env.scope.names.lookup x=ba .local):wpAny tv A (storeName X.env x u) Q E s:=by
 obtain⟨m,hn,hl⟩:=id I.loc;have hcls:(X.env.scope.kind==.class||(X.env.scope.kind==.module&&X.env.locals != X.env.globals))=false:=by rw[I.ok.kind]; rfl
 have hiσ:i < Y.length:=by rw[I.len]; exact(JF.mp hi).1
 have cne:=I.cne;have tracked:∀ {a:JA} {h':Kw},(∃o,s.heap.get? a=ba o/\H a=gV)->LC a s.heap h'->HOk X.prog X.w H h':=λ{a h'} ha hs b ob e=>by
  obtain⟨_,_,hfree⟩:=ha;refine(I.hok b ob e).stay (λc w' hc q=>(hs.2 c ?_).trans q) (λ_ q=>q) λ_ _ q=>q
  rintro rfl;rcases hc with rfl|hc
  ·rw[hfree]at e; cases e
  ·rw[hfree]at hc; cases hc
 rcases hx with hk|hk
 ·refine wpAny_storeName_local hk hn (λh' hn' hs=>?_) hcls
  obtain⟨oL,_,_,hoL,_⟩:=id hn;refine h _ #[I.ok,I.os,I.bare,#[λb o e n hb hx=>?_,λb o e n hb hx=>?_,I.base.free,λb o e hx=>?_,I.base.tups,I.base.frzs,I.base.tbls],#[_,hn',λj y v' e1 e2 e3=>?_],λy c e=>?_,I.free,I.freeC,λp hp=>?_,tracked #[oL,hoL,I.free] hs,by simpa using I.len] #[_,hs,.inl rfl]
  ·exact(hs.2 b (J0 (J4 (JN e) I.ok.above))).trans (I.base.keep b o e n hb hx)
  ·obtain⟨sl,e1⟩:=I.base.slot b o e n hb hx;exact#[sl,(hs.2 b (J0 (J4 (JN e) I.ok.above))).trans e1]
  ·obtain⟨o',e1⟩:=I.base.there b o e hx;exact#[o',(hs.2 b (J0 (J4 (JN e) I.ok.above))).trans e1]
  ·by_cases hj:j=i
   ·subst hj;rw[hi]at e1; cases e1
    rw[Pb hiσ]at e2;cases e2;exact#[u,r,.inl #[hk,by simp]]
   ·rw[PR (Ne.symm hj)]at e2;obtain⟨u',r',q⟩:=hl j y v' e1 e2 e3;refine#[u',r',?_];rcases q with⟨k,e⟩|⟨k,c,e,z⟩
    ·refine .inl #[k,?_];have:y≠x:=λe=>hj (pb hN e1 (e ▸ hi))
     simp[this,e]
    ·exact .inr #[k,c,e,z.sameBut hs (cne y c e)]
  ·obtain⟨w',z⟩:=I.cell y c e;exact#[w',z.sameBut hs (cne y c e)]
  ·obtain⟨e,n,ne,nf,d⟩:=I.pin p hp;exact#[(hs.2 p.1 ne).trans e,n,ne,nf,d]
 ·have hfn:X.fn x=true:=by
   rcases hf with z|z
   ·exact z
   ·rw[z]at hk; cases hk
  obtain⟨c,hc⟩:=I.ok.has x (.inl hk);obtain⟨w',z⟩:=I.cell x c hc;refine wpAny_storeName_cell I.ok.kind hk hc z (λh' hc' hs=>?_)
  obtain⟨oc,hoc,hocd⟩:=id z;refine h { s with heap:=h' } #[I.ok,I.os,I.bare,#[λb o e n hb hx=>?_,λb o e n hb hx=>?_,I.base.free,λb o e hx=>?_,I.base.tups,I.base.frzs,I.base.tbls],#[m,hn.sameBut hs (Ne.symm (cne x c hc)),λj y v' e1 e2 e3=>?_],λy c' e=>?_,I.free,I.freeC,λp hp=>?_,tracked #[oc,hoc,I.freeC x c hc] hs,by simpa using I.len] #[c,hs,.inr hc]
  ·exact(hs.2 b (J0 (J4 (JN e) (I.ok.cab x c hfn hc)))).trans (I.base.keep b o e n hb hx)
  ·obtain⟨sl,e1⟩:=I.base.slot b o e n hb hx;exact#[sl,(hs.2 b (J0 (J4 (JN e) (I.ok.cab x c hfn hc)))).trans e1]
  ·obtain⟨o',e1⟩:=I.base.there b o e hx;exact#[o',(hs.2 b (J0 (J4 (JN e) (I.ok.cab x c hfn hc)))).trans e1]
  ·by_cases hj:j=i
   ·subst hj;rw[hi]at e1; cases e1
    rw[Pb hiσ]at e2;cases e2;exact#[u,r,.inr #[.inl hk,c,hc,hc']]
   ·rw[PR (Ne.symm hj)]at e2;obtain⟨u',r',q⟩:=hl j y v' e1 e2 e3;refine#[u',r',?_];rcases q with q|⟨k,c',e,z'⟩
    ·exact .inl q
    ·refine .inr #[k,c',e,z'.sameBut hs ?_];rintro rfl;exact hj (pb hN e1 (I.ok.inj _ _ _ e hc ▸ hi))
  ·by_cases hcc:c'=c
   ·subst hcc; exact#[_,hc']
   ·obtain⟨w2,z2⟩:=I.cell y c' e;exact#[w2,z2.sameBut hs hcc]
  ·obtain⟨e,n,ne,nf,d⟩:=I.pin p hp;refine#[(hs.2 p.1 ?_).trans e,n,ne,nf,d];intro q;rw[q,hoc]at e;have q':oc=p.2:=KQ e;exact d w' (by rw[<- q']; exact hocd)
def iF {tv:TY}{A:Kk}{E:Jr->Jt->Prop}{i:Jx}{x:JV}{v:V}{u:Jr}{Q:TZ->Jt->Prop}(I:Inv X J Y H s)(hN:X.N.Nodup)(hi:X.N[i]?=ba x)(hx:Ah X.env.scope x)(r:RelV v u)
  (h:∀s',Inv X J (Y.set i (ba v)) H s'->Q () s') (hf:X.fn x=true\/X.env.scope.names.lookup x=ba .local):wpAny tv A (storeName X.env x u) Q E s:=
 u4 I hN hi hx r (λs' I' _=>h s' I') hf
def Inv.call' {s':Jt}{ch:Jn JA}(I:Inv X J Y H s)(ho:s'.os=s.os)(u:Un (rD X.stack) ch H H' s.heap s'.heap)(hok:HOk X.prog X.w H' s'.heap)(hg:OS s'.gens)
  (hch:∀b∈ch,(b∈X.ex\/X.s₀.heap.objs.size<=b)/\b≠X.env.locals/\(∀x c,X.env.cells.lookup x=ba c->c≠b)/\∀p∈X.pn++J,p.1≠b):Inv X J Y H' s':=by
 obtain⟨h',g',d',t',o'⟩:=s';have e:o'=s.os:=ho;subst e;exact I.call (g':=g') (t':=t') (d':=d') u hok hg hch
end
noncomputable abbrev XK:=Jr->Jw JA->Hp->Prop
noncomputable abbrev St:=Jn (Jw V)
noncomputable abbrev VK:=V->Hp->Prop
noncomputable abbrev TE:=St->Hp->VK->Prop
noncomputable abbrev TT:=St->Hp->(J6->Hp->Prop)->Prop
noncomputable abbrev TA:=St->Hp->(Jn V->Hp->Prop)->Prop
structure Ends where
 nx:St->Hp->Prop
 rt:VK
 bk:St->Hp->Prop:=λ_ _=>K5
 ct:St->Hp->Prop:=λ_ _=>K5
noncomputable abbrev TS:=Ends->St->Hp->Prop
inductive EP (X:Cx)(J:Jn (JA×Lo))(Y:St)(Q:VK)(u:Jr)(s':Jt):Prop
 | mk (v:V) (H':Hp) (i:Inv X J Y H' s') (r:RelV v u) (q:Q v H'):EP X J Y Q u s'
inductive TP (X:Cx)(J:Jn (JA×Lo))(Y:St)(Q:J6->Hp->Prop)(b:J6)(s':Jt):Prop
 | mk (H':Hp) (i:Inv X J Y H' s') (q:Q b H'):TP X J Y Q b s'
inductive AP (X:Cx)(J:Jn (JA×Lo))(Y:St)(Q:Jn V->Hp->Prop)(us:Jn Jr)(s':Jt):Prop
 | mk (vs:Jn V) (H':Hp) (i:Inv X J Y H' s') (r:Vals vs us) (q:Q vs H'):AP X J Y Q us s'
abbrev SP (X:Cx)(J:Jn (JA×Lo))(D:Ends)(f:Flow)(s':Jt):Prop:=
 match f with
 | .next=>∃Y' H',Inv X J Y' H' s'/\D.nx Y' H'
 | .brk=>∃Y' H',Inv X J Y' H' s'/\D.bk Y' H'
 | .cont=>∃Y' H',Inv X J Y' H' s'/\D.ct Y' H'
 | .ret u=>∃v Y' H',Inv X J Y' H' s'/\RelV v u/\D.rt v H'
abbrev PE (X:Cx)(e:J3)(t:TE):Prop:=
 ∀(J:Jn (JA×Lo)) (s:Jt) (Y:St) (H:Hp) (Q:VK),Inv X J Y H s->t Y H Q->wpAny (model X.prog X.w) X.A (eval e X.env) (EP X J Y Q) X.xe s
abbrev PT (X:Cx)(e:J3)(t:TT):Prop:=
 ∀(J:Jn (JA×Lo)) (s:Jt) (Y:St) (H:Hp) (Q:J6->Hp->Prop),Inv X J Y H s->t Y H Q->wpAny (model X.prog X.w) X.A (isTrue e X.env (eval e X.env)) (TP X J Y Q) X.xe s
abbrev PW (X:Cx)(e:J3)(t:TT):Prop:=
 ∀(whole:Td Jr) (J:Jn (JA×Lo)) (s:Jt) (Y:St) (H:Hp) (Q:J6->Hp->Prop),Inv X J Y H s->t Y H Q->wpAny (model X.prog X.w) X.A (isTrue e X.env whole) (TP X J Y Q) X.xe s
def PW.pt {X:Cx}{e:J3}{t:TT}(h:PW X e t):PT X e t:=h _
abbrev PA (X:Cx)(es:Jn J3)(t:TA):Prop:=
 ∀(pos:Mo) (J:Jn (JA×Lo)) (s:Jt) (Y:St) (H:Hp) (Q:Jn V->Hp->Prop),Inv X J Y H s->t Y H Q->wpAny (model X.prog X.w) X.A (spliced (backTo pos (starEach es X.env))) (AP X J Y Q) X.xe s
abbrev PS (X:Cx)(st:MK)(t:TS):Prop:=
 ∀(J:Jn (JA×Lo)) (s:Jt) (Y:St) (H:Hp) (D:Ends),Inv X J Y H s->t D Y H->wpAny (model X.prog X.w) X.A (exec st X.env) (SP X J D) X.xe s
abbrev PSs (X:Cx)(st:Jn MK)(t:TS):Prop:=
 ∀(J:Jn (JA×Lo)) (s:Jt) (Y:St) (H:Hp) (D:Ends),Inv X J Y H s->t D Y H->wpAny (model X.prog X.w) X.A (execs st X.env) (SP X J D) X.xe s
def bq {α:Type}{t:Td α}{Q Q':α->Jt->Prop}{tv:TY}{A:Kk}{E:Jr->Jt->Prop}{s:Jt}(h:wpAny tv A t Q E s)(hQ:∀a s,Q a s->Q' a s):wpAny tv A t Q' E s:=LH h hQ λ_ _ x=>x
section
variable{X:Cx}
abbrev CU (i:Jx):TE:=λY H Q=>∃v,Y[i]?=ba (ba v)/\Q v H
abbrev tC (v:V):TE:=λ_ H Q=>Q v H
def wH {i:Jx}{x:JV}{pos:Mo}(hN:X.N[i]?=ba x)(hv:G6 X.env.scope x)(hd:(x==("__debug__" : JV))=false:=by decide)(hcd:(x==("__classdict__" : JV))=false:=by decide):PE X (.Name x pos) (CU i):=by
 intro J s Y H Q I h;obtain⟨v,e,h⟩:=h;obtain⟨m,hn,hl⟩:=I.loc;obtain⟨u,r,l⟩:=hl i x v hN e hv;have fin:EP X J Y Q u s:=#[v,H,I,r,h];rcases l with⟨hk,hm⟩|⟨hk,c,hc,hcell⟩
 ·exact RL (wpAny_loadName_local I.ok.kind hk hn hm fin) hd
 ·rcases hk with hk|hk
  ·exact RL (wpAny_loadName_cell I.ok.kind hk hc hcell fin) hd
  ·exact RL (wpAny_loadName_free I.ok.kind hk hc hcell fin hcd) hd
def wI {i j pos}:PE X (.Constant (.int i) j pos) (tC (.int i)):=λ_ _ _ H _ I h=>wpAny_Constant_int #[.int i,H,I.tok _,#[_,rfl],h]
def Cn {b j pos}:PE X (.Constant (.bool b) j pos) (tC (.bl b)):=λ_ _ _ H _ I h=>Constant_bool #[.bl b,H,I,rfl,h]
def wJ {j pos}:PE X (.Constant .none j pos) (tC .non):=λ_ _ _ H _ I h=>Constant_none #[.non,H,I,rfl,h]
def wK {x j pos}:PE X (.Constant (.str x) j pos) (tC (.str x)):=λ_ _ _ H _ I h=>Qq #[.str x,H,I.tok _,#[_,rfl],h]
abbrev Gl (X:Cx)(x:JV):Prop:=X.env.kindOf x=ba .globalImplicit
def sV {E:Jr->Jt->Prop}{J:Jn (JA×Lo)}{s:Jt}{Y:St}{H:Hp}{x:JV}{u:Jr}{pos:Mo}{Q:Jr->Jt->Prop}(I:Inv X J Y H s)(hg:Gl X x)(hm:X.mg x=ba u)(h:Q u s)
  (hd:(x==("__debug__" : JV))=false:=by decide):wpAny (model X.prog X.w) X.A (eval (.Name x pos) X.env) Q E s:=
 Op I.ok.kind hg (Calls.loadGlobal_global (by rw[I.ok.glob]; exact I.mod.glob.keeps I.bk) hm h) hd
def hG {E:Jr->Jt->Prop}{J:Jn (JA×Lo)}{s:Jt}{Y:St}{H:Hp}{x:JV}{u:Jr}{pos:Mo}{Q:Jr->Jt->Prop}(I:Inv X J Y H s)(hg:Gl X x)(hm:X.mg x=gV)(hv:bootBuiltins x=ba u)(h:Q u s)
  (hn:x≠"__name__":=by decide) (hd:(x==("__debug__" : JV))=false:=by decide):wpAny (model X.prog X.w) X.A (eval (.Name x pos) X.env) Q E s:=by
 obtain⟨mb,h1,h2⟩:=I.mod.blt;exact Op I.ok.kind hg (Calls.loadGlobal_builtin (by rw[I.ok.glob]; exact I.mod.glob.keeps I.bk) hm (by rw[I.ok.blt]; exact h1.keeps I.bk) ((h2 x hn).trans hv) h) hd
def Ai {x:JV}{v:V}{u:Jr}{pos:Mo}(hg:Gl X x)(hm:X.mg x=gV)(hv:bootBuiltins x=ba u)(r:RelV v u)(hn:x≠"__name__":=by decide)(hd:(x==("__debug__" : JV))=false:=by decide):PE X (.Name x pos) (tC v):=
 λ_ _ _ H _ I h=>hG I hg hm hv #[v,H,I,r,h] hn hd
variable{a b:J3}{ta tb:TE}{pos:Mo}
variable{tA tB':TT}{bu:Jn J3}
abbrev E2 (t u:TT):TT:=λY H Q=>t Y H λc H1=>if c=true then u Y H1 Q else Q false H1
abbrev IN (t u:TT):TT:=λY H Q=>t Y H λc H1=>if c=true then Q true H1 else u Y H1 Q
abbrev Hj (t:TT):TT:=λY H Q=>t Y H λc H1=>Q (!c) H1
def Aj (ha:PT X a tA):PW X (.BoolOp .And [a] pos) tA:=by
 intro wh J s Y H Q I h;refine isTrue_and (bq (ha J s Y H Q I h) λc s1 e=>?_)
 cases c with
 | true=>exact isTrue_and_nil e
 | false=>exact e
def CV (ha:PT X a tA):PW X (.BoolOp .Or [a] pos) tA:=by
 intro wh J s Y H Q I h;refine isTrue_or (bq (ha J s Y H Q I h) λc s1 e=>?_)
 cases c with
 | false=>exact isTrue_or_nil e
 | true=>exact e
def CW (ha:PT X a tA)(hb:PW X (.BoolOp .And (b::bu) pos) tB'):PW X (.BoolOp .And (a::b::bu) pos) (E2 tA tB'):=by
 intro wh J s Y H Q I h;refine isTrue_and (bq (ha J s Y H _ I h) λc s1 #[H1,I1,q1]=>?_)
 cases c with
 | true=>exact hb wh J s1 Y H1 Q I1 q1
 | false=>exact#[H1,I1,q1]
def E3 (ha:PT X a tA)(hb:PW X (.BoolOp .Or (b::bu) pos) tB'):PW X (.BoolOp .Or (a::b::bu) pos) (IN tA tB'):=by
 intro wh J s Y H Q I h;refine isTrue_or (bq (ha J s Y H _ I h) λc s1 #[H1,I1,q1]=>?_)
 cases c with
 | true=>exact#[H1,I1,q1]
 | false=>exact hb wh J s1 Y H1 Q I1 q1
def CY (ha:PT X a tA):PT X (.UnaryOp .Not a pos) (Hj tA):=by
 intro J s Y H Q I h;exact isTrue_not (bq (ha J s Y H (λc H1=>Q (!c) H1) I h) λ_ _ #[H1,i,q]=>#[H1,i,q])
abbrev E4 (ta tb:TE):TE:=λY H Q=>ta Y H λx H1=>∃c,x=.bl c/\if c=true then tb Y H1 Q else Q (.bl false) H1
abbrev Hk (ta tb:TE):TE:=λY H Q=>ta Y H λx H1=>∃c,x=.bl c/\if c=true then Q (.bl true) H1 else tb Y H1 Q
abbrev E5 (ta:TE):TE:=λY H Q=>ta Y H λx H1=>∃c,x=.bl c/\Q (.bl (!c)) H1
def CZ {op}{t:TE}(h:PE X a t):PE X (.BoolOp op [a] pos) t:=λJ s Y H Q I hw=>BoolOp_one (h J s Y H Q I hw)
def C0 (ha:PE X a ta)(hb:PE X (.BoolOp .And (b::bu) pos) tb):PE X (.BoolOp .And (a::b::bu) pos) (E4 ta tb):=by
 intro J s Y H Q I h;refine BoolOp_and (bq (ha J s Y H _ I h) λv s1 #[x,H1,I1,r1,q1]=>?_)
 obtain⟨c,rfl,q1⟩:=q1;cases r1;refine L7 ?_;cases c with
 | true=>exact hb J s1 Y H1 Q I1 q1
 | false=>exact#[.bl false,H1,I1,rfl,q1]
def E6 (ha:PE X a ta)(hb:PE X (.BoolOp .Or (b::bu) pos) tb):PE X (.BoolOp .Or (a::b::bu) pos) (Hk ta tb):=by
 intro J s Y H Q I h;refine BoolOp_or (bq (ha J s Y H _ I h) λv s1 #[x,H1,I1,r1,q1]=>?_)
 obtain⟨c,rfl,q1⟩:=q1;cases r1;refine L7 ?_;cases c with
 | false=>exact hb J s1 Y H1 Q I1 q1
 | true=>exact#[.bl true,H1,I1,rfl,q1]
def C3 (ha:PE X a ta):PE X (.UnaryOp .Not a pos) (E5 ta):=by
 intro J s Y H Q I h;refine UnaryOp_ (bq (ha J s Y H _ I h) λv s1 #[x,H1,I1,r1,q1]=>?_)
 obtain⟨c,rfl,q1⟩:=q1;cases r1;exact not_of (L7 #[.bl (!c),H1,I1,rfl,q1])
abbrev Jc (t:TT)(ta tb:TE):TE:=λY H Q=>t Y H λc H1=>if c=true then ta Y H1 Q else tb Y H1 Q
def wL {c:J3}(hc:PT X c tA)(ha:PE X a ta)(hb:PE X b tb):PE X (.IfExp c a b pos) (Jc tA ta tb):=by
 intro J s Y H Q I h;refine wpAny_IfExp (bq (hc J s Y H _ I h) λd s1 #[H1,I1,q1]=>?_)
 cases d with
 | true=>exact ha J s1 Y H1 Q I1 q1
 | false=>exact hb J s1 Y H1 Q I1 q1
end
abbrev SqL (K:JH)(H:Hp)(a:JA)(xs:Jn V):Prop:=
 Rd H a (.lst xs)\/
  ∃(o:Lo) (its:J8 Jr) (n:Jx),K.lookup a=ba o/\o.cls=.type "list"/\o.dict=gV/\o.data=.seq its n/\its.size<=sizeLine/\Vals xs its.toList
abbrev SqT (K:JH)(H:Hp)(a:JA)(xs:Jn V):Prop:=
 Rd H a (.tup xs)\/
  ∃(o:Lo) (its:J8 Jr) (n:Jx),K.lookup a=ba o/\o.cls=.type "tuple"/\o.data=.seq its n/\its.size<=sizeLine/\Vals xs its.toList
abbrev Hl:Jr->Jw V
 | .none=>ba .non
 | .bool b=>ba (.bl b)
 | .int i _=>ba (.int i)
 | .str x _=>ba (.str x)
 | .bytes b _=>ba (.byt b)
 | .float b _=>ba (.flt b)
 | .ref a=>ba (.ref a)
 | .type n=>ba (.ty n)
 | _=>gV
def RelV.abs {x:V}{u:Jr}(r:RelV x u):Hl u=ba x:=by
 cases x with
 | non=>cases r; rfl
 | bl _=>cases r; rfl
 | int _=>obtain⟨t,rfl⟩:=r; rfl
 | str _=>obtain⟨t,rfl⟩:=r; rfl
 | byt _=>obtain⟨t,rfl⟩:=r; rfl
 | flt _=>obtain⟨t,rfl⟩:=r; rfl
 | ref _=>cases r; rfl
 | ty _=>cases r; rfl
def RelV.inj {x y:V}{u:Jr}(r:RelV x u)(q:RelV y u):x=y:=KQ (r.abs.symm.trans q.abs)
def Vals.inj:∀ {xs ys:Jn V} {us:Jn Jr},Vals xs us->Vals ys us->xs=ys
 | _,_,_,.nil,.nil=>rfl
 | _,_,_,.cons r t,.cons r' t'=>by rw[r.inj r',Vals.inj t t']
section
variable{X:Cx}{J:Jn (JA×Lo)}{Y:St}{H:Hp}{s:Jt}{a:JA}{xs ys:Jn V}
def SqL.of {K:JH}(h:H a=ba (.lst xs)):SqL K H a xs:=.inl (.inl h)
def SqT.of {K:JH}(h:H a=ba (.tup xs)):SqT K H a xs:=.inl (.inl h)
def Inv.list (I:Inv X J Y H s)(h:SqL X.K H a xs):∃its:Jn Jr,Vals xs its/\PlainL s.heap a its.toArray/\xs.length<=sizeLine:=by
 rcases h with h|⟨o,its,n,hk,hc,hd,hs,hz,r⟩
 ·obtain⟨z,its,n,r,e⟩:=h.ok I.hok;exact#[its,r,#[_,n,e,rfl,rfl,rfl],z]
 ·refine#[its.toList,r,#[o,n,I.kIn a o hk,hc,hd,by simpa using hs],?_]
  have e:=r.length;simp only[JS]at e;omega
def Inv.tuple (I:Inv X J Y H s)(h:SqT X.K H a xs):∃its:Jn Jr,Vals xs its/\QE s.heap a its.toArray/\xs.length<=sizeLine:=by
 rcases h with h|⟨o,its,n,hk,hc,hs,hz,r⟩
 ·obtain⟨z,its,r,p⟩:=h.ok I.hok;exact#[its,r,p,z]
 ·refine#[its.toList,r,#[o,I.kIn a o hk,hc,n,by simpa using hs],?_]
  have e:=r.length;simp only[JS]at e;omega
def Inv.list_inj (I:Inv X J Y H s)(h:SqL X.K H a xs)(h':SqL X.K H a ys):xs=ys:=by
 obtain⟨its,r,⟨o,n,e,_,_,d⟩,_⟩:=I.list h;obtain⟨its',r',⟨o',n',e',_,_,d'⟩,_⟩:=I.list h';rw[e]at e'; cases e'
 rw[d]at d';injection d' with d1 _
 have:its=its':=by simpa using congrArg SC d1
 subst this;exact r.inj r'
def Inv.tuple_inj (I:Inv X J Y H s)(h:SqT X.K H a xs)(h':SqT X.K H a ys):xs=ys:=by
 obtain⟨its,r,⟨o,e,_,n,d⟩,_⟩:=I.tuple h;obtain⟨its',r',⟨o',e',_,n',d'⟩,_⟩:=I.tuple h';rw[e]at e'; cases e'
 rw[d]at d';injection d' with d1 _
 have:its=its':=by simpa using congrArg SC d1
 subst this;exact r.inj r'
end
noncomputable abbrev Cx.wish (X:Cx)(E:Jr->Jt->Prop):Cx:={ X with xe:=E }
noncomputable abbrev Cx.nox (X:Cx):Cx:=X.wish λ_ _=>K5
def Cx.Ok.wish {X:Cx}(ok:X.Ok)(E:Jr->Jt->Prop):(X.wish E).Ok:=
 #[ok.mod,ok.kind,ok.glob,ok.blt,ok.above,ok.inj,ok.has,ok.cab,ok.hd,ok.frames,ok.stk,ok.exf,ok.bs,ok.bsz,ok.noex,ok.exfs,ok.funs,ok.frf]
def Cx.Ok.unwish {X:Cx}{E:Jr->Jt->Prop}(ok:(X.wish E).Ok):X.Ok:=
 #[ok.mod,ok.kind,ok.glob,ok.blt,ok.above,ok.inj,ok.has,ok.cab,ok.hd,ok.frames,ok.stk,ok.exf,ok.bs,ok.bsz,ok.noex,ok.exfs,ok.funs,ok.frf]
section
variable{X:Cx}{J:Jn (JA×Lo)}{Y:St}{H:Hp}{s:Jt}{E:Jr->Jt->Prop}
def Inv.wish (I:Inv X J Y H s)(E:Jr->Jt->Prop):Inv (X.wish E) J Y H s:=#[I.ok.wish E,I.os,I.bare,I.base,I.loc,I.cell,I.free,I.freeC,I.pin,I.hok,I.len]
def Inv.unwish (I:Inv (X.wish E) J Y H s):Inv X J Y H s:=#[I.ok.unwish,I.os,I.bare,I.base,I.loc,I.cell,I.free,I.freeC,I.pin,I.hok,I.len]
def SP.unwish {D:Ends}{f:Flow}{s':Jt}(h:SP (X.wish E) J D f s'):SP X J D f s':=by
 cases f with
 | next=>obtain⟨Y',H',I,q⟩:=h; exact#[Y',H',I.unwish,q]
 | brk=>obtain⟨Y',H',I,q⟩:=h; exact#[Y',H',I.unwish,q]
 | cont=>obtain⟨Y',H',I,q⟩:=h; exact#[Y',H',I.unwish,q]
 | ret u=>obtain⟨v,Y',H',I,r,q⟩:=h; exact#[v,Y',H',I.unwish,r,q]
def PSs.nox {st:Jn MK}{t:TS}(h:PSs X.nox st t):PSs X st t:=λJ s Y H D I hw=>
 LH (h J s Y H D (I.wish _) hw) (λ_ _ q=>q.unwish) λ_ _ z=>K5.elim z
end
section
variable{X:Cx}{st:MK}{bu:Jn MK}{t u:TS}{e:J3}{te:TE}{pos:Mo}
abbrev wM:TS:=λD Y H=>D.nx Y H
abbrev Hm (t u:TS):TS:=λD Y H=>t { D with nx:=u D } Y H
def Ak:PSs X [] wM:=λ_ _ Y H _ I h=>Po #[Y,H,I,h]
def wQ (h1:PS X st t)(h2:PSs X bu u):PSs X (st::bu) (Hm t u):=by
 intro J s Y H D I h;refine wpAny_execs_cons (bq (h1 J s Y H { D with nx:=u D } I h) λf s1 q=>?_)
 cases f with
 | next=>
  obtain⟨Y',H',I',q⟩:=q;exact h2 J s1 Y' H' D I' q
 | ret v=>exact q
 | brk=>exact q
 | cont=>exact q
def Al:PS X (.Pass pos) wM:=λ_ _ Y H _ I h=>wpAny_Pass #[Y,H,I,h]
def Inv.quiet {J:Jn (JA×Lo)}{Y:St}{H:Hp}{s:Jt}(I:Inv X J Y H s):interactive X.env=false:=by simp[interactive,I.ok.kind]
def C4 {x j pos pos'}:PS X (.Expr (.Constant (.str x) j pos) pos') wM:=λ_ s Y H _ I h=>wpAny_Expr (Qq (show SP X _ _ .next { s with toks:=s.toks+1 } from#[Y,H,I.tok _,h])) I.quiet
abbrev E7 (te:TE):TS:=λD Y H=>te Y H λ_ H1=>D.nx Y H1
def Am (he:PE X e te)(hs:swapsWith e gV pos.line X.env=pure false:=by rfl):PS X (.Expr e pos) (E7 te):=by
 intro J s Y H D I h;exact wpAny_Expr_any (bq (he J s Y H _ I h) λv s1 #[x,H1,I1,r1,q1]=>#[Y,H1,I1,q1]) I.quiet hs
abbrev Hn (te:TE):TS:=λD Y H=>te Y H D.rt
def C5 (he:PE X e te):PS X (.Return (ba e) pos) (Hn te):=by
 intro J s Y H D I h;exact wpAny_Return_some (bq (he J s Y H _ I h) λv s1 #[x,H1,I1,r1,q1]=>#[x,Y,H1,I1,r1,q1])
abbrev Ho (c:TT)(t u:TS):TS:=λD Y H=>c Y H λb H1=>if b=true then t D Y H1 else u D Y H1
def E8 {c:J3}{a b:Jn MK}{tc:TT}(hc:PT X c tc)(ha:PSs X a t)(hb:PSs X b u):PS X (.If c a b pos) (Ho tc t u):=by
 intro J s Y H D I h;refine wpAny_If (bq (hc J s Y H _ I h) λd s1 #[H1,I1,q1]=>?_)
 cases d with
 | true=>exact ha J s1 Y H1 D I1 q1
 | false=>exact hb J s1 Y H1 D I1 q1
end
noncomputable abbrev TG:=V->St->Hp->(St->Hp->Prop)->Prop
noncomputable abbrev C6:=Jn V->St->Hp->(St->Hp->Prop)->Prop
abbrev PG (X:Cx)(target:J3)(t:TG):Prop:=
 ∀(J:Jn (JA×Lo)) (s:Jt) (Y:St) (H:Hp) (v:V) (u:Jr) (Q:St->Hp->Prop),Inv X J Y H s->RelV v u->t v Y H Q->
  wpAny (model X.prog X.w) X.A (assign target X.env u) (λ_ s'=>∃Y' H',Inv X J Y' H' s'/\Q Y' H') X.xe s
abbrev E9 (X:Cx)(ts:Jn J3)(t:C6):Prop:=
 ∀(J:Jn (JA×Lo)) (s:Jt) (Y:St) (H:Hp) (vs:Jn V) (us:Jn Jr) (Q:St->Hp->Prop),Inv X J Y H s->Vals vs us->t vs Y H Q->
  wpAny (model X.prog X.w) X.A (assignInOrder ((assignEach ts X.env).map (·.2)) us) (λ_ s'=>∃Y' H',Inv X J Y' H' s'/\Q Y' H') X.xe s
noncomputable abbrev C7:=V->V->V->Hp->(Hp->Prop)->Prop
abbrev C8 (X:Cx)(t:C7):Prop:=
 ∀(J:Jn (JA×Lo)) (s:Jt) (Y:St) (H:Hp) (o i v:V) (ov iv u:Jr) (Q:Hp->Prop),Inv X J Y H s->RelV o ov->RelV i iv->RelV v u->t o i v H Q->
  wpAny (model X.prog X.w) X.A (setItem ov iv u) (λ_ s'=>∃H',Inv X J Y H' s'/\Q H') X.xe s
section
variable{X:Cx}{pos:Mo}
abbrev Fa (i:Jx):TG:=λv Y H Q=>Q (Y.set i (ba v)) H
def sW {i:Jx}{x:JV}(hN:X.N.Nodup)(hi:X.N[i]?=ba x)(hx:Ah X.env.scope x)(hf:X.fn x=true\/X.env.scope.names.lookup x=ba .local):PG X (.Name x pos) (Fa i):=by
 intro J s Y H v u Q I r h;exact QG (iF I hN hi hx r (λs' I'=>#[_,H,I',h]) hf)
abbrev Hq:C6:=λvs Y H Q=>vs=[]/\Q Y H
abbrev Fb (t:TG)(u:C6):C6:=λvs Y H Q=>∃v r,vs=v::r/\t v Y H λY' H'=>u r Y' H' Q
def An:E9 X [] Hq:=by
 intro J s Y H vs us Q I r h;obtain⟨e,h⟩:=h;subst e;cases r;exact QH #[Y,H,I,h]
def wR {e:J3}{es:Jn J3}{t:TG}{u:C6}(h1:PG X e t)(h2:E9 X es u)
  (hs:(assignEach (e::es) X.env).map (·.2)=assign e X.env::(assignEach es X.env).map (·.2):=by rfl):E9 X (e::es) (Fb t u):=by
 intro J s Y H vs us Q I r h;obtain⟨v,vr,e1,h⟩:=h;subst e1;cases r with
 | cons r rr=>
  rw[hs];refine Oq (bq (h1 J s Y H _ _ _ I r h) λ_ s1 #[Y1,H1,I1,q1]=>?_)
  exact h2 J s1 Y1 H1 _ _ Q I1 rr q1
abbrev Hr (K:JH)(n:Jx)(t:C6):TG:=λv Y H Q=>∃a xs,v=.ref a/\SqT K H a xs/\xs.length=n/\t xs Y H Q
def C9 {es:Jn J3}{k:Jx}{t:C6}{n:Jx}(hc:X.calm=true)(h:E9 X es t)
  (hn:(assignEach es X.env).length=n:=by rfl) (hst:(assignEach es X.env).findIdx? (·.1)=gV:=by rfl):PG X (.Tuple es k pos) (Hr X.K n t):=by
 intro J s Y H v u Q I r hw;obtain⟨a,xs,e1,hq,hl,hw⟩:=hw;subst e1;cases r;obtain⟨its,rv,ht,hz⟩:=I.tuple hq;refine assign_Tuple_tuple (I.ok.hd hc) ht (by simp[hn,<- hl,rv.length]) hst λh' hx=>?_
 have I1:Inv X J Y H { s with heap:=h' }:=I.kept (t':=s.toks) λb o e=>hx b o (J0 (JN e)) e
 exact h J _ Y H xs _ Q I1 (by simpa using rv) hw
abbrev Hs (to ti:TE)(t:C7):TG:=λv Y H Q=>to Y H λo H1=>ti Y H1 λi H2=>t o i v H2 λH3=>Q Y H3
def Da {o i:J3}{to ti:TE}{t:C7}(ho:PE X o to)(hi:PE X i ti)(hs:C8 X t)
  (ha:∀v,assign (.Subscript o i pos) X.env v=(do
   let ov <- holding [v] (eval o X.env)
   let iv <- holding [v,ov] (eval i X.env)
   standAt pos
   holding [v,ov,iv] (setItem ov iv v)
   release [v,ov,iv] []):=by intro _; rfl):PG X (.Subscript o i pos) (Hs to ti t):=by
 intro J s Y H v u Q I r h;rw[ha];refine Jo (KR (bq (ho J s Y H _ I h) λov s1 #[x,H1,I1,r1,q1]=>?_))
 refine Jo (KR (bq (hi J s1 Y H1 _ I1 q1) λiv s2 #[y,H2,I2,r2,q2]=>?_))
 refine Jo (N4 (Jo (KR (bq (hs J s2 Y H2 x y v ov iv u _ I2 r1 r2 r q2) λ_ s3 #[H3,I3,q3]=>?_))))
 exact wpAny_release #[Y,H3,I3,q3]
abbrev Ht (te:TE)(g:TG):TS:=λD Y H=>te Y H λx H1=>g x Y H1 D.nx
def Db {tg e:J3}{te:TE}{g:TG}(he:PE X e te)(hg:PG X tg g)(hs:swapsWithSole [tg] e pos.line X.env=pure false:=by rfl)(hw:swappedStores [tg] e X.env=pure gV:=by rfl)
  (h1:(assignEach [tg] X.env).map (·.2)=[assign tg X.env]:=by rfl):PS X (.Assign [tg] e pos) (Ht te g):=by
 intro J s Y H D I h;refine wpAny_Assign_stores (bq (he J s Y H _ I h) λv s1 #[x,H1,I1,r1,q1]=>?_) hs hw
 rw[h1];exact bq (hg J s1 Y H1 x v _ I1 r1 q1) λ_ s2 q=>q
abbrev Hu (i j:Jx)(ta:TA):TS:=λD Y H=>ta Y H λvs H1=>∃v w,vs=[v,w]/\D.nx ((Y.set i (ba v)).set j (ba w)) H1
def Dc {i j:Jx}{x y:JV}{a b:J3}{ta:TA}{px py pt:Mo}{kt k2 pt2}(hc:X.calm=true)(hN:X.N.Nodup)(hi:X.N[i]?=ba x)(hj:X.N[j]?=ba y)(hij:i≠j)
  (hx:X.env.scope.names.lookup x=ba .local) (hy:X.env.scope.names.lookup y=ba .local) (ha:PA X [a,b] ta)
  (hw:swappedStores [.Tuple [.Name x px,.Name y py] kt pt] (.Tuple [a,b] k2 pt2) X.env=pure (ba [x,y]))
  (hs:swapsWithSole [.Tuple [.Name x px,.Name y py] kt pt] (.Tuple [a,b] k2 pt2) pos.line X.env=pure false:=by rfl) :
  PS X (.Assign [.Tuple [.Name x px,.Name y py] kt pt] (.Tuple [a,b] k2 pt2) pos) (Hu i j ta):=by
 intro J s Y H D I h;rw[exec_Assign_arm];refine Jo (N4 ?_);rw[hs];refine Jo (Ju ?_);rw[Kb #v[]]
 refine Jo (Tuple_ (bq (ha _ J s Y H _ I h) λus s1 #[vs,H1,I1,r1,q1]=>?_))
 obtain⟨v,w,e1,q1⟩:=q1;subst e1;obtain⟨u1,u2,rfl,rv,rw'⟩ : ∃u1 u2,us=[u1,u2]/\RelV v u1/\RelV w u2:=by
  cases r1 with
  | cons p q=>
   cases q with
   | cons p' q'=>
    cases q';exact#[_,_,rfl,p,p']
 refine Kr ?_ (by show 2<=sizeLine; decide)
 have I2:Inv X J Y H1 { s1 with heap:=s1.heap.push { cls:=.type "tuple",data:=.seq [u1,u2].toArray } }:=I1.kept (t':=s1.toks) λb o e=>Jq _ e
 rw[hw];refine Jo (Ju ?_);show wpAny (model X.prog X.w) X.A (do rule "assign.swapped-stores"; let items <- unpackItems (.ref s1.heap.objs.size) 2 gV; assignInOrder [λv=>bindName X.env y v,λv=>bindName X.env x v] items.reverse; pure TH) _ _ _
 refine Jo (Os (Jo (unpackItems_tuple (items:=[u1,u2].toArray) (I.ok.hd hc) (Rb s1.heap _) λh' hx'=>?_)))
 have I3:=I2.kept (h':=h') (t':=s1.toks) λb o e=>hx' b o (J0 (JN e)) e
 show wpAny _ _ (assignInOrder [λv=>bindName X.env y v,λv=>bindName X.env x v] [u2,u1] >>= λ_=>pure TH) _ _ _
 refine Jo (Oq (RM (iF I3 hN hj (.inl hy) rw' (λs2 I4=>?_) (.inr hy))))
 refine Oq (RM (iF I4 hN hi (.inl hx) rv (λs3 I5=>QH (Ju ?_)) (.inr hx)))
 rw[List.set_comm _ _ (Ne.symm hij)]at I5;exact#[_,H1,I5,q1]
end
section
variable{X:Cx}{pos:Mo}
abbrev De (c:TT)(tb:TS):TS:=λD Y H=>∃W:Jx->St->Hp->Prop,(∃m,W m Y H)/\∀m Y H,W m Y H->
 c Y H λb H1=>if b=true then ∃N:St->Hp->Prop,(∀Y' H',N Y' H'->∃m',m' < m/\W m' Y' H')/\tb { D with nx:=N,ct:=N,bk:=D.nx } Y H1 else D.nx Y H1
def wW {c:J3}{body:Jn MK}{tc:TT}{tb:TS}(hp:P9 (model X.prog X.w) X.A X.env X.xe)(hc:PT X c tc)(hb:PSs X body tb):PS X (.While c body [] pos) (De tc tb):=by
 intro J s Y H D I h;obtain⟨W,⟨m0,w0⟩,turn⟩:=h;refine wpAny_While (codeAny_whileLoop (λn s'=>∃Y' H',Inv X J Y' H' s'/\W n Y' H') ?_ m0 #[Y,H,I,w0])
 rintro n s1 ⟨Y1,H1,I1,w1⟩;refine Mx hp (bq (hc J s1 Y1 H1 _ I1 (turn n Y1 H1 w1)) λb s2 #[H2,I2,q2]=>?_)
 cases b with
 | true=>
  obtain⟨N,hN,q2⟩:=q2;rw[JZ rfl];refine Mx hp (bq (hb J s2 Y1 H2 _ I2 q2) λf s3 q3=>?_)
  cases f with
  | next=>
   obtain⟨Y3,H3,I3,n3⟩:=q3;obtain⟨m',hm,w3⟩:=hN Y3 H3 n3;exact#[m',hm,Y3,H3,I3,w3]
  | cont=>
   obtain⟨Y3,H3,I3,n3⟩:=q3;obtain⟨m',hm,w3⟩:=hN Y3 H3 n3;exact#[m',hm,Y3,H3,I3,w3]
  | brk=>exact q3
  | ret v=>exact q3
 | false=>
  rw[Kb J1];exact Po #[Y1,H2,I2,q2]
end
structure It where
 go:Jx->Hp->Prop
 yld:Jx->Hp->V->Hp->Prop
 stop:Jx->Hp->Prop
abbrev hW (X:Cx)(J:Jn (JA×Lo))(H:Hp)(b:JA):Prop:=
 H b=gV/\b≠X.env.locals/\b∉X.fs/\(b∈X.ex\/X.s₀.heap.objs.size<=b)/\(∀x c,X.env.cells.lookup x=ba c->c≠b)/\∀p∈X.pn++J,p.1≠b
def Inv.fpOk {X:Cx}{J:Jn (JA×Lo)}{Y:St}{H H':Hp}{s:Jt}{b:JA}(I:Inv X J Y H s)(hb:s.heap.objs.size<=b)(hn:H' b=gV):hW X J H' b:=by
 refine#[hn,Lm (J4 I.lt hb),I.nofs hb,.inr (JY I.sz hb),λx c e z=>?_,λp hp z=>?_]
 ·obtain⟨v,q⟩:=I.cell x c e;exact absurd (J4 q.lt (by rw[z]; exact hb)) (K8 _)
 ·exact absurd (J4 (JN (I.pin p hp).1) (by rw[z]; exact hb)) (K8 _)
structure Turn (P:Kh)(w:Km)(K:JH)(tg:J3)(td:It)(fp:Jn JA)(it:JA)(tn:Jx->Kw->Prop):Prop where
 mem:it∈fp
 obj:∀i h,tn i h->∀b∈fp,∃o,h.get? b=ba o/\∀v,o.data≠.cell v
 keep:∀i h h',tn i h->(∀b∈fp,∀o,h.get? b=ba o->h'.get? b=ba o)->tn i h'
 item:∀(X:Cx),X.prog=P->X.w=w->X.K=K->X.calm=true->∀(i:Jx) (J:Jn (JA×Lo)) (s:Jt) (Y:St) (H:Hp) (E:Jr->Jt->Prop),Inv X J Y H s->(∀b∈fp,hW X J H b)->tn i s.heap->td.go i H->
  wpAny (model P w) X.A (pyNext (.ref it)) (λr s1=>∃u,r=ba u/\
   wpAny (model P w) X.A (letOwnedTupleGo tg (.ref it) u) (λ_ s2=>∃x H',Inv X J Y H' s2/\RelV x u/\td.yld i H x H'/\tn (i+1) s2.heap/\∀b∈fp,H' b=gV) E s1) E s
 done:∀(X:Cx),X.prog=P->X.w=w->X.K=K->X.calm=true->∀(i:Jx) (J:Jn (JA×Lo)) (s:Jt) (Y:St) (H:Hp) (E:Jr->Jt->Prop),Inv X J Y H s->(∀b∈fp,hW X J H b)->tn i s.heap->td.stop i H->
  wpAny (model P w) X.A (pyNext (.ref it)) (λr s1=>r=gV/\Inv X J Y H s1) E s
 self:∀(A:Kk) (i:Jx) (s:Jt) (Q:Jr->Jt->Prop) (E:Jr->Jt->Prop),tn i s.heap->Q (.ref it) s->wpAny (model P w) A (pyIter (.ref it)) Q E s
noncomputable abbrev TI:=St->Hp->(It->Hp->Prop)->Prop
abbrev Fc (X:Cx)(J:Jn (JA×Lo))(Y:St)(tg:J3)(R:It->Hp->Prop)(itv:Jr)(s2:Jt):Prop:=
 ∃(it:JA) (fp:Jn JA) (tn:Jx->Kw->Prop) (td:It) (H':Hp),itv=.ref it/\Inv X J Y H' s2/\Turn X.prog X.w X.K tg td fp it tn/\tn 0 s2.heap/\(∀b∈fp,hW X J H' b)/\R td H'
abbrev PI (X:Cx)(tg iter:J3)(wi:TI):Prop:=
 ∀(J:Jn (JA×Lo)) (s:Jt) (Y:St) (H:Hp) (R:It->Hp->Prop),Inv X J Y H s->wi Y H R->
  wpAny (model X.prog X.w) X.A (eval iter X.env) (λv s1=>wpAny (model X.prog X.w) X.A (pyIter v) (Fc X J Y tg R) X.xe s1) X.xe s
def sX {tv:TY}{A:Kk}{E:Jr->Jt->Prop}{s:Jt}{tg:J3}{it:JA}{u:Jr}{o:Lo}{n:Lc}{vs:J8 Jr}{Q:TZ->Jt->Prop}(ho:s.heap.get? it=ba o)(hc:o.cls=.type n)(hd:o.data=.fields vs)
    (hn:["enumerate","zip","dict_itemiterator","dict_reverseitemiterator","odict_iterator","itertools.zip_longest","itertools.pairwise"].contains n=false) (hQ:Q () s):wpAny tv A (letOwnedTupleGo tg (.ref it) u) Q E s:=by
  unfold letOwnedTupleGo;cases tg <;> first
    | exact Ju hQ
    | (cases u <;> first
        | exact Ju hQ
        | (refine Jo (Pc ho ?_)
           rw[hc,hd];show wpAny tv A (if (["enumerate","zip","dict_itemiterator","dict_reverseitemiterator","odict_iterator","itertools.zip_longest","itertools.pairwise"].contains n&&vs[0]?==ba (rawInt _))=true then _ else _) Q E s
           rw[Kb (by intro h; rw[hn,Bool.false_and]at h; cases h)]
           exact Ju hQ))
abbrev Hv (K:JH)(a:JA):It:=
 #[λi H=>∃xs x,SqL K H a xs/\xs[i]?=ba x,λi H x H'=>H'=H/\∀xs,SqL K H a xs->xs[i]?=ba x,λi H=>∃xs,SqL K H a xs/\xs.length<=i]
abbrev EO (K:JH)(a:JA):It:=
 #[λi H=>∃xs x,SqT K H a xs/\xs[i]?=ba x,λi H x H'=>H'=H/\∀xs,SqT K H a xs->xs[i]?=ba x,λi H=>∃xs,SqT K H a xs/\xs.length<=i]
abbrev Fd (lo:JI)(n:Jx):It:=#[λi _=>i < n,λi H x H'=>H'=H/\x=.int (lo+i),λi _=>n<=i]
def u5 {P:Kh}{w:Km}{K:JH}{tg:J3}(a it:JA):Turn P w K tg (Hv K a) [it] it (λi h=>h.IsListIter it a i) where
 mem:=by simp
 obj:=λi h st b hb=>by
  have e:b=it:=by simpa using hb
  subst e;obtain⟨o,e,c,d⟩:=st;exact#[o,e,λv z=>by rw[d]at z; cases z]
 keep:=λi h h' st k=>st.at λo e=>k it (by simp) o e
 item:=by
  intro X hP hw hK hc i J s Y H E I hf st hg;subst hP hw hK;obtain⟨xs,x,hq,hx⟩:=hg;obtain⟨its,rv,p,hz⟩:=I.list hq;obtain⟨u,hu,ru⟩:=rv.get hx;obtain⟨f0,f1,f2,f3,f4,f5⟩:=hf it (by simp)
  refine wpAny_pyNext_list_item st p.isList (x:=u) (by simpa using hu) λh' st' sb=>?_
  have I1:Inv X J Y H { s with heap:=h' }:=I.turned (t':=s.toks) (λb o hb e=>(sb.2 b hb).trans e) f0 f1 f3 f4 f5
  obtain⟨o,e,c,d⟩:=id st';exact#[u,rfl,sX (s:={ s with heap:=h' }) e c d #v[] #[x,H,I1,ru,#[rfl,λys hy=>by rw[I.list_inj hy hq]; exact hx],st',λb hb=>(hf b hb).1]]
 done:=by
  intro X hP hw hK hc i J s Y H E I hf st hg;subst hP hw hK;obtain⟨xs,hq,hx⟩:=hg;obtain⟨its,rv,p,hz⟩:=I.list hq;obtain⟨f0,f1,f2,f3,f4,f5⟩:=hf it (by simp)
  have hl:=rv.length;exact wpAny_pyNext_list_end (I.ok.hd hc) st p.isList (by simp; omega) λh' eb=>#[rfl,I.turned (t':=s.toks) (λb o hb e=>eb b o hb e) f0 f1 f3 f4 f5]
 self:=λ_ _ _ _ _ st h=>wpAny_pyIter_listiter st h
def rE {P:Kh}{w:Km}{K:JH}{tg:J3}(a it:JA):Turn P w K tg (EO K a) [it] it (λi h=>h.IsTupleIter it a i) where
 mem:=by simp
 obj:=λi h st b hb=>by
  have e:b=it:=by simpa using hb
  subst e;obtain⟨o,e,c,d⟩:=st;exact#[o,e,λv z=>by rw[d]at z; cases z]
 keep:=λi h h' st k=>st.at λo e=>k it (by simp) o e
 item:=by
  intro X hP hw hK hc i J s Y H E I hf st hg;subst hP hw hK;obtain⟨xs,x,hq,hx⟩:=hg;obtain⟨its,rv,p,hz⟩:=I.tuple hq;obtain⟨u,hu,ru⟩:=rv.get hx;obtain⟨f0,f1,f2,f3,f4,f5⟩:=hf it (by simp)
  refine wpAny_pyNext_tuple_item st (show s.heap.IsTuple a its.toArray from p) (x:=u) (by simpa using hu) λh' st' sb=>?_
  have I1:Inv X J Y H { s with heap:=h' }:=I.turned (t':=s.toks) (λb o hb e=>(sb.2 b hb).trans e) f0 f1 f3 f4 f5
  obtain⟨o,e,c,d⟩:=id st';exact#[u,rfl,sX (s:={ s with heap:=h' }) e c d #v[] #[x,H,I1,ru,#[rfl,λys hy=>by rw[I.tuple_inj hy hq]; exact hx],st',λb hb=>(hf b hb).1]]
 done:=by
  intro X hP hw hK hc i J s Y H E I hf st hg;subst hP hw hK;obtain⟨xs,hq,hx⟩:=hg;obtain⟨its,rv,p,hz⟩:=I.tuple hq;obtain⟨f0,f1,f2,f3,f4,f5⟩:=hf it (by simp)
  have hl:=rv.length;exact wpAny_pyNext_tuple_end (I.ok.hd hc) st (show s.heap.IsTuple a its.toArray from p) (by simp; omega) λh' eb=>#[rfl,I.turned (t':=s.toks) (λb o hb e=>eb b o hb e) f0 f1 f3 f4 f5]
 self:=λ_ _ _ _ _ st h=>wpAny_pyIter_tupleiter st h
def rF {P:Kh}{w:Km}{K:JH}{tg:J3}(it:JA)(lo:JI)(n:Jx):Turn P w K tg (Fd lo n) [it] it (λi h=>SQ h it (lo+(i:Jx)*1) ((n:JI) - (i:Jx)) 1) where
 mem:=by simp
 obj:=λi h st b hb=>by
  have e:b=it:=by simpa using hb
  subst e;exact#[_,st,λv z=>by
   have z':Data.fields _=Data.cell v:=z;cases z']
 keep:=λi h h' st k=>k it (by simp) _ st
 item:=by
  intro X hP hw hK hc i J s Y H E I hf st hg;subst hP hw hK;obtain⟨f0,f1,f2,f3,f4,f5⟩:=hf it (by simp)
  have W:=Walks.range (prog:=X.prog) (w:=X.w) (I.ok.hd hc) it lo 1 n;refine W.item i s _ _ hg st λv h' tk hv st' kk=>?_
  obtain⟨t,rfl⟩:=hv;have I1:Inv X J Y H { s with heap:=h',toks:=tk }:=I.turned (λb o hb e=>kk b o (by simpa using hb) e) f0 f1 f3 f4 f5
  refine#[_,rfl,sX (s:={ s with heap:=h',toks:=tk }) (n:="range_iterator") st' rfl rfl #v[] #[.int (lo+i),H,I1,#[t,?_],#[rfl,rfl],st',λb hb=>(hf b hb).1]]
  rw[Int.mul_one]
 done:=by
  intro X hP hw hK hc i J s Y H E I hf st hg;subst hP hw hK;obtain⟨f0,f1,f2,f3,f4,f5⟩:=hf it (by simp)
  exact wpAny_pyNext_range_end (I.ok.hd hc) st (by have:n<=i:=hg; omega) λh' eb=>#[rfl,I.turned (t':=s.toks) (λb o hb e=>eb b o hb e) f0 f1 f3 f4 f5]
 self:=λ_ _ _ _ _ st h=>wpAny_pyIter_rangeiter st h
section
variable{X:Cx}{tg:J3}
def pc {J:Jn (JA×Lo)}{Y:St}{H:Hp}{s:Jt}{R:It->Hp->Prop}{E:Jr->Jt->Prop}{lo hi:JI}{t u v:Ua}{tk:Jx}(I:Inv X J Y H s)(h1 : -(2 ^ 62)<=lo)(h2:lo < 2 ^ 62)(h3 : -(2 ^ 62)<=hi)(h4:hi < 2 ^ 62)
  (q:R (Fd lo (hi - lo).toNat) H):wpAny (model X.prog X.w) X.A (pyIter (.ref s.heap.objs.size)) (Fc X J Y tg R) E { s with heap:=s.heap.push { cls:=.type "range",data:=.fields [.int lo t,.int hi u,.int 1 v].toArray },toks:=tk }:=by
 refine wpAny_pyIter_range (IsRange.new ..) (Sy h1 h2 h3 h4) ?_;have I1:Inv X J Y H { s with heap:=s.heap.push { cls:=.type "range",data:=.fields [.int lo t,.int hi u,.int 1 v].toArray },toks:=tk }:=I.kept λb o e=>Jq _ e
 refine#[(s.heap.push { cls:=.type "range",data:=.fields [.int lo t,.int hi u,.int 1 v].toArray }).objs.size,[(s.heap.push { cls:=.type "range",data:=.fields [.int lo t,.int hi u,.int 1 v].toArray }).objs.size],_,_,H,rfl,
  I1.kept (t':=tk) λb o e=>Jq _ e,rF _ lo (hi - lo).toNat,?_,λb hb=>?_,q]
 ·have e1:lo+((0:Jx):JI)*1=lo:=by simp
  have e2:(((hi - lo).toNat:Jx):JI) - ((0:Jx):JI)=LK lo hi 1:=by rw[Qg]; split <;> omega
  show SQ _ _ (lo+((0:Jx):JI)*1) ((((hi - lo).toNat:Jx):JI) - ((0:Jx):JI)) 1;rw[e1,e2];exact JJ _ rfl
 ·have e:b=(s.heap.push { cls:=.type "range",data:=.fields [.int lo t,.int hi u,.int 1 v].toArray }).objs.size:=by simpa using hb
  subst e;exact I1.fpOk (JB _) (I1.hok.fresh (JB _))
abbrev Fe (ta:TA):TI:=λY H R=>ta Y H λvs H1=>∃j:JI,vs=[.int j]/\-(2 ^ 62)<=j/\j < 2 ^ 62/\R (Fd 0 j.toNat) H1
abbrev iRng2 (ta:TA):TI:=λY H R=>ta Y H λvs H1=>∃i j:JI,vs=[.int i,.int j]/\(-(2 ^ 62)<=i/\i < 2 ^ 62/\-(2 ^ 62)<=j/\j < 2 ^ 62)/\R (Fd i (j - i).toNat) H1
def u6 {a:J3}{ta:TA}{p pos:Mo}(hg:Gl X "range")(hm:X.mg "range" = gV)(ha:PA X [a] ta)(hs:starEach [a] X.env=[(false,eval a X.env)]:=by rfl):PI X tg (.Call (.Name "range" p) [a] [] pos) (Fe ta):=by
 intro J s Y H R I h;refine T0 (hG I hg hm boot_range (LN (bq (ha pos J s Y H _ I h) λus s1 #[vs,H1,I1,r1,q1]=>?_) hs rfl))
 obtain⟨j,e,q1,q2,q⟩:=q1;subst e;cases r1 with
 | cons r rr=>
  cases rr;obtain⟨t,rfl⟩:=r;exact SD (pc I1 ∅ ∅ q1 q2 (by simpa using q))
def u7 {a b:J3}{ta:TA}{p pos:Mo}(hg:Gl X "range")(hm:X.mg "range" = gV)(ha:PA X [a,b] ta)(hs:starEach [a,b] X.env=[(false,eval a X.env),(false,eval b X.env)]:=by rfl)(hs2:starEach [b] X.env=[(false,eval b X.env)]:=by rfl) :
  PI X tg (.Call (.Name "range" p) [a,b] [] pos) (iRng2 ta):=by
 intro J s Y H R I h;refine T0 (hG I hg hm boot_range (LN (bq (ha pos J s Y H _ I h) λus s1 #[vs,H1,I1,r1,q1]=>?_) (by rw[hs,hs2]) (by rw[hs2]; rfl)))
 obtain⟨i,j,e,⟨q1,q2,q3,q4⟩,q⟩:=q1;subst e;cases r1 with
 | cons r rr=>
  cases rr with
  | cons r' rr=>
   cases rr;obtain⟨t,rfl⟩:=r;obtain⟨t',rfl⟩:=r';exact call_range_2 (pc I1 q1 q2 q3 q4 q)
abbrev Hw (wi:TI)(g:TG)(tb:TS):TS:=λD Y H=>wi Y H λtd H1=>∃W:Jx->Jx->St->Hp->Prop,(∃m,W 0 m Y H1)/\∀i m Y H,W i m Y H->
 (td.stop i H/\D.nx Y H)\/(td.go i H/\∃N:St->Hp->Prop,(∀Y' H',N Y' H'->∃m',m' < m/\W (i+1) m' Y' H')/\∀x H',td.yld i H x H'->g x Y H' λY2 H2=>tb { D with nx:=N,ct:=N,bk:=D.nx } Y2 H2)
abbrev ji (fp:Jn JA)(h:Kw):Jn (JA×Lo):=fp.filterMap λb=>(h.get? b).map λo=>(b,o)
def fG {fp:Jn JA}{h:Kw}{b:JA}{o:Lo}(hb:b∈fp)(e:h.get? b=ba o):(b,o)∈ji fp h:=Ot.mpr #[b,hb,by rw[e]; rfl]
def u8 {fp:Jn JA}{h:Kw}{p:JA×Lo}(hp:p∈ji fp h):p.1∈fp/\h.get? p.1=ba p.2:=by
 obtain⟨b,hb,e⟩:=Ot.mp hp;cases q:h.get? b with
 | none=>rw[q]at e; cases e
 | some o=>
  rw[q]at e;have e':(b,o)=p:=KQ e;subst e';exact#[hb,q]
def Inv.pinned {J:Jn (JA×Lo)}{Y:St}{H:Hp}{s:Jt}{fp:Jn JA}(I:Inv X J Y H s)(hf:∀b∈fp,hW X J H b)(ho:∀b∈fp,∃o,s.heap.get? b=ba o/\∀v,o.data≠.cell v):Inv X (J++ji fp s.heap) Y H s:=
 I.pins_of λp hp=>(Kd.mp hp).elim (λz=>I.pin p (Kg _ z)) λz=>by
  obtain⟨hb,e⟩:=u8 z;obtain⟨f0,f1,f2,_⟩:=hf p.1 hb;obtain⟨o,e',d⟩:=ho p.1 hb;rw[e]at e'; cases e'
  exact#[e,f0,f1,f2,d]
def Inv.unpinned {J pl:Jn (JA×Lo)}{Y:St}{H:Hp}{s:Jt}(I:Inv X (J++pl) Y H s):Inv X J Y H s:=I.pins_of λp hp=>I.pin p (Kg _ (KW _ hp))
def Dg {iter:J3}{body:Jn MK}{wi:TI}{g:TG}{tb:TS}{pos:Mo}(hp:P9 (model X.prog X.w) X.A X.env X.xe)(hc:X.calm=true)(hi:PI X tg iter wi)(hg:PG X tg g)(hb:PSs X body tb)
  (hs:∀x,foldedSetIterable iter X.env x=pure x:=by intro _; rfl):PS X (.For tg iter body [] pos) (Hw wi g tb):=by
 intro J s Y H D I h;refine wpAny_For (bq (hi J s Y H _ I h) λv s1 h1=>bq h1 λitv s2 h2=>?_) hs
 obtain⟨it,fp,tn,td,H2,e,I2,T,aK,f2,W,⟨m0,w0⟩,turn⟩:=h2;subst e;have stat:∀ {H':Hp},(∀b∈fp,H' b=gV)->∀b∈fp,hW X J H' b:=λhn b hb=>#[hn b hb,(f2 b hb).2]
 refine codeAny_forLoop_any (λn s'=>∃i Y' H',Inv X J Y' H' s'/\tn i s'.heap/\(∀b∈fp,H' b=gV)/\W i n Y' H') ?_ m0 #[0,Y,H2,I2,aK,λb hb=>(f2 b hb).1,w0]
 rintro n s3 ⟨i,Y3,H3,I3,st3,fr3,w3⟩;rcases turn i n Y3 H3 w3 with⟨stop,qn⟩|⟨go,N,hN,step⟩
 ·refine Mx hp (bq (T.done X rfl rfl rfl hc i J s3 Y3 H3 X.xe I3 (stat fr3) st3 stop) λr s4 #[hr,I4]=>?_)
  subst hr;exact Po #[Y3,H3,I4,qn]
 ·refine Mx hp (bq (T.item X rfl rfl rfl hc i J s3 Y3 H3 X.xe I3 (stat fr3) st3 go) λr s4 #[u,hr,h4]=>?_)
  subst hr;refine Mx hp (bq h4 λ_ s5 #[x,H5,I5,r5,y5,st5,fr5]=>?_)
  have I5':=I5.pinned (stat fr5) (T.obj _ _ st5);refine Mx hp (bq (hg _ s5 Y3 H5 x u _ I5' r5 (step x H5 y5)) λ_ s6 #[Y6,H6,I6,q6]=>?_)
  refine Mx hp (bq (hb _ s6 Y6 H6 _ I6 q6) λf s7 q7=>?_)
  have again:∀ {Y7:St} {H7:Hp},Inv X (J++ji fp s5.heap) Y7 H7 s7->N Y7 H7->∃m,m < n/\∃i Y' H',Inv X J Y' H' s7/\tn i s7.heap/\(∀b∈fp,H' b=gV)/\W i m Y' H':=λ{Y7 H7} I7 n7=>by
   obtain⟨m',hm,w7⟩:=hN Y7 H7 n7;refine#[m',hm,i+1,Y7,H7,I7.unpinned,T.keep _ _ _ st5 λb hb o e=>(I7.pin (b,o) (Kg _ (Kg _ (fG hb e)))).1,λb hb=>?_,w7]
   obtain⟨o,e,d⟩:=T.obj _ _ st5 b hb;exact(I7.pin (b,o) (Kg _ (Kg _ (fG hb e)))).2.1
  cases f with
  | next=>obtain⟨Y7,H7,I7,n7⟩:=q7; exact again I7 n7
  | cont=>obtain⟨Y7,H7,I7,n7⟩:=q7; exact again I7 n7
  | brk=>obtain⟨Y7,H7,I7,q7⟩:=q7; exact#[Y7,H7,I7.unpinned,q7]
  | ret v=>obtain⟨x7,Y7,H7,I7,r7,q7⟩:=q7; exact#[x7,Y7,H7,I7.unpinned,r7,q7]
end
def for_tup {K:JH}{a:JA}{xs:Jn V}{g:TG}{tb:TS}{D:Ends}{Y:St}{H:Hp}(Pv:Jx->St->Hp->Prop)(h0:Pv 0 Y H)(hl:∀i Y H,i<=xs.length->Pv i Y H->SqT K H a xs)
  (hs:∀i x Y H,xs[i]?=ba x->Pv i Y H->g x Y H λY2 H2=>tb { D with nx:=Pv (i+1),ct:=Pv (i+1),bk:=D.nx } Y2 H2) (hd:∀Y H,Pv xs.length Y H->D.nx Y H) :
  ∃W:Jx->Jx->St->Hp->Prop,(∃m,W 0 m Y H)/\∀i m Y H,W i m Y H->
   ((EO K a).stop i H/\D.nx Y H)\/((EO K a).go i H/\∃N:St->Hp->Prop,(∀Y' H',N Y' H'->∃m',m' < m/\W (i+1) m' Y' H')/\∀x H',(EO K a).yld i H x H'->g x Y H' λY2 H2=>tb { D with nx:=N,ct:=N,bk:=D.nx } Y2 H2):=by
 refine#[λi m Y H=>m=xs.length - i/\i<=xs.length/\Pv i Y H,#[xs.length,by simp,Lj _,h0],?_]
 rintro i m Y H ⟨rfl,hi,p⟩;have q:=hl i Y H hi p
 by_cases hlt:i < xs.length
 ·refine .inr #[#[xs,xs[i],q,by simp[hlt]],Pv (i+1),λY' H' p'=>#[xs.length - (i+1),∅,rfl,hlt,p'],λx H' y=>?_]
  obtain⟨e,y⟩:=y;subst e;exact hs i x Y _ (y xs q) p
 ·have e:i=xs.length:=∅
  subst e;exact .inl #[#[xs,q,JB _],hd Y H p]
noncomputable abbrev R2:=V->V->Hp->VK->Prop
abbrev OpR (X:Cx)(f:Jr->Jr->Td Jr)(r:R2):Prop:=
 ∀(J:Jn (JA×Lo)) (s:Jt) (Y:St) (H:Hp) (x y:V) (v u:Jr) (Q:VK),Inv X J Y H s->RelV x v->RelV y u->r x y H Q->
  wpAny (model X.prog X.w) X.A (f v u) (EP X J Y Q) X.xe s
abbrev Hx (X:Cx)(f:Jr->Td Jr)(r:V->Hp->VK->Prop):Prop:=
 ∀(J:Jn (JA×Lo)) (s:Jt) (Y:St) (H:Hp) (x:V) (v:Jr) (Q:VK),Inv X J Y H s->RelV x v->r x H Q->
  wpAny (model X.prog X.w) X.A (f v) (EP X J Y Q) X.xe s
abbrev CallR (X:Cx)(f:Jr)(r:Jn V->Hp->VK->Prop):Prop:=
 ∀(J:Jn (JA×Lo)) (s:Jt) (Y:St) (H:Hp) (xs:Jn V) (us:Jn Jr) (Q:VK),Inv X J Y H s->Vals xs us->r xs H Q->
  wpAny (model X.prog X.w) X.A (call f us) (EP X J Y Q) X.xe s
abbrev Hy (X:Cx)(r:V->Hp->(J6->Hp->Prop)->Prop):Prop:=
 ∀(J:Jn (JA×Lo)) (s:Jt) (Y:St) (H:Hp) (x:V) (v:Jr) (Q:J6->Hp->Prop),Inv X J Y H s->RelV x v->r x H Q->
  wpAny (model X.prog X.w) X.A (truthy v) (TP X J Y Q) X.xe s
abbrev G7 (r:R2)(ta tb:TE):TE:=λY H Q=>ta Y H λx H1=>tb Y H1 λy H2=>r x y H2 Q
abbrev Jd (r:V->Hp->VK->Prop)(ta:TE):TE:=λY H Q=>ta Y H λx H1=>r x H1 Q
abbrev rI (C:JI->JI->Prop)(g:JI->JI->V):R2:=λx y H Q=>∃i j,x=.int i/\y=.int j/\C i j/\Q (g i j) H
abbrev Co (g:JI->JI->V):R2:=λx y H Q=>∃i j,x=.int i/\y=.int j/\Q (g i j) H
abbrev rU (g:JI->V):V->Hp->VK->Prop:=λx H Q=>∃i,x=.int i/\Q (g i) H
section
variable{X:Cx}{a b c:J3}{ta tb tc:TE}{pos:Mo}
def Dh (ha:PE X a ta)(hb:PE X b tb){J:Jn (JA×Lo)}{s:Jt}{Y:St}{H:Hp}{R:V->V->Hp->Prop}(I:Inv X J Y H s)
  (h:ta Y H λx H1=>tb Y H1 λy H2=>R x y H2) {Q:Jr->Jt->Prop} {f:Jr->Jr->Td Jr}
  (hf:∀v u s2 x y H2,Inv X J Y H2 s2->RelV x v->RelV y u->R x y H2->wpAny (model X.prog X.w) X.A (f v u) Q X.xe s2) :
  wpAny (model X.prog X.w) X.A (eval a X.env) (λv s₁=>wpAny (model X.prog X.w) X.A (eval b X.env) (λu s₂=>wpAny (model X.prog X.w) X.A (f v u) Q X.xe s₂) X.xe s₁) X.xe s:=by
 refine bq (ha J s Y H _ I h) λv s1 #[x,H1,I1,r1,q1]=>?_
 refine bq (hb J s1 Y H1 _ I1 q1) λu s2 #[y,H2,I2,r2,q2]=>?_
 exact hf v u s2 x y H2 I2 r1 r2 q2
def Ff {op:QI}{r:R2}(ho:OpR X (binaryOp op) r)(ha:PE X a ta)(hb:PE X b tb):PE X (.BinOp a op b pos) (G7 r ta tb):=by
 intro J s Y H Q I h;exact wpAny_BinOp (Dh ha hb I h λv u s2 x y H2 I2 rx ry q=>ho J s2 Y H2 x y v u Q I2 rx ry q)
def Fg {op:UnaryOp}{r:V->Hp->VK->Prop}(ho:Hx X (unaryOp op) r)(ha:PE X a ta):PE X (.UnaryOp op a pos) (Jd r ta):=by
 intro J s Y H Q I h;exact UnaryOp_ (bq (ha J s Y H _ I h) λv s1 #[x,H1,I1,r1,q1]=>ho J s1 Y H1 x v Q I1 r1 q1)
def G8 {f:Jr->Jr->Td Jr}{C:JI->JI->Prop}{g:JI->JI->JI}
  (rule:∀(i j:JI) (t u:Ua) (s:Jt) (Q:Jr->Jt->Prop) (E:Jr->Jt->Prop),C i j->Q (.int (g i j) s.toks) { s with toks:=s.toks+1 }->wpAny (model X.prog X.w) X.A (f (.int i t) (.int j u)) Q E s) :
  OpR X f (rI C λi j=>.int (g i j)):=by
 intro J s Y H x y v u Q I rx ry h;obtain⟨i,j,rfl,rfl,hc,q⟩:=h;obtain⟨t,rfl⟩:=rx;obtain⟨t',rfl⟩:=ry;exact rule i j t t' s _ _ hc #[.int (g i j),H,I.tok _,#[_,rfl],q]
def Fh {f:Jr->Jr->Td Jr}{g:JI->JI->JI}
  (rule:∀(i j:JI) (t u:Ua) (s:Jt) (Q:Jr->Jt->Prop) (E:Jr->Jt->Prop),Q (.int (g i j) s.toks) { s with toks:=s.toks+1 }->wpAny (model X.prog X.w) X.A (f (.int i t) (.int j u)) Q E s) :
  OpR X f (Co λi j=>.int (g i j)):=by
 intro J s Y H x y v u Q I rx ry h;obtain⟨i,j,rfl,rfl,q⟩:=h;obtain⟨t,rfl⟩:=rx;obtain⟨t',rfl⟩:=ry;exact rule i j t t' s _ _ #[.int (g i j),H,I.tok _,#[_,rfl],q]
def Ao {f:Jr->Jr->Td Jr}{g:JI->JI->J6}
  (rule:∀(i j:JI) (t u:Ua) (s:Jt) (Q:Jr->Jt->Prop) (E:Jr->Jt->Prop),Q (.bool (g i j)) s->wpAny (model X.prog X.w) X.A (f (.int i t) (.int j u)) Q E s) :
  OpR X f (Co λi j=>.bl (g i j)):=by
 intro J s Y H x y v u Q I rx ry h;obtain⟨i,j,rfl,rfl,q⟩:=h;obtain⟨t,rfl⟩:=rx;obtain⟨t',rfl⟩:=ry;exact rule i j t t' s _ _ #[.bl (g i j),H,I,rfl,q]
abbrev Hz (i j:JI):Prop:=0 < j/\j < 1073741824
abbrev HA (i j:JI):Prop:=0<=j/\j<=1000000/\i.natAbs < 2 ^ 64
abbrev CMul (i j:JI):Prop:=(-(2 ^ 64) < i/\i < 2 ^ 64)\/(-(2 ^ 64) < j/\j < 2 ^ 64)
def CMul.ok {i j:JI}(h:CMul i j):IntMulOk i j:=by
 rcases h with⟨h1,h2⟩|⟨h1,h2⟩
 ·exact .of_left (R8 h1 h2)
 ·exact .of_right (R8 h1 h2)
def Di:OpR X (binaryOp .Add) (Co λi j=>.int (i+j)):=Fh λ_ _ _ _ _ _ _ q=>add_int q
def Dj:OpR X (binaryOp .Sub) (Co λi j=>.int (i - j)):=Fh λ_ _ _ _ _ _ _ q=>sub_int q
def Dk:OpR X (binaryOp .Mult) (rI CMul λi j=>.int (i*j)):=G8 λ_ _ _ _ _ _ _ hc q=>mul_int q hc.ok
def Ap:OpR X (binaryOp .FloorDiv) (rI Hz λi j=>.int (i / j)):=G8 λi j _ _ _ _ _ hc q=>by
 have h1:(0:JI) < j:=hc.1;have h2:j < 1073741824:=hc.2;exact floordiv_int ∅ (by rw[Int.fdiv_eq_ediv_of_nonneg i ∅]; exact q) (.inl (PyProof.noPylong_small ∅))
def Dl:OpR X (binaryOp .Mod) (rI (λ_ j=>0 < j) λi j=>.int (i % j)):=G8 λi j _ _ _ _ _ hc q=>by
 have h1:(0:JI) < j:=hc;exact mod_int' ∅ (by rw[Int.fmod_eq_emod_of_nonneg i ∅]; exact q)
def Dm:OpR X (binaryOp .Pow) (rI HA λi j=>.int (i ^ j.toNat)):=G8 λ_ _ _ _ _ _ _ hc q=>pow_int_small hc.1 hc.2.1 hc.2.2 q
def Je {f:Jr->Td Jr}{g:JI->JI}
  (rule:∀(i:JI) (t:Ua) (s:Jt) (Q:Jr->Jt->Prop) (E:Jr->Jt->Prop),Q (.int (g i) s.toks) { s with toks:=s.toks+1 }->wpAny (model X.prog X.w) X.A (f (.int i t)) Q E s) :
  Hx X f (rU λi=>.int (g i)):=by
 intro J s Y H x v Q I rx h;obtain⟨i,rfl,q⟩:=h;obtain⟨t,rfl⟩:=rx;exact rule i t s _ _ #[.int (g i),H,I.tok _,#[_,rfl],q]
def Do:Hx X (unaryOp .USub) (rU λi=>.int (-i)):=Je λ_ _ _ _ _ q=>neg_int q
end
section
variable{X:Cx}{a b c:J3}{ta tb tc:TE}{pos:Mo}
def wX {J:Jn (JA×Lo)}{Y:St}{H:Hp}{s:Jt}{Q:VK}{k k':J6}(I:Inv X J Y H s)(q:Q (.bl k) H)(e:k=k'):EP X J Y Q (.bool k') s:=by
 subst e;exact#[.bl k,H,I,rfl,q]
def Fi:OpR X (compareOp .Lt) (Co λi j=>.bl (decide (i < j))):=Ao λ_ _ _ _ _ _ _ q=>lt_int q
def Fj:OpR X (compareOp .LtE) (Co λi j=>.bl (decide (i<=j))):=Ao λ_ _ _ _ _ _ _ q=>le_int q
def Fk:OpR X (compareOp .Gt) (Co λi j=>.bl (decide (j < i))):=Ao λ_ _ _ _ _ _ _ q=>gt_int q
def Fn:OpR X (compareOp .GtE) (Co λi j=>.bl (decide (j<=i))):=Ao λ_ _ _ _ _ _ _ q=>ge_int q
def Dp:OpR X (compareOp .Is) (λx y H Q=>y=.non/\Q (.bl (decide (x=.non))) H):=by
 intro J s Y H x y v u Q I rx ry h;obtain⟨rfl,q⟩:=h;cases ry;refine is_none_gen (wX I q ?_);cases x <;> first
  | (cases rx; rfl)
  | (obtain⟨t,rfl⟩:=rx; rfl)
def Aq:OpR X (compareOp .IsNot) (λx y H Q=>y=.non/\Q (.bl (!decide (x=.non))) H):=by
 intro J s Y H x y v u Q I rx ry h;obtain⟨rfl,q⟩:=h;cases ry;refine isnot_none_gen (wX I q ?_);cases x <;> first
  | (cases rx; rfl)
  | (obtain⟨t,rfl⟩:=rx; rfl)
def Ar {op:Sz}{r:R2}(ho:OpR X (compareOp op) r)(ha:PE X a ta)(hb:PE X b tb)(hm:behindInMarks op b=false):PE X (.Compare a [op] [b] pos) (G7 r ta tb):=by
 intro J s Y H Q I h;exact wpAny_Compare1 (Dh ha hb I h λv u s2 x y H2 I2 rx ry q=>ho J s2 Y H2 x y v u Q I2 rx ry q) hm
abbrev Fo (t:TE):TT:=λY H Q=>t Y H λx H'=>∃k,x=.bl k/\Q k H'
def As {op:Sz}{r:R2}(ho:OpR X (compareOp op) r)(ha:PE X a ta)(hb:PE X b tb)(hm:behindInMarks op b=false):PT X (.Compare a [op] [b] pos) (Fo (G7 r ta tb)):=by
 intro J s Y H Q I h;refine wpAny_isTrue_Compare1 (bq (ha J s Y H _ I h) λv s1 #[x,H1,I1,r1,q1]=>bq (hb J s1 Y H1 _ I1 q1) λu s2 #[y,H2,I2,r2,q2]=>
  bq (ho J s2 Y H2 x y v u _ I2 r1 r2 q2) λc s3 #[z,H3,I3,r3,k,e,q3]=>?_) hm
 subst e;cases r3;exact L7 #[H3,I3,q3]
abbrev HB (K:JH)(x:V)(H:Hp)(k:J6):Prop:=
 match x with
 | .non=>k=false
 | .bl b=>k=b
 | .int i=>k=(i != 0)
 | .str y=>y.length<=sizeLine/\k=((y.length:JI) != 0)
 | .byt y=>y.size<=sizeLine/\k=((y.size:JI) != 0)
 | .ref p=>(∃xs,SqL K H p xs/\k = !xs.isEmpty)\/(∃xs,SqT K H p xs/\k = !xs.isEmpty)\/∃U,H p=ba (.dK U)/\k = !U.isEmpty
 | _=>K5
def rG {κ:Type}{U:Jn (κ×V)}{vs:Jn (κ×Jr)}(r:KV U vs):(!vs.isEmpty) = !U.isEmpty:=by
 cases r <;> rfl
def kw {xs:Jn V}{its:Jn Jr}(r:Vals xs its):(!its.toArray.isEmpty) = !xs.isEmpty:=by
 cases r <;> simp
def jj:(sizeLine:Jx) < 2 ^ 63:=by rw[Ky]; decide
def Dq:Hy X (λx H Q=>∃k,HB X.K x H k/\Q k H):=by
 intro J s Y H x v Q I rx h;obtain⟨k,e,q⟩:=h;have hl:=jj;have hs:sizeLine=16777216:=Ky;cases x with
 | non=>
  cases rx;have e':k=false:=e;subst e';exact truthy_none #[H,I,q]
 | bl b=>
  cases rx;have e':k=b:=e;subst e';exact L7 #[H,I,q]
 | int i=>
  obtain⟨t,rfl⟩:=rx;have e':k=(i != 0):=e;subst e';exact PySem.P.truthy_int #[H,I,q]
 | str y=>
  obtain⟨t,rfl⟩:=rx;obtain⟨hy,e'⟩ : y.length<=sizeLine/\k=((y.length:JI) != 0):=e;subst e';exact PySem.P.truthy_str ∅ #[H,I.tok _,q]
 | byt y=>
  obtain⟨t,rfl⟩:=rx;obtain⟨hy,e'⟩ : y.size<=sizeLine/\k=((y.size:JI) != 0):=e;subst e';exact PySem.W.truthy_bytes ∅ #[H,I.tok _,q]
 | ref p=>
  cases rx;have e':(∃xs,SqL X.K H p xs/\k = !xs.isEmpty)\/(∃xs,SqT X.K H p xs/\k = !xs.isEmpty)\/∃U,H p=ba (.dK U)/\k = !U.isEmpty:=e;rcases e' with⟨xs,hx,e'⟩|⟨xs,hx,e'⟩|⟨U,hx,e'⟩
  ·subst e';obtain⟨its,r,pl,hz⟩:=I.list hx;have hlen:=r.length;exact wpAny_truthy_list pl.isList (by simp only[JM]; omega) #[H,I.tok _,by rw[kw r]; exact q]
  ·subst e';obtain⟨its,r,pl,hz⟩:=I.tuple hx;have hlen:=r.length;exact truthy_tuple pl (by simp only[JM]; omega) #[H,I.tok _,by rw[kw r]; exact q]
  ·subst e';obtain⟨hz,hS,vs,r,m⟩ : U.length<=sizeLine/\(p==sysModules)=false/\∃vs,KV U vs/\s.heap.DictOf (nF X.prog X.w) p vs:=I.hok p _ hx;have hlen:U.length=vs.length:=OZ r;exact wpAny_truthy_dict hS m ∅ #[H,I.tok _,by rw[rG r]; exact q]
 | _=>exact(show K5 from e).elim
def rH:OpR X (binaryOp .Add) (λx y H Q=>∃i j,x=.str i/\y=.str j/\i.length+j.length<=sizeLine/\Q (.str (i++j)) H):=by
 intro J s Y H x y v u Q I rx ry h;obtain⟨i,j,rfl,rfl,hz,q⟩:=h;obtain⟨t,rfl⟩:=rx;obtain⟨t',rfl⟩:=ry;exact add_str (λt' tk=>#[.str (i++j),H,I.tok _,#[_,rfl],q]) hz
def l8 {x:V}{us:Jn Jr}(r:Vals [x] us):∃u,us=[u]/\RelV x u:=by
 cases r with
 | cons r1 r2=>cases r2; exact#[_,rfl,r1]
def l9:CallR X (.type "int") (λxs H Q=>(∃i,xs=[.int i]/\Q (.int i) H)\/∃k,xs=[.bl k]/\Q (.int (if k then 1 else 0)) H):=by
 intro J s Y H xs us Q I r h;rcases h with⟨i,rfl,q⟩|⟨k,rfl,q⟩
 ·obtain⟨u,rfl,t,rfl⟩:=l8 r;exact call_int_int #[.int i,H,I,#[_,rfl],q]
 ·obtain⟨u,rfl,r1⟩:=l8 r;cases r1;exact call_int_bool #[.int (if k then 1 else 0),H,I.tok _,#[_,rfl],q]
abbrev HC (K:JH)(x:V)(H:Hp)(n:Jx):Prop:=
 match x with
 | .str y=>y.length<=sizeLine/\n=y.length
 | .byt y=>y.size<=sizeLine/\n=y.size
 | .ref p=>(∃xs,SqL K H p xs/\n=xs.length)\/∃xs,SqT K H p xs/\n=xs.length
 | _=>K5
def kz:CallR X (.builtin "len") (λxs H Q=>∃x n,xs=[x]/\HC X.K x H n/\Q (.int n) H):=by
 intro J s Y H xs us Q I r h;obtain⟨x,n,rfl,e,q⟩:=h;obtain⟨u,rfl,rx⟩:=l8 r;have hl:=jj;have hs:sizeLine=16777216:=Ky;cases x with
 | str y=>
  obtain⟨t,rfl⟩:=rx;obtain⟨hy,e'⟩ : y.length<=sizeLine/\n=y.length:=e;subst e';exact len_str ∅ #[.int _,H,I.tok _,#[_,rfl],q]
 | byt y=>
  obtain⟨t,rfl⟩:=rx;obtain⟨hy,e'⟩ : y.size<=sizeLine/\n=y.size:=e;subst e';exact PySem.W.len_bytes ∅ #[.int _,H,I.tok _,#[_,rfl],q]
 | ref p=>
  cases rx;have e':(∃xs,SqL X.K H p xs/\n=xs.length)\/∃xs,SqT X.K H p xs/\n=xs.length:=e;rcases e' with⟨xs,hx,e'⟩|⟨xs,hx,e'⟩
  ·subst e';obtain⟨its,r',pl,hz⟩:=I.list hx;have hlen:=r'.length;exact Calls.call_len_list pl.isList (by simp only[JM]; omega) #[.int xs.length,H,I.tok _,#[_,by simp only[JM]; rw[hlen]],q]
  ·subst e';obtain⟨its,r',pl,hz⟩:=I.tuple hx;have hlen:=r'.length;exact len_tuple pl (by simp only[JM]; omega) #[.int xs.length,H,I.tok _,#[_,by simp only[JM]; rw[hlen]],q]
 | _=>exact(show K5 from e).elim
end
structure Room (k:Jx)(A:Kk):Prop where
 hd:A.handled=gV
 dp:A.depth+3*k+5 < recursionLimit
 un:A.units+16*k+200 < cLine
def Room.deeper {k:Jx}{A:Kk}(r:Room (k+1) A)(env:QF):Room k (A.deeper env):=
 #[r.hd,by have:=r.dp; show A.depth+1+3*k+5 < _; omega,by have:=r.un; show A.units+3+16*k+200 < _; omega]
def Room.depth {k:Jx}{A:Kk}(r:Room k A):A.depth < recursionLimit:=by have:=r.dp; omega
abbrev Fp:TA:=λ_ H Q=>Q [] H
abbrev Fq (ta:TE)(tr:TA):TA:=λY H Q=>ta Y H λx H1=>tr Y H1 λxs H2=>Q (x::xs) H2
section
variable{X:Cx}{e:J3}{es:Jn J3}{te:TE}{t:TA}{pos:Mo}
def wY:PA X [] Fp:=λ_ _ _ _ H Q I h=>Calls.spliced_nil #[[],H,I,.nil,h]
def nH (ha:PE X e te)(hr:PA X es t)(hs:starEach (e::es) X.env=(false,eval e X.env)::starEach es X.env:=by rfl):PA X (e::es) (Fq te t):=by
 intro pos J s Y H Q I h;rw[hs];show wpAny _ _ (spliced ((false,eval e X.env)::backTo pos (starEach es X.env))) _ _ s;refine Calls.spliced_cons (bq (ha J s Y H _ I h) λu s1 #[x,H1,I1,r1,q1]=>?_)
 exact bq (hr pos J s1 Y H1 _ I1 q1) λus s2 #[xs,H2,I2,r2,q2]=>#[x::xs,H2,I2,.cons r1 r2,q2]
abbrev HD (t:TA):TE:=λY H Q=>t Y H λxs H1=>xs.length<=sizeLine/\∀p,H1 p=gV->Q (.ref p) (br H1 p (.tup xs))
abbrev HE (t:TA):TE:=λY H Q=>t Y H λxs H1=>xs.length<=sizeLine/\∀p,H1 p=gV->Q (.ref p) (br H1 p (.lst xs))
def Dr {x1}(h:PA X es t):PE X (.Tuple es x1 pos) (HD t):=by
 intro J s Y H Q I hq;refine wpAny_Tuple_spliced (bq (h pos J s Y H _ I hq) λus s1 #[xs,H1,I1,r,z,q]=>#[by rw[<- r.length]; exact z,?_])
 have hf:H1 s1.heap.objs.size=gV:=I1.hok.fresh (JB _);refine#[.ref s1.heap.objs.size,br H1 s1.heap.objs.size (.tup xs),I1.laid (t':=s1.toks) (λb u e=>Jq _ e) (JB _) ?_,rfl,q _ hf]
 exact#[z,us,r,#[_,JJ _ rfl,rfl,_,rfl]]
def Ds (h:PA X es t):PE X (.List es pos) (HE t):=by
 intro J s Y H Q I hq;refine wpAny_List_spliced (bq (h pos J s Y H _ I hq) λus s1 #[xs,H1,I1,r,z,q]=>#[by rw[<- r.length]; exact z,?_])
 have hf:H1 s1.heap.objs.size=gV:=I1.hok.fresh (JB _);refine#[.ref s1.heap.objs.size,br H1 s1.heap.objs.size (.lst xs),I1.laid (t':=s1.toks) (λb u e=>Jq _ e) (JB _) ?_,rfl,q _ hf]
 exact#[z,us,0,r,JJ _ rfl]
end
noncomputable abbrev Sp:=Jn V->Hp->VK->XK->Prop
noncomputable abbrev w6:=Jn QF->Hp->Jt->XK->Jr->Jt->Prop
structure Env0 (P:Kh)(w:Km)(K:JH)(mg:JV->Jw Jr)(base:Kw)(A:Kk)(outer:Jn QF)(s:Jt)(H:Hp):Prop where
 frames:A.frames=ba outer
 mod:Mod K mg base
 bs:∀b o,base.get? b=ba o->s.heap.get? b=ba o/\H b=gV
 bsz:base.objs.size<=s.heap.objs.size
 funs:s.heap.FunFrames base outer
 frf:∀b∈rD outer,H b=gV
 hok:HOk P w H s.heap
 bare:OS s.gens
abbrev CE (outer:Jn QF)(P:Kh)(w:Km)(H:Hp)(s:Jt)(Q:VK)(u:Jr)(s':Jt):Prop:=
 ∃v H',s'.os=s.os/\OS s'.gens/\Un (rD outer) [] H H' s.heap s'.heap/\HOk P w H' s'.heap/\RelV v u/\Q v H'
abbrev CR (CX:w6)(outer:Jn QF)(P:Kh)(w:Km)(H:Hp)(s:Jt)(Q:VK)(E:XK)(r:Rc)(s':Jt):Prop:=
 match r with
 | .ok (.ret u)=>CE outer P w H s Q u s'
 | .ok _=>K5
 | .error e=>CX outer H s E e s'
structure FnOk (P:Kh)(w:Km)(K:JH)(mg:JV->Jw Jr)(base:Kw)(CX:w6)(k:Jx)(f:JA)(fd:Mp)(ps:Jn JV)(sp:Sp):Prop where
 len:∀vs H Q E,sp vs H Q E->vs.length=ps.length
 run:∀(A:Kk) (outer:Jn QF) (s:Jt) (H:Hp) (args:Args) (us:Jn Jr) (vs:Jn V) (Q:VK) (E:XK),Room k A->Env0 P w K mg base A outer s H->QJ s fd args (ps.zip us)->Vals vs us->sp vs H Q E->
  codeAny (model P w) A (.call (.ref f) args) (CR CX outer P w H s Q E) s
section
variable{X:Cx}{J:Jn (JA×Lo)}{Y:St}{H:Hp}{s s':Jt}
def Inv.env0 (I:Inv X J Y H s):Env0 X.prog X.w X.K X.mg X.base X.A X.stack s H:=
 #[I.ok.frames,I.ok.mod,I.bs,JY I.ok.bsz I.sz,I.stack,I.stkFree,I.hok,I.bare]
def Inv.after {Q:VK}{u:Jr}(I:Inv X J Y H s)(h:CE X.stack X.prog X.w H s Q u s'):EP X J Y Q u s':=by
 obtain⟨v,H',os,bare,un,hok,r,q⟩:=h;obtain⟨hh,g,d,t,os'⟩:=s';obtain rfl:os'=s.os:=os;exact#[v,H',I.call (h':=hh) (g':=g) (d':=d) (t':=t) (ch:=[]) un hok bare (λb z=>absurd z (by simp)),r,q]
end
abbrev w8 (sp:Sp)(dvs:Jn V)(E:XK)(t:TA):TE:=λY H Q=>t Y H λvs H1=>sp (vs++dvs) H1 Q E
abbrev Binds (K:JH)(fd:Mp)(ps:Jn JV)(ds:Jn Jr):Prop:=
 ∀(s:Jt) (us:Jn Jr),K.In s.heap->(us++ds).length=ps.length->QJ s fd #[us,[]] (ps.zip (us++ds))
def Binds.all {K:JH}{fd:Mp}{ps:Jn JV}(h:∀us:Jn Jr,us.length=ps.length->bindArgs fd #[us,[]]=pure (ps.zip us)):Binds K fd ps []:=λs us _ hl=>by
 rw[Le]at hl ⊢;exact .of_eq (h us hl)
abbrev nI (CX:w6)(X:Cx)(E:XK):Prop:=∀(J:Jn (JA×Lo)) (Y:St) (H:Hp) (s:Jt) (e:Jr) (s':Jt),Inv X J Y H s->CX X.stack H s E e s'->X.xe e s'
section
variable{X:Cx}{CX:w6}{k:Jx}{f C:JA}{fd:Mp}{ps:Jn JV}{sp:Sp}{dvs:Jn V}{ds:Jn Jr}{E:XK}{x m:JV}{p pos apos:Mo}{e o:J3}{es:Jn J3}{ta:TE}{t:TA}
def w9 {J:Jn (JA×Lo)}{Y:St}{H:Hp}{s:Jt}{Q:VK}{us:Jn Jr}{vs:Jn V}(F:FnOk X.prog X.w X.K X.mg X.base CX k f fd ps sp)(hr:Room k X.A)(hb:Binds X.K fd ps ds)(hd:Vals dvs ds)(hx:nI CX X E)
  (I:Inv X J Y H s) (r:Vals vs us) (h:sp (vs++dvs) H Q E):wpAny (model X.prog X.w) X.A (call (.ref f) us) (EP X J Y Q) X.xe s:=by
 have r2:Vals (vs++dvs) (us++ds):=r.append hd;have hl:(us++ds).length=ps.length:=by rw[<- r2.length]; exact F.len _ _ _ _ h
 refine wpAny_call (NL (F.run X.A X.stack s H #[us,[]] (us++ds) (vs++dvs) Q E hr I.env0 (hb s us I.kIn hl) r2 h) λr s' hq=>?_)
 cases r with
 | error e=>exact hx J Y H s e s' I hq
 | ok fl=>
  cases fl with
  | ret u=>exact I.after hq
  | next=>exact K5.elim hq
  | brk=>exact K5.elim hq
  | cont=>exact K5.elim hq
def At (F:FnOk X.prog X.w X.K X.mg X.base CX k f fd ps sp)(hr:Room k X.A)(hg:Gl X x)(hm:X.mg x=ba (.ref f))(hk:Lf X.K (.ref f)=true)(hb:Binds X.K fd ps ds)(hd:Vals dvs ds)(hx:nI CX X E)
  (ha:PA X (e::es) t) (hdb:(x==("__debug__" : JV))=false:=by decide) (he:starEach (e::es) X.env=(false,eval e X.env)::starEach es X.env:=by rfl) (hpl:(backTo pos (starEach es X.env)).any (·.1)=false:=by rfl) :
  PE X (.Call (.Name x p) (e::es) [] pos) (w8 sp dvs E t):=by
 intro J s Y H Q I h;refine NE (sV I hg hm ?_ hdb);refine PySem.W.callWith_K (h₀:=X.base) I.ok.mod.kin hk (bq (ha pos J s Y H _ I h) λus s1 #[vs,H1,I1,r,q]=>#[I1.kIn,?_]) he hpl
 exact w9 F hr hb hd hx I1 r q
def xf (F:FnOk X.prog X.w X.K X.mg X.base CX k f fd ps sp)(hr:Room k X.A)(hg:Gl X x)(hm:X.mg x=ba (.ref f))(hk:Lf X.K (.ref f)=true)(hb:Binds X.K fd ps ds)(hd:Vals dvs ds)(hx:nI CX X E)
  (hdb:(x==("__debug__" : JV))=false:=by decide):PE X (.Call (.Name x p) [] [] pos) (w8 sp dvs E Fp):=by
 intro J s Y H Q I h;refine NE (sV I hg hm ?_ hdb);exact PySem.W.callWith_K0 I.kIn hk (w9 (us:=[]) F hr hb hd hx I .nil h)
end
structure FnScope (N P:Jn JV)(sc:M7):Prop where
 kind:sc.kind=.function
 co:sc.isCoroutine=false
 gen:sc.isGenerator=false
 nd:N.Nodup
 pre:N.take P.length=P
 par:∀x∈P,sc.names.lookup x=ba .local\/sc.names.lookup x=ba .cell
 nofree:∀y∈sc.names,y.2≠.free
def ma {kindOf:JV->Jw LL}{x:JV}:∀ {binds:Jn (JV×Jr)} {m:JV->Jw Jr},(∀v,(x,v)∉binds)->bindL kindOf binds m x=m x
 | [],_,_=>rfl
 | (n,v)::r,m,h=>by
  unfold bindL;rw[ma λw hw=>h w (KO _ hw)]
  split
  ·have:x≠n:=by rintro rfl; exact h v KT
   simp[this]
  ·rfl
def md {kindOf:JV->Jw LL}{x:JV}:∀ {binds:Jn (JV×Jr)} {m:JV->Jw Jr},(∀v,(x,v)∉binds)->bindC kindOf binds m x=m x
 | [],_,_=>rfl
 | (n,v)::r,m,h=>by
  unfold bindC;rw[md λw hw=>h w (KO _ hw)]
  split
  ·rfl
  ·have:x≠n:=by rintro rfl; exact h v KT
   simp[this]
def mf {kindOf:JV->Jw LL}{x:JV}{v:Jr}:∀ {P:Jn JV} {vs:Jn Jr} {i:Jx} {m:JV->Jw Jr},P.Nodup->P[i]?=ba x->vs[i]?=ba v->kindOf x=ba .local->
  bindL kindOf (P.zip vs) m x=ba v
 | [],_,_,_,_,h,_,_=>by simp at h
 | _::_,[],_,_,_,_,h,_=>by simp at h
 | p::P,w::vs,0,m,nd,h1,h2,hk=>by
  simp at h1 h2; subst h1; subst h2
  show bindL kindOf ((p,w)::P.zip vs) m p=_;unfold bindL;rw[ma λv hv=>(K4.mp nd).1 (Pp hv).1,JZ hk]
  simp
 | p::P,w::vs,i+1,m,nd,h1,h2,hk=>by
  show bindL kindOf ((p,w)::P.zip vs) m x=_;unfold bindL;exact mf (i:=i) (K4.mp nd).2 (by simpa using h1) (by simpa using h2) hk
def mh {kindOf:JV->Jw LL}{x:JV}{v:Jr}:∀ {P:Jn JV} {vs:Jn Jr} {i:Jx} {m:JV->Jw Jr},P.Nodup->P[i]?=ba x->vs[i]?=ba v->kindOf x≠ba .local->
  bindC kindOf (P.zip vs) m x=ba v
 | [],_,_,_,_,h,_,_=>by simp at h
 | _::_,[],_,_,_,_,h,_=>by simp at h
 | p::P,w::vs,0,m,nd,h1,h2,hk=>by
  simp at h1 h2; subst h1; subst h2
  show bindC kindOf ((p,w)::P.zip vs) m p=_;unfold bindC;rw[md λv hv=>(K4.mp nd).1 (Pp hv).1,Kb hk]
  simp
 | p::P,w::vs,i+1,m,nd,h1,h2,hk=>by
  show bindC kindOf ((p,w)::P.zip vs) m x=_;unfold bindC;exact mh (i:=i) (K4.mp nd).2 (by simpa using h1) (by simpa using h2) hk
abbrev fU (N:Jn JV)(vs:Jn V):St:=vs.map ba++Ks (N.length - vs.length) gV
abbrev rJ (CX:w6)(P:Kh)(w:Km)(K:JH)(mg:JV->Jw Jr)(base:Kw)(N:Jn JV)(qual:JV)(scope:M7)(f:JA)(cd:Jr)(A:Kk)(outer:Jn QF)(s:Jt)(H:Hp)(E:XK):Cx where
 prog:=P
 w:=w
 K:=K
 mg:=mg
 base:=base
 A:=A.deeper (envOfC qual scope s.heap.objs.size f cd)
 N:=N
 s₀:=s
 H₀:=H
 env:=envOfC qual scope s.heap.objs.size f cd
 outer:=outer
 stack:=envOfC qual scope s.heap.objs.size f cd::outer
 ex:=[]
 calm:=true
 fn:=λ_=>true
 pn:=[]
 xe:=λe s'=>wpAny (model P w) (A.deeper (envOfC qual scope s.heap.objs.size f cd)) (leaving (envOfC qual scope s.heap.objs.size f cd) e) (λ_ s''=>CX outer H s E e s'') (λe' s''=>CX outer H s E e' s'') s'
def pd {sc:M7}{n:Jx}{x:JV}(h:sc.names.lookup x=ba .cell):∃c,(cellsFrom n sc.names []).lookup x=ba c:=by
 have q:=Pd sc.names n [] (.inl h);exact KD.mp q
def u9 {CX:w6}{P:Kh}{w:Km}{K:JH}{mg:JV->Jw Jr}{base:Kw}{N ps:Jn JV}{qual:JV}{scope:M7}{f:JA}{cd:Jr}{A:Kk}{outer:Jn QF}{s s1:Jt}{H:Hp}{E:XK}{us:Jn Jr}{vs:Jn V}
  (S:FnScope N ps scope) (hd:A.handled=gV) (e0:Env0 P w K mg base A outer s H) (hl:vs.length=ps.length) (r:Vals vs us)
  (x:InCallC s s.heap.objs.size (bindL (envOfC qual scope s.heap.objs.size f cd).kindOf (ps.zip us) λ_=>gV) (cellsFrom (s.heap.objs.size+1) scope.names []) (bindC (envOfC qual scope s.heap.objs.size f cd).kindOf (ps.zip us) λ_=>gV) s1) :
  Inv (rJ CX P w K mg base N qual scope f cd A outer s H E) [] (fU N vs) H s1:=by
 have hpl:ps.length<=N.length:=by have:=congrArg Ru S.pre; rw[Kn]at this; omega
 obtain⟨h1,tk,rfl,hk⟩:=x.done;have noA:∀b:JA,b∉(rJ CX P w K mg base N qual scope f cd A outer s H E).ex:=λb z=>absurd (show b∈([]:Jn JA)from z) (by simp)
 refine#[#[e0.mod,S.kind,rfl,rfl,JB _,λy z c h1 h2=>?_,λy hy=>?_,λy c _ h=>?_,λ_=>hd,Around.frames_deeper e0.frames,.inr #[rfl,rfl],λb z=>absurd z (noA b),e0.bs,e0.bsz,λb _ _=>noA b,λb z=>absurd z (noA b),e0.funs,e0.frf],
  rfl,e0.bare,Un.kept hk,#[_,x.toInCall.ns,λi y v h1 h2 h3=>?_],λy c h=>#[_,x.cell y c h],e0.hok.fresh (JB _),λy c h=>?_,λp hp=>absurd (show p∈([]:Jn (JA×Lo))from hp) (by simp),e0.hok.kept hk,?_]
 ·exact name_of_addr x.apart (ML h1) (ML h2)
 ·have hy:scope.names.lookup y=ba .cell\/scope.names.lookup y=ba .free:=hy;rcases hy with hy|hy
  ·exact pd hy
  ·exact absurd rfl (S.nofree _ (ML hy))
 ·exact Nh (x.above y c (ML h))
 ·have hi:i < vs.length:=by
   unfold fU at h2
   by_cases hi:i < vs.length
   ·exact hi
   ·rw[LP (by simpa using hi)]at h2
    rw[List.getElem?_replicate]at h2;split at h2 <;> cases h2
  have ha:vs[i]?=ba v:=by
   unfold fU at h2;rw[Ku (by simpa using hi),Jy]at h2
   cases e:vs[i]? with
   | none=>rw[e]at h2; cases h2
   | some a=>rw[e]at h2; cases h2; rfl
  obtain⟨u,hu,rv⟩:=r.get ha;have hp:ps[i]?=ba y:=by
   rw[<- S.pre,Nw ∅]; exact h1
  have ndP:ps.Nodup:=by rw[<- S.pre]; exact S.nd.sublist (List.take_sublist _ _)
  refine#[u,rv,?_];rcases S.par y (JG hp)with k|k
  ·exact .inl #[k,mf ndP hp hu k]
  ·obtain⟨c,e⟩:=pd (n:=s.heap.objs.size+1) k;refine .inr #[.inl k,c,e,?_];have q:=x.cell y c e;rw[mh ndP hp hu (by show scope.names.lookup y≠_; rw[k]; decide)]at q
   exact q
 ·exact e0.hok.fresh (Nh (x.above y c (ML h)))
 ·unfold fU;show _=N.length;rw[JC,Jp,PB];omega
def Fs {CX:w6}{P:Kh}{w:Km}{K:JH}{mg:JV->Jw Jr}{base:Kw}{k:Jx}{f:JA}{name qual:JV}{params:Arguments}{body:Jn MK}{scope:M7}{dV kV doc pm cdv ct oc:Jr}{an od:Jw JA}
  {osl:J8 (Jw Jr)} {N ps:Jn JV} {sp:Sp} (lk:K.lookup f=ba #[oc,od,.func (L0 name qual params body scope dV kV doc pm an cdv ct),osl]) (hcd:MO K cdv qual=true) (S:FnScope N ps scope)
  (len:∀vs H Q E,sp vs H Q E->vs.length=ps.length)
  (hbody:∀(A:Kk) (outer:Jn QF) (s:Jt) (H:Hp) (vs:Jn V) (Q:VK) (E:XK),Room k (A.deeper (envOfC qual scope s.heap.objs.size f cdv))->sp vs H Q E->
   ∃t,PSs (rJ CX P w K mg base N qual scope f cdv A outer s H E) body t/\t { nx:=λ_ H'=>Q .non H',rt:=Q } (fU N vs) H) :
  FnOk P w K mg base CX (k+1) f (L0 name qual params body scope dV kV doc pm an cdv ct) ps sp:=by
 refine#[len,λA outer s H args us vs Q E hr e0 hb r hsp=>?_]
 have hl:=len _ _ _ _ hsp;have KX:K.In s.heap:=e0.mod.kin.keeps λb o e=>(e0.bs b o e).1
 have lim:s.heap.NoLimit:=e0.mod.nolimit.keeps λb o e=>(e0.bs b o e).1
 have hkind:∀y∈ps.zip us,scope.names.lookup y.1=ba .local\/(scope.names.lookup y.1=ba .cell/\((cellsFrom (s.heap.objs.size+1) scope.names []).lookup y.1).isSome=true):=λ#[n,v] hy=>by
  rcases S.par n (Pp hy).1 with q|q
  ·exact .inl q
  ·exact .inr #[q,Pd _ _ _ (.inl q)]
 refine codeAny_call_function hr.depth (KX _ _ lk) rfl S.co S.gen rfl (PySem.W.codeRec_of KX hcd) (hb _ _ _ _ ?_);refine wpAny_newFunctionEnv_cells S.kind hkind λenv he s1 x=>?_
 subst he;refine#[lim.keeps x.toInCall.keep,codeAny_func ?_];obtain⟨t,ht,hq⟩:=hbody A outer s H vs Q E (hr.deeper _) hsp;have I:Inv (rJ CX P w K mg base N qual scope f cdv A outer s H E) [] (fU N vs) H s1:=u9 S hr.hd e0 hl r x;refine LH (ht [] s1 (fU N vs) H _ I hq) (λfl s' hs=>?_) λe s' hs=>hs
 have fin:∀ {Y':St} {H':Hp} {v:V} {u:Jr},Inv (rJ CX P w K mg base N qual scope f cdv A outer s H E) [] Y' H' s'->RelV v u->Q v H'->CE outer P w H s Q u s':=
  λ{Y' H' v u} td rv q=>#[v,H',td.os,td.bare,td.base,td.hok,rv,q]
 cases fl with
 | ret u=>
  obtain⟨v,Y',H',td,rv,q⟩:=hs;exact fin td rv q
 | next=>
  obtain⟨Y',H',td,q⟩:=hs;exact fin (v:=V.non) (u:=KA) td rfl q
 | brk=>
  obtain⟨_,_,_,q⟩:=hs;exact K5.elim q
 | cont=>
  obtain⟨_,_,_,q⟩:=hs;exact K5.elim q
section
variable{X:Cx}{x:JV}{p pos:Mo}{e:J3}{es:Jn J3}{t:TA}{id T:Lc}{r:Jn V->Hp->VK->Prop}
abbrev IP (r:Jn V->Hp->VK->Prop)(t:TA):TE:=λY H Q=>t Y H λvs H1=>r vs H1 Q
def pe (hc:CallR X (.builtin id) r)(hg:Gl X x)(hm:X.mg x=gV)(hv:bootBuiltins x=ba (.builtin id))(ha:PA X (e::es) t)(hn:x≠"__name__":=by decide)(hdb:(x==("__debug__" : JV))=false:=by decide)
  (he:starEach (e::es) X.env=(false,eval e X.env)::starEach es X.env:=by rfl) (hpl:(backTo pos (starEach es X.env)).any (·.1)=false:=by rfl):PE X (.Call (.Name x p) (e::es) [] pos) (IP r t):=by
 intro J s Y H Q I h;refine NE (hG I hg hm hv ?_ hn hdb);exact Re (bq (ha pos J s Y H _ I h) λus s1 #[vs,H1,I1,r1,q1]=>hc J s1 Y H1 vs us Q I1 r1 q1) he hpl
def vc (hc:CallR X (.type T) r)(hg:Gl X x)(hm:X.mg x=gV)(hv:bootBuiltins x=ba (.type T))(ha:PA X (e::es) t)(hn:x≠"__name__":=by decide)(hdb:(x==("__debug__" : JV))=false:=by decide)
  (he:starEach (e::es) X.env=(false,eval e X.env)::starEach es X.env:=by rfl) (hpl:(backTo pos (starEach es X.env)).any (·.1)=false:=by rfl):PE X (.Call (.Name x p) (e::es) [] pos) (IP r t):=by
 intro J s Y H Q I h;refine NE (hG I hg hm hv ?_ hn hdb);exact LN (bq (ha pos J s Y H _ I h) λus s1 #[vs,H1,I1,r1,q1]=>hc J s1 Y H1 vs us Q I1 r1 q1) he hpl
end
end L2
namespace HT
open PySem PyProof.Rows
section
open PySem.SeqAt
open PySem.AutoSeq1 (wpAny_loadPart')
open PySem.MeetsSeq PySem.MeetsSeq2 PySem.MeetsSeq3
end
section
variable{prog:Kh}{w:Km}{A:Kk}{E:Jr->Jt->Prop}{s:Jt}
def Au {t b:JA}{vs ws:Jn Jr}{Q:Jr->Jt->Prop}(ht:QE s.heap t vs.toArray)(hb:QE s.heap b ws.toArray)(hv:vs≠[])
  (h1:ws=[]->Q (.ref t) s) (h2:ws≠[]->Q (.ref s.heap.objs.size) { s with heap:=s.heap.push { cls:=.type "tuple",data:=.seq (vs++ws).toArray } })
  (hsz:vs.length+ws.length<=sizeLine):wpAny (model prog w) A (binaryOp .Add (.ref t) (.ref b)) Q E s:=by
 obtain⟨⟨cls,dd,data,sl⟩,ho,hc,n,hd⟩:=id ht;obtain⟨⟨cls2,dd2,data2,sl2⟩,ho2,hc2,n2,hd2⟩:=id hb;simp only at hc hd hc2 hd2;subst hc hd hc2 hd2;have e:vs.toArray++ws.toArray=(vs++ws).toArray:=by simp
 by_cases hw:ws=[]
 ·exact QK #[_,ho,rfl] #[_,ho2,rfl] O5 Qh NM NI (Nx _ _)
   (tuple_addW1 t b vs.toArray ws.toArray n n2 dd dd2 sl sl2 (by simpa using hv) (by simp[hw])) #[ho,ho2,h1 hw]
 ·refine QK #[_,ho,rfl] #[_,ho2,rfl] O5 Qh NM NI (Nx _ _)
   (tuple_addW2 t b vs.toArray ws.toArray n n2 dd dd2 sl sl2 (by simpa using hv) (by simpa using hw) (by rw[JM,JM]; exact hsz)) #[ho,ho2,?_]
  rw[e];exact h2 hw
abbrev b7 (n d:Jx):Jw JI->Jx
 | none=>d
 | some v=>if v < 0 then(v+(n:JI)).toNat else min v.toNat n
def kA (n d:Jx):b7 n d gV=d:=rfl
def sY (n d k:Jx):b7 n d (ba (k:JI))=min k n:=by
 show(if (k:JI) < 0 then((k:JI)+(n:JI)).toNat else min (k:JI).toNat n)=min k n
 rw[Kb ∅,JO]
def Dt (n d:Jx)(hd:d<=n)(o:Jw JI):b7 n d o<=n:=by
 cases o with
 | none=>exact hd
 | some v=>
  show(if v < 0 then(v+(n:JI)).toNat else min v.toNat n)<=n
  by_cases hv:v < 0
  ·rw[JZ hv]; omega
  ·rw[Kb hv]; exact Nat.min_le_right _ _
def sZ (v:JI)(n d:Jx):(if v < 0 then max (v+(n:JI)) 0 else min v (n:JI))=((b7 n d (ba v):Jx):JI):=by
 show(if v < 0 then max (v+(n:JI)) 0 else min v (n:JI))=(((if v < 0 then(v+(n:JI)).toNat else min v.toNat n):Jx):JI)
 by_cases hv:v < 0
 ·simp only[JZ hv]; omega
 ·simp only[Kb hv]; omega
def rK (lo hi:Jw JI)(n:Jx):Nm lo hi 1 (n:JI)=(((b7 n 0 lo:Jx):JI),((b7 n n hi:Jx):JI)):=by
 have h1:¬ ((1:JI) < 0):=∅
 unfold Nm;simp only[h1,KZ];refine T3 ?_ ?_
 ·cases lo with
  | none=>rfl
  | some v=>exact sZ v n 0
 ·cases hi with
  | none=>rfl
  | some v=>exact sZ v n n
def rL (i j:Jx):Mw (i:JI) (j:JI) 1=j - i:=by
 unfold Mw;have h1:(1:JI) > 0:=∅
 simp only[h1,Ls,Int.ediv_one];split <;> omega
def kB {v:Jr}{o:Jw JI}{Q:Jw JI->Jt->Prop}(p:Ou v o)(h:Q o s):wpAny (model prog w) A (RB v) Q E s:=by
 cases p with
 | none=>exact RN h
 | int i t=>exact slicePart_int h
def eT {sl:JA}{vl vu:Jr}{lo hi:Jw JI}{n:Jx}{Q:JI×JI×Jx->Jt->Prop}(hs:s.heap.IsSliceOf sl vl vu .none)(pl:Ou vl lo)(pu:Ou vu hi)
  (h:Q (((b7 n 0 lo:Jx):JI),1,b7 n n hi - b7 n 0 lo) s):wpAny (model prog w) A (Ov (.ref sl) (pure (n:JI))) Q E s:=by
 obtain⟨os,hos,hcs,hds⟩:=id hs;unfold Ov R4;refine Jo (Jo (Lp hos hds (x:=vl) rfl (Jo (Lp hos hds (x:=vu) rfl (Jo (Lp hos hds (x:=.none) rfl (Ju ?_)))))));refine Jo (RN ?_);show wpAny _ _ (if ((1:JI)==0)=true then _ else _) _ _ s
 rw[Kb #v[]]
 refine Jo (kB pl (Jo (kB pu (Jo (Ju ?_)))));show wpAny _ _ (match Nm lo hi 1 (n:JI)with|(lo,hi)=>pure (lo,(1:JI),Mw lo hi 1)) _ _ s
 rw[rK lo hi n];show wpAny _ _ (pure (((b7 n 0 lo:Jx):JI),(1:JI),Mw ((b7 n 0 lo:Jx):JI) ((b7 n n hi:Jx):JI) 1)) _ _ s;rw[rL];exact Ju h
def xg (xs:J8 Jr)(i k:Jx):((JW k).filterMap λ(m:Jx)=>xs[((i:JI)+(m:JI)*1).toNat]?).toArray=((xs.toList.drop i).take k).toArray:=by
 have e:(λ(m:Jx)=>xs[((i:JI)+(m:JI)*1).toNat]?)=λm=>xs[i+m]?:=by
  funext m
  have:((i:JI)+(m:JI)*1).toNat=i+m:=∅
  rw[this]
 rw[e];have:=pick_run xs i k;rw[List.filterMap_map]at this;have e2:((λx=>xs[x]?)∘λx=>i+x)=λm=>xs[i+m]?:=rfl
 rw[e2]at this;rw[this]
def iG {t sl:JA}{items:J8 Jr}{vl vu:Jr}{lo hi:Jw JI}{Q:Jr->Jt->Prop}(ht:QE s.heap t items)(hs:s.heap.IsSliceOf sl vl vu .none)(pl:Ou vl lo)(pu:Ou vu hi)
  (hw:¬ (b7 items.size 0 lo=0/\b7 items.size items.size hi=items.size))
  (h:Q (.ref s.heap.objs.size) { s with heap:=s.heap.push { cls:=.type "tuple",data:=.seq ((items.toList.drop (b7 items.size 0 lo)).take (b7 items.size items.size hi - b7 items.size 0 lo)).toArray } })
  (hsz:items.size<=sizeLine):wpAny (model prog w) A (getItem (.ref t) (.ref sl)) Q E s:=by
 have htake:sizeOk (.seq ((items.toList.drop (b7 items.size 0 lo)).take (b7 items.size items.size hi - b7 items.size 0 lo)).toArray):=by
  show((items.toList.drop (b7 items.size 0 lo)).take (b7 items.size items.size hi - b7 items.size 0 lo)).toArray.size<=sizeLine;rw[JM,Kn,Ni,JS];omega
 have hj:b7 items.size items.size hi<=items.size:=Dt _ _ (JB _) hi;obtain⟨os,hos,hcs,hds⟩:=id hs;have hTs:s.TypeIs (.ref sl) "slice":=#[os,hos,hcs];unfold getItem
 try with_reducible refine KR ?_
 first|refine Jo (Ju ?_)|skip
 refine Jo (QL ht.typeIs #v[] ?_)
 refine Jo (KI (name:=LD "__getitem__") ht.typeIs LW
  (KL LW ht.typeIs Qb ?_ (Qr _ _)))
 show wpAny _ _ (Nb (.ref t) >>= _) _ _ s;refine Jo (R9 ht ?_);refine Jo (MZ hTs ?_);rw[JZ #v[]]
 refine Jo (eT hs pl pu ?_);have hno:¬ ((((b7 items.size 0 lo:Jx):JI)==0&&(1:JI)==1&&(b7 items.size items.size hi - b7 items.size 0 lo)==items.size)=true):=by
  intro q;rw[Jv,Jv]at q;have q1:((b7 items.size 0 lo:Jx):JI)=0:=eq_of_beq q.1.1;have q2:b7 items.size items.size hi - b7 items.size 0 lo=items.size:=eq_of_beq q.2;exact hw #[∅,∅]
 show wpAny _ _ (if (((b7 items.size 0 lo:Jx):JI)==0&&(1:JI)==1&&(b7 items.size items.size hi - b7 items.size 0 lo)==items.size)=true then _ else _) _ _ s
 rw[Kb hno,xg]
 first
  | exact Jo (m:=Lz _) (Kr (Ju #[_,rfl,Ju h]) htake)
  | exact Jo (m:=Lz _) (Kr (Jo (Ju (Ju #[_,rfl,Ju h]))) htake)
  | exact Jo (Jo (m:=Lz _) (Kr (Ju (Ju #[_,rfl,Ju h])) htake))
  | exact Jo (Jo (m:=Lz _) (Kr (Ju #[_,rfl,Ju h]) htake))
end
end HT
namespace L2
open PySem PySem.Spec PyProof.Rows
noncomputable abbrev TO:=St->Hp->(Jw JI->Hp->Prop)->Prop
abbrev PO (X:Cx)(e:Jw J3)(t:TO):Prop:=
 ∀(J:Jn (JA×Lo)) (s:Jt) (Y:St) (H:Hp) (Q:Jw JI->Hp->Prop),Inv X J Y H s->t Y H Q->
  wpAny (model X.prog X.w) X.A (evalPart e X.env) (λu s'=>∃o H',Inv X J Y H' s'/\Ou u o/\Q o H') X.xe s
abbrev Av:TO:=λ_ H Q=>Q gV H
abbrev Ft (t:TE):TO:=λY H Q=>t Y H λx H1=>∃i,x=.int i/\Q (ba i) H1
section
variable{X:Cx}{e:J3}{te:TE}{lo hi:Jw J3}{tl th:TO}{pos p2:Mo}
def Aw:PO X gV Av:=by
 intro J s Y H Q I h;rw[Sc];exact Ju #[gV,H,I,.none,h]
def Ax (h:PE X e te):PO X (ba e) (Ft te):=by
 intro J s Y H Q I hw;rw[evalPart_some];refine bq (h J s Y H _ I hw) λu s1 #[x,H1,I1,r1,q1]=>?_
 obtain⟨i,rfl,q⟩:=q1;obtain⟨t,rfl⟩:=r1;exact#[ba i,H1,I1,.int i t,q]
abbrev Fu (X:Cx)(r:V->Jw JI->Jw JI->Hp->VK->Prop):Prop:=
 ∀(J:Jn (JA×Lo)) (s:Jt) (Y:St) (H:Hp) (x:V) (v vl vu:Jr) (lo hi:Jw JI) (sl:JA) (Q:VK),Inv X J Y H s->RelV x v->s.heap.IsSliceOf sl vl vu .none->Ou vl lo->Ou vu hi->r x lo hi H Q->
  ∃T id,typeLookup (.type T) "__getitem__" = pure (ba (.builtin id))/\s.TypeIs v T/\wpAny (model X.prog X.w) X.A (getItem v (.ref sl)) (EP X J Y Q) X.xe s
abbrev Jf (r:V->Jw JI->Jw JI->Hp->VK->Prop)(te:TE)(tl th:TO):TE:=λY H Q=>te Y H λx H1=>tl Y H1 λl H2=>th Y H2 λu H3=>r x l u H3 Q
def xh {r:V->Jw JI->Jw JI->Hp->VK->Prop}(hr:Fu X r)(he:PE X e te)(hl:PO X lo tl)(hu:PO X hi th):PE X (.Subscript e (.Slice lo hi gV p2) pos) (Jf r te tl th):=by
 intro J s Y H Q I h;refine Subscript_ (bq (he J s Y H _ I h) λv s1 #[x,H1,I1,r1,q1]=>?_)
 refine wpAny_Slice (bq (hl J s1 Y H1 _ I1 q1) λvl s2 #[l,H2,I2,pl,q2]=>bq (hu J s2 Y H2 _ I2 q2) λvu s3 #[u,H3,I3,pu,q3]=>?_)
 rw[Sc];refine Ju ?_;have I4:Inv X J Y H3 { s3 with heap:=s3.heap.push { cls:=.type "slice",data:=.fields [vl,vu,.none].toArray } }:=I3.kept (t':=s3.toks) λb ob q=>Jq _ q
 obtain⟨T,id,hT,ht,hg⟩:=hr J { s3 with heap:=s3.heap.push { cls:=.type "slice",data:=.fields [vl,vu,.none].toArray } } Y H3 x v vl vu l u s3.heap.objs.size Q I4 r1 (Tp ..) pl pu q3
 show wpAny (model X.prog X.w) X.A (subscriptTail e (.Slice lo hi gV p2) v (.ref s3.heap.objs.size)) (EP X J Y Q) X.xe { s3 with heap:=s3.heap.push { cls:=.type "slice",data:=.fields [vl,vu,.none].toArray } }
 exact tail_any (ops:=[.ref s3.heap.objs.size,v]) ht hT hg (by with_unfolding_all rfl)
abbrev kC (xs:Jn V)(lo hi:Jw JI):Jn V:=(xs.drop (HT.b7 xs.length 0 lo)).take (HT.b7 xs.length xs.length hi - HT.b7 xs.length 0 lo)
def jK (xs:Jn V)(lo hi:Jw JI):(kC xs lo hi).length<=xs.length:=by
 unfold kC;rw[Kn,Ni];omega
abbrev HF (K:JH):V->Jw JI->Jw JI->Hp->VK->Prop:=λx lo hi H Q=>∃a xs,x=.ref a/\SqT K H a xs/\
 ¬ (HT.b7 xs.length 0 lo=0/\HT.b7 xs.length xs.length hi=xs.length)/\∀p,H p=gV->Q (.ref p) (br H p (.tup (kC xs lo hi)))
def Du:Fu X (HF X.K):=by
 intro J s Y H x v vl vu lo hi sl Q I rx hs pl pu h;obtain⟨a,xs,rfl,hx,hw,q⟩:=h;cases rx;obtain⟨its,r,ht,hz⟩:=I.tuple hx;have hlen:its.toArray.size=xs.length:=by rw[JM]; exact r.length.symm
 refine#["tuple",_,PyProof.Rows.slot_tuple_getitem.lookup,ht.typeIs,?_];refine HT.iG ht hs pl pu (by rw[hlen]; exact hw) ?_ (by rw[hlen]; exact hz)
 rw[hlen];refine#[.ref s.heap.objs.size,_,I.laid (t':=s.toks) (o:=.tup (kC xs lo hi)) (λb ob q=>Jq _ q) (JB _) ?_,rfl,q _ (I.hok.fresh (JB _))]
 exact#[JY (jK xs lo hi) hz,_,(r.drop (HT.b7 xs.length 0 lo)).take (HT.b7 xs.length xs.length hi - HT.b7 xs.length 0 lo),Rb _ _]
def Vals.nil_iff {xs:Jn V}{us:Jn Jr}(r:Vals xs us):us=[]↔xs=[]:=by
 cases r with
 | nil=>simp
 | cons _ _=>simp
end
abbrev tf (n:Jx)(i:JI):Jw Jx:=if 0<=i then(if i < n then ba i.toNat else gV)else if -(n:JI)<=i then ba (i+n).toNat else gV
abbrev pf {α:Type}(xs:Jn α)(i:JI):Jw α:=(tf xs.length i).bind λj=>xs[j]?
def tj {n:Jx}{i:JI}{j:Jx}(h:tf n i=ba j):seqIndex? i n=ba j/\j < n/\-(n:JI)<=i/\i < n:=by
 unfold tf at h
 by_cases h0:0<=i
 ·rw[JZ h0]at h
  by_cases h1:i < n
  ·rw[JZ h1]at h;have e:i.toNat=j:=KQ h;exact#[by rw[Rv h0 h1,e],∅,∅,h1]
  ·rw[Kb h1]at h; cases h
 ·rw[Kb h0]at h
  by_cases h1 : -(n:JI)<=i
  ·rw[JZ h1]at h;have e:(i+n).toNat=j:=KQ h;exact#[by rw[QM ∅ h1,e],∅,h1,∅]
  ·rw[Kb h1]at h; cases h
def nJ {α:Type}{xs:Jn α}{i:JI}{v:α}(h:pf xs i=ba v):∃j,seqIndex? i xs.length=ba j/\xs[j]?=ba v/\j < xs.length/\-(xs.length:JI)<=i/\i < xs.length:=by
 unfold pf at h;cases e:tf xs.length i with
 | none=>rw[e]at h; cases h
 | some j=>
  rw[e]at h;obtain⟨h1,h2,h3,h4⟩:=tj e;exact#[j,h1,h,h2,h3,h4]
def atI_nat {α:Type}{xs:Jn α}{j:Jx}{v:α}(h:xs[j]?=ba v):pf xs (j:JI)=ba v:=by
 have hj:j < xs.length:=(JF.mp h).1;have e:tf xs.length (j:JI)=ba j:=by
  unfold tf;rw[JZ ∅,JZ ∅]; simp
 unfold pf; rw[e]; exact h
abbrev nK (b:J3):Prop:=∀o i,subscripted b false o i=operate [o,i] (getItem o i)
abbrev IxR (X:Cx)(r:R2):Prop:=
 ∀(value slice:J3) (J:Jn (JA×Lo)) (s:Jt) (Y:St) (H:Hp) (x y:V) (v u:Jr) (Q:VK),Inv X J Y H s->RelV x v->RelV y u->r x y H Q->
  subscripted slice false v u=operate [v,u] (getItem v u)->wpAny (model X.prog X.w) X.A (subscriptTail value slice v u) (EP X J Y Q) X.xe s
abbrev MtR (X:Cx)(id:Lc)(r:V->Jn V->Hp->VK->Prop):Prop:=
 ∀(J:Jn (JA×Lo)) (s:Jt) (Y:St) (H:Hp) (x:V) (xs:Jn V) (v:Jr) (us:Jn Jr) (Q:VK),Inv X J Y H s->RelV x v->Vals xs us->r x xs H Q->
  wpAny (model X.prog X.w) X.A (call (.builtin id) (v::us)) (EP X J Y Q) X.xe s
section
variable{X:Cx}{a b:J3}{ta tb:TE}{pos:Mo}
def Fv {r:R2}(hr:IxR X r)(ha:PE X a ta)(hb:PE X b tb)(hs:nK b):PE X (.Subscript a b pos) (G7 r ta tb):=by
 intro J s Y H Q I h;exact Subscript_ (Dh ha hb I h λv u s2 x y H2 I2 rx ry q=>hr a b J s2 Y H2 x y v u Q I2 rx ry q (hs _ _))
abbrev HG (K:JH):R2:=λx y H Q=>∃p xs i v,x=.ref p/\y=.int i/\SqL K H p xs/\pf xs i=ba v/\Q v H
abbrev HH (K:JH):R2:=λx y H Q=>∃p xs i v,x=.ref p/\y=.int i/\SqT K H p xs/\pf xs i=ba v/\Q v H
abbrev HI:R2:=λx y H Q=>∃z i c,x=.str z/\y=.int i/\z.length<=sizeLine/\pf z.cps.toList i=ba c/\Q (.str #[[c].toArray]) H
def Ay:IxR X (HG X.K):=by
 intro value slice J s Y H x y v u Q I rx ry h hs;obtain⟨p,xs,i,z,rfl,rfl,hq,he,q⟩:=h;cases rx;obtain⟨t,rfl⟩:=ry;obtain⟨its,r,pl,hz⟩:=I.list hq;obtain⟨j,h1,h2,h3,h4,h5⟩:=nJ he;obtain⟨w,ew,rw'⟩:=r.get h2;have hl:=r.length;have hn:=jj;have fin:EP X J Y Q w s:=#[z,H,I,rw',q]
 by_cases h0:0<=i
 ·have hj:i.toNat=j:=by
   rw[Rv h0 h5]at h1;exact KQ h1
  exact item_listR pl.isList h0 ∅ (by rw[hj]; simpa using ew) fin hs
 ·have hj:(i+(its.toArray.size:JI)).toNat=j:=by
   rw[QM ∅ h4]at h1
   rw[JM,<- hl];exact KQ h1
  exact NN (x:=w) pl.isList.typeIs slot_list_getitem.lookup
   (wpAny_getItem_list_neg (Q:=λr s'=>r=w/\EP X J Y Q r s') pl.isList ∅ (by rw[JM] <;> omega) ∅ (by rw[hj]; simpa using ew) #[rfl,fin]) hs
def Dv:IxR X (HH X.K):=by
 intro value slice J s Y H x y v u Q I rx ry h hs;obtain⟨p,xs,i,z,rfl,rfl,hq,he,q⟩:=h;cases rx;obtain⟨t,rfl⟩:=ry;obtain⟨its,r,pl,hz⟩:=I.tuple hq;obtain⟨j,h1,h2,h3,h4,h5⟩:=nJ he;obtain⟨w,ew,rw'⟩:=r.get h2;have hl:=r.length;have hn:=jj;have fin:EP X J Y Q w s:=#[z,H,I,rw',q];exact NN (x:=w) pl.typeIs slot_tuple_getitem.lookup
  (getItem_tuple (j:=j) (Q:=λr s'=>r=w/\EP X J Y Q r s') pl ∅ ∅ (by rw[JM,<- hl]; exact h1) (by simpa using ew) #[rfl,fin]) hs
def Dw:IxR X HI:=by
 intro value slice J s Y H x y v u Q I rx ry h hs;obtain⟨z,i,c,rfl,rfl,hz,he,q⟩:=h;obtain⟨t,rfl⟩:=rx;obtain⟨t',rfl⟩:=ry;obtain⟨j,h1,h2,h3,h4,h5⟩:=nJ he;have hl:z.cps.toList.length=z.length:=by simp[Tq]
 rw[hl]at h1 h4 h5;have hn:=jj;exact tail_any (typeIs_str s z t) slot_str_getitem.lookup (getItem_str (c:=c) (by
  have e1:decide (i < -(2 ^ 63:JI))=false:=Ki ∅
  have e2:decide (i>=2 ^ 63)=false:=Ki ∅
  rw[e1,e2,Qi]) (by rw[h1]; simpa using h2) #[.str #[[c].toArray],H,I.tok _,#[_,rfl],q]) hs
def rM (its:Jn Jr)(n j:Jx)(u:Jr):Ld (·.setIfInBounds j u) { cls:=.type "list",data:=.seq its.toArray n }={ cls:=.type "list",data:=.seq (its.set j u).toArray n }:=by
 simp[Ld]
def Inv.lst {J:Jn (JA×Lo)}{Y:St}{H:Hp}{s:Jt}{p:JA}{xs:Jn V}(I:Inv X J Y H s)(h:H p=ba (.lst xs)) :
  ∃(its:Jn Jr) (n:Jx),Vals xs its/\s.heap.get? p=ba { cls:=.type "list",data:=.seq its.toArray n }/\xs.length<=sizeLine:=by
 obtain⟨z,its,n,r,e⟩:=I.hok p _ h;exact#[its,n,r,e,z]
def Inv.lstUpd {J:Jn (JA×Lo)}{Y:St}{H:Hp}{s:Jt}{p:JA}{xs ys:Jn V}{its its':Jn Jr}{n n':Jx}{f:Lo->Lo}(I:Inv X J Y H s)(h:H p=ba (.lst xs))
  (ho:s.heap.get? p=ba { cls:=.type "list",data:=.seq its.toArray n }) (hf:f { cls:=.type "list",data:=.seq its.toArray n }={ cls:=.type "list",data:=.seq its'.toArray n' }) (r:Vals ys its') (hz:ys.length<=sizeLine) (t:Jx) :
  Inv X J Y (br H p (.lst ys)) { s with heap:=s.heap.update p f,toks:=t }:=by
 have e:(s.heap.update p f).get? p=ba { cls:=.type "list",data:=.seq its'.toArray n' }:=by
  rw[Lk f ho (by rw[hf] <;> rfl),hf]
 refine I.write (x:=p) (e:=p) (by rw[h]; trivial) (.inl rfl) (λb u hb q=>(Kx _ _ (Ne.symm hb)).trans q) #[_,e] ?_
 exact#[hz,its',n',r,e]
abbrev Fw:V->V->V->Hp->(Hp->Prop)->Prop:=λo i v H Q=>∃p xs k j,o=.ref p/\i=.int k/\H p=ba (.lst xs)/\tf xs.length k=ba j/\Q (br H p (.lst (xs.set j v)))
def xi:C8 X Fw:=by
 intro J s Y H o i v ov iv u Q I ro ri rv h;obtain⟨p,xs,k,j,rfl,rfl,hp,hj,q⟩:=h;cases ro;obtain⟨t,rfl⟩:=ri;obtain⟨its,n,r,ho,hz⟩:=I.lst hp;obtain⟨h1,h2,h3,h4⟩:=tj hj;have hl:=r.length;have hn:=jj;have I':Inv X J Y (br H p (.lst (xs.set j v))) { s with heap:=s.heap.update p (Ld (·.setIfInBounds j u)) }:=
  I.lstUpd hp ho (rM its n j u) (r.set rv j) (by rw[List.length_set]; exact hz) s.toks
 by_cases h0:0<=k
 ·have hk:k.toNat=j:=by
   rw[Rv h0 h4]at h1;exact KQ h1
  exact PySem.W.ki_setAt ho h0 ∅ (by rw[JM,<- hl]; exact h4) (by rw[hk]; exact#[_,I',q])
 ·have hk:(k+(its.toArray.size:JI)).toNat=j:=by
   rw[QM ∅ h3]at h1
   rw[JM,<- hl];exact KQ h1
  exact PySem.W.ki_setBack ho ∅ (by rw[JM,<- hl]; exact h3) ∅ (by rw[hk]; exact#[_,I',q])
def nL (lo hi:Jw JI)(n:Jx):(sliceBounds lo hi gV n).1=((HT.b7 n 0 lo:Jx):JI)/\(sliceBounds lo hi gV n).2.1=((HT.b7 n n hi:Jx):JI)/\(sliceBounds lo hi gV n).2.2=1:=by
 refine#[?_,?_,rfl]
 ·cases lo with
  | none=>simp[sliceBounds,HT.b7]
  | some i=>
   simp only[sliceBounds,HT.b7,Rf,show(1:JI) > 0 by decide,Ls]
   by_cases h:i < 0
   ·simp only[h,Ls] <;> omega
   ·simp only[h,KZ] <;> omega
 ·cases hi with
  | none=>simp[sliceBounds,HT.b7]
  | some i=>
   simp only[sliceBounds,HT.b7,Rf,show(1:JI) > 0 by decide,Ls]
   by_cases h:i < 0
   ·simp only[h,Ls] <;> omega
   ·simp only[h,KZ] <;> omega
def lU (its:Jn Jr)(lo hi:Jw JI):slicePick its.toArray lo hi gV=((its.drop (HT.b7 its.length 0 lo)).take (HT.b7 its.length its.length hi - HT.b7 its.length 0 lo)).toArray:=by
 obtain⟨h1,h2,h3⟩:=nL lo hi its.toArray.size;unfold slicePick;rw[h1,h2,h3];simp only[sliceRange_one,pick_run,JM] <;> rfl
abbrev HJ (K:JH):V->Jw JI->Jw JI->Hp->VK->Prop:=λx lo hi H Q=>∃a xs,x=.ref a/\SqL K H a xs/\∀p,H p=gV->Q (.ref p) (br H p (.lst (kC xs lo hi)))
def Az:Fu X (HJ X.K):=by
 intro J s Y H x v vl vu lo hi sl Q I rx hs pl pu h;obtain⟨a,xs,rfl,hx,q⟩:=h;cases rx;obtain⟨its,r,ht,hz⟩:=I.list hx;have hlen:=r.length;refine#["list",_,slot_list_getitem.lookup,ht.isList.typeIs,?_];refine wpAny_getItem_list_slice ht.isList hs pl pu .none (by simp) ?_ (by rw[JM] <;> omega)
 rw[lU,<- hlen];refine#[.ref s.heap.objs.size,_,I.laid (t':=s.toks) (o:=.lst (kC xs lo hi)) (λb ob q=>Jq _ q) (JB _) ?_,rfl,q _ (I.hok.fresh (JB _))]
 exact#[JY (jK xs lo hi) hz,_,0,(r.drop (HT.b7 xs.length 0 lo)).take (HT.b7 xs.length xs.length hi - HT.b7 xs.length 0 lo),JJ _ rfl]
abbrev gT:V->J6
 | .non=>true
 | .bl _=>true
 | .int _=>true
 | .str _=>true
 | _=>false
abbrev AA:V->V->J6
 | .non,.non=>true
 | .bl a,.bl b=>a==b
 | .bl a,.int b=>(if a then 1 else 0)==b
 | .int a,.bl b=>a==(if b then 1 else 0)
 | .int a,.int b=>a==b
 | .str a,.str b=>a==b
 | _,_=>false
def Dx {A:Kk}{s:Jt}{y x:V}{u v:Jr}(ry:RelV y u)(rx:RelV x v)(fy:gT y=true)(fx:gT x=true):NY A s u v (AA y x):=by
 cases y with
 | non=>
  cases ry;cases x with
  | non=>cases rx; exact TR _
  | bl b=>cases rx; exact SR b
  | int b=>obtain⟨t,rfl⟩:=rx; exact Te b t
  | str b=>obtain⟨t,rfl⟩:=rx; exact Tf b t
  | _=>exact absurd (show false=true from fx) J1
 | bl a=>
  cases ry;cases x with
  | non=>cases rx; exact SS a
  | bl b=>cases rx; exact SU a b
  | int b=>obtain⟨t,rfl⟩:=rx; exact Th a b t
  | str b=>obtain⟨t,rfl⟩:=rx; exact Ti a b t
  | _=>exact absurd (show false=true from fx) J1
 | int a=>
  obtain⟨t',rfl⟩:=ry;cases x with
  | non=>cases rx; exact Tj a t'
  | bl b=>cases rx; exact Tk a t' b
  | int b=>obtain⟨t,rfl⟩:=rx; exact Ts a t' b t
  | str b=>obtain⟨t,rfl⟩:=rx; exact Qm a t' b t
  | _=>exact absurd (show false=true from fx) J1
 | str a=>
  obtain⟨t',rfl⟩:=ry;cases x with
  | non=>cases rx; exact Tl a t'
  | bl b=>cases rx; exact Tn a t' b
  | int b=>obtain⟨t,rfl⟩:=rx; exact Qn a t' b t
  | str b=>obtain⟨t,rfl⟩:=rx; exact Tt a t' b t
  | _=>exact absurd (show false=true from fx) J1
 | _=>exact absurd (show false=true from fy) J1
abbrev rN (x:V)(u:Jr):J6:=match u with
 | .none=>AA .non x
 | .bool b=>AA (.bl b) x
 | .int i _=>AA (.int i) x
 | .str z _=>AA (.str z) x
 | _=>false
def xj {x y:V}{u:Jr}(r:RelV y u)(f:gT y=true):rN x u=AA y x:=by
 cases y with
 | non=>cases r; rfl
 | bl b=>cases r; rfl
 | int i=>obtain⟨t,rfl⟩:=r; rfl
 | str z=>obtain⟨t,rfl⟩:=r; rfl
 | _=>exact absurd (show false=true from f) J1
def iH {x:V}:∀ {xs:Jn V} {us:Jn Jr},Vals xs us->xs.all gT=true->us.any (rN x)=xs.any λy=>AA y x
 | _,_,.nil,_=>rfl
 | y::xs,u::us,.cons r t,f=>by
  rw[KJ,Jv]at f;rw[Ml,Ml,xj r f.1,iH t f.2]
def fW {A:Kk}{s:Jt}{x:V}{v:Jr}(rx:RelV x v)(fx:gT x=true):∀ {xs:Jn V} {us:Jn Jr},Vals xs us->xs.all gT=true->∀u∈us,NY A s u v (rN x u)
 | _,_,.nil,_=>λu hu=>by cases hu
 | y::xs,u::us,.cons r t,f=>λu' hu=>by
  rw[KJ,Jv]at f;rcases JX.mp hu with rfl|hu
  ·rw[xj r f.1]; exact Dx r rx f.1 fx
  ·exact fW rx fx t f.2 u' hu
abbrev G9 (x:V)(xs:Jn V):J6:=xs.any λy=>AA y x
abbrev HK (K:JH)(neg:J6):R2:=λx y H Q=>∃p xs,y=.ref p/\(SqL K H p xs\/SqT K H p xs)/\gT x=true/\xs.all gT=true/\Q (.bl (if neg then !G9 x xs else G9 x xs)) H
def vd:OpR X (compareOp .In) (HK X.K false):=by
 intro J s Y H x y v u Q I rx ry h;obtain⟨p,xs,rfl,hq,fx,fs,q⟩:=h;cases ry;rcases hq with hq|hq
 ·obtain⟨its,r,pl,hz⟩:=I.list hq;refine RC (rN x) pl.isList (λw hw=>fW rx fx r fs w (by simpa using hw)) #[.bl _,H,I,rfl,?_]
  rw[show its.toArray.any (rN x)=its.any (rN x) by simp,iH r fs]
  exact q
 ·obtain⟨its,r,pl,hz⟩:=I.tuple hq;refine Rg (rN x) pl (λw hw=>fW rx fx r fs w (by simpa using hw)) #[.bl _,H,I,rfl,?_]
  rw[show its.toArray.any (rN x)=its.any (rN x) by simp,iH r fs]
  exact q
def nM:OpR X (compareOp .NotIn) (HK X.K true):=by
 intro J s Y H x y v u Q I rx ry h;obtain⟨p,xs,rfl,hq,fx,fs,q⟩:=h;cases ry;rcases hq with hq|hq
 ·obtain⟨its,r,pl,hz⟩:=I.list hq;refine Qs (rN x) pl.isList (λw hw=>fW rx fx r fs w (by simpa using hw)) #[.bl _,H,I,rfl,?_]
  rw[show its.toArray.any (rN x)=its.any (rN x) by simp,iH r fs]
  exact q
 ·obtain⟨its,r,pl,hz⟩:=I.tuple hq;refine SeqAt.notIn_tupleAt (rN x) pl (λw hw=>fW rx fx r fs w (by simpa using hw)) #[.bl _,H,I,rfl,?_]
  rw[show its.toArray.any (rN x)=its.any (rN x) by simp,iH r fs]
  exact q
def nN:CallR X (.type "list") (λxs H Q=>∃p ys,xs=[.ref p]/\(SqL X.K H p ys\/SqT X.K H p ys)/\∀l,H l=gV->Q (.ref l) (br H l (.lst ys))):=by
 intro J s Y H xs us Q I r h;obtain⟨p,ys,rfl,hq,q⟩:=h;obtain⟨u,rfl,rx⟩:=l8 r;cases rx;have fin:∀(its:Jn Jr),Vals ys its->ys.length<=sizeLine->∀(h':Kw) (c':Jx),(∀b o',s.heap.get? b=ba o'->h'.get? b=ba o')->
   h'.get? s.heap.objs.size=ba { cls:=.type "list",dict:=gV,data:=.seq its.toArray c',slots:=#[] }->EP X J Y Q (.ref s.heap.objs.size) { s with heap:=h' }:=λits r' hz h' c' kp e=>
  #[.ref s.heap.objs.size,_,I.laid (t':=s.toks) kp (JB _) (show ObjOk X.prog X.w _ h' _ (.lst ys)from#[hz,its,c',r',e]),rfl,q _ (I.hok.fresh (JB _))]
 rcases hq with hq|hq
 ·obtain⟨its,r',pl,hz⟩:=I.list hq;have hlen:=r'.length;obtain⟨o,ho,hc,n,hd⟩:=pl.isList;exact Sd p (.inl rfl) ho hc hd (λh' c' kp e=>fin its r' hz h' c' kp e) (by simp only[JM] <;> omega)
 ·obtain⟨its,r',pl,hz⟩:=I.tuple hq;have hlen:=r'.length;obtain⟨o,ho,hc,n,hd⟩:=pl;exact Sd p (.inr rfl) ho hc hd (λh' c' kp e=>fin its r' hz h' c' kp e) (by simp only[JM] <;> omega)
def gU:CallR X (.type "tuple") (λxs H Q=>∃p ys,xs=[.ref p]/\((SqL X.K H p ys/\∀l,H l=gV->Q (.ref l) (br H l (.tup ys)))\/(SqT X.K H p ys/\Q (.ref p) H))):=by
 intro J s Y H xs us Q I r h;obtain⟨p,ys,rfl,h⟩:=h;obtain⟨u,rfl,rx⟩:=l8 r;cases rx;rcases h with⟨hq,q⟩|⟨hq,q⟩
 ·obtain⟨its,r',pl,hz⟩:=I.list hq;have hlen:=r'.length;refine call_tuple_list pl.isList (λh' kp=>?_) (by simp only[JM] <;> omega)
  have I1:Inv X J Y H { s with heap:=h' }:=I.kept (t':=s.toks) kp
  have I2:Inv X J Y (br H h'.objs.size (.tup ys)) { s with heap:=h'.push { cls:=.type "tuple",data:=.seq its.toArray } }:=
   I1.laid (t':=s.toks) (λb o e=>Jq _ e) (JB _) (show ObjOk X.prog X.w _ _ _ (.tup ys)from#[hz,its,r',Rb _ _])
  exact#[.ref h'.objs.size,_,I2,rfl,q _ (I1.hok.fresh (JB _))]
 ·obtain⟨its,r',pl,hz⟩:=I.tuple hq;exact call_tuple_same pl #[.ref p,H,I,rfl,q]
abbrev HL (K:JH)(T:Lc)(x:V)(H:Hp):Prop:=match x with
 | .str _=>T = "str"
 | .int _=>T = "int"
 | .ref p=>(T = "list"/\∃xs,SqL K H p xs)\/(T = "tuple"/\∃o,K.lookup p=ba o/\o.cls=.type "tuple"/\o.dict=gV)\/
   (T = "dict"/\((∃U,H p=ba (.dK U))\/∃U,H p=ba (.dT U)))\/(T = "set"/\∃S n,H p=ba (.set S n))
 | _=>K5
def xk {J:Jn (JA×Lo)}{Y:St}{H:Hp}{s:Jt}{T:Lc}{x:V}{v:Jr}(I:Inv X J Y H s)(r:RelV x v)(ty:HL X.K T x H) :
  s.TypeIs v T/\∀a,v=.ref a->∃ob,s.heap.get? a=ba ob/\ob.dict=gV:=by
 cases x with
 | str z=>
  obtain⟨t,rfl⟩:=r;cases(show T = "str" from ty)
  exact#[typeIs_str s z t,λ_ e=>nomatch e]
 | int i=>
  obtain⟨t,rfl⟩:=r;cases(show T = "int" from ty)
  exact#[RO s i t,λ_ e=>nomatch e]
 | ref p=>
  cases r;rcases ty with⟨rfl,xs,hq⟩|⟨rfl,o,hk,hc,hd⟩|⟨rfl,hk⟩|⟨rfl,S,n,hk⟩
  ·obtain⟨its,_,pl,_⟩:=I.list hq;refine#[pl.isList.typeIs,λa e=>?_]
   cases e;obtain⟨o,n,e,c,hd,_⟩:=pl;exact#[o,e,hd]
  ·refine#[#[o,I.kIn p o hk,hc],λa e=>?_]
   cases e;exact#[o,I.kIn _ o hk,hd]
  ·have z:∃o,s.heap.get? p=ba o/\o.ExactDict:=by
    rcases hk with⟨U,hk⟩|⟨U,hk⟩
    ·obtain⟨_,_,_,_,o,_,_,e,ex,_⟩:=I.hok p _ hk;exact#[o,e,ex]
    ·obtain⟨_,_,_,_,o,_,_,e,ex,_⟩:=I.hok p _ hk;exact#[o,e,ex]
   obtain⟨o,e,ex⟩:=z;refine#[#[o,e,ex.1],λa e2=>?_]
   cases e2;exact#[o,e,ex.2.1]
  ·obtain⟨o,_,_,_,e,ex,_⟩:=I.hok p _ hk;refine#[#[o,e,ex.1],λa e2=>?_]
   cases e2;exact#[o,e,ex.2.1]
 | _=>exact K5.elim ty
variable{o e:J3}{es:Jn J3}{to:TE}{t:TA}{name:JV}{apos cpos:Mo}{T id:Lc}{r:V->Jn V->Hp->VK->Prop}
end
abbrev HM (X:Cx)(id:Lc)(r:V->Jn V->Hp->VK->Prop):Prop:=
 ∀(J:Jn (JA×Lo)) (s:Jt) (Y:St) (H:Hp) (x:V) (xs:Jn V) (v:Jr) (us:Jn Jr) (Q:VK),Inv X J Y H s->RelV x v->Vals xs us->r x xs H Q->
  wpAny (model X.prog X.w) X.A (call (.builtin id) (v::us)) (EP X J Y Q) X.xe s
def Vals.one:∀ {x:V} {us:Jn Jr},Vals [x] us->∃u,us=[u]/\RelV x u
 | _,_,.cons r .nil=>#[_,rfl,r]
def Vals.eraseIdx:∀ {xs:Jn V} {us:Jn Jr} (i:Jx),Vals xs us->Vals (xs.eraseIdx i) (us.eraseIdx i)
 | _,_,_,.nil=>.nil
 | _,_,0,.cons _ t=>t
 | _,_,i+1,.cons r t=>.cons r (Vals.eraseIdx i t)
def Vals.rep {xs:Jn V}{us:Jn Jr}(h:Vals xs us):∀k:Jx,Vals (Ks k xs).flatten (Ks k us).flatten
 | 0=>.nil
 | k+1=>by
  rw[Lx,Lx,MA,MA];exact Vals.append h (Vals.rep h k)
def mj {α:Type}:∀(l:Jn α) (i:Jx),(l.eraseIdx i).length<=l.length
 | [],_=>JB _
 | _::_,0=>MB _
 | _::r,i+1=>NZ (mj r i)
def mo (its:Jn Jr):∀(k:Jx) (acc:Jn Jr),
  RP (λx1 x2=>x1++x2) acc.toArray (Ks k its.toArray)=(acc++(Ks k its).flatten).toArray
 | 0,acc=>by simp
 | k+1,acc=>by
  have e:acc.toArray++its.toArray=(acc++its).toArray:=by simp
  have e2:(acc++its)++(Ks k its).flatten=acc++(Ks (k+1) its).flatten:=by
   rw[Lx,MA,LQ]
  rw[<- e2,<- mo its k (acc++its),<- e,Lx,List.foldl_cons]
section
variable{X:Cx}{J:Jn (JA×Lo)}{Y:St}{H:Hp}{s:Jt}{l b:JA}{xs ys zs:Jn V}
def Inv.lset {its its':Jn Jr}{n:Jx}{f:J8 Jr->J8 Jr}{t':Jx}(I:Inv X J Y H s)(hH:H l=ba (.lst xs))
  (e:s.heap.get? l=ba { cls:=.type "list",data:=.seq its.toArray n }) (hf:f its.toArray=its'.toArray) (hv:Vals ys its') (hz:ys.length<=sizeLine) :
  Inv X J Y (br H l (.lst ys)) { s with heap:=s.heap.update l (Ld f),toks:=t' }:=by
 have q:=Rh e f;rw[hf]at q;refine I.write (x:=l) (e:=l) (by rw[hH]; exact trivial) (.inl rfl) (λb' u hb hu=>(Kx s.heap (Ld f) (Ne.symm hb)).trans hu) #[_,q] ?_
 exact#[hz,its',_,hv,q]
def Inv.lnew {its:Jn Jr}{t':Jx}(I:Inv X J Y H s)(hv:Vals ys its)(hz:ys.length<=sizeLine) :
  Inv X J Y (br H s.heap.objs.size (.lst ys)) { s with heap:=s.heap.push { cls:=.type "list",data:=.seq its.toArray },toks:=t' }:=
 I.laid (λ_ _ q=>Jq _ q) (JB _) #[hz,its,0,hv,JJ _ rfl]
def Inv.fresh (I:Inv X J Y H s):H s.heap.objs.size=gV:=I.hok.fresh (JB _)
def Inv.lstM (I:Inv X J Y H s)(hH:H l=ba (.lst xs)):xs.length<=sizeLine/\∃(its:Jn Jr) (n:Jx),Vals xs its/\xs.length=its.length/\s.heap.get? l=ba { cls:=.type "list",data:=.seq its.toArray n }:=by
 obtain⟨z,its,n,r,e⟩:=I.hok l _ hH;exact#[z,its,n,r,r.length,e]
def pg {n:Jx}(h:n<=sizeLine):MF n=false:=by
 unfold MF;exact Ki ∅
end
section
variable{X:Cx}
abbrev AB:V->Jn V->Hp->VK->Prop:=λx vs H Q=>∃l xs y,x=.ref l/\vs=[y]/\H l=ba (.lst xs)/\xs.length < sizeLine/\Q .non (br H l (.lst (xs++[y])))
def ve:HM X "list.append" AB:=by
 intro J s Y H x vs v us Q I rx rv h;obtain⟨l,xs,y,rfl,rfl,hH,hz,q⟩:=h;cases rx;obtain⟨u,rfl,ru⟩:=rv.one;obtain⟨z,its,n,r,hl,e⟩:=I.lstM hH;refine Ow F.slot_list_append #[_,e,rfl] F.entry_list_append (F.args_list_append_2 _ _) (QN l its.toArray n u (by rw[JM]; omega)) #[e,?_]
 refine#[.non,_,I.lset (its':=its++[u]) hH e (by simp) (r.append #v[ru]) ?_,rfl,q]
 rw[JC,K1];omega
abbrev AC:V->Jn V->Hp->VK->Prop:=λx vs H Q=>∃l b xs zs,x=.ref l/\vs=[.ref b]/\H l=ba (.lst xs)/\H b=ba (.lst zs)/\xs.length+zs.length<=sizeLine/\Q .non (br H l (.lst (xs++zs)))
def vf:HM X "list.extend" AC:=by
 intro J s Y H x vs v us Q I rx rv h;obtain⟨l,b,xs,zs,rfl,rfl,hH,hB,hz,q⟩:=h;cases rx;obtain⟨u,rfl,ru⟩:=rv.one;cases ru;obtain⟨z,its,n,r,hl,e⟩:=I.lstM hH;obtain⟨z2,its2,n2,r2,hl2,e2⟩:=I.lstM hB;have hsz:its.toArray.size+its2.toArray.size<=sizeLine:=by rw[JM,JM]; omega
 have hlong:¬ (!its.toArray.isEmpty&&MF (its.toArray.size+its2.toArray.size))=true:=by
  rw[pg hsz,Ox];exact J1
 refine Ow F.slot_list_extend #[_,e,rfl] F.entry_list_extend (F.args_list_extend_2 _ _)
  (QP l its.toArray n b its2.toArray n2 hlong (by rw[JM]; omega) ∅) #[e,e2,?_]
 refine#[.non,_,I.lset (its':=its++its2) hH e (by simp) (r.append r2) ?_,rfl,q]
 rw[JC];omega
abbrev Dy:V->Jn V->Hp->VK->Prop:=λx vs H Q=>∃l xs i k y,x=.ref l/\vs=[.int i]/\H l=ba (.lst xs)/\-(2 ^ 63)<=i/\i < 2 ^ 63/\seqIndex? i xs.length=ba k/\xs[k]?=ba y/\Q y (br H l (.lst (xs.eraseIdx k)))
def xl:HM X "list.pop" Dy:=by
 intro J s Y H x vs v us Q I rx rv h;obtain⟨l,xs,i,k,y,rfl,rfl,hH,h1,h2,hk,hy,q⟩:=h;cases rx;obtain⟨u,rfl,ru⟩:=rv.one;obtain⟨t,rfl⟩:=ru;obtain⟨z,its,n,r,hl,e⟩:=I.lstM hH;obtain⟨w,hw,rw'⟩:=r.get hy;refine Ow F.slot_list_pop #[_,e,rfl] F.entry_list_pop (F.args_list_pop_2 _ _)
  (SV l its.toArray n i t k w (RQ h1 h2) (by rw[JM,<- hl]; exact hk) (by rw[<- K2]; exact hw) (by rw[JM]; omega)) #[e,?_]
 refine#[y,_,I.lset (its':=its.eraseIdx k) hH e ?_ (r.eraseIdx k) ?_,rw',q]
 ·show its.toArray.eraseIdxIfInBounds k=(its.eraseIdx k).toArray;rw[List.eraseIdxIfInBounds_toArray]
 ·have:=mj xs k;omega
abbrev HN:R2:=λx y H Q=>∃l b xs zs,x=.ref l/\y=.ref b/\H l=ba (.lst xs)/\H b=ba (.lst zs)/\xs.length+zs.length<=sizeLine/\∀p,H p=gV->Q (.ref p) (br H p (.lst (xs++zs)))
def Dz:OpR X (binaryOp .Add) HN:=by
 intro J s Y H x y v u Q I rx ry h;obtain⟨l,b,xs,zs,rfl,rfl,hH,hB,hz,q⟩:=h;cases rx;cases ry;obtain⟨z,its,n,r,hl,e⟩:=I.lstM hH;obtain⟨z2,its2,n2,r2,hl2,e2⟩:=I.lstM hB;refine PySem.P.add_list e e2 ?_ (by rw[JM,JM]; omega)
 have ea:its.toArray++its2.toArray=(its++its2).toArray:=by simp
 rw[ea];exact#[.ref _,_,I.lnew (t':=s.toks) (r.append r2) (by rw[JC]; omega),rfl,q _ I.fresh]
abbrev HP:R2:=λx y H Q=>∃l k xs,x=.ref l/\y=.int k/\H l=ba (.lst xs)/\-(2 ^ 63)<=k/\k < 2 ^ 63/\xs.length*k.toNat<=sizeLine/\
 ∀p,H p=gV->Q (.ref p) (br H p (.lst (Ks k.toNat xs).flatten))
def AD {α:Type}(xs:Jn α)(k:Jx):(Ks k xs).flatten.length=k*xs.length:=by
 induction k with
 | zero=>simp
 | succ k ih=>rw[Lx,MA,JC,ih,M0,Pe]
def DA:OpR X (binaryOp .Mult) HP:=by
 intro J s Y H x y v u Q I rx ry h;obtain⟨l,k,xs,rfl,rfl,hH,h1,h2,hz,q⟩:=h;cases rx;obtain⟨t,rfl⟩:=ry;obtain⟨z,its,n,r,hl,e⟩:=I.lstM hH;have hlen:its.toArray.size*k.toNat<=sizeLine:=by rw[JM,<- hl]; exact hz
 have hcap:¬ its.toArray.size*k.toNat > (2 ^ 63 - 1) / 8:=by
  have:(sizeLine:Jx)<=(2 ^ 63 - 1) / 8:=by decide
  omega
 have hfit:¬ (!RS k)=true:=by
  rw[RQ h1 h2];exact J1
 have hlong:¬ MF (its.toArray.size*k.toNat)=true:=by
  rw[pg hlen];exact J1
 have hnew:RP (λx1 x2=>x1++x2) #[] (Ks (if its.toArray.isEmpty=true then 0 else k.toNat) its.toArray)=(Ks k.toNat its).flatten.toArray:=by
  have f0:∀m:Jx,RP (λx1 x2=>x1++x2) #[] (Ks m its.toArray)=(Ks m its).flatten.toArray:=λm=>by
   have:=mo its m [];rw[List.nil_append]at this;exact this
  rw[f0];cases its with
  | nil=>simp
  | cons a r'=>rw[Kb (by simp)]
 refine wpAny_binaryOp_repeat_ref (T:="list") (U:="int") #v[] #[_,e,rfl] (λs'=>RO s' k t) noFill_list_mul F.fills_int_mul F.slot_int_rmul repeat_list F.slot_int_index.lookup
  (Ow F.slot_int_rmul (RO s k t) F.entry_int_rmul (F.args_int_rmul_2 _ _) (int___rmul___int_list k t l its.toArray n)
   #[e,rfl,#[_,e,rfl],Ow F.slot_list_mul #[_,e,rfl] F.entry_list_mul (F.args_list_mul_2 _ _) (QD l its.toArray n k t hfit hcap hlong) #[e,?_]])
 rw[hnew];exact#[.ref _,_,I.lnew (t':=s.toks) (r.rep k.toNat) (by rw[AD,Nj]; exact hz),rfl,q _ I.fresh]
end
section
variable{X:Cx}{J:Jn (JA×Lo)}{Y:St}{H:Hp}{s:Jt}{a:JA}{y v:V}{u r:Jr}{o:Jw V}{A:Kk}{E:Jr->Jt->Prop}
def Inv.big (I:Inv X J Y H s):sysModules < s.heap.objs.size:=by
 have h:mainGlobals < s.heap.objs.size:=(I.mod.glob.keeps I.bk).lt;exact Pf #v[] h
def nO {h':Kw}{t':Jx}{ob:HO}(I:Inv X J Y H s)(mu:E1 (H a))(hs:LC a s.heap h')(he:∃q,h'.get? a=ba q)(new:ObjOk X.prog X.w (br H a ob) h' a ob) :
  Inv X J Y (br H a ob) { s with heap:=h',toks:=t' }:=
 I.write (x:=a) (e:=a) mu (.inl rfl) (λb q hb z=>(hs.2 b hb).trans z) he new
end
noncomputable abbrev VV:Jn (V×V)->Jn (Jr×Jr)->Prop:=Pa λp q=>RelV p.1 q.1/\RelV p.2 q.2
end L2
namespace Att
open PySem PySem.W PySem.Calls PyProof.Rows
def j4 {P:Qt}{h:Kw}:∀(ns:Jn JI) (vs:Jn Jr),WellAll P h vs (ns.map WData.int)->QQ vs ns:=by
 intro ns
 induction ns with
 | nil=>
  intro vs w;rw[QR]at w;cases w;exact .nil
 | cons n ns ih=>
  intro vs w;rw[KF]at w;cases w with
  | cons a b=>
   cases a;exact .cons _ _ (ih _ b)
def vg {l:OpenLaw}{n:Jx}(hn:l.most=ba n){P:Qt}{h:Kw}{args:Jn WData}{vals:Jn Jr}
  (hpre:l.row.toRowW.claim.pre args=true) (hwl:WellAll P h vals args) :
  ∃a vs ns,vals=[Kj a]/\args=[WData.list (ns.map WData.int)]/\h.get? a=ba { cls:=.type "list",data:=.seq vs.toArray }/\QQ vs ns/\ns.length<=n:=by
 have hsh:WShape.hasAll [] args [.list .int]=true:=(pre_splitW hpre).1;have hc:l.pre.holds [] { args:=args }=true:=(pre_splitW hpre).2;obtain⟨d,r,rfl,h1,h2⟩:=hasAllW_cons hsh;obtain rfl:=hasAllW_nil h2;obtain⟨xs,rfl,h3⟩:=hasW_list h1;obtain⟨ns,rfl⟩:=items_int h3;have hlen:ns.length<=n:=by
  unfold OpenLaw.pre at hc;have h4:(WTm.not (.lt (.lit (.int (n:JI))) (.len (.arg 0)))).holds [] { args:=[.list (ns.map .int)] }=true:=by
   have h4:=(holds_andW hc).1;rw[hn]at h4;exact h4
  have h5:=condW_of h4 (w_not (w_lt w_lit (w_len_list (w_arg rfl))));rw[Jp]at h5;refine Ri λq=>?_
  have q':(n:JI) < ((ns.length:Jx):JI):=∅
  first
   | (rw[Lg q']at h5; exact absurd h5 #v[])
   | (simp at h5; omega)
 cases hwl with
 | cons w1 w2=>
  cases w2;cases w1 with
  | list ho hall=>exact#[_,_,ns,rfl,rfl,ho,j4 ns _ hall,hlen]
def vh (l:OpenLaw)(args:Jn WData):l.row.toRowW.claim.post args (.bool true) args=true:=
 postW_of (r:=l.row.toRowW) (X:=(true==true))
  (show WShape.has [] (.bool true) .bool=true by first|rfl|decide|simp[WShape.has,WShape.arms,WShape.armsAll])
  (show(WTm.eq .res (.lit (.bool true))).value [] { args:=args,res:=ba (.bool true),after:=args }=ba (.bool (true==true))from w_eq_bool (w_res rfl) w_lit) rfl
def attach_call {l:OpenLaw}{n:Jx}{q:Kh}{loose:Jn JV}{XP:(JV->Jw Jr)->Kw->Prop}{YP:Km->Kw->Prop}{d:DefRec}
  (hn:l.most=ba n) (hdf:d.params.defaults=[])
  (call:∀(w:Km) (s₀ s₁:Jt) (mg mb:JV->Jw Jr) (fa:JA) (o:Lo) (pm cd doc:Jr) (a:JA) (vs:Jn Jr) (ns:Jn JI),
   Ground q loose [] XP w s₀ mg mb s₁.heap->YP w s₁.heap->
   s₁.heap.get? fa=ba o->o.data=.func (docDef d.name d.params d.body d.scope pm cd doc)->s₁.heap.CodeRec cd d.name->mg d.name=ba (.ref fa)->
   s₁.heap.get? a=ba { cls:=.type "list",data:=.seq vs.toArray }->QQ vs ns->ns.length<=n->s₁.gens=#[]->
   codeAny (model l.prog w) callerA (.call (.ref fa) #[[.ref a],[]]) (λr s'=>r=.ok (.ret (.bool true))/\OldK s₁.heap s'.heap/\s'.os=s₁.os/\OS s'.gens) s₁) :
  WalkO q loose XP YP l.row.toRowW d [] (λf vs=>RT f vs):=by
 intro w s₀ s₁ mg mb G Yq fa o pm cd doc dV kV ho hd hcd hD hmg hg args vals as hpre hlay hrd hwl hlo;obtain rfl:dV=.none:=Dflts.none hD hdf;obtain rfl:kV=.none:=Dflts.noKw hD;obtain⟨a,vs,ns,rfl,rfl,hobj,hints,hlen⟩:=vg hn hpre hwl;refine enter_call (NL (call w s₀ s₁ mg mb fa o pm cd doc a vs ns G Yq ho (fd_plain hd) hcd hmg hobj hints hlen hg) λr s' hq=>?_)
 obtain⟨rfl,h2,h3,h4⟩:=hq;exact#[.inl #[.bool true,.bool true,[],rfl,λ_=>rfl,.bool true,vh l _,λ_=>#[Tz,λ_ hm=>(nomatch hm)]],h2,h3,h4]
end Att
namespace L2
open PySem PySem.Spec PyProof.Rows
def mq:∀ {vs:Jn Jr} {ns:Jn JI},QQ vs ns->Vals (ns.map V.int) vs
 | _,_,.nil=>.nil
 | _,_,.cons n t h=>.cons #[t,rfl] (mq h)
abbrev xm (H:Hp):Prop:=∀b,H b=gV\/∃o xs,H b=ba (.frz o (.lst xs))
def xn {P:Kh}{w:Km}{K:JH}{mg mb:JV->Jw Jr}{CX:w6}{k:Jx}{fa a:JA}{fd:Mp}{x:JV}{sp:Sp}{s₁:Jt}{vs:Jn Jr}{ns:Jn JI}
  (KX:K.In s₁.heap) (hns:s₁.heap.Ns mainGlobals mg) (hb:s₁.heap.Ns builtinsNs mb) (hbb:∀x:JV,x≠"__name__"->mb x=bootBuiltins x) (hlim:s₁.heap.NoLimit) (hg:s₁.gens=#[])
  (ha:s₁.heap.get? a=ba { cls:=.type "list",data:=.seq vs.toArray }) (hi:QQ vs ns) (hl:ns.length<=sizeLine) (hr:Room k callerA)
  (F:∀base:Kw,K.In base->base.Ns mainGlobals mg->FnOk P w K mg base CX k fa fd [x] sp) (hbind:∀(s:Jt) (u:Jr),QJ s fd #[[u],[]] [(x,u)])
  (hsp:∀H:Hp,xm H->SqL K H a (ns.map V.int)->sp [.ref a] H (λv _=>v=.bl true) λ_ _ _=>K5)
  (hCX:∀H e s',CX [] H s₁ (λ_ _ _=>K5) e s'->K5) :
  codeAny (model P w) callerA (.call (.ref fa) #[[.ref a],[]]) (λr s'=>r=.ok (.ret (.bool true))/\OldK s₁.heap s'.heap/\s'.os=s₁.os/\OS s'.gens) s₁:=by
 have rv:=mq hi;have lenV:=hi.length;have core:∀H:Hp,xm H->SqL K H a (ns.map V.int)->HOk P w H s₁.heap->(∀b,H b≠gV->b=a)->(H a≠gV->K.lookup a=gV)->
   codeAny (model P w) callerA (.call (.ref fa) #[[.ref a],[]]) (λr s'=>r=.ok (.ret (.bool true))/\OldK s₁.heap s'.heap/\s'.os=s₁.os/\OS s'.gens) s₁:=by
  intro H hO hS hok hA hK;have base_of:∀ {b:JA} {o:Lo},s₁.heap.get? b=ba o->H b=gV->(nG s₁.heap H).get? b=ba o:=λe n=>wF e n
  have noA:∀ {b:JA} {o:Lo} {es:J8 L8} {ep:Jx},s₁.heap.get? b=ba o->o.data=.dict es ep->H b=gV:=λ{b o es ep} e d=>by
   cases q:H b with
   | none=>rfl
   | some u=>
    have e':b=a:=hA b (by rw[q]; simp)
    subst e';rw[ha]at e; cases e
    have d':Data.seq vs.toArray _=Data.dict es ep:=d;cases d'
  have nsK:∀ {b:JA} {m:JV->Jw Jr},s₁.heap.Ns b m->(nG s₁.heap H).Ns b m:=λ{b m} #[o,es,ep,e,d,r]=>#[o,es,ep,base_of e (noA e d),d,r]
  have hKb:K.In (nG s₁.heap H):=λb o e=>base_of (KX b o e) (by
   cases q:H b with
   | none=>rfl
   | some u=>
    have e':b=a:=hA b (by rw[q]; simp)
    subst e';rw[hK (by rw[q]; simp)]at e; cases e)
  have hM:Mod K mg (nG s₁.heap H):=#[hKb,nsK hns,#[mb,nsK hb,hbb],let ⟨mc,h1,h2⟩:=hlim; #[mc,nsK h1,h2]]
  have e0:Env0 P w K mg (nG s₁.heap H) callerA [] s₁ H:=#[rfl,hM,λb o e=>Ae e,Nat.le_of_eq (uZ _ _),trivial,λb hb=>absurd (show b∈([]:Jn JA)from hb) (by simp),hok,.of_eq hg]
  refine NL ((F _ hKb (nsK hns)).run callerA [] s₁ H #[[.ref a],[]] [.ref a] [.ref a] _ _ hr e0 (hbind s₁ (.ref a)) #v[rfl] (hsp H hO hS)) λr s' h=>?_
  cases r with
  | error e=>exact(hCX H e s' h).elim
  | ok fl=>
   cases fl with
   | next=>exact K5.elim h
   | brk=>exact K5.elim h
   | cont=>exact K5.elim h
   | ret u=>
    obtain⟨v,H',os,bare,un,hok',r',q⟩:=h;have q':v=.bl true:=q;subst q';obtain rfl:u=Na true:=r';refine#[rfl,OldK.of_keep λb o e=>?_,os,bare]
    cases q:H b with
    | none=>exact un.keep b o e q (by intro z; exact absurd (show b∈([]:Jn JA)from z) (by simp)) (by simp)
    | some u=>
     rcases hO b with z|⟨ob,xs,z⟩
     ·rw[q]at z; cases z
     ·have z2:=un.frzs b ob _ z;obtain⟨e1,_⟩:=hok b _ z;obtain⟨e2,_⟩:=hok' b _ z2;rw[e]at e1; cases e1
      exact e2
 cases hk:K.lookup a with
 | some o=>
  have e:=KX a o hk;rw[ha]at e;cases e;refine core (λ_=>gV) (λ_=>.inl rfl) (.inr #[_,vs.toArray,_,hk,rfl,rfl,rfl,by rw[JM,lenV]; exact hl,by simpa using rv]) (λb u z=>by have z':(gV:Jw HO)=ba u:=z; cases z') (λb z=>absurd rfl z) λz=>absurd rfl z
 | none=>
  refine core (λb=>if b=a then ba (.frz { cls:=.type "list",data:=.seq vs.toArray } (.lst (ns.map V.int)))else gV) (λb=>?_) (.inl (.inr #[{ cls:=.type "list",data:=.seq vs.toArray },JZ rfl])) (λb u z=>?_) (λb z=>?_) λ_=>hk
  ·by_cases hb:b=a
   ·exact .inr #[_,_,JZ hb]
   ·exact .inl (Kb hb)
  ·by_cases hb:b=a
   ·have z':=(JZ hb).symm.trans z;cases z';subst hb;exact#[ha,by rw[Jp]; exact hl,vs,_,rv,ha]
   ·have z':=(Kb hb).symm.trans z;cases z'
  ·by_cases hb:b=a
   ·exact hb
   ·exact absurd (Kb hb) z
def AE {l:Pq}{n k:Jx}{q:Kh}{loose:Jn JV}{XP:(JV->Jw Jr)->Kw->Prop}{YP:Km->Kw->Prop}{d:DefRec}{K:Qt->JH}{CX:Km->w6}{sp:Km->Sp}{x:JV}
  (hn:l.most=ba n) (hn2:n<=sizeLine) (hdf:d.params.defaults=[]) (hr:Room k callerA)
  (hY:∀(w:Km) (h:Kw),YP w h->(K w.params).In h)
  (F:∀(w:Km) (mg:JV->Jw Jr) (fa:JA) (h:Kw),(K w.params).In h->h.Ns mainGlobals mg->mg d.name=ba (.ref fa)->
   ∃fd:Mp,(∀(s:Jt) (u:Jr),QJ s fd #[[u],[]] [(x,u)])/\
    ∀base:Kw,(K w.params).In base->base.Ns mainGlobals mg->FnOk l.prog w (K w.params) mg base (CX w) k fa fd [x] (sp w))
  (hsp:∀(w:Km) (H:Hp) (a:JA) (ns:Jn JI),ns.length<=n->xm H->SqL (K w.params) H a (ns.map V.int)->sp w [.ref a] H (λv _=>v=.bl true) λ_ _ _=>K5)
  (hCX:∀(w:Km) (H:Hp) (s:Jt) (e:Jr) (s':Jt),CX w [] H s (λ_ _ _=>K5) e s'->K5) :
  Se q loose XP YP l.row.toRowW d [] (λf vs=>RT f vs):=by
 refine Att.attach_call hn hdf λw s₀ s₁ mg mb fa o pm cd doc a vs ns G Yq ho hd hcd hmg hobj hints hlen hg=>?_
 have KX:=hY w _ Yq;obtain⟨fd,hb,hF⟩:=F w mg fa _ KX G.T.g hmg;exact xn KX G.T.g G.T.b G.T.builtins G.T.nolimit hg hobj hints (JY hlen hn2) hr hF hb (λH hO hS=>hsp w H a ns hlen hO hS) λH e s'=>hCX w H s₁ e s'
abbrev dI (s:MK):Arguments:=match s with
 | .FunctionDef _ a _ _ _ _ _ _ _ _=>a
 | _=>{ posonlyargs:=[],args:=[],vararg:=gV,kwonlyargs:=[],kw_defaults:=[],kwarg:=gV,defaults:=[] }
abbrev ci (s:MK):Jn MK:=match s with
 | .FunctionDef _ _ b _ _ _ _ _ _ _=>b
 | _=>[]
abbrev aS (s:MK):M7:=match s with
 | .FunctionDef _ _ _ _ _ _ sc _ _ _=>sc
 | _=>{ kind:=.function,names:=[],isGenerator:=false,isCoroutine:=false }
noncomputable abbrev wz:w6:=λ_ _ _ _ _ _=>K5
noncomputable abbrev E0:XK:=λ_ _ _=>K5
def Cp {X:Cx}:nI wz X E0:=λ_ _ _ _ _ _ _ h=>h.elim
structure Fun (K:JH)(x qual:JV)(st:MK)(f:JA)(fd:Mp):Prop where
 ex:∃(oc:Jr) (od:Jw JA) (kV doc pm:Jr) (an:Jw JA) (cdv ct:Jr) (osl:J8 (Jw Jr)),
  fd=L0 x qual (dI st) (ci st) (aS st) .none kV doc pm an cdv ct/\K.lookup f=ba #[oc,od,.func fd,osl]/\MO K cdv qual=true
 kp:Lf K (.ref f)=true
section
variable{P:Kh}{w:Km}{K:JH}{mg:JV->Jw Jr}{base:Kw}
def Fun.ok {x qual:JV}{st:MK}{f:JA}{fd:Mp}{N ps:Jn JV}{k:Jx}{sp:Sp}(F:Fun K x qual st f fd)(S:FnScope N ps (aS st))(len:∀vs H Q E,sp vs H Q E->vs.length=ps.length)
  (hbody:∀(cdv:Jr) (A:Kk) (outer:Jn QF) (s:Jt) (H:Hp) (vs:Jn V) (Q:VK) (E:XK),Room k (A.deeper (envOfC qual (aS st) s.heap.objs.size f cdv))->sp vs H Q E->
   ∃t,PSs (rJ wz P w K mg base N qual (aS st) f cdv A outer s H E).nox (ci st) t/\t { nx:=λ_ H'=>Q .non H',rt:=Q } (fU N vs) H):FnOk P w K mg base wz (k+1) f fd ps sp:=by
 obtain⟨oc,od,kV,doc,pm,an,cdv,ct,osl,rfl,lk,hcd⟩:=F.ex;refine Fs lk hcd S len λA outer s H vs Q E hr hsp=>?_
 obtain⟨t,h,q⟩:=hbody cdv A outer s H vs Q E hr hsp;exact#[t,h.nox,q]
def Fun.binds {x qual:JV}{st:MK}{f:JA}{fd:Mp}{ps:Jn JV}(F:Fun K x qual st f fd)
  (h:∀(kV doc pm:Jr) (an:Jw JA) (cdv ct:Jr) (us:Jn Jr),us.length=ps.length->bindArgs (L0 x qual (dI st) (ci st) (aS st) .none kV doc pm an cdv ct) #[us,[]]=pure (ps.zip us)):Binds K fd ps []:=by
 obtain⟨oc,od,kV,doc,pm,an,cdv,ct,osl,rfl,lk,hcd⟩:=F.ex;exact .all (h kV doc pm an cdv ct)
def xo {x qual:JV}{st:MK}{f:JA}{oc:Jr}{od an:Jw JA}{osl:J8 (Jw Jr)}{kV doc pm cdv ct:Jr}(l:K.lookup f=ba #[oc,od,.func (L0 x qual (dI st) (ci st) (aS st) .none kV doc pm an cdv ct),osl])
  (c:MO K cdv qual=true) (k:Lf K (.ref f)=true):Fun K x qual st f (L0 x qual (dI st) (ci st) (aS st) .none kV doc pm an cdv ct):=#[#[oc,od,kV,doc,pm,an,cdv,ct,osl,rfl,l,c],k]
end
section
variable{X:Cx}
def pv (i:Jx){x:JV}{pos:Mo}(hN:X.N[i]?=ba x:=by rfl)(hv:G6 X.env.scope x)(hd:(x==("__debug__" : JV))=false:=by decide)
  (hcd:(x==("__classdict__" : JV))=false:=by decide):PE X (.Name x pos) (CU i):=wH hN hv hd hcd
end
end L2
namespace Mi
open PySem PySem.Spec PyProof.Rows L2
abbrev fH (t:KY)(n:Jx):J6:=decide (MP t.place 0=0)&&(JW n).all λi=>decide (MP t.place (t.place.getD i 0+1)=i+1)
abbrev eW (w:Km):J6:=w.params.followText "set-order"
inductive W where
 | non|bl (b:J6)|int (i:JI)|str (x:JV)|tup (xs:Jn W)|ref (i:Jx)
inductive T where
 | int (i:JI)|str (x:JV)|tup (xs:Jn T)
mutual
noncomputable def T.beq:T->T->J6
 | .int i,.int j=>i==j
 | .str x,.str y=>x==y
 | .tup xs,.tup ys=>T.beqs xs ys
 | _,_=>false
noncomputable def T.beqs:Jn T->Jn T->J6
 | [],[]=>true
 | x::xs,y::ys=>T.beq x y&&T.beqs xs ys
 | _,_=>false
end
mutual
theorem T.beq_iff:∀x y:T,T.beq x y=true↔x=y
 | .int i,.int j=>by simp[T.beq]
 | .str x,.str y=>by simp[T.beq]
 | .tup xs,.tup ys=>by simp[T.beq,T.beqs_iff xs ys]
 | .int _,.str _|.int _,.tup _|.str _,.int _|.str _,.tup _|.tup _,.int _|.tup _,.str _=>by simp[T.beq]
theorem T.beqs_iff:∀xs ys:Jn T,T.beqs xs ys=true↔xs=ys
 | [],[]=>by simp[T.beqs]
 | x::xs,y::ys=>by simp[T.beqs,T.beq_iff x y,T.beqs_iff xs ys]
 | [],_::_|_::_,[]=>by simp[T.beqs]
end
noncomputable instance:MX T:=λx y=>decidable_of_iff (T.beq x y=true) (T.beq_iff x y)
mutual
noncomputable def T.w:T->W
 | .int i=>.int i
 | .str x=>.str x
 | .tup xs=>.tup (T.ws xs)
noncomputable def T.ws:Jn T->Jn W
 | []=>[]
 | x::xs=>T.w x::T.ws xs
end
mutual
noncomputable def W.t:W->Jw T
 | .int i=>ba (.int i)
 | .str x=>ba (.str x)
 | .tup xs=>(W.ts xs).map .tup
 | _=>gV
noncomputable def W.ts:Jn W->Jw (Jn T)
 | []=>ba []
 | x::xs=>match W.t x,W.ts xs with
  | some y,ba ys=>ba (y::ys)
  | _,_=>gV
end
mutual
theorem W.t_w:∀ {w:W} {k:T},W.t w=ba k->k.w=w
 | .int i,_,h=>by cases h; rfl
 | .str x,_,h=>by cases h; rfl
 | .tup xs,_,h=>by
  simp only[W.t,Js]at h;obtain⟨ks,h1,h2⟩:=h;subst h2;simp only[T.w,W.ts_w h1]
 | .non,_,h|.bl _,_,h|.ref _,_,h=>by cases h
theorem W.ts_w:∀ {ws:Jn W} {ks:Jn T},W.ts ws=ba ks->T.ws ks=ws
 | [],_,h=>by cases h; rfl
 | w::ws,_,h=>by
  simp only[W.ts]at h;split at h
  ·rename_i y ys h1 h2;cases h;simp only[T.ws,W.t_w h1,W.ts_w h2]
  ·cases h
end
mutual
theorem T.w_t:∀k:T,W.t k.w=ba k
 | .int _=>rfl
 | .str _=>rfl
 | .tup xs=>by simp only[T.w,W.t,T.ws_ts xs,Kv]
theorem T.ws_ts:∀ks:Jn T,W.ts (T.ws ks)=ba ks
 | []=>rfl
 | x::xs=>by simp only[T.ws,W.ts,T.w_t x,T.ws_ts xs]
end
mutual
noncomputable def T.depth:T->Jx
 | .tup xs=>T.depths xs+1
 | _=>0
noncomputable def T.depths:Jn T->Jx
 | []=>0
 | x::xs=>max (T.depth x) (T.depths xs)
end
mutual
noncomputable def T.draws:T->Jx
 | .tup xs=>T.drawss xs+1
 | _=>1
noncomputable def T.drawss:Jn T->Jx
 | []=>0
 | x::xs=>T.draws x+T.drawss xs
end
mutual
noncomputable def eC (wd:Km):T->JI
 | .int i=>hashInt i
 | .str x=>hashStr wd x
 | .tup xs=>reduceHash (Nn (hX wd xs))
noncomputable def hX (wd:Km):Jn T->Jn JI
 | []=>[]
 | x::xs=>eC wd x::hX wd xs
end
abbrev T.isTup:T->J6
 | .tup _=>true
 | _=>false
abbrev az:Jx:=6
inductive O where
 | lst (xs:Jn W)
 | fro (xs:Jn W)
 | stt (ks:Jn T)
 | rng (lo hi:JI)
 | dic (U:Jn (T×W))
 | frd (U:Jn (T×W))
noncomputable abbrev aa:=Jn O
noncomputable abbrev Fm:=Jn (Jw W)
section
variable (K:JH) (A:Jn JA) (H:Hp)
mutual
inductive Rel:W->V->Prop
 | non:Rel .non .non
 | bl {b:J6}:Rel (.bl b) (.bl b)
 | int {i:JI}:Rel (.int i) (.int i)
 | str {x:JV}:Rel (.str x) (.str x)
 | tup {ws:Jn W} {a:JA} {vs:Jn V}:SqT K H a vs->RelL ws vs->Rel (.tup ws) (.ref a)
 | ref {i:Jx} {a:JA}:A[i]?=ba a->Rel (.ref i) (.ref a)
inductive RelL:Jn W->Jn V->Prop
 | nil:RelL [] []
 | cons {w:W} {v:V} {ws:Jn W} {vs:Jn V}:Rel w v->RelL ws vs->RelL (w::ws) (v::vs)
end
end
section
variable{K:JH}{A A' A'':Jn JA}{H H' H'':Hp}
structure Ext (K:JH)(A:Jn JA)(H:Hp)(A':Jn JA)(H':Hp):Prop where
 ad:∀(i:Jx) (a:JA),A[i]?=ba a->A'[i]?=ba a
 tp:∀(a:JA) (vs:Jn V),SqT K H a vs->SqT K H' a vs
 fz:∀(a:JA) (o:Lo) (u:HO),H a=ba (.frz o u)->H' a=ba (.frz o u)
def Ext.refl:Ext K A H A H:=#[λ_ _ h=>h,λ_ _ h=>h,λ_ _ _ h=>h]
def Ext.trans (e:Ext K A H A' H')(f:Ext K A' H' A'' H''):Ext K A H A'' H'':=#[λi a h=>f.ad i a (e.ad i a h),λa vs h=>f.tp a vs (e.tp a vs h),λa o u h=>f.fz a o u (e.fz a o u h)]
mutual
theorem Rel.mono (e:Ext K A H A' H'):∀ {w:W} {v:V},Rel K A H w v->Rel K A' H' w v
 | _,_,.non=>.non
 | _,_,.bl=>.bl
 | _,_,.int=>.int
 | _,_,.str=>.str
 | _,_,.tup h r=>.tup (e.tp _ _ h) (RelL.mono e r)
 | _,_,.ref h=>.ref (e.ad _ _ h)
theorem RelL.mono (e:Ext K A H A' H'):∀ {ws:Jn W} {vs:Jn V},RelL K A H ws vs->RelL K A' H' ws vs
 | _,_,.nil=>.nil
 | _,_,.cons r t=>.cons (Rel.mono e r) (RelL.mono e t)
end
def RelL.length:∀ {ws:Jn W} {vs:Jn V},RelL K A H ws vs->ws.length=vs.length
 | _,_,.nil=>rfl
 | _,_,.cons _ t=>by simp[RelL.length t]
def RelL.get:∀ {ws:Jn W} {vs:Jn V} {i:Jx} {w:W},RelL K A H ws vs->ws[i]?=ba w->∃v,vs[i]?=ba v/\Rel K A H w v
 | _,_,_,_,.nil,e=>by simp at e
 | _,_,0,_,.cons r _,e=>by simp at e; subst e; exact#[_,rfl,r]
 | _,_,i+1,w,.cons _ t,e=>by
  obtain⟨u,h1,h2⟩:=RelL.get (i:=i) (w:=w) t (by simpa using e)
  exact#[u,by simpa using h1,h2]
def RelL.append:∀ {xs ys:Jn W} {us ws:Jn V},RelL K A H xs us->RelL K A H ys ws->RelL K A H (xs++ys) (us++ws)
 | _,_,_,_,.nil,s=>s
 | _,_,_,_,.cons r t,s=>.cons r (RelL.append t s)
def RelL.take:∀ {xs:Jn W} {us:Jn V} (n:Jx),RelL K A H xs us->RelL K A H (xs.take n) (us.take n)
 | _,_,0,_=>.nil
 | _,_,_+1,.nil=>.nil
 | _,_,n+1,.cons r t=>.cons r (RelL.take n t)
def RelL.drop:∀ {xs:Jn W} {us:Jn V} (n:Jx),RelL K A H xs us->RelL K A H (xs.drop n) (us.drop n)
 | _,_,0,r=>r
 | _,_,_+1,.nil=>.nil
 | _,_,n+1,.cons _ t=>RelL.drop n t
def RelL.set {x:W}{u:V}(r:Rel K A H x u):∀ {xs:Jn W} {us:Jn V} (i:Jx),RelL K A H xs us->RelL K A H (xs.set i x) (us.set i u)
 | _,_,_,.nil=>.nil
 | _,_,0,.cons _ t=>.cons r t
 | _,_,i+1,.cons q t=>.cons q (RelL.set r i t)
def RelL.rep {xs:Jn W}{us:Jn V}(h:RelL K A H xs us):∀k:Jx,RelL K A H (Ks k xs).flatten (Ks k us).flatten
 | 0=>.nil
 | k+1=>by
  rw[Lx,Lx,MA,MA];exact RelL.append h (RelL.rep h k)
def RelL.eraseIdx:∀ {xs:Jn W} {us:Jn V} (i:Jx),RelL K A H xs us->RelL K A H (xs.eraseIdx i) (us.eraseIdx i)
 | _,_,_,.nil=>.nil
 | _,_,0,.cons _ t=>t
 | _,_,i+1,.cons r t=>.cons r (RelL.eraseIdx i t)
abbrev FroL (K:JH)(H:Hp)(a:JA)(vs:Jn V):Prop:=
 (∃o,H a=ba (.frz o (.lst vs)))\/
  ∃(o:Lo) (its:J8 Jr) (n:Jx),K.lookup a=ba o/\o.cls=.type "list"/\o.dict=gV/\o.data=.seq its n/\its.size<=sizeLine/\Vals vs its.toList
def FroL.sq {a:JA}{vs:Jn V}(h:FroL K H a vs):SqL K H a vs:=by
 rcases h with⟨o,h⟩|h
 ·exact .inl (.inr #[o,h])
 ·exact .inr h
abbrev xp (wd:Km)(x:T×JA×Jr):L8:=#[eC wd x.1,.ref x.2.1,x.2.2]
abbrev DicAt (wd:Km)(a:JA)(xs:Jn (T×JA×Jr))(h:Kw):Prop:=
 xs.length<=sizeLine/\(a==sysModules)=false/\(xs.map (·.1)).Nodup/\∃o es ep,h.get? a=ba o/\o.ExactDict/\o.data=.dict es ep/\es.toList=xs.map (xp wd)
abbrev d0 (wd:Km)(a:JA)(xs:Jn (T×JA×Jr)):HO:=.ext (DicAt wd a xs)
abbrev KRel (K:JH)(A:Jn JA)(H:Hp):Jn (T×W)->Jn (T×JA×Jr)->Prop:=
 Pa λ(p:T×W) (q:T×JA×Jr)=>p.1=q.1/\p.1.isTup=true/\p.1.depth<=az/\Rel K A H p.1.w (.ref q.2.1)/\∃v,Rel K A H p.2 v/\RelV v q.2.2
def KRel.mono (e:Ext K A H A' H'){U:Jn (T×W)}{xs:Jn (T×JA×Jr)}(h:KRel K A H U xs):KRel K A' H' U xs:=
 Paired.mapP h λ_ _ #[h1,h2,h3,h4,v,h5,h6]=>#[h1,h2,h3,h4.mono e,v,h5.mono e,h6]
variable{wd:Km}
abbrev AF (wd:Km)(as:Jn JA)(o:Lo):Prop:=o.ExactSet/\∃es ep t,o.data=.set es ep t/\es.size<=sizeLine/\t.fits es.size=true/\t.led=(!eW wd)/\(t.plain=true->es.size=0\/fH t es.size=true)/\es.toList.map (·.2)=as.map Kj
abbrev ObjRel (wd:Km)(K:JH)(A:Jn JA)(H:Hp)(a:JA):O->Prop
 | .lst ws=>∃vs,H a=ba (.lst vs)/\RelL K A H ws vs
 | .fro ws=>∃vs,FroL K H a vs/\RelL K A H ws vs
 | .stt ks=>∃o φ as,H a=ba (.frz o (.ext φ))/\AF wd as o/\RelL K A H (T.ws ks) (as.map V.ref)
 | .rng lo hi=>H a=ba (.rng lo hi)
 | .dic U=>∃xs,H a=ba (d0 wd a xs)/\KRel K A H U xs
 | .frd U=>∃o xs,H a=ba (.frz o (d0 wd a xs))/\KRel K A H U xs
abbrev O.mut:O->J6
 | .fro _=>false
 | .stt _=>false
 | .rng _ _=>false
 | .frd _=>false
 | _=>true
structure StoreOk (wd:Km)(K:JH)(A:Jn JA)(H:Hp)(S:aa):Prop where
 len:A.length=S.length
 nd:∀(i j:Jx) (a:JA) (o u:O),S[i]?=ba o->o.mut=true->S[j]?=ba u->u.mut=true->A[i]?=ba a->A[j]?=ba a->i=j
 obj:∀(i:Jx) (o:O) (a:JA),S[i]?=ba o->A[i]?=ba a->ObjRel wd K A H a o
abbrev EnvRel (K:JH)(A:Jn JA)(H:Hp)(Z:Fm)(Y:L2.St):Prop:=
 Z.length=Y.length/\∀(i:Jx) (w:W),Z[i]?=ba (ba w)->∃v,Y[i]?=ba (ba v)/\Rel K A H w v
def EnvRel.mono {Z:Fm}{Y:L2.St}(e:Ext K A H A' H')(h:EnvRel K A H Z Y):EnvRel K A' H' Z Y:=
 #[h.1,λi w q=>let ⟨v,a,b⟩:=h.2 i w q; #[v,a,b.mono e]]
def EnvRel.set {Z:Fm}{Y:L2.St}{w:W}{v:V}(h:EnvRel K A H Z Y)(r:Rel K A H w v)(i:Jx):EnvRel K A H (Z.set i (ba w)) (Y.set i (ba v)):=by
 refine#[by simp[h.1],λj w' q=>?_]
 rw[LR]at q ⊢
 by_cases e:i=j
 ·subst e;rw[JZ rfl]at q ⊢
  by_cases hl:i < Z.length
  ·rw[JZ hl]at q;rw[JZ (h.1 ▸ hl)];cases q;exact#[v,rfl,r]
  ·rw[Kb hl]at q; cases q
 ·rw[Kb e]at q ⊢;exact h.2 j w' q
abbrev Wr (H:Hp)(p:JA):Prop:=H p=gV\/(∃xs,H p=ba (.lst xs))\/(∃φ,H p=ba (.ext φ))\/∃ks,H p=ba (.dK ks)
def Wr.lst {p:JA}{xs:Jn V}(h:H p=ba (.lst xs)):Wr H p:=.inr (.inl #[xs,h])
def Wr.ext {p:JA}{φ:Kw->Prop}(h:H p=ba (.ext φ)):Wr H p:=.inr (.inr (.inl #[φ,h]))
def Wr.ne_tup {p a:JA}{xs:Jn V}(hp:Wr H p)(h:H a=ba (.tup xs)):a≠p:=by
 intro e; subst e
 rcases hp with q|⟨xs,q⟩|⟨φ,q⟩|⟨ks,q⟩ <;> (rw[h]at q; cases q)
def Wr.ne_frz {p a:JA}{o:Lo}{u:HO}(hp:Wr H p)(h:H a=ba (.frz o u)):a≠p:=by
 intro e; subst e
 rcases hp with q|⟨xs,q⟩|⟨φ,q⟩|⟨ks,q⟩ <;> (rw[h]at q; cases q)
def Wr.ne_rng {p a:JA}{lo hi:JI}(hp:Wr H p)(h:H a=ba (.rng lo hi)):a≠p:=by
 intro e; subst e
 rcases hp with q|⟨xs,q⟩|⟨φ,q⟩|⟨ks,q⟩ <;> (rw[h]at q; cases q)
def tm {p:JA}{o:HO}(hp:Wr H p){a:JA}{vs:Jn V}(h:SqT K H a vs):SqT K (br H p o) a vs:=by
 rcases h with(h|⟨o',h⟩)|h
 ·exact .inl (.inl (by rw[aC (hp.ne_tup h)]; exact h))
 ·exact .inl (.inr #[o',by rw[aC (hp.ne_frz h)]; exact h])
 ·exact .inr h
def xq {p:JA}{o:HO}(hp:Wr H p){a:JA}{vs:Jn V}(h:FroL K H a vs):FroL K (br H p o) a vs:=by
 rcases h with⟨o',h⟩|h
 ·exact .inl #[o',by rw[aC (hp.ne_frz h)]; exact h]
 ·exact .inr h
def cj {p:JA}{o:HO}(hp:Wr H p):Ext K A H A (br H p o):=#[λ_ _ h=>h,λ_ _ h=>tm hp h,λ_ _ _ h=>by rw[aC (hp.ne_frz h)]; exact h]
def cJ {p:JA}{o:HO}(hp:H p=gV):Ext K A H (A++[p]) (br H p o):=
 #[λi a h=>by rw[Ku (JF.mp h).1]; exact h,λ_ _ h=>tm (.inl hp) h,λ_ _ _ h=>by rw[aC (Wr.ne_frz (.inl hp) h)]; exact h]
def ObjRel.keep {p a:JA}{o:HO}{b:O}(hp:Wr H p)(hne:b.mut=true->a≠p)(e:Ext K A H A' (br H p o))(h:ObjRel wd K A H a b):ObjRel wd K A' (br H p o) a b:=by
 cases b with
 | lst ws=>
  obtain⟨vs,q,r⟩:=h;exact#[vs,by rw[aC (hne rfl)]; exact q,r.mono e]
 | fro ws=>
  obtain⟨vs,q,r⟩:=h;exact#[vs,xq hp q,r.mono e]
 | stt ks=>
  obtain⟨ob,φ,as,q,r1,r2⟩:=h;exact#[ob,φ,as,by rw[aC (hp.ne_frz q)]; exact q,r1,r2.mono e]
 | rng lo hi=>
  have h:H a=ba (.rng lo hi):=h;show br H p o a=ba (.rng lo hi);rw[aC (hp.ne_rng h)];exact h
 | dic U=>
  obtain⟨xs,q,r⟩:=h;exact#[xs,by rw[aC (hne rfl)]; exact q,r.mono e]
 | frd U=>
  obtain⟨ob,xs,q,r⟩:=h;exact#[ob,xs,by rw[aC (hp.ne_frz q)]; exact q,r.mono e]
def ObjRel.there {a:JA}{b:O}(h:ObjRel wd K A H a b)(hm:b.mut=true):H a≠gV:=by
 cases b with
 | lst ws=>obtain⟨vs,q,r⟩:=h; rw[q]; intro z; cases z
 | fro ws=>cases hm
 | stt ws=>cases hm
 | rng lo hi=>cases hm
 | dic U=>obtain⟨vs,q,r⟩:=h; rw[q]; intro z; cases z
 | frd ws=>cases hm
def ObjRel.wr {a:JA}{b:O}(h:ObjRel wd K A H a b)(hm:b.mut=true):Wr H a:=by
 cases b with
 | lst ws=>obtain⟨vs,q,r⟩:=h; exact .lst q
 | fro ws=>cases hm
 | stt ws=>cases hm
 | rng lo hi=>cases hm
 | dic U=>obtain⟨vs,q,r⟩:=h; exact .ext q
 | frd ws=>cases hm
def StoreOk.lay {S:aa}{p:JA}{o:HO}(h:StoreOk wd K A H S)(hp:H p=gV):StoreOk wd K A (br H p o) S:=
 #[h.len,h.nd,λi b a e ea=>(h.obj i b a e ea).keep (.inl hp) (λhm z=>(h.obj i b a e ea).there hm (z ▸ hp)) (cj (.inl hp))]
def StoreOk.pushO {S:aa}{p:JA}{n:O}{u:HO}(h:StoreOk wd K A H S)(hp:H p=gV)(r:ObjRel wd K (A++[p]) (br H p u) p n):StoreOk wd K (A++[p]) (br H p u) (S++[n]):=by
 have ex:Ext K A H (A++[p]) (br H p u):=cJ hp;have old:∀ {i:Jx} {o:O} {a:JA},(S++[n])[i]?=ba o->(A++[p])[i]?=ba a->i < S.length->S[i]?=ba o/\A[i]?=ba a:=λ{i o a} e ea hl=>by
  rw[Ku hl]at e;rw[Ku (h.len ▸ hl)]at ea;exact#[e,ea]
 have new:∀ {i:Jx} {o:O} {a:JA},(S++[n])[i]?=ba o->(A++[p])[i]?=ba a->¬ i < S.length->i=S.length/\o=n/\a=p:=λ{i o a} e ea hl=>by
  have hi:i=S.length:=by
   have:=(JF.mp e).1;simp at this;omega
  subst hi;simp at e;rw[<- h.len]at ea;simp at ea;exact#[rfl,e.symm,ea.symm]
 refine#[by simp[h.len],λi j a o u e1 m1 e2 m2 a1 a2=>?_,λi o a e ea=>?_]
 ·by_cases hi:i < S.length <;> by_cases hj:j < S.length
  ·obtain⟨x1,y1⟩:=old e1 a1 hi;obtain⟨x2,y2⟩:=old e2 a2 hj;exact h.nd i j a o u x1 m1 x2 m2 y1 y2
  ·obtain⟨x1,y1⟩:=old e1 a1 hi;obtain⟨_,_,z⟩:=new e2 a2 hj;subst z;exact absurd hp ((h.obj i o a x1 y1).there m1)
  ·obtain⟨x2,y2⟩:=old e2 a2 hj;obtain⟨_,_,z⟩:=new e1 a1 hi;subst z;exact absurd hp ((h.obj j u a x2 y2).there m2)
  ·rw[(new e1 a1 hi).1,(new e2 a2 hj).1]
 ·by_cases hi:i < S.length
  ·obtain⟨x1,y1⟩:=old e ea hi;exact(h.obj i o a x1 y1).keep (.inl hp) (λhm z=>(h.obj i o a x1 y1).there hm (z ▸ hp)) ex
  ·obtain⟨_,rfl,rfl⟩:=new e ea hi;exact r
def StoreOk.push {S:aa}{p:JA}{ws:Jn W}{vs:Jn V}(h:StoreOk wd K A H S)(hp:H p=gV)(r:RelL K A H ws vs):StoreOk wd K (A++[p]) (br H p (.lst vs)) (S++[.lst ws]):=
 h.pushO hp #[vs,aI,r.mono (cJ hp)]
def StoreOk.writeO {S:aa}{i:Jx}{p:JA}{o0 n:O}{u:HO}(h:StoreOk wd K A H S)(e:S[i]?=ba o0)(m0:o0.mut=true)(ea:A[i]?=ba p)(r:ObjRel wd K A (br H p u) p n) :
  StoreOk wd K A (br H p u) (S.set i n)/\Ext K A H A (br H p u):=by
 have hw:Wr H p:=(h.obj i _ p e ea).wr m0;have ex:Ext K A H A (br H p u):=cj hw;have hl:i < S.length:=(JF.mp e).1;refine#[#[by simp[h.len],λj k a o u e1 m1 e2 m2 a1 a2=>?_,λj o a e1 a1=>?_],ex]
 ·have get:∀ {j:Jx} {o:O},(S.set i n)[j]?=ba o->o.mut=true->∃o',S[j]?=ba o'/\o'.mut=true:=λ{j o} q m=>by
   rw[LR]at q
   by_cases z:i=j
   ·subst z; exact#[_,e,m0]
   ·rw[Kb z]at q; exact#[o,q,m]
  obtain⟨o',x1,m1'⟩:=get e1 m1;obtain⟨u',x2,m2'⟩:=get e2 m2;exact h.nd j k a o' u' x1 m1' x2 m2' a1 a2
 ·rw[LR]at e1
  by_cases z:i=j
  ·subst z;rw[JZ rfl,JZ hl]at e1;cases e1;rw[ea]at a1; cases a1
   exact r
  ·rw[Kb z]at e1;exact(h.obj j o a e1 a1).keep hw (λhm q=>z (h.nd i j p _ o e m0 e1 hm ea (q ▸ a1))) ex
def StoreOk.write {S:aa}{i:Jx}{p:JA}{ws:Jn W}{us:Jn V}{ws0:Jn W}(h:StoreOk wd K A H S)(e:S[i]?=ba (.lst ws0))(ea:A[i]?=ba p)(r:RelL K A H ws us) :
  StoreOk wd K A (br H p (.lst us)) (S.set i (.lst ws))/\Ext K A H A (br H p (.lst us)):=
 h.writeO e rfl ea #[us,aI,r.mono (cj ((h.obj i _ p e ea).wr rfl))]
end
abbrev fT (S:aa)(i:Jx):Jw (Jn W):=match S[i]? with
 | some (.lst xs)=>ba xs
 | some (.fro xs)=>ba xs
 | _=>gV
abbrev o9 (S:aa)(i:Jx):Jw (Jn W):=match S[i]? with
 | some (.lst xs)=>ba xs
 | _=>gV
abbrev lV (S:aa)(xs:Jn W):Jw (W×aa):=if xs.length<=sizeLine then ba (.ref S.length,S++[.lst xs])else gV
abbrev rO (S:aa)(xs:Jn W):Jw (W×aa):=if xs.length<=sizeLine then ba (.tup xs,S)else gV
abbrev AG (j:JI):J6:=decide (0 < j)&&decide (j < 1073741824)
abbrev vk (i j:JI):J6:=(decide (-(2 ^ 64) < i)&&decide (i < 2 ^ 64))||(decide (-(2 ^ 64) < j)&&decide (j < 2 ^ 64))
abbrev Fx (i j:JI):J6:=decide (0<=j)&&decide (j<=1000000)&&decide (i.natAbs < 2 ^ 64)
inductive BOp where|add|sub|mul|fdiv|mod|pow
 deriving MX
abbrev Aa (c:JI->JI->J6)(f:JI->JI->JI)(x y:W)(S:aa):Jw (W×aa):=match x,y with
 | .int i,.int j=>if c i j then ba (.int (f i j),S)else gV
 | _,_=>gV
abbrev vm (x y:W)(S:aa):Jw (W×aa):=match x with
 | .int i=>match y with
  | .int j=>ba (.int (i+j),S)
  | _=>gV
 | .str x=>match y with
  | .str y=>if x.length+y.length<=sizeLine then ba (.str (x++y),S)else gV
  | _=>gV
 | .tup xs=>match y with
  | .tup ys=>rO S (xs++ys)
  | _=>gV
 | .ref i=>match y with
  | .ref j=>match o9 S i,o9 S j with
   | some xs,ba ys=>lV S (xs++ys)
   | _,_=>gV
  | _=>gV
 | _=>gV
abbrev xr (x y:W)(S:aa):Jw (W×aa):=match x with
 | .str x=>match y with
  | .int k=>if k < 2 ^ 24/\-(2 ^ 24)<=k/\x.length*k.toNat<=sizeLine then ba (.str (Ub x k),S)else gV
  | _=>gV
 | .ref i=>match y with
  | .int k=>match o9 S i with
   | some xs=>if k < 2 ^ 24/\-(2 ^ 24)<=k/\xs.length*k.toNat<=sizeLine then lV S (Ks k.toNat xs).flatten else gV
   | none=>gV
  | _=>gV
 | x=>Aa vk (· * ·) x y S
abbrev fI:BOp->W->W->aa->Jw (W×aa)
 | .add,x,y,S=>vm x y S
 | .sub,x,y,S=>Aa (λ_ _=>true) (· - ·) x y S
 | .mul,x,y,S=>xr x y S
 | .fdiv,x,y,S=>Aa (λ_ j=>AG j) (· / ·) x y S
 | .mod,x,y,S=>Aa (λ_ j=>decide (0 < j)) (· % ·) x y S
 | .pow,x,y,S=>Aa Fx (λi j=>i ^ j.toNat) x y S
abbrev BOp.py:BOp->QI
 | .add=>.Add|.sub=>.Sub|.mul=>.Mult|.fdiv=>.FloorDiv|.mod=>.Mod|.pow=>.Pow
section
variable (X:Cx)
inductive PostE (J:Jn (JA×Lo))(Y:L2.St)(A:Jn JA)(H:Hp)(S':aa)(w:W)(u:Jr)(s':Jt):Prop
 | mk (v:V) (H':Hp) (A':Jn JA) (i:Inv X J Y H' s') (r:RelV v u) (e:Ext X.K A H A' H') (so:StoreOk X.w X.K A' H' S') (rl:Rel X.K A' H' w v):PostE J Y A H S' w u s'
noncomputable abbrev FE:=Fm->aa->Jw (W×aa)
abbrev LOp (f:Jr->Jr->Td Jr)(g:W->W->aa->Jw (W×aa)):Prop:=
 ∀(J:Jn (JA×Lo)) (s:Jt) (Y:L2.St) (H:Hp) (A:Jn JA) (S:aa) (x y:W) (a b:V) (u v:Jr) (w:W) (S':aa),Inv X J Y H s->StoreOk X.w X.K A H S->
  Rel X.K A H x a->RelV a u->Rel X.K A H y b->RelV b v->g x y S=ba (w,S')->wpAny (model X.prog X.w) X.A (f u v) (PostE X J Y A H S' w) X.xe s
end
section
variable{X:Cx}
def kD {S:aa}{i:Jx}{xs:Jn W}(h:o9 S i=ba xs):S[i]?=ba (.lst xs):=by
 unfold o9 at h;split at h
 ·cases h; assumption
 ·cases h
def eO {A:Jn JA}{H:Hp}{S:aa}{i:Jx}{xs:Jn W}{a:JA}(so:StoreOk X.w X.K A H S)(h:o9 S i=ba xs)(ea:A[i]?=ba a):∃vs,H a=ba (.lst vs)/\RelL X.K A H xs vs:=
 so.obj i _ a (kD h) ea
def aZ {A:Jn JA}{H:Hp}{S:aa}{i:Jx}{xs:Jn W}{a:JA}(so:StoreOk X.w X.K A H S)(h:fT S i=ba xs)(ea:A[i]?=ba a):∃vs,SqL X.K H a vs/\RelL X.K A H xs vs:=by
 unfold fT at h;split at h
 ·cases h;obtain⟨vs,q,r⟩:=so.obj i _ a (by assumption) ea
  exact#[vs,.of q,r]
 ·cases h;obtain⟨vs,q,r⟩:=so.obj i _ a (by assumption) ea
  exact#[vs,q.sq,r]
 ·cases h
def j8 {S S':aa}{xs:Jn W}{w:W}(h:lV S xs=ba (w,S')):xs.length<=sizeLine/\w=.ref S.length/\S'=S++[.lst xs]:=by
 unfold lV at h;split at h
 ·cases h; exact#[by assumption,rfl,rfl]
 ·cases h
def tq {S S':aa}{xs:Jn W}{w:W}(h:rO S xs=ba (w,S')):xs.length<=sizeLine/\w=.tup xs/\S'=S:=by
 unfold rO at h;split at h
 ·cases h; exact#[by assumption,rfl,rfl]
 ·cases h
def AH {A:Jn JA}{H:Hp}{S:aa}{ws:Jn W}{vs:Jn V}{Q:VK}{p:JA}(so:StoreOk X.w X.K A H S)(r:RelL X.K A H ws vs)(hp:H p=gV)
  (q:∀v H' A',Ext X.K A H A' H'->StoreOk X.w X.K A' H' (S++[.lst ws])->Rel X.K A' H' (.ref S.length) v->Q v H'):Q (.ref p) (br H p (.lst vs)):=
 q _ _ (A++[p]) (cJ hp) (so.push hp r) (.ref (by rw[<- so.len]; simp))
def AI {A:Jn JA}{H:Hp}{S:aa}{ws:Jn W}{vs:Jn V}{Q:VK}{p:JA}(so:StoreOk X.w X.K A H S)(r:RelL X.K A H ws vs)(hp:H p=gV)
  (q:∀v H' A',Ext X.K A H A' H'->StoreOk X.w X.K A' H' S->Rel X.K A' H' (.tup ws) v->Q v H'):Q (.ref p) (br H p (.tup vs)):=
 q _ _ A (cj (.inl hp)) (so.lay hp) (.tup (.of aI) (r.mono (cj (.inl hp))))
abbrev Fy (K:JH):R2:=λx y H Q=>∃a b xs ys,x=.ref a/\y=.ref b/\SqT K H a xs/\SqT K H b ys/\xs.length+ys.length<=sizeLine/\
 (xs=[]->Q (.ref b) H)/\(ys=[]->Q (.ref a) H)/\(∀p,H p=gV->Q (.ref p) (br H p (.tup (xs++ys))))
def AJ:OpR X (binaryOp .Add) (Fy X.K):=by
 intro J s Y H x y v u Q I rx ry h;obtain⟨a,b,xs,ys,rfl,rfl,ha,hb,hz,q0,q1,q2⟩:=h;cases rx;cases ry;obtain⟨its,r1,p1,_⟩:=I.tuple ha;obtain⟨its2,r2,p2,_⟩:=I.tuple hb
 by_cases hx:xs=[]
 ·obtain⟨⟨cls,dd,data,sl⟩,ho,hc,n,hd⟩:=id p1;obtain⟨⟨cls2,dd2,data2,sl2⟩,ho2,hc2,n2,hd2⟩:=id p2;simp only at hc hd hc2 hd2;subst hc hd hc2 hd2;exact QK #[_,ho,rfl] #[_,ho2,rfl] O5 Qh NM NI (Nx _ _)
   (tuple_addW0 a b its.toArray its2.toArray n n2 dd dd2 sl sl2 (by simp[r1.nil_iff.mpr hx])) #[ho,ho2,#[.ref b,H,I,rfl,q0 hx]]
 ·refine HT.Au p1 p2 (λz=>hx (r1.nil_iff.mp z)) (λz=>#[.ref a,H,I,rfl,q1 (r2.nil_iff.mp z)]) (λz=>?_) (by rw[<- r1.length,<- r2.length]; exact hz)
  refine#[.ref s.heap.objs.size,_,I.laid (t':=s.toks) (o:=.tup (xs++ys)) (λb ob q=>Jq _ q) (JB _) ?_,rfl,q2 _ (I.hok.fresh (JB _))]
  exact#[by rw[JC]; exact hz,_,r1.append r2,Rb _ _]
def RelL.nil_iff {K:JH}{A:Jn JA}{H:Hp}{ws:Jn W}{vs:Jn V}(r:RelL K A H ws vs):vs=[]↔ws=[]:=by
 cases r <;> simp
def rP:OpR X (binaryOp .Mult) (λx y H Q=>∃z k,x=.str z/\y=.int k/\MulOk z k/\Q (.str (Ub z k)) H):=by
 intro J s Y H x y v u Q I rx ry h;obtain⟨z,k,rfl,rfl,ok,q⟩:=h;obtain⟨t,rfl⟩:=rx;obtain⟨t',rfl⟩:=ry;exact SB.mul ok λt2 k2=>#[.str _,H,I.tok _,#[_,rfl],q]
def xt {x:JV}{k:JI}(h1:k < 16777216)(h2 : -16777216<=k)(h3:x.length*k.toNat<=sizeLine):MulOk x k:=by
 have hs:sizeLine=16777216:=Ky;rw[hs]at h3;refine#[?_,λa b=>?_,λ_ _=>?_]
 ·rw[Bool.or_eq_false_iff];exact#[Ki ∅,Ki ∅]
 ·have hk:0 < k:=∅
  have e:(x.length:JI)*k=((x.length*k.toNat:Jx):JI):=by
   rw[Oc,Nu ∅]
  intro hgt;have h4:(2 ^ 63 - 1:JI) < (x.length:JI)*k:=(Int.ediv_lt_iff_lt_mul hk).mp hgt;rw[e]at h4;generalize x.length*k.toNat=z at h3 h4;omega
 ·unfold R5;rw[hs];exact Ki ∅
inductive EndV (wd:Km)(K:JH)(A:Jn JA)(H:Hp)(S':aa)(w:W)(v:V)(H':Hp):Prop
 | mk (A':Jn JA) (e:Ext K A H A' H') (so:StoreOk wd K A' H' S') (r:Rel K A' H' w v):EndV wd K A H S' w v H'
def EndV.here {A:Jn JA}{H:Hp}{S:aa}{w:W}{v:V}(so:StoreOk X.w X.K A H S)(r:Rel X.K A H w v):EndV X.w X.K A H S w v H:=#[A,.refl,so,r]
def EndV.lst {A:Jn JA}{H:Hp}{S:aa}{ws:Jn W}{vs:Jn V}{p:JA}(so:StoreOk X.w X.K A H S)(r:RelL X.K A H ws vs)(hp:H p=gV):EndV X.w X.K A H (S++[.lst ws]) (.ref S.length) (.ref p) (br H p (.lst vs)):=
 AH (Q:=EndV X.w X.K A H (S++[.lst ws]) (.ref S.length)) so r hp λv H' A' a b c=>#[A',a,b,c]
def EndV.tup {A:Jn JA}{H:Hp}{S:aa}{ws:Jn W}{vs:Jn V}{p:JA}(so:StoreOk X.w X.K A H S)(r:RelL X.K A H ws vs)(hp:H p=gV):EndV X.w X.K A H S (.tup ws) (.ref p) (br H p (.tup vs)):=
 AI (Q:=EndV X.w X.K A H S (.tup ws)) so r hp λv H' A' a b c=>#[A',a,b,c]
def EP.post {J:Jn (JA×Lo)}{Y:L2.St}{A:Jn JA}{H:Hp}{S':aa}{w:W}{u:Jr}{s':Jt}(h:EP X J Y (EndV X.w X.K A H S' w) u s'):PostE X J Y A H S' w u s':=by
 obtain⟨v,H',I',r,A',x,y,z⟩:=h;exact#[v,H',A',I',r,x,y,z]
def OpR.go {f:Jr->Jr->Td Jr}{r:R2}(h:OpR X f r){J:Jn (JA×Lo)}{Y:L2.St}{A:Jn JA}{H:Hp}{S':aa}{w:W}{s:Jt}{a b:V}{u v:Jr}(I:Inv X J Y H s)(ru:RelV a u)(rv:RelV b v)
  (q:r a b H (EndV X.w X.K A H S' w)):wpAny (model X.prog X.w) X.A (f u v) (PostE X J Y A H S' w) X.xe s:=bq (h J s Y H a b u v _ I ru rv q) λ_ _=>EP.post
def AK:LOp X (binaryOp .Add) (fI .add):=by
 intro J s Y H A S x y a b u v w S' I so rx ru ry rv e;cases rx with
 | int=>cases ry with
  | int=>cases e; exact OpR.go Di I ru rv #[_,_,rfl,rfl,.here so .int]
  | _=>cases e
 | str=>cases ry with
  | str=>
   dsimp only[fI,vm]at e;split at e
   ·cases e; exact OpR.go rH I ru rv #[_,_,rfl,rfl,by assumption,.here so .str]
   ·cases e
  | _=>cases e
 | tup h1 r1=>cases ry with
  | tup h2 r2=>
   obtain⟨hl,rfl,rfl⟩:=tq (show rO S _=_ from e)
   rw[JC,r1.length,r2.length]at hl;refine OpR.go AJ I ru rv #[_,_,_,_,rfl,rfl,h1,h2,hl,λz=>?_,λz=>?_,λp hp=>.tup so (r1.append r2) hp]
   ·have z':=r1.nil_iff.mp z;subst z';exact .here so (.tup h2 r2)
   ·have z':=r2.nil_iff.mp z;subst z';rw[Le];exact .here so (.tup h1 r1)
  | _=>cases e
 | ref h1=>cases ry with
  | ref h2=>
   dsimp only[fI,vm]at e;split at e
   ·obtain⟨hl,rfl,rfl⟩:=j8 e;obtain⟨vs,q1,r1⟩:=eO so (by assumption) h1
    obtain⟨us,q2,r2⟩:=eO so (by assumption) h2
    rw[JC,r1.length,r2.length]at hl;exact OpR.go Dz I ru rv #[_,_,_,_,rfl,rfl,q1,q2,hl,λp hp=>.lst so (r1.append r2) hp]
   ·cases e
  | _=>cases e
 | _=>cases e
def ph {f:Jr->Jr->Td Jr}{c:JI->JI->J6}{g:JI->JI->JI}{r:R2}(h:OpR X f r)(hr:∀i j H Q,c i j=true->Q (.int (g i j)) H->r (.int i) (.int j) H Q):LOp X f (Aa c g):=by
 intro J s Y H A S x y a b u v w S' I so rx ru ry rv e;cases rx with
 | int=>cases ry with
  | int=>
   unfold Aa at e;dsimp only at e;split at e
   ·cases e; exact OpR.go h I ru rv (hr _ _ _ _ (by assumption) (.here so .int))
   ·cases e
  | _=>cases e
 | _=>cases e
def AL:LOp X (binaryOp .Sub) (fI .sub):=ph Dj λ_ _ _ _ _ q=>#[_,_,rfl,rfl,q]
def AM {i j:JI}(h:vk i j=true):CMul i j:=by
 unfold vk at h;rw[LF,Jv,Jv,JL,JL,JL,JL]at h;exact h
def AN:LOp X (binaryOp .Mult) (fI .mul):=by
 have hI:LOp X (binaryOp .Mult) (Aa vk (· * ·)):=ph Dk λ_ _ _ _ h q=>#[_,_,rfl,rfl,AM h,q]
 intro J s Y H A S x y a b u v w S' I so rx ru ry rv e;cases x with
 | str z=>
  cases rx with
  | str=>cases ry with
   | int=>
    dsimp only[fI,xr]at e;split at e
    ·rename_i hc;cases e; exact OpR.go rP I ru rv #[_,_,rfl,rfl,xt ∅ ∅ hc.2.2,.here so .str]
    ·cases e
   | _=>cases e
 | ref z=>
  cases rx with
  | ref h1=>cases ry with
   | int=>
    dsimp only[fI,xr]at e;split at e
    ·split at e
     ·rename_i hc;obtain⟨hl,rfl,rfl⟩:=j8 e;obtain⟨vs,q1,r1⟩:=eO so (by assumption) h1
      rw[r1.length]at hc;exact OpR.go DA I ru rv #[_,_,_,rfl,rfl,q1,∅,∅,hc.2.2,λp hp=>.lst so (r1.rep _) hp]
     ·cases e
    ·cases e
   | _=>cases e
 | _=>exact hI _ _ _ _ _ _ _ _ _ _ _ _ _ _ I so rx ru ry rv e
def xu:LOp X (binaryOp .FloorDiv) (fI .fdiv):=ph Ap λ_ _ _ _ h q=>#[_,_,rfl,rfl,by
 unfold AG at h;rw[Jv,JL,JL]at h;exact h,q]
def AO:LOp X (binaryOp .Mod) (fI .mod):=ph Dl λ_ _ _ _ h q=>#[_,_,rfl,rfl,Kt h,q]
def AQ:LOp X (binaryOp .Pow) (fI .pow):=ph Dm λ_ _ _ _ h q=>#[_,_,rfl,rfl,by
 unfold Fx at h;rw[Jv,Jv,JL,JL,JL]at h;exact#[h.1.1,h.1.2,h.2],q]
def tu (o:BOp):LOp X (binaryOp o.py) (fI o):=by
 cases o
 ·exact AK
 ·exact AL
 ·exact AN
 ·exact xu
 ·exact AO
 ·exact AQ
end
abbrev j5 (f:W->W->Jw J6):Jn W->Jn W->Jw J6
 | [],[]=>ba true
 | [],_::_=>ba false
 | _::_,[]=>ba false
 | x::xs,y::ys=>match f x y,j5 f xs ys with
  | some a,ba b=>ba (a&&b)
  | _,_=>gV
abbrev b2 (b:J6):JI:=if b then 1 else 0
abbrev kE (S:aa):Jx->W->W->Jw J6
 | _,.non,y=>match y with
  | .non=>ba true
  | _=>gV
 | _,.bl a,y=>match y with
  | .bl b=>ba (a==b)
  | _=>gV
 | _,.int a,y=>match y with
  | .int b=>ba (a==b)
  | _=>gV
 | _,.str a,y=>match y with
  | .str b=>ba (a==b)
  | _=>gV
 | 0,_,_=>gV
 | d+1,.tup xs,y=>match y with
  | .tup ys=>j5 (kE S d) xs ys
  | _=>gV
 | d+1,.ref i,y=>match y with
  | .ref j=>match o9 S i,o9 S j with
   | some xs,ba ys=>if xs.length=ys.length then j5 (kE S d) xs ys else ba false
   | _,_=>gV
  | _=>gV
section
variable{X:Cx}{J:Jn (JA×Lo)}{Y:L2.St}{H:Hp}{s:Jt}{A:Jn JA}{S:aa}
abbrev RU (K:JH)(A:Jn JA)(H:Hp)(w:W)(u:Jr):Prop:=∃v,Rel K A H w v/\RelV v u
def tz {ws:Jn W}{vs:Jn V}{us:Jn Jr}(r:RelL X.K A H ws vs)(q:Vals vs us):∀(j:Jx) (h1:j < ws.length) (h2:j < us.length),RU X.K A H ws[j] us[j]:=by
 induction ws generalizing vs us with
 | nil=>intro j h1; simp at h1
 | cons w ws ih=>
  cases r with
  | cons r1 rr=>
   cases q with
   | cons q1 qq=>
    intro j h1 h2;cases j with
    | zero=>exact#[_,r1,q1]
    | succ j=>exact ih rr qq j (by simpa using h1) (by simpa using h2)
def xv {ws:Jn W}{u:Jr}(I:Inv X J Y H s)(h:RU X.K A H (.tup ws) u):∃a its,u=.ref a/\QE s.heap a its/\its.size=ws.length/\ws.length<=sizeLine/\∀(j:Jx) (h1:j < ws.length) (h2:j < its.size),RU X.K A H ws[j] its[j]:=by
 obtain⟨v,r,q⟩:=h;cases r with
 | tup sq rl=>
  obtain⟨its,rv,ht,hz⟩:=I.tuple sq;refine#[_,its.toArray,q,ht,by rw[JM,<- rv.length,rl.length],by rw[rl.length]; exact hz,λj h1 h2=>?_]
  have:=tz rl rv j h1 (by simpa using h2)
  simpa using this
def xw {i:Jx}{ws:Jn W}{u:Jr}(I:Inv X J Y H s)(so:StoreOk X.w X.K A H S)(e:o9 S i=ba ws)(h:RU X.K A H (.ref i) u):∃a its,u=.ref a/\A[i]?=ba a/\s.heap.IsList a its/\its.size=ws.length/\ws.length<=sizeLine/\∀(j:Jx) (h1:j < ws.length) (h2:j < its.size),RU X.K A H ws[j] its[j]:=by
 obtain⟨v,r,q⟩:=h;cases r with
 | ref ea=>
  obtain⟨vs,hq,rl⟩:=eO so e ea;obtain⟨its,rv,ht,hz⟩:=I.list (.of hq);refine#[_,its.toArray,q,ea,ht.isList,by rw[JM,<- rv.length,rl.length],by rw[rl.length]; exact hz,λj h1 h2=>?_]
  have:=tz rl rv j h1 (by simpa using h2)
  simpa using this
def kF {f:W->W->Jw J6}:∀ {xs ys:Jn W} {k:J6},j5 f xs ys=ba k->∃e:Jx->J6,(∀(j:Jx) (h1:j < xs.length) (h2:j < ys.length),f xs[j] ys[j]=ba (e j))/\
  k=((JW (min xs.length ys.length)).all e&&xs.length==ys.length)
 | [],[],k,h=>#[λ_=>true,λj h1=>by simp at h1,by cases h; rfl]
 | [],_::_,k,h=>#[λ_=>true,λj h1=>by simp at h1,by cases h; simp]
 | _::_,[],k,h=>#[λ_=>true,λj h1 h2=>by simp at h2,by cases h; simp]
 | x::xs,y::ys,k,h=>by
  dsimp only[j5]at h;split at h
  ·rename_i a b ha hb;cases h;obtain⟨e,h1,h2⟩:=kF hb;refine#[λj=>match j with|0=>a|j+1=>e j,λj hj1 hj2=>?_,?_]
   ·cases j with
    | zero=>exact ha
    | succ j=>exact h1 j (by simpa using hj1) (by simpa using hj2)
   ·subst h2;simp only[J9,Nat.add_min_add_right,Pg,KJ,SF,Bool.and_assoc];congr 2;simp
  ·cases h
def AR (I:Inv X J Y H s)(so:StoreOk X.w X.K A H S):∀(d:Jx) {x y:W} {v:V} {k:J6},Rel X.K A H x v->Rel X.K A H y v->kE S d x y=ba k->k=true:=by
 intro d
 induction d with
 | zero=>
  intro x y v k rx ry e;cases rx with
  | non=>cases ry; cases e; rfl
  | bl=>cases ry; cases e; exact KM _
  | int=>cases ry; cases e; exact KM _
  | str=>cases ry; cases e; exact KM _
  | tup _ _=>cases e
  | ref _=>cases e
 | succ d ih=>
  have lists:∀ {xs ys:Jn W} {vs:Jn V} {k:J6},RelL X.K A H xs vs->RelL X.K A H ys vs->j5 (kE S d) xs ys=ba k->k=true:=by
   intro xs
   induction xs with
   | nil=>
    intro ys vs k r1 r2 e;cases r1; cases r2; cases e; rfl
   | cons x xs ihx=>
    intro ys vs k r1 r2 e;cases r1 with
    | cons p1 q1=>
     cases r2 with
     | cons p2 q2=>
      dsimp only[j5]at e;split at e
      ·rename_i a b ha hb;cases e;rw[ih p1 p2 ha,ihx q1 q2 hb];rfl
      ·cases e
  intro x y v k rx ry e;cases rx with
  | non=>cases ry; cases e; rfl
  | bl=>cases ry; cases e; exact KM _
  | int=>cases ry; cases e; exact KM _
  | str=>cases ry; cases e; exact KM _
  | tup h1 r1=>
   cases ry with
   | tup h2 r2=>
    rw[I.tuple_inj h1 h2]at r1;exact lists r1 r2 e
   | ref ea=>cases e
  | ref ea=>
   cases ry with
   | tup h2 r2=>cases e
   | ref eb=>
    dsimp only[kE]at e;split at e
    ·rename_i xs ys hx hy;have:=so.nd _ _ _ _ _ (kD hx) rfl (kD hy) rfl ea eb;subst this;rw[hx]at hy; cases hy
     rw[JZ rfl]at e;obtain⟨vs,q,r⟩:=eO so hx ea;exact lists r r e
    ·cases e
def aD (A:Kk):A.in1.units=A.units+1:=rfl
noncomputable abbrev EQ (B:Kk)(s:Jt)(u v:Jr)(k:J6):Prop:=SeqAt.RcAt B s u v k/\SeqAt.RcNeAt B s u v (!k)/\NY B s u v k
open SeqAt in
def Cq (I:Inv X J Y H s)(so:StoreOk X.w X.K A H S):∀(d:Jx) (B:Kk) {x y:W} {u v:Jr} {k:J6},B.units+d < cLine->RU X.K A H x u->RU X.K A H y v->kE S d x y=ba k->EQ B s u v k:=by
 have non:∀ {B:Kk} {y:W} {u v:Jr} {k:J6} {d:Jx},RU X.K A H .non u->RU X.K A H y v->kE S d .non y=ba k->EQ B s u v k:=by
  intro B y u v k d ⟨_,rx,ra⟩ ⟨_,ry,rb⟩ e;cases rx;cases(show u=KA from ra)
  cases y with
  | non=>
   have e:ba (true)=ba k:=by cases d <;> exact e
   cases e;cases ry;cases(show v=KA from rb)
   exact#[.none_none,.none_none,.same _]
  | _=>cases d <;> cases e
 have bl:∀ {B:Kk} {b:J6} {y:W} {u v:Jr} {k:J6} {d:Jx},RU X.K A H (.bl b) u->RU X.K A H y v->kE S d (.bl b) y=ba k->EQ B s u v k:=by
  intro B b y u v k d ⟨_,rx,ra⟩ ⟨_,ry,rb⟩ e;cases rx;cases(show u=Na _ from ra)
  cases y with
  | bl c=>
   have e:ba (b==c)=ba k:=by cases d <;> exact e
   cases e;cases ry;cases(show v=Na _ from rb)
   exact#[.bool_bool _ _,.bool_bool _ _,.bool_bool _ _]
  | _=>cases d <;> cases e
 have int:∀ {B:Kk} {b:JI} {y:W} {u v:Jr} {k:J6} {d:Jx},RU X.K A H (.int b) u->RU X.K A H y v->kE S d (.int b) y=ba k->EQ B s u v k:=by
  intro B b y u v k d ⟨_,rx,ra⟩ ⟨_,ry,rb⟩ e;cases rx;obtain⟨t0,rfl⟩ : ∃t,u=NW _ t:=ra;cases y with
  | int c=>
   have e:ba (b==c)=ba k:=by cases d <;> exact e
   cases e;cases ry;obtain⟨t,rfl⟩ : ∃t,v=NW _ t:=rb;exact#[.int_int _ _ _ _,.int_int _ _ _ _,.int_int _ _ _ _]
  | _=>cases d <;> cases e
 have str:∀ {B:Kk} {b:JV} {y:W} {u v:Jr} {k:J6} {d:Jx},RU X.K A H (.str b) u->RU X.K A H y v->kE S d (.str b) y=ba k->EQ B s u v k:=by
  intro B b y u v k d ⟨_,rx,ra⟩ ⟨_,ry,rb⟩ e;cases rx;obtain⟨t0,rfl⟩ : ∃t,u=NX _ t:=ra;cases y with
  | str c=>
   have e:ba (b==c)=ba k:=by cases d <;> exact e
   cases e;cases ry;obtain⟨t,rfl⟩ : ∃t,v=NX _ t:=rb;exact#[.str_str _ _ _ _,.str_str _ _ _ _,.str_str _ _ _ _]
  | _=>cases d <;> cases e
 intro d
 induction d with
 | zero=>
  intro B x y u v k hu rx ry e;cases x with
  | non=>exact non rx ry e
  | bl b=>exact bl rx ry e
  | int b=>exact int rx ry e
  | str b=>exact str rx ry e
  | _=>cases e
 | succ d ih=>
  intro B x y u v k hu rx ry e;have hu0:B.units < cLine:=∅
  have hu1:B.in1.units+d < cLine:=by rw[aD]; omega
  have rx0:=rx;have ry0:=ry;have fin:∀ {a b:JA},u=.ref a->v=.ref b->RcAt B s u v k->RcNeAt B s u v (!k)->EQ B s u v k:=by
   intro a b ea eb h1 h2;subst ea eb;refine#[h1,h2,?_]
   by_cases hab:a=b
   ·subst hab;obtain⟨v1,q1,z1⟩:=rx0;obtain⟨v2,q2,z2⟩:=ry0;have e12:v1=v2:=z1.inj z2;subst e12;have:=AR I so (d+1) q1 q2 e;subst this;exact EqAt.same _
   ·exact EqAt.of_refs hab h1
  cases x with
  | non=>exact non rx ry e
  | bl b=>exact bl rx ry e
  | int b=>exact int rx ry e
  | str b=>exact str rx ry e
  | tup xs=>
   cases y with
   | tup ys=>
    obtain⟨a,its,rfl,ht,hs,_,hi⟩:=xv I rx;obtain⟨b,its2,rfl,ht2,hs2,_,hi2⟩:=xv I ry;obtain⟨f,h1,h2⟩:=kF (show j5 (kE S d) xs ys=ba k from e)
    have he:∀j (h1:j < its.size) (h2:j < its2.size),EqAt B.in1 s its[j] its2[j] (f j):=λj j1 j2=>
     (ih B.in1 hu1 (hi j (hs ▸ j1) j1) (hi2 j (hs2 ▸ j2) j2) (h1 j (hs ▸ j1) (hs2 ▸ j2))).2.2
    rw[<- hs,<- hs2]at h2;subst h2;exact fin rfl rfl (RcAt.tuples ht ht2 hu0 he) (RcNeAt.tuples ht ht2 hu0 he)
   | _=>cases e
  | ref i=>
   cases y with
   | ref j=>
    dsimp only[kE]at e;split at e
    ·rename_i ws ws2 hw hw2;obtain⟨a,its,rfl,_,hl,hs,_,hi⟩:=xw I so hw rx;obtain⟨b,its2,rfl,_,hl2,hs2,_,hi2⟩:=xw I so hw2 ry;split at e
     ·rename_i hlen;obtain⟨f,h1,h2⟩:=kF e;have he:∀j (h1:j < its.size) (h2:j < its2.size),EqAt B.in1 s its[j] its2[j] (f j):=λj j1 j2=>
       (ih B.in1 hu1 (hi j (hs ▸ j1) j1) (hi2 j (hs2 ▸ j2) j2) (h1 j (hs ▸ j1) (hs2 ▸ j2))).2.2
      have hk:k=(JW its.size).all f:=by rw[h2,hs,hlen]; simp
      subst hk;exact fin rfl rfl (RcAt.lists hl hl2 (by rw[hs,hs2,hlen]) hu0 he) (RcNeAt.lists hl hl2 (by rw[hs,hs2,hlen]) hu0 he)
     ·rename_i hlen;cases e;have hb:(its.size != its2.size)=true:=by rw[hs,hs2]; simpa using hlen
      exact fin rfl rfl (RcAt.lists_lengths hl hl2 hb hu0) (RcNeAt.lists_lengths hl hl2 hb hu0)
    ·cases e
   | _=>cases e
end
abbrev LtAt (B:Kk)(s:Jt)(u v:Jr)(k:J6):Prop:=
 ∀(prog:Kh) (w:Km) (E:Jr->Jt->Prop) (Q:Jr->Jt->Prop),Q (.bool k) s->wpAny (model prog w) B (richCompare .Lt u v) Q E s
inductive LexR (B:Kk)(s:Jt):Jn Jr->Jn Jr->J6->Prop
 | nn:LexR B s [] [] false
 | nc {v:Jr} {vs:Jn Jr}:LexR B s [] (v::vs) true
 | cn {v:Jr} {vs:Jn Jr}:LexR B s (v::vs) [] false
 | eq {u v:Jr} {us vs:Jn Jr} {k:J6}:NY B s u v true->LexR B s us vs k->LexR B s (u::us) (v::vs) k
 | ne {u v:Jr} {us vs:Jn Jr} {k:J6}:NY B s u v false->LtAt B s u v k->LexR B s (u::us) (v::vs) k
section
open PySem.SeqAt
open PySem.AutoSeq1 (wpAny_loadPart')
open PySem.MeetsSeq PySem.MeetsSeq2 PySem.MeetsSeq3
def nP (l b:JA)(items items2:J8 Jr)(n n2:Jx)(dd dd2:Jw JA)(sl sl2:J8 (Jw Jr))(k:J6) :
  Meets (MM.«tuple.__lt__» #[[.ref l,.ref b],[]])
   (λB R s=>s.heap.get? l=ba { cls:=.type "tuple",dict:=dd,data:=.seq items n,slots:=sl }/\s.heap.get? b=ba { cls:=.type "tuple",dict:=dd2,data:=.seq items2 n2,slots:=sl2 }/\
    LexR B.in1 s items.toList items2.toList k/\R (.ok (.ret (.bool k))) s):=
 .of_wp λprog w A R s h=>by
  obtain⟨hp,g,d,tk,os⟩:=s; obtain⟨hl,hb,hx,h⟩:=h
  have f2:=Sg;have z1:items.toList.length=items.size:=by simp
  have z2:items2.toList.length=items2.size:=by simp
  wp_walk using Ob hl,Ob hb,Nk _ (λbu b s'=>b.1=gV/\s'=#[hp,g,d,tk,os]/\∃(vs ws:Jn Jr),bu=vs.zip ws/\
   LexR A.in1 #[hp,g,d,tk,os] vs ws k/\vs.length+items2.size=ws.length+items.size) _
  case turn=>
   rintro⟨y,x⟩ bu b s' ⟨hb',rfl,vs,ws,hz,hlx,hlen⟩;cases hlx with
   | nn=>rw[QS]at hz; cases hz
   | nc=>rw[QS]at hz; cases hz
   | cn=>rw[List.zip_nil_right]at hz; cases hz
   | eq he hr=>
    rw[M1]at hz;injection hz with hyx hrest
    injection hyx with hy hx
    subst hy hx;simp only[J9]at hlen;refine Jo (he prog w _ _ ?_)
    wp_walk
    exact#[rfl,rfl,_,_,hrest,hr,∅]
   | ne he hr=>
    rw[M1]at hz;injection hz with hyx hrest
    injection hyx with hy hx
    subst hy hx;refine Jo (he prog w _ _ ?_);have hri:=hr prog w
    wp_walk using hri
    exact#[_,rfl,by simpa using h]
  case fin=>
   rintro⟨b1,b2⟩ s' ⟨hb',rfl,vs,ws,hz,hlx,hlen⟩;simp only at hb';subst hb';have hv:k=decide (items.size < items2.size):=by
    cases hlx with
    | nn=>simp only[LV]at hlen; exact(Ki ∅).symm
    | nc=>simp only[LV,J9]at hlen; exact(Lg ∅).symm
    | cn=>simp only[LV,J9]at hlen; exact(Ki ∅).symm
    | eq _ _=>rw[M1]at hz; cases hz
    | ne _ _=>rw[M1]at hz; cases hz
   subst hv
   wp_walk
   exact#[_,rfl,by simpa [Q8]using h]
  case h=>
   exact#[rfl,rfl,items.toList,items2.toList,rfl,hx,∅]
end
def LtAt.tuples {B:Kk}{s:Jt}{l b:JA}{items items2:J8 Jr}{k:J6}(hl:QE s.heap l items)(hb:QE s.heap b items2)(hu:B.units < cLine)(hx:LexR B.in1 s items.toList items2.toList k) :
  LtAt B s (.ref l) (.ref b) k:=λprog w E Q h=>by
 obtain⟨⟨cls,dd,data,sl⟩,ho,hc,n,hd⟩:=id hl;obtain⟨⟨cls2,dd2,data2,sl2⟩,ho2,hc2,n2,hd2⟩:=id hb;simp only at hc hd hc2 hd2;subst hc hd hc2 hd2;exact richCompare_meets_room (op:=.Lt) #[_,ho,rfl] #[_,ho2,rfl] PySem.F.slot_tuple_lt PySem.F.entry_tuple_lt (PySem.F.args_tuple_lt_2 _ _) (nP l b items items2 n n2 dd dd2 sl sl2 k)
  #[ho,ho2,hx,show Na k≠Value.notImplemented/\Q (.bool k) s from#[(λx=>nomatch x),h]] hu
inductive COp where|eq|ne|lt|le|gt|ge|isin|notin|is|isnot
 deriving MX
abbrev COp.py:COp->Sz
 | .eq=>.Eq|.ne=>.NotEq|.lt=>.Lt|.le=>.LtE|.gt=>.Gt|.ge=>.GtE|.isin=>.In|.notin=>.NotIn|.is=>.Is|.isnot=>.IsNot
abbrev bY:W->J6
 | .non=>true
 | .bl _=>true
 | .int _=>true
 | .str _=>true
 | _=>false
abbrev Ab:W->W->J6
 | .non,.non=>true
 | .bl a,.bl b=>a==b
 | .bl a,.int b=>b2 a==b
 | .int a,.bl b=>a==b2 b
 | .int a,.int b=>a==b
 | .str a,.str b=>a==b
 | _,_=>false
abbrev eX (S:aa):W->Jw (Jn W)
 | .tup xs=>ba xs
 | .ref i=>fT S i
 | _=>gV
noncomputable abbrev hZ:Jx:=20
abbrev xx (x y:W)(S:aa):Jw J6:=match eX S y with
 | some ys=>if bY x&&ys.all bY then ba (ys.any λz=>Ab z x)else gV
 | none=>gV
abbrev xy:W->J6
 | .non=>true
 | _=>false
abbrev xz (f:JI->JI->J6):W->W->Jw J6
 | .int i,.int j=>ba (f i j)
 | _,_=>gV
abbrev ER:COp->W->W->aa->Jw J6
 | .eq,x,y,S=>kE S hZ x y
 | .ne,x,y,S=>(kE S hZ x y).map (!·)
 | .lt,x,y,_=>xz (λi j=>decide (i < j)) x y
 | .le,x,y,_=>xz (λi j=>decide (i<=j)) x y
 | .gt,x,y,_=>xz (λi j=>decide (j < i)) x y
 | .ge,x,y,_=>xz (λi j=>decide (j<=i)) x y
 | .isin,x,y,S=>xx x y S
 | .notin,x,y,S=>(xx x y S).map (!·)
 | .is,x,y,_=>if xy y then ba (xy x)else gV
 | .isnot,x,y,_=>if xy y then ba (!xy x)else gV
abbrev iI (o:COp)(x y:W)(S:aa):Jw (W×aa):=(ER o x y S).map λk=>(.bl k,S)
section
variable{X:Cx}
def tB {J:Jn (JA×Lo)}{Y:L2.St}{H:Hp}{s:Jt}{A:Jn JA}{S:aa}{k:J6}(I:Inv X J Y H s)(so:StoreOk X.w X.K A H S):PostE X J Y A H S (.bl k) (.bool k) s:=
 #[.bl k,H,A,I,rfl,.refl,so,.bl]
def AS {o:COp}{x y w:W}{S S':aa}(h:iI o x y S=ba (w,S')):∃k,ER o x y S=ba k/\w=.bl k/\S'=S:=by
 unfold iI at h;rw[Js]at h;obtain⟨k,h1,h2⟩:=h;cases h2;exact#[k,h1,rfl,rfl]
def po {A:Jn JA}{H:Hp}{w:W}{v:V}(r:Rel X.K A H w v)(f:bY w=true):gT v=true:=by
 cases r <;> first|rfl|cases f
def mr {A:Jn JA}{H:Hp}:∀ {ws:Jn W} {vs:Jn V},RelL X.K A H ws vs->ws.all bY=true->vs.all gT=true
 | _,_,.nil,_=>rfl
 | _,_,.cons r t,f=>by
  rw[KJ,Jv]at f ⊢;exact#[po r f.1,mr t f.2]
def AT {A:Jn JA}{H:Hp}{x y:W}{u v:V}(r:Rel X.K A H x u)(q:Rel X.K A H y v)(fx:bY x=true)(fy:bY y=true):AA u v=Ab x y:=by
 cases r <;> cases q <;> first|rfl|cases fx|cases fy
def tD {A:Jn JA}{H:Hp}{y:W}{v:V}(q:Rel X.K A H y v)(fy:bY y=true):∀ {ws:Jn W} {vs:Jn V},RelL X.K A H ws vs->ws.all bY=true->G9 v vs=ws.any λz=>Ab z y
 | _,_,.nil,_=>rfl
 | _,_,.cons r t,f=>by
  rw[KJ,Jv]at f;have:=tD q fy t f.2;unfold G9 at this ⊢;rw[Ml,Ml,AT r q f.1 fy,this]
def nQ {J:Jn (JA×Lo)}{Y:L2.St}{H:Hp}{s:Jt}{A:Jn JA}{S:aa}{y:W}{b:V}{ys:Jn W}(so:StoreOk X.w X.K A H S)(r:Rel X.K A H y b)(e:eX S y=ba ys):∃p vs,b=.ref p/\(SqL X.K H p vs\/SqT X.K H p vs)/\RelL X.K A H ys vs:=by
 cases r with
 | tup h1 r1=>cases e; exact#[_,_,rfl,.inr h1,r1]
 | ref ea=>
  obtain⟨vs,h1,r1⟩:=aZ so e ea;exact#[_,vs,rfl,.inl h1,r1]
 | _=>cases e
def xA {neg:J6}{o:Sz}(ho:OpR X (compareOp o) (HK X.K neg)){J:Jn (JA×Lo)}{Y:L2.St}{H:Hp}{s:Jt}{A:Jn JA}{S:aa}{x y:W}{a b:V}{u v:Jr}{ys:Jn W}(I:Inv X J Y H s)(so:StoreOk X.w X.K A H S)
  (rx:Rel X.K A H x a) (ru:RelV a u) (ry:Rel X.K A H y b) (rv:RelV b v) (e:eX S y=ba ys) (f:(bY x&&ys.all bY)=true) :
  wpAny (model X.prog X.w) X.A (compareOp o u v) (PostE X J Y A H S (.bl (if neg then !ys.any λz=>Ab z x else ys.any λz=>Ab z x))) X.xe s:=by
 obtain⟨p,vs,rfl,hq,rl⟩:=nQ (J:=J) (Y:=Y) (s:=s) so ry e;rw[Jv]at f;refine OpR.go ho I ru rv #[p,vs,rfl,hq,po rx f.1,mr rl f.2,?_];rw[tD rx f.1 rl f.2];exact .here so .bl
def AU (hu:X.A.units+hZ < cLine)(o:COp):LOp X (compareOp o.py) (iI o):=by
 intro J s Y H A S x y a b u v w S' I so rx ru ry rv e;obtain⟨k,ek,e1,e2⟩:=AS e;subst e1;subst e2;clear e
 rename aa=>S
 have twoI:∀ {f:JI->JI->J6},xz f x y=ba k->∃i j,x=.int i/\y=.int j/\k=f i j:=by
  intro f h;cases x with
  | int i=>cases y with
   | int j=>cases h; exact#[i,j,rfl,rfl,rfl]
   | _=>cases h
  | _=>cases h
 have hu1:X.A.units+1 < cLine:=by have:hZ=20:=rfl; omega
 have ofSq:∀ {c:J6},xx x y S=ba c->(∃ys,eX S y=ba ys/\(bY x&&ys.all bY)=true/\c=ys.any λz=>Ab z x):=by
  intro c h;unfold xx at h;split at h
  ·split at h
   ·cases h; exact#[_,by assumption,by assumption,rfl]
   ·cases h
  ·cases h
 have ofN:∀ {c:J6},(if xy y then ba c else gV)=ba k->y=.non/\k=c:=by
  intro c h;cases y with
  | non=>cases h; exact#[rfl,rfl]
  | _=>cases h
 cases o with
 | eq=>exact(Cq I so hZ X.A hu #[a,rx,ru] #[b,ry,rv] ek).1 _ _ _ _ (tB I so)
 | ne=>
  obtain⟨k',h1,rfl⟩:=Js.mp ek;exact(Cq I so hZ X.A hu #[a,rx,ru] #[b,ry,rv] h1).2.1 _ _ _ _ (tB I so)
 | lt=>
  obtain⟨i,j,rfl,rfl,rfl⟩:=twoI ek;cases rx; cases ry
  exact OpR.go Fi I ru rv #[_,_,rfl,rfl,.here so .bl]
 | le=>
  obtain⟨i,j,rfl,rfl,rfl⟩:=twoI ek;cases rx; cases ry
  exact OpR.go Fj I ru rv #[_,_,rfl,rfl,.here so .bl]
 | gt=>
  obtain⟨i,j,rfl,rfl,rfl⟩:=twoI ek;cases rx; cases ry
  exact OpR.go Fk I ru rv #[_,_,rfl,rfl,.here so .bl]
 | ge=>
  obtain⟨i,j,rfl,rfl,rfl⟩:=twoI ek;cases rx; cases ry
  exact OpR.go Fn I ru rv #[_,_,rfl,rfl,.here so .bl]
 | isin=>
  obtain⟨ys,h1,h2,rfl⟩:=ofSq ek;exact xA (neg:=false) vd I so rx ru ry rv h1 h2
 | notin=>
  obtain⟨c,h,rfl⟩:=Js.mp ek;obtain⟨ys,h1,h2,rfl⟩:=ofSq h;exact xA (neg:=true) nM I so rx ru ry rv h1 h2
 | is=>
  obtain⟨rfl,rfl⟩:=ofN ek;cases ry;refine OpR.go Dp I ru rv #[rfl,?_];cases rx <;> exact .here so .bl
 | isnot=>
  obtain⟨rfl,rfl⟩:=ofN ek;cases ry;refine OpR.go Aq I ru rv #[rfl,?_];cases rx <;> exact .here so .bl
end
end Mi
namespace HT
open PySem PyProof.Rows
section
variable{prog:Kh}{w:Km}{A:Kk}{E:Jr->Jt->Prop}{s:Jt}
def gL {t sl:JA}{items:J8 Jr}{vl vu:Jr}{lo hi:Jw JI}{Q:Jr->Jt->Prop}(ht:QE s.heap t items)(hs:s.heap.IsSliceOf sl vl vu .none)(pl:Ou vl lo)(pu:Ou vu hi)
  (hw:b7 items.size 0 lo=0/\b7 items.size items.size hi=items.size) (h:Q (.ref t) s):wpAny (model prog w) A (getItem (.ref t) (.ref sl)) Q E s:=by
 obtain⟨os,hos,hcs,hds⟩:=id hs;have hTs:s.TypeIs (.ref sl) "slice":=#[os,hos,hcs];unfold getItem
 try with_reducible refine KR ?_
 first|refine Jo (Ju ?_)|skip
 refine Jo (QL ht.typeIs #v[] ?_)
 refine Jo (KI (name:=LD "__getitem__") ht.typeIs LW
  (KL LW ht.typeIs Qb ?_ (Qr _ _)))
 show wpAny _ _ (Nb (.ref t) >>= _) _ _ s;refine Jo (R9 ht ?_);refine Jo (MZ hTs ?_);rw[JZ #v[]]
 refine Jo (eT hs pl pu ?_);have hyes:((((b7 items.size 0 lo:Jx):JI)==0&&(1:JI)==1&&(b7 items.size items.size hi - b7 items.size 0 lo)==items.size)=true):=by
  rw[hw.1,hw.2];simp
 show wpAny _ _ (if (((b7 items.size 0 lo:Jx):JI)==0&&(1:JI)==1&&(b7 items.size items.size hi - b7 items.size 0 lo)==items.size)=true then _ else _) _ _ s
 rw[JZ hyes];unfold RV;refine Jo (Jo (MZ ht.typeIs (Ju ?_)));rw[JZ #v[]]
 exact Jo (Os (Jo (Ju (Ju #[_,rfl,Ju h]))))
end
end HT
namespace Mi
open PySem PySem.Spec PyProof.Rows L2
abbrev vn (x y:W)(S:aa):Jw (W×aa):=match x,y with
 | .tup xs,.int i=>(pf xs i).map λw=>(w,S)
 | .ref r,.int i=>match fT S r with
  | some xs=>(pf xs i).map λw=>(w,S)
  | none=>gV
 | .str x,.int i=>if x.length<=sizeLine then(pf x.cps.toList i).map λc=>(.str #[[c].toArray],S)else gV
 | _,_=>gV
abbrev jk (xs:Jn W)(lo hi:Jw JI):Jn W:=(xs.drop (HT.b7 xs.length 0 lo)).take (HT.b7 xs.length xs.length hi - HT.b7 xs.length 0 lo)
abbrev rQ (x:W)(lo hi:Jw JI)(S:aa):Jw (W×aa):=match x with
 | .tup xs=>ba (.tup (jk xs lo hi),S)
 | .ref r=>match fT S r with
  | some xs=>ba (.ref S.length,S++[.lst (jk xs lo hi)])
  | none=>gV
 | _=>gV
abbrev vo (o i v:W)(S:aa):Jw aa:=match o,i with
 | .ref r,.int k=>match o9 S r with
  | some xs=>match tf xs.length k with
   | some j=>ba (S.set r (.lst (xs.set j v)))
   | none=>gV
  | none=>gV
 | _,_=>gV
section
variable (X:Cx)
abbrev LIx (g:W->W->aa->Jw (W×aa)):Prop:=
 ∀(value slice:J3) (J:Jn (JA×Lo)) (s:Jt) (Y:L2.St) (H:Hp) (A:Jn JA) (S:aa) (x y:W) (a b:V) (u v:Jr) (w:W) (S':aa),Inv X J Y H s->StoreOk X.w X.K A H S->
  Rel X.K A H x a->RelV a u->Rel X.K A H y b->RelV b v->g x y S=ba (w,S')->subscripted slice false u v=operate [u,v] (getItem u v)->wpAny (model X.prog X.w) X.A (subscriptTail value slice u v) (PostE X J Y A H S' w) X.xe s
abbrev LSl (g:W->Jw JI->Jw JI->aa->Jw (W×aa)):Prop:=
 ∀(J:Jn (JA×Lo)) (s:Jt) (Y:L2.St) (H:Hp) (A:Jn JA) (S:aa) (x:W) (a:V) (v vl vu:Jr) (lo hi:Jw JI) (sl:JA) (w:W) (S':aa),Inv X J Y H s->StoreOk X.w X.K A H S->
  Rel X.K A H x a->RelV a v->s.heap.IsSliceOf sl vl vu .none->Ou vl lo->Ou vu hi->g x lo hi S=ba (w,S')->
  ∃T id,typeLookup (.type T) "__getitem__" = pure (ba (.builtin id))/\s.TypeIs v T/\wpAny (model X.prog X.w) X.A (getItem v (.ref sl)) (PostE X J Y A H S' w) X.xe s
abbrev LSet (g:W->W->W->aa->Jw aa):Prop:=
 ∀(J:Jn (JA×Lo)) (s:Jt) (Y:L2.St) (H:Hp) (A:Jn JA) (S:aa) (o i x:W) (ao ai ax:V) (uo ui ux:Jr) (S':aa),Inv X J Y H s->StoreOk X.w X.K A H S->
  Rel X.K A H o ao->RelV ao uo->Rel X.K A H i ai->RelV ai ui->Rel X.K A H x ax->RelV ax ux->g o i x S=ba S'->
  wpAny (model X.prog X.w) X.A (setItem uo ui ux) (λ_ s'=>∃H' A',Inv X J Y H' s'/\Ext X.K A H A' H'/\StoreOk X.w X.K A' H' S') X.xe s
abbrev LCall (f:Jr)(g:Jn W->aa->Jw (W×aa)):Prop:=
 ∀(J:Jn (JA×Lo)) (s:Jt) (Y:L2.St) (H:Hp) (A:Jn JA) (S:aa) (xs:Jn W) (vs:Jn V) (us:Jn Jr) (w:W) (S':aa),Inv X J Y H s->StoreOk X.w X.K A H S->
  RelL X.K A H xs vs->Vals vs us->g xs S=ba (w,S')->wpAny (model X.prog X.w) X.A (call f us) (PostE X J Y A H S' w) X.xe s
abbrev mw (id:Lc)(g:W->Jn W->aa->Jw (W×aa)):Prop:=
 ∀(J:Jn (JA×Lo)) (s:Jt) (Y:L2.St) (H:Hp) (A:Jn JA) (S:aa) (x:W) (a:V) (u:Jr) (xs:Jn W) (vs:Jn V) (us:Jn Jr) (w:W) (S':aa),Inv X J Y H s->StoreOk X.w X.K A H S->
  Rel X.K A H x a->RelV a u->RelL X.K A H xs vs->Vals vs us->g x xs S=ba (w,S')->wpAny (model X.prog X.w) X.A (call (.builtin id) (u::us)) (PostE X J Y A H S' w) X.xe s
end
section
variable{X:Cx}{J:Jn (JA×Lo)}{Y:L2.St}{H:Hp}{s:Jt}{A:Jn JA}{S:aa}
def IxR.go {r:R2}(h:IxR X r){S':aa}{w:W}{a b:V}{u v:Jr}{value slice:J3}(I:Inv X J Y H s)(ru:RelV a u)(rv:RelV b v)(q:r a b H (EndV X.w X.K A H S' w))(hs:subscripted slice false u v=operate [u,v] (getItem u v)) :
  wpAny (model X.prog X.w) X.A (subscriptTail value slice u v) (PostE X J Y A H S' w) X.xe s:=bq (h value slice J s Y H a b u v _ I ru rv q hs) λ_ _=>EP.post
def CallR.go {f:Jr}{r:Jn V->Hp->VK->Prop}(h:CallR X f r){S':aa}{w:W}{vs:Jn V}{us:Jn Jr}(I:Inv X J Y H s)(rv:Vals vs us)(q:r vs H (EndV X.w X.K A H S' w)) :
  wpAny (model X.prog X.w) X.A (call f us) (PostE X J Y A H S' w) X.xe s:=bq (h J s Y H vs us _ I rv q) λ_ _=>EP.post
def MtR.go {id:Lc}{r:V->Jn V->Hp->VK->Prop}(h:MtR X id r){S':aa}{w:W}{a:V}{u:Jr}{vs:Jn V}{us:Jn Jr}(I:Inv X J Y H s)(ru:RelV a u)(rv:Vals vs us)(q:r a vs H (EndV X.w X.K A H S' w)) :
  wpAny (model X.prog X.w) X.A (call (.builtin id) (u::us)) (PostE X J Y A H S' w) X.xe s:=bq (h J s Y H a vs u us _ I ru rv q) λ_ _=>EP.post
def tF {xs:Jn W}{vs:Jn V}{i:JI}{w:W}(r:RelL X.K A H xs vs)(e:pf xs i=ba w):∃v,pf vs i=ba v/\Rel X.K A H w v:=by
 unfold pf at e ⊢;rw[r.length]at e;cases q:tf vs.length i with
 | none=>rw[q]at e; cases e
 | some j=>
  rw[q]at e;obtain⟨v,h1,h2⟩:=r.get (show xs[j]?=ba w from e)
  exact#[v,h1,h2]
def Jg (hu:X.A.units+10 < cLine):LIx X vn:=by
 intro value slice J s Y H A S x y a b u v w S' I so rx ru ry rv e hs;cases rx with
 | tup h1 r1=>cases ry with
  | int=>
   (dsimp only[vn]at e; simp only[Js]at e)
   obtain⟨w',e1,e2⟩:=e;cases e2;obtain⟨z,h2,r2⟩:=tF r1 e1;exact IxR.go Dv I ru rv #[_,_,_,_,rfl,rfl,h1,h2,.here so r2] hs
  | _=>cases e
 | ref ea=>cases ry with
  | int=>
   dsimp only[vn]at e;split at e
   ·rename_i ws hw;rw[Js]at e;obtain⟨w',e1,e2⟩:=e;cases e2;obtain⟨vs,h1,r1⟩:=aZ so hw ea;obtain⟨z,h2,r2⟩:=tF r1 e1;exact IxR.go Ay I ru rv #[_,_,_,_,rfl,rfl,h1,h2,.here so r2] hs
   ·cases e
  | _=>cases e
 | str=>cases ry with
  | int=>
   dsimp only[vn]at e;split at e
   ·rw[Js]at e;obtain⟨c,e1,e2⟩:=e;cases e2;exact IxR.go Dw I ru rv #[_,_,_,rfl,rfl,by assumption,e1,.here so .str] hs
   ·cases e
  | _=>cases e
 | _=>cases ry <;> cases e
def nR {xs:Jn W}{vs:Jn V}{lo hi:Jw JI}(r:RelL X.K A H xs vs):RelL X.K A H (jk xs lo hi) (kC vs lo hi):=by
 unfold jk kC;rw[r.length];exact(r.drop _).take _
def AV:Fu X (λx lo hi H Q=>∃a xs,x=.ref a/\SqT X.K H a xs/\(kC xs lo hi=xs->Q (.ref a) H)/\∀p,H p=gV->Q (.ref p) (br H p (.tup (kC xs lo hi)))):=by
 intro J s Y H x v vl vu lo hi sl Q I rx hs pl pu h;obtain⟨a,xs,rfl,hx,q0,q⟩:=h
 by_cases hw:(HT.b7 xs.length 0 lo=0/\HT.b7 xs.length xs.length hi=xs.length)
 ·cases rx;obtain⟨its,r,ht,hz⟩:=I.tuple hx;have hlen:its.toArray.size=xs.length:=by rw[JM]; exact r.length.symm
  refine#["tuple",_,PyProof.Rows.slot_tuple_getitem.lookup,ht.typeIs,?_];refine HT.gL ht hs pl pu (by rw[hlen]; exact hw) #[.ref a,H,I,rfl,q0 ?_]
  unfold kC;rw[hw.1,hw.2];simp
 ·exact Du J s Y H (.ref a) v vl vu lo hi sl Q I rx hs pl pu #[a,xs,rfl,hx,hw,q]
def Jh:LSl X rQ:=by
 intro J s Y H A S x a v vl vu lo hi sl w S' I so rx rv hs pl pu e;cases rx with
 | tup h1 r1=>
  cases e;obtain⟨T,id,z1,z2,z3⟩:=AV J s Y H _ v vl vu lo hi sl (EndV X.w X.K A H S (.tup (jk _ lo hi))) I rv hs pl pu #[_,_,rfl,h1,λq=>.here so (.tup h1 (by have:=nR (lo:=lo) (hi:=hi) r1; rw[q]at this; exact this)),λp hp=>.tup so (nR r1) hp]
  exact#[T,id,z1,z2,bq z3 λ_ _=>EP.post]
 | ref ea=>
  simp only[rQ]at e;split at e
  ·rename_i ws hw;cases e;obtain⟨vs,h1,r1⟩:=aZ so hw ea;obtain⟨T,id,z1,z2,z3⟩:=Az J s Y H _ v vl vu lo hi sl (EndV X.w X.K A H (S++[.lst (jk ws lo hi)]) (.ref S.length)) I rv hs pl pu #[_,_,rfl,h1,λp hp=>.lst so (nR r1) hp]
   exact#[T,id,z1,z2,bq z3 λ_ _=>EP.post]
  ·cases e
 | _=>cases e
def lset (hu:X.A.units+10 < cLine):LSet X vo:=by
 intro J s Y H A S o i x ao ai ax uo ui ux S' I so ro ruo ri rui rx rux e;cases ro with
 | ref ea=>cases ri with
  | int=>
   simp only[vo]at e;split at e
   ·rename_i ws hw;split at e
    ·rename_i j hj;cases e;obtain⟨vs,h1,r1⟩:=eO so hw ea;rw[r1.length]at hj;obtain⟨so',ex⟩:=so.write (kD hw) ea (r1.set rx j);exact bq (xi J s Y H _ _ _ uo ui ux (λH'=>H'=br H _ (.lst (vs.set j ax))) I ruo rui rux #[_,_,_,_,rfl,rfl,h1,hj,rfl]) λ_ s' #[H',I',e']=>#[_,A,e' ▸ I',ex,so']
    ·cases e
   ·cases e
  | _=>cases e
 | _=>cases ri <;> cases e
abbrev rR (xs:Jn W)(S:aa):Jw (W×aa):=match xs with
 | [.tup ys]=>ba (.int ys.length,S)
 | [.str y]=>if y.length<=sizeLine then ba (.int y.length,S)else gV
 | [.ref i]=>(fT S i).map λys=>(.int ys.length,S)
 | _=>gV
def vp:LCall X (.builtin "len") rR:=by
 intro J s Y H A S xs vs us w S' I so rl rv e;cases rl with
 | nil=>cases e
 | cons r t=>
  cases t with
  | cons _ _=>cases r <;> cases e
  | nil=>
   cases r with
   | tup h1 r1=>cases e; rw[r1.length]; exact CallR.go kz I rv #[_,_,rfl,.inr #[_,h1,rfl],.here so .int]
   | str=>
    dsimp only[rR]at e;split at e
    ·cases e; exact CallR.go kz I rv #[_,_,rfl,#[by assumption,rfl],.here so .int]
    ·cases e
   | ref ea=>
    (dsimp only[rR]at e; simp only[Js]at e)
    obtain⟨ws,hw,e2⟩:=e;cases e2;obtain⟨vs',h1,r1⟩:=aZ so hw ea;rw[r1.length];exact CallR.go kz I rv #[_,_,rfl,.inl #[_,h1,rfl],.here so .int]
   | _=>cases e
abbrev iJ (xs:Jn W)(S:aa):Jw (W×aa):=match xs with
 | [x]=>match eX S x with
  | some ys=>ba (.ref S.length,S++[.lst ys])
  | none=>gV
 | _=>gV
def ic:LCall X (.type "list") iJ:=by
 intro J s Y H A S xs vs us w S' I so rl rv e;cases rl with
 | nil=>cases e
 | cons r t=>
  cases t with
  | cons _ _=>cases e
  | nil=>
   simp only[iJ]at e;split at e
   ·rename_i ys hy;cases e;obtain⟨p,vs',rfl,hq,r1⟩:=nQ (J:=J) (Y:=Y) (s:=s) so r hy;exact CallR.go nN I rv #[p,vs',rfl,hq,λl hl=>.lst so r1 hl]
   ·cases e
abbrev kG (xs:Jn W)(S:aa):Jw (W×aa):=match xs with
 | [.tup ys]=>ba (.tup ys,S)
 | [.ref i]=>match fT S i with
  | some ys=>ba (.tup ys,S)
  | none=>gV
 | _=>gV
def jL:LCall X (.type "tuple") kG:=by
 intro J s Y H A S xs vs us w S' I so rl rv e;cases rl with
 | nil=>cases e
 | cons r t=>
  cases t with
  | cons _ _=>cases r <;> cases e
  | nil=>
   cases r with
   | tup h1 r1=>cases e; exact CallR.go gU I rv #[_,_,rfl,.inr #[h1,.here so (.tup h1 r1)]]
   | ref ea=>
    dsimp only[kG]at e;split at e
    ·rename_i ys hy;cases e;obtain⟨vs',h1,r1⟩:=aZ so hy ea;exact CallR.go gU I rv #[_,_,rfl,.inl #[h1,λl hl=>.tup so r1 hl]]
    ·cases e
   | _=>cases e
abbrev Fz (xs:Jn W)(S:aa):Jw (W×aa):=match xs with
 | [.int i]=>ba (.int i,S)
 | [.bl b]=>ba (.int (if b then 1 else 0),S)
 | _=>gV
def vt:LCall X (.type "int") Fz:=by
 intro J s Y H A S xs vs us w S' I so rl rv e;cases rl with
 | nil=>cases e
 | cons r t=>
  cases t with
  | cons _ _=>cases r <;> cases e
  | nil=>
   cases r with
   | int=>cases e; exact CallR.go l9 I rv (.inl #[_,rfl,.here so .int])
   | bl=>cases e; exact CallR.go l9 I rv (.inr #[_,rfl,.here so .int])
   | _=>cases e
abbrev iK (x:W)(xs:Jn W)(S:aa):Jw (W×aa):=match x,xs with
 | .ref i,[y]=>match o9 S i with
  | some ys=>if ys.length < sizeLine then ba (.non,S.set i (.lst (ys++[y])))else gV
  | none=>gV
 | _,_=>gV
def jl {i:Jx}{p:JA}{ws ws0:Jn W}{us:Jn V}(so:StoreOk X.w X.K A H S)(e:o9 S i=ba ws0)(ea:A[i]?=ba p)(r:RelL X.K A H ws us){w:W}{v:V}(rw':Rel X.K A H w v) :
  EndV X.w X.K A H (S.set i (.lst ws)) w v (br H p (.lst us)):=by
 obtain⟨so',ex⟩:=so.write (kD e) ea r;exact#[A,ex,so',rw'.mono ex]
def nS:mw X "list.append" iK:=by
 intro J s Y H A S x a u xs vs us w S' I so rx ru rl rv e;cases rx with
 | ref ea=>
  cases rl with
  | nil=>cases e
  | cons r t=>
   cases t with
   | cons _ _=>cases e
   | nil=>
    simp only[iK]at e;split at e
    ·rename_i ys hy;split at e
     ·rename_i hl;cases e;obtain⟨vs',h1,r1⟩:=eO so hy ea;rw[r1.length]at hl;exact MtR.go ve I ru rv #[_,_,_,rfl,rfl,h1,hl,jl so hy ea (r1.append #v[r]) .non]
     ·cases e
    ·cases e
 | _=>cases e
abbrev iL (x:W)(xs:Jn W)(S:aa):Jw (W×aa):=match x,xs with
 | .ref i,[.ref j]=>match o9 S i,o9 S j with
  | some ys,ba zs=>if ys.length+zs.length<=sizeLine then ba (.non,S.set i (.lst (ys++zs)))else gV
  | _,_=>gV
 | _,_=>gV
def nT:mw X "list.extend" iL:=by
 intro J s Y H A S x a u xs vs us w S' I so rx ru rl rv e;cases rx with
 | ref ea=>
  cases rl with
  | nil=>cases e
  | cons r t=>
   cases t with
   | cons _ _=>cases r <;> cases e
   | nil=>
    cases r with
    | ref eb=>
     dsimp only[iL]at e;split at e
     ·rename_i ys zs hy hz;split at e
      ·rename_i hl;cases e;obtain⟨vs',h1,r1⟩:=eO so hy ea;obtain⟨vs2,h2,r2⟩:=eO so hz eb;rw[r1.length,r2.length]at hl;exact MtR.go vf I ru rv #[_,_,_,_,rfl,rfl,h1,h2,hl,jl so hy ea (r1.append r2) .non]
      ·cases e
     ·cases e
    | _=>cases e
 | _=>cases e
abbrev DB (x:W)(xs:Jn W)(S:aa):Jw (W×aa):=match x,xs with
 | .ref i,[.int k]=>match o9 S i with
  | some ys=>if -(2 ^ 63)<=k/\k < 2 ^ 63 then match seqIndex? k ys.length with
   | some j=>match ys[j]? with
    | some y=>ba (y,S.set i (.lst (ys.eraseIdx j)))
    | none=>gV
   | none=>gV
   else gV
  | none=>gV
 | _,_=>gV
def vw:mw X "list.pop" DB:=by
 intro J s Y H A S x a u xs vs us w S' I so rx ru rl rv e;cases rx with
 | ref ea=>
  cases rl with
  | nil=>cases e
  | cons r t=>
   cases t with
   | cons _ _=>cases r <;> cases e
   | nil=>
    cases r with
    | int=>
     dsimp only[DB]at e;split at e
     ·rename_i ys hy;split at e
      ·rename_i hk;split at e
       ·rename_i j hj;split at e
        ·rename_i y hyj;cases e;obtain⟨vs',h1,r1⟩:=eO so hy ea;obtain⟨v',h2,r2⟩:=r1.get hyj;rw[r1.length]at hj;exact MtR.go xl I ru rv #[_,_,_,_,_,rfl,rfl,h1,hk.1,hk.2,hj,h2,jl so hy ea (r1.eraseIdx j) r2]
        ·cases e
       ·cases e
      ·cases e
     ·cases e
    | _=>cases e
 | _=>cases e
abbrev jm:Jn W->Jw (Jn JV)
 | []=>ba []
 | .str x::xs=>(jm xs).map (x :: ·)
 | _::_=>gV
abbrev tH (x:W)(xs:Jn W)(S:aa):Jw (W×aa):=match x,xs with
 | .str x,[y]=>match eX S y with
  | some ys=>match jm ys with
   | some zs=>if (zs.map (·.length)).sum+zs.length*x.length<=16777216 then ba (.str (SW x zs),S)else gV
   | none=>gV
  | none=>gV
 | _,_=>gV
def kH:∀ {ws:Jn W} {vs:Jn V} {us:Jn Jr} {zs:Jn JV},RelL X.K A H ws vs->Vals vs us->jm ws=ba zs->StrsAre us zs
 | _,_,_,zs,.nil,.nil,e=>by cases e; exact .nil
 | _,_,_,zs,.cons r t,.cons q p,e=>by
  cases r with
  | str=>
   simp only[jm,Js]at e;obtain⟨z,e1,e2⟩:=e;subst e2;obtain⟨tk,rfl⟩ : ∃t,_=NX _ t:=q;exact .cons _ tk (kH t p e1)
  | _=>cases e
def rS:mw X "str.join" tH:=by
 intro J s Y H A S x a u xs vs us w S' I so rx ru rl rv e;cases rx with
 | str=>
  cases rl with
  | nil=>cases e
  | cons r t=>
   cases t with
   | cons _ _=>cases e
   | nil=>
    simp only[tH]at e;split at e
    ·rename_i ys hy;split at e
     ·rename_i zs hz;split at e
      ·rename_i hl;cases e;obtain⟨p,vs',rfl,hq,r1⟩:=nQ (J:=J) (Y:=Y) (s:=s) so r hy;obtain⟨t0,rfl⟩ : ∃t,u=NX _ t:=ru;obtain⟨u1,rfl,ru1⟩:=l8 rv;have ru1':u1=Kj p:=ru1;subst ru1';rcases hq with hq|hq
       ·obtain⟨its,rr,pl,hz'⟩:=I.list hq;exact join_list pl.isList (by simpa using kH r1 rr hz) hl λt' k=>#[.str _,H,A,I.tok _,#[_,rfl],.refl,so,.str]
       ·obtain⟨its,rr,pl,hz'⟩:=I.tuple hq;exact join_tuple pl (by simpa using kH r1 rr hz) hl λt' k=>#[.str _,H,A,I.tok _,#[_,rfl],.refl,so,.str]
      ·cases e
     ·cases e
    ·cases e
 | _=>cases e
abbrev gM (S:aa):W->Jw J6
 | .non=>ba false
 | .bl b=>ba b
 | .int i=>ba (i != 0)
 | .str y=>if y.length<=sizeLine then ba ((y.length:JI) != 0)else gV
 | .tup xs=>ba (!xs.isEmpty)
 | .ref i=>(fT S i).map λxs=>!xs.isEmpty
def jM {ws:Jn W}{vs:Jn V}(r:RelL X.K A H ws vs):(!ws.isEmpty) = !vs.isEmpty:=by cases r <;> rfl
def HQ {x:W}{a:V}{u:Jr}{k:J6}{Q:J6->Jt->Prop}(I:Inv X J Y H s)(so:StoreOk X.w X.K A H S)(rx:Rel X.K A H x a)(ru:RelV a u)(e:gM S x=ba k)(hq:∀s',Inv X J Y H s'->Q k s') :
  wpAny (model X.prog X.w) X.A (truthy u) Q X.xe s:=by
 refine bq (Dq J s Y H a u (λb H'=>b=k/\H'=H) I ru #[k,?_,rfl,rfl]) λb s' #[H',I',e1,e2]=>?_
 ·cases rx with
  | non=>cases e; rfl
  | bl=>cases e; rfl
  | int=>cases e; rfl
  | str=>
   simp only[gM]at e;split at e
   ·cases e; exact#[by assumption,rfl]
   ·cases e
  | tup h1 r1=>cases e; exact .inr (.inl #[_,h1,jM r1])
  | ref ea=>
   simp only[gM,Js]at e;obtain⟨ws,hw,e2⟩:=e;subst e2;obtain⟨vs,h1,r1⟩:=aZ so hw ea;exact .inl #[_,h1,jM r1]
 ·subst e1 e2;exact hq s' I'
end
abbrev cm (w:Km):Lo:={ cls:=.type "set",dict:=gV,data:=.set #[] 0 (.fresh 0 0 (!eW w)) }
section
variable{prog:Kh}{w:Km}{A:Kk}{E:Jr->Jt->Prop}{s:Jt}{R:Rc->Jt->Prop}{I:JA}{fp wr:Jn JA}{G:J8 PQ->J8 PQ->Prop}{n:Jx}{P:Jx->Jr->Prop}{St:Jx->Jt->Prop}
def xB (a:Jr){Q₁:Jr->Jt->Prop}(h:Q₁ (.ref s.heap.objs.size) { s with heap:=s.heap.push (cm w) }):codeAny (model prog w) A (.call (.builtin "set.__new__") #[[.type "set",a],[]]) (wants Q₁ E) s:=by
 refine Pr ?_;show wpAny _ A.in1 (checkBuiltinCall "set.__new__" #[[.type "set",a],[]] >>= λ_=>again (.builtin "set.__new__" #[[.type "set",a],[]])) _ _ s
 refine Jo (NJ (F.newCall_set_1 a) (Ju #[LO F.plain_set_new _,KU F.entry_set_new ?_]));rw[KP F.plain_set_new _];unfold MM.«set.__new__» RW;have hsub:=Qu;obtain⟨hp,g,d,tk,os⟩:=s;dsimp only
 wp_walk
 refine MQ (Ju ?_);dsimp only;simp only[newObj];exact Jo (SX (Ju (Ju h)))
end
def fX:Slot "set_iterator" "__next__" "set_iterator.__next__":=.of (owner:="set_iterator") (n:="__next__") (by rw[RD,PC]; kernel_rfl) (by decide +kernel) (by decide +kernel) (by decide +kernel) (by first|exact .inl (by decide +kernel)|exact .inr (by decide +kernel)) (by rw[RX]; kernel_rfl)
def pr:Slot "set_iterator" "__iter__" "set_iterator.__iter__":=.of (owner:="set_iterator") (n:="__iter__") (by rw[RD,PC]; kernel_rfl) (by decide +kernel) (by decide +kernel) (by decide +kernel) (by first|exact .inl (by decide +kernel)|exact .inr (by decide +kernel)) (by rw[RX]; kernel_rfl)
def vx:entryFor table "set_iterator.__next__" = ba MM.«set_iterator.__next__»:=entryFor_of_tree (by kernel_rfl)
def rT:entryFor table "set.__iter__" = ba MM.«frozenset.__iter__»:=RY (id':="frozenset.__iter__") (by kernel_rfl) rfl (by decide +kernel) (by kernel_rfl)
def xC (a:Jr):argsOk "set_iterator.__next__" #[[a],[]]:=by unfold argsOk; kernel_rfl
section
variable{α:Type}{prog:Kh}{w:Km}{A:Kk}{E:Jr->Jt->Prop}{s:Jt}
def vy {src:Source}{n:Jx}{Q:Jx->Jt->Prop}(hn:n≠0)(h:∀i dr,i < n->Q i { s with drawn:=dr }):wpAny (model prog w) A (choose src n) Q E s:=λ_ _ _=>#[hn,h _ _ (Ph _ (Nat.pos_of_ne_zero hn))]
def kI:∀ {l:Jn α} {i:Jx} (h:i < l.length),(l[i]::l.eraseIdx i).Perm l
 | x::l,0,_=>.refl _
 | x::l,i+1,h=>(T5 _ _ _).trans ((kI (l:=l) (i:=i) (by simpa using h)).cons x)
def kJ:∀(n:Jx) (xs:Jn α) {s:Jt} {Q:Jn α->Jt->Prop},xs.length=n->(∀ys dr,ys.Perm xs->Q ys { s with drawn:=dr })->wpAny (model prog w) A (drawOrder n xs) Q E s
 | 0,xs,s,Q,hl,h=>by
  obtain rfl:=KS.mp hl;exact Ju (h [] s.drawn .nil)
 | n+1,[],s,Q,hl,h=>by cases hl
 | n+1,x::xs,s,Q,hl,h=>by
  unfold drawOrder;refine Jo (vy (by simp) λi dr hi=>?_)
  rw[Jz hi];dsimp only;refine Jo (kJ n _ (by rw[Oy hi,hl]; rfl) λys dr' hp=>Ju (h _ dr' ?_))
  exact(hp.cons _).trans (kI hi)
def tJ {next:Jx->Jx}:∀(f k:Jx) (lf9:Jn α) (out:J8 α),f=lf9.length->(pickOrder.go next f k lf9 out).toList.Perm (out.toList++lf9)
 | 0,k,lf9,out,h=>by
  obtain rfl:=KS.mp h.symm;simp[pickOrder.go]
 | f+1,k,lf9,out,h=>by
  unfold pickOrder.go;have hp:0 < lf9.length:=∅
  have hi:next k % lf9.length < lf9.length:=Ph _ hp;rw[Jz hi];dsimp only;refine(tJ f (k+1) _ _ (by rw[Oy hi]; omega)).trans ?_
  rw[OT,LQ];exact(kI hi).append_left _
def gx {next:Jx->Jx}{xs:J8 α}:(pickOrder next xs).toList.Perm xs.toList:=by
 have:=tJ (next:=next) xs.size 0 xs.toList #[] (by simp)
 simpa [pickOrder]using this
abbrev SIt (I:JA)(f r:Jr)(i n ep:Jx)(h:Kw):Prop:=h.get? I=ba { cls:=.type "set_iterator",data:=.fields [f,.int i 0,r,.int n 0,.int ep 0].toArray }
def SIt.type {I:JA}{f r:Jr}{i n ep:Jx}(x:SIt I f r i n ep s.heap):s.TypeIs (.ref I) "set_iterator":=#[_,x,rfl]
def pA {I:JA}{Q:Jw Jr->Jt->Prop}{f r:Jr}{i n ep:Jx}(x:SIt I f r i n ep s.heap)(h:wpAny (model prog w) A.in1 (MM.«set_iterator.__next__» #[[.ref I],[]]) (λfin s'=>∃v,fin=.done (.ret v)/\Q (ba v) s') (λe s'=>wpAny (model prog w) A (do if <- isInstance e (.type "StopIteration")then pure gV else throw e) Q E s') s):wpAny (model prog w) A (pyNext (.ref I)) Q E s:=by
 unfold pyNext;refine Jo (M5 (KI (name:=LD "__next__") x.type fX (KL fX x.type vx ?_ (xC _))));exact LH h (λ_ _ #[v,e,q]=>#[v,e,Ju q]) λ_ _ q=>q
abbrev FB (prog:Kh)(w:Km)(A:Kk)(Q:Jw Jr->Jt->Prop)(E:Jr->Jt->Prop)(e:Jr)(s':Jt):Prop:=wpAny (model prog w) A (do if <- isInstance e (.type "StopIteration")then pure gV else throw e) Q E s'
def pB {Q:Jw Jr->Jt->Prop}{Q2:TJ->Jt->Prop}(hh:A.handled=gV)(h:∀h',(∀b o,s.heap.get? b=ba o->h'.get? b=ba o)->Q gV { s with heap:=h' }):wpAny (model prog w) A.in1 (newExc (.type "StopIteration") [] >>= λx=>raiseNew x) Q2 (FB prog w A Q E) s:=by
 refine Jo ?_;simp only[newExc,newTuple];refine Jo (Kr ?_ (by size_fits))
 refine Jo (m:=firstArgMember _ _) (NJ (a:=KA) (by first|rfl|(simp only[firstArgMember]; rfl)) ?_)
 refine Kr ?_ (by size_fits)
 simp only[raiseNew];refine Jo (Qj ?_);rw[show A.in1.handled=gV from hh]
 refine Jo (Ju (Rw ?_));refine Jo (MR (T:="StopIteration") (b:=true) #[_,JJ _ rfl,rfl] Oz ?_);exact Ju (h _ λb o e=>Jq _ (Jq _ e))
section
variable{I a:JA}{f r:Jr}{i n ep sl:Jx}{o:Lo}{es:J8 (JI×Jr)}{t:KY}{Q:Jw Jr->Jt->Prop}
def gy {Q:TZ->Jt->Prop}{vs:J8 Jr}{k:Jx}{v:Jr}(x:s.heap.get? I=ba { cls:=.type "set_iterator",data:=.fields vs })(hk:k < vs.size)(h:∀h',h'.get? I=ba { cls:=.type "set_iterator",data:=.fields (vs.setIfInBounds k v) }->LC I s.heap h'->Q () { s with heap:=h' }):wpAny (model prog w) A (setField (.ref I) k v) Q E s:=Mq x hk h
def gA (x:SIt I (.int sl 0) (.ref a) i n ep s.heap)(ho:s.heap.get? a=ba o)(hd:o.data=.set es ep t)(hf:t.fits es.size=true)(hn:es.size=n)(hh:A.handled=gV){rs:Jw (Jr×Jx)}
  (hx:∀Q':Jw (Jr×Jx)->Jt->Prop,Q' rs s->wpAny (model prog w) A.in1 (setNext a sl i ep) Q' (FB prog w A Q E) s)
  (h1:∀v sl',rs=ba (v,sl')->∀h',SIt I (.int sl' 0) (.ref a) (i+1) n ep h'->(∀b o,b≠I->s.heap.get? b=ba o->h'.get? b=ba o)->Q (ba v) { s with heap:=h' })
  (h2:rs=gV->∀h',(∀b o,b≠I->s.heap.get? b=ba o->h'.get? b=ba o)->Q gV { s with heap:=h' }):wpAny (model prog w) A (pyNext (.ref I)) Q E s:=by
 refine pA x ?_;refine Jo (Ju ?_);show wpAny _ _ (fieldsOf (.ref I) >>= _) _ _ s;refine Jo (OA x rfl ?_);refine Jo (Oh ho hd hf ?_);rw[Kb (by simp[hn])]
 refine Jo (hx _ ?_);cases rs with
 | some p=>
  obtain⟨v,sl'⟩:=p;dsimp only;refine Jo (gy x (by simp) λh' x' sb'=>?_)
  refine Jo (gy x' (by simp) λh2 x2 sb2=>?_)
  refine Ju #[v,rfl,h1 v sl' rfl h2 ?_ λb o hb e=>?_]
  ·simpa [SIt,rawInt]using x2
  ·rw[sb2.2 b hb,sb'.2 b hb]; exact e
 | none=>
  dsimp only;refine Jo (gy x (by simp) λh' x' sb'=>?_)
  refine pB hh λh'' k=>h2 rfl h'' λb o hb e=>k b o (by rw[sb'.2 b hb]; exact e)
def mx {tp:JA}{ps:Jn Jx}(x:SIt I (.ref tp) (.ref a) i n ep s.heap)(ho:s.heap.get? a=ba o)(hd:o.data=.set es ep t)(hf:t.fits es.size=true)(hn:es.size=n)(hh:A.handled=gV)
  (ht:s.heap.get? tp=ba { cls:=.type "tuple",data:=.seq (ps.map λk=>rawInt (k:Jx)).toArray 0 })
  (h1:∀p e,ps[i]?=ba p->es[p]?=ba e->∀h',SIt I (.ref tp) (.ref a) (i+1) n ep h'->(∀b o,b≠I->s.heap.get? b=ba o->h'.get? b=ba o)->Q (ba e.2) { s with heap:=h' })
  (hp:∀p,ps[i]?=ba p->∃e,es[p]?=ba e)
  (h2:ps[i]?=gV->∀h',(∀b o,b≠I->s.heap.get? b=ba o->h'.get? b=ba o)->Q gV { s with heap:=h' }):wpAny (model prog w) A (pyNext (.ref I)) Q E s:=by
 refine pA x ?_;refine Jo (Ju ?_);show wpAny _ _ (fieldsOf (.ref I) >>= _) _ _ s;refine Jo (OA x rfl ?_);refine Jo (Oh ho hd hf ?_);rw[Kb (by simp[hn])]
 refine Jo (Lh ht rfl ?_);dsimp only;have hg:(ps.map λk=>rawInt (k:Jx)).toArray[(i:JI).toNat]?=(ps[i]?).map λk=>rawInt (k:Jx):=by simp
 rw[hg];cases q:ps[i]? with
 | some p=>
  obtain⟨e,he⟩:=hp p q;show wpAny _ _ (setNextDrawn a (p:JI).toNat (ep:JI).toNat >>= _) _ _ s;unfold setNextDrawn;refine Jo (Jo (K6 ho hd hf ?_));dsimp only;rw[Kb (by simp)]
  simp only[JO,he];refine Ju ?_;refine Jo (gy x (by simp) λh' x' sb'=>?_)
  refine Ju #[e.2,rfl,h1 p e q he h' ?_ λb o hb z=>?_]
  ·simpa [SIt,rawInt]using x'
  ·rw[sb'.2 b hb]; exact z
 | none=>
  dsimp only[Option.map_none];refine Jo (gy x (by simp) λh' x' sb'=>?_)
  refine Jo (gy x' (by simp) λh3 x3 sb3=>?_)
  refine pB hh λh'' k=>h2 q h'' λb o hb e=>k b o (by rw[sb3.2 b hb,sb'.2 b hb]; exact e)
def my {E:Jr->Jt->Prop}{Q:Jw (Jr×Jx)->Jt->Prop}(ho:s.heap.get? a=ba o)(hd:o.data=.set es ep t)(hf:t.fits es.size=true)(hb:eW w=true)(h:Q ((((pickOrder (w.params.setOrder a ep) es).toList.map (·.2))[i]?).map λv=>(v,sl)) s):wpAny (model prog w) A (setNext a sl i ep) Q E s:=by
 unfold setNext;refine Jo (K6 ho hd hf ?_);dsimp only;have ask1:∀ {Q:J6->Jt->Prop},Q true s->wpAny (model prog w) A setsByText Q E s:=λ{Q} hq=>by
  unfold setsByText;refine Jo (MQ (Ju ?_));show Q (eW w) s;rw[hb]; exact hq
 refine Jo (ask1 ?_);rw[JZ rfl,Kb (by simp)]
 refine Jo ?_;unfold setWalk;refine Jo (K6 ho hd hf ?_);dsimp only;refine Jo (ask1 ?_);rw[JZ rfl];refine Jo (MQ (Ju (Ju ?_)));have e:(((pickOrder (w.params.setOrder a ep) es)[i]?).map λe=>(e.2,sl))=((((pickOrder (w.params.setOrder a ep) es).toList.map (·.2))[i]?).map λv=>(v,sl)):=by
  rw[Jy,K2,RZ]; rfl
 show Q (((pickOrder (w.params.setOrder a ep) es)[i]?).map λe=>(e.2,sl)) s
 rw[e]; exact h
def pE {E:Jr->Jt->Prop}{Q:Jw (Jr×Jx)->Jt->Prop}(ho:s.heap.get? a=ba o)(hd:o.data=.set es ep t)(hf:t.fits es.size=true)(hb:eW w=false)(hl:t.led=true)(h1:es.size<=1)(hi:i=0/\sl=0\/i=es.size/\sl=(t.place.getD 0 0)+1)
  (h:Q (((es.toList.map (·.2))[i]?).map λv=>(v,t.place.getD 0 0+1)) s):wpAny (model prog w) A (setNext a sl i ep) Q E s:=by
 unfold setNext;refine Jo (K6 ho hd hf ?_);dsimp only;have ask1:∀ {Q:J6->Jt->Prop},Q false s->wpAny (model prog w) A setsByText Q E s:=λ{Q} hq=>by
  unfold setsByText;refine Jo (MQ (Ju ?_));show Q (eW w) s;rw[hb]; exact hq
 refine Jo (ask1 ?_);rw[Kb J1];refine M3 (λhc=>absurd hc (by show ¬ ((!t.plain&&decide (es.size > 1))=true); simp; omega)) (λ_=>?_)
 refine Jo ?_;show wpAny _ _ (if (!t.led && !es.isEmpty)=true then unsupported "set:maker-not-led" else pure ()) _ _ s
 rw[Kb (by simp[hl])]
 refine Ju (Ju ?_);obtain⟨es⟩:=es;obtain⟨mk,pl,dm,fg,ld,mv,pn⟩:=t;obtain⟨pl⟩:=pl;simp only[Sh,Jv,beq_iff_eq]at hf
 match es,pl,hf.1,h1 with
 | [],[],_,_=>
  have:i=0:=by rcases hi with z|z <;> simpa using z.1
  subst this;exact h
 | [e],[j],_,_=>
  rcases hi with⟨rfl,rfl⟩|⟨rfl,rfl⟩
  ·exact h
  ·have e1:MP [j].toArray (j+1)=1:=by
    show QT [j].toArray (j+1) 1 0 1=1;simp[QT]
   have e2:(({ mask:=mk,place:=[j].toArray,dummies:=dm,finger:=fg,led:=ld,moves:=mv,plain:=pn }:KY).place.getD 0 0)=j:=rfl;show Q (match ([e].toArray:J8 (JI×Jr))[MP [j].toArray (j+1)]?,([j].toArray:J8 Jx)[MP [j].toArray (j+1)]? with|some (_,x),ba j=>ba (x,j+1)|_,_=>gV) s
   rw[e1];exact h
 | e::e'::es,_,_,z=>simp at z
 | [],_::_,z,_=>simp at z
 | [_],[],z,_=>simp at z
 | [_],_::_::_,z,_=>simp at z
def kK {E:Jr->Jt->Prop}{Q:Jw (Jr×Jx)->Jt->Prop}(ho:s.heap.get? a=ba o)(hd:o.data=.set es ep t)(hf:t.fits es.size=true)(hb:eW w=false)(hl:t.led=true)(hp:t.plain=true)(hw:MP t.place sl=i)
  (h:Q (((es.toList.map (·.2))[i]?).map λv=>(v,t.place.getD i 0+1)) s):wpAny (model prog w) A (setNext a sl i ep) Q E s:=by
 unfold setNext;refine Jo (K6 ho hd hf ?_);dsimp only;have ask1:∀ {Q:J6->Jt->Prop},Q false s->wpAny (model prog w) A setsByText Q E s:=λ{Q} hq=>by
  unfold setsByText;refine Jo (MQ (Ju ?_));show Q (eW w) s;rw[hb]; exact hq
 refine Jo (ask1 ?_);rw[Kb J1];refine M3 (λhc=>absurd hc (by show ¬ ((!t.plain&&decide (es.size > 1))=true); simp[hp])) (λ_=>?_)
 refine Jo ?_;show wpAny _ _ (if (!t.led && !es.isEmpty)=true then unsupported "set:maker-not-led" else pure ()) _ _ s
 rw[Kb (by simp[hl])]
 refine Ju (Ju ?_);rw[hw];have hz:t.place.size=es.size:=by
  simp only[Sh,Jv,beq_iff_eq]at hf;exact hf.1
 rw[Jy,K2]at h
 by_cases hi:i < es.size
 ·have e1:es[i]?=ba es[i]:=by simp[hi]
  have e2:t.place[i]?=ba (t.place.getD i 0):=by simp[NF,hz,hi]
  rw[e1]at h ⊢;rw[e2];exact h
 ·have e1:es[i]?=gV:=by simp; omega
  rw[e1]at h ⊢;exact h
end
end
def vz:entryFor table "set_iterator.__iter__" = ba MM.«dict_keyiterator.__iter__»:=RY (id':="dict_keyiterator.__iter__") (by kernel_rfl) rfl (by decide +kernel) (by kernel_rfl)
def xD (a:Jr):argsOk "set_iterator.__iter__" #[[a],[]]:=by unfold argsOk; kernel_rfl
section
variable{prog:Kh}{w:Km}{A:Kk}{E:Jr->Jt->Prop}{s:Jt}{I a tp:JA}{f r:Jr}{i n ep sl:Jx}{o:Lo}{es:J8 (JI×Jr)}{t:KY}
def iM {Q:Jr->Jt->Prop}(x:SIt I f r i n ep s.heap)(h:Q (.ref I) s):wpAny (model prog w) A (pyIter (.ref I)) Q E s:=by
 refine OU x.type pr (KL pr x.type vz ?_ (xD _));show wpAny _ _ (ret (.ref I)) _ _ s;exact Ju #[_,rfl,"set_iterator",_,x.type,fX.lookup,h]
def pG {b x y:JA}(h:b∉[x]):b≠x:=λz=>h (by simp[z])
def rV (hh:A.handled=gV)(hne:a≠I)(hd:o.data=.set es ep t)(hf:t.fits es.size=true)(hb:eW w=true) :
  Rx prog w A I [I,a] [I] es.size (λi v=>((pickOrder (w.params.setOrder a ep) es).toList.map (·.2))[i]?=ba v) (λi h=>SIt I (.int 0 0) (.ref a) i es.size ep h/\h.get? a=ba o) where
 sub:=λb hb=>by simp at hb; simp[hb]
 frame:=λ_ _ _ st hk=>#[hk I (by simp) _ st.1,hk a (by simp) _ st.2]
 item:=λi s Q E hi st hQ=>by
  have hl:((pickOrder (w.params.setOrder a ep) es).toList.map (·.2)).length=es.size:=by rw[Jp,gx.length_eq,JS]
  refine gA (sl:=0) st.1 st.2 hd hf rfl hh (λQ' hq=>my st.2 hd hf hb hq) (λv sl' e h' x' k=>?_) λe h' k=>?_
  ·obtain⟨v',q,e⟩:=Js.mp e;cases e;exact hQ v h' s.toks q #[x',k a _ hne st.2] λb o hb e=>k b o (pG (y:=b) hb) e
  ·rw[NO,KH]at e;omega
 done:=λs Q E st hQ=>by
  have hl:((pickOrder (w.params.setOrder a ep) es).toList.map (·.2)).length=es.size:=by rw[Jp,gx.length_eq,JS]
  refine gA (sl:=0) st.1 st.2 hd hf rfl hh (λQ' hq=>my st.2 hd hf hb hq) (λv sl' e h' x' k=>?_) λe h' k=>hQ h' s.toks λb o hb e=>k b o (pG (y:=b) hb) e
  obtain⟨v',q,e⟩:=Js.mp e;have:=(JF.mp q).1;omega
 self:=λ_ _ _ _ st hQ=>iM st.1 hQ
def vA (hh:A.handled=gV)(hne:a≠I)(hd:o.data=.set es ep t)(hf:t.fits es.size=true)(hb:eW w=false)(hl:t.led=true)(h1:es.size<=1) :
  Rx prog w A I [I,a] [I] es.size (λi v=>(es.toList.map (·.2))[i]?=ba v) (λi h=>SIt I (.int ((if i=0 then 0 else t.place.getD 0 0+1:Jx):JI) 0) (.ref a) i es.size ep h/\h.get? a=ba o) where
 sub:=λb hb=>by simp at hb; simp[hb]
 frame:=λ_ _ _ st hk=>#[hk I (by simp) _ st.1,hk a (by simp) _ st.2]
 item:=λi s Q E hi st hQ=>by
  have i0:i=0:=∅
  subst i0;refine gA st.1 st.2 hd hf rfl hh (λQ' hq=>pE st.2 hd hf hb hl h1 (.inl #[rfl,rfl]) hq) (λv sl' e h' x' k=>?_) λe h' k=>?_
  ·obtain⟨v',q,e⟩:=Js.mp e;cases e;exact hQ v h' s.toks q #[x',k a _ hne st.2] λb o hb e=>k b o (pG (y:=b) hb) e
  ·rw[NO,KH,Jp,JS]at e;omega
 done:=λs Q E st hQ=>by
  refine gA st.1 st.2 hd hf rfl hh (λQ' hq=>pE st.2 hd hf hb hl h1 ?_ hq) (λv sl' e h' x' k=>?_) λe h' k=>hQ h' s.toks λb o hb e=>k b o (pG (y:=b) hb) e
  ·by_cases h0:es.size=0
   ·exact .inl #[h0,by rw[JZ h0]]
   ·exact .inr #[rfl,by rw[Kb h0]]
  ·obtain⟨v',q,e⟩:=Js.mp e;have:=(JF.mp q).1;rw[Jp,JS]at this;omega
 self:=λ_ _ _ _ st hQ=>iM st.1 hQ
def pH (hh:A.handled=gV)(hne:a≠I)(hd:o.data=.set es ep t)(hf:t.fits es.size=true)(hb:eW w=false)(hl:t.led=true)(hp:t.plain=true)(hw:fH t es.size=true) :
  Rx prog w A I [I,a] [I] es.size (λi v=>(es.toList.map (·.2))[i]?=ba v) (λi h=>SIt I (.int ((if i=0 then 0 else t.place.getD (i - 1) 0+1:Jx):JI) 0) (.ref a) i es.size ep h/\h.get? a=ba o):=by
 have go:∀i,i<=es.size->MP t.place (if i=0 then 0 else t.place.getD (i - 1) 0+1)=i:=λi hi=>by
  simp only[fH,Jv,JL,JP,JQ]at hw
  by_cases h0:i=0
  ·rw[JZ h0,h0]; exact hw.1
  ·rw[Kb h0,hw.2 (i - 1) ∅]; omega
 exact {
  sub:=λb hb=>by simp at hb; simp[hb]
  frame:=λ_ _ _ st hk=>#[hk I (by simp) _ st.1,hk a (by simp) _ st.2]
  item:=λi s Q E hi st hQ=>by
   refine gA st.1 st.2 hd hf rfl hh (λQ' hq=>kK st.2 hd hf hb hl hp (go i ∅) hq) (λv sl' e h' x' k=>?_) λe h' k=>?_
   ·obtain⟨v',q,e⟩:=Js.mp e;cases e;exact hQ v h' s.toks q #[by rw[Kb (Rj i)]; exact x',k a _ hne st.2] λb o hb e=>k b o (pG (y:=b) hb) e
   ·rw[NO,KH,Jp,JS]at e;omega
  done:=λs Q E st hQ=>by
   refine gA st.1 st.2 hd hf rfl hh (λQ' hq=>kK st.2 hd hf hb hl hp (go _ (JB _)) hq) (λv sl' e h' x' k=>?_) λe h' k=>hQ h' s.toks λb o hb e=>k b o (pG (y:=b) hb) e
   obtain⟨v',q,e⟩:=Js.mp e;have:=(JF.mp q).1;rw[Jp,JS]at this;omega
  self:=λ_ _ _ _ st hQ=>iM st.1 hQ }
def pI {ps:Jn Jx}(hh:A.handled=gV)(hne:a≠I)(hnt:tp≠I)(hd:o.data=.set es ep t)(hf:t.fits es.size=true)(hp:ps.Perm (JW es.size)) :
  Rx prog w A I [I,a,tp] [I] es.size (λi v=>(ps.map λp=>(es.getD p (0,.none)).2)[i]?=ba v) (λi h=>SIt I (.ref tp) (.ref a) i es.size ep h/\h.get? a=ba o/\h.get? tp=ba { cls:=.type "tuple",data:=.seq (ps.map λk=>rawInt (k:Jx)).toArray 0 }) where
 sub:=λb hb=>by simp at hb; simp[hb]
 frame:=λ_ _ _ st hk=>#[hk I (by simp) _ st.1,hk a (by simp) _ st.2.1,hk tp (by simp) _ st.2.2]
 item:=λi s Q E hi st hQ=>by
  have lt:∀ {p},ps[i]?=ba p->p < es.size:=λq=>JQ.mp (hp.mem_iff.mp (JG q))
  refine mx st.1 st.2.1 hd hf rfl hh st.2.2 (λp e q qe h' x' k=>?_) (λp q=>#[es[p]'(lt q),by simp[lt q]]) λe h' k=>?_
  ·refine hQ e.2 h' s.toks ?_ #[x',k a _ hne st.2.1,k tp _ hnt st.2.2] λb o hb e=>k b o (pG (y:=b) hb) e
   rw[Jy,q];simp[NF,lt q];rw[LX (lt q)]at qe;cases qe; rfl
  ·rw[KH,hp.length_eq,J7]at e;omega
 done:=λs Q E st hQ=>by
  refine mx st.1 st.2.1 hd hf rfl hh st.2.2 (λp e q qe h' x' k=>?_) (λp q=>?_) λe h' k=>hQ h' s.toks λb o hb e=>k b o (pG (y:=b) hb) e
  ·have:=(JF.mp q).1;rw[hp.length_eq,J7]at this;omega
  ·have:=(JF.mp q).1;rw[hp.length_eq,J7]at this;omega
 self:=λ_ _ _ _ st hQ=>iM st.1 hQ
end
section
variable{prog:Kh}{w:Km}{A:Kk}{E:Jr->Jt->Prop}{s:Jt}{a:JA}{o:Lo}{xs:Jn JV}{es:J8 (JI×Jr)}{ep:Jx}{t:KY}
structure SetWalk (prog:Kh)(w:Km)(A:Kk)(s:Jt)(a:JA)(es:J8 (JI×Jr))(I:JA)(h':Kw):Prop where
 ex:∃(fp:Jn JA) (St:Jx->Kw->Prop) (us:Jn Jr) (n:Jx),us.Perm (es.toList.map (·.2))/\us.length=n/\Rx prog w A I fp [I] n (λi v=>us[i]?=ba v) St/\St 0 h'/\∀b∈fp,b=a\/s.heap.objs.size<=b/\b < h'.objs.size
 new:s.heap.objs.size<=I
 keep:∀b u,s.heap.get? b=ba u->h'.get? b=ba u
def xE {Q:Jr->Jt->Prop}(hh:A.handled=gV)(ho:s.heap.get? a=ba o)(hex:o.ExactSet)(hd:o.data=.set es ep t)(hz:es.size<=sizeLine)(fit:t.fits es.size=true)(led:t.led = !eW w)(pl:t.plain=true->es.size=0\/fH t es.size=true)(h:∀I h' dr,SetWalk prog w A s a es I h'->Q (.ref I) { s with heap:=h',drawn:=dr }):wpAny (model prog w) A (pyIter (.ref a)) Q E s:=by
 have hT:s.TypeIs (.ref a) "set":=#[o,ho,hex.1];have ha:a < s.heap.objs.size:=JN ho;refine OU hT F.slot_set_iter (KL F.slot_set_iter hT rT ?_ (F.args_set_iter_1 _));unfold MM.«frozenset.__iter__»;refine Jo (Jo (Ju ?_));show wpAny _ _ (pure a) _ _ s;refine Ju ?_;unfold Si setDrawn;refine Jo (Jo (Oh ho hd fit (Ju ?_)));refine Jo (Jo (K6 ho hd fit ?_));dsimp only;unfold setsByText;refine Jo (Jo (MQ (Ju (Ju ?_))));have oI:∀(f:Jr) (h0:Kw),(h0.push { cls:=.type "set_iterator",data:=.fields [f,rawInt 0,.ref a,rawInt es.size,rawInt ep].toArray }).get? h0.objs.size=ba { cls:=.type "set_iterator",data:=.fields [f,rawInt 0,.ref a,rawInt es.size,rawInt ep].toArray }:=λf h0=>JJ _ rfl
 refine M3 (λhc=>?_) (λhc=>?_)
 ·refine Jo (kJ es.size _ J7 λps dr hp=>?_)
  refine Jo (OB ?_ (by rw[Jp,hp.length_eq,J7]; exact hz))
  have o1:=Jq (seqObj "tuple" (ps.map λk=>rawInt (k:Jx)).toArray 0) ho
  refine Jo (QU o1 hd fit ?_);refine Jo (Kr (Ju #[_,rfl,"set_iterator",_,#[_,oI _ _,rfl],fX.lookup,?_]));have z1:(s.heap.push (seqObj "tuple" (ps.map λk=>rawInt (k:Jx)).toArray 0)).objs.size=s.heap.objs.size+1:=Lq ..
  have W:=pI (prog:=prog) (w:=w) (A:=A) (a:=a) (I:=(s.heap.push (seqObj "tuple" (ps.map λk=>rawInt (k:Jx)).toArray 0)).objs.size) (tp:=s.heap.objs.size) (ps:=ps) hh (by rw[z1]; exact J0 (L9 ha)) (by rw[z1]; exact J0 (K9 _)) hd fit hp
  have eL:(ps.map λp=>(es.getD p (0,KA)).2).length=es.size:=by rw[Jp,hp.length_eq,J7]
  refine h _ _ dr #[#[_,_,ps.map λp=>(es.getD p (0,KA)).2,_,?_,eL,W,#[oI _ _,Jq _ o1,Jq _ (JJ _ rfl)],λb hb=>?_],by rw[z1]; exact MB _,λb u e=>Jq _ (Jq _ e)]
  ·refine(hp.map _).trans ?_;have e:((JW es.size).map λp=>(es.getD p (0,KA)).2)=es.toList.map λe=>e.2:=by
    apply LY
    ·simp
    ·intro k h1 h2;simp only[Jp,J7]at h1;simp[NF,h1]
   rw[e]
  ·rw[Lq,z1];simp only[JX,Ko,LA]at hb;rcases hb with rfl|rfl|rfl
   ·exact .inr #[by rw[z1]; exact MB _,by rw[z1]; exact K9 _]
   ·exact .inl rfl
   ·exact .inr #[JB _,L9 (K9 _)]
 ·refine Jo (Ju (Jo (QU ho hd fit ?_)));refine Jo (Kr (Ju #[_,rfl,"set_iterator",_,#[_,oI _ _,rfl],fX.lookup,?_]));have near:∀b∈[s.heap.objs.size,a],b=a\/s.heap.objs.size<=b/\b < (s.heap.push { cls:=.type "set_iterator",data:=.fields [rawInt 0,rawInt 0,.ref a,rawInt es.size,rawInt ep].toArray }).objs.size:=λb hb=>by
   rw[Lq];simp only[JX,Ko,LA]at hb;rcases hb with rfl|rfl
   ·exact .inr #[JB _,K9 _]
   ·exact .inl rfl
  cases hb:eW w with
  | true=>
   have W:=rV (prog:=prog) (A:=A) (I:=s.heap.objs.size) hh (J0 ha) hd fit hb;have eL:((pickOrder (w.params.setOrder a ep) es).toList.map (·.2)).length=es.size:=by rw[Jp,gx.length_eq,JS]
   refine h _ _ s.drawn #[#[[s.heap.objs.size,a],_,(pickOrder (w.params.setOrder a ep) es).toList.map (·.2),_,gx.map _,eL,W,#[oI _ _,Jq _ ho],near],JB _,λb u e=>Jq _ e]
  | false=>
   have hl:t.led=true:=by rw[led,hb]; rfl
   have eL:(es.toList.map (·.2)).length=es.size:=by rw[Jp,JS]
   by_cases hpw:t.plain=true/\fH t es.size=true
   ·have W:=pH (prog:=prog) (A:=A) (I:=s.heap.objs.size) hh (J0 ha) hd fit hb hl hpw.1 hpw.2;refine h _ _ s.drawn #[#[[s.heap.objs.size,a],_,es.toList.map (·.2),_,.refl _,eL,W,#[oI _ _,Jq _ ho],near],JB _,λb u e=>Jq _ e]
   have h1:es.size<=1:=by
    cases hp:t.plain with
    | true=>
     rcases pl hp with z|z
     ·rw[z]; exact Lj _
     ·exact absurd #[hp,z] hpw
    | false=>
     refine Ri λz=>hc ?_
     show((!eW w)&&((!t.plain)&&decide (es.size > 1)))=true;rw[hb,hp]
     simpa using z
   have W:=vA (prog:=prog) (A:=A) (I:=s.heap.objs.size) hh (J0 ha) hd fit hb hl h1;refine h _ _ s.drawn #[#[[s.heap.objs.size,a],_,es.toList.map (·.2),_,.refl _,eL,W,#[oI _ _,Jq _ ho],near],JB _,λb u e=>Jq _ e]
def xF {Q:J6->Jt->Prop}(hT:s.TypeIs (.ref a) "set")(h:Q false s):wpAny (model prog w) A (Ol (.ref a)) Q E s:=by
 unfold Ol;refine Jo (Ps hT F.slot_set_len.lookup ?_);generalize hid:("set.__len__" : Lc)=k0
 wp_delta
 rw[show splitId k0=ba ("set","__len__")from by subst hid; decide +kernel]
 subst hid;refine Jo (MR (T:="set") (b:=true) hT Qu ?_);refine M3 (λz=>absurd z #v[]) (λ_=>M3 (λ_=>?_) (λz=>absurd (by decide +kernel) z))
 exact Jo (MZ hT (Ju h))
def pJ {Q:Jn Jr->Jt->Prop}(hh:A.handled=gV)(ho:s.heap.get? a=ba o)(hex:o.ExactSet)(hd:o.data=.set es ep t)(hz:es.size<=sizeLine)(fit:t.fits es.size=true)(led:t.led = !eW w)(pl:t.plain=true->es.size=0\/fH t es.size=true)
  (hQ:∀h' tk dr us,(∀b u,s.heap.get? b=ba u->h'.get? b=ba u)->s.heap.objs.size<=h'.objs.size->us.Perm (es.toList.map (·.2))->Q us { s with heap:=h',toks:=tk,drawn:=dr }):wpAny (model prog w) A (collect (.ref a)) Q E s:=by
 have ha:a < s.heap.objs.size:=JN ho;unfold collect;refine Jo (NP (KU F.entry_proto_collect ?_));rw[KP F.plain_proto_collect _];show wpAny _ A.in1 (newList [] >>= λl=>again (.builtin "list.__iadd__" #[[l,.ref a],[]])) _ _ s
 refine Jo (Kr ?_);have oL:(s.heap.push { cls:=.type "list",data:=.seq ([]:Jn Jr).toArray }).get? s.heap.objs.size=ba { cls:=.type "list",data:=.seq #[] 0 }:=JJ _ rfl;have o1:=Jq { cls:=.type "list",data:=.seq ([]:Jn Jr).toArray } ho;have z1:(s.heap.push { cls:=.type "list",data:=.seq ([]:Jn Jr).toArray }).objs.size=s.heap.objs.size+1:=Lq ..;refine Ju #[LO F.plain_list_iadd _,KU F.entry_list_iadd ?_];rw[KP F.plain_list_iadd _];show wpAny _ A.in1 (Ln (.ref s.heap.objs.size) (.ref a) (.ref s.heap.objs.size)) _ _ _;unfold Ln;refine Jo (MZ (T:="set") #[o,o1,hex.1] ?_);have n1:O0 (.ref s.heap.objs.size) (.ref a)=false:=by
  have:s.heap.objs.size≠a:=Lm ha;simp[O0,this]
 have n2:(Lw "set" == Lw "list")=false:=by decide
 have n3:(Lw "set" == Lw "tuple")=false:=by decide
 simp only[n1,n2,n3,Qi,J5,KZ];refine Jo (xE (A:=A.in1) (by simp[hh]) o1 hex hd hz fit led pl λI h' dr W=>?_)
 obtain⟨⟨fp,St,us,n,hP,hn,W,st,hfp⟩,hI,kp⟩:=W;rw[z1]at hI;have oa:=kp a o o1;refine Jo (KR (xF #[o,oa,hex.1] ?_));have oL1:=kp _ _ oL;have hD:s.heap.objs.size∉fp:=λz=>by
  rcases hfp _ z with e|⟨e,_⟩
  ·exact Lm ha e
  ·rw[z1]at e; exact Nat.not_succ_le_self _ e
 refine M3 (λ_=>?_) (λz=>absurd (by decide +kernel) z)
 refine Jo (Os (Jo ?_));show wpAny _ _ (updateSeq s.heap.objs.size (·.push .none) >>= λ_=>updateSeq s.heap.objs.size (·.pop)) _ _ _
 refine Jo (ND oL1 rfl ?_);have oL2:=Lk (Ld (·.push KA)) oL1 rfl
 refine ND (hz:=by seq_fits) oL2 rfl ?_
 have oL3:=Lk (Ld (·.pop)) oL2 rfl
 have hnl:n<=sizeLine:=by rw[<- hn,hP.length_eq,Jp,JS]; exact hz
 refine Ju #[LO PySem.F.plain_extend_loop _,codeAny_extend_loopS W.toS hnl s.heap.objs.size hD (.ref s.heap.objs.size) n 0 _ #[] _ rfl (Lj _) (W.frame 0 _ _ st λb hb u e=>?_) oL3 (ItemsOf.nil _) λs' acc c' mv oS hacc=>?_]
 ·have hb':b≠s.heap.objs.size:=λz=>hD (z ▸ hb)
  exact(Kx _ _ (Ne.symm hb')).trans ((Kx _ _ (Ne.symm hb')).trans e)
 ·rw[Sj mv];show wpAny (model prog w) A (do
    let o <- load s.heap.objs.size
    match o.data with
    | .seq xs _=>pure xs.toList
    | _=>unsupported "internal:collect") Q E _
  refine Jo (Pc oS (Ju ?_));have eU:acc.toList=us:=by
   apply OV;intro i
   by_cases hi:i < n
   ·have h1:i < acc.size:=by rw[hacc.1]; exact hi
    have:=hacc.2 i acc[i] (by simp[h1])
    rw[this,K2]; simp[h1]
   ·rw[M6 (by rw[JS,hacc.1]; omega),M6 ∅]
  rw[eU];refine hQ _ _ dr us (λb u e=>?_) (Nh (JN oS)) hP
  have hb:=JN e;have hb':b≠s.heap.objs.size:=J0 hb;refine mv.heap b u (λz=>?_) ((Kx _ _ (Ne.symm hb')).trans ((Kx _ _ (Ne.symm hb')).trans (kp b u (Jq _ e))))
  simp only[JX,Ko,LA]at z;rcases z with z|z
  ·exact hb' z
  ·rw[z]at hb; exact K8 _ (J4 (L9 hb) hI)
end
abbrev AW (S:aa)(i:Jx):Jw (JI×JI):=match S[i]? with
 | some (.rng lo hi)=>ba (lo,hi)
 | _=>gV
abbrev rW (xs:Jn W)(S:aa):Jw (W×aa):=match xs with
 | [.int j]=>if -(2 ^ 62)<=j/\j < 2 ^ 62 then ba (.ref S.length,S++[.rng 0 j])else gV
 | _=>gV
abbrev FC (lo:JI)(n:Jx):Jn W:=(JW n).map λ(k:Jx)=>.int (lo+(k:JI))
abbrev mz (xs:Jn W)(S:aa):Jw (W×aa):=match xs with
 | [.ref i]=>match AW S i with
  | some (lo,hi)=>if -(2 ^ 62)<=lo/\lo < 2 ^ 62/\-(2 ^ 62)<=hi/\hi < 2 ^ 62/\(hi - lo).toNat<=sizeLine then ba (.ref S.length,S++[.lst (FC lo (hi - lo).toNat)])else gV
  | none=>iJ [.ref i] S
 | xs=>iJ xs S
section
variable{X:Cx}{J:Jn (JA×Lo)}{Y:L2.St}{H:Hp}{s:Jt}{A:Jn JA}{S:aa}
def Inv.drawn (I:Inv X J Y H s)(d:TX):Inv X J Y H { s with drawn:=d }:=#[I.ok,I.os,I.bare,I.base,I.loc,I.cell,I.free,I.freeC,I.pin,I.hok,I.len]
def iN {h':Kw}{tk:Jx}{dr:TX}{D:JA}{n:O}{u:HO}(I:Inv X J Y H s)(so:StoreOk X.w X.K A H S)(hk:∀b o,s.heap.get? b=ba o->h'.get? b=ba o)(hD:s.heap.objs.size<=D)(new:ObjOk X.prog X.w (br H D u) h' D u)
  (r:H D=gV->ObjRel X.w X.K (A++[D]) (br H D u) D n):PostE X J Y A H (S++[n]) (.ref S.length) (.ref D) { s with heap:=h',toks:=tk,drawn:=dr }:=by
 have hn:H D=gV:=I.hok.fresh hD;refine#[.ref D,_,A++[D],Mi.Inv.drawn (I.laid (a:=D) (o:=u) (t':=tk) hk hD new) dr,rfl,cJ hn,so.pushO hn (r hn),.ref ?_];rw[<- so.len]; simp
def nU:∀ {vs:Jn V} {us:Jn Jr},vs.length=us.length->(∀(i:Jx) v u,vs[i]?=ba v->us[i]?=ba u->L2.RelV v u)->Vals vs us
 | [],[],_,_=>.nil
 | v::vs,u::us,hl,h=>.cons (h 0 v u rfl rfl) (nU (by simpa using hl) λi v u a b=>h (i+1) v u (by simpa using a) (by simpa using b))
 | [],_::_,hl,_=>by cases hl
 | _::_,[],hl,_=>by cases hl
def nV {K:JH}{lo:JI}:∀(l:Jn Jx),RelL K A H (l.map λ(k:Jx)=>W.int (lo+(k:JI))) (l.map λ(k:Jx)=>V.int (lo+(k:JI)))
 | []=>.nil
 | _::l=>.cons .int (nV l)
def iO {xs:Jn W}{vs:Jn V}{us:Jn Jr}{i:Jx}(rl:RelL X.K A H [.ref i] vs)(rv:Vals vs us):∃a,A[i]?=ba a/\us=[.ref a]:=by
 cases rl with
 | cons r t=>
  cases t;cases r with
  | @ref _ a ea=>
   cases rv with
   | cons ru rv=>
    cases rv;obtain rfl:_=Kj a:=ru;exact#[a,ea,rfl]
def pK:LCall X (.type "range") rW:=by
 intro J s Y H A S xs vs us w S' I so rl rv e;unfold rW at e;split at e
 ·rename_i j;split at e
  ·rename_i hb;cases e;cases rl with
   | cons r t=>
    cases t;cases r;cases rv with
    | cons ru rv=>
     cases rv;obtain⟨tk,rfl⟩:=ru;exact SD (iN (dr:=s.drawn) (u:=.rng 0 j) I so (λb o e=>Jq _ e) (JB _) #[_,_,_,JJ _ rfl] λ_=>aI)
  ·cases e
 ·cases e
def pL (hh:X.A.handled=gV):LCall X (.type "list") mz:=by
 intro J s Y H A S xs vs us w S' I so rl rv e;unfold mz at e;split at e
 ·rename_i i;split at e
  ·rename_i lo hi hr;split at e
   ·rename_i hb;cases e;obtain⟨a,ea,rfl⟩:=iO (xs:=[]) rl rv;obtain⟨b1,b2,b3,b4,b5⟩:=hb;have hH:H a=ba (.rng lo hi):=by
     unfold AW at hr;split at hr
     ·rename_i hx; cases hr; exact so.obj i _ a hx ea
     ·cases hr
    obtain⟨t,u,v,ho⟩:=I.hok a _ hH;have hn:LK lo hi 1=((hi - lo).toNat:Jx):=by rw[Qg]; split <;> omega
    refine call_list_range hh ho (Sy b1 b2 b3 b4) hn b5 λh' tk acc c hk hD hacc=>?_
    have hv:Vals ((JW (hi - lo).toNat).map λ(k:Jx)=>V.int (lo+(k:JI))) acc.toList:=by
     refine nU (by rw[Jp,J7,JS,hacc.1]) λi v u e1 e2=>?_
     rw[Jy,Js]at e1;obtain⟨k,e1,rfl⟩:=e1;obtain⟨hk,rfl⟩:=JF.mp e1;obtain⟨t,rfl⟩:=hacc.2 i u (by rw[<- K2]; exact e2)
     exact#[t,by simp]
    refine iN (dr:=s.drawn) (u:=.lst ((JW (hi - lo).toNat).map λ(k:Jx)=>V.int (lo+(k:JI)))) I so hk (JB _) #[by simpa using b5,acc.toList,c,hv,by simpa using hD] λhn=>#[_,aI,?_]
    exact nV _
   ·cases e
  ·exact ic J s Y H A S _ vs us w S' I so rl rv e
 ·exact ic J s Y H A S _ vs us w S' I so rl rv e
end
mutual
inductive IsT (h:Kw):T->Jr->Prop
 | int {i:JI} {t:Ua}:IsT h (.int i) (.int i t)
 | str {x:JV} {t:Ua}:IsT h (.str x) (.str x t)
 | tup {ks:Jn T} {a:JA} {o:Lo} {items:J8 Jr} {n:Jx}:h.get? a=ba o->o.cls=.type "tuple"->o.data=.seq items n->IsTs h ks items.toList->IsT h (.tup ks) (.ref a)
inductive IsTs (h:Kw):Jn T->Jn Jr->Prop
 | nil:IsTs h [] []
 | cons {k:T} {v:Jr} {ks:Jn T} {vs:Jn Jr}:IsT h k v->IsTs h ks vs->IsTs h (k::ks) (v::vs)
end
mutual
theorem IsT.inj {h:Kw}:∀ {x y:T} {v:Jr},IsT h x v->IsT h y v->x=y
 | _,_,_,.int,h2=>by cases h2; rfl
 | _,_,_,.str,h2=>by cases h2; rfl
 | _,_,_,.tup a1 _ d1 t1,h2=>by
  cases h2 with
  | tup a2 _ d2 t2=>
   rw[a1]at a2; cases a2
   rw[d1]at d2; cases d2
   rw[IsTs.inj t1 t2]
theorem IsTs.inj {h:Kw}:∀ {x y:Jn T} {v:Jn Jr},IsTs h x v->IsTs h y v->x=y
 | _,_,_,.nil,h2=>by cases h2; rfl
 | _,_,_,.cons a b,h2=>by
  cases h2 with
  | cons c d=>rw[IsT.inj a c,IsTs.inj b d]
end
mutual
theorem IsT.keeps {h h':Kw}{d:JA}{o:Lo}{es:J8 L8}{ep:Jx}(ho:h.get? d=ba o)(hd:o.data=.dict es ep)(hs:LC d h h'):∀ {x:T} {v:Jr},IsT h x v->IsT h' x v
 | _,_,.int=>.int
 | _,_,.str=>.str
 | _,_,.tup (a:=a) a1 c1 d1 t1=>by
  have hne:a≠d:=by
   rintro rfl;rw[a1]at ho; cases ho
   rw[d1]at hd; cases hd
  exact .tup ((hs.2 a hne).trans a1) c1 d1 (IsTs.keeps ho hd hs t1)
theorem IsTs.keeps {h h':Kw}{d:JA}{o:Lo}{es:J8 L8}{ep:Jx}(ho:h.get? d=ba o)(hd:o.data=.dict es ep)(hs:LC d h h'):∀ {x:Jn T} {v:Jn Jr},IsTs h x v->IsTs h' x v
 | _,_,.nil=>.nil
 | _,_,.cons a b=>.cons (IsT.keeps ho hd hs a) (IsTs.keeps ho hd hs b)
end
def IsTs.length {h:Kw}:∀ {x:Jn T} {v:Jn Jr},IsTs h x v->x.length=v.length
 | _,_,.nil=>rfl
 | _,_,.cons _ b=>by simp[IsTs.length b]
def IsTs.get {h:Kw}:∀ {x:Jn T} {v:Jn Jr},IsTs h x v->∀(j:Jx) (h1:j < x.length) (h2:j < v.length),IsT h x[j] v[j]
 | _,_,.cons a _,0,_,_=>a
 | _,_,.cons _ b,j+1,h1,h2=>IsTs.get b j (by simpa using h1) (by simpa using h2)
def b8:∀ {ks:Jn T} (j:Jx) (h:j < ks.length),(ks[j]).depth<=T.depths ks
 | k::ks,0,_=>by simp only[T.depths,List.getElem_cons_zero]; omega
 | k::ks,j+1,h=>by
  have:=b8 (ks:=ks) j (by simpa using h)
  simp only[T.depths,List.getElem_cons_succ]; omega
section
variable{prog:Kh}{w:Km}{E:Jr->Jt->Prop}
mutual
theorem pM:∀(k:T) (v:Jr) (A:Kk) (s:Jt) (Q:JI->Jt->Prop),IsT s.heap k v->A.units+k.depth < cLine->Q (eC w k) { s with toks:=s.toks+k.draws }->wpAny (model prog w) A (pyHash v) Q E s
 | .int i,_,A,s,Q,x,_,h=>by cases x; exact Q9 h
 | .str y,_,A,s,Q,x,_,h=>by cases x; exact Ra h
 | .tup ks,_,A,s,Q,x,hu,h=>by
  cases x with
  | @tup _ a o items n hg hc hd hw=>
   simp only[T.depth]at hu;refine PySem.W.pyHash_slot (T:="tuple") #[_,hg,hc] F.slot_tuple_hash F.entry_tuple_hash (F.args_tuple_hash_1 _) (beq_builtin_none _) (.inr ∅) ?_
   show wpAny _ _ (Nb (.ref a) >>= _) _ _ s;refine Jo (wpAny_tupleItemsOf hg hd ?_);refine Jo ?_;rw[<- NG];refine kL ks items.toList A.in1 s #[] _ hw (by rw[aD]; omega) λb hb=>?_
   show wpAny _ _ (retInt (Nn b.toList)) _ _ _;rw[hb];refine Jo (Ry (Ju #[_,_,rfl,?_]))
   simpa [T.draws,Sk,eC]using h
theorem kL:∀(ks:Jn T) (vs:Jn Jr) (A:Kk) (s:Jt) (b:J8 JI) (Q:J8 JI->Jt->Prop),IsTs s.heap ks vs->A.units+T.depths ks < cLine->
  (∀b',b'.toList=b.toList++hX w ks->Q b' { s with toks:=s.toks+T.drawss ks })->
  wpAny (model prog w) A (forIn vs b λx r=>do let h <- pyHash x; pure Qv; pure (LG (r.push h))) Q E s
 | [],_,A,s,b,Q,x,_,h=>by cases x; exact Ju (h b (by simp[hX]))
 | k::ks,_,A,s,b,Q,x,hu,h=>by
  cases x with
  | cons x1 x2=>
   simp only[T.depths]at hu;rw[Od];refine Jo (Jo (pM k _ A s _ x1 ∅ ?_))
   refine Jo (Ju (Ju ?_));refine kL ks _ A _ _ Q x2 ∅ λb' hb=>?_
   have:=h b' (by simp[hb,hX])
   simpa [T.drawss,Sk]using this
end
open SeqAt in
def vB:∀(d:Jx) (x y:T) (u v:Jr) (B:Kk) (s:Jt),x.depth<=d->IsT s.heap x u->IsT s.heap y v->B.units+d < cLine->B.units+y.depth < cLine->EqAt B s u v (decide (x=y))
 | d,.int i,y,_,_,B,s,_,h1,h2,hu,hv=>by
  cases h1;cases h2 with
  | int=>
   rename_i j t2;have:decide (T.int i=T.int j)=(i==j):=by by_cases e:i=j <;> simp[e]
   rw[this]; exact .int_int _ _ _ _
  | str=>rw[Ki (by simp)]; exact .int_str _ _ _ _
  | tup a c dd t=>rw[Ki (by simp)]; exact .int_tuple _ _ #[_,a,c,_,dd] (by simp only[T.depth]at hv; omega)
 | d,.str z,y,_,_,B,s,_,h1,h2,hu,hv=>by
  cases h1;cases h2 with
  | int=>rw[Ki (by simp)]; exact .str_int _ _ _ _
  | str=>
   rename_i z2 t2;have:decide (T.str z=T.str z2)=(z==z2):=by by_cases e:z=z2 <;> simp[e]
   rw[this]; exact .str_str _ _ _ _
  | tup a c dd t=>rw[Ki (by simp)]; exact .str_tuple _ _ #[_,a,c,_,dd] (by simp only[T.depth]at hv; omega)
 | 0,.tup ks,y,_,_,B,s,hd,h1,h2,hu,hv=>by simp[T.depth]at hd
 | d+1,.tup ks,y,_,_,B,s,hd,h1,h2,hu,hv=>by
  have h1':=h1;cases h1 with
  | @tup _ a o items n a1 c1 d1 t1=>
   have hT:s.heap.IsTuple a items:=#[_,a1,c1,_,d1];simp only[T.depth]at hd;cases h2 with
   | int=>rw[Ki (by simp)]; exact .tuple_int _ _ hT ∅
   | str=>rw[Ki (by simp)]; exact .tuple_str _ _ hT ∅
   | @tup ks2 b o2 items2 n2 a2 c2 d2 t2=>
    have hT2:s.heap.IsTuple b items2:=#[_,a2,c2,_,d2]
    by_cases hab:a=b
    ·subst hab;have:T.tup ks=T.tup ks2:=h1'.inj (.tup a2 c2 d2 t2);rw[Lg this];exact EqAt.same _
    ·refine EqAt.of_refs hab ?_;simp only[T.depth]at hv;have l1:items.size=ks.length:=by rw[<- JS,t1.length]
     have l2:items2.size=ks2.length:=by rw[<- JS,t2.length]
     let e:Jx->J6:=λj=>if h:j < ks.length/\j < ks2.length then decide (ks[j]'h.1=ks2[j]'h.2)else true
     have he:∀j (h1:j < items.size) (h2:j < items2.size),EqAt B.in1 s items[j] items2[j] (e j):=λj j1 j2=>by
      have g1:=t1.get j (l1 ▸ j1) (by simpa using j1)
      have g2:=t2.get j (l2 ▸ j2) (by simpa using j2)
      have q1:=b8 (ks:=ks) j (l1 ▸ j1);have q2:=b8 (ks:=ks2) j (l2 ▸ j2);have:=vB d _ _ _ _ B.in1 s ∅ g1 g2 (by rw[aD]; omega) (by rw[aD]; omega)
      show EqAt B.in1 s items[j] items2[j] (if h:j < ks.length/\j < ks2.length then decide (ks[j]'h.1=ks2[j]'h.2)else true)
      rw[TB #[l1 ▸ j1,l2 ▸ j2]]
      simpa using this
     have:=RcAt.tuples hT hT2 ∅ he
     have hk:((JW (min items.size items2.size)).all e&&items.size==items2.size)=decide (T.tup ks=T.tup ks2):=by
      rw[l1,l2]
      by_cases hl:ks.length=ks2.length
      ·by_cases hq:ks=ks2
       ·subst hq;simp only[SG,KM,Ny,Rz,JP,JQ];intro j hj;show(if h:j < ks.length/\j < ks.length then decide (ks[j]'h.1=ks[j]'h.2)else true)=true
        rw[TB #[hj,hj]]; simp
       ·rw[Ki (by simpa using hq)]
        have:∃j,∃h:j < ks.length,ks[j]≠ks2[j]'(hl ▸ h):=by
         apply ON;intro hn;exact hq (LY hl λj h1 h2=>ON λz=>hn #[j,h1,z])
        obtain⟨j,hj,hne⟩:=this;rw[PD];apply Or.inl;rw[List.all_eq_false];refine#[j,by rw[JQ,<- hl,SG]; exact hj,?_]
        show ¬ (if h:j < ks.length/\j < ks2.length then decide (ks[j]'h.1=ks2[j]'h.2)else true)=true
        rw[TB #[hj,hl ▸ hj]]
        simpa using hne
      ·rw[Ki (by simp; intro z; exact hl (by rw[z])),PD]
       right
       simpa using hl
     rw[hk]at this;exact this
def mB {n:Jx}{v:Jr}(h:∀a,v≠.ref a):eqIsQuiet n v=pure true:=by
 cases v with
 | ref a=>exact absurd rfl (h a)
 | _=>first|rfl|simp[eqIsQuiet]|(unfold eqIsQuiet; rfl)
def j9:∀(d:Jx) (k:T) (v:Jr) (A:Kk) (s:Jt) (Q:J6->Jt->Prop),k.depth<=d->IsT s.heap k v->Q true s->wpAny (model prog w) A (eqIsQuiet d v) Q E s
 | d,.int i,_,A,s,Q,_,x,h=>by cases x; rw[mB (λa=>by simp)]; exact Ju h
 | d,.str i,_,A,s,Q,_,x,h=>by cases x; rw[mB (λa=>by simp)]; exact Ju h
 | 0,.tup ks,_,A,s,Q,hd,x,h=>by simp[T.depth]at hd
 | d+1,.tup ks,_,A,s,Q,hd,x,h=>by
  cases x with
  | @tup _ a o items n ho hc hdt hi=>
   simp only[T.depth]at hd;have hT:s.TypeIs (.ref a) "tuple":=#[_,ho,hc];unfold eqIsQuiet;refine Jo (Ps hT F.slot_tuple_eq.lookup ?_);show wpAny _ _ (isInstance (.ref a) (.type "tuple") >>= _) _ _ s;refine Jo (MR hT isSubtype_tuple_tuple ?_);simp only[MG,J5,KZ];refine Jo (Lh ho hdt ?_);refine Jo ?_;show wpAny _ _ (forIn items _ _) _ _ s;rw[<- NG];refine Nk _ (λbu r s'=>r.1=gV/\s'=s/\∃kk,IsTs s.heap kk bu/\T.depths kk<=d) _ ?_ ?_ _ _ #[rfl,rfl,ks,hi,∅]
   ·rintro v bu r s' ⟨hr,rfl,kk,hall,hdk⟩;cases hall with
    | cons q1 q2=>
     simp only[T.depths]at hdk;refine Jo (j9 d _ v _ _ _ ∅ q1 ?_)
     simp only[MG,J5,KZ];exact Ju #[rfl,rfl,_,q2,∅]
   ·rintro⟨r1,r2⟩ s' ⟨hr,rfl,_⟩;simp only at hr;subst hr;exact Ju h
end
abbrev aV (prog:Kh)(w:Km):HeapKind prog w T where
 is:=λh k a=>IsT h k (.ref a)/\k.depth<=az
 hash:=eC w
 draws:=T.draws
 room:=λA=>A.units+az < cLine
 inj:=λhx hy=>hx.1.inj hy.1
 keeps:=λx ho hd hs=>#[x.1.keeps ho hd hs,x.2]
 pyHash:=λhu hk h=>pM _ _ _ _ _ hk.1 (by have:=hk.2; omega) h
 eqBool:=λhu hx hy h=>vB az _ _ _ _ _ _ hx.2 hx.1 hy.1 hu (by have:=hy.2; omega) _ _ _ _ h
 quiet:=λhk h=>j9 8 _ _ _ _ _ (by have:=hk.2; unfold az at this; omega) hk.1 h
section
variable{prog:Kh}{w:Km}{E:Jr->Jt->Prop}
def mC {n:Jx}{v:Jr}(h:∀a,v≠.ref a):ofAClassStatement n v=pure false:=by
 cases v with
 | ref a=>exact absurd rfl (h a)
 | _=>first|rfl|simp[ofAClassStatement]|(unfold ofAClassStatement; rfl)
def nW:∀(d:Jx) (k:T) (v:Jr) (A:Kk) (s:Jt) (Q:J6->Jt->Prop),k.depth<=d->IsT s.heap k v->Q false s->wpAny (model prog w) A (ofAClassStatement d v) Q E s
 | d,.int i,_,A,s,Q,_,x,h=>by cases x; rw[mC (λa=>by simp)]; exact Ju h
 | d,.str i,_,A,s,Q,_,x,h=>by cases x; rw[mC (λa=>by simp)]; exact Ju h
 | 0,.tup ks,_,A,s,Q,hd,x,h=>by simp[T.depth]at hd
 | d+1,.tup ks,_,A,s,Q,hd,x,h=>by
  cases x with
  | @tup _ a o items n ho hc hdt hi=>
   simp only[T.depth]at hd;have hT:s.TypeIs (.ref a) "tuple":=#[_,ho,hc];unfold ofAClassStatement;refine Jo (MZ hT ?_);dsimp only;rw[JZ (show("tuple" == "tuple")=true by decide)]
   refine Jo (Ju ?_);simp only[MG,J5,KZ];refine Jo (Lh ho hdt ?_);refine Jo ?_;show wpAny _ _ (forIn items _ _) _ _ s;rw[<- NG];refine Nk _ (λbu r s'=>r.1=gV/\s'=s/\∃kk,IsTs s.heap kk bu/\T.depths kk<=d) _ ?_ ?_ _ _ #[rfl,rfl,ks,hi,∅]
   ·rintro v bu r s' ⟨hr,rfl,kk,hall,hdk⟩;cases hall with
    | cons q1 q2=>
     simp only[T.depths]at hdk;refine Jo (nW d _ v _ _ _ ∅ q1 ?_)
     simp only[J5,KZ];exact Ju #[rfl,rfl,_,q2,∅]
   ·rintro⟨r1,r2⟩ s' ⟨hr,rfl,_⟩;simp only at hr;subst hr;exact Ju h
def xG {A:Kk}{s:Jt}{Q:J6->Jt->Prop}{x:T}{b:JA}{ys:Jn Jr}(hx:IsT s.heap x (.ref b))(hdx:x.depth<=az)(hy:∀v∈ys,∃y c,v=.ref c/\IsT s.heap y (.ref c)/\y.depth<=az)(h:Q false s):wpAny (model prog w) A (searchCouldBeSeen (.ref b) ys) Q E s:=by
 unfold searchCouldBeSeen;refine Jo ?_;refine Nk _ (λbu r s'=>r.1=gV/\s'=s/\∀v∈bu,∃y c,v=.ref c/\IsT s.heap y (.ref c)/\y.depth<=az) _ ?_ ?_ _ _ #[rfl,rfl,hy]
 ·rintro v bu r s' ⟨hr,rfl,hall⟩;obtain⟨y,c,rfl,q,hdy⟩:=hall v (.head _);have hrest:∀v∈bu,∃y c,v=.ref c/\IsT s'.heap y (.ref c)/\y.depth<=az:=λv hv=>hall v (.tail _ hv)
  have k6:az<=8:=by unfold az; decide
  dsimp only;split
  ·exact Ju #[rfl,rfl,hrest]
  ·refine Jo (j9 8 _ _ _ _ _ ∅ hx ?_)
   simp only[MG,J5,KZ];refine Jo (j9 8 _ _ _ _ _ ∅ q ?_)
   simp only[MG,J5,KZ];refine Jo (nW 8 _ _ _ _ _ ∅ hx ?_)
   simp only[J5,KZ];refine Jo (nW 8 _ _ _ _ _ ∅ q ?_)
   simp only[J5,KZ];exact Ju #[rfl,rfl,hrest]
 ·rintro⟨r1,r2⟩ s' ⟨hr,rfl,_⟩;simp only at hr;subst hr;exact Ju h
end
inductive Sf where|there|free (slot:Jx)
abbrev dJ (es:J8 (JI×T))(t:KY)(x:T)(h:JI):Jx->Jw OC->Jw Sf
 | 0,_=>gV
 | f+1,stand=>match t.probe (λi=>(es[i]?.map (·.1)).getD 0) h (stand.getD (t.probeStart h))with
  | none=>gV
  | some (.empty j gV)=>ba (.free j)
  | some (.empty _ (ba _))=>gV
  | some (.candidate j i next)=>match es[i]? with
   | none=>gV
   | some (_,y)=>if y=x then ba .there else if t.slot j=.live i then dJ es t x h f (ba next)else gV
structure SE (h:Kw)(es0:J8 (JI×T))(es:J8 (JI×Jr)):Prop where
 size:es0.size=es.size
 ent:∀(i:Jx) (hh:JI) (y:T),es0[i]?=ba (hh,y)->∃b:JA,es[i]?=ba (hh,Kj b)/\IsT h y (.ref b)/\y.depth<=az
def SE.hash {h:Kw}{es0:J8 (JI×T)}{es:J8 (JI×Jr)}(R:SE h es0 es):(λ(i:Jx)=>(es0[i]?.map (λp=>p.1)).getD 0)=λ(i:Jx)=>(es[i]?.map (λp=>p.1)).getD 0:=by
 funext i
 cases e:es0[i]? with
 | none=>
  have:es[i]?=gV:=by rw[Array.getElem?_eq_none_iff]at e ⊢; rw[<- R.size]; exact e
  rw[this]; rfl
 | some p=>
  obtain⟨b,e2,_⟩:=R.ent i p.1 p.2 e;rw[e2]; rfl
def SE.vals {h:Kw}{es0:J8 (JI×T)}{es:J8 (JI×Jr)}(R:SE h es0 es):∀e∈es.toList,∃y c,e.2=.ref c/\IsT h y (.ref c)/\y.depth<=az:=λe he=>by
 obtain⟨i,hi,rfl⟩:=LM.mp he;rw[JS]at hi;have hi0:i < es0.size:=by rw[R.size]; exact hi
 obtain⟨b,e2,q⟩:=R.ent i es0[i].1 es0[i].2 (LX hi0);rw[LX hi]at e2;refine#[_,b,?_,q];rw[N7,KQ e2]
section
variable{prog:Kh}{w:Km}{E:Jr->Jt->Prop}{A:Kk}{s:Jt}
def xH {a b:JA}{o:Lo}{es0:J8 (JI×T)}{es:J8 (JI×Jr)}{ep:Jx}{t:KY}{x:T}{h:JI}{Q:SetFound->Jt->Prop}(ho:s.heap.get? a=ba o)(hd:o.data=.set es ep t)(hf:t.fits es.size=true)(hg:t.gaveWay=false)(R:SE s.heap es0 es)
    (hx:IsT s.heap x (.ref b)) (hdx:x.depth<=az) (hu:(aV prog w).room A):∀(f F:Jx) (stand:Jw OC) (r:Sf),dJ es0 t x h f stand=ba r->f<=F->(r=.there->Q (.there gV) s)->(∀j,r=.free j->Q (.free j false) s)->
    wpAny (model prog w) A (setSearchFrom a (.ref b) h true F stand) Q E s:=by
  intro f
  induction f with
  | zero=>intro F stand r e; cases e
  | succ f ih=>
    intro F stand r e hF h1 h2;obtain⟨F,rfl⟩ : ∃F',F=F'+1:=#[F - 1,∅]
    unfold setSearchFrom;refine Jo (K6 ho hd hf ?_);dsimp only;rw[hg];simp only[J5,KZ];unfold dJ at e;rw[R.hash]at e;split
    · rename_i met hm
      have hm:t.probe (λi=>(es[i]?.map (·.1)).getD 0) h (stand.getD (t.probeStart h))=ba met:=hm
      rw[hm]at e;cases met with
      | empty j dm=>
        cases dm with
        | none=>cases e; exact Ju (h2 j rfl)
        | some d=>cases e
      | candidate j i next=>
        dsimp only at e ⊢;cases ei:es0[i]? with
        | none=>rw[ei]at e; cases e
        | some p=>
          obtain⟨hh,y⟩:=p;rw[ei]at e;dsimp only at e;obtain⟨c,ec,qy,hdy⟩:=R.ent i hh y ei;rw[ec];dsimp only;have sm:t.sameMemory t.moves t.mask=ba true:=by unfold To; rw[JZ (KM _)]
          have hv:∀v∈SY (λx=>x.snd) (Array.filter (λx=>x.fst==h) es).toList,∃y c,v=Kj c/\IsT s.heap y (.ref c)/\y.depth<=az:=λv hv=>by
            obtain⟨p,hp,rfl⟩:=JE.mp hv;rw[Array.toList_filter]at hp;exact R.vals p (Kz.mp hp).1
          cases hl:t.led
          · simp only[PU,Ls]
            refine Jo (xG hx hdx hv ?_);simp only[J5,KZ];refine Jo (KR ((aV prog w).eqBool hu #[qy,hdy] #[hx,hdx] ?_));refine Jo (K6 ho hd hf ?_)
            by_cases hyx:y=x
            · rw[JZ hyx]at e
              cases e;simp only[hyx,Rz,Ny,Ls];exact Ju (h1 rfl)
            · rw[Kb hyx]at e
              split at e
              · rename_i hsl
                simp only[hyx,SH,Ox,J5,KZ,sm,Ls,hsl,ec];refine Jo (PF ?_);refine Jo (Ju ?_);simp only[Ls];exact ih F (ba next) r e ∅ h1 h2
              · cases e
          · simp only[MG,J5,KZ]
            refine Jo (KR ((aV prog w).eqBool hu #[qy,hdy] #[hx,hdx] ?_));refine Jo (K6 ho hd hf ?_)
            by_cases hyx:y=x
            · rw[JZ hyx]at e
              cases e;simp only[hyx,Rz,Ny,Ls];exact Ju (h1 rfl)
            · rw[Kb hyx]at e
              split at e
              · rename_i hsl
                simp only[hyx,SH,Ox,J5,KZ,sm,Ls,hsl,ec];refine Jo (PF ?_);refine Jo (Ju ?_);simp only[Ls];exact ih F (ba next) r e ∅ h1 h2
              · cases e
    · rename_i hm
      have hm:t.probe (λi=>(es[i]?.map (·.1)).getD 0) h (stand.getD (t.probeStart h))=gV:=by
        first|exact hm|(cases hp:t.probe (λi=>(es[i]?.map (·.1)).getD 0) h (stand.getD (t.probeStart h))with
          | none=>rfl
          | some m=>exact absurd hp (hm m))
      rw[hm]at e;cases e
end
mutual
noncomputable def d6:T->J6
 | .int _=>true
 | .str _=>false
 | .tup xs=>cK xs
noncomputable def cK:Jn T->J6
 | []=>true
 | x::xs=>d6 x&&cK xs
end
section
variable{prog:Kh}{w:Km}{E:Jr->Jt->Prop}
def tK:∀(d:Jx) (k:T) (v:Jr) (A:Kk) (s:Jt) (Q:J6->Jt->Prop),d6 k=true->k.depth<=d->IsT s.heap k v->Q true s->wpAny (model prog w) A (hashByValue d v) Q E s
 | d,.int i,_,A,s,Q,_,_,x,h=>by
  cases x;have:∀t,hashByValue d (.int i t)=pure true:=λt=>by cases d <;> rfl
  rw[this]; exact Ju h
 | d,.str i,_,A,s,Q,hn,_,x,h=>by cases hn
 | 0,.tup ks,_,A,s,Q,_,hd,x,h=>by simp[T.depth]at hd
 | d+1,.tup ks,_,A,s,Q,hn,hd,x,h=>by
  cases x with
  | @tup _ a o items n ho hc hdt hi=>
   simp only[T.depth]at hd;have hn:cK ks=true:=hn;have hT:s.TypeIs (.ref a) "tuple":=#[_,ho,hc];unfold hashByValue;refine Jo (Ps hT F.slot_tuple_hash.lookup ?_);refine Jo (Lh ho hdt ?_);refine Jo ?_;show wpAny _ _ (forIn items _ _) _ _ s;rw[<- NG];refine Nk _ (λbu r s'=>r.1=gV/\s'=s/\∃kk,IsTs s.heap kk bu/\T.depths kk<=d/\cK kk=true) _ ?_ ?_ _ _ #[rfl,rfl,ks,hi,∅,hn]
   ·rintro v bu r s' ⟨hr,rfl,kk,hall,hdk,hnk⟩;cases hall with
    | cons q1 q2=>
     simp only[T.depths]at hdk;simp only[cK,Jv]at hnk;refine Jo (tK d _ v _ _ _ hnk.1 ∅ q1 ?_)
     simp only[MG,J5,KZ];exact Ju #[rfl,rfl,_,q2,∅,hnk.2]
   ·rintro⟨r1,r2⟩ s' ⟨hr,rfl,_⟩;simp only at hr;subst hr;exact Ju h
end
noncomputable abbrev Ze:=JI×T×JA
abbrev zT (z:Ze):JI×T:=(z.1,z.2.1)
abbrev zV (z:Ze):JI×Jr:=(z.1,.ref z.2.2)
abbrev ZOk (h:Kw)(zs:J8 Ze):Prop:=∀z∈zs.toList,IsT h z.2.1 (.ref z.2.2)/\z.2.1.depth<=az
def ZOk.se {h:Kw}{zs:J8 Ze}(k:ZOk h zs):SE h (zs.map zT) (zs.map zV):=#[by simp,λi hh y e=>by
 rw[OD,Js]at e;obtain⟨z,hz,e⟩:=e;cases e;exact#[z.2.2,by rw[OD,hz]; rfl,k z (by rw[Nc]; exact NU hz)]]
def iP {α β:Type}{f:α->β}{xs:J8 α}{p:Jx}{x:α}:Kl (xs.map f) p (f x)=(Kl xs p x).map f:=by
 unfold Kl;simp[Array.map_extract]
abbrev dt (t:KY)(n:Jx):J6:=t.fits n && !t.gaveWay&&decide (n<=1000)
abbrev bc (hf:T->JI)(st:J8 (JI×T)×KY)(x:T):Jw (J8 (JI×T)×KY):=
 match dJ st.1 st.2 x (hf x) 100 gV with
 | none=>gV
 | some .there=>ba st
 | some (.free slot)=>
  if dt (st.2.put slot).1 (Kl st.1 (st.2.put slot).2 (hf x,x)).size then
   if (st.2.put slot).1.tooFull then
    if OE (NQ (st.1.size+1))<=sizeLine then
     match (st.2.put slot).1.relaid ((Kl st.1 (st.2.put slot).2 (hf x,x)).map (·.1)) (NQ (st.1.size+1))with
     | none=>gV
     | some (t2,order)=>
      if (order.filterMap ((Kl st.1 (st.2.put slot).2 (hf x,x))[·]?)).size=(Kl st.1 (st.2.put slot).2 (hf x,x)).size/\dt t2 (order.filterMap ((Kl st.1 (st.2.put slot).2 (hf x,x))[·]?)).size=true then ba (order.filterMap ((Kl st.1 (st.2.put slot).2 (hf x,x))[·]?),t2)else gV
    else gV
   else ba (Kl st.1 (st.2.put slot).2 (hf x,x),(st.2.put slot).1)
  else gV
def filterMap_map {α β:Type}{f:α->β}{xs:J8 α}{order:J8 Jx}:order.filterMap ((xs.map f)[·]?)=(order.filterMap (xs[·]?)).map f:=by
 rw[Array.map_filterMap];congr 1
 funext i
 exact OD ..
def rX {b:JA}{es:J8 (JI×Jr)}:byScan (.ref b) es=false:=rfl
def kM {t:KY}{n:Jx}(h:dt t n=true):t.fits n=true/\t.gaveWay=false/\n<=1000:=by
 unfold dt at h;simp only[Jv,M8,JL]at h;exact#[h.1.1,h.1.2,h.2]
section
variable{prog:Kh}{w:Km}{E:Jr->Jt->Prop}{A:Kk}{s:Jt}
def rY {a:JA}{o:Lo}{es es1:J8 (JI×Jr)}{ep:Jx}{t t1:KY}{Q:TZ->Jt->Prop}(ho:s.heap.get? a=ba o)(hd:o.data=.set es ep t)(hz:es1.size<=1000)
  (h:∀h',LC a s.heap h'->h'.get? a=ba { o with data:=.set es1 (ep+1) t1 }->Q () { s with heap:=h' }):wpAny (model prog w) A (storeSet a es1 t1) Q E s:=by
 refine wpAny_storeSet_of ho hd (h _ (MN ..) ?_) (JY hz (by rw[Ky]; decide))
 have:=Lk (Obj.putSet es1 t1) ho (by rw[putSet_of es1 t1 hd]; rfl)
 rw[putSet_of es1 t1 hd]at this;exact this
def FD {a b:JA}{o:Lo}{zs:J8 Ze}{ep:Jx}{t:KY}{x:T}{hf:T->JI}{es1:J8 (JI×T)}{t1:KY}{Q:J6->Jt->Prop}(ho:s.heap.get? a=ba o)(hd:o.data=.set (zs.map zV) ep t)(hft:dt t zs.size=true)(hz:ZOk s.heap zs)
  (hx:IsT s.heap x (.ref b)) (hdx:x.depth<=az) (hnx:d6 x=true) (hu:(aV prog w).room A) (e:bc hf (zs.map zT,t) x=ba (es1,t1))
  (k:∀(bb:J6) (h':Kw) (zs':J8 Ze) (ep':Jx),zs'.map zT=es1->dt t1 zs'.size=true->LC a s.heap h'->h'.get? a=ba { o with data:=.set (zs'.map zV) ep' t1 }->(∀z∈zs'.toList,z∈zs.toList\/z=(hf x,x,b))->Q bb { s with heap:=h' }) :
  wpAny (model prog w) A (setAddHashed a (.ref b) (hf x)) Q E s:=by
 obtain⟨f1,f2,f3⟩:=kM hft;have f1':t.fits (zs.map zV).size=true:=by rw[La]; exact f1
 unfold setAddHashed setAddHashedIn;refine KR (Jo (K6 ho hd f1' ?_));dsimp only;rw[rX];simp only[J5,KZ];unfold bc at e;cases hs:dJ (zs.map zT) t x (hf x) 100 gV with
 | none=>rw[hs]at e; cases e
 | some r=>
  rw[hs]at e;dsimp only at e;refine Jo ?_;unfold setSearch;refine xH ho hd f1' f2 hz.se hx hdx hu 100 100000 gV r hs #v[] (λhr=>?_) λslot hr=>?_
  ·subst hr;cases e;exact Ju (k false s.heap zs ep rfl hft (QV ..) (by rw[<- hd]; exact ho) λz h=>.inl h)
  ·subst hr;dsimp only at e ⊢;refine Jo (K6 ho hd f1' ?_);dsimp only;split at e
   ·rename_i hok1;have eI:Kl (zs.map zT) (t.put slot).2 (hf x,x)=(Kl zs (t.put slot).2 (hf x,x,b)).map zT:=iP (f:=zT) (x:=(hf x,x,b));have eV:Kl (zs.map zV) (t.put slot).2 (hf x,.ref b)=(Kl zs (t.put slot).2 (hf x,x,b)).map zV:=iP (f:=zV) (x:=(hf x,x,b));have hmem:∀z∈(Kl zs (t.put slot).2 (hf x,x,b)).toList,z∈zs.toList\/z=(hf x,x,b):=λz h=>by
     unfold Kl at h;simp only[Oi,OT,Kd,JD]at h;rcases h with(h|h)|h
     ·rw[Nd]at h;exact .inl (by rw[OO]at h; exact Nf (Lb h))
     ·exact .inr h
     ·rw[Nd]at h;exact .inl (by rw[OO]at h; exact Nf (Lb h))
    rw[eI]at e hok1;rw[La]at hok1;obtain⟨g1,g2,g3⟩:=kM hok1;rw[eV];have hfst:∀z1:J8 Ze,MS (λx=>x.fst) (MS zV z1)=MS (λx=>x.fst) (MS zT z1):=λz1=>by
     rw[Sl,Sl]; rfl
    simp only[La]at e ⊢;generalize(t.put slot).1=tt at e hok1 g1 g2 ⊢;generalize Kl zs (t.put slot).2 (hf x,x,b)=z1 at e hok1 g1 g3 hmem ⊢;clear eI eV;have k8:x.depth<=8:=JY hdx (by unfold az; decide)
    have g1v:tt.fits (MS zV z1).size=true:=by rw[La]; exact g1
    have tail:∀h1:Kw,LC a s.heap h1->h1.get? a=ba { o with data:=.set (MS zV z1) (ep+1) tt }->wpAny (model prog w) A (if (!false&&tt.tooFull)=true then do setRelay a (NQ (zs.size+1)); pure true else pure true) Q E { s with heap:=h1 }:=by
     intro h1 sb1 q1;cases htf:tt.tooFull with
     | false=>
      rw[htf]at e;simp only[J5,KZ]at e;cases e;simp only[PU,Ox,J5,KZ];exact Ju (k true h1 z1 (ep+1) rfl hok1 sb1 q1 hmem)
     | true=>
      rw[htf]at e;simp only[Ls]at e;simp only[PU,Ny,Ls];split at e
      ·rename_i hle;cases hrel:tt.relaid (MS (λx=>x.fst) (MS zT z1)) (NQ (zs.size+1))with
       | none=>rw[hrel]at e; cases e
       | some p=>
        obtain⟨t2,order⟩:=p;rw[hrel]at e;dsimp only at e;rw[filterMap_map,La]at e;split at e
        ·rename_i hc;cases e;obtain⟨c1,c2⟩:=hc;obtain⟨d1,d2,d3⟩:=kM c2;unfold setRelay;refine Jo (Jo (K6 q1 rfl g1v ?_));dsimp only;rw[Kb (Qw.mpr hle)];rw[hfst,hrel];refine Jo (NJ (a:=(MS zV (RE (λx=>z1[x]?) order),t1)) ?_ ?_)
         ·show(if ((RE (λx=>(MS zV z1)[x]?) order).size != (MS zV z1).size)=true then _ else _)=_
          rw[filterMap_map,La,La,c1];rw[Kb (by simp)]
         ·dsimp only;refine rY (s:={ s with heap:=h1 }) q1 rfl (by rw[La]; exact d3) λh2 sb2 q2=>Ju (k true h2 _ (ep+1+1) rfl c2 (sb1.trans sb2) q2 λz hz=>hmem z ?_)
          obtain⟨i,hi,e⟩:=Array.mem_filterMap.mp (Nc.mp hz);exact Nc.mpr (NU e)
        ·cases e
      ·cases e
    cases hp:tt.plain with
    | false=>
     simp only[J5,KZ];refine Jo (Ju ?_);simp only[Ls];exact Jo (rY ho hd (by rw[La]; exact g3) λh1 sb1 q1=>tail h1 sb1 q1)
    | true=>
     simp only[Ls];refine Jo (tK 8 _ _ _ _ _ hnx k8 hx ?_);simp only[Ls];exact Jo (rY ho hd (by rw[La]; exact g3) λh1 sb1 q1=>tail h1 sb1 q1)
   ·cases e
end
abbrev gB (h h':Kw):Prop:=∀c o,h.get? c=ba o->o.cls=.type "tuple"->h'.get? c=ba o
mutual
theorem IsT.stay {h h':Kw}(k:gB h h'):∀ {x:T} {v:Jr},IsT h x v->IsT h' x v
 | _,_,.int=>.int
 | _,_,.str=>.str
 | _,_,.tup a b c d=>.tup (k _ _ a b) b c (IsTs.stay k d)
theorem IsTs.stay {h h':Kw}(k:gB h h'):∀ {x:Jn T} {v:Jn Jr},IsTs h x v->IsTs h' x v
 | _,_,.nil=>.nil
 | _,_,.cons a b=>.cons (IsT.stay k a) (IsTs.stay k b)
end
def ZOk.stay {h h':Kw}{zs:J8 Ze}(k:gB h h')(z:ZOk h zs):ZOk h' zs:=λy hy=>#[(z y hy).1.stay k,(z y hy).2]
section
variable{prog:Kh}{w:Km}{A:Kk}{E:Jr->Jt->Prop}{s:Jt}{R:Rc->Jt->Prop}{I:JA}{fp wr:Jn JA}{G:J8 PQ->J8 PQ->Prop}{n:Jx}{P:Jx->Jr->Prop}{St:Jx->Jt->Prop}
abbrev kN (w:Km)(zs:J8 Ze)(ep:Jx)(t:KY):Lo:={ cm w with data:=.set (zs.map zV) ep t }
def vC (W:WalksS prog w A.in1 I fp wr G n P St){D:JA}(hD:D∉fp)(hwr:∀i s b o,St i s->b∈wr->s.heap.get? b=ba o->o.cls≠.type "tuple"){ks:Jn T}{res:J8 (JI×T)×KY}{Yq:T->JA->Prop}(hl:ks.length=n)(hk:∀x∈ks,d6 x=true/\x.depth<=az)(hP:∀i v,P i v->∃x b,ks[i]?=ba x/\v=.ref b/\Yq x b)(hu:(aV prog w).room A.in1) :
  ∀(k i:Jx) (s:Jt) (zs:J8 Ze) (ep:Jx) (t:KY),n - i=k->i<=n->St i s->s.heap.get? D=ba (kN w zs ep t)->dt t zs.size=true->ZOk s.heap zs->(∀z∈zs.toList,Yq z.2.1 z.2.2)->(∀j v x,P j v->ks[j]?=ba x->IsT s.heap x v)->(ks.drop i).foldlM (bc (eC w)) (zs.map zT,t)=ba res->
   (∀s' zs' ep',Moved (D::wr) G s s'->s'.heap.get? D=ba (kN w zs' ep' res.2)->zs'.map zT=res.1->dt res.2 zs'.size=true->ZOk s'.heap zs'->(∀z∈zs'.toList,Yq z.2.1 z.2.2)->R (.ok (.ret .none)) s')->codeAny (model prog w) A (.builtin "set.update.loop" #[[.ref D,.ref I],[]]) R s:=by
 have hw:D∉wr:=λz=>hD (W.sub _ z)
 have up:∀b∈wr,b∈D::wr:=λb z=>KO _ z
 intro k
 induction k with
 | zero=>
  intro i s zs ep t hk' hi st ho hok hz hy hT hsim hR;obtain rfl:i=n:=∅
  refine KU F.entry_set_update_loop ?_;rw[KP F.plain_set_update_loop _];show wpAny _ A.in1 (pyNext (.ref I) >>= _) _ _ s;refine Jo (W.done s _ _ st λs' mv=>?_)
  rw[NR ∅]at hsim
  cases hsim;have ts:gB s.heap s'.heap:=λc o q hc=>mv.heap c o (λz=>hwr _ _ _ _ st z q hc) q
  exact Ju (hR s' zs ep (mv.mono up) (mv.heap D _ hw ho) rfl hok (hz.stay ts) hy)
 | succ k ih=>
  intro i s zs ep t hk' hi st ho hok hz hy hT hsim hR;have hlt:i < n:=∅
  refine KU F.entry_set_update_loop ?_;rw[KP F.plain_set_update_loop _];show wpAny _ A.in1 (pyNext (.ref I) >>= _) _ _ s;refine Jo (W.item i s _ _ hlt st λv s1 pv st1 mv=>?_)
  obtain⟨x,b,hx,rfl,yx⟩:=hP i v pv;have ts1:gB s.heap s1.heap:=λc o q hc=>mv.heap c o (λz=>hwr _ _ _ _ st z q hc) q
  obtain⟨hn,hdp⟩:=hk x (JG hx);have G0:IsT s1.heap x (.ref b):=(hT i _ x pv hx).stay ts1;have o1:s1.heap.get? D=ba (kN w zs ep t):=mv.heap D _ hw ho;have hd1:ks.drop i=x::ks.drop (i+1):=by
   obtain⟨h1,h2⟩:=JF.mp hx;rw[List.drop_eq_getElem_cons h1,h2]
  rw[hd1,MT]at hsim;cases hs:bc (eC w) (zs.map zT,t) x with
  | none=>rw[hs]at hsim; cases hsim
  | some aK=>
   obtain⟨es1,t1⟩:=aK;rw[hs]at hsim;have hsim:(ks.drop (i+1)).foldlM (bc (eC w)) (es1,t1)=ba res:=hsim;show wpAny _ A.in1 (holding [Kj b] (setAdd D (.ref b)) >>= _) _ _ s1;refine Jo (KR ?_);unfold setAdd;refine KR (Jo ((aV prog w).pyHash hu #[G0,hdp] ?_));refine FD (s:={ s1 with toks:=s1.toks+x.draws }) (hf:=eC w) o1 rfl hok (hz.stay ts1) G0 hdp hn hu hs λbb h' zs' ep' e1 hok' sb ho' hmem=>?_
   have ts2:gB s1.heap h':=λc o q hc=>by
    refine sb.extBut c o (λz=>?_) q
    subst z;rw[o1]at q;cases q;exact absurd hc (by show ¬ (Lw "set" = Lw "tuple"); simp)
   have hz':ZOk h' zs':=λz hzm=>by
    rcases hmem z hzm with h|rfl
    ·exact((hz.stay ts1).stay ts2) z h
    ·exact#[G0.stay ts2,hdp]
   refine Ju #[LO F.plain_set_update_loop _,ih (i+1) { s1 with heap:=h',toks:=s1.toks+x.draws } zs' ep' t1 ∅ hlt (W.frame _ s1 _ _ st1 (Mm _ _) λc hc u q=>?_) ho' hok' hz' (λz hzm=>by
    rcases hmem z hzm with h|rfl
    ·exact hy z h
    ·exact yx) (λj v y pj hy=>((hT j v y pj hy).stay ts1).stay ts2) (by rw[e1]; exact hsim) λs2 zs2 ep2 mv2 ho2 e2 hok2 hz2 hy2=>?_]
   ·rw[sb.2 c λz=>hD (z ▸ hc)]; exact q
   ·refine hR s2 zs2 ep2 (Moved.trans W.gtrans ((mv.mono up).then_heap (Mm _ _) λc u hc q=>?_) mv2) ho2 e2 hok2 hz2 hy2
    rw[sb.2 c λz=>hc (z ▸ KT)]
    exact q
end
section
variable{prog:Kh}{w:Km}{A:Kk}{E:Jr->Jt->Prop}{s:Jt}
def xI (l:J6):dt (.fresh 0 0 l) (#[]:J8 Ze).size=true:=by cases l <;> decide
set_option maxHeartbeats 4000000 in
def vD {l:JA}{its:J8 Jr}{ks:Jn T}{res:J8 (JI×T)×KY}{Q:Jr->Jt->Prop}(hh:A.handled=gV)(hl:s.heap.IsList l its)(hi:IsTs s.heap ks its.toList)(hk:∀x∈ks,d6 x=true/\x.depth<=az)(hrf:∀(i:Jx) (v:Jr),its[i]?=ba v->∃b,v=.ref b)(hu:(aV prog w).room A.in1.in1.in1)(hsim:ks.foldlM (bc (eC w)) (#[],.fresh 0 0 (!eW w))=ba res)
  (h:∀(h':Kw) (tk:Jx) (zs:J8 Ze) (ep:Jx),h'.get? s.heap.objs.size=ba (kN w zs ep res.2)->zs.map zT=res.1->dt res.2 zs.size=true->ZOk h' zs->(∀z∈zs.toList,∃i:Jx,ks[i]?=ba z.2.1/\its[i]?=ba (Kj z.2.2))->(∀b u,s.heap.get? b=ba u->h'.get? b=ba u)->Q (.ref s.heap.objs.size) { s with heap:=h',toks:=tk }):wpAny (model prog w) A (call (.type "set") [.ref l]) Q E s:=by
 obtain⟨c,tl,hmro⟩:=F.called_set.mro;have hmade:=F.called_set.made;have hsub:=F.called_set.sub;have hn1:=F.called_set.notType;have hn2:=F.called_set.canCreate;have hct:=F.typeCall_set_1 (.ref l);refine wpAny_call (Pr ?_);show wpAny _ _ (callAny (.type "set") _) _ _ _;refine Ju #[Qx _ (by decide +kernel),KU F.entry_type_call ?_]
 rw[Around.under_plain (weight_type_call_type "set" [.ref l] []) rfl]
 repeat (any_goals (first|assumption|wp_step))
 refine NL (xB (w:=w) (.ref l) (E:=E) (Q₁:=λobj s1=>obj=.ref s.heap.objs.size/\s1={ s with heap:=s.heap.push (cm w) }) #[rfl,rfl]) λr s1 hr=>?_
 match r,hr with
 | .ok (.ret obj),hr=>
  obtain⟨rfl,rfl⟩:=hr;have oS:(s.heap.push (cm w)).get? s.heap.objs.size=ba (cm w):=JJ _ rfl;have tS:Shared.TypeIs { s with heap:=s.heap.push (cm w) } (.ref s.heap.objs.size) "set":=#[_,oS,rfl]
  have hli:=F.called_set.init.lookup;have hbi:=F.called_set.init.bind (.ref s.heap.objs.size)
  repeat (any_goals (first|assumption|wp_step))
  refine NL (codeAny_call_builtin (R:=wants (λr s2=>r=.none/\∃h' tk zs ep,s2={ s with heap:=h',toks:=tk }/\h'.get? s.heap.objs.size=ba (kN w zs ep res.2)/\zs.map zT=res.1/\dt res.2 zs.size=true/\ZOk h' zs/\(∀z∈zs.toList,∃i:Jx,ks[i]?=ba z.2.1/\its[i]?=ba (Kj z.2.2))/\∀b u,s.heap.get? b=ba u->h'.get? b=ba u) E) F.called_set.init.plain F.entry_set_init (check_set_init_1 tS ?_)) λr2 s2 hr2=>?_
  ·obtain⟨⟨oc,od,ot,osl⟩,hol,hcl,nl,hdl⟩:=id hl;simp only at hcl hdl;subst hcl hdl;have hol1:=Jq (cm w) hol;have l1:(s.heap.push (cm w)).IsList l its:=#[_,hol1,rfl,nl,rfl];have e1:=F.sub_list_set;have e2:=F.sub_list_frozenset;have e3:(Lw "list" == Lw "dict")=false:=by decide
   unfold MM.«set.__init__» noKeywords RF;generalize hPI:pyIter=PI
   wp_walk
   subst hPI;refine MC l1 (Jo (NP ?_));have ls:l < s.heap.objs.size:=JN hol;have sz:(s.heap.push (cm w)).objs.size=s.heap.objs.size+1:=Lq ..;have ne:l≠(s.heap.push (cm w)).objs.size:=by rw[sz]; exact J0 (L9 ls)
   have oS':(s.heap.push (cm w)).get? s.heap.objs.size=ba (kN w #[] 0 (.fresh 0 0 (!eW w))):=by
    rw[oS]; unfold kN cm; simp
   have len:ks.length=its.size:=by rw[hi.length,JS]
   refine vC ((Qy (A:=A.in1.in1.in1) (by simp[hh]) _ l ne its).toS) (D:=s.heap.objs.size) (ks:=ks) (res:=res) (Yq:=λx b=>∃i:Jx,ks[i]?=ba x/\its[i]?=ba (Kj b)) (by rw[sz]; simp only[JX,Ko,LA,Rk]; exact#[J0 (K9 _),Lm ls]) (λi s b o st hb q=>?_) len hk (λi v q=>?_) hu _ 0 _ #[] 0 (.fresh 0 0 (!eW w)) rfl (Lj _)
    #[#[_,JJ _ rfl,rfl,rfl],l1.push _] (Jq _ oS') (xI _) (λz hz=>by simp at hz) (λz hz=>by simp at hz) (λj v x q hx=>?_) (by rw[PV,show MS zT #[]=#[] by simp]; exact hsim) λs3 zs3 ep3 mv ho3 e3 hok3 hz3 hy3=>?_
   ·obtain⟨⟨o',e,hc,_⟩,_⟩:=st;rw[JD.mp hb]at q;rw[q]at e;cases e;rw[hc];simp
   ·obtain⟨b,rfl⟩:=hrf i v q;have hi':i < ks.length:=by rw[len]; exact(Lr.mp q).1
    exact#[ks[i],b,Jz hi',rfl,i,Jz hi',q]
   ·have hj:=(JF.mp hx);have q':=(Lr.mp q);obtain⟨h1,rfl⟩:=hj;obtain⟨h2,rfl⟩:=q';have:=hi.get j h1 (by rw[JS]; exact h2)
    rw[N7]at this;exact this.stay λc o q hc=>Jq _ (Jq _ q)
   ·rw[Sj mv];refine Ju (Ju #[rfl,s3.heap,s3.toks,zs3,ep3,rfl,ho3,e3,hok3,hz3,hy3,λb u q=>?_])
    have hb:=JN q;exact mv.heap b u (by rw[sz]; simp only[JX,Ko,LA,Rk]; exact#[J0 hb,J0 (L9 hb)]) (Jq _ (Jq _ q))
  ·match r2,hr2 with
   | .ok (.ret r),hr2=>
    obtain⟨rfl,h',tk,zs,ep,rfl,g1,g2,g3,g4,g5,g6⟩:=hr2
    repeat (any_goals (first|assumption|wp_step))
    exact h h' tk zs ep g1 g2 g3 g4 g5 g6
   | .ok .next,hr2=>exact hr2.elim
   | .ok .brk,hr2=>exact hr2.elim
   | .ok .cont,hr2=>exact hr2.elim
   | .error e,hr2=>exact hr2
 | .ok .next,hr=>exact hr.elim
 | .ok .brk,hr=>exact hr.elim
 | .ok .cont,hr=>exact hr.elim
 | .error e,hr=>exact hr
end
abbrev jN (S:aa)(i:Jx):Jw (Jn (T×W)):=match S[i]? with
 | some (.dic U)=>ba U
 | some (.frd U)=>ba U
 | _=>gV
abbrev nX (S:aa)(i:Jx):Jw (Jn (T×W)):=match S[i]? with
 | some (.dic U)=>ba U
 | _=>gV
abbrev bN (U:Jn (T×W))(k:T):Jw W:=(U.find? λp=>decide (p.1=k)).map (·.2)
abbrev d7 (U:Jn (T×W))(k:T)(v:W):Jn (T×W):=
 if (U.any λp=>decide (p.1=k))=true then U.map (λp=>if p.1=k then(p.1,v)else p)else U++[(k,v)]
abbrev gN (w:W):Jw T:=match W.t w with
 | some k=>if k.isTup=true/\k.depth<=az then ba k else gV
 | none=>gV
def dU {w:W}{k:T}(h:gN w=ba k):k.w=w/\k.isTup=true/\k.depth<=az:=by
 unfold gN at h;split at h
 ·rename_i k' hk;split at h
  ·rename_i hc;cases h;exact#[W.t_w hk,hc.1,hc.2]
  ·cases h
 ·cases h
def cD (U:Jn (T×W))(k:T)(v:W):(d7 U k v).length<=U.length+1:=by
 unfold d7;split
 ·rw[Jp]; omega
 ·rw[JC,J9,LV]; omega
section
variable{X:Cx}{J:Jn (JA×Lo)}{Y:L2.St}{H:Hp}{s:Jt}{A:Jn JA}{S:aa}
mutual
theorem kO (I:Inv X J Y H s):∀(k:T) {v:V} {u:Jr},Rel X.K A H k.w v->RelV v u->IsT s.heap k u
 | .int i,_,_,r,q=>by
  cases r;obtain⟨t,rfl⟩ : ∃t,_=NW _ t:=q;exact .int
 | .str x,_,_,r,q=>by
  cases r;obtain⟨t,rfl⟩ : ∃t,_=NX _ t:=q;exact .str
 | .tup ks,_,_,r,q=>by
  simp only[T.w]at r;cases r with
  | tup sq rl=>
   obtain⟨its,rv,⟨o,h1,h2,n,h3⟩,hz⟩:=I.tuple sq;obtain rfl:_=Kj _:=q;exact .tup h1 h2 h3 (eD I ks rl (by simpa using rv))
theorem eD (I:Inv X J Y H s):∀(ks:Jn T) {vs:Jn V} {us:Jn Jr},RelL X.K A H (T.ws ks) vs->Vals vs us->IsTs s.heap ks us
 | [],_,_,r,q=>by
  simp only[T.ws]at r;cases r; cases q; exact .nil
 | k::ks,_,_,r,q=>by
  simp only[T.ws]at r;cases r with
  | cons r1 r2=>
   cases q with
   | cons q1 q2=>exact .cons (kO I k r1 q1) (eD I ks r2 q2)
end
def jn (I:Inv X J Y H s){k:T}{b:JA}(r:Rel X.K A H k.w (.ref b))(hd:k.depth<=az):(aV X.prog X.w).is s.heap k b:=#[kO I k r rfl,hd]
def iQ {w:W}{k:T}{v:V}{u:Jr}(hk:gN w=ba k)(r:Rel X.K A H w v)(q:RelV v u):∃b,v=.ref b/\u=.ref b/\Rel X.K A H k.w (.ref b):=by
 obtain⟨h1,h2,h3⟩:=dU hk;subst h1;cases k with
 | tup ks=>
  simp only[T.w]at r;cases r with
  | tup a b=>exact#[_,rfl,q,by simp only[T.w]; exact .tup a b]
 | _=>cases h2
def KRel.is {U:Jn (T×W)}{xs:Jn (T×JA×Jr)}(I:Inv X J Y H s)(r:KRel X.K A H U xs):∀x∈xs,(aV X.prog X.w).is s.heap x.1 x.2.1:=by
 unfold KRel at r
 induction r with
 | nil=>intro x hx; exact nomatch hx
 | @cons p q ps qs h t ih=>
  intro x hx;rcases JX.mp hx with e|hx
  ·subst e;obtain⟨h1,h2,h3,h4,_⟩:=h;rw[h1]at h3 h4;exact jn I h4 h3
  ·exact ih x hx
def KRel.length {U:Jn (T×W)}{xs:Jn (T×JA×Jr)}(r:KRel X.K A H U xs):U.length=xs.length:=OZ r
def KRel.val {U:Jn (T×W)}{xs:Jn (T×JA×Jr)}(r:KRel X.K A H U xs)(k:T) :
  (∀w,bN U k=ba w->∃p v,atKey xs k=ba p/\Rel X.K A H w v/\RelV v p.2)/\(bN U k=gV->atKey xs k=gV):=by
 unfold KRel at r
 induction r with
 | nil=>exact#[λw h=>(nomatch h),λ_=>rfl]
 | @cons p q ps qs h t ih=>
  obtain⟨h1,_,_,_,v,h5,h6⟩:=h
  by_cases e:p.1=k
  ·have e':q.1=k:=h1.symm.trans e;have a1:bN (p::ps) k=ba p.2:=by simp[bN,M4,e]
   have a2:atKey (q::qs) k=ba q.2:=by simp[atKey,M4,e']
   rw[a1,a2];exact#[λw hw=>(by cases hw; exact#[_,v,rfl,h5,h6]),λh=>nomatch h]
  ·have e':¬ q.1=k:=λz=>e (h1.trans z)
   have a1:bN (p::ps) k=bN ps k:=by simp[bN,M4,e]
   have a2:atKey (q::qs) k=atKey qs k:=by simp[atKey,M4,e']
   rw[a1,a2];exact ih
def KRel.repl {U:Jn (T×W)}{xs:Jn (T×JA×Jr)}(r:KRel X.K A H U xs)(k:T){w:W}{v:V}{u:Jr}(rw':Rel X.K A H w v)(rv:RelV v u) :
  KRel X.K A H (U.map λp=>if p.1=k then(p.1,w)else p) (xs.map (putAt k u)):=by
 unfold KRel at r ⊢
 induction r with
 | nil=>exact .nil
 | @cons p q ps qs h t ih=>
  rw[KF,KF];refine .cons ?_ ih;obtain⟨h1,h2,h3,h4,h5⟩:=h;unfold putAt
  by_cases e:p.1=k
  ·rw[JZ e,JZ (h1.symm.trans e)]; exact#[h1,h2,h3,h4,v,rw',rv]
  ·rw[Kb e,Kb (λz=>e (h1.trans z))]; exact#[h1,h2,h3,h4,h5]
def pN (k:T):∀U:Jn (T×W),(U.any λp=>decide (p.1=k))=(bN U k).isSome
 | []=>rfl
 | p::r=>by
  rw[Ml]
  by_cases e:p.1=k
  ·have a1:bN (p::r) k=ba p.2:=by simp[bN,M4,e]
   rw[a1,Lg e]; rfl
  ·have a1:bN (p::r) k=bN r k:=by simp[bN,M4,e]
   rw[a1,Ki e,O1]; exact pN k r
def KRel.put {U:Jn (T×W)}{xs:Jn (T×JA×Jr)}(r:KRel X.K A H U xs){k:T}{b:JA}{w:W}{v:V}{u:Jr}(h1:k.isTup=true)(h2:k.depth<=az)(h3:Rel X.K A H k.w (.ref b))(rw':Rel X.K A H w v)(rv:RelV v u) :
  KRel X.K A H (d7 U k w) (storedH xs k b u):=by
 have e:(U.any λp=>decide (p.1=k))=(atKey xs k).isSome:=by
  rw[pN];cases q:bN U k with
  | none=>rw[(r.val k).2 q]; rfl
  | some x=>obtain⟨p,_,h,_⟩:=(r.val k).1 x q; rw[h]; rfl
 unfold d7 storedH;rw[e]
 by_cases q:(atKey xs k).isSome=true
 ·rw[JZ q,JZ q]; exact r.repl k rw' rv
 ·rw[Kb q,Kb q]; exact Paired.snoc r #[rfl,h1,h2,h3,v,rw',rv]
def DicAt.of {h:Kw}{a:JA}{xs:Jn (T×JA×Jr)}(hz:xs.length<=sizeLine)(hs:(a==sysModules)=false)(d:h.DictOfH (aV X.prog X.w) a xs):DicAt X.w a xs h:=
 let ⟨o,es,ep,h1,h2,h3,h4,_,h6⟩:=d; #[hz,hs,h6,o,es,ep,h1,h2,h3,h4]
def DicAt.stay {wd:Km}{h h':Kw}{a:JA}{xs:Jn (T×JA×Jr)}(d:DicAt wd a xs h)(k:∀o,h.get? a=ba o->h'.get? a=ba o):DicAt wd a xs h':=
 let ⟨h0,hs,hn,o,es,ep,h1,h2⟩:=d; #[h0,hs,hn,o,es,ep,k _ h1,h2]
def DicAt.ok {P:Kh}{h:Kw}{wd:Km}{a:JA}{xs:Jn (T×JA×Jr)}(d:DicAt wd a xs h):ObjOk P wd H h a (d0 wd a xs):=
 #[d,let ⟨_,_,_,o,_,_,h1,_⟩:=d; #[o,h1],λ_ _ p k=>p.stay k]
def cp {a:JA}{xs:Jn (T×JA×Jr)}(I:Inv X J Y H s)(e:Rd H a (d0 X.w a xs)):DicAt X.w a xs s.heap:=(show ObjOk X.prog X.w H s.heap a (d0 X.w a xs)from e.ok I.hok).1
def DicAt.dict {U:Jn (T×W)}{a:JA}{xs:Jn (T×JA×Jr)}(d:DicAt X.w a xs s.heap)(I:Inv X J Y H s)(r:KRel X.K A H U xs):s.heap.DictOfH (aV X.prog X.w) a xs:=
 let ⟨_,_,hn,o,es,ep,h1,h2,h3,h4⟩:=d; #[o,es,ep,h1,h2,h3,h4,r.is I,hn]
def fY {i:Jx}{U:Jn (T×W)}{a:JA}(so:StoreOk X.w X.K A H S)(e:jN S i=ba U)(ea:A[i]?=ba a):∃xs,Rd H a (d0 X.w a xs)/\KRel X.K A H U xs:=by
 unfold jN at e;split at e
 ·rename_i k h;cases e;obtain⟨xs,q,r⟩:=so.obj i _ a h ea;exact#[xs,.inl q,r]
 ·rename_i k h;cases e;obtain⟨o,xs,q,r⟩:=so.obj i _ a h ea;exact#[xs,.inr #[o,q],r]
 ·cases e
def iR {i:Jx}{U:Jn (T×W)}(e:nX S i=ba U):S[i]?=ba (.dic U):=by
 unfold nX at e;split at e
 ·rename_i h; cases e; exact h
 ·cases e
def tL {i:Jx}{U:Jn (T×W)}{a:JA}(so:StoreOk X.w X.K A H S)(e:nX S i=ba U)(ea:A[i]?=ba a):∃xs,H a=ba (d0 X.w a xs)/\KRel X.K A H U xs:=
 so.obj i _ a (iR e) ea
def pO {B:Kk}(hu:B.units+10 < cLine):(aV X.prog X.w).room B.in1:=by
 show B.in1.units+az < cLine;rw[aD]; unfold az; omega
abbrev nY (x y:W)(S:aa):Jw (W×aa):=match x,y with
 | .ref r,.tup ks=>match jN S r,gN (.tup ks)with
  | some U,ba k=>(bN U k).map λw=>(w,S)
  | _,_=>gV
 | x,y=>vn x y S
def HR (hu:X.A.units+10 < cLine):LIx X nY:=by
 intro value slice J s Y H A S x y a b u v w S' I so rx ru ry rv e hs
 by_cases hxy:∃r ks,x=.ref r/\y=.tup ks
 ·obtain⟨r,ks,rfl,rfl⟩:=hxy;simp only[nY]at e;split at e
  ·rename_i U k hk1 hk2;rw[Js]at e;obtain⟨w',e1,e2⟩:=e;cases e2;cases rx with
   | ref ea=>
    obtain⟨xs,rd,kr⟩:=fY so hk1 ea;have d:=cp I rd;have dd:=d.dict I kr;obtain⟨bk,rfl,rfl,rk⟩:=iQ hk2 ry rv;obtain⟨p,vv,h1,h2,h3⟩:=(kr.val k).1 _ e1;obtain rfl:u=Kj _:=ru;refine NN (x:=p.2) dd.typeIs slot_dict_getitem.lookup
     (wpAny_getItem_heap (Q:=λr s'=>r=p.2/\PostE X J Y A H S w r s') (pO hu) (jn I rk (dU hk2).2.2) dd h1 #[rfl,vv,H,A,I.tok _,h3,.refl,so,h2]) hs
  ·cases e
 ·have:nY x y S=vn x y S:=by
   cases x <;> cases y <;> first|rfl|exact absurd #[_,_,rfl,rfl] hxy
  rw[this]at e;exact Jg hu value slice J s Y H A S x y a b u v w S' I so rx ru ry rv e hs
abbrev iS (o i v:W)(S:aa):Jw aa:=match o,i with
 | .ref r,.tup ks=>match nX S r,gN (.tup ks)with
  | some U,ba k=>if U.length < sizeLine then ba (S.set r (.dic (d7 U k v)))else gV
  | _,_=>gV
 | o,i=>vo o i v S
def FH (hu:X.A.units+10 < cLine):LSet X iS:=by
 intro J s Y H A S o i x ao ai ax uo ui ux S' I so ro ruo ri rui rx rux e
 by_cases hxy:∃r ks,o=.ref r/\i=.tup ks
 ·obtain⟨r,ks,rfl,rfl⟩:=hxy;simp only[iS]at e;split at e
  ·rename_i U k hk1 hk2;split at e
   ·rename_i hl;cases e;cases ro with
    | ref ea=>
     obtain⟨xs,hH,kr⟩:=tL so hk1 ea;have d:=cp I (.inl hH);have dd:=d.dict I kr;obtain⟨bk,rfl,rfl,rk⟩:=iQ hk2 ri rui;obtain⟨q1,q2,q3⟩:=dU hk2;obtain rfl:uo=Kj _:=ruo;have hz:xs.length<=sizeLine:=by rw[<- kr.length]; omega
     refine wpAny_setItem_heap (hsz:=hz) (pO hu) (jn I rk q3) dd λh' dd' hs=>?_
     have kr':=kr.put q2 q3 rk rx rux;have hz':(storedH xs k bk ux).length<=sizeLine:=by
      rw[<- kr'.length];have:=cD U k x;omega
     have dn:DicAt X.w _ (storedH xs k bk ux) h':=.of hz' d.2.1 dd';obtain⟨so',ex⟩:=so.writeO (iR hk1) rfl ea (u:=d0 X.w _ (storedH xs k bk ux)) (n:=.dic (d7 U k x)) #[_,aI,kr'.mono (cj (.ext hH))];exact#[_,A,nO I (by rw[hH]; exact N1) hs (let ⟨q,_,_,hq,_⟩:=dd'; #[q,hq]) dn.ok,ex,so']
   ·cases e
  ·cases e
 ·have:iS o i x S=vo o i x S:=by
   cases o <;> cases i <;> first|rfl|exact absurd #[_,_,rfl,rfl] hxy
  rw[this]at e;exact lset hu J s Y H A S o i x ao ai ax uo ui ux S' I so ro ruo ri rui rx rux e
abbrev tM (x:W)(xs:Jn W)(S:aa):Jw (W×aa):=match x,xs with
 | .ref r,[y,z]=>match jN S r,gN y with
  | some U,ba k=>ba ((bN U k).getD z,S)
  | _,_=>gV
 | _,_=>gV
def rZ (hu:X.A.units+10 < cLine):mw X "dict.get" tM:=by
 intro J s Y H A S x a u xs vs us w S' I so rx ru rl rv e;cases rx with
 | ref ea=>
  cases rl with
  | nil=>cases e
  | cons r1 t1=>
   cases t1 with
   | nil=>cases e
   | cons r2 t2=>
    cases t2 with
    | cons _ _=>cases e
    | nil=>
     dsimp only[tM]at e;split at e
     ·rename_i U k hk1 hk2;cases e;obtain⟨xs,rd,kr⟩:=fY so hk1 ea;have d:=cp I rd;have dd:=d.dict I kr;cases rv with
      | cons v1 rv2=>
       cases rv2 with
       | cons v2 rv3=>
        cases rv3;obtain⟨bk,rfl,rfl,rk⟩:=iQ hk2 r1 v1;obtain rfl:u=Kj _:=ru;refine call_meetsIn PH dd.typeIs PySem.F.entry_dict_get (PySem.F.args_dict_get_3 _ _ _) (meetsH_dict_get_default (aV X.prog X.w) _ bk d.2.1 _) #[pO hu,k,xs,jn I rk (dU hk2).2.2,dd,?_];cases q:bN U k with
        | none=>
         rw[(kr.val k).2 q];exact#[_,H,A,I.tok _,v2,.refl,so,r2]
        | some w'=>
         obtain⟨p,vv,h1,h2,h3⟩:=(kr.val k).1 _ q;rw[h1];exact#[vv,H,A,I.tok _,h3,.refl,so,h2]
     ·cases e
 | _=>cases e
abbrev Ha (x:W)(i:Jx)(S:aa):Jw J6:=match W.t x,fT S i with
 | some k,ba ys=>match W.ts ys with
  | some ks=>if k.depth<=az/\T.depths ks<=az then ba (decide (k∈ks))else gV
  | none=>gV
 | _,_=>gV
abbrev DC (x:W)(ys:Jn W):Jw J6:=match W.t x,W.ts ys with
 | some k,ba ks=>if k.depth<=az/\T.depths ks<=az then ba (decide (k∈ks))else gV
 | _,_=>gV
def nZ {h:Kw}:∀ {ks:Jn T} {vs:Jn Jr},IsTs h ks vs->∀v∈vs,∃k∈ks,IsT h k v
 | _,_,.cons a b,v,hv=>by
  rcases JX.mp hv with rfl|hv
  ·exact#[_,.head _,a]
  ·obtain⟨k,hk,q⟩:=nZ b v hv;exact#[k,.tail _ hk,q]
abbrev Ac (h:Kw)(k:T)(v:Jr):J6:=@decide (IsT h k v) (SA _)
def r4 {h:Kw}{k k':T}{v:Jr}(x:IsT h k' v):Ac h k v=decide (k'=k):=by
 unfold Ac
 by_cases e:k'=k
 ·subst e; simp[x]
 ·have:¬ IsT h k v:=λy=>e (x.inj y)
  simp[e,this]
def n0 {h:Kw}{k:T}:∀ {ks:Jn T} {vs:Jn Jr},IsTs h ks vs->vs.any (Ac h k)=decide (k∈ks)
 | _,_,.nil=>by simp
 | _,_,.cons (k:=k') a b=>by
  rw[Ml,r4 a,n0 b]
  by_cases e:k'=k
  ·simp[e]
  ·have:¬ k=k':=λz=>e z.symm
   simp[e,this]
def kP:∀ {ks:Jn T} {k:T},k∈ks->k.depth<=T.depths ks
 | x::ks,k,h=>by
  simp only[T.depths];rcases JX.mp h with rfl|h
  ·omega
  ·have:=kP h; omega
def xJ {x:W}{i:Jx}{a b:V}{u v:Jr}{c:J6}(hu:X.A.units+10 < cLine)(I:Inv X J Y H s)(so:StoreOk X.w X.K A H S)(rx:Rel X.K A H x a)(ru:RelV a u)(ry:Rel X.K A H (.ref i) b)(rv:RelV b v)(e:Ha x i S=ba c) :
  ∃l its k ks,v=.ref l/\s.heap.IsList l its/\(∀y,y∈its->NY X.A.in1 s y u (Ac s.heap k y))/\its.any (Ac s.heap k)=c/\c=decide (k∈(ks:Jn T)):=by
 unfold Ha at e;split at e
 ·rename_i k ys h1 h2;split at e
  ·rename_i ks h3;split at e
   ·rename_i h4;cases e;cases ry with
    | ref ea=>
     obtain⟨vs,g1,g2⟩:=aZ so h2 ea;obtain⟨its,rv',p,_⟩:=I.list g1;obtain rfl:v=Kj _:=rv;have hT:IsTs s.heap ks its:=eD I ks ((W.ts_w h3).symm ▸ g2) rv';have hk:IsT s.heap k u:=kO I k ((W.t_w h1).symm ▸ rx) ru;refine#[_,its.toArray,k,ks,rfl,p.isList,λy hy=>?_,by rw[Rl]; exact n0 hT,rfl]
     obtain⟨k',hk',q⟩:=nZ hT y (by simpa using hy)
     rw[r4 q];have:=kP hk';have kl:az=6:=rfl;exact vB az k' k _ _ _ _ ∅ q hk (by rw[aD]; omega) (by rw[aD]; omega)
   ·cases e
  ·cases e
 ·cases e
def AX {x:W}{ys:Jn W}{a b:V}{u v:Jr}{c:J6}(hu:X.A.units+10 < cLine)(I:Inv X J Y H s)(rx:Rel X.K A H x a)(ru:RelV a u)(ry:Rel X.K A H (.tup ys) b)(rv:RelV b v)(e:DC x ys=ba c) :
  ∃l its k,v=.ref l/\s.heap.IsTuple l its/\(∀y,y∈its->NY X.A.in1 s y u (Ac s.heap k y))/\its.any (Ac s.heap k)=c:=by
 unfold DC at e;split at e
 ·rename_i k ks h1 h3;split at e
  ·rename_i h4;cases e;cases ry with
   | @tup _ l vs g1 g2=>
    obtain⟨its,rv',p,_⟩:=I.tuple g1;obtain rfl:v=Kj _:=rv;have hT:IsTs s.heap ks its:=eD I ks ((W.ts_w h3).symm ▸ g2) rv';have hk:IsT s.heap k u:=kO I k ((W.t_w h1).symm ▸ rx) ru;refine#[_,its.toArray,k,rfl,p,λy hy=>?_,by rw[Rl]; exact n0 hT]
    obtain⟨k',hk',q⟩:=nZ hT y (by simpa using hy)
    rw[r4 q];have:=kP hk';have kl:az=6:=rfl;exact vB az k' k _ _ _ _ ∅ q hk (by rw[aD]; omega) (by rw[aD]; omega)
  ·cases e
 ·cases e
abbrev cZ (o:COp)(x y:W)(S:aa):Jw (W×aa):=match o,y with
 | .isin,.ref i=>match jN S i with
  | some U=>(gN x).map λk=>(.bl (bN U k).isSome,S)
  | none=>match x with
   | .tup xs=>(Ha (.tup xs) i S).map λb=>(.bl (b),S)
   | x=>iI .isin x (.ref i) S
 | .notin,.ref i=>match jN S i with
  | some U=>(gN x).map λk=>(.bl (!(bN U k).isSome),S)
  | none=>match x with
   | .tup xs=>(Ha (.tup xs) i S).map λb=>(.bl (!b),S)
   | x=>iI .notin x (.ref i) S
 | .isin,.tup ys=>match x with
  | .tup xs=>(DC (.tup xs) ys).map λb=>(.bl b,S)
  | x=>iI .isin x (.tup ys) S
 | o,y=>iI o x y S
def pP (hu:X.A.units+hZ < cLine)(o:COp):LOp X (compareOp o.py) (cZ o):=by
 intro J s Y H A S x y a b u v w S' I so rx ru ry rv e;have get:∀ {i:Jx} {U:Jn (T×W)} {k:T},y=.ref i->jN S i=ba U->gN x=ba k->∃d c xs,v=.ref d/\u=.ref c/\(d==sysModules)=false/\(aV X.prog X.w).is s.heap k c/\s.heap.DictOfH (aV X.prog X.w) d xs/\(bN U k).isSome=(atKey xs k).isSome:=by
  intro i U k hy hk1 hk2;subst hy;cases ry with
  | ref ea=>
   obtain⟨xs,rd,kr⟩:=fY so hk1 ea;have d:=cp I rd;obtain⟨bk,rfl,rfl,rk⟩:=iQ hk2 rx ru;obtain rfl:v=Kj _:=rv;refine#[_,bk,xs,rfl,rfl,d.2.1,jn I rk (dU hk2).2.2,d.dict I kr,?_];cases q:bN U k with
   | none=>rw[(kr.val k).2 q]; rfl
   | some w'=>obtain⟨p,_,h1,_⟩:=(kr.val k).1 _ q; rw[h1]; rfl
 have old:iI o x y S=ba (w,S')->wpAny (model X.prog X.w) X.A (compareOp o.py u v) (PostE X J Y A H S' w) X.xe s:=λh=>AU hu o J s Y H A S x y a b u v w S' I so rx ru ry rv h
 have hu':X.A.units+10 < cLine:=by have:hZ=20:=rfl; omega
 unfold cZ at e;split at e
 ·split at e
  ·rename_i U hk1;rw[Js]at e;obtain⟨k,hk2,e2⟩:=e;cases e2;obtain⟨d,c,xs,rfl,rfl,q1,q2,q3,q4⟩:=get rfl hk1 hk2;rw[q4];exact wpAny_in_heap (pO hu') q2 q1 q3 #[.bl _,H,A,I.tok _,rfl,.refl,so,.bl]
  ·split at e
   ·rw[Js]at e;obtain⟨c,hc,e⟩:=e;cases e;obtain⟨l,its,k,ks,rfl,p1,p2,p3,_⟩:=xJ hu' I so rx ru ry rv hc;refine RC (Ac s.heap k) p1 p2 ?_;rw[p3];exact#[.bl _,H,A,I,rfl,.refl,so,.bl]
   ·exact old e
 ·split at e
  ·rename_i U hk1;rw[Js]at e;obtain⟨k,hk2,e2⟩:=e;cases e2;obtain⟨d,c,xs,rfl,rfl,q1,q2,q3,q4⟩:=get rfl hk1 hk2;rw[q4];exact wpAny_notIn_heap (pO hu') q2 q1 q3 #[.bl _,H,A,I.tok _,rfl,.refl,so,.bl]
  ·split at e
   ·rw[Js]at e;obtain⟨c,hc,e⟩:=e;cases e;obtain⟨l,its,k,ks,rfl,p1,p2,p3,_⟩:=xJ hu' I so rx ru ry rv hc;refine Qs (Ac s.heap k) p1 p2 ?_;rw[p3];exact#[.bl _,H,A,I,rfl,.refl,so,.bl]
   ·exact old e
 ·split at e
  ·rw[Js]at e;obtain⟨c,hc,e⟩:=e;cases e;obtain⟨l,its,k,rfl,p1,p2,p3⟩:=AX hu' I rx ru ry rv hc;refine Rg (Ac s.heap k) p1 p2 ?_;rw[p3];exact#[.bl _,H,A,I,rfl,.refl,so,.bl]
  ·exact old e
 ·exact old e
end
abbrev RawD (d:JA)(es:J8 L8)(ep:Jx)(h:Kw):Prop:=∃o,h.get? d=ba o/\o.ExactDict/\o.data=.dict es ep
def RawD.at {d:JA}{es:J8 L8}{ep:Jx}{h h':Kw}(x:RawD d es ep h)(e:∀o,h.get? d=ba o->h'.get? d=ba o):RawD d es ep h':=let ⟨o,ho,r⟩:=x; #[o,e _ ho,r]
def RawD.lt {d:JA}{es:J8 L8}{ep:Jx}{h:Kw}(x:RawD d es ep h):d < h.objs.size:=let ⟨_,ho,_⟩:=x; JN ho
def RawD.type {d:JA}{es:J8 L8}{ep:Jx}{s:Jt}(x:RawD d es ep s.heap):s.TypeIs (.ref d) "dict":=let ⟨o,ho,hc,_⟩:=x; #[o,ho,hc.1]
section
variable{prog:Kh}{w:Km}{A:Kk}{E:Jr->Jt->Prop}{s:Jt}{it d:JA}{i ep:Jx}{es:J8 L8}
def pQ {Q:Jr->Jt->Prop}(hd:(d==sysModules)=false)(hm:RawD d es ep s.heap)
  (hQ:Q (.ref s.heap.objs.size) { s with heap:=s.heap.push { cls:=.type "dict_keyiterator",data:=.fields [.ref d,.int 0 0,.int es.size 0,.int ep 0].toArray } }):wpAny (model prog w) A (pyIter (.ref d)) Q E s:=by
 have hT:=hm.type;obtain⟨o,ho,hc,hdat⟩:=id hm;refine OU hT F.slot_dict_iter (KL F.slot_dict_iter hT F.entry_dict_iter ?_ (F.args_dict_iter_1 _));unfold MM.«dict.__iter__» R6;refine Jo (Jo (wpAny_notOrdered_dict hT ?_));show wpAny _ _ (pure (Kj d)) _ _ s;refine Ju ?_;show wpAny _ _ (PJ d >>= _) _ _ s;unfold PJ;rw[Kb (by rw[hd]; exact J1)]
 refine Jo (Ju (Jo (NS ho hdat (Jo (Pu ho hdat ?_)))));refine Jo (Kr (Ju #[_,rfl,"dict_keyiterator",_,#[_,JJ _ rfl,rfl],F.slot_dict_keyiterator_next.lookup,?_]))
 simpa [rawInt]using hQ
def pR {Q:Jw Jr->Jt->Prop}(hit:s.heap.IsKeyIter it d i es.size ep)(hm:RawD d es ep s.heap)(hi:i < es.size)
  (hQ:∀h',h'.IsKeyIter it d (i+1) es.size ep->LC it s.heap h'->Q (ba es[i].key) { s with heap:=h' }):wpAny (model prog w) A (pyNext (.ref it)) Q E s:=by
 obtain⟨o,ho,hc,hd⟩:=id hit;obtain⟨od,hod,hcd,hdd⟩:=id hm;unfold pyNext;refine Jo (M5 (KI (name:=LD "__next__") hit.typeIs F.slot_dict_keyiterator_next
  (KL F.slot_dict_keyiterator_next hit.typeIs F.entry_dict_keyiterator_next ?_ (F.args_dict_keyiterator_next_1 _))))
 refine Jo (Ju (Jo (Jo ?_)))
 first|refine Jo (L1 hit.typeIs (Ju ?_))|refine Jo (MH hit.typeIs (Ju ?_))
 refine Jo (OA ho hd ?_);have hown:Oe "dict_keyiterator" = false:=by decide
 simp only[hown,J5,KZ];show wpAny _ _ (if (Kj d==KA)=true then _ else _) _ _ s
 rw[Kb (show ¬ ((Kj d==KA)=true)from J1)]
 refine Jo (Ju (Jo (NS hod hdd ?_)));rw[Kb (by simp)]
 refine Jo (Ju (Jo (Pu hod hdd ?_)));rw[Kb (by simp)]
 refine Ju ?_;simp only[show ¬ ((i:JI) < 0)from by omega,KZ,JO,LX hi]
 refine Jo ?_
 first|refine Jo (L1 hit.typeIs (Ju ?_))|refine Jo (MH hit.typeIs (Ju ?_))
 refine Jo (PK hit.typeIs ?_);show wpAny _ _ (setField (.ref it) 1 (rawInt ((i:JI)+1)) >>= _) _ _ s;refine Jo (OF ho hd (by simp) ?_)
 have hit':(s.heap.update it (Sn (·.setIfInBounds 1 (rawInt ((i:JI)+1))))).IsKeyIter it d (i+1) es.size ep:=
  #[_,Lk _ ho (PL (NH hd _)),(QX ..).trans hc,by rw[NH hd]; simp[rawInt]]
 refine Jo (KR ?_);refine Jo (PK (s:={ s with heap:=s.heap.update it (Sn (·.setIfInBounds 1 (rawInt ((i:JI)+1)))) }) hit'.typeIs ?_)
 show wpAny _ _ (pure es[i].key) _ _ _;exact Ju (Ju #[_,rfl,Ju (hQ _ hit' (MN ..))])
def tN {Q:Jw Jr->Jt->Prop}(hh:A.handled=gV)(hit:s.heap.IsKeyIter it d i es.size ep)(hm:RawD d es ep s.heap)(hge:es.size<=i)
  (hQ:∀h',PX it s.heap h'->Q gV { s with heap:=h' }):wpAny (model prog w) A (pyNext (.ref it)) Q E s:=by
 obtain⟨o,ho,hc,hd⟩:=id hit;obtain⟨od,hod,hcd,hdd⟩:=id hm;unfold pyNext;refine Jo (M5 (KI (name:=LD "__next__") hit.typeIs F.slot_dict_keyiterator_next
  (KL F.slot_dict_keyiterator_next hit.typeIs F.entry_dict_keyiterator_next ?_ (F.args_dict_keyiterator_next_1 _))))
 refine Jo (Ju (Jo (Jo ?_)))
 first|refine Jo (L1 hit.typeIs (Ju ?_))|refine Jo (MH hit.typeIs (Ju ?_))
 refine Jo (OA ho hd ?_);have hown:Oe "dict_keyiterator" = false:=by decide
 simp only[hown,J5,KZ];show wpAny _ _ (if (Kj d==KA)=true then _ else _) _ _ s
 rw[Kb (show ¬ ((Kj d==KA)=true)from J1)]
 refine Jo (Ju (Jo (NS hod hdd ?_)));rw[Kb (by simp)]
 refine Jo (Ju (Jo (Pu hod hdd ?_)));rw[Kb (by simp)]
 refine Ju ?_;simp only[show ¬ ((i:JI) < 0)from by omega,KZ,JO,Array.getElem?_eq_none hge]
 refine Jo ?_
 first|refine Jo (L1 hit.typeIs (Ju ?_))|refine Jo (MH hit.typeIs (Ju ?_))
 show wpAny _ _ (setField (.ref it) 0 .none >>= _) _ _ s;refine Jo (OF ho hd (by simp) ?_)
 show wpAny _ _ (newExc (.type "StopIteration") [] >>= _) _ _ _;refine Jo ?_;simp only[newExc,newTuple];refine Jo (Kr ?_ (by size_fits))
 refine Jo (m:=firstArgMember _ _) (NJ (a:=KA) (by first|rfl|(simp only[firstArgMember]; rfl)) ?_)
 refine Kr ?_ (by size_fits)
 simp only[raiseNew];refine Jo (Qj ?_);rw[show A.in1.handled=gV from hh]
 refine Jo (Ju (Rw ?_));refine Jo (MR (T:="StopIteration") (b:=true) #[_,JJ _ rfl,rfl] Oz ?_);exact Ju (hQ _ (((MN ..).extBut.push _).push _))
def vE (hh:A.handled=gV)(I d:JA)(hne:d≠I)(es:J8 L8)(ep:Jx) :
  Rx prog w A I [I,d] [I] es.size (λi v=>∃e,es[i]?=ba e/\e.key=v) (λi h=>h.IsKeyIter I d i es.size ep/\RawD d es ep h) where
 sub:=λb hb=>by simp at hb; simp[hb]
 frame:=λ_ _ _ st hk=>#[st.1.at λo e=>hk I (by simp) o e,st.2.at λo e=>hk d (by simp) o e]
 item:=λi s Q E hi st hQ=>
  pR st.1 st.2 hi λh' hit' hs'=>hQ _ h' s.toks #[es[i],by simp[hi],rfl] #[hit',st.2.at λo e=>(hs'.2 d hne).trans e] λb o hb e=>hs'.extBut b o (λh=>hb (by simp[h])) e
 done:=λs Q E st hQ=>tN hh st.1 st.2 (JB _) λh' he'=>hQ h' s.toks λb o hb e=>he' b o (λh=>hb (by simp[h])) e
 self:=λ_ _ _ _ st hQ=>PY st.1 hQ
def tP (lo:(d==sysModules)=false):PZ prog w "dict" d d es.size (λi v=>∃e,es[i]?=ba e/\e.key=v) (RawD d es ep) where
 type:=λ_ hm=>hm.type
 there:=λ_ hm=>#[hm.lt,hm.lt]
 keep:=λ_ _ hm hk=>hm.at λo e=>hk d (.inl rfl) o e
 notList:=by decide
 notTuple:=by decide
 hint:=λ_ _ _ _ hm hq=>PySem.W.kdl_hint_dict hm.type hq
 iter:=λ_ _ hh hm=>#[_,_,(λ_ _ hq=>pQ lo hm hq),vE hh _ d (J0 hm.lt) es ep,#[#[_,JJ _ rfl,rfl,rfl],hm.at λo e=>Jq _ e]]
def xK {T:Lc}{r d S:JA}{n:Jx}{P:Jx->Jr->Prop}{OK:Kw->Prop}{R:Rc->Jt->Prop}(K:PZ prog w T r d n P OK)(hh:A.handled=gV)(hok:OK s.heap)(hn:n<=sizeLine)(hSr:S≠r)(hSd:S≠d)
  (hS:s.heap.get? S=ba { cls:=.type "list",data:=.seq #[] 0 })
  (hR:∀h' tk acc' c',(∀b o,b≠S->s.heap.get? b=ba o->h'.get? b=ba o)->h'.get? S=ba { cls:=.type "list",dict:=gV,data:=.seq acc' c',slots:=#[] }->Pi P acc' n->R (.ok (.ret (.ref S))) { s with heap:=h',toks:=tk }) :
  codeAny (model prog w) A (.builtin "list.__iadd__" #[[.ref S,.ref r],[]]) R s:=by
 refine KU F.entry_list_iadd ?_;rw[KP F.plain_list_iadd _];show wpAny _ A.in1 (Ln (.ref S) (.ref r) (.ref S)) _ _ _;exact PySem.W.kdl_extend K hh hok S hSr hSd _ 0 hS hR hn
def pS {T:Lc}{r d:JA}{n:Jx}{P:Jx->Jr->Prop}{OK:Kw->Prop}{Q:Jn Jr->Jt->Prop}(K:PZ prog w T r d n P OK)(hh:A.handled=gV)(hok:OK s.heap)(hn:n<=sizeLine)
  (hQ:∀h' tk acc,(∀b o,s.heap.get? b=ba o->h'.get? b=ba o)->s.heap.objs.size<=h'.objs.size->Pi P acc n->Q acc.toList { s with heap:=h',toks:=tk }):wpAny (model prog w) A (collect (.ref r)) Q E s:=by
 unfold collect;refine Jo (NP (KU F.entry_proto_collect ?_));rw[KP F.plain_proto_collect _];show wpAny _ A.in1 (newList [] >>= λl=>again (.builtin "list.__iadd__" #[[l,.ref r],[]])) _ _ s
 refine Jo (Kr ?_);have hlt:=K.there _ hok;refine Ju #[LO F.plain_list_iadd _,xK (s:={ s with heap:=s.heap.push { cls:=.type "list",data:=.seq ([]:Jn Jr).toArray } }) K hh (K.keep _ _ hok λb _ o e=>Jq _ e) hn (Lm hlt.1) (Lm hlt.2) (JJ _ rfl) λh' tk acc' c' hk hS' hacc=>?_]
 show wpAny (model prog w) A (do
   let o <- load s.heap.objs.size
   match o.data with
   | .seq xs _=>pure xs.toList
   | _=>unsupported "internal:collect") Q E { s with heap:=h',toks:=tk }
 refine Jo (Pc hS' ?_);exact Ju (hQ h' tk acc' (λb o e=>hk b o (J0 (JN e)) (Jq _ e)) (Nh (JN hS')) hacc)
end
mutual
noncomputable def gC:T->T->Jw J6
 | .int a,.int b=>ba (decide (a < b))
 | .str a,.str b=>ba (decide (a.cps.toList < b.cps.toList))
 | .tup xs,.tup ys=>c7 xs ys
 | _,_=>gV
noncomputable def c7:Jn T->Jn T->Jw J6
 | [],[]=>ba false
 | [],_::_=>ba true
 | _::_,[]=>ba false
 | x::xs,y::ys=>if x=y then c7 xs ys else gC x y
end
mutual
theorem IsT.kept {h h':Kw}(hk:∀b o,o.cls=.type "tuple"->h.get? b=ba o->h'.get? b=ba o):∀ {x:T} {v:Jr},IsT h x v->IsT h' x v
 | _,_,.int=>.int
 | _,_,.str=>.str
 | _,_,.tup a1 c1 d1 t1=>.tup (hk _ _ c1 a1) c1 d1 (IsTs.kept hk t1)
theorem IsTs.kept {h h':Kw}(hk:∀b o,o.cls=.type "tuple"->h.get? b=ba o->h'.get? b=ba o):∀ {x:Jn T} {v:Jn Jr},IsTs h x v->IsTs h' x v
 | _,_,.nil=>.nil
 | _,_,.cons a b=>.cons (IsT.kept hk a) (IsTs.kept hk b)
end
def FJ {B:Kk}{s:Jt}{d:Jx}(hu:B.units+d < cLine)(hl:∀(x y:T) (u v:Jr) (k:J6),x.depth<=d->y.depth<=d->IsT s.heap x u->IsT s.heap y v->gC x y=ba k->LtAt B s u v k) :
  ∀(xs ys:Jn T) (us vs:Jn Jr) (k:J6),T.depths xs<=d->T.depths ys<=d->IsTs s.heap xs us->IsTs s.heap ys vs->c7 xs ys=ba k->LexR B s us vs k
 | [],[],_,_,k,_,_,h1,h2,e=>by cases h1; cases h2; cases e; exact .nn
 | [],y::ys,_,_,k,_,_,h1,h2,e=>by cases h1; cases h2; cases e; exact .nc
 | x::xs,[],_,_,k,_,_,h1,h2,e=>by cases h1; cases h2; cases e; exact .cn
 | x::xs,y::ys,_,_,k,d1,d2,h1,h2,e=>by
  simp only[T.depths]at d1 d2;cases h1 with
  | cons p1 q1=>
   cases h2 with
   | cons p2 q2=>
    have he:=vB d x y _ _ B s ∅ p1 p2 hu ∅
    simp only[c7]at e
    by_cases hxy:x=y
    ·rw[JZ hxy]at e;rw[Lg hxy]at he;exact .eq he (FJ hu hl xs ys _ _ k ∅ ∅ q1 q2 e)
    ·rw[Kb hxy]at e;rw[Ki hxy]at he;exact .ne he (hl x y _ _ k ∅ ∅ p1 p2 e)
def FK:∀(d:Jx) (x y:T) (u v:Jr) (B:Kk) (s:Jt) (k:J6),x.depth<=d->y.depth<=d->IsT s.heap x u->IsT s.heap y v->B.units+d < cLine->gC x y=ba k->LtAt B s u v k:=by
 intro d
 induction d with
 | zero=>
  intro x y u v B s k d1 d2 h1 h2 hu e;cases h1 with
  | int=>cases h2 with
   | int=>cases e; exact λprog w E Q h=>(Qc h:wpAny (model prog w) B (compareOp .Lt _ _) Q E s)
   | _=>cases e
  | str=>cases h2 with
   | str=>cases e; exact λprog w E Q h=>(lt_str h:wpAny (model prog w) B (compareOp .Lt _ _) Q E s)
   | _=>cases e
  | tup _ _ _ _=>simp[T.depth]at d1
 | succ d ih=>
  intro x y u v B s k d1 d2 h1 h2 hu e;cases h1 with
  | int=>cases h2 with
   | int=>cases e; exact λprog w E Q h=>(Qc h:wpAny (model prog w) B (compareOp .Lt _ _) Q E s)
   | _=>cases e
  | str=>cases h2 with
   | str=>cases e; exact λprog w E Q h=>(lt_str h:wpAny (model prog w) B (compareOp .Lt _ _) Q E s)
   | _=>cases e
  | tup a1 c1 e1 t1=>cases h2 with
   | tup a2 c2 e2 t2=>
    simp only[T.depth]at d1 d2;have hu1:B.in1.units+d < cLine:=by rw[aD]; omega
    exact LtAt.tuples #[_,a1,c1,_,e1] #[_,a2,c2,_,e2] ∅ (FJ hu1 (λx y u v k q1 q2 q3 q4 q5=>ih x y u v B.in1 s k q1 q2 q3 q4 hu1 q5) _ _ _ _ k ∅ ∅ t1 t2 e)
   | _=>cases e
section
variable{prog:Kh}{w:Km}{A:Kk}{R:Rc->Jt->Prop}{I S:JA}{fp wr:Jn JA}{n:Jx}{P:Jx->Jr->Prop}{St:Jx->Kw->Prop}{Ok:Kw->Prop}{bt:Jx->Jx->J6}
abbrev xL (prog:Kh)(w:Km)(A:Kk)(P:Jx->Jr->Prop)(Ok:Kw->Prop)(bt:Jx->Jx->J6):Prop:=
 ∀i j vi vj (s:Jt) (Q:Jr->Jt->Prop) (E:Jr->Jt->Prop),Ok s.heap->P i vi->P j vj->Q (.bool (bt i j)) s->wpAny (model prog w) A (richCompare .Lt vi vj) Q E s
def xM (W:Rx prog w A.in1 I fp wr n P St)(hcmp:xL prog w A.in1 P Ok bt)(hSf:S∉fp)(hok:∀h h',Ok h->(∀b o,b∉wr->b≠S->h.get? b=ba o->h'.get? b=ba o)->Ok h') :
  ∀(k j:Jx) (s:Jt) (vb:Jr) (c:Jx),n - (j+1)=k->j < n->St (j+1) s.heap->P (argBest bt j) vb->Ok s.heap->s.heap.get? S=ba { cls:=.type "list",dict:=gV,data:=.seq [vb,vb].toArray c,slots:=#[] }->
  (∀v h' tk,P (argBest bt (n - 1)) v->(∀b o,b∉wr->b≠S->s.heap.get? b=ba o->h'.get? b=ba o)->R (.ok (.ret v)) { s with heap:=h',toks:=tk })->
  codeAny (model prog w) A (.builtin "min.loop" #[[.ref I,.none,.ref S],[]]) R s:=by
 have hSw:S∉wr:=λh=>hSf (W.sub _ h)
 have hname:(toString "min" ++ toString ".loop" : Lc) = "min.loop":=by decide
 intro k
 induction k with
 | zero=>
  intro j s vb c hk hj hst hPb hO hS hR;have hin:j+1=n:=∅
  refine KU F.entry_min_loop ?_;rw[KP F.plain_min_loop _];show wpAny _ A.in1 (seqItems? (.ref S) >>= _) _ _ s;refine Jo (Lh hS rfl ?_);show wpAny _ A.in1 (tryCatch (pyNext (.ref I)) _ >>= _) _ _ s;refine Jo (OG (W.done s _ _ (hin ▸ hst) λh' tk hk'=>?_))
  have hS':=hk' S _ hSw hS;show wpAny _ A.in1 (updateSeq S (λ_=>#[]) >>= _) _ _ _
  refine Jo (ND hS' rfl (Jo (Ng (Ju ?_))));have e:j=n - 1:=∅
  exact hR vb _ tk (e ▸ hPb) λb o hbw hbS e=>(Kx _ _ (Ne.symm hbS)).trans (hk' b o hbw e)
 | succ k ih=>
  intro j s vb c hk hj hst hPb hO hS hR;have hlt:j+1 < n:=∅
  refine KU F.entry_min_loop ?_;rw[KP F.plain_min_loop _];show wpAny _ A.in1 (seqItems? (.ref S) >>= _) _ _ s;refine Jo (Lh hS rfl ?_);show wpAny _ A.in1 (tryCatch (pyNext (.ref I)) _ >>= _) _ _ s;refine Jo (OG (W.item (j+1) s _ _ hlt hst λv h' tk hP hst' hk'=>?_))
  have hS':=hk' S _ hSw hS;have hO':Ok h':=hok _ _ hO λb o hb _ e=>hk' b o hb e
  show wpAny _ A.in1 (tryCatch (holding [v,v] (richCompare .Lt v vb >>= _)) _ >>= _) _ _ _;refine Jo (OG (KR (Jo (hcmp (j+1) (argBest bt j) v vb _ _ _ hO' hP hPb ?_))));refine Jo (KR (L7 ?_));refine Jo (Ng (Ju ?_));cases hb:bt (j+1) (argBest bt j)with
  | true=>
   simp only[Ls];refine Jo (ND hS' rfl (Jo (Ng ?_)));rw[hname];refine Ju #[LO F.plain_min_loop _,ih (j+1) _ v _ ∅ hlt (W.frame _ _ _ hst' λb hbf o e=>?_) (by simp only[argBest,hb,Ls]; exact hP) (hok _ _ hO' λb o _ hbS e=>(Kx _ _ (Ne.symm hbS)).trans e) (Lk _ hS' rfl)
    λv' h'' tk'' hP' hk''=>?_]
   ·exact(Kx _ _ (λh:S=b=>hSf (by rw[h]; exact hbf))).trans e
   ·exact hR v' h'' tk'' hP' λb o hbw hbS e=>hk'' b o hbw hbS ((Kx _ _ (Ne.symm hbS)).trans (hk' b o hbw e))
  | false=>
   simp only[J5,KZ];refine Jo (Ng ?_);rw[hname];refine Ju #[LO F.plain_min_loop _,ih (j+1) _ vb c ∅ hlt hst' (by simp only[argBest,hb,J5,KZ]; exact hPb) hO' hS' λv' h'' tk'' hP' hk''=>?_]
   exact hR v' h'' tk'' hP' λb o hbw hbS e=>hk'' b o hbw hbS (hk' b o hbw e)
def vF (W:Rx prog w A.in1 I fp wr n P St)(hcmp:xL prog w A.in1 P Ok bt)(hSf:S∉fp)(hok:∀h h',Ok h->(∀b o,b∉wr->b≠S->h.get? b=ba o->h'.get? b=ba o)->Ok h')(hn:0 < n){s:Jt}{c:Jx}(hst:St 0 s.heap)(hO:Ok s.heap)
  (hS:s.heap.get? S=ba { cls:=.type "list",dict:=gV,data:=.seq #[] c,slots:=#[] })
  (hR:∀v h' tk,P (argBest bt (n - 1)) v->(∀b o,b∉wr->b≠S->s.heap.get? b=ba o->h'.get? b=ba o)->R (.ok (.ret v)) { s with heap:=h',toks:=tk }) :
  codeAny (model prog w) A (.builtin "min.loop" #[[.ref I,.none,.ref S],[]]) R s:=by
 have hSw:S∉wr:=λh=>hSf (W.sub _ h)
 have hname:(toString "min" ++ toString ".loop" : Lc) = "min.loop":=by decide
 refine KU F.entry_min_loop ?_;rw[KP F.plain_min_loop _];show wpAny _ A.in1 (seqItems? (.ref S) >>= _) _ _ s;refine Jo (Lh hS rfl ?_);show wpAny _ A.in1 (tryCatch (pyNext (.ref I)) _ >>= _) _ _ s;refine Jo (OG (W.item 0 s _ _ hn hst λv h' tk hP hst' hk'=>?_))
 have hS':=hk' S _ hSw hS;show wpAny _ A.in1 (updateSeq S (λ_=>[v,v].toArray) >>= _) _ _ _
 refine Jo (ND hS' rfl ?_);rw[hname];have hO':Ok h':=hok _ _ hO λb o hb _ e=>hk' b o hb e
 refine Ju #[LO F.plain_min_loop _,xM W hcmp hSf hok _ 0 _ v _ rfl hn (W.frame _ _ _ hst' λb hbf o e=>?_) hP (hok _ _ hO' λb o _ hbS e=>(Kx _ _ (Ne.symm hbS)).trans e) (Lk _ hS' rfl) λv' h'' tk'' hP' hk''=>?_]
 ·exact(Kx _ _ (λh:S=b=>hSf (by rw[h]; exact hbf))).trans e
 ·exact hR v' h'' tk'' hP' λb o hbw hbS e=>hk'' b o hbw hbS ((Kx _ _ (Ne.symm hbS)).trans (hk' b o hbw e))
end
section
variable{prog:Kh}{w:Km}{A:Kk}{E:Jr->Jt->Prop}{s:Jt}
def xN {l:JA}{items:J8 Jr}{bt:Jx->Jx->J6}{Q:Jr->Jt->Prop}(hh:A.handled=gV)(hl:s.heap.IsList l items)(hn:0 < items.size)
  (hcmp:xL prog w A.in1 (λi v=>items[i]?=ba v) (λh=>∀b o,s.heap.get? b=ba o->h.get? b=ba o) bt)
  (hQ:∀v h' tk,items[argBest bt (items.size - 1)]?=ba v->(∀b o,s.heap.get? b=ba o->h'.get? b=ba o)->Q v { s with heap:=h',toks:=tk }) :
  wpAny (model prog w) A (call (.builtin "min") [.ref l]) Q E s:=by
 have hname:(toString "min" ++ toString ".loop" : Lc) = "min.loop":=by decide
 refine call_function_tree F.kind_min F.plain_min F.entry_min (F.args_min1 _) ?_;show wpAny _ A.in1 (Om "min" ["key","default"] 0 #[[],[]] >>= _) _ _ s;refine Jo (NJ (show Om "min" ["key","default"] 0 #[[],[]]=pure [gV,gV]from rfl) ?_)
 refine Jo (Ju ?_);refine Jo (MC hl ?_);refine Jo (Kr ?_);rw[hname];have hlt:l < s.heap.objs.size:=let ⟨_,ho,_⟩:=hl; JN ho
 have hne:l≠s.heap.objs.size:=J0 hlt;have W:=Qy (prog:=prog) (w:=w) (A:=A.in1) hh s.heap.objs.size l hne items;have hsz:∀o:Lo,(s.heap.push o).objs.size=s.heap.objs.size+1:=λo=>by simp[TK]
 refine Ju #[LO F.plain_min_loop _,vF (A:=A) (Ok:=λh=>∀b o,s.heap.get? b=ba o->h.get? b=ba o) W hcmp (λhm=>?_) (λh h' ho hk b o e=>?_) hn #[?_,?_] (λb o e=>Jq _ (Jq _ e)) (JJ _ rfl) λv h' tk hv hk=>?_]
 ·rcases JX.mp hm with e|hm
  ·exact absurd (show(s.heap.push _).objs.size=s.heap.objs.size from e) (by rw[hsz]; exact Nat.succ_ne_self _)
  ·have e:(s.heap.push _).objs.size=l:=JD.mp hm;rw[hsz]at e;exact absurd hlt (by rw[<- e]; exact Qw.mpr (MB _))
 ·have hb:=JN e;refine hk b o (λz=>?_) (λz=>?_) (ho b o e)
  ·rw[JD.mp z]at hb; exact K8 _ hb
  ·have z':b=(s.heap.push _).objs.size:=z;rw[hsz]at z';rw[z']at hb;exact absurd hb (Qw.mpr (MB _))
 ·exact#[_,Jq _ (JJ _ rfl),rfl,rfl]
 ·obtain⟨o,ho,hc⟩:=hl;exact#[o,Jq _ (Jq _ ho),hc]
 ·refine hQ v h' tk hv λb o e=>hk b o (λz=>?_) (λz=>?_) (Jq _ (Jq _ e))
  ·have hb:=JN e;rw[JD.mp z]at hb; exact K8 _ hb
  ·have hb:=JN e;have z':b=(s.heap.push _).objs.size:=z;rw[hsz]at z';rw[z']at hb;exact absurd hb (Qw.mpr (MB _))
end
open PySem.W (KasT kas_sort kas_ask kas_cmp kas_item kas_asc kas_desc kas_tail3 kas_descPart kas_count kas_place kas_bin kas_rev)
abbrev bF {α:Type}(lt:Jx->Jx->J6):KasT α->α
 | .ret a=>a
 | .ask i j k=>bF lt (k (lt i j))
abbrev OkK {α:Type}(n:Jx)(P:α->Prop):KasT α->Prop
 | .ret a=>P a
 | .ask i j k=>i < n/\j < n/\∀b,OkK n P (k b)
def pT {α:Type}{n:Jx}{P:α->Prop}{lt:Jx->Jx->J6}:∀(t:KasT α),OkK n P t->P (bF lt t)
 | .ret _,h=>h
 | .ask i j k,h=>pT (k (lt i j)) (h.2.2 _)
def n6 {α:Type}{n:Jx}{P:α->Prop}{lt:Jx->Jx->J6}{t:KasT α}(h:OkK n P t):P (bF lt t):=pT t h
def OkK.bind {α β:Type}{n:Jx}{P:α->Prop}{P':β->Prop}{f:α->KasT β}:∀ {t:KasT α},OkK n P t->(∀a,P a->OkK n P' (f a))->OkK n P' (t.bind f)
 | .ret a,h,hf=>hf a h
 | .ask _ _ _,h,hf=>#[h.1,h.2.1,λb=>OkK.bind (h.2.2 b) hf]
def mD {α:Type}{n:Jx}{P:α->Prop}{lt:Jx->Jx->J6}{cmp:Jx->Jx->(J6->Jt->Prop)->Jt->Prop}{Q:α->Jt->Prop}{s:Jt}(hc:∀i j,i < n->j < n->∀C:J6->Jt->Prop,C (lt i j) s->cmp i j C s) :
  ∀ {t:KasT α},OkK n P t->Q (bF lt t) s->t.kasWp cmp Q s
 | .ret _,_,h=>h
 | .ask i j k,h,hq=>hc i j h.1 h.2.1 _ (mD hc (h.2.2 _) hq)
abbrev Pm (n:Jx)(p:J8 Jx):Prop:=p.toList.Perm (JW n)
def Pm.size {n:Jx}{p:J8 Jx}(h:Pm n p):p.size=n:=by rw[<- JS,h.length_eq,J7]
def Pm.lt {n:Jx}{p:J8 Jx}(h:Pm n p)(hn:0 < n)(i:Jx):p.getD i 0 < n:=by
 by_cases hi:i < p.size
 ·have e:p.getD i 0=p[i]:=by simp[NF,hi]
  rw[e];have:p[i]∈p.toList:=by simp
  exact JQ.mp (h.mem_iff.mp this)
 ·have e:p.getD i 0=0:=by simp[NF,hi]
  rw[e]; exact hn
def Pm.rev {n:Jx}{p:J8 Jx}(h:Pm n p)(i j:Jx):Pm n (kas_rev p i j):=(OH.mp (mirror_perm p i j _)).trans h
def Pm.bub {n:Jx}{p:J8 Jx}(h:Pm n p)(i j:Jx):Pm n (bubble p i j):=(OH.mp (bubble_perm p i j)).trans h
section
variable{n:Jx}(hn:0 < n)
include hn
def r6 {p:J8 Jx}(h:Pm n p):∀(f m:Jx),OkK n (λ_=>Qo) (kas_asc p f m)
 | 0,_=>trivial
 | f+1,m=>#[h.lt hn _,h.lt hn _,λb=>by
  show OkK n _ (if b=true then _ else _)
  split
  ·trivial
  ·exact r6 h f (m+1)]
def ke:∀(f:Jx) (p:J8 Jx) (m q:Jx),Pm n p->OkK n (λr=>Pm n r.1) (kas_desc f p m q)
 | 0,p,m,q,h=>h
 | f+1,p,m,q,h=>#[h.lt hn _,h.lt hn _,λb=>by
  show OkK n _ (if b=true then _ else _)
  split
  ·split
   ·exact ke f _ _ _ (h.rev _ _)
   ·exact ke f _ _ _ h
  ·refine#[h.lt hn _,h.lt hn _,λc=>?_]
   show OkK n _ (if c=true then _ else _)
   split
   ·exact h
   ·exact ke f _ _ _ h]
def tQ {p:J8 Jx}(h:Pm n p)(m k:Jx):OkK n (λr=>Pm n r.2) (kas_tail3 m k p):=by
 unfold kas_tail3;exact OkK.bind (r6 hn (h.rev 0 m) _ _) λa _=>h.rev 0 m
def jO {p:J8 Jx}(h:Pm n p)(m k:Jx):OkK n (λr=>Pm n r.2) (kas_descPart m k p):=by
 unfold kas_descPart;refine OkK.bind (ke hn _ _ _ _ h) λr hr=>?_
 split
 ·exact tQ hn (hr.rev _ _) _ _
 ·exact tQ hn hr _ _
def xO {p:J8 Jx}(h:Pm n p)(k:Jx):OkK n (λr=>Pm n r.2) (kas_count k p):=by
 unfold kas_count;refine OkK.bind (r6 hn h _ _) λm _=>?_
 split
 ·exact h
 ·split
  ·refine#[h.lt hn _,h.lt hn _,λc=>?_]
   show OkK n _ (if c=true then _ else _)
   split
   ·exact h
   ·exact jO hn (h.rev _ _) _ _
  ·exact jO hn h _ _
def kQ {p:J8 Jx}(h:Pm n p)(k:Jx):∀(f l r:Jx),OkK n (λ_=>Qo) (kas_place p k f l r)
 | 0,_,_=>trivial
 | f+1,l,r=>by
  unfold kas_place;split
  ·trivial
  ·refine#[h.lt hn _,h.lt hn _,λc=>?_]
   show OkK n _ (if c=true then _ else _)
   split
   ·exact kQ h k f _ _
   ·exact kQ h k f _ _
def xP:∀(f:Jx) (p:J8 Jx) (k:Jx),Pm n p->OkK n (Pm n) (kas_bin f p k)
 | 0,p,k,h=>h
 | f+1,p,k,h=>by
  unfold kas_bin;exact OkK.bind (kQ hn h k _ _ _) λl _=>xP f _ _ (h.bub _ _)
def kh:OkK n (Pm n) (kas_sort n):=by
 unfold kas_sort;refine OkK.bind (xO hn (by unfold Pm; simp) _) λr hr=>?_
 split
 ·exact xP hn _ _ _ hr
 ·exact hr
end
section
variable{prog:Kh}{w:Km}{A:Kk}{E:Jr->Jt->Prop}{s:Jt}{vs:Jn Jr}
abbrev du (lt:Jx->Jx->J6){β:Type}(d:β)(vs:Jn β):Jn β:=if vs.length < 2 then vs else(bF lt (kas_sort vs.length)).toList.map λi=>vs.getD i d
def pU {lt:Jx->Jx->J6}{β:Type}{d:β}{vs:Jn β}:(du lt d vs).length=vs.length:=by
 unfold du;split
 ·rfl
 ·rw[Jp,JS,(n6 (lt:=lt) (kh (n:=vs.length) ∅)).size]
def mE {a:JA}{n:Jx}{lt:Jx->Jx->J6}{κ:O6}{P:TJ->Jt->Prop}(ho:s.heap.get? a=ba (seqObj "list" vs.toArray n))(h64:vs.length < 64)
  (hkind:2<=vs.length->∀h',(∀b o,b≠a->s.heap.get? b=ba o->h'.get? b=ba o)->∀Q:O6->Jt->Prop,Q κ { s with heap:=h' }->wpAny (model prog w) A (keyKind' vs.toArray) Q (λ_ _=>K5) { s with heap:=h' })
  (hlt:2<=vs.length->∀h',(∀b o,b≠a->s.heap.get? b=ba o->h'.get? b=ba o)->∀i j,i < vs.length->j < vs.length->∀Q:J6->Jt->Prop,Q (lt i j) { s with heap:=h' }->
   wpAny (model prog w) A (keyLt' κ (vs.getD i KA) (vs.getD j KA)) Q (λ_ _=>K5) { s with heap:=h' })
  (h:∀h' c,(∀b o,b≠a->s.heap.get? b=ba o->h'.get? b=ba o)->h'.get? a=ba (seqObj "list" (du lt KA vs).toArray c)->P (.done (.ret .none)) { s with heap:=h' }) :
  wpAny (model prog w) A (MM.«list.sort» #[[.ref a],[]]) P E s:=by
 have ha:a < s.heap.objs.size:=JN ho;obtain⟨e1,ho1⟩ : ∃e1,(s.heap.update a (Ld λ_=>(#[]:J8 Jr))).get? a=ba (seqObj "list" #[] e1):=#[_,Pw ho λ_=>#[]]
 have keep:∀b o,b≠a->s.heap.get? b=ba o->(((s.heap.update a (Ld λ_=>(#[]:J8 Jr))).push (seqObj "tuple" vs.toArray 0)).push (seqObj "list" #[] 0)).get? b=ba o:=λb o hb e=>
  Jq _ (Jq _ ((Nv _ _ _ _ hb).trans e))
 have ho3:(((s.heap.update a (Ld λ_=>(#[]:J8 Jr))).push (seqObj "tuple" vs.toArray 0)).push (seqObj "list" #[] 0)).get? a=ba (seqObj "list" #[] e1):=Jq _ (Jq _ ho1)
 have fin:∀(out:Jn Jr),out.length=vs.length->out=du lt KA vs->P (.done (.ret .none)) { s with heap:=(((s.heap.update a (Ld λ_=>(#[]:J8 Jr))).push (seqObj "tuple" vs.toArray 0)).push (seqObj "list" #[] 0)).update a (Ld λ_=>out.toArray) }:=λout hl e=>by
  obtain⟨c2,hc2⟩ : ∃c2,((((s.heap.update a (Ld λ_=>(#[]:J8 Jr))).push (seqObj "tuple" vs.toArray 0)).push (seqObj "list" #[] 0)).update a (Ld λ_=>out.toArray)).get? a=ba (seqObj "list" out.toArray c2):=#[_,Pw ho3 λ_=>out.toArray]
  exact h _ c2 (λb o hb q=>(Nv _ _ _ _ hb).trans (keep b o hb q)) (e ▸ hc2)
 rw[list_sort_plain];refine Jo (QY ho rfl ?_);refine Jo (O2 ho rfl ?_ (by rw[JM,Ky]; omega) (Lj _))
 refine Jo (RA ho1 rfl ?_);refine Jo (OB ?_ (by show vs.length<=_; rw[Ky]; omega))
 refine Jo (O3 ?_ (Lj _));refine KR ?_;show wpAny (model prog w) A _ P E { s with heap:=((s.heap.update a (Ld λ_=>(#[]:J8 Jr))).push (seqObj "tuple" vs.toArray 0)).push (seqObj "list" #[] 0) }
 dsimp only
 by_cases h2:vs.length < 2
 ·rw[JZ (by rw[JM]; exact h2),JZ (by rw[JM]; exact h2)]
  refine Jo (Ju (Jo ?_));rw[StateT.run_pure];refine Ju ?_;dsimp only;refine Jo (RA ho3 rfl ?_);have hs:((arrOf (SortSt.mk' general' (vs.toArray.zip vs.toArray) #[] 7 gV)).map (·.2))=vs.toArray:=by
   show(vs.toArray.zip vs.toArray).map (·.2)=vs.toArray
   apply Array.toList_inj.mp;rw[O7,Array.toList_zip];exact List.map_snd_zip (JB _)
  rw[hs];refine Jo (O2 ho3 rfl ?_ (Lj _) (by rw[JM,Ky]; omega))
  simp only[QZ,J5,KZ];exact Ju (fin vs rfl (by unfold du; rw[JZ h2]))
 ·have hn2:¬ vs.toArray.size < 2:=by rw[JM]; exact h2
  have h2':2<=vs.length:=∅
  rw[Kb hn2,Kb hn2];refine Jo (LH (hkind h2' _ keep (λ(k:O6) (s':Jt)=>k=κ/\s'={ s with heap:=((s.heap.update a (Ld λ_=>(#[]:J8 Jr))).push (seqObj "tuple" vs.toArray 0)).push (seqObj "list" #[] 0) }) #[rfl,rfl]) ?_ λ_ _ x=>x.elim)
  rintro _ _ ⟨rfl,rfl⟩;refine Jo (LH (PySem.W.kat_run (Q:=λst' s'=>∃p:J8 Jx,p.size=vs.length/\arrOf st'=p.map (kas_item (vs.toArray.zip vs.toArray))/\failedOf st'=gV/\p=bF lt (kas_sort vs.length)/\s'={ s with heap:=((s.heap.update a (Ld λ_=>(#[]:J8 Jr))).push (seqObj "tuple" vs.toArray 0)).push (seqObj "list" #[] 0) })
   (G:=λp s'=>p=bF lt (kas_sort vs.length)/\s'={ s with heap:=((s.heap.update a (Ld λ_=>(#[]:J8 Jr))).push (seqObj "tuple" vs.toArray 0)).push (seqObj "list" #[] 0) }) rfl h2' h64 (λp' st' s' a1 a2 a3 a4=>#[p',a1,a2,a3,a4])
   (mD (lt:=lt) (λi j hi hj C hC=>hlt h2' _ keep i j hi hj C hC) (kh (n:=vs.length) ∅) #[rfl,rfl])) ?_ λ_ _ e=>e)
  rintro⟨⟨⟩,st'⟩ s' ⟨p,hp,har,hf,ep,rfl⟩;dsimp only;have hout:=PySem.W.kat_snds rfl har;have hsz:(p.toList.map λi=>vs.getD i KA).length=vs.length:=by rw[Jp,JS,hp]
  rw[hout];refine Jo (RA ho3 rfl ?_);refine Jo (O2 ho3 rfl ?_ (Lj _) (by rw[JM,hsz,Ky]; omega))
  rw[hf];simp only[QZ,J5,KZ];exact Ju (fin _ hsz (by unfold du; rw[Kb h2,ep]))
def vG {x:Jr}{lt:Jx->Jx->J6}{κ:O6}{Q:Jr->Jt->Prop}(h64:vs.length < 64)
  (hcol:∀Q':Jn Jr->Jt->Prop,(∀h' tk,(∀b o,s.heap.get? b=ba o->h'.get? b=ba o)->s.heap.objs.size<=h'.objs.size->Q' vs { s with heap:=h',toks:=tk })->wpAny (model prog w) A.in1 (collect x) Q' E s)
  (hkind:2<=vs.length->∀h' tk,(∀b o,s.heap.get? b=ba o->h'.get? b=ba o)->∀Q:O6->Jt->Prop,Q κ { s with heap:=h',toks:=tk }->wpAny (model prog w) A.in1.in1 (keyKind' vs.toArray) Q (λ_ _=>K5) { s with heap:=h',toks:=tk })
  (hlt:2<=vs.length->∀h' tk,(∀b o,s.heap.get? b=ba o->h'.get? b=ba o)->∀i j,i < vs.length->j < vs.length->∀Q:J6->Jt->Prop,Q (lt i j) { s with heap:=h',toks:=tk }->
   wpAny (model prog w) A.in1.in1 (keyLt' κ (vs.getD i KA) (vs.getD j KA)) Q (λ_ _=>K5) { s with heap:=h',toks:=tk })
  (h:∀D h' tk c,(∀b o,s.heap.get? b=ba o->h'.get? b=ba o)->s.heap.objs.size<=D->h'.get? D=ba (seqObj "list" (du lt KA vs).toArray c)->Q (.ref D) { s with heap:=h',toks:=tk }) :
  wpAny (model prog w) A (call (.builtin "sorted") [x]) Q E s:=by
 refine No SZ SI SJ (SK _) ?_;unfold MM.«sorted»;refine Jo (m:=checkCount "sorted" 1 1 _) (Ju ?_);refine Jo (hcol _ λh1 tk1 hk1 hle=>?_)
 refine Jo (O3 ?_ (by rw[Ky]; omega))
 have hoL:(h1.push (seqObj "list" vs.toArray 0)).get? h1.objs.size=ba (seqObj "list" vs.toArray 0):=JJ _ rfl;have kp:∀b o,s.heap.get? b=ba o->(h1.push (seqObj "list" vs.toArray 0)).get? b=ba o:=λb o e=>Jq _ (hk1 b o e)
 have hne:∀b o,s.heap.get? b=ba o->b≠h1.objs.size:=λb o e=>J0 (J4 (JN e) hle)
 show wpAny _ _ _ _ _ { s with heap:=h1.push (seqObj "list" vs.toArray 0),toks:=tk1 }
 refine Jo (KR (KL R0 #[_,hoL,rfl] RG ?_ (R1 _)));refine mE (s:={ s with heap:=h1.push (seqObj "list" vs.toArray 0),toks:=tk1 }) (lt:=lt) (κ:=κ) hoL h64 (λh2 h' hk Q hq=>hkind h2 h' tk1 (λb o e=>hk b o (hne b o e) (kp b o e)) Q hq)
  (λh2 h' hk i j hi hj Q hq=>hlt h2 h' tk1 (λb o e=>hk b o (hne b o e) (kp b o e)) i j hi hj Q hq) λh' c hk hD=>?_
 exact#[_,rfl,Ju #[_,rfl,h _ h' tk1 c (λb o e=>hk b o (hne b o e) (kp b o e)) hle hD]]
end
end Mi
namespace Mi
open PySem PySem.Spec PyProof.Rows L2
abbrev fP:T->Lc
 | .int _=>"int"|.str _=>"str"|.tup _=>"tuple"
abbrev be:T->Jw T
 | .tup (x::_)=>ba x
 | _=>gV
abbrev r8 (ks:Jn T):Jw Jx:=
 if ks.all (λk=>fP k == "int")then ba 0
 else if ks.all (λk=>fP k == "str")then ba 1
 else if ks.all (λk=>(be k).any λf=>fP f == "int")then ba 2
 else if ks.all (λk=>(be k).any λf=>fP f == "str")then ba 3
 else if ks.all (λk=>(be k).any λf=>fP f == "tuple")then ba 4
 else gV
abbrev tR:Jx->O6
 | 0=>oneType'|1=>oneType'|2=>tuples' true|3=>tuples' true|_=>tuples' false
abbrev eE (ks:Jn T):J6:=ks.all λx=>ks.all λy=>(gC x y).isSome
abbrev lS (ks:Jn T)(i j:Jx):J6:=(gC (ks.getD i (.int 0)) (ks.getD j (.int 0))).getD false
def dA {ks:Jn T}(h:eE ks=true){i j:Jx}(hi:i < ks.length)(hj:j < ks.length):gC (ks[i]) (ks[j])=ba (lS ks i j):=by
 unfold eE at h;rw[JP]at h;have h1:=h ks[i] (Kq hi);rw[JP]at h1;have h2:=h1 ks[j] (Kq hj);unfold lS;rw[show ks.getD i (.int 0)=ks[i] by simp[hi],show ks.getD j (.int 0)=ks[j] by simp[hj]]
 obtain⟨b,hb⟩:=KD.mp h2;rw[hb]; rfl
abbrev IQ (c:Jx)(x y:T):Prop:=match c with|0=>fP x = "int"/\fP y = "int"|1=>fP x = "str"/\fP y = "str"|2=>∃f g,be x=ba f/\be y=ba g/\fP f = "int"/\fP g = "int"|3=>∃f g,be x=ba f/\be y=ba g/\fP f = "str"/\fP g = "str"|_=>∃f g,be x=ba f/\be y=ba g
section
variable{prog:Kh}{w:Km}{A:Kk}{E:Jr->Jt->Prop}{s:Jt}
def tU {h:Kw}{k:T}{v:Jr}(x:IsT h k v):So (model prog w) h (typeOf v) (.type (fP k)):=by
 cases x with
 | int=>exact .now
 | str=>exact .now
 | tup a c d t=>exact c ▸ ((TM a).andThen .now:So (model prog w) h (typeOf (.ref _)) _)
def IsTs.mem {h:Kw}:∀ {ks:Jn T} {vs:Jn Jr},IsTs h ks vs->∀v∈vs,∃k∈ks,IsT h k v
 | _,_,.cons a b,v,hv=>by
  rcases JX.mp hv with rfl|hv
  ·exact#[_,.head _,a]
  ·obtain⟨k,hk,q⟩:=IsTs.mem b v hv;exact#[k,.tail _ hk,q]
def mF {h:Kw}{p:T->J6}:∀ {ks:Jn T} {vs:Jn Jr},IsTs h ks vs->ks.all (λk=>(be k).any p)=true->∃fs,PySem.W.KatTups h vs fs/\fs.length=vs.length/\∀v∈fs,∃k,p k=true/\IsT h k v
 | _,_,.nil,_=>#[[],.nil,rfl,λv hv=>nomatch hv]
 | k::ks,_,.cons a b,hp=>by
  rw[KJ,Jv]at hp;obtain⟨fs,h1,h2,h3⟩:=mF b hp.2;cases a with
  | int=>simp[be]at hp
  | str=>simp[be]at hp
  | @tup kk ad o items n a1 c1 d1 t1=>
   cases kk with
   | nil=>simp[be]at hp
   | cons x xs=>
    have hx:p x=true:=by simpa [be]using hp.1
    generalize hit:items.toList=its at t1;cases t1 with
    | @cons _ u _ us q1 q2=>
     refine#[u::fs,.cons a1 c1 d1 (by rw[<- K2,hit]; rfl) h1,by simp[h2],λv hv=>?_]
     rcases JX.mp hv with rfl|hv
     ·exact#[x,hx,q1]
     ·exact h3 v hv
def xQ {ks:Jn T}{vs:Jn Jr}{c:Jx}{Q:O6->Jt->Prop}(h:IsTs s.heap ks vs)(h2:2<=vs.length)(hc:r8 ks=ba c)(hq:Q (tR c) s):wpAny (model prog w) A (keyKind' vs.toArray) Q E s:=by
 have one:∀ty:Lc,(Lw ty != Lw "tuple")=true->ks.all (λk=>fP k==ty)=true->Q oneType' s->wpAny (model prog w) A (keyKind' vs.toArray) Q E s:=λty hty hall hq=>
  PySem.W.kas_kind (T:=.type ty) h2 (λv hv=>by
   obtain⟨k,hk,x⟩:=h.mem v hv;have:=eq_of_beq (JP.mp hall k hk);exact this ▸ tU x) hty (by simp) hq
 have tup:∀ty:Lc,ks.all (λk=>(be k).any λf=>fP f==ty)=true->Q (tuples' (Lw ty != Lw "tuple")) s->wpAny (model prog w) A (keyKind' vs.toArray) Q E s:=λty hall hq=>by
  obtain⟨fs,h1,h3,h4⟩:=mF h hall;exact PySem.W.kat_kind (T:=.type ty) h1 ∅ (λv hv=>by
   obtain⟨k,hk,x⟩:=h4 v hv;have:=eq_of_beq hk;exact this ▸ tU x) (by simp) hq
 unfold r8 at hc;split at hc
 ·cases hc; exact one "int" #v[] (by assumption) hq
 ·split at hc
  ·cases hc; exact one "str" #v[] (by assumption) hq
  ·split at hc
   ·cases hc; exact tup "int" (by assumption) hq
   ·split at hc
    ·cases hc; exact tup "str" (by assumption) hq
    ·split at hc
     ·cases hc; exact tup "tuple" (by assumption) hq
     ·cases hc
def pV {b:J6}{Q:J6->Jt->Prop}{d:Jx}(hu:A.units+d < cLine):∀(xs ys:Jn T) (us vs:Jn Jr) (i:Jx) (k:J6),T.depths xs<=d->T.depths ys<=d->IsTs s.heap xs us->IsTs s.heap ys vs->c7 xs ys=ba k->
  (b=true->i=0->∀x y,xs.head?=ba x->ys.head?=ba y->(fP x = "int"/\fP y = "int")\/(fP x = "str"/\fP y = "str"))->Q k s->PySem.W.KatLex prog w A b (decide (us.length < vs.length)) Q (us.zip vs) i s
 | [],[],_,_,i,k,_,_,h1,h2,e,hb,hq=>by cases h1; cases h2; cases e; exact Px (by simpa using hq)
 | [],y::ys,_,_,i,k,_,_,h1,h2,e,hb,hq=>by cases h1; cases h2; cases e; exact Px (by simpa using hq)
 | x::xs,[],_,_,i,k,_,_,h1,h2,e,hb,hq=>by cases h1; cases h2; cases e; exact Px (by simpa using hq)
 | x::xs,y::ys,_,_,i,k,d1,d2,h1,h2,e,hb,hq=>by
  simp only[T.depths]at d1 d2;cases h1 with
  | @cons _ u _ us p1 q1=>
   cases h2 with
   | @cons _ v _ vs p2 q2=>
    have he:=vB d x y _ _ A s ∅ p1 p2 hu ∅
    rw[M1];refine PySem.W.kat_cons (he prog w _ _ ?_);simp only[c7]at e;have hlen:decide ((u::us).length < (v::vs).length)=decide (us.length < vs.length):=by simp
    rw[hlen]
    by_cases hxy:x=y
    ·rw[JZ hxy]at e;rw[Lg hxy];exact PySem.W.kat_yes (pV hu xs ys us vs (i+1) k ∅ ∅ q1 q2 e (λ_ z=>absurd z (Rj _)) hq)
    ·rw[Kb hxy]at e;rw[Ki hxy];refine PySem.W.kat_no ?_
     by_cases hb0:b=true/\i=0
     ·obtain⟨rfl,rfl⟩:=hb0;rcases hb rfl rfl x y rfl rfl with⟨hx,hy⟩|⟨hx,hy⟩
      ·cases p1 with
       | int=>cases p2 with
        | int=>cases e; exact oneLt_int hq
        | _=>exact absurd hy (by simp[fP])
       | _=>exact absurd hx (by simp[fP])
      ·cases p1 with
       | str=>cases p2 with
        | str=>cases e; exact oneLt_str hq
        | _=>exact absurd hy (by simp[fP])
       | _=>exact absurd hx (by simp[fP])
     ·have hf:(b&&i==0)=false:=by
       cases b with
       | false=>rfl
       | true=>
        have:i≠0:=λz=>hb0 #[rfl,z]
        simpa using this
      rw[hf];exact PySem.W.kat_one _ _ ((FK d x y _ _ A s k ∅ ∅ p1 p2 hu e) prog w _ _ hq)
def tV {c d:Jx}{x y:T}{u v:Jr}{k:J6}{Q:J6->Jt->Prop}(hu:A.units+d < cLine)(d1:x.depth<=d)(d2:y.depth<=d)(h1:IsT s.heap x u)(h2:IsT s.heap y v)(e:gC x y=ba k)
  (hc:IQ c x y)
  (hq:Q k s):wpAny (model prog w) A (keyLt' (tR c) u v) Q E s:=by
 have tup:∀b:J6,(∃f g,be x=ba f/\be y=ba g/\(b=true->(fP f = "int"/\fP g = "int")\/(fP f = "str"/\fP g = "str")))->wpAny (model prog w) A (keyLt' (tuples' b) u v) Q E s:=by
  rintro b ⟨f,g,hf,hg,hb⟩;cases h1 with
  | int=>cases hf
  | str=>cases hf
  | @tup xs a o items n a1 c1 e1 t1=>
   cases h2 with
   | int=>cases hg
   | str=>cases hg
   | @tup ys a' o' items' n' a2 c2 e2 t2=>
    simp only[T.depth]at d1 d2;refine PySem.W.kat_lt a1 e1 a2 e2 ?_;have:=pV (prog:=prog) (w:=w) (b:=b) (Q:=Q) hu xs ys items.toList items'.toList 0 k ∅ ∅ t1 t2 e (λhb' _ p q hp hq'=>by
     cases xs with
     | nil=>cases hp
     | cons x0 xs=>cases ys with
      | nil=>cases hq'
      | cons y0 ys=>cases hp; cases hq'; cases hf; cases hg; exact hb hb') hq
    simpa using this
 match c,hc with
 | 0,#[hx,hy]=>
  cases h1 with
  | int=>cases h2 with
   | int=>cases e; exact PySem.W.kat_lt_int hq
   | _=>exact absurd hy (by simp[fP])
  | _=>exact absurd hx (by simp[fP])
 | 1,#[hx,hy]=>
  cases h1 with
  | str=>cases h2 with
   | str=>cases e; exact PySem.W.kas_lt_str hq
   | _=>exact absurd hy (by simp[fP])
  | _=>exact absurd hx (by simp[fP])
 | 2,#[f,g,h1',h2',h3,h4]=>exact tup true #[f,g,h1',h2',λ_=>.inl #[h3,h4]]
 | 3,#[f,g,h1',h2',h3,h4]=>exact tup true #[f,g,h1',h2',λ_=>.inr #[h3,h4]]
 | n+4,#[f,g,h1',h2']=>exact tup false #[f,g,h1',h2',λz=>nomatch z]
end
def tW {ks:Jn T}{c:Jx}(h:r8 ks=ba c){x y:T}(hx:x∈ks)(hy:y∈ks) :
  IQ c x y:=by
 have one:∀ {ty:Lc},ks.all (λk=>fP k==ty)=true->fP x=ty/\fP y=ty:=λha=>#[eq_of_beq (JP.mp ha x hx),eq_of_beq (JP.mp ha y hy)]
 have fst:∀ {ty:Lc},ks.all (λk=>(be k).any λf=>fP f==ty)=true->∃f g,be x=ba f/\be y=ba g/\fP f=ty/\fP g=ty:=λ{ty} ha=>by
  have h1:=JP.mp ha x hx;have h2:=JP.mp ha y hy;cases e1:be x with
  | none=>rw[e1]at h1; cases h1
  | some f=>
   cases e2:be y with
   | none=>rw[e2]at h2; cases h2
   | some g=>
    rw[e1]at h1; rw[e2]at h2
    exact#[f,g,rfl,rfl,eq_of_beq (by simpa using h1),eq_of_beq (by simpa using h2)]
 unfold r8 at h;split at h
 ·cases h; exact one (by assumption)
 ·split at h
  ·cases h; exact one (by assumption)
  ·split at h
   ·cases h; exact fst (by assumption)
   ·split at h
    ·cases h; exact fst (by assumption)
    ·split at h
     ·cases h;obtain⟨f,g,h1,h2,_⟩:=fst (by assumption)
      exact#[f,g,h1,h2]
     ·cases h
abbrev dB (S:aa):W->Jw (Jn W)
 | .tup xs=>ba xs
 | .ref i=>match fT S i with
  | some xs=>ba xs
  | none=>(jN S i).map λU=>U.map λp=>p.1.w
 | _=>gV
abbrev bT:Jx:=8
abbrev ie (ks:Jn T):J6:=decide (ks.length < 64)&&decide (T.depths ks<=bT)&&(decide (ks.length < 2)||((r8 ks).isSome&&eE ks))
abbrev fJ (xs:Jn W)(S:aa):Jw (W×aa):=match xs with
 | [x]=>match dB S x with
  | some ws=>match W.ts ws with
   | some ks=>if ie ks then ba (.ref S.length,S++[.lst (du (lS ks) .non ws)])else gV
   | none=>gV
  | none=>gV
 | _=>gV
abbrev mG (xs:Jn W)(S:aa):Jw (W×aa):=match xs with
 | [.ref i]=>match jN S i with
  | some U=>ba (.ref S.length,S++[.lst (U.map λp=>p.1.w)])
  | none=>iJ [.ref i] S
 | xs=>iJ xs S
abbrev r9 (xs:Jn W)(S:aa):Jw (W×aa):=match xs with
 | [.ref i]=>match jN S i with
  | some U=>ba (.int U.length,S)
  | none=>rR [.ref i] S
 | xs=>rR xs S
abbrev ig (ks:Jn T):Jx:=argBest (lS ks) (ks.length - 1)
abbrev xR (xs:Jn W)(S:aa):Jw (W×aa):=match xs with
 | [.ref i]=>match fT S i with
  | some ws=>match W.ts ws with
   | some ks=>if T.depths ks<=bT/\eE ks=true then(ws[ig ks]?).map λw=>(w,S)else gV
   | none=>gV
  | none=>gV
 | _=>gV
abbrev ii:Jn W->Jw (Jn J6)
 | []=>ba []
 | .bl b::ws=>(ii ws).map (b :: ·)
 | _::_=>gV
abbrev DD (xs:Jn W)(S:aa):Jw (W×aa):=match xs with
 | [.ref i]=>match fT S i with
  | some ws=>(ii ws).map λbs=>(.bl (bs.all id),S)
  | none=>gV
 | _=>gV
section
variable{X:Cx}{J:Jn (JA×Lo)}{Y:L2.St}{H:Hp}{s:Jt}{A:Jn JA}{S:aa}
def RelL.pick {K:JH}{ws:Jn W}{vs:Jn V}(r:RelL K A H ws vs)(d:W)(d':V):∀(is:Jn Jx),(∀i∈is,i < ws.length)->RelL K A H (is.map λi=>ws.getD i d) (is.map λi=>vs.getD i d')
 | [],_=>.nil
 | i::is,h=>by
  have hi:=h i (.head _);obtain⟨v,h1,h2⟩:=r.get (Jz hi);refine .cons ?_ (RelL.pick r d d' is λj hj=>h j (.tail _ hj))
  have e1:ws.getD i d=ws[i]:=by simp[hi]
  have e2:vs.getD i d'=v:=by simp[h1]
  show Rel K A H (ws.getD i d) (vs.getD i d');rw[e1,e2]; exact h2
def Vals.pick {vs:Jn V}{us:Jn Jr}(r:Vals vs us)(d:V)(d':Jr):∀(is:Jn Jx),(∀i∈is,i < vs.length)->Vals (is.map λi=>vs.getD i d) (is.map λi=>us.getD i d')
 | [],_=>.nil
 | i::is,h=>by
  have hi:=h i (.head _);obtain⟨v,h1,h2⟩:=L2.Vals.get r (Jz hi);refine .cons ?_ (Vals.pick r d d' is λj hj=>h j (.tail _ hj))
  have e1:vs.getD i d=vs[i]:=by simp[hi]
  have e2:us.getD i d'=v:=by simp[h1]
  show L2.RelV (vs.getD i d) (us.getD i d');rw[e1,e2]; exact h2
def ki {n:Jx}{lt:Jx->Jx->J6}(hn:0 < n):∀i∈(bF lt (MU n)).toList,i < n:=λi hi=>JQ.mp ((n6 (lt:=lt) (kh hn)).mem_iff.mp hi)
def xS {K:JH}{lt:Jx->Jx->J6}{ws:Jn W}{vs:Jn V}(r:RelL K A H ws vs):RelL K A H (du lt .non ws) (du lt .non vs):=by
 unfold du;rw[r.length];split
 ·exact r
 ·exact r.pick _ _ _ λi hi=>by rw[r.length]; exact ki ∅ i hi
def vH {lt:Jx->Jx->J6}{vs:Jn V}{us:Jn Jr}(r:Vals vs us):Vals (du lt .non vs) (du lt .none us):=by
 unfold du;rw[L2.Vals.length r];split
 ·exact r
 ·exact Vals.pick r _ _ _ λi hi=>by rw[L2.Vals.length r]; exact ki ∅ i hi
def pW {prog:Kh}{w:Km}{B:Kk}{E:Jr->Jt->Prop}{l:JA}{vs:Jn Jr}{Q:Jn Jr->Jt->Prop}(hl:QE s.heap l vs.toArray)(hsz:vs.length<=sizeLine)
  (h:∀h' tk,(∀b o,s.heap.get? b=ba o->h'.get? b=ba o)->s.heap.objs.size<=h'.objs.size->Q vs { s with heap:=h',toks:=tk }):wpAny (model prog w) B (collect (.ref l)) Q E s:=by
 obtain⟨o,ho,hc,n,hd⟩:=id hl;unfold collect;refine Jo (NP (KU entry_proto_collect' ?_));show wpAny _ _ (do again (.builtin "list.__iadd__" #[[<- newList [],.ref l],[]])) _ _ s
 refine Jo (O3 (Ju #[Qx _ (by decide +kernel),KU entry_list_iadd' ?_]))
 show wpAny _ _ (Ln (.ref s.heap.objs.size) (.ref l) (.ref s.heap.objs.size)) _ _ { s with heap:=s.heap.push (seqObj "list" #[] 0) }
 unfold Ln;have ho':(s.heap.push (seqObj "list" #[] 0)).get? l=ba o:=Jq _ ho;refine Jo (MZ (T:="tuple") #[o,ho',hc] ?_);have ht:(Lw "tuple" == Lw "tuple")=true:=by rfl
 rw[JZ (by rw[ht]; simp)]
 refine Jo (QY ho' hd ?_);refine Jo (QY (xs:=#[]) (n:=0) (JJ _ rfl) rfl ?_);rw[Kb (by simp)]
 refine Jo (O2 (xs:=#[]) (n:=0) (JJ _ rfl) rfl ?_ (Lj _) (by show(#[]++vs.toArray).size<=sizeLine+1; simp only[Array.size_append,JM,LV]; omega))
 refine Ju ?_;show wpAny (model prog w) B (do
   let o <- load s.heap.objs.size
   match o.data with
   | .seq xs _=>pure xs.toList
   | _=>unsupported "internal:collect") Q E { s with heap:=(s.heap.push (seqObj "list" #[] 0)).update s.heap.objs.size (Ld (· ++ vs.toArray)) }
 refine Jo (Pc (Pw (JJ _ rfl) _) ?_);show wpAny _ _ (pure ((#[]:J8 Jr)++vs.toArray).toList) Q E _;rw[show((#[]:J8 Jr)++vs.toArray).toList=vs by simp]
 refine Ju (h _ s.toks (λb o' e=>(Nv _ _ _ _ (J0 (JN e))).trans (Jq _ e)) ?_)
 rw[Rm,size_push'];exact MB _
def DicAt.raw {wd:Km}{a:JA}{xs:Jn (T×JA×Jr)}{h:Kw}(d:DicAt wd a xs h):∃es ep,RawD a es ep h/\es.toList=xs.map (xp wd):=
 let ⟨_,_,_,o,es,ep,h1,h2,h3,h4⟩:=d; #[es,ep,#[o,h1,h2,h3],h4]
def KRel.keysL {U:Jn (T×W)}{xs:Jn (T×JA×Jr)}(r:KRel X.K A H U xs):RelL X.K A H (U.map λp=>p.1.w) (xs.map λq=>V.ref q.2.1):=by
 unfold KRel at r
 induction r with
 | nil=>exact .nil
 | cons h t ih=>exact .cons h.2.2.2.1 ih
def mH (xs:Jn (T×JA×Jr)):Vals (xs.map λq=>V.ref q.2.1) (xs.map λq=>Kj q.2.1):=by
 induction xs with
 | nil=>exact .nil
 | cons x xs ih=>exact .cons rfl ih
def kR {wd:Km}{es:J8 L8}{xs:Jn (T×JA×Jr)}(he:es.toList=xs.map (xp wd)){acc:J8 Jr}(ha:Pi (λi v=>∃e,es[i]?=ba e/\e.key=v) acc es.size):acc.toList=xs.map λq=>Kj q.2.1:=by
 have hl:es.size=xs.length:=by rw[<- JS,he,Jp]
 apply LY
 ·rw[JS,ha.1,Jp,hl]
 ·intro i h1 h2;rw[JS]at h1;obtain⟨e,q1,q2⟩:=ha.2 i acc[i] (by simp[h1])
  rw[<- K2,he,Jy]at q1;rw[Jp]at h2;rw[Jz h2]at q1;simp only[Kv,Kf]at q1;subst q1;rw[O8,N7];exact q2.symm
def vI {x:W}{a:V}{u:Jr}{ws:Jn W}(hh:X.A.handled=gV)(I:Inv X J Y H s)(so:StoreOk X.w X.K A H S)(rx:Rel X.K A H x a)(ru:RelV a u)(e:dB S x=ba ws):∃vs us,RelL X.K A H ws vs/\Vals vs us/\us.length<=sizeLine/\
  ∀(B:Kk) (hB:B.handled=gV) (E:Jr->Jt->Prop) (Q':Jn Jr->Jt->Prop),(∀h' tk,(∀b o,s.heap.get? b=ba o->h'.get? b=ba o)->s.heap.objs.size<=h'.objs.size->Q' us { s with heap:=h',toks:=tk })->wpAny (model X.prog X.w) B (collect u) Q' E s:=by
 cases rx with
 | tup h1 r1=>
  cases e;obtain⟨its,rv,ht,hz⟩:=I.tuple h1;obtain rfl:u=Kj _:=ru;exact#[_,its,r1,rv,by rw[<- L2.Vals.length rv]; exact hz,λB hB E Q' h=>pW ht (by rw[<- L2.Vals.length rv]; exact hz) h]
 | ref ea=>
  simp only[dB]at e;split at e
  ·rename_i xs hx;cases e;obtain⟨vs,h1,r1⟩:=aZ so hx ea;obtain⟨its,rv,p,hz⟩:=I.list h1;obtain rfl:u=Kj _:=ru;refine#[_,its,r1,rv,by rw[<- L2.Vals.length rv]; exact hz,λB hB E Q' h=>collect_list p.isList (h _ s.toks (λb o' e=>(Nv _ _ _ _ (J0 (JN e))).trans (Jq _ e)) ?_) (by rw[<- L2.Vals.length rv]; exact hz)]
   rw[Rm,size_push'];exact MB _
  ·rw[Js]at e;obtain⟨U,hk,rfl⟩:=e;obtain⟨xs,rd,kr⟩:=fY so hk ea;have d:=cp I rd;obtain⟨es,ep,raw,he⟩:=d.raw;obtain rfl:u=Kj _:=ru;have hl:es.size=xs.length:=by rw[<- JS,he,Jp]
   refine#[_,_,kr.keysL,mH xs,by rw[Jp]; exact d.1,λB hB E Q' h=>pS (tP d.2.1) hB raw (by rw[hl]; exact d.1) λh' tk acc hk' hle ha=>?_]
   rw[kR he ha];exact h h' tk hk' hle
 | _=>cases e
def mI {h':Kw}{tk c:Jx}{D:JA}{ws:Jn W}{vs:Jn V}{us:Jn Jr}(I:Inv X J Y H s)(so:StoreOk X.w X.K A H S)(r:RelL X.K A H ws vs)(rv:Vals vs us)(hz:us.length<=sizeLine)(hk:∀b o,s.heap.get? b=ba o->h'.get? b=ba o)(hD:s.heap.objs.size<=D)
  (ho:h'.get? D=ba { cls:=.type "list",data:=.seq us.toArray c }):PostE X J Y A H (S++[.lst ws]) (.ref S.length) (.ref D) { s with heap:=h',toks:=tk }:=by
 have hn:H D=gV:=I.hok.fresh hD;refine#[.ref D,_,A++[D],I.laid (a:=D) (o:=.lst vs) (t':=tk) hk hD #[by rw[L2.Vals.length rv]; exact hz,us,c,rv,ho],rfl,cJ hn,so.push hn r,.ref ?_]
 rw[<- so.len]; simp
def og (hh:X.A.handled=gV)(hu:X.A.units+12 < cLine):LCall X (.builtin "sorted") fJ:=by
 intro J s Y H A S xs vs us w S' I so rl rv e;cases rl with
 | nil=>cases e
 | cons r t=>
  cases t with
  | cons _ _=>cases e
  | nil=>
   cases rv with
   | cons ru rv2=>
    cases rv2;simp only[fJ]at e;split at e
    ·rename_i ws hw;split at e
     ·rename_i ks hk;split at e
      ·rename_i hok;cases e;obtain⟨vs',us',r1,rv1,hz,hcol⟩:=vI hh I so r ru hw;simp only[ie,Jv,JL]at hok;obtain⟨⟨h64,hd⟩,hok⟩:=hok;have hws:T.ws ks=ws:=W.ts_w hk;have hT:IsTs s.heap ks us':=eD I ks (hws ▸ r1) rv1;have hl:us'.length=ks.length:=hT.length.symm;have sk:2<=us'.length->(r8 ks).isSome=true/\eE ks=true:=λh2=>by
        rcases LF _ _ ▸ hok with h|h
        ·simp only[JL]at h; omega
        ·simpa using h
       refine vG (vs:=us') (lt:=lS ks) (κ:=tR ((r8 ks).getD 0)) ∅ (λQ' hQ'=>hcol X.A.in1 hh _ Q' hQ') (λh2 h' tk hk' Q hq=>?_) (λh2 h' tk hk' i j hi hj Q hq=>?_) λD h' tk c hk' hD ho=>?_
       ·obtain⟨q1,q2⟩:=sk h2;obtain⟨c,hc⟩:=KD.mp q1;rw[hc]at hq;exact xQ (s:={ s with heap:=h',toks:=tk }) (hT.kept λb o _ e=>hk' b o e) h2 hc hq
       ·obtain⟨q1,q2⟩:=sk h2;obtain⟨c,hc⟩:=KD.mp q1;rw[hc];have hi':i < ks.length:=∅
        have hj':j < ks.length:=∅
        have g:=(hT.kept (h':=h') λb o _ e=>hk' b o e)
        have e1:us'.getD i KA=us'[i]:=by simp[hi]
        have e2:us'.getD j KA=us'[j]:=by simp[hj]
        rw[e1,e2];have b1:=b8 (ks:=ks) i hi';have b2:=b8 (ks:=ks) j hj';exact tV (s:={ s with heap:=h',toks:=tk }) (d:=bT) (c:=c) (by rw[aD,aD]; unfold bT; omega) ∅ ∅ (g.get i hi' hi) (g.get j hj' hj) (dA q2 hi' hj') (tW hc (Kq hi') (Kq hj')) hq
       ·exact mI I so (xS r1) (vH rv1) (by rw[pU]; exact hz) hk' hD ho
      ·cases e
     ·cases e
    ·cases e
def pX (hh:X.A.handled=gV):LCall X (.type "list") mG:=by
 intro J s Y H A S xs vs us w S' I so rl rv e
 by_cases hd:∃i U,xs=[.ref i]/\jN S i=ba U
 ·obtain⟨i,U,rfl,hk⟩:=hd;simp only[mG,hk]at e;cases e;cases rl with
  | cons r t=>
   cases t;cases rv with
   | cons ru rv2=>
    cases rv2;cases r with
    | ref ea=>
     obtain⟨xs,rd,kr⟩:=fY so hk ea;have d:=cp I rd;obtain⟨es,ep,raw,he⟩:=d.raw;obtain rfl:_=Kj _:=ru;have hl:es.size=xs.length:=by rw[<- JS,he,Jp]
     refine PySem.W.kdl_call (tP d.2.1) hh raw (by rw[hl]; exact d.1) λh' tk acc' c' hk' hD ha=>?_
     have ea':=kR he ha;refine mI (us:=acc'.toList) I so kr.keysL (ea' ▸ mH xs) (by rw[ea',Jp]; exact d.1) hk' (JB _) (c:=c') ?_
     simpa using hD
 ·have:mG xs S=iJ xs S:=by
   unfold mG;split
   ·rename_i i;split
    ·rename_i U hk;exact absurd #[i,U,rfl,hk] hd
    ·rfl
   ·rfl
  rw[this]at e;exact ic J s Y H A S xs vs us w S' I so rl rv e
end
open PySem.W (KasT kas_sort kas_asc kas_desc kas_tail3 kas_descPart kas_count kas_place kas_bin kas_rev)
def dW {α β:Type}{lt:Jx->Jx->J6}{f:α->KasT β}:∀t:KasT α,bF lt (t.bind f)=bF lt (f (bF lt t))
 | .ret _=>rfl
 | .ask i j k=>dW (k (lt i j))
structure Lin (n:Jx)(lt:Jx->Jx->J6):Prop where
 tr:∀i j k,i < n->j < n->k < n->lt i j=true->lt j k=true->lt i k=true
 as:∀i j,i < n->j < n->lt i j=true->lt j i=false
 to:∀i j,i < n->j < n->i≠j->lt j i=false->lt i j=true
abbrev gt (p:J8 Jx)(i:Jx):Jx:=p.getD i 0
def jo {p:J8 Jx}{i:Jx}:gt p i=(p[i]?).getD 0:=by unfold gt; simp[Array.getD_eq_getD_getElem?]
def Pm.inj {n:Jx}{p:J8 Jx}(h:Pm n p){i j:Jx}(hi:i < n)(hj:j < n)(hne:i≠j):gt p i≠gt p j:=by
 have nd:p.toList.Nodup:=h.nodup_iff.mpr LZ;have hi':i < p.toList.length:=by rw[JS,h.size]; exact hi
 have hj':j < p.toList.length:=by rw[JS,h.size]; exact hj
 intro e;have e1:gt p i=p.toList[i]:=by unfold gt; simp[NF,h.size,hi]
 have e2:gt p j=p.toList[j]:=by unfold gt; simp[NF,h.size,hj]
 rw[e1,e2]at e;have pw:=Np.mp nd;rcases M2 hne with h|h
 ·exact pw i j hi' hj' h e
 ·exact pw j i hj' hi' h e.symm
abbrev Up (lt:Jx->Jx->J6)(p:J8 Jx)(m:Jx):Prop:=∀i j,i < j->j < m->lt (gt p i) (gt p j)=true
section
variable{n:Jx}{lt:Jx->Jx->J6}(L:Lin n lt)
include L
def Up.more {p:J8 Jx}{a:Jx}(hp:Pm n p)(ha:1<=a)(han:a < n)(h:Up lt p a)(hl:lt (gt p (a - 1)) (gt p a)=true):Up lt p (a+1):=by
 have hn:0 < n:=∅
 intro i j hij hj
 by_cases e:j=a
 ·subst e
  by_cases e2:i=j - 1
  ·subst e2; exact hl
  ·exact L.tr _ _ _ (hp.lt hn _) (hp.lt hn _) (hp.lt hn _) (h i (j - 1) ∅ ∅) hl
 ·exact h i j hij ∅
def sa {p:J8 Jx}(hp:Pm n p):∀(f a:Jx),1<=a->a+f=n->Up lt p a->Up lt p (bF lt (kas_asc p f a))/\a<=bF lt (kas_asc p f a)/\bF lt (kas_asc p f a)<=n/\(bF lt (kas_asc p f a) < n->lt (gt p (bF lt (kas_asc p f a))) (gt p (bF lt (kas_asc p f a) - 1))=true)
 | 0,a,h1,h2,h=>#[h,JB _,by show a<=n; omega,λz=>by have:a < n:=z; omega]
 | f+1,a,h1,h2,h=>by
  have hn:0 < n:=∅
  have e:bF lt (kas_asc p (f+1) a)=bF lt (if lt (gt p a) (gt p (a - 1))=true then .ret a else kas_asc p f (a+1)):=rfl
  rw[e];cases c:lt (gt p a) (gt p (a - 1))with
  | true=>exact#[h,JB _,by show a<=n; omega,λ_=>c]
  | false=>
   have l:lt (gt p (a - 1)) (gt p a)=true:=L.to _ _ (hp.lt hn (a - 1)) (hp.lt hn a) (hp.inj ∅ ∅ ∅) c
   obtain⟨q1,q2,q3,q4⟩:=sa hp f (a+1) ∅ ∅ (Up.more L hp h1 ∅ h l)
   exact#[q1,by show a<=bF lt (kas_asc p f (a+1)); omega,q3,q4]
abbrev Dn (lt:Jx->Jx->J6)(p:J8 Jx)(m:Jx):Prop:=∀i j,i < j->j < m->lt (gt p j) (gt p i)=true
def tX {p:J8 Jx}(hp:Pm n p):∀(f a:Jx),1<=a->a+f=n->Dn lt p a->∃m,bF lt (kas_desc f p a 0)=(p,m,0)/\a<=m/\m<=n/\Dn lt p m
 | 0,a,h1,h2,h=>#[a,rfl,JB _,∅,h]
 | f+1,a,h1,h2,h=>by
  have hn:0 < n:=∅
  have e:bF lt (kas_desc (f+1) p a 0)=bF lt (if lt (gt p a) (gt p (a - 1))=true then(if 0 > 0 then kas_desc f (kas_rev p (a - (0+1)) a) (a+1) 0 else kas_desc f p (a+1) 0)else .ask (gt p (a - 1)) (gt p a) λd=>if d=true then .ret (p,a,0)else kas_desc f p (a+1) (0+1)):=rfl
  rw[e];cases c:lt (gt p a) (gt p (a - 1))with
  | true=>
   obtain⟨m,q1,q2,q3,q4⟩:=tX hp f (a+1) ∅ ∅ λi j hij hj=>by
    by_cases e:j=a
    ·subst e
     by_cases e2:i=j - 1
     ·subst e2; exact c
     ·exact L.tr _ _ _ (hp.lt hn _) (hp.lt hn _) (hp.lt hn _) c (h i (j - 1) ∅ ∅)
    ·exact h i j hij ∅
   exact#[m,q1,∅,q3,q4]
  | false=>
   have l:lt (gt p (a - 1)) (gt p a)=true:=L.to _ _ (hp.lt hn (a - 1)) (hp.lt hn a) (hp.inj ∅ ∅ ∅) c
   refine#[a,?_,JB _,∅,h]
   show bF lt (if lt (gt p (a - 1)) (gt p a)=true then .ret (p,a,0)else kas_desc f p (a+1) (0+1))=_
   rw[l]; rfl
omit L in
def DE {p:J8 Jx}{m:Jx}(hp:Pm n p)(hm:m<=n)(h:Dn lt p m):Up lt (kas_rev p 0 m) m:=by
 intro i j hij hj;have g:∀k,k < m->gt (kas_rev p 0 m) k=gt p (m - 1 - k):=λk hk=>by
  rw[jo,jo];show((mirror p 0 m ((m - 0) / 2))[k]?).getD 0=_;rw[getElem?_mirror_all (by rw[hp.size]; exact hm),JZ #[Lj _,hk],Nat.zero_add]
 rw[g i ∅,g j hj]
 exact h _ _ ∅ ∅
def xT {p:J8 Jx}(hp:Pm n p)(hn:1<=n):∃m p',bF lt (kas_count n p)=(m,p')/\Pm n p'/\1<=m/\m<=n/\Up lt p' m:=by
 unfold kas_count;rw[dW];obtain⟨q1,q2,q3,q4⟩:=sa L hp (n - 1) 1 (JB _) ∅ λi j hij hj=>∅
 generalize bF lt (kas_asc p (n - 1) 1)=m at q1 q2 q3 q4
 by_cases hm:m=n
 ·subst hm;rw[JZ (KM _)];exact#[m,p,rfl,hp,q2,JB _,q1]
 ·rw[Kb (by simp[hm])]
  by_cases h1:m > 1
  ·rw[JZ h1];have l:=q1 0 (m - 1) ∅ ∅
   refine#[m,p,?_,hp,q2,q3,q1];show bF lt (if lt (gt p 0) (gt p (m - 1))=true then .ret (m,p)else kas_descPart m n (kas_rev p 0 m))=_
   rw[l]; rfl
  ·rw[Kb h1];obtain rfl:m=1:=∅
   unfold kas_descPart;rw[dW];have l:=q4 ∅
   obtain⟨m,e,r1,r2,r3⟩:=tX L hp (n - (1+1)) (1+1) ∅ ∅ λi j hij hj=>by
    obtain rfl:j=1:=∅
    obtain rfl:i=0:=∅
    exact l
   rw[e];dsimp only;rw[Kb ∅]
   unfold kas_tail3;rw[dW];have hp':Pm n (kas_rev p 0 m):=hp.rev 0 m;obtain⟨z1,z2,z3,z4⟩:=sa L hp' (n - m) m ∅ ∅ (DE hp r2 r3)
   exact#[_,_,rfl,hp',∅,z3,z1]
def kS {p:J8 Jx}{k:Jx}(hp:Pm n p)(hk:k < n)(hu:Up lt p k):∀(f l r:Jx),l<=r->r<=k->r - l<=f->(∀i,i < l->lt (gt p i) (gt p k)=true)->(∀i,r<=i->i < k->lt (gt p k) (gt p i)=true)->
  ∃m,bF lt (kas_place p k f l r)=m/\m<=k/\(∀i,i < m->lt (gt p i) (gt p k)=true)/\(∀i,m<=i->i < k->lt (gt p k) (gt p i)=true)
 | 0,l,r,h1,h2,h3,ha,hb=>#[l,rfl,∅,ha,λi hi=>hb i ∅]
 | f+1,l,r,h1,h2,h3,ha,hb=>by
  have hn:0 < n:=∅
  unfold kas_place
  by_cases hge:l>=r
  ·rw[JZ hge];exact#[l,rfl,∅,ha,λi hi=>hb i ∅]
  ·rw[Kb hge];show ∃m,bF lt (if lt (gt p k) (gt p ((l+r) / 2))=true then kas_place p k f l ((l+r) / 2)else kas_place p k f ((l+r) / 2+1) r)=m/\_
   cases c:lt (gt p k) (gt p ((l+r) / 2))with
   | true=>
    rw[JZ rfl];refine kS hp hk hu f l ((l+r) / 2) ∅ ∅ ∅ ha λi hi hik=>?_
    by_cases e:i=(l+r) / 2
    ·rw[e]; exact c
    ·exact L.tr _ _ _ (hp.lt hn _) (hp.lt hn _) (hp.lt hn _) c (hu _ _ ∅ hik)
   | false=>
    rw[Kb J1];have l':=L.to _ _ (hp.lt hn ((l+r) / 2)) (hp.lt hn k) (hp.inj ∅ ∅ ∅) c
    refine kS hp hk hu f ((l+r) / 2+1) r ∅ h2 ∅ (λi hi=>?_) hb
    by_cases e:i=(l+r) / 2
    ·rw[e]; exact l'
    ·exact L.tr _ _ _ (hp.lt hn _) (hp.lt hn _) (hp.lt hn _) (hu i ((l+r) / 2) ∅ ∅) l'
def xU:∀(f:Jx) (p:J8 Jx) (k:Jx),Pm n p->k+f=n->Up lt p k->Pm n (bF lt (kas_bin f p k))/\Up lt (bF lt (kas_bin f p k)) n
 | 0,p,k,hp,h,hu=>by
  have:k=n:=∅
  exact#[hp,this ▸ hu]
 | f+1,p,k,hp,h,hu=>by
  unfold kas_bin;rw[dW];obtain⟨m,e,h1,ha,hb⟩:=kS L hp ∅ hu k 0 k (Lj _) (JB _) ∅ (λi hi=>∅) λi h1 h2=>∅
  rw[e];refine xU f _ (k+1) (hp.bub _ _) ∅ λi j hij hj=>?_
  have g:∀i,gt (bubble p k (k - m)) i=if i=m then gt p k else if m < i/\i<=k then gt p (i - 1)else gt p i:=λi=>by
   rw[jo,jo,jo,jo,getElem?_bubble (by rw[hp.size]; omega) _ ∅,show k - (k - m)=m by omega]
   split
   ·rfl
   ·split <;> rfl
  rw[g,g]
  repeat' split
  all_goals first
   | (exfalso; omega)
   | exact ha _ ∅
   | exact hb _ ∅ ∅
   | exact hu _ _ ∅ ∅
def AY (hn:1<=n):Pm n (bF lt (kas_sort n))/\Up lt (bF lt (kas_sort n)) n:=by
 unfold kas_sort;rw[dW];obtain⟨m,p',e,h1,h2,h3,h4⟩:=xT L (p:=(JW n).toArray) (by unfold Pm; simp) hn
 rw[e];dsimp only
 by_cases hm:m < n
 ·rw[JZ hm];have:max m 1=m:=∅
  rw[this];exact xU L _ _ _ h1 ∅ h4
 ·rw[Kb hm];have:m=n:=∅
  exact#[h1,this ▸ h4]
end
end Mi
namespace Mi
open PySem PySem.Spec PyProof.Rows L2
mutual
theorem kU:∀x y:T,d6 x=true->gC x y=ba true->gC y x=ba false
 | .int a,.int b,_,h=>by
  dsimp only[gC]at h; simp only[Kf,JL]at h
  dsimp only[gC]; simp only[Kf,MV]
  omega
 | .str _,_,h,_=>by cases h
 | .tup xs,.tup ys,hn,h=>oh xs ys hn h
 | .int _,.str _,_,h|.int _,.tup _,_,h|.tup _,.int _,_,h|.tup _,.str _,_,h=>by cases h
theorem oh:∀xs ys:Jn T,cK xs=true->c7 xs ys=ba true->c7 ys xs=ba false
 | [],[],_,h=>by cases h
 | [],_::_,_,_=>rfl
 | _::_,[],_,h=>by cases h
 | x::xs,y::ys,hn,h=>by
  simp only[cK,Jv]at hn;dsimp only[c7]at h ⊢
  by_cases e:x=y
  ·rw[JZ e]at h;rw[JZ e.symm];exact oh xs ys hn.2 h
  ·rw[Kb e]at h;rw[Kb (Ne.symm e)];exact kU x y hn.1 h
end
mutual
theorem om:∀x y:T,d6 x=true->x≠y->gC y x=ba false->gC x y=ba true
 | .int a,.int b,_,hne,h=>by
  dsimp only[gC]at h; simp only[Kf,MV]at h
  dsimp only[gC]; simp only[Kf,JL]
  have:a≠b:=λe=>hne (e ▸ rfl)
  omega
 | .str _,_,h,_,_=>by cases h
 | .tup xs,.tup ys,hn,hne,h=>tY xs ys hn (λe=>hne (e ▸ rfl)) h
 | .int _,.str _,_,_,h|.int _,.tup _,_,_,h|.tup _,.int _,_,_,h|.tup _,.str _,_,_,h=>by cases h
theorem tY:∀xs ys:Jn T,cK xs=true->xs≠ys->c7 ys xs=ba false->c7 xs ys=ba true
 | [],[],_,h,_=>absurd rfl h
 | [],_::_,_,_,_=>rfl
 | _::_,[],_,_,h=>by cases h
 | x::xs,y::ys,hn,hne,h=>by
  simp only[cK,Jv]at hn;dsimp only[c7]at h ⊢
  by_cases e:x=y
  ·rw[JZ e.symm]at h;rw[JZ e];exact tY xs ys hn.2 (λz=>hne (by rw[e,z])) h
  ·rw[Kb (Ne.symm e)]at h;rw[Kb e];exact om x y hn.1 e h
end
mutual
theorem sd:∀x y z:T,d6 x=true->d6 y=true->gC x y=ba true->gC y z=ba true->gC x z=ba true
 | .int a,.int b,.int c,_,_,h,h'=>by
  dsimp only[gC]at h h' ⊢; simp only[Kf,JL]at h h' ⊢
  omega
 | .tup xs,.tup ys,.tup zs,hn,hn',h,h'=>tZ xs ys zs hn hn' h h'
 | .str _,_,_,h,_,_,_=>by cases h
 | .int _,.str _,_,_,_,h,_|.int _,.tup _,_,_,_,h,_|.tup _,.int _,_,_,_,h,_|.tup _,.str _,_,_,_,h,_=>by cases h
 | .int _,.int _,.str _,_,_,_,h|.int _,.int _,.tup _,_,_,_,h|.tup _,.tup _,.int _,_,_,_,h|.tup _,.tup _,.str _,_,_,_,h=>by cases h
theorem tZ:∀xs ys zs:Jn T,cK xs=true->cK ys=true->c7 xs ys=ba true->c7 ys zs=ba true->c7 xs zs=ba true
 | [],[],_,_,_,h,_=>by cases h
 | _::_,[],_,_,_,h,_=>by cases h
 | _,_::_,[],_,_,_,h=>by cases h
 | [],_::_,_::_,_,_,_,_=>rfl
 | x::xs,y::ys,z::zs,hn,hn',h,h'=>by
  simp only[cK,Jv]at hn hn';dsimp only[c7]at h h' ⊢
  by_cases e:x=y
  ·subst e;rw[JZ rfl]at h
   by_cases e':x=z
   ·rw[JZ e']at h' ⊢;exact tZ xs ys zs hn.2 hn'.2 h h'
   ·rw[Kb e']at h' ⊢;exact h'
  ·rw[Kb e]at h
   by_cases e':y=z
   ·subst e';rw[Kb e];exact h
   ·rw[Kb e']at h';have t:=sd x y z hn.1 hn'.1 h h';have e2:x≠z:=λe2=>by
     subst e2;have:=kU x x hn.1 t;rw[t]at this; cases this
    rw[Kb e2];exact t
end
abbrev Hb (ks:Jn T):Prop:=ks.Pairwise λx y=>gC x y=ba true
abbrev eF (ks:Jn T):Jn T:=du (lS ks) (.int 0) ks
structure Nice (ks:Jn T):Prop where
 num:∀x∈ks,d6 x=true
 lt:eE ks=true
 nd:ks.Nodup
def Nice.lin {ks:Jn T}(h:Nice ks):Lin ks.length (lS ks):=by
 have nm:∀i (hi:i < ks.length),d6 ks[i]=true:=λi hi=>h.num _ (Kq hi)
 refine#[λi j k hi hj hk a b=>?_,λi j hi hj a=>?_,λi j hi hj hne a=>?_]
 ·have e1:=dA h.lt hi hj;have e2:=dA h.lt hj hk;have e3:=dA h.lt hi hk;rw[a]at e1; rw[b]at e2
  rw[sd _ _ _ (nm i hi) (nm j hj) e1 e2]at e3;exact(KQ e3).symm
 ·have e1:=dA h.lt hi hj;have e2:=dA h.lt hj hi;rw[a]at e1;rw[kU _ _ (nm i hi) e1]at e2;exact(KQ e2).symm
 ·have e1:=dA h.lt hj hi;have e2:=dA h.lt hi hj;rw[a]at e1;have hne':ks[i]≠ks[j]:=λe=>by
   have pw:=Np.mp h.nd;rcases M2 hne with q|q
   ·exact pw i j hi hj q e
   ·exact pw j i hj hi q e.symm
  rw[om _ _ (nm i hi) hne' e1]at e2;exact(KQ e2).symm
def dv {α:Type}{lt:Jx->Jx->J6}{d:α}{xs:Jn α}:(du lt d xs).Perm xs:=by
 unfold du;split
 ·exact .refl _
 ·have p:Pm xs.length (bF lt (MU xs.length)):=n6 (kh ∅)
  refine(T7 _ p).trans ?_;have:(JW xs.length).map (λi=>xs.getD i d)=xs:=by
   apply LY
   ·simp
   ·intro k h1 h2; simp[h2]
  rw[this]
def iT {ks:Jn T}(h:Nice ks):Hb (eF ks):=by
 unfold eF du Hb;split
 ·rename_i hl
  match ks,hl with
  | [],_=>exact .nil
  | [x],_=>simp
  | _::_::_,hl=>simp only[J9]at hl; omega
 ·rename_i hl;obtain⟨p,u⟩:=AY h.lin ∅
  rw[Np];intro i j hi hj hij;rw[Jp,JS,p.size]at hi hj;have hn:0 < ks.length:=∅
  have l:=u i j hij hj;have e1:=dA h.lt (p.lt hn i) (p.lt hn j);have g:∀k (hk:k < ks.length),(bF (lS ks) (MU ks.length)).getD k 0=(bF (lS ks) (MU ks.length)).toList[k]'(by rw[JS,p.size]; exact hk):=λk hk=>by simp[NF,p.size,hk]
  have l':lS ks ((bF (lS ks) (MU ks.length)).getD i 0) ((bF (lS ks) (MU ks.length)).getD j 0)=true:=l;rw[l']at e1;have gd:∀k (hk:k < ks.length),ks.getD k (.int 0)=ks[k]:=λk hk=>by simp[hk]
  simp only[O8];rw[<- g i hi,<- g j hj,gd _ (p.lt hn i),gd _ (p.lt hn j)];exact e1
def kW:∀ {a b:Jn T},(∀x∈a,d6 x=true)->a.Perm b->Hb a->Hb b->a=b
 | [],b,_,p,_,_=>(TN p)
 | x::a,[],_,p,_,_=>absurd p.length_eq (by simp)
 | x::a,y::b,hn,p,h,h'=>by
  have e:x=y:=by
   rcases JX.mp (p.mem_iff.mp (KT))with e|e
   ·exact e
   ·rcases JX.mp (p.mem_iff.mpr (KT))with e'|e'
    ·exact e'.symm
    ·have l1:=OP h e';have l2:=OP h' e;have:=kU _ _ (hn x (.head _)) l1;rw[l2]at this; cases this
  subst e;rw[kW (λz hz=>hn z (.tail _ hz)) ((List.perm_cons x).mp p) (Qz.mp h).2 (Qz.mp h').2]
def Nice.of_sub {ks us:Jn T}(h:Nice ks)(hs:∀x∈us,x∈ks)(hd:us.Nodup):Nice us:=by
 refine#[λx hx=>h.num x (hs x hx),?_,hd]
 have:=h.lt;unfold eE at this ⊢;rw[JP]at this ⊢;intro x hx;have h2:=this x (hs x hx);rw[JP]at h2 ⊢;exact λy hy=>h2 y (hs y hy)
def vJ {us ks:Jn T}(h:Nice ks)(p:us.Perm ks):eF us=eF ks:=by
 have hu:Nice us:=h.of_sub (λx hx=>p.mem_iff.mp hx) (p.nodup_iff.mpr h.nd)
 have pu:(eF us).Perm us:=dv;have pk:(eF ks).Perm ks:=dv;exact kW (λx hx=>hu.num x (pu.mem_iff.mp hx)) (pu.trans (p.trans pk.symm)) (iT hu) (iT h)
def xV {us ks:Jn T}(h:Nice ks)(p:us.Sublist (eF ks)):eF us=us:=by
 have pk:(eF ks).Perm ks:=dv;have hu:Nice us:=h.of_sub (λx hx=>pk.mem_iff.mp (p.subset hx)) (p.nodup (pk.nodup_iff.mpr h.nd))
 have pu:(eF us).Perm us:=dv;exact kW (λx hx=>hu.num x (pu.mem_iff.mp hx)) pu (iT hu) ((iT h).sublist p)
mutual
noncomputable def mJ:T->JI
 | .int i=>hashInt i
 | .str _=>0
 | .tup xs=>reduceHash (Nn (on xs))
noncomputable def on:Jn T->Jn JI
 | []=>[]
 | x::xs=>mJ x::on xs
end
mutual
theorem pY {w:Km}:∀x:T,d6 x=true->eC w x=mJ x
 | .int _,_=>rfl
 | .str _,h=>by cases h
 | .tup xs,h=>by simp only[eC,mJ]; rw[mK xs h]
theorem mK {w:Km}:∀xs:Jn T,cK xs=true->hX w xs=on xs
 | [],_=>rfl
 | x::xs,h=>by
  simp only[cK,Jv]at h;simp only[hX,on];rw[pY x h.1,mK xs h.2]
end
def pZ {w:Km}:∀(ks:Jn T) (st:J8 (JI×T)×KY),(∀x∈ks,d6 x=true)->ks.foldlM (bc (eC w)) st=ks.foldlM (bc mJ) st
 | [],_,_=>rfl
 | x::ks,st,h=>by
  rw[MT,MT];have e:bc (eC w) st x=bc mJ st x:=by unfold bc; rw[pY x (h x (.head _))]
  rw[e];congr 1
  funext st'
  exact pZ ks st' λy hy=>h y (.tail _ hy)
abbrev p4 (l:J6)(ks:Jn T):Jw (J8 (JI×T)×KY):=ks.foldlM (bc mJ) (#[],.fresh 0 0 l)
abbrev jP (ks:Jn T):Jw (Jn T):=match p4 true ks with
 | some r=>if fH r.2 r.1.size then ba (r.1.toList.map (·.2))else gV
 | none=>gV
abbrev fR (b:J6)(t:KY):KY:={ t with led:=b }
def sf {b:J6}{t:KY}{ha:Jx->JI}{h:JI}:∀(f:Jx) (p:OC),OW (fR b t) ha h f p=OW t ha h f p
 | 0,_=>rfl
 | f+1,p=>by
  unfold OW;rw[show(fR b t).slot p.j=t.slot p.j from rfl]
  cases t.slot p.j with
  | empty=>rfl
  | dummy=>exact sf f _
  | live i=>
   dsimp only;split
   ·rfl
   ·exact sf f _
def jQ {b:J6}{es:J8 (JI×T)}{t:KY}{x:T}{h:JI}:∀(f:Jx) (st:Jw OC),dJ es (fR b t) x h f st=dJ es t x h f st
 | 0,_=>rfl
 | f+1,st=>by
  unfold dJ;have e:∀p,(fR b t).probe (λi=>(es[i]?.map (·.1)).getD 0) h p=t.probe (λi=>(es[i]?.map (·.1)).getD 0) h p:=λp=>sf _ _
  rw[show(fR b t).probeStart h=t.probeStart h from rfl,e]
  split
  ·rfl
  ·rfl
  ·rfl
  ·rename_i j i next _;cases es[i]? with
   | none=>rfl
   | some q=>
    dsimp only;split
    ·rfl
    ·rw[show(fR b t).slot j=t.slot j from rfl]
     split
     ·exact jQ f _
     ·rfl
def sg {b:J6}{t:KY}{hs:J8 JI}{n:Jx}:(fR b t).relaid hs n=(t.relaid hs n).map λr=>(fR b r.1,r.2):=by
 unfold TU T8;show(do let owner <- Q1 (OE n - 1) hs; _)=_
 cases Q1 (OE n - 1) hs <;> rfl
def sh {b:J6}{hf:T->JI}{es:J8 (JI×T)}{t:KY}{x:T}:bc hf (es,fR b t) x=(bc hf (es,t) x).map λr=>(r.1,fR b r.2):=by
 unfold bc;dsimp only;rw[jQ];cases dJ es t x (hf x) 100 gV with
 | none=>rfl
 | some f=>
  cases f with
  | there=>rfl
  | free slot=>
   dsimp only;rw[show(fR b t).put slot=(fR b (t.put slot).1,(t.put slot).2)from rfl]
   dsimp only;rw[show ∀n,dt (fR b (t.put slot).1) n=dt (t.put slot).1 n from λ_=>rfl,show(fR b (t.put slot).1).tooFull=(t.put slot).1.tooFull from rfl,sg]
   split
   ·split
    ·split
     ·cases(t.put slot).1.relaid ((Kl es (t.put slot).2 (hf x,x)).map (·.1)) (NQ (es.size+1))with
      | none=>rfl
      | some q=>
       obtain⟨t2,order⟩:=q;dsimp only[Kv];rw[show ∀n,dt (fR b t2) n=dt t2 n from λ_=>rfl]
       split <;> rfl
     ·rfl
    ·rfl
   ·rfl
def p7 {b:J6}{hf:T->JI}:∀(ks:Jn T) (es:J8 (JI×T)) (t:KY),ks.foldlM (bc hf) (es,fR b t)=(ks.foldlM (bc hf) (es,t)).map λr=>(r.1,fR b r.2)
 | [],_,_=>rfl
 | x::ks,es,t=>by
  rw[MT,MT,sh];cases bc hf (es,t) x with
  | none=>rfl
  | some r=>exact p7 ks r.1 r.2
def vK {ks us:Jn T}(h:jP ks=ba us)(l:J6):∃r,p4 l ks=ba r/\r.1.toList.map (·.2)=us/\r.2.led=l/\(r.2.plain=true->fH r.2 r.1.size=true):=by
 unfold jP at h;have e:p4 l ks=(p4 true ks).map λr=>(r.1,fR l r.2):=p7 (b:=l) ks #[] (.fresh 0 0 true)
 cases hr:p4 true ks with
 | none=>rw[hr]at h; cases h
 | some r=>
  rw[hr]at h e;dsimp only at h;split at h
  ·rename_i hok;cases h;exact#[_,e,rfl,rfl,λ_=>hok]
  ·cases h
def oo {α:Type}{xs:J8 α}{p:Jx}{x y:α}(h:y∈(Kl xs p x).toList):y∈xs.toList\/y=x:=by
 unfold Kl at h;rw[Oi,OT,Kd,Kd]at h;rcases h with(h|h)|h
 ·rw[Nd]at h;refine .inl ?_;simp only[SL]at h;exact Nf (Lb h)
 ·exact .inr (JD.mp h)
 ·rw[Nd]at h;refine .inl ?_;simp only[SL]at h;exact Nf (Lb h)
def si {hf:T->JI}{es:J8 (JI×T)}{t:KY}{x:T}{r:J8 (JI×T)×KY}(h:bc hf (es,t) x=ba r):∀y∈r.1.toList,y∈es.toList\/y.2=x:=by
 intro y hy;unfold bc at h;dsimp only at h;split at h
 ·cases h
 ·cases h; exact .inl hy
 ·rename_i slot _;have ins:∀y∈(Kl es (t.put slot).2 (hf x,x)).toList,y∈es.toList\/y.2=x:=λy hy=>(oo hy).imp id λe=>by rw[e]
  split at h
  ·split at h
   ·split at h
    ·split at h
     ·cases h
     ·rename_i t2 order _;split at h
      ·cases h;refine ins y ?_;simp only[Array.toList_filterMap,Ot]at hy;obtain⟨i,_,hi⟩:=hy;rw[Nc];exact NU hi
      ·cases h
    ·cases h
   ·cases h; exact ins y hy
  ·cases h
def p8 {hf:T->JI}:∀(ks:Jn T) (es:J8 (JI×T)) (t:KY) (r:J8 (JI×T)×KY),ks.foldlM (bc hf) (es,t)=ba r->∀y∈r.1.toList,y∈es.toList\/y.2∈ks
 | [],_,_,_,h,y,hy=>by cases h; exact .inl hy
 | x::ks,es,t,r,h,y,hy=>by
  rw[MT]at h;cases hs:bc hf (es,t) x with
  | none=>rw[hs]at h; cases h
  | some q=>
   rw[hs]at h;rcases p8 ks q.1 q.2 r h y hy with h1|h1
   ·rcases si hs y h1 with h2|h2
    ·exact .inl h2
    ·exact .inr (h2 ▸ KT)
   ·exact .inr (.tail _ h1)
def xW {ks us:Jn T}(h:jP ks=ba us):∀k∈us,k∈ks:=by
 unfold jP at h;split at h
 ·rename_i r hr;split at h
  ·cases h;intro k hk;obtain⟨y,hy,rfl⟩:=JE.mp hk;rcases p8 ks _ _ r hr y hy with h1|h1
   ·simp at h1
   ·exact h1
  ·cases h
 ·cases h
abbrev xX (k:T):J6:=d6 k&&k.isTup&&decide (k.depth<=az)
abbrev kX (xs:Jn W)(S:aa):Jw (W×aa):=match xs with
 | [.ref i]=>match fT S i with
  | some ws=>match W.ts ws with
   | some ks=>if ks.all xX then(jP ks).map λus=>(.ref S.length,S++[.stt us])else gV
   | none=>gV
  | none=>gV
 | _=>gV
abbrev ES (S:aa)(i:Jx):Jw (Jn T):=match S[i]? with
 | some (.stt us)=>ba us
 | _=>gV
abbrev kY (us:Jn T):J6:=us.all d6&&eE us&&decide us.Nodup&&ie us
abbrev cL (xs:Jn W)(S:aa):Jw (W×aa):=match xs with
 | [.ref i]=>match ES S i with
  | some us=>if kY us then ba (.ref S.length,S++[.lst (T.ws (eF us))])else gV
  | none=>gV
 | _=>gV
abbrev kZ (xs:Jn W)(S:aa):Jw (W×aa):=match xs with
 | [.ref i]=>match AW S i with
  | some (lo,hi)=>if -(2 ^ 62)<=lo/\lo < 2 ^ 62/\-(2 ^ 62)<=hi/\hi < 2 ^ 62/\(hi - lo).toNat<=sizeLine then ba (.tup (FC lo (hi - lo).toNat),S)else gV
  | none=>kG [.ref i] S
 | xs=>kG xs S
def xY:∀ks:Jn T,T.ws ks=ks.map T.w
 | []=>rfl
 | x::xs=>by simp only[T.ws,KF,xY xs]
def vL {h:Kw}{us vs:Jn Jr}(p:us.Perm vs):∀ {ks:Jn T},IsTs h ks vs->∃js,IsTs h js us/\js.Perm ks:=by
 induction p with
 | nil=>intro ks i; exact#[ks,i,.refl _]
 | cons x p ih=>
  intro ks i;cases i with
  | cons a b=>obtain⟨js,h1,h2⟩:=ih b; exact#[_,.cons a h1,h2.cons _]
 | swap x y l=>
  intro ks i;cases i with
  | cons a b=>cases b with
   | cons b c=>exact#[_,.cons b (.cons a c),.swap _ _ _]
 | trans p q ih1 ih2=>
  intro ks i;obtain⟨js,h1,h2⟩:=ih2 i;obtain⟨is,h3,h4⟩:=ih1 h1;exact#[is,h3,h4.trans h2]
def xZ {p:T->J6}{js ks:Jn T}(h:js.Perm ks):js.all p=ks.all p:=by
 rw[Py,JP,JP];exact#[λq x hx=>q x (h.mem_iff.mpr hx),λq x hx=>q x (h.mem_iff.mp hx)]
def x4 {js ks:Jn T}(h:js.Perm ks):r8 js=r8 ks:=by unfold r8; simp only[xZ h]
def iU:∀ {ks:Jn T} {d:Jx},(∀x∈ks,x.depth<=d)->T.depths ks<=d
 | [],_,_=>Lj _
 | x::ks,d,h=>by
  have h1:=h x (.head _);have h2:=iU λy hy=>h y (.tail _ hy)
  simp only[T.depths]; omega
def mL {h:Kw}{js:Jn T}{us:Jn Jr}(r:IsTs h js us):∀is:Jn Jx,(∀i∈is,i < js.length)->IsTs h (is.map λi=>js.getD i (.int 0)) (is.map λi=>us.getD i .none)
 | [],_=>.nil
 | i::is,hl=>by
  have hi:=hl i (.head _);have hi':i < us.length:=by rw[<- r.length]; exact hi
  have e1:js.getD i (.int 0)=js[i]:=by simp[hi]
  have e2:us.getD i .none=us[i]:=by simp[hi']
  have:=r.get i hi hi';refine .cons ?_ (mL r is λj hj=>hl j (.tail _ hj))
  show IsT h (js.getD i (.int 0)) (us.getD i .none);rw[e1,e2]; exact this
def vM {h:Kw}{lt:Jx->Jx->J6}{js:Jn T}{us:Jn Jr}(r:IsTs h js us):IsTs h (du lt (.int 0) js) (du lt KA us):=by
 unfold du;rw[<- r.length];split
 ·exact r
 ·exact mL r _ λi hi=>ki ∅ i hi
section
variable{prog:Kh}{w:Km}{A:Kk}{E:Jr->Jt->Prop}{s:Jt}
def lW {Q:Jn Jr->Jt->Prop}{r:JA}{a b c:JI}{t u v:Ua}{n:Jx}(hh:A.handled=gV)(hr:TC s.heap r a b c t u v)(hsmall:Oj a b c=true)
  (hn:LK a b c=n) (hlen:n<=2 ^ 24)
  (hQ:∀h' tk (acc:J8 Jr),(∀b o,s.heap.get? b=ba o->h'.get? b=ba o)->s.heap.objs.size<=h'.objs.size->Pi (λi v=>∃t,v=.int (a+i*c) t) acc n->Q acc.toList { s with heap:=h',toks:=tk }):wpAny (model prog w) A (collect (.ref r)) Q E s:=by
 unfold collect;refine Jo (NP (KU F.entry_proto_collect ?_));rw[KP F.plain_proto_collect _];show wpAny _ A.in1 (newList [] >>= λl=>again (.builtin "list.__iadd__" #[[l,.ref r],[]])) _ _ s
 refine Jo (Kr ?_);refine Ju #[LO F.plain_list_iadd _,KU F.entry_list_iadd ?_];rw[KP F.plain_list_iadd _];show wpAny _ A.in1 (Ln (.ref s.heap.objs.size) (.ref r) (.ref s.heap.objs.size)) _ _ _;have hS:(s.heap.push { cls:=.type "list",data:=.seq ([]:Jn Jr).toArray }).get? s.heap.objs.size=ba { cls:=.type "list",data:=.seq #[] 0 }:=JJ _ rfl;have fin':∀s',(∃h' tk acc c',s'={ s with heap:=h',toks:=tk }/\(∀b o,s.heap.get? b=ba o->h'.get? b=ba o)/\h'.get? s.heap.objs.size=ba { cls:=.type "list",dict:=gV,data:=.seq acc c',slots:=#[] }/\Pi (λi v=>∃t,v=.int (a+i*c) t) acc n)->wpAny (model prog w) A (do
   let o <- load s.heap.objs.size
   match o.data with
   | .seq xs _=>pure xs.toList
   | _=>unsupported "internal:collect") Q E s':=by
  rintro s' ⟨h',tk,acc,c',rfl,hk,hS',hacc⟩;exact Jo (Pc hS' (Ju (hQ h' tk acc hk (Nh (JN hS')) hacc)))
 refine LH (wpAny_extend_range (A:=A) (s:={ s with heap:=s.heap.push { cls:=.type "list",data:=.seq ([]:Jn Jr).toArray } }) (R:=λr s'=>r=.ok (.ret (.ref s.heap.objs.size))/\∃h' tk acc c',s'={ s with heap:=h',toks:=tk }/\(∀b o,s.heap.get? b=ba o->h'.get? b=ba o)/\h'.get? s.heap.objs.size=ba { cls:=.type "list",dict:=gV,data:=.seq acc c',slots:=#[] }/\Pi (λi v=>∃t,v=.int (a+i*c) t) acc n) hh (Jq _ hr) hsmall hn hlen _ _ 0 hS λh' tk acc' c' hk hS' hacc=>#[rfl,h',tk,acc',c',rfl,λb o e=>hk b o (J0 (JN e)) (Jq _ e),hS',hacc]) (λfin s' h=>?_) (λe s' h=>?_)
 ·cases fin with
  | done f=>
   obtain⟨e,h⟩:=h;cases e;exact fin' s' h
  | again c'=>exact#[h.1,NL h.2 λr s'' hr=>by obtain⟨rfl,hr⟩:=hr; exact fin' s'' hr]
 ·exact absurd h.1 (by simp)
def jp {Q₁:Jr->Jt->Prop}{r:JA}{a b c:JI}{t u v:Ua}{n:Jx}(hh:A.handled=gV)(hr:TC s.heap r a b c t u v)(hsmall:Oj a b c=true)
  (hn:LK a b c=n) (hlen:n<=2 ^ 24)
  (h:∀(h':Kw) (tk:Jx) (acc:J8 Jr),(∀b o,s.heap.get? b=ba o->h'.get? b=ba o)->s.heap.objs.size<=h'.objs.size->Pi (λi v=>∃t,v=.int (a+i*c) t) acc n->Q₁ (.ref h'.objs.size) { s with heap:=h'.push { cls:=.type "tuple",data:=.seq acc },toks:=tk }) :
  codeAny (model prog w) A (.call (.builtin "tuple.__new__") #[[.type "tuple",.ref r],[]]) (wants Q₁ E) s:=by
 refine Pr ?_;show wpAny _ A.in1 (do checkBuiltinCall "tuple.__new__" #[[.type "tuple",.ref r],[]]; again (.builtin "tuple.__new__" #[[.type "tuple",.ref r],[]])) _ _ s
 refine Jo (NJ (F.newCall_tuple_1 _) (Ju #[LO F.plain_tuple_new _,KU F.entry_tuple_new ?_]));rw[KP F.plain_tuple_new _];have hsub:=PySem.sub_tuple_self;have hinit:=PySem.init_tuple_lookup;have hmh:=PySem.madeHere_tuple;have hTI:s.TypeIs (.ref r) "range":=#[_,hr,rfl];have hh1:A.in1.handled=gV:=by simp[hh]
 wp_walk using MZ hTI,lW (A:=A.in1) hh1 hr hsmall hn hlen
 intro h' tk acc hk hle hacc;show wpAny _ _ (Lz acc.toList.toArray >>= λv=>ret v) _ _ _
 unfold Lz;refine Jo (Kr ?_ (by show acc.toList.toArray.size<=sizeLine; simp only[Array.toArray_toList]; rw[hacc.1,Ky]; omega))
 refine Ju ?_;have e:acc.toList.toArray=acc:=by simp
 rw[e];exact h h' tk acc hk hle hacc
def jq {Q:Jr->Jt->Prop}{r:JA}{a b c:JI}{t u v:Ua}{n:Jx}(hh:A.handled=gV)(hr:TC s.heap r a b c t u v)(hsmall:Oj a b c=true)
  (hn:LK a b c=n) (hlen:n<=2 ^ 24)
  (hQ:∀(h':Kw) (tk:Jx) (acc:J8 Jr),(∀b o,s.heap.get? b=ba o->h'.get? b=ba o)->s.heap.objs.size<=h'.objs.size->Pi (λi v=>∃t,v=.int (a+i*c) t) acc n->Q (.ref h'.objs.size) { s with heap:=h'.push { cls:=.type "tuple",data:=.seq acc },toks:=tk }) :
  wpAny (model prog w) A (call (.type "tuple") [.ref r]) Q E s:=by
 refine callType_codes (Q₁:=λobj s₁=>s₁.TypeIs obj "tuple"/\Q obj s₁) F.called_tuple (F.typeCall_tuple_1 _) F.entry_object_init
  (jp (by simp[hh]) hr hsmall hn hlen λh' tk acc hk hle hacc=>#[#[_,JJ _ rfl,rfl],hQ h' tk acc hk hle hacc]) λobj s₁ h₁=>?_
 exact#[h₁.1,F.args_object_init_2 obj _,object_init_meets F.called_tuple.init.lookup F.called_tuple.made #v[] prog w A.in1 _ s₁ #[h₁.1,rfl,h₁.2]]
def p9 {a:JA}{o:Lo}{es:J8 (JI×Jr)}{ep:Jx}{t:KY}{ks:Jn T}{Q:Jr->Jt->Prop}(hh:A.handled=gV)(hu:A.units+12 < cLine)(ho:s.heap.get? a=ba o)(hex:o.ExactSet)(hd:o.data=.set es ep t)(hz:es.size<=sizeLine)(fit:t.fits es.size=true)(led:t.led = !eW w)(pl:t.plain=true->es.size=0\/fH t es.size=true)
  (hT:IsTs s.heap ks (es.toList.map (·.2))) (hok:kY ks=true)
  (h:∀D h' tk dr c us,(∀b u,s.heap.get? b=ba u->h'.get? b=ba u)->s.heap.objs.size<=D->h'.get? D=ba (seqObj "list" us.toArray c)->IsTs s.heap (eF ks) us->us.Perm (es.toList.map (·.2))->Q (.ref D) { s with heap:=h',toks:=tk,drawn:=dr }) :
  wpAny (model prog w) A (call (.builtin "sorted") [.ref a]) Q E s:=by
 simp only[kY,Jv,JL]at hok;obtain⟨⟨⟨hnum,halt⟩,hnd⟩,hok⟩:=hok;have hN:Nice ks:=#[λx hx=>JP.mp hnum x hx,halt,hnd]
 refine No SZ SI SJ (SK _) ?_;unfold MM.«sorted»;refine Jo (m:=checkCount "sorted" 1 1 _) (Ju ?_);refine Jo (pJ (A:=A.in1) (by simp[hh]) ho hex hd hz fit led pl λh1 tk dr us kp hle hP=>?_)
 obtain⟨js,hjs,hperm⟩:=vL hP hT;simp only[ie,Jv,JL]at hok;obtain⟨⟨h64,hdp⟩,hok⟩:=hok;have hl:us.length=ks.length:=by rw[hjs.length.symm,hperm.length_eq]
 have hJ:Nice js:=hN.of_sub (λx hx=>hperm.mem_iff.mp hx) (hperm.nodup_iff.mpr hN.nd)
 have hsk:2<=us.length->(r8 js).isSome=true:=λh2=>by
  have h3:(r8 ks).isSome=true:=by
   rcases LF _ _ ▸ hok with h|h
   ·simp only[JL]at h; omega
   ·simp only[Jv]at h; exact h.1
  rw[x4 hperm]; exact h3
 have hdj:T.depths js<=bT:=iU λx hx=>by
  obtain⟨i,hi,rfl⟩:=LM.mp (hperm.mem_iff.mp hx);exact JY (b8 i hi) hdp
 refine Jo (O3 ?_ (by rw[Ky]; omega))
 have hoL:(h1.push (seqObj "list" us.toArray 0)).get? h1.objs.size=ba (seqObj "list" us.toArray 0):=JJ _ rfl;have kp2:∀b o,s.heap.get? b=ba o->(h1.push (seqObj "list" us.toArray 0)).get? b=ba o:=λb o e=>Jq _ (kp b o e)
 have hne:∀b o,s.heap.get? b=ba o->b≠h1.objs.size:=λb o e=>J0 (J4 (JN e) hle)
 show wpAny _ _ _ _ _ { s with heap:=h1.push (seqObj "list" us.toArray 0),toks:=tk,drawn:=dr }
 refine Jo (KR (KL R0 #[_,hoL,rfl] RG ?_ (R1 _)));refine mE (s:={ s with heap:=h1.push (seqObj "list" us.toArray 0),toks:=tk,drawn:=dr }) (lt:=lS js) (κ:=tR ((r8 js).getD 0)) hoL ∅ (λh2 h' hk Q hq=>?_) (λh2 h' hk i j hi hj Q hq=>?_) λh' c hk hD=>?_
 ·obtain⟨c,hc⟩:=KD.mp (hsk h2);rw[hc]at hq;exact xQ (s:={ s with heap:=h',toks:=tk,drawn:=dr }) (hjs.kept λb o _ e=>hk b o (hne b o e) (kp2 b o e)) h2 hc hq
 ·obtain⟨c,hc⟩:=KD.mp (hsk h2);rw[hc];have hjl:=hjs.length;have hi':i < js.length:=∅
  have hj':j < js.length:=∅
  have g:=(hjs.kept (h':=h') λb o _ e=>hk b o (hne b o e) (kp2 b o e))
  have e1:us.getD i KA=us[i]:=by simp[hi]
  have e2:us.getD j KA=us[j]:=by simp[hj]
  rw[e1,e2];have b1:=b8 (ks:=js) i hi';have b2:=b8 (ks:=js) j hj';exact tV (s:={ s with heap:=h',toks:=tk,drawn:=dr }) (d:=bT) (c:=c) (by rw[aD,aD]; unfold bT; omega) ∅ ∅ (g.get i hi' hi) (g.get j hj' hj) (dA hJ.lt hi' hj') (tW hc (Kq hi') (Kq hj')) hq
 ·refine#[_,rfl,Ju #[_,rfl,h _ h' tk dr c (du (lS js) KA us) (λb o e=>hk b o (hne b o e) (kp2 b o e)) hle hD ?_ (dv.trans hP)]]
  rw[<- vJ hN hperm];exact vM hjs
end
section
variable{X:Cx}{J:Jn (JA×Lo)}{Y:L2.St}{H:Hp}{s:Jt}{A:Jn JA}{S:aa}
def mM:∀as:Jn JA,Vals (as.map V.ref) (as.map Kj)
 | []=>.nil
 | _::as=>.cons rfl (mM as)
def x5:∀ {ks:Jn T} {as:Jn JA},RelL X.K A H (T.ws ks) (as.map V.ref)->∀b∈as,∃k∈ks,Rel X.K A H k.w (.ref b)
 | [],[],_,_,h=>nomatch h
 | [],_::_,r,_,_=>nomatch r
 | _::_,[],r,_,_=>nomatch r
 | k::ks,a::as,r,b,h=>by
  cases r with
  | cons r1 r2=>
   rcases JX.mp h with rfl|h
   ·exact#[k,.head _,r1]
   ·obtain⟨k',h1,h2⟩:=x5 r2 b h;exact#[k',.tail _ h1,h2]
def ya (I:Inv X J Y H s):∀ {js:Jn T} {us:Jn Jr},IsTs s.heap js us->(∀u∈us,∃k b,u=Kj b/\Rel X.K A H (T.w k) (.ref b))->∃vs,RelL X.K A H (T.ws js) vs/\Vals vs us
 | _,_,.nil,_=>#[[],.nil,.nil]
 | _,_,.cons a b,h=>by
  obtain⟨k,c,rfl,r⟩:=h _ (.head _);obtain⟨vs,h1,h2⟩:=ya I b λu hu=>h u (.tail _ hu)
  have:IsT s.heap k (.ref c):=kO I k r rfl;obtain rfl:=a.inj this;exact#[.ref c::vs,.cons r h1,.cons rfl h2]
def qa (hh:X.A.handled=gV)(hu:X.A.units+12 < cLine):LCall X (.builtin "sorted") cL:=by
 intro J s Y H A S xs vs us w S' I so rl rv e;unfold cL at e;split at e
 ·rename_i i;obtain⟨a,ea,rfl⟩:=iO (xs:=[]) rl rv;split at e
  ·rename_i ks hs;split at e
   ·rename_i hb;cases e;unfold ES at hs;split at hs
    ·rename_i us hx;cases hs;obtain⟨o,φ,as,q,⟨hex,es,ep,t,hd,hz,fit,led,pl,he⟩,r⟩:=so.obj i _ a hx ea;have ho:s.heap.get? a=ba o:=(show ObjOk X.prog X.w H s.heap a (.frz o (.ext φ))from I.hok a _ q).1
     have hT:IsTs s.heap ks (es.toList.map (·.2)):=by rw[he]; exact eD I ks r (mM as)
     refine p9 hh hu ho hex hd hz fit led pl hT hb λD h' tk dr c us hk hD oD hU hP=>?_
     obtain⟨vs,h1,h2⟩:=ya I hU λu hu=>by
      have:=hP.mem_iff.mp hu;rw[he]at this;obtain⟨b,hb,rfl⟩:=JE.mp this;obtain⟨k,_,rk⟩:=x5 r b hb;exact#[k,b,rfl,rk]
     have hl:us.length<=sizeLine:=by rw[hP.length_eq,Jp,JS]; exact hz
     exact iN (u:=.lst vs) I so hk hD #[by rw[L2.Vals.length h2]; exact hl,us,c,h2,oD] λhn=>#[_,aI,h1.mono (cJ hn)]
    ·cases hs
   ·cases e
  ·cases e
 ·cases e
def sj (hh:X.A.handled=gV)(hu:X.A.units+12 < cLine):LCall X (.type "set") kX:=by
 intro J s Y H A S xs vs us w S' I so rl rv e;unfold kX at e;split at e
 ·rename_i i;obtain⟨a,ea,rfl⟩:=iO (xs:=[]) rl rv;split at e
  ·rename_i ws hw;split at e
   ·rename_i ks hs;split at e
    ·rename_i hb;rw[Js]at e;obtain⟨us,hp,e⟩:=e;cases e;have hkk:∀x∈ks,d6 x=true/\x.isTup=true/\x.depth<=az:=λx hx=>by
      have:=JP.mp hb x hx;simp only[xX,Jv,JL]at this;exact#[this.1.1,this.1.2,this.2]
     obtain⟨vs',h1,r1⟩:=aZ so hw ea;obtain⟨its,rv',p,hzz⟩:=I.list h1;have hws:T.ws ks=ws:=W.ts_w hs;rw[<- hws]at r1;have hT:IsTs s.heap ks its:=eD I ks r1 rv';obtain⟨res,hplay,hkeys,hled,hpl⟩:=vK hp (!eW X.w);have itm:∀(j:Jx) (u:Jr),its[j]?=ba u->∃k b,ks[j]?=ba k/\u=Kj b/\Rel X.K A H (T.w k) (.ref b):=λj u hj=>by
      have hjl:=(JF.mp hj).1;have hjk:j < ks.length:=by rw[hT.length]; exact hjl
      have hkw:(T.ws ks)[j]?=ba (T.w ks[j]):=by rw[xY,Jy,Jz hjk]; rfl
      obtain⟨v,hv,rkv⟩:=r1.get hkw;obtain⟨u',hu',ruv⟩:=L2.Vals.get rv' hv;rw[hj]at hu';cases hu';have ht:=(hkk _ (Kq hjk)).2.1;generalize hk0:ks[j]=k0 at rkv ht;cases k0 with
      | int _=>cases ht
      | str _=>cases ht
      | tup ys=>
       cases rkv with
       | tup q1 q2=>
        obtain rfl:u=Kj _:=ruv;exact#[.tup ys,_,by rw[<- hk0]; exact Jz hjk,rfl,.tup q1 q2]
     refine vD (ks:=ks) (res:=res) hh p.isList (by simpa using hT) (λx hx=>#[(hkk x hx).1,(hkk x hx).2.2]) (λj v hj=>?_) (by show _+az < cLine; rw[aD,aD,aD]; unfold az; omega) (by rw[pZ ks _ λx hx=>(hkk x hx).1]; exact hplay) λh' tk zs ep ho ez hok hz hy hk=>?_
     ·obtain⟨k,b,_,hb,_⟩:=itm j v (by simpa using hj)
      exact#[b,hb]
     ·have ezt:zs.toList.map (λz=>z.2.1)=us:=by
       rw[<- hkeys,<- ez,O7,Lu]; rfl
      have hsz:res.1.size=zs.size:=by rw[<- ez,La]
      refine iN (dr:=s.drawn) (u:=.frz (kN X.w zs ep res.2) (.ext λh=>h.get? s.heap.objs.size=ba (kN X.w zs ep res.2))) I so hk (JB _) #[ho,ho,#[_,ho],λh1 h2 q k=>k _ q] λhn=>#[_,_,zs.toList.map λz=>z.2.2,aI,#[#[rfl,rfl,rfl],zs.map zV,ep,res.2,rfl,?_,?_,hled,?_,?_],?_]
      ·rw[La,Ky];simp only[dt,Jv,JL]at hok;have:=hok.2; omega
      ·rw[La];simp only[dt,Jv,JL]at hok;exact hok.1.1
      ·rw[La,<- hsz]; exact λz=>.inr (hpl z)
      ·rw[O7,Lu,Lu]; rfl
      ·rw[<- ezt];have all:∀z∈zs.toList,Rel X.K (A++[s.heap.objs.size]) (br H s.heap.objs.size (.frz (kN X.w zs ep res.2) (.ext λh=>h.get? s.heap.objs.size=ba (kN X.w zs ep res.2)))) (T.w z.2.1) (.ref z.2.2):=λz hz'=>by
        obtain⟨j,g1,g2⟩:=hy z hz';obtain⟨k,b,g3,g4,g5⟩:=itm j _ (by simpa using g2)
        rw[g1]at g3;cases g3; cases g4
        exact g5.mono (cJ hn)
       clear hy ezt;generalize zs.toList=l at all
       induction l with
       | nil=>exact .nil
       | cons z l ih=>exact .cons (all z (.head _)) (ih λy hy=>all y (.tail _ hy))
    ·cases e
   ·cases e
  ·cases e
 ·cases e
def oq (hh:X.A.handled=gV):LCall X (.type "tuple") kZ:=by
 intro J s Y H A S xs vs us w S' I so rl rv e;unfold kZ at e;split at e
 ·rename_i i;split at e
  ·rename_i lo hi hr;split at e
   ·rename_i hb;cases e;obtain⟨a,ea,rfl⟩:=iO (xs:=[]) rl rv;obtain⟨b1,b2,b3,b4,b5⟩:=hb;have hH:H a=ba (.rng lo hi):=by
     unfold AW at hr;split at hr
     ·rename_i hx; cases hr; exact so.obj i _ a hx ea
     ·cases hr
    obtain⟨t,u,v,ho⟩:=I.hok a _ hH;have hn:LK lo hi 1=((hi - lo).toNat:Jx):=by rw[Qg]; split <;> omega
    refine jq hh ho (Sy b1 b2 b3 b4) hn b5 λh' tk acc hk hle hacc=>?_
    have hv:Vals ((JW (hi - lo).toNat).map λ(k:Jx)=>V.int (lo+(k:JI))) acc.toList:=by
     refine nU (by rw[Jp,J7,JS,hacc.1]) λi v u e1 e2=>?_
     rw[Jy,Js]at e1;obtain⟨k,e1,rfl⟩:=e1;obtain⟨hk,rfl⟩:=JF.mp e1;obtain⟨t,rfl⟩:=hacc.2 i u (by rw[<- K2]; exact e2)
     exact#[t,by simp]
    have hnn:H h'.objs.size=gV:=I.hok.fresh hle;refine#[.ref h'.objs.size,_,A,I.laid (a:=h'.objs.size) (o:=.tup ((JW (hi - lo).toNat).map λ(k:Jx)=>V.int (lo+(k:JI)))) (t':=tk) (λb o e=>Jq _ (hk b o e)) hle #[by simpa using b5,acc.toList,hv,?_],rfl,cj (.inl hnn),so.lay hnn,.tup (.inl (.inl aI)) (nV _)]
    exact#[_,JJ _ rfl,rfl,0,by simp]
   ·cases e
  ·exact jL J s Y H A S _ vs us w S' I so rl rv e
 ·exact jL J s Y H A S _ vs us w S' I so rl rv e
end
section
variable{X:Cx}{J:Jn (JA×Lo)}{Y:L2.St}{H:Hp}{s:Jt}{A:Jn JA}{S:aa}
def vN (hh:X.A.handled=gV)(hu:X.A.units+12 < cLine):LCall X (.builtin "min") xR:=by
 intro J s Y H A S xs vs us w S' I so rl rv e;cases rl with
 | nil=>cases e
 | cons r t=>
  cases t with
  | cons _ _=>cases r <;> cases e
  | nil=>
   cases rv with
   | cons ru rv2=>
    cases rv2;cases r with
    | ref ea=>
     simp only[xR]at e;split at e
     ·rename_i ws hw;split at e
      ·rename_i ks hk;split at e
       ·rename_i hc;rw[Js]at e;obtain⟨w',e1,e2⟩:=e;cases e2;obtain⟨vs',h1,r1⟩:=aZ so hw ea;obtain⟨its,rv1,p,hz⟩:=I.list h1;obtain rfl:_=Kj _:=ru;have hws:T.ws ks=ws:=W.ts_w hk;have hT:IsTs s.heap ks its:=eD I ks (hws ▸ r1) rv1;have hl:its.length=ks.length:=hT.length.symm;have hlw:ws.length=ks.length:=by rw[r1.length,L2.Vals.length rv1,hl]
        have hn:0 < ks.length:=by
         have:=(JF.mp e1).1;omega
        refine xN (items:=its.toArray) (bt:=lS ks) hh p.isList (by simpa [hl]using hn) (λi j vi vj s' Q E hk' hi hj hq=>?_) λv h' tk hv hk'=>?_
        ·have hi':i < ks.length:=by
          have:=(Lr.mp hi).1
          simpa [hl]using this
         have hj':j < ks.length:=by
          have:=(Lr.mp hj).1
          simpa [hl]using this
         have g:=hT.kept (h':=s'.heap) λb o _ e=>hk' b o e
         have e1:vi=its[i]'∅:=by
          have:=(Lr.mp hi).2
          simpa using this.symm
         have e2:vj=its[j]'∅:=by
          have:=(Lr.mp hj).2
          simpa using this.symm
         subst e1 e2;have b1:=b8 (ks:=ks) i hi';have b2:=b8 (ks:=ks) j hj';exact FK bT _ _ _ _ X.A.in1 s' _ ∅ ∅ (g.get i hi' ∅) (g.get j hj' ∅) (by rw[aD]; unfold bT; omega) (dA hc.2 hi' hj') X.prog X.w _ _ hq
        ·have hv':its[ig ks]?=ba v:=by
          have:its.toArray.size=ks.length:=by simpa using hl
          rw[this]at hv
          simpa [ig]using hv
         obtain⟨v',q1,q2⟩:=r1.get e1;obtain⟨u',q3,q4⟩:=L2.Vals.get rv1 q1;rw[hv']at q3;cases q3;exact#[v',H,A,I.kept hk',q4,.refl,so,q2]
       ·cases e
      ·cases e
     ·cases e
    | _=>cases e
def mN:∀ {ws:Jn W} {bs:Jn J6},ii ws=ba bs->ws=bs.map W.bl
 | [],bs,h=>by cases h; rfl
 | .bl b::ws,bs,h=>by
  simp only[ii,Js]at h;obtain⟨r,h1,h2⟩:=h;subst h2;rw[mN h1]; rfl
 | .non::_,_,h|.int _::_,_,h|.str _::_,_,h|.tup _::_,_,h|.ref _::_,_,h=>by cases h
def sn {bs:Jn J6}{vs:Jn V}{us:Jn Jr}(r:RelL X.K A H (bs.map W.bl) vs)(rv:Vals vs us):us=bs.map Na:=by
 induction bs generalizing vs us with
 | nil=>cases r; cases rv; rfl
 | cons b bs ih=>
  cases r with
  | cons r1 r2=>
   cases rv with
   | cons v1 v2=>
    cases r1;obtain rfl:_=Na b:=v1;rw[ih r2 v2]; rfl
def vO (bs:Jn J6):(JW bs.length).all (λi=>bs.getD i false)=bs.all id:=by
 induction bs with
 | nil=>rfl
 | cons b bs ih=>simp[Pg,SF,Q6]at ih ⊢; rw[ih]
def DF {id:Lc}{fb:Jn J6->J6}{g:Jn W->aa->Jw (W×aa)}(hg:∀xs S,g xs S=match xs with|[.ref i]=>(match fT S i with|some ws=>(ii ws).map λbs=>(.bl (fb bs),S)|none=>gV)|_=>gV)
  (hcall:∀ {s:Jt} {x:Jr} {Q:Jr->Jt->Prop} {E:Jr->Jt->Prop} {bs:Jn J6},wpAny (model X.prog X.w) X.A.in1 (pyIter x) (λit s₂=>∃I fp wr P St,it=.ref I/\Rx X.prog X.w X.A.in1 I fp wr bs.length P St/\St 0 s₂.heap/\TruthOf X.prog X.w X.A.in1 P (λi=>bs.getD i false)/\
   ∀h' tk,(∀b o,b∉wr->s₂.heap.get? b=ba o->h'.get? b=ba o)->Q (.bool (fb bs)) { s₂ with heap:=h',toks:=tk }) E s->wpAny (model X.prog X.w) X.A (call (.builtin id) [x]) Q E s)
  (hh:X.A.handled=gV):LCall X (.builtin id) g:=by
 intro J s Y H A S xs vs us w S' I so rl rv e;rw[hg]at e;cases rl with
 | nil=>cases e
 | cons r t=>
  cases t with
  | cons _ _=>cases r <;> cases e
  | nil=>
   cases rv with
   | cons ru rv2=>
    cases rv2;cases r with
    | @ref ri ad ea=>
     simp only at e;split at e
     ·rename_i ws hw;rw[Js]at e;obtain⟨bs,e1,e2⟩:=e;cases e2;obtain⟨vs',h1,r1⟩:=aZ so hw ea;obtain⟨its,rv1,p,hz⟩:=I.list h1;obtain rfl:_=Kj _:=ru;rw[mN e1]at r1;have hits:=sn r1 rv1;refine hcall (bs:=bs) ?_;refine MC p.isList ?_;have hlt:ad < s.heap.objs.size:=by obtain⟨_,ho,_⟩:=p.isList; exact JN ho
      have W:=Qy (prog:=X.prog) (w:=X.w) (A:=X.A.in1) hh s.heap.objs.size ad (J0 hlt) its.toArray;have hsz:its.toArray.size=bs.length:=by rw[JM,hits,Jp]
      rw[hsz]at W;refine#[_,_,_,_,_,rfl,W,#[#[_,JJ _ rfl,rfl,rfl],?_],λi v s' Q E hi hq=>?_,λh' tk hk=>?_]
      ·obtain⟨o,ho,hc⟩:=p.isList;exact#[o,Jq _ ho,hc]
      ·have hb:bs[i]?.map Na=ba v:=by rw[<- Jy,<- hits]; simpa using hi
       cases q:bs[i]? with
       | none=>rw[q]at hb; cases hb
       | some b=>
        rw[q]at hb;cases hb;have eb:bs.getD i false=b:=by simp[q]
        have hq:Q (bs.getD i false) s':=hq;rw[eb]at hq;exact L7 hq
      ·refine#[.bl (fb bs),H,A,I.kept (λb o e=>hk b o (λz=>?_) (Jq _ e)),rfl,.refl,so,.bl]
       have hb:=JN e;rw[JD.mp z]at hb;exact K8 _ hb
     ·cases e
    | _=>cases e
def vP (hh:X.A.handled=gV):LCall X (.builtin "all") DD:=
 DF (fb:=λbs=>bs.all id) (λxs S=>rfl) (λ{s x Q E bs} h=>call_all_walk (LH h (λit s₂ #[I,fp,wr,P,St',a,b,c,d,f]=>#[I,fp,wr,_,P,St',_,a,b,c,d,λh' tk hk=>by rw[vO]; exact f h' tk hk]) λ_ _ e=>e)) hh
end
noncomputable abbrev FA:=Fm->aa->Jw (Jn W×aa)
noncomputable abbrev FT:=Fm->aa->Jw (J6×aa)
inductive Out where
 | nx (Z:Fm)|rt (w:W)|bk (Z:Fm)|ct (Z:Fm)
noncomputable abbrev FS:=Fm->aa->Jw (Out×aa)
section
variable (X:Cx)
inductive tE (f:FE)(Y:L2.St)(H:Hp)(Q:VK):Prop
 | mk (A:Jn JA) (Z:Fm) (S:aa) (w:W) (S':aa) (er:EnvRel X.K A H Z Y) (so:StoreOk X.w X.K A H S) (e:f Z S=ba (w,S')) (q:∀v H',EndV X.w X.K A H S' w v H'->Q v H'):tE f Y H Q
abbrev EndB (A:Jn JA)(H:Hp)(S':aa)(k:J6):J6->Hp->Prop:=λb H'=>b=k/\∃A',Ext X.K A H A' H'/\StoreOk X.w X.K A' H' S'
inductive tT (f:FT)(Y:L2.St)(H:Hp)(Q:J6->Hp->Prop):Prop
 | mk (A:Jn JA) (Z:Fm) (S:aa) (k:J6) (S':aa) (er:EnvRel X.K A H Z Y) (so:StoreOk X.w X.K A H S) (e:f Z S=ba (k,S')) (q:∀b H',EndB X A H S' k b H'->Q b H'):tT f Y H Q
inductive EndA (A:Jn JA)(H:Hp)(S':aa)(ws:Jn W)(vs:Jn V)(H':Hp):Prop
 | mk (A':Jn JA) (e:Ext X.K A H A' H') (so:StoreOk X.w X.K A' H' S') (r:RelL X.K A' H' ws vs):EndA A H S' ws vs H'
inductive tA (f:FA)(Y:L2.St)(H:Hp)(Q:Jn V->Hp->Prop):Prop
 | mk (A:Jn JA) (Z:Fm) (S:aa) (ws:Jn W) (S':aa) (er:EnvRel X.K A H Z Y) (so:StoreOk X.w X.K A H S) (e:f Z S=ba (ws,S')) (q:∀vs H',EndA X A H S' ws vs H'->Q vs H'):tA f Y H Q
inductive EndF (A:Jn JA)(H:Hp)(o:Out)(S':aa)(c:Fm->Out)(Y':L2.St)(H':Hp):Prop
 | mk (Z':Fm) (A':Jn JA) (eo:o=c Z') (e:Ext X.K A H A' H') (so:StoreOk X.w X.K A' H' S') (er:EnvRel X.K A' H' Z' Y'):EndF A H o S' c Y' H'
inductive EndR (A:Jn JA)(H:Hp)(o:Out)(S':aa)(v:V)(H':Hp):Prop
 | mk (w:W) (A':Jn JA) (eo:o=.rt w) (e:Ext X.K A H A' H') (so:StoreOk X.w X.K A' H' S') (r:Rel X.K A' H' w v):EndR A H o S' v H'
abbrev EndS (A:Jn JA)(H:Hp)(o:Out)(S':aa):Ends where
 nx:=EndF X A H o S' .nx
 rt:=EndR X A H o S'
 bk:=EndF X A H o S' .bk
 ct:=EndF X A H o S' .ct
structure Imp (E D:Ends):Prop where
 nx:∀Y H,E.nx Y H->D.nx Y H
 rt:∀v H,E.rt v H->D.rt v H
 bk:∀Y H,E.bk Y H->D.bk Y H
 ct:∀Y H,E.ct Y H->D.ct Y H
inductive tS (f:FS)(D:Ends)(Y:L2.St)(H:Hp):Prop
 | mk (A:Jn JA) (Z:Fm) (S:aa) (o:Out) (S':aa) (er:EnvRel X.K A H Z Y) (so:StoreOk X.w X.K A H S) (e:f Z S=ba (o,S')) (d:Imp (EndS X A H o S') D):tS f D Y H
noncomputable abbrev GE (e:J3)(f:FE):Prop:=PE X e (tE X f)
noncomputable abbrev GT (e:J3)(f:FT):Prop:=PT X e (tT X f)
noncomputable abbrev GW (e:J3)(f:FT):Prop:=PW X e (tT X f)
noncomputable abbrev GA (es:Jn J3)(f:FA):Prop:=PA X es (tA X f)
noncomputable abbrev GS (st:MK)(f:FS):Prop:=PS X st (tS X f)
noncomputable abbrev GSs (sts:Jn MK)(f:FS):Prop:=PSs X sts (tS X f)
end
def Imp.trans {E D F:Ends}(a:Imp E D)(b:Imp D F):Imp E F:=#[λ_ _ h=>b.nx _ _ (a.nx _ _ h),λ_ _ h=>b.rt _ _ (a.rt _ _ h),λ_ _ h=>b.bk _ _ (a.bk _ _ h),λ_ _ h=>b.ct _ _ (a.ct _ _ h)]
section
variable{X:Cx}
def GE.of {e:J3}{t:TE}{f:FE}(h:PE X e t)(hf:∀(Y:L2.St) (H:Hp) (A:Jn JA) (Z:Fm) (S:aa) (w:W) (S':aa),EnvRel X.K A H Z Y->StoreOk X.w X.K A H S->f Z S=ba (w,S')->∀Q:VK,(∀v H',EndV X.w X.K A H S' w v H'->Q v H')->t Y H Q):GE X e f:=
 λJ s Y H Q I #[A,Z,S,w,S',er,so,e1,hq]=>h J s Y H Q I (hf Y H A Z S w S' er so e1 Q hq)
def GT.of {e:J3}{t:TT}{f:FT}(h:PT X e t)(hf:∀(Y:L2.St) (H:Hp) (A:Jn JA) (Z:Fm) (S:aa) (k:J6) (S':aa),EnvRel X.K A H Z Y->StoreOk X.w X.K A H S->f Z S=ba (k,S')->∀Q:J6->Hp->Prop,(∀b H',EndB X A H S' k b H'->Q b H')->t Y H Q):GT X e f:=
 λJ s Y H Q I #[A,Z,S,w,S',er,so,e1,hq]=>h J s Y H Q I (hf Y H A Z S w S' er so e1 Q hq)
def GW.of {e:J3}{t:TT}{f:FT}(h:PW X e t)(hf:∀(Y:L2.St) (H:Hp) (A:Jn JA) (Z:Fm) (S:aa) (k:J6) (S':aa),EnvRel X.K A H Z Y->StoreOk X.w X.K A H S->f Z S=ba (k,S')->∀Q:J6->Hp->Prop,(∀b H',EndB X A H S' k b H'->Q b H')->t Y H Q):GW X e f:=
 λwh J s Y H Q I #[A,Z,S,w,S',er,so,e1,hq]=>h wh J s Y H Q I (hf Y H A Z S w S' er so e1 Q hq)
def GA.of {es:Jn J3}{t:TA}{f:FA}(h:PA X es t)(hf:∀(Y:L2.St) (H:Hp) (A:Jn JA) (Z:Fm) (S:aa) (ws:Jn W) (S':aa),EnvRel X.K A H Z Y->StoreOk X.w X.K A H S->f Z S=ba (ws,S')->∀Q:Jn V->Hp->Prop,(∀vs H',EndA X A H S' ws vs H'->Q vs H')->t Y H Q):GA X es f:=
 λpos J s Y H Q I #[A,Z,S,w,S',er,so,e1,hq]=>h pos J s Y H Q I (hf Y H A Z S w S' er so e1 Q hq)
def GS.of {st:MK}{t:TS}{f:FS}(h:PS X st t)(hf:∀(Y:L2.St) (H:Hp) (A:Jn JA) (Z:Fm) (S:aa) (o:Out) (S':aa),EnvRel X.K A H Z Y->StoreOk X.w X.K A H S->f Z S=ba (o,S')->∀D:Ends,Imp (EndS X A H o S') D->t D Y H):GS X st f:=
 λJ s Y H D I #[A,Z,S,o,S',er,so,e1,hq]=>h J s Y H D I (hf Y H A Z S o S' er so e1 D hq)
def GSs.of {st:Jn MK}{t:TS}{f:FS}(h:PSs X st t)(hf:∀(Y:L2.St) (H:Hp) (A:Jn JA) (Z:Fm) (S:aa) (o:Out) (S':aa),EnvRel X.K A H Z Y->StoreOk X.w X.K A H S->f Z S=ba (o,S')->∀D:Ends,Imp (EndS X A H o S') D->t D Y H):GSs X st f:=
 λJ s Y H D I #[A,Z,S,o,S',er,so,e1,hq]=>h J s Y H D I (hf Y H A Z S o S' er so e1 D hq)
def EndV.after {A A1:Jn JA}{H H1:Hp}{S':aa}{w:W}{v:V}{H':Hp}(e:Ext X.K A H A1 H1)(h:EndV X.w X.K A1 H1 S' w v H'):EndV X.w X.K A H S' w v H':=by
 obtain⟨A',x,y,z⟩:=h;exact#[A',e.trans x,y,z]
def EndB.after {A A1:Jn JA}{H H1:Hp}{S':aa}{k b:J6}{H':Hp}(e:Ext X.K A H A1 H1)(h:EndB X A1 H1 S' k b H'):EndB X A H S' k b H':=by
 obtain⟨h1,A',x,y⟩:=h;exact#[h1,A',e.trans x,y]
def EndS.after {A A1:Jn JA}{H H1:Hp}{S':aa}{o:Out}(e:Ext X.K A H A1 H1):Imp (EndS X A1 H1 o S') (EndS X A H o S'):=
 #[λ_ _ #[Z',A',a,b,c,d]=>#[Z',A',a,e.trans b,c,d],λ_ _ #[Z',A',a,b,c,d]=>#[Z',A',a,e.trans b,c,d],λ_ _ #[Z',A',a,b,c,d]=>#[Z',A',a,e.trans b,c,d],λ_ _ #[Z',A',a,b,c,d]=>#[Z',A',a,e.trans b,c,d]]
abbrev fC (w:W):FE:=λ_ S=>ba (w,S)
abbrev fV (i:Jx):FE:=λZ S=>match Z[i]? with
 | some (ba w)=>ba (w,S)
 | _=>gV
def qc {e:J3}{v:V}{w:W}(h:PE X e (tC v))(r:∀A H,Rel X.K A H w v):GE X e (fC w):=
 GE.of h λY H A Z S w' S' er so e Q hq=>by cases e; exact hq _ _ (.here so (r A H))
def HS {i:Jx}{e:J3}(h:PE X e (CU i)):GE X e (fV i):=GE.of h λY H A Z S w S' er so e Q hq=>by
 unfold fV at e;split at e
 ·rename_i w' hw;cases e;obtain⟨v,h1,h2⟩:=er.2 i _ hw;exact#[v,h1,hq _ _ (.here so h2)]
 ·cases e
abbrev AZ (g:W->W->aa->Jw (W×aa))(fa fb:FE):FE:=λZ S=>match fa Z S with
 | some (x,S1)=>match fb Z S1 with
  | some (y,S2)=>g x y S2
  | none=>gV
 | none=>gV
def Hc {fa fb:FE}{g:W->W->aa->Jw (W×aa)}{Z:Fm}{S:aa}{r:W×aa}(e:AZ g fa fb Z S=ba r):∃x S1 y S2,fa Z S=ba (x,S1)/\fb Z S1=ba (y,S2)/\g x y S2=ba r:=by
 unfold AZ at e;split at e
 ·rename_i x S1 h1;split at e
  ·rename_i y S2 h2;exact#[x,S1,y,S2,h1,h2,e]
  ·cases e
 ·cases e
def iV {fa fb:FE}{Z:Fm}{S S1 S2:aa}{x y:W}{Y:L2.St}{H:Hp}{A:Jn JA}{R:V->V->Hp->Prop}(er:EnvRel X.K A H Z Y)(so:StoreOk X.w X.K A H S)(h1:fa Z S=ba (x,S1))(h2:fb Z S1=ba (y,S2))
  (h:∀a b H2 A2,Ext X.K A H A2 H2->StoreOk X.w X.K A2 H2 S2->Rel X.K A2 H2 x a->Rel X.K A2 H2 y b->R a b H2):tE X fa Y H λa H1=>tE X fb Y H1 λb H2=>R a b H2:=by
 refine#[A,Z,S,x,S1,er,so,h1,λa H1 #[A1,e1,o1,r1]=>?_]
 refine#[A1,Z,S1,y,S2,er.mono e1,o1,h2,λb H2 #[A2,e2,o2,r2]=>?_]
 exact h a b H2 A2 (e1.trans e2) o2 (r1.mono e2) r2
inductive rOp (X:Cx)(g:W->W->aa->Jw (W×aa))(a b:V)(H:Hp)(Q:VK):Prop
 | mk (A:Jn JA) (S:aa) (x y w:W) (S':aa) (so:StoreOk X.w X.K A H S) (rx:Rel X.K A H x a) (ry:Rel X.K A H y b) (e:g x y S=ba (w,S')) (q:∀v H',EndV X.w X.K A H S' w v H'->Q v H'):rOp X g a b H Q
inductive rCall (X:Cx)(g:Jn W->aa->Jw (W×aa))(vs:Jn V)(H:Hp)(Q:VK):Prop
 | mk (A:Jn JA) (S:aa) (ws:Jn W) (w:W) (S':aa) (so:StoreOk X.w X.K A H S) (rl:RelL X.K A H ws vs) (e:g ws S=ba (w,S')) (q:∀v H',EndV X.w X.K A H S' w v H'->Q v H'):rCall X g vs H Q
def LOp.opr {f:Jr->Jr->Td Jr}{g:W->W->aa->Jw (W×aa)}(h:LOp X f g):OpR X f (rOp X g):=by
 intro J s Y H a b u v Q I ru rv ⟨A,S,x,y,w,S',so,rx,ry,e,hq⟩;exact bq (h J s Y H A S x y a b u v w S' I so rx ru ry rv e) λu' s' #[v',H',A',I',r',e1,o1,z1]=>#[v',H',I',r',hq v' H' #[A',e1,o1,z1]]
def Cr {a b:J3}{op:QI}{pos:Mo}{fa fb:FE}{g:W->W->aa->Jw (W×aa)}(ho:LOp X (binaryOp op) g)(ha:GE X a fa)(hb:GE X b fb):GE X (.BinOp a op b pos) (AZ g fa fb):=
 GE.of (Ff ho.opr ha hb) λY H A Z S w S' er so e Q hq=>by
  obtain⟨x,S1,y,S2,h1,h2,h3⟩:=Hc e;exact iV er so h1 h2 λa b H2 A2 e2 o2 r1 r2=>#[A2,S2,x,y,w,S',o2,r1,r2,h3,λv H' z=>hq v H' (z.after e2)]
abbrev yb (fa:FE):FE:=λZ S=>match fa Z S with
 | some (.int i,S1)=>ba (.int (-i),S1)
 | _=>gV
def yc {a:J3}{pos:Mo}{fa:FE}(ha:GE X a fa):GE X (.UnaryOp .USub a pos) (yb fa):=
 GE.of (Fg Do ha) λY H A Z S w S' er so e Q hq=>by
  unfold yb at e;split at e
  ·rename_i i S1 h1;cases e;refine#[A,Z,S,_,_,er,so,h1,λv H1 #[A1,e1,o1,r1]=>?_]
   cases r1;exact#[_,rfl,hq _ _ #[A1,e1,o1,.int]]
  ·cases e
abbrev A6 (o:COp)(fa fb:FE):FE:=AZ (cZ o) fa fb
def DH {a b:J3}{o:COp}{pos:Mo}{fa fb:FE}(hu:X.A.units+hZ < cLine)(ha:GE X a fa)(hb:GE X b fb)(hm:behindInMarks o.py b=false):GE X (.Compare a [o.py] [b] pos) (A6 o fa fb):=
 GE.of (Ar (pP hu o).opr ha hb hm) λY H A Z S w S' er so e Q hq=>by
  obtain⟨x,S1,y,S2,h1,h2,h3⟩:=Hc e;exact iV er so h1 h2 λa b H2 A2 e2 o2 r1 r2=>#[A2,S2,x,y,w,S',o2,r1,r2,h3,λv H' z=>hq v H' (z.after e2)]
abbrev yd (f:FE):FT:=λZ S=>match f Z S with
 | some (.bl k,S')=>ba (k,S')
 | _=>gV
def DI {a b:J3}{o:COp}{pos:Mo}{fa fb:FE}(hu:X.A.units+hZ < cLine)(ha:GE X a fa)(hb:GE X b fb)(hm:behindInMarks o.py b=false):GT X (.Compare a [o.py] [b] pos) (yd (A6 o fa fb)):=
 GT.of (As (pP hu o).opr ha hb hm) λY H A Z S k S' er so e Q hq=>by
  unfold yd at e;split at e
  ·rename_i k' S'' h0;cases e;obtain⟨x,S1,y,S2,h1,h2,h3⟩:=Hc h0;refine iV er so h1 h2 λa b H2 A2 e2 o2 r1 r2=>#[A2,S2,x,y,_,_,o2,r1,r2,h3,λv H' #[A',z1,z2,z3]=>?_]
   cases z3;exact#[k,rfl,hq _ _ #[rfl,A',e2.trans z1,z2]]
  ·cases e
abbrev gO (f:FE):FT:=λZ S=>match f Z S with
 | some (w,S')=>(gM S' w).map λk=>(k,S')
 | none=>gV
def cx {e:J3}{f:FE}(h:GE X e f)(he:∀whole,isTrue e X.env whole=(do let v <- whole; standAt e.pos; holding [v] (truthy v))):GT X e (gO f):=by
 intro J s Y H Q I ⟨A,Z,S,k,S',er,so,e1,hq⟩;unfold gO at e1;split at e1
 ·rename_i w S1 h1;rw[Js]at e1;obtain⟨k',ek,e2⟩:=e1;cases e2;refine isTrue_plain (bq (h J s Y H (EndV X.w X.K A H _ w) I #[A,Z,S,w,_,er,so,h1,λ_ _ z=>z]) λv s1 #[x,H1,I1,r1,A1,e1,o1,z1]=>?_) (he _)
  exact HQ I1 o1 z1 r1 ek λs' I'=>#[H1,I',hq _ _ #[rfl,A1,e1,o1]]
 ·cases e1
abbrev ye (f g:FT):FT:=λZ S=>match f Z S with
 | some (true,S1)=>g Z S1
 | some (false,S1)=>ba (false,S1)
 | none=>gV
abbrev FL (f g:FT):FT:=λZ S=>match f Z S with
 | some (true,S1)=>ba (true,S1)
 | some (false,S1)=>g Z S1
 | none=>gV
abbrev A7 (f:FT):FT:=λZ S=>match f Z S with
 | some (k,S1)=>ba (!k,S1)
 | none=>gV
def yf {f g:FT}{Y:L2.St}{H:Hp}{A:Jn JA}{Z:Fm}{S:aa}{k:J6}{S':aa}(er:EnvRel X.K A H Z Y)(so:StoreOk X.w X.K A H S)(e:ye f g Z S=ba (k,S'))(Q:J6->Hp->Prop)(hq:∀b H',EndB X A H S' k b H'->Q b H') :
  E2 (tT X f) (tT X g) Y H Q:=by
 unfold ye at e;split at e
 ·rename_i S1 h1;refine#[A,Z,S,true,S1,er,so,h1,λb H1 #[z0,A1,z1,z2]=>?_]
  subst z0;rw[JZ rfl];exact#[A1,Z,S1,k,S',er.mono z1,z2,e,λb H' q=>hq b H' (q.after z1)]
 ·rename_i S1 h1;cases e;refine#[A,Z,S,false,_,er,so,h1,λb H1 #[z0,A1,z1,z2]=>?_]
  subst z0;rw[Kb J1];exact hq _ _ #[rfl,A1,z1,z2]
 ·cases e
def Ba {f g:FT}{Y:L2.St}{H:Hp}{A:Jn JA}{Z:Fm}{S:aa}{k:J6}{S':aa}(er:EnvRel X.K A H Z Y)(so:StoreOk X.w X.K A H S)(e:FL f g Z S=ba (k,S'))(Q:J6->Hp->Prop)(hq:∀b H',EndB X A H S' k b H'->Q b H') :
  IN (tT X f) (tT X g) Y H Q:=by
 unfold FL at e;split at e
 ·rename_i S1 h1;cases e;refine#[A,Z,S,true,_,er,so,h1,λb H1 #[z0,A1,z1,z2]=>?_]
  subst z0;rw[JZ rfl];exact hq _ _ #[rfl,A1,z1,z2]
 ·rename_i S1 h1;refine#[A,Z,S,false,S1,er,so,h1,λb H1 #[z0,A1,z1,z2]=>?_]
  subst z0;rw[Kb J1];exact#[A1,Z,S1,k,S',er.mono z1,z2,e,λb H' q=>hq b H' (q.after z1)]
 ·cases e
def Bb {a:J3}{pos:Mo}{f:FT}(h:GT X a f):GW X (.BoolOp .And [a] pos) f:=Aj h
def DJ {a:J3}{pos:Mo}{f:FT}(h:GT X a f):GW X (.BoolOp .Or [a] pos) f:=CV h
def DK {a b:J3}{r:Jn J3}{pos:Mo}{f g:FT}(h:GT X a f)(h2:GW X (.BoolOp .And (b::r) pos) g):GW X (.BoolOp .And (a::b::r) pos) (ye f g):=
 GW.of (CW h h2) λY H A Z S k S' er so e Q hq=>yf er so e Q hq
def FM {a b:J3}{r:Jn J3}{pos:Mo}{f g:FT}(h:GT X a f)(h2:GW X (.BoolOp .Or (b::r) pos) g):GW X (.BoolOp .Or (a::b::r) pos) (FL f g):=
 GW.of (E3 h h2) λY H A Z S k S' er so e Q hq=>Ba er so e Q hq
def DL {a:J3}{pos:Mo}{f:FT}(h:GT X a f):GT X (.UnaryOp .Not a pos) (A7 f):=
 GT.of (CY h) λY H A Z S k S' er so e Q hq=>by
  unfold A7 at e;split at e
  ·rename_i k1 S1 h1;cases e;refine#[A,Z,S,k1,_,er,so,h1,λb H1 #[z0,A1,z1,z2]=>?_]
   subst z0;exact hq _ _ #[rfl,A1,z1,z2]
  ·cases e
abbrev t4 (f g:FE):FE:=λZ S=>match f Z S with
 | some (.bl true,S1)=>g Z S1
 | some (.bl false,S1)=>ba (.bl false,S1)
 | _=>gV
abbrev Bc (f g:FE):FE:=λZ S=>match f Z S with
 | some (.bl true,S1)=>ba (.bl true,S1)
 | some (.bl false,S1)=>g Z S1
 | _=>gV
abbrev t8 (f:FE):FE:=λZ S=>match f Z S with
 | some (.bl k,S1)=>ba (.bl (!k),S1)
 | _=>gV
def DM {a:J3}{op:Tu}{pos:Mo}{f:FE}(h:GE X a f):GE X (.BoolOp op [a] pos) f:=CZ h
def DN {a b:J3}{r:Jn J3}{pos:Mo}{f g:FE}(h:GE X a f)(h2:GE X (.BoolOp .And (b::r) pos) g):GE X (.BoolOp .And (a::b::r) pos) (t4 f g):=
 GE.of (C0 h h2) λY H A Z S w S' er so e Q hq=>by
  unfold t4 at e;split at e
  ·rename_i S1 h1;refine#[A,Z,S,_,S1,er,so,h1,λv H1 #[A1,z1,z2,z3]=>?_]
   cases z3;refine#[true,rfl,?_];rw[JZ rfl];exact#[A1,Z,S1,w,S',er.mono z1,z2,e,λb H' q=>hq b H' (q.after z1)]
  ·rename_i S1 h1;cases e;refine#[A,Z,S,_,_,er,so,h1,λv H1 #[A1,z1,z2,z3]=>?_]
   cases z3;refine#[false,rfl,?_];rw[Kb J1];exact hq _ _ #[A1,z1,z2,.bl]
  ·cases e
def FN {a b:J3}{r:Jn J3}{pos:Mo}{f g:FE}(h:GE X a f)(h2:GE X (.BoolOp .Or (b::r) pos) g):GE X (.BoolOp .Or (a::b::r) pos) (Bc f g):=
 GE.of (E6 h h2) λY H A Z S w S' er so e Q hq=>by
  unfold Bc at e;split at e
  ·rename_i S1 h1;cases e;refine#[A,Z,S,_,_,er,so,h1,λv H1 #[A1,z1,z2,z3]=>?_]
   cases z3;refine#[true,rfl,?_];rw[JZ rfl];exact hq _ _ #[A1,z1,z2,.bl]
  ·rename_i S1 h1;refine#[A,Z,S,_,S1,er,so,h1,λv H1 #[A1,z1,z2,z3]=>?_]
   cases z3;refine#[false,rfl,?_];rw[Kb J1];exact#[A1,Z,S1,w,S',er.mono z1,z2,e,λb H' q=>hq b H' (q.after z1)]
  ·cases e
def DO {a:J3}{pos:Mo}{f:FE}(h:GE X a f):GE X (.UnaryOp .Not a pos) (t8 f):=
 GE.of (C3 h) λY H A Z S w S' er so e Q hq=>by
  unfold t8 at e;split at e
  ·rename_i k1 S1 h1;cases e;refine#[A,Z,S,_,_,er,so,h1,λb H1 #[A1,z1,z2,z3]=>?_]
   cases z3;exact#[_,rfl,hq _ _ #[A1,z1,z2,.bl]]
  ·cases e
abbrev Bd (c:FT)(f g:FE):FE:=λZ S=>match c Z S with
 | some (true,S1)=>f Z S1
 | some (false,S1)=>g Z S1
 | none=>gV
def DP {c a b:J3}{pos:Mo}{fc:FT}{f g:FE}(hc:GT X c fc)(ha:GE X a f)(hb:GE X b g):GE X (.IfExp c a b pos) (Bd fc f g):=
 GE.of (wL hc ha hb) λY H A Z S w S' er so e Q hq=>by
  unfold Bd at e;split at e
  ·rename_i S1 h1;refine#[A,Z,S,_,S1,er,so,h1,λb H1 #[z0,A1,z1,z2]=>?_]
   subst z0;rw[JZ rfl];exact#[A1,Z,S1,w,S',er.mono z1,z2,e,λb H' q=>hq b H' (q.after z1)]
  ·rename_i S1 h1;refine#[A,Z,S,_,S1,er,so,h1,λb H1 #[z0,A1,z1,z2]=>?_]
   subst z0;rw[Kb J1];exact#[A1,Z,S1,w,S',er.mono z1,z2,e,λb H' q=>hq b H' (q.after z1)]
  ·cases e
abbrev iW:FA:=λ_ S=>ba ([],S)
abbrev dF (f:FE)(g:FA):FA:=λZ S=>match f Z S with
 | some (w,S1)=>match g Z S1 with
  | some (ws,S2)=>ba (w::ws,S2)
  | none=>gV
 | none=>gV
def DQ:GA X [] iW:=GA.of wY λY H A Z S ws S' er so e Q hq=>by cases e; exact hq _ _ #[A,.refl,so,.nil]
def Be {e:J3}{es:Jn J3}{f:FE}{g:FA}(h:GE X e f)(h2:GA X es g)(hs:starEach (e::es) X.env=(false,eval e X.env)::starEach es X.env):GA X (e::es) (dF f g):=
 GA.of (nH h h2 hs) λY H A Z S ws S' er so e Q hq=>by
  unfold dF at e;split at e
  ·rename_i w S1 h1;split at e
   ·rename_i ws2 S2 h2;cases e;refine#[A,Z,S,w,S1,er,so,h1,λv H1 #[A1,z1,z2,z3]=>?_]
    refine#[A1,Z,S1,ws2,_,er.mono z1,z2,h2,λvs H2 #[A2,y1,y2,y3]=>?_]
    exact hq _ _ #[A2,z1.trans y1,y2,.cons (z3.mono y1) y3]
   ·cases e
  ·cases e
abbrev yg (f:FA):FE:=λZ S=>match f Z S with
 | some (ws,S1)=>rO S1 ws
 | none=>gV
abbrev yh (f:FA):FE:=λZ S=>match f Z S with
 | some (ws,S1)=>lV S1 ws
 | none=>gV
def yi {es:Jn J3}{k:Jx}{pos:Mo}{f:FA}(h:GA X es f):GE X (.Tuple es k pos) (yg f):=
 GE.of (Dr h) λY H A Z S w S' er so e Q hq=>by
  unfold yg at e;split at e
  ·rename_i ws S1 h1;obtain⟨hl,rfl,rfl⟩:=tq e;refine#[A,Z,S,ws,_,er,so,h1,λvs H1 #[A1,z1,z2,z3]=>#[by rw[<- z3.length]; exact hl,λp hp=>?_]]
   exact hq _ _ (EndV.after z1 (.tup z2 z3 hp))
  ·cases e
def yj {es:Jn J3}{pos:Mo}{f:FA}(h:GA X es f):GE X (.List es pos) (yh f):=
 GE.of (Ds h) λY H A Z S w S' er so e Q hq=>by
  unfold yh at e;split at e
  ·rename_i ws S1 h1;obtain⟨hl,rfl,rfl⟩:=j8 e;refine#[A,Z,S,ws,_,er,so,h1,λvs H1 #[A1,z1,z2,z3]=>#[by rw[<- z3.length]; exact hl,λp hp=>?_]]
   exact hq _ _ (EndV.after z1 (.lst z2 z3 hp))
  ·cases e
abbrev jR (g:Jn W->aa->Jw (W×aa))(f:FA):FE:=λZ S=>match f Z S with
 | some (ws,S1)=>g ws S1
 | none=>gV
def LCall.callr {v:Jr}{g:Jn W->aa->Jw (W×aa)}(h:LCall X v g):CallR X v (rCall X g):=by
 intro J s Y H vs us Q I rv ⟨A,S,ws,w,S',so,rl,e,hq⟩;exact bq (h J s Y H A S ws vs us w S' I so rl rv e) λu' s' #[v',H',A',I',r',e1,o1,z1]=>#[v',H',I',r',hq v' H' #[A',e1,o1,z1]]
def mO {g:Jn W->aa->Jw (W×aa)}{f:FA}{Y:L2.St}{H:Hp}{A:Jn JA}{Z:Fm}{S:aa}{w:W}{S':aa}(er:EnvRel X.K A H Z Y)(so:StoreOk X.w X.K A H S)(e:jR g f Z S=ba (w,S'))(Q:VK)(hq:∀v H',EndV X.w X.K A H S' w v H'->Q v H') :
  tA X f Y H λvs H1=>rCall X g vs H1 Q:=by
 unfold jR at e;split at e
 ·rename_i ws S1 h1;exact#[A,Z,S,ws,S1,er,so,h1,λvs H1 #[A1,z1,z2,z3]=>#[A1,S1,ws,w,S',z2,z3,e,λv H' q=>hq v H' (q.after z1)]]
 ·cases e
def qd {id:Lc}{x:JV}{e:J3}{es:Jn J3}{p pos:Mo}{f:FA}{g:Jn W->aa->Jw (W×aa)}(hc:LCall X (.builtin id) g)(hg:Gl X x)(hm:X.mg x=gV)(hv:bootBuiltins x=ba (.builtin id))(ha:GA X (e::es) f)
  (hn:x≠"__name__") (hdb:(x==("__debug__" : JV))=false) (hs:starEach (e::es) X.env=(false,eval e X.env)::starEach es X.env) (hpl:(backTo pos (starEach es X.env)).any (·.1)=false):GE X (.Call (.Name x p) (e::es) [] pos) (jR g f):=
 GE.of (pe hc.callr hg hm hv ha hn hdb hs hpl) λY H A Z S w S' er so e Q hq=>mO er so e Q hq
def qf {id:Lc}{x:JV}{e:J3}{es:Jn J3}{p pos:Mo}{f:FA}{g:Jn W->aa->Jw (W×aa)}(hc:LCall X (.type id) g)(hg:Gl X x)(hm:X.mg x=gV)(hv:bootBuiltins x=ba (.type id))(ha:GA X (e::es) f)
  (hn:x≠"__name__") (hdb:(x==("__debug__" : JV))=false) (hs:starEach (e::es) X.env=(false,eval e X.env)::starEach es X.env) (hpl:(backTo pos (starEach es X.env)).any (·.1)=false):GE X (.Call (.Name x p) (e::es) [] pos) (jR g f):=
 GE.of (vc hc.callr hg hm hv ha hn hdb hs hpl) λY H A Z S w S' er so e Q hq=>mO er so e Q hq
end
abbrev tyOk (T:Lc)(S:aa):W->J6
 | .str _=>T == "str"
 | .ref i=>(T == "list" && (fT S i).isSome)||(T == "dict" && (jN S i).isSome)
 | _=>false
abbrev ET (T:Lc)(g:W->Jn W->aa->Jw (W×aa))(fo:FE)(f:FA):FE:=λZ S=>match fo Z S with
 | some (x,S1)=>if tyOk T S1 x then match f Z S1 with
  | some (ws,S2)=>g x ws S2
  | none=>gV
  else gV
 | none=>gV
abbrev HU (fa fb:FE):FE:=AZ nY fa fb
noncomputable abbrev FO:=Fm->aa->Jw (Jw JI×aa)
abbrev DR:FO:=λ_ S=>ba (gV,S)
abbrev t9 (f:FE):FO:=λZ S=>match f Z S with
 | some (.int i,S1)=>ba (ba i,S1)
 | _=>gV
abbrev FP (fa:FE)(fl fh:FO):FE:=λZ S=>match fa Z S with
 | some (x,S1)=>match fl Z S1 with
  | some (lo,S2)=>match fh Z S2 with
   | some (hi,S3)=>rQ x lo hi S3
   | none=>gV
  | none=>gV
 | none=>gV
section
variable{X:Cx}
inductive rMeth (X:Cx)(g:W->Jn W->aa->Jw (W×aa))(a:V)(vs:Jn V)(H:Hp)(Q:VK):Prop
 | mk (A:Jn JA) (S:aa) (x:W) (ws:Jn W) (w:W) (S':aa) (so:StoreOk X.w X.K A H S) (rx:Rel X.K A H x a) (rl:RelL X.K A H ws vs) (e:g x ws S=ba (w,S')) (q:∀v H',EndV X.w X.K A H S' w v H'->Q v H'):rMeth X g a vs H Q
def tyOk.is {J:Jn (JA×Lo)}{Y:L2.St}{s:Jt}{A:Jn JA}{H:Hp}{S:aa}{T:Lc}{x:W}{a:V}{v:Jr}(I:Inv X J Y H s)(so:StoreOk X.w X.K A H S)(r:Rel X.K A H x a)(rv:RelV a v)(h:tyOk T S x=true) :
  s.TypeIs v T/\∀b,v=.ref b->∃ob,s.heap.get? b=ba ob/\ob.dict=gV:=by
 cases r with
 | str=>exact xk I rv (show HL X.K T (.str _) H from eq_of_beq h)
 | ref ea=>
  simp only[tyOk,LF,Jv]at h;rcases h with⟨h1,h2⟩|⟨h1,h2⟩
  ·obtain⟨xs,hx⟩:=KD.mp h2;obtain⟨vs,h3,_⟩:=aZ so hx ea;exact xk I rv (show HL X.K T (.ref _) H from .inl #[eq_of_beq h1,vs,h3])
  ·obtain⟨U,hx⟩:=KD.mp h2;obtain⟨xs,rd,_⟩:=fY so hx ea;obtain⟨_,_,_,o,es,ep,q1,q2,q3,q4⟩:=cp I rd;have e:=eq_of_beq h1;subst e;obtain rfl:v=Kj _:=rv;exact#[#[o,q1,q2.1],λb e=>by cases e; exact#[o,q1,q2.2.1]]
 | _=>cases h
def qh {o e:J3}{es:Jn J3}{name:JV}{apos cpos:Mo}{T id:Lc}{g:W->Jn W->aa->Jw (W×aa)}{fo:FE}{f:FA}(pa:PlainAttrs T)(slot:Slot T name id)(hty:typeOf (.builtin id)=pure (.type "method_descriptor"))(hm:mw X id g)
  (ho:GE X o fo) (ha:GA X (e::es) f) (hbase:attributeBase o name X.env (eval o X.env)=eval o X.env)
  (hfew:((backTo cpos (starEach (e::es) X.env)).all (λx=>!x.1)&&(backToKw cpos (keywordEach [] X.env)).all (λx=>x.1.isSome)
   && decide ((e::es).length+([]:Jn RK).length+(if ([]:Jn RK).isEmpty then 0 else 1) < 30))=true)
  (hline:(apos.endLine==cpos.line)=true) (hs:starEach (e::es) X.env=(false,eval e X.env)::starEach es X.env) (hplain:(backTo cpos (starEach es X.env)).any (·.1)=false) :
  GE X (.Call (.Attribute o name apos) (e::es) [] cpos) (ET T g fo f):=by
 intro J s Y H Q I ⟨A,Z,S,w,S',er,so,e,hq⟩;unfold ET at e;split at e
 ·rename_i x S1 h1;split at e
  ·rename_i ht;split at e
   ·rename_i ws S2 h2;refine wpAny_Call_method_late hbase hfew hline rfl (bq (ho J s Y H (EndV X.w X.K A H S1 x) I #[A,Z,S,_,_,er,so,h1,λ_ _ z=>z]) λv s1 #[a,H1,I1,r1,A1,e1,o1,z1]=>?_)
    obtain⟨t1,t2⟩:=tyOk.is I1 o1 z1 r1 ht;refine#[T,id,pa,slot,hty,t1,t2,?_];have hA:=ha cpos J s1 Y H1 (EndA X A1 H1 S2 ws) I1 #[A1,Z,S1,ws,S2,er.mono e1,o1,h2,λ_ _ z=>z]
    rw[hs]at hA ⊢;refine Calls.callWith_builtin (by show(false||(backTo cpos (starEach es X.env)).any (·.1))=false; rw[hplain] <;> rfl) (Calls.evalArgs_plain ?_)
    refine bq hA λus s2 #[vs,H2,I2,r2,A2,e2,o2,z2]=>?_
    refine bq (hm J s2 Y H2 A2 S2 x a v ws vs us w S' I2 o2 (z1.mono e2) r1 z2 r2 e) λu' s' #[v',H',A',I',r',e3,o3,z3]=>?_
    exact#[v',H',I',r',hq v' H' #[A',(e1.trans e2).trans e3,o3,z3]]
   ·cases e
  ·cases e
 ·cases e
def LIx.ixr {g:W->W->aa->Jw (W×aa)}(h:LIx X g):IxR X (rOp X g):=by
 intro value slice J s Y H a b u v Q I ru rv ⟨A,S,x,y,w,S',so,rx,ry,e,hq⟩ hs;exact bq (h value slice J s Y H A S x y a b u v w S' I so rx ru ry rv e hs) λu' s' #[v',H',A',I',r',e1,o1,z1]=>#[v',H',I',r',hq v' H' #[A',e1,o1,z1]]
def FQ {a b:J3}{pos:Mo}{fa fb:FE}(hu:X.A.units+10 < cLine)(ha:GE X a fa)(hb:GE X b fb)(hs:nK b):GE X (.Subscript a b pos) (HU fa fb):=
 GE.of (Fv (HR hu).ixr ha hb hs) λY H A Z S w S' er so e Q hq=>by
  obtain⟨x,S1,y,S2,h1,h2,h3⟩:=Hc e;exact iV er so h1 h2 λa b H2 A2 e2 o2 r1 r2=>#[A2,S2,x,y,w,S',o2,r1,r2,h3,λv H' z=>hq v H' (z.after e2)]
inductive tO (X:Cx)(f:FO)(Y:L2.St)(H:Hp)(Q:Jw JI->Hp->Prop):Prop
 | mk (A:Jn JA) (Z:Fm) (S:aa) (k:Jw JI) (S':aa) (er:EnvRel X.K A H Z Y) (so:StoreOk X.w X.K A H S) (e:f Z S=ba (k,S')) (q:∀H' A',Ext X.K A H A' H'->StoreOk X.w X.K A' H' S'->Q k H'):tO X f Y H Q
noncomputable abbrev GO (X:Cx)(e:Jw J3)(f:FO):Prop:=PO X e (tO X f)
def Bf:GO X gV DR:=λJ s Y H Q I #[A,Z,S,k,S',er,so,e,hq]=>by
 cases e;exact Aw J s Y H Q I (hq H A .refl so)
def Bg {e:J3}{f:FE}(h:GE X e f):GO X (ba e) (t9 f):=λJ s Y H Q I #[A,Z,S,k,S',er,so,e,hq]=>by
 unfold t9 at e;split at e
 ·rename_i i S1 h1;cases e;refine Ax h J s Y H Q I #[A,Z,S,_,_,er,so,h1,λv H1 #[A1,z1,z2,z3]=>?_]
  cases z3;exact#[i,rfl,hq H1 A1 z1 z2]
 ·cases e
inductive rSl (X:Cx)(g:W->Jw JI->Jw JI->aa->Jw (W×aa))(a:V)(lo hi:Jw JI)(H:Hp)(Q:VK):Prop
 | mk (A:Jn JA) (S:aa) (x w:W) (S':aa) (so:StoreOk X.w X.K A H S) (rx:Rel X.K A H x a) (e:g x lo hi S=ba (w,S')) (q:∀v H',EndV X.w X.K A H S' w v H'->Q v H'):rSl X g a lo hi H Q
def LSl.slr {g:W->Jw JI->Jw JI->aa->Jw (W×aa)}(h:LSl X g):Fu X (rSl X g):=by
 intro J s Y H a v vl vu lo hi sl Q I rv hs pl pu ⟨A,S,x,w,S',so,rx,e,hq⟩;obtain⟨T,id,h1,h2,h3⟩:=h J s Y H A S x a v vl vu lo hi sl w S' I so rx rv hs pl pu e;exact#[T,id,h1,h2,bq h3 λu' s' #[v',H',A',I',r',e1,o1,z1]=>#[v',H',I',r',hq v' H' #[A',e1,o1,z1]]]
def FR {a:J3}{lo hi:Jw J3}{p2 pos:Mo}{fa:FE}{fl fh:FO}(ha:GE X a fa)(hl:GO X lo fl)(hh:GO X hi fh):GE X (.Subscript a (.Slice lo hi gV p2) pos) (FP fa fl fh):=
 GE.of (xh Jh.slr ha hl hh) λY H A Z S w S' er so e Q hq=>by
  unfold FP at e;split at e
  ·rename_i x S1 h1;split at e
   ·rename_i l S2 h2;split at e
    ·rename_i h S3 h3;refine#[A,Z,S,x,S1,er,so,h1,λv H1 #[A1,z1,z2,z3]=>?_]
     refine#[A1,Z,S1,l,S2,er.mono z1,z2,h2,λH2 A2 y1 y2=>?_]
     refine#[A2,Z,S2,h,S3,er.mono (z1.trans y1),y2,h3,λH3 A3 x1 x2=>?_]
     exact#[A3,S3,x,w,S',x2,(z3.mono y1).mono x1,e,λv H' q=>hq v H' (q.after ((z1.trans y1).trans x1))]
    ·cases e
   ·cases e
  ·cases e
noncomputable abbrev FF:=Jn W->aa->Jw (W×aa)
inductive spF (wd:Km)(K:JH)(n:Jx)(g:FF)(vs:Jn V)(H:Hp)(Q:VK)(E:XK):Prop
 | mk (A:Jn JA) (S:aa) (ws:Jn W) (w:W) (S':aa) (so:StoreOk wd K A H S) (rl:RelL K A H ws vs) (hl:ws.length=n) (e:g ws S=ba (w,S')) (q:∀v H',EndV wd K A H S' w v H'->Q v H'):spF wd K n g vs H Q E
abbrev qk (n:Jx)(g:FF)(f:FA):FE:=λZ S=>match f Z S with
 | some (ws,S1)=>if ws.length=n then g ws S1 else gV
 | none=>gV
def ql {n:Jx}{g:FF}{f:FA}{Y:L2.St}{H:Hp}{A:Jn JA}{Z:Fm}{S:aa}{w:W}{S':aa}{E:XK}(er:EnvRel X.K A H Z Y)(so:StoreOk X.w X.K A H S)(e:qk n g f Z S=ba (w,S'))(Q:VK)(hq:∀v H',EndV X.w X.K A H S' w v H'->Q v H') :
  w8 (spF X.w X.K n g) [] E (tA X f) Y H Q:=by
 unfold qk at e;split at e
 ·rename_i ws S1 h1;split at e
  ·rename_i hl;refine#[A,Z,S,ws,S1,er,so,h1,λvs H1 #[A1,z1,z2,z3]=>?_]
   show spF X.w X.K n g (vs++[]) H1 Q E;rw[Le];exact#[A1,S1,ws,w,S',z2,z3,hl,e,λv H' q=>hq v H' (q.after z1)]
  ·cases e
 ·cases e
def DS {k n:Jx}{fa:JA}{fd:Mp}{ps:Jn JV}{g:FF}{x:JV}{e:J3}{es:Jn J3}{p pos:Mo}{f:FA}(F:FnOk X.prog X.w X.K X.mg X.base wz k fa fd ps (spF X.w X.K n g))(hr:Room k X.A)(hg:Gl X x)(hm:X.mg x=ba (.ref fa))(hk:Lf X.K (.ref fa)=true)
  (hb:Binds X.K fd ps []) (ha:GA X (e::es) f) (hdb:(x==("__debug__" : JV))=false) (he:starEach (e::es) X.env=(false,eval e X.env)::starEach es X.env) (hpl:(backTo pos (starEach es X.env)).any (·.1)=false) :
  GE X (.Call (.Name x p) (e::es) [] pos) (qk n g f):=
 GE.of (At F hr hg hm hk hb .nil Cp ha hdb he hpl) λY H A Z S w S' er so e Q hq=>ql er so e Q hq
def Bh {k n:Jx}{fa:JA}{fd:Mp}{ps:Jn JV}{g:FF}{x:JV}{p pos:Mo}(F:FnOk X.prog X.w X.K X.mg X.base wz k fa fd ps (spF X.w X.K n g))(hr:Room k X.A)(hg:Gl X x)(hm:X.mg x=ba (.ref fa))(hk:Lf X.K (.ref fa)=true)
  (hb:Binds X.K fd ps []) (hdb:(x==("__debug__" : JV))=false):GE X (.Call (.Name x p) [] [] pos) (qk n g iW):=
 GE.of (xf F hr hg hm hk hb .nil Cp hdb) λY H A Z S w S' er so e Q hq=>by
  obtain⟨A1,S1,ws,w1,S1',a1,a2,a3,a4,a5⟩:=ql (f:=iW) (E:=E0) er so e Q hq |> λ#[A,Z,S,ws,S',b1,b2,b3,b4]=>b4 [] H (by cases b3; exact#[A,.refl,b2,.nil])
  exact#[A1,S1,ws,w1,S1',a1,a2,a3,a4,a5]
def Bj:GSs X [] (λZ S=>ba (.nx Z,S)):=GSs.of Ak λY H A Z S o S' er so e D hd=>by cases e; exact hd.nx _ _ #[Z,A,rfl,.refl,so,er]
abbrev Bk (f g:FS):FS:=λZ S=>match f Z S with
 | some (.nx Z',S1)=>g Z' S1
 | some (.rt w,S1)=>ba (.rt w,S1)
 | some (.bk Z',S1)=>ba (.bk Z',S1)
 | some (.ct Z',S1)=>ba (.ct Z',S1)
 | none=>gV
def yk {st:MK}{sts:Jn MK}{f g:FS}(h:GS X st f)(h2:GSs X sts g):GSs X (st::sts) (Bk f g):=GSs.of (wQ h h2) λY H A Z S o S' er so e D hd=>by
 unfold Bk at e;split at e
 ·rename_i Z1 S1 h1;refine#[A,Z,S,_,_,er,so,h1,#[λY' H' #[Z',A',e1,e2,e3,e4]=>?_,λv H' #[w,A',e1,_,_,_]=>(by cases e1),λv H' #[w,A',e1,_,_,_]=>(by cases e1),λv H' #[w,A',e1,_,_,_]=>(by cases e1)]]
  cases e1;exact#[A',_,S1,o,S',e4,e3,e,(EndS.after e2).trans hd]
 ·rename_i w S1 h1;cases e;exact#[A,Z,S,_,_,er,so,h1,#[λY' H' #[w,A',e1,_,_,_]=>(by cases e1),hd.rt,hd.bk,hd.ct]]
 ·rename_i w S1 h1;cases e;exact#[A,Z,S,_,_,er,so,h1,#[λY' H' #[w,A',e1,_,_,_]=>(by cases e1),hd.rt,hd.bk,hd.ct]]
 ·rename_i w S1 h1;cases e;exact#[A,Z,S,_,_,er,so,h1,#[λY' H' #[w,A',e1,_,_,_]=>(by cases e1),hd.rt,hd.bk,hd.ct]]
 ·cases e
abbrev Bl (f:FE):FS:=λZ S=>match f Z S with
 | some (_,S1)=>ba (.nx Z,S1)
 | none=>gV
def FU {e:J3}{pos:Mo}{f:FE}(h:GE X e f)(hs:swapsWith e gV pos.line X.env=pure false):GS X (.Expr e pos) (Bl f):=GS.of (Am h hs) λY H A Z S o S' er so e D hd=>by
 unfold Bl at e;split at e
 ·rename_i w S1 h1;cases e;exact#[A,Z,S,w,_,er,so,h1,λv H1 #[A1,z1,z2,z3]=>hd.nx _ _ #[Z,A1,rfl,z1,z2,er.mono z1]]
 ·cases e
abbrev ym:FS:=λZ S=>ba (.nx Z,S)
def DT {x:JV}{j:Jx}{pos pos':Mo}:GS X (.Expr (.Constant (.str x) j pos) pos') ym:=GS.of C4 λY H A Z S o S' er so e D hd=>by cases e; exact hd.nx _ _ #[Z,A,rfl,.refl,so,er]
def Bm {pos:Mo}:GS X (.Pass pos) ym:=GS.of Al λY H A Z S o S' er so e D hd=>by cases e; exact hd.nx _ _ #[Z,A,rfl,.refl,so,er]
abbrev Bn (f:FE):FS:=λZ S=>match f Z S with
 | some (w,S1)=>ba (.rt w,S1)
 | none=>gV
def DU {e:J3}{pos:Mo}{f:FE}(h:GE X e f):GS X (.Return (ba e) pos) (Bn f):=GS.of (C5 h) λY H A Z S o S' er so e D hd=>by
 unfold Bn at e;split at e
 ·rename_i w S1 h1;cases e;exact#[A,Z,S,w,_,er,so,h1,λv H1 #[A1,z1,z2,z3]=>hd.rt _ _ #[w,A1,rfl,z1,z2,z3]]
 ·cases e
abbrev Bo (c:FT)(f g:FS):FS:=λZ S=>match c Z S with
 | some (true,S1)=>f Z S1
 | some (false,S1)=>g Z S1
 | none=>gV
def FV {c:J3}{a b:Jn MK}{pos:Mo}{fc:FT}{f g:FS}(hc:GT X c fc)(ha:GSs X a f)(hb:GSs X b g):GS X (.If c a b pos) (Bo fc f g):=GS.of (E8 hc ha hb) λY H A Z S o S' er so e D hd=>by
 unfold Bo at e;split at e
 ·rename_i S1 h1;refine#[A,Z,S,_,S1,er,so,h1,λb H1 #[z0,A1,z1,z2]=>?_]
  subst z0;rw[JZ rfl];exact#[A1,Z,S1,o,S',er.mono z1,z2,e,(EndS.after z1).trans hd]
 ·rename_i S1 h1;refine#[A,Z,S,_,S1,er,so,h1,λb H1 #[z0,A1,z1,z2]=>?_]
  subst z0;rw[Kb J1];exact#[A1,Z,S1,o,S',er.mono z1,z2,e,(EndS.after z1).trans hd]
 ·cases e
noncomputable abbrev FG:=W->Fm->aa->Jw (Fm×aa)
inductive tG (X:Cx)(f:FG)(v:V)(Y:L2.St)(H:Hp)(Q:L2.St->Hp->Prop):Prop
 | mk (A:Jn JA) (Z:Fm) (S:aa) (w:W) (Z':Fm) (S':aa) (er:EnvRel X.K A H Z Y) (so:StoreOk X.w X.K A H S) (r:Rel X.K A H w v) (e:f w Z S=ba (Z',S')) (q:∀Y' H' A',Ext X.K A H A' H'->StoreOk X.w X.K A' H' S'->EnvRel X.K A' H' Z' Y'->Q Y' H'):tG X f v Y H Q
noncomputable abbrev GG (X:Cx)(tg:J3)(f:FG):Prop:=PG X tg (tG X f)
abbrev Bp (i:Jx):FG:=λw Z S=>ba (Z.set i (ba w),S)
def ud {i:Jx}{x:JV}{pos:Mo}(hN:X.N.Nodup)(hi:X.N[i]?=ba x)(hx:Ah X.env.scope x)(hf:X.fn x=true\/X.env.scope.names.lookup x=ba .local):GG X (.Name x pos) (Bp i):=by
 intro J s Y H v u Q I r ⟨A,Z,S,w,Z',S',er,so,rw',e,hq⟩;cases e;exact sW hN hi hx hf J s Y H v u Q I r (hq _ _ A .refl so (er.set rw' i))
abbrev cM:Jn Jx->Jn W->Fm->Jw Fm
 | [],[],Z=>ba Z
 | i::is,w::ws,Z=>cM is ws (Z.set i (ba w))
 | _,_,_=>gV
abbrev DV (is:Jn Jx):FG:=λw Z S=>match w with
 | .tup ws=>(cM is ws Z).map λZ'=>(Z',S)
 | _=>gV
def vQ:∀ {ts:Jn J3} {is:Jn Jx},(∀x∈ts,∃y p,x=.Name y p)->Pa (λ(t:J3) (i:Jx)=>∃x p,t=Qa x p/\X.N[i]?=ba x/\Ah X.env.scope x/\(X.fn x=true\/X.env.scope.names.lookup x=ba .local)) ts is->X.N.Nodup->
  E9 X ts (λvs Y H Q=>∃A Z ws Z' S,EnvRel X.K A H Z Y/\StoreOk X.w X.K A H S/\RelL X.K A H ws vs/\cM is ws Z=ba Z'/\∀Y',EnvRel X.K A H Z' Y'->Q Y' H):=by
 intro ts
 induction ts with
 | nil=>
  intro is _ h hN;cases h;intro J s Y H vs us Q I r ⟨A,Z,ws,Z',S,er,so,rl,e,hq⟩;cases rl with
  | nil=>cases e; exact An J s Y H [] us Q I r #[rfl,hq _ er]
  | cons _ _=>cases e
 | cons t ts ih=>
  intro is hs h hN;cases h with
  | cons h1 h2=>
   obtain⟨x,p,rfl,hi,hl,hf⟩:=h1;have:=ih (λy hy=>hs y (KO _ hy)) h2 hN
   intro J s Y H vs us Q I r ⟨A,Z,ws,Z',S,er,so,rl,e,hq⟩;cases rl with
   | nil=>cases e
   | cons r1 r2=>
    refine wR (sW hN hi hl hf) this rfl J s Y H _ us Q I r #[_,_,rfl,?_];exact#[A,_,_,Z',S,er.set r1 _,so,r2,e,hq]
def DW {ts:Jn J3}{is:Jn Jx}{k:Jx}{pos:Mo}(hc:X.calm=true)(hs:∀x∈ts,∃y p,x=.Name y p)(h:Pa (λ(t:J3) (i:Jx)=>∃x p,t=Qa x p/\X.N[i]?=ba x/\Ah X.env.scope x/\(X.fn x=true\/X.env.scope.names.lookup x=ba .local)) ts is)(hN:X.N.Nodup)
  (hn:(assignEach ts X.env).length=ts.length) (hst:(assignEach ts X.env).findIdx? (·.1)=gV):GG X (.Tuple ts k pos) (DV is):=by
 intro J s Y H v u Q I r ⟨A,Z,S,w,Z',S',er,so,rw',e,hq⟩;unfold DV at e;split at e
 ·rw[Js]at e;obtain⟨Z1,e1,e2⟩:=e;cases e2;cases rw' with
  | tup h1 r1=>
   have hl:∀(is:Jn Jx) (ws:Jn W) (Z Z':Fm),cM is ws Z=ba Z'->is.length=ws.length:=by
    intro is
    induction is with
    | nil=>intro ws Z Z' e; cases ws <;> first|rfl|cases e
    | cons i is ih=>intro ws Z Z' e; cases ws <;> first|cases e|(simp; exact ih _ _ _ e)
   exact C9 hc (vQ hs h hN) hn hst J s Y H _ u Q I r #[_,_,rfl,h1,by rw[<- r1.length,<- hl _ _ _ _ e1,<- OZ h],A,Z,_,_,_,er,so,r1,e1,λY' z=>hq _ _ A .refl so z]
 ·cases e
abbrev Bq (fo fi:FE):FG:=λw Z S=>match fo Z S with
 | some (o,S1)=>match fi Z S1 with
  | some (i,S2)=>match iS o i w S2 with
   | some S3=>ba (Z,S3)
   | none=>gV
  | none=>gV
 | none=>gV
inductive rSet (X:Cx)(g:W->W->W->aa->Jw aa)(ao ai av:V)(H:Hp)(Q:Hp->Prop):Prop
 | mk (A:Jn JA) (S:aa) (o i w:W) (S':aa) (so:StoreOk X.w X.K A H S) (r1:Rel X.K A H o ao) (r2:Rel X.K A H i ai) (r3:Rel X.K A H w av) (e:g o i w S=ba S') (q:∀H' A',Ext X.K A H A' H'->StoreOk X.w X.K A' H' S'->Q H'):rSet X g ao ai av H Q
def LSet.pset {g:W->W->W->aa->Jw aa}(h:LSet X g):C8 X (rSet X g):=by
 intro J s Y H ao ai av uo ui uv Q I ro ri rv ⟨A,S,o,i,w,S',so,r1,r2,r3,e,hq⟩;exact bq (h J s Y H A S o i w ao ai av uo ui uv S' I so r1 ro r2 ri r3 rv e) λ_ s' #[H',A',I',e1,o1]=>#[H',I',hq H' A' e1 o1]
def DX {o i:J3}{pos:Mo}{fo fi:FE}(hu:X.A.units+10 < cLine)(ho:GE X o fo)(hi:GE X i fi)(ha:∀v,assign (.Subscript o i pos) X.env v=(do
   let ov <- holding [v] (eval o X.env)
   let iv <- holding [v,ov] (eval i X.env)
   standAt pos
   holding [v,ov,iv] (setItem ov iv v)
   release [v,ov,iv] [])):GG X (.Subscript o i pos) (Bq fo fi):=by
 intro J s Y H v u Q I r ⟨A,Z,S,w,Z',S',er,so,rw',e,hq⟩;unfold Bq at e;split at e
 ·rename_i o' S1 h1;split at e
  ·rename_i i' S2 h2;split at e
   ·rename_i S3 h3;cases e;refine Da ho hi (FH hu).pset ha J s Y H v u Q I r ?_;refine#[A,Z,S,o',S1,er,so,h1,λa H1 #[A1,e1,o1,r1]=>?_]
    refine#[A1,Z,S1,i',S2,er.mono e1,o1,h2,λb H2 #[A2,e2,o2,r2]=>?_]
    exact#[A2,S2,o',i',w,_,o2,r1.mono e2,r2,rw'.mono (e1.trans e2),h3,λH' A' z1 z2=>hq Y H' A' ((e1.trans e2).trans z1) z2 (er.mono ((e1.trans e2).trans z1))]
   ·cases e
  ·cases e
 ·cases e
abbrev la (f:FE)(g:FG):FS:=λZ S=>match f Z S with
 | some (w,S1)=>match g w Z S1 with
  | some (Z',S2)=>ba (.nx Z',S2)
  | none=>gV
 | none=>gV
def sr {tg e:J3}{pos:Mo}{f:FE}{g:FG}(h:GE X e f)(hg:GG X tg g)(hs:swapsWithSole [tg] e pos.line X.env=pure false)(hw:swappedStores [tg] e X.env=pure gV)(h1:(assignEach [tg] X.env).map (·.2)=[assign tg X.env]) :
  GS X (.Assign [tg] e pos) (la f g):=GS.of (Db h hg hs hw h1) λY H A Z S o S' er so e D hd=>by
 unfold la at e;split at e
 ·rename_i w S1 h1;split at e
  ·rename_i Z1 S2 h2;cases e;refine#[A,Z,S,w,S1,er,so,h1,λv H1 #[A1,z1,z2,z3]=>?_]
   exact#[A1,Z,S1,w,Z1,_,er.mono z1,z2,z3,h2,λY' H' A' y1 y2 y3=>hd.nx _ _ #[Z1,A',rfl,z1.trans y1,y2,y3]]
  ·cases e
 ·cases e
abbrev Br (i j:Jx)(f:FA):FS:=λZ S=>match f Z S with
 | some ([x,y],S1)=>ba (.nx ((Z.set i (ba x)).set j (ba y)),S1)
 | _=>gV
def DY {i j:Jx}{x y:JV}{a b:J3}{f:FA}{px py pt pos:Mo}{kt k2:Jx}{pt2:Mo}(hc:X.calm=true)(hN:X.N.Nodup)(hi:X.N[i]?=ba x)(hj:X.N[j]?=ba y)(hij:i≠j)
  (hx:X.env.scope.names.lookup x=ba .local) (hy:X.env.scope.names.lookup y=ba .local) (ha:GA X [a,b] f)
  (hw:swappedStores [.Tuple [.Name x px,.Name y py] kt pt] (.Tuple [a,b] k2 pt2) X.env=pure (ba [x,y]))
  (hs:swapsWithSole [.Tuple [.Name x px,.Name y py] kt pt] (.Tuple [a,b] k2 pt2) pos.line X.env=pure false) :
  GS X (.Assign [.Tuple [.Name x px,.Name y py] kt pt] (.Tuple [a,b] k2 pt2) pos) (Br i j f):=GS.of (Dc hc hN hi hj hij hx hy ha hw hs) λY H A Z S o S' er so e D hd=>by
 unfold Br at e;split at e
 ·rename_i x y S1 h1;cases e;refine#[A,Z,S,_,_,er,so,h1,λvs H1 #[A1,z1,z2,z3]=>?_]
  cases z3 with
  | cons r1 t=>
   cases t with
   | cons r2 t=>
    cases t;exact#[_,_,rfl,hd.nx _ _ #[_,A1,rfl,z1,z2,((er.mono z1).set r1 i).set r2 j]]
 ·cases e
abbrev ou (c:FT)(b:FS):Jx->FS
 | 0,_,_=>gV
 | n+1,Z,S=>match c Z S with
  | some (true,S1)=>match b Z S1 with
   | some (.nx Z',S2)=>ou c b n Z' S2
   | some (.ct Z',S2)=>ou c b n Z' S2
   | some (.bk Z',S2)=>ba (.nx Z',S2)
   | some (.rt w,S2)=>ba (.rt w,S2)
   | none=>gV
  | some (false,S1)=>ba (.nx Z,S1)
  | none=>gV
def yn {c:J3}{body:Jn MK}{pos:Mo}{fc:FT}{fb:FS}(n:Jx)(hp:P9 (model X.prog X.w) X.A X.env X.xe)(hc:GT X c fc)(hb:GSs X body fb):GS X (.While c body [] pos) (ou fc fb n):=GS.of (wW hp hc hb) λY H A Z S o S' er so e D hd=>by
 refine#[λm Y1 H1=>∃A1 Z1 S1,Ext X.K A H A1 H1/\EnvRel X.K A1 H1 Z1 Y1/\StoreOk X.w X.K A1 H1 S1/\ou fc fb m Z1 S1=ba (o,S'),#[n,A,Z,S,.refl,er,so,e],?_]
 rintro m Y1 H1 ⟨A1,Z1,S1,e1,er1,so1,w1⟩;cases m with
 | zero=>cases w1
 | succ m=>
  simp only[ou]at w1;split at w1
  ·rename_i S2 h1;refine#[A1,Z1,S1,_,S2,er1,so1,h1,λb H2 #[z0,A2,z1,z2]=>?_]
   subst z0;rw[JZ rfl];refine#[λY3 H3=>∃A3 Z3 S3,Ext X.K A H A3 H3/\EnvRel X.K A3 H3 Z3 Y3/\StoreOk X.w X.K A3 H3 S3/\ou fc fb m Z3 S3=ba (o,S'),λY' H' h=>#[m,K9 _,h],?_]
   split at w1
   ·rename_i Z3 S3 h3;refine#[A2,Z1,S2,_,S3,er1.mono z1,z2,h3,#[λY' H' #[Z',A',y0,y1,y2,y3]=>?_,λv H' #[w,A',y0,_,_,_]=>(by cases y0),λv H' #[w,A',y0,_,_,_]=>(by cases y0),λv H' #[w,A',y0,_,_,_]=>(by cases y0)]]
    cases y0;exact#[A',_,S3,(e1.trans z1).trans y1,y3,y2,w1]
   ·rename_i Z3 S3 h3;refine#[A2,Z1,S2,_,S3,er1.mono z1,z2,h3,#[λv H' #[w,A',y0,_,_,_]=>(by cases y0),λv H' #[w,A',y0,_,_,_]=>(by cases y0),λv H' #[w,A',y0,_,_,_]=>(by cases y0),λY' H' #[Z',A',y0,y1,y2,y3]=>?_]]
    cases y0;exact#[A',_,S3,(e1.trans z1).trans y1,y3,y2,w1]
   ·rename_i Z3 S3 h3;cases w1;refine#[A2,Z1,S2,_,_,er1.mono z1,z2,h3,#[λv H' #[w,A',y0,_,_,_]=>(by cases y0),λv H' #[w,A',y0,_,_,_]=>(by cases y0),λY' H' #[Z',A',y0,y1,y2,y3]=>?_,λv H' #[w,A',y0,_,_,_]=>(by cases y0)]]
    cases y0;exact hd.nx _ _ #[_,A',rfl,(e1.trans z1).trans y1,y2,y3]
   ·rename_i w3 S3 h3;cases w1;refine#[A2,Z1,S2,_,_,er1.mono z1,z2,h3,#[λv H' #[w,A',y0,_,_,_]=>(by cases y0),λv H' #[w,A',y0,y1,y2,y3]=>?_,λv H' #[w,A',y0,_,_,_]=>(by cases y0),λv H' #[w,A',y0,_,_,_]=>(by cases y0)]]
    cases y0;exact hd.rt _ _ #[_,A',rfl,(e1.trans z1).trans y1,y2,y3]
   ·cases w1
  ·rename_i S2 h1;cases w1;refine#[A1,Z1,S1,_,_,er1,so1,h1,λb H2 #[z0,A2,z1,z2]=>?_]
   subst z0;rw[Kb J1];exact hd.nx _ _ #[_,A2,rfl,e1.trans z1,z2,er1.mono z1]
  ·cases w1
end
inductive MI where
 | its (ws:Jn W)
 | live (r:Jx)
 | zl (r q:Jx)
abbrev lX (xs ys:Jn W):Jn W:=JU (λx y=>.tup [x,y]) xs ys
abbrev MI.at (S:aa)(i:Jx):MI->Jw (Jw W)
 | .its ws=>ba ws[i]?
 | .live r=>match fT S r with
  | some xs=>ba xs[i]?
  | none=>gV
 | .zl r q=>match fT S r,fT S q with
  | some xs,ba ys=>ba (lX xs ys)[i]?
  | _,_=>gV
abbrev MI.len (S:aa):MI->Jw Jx
 | .its ws=>ba ws.length
 | .live r=>(fT S r).map (·.length)
 | .zl r q=>match fT S r,fT S q with
  | some xs,ba ys=>ba (lX xs ys).length
  | _,_=>gV
noncomputable abbrev FI:=Fm->aa->Jw (MI×aa)
structure MIt (wd:Km)(K:JH)(mi:MI)(td:It)(A0:Jn JA)(H0:Hp):Prop where
 go:∀A H S i w,Ext K A0 H0 A H->StoreOk wd K A H S->mi.at S i=ba (ba w)->td.go i H/\∀x H',td.yld i H x H'->Ext K A H A H'/\StoreOk wd K A H' S/\Rel K A H' w x
 stop:∀A H S i,Ext K A0 H0 A H->StoreOk wd K A H S->mi.at S i=ba gV->td.stop i H
inductive tI (X:Cx)(f:FI)(Y:L2.St)(H:Hp)(R:It->Hp->Prop):Prop
 | mk (A:Jn JA) (Z:Fm) (S:aa) (mi:MI) (S':aa) (er:EnvRel X.K A H Z Y) (so:StoreOk X.w X.K A H S) (e:f Z S=ba (mi,S')) (q:∀td H' A',Ext X.K A H A' H'->StoreOk X.w X.K A' H' S'->MIt X.w X.K mi td A' H'->R td H'):tI X f Y H R
noncomputable abbrev GI (X:Cx)(tg iter:J3)(f:FI):Prop:=PI X tg iter (tI X f)
abbrev Bs (f:FE):FI:=λZ S=>match f Z S with
 | some (.tup ws,S1)=>ba (.its ws,S1)
 | some (.ref r,S1)=>match fT S1 r with
  | some _=>ba (.live r,S1)
  | none=>gV
 | _=>gV
abbrev c8 (lo:JI)(n:Jx):Jn W:=(JW n).map λ(k:Jx)=>.int (lo+(k:JI))
abbrev su (f:FA):FI:=λZ S=>match f Z S with
 | some ([.int j],S1)=>if -(2 ^ 62)<=j/\j < 2 ^ 62 then ba (.its (c8 0 j.toNat),S1)else gV
 | _=>gV
abbrev iRng2 (f:FA):FI:=λZ S=>match f Z S with
 | some ([.int i,.int j],S1)=>if -(2 ^ 62)<=i/\i < 2 ^ 62/\-(2 ^ 62)<=j/\j < 2 ^ 62 then ba (.its (c8 i (j - i).toNat),S1)else gV
 | _=>gV
abbrev fZ (mi:MI)(g:FG)(b:FS):Jx->Jx->FS
 | 0,i,Z,S=>match mi.at S i with
  | some gV=>ba (.nx Z,S)
  | _=>gV
 | n+1,i,Z,S=>match mi.at S i with
  | some (ba w)=>match g w Z S with
   | some (Z1,S1)=>match b Z1 S1 with
    | some (.nx Z2,S2)=>fZ mi g b n (i+1) Z2 S2
    | some (.ct Z2,S2)=>fZ mi g b n (i+1) Z2 S2
    | some (.bk Z2,S2)=>ba (.nx Z2,S2)
    | some (.rt w,S2)=>ba (.rt w,S2)
    | none=>gV
   | none=>gV
  | _=>gV
abbrev yo (fi:FI)(g:FG)(b:FS):FS:=λZ S=>match fi Z S with
 | some (mi,S1)=>match mi.len S1 with
  | some n=>fZ mi g b n 0 Z S1
  | none=>gV
 | none=>gV
section
variable{X:Cx}
def Bt {A:Jn JA}{H:Hp}{ws:Jn W}{a:JA}{vs:Jn V}(h:SqT X.K H a vs)(r:RelL X.K A H ws vs):MIt X.w X.K (.its ws) (EO X.K a) A H:=by
 refine#[λA' H' S i w e so hi=>?_,λA' H' S i e so hi=>?_]
 ·simp only[MI.at,Kf]at hi;obtain⟨v,h1,h2⟩:=(r.mono e).get hi;refine#[#[vs,v,e.tp _ _ h,h1],λx H2 #[z1,z2]=>?_]
  subst z1;have:=z2 vs (e.tp _ _ h);rw[h1]at this; cases this
  exact#[.refl,so,h2]
 ·simp only[MI.at,Kf]at hi;refine#[vs,e.tp _ _ h,?_];rw[<- r.length];exact KH.mp hi
def Bu {A:Jn JA}{H:Hp}{r:Jx}{a:JA}(ea:A[r]?=ba a):MIt X.w X.K (.live r) (Hv X.K a) A H:=by
 refine#[λA' H' S i w e so hi=>?_,λA' H' S i e so hi=>?_]
 ·simp only[MI.at]at hi;split at hi
  ·rename_i xs hx;simp only[Kf]at hi;obtain⟨vs,h1,r1⟩:=aZ so hx (e.ad _ _ ea);obtain⟨v,h2,h3⟩:=r1.get hi;refine#[#[vs,v,h1,h2],λx H2 #[z1,z2]=>?_]
   subst z1;have:=z2 vs h1;rw[h2]at this; cases this
   exact#[.refl,so,h3]
  ·cases hi
 ·simp only[MI.at]at hi;split at hi
  ·rename_i xs hx;simp only[Kf]at hi;obtain⟨vs,h1,r1⟩:=aZ so hx (e.ad _ _ ea);refine#[vs,h1,?_];rw[<- r1.length];exact KH.mp hi
  ·cases hi
def d8 {lo:JI}{n i:Jx}:(c8 lo n)[i]?=if i < n then ba (.int (lo+i))else gV:=by
 unfold c8;rw[Jy]
 by_cases h:i < n
 ·rw[JZ h,LS h]; rfl
 ·rw[Kb h,KH.mpr (by simp; omega)]; rfl
def ue {A:Jn JA}{H:Hp}{lo:JI}{n:Jx}:MIt X.w X.K (.its (c8 lo n)) (Fd lo n) A H:=by
 refine#[λA' H' S i w e so hi=>?_,λA' H' S i e so hi=>?_]
 ·simp only[MI.at,Kf]at hi;rw[d8]at hi;split at hi
  ·cases hi;refine#[by assumption,λx H2 #[z1,z2]=>?_]
   subst z1 z2;exact#[.refl,so,.int]
  ·cases hi
 ·simp only[MI.at,Kf]at hi;rw[d8]at hi;split at hi
  ·cases hi
  ·show n<=i;omega
def qm {tg:J3}{J:Jn (JA×Lo)}{Y:L2.St}{H1:Hp}{s1:Jt}{R:It->Hp->Prop}{a:JA}{xs:Jn V}{v:Jr}(I1:Inv X J Y H1 s1)(r1:RelV (.ref a) v)(hq:SqL X.K H1 a xs)(q:R (Hv X.K a) H1) :
  wpAny (model X.prog X.w) X.A (pyIter v) (Fc X J Y tg R) X.xe s1:=by
 cases r1;obtain⟨its,rv,p,hz⟩:=I1.list hq;refine MC p.isList ?_;refine#[s1.heap.objs.size,[s1.heap.objs.size],_,_,H1,rfl,I1.kept (t':=s1.toks) λb o e=>Jq _ e,u5 a _,#[_,JJ _ rfl,rfl,rfl],λb hb=>?_,q]
 have e:b=s1.heap.objs.size:=by simpa using hb
 subst e;exact I1.fpOk (JB _) (I1.hok.fresh (JB _))
def sv {tg:J3}{J:Jn (JA×Lo)}{Y:L2.St}{H1:Hp}{s1:Jt}{R:It->Hp->Prop}{a:JA}{xs:Jn V}{v:Jr}(I1:Inv X J Y H1 s1)(r1:RelV (.ref a) v)(hq:SqT X.K H1 a xs)(q:R (EO X.K a) H1) :
  wpAny (model X.prog X.w) X.A (pyIter v) (Fc X J Y tg R) X.xe s1:=by
 cases r1;obtain⟨its,rv,p,hz⟩:=I1.tuple hq;refine QA (show s1.heap.IsTuple a its.toArray from p) ?_
 refine#[s1.heap.objs.size,[s1.heap.objs.size],_,_,H1,rfl,I1.kept (t':=s1.toks) λb o e=>Jq _ e,rE a _,#[_,JJ _ rfl,rfl,rfl],λb hb=>?_,q]
 have e:b=s1.heap.objs.size:=by simpa using hb
 subst e;exact I1.fpOk (JB _) (I1.hok.fresh (JB _))
def Bv {tg a:J3}{f:FA}{p pos:Mo}(hg:Gl X "range")(hm:X.mg "range" = gV)(ha:GA X [a] f)(hs:starEach [a] X.env=[(false,eval a X.env)]):GI X tg (.Call (.Name "range" p) [a] [] pos) (su f):=by
 intro J s Y H R I ⟨A,Z,S,mi,S',er,so,e,hq⟩;unfold su at e;split at e
 ·rename_i j S1 h1;split at e
  ·rename_i hj;cases e;refine u6 hg hm ha hs J s Y H R I #[A,Z,S,_,_,er,so,h1,λvs H1 #[A1,z1,z2,z3]=>?_]
   cases z3 with
   | cons r1 t=>
    cases t;cases r1;exact#[j,rfl,hj.1,hj.2,hq _ _ A1 z1 z2 ue]
  ·cases e
 ·cases e
def Bw {tg a b:J3}{f:FA}{p pos:Mo}(hg:Gl X "range")(hm:X.mg "range" = gV)(ha:GA X [a,b] f)(hs:starEach [a,b] X.env=[(false,eval a X.env),(false,eval b X.env)])(hs2:starEach [b] X.env=[(false,eval b X.env)]):GI X tg (.Call (.Name "range" p) [a,b] [] pos) (iRng2 f):=by
 intro J s Y H R I ⟨A,Z,S,mi,S',er,so,e,hq⟩;unfold iRng2 at e;split at e
 ·rename_i i j S1 h1;split at e
  ·rename_i hj;cases e;refine u7 hg hm ha hs hs2 J s Y H R I #[A,Z,S,_,_,er,so,h1,λvs H1 #[A1,z1,z2,z3]=>?_]
   cases z3 with
   | cons r1 t=>
    cases t with
    | cons r2 t=>
     cases t;cases r1;cases r2;exact#[i,j,rfl,hj,hq _ _ A1 z1 z2 ue]
  ·cases e
 ·cases e
def DZ {tg l:J3}{f:FE}(h:GE X l f):GI X tg l (Bs f):=by
 intro J s Y H R I ⟨A,Z,S,mi,S',er,so,e,hq⟩;unfold Bs at e;split at e
 ·rename_i ws S1 h1;cases e;refine bq (h J s Y H (EndV X.w X.K A H _ (.tup ws)) I #[A,Z,S,_,_,er,so,h1,λ_ _ z=>z]) λv s1 #[x,H1,I1,r1,A1,e1,o1,z1]=>?_
  cases z1 with
  | tup hq1 rl=>
   refine sv I1 r1 hq1 (hq _ _ A1 e1 o1 (Bt hq1 rl))
 ·rename_i r S1 h1;split at e
  ·rename_i ys hy;cases e;refine bq (h J s Y H (EndV X.w X.K A H _ (.ref r)) I #[A,Z,S,_,_,er,so,h1,λ_ _ z=>z]) λv s1 #[x,H1,I1,r1,A1,e1,o1,z1]=>?_
   cases z1 with
   | ref ea=>
    obtain⟨vs,hl,_⟩:=aZ o1 hy ea;exact qm I1 r1 hl (hq _ _ A1 e1 o1 (Bu ea))
  ·cases e
 ·cases e
def D0 {tg iter:J3}{body:Jn MK}{pos:Mo}{fi:FI}{g:FG}{fb:FS}(hp:P9 (model X.prog X.w) X.A X.env X.xe)(hc:X.calm=true)(hi:GI X tg iter fi)(hg:GG X tg g)(hb:GSs X body fb)
  (hs:∀x,foldedSetIterable iter X.env x=pure x):GS X (.For tg iter body [] pos) (yo fi g fb):=GS.of (Dg hp hc hi hg hb hs) λY H A Z S o S' er so e D hd=>by
 unfold yo at e;split at e
 ·rename_i mi S1 h1;split at e
  ·rename_i n hn;refine#[A,Z,S,mi,S1,er,so,h1,λtd H1 A1 z1 z2 mit=>?_]
   refine#[λi m Y2 H2=>∃A2 Z2 S2,Ext X.K A1 H1 A2 H2/\EnvRel X.K A2 H2 Z2 Y2/\StoreOk X.w X.K A2 H2 S2/\fZ mi g fb m i Z2 S2=ba (o,S'),#[n,A1,Z,S1,.refl,er.mono z1,z2,e],?_]
   rintro i m Y2 H2 ⟨A2,Z2,S2,e2,er2,so2,w2⟩;cases m with
   | zero=>
    dsimp only[fZ]at w2;split at w2
    ·rename_i hs;cases w2;exact .inl #[mit.stop A2 H2 _ i e2 so2 hs,hd.nx _ _ #[_,A2,rfl,z1.trans e2,so2,er2]]
    ·cases w2
   | succ m=>
    dsimp only[fZ]at w2;split at w2
    ·rename_i w hw;obtain⟨go,yl⟩:=mit.go A2 H2 S2 i w e2 so2 hw;refine .inr #[go,λY3 H3=>∃A3 Z3 S3,Ext X.K A1 H1 A3 H3/\EnvRel X.K A3 H3 Z3 Y3/\StoreOk X.w X.K A3 H3 S3/\fZ mi g fb m (i+1) Z3 S3=ba (o,S'),λY' H' h=>#[m,K9 _,h],λx H3 hy=>?_]
     obtain⟨x1,x2,x3⟩:=yl x H3 hy;split at w2
     ·rename_i Z3 S3 h3;refine#[A2,Z2,S2,w,Z3,S3,er2.mono x1,x2,x3,h3,λY4 H4 A4 y1 y2 y3=>?_]
      have ex:Ext X.K A1 H1 A4 H4:=(e2.trans x1).trans y1;split at w2
      ·rename_i Z5 S5 h5;refine#[A4,Z3,S3,_,S5,y3,y2,h5,#[λY' H' #[Z',A',u0,u1,u2,u3]=>?_,λv H' #[w,A',y0,_,_,_]=>(by cases y0),λv H' #[w,A',y0,_,_,_]=>(by cases y0),λv H' #[w,A',y0,_,_,_]=>(by cases y0)]]
       cases u0;exact#[A',_,S5,ex.trans u1,u3,u2,w2]
      ·rename_i Z5 S5 h5;refine#[A4,Z3,S3,_,S5,y3,y2,h5,#[λv H' #[w,A',y0,_,_,_]=>(by cases y0),λv H' #[w,A',y0,_,_,_]=>(by cases y0),λv H' #[w,A',y0,_,_,_]=>(by cases y0),λY' H' #[Z',A',u0,u1,u2,u3]=>?_]]
       cases u0;exact#[A',_,S5,ex.trans u1,u3,u2,w2]
      ·rename_i Z5 S5 h5;cases w2;refine#[A4,Z3,S3,_,_,y3,y2,h5,#[λv H' #[w,A',y0,_,_,_]=>(by cases y0),λv H' #[w,A',y0,_,_,_]=>(by cases y0),λY' H' #[Z',A',u0,u1,u2,u3]=>?_,λv H' #[w,A',y0,_,_,_]=>(by cases y0)]]
       cases u0;exact hd.nx _ _ #[_,A',rfl,(z1.trans ex).trans u1,u2,u3]
      ·rename_i w5 S5 h5;cases w2;refine#[A4,Z3,S3,_,_,y3,y2,h5,#[λv H' #[w,A',y0,_,_,_]=>(by cases y0),λv H' #[w,A',u0,u1,u2,u3]=>?_,λv H' #[w,A',y0,_,_,_]=>(by cases y0),λv H' #[w,A',y0,_,_,_]=>(by cases y0)]]
       cases u0;exact hd.rt _ _ #[_,A',rfl,(z1.trans ex).trans u1,u2,u3]
      ·cases w2
     ·cases w2
    ·cases w2
  ·cases e
 ·cases e
end
section
variable{prog:Kh}{w:Km}{B:Kk}{E:Jr->Jt->Prop}{s:Jt}
def Bx {d:JA}{es:J8 L8}{ep:Jx}{Q:Jr->Jt->Prop}(hd:(d==sysModules)=false)(hm:RawD d es ep s.heap)(hfit:(es.size:JI) < 2 ^ 63)
  (h:Q (.int es.size (s.toks+1)) { s with toks:=s.toks+1+1 }):wpAny (model prog w) B (call (.builtin "len") [.ref d]) Q E s:=by
 have hT:=hm.type;obtain⟨o,ho,hc,hdat⟩:=id hm;refine No kind_len plain_len entry_len (args_len1 _) ?_;unfold MM.«len»;refine Jo (m:=oneArg "len" _) (Ju ?_);refine Jo (m:=callSpecial? (.ref d) (LD "__len__")) (KI (name:=LD "__len__") hT F.slot_dict_len (KL F.slot_dict_len hT F.entry_dict_len ?_ (F.args_dict_len_1 _)));show wpAny _ _ (dictSize d >>= _) _ _ s;unfold dictSize;refine Jo (Jo (NS ho hdat (Ju ?_)));show wpAny _ _ (R7 d >>= _) _ _ s;refine Jo (wpAny_pendingCount_other hd ?_);refine wpAny_ret_mkInt ?_;rw[Nat.add_zero];show wpAny _ _ _ _ _ { s with toks:=s.toks+1 }
 refine Jo (KR (Ju ?_));refine Jo (Ng ?_);show wpAny _ _ (if ((es.size:Jx):JI) < 0 then _ else _) _ _ _
 rw[Kb ∅]
 show wpAny _ _ (if ((es.size:Jx):JI)>=2 ^ 63 then _ else _) _ _ _
 rw[Kb ∅]
 exact Jo (Ry (Ju #[_,rfl,h]))
end
section
variable{X:Cx}{J:Jn (JA×Lo)}{Y:L2.St}{H:Hp}{s:Jt}{A:Jn JA}{S:aa}
def sw:LCall X (.builtin "len") r9:=by
 intro J s Y H A S xs vs us w S' I so rl rv e
 by_cases hd:∃i U,xs=[.ref i]/\jN S i=ba U
 ·obtain⟨i,U,rfl,hk⟩:=hd;simp only[r9,hk]at e;cases e;cases rl with
  | cons r t=>
   cases t;cases rv with
   | cons ru rv2=>
    cases rv2;cases r with
    | ref ea=>
     obtain⟨xs,rd,kr⟩:=fY so hk ea;have d:=cp I rd;obtain⟨es,ep,raw,he⟩:=d.raw;obtain rfl:_=Kj _:=ru;have hl:es.size=xs.length:=by rw[<- JS,he,Jp]
     have hz:=d.1;have hs:sizeLine=16777216:=Ky;refine Bx d.2.1 raw ∅ #[.int U.length,H,A,I.tok _,#[_,by rw[kr.length,hl]],.refl,so,.int]
 ·have:r9 xs S=rR xs S:=by
   unfold r9;split
   ·rename_i i;split
    ·rename_i U hk;exact absurd #[i,U,rfl,hk] hd
    ·rfl
   ·rfl
  rw[this]at e;exact vp J s Y H A S xs vs us w S' I so rl rv e
abbrev IR (S:aa):W->Jw Lc
 | .non=>ba "NoneType"|.bl _=>ba "bool"|.int _=>ba "int"|.str _=>ba "str"|.tup _=>ba "tuple"
 | .ref i=>match fT S i with
  | some _=>ba "list"
  | none=>(jN S i).map λ_=>"dict"
abbrev uf:Jn Lc:=["bool","int","str","tuple","list","dict"]
abbrev yp (S:aa)(x:W)(c:Lc):Jw J6:=match IR S x with
 | some t=>if uf.contains c then ba (t==c||(t == "bool" && c == "int"))else gV
 | none=>gV
def ik {K:JH}{t c:Lc}(ht:t∈["NoneType","bool","int","str","tuple","list","dict"])(hc:c∈uf):PySem.W.kitOne K (.type t) (.type c)=ba (t==c||(t == "bool" && c == "int")):=by
 simp only[uf,JX,Ko,LA]at ht hc;rcases ht with rfl|rfl|rfl|rfl|rfl|rfl|rfl <;> rcases hc with rfl|rfl|rfl|rfl|rfl|rfl <;> rfl
def yq:CallR X (.builtin "isinstance") (λvs H Q=>∃A S x v c b,vs=[v,.ty c]/\StoreOk X.w X.K A H S/\Rel X.K A H x v/\yp S x c=ba b/\Q (.bl b) H):=by
 intro J s Y H vs us Q I rv ⟨A,S,x,v,c,b,e1,so,rx,e2,hq⟩;subst e1;cases rv with
 | cons r1 rv2=>cases rv2 with
  | cons r2 rv3=>
   cases rv3;obtain rfl:_=Lw c:=r2;unfold yp at e2;split at e2
   ·rename_i t ht;split at e2
    ·rename_i hc;cases e2;have hc':c∈uf:=by simpa using hc
     have fin:∀tk,EP X J Y Q (.bool (t==c||(t == "bool" && c == "int"))) { s with toks:=tk }:=λtk=>#[.bl _,H,I.tok _,rfl,hq]
     cases rx with
     | non=>cases ht; cases(show _=KA from r1); exact My PySem.W.kitx_none I.kIn N1 (ik (by simp) hc') (λz=>nomatch z) fin
     | bl=>cases ht; cases(show _=Na _ from r1); exact My PySem.W.kitx_bool I.kIn N1 (ik (by simp) hc') (λz=>nomatch z) fin
     | int=>cases ht; obtain⟨t',q⟩:=(show ∃t,_=NW _ t from r1); cases q; exact My PySem.W.kitx_int I.kIn N1 (ik (by simp) hc') (λz=>nomatch z) fin
     | str=>cases ht; obtain⟨t',q⟩:=(show ∃t,_=NX _ t from r1); cases q; exact My PySem.W.kitx_str I.kIn N1 (ik (by simp) hc') (λz=>nomatch z) fin
     | tup h1 r1'=>
      cases ht;obtain⟨its,rv,⟨o,q1,q2,_⟩,hz⟩:=I.tuple h1;cases(show _=Kj _ from r1)
      exact My PySem.W.kitx_tuple I.kIn #[o,q1,q2] (ik (by simp) hc') (λz=>nomatch z) fin
     | ref ea=>
      cases(show _=Kj _ from r1)
      simp only[IR]at ht;split at ht
      ·rename_i ws hw;cases ht;obtain⟨vs,h1,_⟩:=aZ so hw ea;obtain⟨its,rv,p,hz⟩:=I.list h1;obtain⟨o,q1,q2,_⟩:=p.isList;exact My PySem.W.kitx_list I.kIn #[o,q1,q2] (ik (by simp) hc') (λz=>nomatch z) fin
      ·rw[Js]at ht;obtain⟨U,hk,rfl⟩:=ht;obtain⟨xs,rd,kr⟩:=fY so hk ea;obtain⟨es,ep,⟨o,q1,q2,_⟩,he⟩:=(cp I rd).raw;exact My PySem.W.kitx_dict I.kIn #[o,q1,q2.1] (ik (by simp) hc') (λz=>nomatch z) fin
    ·cases e2
   ·cases e2
abbrev yr (c:Lc)(f:FE):FE:=λZ S=>match f Z S with
 | some (x,S1)=>(yp S1 x c).map λb=>(.bl b,S1)
 | none=>gV
def D1 {cn:JV}{c:Lc}{e:J3}{p p2 pos:Mo}{f:FE}(hg:Gl X "isinstance")(hm:X.mg "isinstance" = gV)(hg2:Gl X cn)(hm2:X.mg cn=gV)(hv2:bootBuiltins cn=ba (.type c))(hn2:cn≠"__name__")(hd2:(cn==("__debug__" : JV))=false)
  (he:GE X e f) (hs:starEach [e,.Name cn p2] X.env=(false,eval e X.env)::starEach [.Name cn p2] X.env):GE X (.Call (.Name "isinstance" p) [e,.Name cn p2] [] pos) (yr c f):=
 GE.of (pe (yq) hg hm rfl (nH he (nH (Ai (v:=.ty c) hg2 hm2 hv2 rfl hn2 hd2) wY) hs) #v[] #v[] hs rfl) λY H A Z S w S' er so e Q hq=>by
  unfold yr at e;split at e
  ·rename_i x1 S1 h1;rw[Js]at e;obtain⟨b,e1,e2⟩:=e;cases e2;exact#[A,Z,S,x1,_,er,so,h1,λv H1 #[A1,z1,z2,z3]=>#[A1,_,x1,v,c,b,rfl,z2,z3,e1,hq _ _ #[A1,z1,z2,.bl]]]
  ·cases e
end
abbrev dC:Jn (T×W)->Jn W->Jw (Jn (T×W))
 | U,[]=>ba U
 | U,k::v::ws=>match gN k with
  | some t=>dC (d7 U t v) ws
  | none=>gV
 | _,[_]=>gV
abbrev Cs:FE:=λ_ S=>ba (.ref S.length,S++[.dic []])
abbrev qo (f:FA):FE:=λZ S=>match f Z (S++[.dic []])with
 | some (ws,S1)=>match S1[S.length]? with
  | some (.dic [])=>match dC [] ws with
   | some U=>ba (.ref S.length,S1.set S.length (.dic U))
   | none=>gV
  | _=>gV
 | none=>gV
section
variable (K:JH) (A:Jn JA) (H:Hp)
inductive RelP:Jn W->Jn (V×V)->Prop
 | nil:RelP [] []
 | cons {k v:W} {a b:V} {ws:Jn W} {ps:Jn (V×V)}:Rel K A H k a->Rel K A H v b->RelP ws ps->RelP (k::v::ws) ((a,b)::ps)
end
def RelP.mono {K:JH}{A A':Jn JA}{H H':Hp}(e:Ext K A H A' H'){ws:Jn W}{ps:Jn (V×V)}(h:RelP K A H ws ps):RelP K A' H' ws ps:=by
 induction h with
 | nil=>exact .nil
 | cons a b c ih=>exact .cons (a.mono e) (b.mono e) ih
section
variable{X:Cx}{J:Jn (JA×Lo)}{Y:L2.St}{H:Hp}{s:Jt}{A:Jn JA}{S:aa}
abbrev HV (X:Cx)(A:Jn JA)(H:Hp)(S':aa)(ws:Jn W):Jn (V×V)->Hp->Prop:=λps H'=>∃A',Ext X.K A H A' H'/\StoreOk X.w X.K A' H' S'/\RelP X.K A' H' ws ps
abbrev FW (X:Cx)(pos:Mo)(keys:Jn (Jw J3))(values:Jn J3)(f:FA):Prop:=
 ∀(J:Jn (JA×Lo)) (s:Jt) (Y:L2.St) (H:Hp) (A:Jn JA) (Z:Fm) (S:aa) (ws:Jn W) (S':aa),Inv X J Y H s->EnvRel X.K A H Z Y->StoreOk X.w X.K A H S->f Z S=ba (ws,S')->
  wpAny (model X.prog X.w) X.A (evalPairs (pairTrees keys values X.env pos)) (λvs s'=>∃ps H',Inv X J Y H' s'/\VV ps vs/\HV X A H S' ws ps H') X.xe s
def By {pos:Mo}:FW X pos [] [] iW:=λJ s Y H A Z S ws S' I er so e=>by
 cases e;exact pairTrees_nil_walk #[[],H,I,.nil,A,.refl,so,.nil]
def yt {pos:Mo}{k v:J3}{ks:Jn (Jw J3)}{vs:Jn J3}{fk fv:FE}{f:FA}(hk:GE X k fk)(hv:GE X v fv)(hr:FW X pos ks vs f):FW X pos (ba k::ks) (v::vs) (dF fk (dF fv f)):=λJ s Y H A Z S ws S' I er so e=>by
 unfold dF at e;split at e
 ·rename_i w1 S1 h1;split at e
  ·rename_i w2 S2 h2;cases e;split at h2
   ·rename_i w3 S3 h3;split at h2
    ·rename_i w4 S4 h4;cases h2;refine pairTrees_cons_walk (bq (hk J s Y H (EndV X.w X.K A H S1 w1) I #[A,Z,S,_,_,er,so,h1,λ_ _ z=>z]) λu s1 #[x,H1,I1,r1,A1,e1,o1,z1]=>
      bq (hv J s1 Y H1 (EndV X.w X.K A1 H1 S3 w3) I1 #[A1,Z,S1,_,_,er.mono e1,o1,h3,λ_ _ z=>z]) λu2 s2 #[x2,H2,I2,r2,A2,e2,o2,z2]=>
      bq (hr J s2 Y H2 A2 Z S3 _ _ I2 (er.mono (e1.trans e2)) o2 h4) λvs' s3 #[ps,H3,I3,rel,A3,e3,o3,z3]=>?_)
     exact#[(x,x2)::ps,H3,I3,.cons #[r1,r2] rel,A3,e1.trans (e2.trans e3),o3,.cons (z1.mono (e2.trans e3)) (z2.mono e3) z3]
    ·cases h2
   ·cases h2
  ·cases e
 ·cases e
def mP {r:Jx}{d:JA}{E:Jr->Jt->Prop}(hu:X.A.units+10 < cLine):∀(vs:Jn (Jr×Jr)) (ps:Jn (V×V)) (ws:Jn W) (U U':Jn (T×W)) (s:Jt) (H:Hp) (S:aa) (Q:PUnit->Jt->Prop),
  Inv X J Y H s->StoreOk X.w X.K A H S->nX S r=ba U->A[r]?=ba d->RelP X.K A H ws ps->VV ps vs->dC U ws=ba U'->U.length+vs.length<=30->
  (∀s' H',Inv X J Y H' s'->Ext X.K A H A H'->StoreOk X.w X.K A H' (S.set r (.dic U'))->Q Qv s')->
  wpAny (model X.prog X.w) X.A (forIn vs Qv λ(x:Jr×Jr) (_:PUnit)=>(do dictSet d x.1 x.2; pure (LG Qv):Td (ForInStep PUnit))) Q E s
 | [],_,_,U,U',s,H,S,Q,I,so,hr,ea,rp,vv,e,hl,hq=>by
  cases vv;cases rp;cases e;rw[P0];refine Ju (hq s H I .refl ?_);have hS:=iR hr;have:S.set r (.dic U)=S:=by
   apply OV;intro j;rw[LR];split
   ·rename_i e; subst e
    split
    ·exact hS.symm
    ·rename_i h; exact absurd (JF.mp hS).1 h
   ·rfl
  rw[this]; exact so
 | (ku,vu)::vs,_,_,U,U',s,H,S,Q,I,so,hr,ea,rp,vv,e,hl,hq=>by
  cases vv with
  | cons hv vv2=>
   cases rp with
   | @cons wk wv va vb ws2 ps2 rk rv' rp2=>
    simp only[dC]at e;split at e
    ·rename_i t ht;rw[Od];obtain⟨xs,hH,kr⟩:=tL so hr ea;have dd0:=cp I (.inl hH);have dd:=dd0.dict I kr;obtain⟨bk,e1,e2,rkk⟩:=iQ ht rk hv.1;have e2:ku=Kj bk:=e2;subst e2;obtain⟨q1,q2,q3⟩:=dU ht;rw[J9]at hl;have hz:xs.length<=sizeLine:=dd0.1;refine Jo (Jo (wpAny_dictSet_heap (hsz:=hz) (show X.A.units+az < cLine by unfold az; omega) (jn I rkk q3) dd λh' dd' hs=>Ju ?_))
     have kr':=kr.put q2 q3 rkk rv' hv.2;have hz':(storedH xs t bk vu).length<=sizeLine:=by
      rw[<- kr'.length];have h2:=cD U t wv;rw[Ky];omega
     have dn:DicAt X.w d (storedH xs t bk vu) h':=.of hz' dd0.2.1 dd';obtain⟨so',ex⟩:=so.writeO (iR hr) rfl ea (u:=d0 X.w d (storedH xs t bk vu)) (n:=.dic (d7 U t wv)) #[_,aI,kr'.mono (cj (.ext hH))];have I':Inv X J Y (br H d (d0 X.w d (storedH xs t bk vu))) { s with heap:=h',toks:=s.toks+(aV X.prog X.w).draws t }:=nO I (by rw[hH]; exact N1) hs (let ⟨q,_,_,hq,_⟩:=dd'; #[q,hq]) dn.ok
     have hl':(S.set r (.dic (d7 U t wv)))[r]?=ba (.dic (d7 U t wv)):=by
      rw[LR,JZ rfl,JZ (JF.mp (iR hr)).1]
     refine mP hu vs _ _ (d7 U t wv) U' _ _ _ Q I' so' (by unfold nX; rw[hl']) ea (rp2.mono ex) vv2 e (by have:=cD U t wv; omega) λs' H' I2 ex2 so2=>?_
     rw[List.set_set]at so2;exact hq s' H' I2 (ex.trans ex2) so2
    ·cases e
def Bz {pos:Mo}:GE X (.Dict [] [] pos) Cs:=λJ s Y H Q I #[A,Z,S,w,S',er,so,e,hq]=>by
 cases e;have hn:=I.hok.fresh (JB s.heap.objs.size);have dn:DicAt X.w s.heap.objs.size [] (s.heap.push { cls:=.type "dict",data:=.dict #[] }):=#[Lj _,Og.mpr (Ne.symm (J0 I.big)),P1,_,#[],0,JJ _ rfl,#[rfl,rfl,rfl],rfl,rfl];refine wpAny_Dict_empty #[.ref s.heap.objs.size,_,I.laid (a:=s.heap.objs.size) (o:=d0 X.w s.heap.objs.size []) (t':=s.toks) (λ_ _ q=>Jq _ q) (JB _) dn.ok,rfl,hq _ _ #[A++[s.heap.objs.size],cJ hn,so.pushO hn #[[],aI,.nil],.ref ?_]]
 rw[<- so.len]; simp
def BA {pos:Mo}{keys:Jn (Jw J3)}{values:Jn J3}{f:FA}(hu:X.A.units+10 < cLine)(h:FW X pos keys values f)(hall:keys.all (·.isSome)=true)(hl:keys.length=values.length)(h0:keys≠[])(h15:keys.length<=15):GE X (.Dict keys values pos) (qo f):=by
 intro J s Y H Q I ⟨A,Z,S,w,S',er,so,e,hq⟩;unfold qo at e;split at e
 ·rename_i ws S1 h1;split at e
  ·rename_i hS1;split at e
   ·rename_i U hp;cases e;have hn:=I.hok.fresh (JB s.heap.objs.size);have dn:DicAt X.w s.heap.objs.size [] (s.heap.push { cls:=.type "dict",data:=.dict #[] }):=#[Lj _,Og.mpr (Ne.symm (J0 I.big)),P1,_,#[],0,JJ _ rfl,#[rfl,rfl,rfl],rfl,rfl];have I1:=I.laid (a:=s.heap.objs.size) (o:=d0 X.w s.heap.objs.size []) (h':=s.heap.push { cls:=.type "dict",data:=.dict #[] }) (t':=s.toks) (λ_ _ q=>Jq _ q) (JB _) dn.ok
    have ex0:Ext X.K A H (A++[s.heap.objs.size]) (br H s.heap.objs.size (d0 X.w s.heap.objs.size [])):=cJ hn;have so0:StoreOk X.w X.K (A++[s.heap.objs.size]) (br H s.heap.objs.size (d0 X.w s.heap.objs.size [])) (S++[.dic []]):=so.pushO hn #[[],aI,.nil];have hlen:=pairTrees_length keys values X.env pos hall hl;have hne:pairTrees keys values X.env pos≠[]:=λhe=>by
     rw[he]at hlen;exact h0 (KS.mp hlen.symm)
    rw[arm_eval_Dict,zip_pairTrees keys values X.env pos hall hl,dictDisplay_pairs _ hne ∅]
    refine Jo (N4 (Jo ?_));unfold subDict;refine Jo (SX ?_);refine Jo (KR ?_);rw[JZ ∅]
    refine Jo (LH (wpAny_evalPairs_len (h J _ Y _ _ Z _ _ _ I1 (er.mono ex0) so0 h1)) (λvs s₁ h₁=>?_) λ_ _ e=>e)
    obtain⟨hvl,ps,H2,I2,vv,A2,ex2,so2,rp⟩:=h₁;refine KR ?_;have ea:A2[S.length]?=ba s.heap.objs.size:=ex2.ad _ _ (by rw[<- so.len]; simp)
    refine Jo (mP hu vs ps ws [] U s₁ H2 S1 _ I2 so2 (by unfold nX; rw[hS1]) ea rp vv hp (by rw[LV]; omega) λs' H' I3 ex3 so3=>?_)
    exact Ju (Ju (Ju #[.ref s.heap.objs.size,H',I3,rfl,hq _ _ #[A2,ex0.trans (ex2.trans ex3),so3,.ref ea]]))
   ·cases e
  ·cases e
 ·cases e
end
abbrev IS (wd:Km)(a:JA)(o:Lo)(xs:Jn (T×JA×Jr)):It:=
 #[λi H=>H a=ba (.frz o (d0 wd a xs))/\i < xs.length,λi H x H'=>H'=H/\∃q,xs[i]?=ba q/\x=.ref q.2.1,λi H=>H a=ba (.frz o (d0 wd a xs))/\xs.length<=i]
def vR {P:Kh}{w:Km}{K:JH}{tg:J3}(a it:JA){o:Lo}{es:J8 L8}{ep:Jx}{xs:Jn (T×JA×Jr)}(hx:o.ExactDict)(hd:o.data=.dict es ep)(he:es.toList=xs.map (xp w)) :
  Turn P w K tg (IS w a o xs) [it] it (λi h=>h.IsKeyIter it a i es.size ep) where
 mem:=by simp
 obj:=λi h st b hb=>by
  have e:b=it:=by simpa using hb
  subst e;obtain⟨o,e,c,d⟩:=st;exact#[o,e,λv z=>by rw[d]at z; cases z]
 keep:=λi h h' st k=>st.at λo e=>k it (by simp) o e
 item:=by
  intro X hP hw hK hc i J s Y H E I hf st hg;subst hP hw hK;obtain⟨hH,hi⟩:=hg;have ho:s.heap.get? a=ba o:=(show ObjOk X.prog X.w H s.heap a (.frz o (d0 X.w a xs))from I.hok a _ hH).1
  have hl:es.size=xs.length:=by rw[<- JS,he,Jp]
  have hi':i < es.size:=∅
  obtain⟨f0,f1,f2,f3,f4,f5⟩:=hf it (by simp)
  have hk:es[i].key=.ref (xs[i]).2.1:=by
   have:es.toList[i]?=ba (xp X.w xs[i]):=by rw[he,Jy,Jz hi]; rfl
   rw[K2,LX hi']at this;have:=KQ this;rw[this]; rfl
  refine pR st #[o,ho,hx,hd] hi' λh' st' sb=>?_
  have I1:Inv X J Y H { s with heap:=h' }:=I.turned (t':=s.toks) (λb o hb e=>(sb.2 b hb).trans e) f0 f1 f3 f4 f5
  obtain⟨o',e,c,d⟩:=id st';exact#[_,rfl,sX (s:={ s with heap:=h' }) e c d #v[] #[.ref (xs[i]).2.1,H,I1,hk,#[rfl,xs[i],Jz hi,rfl],st',λb hb=>(hf b hb).1]]
 done:=by
  intro X hP hw hK hc i J s Y H E I hf st hg;subst hP hw hK;obtain⟨hH,hi⟩:=hg;have ho:s.heap.get? a=ba o:=(show ObjOk X.prog X.w H s.heap a (.frz o (d0 X.w a xs))from I.hok a _ hH).1
  have hl:es.size=xs.length:=by rw[<- JS,he,Jp]
  obtain⟨f0,f1,f2,f3,f4,f5⟩:=hf it (by simp)
  exact tN (I.ok.hd hc) st #[o,ho,hx,hd] ∅ λh' eb=>#[rfl,I.turned (t':=s.toks) (λb o hb e=>eb b o hb e) f0 f1 f3 f4 f5]
 self:=λ_ _ _ _ _ st h=>PY st h
abbrev eY (f:FE):FI:=λZ S=>match f Z S with
 | some (.tup ws,S1)=>ba (.its ws,S1)
 | some (.ref r,S1)=>match fT S1 r with
  | some _=>ba (.live r,S1)
  | none=>match jN S1 r with
   | some U=>ba (.its (U.map λp=>p.1.w),S1.set r (.frd U))
   | none=>gV
 | _=>gV
section
variable{X:Cx}{J:Jn (JA×Lo)}{Y:L2.St}{H:Hp}{s:Jt}{A:Jn JA}{S:aa}
def yu {a:JA}{o:Lo}{U:Jn (T×W)}{xs:Jn (T×JA×Jr)}(hH:H a=ba (.frz o (d0 X.w a xs)))(kr:KRel X.K A H U xs):MIt X.w X.K (.its (U.map λp=>p.1.w)) (IS X.w a o xs) A H:=by
 refine#[λA' H' S i w e so hi=>?_,λA' H' S i e so hi=>?_]
 ·simp only[MI.at,Kf]at hi;obtain⟨v,h1,h2⟩:=((kr.mono e).keysL).get hi;rw[Jy,Js]at h1;obtain⟨q,q1,q2⟩:=h1;refine#[#[e.fz _ _ _ hH,(JF.mp q1).1],λx H2 #[z1,q',z2,z3]=>?_]
  subst z1 z3;rw[q1]at z2; cases z2
  exact#[.refl,so,by rw[q2]; exact h2]
 ·simp only[MI.at,Kf]at hi;refine#[e.fz _ _ _ hH,?_];have:=KH.mp hi;rw[Jp,kr.length]at this;exact this
def BB {tg l:J3}{f:FE}(h:GE X l f):GI X tg l (eY f):=by
 intro J s Y H R I ⟨A,Z,S,mi,S',er,so,e,hq⟩
 by_cases hd:∃r S1 U,f Z S=ba (.ref r,S1)/\fT S1 r=gV/\jN S1 r=ba U
 ·obtain⟨r,S1,U,h1,h2,h3⟩:=hd;simp only[eY,h1,h2,h3]at e;cases e;refine bq (h J s Y H (EndV X.w X.K A H S1 (.ref r)) I #[A,Z,S,_,_,er,so,h1,λ_ _ z=>z]) λv s1 #[x,H1,I1,r1,A1,e1,o1,z1]=>?_
  cases z1 with
  | @ref _ a ea=>
   obtain rfl:v=Kj a:=r1;have fz:∃o xs H2,Inv X J Y H2 s1/\Ext X.K A1 H1 A1 H2/\StoreOk X.w X.K A1 H2 (S1.set r (.frd U))/\H2 a=ba (.frz o (d0 X.w a xs))/\KRel X.K A1 H2 U xs:=by
    unfold jN at h3;split at h3
    ·rename_i k hk;cases h3;obtain⟨xs,hH,kr⟩:=o1.obj r _ a hk ea;have d:=cp I1 (.inl hH);obtain⟨_,_,_,o,es,ep,q1,q2,q3,q4⟩:=id d;obtain⟨so',ex⟩:=o1.writeO hk rfl ea (u:=.frz o (d0 X.w a xs)) (n:=.frd U) #[o,xs,aI,kr.mono (cj (.ext hH))];exact#[o,xs,_,nO (h':=s1.heap) (t':=s1.toks) (ob:=.frz o (d0 X.w a xs)) I1 (by rw[hH]; exact N1) (QV _ _) #[o,q1] #[q1,d.ok],ex,so',aI,kr.mono ex]
    ·rename_i k hk;cases h3;obtain⟨o,xs,hH,kr⟩:=o1.obj r _ a hk ea;have:S1.set r (.frd U)=S1:=by
      apply OV;intro j;rw[LR];split
      ·rename_i e; subst e
       split
       ·exact hk.symm
       ·rename_i h; exact absurd (JF.mp hk).1 h
      ·rfl
     rw[this];exact#[o,xs,H1,I1,.refl,o1,hH,kr]
    ·cases h3
   obtain⟨o,xs,H2,I2,ex,so2,hH,kr⟩:=fz;have d:=cp I2 (.inr #[o,hH]);have ho:s1.heap.get? a=ba o:=(show ObjOk X.prog X.w H2 s1.heap a (.frz o (d0 X.w a xs))from I2.hok a _ hH).1
   obtain⟨_,hsm,_,o',es,ep,q1,q2,q3,q4⟩:=id d;rw[ho]at q1;cases q1;refine pQ hsm #[o,ho,q2,q3] ?_;refine#[s1.heap.objs.size,[s1.heap.objs.size],_,_,H2,rfl,I2.kept (t':=s1.toks) λb o e=>Jq _ e,vR a _ q2 q3 q4,#[_,JJ _ rfl,rfl,rfl],λb hb=>?_,hq _ _ A1 (e1.trans ex) so2 (yu hH kr)]
   have e:b=s1.heap.objs.size:=by simpa using hb
   subst e;exact I2.fpOk (JB _) (I2.hok.fresh (JB _))
 ·have:eY f Z S=Bs f Z S:=by
   unfold eY Bs;cases hf:f Z S with
   | none=>rfl
   | some p=>
    obtain⟨w,S1⟩:=p;cases w with
    | ref r=>
     cases h2:fT S1 r with
     | some _=>simp only[h2]
     | none=>
      cases h3:jN S1 r with
      | none=>simp only[h2,h3]
      | some U=>exact absurd #[r,S1,U,hf,h2,h3] hd
    | _=>rfl
  rw[this]at e;exact DZ h J s Y H R I #[A,Z,S,mi,S',er,so,e,hq]
end
abbrev bv (mi:MI)(g:FG)(c:FT)(f:FE):Jx->Jx->Fm->aa->Jw (Jn W×aa)
 | 0,i,_,S=>match mi.at S i with
  | some gV=>ba ([],S)
  | _=>gV
 | n+1,i,Z,S=>match mi.at S i with
  | some (ba w)=>match g w Z S with
   | some (Z1,S1)=>match c Z1 S1 with
    | some (true,S2)=>match f Z1 S2 with
     | some (y,S3)=>match bv mi g c f n (i+1) Z1 S3 with
      | some (ys,S4)=>ba (y::ys,S4)
      | none=>gV
     | none=>gV
    | some (false,S2)=>bv mi g c f n (i+1) Z1 S2
    | none=>gV
   | none=>gV
  | _=>gV
abbrev eZ (cap:Jn (Jw Jx))(Z:Fm):Fm:=cap.map λo=>match o with
 | some j=>(Z[j]?).join
 | none=>gV
abbrev lb (fi:FI)(g:FG)(c:FT)(f:FE)(cap:Jn (Jw Jx)):FE:=λZ S=>match fi Z S with
 | some (mi,S1)=>match mi.len S1 with
  | some n=>match bv mi g c f n 0 (eZ cap Z) S1 with
   | some (ys,S2)=>lV S2 ys
   | none=>gV
  | none=>gV
 | none=>gV
abbrev Ct:FT:=λ_ S=>ba (true,S)
abbrev lT (X:Cx)(scope:M7)(cl:Jn (JV×JA))(C:JA)(N:Jn JV)(s0:Jt)(H0:Hp)(ex:Jn JA):Cx:=
 { X with env:=compEnvC scope cl C X.env,N:=N,s₀:=s0,H₀:=H0,outer:=X.stack,stack:=X.stack,ex:=ex,fn:=λ_=>false,pn:=[],xe:=λ_ _=>K5 }
structure CompOk (X:Cx)(scope:M7)(cl:Jn (JV×JA))(N:Jn JV)(cap:Jn (Jw Jx)):Prop where
 clos:closureFor scope X.env=pure cl
 kind:scope.kind=.function
 names:∀y∈scope.names,y.2=.local->scope.names.lookup y.1=ba .local
 nocell:∀y∈scope.names,y.2≠.cell
 sub:∀x c,cl.lookup x=ba c->X.env.cells.lookup x=ba c
 has:∀x,((relabel scope X.env).names.lookup x=ba .cell\/(relabel scope X.env).names.lookup x=ba .free)->∃c,cl.lookup x=ba c
 len:cap.length=N.length
 cap:∀(i j:Jx) (x:JV),cap[i]?=ba (ba j)->N[i]?=ba x->X.N[j]?=ba x/\(X.env.kindOf x=ba .cell\/X.env.kindOf x=ba .free)/\((relabel scope X.env).names.lookup x=ba .cell\/(relabel scope X.env).names.lookup x=ba .free)
def gP {prog:Kh}{w:Km}{A:Kk}{R:Rc->Jt->Prop}{s:Jt}{elt target iter:J3}{ifs:Jn J3}{scope:M7}{pos:Mo}{it acc:Jr}{env:QF}(I:Jx->Jt->Prop)
    (turn:∀n s,I n s->wpAny (model prog w) A (pyNext it) (λr s₁=>match r with
      | none=>R (.ok .next) s₁
      | some v=>wpAny (model prog w) A (letOwnedTupleGo target it v) (λ_ s₁=>wpAny (model prog w) A (assign target env v) (λ_ s₂=>
          wpAny (model prog w) A (forIn ifs true λc r=>if r=true then do let ok <- isTrue c env (eval c env); pure (LG ok)else pure (LG r)) (λok s₃=>
            if ok=true then wpAny (model prog w) A (eval elt env) (λx s₄=>
              wpAny (model prog w) A (call (.builtin "list.append") [acc,x]) (λ_ s₅=>∃m,m < n/\I m s₅) (λ_ _=>K5) s₄) (λ_ _=>K5) s₃
            else ∃m,m < n/\I m s₃) (λ_ _=>K5) s₂) (λ_ _=>K5) s₁) (λ_ _=>K5) s₁) (λ_ _=>K5) s)
    (n:Jx) (h:I n s) :
    codeAny (model prog w) A (.compLoop (.ListComp elt [#[target,iter,ifs,0]] scope pos) 0 it acc env) R s:=by
  refine codeAny_loop rfl I (λn s hI=>?_) n h
  show wpAny _ A ((compTurn (.ListComp elt [#[target,iter,ifs,0]] scope pos) 0 it acc env).onRaise (λx=>do noteFrame x env; theTreesLotGoes x)) _ _ s
  refine wpAny_noted ?_;rw[compTurn_list];refine Jo (N4 (Jo (LH (turn n s hI) (λr s₁ h₁=>?_) λ_ _ h'=>h'.elim)))
  cases r with
  | none=>exact Ju h₁
  | some v=>
    refine Jo (LH h₁ (λ_ s₁ h₁=>?_) λ_ _ h'=>h'.elim)
    refine Jo (LH h₁ (λ_ s₂ h₂=>Jo (LH h₂ (λok s₃ h₃=>?_) λ_ _ h'=>h'.elim)) λ_ _ h'=>h'.elim)
    cases ok with
    | false=>exact Ju #[rfl,h₃]
    | true=>
      exact Jo (Jo (LH h₃ (λx s₄ h₄=>Jo (LH h₄ (λ_ s₅ h₅=>Ju (Ju #[rfl,h₅])) λ_ _ h'=>h'.elim)) λ_ _ h'=>h'.elim))
section
variable{X:Cx}{J:Jn (JA×Lo)}{Y:L2.St}{H:Hp}{s:Jt}
def Inv.adopt {D:JA}{o:HO}(I:Inv X J Y H s)(hn:H D=gV)(h1:D∈X.ex\/X.s₀.heap.objs.size<=D)(hL:D≠X.env.locals)(h2:∀x c,X.env.cells.lookup x=ba c->c≠D)(h3:∀p∈X.pn++J,p.1≠D)
  (new:ObjOk X.prog X.w (br H D o) s.heap D o):Inv X J Y (br H D o) s:=by
 have nit:∀b u,H b=ba u->b≠D:=λb u e z=>by rw[z,hn]at e; cases e
 have key:Inv X J Y (br H D o) { s with heap:=s.heap,gens:=s.gens,drawn:=s.drawn,toks:=s.toks }:=by
  refine I.step (g':=s.gens) (d':=s.drawn) (t':=s.toks) (h':=s.heap) (ch:=[D]) (λb hb=>?_) (λb o _ _ hc e _=>e) (λb o _ _ hc e _=>#[o.slots,e]) (λb o hc e n=>?_)
   (λb o hc e=>#[o,e]) (λb xs e=>?_) (λb o xs e=>?_) (λb ps e=>#[#[],?_]) (λm hm=>hm) (λb u e=>?_) I.bare
  ·have e:b=D:=by simpa using hb
   subst e;exact#[h1,hL,h2,h3]
  ·rw[aC (λz=>hc (by simp[z]))]; exact n
  ·rw[aC (nit b _ e)]; exact e
  ·rw[aC (nit b _ e)]; exact e
  ·rw[aC (nit b _ e),e]; simp
  ·by_cases hb:b=D
   ·subst hb; rw[aI]at e; cases e; exact new
   ·rw[aC hb]at e;refine(I.hok b u e).stay (λc v hc q=>q) (λc q=>?_) λc xs q=>?_
    ·rw[aC (nit c _ q)]; exact q
    ·rw[aC (nit c _ q)]; exact q
 exact key
def D2 {scope:M7}{cl:Jn (JV×JA)}{N:Jn JV}{cap:Jn (Jw Jx)}{C:JA}{s0:Jt}{ex:Jn JA}(I:Inv X J Y H s)(ck:CompOk X scope cl N cap)(hs:s.heap.objs.size<=s0.heap.objs.size)(hC:s0.heap.objs.size<=C)
  (hk:∀b o,s.heap.get? b=ba o->s0.heap.get? b=ba o) (hex:∀b∈ex,(b≠C)/\(∀x c,X.env.cells.lookup x=ba c->c≠b)/\(∀o,X.base.get? b≠ba o)/\b∉rD X.stack) :
  (lT X scope cl C N s0 H ex).Ok where
 mod:=I.ok.mod
 kind:=ck.kind
 glob:=I.ok.glob
 blt:=I.ok.blt
 above:=hC
 inj:=λx y c h1 h2=>I.ok.inj x y c (ck.sub x c h1) (ck.sub y c h2)
 has:=λx h=>ck.has x h
 cab:=λx c h=>by cases h
 hd:=I.ok.hd
 frames:=I.ok.frames
 stk:=.inl rfl
 exf:=λb hb=>#[(hex b hb).1,λx c h=>(hex b hb).2.1 x c (ck.sub x c h)]
 bs:=λb o e=>#[hk b o (I.bk b o e),(I.bs b o e).2]
 bsz:=JY (JY I.ok.bsz I.sz) hs
 noex:=λb o e hb=>(hex b hb).2.2.1 o e
 exfs:=λb hb=>(hex b hb).2.2.2
 funs:=I.stack.of_keeps λb o e _=>#[o,hk b o e,rfl]
 frf:=I.stkFree
structure BlockOk (X:Cx)(scope:M7)(cl:Jn (JV×JA))(N:Jn JV)(tg elt:J3)(ifs:Jn J3)(g:FG)(c:FT)(f:FE):Prop where
 tgt:∀C s0 H0 ex,GG (lT X scope cl C N s0 H0 ex) tg g
 tst:∀C s0 H0 ex J s Y H Q,Inv (lT X scope cl C N s0 H0 ex) J Y H s->tT (lT X scope cl C N s0 H0 ex) c Y H Q->
  wpAny (model X.prog X.w) X.A (forIn ifs true λc r=>if r=true then do let ok <- isTrue c (compEnvC scope cl C X.env) (eval c (compEnvC scope cl C X.env)); pure (LG ok)else pure (LG r)) (TP (lT X scope cl C N s0 H0 ex) J Y Q) (λ_ _=>K5) s
 elt:∀C s0 H0 ex,GE (lT X scope cl C N s0 H0 ex) elt f
def ow {prog:Kh}{w:Km}{B:Kk}{s:Jt}{E:Jr->Jt->Prop}{Q:Jr->Jt->Prop}{D:JA}{its:Jn Jr}{n:Jx}{u:Jr}(e:s.heap.get? D=ba { cls:=.type "list",data:=.seq its.toArray n })(hz:its.length < sizeLine)
  (h:∀h' n',h'.get? D=ba { cls:=.type "list",data:=.seq (its++[u]).toArray n' }->(∀b o,b≠D->s.heap.get? b=ba o->h'.get? b=ba o)->Q .none { s with heap:=h' }) :
  wpAny (model prog w) B (call (.builtin "list.append") [.ref D,u]) Q E s:=by
 refine Ow F.slot_list_append #[_,e,rfl] F.entry_list_append (F.args_list_append_2 _ _) (QN D its.toArray n u (by rw[JM]; omega)) #[e,?_]
 have q:=Rh e (λa=>a.push u)
 have e2:its.toArray.push u=(its++[u]).toArray:=by simp
 rw[e2]at q;exact h _ _ q (λb o hb ho=>(Kx s.heap (Ld λa=>a.push u) (Ne.symm hb)).trans ho)
def mQ {scope:M7}{cl:Jn (JV×JA)}{N:Jn JV}{cap:Jn (Jw Jx)}{tg elt iter:J3}{ifs:Jn J3}{g:FG}{c:FT}{f:FE}{pos:Mo}{A:Jn JA}{Z:Fm}{S S':aa}{mi:MI}{n:Jx}{ws:Jn W}{E:Jr->Jt->Prop}
  {it:JA} {fp:Jn JA} {tn:Jx->Kw->Prop} {td:It} {RR:Jr->JA->Rc->Jt->Prop}
  (I:Inv X J Y H s) (hc:X.calm=true) (er:EnvRel X.K A H Z Y) (so:StoreOk X.w X.K A H S) (ck:CompOk X scope cl N cap) (bk:BlockOk X scope cl N tg elt ifs g c f)
  (T:Turn X.prog X.w X.K tg td fp it tn) (t0:tn 0 s.heap) (hfp:∀b∈fp,hW X J H b) (mit:MIt X.w X.K mi td A H) (e:bv mi g c f n 0 (eZ cap Z) S=ba (ws,S')) (hz:ws.length<=sizeLine)
  (fin:∀D C s' H' A' vs m,s'.heap.Ns C m->H' D=gV->D≠C->C≠X.env.locals->C∉X.fs->H' C=gV->X.s₀.heap.objs.size<=C->(∀x c,X.env.cells.lookup x=ba c->c≠C)->(∀p∈X.pn++J,p.1≠C)->
   Inv X J Y (br H' D (.lst vs)) s'->Ext X.K A H A' H'->StoreOk X.w X.K A' H' S'->RelL X.K A' H' ws vs->RR (.ref D) C (.ok .next) s') :
  wpAny (model X.prog X.w) X.A (newList []) (λacc s₃=>wpAny (model X.prog X.w) X.A (newFunctionEnv scope X.env.globals cl [] X.env.qual gV .none (ba X.env)) (λcenv s₄=>
   codeAny (model X.prog X.w) X.A (.compStart (.ListComp elt [#[tg,iter,ifs,0]] scope pos) 0 (.ref it) acc { cenv with scope:=relabel scope X.env }) (RR acc cenv.locals) s₄) E s₃) E s:=by
 refine Kr (wpAny_newFunctionEnv ck.nocell (by intro y hy; simp at hy) (λh₁ hns₁ hsb₁=>?_) ck.kind)
 dsimp only at hns₁ hsb₁ ⊢;generalize hH2:s.heap.push { cls:=.type "list",dict:=gV,data:=.seq ([]:Jn Jr).toArray }=h2 at hns₁ hsb₁ ⊢;have hCs:h2.objs.size=s.heap.objs.size+1:=by rw[<- hH2,Lq]
 have k2:∀b o,s.heap.get? b=ba o->h2.get? b=ba o:=λb o z=>hH2 ▸ Jq _ z
 have lt2:∀b o,h2.get? b=ba o->b < h2.objs.size:=λb o z=>JN z
 have k1:∀b o,h2.get? b=ba o->h₁.get? b=ba o:=λb o z=>hsb₁.extBut b o (J0 (lt2 b o z)) (Jq _ z)
 have hD2:h2.get? s.heap.objs.size=ba { cls:=.type "list",data:=.seq ([]:Jn Jr).toArray }:=hH2 ▸ JJ _ rfl;have hDC:s.heap.objs.size≠h2.objs.size:=by rw[hCs]; omega
 have fresh:∀a,s.heap.objs.size<=a->H a=gV:=λa ha=>I.hok.fresh ha
 have cellLt:∀x c,X.env.cells.lookup x=ba c->c < s.heap.objs.size:=λx c z=>let ⟨_,q⟩:=I.cell x c z; q.lt
 have fpLt:∀b∈fp,b < s.heap.objs.size:=λb hb=>let ⟨_,q,_⟩:=T.obj 0 s.heap t0 b hb; JN q
 have stkLt:∀b∈rD X.stack,b < s.heap.objs.size:=λb hb=>let ⟨_,o,q,_⟩:=I.stack.mem hb; JN q
 have baseLt:∀b o,X.base.get? b=ba o->b < s.heap.objs.size:=λb o z=>JN (I.bk b o z)
 have fpStk:∀b∈fp,b∉rD X.stack:=λb hb z=>by
  rcases JX.mp (I.stkSub b z)with q|q
  ·exact(hfp b hb).2.1 q
  ·exact(hfp b hb).2.2.1 q
 have fpBase:∀b∈fp,∀o,X.base.get? b≠ba o:=λb hb o z=>by
  rcases(hfp b hb).2.2.2.1 with q|q
  ·exact I.ok.noex b o z q
  ·exact absurd (J4 (JN (I.ok.bs b o z).1) q) (K8 _)
 have ltC:∀ {b:JA},b < s.heap.objs.size->b≠h2.objs.size:=λhb=>by rw[hCs]; exact J0 (L9 hb)
 let s3:Jt:={ s with heap:=h2 }
 have ok':(lT X scope cl h2.objs.size N s3 H (fp++[s.heap.objs.size])).Ok:=by
  refine D2 I ck (show s.heap.objs.size<=h2.objs.size by rw[hCs]; omega) (JB _) k2 λb hb=>?_
  rcases Kd.mp hb with hb|hb
  ·exact#[ltC (fpLt b hb),(hfp b hb).2.2.2.2.1,fpBase b hb,fpStk b hb]
  ·have eb:b=s.heap.objs.size:=by simpa using hb
   subst eb;exact#[hDC,λx c z=>J0 (cellLt x c z),λo z=>K8 _ (baseLt _ o z),λz=>K8 _ (stkLt _ z)]
 obtain⟨m0,hn0,hl0⟩:=I.loc;have I0:Inv (lT X scope cl h2.objs.size N s3 H (fp++[s.heap.objs.size])) [] (cap.map λo=>match o with|some j=>(Y[j]?).join|none=>gV) H { s3 with heap:=h₁,toks:=s3.toks+([]:Jn (JV×Jr)).length }:=by
  refine#[ok',rfl,I.bare,Un.kept k1,#[_,hns₁,λi x v e1 e2 e3=>?_],λx cc z=>?_,fresh _ (show s.heap.objs.size<=h2.objs.size by rw[hCs]; exact MB _),λx cc z=>I.freeC x cc (ck.sub x cc z),λp hp=>absurd hp (by simp[lT]),(I.hok.kept k2).kept k1,by rw[Jp]; exact ck.len]
  ·rw[Jy]at e2;cases q:cap[i]? with
   | none=>rw[q]at e2; cases e2
   | some oj=>
    rw[q]at e2;cases oj with
    | none=>cases e2
    | some j=>
     obtain⟨z1,z2,z3⟩:=ck.cap i j x q e1;have e2':(Y[j]?).join=ba v:=by simpa using e2
     have e2'':Y[j]?=ba (ba v):=by
      cases r:Y[j]? with
      | none=>rw[r]at e2'; cases e2'
      | some y=>rw[r]at e2'; exact congrArg ba e2'
     obtain⟨u,ru,lk⟩:=hl0 j x v z1 e2'' (by
      rcases z2 with z|z
      ·exact .inr (.inl z)
      ·exact .inr (.inr z))
     refine#[u,ru,?_];rcases lk with⟨zk,_⟩|⟨_,cc,zc,zi⟩
     ·rcases z2 with z|z <;> (rw[zk]at z; cases z)
     ·obtain⟨c2,hc2⟩:=ck.has x z3;have:=ck.sub x c2 hc2;rw[zc]at this; cases this
      refine .inr #[z3,cc,hc2,?_];obtain⟨o,ho,hd⟩:=zi;exact#[o,k1 _ _ (k2 _ _ ho),hd]
  ·obtain⟨v,o,ho,hd⟩:=I.cell x cc (ck.sub x cc z);exact#[v,o,k1 _ _ (k2 _ _ ho),hd]
 have er0:EnvRel X.K A H (eZ cap Z) (cap.map λo=>match o with|some j=>(Y[j]?).join|none=>gV):=by
  refine#[by simp[eZ],λi w q=>?_]
  unfold eZ at q;rw[Jy]at q ⊢;cases r:cap[i]? with
  | none=>rw[r]at q; cases q
  | some oj=>
   rw[r]at q;cases oj with
   | none=>cases q
   | some j=>
    have q':(Z[j]?).join=ba w:=by simpa using q
    have q'':Z[j]?=ba (ba w):=by
     cases z:Z[j]? with
     | none=>rw[z]at q'; cases q'
     | some y=>rw[z]at q'; exact congrArg ba q'
    obtain⟨v,z1,z2⟩:=er.2 j w q'';exact#[v,by simp[z1],z2]
 have t1:tn 0 h₁:=T.keep 0 s.heap h₁ t0 λb hb o z=>k1 b o (k2 b o z)
 have fpOk':∀ {H':Hp} {pp:Jn (JA×Lo)},(∀b∈fp,H' b=gV)->(∀p∈pp,p.1=s.heap.objs.size)->∀b∈fp,hW (lT X scope cl h2.objs.size N s3 H (fp++[s.heap.objs.size])) pp H' b:=λhn hp b hb=>
  #[hn b hb,ltC (fpLt b hb),fpStk b hb,.inl (KW _ hb),λx cc z=>(hfp b hb).2.2.2.2.1 x cc (ck.sub x cc z),λp hpp=>by
   rw[hp p (by simpa [lT]using hpp)]
   exact(J0 (fpLt b hb)).symm]
 have DinEx:s.heap.objs.size∈fp++[s.heap.objs.size]:=Kg _ (by simp)
 have cellD:∀x c,cl.lookup x=ba c->c≠s.heap.objs.size:=λx cc z=>J0 (cellLt x cc (ck.sub x cc z))
 have fpD:∀b∈fp,b≠s.heap.objs.size:=λb hb=>J0 (fpLt b hb)
 have theEnd:∀s' Y' H' A' vs its nn,Inv (lT X scope cl h2.objs.size N s3 H (fp++[s.heap.objs.size])) [] Y' H' s'->s'.heap.get? s.heap.objs.size=ba { cls:=.type "list",data:=.seq its nn }->∀(hits:∃l:Jn Jr,its=l.toArray/\Vals vs l),H' s.heap.objs.size=gV->Ext X.K A H A' H'->StoreOk X.w X.K A' H' S'->RelL X.K A' H' ws vs->
   RR (.ref s.heap.objs.size) h2.objs.size (.ok .next) s':=by
  intro s' Y' H' A' vs its nn I' hD hits hDn ex so' rl;obtain⟨l,rfl,rv⟩:=hits;obtain⟨m,hn,_⟩:=id I'.loc;have un:Un (rD X.stack) (fp++[s.heap.objs.size]) H H' s.heap s'.heap:=(Un.kept k2).trans I'.base;have hch:∀b∈fp++[s.heap.objs.size],(b∈X.ex\/X.s₀.heap.objs.size<=b)/\b≠X.env.locals/\(∀x c,X.env.cells.lookup x=ba c->c≠b)/\∀p∈X.pn++J,p.1≠b:=λb hb=>by
   rcases Kd.mp hb with hb|hb
   ·exact#[(hfp b hb).2.2.2.1,(hfp b hb).2.1,(hfp b hb).2.2.2.2.1,(hfp b hb).2.2.2.2.2]
   ·have eb:b=s.heap.objs.size:=by simpa using hb
    subst eb;exact#[.inr I.sz,(J0 I.lt).symm,λx cc z=>J0 (cellLt x cc z),λp hp=>J0 (JN (I.pin p hp).1)]
  have I2:Inv X J Y H' s':=I.call' (show s'.os=s.os from I'.os) un I'.hok I'.bare hch
  have I3:Inv X J Y (br H' s.heap.objs.size (.lst vs)) s':=Inv.adopt I2 hDn (hch _ DinEx).1 (hch _ DinEx).2.1 (hch _ DinEx).2.2.1 (hch _ DinEx).2.2.2 #[by rw[<- rl.length]; exact hz,l,nn,rv,hD]
  have hCle:s.heap.objs.size<=h2.objs.size:=by rw[hCs]; exact MB _
  exact fin _ _ s' H' A' vs m hn hDn hDC (Lm (J4 I.lt hCle)) (I.nofs hCle) I'.free (JY I.sz hCle) (λx cc z=>J0 (J4 (cellLt x cc z) hCle))
   (λp hp=>J0 (J4 (JN (I.pin p hp).1) hCle)) I3 ex so' rl
 have loop:∀s4:Jt,s4={ s3 with heap:=h₁,toks:=s3.toks+([]:Jn (JV×Jr)).length }->
   codeAny (model X.prog X.w) X.A (.compLoop (.ListComp elt [#[tg,iter,ifs,0]] scope pos) 0 (.ref it) (.ref s.heap.objs.size) (compEnvC scope cl h2.objs.size X.env)) (RR (.ref s.heap.objs.size) h2.objs.size) s4:=by
  rintro s4 rfl;refine gP (λk s5=>∃i Y5 H5 A5 Z5 S5 done its nn vs ys,Inv (lT X scope cl h2.objs.size N s3 H (fp++[s.heap.objs.size])) [] Y5 H5 s5/\tn i s5.heap/\(∀b∈fp,H5 b=gV)/\s5.heap.get? s.heap.objs.size=ba { cls:=.type "list",data:=.seq (its:Jn Jr).toArray nn }/\H5 s.heap.objs.size=gV/\Vals vs its/\
   Ext X.K A H A5 H5/\EnvRel X.K A5 H5 Z5 Y5/\StoreOk X.w X.K A5 H5 S5/\RelL X.K A5 H5 done vs/\ws=done++ys/\bv mi g c f k i Z5 S5=ba (ys,S')) ?_ n
   #[0,_,H,A,_,S,[],[],0,[],ws,I0,t1,λb hb=>(hfp b hb).1,k1 _ _ hD2,fresh _ (JB _),.nil,.refl,er0,so,.nil,rfl,e]
  rintro k s5 ⟨i,Y5,H5,A5,Z5,S5,done,its,nn,vs,ys,I5,t5,f5,d5,n5,v5,e5,er5,so5,rl5,hw5,w5⟩;have pinD:Inv (lT X scope cl h2.objs.size N s3 H (fp++[s.heap.objs.size])) [(s.heap.objs.size,{ cls:=.type "list",data:=.seq its.toArray nn })] Y5 H5 s5:=I5.pins_of λp hp=>by
   have hp':p=(s.heap.objs.size,{ cls:=.type "list",data:=.seq its.toArray nn }):=by simpa using hp
   subst hp';exact#[d5,n5,hDC,λz=>K8 _ (stkLt _ z),λv z=>by cases z]
  have oneD:∀p∈[(s.heap.objs.size,({ cls:=.type "list",data:=.seq its.toArray nn }:Lo))],p.1=s.heap.objs.size:=λp hp=>by
   have hp':p=(s.heap.objs.size,{ cls:=.type "list",data:=.seq its.toArray nn }):=by simpa using hp
   rw[hp']
  cases k with
  | zero=>
   dsimp only[bv]at w5;split at w5
   ·rename_i hst;cases w5;rw[Le]at hw5;subst hw5;refine bq (T.done (lT X scope cl h2.objs.size N s3 H (fp++[s.heap.objs.size])) rfl rfl rfl hc i _ s5 Y5 H5 _ pinD (fpOk' f5 oneD) t5 (mit.stop A5 H5 _ i e5 so5 hst)) λr s6 #[hr,I6]=>?_
    subst hr;have p6:=I6.pin _ (Kg _ (JD.mpr rfl));exact theEnd s6 Y5 H5 A5 vs _ nn (I6.pins_of λp hp=>absurd hp (by simp)) p6.1 #[its,rfl,v5] n5 e5 so5 rl5
   ·cases w5
  | succ k=>
   dsimp only[bv]at w5;split at w5
   ·rename_i w hw;obtain⟨go,yl⟩:=mit.go A5 H5 S5 i w e5 so5 hw;refine bq (T.item (lT X scope cl h2.objs.size N s3 H (fp++[s.heap.objs.size])) rfl rfl rfl hc i _ s5 Y5 H5 _ pinD (fpOk' f5 oneD) t5 go) λr s6 #[u,hr,h6]=>?_
    subst hr;refine bq h6 λ_ s7 #[x,H7,I7,r7,y7,t7,f7]=>?_
    obtain⟨x1,x2,x3⟩:=yl x H7 y7;have I7':=I7.pinned (fpOk' f7 oneD) (T.obj _ _ t7);split at w5
    ·rename_i Z8 S8 h8;refine bq (bk.tgt _ _ _ _ _ s7 Y5 H7 x u (λY' H'=>∃A',Ext X.K A5 H5 A' H'/\StoreOk X.w X.K A' H' S8/\EnvRel X.K A' H' Z8 Y') I7' r7 #[A5,Z5,S5,w,Z8,S8,er5.mono x1,x2,x3,h8,λY' H' A' q1 q2 q3=>#[A',x1.trans q1,q2,q3]]) λ_ s8 #[Y8,H8,I8,A8,e58,so8,er8]=>?_
     have e8:Ext X.K A H A8 H8:=e5.trans e58;have pD:∀ {Y':L2.St} {H':Hp} {s':Jt},Inv (lT X scope cl h2.objs.size N s3 H (fp++[s.heap.objs.size])) ([(s.heap.objs.size,{ cls:=.type "list",data:=.seq its.toArray nn })]++ji fp s7.heap) Y' H' s'->s'.heap.get? s.heap.objs.size=ba { cls:=.type "list",data:=.seq its.toArray nn }/\H' s.heap.objs.size=gV:=λI'=>
      let q:=I'.pin _ (Kg _ (KW _ (JD.mpr rfl)))
      #[q.1,q.2.1]
     have pF:∀ {Y':L2.St} {H':Hp} {s':Jt},Inv (lT X scope cl h2.objs.size N s3 H (fp++[s.heap.objs.size])) ([(s.heap.objs.size,{ cls:=.type "list",data:=.seq its.toArray nn })]++ji fp s7.heap) Y' H' s'->(∀b∈fp,H' b=gV)/\∀b∈fp,∀o,s7.heap.get? b=ba o->s'.heap.get? b=ba o:=λI'=>
      #[λb hb=>by
       obtain⟨o,eo,_⟩:=T.obj _ _ t7 b hb;exact(I'.pin (b,o) (Kg _ (Kg _ (fG hb eo)))).2.1,
       λb hb o eo=>(I'.pin (b,o) (Kg _ (Kg _ (fG hb eo)))).1]
     split at w5
     ·rename_i S9 h9;refine bq (bk.tst _ _ _ _ _ s8 Y8 H8 (λb H'=>b=true/\∃A',Ext X.K A8 H8 A' H'/\StoreOk X.w X.K A' H' S9) I8 #[A8,Z8,S8,true,S9,er8,so8,h9,λb H' #[z0,A',z1,z2]=>#[z0,A',z1,z2]]) λb s9 #[H9,I9,z0,A9,e9,so9]=>?_
      subst z0;rw[JZ rfl];split at w5
      ·rename_i y S10 h10;split at w5
       ·rename_i ys' S4 h11;cases w5;refine bq (bk.elt _ _ _ _ _ s9 Y8 H9 (EndV X.w X.K A9 H9 S10 y) I9 #[A9,Z8,S9,y,S10,er8.mono e9,so9,h10,λ_ _ z=>z]) λu10 s10 #[v10,H10,I10,r10,A10,e10,so10,rl10]=>?_
        obtain⟨d10,n10⟩:=pD I10;obtain⟨f10,k10⟩:=pF I10;have hlen:its.length < sizeLine:=by
         have l1:=v5.length;have l2:=rl5.length;rw[hw5,JC,J9]at hz;omega
        refine ow d10 hlen λh' n' hd' hk'=>?_
        have Ib:Inv (lT X scope cl h2.objs.size N s3 H (fp++[s.heap.objs.size])) [] Y8 H10 { s10 with heap:=h' }:=by
         have Ia:Inv (lT X scope cl h2.objs.size N s3 H (fp++[s.heap.objs.size])) [] Y8 H10 s10:=I10.pins_of λp hp=>absurd hp (by simp)
         exact Ia.turned (t':=s10.toks) (it:=s.heap.objs.size) hk' n10 hDC (.inl DinEx) cellD (λp hp=>absurd hp (by simp[lT]))
        refine#[k,K9 k,i+1,Y8,H10,A10,Z8,S10,done++[y],its++[u10],n',vs++[v10],ys',Ib,?_,f10,hd',n10,v5.append #v[r10],(e8.trans e9).trans e10,(er8.mono e9).mono e10,so10,?_,?_,h11]
        ·exact T.keep (i+1) s7.heap h' t7 λb hb o eo=>hk' b o (fpD b hb) (k10 b hb o eo)
        ·exact(rl5.mono ((e58.trans e9).trans e10)).append #v[rl10]
        ·rw[hw5,LQ]; rfl
       ·cases w5
      ·cases w5
     ·rename_i S9 h9;refine bq (bk.tst _ _ _ _ _ s8 Y8 H8 (λb H'=>b=false/\∃A',Ext X.K A8 H8 A' H'/\StoreOk X.w X.K A' H' S9) I8 #[A8,Z8,S8,false,S9,er8,so8,h9,λb H' #[z0,A',z1,z2]=>#[z0,A',z1,z2]]) λb s9 #[H9,I9,z0,A9,e9,so9]=>?_
      subst z0;rw[Kb J1];obtain⟨d9,n9⟩:=pD I9;obtain⟨f9,k9⟩:=pF I9;refine#[k,K9 k,i+1,Y8,H9,A9,Z8,S9,done,its,nn,vs,ys,I9.pins_of λp hp=>absurd hp (by simp),T.keep (i+1) s7.heap _ t7 k9,f9,d9,n9,v5,e8.trans e9,er8.mono e9,so9,rl5.mono (e58.trans e9),hw5,w5]
     ·cases w5
    ·cases w5
   ·cases w5
 exact codeAny_compStart_list (loop _ rfl) (T.self X.A 0 _ _ _ t1 (loop _ rfl))
def qp {fi:FI}{g:FG}{c:FT}{f:FE}{cap:Jn (Jw Jx)}{Z:Fm}{S:aa}{w:W}{S':aa}(e:lb fi g c f cap Z S=ba (w,S')) :
  ∃mi S1 n ys S2,fi Z S=ba (mi,S1)/\mi.len S1=ba n/\bv mi g c f n 0 (eZ cap Z) S1=ba (ys,S2)/\ys.length<=sizeLine/\w=.ref S2.length/\S'=S2++[.lst ys]:=by
 unfold lb at e;split at e
 ·rename_i mi S1 h1;split at e
  ·rename_i n h2;split at e
   ·rename_i ys S2 h3;obtain⟨h4,h5,h6⟩:=j8 e;exact#[mi,S1,n,ys,S2,h1,h2,h3,h4,h5,h6]
   ·cases e
  ·cases e
 ·cases e
def BC {scope:M7}{N:Jn JV}{cap:Jn (Jw Jx)}{tg elt iter:J3}{ifs:Jn J3}{fi:FI}{g:FG}{c:FT}{f:FE}{pos:Mo}(hc:X.calm=true)(hi:GI X tg iter fi)(hck:X.Ok->∃cl,CompOk X scope cl N cap/\BlockOk X scope cl N tg elt ifs g c f)
  (hs:∀x,foldedSetIterable iter X.env x=pure x):GE X (.ListComp elt [#[tg,iter,ifs,0]] scope pos) (lb fi g c f cap):=by
 intro J s Y H Q I ⟨A,Z,S,w,S',er,so,e,hq⟩;obtain⟨mi,S1,n,ys,S2,h1,h2,h3,h4,rfl,rfl⟩:=qp e;obtain⟨cl,ck,bk⟩:=hck I.ok;rw[eval_ListComp];refine O4 (use:=gV) rfl hs ck.clos ck.kind ck.names (bq (hi J s Y H (λtd H'=>∃A',Ext X.K A H A' H'/\StoreOk X.w X.K A' H' S1/\MIt X.w X.K mi td A' H') I #[A,Z,S,mi,S1,er,so,h1,λtd H' A' z1 z2 z3=>#[A',z1,z2,z3]]) λv s1 q1=>bq q1 λitv s2 q2=>?_)
 obtain⟨it,fp,tn,td,H2,rfl,I2,T,t0,hfp,A2,e2,so2,mit⟩:=q2;refine mQ (RR:=λacc C=>compPost (model X.prog X.w) X.A X.xe gV (EP X J Y Q) acc C) I2 hc (er.mono e2) so2 ck bk T t0 hfp mit h3 h4 ?_
 intro D C s' H' A' vs m hn hDn hDC hCL hCf hCn hCs hCc hCp I3 ex so3 rl;refine#[m,hn,λh' hs'=>?_]
 have I4:Inv X J Y (br H' D (.lst vs)) { s' with heap:=h' }:=I3.turned (t':=s'.toks) (it:=C) (λb o hb eo=>hs'.extBut b o hb eo) (by rw[aC (Ne.symm hDC)]; exact hCn) hCL (.inr hCs) hCc hCp
 exact#[.ref D,_,I4,rfl,hq _ _ (EndV.after (e2.trans ex) (.lst so3 rl hDn))]
def sx {scope:M7}{N:Jn JV}{cap:Jn (Jw Jx)}{tg elt iter:J3}{ifs:Jn J3}{fi:FI}{g:FG}{c:FT}{f:FE}{pos py spos:Mo}{y:JV}{i:Jx}(hc:X.calm=true)(hi:GI X tg iter fi)(hck:X.Ok->∃cl,CompOk X scope cl N cap/\BlockOk X scope cl N tg elt ifs g c f)
  (hs:∀x,foldedSetIterable iter X.env x=pure x) (hsw:swapsWith (.ListComp elt [#[tg,iter,ifs,0]] scope pos) (ba (.Name y py)) spos.line X.env=pure true) (hN:X.N.Nodup) (hy:X.N[i]?=ba y) (hl:X.env.scope.names.lookup y=ba .local) :
  GS X (.Assign [.Name y py] (.ListComp elt [#[tg,iter,ifs,0]] scope pos) spos) (la (lb fi g c f cap) (Bp i)):=by
 intro J s Y H Dd I ⟨A,Z,S,o,S',er,so,e,hd⟩;unfold la at e;split at e
 ·rename_i w S0 h0;simp only[Bp]at e;cases e;obtain⟨mi,S1,n,ys,S2,h1,h2,h3,h4,rfl,rfl⟩:=qp h0;obtain⟨cl,ck,bk⟩:=hck I.ok;rw[exec_Assign_Name_used _ _ _ _ hsw];refine Jo (N4 (Jo ?_));show wpAny _ X.A (do let _ <- comprehension (.ListComp elt [⟨tg,iter,ifs,0⟩] scope pos) scope X.env _ (newList []) false (eval iter X.env) (ba (assign (.Name y py) X.env))) _ _ s
  refine Jo (LH (O4 (use:=ba (assign (.Name y py) X.env)) (Q:=λ_ s'=>SP X J Dd .next s') rfl hs ck.clos ck.kind ck.names
   (bq (hi J s Y H (λtd H'=>∃A',Ext X.K A H A' H'/\StoreOk X.w X.K A' H' S1/\MIt X.w X.K mi td A' H') I #[A,Z,S,mi,S1,er,so,h1,λtd H' A' z1 z2 z3=>#[A',z1,z2,z3]]) λv s1 q1=>bq q1 λitv s2 q2=>?_)) (λ_ s' hq=>Ju (Ju hq)) λ_ _ e=>e)
  obtain⟨it,fp,tn,td,H2,rfl,I2,T,t0,hfp,A2,e2,so2,mit⟩:=q2;refine mQ (RR:=λacc C=>compPost (model X.prog X.w) X.A X.xe (ba (assign (.Name y py) X.env)) (λ_ s'=>SP X J Dd .next s') acc C) I2 hc (er.mono e2) so2 ck bk T t0 hfp mit h3 h4 ?_
  intro D C s' H' A' vs m hn hDn hDC hCL hCf hCn hCs hCc hCp I3 ex so3 rl;obtain⟨oC,esC,epC,hoC,hdC,hrC⟩:=id hn;have I3':Inv X (J++[(C,oC)]) Y (br H' D (.lst vs)) s':=I3.pins_of λp hp=>by
   rcases Kd.mp hp with hp|hp
   ·exact I3.pin p (Kg _ hp)
   ·have hp':p=(C,oC):=by simpa using hp
    subst hp';exact#[hoC,by rw[aC (Ne.symm hDC)]; exact hCn,hCL,hCf,λv z=>by rw[hdC]at z; cases z]
  show wpAny _ X.A (assign (.Name y py) X.env (.ref D)) _ _ _;refine QG (iF I3' hN hy (.inl hl) (v:=.ref D) rfl (λs4 I4=>?_) (.inr hl))
  have pC:=I4.pin (C,oC) (Kg _ (Kg _ (JD.mpr rfl)));refine#[m,#[oC,esC,epC,pC.1,hdC,hrC],λh' hs'=>?_]
  have I5:Inv X J (Y.set i (ba (.ref D))) (br H' D (.lst vs)) s4:=I4.pins_of λp hp=>I4.pin p (Kg _ (KW _ hp))
  have I6:Inv X J (Y.set i (ba (.ref D))) (br H' D (.lst vs)) { s4 with heap:=h' }:=I5.turned (t':=s4.toks) (it:=C) (λb o hb eo=>hs'.extBut b o hb eo) (by rw[aC (Ne.symm hDC)]; exact hCn) hCL (.inr hCs) hCc hCp
  obtain⟨Af,f1,f2,f3⟩:=EndV.after (e2.trans ex) (EndV.lst so3 rl hDn);exact#[_,_,I6,hd.nx _ _ #[_,Af,rfl,f1,f2,(er.mono f1).set f3 i]]
 ·cases e
end
open PySem.Builtin.SmallTypes (nextOf)
structure Zap (z p q i j:JA):Prop where
 pz:p≠z
 qz:q≠z
 iz:i≠z
 jz:j≠z
 pq:p≠q
 pi:p≠i
 pj:p≠j
 qi:q≠i
 qj:q≠j
 ij:i≠j
section
variable{prog:Kh}{w:Km}
structure Zit (prog:Kh)(w:Km)(it:JA)(T:Jx->Kw->Prop)(C:Kw->Prop)(i:Jx)(Uz:Jw (Jr->Prop)):Prop where
 keep:∀j h h',T j h->(∀o,h.get? it=ba o->h'.get? it=ba o)->T j h'
 next:∀V,Uz=ba V->∀(B:Kk) (s:Jt) (Q:Jr->Jt->Prop) (E:Jr->Jt->Prop),T i s.heap->C s.heap->(∀u h' tk,V u->T (i+1) h'->LC it s.heap h'->Q u { s with heap:=h',toks:=tk })->wpAny (model prog w) B (nextOf (.ref it)) Q E s
 stop:Uz=gV->∀(B:Kk) (s:Jt) (Q:Jr->Jt->Prop) (E:Jr->Jt->Prop),B.handled=gV->T i s.heap->C s.heap->(∀h' e,PX it s.heap h'->(∃o,h'.get? e=ba o/\o.cls=.type "StopIteration")->E (.ref e) { s with heap:=h' })->wpAny (model prog w) B (nextOf (.ref it)) Q E s
variable{B:Kk}{E:Jr->Jt->Prop}{s:Jt}{z p q i1 i2:JA}{T1 T2:Jx->Kw->Prop}{C1 C2:Kw->Prop}{i:Jx}{a b:Jr}
abbrev Zc (z q i1 i2:JA)(C:Kw->Prop):Prop:=∀h h',C h->(∀c o,c≠z->c≠q->c≠i1->c≠i2->h.get? c=ba o->h'.get? c=ba o)->C h'
def lc {U1 Uq:Jw (Jr->Prop)}{Q:Jr->Jt->Prop}(D:Zap z p q i1 i2)(Zq:Zit prog w i1 T1 C1 i U1)(Z2':∀V1,U1=ba V1->Zit prog w i2 T2 C2 i Uq)(k1:Zc z q i1 i2 C1)(k2:Zc z q i1 i2 C2)(hh:B.handled=gV)
  (hz:Qk s.heap z p q .none) (hp:N2 s.heap p (.ref i1) (.ref i2)) (hq:N2 s.heap q a b) (t1:T1 i s.heap) (t2:T2 i s.heap) (c1:C1 s.heap) (c2:C2 s.heap)
  (hI:∀V1 V2,U1=ba V1->Uq=ba V2->∀u v h' tk,V1 u->V2 v->Qk h' z p q (rawInt s.heap.objs.size)->N2 h' q u v->T1 (i+1) h'->T2 (i+1) h'->N2 h' s.heap.objs.size u v->
   (∀c o,c≠z->c≠q->c≠i1->c≠i2->s.heap.get? c=ba o->h'.get? c=ba o)->Q (.ref s.heap.objs.size) { s with heap:=h',toks:=tk })
  (hE:U1=gV\/Uq=gV->∀h' tk e,(∀c o,c≠z->c≠q->c≠i1->c≠i2->s.heap.get? c=ba o->h'.get? c=ba o)->(∃o,h'.get? e=ba o/\o.cls=.type "StopIteration")->E (.ref e) { s with heap:=h',toks:=tk }) :
  wpAny (model prog w) B (MM.«zip.__next__» #[[.ref z],[]]) (λfin s'=>∃v,fin=.done (.ret v)/\Q v s') E s:=by
 show wpAny _ _ (field (.ref z) 2 >>= _) _ _ s;refine Jo (Lp hz rfl (x:=.bool false) rfl ?_);show wpAny _ _ (field (.ref z) 3 >>= _) _ _ s;refine Jo (Lp hz rfl (x:=.ref p) rfl (Jo (Lh hp rfl ?_)));show wpAny _ _ (LB (.ref z) >>= _) _ _ s;unfold LB;refine Jo (Jo (Lp hz rfl (x:=.none) rfl (Ju ?_)));simp only[Ls];refine Jo (Os (Jo (Lp hz rfl (x:=.ref q) rfl ?_)));refine Jo (Mq hz (by simp) λg1 zz1 s1=>?_)
 replace zz1:Qk g1 z p q .ellipsis:=zz1;refine Jo ?_;simp only[List.zipIdx_cons,List.zipIdx_nil,Od,P0];refine Jo (Jo (Sq ?_));show wpAny _ _ (nextOf (.ref i1) >>= _) _ _ _;have up1:∀c o,c≠z->s.heap.get? c=ba o->g1.get? c=ba o:=λc o hc e=>s1.extBut c o hc e
 have t1':T1 i g1:=Zq.keep _ _ _ t1 λo e=>up1 _ _ D.iz e
 have c1':C1 g1:=k1 _ _ c1 λc o hc _ _ _ e=>up1 c o hc e
 have fin:∀(g:Kw) (tk:Jx) (it e:JA),(it=i1\/it=i2)->U1=gV\/Uq=gV->Qk g z p q .ellipsis->(∀c o,c≠z->c≠q->c≠i1->c≠i2->s.heap.get? c=ba o->g.get? c=ba o)->(∃o,g.get? e=ba o/\o.cls=.type "StopIteration")->
   wpAny (model prog w) B (setField (.ref z) 0 .none) (λ_ s''=>E (.ref e) s'') E { s with heap:=g,toks:=tk }:=λg tk it e _ hu gz kg #[oe,he,hc]=>by
  have ne:e≠z:=λx=>by subst x; rw[gz]at he; cases he; simp at hc
  exact Mq gz (by simp) λg' _ sb=>hE hu g' tk e (λc o a1 a2 a3 a4 x=>sb.extBut _ _ a1 (kg c o a1 a2 a3 a4 x)) #[oe,sb.extBut _ _ ne he,hc]
 cases hu1:U1 with
 | none=>
  refine Jo (Zq.stop hu1 _ _ _ _ hh t1' c1' λg2 e eb he=>?_)
  exact fin g2 s.toks i1 e (.inl rfl) (.inl hu1) (eb _ _ D.iz.symm zz1) (λc o a1 _ a3 _ x=>eb _ _ a3 (up1 c o a1 x)) he
 | some V1=>
  have Zz:=Z2' V1 hu1;refine Jo (Zq.next V1 hu1 _ _ _ _ t1' c1' λu g2 tk2 hu t12 s2=>Ju ?_)
  have q2:N2 g2 q a b:=s2.extBut _ _ D.qi (up1 _ _ D.qz hq);refine Jo (Lh q2 rfl (Jo (P2 q2 λg3 q3 s3=>?_)))
  replace q3:N2 g3 q u b:=q3;refine Jo (Ng (Ju ?_));refine Jo (Jo (Sq ?_));show wpAny _ _ (nextOf (.ref i2) >>= _) _ _ _;have up3:∀c o,c≠z->c≠q->c≠i1->s.heap.get? c=ba o->g3.get? c=ba o:=λc o a1 a2 a3 x=>s3.extBut _ _ a2 (s2.extBut _ _ a3 (up1 c o a1 x))
  have zz3:Qk g3 z p q .ellipsis:=s3.extBut _ _ D.qz.symm (s2.extBut _ _ D.iz.symm zz1);have t2':T2 i g3:=Zz.keep _ _ _ t2 λo e=>up3 _ _ D.jz D.qj.symm D.ij.symm e
  have c2':C2 g3:=k2 _ _ c2 λc o a1 a2 a3 _ e=>up3 c o a1 a2 a3 e
  cases hu2:Uq with
  | none=>
   refine Jo (Zz.stop hu2 _ _ _ _ hh t2' c2' λg4 e eb he=>?_)
   exact fin g4 tk2 i2 e (.inr rfl) (.inr hu2) (eb _ _ D.jz.symm zz3) (λc o a1 a2 a3 a4 x=>eb _ _ a4 (up3 c o a1 a2 a3 x)) he
  | some V2=>
   refine Jo (Zz.next V2 hu2 _ _ _ _ t2' c2' λv g4 tk4 hv t24 s4=>Ju ?_)
   have q4:N2 g4 q u b:=s4.extBut _ _ D.qj q3;refine Jo (Lh q4 rfl (Jo (P2 q4 λg5 q5 s5=>?_)))
   replace q5:N2 g5 q u v:=q5;refine Jo (Ng (Ju (Ju ?_)));refine Jo (Lh q5 rfl (Jo (OB ?_)));have sz:g5.objs.size=s.heap.objs.size:=by rw[s5.1,s4.1,s3.1,s2.1,s1.1]
   have zz5:Qk g5 z p q .ellipsis:=s5.extBut _ _ D.qz.symm (s4.extBut _ _ D.jz.symm zz3);have t15:T1 (i+1) g5:=Zq.keep _ _ _ t12 λo e=>s5.extBut _ _ D.qi.symm (s4.extBut _ _ D.ij (s3.extBut _ _ D.qi.symm e))
   have t25:T2 (i+1) g5:=Zz.keep _ _ _ t24 λo e=>s5.extBut _ _ D.qj.symm e
   have zlt:z < g5.objs.size:=JN zz5;show wpAny _ _ (Mf (.ref z) (.ref g5.objs.size) >>= _) _ _ _;refine Jo ?_;unfold Mf;have zz6:Qk (g5.push { cls:=.type "tuple",data:=.seq [u,v].toArray }) z p q .ellipsis:=Jq _ zz5;refine Jo (Mq zz6 (by simp) λg7 zz7 s7=>?_)
   replace zz7:Qk g7 z p q (rawInt g5.objs.size):=zz7;refine Mq zz7 (by simp) λg8 zz8 s8=>?_
   replace zz8:Qk g8 z p q (rawInt g5.objs.size):=zz8;have up8:∀c o,c≠z->g5.get? c=ba o->g8.get? c=ba o:=λc o hc e=>s8.extBut _ _ hc (s7.extBut _ _ hc (Jq _ e))
   have n8:N2 g8 g5.objs.size u v:=s8.extBut _ _ (Lm zlt) (s7.extBut _ _ (Lm zlt) (JJ _ rfl));rw[sz]at zz8 n8;refine Ju #[_,rfl,?_];show Q (.ref g5.objs.size) _;rw[sz];exact hI V1 V2 hu1 hu2 u v g8 tk4 hu hv zz8 (up8 _ _ D.qz q5) (Zq.keep _ _ _ t15 λo e=>up8 _ _ D.iz e) (Zz.keep _ _ _ t25 λo e=>up8 _ _ D.jz e) n8 λc o a1 a2 a3 a4 e=>up8 c o a1 (s5.extBut _ _ a2 (s4.extBut _ _ a4 (up3 c o a1 a2 a3 e)))
end
end Mi
namespace Mi
open PySem PySem.Spec PyProof.Rows L2
open PySem.Builtin.SmallTypes (nextOf)
abbrev eP (prog:Kh)(w:Km)(v:Jr)(o:Lo)(C:Kw->Prop):Prop:=∀(B:Kk) (s:Jt) (Q:Jr->Jt->Prop) (E:Jr->Jt->Prop),C s.heap->Q (.ref s.heap.objs.size) { s with heap:=s.heap.push o }->wpAny (model prog w) B (pyIter v) Q E s
abbrev FX (h:Kw)(o1 o2:Lo):Kw:=(h.push o1).push o2
abbrev FY (h:Kw)(o1 o2:Lo):Kw:=(FX h o1 o2).push { cls:=.type "tuple",data:=.seq [.ref h.objs.size,.ref (h.push o1).objs.size].toArray }
abbrev FZ (h:Kw)(o1 o2:Lo):Kw:=(FY h o1 o2).push { cls:=.type "tuple",data:=.seq [.none,.none].toArray }
abbrev Cu (h:Kw)(o1 o2:Lo):Kw:=(FZ h o1 o2).push { cls:=.type "zip",data:=.fields [.none,.bool false,.bool false,.ref (FX h o1 o2).objs.size,.ref (FY h o1 o2).objs.size].toArray }
section
variable{prog:Kh}{w:Km}{B:Kk}{E:Jr->Jt->Prop}{s:Jt}{v1 v2:Jr}{o1 o2:Lo}{C1 C2:Kw->Prop}
def sy (h1:eP prog w v1 o1 C1)(h2:eP prog w v2 o2 C2)(k2:∀h o,C2 h->C2 (h.push o)) :
  MeetsIn prog w (MM.«zip.__new__» #[[.type "zip",v1,v2],[]]) (λ_ R s=>C1 s.heap/\C2 s.heap/\R (.ok (.ret (.ref (FZ s.heap o1 o2).objs.size))) { s with heap:=Cu s.heap o1 o2 }):=
 .of_wp λA R s h=>by
  obtain⟨hp,g,d,tk,os⟩:=s;obtain⟨c1,c2,h⟩:=h;have hsub:=sub_zip;have d1:∀(B:Kk) (Q:Jr->Jt->Prop) (E:Jr->Jt->Prop),Q (.ref hp.objs.size) #[hp.push o1,g,d,tk,os]->wpAny (model prog w) B (pyIter v1) Q E #[hp,g,d,tk,os]:=λB Q E q=>h1 B #[hp,g,d,tk,os] Q E c1 q
  have d2:∀(B:Kk) (Q:Jr->Jt->Prop) (E:Jr->Jt->Prop),Q (.ref (hp.push o1).objs.size) #[(hp.push o1).push o2,g,d,tk,os]->wpAny (model prog w) B (pyIter v2) Q E #[hp.push o1,g,d,tk,os]:=λB Q E q=>h2 B #[hp.push o1,g,d,tk,os] Q E (k2 _ _ c2) q
  wp_walk using d1 _ _ _,d2 _ _ _
  exact#[_,rfl,h]
def yv {Q:Jr->Jt->Prop}(h1:eP prog w v1 o1 C1)(h2:eP prog w v2 o2 C2)(k2:∀h o,C2 h->C2 (h.push o))(c1:C1 s.heap)(c2:C2 s.heap)(n1:o1.isFreed=false)(n2:o2.isFreed=false)
  (h:∀h',Qk h' (s.heap.objs.size+4) (s.heap.objs.size+2) (s.heap.objs.size+3) .none->N2 h' (s.heap.objs.size+2) (.ref s.heap.objs.size) (.ref (s.heap.objs.size+1))->N2 h' (s.heap.objs.size+3) .none .none->
   h'.get? s.heap.objs.size=ba o1->h'.get? (s.heap.objs.size+1)=ba o2->h'.objs.size=s.heap.objs.size+5->(∀c o,s.heap.get? c=ba o->h'.get? c=ba o)->Q (.ref (s.heap.objs.size+4)) { s with heap:=h' }) :
  wpAny (model prog w) B (call (.type "zip") [v1,v2]) Q E s:=by
 refine R3 F.called_zip #v[] (F.typeCall_zip_2 _ _) (F.newCall_zip_2 _ _) (λobj=>F.args_object_init_3 obj _ _) F.entry_zip_new (sy h1 h2 k2) #[c1,c2,?_]
 have e1:(s.heap.push o1).objs.size=s.heap.objs.size+1:=Lq ..;have e2:(FX s.heap o1 o2).objs.size=s.heap.objs.size+2:=by unfold FX; rw[Lq,e1]
 have e3:(FY s.heap o1 o2).objs.size=s.heap.objs.size+3:=by unfold FY; rw[Lq,e2]
 have e4:(FZ s.heap o1 o2).objs.size=s.heap.objs.size+4:=by unfold FZ; rw[Lq,e3]
 have e5:(Cu s.heap o1 o2).objs.size=s.heap.objs.size+5:=by unfold Cu; rw[Lq,e4]
 have g5:(Cu s.heap o1 o2).get? (FZ s.heap o1 o2).objs.size=ba _:=JJ _ rfl;have g4:(Cu s.heap o1 o2).get? (FY s.heap o1 o2).objs.size=ba _:=Jq _ (JJ _ rfl);have g3:(Cu s.heap o1 o2).get? (FX s.heap o1 o2).objs.size=ba _:=Jq _ (Jq _ (JJ _ rfl));have g2:(Cu s.heap o1 o2).get? (s.heap.push o1).objs.size=ba o2:=Jq _ (Jq _ (Jq _ (JJ _ n2)));have g1:(Cu s.heap o1 o2).get? s.heap.objs.size=ba o1:=Jq _ (Jq _ (Jq _ (Jq _ (JJ _ n1))));rw[e2,e3,e4]at g5;rw[e1,e2]at g3;rw[e3]at g4;rw[e1]at g2;show _/\_;rw[e4];exact#[#[_,g5,rfl],h _ g5 g3 g4 g1 g2 e5 λc o x=>Jq _ (Jq _ (Jq _ (Jq _ (Jq _ x))))]
end
end Mi
namespace Mi
open PySem PySem.Spec PyProof.Rows L2
open PySem.Builtin.SmallTypes (nextOf)
section
variable{prog:Kh}{w:Km}{A:Kk}{E:Jr->Jt->Prop}{s:Jt}
def F0 {it t:JA}{i:Jx}{items:J8 Jr}{x:Jr}{Q:Jr->Jt->Prop}(hit:s.heap.IsTupleIter it t i)(ht:s.heap.IsTuple t items)(hx:items[i]?=ba x)
  (hQ:∀h',h'.IsTupleIter it t (i+1)->LC it s.heap h'->Q x { s with heap:=h' }):wpAny (model prog w) A (nextOf (.ref it)) Q E s:=by
 obtain⟨o,ho,hc,hd⟩:=id hit;obtain⟨ot,hot,_,nt,hdt⟩:=ht;unfold OQ;refine Jo (KI (name:=LD "__next__") hit.typeIs F.slot_tuple_iterator_next (KL F.slot_tuple_iterator_next hit.typeIs F.entry_tuple_iterator_next ?_ (F.args_tuple_iterator_next_1 _)));show wpAny _ _ (field (.ref it) 0 >>= _) _ _ s;refine Jo (Lp ho hd (x:=.ref t) rfl ?_);show wpAny _ _ (if (Kj t==KA)=true then _ else _) _ _ s
 rw[Kb (show ¬ ((Kj t==KA)=true)from J1)]
 show wpAny _ _ (field (.ref it) 1 >>= _) _ _ s;refine Jo (Lp ho hd (x:=.int i 0) rfl (Jo (Lh hot hdt ?_)));simp only[JO,hx];refine Jo (OF ho hd (by simp) (Ju #[x,rfl,Ju (hQ _ #[_,Lk _ ho (PL (NH hd _)),(QX ..).trans hc,?_] (MN ..))]))
 rw[NH hd]; simp[rawInt]
def F1 {it t:JA}{i:Jx}{items:J8 Jr}{Q:Jr->Jt->Prop}(hh:A.handled=gV)(hit:s.heap.IsTupleIter it t i)(ht:s.heap.IsTuple t items)(hx:items[i]?=gV)
  (hE:∀h' e,PX it s.heap h'->(∃o,h'.get? e=ba o/\o.cls=.type "StopIteration")->E (.ref e) { s with heap:=h' }):wpAny (model prog w) A (nextOf (.ref it)) Q E s:=by
 obtain⟨o,ho,hc,hd⟩:=id hit;obtain⟨ot,hot,_,nt,hdt⟩:=ht;unfold OQ;refine Jo (KI (name:=LD "__next__") hit.typeIs F.slot_tuple_iterator_next (KL F.slot_tuple_iterator_next hit.typeIs F.entry_tuple_iterator_next ?_ (F.args_tuple_iterator_next_1 _)));show wpAny _ _ (field (.ref it) 0 >>= _) _ _ s;refine Jo (Lp ho hd (x:=.ref t) rfl ?_);show wpAny _ _ (if (Kj t==KA)=true then _ else _) _ _ s
 rw[Kb (show ¬ ((Kj t==KA)=true)from J1)]
 show wpAny _ _ (field (.ref it) 1 >>= _) _ _ s;refine Jo (Lp ho hd (x:=.int i 0) rfl (Jo (Lh hot hdt ?_)));simp only[JO,hx];refine Jo (Os (Jo (OF ho hd (by simp) ?_)))
 show wpAny _ _ (newExc (.type "StopIteration") [] >>= _) _ _ _;refine Jo ?_;simp only[newExc,newTuple];refine Jo (Kr ?_ (by size_fits))
 refine Jo (m:=firstArgMember _ _) (NJ (a:=KA) (by first|rfl|(simp only[firstArgMember]; rfl)) (Kr ?_ (by size_fits)))
 simp only[raiseNew];refine Jo (Qj ?_)
 first|rw[show A.in1.handled=gV from hh]|rw[hh]
 exact Jo (Ju (Rw (hE _ _ (((MN ..).extBut.push _).push _) #[_,JJ _ rfl,rfl])))
end
inductive Zs where|tup (a:JA)|lst (a:JA)|txt (x:JV)
abbrev Zs.T (it:JA):Zs->Jx->Kw->Prop
 | .tup a,i,h=>h.IsTupleIter it a i
 | .lst a,i,h=>h.IsListIter it a i
 | .txt x,i,h=>∃t,h.IsStrIter it "str_ascii_iterator" x t i\/h.IsStrIter it "str_iterator" x t i
abbrev Zs.at (K:JH)(H:Hp)(i:Jx)(v:V):Zs->Prop
 | .tup a=>∃xs,SqT K H a xs/\xs[i]?=ba v
 | .lst a=>∃xs,SqL K H a xs/\xs[i]?=ba v
 | .txt x=>∃c,x.cps[i]?=ba c/\v=.str #[[c].toArray]
abbrev Zs.out (K:JH)(H:Hp)(i:Jx):Zs->Prop
 | .tup a=>∃xs,SqT K H a xs/\xs.length<=i
 | .lst a=>∃xs,SqL K H a xs/\xs.length<=i
 | .txt x=>x.cps.size<=i
def Zs.keep {S:Zs}{it:JA}{j:Jx}{h h':Kw}(t:S.T it j h)(k:∀o,h.get? it=ba o->h'.get? it=ba o):S.T it j h':=by
 cases S with
 | tup a=>exact t.at k
 | lst a=>exact t.at k
 | txt x=>
  obtain⟨tk,t⟩:=t;exact#[tk,t.imp (λ#[o,e,r]=>#[o,k _ e,r]) λ#[o,e,r]=>#[o,k _ e,r]]
section
variable{X:Cx}{J:Jn (JA×Lo)}{Y:L2.St}{H:Hp}{s:Jt}
def yw (I:Inv X J Y H s){a b:JA}{o:Lo}(h:X.K.lookup a=ba o)(f:hW X J H b):a≠b:=λz=>by
 subst z;have hb:=I.ok.mod.kin a o h;rcases f.2.2.2.1 with q|q
 ·exact I.ok.noex a o hb q
 ·exact absurd (J4 (JN (I.ok.bs a o hb).1) q) (K8 _)
end
end Mi
namespace Mi
open PySem PySem.Spec PyProof.Rows L2
open PySem.Builtin.SmallTypes (nextOf)
section
variable{X:Cx}{J:Jn (JA×Lo)}{Y:L2.St}{H:Hp}{s:Jt}{h':Kw}
def yy {a b:JA}{u:HO}(h:Rd H a u)(f:H b=gV):a≠b:=λz=>by
 subst z;rcases h with h|⟨o,h⟩ <;> (rw[f]at h; cases h)
def Inv.turnedL {t':Jx}{ch:Jn JA}(I:Inv X J Y H s)(k:∀b o,b∉ch->s.heap.get? b=ba o->h'.get? b=ba o)(hf:∀b∈ch,hW X J H b):Inv X J Y H { s with heap:=h',toks:=t' }:=by
 have nit:∀b u,H b=ba u->b∉ch:=λb u e z=>by have:=(hf b z).1; rw[e]at this; cases this
 refine I.step (g':=s.gens) (d':=s.drawn) (ch:=ch) (λb hb=>?_) (λb o _ _ hc e _=>k b o hc e) (λb o _ _ hc e _=>#[o.slots,k b o hc e]) (λ_ _ _ _ n=>n) (λb o hc e=>#[o,k b o hc e]) (λ_ _ e=>e) (λ_ _ _ e=>e) (λb ps e=>#[#[],by rw[e]; simp]) (λm hm=>?_) (λb u e=>?_) I.bare
 ·obtain⟨_,f1,_,f3,f4,f5⟩:=hf b hb;exact#[f3,f1,f4,f5]
 ·obtain⟨o,es,ep,ho,r⟩:=hm;exact#[o,es,ep,k _ o (λz=>(hf _ z).2.1 rfl) ho,r]
 ·refine(I.hok b u e).stay (λc v hc q=>k c v ?_ q) (λ_ q=>q) λ_ _ q=>q
  rcases hc with z|z
  ·rw[z]; exact nit b u e
  ·exact nit c _ z
def Zs.zit {S:Zs}{it z q i1 i2:JA}{i:Jx}{Uz:Jw V}(I:Inv X J Y H s)(hf:∀b∈[z,q,i1,i2],hW X J H b)(g:match Uz with|some v=>S.at X.K H i v|none=>S.out X.K H i) :
  ∃C,Zit X.prog X.w it (S.T it) C i (Uz.map λv u=>RelV v u)/\C s.heap/\Zc z q i1 i2 C:=by
 have zc:∀(a:JA) (P:Kw->Prop),(∀h h',P h->(∀o,h.get? a=ba o->h'.get? a=ba o)->P h')->(∀b∈[z,q,i1,i2],a≠b)->Zc z q i1 i2 P:=λa P hP hn h h' p k=>
  hP h h' p λo e=>k a o (hn z (by simp)) (hn q (by simp)) (hn i1 (by simp)) (hn i2 (by simp)) e
 have sep:∀ {a:JA} {u:HO} {o:Lo} {b:JA},(Rd H a u\/X.K.lookup a=ba o)->b∈[z,q,i1,i2]->a≠b:=λh hb=>h.elim (λr=>yy r (hf _ hb).1) λr=>yw I r (hf _ hb)
 cases S with
 | tup a=>
  obtain⟨xs,hq,hx⟩ : ∃xs,SqT X.K H a xs/\(match Uz with|some v=>xs[i]?=ba v|none=>xs.length<=i):=by
   cases Uz <;> exact g
  obtain⟨its,rv,p,_⟩:=I.tuple hq;have hne:∀b∈[z,q,i1,i2],a≠b:=λb hb=>by
   rcases hq with r|⟨o,_,_,r,_⟩
   ·exact yy r (hf b hb).1
   ·exact yw I r (hf b hb)
  refine#[λh=>h.IsTuple a its.toArray,#[λj h h' t k=>Zs.keep (S:=.tup a) t k,λV hV B s2 Q E t c hQ=>?_,λhU B s2 Q E hh t c hE=>?_],p,zc a _ (λh h' #[o,e,r] k=>#[o,k _ e,r]) hne]
  ·cases Uz with
   | none=>cases hV
   | some v=>
    cases hV;obtain⟨u,hu,ru⟩:=rv.get hx;exact F0 t c (x:=u) (by simpa using hu) λh' t' sb=>hQ u h' s2.toks ru t' sb
  ·cases Uz with
   | some v=>cases hU
   | none=>
    have:=L2.Vals.length rv;have hx':xs.length<=i:=hx;exact F1 hh t c (by simp; omega) hE
 | lst a=>
  obtain⟨xs,hq,hx⟩ : ∃xs,SqL X.K H a xs/\(match Uz with|some v=>xs[i]?=ba v|none=>xs.length<=i):=by
   cases Uz <;> exact g
  obtain⟨its,rv,p,_⟩:=I.list hq;have hne:∀b∈[z,q,i1,i2],a≠b:=λb hb=>by
   rcases hq with r|⟨o,_,_,r,_⟩
   ·exact yy r (hf b hb).1
   ·exact yw I r (hf b hb)
  refine#[λh=>h.IsList a its.toArray,#[λj h h' t k=>Zs.keep (S:=.lst a) t k,λV hV B s2 Q E t c hQ=>?_,λhU B s2 Q E hh t c hE=>?_],p.isList,zc a _ (λh h' #[o,e,r] k=>#[o,k _ e,r]) hne]
  ·cases Uz with
   | none=>cases hV
   | some v=>
    cases hV;obtain⟨u,hu,ru⟩:=rv.get hx;exact wpAny_nextOf_list_item t c (x:=u) (by simpa using hu) λh' t' sb=>hQ u h' s2.toks ru t' sb
  ·cases Uz with
   | some v=>cases hU
   | none=>
    have:=L2.Vals.length rv;have hx':xs.length<=i:=hx;exact wpAny_nextOf_list_end hh t c (by simp; omega) hE
 | txt x=>
  refine#[λ_=>Qo,#[λj h h' t k=>Zs.keep (S:=.txt x) t k,λV hV B s2 Q E t _ hQ=>?_,λhU B s2 Q E hh t _ hE=>?_],trivial,λ_ _ _ _=>trivial]
  ·cases Uz with
   | none=>cases hV
   | some v=>
    cases hV;obtain⟨c,hc,rfl⟩ : ∃c,x.cps[i]?=ba c/\v=.str #[[c].toArray]:=g;obtain⟨tk,t|t⟩:=t
    ·exact wpAny_nextOf_ascii_item t hc λh' t' sb=>hQ _ h' _ #[_,rfl] #[tk,.inl t'] sb
    ·exact wpAny_nextOf_wide_item t hc λh' t' sb=>hQ _ h' _ #[_,rfl] #[tk,.inr t'] sb
  ·cases Uz with
   | some v=>cases hU
   | none=>
    have hx:x.cps[i]?=gV:=by simpa using(show x.cps.size<=i from g)
    obtain⟨tk,t|t⟩:=t
    ·exact wpAny_nextOf_ascii_end hh t hx hE
    ·exact wpAny_nextOf_wide_end hh t hx hE
end
abbrev Zs.is (K:JH)(H:Hp)(i:Jx)(v:V):Zs->Prop
 | .tup a=>∀xs,SqT K H a xs->xs[i]?=ba v
 | .lst a=>∀xs,SqL K H a xs->xs[i]?=ba v
 | .txt x=>∃c,x.cps[i]?=ba c/\v=.str #[[c].toArray]
def Zs.at_is {S:Zs}{X:Cx}{J:Jn (JA×Lo)}{Y:L2.St}{H:Hp}{s:Jt}{i:Jx}{v:V}(I:Inv X J Y H s)(h:S.at X.K H i v):S.is X.K H i v:=by
 cases S with
 | tup a=>obtain⟨xs,hq,hx⟩:=h; exact λys hy=>by rw[I.tuple_inj hy hq]; exact hx
 | lst a=>obtain⟨xs,hq,hx⟩:=h; exact λys hy=>by rw[I.list_inj hy hq]; exact hx
 | txt x=>exact h
abbrev Hd (K:JH)(S1 S2:Zs):It:=
 #[λi H=>∃x y,S1.at K H i x/\S2.at K H i y,λi H v H'=>∃p x y,S1.is K H i x/\S2.is K H i y/\v=.ref p/\H p=gV/\H'=br H p (.tup [x,y]),λi H=>S1.out K H i\/(∃x,S1.at K H i x)/\S2.out K H i]
def yz {P:Kh}{w:Km}{K:JH}{els:Jn J3}{k0:Jx}{tp:Mo}{S1 S2:Zs}{z p q i1 i2:JA}(D:Zap z p q i1 i2) :
  Turn P w K (.Tuple els k0 tp) (Hd K S1 S2) [z,p,q,i1,i2] z (λi h=>Qk h z p q .none/\N2 h p (.ref i1) (.ref i2)/\(∃a b,N2 h q a b)/\S1.T i1 i h/\S2.T i2 i h) where
 mem:=by simp
 obj:=λi h #[a,b,#[u,v,c],d,e] b' hb=>by
  have it:∀ {S:Zs} {it:JA},S.T it i h->∃o,h.get? it=ba o/\∀v,o.data≠.cell v:=λ{S it} t=>by
   cases S with
   | tup a=>obtain⟨o,e,_,d⟩:=t; exact#[o,e,λv z=>by rw[d]at z; cases z]
   | lst a=>obtain⟨o,e,_,d⟩:=t; exact#[o,e,λv z=>by rw[d]at z; cases z]
   | txt x=>obtain⟨tk,⟨o,e,_,d⟩|⟨o,e,_,d⟩⟩:=t <;> exact#[o,e,λv z=>by rw[d]at z; cases z]
  simp only[JX,Ko,LA]at hb;rcases hb with rfl|rfl|rfl|rfl|rfl
  ·exact#[_,a,λv z=>by cases z]
  ·exact#[_,b,λv z=>by cases z]
  ·exact#[_,c,λv z=>by cases z]
  ·exact it d
  ·exact it e
 keep:=λi h h' #[a,b,#[u,v,c],d,e] k=>#[k z (by simp) _ a,k p (by simp) _ b,#[u,v,k q (by simp) _ c],Zs.keep d (k i1 (by simp)),Zs.keep e (k i2 (by simp))]
 item:=by
  intro X hP hw hK hc i J s Y H E I hf st hg;subst hP hw hK;obtain⟨x,y,g1,g2⟩:=hg;obtain⟨a,b,⟨u,v,c⟩,d,e⟩:=st;have hf4:∀b∈[z,q,i1,i2],hW X J H b:=λb hb=>hf b (by simp only[JX,Ko,LA]at hb ⊢; rcases hb with h|h|h|h <;> simp[h])
  obtain⟨C1,Zq,c1,k1⟩:=Zs.zit (it:=i1) (Uz:=ba x) I hf4 g1;obtain⟨C2,Zz,c2,k2⟩:=Zs.zit (it:=i2) (Uz:=ba y) I hf4 g2;have hT:s.TypeIs (.ref z) "zip":=#[_,a,rfl];unfold pyNext;refine Jo (M5 (KI (name:=LD "__next__") hT F.slot_zip_next (KL F.slot_zip_next hT F.entry_zip_next ?_ (F.args_zip_next_1 _))));refine lc D Zq (λ_ _=>Zz) k1 k2 (I.ok.hd hc) a b c d e c1 c2 (λV1 V2 e1 e2 u1 u2 g tk r1 r2 zg qg t1 t2 ng kp=>?_) (λz=>by rcases z with z|z <;> cases z)
  cases e1;cases e2;refine Ju #[_,rfl,?_];refine wpAny_letOwnedTupleGo_zip (s:={ s with heap:=g,toks:=tk }) zg λg' zg' sb=>?_
  have N0:H s.heap.objs.size=gV:=I.hok.fresh (JB _);have lt:∀ {b:JA},b∈[z,p,q,i1,i2]->s.heap.objs.size≠b:=λ{b} hb=>by
   have:∃o,s.heap.get? b=ba o:=by
    have it:∀ {S:Zs} {it:JA},S.T it i s.heap->∃o,s.heap.get? it=ba o:=λ{S it} t=>by
     cases S with
     | tup a=>obtain⟨o,e,_⟩:=t; exact#[o,e]
     | lst a=>obtain⟨o,e,_⟩:=t; exact#[o,e]
     | txt x=>obtain⟨tk,⟨o,e,_⟩|⟨o,e,_⟩⟩:=t <;> exact#[o,e]
    simp only[JX,Ko,LA]at hb;rcases hb with rfl|rfl|rfl|rfl|rfl
    ·exact#[_,a]
    ·exact#[_,b]
    ·exact#[_,c]
    ·exact it d
    ·exact it e
   obtain⟨o,e⟩:=this;exact Lm (JN e)
  have up:∀b o,b∉[z,q,i1,i2]->s.heap.get? b=ba o->g'.get? b=ba o:=λb o hb e=>by
   simp only[JX,Ko,LA,Rk]at hb;exact sb.extBut _ _ hb.1 (kp b o hb.1 hb.2.1 hb.2.2.1 hb.2.2.2 e)
  have I1:Inv X J Y H { s with heap:=g',toks:=tk }:=Mi.Inv.turnedL I up hf4
  have ng':N2 g' s.heap.objs.size u1 u2:=sb.extBut _ _ (lt (by simp)) ng
  have I2:Inv X J Y (br H s.heap.objs.size (.tup [x,y])) { s with heap:=g',toks:=tk }:=by
   refine Mi.Inv.adopt I1 N0 (.inr I.sz) (Lm I.lt) (λw c e=>?_) (λp hp=>?_) #[by show 2<=sizeLine; decide,[u1,u2],.cons r1 #v[r2],#[_,ng',rfl,0,rfl]]
   ·obtain⟨v,q⟩:=I.cell w c e;exact J0 q.lt
   ·exact J0 (JN (I.pin p hp).1)
  refine#[.ref s.heap.objs.size,_,I2,rfl,#[s.heap.objs.size,x,y,Zs.at_is I g1,Zs.at_is I g2,rfl,N0,rfl],#[zg',up p _ ?_ b,#[u1,u2,sb.extBut _ _ D.qz qg],Zs.keep t1 λo e=>sb.extBut _ _ D.iz e,Zs.keep t2 λo e=>sb.extBut _ _ D.jz e],λb hb=>?_]
  ·simp only[JX,Ko,LA,Rk];exact#[D.pz,D.pq,D.pi,D.pj]
  ·rw[aC (Ne.symm (lt hb))];exact(hf b hb).1
 done:=by
  intro X hP hw hK hc i J s Y H E I hf st hg;subst hP hw hK;obtain⟨a,b,⟨u,v,c⟩,d,e⟩:=st;have hf4:∀b∈[z,q,i1,i2],hW X J H b:=λb hb=>hf b (by simp only[JX,Ko,LA]at hb ⊢; rcases hb with h|h|h|h <;> simp[h])
  have hT:s.TypeIs (.ref z) "zip":=#[_,a,rfl];unfold pyNext;refine Jo (M5 (KI (name:=LD "__next__") hT F.slot_zip_next (KL F.slot_zip_next hT F.entry_zip_next ?_ (F.args_zip_next_1 _))));have ends:∀h' tk e,(∀c o,c≠z->c≠q->c≠i1->c≠i2->s.heap.get? c=ba o->h'.get? c=ba o)->(∃o,h'.get? e=ba o/\o.cls=.type "StopIteration")->
    wpAny (model X.prog X.w) X.A (do if <- isInstance (.ref e) (.type "StopIteration")then pure (gV:Jw Jr)else throw (.ref e)) (λr s1=>r=gV/\Inv X J Y H s1) E { s with heap:=h',toks:=tk }:=λh' tk e k #[o,ho,hc]=>
   Jo (MR (T:="StopIteration") (b:=true) #[o,ho,hc] Oz (Ju #[rfl,Mi.Inv.turnedL I (λb o hb e=>by
    simp only[JX,Ko,LA,Rk]at hb;exact k b o hb.1 hb.2.1 hb.2.2.1 hb.2.2.2 e) hf4]))
  rcases hg with g1|⟨⟨x,g1⟩,g2⟩
  ·obtain⟨C1,Zq,c1,k1⟩:=Zs.zit (it:=i1) (Uz:=gV) I hf4 g1;exact lc (Uq:=gV) D Zq (λV1 e1=>by cases e1) k1 (C2:=λ_=>Qo) (λ_ _ _ _=>trivial) (I.ok.hd hc) a b c d e c1 trivial (λV1 V2 e1 _=>by cases e1) λ_ h' tk e k he=>ends h' tk e k he
  ·obtain⟨C1,Zq,c1,k1⟩:=Zs.zit (it:=i1) (Uz:=ba x) I hf4 g1;obtain⟨C2,Zz,c2,k2⟩:=Zs.zit (it:=i2) (Uz:=gV) I hf4 g2;exact lc D Zq (λ_ _=>Zz) k1 k2 (I.ok.hd hc) a b c d e c1 c2 (λV1 V2 _ e2=>by cases e2) λ_ h' tk e k he=>ends h' tk e k he
 self:=λ_ _ _ _ _ st h=>Rn st.1 h
end Mi
namespace Mi
open PySem PySem.Spec PyProof.Rows L2
abbrev EU:W->Jw (Jn W)
 | .tup xs=>ba xs
 | .str x=>ba (x.cps.toList.map λc=>.str #[[c].toArray])
 | _=>gV
abbrev BE (f:FA):FI:=λZ S=>match f Z S with
 | some ([x,y],S1)=>match EU x,EU y with
  | some xs,ba ys=>ba (.its (lX xs ys),S1)
  | _,_=>match x,y with
   | .ref r,.ref q=>match fT S1 r,fT S1 q with
    | some _,ba _=>ba (.zl r q,S1)
    | _,_=>gV
   | _,_=>gV
 | _=>gV
section
variable{X:Cx}{J:Jn (JA×Lo)}{Y:L2.St}{H:Hp}{s:Jt}{A:Jn JA}
abbrev ZRel (K:JH)(A:Jn JA)(H:Hp)(xs:Jn W):Zs->Prop
 | .tup a=>∃vs,SqT K H a vs/\RelL K A H xs vs
 | .lst a=>K5
 | .txt x=>xs=x.cps.toList.map λc=>.str #[[c].toArray]
def ZRel.mono {K:JH}{A A':Jn JA}{H H':Hp}{xs:Jn W}{S:Zs}(e:Ext K A H A' H')(h:ZRel K A H xs S):ZRel K A' H' xs S:=by
 cases S with
 | tup a=>obtain⟨vs,h1,h2⟩:=h; exact#[vs,e.tp _ _ h1,h2.mono e]
 | lst a=>exact h
 | txt x=>exact h
def ZRel.at {K:JH}{xs:Jn W}{S:Zs}{i:Jx}{w:W}(h:ZRel K A H xs S)(hi:xs[i]?=ba w):∃v,S.at K H i v/\Rel K A H w v:=by
 cases S with
 | tup a=>obtain⟨vs,h1,h2⟩:=h; obtain⟨v,h3,h4⟩:=h2.get hi; exact#[v,#[vs,h1,h3],h4]
 | lst a=>exact h.elim
 | txt x=>
  have h:xs=x.cps.toList.map λc=>.str #[[c].toArray]:=h
  subst h;rw[Jy,Js]at hi;obtain⟨c,hc,rfl⟩:=hi;exact#[.str #[[c].toArray],#[c,by rw[<- K2]; exact hc,rfl],.str]
def ZRel.is {K:JH}{xs:Jn W}{S:Zs}{i:Jx}{w:W}{v:V}(h:ZRel K A H xs S)(hi:xs[i]?=ba w)(z:S.is K H i v):Rel K A H w v:=by
 obtain⟨v',h1,h2⟩:=h.at hi;cases S with
 | tup a=>
  obtain⟨vs,q,e⟩:=h1;have:=z vs q;rw[e]at this; cases this
  exact h2
 | lst a=>exact h.elim
 | txt x=>
  obtain⟨c,e,rfl⟩:=h1;obtain⟨c',e',rfl⟩:=z;rw[e]at e'; cases e'
  exact h2
def ZRel.out {K:JH}{xs:Jn W}{S:Zs}{i:Jx}(h:ZRel K A H xs S)(hi:xs.length<=i):S.out K H i:=by
 cases S with
 | tup a=>obtain⟨vs,h1,h2⟩:=h; exact#[vs,h1,by rw[<- h2.length]; exact hi]
 | lst a=>exact h.elim
 | txt x=>
  have h:xs=x.cps.toList.map λc=>.str #[[c].toArray]:=h
  subst h;show x.cps.size<=i
  simpa using hi
def qr {xs ys:Jn W}{i:Jx}{w:W}(h:(lX xs ys)[i]?=ba w):∃x y,xs[i]?=ba x/\ys[i]?=ba y/\w=.tup [x,y]:=by
 unfold lX at h;rw[PM]at h;split at h
 ·rename_i x y e1 e2;cases h;exact#[x,y,e1,e2,rfl]
 ·cases h
def BF {S1 S2:Zs}{xs ys:Jn W}(z1:ZRel X.K A H xs S1)(z2:ZRel X.K A H ys S2):MIt X.w X.K (.its (lX xs ys)) (Hd X.K S1 S2) A H:=by
 refine#[λA' H' S i w e so hi=>?_,λA' H' S i e so hi=>?_]
 ·simp only[MI.at,Kf]at hi;obtain⟨x,y,e1,e2,rfl⟩:=qr hi;obtain⟨v,g1,r1⟩:=(z1.mono e).at e1;obtain⟨u,g2,r2⟩:=(z2.mono e).at e2;refine#[#[v,u,g1,g2],λp H2 #[a,v',u',q1,q2,hp,hn,hH]=>?_]
  subst hp hH;have ex:Ext X.K A' H' A' (br H' a (.tup [v',u'])):=cj (.inl hn);exact#[ex,so.lay hn,.tup (.of aI) #v[((z1.mono e).is e1 q1).mono ex,((z2.mono e).is e2 q2).mono ex]]
 ·simp only[MI.at,Kf,KH,lX,Mg]at hi
  by_cases h1:xs.length<=i
  ·exact .inl ((z1.mono e).out h1)
  ·have hx:i < xs.length:=∅
   obtain⟨v,g1,_⟩:=(z1.mono e).at (Jz hx);exact .inr #[#[v,g1],(z2.mono e).out ∅]
def yA {r q:Jx}{a b:JA}(ea:A[r]?=ba a)(eb:A[q]?=ba b):MIt X.w X.K (.zl r q) (Hd X.K (.lst a) (.lst b)) A H:=by
 refine#[λA' H' S i w e so hi=>?_,λA' H' S i e so hi=>?_]
 ·simp only[MI.at]at hi;split at hi
  ·rename_i xs ys hx hy;simp only[Kf]at hi;obtain⟨x,y,e1,e2,rfl⟩:=qr hi;obtain⟨vs,h1,r1⟩:=aZ so hx (e.ad _ _ ea);obtain⟨us,h2,r2⟩:=aZ so hy (e.ad _ _ eb);obtain⟨v,g1,q1⟩:=r1.get e1;obtain⟨u,g2,q2⟩:=r2.get e2;refine#[#[v,u,#[vs,h1,g1],#[us,h2,g2]],λp H2 #[c,v',u',z1,z2,hp,hn,hH]=>?_]
   subst hp hH;have t1:=z1 vs h1;rw[g1]at t1; cases t1
   have t2:=z2 us h2;rw[g2]at t2; cases t2
   have ex:Ext X.K A' H' A' (br H' c (.tup [v,u])):=cj (.inl hn);exact#[ex,so.lay hn,.tup (.of aI) #v[q1.mono ex,q2.mono ex]]
  ·cases hi
 ·simp only[MI.at]at hi;split at hi
  ·rename_i xs ys hx hy;simp only[Kf,KH,lX,Mg]at hi;obtain⟨vs,h1,r1⟩:=aZ so hx (e.ad _ _ ea);obtain⟨us,h2,r2⟩:=aZ so hy (e.ad _ _ eb)
   by_cases hl:xs.length<=i
   ·exact .inl #[vs,h1,by rw[<- r1.length]; exact hl]
   ·have hx':i < xs.length:=∅
    obtain⟨v,g1,_⟩:=r1.get (Jz hx');exact .inr #[#[v,vs,h1,g1],us,h2,by rw[<- r2.length]; omega]
  ·cases hi
def ox {x:W}{v:V}{u:Jr}{xs:Jn W}(I:Inv X J Y H s)(r:Rel X.K A H x v)(ru:RelV v u)(e:EU x=ba xs) :
  ∃(S:Zs) (o:Lo) (C:Kw->Prop),ZRel X.K A H xs S/\eP X.prog X.w u o C/\C s.heap/\(∀h o,C h->C (h.push o))/\o.isFreed=false/\∀it h,h.get? it=ba o->S.T it 0 h:=by
 cases r with
 | @tup ws a vs hq rl=>
  cases e;obtain⟨its,rv,p,_⟩:=I.tuple hq;obtain rfl:u=Kj a:=ru;exact#[.tup a,{ cls:=.type "tuple_iterator",data:=.fields [.ref a,.int 0 0].toArray },λh=>h.IsTuple a its.toArray,#[vs,hq,rl],λB s Q E c hQ=>QA c hQ,p,λh o #[ot,e,r]=>#[ot,Jq _ e,r],rfl,λit h e=>#[_,e,rfl,rfl]]
 | @str x=>
  cases e;obtain⟨t,rfl⟩:=ru;cases ha:x.cps.all (· < 128)with
  | false=>exact#[.txt x,{ cls:=.type "str_iterator",data:=.fields [.str x t,.int 0 0].toArray },λ_=>Qo,rfl,λB s Q E _ hQ=>wpAny_pyIter_wide ha hQ,trivial,λ_ _ _=>trivial,rfl,λit h e=>#[t,.inr #[_,e,rfl,rfl]]]
  | true=>exact#[.txt x,{ cls:=.type "str_ascii_iterator",data:=.fields [.str x t,.int 0 0].toArray },λ_=>Qo,rfl,λB s Q E _ hQ=>wpAny_pyIter_ascii ha hQ,trivial,λ_ _ _=>trivial,rfl,λit h e=>#[t,.inl #[_,e,rfl,rfl]]]
 | _=>cases e
def yB:bootBuiltins "zip" = ba (.type "zip"):=rfl
def ug {a:JA}{xs:Jn V}{u:Jr}(I:Inv X J Y H s)(ru:RelV (.ref a) u)(hq:SqL X.K H a xs) :
  ∃(o:Lo) (C:Kw->Prop),eP X.prog X.w u o C/\C s.heap/\(∀h o,C h->C (h.push o))/\o.isFreed=false/\∀it h,h.get? it=ba o->(Zs.lst a).T it 0 h:=by
 obtain⟨its,rv,p,_⟩:=I.list hq;obtain rfl:u=Kj a:=ru;exact#[{ cls:=.type "list_iterator",data:=.fields [.ref a,.int 0 0].toArray },λh=>h.IsList a its.toArray,λB s Q E c hQ=>MC c hQ,p.isList,λh o #[ot,e,r]=>#[ot,Jq _ e,r],rfl,λit h e=>#[_,e,rfl,rfl]]
def D3 {els:Jn J3}{k0:Jx}{tp:Mo}{a b:J3}{f:FA}{p pos:Mo}(hg:Gl X "zip")(hm:X.mg "zip" = gV)(ha:GA X [a,b] f)(hs:starEach [a,b] X.env=[(false,eval a X.env),(false,eval b X.env)])(hs2:starEach [b] X.env=[(false,eval b X.env)]) :
  GI X (.Tuple els k0 tp) (.Call (.Name "zip" p) [a,b] [] pos) (BE f):=by
 intro J s Y H R I ⟨A,Z,S,mi,S',er,so,e,hq⟩;have fin:∀ {s1:Jt} {H1:Hp} {u v:Jr} {Sa Sb:Zs} {oa ob:Lo} {Ca Cb:Kw->Prop},Inv X J Y H1 s1->eP X.prog X.w u oa Ca->Ca s1.heap->oa.isFreed=false->(∀it h,h.get? it=ba oa->Sa.T it 0 h)->eP X.prog X.w v ob Cb->Cb s1.heap->(∀h o,Cb h->Cb (h.push o))->ob.isFreed=false->(∀it h,h.get? it=ba ob->Sb.T it 0 h)->R (Hd X.K Sa Sb) H1->
   wpAny (model X.prog X.w) X.A (call (.type "zip") [u,v]) (λv s=>wpAny (model X.prog X.w) X.A (pyIter v) (Fc X J Y (.Tuple els k0 tp) R) X.xe s) X.xe s1:=λ{s1 H1 u v Sa Sb oa ob Ca Cb} I1 ia ca na ta ib cb kb nb tb hR=>by
  refine yv ia ib kb ca cb na nb λh' hz hp hq' g1 g2 hsz kp=>?_
  have I2:Inv X J Y H1 { s1 with heap:=h' }:=I1.kept (t':=s1.toks) kp
  refine Rn (s:={ s1 with heap:=h' }) hz ?_
  have D:Zap (s1.heap.objs.size+4) (s1.heap.objs.size+2) (s1.heap.objs.size+3) s1.heap.objs.size (s1.heap.objs.size+1):=by constructor <;> (intro z; simp at z)
  refine#[s1.heap.objs.size+4,_,_,_,H1,rfl,I2,yz (S1:=Sa) (S2:=Sb) D,#[hz,hp,#[_,_,hq'],ta _ _ g1,tb _ _ g2],λb hb=>?_,hR]
  have hb':s1.heap.objs.size<=b:=by
   simp only[JX,Ko,LA]at hb;rcases hb with rfl|rfl|rfl|rfl|rfl
   ·exact Mm _ _
   ·exact Mm _ _
   ·exact Mm _ _
   ·exact JB _
   ·exact Mm _ _
  exact I1.fpOk hb' (I1.hok.fresh hb')
 unfold BE at e;split at e
 ·rename_i x y S1 h1;refine T0 (hG I hg hm yB (LN (bq (ha pos J s Y H _ I #[A,Z,S,_,_,er,so,h1,λ_ _ z=>z]) λus s1 #[vs,H1,I1,r1,A1,z1,z2,z3]=>?_) (by rw[hs,hs2]) (by rw[hs2]; rfl)))
  cases z3 with
  | cons ra t=>
   cases t with
   | cons rb t=>
    cases t;cases r1 with
    | cons ua t=>
     cases t with
     | cons ub t=>
      cases t;split at e
      ·rename_i xs ys e1 e2;cases e;obtain⟨Sa,oa,Ca,za,ia,ca,ka,na,ta⟩:=ox I1 ra ua e1;obtain⟨Sb,ob,Cb,zb,ib,cb,kb,nb,tb⟩:=ox I1 rb ub e2;exact fin I1 ia ca na ta ib cb kb nb tb (hq _ _ A1 z1 z2 (BF za zb))
      ·split at e
       ·rename_i r q;split at e
        ·rename_i xs ys hx hy;cases e;cases ra with
         | @ref _ a ea=>
          cases rb with
          | @ref _ b eb=>
           obtain⟨va,q1,_⟩:=aZ z2 hx ea;obtain⟨vb,q2,_⟩:=aZ z2 hy eb;obtain⟨oa,Ca,ia,ca,ka,na,ta⟩:=ug I1 ua q1;obtain⟨ob,Cb,ib,cb,kb,nb,tb⟩:=ug I1 ub q2;exact fin I1 ia ca na ta ib cb kb nb tb (hq _ _ A1 z1 z2 (yA ea eb))
        ·cases e
       ·cases e
 ·cases e
end
open PySem.Builtin.SmallTypes (nextOf)
section
variable{prog:Kh}{w:Km}{B:Kk}{E:Jr->Jt->Prop}{s:Jt}{e it:JA}{T:Jx->Kw->Prop}{C:Kw->Prop}{i:Jx}{old:Jr}
structure EnAt (h0 h:Kw)(e it:JA)(fs:J8 Jr)(T:Kw->Prop):Prop where
 here:h.get? e=ba { cls:=.type "enumerate",dict:=gV,data:=.fields fs,slots:=#[] }
 turn:T h
 kept:∀b o,b≠e->b≠it->h0.get? b=ba o->h.get? b=ba o
def EnAt.put {h0:Kw}{fs:J8 Jr}{T:Kw->Prop}{k:Jx}{v:Jr}{Q:TZ->Jt->Prop}(x:EnAt h0 s.heap e it fs T)(hne:e≠it)(kT:∀h h',T h->(∀o,h.get? it=ba o->h'.get? it=ba o)->T h')(hk:k < fs.size)
  (q:∀h',EnAt h0 h' e it (fs.setIfInBounds k v) T->LC e s.heap h'->Q () { s with heap:=h' }):wpAny (model prog w) B (setField (.ref e) k v) Q E s:=
 Mq x.here hk λh' y sb=>q h' #[y,kT _ _ x.turn λo z=>sb.extBut _ _ (Ne.symm hne) z,λb o h1 h2 z=>sb.extBut b o h1 (x.kept b o h1 h2 z)] sb
def mR {Uz:Jw (Jr->Prop)}{Q:Jr->Jt->Prop}(Zx:Zit prog w it T C i Uz)(hh:B.handled=gV)(he:Tv s.heap e it (i:JI) old)(t:T i s.heap)(c:C s.heap)(hne:e≠it)
  (hI:∀V,Uz=ba V->∀u h' tk tk0,V u->IsEnumOut h' e it ((i:JI)+1) u s.heap.objs.size->T (i+1) h'->h'.get? s.heap.objs.size=ba { cls:=.type "tuple",data:=.seq [.int i tk0,u].toArray }->
   (∀b o,b≠e->b≠it->s.heap.get? b=ba o->h'.get? b=ba o)->Q (.ref s.heap.objs.size) { s with heap:=h',toks:=tk })
  (hE:Uz=gV->∀h' x,PX it s.heap h'->(∃o,h'.get? x=ba o/\o.cls=.type "StopIteration")->E (.ref x) { s with heap:=h' }) :
  wpAny (model prog w) B (MM.«enumerate.__next__» #[[.ref e],[]]) (λfin s'=>∃v,fin=.done (.ret v)/\Q v s') E s:=by
 obtain⟨hp,g,d,tk,os⟩:=s;show wpAny _ _ (field (.ref e) 2 >>= _) _ _ _;refine Jo (Lp he rfl (x:=.ref it) rfl (Jo ?_));cases Uz with
 | none=>exact Zx.stop rfl _ _ _ _ hh t c λh' x a b=>hE rfl h' x a b
 | some V=>
  refine Zx.next V rfl _ _ _ _ t c λu ha tka hu ta sba=>?_
  have kT:=Zx.keep (i+1);have xa:EnAt hp ha e it [.none,.bool false,.ref it,rawInt i,.none,old].toArray (T (i+1)):=#[(sba.2 e hne).trans he,ta,λb o _ h2 z=>sba.extBut b o h2 z]
  have za:ha.objs.size=hp.objs.size:=sba.1;clear sba ta;show wpAny _ _ (field (.ref e) 3 >>= _) _ _ #[ha,g,d,tka,os];refine Jo (Lp xa.here rfl (x:=rawInt i) rfl ?_);show wpAny _ _ (field (.ref e) 4 >>= _) _ _ #[ha,g,d,tka,os];refine Jo (Lp xa.here rfl (x:=.none) rfl ?_);show wpAny _ _ (mkInt i >>= _) _ _ #[ha,g,d,tka,os];refine Jo (Ry (Jo (xa.put (s:=#[ha,g,d,tka+1,os]) hne kT (by simp) λhb xb sb1=>Jo (xb.put (s:=#[hb,g,d,tka+1,os]) hne kT (by simp) λhc xc sb2=>Jo (OB ?_)))))
  have zc:hc.objs.size=hp.objs.size:=by rw[sb2.1,<- za]; exact sb1.1
  have hel:hp.objs.size≠e:=Lm (JN he);have new:=JJ hc (o:={ cls:=.type "tuple",data:=.seq [.int i tka,u].toArray }) rfl;have xd:EnAt hp (hc.push { cls:=.type "tuple",data:=.seq [.int i tka,u].toArray }) e it [.none,.bool false,.ref it,rawInt ((i:JI)+1),.none,old].toArray (T (i+1)):=#[Jq _ xc.here,kT _ _ xc.turn λo z=>Jq _ z,λb o h1 h2 z=>Jq _ (xc.kept b o h1 h2 z)]
  rw[zc]at new;show wpAny _ _ (LB (.ref e) >>= _) _ _ #[hc.push _,g,d,tka+1,os];rw[zc];generalize hc.push { cls:=.type "tuple",data:=.seq [.int i tka,u].toArray }=hd at new xd ⊢;clear zc sb2 xc sb1 xb hb xa za;refine Jo ?_;unfold LB;refine Jo (Lp xd.here rfl (x:=.none) rfl (Ju ?_));simp only[Ls];refine Jo (Os (Jo (Lp xd.here rfl (x:=old) rfl (Jo (xd.put (s:=#[hd,g,d,tka+1,os]) hne kT (by simp) λh1 x1 s1=>Jo ?_)))))
  unfold Mf;refine Jo (x1.put (s:=#[h1,g,d,tka+1,os]) hne kT (by simp) λh2 x2 s2=>x2.put (s:=#[h2,g,d,tka+1,os]) hne kT (by simp) λh3 x3 s3=>Jo (Ng (Ju #[_,rfl,hI V rfl u h3 (tka+1) tka hu x3.here x3.turn ?_ x3.kept])))
  exact s3.extBut _ _ hel (s2.extBut _ _ hel (s1.extBut _ _ hel new))
variable{v:Jr}{o:Lo}
def qt (h1:eP prog w v o C) :
  MeetsIn prog w (MM.«enumerate.__new__» #[[.type "enumerate",v],[]]) (λ_ R s=>C s.heap/\R (.ok (.ret (.ref (s.heap.push o).objs.size))) { s with heap:=(s.heap.push o).push { cls:=.type "enumerate",data:=.fields [.none,.bool false,.ref s.heap.objs.size,rawInt 0,.none,.none].toArray } }):=
 .of_wp λA R s h=>by
  obtain⟨hp,g,d,tk,os⟩:=s;obtain⟨c,h⟩:=h;have hsub:=sub_enumerate;have d1:∀(B:Kk) (Q:Jr->Jt->Prop) (E:Jr->Jt->Prop),Q (.ref hp.objs.size) #[hp.push o,g,d,tk,os]->wpAny (model prog w) B (pyIter v) Q E #[hp,g,d,tk,os]:=λB Q E q=>h1 B #[hp,g,d,tk,os] Q E c q
  wp_walk
  refine wpAny_stack_any λst=>Ju ?_
  split
  ·rename_i c _ _ _ _ _;cases(c==Lw "enumerate")
   ·wp_walk using d1 _ _ _
    exact#[_,rfl,h]
   ·wp_walk using d1 _ _ _
    exact#[_,rfl,h]
  ·wp_walk using d1 _ _ _
   exact#[_,rfl,h]
def vS {Q:Jr->Jt->Prop}(h1:eP prog w v o C)(c:C s.heap)(n1:o.isFreed=false)
  (h:∀h',Tv h' (s.heap.objs.size+1) s.heap.objs.size 0 .none->h'.get? s.heap.objs.size=ba o->(∀b o,s.heap.get? b=ba o->h'.get? b=ba o)->Q (.ref (s.heap.objs.size+1)) { s with heap:=h' }) :
  wpAny (model prog w) B (call (.type "enumerate") [v]) Q E s:=by
 refine R3 F.called_enumerate #v[] (F.typeCall_enumerate_1 _) (F.newCall_enumerate_1 _) (λobj=>F.args_object_init_2 obj _) F.entry_enumerate_new (qt h1) #[c,?_]
 have hz:(s.heap.push o).objs.size=s.heap.objs.size+1:=Lq ..;show _/\_;rw[hz];have he:Tv ((s.heap.push o).push { cls:=.type "enumerate",data:=.fields [.none,.bool false,.ref s.heap.objs.size,rawInt 0,.none,.none].toArray }) (s.heap.objs.size+1) s.heap.objs.size 0 .none:=by
  have:=JJ (s.heap.push o) (o:={ cls:=.type "enumerate",data:=.fields [.none,.bool false,.ref s.heap.objs.size,rawInt 0,.none,.none].toArray }) rfl;rw[hz]at this; exact this
 exact#[#[_,he,rfl],h _ he (Jq _ (JJ _ n1)) λb o x=>Jq _ (Jq _ x)]
end
abbrev IT (K:JH)(S1:Zs):It:=
 #[λi H=>∃x,S1.at K H i x,λi H v H'=>∃p x,S1.is K H i x/\v=.ref p/\H p=gV/\H'=br H p (.tup [.int i,x]),λi H=>S1.out K H i]
def vT {P:Kh}{w:Km}{K:JH}{els:Jn J3}{k0:Jx}{tp:Mo}{S1:Zs}{z i1:JA}(D:z≠i1) :
  Turn P w K (.Tuple els k0 tp) (IT K S1) [z,i1] z (λi h=>(∃old,Tv h z i1 i old)/\S1.T i1 i h) where
 mem:=by simp
 obj:=λi h #[#[old,a],d] b' hb=>by
  have it:∀ {S:Zs} {it:JA},S.T it i h->∃o,h.get? it=ba o/\∀v,o.data≠.cell v:=λ{S it} t=>by
   cases S with
   | tup a=>obtain⟨o,e,_,d⟩:=t; exact#[o,e,λv z=>by rw[d]at z; cases z]
   | lst a=>obtain⟨o,e,_,d⟩:=t; exact#[o,e,λv z=>by rw[d]at z; cases z]
   | txt x=>obtain⟨tk,⟨o,e,_,d⟩|⟨o,e,_,d⟩⟩:=t <;> exact#[o,e,λv z=>by rw[d]at z; cases z]
  simp only[JX,Ko,LA]at hb;rcases hb with rfl|rfl
  ·exact#[_,a,λv z=>by cases z]
  ·exact it d
 keep:=λi h h' #[#[old,a],d] k=>#[#[old,k z (by simp) _ a],Zs.keep d (k i1 (by simp))]
 item:=by
  intro X hP hw hK hc i J s Y H E I hf st hg;subst hP hw hK;obtain⟨x,g1⟩:=hg;obtain⟨⟨old,a⟩,d⟩:=st;have hf4:∀b∈[z,z,i1,i1],hW X J H b:=λb hb=>hf b (by simp only[JX,Ko,LA]at hb ⊢; rcases hb with h|h|h|h <;> simp[h])
  obtain⟨C1,Zq,c1,k1⟩:=Zs.zit (it:=i1) (Uz:=ba x) I hf4 g1;have hT:s.TypeIs (.ref z) "enumerate":=#[_,a,rfl];unfold pyNext;refine Jo (M5 (KI (name:=LD "__next__") hT F.slot_enumerate_next (KL F.slot_enumerate_next hT F.entry_enumerate_next ?_ (F.args_enumerate_next_1 _))));refine mR Zq (I.ok.hd hc) a d c1 D (λV e1 u g tk tk0 r1 zg t1 ng kp=>?_) (λz=>by cases z)
  cases e1;refine Ju #[_,rfl,?_];refine wpAny_letOwnedTupleGo_enum (s:={ s with heap:=g,toks:=tk }) zg λg' zg' sb=>?_
  have N0:H s.heap.objs.size=gV:=I.hok.fresh (JB _);have lt:∀ {b:JA},b∈[z,i1]->s.heap.objs.size≠b:=λ{b} hb=>by
   have:∃o,s.heap.get? b=ba o:=by
    have it:∀ {S:Zs} {it:JA},S.T it i s.heap->∃o,s.heap.get? it=ba o:=λ{S it} t=>by
     cases S with
     | tup a=>obtain⟨o,e,_⟩:=t; exact#[o,e]
     | lst a=>obtain⟨o,e,_⟩:=t; exact#[o,e]
     | txt x=>obtain⟨tk,⟨o,e,_⟩|⟨o,e,_⟩⟩:=t <;> exact#[o,e]
    simp only[JX,Ko,LA]at hb;rcases hb with rfl|rfl
    ·exact#[_,a]
    ·exact it d
   obtain⟨o,e⟩:=this;exact Lm (JN e)
  have up:∀b o,b∉[z,i1]->s.heap.get? b=ba o->g'.get? b=ba o:=λb o hb e=>by
   simp only[JX,Ko,LA,Rk]at hb;exact sb.extBut _ _ hb.1 (kp b o hb.1 hb.2 e)
  have I1:Inv X J Y H { s with heap:=g',toks:=tk }:=Mi.Inv.turnedL I up hf
  have ng':g'.get? s.heap.objs.size=ba { cls:=.type "tuple",data:=.seq [.int i tk0,u].toArray }:=sb.extBut _ _ (lt (by simp)) ng
  have I2:Inv X J Y (br H s.heap.objs.size (.tup [.int i,x])) { s with heap:=g',toks:=tk }:=by
   refine Mi.Inv.adopt I1 N0 (.inr I.sz) (Lm I.lt) (λw c e=>?_) (λp hp=>?_) #[by show 2<=sizeLine; decide,[.int i tk0,u],.cons #[_,rfl] #v[r1],#[_,ng',rfl,0,rfl]]
   ·obtain⟨v,q⟩:=I.cell w c e;exact J0 q.lt
   ·exact J0 (JN (I.pin p hp).1)
  refine#[.ref s.heap.objs.size,_,I2,rfl,#[s.heap.objs.size,x,Zs.at_is I g1,rfl,N0,rfl],#[#[_,zg'],Zs.keep t1 λo e=>sb.extBut _ _ (Ne.symm D) e],λb hb=>?_]
  rw[aC (Ne.symm (lt hb))];exact(hf b hb).1
 done:=by
  intro X hP hw hK hc i J s Y H E I hf st hg;subst hP hw hK;obtain⟨⟨old,a⟩,d⟩:=st;have hf4:∀b∈[z,z,i1,i1],hW X J H b:=λb hb=>hf b (by simp only[JX,Ko,LA]at hb ⊢; rcases hb with h|h|h|h <;> simp[h])
  obtain⟨C1,Zq,c1,k1⟩:=Zs.zit (it:=i1) (Uz:=gV) I hf4 hg;have hT:s.TypeIs (.ref z) "enumerate":=#[_,a,rfl];unfold pyNext;refine Jo (M5 (KI (name:=LD "__next__") hT F.slot_enumerate_next (KL F.slot_enumerate_next hT F.entry_enumerate_next ?_ (F.args_enumerate_next_1 _))));refine mR Zq (I.ok.hd hc) a d c1 D (λV e1=>by cases e1) λ_ h' e k #[o,ho,hc]=>?_
  exact Jo (MR (T:="StopIteration") (b:=true) #[o,ho,hc] Oz (Ju #[rfl,Mi.Inv.turnedL (t':=s.toks) I (λb o hb e=>by
    simp only[JX,Ko,LA,Rk]at hb;exact k b o hb.2 e) hf]))
 self:=λ_ _ _ _ _ st h=>by obtain⟨⟨old,a⟩,_⟩:=st; exact Q7 a h
abbrev oy (xs:Jn W):Jn W:=xs.zipIdx.map λp=>.tup [.int (p.2:Jx),p.1]
def qu {xs:Jn W}{i:Jx}{w:W}(h:(oy xs)[i]?=ba w):∃x,xs[i]?=ba x/\w=.tup [.int i,x]:=by
 unfold oy at h;rw[Jy,List.getElem?_zipIdx,RZ,Js]at h;obtain⟨x,h1,rfl⟩:=h;exact#[x,h1,by simp]
abbrev BG (f:FA):FI:=λZ S=>match f Z S with
 | some ([x],S1)=>match EU x with
  | some xs=>ba (.its (oy xs),S1)
  | none=>gV
 | _=>gV
section
variable{X:Cx}{J:Jn (JA×Lo)}{Y:L2.St}{H:Hp}{s:Jt}{A:Jn JA}
def yC {S1:Zs}{xs:Jn W}(z1:ZRel X.K A H xs S1):MIt X.w X.K (.its (oy xs)) (IT X.K S1) A H:=by
 refine#[λA' H' S i w e so hi=>?_,λA' H' S i e so hi=>?_]
 ·simp only[MI.at,Kf]at hi;obtain⟨x,e1,rfl⟩:=qu hi;obtain⟨v,g1,r1⟩:=(z1.mono e).at e1;refine#[#[v,g1],λp H2 #[a,v',q1,hp,hn,hH]=>?_]
  subst hp hH;have ex:Ext X.K A' H' A' (br H' a (.tup [.int i,v'])):=cj (.inl hn);exact#[ex,so.lay hn,.tup (.of aI) #v[.int,((z1.mono e).is e1 q1).mono ex]]
 ·simp only[MI.at,Kf,KH,oy,Jp,List.length_zipIdx]at hi;exact(z1.mono e).out hi
def vU:bootBuiltins "enumerate" = ba (.type "enumerate"):=rfl
def BH {els:Jn J3}{k0:Jx}{tp:Mo}{a:J3}{f:FA}{p pos:Mo}(hg:Gl X "enumerate")(hm:X.mg "enumerate" = gV)(ha:GA X [a] f)(hs:starEach [a] X.env=[(false,eval a X.env)]) :
  GI X (.Tuple els k0 tp) (.Call (.Name "enumerate" p) [a] [] pos) (BG f):=by
 intro J s Y H R I ⟨A,Z,S,mi,S',er,so,e,hq⟩;unfold BG at e;split at e
 ·rename_i x S1 h1;split at e
  ·rename_i xs e1;cases e;refine T0 (hG I hg hm vU (LN (bq (ha pos J s Y H _ I #[A,Z,S,_,_,er,so,h1,λ_ _ z=>z]) λus s1 #[vs,H1,I1,r1,A1,z1,z2,z3]=>?_) (by rw[hs]; rfl) (by rfl)))
   cases z3 with
   | cons ra t=>
    cases t;cases r1 with
    | cons ua t=>
     cases t;obtain⟨Sa,oa,Ca,za,ia,ca,ka,na,ta⟩:=ox I1 ra ua e1;refine vS ia ca na λh' hz g1 kp=>?_
     have I2:Inv X J Y H1 { s1 with heap:=h' }:=I1.kept (t':=s1.toks) kp
     refine Q7 (s:={ s1 with heap:=h' }) hz ?_
     refine#[s1.heap.objs.size+1,_,_,_,H1,rfl,I2,vT (S1:=Sa) (i1:=s1.heap.objs.size) (by simp),#[#[_,hz],ta _ _ g1],λb hb=>?_,hq _ _ A1 z1 z2 (yC za)]
     have hb':s1.heap.objs.size<=b:=by
      simp only[JX,Ko,LA]at hb;rcases hb with rfl|rfl
      ·exact Mm _ _
      ·exact JB _
     exact I1.fpOk hb' (I1.hok.fresh hb')
  ·cases e
 ·cases e
end
end Mi
namespace Mi
open PySem PySem.Spec PyProof.Rows L2
section
variable{X:Cx}{J:Jn (JA×Lo)}{Y:L2.St}{H:Hp}{s:Jt}{A:Jn JA}{S:aa}
abbrev lf:Jn W->Jw (Jn JI)
 | []=>ba []
 | .int i::ws=>(lf ws).map (i :: ·)
 | _::_=>gV
abbrev yD (ns:Jn JI):J6:=decide (ns.length<=1000)&&ns.all λn=>decide (0<=n)&&decide (n < 2 ^ 53)
abbrev BI (xs:Jn W)(S:aa):Jw (W×aa):=match xs with
 | [.ref i]=>match fT S i with
  | some ws=>match lf ws with
   | some ns=>if yD ns then ba (.int ns.sum,S)else gV
   | none=>gV
  | none=>gV
 | _=>gV
def qv {A:Jn JA}{H:Hp}:∀ {ws:Jn W} {vs:Jn V} {us:Jn Jr} {ns:Jn JI},RelL X.K A H ws vs->Vals vs us->lf ws=ba ns->QQ us ns
 | _,_,_,ns,.nil,.nil,e=>by cases e; exact .nil
 | _,_,_,ns,.cons r t,.cons q p,e=>by
  cases r with
  | int=>
   obtain⟨z,e1,e2⟩:=Js.mp e;subst e2;obtain⟨tk,rfl⟩ : ∃t,_=NW _ t:=q;exact .cons _ tk (qv t p e1)
  | _=>cases e
def ga (ns:Jn JI):∀j,preSum (λi=>ns.getD i 0) j=(ns.take j).sum
 | 0=>by rw[P3]; rfl
 | j+1=>by
  show preSum _ j+ns.getD j 0=_;rw[ga ns j,J2,List.sum_append,JT];cases ns[j]? <;> simp
def D4 {ns:Jn JI}(h:∀n∈ns,0<=n/\n < 2 ^ 53):0<=ns.sum/\ns.sum<=(ns.length:JI)*2 ^ 53:=by
 induction ns with
 | nil=>simp
 | cons n ns ih=>
  obtain⟨a,b⟩:=ih λx hx=>h x (KO _ hx)
  obtain⟨c,d⟩:=h n KT;rw[Nz,J9];exact#[∅,∅]
def vV (hh:X.A.handled=gV):LCall X (.builtin "sum") BI:=by
 intro J s Y H A S xs vs us w S' I so rl rv e;unfold BI at e;split at e
 ·rename_i i;obtain⟨a,ea,rfl⟩:=iO (xs:=[]) rl rv;split at e
  ·rename_i ws hw;split at e
   ·rename_i ns hn;split at e
    ·rename_i hb;cases e;unfold yD at hb;rw[Jv,JL,JP]at hb;have hbd:∀n∈ns,0<=n/\n < 2 ^ 53:=λn hn=>by simpa using hb.2 n hn
     obtain⟨vs',h1,r1⟩:=aZ so hw ea;obtain⟨its,rv1,p,hz⟩:=I.list h1;have hi:=qv r1 rv1 hn;have hlen:its.toArray.size=ns.length:=by rw[JM]; exact hi.length
     have hlt:a < s.heap.objs.size:=by obtain⟨_,ho,_⟩:=p.isList; exact JN ho
     refine call_sum_walk (MC p.isList ?_);have W:=Qy (prog:=X.prog) (w:=X.w) (A:=X.A.in1) hh s.heap.objs.size a (J0 hlt) its.toArray;have ht:∀j,0<=(ns.take j).sum/\(ns.take j).sum<=1000*2 ^ 53:=λj=>by
      obtain⟨a,b⟩:=D4 (ns:=ns.take j) λn hn=>hbd n (Lb hn)
      have:=List.length_take_le j ns;have:=List.length_take_le' j ns;exact#[a,∅]
     refine#[_,_,_,_,_,_,(λi=>ns.getD i 0),rfl,W,#[#[_,JJ _ rfl,rfl,rfl],?_],λb hb=>?_,λj v hv=>?_,λj hj=>?_,λh' tk t' hk=>?_]
     ·obtain⟨o,ho,hc⟩:=p.isList;exact#[o,Jq _ ho,hc]
     ·have:b < s.heap.objs.size+1:=by
       rcases JX.mp hb with rfl|hb
       ·exact K9 _
       ·rw[JD.mp hb]; exact L9 hlt
      simpa [TK]using this
     ·have hv:its[j]?=ba v:=by simpa using hv
      have hl:j < ns.length:=by
       rw[<- hi.length];exact(JF.mp hv).1
      obtain⟨t,q⟩:=hi.get j ns[j] (by simp[hl])
      rw[q]at hv;cases hv;exact#[t,by show _=NW (ns.getD j 0) t; rw[JT,Jz hl]; rfl]
     ·rw[ga];have:=ht (j+1);have h0:0<=ns.getD j 0/\ns.getD j 0 < 2 ^ 53:=by
       rw[JT];cases q:ns[j]? with
       | none=>exact#[#v[],#v[]]
       | some n=>exact hbd n (JG q)
      exact#[(#[∅,∅] : InLong (ns.getD j 0)),#[∅,∅]]
     ·refine#[.int ns.sum,H,A,I.kept (λb o e=>hk b o (λz=>?_) (Jq _ e)),?_,.refl,so,.int]
      ·have hb:=JN e;rw[JD.mp z]at hb;exact K8 _ hb
      ·refine#[t',?_];rw[ga,hlen,Kc]
    ·cases e
   ·cases e
  ·cases e
 ·cases e
end
abbrev Cv (g1 g2:Jn W->aa->Jw (W×aa))(xs:Jn W)(S:aa):Jw (W×aa):=match g1 xs S with
 | some r=>ba r
 | none=>g2 xs S
def qw {X:Cx}{f:Jr}{g1 g2:Jn W->aa->Jw (W×aa)}(h1:LCall X f g1)(h2:LCall X f g2):LCall X f (Cv g1 g2):=by
 intro J s Y H A S xs vs us w S' I so rl rv e;unfold Cv at e;split at e
 ·rename_i r hr;cases e;exact h1 J s Y H A S xs vs us w S' I so rl rv hr
 ·exact h2 J s Y H A S xs vs us w S' I so rl rv e
inductive Bi where|len|list|tuple|int|set|sorted|range|sum|all|min
 deriving MX
abbrev Bi.fn:Bi->Jn W->aa->Jw (W×aa)
 | .len=>r9|.list=>Cv mz mG|.tuple=>kZ|.int=>Fz|.set=>kX|.sorted=>Cv cL fJ|.range=>rW|.sum=>BI|.all=>DD|.min=>xR
abbrev Bi.name:Bi->JV
 | .len=>"len"|.list=>"list"|.tuple=>"tuple"|.int=>"int"|.set=>"set"|.sorted=>"sorted"|.range=>"range"|.sum=>"sum"|.all=>"all"|.min=>"min"
inductive Me where|append|extend|join|pop|get
 deriving MX
abbrev Me.fn:Me->W->Jn W->aa->Jw (W×aa)
 | .append=>iK|.extend=>iL|.join=>tH|.pop=>DB|.get=>tM
abbrev Me.name:Me->JV
 | .append=>"append"|.extend=>"extend"|.join=>"join"|.pop=>"pop"|.get=>"get"
abbrev Me.ty:Me->Lc
 | .append=>"list"|.extend=>"list"|.join=>"str"|.pop=>"list"|.get=>"dict"
inductive Tg where
 | nm (i:Jx)|tp (is:Jn Jx)
set_option genSizeOf false in
set_option genInjectivity false in
mutual
inductive E where
 | c (w:W)|v (i:Jx)
 | op (o:BOp) (a b:E)
 | cmp (o:COp) (a b:E)
 | and (a b:E)|or (a b:E)|not (a:E)
 | own (f:JV) (n:Jx) (es:Es)|bi (b:Bi) (es:Es)|me (m:Me) (o:E) (es:Es)
 | ix (a b:E)|sl (a:E) (lo hi:Ep)|tup (es:Es)|lst (es:Es)
 | isi (c:Lc) (a:E)
 | neg (a:E)|dnew|disp (es:Es)|ite (t a b:E)
 | comp (elt:E) (tg:Tg) (it:Ie) (cs:Es) (cap:Jn (Jw Jx))
inductive Es where
 | nil|cons (e:E) (es:Es)
inductive Ep where
 | no|yes (e:E)
inductive Ie where
 | seq (e:E)|rng (es:Es)|zip (es:Es)|rng2 (es:Es)|enu (es:Es)
end
set_option genSizeOf false in
set_option genInjectivity false in
mutual
inductive Sm where
 | set (i:Jx) (e:E)|asg (is:Jn Jx) (e:E)|par (i j:Jx) (es:Es)|put (o k e:E)
 | ex (e:E)|ret (e:E)|pass
 | ite (t:E) (a b:Ss)|whl (t:E) (b:Ss)|loop (tg:Tg) (it:Ie) (b:Ss)
inductive Ss where
 | nil|cons (s:Sm) (ss:Ss)
end
abbrev eS:Tg->FG
 | .nm i=>Bp i
 | .tp is=>DV is
section
variable (M:JV->FF)
mutual
noncomputable def aB:E->FE
 | .c w=>fC w
 | .v i=>fV i
 | .op o a b=>AZ (fI o) (aB a) (aB b)
 | .cmp o a b=>A6 o (aB a) (aB b)
 | .and a b=>t4 (aB a) (aB b)
 | .or a b=>Bc (aB a) (aB b)
 | .not a=>t8 (aB a)
 | .own f n es=>qk n (M f) (cY es)
 | .bi b es=>jR b.fn (cY es)
 | .me m o es=>ET m.ty m.fn (aB o) (cY es)
 | .ix a b=>HU (aB a) (aB b)
 | .sl a lo hi=>FP (aB a) (uh lo) (uh hi)
 | .tup es=>yg (cY es)
 | .lst es=>yh (cY es)
 | .isi c a=>yr c (aB a)
 | .neg a=>yb (aB a)
 | .dnew=>Cs
 | .disp es=>qo (cY es)
 | .ite t a b=>Bd (c9 t) (aB a) (aB b)
 | .comp elt tg it cs cap=>lb (jS it) (eS tg) (BJ cs) (aB elt) cap
noncomputable def c9:E->FT
 | .cmp o a b=>yd (A6 o (aB a) (aB b))
 | .and a b=>ye (c9 a) (c9 b)
 | .or a b=>FL (c9 a) (c9 b)
 | .not a=>A7 (c9 a)
 | .c w=>gO (fC w)
 | .v i=>gO (fV i)
 | .op o a b=>gO (AZ (fI o) (aB a) (aB b))
 | .own f n es=>gO (qk n (M f) (cY es))
 | .bi b es=>gO (jR b.fn (cY es))
 | .me m o es=>gO (ET m.ty m.fn (aB o) (cY es))
 | .ix a b=>gO (HU (aB a) (aB b))
 | .sl a lo hi=>gO (FP (aB a) (uh lo) (uh hi))
 | .tup es=>gO (yg (cY es))
 | .lst es=>gO (yh (cY es))
 | .isi c a=>gO (yr c (aB a))
 | .neg a=>gO (yb (aB a))
 | .dnew=>λ_ _=>gV
 | .disp _=>λ_ _=>gV
 | .ite _ _ _=>λ_ _=>gV
 | .comp _ _ _ _ _=>λ_ _=>gV
noncomputable def cY:Es->FA
 | .nil=>iW
 | .cons e es=>dF (aB e) (cY es)
noncomputable def BJ:Es->FT
 | .nil=>Ct
 | .cons e .nil=>c9 e
 | .cons _ (.cons _ _)=>λ_ _=>gV
noncomputable def uh:Ep->FO
 | .no=>DR
 | .yes e=>t9 (aB e)
noncomputable def jS:Ie->FI
 | .seq e=>eY (aB e)
 | .rng es=>su (cY es)
 | .zip es=>BE (cY es)
 | .rng2 es=>iRng2 (cY es)
 | .enu es=>BG (cY es)
end
variable (fuel:Jx)
mutual
noncomputable def gb:Sm->FS
 | .set i e=>la (aB M e) (Bp i)
 | .asg is e=>la (aB M e) (DV is)
 | .par i j es=>Br i j (cY M es)
 | .put o k e=>la (aB M e) (Bq (aB M o) (aB M k))
 | .ex e=>Bl (aB M e)
 | .ret e=>Bn (aB M e)
 | .pass=>ym
 | .ite t a b=>Bo (c9 M t) (gf a) (gf b)
 | .whl t b=>ou (c9 M t) (gf b) fuel
 | .loop tg it b=>yo (jS M it) (eS tg) (gf b)
noncomputable def gf:Ss->FS
 | .nil=>λZ S=>ba (.nx Z,S)
 | .cons s ss=>Bk (gb s) (gf ss)
end
end
structure Gam where
 sc:Jn (JV×LL)
 N:Jn JV
 fns:Jn (JV×Jx)
 blt:Jn JV
 dfn:J6
abbrev D5:Jw LL->J6
 | some .local=>true|some .cell=>true|some .free=>true|_=>false
abbrev BK:Jw LL->J6
 | some .cell=>true|some .free=>true|_=>false
abbrev gh (names outer:Jn (JV×LL)):Jn (JV×LL):=names.map λ(n,k)=>if (k==.free&&outer.lookup n==ba .cell)then(n,.cell)else(n,k)
abbrev slot (Γ:Gam)(x:JV):Jw Jx:=if D5 (Γ.sc.lookup x) && !(x==("__debug__" : JV)) && !(x==("__classdict__" : JV))then Γ.N.findIdx? (· == x)else gV
abbrev uj:QI->Jw BOp
 | .Add=>ba .add|.Sub=>ba .sub|.Mult=>ba .mul|.FloorDiv=>ba .fdiv|.Mod=>ba .mod|.Pow=>ba .pow|_=>gV
abbrev uk:Sz->Jw COp
 | .Eq=>ba .eq|.NotEq=>ba .ne|.Lt=>ba .lt|.LtE=>ba .le|.Gt=>ba .gt|.GtE=>ba .ge|.In=>ba .isin|.NotIn=>ba .notin|.Is=>ba .is|.IsNot=>ba .isnot
abbrev BL (x:JV):Jw Bi:=[Bi.len,.list,.tuple,.int,.set,.sorted,.range,.sum,.all,.min].find? λb=>b.name==x
abbrev BM (x:JV):Jw Me:=[Me.append,.extend,.join,.pop,.get].find? λb=>b.name==x
abbrev F2 (Γ:Gam)(x:JV):J6:=Γ.sc.lookup x==ba .globalImplicit && !(x==("__debug__" : JV))
abbrev yE (x:JV):Jw Lc:=if x==("bool" : JV)then ba "bool" else if x==("int" : JV)then ba "int" else if x==("str" : JV)then ba "str" else if x==("tuple" : JV)then ba "tuple" else if x==("list" : JV)then ba "list" else if x==("dict" : JV)then ba "dict" else gV
abbrev um:Jn (Jw J3)->Jn J3->Jn J3
 | some k::ks,v::vs=>k::v::um ks vs
 | _,_=>[]
abbrev BN (Γ:Gam)(f:J3->Jw E):Jn J3->Jw E
 | [a,.Name c _]=>if F2 Γ c&&Γ.blt.contains c then match yE c,f a with
  | some cs,ba a'=>ba (.isi cs a')
  | _,_=>gV
  else gV
 | _=>gV
abbrev gD:J3->J6
 | .Name _ _=>true|.Constant _ _ _=>true|.Subscript _ _ _=>true|_=>false
abbrev lg (Γ:Gam)(x:JV):J6:=Γ.sc.lookup x==ba .globalImplicit && !(x==("__debug__" : JV))
abbrev de (Γ:Gam)(x:JV):Jw Jx:=if (Γ.sc.lookup x==ba .local)||(Γ.dfn&&Γ.sc.lookup x==ba .cell)then Γ.N.findIdx? (· == x)else gV
abbrev cA (f:J3->Jw E)(es:Jn J3):Jw Es:=es.foldr (λe acc=>match f e,acc with|some e',ba es'=>ba (.cons e' es')|_,_=>gV) (ba .nil)
abbrev cB (f:J3->Jw E)(op:Tu):Jn J3->Jw E
 | []=>gV
 | [a]=>f a
 | a::b::bu=>match f a,cB f op (b::bu)with
  | some a',ba b'=>ba (match op with|.And=>.and a' b'|.Or=>.or a' b')
  | _,_=>gV
abbrev cP (f:J3->Jw E):Jw J3->Jw Ep
 | none=>ba .no
 | some e=>(f e).map .yes
abbrev isTup:J3->J6
 | .Tuple _ _ _=>true
 | _=>false
abbrev cI (Γ:Gam)(f:J3->Jw E)(tg:J3):J3->Jw Ie
 | .Call (.Name x p) [a] [] q=>if x==("range" : JV)&&lg Γ x&&Γ.blt.contains x then(cA f [a]).map .rng else if x==("enumerate" : JV)&&lg Γ x&&Γ.blt.contains x&&isTup tg then(cA f [a]).map .enu else(f (.Call (.Name x p) [a] [] q)).map .seq
 | .Call (.Name x p) [a,b] [] q=>if x==("zip" : JV)&&lg Γ x&&Γ.blt.contains x&&isTup tg then(cA f [a,b]).map .zip else if x==("range" : JV)&&lg Γ x&&Γ.blt.contains x then(cA f [a,b]).map .rng2 else(f (.Call (.Name x p) [a,b] [] q)).map .seq
 | e=>(f e).map .seq
abbrev EV (Γ:Gam):Jn J3->Jw (Jn Jx)
 | []=>ba []
 | .Name x _::ts=>match de Γ x,EV Γ ts with
  | some i,ba is=>ba (i::is)
  | _,_=>gV
 | _::_=>gV
abbrev cT (Γ:Gam):J3->Jw Tg
 | .Name x _=>(de Γ x).map .nm
 | .Tuple ts _ _=>(EV Γ ts).map .tp
 | _=>gV
abbrev gW (names:Jn (JV×LL)):Jn JV:=(names.filter λp=>p.2==.local||p.2==.free).map (·.1)
abbrev gE (Γ:Gam)(names:Jn (JV×LL)):Jn (Jw Jx):=(gW names).map λx=>if names.lookup x==ba .local then gV else Γ.N.findIdx? (· == x)
abbrev yF (Γ:Gam)(scope:M7):J6:=
 (scope.kind==.function)&&scope.names.all (λy=>!(y.2==.local)||scope.names.lookup y.1==ba .local)&&scope.names.all (λy=>!(y.2==.cell)) &&
 scope.names.all (λy=>!(y.2==.free)||(BK (Γ.sc.lookup y.1)&&scope.names.lookup y.1==ba .free&&(Γ.N.findIdx? (· == y.1)).isSome))&&decide (gW scope.names).Nodup
abbrev gX (Γ:Gam)(scope:M7):Gam:={ Γ with sc:=gh scope.names Γ.sc,N:=gW scope.names,dfn:=false }
abbrev yG (f:J3->Jw E)(keys:Jn (Jw J3))(values:Jn J3):Jw E:=
 if keys.isEmpty&&values.isEmpty then ba .dnew
 else if keys.all (·.isSome)&&decide (keys.length=values.length)&&decide (keys.length<=15)then(cA f (um keys values)).map .disp else gV
abbrev cE:Jx->Gam->J3->Jw E
 | 0,_,_=>gV
 | n+1,Γ,e=>match e with
  | .Constant (.int i) _ _=>ba (.c (.int i))
  | .Constant (.str x) _ _=>ba (.c (.str x))
  | .Constant (.bool b) _ _=>ba (.c (.bl b))
  | .Constant .none _ _=>ba (.c .non)
  | .Name x _=>match slot Γ x with
   | some i=>ba (.v i)
   | none=>gV
  | .BinOp a op b _=>match uj op,cE n Γ a,cE n Γ b with
   | some o,ba a',ba b'=>ba (.op o a' b')
   | _,_,_=>gV
  | .UnaryOp .Not a _=>(cE n Γ a).map .not
  | .UnaryOp .USub a _=>(cE n Γ a).map .neg
  | .BoolOp op vs _=>cB (cE n Γ) op vs
  | .Compare a [op] [b] _=>match uk op,cE n Γ a,cE n Γ b with
   | some o,ba a',ba b'=>ba (.cmp o a' b')
   | _,_,_=>gV
  | .IfExp t a b _=>match cE n Γ t,cE n Γ a,cE n Γ b with
   | some t',ba a',ba b'=>ba (.ite t' a' b')
   | _,_,_=>gV
  | .Call (.Name f _) args [] _=>if lg Γ f then match Γ.fns.lookup f with
    | some k=>(cA (cE n Γ) args).map (.own f k)
    | none=>if f==("isinstance" : JV)then(if Γ.blt.contains f then BN Γ (cE n Γ) args else gV)else match BL f,args with
     | some b,a::as=>if Γ.blt.contains f then(cA (cE n Γ) (a::as)).map (.bi b)else gV
     | _,_=>gV
   else gV
  | .Call (.Attribute o m apos) (a::as) [] cpos=>match BM m,cE n Γ o,cA (cE n Γ) (a::as)with
   | some m',ba o',ba es=>if gD o&&(apos.endLine==cpos.line)&&decide ((a::as).length < 29)then ba (.me m' o' es)else gV
   | _,_,_=>gV
  | .Subscript a (.Slice lo hi gV _) _=>match cE n Γ a,cP (cE n Γ) lo,cP (cE n Γ) hi with
   | some a',ba lo',ba hi'=>ba (.sl a' lo' hi')
   | _,_,_=>gV
  | .Subscript a b _=>match cE n Γ a,cE n Γ b with
   | some a',ba b'=>ba (.ix a' b')
   | _,_=>gV
  | .Tuple es _ _=>(cA (cE n Γ) es).map .tup
  | .List es _=>(cA (cE n Γ) es).map .lst
  | .Dict keys values _=>yG (cE n Γ) keys values
  | .ListComp elt [#[tg,iter,ifs,asy]] scope _=>if (asy==0)&&(yF Γ scope&&decide (ifs.length<=1))then
    match cI Γ (cE n Γ) tg iter,cT (gX Γ scope) tg,cA (cE n (gX Γ scope)) ifs,cE n (gX Γ scope) elt with
    | some it,ba t,ba cs,ba el=>ba (.comp el t it cs (gE Γ scope.names))
    | _,_,_,_=>gV
   else gV
  | _=>gV
structure CtxOk (M:JV->FF)(X:Cx)(Γ:Gam):Prop where
 names:X.env.scope.names=Γ.sc
 kind:X.env.scope.kind=.function
 N:X.N=Γ.N
 nd:Γ.N.Nodup
 calm:X.calm=true
 xe:X.xe=λ_ _=>K5
 un:X.A.units+hZ < cLine
 dfn:Γ.dfn=true->∀x,X.fn x=true
 blt:∀x∈Γ.blt,X.mg x=gV
 fns:∀f n,Γ.fns.lookup f=ba n->∃k fa fd ps,FnOk X.prog X.w X.K X.mg X.base wz k fa fd ps (spF X.w X.K n (M f))/\Room k X.A/\X.mg f=ba (.ref fa)/\Lf X.K (.ref fa)=true/\Binds X.K fd ps []
def aJ {α:Type}{x:α}{P:Prop}(h:(gV:Jw α)=ba x):P:=nomatch h
abbrev im:J3->J6
 | .Starred _ _=>false
 | _=>true
def ar {e:J3}{es:Jn J3}{env:QF}(h:im e=true):starEach (e::es) env=(false,eval e env)::starEach es env:=by
 cases e <;> first|rfl|cases h
def aT {env:QF}{pos:Mo}:∀ {es:Jn J3},es.all im=true->(backTo pos (starEach es env)).any (·.1)=false
 | [],_=>rfl
 | e::es,h=>by
  rw[KJ,Jv]at h;rw[ar h.1];show(false||(backTo pos (starEach es env)).any (·.1))=false
  rw[aT h.2];rfl
def qx {env:QF}{pos:Mo}:∀ {es:Jn J3},es.all im=true->(backTo pos (starEach es env)).all (λx=>!x.1)=true
 | [],_=>rfl
 | e::es,h=>by
  rw[KJ,Jv]at h;rw[ar h.1];show(true&&(backTo pos (starEach es env)).all (λx=>!x.1))=true
  rw[qx h.2];rfl
def jr {n:Jx}{Γ:Gam}{e:J3}{e':E}(h:cE n Γ e=ba e'):im e=true:=by
 cases n with
 | zero=>cases h
 | succ n=>cases e <;> first|rfl|(exact aJ h)
def iX {f:J3->Jw E}{e:J3}{es:Jn J3}{r:Es}(h:cA f (e::es)=ba r):∃e' es',f e=ba e'/\cA f es=ba es'/\r=.cons e' es':=by
 simp only[cA,RH]at h;split at h
 ·rename_i e' es' h1 h2;cases h;exact#[e',es',h1,h2,rfl]
 ·cases h
def bU {n:Jx}{Γ:Gam}:∀ {es:Jn J3} {r:Es},cA (cE n Γ) es=ba r->es.all im=true
 | [],_,_=>rfl
 | e::es,r,h=>by
  obtain⟨e',es',h1,h2,_⟩:=iX h;rw[KJ,jr h1,bU h2];rfl
def dw {N:Jn JV}{x:JV}{i:Jx}(h:N.findIdx? (· == x)=ba i):N[i]?=ba x:=by
 obtain⟨hl,h1,_⟩:=List.findIdx?_eq_some_iff_getElem.mp h;rw[Jz hl];exact congrArg ba (eq_of_beq h1)
section
variable{M:JV->FF}{X:Cx}{Γ:Gam}
def kj {e:J3}:GT X e (λ_ _=>gV):=λJ s Y H Q I #[A,Z,S,k,S',er,so,e1,hq]=>by cases e1
def yH {x:JV}(h:D5 (X.env.scope.names.lookup x)=true):G6 X.env.scope x:=by
 unfold D5 at h;split at h
 ·exact .inl (by assumption)
 ·exact .inr (.inl (by assumption))
 ·exact .inr (.inr (by assumption))
 ·cases h
def yI (K:CtxOk M X Γ){x:JV}{pos:Mo}{i:Jx}(h:slot Γ x=ba i):GE X (.Name x pos) (fV i):=by
 unfold slot at h;split at h
 ·rename_i hc;rw[Jv,Jv]at hc;obtain⟨⟨h1,h2⟩,h3⟩:=hc;refine HS (wH (by rw[K.N]; exact dw h) (yH (by rw[K.names]; exact h1)) (by simpa using h2) (by simpa using h3))
 ·cases h
def jT (K:CtxOk M X Γ){x:JV}(h:lg Γ x=true):Gl X x/\(x==("__debug__" : JV))=false:=by
 unfold lg at h;rw[Jv]at h;refine#[?_,by simpa using h.2]
 show X.env.scope.names.lookup x=_;rw[K.names];exact eq_of_beq h.1
def yJ {o:Sz}{c:COp}(h:uk o=ba c):c.py=o:=by
 cases o <;> (simp only[uk,Kf]at h; subst h; rfl)
def yK {o:QI}{c:BOp}(h:uj o=ba c):c.py=o:=by
 cases o <;> simp only[uj,Kf]at h <;> first|(subst h; rfl)|cases h
def vW {x:JV}{b:Bi}(h:BL x=ba b):b.name=x:=by
 have:=Pz h;exact eq_of_beq this
def vX {x:JV}{b:Me}(h:BM x=ba b):b.name=x:=by
 have:=Pz h;exact eq_of_beq this
def dg {n:Jx}(ih:∀ {e:J3} {e':E},cE n Γ e=ba e'->GE X e (aB M e')):∀ {es:Jn J3} {r:Es},cA (cE n Γ) es=ba r->GA X es (cY M r)
 | [],r,h=>by cases h; exact DQ
 | e::es,r,h=>by
  obtain⟨e',es',h1,h2,rfl⟩:=iX h;exact Be (ih h1) (dg ih h2) (ar (jr h1))
def F3 (K:CtxOk M X Γ){n:Jx}{f:JV}{p pos:Mo}{args:Jn J3}{k:Jx}{r:Es}(hg:lg Γ f=true)(hf:Γ.fns.lookup f=ba k)(ha:cA (cE n Γ) args=ba r)(h:GA X args (cY M r)):GE X (.Call (.Name f p) args [] pos) (qk k (M f) (cY M r)):=by
 obtain⟨d,fa,fd,ps,F,hr,hm,hk,hb⟩:=K.fns f k hf;obtain⟨g1,g2⟩:=jT K hg;cases args with
 | nil=>cases ha; exact Bh F hr g1 hm hk hb g2
 | cons a as=>
  have ns:=bU ha;rw[KJ,Jv]at ns;exact DS F hr g1 hm hk hb h g2 (ar ns.1) (aT ns.2)
def HW (K:CtxOk M X Γ){n:Jx}{f:JV}{p pos:Mo}{a:J3}{as:Jn J3}{b:Bi}{r:Es}(hg:lg Γ f=true)(hb:BL f=ba b)(hc:Γ.blt.contains f=true)(ha:cA (cE n Γ) (a::as)=ba r)(h:GA X (a::as) (cY M r)):GE X (.Call (.Name f p) (a::as) [] pos) (jR b.fn (cY M r)):=by
 obtain⟨g1,g2⟩:=jT K hg;have hm:X.mg f=gV:=K.blt f (by simpa using hc)
 have ns:=bU ha;rw[KJ,Jv]at ns;have e:=vW hb;subst e;have hu:X.A.units+12 < cLine:=by have:=K.un; have:hZ=20:=rfl; omega
 have calm:∀ {f:Jr} {g:Jn W->aa->Jw (W×aa)},(X.A.handled=gV->LCall X f g)->LCall X f g:=λh J s Y H A S xs vs us w S' I=>h (I.ok.hd K.calm) J s Y H A S xs vs us w S' I
 cases b with
 | len=>exact qd sw g1 hm PySem.boot_len h #v[] g2 (ar ns.1) (aT ns.2)
 | list=>exact qf (calm λhh=>qw (pL hh) (pX hh)) g1 hm rfl h #v[] g2 (ar ns.1) (aT ns.2)
 | tuple=>exact qf (calm oq) g1 hm rfl h #v[] g2 (ar ns.1) (aT ns.2)
 | int=>exact qf vt g1 hm rfl h #v[] g2 (ar ns.1) (aT ns.2)
 | set=>exact qf (calm λhh=>sj hh hu) g1 hm rfl h #v[] g2 (ar ns.1) (aT ns.2)
 | sorted=>exact qd (calm λhh=>qw (qa hh hu) (og hh hu)) g1 hm rfl h #v[] g2 (ar ns.1) (aT ns.2)
 | range=>exact qf pK g1 hm rfl h #v[] g2 (ar ns.1) (aT ns.2)
 | all=>exact qd (calm vP) g1 hm rfl h #v[] g2 (ar ns.1) (aT ns.2)
 | min=>exact qd (calm λhh=>vN hh hu) g1 hm rfl h #v[] g2 (ar ns.1) (aT ns.2)
 | sum=>exact qd (calm vV) g1 hm SO h #v[] g2 (ar ns.1) (aT ns.2)
def yL {x:JV}{c:Lc}(h:yE x=ba c):bootBuiltins x=ba (.type c)/\x≠"__name__":=by
 unfold yE at h;split at h
 ·rename_i e; cases h; rw[eq_of_beq e]; exact#[rfl,#v[]]
 ·split at h
  ·rename_i e; cases h; rw[eq_of_beq e]; exact#[rfl,#v[]]
  ·split at h
   ·rename_i e; cases h; rw[eq_of_beq e]; exact#[rfl,#v[]]
   ·split at h
    ·rename_i e; cases h; rw[eq_of_beq e]; exact#[rfl,#v[]]
    ·split at h
     ·rename_i e; cases h; rw[eq_of_beq e]; exact#[rfl,#v[]]
     ·split at h
      ·rename_i e; cases h; rw[eq_of_beq e]; exact#[rfl,#v[]]
      ·cases h
def F4 (K:CtxOk M X Γ){n:Jx}{f:JV}{p pos:Mo}{args:Jn J3}{r:E}(hg:lg Γ f=true)(hb:(f==("isinstance" : JV))=true)(hc:Γ.blt.contains f=true)(ih:∀ {e:J3} {e':E},cE n Γ e=ba e'->GE X e (aB M e'))(h:BN Γ (cE n Γ) args=ba r) :
  GE X (.Call (.Name f p) args [] pos) (aB M r)/\∃a c,r=.isi c a:=by
 obtain⟨g1,g2⟩:=jT K hg;have hm:X.mg f=gV:=K.blt f (by simpa using hc)
 have e:=eq_of_beq hb;subst e;unfold BN at h;split at h
 ·rename_i a c q;split at h
  ·rename_i hcc;rw[Jv]at hcc;obtain⟨g3,g4⟩:=jT K (x:=c) hcc.1;have hm2:X.mg c=gV:=K.blt c (by simpa using hcc.2)
   split at h
   ·rename_i cs a' h1 h2;cases h;obtain⟨b1,b2⟩:=yL h1;exact#[D1 g1 hm g3 hm2 b1 b2 g4 (ih h2) (ar (jr h2)),a',cs,rfl]
   ·cases h
  ·cases h
 ·cases h
def fe {o:J3}{name:JV}{env:QF}(h:gD o=true):attributeBase o name env (eval o env)=eval o env:=by
 cases o <;> first|rfl|cases h
def uq {n:Jx}{pos:Mo}(ih:∀ {e:J3} {e':E},cE n Γ e=ba e'->GE X e (aB M e')):∀(keys:Jn (Jw J3)) (values:Jn J3) {r:Es},keys.all (·.isSome)=true->keys.length=values.length->cA (cE n Γ) (um keys values)=ba r->FW X pos keys values (cY M r)
 | [],[],r,_,_,h=>by cases h; exact By
 | [],_::_,r,_,hl,_=>by cases hl
 | _::_,[],r,_,hl,_=>by cases hl
 | none::_,_::_,r,ha,_,_=>by cases ha
 | some k::ks,v::vs,r,ha,hl,h=>by
  dsimp only[um]at h;obtain⟨e1,es1,h1,h2,rfl⟩:=iX h;obtain⟨e2,es2,h3,h4,rfl⟩:=iX h2;rw[KJ,Jv]at ha;exact yt (ih h1) (ih h3) (uq ih ks vs ha.2 (by simpa using hl) h4)
def HX (K:CtxOk M X Γ){n:Jx}{m:JV}{apos cpos:Mo}{o a:J3}{as:Jn J3}{b:Me}{o':E}{r:Es}(hm:BM m=ba b)(hr:gD o=true)(hl:(apos.endLine==cpos.line)=true)(hn:(a::as).length < 29)(ho:GE X o (aB M o'))(ha:cA (cE n Γ) (a::as)=ba r)(h:GA X (a::as) (cY M r)) :
  GE X (.Call (.Attribute o m apos) (a::as) [] cpos) (ET b.ty b.fn (aB M o') (cY M r)):=by
 have ns:=bU ha;have ns':=ns;rw[KJ,Jv]at ns;have jV:((backTo cpos (starEach (a::as) X.env)).all (λx=>!x.1)&&(backToKw cpos (keywordEach [] X.env)).all (λx=>x.1.isSome)&&decide ((a::as).length+([]:Jn RK).length+(if ([]:Jn RK).isEmpty then 0 else 1) < 30))=true:=by
  rw[qx ns',N5,Jv];exact#[rfl,Lg (by simp only[LV,List.isEmpty_nil,Ls]; omega)]
 have e:=vX hm;subst e;cases b with
 | append=>exact qh NK PySem.F.slot_list_append PySem.F.type_list_append nS ho h (fe hr) jV hl (ar ns.1) (aT ns.2)
 | extend=>exact qh NK PySem.F.slot_list_extend PySem.F.type_list_extend nT ho h (fe hr) jV hl (ar ns.1) (aT ns.2)
 | join=>exact qh PySem.F.plainAttrs_str PySem.F.slot_str_join PySem.F.type_str_join rS ho h (fe hr) jV hl (ar ns.1) (aT ns.2)
 | pop=>exact qh NK PySem.F.slot_list_pop PySem.F.type_list_pop vw ho h (fe hr) jV hl (ar ns.1) (aT ns.2)
 | get=>exact qh PySem.F.plainAttrs_dict PH PySem.F.type_dict_get (rZ (by have:=K.un; have:hZ=20:=rfl; omega)) ho h (fe hr) jV hl (ar ns.1) (aT ns.2)
def qA {n:Jx}{Γ:Gam}{e:J3}{e':E}{op:Sz}(h:cE n Γ e=ba e'):behindInMarks op e=false:=by
 cases n with
 | zero=>cases h
 | succ n=>cases e <;> first|rfl|(exact aJ h)
def sA {n:Jx}{Γ:Gam}{e:J3}{e':E}(h:cE n Γ e=ba e'):nK e:=by
 cases n with
 | zero=>cases h
 | succ n=>cases e <;> first|(intro o i; rfl)|(exact aJ h)
def oz {n:Jx}{Γ:Gam}{f:J3->Jw E}{e:J3}{i:Ie}{env:QF}{tg:J3}(hf:∀el k p,f (.Set el k p)=gV)(h:cI Γ f tg e=ba i):∀x,foldedSetIterable e env x=pure x:=by
 intro x;cases e <;> first|rfl|(simp[cI,hf]at h)
def oA {n:Jx}{op:Tu}{pos:Mo}(ih:∀ {e:J3} {e':E},cE n Γ e=ba e'->GE X e (aB M e')):∀ {vs:Jn J3} {r:E},cB (cE n Γ) op vs=ba r->GE X (.BoolOp op vs pos) (aB M r)
 | [],r,h=>by cases h
 | [a],r,h=>DM (ih h)
 | a::b::bu,r,h=>by
  simp only[cB]at h;split at h
  ·rename_i a' b' h1 h2;cases h;cases op with
   | And=>exact DN (ih h1) (oA ih h2)
   | Or=>exact FN (ih h1) (oA ih h2)
  ·cases h
def oB {n:Jx}{op:Tu}{pos:Mo}(ih:∀ {e:J3} {e':E},cE n Γ e=ba e'->GT X e (c9 M e')):∀ {vs:Jn J3} {r:E},cB (cE n Γ) op vs=ba r->GW X (.BoolOp op vs pos) (c9 M r)
 | [],r,h=>by cases h
 | [a],r,h=>by
  cases op with
  | And=>exact Bb (ih h)
  | Or=>exact DJ (ih h)
 | a::b::bu,r,h=>by
  simp only[cB]at h;split at h
  ·rename_i a' b' h1 h2;cases h;cases op with
   | And=>exact DK (ih h1) (oB ih h2)
   | Or=>exact FM (ih h1) (oB ih h2)
  ·cases h
def yM {n:Jx}(ih:∀ {e:J3} {e':E},cE n Γ e=ba e'->GE X e (aB M e')){o:Jw J3}{p:Ep}(h:cP (cE n Γ) o=ba p):GO X o (uh M p):=by
 cases o with
 | none=>cases h; exact Bf
 | some e=>
  simp only[cP,Js]at h;obtain⟨e',h1,rfl⟩:=h;exact Bg (ih h1)
def sB (K:CtxOk M X Γ){n:Jx}(ih:∀ {e:J3} {e':E},cE n Γ e=ba e'->GE X e (aB M e')){tg e:J3}{i:Ie}(h:cI Γ (cE n Γ) tg e=ba i):GI X tg e (jS M i):=by
 have gen:(cE n Γ e).map Ie.seq=ba i->GI X tg e (jS M i):=λh=>by
  rw[Js]at h;obtain⟨e',h1,rfl⟩:=h;exact BB (ih h1)
 unfold cI at h;split at h
 ·rename_i x p a pos;split at h
  ·rename_i hc;rw[Jv,Jv]at hc;obtain⟨⟨h1,h2⟩,h3⟩:=hc;have hx:=eq_of_beq h1;subst hx;rw[Js]at h;obtain⟨r,hr,rfl⟩:=h;have ns:=bU hr;rw[KJ,Jv]at ns;exact Bv (jT K h2).1 (K.blt _ (by simpa using h3)) (dg ih hr) (ar ns.1)
  ·split at h
   ·rename_i hc;rw[Jv,Jv,Jv]at hc;obtain⟨⟨⟨h1,h2⟩,h3⟩,h4⟩:=hc;have hx:=eq_of_beq h1;subst hx;rw[Js]at h;obtain⟨r,hr,rfl⟩:=h;have ns:=bU hr;rw[KJ,Jv]at ns;cases tg with
    | Tuple els k0 tp=>exact BH (jT K h2).1 (K.blt _ (by simpa using h3)) (dg ih hr) (ar ns.1)
    | _=>cases h4
   ·exact gen h
 ·rename_i x p a b pos;split at h
  ·rename_i hc;rw[Jv,Jv,Jv]at hc;obtain⟨⟨⟨h1,h2⟩,h3⟩,h4⟩:=hc;have hx:=eq_of_beq h1;subst hx;rw[Js]at h;obtain⟨r,hr,rfl⟩:=h;have ns:=bU hr;rw[KJ,KJ,Jv,Jv]at ns;cases tg with
   | Tuple els k0 tp=>exact D3 (jT K h2).1 (K.blt _ (by simpa using h3)) (dg ih hr) (by rw[ar ns.1,ar ns.2.1]; rfl) (ar ns.2.1)
   | _=>cases h4
  ·split at h
   ·rename_i hc;rw[Jv,Jv]at hc;obtain⟨⟨h1,h2⟩,h3⟩:=hc;have hx:=eq_of_beq h1;subst hx;rw[Js]at h;obtain⟨r,hr,rfl⟩:=h;have ns:=bU hr;rw[KJ,KJ,Jv,Jv]at ns;exact Bw (jT K h2).1 (K.blt _ (by simpa using h3)) (dg ih hr) (by rw[ar ns.1,ar ns.2.1]; rfl) (ar ns.2.1)
   ·exact gen h
 ·exact gen h
def oE (K:CtxOk M X Γ){x:JV}{i:Jx}(h:de Γ x=ba i):X.N[i]?=ba x/\Ah X.env.scope x/\(X.fn x=true\/X.env.scope.names.lookup x=ba .local):=by
 unfold de at h;split at h
 ·rename_i hc;refine#[by rw[K.N]; exact dw h,?_]
  unfold L2.Ah;rw[K.names];rw[LF,Jv]at hc;rcases hc with hc|⟨hd,hc⟩
  ·have:=eq_of_beq hc;exact#[.inl this,.inr this]
  ·exact#[.inr (eq_of_beq hc),.inl (K.dfn hd x)]
 ·cases h
def qB (K:CtxOk M X Γ):∀ {ts:Jn J3} {is:Jn Jx},EV Γ ts=ba is->(∀x∈ts,∃y p,x=Qa y p)/\Pa (λ(t:J3) (i:Jx)=>∃x p,t=Qa x p/\X.N[i]?=ba x/\Ah X.env.scope x/\(X.fn x=true\/X.env.scope.names.lookup x=ba .local)) ts is
 | [],is,h=>by cases h; exact#[λx hx=>by simp at hx,.nil]
 | t::ts,is,h=>by
  cases t with
  | Name x p=>
   dsimp only[EV]at h;split at h
   ·rename_i i is' h1 h2;cases h;obtain⟨a,b⟩:=qB K h2;exact#[λy hy=>(JX.mp hy).elim (λe=>#[x,p,e]) (a y),.cons #[x,p,rfl,oE K h1] b]
   ·cases h
  | _=>cases h
def io {env:QF}:∀ {ts:Jn J3},(∀x∈ts,∃y p,x=Qa y p)->(assignEach ts env).length=ts.length/\(assignEach ts env).findIdx? (·.1)=gV
 | [],_=>#[rfl,rfl]
 | t::ts,h=>by
  obtain⟨y,p,rfl⟩:=h t KT;obtain⟨a,b⟩:=io (env:=env) λx hx=>h x (KO _ hx)
  refine#[by show(assignEach ts env).length+1=ts.length+1; rw[a],?_]
  show List.findIdx? (·.1) ((false,assign (.Name y p) env)::assignEach ts env)=gV
  rw[List.findIdx?_cons,b];rfl
def ur (K:CtxOk M X Γ){tg:J3}{t:Tg}(h:cT Γ tg=ba t):GG X tg (eS t):=by
 have hN:X.N.Nodup:=by rw[K.N]; exact K.nd
 cases tg with
 | Name x p=>
  dsimp only[cT]at h; simp only[Js]at h
  obtain⟨i,h1,rfl⟩:=h;obtain⟨a,b,c⟩:=oE K h1;exact ud hN a b c
 | Tuple ts k p=>
  dsimp only[cT]at h; simp only[Js]at h
  obtain⟨is,h1,rfl⟩:=h;obtain⟨a,b⟩:=qB K h1;exact DW K.calm a b hN (io a).1 (io a).2
 | _=>cases h
end
abbrev eQ (env:QF):Jn (JV×LL)->Jn (JV×JA)->Jn (JV×JA)
 | [],cs=>cs
 | (n,k)::r,cs=>eQ env r (if k==.free then(n,(env.cells.lookup n).getD 0)::cs else cs)
def jt {env:QF}:∀(names:Jn (JV×LL)) (cs:Jn (JV×JA)),(∀y∈names,y.2=.free->(env.cells.lookup y.1).isSome=true)->
  (forIn names cs λx r=>match x with|(name,kind)=>if (kind==NA)=true then do let a <- cellOf env name; pure (LG ((name,a)::r))else pure (LG r):Td (Jn (JV×JA)))=pure (eQ env names cs)
 | [],cs,_=>by rw[P0]; rfl
 | (n,k)::r,cs,h=>by
  rw[Od];have hr:=λy hy=>h y (KO _ hy)
  by_cases hk:(k==NA)=true
  ·obtain⟨c,hc⟩:=KD.mp (h (n,k) KT (eq_of_beq hk));have e1:cellOf env n=pure c:=by unfold cellOf; rw[hc]
   simp only[hk,Ls,e1,pure_bind];rw[jt r _ hr];simp only[eQ,hk,Ls,hc,Ro]
  ·have hk':(k==NA)=false:=by simpa using hk
   simp only[hk',J5,KZ,pure_bind];rw[jt r _ hr];simp only[eQ,hk',J5,KZ]
def j6 {scope:M7}{env:QF}(h:∀y∈scope.names,y.2=.free->(env.cells.lookup y.1).isSome=true):closureFor scope env=pure (eQ env scope.names []):=by
 have:=jt scope.names [] h;unfold closureFor;simp only[this,pure_bind]
def lh {env:QF}:∀(names:Jn (JV×LL)) (cs:Jn (JV×JA)),(∀y∈names,y.2=.free->(env.cells.lookup y.1).isSome=true)->(∀x c,cs.lookup x=ba c->env.cells.lookup x=ba c)->
  ∀x c,(eQ env names cs).lookup x=ba c->env.cells.lookup x=ba c
 | [],cs,_,h,x,c,e=>h x c e
 | (n,k)::r,cs,hn,h,x,c,e=>by
  refine lh r _ (λy hy=>hn y (KO _ hy)) (λx c e=>?_) x c e
  split at e
  ·rename_i hk;rw[Lv]at e;split at e
   ·rename_i hx;cases e;have:=eq_of_beq hx;subst this;obtain⟨c,hc⟩:=KD.mp (hn (x,k) KT (eq_of_beq hk));rw[hc]; rfl
   ·exact h x c e
  ·exact h x c e
def jU {env:QF}{x:JV}:∀(names:Jn (JV×LL)) (cs:Jn (JV×JA)),(∃c,cs.lookup x=ba c)->∃c,(eQ env names cs).lookup x=ba c
 | [],cs,h=>h
 | (n,k)::r,cs,h=>by
  refine jU r _ ?_;split
  ·rw[Lv];split
   ·exact#[_,rfl]
   ·exact h
  ·exact h
def ll {env:QF}{x:JV}:∀(names:Jn (JV×LL)) (cs:Jn (JV×JA)),(x,NA)∈names->∃c,(eQ env names cs).lookup x=ba c
 | [],cs,h=>by simp at h
 | (n,k)::r,cs,h=>by
  rcases JX.mp h with e|h
  ·cases e;refine jU r _ ?_;simp[Lv]
  ·exact ll r _ h
def lm {x:JV}{k:LL}:∀ {l:Jn (JV×LL)},l.lookup x=ba k->(x,k)∈l
 | [],h=>by simp at h
 | (n,j)::r,h=>by
  rw[Lv]at h;split at h
  ·rename_i hx;cases h;have:=eq_of_beq hx;subst this;exact KT
  ·exact KO _ (lm h)
def eR {X:Cx}{M:JV->FF}{Γ:Gam}(K:CtxOk M X Γ)(scope:M7):(relabel scope X.env).names=gh scope.names Γ.sc:=by
 unfold relabel gh Pj;rw[K.kind,K.names];refine KG λ#[n,k] _=>?_
 have e:(QC==QC)=true:=rfl;simp only[e,Ny]
def ee {outer:Jn (JV×LL)}{x:JV}:∀ {names:Jn (JV×LL)},(gh names outer).lookup x=(names.lookup x).map λk=>if (k==.free&&outer.lookup x==ba .cell)then .cell else k
 | []=>rfl
 | (n,k)::r=>by
  have ih:=ee (outer:=outer) (x:=x) (names:=r);show List.lookup x ((if (k==NA&&outer.lookup n==ba .cell)=true then(n,T9)else(n,k))::gh r outer)=_
  cases hx:x==n with
  | true=>
   have:=eq_of_beq hx;subst this;simp only[Lv,KM,Kv];split <;> simp[Lv]
  | false=>
   simp only[Lv,hx];split <;> (simp only[Lv,hx]; exact ih)
section
variable{M:JV->FF}{X:Cx}{Γ:Gam}
structure ScOk (Γ:Gam)(scope:M7):Prop where
 kind:scope.kind=.function
 names:∀y∈scope.names,y.2=.local->scope.names.lookup y.1=ba .local
 nocell:∀y∈scope.names,y.2≠.cell
 free:∀y∈scope.names,y.2=.free->BK (Γ.sc.lookup y.1)=true/\scope.names.lookup y.1=ba .free/\(Γ.N.findIdx? (· == y.1)).isSome=true
 nd:(gW scope.names).Nodup
def ut {scope:M7}(h:yF Γ scope=true):ScOk Γ scope:=by
 unfold yF at h;rw[Jv,Jv,Jv,Jv]at h;obtain⟨⟨⟨⟨h1,h2⟩,h3⟩,h4⟩,h5⟩:=h;refine#[eq_of_beq h1,λy hy e=>?_,λy hy e=>?_,λy hy e=>?_,Kt h5]
 ·have:=JP.mp h2 y hy;rw[e]at this
  simpa using this
 ·have:=JP.mp h3 y hy;rw[e]at this;simp at this
 ·have:=JP.mp h4 y hy;rw[e]at this;simp only[KM,MG,O1,Jv]at this;exact#[this.1.1,eq_of_beq this.1.2,this.2]
def uu {o:Jw LL}(h:BK o=true):o=ba .cell\/o=ba .free:=by
 unfold BK at h;split at h
 ·exact .inl rfl
 ·exact .inr rfl
 ·cases h
def mS (K:CtxOk M X Γ)(ok:X.Ok){scope:M7}(sc:ScOk Γ scope):CompOk X scope (eQ X.env scope.names []) (gW scope.names) (gE Γ scope.names):=by
 have cells:∀y∈scope.names,y.2=.free->(X.env.cells.lookup y.1).isSome=true:=λy hy e=>by
  have hk:=uu (sc.free y hy e).1;obtain⟨c,hc⟩:=ok.has y.1 (by unfold Pj; rw[K.names]; exact hk)
  rw[hc]; rfl
 have relab:∀x,((relabel scope X.env).names.lookup x=ba .cell\/(relabel scope X.env).names.lookup x=ba .free)->(x,NA)∈scope.names:=λx h=>by
  rw[eR K,ee]at h;cases q:scope.names.lookup x with
  | none=>rw[q]at h; rcases h with h|h <;> cases h
  | some k=>
   rw[q]at h;have hm:=lm q;cases k with
   | free=>exact hm
   | cell=>exact absurd rfl (sc.nocell _ hm)
   | _=>rcases h with h|h <;> simp at h
 refine#[j6 cells,sc.kind,sc.names,sc.nocell,lh _ _ cells (λx c e=>by cases e),λx h=>ll _ _ (relab x h),by simp[gE],λi j x hi hx=>?_]
 unfold gE at hi;rw[Jy,hx]at hi;simp only[Kv,Kf]at hi;split at hi
 ·cases hi
 ·rename_i hl;have hx2:x∈gW scope.names:=JG hx;unfold gW at hx2;obtain⟨⟨x',k⟩,hf,e⟩:=JE.mp hx2;obtain⟨hm,hk⟩:=Kz.mp hf;have e':x'=x:=e;subst e';have hkf:k=.free:=by
   simp only[LF]at hk;rcases hk with hk|hk
   ·have:k=.local:=eq_of_beq hk;subst this;have:=sc.names (x',.local) hm rfl;rw[this]at hl;simp at hl
   ·exact eq_of_beq hk
  subst hkf;obtain⟨f1,f2,f3⟩:=sc.free _ hm rfl;refine#[by rw[K.N]; exact dw hi,by unfold Pj; rw[K.names]; exact uu f1,?_]
  rw[eR K,ee,f2];simp only[Kv,Kf,KM,N5];split
  ·exact .inl rfl
  ·exact .inr rfl
def ff (K:CtxOk M X Γ){scope:M7}(sc:ScOk Γ scope)(C:JA)(s0:Jt)(H0:Hp)(ex:Jn JA):CtxOk M (lT X scope (eQ X.env scope.names []) C (gW scope.names) s0 H0 ex) (gX Γ scope) where
 names:=eR K scope
 kind:=sc.kind
 N:=rfl
 nd:=sc.nd
 calm:=K.calm
 xe:=rfl
 un:=K.un
 dfn:=λh=>by cases h
 blt:=K.blt
 fns:=K.fns
def qC {cs:Es}{n:Jx}{ifs:Jn J3}{Γ:Gam}(hl:ifs.length<=1)(hc:cA (cE n Γ) ifs=ba cs){Yq:Cx}(ih:∀ {e:J3} {e':E},cE n Γ e=ba e'->GT Yq e (c9 M e'))(hx:Yq.xe=λ_ _=>K5) :
  ∀J s Y H Q,Inv Yq J Y H s->tT Yq (BJ M cs) Y H Q->
  wpAny (model Yq.prog Yq.w) Yq.A (forIn ifs true λc r=>if r=true then do let ok <- isTrue c Yq.env (eval c Yq.env); pure (LG ok)else pure (LG r)) (TP Yq J Y Q) (λ_ _=>K5) s:=by
 intro J s Y H Q I h
 match ifs,hl,hc with
 | [],_,hc=>
  cases hc;obtain⟨A,Z,S,k,S',er,so,e,hq⟩:=h;cases e;exact wpAny_tests_nil #[H,I,hq _ _ #[rfl,A,.refl,so]]
 | [c],_,hc=>
  obtain⟨e',es',h1,h2,rfl⟩:=iX hc;cases h2;have:=ih h1 J s Y H Q I h;rw[hx]at this;exact wpAny_tests_one this
def bI:∀(n:Jx) {Γ:Gam} {X:Cx} {e:J3} {e':E},CtxOk M X Γ->cE n Γ e=ba e'->GE X e (aB M e')/\GT X e (c9 M e'):=by
 intro n
 induction n with
 | zero=>intro Γ X e e' K h; cases h
 | succ n ih=>
  intro Γ X e e' K h;have ihE:∀ {e:J3} {e':E},cE n Γ e=ba e'->GE X e (aB M e'):=λq=>(ih K q).1
  have ihT:∀ {e:J3} {e':E},cE n Γ e=ba e'->GT X e (c9 M e'):=λq=>(ih K q).2
  have hu10:X.A.units+10 < cLine:=by have:=K.un; have:hZ=20:=rfl; omega
  cases e with
  | Constant c k p=>
   cases c <;> cases h
   all_goals first
    | exact#[qc wJ (λ_ _=>.non),cx (qc wJ (λ_ _=>.non)) λ_=>rfl]
    | exact#[qc Cn (λ_ _=>.bl),cx (qc Cn (λ_ _=>.bl)) λ_=>rfl]
    | exact#[qc wI (λ_ _=>.int),cx (qc wI (λ_ _=>.int)) λ_=>rfl]
    | exact#[qc wK (λ_ _=>.str),cx (qc wK (λ_ _=>.str)) λ_=>rfl]
  | Name x p=>
   replace h:(match slot Γ x with|some i=>ba (E.v i)|none=>gV)=ba e':=h
   split at h
   ·rename_i i h1;cases h;exact#[yI K h1,cx (yI K h1) λ_=>rfl]
   ·cases h
  | BinOp a op b p=>
   replace h:(match uj op,cE n Γ a,cE n Γ b with|some o,ba a',ba b'=>ba (E.op o a' b')|_,_,_=>gV)=ba e':=h
   split at h
   ·rename_i o a' b' h1 h2 h3;cases h;have e:=yK h1;subst e;exact#[Cr (tu o) (ihE h2) (ihE h3),cx (Cr (tu o) (ihE h2) (ihE h3)) λ_=>rfl]
   ·cases h
  | UnaryOp op a p=>
   cases op with
   | Not=>
    replace h:(cE n Γ a).map E.not=ba e':=h;rw[Js]at h;obtain⟨a',h1,rfl⟩:=h;exact#[DO (ihE h1),DL (ihT h1)]
   | USub=>
    replace h:(cE n Γ a).map E.neg=ba e':=h;rw[Js]at h;obtain⟨a',h1,rfl⟩:=h;exact#[yc (ihE h1),cx (yc (ihE h1)) λ_=>rfl]
   | _=>exact aJ h
  | BoolOp op vs p=>
   replace h:cB (cE n Γ) op vs=ba e':=h;exact#[oA ihE h,(oB ihT h).pt]
  | Compare a ops cs p=>
   match ops,cs,h with
   | [op],[b],h=>
    replace h:(match uk op,cE n Γ a,cE n Γ b with|some o,ba a',ba b'=>ba (E.cmp o a' b')|_,_,_=>gV)=ba e':=h
    split at h
    ·rename_i o a' b' h1 h2 h3;cases h;have e:=yJ h1;subst e;exact#[DH K.un (ihE h2) (ihE h3) (qA h3),DI K.un (ihE h2) (ihE h3) (qA h3)]
    ·cases h
   | [],_,h=>exact aJ h
   | [_],[],h=>exact aJ h
   | [_],_::_::_,h=>exact aJ h
   | _::_::_,_,h=>exact aJ h
  | IfExp t a b p=>
   replace h:(match cE n Γ t,cE n Γ a,cE n Γ b with|some t',ba a',ba b'=>ba (E.ite t' a' b')|_,_,_=>gV)=ba e':=h
   split at h
   ·rename_i t' a' b' h1 h2 h3;cases h;exact#[DP (ihT h1) (ihE h2) (ihE h3),kj]
   ·cases h
  | Call f args kws p=>
   cases kws with
   | cons _ _=>cases f <;> first|(exact aJ h)|(cases args <;> (exact aJ h))
   | nil=>
    cases f with
    | Name x q=>
     replace h:(if lg Γ x then match Γ.fns.lookup x with|some k=>(cA (cE n Γ) args).map (E.own x k)|none=>if x==("isinstance" : JV)then(if Γ.blt.contains x then BN Γ (cE n Γ) args else gV)else match (generalizing:=false) BL x,args with|some b,a::as=>if Γ.blt.contains x then(cA (cE n Γ) (a::as)).map (E.bi b)else gV|_,_=>gV else gV)=ba e':=h
     split at h
     ·rename_i hg;split at h
      ·rename_i k hk;rw[Js]at h;obtain⟨r,hr,rfl⟩:=h;have g:=F3 (pos:=p) (p:=q) K hg hk hr (dg ihE hr);exact#[g,cx g λ_=>rfl]
      ·split at h
       ·rename_i his;split at h
        ·rename_i hc;obtain⟨g,a',c',rfl⟩:=F4 (pos:=p) (p:=q) K hg his hc ihE h;exact#[g,cx g λ_=>rfl]
        ·cases h
       ·split at h
        ·rename_i bb a as hb;split at h
         ·rename_i hc;rw[Js]at h;obtain⟨r,hr,rfl⟩:=h;have g:=HW (pos:=p) (p:=q) K hg hb hc hr (dg ihE hr);exact#[g,cx g λ_=>rfl]
         ·cases h
        ·cases h
     ·cases h
    | Attribute o m q=>
     cases args with
     | nil=>exact aJ h
     | cons a as=>
      replace h:(match BM m,cE n Γ o,cA (cE n Γ) (a::as)with|some m',ba o',ba es=>if gD o&&(q.endLine==p.line)&&decide ((a::as).length < 29)then ba (E.me m' o' es)else gV|_,_,_=>gV)=ba e':=h
      split at h
      ·rename_i m' o' es h1 h2 h3;split at h
       ·rename_i hc;rw[Jv,Jv,JL]at hc;cases h;have g:=HX K (cpos:=p) (apos:=q) h1 hc.1.1 hc.1.2 hc.2 (ihE h2) h3 (dg ihE h3);exact#[g,cx g λ_=>rfl]
       ·cases h
      ·cases h
    | _=>exact aJ h
  | Subscript a b p=>
   have plain:(match cE n Γ a,cE n Γ b with|some a',ba b'=>ba (E.ix a' b')|_,_=>gV)=ba e'->GE X (.Subscript a b p) (aB M e')/\GT X (.Subscript a b p) (c9 M e'):=λh=>by
    split at h
    ·rename_i a' b' h1 h2;cases h;have g:=FQ (pos:=p) hu10 (ihE h1) (ihE h2) (sA h2);exact#[g,cx g λ_=>rfl]
    ·cases h
   cases b with
   | Slice lo hi st q=>
    cases st with
    | none=>
     replace h:(match cE n Γ a,cP (cE n Γ) lo,cP (cE n Γ) hi with|some a',ba lo',ba hi'=>ba (E.sl a' lo' hi')|_,_,_=>gV)=ba e':=h
     split at h
     ·rename_i a' lo' hi' h1 h2 h3;cases h;have g:=FR (pos:=p) (p2:=q) (ihE h1) (yM ihE h2) (yM ihE h3);exact#[g,cx g λ_=>rfl]
     ·cases h
    | some z=>exact plain h
   | _=>exact plain h
  | Tuple es k p=>
   replace h:(cA (cE n Γ) es).map E.tup=ba e':=h;rw[Js]at h;obtain⟨r,h1,rfl⟩:=h;exact#[yi (dg ihE h1),cx (yi (dg ihE h1)) λ_=>rfl]
  | List es p=>
   replace h:(cA (cE n Γ) es).map E.lst=ba e':=h;rw[Js]at h;obtain⟨r,h1,rfl⟩:=h;exact#[yj (dg ihE h1),cx (yj (dg ihE h1)) λ_=>rfl]
  | Dict keys values p=>
   replace h:yG (cE n Γ) keys values=ba e':=h;unfold yG at h;split at h
   ·rename_i hc;cases h;rw[Jv]at hc;have k0:keys=[]:=Rp.mp hc.1;have v0:values=[]:=Rp.mp hc.2;subst k0 v0;exact#[Bz,kj]
   ·rename_i hc0;split at h
    ·rename_i hc;rw[Jv,Jv,JL,JL]at hc;rw[Js]at h;obtain⟨r,hr,rfl⟩:=h;have h0:keys≠[]:=λz=>by
      subst z;have v0:values=[]:=KS.mp hc.1.2.symm;subst v0;exact hc0 rfl
     exact#[BA (pos:=p) hu10 (uq ihE keys values hc.1.1 hc.1.2 hr) hc.1.1 hc.1.2 h0 hc.2,kj]
    ·cases h
  | ListComp elt gens scope p=>
   match gens,h with
   | [#[tg,iter,ifs,asy]],h=>
    replace h:(if (asy==0)&&(yF Γ scope&&decide (ifs.length<=1))then match cI Γ (cE n Γ) tg iter,cT (gX Γ scope) tg,cA (cE n (gX Γ scope)) ifs,cE n (gX Γ scope) elt with|some it,ba t,ba cs,ba el=>ba (E.comp el t it cs (gE Γ scope.names))|_,_,_,_=>gV else gV)=ba e':=h
    split at h
    ·rename_i hc;rw[Jv,Jv,JL]at hc;have e0:asy=0:=eq_of_beq hc.1;subst e0;replace hc:=hc.2;split at h
     ·rename_i it t cs el h1 h2 h3 h4;cases h;have sc:=ut hc.1;refine#[BC K.calm (sB K ihE h1) (λok=>#[_,mS K ok sc,?_]) (oz (n:=n) (λel k p=>by cases n <;> rfl) h1),kj]
      refine#[λC s0 H0 ex=>ur (ff K sc C s0 H0 ex) h2,λC s0 H0 ex J s Y H Q I q=>?_,λC s0 H0 ex=>(ih (ff K sc C s0 H0 ex) h4).1]
      exact qC hc.2 h3 (λz=>(ih (ff K sc C s0 H0 ex) z).2) rfl J s Y H Q I q
     ·cases h
    ·cases h
   | [],h=>exact aJ h
   | #[_,_,_,_]::_::_,h=>exact aJ h
  | _=>exact aJ h
end
noncomputable abbrev bJ:Jx:=30
abbrev Cw:J3->J6
 | .Constant (.str _) _ _=>true
 | _=>false
abbrev ju:J3->J6
 | .ListComp _ _ _ _=>true
 | _=>false
abbrev uw:J3->J6
 | .Slice _ _ _ _=>true
 | _=>false
abbrev uy (f:MK->Jw Sm)(ss:Jn MK):Jw Ss:=ss.foldr (λs acc=>match f s,acc with|some s',ba ss'=>ba (.cons s' ss')|_,_=>gV) (ba .nil)
abbrev D6 (Γ:Gam):Jn J3->J3->Jw Sm
 | [.Name x px,.Name y py],.Tuple [a,b] _ _=>match Γ.N.findIdx? (· == x),Γ.N.findIdx? (· == y),cA (cE bJ Γ) [a,b]with
  | some i,ba j,ba es=>if !(i==j)&&(Γ.sc.lookup x==ba .local)&&(Γ.sc.lookup y==ba .local)&&(py.line==px.line) && !([a,b].all (foldedForSure 8)) && !([a,b].all (constantsAlone 8))then ba (.par i j es)else gV
  | _,_,_=>gV
 | _,_=>gV
abbrev cS:Jx->Gam->MK->Jw Sm
 | 0,_,_=>gV
 | n+1,Γ,st=>match st with
  | .Assign [.Name x _] e _=>match de Γ x,cE bJ Γ e with
   | some i,ba e'=>ba (.set i e')
   | _,_=>gV
  | .Assign [.Tuple ts _ _] e _=>if isTup e then D6 Γ ts e else if ju e then gV else match EV Γ ts,cE bJ Γ e with
   | some is,ba e'=>ba (.asg is e')
   | _,_=>gV
  | .Assign [.Subscript o k _] e _=>if uw k then gV else match cE bJ Γ o,cE bJ Γ k,cE bJ Γ e with
   | some o',ba k',ba e'=>ba (.put o' k' e')
   | _,_,_=>gV
  | .Expr e _=>if Cw e then ba .pass else if ju e then gV else(cE bJ Γ e).map .ex
  | .Return (ba e) _=>(cE bJ Γ e).map .ret
  | .Pass _=>ba .pass
  | .If t a b _=>match cE bJ Γ t,uy (cS n Γ) a,uy (cS n Γ) b with
   | some t',ba a',ba b'=>ba (.ite t' a' b')
   | _,_,_=>gV
  | .While t b [] _=>match cE bJ Γ t,uy (cS n Γ) b with
   | some t',ba b'=>ba (.whl t' b')
   | _,_=>gV
  | .For tg it b [] _=>match cT Γ tg,cI Γ (cE bJ Γ) tg it,uy (cS n Γ) b with
   | some t,ba i,ba b'=>ba (.loop t i b')
   | _,_,_=>gV
  | _=>gV
section
variable{M:JV->FF}{X:Cx}{Γ:Gam}{fuel:Jx}
def yN {f:MK->Jw Sm}{s:MK}{ss:Jn MK}{r:Ss}(h:uy f (s::ss)=ba r):∃s' ss',f s=ba s'/\uy f ss=ba ss'/\r=.cons s' ss':=by
 simp only[uy,RH]at h;split at h
 ·rename_i e' es' h1 h2;cases h;exact#[e',es',h1,h2,rfl]
 ·cases h
def gF {n:Jx}(ih:∀ {st:MK} {s':Sm},cS n Γ st=ba s'->GS X st (gb M fuel s')):∀ {ss:Jn MK} {r:Ss},uy (cS n Γ) ss=ba r->GSs X ss (gf M fuel r)
 | [],r,h=>by cases h; exact Bj
 | s::ss,r,h=>by
  obtain⟨s',ss',h1,h2,rfl⟩:=yN h;exact yk (ih h1) (gF ih h2)
def ln {e:J3}{t:Jw J3}{l:Jx}{env:QF}(h:ju e=false)(n:Jx){Γ:Gam}{e':E}(hc:cE n Γ e=ba e'):swapsWith e t l env=pure false:=by
 cases n with
 | zero=>cases hc
 | succ n=>cases e <;> first|(exfalso; exact aJ hc)|rfl|cases h
def sC (K:CtxOk M X Γ){n:Jx}{elt:J3}{gens:Jn Comprehension}{scope:M7}{p:Mo}{e':E}(h:cE (n+1) Γ (.ListComp elt gens scope p)=ba e') :
  ∃tg iter ifs fi g c f cap,gens=[#[tg,iter,ifs,0]]/\aB M e'=lb fi g c f cap/\GI X tg iter fi/\(X.Ok->∃cl,CompOk X scope cl (gW scope.names) cap/\BlockOk X scope cl (gW scope.names) tg elt ifs g c f)/\∀x,foldedSetIterable iter X.env x=pure x:=by
 match gens,h with
 | [#[tg,iter,ifs,asy]],h=>
  replace h:(if (asy==0)&&(yF Γ scope&&decide (ifs.length<=1))then match cI Γ (cE n Γ) tg iter,cT (gX Γ scope) tg,cA (cE n (gX Γ scope)) ifs,cE n (gX Γ scope) elt with|some it,ba t,ba cs,ba el=>ba (E.comp el t it cs (gE Γ scope.names))|_,_,_,_=>gV else gV)=ba e':=h
  split at h
  ·rename_i hc;rw[Jv,Jv,JL]at hc;have e0:asy=0:=eq_of_beq hc.1;subst e0;replace hc:=hc.2;split at h
   ·rename_i it t cs el h1 h2 h3 h4;cases h;have sc:=ut hc.1;refine#[tg,iter,ifs,_,_,_,_,_,rfl,rfl,sB K (λz=>(bI n K z).1) h1,λok=>#[_,mS K ok sc,?_],oz (n:=n) (λel k p=>by cases n <;> rfl) h1]
    refine#[λC s0 H0 ex=>ur (ff K sc C s0 H0 ex) h2,λC s0 H0 ex J s Y H Q I q=>?_,λC s0 H0 ex=>(bI n (ff K sc C s0 H0 ex) h4).1]
    exact qC hc.2 h3 (λz=>(bI n (ff K sc C s0 H0 ex) z).2) rfl J s Y H Q I q
   ·cases h
  ·cases h
 | [],h=>exact aJ h
 | #[_,_,_,_]::_::_,h=>exact aJ h
def F5 (K:CtxOk M X Γ){x:JV}{px pos:Mo}{e:J3}{i:Jx}{e':E}(hi:de Γ x=ba i)(he:cE bJ Γ e=ba e'):GS X (.Assign [.Name x px] e pos) (la (aB M e') (Bp i)):=by
 obtain⟨a,b,c⟩:=oE K hi;have hN:X.N.Nodup:=by rw[K.N]; exact K.nd
 have plain:swapsWith e (ba (.Name x px)) pos.line X.env=pure false->GS X (.Assign [.Name x px] e pos) (la (aB M e') (Bp i)):=λhs=>sr (bI _ K he).1 (ud hN a b c) hs (by cases e <;> rfl) rfl
 cases hc:ju e with
 | false=>exact plain (ln hc _ he)
 | true=>
  cases e with
  | ListComp elt gens scope p=>
   cases hsw:(X.env.blockKind==.function&&X.env.kindOf x==ba .local&&px.line==p.line && !(scope.names.any λ(n,k)=>n==x&&(k==.local||k==.cell)))with
   | false=>
    refine plain ?_;show(pure (X.env.blockKind==.function&&X.env.kindOf x==ba .local&&px.line==p.line && !(scope.names.any λ(n,k)=>n==x&&(k==.local||k==.cell))):Td J6)=pure false
    rw[hsw]
   | true=>
    have hsw':swapsWith (.ListComp elt gens scope p) (ba (.Name x px)) pos.line X.env=pure true:=by
     show(pure (X.env.blockKind==.function&&X.env.kindOf x==ba .local&&px.line==p.line && !(scope.names.any λ(n,k)=>n==x&&(k==.local||k==.cell))):Td J6)=pure true
     rw[hsw]
    rw[Jv,Jv,Jv]at hsw;have hl:X.env.scope.names.lookup x=ba .local:=eq_of_beq hsw.1.1.2;obtain⟨tg,iter,ifs,fi,g,c',f,cap,rfl,e2,gi,hck,hs⟩:=sC K he;rw[e2];exact sx K.calm gi hck hs hsw' hN a hl
  | _=>cases hc
def qD (K:CtxOk M X Γ){x y:JV}{px py pt pt2:Mo}{kt k2:Jx}{a b:J3}(hxy:x≠y)(hx:Γ.sc.lookup x=ba .local)(hy:Γ.sc.lookup y=ba .local)(hl:(py.line==px.line)=true)(h1:[a,b].all (foldedForSure 8)=false)(h2:[a,b].all (constantsAlone 8)=false)(hs:im a=true)(hs2:im b=true) :
  swappedStores [.Tuple [.Name x px,.Name y py] kt pt] (.Tuple [a,b] k2 pt2) X.env=pure (ba [x,y]):=by
 have kx:(X.env.kindOf x==ba .local)=true:=by unfold Pj; rw[K.names,hx]; rfl
 have ky:(X.env.kindOf y==ba .local)=true:=by unfold Pj; rw[K.names,hy]; rfl
 have bk:(X.env.blockKind != .function)=false:=by
  unfold Env.blockKind;rw[K.kind];rfl
 have hp:(px.line==px.line)=true:=by simp
 have ed:([x,y].eraseDups.length != [x,y].length)=false:=by
  have:(y==x)=false:=by simpa using Ne.symm hxy
  simp[Qd,this]
 have kx':X.env.kindOf x=ba .local:=eq_of_beq kx;have ky':X.env.kindOf y=ba .local:=eq_of_beq ky;have hl':py.line=px.line:=eq_of_beq hl;have bk':X.env.blockKind=.function:=by simpa using bk
 have yx:(y==x)=false:=by simpa using Ne.symm hxy
 have h1':(foldedForSure 8 a&&foldedForSure 8 b)=false:=by simpa using h1
 have h2':(constantsAlone 8 a&&constantsAlone 8 b)=false:=by simpa using h2
 unfold swappedStores;simp only[Ml,List.any_nil,Qi,Nt,List.filterMap_nil,kx',ky',bk',List.head?_cons,Kv,Ro,J9,LV,KJ,List.all_nil,Ny,h1',h2'];refine Eq.trans (Kb ?_) (Eq.trans (Kb ?_) ?_)
 ·decide
 ·rw[LF];rintro(hh|hh)
  ·clear h1 h2 h1' h2';cases a <;> first|(cases hh; done)|(cases hs; done)
  ·clear h1 h2 h1' h2';cases b <;> first|(cases hh; done)|(cases hs2; done)
 ·dsimp only[Expr.pos]; simp[hl',yx,Qd]
def BO (fuel:Jx)(K:CtxOk M X Γ):∀(n:Jx) {st:MK} {s':Sm},cS n Γ st=ba s'->GS X st (gb M fuel s'):=by
 have hN:X.N.Nodup:=by rw[K.N]; exact K.nd
 have own:P9 (model X.prog X.w) X.A X.env X.xe:=by rw[K.xe]; exact TV
 intro n
 induction n with
 | zero=>intro st s' h; cases h
 | succ n ih=>
  intro st s' h;cases st with
  | Expr e p=>
   replace h:(if Cw e then ba Sm.pass else if ju e then gV else(cE bJ Γ e).map Sm.ex)=ba s':=h
   split at h
   ·rename_i hd;cases h;cases e with
    | Constant c k q=>
     cases c with
     | str x=>exact DT
     | _=>cases hd
    | _=>cases hd
   ·split at h
    ·cases h
    ·rename_i hd hc;rw[Js]at h;obtain⟨e',h1,rfl⟩:=h;exact FU (bI _ K h1).1 (ln (by simpa using hc) _ h1)
  | Return o p=>
   cases o with
   | none=>cases h
   | some e=>
    replace h:(cE bJ Γ e).map Sm.ret=ba s':=h;rw[Js]at h;obtain⟨e',h1,rfl⟩:=h;exact DU (bI _ K h1).1
  | Pass p=>cases h; exact Bm
  | If t a b p=>
   replace h:(match cE bJ Γ t,uy (cS n Γ) a,uy (cS n Γ) b with|some t',ba a',ba b'=>ba (Sm.ite t' a' b')|_,_,_=>gV)=ba s':=h
   split at h
   ·rename_i t' a' b' h1 h2 h3;cases h;exact FV (bI _ K h1).2 (gF ih h2) (gF ih h3)
   ·cases h
  | While t b o p=>
   cases o with
   | cons _ _=>exact aJ h
   | nil=>
    replace h:(match cE bJ Γ t,uy (cS n Γ) b with|some t',ba b'=>ba (Sm.whl t' b')|_,_=>gV)=ba s':=h
    split at h
    ·rename_i t' b' h1 h2;cases h;exact yn fuel own (bI _ K h1).2 (gF ih h2)
    ·cases h
  | For tg it b o p=>
   cases o with
   | cons _ _=>exact aJ h
   | nil=>
    replace h:(match cT Γ tg,cI Γ (cE bJ Γ) tg it,uy (cS n Γ) b with|some t,ba i,ba b'=>ba (Sm.loop t i b')|_,_,_=>gV)=ba s':=h
    split at h
    ·rename_i t i b' h1 h2 h3;cases h;exact D0 own K.calm (sB K (λz=>(bI _ K z).1) h2) (ur K h1) (gF ih h3) (oz (n:=bJ) (λel k p=>rfl) h2)
    ·cases h
  | Assign ts e p=>
   match ts,h with
   | [],h=>exact aJ h
   | a::_::_,h=>cases a <;> exact aJ h
   | [t],h=>
    cases t with
    | Name x px=>
     replace h:(match de Γ x,cE bJ Γ e with|some i,ba e'=>ba (Sm.set i e')|_,_=>gV)=ba s':=h
     split at h
     ·rename_i i e' h1 h2;cases h;exact F5 K h1 h2
     ·cases h
    | Subscript o k q=>
     replace h:(if uw k then gV else match cE bJ Γ o,cE bJ Γ k,cE bJ Γ e with|some o',ba k',ba e'=>ba (Sm.put o' k' e')|_,_,_=>gV)=ba s':=h
     split at h
     ·cases h
     ·rename_i hc;split at h
      ·rename_i o' k' e' h1 h2 h3;cases h;refine sr (bI _ K h3).1 (DX (by have:=K.un; have:hZ=20:=rfl; omega) (bI _ K h1).1 (bI _ K h2).1 ?_) (by cases e <;> rfl) (by cases e <;> rfl) rfl
       intro v;cases k <;> first|rfl|exact absurd rfl hc
      ·cases h
    | Tuple ts' k q=>
     have par:∀ {x y:JV} {px py:Mo} {a b:PySem.Expr} {k2:Jx} {q2:Mo},(match Γ.N.findIdx? (· == x),Γ.N.findIdx? (· == y),cA (cE bJ Γ) [a,b]with
       | some i,ba j,ba es=>if !(i==j)&&(Γ.sc.lookup x==ba .local)&&(Γ.sc.lookup y==ba .local)&&(py.line==px.line) && !([a,b].all (foldedForSure 8)) && !([a,b].all (constantsAlone 8))then ba (Sm.par i j es)else gV
       | _,_,_=>gV)=ba s'->GS X (.Assign [.Tuple [.Name x px,.Name y py] k q] (.Tuple [a,b] k2 q2) p) (gb M fuel s'):=λ{x y px py a b k2 q2} h=>by
      split at h
      ·rename_i i j es h1 h2 h3;split at h
       ·rename_i hc;cases h;rw[Jv,Jv,Jv,Jv,Jv]at hc;obtain⟨⟨⟨⟨⟨c1,c2⟩,c3⟩,c4⟩,c5⟩,c6⟩:=hc;have hij:i≠j:=by simpa using c1
        have ns:=bU h3;rw[KJ,KJ,Jv,Jv]at ns;have hi:X.N[i]?=ba x:=by rw[K.N]; exact dw h1
        have hj:X.N[j]?=ba y:=by rw[K.N]; exact dw h2
        refine DY K.calm hN hi hj hij (by rw[K.names]; exact eq_of_beq c2) (by rw[K.names]; exact eq_of_beq c3) (dg (λz=>(bI _ K z).1) h3) (qD K ?_ (eq_of_beq c2) (eq_of_beq c3) c4 (by rw[<- M8]; exact c5) (by rw[<- M8]; exact c6) ns.1 ns.2.1) rfl
        rintro rfl;rw[h1]at h2;cases h2;exact hij rfl
       ·cases h
      ·cases h
     replace h:(if isTup e then D6 Γ ts' e else if ju e then gV else match EV Γ ts',cE bJ Γ e with|some is,ba e'=>ba (Sm.asg is e')|_,_=>gV)=ba s':=h
     split at h
     ·unfold D6 at h;split at h
      ·exact par h
      ·cases h
     ·split at h
      ·cases h
      ·rename_i hc1 hc2;split at h
       ·rename_i is e' h1 h2;cases h;refine sr (bI _ K h2).1 (ur (tg:=.Tuple ts' k q) (t:=.tp is) K (by simp[cT,h1])) (ln (t:=ba (.Tuple ts' k q)) (l:=p.line) (env:=X.env) (by simpa using hc2) _ h2) ?_ rfl
        cases e <;> first|rfl|exact absurd rfl hc1
       ·cases h
    | _=>exact aJ h
  | _=>exact aJ h
end
structure Df where
 ps:Jn JV
 N:Jn JV
 body:Ss
abbrev fK (N:Jn JV)(ws:Jn W):Fm:=ws.map ba++Ks (N.length - ws.length) gV
abbrev am (defs:Jn (JV×Df))(fuel:Jx):Jx->JV->FF
 | 0,_,_,_=>gV
 | d+1,f,ws,S=>match defs.lookup f with
  | some df=>if ws.length=df.ps.length then match gf (am defs fuel d) fuel df.body (fK df.N ws) S with
    | some (.rt w,S')=>ba (w,S')
    | some (.nx _,S')=>ba (.non,S')
    | _=>gV
   else gV
  | none=>gV
structure Md where
 fns:Jn (JV×Jx)
 blt:Jn JV
abbrev yO (tv:Md)(st:MK)(N:Jn JV):Gam:={ sc:=(aS st).names,N:=N,fns:=tv.fns,blt:=tv.blt,dfn:=true }
abbrev F6 (tv:Md)(st:MK)(df:Df):Prop:=uy (cS 20 (yO tv st df.N)) (ci st)=ba df.body
def mT {K:JH}{A:Jn JA}{H:Hp}{ws:Jn W}{vs:Jn V}{N:Jn JV}(r:RelL K A H ws vs):EnvRel K A H (fK N ws) (fU N vs):=by
 refine#[by simp[fK,L2.fU,r.length],λi w h=>?_]
 unfold fK at h;unfold L2.fU
 by_cases hi:i < ws.length
 ·rw[Ku (by simpa using hi),Jy]at h
  rw[Ku (by rw[Jp,<- r.length]; exact hi),Jy]
  cases q:ws[i]? with
  | none=>rw[q]at h; cases h
  | some w'=>
   rw[q]at h;simp only[Kv,Kf]at h;subst h;obtain⟨v,h1,h2⟩:=r.get q;exact#[v,by rw[h1]; rfl,h2]
 ·rw[LP (by simpa using hi)]at h
  have:=JG h;simp at this
section
variable{P:Kh}{w:Km}{K:JH}{mg:JV->Jw Jr}{base:Kw}
abbrev Cy (P:Kh)(w:Km)(K:JH)(mg:JV->Jw Jr)(base:Kw)(tv:Md)(defs:Jn (JV×Df))(fuel d:Jx):Prop:=
 ∀f n,tv.fns.lookup f=ba n->∃fa fd ps,FnOk P w K mg base wz d fa fd ps (spF w K n (am defs fuel d f))/\mg f=ba (.ref fa)/\Lf K (.ref fa)=true/\Binds K fd ps []
structure MdOk (w:Km)(K:JH)(mg:JV->Jw Jr)(tv:Md):Prop where
 blt:∀y∈tv.blt,mg y=gV
def Cz {tv:Md}{defs:Jn (JV×Df)}{fuel d:Jx}{x qual:JV}{st:MK}{f:JA}{fd:Mp}{df:Df}(F:Fun K x qual st f fd)(S:FnScope df.N df.ps (aS st))(hd:defs.lookup x=ba df)(hc:F6 tv st df)
  (hb:MdOk w K mg tv) (prev:Cy P w K mg base tv defs fuel d):FnOk P w K mg base wz (d+1) f fd df.ps (spF w K df.ps.length (am defs fuel (d+1) x)):=by
 refine F.ok S (λvs H Q E h=>?_) (λcdv A outer s H vs Q E hr h=>?_)
 ·obtain⟨A,S,ws,w',S',_,rl,hl,_⟩:=h;rw[<- rl.length]; exact hl
 ·obtain⟨A',St,ws,w',S',so,rl,hl,e,hq⟩:=h;have K':CtxOk (am defs fuel d) (rJ wz P w K mg base df.N qual (aS st) f cdv A outer s H E).nox (yO tv st df.N):=by
   refine#[rfl,S.kind,rfl,S.nd,rfl,rfl,?_,λ_ _=>rfl,hb.blt,λg n hg=>?_]
   ·have:=hr.un;show(A.deeper _).units+20 < cLine;omega
   ·obtain⟨fa,fd',ps',h1,h2,h3,h4⟩:=prev g n hg;exact#[d,fa,fd',ps',h1,hr,h2,h3,h4]
  refine#[tS _ (gf (am defs fuel d) fuel df.body),gF (λz=>BO fuel K' 20 z) hc,?_]
  simp only[am,hd]at e;rw[JZ hl]at e;split at e
  ·rename_i w1 S1 h1;cases e;refine#[A',fK df.N ws,St,_,_,mT rl,so,h1,#[λY' H' #[_,_,z,_,_,_]=>(by cases z),λv H' #[w2,A2,z0,z1,z2,z3]=>?_,λY' H' #[_,_,z,_,_,_]=>(by cases z),λY' H' #[_,_,z,_,_,_]=>(by cases z)]]
   cases z0;exact hq v H' #[A2,z1,z2,z3]
  ·rename_i Z1 S1 h1;cases e;refine#[A',fK df.N ws,St,_,_,mT rl,so,h1,#[λY' H' #[w2,A2,z0,z1,z2,z3]=>?_,λY' H' #[_,_,z,_,_,_]=>(by cases z),λY' H' #[_,_,z,_,_,_]=>(by cases z),λY' H' #[_,_,z,_,_,_]=>(by cases z)]]
   exact hq _ H' #[A2,z1,z2,.non]
  ·cases e
def vY {H:Hp}{a:JA}{ns:Jn JI}(hO:xm H)(hS:SqL K H a (ns.map V.int)):StoreOk w K [a] H [.fro (ns.map W.int)]/\RelL K [a] H [.ref 0] [.ref a]:=by
 have rl:∀ns:Jn JI,RelL K [a] H (ns.map W.int) (ns.map V.int):=by
  intro ns
  induction ns with
  | nil=>exact .nil
  | cons n ns ih=>exact .cons .int ih
 have fr:FroL K H a (ns.map V.int):=by
  rcases hS with(h|⟨o,h⟩)|h
  ·rcases hO a with z|⟨o,xs,z⟩ <;> (rw[z]at h; cases h)
  ·exact .inl #[o,h]
  ·exact .inr h
 refine#[#[rfl,λi j b o u e1 m1 e2 m2 _ _=>?_,λi o b e1 e2=>?_],.cons (.ref rfl) .nil]
 ·cases i with
  | zero=>simp at e1; subst e1; cases m1
  | succ i=>simp at e1
 ·cases i with
  | zero=>
   simp at e1 e2;subst e1 e2;exact#[_,fr,rl ns]
  | succ i=>simp at e1
def D7 {g:FF}{H:Hp}{a:JA}{ns:Jn JI}(h:∃S',g [.ref 0] [.fro (ns.map W.int)]=ba (.bl true,S'))(hO:xm H)(hS:SqL K H a (ns.map V.int)):spF w K 1 g [.ref a] H (λv _=>v=.bl true) λ_ _ _=>K5:=by
 obtain⟨S',e⟩:=h;obtain⟨so,rl⟩:=vY hO hS;exact#[[a],_,_,_,S',so,rl,rfl,e,λv H' #[A',z1,z2,z3]=>by cases z3; rfl]
end
abbrev Wp {α:Type}(o:Jw α)(Q:α->Prop):Prop:=∃a,o=ba a/\Q a
def ab {α:Type}{a:α}{Q:α->Prop}:Wp (ba a) Q↔Q a:=#[λ#[b,e,h]=>(by cases e; exact h),λh=>#[a,rfl,h]]
def ae {α:Type}{Q:α->Prop}:Wp (gV:Jw α) Q↔K5:=#[λ#[b,e,h]=>(by cases e),λh=>h.elim]
def Wp.mono {α:Type}{o:Jw α}{Q Q':α->Prop}(h:Wp o Q)(k:∀a,Q a->Q' a):Wp o Q':=let ⟨a,e,q⟩:=h; #[a,e,k a q]
section
variable{M:JV->FF}{fuel:Jx}{Z:Fm}{S:aa}
noncomputable abbrev QW:=W×aa->Prop
def Ji {w:W}{Q:QW}:Wp (aB M (.c w) Z S) Q↔Q (w,S):=by(dsimp only[aB]; simp[fC,ab,ae])
def IU {i:Jx}{Q:QW}:Wp (aB M (.v i) Z S) Q↔∃w,Z[i]?=ba (ba w)/\Q (w,S):=by
 (dsimp only[aB]; simp only[fV])
 rcases h:Z[i]? with _|_|w <;> simp[ab,ae]
def yP {g:W->W->aa->Jw (W×aa)}{a b:FE}{Q:QW}:Wp (AZ g a b Z S) Q↔Wp (a Z S) λp=>Wp (b Z p.2) λq=>Wp (g p.1 q.1 q.2) Q:=by
 unfold AZ;rcases h:a Z S with _|⟨x,S1⟩
 ·simp[ab,ae]
 ·rcases h2:b Z S1 with _|⟨y,S2⟩ <;> simp[ab,ae,h2]
def HY {o:BOp}{a b:E}{Q:QW}:Wp (aB M (.op o a b) Z S) Q↔Wp (aB M a Z S) λp=>Wp (aB M b Z p.2) λq=>Wp (fI o p.1 q.1 q.2) Q:=by dsimp only[aB]; exact yP
def CA {o:COp}{a b:E}{Q:QW}:Wp (aB M (.cmp o a b) Z S) Q↔Wp (aB M a Z S) λp=>Wp (aB M b Z p.2) λq=>Wp (cZ o p.1 q.1 q.2) Q:=by dsimp only[aB]; exact yP
def HZ {a b:E}{Q:QW}:Wp (aB M (.ix a b) Z S) Q↔Wp (aB M a Z S) λp=>Wp (aB M b Z p.2) λq=>Wp (nY p.1 q.1 q.2) Q:=by dsimp only[aB]; exact yP
def F7 {a b:E}{Q:QW}:Wp (aB M (.and a b) Z S) Q↔Wp (aB M a Z S) λp=>∃k,p.1=.bl k/\(k=true->Wp (aB M b Z p.2) Q)/\(k=false->Q (.bl false,p.2)):=by
 (dsimp only[aB]; simp only[t4])
 rcases h:aB M a Z S with _|⟨x,S1⟩
 ·simp[ab,ae]
 ·cases x <;> simp[ab,ae]
  rename_i b; cases b <;> simp[ab,ae]
def Ic {a b:E}{Q:QW}:Wp (aB M (.or a b) Z S) Q↔Wp (aB M a Z S) λp=>∃k,p.1=.bl k/\(k=true->Q (.bl true,p.2))/\(k=false->Wp (aB M b Z p.2) Q):=by
 (dsimp only[aB]; simp only[Bc])
 rcases h:aB M a Z S with _|⟨x,S1⟩
 ·simp[ab,ae]
 ·cases x <;> simp[ab,ae]
  rename_i b; cases b <;> simp[ab,ae]
def F8 {a:E}{Q:QW}:Wp (aB M (.not a) Z S) Q↔Wp (aB M a Z S) λp=>∃k,p.1=.bl k/\Q (.bl (!k),p.2):=by
 (dsimp only[aB]; simp only[t8])
 rcases h:aB M a Z S with _|⟨x,S1⟩
 ·simp[ab,ae]
 ·cases x <;> simp[ab,ae]
  rename_i k; cases k <;> simp
def F9 {t a b:E}{Q:QW}:Wp (aB M (.ite t a b) Z S) Q↔Wp (c9 M t Z S) λp=>(p.1=true->Wp (aB M a Z p.2) Q)/\(p.1=false->Wp (aB M b Z p.2) Q):=by
 (dsimp only[aB]; simp only[Bd])
 rcases h:c9 M t Z S with _|⟨x,S1⟩
 ·simp[ab,ae]
 ·cases x <;> simp[ab,ae]
def CB {f:JV}{n:Jx}{es:Es}{Q:QW}:Wp (aB M (.own f n es) Z S) Q↔Wp (cY M es Z S) λp=>p.1.length=n/\Wp (M f p.1 p.2) Q:=by
 (dsimp only[aB]; simp only[qk])
 rcases h:cY M es Z S with _|⟨x,S1⟩
 ·simp[ab,ae]
 ·by_cases hl:x.length=n <;> simp[ab,ae,hl]
def Ga {b:Bi}{es:Es}{Q:QW}:Wp (aB M (.bi b es) Z S) Q↔Wp (cY M es Z S) λp=>Wp (b.fn p.1 p.2) Q:=by
 (dsimp only[aB]; simp only[jR])
 rcases h:cY M es Z S with _|⟨x,S1⟩ <;> simp[ab,ae]
def Ig {m:Me}{o:E}{es:Es}{Q:QW}:Wp (aB M (.me m o es) Z S) Q↔Wp (aB M o Z S) λp=>tyOk m.ty p.2 p.1=true/\Wp (cY M es Z p.2) λq=>Wp (m.fn p.1 q.1 q.2) Q:=by
 (dsimp only[aB]; simp only[ET])
 rcases h:aB M o Z S with _|⟨x,S1⟩
 ·simp[ab,ae]
 ·by_cases ht:tyOk m.ty S1 x=true
  ·rcases h2:cY M es Z S1 with _|⟨y,S2⟩ <;> simp[ab,ae,ht,h2]
  ·simp[ab,ae,ht]
def Ih {a:E}{lo hi:Ep}{Q:QW}:Wp (aB M (.sl a lo hi) Z S) Q↔Wp (aB M a Z S) λp=>Wp (uh M lo Z p.2) λq=>Wp (uh M hi Z q.2) λr=>Wp (rQ p.1 q.1 r.1 r.2) Q:=by
 (dsimp only[aB]; simp only[FP])
 rcases h:aB M a Z S with _|⟨x,S1⟩
 ·simp[ab,ae]
 ·rcases h2:uh M lo Z S1 with _|⟨y,S2⟩
  ·simp[ab,ae,h2]
  ·rcases h3:uh M hi Z S2 with _|⟨z,S3⟩ <;> simp[ab,ae,h2,h3]
def Ii {Q:Jw JI×aa->Prop}:Wp (uh M .no Z S) Q↔Q (gV,S):=by(dsimp only[uh]; simp[DR,ab,ae])
def Gb {a:E}{Q:Jw JI×aa->Prop}:Wp (uh M (.yes a) Z S) Q↔Wp (aB M a Z S) λp=>∃i,p.1=.int i/\Q (ba i,p.2):=by
 (dsimp only[uh]; simp only[t9])
 rcases h:aB M a Z S with _|⟨x,S1⟩
 ·simp[ab,ae]
 ·cases x <;> simp[ab,ae]
def Gc {es:Es}{Q:QW}:Wp (aB M (.tup es) Z S) Q↔Wp (cY M es Z S) λp=>p.1.length<=sizeLine/\Q (.tup p.1,p.2):=by
 (dsimp only[aB]; simp only[yg,rO])
 rcases h:cY M es Z S with _|⟨x,S1⟩
 ·simp[ab,ae]
 ·by_cases hl:x.length<=sizeLine <;> simp[ab,ae,hl]
def Gd {es:Es}{Q:QW}:Wp (aB M (.lst es) Z S) Q↔Wp (cY M es Z S) λp=>p.1.length<=sizeLine/\Q (.ref p.2.length,p.2++[.lst p.1]):=by
 (dsimp only[aB]; simp only[yh,lV])
 rcases h:cY M es Z S with _|⟨x,S1⟩
 ·simp[ab,ae]
 ·by_cases hl:x.length<=sizeLine <;> simp[ab,ae,hl]
def CC {c:Lc}{a:E}{Q:QW}:Wp (aB M (.isi c a) Z S) Q↔Wp (aB M a Z S) λp=>∃k,yp p.2 p.1 c=ba k/\Q (.bl k,p.2):=by
 (dsimp only[aB]; simp only[yr])
 rcases h:aB M a Z S with _|⟨x,S1⟩
 ·simp[ab,ae]
 ·cases h2:yp S1 x c <;> simp[ab,ae,h2]
  rename_i k; cases k <;> simp
def Ge {a:E}{Q:QW}:Wp (aB M (.neg a) Z S) Q↔Wp (aB M a Z S) λp=>∃i,p.1=.int i/\Q (.int (-i),p.2):=by
 (dsimp only[aB]; simp only[yb])
 rcases h:aB M a Z S with _|⟨x,S1⟩
 ·simp[ab,ae]
 ·cases x <;> simp[ab,ae]
def D8 {es:Es}{Q:QW}:Wp (aB M (.disp es) Z S) Q↔Wp (cY M es Z (S++[.dic []])) λp=>p.2[S.length]?=ba (.dic [])/\∃U,dC [] p.1=ba U/\Q (.ref S.length,p.2.set S.length (.dic U)):=by
 have e:aB M (.disp es) Z S=qo (cY M es) Z S:=by dsimp only[aB]
 rw[e];unfold qo;cases cY M es Z (S++[.dic []])with
 | none=>simp[ae]
 | some p=>
  obtain⟨x,S1⟩:=p;simp only[ab];cases h2:S1[S.length]? with
  | none=>simp[ae]
  | some o=>
   cases o with
   | lst _=>simp[ae]
   | fro _=>simp[ae]
   | frd _=>simp[ae]
   | stt _=>simp[ae]
   | rng _ _=>simp[ae]
   | dic U=>
    cases U with
    | nil=>cases h3:dC [] x <;> simp[ab,ae]
    | cons a b=>simp[ae]
def Gf {Q:Jn W×aa->Prop}:Wp (cY M .nil Z S) Q↔Q ([],S):=by(dsimp only[cY]; simp[iW,ab,ae])
def D9 {e:E}{es:Es}{Q:Jn W×aa->Prop}:Wp (cY M (.cons e es) Z S) Q↔Wp (aB M e Z S) λp=>Wp (cY M es Z p.2) λq=>Q (p.1::q.1,q.2):=by
 (dsimp only[cY]; simp only[dF])
 rcases h:aB M e Z S with _|⟨x,S1⟩
 ·simp[ab,ae]
 ·rcases h2:cY M es Z S1 with _|⟨y,S2⟩ <;> simp[ab,ae,h2]
noncomputable abbrev QB:=J6×aa->Prop
def Gg {f:FE}{Q:QB}:Wp (yd f Z S) Q↔Wp (f Z S) λp=>∃k,p.1=.bl k/\Q (k,p.2):=by
 unfold yd;rcases h:f Z S with _|⟨x,S1⟩
 ·simp[ab,ae]
 ·cases x <;> simp[ab,ae]
  rename_i k; cases k <;> simp
def uz {f:FE}{Q:QB}:Wp (gO f Z S) Q↔Wp (f Z S) λp=>∃k,gM p.2 p.1=ba k/\Q (k,p.2):=by
 unfold gO;rcases h:f Z S with _|⟨x,S1⟩
 ·simp[ab,ae]
 ·cases h2:gM S1 x <;> simp[ab,ae,h2]
  rename_i k; cases k <;> simp
def Gh {o:COp}{a b:E}{Q:QB}:Wp (c9 M (.cmp o a b) Z S) Q↔Wp (aB M (.cmp o a b) Z S) λp=>∃k,p.1=.bl k/\Q (k,p.2):=by dsimp only[c9,aB]; exact Gg
def Gi {a b:E}{Q:QB}:Wp (c9 M (.and a b) Z S) Q↔Wp (c9 M a Z S) λp=>(p.1=true->Wp (c9 M b Z p.2) Q)/\(p.1=false->Q (false,p.2)):=by
 (dsimp only[c9]; simp only[ye])
 rcases h:c9 M a Z S with _|⟨x,S1⟩
 ·simp[ab,ae]
 ·cases x <;> simp[ab,ae]
def Ij {a b:E}{Q:QB}:Wp (c9 M (.or a b) Z S) Q↔Wp (c9 M a Z S) λp=>(p.1=true->Q (true,p.2))/\(p.1=false->Wp (c9 M b Z p.2) Q):=by
 (dsimp only[c9]; simp only[FL])
 rcases h:c9 M a Z S with _|⟨x,S1⟩
 ·simp[ab,ae]
 ·cases x <;> simp[ab,ae]
def Gj {a:E}{Q:QB}:Wp (c9 M (.not a) Z S) Q↔Wp (c9 M a Z S) λp=>Q (!p.1,p.2):=by
 (dsimp only[c9]; simp only[A7])
 rcases h:c9 M a Z S with _|⟨x,S1⟩ <;> simp[ab,ae]
def Jj {i:Jx}{Q:QB}:Wp (c9 M (.v i) Z S) Q↔Wp (aB M (.v i) Z S) λp=>∃k,gM p.2 p.1=ba k/\Q (k,p.2):=by dsimp only[c9,aB]; exact uz
def Gk {f:JV}{n:Jx}{es:Es}{Q:QB}:Wp (c9 M (.own f n es) Z S) Q↔Wp (aB M (.own f n es) Z S) λp=>∃k,gM p.2 p.1=ba k/\Q (k,p.2):=by dsimp only[c9,aB]; exact uz
def Ik {b:Bi}{es:Es}{Q:QB}:Wp (c9 M (.bi b es) Z S) Q↔Wp (aB M (.bi b es) Z S) λp=>∃k,gM p.2 p.1=ba k/\Q (k,p.2):=by dsimp only[c9,aB]; exact uz
def Gm {c:Lc}{a:E}{Q:QB}:Wp (c9 M (.isi c a) Z S) Q↔Wp (aB M (.isi c a) Z S) λp=>∃k,gM p.2 p.1=ba k/\Q (k,p.2):=by dsimp only[c9,aB]; exact uz
noncomputable abbrev QO:=Out×aa->Prop
def Gn {Q:QO}:Wp (gf M fuel .nil Z S) Q↔Q (.nx Z,S):=by(dsimp only[gf]; simp[ab,ae])
def Ea {s:Sm}{ss:Ss}{Q:QO}:Wp (gf M fuel (.cons s ss) Z S) Q↔Wp (gb M fuel s Z S) λp=>(∀Z',p.1=.nx Z'->Wp (gf M fuel ss Z' p.2) Q)/\((∀Z',p.1≠.nx Z')->Q p):=by
 (dsimp only[gf]; simp only[Bk])
 rcases h:gb M fuel s Z S with _|⟨o,S1⟩
 ·simp[ab,ae]
 ·cases o <;> simp[ab,ae]
def yQ {f:FE}{g:FG}{Q:QO}:Wp (la f g Z S) Q↔Wp (f Z S) λp=>Wp (g p.1 Z p.2) λq=>Q (.nx q.1,q.2):=by
 unfold la;rcases h:f Z S with _|⟨x,S1⟩
 ·simp[ab,ae]
 ·rcases h2:g x Z S1 with _|⟨y,S2⟩ <;> simp[ab,ae,h2]
def Eb {i:Jx}{e:E}{Q:QO}:Wp (gb M fuel (.set i e) Z S) Q↔Wp (aB M e Z S) λp=>Q (.nx (Z.set i (ba p.1)),p.2):=by
 dsimp only[gb]; rw[yQ]; simp[Bp,ab,ae]
def Ec {is:Jn Jx}{e:E}{Q:QO}:Wp (gb M fuel (.asg is e) Z S) Q↔Wp (aB M e Z S) λp=>∃ws Z',p.1=.tup ws/\cM is ws Z=ba Z'/\Q (.nx Z',p.2):=by
 dsimp only[gb]; rw[yQ]
 constructor
 ·refine λh=>h.mono λp hp=>?_
  obtain⟨w,S1⟩:=p;obtain⟨q,h1,h2⟩:=hp;cases w with
  | tup ws=>
   simp only[DV,Js]at h1;obtain⟨Z',h3,rfl⟩:=h1;exact#[ws,Z',rfl,h3,h2]
  | _=>cases h1
 ·refine λh=>h.mono λp hp=>?_
  obtain⟨w,S1⟩:=p;obtain⟨ws,Z',h0,h1,h2⟩:=hp;subst h0;exact#[(Z',S1),by simp[DV,h1],h2]
def Ed {i j:Jx}{es:Es}{Q:QO}:Wp (gb M fuel (.par i j es) Z S) Q↔Wp (cY M es Z S) λp=>∃x y,p.1=[x,y]/\Q (.nx ((Z.set i (ba x)).set j (ba y)),p.2):=by
 (dsimp only[gb]; simp only[Br])
 rcases h:cY M es Z S with _|⟨x,S1⟩
 ·simp[ae]
 ·match x with
  | []=>simp[ab,ae]
  | [_]=>simp[ab,ae]
  | [a,b]=>
   simp only[ab];exact#[λh=>#[a,b,rfl,h],λ#[x,y,e,h]=>by cases e; exact h]
  | _::_::_::_=>simp[ab,ae]
def Ee {o k e:E}{Q:QO}:Wp (gb M fuel (.put o k e) Z S) Q↔Wp (aB M e Z S) λp=>Wp (aB M o Z p.2) λq=>Wp (aB M k Z q.2) λr=>∃S',iS q.1 r.1 p.1 r.2=ba S'/\Q (.nx Z,S'):=by
 dsimp only[gb]; rw[yQ]
 rcases h:aB M e Z S with _|⟨x,S1⟩
 ·simp[ab,ae]
 ·simp only[ab];unfold Bq;rcases h2:aB M o Z S1 with _|⟨y,S2⟩
  ·simp[ab,ae]
  ·rcases h3:aB M k Z S2 with _|⟨z,S3⟩
   ·simp[ab,ae,h3]
   ·cases h4:iS y z x S3 <;> simp[ab,ae,h3,h4]
def Go {e:E}{Q:QO}:Wp (gb M fuel (.ex e) Z S) Q↔Wp (aB M e Z S) λp=>Q (.nx Z,p.2):=by
 (dsimp only[gb]; simp only[Bl])
 rcases h:aB M e Z S with _|⟨x,S1⟩ <;> simp[ab,ae]
def Ef {e:E}{Q:QO}:Wp (gb M fuel (.ret e) Z S) Q↔Wp (aB M e Z S) λp=>Q (.rt p.1,p.2):=by
 (dsimp only[gb]; simp only[Bn])
 rcases h:aB M e Z S with _|⟨x,S1⟩ <;> simp[ab,ae]
def Eg {t:E}{a b:Ss}{Q:QO}:Wp (gb M fuel (.ite t a b) Z S) Q↔Wp (c9 M t Z S) λp=>(p.1=true->Wp (gf M fuel a Z p.2) Q)/\(p.1=false->Wp (gf M fuel b Z p.2) Q):=by
 (dsimp only[gb]; simp only[Bo])
 rcases h:c9 M t Z S with _|⟨x,S1⟩
 ·simp[ab,ae]
 ·cases x <;> simp[ab,ae]
end
section
variable{M:JV->FF}{fuel:Jx}{Z:Fm}{S:aa}
abbrev yR (I:Fm->aa->Prop)(Q:QO)(o:Out×aa):Prop:=match o.1 with
 | .nx Z'=>I Z' o.2
 | .ct Z'=>I Z' o.2
 | .bk Z'=>Q (.nx Z',o.2)
 | .rt w=>Q (.rt w,o.2)
def jv {mi:MI}{g:FG}{b:FS}{xs:Jn W}{Q:QO}(I:Jx->Fm->aa->Prop)(hat:∀i Z S,I i Z S->mi.at S i=ba xs[i]?)
  (hstep:∀i w Z S,xs[i]?=ba w->I i Z S->Wp (g w Z S) λq=>Wp (b q.1 q.2) (yR (I (i+1)) Q)) (hend:∀Z S,I xs.length Z S->Q (.nx Z,S)):∀(n i:Jx) (Z:Fm) (S:aa),i+n=xs.length->I i Z S->Wp (fZ mi g b n i Z S) Q
 | 0,i,Z,S,hl,hI=>by
  have e:mi.at S i=ba gV:=by rw[hat i Z S hI,M6 ∅]
  simp only[fZ,e];have hi:i=xs.length:=∅
  exact ab.mpr (hend Z S (hi ▸ hI))
 | n+1,i,Z,S,hl,hI=>by
  have hi:i < xs.length:=∅
  have e:mi.at S i=ba (ba xs[i]):=by rw[hat i Z S hI,Jz hi]
  obtain⟨⟨Z1,S1⟩,h1,⟨o,S2⟩,h2,h3⟩:=hstep i xs[i] Z S (Jz hi) hI;simp only[fZ,e,h1,h2];cases o with
  | nx Z2=>exact jv I hat hstep hend n (i+1) Z2 S2 ∅ h3
  | ct Z2=>exact jv I hat hstep hend n (i+1) Z2 S2 ∅ h3
  | bk Z2=>exact ab.mpr h3
  | rt w=>exact ab.mpr h3
def Gp {fi:FI}{g:FG}{b:FS}{Q:QO}:Wp (yo fi g b Z S) Q↔Wp (fi Z S) λp=>∃n,p.1.len p.2=ba n/\Wp (fZ p.1 g b n 0 Z p.2) Q:=by
 unfold yo;rcases h:fi Z S with _|⟨mi,S1⟩
 ·simp[ae]
 ·cases h2:mi.len S1 <;> simp[ab,ae,h2]
def cN {mi:MI}{g:FG}{c:FT}{f:FE}{xs:Jn W}{Q:Jn W×aa->Prop}(I:Jx->Jn W->Fm->aa->Prop)(hat:∀i ys Z S,I i ys Z S->mi.at S i=ba xs[i]?)
  (hstep:∀i w ys Z S,xs[i]?=ba w->I i ys Z S->Wp (g w Z S) λq=>Wp (c q.1 q.2) λk=>(k.1=true->Wp (f q.1 k.2) λy=>I (i+1) (ys++[y.1]) q.1 y.2)/\(k.1=false->I (i+1) ys q.1 k.2))
  (hend:∀ys Z S,I xs.length ys Z S->Q (ys,S)):∀(n i:Jx) (ys:Jn W) (Z:Fm) (S:aa),i+n=xs.length->I i ys Z S->Wp (bv mi g c f n i Z S) λp=>Q (ys++p.1,p.2)
 | 0,i,ys,Z,S,hl,hI=>by
  have e:mi.at S i=ba gV:=by rw[hat i ys Z S hI,M6 ∅]
  simp only[bv,e];refine ab.mpr ?_;have:i=xs.length:=∅
  simpa using hend ys Z S (this ▸ hI)
 | n+1,i,ys,Z,S,hl,hI=>by
  have hi:i < xs.length:=∅
  have e:mi.at S i=ba (ba xs[i]):=by rw[hat i ys Z S hI,Jz hi]
  obtain⟨⟨Z1,S1⟩,h1,⟨k,S2⟩,h2,h3,h4⟩:=hstep i xs[i] ys Z S (Jz hi) hI;simp only[bv,e,h1,h2];cases k with
  | true=>
   obtain⟨⟨y,S3⟩,h5,h6⟩:=h3 rfl;simp only[h5];obtain⟨⟨zs,S4⟩,h7,h8⟩:=cN I hat hstep hend n (i+1) (ys++[y]) Z1 S3 ∅ h6
   simp only[h7];exact ab.mpr (by simpa using h8)
  | false=>exact cN I hat hstep hend n (i+1) ys Z1 S2 ∅ (h4 rfl)
def sD {elt:E}{tg:Tg}{it:Ie}{cs:Es}{cap:Jn (Jw Jx)}{Q:QW}:Wp (aB M (.comp elt tg it cs cap) Z S) Q↔Wp (jS M it Z S) λp=>∃n,p.1.len p.2=ba n/\Wp (bv p.1 (eS tg) (BJ M cs) (aB M elt) n 0 (eZ cap Z) p.2) λq=>q.1.length<=sizeLine/\Q (.ref q.2.length,q.2++[.lst q.1]):=by
 (dsimp only[aB]; simp only[lb,lV])
 rcases h:jS M it Z S with _|⟨mi,S1⟩
 ·simp[ae]
 ·rcases h2:mi.len S1 with _|n
  ·simp[ab,ae,h2]
  ·rcases h3:bv mi (eS tg) (BJ M cs) (aB M elt) n 0 (eZ cap Z) S1 with _|⟨ys,S2⟩
   ·simp[ab,ae,h2,h3]
   ·by_cases hl:ys.length<=sizeLine <;> simp[ab,ae,h2,h3,hl]
def Gq {Q:QB}:Wp (BJ M .nil Z S) Q↔Q (true,S):=by(dsimp only[BJ]; simp[Ct,ab])
def Gr {e:E}{Q:QB}:Wp (BJ M #v[e] Z S) Q↔Wp (c9 M e Z S) Q:=by dsimp only[BJ]; exact Iff.rfl
def Il {i:Jx}{w:W}{Q:Fm×aa->Prop}:Wp (eS (.nm i) w Z S) Q↔Q (Z.set i (ba w),S):=by(dsimp only[eS]; simp[Bp,ab])
def Im {is:Jn Jx}{ws:Jn W}{Q:Fm×aa->Prop}:Wp (eS (.tp is) (.tup ws) Z S) Q↔∃Z',cM is ws Z=ba Z'/\Q (Z',S):=by
 (dsimp only[eS]; simp only[DV])
 cases cM is ws Z <;> simp[ab,ae]
def lp {c:FT}{b:FS}{Q:QO}(I:Jx->Fm->aa->Prop)(hstep:∀m Z S,I m Z S->Wp (c Z S) λk=>(k.1=true->∃m',m=m'+1/\Wp (b Z k.2) (yR (I m') Q))/\(k.1=false->Q (.nx Z,k.2))) :
  ∀(n m:Jx) (Z:Fm) (S:aa),m < n->I m Z S->Wp (ou c b n Z S) Q
 | 0,m,Z,S,h,_=>∅
 | n+1,m,Z,S,h,hI=>by
  obtain⟨⟨k,S1⟩,h1,h2,h3⟩:=hstep m Z S hI;simp only[ou,h1];cases k with
  | false=>exact ab.mpr (h3 rfl)
  | true=>
   obtain⟨m',rfl,⟨o,S2⟩,h5,h6⟩:=h2 rfl;simp only[h5];cases o with
   | nx Z2=>exact lp I hstep n m' Z2 S2 ∅ h6
   | ct Z2=>exact lp I hstep n m' Z2 S2 ∅ h6
   | bk Z2=>exact ab.mpr h6
   | rt w=>exact ab.mpr h6
def vZ {defs:Jn (JV×Df)}{d:Jx}{f:JV}{ws:Jn W}{df:Df}{Q:QW}(h:defs.lookup f=ba df)(hl:ws.length=df.ps.length)
  (hb:Wp (gf (am defs fuel d) fuel df.body (fK df.N ws) S) λp=>match p.1 with|.rt w=>Q (w,p.2)|.nx _=>Q (.non,p.2)|_=>K5):Wp (am defs fuel (d+1) f ws S) Q:=by
 obtain⟨⟨o,S1⟩,h1,h2⟩:=hb;simp only[am,h,JZ hl,h1];cases o with
 | rt w=>exact ab.mpr h2
 | nx Z=>exact ab.mpr h2
 | bk _=>exact h2.elim
 | ct _=>exact h2.elim
end
section
variable{S:aa}{Q:QW}
def db {a b:JI}:fI .add (.int a) (.int b) S=ba (.int (a+b),S):=rfl
def qE {a b:JI}:fI .sub (.int a) (.int b) S=ba (.int (a - b),S):=rfl
def oF {c:JI->JI->J6}{f:JI->JI->JI}{i j:JI}(h:c i j=true):Aa c f (.int i) (.int j) S=ba (.int (f i j),S):=by
 unfold Aa;dsimp only;rw[JZ h]
def mU {a b:JI}(h : -(2 ^ 64) < b)(h2:b < 2 ^ 64):fI .mul (.int a) (.int b) S=ba (.int (a*b),S):=oF (c:=vk) (f:=(· * ·)) (by
 unfold vk;simp only[LF,Jv,JL];exact .inr #[h,h2])
def iY {a b:JI}(h:0 < b):fI .mod (.int a) (.int b) S=ba (.int (a % b),S):=oF (c:=λ_ j=>decide (0 < j)) (f:=(· % ·)) (Lg h)
def gk {a b:JI}(h:0 < b)(h2:b < 1073741824):fI .fdiv (.int a) (.int b) S=ba (.int (a / b),S):=oF (c:=λ_ j=>AG j) (f:=(· / ·)) (by
 unfold AG;simp only[Jv,JL];exact#[h,h2])
def Eh:fI .pow (.int 10) (.int 18) S=ba (.int 1000000000000000000,S):=rfl
def Ei {x y:JV}(h:x.length+y.length<=sizeLine):fI .add (.str x) (.str y) S=ba (.str (x++y),S):=by simp only[fI,vm]; rw[JZ h]
def ip {xs ys:Jn W}(h:(xs++ys).length<=sizeLine):fI .add (.tup xs) (.tup ys) S=ba (.tup (xs++ys),S):=by simp only[fI,vm,rO]; rw[JZ h]
def yS {i j:Jx}{xs ys:Jn W}(h1:S[i]?=ba (.lst xs))(h2:S[j]?=ba (.lst ys))(h:(xs++ys).length<=sizeLine):fI .add (.ref i) (.ref j) S=ba (.ref S.length,S++[.lst (xs++ys)]):=by
 simp only[fI,vm,o9,h1,h2,lV]; rw[JZ h]
def iZ {a b:JI}:cZ .eq (.int a) (.int b) S=ba (.bl (a==b),S):=rfl
def Io {a b:JI}:cZ .ne (.int a) (.int b) S=ba (.bl (!(a==b)),S):=rfl
def v4 {a b:JI}:cZ .lt (.int a) (.int b) S=ba (.bl (decide (a < b)),S):=rfl
def Gs {a b:JI}:cZ .gt (.int a) (.int b) S=ba (.bl (decide (a > b)),S):=rfl
def Ip {a b:JI}:cZ .ge (.int a) (.int b) S=ba (.bl (decide (a>=b)),S):=rfl
def CD {a b:JV}:cZ .eq (.str a) (.str b) S=ba (.bl (a==b),S):=rfl
def Gu {a b:JV}:cZ .ne (.str a) (.str b) S=ba (.bl (!(a==b)),S):=rfl
def aw {r:Jx}{xs:Jn W}(h:S[r]?=ba (.lst xs)):fT S r=ba xs:=by simp[fT,h]
def BP {r:Jx}{xs:Jn W}(h:S[r]?=ba (.fro xs)):fT S r=ba xs:=by simp[fT,h]
def dL {r:Jx}{xs:Jn W}(h:S[r]?=ba (.lst xs)):o9 S r=ba xs:=by simp[o9,h]
def oG {r:Jx}{xs:Jn W}(h:S[r]?=ba (.lst xs)):jN S r=gV:=by simp[jN,h]
def cq {r:Jx}{U:Jn (T×W)}(h:S[r]?=ba (.dic U)):jN S r=ba U:=by simp[jN,h]
def oH {r:Jx}{U:Jn (T×W)}(h:S[r]?=ba (.dic U)):fT S r=gV:=by simp[fT,h]
def BQ {r:Jx}{U:Jn (T×W)}(h:S[r]?=ba (.frd U)):jN S r=ba U:=by simp[jN,h]
def atI_nat {α:Type}{xs:Jn α}{j:Jx}{w:α}(h:xs[j]?=ba w):pf xs (j:JI)=ba w:=by
 have hl:=(JF.mp h).1;unfold pf tf;rw[JZ (JR j),JZ (by exact_mod_cast hl)]
 simpa using h
def oJ {α:Type}{xs:Jn α}{i:JI}{w:α}(h0:0<=i)(h:xs[i.toNat]?=ba w):pf xs i=ba w:=by
 have:=atI_nat h
 rwa [Nu h0]at this
def yT {r:Jx}{xs:Jn W}{i:JI}{w:W}(h:S[r]?=ba (.lst xs))(h0:0<=i)(hw:xs[i.toNat]?=ba w):nY (.ref r) (.int i) S=ba (w,S):=by
 show vn (.ref r) (.int i) S=_;simp[vn,aw h,oJ h0 hw]
def Gv {xs:Jn W}{i:JI}{w:W}(h0:0<=i)(hw:xs[i.toNat]?=ba w):nY (.tup xs) (.int i) S=ba (w,S):=by
 show vn (.tup xs) (.int i) S=_;simp[vn,oJ h0 hw]
def CF {x:JV}{i:JI}{c:Jx}(hz:x.length<=sizeLine)(h0:0<=i)(hw:x.cps.toList[i.toNat]?=ba c):nY (.str x) (.int i) S=ba (.str #[[c].toArray],S):=by
 show vn (.str x) (.int i) S=_;simp[vn,hz,oJ h0 hw]
def CG {r:Jx}{xs:Jn W}{i:JI}{w:W}(h:S[r]?=ba (.lst xs))(h0:0<=i)(hi:i.toNat < xs.length):iS (.ref r) (.int i) w S=ba (S.set r (.lst (xs.set i.toNat w))):=by
 show vo (.ref r) (.int i) w S=_;have:tf xs.length i=ba i.toNat:=by
  unfold tf;rw[JZ h0,JZ ∅]
 simp[vo,dL h,this]
def CH {r:Jx}{xs:Jn W}(h:S[r]?=ba (.lst xs)):r9 [.ref r] S=ba (.int xs.length,S):=by
 simp[r9,oG h,rR,aw h]
def uA {r:Jx}{xs:Jn W}{y:W}(h:S[r]?=ba (.lst xs))(hl:xs.length < sizeLine):iK (.ref r) [y] S=ba (.non,S.set r (.lst (xs++[y]))):=by
 simp[iK,dL h,hl]
def Gw {r:Jx}{xs:Jn W}(h:S[r]?=ba (.lst xs)):kZ [.ref r] S=ba (.tup xs,S):=by
 simp[kZ,AW,h,kG,aw h]
def eg {r:Jx}{xs:Jn W}(h:S[r]?=ba (.lst xs)):tyOk "list" S (.ref r)=true:=by simp[tyOk,aw h]
def bo {r:Jx}{o o':O}(h:S[r]?=ba o):(S.set r o')[r]?=ba o':=by
 rw[LR,JZ rfl,JZ (JF.mp h).1]
def bj {r j:Jx}{o':O}(h:r≠j):(S.set r o')[j]?=S[j]?:=by rw[LR,Kb h]
def ag {o:O}:(S++[o])[S.length]?=ba o:=by simp
def ak {j:Jx}{o u:O}(h:S[j]?=ba o):(S++[u])[j]?=ba o:=by rw[Ku (JF.mp h).1]; exact h
def bP {j:Jx}{o:O}(h:S[j]?=ba o):j < S.length:=(JF.mp h).1
structure Kp (r:Jx)(S S':aa):Prop where
 get:∀j o,j≠r->S[j]?=ba o->S'[j]?=ba o
 len:S.length<=S'.length
def Kp.refl {r:Jx}{S:aa}:Kp r S S:=#[λ_ _ _ h=>h,JB _]
def Kp.trans {r:Jx}{S S' S'':aa}(a:Kp r S S')(b:Kp r S' S''):Kp r S S'':=#[λj o n h=>b.get j o n (a.get j o n h),JY a.len b.len]
def Kp.set {r:Jx}{S:aa}{o:O}:Kp r S (S.set r o):=#[λj u n h=>by rw[bj (Ne.symm n)]; exact h,by simp]
def Kp.push {r:Jx}{S:aa}{o:O}:Kp r S (S++[o]):=#[λj u n h=>ak h,by simp]
def Kp.late {r t:Jx}{S0 S:aa}{o:O}(a:Kp r S0 S)(h:S0.length<=t):Kp r S0 (S.set t o):=
 #[λj u n e=>by
  have:=bP e;rw[bj ∅]; exact a.get j u n e,by simpa using a.len]
end
abbrev wO {α:Type}(o:Jw α)(Q:α->Prop):Prop:=match o with
 | some a=>Q a
 | none=>K5
def bZ {α:Type}{o:Jw α}{Q:α->Prop}(h:wO o Q):Wp o Q:=by
 cases o with
 | none=>exact h.elim
 | some a=>exact#[a,rfl,h]
def Gx {α:Type}{o:Jw α}{Q:α->Prop}(h:Wp o Q):wO o Q:=by
 obtain⟨a,rfl,q⟩:=h;exact q
def ac {α:Type}{o:Jw α}{a:α}{Q:α->Prop}(e:o=ba a)(h:Q a):wO o Q:=by subst e; exact h
abbrev wB:W->(J6->Prop)->Prop
 | .bl k,Q=>Q k
 | _,_=>K5
abbrev wN:W->(JI->Prop)->Prop
 | .int k,Q=>Q k
 | _,_=>K5
abbrev wU:W->(Jn W->Prop)->Prop
 | .tup k,Q=>Q k
 | _,_=>K5
def uB {w:W}{Q:J6->Prop}(h:wB w Q):∃k,w=.bl k/\Q k:=by cases w <;> first|exact h.elim|exact#[_,rfl,h]
def CI {w:W}{Q:JI->Prop}(h:wN w Q):∃k,w=.int k/\Q k:=by cases w <;> first|exact h.elim|exact#[_,rfl,h]
def Gy {w:W}{Q:Jn W->Prop}(h:wU w Q):∃k,w=.tup k/\Q k:=by cases w <;> first|exact h.elim|exact#[_,rfl,h]
abbrev w2:Jn W->(W->W->Prop)->Prop
 | [x,y],Q=>Q x y
 | _,_=>K5
def Gz {xs:Jn W}{Q:W->W->Prop}(h:w2 xs Q):∃x y,xs=[x,y]/\Q x y:=by
 match xs,h with
 | [x,y],h=>exact#[x,y,rfl,h]
abbrev wG:Jw W->(W->Prop)->Prop
 | some w,Q=>Q w
 | none,_=>K5
abbrev wV:Fm->Jx->(W->Prop)->Prop
 | [],_,_=>K5
 | o::_,0,Q=>wG o Q
 | _::Z,n+1,Q=>wV Z n Q
def yU {Q:W->Prop}:∀ {Z:Fm} {i:Jx},wV Z i Q->∃w,Z[i]?=ba (ba w)/\Q w
 | [],i,h=>h.elim
 | some w::Z,0,h=>#[w,rfl,h]
 | none::Z,0,h=>h.elim
 | x::Z,n+1,h=>by
  obtain⟨w,e2,q⟩:=yU (Z:=Z) (i:=n) h;exact#[w,e2,q]
abbrev aP (M:JV->FF)(f:JV)(n:Jx)(ws:Jn W)(S:aa):Jw (W×aa):=if ws.length=n then M f ws S else gV
section
variable (M:JV->FF) (fuel:Jx)
mutual
noncomputable def wE:E->Fm->aa->QW->Prop
 | .c w,_,S,Q=>Q (w,S)
 | .v i,Z,S,Q=>wV Z i λw=>Q (w,S)
 | .op o a b,Z,S,Q=>wE a Z S λp=>wE b Z p.2 λq=>wO (fI o p.1 q.1 q.2) Q
 | .cmp o a b,Z,S,Q=>wE a Z S λp=>wE b Z p.2 λq=>wO (cZ o p.1 q.1 q.2) Q
 | .and a b,Z,S,Q=>wE a Z S λp=>wB p.1 λk=>(k=true->wE b Z p.2 Q)/\(k=false->Q (.bl false,p.2))
 | .or a b,Z,S,Q=>wE a Z S λp=>wB p.1 λk=>(k=true->Q (.bl true,p.2))/\(k=false->wE b Z p.2 Q)
 | .not a,Z,S,Q=>wE a Z S λp=>wB p.1 λk=>Q (.bl (!k),p.2)
 | .own f n es,Z,S,Q=>wA es Z S λp=>wO (aP M f n p.1 p.2) Q
 | .bi b es,Z,S,Q=>wA es Z S λp=>wO (b.fn p.1 p.2) Q
 | .me m o es,Z,S,Q=>wE o Z S λp=>tyOk m.ty p.2 p.1=true/\wA es Z p.2 λq=>wO (m.fn p.1 q.1 q.2) Q
 | .ix a b,Z,S,Q=>wE a Z S λp=>wE b Z p.2 λq=>wO (nY p.1 q.1 q.2) Q
 | .sl a lo hi,Z,S,Q=>wE a Z S λp=>wP lo Z p.2 λq=>wP hi Z q.2 λr=>wO (rQ p.1 q.1 r.1 r.2) Q
 | .tup es,Z,S,Q=>wA es Z S λp=>Q (.tup p.1,p.2)
 | .lst es,Z,S,Q=>wA es Z S λp=>Q (.ref p.2.length,p.2++[.lst p.1])
 | .isi c a,Z,S,Q=>wE a Z S λp=>wO (yp p.2 p.1 c) λk=>Q (.bl k,p.2)
 | .neg a,Z,S,Q=>wE a Z S λp=>wN p.1 λi=>Q (.int (-i),p.2)
 | .dnew,_,S,Q=>Q (.ref S.length,S++[.dic []])
 | .disp es,Z,S,Q=>wA es Z (S++[.dic []]) λp=>p.2[S.length]?=ba (.dic [])/\wO (dC [] p.1) λU=>Q (.ref S.length,p.2.set S.length (.dic U))
 | .ite t a b,Z,S,Q=>wT t Z S λp=>(p.1=true->wE a Z p.2 Q)/\(p.1=false->wE b Z p.2 Q)
 | .comp elt tg it cs cap,Z,S,Q=>Wp (aB M (.comp elt tg it cs cap) Z S) Q
noncomputable def wT:E->Fm->aa->QB->Prop
 | .cmp o a b,Z,S,Q=>wE a Z S λp=>wE b Z p.2 λq=>wO (cZ o p.1 q.1 q.2) λr=>wB r.1 λk=>Q (k,r.2)
 | .and a b,Z,S,Q=>wT a Z S λp=>(p.1=true->wT b Z p.2 Q)/\(p.1=false->Q (false,p.2))
 | .or a b,Z,S,Q=>wT a Z S λp=>(p.1=true->Q (true,p.2))/\(p.1=false->wT b Z p.2 Q)
 | .not a,Z,S,Q=>wT a Z S λp=>Q (!p.1,p.2)
 | .isi c a,Z,S,Q=>wE a Z S λp=>wO (yp p.2 p.1 c) λk=>Q (k,p.2)
 | .c w,Z,S,Q=>Wp (c9 M (.c w) Z S) Q
 | .v i,Z,S,Q=>wV Z i λw=>wO (gM S w) λk=>Q (k,S)
 | .op o a b,Z,S,Q=>Wp (c9 M (.op o a b) Z S) Q
 | .own f n es,Z,S,Q=>wA es Z S λp=>wO (aP M f n p.1 p.2) λq=>wO (gM q.2 q.1) λk=>Q (k,q.2)
 | .bi b es,Z,S,Q=>wA es Z S λp=>wO (b.fn p.1 p.2) λq=>wO (gM q.2 q.1) λk=>Q (k,q.2)
 | .me m o es,Z,S,Q=>Wp (c9 M (.me m o es) Z S) Q
 | .ix a b,Z,S,Q=>Wp (c9 M (.ix a b) Z S) Q
 | .sl a lo hi,Z,S,Q=>Wp (c9 M (.sl a lo hi) Z S) Q
 | .tup es,Z,S,Q=>Wp (c9 M (.tup es) Z S) Q
 | .lst es,Z,S,Q=>Wp (c9 M (.lst es) Z S) Q
 | .neg a,Z,S,Q=>Wp (c9 M (.neg a) Z S) Q
 | .dnew,Z,S,Q=>Wp (c9 M .dnew Z S) Q
 | .disp es,Z,S,Q=>Wp (c9 M (.disp es) Z S) Q
 | .ite t a b,Z,S,Q=>Wp (c9 M (.ite t a b) Z S) Q
 | .comp elt tg it cs cap,Z,S,Q=>Wp (c9 M (.comp elt tg it cs cap) Z S) Q
noncomputable def wA:Es->Fm->aa->(Jn W×aa->Prop)->Prop
 | .nil,_,S,Q=>Q ([],S)
 | .cons e es,Z,S,Q=>wE e Z S λp=>wA es Z p.2 λq=>Q (p.1::q.1,q.2)
noncomputable def wP:Ep->Fm->aa->(Jw JI×aa->Prop)->Prop
 | .no,_,S,Q=>Q (gV,S)
 | .yes a,Z,S,Q=>wE a Z S λp=>wN p.1 λi=>Q (ba i,p.2)
end
abbrev rC (K:Fm->aa->Prop)(Q:QO)(p:Out×aa):Prop:=match p.1 with
 | .nx Z=>K Z p.2
 | o=>Q (o,p.2)
mutual
noncomputable def wS:Sm->Fm->aa->(Fm->aa->Prop)->QO->Prop
 | .set i e,Z,S,K,_=>wE M e Z S λp=>K (Z.set i (ba p.1)) p.2
 | .asg is e,Z,S,K,_=>wE M e Z S λp=>wU p.1 λws=>wO (cM is ws Z) λZ'=>K Z' p.2
 | .par i j es,Z,S,K,_=>wA M es Z S λp=>w2 p.1 λx y=>K ((Z.set i (ba x)).set j (ba y)) p.2
 | .put o k e,Z,S,K,_=>wE M e Z S λp=>wE M o Z p.2 λq=>wE M k Z q.2 λr=>wO (iS q.1 r.1 p.1 r.2) λS'=>K Z S'
 | .ex e,Z,S,K,_=>wE M e Z S λp=>K Z p.2
 | .ret e,Z,S,_,Q=>wE M e Z S λp=>Q (.rt p.1,p.2)
 | .pass,Z,S,K,_=>K Z S
 | .ite t a b,Z,S,K,Q=>wT M t Z S λp=>∀Q':QO,(∀Z' S',K Z' S'->Q' (.nx Z',S'))->(∀o S',(∀Z',o≠.nx Z')->Q (o,S')->Q' (o,S'))->(p.1=true->BR a Z p.2 Q')/\(p.1=false->BR b Z p.2 Q')
 | .whl t b,Z,S,K,Q=>Wp (gb M fuel (.whl t b) Z S) (rC K Q)
 | .loop tg it b,Z,S,K,Q=>Wp (gb M fuel (.loop tg it b) Z S) (rC K Q)
noncomputable def BR:Ss->Fm->aa->QO->Prop
 | .nil,Z,S,Q=>Q (.nx Z,S)
 | .cons s ss,Z,S,Q=>wS s Z S (λZ' S'=>BR ss Z' S' Q) Q
end
end
abbrev He:Es->Jx
 | .nil=>0
 | .cons _ es=>He es+1
mutual
noncomputable def dD:E->J6
 | .c _|.v _|.comp _ _ _ _ _|.dnew=>true
 | .op _ a b|.cmp _ a b|.and a b|.or a b|.ix a b=>dD a&&dD b
 | .ite a b c=>dD a&&dD b&&dD c
 | .neg a|.not a|.isi _ a=>dD a
 | .own _ n es=>He es==n&&oK es
 | .bi _ es|.disp es=>oK es
 | .me _ o es=>dD o&&oK es
 | .sl a lo hi=>dD a&&Iq lo&&Iq hi
 | .tup es|.lst es=>decide (He es<=1000)&&oK es
noncomputable def oK:Es->J6
 | .nil=>true
 | .cons e es=>dD e&&oK es
noncomputable def Iq:Ep->J6
 | .no=>true
 | .yes e=>dD e
end
mutual
noncomputable def IV:Sm->J6
 | .set _ e|.asg _ e|.ex e|.ret e=>dD e
 | .put o k e=>dD o&&dD k&&dD e
 | .par _ _ es=>oK es
 | .ite t a b=>dD t&&gQ a&&gQ b
 | _=>true
noncomputable def gQ:Ss->J6
 | .nil=>true
 | .cons s ss=>IV s&&gQ ss
end
section
variable{M:JV->FF}{fuel:Jx}
def i4:∀ {es:Es} {Z:Fm} {S S':aa} {ws:Jn W},cY M es Z S=ba (ws,S')->ws.length=He es
 | .nil,Z,S,S',ws,h=>by dsimp only[cY]at h; cases h; rfl
 | .cons e es,Z,S,S',ws,h=>by
  dsimp only[cY]at h;unfold dF at h;split at h
  ·split at h
   ·rename_i h2; cases h; rw[J9,i4 h2]; rfl
   ·cases h
  ·cases h
def yV {n:Jx}(h:decide (n<=1000)=true):n<=sizeLine:=JY (Kt h) (by rw[Ky]; decide)
def da {a b:J6}(h:(a&&b)=true):a=true:=by cases a <;> first|rfl|cases h
def eh {a b:J6}(h:(a&&b)=true):b=true:=by cases a <;> first|exact h|cases h
mutual
theorem aW:∀(e:E) {Z:Fm} {S:aa} {Q:QW},dD e=true->wE M e Z S Q->Wp (aB M e Z S) Q
 | .c w,Z,S,Q,k,h=>Ji.mpr h
 | .v i,Z,S,Q,k,h=>IU.mpr (yU h)
 | .op o a b,Z,S,Q,k,h=>HY.mpr ((aW a (da k) h).mono λp hp=>(aW b (eh k) hp).mono λq hq=>bZ hq)
 | .cmp o a b,Z,S,Q,k,h=>CA.mpr ((aW a (da k) h).mono λp hp=>(aW b (eh k) hp).mono λq hq=>bZ hq)
 | .and a b,Z,S,Q,k,h=>F7.mpr ((aW a (da k) h).mono λp hp=>let ⟨c,e,h1,h2⟩:=uB hp; #[c,e,λz=>aW b (eh k) (h1 z),h2])
 | .or a b,Z,S,Q,k,h=>Ic.mpr ((aW a (da k) h).mono λp hp=>let ⟨c,e,h1,h2⟩:=uB hp; #[c,e,h1,λz=>aW b (eh k) (h2 z)])
 | .not a,Z,S,Q,k,h=>F8.mpr ((aW a k h).mono λp hp=>uB hp)
 | .own f n es,Z,S,Q,k,h=>CB.mpr (by
   obtain⟨⟨ws,S1⟩,e,hq⟩:=gY es (eh k) h;have hl:ws.length=n:=(i4 e).trans (eq_of_beq (da k));simp only[aP,JZ hl]at hq;exact#[_,e,hl,bZ hq])
 | .bi b es,Z,S,Q,k,h=>Ga.mpr ((gY es k h).mono λp hp=>bZ hp)
 | .me m o es,Z,S,Q,k,h=>Ig.mpr ((aW o (da k) h).mono λp hp=>#[hp.1,(gY es (eh k) hp.2).mono λq hq=>bZ hq])
 | .ix a b,Z,S,Q,k,h=>HZ.mpr ((aW a (da k) h).mono λp hp=>(aW b (eh k) hp).mono λq hq=>bZ hq)
 | .sl a lo hi,Z,S,Q,k,h=>Ih.mpr ((aW a (da (da k)) h).mono λp hp=>(CJ lo (eh (da k)) hp).mono λq hq=>(CJ hi (eh k) hq).mono λr hr=>bZ hr)
 | .tup es,Z,S,Q,k,h=>Gc.mpr (by
   obtain⟨⟨ws,S1⟩,e,hq⟩:=gY es (eh k) h;exact#[_,e,by rw[i4 e]; exact yV (da k),hq])
 | .lst es,Z,S,Q,k,h=>Gd.mpr (by
   obtain⟨⟨ws,S1⟩,e,hq⟩:=gY es (eh k) h;exact#[_,e,by rw[i4 e]; exact yV (da k),hq])
 | .isi c a,Z,S,Q,k,h=>CC.mpr ((aW a k h).mono λp hp=>bZ hp)
 | .neg a,Z,S,Q,k,h=>Ge.mpr ((aW a k h).mono λp hp=>CI hp)
 | .dnew,Z,S,Q,k,h=>#[_,rfl,h]
 | .disp es,Z,S,Q,k,h=>D8.mpr ((gY es k h).mono λp hp=>#[hp.1,let ⟨U,e,q⟩:=bZ hp.2; #[U,e,q]])
 | .ite t a b,Z,S,Q,k,h=>F9.mpr ((i5 t (da (da k)) h).mono λp hp=>#[λz=>aW a (eh (da k)) (hp.1 z),λz=>aW b (eh k) (hp.2 z)])
 | .comp elt tg it cs cap,Z,S,Q,k,h=>h
theorem gY:∀(es:Es) {Z:Fm} {S:aa} {Q:Jn W×aa->Prop},oK es=true->wA M es Z S Q->Wp (cY M es Z S) Q
 | .nil,Z,S,Q,k,h=>Gf.mpr h
 | .cons e es,Z,S,Q,k,h=>D9.mpr ((aW e (da k) h).mono λp hp=>gY es (eh k) hp)
theorem CJ:∀(e:Ep) {Z:Fm} {S:aa} {Q:Jw JI×aa->Prop},Iq e=true->wP M e Z S Q->Wp (uh M e Z S) Q
 | .no,Z,S,Q,k,h=>Ii.mpr h
 | .yes a,Z,S,Q,k,h=>Gb.mpr ((aW a k h).mono λp hp=>CI hp)
theorem i5:∀(e:E) {Z:Fm} {S:aa} {Q:QB},dD e=true->wT M e Z S Q->Wp (c9 M e Z S) Q
 | .cmp o a b,Z,S,Q,k,h=>Gh.mpr (CA.mpr ((aW a (da k) h).mono λp hp=>(aW b (eh k) hp).mono λq hq=>(bZ hq).mono λr hr=>uB hr))
 | .and a b,Z,S,Q,k,h=>Gi.mpr ((i5 a (da k) h).mono λp hp=>#[λz=>i5 b (eh k) (hp.1 z),hp.2])
 | .or a b,Z,S,Q,k,h=>Ij.mpr ((i5 a (da k) h).mono λp hp=>#[hp.1,λz=>i5 b (eh k) (hp.2 z)])
 | .not a,Z,S,Q,k,h=>Gj.mpr (i5 a k h)
 | .isi c a,Z,S,Q,k,h=>Gm.mpr (CC.mpr ((aW a k h).mono λp hp=>let ⟨b,e,q⟩:=bZ hp; #[b,e,b,rfl,q]))
 | .v i,Z,S,Q,k,h=>Jj.mpr (IU.mpr (let ⟨w,e,q⟩:=yU h; #[w,e,bZ q]))
 | .own f n es,Z,S,Q,k,h=>Gk.mpr (CB.mpr (by
   obtain⟨⟨ws,S1⟩,e,hq⟩:=gY es (eh k) h;have hl:ws.length=n:=(i4 e).trans (eq_of_beq (da k));simp only[aP,JZ hl]at hq;exact#[_,e,hl,(bZ hq).mono λq hq=>bZ hq]))
 | .c w,Z,S,Q,k,h=>h
 | .op o a b,Z,S,Q,k,h=>h
 | .bi b es,Z,S,Q,k,h=>Ik.mpr (Ga.mpr ((gY es k h).mono λp hp=>(bZ hp).mono λq hq=>bZ hq))
 | .me m o es,Z,S,Q,k,h=>h
 | .ix a b,Z,S,Q,k,h=>h
 | .sl a lo hi,Z,S,Q,k,h=>h
 | .tup es,Z,S,Q,k,h=>h
 | .lst es,Z,S,Q,k,h=>h
 | .neg a,Z,S,Q,k,h=>h
 | .dnew,Z,S,Q,k,h=>h
 | .disp es,Z,S,Q,k,h=>h
 | .ite t a b,Z,S,Q,k,h=>h
 | .comp elt tg it cs cap,Z,S,Q,k,h=>h
end
mutual
theorem GB:∀(s:Sm) {Z:Fm} {S:aa} {K:Fm->aa->Prop} {Q:QO},IV s=true->wS M fuel s Z S K Q->Wp (gb M fuel s Z S) (rC K Q)
 | .set i e,Z,S,K,Q,k,h=>Eb.mpr (aW e k h)
 | .asg is e,Z,S,K,Q,k,h=>Ec.mpr ((aW e k h).mono λp hp=>let ⟨ws,e1,h1⟩:=Gy hp; let ⟨Z',e2,h2⟩:=bZ h1; #[ws,Z',e1,e2,h2])
 | .par i j es,Z,S,K,Q,k,h=>Ed.mpr ((gY es k h).mono λp hp=>Gz hp)
 | .put o i e,Z,S,K,Q,k,h=>Ee.mpr ((aW e (eh k) h).mono λp hp=>(aW o (da (da k)) hp).mono λq hq=>(aW i (eh (da k)) hq).mono λr hr=>bZ hr)
 | .ex e,Z,S,K,Q,k,h=>Go.mpr (aW e k h)
 | .ret e,Z,S,K,Q,k,h=>Ef.mpr (aW e k h)
 | .pass,Z,S,K,Q,k,h=>#[_,rfl,h]
 | .ite t a b,Z,S,K,Q,k,h=>Eg.mpr ((i5 t (da (da k)) h).mono λp hp=>by
   obtain⟨h1,h2⟩:=hp (rC K Q) (λZ' S' z=>z) (λo S' hn z=>by cases o <;> first|exact z|exact absurd rfl (hn _))
   exact#[λz=>jw a (eh (da k)) (h1 z),λz=>jw b (eh k) (h2 z)])
 | .whl t b,Z,S,K,Q,k,h=>h
 | .loop tg it b,Z,S,K,Q,k,h=>h
theorem jw:∀(ss:Ss) {Z:Fm} {S:aa} {Q:QO},gQ ss=true->BR M fuel ss Z S Q->Wp (gf M fuel ss Z S) Q
 | .nil,Z,S,Q,k,h=>Gn.mpr h
 | .cons s ss,Z,S,Q,k,h=>Ea.mpr ((GB s (da k) h).mono λp hp=>by
   obtain⟨o,S1⟩:=p;cases o with
   | nx Z'=>exact#[λZ2 e=>by cases e; exact jw ss (eh k) hp,λz=>absurd rfl (z Z')]
   | _=>exact#[λZ2 e=>(by cases e),λ_=>hp])
end
structure wZ (M:JV->FF)(fuel:Jx)(ss:Ss)(Z:Fm)(S:aa)(Q:QO):Prop where
 out:BR M fuel ss Z S Q
def GC {ss:Ss}{Z:Fm}{S:aa}{Q:QO}:BR M fuel ss Z S Q=wZ M fuel ss Z S Q:=propext #[λh=>#[h],λh=>h.out]
def Ej {defs:Jn (JV×Df)}{d:Jx}{f:JV}{n:Jx}{ws:Jn W}{df:Df}{S:aa}{Q:QW}(h:defs.lookup f=ba df)(hn:ws.length=n)(hl:ws.length=df.ps.length)(ok:gQ df.body=true)
  (hb:∀Q':QO,(∀w S',Q (w,S')->Q' (.rt w,S'))->wZ (am defs fuel d) fuel df.body (fK df.N ws) S Q'):wO (aP (am defs fuel (d+1)) f n ws S) Q:=by
 unfold aP;rw[JZ hn];exact Gx (vZ h hl ((jw _ ok (hb (λp=>match p.1 with|.rt w=>Q (w,p.2)|_=>K5) λw S' q=>q).out).mono λp hp=>by
  obtain⟨o,S1⟩:=p;cases o <;> first|exact hp|exact hp.elim))
end
section
variable{M:JV->FF}{fuel:Jx}{Z:Fm}{S:aa}{K:Fm->aa->Prop}{Q:QO}
abbrev wD (M:JV->FF)(fuel:Jx)(b:Ss)(Z:Fm)(S:aa)(I:Fm->aa->Prop)(Q:QO):Prop:=∀Q':QO,(∀Z' S',I Z' S'->Q' (.nx Z',S'))->(∀w S',Q (.rt w,S')->Q' (.rt w,S'))->wZ M fuel b Z S Q'
def iq {tg:Tg}{it:Ie}{b:Ss}{mi:MI}{S1:aa}{xs:Jn W}(I:Jx->Fm->aa->Prop)(ok:gQ b=true)(hi:jS M it Z S=ba (mi,S1))(hat:∀i Z S,I i Z S->mi.at S i=ba xs[i]?)(hl:mi.len S1=ba xs.length)(h0:I 0 Z S1)
  (hstep:∀(i:Jx) (w:W) (Z:Fm) (S:aa),xs[i]?=ba w->I i Z S->wO (eS tg w Z S) λq=>wD M fuel b q.1 q.2 (I (i+1)) Q) (hend:∀Z S,I xs.length Z S->K Z S):Wp (gb M fuel (.loop tg it b) Z S) (rC K Q):=by
 rw[gb,Gp];refine#[_,hi,xs.length,hl,?_];refine jv (Q:=rC K Q) I hat (λi w Z S h1 h2=>?_) (λZ S h=>hend Z S h) _ 0 Z S1 ∅ h0
 exact(bZ (hstep i w Z S h1 h2)).mono λq hq=>jw b ok (wZ.out (hq _ (λ_ _ h=>h) λ_ _ h=>h))
def bB {e:E}{Q:QW}(ok:dD e=true)(h:wE M e Z S Q):∃w S',aB M e Z S=ba (w,S')/\Q (w,S'):=let ⟨⟨w,S'⟩,a,b⟩:=aW e ok h; #[w,S',a,b]
def cr {i0:Jx}{e:E}{b:Ss}(j:JI)(I:Jx->Fm->aa->Prop)(oe:dD e=true)(ok:gQ b=true)(hj : -(2 ^ 62)<=j/\j < 2 ^ 62)(he:wE M e Z S λp=>p.1=.int j/\I 0 Z p.2)
  (hstep:∀(i:Jx) (Z:Fm) (S:aa),(i:JI) < j->I i Z S->wD M fuel b (Z.set i0 (ba (.int i))) S (I (i+1)) Q) (hend:∀Z S,I j.toNat Z S->K Z S):Wp (gb M fuel (.loop (.nm i0) (.rng #v[e]) b) Z S) (rC K Q):=by
 obtain⟨w,S1,e1,rfl,h0⟩:=bB oe he;have hl:(c8 0 j.toNat).length=j.toNat:=by simp[c8]
 refine iq (mi:=.its (c8 0 j.toNat)) (S1:=S1) (xs:=c8 0 j.toNat) I ok ?_ (λ_ _ _ _=>rfl) rfl h0 (λi w Z S hw hI=>?_) λZ S hI=>hend Z S (hl ▸ hI)
 ·simp only[jS,cY,dF,iW,su,e1];rw[JZ hj]
 ·rw[d8]at hw;split at hw
  ·rename_i hk;cases hw;rw[Pk];exact hstep i Z S ∅ hI
  ·cases hw
def for_tup {tg:Tg}{e:E}{b:Ss}(xs:Jn W)(I:Jx->Fm->aa->Prop)(oe:dD e=true)(ok:gQ b=true)(he:wE M e Z S λp=>p.1=.tup xs/\I 0 Z p.2)
  (hstep:∀(i:Jx) (w:W) (Z:Fm) (S:aa),xs[i]?=ba w->I i Z S->wO (eS tg w Z S) λq=>wD M fuel b q.1 q.2 (I (i+1)) Q) (hend:∀Z S,I xs.length Z S->K Z S):Wp (gb M fuel (.loop tg (.seq e) b) Z S) (rC K Q):=by
 obtain⟨w,S1,e1,rfl,h0⟩:=bB oe he;exact iq (mi:=.its xs) (S1:=S1) I ok (by simp only[jS,eY,e1]) (λ_ _ _ _=>rfl) rfl h0 hstep hend
def km {tg:Tg}{e:E}{b:Ss}(t:Jx)(xs:Jn W)(I:Jx->Fm->aa->Prop)(oe:dD e=true)(ok:gQ b=true)(he:wE M e Z S λp=>p.1=.ref t/\I 0 Z p.2)(hat:∀i Z S,I i Z S->S[t]?=ba (.lst xs))
  (hstep:∀(i:Jx) (w:W) (Z:Fm) (S:aa),xs[i]?=ba w->I i Z S->wO (eS tg w Z S) λq=>wD M fuel b q.1 q.2 (I (i+1)) Q) (hend:∀Z S,I xs.length Z S->K Z S):Wp (gb M fuel (.loop tg (.seq e) b) Z S) (rC K Q):=by
 obtain⟨w,S1,e1,rfl,h0⟩:=bB oe he;exact iq (mi:=.live t) (S1:=S1) I ok (by simp only[jS,eY,e1,aw (hat _ _ _ h0)]) (λi Z S h=>by simp only[MI.at,aw (hat _ _ _ h)]) (by simp only[MI.len,aw (hat _ _ _ h0),Kv]) h0 hstep hend
def yW {t:E}{b:Ss}(I:Jx->Fm->aa->Prop)(m:Jx)(ot:dD t=true)(ok:gQ b=true)(hm:m < fuel)(h0:I m Z S)
  (hstep:∀m Z S,I m Z S->wT M t Z S λk=>(k.1=true->∃m',m=m'+1/\wD M fuel b Z k.2 (I m') Q)/\(k.1=false->K Z k.2)):Wp (gb M fuel (.whl t b) Z S) (rC K Q):=by
 rw[gb];refine lp (Q:=rC K Q) I (λm Z S hI=>(i5 t ot (hstep m Z S hI)).mono λk hk=>#[λz=>?_,λz=>hk.2 z]) fuel m Z S hm h0
 obtain⟨m',e,h⟩:=hk.1 z;exact#[m',e,jw b ok (wZ.out (h _ (λ_ _ h=>h) λ_ _ h=>h))]
abbrev wC (M:JV->FF):Es->Fm->aa->QB->Prop
 | .nil,_,S,Q=>Q (true,S)
 | .cons e .nil,Z,S,Q=>wT M e Z S Q
 | .cons _ (.cons _ _),_,_,_=>K5
def yX {cs:Es}{Q:QB}(ok:oK cs=true)(h:wC M cs Z S Q):Wp (BJ M cs Z S) Q:=by
 match cs,h,ok with
 | .nil,h,_=>exact Gq.mpr h
 | .cons e .nil,h,ok=>exact Gr.mpr (i5 e (da ok) h)
abbrev gR (M:JV->FF)(elt:E)(cs:Es)(Z:Fm)(S:aa)(G:W->Fm->aa->Prop)(N:Fm->aa->Prop):Prop:=wC M cs Z S λk=>(k.1=true->wE M elt Z k.2 λy=>G y.1 Z y.2)/\(k.1=false->N Z k.2)
def jx {elt:E}{tg:Tg}{it:Ie}{cs:Es}{cap:Jn (Jw Jx)}{mi:MI}{S1:aa}{xs:Jn W}{Q:QW}(I:Jx->Jn W->Fm->aa->Prop)(oe:dD elt=true)(oc:oK cs=true)(hi:jS M it Z S=ba (mi,S1))(hat:∀i ys Z S,I i ys Z S->mi.at S i=ba xs[i]?)(hl:mi.len S1=ba xs.length)(h0:I 0 [] (eZ cap Z) S1)
  (hstep:∀(i:Jx) (w:W) (ys:Jn W) (Z:Fm) (S:aa),xs[i]?=ba w->I i ys Z S->wO (eS tg w Z S) λq=>gR M elt cs q.1 q.2 (λy=>I (i+1) (ys++[y])) (I (i+1) ys))
  (hend:∀ys Z S,I xs.length ys Z S->ys.length<=sizeLine/\Q (.ref S.length,S++[.lst ys])):Wp (aB M (.comp elt tg it cs cap) Z S) Q:=by
 rw[sD];refine#[_,hi,xs.length,hl,?_];refine(cN (xs:=xs) (Q:=λq=>q.1.length<=sizeLine/\Q (.ref q.2.length,q.2++[.lst q.1])) I hat (λi w ys Z S h1 h2=>?_) hend xs.length 0 [] _ S1 ∅ h0).mono λq hq=>by simpa using hq
 exact(bZ (hstep i w ys Z S h1 h2)).mono λq hq=>(yX oc hq).mono λk hk=>#[λz=>aW elt oe (hk.1 z),hk.2]
def dM {elt e:E}{i0:Jx}{cs:Es}{cap:Jn (Jw Jx)}{Q:QW}(j:JI)(I:Jx->Jn W->Fm->aa->Prop)(oi:dD e=true)(oe:dD elt=true)(oc:oK cs=true)(hj : -(2 ^ 62)<=j/\j < 2 ^ 62)(he:wE M e Z S λp=>p.1=.int j/\I 0 [] (eZ cap Z) p.2)
  (hstep:∀(i:Jx) (ys:Jn W) (Z:Fm) (S:aa),(i:JI) < j->I i ys Z S->gR M elt cs (Z.set i0 (ba (.int i))) S (λy=>I (i+1) (ys++[y])) (I (i+1) ys))
  (hend:∀ys Z S,I j.toNat ys Z S->ys.length<=sizeLine/\Q (.ref S.length,S++[.lst ys])):Wp (aB M (.comp elt (.nm i0) (.rng #v[e]) cs cap) Z S) Q:=by
 obtain⟨w,S1,e1,rfl,h0⟩:=bB oi he;have hl:(c8 0 j.toNat).length=j.toNat:=by simp[c8]
 refine jx (mi:=.its (c8 0 j.toNat)) (S1:=S1) (xs:=c8 0 j.toNat) I oe oc ?_ (λ_ _ _ _ _=>rfl) rfl h0 (λi w ys Z S hw hI=>?_) λys Z S hI=>hend ys Z S (hl ▸ hI)
 ·simp only[jS,cY,dF,iW,su,e1];rw[JZ hj]
 ·rw[d8]at hw;split at hw
  ·rename_i hk;cases hw;rw[Pk];exact hstep i ys Z S ∅ hI
  ·cases hw
def uC {elt e:E}{tg:Tg}{cs:Es}{cap:Jn (Jw Jx)}{Q:QW}(xs:Jn W)(I:Jx->Jn W->Fm->aa->Prop)(oi:dD e=true)(oe:dD elt=true)(oc:oK cs=true)(he:wE M e Z S λp=>p.1=.tup xs/\I 0 [] (eZ cap Z) p.2)
  (hstep:∀(i:Jx) (w:W) (ys:Jn W) (Z:Fm) (S:aa),xs[i]?=ba w->I i ys Z S->wO (eS tg w Z S) λq=>gR M elt cs q.1 q.2 (λy=>I (i+1) (ys++[y])) (I (i+1) ys))
  (hend:∀ys Z S,I xs.length ys Z S->ys.length<=sizeLine/\Q (.ref S.length,S++[.lst ys])):Wp (aB M (.comp elt tg (.seq e) cs cap) Z S) Q:=by
 obtain⟨w,S1,e1,rfl,h0⟩:=bB oi he;exact jx (mi:=.its xs) (S1:=S1) I oe oc (by simp only[jS,eY,e1]) (λ_ _ _ _ _=>rfl) rfl h0 hstep hend
def oM {elt e:E}{tg:Tg}{cs:Es}{cap:Jn (Jw Jx)}{Q:QW}(t:Jx)(xs:Jn W)(I:Jx->Jn W->Fm->aa->Prop)(oi:dD e=true)(oe:dD elt=true)(oc:oK cs=true)(he:wE M e Z S λp=>p.1=.ref t/\I 0 [] (eZ cap Z) p.2)(hat:∀i ys Z S,I i ys Z S->S[t]?=ba (.lst xs))
  (hstep:∀(i:Jx) (w:W) (ys:Jn W) (Z:Fm) (S:aa),xs[i]?=ba w->I i ys Z S->wO (eS tg w Z S) λq=>gR M elt cs q.1 q.2 (λy=>I (i+1) (ys++[y])) (I (i+1) ys))
  (hend:∀ys Z S,I xs.length ys Z S->ys.length<=sizeLine/\Q (.ref S.length,S++[.lst ys])):Wp (aB M (.comp elt tg (.seq e) cs cap) Z S) Q:=by
 obtain⟨w,S1,e1,rfl,h0⟩:=bB oi he;exact jx (mi:=.live t) (S1:=S1) I oe oc (by simp only[jS,eY,e1,aw (hat _ _ _ _ h0)]) (λi ys Z S h=>by simp only[MI.at,aw (hat _ _ _ _ h)]) (by simp only[MI.len,aw (hat _ _ _ _ h0),Kv]) h0 hstep hend
def BS {elt a:E}{tg:Tg}{cs:Es}{cap:Jn (Jw Jx)}{Q:QW}(xs:Jn W)(I:Jx->Jn W->Fm->aa->Prop)(oa:dD a=true)(oe:dD elt=true)(oc:oK cs=true)(he:wE M a Z S λp=>EU p.1=ba xs/\I 0 [] (eZ cap Z) p.2)
  (hstep:∀(i:Jx) (x:W) (ys:Jn W) (Z:Fm) (S:aa),xs[i]?=ba x->I i ys Z S->wO (eS tg (.tup [.int i,x]) Z S) λq=>gR M elt cs q.1 q.2 (λy=>I (i+1) (ys++[y])) (I (i+1) ys))
  (hend:∀ys Z S,I xs.length ys Z S->ys.length<=sizeLine/\Q (.ref S.length,S++[.lst ys])):Wp (aB M (.comp elt tg (.enu #v[a]) cs cap) Z S) Q:=by
 obtain⟨x,S1,e1,h1,h0⟩:=bB oa he;have hl:(oy xs).length=xs.length:=by simp[oy]
 refine jx (mi:=.its (oy xs)) (S1:=S1) (xs:=oy xs) I oe oc (by simp only[jS,cY,dF,iW,BG,e1,h1]) (λ_ _ _ _ _=>rfl) rfl h0 (λi w ys Z S hw hI=>?_) λys Z S hI=>hend ys Z S (hl ▸ hI)
 obtain⟨y,hy,rfl⟩:=qu hw;exact hstep i y ys Z S hy hI
def st {s:Sm}{ss:Ss}(h:wS M fuel s Z S (λZ' S'=>wZ M fuel ss Z' S' Q) Q):wZ M fuel (.cons s ss) Z S Q:=#[by
 dsimp only[BR];simp only[GC];exact h]
def b6 (h:Q (.nx Z,S)):wZ M fuel .nil Z S Q:=#[h]
def aF {t:J6}{a b:Ss}{Q Q0:QO}{K:Fm->aa->Prop}(ha:t=true->∀Q':QO,(∀Z' S',K Z' S'->Q' (.nx Z',S'))->(∀w S',Q (.rt w,S')->Q' (.rt w,S'))->wZ M fuel a Z S Q')(hb:t=false->∀Q':QO,(∀Z' S',K Z' S'->Q' (.nx Z',S'))->(∀w S',Q (.rt w,S')->Q' (.rt w,S'))->wZ M fuel b Z S Q') :
  ∀Q':QO,(∀Z' S',K Z' S'->Q' (.nx Z',S'))->(∀o S',(∀Z',o≠.nx Z')->Q (o,S')->Q' (o,S'))->(t=true->BR M fuel a Z S Q')/\(t=false->BR M fuel b Z S Q'):=
 λQ' h1 h2=>#[λe=>(ha e Q' h1 λw S'=>h2 (.rt w) S' (λ_ z=>nomatch z)).out,λe=>(hb e Q' h1 λw S'=>h2 (.rt w) S' (λ_ z=>nomatch z)).out]
end
abbrev en:Ss:=
 #v[.ret (.lst #v[.bi .list #v[.v 0],.c (.int 0),.c (.int 0),.c (.int 1),.c (.int 0)])]
abbrev cy:Ss:=
 #v[.ite (.and (.cmp .eq (.ix (.v 0) (.c (.int 2))) (.c (.int 0))) (.cmp .lt (.ix (.v 0) (.c (.int 1))) (.bi .len #v[.ix (.v 0) (.c (.int 0))]))) #v[.set 2 (.ix (.ix (.v 0) (.c (.int 0))) (.ix (.v 0) (.c (.int 1)))),.put (.v 0) (.c (.int 1)) (.op .add (.ix (.v 0) (.c (.int 1))) (.c (.int 1))),.ite (.cmp .ge (.v 2) (.op .pow (.c (.int 10)) (.c (.int 18)))) #v[.put (.v 0) (.c (.int 2)) (.v 2)] #v[.put (.v 0) (.c (.int 3)) (.op .mod (.op .add (.op .add (.op .mul (.ix (.v 0) (.c (.int 3))) (.c (.int 40013))) (.op .mod (.v 2) (.c (.int 1000003)))) (.c (.int 1))) (.c (.int 2147483647)))]] .nil,.ite (.cmp .gt (.ix (.v 0) (.c (.int 2))) (.c (.int 0))) #v[.set 3 (.op .mod (.ix (.v 0) (.c (.int 2))) (.v 1)),.put (.v 0) (.c (.int 2)) (.op .fdiv (.ix (.v 0) (.c (.int 2))) (.v 1)),.ret (.v 3)] .nil,.put (.v 0) (.c (.int 4)) (.op .add (.ix (.v 0) (.c (.int 4))) (.c (.int 1))),.put (.v 0) (.c (.int 3)) (.op .mod (.op .add (.op .add (.op .mul (.ix (.v 0) (.c (.int 3))) (.c (.int 48271))) (.c (.int 12820163))) (.ix (.v 0) (.c (.int 4)))) (.c (.int 2147483647))),.ret (.op .mod (.op .fdiv (.op .mod (.op .mul (.op .add (.op .mod (.ix (.v 0) (.c (.int 3))) (.c (.int 65521))) (.c (.int 1))) (.op .add (.op .fdiv (.ix (.v 0) (.c (.int 3))) (.c (.int 65521))) (.c (.int 7919)))) (.c (.int 1000003))) (.c (.int 7))) (.v 1))]
abbrev di:Ss:=
 #v[.ret (.me .join (.c (.str "")) #v[.comp (.ix (.c (.str "abcdefghijklmnopqrstuvwxyz")) (.own "_law_pick" 2 #v[.v 2,.c (.int 26)])) (.nm 1) (.rng #v[.v 1]) .nil [gV,gV,ba 0]])]
abbrev fL:Ss:=
 #v[.ite (.cmp .ne (.v 1) (.c (.str ""))) #v[.ret (.op .add (.v 1) (.own "_law_letters" 2 #v[.v 0,.op .add (.c (.int 1)) (.own "_law_pick" 2 #v[.v 0,.c (.int 2)])]))] .nil,.ite (.cmp .eq (.own "_law_pick" 2 #v[.v 0,.c (.int 6)]) (.c (.int 0))) #v[.set 2 (.lst #v[.c (.str "markss"),.c (.str "mark"),.c (.str "way"),.c (.str "wayss"),.c (.str "bars"),.c (.str "ba"),.c (.str "somex")]),.set 2 (.op .add (.v 2) (.lst #v[.c (.str "eachx"),.c (.str "note"),.c (.str "no"),.c (.str "ands"),.c (.str "ors"),.c (.str "o"),.c (.str "iss")])),.ret (.ix (.v 2) (.own "_law_pick" 2 #v[.v 0,.c (.int 14)]))] .nil,.ret (.own "_law_letters" 2 #v[.v 0,.op .add (.c (.int 1)) (.own "_law_pick" 2 #v[.v 0,.c (.int 8)])])]
abbrev cF:Ss:=
 #v[.set 2 (.c (.str "")),.ite (.cmp .eq (.own "_law_pick" 2 #v[.v 0,.c (.int 3)]) (.c (.int 0))) #v[.set 2 (.own "_law_letters" 2 #v[.v 0,.op .add (.c (.int 1)) (.own "_law_pick" 2 #v[.v 0,.c (.int 6)])])] .nil,.set 3 (.lst #v[.c (.str "marks"),.c (.str "ways"),.c (.str "bar"),.c (.str "some"),.c (.str "each"),.c (.str "not"),.c (.str "and"),.c (.str "or"),.c (.str "is")]),.loop (.nm 4) (.rng #v[.v 1]) #v[.set 5 (.own "_law_name" 2 #v[.v 0,.v 2]),.set 6 (.c (.int 0)),.whl (.cmp .isin (.v 5) (.v 3)) #v[.set 5 (.op .mul (.ix (.c (.str "abcdefghijklmnopqrstuvwxyz")) (.op .mod (.v 6) (.c (.int 26)))) (.op .add (.c (.int 1)) (.op .fdiv (.v 6) (.c (.int 26))))),.set 6 (.op .add (.v 6) (.c (.int 1)))],.ex (.me .append (.v 3) #v[.v 5])],.ret (.bi .tuple #v[.sl (.v 3) (.yes (.c (.int 9))) .no])]
abbrev dj:Ss:=
 #v[.ite (.cmp .lt (.v 3) (.v 2)) #v[.ret (.ix (.ix (.ix (.v 1) (.v 2)) (.c (.int 1))) (.v 3))] .nil,.ret (.ix (.ix (.ix (.v 0) (.c (.int 1))) (.ix (.ix (.ix (.v 1) (.v 3)) (.c (.int 1))) (.v 2))) (.c (.int 1)))]
abbrev fM:Ss:=
 #v[.set 3 (.lst .nil),.loop (.nm 4) (.rng #v[.bi .len #v[.v 2]]) #v[.set 5 (.ix (.v 2) (.v 4)),.ex (.me .append (.v 3) #v[.tup #v[.ix (.ix (.v 1) (.v 5)) (.c (.int 0)),.bi .tuple #v[.comp (.own "_law_between" 4 #v[.v 3,.v 4,.v 2,.v 1]) (.nm 1) (.seq (.sl (.v 2) .no (.yes (.v 4)))) .nil [gV,gV,ba 5,ba 0,ba 1]]]])],.ret (.bi .tuple #v[.v 3])]
abbrev gl:Ss:=
 #v[.ret (.lst #v[.tup #v[.c (.int 0),.c (.int 1),.c (.int 2)],.tup #v[.c (.int 0),.c (.int 2),.c (.int 1)],.tup #v[.c (.int 1),.c (.int 0),.c (.int 2)],.tup #v[.c (.int 1),.c (.int 2),.c (.int 0)],.tup #v[.c (.int 2),.c (.int 0),.c (.int 1)],.tup #v[.c (.int 2),.c (.int 1),.c (.int 0)]])]
abbrev dN:Ss:=
 #v[.ret (.bi .min #v[.comp (.own "_law_part" 3 #v[.v 2,.v 3,.v 1]) (.nm 1) (.seq (.own "_law_turns" 0 .nil)) .nil [gV,gV,ba 0,ba 1]])]
abbrev eG:Ss:=
 #v[.set 2 (.ix (.lst #v[.lst #v[.tup #v[.c (.int 0)]],.lst #v[.tup #v[.c (.int 0),.c (.int 1)],.tup #v[.c (.int 1),.c (.int 0)]],.lst #v[.tup #v[.c (.int 0),.c (.int 1),.c (.int 2)],.tup #v[.c (.int 1),.c (.int 0),.c (.int 2)],.tup #v[.c (.int 0),.c (.int 2),.c (.int 1)]]]) (.op .sub (.v 1) (.c (.int 1)))),.ret (.ix (.v 2) (.own "_law_pick" 2 #v[.v 0,.bi .len #v[.v 2]]))]
abbrev dk:Ss:=
 #v[.set 4 (.own "_law_names" 2 #v[.v 0,.op .add (.v 1) (.bi .len #v[.v 2])]),.set 5 (.bi .tuple #v[.comp (.tup #v[.ix (.v 4) (.op .add (.v 3) (.v 1)),.ix (.v 2) (.v 1)]) (.nm 1) (.rng #v[.bi .len #v[.v 2]]) .nil [gV,gV,ba 2,ba 1,ba 4]]),.ret (.tup #v[.sl (.v 4) .no (.yes (.v 1)),.v 5,.bi .tuple #v[.bi .sorted #v[.v 3]]])]
abbrev bV:Ss:=
 #v[.set 3 (.lst .nil),.loop (.nm 4) (.rng #v[.c (.int 3)]) #v[.ex (.me .append (.v 3) #v[.tup #v[.own "_law_pick" 2 #v[.v 0,.v 1],.bi .tuple #v[.comp (.own "_law_pick" 2 #v[.v 2,.v 3]) (.nm 1) (.rng #v[.v 4]) .nil [gV,gV,ba 0,ba 2]]]])],.ret (.bi .tuple #v[.v 3])]
abbrev eH:Ss:=
 #v[.set 1 (.lst #v[.tup #v[.c (.int 1),.c (.int 1)],.tup #v[.c (.int 2),.c (.int 1)],.tup #v[.c (.int 3),.c (.int 1)],.tup #v[.c (.int 1),.c (.int 2)],.tup #v[.c (.int 1),.c (.int 2)],.tup #v[.c (.int 2),.c (.int 2)],.tup #v[.c (.int 2),.c (.int 2)],.tup #v[.c (.int 3),.c (.int 2)],.tup #v[.c (.int 1),.c (.int 3)],.tup #v[.c (.int 1),.c (.int 3)],.tup #v[.c (.int 2),.c (.int 3)]]),.ret (.ix (.v 1) (.own "_law_pick" 2 #v[.v 0,.c (.int 11)]))]
abbrev cO:Ss:=
 #v[.asg [1,2] (.own "_law_sizes" 1 #v[.v 0]),.set 3 (.own "_law_rule_of" 4 #v[.v 0,.v 1,.own "_law_backs" 2 #v[.v 0,.v 2],.tup .nil]),.set 4 .dnew,.loop (.nm 5) (.rng #v[.own "_law_pick" 2 #v[.v 0,.c (.int 9)]]) #v[.put (.v 4) (.own "_law_figure" 2 #v[.v 3,.own "_law_free_three" 3 #v[.v 0,.v 1,.v 2]]) (.c (.bl true))],.ret (.tup #v[.ix (.v 3) (.c (.int 0)),.ix (.v 3) (.c (.int 1)),.bi .tuple #v[.bi .sorted #v[.v 4]]])]
abbrev bK:Ss:=
 #v[.set 1 (.lst #v[.tup #v[.tup #v[.c (.int 1),.c (.int 0)],.disp #v[.tup #v[.c (.int 0),.c (.int 0)],.lst #v[.c (.int 0)]],.c (.int 3)],.tup #v[.tup #v[.c (.int 0),.c (.int 2),.c (.int 1)],.disp #v[.tup #v[.c (.int 1),.c (.int 1)],.lst #v[.c (.int 1)]],.c (.int 2)],.tup #v[.tup #v[.c (.int 0),.c (.int 1)],.disp #v[.tup #v[.c (.int 1),.c (.int 1)],.lst #v[.c (.int 1)]],.c (.int 3)]]),.ex (.me .append (.v 1) #v[.tup #v[.tup #v[.c (.int 0),.c (.int 1)],.disp #v[.tup #v[.c (.int 1),.c (.int 1)],.lst #v[.c (.int 1)],.tup #v[.c (.int 0),.c (.int 0)],.lst #v[.c (.int 1)]],.c (.int 3)]]),.ex (.me .append (.v 1) #v[.tup #v[.tup #v[.c (.int 0),.c (.int 1)],.disp #v[.tup #v[.c (.int 1),.c (.int 1)],.lst .nil],.c (.int 1)]]),.ex (.me .append (.v 1) #v[.tup #v[.tup #v[.c (.int 0),.c (.int 2),.c (.int 1)],.disp #v[.tup #v[.c (.int 0),.c (.int 0)],.lst #v[.c (.int 0)],.tup #v[.c (.int 0),.c (.int 1)],.lst #v[.c (.int 1)],.tup #v[.c (.int 1),.c (.int 0)],.lst #v[.c (.int 1)],.tup #v[.c (.int 1),.c (.int 1)],.lst #v[.c (.int 1)]],.c (.int 2)]]),.ex (.me .append (.v 1) #v[.tup #v[.tup #v[.c (.int 1),.c (.int 0)],.dnew,.c (.int 3)]]),.ex (.me .append (.v 1) #v[.tup #v[.tup #v[.c (.int 0),.c (.int 1),.c (.int 2)],.disp #v[.tup #v[.c (.int 2),.c (.int 2)],.lst #v[.c (.int 2)],.tup #v[.c (.int 1),.c (.int 2)],.lst #v[.c (.int 1)],.tup #v[.c (.int 2),.c (.int 1)],.lst #v[.c (.int 1)],.tup #v[.c (.int 1),.c (.int 1)],.lst #v[.c (.int 1),.c (.int 2)]],.c (.int 2)]]),.ex (.me .append (.v 1) #v[.tup #v[.tup #v[.c (.int 0),.c (.int 1),.c (.int 2)],.disp #v[.tup #v[.c (.int 0),.c (.int 0)],.lst #v[.c (.int 0),.c (.int 1)]],.c (.int 2)]]),.ret (.ix (.v 1) (.own "_law_pick" 2 #v[.v 0,.c (.int 9)]))]
abbrev dO:Ss:=
 #v[.set 5 (.disp #v[.tup #v[.c (.int 1),.c (.int 0)],.v 2,.tup #v[.c (.int 2),.c (.int 0)],.v 3,.tup #v[.c (.int 2),.c (.int 1)],.v 4]),.loop (.nm 6) (.seq (.bi .list #v[.v 5])) #v[.put (.v 5) (.tup #v[.ix (.v 6) (.c (.int 1)),.ix (.v 6) (.c (.int 0))]) (.ix (.v 0) (.ix (.v 5) (.v 6)))],.loop (.tp [7,8,9]) (.seq (.own "_law_turns" 0 .nil)) #v[.ite (.cmp .notin (.ix (.v 5) (.tup #v[.v 7,.v 9])) (.me .get (.v 1) #v[.tup #v[.ix (.v 5) (.tup #v[.v 7,.v 8]),.ix (.v 5) (.tup #v[.v 8,.v 9])],.lst #v[.ix (.v 5) (.tup #v[.v 7,.v 9])]])) #v[.ret (.c (.bl true))] .nil],.ret (.c (.bl false))]
abbrev a9:Ss:=
 #v[.set 3 (.bi .len #v[.v 1]),.set 4 (.lst #v[.lst #v[.tup #v[.c (.int 0)]],.lst #v[.tup #v[.c (.int 0),.c (.int 1)],.tup #v[.c (.int 1),.c (.int 0)]]]),.ex (.me .append (.v 4) #v[.lst #v[.tup #v[.c (.int 0),.c (.int 1),.c (.int 2)],.tup #v[.c (.int 0),.c (.int 2),.c (.int 1)],.tup #v[.c (.int 2),.c (.int 0),.c (.int 1)],.tup #v[.c (.int 2),.c (.int 1),.c (.int 0)]]]),.set 5 (.ix (.v 4) (.op .sub (.v 3) (.c (.int 1)))),.ite (.cmp .eq (.v 1) (.tup #v[.c (.int 0),.c (.int 1),.c (.int 2)])) #v[.set 5 (.own "_law_turns" 0 .nil)] .nil,.set 6 (.ix (.v 5) (.own "_law_pick" 2 #v[.v 0,.bi .len #v[.v 5]])),.set 7 (.op .mul (.lst #v[.c (.int 0)]) (.v 3)),.loop (.nm 8) (.rng #v[.v 3]) #v[.put (.v 7) (.ix (.v 6) (.v 8)) (.ix (.v 6) (.ix (.v 1) (.v 8)))],.set 9 .dnew,.loop (.tp [10,11]) (.seq (.v 2)) #v[.put (.v 9) (.tup #v[.ix (.v 6) (.v 10),.ix (.v 6) (.v 11)]) (.comp (.ix (.v 2) (.v 1)) (.nm 1) (.seq (.ix (.v 2) (.tup #v[.v 10,.v 11]))) .nil [gV,gV,ba 6])],.ret (.tup #v[.bi .tuple #v[.v 7],.v 9])]
abbrev bL:Ss:=
 #v[.set 1 (.own "_law_pick" 2 #v[.v 0,.c (.int 7)]),.ite (.cmp .eq (.v 1) (.c (.int 0))) #v[.ret (.own "_law_free_rule" 1 #v[.v 0])] .nil,.ite (.cmp .eq (.v 1) (.c (.int 1))) #v[.ret (.own "_law_one_way_rule" 1 #v[.v 0])] .nil,.asg [2,3,4] (.own "_law_laying_kind" 1 #v[.v 0]),.set 5 (.op .add (.c (.int 1)) (.own "_law_pick" 2 #v[.v 0,.v 4])),.asg [2,3] (.own "_law_numbered" 3 #v[.v 0,.v 2,.v 3]),.set 6 (.own "_law_rule_of" 4 #v[.v 0,.v 5,.v 2,.tup .nil]),.set 7 .dnew,.set 8 (.bi .len #v[.v 2]),.loop (.nm 9) (.rng #v[.op .mul (.op .mul (.v 8) (.v 8)) (.v 8)]) #v[.par 10 11 #v[.op .mod (.v 9) (.v 8),.op .mod (.op .fdiv (.v 9) (.v 8)) (.v 8)],.set 12 (.op .fdiv (.op .fdiv (.v 9) (.v 8)) (.v 8)),.ite (.own "_law_breaks" 5 #v[.v 2,.v 3,.v 10,.v 11,.v 12]) #v[.loop (.nm 13) (.seq (.own "_law_rising" 1 #v[.v 5])) #v[.set 14 (.tup #v[.tup #v[.ix (.v 13) (.c (.int 0)),.tup .nil],.tup #v[.ix (.v 13) (.c (.int 1)),.tup #v[.v 10]]]),.put (.v 7) (.own "_law_figure" 2 #v[.v 6,.op .add (.v 14) (.tup #v[.tup #v[.ix (.v 13) (.c (.int 2)),.tup #v[.v 11,.v 12]]])]) (.c (.bl true))]] .nil],.ret (.tup #v[.ix (.v 6) (.c (.int 0)),.ix (.v 6) (.c (.int 1)),.bi .tuple #v[.bi .sorted #v[.v 7]]])]
abbrev dP:Ss:=
 #v[.set 1 (.lst .nil),.loop (.nm 2) (.rng #v[.v 0]) #v[.loop (.nm 3) (.rng2 #v[.v 2,.v 0]) #v[.set 1 (.op .add (.v 1) (.comp (.tup #v[.v 2,.v 3,.v 1]) (.nm 1) (.rng2 #v[.v 3,.v 0]) .nil [gV,gV,ba 2,ba 3]))]],.ret (.v 1)]
abbrev cu:Ss:=
 #v[.asg [1,2] (.own "_law_sizes" 1 #v[.v 0]),.set 3 (.own "_law_rule_of" 4 #v[.v 0,.v 1,.own "_law_backs" 2 #v[.v 0,.v 2],.tup .nil]),.set 5 (.comp (.v 1) (.nm 1) (.rng #v[.v 2]) #v[.cmp .eq (.ix (.ix (.ix (.v 2) (.c (.int 1))) (.v 1)) (.c (.int 1))) (.v 1)] [gV,gV,ba 3]),.ite (.or (.cmp .eq (.v 5) (.lst .nil)) (.cmp .eq (.v 2) (.c (.int 1)))) #v[.ret (.v 3)] .nil,.set 6 (.ix (.v 5) (.own "_law_pick" 2 #v[.v 0,.bi .len #v[.v 5]])),.set 7 .dnew,.loop (.nm 4) (.rng #v[.own "_law_pick" 2 #v[.v 0,.c (.int 9)]]) #v[.set 8 (.own "_law_free_three" 3 #v[.v 0,.v 1,.v 2]),.ite (.and (.cmp .ne (.ix (.ix (.ix (.v 8) (.c (.int 1))) (.c (.int 1))) (.c (.int 0))) (.v 6)) (.cmp .notin (.v 6) (.ix (.ix (.v 8) (.c (.int 2))) (.c (.int 1))))) #v[.put (.v 7) (.own "_law_figure" 2 #v[.v 3,.v 8]) (.c (.bl true))] .nil],.ret (.tup #v[.ix (.v 3) (.c (.int 0)),.ix (.v 3) (.c (.int 1)),.bi .tuple #v[.bi .sorted #v[.v 7]]])]
abbrev bC:Ss:=
 #v[.set 1 (.op .add (.c (.int 1)) (.own "_law_pick" 2 #v[.v 0,.c (.int 3)])),.set 2 (.comp (.tup #v[.tup #v[.v 1,.tup .nil],.tup #v[.v 1,.tup #v[.c (.int 0)]],.tup #v[.v 1,.tup #v[.c (.int 0),.c (.int 0)]]]) (.nm 1) (.rng #v[.v 1]) #v[.cmp .eq (.own "_law_pick" 2 #v[.v 2,.c (.int 2)]) (.c (.int 0))] [gV,gV,ba 0]),.ret (.own "_law_rule_of" 4 #v[.v 0,.v 1,.tup #v[.c (.int 0)],.v 2])]
abbrev bQ:Ss:=
 #v[.ite (.cmp .is (.v 1) (.c .non)) #v[.ret (.cmp .is (.v 0) (.c .non))] .nil,.ite (.or (.isi "bool" (.v 1)) (.isi "bool" (.v 0))) #v[.ret (.and (.isi "bool" (.v 1)) (.and (.isi "bool" (.v 0)) (.cmp .eq (.v 0) (.v 1))))] .nil,.ite (.isi "int" (.v 1)) #v[.ret (.and (.isi "int" (.v 0)) (.cmp .eq (.v 0) (.v 1)))] .nil,.ite (.isi "str" (.v 1)) #v[.ret (.and (.isi "str" (.v 0)) (.cmp .eq (.v 0) (.v 1)))] .nil,.ite (.or (.cmp .ne (.isi "tuple" (.v 1)) (.isi "tuple" (.v 0))) (.cmp .ne (.isi "list" (.v 1)) (.isi "list" (.v 0)))) #v[.ret (.c (.bl false))] .nil,.ret (.and (.cmp .eq (.bi .len #v[.v 0]) (.bi .len #v[.v 1])) (.bi .all #v[.comp (.own "_law_alike" 2 #v[.ix (.v 3) (.v 1),.ix (.v 2) (.v 1)]) (.nm 1) (.rng #v[.bi .len #v[.v 1]]) .nil [gV,gV,ba 1,ba 0]]))]
abbrev Is (defs:Jn (JV×Df))(f:JV)(np nn:Jx)(b:Ss):Prop:=∃df:Df,defs.lookup f=ba df/\df.ps.length=np/\df.N.length=nn/\df.body=b
def ay {defs:Jn (JV×Df)}{fuel d:Jx}{f:JV}{np nn:Jx}{b:Ss}{ws:Jn W}{S:aa}{Q:QW}(h:Is defs f np nn b)(hl:ws.length=np)(ok:gQ b=true)
  (hb:∀Q':QO,(∀w S',Q (w,S')->Q' (.rt w,S'))->wZ (am defs fuel d) fuel b (ws.map ba++Ks (nn - np) gV) S Q'):wO (aP (am defs fuel (d+1)) f np ws S) Q:=by
 obtain⟨df,h1,h2,h3,h4⟩:=h;subst h4;refine Ej h1 hl (hl.trans h2.symm) ok λQ' hR=>?_
 have:=hb Q' hR;unfold fK;rw[h3,hl];exact this
structure Gen (defs:Jn (JV×Df)):Prop where
 pick:Is defs ("_law_pick" : JV) 2 4 cy
 letters:Is defs ("_law_letters" : JV) 2 2 di
 name:Is defs ("_law_name" : JV) 2 3 fL
 names:Is defs ("_law_names" : JV) 2 7 cF
 between:Is defs ("_law_between" : JV) 4 4 dj
 part:Is defs ("_law_part" : JV) 3 6 fM
 turns:Is defs ("_law_turns" : JV) 0 0 gl
 figure:Is defs ("_law_figure" : JV) 2 2 dN
 backs:Is defs ("_law_backs" : JV) 2 3 eG
 rule_of:Is defs ("_law_rule_of" : JV) 4 6 dk
 free_three:Is defs ("_law_free_three" : JV) 3 5 bV
 sizes:Is defs ("_law_sizes" : JV) 1 2 eH
 any_rule:Is defs ("_law_any_rule" : JV) 1 6 cO
 laying_kind:Is defs ("_law_laying_kind" : JV) 1 2 bK
 breaks:Is defs ("_law_breaks" : JV) 5 10 dO
 numbered:Is defs ("_law_numbered" : JV) 3 12 a9
 laying_rule:Is defs ("_law_laying_rule" : JV) 1 15 bL
 rising:Is defs ("_law_rising" : JV) 1 4 dP
 free_rule:Is defs ("_law_free_rule" : JV) 1 9 cu
 one_way_rule:Is defs ("_law_one_way_rule" : JV) 1 3 bC
structure FlA (S:aa)(r q:Jx)(ns:Jn JI)(i c x n:JI):Prop where
 at_r:S[r]?=ba (.lst [.ref q,.int i,.int c,.int x,.int n])
 at_q:S[q]?=ba (.lst (ns.map W.int))
 lt:q < r
 i0:0<=i
 c0:0<=c
 x0:0<=x
 x1:x < 2147483647
def FlA.ne {S:aa}{r q:Jx}{ns:Jn JI}{i c x n:JI}(h:FlA S r q ns i c x n):q≠r:=J0 h.lt
abbrev Fl (S:aa)(r:Jx):Prop:=∃(q:Jx) (ns:Jn JI) (i c x n:JI),FlA S r q ns i c x n
def FlA.put {S:aa}{r q:Jx}{ns:Jn JI}{i c x n i' c' x' n':JI}(h:FlA S r q ns i c x n)(h1:0<=i')(h2:0<=c')(h3:0<=x')(h4:x' < 2147483647):FlA (S.set r (.lst [.ref q,.int i',.int c',.int x',.int n'])) r q ns i' c' x' n':=
 #[bo h.at_r,by rw[bj (Ne.symm h.ne)]; exact h.at_q,h.lt,h1,h2,h3,h4]
def Fl.keep {S S':aa}{r:Jx}(h:Fl S r)(h1:S'[r]?=S[r]?)(k:Kp r S S'):Fl S' r:=
 let ⟨q,ns,i,c,x,n,f⟩:=h; #[q,ns,i,c,x,n,by rw[h1]; exact f.at_r,k.get _ _ f.ne f.at_q,f.lt,f.i0,f.c0,f.x0,f.x1]
def Fl.lt {S:aa}{r:Jx}(h:Fl S r):r < S.length:=let ⟨_,_,_,_,_,_,f⟩:=h; bP f.at_r
structure Ka (S S':aa):Prop where
 get:∀(j:Jx) (o:O),S[j]?=ba o->S'[j]?=ba o
 len:S.length<=S'.length
def Ka.refl {S:aa}:Ka S S:=#[λ_ _ h=>h,JB _]
def Ka.trans {S S' S'':aa}(a:Ka S S')(b:Ka S' S''):Ka S S'':=#[λj o h=>b.get j o (a.get j o h),JY a.len b.len]
def Ka.push {S:aa}{o:O}:Ka S (S++[o]):=#[λj u h=>ak h,by simp]
def Ka.late {t:Jx}{S0 S:aa}{o:O}(a:Ka S0 S)(h:S0.length<=t):Ka S0 (S.set t o):=
 #[λj u e=>by have:=bP e; rw[bj ∅]; exact a.get j u e,by simpa using a.len]
def Ka.kp {S S':aa}(a:Ka S S')(r:Jx):Kp r S S':=#[λj o _ h=>a.get j o h,a.len]
def Fl.ka {S S':aa}{r:Jx}(h:Fl S r)(k:Ka S S'):Fl S' r:=h.keep (by obtain⟨q,ns,i,c,x,n,f⟩:=h; rw[k.get _ _ f.at_r,f.at_r]) (k.kp r)
def Fl.own {S:aa}{r t:Jx}{o:O}(h:Fl S r)(ht:r < t):Fl (S.set t o) r:=by
 obtain⟨q,ns,i,c,x,n,f⟩:=h;have:=f.lt;exact#[q,ns,i,c,x,n,by rw[bj ∅]; exact f.at_r,by rw[bj ∅]; exact f.at_q,f.lt,f.i0,f.c0,f.x0,f.x1]
def eA {S:aa}{r:Jx}{xs:Jn W}{i:Jx}{w:W}{Q:QW}(h:S[r]?=ba (.lst xs))(hw:xs[i]?=ba w)(q:Q (w,S)):wO (nY (.ref r) (.int (i:JI)) S) Q:=ac (yT h (JR i) (by rw[JO]; exact hw)) q
def mV {S:aa}{r:Jx}{xs:Jn W}{i:Jx}{w:W}{Q:aa->Prop}(h:S[r]?=ba (.lst xs))(hi:Uc (i+1) xs.length=true)(q:Q (S.set r (.lst (xs.set i w)))):wO (iS (.ref r) (.int (i:JI)) w S) Q:=ac (CG h (JR i) (by rw[JO]; exact PN hi)) (by rw[JO]; exact q)
section
variable{defs:Jn (JV×Df)}{fuel d:Jx}{S:aa}{r:Jx}{Q:QW}
def aY (hd:Is defs ("_law_pick" : JV) 2 4 cy){m:JI}(hf:Fl S r)(h0:0 < m)(h1:m < 1073741824)(k:∀v S',0<=v->v < m->Fl S' r->Kp r S S'->Q (.int v,S')) :
  wO (aP (am defs fuel (d+1)) "_law_pick" 2 [.ref r,.int m] S) Q:=by
 obtain⟨q,ns,i,c,x,n,f⟩:=hf;refine ay hd rfl rfl λQ' hR=>?_
 replace k:∀v S',0<=v->v < m->Fl S' r->Kp r S S'->Q' (.rt (.int v),S'):=λv S' a b c e=>hR _ _ (k v S' a b c e)
 clear hR;show wZ _ _ cy [ba (.ref r),ba (.int m),gV,gV] S Q';have bu:∀(S1:aa) (w2:Jw W) (i1 c1 x1 n1:JI),FlA S1 r q ns i1 c1 x1 n1->Kp r S S1->wZ (am defs fuel d) fuel (match cy with|.cons _ ss=>ss|.nil=>.nil) [ba (.ref r),ba (.int m),w2,gV] S1 Q':=by
  intro S1 w2 i1 c1 x1 n1 f1 k1;dsimp only[cy];refine st ?_;dsimp only[wS,wT,wE,wV,wG];refine eA (i:=2) f1.at_r rfl ?_;dsimp only[Gs,wO,wB];refine aF (Q0:=Q') (λhg Q2 hn hr=>?_) (λhg Q2 hn hr=>?_)
  ·clear hn;refine st ?_;dsimp only[wS,wE,wV,wG];refine eA (i:=2) f1.at_r rfl (ac (iY h0) ?_);refine st ?_;dsimp only[wS,wE,wV,wG,JK];refine eA (i:=2) f1.at_r rfl (ac (gk h0 h1) (mV (i:=2) f1.at_r rfl ?_));refine st ?_;dsimp only[wS,wE,wV,wG,JK];exact hr _ _ (k _ _ (Mz _ ∅) (Mr _ h0) #[q,ns,i1,c1 / m,x1,n1,f1.put f1.i0 (Of f1.c0 ∅) f1.x0 f1.x1] (k1.trans .set))
  ·refine b6 (hn _ _ ?_);clear hn hr;have f2:FlA (S1.set r (.lst [.ref q,.int i1,.int c1,.int x1,.int (n1+1)])) r q ns i1 c1 x1 (n1+1):=f1.put f1.i0 f1.c0 f1.x0 f1.x1;refine st ?_;dsimp only[wS,wE,wV,wG];refine eA (i:=4) f1.at_r rfl ?_;dsimp only[db,wO];refine mV (i:=4) f1.at_r rfl ?_;refine st ?_;dsimp only[wS,wE,wV,wG,JK];refine eA (i:=3) f2.at_r rfl (ac (mU #v[] #v[]) ?_)
   dsimp only[db,wO];refine eA (i:=4) f2.at_r rfl ?_;dsimp only[db,wO];refine(mV (i:=3) f2.at_r rfl ?_);have f3:FlA ((S1.set r (.lst [.ref q,.int i1,.int c1,.int x1,.int (n1+1)])).set r (.lst [.ref q,.int i1,.int c1,.int ((x1*48271+12820163+(n1+1)) % 2147483647),.int (n1+1)])) r q ns i1 c1 ((x1*48271+12820163+(n1+1)) % 2147483647) (n1+1):=f2.put f1.i0 f1.c0 (Mz _ #v[]) (Mr _ #v[])
   dsimp only[JK];generalize(x1*48271+12820163+(n1+1)) % 2147483647=y at f3 ⊢;have b1:y / 65521+7919 < 2 ^ 64:=by
    have:=f3.x1;have:=Int.ediv_le_self 65521 f3.x0;omega
   have b2 : -(2 ^ 64) < y / 65521+7919:=by
    have:=Of f3.x0 (show(0:JI)<=65521 by decide)
    omega
   refine st ?_;dsimp only[wS,wE,wV,wG,JK];refine eA (i:=3) f3.at_r rfl (ac (iY #v[]) ?_)
   dsimp only[db,wO];refine eA (i:=3) f3.at_r rfl ?_;dsimp only[db,wO];refine ac (mU b2 b1) ?_;refine ac (iY h0) ?_;exact k _ _ (Mz _ ∅) (Mr _ h0) #[q,ns,_,_,_,_,f3] (k1.trans (Kp.set.trans .set))
 dsimp only[cy]at bu ⊢;refine st ?_;dsimp only[wS,wT,wE,wV,wG,wA];refine eA (i:=2) f.at_r rfl ?_;dsimp only[iZ,wO,wB];have skip:∀Q2:QO,(∀Z' S',wZ (am defs fuel d) fuel _ Z' S' Q'->Q2 (.nx Z',S'))->Q2 (.nx [ba (.ref r),ba (.int m),gV,gV],S):=λQ2 hn=>hn _ _ (bu S gV i c x n f .refl)
 refine#[λ_=>?_,λ_ Q2 hn hr=>#[λz=>(by cases z),λ_=>(b6 (skip Q2 hn)).out]]
 refine eA (i:=1) f.at_r rfl (eA (i:=0) f.at_r rfl (ac (CH f.at_q) ?_));dsimp only[v4,wO,wB];refine aF (Q0:=Q') (λhl Q2 hn _=>?_) (λhg Q2 hn hr=>b6 (skip Q2 hn))
 clear skip;have hl':i.toNat < ns.length:=by
  have:=Kt hl;rw[Jp]at this;have:=f.i0;omega
 have hcell:(ns.map W.int)[i.toNat]?=ba (.int ns[i.toNat]):=by simp[hl']
 generalize ns[i.toNat]=cell at hcell;have f1:FlA (S.set r (.lst [.ref q,.int (i+1),.int c,.int x,.int n])) r q ns (i+1) c x n:=f.put (by have:=f.i0; omega) f.c0 f.x0 f.x1
 refine st ?_;dsimp only[wS,wE,wV,wG];refine eA (i:=0) f.at_r rfl (eA (i:=1) f.at_r rfl (ac (yT f.at_q f.i0 hcell) ?_));refine st ?_;dsimp only[wS,wE,wV,wG,JK];refine eA (i:=1) f.at_r rfl ?_;dsimp only[db,wO];refine mV (i:=1) f.at_r rfl ?_;refine st ?_;dsimp only[wS,wT,wE,wV,wG,Eh,Ip,wO,wB];refine aF (Q0:=Q') (λhg Q3 hn3 _=>?_) (λhg Q3 hn3 _=>?_)
 ·refine st ?_;dsimp only[wS,wE,wV,wG];refine mV (i:=2) f1.at_r rfl (b6 (hn3 _ _ (b6 (hn _ _ ?_))));exact bu _ _ (i+1) cell x n (f1.put f1.i0 (by have:=Kt hg; omega) f.x0 f.x1) (Kp.set.trans .set)
 ·refine st ?_;dsimp only[wS,wE,wV,wG];refine eA (i:=3) f1.at_r rfl (ac (mU #v[] #v[]) (ac (iY #v[]) ?_))
  dsimp only[db,wO];refine mV (i:=3) f1.at_r rfl (b6 (hn3 _ _ (b6 (hn _ _ ?_))));exact bu _ _ (i+1) c _ n (f1.put f1.i0 f.c0 (Mz _ #v[]) (Mr _ #v[])) (Kp.set.trans .set)
end
abbrev dr:Jx->Ss->Ss
 | 0,ss=>ss
 | n+1,.cons _ ss=>dr n ss
 | _,.nil=>.nil
def aH {α:Type}{a:α}{Q:α->Prop}:wO (ba a) Q=Q a:=rfl
def aK {M:JV->FF}{fuel:Jx}{Z:Fm}{S:aa}{Q:QO}{s:Sm}{ss:Ss}(h:∀K:Fm->aa->Prop,(∀Z' S',wZ M fuel ss Z' S' Q->K Z' S')->wS M fuel s Z S K Q):wZ M fuel (.cons s ss) Z S Q:=st (h _ λ_ _ h=>h)
def GD {M:JV->FF}{fuel:Jx}{Z:Fm}{S:aa}{i:Jx}{e:E}{K:Fm->aa->Prop}{Q:QO}(h:wE M e Z S λp=>K (Z.set i (ba p.1)) p.2):wS M fuel (.set i e) Z S K Q:=h
def i6 {n:Jx}(h:Uc n 1000=true):n<=sizeLine:=JY (PN h) (by rw[Ky]; decide)
def jV {n:Jx}(h:n<=1000):n<=sizeLine:=JY h (by rw[Ky]; decide)
def fQ {S:aa}{r:Jx}{xs:Jn W}{i:JI}{w:W}{Q:QW}(h:S[r]?=ba (.lst xs))(h0:0<=i)(hw:xs[i.toNat]?=ba w)(q:Q (w,S)):wO (nY (.ref r) (.int i) S) Q:=ac (yT h h0 hw) q
def aj {S:aa}{xs:Jn W}{i:JI}{w:W}{Q:QW}(h0:0<=i)(hw:xs[i.toNat]?=ba w)(q:Q (w,S)):wO (nY (.tup xs) (.int i) S) Q:=ac (Gv h0 hw) q
def uD {S:aa}{r:Jx}{xs:Jn W}{y:W}{Q:QW}(h:S[r]?=ba (.lst xs))(hl:xs.length < 1000)(q:Q (.non,S.set r (.lst (xs++[y])))):wO (Me.append.fn (.ref r) [y] S) Q:=ac (uA h (J4 hl (i6 rfl))) q
def gm {S:aa}{r:Jx}{xs:Jn W}{Q:QW}(h:S[r]?=ba (.lst xs))(q:Q (.int xs.length,S)):wO (Bi.len.fn [.ref r] S) Q:=ac (CH h) q
def bp {S:aa}{xs:Jn W}{Q:QW}(q:Q (.int xs.length,S)):wO (Bi.len.fn [.tup xs] S) Q:=q
def fj {S:aa}{r:Jx}{xs:Jn W}{Q:QW}(h:S[r]?=ba (.lst xs))(q:Q (.tup xs,S)):wO (Bi.tuple.fn [.ref r] S) Q:=ac (Gw h) q
section
variable{M:JV->FF}{fuel:Jx}{Z:Fm}{S S1:aa}{K:Fm->aa->Prop}
def dc {t:E}{a:Ss}{Q:QO}(ht:∀Q:QB,Q (false,S1)->wT M t Z S Q)(h:K Z S1):wS M fuel (.ite t a .nil) Z S K Q:=by
 dsimp only[wS];exact ht _ λQ' h1 h2=>#[λz=>(by cases z),λ_=>(b6 (h1 _ _ h)).out]
def lq {t:E}{a b:Ss}{Q:QO}(ht:∀Q:QB,Q (true,S1)->wT M t Z S Q)(h:∀Q':QO,(∀Z' S',K Z' S'->Q' (.nx Z',S'))->(∀w S',Q (.rt w,S')->Q' (.rt w,S'))->wZ M fuel a Z S1 Q'):wS M fuel (.ite t a b) Z S K Q:=by
 dsimp only[wS];exact ht _ λQ' h1 h2=>#[λ_=>(h Q' h1 λw S' q=>h2 (.rt w) S' (λ_ z=>nomatch z) q).out,λz=>(by cases z)]
end
def yY:∀k:Fin 26,("abcdefghijklmnopqrstuvwxyz" : JV).cps.toList[k.val]?=ba (97+k.val):=by decide
def uE:("abcdefghijklmnopqrstuvwxyz" : JV).length<=sizeLine:=by decide
def lr:∀cs:Jn Jx,jm (cs.map λc=>W.str #[[c].toArray])=ba (cs.map λc=>(#[[c].toArray] : JV))
 | []=>rfl
 | c::cs=>by simp[jm,lr cs]
def mW:∀cs:Jn Jx,((cs.map λc=>(#[[c].toArray] : JV)).map (·.length)).sum=cs.length
 | []=>rfl
 | c::cs=>by
  have:=mW cs;simp only[KF,Nz,J9];rw[this];show 1+cs.length=_;omega
def fN (a b:JV):(a++b).cps.toList=a.cps.toList++b.cps.toList:=Oi
def lu:∀cs:Jn Jx,(T6 "" (cs.map λc=>(#[[c].toArray] : JV))).cps.toList=cs
 | []=>rfl
 | [c]=>rfl
 | c::d::cs=>by
  have ih:=lu (d::cs);show(((#[[c].toArray] : JV)++("" : JV)++T6 "" ((d::cs).map λc=>(#[[c].toArray] : JV))).cps).toList=_
  rw[fN,fN,ih];rfl
def qF (cs:Jn Jx):(SW "" (cs.map λc=>(#[[c].toArray] : JV))).cps.toList=cs:=by
 show(TD "" _).cps.toList=_;rw[StrLaws.glued_eq_join];exact lu cs
abbrev uF (y:JV):Prop:=∀c∈y.cps.toList,97<=c/\c<=122
abbrev Name (y:JV):Prop:=1<=y.cps.toList.length/\y.cps.toList.length<=8/\uF y
def uG (y:JV):y.length=y.cps.toList.length:=by simp[Tq]
abbrev yZ:Jn JV:=["markss","mark","way","wayss","bars","ba","somex","eachx","note","no","ands","ors","o","iss"]
def v6:∀y∈yZ,Name y:=by
 have h:yZ.all (λy=>decide (1<=y.cps.toList.length/\y.cps.toList.length<=8)&&y.cps.toList.all λc=>decide (97<=c/\c<=122))=true:=by decide
 intro y hy;have:=JP.mp h y hy;rw[Jv]at this;obtain⟨a,b⟩:=this;exact#[(Kt a).1,(Kt a).2,λc hc=>Kt (JP.mp b c hc)]
def lv {α:Type}{f:α->W}{xs:Jn α}{i:Jx}(h:i < xs.length):∃x∈xs,(xs.map f)[i]?=ba (f x):=#[xs[i],Kq _,by rw[Jy,Jz h]; rfl]
section
variable{defs:Jn (JV×Df)}{fuel d:Jx}{S:aa}{r:Jx}{Q:QW}
def jy (G:Gen defs){m:JI}(hf:Fl S r)(h0:0<=m)(h1:m<=1000)(k:∀y S',y.cps.toList.length=m.toNat->uF y->Fl S' r->Kp r S S'->Q (.str y,S')) :
  wO (aP (am defs fuel (d+2)) "_law_letters" 2 [.ref r,.int m] S) Q:=by
 refine ay G.letters rfl rfl λQ' hR=>?_
 show wZ _ _ di [ba (.ref r),ba (.int m)] S Q';dsimp only[di];refine st ?_;dsimp only[wS,wE,wA];refine#[rfl,dM m (λi ys Z S'=>(∃a,Z=[gV,a,ba (.ref r)])/\Fl S' r/\Kp r S S'/\∃cs:Jn Jx,ys=cs.map (λc=>W.str #[[c].toArray])/\cs.length=i/\∀c∈cs,97<=c/\c<=122) rfl rfl rfl #[∅,∅] #[rfl,#[gV,rfl],hf,.refl,[],rfl,rfl,λ_ h=>nomatch h] ?_ ?_]
 ·rintro i ys Z S1 hi ⟨⟨a,rfl⟩,f1,k1,cs,rfl,hl,hc⟩;dsimp only[gR,wC,wE,wA,wV,wG,JK];refine#[λ_=>aY (d:=d) G.pick f1 #v[] #v[] λv S2 h2 h3 f2 k2=>?_,λz=>by cases z]
  have ha:=yY #[v.toNat,∅]
  refine ac (CF uE h2 ha) #[#[_,rfl],f2,k1.trans k2,cs++[97+v.toNat],by simp,by simp[hl],λc hx=>?_]
  rcases Kd.mp hx with h|h
  ·exact hc c h
  ·rw[JD.mp h]; omega
 ·rintro ys Z S1 ⟨_,f1,k1,cs,rfl,hl,hc⟩;refine#[by rw[Jp,hl,Ky]; omega,?_]
  have hz:((cs.map λc=>(#[[c].toArray] : JV)).map (·.length)).sum+(cs.map λc=>(#[[c].toArray] : JV)).length*("" : JV).length<=16777216:=by
   rw[mW,show("" : JV).length=0 from rfl,Pl]
   omega
  refine ac (a:=(.str (SW "" (cs.map λc=>(#[[c].toArray] : JV))),S1++[.lst (cs.map λc=>W.str #[[c].toArray])])) ?_ (hR _ _ (k _ _ (by rw[qF,hl]) (λc h=>hc c (by rw[qF]at h; exact h)) (f1.ka .push) (k1.trans .push)))
  simp only[Me.fn,tH,eX,aw ag,lr];rw[JZ hz]
def Ek (G:Gen defs){y:JV}(hf:Fl S r)(h0:y.cps.toList.length<=6)(h1:uF y)(k:∀z S',Name z->Fl S' r->Kp r S S'->Q (.str z,S')) :
  wO (aP (am defs fuel (d+3)) "_law_name" 2 [.ref r,.str y] S) Q:=by
 refine ay G.name rfl rfl λQ' hR=>?_
 replace k:∀z S',Name z->Fl S' r->Kp r S S'->Q' (.rt (.str z),S'):=λz S' a b c=>hR _ _ (k z S' a b c)
 clear hR;show wZ _ _ fL [ba (.ref r),ba (.str y),gV] S Q';dsimp only[fL];nofun
 dsimp only[wS,wT,wE,wV,wG,Gu,wO,wB];refine aF (Q0:=Q') (λ_ Q2 _ hr=>?_) (λ_ Q2 hn _=>?_)
 ·refine st ?_;left;refine aY (d:=d+1) G.pick hf #v[] #v[] λv S1 v0 v1 f1 k1=>?_
  dsimp only[db,wO];refine jy (d:=d) G f1 ∅ ∅ λz S2 hz hs f2 k2=>?_
  have hl:(y++z).cps.toList.length=y.cps.toList.length+z.cps.toList.length:=by rw[fN,JC]
  refine ac (Ei (by rw[uG,uG,Ky]; omega)) (hr _ _ (k _ _ #[∅,∅,λc hc=>?_] f2 (k1.trans k2)))
  rw[fN]at hc;exact(Kd.mp hc).elim (h1 c) (hs c)
 ·refine b6 (hn _ _ (hK _ _ ?_));clear hn hK;nofun
  dsimp only[wS,wT,wE,wA,wV,wG];refine aY (d:=d+1) G.pick hf #v[] #v[] λv S1 v0 v1 f1 k1=>?_
  dsimp only[iZ,wO,wB];refine aF (Q0:=Q') (λ_ Q2 _ hr=>?_) (λ_ Q2 hn _=>?_)
  ·refine st ?_;left;refine st ?_;left;refine ac (yS (i:=S1.length) (j:=(S1++[_]).length) (ak ag) ag (i6 rfl)) ?_;dsimp only;refine st ?_;left;refine aY (d:=d+1) G.pick (((f1.ka .push).ka .push).ka .push) #v[] #v[] λv S2 v0 v1 f2 k2=>?_
   have e:=k2.get _ _ (by have:=f1.lt; simp only[JC]; omega) ag
   obtain⟨z,hz,ez⟩:=lv (f:=W.str) (xs:=yZ) (i:=v.toNat) (by show v.toNat < 14; omega)
   exact fQ e v0 ez (hr _ _ (k _ _ (v6 z hz) f2 (k1.trans (Kp.push.trans (Kp.push.trans (Kp.push.trans k2))))))
  ·refine b6 (hn _ _ (hK _ _ ?_));clear hn hK;refine st ?_;left;refine aY (d:=d+1) G.pick f1 #v[] #v[] λv S2 v0 v1 f2 k2=>?_
   dsimp only[db,wO];exact jy (d:=d) G f2 ∅ ∅ λz S3 hz hs f3 k3=>k _ _ #[∅,∅,hs] f3 (k1.trans (k2.trans k3))
end
def gp {α:Type}[MX α]:∀(l m:Jn α),l.Nodup->(∀x∈l,x∈m)->l.length<=m.length
 | [],_,_,_=>Lj _
 | x::l,m,hn,hs=>by
  rw[K4]at hn;have hx:x∈m:=hs x (.head _);have h1:=gp l (m.erase x) hn.2 λy hy=>(N8 (λ(e:y=x)=>hn.1 (by rw[<- e]; exact hy))).mpr (hs y (.tail _ hy))
  rw[NB hx]at h1;have:=Mj hx;rw[J9]; omega
abbrev lY (k:Jx):JV:=#[[97+k].toArray]
def y4 {a b:Jx}(h:lY a=lY b):a=b:=by
 unfold lY at h;injection h with h
 injection h with h
 injection h with h
 omega
def qG (s:Jx):((JW s).map lY).Nodup:=by
 unfold Tx;rw[MD];exact List.nodup_range.imp λh e=>h (y4 e)
def v8 {k:Jx}(h:k < 26):Name (lY k):=#[JB 1,(by decide:1<=8),λc hc=>by
 cases JD.mp (show c∈[97+k]from hc)
 omega]
abbrev iu:Jn JV:=["marks","ways","bar","some","each","not","and","or","is"]
def y6 (zs:Jn JV):(zs.map W.str).all bY=true:=by
 rw[JP];intro x hx;obtain⟨z,_,rfl⟩:=JE.mp hx;rfl
def BU (zs:Jn JV)(y:JV):((zs.map W.str).any λz=>Ab z (.str y))=decide (y∈zs):=by
 induction zs with
 | nil=>rfl
 | cons z zs ih=>
  rw[KF,Ml,ih];show((z==y)||_)=_
  by_cases h:z=y
  ·subst h; simp
  ·have:(z==y)=false:=by simpa using h
   rw[this,O1];have h2:(y∈z::zs)=(y∈zs):=by simp[Ne.symm h]
   simp only[h2]
def wa {S:aa}{t:Jx}{zs:Jn JV}{y:JV}(h:S[t]?=ba (.lst (zs.map W.str))):cZ .isin (.str y) (.ref t) S=ba (.bl (decide (y∈zs)),S):=by
 simp only[cZ,oG h,iI,ER,xx,eX,aw h];rw[JZ (by rw[y6]; rfl),BU]
 rfl
def El {S:aa}{k:Jx}:fI .mul (.str #[[k].toArray]) (.int 1) S=ba (.str #[[k].toArray],S):=by
 simp only[fI,xr];rw[JZ #[#v[],#v[],by show 1*1<=sizeLine; rw[Ky]; decide]]
 rfl
def i7 {xs:Jn W}{k:Jx}:jk xs gV (ba (k:JI))=xs.take k:=by
 unfold jk;rw[HT.kA,HT.sY,PV,SM]
 by_cases h:k<=xs.length
 ·rw[RI h]
 ·rw[Rq ∅,NT (JB _),NT ∅]
def y8 {xs:Jn W}{k:Jx}:jk xs (ba (k:JI)) gV=xs.drop k:=by
 unfold jk;rw[HT.kA,HT.sY]
 by_cases h:k<=xs.length
 ·rw[RI h,NT (by rw[Ni]; exact JB _)]
 ·rw[Rq ∅,NR (JB _),NR ∅]; exact List.take_nil
section
variable{defs:Jn (JV×Df)}{fuel d:Jx}{S:aa}{r:Jx}{Q:QW}
def BV {M:JV->FF}{m z w:W}{t:Jx}{y:JV}{zs:Jn JV}{K:Fm->aa->Prop}{Q:QO}(hfu:20 < fuel)(hy:Name y)(e:S[t]?=ba (.lst (zs.map W.str)))(hl:zs.length<=15)
  (k:∀y s,Name y->y∉zs->K [ba (.ref r),ba m,ba z,ba (.ref t),ba w,ba (.str y),ba s] S) :
  wS M fuel (.whl (.cmp .isin (.v 5) (.v 3)) #v[.set 5 (.op .mul (.ix (.c (.str "abcdefghijklmnopqrstuvwxyz")) (.op .mod (.v 6) (.c (.int 26)))) (.op .add (.c (.int 1)) (.op .fdiv (.v 6) (.c (.int 26))))),.set 6 (.op .add (.v 6) (.c (.int 1)))])
   [ba (.ref r),ba m,ba z,ba (.ref t),ba w,ba (.str y),ba (.int 0)] S K Q:=by
 dsimp only[wS];refine yW (λmm Z S'=>∃(s:Jx) (y:JV),Z=[ba (.ref r),ba m,ba z,ba (.ref t),ba w,ba (.str y),ba (.int s)]/\S'=S/\mm+s=18/\s<=16/\Name y/\(0 < s->y=lY (s - 1))/\∀k,k+1 < s->lY k∈zs) 18 rfl rfl ∅ #[0,y,rfl,rfl,rfl,∅,hy,λh=>absurd h ∅,λk h=>absurd h ∅] ?_
 rintro mm Z S' ⟨s,y',rfl,rfl,hm,hs,hy',hc1,hc2⟩;dsimp only[wT,wE,wV,wG];refine ac (wa e) #[λhin=>?_,λhout=>k _ _ hy' (Ms hout)]
 have all:∀k,k < s->lY k∈zs:=λk hk=>by
  by_cases h:k+1 < s
  ·exact hc2 k h
  ·have e:k=s - 1:=∅
   rw[e,<- hc1 ∅]; exact Kt hin
 have hs15:s<=15:=by
  have h7:=gp ((JW s).map lY) zs (qG s) λx hx=>by
   obtain⟨k,hk,rfl⟩:=JE.mp hx;exact all k (JQ.mp hk)
  rw[Jp,J7]at h7;omega
 refine#[mm - 1,∅,λQ2 hn _=>?_]
 have em:((s:JI) % 26)=s:=Int.emod_eq_of_lt ∅ ∅
 have ed:((s:JI) / 26)=0:=Int.ediv_eq_zero_of_lt ∅ ∅
 refine st ?_;dsimp only[wS,wE,wV,wG,JK];refine ac (iY #v[]) ?_
 rw[em];refine ac (CF (i:=(s:JI)) uE (JR s) (yY #[s,∅])) ?_
 have e2:fI .fdiv (.int s) (.int 26) S'=ba (.int 0,S'):=by rw[gk ∅ ∅,ed]
 dsimp only;rw[e2];dsimp only[db,aH];rw[show(1:JI)+0=1 from rfl]
 refine ac El ?_;refine st ?_;dsimp only[wS,wE,wV,wG,JK,db,aH];exact b6 (hn _ _ #[s+1,lY s,rfl,rfl,∅,∅,v8 ∅,λ_=>rfl,λk hk=>all k ∅])
def BW (hfu:20 < fuel)(G:Gen defs){m:Jx}(hf:Fl S r)(h1:m<=6)(k:∀(ys:Jn JV) S',ys.length=m->(∀y∈ys,Name y)->(iu++ys).Nodup->Fl S' r->Kp r S S'->Q (.tup (ys.map W.str),S')) :
  wO (aP (am defs fuel (d+4)) "_law_names" 2 [.ref r,.int m] S) Q:=by
 refine ay G.names rfl rfl λQ' hR=>?_
 replace k:∀(ys:Jn JV) S',ys.length=m->(∀y∈ys,Name y)->(iu++ys).Nodup->Fl S' r->Kp r S S'->Q' (.rt (.tup (ys.map W.str)),S'):=λz S' a b c e f=>hR _ _ (k z S' a b c e f)
 clear hR;show wZ _ _ cF [ba (.ref r),ba (.int m),gV,gV,gV,gV,gV] S Q';have bu:∀(z:JV) (S2:aa),z.cps.toList.length<=6->uF z->Fl S2 r->Kp r S S2->wZ (am defs fuel (d+3)) fuel (dr 2 cF) [ba (.ref r),ba (.int m),ba (.str z),gV,gV,gV,gV] S2 Q':=by
  intro z S2 hz1 hz2 f2 k2;dsimp only[dr,cF];have hrt:=f2.lt;have hSt:=k2.len;refine st ?_;left;nofun
  refine cr (m:JI) (λi Z S'=>∃a4 a5 a6 ys,Z=[ba (.ref r),ba (.int m),ba (.str z),ba (.ref S2.length),a4,a5,a6]/\S'[S2.length]?=ba (.lst ((iu++ys).map W.str))/\ys.length=i/\(∀y∈ys,Name y)/\(iu++ys).Nodup/\Fl S' r/\Kp r S S') rfl rfl ∅ ?_ ?_ ?_
  ·dsimp only[wE,wV,wG];exact#[rfl,gV,gV,gV,[],rfl,ag,rfl,λ_ h=>(nomatch h),#v[],f2.ka .push,k2.trans .push]
  ·rintro i Z S3 hi ⟨a4,a5,a6,ys,rfl,e3,hy1,hy2,hy3,f3,k3⟩ Q2 hn _;clear hK;refine st ?_;left;refine Ek (d:=d) G f3 hz1 hz2 λy S4 hy f4 k4=>?_
   have e4:=k4.get _ _ ∅ e3
   refine st ?_;left;refine st (BV hfu hy e4 (by rw[JC,hy1]; show 9+i<=15; omega) λy' s hy' hnot=>?_)
   refine st ?_;left;refine#[eg e4,uD e4 (by rw[Jp,JC,hy1]; show 9+i < 1000; omega) ?_]
   refine b6 (hn _ _ #[_,_,_,ys++[y'],rfl,?_,by rw[JC,hy1]; rfl,λx hx=>?_,?_,f4.own hrt,(k3.trans k4).late hSt])
   ·rw[bo e4,<- LQ,Ke (l₁:=iu++ys)]; rfl
   ·rcases Kd.mp hx with h|h
    ·exact hy2 x h
    ·rw[JD.mp h]; exact hy'
   ·rw[<- LQ,Ly];refine#[hy3,by simp,λa ha b hb e=>?_]
    rw[JD.mp hb]at e;exact hnot (e ▸ ha)
  ·rintro Z S3 ⟨a4,a5,a6,ys,rfl,e3,hy1,hy2,hy3,f3,k3⟩;refine hK _ _ (st ?_);dsimp only[wS,wE,wA,wV,wG,wP,wN];have hs:rQ (.ref S2.length) (ba 9) gV S3=ba (.ref S3.length,S3++[.lst (ys.map W.str)]):=by
    have:jk ((iu++ys).map W.str) (ba ((9:Jx):JI)) gV=ys.map W.str:=by
     rw[y8,Ke];exact RJ rfl
    simp only[rQ,aw e3];rw[show(ba 9:Jw JI)=ba ((9:Jx):JI)from rfl,this]
   refine ac hs (fj ag (k _ _ ?_ hy2 hy3 (f3.ka .push) (k3.trans .push)));rw[hy1]; exact JO m
 dsimp only[cF];refine st ?_;dsimp only[wS,wE,JK];nofun
 dsimp only[wS,wT,wE,wA,wV,wG];refine aY (d:=d+2) G.pick hf #v[] #v[] λv S1 v0 v1 f1 k1=>?_
 dsimp only[iZ,wO,wB];refine aF (Q0:=Q') (λ_ Q2 hn _=>?_) (λ_ Q2 hn _=>?_)
 ·refine st ?_;left;refine aY (d:=d+2) G.pick f1 #v[] #v[] λv S2 v0 v1 f2 k2=>?_
  dsimp only[db,wO];exact jy (d:=d+1) G f2 ∅ ∅ λz S3 hz hs f3 k3=>b6 (hn _ _ (hK _ _ (bu z S3 ∅ hs f3 (k1.trans (k2.trans k3)))))
 ·exact b6 (hn _ _ (hK _ _ (bu "" S1 #v[] (λc hc=>nomatch hc) f1 k1)))
end
noncomputable abbrev Pt:=JI×Jn JI
noncomputable abbrev Wd:=Jn Pt
abbrev bf (p:Pt):W:=.tup [.int p.1,.tup (p.2.map W.int)]
abbrev au (u:Wd):W:=.tup (u.map bf)
abbrev gS (p:Pt):T:=.tup [.int p.1,.tup (p.2.map T.int)]
abbrev bz (u:Wd):T:=.tup (u.map gS)
def uH:∀xs:Jn JI,T.ws (xs.map T.int)=xs.map W.int
 | []=>rfl
 | x::xs=>by simp[T.ws,T.w,uH xs]
def GF (p:Pt):(gS p).w=bf p:=by simp[gS,bf,T.w,T.ws,uH]
def sE:∀u:Wd,T.ws (u.map gS)=u.map bf
 | []=>rfl
 | p::u=>by simp[T.ws,GF,sE u]
def y9 (u:Wd):(bz u).w=au u:=by simp[bz,au,T.w,sE]
def GH (u:Wd):W.t (au u)=ba (bz u):=by rw[<- y9]; exact T.w_t _
def sF:∀us:Jn Wd,T.ws (us.map bz)=us.map au
 | []=>rfl
 | u::us=>by simp[T.ws,y9,sF us]
def zd (us:Jn Wd):W.ts (us.map au)=ba (us.map bz):=by rw[<- sF]; exact T.ws_ts _
def lw:∀xs:Jn JI,T.depths (xs.map T.int)=0
 | []=>rfl
 | x::xs=>by simp[T.depths,T.depth,lw xs]
def ze (p:Pt):(gS p).depth=2:=by simp[gS,T.depth,T.depths,lw]
def jA:∀u:Wd,T.depths (u.map gS)<=2
 | []=>by simp[T.depths]
 | p::u=>by
  have:=jA u;simp only[KF,T.depths,ze]; omega
def lx (u:Wd):(bz u).depth<=3:=by
 have:=jA u;simp only[bz,T.depth]; omega
def gG:∀us:Jn Wd,T.depths (us.map bz)<=3
 | []=>by simp[T.depths]
 | u::us=>by
  have:=gG us;have:=lx u;simp only[KF,T.depths]; omega
def sG (u:Wd):gN (au u)=ba (bz u):=by
 unfold gN;rw[GH];show(if (bz u).isTup=true/\(bz u).depth<=az then _ else _)=_
 rw[JZ #[rfl,by have:=lx u; unfold az; omega]]
mutual
noncomputable def qH:T->T->J6
 | .int _,.int _=>true
 | .str _,.str _=>true
 | .tup xs,.tup ys=>i8 xs ys
 | _,_=>false
noncomputable def i8:Jn T->Jn T->J6
 | [],_=>true
 | _,[]=>true
 | x::xs,y::ys=>qH x y&&i8 xs ys
end
mutual
theorem sH:∀x y:T,qH x y=true->(gC x y).isSome=true
 | .int _,.int _,_=>rfl
 | .str _,.str _,_=>rfl
 | .tup xs,.tup ys,h=>by
  dsimp only[qH]at h;dsimp only[gC];exact uI xs ys h
 | .int _,.str _,h|.int _,.tup _,h|.str _,.int _,h|.str _,.tup _,h|.tup _,.int _,h|.tup _,.str _,h=>by cases h
theorem uI:∀xs ys:Jn T,i8 xs ys=true->(c7 xs ys).isSome=true
 | [],[],_=>rfl
 | [],_::_,_=>rfl
 | _::_,[],_=>rfl
 | x::xs,y::ys,h=>by
  dsimp only[i8]at h; simp only[Jv]at h
  dsimp only[c7];split
  ·exact uI xs ys h.2
  ·exact sH x y h.1
end
def qI:∀xs ys:Jn JI,i8 (xs.map T.int) (ys.map T.int)=true
 | [],_=>rfl
 | _::_,[]=>rfl
 | x::xs,y::ys=>by dsimp only[SY,i8,qH]; simp[qI xs ys]
def zf (p q:Pt):qH (gS p) (gS q)=true:=by dsimp only[gS,qH,i8]; simp[qI]
def uJ:∀u v:Wd,i8 (u.map gS) (v.map gS)=true
 | [],_=>rfl
 | _::_,[]=>rfl
 | p::u,q::v=>by dsimp only[SY,i8]; simp[zf,uJ u v]
def Em (u v:Wd):qH (bz u) (bz v)=true:=by dsimp only[bz,qH]; exact uJ _ _
def fm (us:Jn Wd):eE (us.map bz)=true:=by
 unfold eE;rw[JP];intro x hx;obtain⟨u,_,rfl⟩:=JE.mp hx;rw[JP];intro y hy;obtain⟨v,_,rfl⟩:=JE.mp hy;exact sH _ _ (Em u v)
def zh (us:Jn Wd)(h:∀u∈us,u≠[]):(r8 (us.map bz)).isSome=true:=by
 unfold r8;split
 ·rfl
 ·split
  ·rfl
  ·split
   ·rfl
   ·split
    ·rfl
    ·split
     ·rfl
     ·rename_i h5;exfalso;apply h5;rw[JP];intro x hx;obtain⟨u,hu,rfl⟩:=JE.mp hx;cases u with
      | nil=>exact absurd rfl (h [] hu)
      | cons p u=>rfl
abbrev bO (bs:Jn JI)(u:Wd)(i j:Jx):JI:=if j < i then((u.getD i (0,[])).2).getD j 0 else bs.getD (((u.getD j (0,[])).2).getD i 0).toNat 0
abbrev ah (bs:Jn JI)(u:Wd)(ps:Jn Jx):Wd:=(JW ps.length).map λk=>((u.getD (ps.getD k 0) (0,[])).1,(ps.take k).map λj=>bO bs u (ps.getD k 0) j)
abbrev ap:Jn (Jn Jx):=[[0,1,2],[0,2,1],[1,0,2],[1,2,0],[2,0,1],[2,1,0]]
abbrev fS (bs:Jn JI)(u:Wd):Wd:=(ap.map (ah bs u)).getD (ig ((ap.map (ah bs u)).map bz)) []
abbrev aN (n:JV)(b:JI):W:=.tup [.str n,.int b]
structure GoodW (a n:Jx)(u:Wd):Prop where
 mark:∀(k:Jx) (p:Pt),u[k]?=ba p->0<=p.1/\p.1 < a
 len:∀(k:Jx) (p:Pt),u[k]?=ba p->p.2.length=k
 way:∀(k:Jx) (p:Pt),u[k]?=ba p->∀w∈p.2,0<=w/\w < n
abbrev GoodB (bs:Jn JI):Prop:=bs=[0]\/bs=[0,1]\/bs=[1,0]\/bs=[0,1,2]\/bs=[1,0,2]\/bs=[0,2,1]
def GoodB.rng {bs:Jn JI}(h:GoodB bs):∀k:Jx,k < bs.length->∃b:JI,bs[k]?=ba b/\0<=b/\b < bs.length:=by
 rcases h with rfl|rfl|rfl|rfl|rfl|rfl <;> intro k hk
 ·match k,hk with
  | 0,_=>exact#[0,rfl,#v[],#v[]]
 ·match k,hk with
  | 0,_=>exact#[0,rfl,#v[],#v[]]
  | 1,_=>exact#[1,rfl,#v[],#v[]]
 ·match k,hk with
  | 0,_=>exact#[1,rfl,#v[],#v[]]
  | 1,_=>exact#[0,rfl,#v[],#v[]]
 ·match k,hk with
  | 0,_=>exact#[0,rfl,#v[],#v[]]
  | 1,_=>exact#[1,rfl,#v[],#v[]]
  | 2,_=>exact#[2,rfl,#v[],#v[]]
 ·match k,hk with
  | 0,_=>exact#[1,rfl,#v[],#v[]]
  | 1,_=>exact#[0,rfl,#v[],#v[]]
  | 2,_=>exact#[2,rfl,#v[],#v[]]
 ·match k,hk with
  | 0,_=>exact#[0,rfl,#v[],#v[]]
  | 1,_=>exact#[2,rfl,#v[],#v[]]
  | 2,_=>exact#[1,rfl,#v[],#v[]]
def getD_some {α:Type}{xs:Jn α}{i:Jx}{x d:α}(h:xs[i]?=ba x):xs.getD i d=x:=by simp[h]
def al {α:Type}{xs:Jn α}{i:Jx}{d:α}(h:i < xs.length):xs[i]?=ba (xs.getD i d):=by simp[h]
def oN {ns:Jn JV}{bs:Jn JI}{k:Jx}{n:JV}{b:JI}(h1:ns[k]?=ba n)(h2:bs[k]?=ba b):(JU aN ns bs)[k]?=ba (aN n b):=by
 rw[PM,h1,h2]
abbrev aq (ps:Jn Jx):Jn W:=ps.map λ(p:Jx)=>W.int (p:JI)
def oO {ps:Jn Jx}{k p:Jx}(h:ps[k]?=ba p):(aq ps)[k]?=ba (.int p):=by simp[aq,h]
def aE (bs:Jn JI)(u:Wd)(ps:Jn Jx):(ah bs u ps).length=ps.length:=by unfold ah; rw[Jp,J7]
def eJ {u:Wd}{i:Jx}(hi:i < u.length):(u.map bf)[((i:Jx):JI).toNat]?=ba (bf (u.getD i (0,[]))):=by
 rw[JO,Jy,al hi]; rfl
section
variable{defs:Jn (JV×Df)}{fuel d:Jx}{S:aa}{r:Jx}{Q:QW}
def zj {M:JV->FF}{m0 b0:W}{ns:Jn JV}{bs:Jn JI}{a:Jx}{u:Wd}{i j:Jx}{Q:QO}(hb:GoodB bs)(hl:ns.length=bs.length)(hu:GoodW a bs.length u)(hi:i < u.length)(hj:j < u.length)(hij:i≠j)(k:Q (.rt (.int (bO bs u i j)),S)) :
  wZ M fuel dj [ba (.tup [m0,.tup (JU aN ns bs),b0]),ba (au u),ba (.int i),ba (.int j)] S Q:=by
 have hpi:=al (d:=(0,[])) hi;have hpj:=al (d:=(0,[])) hj;unfold bO at k;dsimp only[dj];nofun
 dsimp only[wS,wT,wE,wV,wG,v4,wO,wB,au];refine aF (Q0:=Q) (λh Q2 _ hr=>?_) (λh Q2 hn _=>?_)
 ·have hji:j < i:=by have:=Kt h; omega
  rw[JZ hji]at k;have hw:j < (u.getD i (0,[])).2.length:=by rw[hu.len i _ hpi]; exact hji
  refine st ?_;dsimp only[wS,wE,wV,wG];refine aj (JR i) (eJ hi) (aj #v[] rfl (aj (JR j) ?_ (hr _ _ k)))
  rw[JO,Jy,al (d:=0) hw]; rfl
 ·have hji:¬ j < i:=by have:=Ms h; omega
  rw[Kb hji]at k;refine b6 (hn _ _ (hK _ _ ?_));clear hn hK;have hw:i < (u.getD j (0,[])).2.length:=by rw[hu.len j _ hpj]; omega
  have hg:=al (d:=0) hw;obtain⟨g1,g2⟩:=hu.way j _ hpj _ (JG hg);obtain⟨b,hb1,hb2,hb3⟩:=hb.rng ((u.getD j (0,[])).2.getD i 0).toNat ∅
  have hn:((u.getD j (0,[])).2.getD i 0).toNat < ns.length:=∅
  rw[getD_some hb1]at k;refine st ?_;dsimp only[wS,wE,wV,wG];refine aj #v[] rfl (aj (JR j) (eJ hj) (aj #v[] rfl (aj (JR i) ?_ (aj g1 (oN (Jz hn) hb1) (aj #v[] rfl k)))))
  rw[JO,Jy,hg]; rfl
def wb (G:Gen defs){m0 b0:W}{ns:Jn JV}{bs:Jn JI}{a:Jx}{u:Wd}{i j:Jx}(hb:GoodB bs)(hl:ns.length=bs.length)(hu:GoodW a bs.length u)(hi:i < u.length)(hj:j < u.length)(hij:i≠j)(k:Q (.int (bO bs u i j),S)) :
  wO (aP (am defs fuel (d+1)) "_law_between" 4 [.tup [m0,.tup (JU aN ns bs),b0],au u,.int i,.int j] S) Q:=
 ay G.between rfl rfl λQ' hR=>zj hb hl hu hi hj hij (hR _ _ k)
def zm (G:Gen defs){m0 b0:W}{ns:Jn JV}{bs:Jn JI}{a:Jx}{u:Wd}{ps:Jn Jx}(hb:GoodB bs)(hl:ns.length=bs.length)(hu:GoodW a bs.length u)(hps:∀p∈ps,p < u.length)(hnd:ps.Nodup)(hsz:ps.length < 1000)(k:∀S',Ka S S'->Q (au (ah bs u ps),S')) :
  wO (aP (am defs fuel (d+2)) "_law_part" 3 [.tup [m0,.tup (JU aN ns bs),b0],au u,.tup (aq ps)] S) Q:=by
 refine ay G.part rfl rfl λQ' hR=>?_
 replace k:∀S',Ka S S'->Q' (.rt (au (ah bs u ps)),S'):=λS' a=>hR _ _ (k S' a)
 clear hR;show wZ _ _ fM [ba (.tup [m0,.tup (JU aN ns bs),b0]),ba (au u),ba (.tup (aq ps)),gV,gV,gV] S Q';generalize hR0:W.tup [m0,.tup (JU aN ns bs),b0]=R;dsimp only[fM];refine st ?_;dsimp only[wS,wE,wA,JK];nofun
 have nl:(aq ps).length=ps.length:=Jp ..;refine cr (ps.length:JI) (λk Z S'=>∃a4 a5,Z=[ba R,ba (au u),ba (.tup (aq ps)),ba (.ref S.length),a4,a5]/\S'[S.length]?=ba (.lst (((ah bs u ps).take k).map bf))/\Ka S S') rfl rfl ∅ ?_ ?_ ?_
 ·dsimp only[wE,wA,wV,wG];refine bp ?_;rw[nl];exact#[rfl,gV,gV,rfl,ag,.push]
 ·rintro i Z S1 hi ⟨a4,a5,rfl,e1,k1⟩ Q2 hn _;clear hK;have hi':i < ps.length:=∅
  have hp:ps[i]?=ba ps[i]:=Jz hi';have hpu:ps[i] < u.length:=hps _ (Kq hi');refine st ?_;dsimp only[wS,wE,wV,wG,JK];refine aj (JR i) (by rw[JO]; exact oO hp) ?_
  refine st ?_;left;refine#[eg e1,aj (JR _) (eJ hpu) (aj #v[] rfl ?_)]
  refine uC (aq (ps.take i)) (λj ys Z2 S2=>(∃a1,Z2=[gV,a1,ba (.int ps[i]),ba R,ba (au u)])/\ys=((ps.take i).take j).map (λq=>W.int (bO bs u ps[i] q))/\Ka S1 S2) rfl rfl rfl ?_ ?_ ?_
  ·dsimp only[wE,wP,wV,wG,wN];refine ac (a:=(.tup (aq (ps.take i)),S1)) ?_ #[rfl,#[gV,rfl],rfl,.refl];simp only[rQ,i7];unfold aq;rw[N6]
  ·rintro j w ys Z2 S2 hw ⟨⟨a1,rfl⟩,rfl,k2⟩;have hjl:j < (ps.take i).length:=by
    have:=(JF.mp hw).1;unfold aq at this
    rwa [Jp]at this
   have hq:(ps.take i)[j]?=ba (ps.take i)[j]:=Jz hjl;cases(oO hq).symm.trans hw;have hj:j < i:=by rw[Kn]at hjl; omega
   have eq:(ps.take i)[j]=ps[j]'∅:=M9
   generalize(ps.take i)[j]=q at hq eq ⊢;refine ac (show eS (.nm 1) (.int (q:JI)) [gV,a1,ba (.int ps[i]),ba R,ba (au u)] S2=ba ([gV,ba (.int (q:JI)),ba (.int ps[i]),ba R,ba (au u)],S2)from rfl) ?_
   dsimp only[gR,wC,wE,wA,wV,wG];subst hR0;refine#[λ_=>wb (d:=d) G hb hl hu hpu (by rw[eq]; exact hps _ (Kq _)) ?_ #[#[_,rfl],?_,k2],λz=>by cases z]
   ·rw[eq];intro h;have:=(LJ hnd).mp h;omega
   ·rw[J2,hq];simp
  ·rintro ys Z2 S2 ⟨_,rfl,k2⟩;rw[show(aq (ps.take i)).length=(ps.take i).length from Jp ..,Kc]
   refine#[jV (by rw[Jp,Kn]; omega),fj ag ?_]
   have e2:=ak (u:=O.lst ((ps.take i).map λq=>W.int (bO bs u ps[i] q))) (k2.get _ _ e1)
   refine uD e2 (by rw[Jp,Kn]; omega) (b6 (hn _ _ #[_,_,rfl,?_,((k1.trans k2).trans .push).late (JB _)]))
   rw[bo e2];have ep:(ah bs u ps)[i]?=ba ((u.getD ps[i] (0,[])).1,(ps.take i).map λq=>bO bs u ps[i] q):=by
    unfold ah;rw[Jy,LS hi',Kv,getD_some hp]
   rw[J2,ep];simp[bf,Q6]
 ·rintro Z S1 ⟨a4,a5,rfl,e1,k1⟩;rw[JO,<- aE bs u ps,Kc]at e1;refine hK _ _ (st ?_);left;exact fj e1 (k _ k1)
def kn (G:Gen defs)(k:Q (.ref S.length,S++[.lst (ap.map λt=>W.tup (aq t))])):wO (aP (am defs fuel (d+1)) "_law_turns" 0 [] S) Q:=by
 refine ay G.turns rfl rfl λQ' hR=>?_
 dsimp only[gl];refine st ?_;dsimp only[wS,wE,wA];exact hR _ _ k
def dh (bt:Jx->Jx->J6):∀n:Jx,argBest bt n<=n
 | 0=>JB _
 | n+1=>by have:=dh bt n; simp only[argBest]; split <;> omega
def i9 (G:Gen defs){m0 b0:W}{ns:Jn JV}{bs:Jn JI}{a:Jx}{u:Wd}(hb:GoodB bs)(hl:ns.length=bs.length)(hu:GoodW a bs.length u)(h3:u.length=3)(k:∀S',Ka S S'->Q (au (fS bs u),S')) :
  wO (aP (am defs fuel (d+3)) "_law_figure" 2 [.tup [m0,.tup (JU aN ns bs),b0],au u] S) Q:=by
 refine ay G.figure rfl rfl λQ' hR=>?_
 replace k:∀S',Ka S S'->Q' (.rt (au (fS bs u)),S'):=λS' a=>hR _ _ (k S' a)
 clear hR;show wZ _ _ dN [ba (.tup [m0,.tup (JU aN ns bs),b0]),ba (au u)] S Q';generalize hR0:W.tup [m0,.tup (JU aN ns bs),b0]=R;dsimp only[dN];refine st ?_;dsimp only[wS,wE,wA];refine oM S.length (ap.map λt=>W.tup (aq t)) (λi ys Z2 S2=>(∃a1,Z2=[gV,a1,ba R,ba (au u)])/\ys=((ap.take i).map λt=>au (ah bs u t))/\Ka (S++[.lst (ap.map λt=>W.tup (aq t))]) S2) rfl rfl rfl ?_ ?_ ?_ ?_
 ·dsimp only[wE,wA];exact kn (d:=d+1) G #[rfl,#[gV,rfl],rfl,.refl]
 ·rintro i ys Z2 S2 ⟨_,_,k2⟩;exact k2.get _ _ ag
 ·rintro i w ys Z2 S2 hw ⟨⟨a1,rfl⟩,rfl,k2⟩;rw[Jy,Js]at hw;obtain⟨t,ht,rfl⟩:=hw;have ht3:(∀p∈t,p < 3)/\t.Nodup/\t.length < 1000:=by
   have:∀t∈ap,(∀p∈t,p < 3)/\t.Nodup/\t.length < 1000:=by decide
   exact this t (JG ht)
  refine ac (show eS (.nm 1) (.tup (aq t)) [gV,a1,ba R,ba (au u)] S2=ba ([gV,ba (.tup (aq t)),ba R,ba (au u)],S2)from rfl) ?_
  dsimp only[gR,wC,wE,wA,wV,wG];subst hR0;refine#[λ_=>zm (d:=d) G hb hl hu (λp hp=>by rw[h3]; exact ht3.1 p hp) ht3.2.1 ht3.2.2 λS3 k3=>#[#[_,rfl],?_,k2.trans k3],λz=>by cases z]
  rw[J2,ht];simp
 ·rintro ys Z2 S2 ⟨_,rfl,k2⟩;have e:((ap.take (ap.map λt=>W.tup (aq t)).length).map λt=>au (ah bs u t))=(ap.map (ah bs u)).map au:=by
   rw[Jp,Kc,Lu]; rfl
  rw[e];refine#[i6 rfl,ac (a:=(au (fS bs u),S2++[.lst ((ap.map (ah bs u)).map au)])) ?_ (k _ ((Ka.push.trans k2).trans .push))];simp only[Bi.fn,xR,aw ag,zd];rw[JZ #[by have:=gG (ap.map (ah bs u)); unfold bT; omega,fm _]]
  unfold fS;have hlt:ig ((ap.map (ah bs u)).map bz) < (ap.map (ah bs u)).length:=Mt (dh _ _) (by decide:5 < 6)
  rw[Jy,al (d:=[]) hlt];rfl
end
abbrev af (xs:Jn JI):Jn W:=xs.map W.int
abbrev bM (us:Jn Wd):Jn Wd:=du (lS (us.map bz)) [] us
def qJ {α β:Type}{lt:Jx->Jx->J6}{d:α}{d':β}{f:α->β}{us:Jn α}:du lt d' (us.map f)=(du lt d us).map f:=by
 unfold du;rw[Jp];split
 ·rfl
 ·rw[Lu];refine KG λi hi=>?_
  have hl:i < us.length:=ki ∅ i hi
  simp[hl]
def sI {S:aa}{x:W}{us:Jn Wd}(h:dB S x=ba (us.map au))(h64:us.length < 64)(hne:∀u∈us,u≠[]):fJ [x] S=ba (.ref S.length,S++[.lst ((bM us).map au)]):=by
 have ok:ie (us.map bz)=true:=by
  unfold ie;simp only[Jv,LF,JL,Jp];exact#[#[h64,by have:=gG us; unfold bT; omega],.inr #[zh us hne,fm us]]
 simp only[fJ,h,zd];rw[JZ ok,qJ (d:=[])];rfl
abbrev dG (ms ns:Jn JV)(bs:Jn JI)(us:Jn Wd):W:=.tup [.tup (ms.map W.str),.tup (JU aN ns bs),.tup (us.map au)]
structure GoodN (ms ns:Jn JV):Prop where
 name:∀y∈ms++ns,Name y
 nd:(iu++(ms++ns)).Nodup
def GoodW.nil {a n:Jx}:GoodW a n []:=#[λk p h=>(by simp at h),λk p h=>(by simp at h),λk p h=>(by simp at h)]
def GoodW.snoc {a n:Jx}{u:Wd}{m:JI}{ws:Jn JI}(h:GoodW a n u)(h1:0<=m/\m < a)(h2:ws.length=u.length)(h3:∀w∈ws,0<=w/\w < (n:JI)):GoodW a n (u++[(m,ws)]):=by
 have key:∀(k:Jx) (p:Pt),(u++[(m,ws)])[k]?=ba p->u[k]?=ba p\/(k=u.length/\p=(m,ws)):=λk p e=>by
  rcases Nat.lt_or_ge k u.length with hk|hk
  ·rw[Ku hk]at e; exact .inl e
  ·rw[LP hk]at e;have:k - u.length=0:=by
    have:=(JF.mp e).1;simp at this; omega
   rw[this]at e;cases e;exact .inr #[∅,rfl]
 refine#[λk p e=>?_,λk p e=>?_,λk p e=>?_] <;> rcases key k p e with e|⟨rfl,rfl⟩
 ·exact h.mark k p e
 ·exact h1
 ·exact h.len k p e
 ·exact h2
 ·exact h.way k p e
 ·exact h3
def GoodB.inv {bs:Jn JI}(h:GoodB bs):∀k:Jx,k < bs.length->bs.getD (bs.getD k 0).toNat 0=k:=by
 rcases h with rfl|rfl|rfl|rfl|rfl|rfl <;> decide
def GoodB.at {bs:Jn JI}(h:GoodB bs){x:JI}(h0:0<=x)(h1:x < bs.length):bs[x.toNat]?=ba (bs.getD x.toNat 0)/\0<=bs.getD x.toNat 0/\bs.getD x.toNat 0 < bs.length:=by
 obtain⟨b,h2,h3⟩:=h.rng x.toNat ∅
 rw[getD_some h2];exact#[h2,h3]
def BX {S:aa}{x:W}{xs:Jn W}(h:dB S x=ba xs):cL [x] S=gV:=by
 cases x with
 | ref i=>
  have e2:ES S i=gV:=by
   unfold ES;cases e:S[i]? with
   | none=>rfl
   | some o=>
    cases o with
    | stt ss=>simp[dB,fT,jN,e]at h
    | _=>rfl
  simp only[cL,e2]
 | _=>rfl
def sJ {S:aa}{x:W}{us:Jn Wd}{Q:QW}(h:dB S x=ba (us.map au))(h64:us.length < 64)(hne:∀u∈us,u≠[])(q:Q (.ref S.length,S++[.lst ((bM us).map au)])):wO (Bi.sorted.fn [x] S) Q:=by
 refine ac ?_ q;show(match cL [x] S with
  | some r=>ba r
  | none=>fJ [x] S)=_
 rw[BX h];exact sI h h64 hne
abbrev zn:Jn (Jx×Jx):=[(1,1),(2,1),(3,1),(1,2),(1,2),(2,2),(2,2),(3,2),(1,3),(1,3),(2,3)]
def zo:∀p∈zn,1<=p.1/\p.1<=3/\1<=p.2/\p.2<=3/\p.1*p.2<=6:=by decide
abbrev ly:Jx->Jn (Jn JI)
 | 1=>[[0]]
 | 2=>[[0,1],[1,0]]
 | _=>[[0,1,2],[1,0,2],[0,2,1]]
def zp:∀n:Jx,1<=n->n<=3->(∀b∈ly n,GoodB b/\b.length=n)/\0 < (ly n).length/\(ly n).length<=3
 | 1,_,_=>#[λb h=>by cases JD.mp h; exact#[.inl rfl,rfl],#v[],#v[]]
 | 2,_,_=>#[λb h=>by
   rcases JX.mp h with rfl|h
   ·exact#[.inr (.inl rfl),rfl]
   ·cases JD.mp h; exact#[.inr (.inr (.inl rfl)),rfl],#v[],#v[]]
 | 3,_,_=>#[λb h=>by
   rcases JX.mp h with rfl|h
   ·exact#[.inr (.inr (.inr (.inl rfl))),rfl]
   ·rcases JX.mp h with rfl|h
    ·exact#[.inr (.inr (.inr (.inr (.inl rfl)))),rfl]
    ·cases JD.mp h; exact#[.inr (.inr (.inr (.inr (.inr rfl)))),rfl],#v[],#v[]]
 | 0,h,_=>absurd h #v[]
 | n+4,_,h=>absurd h ∅
section
variable{defs:Jn (JV×Df)}{fuel d:Jx}{S:aa}{r:Jx}{Q:QW}
def oP (G:Gen defs)(hf:Fl S r)(k:∀(a n:Jx) S',1<=a->a<=3->1<=n->n<=3->a*n<=6->Fl S' r->Kp r S S'->Q (.tup [.int a,.int n],S')) :
  wO (aP (am defs fuel (d+2)) "_law_sizes" 1 [.ref r] S) Q:=by
 refine ay G.sizes rfl rfl λQ' hR=>?_
 show wZ _ _ eH [ba (.ref r),gV] S Q';dsimp only[eH];refine st ?_;dsimp only[wS,wE,wA,JK];refine st ?_;left;refine aY (d:=d) G.pick (hf.ka .push) #v[] #v[] λv S1 v0 v1 f1 k1=>?_
 have e:=k1.get _ _ (Lm hf.lt) ag;obtain⟨p,hp,ep⟩:=lv (f:=λp:Jx×Jx=>W.tup [.int p.1,.int p.2]) (xs:=zn) (i:=v.toNat) (by show v.toNat < 11; omega)
 obtain⟨a1,a3,n1,n3,an⟩:=zo p hp;exact fQ e v0 ep (hR _ _ (k _ _ _ a1 a3 n1 n3 an f1 (Kp.push.trans k1)))
def oQ (G:Gen defs){n:Jx}(hf:Fl S r)(h1:1<=n)(h3:n<=3)(k:∀(bs:Jn JI) S',GoodB bs->bs.length=n->Fl S' r->Kp r S S'->Q (.tup (af bs),S')) :
  wO (aP (am defs fuel (d+2)) "_law_backs" 2 [.ref r,.int n] S) Q:=by
 refine ay G.backs rfl rfl λQ' hR=>?_
 replace k:∀(bs:Jn JI) S',GoodB bs->bs.length=n->Fl S' r->Kp r S S'->Q' (.rt (.tup (af bs)),S'):=λz S' a b c e=>hR _ _ (k z S' a b c e)
 clear hR;show wZ _ _ eG [ba (.ref r),ba (.int n),gV] S Q';dsimp only[eG];nofun
 left;dsimp only[qE,aH];obtain⟨hg,g0,g3⟩:=zp n h1 h3;have fin:∀(t:Jx) (S1:aa),S.length<=t->S1[t]?=ba (.lst ((ly n).map λb=>.tup (af b)))->Ka S S1->K [ba (.ref r),ba (.int n),ba (.ref t)] S1:=by
  intro t S1 ht et ka;refine hK _ _ (st ?_);left;refine gm et ?_;rw[Jp];refine aY (d:=d) G.pick (hf.ka ka) ∅ ∅ λv S2 v0 v1 f2 k2=>?_
  have e2:=k2.get _ _ (by have:=hf.lt; omega) et
  obtain⟨b,hb,eb⟩:=lv (f:=λb:Jn JI=>W.tup (af b)) (xs:=ly n) (i:=v.toNat) ∅
  exact fQ e2 v0 eb (k b S2 (hg b hb).1 (hg b hb).2 f2 ((ka.kp r).trans k2))
 clear hK g0 g3 hg;rcases(show n=1\/n=2\/n=3 by omega)with rfl|rfl|rfl
 ·exact eA (i:=0) ag rfl (fin _ _ (JB _) (ak (ak (ak ag))) (Ka.push.trans (Ka.push.trans (Ka.push.trans .push))))
 ·exact eA (i:=1) ag rfl (fin _ _ (by simp) (ak (ak ag)) (Ka.push.trans (Ka.push.trans (Ka.push.trans .push))))
 ·exact eA (i:=2) ag rfl (fin _ _ (by simp only[JC]; omega) (ak ag) (Ka.push.trans (Ka.push.trans (Ka.push.trans .push))))
def mX (hfu:20 < fuel)(G:Gen defs){a:Jx}{bs:Jn JI}{x:W}{us:Jn Wd}(hf:Fl S r)(ha:a<=3)(hb:bs.length<=3)(hx:∀S',Kp r S S'->dB S' x=ba (us.map au))(h64:us.length < 64)(hne:∀u∈us,u≠[])
  (k:∀(ms ns:Jn JV) S',ms.length=a->ns.length=bs.length->GoodN ms ns->Fl S' r->Kp r S S'->Q (dG ms ns bs (bM us),S')) :
  wO (aP (am defs fuel (d+5)) "_law_rule_of" 4 [.ref r,.int a,.tup (af bs),x] S) Q:=by
 refine ay G.rule_of rfl rfl λQ' hR=>?_
 replace k:∀(ms ns:Jn JV) S',ms.length=a->ns.length=bs.length->GoodN ms ns->Fl S' r->Kp r S S'->Q' (.rt (dG ms ns bs (bM us)),S'):=λz y S' a b c e f=>hR _ _ (k z y S' a b c e f)
 clear hR;show wZ _ _ dk [ba (.ref r),ba (.int a),ba (.tup (af bs)),ba x,gV,gV] S Q';have hbl:(af bs).length=bs.length:=Jp ..;dsimp only[dk];nofun
 left;refine bp ?_;rw[hbl];dsimp only[db,aH];refine BW (d:=d) (m:=a+bs.length) hfu G hf ∅ λys S1 q2 q3 q4 f1 k1=>hK _ _ ?_
 clear hK K;have hzl:(JU aN (ys.drop a) bs).length=bs.length:=by
  rw[Mg,Ni]; omega
 nofun
 dsimp only[wS,wE,wA,JK];refine dM (bs.length:JI) (λk zs Z2 S2=>(∃a1,Z2=[gV,a1,ba (.tup (af bs)),ba (.int a),ba (.tup (ys.map W.str))])/\zs=((JU aN (ys.drop a) bs).take k)/\S2=S1) rfl rfl rfl ∅ ?_ ?_ ?_
 ·dsimp only[wE,wA,wV,wG];refine bp ?_;rw[hbl];exact#[rfl,#[gV,rfl],rfl,rfl]
 ·rintro i zs Z2 S2 hi ⟨⟨a1,rfl⟩,rfl,rfl⟩;clear hK;have hi':i < bs.length:=∅
  have h1:a+i < ys.length:=∅
  dsimp only[gR,wC,wE,wA,wV,wG,JK,db,aH];refine#[λ_=>aj ∅ (w:=.str ys[a+i]) ?_ (aj ∅ (w:=.int bs[i]) ?_ #[#[_,rfl],?_,rfl]),λz=>by cases z]
  ·rw[show((a:JI)+(i:JI)).toNat=a+i by omega,Jy,Jz h1]; rfl
  ·unfold af;rw[JO,Jy,Jz hi']; rfl
  ·have ez:(JU aN (ys.drop a) bs)[i]?=ba (aN ys[a+i] bs[i]):=oN (by rw[List.getElem?_drop]; exact Jz h1) (Jz hi')
   rw[J2,ez];rfl
 ·rintro zs Z2 S2 ⟨_,rfl,rfl⟩;rw[JO,<- hzl,Kc];refine#[jV ∅,fj ag (hK _ _ ?_)]
  clear hK K;refine st ?_;dsimp only[wS,wE,wA,wP,wV,wG,wN];have hs:rQ (.tup (ys.map W.str)) gV (ba (a:JI)) (S2++[O.lst (JU aN (ys.drop a) bs)])=ba (.tup ((ys.take a).map W.str),S2++[O.lst (JU aN (ys.drop a) bs)]):=by
   simp only[rQ,i7];rw[N6]
  refine ac hs (sJ (hx _ (k1.trans .push)) h64 hne (fj ag ?_));refine k (ys.take a) (ys.drop a) _ ?_ ?_ #[?_,?_] ((f1.ka .push).ka .push) (k1.trans (Kp.push.trans .push))
  ·rw[Kn]; omega
  ·rw[Ni]; omega
  ·rw[NV]; exact q3
  ·rw[NV]; exact q4
def fO (hfu:20 < fuel)(G:Gen defs){a:Jx}{bs:Jn JI}(hf:Fl S r)(ha:a<=3)(hb:bs.length<=3)
  (k:∀(ms ns:Jn JV) S',ms.length=a->ns.length=bs.length->GoodN ms ns->Fl S' r->Kp r S S'->Q (dG ms ns bs [],S')) :
  wO (aP (am defs fuel (d+5)) "_law_rule_of" 4 [.ref r,.int a,.tup (af bs),.tup []] S) Q:=
 mX hfu G hf ha hb (us:=[]) (λ_ _=>rfl) #v[] (λ_ h=>nomatch h) k
def draws {M:JV->FF}{Z:Fm}{elt e:E}{cap:Jn (Jw Jx)}{n i:Jx}{R:Fm}(oe:dD elt=true)(oi:dD e=true)(h1:i<=1000)(hc:eZ cap Z=gV::gV::R)(hf:Fl S r)(he:∀Q:QW,Q (.int i,S)->wE M e Z S Q)
  (hp:∀(a:Jw W) (S1:aa) (Q:QW),Fl S1 r->(∀v S',0<=v->v < (n:JI)->Fl S' r->Kp r S1 S'->Q (.int v,S'))->wE M elt (gV::a::R) S1 Q)
  (k:∀(vs:Jn JI) S',vs.length=i->(∀w∈vs,0<=w/\w < (n:JI))->Fl S' r->Kp r S S'->Q (.ref S'.length,S'++[.lst (af vs)])) :
  Wp (aB M (.comp elt (.nm 1) (.rng #v[e]) .nil cap) Z S) Q:=by
 refine dM (i:JI) (λj ys Z2 S3=>(∃a1,Z2=gV::a1::R)/\(∃vs:Jn JI,ys=af vs/\vs.length=j/\∀w∈vs,0<=w/\w < (n:JI))/\Fl S3 r/\Kp r S S3) oi oe rfl ∅ (he _ #[rfl,#[gV,hc],#[[],rfl,rfl,λ_ h=>nomatch h],hf,.refl]) ?_ ?_
 ·rintro j ys Z2 S3 hj ⟨⟨a1,rfl⟩,⟨vs,rfl,hvl,hv⟩,f3,k3⟩;refine#[λ_=>hp _ _ _ f3 λv S4 v0 v1 f4 k4=>#[#[_,rfl],#[vs++[v],(Ke (l₁:=vs) (l₂:=[v])).symm,by rw[JC,hvl]; rfl,λw hw=>?_],f4,k3.trans k4],λz=>by cases z]
  rcases Kd.mp hw with h|h
  ·exact hv w h
  ·rw[JD.mp h]; exact#[v0,v1]
 ·rintro ys Z2 S3 ⟨_,⟨vs,rfl,hvl,hv⟩,f3,k3⟩;rw[JO]at hvl;exact#[jV (by rw[show(af vs).length=vs.length from Jp ..]; omega),k vs S3 hvl hv f3 k3]
def ja (G:Gen defs){a n:Jx}(hf:Fl S r)(ha:0 < a)(ha3:a<=3)(hn:0 < n)(hn3:n<=3)(k:∀(u:Wd) S',u.length=3->GoodW a n u->Fl S' r->Kp r S S'->Q (au u,S')) :
  wO (aP (am defs fuel (d+2)) "_law_free_three" 3 [.ref r,.int a,.int n] S) Q:=by
 refine ay G.free_three rfl rfl λQ' hR=>?_
 replace k:∀(u:Wd) S',u.length=3->GoodW a n u->Fl S' r->Kp r S S'->Q' (.rt (au u),S'):=λz S' a b c e=>hR _ _ (k z S' a b c e)
 clear hR;show wZ _ _ bV [ba (.ref r),ba (.int a),ba (.int n),gV,gV] S Q';dsimp only[bV];have hrt:=hf.lt;refine st ?_;dsimp only[wS,wE,wA,JK];nofun
 refine cr 3 (λk Z S'=>∃a4 u,Z=[ba (.ref r),ba (.int a),ba (.int n),ba (.ref S.length),a4]/\S'[S.length]?=ba (.lst (u.map bf))/\u.length=k/\GoodW a n u/\Fl S' r/\Kp r S S') rfl rfl #v[] #[rfl,gV,[],rfl,ag,rfl,.nil,hf.ka .push,.push] ?_ ?_
 ·rintro i Z S1 hi ⟨a4,u,rfl,e1,hul,hu,f1,k1⟩ Q2 hn' _;clear hK;refine st ?_;left;refine#[eg e1,aY (d:=d) G.pick f1 ∅ ∅ λv S2 v0 v1 f2 k2=>?_]
  have e2:=k2.get _ _ ∅ e1
  refine draws (n:=n) (i:=i) (R:=[ba (.ref r),ba (.int n)]) rfl rfl ∅ rfl f2 (λQ q=>q) (λa S1 Q f q=>aY (d:=d) G.pick f ∅ ∅ q) λvs S3 hvl hv f3 k3=>?_
  have e3:=ak (u:=O.lst (af vs)) (k3.get _ _ ∅ e2)
  refine fj ag (uD e3 (by rw[Jp]; omega) (b6 (hn' _ _ #[_,u++[(v,vs)],rfl,?_,by rw[JC,hul]; rfl,hu.snoc #[v0,v1] (hvl.trans hul.symm) hv,(f3.ka .push).own hrt,(k1.trans (k2.trans (k3.trans .push))).late (JB _)])))
  rw[bo e3,Ke]; rfl
 ·rintro Z S1 ⟨a4,u,rfl,e1,hul,hu,f1,k1⟩;refine hK _ _ (st ?_);left;exact fj e1 (k u _ hul hu f1 k1)
end
abbrev lz (n:Jx):Jn JI:=(JW n).map λ(k:Jx)=>(k:JI)
abbrev qK (a n:Jx):Jn Wd:=(lz a).flatMap λm0=>(lz a).flatMap λm1=>(lz a).flatMap λm2=>(lz n).flatMap λw1=>(lz n).flatMap λw2=>(lz n).map λw3=>[(m0,[]),(m1,[w1]),(m2,[w2,w3])]
abbrev aM (a:Jx)(bs:Jn JI):Jn Wd:=((qK a bs.length).map (fS bs)).eraseDups
def cQ {n:Jx}{x:JI}(h0:0<=x)(h1:x < n):x∈lz n:=JE.mpr #[x.toNat,JQ.mpr ∅,∅]
def wc {a n:Jx}{u:Wd}(h:GoodW a n u)(h3:u.length=3):u∈qK a n:=by
 match u,h3 with
 | [(m0,w0),(m1,w1),(m2,w2)],_=>
  have l0:=h.len 0 _ rfl;have l1:=h.len 1 _ rfl;have l2:=h.len 2 _ rfl;simp only at l0 l1 l2
  match w0,l0 with
  | [],_=>
   match w1,l1 with
   | [x],_=>
    match w2,l2 with
    | [y,z],_=>
     have a0:=h.mark 0 _ rfl;have a1:=h.mark 1 _ rfl;have a2:=h.mark 2 _ rfl;have b1:=h.way 1 _ rfl x (by simp)
     have b2:=h.way 2 _ rfl y (by simp)
     have b3:=h.way 2 _ rfl z (by simp)
     unfold qK;simp only[KN,JE];exact#[m0,cQ a0.1 a0.2,m1,cQ a1.1 a1.2,m2,cQ a2.1 a2.2,x,cQ b1.1 b1.2,y,cQ b2.1 b2.2,z,cQ b3.1 b3.2,rfl]
def oR {a:Jx}{bs:Jn JI}{u:Wd}(h:GoodW a bs.length u)(h3:u.length=3):fS bs u∈aM a bs:=by
 unfold aM;rw[OI];exact JE.mpr #[u,wc h h3,rfl]
structure SizeOk (a:Jx)(bs:Jn JI):Prop where
 pos:0 < a
 good:GoodB bs
 most:a*bs.length<=6
 a3:a<=3
def SizeOk.n3 {a:Jx}{bs:Jn JI}(h:SizeOk a bs):0 < bs.length/\bs.length<=3:=by
 rcases h.good with rfl|rfl|rfl|rfl|rfl|rfl <;> decide
def Ir:(aM 1 [0]).length < 64/\(aM 2 [0]).length < 64/\(aM 3 [0]).length < 64:=by decide +kernel
def Hf:(aM 1 [0,1]).length < 64/\(aM 2 [0,1]).length < 64/\(aM 1 [1,0]).length < 64/\(aM 2 [1,0]).length < 64:=by decide +kernel
def Iu:(aM 1 [0,1,2]).length < 64/\(aM 1 [1,0,2]).length < 64/\(aM 1 [0,2,1]).length < 64:=by decide +kernel
def Iv:(aM 3 [0,1]).length < 64:=by decide +kernel
def Iw:(aM 3 [1,0]).length < 64:=by decide +kernel
def Ix:(aM 2 [0,1,2]).length < 64:=by decide +kernel
def Iy:(aM 2 [1,0,2]).length < 64:=by decide +kernel
def Iz:(aM 2 [0,2,1]).length < 64:=by decide +kernel
def jb {a:Jx}{bs:Jn JI}(h:SizeOk a bs):(aM a bs).length < 64:=by
 obtain⟨h0,hb,hm,h3⟩:=h;have ha:a=1\/a=2\/a=3:=∅
 rcases hb with rfl|rfl|rfl|rfl|rfl|rfl <;> rcases ha with rfl|rfl|rfl
 ·exact Ir.1
 ·exact Ir.2.1
 ·exact Ir.2.2
 ·exact Hf.1
 ·exact Hf.2.1
 ·exact Iv
 ·exact Hf.2.2.1
 ·exact Hf.2.2.2
 ·exact Iw
 ·exact Iu.1
 ·exact Ix
 ·simp at hm
 ·exact Iu.2.1
 ·exact Iy
 ·simp at hm
 ·exact Iu.2.2
 ·exact Iz
 ·simp at hm
def zq (bs:Jn JI)(u:Wd):∃t∈ap,fS bs u=ah bs u t:=by
 have h7:(ap.map (ah bs u)).length=6:=by rw[Jp]; rfl
 have h8:((ap.map (ah bs u)).map bz).length=6:=by rw[Jp,h7]
 have hlt:ig ((ap.map (ah bs u)).map bz) < (ap.map (ah bs u)).length:=by
  unfold ig;have h6:=dh (lS ((ap.map (ah bs u)).map bz)) (((ap.map (ah bs u)).map bz).length - 1);rw[h7]; omega
 unfold fS;rw[getD_some (Jz hlt)];obtain⟨t,ht,e⟩:=JE.mp (Kq hlt);exact#[t,ht,e.symm]
def BY (bs:Jn JI)(u:Wd):fS bs u≠[]:=by
 obtain⟨t,ht,e⟩:=zq bs u;rw[e];have:∀t∈ap,t≠[]:=by decide
 have h:=this t ht;intro z;have hl:(ah bs u t).length=t.length:=by simp[ah]
 rw[z]at hl;exact h (KS.mp hl.symm)
def qL:∀ {xs ys:Jn JI},xs.map T.int=ys.map T.int->xs=ys
 | [],[],_=>rfl
 | [],_::_,h=>by cases h
 | _::_,[],h=>by cases h
 | x::xs,y::ys,h=>by
  rw[KF,KF]at h;injection h with h1 h2
  injection h1 with h1
  rw[h1,qL h2]
def BZ {p q:Pt}(h:gS p=gS q):p=q:=by
 unfold gS at h;injection h with h
 injection h with h1 h2
 injection h1 with h1
 injection h2 with h2 _
 injection h2 with h2
 exact T3 h1 (qL h2)
def dQ {u v:Wd}(h:bz u=bz v):u=v:=by
 unfold bz at h;injection h with h
 have inj:∀ {u v:Wd},u.map gS=v.map gS->u=v:=by
  intro u
  induction u with
  | nil=>intro v h; cases v with
   | nil=>rfl
   | cons _ _=>cases h
  | cons p u ih=>intro v h; cases v with
   | nil=>cases h
   | cons q v=>
    rw[KF,KF]at h;injection h with h1 h2
    rw[BZ h1,ih h2]
 exact inj h
def fq {U:Jn (T×W)}{k:T}{v:W}:(d7 U k v).map (·.1)=if k∈U.map (·.1)then U.map (·.1)else U.map (·.1)++[k]:=by
 have hany:(U.any λp=>decide (p.1=k))=decide (k∈U.map (·.1)):=by
  induction U with
  | nil=>rfl
  | cons p U ih=>
   rw[Ml,ih,KF]
   by_cases e:p.1=k
   ·subst e; simp
   ·rw[Ki e,O1];have:(k∈p.1::U.map (·.1))=(k∈U.map (·.1)):=by simp[Ne.symm e]
    simp only[this]
 unfold d7;rw[hany]
 by_cases h:k∈U.map (·.1)
 ·rw[JZ h,JZ (Lg h),Lu];refine KG λp _=>?_
  show(if p.1=k then(p.1,v)else p).1=p.1
  split <;> rfl
 ·rw[Kb h,Kb (by simpa using h),Ke]
  rfl
structure FigD (L:Jn Wd)(U:Jn (T×W))(fs:Jn Wd):Prop where
 keys:U.map (·.1)=fs.map bz
 nd:fs.Nodup
 mem:∀f∈fs,f∈L
def FigD.nil {L:Jn Wd}:FigD L [] []:=#[rfl,P1,λ_ h=>nomatch h]
def FigD.len {L:Jn Wd}{U:Jn (T×W)}{fs:Jn Wd}(h:FigD L U fs):U.length=fs.length/\fs.length<=L.length:=by
 have:=congrArg Ru h.keys;rw[Jp,Jp]at this;exact#[this,gp fs L h.nd h.mem]
def FigD.put {L:Jn Wd}{U:Jn (T×W)}{fs:Jn Wd}{f:Wd}{v:W}(h:FigD L U fs)(hf:f∈L):∃fs',FigD L (d7 U (bz f) v) fs':=by
 by_cases hm:f∈fs
 ·refine#[fs,?_,h.nd,h.mem];rw[fq,JZ (by rw[h.keys]; exact JE.mpr #[f,hm,rfl]),h.keys]
 ·refine#[fs++[f],?_,?_,λg hg=>?_]
  ·rw[fq,Kb,h.keys,Ke]
   ·rfl
   ·rw[h.keys];intro z;obtain⟨g,hg,e⟩:=JE.mp z;exact hm (dQ e ▸ hg)
  ·rw[Ly];refine#[h.nd,by simp,λa ha b hb e=>?_]
   rw[JD.mp hb]at e;exact hm (e ▸ ha)
  ·rcases Kd.mp hg with h'|h'
   ·exact h.mem g h'
   ·rw[JD.mp h']; exact hf
def FigD.items {S:aa}{t:Jx}{L:Jn Wd}{U:Jn (T×W)}{fs:Jn Wd}(h:FigD L U fs)(e:S[t]?=ba (.dic U)):dB S (.ref t)=ba (fs.map au):=by
 simp only[dB,oH e,cq e,Kv];congr 1;have:(U.map (·.1)).map T.w=(fs.map bz).map T.w:=by rw[h.keys]
 rw[Lu,Lu]at this
 calc U.map (λp=>p.1.w)=U.map (T.w∘λx=>x.1):=rfl
  _=fs.map (T.w∘bz):=this
  _=fs.map au:=by
   refine KG λf _=>?_
   exact y9 f
def qM {a:Jx}{bs:Jn JI}{f:Wd}(h:f∈aM a bs):f≠[]:=by
 unfold aM at h;rw[OI]at h;obtain⟨u,_,rfl⟩:=JE.mp h;exact BY bs u
def uK {S:aa}{t:Jx}{U:Jn (T×W)}{u:Wd}{v:W}(h:S[t]?=ba (.dic U))(hl:U.length < sizeLine):iS (.ref t) (au u) v S=ba (S.set t (.dic (d7 U (bz u) v))):=by
 have hk:=sG u;unfold au at hk ⊢;simp only[iS,nX,h,hk];rw[JZ hl]
structure RuleAt (a:Jx)(bs:Jn JI)(ms ns:Jn JV)(gs:Jn Wd):Prop where
 size:SizeOk a bs
 ml:ms.length=a
 nl:ns.length=bs.length
 nm:GoodN ms ns
 nd:gs.Nodup
 mem:∀g∈gs,g∈aM a bs
abbrev eu (w:W):Prop:=∃a bs ms ns gs,w=dG ms ns bs (bM gs)/\RuleAt a bs ms ns gs
section
variable{M:JV->FF}{fuel:Jx}{Z:Fm}{S:aa}{K:Fm->aa->Prop}{Q:QO}
def jc {i0:Jx}{e:E}{b:Ss}(oe:dD e=true)(ok:gQ b=true)(he:wE M e Z S λp=>∃(j:JI) (I:Jx->Fm->aa->Prop),p.1=.int j/\(-(2 ^ 62)<=j/\j < 2 ^ 62)/\I 0 Z p.2/\
  (∀(i:Jx) (Z:Fm) (S:aa),(i:JI) < j->I i Z S->wD M fuel b (Z.set i0 (ba (.int i))) S (I (i+1)) Q)/\∀Z S,I j.toNat Z S->K Z S):Wp (gb M fuel (.loop (.nm i0) (.rng #v[e]) b) Z S) (rC K Q):=by
 obtain⟨w,S1,e1,j,I,rfl,hj,h0,hs,hend⟩:=bB oe he;have hl:(c8 0 j.toNat).length=j.toNat:=by simp[c8]
 refine iq (mi:=.its (c8 0 j.toNat)) (S1:=S1) (xs:=c8 0 j.toNat) I ok ?_ (λ_ _ _ _=>rfl) rfl h0 (λi w Z S hw hI=>?_) λZ S hI=>hend Z S (hl ▸ hI)
 ·simp only[jS,cY,dF,iW,su,e1];rw[JZ hj]
 ·rw[d8]at hw;split at hw
  ·rename_i hk;cases hw;rw[Pk];exact hs i Z S ∅ hI
  ·cases hw
def gq {tg:Tg}{e:E}{b:Ss}(oe:dD e=true)(ok:gQ b=true)(he:wE M e Z S λp=>∃(t:Jx) (xs:Jn W) (I:Jx->Fm->aa->Prop),p.1=.ref t/\I 0 Z p.2/\(∀i Z S,I i Z S->S[t]?=ba (.lst xs))/\
  (∀(i:Jx) (w:W) (Z:Fm) (S:aa),xs[i]?=ba w->I i Z S->wO (eS tg w Z S) λq=>wD M fuel b q.1 q.2 (I (i+1)) Q)/\∀Z S,I xs.length Z S->K Z S):Wp (gb M fuel (.loop tg (.seq e) b) Z S) (rC K Q):=by
 obtain⟨w,S1,e1,t,xs,I,rfl,h0,hat,hs,hend⟩:=bB oe he;exact iq (mi:=.live t) (S1:=S1) I ok (by simp only[jS,eY,e1,aw (hat _ _ _ h0)]) (λi Z S h=>by simp only[MI.at,aw (hat _ _ _ h)]) (by simp only[MI.len,aw (hat _ _ _ h0),Kv]) h0 hs hend
end
section
variable{defs:Jn (JV×Df)}{fuel d:Jx}{S:aa}{r:Jx}{Q:QW}
def zr {q:Jx}{a:Jx}{bs:Jn JI}{ms ns:Jn JV}{fs0:Jn Wd}{U:Jn (T×W)}{fs:Jn Wd}(h3:S[q]?=ba (.dic U))(h4:FigD (aM a bs) U fs)(hs:SizeOk a bs)(hml:ms.length=a)(hnl:ns.length=bs.length)(hnm:GoodN ms ns)(k:∀w S',eu w->Ka S S'->Q (w,S')) :
  wO (nY (dG ms ns bs fs0) (.int 0) S) λp=>wO (nY (dG ms ns bs fs0) (.int 1) p.2) λq'=>wO (Bi.sorted.fn [.ref q] q'.2) λs=>wO (Bi.tuple.fn [s.1] s.2) λz=>Q (.tup [p.1,q'.1,z.1],z.2):=by
 refine aj #v[] rfl (aj #v[] rfl ?_)
 have hl:=h4.len;exact sJ (h4.items h3) (by have:=jb hs; omega) (λf hf=>qM (h4.mem f hf)) (fj ag (k _ _ #[a,bs,ms,ns,fs,rfl,hs,hml,hnl,hnm,h4.nd,h4.mem] .push))
def zt {q:Jx}{a:Jx}{bs:Jn JI}{u:Wd}{U:Jn (T×W)}{fs:Jn Wd}{Q:aa->Prop}(h3:S[q]?=ba (.dic U))(h4:FigD (aM a bs) U fs)(hs:SizeOk a bs)(hu:GoodW a bs.length u)(hu3:u.length=3)
  (k:∀o,(∃U fs,(S.set q o)[q]?=ba (.dic U)/\FigD (aM a bs) U fs)->Q (S.set q o)):wO (iS (.ref q) (au (fS bs u)) (.bl true) S) Q:=by
 have hl:=h4.len;have:=jb hs;obtain⟨fs',h5⟩:=h4.put (v:=.bl true) (oR hu hu3);exact ac (uK h3 (by rw[Ky]; omega)) (k _ #[_,fs',bo h3,h5])
def sK (hfu:20 < fuel)(G:Gen defs)(hf:Fl S r)(k:∀w S',eu w->Fl S' r->Kp r S S'->Q (w,S')):wO (aP (am defs fuel (d+6)) "_law_any_rule" 1 [.ref r] S) Q:=by
 refine ay G.any_rule rfl rfl λQ' hR=>?_
 replace k:∀w S',eu w->Fl S' r->Kp r S S'->Q' (.rt w,S'):=λz S' a b c=>hR _ _ (k z S' a b c)
 clear hR;show wZ _ _ cO [ba (.ref r),gV,gV,gV,gV,gV] S Q';dsimp only[cO];nofun
 left;refine oP (d:=d+3) G hf λa n S1 a1 a3 n1 n3 an f1 k1=>?_
 dsimp only[wU];refine ac (show cM [1,2] [.int a,.int n] [ba (.ref r),gV,gV,gV,gV,gV]=ba [ba (.ref r),ba (.int a),ba (.int n),gV,gV,gV]from rfl) (hK _ _ ?_)
 clear hK K;nofun
 left;refine oQ (d:=d+3) G f1 n1 n3 λbs S2 hb hbl f2 k2=>?_
 have hsz:SizeOk a bs:=#[∅,hb,by rw[hbl]; exact an,a3]
 refine fO (d:=d) hfu G f2 a3 ∅ λms ns S3 hml hnl hnm f3 k3=>hK _ _ ?_
 clear hK K;have hrt:=f3.lt;replace k3:Kp r S S3:=k1.trans (k2.trans k3);clear k1 k2 f1 f2;refine st ?_;dsimp only[wS,wE,JK];nofun
 refine jc rfl rfl ?_;dsimp only[wE,wA,wV,wG];refine aY (d:=d+4) G.pick (f3.ka .push) #v[] #v[] λv S4 v0 v9 f4 k4=>?_
 refine#[v,λk Z S'=>(∃a5,Z=[ba (.ref r),ba (.int a),ba (.int n),ba (dG ms ns bs []),ba (.ref S3.length),a5])/\(∃U fs,S'[S3.length]?=ba (.dic U)/\FigD (aM a bs) U fs)/\Fl S' r/\Kp r S S',rfl,∅,#[#[gV,rfl],#[[],[],k4.get _ _ ∅ ag,.nil],f4,(k3.trans .push).trans k4],?_,?_]
 ·rintro i Z S5 hi ⟨⟨a5,rfl⟩,⟨U,fs,e5,hd⟩,f5,k5⟩ Q2 hn _;clear hK;refine st ?_;left;refine ja (d:=d+3) G f5 ∅ a3 ∅ n3 λu S6 hu3 hu f6 k6=>?_
  have hu:GoodW a bs.length u:=hbl.symm ▸ hu;refine i9 (d:=d+2) G hb hnl hu hu3 λS7 k7=>?_
  have e7:=k7.get _ _ (k6.get _ _ ∅ e5)
  exact zt e7 hd hsz hu hu3 λo ho=>b6 (hn _ _ #[#[_,rfl],ho,(f6.ka k7).own hrt,((k5.trans k6).trans (k7.kp r)).late k3.len])
 ·rintro Z S5 ⟨⟨a5,rfl⟩,⟨U,fs,e5,hd⟩,f5,k5⟩;refine hK _ _ (st ?_);left;exact zr (Q:=λp=>Q' (.rt p.1,p.2)) e5 hd hsz hml hnl hnm λw S6 hw k6=>k w S6 hw (f5.ka k6) (k5.trans (k6.kp r))
end
abbrev oT (t:JI×JI×JI):W:=.tup [.int t.1,.int t.2.1,.int t.2.2]
abbrev qN (a:Jx)(t:JI×JI×JI):Prop:=(0<=t.1/\t.1 < a)/\(0<=t.2.1/\t.2.1 < a)/\(0<=t.2.2/\t.2.2 < a)
abbrev zu (k:JI):Wd:=[(k,[]),(k,[0]),(k,[0,0])]
def IA:∀k∈lz 1,zu k∈aM 1 [0]:=by decide +kernel
def IB:∀k∈lz 2,zu k∈aM 2 [0]:=by decide +kernel
def IC:∀k∈lz 3,zu k∈aM 3 [0]:=by decide +kernel
def B0 {a:Jx}{k:JI}(h0:1<=a)(h3:a<=3)(hk:0<=k)(hk2:k < a):zu k∈aM a [0]:=by
 have ha:a=1\/a=2\/a=3:=∅
 rcases ha with rfl|rfl|rfl
 ·exact IA k (cQ hk hk2)
 ·exact IB k (cQ hk hk2)
 ·exact IC k (cQ hk hk2)
def B1 {a b:JI}(h:zu a=zu b):a=b:=by
 unfold zu at h;injection h with h1 h2
 injection h1
def oU:GoodB [0]:=.inl rfl
def GJ {S:aa}{i j:Jx}{xs:Jn W}(h1:S[i]?=ba (.lst xs))(h2:S[j]?=ba (.lst [])):cZ .eq (.ref i) (.ref j) S=ba (.bl xs.isEmpty,S):=by
 show(kE S (19+1) (.ref i) (.ref j)).map _=_;simp only[kE,dL h1,dL h2];cases xs with
 | nil=>rfl
 | cons x xs=>rfl
def B2 {S:aa}{f:JI}{ws:Jn JI}:∃b,cZ .notin (.int f) (.tup (af ws)) S=ba (.bl b,S):=by
 have hf:(bY (.int f)&&(af ws).all bY)=true:=by
  simp only[bY,N5,JP];intro x hx;obtain⟨z,_,rfl⟩:=JE.mp hx;rfl
 refine#[!(af ws).any λz=>Ab z (.int f),?_]
 show iI .notin (.int f) (.tup (af ws)) S=_;simp only[iI,ER,xx,eX,hf,Ls,Kv]
section
variable{M:JV->FF}{fuel:Jx}{Z:Fm}{S:aa}{K:Fm->aa->Prop}{Q:QO}
def jd {i0:Jx}{a b:E}{bd:Ss}(i j:JI)(I:Jx->Fm->aa->Prop)(oa:dD a=true)(ob:dD b=true)(ok:gQ bd=true)(hj : -(2 ^ 62)<=i/\i < 2 ^ 62/\-(2 ^ 62)<=j/\j < 2 ^ 62)(he:wE M a Z S λp=>p.1=.int i/\wE M b Z p.2 λq=>q.1=.int j/\I 0 Z q.2)
  (hstep:∀(k:Jx) (Z:Fm) (S:aa),(k:JI) < j - i->I k Z S->wD M fuel bd (Z.set i0 (ba (.int (i+k)))) S (I (k+1)) Q) (hend:∀Z S,I (j - i).toNat Z S->K Z S):Wp (gb M fuel (.loop (.nm i0) (.rng2 #v[a,b]) bd) Z S) (rC K Q):=by
 obtain⟨w,S1,e1,rfl,h1⟩:=bB oa he;obtain⟨w,S2,e2,rfl,h0⟩:=bB ob h1;have hl:(c8 i (j - i).toNat).length=(j - i).toNat:=by simp[c8]
 refine iq (mi:=.its (c8 i (j - i).toNat)) (S1:=S2) (xs:=c8 i (j - i).toNat) I ok ?_ (λ_ _ _ _=>rfl) rfl h0 (λk w Z S hw hI=>?_) λZ S hI=>hend Z S (hl ▸ hI)
 ·simp only[jS,cY,dF,iW,iRng2,e1,e2];rw[JZ hj]
 ·rw[d8]at hw;split at hw
  ·rename_i hk;cases hw;exact hstep k Z S ∅ hI
  ·cases hw
def zv {elt a b:E}{i0:Jx}{cs:Es}{cap:Jn (Jw Jx)}{Q:QW}(i j:JI)(I:Jx->Jn W->Fm->aa->Prop)(oa:dD a=true)(ob:dD b=true)(oe:dD elt=true)(oc:oK cs=true)(hj : -(2 ^ 62)<=i/\i < 2 ^ 62/\-(2 ^ 62)<=j/\j < 2 ^ 62)(he:wE M a Z S λp=>p.1=.int i/\wE M b Z p.2 λq=>q.1=.int j/\I 0 [] (eZ cap Z) q.2)
  (hstep:∀(k:Jx) (ys:Jn W) (Z:Fm) (S:aa),(k:JI) < j - i->I k ys Z S->gR M elt cs (Z.set i0 (ba (.int (i+k)))) S (λy=>I (k+1) (ys++[y])) (I (k+1) ys))
  (hend:∀ys Z S,I (j - i).toNat ys Z S->ys.length<=sizeLine/\Q (.ref S.length,S++[.lst ys])):Wp (aB M (.comp elt (.nm i0) (.rng2 #v[a,b]) cs cap) Z S) Q:=by
 obtain⟨w,S1,e1,rfl,h1⟩:=bB oa he;obtain⟨w,S2,e2,rfl,h0⟩:=bB ob h1;have hl:(c8 i (j - i).toNat).length=(j - i).toNat:=by simp[c8]
 refine jx (mi:=.its (c8 i (j - i).toNat)) (S1:=S2) (xs:=c8 i (j - i).toNat) I oe oc ?_ (λ_ _ _ _ _=>rfl) rfl h0 (λk w ys Z S hw hI=>?_) λys Z S hI=>hend ys Z S (hl ▸ hI)
 ·simp only[jS,cY,dF,iW,iRng2,e1,e2];rw[JZ hj]
 ·rw[d8]at hw;split at hw
  ·rename_i hk;cases hw;exact hstep k ys Z S ∅ hI
  ·cases hw
end
section
variable{defs:Jn (JV×Df)}{fuel d:Jx}{S:aa}{r:Jx}{Q:QW}
def zw (G:Gen defs){a:Jx}(ha:a<=3)(k:∀(q:Jx) (ts:Jn (JI×JI×JI)) (S':aa),S'[q]?=ba (.lst (ts.map oT))->(∀t∈ts,qN a t)->S.length<=q->Ka S S'->Q (.ref q,S')) :
  wO (aP (am defs fuel (d+1)) "_law_rising" 1 [.int a] S) Q:=by
 refine ay G.rising rfl rfl λQ' hR=>?_
 replace k:∀(q:Jx) (ts:Jn (JI×JI×JI)) (S':aa),S'[q]?=ba (.lst (ts.map oT))->(∀t∈ts,qN a t)->S.length<=q->Ka S S'->Q' (.rt (.ref q),S'):=λq ts S' a b c e=>hR _ _ (k q ts S' a b c e)
 clear hR;show wZ _ _ dP [ba (.int a),gV,gV,gV] S Q';dsimp only[dP];refine st ?_;dsimp only[wS,wE,wA,JK];nofun
 refine cr (a:JI) (λi Z S'=>∃(q:Jx) (ts:Jn (JI×JI×JI)) (a2 a3:Jw W),Z=[ba (.int a),ba (.ref q),a2,a3]/\S'[q]?=ba (.lst (ts.map oT))/\(∀t∈ts,qN a t)/\S.length<=q/\ts.length<=9*i/\Ka S S') rfl rfl ∅ #[rfl,_,[],_,_,rfl,ag,λ_ h=>(nomatch h),JB _,Lj _,.push] ?_ ?_
 ·rintro i Z S1 hi ⟨q,ts,a2,a3,rfl,e1,ht,hq,hl,k1⟩ Q2 hn _;clear hK k;nofun
  refine jd (i:JI) (a:JI) (λj Z S'=>∃(q:Jx) (ts:Jn (JI×JI×JI)) (a3:Jw W),Z=[ba (.int a),ba (.ref q),ba (.int i),a3]/\S'[q]?=ba (.lst (ts.map oT))/\(∀t∈ts,qN a t)/\S.length<=q/\ts.length<=9*i+3*j/\Ka S S') rfl rfl rfl ∅ #[rfl,rfl,q,ts,a3,rfl,e1,ht,hq,∅,k1] ?_ ?_
  ·rintro j Z S2 hj ⟨q,ts,a3,rfl,e2,ht,hq,hl,k2⟩ Q3 hn3 _;clear hK hn;refine st ?_;dsimp only[wS,wE,wV,wG,JK];refine zv ((i:JI)+j) (a:JI) (λm ys Z2 S3=>(∃a1,Z2=[gV,a1,ba (.int i),ba (.int ((i:JI)+j))])/\(∃us:Jn (JI×JI×JI),ys=us.map oT/\us.length=m/\∀t∈us,qN a t)/\S3=S2) rfl rfl rfl rfl ∅ #[rfl,rfl,#[gV,rfl],#[[],rfl,rfl,λ_ h=>nomatch h],rfl] ?_ ?_
   ·rintro m ys Z2 S3 hm ⟨⟨a1,rfl⟩,⟨us,rfl,hul,hu⟩,rfl⟩;refine#[λ_=>#[#[_,rfl],#[us++[((i:JI),(i:JI)+j,(i:JI)+j+m)],by rw[Ke]; rfl,by rw[JC,hul]; rfl,λt h=>?_],rfl],λz=>by cases z]
    rcases Kd.mp h with h|h
    ·exact hu t h
    ·rw[JD.mp h];exact#[#[∅,∅],#[by dsimp only; omega,by dsimp only; omega],#[by dsimp only; omega,by dsimp only; omega]]
   ·rintro ys Z2 S3 ⟨_,⟨us,rfl,hul,hu⟩,rfl⟩;refine#[jV (by rw[Jp]; omega),ac (yS (ak e2) ag ?_) (b6 (hn3 _ _ #[_,ts++us,_,rfl,?_,λt h=>(Kd.mp h).elim (ht t) (hu t),?_,?_,k2.trans (Ka.push.trans .push)]))]
    ·refine jV ?_;rw[JC,Jp,Jp];omega
    ·rw[Ke]; exact ag
    ·have:=k2.len;simp only[JC]; omega
    ·rw[JC]; omega
  ·rintro Z S2 ⟨q,ts,a3,rfl,e2,ht,hq,hl,k2⟩;exact hK _ _ (b6 (hn _ _ #[q,ts,_,_,rfl,e2,ht,hq,∅,k2]))
 ·rintro Z S1 ⟨q,ts,a2,a3,rfl,e1,ht,hq,hl,k1⟩;refine hK _ _ (st ?_);exact k q ts S1 e1 ht hq k1
def we (hfu:20 < fuel)(G:Gen defs)(hf:Fl S r)(k:∀w S',eu w->Fl S' r->Kp r S S'->Q (w,S')):wO (aP (am defs fuel (d+6)) "_law_one_way_rule" 1 [.ref r] S) Q:=by
 refine ay G.one_way_rule rfl rfl λQ' hR=>?_
 replace k:∀w S',eu w->Fl S' r->Kp r S S'->Q' (.rt w,S'):=λz S' a b c=>hR _ _ (k z S' a b c)
 clear hR;show wZ _ _ bC [ba (.ref r),gV,gV] S Q';dsimp only[bC];nofun
 left;refine aY (d:=d+4) G.pick hf #v[] #v[] λv S1 v0 v3 f1 k1=>?_
 dsimp only[db,aH];obtain⟨a,ea⟩ : ∃a:Jx,1+v=a:=#[(1+v).toNat,∅]
 rw[ea];refine hK _ _ ?_;clear hK K;nofun
 dsimp only[wS,wE,JK];refine dM (a:JI) (λk zs Z2 S2=>(∃a1,Z2=[gV,a1,ba (.ref r)])/\(∃ks:Jn JI,zs=(ks.map zu).map au/\ks.Pairwise (·≠·)/\ks.length<=k/\∀x∈ks,0<=x/\x < k)/\Fl S2 r/\Kp r S1 S2) rfl rfl rfl ∅ #[rfl,#[gV,rfl],#[[],rfl,.nil,JB _,λ_ h=>(nomatch h)],f1,.refl] ?_ ?_
 ·rintro i zs Z2 S2 hi ⟨⟨a1,rfl⟩,⟨ks,rfl,hkp,hkl,hks⟩,f2,k2⟩;clear hK k;dsimp only[gR,wC,wT,wE,wA,wV,wG,JK];refine aY (d:=d+4) G.pick f2 #v[] #v[] λv S3 _ _ f3 k3=>?_
  dsimp only[iZ,aH,wB];refine#[λ_=>#[#[_,rfl],#[ks++[(i:JI)],by simp[zu,au,bf],?_,by rw[JC]; exact NZ hkl,λx hx=>?_],f3,k2.trans k3],λ_=>#[#[_,rfl],#[ks,rfl,hkp,∅,λx hx=>#[(hks x hx).1,by have:=(hks x hx).2; omega]],f3,k2.trans k3]]
  ·rw[List.pairwise_append];refine#[hkp,by simp,λx hx y hy e=>?_]
   have:=(hks x hx).2;rw[JD.mp hy]at e;omega
  ·rcases Kd.mp hx with h|h
   ·exact#[(hks x h).1,by have:=(hks x h).2; omega]
   ·rw[JD.mp h]; omega
 ·rintro zs Z2 S2 ⟨_,⟨ks,rfl,hkp,hkl,hks⟩,f2,k2⟩;rw[JO]at hkl hks;refine#[jV (by rw[Jp,Jp]; omega),hK _ _ (st ?_)]
  clear hK K;left;have hlt:=f2.lt;refine mX (d:=d) (a:=a) (bs:=[0]) (us:=ks.map zu) hfu G (f2.ka .push) ∅ #v[] (λS' kk=>?_) (by rw[Jp]; omega) (λu hu=>by obtain⟨x,_,rfl⟩:=JE.mp hu; exact Rr _ _) λms ns S3 hml hnl hnm f3 k3=>?_
  ·simp only[dB,aw (kk.get _ _ ∅ ag)]
  refine k _ _ #[a,[0],ms,ns,ks.map zu,rfl,#[#[∅,oU,by simp; omega,∅],hml,hnl,hnm,?_,λg hg=>?_]] f3 (k1.trans (k2.trans (Kp.push.trans k3)))
  ·unfold Tx;rw[MD];exact hkp.imp λh e=>h (B1 e)
  ·obtain⟨x,hx,rfl⟩:=JE.mp hg;exact B0 ∅ ∅ (hks x hx).1 (hks x hx).2
def qO (hfu:20 < fuel)(G:Gen defs)(hf:Fl S r)(k:∀w S',eu w->Fl S' r->Kp r S S'->Q (w,S')):wO (aP (am defs fuel (d+6)) "_law_free_rule" 1 [.ref r] S) Q:=by
 refine ay G.free_rule rfl rfl λQ' hR=>?_
 replace k:∀w S',eu w->Fl S' r->Kp r S S'->Q' (.rt w,S'):=λz S' a b c=>hR _ _ (k z S' a b c)
 clear hR;show wZ _ _ cu [ba (.ref r),gV,gV,gV,gV,gV,gV,gV,gV] S Q';dsimp only[cu];nofun
 left;refine oP (d:=d+3) G hf λa n S1 a1 a3 n1 n3 an f1 k1=>?_
 dsimp only[wU];refine ac (show cM [1,2] [.int a,.int n] [ba (.ref r),gV,gV,gV,gV,gV,gV,gV,gV]=ba [ba (.ref r),ba (.int a),ba (.int n),gV,gV,gV,gV,gV,gV]from rfl) (hK _ _ ?_)
 clear hK K;nofun
 left;refine oQ (d:=d+3) G f1 n1 n3 λbs S2 hb hbl f2 k2=>?_
 have hsz:SizeOk a bs:=#[∅,hb,by rw[hbl]; exact an,a3]
 refine fO (d:=d) hfu G f2 a3 ∅ λms ns S3 hml hnl hnm f3 k3=>hK _ _ ?_
 clear hK K;have hrt:=f3.lt;replace k3:Kp r S S3:=k1.trans (k2.trans k3);clear k1 k2 f1 f2;nofun
 dsimp only[wS,wE,JK];refine dM (n:JI) (λi zs Z2 S2=>(∃a1,Z2=[gV,a1,ba (dG ms ns bs [])])/\(∃ks:Jn JI,zs=af ks/\ks.length<=i)/\S2=S3) rfl rfl rfl ∅ #[rfl,#[gV,rfl],#[[],rfl,JB _],rfl] ?_ ?_
 ·rintro i zs Z2 S2 hi ⟨⟨a1,rfl⟩,⟨ks,rfl,hkl⟩,rfl⟩;clear hK k;have hi':i < bs.length:=∅
  dsimp only[gR,wC,wT,wE,wA,wV,wG,JK];refine aj #v[] rfl (aj (JR i) (by rw[JO]; exact oN (Jz ∅) (Jz hi')) (aj #v[] rfl ?_))
  dsimp only[iZ,aH,wB];exact#[λ_=>#[#[_,rfl],#[ks++[(i:JI)],by unfold af; rw[Ke]; rfl,by rw[JC]; exact NZ hkl],rfl],λ_=>#[#[_,rfl],#[ks,rfl,∅],rfl]]
 ·rintro zs Z2 S2 ⟨_,⟨ks,rfl,hkl⟩,rfl⟩;rw[JO]at hkl;have il:(af ks).length=ks.length:=Jp ..;refine#[jV ∅,hK _ _ ?_]
  clear hK K;nofun
  dsimp only[wS,wT,wE,wA,wV,wG,JK];refine ac (GJ (ak ag) ag) ?_;dsimp only[wB];have f4:=(f3.ka (Ka.push (o:=O.lst (af ks)))).ka (Ka.push (o:=O.lst []));have k4:=k3.trans ((Kp.push (o:=O.lst (af ks))).trans (Kp.push (o:=O.lst [])));have e4:=ak (u:=O.lst []) (ag (S:=S2) (o:=O.lst (af ks)));have hl4:S2.length < (S2++[O.lst (af ks)]++[O.lst []]).length:=by simp
  generalize hS4:S2++[O.lst (af ks)]++[O.lst []]=S4 at f4 k4 e4 hl4;clear hS4;have ret:∀Q2:QO,(∀w S',Q' (.rt w,S')->Q2 (.rt w,S'))->wZ (am defs fuel (d+5)) fuel #v[.ret (.v 3)] [ba (.ref r),ba (.int a),ba (.int n),ba (dG ms ns bs []),gV,ba (.ref S2.length),gV,gV,gV] S4 Q2:=λQ2 hr=>st (hr _ _ (k _ _ #[a,bs,ms,ns,[],rfl,hsz,hml,hnl,hnm,.nil,λ_ h=>(nomatch h)] f4 k4))
  refine#[λ_=>aF (Q0:=Q') (λ_ Q2 _ hr=>ret Q2 hr) (λz=>by cases z),λhne=>?_]
  dsimp only[iZ,aH,wB];refine aF (Q0:=Q') (λ_ Q2 _ hr=>ret Q2 hr) (λ_ Q2 hn _=>b6 (hn _ _ (hK _ _ ?_)))
  clear hK ret hn;have hk0:0 < ks.length:=by
   cases ks with
   | nil=>cases hne
   | cons x ks=>exact Nat.succ_pos _
  nofun
  left;refine gm e4 ?_;rw[il];refine aY (d:=d+4) G.pick f4 ∅ ∅ λv S5 v0 v1 f5 k5=>?_
  have e5:=k5.get _ _ ∅ e4
  obtain⟨x,_,ex⟩:=lv (f:=W.int) (xs:=ks) (i:=v.toNat) ∅
  refine fQ e5 v0 ex (hK _ _ ?_);clear hK K;replace k5:Kp r S S5:=k4.trans k5;have hrt5:=f5.lt;refine st ?_;dsimp only[wS,wE,JK];nofun
  refine jc rfl rfl ?_;dsimp only[wE,wA,wV,wG];refine aY (d:=d+4) G.pick (f5.ka .push) #v[] #v[] λv S6 v0 v9 f6 k6=>?_
  refine#[v,λ_ Z S'=>(∃a4 a8,Z=[ba (.ref r),ba (.int a),ba (.int n),ba (dG ms ns bs []),a4,ba (.ref S2.length),ba (.int x),ba (.ref S5.length),a8])/\(∃U fs,S'[S5.length]?=ba (.dic U)/\FigD (aM a bs) U fs)/\Fl S' r/\Kp r S S',rfl,∅,#[#[gV,gV,rfl],#[[],[],k6.get _ _ ∅ ag,.nil],f6,(k5.trans .push).trans k6],?_,?_]
  ·rintro i Z S7 hi ⟨⟨a4,a8,rfl⟩,⟨U,fs,e7,hd⟩,f7,k7⟩ Q2 hn _;clear hK k;refine st ?_;left;refine ja (d:=d+3) G f7 ∅ a3 ∅ n3 λu S8 hu3 hu f8 k8=>?_
   have hu:GoodW a bs.length u:=hbl.symm ▸ hu;have e8:=k8.get _ _ ∅ e7
   obtain⟨p0,p1,p2,rfl⟩ : ∃p0 p1 p2,u=[p0,p1,p2]:=by
    match u,hu3 with
    | [p0,p1,p2],_=>exact#[p0,p1,p2,rfl]
   have l1:=hu.len 1 p1 rfl;obtain⟨m1,ws1⟩:=p1;obtain⟨w1,rfl⟩ : ∃w1,ws1=[w1]:=by
    match ws1,l1 with
    | [w1],_=>exact#[w1,rfl]
   obtain⟨b,hb2⟩:=B2 (S:=S8) (f:=x) (ws:=p2.2);have kk:=k7.trans k8;nofun
   dsimp only[wS,wT,wE,wA,wV,wG];refine aj #v[] rfl (aj #v[] rfl (aj #v[] rfl ?_))
   dsimp only[Io,aH,wB];have skip:K [ba (.ref r),ba (.int a),ba (.int n),ba (dG ms ns bs []),ba (.int i),ba (.ref S2.length),ba (.int x),ba (.ref S5.length),ba (au [p0,(m1,[w1]),p2])] S8:=hK _ _ (b6 (hn _ _ #[#[_,_,rfl],#[U,fs,e8,hd],f8,kk]));refine#[λ_=>?_,λ_=>aF (Q0:=Q2) (λz=>by cases z) λ_ Q3 hn3 _=>b6 (hn3 _ _ skip)]
   refine aj #v[] rfl (aj #v[] rfl (ac hb2 ?_))
   dsimp only[wB];refine aF (Q0:=Q2) (λ_ Q3 hn3 _=>?_) λ_ Q3 hn3 _=>b6 (hn3 _ _ skip)
   clear skip;refine st ?_;left;refine i9 (d:=d+2) G hb hnl hu hu3 λS9 k9=>?_
   exact zt (k9.get _ _ e8) hd hsz hu hu3 λo ho=>b6 (hn3 _ _ (hK _ _ (b6 (hn _ _ #[#[_,_,rfl],ho,(f8.ka k9).own hrt5,(kk.trans (k9.kp r)).late k5.len]))))
  ·rintro Z S7 ⟨⟨a4,a8,rfl⟩,⟨U,fs,e7,hd⟩,f7,k7⟩;refine hK _ _ (st ?_);left;exact zr (Q:=λp=>Q' (.rt p.1,p.2)) e7 hd hsz hml hnl hnm λw S8 hw k8=>k w S8 hw (f7.ka k8) (k7.trans (k8.kp r))
end
abbrev bA (u v:JI):T:=.tup [.int u,.int v]
abbrev dy (u v:JI):W:=.tup [.int u,.int v]
def je {u v:JI}:gN (dy u v)=ba (bA u v):=rfl
def zx {U:Jn (T×W)}{k:T}{v:W}{p:T×W}(h:p∈d7 U k v):p∈U\/p=(k,v):=by
 unfold d7 at h;split at h
 ·obtain⟨q,hq,rfl⟩:=JE.mp h;split
  ·rename_i e; exact .inr (by rw[e])
  ·exact .inl hq
 ·rcases Kd.mp h with h|h
  ·exact .inl h
  ·exact .inr (JD.mp h)
def lA {U:Jn (T×W)}{k:T}{v:W}(h:bN U k=ba v):(k,v)∈U:=by
 unfold bN at h;rw[Js]at h;obtain⟨p,h1,rfl⟩:=h;have:=Pz h1;rw[<- Kt this];exact List.mem_of_find?_eq_some h1
def uL {U:Jn (T×W)}{p:T×W}(h:p∈U):∃v,bN U p.1=ba v:=by
 unfold bN;cases e:U.find? λq=>decide (q.1=p.1)with
 | some q=>exact#[q.2,rfl]
 | none=>exact absurd (List.find?_eq_none.mp e p h) (by simp)
abbrev MustE (S:aa)(n b:Jx)(U:Jn (T×W)):Prop:=∀p∈U,∃(u v:JI) (l:Jx) (ws:Jn JI),p=(bA u v,W.ref l)/\(0<=u/\u < n)/\(0<=v/\v < n)/\b<=l/\S[l]?=ba (.lst (af ws))/\ws.length<=3/\∀w∈ws,0<=w/\w < (n:JI)
def MustE.mono {S S':aa}{n b:Jx}{U:Jn (T×W)}(h:MustE S n b U)(k:∀(l:Jx) (ws:Jn JI),b<=l->S[l]?=ba (.lst (af ws))->S'[l]?=ba (.lst (af ws))):MustE S' n b U:=λp hp=>
 let ⟨u,v,l,ws,h1,h2,h3,h4,h5,h6⟩:=h p hp
 #[u,v,l,ws,h1,h2,h3,h4,k l ws h4 h5,h6]
def MustE.ka {S S':aa}{n b:Jx}{U:Jn (T×W)}(h:MustE S n b U)(k:Ka S S'):MustE S' n b U:=h.mono λl ws _ e=>k.get _ _ e
def MustE.kp {S S':aa}{n b r:Jx}{U:Jn (T×W)}(h:MustE S n b U)(hr:r < b)(k:Kp r S S'):MustE S' n b U:=h.mono λl ws hl e=>k.get _ _ ∅ e
def MustE.set {S:aa}{n b t:Jx}{U k:Jn (T×W)}{o:O}(h:MustE S n b U)(ht:S[t]?=ba (.dic k)):MustE (S.set t o) n b U:=h.mono λl ws hl e=>by
 rw[bj (by rintro rfl; rw[ht]at e; cases e)]; exact e
def MustE.put {S:aa}{n b:Jx}{U:Jn (T×W)}{u v:JI}{l:Jx}{ws:Jn JI}(h:MustE S n b U)(h2:0<=u/\u < n)(h3:0<=v/\v < n)(h4:b<=l)(h5:S[l]?=ba (.lst (af ws)))(h6:ws.length<=3)(h7:∀w∈ws,0<=w/\w < (n:JI)):MustE S n b (d7 U (bA u v) (.ref l)):=λp hp=>by
 rcases zx hp with hp|rfl
 ·exact h p hp
 ·exact#[u,v,l,ws,rfl,h2,h3,h4,h5,h6,h7]
noncomputable abbrev B3:=JI×JI×Jn JI
abbrev qP (ws:Jn JI):Es:=ws.foldr (λw es=>.cons (.c (.int w)) es) .nil
abbrev uM:Jn B3->Es
 | []=>.nil
 | e::L=>.cons (.tup #v[.c (.int e.1),.c (.int e.2.1)]) (.cons (.lst (qP e.2.2)) (uM L))
abbrev wf:Jn B3->Jx->Jn W
 | [],_=>[]
 | e::L,s=>dy e.1 e.2.1::.ref s::wf L (s+1)
abbrev wg (L:Jn B3):aa:=L.map λe=>O.lst (af e.2.2)
abbrev uN (n:Jx)(e:B3):J6:=decide ((0<=e.1/\e.1 < n)/\(0<=e.2.1/\e.2.1 < n)/\e.2.2.length<=3)&&e.2.2.all λw=>decide (0<=w/\w < (n:JI))
section
variable{M:JV->FF}{Z:Fm}
def sL {S:aa}:∀ {ws:Jn JI} {Q:Jn W×aa->Prop},Q (af ws,S)->wA M (qP ws) Z S Q
 | [],Q,q=>by show wA M .nil Z S Q; exact q
 | w::ws,Q,q=>by show wA M (.cons (.c (.int w)) (qP ws)) Z S Q; dsimp only[wA,wE]; exact sL q
def zy:∀ {L:Jn B3} {S:aa} {Q:Jn W×aa->Prop},Q (wf L S.length,S++wg L)->wA M (uM L) Z S Q
 | [],S,Q,q=>by
  show wA M .nil Z S Q;dsimp only[wA]
  rwa [show S++wg []=S from Le S]at q
 | e::L,S,Q,q=>by
  show wA M (.cons (.tup #v[.c (.int e.1),.c (.int e.2.1)]) (.cons (.lst (qP e.2.2)) (uM L))) Z S Q;dsimp only[wA,wE];refine sL (zy ?_);rw[JC,LQ];exact q
end
def mY {S:aa}{n b:Jx}:∀(L:Jn B3) (s:Jx) (U:Jn (T×W)),MustE S n b U->b<=s->(∀e∈L,uN n e=true)->(∀i e,L[i]?=ba e->S[s+i]?=ba (.lst (af e.2.2)))->∃U',dC U (wf L s)=ba U'/\MustE S n b U'/\U'.length<=U.length+L.length
 | [],s,U,hm,hb,hL,hS=>#[U,by simp[wf,dC],hm,by simp]
 | e::L,s,U,hm,hb,hL,hS=>by
  have h1:=hL e (by simp)
  unfold uN at h1;rw[Jv,JP]at h1;obtain⟨h2,h3,h4⟩:=Kt h1.1;obtain⟨U',k1,k2,k3⟩:=mY L (s+1) (d7 U (bA e.1 e.2.1) (.ref s)) (hm.put h2 h3 hb (by have:=hS 0 e rfl; simpa using this) h4 (λw hw=>Kt (h1.2 w hw))) ∅ (λx hx=>hL x (by simp[hx])) (λi x hx=>by have:=hS (i+1) x (by simpa using hx); rw[show s+1+i=s+(i+1) by omega]; exact this)
  refine#[U',?_,k2,?_]
  ·simp only[wf,dC,je]; exact k1
  ·have:=cD U (bA e.1 e.2.1) (.ref s);rw[J9]; omega
abbrev KB:Jn (Jn JI):=[[1,0],[0,2,1],[0,1],[0,1,2]]
abbrev KindOk (S:aa)(b:Jx)(w:W):Prop:=∃(bs:Jn JI) (q:Jx) (U:Jn (T×W)) (most:JI),w=.tup [.tup (af bs),.ref q,.int most]/\bs∈KB/\1<=most/\most<=3/\most*bs.length<=6/\S[q]?=ba (.dic U)/\b<=q/\U.length<=4/\MustE S bs.length b U
def KindOk.mono {S S':aa}{b:Jx}{w:W}(h:KindOk S b w)(k1:∀(l:Jx) (ws:Jn JI),b<=l->S[l]?=ba (.lst (af ws))->S'[l]?=ba (.lst (af ws)))(k2:∀(l:Jx) (U:Jn (T×W)),b<=l->S[l]?=ba (.dic U)->S'[l]?=ba (.dic U)):KindOk S' b w:=
 let ⟨bs,q,U,most,h1,h2,h3,h4,h5,h6,h7,h8,h9⟩:=h
 #[bs,q,U,most,h1,h2,h3,h4,h5,k2 _ _ h7 h6,h7,h8,h9.mono k1]
def KindOk.ka {S S':aa}{b:Jx}{w:W}(h:KindOk S b w)(k:Ka S S'):KindOk S' b w:=h.mono (λl ws _ e=>k.get _ _ e) (λl ws _ e=>k.get _ _ e)
abbrev zz (bs:Jn JI)(L:Jn B3)(most:JI):E:=.tup #v[.tup (qP bs),.disp (uM L),.c (.int most)]
section
variable{M:JV->FF}{Z:Fm}{S:aa}
def oV (bs:Jn JI)(L:Jn B3)(most:JI){b:Jx}{Q:QW}(hb:b<=S.length)(h1:bs∈KB)(h2:1<=most/\most<=3/\most*bs.length<=6)(hL:∀e∈L,uN bs.length e=true)(h4:L.length<=4)(k:∀w S',KindOk S' b w->Ka S S'->Q (w,S')) :
  wE M (zz bs L most) Z S Q:=by
 unfold zz;dsimp only[wE,wA];refine sL (zy ?_);obtain⟨U,k1,k2,k3⟩:=mY (S:=S++[O.dic []]++wg L) (n:=bs.length) (b:=b) L (S.length+1) [] (λ_ h=>nomatch h) ∅ hL (λi e he=>by
  rw[LP (by simp),show S.length+1+i - (S++[O.dic []]).length=i by simp]
  simp[wg,he])
 have hat:(S++[O.dic []]++wg L)[S.length]?=ba (.dic []):=by
  rw[Ku (by simp)]; exact ag
 refine#[hat,ac (show dC [] (wf L (S++[O.dic []]).length)=ba U by rw[JC]; exact k1) (k _ _ #[bs,S.length,U,most,rfl,h1,h2.1,h2.2.1,h2.2.2,bo hat,hb,?_,k2.set hat] #[λj o h=>?_,by simp])]
 ·simp only[LV]at k3; omega
 ·have:j < S.length:=bP h;show((S++[O.dic []]++wg L).set S.length (O.dic U))[j]?=ba o;rw[bj ∅,Ku (by simp; omega)]
  exact ak h
structure Menu (S0 S:aa)(r t m:Jx):Prop where
 at_t:∃xs:Jn W,S[t]?=ba (.lst xs)/\xs.length=m/\∀x∈xs,KindOk S S0.length x
 pos:0 < m
 jV:m<=9
 fl:Fl S r
 kp:Kp r S0 S
 lt:S0.length<=t
 rlt:r < S0.length
def qQ {S0 S S':aa}{r t m:Jx}{w:W}(h:Menu S0 S r t m)(hw:KindOk S' S0.length w)(k:Ka S S')(hm:m < 9):∃xs,S'[t]?=ba (.lst xs)/\xs.length < sizeLine/\Menu S0 (S'.set t (.lst (xs++[w]))) r t (m+1):=by
 obtain⟨⟨xs,h1,h2,h3⟩,hp,hf,fl,kp,lt,rlt⟩:=h;have e:S'[t]?=ba (.lst xs):=k.get _ _ h1;have stay:∀x,KindOk S' S0.length x->KindOk (S'.set t (.lst (xs++[w]))) S0.length x:=λx hx=>hx.mono (λl ws hl el=>by
  by_cases hlt:t=l
  ·exfalso;subst hlt;rw[e]at el;injection el with el
   injection el with el
   match xs,h2,h3 with
   | [],h2,_=>simp at h2; omega
   | x::xs,_,h3=>
    obtain⟨bs,q,U,most,hx,_⟩:=h3 x (by simp)
    subst hx
    match ws with
    | []=>simp[af]at el
    | w::ws=>simp[af]at el
  ·rw[bj hlt]; exact el) (λl U hl el=>by
  rw[bj (by rintro rfl; rw[e]at el; cases el)]; exact el)
 refine#[xs,e,(by rw[Ky]; omega),#[xs++[w],bo e,by simp; omega,λx hx=>?_],∅,∅,(fl.ka k).own ∅,(kp.trans (k.kp r)).late lt,lt,rlt]
 rcases Kd.mp hx with hx|hx
 ·exact stay x ((h3 x hx).ka k)
 ·rw[JD.mp hx]; exact stay w hw
def qR (bs:Jn JI)(L:Jn B3)(most:JI){fuel:Jx}{S0:aa}{r t m:Jx}{x0:Jw W}{K:Fm->aa->Prop}{Q:QO}(h:Menu S0 S r t m)(hm:m < 9)(h1:bs∈KB)(h2:1<=most/\most<=3/\most*bs.length<=6)(hL:∀e∈L,uN bs.length e=true)(h4:L.length<=4)(k:∀S',Menu S0 S' r t (m+1)->K [x0,ba (.ref t)] S') :
  wS M fuel (.ex (.me .append (.v 1) #v[zz bs L most])) [x0,ba (.ref t)] S K Q:=by
 left;obtain⟨xs,e1,e2,e3⟩:=h.at_t;refine#[eg e1,oV bs L most (JY h.lt (Nh (bP e1))) h1 h2 hL h4 λw S' k1 k2=>?_]
 obtain⟨xs',f1,f2,f3⟩:=qQ h k1 k2 hm;exact ac (uA f1 f2) (k _ f3)
def lZ {defs:Jn (JV×Df)}{fuel d:Jx}{r:Jx}{Q:QW}(G:Gen defs)(hf:Fl S r)(k:∀w S',KindOk S' S.length w->Fl S' r->Kp r S S'->Q (w,S')):wO (aP (am defs fuel (d+2)) "_law_laying_kind" 1 [.ref r] S) Q:=by
 refine ay G.laying_kind rfl rfl λQ' hR=>?_
 replace k:∀w S',KindOk S' S.length w->Fl S' r->Kp r S S'->Q' (.rt w,S'):=λz S' a b c=>hR _ _ (k z S' a b c)
 clear hR;show wZ _ _ bK [ba (.ref r),gV] S Q';have hrt:=hf.lt;unfold bK;nofun
 refine GD ?_;change wA _ _ _ _ _; change wE _ _ _ _ _
 refine oV [1,0] [(0,0,[0])] 3 (b:=S.length) (JB _) #v[] #v[] #v[] #v[] λw1 S1 k1 a1=>?_
 change wE _ _ _ _ _;refine oV [0,2,1] [(1,1,[1])] 2 (b:=S.length) a1.len #v[] #v[] #v[] #v[] λw2 S2 k2 a2=>?_
 have a12:=a1.trans a2;change wE _ _ _ _ _;refine oV [0,1] [(1,1,[1])] 3 (b:=S.length) a12.len #v[] #v[] #v[] #v[] λw3 S3 k3 a3=>?_
 have a13:=a12.trans a3;dsimp only[wA];refine hK _ _ ?_;clear hK K;have m3:Menu S (S3++[O.lst [w1,w2,w3]]) r S3.length 3:=by
  refine#[#[[w1,w2,w3],ag,rfl,λx hx=>?_],#v[],#v[],(hf.ka a13).ka .push,(a13.trans .push).kp r,a13.len,hrt]
  rcases JX.mp hx with rfl|hx
  ·exact(k1.ka (a2.trans a3)).ka .push
  ·rcases JX.mp hx with rfl|hx
   ·exact(k2.ka a3).ka .push
   ·rw[JD.mp hx];exact k3.ka .push
 dsimp only[JK];clear k1 k2 k3 a1 a2 a3 a12 a13;generalize S3.length=t at m3;generalize S3++[O.lst [w1,w2,w3]]=S3' at m3;refine aK λK hK=>qR [0,1] [(1,1,[1]),(0,0,[1])] 3 m3 #v[] #v[] #v[] #v[] #v[] λS4 m4=>hK _ _ ?_
 refine aK λK hK=>qR [0,1] [(1,1,[])] 1 m4 #v[] #v[] #v[] #v[] #v[] λS5 m5=>hK _ _ ?_
 refine aK λK hK=>qR [0,2,1] [(0,0,[0]),(0,1,[1]),(1,0,[1]),(1,1,[1])] 2 m5 #v[] #v[] #v[] #v[] #v[] λS6 m6=>hK _ _ ?_
 nofun
 left;obtain⟨xs,e1,e2,e3⟩:=m6.at_t;obtain⟨xs',f1,f2,m7⟩:=qQ (S':=S6++[O.dic []]) (w:=.tup [.tup (af [1,0]),.ref S6.length,.int 3]) m6 #[[1,0],S6.length,[],3,rfl,#v[],#v[],#v[],#v[],ag,m6.kp.len,#v[],λ_ h=>(nomatch h)] .push #v[]
 refine#[eg e1,ac (uA f1 f2) (hK _ _ ?_)];refine aK λK hK=>qR [0,1,2] [(2,2,[2]),(1,2,[1]),(2,1,[1]),(1,1,[1,2])] 2 m7 #v[] #v[] #v[] #v[] #v[] λS8 m8=>hK _ _ ?_
 refine aK λK hK=>qR [0,1,2] [(0,0,[0,1])] 2 m8 #v[] #v[] #v[] #v[] #v[] λS9 m9=>hK _ _ ?_
 refine st ?_;left;refine aY (d:=d) G.pick m9.fl #v[] #v[] λv S10 v0 v9 f10 k10=>?_
 obtain⟨xs,g1,g2,g3⟩:=m9.at_t;have hlt:=m9.lt;have hv:v.toNat < xs.length:=∅
 exact fQ (k10.get _ _ ∅ g1) v0 (Jz hv) (k _ _ ((g3 _ (Kq hv)).mono (λl ws hl e=>k10.get _ _ ∅ e) (λl ws hl e=>k10.get _ _ ∅ e)) f10 (m9.kp.trans k10))
end
abbrev qS (bs:Jn JI):Jn (Jn JI):=if bs=[0,1,2]then[[0,1,2],[0,2,1],[1,0,2],[1,2,0],[2,0,1],[2,1,0]]else if bs.length=2 then[[0,1],[1,0]]else[[0,1,2],[0,2,1],[2,0,1],[2,1,0]]
abbrev gZ (bs nm:Jn JI):Jx->Jn JI
 | 0=>Ks bs.length 0
 | k+1=>(gZ bs nm k).set (nm.getD k 0).toNat (nm.getD (bs.getD k 0).toNat 0)
def jB (bs nm:Jn JI):∀k,(gZ bs nm k).length=bs.length
 | 0=>by simp[gZ]
 | k+1=>by simp[gZ,jB bs nm k]
def B4:∀bs∈KB,∀nm∈qS bs,nm.length=bs.length/\(∀x∈nm,0<=x/\x < (bs.length:JI))/\(∀x∈bs,0<=x/\x < (bs.length:JI))/\GoodB (gZ bs nm bs.length):=by
 unfold GoodB;decide +kernel
def zA:∀bs∈KB,(bs.length=2\/bs.length=3)/\0 < (qS bs).length/\(qS bs).length < 10:=by decide
section
variable{M:JV->FF}{fuel:Jx}{Z:Fm}{S:aa}{K:Fm->aa->Prop}{Q:QO}
def B5 {tg:Tg}{e:E}{b:Ss}(r:Jx)(U:Jn (T×W))(I:Jx->Fm->aa->Prop)(oe:dD e=true)(ok:gQ b=true)(he:wE M e Z S λp=>p.1=.ref r/\p.2[r]?=ba (.dic U)/\I 0 Z (p.2.set r (.frd U)))
  (hstep:∀(i:Jx) (p:T×W) (Z:Fm) (S:aa),U[i]?=ba p->I i Z S->wO (eS tg p.1.w Z S) λq=>wD M fuel b q.1 q.2 (I (i+1)) Q) (hend:∀Z S,I U.length Z S->K Z S):Wp (gb M fuel (.loop tg (.seq e) b) Z S) (rC K Q):=by
 obtain⟨w,S1,e1,rfl,e2,h0⟩:=bB oe he;refine iq (mi:=.its (U.map λp=>p.1.w)) (S1:=S1.set r (.frd U)) (xs:=U.map λp=>p.1.w) I ok (by simp only[jS,eY,e1,oH e2,cq e2]) (λ_ _ _ _=>rfl) rfl h0 (λi w Z S hw hI=>?_) λZ S hI=>hend Z S (by rwa [Jp]at hI)
 rw[Jy,Js]at hw;obtain⟨p,hp,rfl⟩:=hw;exact hstep i p Z S hp hI
end
section
variable{defs:Jn (JV×Df)}{fuel d:Jx}{S:aa}{r:Jx}{Q:QW}
def GK {i n:Jx}{x:W}(h:S[i]?=ba (.lst [x]))(hn:n<=1000)(q:Q (.ref S.length,S++[.lst (Ks n x)])):wO (fI .mul (.ref i) (.int (n:JI)) S) Q:=by
 refine ac ?_ q;have:n<=sizeLine:=jV hn;simp only[fI,xr,dL h];rw[JZ #[∅,∅,by simpa using this]]
 unfold lV;simp[this]
def mZ {q:Jx}{U:Jn (T×W)}{u v:JI}{w:W}(h:jN S q=ba U)(hg:bN U (bA u v)=ba w):nY (.ref q) (.tup [.int u,.int v]) S=ba (w,S):=by
 have hk:gN (.tup [.int u,.int v])=ba (bA u v):=je;simp only[nY,h,hk,hg,Kv]
def zB {q:Jx}{U:Jn (T×W)}{u v:JI}{w:W}(h:S[q]?=ba (.dic U))(hl:U.length < sizeLine):iS (.ref q) (.tup [.int u,.int v]) w S=ba (S.set q (.dic (d7 U (bA u v) w))):=by
 have hk:gN (.tup [.int u,.int v])=ba (bA u v):=je;simp only[iS,nX,h,hk];rw[JZ hl]
def jC {xs:Jn JI}{x:JI}(h0:0<=x)(h1:x.toNat < xs.length):(af xs)[x.toNat]?=ba (.int (xs.getD x.toNat 0)):=by
 unfold af;rw[Jy,al (d:=0) h1]; rfl
def gr {xs:Jn JI}{i:Jx}(h:i < xs.length):xs.getD i 0∈xs:=JG (al (d:=0) h)
def l4 (G:Gen defs){Q:QO}{bs:Jn JI}{x0 x2:Jw W}(hb:bs∈KB)
  (hk:∀(m s:Jx) (S':aa),Ka S S'->S'[s]?=ba (.lst ((qS bs).map λnm=>W.tup (af nm)))->S.length<=s->wZ (am defs fuel (d+1)) fuel (dr 5 a9) [x0,ba (.tup (af bs)),x2,ba (.int bs.length),ba (.ref m),ba (.ref s),gV,gV,gV,gV,gV,gV] S' Q) :
  wZ (am defs fuel (d+1)) fuel a9 [x0,ba (.tup (af bs)),x2,gV,gV,gV,gV,gV,gV,gV,gV,gV] S Q:=by
 generalize hd5:dr 5 a9=bu at hk;unfold a9 at hd5 ⊢;dsimp only[dr]at hd5;rw[hd5];clear hd5;nofun
 left;refine bp ?_;rw[show(af bs).length=bs.length from Jp ..]
 refine hK _ _ ?_;clear hK K;nofun
 left;have hm:(((S++[O.lst [.tup [.int 0]]])++[O.lst [.tup [.int 0,.int 1],.tup [.int 1,.int 0]]])++[O.lst [.ref S.length,.ref (S++[O.lst [.tup [.int 0]]]).length]])[((S++[O.lst [.tup [.int 0]]])++[O.lst [.tup [.int 0,.int 1],.tup [.int 1,.int 0]]]).length]?=ba (.lst [.ref S.length,.ref (S++[O.lst [.tup [.int 0]]]).length]):=ag;refine hK _ _ ?_;clear hK K;generalize hS1:S++[O.lst [.tup [.int 0]]]=S1 at hm ⊢;generalize hS2:S1++[O.lst [.tup [.int 0,.int 1],.tup [.int 1,.int 0]]]=S2 at hm ⊢;generalize hS3:S2++[O.lst [.ref S.length,.ref S1.length]]=S3 at hm ⊢;have l1:S1.length=S.length+1:=by rw[<- hS1]; simp
 have l2:S2.length=S1.length+1:=by rw[<- hS2]; simp
 have l3:S3.length=S2.length+1:=by rw[<- hS3]; simp
 have kS2:Ka S S2:=by rw[<- hS2,<- hS1]; exact Ka.push.trans .push
 nofun
 left;refine#[eg hm,uD (ak hm) (by decide:2 < 1000) (hK _ _ ?_)]
 clear hK K;generalize hS5:(S3++[O.lst [.tup [.int 0,.int 1,.int 2],.tup [.int 0,.int 2,.int 1],.tup [.int 2,.int 0,.int 1],.tup [.int 2,.int 1,.int 0]]]).set S2.length (.lst ([.ref S.length,.ref S1.length]++[.ref S3.length]))=S5;have k5:Ka S S5:=by
  rw[<- hS5,<- hS3];exact Ka.late (kS2.trans (Ka.push.trans .push)) ∅
 have m5:S5[S2.length]?=ba (.lst [.ref S.length,.ref S1.length,.ref S3.length]):=by
  rw[<- hS5]; exact bo (ak hm)
 have p5:S5[S1.length]?=ba (.lst [.tup [.int 0,.int 1],.tup [.int 1,.int 0]]):=by
  rw[<- hS5,bj ∅,<- hS3,<- hS2]
  exact ak (ak ag)
 have t5:S5[S3.length]?=ba (.lst [.tup [.int 0,.int 1,.int 2],.tup [.int 0,.int 2,.int 1],.tup [.int 2,.int 0,.int 1],.tup [.int 2,.int 1,.int 0]]):=by
  rw[<- hS5,bj ∅]
  exact ag
 have h1:S.length<=S1.length:=∅
 have h3:S.length<=S3.length:=∅
 clear hS1 hS2 hS3 hS5 hm l1 l2 l3 kS2;nofun
 dsimp only[wS,wE,wA,wV,wG,JK,qE,aH];have hb':bs=[1,0]\/bs=[0,2,1]\/bs=[0,1]\/bs=[0,1,2]:=by simpa [KB]using hb
 rcases hb' with rfl|rfl|rfl|rfl
 ·refine eA (i:=1) m5 rfl (hK _ _ (aK λK hK=>dc (λQ q=>q) (hK _ _ (hk _ _ _ k5 p5 h1))))
 ·refine eA (i:=2) m5 rfl (hK _ _ (aK λK hK=>dc (λQ q=>q) (hK _ _ (hk _ _ _ k5 t5 h3))))
 ·refine eA (i:=1) m5 rfl (hK _ _ (aK λK hK=>dc (λQ q=>q) (hK _ _ (hk _ _ _ k5 p5 h1))))
 ·refine eA (i:=2) m5 rfl (hK _ _ (aK λK hK=>lq (λQ q=>q) λQ2 hn _=>?_))
  refine st ?_;left;exact kn (d:=d) G (b6 (hn _ _ (hK _ _ (hk _ _ _ (k5.trans .push) ag k5.len))))
def sM (G:Gen defs){S0:aa}{bs:Jn JI}{q:Jx}{U:Jn (T×W)}(hb:bs∈KB)(hf:Fl S r)(hr:r < S0.length)(kp:Kp r S0 S)(hq:S[q]?=ba (.dic U))(hq0:S0.length<=q)(h4:U.length<=4)(hm:MustE S bs.length S0.length U)
  (k:∀(bs':Jn JI) (q':Jx) (U':Jn (T×W)) S',GoodB bs'->bs'.length=bs.length->S'[q']?=ba (.dic U')->S0.length<=q'->MustE S' bs.length S0.length U'->Fl S' r->Kp r S0 S'->Q (.tup [.tup (af bs'),.ref q'],S')) :
  wO (aP (am defs fuel (d+2)) "_law_numbered" 3 [.ref r,.tup (af bs),.ref q] S) Q:=by
 refine ay G.numbered rfl rfl λQ' hR=>?_
 replace k:∀(bs':Jn JI) (q':Jx) (U':Jn (T×W)) S',GoodB bs'->bs'.length=bs.length->S'[q']?=ba (.dic U')->S0.length<=q'->MustE S' bs.length S0.length U'->Fl S' r->Kp r S0 S'->Q' (.rt (.tup [.tup (af bs'),.ref q']),S'):=λa b c e f g h i j l m=>hR _ _ (k a b c e f g h i j l m)
 clear hR;refine l4 (d:=d) G hb ?_;intro m s S1 k1 e1 hs;dsimp only[dr,a9];have hrt:=hf.lt;obtain⟨hb1,hb2,hb3⟩:=zA bs hb;nofun
 left;refine gm e1 ?_;rw[Jp];refine aY (d:=d) G.pick (hf.ka k1) ∅ ∅ λv S2 v0 v1 f2 k2=>?_
 obtain⟨nm,hnmm,enm⟩:=lv (f:=λnm=>W.tup (af nm)) (xs:=qS bs) (i:=v.toNat) ∅
 obtain⟨n1,n2,n3,n4⟩:=B4 bs hb nm hnmm;refine fQ (k2.get _ _ ∅ e1) v0 enm (hK _ _ ?_)
 clear hK K;nofun
 left;refine GK ag ∅ (hK _ _ ?_)
 clear hK K;generalize hS4:S2++[O.lst [.int 0]]=S4;have k24:Ka S2 S4:=hS4 ▸ .push;have f4:Fl S4 r:=f2.ka k24;have kp4:Kp r S0 S4:=(kp.trans (k1.kp r)).trans (k2.trans (k24.kp r));have q4:S4[q]?=ba (.dic U):=k24.get _ _ (k2.get _ _ ∅ (k1.get _ _ hq))
 have m4:MustE S4 bs.length S0.length U:=((hm.ka k1).kp hr k2).ka k24;clear hS4 k24 hm hq f2 k2 k1 e1 enm hf;nofun
 refine cr (bs.length:JI) (λk Z S'=>(∃x8,Z=[ba (.ref r),ba (.tup (af bs)),ba (.ref q),ba (.int bs.length),ba (.ref m),ba (.ref s),ba (.tup (af nm)),ba (.ref S4.length),x8,gV,gV,gV])/\S'[S4.length]?=ba (.lst (af (gZ bs nm k)))/\Ka S4 S') rfl rfl ∅ #[rfl,#[_,rfl],?_,.push] ?_ ?_
 ·rw[ag]; simp[gZ,af]
 ·rintro i Z S5 hi ⟨⟨x8,rfl⟩,e5,k5⟩ Q2 hn _;clear hK k;have hi':i < bs.length:=∅
  have hi1:i < nm.length:=∅
  have c:=n3 _ (gr hi');have c2:=n2 _ (gr hi1);refine st ?_;left;refine aj (JR i) (jC (JR i) hi') (aj c.1 (jC c.1 (by rw[JO]; omega)) (aj (JR i) (jC (JR i) hi1) ?_))
  rw[JO];refine ac (CG e5 c2.1 (by rw[show(af (gZ bs nm i)).length=_ from Jp ..,jB]; omega)) (b6 (hn _ _ #[#[_,rfl],?_,k5.late (JB _)]))
  rw[bo e5];unfold af;rw[gZ,List.map_set]
 ·rintro Z S5 ⟨⟨x8,rfl⟩,e5,k5⟩;rw[JO]at e5;refine hK _ _ (st ?_);clear hK K;dsimp only[wS,wE,JK];have f5:Fl S5 r:=f4.ka k5;have q5:S5[q]?=ba (.dic U):=k5.get _ _ q4;have m5:MustE S5 bs.length S0.length U:=m4.ka k5;have kp5:Kp r S0 S5:=kp4.trans (k5.kp r);have hq5:=bP q5;have ht5:=bP e5;have hqt:q≠S4.length:=by rintro rfl; rw[e5]at q5; cases q5
  have hn9:(bs.length:JI)<=3:=∅
  have hr5:=f5.lt;clear k5 m4 q4 f4;nofun
  refine B5 q U (λk Z S'=>(∃x10 x11,Z=[ba (.ref r),ba (.tup (af bs)),ba (.ref q),ba (.int bs.length),ba (.ref m),ba (.ref s),ba (.tup (af nm)),ba (.ref S4.length),x8,ba (.ref S5.length),x10,x11])/\S'[q]?=ba (.frd U)/\MustE S' bs.length S0.length U/\S'[S4.length]?=ba (.lst (af (gZ bs nm bs.length)))/\(∃U',S'[S5.length]?=ba (.dic U')/\U'.length<=k/\MustE S' bs.length S0.length U')/\Fl S' r/\Kp r S0 S') rfl rfl #[rfl,ak q5,#[gV,gV,rfl],bo (ak q5),(m5.ka .push).set (ak q5),?_,#[[],?_,JB _,λ_ h=>(nomatch h)],(f5.ka .push).own ∅,(kp5.trans .push).late hq0] ?_ ?_
  ·rw[bj hqt]; exact ak e5
  ·rw[bj ∅]; exact ag
  ·rintro i p Z S6 hp ⟨⟨x10,x11,rfl⟩,q6,m6,t6,⟨U',o6,l6,mm6⟩,f6,kp6⟩;clear hK k;have hpm:=JG hp;have hil:=(JF.mp hp).1;obtain⟨u,v',l,ws,rfl,hu,hv',hl,hws,hl3,hw3⟩:=m6 p hpm;obtain⟨g,hg⟩:=uL hpm;obtain⟨u2,v2,l2,ws2,he2,_,_,hl2,hws2,hl32,hw32⟩:=m6 _ (lA hg);injection he2 with _ he2
   subst he2;have hul:u.toNat < nm.length:=∅
   have hvl:v'.toNat < nm.length:=∅
   refine ac (show eS (.tp [10,11]) (bA u v',W.ref l).1.w [ba (.ref r),ba (.tup (af bs)),ba (.ref q),ba (.int bs.length),ba (.ref m),ba (.ref s),ba (.tup (af nm)),ba (.ref S4.length),x8,ba (.ref S5.length),x10,x11] S6=ba ([ba (.ref r),ba (.tup (af bs)),ba (.ref q),ba (.int bs.length),ba (.ref m),ba (.ref s),ba (.tup (af nm)),ba (.ref S4.length),x8,ba (.ref S5.length),ba (.int u),ba (.int v')],S6)from rfl) λQ2 hn _=>?_
   refine st ?_;left;refine oM l2 (af ws2) (λi zs Z2 S7=>(∃a1,Z2=[gV,a1,ba (.tup (af nm))])/\zs=af ((ws2.take i).map λw=>nm.getD w.toNat 0)/\S7=S6) rfl rfl rfl ?_ ?_ ?_ ?_
   ·dsimp only[wE,wA,wV,wG];exact ac (mZ (BQ q6) hg) #[rfl,#[_,rfl],rfl,rfl]
   ·rintro i zs Z2 S7 ⟨_,_,rfl⟩;exact hws2
   ·rintro i w zs Z2 S7 hw ⟨⟨a1,rfl⟩,rfl,rfl⟩;unfold af at hw;rw[Jy,Js]at hw;obtain⟨x,hx,rfl⟩:=hw;obtain⟨x0,x1⟩:=hw32 x (JG hx);have hxl:x.toNat < nm.length:=∅
    refine ac (show eS (.nm 1) (.int x) [gV,a1,ba (.tup (af nm))] S7=ba ([gV,ba (.int x),ba (.tup (af nm))],S7)from rfl) ?_
    dsimp only[gR,wC,wE,wA,wV,wG];refine#[λ_=>aj x0 (jC x0 hxl) #[#[_,rfl],?_,rfl],λz=>by cases z]
    rw[J2,hx];simp[af]
   ·rintro zs Z2 S7 ⟨_,rfl,rfl⟩;rw[show(af ws2).length=ws2.length from Jp ..,Kc]
    refine#[jV (by simp[af]; omega),aj hu.1 (jC hu.1 hul) (aj hv'.1 (jC hv'.1 hvl) ?_)]
    refine ac (zB (ak o6) (by rw[Ky]; omega)) (b6 (hn _ _ #[#[_,_,rfl],?_,(m6.ka .push).set (ak o6),?_,#[_,bo (ak o6),?_,?_],(f6.ka .push).own ∅,(kp6.trans .push).late kp5.len]))
    ·rw[bj ∅]; exact ak q6
    ·rw[bj ∅]; exact ak t6
    ·exact JY (cD ..) (NZ l6)
    ·refine((mm6.ka .push).put (n2 _ (gr hul)) (n2 _ (gr hvl)) kp6.len ag (by simp; omega) ?_).set (ak o6)
     intro w hw;obtain⟨x,hx,rfl⟩:=JE.mp hw;obtain⟨x0,x1⟩:=hw32 x hx;exact n2 _ (gr ∅)
  ·rintro Z S6 ⟨⟨x10,x11,rfl⟩,q6,m6,t6,⟨U',o6,l6,mm6⟩,f6,kp6⟩;refine hK _ _ (st ?_);left;exact fj t6 (k _ _ U' _ n4 (jB _ _ _) o6 kp5.len mm6 f6 kp6)
end
abbrev wj (x y z:JI):Jn (T×W):=[(bA 1 0,.int x),(bA 2 0,.int y),(bA 2 1,.int z)]
abbrev B6 (x y z a b c:JI):Jx->Jn (T×W)
 | 0=>wj x y z
 | 1=>wj x y z++[(bA 0 1,.int a)]
 | 2=>wj x y z++[(bA 0 1,.int a),(bA 0 2,.int b)]
 | _=>wj x y z++[(bA 0 1,.int a),(bA 0 2,.int b),(bA 1 2,.int c)]
def En {n x y z a b c:JI}(hx:0<=x/\x < n)(hy:0<=y/\y < n)(hz:0<=z/\z < n)(ha:0<=a/\a < n)(hb:0<=b/\b < n)(hc:0<=c/\c < n):∀i j:Jx,i < 3->j < 3->i≠j->∃p:JI,bN (B6 x y z a b c 3) (bA i j)=ba (.int p)/\0<=p/\p < n:=by
 intro i j hi hj hij
 match i,j,hi,hj,hij with
 | 0,0,_,_,h=>exact absurd rfl h
 | 0,1,_,_,_=>exact#[a,by rfl,ha]
 | 0,2,_,_,_=>exact#[b,by rfl,hb]
 | 1,0,_,_,_=>exact#[x,by rfl,hx]
 | 1,1,_,_,h=>exact absurd rfl h
 | 1,2,_,_,_=>exact#[c,by rfl,hc]
 | 2,0,_,_,_=>exact#[y,by rfl,hy]
 | 2,1,_,_,_=>exact#[z,by rfl,hz]
 | 2,2,_,_,h=>exact absurd rfl h
def qT:∀t∈ap,t.length=3/\t.getD 0 0 < 3/\t.getD 1 0 < 3/\t.getD 2 0 < 3/\t.getD 0 0≠t.getD 1 0/\t.getD 1 0≠t.getD 2 0/\t.getD 0 0≠t.getD 2 0:=by decide
def zC {t:Jn Jx}(h:t∈ap):∃i j k:Jx,t=[i,j,k]/\i < 3/\j < 3/\k < 3/\i≠j/\j≠k/\i≠k:=by
 obtain⟨h1,h2⟩:=qT t h
 match t,h1,h2 with
 | [i,j,k],_,h2=>exact#[i,j,k,rfl,h2]
section
variable{defs:Jn (JV×Df)}{fuel d:Jx}{S:aa}{r:Jx}{Q:QW}
def zD {l:Jx}{f:JI}{ws:Jn JI}(h:S[l]?=ba (.lst (af ws))):∃b,cZ .notin (.int f) (.ref l) S=ba (.bl b,S):=by
 have hf:(bY (.int f)&&(af ws).all bY)=true:=by
  simp only[bY,N5,JP];intro x hx;obtain⟨z,_,rfl⟩:=JE.mp hx;rfl
 refine#[!(af ws).any λz=>Ab z (.int f),?_]
 simp only[cZ,oG h,iI,ER,xx,eX,aw h,hf,Ls,Kv]
def Eo {q:Jx}{U:Jn (T×W)}(h:S[q]?=ba (.dic U)):tyOk "dict" S (.ref q)=true:=by simp[tyOk,cq h]
def B7 {q:Jx}{U:Jn (T×W)}(h:S[q]?=ba (.dic U))(k:Q (.ref S.length,S++[.lst (U.map λp=>p.1.w)])):wO (Bi.list.fn [.ref q] S) Q:=by
 refine ac ?_ k;have h1:AW S q=gV:=by simp[AW,h]
 have h2:mz [.ref q] S=gV:=by simp[mz,h1,iJ,eX,oH h]
 simp only[Bi.fn,Cv,h2,mG,cq h]
def zE (G:Gen defs){bs:Jn JI}{q b0:Jx}{U:Jn (T×W)}{x y z:JI}(hb:GoodB bs)(hx:0<=x/\x < bs.length)(hy:0<=y/\y < bs.length)(hz:0<=z/\z < bs.length)(hq:S[q]?=ba (.dic U))(hm:MustE S bs.length b0 U)
  (k:∀b S',Ka S S'->Q (.bl b,S')):wO (aP (am defs fuel (d+2)) "_law_breaks" 5 [.tup (af bs),.ref q,.int x,.int y,.int z] S) Q:=by
 refine ay G.breaks rfl rfl λQ' hR=>?_
 replace k:∀b S',Ka S S'->Q' (.rt (.bl b),S'):=λa b c=>hR _ _ (k a b c)
 clear hR;show wZ _ _ dO [ba (.tup (af bs)),ba (.ref q),ba (.int x),ba (.int y),ba (.int z),gV,gV,gV,gV,gV] S Q';obtain⟨a,ha1,ha⟩:=hb.rng x.toNat ∅
 obtain⟨b,hb1,hb2⟩:=hb.rng y.toNat ∅
 obtain⟨c,hc1,hc⟩:=hb.rng z.toNat ∅
 have hqt:=bP hq;unfold dO;nofun
 left;refine#[ag,ac (show dC [] [.tup [.int 1,.int 0],.int x,.tup [.int 2,.int 0],.int y,.tup [.int 2,.int 1],.int z]=ba (wj x y z)from rfl) (hK _ _ ?_)]
 clear hK K;have e1:((S++[O.dic []]).set S.length (.dic (wj x y z)))[S.length]?=ba (.dic (wj x y z)):=bo ag;have k1:Ka S ((S++[O.dic []]).set S.length (.dic (wj x y z))):=Ka.push.late (JB _);have l1:((S++[O.dic []]).set S.length (.dic (wj x y z))).length=S.length+1:=by simp
 generalize(S++[O.dic []]).set S.length (.dic (wj x y z))=S1 at e1 k1 l1 ⊢;nofun
 refine gq rfl rfl ?_;dsimp only[wE,wA,wV,wG];refine B7 e1 #[S1.length,[dy 1 0,dy 2 0,dy 2 1],(λk Z S'=>(∃x6,Z=[ba (.tup (af bs)),ba (.ref q),ba (.int x),ba (.int y),ba (.int z),ba (.ref S.length),x6,gV,gV,gV])/\S'[S.length]?=ba (.dic (B6 x y z a b c k))/\S'[S1.length]?=ba (.lst [dy 1 0,dy 2 0,dy 2 1])/\Ka S S'),rfl,#[#[_,rfl],ak e1,ag,k1.trans .push],λi Z S' h=>h.2.2.1,?_,?_]
 ·have step:∀(u v f g:JI) (kv kv':Jn (T×W)) (S':aa) (i:Jx),bN kv (bA u v)=ba (.int f)->0<=f->bs[f.toNat]?=ba g->kv.length < 10->d7 kv (bA v u) (.int g)=kv'->B6 x y z a b c (i+1)=kv'->∀x6:Jw W,S'[S.length]?=ba (.dic kv)->S'[S1.length]?=ba (.lst [dy 1 0,dy 2 0,dy 2 1])->Ka S S'->
    wO (eS (.nm 6) (dy u v) [ba (.tup (af bs)),ba (.ref q),ba (.int x),ba (.int y),ba (.int z),ba (.ref S.length),x6,gV,gV,gV] S') λp=>wD (am defs fuel (d+1)) fuel #v[.put (.v 5) (.tup #v[.ix (.v 6) (.c (.int 1)),.ix (.v 6) (.c (.int 0))]) (.ix (.v 0) (.ix (.v 5) (.v 6)))] p.1 p.2 (λZ S'=>(∃x6,Z=[ba (.tup (af bs)),ba (.ref q),ba (.int x),ba (.int y),ba (.int z),ba (.ref S.length),x6,gV,gV,gV])/\S'[S.length]?=ba (.dic (B6 x y z a b c (i+1)))/\S'[S1.length]?=ba (.lst [dy 1 0,dy 2 0,dy 2 1])/\Ka S S') Q':=by
   clear hK k;intro u v f g kv kv' S' i h1 h2 h3 h4 h5 h6 x6 e e' k;refine ac (show eS (.nm 6) (dy u v) [ba (.tup (af bs)),ba (.ref q),ba (.int x),ba (.int y),ba (.int z),ba (.ref S.length),x6,gV,gV,gV] S'=ba ([ba (.tup (af bs)),ba (.ref q),ba (.int x),ba (.int y),ba (.int z),ba (.ref S.length),ba (dy u v),gV,gV,gV],S')from rfl) λQ2 hn _=>?_
   refine st ?_;left;refine ac (mZ (cq e) h1) (aj h2 (w:=.int g) (by unfold af; rw[Jy,h3]; rfl) (aj #v[] rfl (aj #v[] rfl ?_)))
   refine ac (zB e (by rw[Ky]; omega)) (b6 (hn _ _ #[#[_,rfl],?_,?_,k.late (JB _)]))
   ·rw[bo e,h5,h6]
   ·rw[bj ∅]; exact e'
  rintro i w Z S2 hw ⟨⟨x6,rfl⟩,e2,l2,k2⟩
  match i,hw,e2 with
  | 0,hw,e2=>cases hw; exact step 1 0 x a _ _ S2 0 (by rfl) hx.1 ha1 (by simp[B6,wj]) (by rfl) (by rfl) x6 e2 l2 k2
  | 1,hw,e2=>cases hw; exact step 2 0 y b _ _ S2 1 (by rfl) hy.1 hb1 (by simp[B6,wj]) (by rfl) (by rfl) x6 e2 l2 k2
  | 2,hw,e2=>cases hw; exact step 2 1 z c _ _ S2 2 (by rfl) hz.1 hc1 (by simp[B6,wj]) (by rfl) (by rfl) x6 e2 l2 k2
  | n+3,hw,_=>simp at hw
 ·rintro Z S2 ⟨⟨x6,rfl⟩,e2,l2,k2⟩;have hv:=En hx hy hz ha hb2 hc;have e2:S2[S.length]?=ba (.dic (B6 x y z a b c 3)):=e2;refine hK _ _ ?_;clear hK K;have hlt2:=bP e2;nofun
  refine gq rfl rfl ?_;dsimp only[wE,wA,wV,wG];refine kn (d:=d) G #[S2.length,ap.map (λt=>W.tup (aq t)),(λk Z S'=>(∃x7 x8 x9,Z=[ba (.tup (af bs)),ba (.ref q),ba (.int x),ba (.int y),ba (.int z),ba (.ref S.length),x6,x7,x8,x9])/\S'[S.length]?=ba (.dic (B6 x y z a b c 3))/\S'[S2.length]?=ba (.lst (ap.map (λt=>W.tup (aq t))))/\Ka S S'),rfl,#[#[_,_,_,rfl],ak e2,ag,k2.trans .push],λi Z S' h=>h.2.2.1,?_,?_]
  ·rintro i w Z S3 hw ⟨⟨x7,x8,x9,rfl⟩,e3,l3,k3⟩;clear hK;rw[Jy,Js]at hw;obtain⟨t,ht,rfl⟩:=hw;obtain⟨i1,j1,h1,rfl,hi1,hj1,hh1,n1,n2,n3⟩:=zC (JG ht);obtain⟨p1,g1,r1⟩:=hv i1 j1 hi1 hj1 n1;obtain⟨p2,g2,r2⟩:=hv j1 h1 hj1 hh1 n2;obtain⟨p3,g3,r3⟩:=hv i1 h1 hi1 hh1 n3;have q3:=k3.get _ _ hq;refine ac (show eS (.tp [7,8,9]) (W.tup (aq [i1,j1,h1])) [ba (.tup (af bs)),ba (.ref q),ba (.int x),ba (.int y),ba (.int z),ba (.ref S.length),x6,x7,x8,x9] S3=ba ([ba (.tup (af bs)),ba (.ref q),ba (.int x),ba (.int y),ba (.int z),ba (.ref S.length),x6,ba (.int i1),ba (.int j1),ba (.int h1)],S3)from rfl) λQ2 hn hr=>?_
   nofun
   dsimp only[wS,wT,wE,wA,wV,wG];refine ac (mZ (cq e3) g3) #[Eo q3,ac (mZ (cq e3) g1) (ac (mZ (cq e3) g2) (ac (mZ (cq e3) g3) ?_))];have hget:Me.get.fn (.ref q) [.tup [.int p1,.int p2],.ref S3.length] (S3++[O.lst [.int p3]])=ba ((bN U (bA p1 p2)).getD (.ref S3.length),S3++[O.lst [.int p3]]):=by
    have hk:gN (.tup [.int p1,.int p2])=ba (bA p1 p2):=je;simp only[Me.fn,tM,cq (ak q3),hk]
   refine ac hget ?_;have hres:∃(l:Jx) (ws:Jn JI),(bN U (bA p1 p2)).getD (.ref S3.length)=.ref l/\(S3++[O.lst [.int p3]])[l]?=ba (.lst (af ws)):=by
    cases hg:bN U (bA p1 p2)with
    | none=>exact#[S3.length,[p3],rfl,ag]
    | some g=>
     obtain⟨u,v,l,ws,he,_,_,_,hl,_⟩:=(hm.ka k3) _ (lA hg);injection he with _ he
     subst he;exact#[l,ws,rfl,ak hl]
   obtain⟨l,ws,hl1,hl2⟩:=hres;dsimp only;rw[hl1];obtain⟨kb,hkb⟩:=zD (f:=p3) hl2;refine ac hkb ?_;dsimp only[wB];refine aF (Q0:=Q2) (λ_ Q3 _ hr3=>st (hr3 _ _ (hr _ _ (k _ _ (k3.trans .push))))) λ_ Q3 hn3 _=>b6 (hn3 _ _ (hK _ _ (b6 (hn _ _ #[#[_,_,_,rfl],ak e3,ak l3,k3.trans .push]))))
  ·rintro Z S3 ⟨⟨x7,x8,x9,rfl⟩,e3,l3,k3⟩;exact hK _ _ (st (k _ _ k3))
end
def GL {a n:Jx}{m0 m1 m2 x y z:JI}(h0:0<=m0/\m0 < a)(h1:0<=m1/\m1 < a)(h2:0<=m2/\m2 < a)(hx:0<=x/\x < n)(hy:0<=y/\y < n)(hz:0<=z/\z < n):GoodW a n [(m0,[]),(m1,[x]),(m2,[y,z])]:=by
 refine#[λk p h=>?_,λk p h=>?_,λk p h=>?_] <;> match k,h with
 | 0,h=>cases h; first|exact h0|rfl|(intro w hw; cases hw)
 | 1,h=>cases h; first|exact h1|rfl|(intro w hw; rw[JD.mp hw]; exact hx)
 | 2,h=>cases h; first|exact h2|rfl|(intro w hw; rcases JX.mp hw with e|hw <;> first|exact e ▸ hy|(rw[JD.mp hw]; exact hz))
 | n+3,h=>simp at h
def Er {M:JV->FF}{Z:Fm}{S:aa}{i n:Jx}{Q:QW}(hv:∀Q:W->Prop,Q (.int n)->wV Z i Q)(hn:n<=3)(k:∀j:JI,0<=j->j<=27->j=(n:JI)*n*n->Q (.int j,S)):wE M (.op .mul (.op .mul (.v i) (.v i)) (.v i)) Z S Q:=by
 have b1 : -(2 ^ 64) < (n:JI):=∅
 have b2:(n:JI) < 2 ^ 64:=∅
 have hc:(n:JI)*n*n<=27/\0<=(n:JI)*n*n:=by rcases(show n=0\/n=1\/n=2\/n=3 by omega)with h|h|h|h <;> rw[h] <;> decide
 dsimp only[wE];have em:∀m:JI,fI .mul (.int m) (.int n) S=ba (.int (m*n),S):=λm=>mU b1 b2
 generalize fI .mul=B at em ⊢;refine hv _ ?_;refine hv _ ?_;refine ac (em _) ?_;refine hv _ ?_;refine ac (em _) ?_;have:=k _ hc.2 hc.1 rfl;exact this
def zF {M:JV->FF}{fuel:Jx}{Z:Fm}{S:aa}{K:Fm->aa->Prop}{Q:QO}{i0 i n:Jx}{b:Ss}(hv:∀Q:W->Prop,Q (.int n)->wV Z i Q)(hn:n<=3)(ok:gQ b=true)
  (h:∀j:JI,0<=j->j<=27->j=(n:JI)*n*n->∃I:Jx->Fm->aa->Prop,I 0 Z S/\(∀(i:Jx) (Z:Fm) (S:aa),(i:JI) < j->I i Z S->wD M fuel b (Z.set i0 (ba (.int i))) S (I (i+1)) Q)/\∀Z S,I j.toNat Z S->K Z S) :
  Wp (gb M fuel (.loop (.nm i0) (.rng #v[.op .mul (.op .mul (.v i) (.v i)) (.v i)]) b) Z S) (rC K Q):=
 have hw:=Er (M:=M) (S:=S) (Q:=λp=>∃(j:JI) (I:Jx->Fm->aa->Prop),p.1=.int j/\(-(2 ^ 62)<=j/\j < 2 ^ 62)/\I 0 Z p.2/\(∀(i:Jx) (Z:Fm) (S:aa),(i:JI) < j->I i Z S->wD M fuel b (Z.set i0 (ba (.int i))) S (I (i+1)) Q)/\∀Z S,I j.toNat Z S->K Z S) hv hn λj j0 j27 e=>let ⟨I,h0,h1,h2⟩:=h j j0 j27 e; #[j,I,rfl,∅,h0,h1,h2]
 jc rfl ok hw
section
variable{defs:Jn (JV×Df)}{fuel d:Jx}{S:aa}{r:Jx}{Q:QW}
def zG (hfu:20 < fuel)(G:Gen defs)(hf:Fl S r)(k:∀w S',eu w->Fl S' r->Kp r S S'->Q (w,S')):wO (aP (am defs fuel (d+7)) "_law_laying_rule" 1 [.ref r] S) Q:=by
 refine ay G.laying_rule rfl rfl λQ' hR=>?_
 replace k:∀w S',eu w->Fl S' r->Kp r S S'->Q' (.rt w,S'):=λz S' a b c=>hR _ _ (k z S' a b c)
 clear hR;show wZ _ _ bL [ba (.ref r),gV,gV,gV,gV,gV,gV,gV,gV,gV,gV,gV,gV,gV,gV] S Q';unfold bL;nofun
 left;refine aY (d:=d+5) G.pick hf #v[] #v[] λv S1 v0 v7 f1 k1=>hK _ _ ?_
 clear hK K;nofun
 dsimp only[wS,wT,wE,wV,wG,iZ,aH,wB];refine aF (Q0:=Q') (λ_ Q2 _ hr=>?_) (λ_ Q2 hn _=>b6 (hn _ _ (hK _ _ ?_)))
 ·refine st ?_;left;exact qO (d:=d) hfu G f1 λw S2 a b c=>hr _ _ (k w S2 a b (k1.trans c))
 clear hK K hn;nofun
 dsimp only[wS,wT,wE,wV,wG,iZ,aH,wB];refine aF (Q0:=Q') (λ_ Q2 _ hr=>?_) (λ_ Q2 hn _=>b6 (hn _ _ (hK _ _ ?_)))
 ·refine st ?_;left;exact we (d:=d) hfu G f1 λw S2 a b c=>hr _ _ (k w S2 a b (k1.trans c))
 clear hK K hn;have hr1:=f1.lt;nofun
 left;refine lZ (d:=d+4) G f1 λw2 S2 hw2 f2 k2=>?_
 obtain⟨bs0,q0,U0,most,rfl,hbs0,m1,m3,m6,hq0,hq0l,h40,hm0⟩:=hw2;dsimp only[wU];refine ac (show cM [2,3,4] [.tup (af bs0),.ref q0,.int most] [ba (.ref r),ba (.int v),gV,gV,gV,gV,gV,gV,gV,gV,gV,gV,gV,gV,gV]=ba [ba (.ref r),ba (.int v),ba (.tup (af bs0)),ba (.ref q0),ba (.int most),gV,gV,gV,gV,gV,gV,gV,gV,gV,gV]from rfl) (hK _ _ ?_)
 clear hK K;nofun
 left;refine aY (d:=d+5) G.pick f2 ∅ ∅ λv3 S3 v30 v3m f3 k3=>?_
 dsimp only[db,aH];obtain⟨a,ea⟩ : ∃a:Jx,1+v3=a:=#[(1+v3).toNat,∅]
 rw[ea];refine hK _ _ ?_;clear hK K;nofun
 left;refine sM (d:=d+4) G (S0:=S1) hbs0 f3 hr1 (k2.trans k3) (k3.get _ _ ∅ hq0) hq0l h40 (hm0.kp hr1 k3) λbs q U S4 hb hbl hq hql hm f4 k4=>?_
 dsimp only[wU];refine ac (show cM [2,3] [.tup (af bs),.ref q] [ba (.ref r),ba (.int v),ba (.tup (af bs0)),ba (.ref q0),ba (.int most),ba (.int a),gV,gV,gV,gV,gV,gV,gV,gV,gV]=ba [ba (.ref r),ba (.int v),ba (.tup (af bs)),ba (.ref q),ba (.int most),ba (.int a),gV,gV,gV,gV,gV,gV,gV,gV,gV]from rfl) (hK _ _ ?_)
 clear hK K;rw[<- hbl]at hm m6;have hn:bs.length=2\/bs.length=3:=by rw[hbl]; exact(zA bs0 hbs0).1
 have hsz:SizeOk a bs:=#[∅,hb,by
  have h1:(a:JI)*bs.length<=most*bs.length:=Int.mul_le_mul_of_nonneg_right ∅ ∅
  exact_mod_cast Int.le_trans h1 m6,∅]
 clear m6 hm0 hq0 hq0l h40 hbl hbs0 k2 k3 f2 f3;nofun
 left;refine fO (d:=d+1) hfu G f4 ∅ ∅ λms ns S5 hml hnl hnm f5 k5=>hK _ _ ?_
 clear hK K;have kk:Kp r S S5:=k1.trans (k4.trans k5);have hrt:=f5.lt;have hq5:S5[q]?=ba (.dic U):=k5.get _ _ ∅ hq
 have hm5:MustE S5 bs.length S1.length U:=hm.kp hr1 k5;have hqn:q < S5.length:=bP hq5;clear k1 k4 k5 f4 hm hq hql f1;refine st ?_;dsimp only[wS,wE,JK];nofun
 left;refine bp ?_;rw[show(af bs).length=bs.length from Jp ..]
 refine hK _ _ ?_;clear hK K;nofun
 refine zF (n:=bs.length) (λQ q=>q) ∅ rfl λj j0 j27 hj=>?_
 refine#[(λ_ Z S'=>(∃x9 x10 x11 x12 x13 x14,Z=[ba (.ref r),ba (.int v),ba (.tup (af bs)),ba (.ref q),ba (.int most),ba (.int a),ba (dG ms ns bs []),ba (.ref S5.length),ba (.int bs.length),x9,x10,x11,x12,x13,x14])/\(∃U fs,S'[S5.length]?=ba (.dic U)/\FigD (aM a bs) U fs)/\S'[q]?=ba (.dic U)/\MustE S' bs.length S1.length U/\Fl S' r/\Kp r S S'),#[#[_,_,_,_,_,_,rfl],#[[],[],ag,.nil],ak hq5,hm5.ka .push,f5.ka .push,kk.trans .push],?_,?_]
 ·rintro i Z S6 hi ⟨⟨x9,x10,x11,x12,x13,x14,rfl⟩,⟨kvd,fs,e6,hd⟩,hq6,hm6,f6,k6⟩ Q2 hn2 _;clear hK k;have hnp:(0:JI) < bs.length:=∅
  have hnb:(bs.length:JI) < 1073741824:=∅
  have y1:0<=(i:JI) % bs.length/\(i:JI) % bs.length < bs.length:=#[Mz _ ∅,Mr _ hnp]
  have y2:0<=(i:JI) / bs.length % bs.length/\(i:JI) / bs.length % bs.length < bs.length:=#[Mz _ ∅,Mr _ hnp]
  have y3:0<=(i:JI) / bs.length / bs.length/\(i:JI) / bs.length / bs.length < bs.length:=by
   rcases hn with h|h <;> rw[h]at hj ⊢ <;> omega
  nofun
  left;refine ac (iY hnp) (ac (gk hnp hnb) (ac (iY hnp) ?_));dsimp only[w2];refine hK _ _ ?_;clear hK K;nofun
  left;refine ac (gk hnp hnb) (ac (gk hnp hnb) (hK _ _ ?_));clear hK K;dsimp only;generalize(i:JI) % bs.length=z1 at y1 ⊢;generalize(i:JI) / bs.length % bs.length=z2 at y2 ⊢;generalize(i:JI) / bs.length / bs.length=z3 at y3 ⊢;nofun
  dsimp only[wS,wT,wA,wE,wV,wG];refine zE (d:=d+4) G hb y1 y2 y3 hq6 hm6 λb S7 k7=>?_
  dsimp only[gM,aH];refine aF (Q0:=Q2) (λ_ Q3 hn3 _=>?_) (λ_ Q3 hn3 _=>b6 (hn3 _ _ (hK _ _ (b6 (hn2 _ _ #[#[_,_,_,_,_,_,rfl],#[kvd,fs,k7.get _ _ e6,hd],k7.get _ _ hq6,hm6.ka k7,f6.ka k7,k6.trans (k7.kp r)])))))
  refine aK λK3 hK3=>?_
  refine gq rfl rfl ?_;dsimp only[wE,wA,wV,wG];have h56:S5.length < S6.length:=bP e6;have h67:=k7.len;refine zw (d:=d+5) G (a:=a) ∅ λt ts S8 e8 ht ht7 k8=>?_
  refine#[t,ts.map oT,(λ_ Z S'=>(∃x9 x13 x14,Z=[ba (.ref r),ba (.int v),ba (.tup (af bs)),ba (.ref q),ba (.int most),ba (.int a),ba (dG ms ns bs []),ba (.ref S5.length),ba (.int bs.length),x9,ba (.int z1),ba (.int z2),ba (.int z3),x13,x14])/\(∃U fs,S'[S5.length]?=ba (.dic U)/\FigD (aM a bs) U fs)/\S'[q]?=ba (.dic U)/\MustE S' bs.length S1.length U/\S'[t]?=ba (.lst (ts.map oT))/\Fl S' r/\Kp r S S'),rfl,#[#[_,_,_,rfl],#[kvd,fs,k8.get _ _ (k7.get _ _ e6),hd],k8.get _ _ (k7.get _ _ hq6),(hm6.ka k7).ka k8,e8,(f6.ka k7).ka k8,k6.trans ((k7.trans k8).kp r)],λi Z S' h=>h.2.2.2.2.1,?_,?_]
  ·rintro j w Z S9 hw ⟨⟨x9,x13,x14,rfl⟩,⟨kvd,fs,e9,hd⟩,hq9,hm9,ht9,f9,k9⟩;clear hK3 hn3 hK hn2;rw[Jy,Js]at hw;obtain⟨⟨tr1,tr2,tr3⟩,htr,rfl⟩:=hw;obtain⟨t1,t2,t3⟩:=ht _ (JG htr);refine ac (show eS (.nm 13) (oT (tr1,tr2,tr3)) [ba (.ref r),ba (.int v),ba (.tup (af bs)),ba (.ref q),ba (.int most),ba (.int a),ba (dG ms ns bs []),ba (.ref S5.length),ba (.int bs.length),x9,ba (.int z1),ba (.int z2),ba (.int z3),x13,x14] S9=ba ([ba (.ref r),ba (.int v),ba (.tup (af bs)),ba (.ref q),ba (.int most),ba (.int a),ba (dG ms ns bs []),ba (.ref S5.length),ba (.int bs.length),x9,ba (.int z1),ba (.int z2),ba (.int z3),ba (oT (tr1,tr2,tr3)),x14],S9)from rfl) λQ4 hn4 _=>?_
   have hu:GoodW a bs.length [(tr1,[]),(tr2,[z1]),(tr3,[z2,z3])]:=GL t1 t2 t3 y1 y2 y3;nofun
   left;refine aj #v[] rfl (aj #v[] rfl (hK _ _ ?_))
   clear hK K;refine st ?_;left;refine aj #v[] rfl (ac (ip (i6 rfl)) ?_)
   refine i9 (d:=d+3) (m0:=.tup (ms.map W.str)) (b0:=.tup []) (u:=[(tr1,[]),(tr2,[z1]),(tr3,[z2,z3])]) G hb hnl hu rfl λS10 k10=>?_
   have e10:=k10.get _ _ e9;exact zt e10 hd hsz hu rfl λo ho=>b6 (hn4 _ _ #[#[_,_,_,rfl],ho,by rw[bj ∅]; exact k10.get _ _ hq9,(hm9.ka k10).set e10,by rw[bj ∅]; exact k10.get _ _ ht9,(f9.ka k10).own hrt,(k9.trans (k10.kp r)).late kk.len])
  ·rintro Z S9 ⟨⟨x9,x13,x14,rfl⟩,hdd,hq9,hm9,ht9,f9,k9⟩;exact hK3 _ _ (b6 (hn3 _ _ (hK _ _ (b6 (hn2 _ _ #[#[_,_,_,_,_,_,rfl],hdd,hq9,hm9,f9,k9])))))
 ·rintro Z S6 ⟨⟨x9,x10,x11,x12,x13,x14,rfl⟩,⟨kvd,fs,e6,hd⟩,hq6,hm6,f6,k6⟩;refine hK _ _ (st ?_);left;exact zr (Q:=λp=>Q' (.rt p.1,p.2)) e6 hd hsz hml hnl hnm λw S8 hw k8=>k w S8 hw (f6.ka k8) (k6.trans (k8.kp r))
end
abbrev Tr:Jx->W->Prop
 | _,.int _=>Qo
 | _,.str _=>Qo
 | _,.non=>Qo
 | n+1,.tup xs=>xs.length<=1000/\∀x∈xs,Tr n x
 | _,_=>K5
def nh:∀n:Jx,ii (Ks n (.bl true))=ba (Ks n true)
 | 0=>rfl
 | n+1=>by rw[Lx,ii,nh n]; rfl
def B8 (n:Jx):(Ks n true).all id=true:=by
 rw[JP];intro x hx;rw[(List.mem_replicate.mp hx).2]; rfl
section
variable{defs:Jn (JV×Df)}{fuel:Jx}
def uO (hg:Is defs ("_law_alike" : JV) 2 2 bQ):∀(n d:Jx) (w:W) (S:aa) (Q:QW),Tr n w->(∀S',Ka S S'->Q (.bl true,S'))->wO (aP (am defs fuel (d+n+1)) "_law_alike" 2 [w,w] S) Q:=by
 intro n
 induction n with
 | zero=>
  intro d w S Q hw k;refine ay hg rfl rfl λQ' hR=>?_
  replace k:=hR _ _ (k S .refl);clear hR;show wZ _ _ bQ [ba w,ba w] S Q';dsimp only[bQ];cases w with
  | int x=>
   refine aK λK hK=>dc (λQ q=>q) (hK _ _ ?_)
   refine aK λK hK=>dc (λQ q=>#[λz=>(by cases z),λ_=>q]) (hK _ _ ?_)
   refine aK λK hK=>lq (λQ q=>q) λQ2 _ hr=>st ?_
   dsimp only[wS,wE,wV,wG];refine ac (show yp S (.int x) "int" = ba true from rfl) #[λ_=>?_,λz=>by cases z]
   dsimp only[iZ,aH];rw[KM];exact hr _ _ k
  | str x=>
   refine aK λK hK=>dc (λQ q=>q) (hK _ _ ?_)
   refine aK λK hK=>dc (λQ q=>#[λz=>(by cases z),λ_=>q]) (hK _ _ ?_)
   refine aK λK hK=>dc (λQ q=>q) (hK _ _ ?_)
   refine aK λK hK=>lq (λQ q=>q) λQ2 _ hr=>st ?_
   dsimp only[wS,wE,wV,wG];refine ac (show yp S (.str x) "str" = ba true from rfl) #[λ_=>?_,λz=>by cases z]
   dsimp only[CD,aH];rw[KM];exact hr _ _ k
  | non=>
   refine aK λK hK=>lq (λQ q=>q) λQ2 _ hr=>st ?_
   dsimp only[wS,wE,wV,wG];exact ac (show cZ .is .non .non S=ba (.bl true,S)from rfl) (hr _ _ k)
  | _=>exact hw.elim
 | succ n ih=>
  intro d w S Q hw k;refine ay hg rfl rfl λQ' hR=>?_
  replace k:∀S',Ka S S'->Q' (.rt (.bl true),S'):=λS' a=>hR _ _ (k S' a)
  clear hR;show wZ _ _ bQ [ba w,ba w] S Q';dsimp only[bQ];cases w with
  | int x=>
   refine aK λK hK=>dc (λQ q=>q) (hK _ _ ?_)
   refine aK λK hK=>dc (λQ q=>#[λz=>(by cases z),λ_=>q]) (hK _ _ ?_)
   refine aK λK hK=>lq (λQ q=>q) λQ2 _ hr=>st ?_
   dsimp only[wS,wE,wV,wG];refine ac (show yp S (.int x) "int" = ba true from rfl) #[λ_=>?_,λz=>by cases z]
   dsimp only[iZ,aH];rw[KM];exact hr _ _ (k _ .refl)
  | str x=>
   refine aK λK hK=>dc (λQ q=>q) (hK _ _ ?_)
   refine aK λK hK=>dc (λQ q=>#[λz=>(by cases z),λ_=>q]) (hK _ _ ?_)
   refine aK λK hK=>dc (λQ q=>q) (hK _ _ ?_)
   refine aK λK hK=>lq (λQ q=>q) λQ2 _ hr=>st ?_
   dsimp only[wS,wE,wV,wG];refine ac (show yp S (.str x) "str" = ba true from rfl) #[λ_=>?_,λz=>by cases z]
   dsimp only[CD,aH];rw[KM];exact hr _ _ (k _ .refl)
  | tup xs=>
   obtain⟨hl,hx⟩:=hw;refine aK λK hK=>dc (λQ q=>q) (hK _ _ ?_)
   refine aK λK hK=>dc (λQ q=>#[λz=>(by cases z),λ_=>q]) (hK _ _ ?_)
   refine aK λK hK=>dc (λQ q=>q) (hK _ _ ?_)
   refine aK λK hK=>dc (λQ q=>q) (hK _ _ ?_)
   refine aK λK hK=>dc (λQ q=>#[λz=>(by cases z),λ_=>q]) (hK _ _ ?_)
   refine st ?_;left;refine bp (bp ?_);dsimp only[iZ,aH,wB];rw[KM];refine#[λ_=>?_,λz=>by cases z]
   refine dM (xs.length:JI) (λi ys Z2 S2=>(∃a1,Z2=[gV,a1,ba (.tup xs),ba (.tup xs)])/\ys=Ks i (.bl true)/\Ka S S2) rfl rfl rfl ∅ ?_ ?_ ?_
   ·dsimp only[wE,wA,wV,wG];exact bp #[rfl,#[gV,rfl],rfl,.refl]
   ·rintro i ys Z2 S2 hi ⟨⟨a1,rfl⟩,rfl,k2⟩;have hi':i < xs.length:=∅
    dsimp only[gR,wC,wE,wA,wV,wG,JK];refine#[λ_=>aj (JR i) (by rw[JO]; exact Jz hi') (aj (JR i) (by rw[JO]; exact Jz hi') (ih d _ _ _ (hx _ (Kq hi')) λS3 k3=>#[#[_,rfl],?_,k2.trans k3])),λz=>by cases z]
    rw[List.replicate_succ']
   ·rintro ys Z2 S2 ⟨_,rfl,k2⟩;rw[JO];refine#[jV (by rw[PB]; exact hl),ac (a:=(.bl true,S2++[.lst (Ks xs.length (.bl true))])) ?_ (k _ (k2.trans .push))]
    simp only[Bi.fn,DD,aw ag,nh,Kv,B8]
  | non=>
   refine aK λK hK=>lq (λQ q=>q) λQ2 _ hr=>st ?_
   dsimp only[wS,wE,wV,wG];exact ac (show cZ .is .non .non S=ba (.bl true,S)from rfl) (hr _ _ (k _ .refl))
  | _=>exact hw.elim
end
abbrev uP:Ss:=
 #v[.ite (.cmp .gt (.v 2) (.v 3)) #v[.ret (.ix (.ix (.ix (.v 1) (.v 2)) (.c (.int 1))) (.v 3))] .nil,.ret (.ix (.ix (.ix (.v 0) (.c (.int 1))) (.ix (.ix (.ix (.v 1) (.v 3)) (.c (.int 1))) (.v 2))) (.c (.int 1)))]
abbrev jD:Ss:=
 #v[.ret (.bi .tuple #v[.comp (.own "point_over" 4 #v[.v 4,.v 5,.sl (.v 3) .no (.yes (.v 1)),.v 2]) (.tp [1,2]) (.enu #v[.v 2]) .nil [gV,gV,gV,ba 2,ba 0,ba 1]])]
abbrev dR:Ss:=
 #v[.ret (.tup #v[.ix (.ix (.v 1) (.v 3)) (.c (.int 0)),.bi .tuple #v[.comp (.own "way" 4 #v[.v 3,.v 4,.v 2,.v 1]) (.nm 1) (.seq (.v 2)) .nil [gV,gV,ba 3,ba 0,ba 1]]])]
abbrev bD:Ss:=
 #v[.set 2 (.lst #v[.tup .nil]),.loop (.nm 3) (.rng #v[.v 1]) #v[.set 2 (.comp (.op .add (.ix (.v 3) (.op .fdiv (.v 1) (.v 2))) (.tup #v[.op .mod (.v 1) (.v 2)])) (.nm 1) (.rng #v[.op .mul (.bi .len #v[.v 2]) (.v 0)]) .nil [gV,gV,ba 0,ba 2])],.ret (.v 2)]
abbrev bW:Ss:=
 #v[.set 2 (.lst #v[.tup .nil]),.loop (.nm 3) (.rng #v[.v 1]) #v[.set 4 (.lst .nil),.loop (.nm 5) (.rng #v[.bi .len #v[.ix (.v 0) (.c (.int 0))]]) #v[.ex (.me .extend (.v 4) #v[.comp (.tup #v[.v 2,.v 1]) (.nm 1) (.seq (.own "_law_digits" 2 #v[.bi .len #v[.ix (.v 0) (.c (.int 1))],.v 3])) .nil [gV,gV,ba 5]])],.set 2 (.comp (.op .add (.ix (.v 3) (.op .fdiv (.v 1) (.bi .len #v[.v 2]))) (.tup #v[.ix (.v 2) (.op .mod (.v 1) (.bi .len #v[.v 2]))])) (.nm 1) (.rng #v[.op .mul (.bi .len #v[.v 2]) (.bi .len #v[.v 4])]) .nil [gV,gV,ba 4,ba 2])],.ret (.v 2)]
section
variable{defs:Jn (JV×Df)}{fuel d:Jx}{S:aa}{r:Jx}{Q:QW}
def zH {M:JV->FF}{m0 b0:W}{ns:Jn JV}{bs:Jn JI}{a:Jx}{u:Wd}{i j:Jx}{Q:QO}(hb:GoodB bs)(hl:ns.length=bs.length)(hu:GoodW a bs.length u)(hi:i < u.length)(hj:j < u.length)(hij:i≠j)(k:Q (.rt (.int (bO bs u i j)),S)) :
  wZ M fuel uP [ba (.tup [m0,.tup (JU aN ns bs),b0]),ba (au u),ba (.int i),ba (.int j)] S Q:=by
 have hpi:=al (d:=(0,[])) hi;have hpj:=al (d:=(0,[])) hj;unfold bO at k;dsimp only[uP];nofun
 dsimp only[wS,wT,wE,wV,wG,Gs,wO,wB,au];refine aF (Q0:=Q) (λh Q2 _ hr=>?_) (λh Q2 hn _=>?_)
 ·have hji:j < i:=by have:=Kt h; omega
  rw[JZ hji]at k;have hw:j < (u.getD i (0,[])).2.length:=by rw[hu.len i _ hpi]; exact hji
  refine st ?_;dsimp only[wS,wE,wV,wG];refine aj (JR i) (eJ hi) (aj #v[] rfl (aj (JR j) ?_ (hr _ _ k)))
  rw[JO,Jy,al (d:=0) hw]; rfl
 ·have hji:¬ j < i:=by have:=Ms h; omega
  rw[Kb hji]at k;refine b6 (hn _ _ (hK _ _ ?_));clear hn hK;have hw:i < (u.getD j (0,[])).2.length:=by rw[hu.len j _ hpj]; omega
  have hg:=al (d:=0) hw;obtain⟨g1,g2⟩:=hu.way j _ hpj _ (JG hg);obtain⟨b,hb1,hb2,hb3⟩:=hb.rng ((u.getD j (0,[])).2.getD i 0).toNat ∅
  have hn:((u.getD j (0,[])).2.getD i 0).toNat < ns.length:=∅
  rw[getD_some hb1]at k;refine st ?_;dsimp only[wS,wE,wV,wG];refine aj #v[] rfl (aj (JR j) (eJ hj) (aj #v[] rfl (aj (JR i) ?_ (aj g1 (oN (Jz hn) hb1) (aj #v[] rfl k)))))
  rw[JO,Jy,hg]; rfl
structure Parts (defs:Jn (JV×Df)):Prop where
 way:Is defs ("way" : JV) 4 4 uP
 over:Is defs ("point_over" : JV) 4 4 dR
def GM (P:Parts defs){m0 b0:W}{ns:Jn JV}{bs:Jn JI}{a:Jx}{u:Wd}{i j:Jx}(hb:GoodB bs)(hl:ns.length=bs.length)(hu:GoodW a bs.length u)(hi:i < u.length)(hj:j < u.length)(hij:i≠j)(k:Q (.int (bO bs u i j),S)) :
  wO (aP (am defs fuel (d+1)) "way" 4 [.tup [m0,.tup (JU aN ns bs),b0],au u,.int i,.int j] S) Q:=
 ay P.way rfl rfl λQ' hR=>zH hb hl hu hi hj hij (hR _ _ k)
def sN (P:Parts defs){m0 b0:W}{ns:Jn JV}{bs:Jn JI}{a:Jx}{u:Wd}{ps:Jn Jx}{i:Jx}(hb:GoodB bs)(hl:ns.length=bs.length)(hu:GoodW a bs.length u)(hps:∀p∈ps,p < u.length/\i≠p)(hi:i < u.length)(hsz:ps.length<=1000)(k:∀S',Ka S S'->Q (bf ((u.getD i (0,[])).1,ps.map λq=>bO bs u i q),S')) :
  wO (aP (am defs fuel (d+2)) "point_over" 4 [.tup [m0,.tup (JU aN ns bs),b0],au u,.tup (aq ps),.int i] S) Q:=by
 refine ay P.over rfl rfl λQ' hR=>?_
 replace k:∀S',Ka S S'->Q' (.rt (bf ((u.getD i (0,[])).1,ps.map λq=>bO bs u i q)),S'):=λS' a=>hR _ _ (k S' a)
 clear hR;show wZ _ _ dR [ba (.tup [m0,.tup (JU aN ns bs),b0]),ba (au u),ba (.tup (aq ps)),ba (.int i)] S Q';generalize hR0:W.tup [m0,.tup (JU aN ns bs),b0]=R;dsimp only[dR];refine st ?_;left;refine aj (JR i) (eJ hi) (aj #v[] rfl ?_)
 refine uC (aq ps) (λj ys Z2 S2=>(∃a1,Z2=[gV,a1,ba (.int i),ba R,ba (au u)])/\ys=(ps.take j).map (λq=>W.int (bO bs u i q))/\Ka S S2) rfl rfl rfl #[rfl,#[gV,rfl],rfl,.refl] ?_ ?_
 ·rintro j w ys Z2 S2 hw ⟨⟨a1,rfl⟩,rfl,k2⟩;unfold aq at hw;rw[Jy,Js]at hw;obtain⟨q,hq,rfl⟩:=hw;obtain⟨hqu,hqi⟩:=hps q (JG hq);refine ac (show eS (.nm 1) (.int (q:JI)) [gV,a1,ba (.int i),ba R,ba (au u)] S2=ba ([gV,ba (.int (q:JI)),ba (.int i),ba R,ba (au u)],S2)from rfl) ?_
  dsimp only[gR,wC,wE,wA,wV,wG];subst hR0;refine#[λ_=>GM (d:=d) P hb hl hu hi hqu hqi #[#[_,rfl],?_,k2],λz=>by cases z]
  rw[J2,hq];simp
 ·rintro ys Z2 S2 ⟨_,rfl,k2⟩;rw[show(aq ps).length=ps.length from Jp ..,Kc]
  refine#[jV (by rw[Jp]; exact hsz),fj ag ?_]
  have:=k _ (k2.trans (Ka.push (o:=O.lst (ps.map λq=>W.int (bO bs u i q)))))
  unfold bf at this;rw[Lu]at this;exact this
def GN (P:Parts defs)(hp:Is defs ("part" : JV) 3 3 jD){m0 b0:W}{ns:Jn JV}{bs:Jn JI}{a:Jx}{u:Wd}{ps:Jn Jx}(hb:GoodB bs)(hl:ns.length=bs.length)(hu:GoodW a bs.length u)(hps:∀p∈ps,p < u.length)(hnd:ps.Nodup)(hsz:ps.length<=1000)(k:∀S',Ka S S'->Q (au (ah bs u ps),S')) :
  wO (aP (am defs fuel (d+3)) "part" 3 [.tup [m0,.tup (JU aN ns bs),b0],au u,.tup (aq ps)] S) Q:=by
 refine ay hp rfl rfl λQ' hR=>?_
 replace k:∀S',Ka S S'->Q' (.rt (au (ah bs u ps)),S'):=λS' a=>hR _ _ (k S' a)
 clear hR;show wZ _ _ jD [ba (.tup [m0,.tup (JU aN ns bs),b0]),ba (au u),ba (.tup (aq ps))] S Q';generalize hR0:W.tup [m0,.tup (JU aN ns bs),b0]=R;dsimp only[jD];refine st ?_;dsimp only[wS,wE,wA];refine BS (aq ps) (λj ys Z2 S2=>(∃a1 a2,Z2=[gV,a1,a2,ba (.tup (aq ps)),ba R,ba (au u)])/\ys=((ah bs u ps).take j).map bf/\Ka S S2) rfl rfl rfl #[rfl,#[gV,gV,rfl],rfl,.refl] ?_ ?_
 ·rintro j w ys Z2 S2 hw ⟨⟨a1,a2,rfl⟩,rfl,k2⟩;unfold aq at hw;rw[Jy,Js]at hw;obtain⟨q,hq,rfl⟩:=hw;have hj:j < ps.length:=(JF.mp hq).1;have eq:q=ps[j]:=(JF.mp hq).2.symm;refine ac (show eS (.tp [1,2]) (.tup [.int (j:JI),.int (q:JI)]) [gV,a1,a2,ba (.tup (aq ps)),ba R,ba (au u)] S2=ba ([gV,ba (.int (j:JI)),ba (.int (q:JI)),ba (.tup (aq ps)),ba R,ba (au u)],S2)from rfl) ?_
  dsimp only[gR,wC,wE,wA,wP,wV,wG,wN];refine#[λ_=>ac (a:=(.tup (aq (ps.take j)),S2)) ?_ ?_,λz=>by cases z]
  ·simp only[rQ,i7];unfold aq;rw[N6]
  ·subst hR0;refine sN (d:=d) P hb hl hu (λp hp=>#[hps p (Lb hp),?_]) (hps q (JG hq)) (by rw[Kn]; omega) λS3 k3=>#[#[_,_,rfl],?_,k2.trans k3]
   ·obtain⟨m,hm,e⟩:=LM.mp hp;rw[Kn]at hm;rw[M9]at e;rw[eq,<- e];intro z;have:=(LJ hnd).mp z;omega
   ·have ep:(ah bs u ps)[j]?=ba ((u.getD q (0,[])).1,(ps.take j).map λq'=>bO bs u q q'):=by
     unfold ah;rw[Jy,LS hj,Kv,getD_some hq]
    rw[J2,ep];simp
 ·rintro ys Z2 S2 ⟨_,rfl,k2⟩;rw[show(aq ps).length=ps.length from Jp ..,<- aE bs u ps,Kc]
  exact#[jV (by rw[Jp,aE]; exact hsz),fj ag (k _ (k2.trans .push))]
end
abbrev bn (n:Jx):Jx->Jn (Jn JI)
 | 0=>[[]]
 | k+1=>(JW ((bn n k).length*n)).map λi=>(bn n k).getD (i / n) []++[((i % n:Jx):JI)]
abbrev aX (a n k:Jx):Jn Pt:=(JW a).flatMap λ(m:Jx)=>(bn n k).map λds=>(((m:Jx):JI),ds)
abbrev aQ (a n:Jx):Jx->Jn Wd
 | 0=>[[]]
 | k+1=>(JW ((aQ a n k).length*(aX a n k).length)).map λi=>(aQ a n k).getD (i / (aX a n k).length) []++[(aX a n k).getD (i % (aX a n k).length) (0,[])]
def B9 {n k:Jx}{ds:Jn JI}:ds∈bn n k->ds.length<=k:=by
 induction k generalizing ds with
 | zero=>intro h; cases JD.mp h; exact JB _
 | succ k ih=>
  intro h;obtain⟨i,hi,rfl⟩:=JE.mp h;have hi:=JQ.mp hi;have hn:0 < n:=by
   rcases OJ n with h|h
   ·rw[h,Pl]at hi; omega
   ·exact h
  have hlt:i / n < (bn n k).length:=L3 (by rw[Nj]; exact hi)
  have:=ih (JG (al (d:=[]) hlt));rw[JC,K1]; omega
def CK {M:JV->FF}{Z:Fm}{S:aa}{a b:E}{x y:JI}{Q:QW}(ha:∀Q:QW,Q (.int x,S)->wE M a Z S Q)(hb:∀Q:QW,Q (.int y,S)->wE M b Z S Q)(h1 : -(2 ^ 64) < y)(h2:y < 2 ^ 64)(q:Q (.int (x*y),S)):wE M (.op .mul a b) Z S Q:=by
 have em:fI .mul (.int x) (.int y) S=ba (.int (x*y),S):=mU h1 h2;dsimp only[wE];refine ha _ ?_;refine hb _ ?_;dsimp only;rw[em];exact q
def iw {n:Jx}:∀k:Jx,(bn n k).length=n ^ k
 | 0=>rfl
 | k+1=>by rw[bn,Jp,J7,iw k,Pn]
def zI {n k:Jx}(hn:n<=3)(hk:k<=5):(bn n k).length<=243/\(k<=4->(bn n k).length<=81):=by
 rw[iw];exact#[JY (LU hn k) (L4 (n:=3) #v[] hk),λh=>JY (LU hn k) (L4 (n:=3) #v[] h)]
section
variable{defs:Jn (JV×Df)}{fuel d:Jx}{S:aa}{r:Jx}{Q:QW}
def zJ (hg:Is defs ("_law_digits" : JV) 2 4 bD){n k:Jx}(hn1:1<=n)(hn3:n<=3)(hk5:k<=5)(kk:∀(q:Jx) (S':aa),S'[q]?=ba (.lst ((bn n k).map λds=>.tup (af ds)))->S.length<=q->Ka S S'->Q (.ref q,S')) :
  wO (aP (am defs fuel (d+1)) "_law_digits" 2 [.int n,.int k] S) Q:=by
 refine ay hg rfl rfl λQ' hR=>?_
 replace kk:∀(q:Jx) (S':aa),S'[q]?=ba (.lst ((bn n k).map λds=>.tup (af ds)))->S.length<=q->Ka S S'->Q' (.rt (.ref q),S'):=λa b c e f=>hR _ _ (kk a b c e f)
 clear hR;show wZ _ _ bD [ba (.int n),ba (.int k),gV,gV] S Q';dsimp only[bD];refine st ?_;dsimp only[wS,wE,wA,JK];nofun
 refine cr (k:JI) (λi Z S'=>∃(q:Jx) (a3:Jw W),Z=[ba (.int n),ba (.int k),ba (.ref q),a3]/\S'[q]?=ba (.lst ((bn n i).map λds=>.tup (af ds)))/\S.length<=q/\Ka S S') rfl rfl ∅ #[rfl,_,_,rfl,ag,JB _,.push] ?_ ?_
 ·rintro i Z S1 hi ⟨q,a3,rfl,e1,hq,k1⟩ Q2 hn _;clear hK kk;obtain⟨b9,b3⟩:=zI (n:=n) (k:=i) hn3 ∅
  have b3:=b3 ∅
  have hP:(bn n i).length*n<=243:=MW b3 hn3;have hPz:(((bn n i).length:JI)*(n:JI))=(((bn n i).length*n:Jx):JI):=(Oc ..).symm;refine st ?_;dsimp only[wS,wE,JK];refine dM ((((bn n i).length*n:Jx)):JI) (λj ys Z2 S2=>(∃a1,Z2=[gV,a1,ba (.int n),ba (.ref q)])/\ys=((bn n (i+1)).take j).map (λds=>.tup (af ds))/\S2=S1) rfl rfl rfl ∅ ?_ ?_ ?_
  ·refine CK (x:=(bn n i).length) (y:=n) (λQ q=>?_) (λQ q=>q) ∅ ∅ #[by rw[hPz],#[gV,rfl],rfl,rfl]
   dsimp only[wE,wA,wV,wG];refine gm e1 ?_;rw[Jp];exact q
  ·rintro j ys Z2 S2 hj ⟨⟨a1,rfl⟩,rfl,rfl⟩;have hj':j < (bn n i).length*n:=∅
   have hlt:j / n < (bn n i).length:=L3 (by rw[Nj]; exact hj')
   have hg:=al (d:=[]) hlt;have hdl:=B9 (JG hg);dsimp only[gR,wC,wE,wA,wV,wG,JK];refine#[λ_=>ac (gk ∅ ∅) ?_,λz=>by cases z]
   refine fQ e1 (w:=.tup (af ((bn n i).getD (j / n) []))) (Of ∅ ∅) (by rw[show((j:JI) / (n:JI)).toNat=j / n from rfl,Jy,hg]; rfl) ?_
   refine ac (iY ∅) (ac (ip (jV (by rw[JC,show(af ((bn n i).getD (j / n) [])).length=((bn n i).getD (j / n) []).length from Jp ..]; show _+1<=1000; omega))) #[#[_,rfl],?_,rfl])
   have ed:(bn n (i+1))[j]?=ba ((bn n i).getD (j / n) []++[((j % n:Jx):JI)]):=by
    rw[bn,Jy,LS hj']; rfl
   rw[J2,ed];simp[af]
  ·rintro ys Z2 S2 ⟨_,rfl,rfl⟩;have hl:(bn n (i+1)).length=(bn n i).length*n:=by rw[bn,Jp,J7]
   rw[JO,<- hl,Kc];refine#[jV (by rw[Jp,hl]; omega),b6 (hn _ _ #[_,_,rfl,ag,k1.len,k1.trans .push])]
 ·rintro Z S1 ⟨q,a3,rfl,e1,hq,k1⟩;exact hK _ _ (st (kk q S1 (by rw[JO]at e1; exact e1) hq k1))
end
def Cc {a n k:Jx}{u:Wd}:u∈aQ a n k->u.length<=k:=by
 induction k generalizing u with
 | zero=>intro h; cases JD.mp h; exact JB _
 | succ k ih=>
  intro h;obtain⟨i,hi,rfl⟩:=JE.mp h;have hi:=JQ.mp hi;have hlt:i / (aX a n k).length < (aQ a n k).length:=L3 (by rw[Nj]; exact hi)
  have:=ih (JG (al (d:=[]) hlt));rw[JC,K1]; omega
def cz {a n k:Jx}:(aX a n k).length=a*n ^ k:=by
 unfold aX
 induction a with
 | zero=>simp
 | succ a ih=>rw[Mc,Mh,JC,ih]; simp[iw,M0]
def bE {a n:Jx}(k:Jx):(aQ a n (k+1)).length=(aQ a n k).length*(aX a n k).length:=by rw[aQ,Jp,J7]
def lB {a n k:Jx}(ha1:1<=a)(ha:a<=3)(hn1:1<=n)(hn:n<=3)(han:a*n<=6)(hk:k<=2):1<=(aX a n k).length/\(aX a n k).length<=27/\(aQ a n k).length*(aX a n k).length<=216:=by
 have w0:(aQ a n 0).length=1:=rfl;have w1:=bE (a:=a) (n:=n) 0;have w2:=bE (a:=a) (n:=n) 1;simp only[cz]at w1 w2 ⊢;rcases(show k=0\/k=1\/k=2 by omega)with rfl|rfl|rfl <;> rcases(show a=1\/a=2\/a=3 by omega)with rfl|rfl|rfl <;> rcases(show n=1\/n=2\/n=3 by omega)with rfl|rfl|rfl <;> simp_all
def lC {M:JV->FF}{Z:Fm}{S:aa}{elt e:E}{tg:Tg}{cs:Es}{cap:Jn (Jw Jx)}{Q:QW}(oi:dD e=true)(oe:dD elt=true)(oc:oK cs=true)(he:wE M e Z S λp=>∃(t:Jx) (xs:Jn W) (I:Jx->Jn W->Fm->aa->Prop),p.1=.ref t/\I 0 [] (eZ cap Z) p.2/\(∀i ys Z S,I i ys Z S->S[t]?=ba (.lst xs))/\
  (∀(i:Jx) (w:W) (ys:Jn W) (Z:Fm) (S:aa),xs[i]?=ba w->I i ys Z S->wO (eS tg w Z S) λq=>gR M elt cs q.1 q.2 (λy=>I (i+1) (ys++[y])) (I (i+1) ys))/\
  ∀ys Z S,I xs.length ys Z S->ys.length<=sizeLine/\Q (.ref S.length,S++[.lst ys])):Wp (aB M (.comp elt tg (.seq e) cs cap) Z S) Q:=by
 obtain⟨w,S1,e1,t,xs,I,rfl,h0,hat,hstep,hend⟩:=bB oi he;exact jx (mi:=.live t) (S1:=S1) I oe oc (by simp only[jS,eY,e1,aw (hat _ _ _ _ h0)]) (λi ys Z S h=>by simp only[MI.at,aw (hat _ _ _ _ h)]) (by simp only[MI.len,aw (hat _ _ _ _ h0),Kv]) h0 hstep hend
section
variable{defs:Jn (JV×Df)}{fuel d:Jx}{S:aa}{r:Jx}{Q:QW}
def GP {t l:Jx}{xs ys:Jn W}(h:S[t]?=ba (.lst xs))(h2:S[l]?=ba (.lst ys))(hl:xs.length+ys.length<=1000)(q:Q (.non,S.set t (.lst (xs++ys)))):wO (Me.extend.fn (.ref t) [.ref l] S) Q:=by
 refine ac ?_ q;simp only[Me.fn,iL,dL h,dL h2];rw[JZ (jV hl)]
def ni (hd:Is defs ("_law_digits" : JV) 2 4 bD)(hg:Is defs ("_law_worlds" : JV) 2 6 bW){a n K:Jx}{tv N:Jn W}{b0:W}(hM:tv.length=a)(hN:N.length=n)(ha1:1<=a)(ha3:a<=3)(hn1:1<=n)(hn3:n<=3)(hK5:K<=5)(most:∀i < K,1<=(aX a n i).length/\(aX a n i).length<=27/\(aQ a n i).length*(aX a n i).length<=216)
  (kk:∀(q:Jx) (S':aa),S'[q]?=ba (.lst ((aQ a n K).map au))->S.length<=q->Ka S S'->Q (.ref q,S')) :
  wO (aP (am defs fuel (d+2)) "_law_worlds" 2 [.tup [.tup tv,.tup N,b0],.int (K:JI)] S) Q:=by
 refine ay hg rfl rfl λQ' hR=>?_
 replace kk:∀(q:Jx) (S':aa),S'[q]?=ba (.lst ((aQ a n K).map au))->S.length<=q->Ka S S'->Q' (.rt (.ref q),S'):=λa b c e f=>hR _ _ (kk a b c e f)
 clear hR;show wZ _ _ bW [ba (.tup [.tup tv,.tup N,b0]),ba (.int (K:JI)),gV,gV,gV,gV] S Q';generalize hR0:W.tup [.tup tv,.tup N,b0]=R;dsimp only[bW];refine st ?_;dsimp only[wS,wE,wA,JK];refine aK λK' hK=>?_
 refine cr (K:JI) (λi Z S'=>∃(q:Jx) (a3 a4 a5:Jw W),Z=[ba R,ba (.int (K:JI)),ba (.ref q),a3,a4,a5]/\S'[q]?=ba (.lst ((aQ a n i).map au))/\S.length<=q/\Ka S S') rfl rfl ∅ #[rfl,_,_,_,_,rfl,ag,JB _,.push] ?_ ?_
 ·rintro i Z S1 hi ⟨q,a3,a4,a5,rfl,e1,hq,k1⟩ Q2 hn _;clear hK kk;obtain⟨p1,p27,hP⟩:=most i ∅
  have hq1:=bP e1;refine st ?_;dsimp only[wS,wE,wA,JK];refine aK λK' hK=>?_
  refine jc rfl rfl ?_;dsimp only[wE,wA,wV,wG];subst hR0;refine aj #v[] rfl (bp ?_)
  rw[hM];refine#[(a:JI),λm Z S'=>∃a5,Z=[ba (.tup [.tup tv,.tup N,b0]),ba (.int (K:JI)),ba (.ref q),ba (.int i),ba (.ref S1.length),a5]/\S'[S1.length]?=ba (.lst ((aX m n i).map bf))/\S'[q]?=ba (.lst ((aQ a n i).map au))/\Ka S S',rfl,∅,#[a5,rfl,ag,ak e1,k1.trans .push],?_,?_]
  ·rintro m Z S2 hm ⟨a5,rfl,e2,e2q,k2⟩ Q3 hn3' _;clear hK hn;have hS12:=bP e2;refine st ?_;left;refine#[eg e2,?_];refine lC rfl rfl rfl ?_;dsimp only[wE,wA,wV,wG];refine aj #v[] rfl (bp ?_)
   rw[hN];refine zJ (d:=d) hd hn1 hn3 ∅ λl S3 e3 hl k3=>?_
   refine#[l,(bn n i).map λds=>.tup (af ds),λj ys Z2 S4=>(∃a1,Z2=[gV,a1,ba (.int m)])/\ys=((bn n i).take j).map (λds=>bf ((m:JI),ds))/\S4=S3,rfl,#[#[gV,rfl],rfl,rfl],λj ys Z2 S4 h=>by rw[h.2.2]; exact e3,?_,?_]
   ·rintro j w ys Z2 S4 hw ⟨⟨a1,rfl⟩,rfl,rfl⟩;rw[Jy,Js]at hw;obtain⟨ds,hds,rfl⟩:=hw;refine ac (show eS (.nm 1) (.tup (af ds)) [gV,a1,ba (.int m)] S4=ba ([gV,ba (.tup (af ds)),ba (.int m)],S4)from rfl) ?_
    refine#[λ_=>#[#[_,rfl],?_,rfl],λz=>by cases z]
    rw[J2,hds];simp[bf,af]
   ·rintro ys Z2 S4 ⟨_,rfl,rfl⟩;rw[show((bn n i).map λds=>W.tup (af ds)).length=(bn n i).length from Jp ..,Kc]
    have hdl:=(zI (n:=n) (k:=i) hn3 ∅).1
    have e2':=ak (u:=O.lst ((bn n i).map λds=>bf ((m:JI),ds))) (k3.get _ _ e2)
    have hpm:(aX m n i).length<=27:=by
     rw[cz]at p27 ⊢;exact JY (ME _ ∅) p27
    refine#[jV (by rw[Jp]; omega),GP e2' ag (by rw[Jp,Jp]; omega) (b6 (hn3' _ _ #[_,rfl,?_,?_,((k2.trans k3).trans .push).late k1.len]))]
    ·rw[bo e2'];unfold aX;rw[Mc,Mh,Ke];simp
    ·rw[bj ∅]; exact ak (k3.get _ _ e2q)
  ·rintro Z S2 ⟨a5,rfl,e2,e2q,k2⟩;rw[JO]at e2;refine hK _ _ ?_;clear hK K';have hPz:(((aQ a n i).length:JI)*((aX a n i).length:JI))=(((aQ a n i).length*(aX a n i).length:Jx):JI):=(Oc ..).symm;refine st ?_;dsimp only[wS,wE,JK];refine dM (((aQ a n i).length*(aX a n i).length:Jx):JI) (λj ys Z2 S3=>(∃a1,Z2=[gV,a1,ba (.ref S1.length),ba (.ref q)])/\ys=((aQ a n (i+1)).take j).map au/\S3=S2) rfl rfl rfl ∅ ?_ ?_ ?_
   ·refine CK (x:=(aQ a n i).length) (y:=(aX a n i).length) (λQ q'=>?_) (λQ q'=>?_) ∅ ∅ #[by rw[hPz],#[gV,rfl],rfl,rfl]
    ·dsimp only[wE,wA,wV,wG];refine gm e2q ?_;rw[Jp];exact q'
    ·dsimp only[wE,wA,wV,wG];refine gm e2 ?_;rw[Jp];exact q'
   ·rintro j ys Z2 S3 hj ⟨⟨a1,rfl⟩,rfl,rfl⟩;have hj':j < (aQ a n i).length*(aX a n i).length:=∅
    have hlt:j / (aX a n i).length < (aQ a n i).length:=L3 (by rw[Nj]; exact hj')
    have hg:=al (d:=[]) hlt;have hwl:=Cc (JG hg);have hmod:j % (aX a n i).length < (aX a n i).length:=Ph _ p1;have hp:=al (d:=(0,[])) hmod;dsimp only[gR,wC,wE,wA,wV,wG,JK];refine#[λ_=>gm e2 ?_,λz=>by cases z]
    rw[Jp];refine ac (gk ∅ ∅) ?_
    refine fQ e2q (w:=au ((aQ a n i).getD (j / (aX a n i).length) [])) (Of ∅ ∅) (by rw[show((j:JI) / ((aX a n i).length:JI)).toNat=j / (aX a n i).length from rfl,Jy,hg]; rfl) (gm e2 ?_)
    rw[Jp];refine ac (iY ∅) (fQ e2 (w:=bf ((aX a n i).getD (j % (aX a n i).length) (0,[]))) (Mz _ ∅) (by rw[show((j:JI) % ((aX a n i).length:JI)).toNat=j % (aX a n i).length from rfl,Jy,hp]; rfl) ?_)
    refine ac (ip (jV (by rw[JC,Jp]; show _+1<=1000; omega))) #[#[_,rfl],?_,rfl]
    have ed:(aQ a n (i+1))[j]?=ba ((aQ a n i).getD (j / (aX a n i).length) []++[(aX a n i).getD (j % (aX a n i).length) (0,[])]):=by
     rw[aQ,Jy,LS hj']; rfl
    rw[J2,ed];simp[au]
   ·rintro ys Z2 S3 ⟨_,rfl,rfl⟩;rw[JO,<- bE,Kc];exact#[jV (by rw[Jp,bE]; omega),b6 (hn _ _ #[_,_,_,_,rfl,ag,k2.len,k2.trans .push])]
 ·rintro Z S1 ⟨q,a3,a4,a5,rfl,e1,hq,k1⟩;rw[JO]at e1;exact hK _ _ (st (kk q S1 e1 hq k1))
def zK (hd:Is defs ("_law_digits" : JV) 2 4 bD)(hg:Is defs ("_law_worlds" : JV) 2 6 bW){a n:Jx}{tv N:Jn W}{b0:W}(hM:tv.length=a)(hN:N.length=n)(ha1:1<=a)(ha3:a<=3)(hn1:1<=n)(hn3:n<=3)(han:a*n<=6)
  (kk:∀(q:Jx) (S':aa),S'[q]?=ba (.lst ((aQ a n 3).map au))->S.length<=q->Ka S S'->Q (.ref q,S')) :
  wO (aP (am defs fuel (d+2)) "_law_worlds" 2 [.tup [.tup tv,.tup N,b0],.int 3] S) Q:=
 ni (K:=3) hd hg hM hN ha1 ha3 hn1 hn3 #v[] (λi hi=>lB ha1 ha3 hn1 hn3 han ∅) kk
end
abbrev dE (a:Jx)(bs:Jn JI):Jn Wd:=(aQ a bs.length 3).map (fS bs)
abbrev bR (a:Jx)(bs:Jn JI):J6:=match jP ((dE a bs).map bz)with
 | some ks=>decide ks.Nodup && !ks.isEmpty
 | none=>false
def ID:bR 1 [0]=true/\bR 2 [0]=true/\bR 3 [0]=true:=by decide +kernel
def Hg:bR 1 [0,1]=true/\bR 2 [0,1]=true/\bR 1 [1,0]=true/\bR 2 [1,0]=true:=by decide +kernel
def IE:bR 1 [0,1,2]=true/\bR 1 [1,0,2]=true/\bR 1 [0,2,1]=true:=by decide +kernel
def IF:bR 3 [0,1]=true:=by decide +kernel
def IG:bR 3 [1,0]=true:=by decide +kernel
def IH:bR 2 [0,1,2]=true:=by decide +kernel
def II:bR 2 [1,0,2]=true:=by decide +kernel
def IJ:bR 2 [0,2,1]=true:=by decide +kernel
abbrev cR (bs:Jn JI)(v:Wd)(ps:Jn Jx)(i:Jx):Pt:=((v.getD i (0,[])).1,ps.map λq=>bO bs v i q)
abbrev aA (n:Jx)(os:Jn (Jn Jx)):Jn (Jn Jx):=os.flatMap λo=>((JW n).filter λp=>decide (p∉o)).map λp=>o++[p]
abbrev aL (bs:Jn JI)(u v:Wd):Jx->Jn (Jn Jx)
 | 0=>[[]]
 | k+1=>(aA v.length (aL bs u v k)).filter λo=>decide (cR bs v o.dropLast (o.getLastD 0)=u.getD k (0,[]))
abbrev g9 (bs:Jn JI)(u v:Wd):Jx->Jn (Jn Jx)
 | 0=>[[]]
 | k+1=>(g9 bs u v k).flatMap λo=>((JW v.length).filter λp=>decide (p∉o)&&decide (ah bs u (JW (k+1))=ah bs v (o++[p]))).map λp=>o++[p]
def bH (bs:Jn JI)(v:Wd)(o:Jn Jx)(p:Jx):ah bs v (o++[p])=ah bs v o++[cR bs v o p]:=by
 unfold ah cR;rw[JC,K1,Mc,Ke];congr 1
 ·refine KG λk hk=>?_
  have hk:=JQ.mp hk;rw[show(o++[p]).getD k 0=o.getD k 0 by simp[Ku hk],MY ∅]
 ·simp
def sO {xs:Jn JI}{k:Jx}(h:xs.length=k):(JW k).map (λq=>xs.getD q 0)=xs:=by
 apply LY
 ·simp[h]
 ·intro i h1 h2; simp[h2]
def nj {bs:Jn JI}{a n:Jx}{u:Wd}{k:Jx}(hu:GoodW a n u)(hk:k < u.length):cR bs u (JW k) k=u.getD k (0,[]):=by
 unfold cR;have hl:=hu.len k _ (al (d:=(0,[])) hk);have e:((JW k).map λq=>bO bs u k q)=(u.getD k (0,[])).2:=by
  refine Eq.trans (KG λq hq=>?_) (sO hl)
  have hq:=JQ.mp hq;unfold bO;rw[JZ hq]
 rw[e]
def zL {α:Type}{a b:Jn α}{x y:α}(h:a=b):(a++[x]=b++[y])=(y=x):=by
 subst h; simp[eq_comm]
structure LkOk (bs:Jn JI)(u v:Wd)(k:Jx)(o:Jn Jx):Prop where
 len:o.length=k
 nd:o.Nodup
 lt:∀p∈o,p < v.length
 prt:ah bs u (JW k)=ah bs v o
def oW {bs:Jn JI}{u v:Wd}:∀ {k:Jx},∀o∈g9 bs u v k,LkOk bs u v k o
 | 0,o,h=>by
  cases JD.mp h;exact#[rfl,.nil,λp hp=>by simp at hp,rfl]
 | k+1,o,h=>by
  obtain⟨o',h1,h2⟩:=KN.mp h;obtain⟨p,hp,rfl⟩:=JE.mp h2;obtain⟨hp1,hp2⟩:=Kz.mp hp;simp only[Jv,JL]at hp2;have ih:=oW o' h1;refine#[by rw[JC,ih.len]; rfl,?_,λq hq=>?_,hp2.2]
  ·rw[Ly];exact#[ih.nd,by simp,λa ha b hb=>by rw[JD.mp hb]; exact λe=>hp2.1 (e ▸ ha)]
  ·rcases Kd.mp hq with h|h
   ·exact ih.lt q h
   ·rw[JD.mp h]; exact JQ.mp hp1
def jW {α β:Type}{f:α->Jn β}{q:β->J6}:∀xs:Jn α,(xs.flatMap f).filter q=xs.flatMap λx=>(f x).filter q
 | []=>rfl
 | x::xs=>by rw[K7,K7,LI,jW xs]
def lD {α β:Type}{f g:α->Jn β}:∀ {xs:Jn α},(∀x∈xs,f x=g x)->xs.flatMap f=xs.flatMap g
 | [],_=>rfl
 | x::xs,h=>by rw[K7,K7,h x (.head _),lD λy hy=>h y (.tail _ hy)]
def jE {bs:Jn JI}{a n:Jx}{u v:Wd}(hu:GoodW a n u):∀ {k:Jx},k<=u.length->aL bs u v k=g9 bs u v k
 | 0,_=>rfl
 | k+1,hk=>by
  rw[aL,g9,jE hu ∅,aA,jW]
  refine lD λo ho=>?_
  have ok:=oW o ho;rw[List.filter_map,OL];congr 1;refine OX λp hp=>?_
  rw[bH,Mc,bH];have e1:=nj (bs:=bs) hu (show k < u.length by omega)
  simp only[Sr,N9,zL ok.prt,e1];rw[show(o++[p]).getLastD 0=p by simp]
  rw[Bool.and_comm]
def ft {n:Jx}:∀os:Jn (Jn Jx),(aA n os).length<=os.length*n
 | []=>by simp[aA]
 | o::os=>by
  have ih:=ft (n:=n) os;unfold aA at ih ⊢;rw[K7,JC,Jp,J9,M0];have:=Ll (λp=>decide (p∉o)) (JW n)
  rw[J7]at this;omega
def wl {n:Jx}{os:Jn (Jn Jx)}{i:Jx}:(aA n (os.take i)).length<=os.length*n:=by
 refine JY (ft _) (ME _ ?_);rw[Kn]; omega
def lE {bs:Jn JI}{u v:Wd}:∀k:Jx,(aL bs u v k).length<=v.length ^ k
 | 0=>JB _
 | k+1=>by
  rw[aL,Pn];exact JY (Ll _ _) (JY (ft _) (ME _ (lE k)))
def nk {bs:Jn JI}{u v:Wd}{k:Jx}{o:Jn Jx}(h:o∈aA v.length (aL bs u v k)):(∀o'∈aL bs u v k,o'.length=k/\o'.Nodup/\∀p∈o',p < v.length)->o.length=k+1/\o.Nodup/\∀p∈o,p < v.length:=λih=>by
 obtain⟨o',h1,h2⟩:=KN.mp h;obtain⟨p,hp,rfl⟩:=JE.mp h2;obtain⟨hp1,hp2⟩:=Kz.mp hp;have hp2:p∉o':=Kt hp2;obtain⟨i1,i2,i3⟩:=ih o' h1;refine#[by rw[JC,i1]; rfl,?_,λq hq=>?_]
 ·rw[Ly];exact#[i2,by simp,λa ha b hb=>by rw[JD.mp hb]; exact λe=>hp2 (e ▸ ha)]
 ·rcases Kd.mp hq with h|h
  ·exact i3 q h
  ·rw[JD.mp h]; exact JQ.mp hp1
def lF {bs:Jn JI}{u v:Wd}:∀ {k:Jx},∀o∈aL bs u v k,o.length=k/\o.Nodup/\∀p∈o,p < v.length
 | 0,o,h=>by cases JD.mp h; exact#[rfl,.nil,λp hp=>by simp at hp]
 | k+1,o,h=>by
  rw[aL]at h;exact nk (Kz.mp h).1 lF
def nq {S:aa}{d:Jx}:∀xs ys:Jn JI,j5 (kE S d) (xs.map W.int) (ys.map W.int)=ba (decide (xs=ys))
 | [],[]=>rfl
 | [],_::_=>rfl
 | _::_,[]=>rfl
 | x::xs,y::ys=>by
  have e:kE S d (.int x) (.int y)=ba (x==y):=by cases d <;> rfl
  simp only[KF,j5,e,nq xs ys]
  by_cases h:x=y
  ·subst h; by_cases h2:xs=ys <;> simp[h2]
  ·have h':(x==y)=false:=by simpa using h
   simp[h,h']
def Et {S:aa}{d:Jx}(p q:Pt):kE S (d+2) (bf p) (bf q)=ba (decide (p=q)):=by
 obtain⟨m,ws⟩:=p;obtain⟨m',ws'⟩:=q;show j5 (kE S (d+1)) [.int m,.tup (ws.map W.int)] [.int m',.tup (ws'.map W.int)]=_;have e:kE S (d+1) (.int m) (.int m')=ba (m==m'):=rfl;have e2:kE S (d+1) (.tup (ws.map W.int)) (.tup (ws'.map W.int))=ba (decide (ws=ws')):=nq ws ws';simp only[j5,e,e2]
 by_cases h:m=m'
 ·subst h; by_cases h2:ws=ws' <;> simp[h2]
 ·have h':(m==m')=false:=by simpa using h
  simp[h,h']
def CL {S:aa}{p q:Pt}:cZ .eq (bf p) (bf q) S=ba (.bl (decide (p=q)),S):=by
 show(kE S (18+2) (bf p) (bf q)).map _=_;rw[Et]; rfl
def qU {p:Jx}:∀ps:Jn Jx,((aq ps).any λz=>Ab z (.int p))=decide (p∈ps)
 | []=>rfl
 | q::ps=>by
  show((q:JI)==(p:JI)||(aq ps).any _)=_
  rw[qU ps]
  by_cases h:q=p
  ·subst h; simp
  ·have h1:((q:JI)==(p:JI))=false:=by simp; omega
   have h2:¬ p=q:=λe=>h e.symm
   rw[h1]; simp[h2]
def wm (ps:Jn Jx):(aq ps).all bY=true:=by
 rw[JP];intro x hx;obtain⟨p,_,rfl⟩:=JE.mp hx;rfl
def zM {S:aa}{p:Jx}{ps:Jn Jx}:cZ .notin (.int p) (.tup (aq ps)) S=ba (.bl (decide (p∉ps)),S):=by
 show iI .notin (.int p) (.tup (aq ps)) S=_;have hf:(bY (.int p)&&(aq ps).all bY)=true:=by rw[wm]; rfl
 simp only[iI,ER,xx,eX,hf,Ls,Kv,qU];congr 3
 by_cases h:p∈ps <;> simp[h]
def qV {xs:Jn W}:jk xs gV (ba (-1))=xs.dropLast:=by
 unfold jk;rw[HT.kA,PV,SM,List.dropLast_eq_take];congr 1;show(if (-1:JI) < 0 then((-1:JI)+(xs.length:JI)).toNat else min (-1:JI).toNat xs.length)=_
 rw[JZ #v[]]; omega
def nr (ps:Jn Jx):(aq ps).dropLast=aq ps.dropLast:=by unfold aq; rw[List.map_dropLast]
def uQ {S:aa}{ps:Jn Jx}(h:ps≠[]):nY (.tup (aq ps)) (.int (-1)) S=ba (.int (ps.getLastD 0:Jx),S):=by
 have hl:(aq ps).length=ps.length:=Jp ..;have hp:0 < ps.length:=Qe.mpr h;have hs:tf (aq ps).length (-1)=ba (ps.length - 1):=by
  rw[hl];unfold tf;rw[Kb #v[]]
  exact(JZ ∅).trans (by congr 1; omega)
 have hg:(aq ps)[ps.length - 1]?=ba (.int (ps.getLastD 0:Jx)):=by
  refine oO ?_;rw[Nq,List.getLast?_eq_getElem?];have:ps.length - 1 < ps.length:=∅
  simp[this]
 simp only[nY,vn,pf,hs,hg,Option.bind_some,Kv]
abbrev aO:Ss:=
 #v[.set 2 (.lst .nil),.loop (.nm 3) (.seq (.v 0)) #v[.ex (.me .extend (.v 2) #v[.comp (.op .add (.v 2) (.tup #v[.v 1])) (.nm 1) (.rng #v[.v 1]) #v[.cmp .notin (.v 1) (.v 2)] [gV,gV,ba 3]])],.ret (.v 2)]
abbrev bX:Ss:=
 #v[.set 3 (.lst #v[.tup .nil]),.loop (.nm 4) (.seq (.v 1)) #v[.set 5 (.own "longer_orders" 2 #v[.v 3,.bi .len #v[.v 2]]),.set 3 (.comp (.v 1) (.nm 1) (.seq (.v 5)) #v[.cmp .eq (.own "point_over" 4 #v[.v 4,.v 2,.sl (.v 1) .no (.yes (.neg (.c (.int 1)))),.ix (.v 1) (.neg (.c (.int 1)))]) (.v 3)] [gV,gV,ba 2,ba 4,ba 0])],.ret (.v 3)]
abbrev aR (os:Jn (Jn Jx)):Jn W:=os.map λo=>.tup (aq o)
section
variable{defs:Jn (JV×Df)}{fuel d:Jx}{S:aa}{Q:QW}
def sP {t l:Jx}{xs ys:Jn W}(h:S[t]?=ba (.lst xs))(h2:S[l]?=ba (.lst ys))(hl:xs.length+ys.length<=1000000)(q:Q (.non,S.set t (.lst (xs++ys)))):wO (Me.extend.fn (.ref t) [.ref l] S) Q:=by
 refine ac ?_ q;simp only[Me.fn,iL,dL h,dL h2];rw[JZ (by rw[Ky]; omega)]
def oX {n:Jx}(h:n<=1000000):n<=sizeLine:=by rw[Ky]; omega
def lG (hg:Is defs ("longer_orders" : JV) 2 4 aO){n l:Jx}{os:Jn (Jn Jx)}(e:S[l]?=ba (.lst (aR os)))(hn:n<=100)(hol:∀o∈os,o.length<=100)(hos:os.length*n<=100000)
  (k:∀(q:Jx) (S':aa),S'[q]?=ba (.lst (aR (aA n os)))->S.length<=q->Ka S S'->Q (.ref q,S')) :
  wO (aP (am defs fuel (d+1)) "longer_orders" 2 [.ref l,.int n] S) Q:=by
 refine ay hg rfl rfl λQ' hR=>?_
 replace k:∀(q:Jx) (S':aa),S'[q]?=ba (.lst (aR (aA n os)))->S.length<=q->Ka S S'->Q' (.rt (.ref q),S'):=λa b c e f=>hR _ _ (k a b c e f)
 clear hR;show wZ _ _ aO [ba (.ref l),ba (.int n),gV,gV] S Q';have hlS:=bP e;dsimp only[aO];refine st ?_;dsimp only[wS,wE,wA,JK];nofun
 refine km l (aR os) (λi Z S'=>(∃a3,Z=[ba (.ref l),ba (.int n),ba (.ref S.length),a3])/\S'[l]?=ba (.lst (aR os))/\S'[S.length]?=ba (.lst (aR (aA n (os.take i))))/\Ka S S') rfl rfl #[rfl,#[gV,rfl],ak e,ag,.push] (λi Z S' h=>h.2.1) ?_ ?_
 ·rintro i w Z S1 hw ⟨⟨a3,rfl⟩,e0,e1,k1⟩;clear hK k;unfold aR at hw;rw[Jy,Js]at hw;obtain⟨o,ho,rfl⟩:=hw;have hol:=hol o (JG ho);refine ac (show eS (.nm 3) (.tup (aq o)) [ba (.ref l),ba (.int n),ba (.ref S.length),a3] S1=ba ([ba (.ref l),ba (.int n),ba (.ref S.length),ba (.tup (aq o))],S1)from rfl) ?_
  intro Q2 hn _;refine st ?_;left;refine#[eg e1,?_];refine dM (n:JI) (λj ys Z2 S2=>(∃a1,Z2=[gV,a1,ba (.tup (aq o))])/\ys=aR (((JW j).filter λp=>decide (p∉o)).map λp=>o++[p])/\S2=S1) rfl rfl rfl ∅ #[rfl,#[gV,rfl],rfl,rfl] ?_ ?_
  ·rintro j ys Z2 S2 hj ⟨⟨a1,rfl⟩,rfl,rfl⟩;dsimp only[gR,wC,wE,wA,wV,wG,JK];refine ac zM ?_;dsimp only[wB];have er:(JW (j+1)).filter (λp=>decide (p∉o))=(JW j).filter (λp=>decide (p∉o))++(if j∉o then[j]else[]):=by
    rw[Mc,LI];congr 1
    by_cases h:j∈o <;> simp[h]
   refine#[λh=>?_,λh=>#[#[_,rfl],?_,rfl]]
   ·have h:j∉o:=Kt h;refine ac (ip (oX (by rw[JC,show(aq o).length=o.length from Jp ..]; show _+1<=_; omega))) #[#[_,rfl],?_,rfl]
    rw[er,JZ h,Ke];unfold aR;rw[Ke];simp[aq]
   ·have h:¬ j∉o:=Ms h;rw[er,Kb h,Le]
  ·rintro ys Z2 S2 ⟨_,rfl,rfl⟩;rw[JO];have hlen:(aR (((JW n).filter λp=>decide (p∉o)).map λp=>o++[p])).length<=n:=by
    unfold aR;rw[Jp,Jp];exact JY (Ll _ _) (by rw[J7]; exact JB _)
   have e1':=ak (u:=O.lst (aR (((JW n).filter λp=>decide (p∉o)).map λp=>o++[p]))) e1
   have hlt:=wl (n:=n) (os:=os) (i:=i);have hlw:(aR (aA n (os.take i))).length=(aA n (os.take i)).length:=Jp ..;refine#[oX ∅,sP e1' ag ∅ (b6 (hn _ _ #[#[_,rfl],?_,?_,(k1.trans .push).late (JB _)]))]
   ·rw[bj ∅]; exact ak e0
   ·rw[bo e1'];unfold aA aR;rw[J2,ho];simp
 ·rintro Z S1 ⟨⟨a3,rfl⟩,e0,e1,k1⟩;rw[show(aR os).length=os.length from Jp ..,Kc]at e1
  exact hK _ _ (st (k _ _ e1 (JB _) k1))
def oY (P:Parts defs)(hg:Is defs ("longer_orders" : JV) 2 4 aO)(hl:Is defs ("likenesses" : JV) 3 6 bX){m0 b0:W}{ns:Jn JV}{bs:Jn JI}{a:Jx}{u v:Wd}(hb:GoodB bs)(hnl:ns.length=bs.length)(hv:GoodW a bs.length v)(hu5:u.length<=5)(hv5:v.length<=5)
  (k:∀(q:Jx) (S':aa),S'[q]?=ba (.lst (aR (aL bs u v u.length)))->S.length<=q->Ka S S'->Q (.ref q,S')) :
  wO (aP (am defs fuel (d+3)) "likenesses" 3 [.tup [m0,.tup (JU aN ns bs),b0],au u,au v] S) Q:=by
 refine ay hl rfl rfl λQ' hR=>?_
 replace k:∀(q:Jx) (S':aa),S'[q]?=ba (.lst (aR (aL bs u v u.length)))->S.length<=q->Ka S S'->Q' (.rt (.ref q),S'):=λa b c e f=>hR _ _ (k a b c e f)
 clear hR;show wZ _ _ bX [ba (.tup [m0,.tup (JU aN ns bs),b0]),ba (au u),ba (au v),gV,gV,gV] S Q';generalize hR0:W.tup [m0,.tup (JU aN ns bs),b0]=R;dsimp only[bX];refine st ?_;dsimp only[wS,wE,wA,JK];nofun
 refine for_tup (u.map bf) (λi Z S'=>∃(q:Jx) (a4 a5:Jw W),Z=[ba R,ba (au u),ba (au v),ba (.ref q),a4,a5]/\S'[q]?=ba (.lst (aR (aL bs u v i)))/\S.length<=q/\Ka S S') rfl rfl #[rfl,_,_,_,rfl,ag,JB _,.push] ?_ ?_
 ·rintro i w Z S1 hw ⟨q,a4,a5,rfl,e1,hq,k1⟩;clear hK k;rw[Jy,Js]at hw;obtain⟨p,hp,rfl⟩:=hw;have hi:i < u.length:=(JF.mp hp).1;have hlen:(aL bs u v i).length<=3125:=JY (lE i) (JY (LU hv5 i) (JY (L4 #v[] (show i<=5 by omega)) #v[]))
  have hmul:(aL bs u v i).length*v.length<=15625:=MW hlen hv5;refine ac (show eS (.nm 4) (bf p) [ba R,ba (au u),ba (au v),ba (.ref q),a4,a5] S1=ba ([ba R,ba (au u),ba (au v),ba (.ref q),ba (bf p),a5],S1)from rfl) ?_
  intro Q2 hn _;refine st ?_;left;refine bp ?_;rw[show(v.map bf).length=v.length from Jp ..]
  refine lG (d:=d+1) hg e1 ∅ (λo ho=>by have:=(lF o ho).1; omega) ∅ λl S2 e2 hl2 k2=>?_
  refine st ?_;left;refine oM l (aR (aA v.length (aL bs u v i))) (λj ys Z2 S3=>(∃a1,Z2=[gV,a1,ba (au v),ba (bf p),ba R])/\ys=aR (((aA v.length (aL bs u v i)).take j).filter λo=>decide (cR bs v o.dropLast (o.getLastD 0)=p))/\S3[l]?=ba (.lst (aR (aA v.length (aL bs u v i))))/\Ka S2 S3) rfl rfl rfl #[rfl,#[gV,rfl],rfl,e2,.refl] (λj ys Z2 S3 h=>h.2.2.1) ?_ ?_
  ·rintro j w ys Z2 S3 hw ⟨⟨a1,rfl⟩,rfl,e3,k3⟩;unfold aR at hw;rw[Jy,Js]at hw;obtain⟨o,ho,rfl⟩:=hw;obtain⟨g1,g2,g3⟩:=nk (JG ho) lF;have hne:o≠[]:=λz=>by rw[z]at g1; cases g1
   have hod:o=o.dropLast++[o.getLastD 0]:=by
    conv=>lhs; rw[<- Li hne]
    rw[Nq,Oa hne]; rfl
   have hg2:o.getLastD 0 < v.length:=g3 _ (by rw[Nq,Oa hne]; exact O9 hne)
   refine ac (show eS (.nm 1) (.tup (aq o)) [gV,a1,ba (au v),ba (bf p),ba R] S3=ba ([gV,ba (.tup (aq o)),ba (au v),ba (bf p),ba R],S3)from rfl) ?_
   dsimp only[gR,wC,wE,wA,wP,wV,wG,wN];refine ac (uQ hne) ?_;dsimp only;rw[qV,nr];subst hR0;refine sN (d:=d) P hb hnl hv (λq hq=>#[g3 q ((PP o).subset hq),?_]) hg2 (by rw[L5]; omega) λS4 k4=>?_
   ·rw[hod,Ly]at g2;exact λe=>g2.2.2 q hq _ (JD.mpr rfl) e.symm
   ·refine ac (CL (p:=cR bs v o.dropLast (o.getLastD 0)) (q:=p)) ?_;dsimp only[wB];refine#[λh=>#[#[_,rfl],?_,k4.get _ _ e3,k3.trans k4],λh=>#[#[_,rfl],?_,k4.get _ _ e3,k3.trans k4]]
    ·have e:(NC (ba o)).filter (λo=>decide (cR bs v o.dropLast (o.getLastD 0)=p))=[o]:=Ma h
     rw[J2,ho,LI,e];unfold aR;rw[Ke]; rfl
    ·have e:(NC (ba o)).filter (λo=>decide (cR bs v o.dropLast (o.getLastD 0)=p))=[]:=Mb (by rw[h]; exact J1)
     rw[J2,ho,LI,e,Le]
  ·rintro ys Z2 S3 ⟨_,rfl,e3,k3⟩;have hll:=ft (n:=v.length) (aL bs u v i);have ek:aL bs u v (i+1)=(aA v.length (aL bs u v i)).filter λo=>decide (cR bs v o.dropLast (o.getLastD 0)=p):=by
    rw[aL,getD_some hp]
   rw[show(aR (aA v.length (aL bs u v i))).length=(aA v.length (aL bs u v i)).length from Jp ..,Kc,<- ek]
   refine#[oX ?_,b6 (hn _ _ #[_,_,_,rfl,ag,?_,((k1.trans k2).trans k3).trans .push])]
   ·rw[ek];unfold aR;rw[Jp];exact JY (Ll _ _) ∅
   ·exact((k1.trans k2).trans k3).len
 ·rintro Z S1 ⟨q,a4,a5,rfl,e1,hq,k1⟩;rw[show(u.map bf).length=u.length from Jp ..]at e1
  exact hK _ _ (st (k q S1 e1 hq k1))
end
section
variable{defs:Jn (JV×Df)}{fuel d:Jx}{S:aa}{Q:QW}
def Eu {t:Jx}{xs:Jn W}{y:W}(h:S[t]?=ba (.lst xs))(hl:xs.length < 1000000)(q:Q (.non,S.set t (.lst (xs++[y])))):wO (Me.append.fn (.ref t) [y] S) Q:=ac (uA h (by rw[Ky]; omega)) q
end
def Cd {a:Jx}{bs:Jn JI}(h:SizeOk a bs):bR a bs=true:=by
 obtain⟨h0,hb,hm,h3⟩:=h;have ha:a=1\/a=2\/a=3:=∅
 rcases hb with rfl|rfl|rfl|rfl|rfl|rfl <;> rcases ha with rfl|rfl|rfl
 ·exact ID.1
 ·exact ID.2.1
 ·exact ID.2.2
 ·exact Hg.1
 ·exact Hg.2.1
 ·exact IF
 ·exact Hg.2.2.1
 ·exact Hg.2.2.2
 ·exact IG
 ·exact IE.1
 ·exact IH
 ·exact absurd hm #v[]
 ·exact IE.2.1
 ·exact II
 ·exact absurd hm #v[]
 ·exact IE.2.2
 ·exact IJ
 ·exact absurd hm #v[]
def qW:∀ {us vs:Jn Wd},us.map bz=vs.map bz->us=vs
 | [],[],_=>rfl
 | [],_::_,h=>by cases h
 | _::_,[],h=>by cases h
 | x::xs,y::ys,h=>by
  simp only[KF,TW]at h;rw[dQ h.1,qW h.2]
def qX:∀xs:Jn JI,cK (xs.map T.int)=true
 | []=>rfl
 | _::xs=>qX xs
def ko:∀u:Wd,cK (u.map gS)=true
 | []=>rfl
 | p::u=>by
  simp only[KF,cK,Jv];refine#[?_,ko u];simp[gS,d6,cK,qX]
def jF (u:Wd):d6 (bz u)=true:=ko u
def CM:∀ {ks:Jn T} {L:Jn Wd},(∀k∈ks,k∈L.map bz)->∃us:Jn Wd,ks=us.map bz/\∀u∈us,u∈L
 | [],_,_=>#[[],rfl,λ_ h=>nomatch h]
 | k::ks,L,h=>by
  obtain⟨u,hu,rfl⟩:=JE.mp (h k (.head _));obtain⟨us,rfl,h2⟩:=CM λk hk=>h k (.tail _ hk)
  exact#[u::us,rfl,λv hv=>(JX.mp hv).elim (λe=>e ▸ hu) (h2 v)]
def jX:∀ {us:Jn Wd},(us.map bz).Nodup->us.Nodup
 | [],_=>.nil
 | u::us,h=>by
  rw[KF,K4]at h;exact K4.mpr #[λz=>h.1 (JE.mpr #[u,z,rfl]),jX h.2]
def Ev {n k:Jx}{ds:Jn JI}:ds∈bn n k->ds.length=k/\∀w∈ds,0<=w/\w < (n:JI):=by
 induction k generalizing ds with
 | zero=>intro h; cases JD.mp h; exact#[rfl,λw hw=>nomatch hw]
 | succ k ih=>
  intro h;obtain⟨i,hi,rfl⟩:=JE.mp h;have hi:=JQ.mp hi;have hn:0 < n:=by
   rcases OJ n with h|h
   ·rw[h,Pl]at hi; omega
   ·exact h
  have hlt:i / n < (bn n k).length:=L3 (by rw[Nj]; exact hi)
  obtain⟨h1,h2⟩:=ih (JG (al (d:=[]) hlt));refine#[by rw[JC,h1]; rfl,λw hw=>?_]
  rcases Kd.mp hw with h|h
  ·exact h2 w h
  ·rw[JD.mp h];have:=Ph i hn;omega
def lH {a n k:Jx}{u:Wd}:u∈aQ a n k->GoodW a n u/\u.length=k:=by
 induction k generalizing u with
 | zero=>intro h; cases JD.mp h; exact#[.nil,rfl]
 | succ k ih=>
  intro h;obtain⟨i,hi,rfl⟩:=JE.mp h;have hi:=JQ.mp hi;have hpos:0 < (aX a n k).length:=by
   rcases OJ (aX a n k).length with h|h
   ·rw[h,Pl]at hi; omega
   ·exact h
  have hlt:i / (aX a n k).length < (aQ a n k).length:=L3 (by rw[Nj]; exact hi)
  obtain⟨h1,h2⟩:=ih (JG (al (d:=[]) hlt));have hp:=JG (al (d:=(0,[])) (Ph i hpos));obtain⟨m,hm,hp⟩:=KN.mp hp;obtain⟨ds,hds,e⟩:=JE.mp hp;obtain⟨g1,g2⟩:=Ev hds;have hm:=JQ.mp hm;rw[<- e];exact#[h1.snoc #[∅,∅] (by rw[g1,h2]) g2,by rw[JC,h2]; rfl]
def Ce {a:Jx}{bs:Jn JI}(h:SizeOk a bs):∃us:Jn Wd,jP ((dE a bs).map bz)=ba (us.map bz)/\us.Nodup/\us.length < 64/\(∀u∈us,u∈aM a bs)/\dE a bs≠[]:=by
 have p:=Cd h;unfold bR at p;split at p
 ·rename_i ks hk;simp only[Jv,JL]at p;have hm0:=xW hk;obtain⟨us,rfl,hm⟩:=CM (L:=aM a bs) λk hk=>by
   obtain⟨f,hf,rfl⟩:=JE.mp (hm0 k hk);obtain⟨u,hu,rfl⟩:=JE.mp hf;obtain⟨g1,g2⟩:=lH hu;exact JE.mpr #[_,oR g1 g2,rfl]
  have nd:=jX p.1;refine#[us,hk,nd,Mt (gp us _ nd hm) (jb h),hm,λz=>?_]
  rw[z]at hk;have e:ba (us.map bz)=ba []:=hk.symm;rw[KQ e]at p;exact absurd p.2 #v[]
 ·cases p
def qY {us:Jn Wd}(h:us.Nodup):Nice (us.map bz):=by
 refine#[λx hx=>?_,fm us,?_]
 ·obtain⟨u,_,rfl⟩:=JE.mp hx;exact jF u
 ·rw[Mu,MD];exact h.imp λhne e=>hne (dQ e)
def jG {us:Jn Wd}:(bM us).map bz=eF (us.map bz):=by
 unfold bM eF;rw[qJ (d:=[])]
def wn {us vs:Jn Wd}(h:us.Nodup)(hs:vs.Sublist (bM us)):bM vs=vs:=by
 apply qW;rw[jG];refine xV (qY h) ?_;rw[<- jG];exact hs.map _
abbrev dq:Ss:=
 #v[.ret (.bi .sorted #v[.bi .set #v[.comp (.own "_law_figure" 2 #v[.v 2,.v 1]) (.nm 1) (.seq (.own "_law_worlds" 2 #v[.v 0,.c (.int 3)])) .nil [gV,gV,ba 0]]])]
abbrev cv:Ss:=
 #v[.set 1 (.own "_law_pick" 2 #v[.v 0,.c (.int 4)]),.ite (.cmp .eq (.v 1) (.c (.int 0))) #v[.ret (.own "_law_laying_rule" 1 #v[.v 0])] .nil,.ite (.cmp .lt (.v 1) (.c (.int 3))) #v[.ret (.own "_law_any_rule" 1 #v[.v 0])] .nil,.asg [2,3] (.own "_law_sizes" 1 #v[.v 0]),.set 4 (.own "_law_rule_of" 4 #v[.v 0,.v 2,.own "_law_backs" 2 #v[.v 0,.v 3],.tup .nil]),.ret (.tup #v[.ix (.v 4) (.c (.int 0)),.ix (.v 4) (.c (.int 1)),.bi .tuple #v[.comp (.v 1) (.nm 1) (.seq (.own "_law_figures" 1 #v[.v 4])) #v[.cmp .eq (.own "_law_pick" 2 #v[.v 2,.c (.int 3)]) (.c (.int 0))] [gV,gV,ba 0]]])]
section
variable{defs:Jn (JV×Df)}{fuel d:Jx}{S:aa}{r:Jx}{Q:QW}
def Ew {l:Jx}{us ks:Jn Wd}(h:S[l]?=ba (.lst (us.map au)))(hne:us≠[])(hk:jP (us.map bz)=ba (ks.map bz))(q:Q (.ref S.length,S++[.stt (ks.map bz)])):wO (Bi.set.fn [.ref l] S) Q:=by
 refine ac ?_ q;have e2:kX [.ref l] S=ba (.ref S.length,S++[.stt (ks.map bz)]):=by
  simp only[kX,aw h,zd];rw[JZ,hk]
  ·rfl
  ·rw[JP];intro x hx;obtain⟨u,_,rfl⟩:=JE.mp hx;have:=lx u;have kl:az=6:=rfl;simp only[xX,jF,N5,Jv,JL];exact#[rfl,∅]
 exact e2
def Cf {l:Jx}{us:Jn Wd}(h:S[l]?=ba (.stt (us.map bz)))(h64:us.length < 64)(hnd:us.Nodup)(hne:∀u∈us,u≠[])(q:Q (.ref S.length,S++[.lst ((bM us).map au)])):wO (Bi.sorted.fn [.ref l] S) Q:=by
 refine ac ?_ q;have hr:ES S l=ba (us.map bz):=by simp[ES,h]
 have N:=qY hnd;have ok:kY (us.map bz)=true:=by
  simp only[kY,ie,Jv,JL,LF,Jp];refine#[#[#[JP.mpr N.num,N.lt],N.nd],#[#[h64,by have:=gG us; unfold bT; omega],.inr #[zh us hne,N.lt]]]
 have e1:cL [.ref l] S=ba (.ref S.length,S++[.lst ((bM us).map au)]):=by
  simp only[cL,hr];rw[JZ ok,<- jG,sF]
 show Cv cL fJ [.ref l] S=_;unfold Cv;simp only[e1]
structure Full (defs:Jn (JV×Df)):Prop where
 digits:Is defs ("_law_digits" : JV) 2 4 bD
 worlds:Is defs ("_law_worlds" : JV) 2 6 bW
 figures:Is defs ("_law_figures" : JV) 1 1 dq
 full:Is defs ("_law_full_rule" : JV) 1 5 cv
def wo (G:Gen defs)(F:Full defs){ms ns:Jn JV}{a:Jx}{bs:Jn JI}{b0:W}(hs:SizeOk a bs)(hml:ms.length=a)(hnl:ns.length=bs.length)
  (k:∀(us:Jn Wd) (q:Jx) (S':aa),us.Nodup->us.length < 64->(∀u∈us,u∈aM a bs)->S'[q]?=ba (.lst ((bM us).map au))->S.length<=q->Ka S S'->Q (.ref q,S')) :
  wO (aP (am defs fuel (d+4)) "_law_figures" 1 [.tup [.tup (ms.map W.str),.tup (JU aN ns bs),b0]] S) Q:=by
 refine ay F.figures rfl rfl λQ' hR=>?_
 replace k:∀(us:Jn Wd) (q:Jx) (S':aa),us.Nodup->us.length < 64->(∀u∈us,u∈aM a bs)->S'[q]?=ba (.lst ((bM us).map au))->S.length<=q->Ka S S'->Q' (.rt (.ref q),S'):=λa b c e f g h i j=>hR _ _ (k a b c e f g h i j)
 clear hR;obtain⟨us,hk,hnd,h64,hmem,hne⟩:=Ce hs;have hb3:=hs.n3;have hpos:=hs.pos;have h3:=hs.a3;have hmost:=hs.most;show wZ _ _ dq [ba (.tup [.tup (ms.map W.str),.tup (JU aN ns bs),b0])] S Q';generalize hB:W.tup [.tup (ms.map W.str),.tup (JU aN ns bs),b0]=R;dsimp only[dq];refine st ?_;left;refine lC rfl rfl rfl ?_;dsimp only[wE,wA,wV,wG];subst hB;refine zK (d:=d+1) F.digits F.worlds (a:=a) (n:=bs.length) (by rw[Jp,hml]) (by rw[Mg,hnl]; omega) hpos h3 hb3.1 hb3.2 hmost λl S1 e1 hl k1=>?_
 generalize hB:W.tup [.tup (ms.map W.str),.tup (JU aN ns bs),b0]=R;refine#[l,(aQ a bs.length 3).map au,λj ys Z2 S2=>(∃a1,Z2=[gV,a1,ba R])/\ys=((dE a bs).take j).map au/\S2[l]?=ba (.lst ((aQ a bs.length 3).map au))/\Ka S S2,rfl,#[#[gV,rfl],rfl,e1,k1],λj ys Z2 S2 h=>h.2.2.1,?_,?_]
 ·rintro j w ys Z2 S2 hw ⟨⟨a1,rfl⟩,rfl,e2,k2⟩;rw[Jy,Js]at hw;obtain⟨u,hu,rfl⟩:=hw;obtain⟨gu,hu3⟩:=lH (JG hu);refine ac (show eS (.nm 1) (au u) [gV,a1,ba R] S2=ba ([gV,ba (au u),ba R],S2)from rfl) ?_
  dsimp only[gR,wC,wE,wA,wV,wG];subst hB;refine#[λ_=>i9 (d:=d) G hs.good hnl gu hu3 λS3 k3=>#[#[_,rfl],?_,k3.get _ _ e2,k2.trans k3],λz=>by cases z]
  have:(dE a bs)[j]?=ba (fS bs u):=by unfold dE; rw[Jy,hu]; rfl
  rw[J2,this];simp
 ·rintro ys Z2 S2 ⟨_,rfl,e2,k2⟩;have hfl:(dE a bs).length=((aQ a bs.length 3).map au).length:=by unfold dE; rw[Jp,Jp]
  rw[<- hfl,Kc];have hl216:(dE a bs).length<=216:=by
   unfold dE;rw[Jp,bE];exact(lB (k:=2) hpos h3 hb3.1 hb3.2 hmost #v[]).2.2
  refine#[oX (by rw[Jp]; omega),Ew ag hne hk (Cf ag h64 hnd (λu hu=>qM (hmem u hu)) ?_)]
  have kk:=((k2.trans (Ka.push (o:=O.lst ((dE a bs).map au)))).trans (Ka.push (o:=O.stt (us.map bz)))).trans (Ka.push (o:=O.lst ((bM us).map au)));exact k us _ _ hnd h64 hmem ag (((k2.trans (Ka.push (o:=O.lst ((dE a bs).map au)))).trans (Ka.push (o:=O.stt (us.map bz)))).len) kk
def Ex (hfu:20 < fuel)(G:Gen defs)(F:Full defs)(hf:Fl S r)(k:∀w S',eu w->Fl S' r->Kp r S S'->Q (w,S')):wO (aP (am defs fuel (d+8)) "_law_full_rule" 1 [.ref r] S) Q:=by
 refine ay F.full rfl rfl λQ' hR=>?_
 replace k:∀w S',eu w->Fl S' r->Kp r S S'->Q' (.rt w,S'):=λz S' a b c=>hR _ _ (k z S' a b c)
 clear hR;show wZ _ _ cv [ba (.ref r),gV,gV,gV,gV] S Q';dsimp only[cv];nofun
 left;refine aY (d:=d+6) G.pick hf #v[] #v[] λv S1 v0 v7 f1 k1=>hK _ _ ?_
 clear hK K;nofun
 dsimp only[wS,wT,wE,wV,wG,iZ,aH,wB];refine aF (Q0:=Q') (λ_ Q2 _ hr=>?_) (λ_ Q2 hn _=>b6 (hn _ _ (hK _ _ ?_)))
 ·refine st ?_;left;exact zG (d:=d) hfu G f1 λw S2 hw f2 k2=>hr _ _ (k w S2 hw f2 (k1.trans k2))
 clear hK K hn;nofun
 dsimp only[wS,wT,wE,wV,wG,v4,aH,wB];refine aF (Q0:=Q') (λ_ Q2 _ hr=>?_) (λ_ Q2 hn _=>b6 (hn _ _ (hK _ _ ?_)))
 ·refine st ?_;left;exact sK (d:=d+1) hfu G f1 λw S2 hw f2 k2=>hr _ _ (k w S2 hw f2 (k1.trans k2))
 clear hK K hn;nofun
 left;refine oP (d:=d+5) G f1 λa n S2 a1 a3 n1 n3 an f2 k2=>?_
 dsimp only[wU];refine ac (show cM [2,3] [.int a,.int n] [ba (.ref r),ba (.int v),gV,gV,gV]=ba [ba (.ref r),ba (.int v),ba (.int a),ba (.int n),gV]from rfl) (hK _ _ ?_)
 clear hK K;nofun
 left;refine oQ (d:=d+5) G f2 n1 n3 λbs S3 hb hbl f3 k3=>?_
 have hsz:SizeOk a bs:=#[∅,hb,by rw[hbl]; exact an,a3]
 refine fO (d:=d+2) hfu G f3 a3 ∅ λms ns S4 hml hnl hnm f4 k4=>hK _ _ ?_
 clear hK K;have k14:Kp r S S4:=k1.trans (k2.trans (k3.trans k4));clear k1 k2 k3 k4;refine st ?_;left;refine aj #v[] rfl (aj #v[] rfl ?_)
 refine lC rfl rfl rfl ?_;dsimp only[wE,wA,wV,wG];refine wo (d:=d+3) G F hsz hml hnl λus q S5 hnd h64 hmem e5 hq k5=>?_
 have f5:=f4.ka k5;have hrq:r < q:=J4 f4.lt hq;refine#[q,(bM us).map au,λj ys Z2 S6=>(∃a1,Z2=[gV,a1,ba (.ref r)])/\(∃vs:Jn Wd,ys=vs.map au/\vs.Sublist ((bM us).take j))/\S6[q]?=ba (.lst ((bM us).map au))/\Fl S6 r/\Kp r S S6,rfl,#[#[gV,rfl],#[[],rfl,by simp],e5,f5,k14.trans (k5.kp r)],λj ys Z2 S6 h=>h.2.2.1,?_,?_]
 ·rintro j w ys Z2 S6 hw ⟨⟨a1,rfl⟩,⟨vs,rfl,hsub⟩,e6,f6,k6⟩;rw[Jy,Js]at hw;obtain⟨u,hu,rfl⟩:=hw;refine ac (show eS (.nm 1) (au u) [gV,a1,ba (.ref r)] S6=ba ([gV,ba (au u),ba (.ref r)],S6)from rfl) ?_
  dsimp only[gR,wC,wE,wA,wV,wG];refine aY (d:=d+6) G.pick f6 #v[] #v[] λv S7 _ _ f7 k7=>?_
  dsimp only[iZ,aH,wB];have e7:=k7.get _ _ ∅ e6
  refine#[λ_=>#[#[_,rfl],#[vs++[u],by rw[Ke]; rfl,?_],e7,f7,k6.trans k7],λ_=>#[#[_,rfl],#[vs,rfl,?_],e7,f7,k6.trans k7]]
  ·rw[J2,hu];exact hsub.append (TF _)
  ·rw[J2];exact hsub.trans (List.sublist_append_left _ _)
 ·rintro ys Z2 S6 ⟨_,⟨vs,rfl,hsub⟩,e6,f6,k6⟩;rw[Jp,Kc]at hsub;have pu:(bM us).Perm us:=dv;have hvl:vs.length<=us.length:=by rw[<- pu.length_eq]; exact hsub.length_le
  have hvs:=wn hnd hsub;refine#[oX (by rw[Jp]; omega),fj ag (k _ _ #[a,bs,ms,ns,vs,by rw[hvs]; rfl,hsz,hml,hnl,hnm,hsub.nodup (pu.nodup_iff.mpr hnd),λg hg=>hmem g (pu.mem_iff.mp (hsub.subset hg))] (f6.ka .push) (k6.trans .push))]
end
section
variable{M:JV->FF}{Z:Fm}{S:aa}
def zN {α:Type}{elt:E}{it:Ie}{cs:Es}{cap:Jn (Jw Jx)}{mi:MI}{S1:aa}{Q:QW}(L:Jn α)(f:α->W)(p:α->J6)(g:α->W)(R:Fm)(oe:dD elt=true)(oc:oK cs=true)(hc:eZ cap Z=gV::gV::R)(hl:L.length<=1000000)(hi:jS M it Z S=ba (mi,S1))(k1:Ka S S1)(hat:∀i S',Ka S1 S'->mi.at S' i=ba (L.map f)[i]?)(hn:mi.len S1=ba (L.map f).length)
  (hstep:∀x∈L,∀S',Ka S S'->gR M elt cs (gV::ba (f x)::R) S' (λy _ S2=>p x=true/\y=g x/\Ka S' S2) (λ_ S2=>p x=false/\Ka S' S2))
  (k:∀S',Ka S S'->Q (.ref S'.length,S'++[.lst ((L.filter p).map g)])):Wp (aB M (.comp elt (.nm 1) it cs cap) Z S) Q:=by
 rw[sD];refine#[_,hi,_,hn,?_];refine(cN (xs:=L.map f) (Q:=λq=>q.1.length<=sizeLine/\Q (.ref q.2.length,q.2++[.lst q.1])) (λi ys Z' S'=>(∃a1,Z'=gV::a1::R)/\ys=((L.take i).filter p).map g/\Ka S1 S') (λi ys Z' S' h=>hat i S' h.2.2) (λi w ys Z' S' hw h=>?_) (λys Z' S' h=>?_) (L.map f).length 0 [] _ S1 ∅ #[#[gV,hc],rfl,.refl]).mono λq hq=>by simpa using hq
 ·obtain⟨⟨a1,rfl⟩,rfl,k2⟩:=h;rw[Jy,Js]at hw;obtain⟨x,hx,rfl⟩:=hw;refine Il.mpr ?_;refine(yX oc (hstep x (JG hx) S' (k1.trans k2))).mono λc hc=>#[λz=>(aW elt oe (hc.1 z)).mono λy hy=>#[#[_,rfl],?_,k2.trans hy.2.2],λz=>#[#[_,rfl],?_,k2.trans (hc.2 z).2]]
  ·rw[J2,hx,LI,show(NC (ba x)).filter p=[x]from Ma hy.1,Ke,hy.2.1]; rfl
  ·rw[J2,hx,LI,show(NC (ba x)).filter p=[]from Mb (by rw[(hc.2 z).1]; exact J1),Le]
 ·obtain⟨_,rfl,k2⟩:=h;dsimp only;rw[show(L.map f).length=L.length from Jp ..,Kc]
  refine#[oX ?_,k S' (k1.trans k2)];rw[Jp];exact JY (Ll _ _) hl
def oZ {α:Type}{elt e:E}{cs:Es}{cap:Jn (Jw Jx)}{Q:QW}(L:Jn α)(f:α->W)(p:α->J6)(g:α->W)(R:Fm)(oi:dD e=true)(oe:dD elt=true)(oc:oK cs=true)(hc:eZ cap Z=gV::gV::R)(hl:L.length<=1000000)
  (he:wE M e Z S λq=>∃t,q.1=.ref t/\q.2[t]?=ba (.lst (L.map f))/\Ka S q.2)
  (hstep:∀x∈L,∀S',Ka S S'->gR M elt cs (gV::ba (f x)::R) S' (λy _ S2=>p x=true/\y=g x/\Ka S' S2) (λ_ S2=>p x=false/\Ka S' S2))
  (k:∀S',Ka S S'->Q (.ref S'.length,S'++[.lst ((L.filter p).map g)])):Wp (aB M (.comp elt (.nm 1) (.seq e) cs cap) Z S) Q:=by
 obtain⟨w,S1,e1,t,rfl,ht,k1⟩:=bB oi he;exact zN (mi:=.live t) L f p g R oe oc hc hl (by simp only[jS,eY,e1,aw ht]) k1 (λi S' h=>by simp only[MI.at,aw (h.get _ _ ht)]) (by simp only[MI.len,aw ht,Kv]) hstep k
def qZ (n:Jx):c8 0 n=(JW n).map λi=>W.int (i:Jx):=by
 unfold c8;refine KG λi _=>?_
 rw[Pk]
def Ey {elt e:E}{cs:Es}{cap:Jn (Jw Jx)}{Q:QW}(n:Jx)(p:Jx->J6)(g:Jx->W)(R:Fm)(oi:dD e=true)(oe:dD elt=true)(oc:oK cs=true)(hc:eZ cap Z=gV::gV::R)(hl:n<=1000000)
  (he:wE M e Z S λq=>q.1=.int n/\Ka S q.2)
  (hstep:∀x < n,∀S',Ka S S'->gR M elt cs (gV::ba (.int (x:Jx))::R) S' (λy _ S2=>p x=true/\y=g x/\Ka S' S2) (λ_ S2=>p x=false/\Ka S' S2))
  (k:∀S',Ka S S'->Q (.ref S'.length,S'++[.lst (((JW n).filter p).map g)])):Wp (aB M (.comp elt (.nm 1) (.rng #v[e]) cs cap) Z S) Q:=by
 obtain⟨w,S1,e1,rfl,k1⟩:=bB oi he;refine zN (mi:=.its (c8 0 n)) (JW n) (λi=>W.int (i:Jx)) p g R oe oc hc (by rw[J7]; exact hl) ?_ k1 (λi S' _=>by rw[<- qZ]; rfl) (by rw[<- qZ]; rfl) (λx hx=>hstep x (JQ.mp hx)) k
 simp only[jS,cY,dF,iW,su,e1];rw[JZ #[∅,∅]]; rfl
def lI {α:Type}(L:Jn α):L.filter (λ_=>true)=L:=List.filter_eq_self.mpr λ_ _=>rfl
end
def Ez {bs:Jn JI}{a:Jx}{v:Wd}{i j:Jx}(hb:GoodB bs)(hv:GoodW a bs.length v)(hi:i < v.length)(hj:j < v.length)(hij:i≠j):0<=bO bs v i j/\bO bs v i j < (bs.length:JI):=by
 unfold bO
 by_cases h:j < i
 ·rw[JZ h];have hp:=al (d:=(0,[])) hi;have hw:j < (v.getD i (0,[])).2.length:=by rw[hv.len i _ hp]; exact h
  exact hv.way i _ hp _ (JG (al (d:=0) hw))
 ·rw[Kb h];have hp:=al (d:=(0,[])) hj;have hw:i < (v.getD j (0,[])).2.length:=by rw[hv.len j _ hp]; omega
  obtain⟨g1,g2⟩:=hv.way j _ hp _ (JG (al (d:=0) hw));exact(hb.at g1 g2).2
def fu {bs:Jn JI}{a:Jx}{v:Wd}{ps:Jn Jx}(hb:GoodB bs)(hv:GoodW a bs.length v)(hps:∀p∈ps,p < v.length)(hnd:ps.Nodup):GoodW a bs.length (ah bs v ps):=by
 have at':∀(k:Jx) (q:Pt),(ah bs v ps)[k]?=ba q->∃hk:k < ps.length,q=((v.getD ps[k] (0,[])).1,(ps.take k).map λj=>bO bs v ps[k] j):=λk q e=>by
  have hk:k < ps.length:=by
   have:=(JF.mp e).1;rw[aE]at this; exact this
  refine#[hk,?_];unfold ah at e;rw[Jy,LS hk,Kv,show ps.getD k 0=ps[k] by simp[hk]]at e
  exact(KQ e).symm
 refine#[λk q e=>?_,λk q e=>?_,λk q e=>?_]
 ·obtain⟨hk,rfl⟩:=at' k q e;have:=hv.mark _ _ (al (d:=(0,[])) (hps _ (Kq hk)));exact this
 ·obtain⟨hk,rfl⟩:=at' k q e;dsimp only;rw[Jp,Kn]; omega
 ·obtain⟨hk,rfl⟩:=at' k q e;intro w hw;obtain⟨j,hj,rfl⟩:=JE.mp hw;have hjm:=Lb hj;refine Ez hb hv (hps _ (Kq hk)) (hps _ hjm) λe=>?_
  obtain⟨m,hm,e2⟩:=LM.mp hj;rw[Kn]at hm;rw[M9]at e2;have:=(LJ hnd).mp (e.trans e2.symm);omega
section
variable{defs:Jn (JV×Df)}{fuel d:Jx}{S:aa}{Q:QW}
def EA (hd:Is defs ("_law_flow" : JV) 1 1 en){ns:Jn JI}{u:Jx}(hu:S[u]?=ba (.fro (ns.map W.int)))(k:∀r S',Ka S S'->Fl S' r->Q (.ref r,S')) :
  wO (aP (am defs fuel (d+1)) "_law_flow" 1 [.ref u] S) Q:=by
 refine ay hd rfl rfl λQ' hR=>?_
 show wZ _ _ en [ba (.ref u)] S Q';dsimp only[en];refine st ?_;left;have e:Bi.list.fn [.ref u] S=ba (.ref S.length,S++[.lst (ns.map W.int)]):=by
  have h1:AW S u=gV:=by simp[AW,hu]
  simp only[Bi.fn,Cv,mz,h1,iJ,eX,BP hu]
 refine ac e (hR _ _ (k _ _ (Ka.push.trans .push) #[S.length,ns,0,0,1,0,?_,?_,?_,#v[],#v[],#v[],#v[]]))
 ·exact ag
 ·exact ak ag
 ·simp
end
def jY {bt:Jx->Jx->J6}{N:Jx}(ir:∀i < N,bt i i=false)(tr:∀i j k,i < N->j < N->k < N->bt i j=true->bt j k=true->bt i k=true):∀n,n < N->∀j≤n,bt j (argBest bt n)=false
 | 0,hn,j,hj=>by
  obtain rfl:j=0:=∅
  exact ir 0 hn
 | n+1,hn,j,hj=>by
  have ih:=jY ir tr n ∅
  have hb:=dh bt n;simp only[argBest];cases c:bt (n+1) (argBest bt n)with
  | true=>
   rw[JZ rfl]
   by_cases e:j=n+1
   ·subst e; exact ir _ hn
   ·cases c2:bt j (n+1)with
    | false=>rfl
    | true=>
     have:=tr j (n+1) (argBest bt n) ∅ hn ∅ c2 c
     rw[ih j ∅]at this; cases this
  | false=>
   rw[Kb (by exact J1)]
   by_cases e:j=n+1
   ·subst e; exact c
   ·exact ih j ∅
def q8 {ks:Jn T}(hn:∀x∈ks,d6 x=true)(hl:eE ks=true)(hne:ks≠[]):∃x,ks[ig ks]?=ba x/\x∈ks/\∀y∈ks,gC y x=ba false:=by
 have hp:0 < ks.length:=Qe.mpr hne;have hm:ig ks < ks.length:=by
  unfold ig;have:=dh (lS ks) (ks.length - 1);omega
 have ltk:∀i j (hi:i < ks.length) (hj:j < ks.length),gC ks[i] ks[j]=ba (lS ks i j):=λi j hi hj=>dA hl hi hj
 have ir:∀i < ks.length,lS ks i i=false:=λi hi=>by
  cases c:lS ks i i with
  | false=>rfl
  | true=>
   have e:=ltk i i hi hi;rw[c]at e;have:=kU _ _ (hn _ (Kq hi)) e;rw[e]at this; cases this
 have mn:=jY (bt:=lS ks) (N:=ks.length) ir (λi j k hi hj hk h1 h2=>by
  have e1:=ltk i j hi hj;have e2:=ltk j k hj hk;rw[h1]at e1;rw[h2]at e2;have:=sd _ _ _ (hn _ (Kq hi)) (hn _ (Kq hj)) e1 e2;rw[ltk i k hi hk]at this;exact KQ this) (ks.length - 1) ∅
 refine#[ks[ig ks],Jz hm,Kq hm,λy hy=>?_]
 obtain⟨j,hj,rfl⟩:=LM.mp hy;rw[ltk j _ hj hm];congr 1;exact mn j ∅
def uR {x y:T}(hx:d6 x=true)(h1:gC x y=ba false)(h2:gC y x=ba false):x=y:=by
 by_cases e:x=y
 ·exact e
 ·rw[om x y hx e h2]at h1; cases h1
def q9:∀ {xs ys as bs:Jn T},xs.length=ys.length->c7 xs ys=ba true->c7 (xs++as) (ys++bs)=ba true
 | [],[],_,_,_,h=>by cases h
 | x::xs,y::ys,as,bs,hl,h=>by
  simp only[Rs,c7]at h ⊢
  by_cases e:x=y
  ·rw[JZ e]at h ⊢;exact q9 (by simpa using hl) h
  ·rw[Kb e]at h ⊢;exact h
 | [],_::_,_,_,hl,_=>by simp at hl
 | _::_,[],_,_,hl,_=>by simp at hl
def rc {as bs:Jn T}:∀xs:Jn T,c7 (xs++as) (xs++bs)=c7 as bs
 | []=>rfl
 | x::xs=>by
  simp only[Rs,c7,Ls];exact rc xs
def EB {x y:T}(hx:d6 x=true)(h:c7 [x] [y]=ba true):gC x y=ba true:=by
 simp only[c7]at h;split at h
 ·cases h
 ·exact h
structure Ord (n:Jx)(o:Jn Jx):Prop where
 nd:o.Nodup
 lt:∀p∈o,p < n
abbrev eB:Jx->Jn (Jn Jx)
 | 0=>[[]]
 | k+1=>(eB k).flatMap λo=>(JW (k+1)).map λi=>o.take i++[k]++o.drop i
def eM:∀ {n:Jx} {o:Jn Jx},o∈eB n↔Ord n o/\o.length=n
 | 0,o=>by
  rw[eB,JD];exact#[λh=>by subst h; exact#[#[.nil,λp hp=>nomatch hp],rfl],λh=>L6 h.2]
 | n+1,o=>by
  rw[eB,KN];constructor
  ·rintro⟨o',h1,h2⟩;obtain⟨i,hi,rfl⟩:=JE.mp h2;obtain⟨⟨nd,lt⟩,hl⟩:=eM.mp h1;have hi:=JQ.mp hi;have hp:(o'.take i++[n]++o'.drop i).Perm (n::o'):=by
    have e:o'.take i++[n]++o'.drop i=o'.take i++n::o'.drop i:=by simp
    rw[e];refine Rt.trans ?_;rw[NV]
   refine#[#[hp.nodup_iff.mpr (K4.mpr #[λz=>absurd (lt _ z) (K8 _),nd]),λp hpm=>?_],by rw[hp.length_eq,J9,hl]]
   rcases JX.mp (hp.mem_iff.mp hpm)with z|z
   ·omega
   ·have:=lt p z; omega
  ·rintro⟨⟨nd,lt⟩,hl⟩;have hm:n∈o:=by
    by_cases z:n∈o
    ·exact z
    ·have h1:=gp o (JW n) nd λp hp=>JQ.mpr (by
      have:=lt p hp;have:p≠n:=λe=>z (e ▸ hp)
      omega)
     rw[J7]at h1;omega
   obtain⟨a,b,rfl⟩:=List.append_of_mem hm;have hp:(a++n::b).Perm (n::(a++b)):=Rt;have nd2:=hp.nodup_iff.mp nd;obtain⟨nn,nd3⟩:=K4.mp nd2;refine#[a++b,eM.mpr #[#[nd3,λp hpm=>?_],?_],JE.mpr #[a.length,JQ.mpr ?_,?_]]
   ·have h1:=lt p (hp.mem_iff.mpr (KO _ hpm));have:p≠n:=λe=>nn (e ▸ hpm)
    omega
   ·have:=hp.length_eq;rw[hl,J9]at this;omega
   ·rw[JC,J9]at hl;omega
   ·rw[List.take_left',RJ] <;> simp
abbrev aU (bs:Jn JI)(u:Wd)(o:Jn Jx):Pt:=cR bs u o.dropLast (o.getLastD 0)
abbrev ce (ps:Jn Pt):Pt:=ps.getD (ig (ps.map gS)) (0,[])
abbrev eN (bs:Jn JI)(u:Wd):Jx->Jn (Jn Jx)
 | 0=>[[]]
 | k+1=>(aA u.length (eN bs u k)).filter λo=>decide (aU bs u o=ce ((aA u.length (eN bs u k)).map (aU bs u)))
abbrev o4 (bs:Jn JI)(u:Wd):Jx->Wd
 | 0=>[]
 | k+1=>o4 bs u k++[ce ((aA u.length (eN bs u k)).map (aU bs u))]
def zO (p:Pt):d6 (gS p)=true:=by
 have:=ko [p]
 simpa [cK]using this
def nu (ps:Jn Pt):eE (ps.map gS)=true:=by
 unfold eE;rw[JP];intro x hx;rw[JP];intro y hy;obtain⟨p,_,rfl⟩:=JE.mp hx;obtain⟨q,_,rfl⟩:=JE.mp hy;exact sH _ _ (zf p q)
def nv {ps:Jn Pt}(h:ps≠[]):ps[ig (ps.map gS)]?=ba (ce ps)/\ce ps∈ps/\∀y∈ps,gC (gS y) (gS (ce ps))=ba false:=by
 obtain⟨x,h1,h2,h3⟩:=q8 (ks:=ps.map gS) (λx hx=>by obtain⟨p,_,rfl⟩:=JE.mp hx; exact zO p) (nu ps) (by simpa using h)
 rw[Jy,Js]at h1;obtain⟨p,hp,rfl⟩:=h1;have e:ce ps=p:=by unfold ce; rw[JT,hp]; rfl
 rw[e];exact#[hp,JG hp,λy hy=>h3 _ (JE.mpr #[y,hy,rfl])]
def fw {n:Jx}{os:Jn (Jn Jx)}{o':Jn Jx}:o'∈aA n os↔∃o∈os,∃p,p < n/\p∉o/\o'=o++[p]:=by
 unfold aA;rw[KN];constructor
 ·rintro⟨o,ho,h⟩;obtain⟨p,hp,rfl⟩:=JE.mp h;obtain⟨h1,h2⟩:=Kz.mp hp;exact#[o,ho,p,JQ.mp h1,Kt h2,rfl]
 ·rintro⟨o,ho,p,h1,h2,rfl⟩;exact#[o,ho,JE.mpr #[p,Kz.mpr #[JQ.mpr h1,Lg h2],rfl]]
def gH {bs:Jn JI}{u:Wd}{o:Jn Jx}{p:Jx}:aU bs u (o++[p])=cR bs u o p:=by
 unfold aU;rw[N9,P4]
def gv {n:Jx}{o:Jn Jx}{p:Jx}:Ord n (o++[p])↔Ord n o/\p < n/\p∉o:=by
 constructor
 ·rintro⟨nd,lt⟩;rw[Ly]at nd;exact#[#[nd.1,λq hq=>lt q (KW _ hq)],lt p (by simp),λz=>nd.2.2 p z p (by simp) rfl]
 ·rintro⟨⟨nd,lt⟩,h1,h2⟩;refine#[Ly.mpr #[nd,by simp,λa ha b hb e=>?_],λq hq=>?_]
  ·rw[JD.mp hb]at e;exact h2 (e ▸ ha)
  ·rcases Kd.mp hq with z|z
   ·exact lt q z
   ·rw[JD.mp z]; exact h1
def re {n:Jx}{o:Jn Jx}(h:Ord n o)(hl:o.length < n):∃p,p < n/\p∉o:=by
 by_cases z:∃p,p < n/\p∉o
 ·exact z
 ·have h1:=gp (JW n) o LZ λp hp=>by
   by_cases z2:p∈o
   ·exact z2
   ·exact absurd #[p,JQ.mp hp,z2] z
  rw[J7]at h1;omega
def GQ (u v:Wd):(gC (bz u) (bz v)).isSome=true:=by
 have:=fm [u,v];unfold eE at this;rw[JP]at this;have:=this (bz u) (by simp)
 rw[JP]at this;exact this (bz v) (by simp)
def EC {u v:Wd}(h:gC (bz u) (bz v)≠ba true):gC (bz u) (bz v)=ba false:=by
 obtain⟨b,hb⟩:=KD.mp (GQ u v);cases b with
 | false=>exact hb
 | true=>exact absurd hb h
structure GrOk (bs:Jn JI)(u:Wd)(k:Jx):Prop where
 mem:∀o,o∈eN bs u k↔Ord u.length o/\o.length=k/\ah bs u o=o4 bs u k
 least:∀o,Ord u.length o->o.length=k->gC (bz (ah bs u o)) (bz (o4 bs u k))=ba false
 ne:eN bs u k≠[]
 len:(o4 bs u k).length=k
def o5 {k:Jx}{o:Jn Jx}(h:o.length=k+1):∃o' p,o=o'++[p]/\o'.length=k:=by
 have hne:o≠[]:=λz=>by rw[z]at h; cases h
 exact#[o.dropLast,o.getLast hne,(Li hne).symm,by rw[L5]; omega]
def nw {bs:Jn JI}{u:Wd}:∀k,k<=u.length->GrOk bs u k
 | 0,_=>by
  refine#[λo=>?_,λo _ hl=>?_,Rr _ _,rfl]
  ·rw[eN,JD];exact#[λh=>by subst h; exact#[#[.nil,λp hp=>nomatch hp],rfl,rfl],λh=>L6 h.2.1]
  ·rw[L6 hl]; rfl
 | k+1,hk=>by
  have ih:=nw (bs:=bs) (u:=u) k ∅
  have lne:aA u.length (eN bs u k)≠[]:=by
   obtain⟨o,ho⟩:=Nr _ ih.ne;obtain⟨h1,h2,_⟩:=(ih.mem o).mp ho;obtain⟨p,hp,hpo⟩:=re h1 ∅
   exact OM (fw.mpr #[o,ho,p,hp,hpo,rfl])
  obtain⟨_,b2,b3⟩:=nv (ps:=(aA u.length (eN bs u k)).map (aU bs u)) (by simpa using lne)
  have ef:o4 bs u (k+1)=o4 bs u k++[ce ((aA u.length (eN bs u k)).map (aU bs u))]:=rfl;have eo:eN bs u (k+1)=(aA u.length (eN bs u k)).filter λo=>decide (aU bs u o=ce ((aA u.length (eN bs u k)).map (aU bs u))):=rfl
  generalize ce ((aA u.length (eN bs u k)).map (aU bs u))=best at b2 b3 ef eo;refine#[λo=>?_,λo hO hl=>?_,?_,by rw[ef,JC,ih.len]; rfl]
  ·rw[eo,Kz,ef];constructor
   ·rintro⟨h1,h2⟩;obtain⟨o,ho,p,hp,hpo,rfl⟩:=fw.mp h1;obtain⟨g1,g2,g3⟩:=(ih.mem o).mp ho;have h2:=Kt h2;rw[gH]at h2;exact#[gv.mpr #[g1,hp,hpo],by rw[JC,g2]; rfl,by rw[bH,g3,h2]]
   ·rintro⟨h1,h2,h3⟩;obtain⟨o,p,rfl,hl⟩:=o5 h2;obtain⟨g1,g2,g3⟩:=gv.mp h1;rw[bH]at h3;obtain⟨e1,e2⟩:=List.append_inj h3 (by rw[aE,ih.len,hl])
    refine#[fw.mpr #[o,(ih.mem o).mpr #[g1,hl,e1],p,g2,g3,rfl],Lg ?_];rw[gH];exact List.singleton_inj.mp e2
  ·obtain⟨o,p,rfl,hl'⟩:=o5 hl;clear hl;have hl:=hl';obtain⟨g1,g2,g3⟩:=gv.mp hO;refine EC λz=>?_
   rw[bH,ef]at z;have z:c7 ((ah bs u o++[cR bs u o p]).map gS) ((o4 bs u k++[best]).map gS)=ba true:=z;rw[Ke,Ke]at z
   by_cases e:ah bs u o=o4 bs u k
   ·rw[e,rc]at z;have:=EB (zO _) z;rw[b3 _ (JE.mpr #[o++[p],fw.mpr #[o,(ih.mem o).mpr #[g1,hl,e],p,g2,g3,rfl],gH])]at this;cases this
   ·have h1:=om (bz (o4 bs u k)) (bz (ah bs u o)) (jF _) (λh=>e (dQ h).symm) (ih.least o g1 hl)
    have h1:c7 ((o4 bs u k).map gS) ((ah bs u o).map gS)=ba true:=h1;have h2:=q9 (as:=[best].map gS) (bs:=[cR bs u o p].map gS) (by rw[Jp,Jp,aE,ih.len,hl]) h1
    have h3:=oh _ _ (by rw[<- Ke]; exact ko _) h2
    rw[z]at h3; cases h3
  ·obtain⟨o,ho,e⟩:=JE.mp b2;rw[eo];exact OM (Kz.mpr #[ho,Lg e])
abbrev aG (bs:Jn JI)(u:Wd):Wd:=o4 bs u u.length
def dz {bs:Jn JI}{u:Wd}:∃o,Ord u.length o/\o.length=u.length/\ah bs u o=aG bs u:=by
 have h:=nw (bs:=bs) (u:=u) u.length (JB _);obtain⟨o,ho⟩:=Nr _ h.ne;exact#[o,(h.mem o).mp ho]
def fA {bs:Jn JI}{u:Wd}{o:Jn Jx}{i:Jx}(hi:i < o.length):(ah bs u o).getD i (0,[])=((u.getD (o.getD i 0) (0,[])).1,(o.take i).map λj=>bO bs u (o.getD i 0) j):=by
 unfold ah;rw[JT,Jy,LS hi]; rfl
def rf {bs:Jn JI}{u:Wd}{o:Jn Jx}{i j:Jx}(hi:i < o.length)(hj:j < i):((ah bs u o).getD i (0,[])).2.getD j 0=bO bs u (o.getD i 0) (o.getD j 0):=by
 rw[fA hi];dsimp only;rw[JT,Jy,Nw hj,al (d:=0) (show j < o.length by omega)]; rfl
def zP {bs:Jn JI}{a:Jx}{u:Wd}{o:Jn Jx}{i j:Jx}(hb:GoodB bs)(hu:GoodW a bs.length u)(hO:Ord u.length o)(hi:i < o.length)(hj:j < o.length)(hij:i≠j):bO bs (ah bs u o) i j=bO bs u (o.getD i 0) (o.getD j 0):=by
 have gi:=al (d:=0) hi;have gj:=al (d:=0) hj;have li:=hO.lt _ (JG gi);have lj:=hO.lt _ (JG gj);have ne:o.getD i 0≠o.getD j 0:=λe=>by
  have h1:o[i]=o.getD i 0:=by simp[hi]
  have h2:o[j]=o.getD j 0:=by simp[hj]
  exact hij ((LJ hO.nd).mp (by rw[h1,h2,e]))
 by_cases h:j < i
 ·have:bO bs (ah bs u o) i j=((ah bs u o).getD i (0,[])).2.getD j 0:=by unfold bO; rw[JZ h]
  rw[this,rf hi h]
 ·have:bO bs (ah bs u o) i j=bs.getD (((ah bs u o).getD j (0,[])).2.getD i 0).toNat 0:=by unfold bO; rw[Kb h]
  rw[this,rf hj ∅]
  generalize o.getD i 0=x at *
  generalize o.getD j 0=y at *
  unfold bO
  by_cases h2:x < y
  ·rw[JZ h2,Kb ∅]
  ·rw[Kb h2,JZ ∅]
   have hp:=al (d:=(0,[])) li;have hw:y < (u.getD x (0,[])).2.length:=by rw[hu.len x _ hp]; omega
   obtain⟨w0,w1⟩:=hu.way x _ hp _ (JG (al (d:=0) hw));have:=hb.inv ((u.getD x (0,[])).2.getD y 0).toNat ∅
   rw[this]; omega
def bw {bs:Jn JI}{a:Jx}{u:Wd}{o p:Jn Jx}(hb:GoodB bs)(hu:GoodW a bs.length u)(hO:Ord u.length o)(hP:Ord o.length p):ah bs (ah bs u o) p=ah bs u (p.map λi=>o.getD i 0):=by
 refine LY (by rw[aE,aE,Jp]) λk h1 h2=>?_
 rw[aE]at h1;have e1:=fA (bs:=bs) (u:=ah bs u o) (o:=p) h1;have e2:=fA (bs:=bs) (u:=u) (o:=p.map λi=>o.getD i 0) (i:=k) (by rw[Jp]; exact h1)
 have hk:p.getD k 0 < o.length:=hP.lt _ (JG (al (d:=0) h1));have ek:(p.map λi=>o.getD i 0).getD k 0=o.getD (p.getD k 0) 0:=by
  rw[JT,Jy,al (d:=0) h1]; rfl
 rw[ek]at e2;rw[fA hk]at e1;have f:∀(v:Wd) (hv:k < v.length),v[k]=v.getD k (0,[]):=λv hv=>by simp[hv]
 rw[f _ (by rw[aE]; exact h1),f _ h2,e1,e2]
 congr 1;rw[<- N6,Lu];refine KG λj hj=>?_
 obtain⟨m,hm,rfl⟩:=LM.mp hj;rw[Kn]at hm;rw[M9];have hpm:p[m]=p.getD m 0:=by simp[show m < p.length by omega]
 rw[hpm];refine zP hb hu hO hk (hP.lt _ (JG (al (d:=0) (show m < p.length by omega)))) λe=>?_
 have h3:p[k]=p.getD k 0:=by simp[h1]
 have:=(LJ hP.nd).mp (h3.trans (e.trans hpm.symm));omega
def dS {n:Jx}{o:Jn Jx}(h:Ord n o)(hl:o.length=n){p:Jx}(hp:p < n):p∈o:=by
 by_cases z:p∈o
 ·exact z
 ·have:=(gv (n:=n) (o:=o) (p:=p)).mpr #[h,hp,z];have h1:=gp (o++[p]) (JW n) this.nd λq hq=>JQ.mpr (this.lt q hq)
  rw[JC,J7,K1]at h1;omega
def gw {n:Jx}{o p:Jn Jx}(h:Ord n o)(hp:Ord o.length p):Ord n (p.map λi=>o.getD i 0):=by
 have g:∀i,i < o.length->o[i]?=ba (o.getD i 0):=λi hi=>al hi
 refine#[?_,λq hq=>?_]
 ·rw[Mu,MD];refine hp.nd.imp_of_mem λ{a b} ha hb hab e=>hab ?_
  have h1:=hp.lt a ha;have h2:=hp.lt b hb;have e1:o[a]=o.getD a 0:=by simp[h1]
  have e2:o[b]=o.getD b 0:=by simp[h2]
  exact(LJ h.nd).mp (by rw[e1,e2,e])
 ·obtain⟨i,hi,rfl⟩:=JE.mp hq;exact h.lt _ (JG (g i (hp.lt i hi)))
def iy {bs:Jn JI}{a:Jx}{u:Wd}{o:Jn Jx}(hb:GoodB bs)(hu:GoodW a bs.length u)(hO:Ord u.length o)(hl:o.length=u.length):aG bs (ah bs u o)=aG bs u:=by
 have pl:(ah bs u o).length=u.length:=by rw[aE,hl]
 obtain⟨p,p1,p2,p3⟩:=dz (bs:=bs) (u:=ah bs u o);obtain⟨q,q1,q2,q3⟩:=dz (bs:=bs) (u:=u);rw[pl]at p1 p2;have m1:=λo h1 h2=>(nw (bs:=bs) (u:=u) _ (JB _)).least o h1 h2
 have m2:=λo2 h1 h2=>(nw (bs:=bs) (u:=ah bs u o) _ (JB _)).least o2 h1 h2
 refine dQ (uR (jF _) ?_ ?_)
 ·rw[<- p3,bw hb hu hO (by rw[hl]; exact p1)]
  exact m1 _ (gw hO (by rw[hl]; exact p1)) (by rw[Jp,p2])
 ·have e:q=(q.map λx=>o.idxOf x).map λi=>o.getD i 0:=by
   rw[Lu]
   conv=>lhs; rw[<- Ta q]
   refine KG λx hx=>?_
   have hm:=dS hO hl (q1.lt x hx);have hlt:=Mk hm;show x=o.getD (o.idxOf x) 0;rw[JT,Jz hlt,Mv]; rfl
  have hQ:Ord o.length (q.map λx=>o.idxOf x):=by
   refine#[?_,λi hi=>?_]
   ·rw[Mu,MD];refine q1.nd.imp_of_mem λ{x y} hx hy hxy e=>hxy ?_
    have h1:=Mk (dS hO hl (q1.lt x hx));have h2:=Mk (dS hO hl (q1.lt y hy));have e1:=Mv h1;have e2:=Mv h2;rw[<- e1,<- e2];congr 1
   ·obtain⟨x,hx,rfl⟩:=JE.mp hi;exact Mk (dS hO hl (q1.lt x hx))
  rw[<- q3,e,<- bw hb hu hO hQ];exact m2 _ (by rw[pl,<- hl]; exact hQ) (by rw[Jp,pl,q2])
section
variable{M:JV->FF}{Z:Fm}{S:aa}
def ED {α:Type}{elt a b:E}{cs:Es}{cap:Jn (Jw Jx)}{Q:QW}(L:Jn α)(f g:α->W)(p:α->J6)(h:α->W)(R:Fm)(oa:dD a=true)(ob:dD b=true)(oe:dD elt=true)(oc:oK cs=true)(hc:eZ cap Z=gV::gV::gV::R)(hl:L.length<=1000000)
  (he:wE M a Z S λq=>wE M b Z q.2 λq2=>∃r t,q.1=.ref r/\q2.1=.ref t/\q2.2[r]?=ba (.lst (L.map f))/\q2.2[t]?=ba (.lst (L.map g))/\Ka S q2.2)
  (hstep:∀x∈L,∀S',Ka S S'->gR M elt cs (gV::ba (f x)::ba (g x)::R) S' (λy _ S2=>p x=true/\y=h x/\Ka S' S2) (λ_ S2=>p x=false/\Ka S' S2))
  (k:∀S',Ka S S'->Q (.ref S'.length,S'++[.lst ((L.filter p).map h)])):Wp (aB M (.comp elt (.tp [1,2]) (.zip #v[a,b]) cs cap) Z S) Q:=by
 obtain⟨w,S0,e1,h1⟩:=bB oa he;obtain⟨w2,S1,e2,r,t,rfl,rfl,hr,ht,k1⟩:=bB ob h1;have hr:=hr;have hz:lX (L.map f) (L.map g)=L.map λx=>W.tup [f x,g x]:=by
  unfold lX;rw[List.zipWith_map,List.zipWith_self]
 have hi:jS M (.zip #v[a,b]) Z S=ba (.zl r t,S1):=by
  dsimp only at hr ht;simp only[jS,cY,dF,iW,BE,e1,e2,EU,aw hr,aw ht]
 dsimp only at hr ht k1;rw[sD];refine#[_,hi,(L.map λx=>W.tup [f x,g x]).length,by simp only[MI.len,aw hr,aw ht,hz],?_]
 refine(cN (xs:=L.map λx=>W.tup [f x,g x]) (Q:=λq=>q.1.length<=sizeLine/\Q (.ref q.2.length,q.2++[.lst q.1])) (λi ys Z' S'=>(∃a1 a2,Z'=gV::a1::a2::R)/\ys=((L.take i).filter p).map h/\Ka S1 S') (λi ys Z' S' h=>by simp only[MI.at,aw (h.2.2.get _ _ hr),aw (h.2.2.get _ _ ht),hz]) (λi w ys Z' S' hw h=>?_) (λys Z' S' h=>?_) _ 0 [] _ S1 ∅ #[#[gV,gV,hc],rfl,.refl]).mono λq hq=>by simpa using hq
 ·obtain⟨⟨a1,a2,rfl⟩,rfl,k2⟩:=h;rw[Jy,Js]at hw;obtain⟨x,hx,rfl⟩:=hw;refine Im.mpr #[_,rfl,?_];refine(yX oc (hstep x (JG hx) S' (k1.trans k2))).mono λc hc=>#[λz=>(aW elt oe (hc.1 z)).mono λy hy=>#[#[_,_,rfl],?_,k2.trans hy.2.2],λz=>#[#[_,_,rfl],?_,k2.trans (hc.2 z).2]]
  ·rw[J2,hx,LI,show(NC (ba x)).filter p=[x]from Ma hy.1,Ke,hy.2.1]; rfl
  ·rw[J2,hx,LI,show(NC (ba x)).filter p=[]from Mb (by rw[(hc.2 z).1]; exact J1),Le]
 ·obtain⟨_,rfl,k2⟩:=h;dsimp only;rw[show(L.map λx=>W.tup [f x,g x]).length=L.length from Jp ..,Kc]
  refine#[oX ?_,k S' (k1.trans k2)];rw[Jp];exact JY (Ll _ _) hl
end
def EE (L:Jn Pt):W.ts (L.map bf)=ba (L.map gS):=by rw[<- sE]; exact T.ws_ts _
abbrev cU:Ss:=
 #v[.set 2 (.lst .nil),.set 3 (.lst #v[.tup .nil]),.whl (.cmp .lt (.bi .len #v[.v 2]) (.bi .len #v[.v 1])) #v[.set 4 (.own "longer_orders" 2 #v[.v 3,.bi .len #v[.v 1]]),.set 5 (.comp (.own "point_over" 4 #v[.v 2,.v 3,.sl (.v 1) .no (.yes (.neg (.c (.int 1)))),.ix (.v 1) (.neg (.c (.int 1)))]) (.nm 1) (.seq (.v 4)) .nil [gV,gV,ba 0,ba 1]),.set 6 (.bi .min #v[.v 5]),.ex (.me .append (.v 2) #v[.v 6]),.set 3 (.comp (.v 1) (.tp [1,2]) (.zip #v[.v 4,.v 5]) #v[.cmp .eq (.v 2) (.v 3)] [gV,gV,gV,ba 6])],.ret (.bi .tuple #v[.v 2])]
section
variable{defs:Jn (JV×Df)}{fuel d:Jx}{S:aa}{Q:QW}
def EF {l:Jx}{ps:Jn Pt}(h:S[l]?=ba (.lst (ps.map bf)))(hne:ps≠[])(q:Q (bf (ce ps),S)):wO (Bi.min.fn [.ref l] S) Q:=by
 refine ac ?_ q;simp only[Bi.fn,xR,aw h,EE];rw[JZ #[by have:=jA ps; unfold bT; omega,nu _],Jy,(nv hne).1]; rfl
def uS {bs:Jn JI}{u:Wd}:∀k,(eN bs u k).length<=u.length ^ k
 | 0=>JB _
 | k+1=>by
  have h1:=Ll (λo=>decide (aU bs u o=ce ((aA u.length (eN bs u k)).map (aU bs u)))) (aA u.length (eN bs u k))
  have h2:=ft (n:=u.length) (eN bs u k);have h3:=ME u.length (uS (bs:=bs) (u:=u) k);rw[Pn];exact JY h1 (JY h2 h3)
def o7 (hfu:20 < fuel)(P:Parts defs)(hlo:Is defs ("longer_orders" : JV) 2 4 aO)(hg:Is defs ("least_form" : JV) 2 7 cU){m0 b0:W}{ns:Jn JV}{bs:Jn JI}{a:Jx}{u:Wd}(hb:GoodB bs)(hnl:ns.length=bs.length)(hu:GoodW a bs.length u)(hu6:u.length<=6)
  (kk:∀S',Ka S S'->Q (au (aG bs u),S')) :
  wO (aP (am defs fuel (d+3)) "least_form" 2 [.tup [m0,.tup (JU aN ns bs),b0],au u] S) Q:=by
 refine ay hg rfl rfl λQ' hR=>?_
 replace kk:∀S',Ka S S'->Q' (.rt (au (aG bs u)),S'):=λS' a=>hR _ _ (kk S' a)
 clear hR;show wZ _ _ cU [ba (.tup [m0,.tup (JU aN ns bs),b0]),ba (au u),gV,gV,gV,gV,gV] S Q';generalize hR0:W.tup [m0,.tup (JU aN ns bs),b0]=R;have ul:(u.map bf).length=u.length:=Jp ..;dsimp only[cU];refine st ?_;dsimp only[wS,wE,wA,JK];refine st ?_;dsimp only[wS,wE,wA,JK];nofun
 refine yW (λm Z S'=>∃(k q:Jx) (a4 a5 a6:Jw W),k+m=u.length/\Z=[ba R,ba (au u),ba (.ref S.length),ba (.ref q),a4,a5,a6]/\S'[S.length]?=ba (.lst ((o4 bs u k).map bf))/\S'[q]?=ba (.lst (aR (eN bs u k)))/\Ka S S') u.length rfl rfl ∅ #[0,(S++[O.lst []]).length,gV,gV,gV,∅,rfl,ak ag,ag,Ka.push.trans .push] ?_
 rintro m Z S1 ⟨k,q,a4,a5,a6,hkm,rfl,e1,e2,k1⟩;have ok:=nw (bs:=bs) (u:=u) k ∅
 have hl1:=bP e1;dsimp only[wT,wE,wA,wV,wG];refine gm e1 (bp ?_);rw[ul,Jp,ok.len];dsimp only[v4,aH,wB];refine#[λh=>?_,λh=>?_]
 ·have h:(k:JI) < u.length:=Kt h;have hkn:k < u.length:=∅
  refine#[m - 1,∅,λQ2 hn _=>?_]
  clear hK kk;have hgl:(eN bs u k).length<=7776:=JY (uS k) (JY (LU hu6 k) (L4 (n:=6) #v[] (show k<=5 by omega)))
  have hmul:(eN bs u k).length*u.length<=46656:=MW hgl hu6;have hll:(aA u.length (eN bs u k)).length<=46656:=JY (ft _) hmul;refine st ?_;left;refine bp ?_;rw[ul];refine lG (d:=d+1) hlo e2 ∅ (λo ho=>by have:=((ok.mem o).mp ho).2.1; omega) ∅ λl S2 e3 hl k2=>?_
  have hl:S1.length<=l:=hl;have lne:aA u.length (eN bs u k)≠[]:=by
   obtain⟨o,ho⟩:=Nr _ ok.ne;obtain⟨h1,h2,_⟩:=(ok.mem o).mp ho;obtain⟨p,hp,hpo⟩:=re h1 ∅
   exact OM (fw.mpr #[o,ho,p,hp,hpo,rfl])
  refine st ?_;dsimp only[wS,wE,JK];refine oZ (aA u.length (eN bs u k)) (λo=>.tup (aq o)) (λ_=>true) (λo=>bf (aU bs u o)) [ba R,ba (au u)] rfl rfl rfl rfl ∅ #[l,rfl,e3,.refl] (λo ho S3 k3=>?_) λS3 k3=>?_
  ·obtain⟨o,ho',p,hp,hpo,rfl⟩:=fw.mp ho;obtain⟨⟨o1,o2⟩,o3,_⟩:=(ok.mem o).mp ho';dsimp only[gR,wC,wE,wA,wP,wV,wG,wN];refine#[λ_=>?_,λz=>by cases z]
   refine ac (show rQ (.tup (aq (o++[p]))) gV (ba (-1)) S3=ba (.tup (aq o),S3) by simp only[rQ,qV,nr,N9]) ?_
   dsimp only;refine ac (uQ (by simp)) ?_
   dsimp only;subst hR0;rw[P4,gH];exact sN (d:=d) P hb hnl hu (λx hx=>#[o2 x hx,λe=>hpo (e ▸ hx)]) hp ∅ λS4 k4=>#[rfl,rfl,k4]
  rw[lI];have em:(aA u.length (eN bs u k)).map (λo=>bf (aU bs u o))=((aA u.length (eN bs u k)).map (aU bs u)).map bf:=by rw[Lu]; rfl
  rw[em];have e4:(S3++[O.lst (((aA u.length (eN bs u k)).map (aU bs u)).map bf)])[S3.length]?=ba (.lst (((aA u.length (eN bs u k)).map (aU bs u)).map bf)):=ag;have e3':=ak (u:=O.lst (((aA u.length (eN bs u k)).map (aU bs u)).map bf)) (k3.get _ _ e3);have e1':=ak (u:=O.lst (((aA u.length (eN bs u k)).map (aU bs u)).map bf)) (k3.get _ _ (k2.get _ _ e1));have ls3:S.length < S3.length:=J4 hl1 (JY k2.len k3.len);have k4:Ka S (S3++[O.lst (((aA u.length (eN bs u k)).map (aU bs u)).map bf)]):=((k1.trans k2).trans k3).trans .push;generalize S3++[O.lst (((aA u.length (eN bs u k)).map (aU bs u)).map bf)]=S4 at e4 e3' e1' k4;generalize hl5:S3.length=l5 at e4 ls3;clear e2 e3 k3 k2 hl5;refine st ?_;left;refine EF e4 (by simpa using lne) ?_
  refine st ?_;left;refine#[eg e1',Eu e1' (by rw[Jp,ok.len]; omega) ?_]
  have s1:=bo (o':=O.lst ((o4 bs u k).map bf++[bf (ce ((aA u.length (eN bs u k)).map (aU bs u)))])) e1';have s3:(S4.set S.length (O.lst ((o4 bs u k).map bf++[bf (ce ((aA u.length (eN bs u k)).map (aU bs u)))])))[l]?=ba (.lst (aR (aA u.length (eN bs u k)))):=by rw[bj ∅]; exact e3'
  have s4:(S4.set S.length (O.lst ((o4 bs u k).map bf++[bf (ce ((aA u.length (eN bs u k)).map (aU bs u)))])))[l5]?=ba (.lst (((aA u.length (eN bs u k)).map (aU bs u)).map bf)):=by rw[bj ∅]; exact e4
  have k5:=k4.late (o:=O.lst ((o4 bs u k).map bf++[bf (ce ((aA u.length (eN bs u k)).map (aU bs u)))])) (JB S.length);generalize S4.set S.length (O.lst ((o4 bs u k).map bf++[bf (ce ((aA u.length (eN bs u k)).map (aU bs u)))]))=S5 at s1 s3 s4 k5;refine st ?_;dsimp only[wS,wE,JK];refine ED (aA u.length (eN bs u k)) (λo=>.tup (aq o)) (λo=>bf (aU bs u o)) (λo=>decide (aU bs u o=ce ((aA u.length (eN bs u k)).map (aU bs u)))) (λo=>.tup (aq o)) [ba (bf (ce ((aA u.length (eN bs u k)).map (aU bs u))))] rfl rfl rfl rfl rfl ∅ #[l,l5,rfl,rfl,s3,by rw[em]; exact s4,.refl] (λo ho S6 k6=>?_) λS6 k6=>?_
  ·dsimp only[gR,wC,wT,wE,wV,wG];refine ac CL ?_;dsimp only[wB];exact#[λz=>#[z,rfl,.refl],λz=>#[z,.refl]]
  ·refine b6 (hn _ _ #[k+1,S6.length,_,_,_,∅,rfl,?_,ag,(k5.trans k6).trans .push])
   have:=ak (u:=O.lst (((aA u.length (eN bs u k)).filter λo=>decide (aU bs u o=ce ((aA u.length (eN bs u k)).map (aU bs u)))).map λo=>W.tup (aq o))) (k6.get _ _ s1)
   rw[this,show o4 bs u (k+1)=o4 bs u k++[ce ((aA u.length (eN bs u k)).map (aU bs u))]from rfl,Ke]; rfl
 ·have h:¬ (k:JI) < u.length:=Ms h;obtain rfl:k=u.length:=∅
  refine hK _ _ (st ?_);left;exact fj e1 (kk _ k1)
end
abbrev cC:Ss:=
 #v[.set 4 (.tup #v[.ix (.ix (.v 0) (.v 1)) (.c (.int 0)),.tup .nil]),.set 5 (.tup #v[.ix (.ix (.v 0) (.v 2)) (.c (.int 0)),.tup #v[.ix (.ix (.ix (.v 0) (.v 2)) (.c (.int 1))) (.v 1)]]),.ret (.tup #v[.v 4,.v 5,.tup #v[.ix (.ix (.v 0) (.v 3)) (.c (.int 0)),.tup #v[.ix (.ix (.ix (.v 0) (.v 3)) (.c (.int 1))) (.v 1),.ix (.ix (.ix (.v 0) (.v 3)) (.c (.int 1))) (.v 2)]]])]
abbrev cV (u:Wd)(i j k:Jx):Wd:=[((u.getD i (0,[])).1,[]),((u.getD j (0,[])).1,[(u.getD j (0,[])).2.getD i 0]),((u.getD k (0,[])).1,[(u.getD k (0,[])).2.getD i 0,(u.getD k (0,[])).2.getD j 0])]
def iA {bs:Jn JI}{u:Wd}{i j k:Jx}(h1:i < j)(h2:j < k):ah bs u [i,j,k]=cV u i j k:=by
 show[((u.getD i (0,[])).1,[]),((u.getD j (0,[])).1,[bO bs u j i]),((u.getD k (0,[])).1,[bO bs u k i,bO bs u k j])]=_;unfold bO cV;rw[JZ h1,JZ h2,JZ (Pf h1 h2)]
section
variable{defs:Jn (JV×Df)}{fuel d:Jx}{S:aa}{Q:QW}
def Cg (hg:Is defs ("three_at" : JV) 4 6 cC){a n:Jx}{u:Wd}{i j k:Jx}(hu:GoodW a n u)(h1:i < j)(h2:j < k)(h3:k < u.length)(q:Q (au (cV u i j k),S)) :
  wO (aP (am defs fuel (d+1)) "three_at" 4 [au u,.int i,.int j,.int k] S) Q:=by
 refine ay hg rfl rfl λQ' hR=>?_
 replace q:=hR _ _ q;clear hR;show wZ _ _ cC [ba (au u),ba (.int i),ba (.int j),ba (.int k),gV,gV] S Q';have hi:i < u.length:=∅
 have hj:j < u.length:=∅
 have lj:i < (u.getD j (0,[])).2.length:=by rw[hu.len j _ (al (d:=(0,[])) hj)]; exact h1
 have lk:j < (u.getD k (0,[])).2.length:=by rw[hu.len k _ (al (d:=(0,[])) h3)]; exact h2
 have lki:i < (u.getD k (0,[])).2.length:=∅
 have w:∀ {p m:Jx},m < (u.getD p (0,[])).2.length->((u.getD p (0,[])).2.map W.int)[((m:Jx):JI).toNat]?=ba (.int ((u.getD p (0,[])).2.getD m 0)):=λ{p m} h=>by
  rw[JO,Jy,al (d:=0) h]; rfl
 dsimp only[cC];refine st ?_;left;refine aj (JR i) (eJ hi) (aj #v[] rfl ?_)
 refine st ?_;left;refine aj (JR j) (eJ hj) (aj #v[] rfl (aj (JR j) (eJ hj) (aj #v[] rfl (aj (JR i) (w lj) ?_))))
 refine st ?_;left;exact aj (JR k) (eJ h3) (aj #v[] rfl (aj (JR k) (eJ h3) (aj #v[] rfl (aj (JR i) (w lki) (aj (JR k) (eJ h3) (aj #v[] rfl (aj (JR j) (w lk) q)))))))
end
abbrev sQ (U:Jn (T×W))(u:Wd)(i j k:Jx):J6:=(bN U (bz (cV u i j k))).isSome
structure HasD (U:Jn (T×W))(L:Jn Wd):Prop where
 iff:∀t,t∈U.map (·.1)↔t∈L.map bz
 len:U.length<=L.length
def zQ {U:Jn (T×W)}{t:T}:(bN U t).isSome=true↔t∈U.map (·.1):=by
 constructor
 ·intro h;obtain⟨v,hv⟩:=KD.mp h;exact JE.mpr #[_,lA hv,rfl]
 ·intro h;obtain⟨p,hp,rfl⟩:=JE.mp h;obtain⟨v,hv⟩:=uL hp;rw[hv]; rfl
def HasD.get {U:Jn (T×W)}{L:Jn Wd}(h:HasD U L)(t:T):(bN U t).isSome=decide (t∈L.map bz):=by
 rw[Py,zQ,h.iff,JL]
def HasD.nil:HasD [] []:=#[λt=>by simp,JB _]
def HasD.put {U:Jn (T×W)}{L:Jn Wd}{f:Wd}{v:W}(h:HasD U L):HasD (d7 U (bz f) v) (L++[f]):=by
 refine#[λt=>?_,?_]
 ·rw[fq,Ke,Kd,<- h.iff t]
  by_cases hk:bz f∈U.map (·.1)
  ·rw[JZ hk];constructor
   ·exact .inl
   ·rintro(z|z)
    ·exact z
    ·rw[JD.mp z]; exact hk
  ·rw[Kb hk,Kd]; rfl
 ·have:=cD U (bz f) v;have:=h.len;rw[JC,K1]; omega
abbrev fB:Ss:=
 #v[.set 1 .dnew,.loop (.nm 2) (.seq (.ix (.v 0) (.c (.int 2)))) #v[.loop (.nm 3) (.seq (.own "_law_turns" 0 .nil)) #v[.put (.v 1) (.own "_law_part" 3 #v[.v 0,.v 2,.v 3]) (.c (.bl true))]],.ret (.v 1)]
abbrev cG (bs:Jn JI)(gs:Jn Wd):Jn Wd:=gs.flatMap λg=>ap.map (ah bs g)
def lJ (bs:Jn JI):∀gs:Jn Wd,(cG bs gs).length=6*gs.length
 | []=>rfl
 | g::gs=>by
  have:=lJ bs gs;unfold cG at this ⊢;rw[K7,JC,this,J9,Jp,show ap.length=6 from rfl]; omega
section
variable{defs:Jn (JV×Df)}{fuel d:Jx}{S:aa}{Q:QW}
def GR (G:Gen defs)(hg:Is defs ("_law_bad" : JV) 1 4 fB){m0:W}{ns:Jn JV}{bs:Jn JI}{a:Jx}{gs:Jn Wd}(hb:GoodB bs)(hnl:ns.length=bs.length)(hgs:∀g∈gs,GoodW a bs.length g/\g.length=3)(h64:gs.length<=100)
  (k:∀(q:Jx) (U:Jn (T×W)) (S':aa),S'[q]?=ba (.dic U)->HasD U (cG bs gs)->S.length<=q->Ka S S'->Q (.ref q,S')) :
  wO (aP (am defs fuel (d+3)) "_law_bad" 1 [.tup [m0,.tup (JU aN ns bs),.tup (gs.map au)]] S) Q:=by
 refine ay hg rfl rfl λQ' hR=>?_
 replace k:∀(q:Jx) (U:Jn (T×W)) (S':aa),S'[q]?=ba (.dic U)->HasD U (cG bs gs)->S.length<=q->Ka S S'->Q' (.rt (.ref q),S'):=λa b c e f g h=>hR _ _ (k a b c e f g h)
 clear hR;show wZ _ _ fB [ba (.tup [m0,.tup (JU aN ns bs),.tup (gs.map au)]),gV,gV,gV] S Q';generalize hR0:W.tup [m0,.tup (JU aN ns bs),.tup (gs.map au)]=R;dsimp only[fB];refine st ?_;dsimp only[wS,wE,JK];nofun
 refine for_tup (gs.map au) (λi Z S'=>(∃a2 a3,Z=[ba R,ba (.ref S.length),a2,a3])/\(∃U,S'[S.length]?=ba (.dic U)/\HasD U (cG bs (gs.take i)))/\Ka S S') rfl rfl ?_ ?_ ?_
 ·dsimp only[wE,wV,wG];subst hR0;exact aj #v[] rfl #[rfl,#[_,_,rfl],#[[],ag,.nil],.push]
 ·rintro i w Z S1 hw ⟨⟨a2,a3,rfl⟩,⟨U,e1,h1⟩,k1⟩;clear hK k;rw[Jy,Js]at hw;obtain⟨g,hg1,rfl⟩:=hw;obtain⟨gg,g3⟩:=hgs g (JG hg1);have hi:i < gs.length:=(JF.mp hg1).1;refine ac (show eS (.nm 2) (au g) [ba R,ba (.ref S.length),a2,a3] S1=ba ([ba R,ba (.ref S.length),ba (au g),a3],S1)from rfl) ?_
  intro Q2 hn _;nofun
  refine gq rfl rfl ?_;dsimp only[wE,wA];refine kn (d:=d+1) G ?_;refine#[S1.length,ap.map (λt=>W.tup (aq t)),(λj Z S'=>(∃a3,Z=[ba R,ba (.ref S.length),ba (au g),a3])/\(∃U,S'[S.length]?=ba (.dic U)/\HasD U (cG bs (gs.take i)++(ap.take j).map (ah bs g)))/\S'[S1.length]?=ba (.lst (ap.map λt=>W.tup (aq t)))/\Ka S S'),rfl,#[#[_,rfl],#[U,ak e1,by rw[P3,QR,Le]; exact h1],ag,k1.trans .push],λj Z S' h=>h.2.2.1,?_,?_]
  ·rintro j w Z S2 hw ⟨⟨a3,rfl⟩,⟨U2,e2,h2⟩,el,k2⟩;clear hK hn;rw[Jy,Js]at hw;obtain⟨t,ht,rfl⟩:=hw;have htm:=JG ht;have tk:t.length<=3/\t.Nodup/\∀p∈t,p < 3:=by
    have:∀t∈ap,t.length<=3/\t.Nodup/\∀p∈t,p < 3:=by decide
    exact this t htm
   refine ac (show eS (.nm 3) (.tup (aq t)) [ba R,ba (.ref S.length),ba (au g),a3] S2=ba ([ba R,ba (.ref S.length),ba (au g),ba (.tup (aq t))],S2)from rfl) ?_
   intro Q3 hn3 _;refine st ?_;left;subst hR0;refine zm (d:=d) G hb hnl gg (λp hp=>by have:=tk.2.2 p hp; omega) tk.2.1 ∅ λS3 k3=>?_
   have e3:=k3.get _ _ e2;have hlt:U2.length < sizeLine:=by
    have b1:=h2.len;have b2:=lJ bs (gs.take i);rw[JC,b2,Jp,Kn,Kn,show ap.length=6 from rfl]at b1
    rw[Ky]; omega
   refine ac (uK e3 hlt) (b6 (hn3 _ _ #[#[_,rfl],#[_,bo e3,?_],?_,(k2.trans k3).late (JB _)]))
   ·rw[J2,ht,Ke,<- LQ];exact h2.put
   ·rw[bj (by have:=k1.len; have:=bP e1; omega)]; exact k3.get _ _ el
  ·rintro Z S2 ⟨⟨a3,rfl⟩,⟨U2,e2,h2⟩,el,k2⟩;rw[Jp,Kc]at h2;refine hK _ _ (b6 (hn _ _ #[#[_,_,rfl],#[U2,e2,?_],k2]));unfold cG at h2 ⊢;rw[J2,hg1,Mh]
   simpa using h2
 ·rintro Z S1 ⟨⟨a2,a3,rfl⟩,⟨U,e1,h1⟩,k1⟩;rw[Jp,Kc]at h1;exact hK _ _ (st (k _ U S1 e1 h1 (JB _) k1))
end
abbrev bG:Ss:=
 #v[.set 1 (.lst #v[.tup .nil]),.whl (.cmp .lt (.bi .len #v[.ix (.v 1) (.c (.int 0))]) (.c (.int 3))) #v[.set 1 (.own "longer_orders" 2 #v[.v 1,.c (.int 3)])],.set 2 .dnew,.loop (.nm 3) (.seq (.ix (.v 0) (.c (.int 2)))) #v[.loop (.nm 4) (.seq (.v 1)) #v[.put (.v 2) (.own "part" 3 #v[.v 0,.v 3,.v 4]) (.c (.bl true))]],.ret (.v 2)]
abbrev wp:Jx->Jn (Jn Jx)
 | 0=>[[]]
 | i+1=>aA 3 (wp i)
def wq:wp 3=ap:=by decide
def EG:∀i,i<=3->(∃o,(wp i)[0]?=ba o/\o.length=i)/\(wp i).length<=6/\∀o∈wp i,o.length<=3:=λi hi=>by
 rcases(show i=0\/i=1\/i=2\/i=3 by omega)with rfl|rfl|rfl|rfl
 ·exact#[#[[],rfl,rfl],#v[],#v[]]
 ·exact#[#[[0],rfl,rfl],#v[],#v[]]
 ·exact#[#[[0,1],rfl,rfl],#v[],#v[]]
 ·exact#[#[[0,1,2],rfl,rfl],#v[],#v[]]
section
variable{defs:Jn (JV×Df)}{fuel d:Jx}{S:aa}{Q:QW}
def zR (hfu:20 < fuel)(P:Parts defs)(hp:Is defs ("part" : JV) 3 3 jD)(hl:Is defs ("longer_orders" : JV) 2 4 aO)(hg:Is defs ("barred_threes" : JV) 1 5 bG){m0:W}{ns:Jn JV}{bs:Jn JI}{a:Jx}{gs:Jn Wd}(hb:GoodB bs)(hnl:ns.length=bs.length)(hgs:∀g∈gs,GoodW a bs.length g/\g.length=3)(h64:gs.length<=100)
  (k:∀(q:Jx) (U:Jn (T×W)) (S':aa),S'[q]?=ba (.dic U)->HasD U (cG bs gs)->S.length<=q->Ka S S'->Q (.ref q,S')) :
  wO (aP (am defs fuel (d+4)) "barred_threes" 1 [.tup [m0,.tup (JU aN ns bs),.tup (gs.map au)]] S) Q:=by
 refine ay hg rfl rfl λQ' hR=>?_
 replace k:∀(q:Jx) (U:Jn (T×W)) (S':aa),S'[q]?=ba (.dic U)->HasD U (cG bs gs)->S.length<=q->Ka S S'->Q' (.rt (.ref q),S'):=λa b c e f g h=>hR _ _ (k a b c e f g h)
 clear hR;show wZ _ _ bG [ba (.tup [m0,.tup (JU aN ns bs),.tup (gs.map au)]),gV,gV,gV,gV] S Q';generalize hR0:W.tup [m0,.tup (JU aN ns bs),.tup (gs.map au)]=R;dsimp only[bG];refine st ?_;dsimp only[wS,wE,wA,JK];nofun
 refine yW (λm Z S'=>∃(i q:Jx),i+m=3/\Z=[ba R,ba (.ref q),gV,gV,gV]/\S'[q]?=ba (.lst (aR (wp i)))/\S.length<=q/\Ka S S') 3 rfl rfl ∅ #[0,S.length,rfl,rfl,ag,JB _,.push] ?_
 rintro m Z S1 ⟨i,q,him,rfl,e1,hq,k1⟩;obtain⟨⟨o,ho,hol⟩,l6,l3⟩:=EG i ∅
 dsimp only[wT,wE,wA,wV,wG];refine fQ (w:=.tup (aq o)) e1 #v[] (by unfold aR; rw[Jy,show((0:JI).toNat)=0 from rfl,ho]; rfl) (bp ?_)
 rw[show(aq o).length=o.length from Jp ..,hol]
 dsimp only[v4,aH,wB];refine#[λh=>?_,λh=>?_]
 ·have h:(i:JI) < 3:=Kt h;refine#[m - 1,∅,λQ2 hn _=>?_]
  clear hK k;refine st ?_;left;refine lG (n:=3) (d:=d+2) hl e1 #v[] (λo ho=>by have:=l3 o ho; omega) ∅ λq2 S2 e2 hq2 k2=>b6 (hn _ _ #[i+1,q2,∅,rfl,e2,?_,k1.trans k2])
  exact JY k1.len hq2
 ·have h:¬ (i:JI) < 3:=Ms h;obtain rfl:i=3:=∅
  rw[wq]at e1;refine hK _ _ ?_;clear hK K l6 l3 ho hol h him;refine st ?_;dsimp only[wS,wE,JK];nofun
  have hq1:=bP e1;refine for_tup (gs.map au) (λi Z S'=>(∃a3 a4,Z=[ba R,ba (.ref q),ba (.ref S1.length),a3,a4])/\(∃U,S'[S1.length]?=ba (.dic U)/\HasD U (cG bs (gs.take i)))/\S'[q]?=ba (.lst (aR ap))/\Ka S S') rfl rfl ?_ ?_ ?_
  ·dsimp only[wE,wV,wG];subst hR0;exact aj #v[] rfl #[rfl,#[_,_,rfl],#[[],ag,.nil],ak e1,k1.trans .push]
  ·rintro i w Z S2 hw ⟨⟨a3,a4,rfl⟩,⟨U,e2,h2⟩,el2,k2⟩;clear hK k;rw[Jy,Js]at hw;obtain⟨g,hg1,rfl⟩:=hw;obtain⟨gg,g3⟩:=hgs g (JG hg1);have hi:i < gs.length:=(JF.mp hg1).1;refine ac (show eS (.nm 3) (au g) [ba R,ba (.ref q),ba (.ref S1.length),a3,a4] S2=ba ([ba R,ba (.ref q),ba (.ref S1.length),ba (au g),a4],S2)from rfl) ?_
   intro Q2 hn _;nofun
   refine km q (aR ap) (λj Z S'=>(∃a4,Z=[ba R,ba (.ref q),ba (.ref S1.length),ba (au g),a4])/\(∃U,S'[S1.length]?=ba (.dic U)/\HasD U (cG bs (gs.take i)++(ap.take j).map (ah bs g)))/\S'[q]?=ba (.lst (aR ap))/\Ka S S') rfl rfl #[rfl,#[_,rfl],#[U,e2,by rw[P3,QR,Le]; exact h2],el2,k2] (λj Z S' h=>h.2.2.1) ?_ ?_
   ·rintro j w Z S3 hw ⟨⟨a4,rfl⟩,⟨U3,e3,h3⟩,el3,k3⟩;clear hK hn;unfold aR at hw;rw[Jy,Js]at hw;obtain⟨t,ht,rfl⟩:=hw;have tk:t.length<=3/\t.Nodup/\∀p∈t,p < 3:=by
     have:∀t∈ap,t.length<=3/\t.Nodup/\∀p∈t,p < 3:=by decide
     exact this t (JG ht)
    refine ac (show eS (.nm 4) (.tup (aq t)) [ba R,ba (.ref q),ba (.ref S1.length),ba (au g),a4] S3=ba ([ba R,ba (.ref q),ba (.ref S1.length),ba (au g),ba (.tup (aq t))],S3)from rfl) ?_
    intro Q3 hn3 _;refine st ?_;left;subst hR0;refine GN (d:=d) P hp hb hnl gg (λp hp=>by have:=tk.2.2 p hp; omega) tk.2.1 ∅ λS4 k4=>?_
    have e4:=k4.get _ _ e3;have hlt:U3.length < sizeLine:=by
     have b1:=h3.len;have b2:=lJ bs (gs.take i);rw[JC,b2,Jp,Kn,Kn,show ap.length=6 from rfl]at b1
     rw[Ky]; omega
    refine ac (uK e4 hlt) (b6 (hn3 _ _ #[#[_,rfl],#[_,bo e4,?_],?_,(k3.trans k4).late k1.len]))
    ·rw[J2,ht,Ke,<- LQ];exact h3.put
    ·rw[bj ∅]; exact k4.get _ _ el3
   ·rintro Z S3 ⟨⟨a4,rfl⟩,⟨U3,e3,h3⟩,el3,k3⟩;rw[show(aR ap).length=ap.length from Jp ..,Kc]at h3
    refine hK _ _ (b6 (hn _ _ #[#[_,_,rfl],#[U3,e3,?_],el3,k3]));unfold cG at h3 ⊢;rw[J2,hg1,Mh]
    simpa using h3
  ·rintro Z S2 ⟨⟨a3,a4,rfl⟩,⟨U,e2,h2⟩,el2,k2⟩;rw[Jp,Kc]at h2;exact hK _ _ (st (k _ U S2 e2 h2 k1.len k2))
end
def fD {n:Jx}{x:JI}(h:x∈lz n):0<=x/\x < n:=by
 obtain⟨k,hk,rfl⟩:=JE.mp h;have:=JQ.mp hk;omega
def sR {a n:Jx}{u:Wd}(h:u∈qK a n):GoodW a n u/\u.length=3:=by
 unfold qK at h;simp only[KN,JE]at h;obtain⟨m0,h0,m1,h1,m2,h2,w1,g1,w2,g2,w3,g3,rfl⟩:=h;refine#[?_,rfl];have s1:GoodW a n ([]++[(m0,[])]):=GoodW.nil.snoc (fD h0) rfl (λw hw=>nomatch hw)
 have s2:GoodW a n ([(m0,[])]++[(m1,[w1])]):=s1.snoc (fD h1) rfl (λw hw=>by rw[JD.mp hw]; exact fD g1)
 exact s2.snoc (fD h2) rfl (λw hw=>by
  simp only[JX,Ko,LA]at hw;rcases hw with rfl|rfl
  ·exact fD g2
  ·exact fD g3)
def wt {a:Jx}{bs:Jn JI}{g:Wd}(hb:GoodB bs)(h:g∈aM a bs):GoodW a bs.length g/\g.length=3:=by
 unfold aM at h;rw[OI]at h;obtain⟨u,hu,rfl⟩:=JE.mp h;obtain⟨gu,u3⟩:=sR hu;unfold fS;have hm:ig ((ap.map (ah bs u)).map bz) < (ap.map (ah bs u)).length:=by
  unfold ig;refine Mt (dh _ _) ?_;rw[Jp,Jp]; decide
 have:=JG (al (d:=[]) hm);obtain⟨t,ht,e⟩:=JE.mp this;rw[<- e];have tk:∀t∈ap,t.length=3/\t.Nodup/\∀p∈t,p < 3:=by decide
 obtain⟨t1,t2,t3⟩:=tk t ht;exact#[fu hb gu (λp hp=>by have:=t3 p hp; omega) t2,by rw[aE]; exact t1]
abbrev dH (U:Jn (T×W))(u:Wd)(h:Pt)(p q:Jx):J6:=(bN U (bz [((u.getD p (0,[])).1,[]),((u.getD q (0,[])).1,[(u.getD q (0,[])).2.getD p 0]),(h.1,[h.2.getD p 0,h.2.getD q 0])])).isSome
def bS {u:Wd}{h:Pt}{p:Jx}(hp:p < u.length):(u++[h]).getD p (0,[])=u.getD p (0,[]):=by
 rw[JT,JT,Ku hp]
def sS {u:Wd}{h:Pt}:(u++[h]).getD u.length (0,[])=h:=by
 rw[JT,LP (JB _),Nat.sub_self]; rfl
def rg {U:Jn (T×W)}{u:Wd}{h:Pt}{p q:Jx}(h1:p < q)(h2:q < u.length):sQ U (u++[h]) p q u.length=dH U u h p q:=by
 unfold sQ dH cV;rw[bS (Pf h1 h2),bS h2,sS]
def lK {u:Wd}{p s:Jx}(h:p < s):(u.take s).getD p (0,[])=u.getD p (0,[]):=by
 rw[JT,JT,Nw h]
abbrev lL (U:Jn (T×W))(v:Wd):J6:=(JW (v.length - 2)).all λp=>!sQ U v p (v.length - 2) (v.length - 1)
def wu {U:Jn (T×W)}{u:Wd}{h:Pt}{s:Jx}(hs:s < u.length):lL U (u.take (s+1)++[h])=(JW s).all λp=>!dH U u h p s:=by
 have hl:(u.take (s+1)).length=s+1:=by rw[Kn]; omega
 unfold lL;rw[JC,hl,K1,show s+1+1 - 2=s by omega,show s+1+1 - 1=s+1 by omega,Py,JP,JP]
 refine Ql λp=>Ql λhp=>?_
 have hp:=JQ.mp hp;have e:=rg (U:=U) (u:=u.take (s+1)) (h:=h) (p:=p) (q:=s) hp ∅
 rw[hl]at e;rw[e];unfold dH;rw[lK ∅,lK ∅]
abbrev cW (n:Jx)(hs:Jn Pt):Jn Pt:=hs.flatMap λh=>(JW n).map λ(w:Jx)=>(h.1,h.2++[(w:JI)])
abbrev cX (U:Jn (T×W))(u:Wd)(n:Jx)(m:JI):Jx->Jn Pt
 | 0=>[(m,[])]
 | s+1=>(cW n (cX U u n m s)).filter λh=>lL U (u.take (s+1)++[h])
abbrev ey (U:Jn (T×W))(u:Wd)(a n:Jx):Jn Pt:=(JW a).flatMap λ(m:Jx)=>cX U u n (m:JI) u.length
def lM {ws:Jn JI}{x:JI}{p:Jx}(hp:p < ws.length):(ws++[x]).getD p 0=ws.getD p 0:=by
 rw[JT,JT,Ku hp]
def lN {U:Jn (T×W)}{u:Wd}{m x:JI}{ws:Jn JI}{p q:Jx}(h1:p < q)(h2:q < ws.length):dH U u (m,ws++[x]) p q=dH U u (m,ws) p q:=by
 unfold dH;dsimp only;rw[lM (Pf h1 h2),lM h2]
def dX {U:Jn (T×W)}{u:Wd}{n:Jx}{m:JI}:∀ {s:Jx} {h:Pt},s<=u.length->(h∈cX U u n m s↔h.1=m/\h.2.length=s/\(∀w∈h.2,0<=w/\w < (n:JI))/\∀p q,p < q->q < s->dH U u h p q=false)
 | 0,h,_=>by
  rw[cX,JD];constructor
  ·rintro rfl;exact#[rfl,rfl,(λw hw=>nomatch hw),λp q _ h=>absurd h (Nat.not_lt_zero _)]
  ·rintro⟨h1,h2,_⟩;rw[<- h1,<- L6 h2]
 | s+1,h,hs=>by
  rw[cX,Kz,wu ∅,JP]
  unfold cW;rw[KN];constructor
  ·rintro⟨⟨h0,hm,hw⟩,hb⟩;obtain⟨w,hwr,rfl⟩:=JE.mp hw;obtain⟨h1,h2,h3,h4⟩:=(dX ∅).mp hm
   have hwr:=JQ.mp hwr;refine#[h1,by rw[JC,h2]; rfl,λx hx=>?_,λp q hpq hq=>?_]
   ·rcases Kd.mp hx with z|z
    ·exact h3 x z
    ·rw[JD.mp z]; omega
   ·by_cases e:q=s
    ·subst e;have:=hb p (JQ.mpr hpq)
     simpa using this
    ·rw[lN hpq ∅]; exact h4 p q hpq ∅
  ·rintro⟨h1,h2,h3,h4⟩;obtain⟨m',ws⟩:=h;dsimp only at h1 h2 h3 h4;have hne:ws≠[]:=λz=>by rw[z]at h2; cases h2
   have hd:=Li hne;have hx:=h3 _ (O9 hne);generalize ws.getLast hne=x at hd hx;have hdl:ws.dropLast.length=s:=by rw[L5]; omega
   generalize ws.dropLast=vs at hd hdl;subst hd;refine#[#[(m',vs),(dX ∅).mpr #[h1,hdl,λw hw=>h3 w (KW _ hw),λp q hpq hq=>?_],?_],λp hp=>?_]
   ·rw[<- lN (x:=x) hpq ∅]; exact h4 p q hpq ∅
   ·exact JE.mpr #[x.toNat,JQ.mpr ∅,by dsimp only; rw[show((x.toNat:Jx):JI)=x by omega]]
   ·rw[h4 p s (JQ.mp hp) ∅]; rfl
def gI {U:Jn (T×W)}{u:Wd}{n:Jx}{m:JI}:∀s:Jx,(cX U u n m s).length<=n ^ s
 | 0=>JB _
 | s+1=>by
  rw[cX];refine JY (Ll _ _) ?_;have:=gI (U:=U) (u:=u) (n:=n) (m:=m) s;have e:∀hs:Jn Pt,(cW n hs).length=hs.length*n:=λhs=>by
   unfold cW
   induction hs with
   | nil=>simp
   | cons h hs ih=>rw[K7,JC,ih,Jp,J7,J9,M0]; omega
  rw[e,Pn];exact ME _ this
def ny {n:Jx}(hs:Jn Pt):(cW n hs).length=hs.length*n:=by
 unfold cW
 induction hs with
 | nil=>simp
 | cons h hs ih=>rw[K7,JC,ih,Jp,J7,J9,M0]; omega
def zS {U:Jn (T×W)}{u:Wd}{a n:Jx}{h:Pt}:h∈ey U u a n↔(0<=h.1/\h.1 < a)/\h.2.length=u.length/\(∀w∈h.2,0<=w/\w < (n:JI))/\∀p q,p < q->q < u.length->dH U u h p q=false:=by
 unfold ey;rw[KN];constructor
 ·rintro⟨m,hm,hh⟩;obtain⟨h1,h2⟩:=(dX (JB _)).mp hh;have:=JQ.mp hm;exact#[∅,h2]
 ·rintro⟨h1,h2⟩;exact#[h.1.toNat,JQ.mpr ∅,(dX (JB _)).mpr #[∅,h2]]
abbrev cH:Ss:=
 #v[.set 2 (.op .sub (.bi .len #v[.v 1]) (.c (.int 1))),.loop (.nm 3) (.rng #v[.op .sub (.v 2) (.c (.int 1))]) #v[.ite (.cmp .isin (.own "three_at" 4 #v[.v 1,.v 3,.op .sub (.v 2) (.c (.int 1)),.v 2]) (.v 0)) #v[.ret (.v 3)] .nil],.ret (.c .non)]
abbrev cf:Ss:=
 #v[.set 3 (.lst .nil),.loop (.nm 4) (.rng #v[.bi .len #v[.ix (.v 0) (.c (.int 0))]]) #v[.set 5 (.lst #v[.tup #v[.v 4,.tup .nil]]),.loop (.nm 6) (.rng2 #v[.c (.int 1),.op .add (.bi .len #v[.v 2]) (.c (.int 1))]) #v[.set 5 (.comp (.v 1) (.nm 1) (.seq (.own "longer_wishes" 2 #v[.v 0,.v 5])) #v[.cmp .is (.own "first_bar" 2 #v[.v 2,.op .add (.sl (.v 4) .no (.yes (.v 3))) (.tup #v[.v 1])]) (.c .non)] [gV,gV,ba 1,ba 6,ba 2])],.ex (.me .extend (.v 3) #v[.v 5])],.ret (.v 3)]
abbrev bg:Ss:=
 #v[.set 2 (.lst .nil),.loop (.tp [3,4]) (.seq (.v 1)) #v[.ex (.me .extend (.v 2) #v[.comp (.tup #v[.v 2,.op .add (.v 3) (.tup #v[.v 1])]) (.nm 1) (.rng #v[.bi .len #v[.ix (.v 0) (.c (.int 1))]]) .nil [gV,gV,ba 3,ba 4]])],.ret (.v 2)]
def rh {U:Jn (T×W)}{v:Wd}{s:Jx}(hs:v.length=s+2):lL U v=true↔∀i < s,sQ U v i s (s+1)=false:=by
 unfold lL;rw[hs,show s+2 - 2=s from rfl,show s+2 - 1=s+1 from rfl,JP]
 refine Ql λi=>?_
 rw[JQ,M8]
def jH {a n s:Jx}{u:Wd}(hu:GoodW a n u):GoodW a n (u.take s):=by
 have key:∀(k:Jx) (x:Pt),(u.take s)[k]?=ba x->u[k]?=ba x:=λk x e=>by
  rw[List.getElem?_take]at e;split at e
  ·exact e
  ·cases e
 exact#[λk x e=>hu.mark k x (key k x e),λk x e=>hu.len k x (key k x e),λk x e=>hu.way k x (key k x e)]
section
variable{defs:Jn (JV×Df)}{fuel d:Jx}{S:aa}{Q:QW}
def rj (h3:Is defs ("three_at" : JV) 4 6 cC)(hg:Is defs ("first_bar" : JV) 2 4 cH){a n q:Jx}{v:Wd}{U:Jn (T×W)}(hv:GoodW a n v)(h2:2<=v.length)(hl:v.length<=1000)(e:S[q]?=ba (.dic U))(k:∀w,((w=.non/\lL U v=true)\/∃i:JI,w=.int i/\lL U v=false)->Q (w,S)) :
  wO (aP (am defs fuel (d+2)) "first_bar" 2 [.ref q,au v] S) Q:=by
 refine ay hg rfl rfl λQ' hR=>?_
 replace k:∀w,((w=.non/\lL U v=true)\/∃i:JI,w=.int i/\lL U v=false)->Q' (.rt w,S):=λw h=>hR _ _ (k w h)
 clear hR;show wZ _ _ cH [ba (.ref q),ba (au v),gV,gV] S Q';have ul:(v.map bf).length=v.length:=Jp ..;obtain⟨s,hs⟩ : ∃s,v.length=s+2:=#[v.length - 2,∅]
 dsimp only[cH];refine st ?_;left;refine bp (ac qE ?_);rw[ul,show((v.length:Jx):JI) - 1=((s+1:Jx):JI) by omega]
 nofun
 refine cr (s:JI) (λi Z S'=>(∃a3,Z=[ba (.ref q),ba (au v),ba (.int ((s+1:Jx):JI)),a3])/\S'=S/\∀i' < i,sQ U v i' s (s+1)=false) rfl rfl ∅ ?_ ?_ ?_
 ·dsimp only[wE,wV,wG];refine ac qE #[?_,#[_,rfl],rfl,λi' z=>∅]
  dsimp only;rw[show((s+1:Jx):JI) - 1=(s:JI) by omega]
 ·rintro i Z S1 hi ⟨⟨a3,rfl⟩,rfl,no⟩ Q2 hn hr;clear hK;dsimp only[JK];nofun
  dsimp only[wS,wT,wE,wA,wV,wG];refine ac qE ?_;dsimp only;rw[show((s+1:Jx):JI) - 1=(s:JI) by omega]
  refine Cg (d:=d) h3 hv ∅ (K9 s) ∅ ?_
  refine ac (show cZ .isin (au (cV v i s (s+1))) (.ref q) S1=ba (.bl (sQ U v i s (s+1)),S1) by simp only[cZ,cq e,sG]; rfl) ?_
  dsimp only[wB];refine aF (Q0:=Q2) (λh Q5 _ hr5=>?_) (λh Q5 hn5 _=>b6 (hn5 _ _ (hK _ _ (b6 (hn _ _ #[#[_,rfl],rfl,λi' z=>?_])))))
  ·refine st ?_;dsimp only[wS,wE,wV,wG];refine hr5 _ _ (hr _ _ (k _ (.inr #[i,rfl,?_])));rw[OY];intro z;rw[(rh hs).mp z i ∅]at h
   cases h
  ·by_cases ei:i'=i
   ·rw[ei]; exact h
   ·exact no i' ∅
 ·rintro Z S1 ⟨⟨a3,rfl⟩,rfl,no⟩;refine hK _ _ (st ?_);dsimp only[wS,wE];exact k _ (.inl #[rfl,(rh hs).mpr no])
def j7 (hg:Is defs ("longer_wishes" : JV) 2 5 bg){m0 b0:W}{N:Jn W}{n l:Jx}{hs:Jn Pt}(hN:N.length=n)(hn:n<=3)(e:S[l]?=ba (.lst (hs.map bf)))(hol:∀h∈hs,h.2.length<=100)(hos:hs.length<=10000)
  (k:∀(q:Jx) (S':aa),S'[q]?=ba (.lst ((cW n hs).map bf))->S.length<=q->Ka S S'->Q (.ref q,S')) :
  wO (aP (am defs fuel (d+1)) "longer_wishes" 2 [.tup [m0,.tup N,b0],.ref l] S) Q:=by
 refine ay hg rfl rfl λQ' hR=>?_
 replace k:∀(q:Jx) (S':aa),S'[q]?=ba (.lst ((cW n hs).map bf))->S.length<=q->Ka S S'->Q' (.rt (.ref q),S'):=λa b c e f=>hR _ _ (k a b c e f)
 clear hR;show wZ _ _ bg [ba (.tup [m0,.tup N,b0]),ba (.ref l),gV,gV,gV] S Q';generalize hR0:W.tup [m0,.tup N,b0]=R;have hlS:=bP e;dsimp only[bg];refine st ?_;dsimp only[wS,wE,wA,JK];nofun
 refine km l (hs.map bf) (λi Z S'=>(∃a3 a4,Z=[ba R,ba (.ref l),ba (.ref S.length),a3,a4])/\S'[l]?=ba (.lst (hs.map bf))/\S'[S.length]?=ba (.lst ((cW n (hs.take i)).map bf))/\Ka S S') rfl rfl #[rfl,#[gV,gV,rfl],ak e,ag,.push] (λi Z S' h=>h.2.1) ?_ ?_
 ·rintro i w Z S1 hw ⟨⟨a3,a4,rfl⟩,e0,e1,k1⟩;clear hK k;rw[Jy,Js]at hw;obtain⟨h,ho,rfl⟩:=hw;have hol:=hol h (JG ho);refine ac (show eS (.tp [3,4]) (bf h) [ba R,ba (.ref l),ba (.ref S.length),a3,a4] S1=ba ([ba R,ba (.ref l),ba (.ref S.length),ba (.int h.1),ba (.tup (af h.2))],S1)from rfl) ?_
  intro Q2 hn2 _;refine st ?_;left;refine#[eg e1,?_];refine Ey n (λ_=>true) (λ(w:Jx)=>bf (h.1,h.2++[(w:JI)])) [ba (.int h.1),ba (.tup (af h.2))] rfl rfl rfl rfl ∅ ?_ (λx hx S2 k2=>?_) λS2 k2=>?_
  ·dsimp only[wE,wA,wV,wG];subst hR0;refine aj #v[] rfl (bp ?_)
   rw[hN];exact#[rfl,.refl]
  ·dsimp only[gR,wC,wE,wA,wV,wG];refine#[λ_=>ac (ip (oX ?_)) #[rfl,?_,.refl],λz=>by cases z]
   ·rw[JC,show(af h.2).length=h.2.length from Jp ..]; show _+1<=_; omega
   ·simp[bf,af]
  ·rw[lI];have e1':=ak (u:=O.lst ((JW n).map λ(w:Jx)=>bf (h.1,h.2++[(w:JI)]))) (k2.get _ _ e1)
   have hle:(cW n (hs.take i)).length<=30000:=by
    rw[ny,Kn];exact JY (MW (show min i hs.length<=10000 by omega) hn) #v[]
   refine sP e1' ag (by rw[Jp,Jp,J7]; omega) (b6 (hn2 _ _ #[#[_,_,rfl],?_,?_,((k1.trans k2).trans .push).late (JB _)]))
   ·rw[bj ∅]; exact ak (k2.get _ _ e0)
   ·rw[bo e1'];unfold cW;rw[J2,ho];simp
 ·rintro Z S1 ⟨⟨a3,a4,rfl⟩,e0,e1,k1⟩;rw[Jp,Kc]at e1;exact hK _ _ (st (k _ _ e1 (JB _) k1))
def o8 {n s:Jx}(hn:n<=3)(hs:s<=5):n ^ s<=243:=JY (LU hn s) (L4 (n:=3) #v[] hs)
def sT {U:Jn (T×W)}{u:Wd}{n i:Jx}(hn:n<=3)(hu:u.length<=5):((JW i).flatMap λ(m:Jx)=>cX U u n (m:JI) u.length).length<=i*243:=by
 induction i with
 | zero=>simp
 | succ i ih=>
  rw[Mc,Mh,JC,K7,List.flatMap_nil,Le];have:=JY (gI (U:=U) (u:=u) (n:=n) (m:=(i:Jx)) u.length) (o8 hn hu);omega
def l7 (h3:Is defs ("three_at" : JV) 4 6 cC)(hfb:Is defs ("first_bar" : JV) 2 4 cH)(hlw:Is defs ("longer_wishes" : JV) 2 5 bg)(hg:Is defs ("wishes_over" : JV) 3 7 cf){tv N:Jn W}{b0:W}{a n q:Jx}{u:Wd}{U:Jn (T×W)}(hM:tv.length=a)(hN:N.length=n)(ha3:a<=3)(hn3:n<=3)(hu:GoodW a n u)(hul:u.length<=5)(e:S[q]?=ba (.dic U))
  (k:∀(l:Jx) (S':aa),S'[l]?=ba (.lst ((ey U u a n).map bf))->S.length<=l->Ka S S'->Q (.ref l,S')) :
  wO (aP (am defs fuel (d+3)) "wishes_over" 3 [.tup [.tup tv,.tup N,b0],.ref q,au u] S) Q:=by
 refine ay hg rfl rfl λQ' hR=>?_
 replace k:∀(l:Jx) (S':aa),S'[l]?=ba (.lst ((ey U u a n).map bf))->S.length<=l->Ka S S'->Q' (.rt (.ref l),S'):=λa b c e f=>hR _ _ (k a b c e f)
 clear hR;show wZ _ _ cf [ba (.tup [.tup tv,.tup N,b0]),ba (.ref q),ba (au u),gV,gV,gV,gV] S Q';generalize hR0:W.tup [.tup tv,.tup N,b0]=R;have hqS:=bP e;have ul:(u.map bf).length=u.length:=Jp ..;dsimp only[cf];refine st ?_;dsimp only[wS,wE,wA,JK];nofun
 refine cr (a:JI) (λi Z S'=>(∃a4 a5 a6,Z=[ba R,ba (.ref q),ba (au u),ba (.ref S.length),a4,a5,a6])/\S'[S.length]?=ba (.lst (((JW i).flatMap λ(m:Jx)=>cX U u n (m:JI) u.length).map bf))/\Ka S S') rfl rfl ∅ ?_ ?_ ?_
 ·dsimp only[wE,wA,wV,wG];subst hR0;refine aj #v[] rfl (bp ?_)
  rw[hM];exact#[rfl,#[_,_,_,rfl],ag,.push]
 ·rintro i Z S1 hi ⟨⟨a4,a5,a6,rfl⟩,e1,k1⟩ Q2 hn2 _;clear hK k;have hl1:=bP e1;dsimp only[JK];refine st ?_;left;nofun
  refine jd 1 ((u.length:JI)+1) (λm Z S'=>∃(t:Jx) (a6:Jw W),Z=[ba R,ba (.ref q),ba (au u),ba (.ref S.length),ba (.int i),ba (.ref t),a6]/\S'[t]?=ba (.lst ((cX U u n i m).map bf))/\Ka S1 S') rfl rfl rfl ∅ ?_ ?_ ?_
  ·dsimp only[wE,wA,wV,wG];refine#[rfl,bp (ac db ?_)];rw[ul];exact#[rfl,S1.length,a6,rfl,ag,.push]
  ·rintro m Z S2 hm ⟨t,a6,rfl,e2,k2⟩ Q3 hn3 _;clear hK hn2;have hmu:m < u.length:=∅
   rw[show(1:JI)+m=((m+1:Jx):JI) by omega]
   have hhl:(cX U u n i m).length<=243:=JY (gI m) (o8 ‹n<=3› ∅)
   have hll:(cW n (cX U u n i m)).length<=729:=by rw[ny]; exact MW hhl ‹n<=3›
   dsimp only[JK];refine st ?_;dsimp only[wS,wE,JK];refine oZ (cW n (cX U u n i m)) bf (λh=>lL U (u.take (m+1)++[h])) bf [ba (.ref q),ba (.int ((m+1:Jx):JI)),ba (au u)] rfl rfl rfl rfl ∅ ?_ (λh hh S4 k4=>?_) λS4 k4=>?_
   ·dsimp only[wE,wA,wV,wG];subst hR0;exact j7 (d:=d+1) hlw hN ‹n<=3› e2 (λh hh=>by have:=((dX ∅).mp hh).2.1; omega) ∅ λl S3 e3 _ k3=>#[l,rfl,e3,k3]
   ·have hgd:GoodW a n (u.take (m+1)++[h]):=by
     unfold cW at hh;obtain⟨h0,hm0,hw⟩:=KN.mp hh;obtain⟨w,hwr,rfl⟩:=JE.mp hw;obtain⟨g1,g2,g3,_⟩:=(dX ∅).mp hm0
     have hwr:=JQ.mp hwr;refine(jH hu).snoc (by rw[g1]; omega) (by rw[JC,g2,Kn,K1]; omega) λx hx=>?_
     rcases Kd.mp hx with z|z
     ·exact g3 x z
     ·rw[JD.mp z]; omega
    have hvl:(u.take (m+1)++[h]).length=m+2:=by rw[JC,Kn,K1]; omega
    dsimp only[gR,wC,wT,wE,wA,wP,wV,wG,wN];refine ac (show rQ (au u) gV (ba ((m+1:Jx):JI)) S4=ba (.tup ((u.map bf).take (m+1)),S4) by simp only[au,rQ,i7]) ?_
    dsimp only;have ev:(u.map bf).take (m+1)++[bf h]=(u.take (m+1)++[h]).map bf:=by rw[Ke,N6]; rfl
    refine ac (ip (oX (by rw[ev,Jp]; omega))) ?_
    dsimp only;rw[ev];refine rj (d:=d) (v:=u.take (m+1)++[h]) h3 hfb hgd ∅ ∅ (k4.get _ _ (k2.get _ _ (k1.get _ _ e))) λw hw=>?_
    refine ac (show cZ .is w .non S4=ba (.bl (lL U (u.take (m+1)++[h])),S4) by rcases hw with⟨rfl,hb⟩|⟨i,rfl,hb⟩ <;> rw[hb] <;> rfl) ?_
    dsimp only[wB];exact#[λz=>#[z,rfl,.refl],λz=>#[z,.refl]]
   ·exact b6 (hn3 _ _ #[_,_,rfl,ag,(k2.trans k4).trans .push])
  ·rintro Z S2 ⟨t,a6,rfl,e2,k2⟩;rw[show((u.length:JI)+1 - 1).toNat=u.length by omega]at e2
   refine hK _ _ ?_;clear hK K;have e1':=k2.get _ _ e1;have hhl:(cX U u n i u.length).length<=243:=JY (gI _) (o8 hn3 hul);have hfl:=sT (U:=U) (i:=i) hn3 hul;refine st ?_;left;refine#[eg e1',sP e1' e2 (by rw[Jp,Jp]; omega) (b6 (hn2 _ _ #[#[_,_,_,rfl],?_,(k1.trans k2).late (JB _)]))]
   rw[bo e1',Mc,Mh,Ke];simp
 ·rintro Z S1 ⟨⟨a4,a5,a6,rfl⟩,e1,k1⟩;rw[JO]at e1;exact hK _ _ (st (k _ _ e1 (JB _) k1))
end
abbrev bx:Ss:=
 #v[.asg [4,5] (.ix (.v 2) (.v 3)),.loop (.nm 6) (.rng2 #v[.c (.int 1),.v 3]) #v[.loop (.nm 7) (.rng #v[.v 6]) #v[.ite (.cmp .isin (.tup #v[.tup #v[.ix (.ix (.v 2) (.v 7)) (.c (.int 0)),.tup .nil],.tup #v[.ix (.ix (.v 2) (.v 6)) (.c (.int 0)),.tup #v[.ix (.ix (.ix (.v 2) (.v 6)) (.c (.int 1))) (.v 7)]],.tup #v[.v 4,.tup #v[.ix (.v 5) (.v 7),.ix (.v 5) (.v 6)]]]) (.v 1)) #v[.ret (.c (.bl false))] .nil]],.ret (.c (.bl true))]
abbrev rm (U:Jn (T×W))(u:Wd)(s:Jx)(h:Pt):J6:=(JW s).all λq=>(JW q).all λp=>!dH U u h p q
def jf {U:Jn (T×W)}{u:Wd}{s:Jx}{h:Pt}:rm U u s h=true↔∀q < s,∀p < q,dH U u h p q=false:=by
 unfold rm;simp only[JP,JQ,M8]
def iB {α β:Type}{d:α}(n:Jx)(f:α->Jx->β)(h:0 < n):∀xs:Jn α,(JW (xs.length*n)).map (λi=>f (xs.getD (i / n) d) (i % n))=xs.flatMap λx=>(JW n).map (f x)
 | []=>by simp
 | x::xs=>by
  rw[K7,<- iB n f h xs,J9,M0,Pe,List.range_add,Ke,Lu];congr 1
  ·refine KG λi hi=>?_
   have hi:=JQ.mp hi;rw[Nat.div_eq_of_lt hi,Nat.mod_eq_of_lt hi]; rfl
  ·refine KG λi hi=>?_
   dsimp only[Sr];rw[Nat.add_div_left _ h,Nat.add_mod_left]; rfl
def rn {n k:Jx}(h:0 < n):bn n (k+1)=(bn n k).flatMap λds=>(JW n).map λ(w:Jx)=>ds++[(w:JI)]:=by
 rw[bn];exact iB (d:=[]) n (λds (w:Jx)=>ds++[(w:JI)]) h (bn n k)
def lO {bs:Jn JI}{a n:Jx}{u:Wd}(hu:GoodW a n u):∀k,k<=u.length->ah bs u (JW k)=u.take k
 | 0,_=>by simp[ah]
 | k+1,h=>by
  rw[Mc,bH,lO hu k ∅,nj hu ∅,J2,al (d:=(0,[])) ∅]; rfl
def gJ {bs:Jn JI}{a n:Jx}{u:Wd}(hu:GoodW a n u):ah bs u (JW u.length)=u:=by
 rw[lO hu _ (JB _),Kc]
def EH {n:Jx}{o:Jn Jx}(h:Ord n o)(hl:o.length=n):∃p,Ord o.length p/\p.length=n/\(p.map λi=>o.getD i 0)=JW n:=by
 refine#[(JW n).map λi=>o.idxOf i,#[?_,λp hp=>?_],by rw[Jp,J7],?_]
 ·rw[Mu,MD];refine Su ?_ (LZ (n:=n));intro x y hx hy hne z;have hx':=dS h hl (JQ.mp hx);have hy':=dS h hl (JQ.mp hy);have e1:=Mv (MJ.mpr hx');have e2:=Mv (MJ.mpr hy');refine hne ?_;rw[<- e1,<- e2];congr 1
 ·obtain⟨i,hi,rfl⟩:=JE.mp hp;exact MJ.mpr (dS h hl (JQ.mp hi))
 ·rw[Lu]
  conv=>rhs; rw[<- Ta (JW n)]
  refine KG λi hi=>?_
  have hi':=dS h hl (JQ.mp hi);show o.getD (o.idxOf i) 0=i;rw[JT,Jz (MJ.mpr hi'),Mv]; rfl
def Ch {bs:Jn JI}{a:Jx}{u v:Wd}(hb:GoodB bs)(hu:GoodW a bs.length u)(hv:GoodW a bs.length v)(hl:v.length=u.length)(h:aG bs u=aG bs v):∃o,Ord v.length o/\o.length=u.length/\ah bs v o=u:=by
 obtain⟨o1,a1,a2,a3⟩:=dz (bs:=bs) (u:=u);obtain⟨o2,b1,b2,b3⟩:=dz (bs:=bs) (u:=v);obtain⟨p,c1,c2,c3⟩:=EH a1 a2;have e:ah bs u o1=ah bs v o2:=by rw[a3,b3,h]
 have e1:=bw hb hu a1 c1;have c1':Ord o2.length p:=by rw[b2,hl,<- a2]; exact c1
 have e2:=bw hb hv b1 c1';rw[c3,gJ hu]at e1;refine#[p.map λi=>o2.getD i 0,gw b1 c1',by rw[Jp,c2],?_]
 rw[<- e2,<- e,e1]
def uT {bs:Jn JI}{a n:Jx}{u v:Wd}{o:Jn Jx}(hu:GoodW a n u)(h:Ord v.length o)(hl:o.length=u.length)(hp:ah bs v o=u):∀k,k<=u.length->o.take k∈g9 bs u v k
 | 0,_=>by simp[g9]
 | k+1,hk=>by
  have ih:=uT hu h hl hp k ∅
  have hko:k < o.length:=∅
  have et:o.take (k+1)=o.take k++[o[k]]:=by rw[J2,Jz hko]; rfl
  have tk:∀j,j<=o.length->ah bs v (o.take j)=(ah bs v o).take j:=by
   intro j
   induction j with
   | zero=>intro _; simp[ah]
   | succ j ihj=>
    intro hj;have hj':j < o.length:=∅
    have hg:=fA (bs:=bs) (u:=v) (o:=o) (i:=j) hj';have hlen:(ah bs v o).length=o.length:=aE ..;rw[J2,Jz hj',J2,al (d:=(0,[])) (by rw[hlen]; exact hj'),hg,<- ihj ∅]
    show ah bs v (o.take j++[o[j]])=_;rw[bH];have eo:o.getD j 0=o[j]:=by rw[JT,Jz hj']; rfl
    rw[eo];rfl
  have hnd:o[k]∉o.take k:=λz=>by
   obtain⟨j,hj,ej⟩:=LM.mp z;rw[Kn]at hj;rw[M9]at ej;have:=(LJ h.nd).mp ej;omega
  simp only[g9,KN];refine#[o.take k,ih,?_];rw[et];refine JE.mpr #[o[k],Kz.mpr #[JQ.mpr (h.lt _ (Kq hko)),?_],rfl];rw[Jv,JL,JL,<- et,tk _ ∅,hp,lO hu _ hk]
  exact#[hnd,rfl]
abbrev jZ (bs:Jn JI)(X:Jn Wd):Prop:=∀w∈X,w.length=3->∀t,Ord 3 t->t.length=3->ah bs w t∈X
def dY {t:Jn Jx}:t∈ap↔Ord 3 t/\t.length=3:=by
 constructor
 ·intro h;have:∀t∈ap,t.Nodup/\(∀p∈t,p < 3)/\t.length=3:=by decide
  obtain⟨h1,h2,h3⟩:=this t h;exact#[#[h1,h2],h3]
 ·intro h;have h1:=eM.mpr h;have:∀t∈eB 3,t∈ap:=by decide
  exact this t h1
def jI {bs:Jn JI}{a:Jx}{gs:Jn Wd}(hb:GoodB bs)(hgs:∀g∈gs,GoodW a bs.length g/\g.length=3):jZ bs (cG bs gs):=by
 intro w hw _ t ht hl;unfold cG at hw ⊢;obtain⟨g,hg,hw⟩:=KN.mp hw;obtain⟨s,hs,rfl⟩:=JE.mp hw;obtain⟨s1,s2⟩:=dY.mp hs;obtain⟨g1,g2⟩:=hgs g hg;have s1':Ord g.length s:=by rw[g2]; exact s1
 rw[bw hb g1 s1' (by rw[s2]; exact ht)]
 refine KN.mpr #[g,hg,JE.mpr #[_,dY.mpr #[?_,by rw[Jp,hl]],rfl]]
 have:=gw s1' (p:=t) (by rw[s2]; exact ht)
 rw[g2]at this;exact this
abbrev iC (X:Jn Wd)(u:Wd):Prop:=∀i j k,i < j->j < k->k < u.length->cV u i j k∉X
def ww {bs:Jn JI}{a:Jx}{X:Jn Wd}{u:Wd}(hb:GoodB bs)(hT:jZ bs X)(hu:GoodW a bs.length u)(hs:iC X u){x y z:Jx}(hx:x < u.length)(hy:y < u.length)(hz:z < u.length)(h1:x≠y)(h2:x≠z)(h3:y≠z):ah bs u [x,y,z]∉X:=by
 have ord:∀ {x y z:Jx},x < u.length->y < u.length->z < u.length->x≠y->x≠z->y≠z->Ord u.length [x,y,z]:=λ{x y z} hx hy hz h1 h2 h3=>#[by simp[h1,h2,h3],λp hp=>by simp at hp; rcases hp with rfl|rfl|rfl <;> assumption]
 have key:∀i j k,i < j->j < k->k < u.length->∀t:Jn Jx,Ord 3 t->t.length=3->ah bs u [i,j,k]∈X->K5:=λi j k a1 a2 a3 t _ _ h=>hs i j k a1 a2 a3 (by rw[<- iA (bs:=bs) a1 a2]; exact h)
 intro h;have turn:∀(x y z:Jx) (t:Jn Jx),Ord u.length [x,y,z]->Ord 3 t->t.length=3->ah bs u [x,y,z]∈X->ah bs u (t.map λi=>[x,y,z].getD i 0)∈X:=λx y z t o ht hl h=>by
  have:=hT _ h (by rw[aE]; rfl) t ht hl
  rw[bw hb hu o (by simpa using ht)]at this
  exact this
 have o:=ord hx hy hz h1 h2 h3;have T:∀t:Jn Jx,t∈ap->ah bs u (t.map λi=>[x,y,z].getD i 0)∈X:=λt ht=>turn x y z t o (dY.mp ht).1 (dY.mp ht).2 h
 have fin:∀i j k,i < j->j < k->k < u.length->ah bs u [i,j,k]∈X->K5:=λi j k a1 a2 a3 h=>hs i j k a1 a2 a3 (by rw[<- iA (bs:=bs) a1 a2]; exact h)
 rcases M2 h1 with a|a <;> rcases M2 h2 with b|b <;> rcases M2 h3 with c|c
 ·exact fin x y z a c hz (T [0,1,2] #v[])
 ·exact fin x z y b c hy (T [0,2,1] #v[])
 ·omega
 ·exact fin z x y b a hy (T [2,0,1] #v[])
 ·exact fin y x z a b hz (T [1,0,2] #v[])
 ·omega
 ·exact fin y z x c b hx (T [1,2,0] #v[])
 ·exact fin z y x c a hx (T [2,1,0] #v[])
def gK {bs:Jn JI}{a:Jx}{X:Jn Wd}{u:Wd}{o:Jn Jx}(hb:GoodB bs)(hT:jZ bs X)(hu:GoodW a bs.length u)(hO:Ord u.length o)(hs:iC X u):iC X (ah bs u o):=by
 intro i j k h1 h2 h3;rw[aE]at h3;rw[<- iA (bs:=bs) h1 h2];have o3:Ord o.length [i,j,k]:=#[by simp; omega,λp hp=>by simp at hp; omega]
 rw[bw hb hu hO o3];have nd:∀x y,x < o.length->y < o.length->x≠y->o.getD x 0≠o.getD y 0:=λx y hx hy hne z=>by
  rw[JT,JT,Jz hx,Jz hy]at z;exact hne ((LJ hO.nd).mp z)
 have lt:∀x,x < o.length->o.getD x 0 < u.length:=λx hx=>by
  rw[JT,Jz hx];exact hO.lt _ (Kq hx)
 exact ww hb hT hu hs (lt i ∅) (lt j ∅) (lt k h3) (nd i j ∅ ∅ ∅) (nd i k ∅ h3 ∅) (nd j k ∅ h3 ∅)
def zU {bs:Jn JI}{a:Jx}{X:Jn Wd}{u:Wd}{o:Jn Jx}(hb:GoodB bs)(hT:jZ bs X)(hu:GoodW a bs.length u)(hO:Ord u.length o)(hl:o.length=u.length):iC X (ah bs u o)↔iC X u:=by
 refine#[λh=>?_,gK hb hT hu hO]
 obtain⟨p,p1,p2,p3⟩:=EH hO hl;have:=gK hb hT (fu hb hu hO.lt hO.nd) (by rw[aE]; exact p1) h
 rw[bw hb hu hO p1,p3,gJ hu]at this;exact this
def zW {bs:Jn JI}{w:Wd}{h:Pt}{o:Jn Jx}{i:Jx}(hi:i < w.length)(ho:∀p∈o,p < w.length):cR bs (w++[h]) o i=cR bs w o i:=by
 unfold cR;rw[bS hi];congr 1;refine KG λq hq=>?_
 unfold bO;rw[bS hi,bS (ho q hq)]
def rq {bs:Jn JI}{w:Wd}{h:Pt}:∀(n:Jx) (o:Jn Jx),o.length=n->(∀p∈o,p < w.length)->ah bs (w++[h]) o=ah bs w o
 | 0,o,hl,_=>by rw[KS.mp hl]; simp[ah]
 | n+1,o,hl,ho=>by
  obtain⟨o',p,rfl,hl'⟩:=o5 hl;rw[bH,bH,rq n o' hl' λq hq=>ho q (KW _ hq),zW (ho p (by simp)) λq hq=>ho q (KW _ hq)]
def nz {w:Wd}{h:Pt}{i j k:Jx}(hi:i < w.length)(hj:j < w.length)(hk:k < w.length):cV (w++[h]) i j k=cV w i j k:=by
 unfold cV;rw[bS hi,bS hj,bS hk]
def nA {X:Jn Wd}{u:Wd}{h:Pt}:iC X (u++[h])↔iC X u/\∀p q,p < q->q < u.length->cV (u++[h]) p q u.length∉X:=by
 constructor
 ·intro hs;refine#[λi j k h1 h2 h3=>?_,λp q h1 h2=>hs p q u.length h1 h2 (by simp)]
  rw[<- nz (h:=h) ∅ ∅ h3]
  exact hs i j k h1 h2 (by simp; omega)
 ·rintro⟨h1,h2⟩ i j k a1 a2 a3;rw[JC,K1]at a3
  by_cases hk:k < u.length
  ·rw[nz ∅ ∅ hk]
   exact h1 i j k a1 a2 hk
  ·have:k=u.length:=∅
   subst this;exact h2 i j a1 a2
def lP {X:Jn Wd}{U:Jn (T×W)}{a n:Jx}{u:Wd}{h:Pt}(hH:HasD U X)(hu:GoodW a n u)(hs:iC X u):h∈ey U u a n↔GoodW a n (u++[h])/\iC X (u++[h]):=by
 have bar:∀p q,p < q->q < u.length->(dH U u h p q=false↔cV (u++[h]) p q u.length∉X):=λp q h1 h2=>by
  rw[<- rg h1 h2,sQ,hH.get,MV];constructor
  ·exact λz y=>z (Qf y)
  ·intro z y;obtain⟨x,hx,e⟩:=JE.mp y;rw[<- dQ e]at z;exact z hx
 rw[zS,nA];constructor
 ·rintro⟨h1,h2,h3,h4⟩;refine#[hu.snoc h1 h2 h3,hs,λp q a b=>(bar p q a b).mp (h4 p q a b)]
 ·rintro⟨h1,_,h2⟩;have hl:(u++[h])[u.length]?=ba h:=by simp
  exact#[h1.mark _ _ hl,h1.len _ _ hl,h1.way _ _ hl,λp q a b=>(bar p q a b).mpr (h2 p q a b)]
abbrev Unl (bs:Jn JI)(a:Jx)(X:Jn Wd)(k:Jx)(L:Wd):Prop:=∃w,GoodW a bs.length w/\w.length=k/\iC X w/\aG bs w=L
def Unl.good {bs:Jn JI}{a k:Jx}{X:Jn Wd}{L:Wd}(hb:GoodB bs)(hT:jZ bs X)(h:Unl bs a X k L):GoodW a bs.length L/\L.length=k/\iC X L/\aG bs L=L:=by
 obtain⟨w,h1,h2,h3,rfl⟩:=h;obtain⟨o,o1,o2,o3⟩:=dz (bs:=bs) (u:=w);rw[<- o3];refine#[fu hb h1 o1.lt o1.nd,by rw[aE,o2,h2],gK hb hT h1 o1 h3,?_]
 rw[iy hb h1 o1 o2,o3]
def zX {bs:Jn JI}{a:Jx}{X:Jn Wd}{L:Wd}:Unl bs a X 0 L↔L=[]:=by
 constructor
 ·rintro⟨w,_,h2,_,rfl⟩;rw[KS.mp h2]; rfl
 ·rintro rfl;exact#[[],#[λk p h=>by simp at h,λk p h=>by simp at h,λk p h=>by simp at h],rfl,λi j k _ _ h=>by simp at h,rfl]
def jg {bs:Jn JI}{a k:Jx}{X:Jn Wd}{U:Jn (T×W)}{L':Wd}(hb:GoodB bs)(hT:jZ bs X)(hH:HasD U X):Unl bs a X (k+1) L'↔∃L,Unl bs a X k L/\∃h∈ey U L a bs.length,L'=aG bs (L++[h]):=by
 constructor
 ·rintro⟨w',h1,h2,h3,rfl⟩;obtain⟨w,h,rfl,hl⟩ : ∃w h,w'=w++[h]/\w.length=k:=by
   have hne:w'≠[]:=λz=>by rw[z]at h2; cases h2
   exact#[w'.dropLast,w'.getLast hne,(Li hne).symm,by rw[L5,h2]; rfl]
  have hw:GoodW a bs.length w:=by
   have:=jH (s:=w.length) h1;rw[MY (JB _),Kc]at this;exact this
  have hsw:=(nA.mp h3).1;obtain⟨o,o1,o2,o3⟩:=dz (bs:=bs) (u:=w);have O:Ord (w++[h]).length (o++[w.length]):=gv.mpr #[#[o1.nd,λp hp=>by have:=o1.lt p hp; simp; omega],by simp,λz=>by have:=o1.lt _ z; omega]
  have ol:(o++[w.length]).length=(w++[h]).length:=by simp[o2]
  have e:ah bs (w++[h]) (o++[w.length])=aG bs w++[cR bs (w++[h]) o w.length]:=by
   rw[bH,rq _ o rfl o1.lt,o3]
  have hU:Unl bs a X k (aG bs w):=#[w,hw,hl,hsw,rfl];obtain⟨g1,g2,g3,_⟩:=hU.good hb hT;refine#[_,hU,cR bs (w++[h]) o w.length,(lP hH g1 g3).mpr #[?_,?_],?_]
  ·rw[<- e]; exact fu hb h1 O.lt O.nd
  ·rw[<- e]; exact gK hb hT h1 O h3
  ·rw[<- e]; exact(iy hb h1 O ol).symm
 ·rintro⟨L,hU,h,hh,rfl⟩;obtain⟨g1,g2,g3,_⟩:=hU.good hb hT;obtain⟨w1,w2⟩:=(lP hH g1 g3).mp hh;exact#[L++[h],w1,by simp[g2],w2,rfl]
def jJ {α:Type}[BEq α][LawfulBEq α]:∀ {A B:Jn α},A.Nodup->(∀x∈A,x∈B)->A.length<=B.length
 | [],_,_,_=>Lj _
 | x::A,B,h,hs=>by
  rw[K4]at h;have hx:=hs x (by simp)
  have:=jJ (A:=A) (B:=B.erase x) h.2 λy hy=>(N8 (λ(e:y=x)=>h.1 (by rw[<- e]; exact hy))).mpr (hs y (by simp[hy]))
  rw[NB hx]at this;have:=Mj hx;rw[J9];omega
def iD {α β:Type}{f:α->β}:∀ {A:Jn α},A.Nodup->(∀x∈A,∀y∈A,f x=f y->x=y)->(A.map f).Nodup
 | [],_,_=>.nil
 | x::A,h,hi=>by
  rw[K4]at h;rw[KF,K4];refine#[λz=>?_,iD h.2 λy hy z hz=>hi y (by simp[hy]) z (by simp[hz])]
  obtain⟨y,hy,e⟩:=JE.mp z;exact h.1 (hi y (by simp[hy]) x (by simp) e ▸ hy)
def jh {α β:Type}{f:α->Jn β}:∀ {A:Jn α},A.Nodup->(∀x∈A,(f x).Nodup)->(∀x∈A,∀y∈A,∀z,z∈f x->z∈f y->x=y)->(A.flatMap f).Nodup
 | [],_,_,_=>.nil
 | x::A,h,hn,hd=>by
  rw[K4]at h;rw[K7,Ly];refine#[hn x (by simp),jh h.2 (λy hy=>hn y (by simp[hy])) λy hy z hz=>hd y (by simp[hy]) z (by simp[hz]),λz hz w hw e=>?_]
  subst e;obtain⟨y,hy,hw⟩:=KN.mp hw;exact h.1 (hd x (by simp) y (by simp[hy]) z hz hw ▸ hy)
def lQ {α β:Type}[MX β]{g:α->β}:∀ {Yq:Jn β} {P:Jn α},Yq.Nodup->(∀p∈P,g p∈Yq)->P.length=(Yq.map λy=>(P.filter λp=>decide (g p=y)).length).sum
 | [],P,_,h=>by
  cases P with
  | nil=>rfl
  | cons p P=>exact absurd (h p (by simp)) (by simp)
 | y::Yq,P,hn,h=>by
  rw[K4]at hn;have e1:P.length=(P.filter λp=>decide (g p=y)).length+(P.filter λp=>!decide (g p=y)).length:=by
   clear h
   induction P with
   | nil=>rfl
   | cons p P ih=>
    by_cases hp:g p=y
    ·rw[Ma (by simp[hp]),Mb (by simp[hp]),J9,J9]; omega
    ·rw[Mb (by simp[hp]),Ma (by simp[hp]),J9,J9]; omega
  have ih:=lQ (g:=g) (Yq:=Yq) (P:=P.filter λp=>!decide (g p=y)) hn.2 λp hp=>by
   obtain⟨h1,h2⟩:=Kz.mp hp;have:=h p h1;rw[JX]at this;rcases this with z|z
   ·simp[z]at h2
   ·exact z
  have e2:(Yq.map λy'=>((P.filter λp=>!decide (g p=y)).filter λp=>decide (g p=y')).length)=Yq.map λy'=>(P.filter λp=>decide (g p=y')).length:=by
   refine KG λy' hy'=>?_
   rw[OL];congr 1;refine OX λp _=>?_
   by_cases hp:g p=y'
   ·have:y'≠y:=λz=>hn.1 (z ▸ hy')
    simp[hp,this]
   ·simp[hp]
  rw[e2]at ih;rw[KF,Nz,e1,ih]
def nB {α:Type}{f:α->Jx}{c:Jx}:∀ {Yq:Jn α},(∀y∈Yq,f y=c)->(Yq.map f).sum=Yq.length*c
 | [],_=>by simp
 | y::Yq,h=>by
  rw[KF,Nz,h y (by simp),nB λz hz=>h z (by simp[hz]),J9,M0,Pe]
def fE {bs:Jn JI}{a n:Jx}{u:Wd}{q:Jn Jx}(hu:GoodW a n u):q∈aL bs u u u.length↔Ord u.length q/\q.length=u.length/\ah bs u q=u:=by
 rw[jE hu (JB _)];constructor
 ·intro h;have ok:=oW q h;have:=ok.prt;rw[gJ hu]at this;exact#[#[ok.nd,ok.lt],ok.len,this.symm]
 ·rintro⟨h1,h2,h3⟩;have:=uT hu h1 h2 h3 _ (JB _);rw[<- h2,Kc]at this;rw[<- h2];exact this
def uU {bs:Jn JI}{u v:Wd}:∀k,(g9 bs u v k).Nodup
 | 0=>by simp[g9]
 | k+1=>by
  unfold g9;refine jh (uU k) (λo _=>iD (P5 _ LZ) λx _ y _ e=>by simpa using e) λx _ y _ z hx hy=>?_
  obtain⟨p,_,rfl⟩:=JE.mp hx;obtain⟨q,_,e⟩:=JE.mp hy;exact(N3 e rfl).1.symm
def Ci:∀n,n<=4->(eB n).Nodup
 | 0,_=>by decide
 | 1,_=>by decide
 | 2,_=>by decide
 | 3,_=>by decide
 | 4,_=>by decide +kernel
 | n+5,h=>∅
def rz {n:Jx}{p q q':Jn Jx}(hp:Ord n p)(hl:p.length=n)(h1:q.length=n)(h2:q'.length=n)(e:(p.map λi=>q.getD i 0)=p.map λi=>q'.getD i 0):q=q':=by
 refine LY ∅ λi a b=>?_
 have hi:=dS hp hl (p:=i) ∅
 have:=List.map_inj_left.mp e i hi;rw[JT,JT,Jz a,Jz b]at this;exact this
def GU {bs:Jn JI}{a:Jx}{L:Wd}{p0:Jn Jx}(hb:GoodB bs)(hL:GoodW a bs.length L)(h4:L.length<=4)(hp:Ord L.length p0)(hl:p0.length=L.length):((eB L.length).filter λp=>decide (ah bs L p=ah bs L p0)).length=(aL bs L L L.length).length:=by
 obtain⟨r,r1,r2,r3⟩:=EH hp hl;have r1':Ord L.length r:=by rw[<- hl]; exact r1
 have ndl:(aL bs L L L.length).Nodup:=by rw[jE hL (JB _)]; exact uU _
 have hp':∀ {q:Jn Jx},q.length=L.length->Ord q.length p0:=λ{q} h=>by rw[h]; exact hp
 have hr':∀ {q:Jn Jx},q.length=L.length->Ord q.length r:=λ{q} h=>by rw[h]; exact r1'
 refine Nat.le_antisymm ?_ ?_
 ·have:=jJ (A:=((eB L.length).filter λp=>decide (ah bs L p=ah bs L p0)).map λp=>r.map λi=>p.getD i 0) (B:=aL bs L L L.length) (iD (P5 _ (Ci _ h4)) λx hx y hy e=>?_) λz hz=>?_
  ·rw[Jp]at this; exact this
  ·exact rz r1' r2 (eM.mp (Kz.mp hx).1).2 (eM.mp (Kz.mp hy).1).2 e
  ·obtain⟨p,hpm,rfl⟩:=JE.mp hz;obtain⟨q1,q2⟩:=Kz.mp hpm;obtain⟨o1,o2⟩:=eM.mp q1;rw[JL]at q2;refine(fE hL).mpr #[gw o1 (hr' o2),by rw[Jp,r2],?_]
   rw[<- bw hb hL o1 (hr' o2),q2,bw hb hL hp r1,r3,gJ hL]
 ·have:=jJ (A:=(aL bs L L L.length).map λq=>p0.map λi=>q.getD i 0) (B:=(eB L.length).filter λp=>decide (ah bs L p=ah bs L p0)) (iD ndl λx hx y hy e=>?_) λz hz=>?_
  ·rw[Jp]at this; exact this
  ·exact rz hp hl ((fE hL).mp hx).2.1 ((fE hL).mp hy).2.1 e
  ·obtain⟨q,hq,rfl⟩:=JE.mp hz;obtain⟨o1,o2,o3⟩:=(fE hL).mp hq;refine Kz.mpr #[eM.mpr #[gw o1 (hp' o2),by rw[Jp,hl]],?_]
   rw[JL,<- bw hb hL o1 (hp' o2),o3]
def GV {bs:Jn JI}{a:Jx}{L:Wd}{V:Jn Wd}(hb:GoodB bs)(hL:GoodW a bs.length L)(h4:L.length<=4)(hlf:aG bs L=L)(hV:V.Nodup)(hm:∀w,w∈V↔GoodW a bs.length w/\w.length=L.length):(eB L.length).length=(V.filter λw=>decide (aG bs w=L)).length*(aL bs L L L.length).length:=by
 rw[lQ (g:=ah bs L) (Yq:=V.filter λw=>decide (aG bs w=L)) (hV.filter _) λp hp=>?_]
 ·refine nB λw hw=>?_
  obtain⟨w1,w2⟩:=Kz.mp hw;rw[JL]at w2;obtain⟨g1,g2⟩:=(hm w).mp w1;obtain⟨o,o1,o2,o3⟩:=Ch hb g1 hL g2.symm (by rw[w2,hlf])
  rw[<- o3];exact GU hb hL h4 o1 (by rw[o2,g2])
 ·obtain⟨o1,o2⟩:=eM.mp hp;refine Kz.mpr #[(hm _).mpr #[fu hb hL o1.lt o1.nd,by rw[aE,o2]],?_]
  rw[JL,iy hb hL o1 o2,hlf]
def zY {bs:Jn JI}{a k:Jx}{X:Jn Wd}{V F:Jn Wd}{st:Wd->J6}(hb:GoodB bs)(hT:jZ bs X)(hk:k<=4)(hV:V.Nodup)(hm:∀w,w∈V↔GoodW a bs.length w/\w.length=k)(hst:∀w∈V,st w=true↔iC X w)(hF:F.Nodup)(hmF:∀L,L∈F↔Unl bs a X k L) :
  (V.filter st).length=(F.map λL=>(eB k).length / (aL bs L L k).length).sum:=by
 rw[lQ (g:=aG bs) (Yq:=F) hF λw hw=>?_]
 ·congr 1;refine KG λL hL=>?_
  obtain⟨g1,g2,g3,g4⟩:=((hmF L).mp hL).good hb hT;subst g2;have e:(V.filter st).filter (λw=>decide (aG bs w=L))=V.filter λw=>decide (aG bs w=L):=by
   rw[OL];refine OX λw hw=>?_
   by_cases hl:aG bs w=L
   ·obtain⟨w1,w2⟩:=(hm w).mp hw;obtain⟨o,o1,o2,o3⟩:=dz (bs:=bs) (u:=w);have:iC X w:=(zU hb hT w1 o1 o2).mp (by rw[o3,hl]; exact g3)
    rw[(hst w hw).mpr this]; simp
   ·simp[hl]
  rw[e,GV hb g1 hk g4 hV hm];have pos:0 < (aL bs L L L.length).length:=Mj ((fE g1).mpr #[#[LZ,λp hp=>JQ.mp hp],J7,gJ g1])
  rw[Nat.mul_div_cancel _ pos]
 ·obtain⟨w1,w2⟩:=Kz.mp hw;obtain⟨g1,g2⟩:=(hm w).mp w1;exact(hmF _).mpr #[w,g1,g2,(hst w w1).mp w2,rfl]
def uV {n:Jx}(hn:0 < n):∀ {k:Jx} {ds:Jn JI},ds.length=k->(∀w∈ds,0<=w/\w < (n:JI))->ds∈bn n k
 | 0,ds,hl,_=>by rw[KS.mp hl]; simp[bn]
 | k+1,ds,hl,h=>by
  have hne:ds≠[]:=λz=>by rw[z]at hl; cases hl
  have e:=(Li hne).symm;have hm:=h (ds.getLast hne) (O9 hne);rw[rn hn];refine KN.mpr #[ds.dropLast,uV hn (by rw[L5,hl]; rfl) λw hw=>h w ((PP ds).subset hw),JE.mpr #[(ds.getLast hne).toNat,JQ.mpr ∅,?_]]
  rw[Nu hm.1];exact e.symm
def zZ {n:Jx}(hn:0 < n):∀k,(bn n k).Nodup
 | 0=>by simp[bn]
 | k+1=>by
  rw[rn hn];refine jh (zZ hn k) (λx _=>iD LZ λy _ z _ e=>?_) λx _ y _ z hx hy=>?_
  ·have:=(N3 e rfl).2;have:((y:Jx):JI)=z:=by simpa using this
   omega
  ·obtain⟨p,_,rfl⟩:=JE.mp hx;obtain⟨q,_,e⟩:=JE.mp hy;exact(N3 e rfl).1.symm
def EI {a n k:Jx}(hn:0 < n):(aX a n k).Nodup:=by
 unfold aX;refine jh LZ (λx _=>iD (zZ hn k) λy _ z _ e=>by simpa using e) λx _ y _ z hx hy=>?_
 obtain⟨p,_,rfl⟩:=JE.mp hx;obtain⟨q,_,e⟩:=JE.mp hy;have:=congrArg Prod.fst e;dsimp only at this;omega
def rA {a n k:Jx}(hp:0 < (aX a n k).length):aQ a n (k+1)=(aQ a n k).flatMap λx=>(aX a n k).map λp=>x++[p]:=by
 have h:=iB (d:=([]:Wd)) (aX a n k).length (λx i=>x++[(aX a n k).getD i (0,[])]) hp (aQ a n k)
 rw[aQ,h];congr 1
 funext x
 refine LY (by simp) λi h1 h2=>?_
 simp only[O8,List.getElem_range];rw[Jp]at h2;rw[JT,Jz h2]; rfl
def uW {a n:Jx}(ha:0 < a)(hn:0 < n){w:Wd}{k:Jx}:w∈aQ a n k↔GoodW a n w/\w.length=k:=by
 refine#[lH,?_]
 induction k generalizing w with
 | zero=>
  rintro⟨_,h⟩;rw[KS.mp h]; simp[aQ]
 | succ k ih=>
  rintro⟨h1,h2⟩;have hp:0 < (aX a n k).length:=by rw[cz]; exact Tb ha (Tc hn)
  obtain⟨w0,h,rfl,hl⟩ : ∃w0 h,w=w0++[h]/\w0.length=k:=by
   have hne:w≠[]:=λz=>by rw[z]at h2; cases h2
   exact#[w.dropLast,w.getLast hne,(Li hne).symm,by rw[L5,h2]; rfl]
  have hw:GoodW a n w0:=by
   have:=jH (s:=w0.length) h1;rw[MY (JB _),Kc]at this;exact this
  have hg:(w0++[h])[w0.length]?=ba h:=by simp
  have m:=h1.mark _ _ hg;have l:=h1.len _ _ hg;have v:=h1.way _ _ hg;rw[rA hp];refine KN.mpr #[w0,ih #[hw,hl],JE.mpr #[h,?_,rfl]];unfold aX;refine KN.mpr #[h.1.toNat,JQ.mpr ∅,JE.mpr #[h.2,uV hn (by rw[l,hl]) v,?_]]
  rw[Nu m.1]
def z5 {a n:Jx}(ha:0 < a)(hn:0 < n):∀k,(aQ a n k).Nodup
 | 0=>by simp[aQ]
 | k+1=>by
  have hp:0 < (aX a n k).length:=by rw[cz]; exact Tb ha (Tc hn)
  rw[rA hp];refine jh (z5 ha hn k) (λx _=>iD (EI hn) λy _ z _ e=>by simpa using e) λx _ y _ z hx hy=>?_
  obtain⟨p,_,rfl⟩:=JE.mp hx;obtain⟨q,_,e⟩:=JE.mp hy;exact(N3 e rfl).1.symm
def EJ {bs:Jn JI}{u:Wd}:∃t∈ap,fS bs u=ah bs u t/\∀s∈ap,gC (bz (ah bs u s)) (bz (fS bs u))=ba false:=by
 obtain⟨x,h1,h2,h3⟩:=q8 (ks:=(ap.map (ah bs u)).map bz) (λx hx=>by obtain⟨p,_,rfl⟩:=JE.mp hx; exact jF p) (fm _) (by simp[ap])
 rw[Jy,Js]at h1;obtain⟨v,hv,rfl⟩:=h1;have e:fS bs u=v:=by unfold fS; rw[JT,hv]; rfl
 rw[e];obtain⟨t,ht,rfl⟩:=JE.mp (JG hv);exact#[t,ht,rfl,λs hs=>h3 _ (JE.mpr #[_,JE.mpr #[s,hs,rfl],rfl])]
def wx {bs:Jn JI}{u:Wd}(h:u.length=3):fS bs u=aG bs u:=by
 obtain⟨t,ht,e,mn⟩:=EJ (bs:=bs) (u:=u);obtain⟨o,h1,h2,h3⟩:=dz (bs:=bs) (u:=u);have hl:∀t∈ap,gC (bz (ah bs u t)) (bz (aG bs u))=ba false:=λt ht=>by
  obtain⟨g1,g2⟩:=dY.mp ht;rw[<- h]at g1 g2;exact(nw (bs:=bs) (u:=u) u.length (JB _)).least t g1 g2
 refine dQ (uR (jF _) ?_ ?_)
 ·rw[e]; exact hl t ht
 ·rw[<- h3];rw[h]at h1 h2;exact mn o (dY.mpr #[h1,h2])
def iE (us:Jn Wd):(bM us).Perm us:=dv
structure KeyD (U:Jn (T×W))(us:Jn Wd):Prop where
 keys:U.map (·.1)=us.map bz
 nd:us.Nodup
def KeyD.put {U:Jn (T×W)}{us:Jn Wd}{f:Wd}{v:W}(h:KeyD U us):∃us',KeyD (d7 U (bz f) v) us'/\∀g,g∈us'↔g∈us\/g=f:=by
 by_cases hm:f∈us
 ·refine#[us,#[?_,h.nd],λg=>#[.inl,λz=>z.elim id λe=>e ▸ hm]]
  rw[fq,JZ (by rw[h.keys]; exact JE.mpr #[f,hm,rfl]),h.keys]
 ·refine#[us++[f],#[?_,?_],λg=>by rw[Kd,JD]]
  ·rw[fq,Kb,h.keys,Ke]
   ·rfl
   ·rw[h.keys];intro z;obtain⟨g,hg,e⟩:=JE.mp z;exact hm (dQ e ▸ hg)
  ·rw[Ly];refine#[h.nd,by simp,λa ha b hb e=>?_]
   rw[JD.mp hb]at e;exact hm (e ▸ ha)
def KeyD.len {U:Jn (T×W)}{us:Jn Wd}(h:KeyD U us):U.length=us.length:=by
 have:=congrArg Ru h.keys;rw[Jp,Jp]at this;exact this
abbrev EW (a n k:Jx):Prop:=k<=3\/(k<=4/\a=1/\n<=2)
def uX {bs:Jn JI}{a k:Jx}{X us:Jn Wd}(hs:SizeOk a bs)(hT:jZ bs X)(hk:EW a bs.length k)(hn:us.Nodup)(hu:∀L∈us,Unl bs a X k L):us.length < 64:=by
 have hb:=hs.good;obtain⟨n1,n3⟩:=hs.n3;have xx:∀L∈us,L∈aQ a bs.length k:=λL hL=>(uW hs.pos n1).mpr #[((hu L hL).good hb hT).1,((hu L hL).good hb hT).2.1]
 have len:us.length<=(aQ a bs.length k).length:=jJ hn xx;have w0:(aQ a bs.length 0).length=1:=rfl;have w1:(aQ a bs.length 1).length=a:=by rw[bE,w0,cz]; simp
 have w2:(aQ a bs.length 2).length=a*(a*bs.length):=by rw[bE,w1,cz]; simp
 have m2:a*(a*bs.length)<=18:=MW hs.a3 hs.most;rcases hk with hk|⟨hk,rfl,h2⟩
 ·have:k=0\/k=1\/k=2\/k=3:=∅
  rcases this with rfl|rfl|rfl|rfl
  ·omega
  ·have:=hs.a3; omega
  ·omega
  ·refine Mt (jJ (B:=aM a bs) hn λL hL=>?_) (jb hs)
   obtain⟨g1,g2,_,g4⟩:=(hu L hL).good hb hT;rw[<- g4,<- wx g2];exact oR g1 g2
 ·by_cases h3:k<=3
  ·refine Mt len ?_;have w3:(aQ 1 bs.length 3).length=bs.length*(bs.length ^ 2):=by rw[bE,w2,cz]; simp only[Nat.one_mul]
   have h4:bs.length*(bs.length ^ 2)<=2*(2 ^ 2):=MW h2 (LU h2 2);have:k=0\/k=1\/k=2\/k=3:=∅
   rcases this with rfl|rfl|rfl|rfl <;> omega
  ·have:k=4:=∅
   subst this;have out:∀w,aG bs w≠w->w∈aQ 1 bs.length 4->us.length < (aQ 1 bs.length 4).length:=λw hw hm=>by
    have:=jJ (B:=(aQ 1 bs.length 4).erase w) hn λL hL=>(N8 (λ(e:L=w)=>hw (by rw[<- e]; exact((hu L hL).good hb hT).2.2.2))).mpr (xx L hL)
    rw[NB hm]at this;have:=Mj hm;omega
   rcases hb with rfl|rfl|rfl|rfl|rfl|rfl
   ·exact Mt len (by decide +kernel)
   ·have:=out [(0,[]),(0,[1]),(0,[0,0]),(0,[0,0,0])] (by decide +kernel) (by decide +kernel)
    exact J4 this (by decide +kernel)
   ·have:=out [(0,[]),(0,[1]),(0,[0,0]),(0,[0,0,0])] (by decide +kernel) (by decide +kernel)
    exact J4 this (by decide +kernel)
   ·exact absurd h2 #v[]
   ·exact absurd h2 #v[]
   ·exact absurd h2 #v[]
abbrev cw:Ss:=
 #v[.set 2 (.own "barred_threes" 1 #v[.v 0]),.set 3 (.lst #v[.tup .nil]),.loop (.nm 4) (.rng #v[.v 1]) #v[.set 5 .dnew,.loop (.nm 6) (.seq (.v 3)) #v[.loop (.nm 7) (.seq (.own "wishes_over" 3 #v[.v 0,.v 2,.v 6])) #v[.put (.v 5) (.own "least_form" 2 #v[.v 0,.op .add (.v 6) (.tup #v[.v 7])]) (.c (.bl true))]],.set 3 (.bi .sorted #v[.v 5])],.ret (.v 3)]
structure Cts (defs:Jn (JV×Df)):Prop where
 parts:Parts defs
 part:Is defs ("part" : JV) 3 3 jD
 longer:Is defs ("longer_orders" : JV) 2 4 aO
 least:Is defs ("least_form" : JV) 2 7 cU
 bar:Is defs ("barred_threes" : JV) 1 5 bG
 three:Is defs ("three_at" : JV) 4 6 cC
 fbar:Is defs ("first_bar" : JV) 2 4 cH
 lwish:Is defs ("longer_wishes" : JV) 2 5 bg
 wish:Is defs ("wishes_over" : JV) 3 7 cf
 unl:Is defs ("unlike_worlds" : JV) 2 8 cw
structure Forms (bs:Jn JI)(a:Jx)(X:Jn Wd)(k:Jx)(F:Jn Wd):Prop where
 nd:F.Nodup
 mem:∀L,L∈F↔Unl bs a X k L
section
variable{defs:Jn (JV×Df)}{fuel d:Jx}{S:aa}{Q:QW}
def z6 (hfu:20 < fuel)(C:Cts defs){ms:Jn W}{ns:Jn JV}{bs:Jn JI}{a k:Jx}{gs:Jn Wd}(hs:SizeOk a bs)(hml:ms.length=a)(hnl:ns.length=bs.length)(hgs:∀g∈gs,GoodW a bs.length g/\g.length=3)(h64:gs.length<=100)(hk:EW a bs.length k)
  (kk:∀(q:Jx) (F:Jn Wd) (S':aa),Forms bs a (cG bs gs) k F->F.length < 64->S'[q]?=ba (.lst (F.map au))->Ka S S'->Q (.ref q,S')) :
  wO (aP (am defs fuel (d+5)) "unlike_worlds" 2 [.tup [.tup ms,.tup (JU aN ns bs),.tup (gs.map au)],.int (k:JI)] S) Q:=by
 refine ay C.unl rfl rfl λQ' hR=>?_
 replace kk:∀(q:Jx) (F:Jn Wd) (S':aa),Forms bs a (cG bs gs) k F->F.length < 64->S'[q]?=ba (.lst (F.map au))->Ka S S'->Q' (.rt (.ref q),S'):=λq F S' x y z w=>hR _ _ (kk q F S' x y z w)
 clear hR;show wZ _ _ cw [ba (.tup [.tup ms,.tup (JU aN ns bs),.tup (gs.map au)]),ba (.int (k:JI)),gV,gV,gV,gV,gV,gV] S Q';have hb:=hs.good;obtain⟨n1,n3⟩:=hs.n3;have hT:=jI hb hgs;have zl:(JU aN ns bs).length=bs.length:=by rw[Mg,hnl]; omega
 have hk4:k<=4:=by rcases hk with h|⟨h,_⟩ <;> omega
 have hkf:∀i,i<=k->EW a bs.length i:=λi hi=>by
  rcases hk with h|⟨h,h1,h2⟩
  ·exact .inl ∅
  ·exact .inr #[∅,h1,h2]
 dsimp only[cw];nofun
 left;refine zR (d:=d) hfu C.parts C.part C.longer C.bar hb hnl hgs h64 λqb U S1 e1 hH _ k1=>hK _ _ ?_
 clear hK K;generalize hR0:W.tup [.tup ms,.tup (JU aN ns bs),.tup (gs.map au)]=R;generalize cG bs gs=X at hH hT kk;refine st ?_;dsimp only[wS,wE,wA,JK];nofun
 refine cr (k:JI) (λi Z S'=>∃(q:Jx) (F:Jn Wd) (a4 a5 a6 a7:Jw W),Z=[ba R,ba (.int (k:JI)),ba (.ref qb),ba (.ref q),a4,a5,a6,a7]/\Forms bs a X i F/\F.length < 64/\S'[q]?=ba (.lst (F.map au))/\S'[qb]?=ba (.dic U)/\Ka S S') rfl rfl ∅ #[rfl,_,[[]],_,_,_,_,rfl,#[by simp,λL=>by rw[zX,JD]],#v[],ag,ak e1,k1.trans .push] ?_ ?_
 ·rintro i Z S2 hi ⟨q,F,a4,a5,a6,a7,rfl,hF,hF64,e2,b2,k2⟩ Q2 hn2 _;clear hK kk;have hik:i+1<=k:=∅
  have hq2:=bP e2;have hb2:=bP b2;have hFg:∀L∈F,GoodW a bs.length L/\L.length=i/\iC X L/\aG bs L=L:=λL hL=>((hF.mem L).mp hL).good hb hT
  dsimp only[JK];refine st ?_;dsimp only[wS,wE,JK];nofun
  have un:∀us:Jn Wd,(∀g∈us,∃L∈F,∃h∈ey U L a bs.length,g=aG bs (L++[h]))->∀g∈us,Unl bs a X (i+1) g:=λus h g hg=>by
   obtain⟨L,hL,hh⟩:=h g hg;exact(jg hb hT hH).mpr #[L,(hF.mem L).mp hL,hh]
  refine km q (F.map au) (λx Z S3=>(∃a6 a7,Z=[ba R,ba (.int (k:JI)),ba (.ref qb),ba (.ref q),ba (.int (i:JI)),ba (.ref S2.length),a6,a7])/\(∃kv us,S3[S2.length]?=ba (.dic kv)/\KeyD kv us/\∀g,g∈us↔∃L∈F.take x,∃h∈ey U L a bs.length,g=aG bs (L++[h]))/\S3[q]?=ba (.lst (F.map au))/\S3[qb]?=ba (.dic U)/\Ka S S3) rfl rfl #[rfl,#[_,_,rfl],#[[],[],ag,#[rfl,.nil],λg=>by simp],ak e2,ak b2,k2.trans .push] (λ_ _ _ h=>h.2.2.1) ?_ ?_
  ·rintro x w Z S3 hw ⟨⟨a6,a7,rfl⟩,⟨kv,us,e3,hD,hmem⟩,q3,b3,k3⟩;clear hK hn2;rw[Jy,Js]at hw;obtain⟨L,hL,rfl⟩:=hw;have hLF:=JG hL;obtain⟨g1,g2,g3,g4⟩:=hFg L hLF;have gsn:∀h∈ey U L a bs.length,GoodW a bs.length (L++[h]):=λh hh=>((lP hH g1 g3).mp hh).1
   have sub1:∀L'∈F.take x,L'∈F:=λL' h=>Lb h
   refine ac (show eS (.nm 6) (au L) [ba R,ba (.int (k:JI)),ba (.ref qb),ba (.ref q),ba (.int (i:JI)),ba (.ref S2.length),a6,a7] S3=ba ([ba R,ba (.int (k:JI)),ba (.ref qb),ba (.ref q),ba (.int (i:JI)),ba (.ref S2.length),ba (au L),a7],S3)from rfl) ?_
   intro Q3 hn3 _;nofun
   replace hK:∀Z' S',Q3 (.nx Z',S')->K Z' S':=λZ' S' h=>hK _ _ (b6 h)
   refine gq rfl rfl ?_;dsimp only[wE,wA,wV,wG];subst hR0;refine l7 (d:=d+1) C.three C.fbar C.lwish C.wish hml zl hs.a3 n3 g1 ∅ b3 λl S4 e4 hl4 k4=>?_
   have hunW:∀h∈ey U L a bs.length,Unl bs a X (i+1) (aG bs (L++[h])):=λh hh=>(jg hb hT hH).mpr #[L,(hF.mem L).mp hLF,h,hh,rfl]
   have hsuf:∀g,(∃L'∈F.take (x+1),∃h∈ey U L' a bs.length,g=aG bs (L'++[h]))↔(∃L'∈F.take x,∃h∈ey U L' a bs.length,g=aG bs (L'++[h]))\/∃h∈ey U L a bs.length,g=aG bs (L++[h]):=λg=>by
    rw[J2,hL];constructor
    ·rintro⟨L',h1,h2⟩;rcases Kd.mp h1 with z|z
     ·exact .inl #[L',z,h2]
     ·have:L'=L:=by simpa using z
      subst this;exact .inr h2
    ·rintro(⟨L',h1,h2⟩|h2)
     ·exact#[L',KW _ h1,h2]
     ·exact#[L,Kg _ (by simp),h2]
   have hS3:=bP e3;generalize ey U L a bs.length=Ws at e4 gsn hunW hsuf;refine#[l,Ws.map bf,λy Z S5=>(∃a7,Z=[ba (.tup [.tup ms,.tup (JU aN ns bs),.tup (gs.map au)]),ba (.int (k:JI)),ba (.ref qb),ba (.ref q),ba (.int (i:JI)),ba (.ref S2.length),ba (au L),a7])/\(∃kv us,S5[S2.length]?=ba (.dic kv)/\KeyD kv us/\∀g,g∈us↔(∃L'∈F.take x,∃h∈ey U L' a bs.length,g=aG bs (L'++[h]))\/∃h∈Ws.take y,g=aG bs (L++[h]))/\S5[l]?=ba (.lst (Ws.map bf))/\S5[q]?=ba (.lst (F.map au))/\S5[qb]?=ba (.dic U)/\Ka S S5,rfl,#[#[_,rfl],#[kv,us,k4.get _ _ e3,hD,λg=>by rw[hmem]; simp],e4,k4.get _ _ q3,k4.get _ _ b3,k3.trans k4],λ_ _ _ h=>h.2.2.1,?_,?_]
   ·rintro y w Z S5 hw ⟨⟨a7,rfl⟩,⟨kv5,EY,e5,hD5,hm5⟩,l5,q5,b5,k5⟩;clear hK hn3;rw[Jy,Js]at hw;obtain⟨h,hh,rfl⟩:=hw;have hhW:=JG hh;refine ac (show eS (.nm 7) (bf h) [ba (.tup [.tup ms,.tup (JU aN ns bs),.tup (gs.map au)]),ba (.int (k:JI)),ba (.ref qb),ba (.ref q),ba (.int (i:JI)),ba (.ref S2.length),ba (au L),a7] S5=ba ([ba (.tup [.tup ms,.tup (JU aN ns bs),.tup (gs.map au)]),ba (.int (k:JI)),ba (.ref qb),ba (.ref q),ba (.int (i:JI)),ba (.ref S2.length),ba (au L),ba (bf h)],S5)from rfl) ?_
    intro Q4 hn4 _;refine st ?_;left;refine ac (show fI .add (au L) (.tup [bf h]) S5=ba (au (L++[h]),S5)from ?_) ?_
    ·unfold au;rw[ip (jV (by simp; omega)),Ke]; rfl
    dsimp only;refine o7 (d:=d+1) hfu C.parts C.longer C.least hb hnl (gsn h hhW) (by simp; omega) λS6 k6=>?_
    have e6:=k6.get _ _ e5;have hlen:EY.length < 64:=uX hs hT (hkf _ hik) hD5.nd λg hg=>by
     rcases(hm5 g).mp hg with⟨L',h1,h',h2,rfl⟩|⟨h',h2,rfl⟩
     ·exact(jg hb hT hH).mpr #[L',(hF.mem L').mp (sub1 L' h1),h',h2,rfl]
     ·exact hunW h' (Lb h2)
    obtain⟨us',hD',hm'⟩:=hD5.put (f:=aG bs (L++[h])) (v:=.bl true);refine ac (uK e6 (by rw[hD5.len,Ky]; omega)) (b6 (hn4 _ _ #[#[_,rfl],#[_,us',bo e6,hD',λg=>?_],?_,?_,?_,(k5.trans k6).late k2.len]))
    ·rw[hm' g,hm5 g,J2,hh];constructor
     ·rintro((z|⟨h',h2,e⟩)|z)
      ·exact .inl z
      ·exact .inr #[h',KW _ h2,e]
      ·exact .inr #[h,Kg _ (by simp),z]
     ·rintro(z|⟨h',h2,e⟩)
      ·exact .inl (.inl z)
      ·rcases Kd.mp h2 with y|y
       ·exact .inl (.inr #[h',y,e])
       ·have:h'=h:=by simpa using y
        subst this;exact .inr e
    ·rw[bj ∅]; exact k6.get _ _ l5
    ·rw[bj ∅]; exact k6.get _ _ q5
    ·rw[bj ∅]; exact k6.get _ _ b5
   ·rintro Z S5 ⟨⟨a7,rfl⟩,⟨kv5,EY,e5,hD5,hm5⟩,l5,q5,b5,k5⟩;rw[Jp,Kc]at hm5;exact hK _ _ (hn3 _ _ #[#[_,_,rfl],#[kv5,EY,e5,hD5,λg=>by rw[hsuf g]; exact hm5 g],q5,b5,k5])
  ·rintro Z S3 ⟨⟨a6,a7,rfl⟩,⟨kv,us,e3,hD,hmem⟩,q3,b3,k3⟩;rw[Jp,Kc]at hmem;have hmu:∀g,g∈us↔Unl bs a X (i+1) g:=λg=>by
    rw[hmem g,jg hb hT hH];exact#[λ#[L,h1,h2]=>#[L,(hF.mem L).mp h1,h2],λ#[L,h1,h2]=>#[L,(hF.mem L).mpr h1,h2]]
   have h64':us.length < 64:=uX hs hT (hkf _ hik) hD.nd λg hg=>(hmu g).mp hg
   refine hK _ _ (st ?_);left;have hit:dB S3 (.ref S2.length)=ba (us.map au):=(FigD.items (L:=us) #[hD.keys,hD.nd,λ_ h=>h] e3)
   refine sJ hit h64' (λg hg=>?_) (b6 (hn2 _ _ #[_,bM us,_,_,_,_,rfl,#[(iE us).nodup_iff.mpr hD.nd,λg=>by rw[(iE us).mem_iff]; exact hmu g],by rw[(iE us).length_eq]; exact h64',ag,ak b3,k3.trans .push]))
   obtain⟨_,g2,_⟩:=((hmu g).mp hg).good hb hT;exact λz=>by rw[z]at g2; cases g2
 ·rintro Z S2 ⟨q,F,a4,a5,a6,a7,rfl,hF,hF64,e2,b2,k2⟩;rw[JO]at hF;exact hK _ _ (st (kk q F S2 hF hF64 e2 k2))
end
abbrev fF:Ss:=
 #v[.loop (.nm 3) (.rng2 #v[.c (.int 2),.bi .len #v[.v 2]]) #v[.ite (.not (.own "_law_last_may" 4 #v[.v 0,.v 1,.v 2,.v 3])) #v[.ret (.c (.bl false))] .nil],.ret (.c (.bl true))]
abbrev Ad (U:Jn (T×W))(u:Wd):J6:=(JW u.length).all λk=>rm U u k (u.getD k (0,[]))
def Cj {U:Jn (T×W)}{X:Jn Wd}{u:Wd}(hH:HasD U X):Ad U u=true↔iC X u:=by
 unfold Ad;rw[JP];have bar:∀i j k,dH U u (u.getD k (0,[])) i j=false↔cV u i j k∉X:=λi j k=>by
  show(bN U (bz (cV u i j k))).isSome=false↔_;rw[hH.get,MV];constructor
  ·exact λz y=>z (Qf y)
  ·intro z y;obtain⟨x,hx,e⟩:=JE.mp y;rw[<- dQ e]at z;exact z hx
 constructor
 ·intro h i j k h1 h2 h3;exact(bar i j k).mp (jf.mp (h k (JQ.mpr h3)) j h2 i h1)
 ·intro h k hk;exact jf.mpr λj hj i hi=>(bar i j k).mpr (h i j k hi hj (JQ.mp hk))
section
variable{defs:Jn (JV×Df)}{fuel d:Jx}{S:aa}{Q:QW}
def sU (hg:Is defs ("_law_last_may" : JV) 4 8 bx){R:W}{a n q m0:Jx}{u:Wd}{U:Jn (T×W)}(hu:GoodW a n u)(hk:m0 < u.length)(hl:u.length<=1000)(e:S[q]?=ba (.dic U))(k:Q (.bl (rm U u m0 (u.getD m0 (0,[]))),S)) :
  wO (aP (am defs fuel (d+1)) "_law_last_may" 4 [R,.ref q,au u,.int (m0:JI)] S) Q:=by
 refine ay hg rfl rfl λQ' hR=>?_
 replace k:=hR _ _ k;clear hR;show wZ _ _ bx [ba R,ba (.ref q),ba (au u),ba (.int (m0:JI)),gV,gV,gV,gV] S Q';have hh:(u.getD m0 (0,[])).2.length=m0:=hu.len m0 _ (al (d:=(0,[])) hk);have at':∀p < m0,((u.map bf)[((p:Jx):JI).toNat]?=ba (bf (u.getD p (0,[])))):=λp hp=>eJ ∅
 have hw:∀p < m0,(af (u.getD m0 (0,[])).2)[((p:Jx):JI).toNat]?=ba (.int ((u.getD m0 (0,[])).2.getD p 0)):=λp hp=>by
  rw[JO]; unfold af; rw[Jy,al (d:=0) ∅]; rfl
 dsimp only[bx];refine st ?_;dsimp only[wS,wE,wV,wG];refine aj (JR _) (eJ hk) ?_;generalize u.getD m0 (0,[])=h at hh hw k;dsimp only[wU,bf];refine ac (show cM [4,5] [.int h.1,.tup (h.2.map W.int)] [ba R,ba (.ref q),ba (au u),ba (.int (m0:JI)),gV,gV,gV,gV]=ba [ba R,ba (.ref q),ba (au u),ba (.int (m0:JI)),ba (.int h.1),ba (.tup (af h.2)),gV,gV]from rfl) ?_
 nofun
 refine jd 1 (m0:JI) (λm Z S'=>(∃a6 a7,Z=[ba R,ba (.ref q),ba (au u),ba (.int (m0:JI)),ba (.int h.1),ba (.tup (af h.2)),a6,a7])/\S'=S/\∀j < m+1,∀p < j,dH U u h p j=false) rfl rfl rfl ∅ #[rfl,rfl,#[_,_,rfl],rfl,λj hj p hp=>∅] ?_ ?_
 ·rintro m Z S1 hm ⟨⟨a6,a7,rfl⟩,rfl,no⟩ Q2 hn2 hr2;clear hK;rw[show(1:JI)+m=((m+1:Jx):JI) by omega]
  have hmu:m+1 < m0:=∅
  generalize hj:m+1=j at hmu hn2 no;dsimp only[JK];nofun
  refine cr (j:JI) (λi Z S'=>(∃a7,Z=[ba R,ba (.ref q),ba (au u),ba (.int (m0:JI)),ba (.int h.1),ba (.tup (af h.2)),ba (.int (j:JI)),a7])/\S'=S1/\∀p < i,dH U u h p j=false) rfl rfl ∅ #[rfl,#[_,rfl],rfl,λp hp=>∅] ?_ ?_
  ·rintro i Z S2 hi ⟨⟨a7,rfl⟩,rfl,no2⟩ Q3 hn3 hr3;clear hK;have hij:i < j:=∅
   have hiu:i < m0:=∅
   have lj:i < (u.getD j (0,[])).2.length:=by rw[hu.len j _ (al (d:=(0,[])) ∅)]; exact hij
   dsimp only[JK];nofun
   dsimp only[wS,wT,wE,wA,wV,wG];refine aj (JR i) (at' i hiu) (aj #v[] rfl (aj (JR j) (at' j hmu) (aj #v[] rfl (aj (JR j) (at' j hmu) (aj #v[] rfl (aj (w:=.int ((u.getD j (0,[])).2.getD i 0)) (JR i) (by rw[JO,Jy,al (d:=0) lj]; rfl) (aj (JR i) (hw i hiu) (aj (JR j) (hw j hmu) ?_))))))))
   refine ac (show cZ .isin (au [((u.getD i (0,[])).1,[]),((u.getD j (0,[])).1,[(u.getD j (0,[])).2.getD i 0]),(h.1,[h.2.getD i 0,h.2.getD j 0])]) (.ref q) S2=ba (.bl (dH U u h i j),S2) by simp only[cZ,cq e,sG]; rfl) ?_
   dsimp only[wB];refine aF (Q0:=Q3) (λhb Q5 _ hr5=>?_) (λhb Q5 hn5 _=>b6 (hn5 _ _ (hK _ _ (b6 (hn3 _ _ #[#[_,rfl],rfl,λp hp=>?_])))))
   ·refine st ?_;dsimp only[wS,wE];have:rm U u m0 h=false:=by
     rw[OY];intro z;rw[jf.mp z j hmu i hij]at hb;cases hb
    rw[this]at k;exact hr5 _ _ (hr3 _ _ (hr2 _ _ k))
   ·by_cases ep:p=i
    ·rw[ep]; exact hb
    ·exact no2 p ∅
  ·rintro Z S2 ⟨⟨a7,rfl⟩,rfl,no2⟩;rw[JO]at no2;refine hK _ _ (b6 (hn2 _ _ #[#[_,_,rfl],rfl,λj' hj' p hp=>?_]))
   by_cases ej:j'=j
   ·subst ej; exact no2 p hp
   ·exact no j' ∅ p hp
 ·rintro Z S1 ⟨⟨a6,a7,rfl⟩,rfl,no⟩;refine hK _ _ (st ?_);dsimp only[wS,wE];rw[jf.mpr λq hq p hp=>no q ∅ p hp]at k
  exact k
def GX (hlm:Is defs ("_law_last_may" : JV) 4 8 bx)(hg:Is defs ("_law_may" : JV) 3 4 fF){R:W}{a n q:Jx}{u:Wd}{U:Jn (T×W)}(hu:GoodW a n u)(hl:u.length<=1000)(e:S[q]?=ba (.dic U))(k:Q (.bl (Ad U u),S)) :
  wO (aP (am defs fuel (d+2)) "_law_may" 3 [R,.ref q,au u] S) Q:=by
 refine ay hg rfl rfl λQ' hR=>?_
 replace k:=hR _ _ k;clear hR;show wZ _ _ fF [ba R,ba (.ref q),ba (au u),gV] S Q';have ul:(u.map bf).length=u.length:=Jp ..;dsimp only[fF];nofun
 refine jd 2 (u.length:JI) (λm Z S'=>(∃a3,Z=[ba R,ba (.ref q),ba (au u),a3])/\S'=S/\∀j < m+2,j < u.length->rm U u j (u.getD j (0,[]))=true) rfl rfl rfl ∅ ?_ ?_ ?_
 ·dsimp only[wE,wA,wV,wG];refine#[rfl,bp ?_];rw[ul];exact#[rfl,#[_,rfl],rfl,λj hj _=>jf.mpr λy hy x hx=>∅]
 ·rintro m Z S1 hm ⟨⟨a3,rfl⟩,rfl,no⟩ Q2 hn2 hr2;clear hK;rw[show(2:JI)+m=((m+2:Jx):JI) by omega]
  have hmu:m+2 < u.length:=∅
  dsimp only[JK];nofun
  dsimp only[wS,wT,wE,wA,wV,wG];refine sU (d:=d) hlm hu hmu hl e ?_;refine ac (show gM S1 (.bl (rm U u (m+2) (u.getD (m+2) (0,[]))))=ba (rm U u (m+2) (u.getD (m+2) (0,[])))from rfl) ?_
  refine aF (Q0:=Q2) (λz Q5 _ hr5=>?_) (λz Q5 hn5 _=>b6 (hn5 _ _ (hK _ _ (b6 (hn2 _ _ #[#[_,rfl],rfl,λj hj hju=>?_])))))
  ·refine st ?_;dsimp only[wS,wE];have:Ad U u=false:=by
    rw[OY];intro y;have:=JP.mp y (m+2) (JQ.mpr hmu);rw[this]at z;cases z
   rw[this]at k;exact hr5 _ _ (hr2 _ _ k)
  ·by_cases ej:j=m+2
   ·rw[ej]; simpa using z
   ·exact no j ∅ hju
 ·rintro Z S1 ⟨⟨a3,rfl⟩,rfl,no⟩;refine hK _ _ (st ?_);dsimp only[wS,wE];have:Ad U u=true:=JP.mpr λj hj=>no j (by have:=JQ.mp hj; omega) (JQ.mp hj)
  rw[this]at k;exact k
end
abbrev cg:Ss:=
 #v[.set 2 (.c (.int 1)),.loop (.nm 3) (.rng #v[.v 1]) #v[.set 2 (.op .mul (.v 2) (.op .add (.v 3) (.c (.int 1))))],.ret (.bi .sum #v[.comp (.op .fdiv (.v 2) (.bi .len #v[.own "likenesses" 3 #v[.v 3,.v 1,.v 1]])) (.nm 1) (.seq (.own "unlike_worlds" 2 #v[.v 0,.v 1])) .nil [gV,gV,ba 2,ba 0]])]
def wy (k:Jx):(eB (k+1)).length=(eB k).length*(k+1):=by
 show((eB k).flatMap λo=>(JW (k+1)).map λi=>o.take i++[k]++o.drop i).length=_
 induction eB k with
 | nil=>simp
 | cons o os ih=>rw[K7,JC,ih,Jp,J7,J9,M0,Pe]
def nC {α:Type}(f:α->JI):∀xs:Jn α,lf (xs.map λx=>W.int (f x))=ba (xs.map f)
 | []=>rfl
 | x::xs=>by show(lf (xs.map λx=>W.int (f x))).map _=_; rw[nC f xs]; rfl
def GY {α:Type}{S:aa}{l:Jx}{xs:Jn α}{f:α->JI}{Q:QW}(h:S[l]?=ba (.lst (xs.map λx=>W.int (f x))))(hl:xs.length<=1000)(hf:∀x∈xs,0<=f x/\f x < 2 ^ 53)(q:Q (.int (xs.map f).sum,S)):wO (Bi.sum.fn [.ref l] S) Q:=by
 refine ac (a:=(.int (xs.map f).sum,S)) ?_ q;simp only[Bi.fn,BI,aw h,nC];rw[JZ];unfold yD;rw[Jv,JL,JP,Jp];refine#[hl,λz hz=>?_]
 obtain⟨x,hx,rfl⟩:=JE.mp hz;rw[Jv,JL,JL];exact hf x hx
def rB {α:Type}{f:α->Jx}:∀xs:Jn α,(xs.map λx=>((f x:Jx):JI)).sum=(((xs.map f).sum:Jx):JI)
 | []=>rfl
 | x::xs=>by rw[KF,Nz,rB xs,KF,Nz,Int.natCast_add]
def GZ {M:JV->FF}{fuel:Jx}{S:aa}{r0 r1:Jw W}{x y:JI}{Q:QO}(h1 : -(2 ^ 64) < y+1)(h2:y+1 < 2 ^ 64)(k:Q (.nx [r0,r1,ba (.int (x*(y+1))),ba (.int y)],S)):wZ M fuel #v[.set 2 (.op .mul (.v 2) (.op .add (.v 3) (.c (.int 1))))] [r0,r1,ba (.int x),ba (.int y)] S Q:=by
 have em:fI .mul (.int x) (.int (y+1)) S=ba (.int (x*(y+1)),S):=mU h1 h2;have ea:fI .add (.int y) (.int 1) S=ba (.int (y+1),S):=db;refine st ?_;dsimp only[wS,wE,wV,wG,JK];generalize fI .mul=bm at em ⊢;exact ac ea (ac em (b6 k))
section
variable{defs:Jn (JV×Df)}{fuel d:Jx}{S:aa}{Q:QW}
def EK (hfu:20 < fuel)(C:Cts defs)(hlk:Is defs ("likenesses" : JV) 3 6 bX)(hg:Is defs ("told_worlds" : JV) 2 4 cg){ms:Jn W}{ns:Jn JV}{bs:Jn JI}{a k:Jx}{gs:Jn Wd}(hs:SizeOk a bs)(hml:ms.length=a)(hnl:ns.length=bs.length)(hgs:∀g∈gs,GoodW a bs.length g/\g.length=3)(h64:gs.length<=100)(hk:EW a bs.length k)
  (kk:∀(F:Jn Wd) (S':aa),Forms bs a (cG bs gs) k F->Ka S S'->Q (.int (((F.map λL=>(eB k).length / (aL bs L L k).length).sum:Jx):JI),S')) :
  wO (aP (am defs fuel (d+6)) "told_worlds" 2 [.tup [.tup ms,.tup (JU aN ns bs),.tup (gs.map au)],.int (k:JI)] S) Q:=by
 refine ay hg rfl rfl λQ' hR=>?_
 replace kk:∀(F:Jn Wd) (S':aa),Forms bs a (cG bs gs) k F->Ka S S'->Q' (.rt (.int (((F.map λL=>(eB k).length / (aL bs L L k).length).sum:Jx):JI)),S'):=λF S' x y=>hR _ _ (kk F S' x y)
 clear hR;show wZ _ _ cg [ba (.tup [.tup ms,.tup (JU aN ns bs),.tup (gs.map au)]),ba (.int (k:JI)),gV,gV] S Q';have hb:=hs.good;have hT:=jI hb hgs;have hk4:k<=4:=by rcases hk with h|⟨h,_⟩ <;> omega
 have hok:(eB k).length<=24:=by
  have:k=0\/k=1\/k=2\/k=3\/k=4:=∅
  rcases this with rfl|rfl|rfl|rfl|rfl <;> decide +kernel
 dsimp only[cg];refine st ?_;dsimp only[wS,wE,JK];nofun
 refine cr (k:JI) (λi Z S'=>(∃a3,Z=[ba (.tup [.tup ms,.tup (JU aN ns bs),.tup (gs.map au)]),ba (.int (k:JI)),ba (.int ((eB i).length:JI)),a3])/\S'=S) rfl rfl ∅ #[rfl,#[_,rfl],rfl] ?_ ?_
 ·rintro i Z S1 hi ⟨⟨a3,rfl⟩,rfl⟩ Q2 hn2 _;clear hK kk;dsimp only[JK];have hN:((eB i).length:JI)*((i:JI)+1)=((eB (i+1)).length:JI):=by rw[wy,Oc]; rfl
  have b1 : -(2 ^ 64) < (i:JI)+1:=∅
  have b2:(i:JI)+1 < 2 ^ 64:=∅
  refine GZ b1 b2 ?_;rw[hN];exact hn2 _ _ #[#[_,rfl],rfl]
 ·rintro Z S1 ⟨⟨a3,rfl⟩,rfl⟩;rw[JO];refine hK _ _ (st ?_);clear hK K;dsimp only[wS,wE,wA];generalize hN:(eB k).length=N at kk hok ⊢;have hun:wO (aP (am defs fuel (d+5)) "unlike_worlds" 2 [.tup [.tup ms,.tup (JU aN ns bs),.tup (gs.map au)],.int (k:JI)] S1) λq=>∃F:Jn Wd,Forms bs a (cG bs gs) k F/\F.length < 64/\∃t,q.1=.ref t/\q.2[t]?=ba (.lst (F.map au))/\Ka S1 q.2:=z6 (d:=d) hfu C hs hml hnl hgs h64 hk λq F S' h1 h2 h3 h4=>#[F,h1,h2,q,rfl,h3,h4]
  obtain⟨⟨w,S2⟩,ew,F,hF,hF64,t,rfl,e2,k2⟩:=bZ hun;have hFg:∀L∈F,GoodW a bs.length L/\L.length=k:=λL hL=>#[(((hF.mem L).mp hL).good hb hT).1,(((hF.mem L).mp hL).good hb hT).2.1]
  have lpos:∀L∈F,0 < (aL bs L L k).length/\(aL bs L L k).length<=3125:=λL hL=>by
   obtain⟨g1,g2⟩:=hFg L hL;subst g2;refine#[Mj ((fE g1).mpr #[#[LZ,λp hp=>JQ.mp hp],J7,gJ g1]),?_]
   exact JY (lE _) (JY (LU (show L.length<=5 by omega) _) (JY (L4 #v[] (show L.length<=5 by omega)) #v[]))
  refine oZ F au (λ_=>true) (λL=>W.int (((N / (aL bs L L k).length:Jx)):JI)) [ba (.int (N:JI)),ba (.tup [.tup ms,.tup (JU aN ns bs),.tup (gs.map au)])] rfl rfl rfl rfl ∅ ?_ (λL hL S' k'=>?_) λS3 k3=>?_
  ·dsimp only[wE,wA,wV,wG];exact ac ew #[t,rfl,e2,k2]
  ·obtain⟨g1,g2⟩:=hFg L hL;obtain⟨l1,l2⟩:=lpos L hL;dsimp only[gR,wC,wE,wA,wV,wG];refine#[λ_=>oY (d:=d+2) C.parts C.longer hlk hb hnl g1 ∅ ∅ λq S4 e4 _ k4=>?_,λz=>by cases z]
   refine gm e4 ?_;rw[show(aR (aL bs L L L.length)).length=(aL bs L L k).length by unfold aR; rw[Jp,g2]]
   refine ac (gk ∅ ∅) #[rfl,?_,k4]
   rfl
  ·rw[lI];refine GY (xs:=F) (f:=λL=>((N / (aL bs L L k).length:Jx):JI)) ag ∅ (λL hL=>?_) ?_
   ·have:=Nat.div_le_self N (aL bs L L k).length;exact#[JR _,∅]
   ·rw[rB];exact kk F _ hF (k3.trans .push)
end
abbrev kq:Ss:=
 #v[.set 1 (.own "_law_flow" 1 #v[.v 0]),.set 2 (.own "_law_full_rule" 1 #v[.v 1]),.set 3 (.own "_law_bad" 1 #v[.v 2]),.set 4 (.own "_law_pick" 2 #v[.v 1,.ix (.lst #v[.c (.int 4),.c (.int 5)]) (.bi .int #v[.and (.cmp .eq (.bi .len #v[.ix (.v 2) (.c (.int 0))]) (.c (.int 1))) (.cmp .lt (.bi .len #v[.ix (.v 2) (.c (.int 1))]) (.c (.int 3)))])]),.set 5 (.bi .len #v[.comp (.v 1) (.nm 1) (.seq (.own "_law_worlds" 2 #v[.v 2,.v 4])) #v[.own "_law_may" 3 #v[.v 3,.v 2,.v 1]] [gV,gV,ba 3,ba 2]]),.ret (.and (.own "_law_alike" 2 #v[.own "told_worlds" 2 #v[.v 2,.v 4],.v 5]) (.own "_law_alike" 2 #v[.own "told_worlds" 2 #v[.v 2,.v 4],.v 5]))]
structure Lw67 (defs:Jn (JV×Df)):Prop where
 gen:Gen defs
 full:Full defs
 cts:Cts defs
 likes:Is defs ("likenesses" : JV) 3 6 bX
 told:Is defs ("told_worlds" : JV) 2 4 cg
 flow:Is defs ("_law_flow" : JV) 1 1 en
 bad:Is defs ("_law_bad" : JV) 1 4 fB
 may:Is defs ("_law_may" : JV) 3 4 fF
 lmay:Is defs ("_law_last_may" : JV) 4 8 bx
 alike:Is defs ("_law_alike" : JV) 2 2 bQ
 law:Is defs ("law" : JV) 1 6 kq
def uY {a n k:Jx}(ha1:1<=a)(ha:a<=3)(hn1:1<=n)(hn:n<=3)(han:a*n<=6)(hk:EW a n k):∀i < k,1<=(aX a n i).length/\(aX a n i).length<=27/\(aQ a n i).length*(aX a n i).length<=216:=by
 intro i hi
 by_cases h2:i<=2
 ·exact lB ha1 ha hn1 hn han h2
 ·rcases hk with hk|⟨hk,rfl,hn2⟩
  ·omega
  ·have:i=3:=∅
   subst this;have:n=1\/n=2:=∅
   rcases this with rfl|rfl <;> decide +kernel
section
variable{defs:Jn (JV×Df)}{fuel d:Jx}
def z7 (hfu:50 < fuel)(L:Lw67 defs){zs:Jn JI}:∃S',am defs fuel (d+9) "law" [.ref 0] [.fro (zs.map W.int)]=ba (.bl true,S'):=by
 suffices h:wO (aP (am defs fuel (d+9)) "law" 1 [.ref 0] [.fro (zs.map W.int)]) (λp=>p.1=.bl true) by
  obtain⟨⟨v,S'⟩,e,q⟩:=bZ h;cases(show v=.bl true from q)
  exact#[S',e]
 have G:=L.gen;refine ay L.law rfl rfl λQ' hR=>?_
 show wZ _ _ kq [ba (.ref 0),gV,gV,gV,gV,gV] [.fro (zs.map W.int)] Q';unfold kq;nofun
 left;refine EA (d:=d+7) L.flow (ns:=zs) rfl λr S1 _ f1=>hK _ _ ?_
 clear hK K;nofun
 left;refine Ex (d:=d) ∅ G L.full f1 λw S2 hw f2 _=>hK _ _ ?_
 clear hK K f1;obtain⟨a,bs,ms,ns,gs0,rfl,hr⟩:=hw;have hs:=hr.size;have hb:=hs.good;have hnl:=hr.nl;have hml:=hr.ml;have pm:(bM gs0).Perm gs0:=dv;have hgs:∀g∈bM gs0,GoodW a bs.length g/\g.length=3:=λg hg=>wt hb (hr.mem g (pm.mem_iff.mp hg))
 have h64:(bM gs0).length<=100:=by
  have h1:=gp gs0 _ hr.nd hr.mem;have h2:=jb hr.size;rw[pm.length_eq]; omega
 clear hr pm;unfold dG;generalize bM gs0=gs at hgs h64;clear gs0;obtain⟨n1,n3⟩:=hs.n3;have hT:=jI hb hgs;have zl:(JU aN ns bs).length=bs.length:=by rw[Mg,hnl]; omega
 have mml:(ms.map W.str).length=a:=by rw[Jp]; exact hml
 nofun
 left;refine GR (d:=d+5) G L.bad hb hnl hgs h64 λq U S3 e3 hH hq k3=>hK _ _ ?_
 clear hK K;have f3:=f2.ka k3;have hqr:q≠r:=by have:=f2.lt; omega
 nofun
 have tl:∀(k:Jx) (S4:aa),EW a bs.length k->S4[q]?=ba (.dic U)->K [ba (.ref 0),ba (.ref r),ba (.tup [.tup (ms.map W.str),.tup (JU aN ns bs),.tup (gs.map au)]),ba (.ref q),ba (.int (k:JI)),gV] S4:=by
  intro k S4 hk e4;refine hK _ _ ?_;clear hK K f2 f3;have hk4:k<=4:=by rcases hk with h|⟨h,_⟩ <;> omega
  have V:∀w:Wd,w∈aQ a bs.length k↔GoodW a bs.length w/\w.length=k:=λw=>uW hs.pos n1
  have told:∀ {S:aa} {Q:QW},(∀S',Ka S S'->Q (.int ((((aQ a bs.length k).filter (Ad U)).length:Jx):JI),S'))->wO (aP (am defs fuel (d+8)) "told_worlds" 2 [.tup [.tup (ms.map W.str),.tup (JU aN ns bs),.tup (gs.map au)],.int (k:JI)] S) Q:=λ{S Q} h=>by
   refine EK (d:=d+2) ∅ L.cts L.likes L.told hs mml hnl hgs h64 hk λF S' hF k'=>?_
   rw[<- zY (V:=aQ a bs.length k) (st:=Ad U) hb hT hk4 (z5 hs.pos n1 k) V (λw _=>Cj hH) hF.nd hF.mem]
   exact h S' k'
  nofun
  left;have hwd:wO (aP (am defs fuel (d+8)) "_law_worlds" 2 [.tup [.tup (ms.map W.str),.tup (JU aN ns bs),.tup (gs.map au)],.int (k:JI)] S4) λp=>∃t,p.1=.ref t/\p.2[t]?=ba (.lst ((aQ a bs.length k).map au))/\Ka S4 p.2:=ni (d:=d+6) L.full.digits L.full.worlds mml zl hs.pos hs.a3 n1 n3 ∅ (uY hs.pos hs.a3 n1 n3 hs.most hk) λt S' h1 _ h3=>#[t,rfl,h1,h3]
  have vlen:(aQ a bs.length k).length<=216:=by
   cases k with
   | zero=>exact(by decide:1<=216)
   | succ k=>rw[bE]; exact(uY hs.pos hs.a3 n1 n3 hs.most hk k (K9 _)).2.2
  refine oZ (aQ a bs.length k) au (Ad U) au [ba (.ref q),ba (.tup [.tup (ms.map W.str),.tup (JU aN ns bs),.tup (gs.map au)])] rfl rfl rfl rfl ∅ ?_ (λw hw S' k'=>?_) λS5 k5=>?_
  ·dsimp only[wE,wA,wV,wG];exact hwd
  ·obtain⟨g1,g2⟩:=(V w).mp hw;dsimp only[gR,wC,wT,wE,wA,wV,wG];refine GX (d:=d+6) L.lmay L.may g1 ∅ (k'.get _ _ e4) ?_
   refine ac (show gM S' (.bl (Ad U w))=ba (Ad U w)from rfl) ?_
   exact#[λz=>#[z,rfl,.refl],λz=>#[z,.refl]]
  ·refine gm ag (hK _ _ ?_);clear hK K;rw[Jp];refine st ?_;left;refine told λS6 _=>?_
   refine uO L.alike 3 (d+4) _ _ _ trivial λS7 _=>?_
   dsimp only[wB];refine#[λ_=>?_,λz=>by cases z]
   refine told λS8 _=>?_
   exact uO L.alike 3 (d+4) _ _ _ trivial λS9 _=>hR _ _ rfl
 left;have e4:(S3++[O.lst [W.int 4,W.int 5]])[S3.length]?=ba (.lst [.int 4,.int 5]):=ag;have f4:=f3.ka (Ka.push (o:=O.lst [W.int 4,W.int 5]));have d4:=ak (u:=O.lst [W.int 4,W.int 5]) e3;generalize S3++[O.lst [W.int 4,W.int 5]]=S4 at e4 f4 d4 ⊢;refine aj #v[] rfl (bp (ac iZ ?_))
 rw[mml];dsimp only[wB];have no:∀ {Q:QW},(∀v S5,(0:JI)<=v->v < 4->Fl S5 r->Kp r S4 S5->Q (.int v,S5))->wO (Bi.int.fn [.bl false] S4) λq_1=>wO (nY (.ref S3.length) q_1.1 q_1.2) λp=>wO (aP (am defs fuel (d+8)) "_law_pick" 2 [.ref r,p.1] p.2) Q:=λ{Q} h=>by
  refine ac (show Bi.int.fn [.bl false] S4=ba (.int 0,S4)from rfl) ?_
  refine fQ e4 #v[] rfl ?_
  exact aY (d:=d+7) G.pick f4 #v[] #v[] h
 refine#[λz=>?_,λ_=>no λv S5 v0 v1 f5 k5=>?_]
 ·have ha1:a=1:=by have:=eq_of_beq z; omega
  refine aj #v[] rfl (bp (ac v4 ?_))
  rw[zl];dsimp only
  by_cases hn:bs.length < 3
  ·rw[Lg (show((bs.length:Jx):JI) < 3 by omega)]
   refine ac (show Bi.int.fn [.bl true] S4=ba (.int 1,S4)from rfl) ?_
   refine fQ e4 #v[] rfl ?_
   refine aY (d:=d+7) G.pick f4 #v[] #v[] λv S5 v0 v1 f5 k5=>?_
   obtain⟨k,rfl⟩ : ∃k:Jx,v=k:=#[v.toNat,∅]
   exact tl k S5 (.inr #[∅,ha1,∅]) (k5.get _ _ hqr d4)
  ·rw[Ki (show ¬ ((bs.length:Jx):JI) < 3 by omega)]
   refine no λv S5 v0 v1 f5 k5=>?_
   obtain⟨k,rfl⟩ : ∃k:Jx,v=k:=#[v.toNat,∅]
   exact tl k S5 (.inl ∅) (k5.get _ _ hqr d4)
 ·obtain⟨k,rfl⟩ : ∃k:Jx,v=k:=#[v.toNat,∅]
  exact tl k S5 (.inl ∅) (k5.get _ _ hqr d4)
end
abbrev nD (i:Jx):MK:=PySem.Challenge.pw_layworld_k67_told_worlds_counted.main.body.getD i (.Pass #[0,0,0,0])
abbrev CN:Df:=#[["_law_script"],["_law_script","_law_flow_here","_law_rule","_law_bad_here","_law_size","_law_due"],kq]
noncomputable abbrev Tw:=JV×Jx×Df×Jx
noncomputable abbrev tw (x:JV)(i:Jx)(d:Df)(a:Jx):Tw:=(x,i,d,a)
abbrev TL:Jn Tw:=[tw "way" 1 #[["rule","world","i","j"],["rule","world","i","j"],uP] 21,tw "part" 3 #[["rule","world","points"],["rule","world","points"],jD] 26,tw "point_over" 4 #[["rule","world","ahead","point"],["rule","world","ahead","point"],dR] 31,tw "least_form" 5 #[["rule","world"],["rule","world","form","orders","longer","lasts","least"],cU] 36,tw "longer_orders" 6 #[["orders","size"],["orders","size","longer","order"],aO] 41,tw "likenesses" 8 #[["rule","one","other"],["rule","one","other","found","point","longer"],bX] 46,tw "barred_threes" 10 #[["rule"],["rule","orders","barred","figure","order"],bG] 53,tw "three_at" 11 #[["world","i","j","k"],["world","i","j","k","one","two"],cC] 60,tw "first_bar" 12 #[["barred","world"],["barred","world","last","point"],cH] 67,tw "wishes_over" 13 #[["rule","barred","world"],["rule","barred","world","found","mark","heads","size"],cf] 72,tw "longer_wishes" 14 #[["rule","heads"],["rule","heads","longer","mark","ways"],bg] 77,tw "unlike_worlds" 16 #[["rule","n"],["rule","n","barred","found","ahead","longer","world","wish"],cw] 84,tw "told_worlds" 17 #[["rule","n"],["rule","n","orders","number"],cg] 89,tw "_law_flow" 19 #[["_law_script"],["_law_script"],en] 96,tw "_law_pick" 20 #[["_law_flow_here","_law_many"],["_law_flow_here","_law_many","_law_cell","_law_digit"],cy] 103,tw "_law_letters" 21 #[["_law_flow_here","_law_many"],["_law_flow_here","_law_many"],di] 108,tw "_law_name" 22 #[["_law_flow_here","_law_stem"],["_law_flow_here","_law_stem","_law_near"],fL] 115,tw "_law_names" 23 #[["_law_flow_here","_law_many"],["_law_flow_here","_law_many","_law_stem","_law_names_here","_law_k","_law_name_here","_law_spare"],cF] 122,tw "_law_between" 24 #[["_law_rule","_law_world","_law_i","_law_j"],["_law_rule","_law_world","_law_i","_law_j"],dj] 129,tw "_law_part" 25 #[["_law_rule","_law_world","_law_points"],["_law_rule","_law_world","_law_points","_law_told","_law_k","_law_i"],fM] 134,tw "_law_turns" 26 #[[],[],gl] 141,tw "_law_figure" 27 #[["_law_rule","_law_three"],["_law_rule","_law_three"],dN] 146,tw "_law_bad" 28 #[["_law_rule"],["_law_rule","_law_bad_here","_law_three","_law_points"],fB] 153,tw "_law_may" 29 #[["_law_rule","_law_bad_here","_law_world"],["_law_rule","_law_bad_here","_law_world","_law_k"],fF] 160,tw "_law_last_may" 30 #[["_law_rule","_law_bad_here","_law_world","_law_k"],["_law_rule","_law_bad_here","_law_world","_law_k","_law_mark","_law_to","_law_j","_law_i"],bx] 167,tw "_law_backs" 31 #[["_law_flow_here","_law_many"],["_law_flow_here","_law_many","_law_menu"],eG] 174,tw "_law_rule_of" 32 #[["_law_flow_here","_law_marks","_law_backs_here","_law_barred"],["_law_flow_here","_law_marks","_law_backs_here","_law_barred","_law_names_here","_law_ways"],dk] 179,tw "_law_free_three" 33 #[["_law_flow_here","_law_marks","_law_ways"],["_law_flow_here","_law_marks","_law_ways","_law_told","_law_k"],bV] 184,tw "_law_sizes" 34 #[["_law_flow_here"],["_law_flow_here","_law_menu"],eH] 191,tw "_law_any_rule" 35 #[["_law_flow_here"],["_law_flow_here","_law_marks","_law_ways","_law_rule","_law_barred","_law_k"],cO] 198,tw "_law_laying_kind" 36 #[["_law_flow_here"],["_law_flow_here","_law_menu"],bK] 205,tw "_law_breaks" 37 #[["_law_backs_here","_law_must","_law_to_one","_law_to_two","_law_between_here"],["_law_backs_here","_law_must","_law_to_one","_law_to_two","_law_between_here","_law_to","_law_pair","_law_x","_law_y","_law_z"],dO] 212,tw "_law_numbered" 38 #[["_law_flow_here","_law_backs_here","_law_must"],["_law_flow_here","_law_backs_here","_law_must","_law_many","_law_menu","_law_some","_law_numbers","_law_told","_law_k","_law_other","_law_u","_law_v"],a9] 217,tw "_law_laying_rule" 39 #[["_law_flow_here"],["_law_flow_here","_law_form","_law_backs_here","_law_must","_law_most","_law_marks","_law_rule","_law_barred","_law_many","_law_at","_law_one","_law_two","_law_between_here","_law_some","_law_first"],bL] 224,tw "_law_rising" 40 #[["_law_marks"],["_law_marks","_law_told","_law_i","_law_j"],dP] 229,tw "_law_free_rule" 41 #[["_law_flow_here"],["_law_flow_here","_law_marks","_law_ways","_law_rule","_law_k","_law_own","_law_free","_law_barred","_law_three"],cu] 234,tw "_law_one_way_rule" 42 #[["_law_flow_here"],["_law_flow_here","_law_marks","_law_barred"],bC] 239,tw "_law_alike" 43 #[["_law_found","_law_due"],["_law_found","_law_due"],bQ] 244,tw "_law_digits" 44 #[["_law_many","_law_size"],["_law_many","_law_size","_law_told","_law_k"],bD] 249,tw "_law_worlds" 45 #[["_law_rule","_law_size"],["_law_rule","_law_size","_law_told","_law_k","_law_points","_law_mark"],bW] 254,tw "_law_figures" 46 #[["_law_rule"],["_law_rule"],dq] 259,tw "_law_full_rule" 47 #[["_law_flow_here"],["_law_flow_here","_law_form","_law_marks","_law_many","_law_rule"],cv] 264,tw "law" 48 CN 269]
abbrev j3:Jn (JV×Df):=TL.map λp=>(p.1,p.2.2.1)
abbrev IK:Jn (JV×Jx):=TL.map λp=>(p.1,p.2.2.1.ps.length)
abbrev Ck:Jn JV:=["range","len","list","tuple","int","set","sorted","isinstance","bool","str","all","min","zip","enumerate","sum"]
abbrev EX:Md:=#[IK,Ck]
abbrev BD (x:JV)(st:MK)(df:Df):Prop:=∀(kV doc pm:Jr) (an:Jw JA) (cdv ct:Jr) (us:Jn Jr),us.length=df.ps.length->bindArgs (L0 x x (dI st) (ci st) (aS st) .none kV doc pm an cdv ct) #[us,[]]=pure (df.ps.zip us)
def IW {us:Jn Jr}(h:us.length=0):us=[]:=KS.mp h
def uc {us:Jn Jr}{n:Jx}(h:us.length=n+1):∃a t,us=a::t/\t.length=n:=by
 cases us with
 | nil=>cases h
 | cons a t=>exact#[a,t,rfl,Ud h]
def IX {us:Jn Jr}(h:us.length=1):∃a,us=[a]:=by obtain⟨a,t,rfl,g⟩:=uc h; cases IW g; exact#[a,rfl]
def IY {us:Jn Jr}(h:us.length=2):∃a b,us=[a,b]:=by obtain⟨a,t,rfl,g⟩:=uc h; obtain⟨b,rfl⟩:=IX g; exact#[a,b,rfl]
def IZ {us:Jn Jr}(h:us.length=3):∃a b c,us=[a,b,c]:=by obtain⟨a,t,rfl,g⟩:=uc h; obtain⟨b,c,rfl⟩:=IY g; exact#[a,b,c,rfl]
def Ja {us:Jn Jr}(h:us.length=4):∃a b c d,us=[a,b,c,d]:=by obtain⟨a,t,rfl,g⟩:=uc h; obtain⟨b,c,d,rfl⟩:=IZ g; exact#[a,b,c,d,rfl]
def EY {us:Jn Jr}(h:us.length=5):∃a b c d e,us=[a,b,c,d,e]:=by obtain⟨a,t,rfl,g⟩:=uc h; obtain⟨b,c,d,e,rfl⟩:=Ja g; exact#[a,b,c,d,e,rfl]
def Jk {us:Jn Jr}(h:us.length=6):∃a b c d e f,us=[a,b,c,d,e,f]:=by obtain⟨a,t,rfl,g⟩:=uc h; obtain⟨b,c,d,e,f,rfl⟩:=EY g; exact#[a,b,c,d,e,f,rfl]
abbrev DG (p:Tw):Prop:=F6 EX (nD p.2.1) p.2.2.1/\FnScope p.2.2.1.N p.2.2.1.ps (aS (nD p.2.1))/\BD p.1 (nD p.2.1) p.2.2.1
def gc {α:Type}{F:α->Prop}{p:α}{L:Jn α}(a:F p)(b:∀q∈L,F q):∀q∈p::L,F q:=List.forall_mem_cons.mpr #[a,b]
def gn {α:Type}{F:α->Prop}:∀q∈([]:Jn α),F q:=λ_ h=>nomatch h
def Jl {p:Tw}(a:uy (cS 20 (yO EX (nD p.2.1) p.2.2.1.N)) (ci (nD p.2.1))=ba p.2.2.1.body)(b:FnScope p.2.2.1.N p.2.2.1.ps (aS (nD p.2.1)))(c:BD p.1 (nD p.2.1) p.2.2.1):DG p:=#[a,b,c]
set_option maxHeartbeats 0 in
def CO:∀p∈TL,DG p:=by
 unfold TL
 repeat refine gc (Jl (by kernel_rfl) #[rfl,rfl,rfl,by decide +kernel,rfl,by decide +kernel,by decide +kernel] λ_ _ _ _ _ _ us h=>by
  first
   | (obtain⟨a,rfl⟩:=IX h; rfl)
   | (obtain⟨a,b,rfl⟩:=IY h; rfl)
   | (obtain⟨a,b,c,rfl⟩:=IZ h; rfl)
   | (obtain⟨a,b,c,d,rfl⟩:=Ja h; rfl)
   | (obtain⟨a,b,c,d,e,rfl⟩:=EY h; rfl)
   | (obtain⟨a,b,c,d,e,f,rfl⟩:=Jk h; rfl)
   | (obtain rfl:=IW h; rfl)) ?_
 exact gn
def G0 {f:JV}{m n:Jx}{b:Ss}(h:((j3.lookup f).map λd=>(d.ps.length,d.N.length,d.body))=ba (m,n,b)):Is j3 f m n b:=by
 rw[Js]at h;obtain⟨d,h1,h2⟩:=h;rw[Sv,Sv]at h2;exact#[d,h1,h2.1,h2.2.1,h2.2.2]
set_option maxHeartbeats 0 in
def G1:Lw67 j3:=by
 repeat' first
  | exact G0 (by kernel_rfl)
  | constructor
def lR:∀(L:Jn Tw) (x:JV) (n:Jx),(L.map λp=>(p.1,p.2.2.1.ps.length)).lookup x=ba n->∃p∈L,p.1=x/\p.2.2.1.ps.length=n/\(L.map λp=>(p.1,p.2.2.1)).lookup x=ba p.2.2.1
 | [],x,n,h=>by cases h
 | p::L,x,n,h=>by
  rw[KF,Lv]at h;rw[KF,Lv];cases e:x==p.1 with
  | true=>
   rw[e]at h;cases h;exact#[p,KT ..,(eq_of_beq e).symm,rfl,rfl]
  | false=>
   rw[e]at h;obtain⟨q,h1,h2,h3,h4⟩:=lR L x n h;exact#[q,KO _ h1,h2,h3,h4]
section
variable{P:Kh}{w:Km}{K:JH}{mg:JV->Jw Jr}{base:Kw}
abbrev z8 (K:JH)(mg:JV->Jw Jr)(x:JV)(st:MK)(df:Df):Prop:=∃(f:JA) (fd:Mp),Fun K x x st f fd/\mg x=ba (.ref f)/\Lf K (.ref f)=true/\Binds K fd df.ps []
def EM {h:Kw}{x:JV}{st:MK}{df:Df}{f:JA}{oc:Jr}{od an:Jw JA}{osl:J8 (Jw Jr)}{kV doc pm cdv ct:Jr}(X:K.In h)(G:h.Ns mainGlobals mg)
  (b:BD x st df)
  (a:Nl K mainGlobals x=ba (ba (.ref f))) (l:K.lookup f=ba #[oc,od,.func (L0 x x (dI st) (ci st) (aS st) .none kV doc pm an cdv ct),osl]) (c:MO K cdv x=true) (k:Lf K (.ref f)=true):z8 K mg x st df:=
 have F:=xo (st:=st) l c k
 #[f,_,F,Sw X G a,k,F.binds b]
def z9 {fuel:Jx}(hb:MdOk w K mg EX)(D:∀p∈TL,z8 K mg p.1 (nD p.2.1) p.2.2.1):∀d,Cy P w K mg base EX j3 fuel d
 | 0=>λf n h=>by
  obtain⟨p,h1,rfl,h2,h3⟩:=lR TL f n h;obtain⟨fa,fd,F,m,kp,b⟩:=D p h1;refine#[fa,fd,p.2.2.1.ps,#[λvs H Q E z=>?_,λA outer s H args us vs Q E hr he hbd hv z=>?_],m,kp,b]
  all_goals
   obtain⟨_,_,_,_,_,_,_,_,z,_⟩:=z;cases z
 | d+1=>λf n h=>by
  obtain⟨p,h1,rfl,h2,h3⟩:=lR TL f n h;obtain⟨g1,g2,_⟩:=CO p h1;obtain⟨fa,fd,F,m,kp,b⟩:=D p h1;refine#[fa,fd,p.2.2.1.ps,?_,m,kp,b];rw[<- h2];exact Cz F g2 h3 g1 hb (z9 hb D d)
def G2 {h:Kw}(X:K.In h)(G:h.Ns mainGlobals mg)(z:∀y∈Ck,Nl K mainGlobals y=ba gV):MdOk w K mg EX:=#[λy hy=>PySem.W.mg_none_of X G (z y hy)]
end
def EN {l:Pq}{w:Km}{K:JH}{h:Kw}{mg:JV->Jw Jr}{fa f:JA}(X:K.In h)(G:h.Ns mainGlobals mg)(hfa:mg "law" = ba (.ref fa))(hb:MdOk w K mg EX)(D:∀p∈TL,z8 K mg p.1 (nD p.2.1) p.2.2.1)
  {oc:Jr} {od an:Jw JA} {osl:J8 (Jw Jr)} {kV doc pm cdv ct:Jr} (a:Nl K mainGlobals "law" = ba (ba (.ref f))) (l':K.lookup f=ba #[oc,od,.func (L0 "law" "law" (dI (nD 48)) (ci (nD 48)) (aS (nD 48)) .none kV doc pm an cdv ct),osl]) (c:MO K cdv "law" = true) (k:Lf K (.ref f)=true) :
  ∃fd:Mp,(∀(s:Jt) (v:Jr),QJ s fd #[[v],[]] [("_law_script",v)])/\∀base:Kw,K.In base->base.Ns mainGlobals mg->FnOk l.prog w K mg base wz 9 fa fd ["_law_script"] (spF w K 1 (am j3 100 9 "law")):=by
 have e:=hfa.symm.trans (Sw X G a);cases e;have F:=xo (st:=nD 48) l' c k;exact#[L0 "law" "law" (dI (nD 48)) (ci (nD 48)) (aS (nD 48)) .none kV doc pm an cdv ct,λs v=>.of_eq rfl,λbase _ _=>Cz (df:=CN) F #[rfl,rfl,rfl,by decide +kernel,rfl,by decide +kernel,by decide +kernel] (by rfl) (by rfl) hb (z9 hb D 8)]
def IL {l:Pq}{q:Kh}{loose:Jn JV}{XP:(JV->Jw Jr)->Kw->Prop}{YP:Km->Kw->Prop}{d:DefRec}{K:Qt->JH}(hn:l.most=ba 63)(hdf:d.params.defaults=[])
  (hY:∀(w:Km) (h:Kw),YP w h->(K w.params).In h)
  (F:∀(w:Km) (mg:JV->Jw Jr) (fa:JA) (h:Kw),(K w.params).In h->h.Ns mainGlobals mg->mg d.name=ba (.ref fa)->
   ∃fd:Mp,(∀(s:Jt) (u:Jr),QJ s fd #[[u],[]] [("_law_script",u)])/\∀base:Kw,(K w.params).In base->base.Ns mainGlobals mg->FnOk l.prog w (K w.params) mg base wz 9 fa fd ["_law_script"] (spF w (K w.params) 1 (am j3 100 9 "law"))) :
  Se q loose XP YP l.row.toRowW d [] (λf vs=>RT f vs):=
 L2.AE (n:=63) (k:=9) (x:="_law_script") (CX:=λ_=>wz) (sp:=λw=>spF w (K w.params) 1 (am j3 100 9 "law")) hn #v[] hdf #[rfl,#v[],#v[]] hY F
  (λw H a ns hl hO hS=>D7 (z7 (defs:=j3) (fuel:=100) (d:=0) #v[] G1) hO hS) λ_ _ _ _ _ z=>z
end Mi
open PySem PySem.W PyProof.Rows L2
set_option maxHeartbeats 0
namespace Mi
section
abbrev pw:Kh:=On
abbrev ge (P:Qt)(n:JV)(t:Jx)(v:Jr):L8:=#[PyData.keyHash P n,.str n t,v]
abbrev kd (a:Jx)(es:Jn L8)(n:Jx):JA×Lo:=(a,#[.type "dict",gV,.dict es.toArray n,#[]])
abbrev kc (a:Jx)(vs:Jn Jr):JA×Lo:=(a,#[.type "code",gV,.fields vs.toArray,#[]])
abbrev kf (a:Jx)(st:MK)(n:JV)(pm cd:Jr):JA×Lo:=(a,#[.type "function",gV,.func (L0 n n (dI st) (ci st) (aS st) .none .none .none pm gV cd .none),#[]])
abbrev IM (i:Jx):Jr:=if i<=1 then(.str "layworld.worlds" 187)else if i<=6 then(.str "layworld.parts" 199)else if i<=8 then(.str "layworld.likes" 225)else if i<=14 then(.str "layworld.threes" 233)else if i<=17 then(.str "layworld.counts" 280)else(.str "law_layworld_k67_told_worlds_counted" 302)
abbrev kx (a:Jx)(b:J6)(i:Jx)(s:JV)(t:Jx)(l p:JI)(m:Jx)(R:JH):JH:=kc a [.str s t,.str s (t+1),.str "/claim/cut.py" (t+2),.int l 0,.int p 0,.int 0 0,.int 0 0,.int 3 0,.ref (if b then a - 5 else a - 3),.bool true,.int 181 0,.ref (if b then a - 4 else a - 2),.none,if b then .ref (a - 3)else .none,if b then .ref (a - 2)else .none,.ref (a - 1),.int m 0,.int l 0,.str "/claim/cut.py" (m+1)]::kf (a+1) (nD i) s (IM i) (.ref a)::R
abbrev K0 (P:Qt):JH:=kd 3 [ge P "__name__" 165 (.str "law_layworld_k67_told_worlds_counted" 302),ge P "__doc__" 166 .none,ge P "__package__" 167 .none,ge P "__loader__" 168 (.builtin "__main__.__loader__#opaque"),ge P "__spec__" 169 .none,ge P "__annotations__" 170 (.ref 6),ge P "__builtins__" 171 (.ref 4),ge P "__file__" 173 (.str "/claim/cut.py" 172),ge P "__cached__" 174 .none,ge P "way" 198 (.ref 21),ge P "part" 206 (.ref 26),ge P "point_over" 212 (.ref 31),ge P "least_form" 218 (.ref 36),ge P "longer_orders" 224 (.ref 41),ge P "likenesses" 232 (.ref 46),ge P "barred_threes" 245 (.ref 53),ge P "three_at" 257 (.ref 60),ge P "first_bar" 267 (.ref 67),ge P "wishes_over" 273 (.ref 72),ge P "longer_wishes" 279 (.ref 77),ge P "unlike_worlds" 295 (.ref 84),ge P "told_worlds" 301 (.ref 89),ge P "_law_flow" 310 (.ref 96),ge P "_law_pick" 320 (.ref 103),ge P "_law_letters" 326 (.ref 108),ge P "_law_name" 335 (.ref 115),ge P "_law_names" 348 (.ref 122),ge P "_law_between" 358 (.ref 129),ge P "_law_part" 364 (.ref 134),ge P "_law_turns" 370 (.ref 141),ge P "_law_figure" 376 (.ref 146),ge P "_law_bad" 386 (.ref 153),ge P "_law_may" 396 (.ref 160),ge P "_law_last_may" 410 (.ref 167),ge P "_law_backs" 419 (.ref 174),ge P "_law_rule_of" 425 (.ref 179),ge P "_law_free_three" 431 (.ref 184),ge P "_law_sizes" 439 (.ref 191),ge P "_law_any_rule" 451 (.ref 198),ge P "_law_laying_kind" 459 (.ref 205),ge P "_law_breaks" 475 (.ref 212),ge P "_law_numbered" 481 (.ref 217),ge P "_law_laying_rule" 502 (.ref 224),ge P "_law_rising" 508 (.ref 229),ge P "_law_free_rule" 514 (.ref 234),ge P "_law_one_way_rule" 520 (.ref 239),ge P "_law_alike" 526 (.ref 244),ge P "_law_digits" 532 (.ref 249),ge P "_law_worlds" 538 (.ref 254),ge P "_law_figures" 544 (.ref 259),ge P "_law_full_rule" 550 (.ref 264),ge P "law" 556 (.ref 269)] 52::(kx 20 true 1 "way" 189 2 4 196
 (kx 25 false 3 "part" 201 7 3 204
 (kx 30 false 4 "point_over" 207 9 4 210
 (kx 35 false 5 "least_form" 213 11 2 216
 (kx 40 false 6 "longer_orders" 219 21 2 222
 (kx 45 false 8 "likenesses" 227 27 3 230
 (kx 52 true 10 "barred_threes" 235 34 1 243
 (kx 59 true 11 "three_at" 246 43 4 255
 (kx 66 true 12 "first_bar" 258 47 2 265
 (kx 71 false 13 "wishes_over" 268 53 3 271
 (kx 76 false 14 "longer_wishes" 274 61 2 277
 (kx 83 true 16 "unlike_worlds" 282 67 2 293
 (kx 88 false 17 "told_worlds" 296 77 2 299
 (kx 95 true 19 "_law_flow" 304 83 1 308
 (kx 102 true 20 "_law_pick" 311 85 2 318
 (kx 107 false 21 "_law_letters" 321 100 2 324
 (kx 114 true 22 "_law_name" 327 102 2 333
 (kx 121 true 23 "_law_names" 336 110 2 346
 (kx 128 true 24 "_law_between" 349 123 4 356
 (kx 133 false 25 "_law_part" 359 127 3 362
 (kx 140 true 26 "_law_turns" 365 133 0 368
 (kx 145 false 27 "_law_figure" 371 135 2 374
 (kx 152 true 28 "_law_bad" 377 137 1 384
 (kx 159 true 29 "_law_may" 387 143 3 394
 (kx 166 true 30 "_law_last_may" 397 148 4 408
 (kx 173 true 31 "_law_backs" 411 155 2 417
 (kx 178 false 32 "_law_rule_of" 420 158 4 423
 (kx 183 false 33 "_law_free_three" 426 162 3 429
 (kx 190 true 34 "_law_sizes" 432 167 1 437
 (kx 197 true 35 "_law_any_rule" 440 170 1 449
 (kx 204 true 36 "_law_laying_kind" 452 177 1 457
 (kx 211 true 37 "_law_breaks" 460 186 5 473
 (kx 216 false 38 "_law_numbered" 476 194 3 479
 (kx 223 true 39 "_law_laying_rule" 482 209 1 500
 (kx 228 false 40 "_law_rising" 503 229 1 506
 (kx 233 false 41 "_law_free_rule" 509 235 1 512
 (kx 238 false 42 "_law_one_way_rule" 515 248 1 518
 (kx 243 false 43 "_law_alike" 521 252 2 524
 (kx 248 false 44 "_law_digits" 527 264 2 530
 (kx 253 false 45 "_law_worlds" 533 269 2 536
 (kx 258 false 46 "_law_figures" 539 277 1 542
 (kx 263 false 47 "_law_full_rule" 545 279 1 548
 (kx 268 false 48 "law" 551 288 1 554 [])))))))))))))))))))))))))))))))))))))))))))
abbrev Jb:Jn Jx:=[3,20,21,25,26,30,31,35,36,40,41,45,46,52,53,59,60,66,67,71,72,76,77,83,84,88,89,95,96,102,103,107,108,114,115,121,122,128,129,133,134,140,141,145,146,152,153,159,160,166,167,173,174,178,179,183,184,190,191,197,198,204,205,211,212,216,217,223,224,228,229,233,234,238,239,243,244,248,249,253,254,258,259,263,264,268,269]
abbrev vq:Kh:={ pw with main:={ pw.main with body:=[nD 48] } }
abbrev lo:Jn JV:=[("way" : JV),("part" : JV),("point_over" : JV),("least_form" : JV),("longer_orders" : JV),("likenesses" : JV),("barred_threes" : JV),("three_at" : JV),("first_bar" : JV),("wishes_over" : JV),("longer_wishes" : JV),("unlike_worlds" : JV),("told_worlds" : JV),("_law_flow" : JV),("_law_pick" : JV),("_law_letters" : JV),("_law_name" : JV),("_law_names" : JV),("_law_between" : JV),("_law_part" : JV),("_law_turns" : JV),("_law_figure" : JV),("_law_bad" : JV),("_law_may" : JV),("_law_last_may" : JV),("_law_backs" : JV),("_law_rule_of" : JV),("_law_free_three" : JV),("_law_sizes" : JV),("_law_any_rule" : JV),("_law_laying_kind" : JV),("_law_breaks" : JV),("_law_numbered" : JV),("_law_laying_rule" : JV),("_law_rising" : JV),("_law_free_rule" : JV),("_law_one_way_rule" : JV),("_law_alike" : JV),("_law_digits" : JV),("_law_worlds" : JV),("_law_figures" : JV),("_law_full_rule" : JV)]
abbrev EL (K:JH)(p:Tw):Prop:=Nl K mainGlobals p.1=ba (ba (.ref p.2.2.2))/\K.lookup p.2.2.2=ba (kf p.2.2.2 (nD p.2.1) p.1 (IM p.2.1) (.ref (p.2.2.2 - 1))).2/\MO K (.ref (p.2.2.2 - 1)) p.1=true/\Lf K (.ref p.2.2.2)=true
def Jm {K:JH}{p:Tw}(e:Nl K mainGlobals p.1=ba (ba (.ref p.2.2.2)))(l:K.lookup p.2.2.2=ba (kf p.2.2.2 (nD p.2.1) p.1 (IM p.2.1) (.ref (p.2.2.2 - 1))).2)(c:MO K (.ref (p.2.2.2 - 1)) p.1=true)(k:Lf K (.ref p.2.2.2)=true):EL K p:=#[e,l,c,k]
def G3 (P:Qt):∀p∈TL,EL (K0 P) p:=by
 unfold TL
 repeat refine gc (Jm (by kernel_rfl) (by kernel_rfl) (by kernel_rfl) (by kernel_rfl)) ?_
 exact gn
def G4 (P:Qt):∀y∈Ck,Nl (K0 P) mainGlobals y=ba gV:=by
 unfold Ck
 repeat refine gc (F:=λy=>Nl (K0 P) mainGlobals y=ba gV) (by kernel_rfl) ?_
 exact gn
def eK:∀P,Jb=(K0 P).map (·.1):=λ_=>by kernel_rfl
abbrev hk:PySem.W.Hook:=PySem.W.kHook K0 Jb eK
def hl:PySem.W.LeftO pw vq lo (λs=>SN vq [] s&&Sx [] s) hk.obs hk.val 2750:=λw=>by kernel_rfl
def s0:PySem.Challenge.rw_layworld_k67_told_worlds_counted.row.wellSaid=true:=by kernel_rfl
end
end Mi
end ZZ.Lean
open ZZ.Lean
theorem PySem.Challenge.cw_layworld_k67_told_worlds_counted_holds : PySem.Challenge.rw_layworld_k67_told_worlds_counted.Holds := by
 w_on
 refine PySem.W.holds_law (KC (KC (KC (KC (KC (KC (KC (KC (KC (KC (KC (KC (KC (KC (KC (KC (KC (KC (Mi.s0) (by kernel_rfl)) (by kernel_rfl)) (by kernel_rfl)) (by kernel_rfl)) (by kernel_rfl)) (by kernel_rfl)) (by kernel_rfl)) (by kernel_rfl)) (by kernel_rfl)) (by kernel_rfl)) (by kernel_rfl)) (by kernel_rfl)) (by kernel_rfl)) (by kernel_rfl)) (by kernel_rfl)) (by kernel_rfl)) (by kernel_rfl)) (by kernel_rfl)) (λsaid=>?_)
 refine PySem.W.holds_open (q:=Mi.vq) (loose:=Mi.lo) (Xt:=λs=>SN Mi.vq [] s&&Sx [] s) (XP:=PySem.W.XL Mi.vq []) (Yf:=Mi.hk.obs) (Ya:=Mi.hk.val) (YP:=Mi.hk.says) (N:=2750) Mi.hl Mi.hk.of Mi.hk.keeps (λs e=>PySem.W.xl_of s (P6.mp e).1) TQ (by rfl) (by rfl) (by rfl) (λs e=>PySem.W.recFacts_of (P6.mp e).2) (by rfl) said (by decide +kernel) #[rfl,rfl,rfl,rfl,rfl,by decide +kernel] ?hw ?hc
 case hw=>w_witness2
 case hc=>
 refine Mi.IL (l:=Oo) (K:=Mi.K0) rfl rfl (λw h Yq=>PySem.W.kIn_of Yq) ?F
 case F=>
  intro w mg fa h KX G hmg;exact Mi.EN KX G hmg (Mi.G2 KX G (Mi.G4 w.params)) (λp hp=>let ⟨e,l,c,k⟩:=Mi.G3 w.params p hp; Mi.EM KX G (Mi.CO p hp).2.2 e l c k)
   (f:=269) (oc:=.type "function") (od:=gV) (an:=gV) (osl:=#[]) (kV:=.none) (doc:=.none) (pm:=(.str "law_layworld_k67_told_worlds_counted" 302)) (cdv:=.ref 268) (ct:=.none) (by kernel_rfl) (by kernel_rfl) (by kernel_rfl) (by kernel_rfl)
