import PyProof.Rows.All
import Wide.All
import OpenK.AllK
import Wide.FinOn
import Lean
import PyProof.EqAt
import PyProof.EqKinds
import PyProof.TupleCall
import KE.KDictList
import PyProof.SetKind
import PyProof.IsRules
import KE.KSortTup
import PyProof.Cells
import PyProof.ZipIter
import PyProof.Draws
import PyProof.EnumMake
import PyProof.WalksEnum
import PySem.Challenge.RW_layworld_k17_whole_order_is_nothing
noncomputable section
open Option renaming some->ba,none->gV
set_option hygiene false
local macro_rules|`(abbrev $i:declId $s:optDeclSig $v:declVal)=>`(noncomputable def $i:declId $s:optDeclSig $v:declVal)|`(def $i:declId $b* :$t $v:declVal)=>`(theorem $i:declId $b* :$t $v:declVal)|`(tactic|omega)=>`(tactic|first|lia|omega (config:={}))|`(tactic|show $e:term)=>`(tactic|refine $e:term)|`(tactic|left)=>`(tactic|dsimp only[wS,wE,wA,wV,wG,List.set])|`(tactic|nofun)=>`(tactic|refine aG λK hK=>?_)
local macro_rules|`(#v[])=>`((by decide))|`(#v[$x:term])=>`(.cons $x .nil)|`(#v[$x:term,$y:term,*])=>`(.cons $x #v[$y,*])
local macro_rules|`(#[$x:term])=>`(⟨$x⟩)|`(#[$x:term,$y:term,*])=>`(⟨$x,$y,*⟩)
local macro_rules|`(∅)=>`((by omega))
open _root_ renaming List->Jn,Option->Jw,Nat->Jx,Int->JI,decide_eq_true_eq->JU,if_pos->JX,Bool->J3,Array->J7,if_neg->J8,decide_eq_false->Kl,of_decide_eq_true->Kt,beq_self_eq_true->KJ,if_false->KZ,False->K5,decide_eq_true->K6,String->Lf,if_true->Lp,or_false->Lu,of_decide_eq_false->LX,decide_eq_false_iff_not->MK,DecidableEq->ML,beq_eq_false_iff_ne->Oc,forall_congr'->Qc,bne_self_eq_false->QK,not_or->Q8,decide_true->Rq,True->Rs,decide_false->SH,dif_pos->Tz,Unit->TW
open PySem renaming wpAny_bind->Jo,Value->Jr,Shared->Jt,wpAny_pure->Ju,Addr->Jz,Str->JS,Expr->J2,Program->Kf,Around->Ki,World->Kq,wpAny_newObj_type->Ks,Heap->Kv,sizeLine_eq->Ky,wpAny_callSpecial?_slot->KI,wpAny_call_entry->KM,wpAny_holding->KR,codeAny_builtin->KS,SetTable->KW,wpAny_setState_of->K7,wpAny_seqItems->Ll,NameKind->Lo,Obj->Lr,wpAny_field->Ls,wpAny_mono->LI,plainId_quiet->LN,wpAny_typeNameOfWhole_keyiter->L0,wpAny_truthy_bool->L4,DictEntry->L5,Spec->Mc,FuncData->Mf,wpAny_setField_rec->Mg,Pos->Mk,wpAny_passesOwn->Mn,wpAny_typeNameOf_keyiter->Mv,Stmt->Mx,mem_of_lookup->My,Builtin->Mz,wpAny_askSetting->ME,wpAny_isInstance->MF,Scope->MM,wpAny_typeOf->MO,wpAny_ite_split->MT,wpAny_attempt->MW,wpAny_pyIter_list->M1,wpAny_letGo->M9,wpAny_forIn_list->Nd,wpAny_updateSeq->Nv,wpAny_Call_Name_kw->Nw,wpAny_of_eq->NC,codeAny_mono->NE,wpAny_runValue->NJ,wpAny_dictEntries->NM,IsPair->N1,wpAny_standAt->N2,wpAny_loadPart'->N5,wpAny_setEntries_of->Od,wpAny_rule->Ol,IsPart->On,call_meets->Op,isSubtype_stop->Os,wpAny_fieldsOf->Ot,wpAny_newTuple->Ou,wpAny_setField->Oy,wpAny_tryCatch->Oz,wpAny_pyIter_slot->OO,wpAny_newList->OV,wpAny_comprehension_free->OW,noFill_tuple_add->OZ,Paired->O4,wpAny_load->O6,ItemsOf->Pb,wpAny_execs_nil->Pg,codeAny_of_tree->Pk,wpAny_specialOf->Pl,wpAny_dictEpoch->Pn,pushCells_keeps->Pq,builtinLookup_eq_fast->Ps,wpAny_isSame_ref_self->Pw,wpAny_isOneOf_keyiter->Pz,GenState->PD,wpAny_pyIter_keyiter->PL,wpAny_updateSeq_pair->PP,PassesOwn->P0,rangeSize_one->P7,seq_tuple_add->P8,wpAny_handled->Qa,IsZip->Qb,Env->Qg,Params->Qk,sub_set_self->Ql,wpAny_pyIter_tuple->Qp,wpAny_assign_Name->Qt,Operator->Qv,BindsTo->Qw,concat_meets->Qx,wpAny_sequenceKey->Qy,seqIndex_neg->Qz,list_append->QA,wpAny_setEpoch_of->QG,wpAny_pyIter_enum->QN,wpAny_pyHash_int->QS,wpAny_pyHash_str->QT,Result->QV,wpAny_pyIter_zip->Rc,seqIndex_of->Rl,wpAny_alloc->Rm,wpAny_throw->Rn,Walks->Ro,wpAny_mkInt->Rp,typeLookup_type->Rw,Keyword->RD,wpAny_Name->RF,wpAny_bindName->RG,typeIs_int->RJ,fitsIndex_both->RL,call->RN,isSubtype_type->RQ,entryFor_alias->RS,callType_newIn->RY,intBits_le_64->R5,evalPart_none->R7,call_list_seq->R8,wpAny_onRaise->Sn,small_one->Sx,CmpOp->Sy,call_range_1->SC,IsRangeIter->SO,Sem->Tb,BoolOp->Ts,IsEnum->Tt,Model->Tv,IsRange->TB,Fin->TH,Drawn->TV,Tok->T5
open List renaming length_map->Jp,getElem?_eq_getElem->Jy,getElem?_map->JB,length_append->JC,getElem?_eq_some_iff->JD,mem_map->JF,set->JG,mem_of_getElem?->JJ,mem_singleton->JK,size_toArray->JM,all_eq_true->JQ,mem_cons->JR,mem_range->JT,zipWith->JV,range->JW,getD_eq_getElem?_getD->JY,map_append->J0,length_range->J9,mem_append->Kc,getElem_mem->Kd,mem_append_right->Ke,not_mem_nil->Kh,take_add_one->Kj,replicate->Km,length_take->Kn,length_cons->Kr,getElem?_append_left->Ku,take_length->Kx,mem_cons_of_mem->KA,length_singleton->KD,map_congr_left->KG,getElem?_eq_none_iff->KH,all_cons->KL,map_cons->KO,mem_cons_self->KP,mem_append_left->KU,lookup_cons->KY,nodup_cons->K1,mem_flatMap->K4,map_map->La,length_eq_zero_iff->Lb,pairwise_map->Ld,flatMap_cons->Le,append_nil->Li,nodup_iff_pairwise_ne->Lw,replicate_succ->Ly,append_assoc->Lz,mem_filter->LD,getElem_inj->LJ,mem_iff_getElem->LL,getElem?_append_right->LO,getElem?_set->LP,getElem?_range->LQ,length_zipWith->LR,length_nil->LS,ext_getElem->LW,mem_of_mem_take->LZ,eq_nil_of_length_eq_zero->L3,flatMap_append->L7,idxOf_lt_length_of_mem->L8,any_cons->L9,getElem_idxOf->Mj,length_filter_le->Ml,range_succ->Mq,flatten_cons->Mr,idxOf_lt_length_iff->Mw,foldlM_cons->MH,zip_cons_cons->MQ,filter_append->MS,find?_cons->MU,dropLast_concat_getLast->MV,getElem?_eq_none->MY,nodup_append->M2,length_eraseIdx_of_lt->M5,mem_of_mem_drop->M8,mem_erase_of_ne->Na,length_drop->Nc,pairwise_iff_getElem->Nj,exists_mem_of_ne_nil->Nk,filterMap_cons->Nl,getElem?_take_of_lt->No,map_take->Nu,drop_of_length_le->NL,take_of_length_le->NO,getElem_take->NP,length_replicate->NR,take_append_drop->NT,getElem_map->NY,nodup_range->NZ,length_dropLast->N4,forIn_cons->N6,mem_filterMap->Om,pairwise_cons->OB,forIn_nil->OC,mem_eraseDups->OD,ne_nil_of_mem->OF,extract_eq_take_drop->OH,rel_of_pairwise_cons->OI,ext_getElem?->OP,length_erase_of_mem->OX,filter_cons_of_pos->O2,filter_cons_of_neg->O3,getElem?_set_self->O5,range_succ_eq_map->O9,length_pos_of_mem->Pe,of_mem_zip->Ph,find?_some->Pr,getElem?_zipWith->PC,getElem?_set_ne->PF,drop_zero->PJ,nodup_nil->PN,pairwise_append->PQ,replicate_succ'->PR,dropLast_concat->PU,getLastD_concat->PV,eraseDups_cons->P4,length_pos_iff->P5,mem_map_of_mem->P6,map_nil->QD,zip_nil_left->QE,filter_congr->QQ,any_toArray->Q9,any_eq_true->Rb,isEmpty_iff->Rf,cons_ne_nil->Rh,cons_append->Ri,perm_middle->Rj,getLast_mem->Rk,nil_append->Rv,foldr_cons->RA,drop_left'->RC,foldl->RK,take_zero->RZ,all_map->SF,extract->SL,length->SQ,map->SX,map_id->SZ,Nodup->Tu
open PySem.Heap renaming get?_push_of_some->Jq,get?_push_size->JH,lt_size->JO,get?_update_other->Kw,size_push->K8,get?_update_self->Ln,SameBut->LF,get?_update_ne->Nn,ExtBut->PK,size_update->Ra
open Option renaming map_eq_some_iff->Js,map_some->Kg,isSome_iff_exists->KF,map_eq_none_iff->NI,getD_none->QY,getD_some->Re,map_map->RT,toList->So
open Bool renaming and_eq_true->Jv,false_ne_true->J1,false_eq_true->J5,or_eq_true->Lk,not_true->Mu,not_eq_true'->M0,and_true->Nq,true_and->Nr,eq_iff_iff->N8,and_false->Oq,false_or->OT,and_eq_false_iff->Pu,not_false->PH,and_eq_true_iff->PX,or_false->P9,eq_false_iff->QP
open Nat renaming le_refl->JA,ne_of_lt->JZ,lt_of_lt_of_le->J4,le_trans->J6,lt_irrefl->KT,lt_succ_self->K2,ne_of_gt->Lg,zero_le->Lm,lt_succ_of_lt->LA,div_lt_of_lt_mul->L1,le_succ->Ma,le_add_right->Mb,pow_le_pow_right->Ms,pow_le_pow_left->MB,le_of_lt->MN,mul_comm->MP,lt_or_gt_of_ne->MR,le_of_ble_eq_true->MZ,mul_le_mul_right->Nb,lt_of_le_of_lt->NA,succ_mul->NH,mul_le_mul->NQ,succ_le_succ->NW,eq_zero_or_pos->OE,lt_trans->O8,mod_lt->Pa,mul_zero->Pd,pow_succ->Pf,not_lt->Qn,le_of_not_lt->Q6,succ_ne_zero->Q7,min_eq_right->Rg,min_eq_left->RB,add_assoc->Sh,add_comm->SD,min_self->SG,sub_zero->SM,ble->T7
open PySem.W renaming Frag->JE,look_both->KC,keepIn->Lj,fnOf->LY,kia_one->Mo,codeIn->MC,kas_sort->MJ,nsIn->Nf,methodObj->OL,cellsFrom_some->O7,OpenLaw->Pi,kat_nil->Pp,KdlSrc->PM,WalkO->R9,Looks->Sk,mg_of->Sv,recOk->Sw,xlAt->SN
open Int renaming toNat_natCast->JL,natCast_nonneg->JN,emod_lt_of_pos->Mh,emod_nonneg->Mp,toNat_of_nonneg->Nm,zero_add->NN,ediv_nonneg->N9,natCast_mul->Pj
open Array renaming length_toList->JP,getElem?_toList->K9,size_map->Lc,getElem?_eq_some_iff->Lv,getElem?_eq_getElem->LV,map->MG,mem_toList_iff->M6,toList_extract->M7,getD->Nx,forIn_toList->Ny,mem_of_getElem?->NS,getElem_toList->N3,toList_append->Oe,getElem?_map->Ow,perm_iff_toList_perm->OA,toList_push->ON,toList_map->O1,append_assoc->Qf,filterMap->Rx,map_map->Si,toList->SA
open Option.some renaming injEq->Kb,inj->KQ
open PySem.Value renaming ref->Kk,none->Kz,type->Lx,bool->M3,str->NU,int->OY
open PySem.SetTable renaming insertAt->Ko,below->MD,grown->NK,Probe->Ov,sizeAbove->Ox,layClean->QL,fits->Sd,sameMemory->Tl,relaid->TQ,laid->T4
open PySem.Around renaming under_plainId->KN
open PySem.Obj renaming mapSeq->Lh,data_mapFields->Nz,isFreed_of_fields->PB,cls_mapFields->QI,mapFields->Sj
open PySem.Builtin.List renaming listExtendWith->Lq,listTooLong->Mt,listLengthHint->Og,listSameRef->OS,listFitsIndex->RM
open PySem.Builtin.Tuple renaming tupleExact->LB,tupleItemsOf->M4,tupleHashOf->Nh,tupleCompareSizes->QR,tupleIsExact->RO
open PySem.Builtin.SmallTypes renaming ownedTupleIsFree->LC,ownedTupleHandOut->L6,nextOf->OJ
open PySem.Str renaming ofString->LG,length->To,join->T0
open ForInStep renaming yield->LH
open PySem.Builtin.Range renaming rangeSize->LK,small->Of
open PyProof.Rows renaming callWith_type1->LM,slot_tuple_getitem->LU,subscriptTail_builtinR->NG,assignInOrder_cons->Oj,AllBare->OM,listUpdate_at->OU,SortKind->O0,get?_update_seq->Po,entry_tuple_getitem->P2,lt_int->P3,args_tuple_getitem->Qi,IsTup->Qs,assignInOrder_nil->Qu,listItems_at->QJ,callWith_builtin1->QX,seqEpoch_at->Rr,entry_list_sort->Rz,IntsAre->RE,slicePart_none->RI,slot_list_sort->RW,args_list_sort->RX,tupleItemsOf_->R6,plain_sorted->SI,entry_sorted->SJ,args_sorted1->SK,kind_sorted->SY,Call_->TX
open PySem.Builtin.Slice renaming slicePlaces->Mm,sliceAdjust->Ng,sliceApplied->Oo,slicePartIndex->Rt,sliceFields->R0
open PySem.Heap.SameBut renaming update->MA,refl->QH
open PySem.NameKind renaming cell->MX,free->Nt
open PySem.Calls renaming call_function_entry->Ni,Name_function_global->Oi,Constant_str->Qh
open PySem.F renaming args_tuple_add_2->Np,entry_tuple_add->NB,plainAttrs_list->ND,slot_tuple_add->NF,slot_dict_get->Px
open PySem.SeqAt renaming EqAt->NV,notIn_listAt->Qj,in_tupleAt->QZ,in_listAt->Ru
open True renaming intro->NX
open PySem.Builtin.Dict_items renaming ownsTuple->N7
open PySem.Challenge renaming pw_layworld_k17_whole_order_is_nothing->Oa,rw_layworld_k17_whole_order_is_nothing->Ob
open PySem.Builtin.Builtins renaming bindParams->Oh
open Classical renaming byContradiction->OG,propDecidable->Sz
open PySem.SetTable.probe renaming go->OQ
open PySem.Paired renaming length->OR
open PySem.Env renaming kindOf->Pc
open PySem.Builtin.Dict renaming showsAll->Py,dictSlotNone->R3,pendingCount->R4
open Sum renaming inl->PY,inr->PZ
open PySem.Expr renaming Name->P1
open PySem.SeqAt.EqAt renaming int_str->Qd,str_int->Qe,none_bool->SR,bool_none->SS,bool_bool->SU,none_int->Tc,none_str->Td,bool_int->Te,bool_str->Tf,int_none->Th,int_bool->Ti,str_none->Tj,str_bool->Tk,int_int->Tp,str_str->Tq,same->TN
open PUnit renaming unit->Qm
open PySem.Code renaming quiet_builtin->Qo
open PySem.ScopeKind renaming function->Qq
open PySem.AutoListH renaming list___mul___list_int_3->Qr
open PySem.AutoSeq1 renaming list_extend_list_list_0->QC,sub_tuple_tuple->Sc
open PySem.SetTable.below renaming go->QF
open Function renaming comp_def->QM,comp->Sq
open PyProof.Rows.IsTup renaming new->QU
open PySem.IsL renaming update->Q1
open PySem.Builtin.Frozenset renaming updateFrom->Ry,newClass->RP,sizeOf->Se
open Prod renaming ext->RH
open PySem.Walks renaming list->RV
open PySem.Builtin.Str renaming tooLong->R1,glued->TC
open PySem.Moved renaming eq_with->Sg
open List.Perm renaming map->Sl,nil_eq->TK,swap->TZ,cons->T3
open List.Pairwise renaming imp_of_mem->Sr,filter->Ta,nil->Tx
open Prod.mk renaming injEq->Su
open PySem.MeetsSeq renaming list_pop_at->SV
open PySem.Txt renaming join->SW,mul->T6
open PySem.Heap.IsSliceOf renaming new->Tn
open List.Sublist renaming refl->TD
open PySem.Flow renaming next->TF
open PySem.W.Looks renaming ld->TJ
open PySem.W.XL renaming keeps->TM
open PySem.PassesOwn renaming never->TR
open List.cons renaming injEq->TU
open Or renaming inr->TY
open Nat.succ renaming inj->T8
set_option genSizeOf false
namespace ZZ.Lean
noncomputable section
set_option Elab.async false
set_option linter.all false
set_option maxRecDepth 100000
namespace L2
open PySem PySem.Spec PyProof.Rows
noncomputable abbrev nB:=Sum JI JS
abbrev Cz:nB->Jr->J3
 | .inl k,v=>Value.isInt k v
 | .inr x,v=>Value.isStrOf x v
abbrev Hl (w:Kq):nB->JI
 | .inl k=>hashInt k
 | .inr x=>hashStr w x
def bq:∀ {k:nB} {v:Jr},Cz k v=true->(∃i t,k=PY i/\v=OY i t)\/(∃x t,k=PZ x/\v=NU x t)
 | .inl i,v,h=>by
  obtain⟨t,e⟩:=Value.isInt_shape (k:=i) (v:=v) h;exact .inl #[i,t,rfl,e]
 | .inr x,v,h=>by
  obtain⟨t,e⟩:=Value.isStrOf_shape (x:=x) (v:=v) h;exact .inr #[x,t,rfl,e]
def C6 (a b:JI):decide ((PY a:nB)=PY b)=(a==b):=by
 by_cases e:a=b
 ·subst e; simp
 ·have h:¬ (PY a:nB)=PY b:=λq=>e (Sum.inl.inj q)
  rw[Kl h];exact(Oc.mpr e).symm
def C7 (a b:JS):decide ((PZ a:nB)=PZ b)=decide (a=b):=by
 by_cases e:a=b
 ·subst e; simp
 ·have h:¬ (PZ a:nB)=PZ b:=λq=>e (Sum.inr.inj q)
  rw[Kl h,Kl e]
def C8 (a:JI)(b:JS):decide ((PY a:nB)=PZ b)=false:=Kl (λq=>nomatch q)
def C9 (a:JS)(b:JI):decide ((PZ a:nB)=PY b)=false:=Kl (λq=>nomatch q)
abbrev nC (prog:Kf)(w:Kq):PySem.KeyKind prog w nB where
 is:=Cz
 hash:=Hl w
 inj:=λv a b ha hb=>by
  rcases bq ha with⟨i,t,rfl,rfl⟩|⟨x,t,rfl,rfl⟩
  ·rcases bq hb with⟨j,u,rfl,e⟩|⟨y,u,rfl,e⟩
   ·injection e with e1 _; rw[e1]
   ·exact nomatch e
  ·rcases bq hb with⟨j,u,rfl,e⟩|⟨y,u,rfl,e⟩
   ·exact nomatch e
   ·injection e with e1 _; rw[e1]
 byValue:=λk v h=>by
  rcases bq h with⟨i,t,rfl,rfl⟩|⟨x,t,rfl,rfl⟩ <;> rfl
 pyHash:=λhv h=>by
  rcases bq hv with⟨i,t,rfl,rfl⟩|⟨x,t,rfl,rfl⟩
  ·exact QS h
  ·exact QT h
 eqBool:=λhu hv h=>by
  rcases bq hu with⟨i,t,rfl,rfl⟩|⟨x,t,rfl,rfl⟩
  ·rcases bq hv with⟨j,u,rfl,rfl⟩|⟨y,u,rfl,rfl⟩
   ·rw[C6]at h; exact wpAny_eqBool_int h
   ·rw[C8]at h; exact Qd i t y u _ _ _ _ h
  ·rcases bq hv with⟨j,u,rfl,rfl⟩|⟨y,u,rfl,rfl⟩
   ·rw[C9]at h; exact Qe x t j u _ _ _ _ h
   ·rw[C7]at h; exact wpAny_eqBool_str h
 «strs»:=λk x t v h=>by
  rcases bq h with⟨i,u,rfl,e⟩|⟨y,u,rfl,e⟩
  ·exact nomatch e
  ·injection e with e1 _
   subst e1;cases v <;> rfl
inductive V where
 | non|bl (b:J3)|int (i:JI)|str (x:JS)|byt (b:J7 UInt8)|flt (b:UInt64)|ref (a:Jz)|ty (n:Lf)
 deriving ML
abbrev RelV:V->Jr->Prop
 | .non,u=>u=Kz
 | .bl b,u=>u=M3 b
 | .int i,u=>∃t,u=OY i t
 | .str x,u=>∃t,u=NU x t
 | .byt b,u=>∃t,u=Value.bytes b t
 | .flt b,u=>∃t,u=Value.float b t
 | .ref a,u=>u=Kk a
 | .ty n,u=>u=Lx n
noncomputable abbrev Vals:Jn V->Jn Jr->Prop:=O4 RelV
def Vals.length {xs:Jn V}{us:Jn Jr}(r:Vals xs us):xs.length=us.length:=OR r
def Vals.get:∀ {xs:Jn V} {us:Jn Jr} {i:Jx} {x:V},Vals xs us->xs[i]?=ba x->∃u,us[i]?=ba u/\RelV x u
 | _,_,_,_,.nil,e=>by simp at e
 | _,_,0,_,.cons r _,e=>by simp at e; subst e; exact#[_,rfl,r]
 | _,_,i+1,x,.cons _ t,e=>by
  obtain⟨u,h1,h2⟩:=Vals.get (i:=i) (x:=x) t (by simpa using e)
  exact#[u,by simpa using h1,h2]
def Vals.set {x:V}{u:Jr}(r:RelV x u):∀ {xs:Jn V} {us:Jn Jr} (i:Jx),Vals xs us->Vals (xs.set i x) (us.set i u)
 | _,_,_,.nil=>.nil
 | _,_,0,.cons _ t=>.cons r t
 | _,_,i+1,.cons q t=>.cons q (Vals.set r i t)
def Vals.append:∀ {xs ys:Jn V} {us ws:Jn Jr},Vals xs us->Vals ys ws->Vals (xs++ys) (us++ws)
 | _,_,_,_,.nil,s=>s
 | _,_,_,_,.cons r t,s=>.cons r (Vals.append t s)
def Vals.take:∀ {xs:Jn V} {us:Jn Jr} (n:Jx),Vals xs us->Vals (xs.take n) (us.take n)
 | _,_,0,_=>.nil
 | _,_,_+1,.nil=>.nil
 | _,_,n+1,.cons r t=>.cons r (Vals.take n t)
def Vals.drop:∀ {xs:Jn V} {us:Jn Jr} (n:Jx),Vals xs us->Vals (xs.drop n) (us.drop n)
 | _,_,0,r=>r
 | _,_,_+1,.nil=>.nil
 | _,_,n+1,.cons _ t=>Vals.drop n t
abbrev E7:Jw V->Jw Jr->Prop
 | some v,ba u=>RelV v u
 | none,gV=>Rs
 | _,_=>K5
abbrev KV {κ:Type}:Jn (κ×V)->Jn (κ×Jr)->Prop:=O4 λ(p:κ×V) (q:κ×Jr)=>p.1=q.1/\RelV p.2 q.2
abbrev kV:nB->V
 | .inl i=>.int i
 | .inr x=>.str x
inductive HO where
 | lst (xs:Jn V)
 | tup (xs:Jn V)
 | dK (U:Jn (nB×V))|dT (U:Jn (Jn nB×V))
 | set (S:JI->J3) (n:Jx)
 | ins (C dx:Jz) (fs:Jn (JS×V))
 | own (x:Jz)
 | xd (fs:Jn (JS×V))
 | met (f x:Jz)
 | rng (lo hi:JI)
 | frz (o:Lr) (u:HO)
 | tbl (ps:J7 Jr)
 | ext (φ:Kv->Prop)
noncomputable abbrev Hp:=Jz->Jw HO
abbrev bv (H:Hp)(a:Jz)(o:HO):Hp:=λb=>if b=a then ba o else H b
def aK {H:Hp}{a:Jz}{o:HO}:bv H a o a=ba o:=by unfold bv; rw[JX rfl]
def aC {H:Hp}{a b:Jz}{o:HO}(h:b≠a):bv H a o b=H b:=by unfold bv; rw[J8 h]
def d0 {H:Hp}{a b:Jz}{o:HO}(h:H a=ba o)(h':H b=gV):a≠b:=by
 intro e; subst e; rw[h]at h'; cases h'
section
variable (P:Kf) (w:Kq)
abbrev ObjOk (H:Hp)(h:Kv)(a:Jz):HO->Prop
 | .lst xs=>xs.length<=sizeLine/\∃(its:Jn Jr) (n:Jx),Vals xs its/\h.get? a=ba { cls:=.type "list",data:=.seq its.toArray n }
 | .tup xs=>xs.length<=sizeLine/\∃its:Jn Jr,Vals xs its/\Qs h a its.toArray
 | .dK U=>U.length<=sizeLine/\(a==sysModules)=false/\∃vs,KV U vs/\h.DictOf (nC P w) a vs
 | .dT U=>U.length<=sizeLine/\(a==sysModules)=false/\∃xs:Jn (Jn nB×Jz×Jr),
   O4 (λ(p:Jn nB×V) (q:Jn nB×Jz×Jr)=>p.1=q.1/\H q.2.1=ba (.tup (p.1.map kV))/\RelV p.2 q.2.2) U xs/\
   ∃o es ep,h.get? a=ba o/\o.ExactDict/\o.data=.dict es ep/\es.toList=xs.map (entryOfKey (tupleKind (nC P w)))/\(xs.map (·.1)).Nodup
 | .set S n=>h.SetOf (intKind P w) a S n
 | .ins C dx fs=>H dx=ba (.own a)/\fs.length<=1000/\dx≠a/\h.get? a=ba (PySem.W.instObj C dx)/\
   ∃mA,h.Ns1 dx mA/\(∀f,E7 (fs.lookup f) (mA f))/\PySem.Within mA (fs.map (·.1))
 | .own _=>∃o,h.get? a=ba o
 | .xd fs=>∃mA,h.Ns1 a mA/\∀f,E7 (fs.lookup f) (mA f)
 | .rng lo hi=>∃t u v,h.get? a=ba { cls:=.type "range",data:=.fields [.int lo t,.int hi u,.int 1 v].toArray }
 | .frz o u=>h.get? a=ba o/\ObjOk H h a u
 | .tbl ps=>h.get? a=ba { cls:=.none,data:=.fields ps }
 | .met f x=>h.get? a=ba (OL (.ref f) (.ref x))
 | .ext φ=>φ h/\(∃o,h.get? a=ba o)/\∀h1 h2:Kv,φ h1->(∀o,h1.get? a=ba o->h2.get? a=ba o)->φ h2
abbrev HOk (H:Hp)(h:Kv):Prop:=∀a o,H a=ba o->ObjOk P w H h a o
end
section
variable{P:Kf}{w:Kq}{H H':Hp}{h h':Kv}{a:Jz}{o:HO}
def ObjOk.lt (x:ObjOk P w H h a o):a < h.objs.size:=by
 cases o with
 | lst xs=>obtain⟨_,_,_,_,e⟩:=x; exact JO e
 | tup xs=>obtain⟨_,_,_,p⟩:=x; exact p.lt
 | dK U=>obtain⟨_,_,_,_,o,_,_,e,_⟩:=x; exact JO e
 | dT U=>obtain⟨_,_,_,_,o,_,_,e,_⟩:=x; exact JO e
 | set S n=>obtain⟨o,_,_,_,e,_⟩:=x; exact JO e
 | ins C dx fs=>obtain⟨_,_,_,e,_⟩:=x; exact JO e
 | own y=>obtain⟨_,e⟩:=x; exact JO e
 | xd fs=>obtain⟨_,⟨_,_,_,e,_⟩,_⟩:=x; exact JO e
 | rng lo hi=>obtain⟨_,_,_,e⟩:=x; exact JO e
 | frz ob u=>obtain⟨e,_⟩:=x; exact JO e
 | tbl ps=>exact JO (show h.get? a=ba _ from x)
 | met f y=>exact JO (show h.get? a=ba _ from x)
 | ext φ=>obtain⟨_,⟨_,e⟩,_⟩:=x; exact JO e
def Paired.mapP {α β:Type}{F G:α->β->Prop}:∀ {l₁:Jn α} {l₂:Jn β},O4 F l₁ l₂->(∀a b,F a b->G a b)->O4 G l₁ l₂
 | _,_,.nil,_=>.nil
 | _,_,.cons r t,f=>.cons (f _ _ r) (Paired.mapP t f)
def ObjOk.stay (x:ObjOk P w H h a o)(k:∀b u,(b=a\/H b=ba (.own a))->h.get? b=ba u->h'.get? b=ba u)
  (ho:∀b,H b=ba (.own a)->H' b=ba (.own a)) (ht:∀b xs,H b=ba (.tup xs)->H' b=ba (.tup xs)):ObjOk P w H' h' a o:=by
 induction o with
 | lst xs=>obtain⟨z,its,n,r,e⟩:=x; exact#[z,its,n,r,k _ _ (.inl rfl) e]
 | tup xs=>obtain⟨z,its,r,ob,e,c⟩:=x; exact#[z,its,r,ob,k _ _ (.inl rfl) e,c]
 | dK U=>obtain⟨z,y,vs,r,ob,es,ep,e,c⟩:=x; exact#[z,y,vs,r,ob,es,ep,k _ _ (.inl rfl) e,c]
 | dT U=>
  obtain⟨z,y,xs,r,ob,es,ep,e,c⟩:=x;exact#[z,y,xs,Paired.mapP r λp q z=>#[z.1,ht _ _ z.2.1,z.2.2],ob,es,ep,k _ _ (.inl rfl) e,c]
 | set S n=>obtain⟨ob,es,ep,t,e,c⟩:=x; exact#[ob,es,ep,t,k _ _ (.inl rfl) e,c]
 | ins C dx fs=>
  obtain⟨d,z,ne,e,mA,⟨od,es,ep,e2,c⟩,r⟩:=x;exact#[ho _ d,z,ne,k _ _ (.inl rfl) e,mA,#[od,es,ep,k _ _ (.inr d) e2,c],r]
 | own y=>obtain⟨ob,e⟩:=x; exact#[ob,k _ _ (.inl rfl) e]
 | xd fs=>obtain⟨mA,⟨od,es,ep,e,c⟩,r⟩:=x; exact#[mA,#[od,es,ep,k _ _ (.inl rfl) e,c],r]
 | rng lo hi=>obtain⟨t,u,v,e⟩:=x; exact#[t,u,v,k _ _ (.inl rfl) e]
 | frz ob u ih=>obtain⟨e,q⟩:=x; exact#[k _ _ (.inl rfl) e,ih q]
 | tbl ps=>
  have e:h.get? a=ba { cls:=.none,data:=.fields ps }:=x;change h'.get? a=ba { cls:=.none,data:=.fields ps };exact k a _ (.inl rfl) e
 | met f y=>
  have e:h.get? a=ba (OL (.ref f) (.ref y)):=x;change h'.get? a=ba (OL (.ref f) (.ref y));exact k a _ (.inl rfl) e
 | ext φ=>obtain⟨p,⟨o,e⟩,st⟩:=x; exact#[st _ _ p λo q=>k _ _ (.inl rfl) q,#[o,k _ _ (.inl rfl) e],st]
def HOk.lt (x:HOk P w H h)(e:H a=ba o):a < h.objs.size:=(x a o e).lt
def HOk.fresh (x:HOk P w H h)(e:h.objs.size<=a):H a=gV:=by
 cases q:H a with
 | none=>rfl
 | some u=>exact absurd (J4 (x.lt q) e) (KT _)
def HOk.kept (x:HOk P w H h)(k:∀b u,h.get? b=ba u->h'.get? b=ba u):HOk P w H h':=λa o e=>
 (x a o e).stay (λb u _ q=>k b u q) (λ_ q=>q) λ_ _ q=>q
def HOk.laid (x:HOk P w H h)(k:∀b u,h.get? b=ba u->h'.get? b=ba u)(hp:h.objs.size<=a)(new:ObjOk P w (bv H a o) h' a o):HOk P w (bv H a o) h':=λb u e=>by
 have hn:=x.fresh hp
 by_cases hb:b=a
 ·subst hb; rw[aK]at e; cases e; exact new
 ·rw[aC hb]at e;exact(x b u e).stay (λc v _ q=>k c v q) (λc q=>by rw[aC (d0 q hn)]; exact q) λc xs q=>by rw[aC (d0 q hn)]; exact q
end
abbrev Rd (H:Hp)(a:Jz)(u:HO):Prop:=H a=ba u\/∃o,H a=ba (.frz o u)
def Rd.ok {P:Kf}{w:Kq}{H:Hp}{h:Kv}{a:Jz}{u:HO}(r:Rd H a u)(x:HOk P w H h):ObjOk P w H h a u:=by
 rcases r with r|⟨o,r⟩
 ·exact x a u r
 ·obtain⟨_,q⟩:=x a _ r;exact q
abbrev E8:Jw HO->Prop
 | some (.lst _)=>Rs
 | some (.dK _)=>Rs
 | some (.dT _)=>Rs
 | some (.set _ _)=>Rs
 | some (.ins _ _ _)=>Rs
 | some (.ext _)=>Rs
 | _=>K5
section
variable{P:Kf}{w:Kq}{H:Hp}{h h':Kv}{x e:Jz}{o':HO}
def HOk.write (ok:HOk P w H h)(mu:E8 (H x))(he:e=x\/H e=ba (.own x))(k:∀b u,b≠e->h.get? b=ba u->h'.get? b=ba u)(heo:∃u,h'.get? e=ba u)
  (new:ObjOk P w (bv H x o') h' x o'):HOk P w (bv H x o') h':=λb u q=>by
 have nown:∀c y,H c=ba (.own y)->c≠x:=λc y r z=>by subst z; rw[r]at mu; exact mu
 have ntup:∀c xs,H c=ba (.tup xs)->c≠x:=λc xs r z=>by subst z; rw[r]at mu; exact mu
 by_cases hb:b=x
 ·subst hb; rw[aK]at q; cases q; exact new
 ·rw[aC hb]at q
  by_cases hbe:b=e
  ·have q':H b=ba (.own x):=by
    rcases he with z|z
    ·exact absurd (hbe.trans z) hb
    ·rw[hbe]; exact z
   rw[q]at q'; cases q'
   obtain⟨v,hv⟩:=heo;exact#[v,by rw[hbe]; exact hv]
  ·show(ok b u q).stay (λc v hc r=>k c v ?_ r) (λc r=>by rw[aC (nown c b r)]; exact r) λc xs r=>by rw[aC (ntup c xs r)]; exact r
   rcases hc with rfl|hc
   ·exact hbe
   ·rintro rfl;rcases he with z|z
    ·exact nown c b hc z
    ·rw[hc]at z; cases z; exact hb rfl
end
structure Un (fs ex:Jn Jz)(H H':Hp)(h h':Kv):Prop where
 keep:∀b o,h.get? b=ba o->H b=gV->b∉fs->b∉ex->h'.get? b=ba o
 slot:∀b o,h.get? b=ba o->H b=gV->b∈fs->b∉ex->∃sl,h'.get? b=ba { o with slots:=sl }
 free:∀b o,h.get? b=ba o->H b=gV->b∉ex->H' b=gV
 there:∀b o,h.get? b=ba o->b∉ex->∃o',h'.get? b=ba o'
 tups:∀b xs,H b=ba (.tup xs)->H' b=ba (.tup xs)
 frzs:∀b o u,H b=ba (.frz o u)->H' b=ba (.frz o u)
 tbls:∀b ps,H b=ba (.tbl ps)->∃more,H' b=ba (.tbl (ps++more))
section
variable{fs fs' ex ex':Jn Jz}{H H1 H2:Hp}{h h1 h2 h':Kv}{a x e:Jz}{o:HO}
def Un.any (u:Un fs ex H H1 h h1){b:Jz}{ob:Lr}(q:h.get? b=ba ob)(n:H b=gV)(hx:b∉ex):∃sl,h1.get? b=ba { ob with slots:=sl }:=by
 by_cases hb:b∈fs
 ·exact u.slot b ob q n hb hx
 ·exact#[ob.slots,u.keep b ob q n hb hx]
def Un.trans (a:Un fs ex H H1 h h1)(b:Un fs ex H1 H2 h1 h2):Un fs ex H H2 h h2 where
 keep:=λc ob q n hc hx=>b.keep c ob (a.keep c ob q n hc hx) (a.free c ob q n hx) hc hx
 slot:=λc ob q n hc hx=>by
  obtain⟨sl,e1⟩:=a.slot c ob q n hc hx;obtain⟨sl',e2⟩:=b.slot c _ e1 (a.free c ob q n hx) hc hx;exact#[sl',e2]
 free:=λc ob q n hx=>by
  obtain⟨o',e1⟩:=a.there c ob q hx;exact b.free c o' e1 (a.free c ob q n hx) hx
 there:=λc ob q hx=>by
  obtain⟨o',e1⟩:=a.there c ob q hx;exact b.there c o' e1 hx
 tups:=λc xs q=>b.tups c xs (a.tups c xs q)
 frzs:=λc ob xs q=>b.frzs c ob xs (a.frzs c ob xs q)
 tbls:=λc ps q=>by
  obtain⟨m1,e1⟩:=a.tbls c ps q;obtain⟨m2,e2⟩:=b.tbls c _ e1;exact#[m1++m2,by rw[e2,Qf]]
def Un.kept (k:∀b u,h.get? b=ba u->h'.get? b=ba u):Un fs ex H H h h':=
 #[λb ob q _ _ _=>k b ob q,λb ob q _ _ _=>#[ob.slots,k b ob q],λ_ _ _ n _=>n,λb ob q _=>#[ob,k b ob q],λ_ _ q=>q,λ_ _ _ q=>q,λ_ ps q=>#[#[],by rw[q]; simp]]
def Un.refl:Un fs ex H H h h:=Un.kept λ_ _ q=>q
def Un.laid (k:∀b u,h.get? b=ba u->h'.get? b=ba u)(hp:h.objs.size<=a)(hn:H a=gV):Un fs ex H (bv H a o) h h' where
 keep:=λb u q _ _ _=>k b u q
 slot:=λb u q _ _ _=>#[u.slots,k b u q]
 free:=λb u q n _=>by rw[aC (JZ (J4 (JO q) hp))]; exact n
 there:=λb u q _=>#[u,k b u q]
 tups:=λb xs q=>by rw[aC (d0 q hn)]; exact q
 frzs:=λb u xs q=>by rw[aC (d0 q hn)]; exact q
 tbls:=λb ps q=>#[#[],by rw[aC (d0 q hn),q]; simp]
def Un.write (mu:E8 (H x))(he:e=x\/H e=ba (.own x))(k:∀b u,b≠e->h.get? b=ba u->h'.get? b=ba u)(heo:∃u,h'.get? e=ba u):Un fs ex H (bv H x o) h h':=by
 have hx:∀b,H b=gV->b≠x:=λb n z=>by subst z; rw[n]at mu; exact mu
 have hb:∀b,H b=gV->b≠e:=λb n z=>by
  subst z;rcases he with r|r
  ·exact hx b n r
  ·rw[n]at r; cases r
 have hm:∀b u,H b=ba u->¬ E8 (ba u)->b≠x:=λb u q nm z=>by subst z; rw[q]at mu; exact nm mu
 show#[λb u q n _ _=>k b u (hb b n) q,λb u q n _ _=>#[u.slots,k b u (hb b n) q],λb u q n _=>by rw[aC (hx b n)]; exact n,λb u q _=>?_,
  λb xs q=>by rw[aC (hm b _ q λz=>z)]; exact q,λb u xs q=>by rw[aC (hm b _ q λz=>z)]; exact q,λb ps q=>#[#[],by rw[aC (hm b _ q λz=>z),q]; simp]]
 by_cases hbe:b=e
 ·subst hbe; exact heo
 ·exact#[u,k b u hbe q]
end
abbrev G9 (h:Kv)(H:Hp):Jn Jz:=(JW h.objs.size).filter λa=>(H a).isSome
abbrev nD (h:Kv)(H:Hp):Kv:=PySem.W.hideAll h (G9 h H)
def uZ (h:Kv)(H:Hp):(nD h H).objs.size=h.objs.size:=PySem.W.hideAll_size _ _
def wQ {h:Kv}{H:Hp}{b:Jz}{o:Lr}(e:h.get? b=ba o)(n:H b=gV):(nD h H).get? b=ba o:=
 PySem.W.hideAll_get _ e λhm=>by
  have q:(H b).isSome=true:=(LD.mp hm).2;rw[n]at q; simp at q
def Ar {h:Kv}{H:Hp}{b:Jz}{o:Lr}(e:(nD h H).get? b=ba o):h.get? b=ba o/\H b=gV:=by
 have e':h.get? b=ba o:=PySem.W.of_hideAll (G9 h H) e;show#[e',?_];cases q:H b with
 | none=>rfl
 | some x=>
  have hm:b∈G9 h H:=LD.mpr #[JT.mpr (JO e'),by simp[q]]
  have z:(nD h H).get? b=gV:=PySem.W.hideAll_none (G9 h H) hm;rw[z]at e; cases e
abbrev As (g h:Kv)(L:Jz):Jn (Jz×Lr):=(JW h.objs.size).filterMap λa=>if a=L\/(g.get? a).isSome=true then gV else(h.get? a).map λo=>(a,o)
abbrev bw (g h:Kv)(L d:Jz):Jn (Jz×Lr):=(As g h L).filter λp=>decide (p.1≠d)
structure Mod (K:JE)(mg:JS->Jw Jr)(base:Kv):Prop where
 kin:K.In base
 glob:base.Ns mainGlobals mg
 blt:∃mb,base.Ns builtinsNs mb/\∀x:JS,x≠"__name__"->mb x=bootBuiltins x
 nolimit:base.NoLimit
structure Cx where
 prog:Kf
 w:Kq
 K:JE
 mg:JS->Jw Jr
 base:Kv
 A:Ki
 N:Jn JS
 s₀:Jt
 H₀:Hp
 env:Qg
 outer:Jn Qg
 stack:Jn Qg
 ex:Jn Jz
 fn:JS->J3
 calm:J3
 pn:Jn (Jz×Lr)
 xe:Jr->Jt->Prop
abbrev rJ (l:Jn Qg):Jn Jz:=l.filterMap (·.frame)
noncomputable abbrev Cx.fs (X:Cx):Jn Jz:=rJ X.outer
abbrev Ha (sc:MM)(x:JS):Prop:=sc.names.lookup x=ba .local\/sc.names.lookup x=ba .cell\/sc.names.lookup x=ba .free
abbrev At (sc:MM)(x:JS):Prop:=sc.names.lookup x=ba .local\/sc.names.lookup x=ba .cell
abbrev Hm (env:Qg)(h:Kv)(m:JS->Jw Jr)(x:JS)(u:Jr):Prop:=
 (env.kindOf x=ba .local/\m x=ba u)\/((env.kindOf x=ba .cell\/env.kindOf x=ba .free)/\∃c,env.cells.lookup x=ba c/\h.IsCell c (ba u))
structure Cx.Ok (X:Cx):Prop where
 mod:Mod X.K X.mg X.base
 kind:X.env.scope.kind=.function
 glob:X.env.globals=mainGlobals
 blt:X.env.builtins=builtinsNs
 above:X.s₀.heap.objs.size<=X.env.locals
 inj:∀x y c,X.env.cells.lookup x=ba c->X.env.cells.lookup y=ba c->x=y
 has:∀x,(X.env.kindOf x=ba .cell\/X.env.kindOf x=ba .free)->∃c,X.env.cells.lookup x=ba c
 cab:∀x c,X.fn x=true->X.env.cells.lookup x=ba c->X.s₀.heap.objs.size<=c
 hd:X.calm=true->X.A.handled=gV
 frames:X.A.frames=ba X.stack
 stk:X.stack=X.outer\/(X.stack=X.env::X.outer/\X.env.frame=ba X.env.locals)
 exf:∀b∈X.ex,b≠X.env.locals/\∀x c,X.env.cells.lookup x=ba c->c≠b
 bs:∀b o,X.base.get? b=ba o->X.s₀.heap.get? b=ba o/\X.H₀ b=gV
 bsz:X.base.objs.size<=X.s₀.heap.objs.size
 noex:∀b o,X.base.get? b=ba o->b∉X.ex
 exfs:∀b∈X.ex,b∉X.fs
 funs:X.s₀.heap.FunFrames X.base X.outer
 frf:∀b∈X.fs,X.H₀ b=gV
structure Inv (X:Cx)(J:Jn (Jz×Lr))(Y:Jn (Jw V))(H:Hp)(s:Jt):Prop where
 ok:X.Ok
 os:s.os=X.s₀.os
 bare:OM s.gens
 base:Un X.fs X.ex X.H₀ H X.s₀.heap s.heap
 loc:∃m,s.heap.Ns X.env.locals m/\∀(i:Jx) (x:JS) (v:V),X.N[i]?=ba x->Y[i]?=ba (ba v)->Ha X.env.scope x->∃u,RelV v u/\Hm X.env s.heap m x u
 cell:∀x c,X.env.cells.lookup x=ba c->∃v,s.heap.IsCell c v
 free:H X.env.locals=gV
 freeC:∀x c,X.env.cells.lookup x=ba c->H c=gV
 pin:∀p∈X.pn++J,s.heap.get? p.1=ba p.2/\H p.1=gV/\p.1≠X.env.locals/\p.1∉X.fs/\∀v,p.2.data≠.cell v
 hok:HOk X.prog X.w H s.heap
 len:Y.length=X.N.length
section
variable{X:Cx}{J:Jn (Jz×Lr)}{Y:Jn (Jw V)}{H H':Hp}{s:Jt}{h':Kv}
def Cx.Ok.nofr (ok:X.Ok){b:Jz}{o:Lr}(e:X.base.get? b=ba o):b∉X.fs:=λhb=>by
 have:=(ok.funs.mem hb).1;rw[e]at this; cases this
def Inv.bs (I:Inv X J Y H s):∀b o,X.base.get? b=ba o->s.heap.get? b=ba o/\H b=gV:=λb o e=>
 #[I.base.keep b o (I.ok.bs b o e).1 (I.ok.bs b o e).2 (I.ok.nofr e) (I.ok.noex b o e),I.base.free b o (I.ok.bs b o e).1 (I.ok.bs b o e).2 (I.ok.noex b o e)]
def Inv.bk (I:Inv X J Y H s):∀b o,X.base.get? b=ba o->s.heap.get? b=ba o:=λb o e=>(I.bs b o e).1
def Inv.mod (I:Inv X J Y H s):Mod X.K X.mg X.base:=I.ok.mod
def Inv.kIn (I:Inv X J Y H s):X.K.In s.heap:=I.ok.mod.kin.keeps I.bk
def Inv.lt (I:Inv X J Y H s):X.env.locals < s.heap.objs.size:=let ⟨_,hn,_⟩:=I.loc; hn.lt
def Inv.sz (I:Inv X J Y H s):X.s₀.heap.objs.size<=s.heap.objs.size:=J6 I.ok.above (MN I.lt)
def Inv.nofs (I:Inv X J Y H s){a:Jz}(h:s.heap.objs.size<=a):a∉X.fs:=λhb=>by
 obtain⟨_,o,ho,_⟩:=I.ok.funs.mem hb;exact absurd (J4 (JO ho) (J6 I.sz h)) (KT _)
def Inv.cne (I:Inv X J Y H s):∀x c,X.env.cells.lookup x=ba c->c≠X.env.locals:=λx c e z=>by
 obtain⟨v,o,ho,hd⟩:=I.cell x c e;obtain⟨m,⟨o',es,ep,ho',hd',_⟩,_⟩:=I.loc;rw[z,ho']at ho; cases ho; rw[hd']at hd; cases hd
def Inv.funs (I:Inv X J Y H s):s.heap.FunFrames X.base X.outer:=by
 have all:∀(l:Jn Qg),(∀b∈rJ l,b∈X.fs)->X.s₀.heap.FunFrames X.base l->s.heap.FunFrames X.base l:=by
  intro l
  induction l with
  | nil=>intro _ _; trivial
  | cons env r ih=>
   intro hs hl;obtain⟨hk,⟨L,o,hf,hn,ho,hd⟩,hr⟩:=hl;have hL:L∈X.fs:=hs L (by unfold rJ; rw[Nl,hf]; exact KP)
   obtain⟨sl,e⟩:=I.base.slot L o ho (I.ok.frf L hL) hL λz=>I.ok.exfs L z hL
   exact#[hk,#[L,_,hf,hn,e,hd],ih (λb hb=>hs b (by unfold rJ; rw[Nl,hf]; exact KA _ hb)) hr]
 exact all X.outer (λ_ hb=>hb) I.ok.funs
def Inv.stack (I:Inv X J Y H s):s.heap.FunFrames X.base X.stack:=by
 rcases I.ok.stk with e|⟨e,hf⟩
 ·rw[e]; exact I.funs
 ·rw[e];obtain⟨m,hn,_⟩:=I.loc;show .cons (by rw[I.ok.kind]; decide) hf hn ?_ I.funs
  exact Heap.get?_none_of_le (J6 I.ok.bsz I.ok.above)
def Inv.stkSub (I:Inv X J Y H s):∀b∈rJ X.stack,b∈X.env.locals::X.fs:=λb hb=>by
 rcases I.ok.stk with e|⟨e,hf⟩
 ·rw[e]at hb; exact KA _ hb
 ·rw[e]at hb;unfold rJ at hb;rw[Nl,hf]at hb;exact hb
def Inv.stkFree (I:Inv X J Y H s):∀b∈rJ X.stack,H b=gV:=λb hb=>by
 rcases JR.mp (I.stkSub b hb)with e|hb
 ·rw[e]; exact I.free
 ·obtain⟨_,o,ho,_⟩:=I.ok.funs.mem hb;exact I.base.free b o ho (I.ok.frf b hb) λz=>I.ok.exfs b z hb
def Inv.step {g':J7 PD}{t':Jx}{d':TV}{ch:Jn Jz}(I:Inv X J Y H s)
  (hch:∀b∈ch,(b∈X.ex\/X.s₀.heap.objs.size<=b)/\b≠X.env.locals/\(∀x c,X.env.cells.lookup x=ba c->c≠b)/\∀p∈X.pn++J,p.1≠b)
  (keep:∀b o,b≠X.env.locals->b∉X.fs->b∉ch->s.heap.get? b=ba o->H b=gV->h'.get? b=ba o)
  (slot:∀b o,b≠X.env.locals->b∈X.fs->b∉ch->s.heap.get? b=ba o->H b=gV->∃sl,h'.get? b=ba { o with slots:=sl }) (free:∀b o,b∉ch->s.heap.get? b=ba o->H b=gV->H' b=gV)
  (there:∀b o,b∉ch->s.heap.get? b=ba o->∃o',h'.get? b=ba o')
  (tups:∀b xs,H b=ba (.tup xs)->H' b=ba (.tup xs)) (frzs:∀b o u,H b=ba (.frz o u)->H' b=ba (.frz o u)) (tbls:∀b ps,H b=ba (.tbl ps)->∃more,H' b=ba (.tbl (ps++more)))
  (ns:∀m,s.heap.Ns X.env.locals m->h'.Ns X.env.locals m) (hok:HOk X.prog X.w H' h') (hg:OM g') :
  Inv X J Y H' { s with heap:=h',gens:=g',drawn:=d',toks:=t' }:=by
 have neL:∀b o,X.s₀.heap.get? b=ba o->b≠X.env.locals:=λb o e=>JZ (J4 (JO e) I.ok.above)
 have neC:∀b o,X.s₀.heap.get? b=ba o->b∉X.ex->b∉ch:=λb o e hx hb=>by
  rcases(hch b hb).1 with z|z
  ·exact hx z
  ·exact absurd (J4 (JO e) z) (KT _)
 have cellK:∀x c,X.env.cells.lookup x=ba c->∀v,s.heap.IsCell c v->h'.IsCell c v:=λx c e v #[o,ho,hd]=>by
  have nch:c∉ch:=λz=>(hch c z).2.2.1 x c e rfl
  by_cases hc:c∈X.fs
  ·obtain⟨sl,q⟩:=slot c o (I.cne x c e) hc nch ho (I.freeC x c e);exact#[_,q,hd]
  ·exact#[o,keep c o (I.cne x c e) hc nch ho (I.freeC x c e),hd]
 show#[I.ok,I.os,hg,#[λb o e n hb hx=>?_,λb o e n hb hx=>?_,λb o e n hx=>?_,λb o e hx=>?_,λb xs e=>tups b xs (I.base.tups b xs e),λb o xs e=>frzs b o xs (I.base.frzs b o xs e),λb ps e=>?_],?_,λx c e=>?_,?_,λx c e=>?_,λp hp=>?_,hok,I.len]
 ·exact keep b o (neL b o e) hb (neC b o e hx) (I.base.keep b o e n hb hx) (I.base.free b o e n hx)
 ·obtain⟨sl,e1⟩:=I.base.slot b o e n hb hx;obtain⟨sl',e2⟩:=slot b _ (neL b o e) hb (neC b o e hx) e1 (I.base.free b o e n hx);exact#[sl',e2]
 ·obtain⟨o',e1⟩:=I.base.there b o e hx;exact free b o' (neC b o e hx) e1 (I.base.free b o e n hx)
 ·obtain⟨o',e1⟩:=I.base.there b o e hx;exact there b o' (neC b o e hx) e1
 ·obtain⟨m1,e1⟩:=I.base.tbls b ps e;obtain⟨m2,e2⟩:=tbls b _ e1;exact#[m1++m2,by rw[e2,Qf]]
 ·obtain⟨m,hn,hl⟩:=I.loc;show#[m,ns m hn,λi x v e1 e2 e3=>?_]
  obtain⟨u,r,l⟩:=hl i x v e1 e2 e3;show#[u,r,?_];rcases l with l|⟨k,c,e,z⟩
  ·exact .inl l
  ·exact .inr #[k,c,e,cellK x c e _ z]
 ·obtain⟨v,z⟩:=I.cell x c e;exact#[v,cellK x c e v z]
 ·obtain⟨m,⟨o,_,_,ho,_⟩,_⟩:=I.loc;exact free _ o (λz=>(hch _ z).2.1 rfl) ho I.free
 ·obtain⟨v,o,ho,hd⟩:=I.cell x c e;exact free c o (λz=>(hch c z).2.2.1 x c e rfl) ho (I.freeC x c e)
 ·obtain⟨e,n,ne,nf,d⟩:=I.pin p hp;have nch:p.1∉ch:=λz=>(hch p.1 z).2.2.2 p hp rfl
  exact#[keep p.1 p.2 ne nf nch e n,free p.1 p.2 nch e n,ne,nf,d]
def Inv.un {t':Jx}(I:Inv X J Y H s)(u:Un X.fs [] H H' s.heap h')(hok:HOk X.prog X.w H' h'):Inv X J Y H' { s with heap:=h',toks:=t' }:=by
 obtain⟨m,⟨o,es,ep,ho,r⟩,_⟩:=id I.loc;obtain⟨sl,hL⟩:=u.any ho I.free (by simp)
 exact I.step (g':=s.gens) (d':=s.drawn) (ch:=[]) (λ_ z=>nomatch z) (λb o _ hb _ e n=>u.keep b o e n hb (by simp)) (λb o _ hb _ e n=>u.slot b o e n hb (by simp)) (λb o _ e n=>u.free b o e n (by simp)) (λb o _ e=>u.there b o e (by simp)) u.tups u.frzs u.tbls (λm' hm=>by
  obtain⟨o',es',ep',ho',r'⟩:=hm;rw[ho]at ho'; cases ho'
  exact#[_,es',ep',hL,r']) hok I.bare
def Inv.call {g':J7 PD}{t':Jx}{d':TV}{ch:Jn Jz}(I:Inv X J Y H s)(u:Un (rJ X.stack) ch H H' s.heap h')(hok:HOk X.prog X.w H' h')(hg:OM g')
  (hch:∀b∈ch,(b∈X.ex\/X.s₀.heap.objs.size<=b)/\b≠X.env.locals/\(∀x c,X.env.cells.lookup x=ba c->c≠b)/\∀p∈X.pn++J,p.1≠b) :
  Inv X J Y H' { s with heap:=h',gens:=g',drawn:=d',toks:=t' }:=by
 obtain⟨m,⟨o,es,ep,ho,r⟩,_⟩:=id I.loc;obtain⟨sl,hL⟩:=u.any ho I.free λz=>(hch _ z).2.1 rfl
 exact I.step (ch:=ch) hch (λb o hL hb hc e n=>u.keep b o e n (λz=>(JR.mp (I.stkSub b z)).elim hL hb) hc) (λb o _ _ hc e n=>u.any e n hc) (λb o hc e n=>u.free b o e n hc) (λb o hc e=>u.there b o e hc) u.tups u.frzs u.tbls (λm' hm=>by
  obtain⟨o',es',ep',ho',r'⟩:=hm;rw[ho]at ho'; cases ho'
  exact#[_,es',ep',hL,r']) hok hg
def Inv.turned {t':Jx}{it:Jz}(I:Inv X J Y H s)(k:∀b o,b≠it->s.heap.get? b=ba o->h'.get? b=ba o)(hn:H it=gV)(hL:it≠X.env.locals)
  (h1:it∈X.ex\/X.s₀.heap.objs.size<=it) (h2:∀x c,X.env.cells.lookup x=ba c->c≠it) (h3:∀p∈X.pn++J,p.1≠it):Inv X J Y H { s with heap:=h',toks:=t' }:=by
 have nit:∀b u,H b=ba u->b≠it:=λb u e z=>by rw[z,hn]at e; cases e
 show I.step (g':=s.gens) (d':=s.drawn) (ch:=[it]) (λb hb=>?_) (λb o _ _ hc e _=>k b o (λz=>hc (by simp[z])) e) (λb o _ _ hc e _=>#[o.slots,k b o (λz=>hc (by simp[z])) e]) (λ_ _ _ _ n=>n)
  (λb o hc e=>#[o,k b o (λz=>hc (by simp[z])) e]) (λ_ _ e=>e) (λ_ _ _ e=>e) (λb ps e=>#[#[],by rw[e]; simp]) (λm hm=>?_) (λb u e=>?_) I.bare
 ·have e:b=it:=by simpa using hb
  subst e;exact#[h1,hL,h2,h3]
 ·obtain⟨o,es,ep,ho,r⟩:=hm;exact#[o,es,ep,k _ o (Ne.symm hL) ho,r]
 ·show(I.hok b u e).stay (λc v hc q=>k c v ?_ q) (λ_ q=>q) λ_ _ q=>q
  rcases hc with z|z
  ·rw[z]; exact nit b u e
  ·exact nit c _ z
def Inv.tok (I:Inv X J Y H s)(t:Jx):Inv X J Y H { s with toks:=t }:=I.un (h':=s.heap) (t':=t) Un.refl I.hok
def Inv.kept {t':Jx}(I:Inv X J Y H s)(k:∀b u,s.heap.get? b=ba u->h'.get? b=ba u):Inv X J Y H { s with heap:=h',toks:=t' }:=I.un (Un.kept k) (I.hok.kept k)
def Inv.laid {a:Jz}{o:HO}{t':Jx}(I:Inv X J Y H s)(k:∀b u,s.heap.get? b=ba u->h'.get? b=ba u)(hp:s.heap.objs.size<=a)(new:ObjOk X.prog X.w (bv H a o) h' a o) :
  Inv X J Y (bv H a o) { s with heap:=h',toks:=t' }:=I.un (Un.laid k hp (I.hok.fresh hp)) (I.hok.laid k hp new)
def Inv.write {x e:Jz}{o:HO}{t':Jx}(I:Inv X J Y H s)(mu:E8 (H x))(he:e=x\/H e=ba (.own x))(k:∀b u,b≠e->s.heap.get? b=ba u->h'.get? b=ba u)(heo:∃u,h'.get? e=ba u)
  (new:ObjOk X.prog X.w (bv H x o) h' x o):Inv X J Y (bv H x o) { s with heap:=h',toks:=t' }:=I.un (Un.write mu he k heo) (I.hok.write mu he k heo new)
def Inv.pins_of {J':Jn (Jz×Lr)}(I:Inv X J Y H s)(h:∀p∈J',s.heap.get? p.1=ba p.2/\H p.1=gV/\p.1≠X.env.locals/\p.1∉X.fs/\∀v,p.2.data≠.cell v):Inv X J' Y H s:=
 #[I.ok,I.os,I.bare,I.base,I.loc,I.cell,I.free,I.freeC,λp hp=>(Kc.mp hp).elim (λz=>I.pin p (KU _ z)) (h p),I.hok,I.len]
def o8 {N:Jn JS}(hN:N.Nodup){i j:Jx}{x:JS}(a:N[i]?=ba x)(b:N[j]?=ba x):i=j:=by
 obtain⟨h1,e1⟩:=JD.mp a;obtain⟨h2,e2⟩:=JD.mp b;exact(LJ hN).mp (e1.trans e2.symm)
def u4 {tv:Tv}{A:Ki}{E:Jr->Jt->Prop}{i:Jx}{x:JS}{v:V}{u:Jr}{Q:TW->Jt->Prop}(I:Inv X J Y H s)(hN:X.N.Nodup)(hi:X.N[i]?=ba x)(hx:At X.env.scope x)(r:RelV v u)
  (h:∀s',Inv X J (Y.set i (ba v)) H s'->(∃a,LF a s.heap s'.heap/\(a=X.env.locals\/X.env.cells.lookup x=ba a))->Q () s') (hf:X.fn x=true\/X.env.scope.names.lookup x=ba .local):wpAny tv A (storeName X.env x u) Q E s:=by
 obtain⟨m,hn,hl⟩:=id I.loc;have hcls:(X.env.scope.kind==.class||(X.env.scope.kind==.module&&X.env.locals != X.env.globals))=false:=by rw[I.ok.kind]; rfl
 have hiσ:i < Y.length:=by rw[I.len]; exact(JD.mp hi).1
 have cne:=I.cne;have tracked:∀ {a:Jz} {h':Kv},(∃o,s.heap.get? a=ba o/\H a=gV)->LF a s.heap h'->HOk X.prog X.w H h':=λ{a h'} ha hs b ob e=>by
  obtain⟨_,_,hfree⟩:=ha;show(I.hok b ob e).stay (λc w' hc q=>(hs.2 c ?_).trans q) (λ_ q=>q) λ_ _ q=>q
  rintro rfl;rcases hc with rfl|hc
  ·rw[hfree]at e; cases e
  ·rw[hfree]at hc; cases hc
 rcases hx with hk|hk
 ·show wpAny_storeName_local hk hn (λh' hn' hs=>?_) hcls
  obtain⟨oL,_,_,hoL,_⟩:=id hn;show h _ #[I.ok,I.os,I.bare,#[λb o e n hb hx=>?_,λb o e n hb hx=>?_,I.base.free,λb o e hx=>?_,I.base.tups,I.base.frzs,I.base.tbls],#[_,hn',λj y v' e1 e2 e3=>?_],λy c e=>?_,I.free,I.freeC,λp hp=>?_,tracked #[oL,hoL,I.free] hs,by simpa using I.len] #[_,hs,.inl rfl]
  ·exact(hs.2 b (JZ (J4 (JO e) I.ok.above))).trans (I.base.keep b o e n hb hx)
  ·obtain⟨sl,e1⟩:=I.base.slot b o e n hb hx;exact#[sl,(hs.2 b (JZ (J4 (JO e) I.ok.above))).trans e1]
  ·obtain⟨o',e1⟩:=I.base.there b o e hx;exact#[o',(hs.2 b (JZ (J4 (JO e) I.ok.above))).trans e1]
  ·by_cases hj:j=i
   ·subst hj;rw[hi]at e1; cases e1
    rw[O5 hiσ]at e2;cases e2;exact#[u,r,.inl #[hk,by simp]]
   ·rw[PF (Ne.symm hj)]at e2;obtain⟨u',r',q⟩:=hl j y v' e1 e2 e3;show#[u',r',?_];rcases q with⟨k,e⟩|⟨k,c,e,z⟩
    ·show .inl #[k,?_];have:y≠x:=λe=>hj (o8 hN e1 (e ▸ hi))
     simp[this,e]
    ·exact .inr #[k,c,e,z.sameBut hs (cne y c e)]
  ·obtain⟨w',z⟩:=I.cell y c e;exact#[w',z.sameBut hs (cne y c e)]
  ·obtain⟨e,n,ne,nf,d⟩:=I.pin p hp;exact#[(hs.2 p.1 ne).trans e,n,ne,nf,d]
 ·have hfn:X.fn x=true:=by
   rcases hf with z|z
   ·exact z
   ·rw[z]at hk; cases hk
  obtain⟨c,hc⟩:=I.ok.has x (.inl hk);obtain⟨w',z⟩:=I.cell x c hc;show wpAny_storeName_cell I.ok.kind hk hc z (λh' hc' hs=>?_)
  obtain⟨oc,hoc,hocd⟩:=id z;show h { s with heap:=h' } #[I.ok,I.os,I.bare,#[λb o e n hb hx=>?_,λb o e n hb hx=>?_,I.base.free,λb o e hx=>?_,I.base.tups,I.base.frzs,I.base.tbls],#[m,hn.sameBut hs (Ne.symm (cne x c hc)),λj y v' e1 e2 e3=>?_],λy c' e=>?_,I.free,I.freeC,λp hp=>?_,tracked #[oc,hoc,I.freeC x c hc] hs,by simpa using I.len] #[c,hs,.inr hc]
  ·exact(hs.2 b (JZ (J4 (JO e) (I.ok.cab x c hfn hc)))).trans (I.base.keep b o e n hb hx)
  ·obtain⟨sl,e1⟩:=I.base.slot b o e n hb hx;exact#[sl,(hs.2 b (JZ (J4 (JO e) (I.ok.cab x c hfn hc)))).trans e1]
  ·obtain⟨o',e1⟩:=I.base.there b o e hx;exact#[o',(hs.2 b (JZ (J4 (JO e) (I.ok.cab x c hfn hc)))).trans e1]
  ·by_cases hj:j=i
   ·subst hj;rw[hi]at e1; cases e1
    rw[O5 hiσ]at e2;cases e2;exact#[u,r,.inr #[.inl hk,c,hc,hc']]
   ·rw[PF (Ne.symm hj)]at e2;obtain⟨u',r',q⟩:=hl j y v' e1 e2 e3;show#[u',r',?_];rcases q with q|⟨k,c',e,z'⟩
    ·exact .inl q
    ·show .inr #[k,c',e,z'.sameBut hs ?_];rintro rfl;exact hj (o8 hN e1 (I.ok.inj _ _ _ e hc ▸ hi))
  ·by_cases hcc:c'=c
   ·subst hcc; exact#[_,hc']
   ·obtain⟨w2,z2⟩:=I.cell y c' e;exact#[w2,z2.sameBut hs hcc]
  ·obtain⟨e,n,ne,nf,d⟩:=I.pin p hp;show#[(hs.2 p.1 ?_).trans e,n,ne,nf,d];intro q;rw[q,hoc]at e;have q':oc=p.2:=KQ e;exact d w' (by rw[<- q']; exact hocd)
def iI {tv:Tv}{A:Ki}{E:Jr->Jt->Prop}{i:Jx}{x:JS}{v:V}{u:Jr}{Q:TW->Jt->Prop}(I:Inv X J Y H s)(hN:X.N.Nodup)(hi:X.N[i]?=ba x)(hx:At X.env.scope x)(r:RelV v u)
  (h:∀s',Inv X J (Y.set i (ba v)) H s'->Q () s') (hf:X.fn x=true\/X.env.scope.names.lookup x=ba .local):wpAny tv A (storeName X.env x u) Q E s:=
 u4 I hN hi hx r (λs' I' _=>h s' I') hf
def Inv.call' {s':Jt}{ch:Jn Jz}(I:Inv X J Y H s)(ho:s'.os=s.os)(u:Un (rJ X.stack) ch H H' s.heap s'.heap)(hok:HOk X.prog X.w H' s'.heap)(hg:OM s'.gens)
  (hch:∀b∈ch,(b∈X.ex\/X.s₀.heap.objs.size<=b)/\b≠X.env.locals/\(∀x c,X.env.cells.lookup x=ba c->c≠b)/\∀p∈X.pn++J,p.1≠b):Inv X J Y H' s':=by
 obtain⟨h',g',d',t',o'⟩:=s';have e:o'=s.os:=ho;subst e;exact I.call (g':=g') (t':=t') (d':=d') u hok hg hch
end
noncomputable abbrev XK:=Jr->Jw Jz->Hp->Prop
noncomputable abbrev St:=Jn (Jw V)
noncomputable abbrev VK:=V->Hp->Prop
noncomputable abbrev TE:=St->Hp->VK->Prop
noncomputable abbrev TT:=St->Hp->(J3->Hp->Prop)->Prop
noncomputable abbrev TA:=St->Hp->(Jn V->Hp->Prop)->Prop
structure Ends where
 nx:St->Hp->Prop
 rt:VK
 bk:St->Hp->Prop:=λ_ _=>K5
 ct:St->Hp->Prop:=λ_ _=>K5
noncomputable abbrev TS:=Ends->St->Hp->Prop
inductive EP (X:Cx)(J:Jn (Jz×Lr))(Y:St)(Q:VK)(u:Jr)(s':Jt):Prop
 | mk (v:V) (H':Hp) (i:Inv X J Y H' s') (r:RelV v u) (q:Q v H'):EP X J Y Q u s'
inductive TP (X:Cx)(J:Jn (Jz×Lr))(Y:St)(Q:J3->Hp->Prop)(b:J3)(s':Jt):Prop
 | mk (H':Hp) (i:Inv X J Y H' s') (q:Q b H'):TP X J Y Q b s'
inductive AP (X:Cx)(J:Jn (Jz×Lr))(Y:St)(Q:Jn V->Hp->Prop)(us:Jn Jr)(s':Jt):Prop
 | mk (vs:Jn V) (H':Hp) (i:Inv X J Y H' s') (r:Vals vs us) (q:Q vs H'):AP X J Y Q us s'
abbrev SP (X:Cx)(J:Jn (Jz×Lr))(D:Ends)(f:Flow)(s':Jt):Prop:=
 match f with
 | .next=>∃Y' H',Inv X J Y' H' s'/\D.nx Y' H'
 | .brk=>∃Y' H',Inv X J Y' H' s'/\D.bk Y' H'
 | .cont=>∃Y' H',Inv X J Y' H' s'/\D.ct Y' H'
 | .ret u=>∃v Y' H',Inv X J Y' H' s'/\RelV v u/\D.rt v H'
abbrev PE (X:Cx)(e:J2)(t:TE):Prop:=
 ∀(J:Jn (Jz×Lr)) (s:Jt) (Y:St) (H:Hp) (Q:VK),Inv X J Y H s->t Y H Q->wpAny (model X.prog X.w) X.A (eval e X.env) (EP X J Y Q) X.xe s
abbrev PT (X:Cx)(e:J2)(t:TT):Prop:=
 ∀(J:Jn (Jz×Lr)) (s:Jt) (Y:St) (H:Hp) (Q:J3->Hp->Prop),Inv X J Y H s->t Y H Q->wpAny (model X.prog X.w) X.A (isTrue e X.env (eval e X.env)) (TP X J Y Q) X.xe s
abbrev PW (X:Cx)(e:J2)(t:TT):Prop:=
 ∀(whole:Tb Jr) (J:Jn (Jz×Lr)) (s:Jt) (Y:St) (H:Hp) (Q:J3->Hp->Prop),Inv X J Y H s->t Y H Q->wpAny (model X.prog X.w) X.A (isTrue e X.env whole) (TP X J Y Q) X.xe s
def PW.pt {X:Cx}{e:J2}{t:TT}(h:PW X e t):PT X e t:=h _
abbrev PA (X:Cx)(es:Jn J2)(t:TA):Prop:=
 ∀(pos:Mk) (J:Jn (Jz×Lr)) (s:Jt) (Y:St) (H:Hp) (Q:Jn V->Hp->Prop),Inv X J Y H s->t Y H Q->wpAny (model X.prog X.w) X.A (spliced (backTo pos (starEach es X.env))) (AP X J Y Q) X.xe s
abbrev PS (X:Cx)(st:Mx)(t:TS):Prop:=
 ∀(J:Jn (Jz×Lr)) (s:Jt) (Y:St) (H:Hp) (D:Ends),Inv X J Y H s->t D Y H->wpAny (model X.prog X.w) X.A (exec st X.env) (SP X J D) X.xe s
abbrev PSs (X:Cx)(st:Jn Mx)(t:TS):Prop:=
 ∀(J:Jn (Jz×Lr)) (s:Jt) (Y:St) (H:Hp) (D:Ends),Inv X J Y H s->t D Y H->wpAny (model X.prog X.w) X.A (execs st X.env) (SP X J D) X.xe s
def bx {α:Type}{t:Tb α}{Q Q':α->Jt->Prop}{tv:Tv}{A:Ki}{E:Jr->Jt->Prop}{s:Jt}(h:wpAny tv A t Q E s)(hQ:∀a s,Q a s->Q' a s):wpAny tv A t Q' E s:=LI h hQ λ_ _ x=>x
section
variable{X:Cx}
abbrev Da (i:Jx):TE:=λY H Q=>∃v,Y[i]?=ba (ba v)/\Q v H
abbrev tC (v:V):TE:=λ_ H Q=>Q v H
def wR {i:Jx}{x:JS}{pos:Mk}(hN:X.N[i]?=ba x)(hv:Ha X.env.scope x)(hd:(x==("__debug__" : JS))=false:=by decide)(hcd:(x==("__classdict__" : JS))=false:=by decide):PE X (.Name x pos) (Da i):=by
 intro J s Y H Q I h;obtain⟨v,e,h⟩:=h;obtain⟨m,hn,hl⟩:=I.loc;obtain⟨u,r,l⟩:=hl i x v hN e hv;have fin:EP X J Y Q u s:=#[v,H,I,r,h];rcases l with⟨hk,hm⟩|⟨hk,c,hc,hcell⟩
 ·exact RF (wpAny_loadName_local I.ok.kind hk hn hm fin) hd
 ·rcases hk with hk|hk
  ·exact RF (wpAny_loadName_cell I.ok.kind hk hc hcell fin) hd
  ·exact RF (wpAny_loadName_free I.ok.kind hk hc hcell fin hcd) hd
def wW {i j pos}:PE X (.Constant (.int i) j pos) (tC (.int i)):=λ_ _ _ H _ I h=>wpAny_Constant_int #[.int i,H,I.tok _,#[_,rfl],h]
def CA {b j pos}:PE X (.Constant (.bool b) j pos) (tC (.bl b)):=λ_ _ _ H _ I h=>Constant_bool #[.bl b,H,I,rfl,h]
def wX {j pos}:PE X (.Constant .none j pos) (tC .non):=λ_ _ _ H _ I h=>Constant_none #[.non,H,I,rfl,h]
def wY {x j pos}:PE X (.Constant (.str x) j pos) (tC (.str x)):=λ_ _ _ H _ I h=>Qh #[.str x,H,I.tok _,#[_,rfl],h]
abbrev Gl (X:Cx)(x:JS):Prop:=X.env.kindOf x=ba .globalImplicit
def sU {E:Jr->Jt->Prop}{J:Jn (Jz×Lr)}{s:Jt}{Y:St}{H:Hp}{x:JS}{u:Jr}{pos:Mk}{Q:Jr->Jt->Prop}(I:Inv X J Y H s)(hg:Gl X x)(hm:X.mg x=ba u)(h:Q u s)
  (hd:(x==("__debug__" : JS))=false:=by decide):wpAny (model X.prog X.w) X.A (eval (.Name x pos) X.env) Q E s:=
 Oi I.ok.kind hg (Calls.loadGlobal_global (by rw[I.ok.glob]; exact I.mod.glob.keeps I.bk) hm h) hd
def ic {E:Jr->Jt->Prop}{J:Jn (Jz×Lr)}{s:Jt}{Y:St}{H:Hp}{x:JS}{u:Jr}{pos:Mk}{Q:Jr->Jt->Prop}(I:Inv X J Y H s)(hg:Gl X x)(hm:X.mg x=gV)(hv:bootBuiltins x=ba u)(h:Q u s)
  (hn:x≠"__name__":=by decide) (hd:(x==("__debug__" : JS))=false:=by decide):wpAny (model X.prog X.w) X.A (eval (.Name x pos) X.env) Q E s:=by
 obtain⟨mb,h1,h2⟩:=I.mod.blt;exact Oi I.ok.kind hg (Calls.loadGlobal_builtin (by rw[I.ok.glob]; exact I.mod.glob.keeps I.bk) hm (by rw[I.ok.blt]; exact h1.keeps I.bk) ((h2 x hn).trans hv) h) hd
def Au {x:JS}{v:V}{u:Jr}{pos:Mk}(hg:Gl X x)(hm:X.mg x=gV)(hv:bootBuiltins x=ba u)(r:RelV v u)(hn:x≠"__name__":=by decide)(hd:(x==("__debug__" : JS))=false:=by decide):PE X (.Name x pos) (tC v):=
 λ_ _ _ H _ I h=>ic I hg hm hv #[v,H,I,r,h] hn hd
variable{a b:J2}{ta tb:TE}{pos:Mk}
variable{tA tB':TT}{bw:Jn J2}
abbrev E9 (t u:TT):TT:=λY H Q=>t Y H λc H1=>if c=true then u Y H1 Q else Q false H1
abbrev IP (t u:TT):TT:=λY H Q=>t Y H λc H1=>if c=true then Q true H1 else u Y H1 Q
abbrev Hn (t:TT):TT:=λY H Q=>t Y H λc H1=>Q (!c) H1
def Av (ha:PT X a tA):PW X (.BoolOp .And [a] pos) tA:=by
 intro wh J s Y H Q I h;show isTrue_and (bx (ha J s Y H Q I h) λc s1 e=>?_)
 cases c with
 | true=>exact isTrue_and_nil e
 | false=>exact e
def Db (ha:PT X a tA):PW X (.BoolOp .Or [a] pos) tA:=by
 intro wh J s Y H Q I h;show isTrue_or (bx (ha J s Y H Q I h) λc s1 e=>?_)
 cases c with
 | false=>exact isTrue_or_nil e
 | true=>exact e
def Dc (ha:PT X a tA)(hb:PW X (.BoolOp .And (b::bw) pos) tB'):PW X (.BoolOp .And (a::b::bw) pos) (E9 tA tB'):=by
 intro wh J s Y H Q I h;show isTrue_and (bx (ha J s Y H _ I h) λc s1 #[H1,I1,q1]=>?_)
 cases c with
 | true=>exact hb wh J s1 Y H1 Q I1 q1
 | false=>exact#[H1,I1,q1]
def Fa (ha:PT X a tA)(hb:PW X (.BoolOp .Or (b::bw) pos) tB'):PW X (.BoolOp .Or (a::b::bw) pos) (IP tA tB'):=by
 intro wh J s Y H Q I h;show isTrue_or (bx (ha J s Y H _ I h) λc s1 #[H1,I1,q1]=>?_)
 cases c with
 | true=>exact#[H1,I1,q1]
 | false=>exact hb wh J s1 Y H1 Q I1 q1
def De (ha:PT X a tA):PT X (.UnaryOp .Not a pos) (Hn tA):=by
 intro J s Y H Q I h;exact isTrue_not (bx (ha J s Y H (λc H1=>Q (!c) H1) I h) λ_ _ #[H1,i,q]=>#[H1,i,q])
abbrev Fb (ta tb:TE):TE:=λY H Q=>ta Y H λx H1=>∃c,x=.bl c/\if c=true then tb Y H1 Q else Q (.bl false) H1
abbrev Ho (ta tb:TE):TE:=λY H Q=>ta Y H λx H1=>∃c,x=.bl c/\if c=true then Q (.bl true) H1 else tb Y H1 Q
abbrev Fc (ta:TE):TE:=λY H Q=>ta Y H λx H1=>∃c,x=.bl c/\Q (.bl (!c)) H1
def Dg {op}{t:TE}(h:PE X a t):PE X (.BoolOp op [a] pos) t:=λJ s Y H Q I hw=>BoolOp_one (h J s Y H Q I hw)
def Dh (ha:PE X a ta)(hb:PE X (.BoolOp .And (b::bw) pos) tb):PE X (.BoolOp .And (a::b::bw) pos) (Fb ta tb):=by
 intro J s Y H Q I h;show BoolOp_and (bx (ha J s Y H _ I h) λv s1 #[x,H1,I1,r1,q1]=>?_)
 obtain⟨c,rfl,q1⟩:=q1;cases r1;show L4 ?_;cases c with
 | true=>exact hb J s1 Y H1 Q I1 q1
 | false=>exact#[.bl false,H1,I1,rfl,q1]
def Fd (ha:PE X a ta)(hb:PE X (.BoolOp .Or (b::bw) pos) tb):PE X (.BoolOp .Or (a::b::bw) pos) (Ho ta tb):=by
 intro J s Y H Q I h;show BoolOp_or (bx (ha J s Y H _ I h) λv s1 #[x,H1,I1,r1,q1]=>?_)
 obtain⟨c,rfl,q1⟩:=q1;cases r1;show L4 ?_;cases c with
 | false=>exact hb J s1 Y H1 Q I1 q1
 | true=>exact#[.bl true,H1,I1,rfl,q1]
def Di (ha:PE X a ta):PE X (.UnaryOp .Not a pos) (Fc ta):=by
 intro J s Y H Q I h;show UnaryOp_ (bx (ha J s Y H _ I h) λv s1 #[x,H1,I1,r1,q1]=>?_)
 obtain⟨c,rfl,q1⟩:=q1;cases r1;exact not_of (L4 #[.bl (!c),H1,I1,rfl,q1])
end
abbrev SqL (K:JE)(H:Hp)(a:Jz)(xs:Jn V):Prop:=
 Rd H a (.lst xs)\/
  ∃(o:Lr) (its:J7 Jr) (n:Jx),K.lookup a=ba o/\o.cls=.type "list"/\o.dict=gV/\o.data=.seq its n/\its.size<=sizeLine/\Vals xs its.toList
abbrev SqT (K:JE)(H:Hp)(a:Jz)(xs:Jn V):Prop:=
 Rd H a (.tup xs)\/
  ∃(o:Lr) (its:J7 Jr) (n:Jx),K.lookup a=ba o/\o.cls=.type "tuple"/\o.data=.seq its n/\its.size<=sizeLine/\Vals xs its.toList
abbrev Hq:Jr->Jw V
 | .none=>ba .non
 | .bool b=>ba (.bl b)
 | .int i _=>ba (.int i)
 | .str x _=>ba (.str x)
 | .bytes b _=>ba (.byt b)
 | .float b _=>ba (.flt b)
 | .ref a=>ba (.ref a)
 | .type n=>ba (.ty n)
 | _=>gV
def RelV.abs {x:V}{u:Jr}(r:RelV x u):Hq u=ba x:=by
 cases x with
 | non=>cases r; rfl
 | bl _=>cases r; rfl
 | int _=>obtain⟨t,rfl⟩:=r; rfl
 | str _=>obtain⟨t,rfl⟩:=r; rfl
 | byt _=>obtain⟨t,rfl⟩:=r; rfl
 | flt _=>obtain⟨t,rfl⟩:=r; rfl
 | ref _=>cases r; rfl
 | ty _=>cases r; rfl
def RelV.inj {x y:V}{u:Jr}(r:RelV x u)(q:RelV y u):x=y:=KQ (r.abs.symm.trans q.abs)
def Vals.inj:∀ {xs ys:Jn V} {us:Jn Jr},Vals xs us->Vals ys us->xs=ys
 | _,_,_,.nil,.nil=>rfl
 | _,_,_,.cons r t,.cons r' t'=>by rw[r.inj r',Vals.inj t t']
section
variable{X:Cx}{J:Jn (Jz×Lr)}{Y:St}{H:Hp}{s:Jt}{a:Jz}{xs ys:Jn V}
def SqL.of {K:JE}(h:H a=ba (.lst xs)):SqL K H a xs:=.inl (.inl h)
def SqT.of {K:JE}(h:H a=ba (.tup xs)):SqT K H a xs:=.inl (.inl h)
def Inv.list (I:Inv X J Y H s)(h:SqL X.K H a xs):∃its:Jn Jr,Vals xs its/\PlainL s.heap a its.toArray/\xs.length<=sizeLine:=by
 rcases h with h|⟨o,its,n,hk,hc,hd,hs,hz,r⟩
 ·obtain⟨z,its,n,r,e⟩:=h.ok I.hok;exact#[its,r,#[_,n,e,rfl,rfl,rfl],z]
 ·show#[its.toList,r,#[o,n,I.kIn a o hk,hc,hd,by simpa using hs],?_]
  have e:=r.length;simp only[JP]at e;omega
def Inv.tuple (I:Inv X J Y H s)(h:SqT X.K H a xs):∃its:Jn Jr,Vals xs its/\Qs s.heap a its.toArray/\xs.length<=sizeLine:=by
 rcases h with h|⟨o,its,n,hk,hc,hs,hz,r⟩
 ·obtain⟨z,its,r,p⟩:=h.ok I.hok;exact#[its,r,p,z]
 ·show#[its.toList,r,#[o,I.kIn a o hk,hc,n,by simpa using hs],?_]
  have e:=r.length;simp only[JP]at e;omega
def Inv.list_inj (I:Inv X J Y H s)(h:SqL X.K H a xs)(h':SqL X.K H a ys):xs=ys:=by
 obtain⟨its,r,⟨o,n,e,_,_,d⟩,_⟩:=I.list h;obtain⟨its',r',⟨o',n',e',_,_,d'⟩,_⟩:=I.list h';rw[e]at e'; cases e'
 rw[d]at d';injection d' with d1 _
 have:its=its':=by simpa using congrArg SA d1
 subst this;exact r.inj r'
def Inv.tuple_inj (I:Inv X J Y H s)(h:SqT X.K H a xs)(h':SqT X.K H a ys):xs=ys:=by
 obtain⟨its,r,⟨o,e,_,n,d⟩,_⟩:=I.tuple h;obtain⟨its',r',⟨o',e',_,n',d'⟩,_⟩:=I.tuple h';rw[e]at e'; cases e'
 rw[d]at d';injection d' with d1 _
 have:its=its':=by simpa using congrArg SA d1
 subst this;exact r.inj r'
end
noncomputable abbrev Cx.wish (X:Cx)(E:Jr->Jt->Prop):Cx:={ X with xe:=E }
noncomputable abbrev Cx.nox (X:Cx):Cx:=X.wish λ_ _=>K5
def Cx.Ok.wish {X:Cx}(ok:X.Ok)(E:Jr->Jt->Prop):(X.wish E).Ok:=
 #[ok.mod,ok.kind,ok.glob,ok.blt,ok.above,ok.inj,ok.has,ok.cab,ok.hd,ok.frames,ok.stk,ok.exf,ok.bs,ok.bsz,ok.noex,ok.exfs,ok.funs,ok.frf]
def Cx.Ok.unwish {X:Cx}{E:Jr->Jt->Prop}(ok:(X.wish E).Ok):X.Ok:=
 #[ok.mod,ok.kind,ok.glob,ok.blt,ok.above,ok.inj,ok.has,ok.cab,ok.hd,ok.frames,ok.stk,ok.exf,ok.bs,ok.bsz,ok.noex,ok.exfs,ok.funs,ok.frf]
section
variable{X:Cx}{J:Jn (Jz×Lr)}{Y:St}{H:Hp}{s:Jt}{E:Jr->Jt->Prop}
def Inv.wish (I:Inv X J Y H s)(E:Jr->Jt->Prop):Inv (X.wish E) J Y H s:=#[I.ok.wish E,I.os,I.bare,I.base,I.loc,I.cell,I.free,I.freeC,I.pin,I.hok,I.len]
def Inv.unwish (I:Inv (X.wish E) J Y H s):Inv X J Y H s:=#[I.ok.unwish,I.os,I.bare,I.base,I.loc,I.cell,I.free,I.freeC,I.pin,I.hok,I.len]
def SP.unwish {D:Ends}{f:Flow}{s':Jt}(h:SP (X.wish E) J D f s'):SP X J D f s':=by
 cases f with
 | next=>obtain⟨Y',H',I,q⟩:=h; exact#[Y',H',I.unwish,q]
 | brk=>obtain⟨Y',H',I,q⟩:=h; exact#[Y',H',I.unwish,q]
 | cont=>obtain⟨Y',H',I,q⟩:=h; exact#[Y',H',I.unwish,q]
 | ret u=>obtain⟨v,Y',H',I,r,q⟩:=h; exact#[v,Y',H',I.unwish,r,q]
def PSs.nox {st:Jn Mx}{t:TS}(h:PSs X.nox st t):PSs X st t:=λJ s Y H D I hw=>
 LI (h J s Y H D (I.wish _) hw) (λ_ _ q=>q.unwish) λ_ _ z=>K5.elim z
end
section
variable{X:Cx}{st:Mx}{bw:Jn Mx}{t u:TS}{e:J2}{te:TE}{pos:Mk}
abbrev w8:TS:=λD Y H=>D.nx Y H
abbrev Hr (t u:TS):TS:=λD Y H=>t { D with nx:=u D } Y H
def Aw:PSs X [] w8:=λ_ _ Y H _ I h=>Pg #[Y,H,I,h]
def w9 (h1:PS X st t)(h2:PSs X bw u):PSs X (st::bw) (Hr t u):=by
 intro J s Y H D I h;show wpAny_execs_cons (bx (h1 J s Y H { D with nx:=u D } I h) λf s1 q=>?_)
 cases f with
 | next=>
  obtain⟨Y',H',I',q⟩:=q;exact h2 J s1 Y' H' D I' q
 | ret v=>exact q
 | brk=>exact q
 | cont=>exact q
def Ax:PS X (.Pass pos) w8:=λ_ _ Y H _ I h=>wpAny_Pass #[Y,H,I,h]
def Inv.quiet {J:Jn (Jz×Lr)}{Y:St}{H:Hp}{s:Jt}(I:Inv X J Y H s):interactive X.env=false:=by simp[interactive,I.ok.kind]
def Dj {x j pos pos'}:PS X (.Expr (.Constant (.str x) j pos) pos') w8:=λ_ s Y H _ I h=>wpAny_Expr (Qh (show SP X _ _ .next { s with toks:=s.toks+1 } from#[Y,H,I.tok _,h])) I.quiet
abbrev Fe (te:TE):TS:=λD Y H=>te Y H λ_ H1=>D.nx Y H1
def Ay (he:PE X e te)(hs:swapsWith e gV pos.line X.env=pure false:=by rfl):PS X (.Expr e pos) (Fe te):=by
 intro J s Y H D I h;exact wpAny_Expr_any (bx (he J s Y H _ I h) λv s1 #[x,H1,I1,r1,q1]=>#[Y,H1,I1,q1]) I.quiet hs
abbrev Hs (te:TE):TS:=λD Y H=>te Y H D.rt
def Dk (he:PE X e te):PS X (.Return (ba e) pos) (Hs te):=by
 intro J s Y H D I h;exact wpAny_Return_some (bx (he J s Y H _ I h) λv s1 #[x,H1,I1,r1,q1]=>#[x,Y,H1,I1,r1,q1])
abbrev Ht (c:TT)(t u:TS):TS:=λD Y H=>c Y H λb H1=>if b=true then t D Y H1 else u D Y H1
def Ff {c:J2}{a b:Jn Mx}{tc:TT}(hc:PT X c tc)(ha:PSs X a t)(hb:PSs X b u):PS X (.If c a b pos) (Ht tc t u):=by
 intro J s Y H D I h;show wpAny_If (bx (hc J s Y H _ I h) λd s1 #[H1,I1,q1]=>?_)
 cases d with
 | true=>exact ha J s1 Y H1 D I1 q1
 | false=>exact hb J s1 Y H1 D I1 q1
end
noncomputable abbrev TG:=V->St->Hp->(St->Hp->Prop)->Prop
noncomputable abbrev Dl:=Jn V->St->Hp->(St->Hp->Prop)->Prop
abbrev PG (X:Cx)(target:J2)(t:TG):Prop:=
 ∀(J:Jn (Jz×Lr)) (s:Jt) (Y:St) (H:Hp) (v:V) (u:Jr) (Q:St->Hp->Prop),Inv X J Y H s->RelV v u->t v Y H Q->
  wpAny (model X.prog X.w) X.A (assign target X.env u) (λ_ s'=>∃Y' H',Inv X J Y' H' s'/\Q Y' H') X.xe s
abbrev Fg (X:Cx)(ts:Jn J2)(t:Dl):Prop:=
 ∀(J:Jn (Jz×Lr)) (s:Jt) (Y:St) (H:Hp) (vs:Jn V) (us:Jn Jr) (Q:St->Hp->Prop),Inv X J Y H s->Vals vs us->t vs Y H Q->
  wpAny (model X.prog X.w) X.A (assignInOrder ((assignEach ts X.env).map (·.2)) us) (λ_ s'=>∃Y' H',Inv X J Y' H' s'/\Q Y' H') X.xe s
noncomputable abbrev Dm:=V->V->V->Hp->(Hp->Prop)->Prop
abbrev Do (X:Cx)(t:Dm):Prop:=
 ∀(J:Jn (Jz×Lr)) (s:Jt) (Y:St) (H:Hp) (o i v:V) (ov iv u:Jr) (Q:Hp->Prop),Inv X J Y H s->RelV o ov->RelV i iv->RelV v u->t o i v H Q->
  wpAny (model X.prog X.w) X.A (setItem ov iv u) (λ_ s'=>∃H',Inv X J Y H' s'/\Q H') X.xe s
section
variable{X:Cx}{pos:Mk}
abbrev Fh (i:Jx):TG:=λv Y H Q=>Q (Y.set i (ba v)) H
def sV {i:Jx}{x:JS}(hN:X.N.Nodup)(hi:X.N[i]?=ba x)(hx:At X.env.scope x)(hf:X.fn x=true\/X.env.scope.names.lookup x=ba .local):PG X (.Name x pos) (Fh i):=by
 intro J s Y H v u Q I r h;exact Qt (iI I hN hi hx r (λs' I'=>#[_,H,I',h]) hf)
abbrev Hu:Dl:=λvs Y H Q=>vs=[]/\Q Y H
abbrev Fi (t:TG)(u:Dl):Dl:=λvs Y H Q=>∃v r,vs=v::r/\t v Y H λY' H'=>u r Y' H' Q
def Az:Fg X [] Hu:=by
 intro J s Y H vs us Q I r h;obtain⟨e,h⟩:=h;subst e;cases r;exact Qu #[Y,H,I,h]
def xf {e:J2}{es:Jn J2}{t:TG}{u:Dl}(h1:PG X e t)(h2:Fg X es u)
  (hs:(assignEach (e::es) X.env).map (·.2)=assign e X.env::(assignEach es X.env).map (·.2):=by rfl):Fg X (e::es) (Fi t u):=by
 intro J s Y H vs us Q I r h;obtain⟨v,vr,e1,h⟩:=h;subst e1;cases r with
 | cons r rr=>
  rw[hs];show Oj (bx (h1 J s Y H _ _ _ I r h) λ_ s1 #[Y1,H1,I1,q1]=>?_)
  exact h2 J s1 Y1 H1 _ _ Q I1 rr q1
abbrev Hv (K:JE)(n:Jx)(t:Dl):TG:=λv Y H Q=>∃a xs,v=.ref a/\SqT K H a xs/\xs.length=n/\t xs Y H Q
def Dp {es:Jn J2}{k:Jx}{t:Dl}{n:Jx}(hc:X.calm=true)(h:Fg X es t)
  (hn:(assignEach es X.env).length=n:=by rfl) (hst:(assignEach es X.env).findIdx? (·.1)=gV:=by rfl):PG X (.Tuple es k pos) (Hv X.K n t):=by
 intro J s Y H v u Q I r hw;obtain⟨a,xs,e1,hq,hl,hw⟩:=hw;subst e1;cases r;obtain⟨its,rv,ht,hz⟩:=I.tuple hq;show assign_Tuple_tuple (I.ok.hd hc) ht (by simp[hn,<- hl,rv.length]) hst λh' hx=>?_
 have I1:Inv X J Y H { s with heap:=h' }:=I.kept (t':=s.toks) λb o e=>hx b o (JZ (JO e)) e
 exact h J _ Y H xs _ Q I1 (by simpa using rv) hw
abbrev Hw (to ti:TE)(t:Dm):TG:=λv Y H Q=>to Y H λo H1=>ti Y H1 λi H2=>t o i v H2 λH3=>Q Y H3
def Dq {o i:J2}{to ti:TE}{t:Dm}(ho:PE X o to)(hi:PE X i ti)(hs:Do X t)
  (ha:∀v,assign (.Subscript o i pos) X.env v=(do
   let ov <- holding [v] (eval o X.env)
   let iv <- holding [v,ov] (eval i X.env)
   standAt pos
   holding [v,ov,iv] (setItem ov iv v)
   release [v,ov,iv] []):=by intro _; rfl):PG X (.Subscript o i pos) (Hw to ti t):=by
 intro J s Y H v u Q I r h;rw[ha];show Jo (KR (bx (ho J s Y H _ I h) λov s1 #[x,H1,I1,r1,q1]=>?_))
 show Jo (KR (bx (hi J s1 Y H1 _ I1 q1) λiv s2 #[y,H2,I2,r2,q2]=>?_))
 show Jo (N2 (Jo (KR (bx (hs J s2 Y H2 x y v ov iv u _ I2 r1 r2 r q2) λ_ s3 #[H3,I3,q3]=>?_))))
 exact wpAny_release #[Y,H3,I3,q3]
abbrev Hx (te:TE)(g:TG):TS:=λD Y H=>te Y H λx H1=>g x Y H1 D.nx
def Dr {tg e:J2}{te:TE}{g:TG}(he:PE X e te)(hg:PG X tg g)(hs:swapsWithSole [tg] e pos.line X.env=pure false:=by rfl)(hw:swappedStores [tg] e X.env=pure gV:=by rfl)
  (h1:(assignEach [tg] X.env).map (·.2)=[assign tg X.env]:=by rfl):PS X (.Assign [tg] e pos) (Hx te g):=by
 intro J s Y H D I h;show wpAny_Assign_stores (bx (he J s Y H _ I h) λv s1 #[x,H1,I1,r1,q1]=>?_) hs hw
 rw[h1];exact bx (hg J s1 Y H1 x v _ I1 r1 q1) λ_ s2 q=>q
abbrev Hy (i j:Jx)(ta:TA):TS:=λD Y H=>ta Y H λvs H1=>∃v w,vs=[v,w]/\D.nx ((Y.set i (ba v)).set j (ba w)) H1
def Ds {i j:Jx}{x y:JS}{a b:J2}{ta:TA}{px py pt:Mk}{kt k2 pt2}(hc:X.calm=true)(hN:X.N.Nodup)(hi:X.N[i]?=ba x)(hj:X.N[j]?=ba y)(hij:i≠j)
  (hx:X.env.scope.names.lookup x=ba .local) (hy:X.env.scope.names.lookup y=ba .local) (ha:PA X [a,b] ta)
  (hw:swappedStores [.Tuple [.Name x px,.Name y py] kt pt] (.Tuple [a,b] k2 pt2) X.env=pure (ba [x,y]))
  (hs:swapsWithSole [.Tuple [.Name x px,.Name y py] kt pt] (.Tuple [a,b] k2 pt2) pos.line X.env=pure false:=by rfl) :
  PS X (.Assign [.Tuple [.Name x px,.Name y py] kt pt] (.Tuple [a,b] k2 pt2) pos) (Hy i j ta):=by
 intro J s Y H D I h;rw[exec_Assign_arm];show Jo (N2 ?_);rw[hs];show Jo (Ju ?_);rw[J8 #v[]]
 show Jo (Tuple_ (bx (ha _ J s Y H _ I h) λus s1 #[vs,H1,I1,r1,q1]=>?_))
 obtain⟨v,w,e1,q1⟩:=q1;subst e1;obtain⟨u1,u2,rfl,rv,rw'⟩ : ∃u1 u2,us=[u1,u2]/\RelV v u1/\RelV w u2:=by
  cases r1 with
  | cons p q=>
   cases q with
   | cons p' q'=>
    cases q';exact#[_,_,rfl,p,p']
 show Ks ?_ (by change 2<=sizeLine; decide)
 have I2:Inv X J Y H1 { s1 with heap:=s1.heap.push { cls:=.type "tuple",data:=.seq [u1,u2].toArray } }:=I1.kept (t':=s1.toks) λb o e=>Jq _ e
 rw[hw];show Jo (Ju ?_);change wpAny (model X.prog X.w) X.A (do rule "assign.swapped-stores"; let items <- unpackItems (.ref s1.heap.objs.size) 2 gV; assignInOrder [λv=>bindName X.env y v,λv=>bindName X.env x v] items.reverse; pure TF) _ _ _
 show Jo (Ol (Jo (unpackItems_tuple (items:=[u1,u2].toArray) (I.ok.hd hc) (QU s1.heap _) λh' hx'=>?_)))
 have I3:=I2.kept (h':=h') (t':=s1.toks) λb o e=>hx' b o (JZ (JO e)) e
 change wpAny _ _ (assignInOrder [λv=>bindName X.env y v,λv=>bindName X.env x v] [u2,u1] >>= λ_=>pure TF) _ _ _
 show Jo (Oj (RG (iI I3 hN hj (.inl hy) rw' (λs2 I4=>?_) (.inr hy))))
 show Oj (RG (iI I4 hN hi (.inl hx) rv (λs3 I5=>Qu (Ju ?_)) (.inr hx)))
 rw[List.set_comm _ _ (Ne.symm hij)]at I5;exact#[_,H1,I5,q1]
abbrev Dt (c:TT)(tb:TS):TS:=λD Y H=>∃W:Jx->St->Hp->Prop,(∃m,W m Y H)/\∀m Y H,W m Y H->
 c Y H λb H1=>if b=true then ∃N:St->Hp->Prop,(∀Y' H',N Y' H'->∃m',m' < m/\W m' Y' H')/\tb { D with nx:=N,ct:=N,bk:=D.nx } Y H1 else D.nx Y H1
def xg {c:J2}{body:Jn Mx}{tc:TT}{tb:TS}(hp:P0 (model X.prog X.w) X.A X.env X.xe)(hc:PT X c tc)(hb:PSs X body tb):PS X (.While c body [] pos) (Dt tc tb):=by
 intro J s Y H D I h;obtain⟨W,⟨m0,w0⟩,turn⟩:=h;show wpAny_While (codeAny_whileLoop (λn s'=>∃Y' H',Inv X J Y' H' s'/\W n Y' H') ?_ m0 #[Y,H,I,w0])
 rintro n s1 ⟨Y1,H1,I1,w1⟩;show Mn hp (bx (hc J s1 Y1 H1 _ I1 (turn n Y1 H1 w1)) λb s2 #[H2,I2,q2]=>?_)
 cases b with
 | true=>
  obtain⟨N,hN,q2⟩:=q2;rw[JX rfl];show Mn hp (bx (hb J s2 Y1 H2 _ I2 q2) λf s3 q3=>?_)
  cases f with
  | next=>
   obtain⟨Y3,H3,I3,n3⟩:=q3;obtain⟨m',hm,w3⟩:=hN Y3 H3 n3;exact#[m',hm,Y3,H3,I3,w3]
  | cont=>
   obtain⟨Y3,H3,I3,n3⟩:=q3;obtain⟨m',hm,w3⟩:=hN Y3 H3 n3;exact#[m',hm,Y3,H3,I3,w3]
  | brk=>exact q3
  | ret v=>exact q3
 | false=>
  rw[J8 J1];exact Pg #[Y1,H2,I2,q2]
end
structure It where
 go:Jx->Hp->Prop
 yld:Jx->Hp->V->Hp->Prop
 stop:Jx->Hp->Prop
abbrev ie (X:Cx)(J:Jn (Jz×Lr))(H:Hp)(b:Jz):Prop:=
 H b=gV/\b≠X.env.locals/\b∉X.fs/\(b∈X.ex\/X.s₀.heap.objs.size<=b)/\(∀x c,X.env.cells.lookup x=ba c->c≠b)/\∀p∈X.pn++J,p.1≠b
def Inv.fpOk {X:Cx}{J:Jn (Jz×Lr)}{Y:St}{H H':Hp}{s:Jt}{b:Jz}(I:Inv X J Y H s)(hb:s.heap.objs.size<=b)(hn:H' b=gV):ie X J H' b:=by
 show#[hn,Lg (J4 I.lt hb),I.nofs hb,.inr (J6 I.sz hb),λx c e z=>?_,λp hp z=>?_]
 ·obtain⟨v,q⟩:=I.cell x c e;exact absurd (J4 q.lt (by rw[z]; exact hb)) (KT _)
 ·exact absurd (J4 (JO (I.pin p hp).1) (by rw[z]; exact hb)) (KT _)
structure Turn (P:Kf)(w:Kq)(K:JE)(tg:J2)(td:It)(fp:Jn Jz)(it:Jz)(tn:Jx->Kv->Prop):Prop where
 mem:it∈fp
 obj:∀i h,tn i h->∀b∈fp,∃o,h.get? b=ba o/\∀v,o.data≠.cell v
 keep:∀i h h',tn i h->(∀b∈fp,∀o,h.get? b=ba o->h'.get? b=ba o)->tn i h'
 item:∀(X:Cx),X.prog=P->X.w=w->X.K=K->X.calm=true->∀(i:Jx) (J:Jn (Jz×Lr)) (s:Jt) (Y:St) (H:Hp) (E:Jr->Jt->Prop),Inv X J Y H s->(∀b∈fp,ie X J H b)->tn i s.heap->td.go i H->
  wpAny (model P w) X.A (pyNext (.ref it)) (λr s1=>∃u,r=ba u/\
   wpAny (model P w) X.A (letOwnedTupleGo tg (.ref it) u) (λ_ s2=>∃x H',Inv X J Y H' s2/\RelV x u/\td.yld i H x H'/\tn (i+1) s2.heap/\∀b∈fp,H' b=gV) E s1) E s
 done:∀(X:Cx),X.prog=P->X.w=w->X.K=K->X.calm=true->∀(i:Jx) (J:Jn (Jz×Lr)) (s:Jt) (Y:St) (H:Hp) (E:Jr->Jt->Prop),Inv X J Y H s->(∀b∈fp,ie X J H b)->tn i s.heap->td.stop i H->
  wpAny (model P w) X.A (pyNext (.ref it)) (λr s1=>r=gV/\Inv X J Y H s1) E s
 self:∀(A:Ki) (i:Jx) (s:Jt) (Q:Jr->Jt->Prop) (E:Jr->Jt->Prop),tn i s.heap->Q (.ref it) s->wpAny (model P w) A (pyIter (.ref it)) Q E s
noncomputable abbrev TI:=St->Hp->(It->Hp->Prop)->Prop
abbrev Fj (X:Cx)(J:Jn (Jz×Lr))(Y:St)(tg:J2)(R:It->Hp->Prop)(itv:Jr)(s2:Jt):Prop:=
 ∃(it:Jz) (fp:Jn Jz) (tn:Jx->Kv->Prop) (td:It) (H':Hp),itv=.ref it/\Inv X J Y H' s2/\Turn X.prog X.w X.K tg td fp it tn/\tn 0 s2.heap/\(∀b∈fp,ie X J H' b)/\R td H'
abbrev PI (X:Cx)(tg iter:J2)(wi:TI):Prop:=
 ∀(J:Jn (Jz×Lr)) (s:Jt) (Y:St) (H:Hp) (R:It->Hp->Prop),Inv X J Y H s->wi Y H R->
  wpAny (model X.prog X.w) X.A (eval iter X.env) (λv s1=>wpAny (model X.prog X.w) X.A (pyIter v) (Fj X J Y tg R) X.xe s1) X.xe s
def sW {tv:Tv}{A:Ki}{E:Jr->Jt->Prop}{s:Jt}{tg:J2}{it:Jz}{u:Jr}{o:Lr}{n:Lf}{vs:J7 Jr}{Q:TW->Jt->Prop}(ho:s.heap.get? it=ba o)(hc:o.cls=.type n)(hd:o.data=.fields vs)
    (hn:["enumerate","zip","dict_itemiterator","dict_reverseitemiterator","odict_iterator","itertools.zip_longest","itertools.pairwise"].contains n=false) (hQ:Q () s):wpAny tv A (letOwnedTupleGo tg (.ref it) u) Q E s:=by
  unfold letOwnedTupleGo;cases tg <;> first
    | exact Ju hQ
    | (cases u <;> first
        | exact Ju hQ
        | (show Jo (O6 ho ?_)
           rw[hc,hd];change wpAny tv A (if (["enumerate","zip","dict_itemiterator","dict_reverseitemiterator","odict_iterator","itertools.zip_longest","itertools.pairwise"].contains n&&vs[0]?==ba (rawInt _))=true then _ else _) Q E s
           rw[J8 (by intro h; rw[hn,Bool.false_and]at h; cases h)]
           exact Ju hQ))
abbrev Hz (K:JE)(a:Jz):It:=
 #[λi H=>∃xs x,SqL K H a xs/\xs[i]?=ba x,λi H x H'=>H'=H/\∀xs,SqL K H a xs->xs[i]?=ba x,λi H=>∃xs,SqL K H a xs/\xs.length<=i]
abbrev EZ (K:JE)(a:Jz):It:=
 #[λi H=>∃xs x,SqT K H a xs/\xs[i]?=ba x,λi H x H'=>H'=H/\∀xs,SqT K H a xs->xs[i]?=ba x,λi H=>∃xs,SqT K H a xs/\xs.length<=i]
abbrev Fk (lo:JI)(n:Jx):It:=#[λi _=>i < n,λi H x H'=>H'=H/\x=.int (lo+i),λi _=>n<=i]
def u5 {P:Kf}{w:Kq}{K:JE}{tg:J2}(a it:Jz):Turn P w K tg (Hz K a) [it] it (λi h=>h.IsListIter it a i) where
 mem:=by simp
 obj:=λi h st b hb=>by
  have e:b=it:=by simpa using hb
  subst e;obtain⟨o,e,c,d⟩:=st;exact#[o,e,λv z=>by rw[d]at z; cases z]
 keep:=λi h h' st k=>st.at λo e=>k it (by simp) o e
 item:=by
  intro X hP hw hK hc i J s Y H E I hf st hg;subst hP hw hK;obtain⟨xs,x,hq,hx⟩:=hg;obtain⟨its,rv,p,hz⟩:=I.list hq;obtain⟨u,hu,ru⟩:=rv.get hx;obtain⟨f0,f1,f2,f3,f4,f5⟩:=hf it (by simp)
  show wpAny_pyNext_list_item st p.isList (x:=u) (by simpa using hu) λh' st' sb=>?_
  have I1:Inv X J Y H { s with heap:=h' }:=I.turned (t':=s.toks) (λb o hb e=>(sb.2 b hb).trans e) f0 f1 f3 f4 f5
  obtain⟨o,e,c,d⟩:=id st';exact#[u,rfl,sW (s:={ s with heap:=h' }) e c d #v[] #[x,H,I1,ru,#[rfl,λys hy=>by rw[I.list_inj hy hq]; exact hx],st',λb hb=>(hf b hb).1]]
 done:=by
  intro X hP hw hK hc i J s Y H E I hf st hg;subst hP hw hK;obtain⟨xs,hq,hx⟩:=hg;obtain⟨its,rv,p,hz⟩:=I.list hq;obtain⟨f0,f1,f2,f3,f4,f5⟩:=hf it (by simp)
  have hl:=rv.length;exact wpAny_pyNext_list_end (I.ok.hd hc) st p.isList (by simp; omega) λh' eb=>#[rfl,I.turned (t':=s.toks) (λb o hb e=>eb b o hb e) f0 f1 f3 f4 f5]
 self:=λ_ _ _ _ _ st h=>wpAny_pyIter_listiter st h
def rK {P:Kf}{w:Kq}{K:JE}{tg:J2}(a it:Jz):Turn P w K tg (EZ K a) [it] it (λi h=>h.IsTupleIter it a i) where
 mem:=by simp
 obj:=λi h st b hb=>by
  have e:b=it:=by simpa using hb
  subst e;obtain⟨o,e,c,d⟩:=st;exact#[o,e,λv z=>by rw[d]at z; cases z]
 keep:=λi h h' st k=>st.at λo e=>k it (by simp) o e
 item:=by
  intro X hP hw hK hc i J s Y H E I hf st hg;subst hP hw hK;obtain⟨xs,x,hq,hx⟩:=hg;obtain⟨its,rv,p,hz⟩:=I.tuple hq;obtain⟨u,hu,ru⟩:=rv.get hx;obtain⟨f0,f1,f2,f3,f4,f5⟩:=hf it (by simp)
  show wpAny_pyNext_tuple_item st (show s.heap.IsTuple a its.toArray from p) (x:=u) (by simpa using hu) λh' st' sb=>?_
  have I1:Inv X J Y H { s with heap:=h' }:=I.turned (t':=s.toks) (λb o hb e=>(sb.2 b hb).trans e) f0 f1 f3 f4 f5
  obtain⟨o,e,c,d⟩:=id st';exact#[u,rfl,sW (s:={ s with heap:=h' }) e c d #v[] #[x,H,I1,ru,#[rfl,λys hy=>by rw[I.tuple_inj hy hq]; exact hx],st',λb hb=>(hf b hb).1]]
 done:=by
  intro X hP hw hK hc i J s Y H E I hf st hg;subst hP hw hK;obtain⟨xs,hq,hx⟩:=hg;obtain⟨its,rv,p,hz⟩:=I.tuple hq;obtain⟨f0,f1,f2,f3,f4,f5⟩:=hf it (by simp)
  have hl:=rv.length;exact wpAny_pyNext_tuple_end (I.ok.hd hc) st (show s.heap.IsTuple a its.toArray from p) (by simp; omega) λh' eb=>#[rfl,I.turned (t':=s.toks) (λb o hb e=>eb b o hb e) f0 f1 f3 f4 f5]
 self:=λ_ _ _ _ _ st h=>wpAny_pyIter_tupleiter st h
def rL {P:Kf}{w:Kq}{K:JE}{tg:J2}(it:Jz)(lo:JI)(n:Jx):Turn P w K tg (Fk lo n) [it] it (λi h=>SO h it (lo+(i:Jx)*1) ((n:JI) - (i:Jx)) 1) where
 mem:=by simp
 obj:=λi h st b hb=>by
  have e:b=it:=by simpa using hb
  subst e;exact#[_,st,λv z=>by
   have z':Data.fields _=Data.cell v:=z;cases z']
 keep:=λi h h' st k=>k it (by simp) _ st
 item:=by
  intro X hP hw hK hc i J s Y H E I hf st hg;subst hP hw hK;obtain⟨f0,f1,f2,f3,f4,f5⟩:=hf it (by simp)
  have W:=Walks.range (prog:=X.prog) (w:=X.w) (I.ok.hd hc) it lo 1 n;show W.item i s _ _ hg st λv h' tk hv st' kk=>?_
  obtain⟨t,rfl⟩:=hv;have I1:Inv X J Y H { s with heap:=h',toks:=tk }:=I.turned (λb o hb e=>kk b o (by simpa using hb) e) f0 f1 f3 f4 f5
  show#[_,rfl,sW (s:={ s with heap:=h',toks:=tk }) (n:="range_iterator") st' rfl rfl #v[] #[.int (lo+i),H,I1,#[t,?_],#[rfl,rfl],st',λb hb=>(hf b hb).1]]
  rw[Int.mul_one]
 done:=by
  intro X hP hw hK hc i J s Y H E I hf st hg;subst hP hw hK;obtain⟨f0,f1,f2,f3,f4,f5⟩:=hf it (by simp)
  exact wpAny_pyNext_range_end (I.ok.hd hc) st (by have:n<=i:=hg; omega) λh' eb=>#[rfl,I.turned (t':=s.toks) (λb o hb e=>eb b o hb e) f0 f1 f3 f4 f5]
 self:=λ_ _ _ _ _ st h=>wpAny_pyIter_rangeiter st h
section
variable{X:Cx}{tg:J2}
def o9 {J:Jn (Jz×Lr)}{Y:St}{H:Hp}{s:Jt}{R:It->Hp->Prop}{E:Jr->Jt->Prop}{lo hi:JI}{t u v:T5}{tk:Jx}(I:Inv X J Y H s)(h1 : -(2 ^ 62)<=lo)(h2:lo < 2 ^ 62)(h3 : -(2 ^ 62)<=hi)(h4:hi < 2 ^ 62)
  (q:R (Fk lo (hi - lo).toNat) H):wpAny (model X.prog X.w) X.A (pyIter (.ref s.heap.objs.size)) (Fj X J Y tg R) E { s with heap:=s.heap.push { cls:=.type "range",data:=.fields [.int lo t,.int hi u,.int 1 v].toArray },toks:=tk }:=by
 show wpAny_pyIter_range (IsRange.new ..) (Sx h1 h2 h3 h4) ?_;have I1:Inv X J Y H { s with heap:=s.heap.push { cls:=.type "range",data:=.fields [.int lo t,.int hi u,.int 1 v].toArray },toks:=tk }:=I.kept λb o e=>Jq _ e
 show#[(s.heap.push { cls:=.type "range",data:=.fields [.int lo t,.int hi u,.int 1 v].toArray }).objs.size,[(s.heap.push { cls:=.type "range",data:=.fields [.int lo t,.int hi u,.int 1 v].toArray }).objs.size],_,_,H,rfl,
  I1.kept (t':=tk) λb o e=>Jq _ e,rL _ lo (hi - lo).toNat,?_,λb hb=>?_,q]
 ·have e1:lo+((0:Jx):JI)*1=lo:=by simp
  have e2:(((hi - lo).toNat:Jx):JI) - ((0:Jx):JI)=LK lo hi 1:=by rw[P7]; split <;> omega
  change SO _ _ (lo+((0:Jx):JI)*1) ((((hi - lo).toNat:Jx):JI) - ((0:Jx):JI)) 1;rw[e1,e2];exact JH _ rfl
 ·have e:b=(s.heap.push { cls:=.type "range",data:=.fields [.int lo t,.int hi u,.int 1 v].toArray }).objs.size:=by simpa using hb
  subst e;exact I1.fpOk (JA _) (I1.hok.fresh (JA _))
abbrev Fn (ta:TA):TI:=λY H R=>ta Y H λvs H1=>∃j:JI,vs=[.int j]/\-(2 ^ 62)<=j/\j < 2 ^ 62/\R (Fk 0 j.toNat) H1
abbrev iRng2 (ta:TA):TI:=λY H R=>ta Y H λvs H1=>∃i j:JI,vs=[.int i,.int j]/\(-(2 ^ 62)<=i/\i < 2 ^ 62/\-(2 ^ 62)<=j/\j < 2 ^ 62)/\R (Fk i (j - i).toNat) H1
def u6 {a:J2}{ta:TA}{p pos:Mk}(hg:Gl X "range")(hm:X.mg "range" = gV)(ha:PA X [a] ta)(hs:starEach [a] X.env=[(false,eval a X.env)]:=by rfl):PI X tg (.Call (.Name "range" p) [a] [] pos) (Fn ta):=by
 intro J s Y H R I h;show TX (ic I hg hm boot_range (LM (bx (ha pos J s Y H _ I h) λus s1 #[vs,H1,I1,r1,q1]=>?_) hs rfl))
 obtain⟨j,e,q1,q2,q⟩:=q1;subst e;cases r1 with
 | cons r rr=>
  cases rr;obtain⟨t,rfl⟩:=r;exact SC (o9 I1 ∅ ∅ q1 q2 (by simpa using q))
def u7 {a b:J2}{ta:TA}{p pos:Mk}(hg:Gl X "range")(hm:X.mg "range" = gV)(ha:PA X [a,b] ta)(hs:starEach [a,b] X.env=[(false,eval a X.env),(false,eval b X.env)]:=by rfl)(hs2:starEach [b] X.env=[(false,eval b X.env)]:=by rfl) :
  PI X tg (.Call (.Name "range" p) [a,b] [] pos) (iRng2 ta):=by
 intro J s Y H R I h;show TX (ic I hg hm boot_range (LM (bx (ha pos J s Y H _ I h) λus s1 #[vs,H1,I1,r1,q1]=>?_) (by rw[hs,hs2]) (by rw[hs2]; rfl)))
 obtain⟨i,j,e,⟨q1,q2,q3,q4⟩,q⟩:=q1;subst e;cases r1 with
 | cons r rr=>
  cases rr with
  | cons r' rr=>
   cases rr;obtain⟨t,rfl⟩:=r;obtain⟨t',rfl⟩:=r';exact call_range_2 (o9 I1 q1 q2 q3 q4 q)
abbrev HA (wi:TI)(g:TG)(tb:TS):TS:=λD Y H=>wi Y H λtd H1=>∃W:Jx->Jx->St->Hp->Prop,(∃m,W 0 m Y H1)/\∀i m Y H,W i m Y H->
 (td.stop i H/\D.nx Y H)\/(td.go i H/\∃N:St->Hp->Prop,(∀Y' H',N Y' H'->∃m',m' < m/\W (i+1) m' Y' H')/\∀x H',td.yld i H x H'->g x Y H' λY2 H2=>tb { D with nx:=N,ct:=N,bk:=D.nx } Y2 H2)
abbrev jh (fp:Jn Jz)(h:Kv):Jn (Jz×Lr):=fp.filterMap λb=>(h.get? b).map λo=>(b,o)
def fD {fp:Jn Jz}{h:Kv}{b:Jz}{o:Lr}(hb:b∈fp)(e:h.get? b=ba o):(b,o)∈jh fp h:=Om.mpr #[b,hb,by rw[e]; rfl]
def u8 {fp:Jn Jz}{h:Kv}{p:Jz×Lr}(hp:p∈jh fp h):p.1∈fp/\h.get? p.1=ba p.2:=by
 obtain⟨b,hb,e⟩:=Om.mp hp;cases q:h.get? b with
 | none=>rw[q]at e; cases e
 | some o=>
  rw[q]at e;have e':(b,o)=p:=KQ e;subst e';exact#[hb,q]
def Inv.pinned {J:Jn (Jz×Lr)}{Y:St}{H:Hp}{s:Jt}{fp:Jn Jz}(I:Inv X J Y H s)(hf:∀b∈fp,ie X J H b)(ho:∀b∈fp,∃o,s.heap.get? b=ba o/\∀v,o.data≠.cell v):Inv X (J++jh fp s.heap) Y H s:=
 I.pins_of λp hp=>(Kc.mp hp).elim (λz=>I.pin p (Ke _ z)) λz=>by
  obtain⟨hb,e⟩:=u8 z;obtain⟨f0,f1,f2,_⟩:=hf p.1 hb;obtain⟨o,e',d⟩:=ho p.1 hb;rw[e]at e'; cases e'
  exact#[e,f0,f1,f2,d]
def Inv.unpinned {J pl:Jn (Jz×Lr)}{Y:St}{H:Hp}{s:Jt}(I:Inv X (J++pl) Y H s):Inv X J Y H s:=I.pins_of λp hp=>I.pin p (Ke _ (KU _ hp))
def Du {iter:J2}{body:Jn Mx}{wi:TI}{g:TG}{tb:TS}{pos:Mk}(hp:P0 (model X.prog X.w) X.A X.env X.xe)(hc:X.calm=true)(hi:PI X tg iter wi)(hg:PG X tg g)(hb:PSs X body tb)
  (hs:∀x,foldedSetIterable iter X.env x=pure x:=by intro _; rfl):PS X (.For tg iter body [] pos) (HA wi g tb):=by
 intro J s Y H D I h;show wpAny_For (bx (hi J s Y H _ I h) λv s1 h1=>bx h1 λitv s2 h2=>?_) hs
 obtain⟨it,fp,tn,td,H2,e,I2,T,aG,f2,W,⟨m0,w0⟩,turn⟩:=h2;subst e;have stat:∀ {H':Hp},(∀b∈fp,H' b=gV)->∀b∈fp,ie X J H' b:=λhn b hb=>#[hn b hb,(f2 b hb).2]
 show codeAny_forLoop_any (λn s'=>∃i Y' H',Inv X J Y' H' s'/\tn i s'.heap/\(∀b∈fp,H' b=gV)/\W i n Y' H') ?_ m0 #[0,Y,H2,I2,aG,λb hb=>(f2 b hb).1,w0]
 rintro n s3 ⟨i,Y3,H3,I3,st3,fr3,w3⟩;rcases turn i n Y3 H3 w3 with⟨stop,qn⟩|⟨go,N,hN,step⟩
 ·show Mn hp (bx (T.done X rfl rfl rfl hc i J s3 Y3 H3 X.xe I3 (stat fr3) st3 stop) λr s4 #[hr,I4]=>?_)
  subst hr;exact Pg #[Y3,H3,I4,qn]
 ·show Mn hp (bx (T.item X rfl rfl rfl hc i J s3 Y3 H3 X.xe I3 (stat fr3) st3 go) λr s4 #[u,hr,h4]=>?_)
  subst hr;show Mn hp (bx h4 λ_ s5 #[x,H5,I5,r5,y5,st5,fr5]=>?_)
  have I5':=I5.pinned (stat fr5) (T.obj _ _ st5);show Mn hp (bx (hg _ s5 Y3 H5 x u _ I5' r5 (step x H5 y5)) λ_ s6 #[Y6,H6,I6,q6]=>?_)
  show Mn hp (bx (hb _ s6 Y6 H6 _ I6 q6) λf s7 q7=>?_)
  have again:∀ {Y7:St} {H7:Hp},Inv X (J++jh fp s5.heap) Y7 H7 s7->N Y7 H7->∃m,m < n/\∃i Y' H',Inv X J Y' H' s7/\tn i s7.heap/\(∀b∈fp,H' b=gV)/\W i m Y' H':=λ{Y7 H7} I7 n7=>by
   obtain⟨m',hm,w7⟩:=hN Y7 H7 n7;show#[m',hm,i+1,Y7,H7,I7.unpinned,T.keep _ _ _ st5 λb hb o e=>(I7.pin (b,o) (Ke _ (Ke _ (fD hb e)))).1,λb hb=>?_,w7]
   obtain⟨o,e,d⟩:=T.obj _ _ st5 b hb;exact(I7.pin (b,o) (Ke _ (Ke _ (fD hb e)))).2.1
  cases f with
  | next=>obtain⟨Y7,H7,I7,n7⟩:=q7; exact again I7 n7
  | cont=>obtain⟨Y7,H7,I7,n7⟩:=q7; exact again I7 n7
  | brk=>obtain⟨Y7,H7,I7,q7⟩:=q7; exact#[Y7,H7,I7.unpinned,q7]
  | ret v=>obtain⟨x7,Y7,H7,I7,r7,q7⟩:=q7; exact#[x7,Y7,H7,I7.unpinned,r7,q7]
end
def for_tup {K:JE}{a:Jz}{xs:Jn V}{g:TG}{tb:TS}{D:Ends}{Y:St}{H:Hp}(Pv:Jx->St->Hp->Prop)(h0:Pv 0 Y H)(hl:∀i Y H,i<=xs.length->Pv i Y H->SqT K H a xs)
  (hs:∀i x Y H,xs[i]?=ba x->Pv i Y H->g x Y H λY2 H2=>tb { D with nx:=Pv (i+1),ct:=Pv (i+1),bk:=D.nx } Y2 H2) (hd:∀Y H,Pv xs.length Y H->D.nx Y H) :
  ∃W:Jx->Jx->St->Hp->Prop,(∃m,W 0 m Y H)/\∀i m Y H,W i m Y H->
   ((EZ K a).stop i H/\D.nx Y H)\/((EZ K a).go i H/\∃N:St->Hp->Prop,(∀Y' H',N Y' H'->∃m',m' < m/\W (i+1) m' Y' H')/\∀x H',(EZ K a).yld i H x H'->g x Y H' λY2 H2=>tb { D with nx:=N,ct:=N,bk:=D.nx } Y2 H2):=by
 show#[λi m Y H=>m=xs.length - i/\i<=xs.length/\Pv i Y H,#[xs.length,by simp,Lm _,h0],?_]
 rintro i m Y H ⟨rfl,hi,p⟩;have q:=hl i Y H hi p
 by_cases hlt:i < xs.length
 ·show .inr #[#[xs,xs[i],q,by simp[hlt]],Pv (i+1),λY' H' p'=>#[xs.length - (i+1),∅,rfl,hlt,p'],λx H' y=>?_]
  obtain⟨e,y⟩:=y;subst e;exact hs i x Y _ (y xs q) p
 ·have e:i=xs.length:=∅
  subst e;exact .inl #[#[xs,q,JA _],hd Y H p]
noncomputable abbrev R2:=V->V->Hp->VK->Prop
abbrev OpR (X:Cx)(f:Jr->Jr->Tb Jr)(r:R2):Prop:=
 ∀(J:Jn (Jz×Lr)) (s:Jt) (Y:St) (H:Hp) (x y:V) (v u:Jr) (Q:VK),Inv X J Y H s->RelV x v->RelV y u->r x y H Q->
  wpAny (model X.prog X.w) X.A (f v u) (EP X J Y Q) X.xe s
abbrev HB (X:Cx)(f:Jr->Tb Jr)(r:V->Hp->VK->Prop):Prop:=
 ∀(J:Jn (Jz×Lr)) (s:Jt) (Y:St) (H:Hp) (x:V) (v:Jr) (Q:VK),Inv X J Y H s->RelV x v->r x H Q->
  wpAny (model X.prog X.w) X.A (f v) (EP X J Y Q) X.xe s
abbrev CallR (X:Cx)(f:Jr)(r:Jn V->Hp->VK->Prop):Prop:=
 ∀(J:Jn (Jz×Lr)) (s:Jt) (Y:St) (H:Hp) (xs:Jn V) (us:Jn Jr) (Q:VK),Inv X J Y H s->Vals xs us->r xs H Q->
  wpAny (model X.prog X.w) X.A (call f us) (EP X J Y Q) X.xe s
abbrev HC (X:Cx)(r:V->Hp->(J3->Hp->Prop)->Prop):Prop:=
 ∀(J:Jn (Jz×Lr)) (s:Jt) (Y:St) (H:Hp) (x:V) (v:Jr) (Q:J3->Hp->Prop),Inv X J Y H s->RelV x v->r x H Q->
  wpAny (model X.prog X.w) X.A (truthy v) (TP X J Y Q) X.xe s
abbrev Hb (r:R2)(ta tb:TE):TE:=λY H Q=>ta Y H λx H1=>tb Y H1 λy H2=>r x y H2 Q
abbrev Jd (r:V->Hp->VK->Prop)(ta:TE):TE:=λY H Q=>ta Y H λx H1=>r x H1 Q
abbrev rI (C:JI->JI->Prop)(g:JI->JI->V):R2:=λx y H Q=>∃i j,x=.int i/\y=.int j/\C i j/\Q (g i j) H
abbrev CB (g:JI->JI->V):R2:=λx y H Q=>∃i j,x=.int i/\y=.int j/\Q (g i j) H
abbrev rU (g:JI->V):V->Hp->VK->Prop:=λx H Q=>∃i,x=.int i/\Q (g i) H
section
variable{X:Cx}{a b c:J2}{ta tb tc:TE}{pos:Mk}
def Dv (ha:PE X a ta)(hb:PE X b tb){J:Jn (Jz×Lr)}{s:Jt}{Y:St}{H:Hp}{R:V->V->Hp->Prop}(I:Inv X J Y H s)
  (h:ta Y H λx H1=>tb Y H1 λy H2=>R x y H2) {Q:Jr->Jt->Prop} {f:Jr->Jr->Tb Jr}
  (hf:∀v u s2 x y H2,Inv X J Y H2 s2->RelV x v->RelV y u->R x y H2->wpAny (model X.prog X.w) X.A (f v u) Q X.xe s2) :
  wpAny (model X.prog X.w) X.A (eval a X.env) (λv s₁=>wpAny (model X.prog X.w) X.A (eval b X.env) (λu s₂=>wpAny (model X.prog X.w) X.A (f v u) Q X.xe s₂) X.xe s₁) X.xe s:=by
 show bx (ha J s Y H _ I h) λv s1 #[x,H1,I1,r1,q1]=>?_
 show bx (hb J s1 Y H1 _ I1 q1) λu s2 #[y,H2,I2,r2,q2]=>?_
 exact hf v u s2 x y H2 I2 r1 r2 q2
def Fo {op:Qv}{r:R2}(ho:OpR X (binaryOp op) r)(ha:PE X a ta)(hb:PE X b tb):PE X (.BinOp a op b pos) (Hb r ta tb):=by
 intro J s Y H Q I h;exact wpAny_BinOp (Dv ha hb I h λv u s2 x y H2 I2 rx ry q=>ho J s2 Y H2 x y v u Q I2 rx ry q)
def Fp {op:UnaryOp}{r:V->Hp->VK->Prop}(ho:HB X (unaryOp op) r)(ha:PE X a ta):PE X (.UnaryOp op a pos) (Jd r ta):=by
 intro J s Y H Q I h;exact UnaryOp_ (bx (ha J s Y H _ I h) λv s1 #[x,H1,I1,r1,q1]=>ho J s1 Y H1 x v Q I1 r1 q1)
def Hc {f:Jr->Jr->Tb Jr}{C:JI->JI->Prop}{g:JI->JI->JI}
  (rule:∀(i j:JI) (t u:T5) (s:Jt) (Q:Jr->Jt->Prop) (E:Jr->Jt->Prop),C i j->Q (.int (g i j) s.toks) { s with toks:=s.toks+1 }->wpAny (model X.prog X.w) X.A (f (.int i t) (.int j u)) Q E s) :
  OpR X f (rI C λi j=>.int (g i j)):=by
 intro J s Y H x y v u Q I rx ry h;obtain⟨i,j,rfl,rfl,hc,q⟩:=h;obtain⟨t,rfl⟩:=rx;obtain⟨t',rfl⟩:=ry;exact rule i j t t' s _ _ hc #[.int (g i j),H,I.tok _,#[_,rfl],q]
def Fq {f:Jr->Jr->Tb Jr}{g:JI->JI->JI}
  (rule:∀(i j:JI) (t u:T5) (s:Jt) (Q:Jr->Jt->Prop) (E:Jr->Jt->Prop),Q (.int (g i j) s.toks) { s with toks:=s.toks+1 }->wpAny (model X.prog X.w) X.A (f (.int i t) (.int j u)) Q E s) :
  OpR X f (CB λi j=>.int (g i j)):=by
 intro J s Y H x y v u Q I rx ry h;obtain⟨i,j,rfl,rfl,q⟩:=h;obtain⟨t,rfl⟩:=rx;obtain⟨t',rfl⟩:=ry;exact rule i j t t' s _ _ #[.int (g i j),H,I.tok _,#[_,rfl],q]
def AA {f:Jr->Jr->Tb Jr}{g:JI->JI->J3}
  (rule:∀(i j:JI) (t u:T5) (s:Jt) (Q:Jr->Jt->Prop) (E:Jr->Jt->Prop),Q (.bool (g i j)) s->wpAny (model X.prog X.w) X.A (f (.int i t) (.int j u)) Q E s) :
  OpR X f (CB λi j=>.bl (g i j)):=by
 intro J s Y H x y v u Q I rx ry h;obtain⟨i,j,rfl,rfl,q⟩:=h;obtain⟨t,rfl⟩:=rx;obtain⟨t',rfl⟩:=ry;exact rule i j t t' s _ _ #[.bl (g i j),H,I,rfl,q]
abbrev HD (i j:JI):Prop:=0 < j/\j < 1073741824
abbrev HE (i j:JI):Prop:=0<=j/\j<=1000000/\i.natAbs < 2 ^ 64
abbrev CMul (i j:JI):Prop:=(-(2 ^ 64) < i/\i < 2 ^ 64)\/(-(2 ^ 64) < j/\j < 2 ^ 64)
def CMul.ok {i j:JI}(h:CMul i j):IntMulOk i j:=by
 rcases h with⟨h1,h2⟩|⟨h1,h2⟩
 ·exact .of_left (R5 h1 h2)
 ·exact .of_right (R5 h1 h2)
def Dw:OpR X (binaryOp .Add) (CB λi j=>.int (i+j)):=Fq λ_ _ _ _ _ _ _ q=>add_int q
def Dx:OpR X (binaryOp .Sub) (CB λi j=>.int (i - j)):=Fq λ_ _ _ _ _ _ _ q=>sub_int q
def Dy:OpR X (binaryOp .Mult) (rI CMul λi j=>.int (i*j)):=Hc λ_ _ _ _ _ _ _ hc q=>mul_int q hc.ok
def AB:OpR X (binaryOp .FloorDiv) (rI HD λi j=>.int (i / j)):=Hc λi j _ _ _ _ _ hc q=>by
 have h1:(0:JI) < j:=hc.1;have h2:j < 1073741824:=hc.2;exact floordiv_int ∅ (by rw[Int.fdiv_eq_ediv_of_nonneg i ∅]; exact q) (.inl (PyProof.noPylong_small ∅))
def Dz:OpR X (binaryOp .Mod) (rI (λ_ j=>0 < j) λi j=>.int (i % j)):=Hc λi j _ _ _ _ _ hc q=>by
 have h1:(0:JI) < j:=hc;exact mod_int' ∅ (by rw[Int.fmod_eq_emod_of_nonneg i ∅]; exact q)
def DA:OpR X (binaryOp .Pow) (rI HE λi j=>.int (i ^ j.toNat)):=Hc λ_ _ _ _ _ _ _ hc q=>pow_int_small hc.1 hc.2.1 hc.2.2 q
def Je {f:Jr->Tb Jr}{g:JI->JI}
  (rule:∀(i:JI) (t:T5) (s:Jt) (Q:Jr->Jt->Prop) (E:Jr->Jt->Prop),Q (.int (g i) s.toks) { s with toks:=s.toks+1 }->wpAny (model X.prog X.w) X.A (f (.int i t)) Q E s) :
  HB X f (rU λi=>.int (g i)):=by
 intro J s Y H x v Q I rx h;obtain⟨i,rfl,q⟩:=h;obtain⟨t,rfl⟩:=rx;exact rule i t s _ _ #[.int (g i),H,I.tok _,#[_,rfl],q]
def DB:HB X (unaryOp .USub) (rU λi=>.int (-i)):=Je λ_ _ _ _ _ q=>neg_int q
def xh {J:Jn (Jz×Lr)}{Y:St}{H:Hp}{s:Jt}{Q:VK}{k k':J3}(I:Inv X J Y H s)(q:Q (.bl k) H)(e:k=k'):EP X J Y Q (.bool k') s:=by
 subst e;exact#[.bl k,H,I,rfl,q]
def Fs:OpR X (compareOp .Lt) (CB λi j=>.bl (decide (i < j))):=AA λ_ _ _ _ _ _ _ q=>lt_int q
def Ft:OpR X (compareOp .LtE) (CB λi j=>.bl (decide (i<=j))):=AA λ_ _ _ _ _ _ _ q=>le_int q
def Fu:OpR X (compareOp .Gt) (CB λi j=>.bl (decide (j < i))):=AA λ_ _ _ _ _ _ _ q=>gt_int q
def Fv:OpR X (compareOp .GtE) (CB λi j=>.bl (decide (j<=i))):=AA λ_ _ _ _ _ _ _ q=>ge_int q
def DC:OpR X (compareOp .Is) (λx y H Q=>y=.non/\Q (.bl (decide (x=.non))) H):=by
 intro J s Y H x y v u Q I rx ry h;obtain⟨rfl,q⟩:=h;cases ry;show is_none_gen (xh I q ?_);cases x <;> first
  | (cases rx; rfl)
  | (obtain⟨t,rfl⟩:=rx; rfl)
def AC:OpR X (compareOp .IsNot) (λx y H Q=>y=.non/\Q (.bl (!decide (x=.non))) H):=by
 intro J s Y H x y v u Q I rx ry h;obtain⟨rfl,q⟩:=h;cases ry;show isnot_none_gen (xh I q ?_);cases x <;> first
  | (cases rx; rfl)
  | (obtain⟨t,rfl⟩:=rx; rfl)
def AD {op:Sy}{r:R2}(ho:OpR X (compareOp op) r)(ha:PE X a ta)(hb:PE X b tb)(hm:behindInMarks op b=false):PE X (.Compare a [op] [b] pos) (Hb r ta tb):=by
 intro J s Y H Q I h;exact wpAny_Compare1 (Dv ha hb I h λv u s2 x y H2 I2 rx ry q=>ho J s2 Y H2 x y v u Q I2 rx ry q) hm
abbrev Fw (t:TE):TT:=λY H Q=>t Y H λx H'=>∃k,x=.bl k/\Q k H'
def AE {op:Sy}{r:R2}(ho:OpR X (compareOp op) r)(ha:PE X a ta)(hb:PE X b tb)(hm:behindInMarks op b=false):PT X (.Compare a [op] [b] pos) (Fw (Hb r ta tb)):=by
 intro J s Y H Q I h;show wpAny_isTrue_Compare1 (bx (ha J s Y H _ I h) λv s1 #[x,H1,I1,r1,q1]=>bx (hb J s1 Y H1 _ I1 q1) λu s2 #[y,H2,I2,r2,q2]=>
  bx (ho J s2 Y H2 x y v u _ I2 r1 r2 q2) λc s3 #[z,H3,I3,r3,k,e,q3]=>?_) hm
 subst e;cases r3;exact L4 #[H3,I3,q3]
abbrev HF (K:JE)(x:V)(H:Hp)(k:J3):Prop:=
 match x with
 | .non=>k=false
 | .bl b=>k=b
 | .int i=>k=(i != 0)
 | .str y=>y.length<=sizeLine/\k=((y.length:JI) != 0)
 | .byt y=>y.size<=sizeLine/\k=((y.size:JI) != 0)
 | .ref p=>(∃xs,SqL K H p xs/\k = !xs.isEmpty)\/(∃xs,SqT K H p xs/\k = !xs.isEmpty)\/∃U,H p=ba (.dK U)/\k = !U.isEmpty
 | _=>K5
def rM {κ:Type}{U:Jn (κ×V)}{vs:Jn (κ×Jr)}(r:KV U vs):(!vs.isEmpty) = !U.isEmpty:=by
 cases r <;> rfl
def kA {xs:Jn V}{its:Jn Jr}(r:Vals xs its):(!its.toArray.isEmpty) = !xs.isEmpty:=by
 cases r <;> simp
def ji:(sizeLine:Jx) < 2 ^ 63:=by rw[Ky]; decide
def DD:HC X (λx H Q=>∃k,HF X.K x H k/\Q k H):=by
 intro J s Y H x v Q I rx h;obtain⟨k,e,q⟩:=h;have hl:=ji;have hs:sizeLine=16777216:=Ky;cases x with
 | non=>
  cases rx;have e':k=false:=e;subst e';exact truthy_none #[H,I,q]
 | bl b=>
  cases rx;have e':k=b:=e;subst e';exact L4 #[H,I,q]
 | int i=>
  obtain⟨t,rfl⟩:=rx;have e':k=(i != 0):=e;subst e';exact PySem.P.truthy_int #[H,I,q]
 | str y=>
  obtain⟨t,rfl⟩:=rx;obtain⟨hy,e'⟩ : y.length<=sizeLine/\k=((y.length:JI) != 0):=e;subst e';exact PySem.P.truthy_str ∅ #[H,I.tok _,q]
 | byt y=>
  obtain⟨t,rfl⟩:=rx;obtain⟨hy,e'⟩ : y.size<=sizeLine/\k=((y.size:JI) != 0):=e;subst e';exact PySem.W.truthy_bytes ∅ #[H,I.tok _,q]
 | ref p=>
  cases rx;have e':(∃xs,SqL X.K H p xs/\k = !xs.isEmpty)\/(∃xs,SqT X.K H p xs/\k = !xs.isEmpty)\/∃U,H p=ba (.dK U)/\k = !U.isEmpty:=e;rcases e' with⟨xs,hx,e'⟩|⟨xs,hx,e'⟩|⟨U,hx,e'⟩
  ·subst e';obtain⟨its,r,pl,hz⟩:=I.list hx;have hlen:=r.length;exact wpAny_truthy_list pl.isList (by simp only[JM]; omega) #[H,I.tok _,by rw[kA r]; exact q]
  ·subst e';obtain⟨its,r,pl,hz⟩:=I.tuple hx;have hlen:=r.length;exact truthy_tuple pl (by simp only[JM]; omega) #[H,I.tok _,by rw[kA r]; exact q]
  ·subst e';obtain⟨hz,hS,vs,r,m⟩ : U.length<=sizeLine/\(p==sysModules)=false/\∃vs,KV U vs/\s.heap.DictOf (nC X.prog X.w) p vs:=I.hok p _ hx;have hlen:U.length=vs.length:=OR r;exact wpAny_truthy_dict hS m ∅ #[H,I.tok _,by rw[rM r]; exact q]
 | _=>exact(show K5 from e).elim
def rN:OpR X (binaryOp .Add) (λx y H Q=>∃i j,x=.str i/\y=.str j/\i.length+j.length<=sizeLine/\Q (.str (i++j)) H):=by
 intro J s Y H x y v u Q I rx ry h;obtain⟨i,j,rfl,rfl,hz,q⟩:=h;obtain⟨t,rfl⟩:=rx;obtain⟨t',rfl⟩:=ry;exact add_str (λt' tk=>#[.str (i++j),H,I.tok _,#[_,rfl],q]) hz
def mh {x:V}{us:Jn Jr}(r:Vals [x] us):∃u,us=[u]/\RelV x u:=by
 cases r with
 | cons r1 r2=>cases r2; exact#[_,rfl,r1]
def mj:CallR X (.type "int") (λxs H Q=>(∃i,xs=[.int i]/\Q (.int i) H)\/∃k,xs=[.bl k]/\Q (.int (if k then 1 else 0)) H):=by
 intro J s Y H xs us Q I r h;rcases h with⟨i,rfl,q⟩|⟨k,rfl,q⟩
 ·obtain⟨u,rfl,t,rfl⟩:=mh r;exact call_int_int #[.int i,H,I,#[_,rfl],q]
 ·obtain⟨u,rfl,r1⟩:=mh r;cases r1;exact call_int_bool #[.int (if k then 1 else 0),H,I.tok _,#[_,rfl],q]
abbrev HG (K:JE)(x:V)(H:Hp)(n:Jx):Prop:=
 match x with
 | .str y=>y.length<=sizeLine/\n=y.length
 | .byt y=>y.size<=sizeLine/\n=y.size
 | .ref p=>(∃xs,SqL K H p xs/\n=xs.length)\/∃xs,SqT K H p xs/\n=xs.length
 | _=>K5
def kB:CallR X (.builtin "len") (λxs H Q=>∃x n,xs=[x]/\HG X.K x H n/\Q (.int n) H):=by
 intro J s Y H xs us Q I r h;obtain⟨x,n,rfl,e,q⟩:=h;obtain⟨u,rfl,rx⟩:=mh r;have hl:=ji;have hs:sizeLine=16777216:=Ky;cases x with
 | str y=>
  obtain⟨t,rfl⟩:=rx;obtain⟨hy,e'⟩ : y.length<=sizeLine/\n=y.length:=e;subst e';exact len_str ∅ #[.int _,H,I.tok _,#[_,rfl],q]
 | byt y=>
  obtain⟨t,rfl⟩:=rx;obtain⟨hy,e'⟩ : y.size<=sizeLine/\n=y.size:=e;subst e';exact PySem.W.len_bytes ∅ #[.int _,H,I.tok _,#[_,rfl],q]
 | ref p=>
  cases rx;have e':(∃xs,SqL X.K H p xs/\n=xs.length)\/∃xs,SqT X.K H p xs/\n=xs.length:=e;rcases e' with⟨xs,hx,e'⟩|⟨xs,hx,e'⟩
  ·subst e';obtain⟨its,r',pl,hz⟩:=I.list hx;have hlen:=r'.length;exact Calls.call_len_list pl.isList (by simp only[JM]; omega) #[.int xs.length,H,I.tok _,#[_,by simp only[JM]; rw[hlen]],q]
  ·subst e';obtain⟨its,r',pl,hz⟩:=I.tuple hx;have hlen:=r'.length;exact len_tuple pl (by simp only[JM]; omega) #[.int xs.length,H,I.tok _,#[_,by simp only[JM]; rw[hlen]],q]
 | _=>exact(show K5 from e).elim
end
structure Room (k:Jx)(A:Ki):Prop where
 hd:A.handled=gV
 dp:A.depth+3*k+5 < recursionLimit
 un:A.units+16*k+200 < cLine
def Room.deeper {k:Jx}{A:Ki}(r:Room (k+1) A)(env:Qg):Room k (A.deeper env):=
 #[r.hd,by have:=r.dp; show A.depth+1+3*k+5 < _; omega,by have:=r.un; show A.units+3+16*k+200 < _; omega]
def Room.depth {k:Jx}{A:Ki}(r:Room k A):A.depth < recursionLimit:=by have:=r.dp; omega
abbrev Fx:TA:=λ_ H Q=>Q [] H
abbrev Fy (ta:TE)(tr:TA):TA:=λY H Q=>ta Y H λx H1=>tr Y H1 λxs H2=>Q (x::xs) H2
section
variable{X:Cx}{e:J2}{es:Jn J2}{te:TE}{t:TA}{pos:Mk}
def xi:PA X [] Fx:=λ_ _ _ _ H Q I h=>Calls.spliced_nil #[[],H,I,.nil,h]
def nE (ha:PE X e te)(hr:PA X es t)(hs:starEach (e::es) X.env=(false,eval e X.env)::starEach es X.env:=by rfl):PA X (e::es) (Fy te t):=by
 intro pos J s Y H Q I h;rw[hs];change wpAny _ _ (spliced ((false,eval e X.env)::backTo pos (starEach es X.env))) _ _ s;show Calls.spliced_cons (bx (ha J s Y H _ I h) λu s1 #[x,H1,I1,r1,q1]=>?_)
 exact bx (hr pos J s1 Y H1 _ I1 q1) λus s2 #[xs,H2,I2,r2,q2]=>#[x::xs,H2,I2,.cons r1 r2,q2]
abbrev HH (t:TA):TE:=λY H Q=>t Y H λxs H1=>xs.length<=sizeLine/\∀p,H1 p=gV->Q (.ref p) (bv H1 p (.tup xs))
abbrev HI (t:TA):TE:=λY H Q=>t Y H λxs H1=>xs.length<=sizeLine/\∀p,H1 p=gV->Q (.ref p) (bv H1 p (.lst xs))
def DE {x1}(h:PA X es t):PE X (.Tuple es x1 pos) (HH t):=by
 intro J s Y H Q I hq;show wpAny_Tuple_spliced (bx (h pos J s Y H _ I hq) λus s1 #[xs,H1,I1,r,z,q]=>#[by rw[<- r.length]; exact z,?_])
 have hf:H1 s1.heap.objs.size=gV:=I1.hok.fresh (JA _);show#[.ref s1.heap.objs.size,bv H1 s1.heap.objs.size (.tup xs),I1.laid (t':=s1.toks) (λb u e=>Jq _ e) (JA _) ?_,rfl,q _ hf]
 exact#[z,us,r,#[_,JH _ rfl,rfl,_,rfl]]
def DF (h:PA X es t):PE X (.List es pos) (HI t):=by
 intro J s Y H Q I hq;show wpAny_List_spliced (bx (h pos J s Y H _ I hq) λus s1 #[xs,H1,I1,r,z,q]=>#[by rw[<- r.length]; exact z,?_])
 have hf:H1 s1.heap.objs.size=gV:=I1.hok.fresh (JA _);show#[.ref s1.heap.objs.size,bv H1 s1.heap.objs.size (.lst xs),I1.laid (t':=s1.toks) (λb u e=>Jq _ e) (JA _) ?_,rfl,q _ hf]
 exact#[z,us,0,r,JH _ rfl]
end
noncomputable abbrev Sp:=Jn V->Hp->VK->XK->Prop
noncomputable abbrev xj:=Jn Qg->Hp->Jt->XK->Jr->Jt->Prop
structure Env0 (P:Kf)(w:Kq)(K:JE)(mg:JS->Jw Jr)(base:Kv)(A:Ki)(outer:Jn Qg)(s:Jt)(H:Hp):Prop where
 frames:A.frames=ba outer
 mod:Mod K mg base
 bs:∀b o,base.get? b=ba o->s.heap.get? b=ba o/\H b=gV
 bsz:base.objs.size<=s.heap.objs.size
 funs:s.heap.FunFrames base outer
 frf:∀b∈rJ outer,H b=gV
 hok:HOk P w H s.heap
 bare:OM s.gens
abbrev CE (outer:Jn Qg)(P:Kf)(w:Kq)(H:Hp)(s:Jt)(Q:VK)(u:Jr)(s':Jt):Prop:=
 ∃v H',s'.os=s.os/\OM s'.gens/\Un (rJ outer) [] H H' s.heap s'.heap/\HOk P w H' s'.heap/\RelV v u/\Q v H'
abbrev CR (CX:xj)(outer:Jn Qg)(P:Kf)(w:Kq)(H:Hp)(s:Jt)(Q:VK)(E:XK)(r:QV)(s':Jt):Prop:=
 match r with
 | .ok (.ret u)=>CE outer P w H s Q u s'
 | .ok _=>K5
 | .error e=>CX outer H s E e s'
structure FnOk (P:Kf)(w:Kq)(K:JE)(mg:JS->Jw Jr)(base:Kv)(CX:xj)(k:Jx)(f:Jz)(fd:Mf)(ps:Jn JS)(sp:Sp):Prop where
 len:∀vs H Q E,sp vs H Q E->vs.length=ps.length
 run:∀(A:Ki) (outer:Jn Qg) (s:Jt) (H:Hp) (args:Args) (us:Jn Jr) (vs:Jn V) (Q:VK) (E:XK),Room k A->Env0 P w K mg base A outer s H->Qw s fd args (ps.zip us)->Vals vs us->sp vs H Q E->
  codeAny (model P w) A (.call (.ref f) args) (CR CX outer P w H s Q E) s
section
variable{X:Cx}{J:Jn (Jz×Lr)}{Y:St}{H:Hp}{s s':Jt}
def Inv.env0 (I:Inv X J Y H s):Env0 X.prog X.w X.K X.mg X.base X.A X.stack s H:=
 #[I.ok.frames,I.ok.mod,I.bs,J6 I.ok.bsz I.sz,I.stack,I.stkFree,I.hok,I.bare]
def Inv.after {Q:VK}{u:Jr}(I:Inv X J Y H s)(h:CE X.stack X.prog X.w H s Q u s'):EP X J Y Q u s':=by
 obtain⟨v,H',os,bare,un,hok,r,q⟩:=h;obtain⟨hh,g,d,t,os'⟩:=s';obtain rfl:os'=s.os:=os;exact#[v,H',I.call (h':=hh) (g':=g) (d':=d) (t':=t) (ch:=[]) un hok bare (λb z=>absurd z (by simp)),r,q]
end
abbrev xk (sp:Sp)(dvs:Jn V)(E:XK)(t:TA):TE:=λY H Q=>t Y H λvs H1=>sp (vs++dvs) H1 Q E
abbrev Binds (K:JE)(fd:Mf)(ps:Jn JS)(ds:Jn Jr):Prop:=
 ∀(s:Jt) (us:Jn Jr),K.In s.heap->(us++ds).length=ps.length->Qw s fd #[us,[]] (ps.zip (us++ds))
def Binds.all {K:JE}{fd:Mf}{ps:Jn JS}(h:∀us:Jn Jr,us.length=ps.length->bindArgs fd #[us,[]]=pure (ps.zip us)):Binds K fd ps []:=λs us _ hl=>by
 rw[Li]at hl ⊢;exact .of_eq (h us hl)
abbrev nF (CX:xj)(X:Cx)(E:XK):Prop:=∀(J:Jn (Jz×Lr)) (Y:St) (H:Hp) (s:Jt) (e:Jr) (s':Jt),Inv X J Y H s->CX X.stack H s E e s'->X.xe e s'
section
variable{X:Cx}{CX:xj}{k:Jx}{f C:Jz}{fd:Mf}{ps:Jn JS}{sp:Sp}{dvs:Jn V}{ds:Jn Jr}{E:XK}{x m:JS}{p pos apos:Mk}{e o:J2}{es:Jn J2}{ta:TE}{t:TA}
def xl {J:Jn (Jz×Lr)}{Y:St}{H:Hp}{s:Jt}{Q:VK}{us:Jn Jr}{vs:Jn V}(F:FnOk X.prog X.w X.K X.mg X.base CX k f fd ps sp)(hr:Room k X.A)(hb:Binds X.K fd ps ds)(hd:Vals dvs ds)(hx:nF CX X E)
  (I:Inv X J Y H s) (r:Vals vs us) (h:sp (vs++dvs) H Q E):wpAny (model X.prog X.w) X.A (call (.ref f) us) (EP X J Y Q) X.xe s:=by
 have r2:Vals (vs++dvs) (us++ds):=r.append hd;have hl:(us++ds).length=ps.length:=by rw[<- r2.length]; exact F.len _ _ _ _ h
 show wpAny_call (NE (F.run X.A X.stack s H #[us,[]] (us++ds) (vs++dvs) Q E hr I.env0 (hb s us I.kIn hl) r2 h) λr s' hq=>?_)
 cases r with
 | error e=>exact hx J Y H s e s' I hq
 | ok fl=>
  cases fl with
  | ret u=>exact I.after hq
  | next=>exact K5.elim hq
  | brk=>exact K5.elim hq
  | cont=>exact K5.elim hq
def AF (F:FnOk X.prog X.w X.K X.mg X.base CX k f fd ps sp)(hr:Room k X.A)(hg:Gl X x)(hm:X.mg x=ba (.ref f))(hk:Lj X.K (.ref f)=true)(hb:Binds X.K fd ps ds)(hd:Vals dvs ds)(hx:nF CX X E)
  (ha:PA X (e::es) t) (hdb:(x==("__debug__" : JS))=false:=by decide) (he:starEach (e::es) X.env=(false,eval e X.env)::starEach es X.env:=by rfl) (hpl:(backTo pos (starEach es X.env)).any (·.1)=false:=by rfl) :
  PE X (.Call (.Name x p) (e::es) [] pos) (xk sp dvs E t):=by
 intro J s Y H Q I h;show Nw (sU I hg hm ?_ hdb);show PySem.W.callWith_K (h₀:=X.base) I.ok.mod.kin hk (bx (ha pos J s Y H _ I h) λus s1 #[vs,H1,I1,r,q]=>#[I1.kIn,?_]) he hpl
 exact xl F hr hb hd hx I1 r q
def xm (F:FnOk X.prog X.w X.K X.mg X.base CX k f fd ps sp)(hr:Room k X.A)(hg:Gl X x)(hm:X.mg x=ba (.ref f))(hk:Lj X.K (.ref f)=true)(hb:Binds X.K fd ps ds)(hd:Vals dvs ds)(hx:nF CX X E)
  (hdb:(x==("__debug__" : JS))=false:=by decide):PE X (.Call (.Name x p) [] [] pos) (xk sp dvs E Fx):=by
 intro J s Y H Q I h;show Nw (sU I hg hm ?_ hdb);exact PySem.W.callWith_K0 I.kIn hk (xl (us:=[]) F hr hb hd hx I .nil h)
end
structure FnScope (N P:Jn JS)(sc:MM):Prop where
 kind:sc.kind=.function
 co:sc.isCoroutine=false
 gen:sc.isGenerator=false
 nd:N.Nodup
 pre:N.take P.length=P
 par:∀x∈P,sc.names.lookup x=ba .local\/sc.names.lookup x=ba .cell
 nofree:∀y∈sc.names,y.2≠.free
def mo {kindOf:JS->Jw Lo}{x:JS}:∀ {binds:Jn (JS×Jr)} {m:JS->Jw Jr},(∀v,(x,v)∉binds)->bindL kindOf binds m x=m x
 | [],_,_=>rfl
 | (n,v)::r,m,h=>by
  unfold bindL;rw[mo λw hw=>h w (KA _ hw)]
  split
  ·have:x≠n:=by rintro rfl; exact h v KP
   simp[this]
  ·rfl
def mq {kindOf:JS->Jw Lo}{x:JS}:∀ {binds:Jn (JS×Jr)} {m:JS->Jw Jr},(∀v,(x,v)∉binds)->bindC kindOf binds m x=m x
 | [],_,_=>rfl
 | (n,v)::r,m,h=>by
  unfold bindC;rw[mq λw hw=>h w (KA _ hw)]
  split
  ·rfl
  ·have:x≠n:=by rintro rfl; exact h v KP
   simp[this]
def mr {kindOf:JS->Jw Lo}{x:JS}{v:Jr}:∀ {P:Jn JS} {vs:Jn Jr} {i:Jx} {m:JS->Jw Jr},P.Nodup->P[i]?=ba x->vs[i]?=ba v->kindOf x=ba .local->
  bindL kindOf (P.zip vs) m x=ba v
 | [],_,_,_,_,h,_,_=>by simp at h
 | _::_,[],_,_,_,_,h,_=>by simp at h
 | p::P,w::vs,0,m,nd,h1,h2,hk=>by
  simp at h1 h2; subst h1; subst h2
  change bindL kindOf ((p,w)::P.zip vs) m p=_;unfold bindL;rw[mo λv hv=>(K1.mp nd).1 (Ph hv).1,JX hk]
  simp
 | p::P,w::vs,i+1,m,nd,h1,h2,hk=>by
  change bindL kindOf ((p,w)::P.zip vs) m x=_;unfold bindL;exact mr (i:=i) (K1.mp nd).2 (by simpa using h1) (by simpa using h2) hk
def mw {kindOf:JS->Jw Lo}{x:JS}{v:Jr}:∀ {P:Jn JS} {vs:Jn Jr} {i:Jx} {m:JS->Jw Jr},P.Nodup->P[i]?=ba x->vs[i]?=ba v->kindOf x≠ba .local->
  bindC kindOf (P.zip vs) m x=ba v
 | [],_,_,_,_,h,_,_=>by simp at h
 | _::_,[],_,_,_,_,h,_=>by simp at h
 | p::P,w::vs,0,m,nd,h1,h2,hk=>by
  simp at h1 h2; subst h1; subst h2
  change bindC kindOf ((p,w)::P.zip vs) m p=_;unfold bindC;rw[mq λv hv=>(K1.mp nd).1 (Ph hv).1,J8 hk]
  simp
 | p::P,w::vs,i+1,m,nd,h1,h2,hk=>by
  change bindC kindOf ((p,w)::P.zip vs) m x=_;unfold bindC;exact mw (i:=i) (K1.mp nd).2 (by simpa using h1) (by simpa using h2) hk
abbrev fQ (N:Jn JS)(vs:Jn V):St:=vs.map ba++Km (N.length - vs.length) gV
abbrev rO (CX:xj)(P:Kf)(w:Kq)(K:JE)(mg:JS->Jw Jr)(base:Kv)(N:Jn JS)(qual:JS)(scope:MM)(f:Jz)(cd:Jr)(A:Ki)(outer:Jn Qg)(s:Jt)(H:Hp)(E:XK):Cx where
 prog:=P
 w:=w
 K:=K
 mg:=mg
 base:=base
 A:=A.deeper (envOfC qual scope s.heap.objs.size f cd)
 N:=N
 s₀:=s
 H₀:=H
 env:=envOfC qual scope s.heap.objs.size f cd
 outer:=outer
 stack:=envOfC qual scope s.heap.objs.size f cd::outer
 ex:=[]
 calm:=true
 fn:=λ_=>true
 pn:=[]
 xe:=λe s'=>wpAny (model P w) (A.deeper (envOfC qual scope s.heap.objs.size f cd)) (leaving (envOfC qual scope s.heap.objs.size f cd) e) (λ_ s''=>CX outer H s E e s'') (λe' s''=>CX outer H s E e' s'') s'
def pb {sc:MM}{n:Jx}{x:JS}(h:sc.names.lookup x=ba .cell):∃c,(cellsFrom n sc.names []).lookup x=ba c:=by
 have q:=O7 sc.names n [] (.inl h);exact KF.mp q
def u9 {CX:xj}{P:Kf}{w:Kq}{K:JE}{mg:JS->Jw Jr}{base:Kv}{N ps:Jn JS}{qual:JS}{scope:MM}{f:Jz}{cd:Jr}{A:Ki}{outer:Jn Qg}{s s1:Jt}{H:Hp}{E:XK}{us:Jn Jr}{vs:Jn V}
  (S:FnScope N ps scope) (hd:A.handled=gV) (e0:Env0 P w K mg base A outer s H) (hl:vs.length=ps.length) (r:Vals vs us)
  (x:InCallC s s.heap.objs.size (bindL (envOfC qual scope s.heap.objs.size f cd).kindOf (ps.zip us) λ_=>gV) (cellsFrom (s.heap.objs.size+1) scope.names []) (bindC (envOfC qual scope s.heap.objs.size f cd).kindOf (ps.zip us) λ_=>gV) s1) :
  Inv (rO CX P w K mg base N qual scope f cd A outer s H E) [] (fQ N vs) H s1:=by
 have hpl:ps.length<=N.length:=by have:=congrArg SQ S.pre; rw[Kn]at this; omega
 obtain⟨h1,tk,rfl,hk⟩:=x.done;have noA:∀b:Jz,b∉(rO CX P w K mg base N qual scope f cd A outer s H E).ex:=λb z=>absurd (show b∈([]:Jn Jz)from z) (by simp)
 show#[#[e0.mod,S.kind,rfl,rfl,JA _,λy z c h1 h2=>?_,λy hy=>?_,λy c _ h=>?_,λ_=>hd,Around.frames_deeper e0.frames,.inr #[rfl,rfl],λb z=>absurd z (noA b),e0.bs,e0.bsz,λb _ _=>noA b,λb z=>absurd z (noA b),e0.funs,e0.frf],
  rfl,e0.bare,Un.kept hk,#[_,x.toInCall.ns,λi y v h1 h2 h3=>?_],λy c h=>#[_,x.cell y c h],e0.hok.fresh (JA _),λy c h=>?_,λp hp=>absurd (show p∈([]:Jn (Jz×Lr))from hp) (by simp),e0.hok.kept hk,?_]
 ·exact name_of_addr x.apart (My h1) (My h2)
 ·have hy:scope.names.lookup y=ba .cell\/scope.names.lookup y=ba .free:=hy;rcases hy with hy|hy
  ·exact pb hy
  ·exact absurd rfl (S.nofree _ (My hy))
 ·exact MN (x.above y c (My h))
 ·have hi:i < vs.length:=by
   unfold fQ at h2
   by_cases hi:i < vs.length
   ·exact hi
   ·rw[LO (by simpa using hi)]at h2
    rw[List.getElem?_replicate]at h2;split at h2 <;> cases h2
  have ha:vs[i]?=ba v:=by
   unfold fQ at h2;rw[Ku (by simpa using hi),JB]at h2
   cases e:vs[i]? with
   | none=>rw[e]at h2; cases h2
   | some a=>rw[e]at h2; cases h2; rfl
  obtain⟨u,hu,rv⟩:=r.get ha;have hp:ps[i]?=ba y:=by
   rw[<- S.pre,No ∅]; exact h1
  have ndP:ps.Nodup:=by rw[<- S.pre]; exact S.nd.sublist (List.take_sublist _ _)
  show#[u,rv,?_];rcases S.par y (JJ hp)with k|k
  ·exact .inl #[k,mr ndP hp hu k]
  ·obtain⟨c,e⟩:=pb (n:=s.heap.objs.size+1) k;show .inr #[.inl k,c,e,?_];have q:=x.cell y c e;rw[mw ndP hp hu (by change scope.names.lookup y≠_; rw[k]; decide)]at q
   exact q
 ·exact e0.hok.fresh (MN (x.above y c (My h)))
 ·unfold fQ;change _=N.length;rw[JC,Jp,NR];omega
def Fz {CX:xj}{P:Kf}{w:Kq}{K:JE}{mg:JS->Jw Jr}{base:Kv}{k:Jx}{f:Jz}{name qual:JS}{params:Arguments}{body:Jn Mx}{scope:MM}{dV kV doc pm cdv ct oc:Jr}{an od:Jw Jz}
  {osl:J7 (Jw Jr)} {N ps:Jn JS} {sp:Sp} (lk:K.lookup f=ba #[oc,od,.func (LY name qual params body scope dV kV doc pm an cdv ct),osl]) (hcd:MC K cdv qual=true) (S:FnScope N ps scope)
  (len:∀vs H Q E,sp vs H Q E->vs.length=ps.length)
  (hbody:∀(A:Ki) (outer:Jn Qg) (s:Jt) (H:Hp) (vs:Jn V) (Q:VK) (E:XK),Room k (A.deeper (envOfC qual scope s.heap.objs.size f cdv))->sp vs H Q E->
   ∃t,PSs (rO CX P w K mg base N qual scope f cdv A outer s H E) body t/\t { nx:=λ_ H'=>Q .non H',rt:=Q } (fQ N vs) H) :
  FnOk P w K mg base CX (k+1) f (LY name qual params body scope dV kV doc pm an cdv ct) ps sp:=by
 show#[len,λA outer s H args us vs Q E hr e0 hb r hsp=>?_]
 have hl:=len _ _ _ _ hsp;have KX:K.In s.heap:=e0.mod.kin.keeps λb o e=>(e0.bs b o e).1
 have lim:s.heap.NoLimit:=e0.mod.nolimit.keeps λb o e=>(e0.bs b o e).1
 have hkind:∀y∈ps.zip us,scope.names.lookup y.1=ba .local\/(scope.names.lookup y.1=ba .cell/\((cellsFrom (s.heap.objs.size+1) scope.names []).lookup y.1).isSome=true):=λ#[n,v] hy=>by
  rcases S.par n (Ph hy).1 with q|q
  ·exact .inl q
  ·exact .inr #[q,O7 _ _ _ (.inl q)]
 show codeAny_call_function hr.depth (KX _ _ lk) rfl S.co S.gen rfl (PySem.W.codeRec_of KX hcd) (hb _ _ _ _ ?_);show wpAny_newFunctionEnv_cells S.kind hkind λenv he s1 x=>?_
 subst he;show#[lim.keeps x.toInCall.keep,codeAny_func ?_];obtain⟨t,ht,hq⟩:=hbody A outer s H vs Q E (hr.deeper _) hsp;have I:Inv (rO CX P w K mg base N qual scope f cdv A outer s H E) [] (fQ N vs) H s1:=u9 S hr.hd e0 hl r x;show LI (ht [] s1 (fQ N vs) H _ I hq) (λfl s' hs=>?_) λe s' hs=>hs
 have fin:∀ {Y':St} {H':Hp} {v:V} {u:Jr},Inv (rO CX P w K mg base N qual scope f cdv A outer s H E) [] Y' H' s'->RelV v u->Q v H'->CE outer P w H s Q u s':=
  λ{Y' H' v u} td rv q=>#[v,H',td.os,td.bare,td.base,td.hok,rv,q]
 cases fl with
 | ret u=>
  obtain⟨v,Y',H',td,rv,q⟩:=hs;exact fin td rv q
 | next=>
  obtain⟨Y',H',td,q⟩:=hs;exact fin (v:=V.non) (u:=Kz) td rfl q
 | brk=>
  obtain⟨_,_,_,q⟩:=hs;exact K5.elim q
 | cont=>
  obtain⟨_,_,_,q⟩:=hs;exact K5.elim q
section
variable{X:Cx}{x:JS}{p pos:Mk}{e:J2}{es:Jn J2}{t:TA}{id T:Lf}{r:Jn V->Hp->VK->Prop}
abbrev IQ (r:Jn V->Hp->VK->Prop)(t:TA):TE:=λY H Q=>t Y H λvs H1=>r vs H1 Q
def pc (hc:CallR X (.builtin id) r)(hg:Gl X x)(hm:X.mg x=gV)(hv:bootBuiltins x=ba (.builtin id))(ha:PA X (e::es) t)(hn:x≠"__name__":=by decide)(hdb:(x==("__debug__" : JS))=false:=by decide)
  (he:starEach (e::es) X.env=(false,eval e X.env)::starEach es X.env:=by rfl) (hpl:(backTo pos (starEach es X.env)).any (·.1)=false:=by rfl):PE X (.Call (.Name x p) (e::es) [] pos) (IQ r t):=by
 intro J s Y H Q I h;show Nw (ic I hg hm hv ?_ hn hdb);exact QX (bx (ha pos J s Y H _ I h) λus s1 #[vs,H1,I1,r1,q1]=>hc J s1 Y H1 vs us Q I1 r1 q1) he hpl
def vc (hc:CallR X (.type T) r)(hg:Gl X x)(hm:X.mg x=gV)(hv:bootBuiltins x=ba (.type T))(ha:PA X (e::es) t)(hn:x≠"__name__":=by decide)(hdb:(x==("__debug__" : JS))=false:=by decide)
  (he:starEach (e::es) X.env=(false,eval e X.env)::starEach es X.env:=by rfl) (hpl:(backTo pos (starEach es X.env)).any (·.1)=false:=by rfl):PE X (.Call (.Name x p) (e::es) [] pos) (IQ r t):=by
 intro J s Y H Q I h;show Nw (ic I hg hm hv ?_ hn hdb);exact LM (bx (ha pos J s Y H _ I h) λus s1 #[vs,H1,I1,r1,q1]=>hc J s1 Y H1 vs us Q I1 r1 q1) he hpl
end
end L2
namespace HT
open PySem PyProof.Rows
section
open PySem.SeqAt
open PySem.AutoSeq1 (wpAny_loadPart')
open PySem.MeetsSeq PySem.MeetsSeq2 PySem.MeetsSeq3
end
section
variable{prog:Kf}{w:Kq}{A:Ki}{E:Jr->Jt->Prop}{s:Jt}
def AG {t b:Jz}{vs ws:Jn Jr}{Q:Jr->Jt->Prop}(ht:Qs s.heap t vs.toArray)(hb:Qs s.heap b ws.toArray)(hv:vs≠[])
  (h1:ws=[]->Q (.ref t) s) (h2:ws≠[]->Q (.ref s.heap.objs.size) { s with heap:=s.heap.push { cls:=.type "tuple",data:=.seq (vs++ws).toArray } })
  (hsz:vs.length+ws.length<=sizeLine):wpAny (model prog w) A (binaryOp .Add (.ref t) (.ref b)) Q E s:=by
 obtain⟨⟨cls,dd,data,sl⟩,ho,hc,n,hd⟩:=id ht;obtain⟨⟨cls2,dd2,data2,sl2⟩,ho2,hc2,n2,hd2⟩:=id hb;simp only at hc hd hc2 hd2;subst hc hd hc2 hd2;have e:vs.toArray++ws.toArray=(vs++ws).toArray:=by simp
 by_cases hw:ws=[]
 ·exact Qx #[_,ho,rfl] #[_,ho2,rfl] OZ P8 NF NB (Np _ _)
   (tuple_addW1 t b vs.toArray ws.toArray n n2 dd dd2 sl sl2 (by simpa using hv) (by simp[hw])) #[ho,ho2,h1 hw]
 ·show Qx #[_,ho,rfl] #[_,ho2,rfl] OZ P8 NF NB (Np _ _)
   (tuple_addW2 t b vs.toArray ws.toArray n n2 dd dd2 sl sl2 (by simpa using hv) (by simpa using hw) (by rw[JM,JM]; exact hsz)) #[ho,ho2,?_]
  rw[e];exact h2 hw
abbrev cx (n d:Jx):Jw JI->Jx
 | none=>d
 | some v=>if v < 0 then(v+(n:JI)).toNat else min v.toNat n
def kC (n d:Jx):cx n d gV=d:=rfl
def sX (n d k:Jx):cx n d (ba (k:JI))=min k n:=by
 show(if (k:JI) < 0 then((k:JI)+(n:JI)).toNat else min (k:JI).toNat n)=min k n
 rw[J8 ∅,JL]
def DH (n d:Jx)(hd:d<=n)(o:Jw JI):cx n d o<=n:=by
 cases o with
 | none=>exact hd
 | some v=>
  show(if v < 0 then(v+(n:JI)).toNat else min v.toNat n)<=n
  by_cases hv:v < 0
  ·rw[JX hv]; omega
  ·rw[J8 hv]; exact Nat.min_le_right _ _
def sY (v:JI)(n d:Jx):(if v < 0 then max (v+(n:JI)) 0 else min v (n:JI))=((cx n d (ba v):Jx):JI):=by
 show(if v < 0 then max (v+(n:JI)) 0 else min v (n:JI))=(((if v < 0 then(v+(n:JI)).toNat else min v.toNat n):Jx):JI)
 by_cases hv:v < 0
 ·simp only[JX hv]; omega
 ·simp only[J8 hv]; omega
def rP (lo hi:Jw JI)(n:Jx):Ng lo hi 1 (n:JI)=(((cx n 0 lo:Jx):JI),((cx n n hi:Jx):JI)):=by
 have h1:¬ ((1:JI) < 0):=∅
 unfold Ng;simp only[h1,KZ];show RH ?_ ?_
 ·cases lo with
  | none=>rfl
  | some v=>exact sY v n 0
 ·cases hi with
  | none=>rfl
  | some v=>exact sY v n n
def rQ (i j:Jx):Mm (i:JI) (j:JI) 1=j - i:=by
 unfold Mm;have h1:(1:JI) > 0:=∅
 simp only[h1,Lp,Int.ediv_one];split <;> omega
def kD {v:Jr}{o:Jw JI}{Q:Jw JI->Jt->Prop}(p:On v o)(h:Q o s):wpAny (model prog w) A (Rt v) Q E s:=by
 cases p with
 | none=>exact RI h
 | int i t=>exact slicePart_int h
def eZ {sl:Jz}{vl vu:Jr}{lo hi:Jw JI}{n:Jx}{Q:JI×JI×Jx->Jt->Prop}(hs:s.heap.IsSliceOf sl vl vu .none)(pl:On vl lo)(pu:On vu hi)
  (h:Q (((cx n 0 lo:Jx):JI),1,cx n n hi - cx n 0 lo) s):wpAny (model prog w) A (Oo (.ref sl) (pure (n:JI))) Q E s:=by
 obtain⟨os,hos,hcs,hds⟩:=id hs;unfold Oo R0;show Jo (Jo (Ls hos hds (x:=vl) rfl (Jo (Ls hos hds (x:=vu) rfl (Jo (Ls hos hds (x:=.none) rfl (Ju ?_)))))));show Jo (RI ?_);change wpAny _ _ (if ((1:JI)==0)=true then _ else _) _ _ s
 rw[J8 #v[]]
 show Jo (kD pl (Jo (kD pu (Jo (Ju ?_)))));change wpAny _ _ (match Ng lo hi 1 (n:JI)with|(lo,hi)=>pure (lo,(1:JI),Mm lo hi 1)) _ _ s
 rw[rP lo hi n];change wpAny _ _ (pure (((cx n 0 lo:Jx):JI),(1:JI),Mm ((cx n 0 lo:Jx):JI) ((cx n n hi:Jx):JI) 1)) _ _ s;rw[rQ];exact Ju h
def xn (xs:J7 Jr)(i k:Jx):((JW k).filterMap λ(m:Jx)=>xs[((i:JI)+(m:JI)*1).toNat]?).toArray=((xs.toList.drop i).take k).toArray:=by
 have e:(λ(m:Jx)=>xs[((i:JI)+(m:JI)*1).toNat]?)=λm=>xs[i+m]?:=by
  funext m
  have:((i:JI)+(m:JI)*1).toNat=i+m:=∅
  rw[this]
 rw[e];have:=pick_run xs i k;rw[List.filterMap_map]at this;have e2:((λx=>xs[x]?)∘λx=>i+x)=λm=>xs[i+m]?:=rfl
 rw[e2]at this;rw[this]
def iJ {t sl:Jz}{items:J7 Jr}{vl vu:Jr}{lo hi:Jw JI}{Q:Jr->Jt->Prop}(ht:Qs s.heap t items)(hs:s.heap.IsSliceOf sl vl vu .none)(pl:On vl lo)(pu:On vu hi)
  (hw:¬ (cx items.size 0 lo=0/\cx items.size items.size hi=items.size))
  (h:Q (.ref s.heap.objs.size) { s with heap:=s.heap.push { cls:=.type "tuple",data:=.seq ((items.toList.drop (cx items.size 0 lo)).take (cx items.size items.size hi - cx items.size 0 lo)).toArray } })
  (hsz:items.size<=sizeLine):wpAny (model prog w) A (getItem (.ref t) (.ref sl)) Q E s:=by
 have htake:sizeOk (.seq ((items.toList.drop (cx items.size 0 lo)).take (cx items.size items.size hi - cx items.size 0 lo)).toArray):=by
  show((items.toList.drop (cx items.size 0 lo)).take (cx items.size items.size hi - cx items.size 0 lo)).toArray.size<=sizeLine;rw[JM,Kn,Nc,JP];omega
 have hj:cx items.size items.size hi<=items.size:=DH _ _ (JA _) hi;obtain⟨os,hos,hcs,hds⟩:=id hs;have hTs:s.TypeIs (.ref sl) "slice":=#[os,hos,hcs];unfold getItem
 try with_reducible show KR ?_
 first|refine Jo (Ju ?_)|skip
 show Jo (Qy ht.typeIs #v[] ?_)
 show Jo (KI (name:=LG "__getitem__") ht.typeIs LU
  (KM LU ht.typeIs P2 ?_ (Qi _ _)))
 change wpAny _ _ (M4 (.ref t) >>= _) _ _ s;show Jo (R6 ht ?_);show Jo (MO hTs ?_);rw[JX #v[]]
 show Jo (eZ hs pl pu ?_);have hno:¬ ((((cx items.size 0 lo:Jx):JI)==0&&(1:JI)==1&&(cx items.size items.size hi - cx items.size 0 lo)==items.size)=true):=by
  intro q;rw[Jv,Jv]at q;have q1:((cx items.size 0 lo:Jx):JI)=0:=eq_of_beq q.1.1;have q2:cx items.size items.size hi - cx items.size 0 lo=items.size:=eq_of_beq q.2;exact hw #[∅,∅]
 change wpAny _ _ (if (((cx items.size 0 lo:Jx):JI)==0&&(1:JI)==1&&(cx items.size items.size hi - cx items.size 0 lo)==items.size)=true then _ else _) _ _ s
 rw[J8 hno,xn]
 first
  | exact Jo (m:=LB _) (Ks (Ju #[_,rfl,Ju h]) htake)
  | exact Jo (m:=LB _) (Ks (Jo (Ju (Ju #[_,rfl,Ju h]))) htake)
  | exact Jo (Jo (m:=LB _) (Ks (Ju (Ju #[_,rfl,Ju h])) htake))
  | exact Jo (Jo (m:=LB _) (Ks (Ju #[_,rfl,Ju h]) htake))
end
end HT
namespace L2
open PySem PySem.Spec PyProof.Rows
noncomputable abbrev TO:=St->Hp->(Jw JI->Hp->Prop)->Prop
abbrev PO (X:Cx)(e:Jw J2)(t:TO):Prop:=
 ∀(J:Jn (Jz×Lr)) (s:Jt) (Y:St) (H:Hp) (Q:Jw JI->Hp->Prop),Inv X J Y H s->t Y H Q->
  wpAny (model X.prog X.w) X.A (evalPart e X.env) (λu s'=>∃o H',Inv X J Y H' s'/\On u o/\Q o H') X.xe s
abbrev AH:TO:=λ_ H Q=>Q gV H
abbrev FB (t:TE):TO:=λY H Q=>t Y H λx H1=>∃i,x=.int i/\Q (ba i) H1
section
variable{X:Cx}{e:J2}{te:TE}{lo hi:Jw J2}{tl th:TO}{pos p2:Mk}
def AI:PO X gV AH:=by
 intro J s Y H Q I h;rw[R7];exact Ju #[gV,H,I,.none,h]
def AJ (h:PE X e te):PO X (ba e) (FB te):=by
 intro J s Y H Q I hw;rw[evalPart_some];show bx (h J s Y H _ I hw) λu s1 #[x,H1,I1,r1,q1]=>?_
 obtain⟨i,rfl,q⟩:=q1;obtain⟨t,rfl⟩:=r1;exact#[ba i,H1,I1,.int i t,q]
abbrev FC (X:Cx)(r:V->Jw JI->Jw JI->Hp->VK->Prop):Prop:=
 ∀(J:Jn (Jz×Lr)) (s:Jt) (Y:St) (H:Hp) (x:V) (v vl vu:Jr) (lo hi:Jw JI) (sl:Jz) (Q:VK),Inv X J Y H s->RelV x v->s.heap.IsSliceOf sl vl vu .none->On vl lo->On vu hi->r x lo hi H Q->
  ∃T id,typeLookup (.type T) "__getitem__" = pure (ba (.builtin id))/\s.TypeIs v T/\wpAny (model X.prog X.w) X.A (getItem v (.ref sl)) (EP X J Y Q) X.xe s
abbrev Jf (r:V->Jw JI->Jw JI->Hp->VK->Prop)(te:TE)(tl th:TO):TE:=λY H Q=>te Y H λx H1=>tl Y H1 λl H2=>th Y H2 λu H3=>r x l u H3 Q
def xo {r:V->Jw JI->Jw JI->Hp->VK->Prop}(hr:FC X r)(he:PE X e te)(hl:PO X lo tl)(hu:PO X hi th):PE X (.Subscript e (.Slice lo hi gV p2) pos) (Jf r te tl th):=by
 intro J s Y H Q I h;show Subscript_ (bx (he J s Y H _ I h) λv s1 #[x,H1,I1,r1,q1]=>?_)
 show wpAny_Slice (bx (hl J s1 Y H1 _ I1 q1) λvl s2 #[l,H2,I2,pl,q2]=>bx (hu J s2 Y H2 _ I2 q2) λvu s3 #[u,H3,I3,pu,q3]=>?_)
 rw[R7];show Ju ?_;have I4:Inv X J Y H3 { s3 with heap:=s3.heap.push { cls:=.type "slice",data:=.fields [vl,vu,.none].toArray } }:=I3.kept (t':=s3.toks) λb ob q=>Jq _ q
 obtain⟨T,id,hT,ht,hg⟩:=hr J { s3 with heap:=s3.heap.push { cls:=.type "slice",data:=.fields [vl,vu,.none].toArray } } Y H3 x v vl vu l u s3.heap.objs.size Q I4 r1 (Tn ..) pl pu q3
 change wpAny (model X.prog X.w) X.A (subscriptTail e (.Slice lo hi gV p2) v (.ref s3.heap.objs.size)) (EP X J Y Q) X.xe { s3 with heap:=s3.heap.push { cls:=.type "slice",data:=.fields [vl,vu,.none].toArray } }
 exact tail_any (ops:=[.ref s3.heap.objs.size,v]) ht hT hg (by with_unfolding_all rfl)
abbrev kE (xs:Jn V)(lo hi:Jw JI):Jn V:=(xs.drop (HT.cx xs.length 0 lo)).take (HT.cx xs.length xs.length hi - HT.cx xs.length 0 lo)
def jJ (xs:Jn V)(lo hi:Jw JI):(kE xs lo hi).length<=xs.length:=by
 unfold kE;rw[Kn,Nc];omega
abbrev HJ (K:JE):V->Jw JI->Jw JI->Hp->VK->Prop:=λx lo hi H Q=>∃a xs,x=.ref a/\SqT K H a xs/\
 ¬ (HT.cx xs.length 0 lo=0/\HT.cx xs.length xs.length hi=xs.length)/\∀p,H p=gV->Q (.ref p) (bv H p (.tup (kE xs lo hi)))
def DI:FC X (HJ X.K):=by
 intro J s Y H x v vl vu lo hi sl Q I rx hs pl pu h;obtain⟨a,xs,rfl,hx,hw,q⟩:=h;cases rx;obtain⟨its,r,ht,hz⟩:=I.tuple hx;have hlen:its.toArray.size=xs.length:=by rw[JM]; exact r.length.symm
 show#["tuple",_,PyProof.Rows.slot_tuple_getitem.lookup,ht.typeIs,?_];show HT.iJ ht hs pl pu (by rw[hlen]; exact hw) ?_ (by rw[hlen]; exact hz)
 rw[hlen];show#[.ref s.heap.objs.size,_,I.laid (t':=s.toks) (o:=.tup (kE xs lo hi)) (λb ob q=>Jq _ q) (JA _) ?_,rfl,q _ (I.hok.fresh (JA _))]
 exact#[J6 (jJ xs lo hi) hz,_,(r.drop (HT.cx xs.length 0 lo)).take (HT.cx xs.length xs.length hi - HT.cx xs.length 0 lo),QU _ _]
def Vals.nil_iff {xs:Jn V}{us:Jn Jr}(r:Vals xs us):us=[]↔xs=[]:=by
 cases r with
 | nil=>simp
 | cons _ _=>simp
end
abbrev sZ (n:Jx)(i:JI):Jw Jx:=if 0<=i then(if i < n then ba i.toNat else gV)else if -(n:JI)<=i then ba (i+n).toNat else gV
abbrev pd {α:Type}(xs:Jn α)(i:JI):Jw α:=(sZ xs.length i).bind λj=>xs[j]?
def tf {n:Jx}{i:JI}{j:Jx}(h:sZ n i=ba j):seqIndex? i n=ba j/\j < n/\-(n:JI)<=i/\i < n:=by
 unfold sZ at h
 by_cases h0:0<=i
 ·rw[JX h0]at h
  by_cases h1:i < n
  ·rw[JX h1]at h;have e:i.toNat=j:=KQ h;exact#[by rw[Rl h0 h1,e],∅,∅,h1]
  ·rw[J8 h1]at h; cases h
 ·rw[J8 h0]at h
  by_cases h1 : -(n:JI)<=i
  ·rw[JX h1]at h;have e:(i+n).toNat=j:=KQ h;exact#[by rw[Qz ∅ h1,e],∅,h1,∅]
  ·rw[J8 h1]at h; cases h
def nG {α:Type}{xs:Jn α}{i:JI}{v:α}(h:pd xs i=ba v):∃j,seqIndex? i xs.length=ba j/\xs[j]?=ba v/\j < xs.length/\-(xs.length:JI)<=i/\i < xs.length:=by
 unfold pd at h;cases e:sZ xs.length i with
 | none=>rw[e]at h; cases h
 | some j=>
  rw[e]at h;obtain⟨h1,h2,h3,h4⟩:=tf e;exact#[j,h1,h,h2,h3,h4]
def atI_nat {α:Type}{xs:Jn α}{j:Jx}{v:α}(h:xs[j]?=ba v):pd xs (j:JI)=ba v:=by
 have hj:j < xs.length:=(JD.mp h).1;have e:sZ xs.length (j:JI)=ba j:=by
  unfold sZ;rw[JX ∅,JX ∅]; simp
 unfold pd; rw[e]; exact h
abbrev nH (b:J2):Prop:=∀o i,subscripted b false o i=operate [o,i] (getItem o i)
abbrev IxR (X:Cx)(r:R2):Prop:=
 ∀(value slice:J2) (J:Jn (Jz×Lr)) (s:Jt) (Y:St) (H:Hp) (x y:V) (v u:Jr) (Q:VK),Inv X J Y H s->RelV x v->RelV y u->r x y H Q->
  subscripted slice false v u=operate [v,u] (getItem v u)->wpAny (model X.prog X.w) X.A (subscriptTail value slice v u) (EP X J Y Q) X.xe s
abbrev MtR (X:Cx)(id:Lf)(r:V->Jn V->Hp->VK->Prop):Prop:=
 ∀(J:Jn (Jz×Lr)) (s:Jt) (Y:St) (H:Hp) (x:V) (xs:Jn V) (v:Jr) (us:Jn Jr) (Q:VK),Inv X J Y H s->RelV x v->Vals xs us->r x xs H Q->
  wpAny (model X.prog X.w) X.A (call (.builtin id) (v::us)) (EP X J Y Q) X.xe s
section
variable{X:Cx}{a b:J2}{ta tb:TE}{pos:Mk}
def FD {r:R2}(hr:IxR X r)(ha:PE X a ta)(hb:PE X b tb)(hs:nH b):PE X (.Subscript a b pos) (Hb r ta tb):=by
 intro J s Y H Q I h;exact Subscript_ (Dv ha hb I h λv u s2 x y H2 I2 rx ry q=>hr a b J s2 Y H2 x y v u Q I2 rx ry q (hs _ _))
abbrev HK (K:JE):R2:=λx y H Q=>∃p xs i v,x=.ref p/\y=.int i/\SqL K H p xs/\pd xs i=ba v/\Q v H
abbrev HL (K:JE):R2:=λx y H Q=>∃p xs i v,x=.ref p/\y=.int i/\SqT K H p xs/\pd xs i=ba v/\Q v H
abbrev HM:R2:=λx y H Q=>∃z i c,x=.str z/\y=.int i/\z.length<=sizeLine/\pd z.cps.toList i=ba c/\Q (.str #[[c].toArray]) H
def AK:IxR X (HK X.K):=by
 intro value slice J s Y H x y v u Q I rx ry h hs;obtain⟨p,xs,i,z,rfl,rfl,hq,he,q⟩:=h;cases rx;obtain⟨t,rfl⟩:=ry;obtain⟨its,r,pl,hz⟩:=I.list hq;obtain⟨j,h1,h2,h3,h4,h5⟩:=nG he;obtain⟨w,ew,rw'⟩:=r.get h2;have hl:=r.length;have hn:=ji;have fin:EP X J Y Q w s:=#[z,H,I,rw',q]
 by_cases h0:0<=i
 ·have hj:i.toNat=j:=by
   rw[Rl h0 h5]at h1;exact KQ h1
  exact item_listR pl.isList h0 ∅ (by rw[hj]; simpa using ew) fin hs
 ·have hj:(i+(its.toArray.size:JI)).toNat=j:=by
   rw[Qz ∅ h4]at h1
   rw[JM,<- hl];exact KQ h1
  exact NG (x:=w) pl.isList.typeIs slot_list_getitem.lookup
   (wpAny_getItem_list_neg (Q:=λr s'=>r=w/\EP X J Y Q r s') pl.isList ∅ (by rw[JM] <;> omega) ∅ (by rw[hj]; simpa using ew) #[rfl,fin]) hs
def DJ:IxR X (HL X.K):=by
 intro value slice J s Y H x y v u Q I rx ry h hs;obtain⟨p,xs,i,z,rfl,rfl,hq,he,q⟩:=h;cases rx;obtain⟨t,rfl⟩:=ry;obtain⟨its,r,pl,hz⟩:=I.tuple hq;obtain⟨j,h1,h2,h3,h4,h5⟩:=nG he;obtain⟨w,ew,rw'⟩:=r.get h2;have hl:=r.length;have hn:=ji;have fin:EP X J Y Q w s:=#[z,H,I,rw',q];exact NG (x:=w) pl.typeIs slot_tuple_getitem.lookup
  (getItem_tuple (j:=j) (Q:=λr s'=>r=w/\EP X J Y Q r s') pl ∅ ∅ (by rw[JM,<- hl]; exact h1) (by simpa using ew) #[rfl,fin]) hs
def DK:IxR X HM:=by
 intro value slice J s Y H x y v u Q I rx ry h hs;obtain⟨z,i,c,rfl,rfl,hz,he,q⟩:=h;obtain⟨t,rfl⟩:=rx;obtain⟨t',rfl⟩:=ry;obtain⟨j,h1,h2,h3,h4,h5⟩:=nG he;have hl:z.cps.toList.length=z.length:=by simp[To]
 rw[hl]at h1 h4 h5;have hn:=ji;exact tail_any (typeIs_str s z t) slot_str_getitem.lookup (getItem_str (c:=c) (by
  have e1:decide (i < -(2 ^ 63:JI))=false:=Kl ∅
  have e2:decide (i>=2 ^ 63)=false:=Kl ∅
  rw[e1,e2,P9]) (by rw[h1]; simpa using h2) #[.str #[[c].toArray],H,I.tok _,#[_,rfl],q]) hs
def rR (its:Jn Jr)(n j:Jx)(u:Jr):Lh (·.setIfInBounds j u) { cls:=.type "list",data:=.seq its.toArray n }={ cls:=.type "list",data:=.seq (its.set j u).toArray n }:=by
 simp[Lh]
def Inv.lst {J:Jn (Jz×Lr)}{Y:St}{H:Hp}{s:Jt}{p:Jz}{xs:Jn V}(I:Inv X J Y H s)(h:H p=ba (.lst xs)) :
  ∃(its:Jn Jr) (n:Jx),Vals xs its/\s.heap.get? p=ba { cls:=.type "list",data:=.seq its.toArray n }/\xs.length<=sizeLine:=by
 obtain⟨z,its,n,r,e⟩:=I.hok p _ h;exact#[its,n,r,e,z]
def Inv.lstUpd {J:Jn (Jz×Lr)}{Y:St}{H:Hp}{s:Jt}{p:Jz}{xs ys:Jn V}{its its':Jn Jr}{n n':Jx}{f:Lr->Lr}(I:Inv X J Y H s)(h:H p=ba (.lst xs))
  (ho:s.heap.get? p=ba { cls:=.type "list",data:=.seq its.toArray n }) (hf:f { cls:=.type "list",data:=.seq its.toArray n }={ cls:=.type "list",data:=.seq its'.toArray n' }) (r:Vals ys its') (hz:ys.length<=sizeLine) (t:Jx) :
  Inv X J Y (bv H p (.lst ys)) { s with heap:=s.heap.update p f,toks:=t }:=by
 have e:(s.heap.update p f).get? p=ba { cls:=.type "list",data:=.seq its'.toArray n' }:=by
  rw[Ln f ho (by rw[hf] <;> rfl),hf]
 show I.write (x:=p) (e:=p) (by rw[h]; trivial) (.inl rfl) (λb u hb q=>(Kw _ _ (Ne.symm hb)).trans q) #[_,e] ?_
 exact#[hz,its',n',r,e]
abbrev FH:V->V->V->Hp->(Hp->Prop)->Prop:=λo i v H Q=>∃p xs k j,o=.ref p/\i=.int k/\H p=ba (.lst xs)/\sZ xs.length k=ba j/\Q (bv H p (.lst (xs.set j v)))
def xp:Do X FH:=by
 intro J s Y H o i v ov iv u Q I ro ri rv h;obtain⟨p,xs,k,j,rfl,rfl,hp,hj,q⟩:=h;cases ro;obtain⟨t,rfl⟩:=ri;obtain⟨its,n,r,ho,hz⟩:=I.lst hp;obtain⟨h1,h2,h3,h4⟩:=tf hj;have hl:=r.length;have hn:=ji;have I':Inv X J Y (bv H p (.lst (xs.set j v))) { s with heap:=s.heap.update p (Lh (·.setIfInBounds j u)) }:=
  I.lstUpd hp ho (rR its n j u) (r.set rv j) (by rw[List.length_set]; exact hz) s.toks
 by_cases h0:0<=k
 ·have hk:k.toNat=j:=by
   rw[Rl h0 h4]at h1;exact KQ h1
  exact PySem.W.ki_setAt ho h0 ∅ (by rw[JM,<- hl]; exact h4) (by rw[hk]; exact#[_,I',q])
 ·have hk:(k+(its.toArray.size:JI)).toNat=j:=by
   rw[Qz ∅ h3]at h1
   rw[JM,<- hl];exact KQ h1
  exact PySem.W.ki_setBack ho ∅ (by rw[JM,<- hl]; exact h3) ∅ (by rw[hk]; exact#[_,I',q])
def nI (lo hi:Jw JI)(n:Jx):(sliceBounds lo hi gV n).1=((HT.cx n 0 lo:Jx):JI)/\(sliceBounds lo hi gV n).2.1=((HT.cx n n hi:Jx):JI)/\(sliceBounds lo hi gV n).2.2=1:=by
 show#[?_,?_,rfl]
 ·cases lo with
  | none=>simp[sliceBounds,HT.cx]
  | some i=>
   simp only[sliceBounds,HT.cx,QY,show(1:JI) > 0 by decide,Lp]
   by_cases h:i < 0
   ·simp only[h,Lp] <;> omega
   ·simp only[h,KZ] <;> omega
 ·cases hi with
  | none=>simp[sliceBounds,HT.cx]
  | some i=>
   simp only[sliceBounds,HT.cx,QY,show(1:JI) > 0 by decide,Lp]
   by_cases h:i < 0
   ·simp only[h,Lp] <;> omega
   ·simp only[h,KZ] <;> omega
def lX (its:Jn Jr)(lo hi:Jw JI):slicePick its.toArray lo hi gV=((its.drop (HT.cx its.length 0 lo)).take (HT.cx its.length its.length hi - HT.cx its.length 0 lo)).toArray:=by
 obtain⟨h1,h2,h3⟩:=nI lo hi its.toArray.size;unfold slicePick;rw[h1,h2,h3];simp only[sliceRange_one,pick_run,JM] <;> rfl
abbrev HN (K:JE):V->Jw JI->Jw JI->Hp->VK->Prop:=λx lo hi H Q=>∃a xs,x=.ref a/\SqL K H a xs/\∀p,H p=gV->Q (.ref p) (bv H p (.lst (kE xs lo hi)))
def AL:FC X (HN X.K):=by
 intro J s Y H x v vl vu lo hi sl Q I rx hs pl pu h;obtain⟨a,xs,rfl,hx,q⟩:=h;cases rx;obtain⟨its,r,ht,hz⟩:=I.list hx;have hlen:=r.length;show#["list",_,slot_list_getitem.lookup,ht.isList.typeIs,?_];show wpAny_getItem_list_slice ht.isList hs pl pu .none (by simp) ?_ (by rw[JM] <;> omega)
 rw[lX,<- hlen];show#[.ref s.heap.objs.size,_,I.laid (t':=s.toks) (o:=.lst (kE xs lo hi)) (λb ob q=>Jq _ q) (JA _) ?_,rfl,q _ (I.hok.fresh (JA _))]
 exact#[J6 (jJ xs lo hi) hz,_,0,(r.drop (HT.cx xs.length 0 lo)).take (HT.cx xs.length xs.length hi - HT.cx xs.length 0 lo),JH _ rfl]
abbrev gY:V->J3
 | .non=>true
 | .bl _=>true
 | .int _=>true
 | .str _=>true
 | _=>false
abbrev AM:V->V->J3
 | .non,.non=>true
 | .bl a,.bl b=>a==b
 | .bl a,.int b=>(if a then 1 else 0)==b
 | .int a,.bl b=>a==(if b then 1 else 0)
 | .int a,.int b=>a==b
 | .str a,.str b=>a==b
 | _,_=>false
def DL {A:Ki}{s:Jt}{y x:V}{u v:Jr}(ry:RelV y u)(rx:RelV x v)(fy:gY y=true)(fx:gY x=true):NV A s u v (AM y x):=by
 cases y with
 | non=>
  cases ry;cases x with
  | non=>cases rx; exact TN _
  | bl b=>cases rx; exact SR b
  | int b=>obtain⟨t,rfl⟩:=rx; exact Tc b t
  | str b=>obtain⟨t,rfl⟩:=rx; exact Td b t
  | _=>exact absurd (show false=true from fx) J1
 | bl a=>
  cases ry;cases x with
  | non=>cases rx; exact SS a
  | bl b=>cases rx; exact SU a b
  | int b=>obtain⟨t,rfl⟩:=rx; exact Te a b t
  | str b=>obtain⟨t,rfl⟩:=rx; exact Tf a b t
  | _=>exact absurd (show false=true from fx) J1
 | int a=>
  obtain⟨t',rfl⟩:=ry;cases x with
  | non=>cases rx; exact Th a t'
  | bl b=>cases rx; exact Ti a t' b
  | int b=>obtain⟨t,rfl⟩:=rx; exact Tp a t' b t
  | str b=>obtain⟨t,rfl⟩:=rx; exact Qd a t' b t
  | _=>exact absurd (show false=true from fx) J1
 | str a=>
  obtain⟨t',rfl⟩:=ry;cases x with
  | non=>cases rx; exact Tj a t'
  | bl b=>cases rx; exact Tk a t' b
  | int b=>obtain⟨t,rfl⟩:=rx; exact Qe a t' b t
  | str b=>obtain⟨t,rfl⟩:=rx; exact Tq a t' b t
  | _=>exact absurd (show false=true from fx) J1
 | _=>exact absurd (show false=true from fy) J1
abbrev rS (x:V)(u:Jr):J3:=match u with
 | .none=>AM .non x
 | .bool b=>AM (.bl b) x
 | .int i _=>AM (.int i) x
 | .str z _=>AM (.str z) x
 | _=>false
def xq {x y:V}{u:Jr}(r:RelV y u)(f:gY y=true):rS x u=AM y x:=by
 cases y with
 | non=>cases r; rfl
 | bl b=>cases r; rfl
 | int i=>obtain⟨t,rfl⟩:=r; rfl
 | str z=>obtain⟨t,rfl⟩:=r; rfl
 | _=>exact absurd (show false=true from f) J1
def iK {x:V}:∀ {xs:Jn V} {us:Jn Jr},Vals xs us->xs.all gY=true->us.any (rS x)=xs.any λy=>AM y x
 | _,_,.nil,_=>rfl
 | y::xs,u::us,.cons r t,f=>by
  rw[KL,Jv]at f;rw[L9,L9,xq r f.1,iK t f.2]
def fR {A:Ki}{s:Jt}{x:V}{v:Jr}(rx:RelV x v)(fx:gY x=true):∀ {xs:Jn V} {us:Jn Jr},Vals xs us->xs.all gY=true->∀u∈us,NV A s u v (rS x u)
 | _,_,.nil,_=>λu hu=>by cases hu
 | y::xs,u::us,.cons r t,f=>λu' hu=>by
  rw[KL,Jv]at f;rcases JR.mp hu with rfl|hu
  ·rw[xq r f.1]; exact DL r rx f.1 fx
  ·exact fR rx fx t f.2 u' hu
abbrev Hd (x:V)(xs:Jn V):J3:=xs.any λy=>AM y x
abbrev HP (K:JE)(neg:J3):R2:=λx y H Q=>∃p xs,y=.ref p/\(SqL K H p xs\/SqT K H p xs)/\gY x=true/\xs.all gY=true/\Q (.bl (if neg then !Hd x xs else Hd x xs)) H
def vd:OpR X (compareOp .In) (HP X.K false):=by
 intro J s Y H x y v u Q I rx ry h;obtain⟨p,xs,rfl,hq,fx,fs,q⟩:=h;cases ry;rcases hq with hq|hq
 ·obtain⟨its,r,pl,hz⟩:=I.list hq;show Ru (rS x) pl.isList (λw hw=>fR rx fx r fs w (by simpa using hw)) #[.bl _,H,I,rfl,?_]
  rw[show its.toArray.any (rS x)=its.any (rS x) by simp,iK r fs]
  exact q
 ·obtain⟨its,r,pl,hz⟩:=I.tuple hq;show QZ (rS x) pl (λw hw=>fR rx fx r fs w (by simpa using hw)) #[.bl _,H,I,rfl,?_]
  rw[show its.toArray.any (rS x)=its.any (rS x) by simp,iK r fs]
  exact q
def nJ:OpR X (compareOp .NotIn) (HP X.K true):=by
 intro J s Y H x y v u Q I rx ry h;obtain⟨p,xs,rfl,hq,fx,fs,q⟩:=h;cases ry;rcases hq with hq|hq
 ·obtain⟨its,r,pl,hz⟩:=I.list hq;show Qj (rS x) pl.isList (λw hw=>fR rx fx r fs w (by simpa using hw)) #[.bl _,H,I,rfl,?_]
  rw[show its.toArray.any (rS x)=its.any (rS x) by simp,iK r fs]
  exact q
 ·obtain⟨its,r,pl,hz⟩:=I.tuple hq;show SeqAt.notIn_tupleAt (rS x) pl (λw hw=>fR rx fx r fs w (by simpa using hw)) #[.bl _,H,I,rfl,?_]
  rw[show its.toArray.any (rS x)=its.any (rS x) by simp,iK r fs]
  exact q
def nK:CallR X (.type "list") (λxs H Q=>∃p ys,xs=[.ref p]/\(SqL X.K H p ys\/SqT X.K H p ys)/\∀l,H l=gV->Q (.ref l) (bv H l (.lst ys))):=by
 intro J s Y H xs us Q I r h;obtain⟨p,ys,rfl,hq,q⟩:=h;obtain⟨u,rfl,rx⟩:=mh r;cases rx;have fin:∀(its:Jn Jr),Vals ys its->ys.length<=sizeLine->∀(h':Kv) (c':Jx),(∀b o',s.heap.get? b=ba o'->h'.get? b=ba o')->
   h'.get? s.heap.objs.size=ba { cls:=.type "list",dict:=gV,data:=.seq its.toArray c',slots:=#[] }->EP X J Y Q (.ref s.heap.objs.size) { s with heap:=h' }:=λits r' hz h' c' kp e=>
  #[.ref s.heap.objs.size,_,I.laid (t':=s.toks) kp (JA _) (show ObjOk X.prog X.w _ h' _ (.lst ys)from#[hz,its,c',r',e]),rfl,q _ (I.hok.fresh (JA _))]
 rcases hq with hq|hq
 ·obtain⟨its,r',pl,hz⟩:=I.list hq;have hlen:=r'.length;obtain⟨o,ho,hc,n,hd⟩:=pl.isList;exact R8 p (.inl rfl) ho hc hd (λh' c' kp e=>fin its r' hz h' c' kp e) (by simp only[JM] <;> omega)
 ·obtain⟨its,r',pl,hz⟩:=I.tuple hq;have hlen:=r'.length;obtain⟨o,ho,hc,n,hd⟩:=pl;exact R8 p (.inr rfl) ho hc hd (λh' c' kp e=>fin its r' hz h' c' kp e) (by simp only[JM] <;> omega)
def gZ:CallR X (.type "tuple") (λxs H Q=>∃p ys,xs=[.ref p]/\((SqL X.K H p ys/\∀l,H l=gV->Q (.ref l) (bv H l (.tup ys)))\/(SqT X.K H p ys/\Q (.ref p) H))):=by
 intro J s Y H xs us Q I r h;obtain⟨p,ys,rfl,h⟩:=h;obtain⟨u,rfl,rx⟩:=mh r;cases rx;rcases h with⟨hq,q⟩|⟨hq,q⟩
 ·obtain⟨its,r',pl,hz⟩:=I.list hq;have hlen:=r'.length;show call_tuple_list pl.isList (λh' kp=>?_) (by simp only[JM] <;> omega)
  have I1:Inv X J Y H { s with heap:=h' }:=I.kept (t':=s.toks) kp
  have I2:Inv X J Y (bv H h'.objs.size (.tup ys)) { s with heap:=h'.push { cls:=.type "tuple",data:=.seq its.toArray } }:=
   I1.laid (t':=s.toks) (λb o e=>Jq _ e) (JA _) (show ObjOk X.prog X.w _ _ _ (.tup ys)from#[hz,its,r',QU _ _])
  exact#[.ref h'.objs.size,_,I2,rfl,q _ (I1.hok.fresh (JA _))]
 ·obtain⟨its,r',pl,hz⟩:=I.tuple hq;exact call_tuple_same pl #[.ref p,H,I,rfl,q]
abbrev HQ (K:JE)(T:Lf)(x:V)(H:Hp):Prop:=match x with
 | .str _=>T = "str"
 | .int _=>T = "int"
 | .ref p=>(T = "list"/\∃xs,SqL K H p xs)\/(T = "tuple"/\∃o,K.lookup p=ba o/\o.cls=.type "tuple"/\o.dict=gV)\/
   (T = "dict"/\((∃U,H p=ba (.dK U))\/∃U,H p=ba (.dT U)))\/(T = "set"/\∃S n,H p=ba (.set S n))
 | _=>K5
def xr {J:Jn (Jz×Lr)}{Y:St}{H:Hp}{s:Jt}{T:Lf}{x:V}{v:Jr}(I:Inv X J Y H s)(r:RelV x v)(ty:HQ X.K T x H) :
  s.TypeIs v T/\∀a,v=.ref a->∃ob,s.heap.get? a=ba ob/\ob.dict=gV:=by
 cases x with
 | str z=>
  obtain⟨t,rfl⟩:=r;cases(show T = "str" from ty)
  exact#[typeIs_str s z t,λ_ e=>nomatch e]
 | int i=>
  obtain⟨t,rfl⟩:=r;cases(show T = "int" from ty)
  exact#[RJ s i t,λ_ e=>nomatch e]
 | ref p=>
  cases r;rcases ty with⟨rfl,xs,hq⟩|⟨rfl,o,hk,hc,hd⟩|⟨rfl,hk⟩|⟨rfl,S,n,hk⟩
  ·obtain⟨its,_,pl,_⟩:=I.list hq;show#[pl.isList.typeIs,λa e=>?_]
   cases e;obtain⟨o,n,e,c,hd,_⟩:=pl;exact#[o,e,hd]
  ·show#[#[o,I.kIn p o hk,hc],λa e=>?_]
   cases e;exact#[o,I.kIn _ o hk,hd]
  ·have z:∃o,s.heap.get? p=ba o/\o.ExactDict:=by
    rcases hk with⟨U,hk⟩|⟨U,hk⟩
    ·obtain⟨_,_,_,_,o,_,_,e,ex,_⟩:=I.hok p _ hk;exact#[o,e,ex]
    ·obtain⟨_,_,_,_,o,_,_,e,ex,_⟩:=I.hok p _ hk;exact#[o,e,ex]
   obtain⟨o,e,ex⟩:=z;show#[#[o,e,ex.1],λa e2=>?_]
   cases e2;exact#[o,e,ex.2.1]
  ·obtain⟨o,_,_,_,e,ex,_⟩:=I.hok p _ hk;show#[#[o,e,ex.1],λa e2=>?_]
   cases e2;exact#[o,e,ex.2.1]
 | _=>exact K5.elim ty
variable{o e:J2}{es:Jn J2}{to:TE}{t:TA}{name:JS}{apos cpos:Mk}{T id:Lf}{r:V->Jn V->Hp->VK->Prop}
end
abbrev HR (X:Cx)(id:Lf)(r:V->Jn V->Hp->VK->Prop):Prop:=
 ∀(J:Jn (Jz×Lr)) (s:Jt) (Y:St) (H:Hp) (x:V) (xs:Jn V) (v:Jr) (us:Jn Jr) (Q:VK),Inv X J Y H s->RelV x v->Vals xs us->r x xs H Q->
  wpAny (model X.prog X.w) X.A (call (.builtin id) (v::us)) (EP X J Y Q) X.xe s
def Vals.one:∀ {x:V} {us:Jn Jr},Vals [x] us->∃u,us=[u]/\RelV x u
 | _,_,.cons r .nil=>#[_,rfl,r]
def Vals.eraseIdx:∀ {xs:Jn V} {us:Jn Jr} (i:Jx),Vals xs us->Vals (xs.eraseIdx i) (us.eraseIdx i)
 | _,_,_,.nil=>.nil
 | _,_,0,.cons _ t=>t
 | _,_,i+1,.cons r t=>.cons r (Vals.eraseIdx i t)
def Vals.rep {xs:Jn V}{us:Jn Jr}(h:Vals xs us):∀k:Jx,Vals (Km k xs).flatten (Km k us).flatten
 | 0=>.nil
 | k+1=>by
  rw[Ly,Ly,Mr,Mr];exact Vals.append h (Vals.rep h k)
def mx {α:Type}:∀(l:Jn α) (i:Jx),(l.eraseIdx i).length<=l.length
 | [],_=>JA _
 | _::_,0=>Ma _
 | _::r,i+1=>NW (mx r i)
def my (its:Jn Jr):∀(k:Jx) (acc:Jn Jr),
  RK (λx1 x2=>x1++x2) acc.toArray (Km k its.toArray)=(acc++(Km k its).flatten).toArray
 | 0,acc=>by simp
 | k+1,acc=>by
  have e:acc.toArray++its.toArray=(acc++its).toArray:=by simp
  have e2:(acc++its)++(Km k its).flatten=acc++(Km (k+1) its).flatten:=by
   rw[Ly,Mr,Lz]
  rw[<- e2,<- my its k (acc++its),<- e,Ly,List.foldl_cons]
section
variable{X:Cx}{J:Jn (Jz×Lr)}{Y:St}{H:Hp}{s:Jt}{l b:Jz}{xs ys zs:Jn V}
def Inv.lset {its its':Jn Jr}{n:Jx}{f:J7 Jr->J7 Jr}{t':Jx}(I:Inv X J Y H s)(hH:H l=ba (.lst xs))
  (e:s.heap.get? l=ba { cls:=.type "list",data:=.seq its.toArray n }) (hf:f its.toArray=its'.toArray) (hv:Vals ys its') (hz:ys.length<=sizeLine) :
  Inv X J Y (bv H l (.lst ys)) { s with heap:=s.heap.update l (Lh f),toks:=t' }:=by
 have q:=Q1 e f;rw[hf]at q;show I.write (x:=l) (e:=l) (by rw[hH]; exact trivial) (.inl rfl) (λb' u hb hu=>(Kw s.heap (Lh f) (Ne.symm hb)).trans hu) #[_,q] ?_
 exact#[hz,its',_,hv,q]
def Inv.lnew {its:Jn Jr}{t':Jx}(I:Inv X J Y H s)(hv:Vals ys its)(hz:ys.length<=sizeLine) :
  Inv X J Y (bv H s.heap.objs.size (.lst ys)) { s with heap:=s.heap.push { cls:=.type "list",data:=.seq its.toArray },toks:=t' }:=
 I.laid (λ_ _ q=>Jq _ q) (JA _) #[hz,its,0,hv,JH _ rfl]
def Inv.fresh (I:Inv X J Y H s):H s.heap.objs.size=gV:=I.hok.fresh (JA _)
def Inv.lstM (I:Inv X J Y H s)(hH:H l=ba (.lst xs)):xs.length<=sizeLine/\∃(its:Jn Jr) (n:Jx),Vals xs its/\xs.length=its.length/\s.heap.get? l=ba { cls:=.type "list",data:=.seq its.toArray n }:=by
 obtain⟨z,its,n,r,e⟩:=I.hok l _ hH;exact#[z,its,n,r,r.length,e]
def pe {n:Jx}(h:n<=sizeLine):Mt n=false:=by
 unfold Mt;exact Kl ∅
end
section
variable{X:Cx}
abbrev AN:V->Jn V->Hp->VK->Prop:=λx vs H Q=>∃l xs y,x=.ref l/\vs=[y]/\H l=ba (.lst xs)/\xs.length < sizeLine/\Q .non (bv H l (.lst (xs++[y])))
def ve:HR X "list.append" AN:=by
 intro J s Y H x vs v us Q I rx rv h;obtain⟨l,xs,y,rfl,rfl,hH,hz,q⟩:=h;cases rx;obtain⟨u,rfl,ru⟩:=rv.one;obtain⟨z,its,n,r,hl,e⟩:=I.lstM hH;show Op F.slot_list_append #[_,e,rfl] F.entry_list_append (F.args_list_append_2 _ _) (QA l its.toArray n u (by rw[JM]; omega)) #[e,?_]
 show#[.non,_,I.lset (its':=its++[u]) hH e (by simp) (r.append #v[ru]) ?_,rfl,q]
 rw[JC,KD];omega
abbrev AO:V->Jn V->Hp->VK->Prop:=λx vs H Q=>∃l b xs zs,x=.ref l/\vs=[.ref b]/\H l=ba (.lst xs)/\H b=ba (.lst zs)/\xs.length+zs.length<=sizeLine/\Q .non (bv H l (.lst (xs++zs)))
def vf:HR X "list.extend" AO:=by
 intro J s Y H x vs v us Q I rx rv h;obtain⟨l,b,xs,zs,rfl,rfl,hH,hB,hz,q⟩:=h;cases rx;obtain⟨u,rfl,ru⟩:=rv.one;cases ru;obtain⟨z,its,n,r,hl,e⟩:=I.lstM hH;obtain⟨z2,its2,n2,r2,hl2,e2⟩:=I.lstM hB;have hsz:its.toArray.size+its2.toArray.size<=sizeLine:=by rw[JM,JM]; omega
 have hlong:¬ (!its.toArray.isEmpty&&Mt (its.toArray.size+its2.toArray.size))=true:=by
  rw[pe hsz,Oq];exact J1
 show Op F.slot_list_extend #[_,e,rfl] F.entry_list_extend (F.args_list_extend_2 _ _)
  (QC l its.toArray n b its2.toArray n2 hlong (by rw[JM]; omega) ∅) #[e,e2,?_]
 show#[.non,_,I.lset (its':=its++its2) hH e (by simp) (r.append r2) ?_,rfl,q]
 rw[JC];omega
abbrev DM:V->Jn V->Hp->VK->Prop:=λx vs H Q=>∃l xs i k y,x=.ref l/\vs=[.int i]/\H l=ba (.lst xs)/\-(2 ^ 63)<=i/\i < 2 ^ 63/\seqIndex? i xs.length=ba k/\xs[k]?=ba y/\Q y (bv H l (.lst (xs.eraseIdx k)))
def xt:HR X "list.pop" DM:=by
 intro J s Y H x vs v us Q I rx rv h;obtain⟨l,xs,i,k,y,rfl,rfl,hH,h1,h2,hk,hy,q⟩:=h;cases rx;obtain⟨u,rfl,ru⟩:=rv.one;obtain⟨t,rfl⟩:=ru;obtain⟨z,its,n,r,hl,e⟩:=I.lstM hH;obtain⟨w,hw,rw'⟩:=r.get hy;show Op F.slot_list_pop #[_,e,rfl] F.entry_list_pop (F.args_list_pop_2 _ _)
  (SV l its.toArray n i t k w (RL h1 h2) (by rw[JM,<- hl]; exact hk) (by rw[<- K9]; exact hw) (by rw[JM]; omega)) #[e,?_]
 show#[y,_,I.lset (its':=its.eraseIdx k) hH e ?_ (r.eraseIdx k) ?_,rw',q]
 ·change its.toArray.eraseIdxIfInBounds k=(its.eraseIdx k).toArray;rw[List.eraseIdxIfInBounds_toArray]
 ·have:=mx xs k;omega
abbrev HS:R2:=λx y H Q=>∃l b xs zs,x=.ref l/\y=.ref b/\H l=ba (.lst xs)/\H b=ba (.lst zs)/\xs.length+zs.length<=sizeLine/\∀p,H p=gV->Q (.ref p) (bv H p (.lst (xs++zs)))
def DN:OpR X (binaryOp .Add) HS:=by
 intro J s Y H x y v u Q I rx ry h;obtain⟨l,b,xs,zs,rfl,rfl,hH,hB,hz,q⟩:=h;cases rx;cases ry;obtain⟨z,its,n,r,hl,e⟩:=I.lstM hH;obtain⟨z2,its2,n2,r2,hl2,e2⟩:=I.lstM hB;show PySem.P.add_list e e2 ?_ (by rw[JM,JM]; omega)
 have ea:its.toArray++its2.toArray=(its++its2).toArray:=by simp
 rw[ea];exact#[.ref _,_,I.lnew (t':=s.toks) (r.append r2) (by rw[JC]; omega),rfl,q _ I.fresh]
abbrev HU:R2:=λx y H Q=>∃l k xs,x=.ref l/\y=.int k/\H l=ba (.lst xs)/\-(2 ^ 63)<=k/\k < 2 ^ 63/\xs.length*k.toNat<=sizeLine/\
 ∀p,H p=gV->Q (.ref p) (bv H p (.lst (Km k.toNat xs).flatten))
def AQ {α:Type}(xs:Jn α)(k:Jx):(Km k xs).flatten.length=k*xs.length:=by
 induction k with
 | zero=>simp
 | succ k ih=>rw[Ly,Mr,JC,ih,NH,SD]
def DO:OpR X (binaryOp .Mult) HU:=by
 intro J s Y H x y v u Q I rx ry h;obtain⟨l,k,xs,rfl,rfl,hH,h1,h2,hz,q⟩:=h;cases rx;obtain⟨t,rfl⟩:=ry;obtain⟨z,its,n,r,hl,e⟩:=I.lstM hH;have hlen:its.toArray.size*k.toNat<=sizeLine:=by rw[JM,<- hl]; exact hz
 have hcap:¬ its.toArray.size*k.toNat > (2 ^ 63 - 1) / 8:=by
  have:(sizeLine:Jx)<=(2 ^ 63 - 1) / 8:=by decide
  omega
 have hfit:¬ (!RM k)=true:=by
  rw[RL h1 h2];exact J1
 have hlong:¬ Mt (its.toArray.size*k.toNat)=true:=by
  rw[pe hlen];exact J1
 have hnew:RK (λx1 x2=>x1++x2) #[] (Km (if its.toArray.isEmpty=true then 0 else k.toNat) its.toArray)=(Km k.toNat its).flatten.toArray:=by
  have f0:∀m:Jx,RK (λx1 x2=>x1++x2) #[] (Km m its.toArray)=(Km m its).flatten.toArray:=λm=>by
   have:=my its m [];rw[Rv]at this;exact this
  rw[f0];cases its with
  | nil=>simp
  | cons a r'=>rw[J8 (by simp)]
 show wpAny_binaryOp_repeat_ref (T:="list") (U:="int") #v[] #[_,e,rfl] (λs'=>RJ s' k t) noFill_list_mul F.fills_int_mul F.slot_int_rmul repeat_list F.slot_int_index.lookup
  (Op F.slot_int_rmul (RJ s k t) F.entry_int_rmul (F.args_int_rmul_2 _ _) (int___rmul___int_list k t l its.toArray n)
   #[e,rfl,#[_,e,rfl],Op F.slot_list_mul #[_,e,rfl] F.entry_list_mul (F.args_list_mul_2 _ _) (Qr l its.toArray n k t hfit hcap hlong) #[e,?_]])
 rw[hnew];exact#[.ref _,_,I.lnew (t':=s.toks) (r.rep k.toNat) (by rw[AQ,MP]; exact hz),rfl,q _ I.fresh]
end
section
variable{X:Cx}{J:Jn (Jz×Lr)}{Y:St}{H:Hp}{s:Jt}{a:Jz}{y v:V}{u r:Jr}{o:Jw V}{A:Ki}{E:Jr->Jt->Prop}
def Inv.big (I:Inv X J Y H s):sysModules < s.heap.objs.size:=by
 have h:mainGlobals < s.heap.objs.size:=(I.mod.glob.keeps I.bk).lt;exact O8 #v[] h
def nL {h':Kv}{t':Jx}{ob:HO}(I:Inv X J Y H s)(mu:E8 (H a))(hs:LF a s.heap h')(he:∃q,h'.get? a=ba q)(new:ObjOk X.prog X.w (bv H a ob) h' a ob) :
  Inv X J Y (bv H a ob) { s with heap:=h',toks:=t' }:=
 I.write (x:=a) (e:=a) mu (.inl rfl) (λb q hb z=>(hs.2 b hb).trans z) he new
end
noncomputable abbrev VV:Jn (V×V)->Jn (Jr×Jr)->Prop:=O4 λp q=>RelV p.1 q.1/\RelV p.2 q.2
end L2
namespace Att
open PySem PySem.W PySem.Calls PyProof.Rows
def jZ {P:Qk}{h:Kv}:∀(ns:Jn JI) (vs:Jn Jr),WellAll P h vs (ns.map WData.int)->RE vs ns:=by
 intro ns
 induction ns with
 | nil=>
  intro vs w;rw[QD]at w;cases w;exact .nil
 | cons n ns ih=>
  intro vs w;rw[KO]at w;cases w with
  | cons a b=>
   cases a;exact .cons _ _ (ih _ b)
def vg {l:OpenLaw}{n:Jx}(hn:l.most=ba n){P:Qk}{h:Kv}{args:Jn WData}{vals:Jn Jr}
  (hpre:l.row.toRowW.claim.pre args=true) (hwl:WellAll P h vals args) :
  ∃a vs ns,vals=[Kk a]/\args=[WData.list (ns.map WData.int)]/\h.get? a=ba { cls:=.type "list",data:=.seq vs.toArray }/\RE vs ns/\ns.length<=n:=by
 have hsh:WShape.hasAll [] args [.list .int]=true:=(pre_splitW hpre).1;have hc:l.pre.holds [] { args:=args }=true:=(pre_splitW hpre).2;obtain⟨d,r,rfl,h1,h2⟩:=hasAllW_cons hsh;obtain rfl:=hasAllW_nil h2;obtain⟨xs,rfl,h3⟩:=hasW_list h1;obtain⟨ns,rfl⟩:=items_int h3;have hlen:ns.length<=n:=by
  unfold OpenLaw.pre at hc;have h4:(WTm.not (.lt (.lit (.int (n:JI))) (.len (.arg 0)))).holds [] { args:=[.list (ns.map .int)] }=true:=by
   have h4:=(holds_andW hc).1;rw[hn]at h4;exact h4
  have h5:=condW_of h4 (w_not (w_lt w_lit (w_len_list (w_arg rfl))));rw[Jp]at h5;show Q6 λq=>?_
  have q':(n:JI) < ((ns.length:Jx):JI):=∅
  first
   | (rw[K6 q']at h5; exact absurd h5 #v[])
   | (simp at h5; omega)
 cases hwl with
 | cons w1 w2=>
  cases w2;cases w1 with
  | list ho hall=>exact#[_,_,ns,rfl,rfl,ho,jZ ns _ hall,hlen]
def vh (l:OpenLaw)(args:Jn WData):l.row.toRowW.claim.post args (.bool true) args=true:=
 postW_of (r:=l.row.toRowW) (X:=(true==true))
  (show WShape.has [] (.bool true) .bool=true by first|rfl|decide|simp[WShape.has,WShape.arms,WShape.armsAll])
  (show(WTm.eq .res (.lit (.bool true))).value [] { args:=args,res:=ba (.bool true),after:=args }=ba (.bool (true==true))from w_eq_bool (w_res rfl) w_lit) rfl
def attach_call {l:OpenLaw}{n:Jx}{q:Kf}{loose:Jn JS}{XP:(JS->Jw Jr)->Kv->Prop}{YP:Kq->Kv->Prop}{d:DefRec}
  (hn:l.most=ba n) (hdf:d.params.defaults=[])
  (call:∀(w:Kq) (s₀ s₁:Jt) (mg mb:JS->Jw Jr) (fa:Jz) (o:Lr) (pm cd doc:Jr) (a:Jz) (vs:Jn Jr) (ns:Jn JI),
   Ground q loose [] XP w s₀ mg mb s₁.heap->YP w s₁.heap->
   s₁.heap.get? fa=ba o->o.data=.func (docDef d.name d.params d.body d.scope pm cd doc)->s₁.heap.CodeRec cd d.name->mg d.name=ba (.ref fa)->
   s₁.heap.get? a=ba { cls:=.type "list",data:=.seq vs.toArray }->RE vs ns->ns.length<=n->s₁.gens=#[]->
   codeAny (model l.prog w) callerA (.call (.ref fa) #[[.ref a],[]]) (λr s'=>r=.ok (.ret (.bool true))/\OldK s₁.heap s'.heap/\s'.os=s₁.os/\OM s'.gens) s₁) :
  WalkO q loose XP YP l.row.toRowW d [] (λf vs=>RN f vs):=by
 intro w s₀ s₁ mg mb G Yq fa o pm cd doc dV kV ho hd hcd hD hmg hg args vals as hpre hlay hrd hwl hlo;obtain rfl:dV=.none:=Dflts.none hD hdf;obtain rfl:kV=.none:=Dflts.noKw hD;obtain⟨a,vs,ns,rfl,rfl,hobj,hints,hlen⟩:=vg hn hpre hwl;show enter_call (NE (call w s₀ s₁ mg mb fa o pm cd doc a vs ns G Yq ho (fd_plain hd) hcd hmg hobj hints hlen hg) λr s' hq=>?_)
 obtain⟨rfl,h2,h3,h4⟩:=hq;exact#[.inl #[.bool true,.bool true,[],rfl,λ_=>rfl,.bool true,vh l _,λ_=>#[Tx,λ_ hm=>(nomatch hm)]],h2,h3,h4]
end Att
namespace L2
open PySem PySem.Spec PyProof.Rows
def mz:∀ {vs:Jn Jr} {ns:Jn JI},RE vs ns->Vals (ns.map V.int) vs
 | _,_,.nil=>.nil
 | _,_,.cons n t h=>.cons #[t,rfl] (mz h)
abbrev xu (H:Hp):Prop:=∀b,H b=gV\/∃o xs,H b=ba (.frz o (.lst xs))
def xv {P:Kf}{w:Kq}{K:JE}{mg mb:JS->Jw Jr}{CX:xj}{k:Jx}{fa a:Jz}{fd:Mf}{x:JS}{sp:Sp}{s₁:Jt}{vs:Jn Jr}{ns:Jn JI}
  (KX:K.In s₁.heap) (hns:s₁.heap.Ns mainGlobals mg) (hb:s₁.heap.Ns builtinsNs mb) (hbb:∀x:JS,x≠"__name__"->mb x=bootBuiltins x) (hlim:s₁.heap.NoLimit) (hg:s₁.gens=#[])
  (ha:s₁.heap.get? a=ba { cls:=.type "list",data:=.seq vs.toArray }) (hi:RE vs ns) (hl:ns.length<=sizeLine) (hr:Room k callerA)
  (F:∀base:Kv,K.In base->base.Ns mainGlobals mg->FnOk P w K mg base CX k fa fd [x] sp) (hbind:∀(s:Jt) (u:Jr),Qw s fd #[[u],[]] [(x,u)])
  (hsp:∀H:Hp,xu H->SqL K H a (ns.map V.int)->sp [.ref a] H (λv _=>v=.bl true) λ_ _ _=>K5)
  (hCX:∀H e s',CX [] H s₁ (λ_ _ _=>K5) e s'->K5) :
  codeAny (model P w) callerA (.call (.ref fa) #[[.ref a],[]]) (λr s'=>r=.ok (.ret (.bool true))/\OldK s₁.heap s'.heap/\s'.os=s₁.os/\OM s'.gens) s₁:=by
 have rv:=mz hi;have lenV:=hi.length;have core:∀H:Hp,xu H->SqL K H a (ns.map V.int)->HOk P w H s₁.heap->(∀b,H b≠gV->b=a)->(H a≠gV->K.lookup a=gV)->
   codeAny (model P w) callerA (.call (.ref fa) #[[.ref a],[]]) (λr s'=>r=.ok (.ret (.bool true))/\OldK s₁.heap s'.heap/\s'.os=s₁.os/\OM s'.gens) s₁:=by
  intro H hO hS hok hA hK;have base_of:∀ {b:Jz} {o:Lr},s₁.heap.get? b=ba o->H b=gV->(nD s₁.heap H).get? b=ba o:=λe n=>wQ e n
  have noA:∀ {b:Jz} {o:Lr} {es:J7 L5} {ep:Jx},s₁.heap.get? b=ba o->o.data=.dict es ep->H b=gV:=λ{b o es ep} e d=>by
   cases q:H b with
   | none=>rfl
   | some u=>
    have e':b=a:=hA b (by rw[q]; simp)
    subst e';rw[ha]at e; cases e
    have d':Data.seq vs.toArray _=Data.dict es ep:=d;cases d'
  have nsK:∀ {b:Jz} {m:JS->Jw Jr},s₁.heap.Ns b m->(nD s₁.heap H).Ns b m:=λ{b m} #[o,es,ep,e,d,r]=>#[o,es,ep,base_of e (noA e d),d,r]
  have hKb:K.In (nD s₁.heap H):=λb o e=>base_of (KX b o e) (by
   cases q:H b with
   | none=>rfl
   | some u=>
    have e':b=a:=hA b (by rw[q]; simp)
    subst e';rw[hK (by rw[q]; simp)]at e; cases e)
  have hM:Mod K mg (nD s₁.heap H):=#[hKb,nsK hns,#[mb,nsK hb,hbb],let ⟨mc,h1,h2⟩:=hlim; #[mc,nsK h1,h2]]
  have e0:Env0 P w K mg (nD s₁.heap H) callerA [] s₁ H:=#[rfl,hM,λb o e=>Ar e,Nat.le_of_eq (uZ _ _),trivial,λb hb=>absurd (show b∈([]:Jn Jz)from hb) (by simp),hok,.of_eq hg]
  show NE ((F _ hKb (nsK hns)).run callerA [] s₁ H #[[.ref a],[]] [.ref a] [.ref a] _ _ hr e0 (hbind s₁ (.ref a)) #v[rfl] (hsp H hO hS)) λr s' h=>?_
  cases r with
  | error e=>exact(hCX H e s' h).elim
  | ok fl=>
   cases fl with
   | next=>exact K5.elim h
   | brk=>exact K5.elim h
   | cont=>exact K5.elim h
   | ret u=>
    obtain⟨v,H',os,bare,un,hok',r',q⟩:=h;have q':v=.bl true:=q;subst q';obtain rfl:u=M3 true:=r';show#[rfl,OldK.of_keep λb o e=>?_,os,bare]
    cases q:H b with
    | none=>exact un.keep b o e q (by intro z; exact absurd (show b∈([]:Jn Jz)from z) (by simp)) (by simp)
    | some u=>
     rcases hO b with z|⟨ob,xs,z⟩
     ·rw[q]at z; cases z
     ·have z2:=un.frzs b ob _ z;obtain⟨e1,_⟩:=hok b _ z;obtain⟨e2,_⟩:=hok' b _ z2;rw[e]at e1; cases e1
      exact e2
 cases hk:K.lookup a with
 | some o=>
  have e:=KX a o hk;rw[ha]at e;cases e;show core (λ_=>gV) (λ_=>.inl rfl) (.inr #[_,vs.toArray,_,hk,rfl,rfl,rfl,by rw[JM,lenV]; exact hl,by simpa using rv]) (λb u z=>by have z':(gV:Jw HO)=ba u:=z; cases z') (λb z=>absurd rfl z) λz=>absurd rfl z
 | none=>
  show core (λb=>if b=a then ba (.frz { cls:=.type "list",data:=.seq vs.toArray } (.lst (ns.map V.int)))else gV) (λb=>?_) (.inl (.inr #[{ cls:=.type "list",data:=.seq vs.toArray },JX rfl])) (λb u z=>?_) (λb z=>?_) λ_=>hk
  ·by_cases hb:b=a
   ·exact .inr #[_,_,JX hb]
   ·exact .inl (J8 hb)
  ·by_cases hb:b=a
   ·have z':=(JX hb).symm.trans z;cases z';subst hb;exact#[ha,by rw[Jp]; exact hl,vs,_,rv,ha]
   ·have z':=(J8 hb).symm.trans z;cases z'
  ·by_cases hb:b=a
   ·exact hb
   ·exact absurd (J8 hb) z
def AR {l:Pi}{n k:Jx}{q:Kf}{loose:Jn JS}{XP:(JS->Jw Jr)->Kv->Prop}{YP:Kq->Kv->Prop}{d:DefRec}{K:Qk->JE}{CX:Kq->xj}{sp:Kq->Sp}{x:JS}
  (hn:l.most=ba n) (hn2:n<=sizeLine) (hdf:d.params.defaults=[]) (hr:Room k callerA)
  (hY:∀(w:Kq) (h:Kv),YP w h->(K w.params).In h)
  (F:∀(w:Kq) (mg:JS->Jw Jr) (fa:Jz) (h:Kv),(K w.params).In h->h.Ns mainGlobals mg->mg d.name=ba (.ref fa)->
   ∃fd:Mf,(∀(s:Jt) (u:Jr),Qw s fd #[[u],[]] [(x,u)])/\
    ∀base:Kv,(K w.params).In base->base.Ns mainGlobals mg->FnOk l.prog w (K w.params) mg base (CX w) k fa fd [x] (sp w))
  (hsp:∀(w:Kq) (H:Hp) (a:Jz) (ns:Jn JI),ns.length<=n->xu H->SqL (K w.params) H a (ns.map V.int)->sp w [.ref a] H (λv _=>v=.bl true) λ_ _ _=>K5)
  (hCX:∀(w:Kq) (H:Hp) (s:Jt) (e:Jr) (s':Jt),CX w [] H s (λ_ _ _=>K5) e s'->K5) :
  R9 q loose XP YP l.row.toRowW d [] (λf vs=>RN f vs):=by
 show Att.attach_call hn hdf λw s₀ s₁ mg mb fa o pm cd doc a vs ns G Yq ho hd hcd hmg hobj hints hlen hg=>?_
 have KX:=hY w _ Yq;obtain⟨fd,hb,hF⟩:=F w mg fa _ KX G.T.g hmg;exact xv KX G.T.g G.T.b G.T.builtins G.T.nolimit hg hobj hints (J6 hlen hn2) hr hF hb (λH hO hS=>hsp w H a ns hlen hO hS) λH e s'=>hCX w H s₁ e s'
abbrev dM (s:Mx):Arguments:=match s with
 | .FunctionDef _ a _ _ _ _ _ _ _ _=>a
 | _=>{ posonlyargs:=[],args:=[],vararg:=gV,kwonlyargs:=[],kw_defaults:=[],kwarg:=gV,defaults:=[] }
abbrev cD (s:Mx):Jn Mx:=match s with
 | .FunctionDef _ _ b _ _ _ _ _ _ _=>b
 | _=>[]
abbrev aR (s:Mx):MM:=match s with
 | .FunctionDef _ _ _ _ _ _ sc _ _ _=>sc
 | _=>{ kind:=.function,names:=[],isGenerator:=false,isCoroutine:=false }
noncomputable abbrev wL:xj:=λ_ _ _ _ _ _=>K5
noncomputable abbrev E0:XK:=λ_ _ _=>K5
def CC {X:Cx}:nF wL X E0:=λ_ _ _ _ _ _ _ h=>h.elim
structure Fun (K:JE)(x qual:JS)(st:Mx)(f:Jz)(fd:Mf):Prop where
 ex:∃(oc:Jr) (od:Jw Jz) (kV doc pm:Jr) (an:Jw Jz) (cdv ct:Jr) (osl:J7 (Jw Jr)),
  fd=LY x qual (dM st) (cD st) (aR st) .none kV doc pm an cdv ct/\K.lookup f=ba #[oc,od,.func fd,osl]/\MC K cdv qual=true
 kp:Lj K (.ref f)=true
section
variable{P:Kf}{w:Kq}{K:JE}{mg:JS->Jw Jr}{base:Kv}
def Fun.ok {x qual:JS}{st:Mx}{f:Jz}{fd:Mf}{N ps:Jn JS}{k:Jx}{sp:Sp}(F:Fun K x qual st f fd)(S:FnScope N ps (aR st))(len:∀vs H Q E,sp vs H Q E->vs.length=ps.length)
  (hbody:∀(cdv:Jr) (A:Ki) (outer:Jn Qg) (s:Jt) (H:Hp) (vs:Jn V) (Q:VK) (E:XK),Room k (A.deeper (envOfC qual (aR st) s.heap.objs.size f cdv))->sp vs H Q E->
   ∃t,PSs (rO wL P w K mg base N qual (aR st) f cdv A outer s H E).nox (cD st) t/\t { nx:=λ_ H'=>Q .non H',rt:=Q } (fQ N vs) H):FnOk P w K mg base wL (k+1) f fd ps sp:=by
 obtain⟨oc,od,kV,doc,pm,an,cdv,ct,osl,rfl,lk,hcd⟩:=F.ex;show Fz lk hcd S len λA outer s H vs Q E hr hsp=>?_
 obtain⟨t,h,q⟩:=hbody cdv A outer s H vs Q E hr hsp;exact#[t,h.nox,q]
def Fun.binds {x qual:JS}{st:Mx}{f:Jz}{fd:Mf}{ps:Jn JS}(F:Fun K x qual st f fd)
  (h:∀(kV doc pm:Jr) (an:Jw Jz) (cdv ct:Jr) (us:Jn Jr),us.length=ps.length->bindArgs (LY x qual (dM st) (cD st) (aR st) .none kV doc pm an cdv ct) #[us,[]]=pure (ps.zip us)):Binds K fd ps []:=by
 obtain⟨oc,od,kV,doc,pm,an,cdv,ct,osl,rfl,lk,hcd⟩:=F.ex;exact .all (h kV doc pm an cdv ct)
def xw {x qual:JS}{st:Mx}{f:Jz}{oc:Jr}{od an:Jw Jz}{osl:J7 (Jw Jr)}{kV doc pm cdv ct:Jr}(l:K.lookup f=ba #[oc,od,.func (LY x qual (dM st) (cD st) (aR st) .none kV doc pm an cdv ct),osl])
  (c:MC K cdv qual=true) (k:Lj K (.ref f)=true):Fun K x qual st f (LY x qual (dM st) (cD st) (aR st) .none kV doc pm an cdv ct):=#[#[oc,od,kV,doc,pm,an,cdv,ct,osl,rfl,l,c],k]
end
section
variable{X:Cx}
def pv (i:Jx){x:JS}{pos:Mk}(hN:X.N[i]?=ba x:=by rfl)(hv:Ha X.env.scope x)(hd:(x==("__debug__" : JS))=false:=by decide)
  (hcd:(x==("__classdict__" : JS))=false:=by decide):PE X (.Name x pos) (Da i):=wR hN hv hd hcd
end
end L2
namespace Mi
open PySem PySem.Spec PyProof.Rows L2
abbrev fE (t:KW)(n:Jx):J3:=decide (MD t.place 0=0)&&(JW n).all λi=>decide (MD t.place (t.place.getD i 0+1)=i+1)
abbrev fe (w:Kq):J3:=w.params.followText "set-order"
inductive W where
 | non|bl (b:J3)|int (i:JI)|str (x:JS)|tup (xs:Jn W)|ref (i:Jx)
inductive T where
 | int (i:JI)|str (x:JS)|tup (xs:Jn T)
mutual
def T.beq:T->T->J3
 | .int i,.int j=>i==j
 | .str x,.str y=>x==y
 | .tup xs,.tup ys=>T.beqs xs ys
 | _,_=>false
def T.beqs:Jn T->Jn T->J3
 | [],[]=>true
 | x::xs,y::ys=>T.beq x y&&T.beqs xs ys
 | _,_=>false
end
mutual
theorem T.beq_iff:∀x y:T,T.beq x y=true↔x=y
 | .int i,.int j=>by simp[T.beq]
 | .str x,.str y=>by simp[T.beq]
 | .tup xs,.tup ys=>by simp[T.beq,T.beqs_iff xs ys]
 | .int _,.str _|.int _,.tup _|.str _,.int _|.str _,.tup _|.tup _,.int _|.tup _,.str _=>by simp[T.beq]
theorem T.beqs_iff:∀xs ys:Jn T,T.beqs xs ys=true↔xs=ys
 | [],[]=>by simp[T.beqs]
 | x::xs,y::ys=>by simp[T.beqs,T.beq_iff x y,T.beqs_iff xs ys]
 | [],_::_|_::_,[]=>by simp[T.beqs]
end
noncomputable instance:ML T:=λx y=>decidable_of_iff (T.beq x y=true) (T.beq_iff x y)
mutual
def T.w:T->W
 | .int i=>.int i
 | .str x=>.str x
 | .tup xs=>.tup (T.ws xs)
def T.ws:Jn T->Jn W
 | []=>[]
 | x::xs=>T.w x::T.ws xs
end
mutual
def W.t:W->Jw T
 | .int i=>ba (.int i)
 | .str x=>ba (.str x)
 | .tup xs=>(W.ts xs).map .tup
 | _=>gV
def W.ts:Jn W->Jw (Jn T)
 | []=>ba []
 | x::xs=>match W.t x,W.ts xs with
  | some y,ba ys=>ba (y::ys)
  | _,_=>gV
end
mutual
theorem W.t_w:∀ {w:W} {k:T},W.t w=ba k->k.w=w
 | .int i,_,h=>by cases h; rfl
 | .str x,_,h=>by cases h; rfl
 | .tup xs,_,h=>by
  simp only[W.t,Js]at h;obtain⟨ks,h1,h2⟩:=h;subst h2;simp only[T.w,W.ts_w h1]
 | .non,_,h|.bl _,_,h|.ref _,_,h=>by cases h
theorem W.ts_w:∀ {ws:Jn W} {ks:Jn T},W.ts ws=ba ks->T.ws ks=ws
 | [],_,h=>by cases h; rfl
 | w::ws,_,h=>by
  simp only[W.ts]at h;split at h
  ·rename_i y ys h1 h2;cases h;simp only[T.ws,W.t_w h1,W.ts_w h2]
  ·cases h
end
mutual
theorem T.w_t:∀k:T,W.t k.w=ba k
 | .int _=>rfl
 | .str _=>rfl
 | .tup xs=>by simp only[T.w,W.t,T.ws_ts xs,Kg]
theorem T.ws_ts:∀ks:Jn T,W.ts (T.ws ks)=ba ks
 | []=>rfl
 | x::xs=>by simp only[T.ws,W.ts,T.w_t x,T.ws_ts xs]
end
mutual
def T.depth:T->Jx
 | .tup xs=>T.depths xs+1
 | _=>0
def T.depths:Jn T->Jx
 | []=>0
 | x::xs=>max (T.depth x) (T.depths xs)
end
mutual
def T.draws:T->Jx
 | .tup xs=>T.drawss xs+1
 | _=>1
def T.drawss:Jn T->Jx
 | []=>0
 | x::xs=>T.draws x+T.drawss xs
end
mutual
def eG (wd:Kq):T->JI
 | .int i=>hashInt i
 | .str x=>hashStr wd x
 | .tup xs=>reduceHash (Nh (ig wd xs))
def ig (wd:Kq):Jn T->Jn JI
 | []=>[]
 | x::xs=>eG wd x::ig wd xs
end
abbrev T.isTup:T->J3
 | .tup _=>true
 | _=>false
abbrev aA:Jx:=6
inductive O where
 | lst (xs:Jn W)
 | fro (xs:Jn W)
 | stt (ks:Jn T)
 | rng (lo hi:JI)
 | dic (U:Jn (T×W))
 | frd (U:Jn (T×W))
noncomputable abbrev aa:=Jn O
noncomputable abbrev Fm:=Jn (Jw W)
section
variable (K:JE) (A:Jn Jz) (H:Hp)
mutual
inductive Rel:W->V->Prop
 | non:Rel .non .non
 | bl {b:J3}:Rel (.bl b) (.bl b)
 | int {i:JI}:Rel (.int i) (.int i)
 | str {x:JS}:Rel (.str x) (.str x)
 | tup {ws:Jn W} {a:Jz} {vs:Jn V}:SqT K H a vs->RelL ws vs->Rel (.tup ws) (.ref a)
 | ref {i:Jx} {a:Jz}:A[i]?=ba a->Rel (.ref i) (.ref a)
inductive RelL:Jn W->Jn V->Prop
 | nil:RelL [] []
 | cons {w:W} {v:V} {ws:Jn W} {vs:Jn V}:Rel w v->RelL ws vs->RelL (w::ws) (v::vs)
end
end
section
variable{K:JE}{A A' A'':Jn Jz}{H H' H'':Hp}
structure Ext (K:JE)(A:Jn Jz)(H:Hp)(A':Jn Jz)(H':Hp):Prop where
 ad:∀(i:Jx) (a:Jz),A[i]?=ba a->A'[i]?=ba a
 tp:∀(a:Jz) (vs:Jn V),SqT K H a vs->SqT K H' a vs
 fz:∀(a:Jz) (o:Lr) (u:HO),H a=ba (.frz o u)->H' a=ba (.frz o u)
def Ext.refl:Ext K A H A H:=#[λ_ _ h=>h,λ_ _ h=>h,λ_ _ _ h=>h]
def Ext.trans (e:Ext K A H A' H')(f:Ext K A' H' A'' H''):Ext K A H A'' H'':=#[λi a h=>f.ad i a (e.ad i a h),λa vs h=>f.tp a vs (e.tp a vs h),λa o u h=>f.fz a o u (e.fz a o u h)]
mutual
theorem Rel.mono (e:Ext K A H A' H'):∀ {w:W} {v:V},Rel K A H w v->Rel K A' H' w v
 | _,_,.non=>.non
 | _,_,.bl=>.bl
 | _,_,.int=>.int
 | _,_,.str=>.str
 | _,_,.tup h r=>.tup (e.tp _ _ h) (RelL.mono e r)
 | _,_,.ref h=>.ref (e.ad _ _ h)
theorem RelL.mono (e:Ext K A H A' H'):∀ {ws:Jn W} {vs:Jn V},RelL K A H ws vs->RelL K A' H' ws vs
 | _,_,.nil=>.nil
 | _,_,.cons r t=>.cons (Rel.mono e r) (RelL.mono e t)
end
def RelL.length:∀ {ws:Jn W} {vs:Jn V},RelL K A H ws vs->ws.length=vs.length
 | _,_,.nil=>rfl
 | _,_,.cons _ t=>by simp[RelL.length t]
def RelL.get:∀ {ws:Jn W} {vs:Jn V} {i:Jx} {w:W},RelL K A H ws vs->ws[i]?=ba w->∃v,vs[i]?=ba v/\Rel K A H w v
 | _,_,_,_,.nil,e=>by simp at e
 | _,_,0,_,.cons r _,e=>by simp at e; subst e; exact#[_,rfl,r]
 | _,_,i+1,w,.cons _ t,e=>by
  obtain⟨u,h1,h2⟩:=RelL.get (i:=i) (w:=w) t (by simpa using e)
  exact#[u,by simpa using h1,h2]
def RelL.append:∀ {xs ys:Jn W} {us ws:Jn V},RelL K A H xs us->RelL K A H ys ws->RelL K A H (xs++ys) (us++ws)
 | _,_,_,_,.nil,s=>s
 | _,_,_,_,.cons r t,s=>.cons r (RelL.append t s)
def RelL.take:∀ {xs:Jn W} {us:Jn V} (n:Jx),RelL K A H xs us->RelL K A H (xs.take n) (us.take n)
 | _,_,0,_=>.nil
 | _,_,_+1,.nil=>.nil
 | _,_,n+1,.cons r t=>.cons r (RelL.take n t)
def RelL.drop:∀ {xs:Jn W} {us:Jn V} (n:Jx),RelL K A H xs us->RelL K A H (xs.drop n) (us.drop n)
 | _,_,0,r=>r
 | _,_,_+1,.nil=>.nil
 | _,_,n+1,.cons _ t=>RelL.drop n t
def RelL.set {x:W}{u:V}(r:Rel K A H x u):∀ {xs:Jn W} {us:Jn V} (i:Jx),RelL K A H xs us->RelL K A H (xs.set i x) (us.set i u)
 | _,_,_,.nil=>.nil
 | _,_,0,.cons _ t=>.cons r t
 | _,_,i+1,.cons q t=>.cons q (RelL.set r i t)
def RelL.rep {xs:Jn W}{us:Jn V}(h:RelL K A H xs us):∀k:Jx,RelL K A H (Km k xs).flatten (Km k us).flatten
 | 0=>.nil
 | k+1=>by
  rw[Ly,Ly,Mr,Mr];exact RelL.append h (RelL.rep h k)
def RelL.eraseIdx:∀ {xs:Jn W} {us:Jn V} (i:Jx),RelL K A H xs us->RelL K A H (xs.eraseIdx i) (us.eraseIdx i)
 | _,_,_,.nil=>.nil
 | _,_,0,.cons _ t=>t
 | _,_,i+1,.cons r t=>.cons r (RelL.eraseIdx i t)
abbrev FroL (K:JE)(H:Hp)(a:Jz)(vs:Jn V):Prop:=
 (∃o,H a=ba (.frz o (.lst vs)))\/
  ∃(o:Lr) (its:J7 Jr) (n:Jx),K.lookup a=ba o/\o.cls=.type "list"/\o.dict=gV/\o.data=.seq its n/\its.size<=sizeLine/\Vals vs its.toList
def FroL.sq {a:Jz}{vs:Jn V}(h:FroL K H a vs):SqL K H a vs:=by
 rcases h with⟨o,h⟩|h
 ·exact .inl (.inr #[o,h])
 ·exact .inr h
abbrev xx (wd:Kq)(x:T×Jz×Jr):L5:=#[eG wd x.1,.ref x.2.1,x.2.2]
abbrev DicAt (wd:Kq)(a:Jz)(xs:Jn (T×Jz×Jr))(h:Kv):Prop:=
 xs.length<=sizeLine/\(a==sysModules)=false/\(xs.map (·.1)).Nodup/\∃o es ep,h.get? a=ba o/\o.ExactDict/\o.data=.dict es ep/\es.toList=xs.map (xx wd)
abbrev d4 (wd:Kq)(a:Jz)(xs:Jn (T×Jz×Jr)):HO:=.ext (DicAt wd a xs)
abbrev KRel (K:JE)(A:Jn Jz)(H:Hp):Jn (T×W)->Jn (T×Jz×Jr)->Prop:=
 O4 λ(p:T×W) (q:T×Jz×Jr)=>p.1=q.1/\p.1.isTup=true/\p.1.depth<=aA/\Rel K A H p.1.w (.ref q.2.1)/\∃v,Rel K A H p.2 v/\RelV v q.2.2
def KRel.mono (e:Ext K A H A' H'){U:Jn (T×W)}{xs:Jn (T×Jz×Jr)}(h:KRel K A H U xs):KRel K A' H' U xs:=
 Paired.mapP h λ_ _ #[h1,h2,h3,h4,v,h5,h6]=>#[h1,h2,h3,h4.mono e,v,h5.mono e,h6]
variable{wd:Kq}
abbrev AS (wd:Kq)(as:Jn Jz)(o:Lr):Prop:=o.ExactSet/\∃es ep t,o.data=.set es ep t/\es.size<=sizeLine/\t.fits es.size=true/\t.led=(!fe wd)/\(t.plain=true->es.size=0\/fE t es.size=true)/\es.toList.map (·.2)=as.map Kk
abbrev ObjRel (wd:Kq)(K:JE)(A:Jn Jz)(H:Hp)(a:Jz):O->Prop
 | .lst ws=>∃vs,H a=ba (.lst vs)/\RelL K A H ws vs
 | .fro ws=>∃vs,FroL K H a vs/\RelL K A H ws vs
 | .stt ks=>∃o φ as,H a=ba (.frz o (.ext φ))/\AS wd as o/\RelL K A H (T.ws ks) (as.map V.ref)
 | .rng lo hi=>H a=ba (.rng lo hi)
 | .dic U=>∃xs,H a=ba (d4 wd a xs)/\KRel K A H U xs
 | .frd U=>∃o xs,H a=ba (.frz o (d4 wd a xs))/\KRel K A H U xs
abbrev O.mut:O->J3
 | .fro _=>false
 | .stt _=>false
 | .rng _ _=>false
 | .frd _=>false
 | _=>true
structure StoreOk (wd:Kq)(K:JE)(A:Jn Jz)(H:Hp)(S:aa):Prop where
 len:A.length=S.length
 nd:∀(i j:Jx) (a:Jz) (o u:O),S[i]?=ba o->o.mut=true->S[j]?=ba u->u.mut=true->A[i]?=ba a->A[j]?=ba a->i=j
 obj:∀(i:Jx) (o:O) (a:Jz),S[i]?=ba o->A[i]?=ba a->ObjRel wd K A H a o
abbrev EnvRel (K:JE)(A:Jn Jz)(H:Hp)(Z:Fm)(Y:L2.St):Prop:=
 Z.length=Y.length/\∀(i:Jx) (w:W),Z[i]?=ba (ba w)->∃v,Y[i]?=ba (ba v)/\Rel K A H w v
def EnvRel.mono {Z:Fm}{Y:L2.St}(e:Ext K A H A' H')(h:EnvRel K A H Z Y):EnvRel K A' H' Z Y:=
 #[h.1,λi w q=>let ⟨v,a,b⟩:=h.2 i w q; #[v,a,b.mono e]]
def EnvRel.set {Z:Fm}{Y:L2.St}{w:W}{v:V}(h:EnvRel K A H Z Y)(r:Rel K A H w v)(i:Jx):EnvRel K A H (Z.set i (ba w)) (Y.set i (ba v)):=by
 show#[by simp[h.1],λj w' q=>?_]
 rw[LP]at q ⊢
 by_cases e:i=j
 ·subst e;rw[JX rfl]at q ⊢
  by_cases hl:i < Z.length
  ·rw[JX hl]at q;rw[JX (h.1 ▸ hl)];cases q;exact#[v,rfl,r]
  ·rw[J8 hl]at q; cases q
 ·rw[J8 e]at q ⊢;exact h.2 j w' q
abbrev Wr (H:Hp)(p:Jz):Prop:=H p=gV\/(∃xs,H p=ba (.lst xs))\/(∃φ,H p=ba (.ext φ))\/∃ks,H p=ba (.dK ks)
def Wr.lst {p:Jz}{xs:Jn V}(h:H p=ba (.lst xs)):Wr H p:=.inr (.inl #[xs,h])
def Wr.ext {p:Jz}{φ:Kv->Prop}(h:H p=ba (.ext φ)):Wr H p:=.inr (.inr (.inl #[φ,h]))
def Wr.ne_tup {p a:Jz}{xs:Jn V}(hp:Wr H p)(h:H a=ba (.tup xs)):a≠p:=by
 intro e; subst e
 rcases hp with q|⟨xs,q⟩|⟨φ,q⟩|⟨ks,q⟩ <;> (rw[h]at q; cases q)
def Wr.ne_frz {p a:Jz}{o:Lr}{u:HO}(hp:Wr H p)(h:H a=ba (.frz o u)):a≠p:=by
 intro e; subst e
 rcases hp with q|⟨xs,q⟩|⟨φ,q⟩|⟨ks,q⟩ <;> (rw[h]at q; cases q)
def Wr.ne_rng {p a:Jz}{lo hi:JI}(hp:Wr H p)(h:H a=ba (.rng lo hi)):a≠p:=by
 intro e; subst e
 rcases hp with q|⟨xs,q⟩|⟨φ,q⟩|⟨ks,q⟩ <;> (rw[h]at q; cases q)
def tj {p:Jz}{o:HO}(hp:Wr H p){a:Jz}{vs:Jn V}(h:SqT K H a vs):SqT K (bv H p o) a vs:=by
 rcases h with(h|⟨o',h⟩)|h
 ·exact .inl (.inl (by rw[aC (hp.ne_tup h)]; exact h))
 ·exact .inl (.inr #[o',by rw[aC (hp.ne_frz h)]; exact h])
 ·exact .inr h
def xy {p:Jz}{o:HO}(hp:Wr H p){a:Jz}{vs:Jn V}(h:FroL K H a vs):FroL K (bv H p o) a vs:=by
 rcases h with⟨o',h⟩|h
 ·exact .inl #[o',by rw[aC (hp.ne_frz h)]; exact h]
 ·exact .inr h
def cF {p:Jz}{o:HO}(hp:Wr H p):Ext K A H A (bv H p o):=#[λ_ _ h=>h,λ_ _ h=>tj hp h,λ_ _ _ h=>by rw[aC (hp.ne_frz h)]; exact h]
def cV {p:Jz}{o:HO}(hp:H p=gV):Ext K A H (A++[p]) (bv H p o):=
 #[λi a h=>by rw[Ku (JD.mp h).1]; exact h,λ_ _ h=>tj (.inl hp) h,λ_ _ _ h=>by rw[aC (Wr.ne_frz (.inl hp) h)]; exact h]
def ObjRel.keep {p a:Jz}{o:HO}{b:O}(hp:Wr H p)(hne:b.mut=true->a≠p)(e:Ext K A H A' (bv H p o))(h:ObjRel wd K A H a b):ObjRel wd K A' (bv H p o) a b:=by
 cases b with
 | lst ws=>
  obtain⟨vs,q,r⟩:=h;exact#[vs,by rw[aC (hne rfl)]; exact q,r.mono e]
 | fro ws=>
  obtain⟨vs,q,r⟩:=h;exact#[vs,xy hp q,r.mono e]
 | stt ks=>
  obtain⟨ob,φ,as,q,r1,r2⟩:=h;exact#[ob,φ,as,by rw[aC (hp.ne_frz q)]; exact q,r1,r2.mono e]
 | rng lo hi=>
  have h:H a=ba (.rng lo hi):=h;change bv H p o a=ba (.rng lo hi);rw[aC (hp.ne_rng h)];exact h
 | dic U=>
  obtain⟨xs,q,r⟩:=h;exact#[xs,by rw[aC (hne rfl)]; exact q,r.mono e]
 | frd U=>
  obtain⟨ob,xs,q,r⟩:=h;exact#[ob,xs,by rw[aC (hp.ne_frz q)]; exact q,r.mono e]
def ObjRel.there {a:Jz}{b:O}(h:ObjRel wd K A H a b)(hm:b.mut=true):H a≠gV:=by
 cases b with
 | lst ws=>obtain⟨vs,q,r⟩:=h; rw[q]; intro z; cases z
 | fro ws=>cases hm
 | stt ws=>cases hm
 | rng lo hi=>cases hm
 | dic U=>obtain⟨vs,q,r⟩:=h; rw[q]; intro z; cases z
 | frd ws=>cases hm
def ObjRel.wr {a:Jz}{b:O}(h:ObjRel wd K A H a b)(hm:b.mut=true):Wr H a:=by
 cases b with
 | lst ws=>obtain⟨vs,q,r⟩:=h; exact .lst q
 | fro ws=>cases hm
 | stt ws=>cases hm
 | rng lo hi=>cases hm
 | dic U=>obtain⟨vs,q,r⟩:=h; exact .ext q
 | frd ws=>cases hm
def StoreOk.lay {S:aa}{p:Jz}{o:HO}(h:StoreOk wd K A H S)(hp:H p=gV):StoreOk wd K A (bv H p o) S:=
 #[h.len,h.nd,λi b a e ea=>(h.obj i b a e ea).keep (.inl hp) (λhm z=>(h.obj i b a e ea).there hm (z ▸ hp)) (cF (.inl hp))]
def StoreOk.pushO {S:aa}{p:Jz}{n:O}{u:HO}(h:StoreOk wd K A H S)(hp:H p=gV)(r:ObjRel wd K (A++[p]) (bv H p u) p n):StoreOk wd K (A++[p]) (bv H p u) (S++[n]):=by
 have ex:Ext K A H (A++[p]) (bv H p u):=cV hp;have old:∀ {i:Jx} {o:O} {a:Jz},(S++[n])[i]?=ba o->(A++[p])[i]?=ba a->i < S.length->S[i]?=ba o/\A[i]?=ba a:=λ{i o a} e ea hl=>by
  rw[Ku hl]at e;rw[Ku (h.len ▸ hl)]at ea;exact#[e,ea]
 have new:∀ {i:Jx} {o:O} {a:Jz},(S++[n])[i]?=ba o->(A++[p])[i]?=ba a->¬ i < S.length->i=S.length/\o=n/\a=p:=λ{i o a} e ea hl=>by
  have hi:i=S.length:=by
   have:=(JD.mp e).1;simp at this;omega
  subst hi;simp at e;rw[<- h.len]at ea;simp at ea;exact#[rfl,e.symm,ea.symm]
 show#[by simp[h.len],λi j a o u e1 m1 e2 m2 a1 a2=>?_,λi o a e ea=>?_]
 ·by_cases hi:i < S.length <;> by_cases hj:j < S.length
  ·obtain⟨x1,y1⟩:=old e1 a1 hi;obtain⟨x2,y2⟩:=old e2 a2 hj;exact h.nd i j a o u x1 m1 x2 m2 y1 y2
  ·obtain⟨x1,y1⟩:=old e1 a1 hi;obtain⟨_,_,z⟩:=new e2 a2 hj;subst z;exact absurd hp ((h.obj i o a x1 y1).there m1)
  ·obtain⟨x2,y2⟩:=old e2 a2 hj;obtain⟨_,_,z⟩:=new e1 a1 hi;subst z;exact absurd hp ((h.obj j u a x2 y2).there m2)
  ·rw[(new e1 a1 hi).1,(new e2 a2 hj).1]
 ·by_cases hi:i < S.length
  ·obtain⟨x1,y1⟩:=old e ea hi;exact(h.obj i o a x1 y1).keep (.inl hp) (λhm z=>(h.obj i o a x1 y1).there hm (z ▸ hp)) ex
  ·obtain⟨_,rfl,rfl⟩:=new e ea hi;exact r
def StoreOk.push {S:aa}{p:Jz}{ws:Jn W}{vs:Jn V}(h:StoreOk wd K A H S)(hp:H p=gV)(r:RelL K A H ws vs):StoreOk wd K (A++[p]) (bv H p (.lst vs)) (S++[.lst ws]):=
 h.pushO hp #[vs,aK,r.mono (cV hp)]
def StoreOk.writeO {S:aa}{i:Jx}{p:Jz}{o0 n:O}{u:HO}(h:StoreOk wd K A H S)(e:S[i]?=ba o0)(m0:o0.mut=true)(ea:A[i]?=ba p)(r:ObjRel wd K A (bv H p u) p n) :
  StoreOk wd K A (bv H p u) (S.set i n)/\Ext K A H A (bv H p u):=by
 have hw:Wr H p:=(h.obj i _ p e ea).wr m0;have ex:Ext K A H A (bv H p u):=cF hw;have hl:i < S.length:=(JD.mp e).1;show#[#[by simp[h.len],λj k a o u e1 m1 e2 m2 a1 a2=>?_,λj o a e1 a1=>?_],ex]
 ·have get:∀ {j:Jx} {o:O},(S.set i n)[j]?=ba o->o.mut=true->∃o',S[j]?=ba o'/\o'.mut=true:=λ{j o} q m=>by
   rw[LP]at q
   by_cases z:i=j
   ·subst z; exact#[_,e,m0]
   ·rw[J8 z]at q; exact#[o,q,m]
  obtain⟨o',x1,m1'⟩:=get e1 m1;obtain⟨u',x2,m2'⟩:=get e2 m2;exact h.nd j k a o' u' x1 m1' x2 m2' a1 a2
 ·rw[LP]at e1
  by_cases z:i=j
  ·subst z;rw[JX rfl,JX hl]at e1;cases e1;rw[ea]at a1; cases a1
   exact r
  ·rw[J8 z]at e1;exact(h.obj j o a e1 a1).keep hw (λhm q=>z (h.nd i j p _ o e m0 e1 hm ea (q ▸ a1))) ex
def StoreOk.write {S:aa}{i:Jx}{p:Jz}{ws:Jn W}{us:Jn V}{ws0:Jn W}(h:StoreOk wd K A H S)(e:S[i]?=ba (.lst ws0))(ea:A[i]?=ba p)(r:RelL K A H ws us) :
  StoreOk wd K A (bv H p (.lst us)) (S.set i (.lst ws))/\Ext K A H A (bv H p (.lst us)):=
 h.writeO e rfl ea #[us,aK,r.mono (cF ((h.obj i _ p e ea).wr rfl))]
end
abbrev fS (S:aa)(i:Jx):Jw (Jn W):=match S[i]? with
 | some (.lst xs)=>ba xs
 | some (.fro xs)=>ba xs
 | _=>gV
abbrev o5 (S:aa)(i:Jx):Jw (Jn W):=match S[i]? with
 | some (.lst xs)=>ba xs
 | _=>gV
abbrev lY (S:aa)(xs:Jn W):Jw (W×aa):=if xs.length<=sizeLine then ba (.ref S.length,S++[.lst xs])else gV
abbrev rT (S:aa)(xs:Jn W):Jw (W×aa):=if xs.length<=sizeLine then ba (.tup xs,S)else gV
abbrev AT (j:JI):J3:=decide (0 < j)&&decide (j < 1073741824)
abbrev vk (i j:JI):J3:=(decide (-(2 ^ 64) < i)&&decide (i < 2 ^ 64))||(decide (-(2 ^ 64) < j)&&decide (j < 2 ^ 64))
abbrev FJ (i j:JI):J3:=decide (0<=j)&&decide (j<=1000000)&&decide (i.natAbs < 2 ^ 64)
inductive BOp where|add|sub|mul|fdiv|mod|pow
 deriving ML
abbrev Ap (c:JI->JI->J3)(f:JI->JI->JI)(x y:W)(S:aa):Jw (W×aa):=match x,y with
 | .int i,.int j=>if c i j then ba (.int (f i j),S)else gV
 | _,_=>gV
abbrev vm (x y:W)(S:aa):Jw (W×aa):=match x with
 | .int i=>match y with
  | .int j=>ba (.int (i+j),S)
  | _=>gV
 | .str x=>match y with
  | .str y=>if x.length+y.length<=sizeLine then ba (.str (x++y),S)else gV
  | _=>gV
 | .tup xs=>match y with
  | .tup ys=>rT S (xs++ys)
  | _=>gV
 | .ref i=>match y with
  | .ref j=>match o5 S i,o5 S j with
   | some xs,ba ys=>lY S (xs++ys)
   | _,_=>gV
  | _=>gV
 | _=>gV
abbrev xz (x y:W)(S:aa):Jw (W×aa):=match x with
 | .str x=>match y with
  | .int k=>if k < 2 ^ 24/\-(2 ^ 24)<=k/\x.length*k.toNat<=sizeLine then ba (.str (T6 x k),S)else gV
  | _=>gV
 | .ref i=>match y with
  | .int k=>match o5 S i with
   | some xs=>if k < 2 ^ 24/\-(2 ^ 24)<=k/\xs.length*k.toNat<=sizeLine then lY S (Km k.toNat xs).flatten else gV
   | none=>gV
  | _=>gV
 | x=>Ap vk (· * ·) x y S
abbrev fT:BOp->W->W->aa->Jw (W×aa)
 | .add,x,y,S=>vm x y S
 | .sub,x,y,S=>Ap (λ_ _=>true) (· - ·) x y S
 | .mul,x,y,S=>xz x y S
 | .fdiv,x,y,S=>Ap (λ_ j=>AT j) (· / ·) x y S
 | .mod,x,y,S=>Ap (λ_ j=>decide (0 < j)) (· % ·) x y S
 | .pow,x,y,S=>Ap FJ (λi j=>i ^ j.toNat) x y S
abbrev BOp.py:BOp->Qv
 | .add=>.Add|.sub=>.Sub|.mul=>.Mult|.fdiv=>.FloorDiv|.mod=>.Mod|.pow=>.Pow
section
variable (X:Cx)
inductive PostE (J:Jn (Jz×Lr))(Y:L2.St)(A:Jn Jz)(H:Hp)(S':aa)(w:W)(u:Jr)(s':Jt):Prop
 | mk (v:V) (H':Hp) (A':Jn Jz) (i:Inv X J Y H' s') (r:RelV v u) (e:Ext X.K A H A' H') (so:StoreOk X.w X.K A' H' S') (rl:Rel X.K A' H' w v):PostE J Y A H S' w u s'
noncomputable abbrev FE:=Fm->aa->Jw (W×aa)
abbrev LOp (f:Jr->Jr->Tb Jr)(g:W->W->aa->Jw (W×aa)):Prop:=
 ∀(J:Jn (Jz×Lr)) (s:Jt) (Y:L2.St) (H:Hp) (A:Jn Jz) (S:aa) (x y:W) (a b:V) (u v:Jr) (w:W) (S':aa),Inv X J Y H s->StoreOk X.w X.K A H S->
  Rel X.K A H x a->RelV a u->Rel X.K A H y b->RelV b v->g x y S=ba (w,S')->wpAny (model X.prog X.w) X.A (f u v) (PostE X J Y A H S' w) X.xe s
end
section
variable{X:Cx}
def kF {S:aa}{i:Jx}{xs:Jn W}(h:o5 S i=ba xs):S[i]?=ba (.lst xs):=by
 unfold o5 at h;split at h
 ·cases h; assumption
 ·cases h
def eS {A:Jn Jz}{H:Hp}{S:aa}{i:Jx}{xs:Jn W}{a:Jz}(so:StoreOk X.w X.K A H S)(h:o5 S i=ba xs)(ea:A[i]?=ba a):∃vs,H a=ba (.lst vs)/\RelL X.K A H xs vs:=
 so.obj i _ a (kF h) ea
def bo {A:Jn Jz}{H:Hp}{S:aa}{i:Jx}{xs:Jn W}{a:Jz}(so:StoreOk X.w X.K A H S)(h:fS S i=ba xs)(ea:A[i]?=ba a):∃vs,SqL X.K H a vs/\RelL X.K A H xs vs:=by
 unfold fS at h;split at h
 ·cases h;obtain⟨vs,q,r⟩:=so.obj i _ a (by assumption) ea
  exact#[vs,.of q,r]
 ·cases h;obtain⟨vs,q,r⟩:=so.obj i _ a (by assumption) ea
  exact#[vs,q.sq,r]
 ·cases h
def j8 {S S':aa}{xs:Jn W}{w:W}(h:lY S xs=ba (w,S')):xs.length<=sizeLine/\w=.ref S.length/\S'=S++[.lst xs]:=by
 unfold lY at h;split at h
 ·cases h; exact#[by assumption,rfl,rfl]
 ·cases h
def tm {S S':aa}{xs:Jn W}{w:W}(h:rT S xs=ba (w,S')):xs.length<=sizeLine/\w=.tup xs/\S'=S:=by
 unfold rT at h;split at h
 ·cases h; exact#[by assumption,rfl,rfl]
 ·cases h
def AU {A:Jn Jz}{H:Hp}{S:aa}{ws:Jn W}{vs:Jn V}{Q:VK}{p:Jz}(so:StoreOk X.w X.K A H S)(r:RelL X.K A H ws vs)(hp:H p=gV)
  (q:∀v H' A',Ext X.K A H A' H'->StoreOk X.w X.K A' H' (S++[.lst ws])->Rel X.K A' H' (.ref S.length) v->Q v H'):Q (.ref p) (bv H p (.lst vs)):=
 q _ _ (A++[p]) (cV hp) (so.push hp r) (.ref (by rw[<- so.len]; simp))
def AV {A:Jn Jz}{H:Hp}{S:aa}{ws:Jn W}{vs:Jn V}{Q:VK}{p:Jz}(so:StoreOk X.w X.K A H S)(r:RelL X.K A H ws vs)(hp:H p=gV)
  (q:∀v H' A',Ext X.K A H A' H'->StoreOk X.w X.K A' H' S->Rel X.K A' H' (.tup ws) v->Q v H'):Q (.ref p) (bv H p (.tup vs)):=
 q _ _ A (cF (.inl hp)) (so.lay hp) (.tup (.of aK) (r.mono (cF (.inl hp))))
abbrev FK (K:JE):R2:=λx y H Q=>∃a b xs ys,x=.ref a/\y=.ref b/\SqT K H a xs/\SqT K H b ys/\xs.length+ys.length<=sizeLine/\
 (xs=[]->Q (.ref b) H)/\(ys=[]->Q (.ref a) H)/\(∀p,H p=gV->Q (.ref p) (bv H p (.tup (xs++ys))))
def AW:OpR X (binaryOp .Add) (FK X.K):=by
 intro J s Y H x y v u Q I rx ry h;obtain⟨a,b,xs,ys,rfl,rfl,ha,hb,hz,q0,q1,q2⟩:=h;cases rx;cases ry;obtain⟨its,r1,p1,_⟩:=I.tuple ha;obtain⟨its2,r2,p2,_⟩:=I.tuple hb
 by_cases hx:xs=[]
 ·obtain⟨⟨cls,dd,data,sl⟩,ho,hc,n,hd⟩:=id p1;obtain⟨⟨cls2,dd2,data2,sl2⟩,ho2,hc2,n2,hd2⟩:=id p2;simp only at hc hd hc2 hd2;subst hc hd hc2 hd2;exact Qx #[_,ho,rfl] #[_,ho2,rfl] OZ P8 NF NB (Np _ _)
   (tuple_addW0 a b its.toArray its2.toArray n n2 dd dd2 sl sl2 (by simp[r1.nil_iff.mpr hx])) #[ho,ho2,#[.ref b,H,I,rfl,q0 hx]]
 ·show HT.AG p1 p2 (λz=>hx (r1.nil_iff.mp z)) (λz=>#[.ref a,H,I,rfl,q1 (r2.nil_iff.mp z)]) (λz=>?_) (by rw[<- r1.length,<- r2.length]; exact hz)
  show#[.ref s.heap.objs.size,_,I.laid (t':=s.toks) (o:=.tup (xs++ys)) (λb ob q=>Jq _ q) (JA _) ?_,rfl,q2 _ (I.hok.fresh (JA _))]
  exact#[by rw[JC]; exact hz,_,r1.append r2,QU _ _]
def RelL.nil_iff {K:JE}{A:Jn Jz}{H:Hp}{ws:Jn W}{vs:Jn V}(r:RelL K A H ws vs):vs=[]↔ws=[]:=by
 cases r <;> simp
def rV:OpR X (binaryOp .Mult) (λx y H Q=>∃z k,x=.str z/\y=.int k/\MulOk z k/\Q (.str (T6 z k)) H):=by
 intro J s Y H x y v u Q I rx ry h;obtain⟨z,k,rfl,rfl,ok,q⟩:=h;obtain⟨t,rfl⟩:=rx;obtain⟨t',rfl⟩:=ry;exact SB.mul ok λt2 k2=>#[.str _,H,I.tok _,#[_,rfl],q]
def xA {x:JS}{k:JI}(h1:k < 16777216)(h2 : -16777216<=k)(h3:x.length*k.toNat<=sizeLine):MulOk x k:=by
 have hs:sizeLine=16777216:=Ky;rw[hs]at h3;show#[?_,λa b=>?_,λ_ _=>?_]
 ·rw[Bool.or_eq_false_iff];exact#[Kl ∅,Kl ∅]
 ·have hk:0 < k:=∅
  have e:(x.length:JI)*k=((x.length*k.toNat:Jx):JI):=by
   rw[Pj,Nm ∅]
  intro hgt;have h4:(2 ^ 63 - 1:JI) < (x.length:JI)*k:=(Int.ediv_lt_iff_lt_mul hk).mp hgt;rw[e]at h4;generalize x.length*k.toNat=z at h3 h4;omega
 ·unfold R1;rw[hs];exact Kl ∅
inductive EndV (wd:Kq)(K:JE)(A:Jn Jz)(H:Hp)(S':aa)(w:W)(v:V)(H':Hp):Prop
 | mk (A':Jn Jz) (e:Ext K A H A' H') (so:StoreOk wd K A' H' S') (r:Rel K A' H' w v):EndV wd K A H S' w v H'
def EndV.here {A:Jn Jz}{H:Hp}{S:aa}{w:W}{v:V}(so:StoreOk X.w X.K A H S)(r:Rel X.K A H w v):EndV X.w X.K A H S w v H:=#[A,.refl,so,r]
def EndV.lst {A:Jn Jz}{H:Hp}{S:aa}{ws:Jn W}{vs:Jn V}{p:Jz}(so:StoreOk X.w X.K A H S)(r:RelL X.K A H ws vs)(hp:H p=gV):EndV X.w X.K A H (S++[.lst ws]) (.ref S.length) (.ref p) (bv H p (.lst vs)):=
 AU (Q:=EndV X.w X.K A H (S++[.lst ws]) (.ref S.length)) so r hp λv H' A' a b c=>#[A',a,b,c]
def EndV.tup {A:Jn Jz}{H:Hp}{S:aa}{ws:Jn W}{vs:Jn V}{p:Jz}(so:StoreOk X.w X.K A H S)(r:RelL X.K A H ws vs)(hp:H p=gV):EndV X.w X.K A H S (.tup ws) (.ref p) (bv H p (.tup vs)):=
 AV (Q:=EndV X.w X.K A H S (.tup ws)) so r hp λv H' A' a b c=>#[A',a,b,c]
def EP.post {J:Jn (Jz×Lr)}{Y:L2.St}{A:Jn Jz}{H:Hp}{S':aa}{w:W}{u:Jr}{s':Jt}(h:EP X J Y (EndV X.w X.K A H S' w) u s'):PostE X J Y A H S' w u s':=by
 obtain⟨v,H',I',r,A',x,y,z⟩:=h;exact#[v,H',A',I',r,x,y,z]
def OpR.go {f:Jr->Jr->Tb Jr}{r:R2}(h:OpR X f r){J:Jn (Jz×Lr)}{Y:L2.St}{A:Jn Jz}{H:Hp}{S':aa}{w:W}{s:Jt}{a b:V}{u v:Jr}(I:Inv X J Y H s)(ru:RelV a u)(rv:RelV b v)
  (q:r a b H (EndV X.w X.K A H S' w)):wpAny (model X.prog X.w) X.A (f u v) (PostE X J Y A H S' w) X.xe s:=bx (h J s Y H a b u v _ I ru rv q) λ_ _=>EP.post
def AX:LOp X (binaryOp .Add) (fT .add):=by
 intro J s Y H A S x y a b u v w S' I so rx ru ry rv e;cases rx with
 | int=>cases ry with
  | int=>cases e; exact OpR.go Dw I ru rv #[_,_,rfl,rfl,.here so .int]
  | _=>cases e
 | str=>cases ry with
  | str=>
   dsimp only[fT,vm]at e;split at e
   ·cases e; exact OpR.go rN I ru rv #[_,_,rfl,rfl,by assumption,.here so .str]
   ·cases e
  | _=>cases e
 | tup h1 r1=>cases ry with
  | tup h2 r2=>
   obtain⟨hl,rfl,rfl⟩:=tm (show rT S _=_ from e)
   rw[JC,r1.length,r2.length]at hl;show OpR.go AW I ru rv #[_,_,_,_,rfl,rfl,h1,h2,hl,λz=>?_,λz=>?_,λp hp=>.tup so (r1.append r2) hp]
   ·have z':=r1.nil_iff.mp z;subst z';exact .here so (.tup h2 r2)
   ·have z':=r2.nil_iff.mp z;subst z';rw[Li];exact .here so (.tup h1 r1)
  | _=>cases e
 | ref h1=>cases ry with
  | ref h2=>
   dsimp only[fT,vm]at e;split at e
   ·obtain⟨hl,rfl,rfl⟩:=j8 e;obtain⟨vs,q1,r1⟩:=eS so (by assumption) h1
    obtain⟨us,q2,r2⟩:=eS so (by assumption) h2
    rw[JC,r1.length,r2.length]at hl;exact OpR.go DN I ru rv #[_,_,_,_,rfl,rfl,q1,q2,hl,λp hp=>.lst so (r1.append r2) hp]
   ·cases e
  | _=>cases e
 | _=>cases e
def pf {f:Jr->Jr->Tb Jr}{c:JI->JI->J3}{g:JI->JI->JI}{r:R2}(h:OpR X f r)(hr:∀i j H Q,c i j=true->Q (.int (g i j)) H->r (.int i) (.int j) H Q):LOp X f (Ap c g):=by
 intro J s Y H A S x y a b u v w S' I so rx ru ry rv e;cases rx with
 | int=>cases ry with
  | int=>
   unfold Ap at e;dsimp only at e;split at e
   ·cases e; exact OpR.go h I ru rv (hr _ _ _ _ (by assumption) (.here so .int))
   ·cases e
  | _=>cases e
 | _=>cases e
def AY:LOp X (binaryOp .Sub) (fT .sub):=pf Dx λ_ _ _ _ _ q=>#[_,_,rfl,rfl,q]
def AZ {i j:JI}(h:vk i j=true):CMul i j:=by
 unfold vk at h;rw[Lk,Jv,Jv,JU,JU,JU,JU]at h;exact h
def A6:LOp X (binaryOp .Mult) (fT .mul):=by
 have hI:LOp X (binaryOp .Mult) (Ap vk (· * ·)):=pf Dy λ_ _ _ _ h q=>#[_,_,rfl,rfl,AZ h,q]
 intro J s Y H A S x y a b u v w S' I so rx ru ry rv e;cases x with
 | str z=>
  cases rx with
  | str=>cases ry with
   | int=>
    dsimp only[fT,xz]at e;split at e
    ·rename_i hc;cases e; exact OpR.go rV I ru rv #[_,_,rfl,rfl,xA ∅ ∅ hc.2.2,.here so .str]
    ·cases e
   | _=>cases e
 | ref z=>
  cases rx with
  | ref h1=>cases ry with
   | int=>
    dsimp only[fT,xz]at e;split at e
    ·split at e
     ·rename_i hc;obtain⟨hl,rfl,rfl⟩:=j8 e;obtain⟨vs,q1,r1⟩:=eS so (by assumption) h1
      rw[r1.length]at hc;exact OpR.go DO I ru rv #[_,_,_,rfl,rfl,q1,∅,∅,hc.2.2,λp hp=>.lst so (r1.rep _) hp]
     ·cases e
    ·cases e
   | _=>cases e
 | _=>exact hI _ _ _ _ _ _ _ _ _ _ _ _ _ _ I so rx ru ry rv e
def xB:LOp X (binaryOp .FloorDiv) (fT .fdiv):=pf AB λ_ _ _ _ h q=>#[_,_,rfl,rfl,by
 unfold AT at h;rw[Jv,JU,JU]at h;exact h,q]
def A7:LOp X (binaryOp .Mod) (fT .mod):=pf Dz λ_ _ _ _ h q=>#[_,_,rfl,rfl,Kt h,q]
def Ba:LOp X (binaryOp .Pow) (fT .pow):=pf DA λ_ _ _ _ h q=>#[_,_,rfl,rfl,by
 unfold FJ at h;rw[Jv,Jv,JU,JU,JU]at h;exact#[h.1.1,h.1.2,h.2],q]
def tq (o:BOp):LOp X (binaryOp o.py) (fT o):=by
 cases o
 ·exact AX
 ·exact AY
 ·exact A6
 ·exact xB
 ·exact A7
 ·exact Ba
end
abbrev j3 (f:W->W->Jw J3):Jn W->Jn W->Jw J3
 | [],[]=>ba true
 | [],_::_=>ba false
 | _::_,[]=>ba false
 | x::xs,y::ys=>match f x y,j3 f xs ys with
  | some a,ba b=>ba (a&&b)
  | _,_=>gV
abbrev b2 (b:J3):JI:=if b then 1 else 0
abbrev kG (S:aa):Jx->W->W->Jw J3
 | _,.non,y=>match y with
  | .non=>ba true
  | _=>gV
 | _,.bl a,y=>match y with
  | .bl b=>ba (a==b)
  | _=>gV
 | _,.int a,y=>match y with
  | .int b=>ba (a==b)
  | _=>gV
 | _,.str a,y=>match y with
  | .str b=>ba (a==b)
  | _=>gV
 | 0,_,_=>gV
 | d+1,.tup xs,y=>match y with
  | .tup ys=>j3 (kG S d) xs ys
  | _=>gV
 | d+1,.ref i,y=>match y with
  | .ref j=>match o5 S i,o5 S j with
   | some xs,ba ys=>if xs.length=ys.length then j3 (kG S d) xs ys else ba false
   | _,_=>gV
  | _=>gV
section
variable{X:Cx}{J:Jn (Jz×Lr)}{Y:L2.St}{H:Hp}{s:Jt}{A:Jn Jz}{S:aa}
abbrev RU (K:JE)(A:Jn Jz)(H:Hp)(w:W)(u:Jr):Prop:=∃v,Rel K A H w v/\RelV v u
def tu {ws:Jn W}{vs:Jn V}{us:Jn Jr}(r:RelL X.K A H ws vs)(q:Vals vs us):∀(j:Jx) (h1:j < ws.length) (h2:j < us.length),RU X.K A H ws[j] us[j]:=by
 induction ws generalizing vs us with
 | nil=>intro j h1; simp at h1
 | cons w ws ih=>
  cases r with
  | cons r1 rr=>
   cases q with
   | cons q1 qq=>
    intro j h1 h2;cases j with
    | zero=>exact#[_,r1,q1]
    | succ j=>exact ih rr qq j (by simpa using h1) (by simpa using h2)
def xC {ws:Jn W}{u:Jr}(I:Inv X J Y H s)(h:RU X.K A H (.tup ws) u):∃a its,u=.ref a/\Qs s.heap a its/\its.size=ws.length/\ws.length<=sizeLine/\∀(j:Jx) (h1:j < ws.length) (h2:j < its.size),RU X.K A H ws[j] its[j]:=by
 obtain⟨v,r,q⟩:=h;cases r with
 | tup sq rl=>
  obtain⟨its,rv,ht,hz⟩:=I.tuple sq;show#[_,its.toArray,q,ht,by rw[JM,<- rv.length,rl.length],by rw[rl.length]; exact hz,λj h1 h2=>?_]
  have:=tu rl rv j h1 (by simpa using h2)
  simpa using this
def xD {i:Jx}{ws:Jn W}{u:Jr}(I:Inv X J Y H s)(so:StoreOk X.w X.K A H S)(e:o5 S i=ba ws)(h:RU X.K A H (.ref i) u):∃a its,u=.ref a/\A[i]?=ba a/\s.heap.IsList a its/\its.size=ws.length/\ws.length<=sizeLine/\∀(j:Jx) (h1:j < ws.length) (h2:j < its.size),RU X.K A H ws[j] its[j]:=by
 obtain⟨v,r,q⟩:=h;cases r with
 | ref ea=>
  obtain⟨vs,hq,rl⟩:=eS so e ea;obtain⟨its,rv,ht,hz⟩:=I.list (.of hq);show#[_,its.toArray,q,ea,ht.isList,by rw[JM,<- rv.length,rl.length],by rw[rl.length]; exact hz,λj h1 h2=>?_]
  have:=tu rl rv j h1 (by simpa using h2)
  simpa using this
def kH {f:W->W->Jw J3}:∀ {xs ys:Jn W} {k:J3},j3 f xs ys=ba k->∃e:Jx->J3,(∀(j:Jx) (h1:j < xs.length) (h2:j < ys.length),f xs[j] ys[j]=ba (e j))/\
  k=((JW (min xs.length ys.length)).all e&&xs.length==ys.length)
 | [],[],k,h=>#[λ_=>true,λj h1=>by simp at h1,by cases h; rfl]
 | [],_::_,k,h=>#[λ_=>true,λj h1=>by simp at h1,by cases h; simp]
 | _::_,[],k,h=>#[λ_=>true,λj h1 h2=>by simp at h2,by cases h; simp]
 | x::xs,y::ys,k,h=>by
  dsimp only[j3]at h;split at h
  ·rename_i a b ha hb;cases h;obtain⟨e,h1,h2⟩:=kH hb;show#[λj=>match j with|0=>a|j+1=>e j,λj hj1 hj2=>?_,?_]
   ·cases j with
    | zero=>exact ha
    | succ j=>exact h1 j (by simpa using hj1) (by simpa using hj2)
   ·subst h2;simp only[Kr,Nat.add_min_add_right,O9,KL,SF,Bool.and_assoc];congr 2;simp
  ·cases h
def Bb (I:Inv X J Y H s)(so:StoreOk X.w X.K A H S):∀(d:Jx) {x y:W} {v:V} {k:J3},Rel X.K A H x v->Rel X.K A H y v->kG S d x y=ba k->k=true:=by
 intro d
 induction d with
 | zero=>
  intro x y v k rx ry e;cases rx with
  | non=>cases ry; cases e; rfl
  | bl=>cases ry; cases e; exact KJ _
  | int=>cases ry; cases e; exact KJ _
  | str=>cases ry; cases e; exact KJ _
  | tup _ _=>cases e
  | ref _=>cases e
 | succ d ih=>
  have lists:∀ {xs ys:Jn W} {vs:Jn V} {k:J3},RelL X.K A H xs vs->RelL X.K A H ys vs->j3 (kG S d) xs ys=ba k->k=true:=by
   intro xs
   induction xs with
   | nil=>
    intro ys vs k r1 r2 e;cases r1; cases r2; cases e; rfl
   | cons x xs ihx=>
    intro ys vs k r1 r2 e;cases r1 with
    | cons p1 q1=>
     cases r2 with
     | cons p2 q2=>
      dsimp only[j3]at e;split at e
      ·rename_i a b ha hb;cases e;rw[ih p1 p2 ha,ihx q1 q2 hb];rfl
      ·cases e
  intro x y v k rx ry e;cases rx with
  | non=>cases ry; cases e; rfl
  | bl=>cases ry; cases e; exact KJ _
  | int=>cases ry; cases e; exact KJ _
  | str=>cases ry; cases e; exact KJ _
  | tup h1 r1=>
   cases ry with
   | tup h2 r2=>
    rw[I.tuple_inj h1 h2]at r1;exact lists r1 r2 e
   | ref ea=>cases e
  | ref ea=>
   cases ry with
   | tup h2 r2=>cases e
   | ref eb=>
    dsimp only[kG]at e;split at e
    ·rename_i xs ys hx hy;have:=so.nd _ _ _ _ _ (kF hx) rfl (kF hy) rfl ea eb;subst this;rw[hx]at hy; cases hy
     rw[JX rfl]at e;obtain⟨vs,q,r⟩:=eS so hx ea;exact lists r r e
    ·cases e
def aH (A:Ki):A.in1.units=A.units+1:=rfl
noncomputable abbrev E1 (B:Ki)(s:Jt)(u v:Jr)(k:J3):Prop:=SeqAt.RcAt B s u v k/\SeqAt.RcNeAt B s u v (!k)/\NV B s u v k
open SeqAt in
def CD (I:Inv X J Y H s)(so:StoreOk X.w X.K A H S):∀(d:Jx) (B:Ki) {x y:W} {u v:Jr} {k:J3},B.units+d < cLine->RU X.K A H x u->RU X.K A H y v->kG S d x y=ba k->E1 B s u v k:=by
 have non:∀ {B:Ki} {y:W} {u v:Jr} {k:J3} {d:Jx},RU X.K A H .non u->RU X.K A H y v->kG S d .non y=ba k->E1 B s u v k:=by
  intro B y u v k d ⟨_,rx,ra⟩ ⟨_,ry,rb⟩ e;cases rx;cases(show u=Kz from ra)
  cases y with
  | non=>
   have e:ba (true)=ba k:=by cases d <;> exact e
   cases e;cases ry;cases(show v=Kz from rb)
   exact#[.none_none,.none_none,.same _]
  | _=>cases d <;> cases e
 have bl:∀ {B:Ki} {b:J3} {y:W} {u v:Jr} {k:J3} {d:Jx},RU X.K A H (.bl b) u->RU X.K A H y v->kG S d (.bl b) y=ba k->E1 B s u v k:=by
  intro B b y u v k d ⟨_,rx,ra⟩ ⟨_,ry,rb⟩ e;cases rx;cases(show u=M3 _ from ra)
  cases y with
  | bl c=>
   have e:ba (b==c)=ba k:=by cases d <;> exact e
   cases e;cases ry;cases(show v=M3 _ from rb)
   exact#[.bool_bool _ _,.bool_bool _ _,.bool_bool _ _]
  | _=>cases d <;> cases e
 have int:∀ {B:Ki} {b:JI} {y:W} {u v:Jr} {k:J3} {d:Jx},RU X.K A H (.int b) u->RU X.K A H y v->kG S d (.int b) y=ba k->E1 B s u v k:=by
  intro B b y u v k d ⟨_,rx,ra⟩ ⟨_,ry,rb⟩ e;cases rx;obtain⟨t0,rfl⟩ : ∃t,u=OY _ t:=ra;cases y with
  | int c=>
   have e:ba (b==c)=ba k:=by cases d <;> exact e
   cases e;cases ry;obtain⟨t,rfl⟩ : ∃t,v=OY _ t:=rb;exact#[.int_int _ _ _ _,.int_int _ _ _ _,.int_int _ _ _ _]
  | _=>cases d <;> cases e
 have str:∀ {B:Ki} {b:JS} {y:W} {u v:Jr} {k:J3} {d:Jx},RU X.K A H (.str b) u->RU X.K A H y v->kG S d (.str b) y=ba k->E1 B s u v k:=by
  intro B b y u v k d ⟨_,rx,ra⟩ ⟨_,ry,rb⟩ e;cases rx;obtain⟨t0,rfl⟩ : ∃t,u=NU _ t:=ra;cases y with
  | str c=>
   have e:ba (b==c)=ba k:=by cases d <;> exact e
   cases e;cases ry;obtain⟨t,rfl⟩ : ∃t,v=NU _ t:=rb;exact#[.str_str _ _ _ _,.str_str _ _ _ _,.str_str _ _ _ _]
  | _=>cases d <;> cases e
 intro d
 induction d with
 | zero=>
  intro B x y u v k hu rx ry e;cases x with
  | non=>exact non rx ry e
  | bl b=>exact bl rx ry e
  | int b=>exact int rx ry e
  | str b=>exact str rx ry e
  | _=>cases e
 | succ d ih=>
  intro B x y u v k hu rx ry e;have hu0:B.units < cLine:=∅
  have hu1:B.in1.units+d < cLine:=by rw[aH]; omega
  have rx0:=rx;have ry0:=ry;have fin:∀ {a b:Jz},u=.ref a->v=.ref b->RcAt B s u v k->RcNeAt B s u v (!k)->E1 B s u v k:=by
   intro a b ea eb h1 h2;subst ea eb;show#[h1,h2,?_]
   by_cases hab:a=b
   ·subst hab;obtain⟨v1,q1,z1⟩:=rx0;obtain⟨v2,q2,z2⟩:=ry0;have e12:v1=v2:=z1.inj z2;subst e12;have:=Bb I so (d+1) q1 q2 e;subst this;exact EqAt.same _
   ·exact EqAt.of_refs hab h1
  cases x with
  | non=>exact non rx ry e
  | bl b=>exact bl rx ry e
  | int b=>exact int rx ry e
  | str b=>exact str rx ry e
  | tup xs=>
   cases y with
   | tup ys=>
    obtain⟨a,its,rfl,ht,hs,_,hi⟩:=xC I rx;obtain⟨b,its2,rfl,ht2,hs2,_,hi2⟩:=xC I ry;obtain⟨f,h1,h2⟩:=kH (show j3 (kG S d) xs ys=ba k from e)
    have he:∀j (h1:j < its.size) (h2:j < its2.size),EqAt B.in1 s its[j] its2[j] (f j):=λj j1 j2=>
     (ih B.in1 hu1 (hi j (hs ▸ j1) j1) (hi2 j (hs2 ▸ j2) j2) (h1 j (hs ▸ j1) (hs2 ▸ j2))).2.2
    rw[<- hs,<- hs2]at h2;subst h2;exact fin rfl rfl (RcAt.tuples ht ht2 hu0 he) (RcNeAt.tuples ht ht2 hu0 he)
   | _=>cases e
  | ref i=>
   cases y with
   | ref j=>
    dsimp only[kG]at e;split at e
    ·rename_i ws ws2 hw hw2;obtain⟨a,its,rfl,_,hl,hs,_,hi⟩:=xD I so hw rx;obtain⟨b,its2,rfl,_,hl2,hs2,_,hi2⟩:=xD I so hw2 ry;split at e
     ·rename_i hlen;obtain⟨f,h1,h2⟩:=kH e;have he:∀j (h1:j < its.size) (h2:j < its2.size),EqAt B.in1 s its[j] its2[j] (f j):=λj j1 j2=>
       (ih B.in1 hu1 (hi j (hs ▸ j1) j1) (hi2 j (hs2 ▸ j2) j2) (h1 j (hs ▸ j1) (hs2 ▸ j2))).2.2
      have hk:k=(JW its.size).all f:=by rw[h2,hs,hlen]; simp
      subst hk;exact fin rfl rfl (RcAt.lists hl hl2 (by rw[hs,hs2,hlen]) hu0 he) (RcNeAt.lists hl hl2 (by rw[hs,hs2,hlen]) hu0 he)
     ·rename_i hlen;cases e;have hb:(its.size != its2.size)=true:=by rw[hs,hs2]; simpa using hlen
      exact fin rfl rfl (RcAt.lists_lengths hl hl2 hb hu0) (RcNeAt.lists_lengths hl hl2 hb hu0)
    ·cases e
   | _=>cases e
end
abbrev LtAt (B:Ki)(s:Jt)(u v:Jr)(k:J3):Prop:=
 ∀(prog:Kf) (w:Kq) (E:Jr->Jt->Prop) (Q:Jr->Jt->Prop),Q (.bool k) s->wpAny (model prog w) B (richCompare .Lt u v) Q E s
inductive LexR (B:Ki)(s:Jt):Jn Jr->Jn Jr->J3->Prop
 | nn:LexR B s [] [] false
 | nc {v:Jr} {vs:Jn Jr}:LexR B s [] (v::vs) true
 | cn {v:Jr} {vs:Jn Jr}:LexR B s (v::vs) [] false
 | eq {u v:Jr} {us vs:Jn Jr} {k:J3}:NV B s u v true->LexR B s us vs k->LexR B s (u::us) (v::vs) k
 | ne {u v:Jr} {us vs:Jn Jr} {k:J3}:NV B s u v false->LtAt B s u v k->LexR B s (u::us) (v::vs) k
section
open PySem.SeqAt
open PySem.AutoSeq1 (wpAny_loadPart')
open PySem.MeetsSeq PySem.MeetsSeq2 PySem.MeetsSeq3
def nM (l b:Jz)(items items2:J7 Jr)(n n2:Jx)(dd dd2:Jw Jz)(sl sl2:J7 (Jw Jr))(k:J3) :
  Meets (Mz.«tuple.__lt__» #[[.ref l,.ref b],[]])
   (λB R s=>s.heap.get? l=ba { cls:=.type "tuple",dict:=dd,data:=.seq items n,slots:=sl }/\s.heap.get? b=ba { cls:=.type "tuple",dict:=dd2,data:=.seq items2 n2,slots:=sl2 }/\
    LexR B.in1 s items.toList items2.toList k/\R (.ok (.ret (.bool k))) s):=
 .of_wp λprog w A R s h=>by
  obtain⟨hp,g,d,tk,os⟩:=s; obtain⟨hl,hb,hx,h⟩:=h
  have f2:=Sc;have z1:items.toList.length=items.size:=by simp
  have z2:items2.toList.length=items2.size:=by simp
  wp_walk using N5 hl,N5 hb,Nd _ (λbw b s'=>b.1=gV/\s'=#[hp,g,d,tk,os]/\∃(vs ws:Jn Jr),bw=vs.zip ws/\
   LexR A.in1 #[hp,g,d,tk,os] vs ws k/\vs.length+items2.size=ws.length+items.size) _
  case turn=>
   rintro⟨y,x⟩ bw b s' ⟨hb',rfl,vs,ws,hz,hlx,hlen⟩;cases hlx with
   | nn=>rw[QE]at hz; cases hz
   | nc=>rw[QE]at hz; cases hz
   | cn=>rw[List.zip_nil_right]at hz; cases hz
   | eq he hr=>
    rw[MQ]at hz;injection hz with hyx hrest
    injection hyx with hy hx
    subst hy hx;simp only[Kr]at hlen;show Jo (he prog w _ _ ?_)
    wp_walk
    exact#[rfl,rfl,_,_,hrest,hr,∅]
   | ne he hr=>
    rw[MQ]at hz;injection hz with hyx hrest
    injection hyx with hy hx
    subst hy hx;show Jo (he prog w _ _ ?_);have hri:=hr prog w
    wp_walk using hri
    exact#[_,rfl,by simpa using h]
  case fin=>
   rintro⟨b1,b2⟩ s' ⟨hb',rfl,vs,ws,hz,hlx,hlen⟩;simp only at hb';subst hb';have hv:k=decide (items.size < items2.size):=by
    cases hlx with
    | nn=>simp only[LS]at hlen; exact(Kl ∅).symm
    | nc=>simp only[LS,Kr]at hlen; exact(K6 ∅).symm
    | cn=>simp only[LS,Kr]at hlen; exact(Kl ∅).symm
    | eq _ _=>rw[MQ]at hz; cases hz
    | ne _ _=>rw[MQ]at hz; cases hz
   subst hv
   wp_walk
   exact#[_,rfl,by simpa [QR]using h]
  case h=>
   exact#[rfl,rfl,items.toList,items2.toList,rfl,hx,∅]
end
def LtAt.tuples {B:Ki}{s:Jt}{l b:Jz}{items items2:J7 Jr}{k:J3}(hl:Qs s.heap l items)(hb:Qs s.heap b items2)(hu:B.units < cLine)(hx:LexR B.in1 s items.toList items2.toList k) :
  LtAt B s (.ref l) (.ref b) k:=λprog w E Q h=>by
 obtain⟨⟨cls,dd,data,sl⟩,ho,hc,n,hd⟩:=id hl;obtain⟨⟨cls2,dd2,data2,sl2⟩,ho2,hc2,n2,hd2⟩:=id hb;simp only at hc hd hc2 hd2;subst hc hd hc2 hd2;exact richCompare_meets_room (op:=.Lt) #[_,ho,rfl] #[_,ho2,rfl] PySem.F.slot_tuple_lt PySem.F.entry_tuple_lt (PySem.F.args_tuple_lt_2 _ _) (nM l b items items2 n n2 dd dd2 sl sl2 k)
  #[ho,ho2,hx,show M3 k≠Value.notImplemented/\Q (.bool k) s from#[(λx=>nomatch x),h]] hu
inductive COp where|eq|ne|lt|le|gt|ge|isin|notin|is|isnot
 deriving ML
abbrev COp.py:COp->Sy
 | .eq=>.Eq|.ne=>.NotEq|.lt=>.Lt|.le=>.LtE|.gt=>.Gt|.ge=>.GtE|.isin=>.In|.notin=>.NotIn|.is=>.Is|.isnot=>.IsNot
abbrev bI:W->J3
 | .non=>true
 | .bl _=>true
 | .int _=>true
 | .str _=>true
 | _=>false
abbrev xE:W->W->J3
 | .non,.non=>true
 | .bl a,.bl b=>a==b
 | .bl a,.int b=>b2 a==b
 | .int a,.bl b=>a==b2 b
 | .int a,.int b=>a==b
 | .str a,.str b=>a==b
 | _,_=>false
abbrev eH (S:aa):W->Jw (Jn W)
 | .tup xs=>ba xs
 | .ref i=>fS S i
 | _=>gV
noncomputable abbrev ii:Jx:=20
abbrev Bc (x y:W)(S:aa):Jw J3:=match eH S y with
 | some ys=>if bI x&&ys.all bI then ba (ys.any λz=>xE z x)else gV
 | none=>gV
abbrev xF:W->J3
 | .non=>true
 | _=>false
abbrev xG (f:JI->JI->J3):W->W->Jw J3
 | .int i,.int j=>ba (f i j)
 | _,_=>gV
abbrev DP:COp->W->W->aa->Jw J3
 | .eq,x,y,S=>kG S ii x y
 | .ne,x,y,S=>(kG S ii x y).map (!·)
 | .lt,x,y,_=>xG (λi j=>decide (i < j)) x y
 | .le,x,y,_=>xG (λi j=>decide (i<=j)) x y
 | .gt,x,y,_=>xG (λi j=>decide (j < i)) x y
 | .ge,x,y,_=>xG (λi j=>decide (j<=i)) x y
 | .isin,x,y,S=>Bc x y S
 | .notin,x,y,S=>(Bc x y S).map (!·)
 | .is,x,y,_=>if xF y then ba (xF x)else gV
 | .isnot,x,y,_=>if xF y then ba (!xF x)else gV
abbrev ik (o:COp)(x y:W)(S:aa):Jw (W×aa):=(DP o x y S).map λk=>(.bl k,S)
section
variable{X:Cx}
def tz {J:Jn (Jz×Lr)}{Y:L2.St}{H:Hp}{s:Jt}{A:Jn Jz}{S:aa}{k:J3}(I:Inv X J Y H s)(so:StoreOk X.w X.K A H S):PostE X J Y A H S (.bl k) (.bool k) s:=
 #[.bl k,H,A,I,rfl,.refl,so,.bl]
def Bd {o:COp}{x y w:W}{S S':aa}(h:ik o x y S=ba (w,S')):∃k,DP o x y S=ba k/\w=.bl k/\S'=S:=by
 unfold ik at h;rw[Js]at h;obtain⟨k,h1,h2⟩:=h;cases h2;exact#[k,h1,rfl,rfl]
def pg {A:Jn Jz}{H:Hp}{w:W}{v:V}(r:Rel X.K A H w v)(f:bI w=true):gY v=true:=by
 cases r <;> first|rfl|cases f
def mB {A:Jn Jz}{H:Hp}:∀ {ws:Jn W} {vs:Jn V},RelL X.K A H ws vs->ws.all bI=true->vs.all gY=true
 | _,_,.nil,_=>rfl
 | _,_,.cons r t,f=>by
  rw[KL,Jv]at f ⊢;exact#[pg r f.1,mB t f.2]
def Be {A:Jn Jz}{H:Hp}{x y:W}{u v:V}(r:Rel X.K A H x u)(q:Rel X.K A H y v)(fx:bI x=true)(fy:bI y=true):AM u v=xE x y:=by
 cases r <;> cases q <;> first|rfl|cases fx|cases fy
def tB {A:Jn Jz}{H:Hp}{y:W}{v:V}(q:Rel X.K A H y v)(fy:bI y=true):∀ {ws:Jn W} {vs:Jn V},RelL X.K A H ws vs->ws.all bI=true->Hd v vs=ws.any λz=>xE z y
 | _,_,.nil,_=>rfl
 | _,_,.cons r t,f=>by
  rw[KL,Jv]at f;have:=tB q fy t f.2;unfold Hd at this ⊢;rw[L9,L9,Be r q f.1 fy,this]
def nN {J:Jn (Jz×Lr)}{Y:L2.St}{H:Hp}{s:Jt}{A:Jn Jz}{S:aa}{y:W}{b:V}{ys:Jn W}(so:StoreOk X.w X.K A H S)(r:Rel X.K A H y b)(e:eH S y=ba ys):∃p vs,b=.ref p/\(SqL X.K H p vs\/SqT X.K H p vs)/\RelL X.K A H ys vs:=by
 cases r with
 | tup h1 r1=>cases e; exact#[_,_,rfl,.inr h1,r1]
 | ref ea=>
  obtain⟨vs,h1,r1⟩:=bo so e ea;exact#[_,vs,rfl,.inl h1,r1]
 | _=>cases e
def xH {neg:J3}{o:Sy}(ho:OpR X (compareOp o) (HP X.K neg)){J:Jn (Jz×Lr)}{Y:L2.St}{H:Hp}{s:Jt}{A:Jn Jz}{S:aa}{x y:W}{a b:V}{u v:Jr}{ys:Jn W}(I:Inv X J Y H s)(so:StoreOk X.w X.K A H S)
  (rx:Rel X.K A H x a) (ru:RelV a u) (ry:Rel X.K A H y b) (rv:RelV b v) (e:eH S y=ba ys) (f:(bI x&&ys.all bI)=true) :
  wpAny (model X.prog X.w) X.A (compareOp o u v) (PostE X J Y A H S (.bl (if neg then !ys.any λz=>xE z x else ys.any λz=>xE z x))) X.xe s:=by
 obtain⟨p,vs,rfl,hq,rl⟩:=nN (J:=J) (Y:=Y) (s:=s) so ry e;rw[Jv]at f;show OpR.go ho I ru rv #[p,vs,rfl,hq,pg rx f.1,mB rl f.2,?_];rw[tB rx f.1 rl f.2];exact .here so .bl
def Bf (hu:X.A.units+ii < cLine)(o:COp):LOp X (compareOp o.py) (ik o):=by
 intro J s Y H A S x y a b u v w S' I so rx ru ry rv e;obtain⟨k,ek,e1,e2⟩:=Bd e;subst e1;subst e2;clear e
 rename aa=>S
 have twoI:∀ {f:JI->JI->J3},xG f x y=ba k->∃i j,x=.int i/\y=.int j/\k=f i j:=by
  intro f h;cases x with
  | int i=>cases y with
   | int j=>cases h; exact#[i,j,rfl,rfl,rfl]
   | _=>cases h
  | _=>cases h
 have hu1:X.A.units+1 < cLine:=by have:ii=20:=rfl; omega
 have ofSq:∀ {c:J3},Bc x y S=ba c->(∃ys,eH S y=ba ys/\(bI x&&ys.all bI)=true/\c=ys.any λz=>xE z x):=by
  intro c h;unfold Bc at h;split at h
  ·split at h
   ·cases h; exact#[_,by assumption,by assumption,rfl]
   ·cases h
  ·cases h
 have ofN:∀ {c:J3},(if xF y then ba c else gV)=ba k->y=.non/\k=c:=by
  intro c h;cases y with
  | non=>cases h; exact#[rfl,rfl]
  | _=>cases h
 cases o with
 | eq=>exact(CD I so ii X.A hu #[a,rx,ru] #[b,ry,rv] ek).1 _ _ _ _ (tz I so)
 | ne=>
  obtain⟨k',h1,rfl⟩:=Js.mp ek;exact(CD I so ii X.A hu #[a,rx,ru] #[b,ry,rv] h1).2.1 _ _ _ _ (tz I so)
 | lt=>
  obtain⟨i,j,rfl,rfl,rfl⟩:=twoI ek;cases rx; cases ry
  exact OpR.go Fs I ru rv #[_,_,rfl,rfl,.here so .bl]
 | le=>
  obtain⟨i,j,rfl,rfl,rfl⟩:=twoI ek;cases rx; cases ry
  exact OpR.go Ft I ru rv #[_,_,rfl,rfl,.here so .bl]
 | gt=>
  obtain⟨i,j,rfl,rfl,rfl⟩:=twoI ek;cases rx; cases ry
  exact OpR.go Fu I ru rv #[_,_,rfl,rfl,.here so .bl]
 | ge=>
  obtain⟨i,j,rfl,rfl,rfl⟩:=twoI ek;cases rx; cases ry
  exact OpR.go Fv I ru rv #[_,_,rfl,rfl,.here so .bl]
 | isin=>
  obtain⟨ys,h1,h2,rfl⟩:=ofSq ek;exact xH (neg:=false) vd I so rx ru ry rv h1 h2
 | notin=>
  obtain⟨c,h,rfl⟩:=Js.mp ek;obtain⟨ys,h1,h2,rfl⟩:=ofSq h;exact xH (neg:=true) nJ I so rx ru ry rv h1 h2
 | is=>
  obtain⟨rfl,rfl⟩:=ofN ek;cases ry;show OpR.go DC I ru rv #[rfl,?_];cases rx <;> exact .here so .bl
 | isnot=>
  obtain⟨rfl,rfl⟩:=ofN ek;cases ry;show OpR.go AC I ru rv #[rfl,?_];cases rx <;> exact .here so .bl
end
end Mi
namespace HT
open PySem PyProof.Rows
section
variable{prog:Kf}{w:Kq}{A:Ki}{E:Jr->Jt->Prop}{s:Jt}
def gR {t sl:Jz}{items:J7 Jr}{vl vu:Jr}{lo hi:Jw JI}{Q:Jr->Jt->Prop}(ht:Qs s.heap t items)(hs:s.heap.IsSliceOf sl vl vu .none)(pl:On vl lo)(pu:On vu hi)
  (hw:cx items.size 0 lo=0/\cx items.size items.size hi=items.size) (h:Q (.ref t) s):wpAny (model prog w) A (getItem (.ref t) (.ref sl)) Q E s:=by
 obtain⟨os,hos,hcs,hds⟩:=id hs;have hTs:s.TypeIs (.ref sl) "slice":=#[os,hos,hcs];unfold getItem
 try with_reducible show KR ?_
 first|refine Jo (Ju ?_)|skip
 show Jo (Qy ht.typeIs #v[] ?_)
 show Jo (KI (name:=LG "__getitem__") ht.typeIs LU
  (KM LU ht.typeIs P2 ?_ (Qi _ _)))
 change wpAny _ _ (M4 (.ref t) >>= _) _ _ s;show Jo (R6 ht ?_);show Jo (MO hTs ?_);rw[JX #v[]]
 show Jo (eZ hs pl pu ?_);have hyes:((((cx items.size 0 lo:Jx):JI)==0&&(1:JI)==1&&(cx items.size items.size hi - cx items.size 0 lo)==items.size)=true):=by
  rw[hw.1,hw.2];simp
 change wpAny _ _ (if (((cx items.size 0 lo:Jx):JI)==0&&(1:JI)==1&&(cx items.size items.size hi - cx items.size 0 lo)==items.size)=true then _ else _) _ _ s
 rw[JX hyes];unfold RO;show Jo (Jo (MO ht.typeIs (Ju ?_)));rw[JX #v[]]
 exact Jo (Ol (Jo (Ju (Ju #[_,rfl,Ju h]))))
end
end HT
namespace Mi
open PySem PySem.Spec PyProof.Rows L2
abbrev vn (x y:W)(S:aa):Jw (W×aa):=match x,y with
 | .tup xs,.int i=>(pd xs i).map λw=>(w,S)
 | .ref r,.int i=>match fS S r with
  | some xs=>(pd xs i).map λw=>(w,S)
  | none=>gV
 | .str x,.int i=>if x.length<=sizeLine then(pd x.cps.toList i).map λc=>(.str #[[c].toArray],S)else gV
 | _,_=>gV
abbrev jj (xs:Jn W)(lo hi:Jw JI):Jn W:=(xs.drop (HT.cx xs.length 0 lo)).take (HT.cx xs.length xs.length hi - HT.cx xs.length 0 lo)
abbrev ph (x:W)(lo hi:Jw JI)(S:aa):Jw (W×aa):=match x with
 | .tup xs=>ba (.tup (jj xs lo hi),S)
 | .ref r=>match fS S r with
  | some xs=>ba (.ref S.length,S++[.lst (jj xs lo hi)])
  | none=>gV
 | _=>gV
abbrev vo (o i v:W)(S:aa):Jw aa:=match o,i with
 | .ref r,.int k=>match o5 S r with
  | some xs=>match sZ xs.length k with
   | some j=>ba (S.set r (.lst (xs.set j v)))
   | none=>gV
  | none=>gV
 | _,_=>gV
section
variable (X:Cx)
abbrev LIx (g:W->W->aa->Jw (W×aa)):Prop:=
 ∀(value slice:J2) (J:Jn (Jz×Lr)) (s:Jt) (Y:L2.St) (H:Hp) (A:Jn Jz) (S:aa) (x y:W) (a b:V) (u v:Jr) (w:W) (S':aa),Inv X J Y H s->StoreOk X.w X.K A H S->
  Rel X.K A H x a->RelV a u->Rel X.K A H y b->RelV b v->g x y S=ba (w,S')->subscripted slice false u v=operate [u,v] (getItem u v)->wpAny (model X.prog X.w) X.A (subscriptTail value slice u v) (PostE X J Y A H S' w) X.xe s
abbrev LSl (g:W->Jw JI->Jw JI->aa->Jw (W×aa)):Prop:=
 ∀(J:Jn (Jz×Lr)) (s:Jt) (Y:L2.St) (H:Hp) (A:Jn Jz) (S:aa) (x:W) (a:V) (v vl vu:Jr) (lo hi:Jw JI) (sl:Jz) (w:W) (S':aa),Inv X J Y H s->StoreOk X.w X.K A H S->
  Rel X.K A H x a->RelV a v->s.heap.IsSliceOf sl vl vu .none->On vl lo->On vu hi->g x lo hi S=ba (w,S')->
  ∃T id,typeLookup (.type T) "__getitem__" = pure (ba (.builtin id))/\s.TypeIs v T/\wpAny (model X.prog X.w) X.A (getItem v (.ref sl)) (PostE X J Y A H S' w) X.xe s
abbrev LSet (g:W->W->W->aa->Jw aa):Prop:=
 ∀(J:Jn (Jz×Lr)) (s:Jt) (Y:L2.St) (H:Hp) (A:Jn Jz) (S:aa) (o i x:W) (ao ai ax:V) (uo ui ux:Jr) (S':aa),Inv X J Y H s->StoreOk X.w X.K A H S->
  Rel X.K A H o ao->RelV ao uo->Rel X.K A H i ai->RelV ai ui->Rel X.K A H x ax->RelV ax ux->g o i x S=ba S'->
  wpAny (model X.prog X.w) X.A (setItem uo ui ux) (λ_ s'=>∃H' A',Inv X J Y H' s'/\Ext X.K A H A' H'/\StoreOk X.w X.K A' H' S') X.xe s
abbrev LCall (f:Jr)(g:Jn W->aa->Jw (W×aa)):Prop:=
 ∀(J:Jn (Jz×Lr)) (s:Jt) (Y:L2.St) (H:Hp) (A:Jn Jz) (S:aa) (xs:Jn W) (vs:Jn V) (us:Jn Jr) (w:W) (S':aa),Inv X J Y H s->StoreOk X.w X.K A H S->
  RelL X.K A H xs vs->Vals vs us->g xs S=ba (w,S')->wpAny (model X.prog X.w) X.A (call f us) (PostE X J Y A H S' w) X.xe s
abbrev mC (id:Lf)(g:W->Jn W->aa->Jw (W×aa)):Prop:=
 ∀(J:Jn (Jz×Lr)) (s:Jt) (Y:L2.St) (H:Hp) (A:Jn Jz) (S:aa) (x:W) (a:V) (u:Jr) (xs:Jn W) (vs:Jn V) (us:Jn Jr) (w:W) (S':aa),Inv X J Y H s->StoreOk X.w X.K A H S->
  Rel X.K A H x a->RelV a u->RelL X.K A H xs vs->Vals vs us->g x xs S=ba (w,S')->wpAny (model X.prog X.w) X.A (call (.builtin id) (u::us)) (PostE X J Y A H S' w) X.xe s
end
section
variable{X:Cx}{J:Jn (Jz×Lr)}{Y:L2.St}{H:Hp}{s:Jt}{A:Jn Jz}{S:aa}
def IxR.go {r:R2}(h:IxR X r){S':aa}{w:W}{a b:V}{u v:Jr}{value slice:J2}(I:Inv X J Y H s)(ru:RelV a u)(rv:RelV b v)(q:r a b H (EndV X.w X.K A H S' w))(hs:subscripted slice false u v=operate [u,v] (getItem u v)) :
  wpAny (model X.prog X.w) X.A (subscriptTail value slice u v) (PostE X J Y A H S' w) X.xe s:=bx (h value slice J s Y H a b u v _ I ru rv q hs) λ_ _=>EP.post
def CallR.go {f:Jr}{r:Jn V->Hp->VK->Prop}(h:CallR X f r){S':aa}{w:W}{vs:Jn V}{us:Jn Jr}(I:Inv X J Y H s)(rv:Vals vs us)(q:r vs H (EndV X.w X.K A H S' w)) :
  wpAny (model X.prog X.w) X.A (call f us) (PostE X J Y A H S' w) X.xe s:=bx (h J s Y H vs us _ I rv q) λ_ _=>EP.post
def MtR.go {id:Lf}{r:V->Jn V->Hp->VK->Prop}(h:MtR X id r){S':aa}{w:W}{a:V}{u:Jr}{vs:Jn V}{us:Jn Jr}(I:Inv X J Y H s)(ru:RelV a u)(rv:Vals vs us)(q:r a vs H (EndV X.w X.K A H S' w)) :
  wpAny (model X.prog X.w) X.A (call (.builtin id) (u::us)) (PostE X J Y A H S' w) X.xe s:=bx (h J s Y H a vs u us _ I ru rv q) λ_ _=>EP.post
def tD {xs:Jn W}{vs:Jn V}{i:JI}{w:W}(r:RelL X.K A H xs vs)(e:pd xs i=ba w):∃v,pd vs i=ba v/\Rel X.K A H w v:=by
 unfold pd at e ⊢;rw[r.length]at e;cases q:sZ vs.length i with
 | none=>rw[q]at e; cases e
 | some j=>
  rw[q]at e;obtain⟨v,h1,h2⟩:=r.get (show xs[j]?=ba w from e)
  exact#[v,h1,h2]
def Jg (hu:X.A.units+10 < cLine):LIx X vn:=by
 intro value slice J s Y H A S x y a b u v w S' I so rx ru ry rv e hs;cases rx with
 | tup h1 r1=>cases ry with
  | int=>
   (dsimp only[vn]at e; simp only[Js]at e)
   obtain⟨w',e1,e2⟩:=e;cases e2;obtain⟨z,h2,r2⟩:=tD r1 e1;exact IxR.go DJ I ru rv #[_,_,_,_,rfl,rfl,h1,h2,.here so r2] hs
  | _=>cases e
 | ref ea=>cases ry with
  | int=>
   dsimp only[vn]at e;split at e
   ·rename_i ws hw;rw[Js]at e;obtain⟨w',e1,e2⟩:=e;cases e2;obtain⟨vs,h1,r1⟩:=bo so hw ea;obtain⟨z,h2,r2⟩:=tD r1 e1;exact IxR.go AK I ru rv #[_,_,_,_,rfl,rfl,h1,h2,.here so r2] hs
   ·cases e
  | _=>cases e
 | str=>cases ry with
  | int=>
   dsimp only[vn]at e;split at e
   ·rw[Js]at e;obtain⟨c,e1,e2⟩:=e;cases e2;exact IxR.go DK I ru rv #[_,_,_,rfl,rfl,by assumption,e1,.here so .str] hs
   ·cases e
  | _=>cases e
 | _=>cases ry <;> cases e
def nO {xs:Jn W}{vs:Jn V}{lo hi:Jw JI}(r:RelL X.K A H xs vs):RelL X.K A H (jj xs lo hi) (kE vs lo hi):=by
 unfold jj kE;rw[r.length];exact(r.drop _).take _
def Bg:FC X (λx lo hi H Q=>∃a xs,x=.ref a/\SqT X.K H a xs/\(kE xs lo hi=xs->Q (.ref a) H)/\∀p,H p=gV->Q (.ref p) (bv H p (.tup (kE xs lo hi)))):=by
 intro J s Y H x v vl vu lo hi sl Q I rx hs pl pu h;obtain⟨a,xs,rfl,hx,q0,q⟩:=h
 by_cases hw:(HT.cx xs.length 0 lo=0/\HT.cx xs.length xs.length hi=xs.length)
 ·cases rx;obtain⟨its,r,ht,hz⟩:=I.tuple hx;have hlen:its.toArray.size=xs.length:=by rw[JM]; exact r.length.symm
  show#["tuple",_,PyProof.Rows.slot_tuple_getitem.lookup,ht.typeIs,?_];show HT.gR ht hs pl pu (by rw[hlen]; exact hw) #[.ref a,H,I,rfl,q0 ?_]
  unfold kE;rw[hw.1,hw.2];simp
 ·exact DI J s Y H (.ref a) v vl vu lo hi sl Q I rx hs pl pu #[a,xs,rfl,hx,hw,q]
def Jh:LSl X ph:=by
 intro J s Y H A S x a v vl vu lo hi sl w S' I so rx rv hs pl pu e;cases rx with
 | tup h1 r1=>
  cases e;obtain⟨T,id,z1,z2,z3⟩:=Bg J s Y H _ v vl vu lo hi sl (EndV X.w X.K A H S (.tup (jj _ lo hi))) I rv hs pl pu #[_,_,rfl,h1,λq=>.here so (.tup h1 (by have:=nO (lo:=lo) (hi:=hi) r1; rw[q]at this; exact this)),λp hp=>.tup so (nO r1) hp]
  exact#[T,id,z1,z2,bx z3 λ_ _=>EP.post]
 | ref ea=>
  dsimp only[ph]at e;split at e
  ·rename_i ws hw;cases e;obtain⟨vs,h1,r1⟩:=bo so hw ea;obtain⟨T,id,z1,z2,z3⟩:=AL J s Y H _ v vl vu lo hi sl (EndV X.w X.K A H (S++[.lst (jj ws lo hi)]) (.ref S.length)) I rv hs pl pu #[_,_,rfl,h1,λp hp=>.lst so (nO r1) hp]
   exact#[T,id,z1,z2,bx z3 λ_ _=>EP.post]
  ·cases e
 | _=>cases e
def lset (hu:X.A.units+10 < cLine):LSet X vo:=by
 intro J s Y H A S o i x ao ai ax uo ui ux S' I so ro ruo ri rui rx rux e;cases ro with
 | ref ea=>cases ri with
  | int=>
   dsimp only[vo]at e;split at e
   ·rename_i ws hw;split at e
    ·rename_i j hj;cases e;obtain⟨vs,h1,r1⟩:=eS so hw ea;rw[r1.length]at hj;obtain⟨so',ex⟩:=so.write (kF hw) ea (r1.set rx j);exact bx (xp J s Y H _ _ _ uo ui ux (λH'=>H'=bv H _ (.lst (vs.set j ax))) I ruo rui rux #[_,_,_,_,rfl,rfl,h1,hj,rfl]) λ_ s' #[H',I',e']=>#[_,A,e' ▸ I',ex,so']
    ·cases e
   ·cases e
  | _=>cases e
 | _=>cases ri <;> cases e
abbrev rW (xs:Jn W)(S:aa):Jw (W×aa):=match xs with
 | [.tup ys]=>ba (.int ys.length,S)
 | [.str y]=>if y.length<=sizeLine then ba (.int y.length,S)else gV
 | [.ref i]=>(fS S i).map λys=>(.int ys.length,S)
 | _=>gV
def vp:LCall X (.builtin "len") rW:=by
 intro J s Y H A S xs vs us w S' I so rl rv e;cases rl with
 | nil=>cases e
 | cons r t=>
  cases t with
  | cons _ _=>cases r <;> cases e
  | nil=>
   cases r with
   | tup h1 r1=>cases e; rw[r1.length]; exact CallR.go kB I rv #[_,_,rfl,.inr #[_,h1,rfl],.here so .int]
   | str=>
    dsimp only[rW]at e;split at e
    ·cases e; exact CallR.go kB I rv #[_,_,rfl,#[by assumption,rfl],.here so .int]
    ·cases e
   | ref ea=>
    (dsimp only[rW]at e; simp only[Js]at e)
    obtain⟨ws,hw,e2⟩:=e;cases e2;obtain⟨vs',h1,r1⟩:=bo so hw ea;rw[r1.length];exact CallR.go kB I rv #[_,_,rfl,.inl #[_,h1,rfl],.here so .int]
   | _=>cases e
abbrev iL (xs:Jn W)(S:aa):Jw (W×aa):=match xs with
 | [x]=>match eH S x with
  | some ys=>ba (.ref S.length,S++[.lst ys])
  | none=>gV
 | _=>gV
def im:LCall X (.type "list") iL:=by
 intro J s Y H A S xs vs us w S' I so rl rv e;cases rl with
 | nil=>cases e
 | cons r t=>
  cases t with
  | cons _ _=>cases e
  | nil=>
   dsimp only[iL]at e;split at e
   ·rename_i ys hy;cases e;obtain⟨p,vs',rfl,hq,r1⟩:=nN (J:=J) (Y:=Y) (s:=s) so r hy;exact CallR.go nK I rv #[p,vs',rfl,hq,λl hl=>.lst so r1 hl]
   ·cases e
abbrev kI (xs:Jn W)(S:aa):Jw (W×aa):=match xs with
 | [.tup ys]=>ba (.tup ys,S)
 | [.ref i]=>match fS S i with
  | some ys=>ba (.tup ys,S)
  | none=>gV
 | _=>gV
def jK:LCall X (.type "tuple") kI:=by
 intro J s Y H A S xs vs us w S' I so rl rv e;cases rl with
 | nil=>cases e
 | cons r t=>
  cases t with
  | cons _ _=>cases r <;> cases e
  | nil=>
   cases r with
   | tup h1 r1=>cases e; exact CallR.go gZ I rv #[_,_,rfl,.inr #[h1,.here so (.tup h1 r1)]]
   | ref ea=>
    dsimp only[kI]at e;split at e
    ·rename_i ys hy;cases e;obtain⟨vs',h1,r1⟩:=bo so hy ea;exact CallR.go gZ I rv #[_,_,rfl,.inl #[h1,λl hl=>.tup so r1 hl]]
    ·cases e
   | _=>cases e
abbrev FL (xs:Jn W)(S:aa):Jw (W×aa):=match xs with
 | [.int i]=>ba (.int i,S)
 | [.bl b]=>ba (.int (if b then 1 else 0),S)
 | _=>gV
def vt:LCall X (.type "int") FL:=by
 intro J s Y H A S xs vs us w S' I so rl rv e;cases rl with
 | nil=>cases e
 | cons r t=>
  cases t with
  | cons _ _=>cases r <;> cases e
  | nil=>
   cases r with
   | int=>cases e; exact CallR.go mj I rv (.inl #[_,rfl,.here so .int])
   | bl=>cases e; exact CallR.go mj I rv (.inr #[_,rfl,.here so .int])
   | _=>cases e
abbrev iM (x:W)(xs:Jn W)(S:aa):Jw (W×aa):=match x,xs with
 | .ref i,[y]=>match o5 S i with
  | some ys=>if ys.length < sizeLine then ba (.non,S.set i (.lst (ys++[y])))else gV
  | none=>gV
 | _,_=>gV
def jk {i:Jx}{p:Jz}{ws ws0:Jn W}{us:Jn V}(so:StoreOk X.w X.K A H S)(e:o5 S i=ba ws0)(ea:A[i]?=ba p)(r:RelL X.K A H ws us){w:W}{v:V}(rw':Rel X.K A H w v) :
  EndV X.w X.K A H (S.set i (.lst ws)) w v (bv H p (.lst us)):=by
 obtain⟨so',ex⟩:=so.write (kF e) ea r;exact#[A,ex,so',rw'.mono ex]
def nP:mC X "list.append" iM:=by
 intro J s Y H A S x a u xs vs us w S' I so rx ru rl rv e;cases rx with
 | ref ea=>
  cases rl with
  | nil=>cases e
  | cons r t=>
   cases t with
   | cons _ _=>cases e
   | nil=>
    dsimp only[iM]at e;split at e
    ·rename_i ys hy;split at e
     ·rename_i hl;cases e;obtain⟨vs',h1,r1⟩:=eS so hy ea;rw[r1.length]at hl;exact MtR.go ve I ru rv #[_,_,_,rfl,rfl,h1,hl,jk so hy ea (r1.append #v[r]) .non]
     ·cases e
    ·cases e
 | _=>cases e
abbrev iN (x:W)(xs:Jn W)(S:aa):Jw (W×aa):=match x,xs with
 | .ref i,[.ref j]=>match o5 S i,o5 S j with
  | some ys,ba zs=>if ys.length+zs.length<=sizeLine then ba (.non,S.set i (.lst (ys++zs)))else gV
  | _,_=>gV
 | _,_=>gV
def nQ:mC X "list.extend" iN:=by
 intro J s Y H A S x a u xs vs us w S' I so rx ru rl rv e;cases rx with
 | ref ea=>
  cases rl with
  | nil=>cases e
  | cons r t=>
   cases t with
   | cons _ _=>cases r <;> cases e
   | nil=>
    cases r with
    | ref eb=>
     dsimp only[iN]at e;split at e
     ·rename_i ys zs hy hz;split at e
      ·rename_i hl;cases e;obtain⟨vs',h1,r1⟩:=eS so hy ea;obtain⟨vs2,h2,r2⟩:=eS so hz eb;rw[r1.length,r2.length]at hl;exact MtR.go vf I ru rv #[_,_,_,_,rfl,rfl,h1,h2,hl,jk so hy ea (r1.append r2) .non]
      ·cases e
     ·cases e
    | _=>cases e
 | _=>cases e
abbrev Bh (x:W)(xs:Jn W)(S:aa):Jw (W×aa):=match x,xs with
 | .ref i,[.int k]=>match o5 S i with
  | some ys=>if -(2 ^ 63)<=k/\k < 2 ^ 63 then match seqIndex? k ys.length with
   | some j=>match ys[j]? with
    | some y=>ba (y,S.set i (.lst (ys.eraseIdx j)))
    | none=>gV
   | none=>gV
   else gV
  | none=>gV
 | _,_=>gV
def vw:mC X "list.pop" Bh:=by
 intro J s Y H A S x a u xs vs us w S' I so rx ru rl rv e;cases rx with
 | ref ea=>
  cases rl with
  | nil=>cases e
  | cons r t=>
   cases t with
   | cons _ _=>cases r <;> cases e
   | nil=>
    cases r with
    | int=>
     dsimp only[Bh]at e;split at e
     ·rename_i ys hy;split at e
      ·rename_i hk;split at e
       ·rename_i j hj;split at e
        ·rename_i y hyj;cases e;obtain⟨vs',h1,r1⟩:=eS so hy ea;obtain⟨v',h2,r2⟩:=r1.get hyj;rw[r1.length]at hj;exact MtR.go xt I ru rv #[_,_,_,_,_,rfl,rfl,h1,hk.1,hk.2,hj,h2,jk so hy ea (r1.eraseIdx j) r2]
        ·cases e
       ·cases e
      ·cases e
     ·cases e
    | _=>cases e
 | _=>cases e
abbrev jl:Jn W->Jw (Jn JS)
 | []=>ba []
 | .str x::xs=>(jl xs).map (x :: ·)
 | _::_=>gV
abbrev tF (x:W)(xs:Jn W)(S:aa):Jw (W×aa):=match x,xs with
 | .str x,[y]=>match eH S y with
  | some ys=>match jl ys with
   | some zs=>if (zs.map (·.length)).sum+zs.length*x.length<=16777216 then ba (.str (SW x zs),S)else gV
   | none=>gV
  | none=>gV
 | _,_=>gV
def kJ:∀ {ws:Jn W} {vs:Jn V} {us:Jn Jr} {zs:Jn JS},RelL X.K A H ws vs->Vals vs us->jl ws=ba zs->StrsAre us zs
 | _,_,_,zs,.nil,.nil,e=>by cases e; exact .nil
 | _,_,_,zs,.cons r t,.cons q p,e=>by
  cases r with
  | str=>
   (dsimp only[jl]at e; simp only[Js]at e)
   obtain⟨z,e1,e2⟩:=e;subst e2;obtain⟨tk,rfl⟩ : ∃t,_=NU _ t:=q;exact .cons _ tk (kJ t p e1)
  | _=>cases e
def rX:mC X "str.join" tF:=by
 intro J s Y H A S x a u xs vs us w S' I so rx ru rl rv e;cases rx with
 | str=>
  cases rl with
  | nil=>cases e
  | cons r t=>
   cases t with
   | cons _ _=>cases e
   | nil=>
    simp only[tF]at e;split at e
    ·rename_i ys hy;split at e
     ·rename_i zs hz;split at e
      ·rename_i hl;cases e;obtain⟨p,vs',rfl,hq,r1⟩:=nN (J:=J) (Y:=Y) (s:=s) so r hy;obtain⟨t0,rfl⟩ : ∃t,u=NU _ t:=ru;obtain⟨u1,rfl,ru1⟩:=mh rv;have ru1':u1=Kk p:=ru1;subst ru1';rcases hq with hq|hq
       ·obtain⟨its,rr,pl,hz'⟩:=I.list hq;exact join_list pl.isList (by simpa using kJ r1 rr hz) hl λt' k=>#[.str _,H,A,I.tok _,#[_,rfl],.refl,so,.str]
       ·obtain⟨its,rr,pl,hz'⟩:=I.tuple hq;exact join_tuple pl (by simpa using kJ r1 rr hz) hl λt' k=>#[.str _,H,A,I.tok _,#[_,rfl],.refl,so,.str]
      ·cases e
     ·cases e
    ·cases e
 | _=>cases e
abbrev io (S:aa):W->Jw J3
 | .non=>ba false
 | .bl b=>ba b
 | .int i=>ba (i != 0)
 | .str y=>if y.length<=sizeLine then ba ((y.length:JI) != 0)else gV
 | .tup xs=>ba (!xs.isEmpty)
 | .ref i=>(fS S i).map λxs=>!xs.isEmpty
def jL {ws:Jn W}{vs:Jn V}(r:RelL X.K A H ws vs):(!ws.isEmpty) = !vs.isEmpty:=by cases r <;> rfl
def HV {x:W}{a:V}{u:Jr}{k:J3}{Q:J3->Jt->Prop}(I:Inv X J Y H s)(so:StoreOk X.w X.K A H S)(rx:Rel X.K A H x a)(ru:RelV a u)(e:io S x=ba k)(hq:∀s',Inv X J Y H s'->Q k s') :
  wpAny (model X.prog X.w) X.A (truthy u) Q X.xe s:=by
 show bx (DD J s Y H a u (λb H'=>b=k/\H'=H) I ru #[k,?_,rfl,rfl]) λb s' #[H',I',e1,e2]=>?_
 ·cases rx with
  | non=>cases e; rfl
  | bl=>cases e; rfl
  | int=>cases e; rfl
  | str=>
   simp only[io]at e;split at e
   ·cases e; exact#[by assumption,rfl]
   ·cases e
  | tup h1 r1=>cases e; exact .inr (.inl #[_,h1,jL r1])
  | ref ea=>
   simp only[io,Js]at e;obtain⟨ws,hw,e2⟩:=e;subst e2;obtain⟨vs,h1,r1⟩:=bo so hw ea;exact .inl #[_,h1,jL r1]
 ·subst e1 e2;exact hq s' I'
end
abbrev cG (w:Kq):Lr:={ cls:=.type "set",dict:=gV,data:=.set #[] 0 (.fresh 0 0 (!fe w)) }
section
variable{prog:Kf}{w:Kq}{A:Ki}{E:Jr->Jt->Prop}{s:Jt}{R:QV->Jt->Prop}{I:Jz}{fp wr:Jn Jz}{G:J7 PD->J7 PD->Prop}{n:Jx}{P:Jx->Jr->Prop}{St:Jx->Jt->Prop}
def xI (a:Jr){Q₁:Jr->Jt->Prop}(h:Q₁ (.ref s.heap.objs.size) { s with heap:=s.heap.push (cG w) }):codeAny (model prog w) A (.call (.builtin "set.__new__") #[[.type "set",a],[]]) (wants Q₁ E) s:=by
 show Pk ?_;change wpAny _ A.in1 (checkBuiltinCall "set.__new__" #[[.type "set",a],[]] >>= λ_=>again (.builtin "set.__new__" #[[.type "set",a],[]])) _ _ s
 show Jo (NC (F.newCall_set_1 a) (Ju #[LN F.plain_set_new _,KS F.entry_set_new ?_]));rw[KN F.plain_set_new _];unfold Mz.«set.__new__» RP;have hsub:=Ql;obtain⟨hp,g,d,tk,os⟩:=s;dsimp only
 wp_walk
 show ME (Ju ?_);dsimp only;simp only[newObj];exact Jo (Rm (Ju (Ju h)))
end
def fU:Slot "set_iterator" "__next__" "set_iterator.__next__":=.of (owner:="set_iterator") (n:="__next__") (by rw[Rw,Ps]; kernel_rfl) (by decide +kernel) (by decide +kernel) (by decide +kernel) (by first|exact .inl (by decide +kernel)|exact .inr (by decide +kernel)) (by rw[RQ]; kernel_rfl)
def po:Slot "set_iterator" "__iter__" "set_iterator.__iter__":=.of (owner:="set_iterator") (n:="__iter__") (by rw[Rw,Ps]; kernel_rfl) (by decide +kernel) (by decide +kernel) (by decide +kernel) (by first|exact .inl (by decide +kernel)|exact .inr (by decide +kernel)) (by rw[RQ]; kernel_rfl)
def vx:entryFor table "set_iterator.__next__" = ba Mz.«set_iterator.__next__»:=entryFor_of_tree (by kernel_rfl)
def rY:entryFor table "set.__iter__" = ba Mz.«frozenset.__iter__»:=RS (id':="frozenset.__iter__") (by kernel_rfl) rfl (by decide +kernel) (by kernel_rfl)
def xJ (a:Jr):argsOk "set_iterator.__next__" #[[a],[]]:=by unfold argsOk; kernel_rfl
section
variable{α:Type}{prog:Kf}{w:Kq}{A:Ki}{E:Jr->Jt->Prop}{s:Jt}
def vy {src:Source}{n:Jx}{Q:Jx->Jt->Prop}(hn:n≠0)(h:∀i dr,i < n->Q i { s with drawn:=dr }):wpAny (model prog w) A (choose src n) Q E s:=λ_ _ _=>#[hn,h _ _ (Pa _ (Nat.pos_of_ne_zero hn))]
def iO:∀ {l:Jn α} {i:Jx} (h:i < l.length),(l[i]::l.eraseIdx i).Perm l
 | x::l,0,_=>.refl _
 | x::l,i+1,h=>(TZ _ _ _).trans ((iO (l:=l) (i:=i) (by simpa using h)).cons x)
def kK:∀(n:Jx) (xs:Jn α) {s:Jt} {Q:Jn α->Jt->Prop},xs.length=n->(∀ys dr,ys.Perm xs->Q ys { s with drawn:=dr })->wpAny (model prog w) A (drawOrder n xs) Q E s
 | 0,xs,s,Q,hl,h=>by
  obtain rfl:=Lb.mp hl;exact Ju (h [] s.drawn .nil)
 | n+1,[],s,Q,hl,h=>by cases hl
 | n+1,x::xs,s,Q,hl,h=>by
  unfold drawOrder;show Jo (vy (by simp) λi dr hi=>?_)
  rw[Jy hi];dsimp only;show Jo (kK n _ (by rw[M5 hi,hl]; rfl) λys dr' hp=>Ju (h _ dr' ?_))
  exact(hp.cons _).trans (iO hi)
def tH {next:Jx->Jx}:∀(f k:Jx) (lf9:Jn α) (out:J7 α),f=lf9.length->(pickOrder.go next f k lf9 out).toList.Perm (out.toList++lf9)
 | 0,k,lf9,out,h=>by
  obtain rfl:=Lb.mp h.symm;simp[pickOrder.go]
 | f+1,k,lf9,out,h=>by
  unfold pickOrder.go;have hp:0 < lf9.length:=∅
  have hi:next k % lf9.length < lf9.length:=Pa _ hp;rw[Jy hi];dsimp only;show(tH f (k+1) _ _ (by rw[M5 hi]; omega)).trans ?_
  rw[ON,Lz];exact(iO hi).append_left _
def gA {next:Jx->Jx}{xs:J7 α}:(pickOrder next xs).toList.Perm xs.toList:=by
 have:=tH (next:=next) xs.size 0 xs.toList #[] (by simp)
 simpa [pickOrder]using this
abbrev SIt (I:Jz)(f r:Jr)(i n ep:Jx)(h:Kv):Prop:=h.get? I=ba { cls:=.type "set_iterator",data:=.fields [f,.int i 0,r,.int n 0,.int ep 0].toArray }
def SIt.type {I:Jz}{f r:Jr}{i n ep:Jx}(x:SIt I f r i n ep s.heap):s.TypeIs (.ref I) "set_iterator":=#[_,x,rfl]
def pr {I:Jz}{Q:Jw Jr->Jt->Prop}{f r:Jr}{i n ep:Jx}(x:SIt I f r i n ep s.heap)(h:wpAny (model prog w) A.in1 (Mz.«set_iterator.__next__» #[[.ref I],[]]) (λfin s'=>∃v,fin=.done (.ret v)/\Q (ba v) s') (λe s'=>wpAny (model prog w) A (do if <- isInstance e (.type "StopIteration")then pure gV else throw e) Q E s') s):wpAny (model prog w) A (pyNext (.ref I)) Q E s:=by
 unfold pyNext;show Jo (MW (KI (name:=LG "__next__") x.type fU (KM fU x.type vx ?_ (xJ _))));exact LI h (λ_ _ #[v,e,q]=>#[v,e,Ju q]) λ_ _ q=>q
abbrev FM (prog:Kf)(w:Kq)(A:Ki)(Q:Jw Jr->Jt->Prop)(E:Jr->Jt->Prop)(e:Jr)(s':Jt):Prop:=wpAny (model prog w) A (do if <- isInstance e (.type "StopIteration")then pure gV else throw e) Q E s'
def pA {Q:Jw Jr->Jt->Prop}{Q2:TH->Jt->Prop}(hh:A.handled=gV)(h:∀h',(∀b o,s.heap.get? b=ba o->h'.get? b=ba o)->Q gV { s with heap:=h' }):wpAny (model prog w) A.in1 (newExc (.type "StopIteration") [] >>= λx=>raiseNew x) Q2 (FM prog w A Q E) s:=by
 show Jo ?_;simp only[newExc,newTuple];show Jo (Ks ?_ (by size_fits))
 show Jo (m:=firstArgMember _ _) (NC (a:=Kz) (by first|rfl|(simp only[firstArgMember]; rfl)) ?_)
 show Ks ?_ (by size_fits)
 simp only[raiseNew];show Jo (Qa ?_);rw[show A.in1.handled=gV from hh]
 show Jo (Ju (Rn ?_));show Jo (MF (T:="StopIteration") (b:=true) #[_,JH _ rfl,rfl] Os ?_);exact Ju (h _ λb o e=>Jq _ (Jq _ e))
section
variable{I a:Jz}{f r:Jr}{i n ep sl:Jx}{o:Lr}{es:J7 (JI×Jr)}{t:KW}{Q:Jw Jr->Jt->Prop}
def gB {Q:TW->Jt->Prop}{vs:J7 Jr}{k:Jx}{v:Jr}(x:s.heap.get? I=ba { cls:=.type "set_iterator",data:=.fields vs })(hk:k < vs.size)(h:∀h',h'.get? I=ba { cls:=.type "set_iterator",data:=.fields (vs.setIfInBounds k v) }->LF I s.heap h'->Q () { s with heap:=h' }):wpAny (model prog w) A (setField (.ref I) k v) Q E s:=Mg x hk h
def gC (x:SIt I (.int sl 0) (.ref a) i n ep s.heap)(ho:s.heap.get? a=ba o)(hd:o.data=.set es ep t)(hf:t.fits es.size=true)(hn:es.size=n)(hh:A.handled=gV){rs:Jw (Jr×Jx)}
  (hx:∀Q':Jw (Jr×Jx)->Jt->Prop,Q' rs s->wpAny (model prog w) A.in1 (setNext a sl i ep) Q' (FM prog w A Q E) s)
  (h1:∀v sl',rs=ba (v,sl')->∀h',SIt I (.int sl' 0) (.ref a) (i+1) n ep h'->(∀b o,b≠I->s.heap.get? b=ba o->h'.get? b=ba o)->Q (ba v) { s with heap:=h' })
  (h2:rs=gV->∀h',(∀b o,b≠I->s.heap.get? b=ba o->h'.get? b=ba o)->Q gV { s with heap:=h' }):wpAny (model prog w) A (pyNext (.ref I)) Q E s:=by
 show pr x ?_;show Jo (Ju ?_);change wpAny _ _ (fieldsOf (.ref I) >>= _) _ _ s;show Jo (Ot x rfl ?_);show Jo (Od ho hd hf ?_);rw[J8 (by simp[hn])]
 show Jo (hx _ ?_);cases rs with
 | some p=>
  obtain⟨v,sl'⟩:=p;dsimp only;show Jo (gB x (by simp) λh' x' sb'=>?_)
  show Jo (gB x' (by simp) λh2 x2 sb2=>?_)
  show Ju #[v,rfl,h1 v sl' rfl h2 ?_ λb o hb e=>?_]
  ·simpa [SIt,rawInt]using x2
  ·rw[sb2.2 b hb,sb'.2 b hb]; exact e
 | none=>
  dsimp only;show Jo (gB x (by simp) λh' x' sb'=>?_)
  show pA hh λh'' k=>h2 rfl h'' λb o hb e=>k b o (by rw[sb'.2 b hb]; exact e)
def mD {tp:Jz}{ps:Jn Jx}(x:SIt I (.ref tp) (.ref a) i n ep s.heap)(ho:s.heap.get? a=ba o)(hd:o.data=.set es ep t)(hf:t.fits es.size=true)(hn:es.size=n)(hh:A.handled=gV)
  (ht:s.heap.get? tp=ba { cls:=.type "tuple",data:=.seq (ps.map λk=>rawInt (k:Jx)).toArray 0 })
  (h1:∀p e,ps[i]?=ba p->es[p]?=ba e->∀h',SIt I (.ref tp) (.ref a) (i+1) n ep h'->(∀b o,b≠I->s.heap.get? b=ba o->h'.get? b=ba o)->Q (ba e.2) { s with heap:=h' })
  (hp:∀p,ps[i]?=ba p->∃e,es[p]?=ba e)
  (h2:ps[i]?=gV->∀h',(∀b o,b≠I->s.heap.get? b=ba o->h'.get? b=ba o)->Q gV { s with heap:=h' }):wpAny (model prog w) A (pyNext (.ref I)) Q E s:=by
 show pr x ?_;show Jo (Ju ?_);change wpAny _ _ (fieldsOf (.ref I) >>= _) _ _ s;show Jo (Ot x rfl ?_);show Jo (Od ho hd hf ?_);rw[J8 (by simp[hn])]
 show Jo (Ll ht rfl ?_);dsimp only;have hg:(ps.map λk=>rawInt (k:Jx)).toArray[(i:JI).toNat]?=(ps[i]?).map λk=>rawInt (k:Jx):=by simp
 rw[hg];cases q:ps[i]? with
 | some p=>
  obtain⟨e,he⟩:=hp p q;change wpAny _ _ (setNextDrawn a (p:JI).toNat (ep:JI).toNat >>= _) _ _ s;unfold setNextDrawn;show Jo (Jo (K7 ho hd hf ?_));dsimp only;rw[J8 (by simp)]
  simp only[JL,he];show Ju ?_;show Jo (gB x (by simp) λh' x' sb'=>?_)
  show Ju #[e.2,rfl,h1 p e q he h' ?_ λb o hb z=>?_]
  ·simpa [SIt,rawInt]using x'
  ·rw[sb'.2 b hb]; exact z
 | none=>
  dsimp only[Option.map_none];show Jo (gB x (by simp) λh' x' sb'=>?_)
  show Jo (gB x' (by simp) λh3 x3 sb3=>?_)
  show pA hh λh'' k=>h2 q h'' λb o hb e=>k b o (by rw[sb3.2 b hb,sb'.2 b hb]; exact e)
def mE {E:Jr->Jt->Prop}{Q:Jw (Jr×Jx)->Jt->Prop}(ho:s.heap.get? a=ba o)(hd:o.data=.set es ep t)(hf:t.fits es.size=true)(hb:fe w=true)(h:Q ((((pickOrder (w.params.setOrder a ep) es).toList.map (·.2))[i]?).map λv=>(v,sl)) s):wpAny (model prog w) A (setNext a sl i ep) Q E s:=by
 unfold setNext;show Jo (K7 ho hd hf ?_);dsimp only;have ask1:∀ {Q:J3->Jt->Prop},Q true s->wpAny (model prog w) A setsByText Q E s:=λ{Q} hq=>by
  unfold setsByText;show Jo (ME (Ju ?_));change Q (fe w) s;rw[hb]; exact hq
 show Jo (ask1 ?_);rw[JX rfl,J8 (by simp)]
 show Jo ?_;unfold setWalk;show Jo (K7 ho hd hf ?_);dsimp only;show Jo (ask1 ?_);rw[JX rfl];show Jo (ME (Ju (Ju ?_)));have e:(((pickOrder (w.params.setOrder a ep) es)[i]?).map λe=>(e.2,sl))=((((pickOrder (w.params.setOrder a ep) es).toList.map (·.2))[i]?).map λv=>(v,sl)):=by
  rw[JB,K9,RT]; rfl
 change Q (((pickOrder (w.params.setOrder a ep) es)[i]?).map λe=>(e.2,sl)) s
 rw[e]; exact h
def pB {E:Jr->Jt->Prop}{Q:Jw (Jr×Jx)->Jt->Prop}(ho:s.heap.get? a=ba o)(hd:o.data=.set es ep t)(hf:t.fits es.size=true)(hb:fe w=false)(hl:t.led=true)(h1:es.size<=1)(hi:i=0/\sl=0\/i=es.size/\sl=(t.place.getD 0 0)+1)
  (h:Q (((es.toList.map (·.2))[i]?).map λv=>(v,t.place.getD 0 0+1)) s):wpAny (model prog w) A (setNext a sl i ep) Q E s:=by
 unfold setNext;show Jo (K7 ho hd hf ?_);dsimp only;have ask1:∀ {Q:J3->Jt->Prop},Q false s->wpAny (model prog w) A setsByText Q E s:=λ{Q} hq=>by
  unfold setsByText;show Jo (ME (Ju ?_));change Q (fe w) s;rw[hb]; exact hq
 show Jo (ask1 ?_);rw[J8 J1];show MT (λhc=>absurd hc (by change ¬ ((!t.plain&&decide (es.size > 1))=true); simp; omega)) (λ_=>?_)
 show Jo ?_;change wpAny _ _ (if (!t.led && !es.isEmpty)=true then unsupported "set:maker-not-led" else pure ()) _ _ s
 rw[J8 (by simp[hl])]
 show Ju (Ju ?_);obtain⟨es⟩:=es;obtain⟨mk,pl,dm,fg,ld,mv,pn⟩:=t;obtain⟨pl⟩:=pl;simp only[Sd,Jv,beq_iff_eq]at hf
 match es,pl,hf.1,h1 with
 | [],[],_,_=>
  have:i=0:=by rcases hi with z|z <;> simpa using z.1
  subst this;exact h
 | [e],[j],_,_=>
  rcases hi with⟨rfl,rfl⟩|⟨rfl,rfl⟩
  ·exact h
  ·have e1:MD [j].toArray (j+1)=1:=by
    change QF [j].toArray (j+1) 1 0 1=1;simp[QF]
   have e2:(({ mask:=mk,place:=[j].toArray,dummies:=dm,finger:=fg,led:=ld,moves:=mv,plain:=pn }:KW).place.getD 0 0)=j:=rfl;change Q (match ([e].toArray:J7 (JI×Jr))[MD [j].toArray (j+1)]?,([j].toArray:J7 Jx)[MD [j].toArray (j+1)]? with|some (_,x),ba j=>ba (x,j+1)|_,_=>gV) s
   rw[e1];exact h
 | e::e'::es,_,_,z=>simp at z
 | [],_::_,z,_=>simp at z
 | [_],[],z,_=>simp at z
 | [_],_::_::_,z,_=>simp at z
def kL {E:Jr->Jt->Prop}{Q:Jw (Jr×Jx)->Jt->Prop}(ho:s.heap.get? a=ba o)(hd:o.data=.set es ep t)(hf:t.fits es.size=true)(hb:fe w=false)(hl:t.led=true)(hp:t.plain=true)(hw:MD t.place sl=i)
  (h:Q (((es.toList.map (·.2))[i]?).map λv=>(v,t.place.getD i 0+1)) s):wpAny (model prog w) A (setNext a sl i ep) Q E s:=by
 unfold setNext;show Jo (K7 ho hd hf ?_);dsimp only;have ask1:∀ {Q:J3->Jt->Prop},Q false s->wpAny (model prog w) A setsByText Q E s:=λ{Q} hq=>by
  unfold setsByText;show Jo (ME (Ju ?_));change Q (fe w) s;rw[hb]; exact hq
 show Jo (ask1 ?_);rw[J8 J1];show MT (λhc=>absurd hc (by change ¬ ((!t.plain&&decide (es.size > 1))=true); simp[hp])) (λ_=>?_)
 show Jo ?_;change wpAny _ _ (if (!t.led && !es.isEmpty)=true then unsupported "set:maker-not-led" else pure ()) _ _ s
 rw[J8 (by simp[hl])]
 show Ju (Ju ?_);rw[hw];have hz:t.place.size=es.size:=by
  simp only[Sd,Jv,beq_iff_eq]at hf;exact hf.1
 rw[JB,K9]at h
 by_cases hi:i < es.size
 ·have e1:es[i]?=ba es[i]:=by simp[hi]
  have e2:t.place[i]?=ba (t.place.getD i 0):=by simp[Nx,hz,hi]
  rw[e1]at h ⊢;rw[e2];exact h
 ·have e1:es[i]?=gV:=by simp; omega
  rw[e1]at h ⊢;exact h
end
end
def vz:entryFor table "set_iterator.__iter__" = ba Mz.«dict_keyiterator.__iter__»:=RS (id':="dict_keyiterator.__iter__") (by kernel_rfl) rfl (by decide +kernel) (by kernel_rfl)
def xK (a:Jr):argsOk "set_iterator.__iter__" #[[a],[]]:=by unfold argsOk; kernel_rfl
section
variable{prog:Kf}{w:Kq}{A:Ki}{E:Jr->Jt->Prop}{s:Jt}{I a tp:Jz}{f r:Jr}{i n ep sl:Jx}{o:Lr}{es:J7 (JI×Jr)}{t:KW}
def iP {Q:Jr->Jt->Prop}(x:SIt I f r i n ep s.heap)(h:Q (.ref I) s):wpAny (model prog w) A (pyIter (.ref I)) Q E s:=by
 show OO x.type po (KM po x.type vz ?_ (xK _));change wpAny _ _ (ret (.ref I)) _ _ s;exact Ju #[_,rfl,"set_iterator",_,x.type,fU.lookup,h]
def pE {b x y:Jz}(h:b∉[x]):b≠x:=λz=>h (by simp[z])
def rZ (hh:A.handled=gV)(hne:a≠I)(hd:o.data=.set es ep t)(hf:t.fits es.size=true)(hb:fe w=true) :
  Ro prog w A I [I,a] [I] es.size (λi v=>((pickOrder (w.params.setOrder a ep) es).toList.map (·.2))[i]?=ba v) (λi h=>SIt I (.int 0 0) (.ref a) i es.size ep h/\h.get? a=ba o) where
 sub:=λb hb=>by simp at hb; simp[hb]
 frame:=λ_ _ _ st hk=>#[hk I (by simp) _ st.1,hk a (by simp) _ st.2]
 item:=λi s Q E hi st hQ=>by
  have hl:((pickOrder (w.params.setOrder a ep) es).toList.map (·.2)).length=es.size:=by rw[Jp,gA.length_eq,JP]
  show gC (sl:=0) st.1 st.2 hd hf rfl hh (λQ' hq=>mE st.2 hd hf hb hq) (λv sl' e h' x' k=>?_) λe h' k=>?_
  ·obtain⟨v',q,e⟩:=Js.mp e;cases e;exact hQ v h' s.toks q #[x',k a _ hne st.2] λb o hb e=>k b o (pE (y:=b) hb) e
  ·rw[NI,KH]at e;omega
 done:=λs Q E st hQ=>by
  have hl:((pickOrder (w.params.setOrder a ep) es).toList.map (·.2)).length=es.size:=by rw[Jp,gA.length_eq,JP]
  show gC (sl:=0) st.1 st.2 hd hf rfl hh (λQ' hq=>mE st.2 hd hf hb hq) (λv sl' e h' x' k=>?_) λe h' k=>hQ h' s.toks λb o hb e=>k b o (pE (y:=b) hb) e
  obtain⟨v',q,e⟩:=Js.mp e;have:=(JD.mp q).1;omega
 self:=λ_ _ _ _ st hQ=>iP st.1 hQ
def vA (hh:A.handled=gV)(hne:a≠I)(hd:o.data=.set es ep t)(hf:t.fits es.size=true)(hb:fe w=false)(hl:t.led=true)(h1:es.size<=1) :
  Ro prog w A I [I,a] [I] es.size (λi v=>(es.toList.map (·.2))[i]?=ba v) (λi h=>SIt I (.int ((if i=0 then 0 else t.place.getD 0 0+1:Jx):JI) 0) (.ref a) i es.size ep h/\h.get? a=ba o) where
 sub:=λb hb=>by simp at hb; simp[hb]
 frame:=λ_ _ _ st hk=>#[hk I (by simp) _ st.1,hk a (by simp) _ st.2]
 item:=λi s Q E hi st hQ=>by
  have i0:i=0:=∅
  subst i0;show gC st.1 st.2 hd hf rfl hh (λQ' hq=>pB st.2 hd hf hb hl h1 (.inl #[rfl,rfl]) hq) (λv sl' e h' x' k=>?_) λe h' k=>?_
  ·obtain⟨v',q,e⟩:=Js.mp e;cases e;exact hQ v h' s.toks q #[x',k a _ hne st.2] λb o hb e=>k b o (pE (y:=b) hb) e
  ·rw[NI,KH,Jp,JP]at e;omega
 done:=λs Q E st hQ=>by
  show gC st.1 st.2 hd hf rfl hh (λQ' hq=>pB st.2 hd hf hb hl h1 ?_ hq) (λv sl' e h' x' k=>?_) λe h' k=>hQ h' s.toks λb o hb e=>k b o (pE (y:=b) hb) e
  ·by_cases h0:es.size=0
   ·exact .inl #[h0,by rw[JX h0]]
   ·exact .inr #[rfl,by rw[J8 h0]]
  ·obtain⟨v',q,e⟩:=Js.mp e;have:=(JD.mp q).1;rw[Jp,JP]at this;omega
 self:=λ_ _ _ _ st hQ=>iP st.1 hQ
def pG (hh:A.handled=gV)(hne:a≠I)(hd:o.data=.set es ep t)(hf:t.fits es.size=true)(hb:fe w=false)(hl:t.led=true)(hp:t.plain=true)(hw:fE t es.size=true) :
  Ro prog w A I [I,a] [I] es.size (λi v=>(es.toList.map (·.2))[i]?=ba v) (λi h=>SIt I (.int ((if i=0 then 0 else t.place.getD (i - 1) 0+1:Jx):JI) 0) (.ref a) i es.size ep h/\h.get? a=ba o):=by
 have go:∀i,i<=es.size->MD t.place (if i=0 then 0 else t.place.getD (i - 1) 0+1)=i:=λi hi=>by
  simp only[fE,Jv,JU,JQ,JT]at hw
  by_cases h0:i=0
  ·rw[JX h0,h0]; exact hw.1
  ·rw[J8 h0,hw.2 (i - 1) ∅]; omega
 exact {
  sub:=λb hb=>by simp at hb; simp[hb]
  frame:=λ_ _ _ st hk=>#[hk I (by simp) _ st.1,hk a (by simp) _ st.2]
  item:=λi s Q E hi st hQ=>by
   show gC st.1 st.2 hd hf rfl hh (λQ' hq=>kL st.2 hd hf hb hl hp (go i ∅) hq) (λv sl' e h' x' k=>?_) λe h' k=>?_
   ·obtain⟨v',q,e⟩:=Js.mp e;cases e;exact hQ v h' s.toks q #[by rw[J8 (Q7 i)]; exact x',k a _ hne st.2] λb o hb e=>k b o (pE (y:=b) hb) e
   ·rw[NI,KH,Jp,JP]at e;omega
  done:=λs Q E st hQ=>by
   show gC st.1 st.2 hd hf rfl hh (λQ' hq=>kL st.2 hd hf hb hl hp (go _ (JA _)) hq) (λv sl' e h' x' k=>?_) λe h' k=>hQ h' s.toks λb o hb e=>k b o (pE (y:=b) hb) e
   obtain⟨v',q,e⟩:=Js.mp e;have:=(JD.mp q).1;rw[Jp,JP]at this;omega
  self:=λ_ _ _ _ st hQ=>iP st.1 hQ }
def pH {ps:Jn Jx}(hh:A.handled=gV)(hne:a≠I)(hnt:tp≠I)(hd:o.data=.set es ep t)(hf:t.fits es.size=true)(hp:ps.Perm (JW es.size)) :
  Ro prog w A I [I,a,tp] [I] es.size (λi v=>(ps.map λp=>(es.getD p (0,.none)).2)[i]?=ba v) (λi h=>SIt I (.ref tp) (.ref a) i es.size ep h/\h.get? a=ba o/\h.get? tp=ba { cls:=.type "tuple",data:=.seq (ps.map λk=>rawInt (k:Jx)).toArray 0 }) where
 sub:=λb hb=>by simp at hb; simp[hb]
 frame:=λ_ _ _ st hk=>#[hk I (by simp) _ st.1,hk a (by simp) _ st.2.1,hk tp (by simp) _ st.2.2]
 item:=λi s Q E hi st hQ=>by
  have lt:∀ {p},ps[i]?=ba p->p < es.size:=λq=>JT.mp (hp.mem_iff.mp (JJ q))
  show mD st.1 st.2.1 hd hf rfl hh st.2.2 (λp e q qe h' x' k=>?_) (λp q=>#[es[p]'(lt q),by simp[lt q]]) λe h' k=>?_
  ·show hQ e.2 h' s.toks ?_ #[x',k a _ hne st.2.1,k tp _ hnt st.2.2] λb o hb e=>k b o (pE (y:=b) hb) e
   rw[JB,q];simp[Nx,lt q];rw[LV (lt q)]at qe;cases qe; rfl
  ·rw[KH,hp.length_eq,J9]at e;omega
 done:=λs Q E st hQ=>by
  show mD st.1 st.2.1 hd hf rfl hh st.2.2 (λp e q qe h' x' k=>?_) (λp q=>?_) λe h' k=>hQ h' s.toks λb o hb e=>k b o (pE (y:=b) hb) e
  ·have:=(JD.mp q).1;rw[hp.length_eq,J9]at this;omega
  ·have:=(JD.mp q).1;rw[hp.length_eq,J9]at this;omega
 self:=λ_ _ _ _ st hQ=>iP st.1 hQ
end
section
variable{prog:Kf}{w:Kq}{A:Ki}{E:Jr->Jt->Prop}{s:Jt}{a:Jz}{o:Lr}{xs:Jn JS}{es:J7 (JI×Jr)}{ep:Jx}{t:KW}
structure SetWalk (prog:Kf)(w:Kq)(A:Ki)(s:Jt)(a:Jz)(es:J7 (JI×Jr))(I:Jz)(h':Kv):Prop where
 ex:∃(fp:Jn Jz) (St:Jx->Kv->Prop) (us:Jn Jr) (n:Jx),us.Perm (es.toList.map (·.2))/\us.length=n/\Ro prog w A I fp [I] n (λi v=>us[i]?=ba v) St/\St 0 h'/\∀b∈fp,b=a\/s.heap.objs.size<=b/\b < h'.objs.size
 new:s.heap.objs.size<=I
 keep:∀b u,s.heap.get? b=ba u->h'.get? b=ba u
def xL {Q:Jr->Jt->Prop}(hh:A.handled=gV)(ho:s.heap.get? a=ba o)(hex:o.ExactSet)(hd:o.data=.set es ep t)(hz:es.size<=sizeLine)(fit:t.fits es.size=true)(led:t.led = !fe w)(pl:t.plain=true->es.size=0\/fE t es.size=true)(h:∀I h' dr,SetWalk prog w A s a es I h'->Q (.ref I) { s with heap:=h',drawn:=dr }):wpAny (model prog w) A (pyIter (.ref a)) Q E s:=by
 have hT:s.TypeIs (.ref a) "set":=#[o,ho,hex.1];have ha:a < s.heap.objs.size:=JO ho;show OO hT F.slot_set_iter (KM F.slot_set_iter hT rY ?_ (F.args_set_iter_1 _));unfold Mz.«frozenset.__iter__»;show Jo (Jo (Ju ?_));change wpAny _ _ (pure a) _ _ s;show Ju ?_;unfold Se setDrawn;show Jo (Jo (Od ho hd fit (Ju ?_)));show Jo (Jo (K7 ho hd fit ?_));dsimp only;unfold setsByText;show Jo (Jo (ME (Ju (Ju ?_))));have oI:∀(f:Jr) (h0:Kv),(h0.push { cls:=.type "set_iterator",data:=.fields [f,rawInt 0,.ref a,rawInt es.size,rawInt ep].toArray }).get? h0.objs.size=ba { cls:=.type "set_iterator",data:=.fields [f,rawInt 0,.ref a,rawInt es.size,rawInt ep].toArray }:=λf h0=>JH _ rfl
 show MT (λhc=>?_) (λhc=>?_)
 ·show Jo (kK es.size _ J9 λps dr hp=>?_)
  show Jo (Ou ?_ (by rw[Jp,hp.length_eq,J9]; exact hz))
  have o1:=Jq (seqObj "tuple" (ps.map λk=>rawInt (k:Jx)).toArray 0) ho
  show Jo (QG o1 hd fit ?_);show Jo (Ks (Ju #[_,rfl,"set_iterator",_,#[_,oI _ _,rfl],fU.lookup,?_]));have z1:(s.heap.push (seqObj "tuple" (ps.map λk=>rawInt (k:Jx)).toArray 0)).objs.size=s.heap.objs.size+1:=K8 ..
  have W:=pH (prog:=prog) (w:=w) (A:=A) (a:=a) (I:=(s.heap.push (seqObj "tuple" (ps.map λk=>rawInt (k:Jx)).toArray 0)).objs.size) (tp:=s.heap.objs.size) (ps:=ps) hh (by rw[z1]; exact JZ (LA ha)) (by rw[z1]; exact JZ (K2 _)) hd fit hp
  have eL:(ps.map λp=>(es.getD p (0,Kz)).2).length=es.size:=by rw[Jp,hp.length_eq,J9]
  show h _ _ dr #[#[_,_,ps.map λp=>(es.getD p (0,Kz)).2,_,?_,eL,W,#[oI _ _,Jq _ o1,Jq _ (JH _ rfl)],λb hb=>?_],by rw[z1]; exact Ma _,λb u e=>Jq _ (Jq _ e)]
  ·show(hp.map _).trans ?_;have e:((JW es.size).map λp=>(es.getD p (0,Kz)).2)=es.toList.map λe=>e.2:=by
    apply LW
    ·simp
    ·intro k h1 h2;simp only[Jp,J9]at h1;simp[Nx,h1]
   rw[e]
  ·rw[K8,z1];simp only[JR,Kh,Lu]at hb;rcases hb with rfl|rfl|rfl
   ·exact .inr #[by rw[z1]; exact Ma _,by rw[z1]; exact K2 _]
   ·exact .inl rfl
   ·exact .inr #[JA _,LA (K2 _)]
 ·show Jo (Ju (Jo (QG ho hd fit ?_)));show Jo (Ks (Ju #[_,rfl,"set_iterator",_,#[_,oI _ _,rfl],fU.lookup,?_]));have near:∀b∈[s.heap.objs.size,a],b=a\/s.heap.objs.size<=b/\b < (s.heap.push { cls:=.type "set_iterator",data:=.fields [rawInt 0,rawInt 0,.ref a,rawInt es.size,rawInt ep].toArray }).objs.size:=λb hb=>by
   rw[K8];simp only[JR,Kh,Lu]at hb;rcases hb with rfl|rfl
   ·exact .inr #[JA _,K2 _]
   ·exact .inl rfl
  cases hb:fe w with
  | true=>
   have W:=rZ (prog:=prog) (A:=A) (I:=s.heap.objs.size) hh (JZ ha) hd fit hb;have eL:((pickOrder (w.params.setOrder a ep) es).toList.map (·.2)).length=es.size:=by rw[Jp,gA.length_eq,JP]
   show h _ _ s.drawn #[#[[s.heap.objs.size,a],_,(pickOrder (w.params.setOrder a ep) es).toList.map (·.2),_,gA.map _,eL,W,#[oI _ _,Jq _ ho],near],JA _,λb u e=>Jq _ e]
  | false=>
   have hl:t.led=true:=by rw[led,hb]; rfl
   have eL:(es.toList.map (·.2)).length=es.size:=by rw[Jp,JP]
   by_cases hpw:t.plain=true/\fE t es.size=true
   ·have W:=pG (prog:=prog) (A:=A) (I:=s.heap.objs.size) hh (JZ ha) hd fit hb hl hpw.1 hpw.2;show h _ _ s.drawn #[#[[s.heap.objs.size,a],_,es.toList.map (·.2),_,.refl _,eL,W,#[oI _ _,Jq _ ho],near],JA _,λb u e=>Jq _ e]
   have h1:es.size<=1:=by
    cases hp:t.plain with
    | true=>
     rcases pl hp with z|z
     ·rw[z]; exact Lm _
     ·exact absurd #[hp,z] hpw
    | false=>
     show Q6 λz=>hc ?_
     show((!fe w)&&((!t.plain)&&decide (es.size > 1)))=true;rw[hb,hp]
     simpa using z
   have W:=vA (prog:=prog) (A:=A) (I:=s.heap.objs.size) hh (JZ ha) hd fit hb hl h1;show h _ _ s.drawn #[#[[s.heap.objs.size,a],_,es.toList.map (·.2),_,.refl _,eL,W,#[oI _ _,Jq _ ho],near],JA _,λb u e=>Jq _ e]
def xM {Q:J3->Jt->Prop}(hT:s.TypeIs (.ref a) "set")(h:Q false s):wpAny (model prog w) A (Og (.ref a)) Q E s:=by
 unfold Og;show Jo (Pl hT F.slot_set_len.lookup ?_);generalize hid:("set.__len__" : Lf)=k0
 wp_delta
 rw[show splitId k0=ba ("set","__len__")from by subst hid; decide +kernel]
 subst hid;show Jo (MF (T:="set") (b:=true) hT Ql ?_);show MT (λz=>absurd z #v[]) (λ_=>MT (λ_=>?_) (λz=>absurd (by decide +kernel) z))
 exact Jo (MO hT (Ju h))
def pI {Q:Jn Jr->Jt->Prop}(hh:A.handled=gV)(ho:s.heap.get? a=ba o)(hex:o.ExactSet)(hd:o.data=.set es ep t)(hz:es.size<=sizeLine)(fit:t.fits es.size=true)(led:t.led = !fe w)(pl:t.plain=true->es.size=0\/fE t es.size=true)
  (hQ:∀h' tk dr us,(∀b u,s.heap.get? b=ba u->h'.get? b=ba u)->s.heap.objs.size<=h'.objs.size->us.Perm (es.toList.map (·.2))->Q us { s with heap:=h',toks:=tk,drawn:=dr }):wpAny (model prog w) A (collect (.ref a)) Q E s:=by
 have ha:a < s.heap.objs.size:=JO ho;unfold collect;show Jo (NJ (KS F.entry_proto_collect ?_));rw[KN F.plain_proto_collect _];change wpAny _ A.in1 (newList [] >>= λl=>again (.builtin "list.__iadd__" #[[l,.ref a],[]])) _ _ s
 show Jo (Ks ?_);have oL:(s.heap.push { cls:=.type "list",data:=.seq ([]:Jn Jr).toArray }).get? s.heap.objs.size=ba { cls:=.type "list",data:=.seq #[] 0 }:=JH _ rfl;have o1:=Jq { cls:=.type "list",data:=.seq ([]:Jn Jr).toArray } ho;have z1:(s.heap.push { cls:=.type "list",data:=.seq ([]:Jn Jr).toArray }).objs.size=s.heap.objs.size+1:=K8 ..;show Ju #[LN F.plain_list_iadd _,KS F.entry_list_iadd ?_];rw[KN F.plain_list_iadd _];change wpAny _ A.in1 (Lq (.ref s.heap.objs.size) (.ref a) (.ref s.heap.objs.size)) _ _ _;unfold Lq;show Jo (MO (T:="set") #[o,o1,hex.1] ?_);have n1:OS (.ref s.heap.objs.size) (.ref a)=false:=by
  have:s.heap.objs.size≠a:=Lg ha;simp[OS,this]
 have n2:(Lx "set" == Lx "list")=false:=by decide
 have n3:(Lx "set" == Lx "tuple")=false:=by decide
 simp only[n1,n2,n3,P9,J5,KZ];show Jo (xL (A:=A.in1) (by simp[hh]) o1 hex hd hz fit led pl λI h' dr W=>?_)
 obtain⟨⟨fp,St,us,n,hP,hn,W,st,hfp⟩,hI,kp⟩:=W;rw[z1]at hI;have oa:=kp a o o1;show Jo (KR (xM #[o,oa,hex.1] ?_));have oL1:=kp _ _ oL;have hD:s.heap.objs.size∉fp:=λz=>by
  rcases hfp _ z with e|⟨e,_⟩
  ·exact Lg ha e
  ·rw[z1]at e; exact Nat.not_succ_le_self _ e
 show MT (λ_=>?_) (λz=>absurd (by decide +kernel) z)
 show Jo (Ol (Jo ?_));change wpAny _ _ (updateSeq s.heap.objs.size (·.push .none) >>= λ_=>updateSeq s.heap.objs.size (·.pop)) _ _ _
 show Jo (Nv oL1 rfl ?_);have oL2:=Ln (Lh (·.push Kz)) oL1 rfl
 show Nv (hz:=by seq_fits) oL2 rfl ?_
 have oL3:=Ln (Lh (·.pop)) oL2 rfl
 have hnl:n<=sizeLine:=by rw[<- hn,hP.length_eq,Jp,JP]; exact hz
 show Ju #[LN PySem.F.plain_extend_loop _,codeAny_extend_loopS W.toS hnl s.heap.objs.size hD (.ref s.heap.objs.size) n 0 _ #[] _ rfl (Lm _) (W.frame 0 _ _ st λb hb u e=>?_) oL3 (ItemsOf.nil _) λs' acc c' mv oS hacc=>?_]
 ·have hb':b≠s.heap.objs.size:=λz=>hD (z ▸ hb)
  exact(Kw _ _ (Ne.symm hb')).trans ((Kw _ _ (Ne.symm hb')).trans e)
 ·rw[Sg mv];change wpAny (model prog w) A (do
    let o <- load s.heap.objs.size
    match o.data with
    | .seq xs _=>pure xs.toList
    | _=>unsupported "internal:collect") Q E _
  show Jo (O6 oS (Ju ?_));have eU:acc.toList=us:=by
   apply OP;intro i
   by_cases hi:i < n
   ·have h1:i < acc.size:=by rw[hacc.1]; exact hi
    have:=hacc.2 i acc[i] (by simp[h1])
    rw[this,K9]; simp[h1]
   ·rw[MY (by rw[JP,hacc.1]; omega),MY ∅]
  rw[eU];show hQ _ _ dr us (λb u e=>?_) (MN (JO oS)) hP
  have hb:=JO e;have hb':b≠s.heap.objs.size:=JZ hb;show mv.heap b u (λz=>?_) ((Kw _ _ (Ne.symm hb')).trans ((Kw _ _ (Ne.symm hb')).trans (kp b u (Jq _ e))))
  simp only[JR,Kh,Lu]at z;rcases z with z|z
  ·exact hb' z
  ·rw[z]at hb; exact KT _ (J4 (LA hb) hI)
end
abbrev xN (S:aa)(i:Jx):Jw (JI×JI):=match S[i]? with
 | some (.rng lo hi)=>ba (lo,hi)
 | _=>gV
abbrev nR (xs:Jn W)(S:aa):Jw (W×aa):=match xs with
 | [.int j]=>if -(2 ^ 62)<=j/\j < 2 ^ 62 then ba (.ref S.length,S++[.rng 0 j])else gV
 | _=>gV
abbrev Bj (lo:JI)(n:Jx):Jn W:=(JW n).map λ(k:Jx)=>.int (lo+(k:JI))
abbrev jM (xs:Jn W)(S:aa):Jw (W×aa):=match xs with
 | [.ref i]=>match xN S i with
  | some (lo,hi)=>if -(2 ^ 62)<=lo/\lo < 2 ^ 62/\-(2 ^ 62)<=hi/\hi < 2 ^ 62/\(hi - lo).toNat<=sizeLine then ba (.ref S.length,S++[.lst (Bj lo (hi - lo).toNat)])else gV
  | none=>iL [.ref i] S
 | xs=>iL xs S
section
variable{X:Cx}{J:Jn (Jz×Lr)}{Y:L2.St}{H:Hp}{s:Jt}{A:Jn Jz}{S:aa}
def Inv.drawn (I:Inv X J Y H s)(d:TV):Inv X J Y H { s with drawn:=d }:=#[I.ok,I.os,I.bare,I.base,I.loc,I.cell,I.free,I.freeC,I.pin,I.hok,I.len]
def iQ {h':Kv}{tk:Jx}{dr:TV}{D:Jz}{n:O}{u:HO}(I:Inv X J Y H s)(so:StoreOk X.w X.K A H S)(hk:∀b o,s.heap.get? b=ba o->h'.get? b=ba o)(hD:s.heap.objs.size<=D)(new:ObjOk X.prog X.w (bv H D u) h' D u)
  (r:H D=gV->ObjRel X.w X.K (A++[D]) (bv H D u) D n):PostE X J Y A H (S++[n]) (.ref S.length) (.ref D) { s with heap:=h',toks:=tk,drawn:=dr }:=by
 have hn:H D=gV:=I.hok.fresh hD;show#[.ref D,_,A++[D],Mi.Inv.drawn (I.laid (a:=D) (o:=u) (t':=tk) hk hD new) dr,rfl,cV hn,so.pushO hn (r hn),.ref ?_];rw[<- so.len]; simp
def nS:∀ {vs:Jn V} {us:Jn Jr},vs.length=us.length->(∀(i:Jx) v u,vs[i]?=ba v->us[i]?=ba u->L2.RelV v u)->Vals vs us
 | [],[],_,_=>.nil
 | v::vs,u::us,hl,h=>.cons (h 0 v u rfl rfl) (nS (by simpa using hl) λi v u a b=>h (i+1) v u (by simpa using a) (by simpa using b))
 | [],_::_,hl,_=>by cases hl
 | _::_,[],hl,_=>by cases hl
def nT {K:JE}{lo:JI}:∀(l:Jn Jx),RelL K A H (l.map λ(k:Jx)=>W.int (lo+(k:JI))) (l.map λ(k:Jx)=>V.int (lo+(k:JI)))
 | []=>.nil
 | _::l=>.cons .int (nT l)
def j9 {xs:Jn W}{vs:Jn V}{us:Jn Jr}{i:Jx}(rl:RelL X.K A H [.ref i] vs)(rv:Vals vs us):∃a,A[i]?=ba a/\us=[.ref a]:=by
 cases rl with
 | cons r t=>
  cases t;cases r with
  | @ref _ a ea=>
   cases rv with
   | cons ru rv=>
    cases rv;obtain rfl:_=Kk a:=ru;exact#[a,ea,rfl]
def pJ:LCall X (.type "range") nR:=by
 intro J s Y H A S xs vs us w S' I so rl rv e;unfold nR at e;split at e
 ·rename_i j;split at e
  ·rename_i hb;cases e;cases rl with
   | cons r t=>
    cases t;cases r;cases rv with
    | cons ru rv=>
     cases rv;obtain⟨tk,rfl⟩:=ru;exact SC (iQ (dr:=s.drawn) (u:=.rng 0 j) I so (λb o e=>Jq _ e) (JA _) #[_,_,_,JH _ rfl] λ_=>aK)
  ·cases e
 ·cases e
def pK (hh:X.A.handled=gV):LCall X (.type "list") jM:=by
 intro J s Y H A S xs vs us w S' I so rl rv e;unfold jM at e;split at e
 ·rename_i i;split at e
  ·rename_i lo hi hr;split at e
   ·rename_i hb;cases e;obtain⟨a,ea,rfl⟩:=j9 (xs:=[]) rl rv;obtain⟨b1,b2,b3,b4,b5⟩:=hb;have hH:H a=ba (.rng lo hi):=by
     unfold xN at hr;split at hr
     ·rename_i hx; cases hr; exact so.obj i _ a hx ea
     ·cases hr
    obtain⟨t,u,v,ho⟩:=I.hok a _ hH;have hn:LK lo hi 1=((hi - lo).toNat:Jx):=by rw[P7]; split <;> omega
    show call_list_range hh ho (Sx b1 b2 b3 b4) hn b5 λh' tk acc c hk hD hacc=>?_
    have hv:Vals ((JW (hi - lo).toNat).map λ(k:Jx)=>V.int (lo+(k:JI))) acc.toList:=by
     show nS (by rw[Jp,J9,JP,hacc.1]) λi v u e1 e2=>?_
     rw[JB,Js]at e1;obtain⟨k,e1,rfl⟩:=e1;obtain⟨hk,rfl⟩:=JD.mp e1;obtain⟨t,rfl⟩:=hacc.2 i u (by rw[<- K9]; exact e2)
     exact#[t,by simp]
    show iQ (dr:=s.drawn) (u:=.lst ((JW (hi - lo).toNat).map λ(k:Jx)=>V.int (lo+(k:JI)))) I so hk (JA _) #[by simpa using b5,acc.toList,c,hv,by simpa using hD] λhn=>#[_,aK,?_]
    exact nT _
   ·cases e
  ·exact im J s Y H A S _ vs us w S' I so rl rv e
 ·exact im J s Y H A S _ vs us w S' I so rl rv e
end
mutual
inductive IsT (h:Kv):T->Jr->Prop
 | int {i:JI} {t:T5}:IsT h (.int i) (.int i t)
 | str {x:JS} {t:T5}:IsT h (.str x) (.str x t)
 | tup {ks:Jn T} {a:Jz} {o:Lr} {items:J7 Jr} {n:Jx}:h.get? a=ba o->o.cls=.type "tuple"->o.data=.seq items n->IsTs h ks items.toList->IsT h (.tup ks) (.ref a)
inductive IsTs (h:Kv):Jn T->Jn Jr->Prop
 | nil:IsTs h [] []
 | cons {k:T} {v:Jr} {ks:Jn T} {vs:Jn Jr}:IsT h k v->IsTs h ks vs->IsTs h (k::ks) (v::vs)
end
mutual
theorem IsT.inj {h:Kv}:∀ {x y:T} {v:Jr},IsT h x v->IsT h y v->x=y
 | _,_,_,.int,h2=>by cases h2; rfl
 | _,_,_,.str,h2=>by cases h2; rfl
 | _,_,_,.tup a1 _ d1 t1,h2=>by
  cases h2 with
  | tup a2 _ d2 t2=>
   rw[a1]at a2; cases a2
   rw[d1]at d2; cases d2
   rw[IsTs.inj t1 t2]
theorem IsTs.inj {h:Kv}:∀ {x y:Jn T} {v:Jn Jr},IsTs h x v->IsTs h y v->x=y
 | _,_,_,.nil,h2=>by cases h2; rfl
 | _,_,_,.cons a b,h2=>by
  cases h2 with
  | cons c d=>rw[IsT.inj a c,IsTs.inj b d]
end
mutual
theorem IsT.keeps {h h':Kv}{d:Jz}{o:Lr}{es:J7 L5}{ep:Jx}(ho:h.get? d=ba o)(hd:o.data=.dict es ep)(hs:LF d h h'):∀ {x:T} {v:Jr},IsT h x v->IsT h' x v
 | _,_,.int=>.int
 | _,_,.str=>.str
 | _,_,.tup (a:=a) a1 c1 d1 t1=>by
  have hne:a≠d:=by
   rintro rfl;rw[a1]at ho; cases ho
   rw[d1]at hd; cases hd
  exact .tup ((hs.2 a hne).trans a1) c1 d1 (IsTs.keeps ho hd hs t1)
theorem IsTs.keeps {h h':Kv}{d:Jz}{o:Lr}{es:J7 L5}{ep:Jx}(ho:h.get? d=ba o)(hd:o.data=.dict es ep)(hs:LF d h h'):∀ {x:Jn T} {v:Jn Jr},IsTs h x v->IsTs h' x v
 | _,_,.nil=>.nil
 | _,_,.cons a b=>.cons (IsT.keeps ho hd hs a) (IsTs.keeps ho hd hs b)
end
def IsTs.length {h:Kv}:∀ {x:Jn T} {v:Jn Jr},IsTs h x v->x.length=v.length
 | _,_,.nil=>rfl
 | _,_,.cons _ b=>by simp[IsTs.length b]
def IsTs.get {h:Kv}:∀ {x:Jn T} {v:Jn Jr},IsTs h x v->∀(j:Jx) (h1:j < x.length) (h2:j < v.length),IsT h x[j] v[j]
 | _,_,.cons a _,0,_,_=>a
 | _,_,.cons _ b,j+1,h1,h2=>IsTs.get b j (by simpa using h1) (by simpa using h2)
def cy:∀ {ks:Jn T} (j:Jx) (h:j < ks.length),(ks[j]).depth<=T.depths ks
 | k::ks,0,_=>by simp only[T.depths,List.getElem_cons_zero]; omega
 | k::ks,j+1,h=>by
  have:=cy (ks:=ks) j (by simpa using h)
  simp only[T.depths,List.getElem_cons_succ]; omega
section
variable{prog:Kf}{w:Kq}{E:Jr->Jt->Prop}
mutual
theorem pL:∀(k:T) (v:Jr) (A:Ki) (s:Jt) (Q:JI->Jt->Prop),IsT s.heap k v->A.units+k.depth < cLine->Q (eG w k) { s with toks:=s.toks+k.draws }->wpAny (model prog w) A (pyHash v) Q E s
 | .int i,_,A,s,Q,x,_,h=>by cases x; exact QS h
 | .str y,_,A,s,Q,x,_,h=>by cases x; exact QT h
 | .tup ks,_,A,s,Q,x,hu,h=>by
  cases x with
  | @tup _ a o items n hg hc hd hw=>
   simp only[T.depth]at hu;show PySem.W.pyHash_slot (T:="tuple") #[_,hg,hc] F.slot_tuple_hash F.entry_tuple_hash (F.args_tuple_hash_1 _) (beq_builtin_none _) (.inr ∅) ?_
   change wpAny _ _ (M4 (.ref a) >>= _) _ _ s;show Jo (wpAny_tupleItemsOf hg hd ?_);show Jo ?_;rw[<- Ny];show kM ks items.toList A.in1 s #[] _ hw (by rw[aH]; omega) λb hb=>?_
   change wpAny _ _ (retInt (Nh b.toList)) _ _ _;rw[hb];show Jo (Rp (Ju #[_,_,rfl,?_]))
   simpa [T.draws,Sh,eG]using h
theorem kM:∀(ks:Jn T) (vs:Jn Jr) (A:Ki) (s:Jt) (b:J7 JI) (Q:J7 JI->Jt->Prop),IsTs s.heap ks vs->A.units+T.depths ks < cLine->
  (∀b',b'.toList=b.toList++ig w ks->Q b' { s with toks:=s.toks+T.drawss ks })->
  wpAny (model prog w) A (forIn vs b λx r=>do let h <- pyHash x; pure Qm; pure (LH (r.push h))) Q E s
 | [],_,A,s,b,Q,x,_,h=>by cases x; exact Ju (h b (by simp[ig]))
 | k::ks,_,A,s,b,Q,x,hu,h=>by
  cases x with
  | cons x1 x2=>
   simp only[T.depths]at hu;rw[N6];show Jo (Jo (pL k _ A s _ x1 ∅ ?_))
   show Jo (Ju (Ju ?_));show kM ks _ A _ _ Q x2 ∅ λb' hb=>?_
   have:=h b' (by simp[hb,ig])
   simpa [T.drawss,Sh]using this
end
open SeqAt in
def vB:∀(d:Jx) (x y:T) (u v:Jr) (B:Ki) (s:Jt),x.depth<=d->IsT s.heap x u->IsT s.heap y v->B.units+d < cLine->B.units+y.depth < cLine->EqAt B s u v (decide (x=y))
 | d,.int i,y,_,_,B,s,_,h1,h2,hu,hv=>by
  cases h1;cases h2 with
  | int=>
   rename_i j t2;have:decide (T.int i=T.int j)=(i==j):=by by_cases e:i=j <;> simp[e]
   rw[this]; exact .int_int _ _ _ _
  | str=>rw[Kl (by simp)]; exact .int_str _ _ _ _
  | tup a c dd t=>rw[Kl (by simp)]; exact .int_tuple _ _ #[_,a,c,_,dd] (by simp only[T.depth]at hv; omega)
 | d,.str z,y,_,_,B,s,_,h1,h2,hu,hv=>by
  cases h1;cases h2 with
  | int=>rw[Kl (by simp)]; exact .str_int _ _ _ _
  | str=>
   rename_i z2 t2;have:decide (T.str z=T.str z2)=(z==z2):=by by_cases e:z=z2 <;> simp[e]
   rw[this]; exact .str_str _ _ _ _
  | tup a c dd t=>rw[Kl (by simp)]; exact .str_tuple _ _ #[_,a,c,_,dd] (by simp only[T.depth]at hv; omega)
 | 0,.tup ks,y,_,_,B,s,hd,h1,h2,hu,hv=>by simp[T.depth]at hd
 | d+1,.tup ks,y,_,_,B,s,hd,h1,h2,hu,hv=>by
  have h1':=h1;cases h1 with
  | @tup _ a o items n a1 c1 d1 t1=>
   have hT:s.heap.IsTuple a items:=#[_,a1,c1,_,d1];simp only[T.depth]at hd;cases h2 with
   | int=>rw[Kl (by simp)]; exact .tuple_int _ _ hT ∅
   | str=>rw[Kl (by simp)]; exact .tuple_str _ _ hT ∅
   | @tup ks2 b o2 items2 n2 a2 c2 d2 t2=>
    have hT2:s.heap.IsTuple b items2:=#[_,a2,c2,_,d2]
    by_cases hab:a=b
    ·subst hab;have:T.tup ks=T.tup ks2:=h1'.inj (.tup a2 c2 d2 t2);rw[K6 this];exact EqAt.same _
    ·show EqAt.of_refs hab ?_;simp only[T.depth]at hv;have l1:items.size=ks.length:=by rw[<- JP,t1.length]
     have l2:items2.size=ks2.length:=by rw[<- JP,t2.length]
     let e:Jx->J3:=λj=>if h:j < ks.length/\j < ks2.length then decide (ks[j]'h.1=ks2[j]'h.2)else true
     have he:∀j (h1:j < items.size) (h2:j < items2.size),EqAt B.in1 s items[j] items2[j] (e j):=λj j1 j2=>by
      have g1:=t1.get j (l1 ▸ j1) (by simpa using j1)
      have g2:=t2.get j (l2 ▸ j2) (by simpa using j2)
      have q1:=cy (ks:=ks) j (l1 ▸ j1);have q2:=cy (ks:=ks2) j (l2 ▸ j2);have:=vB d _ _ _ _ B.in1 s ∅ g1 g2 (by rw[aH]; omega) (by rw[aH]; omega)
      change EqAt B.in1 s items[j] items2[j] (if h:j < ks.length/\j < ks2.length then decide (ks[j]'h.1=ks2[j]'h.2)else true)
      rw[Tz #[l1 ▸ j1,l2 ▸ j2]]
      simpa using this
     have:=RcAt.tuples hT hT2 ∅ he
     have hk:((JW (min items.size items2.size)).all e&&items.size==items2.size)=decide (T.tup ks=T.tup ks2):=by
      rw[l1,l2]
      by_cases hl:ks.length=ks2.length
      ·by_cases hq:ks=ks2
       ·subst hq;simp only[SG,KJ,Nq,Rq,JQ,JT];intro j hj;show(if h:j < ks.length/\j < ks.length then decide (ks[j]'h.1=ks[j]'h.2)else true)=true
        rw[Tz #[hj,hj]]; simp
       ·rw[Kl (by simpa using hq)]
        have:∃j,∃h:j < ks.length,ks[j]≠ks2[j]'(hl ▸ h):=by
         apply OG;intro hn;exact hq (LW hl λj h1 h2=>OG λz=>hn #[j,h1,z])
        obtain⟨j,hj,hne⟩:=this;rw[Pu];apply Or.inl;rw[List.all_eq_false];show#[j,by rw[JT,<- hl,SG]; exact hj,?_]
        show ¬ (if h:j < ks.length/\j < ks2.length then decide (ks[j]'h.1=ks2[j]'h.2)else true)=true
        rw[Tz #[hj,hl ▸ hj]]
        simpa using hne
      ·rw[Kl (by simp; intro z; exact hl (by rw[z])),Pu]
       right
       simpa using hl
     rw[hk]at this;exact this
def mF {n:Jx}{v:Jr}(h:∀a,v≠.ref a):eqIsQuiet n v=pure true:=by
 cases v with
 | ref a=>exact absurd rfl (h a)
 | _=>first|rfl|simp[eqIsQuiet]|(unfold eqIsQuiet; rfl)
def ke:∀(d:Jx) (k:T) (v:Jr) (A:Ki) (s:Jt) (Q:J3->Jt->Prop),k.depth<=d->IsT s.heap k v->Q true s->wpAny (model prog w) A (eqIsQuiet d v) Q E s
 | d,.int i,_,A,s,Q,_,x,h=>by cases x; rw[mF (λa=>by simp)]; exact Ju h
 | d,.str i,_,A,s,Q,_,x,h=>by cases x; rw[mF (λa=>by simp)]; exact Ju h
 | 0,.tup ks,_,A,s,Q,hd,x,h=>by simp[T.depth]at hd
 | d+1,.tup ks,_,A,s,Q,hd,x,h=>by
  cases x with
  | @tup _ a o items n ho hc hdt hi=>
   simp only[T.depth]at hd;have hT:s.TypeIs (.ref a) "tuple":=#[_,ho,hc];unfold eqIsQuiet;show Jo (Pl hT F.slot_tuple_eq.lookup ?_);change wpAny _ _ (isInstance (.ref a) (.type "tuple") >>= _) _ _ s;show Jo (MF hT isSubtype_tuple_tuple ?_);simp only[Mu,J5,KZ];show Jo (Ll ho hdt ?_);show Jo ?_;change wpAny _ _ (forIn items _ _) _ _ s;rw[<- Ny];show Nd _ (λbw r s'=>r.1=gV/\s'=s/\∃kk,IsTs s.heap kk bw/\T.depths kk<=d) _ ?_ ?_ _ _ #[rfl,rfl,ks,hi,∅]
   ·rintro v bw r s' ⟨hr,rfl,kk,hall,hdk⟩;cases hall with
    | cons q1 q2=>
     simp only[T.depths]at hdk;show Jo (ke d _ v _ _ _ ∅ q1 ?_)
     simp only[Mu,J5,KZ];exact Ju #[rfl,rfl,_,q2,∅]
   ·rintro⟨r1,r2⟩ s' ⟨hr,rfl,_⟩;simp only at hr;subst hr;exact Ju h
end
abbrev aW (prog:Kf)(w:Kq):HeapKind prog w T where
 is:=λh k a=>IsT h k (.ref a)/\k.depth<=aA
 hash:=eG w
 draws:=T.draws
 room:=λA=>A.units+aA < cLine
 inj:=λhx hy=>hx.1.inj hy.1
 keeps:=λx ho hd hs=>#[x.1.keeps ho hd hs,x.2]
 pyHash:=λhu hk h=>pL _ _ _ _ _ hk.1 (by have:=hk.2; omega) h
 eqBool:=λhu hx hy h=>vB aA _ _ _ _ _ _ hx.2 hx.1 hy.1 hu (by have:=hy.2; omega) _ _ _ _ h
 quiet:=λhk h=>ke 8 _ _ _ _ _ (by have:=hk.2; unfold aA at this; omega) hk.1 h
section
variable{prog:Kf}{w:Kq}{E:Jr->Jt->Prop}
def mG {n:Jx}{v:Jr}(h:∀a,v≠.ref a):ofAClassStatement n v=pure false:=by
 cases v with
 | ref a=>exact absurd rfl (h a)
 | _=>first|rfl|dsimp only[ofAClassStatement]|(unfold ofAClassStatement; rfl)
def nU:∀(d:Jx) (k:T) (v:Jr) (A:Ki) (s:Jt) (Q:J3->Jt->Prop),k.depth<=d->IsT s.heap k v->Q false s->wpAny (model prog w) A (ofAClassStatement d v) Q E s
 | d,.int i,_,A,s,Q,_,x,h=>by cases x; rw[mG (λa=>by simp)]; exact Ju h
 | d,.str i,_,A,s,Q,_,x,h=>by cases x; rw[mG (λa=>by simp)]; exact Ju h
 | 0,.tup ks,_,A,s,Q,hd,x,h=>by simp[T.depth]at hd
 | d+1,.tup ks,_,A,s,Q,hd,x,h=>by
  cases x with
  | @tup _ a o items n ho hc hdt hi=>
   simp only[T.depth]at hd;have hT:s.TypeIs (.ref a) "tuple":=#[_,ho,hc];unfold ofAClassStatement;show Jo (MO hT ?_);dsimp only;rw[JX (show("tuple" == "tuple")=true by decide)]
   show Jo (Ju ?_);simp only[Mu,J5,KZ];show Jo (Ll ho hdt ?_);show Jo ?_;change wpAny _ _ (forIn items _ _) _ _ s;rw[<- Ny];show Nd _ (λbw r s'=>r.1=gV/\s'=s/\∃kk,IsTs s.heap kk bw/\T.depths kk<=d) _ ?_ ?_ _ _ #[rfl,rfl,ks,hi,∅]
   ·rintro v bw r s' ⟨hr,rfl,kk,hall,hdk⟩;cases hall with
    | cons q1 q2=>
     simp only[T.depths]at hdk;show Jo (nU d _ v _ _ _ ∅ q1 ?_)
     simp only[J5,KZ];exact Ju #[rfl,rfl,_,q2,∅]
   ·rintro⟨r1,r2⟩ s' ⟨hr,rfl,_⟩;simp only at hr;subst hr;exact Ju h
def xO {A:Ki}{s:Jt}{Q:J3->Jt->Prop}{x:T}{b:Jz}{ys:Jn Jr}(hx:IsT s.heap x (.ref b))(hdx:x.depth<=aA)(hy:∀v∈ys,∃y c,v=.ref c/\IsT s.heap y (.ref c)/\y.depth<=aA)(h:Q false s):wpAny (model prog w) A (searchCouldBeSeen (.ref b) ys) Q E s:=by
 unfold searchCouldBeSeen;show Jo ?_;show Nd _ (λbw r s'=>r.1=gV/\s'=s/\∀v∈bw,∃y c,v=.ref c/\IsT s.heap y (.ref c)/\y.depth<=aA) _ ?_ ?_ _ _ #[rfl,rfl,hy]
 ·rintro v bw r s' ⟨hr,rfl,hall⟩;obtain⟨y,c,rfl,q,hdy⟩:=hall v (.head _);have hrest:∀v∈bw,∃y c,v=.ref c/\IsT s'.heap y (.ref c)/\y.depth<=aA:=λv hv=>hall v (.tail _ hv)
  have k6:aA<=8:=by unfold aA; decide
  dsimp only;split
  ·exact Ju #[rfl,rfl,hrest]
  ·show Jo (ke 8 _ _ _ _ _ ∅ hx ?_)
   simp only[Mu,J5,KZ];show Jo (ke 8 _ _ _ _ _ ∅ q ?_)
   simp only[Mu,J5,KZ];show Jo (nU 8 _ _ _ _ _ ∅ hx ?_)
   simp only[J5,KZ];show Jo (nU 8 _ _ _ _ _ ∅ q ?_)
   simp only[J5,KZ];exact Ju #[rfl,rfl,hrest]
 ·rintro⟨r1,r2⟩ s' ⟨hr,rfl,_⟩;simp only at hr;subst hr;exact Ju h
end
inductive Sf where|there|free (slot:Jx)
abbrev dN (es:J7 (JI×T))(t:KW)(x:T)(h:JI):Jx->Jw Ov->Jw Sf
 | 0,_=>gV
 | f+1,stand=>match t.probe (λi=>(es[i]?.map (·.1)).getD 0) h (stand.getD (t.probeStart h))with
  | none=>gV
  | some (.empty j gV)=>ba (.free j)
  | some (.empty _ (ba _))=>gV
  | some (.candidate j i next)=>match es[i]? with
   | none=>gV
   | some (_,y)=>if y=x then ba .there else if t.slot j=.live i then dN es t x h f (ba next)else gV
structure SE (h:Kv)(es0:J7 (JI×T))(es:J7 (JI×Jr)):Prop where
 size:es0.size=es.size
 ent:∀(i:Jx) (hh:JI) (y:T),es0[i]?=ba (hh,y)->∃b:Jz,es[i]?=ba (hh,Kk b)/\IsT h y (.ref b)/\y.depth<=aA
def SE.hash {h:Kv}{es0:J7 (JI×T)}{es:J7 (JI×Jr)}(R:SE h es0 es):(λ(i:Jx)=>(es0[i]?.map (λp=>p.1)).getD 0)=λ(i:Jx)=>(es[i]?.map (λp=>p.1)).getD 0:=by
 funext i
 cases e:es0[i]? with
 | none=>
  have:es[i]?=gV:=by rw[Array.getElem?_eq_none_iff]at e ⊢; rw[<- R.size]; exact e
  rw[this]; rfl
 | some p=>
  obtain⟨b,e2,_⟩:=R.ent i p.1 p.2 e;rw[e2]; rfl
def SE.vals {h:Kv}{es0:J7 (JI×T)}{es:J7 (JI×Jr)}(R:SE h es0 es):∀e∈es.toList,∃y c,e.2=.ref c/\IsT h y (.ref c)/\y.depth<=aA:=λe he=>by
 obtain⟨i,hi,rfl⟩:=LL.mp he;rw[JP]at hi;have hi0:i < es0.size:=by rw[R.size]; exact hi
 obtain⟨b,e2,q⟩:=R.ent i es0[i].1 es0[i].2 (LV hi0);rw[LV hi]at e2;show#[_,b,?_,q];rw[N3,KQ e2]
section
variable{prog:Kf}{w:Kq}{E:Jr->Jt->Prop}{A:Ki}{s:Jt}
def xP {a b:Jz}{o:Lr}{es0:J7 (JI×T)}{es:J7 (JI×Jr)}{ep:Jx}{t:KW}{x:T}{h:JI}{Q:SetFound->Jt->Prop}(ho:s.heap.get? a=ba o)(hd:o.data=.set es ep t)(hf:t.fits es.size=true)(hg:t.gaveWay=false)(R:SE s.heap es0 es)
    (hx:IsT s.heap x (.ref b)) (hdx:x.depth<=aA) (hu:(aW prog w).room A):∀(f F:Jx) (stand:Jw Ov) (r:Sf),dN es0 t x h f stand=ba r->f<=F->(r=.there->Q (.there gV) s)->(∀j,r=.free j->Q (.free j false) s)->
    wpAny (model prog w) A (setSearchFrom a (.ref b) h true F stand) Q E s:=by
  intro f
  induction f with
  | zero=>intro F stand r e; cases e
  | succ f ih=>
    intro F stand r e hF h1 h2;obtain⟨F,rfl⟩ : ∃F',F=F'+1:=#[F - 1,∅]
    unfold setSearchFrom;show Jo (K7 ho hd hf ?_);dsimp only;rw[hg];simp only[J5,KZ];unfold dN at e;rw[R.hash]at e;split
    · rename_i met hm
      have hm:t.probe (λi=>(es[i]?.map (·.1)).getD 0) h (stand.getD (t.probeStart h))=ba met:=hm
      rw[hm]at e;cases met with
      | empty j dm=>
        cases dm with
        | none=>cases e; exact Ju (h2 j rfl)
        | some d=>cases e
      | candidate j i next=>
        dsimp only at e ⊢;cases ei:es0[i]? with
        | none=>rw[ei]at e; cases e
        | some p=>
          obtain⟨hh,y⟩:=p;rw[ei]at e;dsimp only at e;obtain⟨c,ec,qy,hdy⟩:=R.ent i hh y ei;rw[ec];dsimp only;have sm:t.sameMemory t.moves t.mask=ba true:=by unfold Tl; rw[JX (KJ _)]
          have hv:∀v∈SX (λx=>x.snd) (Array.filter (λx=>x.fst==h) es).toList,∃y c,v=Kk c/\IsT s.heap y (.ref c)/\y.depth<=aA:=λv hv=>by
            obtain⟨p,hp,rfl⟩:=JF.mp hv;rw[Array.toList_filter]at hp;exact R.vals p (LD.mp hp).1
          cases hl:t.led
          · simp only[PH,Lp]
            show Jo (xO hx hdx hv ?_);simp only[J5,KZ];show Jo (KR ((aW prog w).eqBool hu #[qy,hdy] #[hx,hdx] ?_));show Jo (K7 ho hd hf ?_)
            by_cases hyx:y=x
            · rw[JX hyx]at e
              cases e;simp only[hyx,Rq,Nq,Lp];exact Ju (h1 rfl)
            · rw[J8 hyx]at e
              split at e
              · rename_i hsl
                simp only[hyx,SH,Oq,J5,KZ,sm,Lp,hsl,ec];show Jo (Pw ?_);show Jo (Ju ?_);simp only[Lp];exact ih F (ba next) r e ∅ h1 h2
              · cases e
          · simp only[Mu,J5,KZ]
            show Jo (KR ((aW prog w).eqBool hu #[qy,hdy] #[hx,hdx] ?_));show Jo (K7 ho hd hf ?_)
            by_cases hyx:y=x
            · rw[JX hyx]at e
              cases e;simp only[hyx,Rq,Nq,Lp];exact Ju (h1 rfl)
            · rw[J8 hyx]at e
              split at e
              · rename_i hsl
                simp only[hyx,SH,Oq,J5,KZ,sm,Lp,hsl,ec];show Jo (Pw ?_);show Jo (Ju ?_);simp only[Lp];exact ih F (ba next) r e ∅ h1 h2
              · cases e
    · rename_i hm
      have hm:t.probe (λi=>(es[i]?.map (·.1)).getD 0) h (stand.getD (t.probeStart h))=gV:=by
        first|exact hm|(cases hp:t.probe (λi=>(es[i]?.map (·.1)).getD 0) h (stand.getD (t.probeStart h))with
          | none=>rfl
          | some m=>exact absurd hp (hm m))
      rw[hm]at e;cases e
end
mutual
def d6:T->J3
 | .int _=>true
 | .str _=>false
 | .tup xs=>cW xs
def cW:Jn T->J3
 | []=>true
 | x::xs=>d6 x&&cW xs
end
section
variable{prog:Kf}{w:Kq}{E:Jr->Jt->Prop}
def tJ:∀(d:Jx) (k:T) (v:Jr) (A:Ki) (s:Jt) (Q:J3->Jt->Prop),d6 k=true->k.depth<=d->IsT s.heap k v->Q true s->wpAny (model prog w) A (hashByValue d v) Q E s
 | d,.int i,_,A,s,Q,_,_,x,h=>by
  cases x;have:∀t,hashByValue d (.int i t)=pure true:=λt=>by cases d <;> rfl
  rw[this]; exact Ju h
 | d,.str i,_,A,s,Q,hn,_,x,h=>by cases hn
 | 0,.tup ks,_,A,s,Q,_,hd,x,h=>by simp[T.depth]at hd
 | d+1,.tup ks,_,A,s,Q,hn,hd,x,h=>by
  cases x with
  | @tup _ a o items n ho hc hdt hi=>
   simp only[T.depth]at hd;have hn:cW ks=true:=hn;have hT:s.TypeIs (.ref a) "tuple":=#[_,ho,hc];unfold hashByValue;show Jo (Pl hT F.slot_tuple_hash.lookup ?_);show Jo (Ll ho hdt ?_);show Jo ?_;change wpAny _ _ (forIn items _ _) _ _ s;rw[<- Ny];show Nd _ (λbw r s'=>r.1=gV/\s'=s/\∃kk,IsTs s.heap kk bw/\T.depths kk<=d/\cW kk=true) _ ?_ ?_ _ _ #[rfl,rfl,ks,hi,∅,hn]
   ·rintro v bw r s' ⟨hr,rfl,kk,hall,hdk,hnk⟩;cases hall with
    | cons q1 q2=>
     simp only[T.depths]at hdk;simp only[cW,Jv]at hnk;show Jo (tJ d _ v _ _ _ hnk.1 ∅ q1 ?_)
     simp only[Mu,J5,KZ];exact Ju #[rfl,rfl,_,q2,∅,hnk.2]
   ·rintro⟨r1,r2⟩ s' ⟨hr,rfl,_⟩;simp only at hr;subst hr;exact Ju h
end
noncomputable abbrev Ze:=JI×T×Jz
abbrev zT (z:Ze):JI×T:=(z.1,z.2.1)
abbrev zV (z:Ze):JI×Jr:=(z.1,.ref z.2.2)
abbrev ZOk (h:Kv)(zs:J7 Ze):Prop:=∀z∈zs.toList,IsT h z.2.1 (.ref z.2.2)/\z.2.1.depth<=aA
def ZOk.se {h:Kv}{zs:J7 Ze}(k:ZOk h zs):SE h (zs.map zT) (zs.map zV):=#[by simp,λi hh y e=>by
 rw[Ow,Js]at e;obtain⟨z,hz,e⟩:=e;cases e;exact#[z.2.2,by rw[Ow,hz]; rfl,k z (by rw[M6]; exact NS hz)]]
def iR {α β:Type}{f:α->β}{xs:J7 α}{p:Jx}{x:α}:Ko (xs.map f) p (f x)=(Ko xs p x).map f:=by
 unfold Ko;simp[Array.map_extract]
abbrev dv (t:KW)(n:Jx):J3:=t.fits n && !t.gaveWay&&decide (n<=1000)
abbrev bp (hf:T->JI)(st:J7 (JI×T)×KW)(x:T):Jw (J7 (JI×T)×KW):=
 match dN st.1 st.2 x (hf x) 100 gV with
 | none=>gV
 | some .there=>ba st
 | some (.free slot)=>
  if dv (st.2.put slot).1 (Ko st.1 (st.2.put slot).2 (hf x,x)).size then
   if (st.2.put slot).1.tooFull then
    if Ox (NK (st.1.size+1))<=sizeLine then
     match (st.2.put slot).1.relaid ((Ko st.1 (st.2.put slot).2 (hf x,x)).map (·.1)) (NK (st.1.size+1))with
     | none=>gV
     | some (t2,order)=>
      if (order.filterMap ((Ko st.1 (st.2.put slot).2 (hf x,x))[·]?)).size=(Ko st.1 (st.2.put slot).2 (hf x,x)).size/\dv t2 (order.filterMap ((Ko st.1 (st.2.put slot).2 (hf x,x))[·]?)).size=true then ba (order.filterMap ((Ko st.1 (st.2.put slot).2 (hf x,x))[·]?),t2)else gV
    else gV
   else ba (Ko st.1 (st.2.put slot).2 (hf x,x),(st.2.put slot).1)
  else gV
def filterMap_map {α β:Type}{f:α->β}{xs:J7 α}{order:J7 Jx}:order.filterMap ((xs.map f)[·]?)=(order.filterMap (xs[·]?)).map f:=by
 rw[Array.map_filterMap];congr 1
 funext i
 exact Ow ..
def r0 {b:Jz}{es:J7 (JI×Jr)}:byScan (.ref b) es=false:=rfl
def kN {t:KW}{n:Jx}(h:dv t n=true):t.fits n=true/\t.gaveWay=false/\n<=1000:=by
 unfold dv at h;simp only[Jv,M0,JU]at h;exact#[h.1.1,h.1.2,h.2]
section
variable{prog:Kf}{w:Kq}{E:Jr->Jt->Prop}{A:Ki}{s:Jt}
def r4 {a:Jz}{o:Lr}{es es1:J7 (JI×Jr)}{ep:Jx}{t t1:KW}{Q:TW->Jt->Prop}(ho:s.heap.get? a=ba o)(hd:o.data=.set es ep t)(hz:es1.size<=1000)
  (h:∀h',LF a s.heap h'->h'.get? a=ba { o with data:=.set es1 (ep+1) t1 }->Q () { s with heap:=h' }):wpAny (model prog w) A (storeSet a es1 t1) Q E s:=by
 show wpAny_storeSet_of ho hd (h _ (MA ..) ?_) (J6 hz (by rw[Ky]; decide))
 have:=Ln (Obj.putSet es1 t1) ho (by rw[putSet_of es1 t1 hd]; rfl)
 rw[putSet_of es1 t1 hd]at this;exact this
def FN {a b:Jz}{o:Lr}{zs:J7 Ze}{ep:Jx}{t:KW}{x:T}{hf:T->JI}{es1:J7 (JI×T)}{t1:KW}{Q:J3->Jt->Prop}(ho:s.heap.get? a=ba o)(hd:o.data=.set (zs.map zV) ep t)(hft:dv t zs.size=true)(hz:ZOk s.heap zs)
  (hx:IsT s.heap x (.ref b)) (hdx:x.depth<=aA) (hnx:d6 x=true) (hu:(aW prog w).room A) (e:bp hf (zs.map zT,t) x=ba (es1,t1))
  (k:∀(bb:J3) (h':Kv) (zs':J7 Ze) (ep':Jx),zs'.map zT=es1->dv t1 zs'.size=true->LF a s.heap h'->h'.get? a=ba { o with data:=.set (zs'.map zV) ep' t1 }->(∀z∈zs'.toList,z∈zs.toList\/z=(hf x,x,b))->Q bb { s with heap:=h' }) :
  wpAny (model prog w) A (setAddHashed a (.ref b) (hf x)) Q E s:=by
 obtain⟨f1,f2,f3⟩:=kN hft;have f1':t.fits (zs.map zV).size=true:=by rw[Lc]; exact f1
 unfold setAddHashed setAddHashedIn;show KR (Jo (K7 ho hd f1' ?_));dsimp only;rw[r0];simp only[J5,KZ];unfold bp at e;cases hs:dN (zs.map zT) t x (hf x) 100 gV with
 | none=>rw[hs]at e; cases e
 | some r=>
  rw[hs]at e;dsimp only at e;show Jo ?_;unfold setSearch;show xP ho hd f1' f2 hz.se hx hdx hu 100 100000 gV r hs #v[] (λhr=>?_) λslot hr=>?_
  ·subst hr;cases e;exact Ju (k false s.heap zs ep rfl hft (QH ..) (by rw[<- hd]; exact ho) λz h=>.inl h)
  ·subst hr;dsimp only at e ⊢;show Jo (K7 ho hd f1' ?_);dsimp only;split at e
   ·rename_i hok1;have eI:Ko (zs.map zT) (t.put slot).2 (hf x,x)=(Ko zs (t.put slot).2 (hf x,x,b)).map zT:=iR (f:=zT) (x:=(hf x,x,b));have eV:Ko (zs.map zV) (t.put slot).2 (hf x,.ref b)=(Ko zs (t.put slot).2 (hf x,x,b)).map zV:=iR (f:=zV) (x:=(hf x,x,b));have hmem:∀z∈(Ko zs (t.put slot).2 (hf x,x,b)).toList,z∈zs.toList\/z=(hf x,x,b):=λz h=>by
     unfold Ko at h;simp only[Oe,ON,Kc,JK]at h;rcases h with(h|h)|h
     ·rw[M7]at h;exact .inl (by rw[OH]at h; exact M8 (LZ h))
     ·exact .inr h
     ·rw[M7]at h;exact .inl (by rw[OH]at h; exact M8 (LZ h))
    rw[eI]at e hok1;rw[Lc]at hok1;obtain⟨g1,g2,g3⟩:=kN hok1;rw[eV];have hfst:∀z1:J7 Ze,MG (λx=>x.fst) (MG zV z1)=MG (λx=>x.fst) (MG zT z1):=λz1=>by
     rw[Si,Si]; rfl
    simp only[Lc]at e ⊢;generalize(t.put slot).1=tt at e hok1 g1 g2 ⊢;generalize Ko zs (t.put slot).2 (hf x,x,b)=z1 at e hok1 g1 g3 hmem ⊢;clear eI eV;have k8:x.depth<=8:=J6 hdx (by unfold aA; decide)
    have g1v:tt.fits (MG zV z1).size=true:=by rw[Lc]; exact g1
    have tail:∀h1:Kv,LF a s.heap h1->h1.get? a=ba { o with data:=.set (MG zV z1) (ep+1) tt }->wpAny (model prog w) A (if (!false&&tt.tooFull)=true then do setRelay a (NK (zs.size+1)); pure true else pure true) Q E { s with heap:=h1 }:=by
     intro h1 sb1 q1;cases htf:tt.tooFull with
     | false=>
      rw[htf]at e;simp only[J5,KZ]at e;cases e;simp only[PH,Oq,J5,KZ];exact Ju (k true h1 z1 (ep+1) rfl hok1 sb1 q1 hmem)
     | true=>
      rw[htf]at e;simp only[Lp]at e;simp only[PH,Nq,Lp];split at e
      ·rename_i hle;cases hrel:tt.relaid (MG (λx=>x.fst) (MG zT z1)) (NK (zs.size+1))with
       | none=>rw[hrel]at e; cases e
       | some p=>
        obtain⟨t2,order⟩:=p;rw[hrel]at e;dsimp only at e;rw[filterMap_map,Lc]at e;split at e
        ·rename_i hc;cases e;obtain⟨c1,c2⟩:=hc;obtain⟨d1,d2,d3⟩:=kN c2;unfold setRelay;show Jo (Jo (K7 q1 rfl g1v ?_));dsimp only;rw[J8 (Qn.mpr hle)];rw[hfst,hrel];show Jo (NC (a:=(MG zV (Rx (λx=>z1[x]?) order),t1)) ?_ ?_)
         ·show(if ((Rx (λx=>(MG zV z1)[x]?) order).size != (MG zV z1).size)=true then _ else _)=_
          rw[filterMap_map,Lc,Lc,c1];rw[J8 (by simp)]
         ·dsimp only;show r4 (s:={ s with heap:=h1 }) q1 rfl (by rw[Lc]; exact d3) λh2 sb2 q2=>Ju (k true h2 _ (ep+1+1) rfl c2 (sb1.trans sb2) q2 λz hz=>hmem z ?_)
          obtain⟨i,hi,e⟩:=Array.mem_filterMap.mp (M6.mp hz);exact M6.mpr (NS e)
        ·cases e
      ·cases e
    cases hp:tt.plain with
    | false=>
     simp only[J5,KZ];show Jo (Ju ?_);simp only[Lp];exact Jo (r4 ho hd (by rw[Lc]; exact g3) λh1 sb1 q1=>tail h1 sb1 q1)
    | true=>
     simp only[Lp];show Jo (tJ 8 _ _ _ _ _ hnx k8 hx ?_);simp only[Lp];exact Jo (r4 ho hd (by rw[Lc]; exact g3) λh1 sb1 q1=>tail h1 sb1 q1)
   ·cases e
end
abbrev gD (h h':Kv):Prop:=∀c o,h.get? c=ba o->o.cls=.type "tuple"->h'.get? c=ba o
mutual
theorem IsT.stay {h h':Kv}(k:gD h h'):∀ {x:T} {v:Jr},IsT h x v->IsT h' x v
 | _,_,.int=>.int
 | _,_,.str=>.str
 | _,_,.tup a b c d=>.tup (k _ _ a b) b c (IsTs.stay k d)
theorem IsTs.stay {h h':Kv}(k:gD h h'):∀ {x:Jn T} {v:Jn Jr},IsTs h x v->IsTs h' x v
 | _,_,.nil=>.nil
 | _,_,.cons a b=>.cons (IsT.stay k a) (IsTs.stay k b)
end
def ZOk.stay {h h':Kv}{zs:J7 Ze}(k:gD h h')(z:ZOk h zs):ZOk h' zs:=λy hy=>#[(z y hy).1.stay k,(z y hy).2]
section
variable{prog:Kf}{w:Kq}{A:Ki}{E:Jr->Jt->Prop}{s:Jt}{R:QV->Jt->Prop}{I:Jz}{fp wr:Jn Jz}{G:J7 PD->J7 PD->Prop}{n:Jx}{P:Jx->Jr->Prop}{St:Jx->Jt->Prop}
abbrev kO (w:Kq)(zs:J7 Ze)(ep:Jx)(t:KW):Lr:={ cG w with data:=.set (zs.map zV) ep t }
def vC (W:WalksS prog w A.in1 I fp wr G n P St){D:Jz}(hD:D∉fp)(hwr:∀i s b o,St i s->b∈wr->s.heap.get? b=ba o->o.cls≠.type "tuple"){ks:Jn T}{res:J7 (JI×T)×KW}{Yq:T->Jz->Prop}(hl:ks.length=n)(hk:∀x∈ks,d6 x=true/\x.depth<=aA)(hP:∀i v,P i v->∃x b,ks[i]?=ba x/\v=.ref b/\Yq x b)(hu:(aW prog w).room A.in1) :
  ∀(k i:Jx) (s:Jt) (zs:J7 Ze) (ep:Jx) (t:KW),n - i=k->i<=n->St i s->s.heap.get? D=ba (kO w zs ep t)->dv t zs.size=true->ZOk s.heap zs->(∀z∈zs.toList,Yq z.2.1 z.2.2)->(∀j v x,P j v->ks[j]?=ba x->IsT s.heap x v)->(ks.drop i).foldlM (bp (eG w)) (zs.map zT,t)=ba res->
   (∀s' zs' ep',Moved (D::wr) G s s'->s'.heap.get? D=ba (kO w zs' ep' res.2)->zs'.map zT=res.1->dv res.2 zs'.size=true->ZOk s'.heap zs'->(∀z∈zs'.toList,Yq z.2.1 z.2.2)->R (.ok (.ret .none)) s')->codeAny (model prog w) A (.builtin "set.update.loop" #[[.ref D,.ref I],[]]) R s:=by
 have hw:D∉wr:=λz=>hD (W.sub _ z)
 have up:∀b∈wr,b∈D::wr:=λb z=>KA _ z
 intro k
 induction k with
 | zero=>
  intro i s zs ep t hk' hi st ho hok hz hy hT hsim hR;obtain rfl:i=n:=∅
  show KS F.entry_set_update_loop ?_;rw[KN F.plain_set_update_loop _];change wpAny _ A.in1 (pyNext (.ref I) >>= _) _ _ s;show Jo (W.done s _ _ st λs' mv=>?_)
  rw[NL ∅]at hsim
  cases hsim;have ts:gD s.heap s'.heap:=λc o q hc=>mv.heap c o (λz=>hwr _ _ _ _ st z q hc) q
  exact Ju (hR s' zs ep (mv.mono up) (mv.heap D _ hw ho) rfl hok (hz.stay ts) hy)
 | succ k ih=>
  intro i s zs ep t hk' hi st ho hok hz hy hT hsim hR;have hlt:i < n:=∅
  show KS F.entry_set_update_loop ?_;rw[KN F.plain_set_update_loop _];change wpAny _ A.in1 (pyNext (.ref I) >>= _) _ _ s;show Jo (W.item i s _ _ hlt st λv s1 pv st1 mv=>?_)
  obtain⟨x,b,hx,rfl,yx⟩:=hP i v pv;have ts1:gD s.heap s1.heap:=λc o q hc=>mv.heap c o (λz=>hwr _ _ _ _ st z q hc) q
  obtain⟨hn,hdp⟩:=hk x (JJ hx);have G4:IsT s1.heap x (.ref b):=(hT i _ x pv hx).stay ts1;have o1:s1.heap.get? D=ba (kO w zs ep t):=mv.heap D _ hw ho;have hd1:ks.drop i=x::ks.drop (i+1):=by
   obtain⟨h1,h2⟩:=JD.mp hx;rw[List.drop_eq_getElem_cons h1,h2]
  rw[hd1,MH]at hsim;cases hs:bp (eG w) (zs.map zT,t) x with
  | none=>rw[hs]at hsim; cases hsim
  | some aG=>
   obtain⟨es1,t1⟩:=aG;rw[hs]at hsim;have hsim:(ks.drop (i+1)).foldlM (bp (eG w)) (es1,t1)=ba res:=hsim;change wpAny _ A.in1 (holding [Kk b] (setAdd D (.ref b)) >>= _) _ _ s1;show Jo (KR ?_);unfold setAdd;show KR (Jo ((aW prog w).pyHash hu #[G4,hdp] ?_));show FN (s:={ s1 with toks:=s1.toks+x.draws }) (hf:=eG w) o1 rfl hok (hz.stay ts1) G4 hdp hn hu hs λbb h' zs' ep' e1 hok' sb ho' hmem=>?_
   have ts2:gD s1.heap h':=λc o q hc=>by
    show sb.extBut c o (λz=>?_) q
    subst z;rw[o1]at q;cases q;exact absurd hc (by change ¬ (Lx "set" = Lx "tuple"); simp)
   have hz':ZOk h' zs':=λz hzm=>by
    rcases hmem z hzm with h|rfl
    ·exact((hz.stay ts1).stay ts2) z h
    ·exact#[G4.stay ts2,hdp]
   show Ju #[LN F.plain_set_update_loop _,ih (i+1) { s1 with heap:=h',toks:=s1.toks+x.draws } zs' ep' t1 ∅ hlt (W.frame _ s1 _ _ st1 (Mb _ _) λc hc u q=>?_) ho' hok' hz' (λz hzm=>by
    rcases hmem z hzm with h|rfl
    ·exact hy z h
    ·exact yx) (λj v y pj hy=>((hT j v y pj hy).stay ts1).stay ts2) (by rw[e1]; exact hsim) λs2 zs2 ep2 mv2 ho2 e2 hok2 hz2 hy2=>?_]
   ·rw[sb.2 c λz=>hD (z ▸ hc)]; exact q
   ·show hR s2 zs2 ep2 (Moved.trans W.gtrans ((mv.mono up).then_heap (Mb _ _) λc u hc q=>?_) mv2) ho2 e2 hok2 hz2 hy2
    rw[sb.2 c λz=>hc (z ▸ KP)]
    exact q
end
section
variable{prog:Kf}{w:Kq}{A:Ki}{E:Jr->Jt->Prop}{s:Jt}
def xQ (l:J3):dv (.fresh 0 0 l) (#[]:J7 Ze).size=true:=by cases l <;> decide
set_option maxHeartbeats 4000000 in
def vD {l:Jz}{its:J7 Jr}{ks:Jn T}{res:J7 (JI×T)×KW}{Q:Jr->Jt->Prop}(hh:A.handled=gV)(hl:s.heap.IsList l its)(hi:IsTs s.heap ks its.toList)(hk:∀x∈ks,d6 x=true/\x.depth<=aA)(hrf:∀(i:Jx) (v:Jr),its[i]?=ba v->∃b,v=.ref b)(hu:(aW prog w).room A.in1.in1.in1)(hsim:ks.foldlM (bp (eG w)) (#[],.fresh 0 0 (!fe w))=ba res)
  (h:∀(h':Kv) (tk:Jx) (zs:J7 Ze) (ep:Jx),h'.get? s.heap.objs.size=ba (kO w zs ep res.2)->zs.map zT=res.1->dv res.2 zs.size=true->ZOk h' zs->(∀z∈zs.toList,∃i:Jx,ks[i]?=ba z.2.1/\its[i]?=ba (Kk z.2.2))->(∀b u,s.heap.get? b=ba u->h'.get? b=ba u)->Q (.ref s.heap.objs.size) { s with heap:=h',toks:=tk }):wpAny (model prog w) A (call (.type "set") [.ref l]) Q E s:=by
 obtain⟨c,tl,hmro⟩:=F.called_set.mro;have hmade:=F.called_set.made;have hsub:=F.called_set.sub;have hn1:=F.called_set.notType;have hn2:=F.called_set.canCreate;have hct:=F.typeCall_set_1 (.ref l);show wpAny_call (Pk ?_);change wpAny _ _ (callAny (.type "set") _) _ _ _;show Ju #[Qo _ (by decide +kernel),KS F.entry_type_call ?_]
 rw[Around.under_plain (weight_type_call_type "set" [.ref l] []) rfl]
 repeat (any_goals (first|assumption|wp_step))
 show NE (xI (w:=w) (.ref l) (E:=E) (Q₁:=λobj s1=>obj=.ref s.heap.objs.size/\s1={ s with heap:=s.heap.push (cG w) }) #[rfl,rfl]) λr s1 hr=>?_
 match r,hr with
 | .ok (.ret obj),hr=>
  obtain⟨rfl,rfl⟩:=hr;have oS:(s.heap.push (cG w)).get? s.heap.objs.size=ba (cG w):=JH _ rfl;have tS:Shared.TypeIs { s with heap:=s.heap.push (cG w) } (.ref s.heap.objs.size) "set":=#[_,oS,rfl]
  have hli:=F.called_set.init.lookup;have hbi:=F.called_set.init.bind (.ref s.heap.objs.size)
  repeat (any_goals (first|assumption|wp_step))
  show NE (codeAny_call_builtin (R:=wants (λr s2=>r=.none/\∃h' tk zs ep,s2={ s with heap:=h',toks:=tk }/\h'.get? s.heap.objs.size=ba (kO w zs ep res.2)/\zs.map zT=res.1/\dv res.2 zs.size=true/\ZOk h' zs/\(∀z∈zs.toList,∃i:Jx,ks[i]?=ba z.2.1/\its[i]?=ba (Kk z.2.2))/\∀b u,s.heap.get? b=ba u->h'.get? b=ba u) E) F.called_set.init.plain F.entry_set_init (check_set_init_1 tS ?_)) λr2 s2 hr2=>?_
  ·obtain⟨⟨oc,od,ot,osl⟩,hol,hcl,nl,hdl⟩:=id hl;simp only at hcl hdl;subst hcl hdl;have hol1:=Jq (cG w) hol;have l1:(s.heap.push (cG w)).IsList l its:=#[_,hol1,rfl,nl,rfl];have e1:=F.sub_list_set;have e2:=F.sub_list_frozenset;have e3:(Lx "list" == Lx "dict")=false:=by decide
   unfold Mz.«set.__init__» noKeywords Ry;generalize hPI:pyIter=PI
   wp_walk
   subst hPI;show M1 l1 (Jo (NJ ?_));have ls:l < s.heap.objs.size:=JO hol;have sz:(s.heap.push (cG w)).objs.size=s.heap.objs.size+1:=K8 ..;have ne:l≠(s.heap.push (cG w)).objs.size:=by rw[sz]; exact JZ (LA ls)
   have oS':(s.heap.push (cG w)).get? s.heap.objs.size=ba (kO w #[] 0 (.fresh 0 0 (!fe w))):=by
    rw[oS]; unfold kO cG; simp
   have len:ks.length=its.size:=by rw[hi.length,JP]
   show vC ((RV (A:=A.in1.in1.in1) (by simp[hh]) _ l ne its).toS) (D:=s.heap.objs.size) (ks:=ks) (res:=res) (Yq:=λx b=>∃i:Jx,ks[i]?=ba x/\its[i]?=ba (Kk b)) (by rw[sz]; simp only[JR,Kh,Lu,Q8]; exact#[JZ (K2 _),Lg ls]) (λi s b o st hb q=>?_) len hk (λi v q=>?_) hu _ 0 _ #[] 0 (.fresh 0 0 (!fe w)) rfl (Lm _)
    #[#[_,JH _ rfl,rfl,rfl],l1.push _] (Jq _ oS') (xQ _) (λz hz=>by simp at hz) (λz hz=>by simp at hz) (λj v x q hx=>?_) (by rw[PJ,show MG zT #[]=#[] by simp]; exact hsim) λs3 zs3 ep3 mv ho3 e3 hok3 hz3 hy3=>?_
   ·obtain⟨⟨o',e,hc,_⟩,_⟩:=st;rw[JK.mp hb]at q;rw[q]at e;cases e;rw[hc];simp
   ·obtain⟨b,rfl⟩:=hrf i v q;have hi':i < ks.length:=by rw[len]; exact(Lv.mp q).1
    exact#[ks[i],b,Jy hi',rfl,i,Jy hi',q]
   ·have hj:=(JD.mp hx);have q':=(Lv.mp q);obtain⟨h1,rfl⟩:=hj;obtain⟨h2,rfl⟩:=q';have:=hi.get j h1 (by rw[JP]; exact h2)
    rw[N3]at this;exact this.stay λc o q hc=>Jq _ (Jq _ q)
   ·rw[Sg mv];show Ju (Ju #[rfl,s3.heap,s3.toks,zs3,ep3,rfl,ho3,e3,hok3,hz3,hy3,λb u q=>?_])
    have hb:=JO q;exact mv.heap b u (by rw[sz]; simp only[JR,Kh,Lu,Q8]; exact#[JZ hb,JZ (LA hb)]) (Jq _ (Jq _ q))
  ·match r2,hr2 with
   | .ok (.ret r),hr2=>
    obtain⟨rfl,h',tk,zs,ep,rfl,g1,g2,g3,g4,g5,g6⟩:=hr2
    repeat (any_goals (first|assumption|wp_step))
    exact h h' tk zs ep g1 g2 g3 g4 g5 g6
   | .ok .next,hr2=>exact hr2.elim
   | .ok .brk,hr2=>exact hr2.elim
   | .ok .cont,hr2=>exact hr2.elim
   | .error e,hr2=>exact hr2
 | .ok .next,hr=>exact hr.elim
 | .ok .brk,hr=>exact hr.elim
 | .ok .cont,hr=>exact hr.elim
 | .error e,hr=>exact hr
end
abbrev jN (S:aa)(i:Jx):Jw (Jn (T×W)):=match S[i]? with
 | some (.dic U)=>ba U
 | some (.frd U)=>ba U
 | _=>gV
abbrev nV (S:aa)(i:Jx):Jw (Jn (T×W)):=match S[i]? with
 | some (.dic U)=>ba U
 | _=>gV
abbrev bF (U:Jn (T×W))(k:T):Jw W:=(U.find? λp=>decide (p.1=k)).map (·.2)
abbrev eE (U:Jn (T×W))(k:T)(v:W):Jn (T×W):=
 if (U.any λp=>decide (p.1=k))=true then U.map (λp=>if p.1=k then(p.1,v)else p)else U++[(k,v)]
abbrev gS (w:W):Jw T:=match W.t w with
 | some k=>if k.isTup=true/\k.depth<=aA then ba k else gV
 | none=>gV
def dX {w:W}{k:T}(h:gS w=ba k):k.w=w/\k.isTup=true/\k.depth<=aA:=by
 unfold gS at h;split at h
 ·rename_i k' hk;split at h
  ·rename_i hc;cases h;exact#[W.t_w hk,hc.1,hc.2]
  ·cases h
 ·cases h
def cO (U:Jn (T×W))(k:T)(v:W):(eE U k v).length<=U.length+1:=by
 unfold eE;split
 ·rw[Jp]; omega
 ·rw[JC,Kr,LS]; omega
section
variable{X:Cx}{J:Jn (Jz×Lr)}{Y:L2.St}{H:Hp}{s:Jt}{A:Jn Jz}{S:aa}
mutual
theorem kP (I:Inv X J Y H s):∀(k:T) {v:V} {u:Jr},Rel X.K A H k.w v->RelV v u->IsT s.heap k u
 | .int i,_,_,r,q=>by
  cases r;obtain⟨t,rfl⟩ : ∃t,_=OY _ t:=q;exact .int
 | .str x,_,_,r,q=>by
  cases r;obtain⟨t,rfl⟩ : ∃t,_=NU _ t:=q;exact .str
 | .tup ks,_,_,r,q=>by
  simp only[T.w]at r;cases r with
  | tup sq rl=>
   obtain⟨its,rv,⟨o,h1,h2,n,h3⟩,hz⟩:=I.tuple sq;obtain rfl:_=Kk _:=q;exact .tup h1 h2 h3 (eJ I ks rl (by simpa using rv))
theorem eJ (I:Inv X J Y H s):∀(ks:Jn T) {vs:Jn V} {us:Jn Jr},RelL X.K A H (T.ws ks) vs->Vals vs us->IsTs s.heap ks us
 | [],_,_,r,q=>by
  simp only[T.ws]at r;cases r; cases q; exact .nil
 | k::ks,_,_,r,q=>by
  simp only[T.ws]at r;cases r with
  | cons r1 r2=>
   cases q with
   | cons q1 q2=>exact .cons (kP I k r1 q1) (eJ I ks r2 q2)
end
def jm (I:Inv X J Y H s){k:T}{b:Jz}(r:Rel X.K A H k.w (.ref b))(hd:k.depth<=aA):(aW X.prog X.w).is s.heap k b:=#[kP I k r rfl,hd]
def iS {w:W}{k:T}{v:V}{u:Jr}(hk:gS w=ba k)(r:Rel X.K A H w v)(q:RelV v u):∃b,v=.ref b/\u=.ref b/\Rel X.K A H k.w (.ref b):=by
 obtain⟨h1,h2,h3⟩:=dX hk;subst h1;cases k with
 | tup ks=>
  simp only[T.w]at r;cases r with
  | tup a b=>exact#[_,rfl,q,by simp only[T.w]; exact .tup a b]
 | _=>cases h2
def KRel.is {U:Jn (T×W)}{xs:Jn (T×Jz×Jr)}(I:Inv X J Y H s)(r:KRel X.K A H U xs):∀x∈xs,(aW X.prog X.w).is s.heap x.1 x.2.1:=by
 unfold KRel at r
 induction r with
 | nil=>intro x hx; exact nomatch hx
 | @cons p q ps qs h t ih=>
  intro x hx;rcases JR.mp hx with e|hx
  ·subst e;obtain⟨h1,h2,h3,h4,_⟩:=h;rw[h1]at h3 h4;exact jm I h4 h3
  ·exact ih x hx
def KRel.length {U:Jn (T×W)}{xs:Jn (T×Jz×Jr)}(r:KRel X.K A H U xs):U.length=xs.length:=OR r
def KRel.val {U:Jn (T×W)}{xs:Jn (T×Jz×Jr)}(r:KRel X.K A H U xs)(k:T) :
  (∀w,bF U k=ba w->∃p v,atKey xs k=ba p/\Rel X.K A H w v/\RelV v p.2)/\(bF U k=gV->atKey xs k=gV):=by
 unfold KRel at r
 induction r with
 | nil=>exact#[λw h=>(nomatch h),λ_=>rfl]
 | @cons p q ps qs h t ih=>
  obtain⟨h1,_,_,_,v,h5,h6⟩:=h
  by_cases e:p.1=k
  ·have e':q.1=k:=h1.symm.trans e;have a1:bF (p::ps) k=ba p.2:=by simp[bF,MU,e]
   have a2:atKey (q::qs) k=ba q.2:=by simp[atKey,MU,e']
   rw[a1,a2];exact#[λw hw=>(by cases hw; exact#[_,v,rfl,h5,h6]),λh=>nomatch h]
  ·have e':¬ q.1=k:=λz=>e (h1.trans z)
   have a1:bF (p::ps) k=bF ps k:=by simp[bF,MU,e]
   have a2:atKey (q::qs) k=atKey qs k:=by simp[atKey,MU,e']
   rw[a1,a2];exact ih
def KRel.repl {U:Jn (T×W)}{xs:Jn (T×Jz×Jr)}(r:KRel X.K A H U xs)(k:T){w:W}{v:V}{u:Jr}(rw':Rel X.K A H w v)(rv:RelV v u) :
  KRel X.K A H (U.map λp=>if p.1=k then(p.1,w)else p) (xs.map (putAt k u)):=by
 unfold KRel at r ⊢
 induction r with
 | nil=>exact .nil
 | @cons p q ps qs h t ih=>
  rw[KO,KO];show .cons ?_ ih;obtain⟨h1,h2,h3,h4,h5⟩:=h;unfold putAt
  by_cases e:p.1=k
  ·rw[JX e,JX (h1.symm.trans e)]; exact#[h1,h2,h3,h4,v,rw',rv]
  ·rw[J8 e,J8 (λz=>e (h1.trans z))]; exact#[h1,h2,h3,h4,h5]
def pM (k:T):∀U:Jn (T×W),(U.any λp=>decide (p.1=k))=(bF U k).isSome
 | []=>rfl
 | p::r=>by
  rw[L9]
  by_cases e:p.1=k
  ·have a1:bF (p::r) k=ba p.2:=by simp[bF,MU,e]
   rw[a1,K6 e]; rfl
  ·have a1:bF (p::r) k=bF r k:=by simp[bF,MU,e]
   rw[a1,Kl e,OT]; exact pM k r
def KRel.put {U:Jn (T×W)}{xs:Jn (T×Jz×Jr)}(r:KRel X.K A H U xs){k:T}{b:Jz}{w:W}{v:V}{u:Jr}(h1:k.isTup=true)(h2:k.depth<=aA)(h3:Rel X.K A H k.w (.ref b))(rw':Rel X.K A H w v)(rv:RelV v u) :
  KRel X.K A H (eE U k w) (storedH xs k b u):=by
 have e:(U.any λp=>decide (p.1=k))=(atKey xs k).isSome:=by
  rw[pM];cases q:bF U k with
  | none=>rw[(r.val k).2 q]; rfl
  | some x=>obtain⟨p,_,h,_⟩:=(r.val k).1 x q; rw[h]; rfl
 unfold eE storedH;rw[e]
 by_cases q:(atKey xs k).isSome=true
 ·rw[JX q,JX q]; exact r.repl k rw' rv
 ·rw[J8 q,J8 q]; exact Paired.snoc r #[rfl,h1,h2,h3,v,rw',rv]
def DicAt.of {h:Kv}{a:Jz}{xs:Jn (T×Jz×Jr)}(hz:xs.length<=sizeLine)(hs:(a==sysModules)=false)(d:h.DictOfH (aW X.prog X.w) a xs):DicAt X.w a xs h:=
 let ⟨o,es,ep,h1,h2,h3,h4,_,h6⟩:=d; #[hz,hs,h6,o,es,ep,h1,h2,h3,h4]
def DicAt.stay {wd:Kq}{h h':Kv}{a:Jz}{xs:Jn (T×Jz×Jr)}(d:DicAt wd a xs h)(k:∀o,h.get? a=ba o->h'.get? a=ba o):DicAt wd a xs h':=
 let ⟨h0,hs,hn,o,es,ep,h1,h2⟩:=d; #[h0,hs,hn,o,es,ep,k _ h1,h2]
def DicAt.ok {P:Kf}{h:Kv}{wd:Kq}{a:Jz}{xs:Jn (T×Jz×Jr)}(d:DicAt wd a xs h):ObjOk P wd H h a (d4 wd a xs):=
 #[d,let ⟨_,_,_,o,_,_,h1,_⟩:=d; #[o,h1],λ_ _ p k=>p.stay k]
def cH {a:Jz}{xs:Jn (T×Jz×Jr)}(I:Inv X J Y H s)(e:Rd H a (d4 X.w a xs)):DicAt X.w a xs s.heap:=(show ObjOk X.prog X.w H s.heap a (d4 X.w a xs)from e.ok I.hok).1
def DicAt.dict {U:Jn (T×W)}{a:Jz}{xs:Jn (T×Jz×Jr)}(d:DicAt X.w a xs s.heap)(I:Inv X J Y H s)(r:KRel X.K A H U xs):s.heap.DictOfH (aW X.prog X.w) a xs:=
 let ⟨_,_,hn,o,es,ep,h1,h2,h3,h4⟩:=d; #[o,es,ep,h1,h2,h3,h4,r.is I,hn]
def fW {i:Jx}{U:Jn (T×W)}{a:Jz}(so:StoreOk X.w X.K A H S)(e:jN S i=ba U)(ea:A[i]?=ba a):∃xs,Rd H a (d4 X.w a xs)/\KRel X.K A H U xs:=by
 unfold jN at e;split at e
 ·rename_i k h;cases e;obtain⟨xs,q,r⟩:=so.obj i _ a h ea;exact#[xs,.inl q,r]
 ·rename_i k h;cases e;obtain⟨o,xs,q,r⟩:=so.obj i _ a h ea;exact#[xs,.inr #[o,q],r]
 ·cases e
def iT {i:Jx}{U:Jn (T×W)}(e:nV S i=ba U):S[i]?=ba (.dic U):=by
 unfold nV at e;split at e
 ·rename_i h; cases e; exact h
 ·cases e
def tK {i:Jx}{U:Jn (T×W)}{a:Jz}(so:StoreOk X.w X.K A H S)(e:nV S i=ba U)(ea:A[i]?=ba a):∃xs,H a=ba (d4 X.w a xs)/\KRel X.K A H U xs:=
 so.obj i _ a (iT e) ea
def pN {B:Ki}(hu:B.units+10 < cLine):(aW X.prog X.w).room B.in1:=by
 change B.in1.units+aA < cLine;rw[aH]; unfold aA; omega
abbrev o7 (x y:W)(S:aa):Jw (W×aa):=match x,y with
 | .ref r,.tup ks=>match jN S r,gS (.tup ks)with
  | some U,ba k=>(bF U k).map λw=>(w,S)
  | _,_=>gV
 | x,y=>vn x y S
def HW (hu:X.A.units+10 < cLine):LIx X o7:=by
 intro value slice J s Y H A S x y a b u v w S' I so rx ru ry rv e hs
 by_cases hxy:∃r ks,x=.ref r/\y=.tup ks
 ·obtain⟨r,ks,rfl,rfl⟩:=hxy;simp only[o7]at e;split at e
  ·rename_i U k hk1 hk2;rw[Js]at e;obtain⟨w',e1,e2⟩:=e;cases e2;cases rx with
   | ref ea=>
    obtain⟨xs,rd,kr⟩:=fW so hk1 ea;have d:=cH I rd;have dd:=d.dict I kr;obtain⟨bk,rfl,rfl,rk⟩:=iS hk2 ry rv;obtain⟨p,vv,h1,h2,h3⟩:=(kr.val k).1 _ e1;obtain rfl:u=Kk _:=ru;show NG (x:=p.2) dd.typeIs slot_dict_getitem.lookup
     (wpAny_getItem_heap (Q:=λr s'=>r=p.2/\PostE X J Y A H S w r s') (pN hu) (jm I rk (dX hk2).2.2) dd h1 #[rfl,vv,H,A,I.tok _,h3,.refl,so,h2]) hs
  ·cases e
 ·have:o7 x y S=vn x y S:=by
   cases x <;> cases y <;> first|rfl|exact absurd #[_,_,rfl,rfl] hxy
  rw[this]at e;exact Jg hu value slice J s Y H A S x y a b u v w S' I so rx ru ry rv e hs
abbrev iU (o i v:W)(S:aa):Jw aa:=match o,i with
 | .ref r,.tup ks=>match nV S r,gS (.tup ks)with
  | some U,ba k=>if U.length < sizeLine then ba (S.set r (.dic (eE U k v)))else gV
  | _,_=>gV
 | o,i=>vo o i v S
def FP (hu:X.A.units+10 < cLine):LSet X iU:=by
 intro J s Y H A S o i x ao ai ax uo ui ux S' I so ro ruo ri rui rx rux e
 by_cases hxy:∃r ks,o=.ref r/\i=.tup ks
 ·obtain⟨r,ks,rfl,rfl⟩:=hxy;dsimp only[iU]at e;split at e
  ·rename_i U k hk1 hk2;split at e
   ·rename_i hl;cases e;cases ro with
    | ref ea=>
     obtain⟨xs,hH,kr⟩:=tK so hk1 ea;have d:=cH I (.inl hH);have dd:=d.dict I kr;obtain⟨bk,rfl,rfl,rk⟩:=iS hk2 ri rui;obtain⟨q1,q2,q3⟩:=dX hk2;obtain rfl:uo=Kk _:=ruo;have hz:xs.length<=sizeLine:=by rw[<- kr.length]; omega
     show wpAny_setItem_heap (hsz:=hz) (pN hu) (jm I rk q3) dd λh' dd' hs=>?_
     have kr':=kr.put q2 q3 rk rx rux;have hz':(storedH xs k bk ux).length<=sizeLine:=by
      rw[<- kr'.length];have:=cO U k x;omega
     have dn:DicAt X.w _ (storedH xs k bk ux) h':=.of hz' d.2.1 dd';obtain⟨so',ex⟩:=so.writeO (iT hk1) rfl ea (u:=d4 X.w _ (storedH xs k bk ux)) (n:=.dic (eE U k x)) #[_,aK,kr'.mono (cF (.ext hH))];exact#[_,A,nL I (by rw[hH]; exact NX) hs (let ⟨q,_,_,hq,_⟩:=dd'; #[q,hq]) dn.ok,ex,so']
   ·cases e
  ·cases e
 ·have:iU o i x S=vo o i x S:=by
   cases o <;> cases i <;> first|rfl|exact absurd #[_,_,rfl,rfl] hxy
  rw[this]at e;exact lset hu J s Y H A S o i x ao ai ax uo ui ux S' I so ro ruo ri rui rx rux e
abbrev tL (x:W)(xs:Jn W)(S:aa):Jw (W×aa):=match x,xs with
 | .ref r,[y,z]=>match jN S r,gS y with
  | some U,ba k=>ba ((bF U k).getD z,S)
  | _,_=>gV
 | _,_=>gV
def r6 (hu:X.A.units+10 < cLine):mC X "dict.get" tL:=by
 intro J s Y H A S x a u xs vs us w S' I so rx ru rl rv e;cases rx with
 | ref ea=>
  cases rl with
  | nil=>cases e
  | cons r1 t1=>
   cases t1 with
   | nil=>cases e
   | cons r2 t2=>
    cases t2 with
    | cons _ _=>cases e
    | nil=>
     dsimp only[tL]at e;split at e
     ·rename_i U k hk1 hk2;cases e;obtain⟨xs,rd,kr⟩:=fW so hk1 ea;have d:=cH I rd;have dd:=d.dict I kr;cases rv with
      | cons v1 rv2=>
       cases rv2 with
       | cons v2 rv3=>
        cases rv3;obtain⟨bk,rfl,rfl,rk⟩:=iS hk2 r1 v1;obtain rfl:u=Kk _:=ru;show call_meetsIn Px dd.typeIs PySem.F.entry_dict_get (PySem.F.args_dict_get_3 _ _ _) (meetsH_dict_get_default (aW X.prog X.w) _ bk d.2.1 _) #[pN hu,k,xs,jm I rk (dX hk2).2.2,dd,?_];cases q:bF U k with
        | none=>
         rw[(kr.val k).2 q];exact#[_,H,A,I.tok _,v2,.refl,so,r2]
        | some w'=>
         obtain⟨p,vv,h1,h2,h3⟩:=(kr.val k).1 _ q;rw[h1];exact#[vv,H,A,I.tok _,h3,.refl,so,h2]
     ·cases e
 | _=>cases e
abbrev He (x:W)(i:Jx)(S:aa):Jw J3:=match W.t x,fS S i with
 | some k,ba ys=>match W.ts ys with
  | some ks=>if k.depth<=aA/\T.depths ks<=aA then ba (decide (k∈ks))else gV
  | none=>gV
 | _,_=>gV
abbrev DQ (x:W)(ys:Jn W):Jw J3:=match W.t x,W.ts ys with
 | some k,ba ks=>if k.depth<=aA/\T.depths ks<=aA then ba (decide (k∈ks))else gV
 | _,_=>gV
def nW {h:Kv}:∀ {ks:Jn T} {vs:Jn Jr},IsTs h ks vs->∀v∈vs,∃k∈ks,IsT h k v
 | _,_,.cons a b,v,hv=>by
  rcases JR.mp hv with rfl|hv
  ·exact#[_,.head _,a]
  ·obtain⟨k,hk,q⟩:=nW b v hv;exact#[k,.tail _ hk,q]
abbrev Aq (h:Kv)(k:T)(v:Jr):J3:=@decide (IsT h k v) (Sz _)
def r8 {h:Kv}{k k':T}{v:Jr}(x:IsT h k' v):Aq h k v=decide (k'=k):=by
 unfold Aq
 by_cases e:k'=k
 ·subst e; simp[x]
 ·have:¬ IsT h k v:=λy=>e (x.inj y)
  simp[e,this]
def nX {h:Kv}{k:T}:∀ {ks:Jn T} {vs:Jn Jr},IsTs h ks vs->vs.any (Aq h k)=decide (k∈ks)
 | _,_,.nil=>by simp
 | _,_,.cons (k:=k') a b=>by
  rw[L9,r8 a,nX b]
  by_cases e:k'=k
  ·simp[e]
  ·have:¬ k=k':=λz=>e z.symm
   simp[e,this]
def kQ:∀ {ks:Jn T} {k:T},k∈ks->k.depth<=T.depths ks
 | x::ks,k,h=>by
  simp only[T.depths];rcases JR.mp h with rfl|h
  ·omega
  ·have:=kQ h; omega
def xR {x:W}{i:Jx}{a b:V}{u v:Jr}{c:J3}(hu:X.A.units+10 < cLine)(I:Inv X J Y H s)(so:StoreOk X.w X.K A H S)(rx:Rel X.K A H x a)(ru:RelV a u)(ry:Rel X.K A H (.ref i) b)(rv:RelV b v)(e:He x i S=ba c) :
  ∃l its k ks,v=.ref l/\s.heap.IsList l its/\(∀y,y∈its->NV X.A.in1 s y u (Aq s.heap k y))/\its.any (Aq s.heap k)=c/\c=decide (k∈(ks:Jn T)):=by
 unfold He at e;split at e
 ·rename_i k ys h1 h2;split at e
  ·rename_i ks h3;split at e
   ·rename_i h4;cases e;cases ry with
    | ref ea=>
     obtain⟨vs,g1,g2⟩:=bo so h2 ea;obtain⟨its,rv',p,_⟩:=I.list g1;obtain rfl:v=Kk _:=rv;have hT:IsTs s.heap ks its:=eJ I ks ((W.ts_w h3).symm ▸ g2) rv';have hk:IsT s.heap k u:=kP I k ((W.t_w h1).symm ▸ rx) ru;show#[_,its.toArray,k,ks,rfl,p.isList,λy hy=>?_,by rw[Q9]; exact nX hT,rfl]
     obtain⟨k',hk',q⟩:=nW hT y (by simpa using hy)
     rw[r8 q];have:=kQ hk';have kl:aA=6:=rfl;exact vB aA k' k _ _ _ _ ∅ q hk (by rw[aH]; omega) (by rw[aH]; omega)
   ·cases e
  ·cases e
 ·cases e
def Bk {x:W}{ys:Jn W}{a b:V}{u v:Jr}{c:J3}(hu:X.A.units+10 < cLine)(I:Inv X J Y H s)(rx:Rel X.K A H x a)(ru:RelV a u)(ry:Rel X.K A H (.tup ys) b)(rv:RelV b v)(e:DQ x ys=ba c) :
  ∃l its k,v=.ref l/\s.heap.IsTuple l its/\(∀y,y∈its->NV X.A.in1 s y u (Aq s.heap k y))/\its.any (Aq s.heap k)=c:=by
 unfold DQ at e;split at e
 ·rename_i k ks h1 h3;split at e
  ·rename_i h4;cases e;cases ry with
   | @tup _ l vs g1 g2=>
    obtain⟨its,rv',p,_⟩:=I.tuple g1;obtain rfl:v=Kk _:=rv;have hT:IsTs s.heap ks its:=eJ I ks ((W.ts_w h3).symm ▸ g2) rv';have hk:IsT s.heap k u:=kP I k ((W.t_w h1).symm ▸ rx) ru;show#[_,its.toArray,k,rfl,p,λy hy=>?_,by rw[Q9]; exact nX hT]
    obtain⟨k',hk',q⟩:=nW hT y (by simpa using hy)
    rw[r8 q];have:=kQ hk';have kl:aA=6:=rfl;exact vB aA k' k _ _ _ _ ∅ q hk (by rw[aH]; omega) (by rw[aH]; omega)
  ·cases e
 ·cases e
abbrev aZ (o:COp)(x y:W)(S:aa):Jw (W×aa):=match o,y with
 | .isin,.ref i=>match jN S i with
  | some U=>(gS x).map λk=>(.bl (bF U k).isSome,S)
  | none=>match x with
   | .tup xs=>(He (.tup xs) i S).map λb=>(.bl (b),S)
   | x=>ik .isin x (.ref i) S
 | .notin,.ref i=>match jN S i with
  | some U=>(gS x).map λk=>(.bl (!(bF U k).isSome),S)
  | none=>match x with
   | .tup xs=>(He (.tup xs) i S).map λb=>(.bl (!b),S)
   | x=>ik .notin x (.ref i) S
 | .isin,.tup ys=>match x with
  | .tup xs=>(DQ (.tup xs) ys).map λb=>(.bl b,S)
  | x=>ik .isin x (.tup ys) S
 | o,y=>ik o x y S
def pO (hu:X.A.units+ii < cLine)(o:COp):LOp X (compareOp o.py) (aZ o):=by
 intro J s Y H A S x y a b u v w S' I so rx ru ry rv e;have get:∀ {i:Jx} {U:Jn (T×W)} {k:T},y=.ref i->jN S i=ba U->gS x=ba k->∃d c xs,v=.ref d/\u=.ref c/\(d==sysModules)=false/\(aW X.prog X.w).is s.heap k c/\s.heap.DictOfH (aW X.prog X.w) d xs/\(bF U k).isSome=(atKey xs k).isSome:=by
  intro i U k hy hk1 hk2;subst hy;cases ry with
  | ref ea=>
   obtain⟨xs,rd,kr⟩:=fW so hk1 ea;have d:=cH I rd;obtain⟨bk,rfl,rfl,rk⟩:=iS hk2 rx ru;obtain rfl:v=Kk _:=rv;show#[_,bk,xs,rfl,rfl,d.2.1,jm I rk (dX hk2).2.2,d.dict I kr,?_];cases q:bF U k with
   | none=>rw[(kr.val k).2 q]; rfl
   | some w'=>obtain⟨p,_,h1,_⟩:=(kr.val k).1 _ q; rw[h1]; rfl
 have old:ik o x y S=ba (w,S')->wpAny (model X.prog X.w) X.A (compareOp o.py u v) (PostE X J Y A H S' w) X.xe s:=λh=>Bf hu o J s Y H A S x y a b u v w S' I so rx ru ry rv h
 have hu':X.A.units+10 < cLine:=by have:ii=20:=rfl; omega
 unfold aZ at e;split at e
 ·split at e
  ·rename_i U hk1;rw[Js]at e;obtain⟨k,hk2,e2⟩:=e;cases e2;obtain⟨d,c,xs,rfl,rfl,q1,q2,q3,q4⟩:=get rfl hk1 hk2;rw[q4];exact wpAny_in_heap (pN hu') q2 q1 q3 #[.bl _,H,A,I.tok _,rfl,.refl,so,.bl]
  ·split at e
   ·rw[Js]at e;obtain⟨c,hc,e⟩:=e;cases e;obtain⟨l,its,k,ks,rfl,p1,p2,p3,_⟩:=xR hu' I so rx ru ry rv hc;show Ru (Aq s.heap k) p1 p2 ?_;rw[p3];exact#[.bl _,H,A,I,rfl,.refl,so,.bl]
   ·exact old e
 ·split at e
  ·rename_i U hk1;rw[Js]at e;obtain⟨k,hk2,e2⟩:=e;cases e2;obtain⟨d,c,xs,rfl,rfl,q1,q2,q3,q4⟩:=get rfl hk1 hk2;rw[q4];exact wpAny_notIn_heap (pN hu') q2 q1 q3 #[.bl _,H,A,I.tok _,rfl,.refl,so,.bl]
  ·split at e
   ·rw[Js]at e;obtain⟨c,hc,e⟩:=e;cases e;obtain⟨l,its,k,ks,rfl,p1,p2,p3,_⟩:=xR hu' I so rx ru ry rv hc;show Qj (Aq s.heap k) p1 p2 ?_;rw[p3];exact#[.bl _,H,A,I,rfl,.refl,so,.bl]
   ·exact old e
 ·split at e
  ·rw[Js]at e;obtain⟨c,hc,e⟩:=e;cases e;obtain⟨l,its,k,rfl,p1,p2,p3⟩:=Bk hu' I rx ru ry rv hc;show QZ (Aq s.heap k) p1 p2 ?_;rw[p3];exact#[.bl _,H,A,I,rfl,.refl,so,.bl]
  ·exact old e
 ·exact old e
end
abbrev RawD (d:Jz)(es:J7 L5)(ep:Jx)(h:Kv):Prop:=∃o,h.get? d=ba o/\o.ExactDict/\o.data=.dict es ep
def RawD.at {d:Jz}{es:J7 L5}{ep:Jx}{h h':Kv}(x:RawD d es ep h)(e:∀o,h.get? d=ba o->h'.get? d=ba o):RawD d es ep h':=let ⟨o,ho,r⟩:=x; #[o,e _ ho,r]
def RawD.lt {d:Jz}{es:J7 L5}{ep:Jx}{h:Kv}(x:RawD d es ep h):d < h.objs.size:=let ⟨_,ho,_⟩:=x; JO ho
def RawD.type {d:Jz}{es:J7 L5}{ep:Jx}{s:Jt}(x:RawD d es ep s.heap):s.TypeIs (.ref d) "dict":=let ⟨o,ho,hc,_⟩:=x; #[o,ho,hc.1]
section
variable{prog:Kf}{w:Kq}{A:Ki}{E:Jr->Jt->Prop}{s:Jt}{it d:Jz}{i ep:Jx}{es:J7 L5}
def pP {Q:Jr->Jt->Prop}(hd:(d==sysModules)=false)(hm:RawD d es ep s.heap)
  (hQ:Q (.ref s.heap.objs.size) { s with heap:=s.heap.push { cls:=.type "dict_keyiterator",data:=.fields [.ref d,.int 0 0,.int es.size 0,.int ep 0].toArray } }):wpAny (model prog w) A (pyIter (.ref d)) Q E s:=by
 have hT:=hm.type;obtain⟨o,ho,hc,hdat⟩:=id hm;show OO hT F.slot_dict_iter (KM F.slot_dict_iter hT F.entry_dict_iter ?_ (F.args_dict_iter_1 _));unfold Mz.«dict.__iter__» R3;show Jo (Jo (wpAny_notOrdered_dict hT ?_));change wpAny _ _ (pure (Kk d)) _ _ s;show Ju ?_;change wpAny _ _ (Py d >>= _) _ _ s;unfold Py;rw[J8 (by rw[hd]; exact J1)]
 show Jo (Ju (Jo (NM ho hdat (Jo (Pn ho hdat ?_)))));show Jo (Ks (Ju #[_,rfl,"dict_keyiterator",_,#[_,JH _ rfl,rfl],F.slot_dict_keyiterator_next.lookup,?_]))
 simpa [rawInt]using hQ
def pQ {Q:Jw Jr->Jt->Prop}(hit:s.heap.IsKeyIter it d i es.size ep)(hm:RawD d es ep s.heap)(hi:i < es.size)
  (hQ:∀h',h'.IsKeyIter it d (i+1) es.size ep->LF it s.heap h'->Q (ba es[i].key) { s with heap:=h' }):wpAny (model prog w) A (pyNext (.ref it)) Q E s:=by
 obtain⟨o,ho,hc,hd⟩:=id hit;obtain⟨od,hod,hcd,hdd⟩:=id hm;unfold pyNext;show Jo (MW (KI (name:=LG "__next__") hit.typeIs F.slot_dict_keyiterator_next
  (KM F.slot_dict_keyiterator_next hit.typeIs F.entry_dict_keyiterator_next ?_ (F.args_dict_keyiterator_next_1 _))))
 show Jo (Ju (Jo (Jo ?_)))
 first|refine Jo (L0 hit.typeIs (Ju ?_))|refine Jo (Mv hit.typeIs (Ju ?_))
 show Jo (Ot ho hd ?_);have hown:N7 "dict_keyiterator" = false:=by decide
 simp only[hown,J5,KZ];change wpAny _ _ (if (Kk d==Kz)=true then _ else _) _ _ s
 rw[J8 (show ¬ ((Kk d==Kz)=true)from J1)]
 show Jo (Ju (Jo (NM hod hdd ?_)));rw[J8 (by simp)]
 show Jo (Ju (Jo (Pn hod hdd ?_)));rw[J8 (by simp)]
 show Ju ?_;simp only[show ¬ ((i:JI) < 0)from by omega,KZ,JL,LV hi]
 show Jo ?_
 first|refine Jo (L0 hit.typeIs (Ju ?_))|refine Jo (Mv hit.typeIs (Ju ?_))
 show Jo (Pz hit.typeIs ?_);change wpAny _ _ (setField (.ref it) 1 (rawInt ((i:JI)+1)) >>= _) _ _ s;show Jo (Oy ho hd (by simp) ?_)
 have hit':(s.heap.update it (Sj (·.setIfInBounds 1 (rawInt ((i:JI)+1))))).IsKeyIter it d (i+1) es.size ep:=
  #[_,Ln _ ho (PB (Nz hd _)),(QI ..).trans hc,by rw[Nz hd]; simp[rawInt]]
 show Jo (KR ?_);show Jo (Pz (s:={ s with heap:=s.heap.update it (Sj (·.setIfInBounds 1 (rawInt ((i:JI)+1)))) }) hit'.typeIs ?_)
 change wpAny _ _ (pure es[i].key) _ _ _;exact Ju (Ju #[_,rfl,Ju (hQ _ hit' (MA ..))])
def tM {Q:Jw Jr->Jt->Prop}(hh:A.handled=gV)(hit:s.heap.IsKeyIter it d i es.size ep)(hm:RawD d es ep s.heap)(hge:es.size<=i)
  (hQ:∀h',PK it s.heap h'->Q gV { s with heap:=h' }):wpAny (model prog w) A (pyNext (.ref it)) Q E s:=by
 obtain⟨o,ho,hc,hd⟩:=id hit;obtain⟨od,hod,hcd,hdd⟩:=id hm;unfold pyNext;show Jo (MW (KI (name:=LG "__next__") hit.typeIs F.slot_dict_keyiterator_next
  (KM F.slot_dict_keyiterator_next hit.typeIs F.entry_dict_keyiterator_next ?_ (F.args_dict_keyiterator_next_1 _))))
 show Jo (Ju (Jo (Jo ?_)))
 first|refine Jo (L0 hit.typeIs (Ju ?_))|refine Jo (Mv hit.typeIs (Ju ?_))
 show Jo (Ot ho hd ?_);have hown:N7 "dict_keyiterator" = false:=by decide
 simp only[hown,J5,KZ];change wpAny _ _ (if (Kk d==Kz)=true then _ else _) _ _ s
 rw[J8 (show ¬ ((Kk d==Kz)=true)from J1)]
 show Jo (Ju (Jo (NM hod hdd ?_)));rw[J8 (by simp)]
 show Jo (Ju (Jo (Pn hod hdd ?_)));rw[J8 (by simp)]
 show Ju ?_;simp only[show ¬ ((i:JI) < 0)from by omega,KZ,JL,Array.getElem?_eq_none hge]
 show Jo ?_
 first|refine Jo (L0 hit.typeIs (Ju ?_))|refine Jo (Mv hit.typeIs (Ju ?_))
 change wpAny _ _ (setField (.ref it) 0 .none >>= _) _ _ s;show Jo (Oy ho hd (by simp) ?_)
 change wpAny _ _ (newExc (.type "StopIteration") [] >>= _) _ _ _;show Jo ?_;simp only[newExc,newTuple];show Jo (Ks ?_ (by size_fits))
 show Jo (m:=firstArgMember _ _) (NC (a:=Kz) (by first|rfl|(simp only[firstArgMember]; rfl)) ?_)
 show Ks ?_ (by size_fits)
 simp only[raiseNew];show Jo (Qa ?_);rw[show A.in1.handled=gV from hh]
 show Jo (Ju (Rn ?_));show Jo (MF (T:="StopIteration") (b:=true) #[_,JH _ rfl,rfl] Os ?_);exact Ju (hQ _ (((MA ..).extBut.push _).push _))
def vE (hh:A.handled=gV)(I d:Jz)(hne:d≠I)(es:J7 L5)(ep:Jx) :
  Ro prog w A I [I,d] [I] es.size (λi v=>∃e,es[i]?=ba e/\e.key=v) (λi h=>h.IsKeyIter I d i es.size ep/\RawD d es ep h) where
 sub:=λb hb=>by simp at hb; simp[hb]
 frame:=λ_ _ _ st hk=>#[st.1.at λo e=>hk I (by simp) o e,st.2.at λo e=>hk d (by simp) o e]
 item:=λi s Q E hi st hQ=>
  pQ st.1 st.2 hi λh' hit' hs'=>hQ _ h' s.toks #[es[i],by simp[hi],rfl] #[hit',st.2.at λo e=>(hs'.2 d hne).trans e] λb o hb e=>hs'.extBut b o (λh=>hb (by simp[h])) e
 done:=λs Q E st hQ=>tM hh st.1 st.2 (JA _) λh' he'=>hQ h' s.toks λb o hb e=>he' b o (λh=>hb (by simp[h])) e
 self:=λ_ _ _ _ st hQ=>PL st.1 hQ
def tN (lo:(d==sysModules)=false):PM prog w "dict" d d es.size (λi v=>∃e,es[i]?=ba e/\e.key=v) (RawD d es ep) where
 type:=λ_ hm=>hm.type
 there:=λ_ hm=>#[hm.lt,hm.lt]
 keep:=λ_ _ hm hk=>hm.at λo e=>hk d (.inl rfl) o e
 notList:=by decide
 notTuple:=by decide
 hint:=λ_ _ _ _ hm hq=>PySem.W.kdl_hint_dict hm.type hq
 iter:=λ_ _ hh hm=>#[_,_,(λ_ _ hq=>pP lo hm hq),vE hh _ d (JZ hm.lt) es ep,#[#[_,JH _ rfl,rfl,rfl],hm.at λo e=>Jq _ e]]
def xS {T:Lf}{r d S:Jz}{n:Jx}{P:Jx->Jr->Prop}{OK:Kv->Prop}{R:QV->Jt->Prop}(K:PM prog w T r d n P OK)(hh:A.handled=gV)(hok:OK s.heap)(hn:n<=sizeLine)(hSr:S≠r)(hSd:S≠d)
  (hS:s.heap.get? S=ba { cls:=.type "list",data:=.seq #[] 0 })
  (hR:∀h' tk acc' c',(∀b o,b≠S->s.heap.get? b=ba o->h'.get? b=ba o)->h'.get? S=ba { cls:=.type "list",dict:=gV,data:=.seq acc' c',slots:=#[] }->Pb P acc' n->R (.ok (.ret (.ref S))) { s with heap:=h',toks:=tk }) :
  codeAny (model prog w) A (.builtin "list.__iadd__" #[[.ref S,.ref r],[]]) R s:=by
 show KS F.entry_list_iadd ?_;rw[KN F.plain_list_iadd _];change wpAny _ A.in1 (Lq (.ref S) (.ref r) (.ref S)) _ _ _;exact PySem.W.kdl_extend K hh hok S hSr hSd _ 0 hS hR hn
def pR {T:Lf}{r d:Jz}{n:Jx}{P:Jx->Jr->Prop}{OK:Kv->Prop}{Q:Jn Jr->Jt->Prop}(K:PM prog w T r d n P OK)(hh:A.handled=gV)(hok:OK s.heap)(hn:n<=sizeLine)
  (hQ:∀h' tk acc,(∀b o,s.heap.get? b=ba o->h'.get? b=ba o)->s.heap.objs.size<=h'.objs.size->Pb P acc n->Q acc.toList { s with heap:=h',toks:=tk }):wpAny (model prog w) A (collect (.ref r)) Q E s:=by
 unfold collect;show Jo (NJ (KS F.entry_proto_collect ?_));rw[KN F.plain_proto_collect _];change wpAny _ A.in1 (newList [] >>= λl=>again (.builtin "list.__iadd__" #[[l,.ref r],[]])) _ _ s
 show Jo (Ks ?_);have hlt:=K.there _ hok;show Ju #[LN F.plain_list_iadd _,xS (s:={ s with heap:=s.heap.push { cls:=.type "list",data:=.seq ([]:Jn Jr).toArray } }) K hh (K.keep _ _ hok λb _ o e=>Jq _ e) hn (Lg hlt.1) (Lg hlt.2) (JH _ rfl) λh' tk acc' c' hk hS' hacc=>?_]
 change wpAny (model prog w) A (do
   let o <- load s.heap.objs.size
   match o.data with
   | .seq xs _=>pure xs.toList
   | _=>unsupported "internal:collect") Q E { s with heap:=h',toks:=tk }
 show Jo (O6 hS' ?_);exact Ju (hQ h' tk acc' (λb o e=>hk b o (JZ (JO e)) (Jq _ e)) (MN (JO hS')) hacc)
end
mutual
def gT:T->T->Jw J3
 | .int a,.int b=>ba (decide (a < b))
 | .str a,.str b=>ba (decide (a.cps.toList < b.cps.toList))
 | .tup xs,.tup ys=>bY xs ys
 | _,_=>gV
def bY:Jn T->Jn T->Jw J3
 | [],[]=>ba false
 | [],_::_=>ba true
 | _::_,[]=>ba false
 | x::xs,y::ys=>if x=y then bY xs ys else gT x y
end
mutual
theorem IsT.kept {h h':Kv}(hk:∀b o,o.cls=.type "tuple"->h.get? b=ba o->h'.get? b=ba o):∀ {x:T} {v:Jr},IsT h x v->IsT h' x v
 | _,_,.int=>.int
 | _,_,.str=>.str
 | _,_,.tup a1 c1 d1 t1=>.tup (hk _ _ c1 a1) c1 d1 (IsTs.kept hk t1)
theorem IsTs.kept {h h':Kv}(hk:∀b o,o.cls=.type "tuple"->h.get? b=ba o->h'.get? b=ba o):∀ {x:Jn T} {v:Jn Jr},IsTs h x v->IsTs h' x v
 | _,_,.nil=>.nil
 | _,_,.cons a b=>.cons (IsT.kept hk a) (IsTs.kept hk b)
end
def FQ {B:Ki}{s:Jt}{d:Jx}(hu:B.units+d < cLine)(hl:∀(x y:T) (u v:Jr) (k:J3),x.depth<=d->y.depth<=d->IsT s.heap x u->IsT s.heap y v->gT x y=ba k->LtAt B s u v k) :
  ∀(xs ys:Jn T) (us vs:Jn Jr) (k:J3),T.depths xs<=d->T.depths ys<=d->IsTs s.heap xs us->IsTs s.heap ys vs->bY xs ys=ba k->LexR B s us vs k
 | [],[],_,_,k,_,_,h1,h2,e=>by cases h1; cases h2; cases e; exact .nn
 | [],y::ys,_,_,k,_,_,h1,h2,e=>by cases h1; cases h2; cases e; exact .nc
 | x::xs,[],_,_,k,_,_,h1,h2,e=>by cases h1; cases h2; cases e; exact .cn
 | x::xs,y::ys,_,_,k,d1,d2,h1,h2,e=>by
  simp only[T.depths]at d1 d2;cases h1 with
  | cons p1 q1=>
   cases h2 with
   | cons p2 q2=>
    have he:=vB d x y _ _ B s ∅ p1 p2 hu ∅
    dsimp only[bY]at e
    by_cases hxy:x=y
    ·rw[JX hxy]at e;rw[K6 hxy]at he;exact .eq he (FQ hu hl xs ys _ _ k ∅ ∅ q1 q2 e)
    ·rw[J8 hxy]at e;rw[Kl hxy]at he;exact .ne he (hl x y _ _ k ∅ ∅ p1 p2 e)
def FR:∀(d:Jx) (x y:T) (u v:Jr) (B:Ki) (s:Jt) (k:J3),x.depth<=d->y.depth<=d->IsT s.heap x u->IsT s.heap y v->B.units+d < cLine->gT x y=ba k->LtAt B s u v k:=by
 intro d
 induction d with
 | zero=>
  intro x y u v B s k d1 d2 h1 h2 hu e;cases h1 with
  | int=>cases h2 with
   | int=>cases e; exact λprog w E Q h=>(P3 h:wpAny (model prog w) B (compareOp .Lt _ _) Q E s)
   | _=>cases e
  | str=>cases h2 with
   | str=>cases e; exact λprog w E Q h=>(lt_str h:wpAny (model prog w) B (compareOp .Lt _ _) Q E s)
   | _=>cases e
  | tup _ _ _ _=>simp[T.depth]at d1
 | succ d ih=>
  intro x y u v B s k d1 d2 h1 h2 hu e;cases h1 with
  | int=>cases h2 with
   | int=>cases e; exact λprog w E Q h=>(P3 h:wpAny (model prog w) B (compareOp .Lt _ _) Q E s)
   | _=>cases e
  | str=>cases h2 with
   | str=>cases e; exact λprog w E Q h=>(lt_str h:wpAny (model prog w) B (compareOp .Lt _ _) Q E s)
   | _=>cases e
  | tup a1 c1 e1 t1=>cases h2 with
   | tup a2 c2 e2 t2=>
    simp only[T.depth]at d1 d2;have hu1:B.in1.units+d < cLine:=by rw[aH]; omega
    exact LtAt.tuples #[_,a1,c1,_,e1] #[_,a2,c2,_,e2] ∅ (FQ hu1 (λx y u v k q1 q2 q3 q4 q5=>ih x y u v B.in1 s k q1 q2 q3 q4 hu1 q5) _ _ _ _ k ∅ ∅ t1 t2 e)
   | _=>cases e
section
variable{prog:Kf}{w:Kq}{A:Ki}{R:QV->Jt->Prop}{I S:Jz}{fp wr:Jn Jz}{n:Jx}{P:Jx->Jr->Prop}{St:Jx->Kv->Prop}{Ok:Kv->Prop}{bt:Jx->Jx->J3}
abbrev xT (prog:Kf)(w:Kq)(A:Ki)(P:Jx->Jr->Prop)(Ok:Kv->Prop)(bt:Jx->Jx->J3):Prop:=
 ∀i j vi vj (s:Jt) (Q:Jr->Jt->Prop) (E:Jr->Jt->Prop),Ok s.heap->P i vi->P j vj->Q (.bool (bt i j)) s->wpAny (model prog w) A (richCompare .Lt vi vj) Q E s
def xU (W:Ro prog w A.in1 I fp wr n P St)(hcmp:xT prog w A.in1 P Ok bt)(hSf:S∉fp)(hok:∀h h',Ok h->(∀b o,b∉wr->b≠S->h.get? b=ba o->h'.get? b=ba o)->Ok h') :
  ∀(k j:Jx) (s:Jt) (vb:Jr) (c:Jx),n - (j+1)=k->j < n->St (j+1) s.heap->P (argBest bt j) vb->Ok s.heap->s.heap.get? S=ba { cls:=.type "list",dict:=gV,data:=.seq [vb,vb].toArray c,slots:=#[] }->
  (∀v h' tk,P (argBest bt (n - 1)) v->(∀b o,b∉wr->b≠S->s.heap.get? b=ba o->h'.get? b=ba o)->R (.ok (.ret v)) { s with heap:=h',toks:=tk })->
  codeAny (model prog w) A (.builtin "min.loop" #[[.ref I,.none,.ref S],[]]) R s:=by
 have hSw:S∉wr:=λh=>hSf (W.sub _ h)
 have hname:(toString "min" ++ toString ".loop" : Lf) = "min.loop":=by decide
 intro k
 induction k with
 | zero=>
  intro j s vb c hk hj hst hPb hO hS hR;have hin:j+1=n:=∅
  show KS F.entry_min_loop ?_;rw[KN F.plain_min_loop _];change wpAny _ A.in1 (seqItems? (.ref S) >>= _) _ _ s;show Jo (Ll hS rfl ?_);change wpAny _ A.in1 (tryCatch (pyNext (.ref I)) _ >>= _) _ _ s;show Jo (Oz (W.done s _ _ (hin ▸ hst) λh' tk hk'=>?_))
  have hS':=hk' S _ hSw hS;change wpAny _ A.in1 (updateSeq S (λ_=>#[]) >>= _) _ _ _
  show Jo (Nv hS' rfl (Jo (M9 (Ju ?_))));have e:j=n - 1:=∅
  exact hR vb _ tk (e ▸ hPb) λb o hbw hbS e=>(Kw _ _ (Ne.symm hbS)).trans (hk' b o hbw e)
 | succ k ih=>
  intro j s vb c hk hj hst hPb hO hS hR;have hlt:j+1 < n:=∅
  show KS F.entry_min_loop ?_;rw[KN F.plain_min_loop _];change wpAny _ A.in1 (seqItems? (.ref S) >>= _) _ _ s;show Jo (Ll hS rfl ?_);change wpAny _ A.in1 (tryCatch (pyNext (.ref I)) _ >>= _) _ _ s;show Jo (Oz (W.item (j+1) s _ _ hlt hst λv h' tk hP hst' hk'=>?_))
  have hS':=hk' S _ hSw hS;have hO':Ok h':=hok _ _ hO λb o hb _ e=>hk' b o hb e
  change wpAny _ A.in1 (tryCatch (holding [v,v] (richCompare .Lt v vb >>= _)) _ >>= _) _ _ _;show Jo (Oz (KR (Jo (hcmp (j+1) (argBest bt j) v vb _ _ _ hO' hP hPb ?_))));show Jo (KR (L4 ?_));show Jo (M9 (Ju ?_));cases hb:bt (j+1) (argBest bt j)with
  | true=>
   simp only[Lp];show Jo (Nv hS' rfl (Jo (M9 ?_)));rw[hname];show Ju #[LN F.plain_min_loop _,ih (j+1) _ v _ ∅ hlt (W.frame _ _ _ hst' λb hbf o e=>?_) (by simp only[argBest,hb,Lp]; exact hP) (hok _ _ hO' λb o _ hbS e=>(Kw _ _ (Ne.symm hbS)).trans e) (Ln _ hS' rfl)
    λv' h'' tk'' hP' hk''=>?_]
   ·exact(Kw _ _ (λh:S=b=>hSf (by rw[h]; exact hbf))).trans e
   ·exact hR v' h'' tk'' hP' λb o hbw hbS e=>hk'' b o hbw hbS ((Kw _ _ (Ne.symm hbS)).trans (hk' b o hbw e))
  | false=>
   simp only[J5,KZ];show Jo (M9 ?_);rw[hname];show Ju #[LN F.plain_min_loop _,ih (j+1) _ vb c ∅ hlt hst' (by simp only[argBest,hb,J5,KZ]; exact hPb) hO' hS' λv' h'' tk'' hP' hk''=>?_]
   exact hR v' h'' tk'' hP' λb o hbw hbS e=>hk'' b o hbw hbS (hk' b o hbw e)
def vF (W:Ro prog w A.in1 I fp wr n P St)(hcmp:xT prog w A.in1 P Ok bt)(hSf:S∉fp)(hok:∀h h',Ok h->(∀b o,b∉wr->b≠S->h.get? b=ba o->h'.get? b=ba o)->Ok h')(hn:0 < n){s:Jt}{c:Jx}(hst:St 0 s.heap)(hO:Ok s.heap)
  (hS:s.heap.get? S=ba { cls:=.type "list",dict:=gV,data:=.seq #[] c,slots:=#[] })
  (hR:∀v h' tk,P (argBest bt (n - 1)) v->(∀b o,b∉wr->b≠S->s.heap.get? b=ba o->h'.get? b=ba o)->R (.ok (.ret v)) { s with heap:=h',toks:=tk }) :
  codeAny (model prog w) A (.builtin "min.loop" #[[.ref I,.none,.ref S],[]]) R s:=by
 have hSw:S∉wr:=λh=>hSf (W.sub _ h)
 have hname:(toString "min" ++ toString ".loop" : Lf) = "min.loop":=by decide
 show KS F.entry_min_loop ?_;rw[KN F.plain_min_loop _];change wpAny _ A.in1 (seqItems? (.ref S) >>= _) _ _ s;show Jo (Ll hS rfl ?_);change wpAny _ A.in1 (tryCatch (pyNext (.ref I)) _ >>= _) _ _ s;show Jo (Oz (W.item 0 s _ _ hn hst λv h' tk hP hst' hk'=>?_))
 have hS':=hk' S _ hSw hS;change wpAny _ A.in1 (updateSeq S (λ_=>[v,v].toArray) >>= _) _ _ _
 show Jo (Nv hS' rfl ?_);rw[hname];have hO':Ok h':=hok _ _ hO λb o hb _ e=>hk' b o hb e
 show Ju #[LN F.plain_min_loop _,xU W hcmp hSf hok _ 0 _ v _ rfl hn (W.frame _ _ _ hst' λb hbf o e=>?_) hP (hok _ _ hO' λb o _ hbS e=>(Kw _ _ (Ne.symm hbS)).trans e) (Ln _ hS' rfl) λv' h'' tk'' hP' hk''=>?_]
 ·exact(Kw _ _ (λh:S=b=>hSf (by rw[h]; exact hbf))).trans e
 ·exact hR v' h'' tk'' hP' λb o hbw hbS e=>hk'' b o hbw hbS ((Kw _ _ (Ne.symm hbS)).trans (hk' b o hbw e))
end
section
variable{prog:Kf}{w:Kq}{A:Ki}{E:Jr->Jt->Prop}{s:Jt}
def xV {l:Jz}{items:J7 Jr}{bt:Jx->Jx->J3}{Q:Jr->Jt->Prop}(hh:A.handled=gV)(hl:s.heap.IsList l items)(hn:0 < items.size)
  (hcmp:xT prog w A.in1 (λi v=>items[i]?=ba v) (λh=>∀b o,s.heap.get? b=ba o->h.get? b=ba o) bt)
  (hQ:∀v h' tk,items[argBest bt (items.size - 1)]?=ba v->(∀b o,s.heap.get? b=ba o->h'.get? b=ba o)->Q v { s with heap:=h',toks:=tk }) :
  wpAny (model prog w) A (call (.builtin "min") [.ref l]) Q E s:=by
 have hname:(toString "min" ++ toString ".loop" : Lf) = "min.loop":=by decide
 show call_function_tree F.kind_min F.plain_min F.entry_min (F.args_min1 _) ?_;change wpAny _ A.in1 (Oh "min" ["key","default"] 0 #[[],[]] >>= _) _ _ s;show Jo (NC (show Oh "min" ["key","default"] 0 #[[],[]]=pure [gV,gV]from rfl) ?_)
 show Jo (Ju ?_);show Jo (M1 hl ?_);show Jo (Ks ?_);rw[hname];have hlt:l < s.heap.objs.size:=let ⟨_,ho,_⟩:=hl; JO ho
 have hne:l≠s.heap.objs.size:=JZ hlt;have W:=RV (prog:=prog) (w:=w) (A:=A.in1) hh s.heap.objs.size l hne items;have hsz:∀o:Lr,(s.heap.push o).objs.size=s.heap.objs.size+1:=λo=>by simp[Heap.push]
 show Ju #[LN F.plain_min_loop _,vF (A:=A) (Ok:=λh=>∀b o,s.heap.get? b=ba o->h.get? b=ba o) W hcmp (λhm=>?_) (λh h' ho hk b o e=>?_) hn #[?_,?_] (λb o e=>Jq _ (Jq _ e)) (JH _ rfl) λv h' tk hv hk=>?_]
 ·rcases JR.mp hm with e|hm
  ·exact absurd (show(s.heap.push _).objs.size=s.heap.objs.size from e) (by rw[hsz]; exact Nat.succ_ne_self _)
  ·have e:(s.heap.push _).objs.size=l:=JK.mp hm;rw[hsz]at e;exact absurd hlt (by rw[<- e]; exact Qn.mpr (Ma _))
 ·have hb:=JO e;show hk b o (λz=>?_) (λz=>?_) (ho b o e)
  ·rw[JK.mp z]at hb; exact KT _ hb
  ·have z':b=(s.heap.push _).objs.size:=z;rw[hsz]at z';rw[z']at hb;exact absurd hb (Qn.mpr (Ma _))
 ·exact#[_,Jq _ (JH _ rfl),rfl,rfl]
 ·obtain⟨o,ho,hc⟩:=hl;exact#[o,Jq _ (Jq _ ho),hc]
 ·show hQ v h' tk hv λb o e=>hk b o (λz=>?_) (λz=>?_) (Jq _ (Jq _ e))
  ·have hb:=JO e;rw[JK.mp z]at hb; exact KT _ hb
  ·have hb:=JO e;have z':b=(s.heap.push _).objs.size:=z;rw[hsz]at z';rw[z']at hb;exact absurd hb (Qn.mpr (Ma _))
end
open PySem.W (KasT kas_sort kas_ask kas_cmp kas_item kas_asc kas_desc kas_tail3 kas_descPart kas_count kas_place kas_bin kas_rev)
abbrev bJ {α:Type}(lt:Jx->Jx->J3):KasT α->α
 | .ret a=>a
 | .ask i j k=>bJ lt (k (lt i j))
abbrev OkK {α:Type}(n:Jx)(P:α->Prop):KasT α->Prop
 | .ret a=>P a
 | .ask i j k=>i < n/\j < n/\∀b,OkK n P (k b)
def pS {α:Type}{n:Jx}{P:α->Prop}{lt:Jx->Jx->J3}:∀(t:KasT α),OkK n P t->P (bJ lt t)
 | .ret _,h=>h
 | .ask i j k,h=>pS (k (lt i j)) (h.2.2 _)
def nY {α:Type}{n:Jx}{P:α->Prop}{lt:Jx->Jx->J3}{t:KasT α}(h:OkK n P t):P (bJ lt t):=pS t h
def OkK.bind {α β:Type}{n:Jx}{P:α->Prop}{P':β->Prop}{f:α->KasT β}:∀ {t:KasT α},OkK n P t->(∀a,P a->OkK n P' (f a))->OkK n P' (t.bind f)
 | .ret a,h,hf=>hf a h
 | .ask _ _ _,h,hf=>#[h.1,h.2.1,λb=>OkK.bind (h.2.2 b) hf]
def mH {α:Type}{n:Jx}{P:α->Prop}{lt:Jx->Jx->J3}{cmp:Jx->Jx->(J3->Jt->Prop)->Jt->Prop}{Q:α->Jt->Prop}{s:Jt}(hc:∀i j,i < n->j < n->∀C:J3->Jt->Prop,C (lt i j) s->cmp i j C s) :
  ∀ {t:KasT α},OkK n P t->Q (bJ lt t) s->t.kasWp cmp Q s
 | .ret _,_,h=>h
 | .ask i j k,h,hq=>hc i j h.1 h.2.1 _ (mH hc (h.2.2 _) hq)
abbrev Pm (n:Jx)(p:J7 Jx):Prop:=p.toList.Perm (JW n)
def Pm.size {n:Jx}{p:J7 Jx}(h:Pm n p):p.size=n:=by rw[<- JP,h.length_eq,J9]
def Pm.lt {n:Jx}{p:J7 Jx}(h:Pm n p)(hn:0 < n)(i:Jx):p.getD i 0 < n:=by
 by_cases hi:i < p.size
 ·have e:p.getD i 0=p[i]:=by simp[Nx,hi]
  rw[e];have:p[i]∈p.toList:=by simp
  exact JT.mp (h.mem_iff.mp this)
 ·have e:p.getD i 0=0:=by simp[Nx,hi]
  rw[e]; exact hn
def Pm.rev {n:Jx}{p:J7 Jx}(h:Pm n p)(i j:Jx):Pm n (kas_rev p i j):=(OA.mp (mirror_perm p i j _)).trans h
def Pm.bub {n:Jx}{p:J7 Jx}(h:Pm n p)(i j:Jx):Pm n (bubble p i j):=(OA.mp (bubble_perm p i j)).trans h
section
variable{n:Jx}(hn:0 < n)
include hn
def r9 {p:J7 Jx}(h:Pm n p):∀(f m:Jx),OkK n (λ_=>Rs) (kas_asc p f m)
 | 0,_=>trivial
 | f+1,m=>#[h.lt hn _,h.lt hn _,λb=>by
  change OkK n _ (if b=true then _ else _)
  split
  ·trivial
  ·exact r9 h f (m+1)]
def kh:∀(f:Jx) (p:J7 Jx) (m q:Jx),Pm n p->OkK n (λr=>Pm n r.1) (kas_desc f p m q)
 | 0,p,m,q,h=>h
 | f+1,p,m,q,h=>#[h.lt hn _,h.lt hn _,λb=>by
  change OkK n _ (if b=true then _ else _)
  split
  ·split
   ·exact kh f _ _ _ (h.rev _ _)
   ·exact kh f _ _ _ h
  ·show#[h.lt hn _,h.lt hn _,λc=>?_]
   change OkK n _ (if c=true then _ else _)
   split
   ·exact h
   ·exact kh f _ _ _ h]
def tP {p:J7 Jx}(h:Pm n p)(m k:Jx):OkK n (λr=>Pm n r.2) (kas_tail3 m k p):=by
 unfold kas_tail3;exact OkK.bind (r9 hn (h.rev 0 m) _ _) λa _=>h.rev 0 m
def jO {p:J7 Jx}(h:Pm n p)(m k:Jx):OkK n (λr=>Pm n r.2) (kas_descPart m k p):=by
 unfold kas_descPart;show OkK.bind (kh hn _ _ _ _ h) λr hr=>?_
 split
 ·exact tP hn (hr.rev _ _) _ _
 ·exact tP hn hr _ _
def xW {p:J7 Jx}(h:Pm n p)(k:Jx):OkK n (λr=>Pm n r.2) (kas_count k p):=by
 unfold kas_count;show OkK.bind (r9 hn h _ _) λm _=>?_
 split
 ·exact h
 ·split
  ·show#[h.lt hn _,h.lt hn _,λc=>?_]
   change OkK n _ (if c=true then _ else _)
   split
   ·exact h
   ·exact jO hn (h.rev _ _) _ _
  ·exact jO hn h _ _
def kR {p:J7 Jx}(h:Pm n p)(k:Jx):∀(f l r:Jx),OkK n (λ_=>Rs) (kas_place p k f l r)
 | 0,_,_=>trivial
 | f+1,l,r=>by
  unfold kas_place;split
  ·trivial
  ·show#[h.lt hn _,h.lt hn _,λc=>?_]
   change OkK n _ (if c=true then _ else _)
   split
   ·exact kR h k f _ _
   ·exact kR h k f _ _
def xX:∀(f:Jx) (p:J7 Jx) (k:Jx),Pm n p->OkK n (Pm n) (kas_bin f p k)
 | 0,p,k,h=>h
 | f+1,p,k,h=>by
  unfold kas_bin;exact OkK.bind (kR hn h k _ _ _) λl _=>xX f _ _ (h.bub _ _)
def ki:OkK n (Pm n) (kas_sort n):=by
 unfold kas_sort;show OkK.bind (xW hn (by unfold Pm; simp) _) λr hr=>?_
 split
 ·exact xX hn _ _ _ hr
 ·exact hr
end
section
variable{prog:Kf}{w:Kq}{A:Ki}{E:Jr->Jt->Prop}{s:Jt}{vs:Jn Jr}
abbrev c9 (lt:Jx->Jx->J3){β:Type}(d:β)(vs:Jn β):Jn β:=if vs.length < 2 then vs else(bJ lt (kas_sort vs.length)).toList.map λi=>vs.getD i d
def pT {lt:Jx->Jx->J3}{β:Type}{d:β}{vs:Jn β}:(c9 lt d vs).length=vs.length:=by
 unfold c9;split
 ·rfl
 ·rw[Jp,JP,(nY (lt:=lt) (ki (n:=vs.length) ∅)).size]
def mI {a:Jz}{n:Jx}{lt:Jx->Jx->J3}{κ:O0}{P:TH->Jt->Prop}(ho:s.heap.get? a=ba (seqObj "list" vs.toArray n))(h64:vs.length < 64)
  (hkind:2<=vs.length->∀h',(∀b o,b≠a->s.heap.get? b=ba o->h'.get? b=ba o)->∀Q:O0->Jt->Prop,Q κ { s with heap:=h' }->wpAny (model prog w) A (keyKind' vs.toArray) Q (λ_ _=>K5) { s with heap:=h' })
  (hlt:2<=vs.length->∀h',(∀b o,b≠a->s.heap.get? b=ba o->h'.get? b=ba o)->∀i j,i < vs.length->j < vs.length->∀Q:J3->Jt->Prop,Q (lt i j) { s with heap:=h' }->
   wpAny (model prog w) A (keyLt' κ (vs.getD i Kz) (vs.getD j Kz)) Q (λ_ _=>K5) { s with heap:=h' })
  (h:∀h' c,(∀b o,b≠a->s.heap.get? b=ba o->h'.get? b=ba o)->h'.get? a=ba (seqObj "list" (c9 lt Kz vs).toArray c)->P (.done (.ret .none)) { s with heap:=h' }) :
  wpAny (model prog w) A (Mz.«list.sort» #[[.ref a],[]]) P E s:=by
 have ha:a < s.heap.objs.size:=JO ho;obtain⟨e1,ho1⟩ : ∃e1,(s.heap.update a (Lh λ_=>(#[]:J7 Jr))).get? a=ba (seqObj "list" #[] e1):=#[_,Po ho λ_=>#[]]
 have keep:∀b o,b≠a->s.heap.get? b=ba o->(((s.heap.update a (Lh λ_=>(#[]:J7 Jr))).push (seqObj "tuple" vs.toArray 0)).push (seqObj "list" #[] 0)).get? b=ba o:=λb o hb e=>
  Jq _ (Jq _ ((Nn _ _ _ _ hb).trans e))
 have ho3:(((s.heap.update a (Lh λ_=>(#[]:J7 Jr))).push (seqObj "tuple" vs.toArray 0)).push (seqObj "list" #[] 0)).get? a=ba (seqObj "list" #[] e1):=Jq _ (Jq _ ho1)
 have fin:∀(out:Jn Jr),out.length=vs.length->out=c9 lt Kz vs->P (.done (.ret .none)) { s with heap:=(((s.heap.update a (Lh λ_=>(#[]:J7 Jr))).push (seqObj "tuple" vs.toArray 0)).push (seqObj "list" #[] 0)).update a (Lh λ_=>out.toArray) }:=λout hl e=>by
  obtain⟨c2,hc2⟩ : ∃c2,((((s.heap.update a (Lh λ_=>(#[]:J7 Jr))).push (seqObj "tuple" vs.toArray 0)).push (seqObj "list" #[] 0)).update a (Lh λ_=>out.toArray)).get? a=ba (seqObj "list" out.toArray c2):=#[_,Po ho3 λ_=>out.toArray]
  exact h _ c2 (λb o hb q=>(Nn _ _ _ _ hb).trans (keep b o hb q)) (e ▸ hc2)
 rw[list_sort_plain];show Jo (QJ ho rfl ?_);show Jo (OU ho rfl ?_ (by rw[JM,Ky]; omega) (Lm _))
 show Jo (Rr ho1 rfl ?_);show Jo (Ou ?_ (by change vs.length<=_; rw[Ky]; omega))
 show Jo (OV ?_ (Lm _));show KR ?_;change wpAny (model prog w) A _ P E { s with heap:=((s.heap.update a (Lh λ_=>(#[]:J7 Jr))).push (seqObj "tuple" vs.toArray 0)).push (seqObj "list" #[] 0) }
 dsimp only
 by_cases h2:vs.length < 2
 ·rw[JX (by rw[JM]; exact h2),JX (by rw[JM]; exact h2)]
  show Jo (Ju (Jo ?_));rw[StateT.run_pure];show Ju ?_;dsimp only;show Jo (Rr ho3 rfl ?_);have hs:((arrOf (SortSt.mk' general' (vs.toArray.zip vs.toArray) #[] 7 gV)).map (·.2))=vs.toArray:=by
   show(vs.toArray.zip vs.toArray).map (·.2)=vs.toArray
   apply Array.toList_inj.mp;rw[O1,Array.toList_zip];exact List.map_snd_zip (JA _)
  rw[hs];show Jo (OU ho3 rfl ?_ (Lm _) (by rw[JM,Ky]; omega))
  simp only[QK,J5,KZ];exact Ju (fin vs rfl (by unfold c9; rw[JX h2]))
 ·have hn2:¬ vs.toArray.size < 2:=by rw[JM]; exact h2
  have h2':2<=vs.length:=∅
  rw[J8 hn2,J8 hn2];show Jo (LI (hkind h2' _ keep (λ(k:O0) (s':Jt)=>k=κ/\s'={ s with heap:=((s.heap.update a (Lh λ_=>(#[]:J7 Jr))).push (seqObj "tuple" vs.toArray 0)).push (seqObj "list" #[] 0) }) #[rfl,rfl]) ?_ λ_ _ x=>x.elim)
  rintro _ _ ⟨rfl,rfl⟩;show Jo (LI (PySem.W.kat_run (Q:=λst' s'=>∃p:J7 Jx,p.size=vs.length/\arrOf st'=p.map (kas_item (vs.toArray.zip vs.toArray))/\failedOf st'=gV/\p=bJ lt (kas_sort vs.length)/\s'={ s with heap:=((s.heap.update a (Lh λ_=>(#[]:J7 Jr))).push (seqObj "tuple" vs.toArray 0)).push (seqObj "list" #[] 0) })
   (G:=λp s'=>p=bJ lt (kas_sort vs.length)/\s'={ s with heap:=((s.heap.update a (Lh λ_=>(#[]:J7 Jr))).push (seqObj "tuple" vs.toArray 0)).push (seqObj "list" #[] 0) }) rfl h2' h64 (λp' st' s' a1 a2 a3 a4=>#[p',a1,a2,a3,a4])
   (mH (lt:=lt) (λi j hi hj C hC=>hlt h2' _ keep i j hi hj C hC) (ki (n:=vs.length) ∅) #[rfl,rfl])) ?_ λ_ _ e=>e)
  rintro⟨⟨⟩,st'⟩ s' ⟨p,hp,har,hf,ep,rfl⟩;dsimp only;have hout:=PySem.W.kat_snds rfl har;have hsz:(p.toList.map λi=>vs.getD i Kz).length=vs.length:=by rw[Jp,JP,hp]
  rw[hout];show Jo (Rr ho3 rfl ?_);show Jo (OU ho3 rfl ?_ (Lm _) (by rw[JM,hsz,Ky]; omega))
  rw[hf];simp only[QK,J5,KZ];exact Ju (fin _ hsz (by unfold c9; rw[J8 h2,ep]))
def vG {x:Jr}{lt:Jx->Jx->J3}{κ:O0}{Q:Jr->Jt->Prop}(h64:vs.length < 64)
  (hcol:∀Q':Jn Jr->Jt->Prop,(∀h' tk,(∀b o,s.heap.get? b=ba o->h'.get? b=ba o)->s.heap.objs.size<=h'.objs.size->Q' vs { s with heap:=h',toks:=tk })->wpAny (model prog w) A.in1 (collect x) Q' E s)
  (hkind:2<=vs.length->∀h' tk,(∀b o,s.heap.get? b=ba o->h'.get? b=ba o)->∀Q:O0->Jt->Prop,Q κ { s with heap:=h',toks:=tk }->wpAny (model prog w) A.in1.in1 (keyKind' vs.toArray) Q (λ_ _=>K5) { s with heap:=h',toks:=tk })
  (hlt:2<=vs.length->∀h' tk,(∀b o,s.heap.get? b=ba o->h'.get? b=ba o)->∀i j,i < vs.length->j < vs.length->∀Q:J3->Jt->Prop,Q (lt i j) { s with heap:=h',toks:=tk }->
   wpAny (model prog w) A.in1.in1 (keyLt' κ (vs.getD i Kz) (vs.getD j Kz)) Q (λ_ _=>K5) { s with heap:=h',toks:=tk })
  (h:∀D h' tk c,(∀b o,s.heap.get? b=ba o->h'.get? b=ba o)->s.heap.objs.size<=D->h'.get? D=ba (seqObj "list" (c9 lt Kz vs).toArray c)->Q (.ref D) { s with heap:=h',toks:=tk }) :
  wpAny (model prog w) A (call (.builtin "sorted") [x]) Q E s:=by
 show Ni SY SI SJ (SK _) ?_;unfold Mz.«sorted»;show Jo (m:=checkCount "sorted" 1 1 _) (Ju ?_);show Jo (hcol _ λh1 tk1 hk1 hle=>?_)
 show Jo (OV ?_ (by rw[Ky]; omega))
 have hoL:(h1.push (seqObj "list" vs.toArray 0)).get? h1.objs.size=ba (seqObj "list" vs.toArray 0):=JH _ rfl;have kp:∀b o,s.heap.get? b=ba o->(h1.push (seqObj "list" vs.toArray 0)).get? b=ba o:=λb o e=>Jq _ (hk1 b o e)
 have hne:∀b o,s.heap.get? b=ba o->b≠h1.objs.size:=λb o e=>JZ (J4 (JO e) hle)
 change wpAny _ _ _ _ _ { s with heap:=h1.push (seqObj "list" vs.toArray 0),toks:=tk1 }
 show Jo (KR (KM RW #[_,hoL,rfl] Rz ?_ (RX _)));show mI (s:={ s with heap:=h1.push (seqObj "list" vs.toArray 0),toks:=tk1 }) (lt:=lt) (κ:=κ) hoL h64 (λh2 h' hk Q hq=>hkind h2 h' tk1 (λb o e=>hk b o (hne b o e) (kp b o e)) Q hq)
  (λh2 h' hk i j hi hj Q hq=>hlt h2 h' tk1 (λb o e=>hk b o (hne b o e) (kp b o e)) i j hi hj Q hq) λh' c hk hD=>?_
 exact#[_,rfl,Ju #[_,rfl,h _ h' tk1 c (λb o e=>hk b o (hne b o e) (kp b o e)) hle hD]]
end
end Mi
namespace Mi
open PySem PySem.Spec PyProof.Rows L2
abbrev fF:T->Lf
 | .int _=>"int"|.str _=>"str"|.tup _=>"tuple"
abbrev bc:T->Jw T
 | .tup (x::_)=>ba x
 | _=>gV
abbrev rG (ks:Jn T):Jw Jx:=
 if ks.all (λk=>fF k == "int")then ba 0
 else if ks.all (λk=>fF k == "str")then ba 1
 else if ks.all (λk=>(bc k).any λf=>fF f == "int")then ba 2
 else if ks.all (λk=>(bc k).any λf=>fF f == "str")then ba 3
 else if ks.all (λk=>(bc k).any λf=>fF f == "tuple")then ba 4
 else gV
abbrev tQ:Jx->O0
 | 0=>oneType'|1=>oneType'|2=>tuples' true|3=>tuples' true|_=>tuples' false
abbrev eM (ks:Jn T):J3:=ks.all λx=>ks.all λy=>(gT x y).isSome
abbrev kS (ks:Jn T)(i j:Jx):J3:=(gT (ks.getD i (.int 0)) (ks.getD j (.int 0))).getD false
def dE {ks:Jn T}(h:eM ks=true){i j:Jx}(hi:i < ks.length)(hj:j < ks.length):gT (ks[i]) (ks[j])=ba (kS ks i j):=by
 unfold eM at h;rw[JQ]at h;have h1:=h ks[i] (Kd hi);rw[JQ]at h1;have h2:=h1 ks[j] (Kd hj);unfold kS;rw[show ks.getD i (.int 0)=ks[i] by simp[hi],show ks.getD j (.int 0)=ks[j] by simp[hj]]
 obtain⟨b,hb⟩:=KF.mp h2;rw[hb]; rfl
abbrev IR (c:Jx)(x y:T):Prop:=match c with|0=>fF x = "int"/\fF y = "int"|1=>fF x = "str"/\fF y = "str"|2=>∃f g,bc x=ba f/\bc y=ba g/\fF f = "int"/\fF g = "int"|3=>∃f g,bc x=ba f/\bc y=ba g/\fF f = "str"/\fF g = "str"|_=>∃f g,bc x=ba f/\bc y=ba g
section
variable{prog:Kf}{w:Kq}{A:Ki}{E:Jr->Jt->Prop}{s:Jt}
def tR {h:Kv}{k:T}{v:Jr}(x:IsT h k v):Sk (model prog w) h (typeOf v) (.type (fF k)):=by
 cases x with
 | int=>exact .now
 | str=>exact .now
 | tup a c d t=>exact c ▸ ((TJ a).andThen .now:Sk (model prog w) h (typeOf (.ref _)) _)
def IsTs.mem {h:Kv}:∀ {ks:Jn T} {vs:Jn Jr},IsTs h ks vs->∀v∈vs,∃k∈ks,IsT h k v
 | _,_,.cons a b,v,hv=>by
  rcases JR.mp hv with rfl|hv
  ·exact#[_,.head _,a]
  ·obtain⟨k,hk,q⟩:=IsTs.mem b v hv;exact#[k,.tail _ hk,q]
def mJ {h:Kv}{p:T->J3}:∀ {ks:Jn T} {vs:Jn Jr},IsTs h ks vs->ks.all (λk=>(bc k).any p)=true->∃fs,PySem.W.KatTups h vs fs/\fs.length=vs.length/\∀v∈fs,∃k,p k=true/\IsT h k v
 | _,_,.nil,_=>#[[],.nil,rfl,λv hv=>nomatch hv]
 | k::ks,_,.cons a b,hp=>by
  rw[KL,Jv]at hp;obtain⟨fs,h1,h2,h3⟩:=mJ b hp.2;cases a with
  | int=>simp[bc]at hp
  | str=>simp[bc]at hp
  | @tup kk ad o items n a1 c1 d1 t1=>
   cases kk with
   | nil=>simp[bc]at hp
   | cons x xs=>
    have hx:p x=true:=by simpa [bc]using hp.1
    generalize hit:items.toList=its at t1;cases t1 with
    | @cons _ u _ us q1 q2=>
     show#[u::fs,.cons a1 c1 d1 (by rw[<- K9,hit]; rfl) h1,by simp[h2],λv hv=>?_]
     rcases JR.mp hv with rfl|hv
     ·exact#[x,hx,q1]
     ·exact h3 v hv
def xY {ks:Jn T}{vs:Jn Jr}{c:Jx}{Q:O0->Jt->Prop}(h:IsTs s.heap ks vs)(h2:2<=vs.length)(hc:rG ks=ba c)(hq:Q (tQ c) s):wpAny (model prog w) A (keyKind' vs.toArray) Q E s:=by
 have one:∀ty:Lf,(Lx ty != Lx "tuple")=true->ks.all (λk=>fF k==ty)=true->Q oneType' s->wpAny (model prog w) A (keyKind' vs.toArray) Q E s:=λty hty hall hq=>
  PySem.W.kas_kind (T:=.type ty) h2 (λv hv=>by
   obtain⟨k,hk,x⟩:=h.mem v hv;have:=eq_of_beq (JQ.mp hall k hk);exact this ▸ tR x) hty (by simp) hq
 have tup:∀ty:Lf,ks.all (λk=>(bc k).any λf=>fF f==ty)=true->Q (tuples' (Lx ty != Lx "tuple")) s->wpAny (model prog w) A (keyKind' vs.toArray) Q E s:=λty hall hq=>by
  obtain⟨fs,h1,h3,h4⟩:=mJ h hall;exact PySem.W.kat_kind (T:=.type ty) h1 ∅ (λv hv=>by
   obtain⟨k,hk,x⟩:=h4 v hv;have:=eq_of_beq hk;exact this ▸ tR x) (by simp) hq
 unfold rG at hc;split at hc
 ·cases hc; exact one "int" #v[] (by assumption) hq
 ·split at hc
  ·cases hc; exact one "str" #v[] (by assumption) hq
  ·split at hc
   ·cases hc; exact tup "int" (by assumption) hq
   ·split at hc
    ·cases hc; exact tup "str" (by assumption) hq
    ·split at hc
     ·cases hc; exact tup "tuple" (by assumption) hq
     ·cases hc
def pU {b:J3}{Q:J3->Jt->Prop}{d:Jx}(hu:A.units+d < cLine):∀(xs ys:Jn T) (us vs:Jn Jr) (i:Jx) (k:J3),T.depths xs<=d->T.depths ys<=d->IsTs s.heap xs us->IsTs s.heap ys vs->bY xs ys=ba k->
  (b=true->i=0->∀x y,xs.head?=ba x->ys.head?=ba y->(fF x = "int"/\fF y = "int")\/(fF x = "str"/\fF y = "str"))->Q k s->PySem.W.KatLex prog w A b (decide (us.length < vs.length)) Q (us.zip vs) i s
 | [],[],_,_,i,k,_,_,h1,h2,e,hb,hq=>by cases h1; cases h2; cases e; exact Pp (by simpa using hq)
 | [],y::ys,_,_,i,k,_,_,h1,h2,e,hb,hq=>by cases h1; cases h2; cases e; exact Pp (by simpa using hq)
 | x::xs,[],_,_,i,k,_,_,h1,h2,e,hb,hq=>by cases h1; cases h2; cases e; exact Pp (by simpa using hq)
 | x::xs,y::ys,_,_,i,k,d1,d2,h1,h2,e,hb,hq=>by
  simp only[T.depths]at d1 d2;cases h1 with
  | @cons _ u _ us p1 q1=>
   cases h2 with
   | @cons _ v _ vs p2 q2=>
    have he:=vB d x y _ _ A s ∅ p1 p2 hu ∅
    rw[MQ];show PySem.W.kat_cons (he prog w _ _ ?_);simp only[bY]at e;have hlen:decide ((u::us).length < (v::vs).length)=decide (us.length < vs.length):=by simp
    rw[hlen]
    by_cases hxy:x=y
    ·rw[JX hxy]at e;rw[K6 hxy];exact PySem.W.kat_yes (pU hu xs ys us vs (i+1) k ∅ ∅ q1 q2 e (λ_ z=>absurd z (Q7 _)) hq)
    ·rw[J8 hxy]at e;rw[Kl hxy];show PySem.W.kat_no ?_
     by_cases hb0:b=true/\i=0
     ·obtain⟨rfl,rfl⟩:=hb0;rcases hb rfl rfl x y rfl rfl with⟨hx,hy⟩|⟨hx,hy⟩
      ·cases p1 with
       | int=>cases p2 with
        | int=>cases e; exact oneLt_int hq
        | _=>exact absurd hy (by simp[fF])
       | _=>exact absurd hx (by simp[fF])
      ·cases p1 with
       | str=>cases p2 with
        | str=>cases e; exact oneLt_str hq
        | _=>exact absurd hy (by simp[fF])
       | _=>exact absurd hx (by simp[fF])
     ·have hf:(b&&i==0)=false:=by
       cases b with
       | false=>rfl
       | true=>
        have:i≠0:=λz=>hb0 #[rfl,z]
        simpa using this
      rw[hf];exact PySem.W.kat_one _ _ ((FR d x y _ _ A s k ∅ ∅ p1 p2 hu e) prog w _ _ hq)
def tU {c d:Jx}{x y:T}{u v:Jr}{k:J3}{Q:J3->Jt->Prop}(hu:A.units+d < cLine)(d1:x.depth<=d)(d2:y.depth<=d)(h1:IsT s.heap x u)(h2:IsT s.heap y v)(e:gT x y=ba k)
  (hc:IR c x y)
  (hq:Q k s):wpAny (model prog w) A (keyLt' (tQ c) u v) Q E s:=by
 have tup:∀b:J3,(∃f g,bc x=ba f/\bc y=ba g/\(b=true->(fF f = "int"/\fF g = "int")\/(fF f = "str"/\fF g = "str")))->wpAny (model prog w) A (keyLt' (tuples' b) u v) Q E s:=by
  rintro b ⟨f,g,hf,hg,hb⟩;cases h1 with
  | int=>cases hf
  | str=>cases hf
  | @tup xs a o items n a1 c1 e1 t1=>
   cases h2 with
   | int=>cases hg
   | str=>cases hg
   | @tup ys a' o' items' n' a2 c2 e2 t2=>
    simp only[T.depth]at d1 d2;show PySem.W.kat_lt a1 e1 a2 e2 ?_;have:=pU (prog:=prog) (w:=w) (b:=b) (Q:=Q) hu xs ys items.toList items'.toList 0 k ∅ ∅ t1 t2 e (λhb' _ p q hp hq'=>by
     cases xs with
     | nil=>cases hp
     | cons x0 xs=>cases ys with
      | nil=>cases hq'
      | cons y0 ys=>cases hp; cases hq'; cases hf; cases hg; exact hb hb') hq
    simpa using this
 match c,hc with
 | 0,#[hx,hy]=>
  cases h1 with
  | int=>cases h2 with
   | int=>cases e; exact PySem.W.kat_lt_int hq
   | _=>exact absurd hy (by simp[fF])
  | _=>exact absurd hx (by simp[fF])
 | 1,#[hx,hy]=>
  cases h1 with
  | str=>cases h2 with
   | str=>cases e; exact PySem.W.kas_lt_str hq
   | _=>exact absurd hy (by simp[fF])
  | _=>exact absurd hx (by simp[fF])
 | 2,#[f,g,h1',h2',h3,h4]=>exact tup true #[f,g,h1',h2',λ_=>.inl #[h3,h4]]
 | 3,#[f,g,h1',h2',h3,h4]=>exact tup true #[f,g,h1',h2',λ_=>.inr #[h3,h4]]
 | n+4,#[f,g,h1',h2']=>exact tup false #[f,g,h1',h2',λz=>nomatch z]
end
def tV {ks:Jn T}{c:Jx}(h:rG ks=ba c){x y:T}(hx:x∈ks)(hy:y∈ks) :
  IR c x y:=by
 have one:∀ {ty:Lf},ks.all (λk=>fF k==ty)=true->fF x=ty/\fF y=ty:=λha=>#[eq_of_beq (JQ.mp ha x hx),eq_of_beq (JQ.mp ha y hy)]
 have fst:∀ {ty:Lf},ks.all (λk=>(bc k).any λf=>fF f==ty)=true->∃f g,bc x=ba f/\bc y=ba g/\fF f=ty/\fF g=ty:=λ{ty} ha=>by
  have h1:=JQ.mp ha x hx;have h2:=JQ.mp ha y hy;cases e1:bc x with
  | none=>rw[e1]at h1; cases h1
  | some f=>
   cases e2:bc y with
   | none=>rw[e2]at h2; cases h2
   | some g=>
    rw[e1]at h1; rw[e2]at h2
    exact#[f,g,rfl,rfl,eq_of_beq (by simpa using h1),eq_of_beq (by simpa using h2)]
 unfold rG at h;split at h
 ·cases h; exact one (by assumption)
 ·split at h
  ·cases h; exact one (by assumption)
  ·split at h
   ·cases h; exact fst (by assumption)
   ·split at h
    ·cases h; exact fst (by assumption)
    ·split at h
     ·cases h;obtain⟨f,g,h1,h2,_⟩:=fst (by assumption)
      exact#[f,g,h1,h2]
     ·cases h
abbrev da (S:aa):W->Jw (Jn W)
 | .tup xs=>ba xs
 | .ref i=>match fS S i with
  | some xs=>ba xs
  | none=>(jN S i).map λU=>U.map λp=>p.1.w
 | _=>gV
abbrev bP:Jx:=8
abbrev fG (ks:Jn T):J3:=decide (ks.length < 64)&&decide (T.depths ks<=bP)&&(decide (ks.length < 2)||((rG ks).isSome&&eM ks))
abbrev dO (xs:Jn W)(S:aa):Jw (W×aa):=match xs with
 | [x]=>match da S x with
  | some ws=>match W.ts ws with
   | some ks=>if fG ks then ba (.ref S.length,S++[.lst (c9 (kS ks) .non ws)])else gV
   | none=>gV
  | none=>gV
 | _=>gV
abbrev mK (xs:Jn W)(S:aa):Jw (W×aa):=match xs with
 | [.ref i]=>match jN S i with
  | some U=>ba (.ref S.length,S++[.lst (U.map λp=>p.1.w)])
  | none=>iL [.ref i] S
 | xs=>iL xs S
abbrev sa (xs:Jn W)(S:aa):Jw (W×aa):=match xs with
 | [.ref i]=>match jN S i with
  | some U=>ba (.int U.length,S)
  | none=>rW [.ref i] S
 | xs=>rW xs S
abbrev ip (ks:Jn T):Jx:=argBest (kS ks) (ks.length - 1)
abbrev xZ (xs:Jn W)(S:aa):Jw (W×aa):=match xs with
 | [.ref i]=>match fS S i with
  | some ws=>match W.ts ws with
   | some ks=>if T.depths ks<=bP/\eM ks=true then(ws[ip ks]?).map λw=>(w,S)else gV
   | none=>gV
  | none=>gV
 | _=>gV
abbrev iq:Jn W->Jw (Jn J3)
 | []=>ba []
 | .bl b::ws=>(iq ws).map (b :: ·)
 | _::_=>gV
abbrev Bl (xs:Jn W)(S:aa):Jw (W×aa):=match xs with
 | [.ref i]=>match fS S i with
  | some ws=>(iq ws).map λbs=>(.bl (bs.all id),S)
  | none=>gV
 | _=>gV
section
variable{X:Cx}{J:Jn (Jz×Lr)}{Y:L2.St}{H:Hp}{s:Jt}{A:Jn Jz}{S:aa}
def RelL.pick {K:JE}{ws:Jn W}{vs:Jn V}(r:RelL K A H ws vs)(d:W)(d':V):∀(is:Jn Jx),(∀i∈is,i < ws.length)->RelL K A H (is.map λi=>ws.getD i d) (is.map λi=>vs.getD i d')
 | [],_=>.nil
 | i::is,h=>by
  have hi:=h i (.head _);obtain⟨v,h1,h2⟩:=r.get (Jy hi);show .cons ?_ (RelL.pick r d d' is λj hj=>h j (.tail _ hj))
  have e1:ws.getD i d=ws[i]:=by simp[hi]
  have e2:vs.getD i d'=v:=by simp[h1]
  change Rel K A H (ws.getD i d) (vs.getD i d');rw[e1,e2]; exact h2
def Vals.pick {vs:Jn V}{us:Jn Jr}(r:Vals vs us)(d:V)(d':Jr):∀(is:Jn Jx),(∀i∈is,i < vs.length)->Vals (is.map λi=>vs.getD i d) (is.map λi=>us.getD i d')
 | [],_=>.nil
 | i::is,h=>by
  have hi:=h i (.head _);obtain⟨v,h1,h2⟩:=L2.Vals.get r (Jy hi);show .cons ?_ (Vals.pick r d d' is λj hj=>h j (.tail _ hj))
  have e1:vs.getD i d=vs[i]:=by simp[hi]
  have e2:us.getD i d'=v:=by simp[h1]
  change L2.RelV (vs.getD i d) (us.getD i d');rw[e1,e2]; exact h2
def kj {n:Jx}{lt:Jx->Jx->J3}(hn:0 < n):∀i∈(bJ lt (MJ n)).toList,i < n:=λi hi=>JT.mp ((nY (lt:=lt) (ki hn)).mem_iff.mp hi)
def x4 {K:JE}{lt:Jx->Jx->J3}{ws:Jn W}{vs:Jn V}(r:RelL K A H ws vs):RelL K A H (c9 lt .non ws) (c9 lt .non vs):=by
 unfold c9;rw[r.length];split
 ·exact r
 ·exact r.pick _ _ _ λi hi=>by rw[r.length]; exact kj ∅ i hi
def vH {lt:Jx->Jx->J3}{vs:Jn V}{us:Jn Jr}(r:Vals vs us):Vals (c9 lt .non vs) (c9 lt .none us):=by
 unfold c9;rw[L2.Vals.length r];split
 ·exact r
 ·exact Vals.pick r _ _ _ λi hi=>by rw[L2.Vals.length r]; exact kj ∅ i hi
def pV {prog:Kf}{w:Kq}{B:Ki}{E:Jr->Jt->Prop}{l:Jz}{vs:Jn Jr}{Q:Jn Jr->Jt->Prop}(hl:Qs s.heap l vs.toArray)(hsz:vs.length<=sizeLine)
  (h:∀h' tk,(∀b o,s.heap.get? b=ba o->h'.get? b=ba o)->s.heap.objs.size<=h'.objs.size->Q vs { s with heap:=h',toks:=tk }):wpAny (model prog w) B (collect (.ref l)) Q E s:=by
 obtain⟨o,ho,hc,n,hd⟩:=id hl;unfold collect;show Jo (NJ (KS entry_proto_collect' ?_));change wpAny _ _ (do again (.builtin "list.__iadd__" #[[<- newList [],.ref l],[]])) _ _ s
 show Jo (OV (Ju #[Qo _ (by decide +kernel),KS entry_list_iadd' ?_]))
 change wpAny _ _ (Lq (.ref s.heap.objs.size) (.ref l) (.ref s.heap.objs.size)) _ _ { s with heap:=s.heap.push (seqObj "list" #[] 0) }
 unfold Lq;have ho':(s.heap.push (seqObj "list" #[] 0)).get? l=ba o:=Jq _ ho;show Jo (MO (T:="tuple") #[o,ho',hc] ?_);have ht:(Lx "tuple" == Lx "tuple")=true:=by rfl
 rw[JX (by rw[ht]; simp)]
 show Jo (QJ ho' hd ?_);show Jo (QJ (xs:=#[]) (n:=0) (JH _ rfl) rfl ?_);rw[J8 (by simp)]
 show Jo (OU (xs:=#[]) (n:=0) (JH _ rfl) rfl ?_ (Lm _) (by show(#[]++vs.toArray).size<=sizeLine+1; simp only[Array.size_append,JM,LS]; omega))
 show Ju ?_;change wpAny (model prog w) B (do
   let o <- load s.heap.objs.size
   match o.data with
   | .seq xs _=>pure xs.toList
   | _=>unsupported "internal:collect") Q E { s with heap:=(s.heap.push (seqObj "list" #[] 0)).update s.heap.objs.size (Lh (· ++ vs.toArray)) }
 show Jo (O6 (Po (JH _ rfl) _) ?_);change wpAny _ _ (pure ((#[]:J7 Jr)++vs.toArray).toList) Q E _;rw[show((#[]:J7 Jr)++vs.toArray).toList=vs by simp]
 show Ju (h _ s.toks (λb o' e=>(Nn _ _ _ _ (JZ (JO e))).trans (Jq _ e)) ?_)
 rw[Ra,size_push'];exact Ma _
def DicAt.raw {wd:Kq}{a:Jz}{xs:Jn (T×Jz×Jr)}{h:Kv}(d:DicAt wd a xs h):∃es ep,RawD a es ep h/\es.toList=xs.map (xx wd):=
 let ⟨_,_,_,o,es,ep,h1,h2,h3,h4⟩:=d; #[es,ep,#[o,h1,h2,h3],h4]
def KRel.keysL {U:Jn (T×W)}{xs:Jn (T×Jz×Jr)}(r:KRel X.K A H U xs):RelL X.K A H (U.map λp=>p.1.w) (xs.map λq=>V.ref q.2.1):=by
 unfold KRel at r
 induction r with
 | nil=>exact .nil
 | cons h t ih=>exact .cons h.2.2.2.1 ih
def mL (xs:Jn (T×Jz×Jr)):Vals (xs.map λq=>V.ref q.2.1) (xs.map λq=>Kk q.2.1):=by
 induction xs with
 | nil=>exact .nil
 | cons x xs ih=>exact .cons rfl ih
def kU {wd:Kq}{es:J7 L5}{xs:Jn (T×Jz×Jr)}(he:es.toList=xs.map (xx wd)){acc:J7 Jr}(ha:Pb (λi v=>∃e,es[i]?=ba e/\e.key=v) acc es.size):acc.toList=xs.map λq=>Kk q.2.1:=by
 have hl:es.size=xs.length:=by rw[<- JP,he,Jp]
 apply LW
 ·rw[JP,ha.1,Jp,hl]
 ·intro i h1 h2;rw[JP]at h1;obtain⟨e,q1,q2⟩:=ha.2 i acc[i] (by simp[h1])
  rw[<- K9,he,JB]at q1;rw[Jp]at h2;rw[Jy h2]at q1;simp only[Kg,Kb]at q1;subst q1;rw[NY,N3];exact q2.symm
def vI {x:W}{a:V}{u:Jr}{ws:Jn W}(hh:X.A.handled=gV)(I:Inv X J Y H s)(so:StoreOk X.w X.K A H S)(rx:Rel X.K A H x a)(ru:RelV a u)(e:da S x=ba ws):∃vs us,RelL X.K A H ws vs/\Vals vs us/\us.length<=sizeLine/\
  ∀(B:Ki) (hB:B.handled=gV) (E:Jr->Jt->Prop) (Q':Jn Jr->Jt->Prop),(∀h' tk,(∀b o,s.heap.get? b=ba o->h'.get? b=ba o)->s.heap.objs.size<=h'.objs.size->Q' us { s with heap:=h',toks:=tk })->wpAny (model X.prog X.w) B (collect u) Q' E s:=by
 cases rx with
 | tup h1 r1=>
  cases e;obtain⟨its,rv,ht,hz⟩:=I.tuple h1;obtain rfl:u=Kk _:=ru;exact#[_,its,r1,rv,by rw[<- L2.Vals.length rv]; exact hz,λB hB E Q' h=>pV ht (by rw[<- L2.Vals.length rv]; exact hz) h]
 | ref ea=>
  dsimp only[da]at e;split at e
  ·rename_i xs hx;cases e;obtain⟨vs,h1,r1⟩:=bo so hx ea;obtain⟨its,rv,p,hz⟩:=I.list h1;obtain rfl:u=Kk _:=ru;show#[_,its,r1,rv,by rw[<- L2.Vals.length rv]; exact hz,λB hB E Q' h=>collect_list p.isList (h _ s.toks (λb o' e=>(Nn _ _ _ _ (JZ (JO e))).trans (Jq _ e)) ?_) (by rw[<- L2.Vals.length rv]; exact hz)]
   rw[Ra,size_push'];exact Ma _
  ·rw[Js]at e;obtain⟨U,hk,rfl⟩:=e;obtain⟨xs,rd,kr⟩:=fW so hk ea;have d:=cH I rd;obtain⟨es,ep,raw,he⟩:=d.raw;obtain rfl:u=Kk _:=ru;have hl:es.size=xs.length:=by rw[<- JP,he,Jp]
   show#[_,_,kr.keysL,mL xs,by rw[Jp]; exact d.1,λB hB E Q' h=>pR (tN d.2.1) hB raw (by rw[hl]; exact d.1) λh' tk acc hk' hle ha=>?_]
   rw[kU he ha];exact h h' tk hk' hle
 | _=>cases e
def mM {h':Kv}{tk c:Jx}{D:Jz}{ws:Jn W}{vs:Jn V}{us:Jn Jr}(I:Inv X J Y H s)(so:StoreOk X.w X.K A H S)(r:RelL X.K A H ws vs)(rv:Vals vs us)(hz:us.length<=sizeLine)(hk:∀b o,s.heap.get? b=ba o->h'.get? b=ba o)(hD:s.heap.objs.size<=D)
  (ho:h'.get? D=ba { cls:=.type "list",data:=.seq us.toArray c }):PostE X J Y A H (S++[.lst ws]) (.ref S.length) (.ref D) { s with heap:=h',toks:=tk }:=by
 have hn:H D=gV:=I.hok.fresh hD;show#[.ref D,_,A++[D],I.laid (a:=D) (o:=.lst vs) (t':=tk) hk hD #[by rw[L2.Vals.length rv]; exact hz,us,c,rv,ho],rfl,cV hn,so.push hn r,.ref ?_]
 rw[<- so.len]; simp
def nZ (hh:X.A.handled=gV)(hu:X.A.units+12 < cLine):LCall X (.builtin "sorted") dO:=by
 intro J s Y H A S xs vs us w S' I so rl rv e;cases rl with
 | nil=>cases e
 | cons r t=>
  cases t with
  | cons _ _=>cases e
  | nil=>
   cases rv with
   | cons ru rv2=>
    cases rv2;dsimp only[dO]at e;split at e
    ·rename_i ws hw;split at e
     ·rename_i ks hk;split at e
      ·rename_i hok;cases e;obtain⟨vs',us',r1,rv1,hz,hcol⟩:=vI hh I so r ru hw
       (dsimp only[fG]at hok; simp only[Jv,JU]at hok)
       obtain⟨⟨h64,hd⟩,hok⟩:=hok;have hws:T.ws ks=ws:=W.ts_w hk;have hT:IsTs s.heap ks us':=eJ I ks (hws ▸ r1) rv1;have hl:us'.length=ks.length:=hT.length.symm;have sk:2<=us'.length->(rG ks).isSome=true/\eM ks=true:=λh2=>by
        rcases Lk _ _ ▸ hok with h|h
        ·simp only[JU]at h; omega
        ·simpa using h
       show vG (vs:=us') (lt:=kS ks) (κ:=tQ ((rG ks).getD 0)) ∅ (λQ' hQ'=>hcol X.A.in1 hh _ Q' hQ') (λh2 h' tk hk' Q hq=>?_) (λh2 h' tk hk' i j hi hj Q hq=>?_) λD h' tk c hk' hD ho=>?_
       ·obtain⟨q1,q2⟩:=sk h2;obtain⟨c,hc⟩:=KF.mp q1;rw[hc]at hq;exact xY (s:={ s with heap:=h',toks:=tk }) (hT.kept λb o _ e=>hk' b o e) h2 hc hq
       ·obtain⟨q1,q2⟩:=sk h2;obtain⟨c,hc⟩:=KF.mp q1;rw[hc];have hi':i < ks.length:=∅
        have hj':j < ks.length:=∅
        have g:=(hT.kept (h':=h') λb o _ e=>hk' b o e)
        have e1:us'.getD i Kz=us'[i]:=by simp[hi]
        have e2:us'.getD j Kz=us'[j]:=by simp[hj]
        rw[e1,e2];have b1:=cy (ks:=ks) i hi';have b2:=cy (ks:=ks) j hj';exact tU (s:={ s with heap:=h',toks:=tk }) (d:=bP) (c:=c) (by rw[aH,aH]; unfold bP; omega) ∅ ∅ (g.get i hi' hi) (g.get j hj' hj) (dE q2 hi' hj') (tV hc (Kd hi') (Kd hj')) hq
       ·exact mM I so (x4 r1) (vH rv1) (by rw[pT]; exact hz) hk' hD ho
      ·cases e
     ·cases e
    ·cases e
def pW (hh:X.A.handled=gV):LCall X (.type "list") mK:=by
 intro J s Y H A S xs vs us w S' I so rl rv e
 by_cases hd:∃i U,xs=[.ref i]/\jN S i=ba U
 ·obtain⟨i,U,rfl,hk⟩:=hd
  (dsimp only[mK]at e; simp only[hk]at e)
  cases e;cases rl with
  | cons r t=>
   cases t;cases rv with
   | cons ru rv2=>
    cases rv2;cases r with
    | ref ea=>
     obtain⟨xs,rd,kr⟩:=fW so hk ea;have d:=cH I rd;obtain⟨es,ep,raw,he⟩:=d.raw;obtain rfl:_=Kk _:=ru;have hl:es.size=xs.length:=by rw[<- JP,he,Jp]
     show PySem.W.kdl_call (tN d.2.1) hh raw (by rw[hl]; exact d.1) λh' tk acc' c' hk' hD ha=>?_
     have ea':=kU he ha;show mM (us:=acc'.toList) I so kr.keysL (ea' ▸ mL xs) (by rw[ea',Jp]; exact d.1) hk' (JA _) (c:=c') ?_
     simpa using hD
 ·have:mK xs S=iL xs S:=by
   unfold mK;split
   ·rename_i i;split
    ·rename_i U hk;exact absurd #[i,U,rfl,hk] hd
    ·rfl
   ·rfl
  rw[this]at e;exact im J s Y H A S xs vs us w S' I so rl rv e
end
open PySem.W (KasT kas_sort kas_asc kas_desc kas_tail3 kas_descPart kas_count kas_place kas_bin kas_rev)
def dY {α β:Type}{lt:Jx->Jx->J3}{f:α->KasT β}:∀t:KasT α,bJ lt (t.bind f)=bJ lt (f (bJ lt t))
 | .ret _=>rfl
 | .ask i j k=>dY (k (lt i j))
structure Lin (n:Jx)(lt:Jx->Jx->J3):Prop where
 tr:∀i j k,i < n->j < n->k < n->lt i j=true->lt j k=true->lt i k=true
 as:∀i j,i < n->j < n->lt i j=true->lt j i=false
 to:∀i j,i < n->j < n->i≠j->lt j i=false->lt i j=true
abbrev gt (p:J7 Jx)(i:Jx):Jx:=p.getD i 0
def jn {p:J7 Jx}{i:Jx}:gt p i=(p[i]?).getD 0:=by unfold gt; simp[Array.getD_eq_getD_getElem?]
def Pm.inj {n:Jx}{p:J7 Jx}(h:Pm n p){i j:Jx}(hi:i < n)(hj:j < n)(hne:i≠j):gt p i≠gt p j:=by
 have nd:p.toList.Nodup:=h.nodup_iff.mpr NZ;have hi':i < p.toList.length:=by rw[JP,h.size]; exact hi
 have hj':j < p.toList.length:=by rw[JP,h.size]; exact hj
 intro e;have e1:gt p i=p.toList[i]:=by unfold gt; simp[Nx,h.size,hi]
 have e2:gt p j=p.toList[j]:=by unfold gt; simp[Nx,h.size,hj]
 rw[e1,e2]at e;have pw:=Nj.mp nd;rcases MR hne with h|h
 ·exact pw i j hi' hj' h e
 ·exact pw j i hj' hi' h e.symm
abbrev Up (lt:Jx->Jx->J3)(p:J7 Jx)(m:Jx):Prop:=∀i j,i < j->j < m->lt (gt p i) (gt p j)=true
section
variable{n:Jx}{lt:Jx->Jx->J3}(L:Lin n lt)
include L
def Up.more {p:J7 Jx}{a:Jx}(hp:Pm n p)(ha:1<=a)(han:a < n)(h:Up lt p a)(hl:lt (gt p (a - 1)) (gt p a)=true):Up lt p (a+1):=by
 have hn:0 < n:=∅
 intro i j hij hj
 by_cases e:j=a
 ·subst e
  by_cases e2:i=j - 1
  ·subst e2; exact hl
  ·exact L.tr _ _ _ (hp.lt hn _) (hp.lt hn _) (hp.lt hn _) (h i (j - 1) ∅ ∅) hl
 ·exact h i j hij ∅
def sd {p:J7 Jx}(hp:Pm n p):∀(f a:Jx),1<=a->a+f=n->Up lt p a->Up lt p (bJ lt (kas_asc p f a))/\a<=bJ lt (kas_asc p f a)/\bJ lt (kas_asc p f a)<=n/\(bJ lt (kas_asc p f a) < n->lt (gt p (bJ lt (kas_asc p f a))) (gt p (bJ lt (kas_asc p f a) - 1))=true)
 | 0,a,h1,h2,h=>#[h,JA _,by change a<=n; omega,λz=>by have:a < n:=z; omega]
 | f+1,a,h1,h2,h=>by
  have hn:0 < n:=∅
  have e:bJ lt (kas_asc p (f+1) a)=bJ lt (if lt (gt p a) (gt p (a - 1))=true then .ret a else kas_asc p f (a+1)):=rfl
  rw[e];cases c:lt (gt p a) (gt p (a - 1))with
  | true=>exact#[h,JA _,by change a<=n; omega,λ_=>c]
  | false=>
   have l:lt (gt p (a - 1)) (gt p a)=true:=L.to _ _ (hp.lt hn (a - 1)) (hp.lt hn a) (hp.inj ∅ ∅ ∅) c
   obtain⟨q1,q2,q3,q4⟩:=sd hp f (a+1) ∅ ∅ (Up.more L hp h1 ∅ h l)
   exact#[q1,by change a<=bJ lt (kas_asc p f (a+1)); omega,q3,q4]
abbrev Dn (lt:Jx->Jx->J3)(p:J7 Jx)(m:Jx):Prop:=∀i j,i < j->j < m->lt (gt p j) (gt p i)=true
def tW {p:J7 Jx}(hp:Pm n p):∀(f a:Jx),1<=a->a+f=n->Dn lt p a->∃m,bJ lt (kas_desc f p a 0)=(p,m,0)/\a<=m/\m<=n/\Dn lt p m
 | 0,a,h1,h2,h=>#[a,rfl,JA _,∅,h]
 | f+1,a,h1,h2,h=>by
  have hn:0 < n:=∅
  have e:bJ lt (kas_desc (f+1) p a 0)=bJ lt (if lt (gt p a) (gt p (a - 1))=true then(if 0 > 0 then kas_desc f (kas_rev p (a - (0+1)) a) (a+1) 0 else kas_desc f p (a+1) 0)else .ask (gt p (a - 1)) (gt p a) λd=>if d=true then .ret (p,a,0)else kas_desc f p (a+1) (0+1)):=rfl
  rw[e];cases c:lt (gt p a) (gt p (a - 1))with
  | true=>
   obtain⟨m,q1,q2,q3,q4⟩:=tW hp f (a+1) ∅ ∅ λi j hij hj=>by
    by_cases e:j=a
    ·subst e
     by_cases e2:i=j - 1
     ·subst e2; exact c
     ·exact L.tr _ _ _ (hp.lt hn _) (hp.lt hn _) (hp.lt hn _) c (h i (j - 1) ∅ ∅)
    ·exact h i j hij ∅
   exact#[m,q1,∅,q3,q4]
  | false=>
   have l:lt (gt p (a - 1)) (gt p a)=true:=L.to _ _ (hp.lt hn (a - 1)) (hp.lt hn a) (hp.inj ∅ ∅ ∅) c
   show#[a,?_,JA _,∅,h]
   change bJ lt (if lt (gt p (a - 1)) (gt p a)=true then .ret (p,a,0)else kas_desc f p (a+1) (0+1))=_
   rw[l]; rfl
omit L in
def DR {p:J7 Jx}{m:Jx}(hp:Pm n p)(hm:m<=n)(h:Dn lt p m):Up lt (kas_rev p 0 m) m:=by
 intro i j hij hj;have g:∀k,k < m->gt (kas_rev p 0 m) k=gt p (m - 1 - k):=λk hk=>by
  rw[jn,jn];show((mirror p 0 m ((m - 0) / 2))[k]?).getD 0=_;rw[getElem?_mirror_all (by rw[hp.size]; exact hm),JX #[Lm _,hk],Nat.zero_add]
 rw[g i ∅,g j hj]
 exact h _ _ ∅ ∅
def x5 {p:J7 Jx}(hp:Pm n p)(hn:1<=n):∃m p',bJ lt (kas_count n p)=(m,p')/\Pm n p'/\1<=m/\m<=n/\Up lt p' m:=by
 unfold kas_count;rw[dY];obtain⟨q1,q2,q3,q4⟩:=sd L hp (n - 1) 1 (JA _) ∅ λi j hij hj=>∅
 generalize bJ lt (kas_asc p (n - 1) 1)=m at q1 q2 q3 q4
 by_cases hm:m=n
 ·subst hm;rw[JX (KJ _)];exact#[m,p,rfl,hp,q2,JA _,q1]
 ·rw[J8 (by simp[hm])]
  by_cases h1:m > 1
  ·rw[JX h1];have l:=q1 0 (m - 1) ∅ ∅
   show#[m,p,?_,hp,q2,q3,q1];change bJ lt (if lt (gt p 0) (gt p (m - 1))=true then .ret (m,p)else kas_descPart m n (kas_rev p 0 m))=_
   rw[l]; rfl
  ·rw[J8 h1];obtain rfl:m=1:=∅
   unfold kas_descPart;rw[dY];have l:=q4 ∅
   obtain⟨m,e,r1,r2,r3⟩:=tW L hp (n - (1+1)) (1+1) ∅ ∅ λi j hij hj=>by
    obtain rfl:j=1:=∅
    obtain rfl:i=0:=∅
    exact l
   rw[e];dsimp only;rw[J8 ∅]
   unfold kas_tail3;rw[dY];have hp':Pm n (kas_rev p 0 m):=hp.rev 0 m;obtain⟨z1,z2,z3,z4⟩:=sd L hp' (n - m) m ∅ ∅ (DR hp r2 r3)
   exact#[_,_,rfl,hp',∅,z3,z1]
def kW {p:J7 Jx}{k:Jx}(hp:Pm n p)(hk:k < n)(hu:Up lt p k):∀(f l r:Jx),l<=r->r<=k->r - l<=f->(∀i,i < l->lt (gt p i) (gt p k)=true)->(∀i,r<=i->i < k->lt (gt p k) (gt p i)=true)->
  ∃m,bJ lt (kas_place p k f l r)=m/\m<=k/\(∀i,i < m->lt (gt p i) (gt p k)=true)/\(∀i,m<=i->i < k->lt (gt p k) (gt p i)=true)
 | 0,l,r,h1,h2,h3,ha,hb=>#[l,rfl,∅,ha,λi hi=>hb i ∅]
 | f+1,l,r,h1,h2,h3,ha,hb=>by
  have hn:0 < n:=∅
  unfold kas_place
  by_cases hge:l>=r
  ·rw[JX hge];exact#[l,rfl,∅,ha,λi hi=>hb i ∅]
  ·rw[J8 hge];change ∃m,bJ lt (if lt (gt p k) (gt p ((l+r) / 2))=true then kas_place p k f l ((l+r) / 2)else kas_place p k f ((l+r) / 2+1) r)=m/\_
   cases c:lt (gt p k) (gt p ((l+r) / 2))with
   | true=>
    rw[JX rfl];show kW hp hk hu f l ((l+r) / 2) ∅ ∅ ∅ ha λi hi hik=>?_
    by_cases e:i=(l+r) / 2
    ·rw[e]; exact c
    ·exact L.tr _ _ _ (hp.lt hn _) (hp.lt hn _) (hp.lt hn _) c (hu _ _ ∅ hik)
   | false=>
    rw[J8 J1];have l':=L.to _ _ (hp.lt hn ((l+r) / 2)) (hp.lt hn k) (hp.inj ∅ ∅ ∅) c
    show kW hp hk hu f ((l+r) / 2+1) r ∅ h2 ∅ (λi hi=>?_) hb
    by_cases e:i=(l+r) / 2
    ·rw[e]; exact l'
    ·exact L.tr _ _ _ (hp.lt hn _) (hp.lt hn _) (hp.lt hn _) (hu i ((l+r) / 2) ∅ ∅) l'
def ya:∀(f:Jx) (p:J7 Jx) (k:Jx),Pm n p->k+f=n->Up lt p k->Pm n (bJ lt (kas_bin f p k))/\Up lt (bJ lt (kas_bin f p k)) n
 | 0,p,k,hp,h,hu=>by
  have:k=n:=∅
  exact#[hp,this ▸ hu]
 | f+1,p,k,hp,h,hu=>by
  unfold kas_bin;rw[dY];obtain⟨m,e,h1,ha,hb⟩:=kW L hp ∅ hu k 0 k (Lm _) (JA _) ∅ (λi hi=>∅) λi h1 h2=>∅
  rw[e];show ya f _ (k+1) (hp.bub _ _) ∅ λi j hij hj=>?_
  have g:∀i,gt (bubble p k (k - m)) i=if i=m then gt p k else if m < i/\i<=k then gt p (i - 1)else gt p i:=λi=>by
   rw[jn,jn,jn,jn,getElem?_bubble (by rw[hp.size]; omega) _ ∅,show k - (k - m)=m by omega]
   split
   ·rfl
   ·split <;> rfl
  rw[g,g]
  repeat' split
  all_goals first
   | (exfalso; omega)
   | exact ha _ ∅
   | exact hb _ ∅ ∅
   | exact hu _ _ ∅ ∅
def Bm (hn:1<=n):Pm n (bJ lt (kas_sort n))/\Up lt (bJ lt (kas_sort n)) n:=by
 unfold kas_sort;rw[dY];obtain⟨m,p',e,h1,h2,h3,h4⟩:=x5 L (p:=(JW n).toArray) (by unfold Pm; simp) hn
 rw[e];dsimp only
 by_cases hm:m < n
 ·rw[JX hm];have:max m 1=m:=∅
  rw[this];exact ya L _ _ _ h1 ∅ h4
 ·rw[J8 hm];have:m=n:=∅
  exact#[h1,this ▸ h4]
end
end Mi
namespace Mi
open PySem PySem.Spec PyProof.Rows L2
mutual
theorem jo:∀x y:T,d6 x=true->gT x y=ba true->gT y x=ba false
 | .int a,.int b,_,h=>by
  dsimp only[gT]at h; simp only[Kb,JU]at h
  dsimp only[gT]; simp only[Kb,MK]
  omega
 | .str _,_,h,_=>by cases h
 | .tup xs,.tup ys,hn,h=>n6 xs ys hn h
 | .int _,.str _,_,h|.int _,.tup _,_,h|.tup _,.int _,_,h|.tup _,.str _,_,h=>by cases h
theorem n6:∀xs ys:Jn T,cW xs=true->bY xs ys=ba true->bY ys xs=ba false
 | [],[],_,h=>by cases h
 | [],_::_,_,_=>rfl
 | _::_,[],_,h=>by cases h
 | x::xs,y::ys,hn,h=>by
  simp only[cW,Jv]at hn;dsimp only[bY]at h ⊢
  by_cases e:x=y
  ·rw[JX e]at h;rw[JX e.symm];exact n6 xs ys hn.2 h
  ·rw[J8 e]at h;rw[J8 (Ne.symm e)];exact jo x y hn.1 h
end
mutual
theorem og:∀x y:T,d6 x=true->x≠y->gT y x=ba false->gT x y=ba true
 | .int a,.int b,_,hne,h=>by
  dsimp only[gT]at h; simp only[Kb,MK]at h
  dsimp only[gT]; simp only[Kb,JU]
  have:a≠b:=λe=>hne (e ▸ rfl)
  omega
 | .str _,_,h,_,_=>by cases h
 | .tup xs,.tup ys,hn,hne,h=>tX xs ys hn (λe=>hne (e ▸ rfl)) h
 | .int _,.str _,_,_,h|.int _,.tup _,_,_,h|.tup _,.int _,_,_,h|.tup _,.str _,_,_,h=>by cases h
theorem tX:∀xs ys:Jn T,cW xs=true->xs≠ys->bY ys xs=ba false->bY xs ys=ba true
 | [],[],_,h,_=>absurd rfl h
 | [],_::_,_,_,_=>rfl
 | _::_,[],_,_,h=>by cases h
 | x::xs,y::ys,hn,hne,h=>by
  simp only[cW,Jv]at hn;dsimp only[bY]at h ⊢
  by_cases e:x=y
  ·rw[JX e.symm]at h;rw[JX e];exact tX xs ys hn.2 (λz=>hne (by rw[e,z])) h
  ·rw[J8 (Ne.symm e)]at h;rw[J8 e];exact og x y hn.1 e h
end
mutual
theorem sf:∀x y z:T,d6 x=true->d6 y=true->gT x y=ba true->gT y z=ba true->gT x z=ba true
 | .int a,.int b,.int c,_,_,h,h'=>by
  dsimp only[gT]at h h' ⊢; simp only[Kb,JU]at h h' ⊢
  omega
 | .tup xs,.tup ys,.tup zs,hn,hn',h,h'=>tY xs ys zs hn hn' h h'
 | .str _,_,_,h,_,_,_=>by cases h
 | .int _,.str _,_,_,_,h,_|.int _,.tup _,_,_,_,h,_|.tup _,.int _,_,_,_,h,_|.tup _,.str _,_,_,_,h,_=>by cases h
 | .int _,.int _,.str _,_,_,_,h|.int _,.int _,.tup _,_,_,_,h|.tup _,.tup _,.int _,_,_,_,h|.tup _,.tup _,.str _,_,_,_,h=>by cases h
theorem tY:∀xs ys zs:Jn T,cW xs=true->cW ys=true->bY xs ys=ba true->bY ys zs=ba true->bY xs zs=ba true
 | [],[],_,_,_,h,_=>by cases h
 | _::_,[],_,_,_,h,_=>by cases h
 | _,_::_,[],_,_,_,h=>by cases h
 | [],_::_,_::_,_,_,_,_=>rfl
 | x::xs,y::ys,z::zs,hn,hn',h,h'=>by
  simp only[cW,Jv]at hn hn';dsimp only[bY]at h h' ⊢
  by_cases e:x=y
  ·subst e;rw[JX rfl]at h
   by_cases e':x=z
   ·rw[JX e']at h' ⊢;exact tY xs ys zs hn.2 hn'.2 h h'
   ·rw[J8 e']at h' ⊢;exact h'
  ·rw[J8 e]at h
   by_cases e':y=z
   ·subst e';rw[J8 e];exact h
   ·rw[J8 e']at h';have t:=sf x y z hn.1 hn'.1 h h';have e2:x≠z:=λe2=>by
     subst e2;have:=jo x x hn.1 t;rw[t]at this; cases this
    rw[J8 e2];exact t
end
abbrev DS (ks:Jn T):Prop:=ks.Pairwise λx y=>gT x y=ba true
abbrev dI (ks:Jn T):Jn T:=c9 (kS ks) (.int 0) ks
structure Nice (ks:Jn T):Prop where
 num:∀x∈ks,d6 x=true
 lt:eM ks=true
 nd:ks.Nodup
def Nice.lin {ks:Jn T}(h:Nice ks):Lin ks.length (kS ks):=by
 have nm:∀i (hi:i < ks.length),d6 ks[i]=true:=λi hi=>h.num _ (Kd hi)
 show#[λi j k hi hj hk a b=>?_,λi j hi hj a=>?_,λi j hi hj hne a=>?_]
 ·have e1:=dE h.lt hi hj;have e2:=dE h.lt hj hk;have e3:=dE h.lt hi hk;rw[a]at e1; rw[b]at e2
  rw[sf _ _ _ (nm i hi) (nm j hj) e1 e2]at e3;exact(KQ e3).symm
 ·have e1:=dE h.lt hi hj;have e2:=dE h.lt hj hi;rw[a]at e1;rw[jo _ _ (nm i hi) e1]at e2;exact(KQ e2).symm
 ·have e1:=dE h.lt hj hi;have e2:=dE h.lt hi hj;rw[a]at e1;have hne':ks[i]≠ks[j]:=λe=>by
   have pw:=Nj.mp h.nd;rcases MR hne with q|q
   ·exact pw i j hi hj q e
   ·exact pw j i hj hi q e.symm
  rw[og _ _ (nm i hi) hne' e1]at e2;exact(KQ e2).symm
def dw {α:Type}{lt:Jx->Jx->J3}{d:α}{xs:Jn α}:(c9 lt d xs).Perm xs:=by
 unfold c9;split
 ·exact .refl _
 ·have p:Pm xs.length (bJ lt (MJ xs.length)):=nY (ki ∅)
  show(Sl _ p).trans ?_;have:(JW xs.length).map (λi=>xs.getD i d)=xs:=by
   apply LW
   ·simp
   ·intro k h1 h2; simp[h2]
  rw[this]
def fX {ks:Jn T}(h:Nice ks):DS (dI ks):=by
 unfold dI c9 DS;split
 ·rename_i hl
  match ks,hl with
  | [],_=>exact .nil
  | [x],_=>simp
  | _::_::_,hl=>simp only[Kr]at hl; omega
 ·rename_i hl;obtain⟨p,u⟩:=Bm h.lin ∅
  rw[Nj];intro i j hi hj hij;rw[Jp,JP,p.size]at hi hj;have hn:0 < ks.length:=∅
  have l:=u i j hij hj;have e1:=dE h.lt (p.lt hn i) (p.lt hn j);have g:∀k (hk:k < ks.length),(bJ (kS ks) (MJ ks.length)).getD k 0=(bJ (kS ks) (MJ ks.length)).toList[k]'(by rw[JP,p.size]; exact hk):=λk hk=>by simp[Nx,p.size,hk]
  have l':kS ks ((bJ (kS ks) (MJ ks.length)).getD i 0) ((bJ (kS ks) (MJ ks.length)).getD j 0)=true:=l;rw[l']at e1;have gd:∀k (hk:k < ks.length),ks.getD k (.int 0)=ks[k]:=λk hk=>by simp[hk]
  simp only[NY];rw[<- g i hi,<- g j hj,gd _ (p.lt hn i),gd _ (p.lt hn j)];exact e1
def iV:∀ {a b:Jn T},(∀x∈a,d6 x=true)->a.Perm b->DS a->DS b->a=b
 | [],b,_,p,_,_=>(TK p)
 | x::a,[],_,p,_,_=>absurd p.length_eq (by simp)
 | x::a,y::b,hn,p,h,h'=>by
  have e:x=y:=by
   rcases JR.mp (p.mem_iff.mp (KP))with e|e
   ·exact e
   ·rcases JR.mp (p.mem_iff.mpr (KP))with e'|e'
    ·exact e'.symm
    ·have l1:=OI h e';have l2:=OI h' e;have:=jo _ _ (hn x (.head _)) l1;rw[l2]at this; cases this
  subst e;rw[iV (λz hz=>hn z (.tail _ hz)) ((List.perm_cons x).mp p) (OB.mp h).2 (OB.mp h').2]
def Nice.of_sub {ks us:Jn T}(h:Nice ks)(hs:∀x∈us,x∈ks)(hd:us.Nodup):Nice us:=by
 show#[λx hx=>h.num x (hs x hx),?_,hd]
 have:=h.lt;unfold eM at this ⊢;rw[JQ]at this ⊢;intro x hx;have h2:=this x (hs x hx);rw[JQ]at h2 ⊢;exact λy hy=>h2 y (hs y hy)
def vJ {us ks:Jn T}(h:Nice ks)(p:us.Perm ks):dI us=dI ks:=by
 have hu:Nice us:=h.of_sub (λx hx=>p.mem_iff.mp hx) (p.nodup_iff.mpr h.nd)
 have pu:(dI us).Perm us:=dw;have pk:(dI ks).Perm ks:=dw;exact iV (λx hx=>hu.num x (pu.mem_iff.mp hx)) (pu.trans (p.trans pk.symm)) (fX hu) (fX h)
def yb {us ks:Jn T}(h:Nice ks)(p:us.Sublist (dI ks)):dI us=us:=by
 have pk:(dI ks).Perm ks:=dw;have hu:Nice us:=h.of_sub (λx hx=>pk.mem_iff.mp (p.subset hx)) (p.nodup (pk.nodup_iff.mpr h.nd))
 have pu:(dI us).Perm us:=dw;exact iV (λx hx=>hu.num x (pu.mem_iff.mp hx)) pu (fX hu) ((fX h).sublist p)
mutual
def mN:T->JI
 | .int i=>hashInt i
 | .str _=>0
 | .tup xs=>reduceHash (Nh (oh xs))
def oh:Jn T->Jn JI
 | []=>[]
 | x::xs=>mN x::oh xs
end
mutual
theorem pX {w:Kq}:∀x:T,d6 x=true->eG w x=mN x
 | .int _,_=>rfl
 | .str _,h=>by cases h
 | .tup xs,h=>by dsimp only[eG,mN]; rw[mO xs h]
theorem mO {w:Kq}:∀xs:Jn T,cW xs=true->ig w xs=oh xs
 | [],_=>rfl
 | x::xs,h=>by
  simp only[cW,Jv]at h;dsimp only[ig,oh];rw[pX x h.1,mO xs h.2]
end
def pY {w:Kq}:∀(ks:Jn T) (st:J7 (JI×T)×KW),(∀x∈ks,d6 x=true)->ks.foldlM (bp (eG w)) st=ks.foldlM (bp mN) st
 | [],_,_=>rfl
 | x::ks,st,h=>by
  rw[MH,MH];have e:bp (eG w) st x=bp mN st x:=by unfold bp; rw[pX x (h x (.head _))]
  rw[e];congr 1
  funext st'
  exact pY ks st' λy hy=>h y (.tail _ hy)
abbrev pZ (l:J3)(ks:Jn T):Jw (J7 (JI×T)×KW):=ks.foldlM (bp mN) (#[],.fresh 0 0 l)
abbrev jP (ks:Jn T):Jw (Jn T):=match pZ true ks with
 | some r=>if fE r.2 r.1.size then ba (r.1.toList.map (·.2))else gV
 | none=>gV
abbrev fO (b:J3)(t:KW):KW:={ t with led:=b }
def sg {b:J3}{t:KW}{ha:Jx->JI}{h:JI}:∀(f:Jx) (p:Ov),OQ (fO b t) ha h f p=OQ t ha h f p
 | 0,_=>rfl
 | f+1,p=>by
  unfold OQ;rw[show(fO b t).slot p.j=t.slot p.j from rfl]
  cases t.slot p.j with
  | empty=>rfl
  | dummy=>exact sg f _
  | live i=>
   dsimp only;split
   ·rfl
   ·exact sg f _
def jQ {b:J3}{es:J7 (JI×T)}{t:KW}{x:T}{h:JI}:∀(f:Jx) (st:Jw Ov),dN es (fO b t) x h f st=dN es t x h f st
 | 0,_=>rfl
 | f+1,st=>by
  unfold dN;have e:∀p,(fO b t).probe (λi=>(es[i]?.map (·.1)).getD 0) h p=t.probe (λi=>(es[i]?.map (·.1)).getD 0) h p:=λp=>sg _ _
  rw[show(fO b t).probeStart h=t.probeStart h from rfl,e]
  split
  ·rfl
  ·rfl
  ·rfl
  ·rename_i j i next _;cases es[i]? with
   | none=>rfl
   | some q=>
    dsimp only;split
    ·rfl
    ·rw[show(fO b t).slot j=t.slot j from rfl]
     split
     ·exact jQ f _
     ·rfl
def sh {b:J3}{t:KW}{hs:J7 JI}{n:Jx}:(fO b t).relaid hs n=(t.relaid hs n).map λr=>(fO b r.1,r.2):=by
 unfold TQ T4;show(do let owner <- QL (Ox n - 1) hs; _)=_
 cases QL (Ox n - 1) hs <;> rfl
def si {b:J3}{hf:T->JI}{es:J7 (JI×T)}{t:KW}{x:T}:bp hf (es,fO b t) x=(bp hf (es,t) x).map λr=>(r.1,fO b r.2):=by
 unfold bp;dsimp only;rw[jQ];cases dN es t x (hf x) 100 gV with
 | none=>rfl
 | some f=>
  cases f with
  | there=>rfl
  | free slot=>
   dsimp only;rw[show(fO b t).put slot=(fO b (t.put slot).1,(t.put slot).2)from rfl]
   dsimp only;rw[show ∀n,dv (fO b (t.put slot).1) n=dv (t.put slot).1 n from λ_=>rfl,show(fO b (t.put slot).1).tooFull=(t.put slot).1.tooFull from rfl,sh]
   split
   ·split
    ·split
     ·cases(t.put slot).1.relaid ((Ko es (t.put slot).2 (hf x,x)).map (·.1)) (NK (es.size+1))with
      | none=>rfl
      | some q=>
       obtain⟨t2,order⟩:=q;dsimp only[Kg];rw[show ∀n,dv (fO b t2) n=dv t2 n from λ_=>rfl]
       split <;> rfl
     ·rfl
    ·rfl
   ·rfl
def p4 {b:J3}{hf:T->JI}:∀(ks:Jn T) (es:J7 (JI×T)) (t:KW),ks.foldlM (bp hf) (es,fO b t)=(ks.foldlM (bp hf) (es,t)).map λr=>(r.1,fO b r.2)
 | [],_,_=>rfl
 | x::ks,es,t=>by
  rw[MH,MH,si];cases bp hf (es,t) x with
  | none=>rfl
  | some r=>exact p4 ks r.1 r.2
def vK {ks us:Jn T}(h:jP ks=ba us)(l:J3):∃r,pZ l ks=ba r/\r.1.toList.map (·.2)=us/\r.2.led=l/\(r.2.plain=true->fE r.2 r.1.size=true):=by
 unfold jP at h;have e:pZ l ks=(pZ true ks).map λr=>(r.1,fO l r.2):=p4 (b:=l) ks #[] (.fresh 0 0 true)
 cases hr:pZ true ks with
 | none=>rw[hr]at h; cases h
 | some r=>
  rw[hr]at h e;dsimp only at h;split at h
  ·rename_i hok;cases h;exact#[_,e,rfl,rfl,λ_=>hok]
  ·cases h
def ol {α:Type}{xs:J7 α}{p:Jx}{x y:α}(h:y∈(Ko xs p x).toList):y∈xs.toList\/y=x:=by
 unfold Ko at h;rw[Oe,ON,Kc,Kc]at h;rcases h with(h|h)|h
 ·rw[M7]at h;show .inl ?_;simp only[SL]at h;exact M8 (LZ h)
 ·exact .inr (JK.mp h)
 ·rw[M7]at h;show .inl ?_;simp only[SL]at h;exact M8 (LZ h)
def sj {hf:T->JI}{es:J7 (JI×T)}{t:KW}{x:T}{r:J7 (JI×T)×KW}(h:bp hf (es,t) x=ba r):∀y∈r.1.toList,y∈es.toList\/y.2=x:=by
 intro y hy;unfold bp at h;dsimp only at h;split at h
 ·cases h
 ·cases h; exact .inl hy
 ·rename_i slot _;have ins:∀y∈(Ko es (t.put slot).2 (hf x,x)).toList,y∈es.toList\/y.2=x:=λy hy=>(ol hy).imp id λe=>by rw[e]
  split at h
  ·split at h
   ·split at h
    ·split at h
     ·cases h
     ·rename_i t2 order _;split at h
      ·cases h;show ins y ?_;simp only[Array.toList_filterMap,Om]at hy;obtain⟨i,_,hi⟩:=hy;rw[M6];exact NS hi
      ·cases h
    ·cases h
   ·cases h; exact ins y hy
  ·cases h
def p7 {hf:T->JI}:∀(ks:Jn T) (es:J7 (JI×T)) (t:KW) (r:J7 (JI×T)×KW),ks.foldlM (bp hf) (es,t)=ba r->∀y∈r.1.toList,y∈es.toList\/y.2∈ks
 | [],_,_,_,h,y,hy=>by cases h; exact .inl hy
 | x::ks,es,t,r,h,y,hy=>by
  rw[MH]at h;cases hs:bp hf (es,t) x with
  | none=>rw[hs]at h; cases h
  | some q=>
   rw[hs]at h;rcases p7 ks q.1 q.2 r h y hy with h1|h1
   ·rcases sj hs y h1 with h2|h2
    ·exact .inl h2
    ·exact .inr (h2 ▸ KP)
   ·exact .inr (.tail _ h1)
def yc {ks us:Jn T}(h:jP ks=ba us):∀k∈us,k∈ks:=by
 unfold jP at h;split at h
 ·rename_i r hr;split at h
  ·cases h;intro k hk;obtain⟨y,hy,rfl⟩:=JF.mp hk;rcases p7 ks _ _ r hr y hy with h1|h1
   ·simp at h1
   ·exact h1
  ·cases h
 ·cases h
abbrev yd (k:T):J3:=d6 k&&k.isTup&&decide (k.depth<=aA)
abbrev kX (xs:Jn W)(S:aa):Jw (W×aa):=match xs with
 | [.ref i]=>match fS S i with
  | some ws=>match W.ts ws with
   | some ks=>if ks.all yd then(jP ks).map λus=>(.ref S.length,S++[.stt us])else gV
   | none=>gV
  | none=>gV
 | _=>gV
abbrev DT (S:aa)(i:Jx):Jw (Jn T):=match S[i]? with
 | some (.stt us)=>ba us
 | _=>gV
abbrev kY (us:Jn T):J3:=us.all d6&&eM us&&decide us.Nodup&&fG us
abbrev bK (xs:Jn W)(S:aa):Jw (W×aa):=match xs with
 | [.ref i]=>match DT S i with
  | some us=>if kY us then ba (.ref S.length,S++[.lst (T.ws (dI us))])else gV
  | none=>gV
 | _=>gV
abbrev kZ (xs:Jn W)(S:aa):Jw (W×aa):=match xs with
 | [.ref i]=>match xN S i with
  | some (lo,hi)=>if -(2 ^ 62)<=lo/\lo < 2 ^ 62/\-(2 ^ 62)<=hi/\hi < 2 ^ 62/\(hi - lo).toNat<=sizeLine then ba (.tup (Bj lo (hi - lo).toNat),S)else gV
  | none=>kI [.ref i] S
 | xs=>kI xs S
def ye:∀ks:Jn T,T.ws ks=ks.map T.w
 | []=>rfl
 | x::xs=>by simp only[T.ws,KO,ye xs]
def vL {h:Kv}{us vs:Jn Jr}(p:us.Perm vs):∀ {ks:Jn T},IsTs h ks vs->∃js,IsTs h js us/\js.Perm ks:=by
 induction p with
 | nil=>intro ks i; exact#[ks,i,.refl _]
 | cons x p ih=>
  intro ks i;cases i with
  | cons a b=>obtain⟨js,h1,h2⟩:=ih b; exact#[_,.cons a h1,h2.cons _]
 | swap x y l=>
  intro ks i;cases i with
  | cons a b=>cases b with
   | cons b c=>exact#[_,.cons b (.cons a c),.swap _ _ _]
 | trans p q ih1 ih2=>
  intro ks i;obtain⟨js,h1,h2⟩:=ih2 i;obtain⟨is,h3,h4⟩:=ih1 h1;exact#[is,h3,h4.trans h2]
def yf {p:T->J3}{js ks:Jn T}(h:js.Perm ks):js.all p=ks.all p:=by
 rw[N8,JQ,JQ];exact#[λq x hx=>q x (h.mem_iff.mpr hx),λq x hx=>q x (h.mem_iff.mp hx)]
def yg {js ks:Jn T}(h:js.Perm ks):rG js=rG ks:=by unfold rG; simp only[yf h]
def iW:∀ {ks:Jn T} {d:Jx},(∀x∈ks,x.depth<=d)->T.depths ks<=d
 | [],_,_=>Lm _
 | x::ks,d,h=>by
  have h1:=h x (.head _);have h2:=iW λy hy=>h y (.tail _ hy)
  simp only[T.depths]; omega
def mP {h:Kv}{js:Jn T}{us:Jn Jr}(r:IsTs h js us):∀is:Jn Jx,(∀i∈is,i < js.length)->IsTs h (is.map λi=>js.getD i (.int 0)) (is.map λi=>us.getD i .none)
 | [],_=>.nil
 | i::is,hl=>by
  have hi:=hl i (.head _);have hi':i < us.length:=by rw[<- r.length]; exact hi
  have e1:js.getD i (.int 0)=js[i]:=by simp[hi]
  have e2:us.getD i .none=us[i]:=by simp[hi']
  have:=r.get i hi hi';show .cons ?_ (mP r is λj hj=>hl j (.tail _ hj))
  change IsT h (js.getD i (.int 0)) (us.getD i .none);rw[e1,e2]; exact this
def vM {h:Kv}{lt:Jx->Jx->J3}{js:Jn T}{us:Jn Jr}(r:IsTs h js us):IsTs h (c9 lt (.int 0) js) (c9 lt Kz us):=by
 unfold c9;rw[<- r.length];split
 ·exact r
 ·exact mP r _ λi hi=>kj ∅ i hi
section
variable{prog:Kf}{w:Kq}{A:Ki}{E:Jr->Jt->Prop}{s:Jt}
def lZ {Q:Jn Jr->Jt->Prop}{r:Jz}{a b c:JI}{t u v:T5}{n:Jx}(hh:A.handled=gV)(hr:TB s.heap r a b c t u v)(hsmall:Of a b c=true)
  (hn:LK a b c=n) (hlen:n<=2 ^ 24)
  (hQ:∀h' tk (acc:J7 Jr),(∀b o,s.heap.get? b=ba o->h'.get? b=ba o)->s.heap.objs.size<=h'.objs.size->Pb (λi v=>∃t,v=.int (a+i*c) t) acc n->Q acc.toList { s with heap:=h',toks:=tk }):wpAny (model prog w) A (collect (.ref r)) Q E s:=by
 unfold collect;show Jo (NJ (KS F.entry_proto_collect ?_));rw[KN F.plain_proto_collect _];change wpAny _ A.in1 (newList [] >>= λl=>again (.builtin "list.__iadd__" #[[l,.ref r],[]])) _ _ s
 show Jo (Ks ?_);show Ju #[LN F.plain_list_iadd _,KS F.entry_list_iadd ?_];rw[KN F.plain_list_iadd _];change wpAny _ A.in1 (Lq (.ref s.heap.objs.size) (.ref r) (.ref s.heap.objs.size)) _ _ _;have hS:(s.heap.push { cls:=.type "list",data:=.seq ([]:Jn Jr).toArray }).get? s.heap.objs.size=ba { cls:=.type "list",data:=.seq #[] 0 }:=JH _ rfl;have fin':∀s',(∃h' tk acc c',s'={ s with heap:=h',toks:=tk }/\(∀b o,s.heap.get? b=ba o->h'.get? b=ba o)/\h'.get? s.heap.objs.size=ba { cls:=.type "list",dict:=gV,data:=.seq acc c',slots:=#[] }/\Pb (λi v=>∃t,v=.int (a+i*c) t) acc n)->wpAny (model prog w) A (do
   let o <- load s.heap.objs.size
   match o.data with
   | .seq xs _=>pure xs.toList
   | _=>unsupported "internal:collect") Q E s':=by
  rintro s' ⟨h',tk,acc,c',rfl,hk,hS',hacc⟩;exact Jo (O6 hS' (Ju (hQ h' tk acc hk (MN (JO hS')) hacc)))
 show LI (wpAny_extend_range (A:=A) (s:={ s with heap:=s.heap.push { cls:=.type "list",data:=.seq ([]:Jn Jr).toArray } }) (R:=λr s'=>r=.ok (.ret (.ref s.heap.objs.size))/\∃h' tk acc c',s'={ s with heap:=h',toks:=tk }/\(∀b o,s.heap.get? b=ba o->h'.get? b=ba o)/\h'.get? s.heap.objs.size=ba { cls:=.type "list",dict:=gV,data:=.seq acc c',slots:=#[] }/\Pb (λi v=>∃t,v=.int (a+i*c) t) acc n) hh (Jq _ hr) hsmall hn hlen _ _ 0 hS λh' tk acc' c' hk hS' hacc=>#[rfl,h',tk,acc',c',rfl,λb o e=>hk b o (JZ (JO e)) (Jq _ e),hS',hacc]) (λfin s' h=>?_) (λe s' h=>?_)
 ·cases fin with
  | done f=>
   obtain⟨e,h⟩:=h;cases e;exact fin' s' h
  | again c'=>exact#[h.1,NE h.2 λr s'' hr=>by obtain⟨rfl,hr⟩:=hr; exact fin' s'' hr]
 ·exact absurd h.1 (by simp)
def jp {Q₁:Jr->Jt->Prop}{r:Jz}{a b c:JI}{t u v:T5}{n:Jx}(hh:A.handled=gV)(hr:TB s.heap r a b c t u v)(hsmall:Of a b c=true)
  (hn:LK a b c=n) (hlen:n<=2 ^ 24)
  (h:∀(h':Kv) (tk:Jx) (acc:J7 Jr),(∀b o,s.heap.get? b=ba o->h'.get? b=ba o)->s.heap.objs.size<=h'.objs.size->Pb (λi v=>∃t,v=.int (a+i*c) t) acc n->Q₁ (.ref h'.objs.size) { s with heap:=h'.push { cls:=.type "tuple",data:=.seq acc },toks:=tk }) :
  codeAny (model prog w) A (.call (.builtin "tuple.__new__") #[[.type "tuple",.ref r],[]]) (wants Q₁ E) s:=by
 show Pk ?_;change wpAny _ A.in1 (do checkBuiltinCall "tuple.__new__" #[[.type "tuple",.ref r],[]]; again (.builtin "tuple.__new__" #[[.type "tuple",.ref r],[]])) _ _ s
 show Jo (NC (F.newCall_tuple_1 _) (Ju #[LN F.plain_tuple_new _,KS F.entry_tuple_new ?_]));rw[KN F.plain_tuple_new _];have hsub:=PySem.sub_tuple_self;have hinit:=PySem.init_tuple_lookup;have hmh:=PySem.madeHere_tuple;have hTI:s.TypeIs (.ref r) "range":=#[_,hr,rfl];have hh1:A.in1.handled=gV:=by simp[hh]
 wp_walk using MO hTI,lZ (A:=A.in1) hh1 hr hsmall hn hlen
 intro h' tk acc hk hle hacc;change wpAny _ _ (LB acc.toList.toArray >>= λv=>ret v) _ _ _
 unfold LB;show Jo (Ks ?_ (by change acc.toList.toArray.size<=sizeLine; simp only[Array.toArray_toList]; rw[hacc.1,Ky]; omega))
 show Ju ?_;have e:acc.toList.toArray=acc:=by simp
 rw[e];exact h h' tk acc hk hle hacc
def jq {Q:Jr->Jt->Prop}{r:Jz}{a b c:JI}{t u v:T5}{n:Jx}(hh:A.handled=gV)(hr:TB s.heap r a b c t u v)(hsmall:Of a b c=true)
  (hn:LK a b c=n) (hlen:n<=2 ^ 24)
  (hQ:∀(h':Kv) (tk:Jx) (acc:J7 Jr),(∀b o,s.heap.get? b=ba o->h'.get? b=ba o)->s.heap.objs.size<=h'.objs.size->Pb (λi v=>∃t,v=.int (a+i*c) t) acc n->Q (.ref h'.objs.size) { s with heap:=h'.push { cls:=.type "tuple",data:=.seq acc },toks:=tk }) :
  wpAny (model prog w) A (call (.type "tuple") [.ref r]) Q E s:=by
 show callType_codes (Q₁:=λobj s₁=>s₁.TypeIs obj "tuple"/\Q obj s₁) F.called_tuple (F.typeCall_tuple_1 _) F.entry_object_init
  (jp (by simp[hh]) hr hsmall hn hlen λh' tk acc hk hle hacc=>#[#[_,JH _ rfl,rfl],hQ h' tk acc hk hle hacc]) λobj s₁ h₁=>?_
 exact#[h₁.1,F.args_object_init_2 obj _,object_init_meets F.called_tuple.init.lookup F.called_tuple.made #v[] prog w A.in1 _ s₁ #[h₁.1,rfl,h₁.2]]
def p8 {a:Jz}{o:Lr}{es:J7 (JI×Jr)}{ep:Jx}{t:KW}{ks:Jn T}{Q:Jr->Jt->Prop}(hh:A.handled=gV)(hu:A.units+12 < cLine)(ho:s.heap.get? a=ba o)(hex:o.ExactSet)(hd:o.data=.set es ep t)(hz:es.size<=sizeLine)(fit:t.fits es.size=true)(led:t.led = !fe w)(pl:t.plain=true->es.size=0\/fE t es.size=true)
  (hT:IsTs s.heap ks (es.toList.map (·.2))) (hok:kY ks=true)
  (h:∀D h' tk dr c us,(∀b u,s.heap.get? b=ba u->h'.get? b=ba u)->s.heap.objs.size<=D->h'.get? D=ba (seqObj "list" us.toArray c)->IsTs s.heap (dI ks) us->us.Perm (es.toList.map (·.2))->Q (.ref D) { s with heap:=h',toks:=tk,drawn:=dr }) :
  wpAny (model prog w) A (call (.builtin "sorted") [.ref a]) Q E s:=by
 simp only[kY,Jv,JU]at hok;obtain⟨⟨⟨hnum,halt⟩,hnd⟩,hok⟩:=hok;have hN:Nice ks:=#[λx hx=>JQ.mp hnum x hx,halt,hnd]
 show Ni SY SI SJ (SK _) ?_;unfold Mz.«sorted»;show Jo (m:=checkCount "sorted" 1 1 _) (Ju ?_);show Jo (pI (A:=A.in1) (by simp[hh]) ho hex hd hz fit led pl λh1 tk dr us kp hle hP=>?_)
 obtain⟨js,hjs,hperm⟩:=vL hP hT;simp only[fG,Jv,JU]at hok;obtain⟨⟨h64,hdp⟩,hok⟩:=hok;have hl:us.length=ks.length:=by rw[hjs.length.symm,hperm.length_eq]
 have hJ:Nice js:=hN.of_sub (λx hx=>hperm.mem_iff.mp hx) (hperm.nodup_iff.mpr hN.nd)
 have hsk:2<=us.length->(rG js).isSome=true:=λh2=>by
  have h3:(rG ks).isSome=true:=by
   rcases Lk _ _ ▸ hok with h|h
   ·simp only[JU]at h; omega
   ·simp only[Jv]at h; exact h.1
  rw[yg hperm]; exact h3
 have hdj:T.depths js<=bP:=iW λx hx=>by
  obtain⟨i,hi,rfl⟩:=LL.mp (hperm.mem_iff.mp hx);exact J6 (cy i hi) hdp
 show Jo (OV ?_ (by rw[Ky]; omega))
 have hoL:(h1.push (seqObj "list" us.toArray 0)).get? h1.objs.size=ba (seqObj "list" us.toArray 0):=JH _ rfl;have kp2:∀b o,s.heap.get? b=ba o->(h1.push (seqObj "list" us.toArray 0)).get? b=ba o:=λb o e=>Jq _ (kp b o e)
 have hne:∀b o,s.heap.get? b=ba o->b≠h1.objs.size:=λb o e=>JZ (J4 (JO e) hle)
 change wpAny _ _ _ _ _ { s with heap:=h1.push (seqObj "list" us.toArray 0),toks:=tk,drawn:=dr }
 show Jo (KR (KM RW #[_,hoL,rfl] Rz ?_ (RX _)));show mI (s:={ s with heap:=h1.push (seqObj "list" us.toArray 0),toks:=tk,drawn:=dr }) (lt:=kS js) (κ:=tQ ((rG js).getD 0)) hoL ∅ (λh2 h' hk Q hq=>?_) (λh2 h' hk i j hi hj Q hq=>?_) λh' c hk hD=>?_
 ·obtain⟨c,hc⟩:=KF.mp (hsk h2);rw[hc]at hq;exact xY (s:={ s with heap:=h',toks:=tk,drawn:=dr }) (hjs.kept λb o _ e=>hk b o (hne b o e) (kp2 b o e)) h2 hc hq
 ·obtain⟨c,hc⟩:=KF.mp (hsk h2);rw[hc];have hjl:=hjs.length;have hi':i < js.length:=∅
  have hj':j < js.length:=∅
  have g:=(hjs.kept (h':=h') λb o _ e=>hk b o (hne b o e) (kp2 b o e))
  have e1:us.getD i Kz=us[i]:=by simp[hi]
  have e2:us.getD j Kz=us[j]:=by simp[hj]
  rw[e1,e2];have b1:=cy (ks:=js) i hi';have b2:=cy (ks:=js) j hj';exact tU (s:={ s with heap:=h',toks:=tk,drawn:=dr }) (d:=bP) (c:=c) (by rw[aH,aH]; unfold bP; omega) ∅ ∅ (g.get i hi' hi) (g.get j hj' hj) (dE hJ.lt hi' hj') (tV hc (Kd hi') (Kd hj')) hq
 ·show#[_,rfl,Ju #[_,rfl,h _ h' tk dr c (c9 (kS js) Kz us) (λb o e=>hk b o (hne b o e) (kp2 b o e)) hle hD ?_ (dw.trans hP)]]
  rw[<- vJ hN hperm];exact vM hjs
end
section
variable{X:Cx}{J:Jn (Jz×Lr)}{Y:L2.St}{H:Hp}{s:Jt}{A:Jn Jz}{S:aa}
def mQ:∀as:Jn Jz,Vals (as.map V.ref) (as.map Kk)
 | []=>.nil
 | _::as=>.cons rfl (mQ as)
def yh:∀ {ks:Jn T} {as:Jn Jz},RelL X.K A H (T.ws ks) (as.map V.ref)->∀b∈as,∃k∈ks,Rel X.K A H k.w (.ref b)
 | [],[],_,_,h=>nomatch h
 | [],_::_,r,_,_=>nomatch r
 | _::_,[],r,_,_=>nomatch r
 | k::ks,a::as,r,b,h=>by
  cases r with
  | cons r1 r2=>
   rcases JR.mp h with rfl|h
   ·exact#[k,.head _,r1]
   ·obtain⟨k',h1,h2⟩:=yh r2 b h;exact#[k',.tail _ h1,h2]
def yi (I:Inv X J Y H s):∀ {js:Jn T} {us:Jn Jr},IsTs s.heap js us->(∀u∈us,∃k b,u=Kk b/\Rel X.K A H (T.w k) (.ref b))->∃vs,RelL X.K A H (T.ws js) vs/\Vals vs us
 | _,_,.nil,_=>#[[],.nil,.nil]
 | _,_,.cons a b,h=>by
  obtain⟨k,c,rfl,r⟩:=h _ (.head _);obtain⟨vs,h1,h2⟩:=yi I b λu hu=>h u (.tail _ hu)
  have:IsT s.heap k (.ref c):=kP I k r rfl;obtain rfl:=a.inj this;exact#[.ref c::vs,.cons r h1,.cons rfl h2]
def p9 (hh:X.A.handled=gV)(hu:X.A.units+12 < cLine):LCall X (.builtin "sorted") bK:=by
 intro J s Y H A S xs vs us w S' I so rl rv e;unfold bK at e;split at e
 ·rename_i i;obtain⟨a,ea,rfl⟩:=j9 (xs:=[]) rl rv;split at e
  ·rename_i ks hs;split at e
   ·rename_i hb;cases e;unfold DT at hs;split at hs
    ·rename_i us hx;cases hs;obtain⟨o,φ,as,q,⟨hex,es,ep,t,hd,hz,fit,led,pl,he⟩,r⟩:=so.obj i _ a hx ea;have ho:s.heap.get? a=ba o:=(show ObjOk X.prog X.w H s.heap a (.frz o (.ext φ))from I.hok a _ q).1
     have hT:IsTs s.heap ks (es.toList.map (·.2)):=by rw[he]; exact eJ I ks r (mQ as)
     show p8 hh hu ho hex hd hz fit led pl hT hb λD h' tk dr c us hk hD oD hU hP=>?_
     obtain⟨vs,h1,h2⟩:=yi I hU λu hu=>by
      have:=hP.mem_iff.mp hu;rw[he]at this;obtain⟨b,hb,rfl⟩:=JF.mp this;obtain⟨k,_,rk⟩:=yh r b hb;exact#[k,b,rfl,rk]
     have hl:us.length<=sizeLine:=by rw[hP.length_eq,Jp,JP]; exact hz
     exact iQ (u:=.lst vs) I so hk hD #[by rw[L2.Vals.length h2]; exact hl,us,c,h2,oD] λhn=>#[_,aK,h1.mono (cV hn)]
    ·cases hs
   ·cases e
  ·cases e
 ·cases e
def sn (hh:X.A.handled=gV)(hu:X.A.units+12 < cLine):LCall X (.type "set") kX:=by
 intro J s Y H A S xs vs us w S' I so rl rv e;unfold kX at e;split at e
 ·rename_i i;obtain⟨a,ea,rfl⟩:=j9 (xs:=[]) rl rv;split at e
  ·rename_i ws hw;split at e
   ·rename_i ks hs;split at e
    ·rename_i hb;rw[Js]at e;obtain⟨us,hp,e⟩:=e;cases e;have hkk:∀x∈ks,d6 x=true/\x.isTup=true/\x.depth<=aA:=λx hx=>by
      have:=JQ.mp hb x hx;simp only[yd,Jv,JU]at this;exact#[this.1.1,this.1.2,this.2]
     obtain⟨vs',h1,r1⟩:=bo so hw ea;obtain⟨its,rv',p,hzz⟩:=I.list h1;have hws:T.ws ks=ws:=W.ts_w hs;rw[<- hws]at r1;have hT:IsTs s.heap ks its:=eJ I ks r1 rv';obtain⟨res,hplay,hkeys,hled,hpl⟩:=vK hp (!fe X.w);have itm:∀(j:Jx) (u:Jr),its[j]?=ba u->∃k b,ks[j]?=ba k/\u=Kk b/\Rel X.K A H (T.w k) (.ref b):=λj u hj=>by
      have hjl:=(JD.mp hj).1;have hjk:j < ks.length:=by rw[hT.length]; exact hjl
      have hkw:(T.ws ks)[j]?=ba (T.w ks[j]):=by rw[ye,JB,Jy hjk]; rfl
      obtain⟨v,hv,rkv⟩:=r1.get hkw;obtain⟨u',hu',ruv⟩:=L2.Vals.get rv' hv;rw[hj]at hu';cases hu';have ht:=(hkk _ (Kd hjk)).2.1;generalize hk0:ks[j]=k0 at rkv ht;cases k0 with
      | int _=>cases ht
      | str _=>cases ht
      | tup ys=>
       cases rkv with
       | tup q1 q2=>
        obtain rfl:u=Kk _:=ruv;exact#[.tup ys,_,by rw[<- hk0]; exact Jy hjk,rfl,.tup q1 q2]
     show vD (ks:=ks) (res:=res) hh p.isList (by simpa using hT) (λx hx=>#[(hkk x hx).1,(hkk x hx).2.2]) (λj v hj=>?_) (by change _+aA < cLine; rw[aH,aH,aH]; unfold aA; omega) (by rw[pY ks _ λx hx=>(hkk x hx).1]; exact hplay) λh' tk zs ep ho ez hok hz hy hk=>?_
     ·obtain⟨k,b,_,hb,_⟩:=itm j v (by simpa using hj)
      exact#[b,hb]
     ·have ezt:zs.toList.map (λz=>z.2.1)=us:=by
       rw[<- hkeys,<- ez,O1,La]; rfl
      have hsz:res.1.size=zs.size:=by rw[<- ez,Lc]
      show iQ (dr:=s.drawn) (u:=.frz (kO X.w zs ep res.2) (.ext λh=>h.get? s.heap.objs.size=ba (kO X.w zs ep res.2))) I so hk (JA _) #[ho,ho,#[_,ho],λh1 h2 q k=>k _ q] λhn=>#[_,_,zs.toList.map λz=>z.2.2,aK,#[#[rfl,rfl,rfl],zs.map zV,ep,res.2,rfl,?_,?_,hled,?_,?_],?_]
      ·rw[Lc,Ky];simp only[dv,Jv,JU]at hok;have:=hok.2; omega
      ·rw[Lc];simp only[dv,Jv,JU]at hok;exact hok.1.1
      ·rw[Lc,<- hsz]; exact λz=>.inr (hpl z)
      ·rw[O1,La,La]; rfl
      ·rw[<- ezt];have all:∀z∈zs.toList,Rel X.K (A++[s.heap.objs.size]) (bv H s.heap.objs.size (.frz (kO X.w zs ep res.2) (.ext λh=>h.get? s.heap.objs.size=ba (kO X.w zs ep res.2)))) (T.w z.2.1) (.ref z.2.2):=λz hz'=>by
        obtain⟨j,g1,g2⟩:=hy z hz';obtain⟨k,b,g3,g4,g5⟩:=itm j _ (by simpa using g2)
        rw[g1]at g3;cases g3; cases g4
        exact g5.mono (cV hn)
       clear hy ezt;generalize zs.toList=l at all
       induction l with
       | nil=>exact .nil
       | cons z l ih=>exact .cons (all z (.head _)) (ih λy hy=>all y (.tail _ hy))
    ·cases e
   ·cases e
  ·cases e
 ·cases e
def om (hh:X.A.handled=gV):LCall X (.type "tuple") kZ:=by
 intro J s Y H A S xs vs us w S' I so rl rv e;unfold kZ at e;split at e
 ·rename_i i;split at e
  ·rename_i lo hi hr;split at e
   ·rename_i hb;cases e;obtain⟨a,ea,rfl⟩:=j9 (xs:=[]) rl rv;obtain⟨b1,b2,b3,b4,b5⟩:=hb;have hH:H a=ba (.rng lo hi):=by
     unfold xN at hr;split at hr
     ·rename_i hx; cases hr; exact so.obj i _ a hx ea
     ·cases hr
    obtain⟨t,u,v,ho⟩:=I.hok a _ hH;have hn:LK lo hi 1=((hi - lo).toNat:Jx):=by rw[P7]; split <;> omega
    show jq hh ho (Sx b1 b2 b3 b4) hn b5 λh' tk acc hk hle hacc=>?_
    have hv:Vals ((JW (hi - lo).toNat).map λ(k:Jx)=>V.int (lo+(k:JI))) acc.toList:=by
     show nS (by rw[Jp,J9,JP,hacc.1]) λi v u e1 e2=>?_
     rw[JB,Js]at e1;obtain⟨k,e1,rfl⟩:=e1;obtain⟨hk,rfl⟩:=JD.mp e1;obtain⟨t,rfl⟩:=hacc.2 i u (by rw[<- K9]; exact e2)
     exact#[t,by simp]
    have hnn:H h'.objs.size=gV:=I.hok.fresh hle;show#[.ref h'.objs.size,_,A,I.laid (a:=h'.objs.size) (o:=.tup ((JW (hi - lo).toNat).map λ(k:Jx)=>V.int (lo+(k:JI)))) (t':=tk) (λb o e=>Jq _ (hk b o e)) hle #[by simpa using b5,acc.toList,hv,?_],rfl,cF (.inl hnn),so.lay hnn,.tup (.inl (.inl aK)) (nT _)]
    exact#[_,JH _ rfl,rfl,0,by simp]
   ·cases e
  ·exact jK J s Y H A S _ vs us w S' I so rl rv e
 ·exact jK J s Y H A S _ vs us w S' I so rl rv e
def vN (hh:X.A.handled=gV)(hu:X.A.units+12 < cLine):LCall X (.builtin "min") xZ:=by
 intro J s Y H A S xs vs us w S' I so rl rv e;cases rl with
 | nil=>cases e
 | cons r t=>
  cases t with
  | cons _ _=>cases r <;> cases e
  | nil=>
   cases rv with
   | cons ru rv2=>
    cases rv2;cases r with
    | ref ea=>
     dsimp only[xZ]at e;split at e
     ·rename_i ws hw;split at e
      ·rename_i ks hk;split at e
       ·rename_i hc;rw[Js]at e;obtain⟨w',e1,e2⟩:=e;cases e2;obtain⟨vs',h1,r1⟩:=bo so hw ea;obtain⟨its,rv1,p,hz⟩:=I.list h1;obtain rfl:_=Kk _:=ru;have hws:T.ws ks=ws:=W.ts_w hk;have hT:IsTs s.heap ks its:=eJ I ks (hws ▸ r1) rv1;have hl:its.length=ks.length:=hT.length.symm;have hlw:ws.length=ks.length:=by rw[r1.length,L2.Vals.length rv1,hl]
        have hn:0 < ks.length:=by
         have:=(JD.mp e1).1;omega
        show xV (items:=its.toArray) (bt:=kS ks) hh p.isList (by simpa [hl]using hn) (λi j vi vj s' Q E hk' hi hj hq=>?_) λv h' tk hv hk'=>?_
        ·have hi':i < ks.length:=by
          have:=(Lv.mp hi).1
          simpa [hl]using this
         have hj':j < ks.length:=by
          have:=(Lv.mp hj).1
          simpa [hl]using this
         have g:=hT.kept (h':=s'.heap) λb o _ e=>hk' b o e
         have e1:vi=its[i]'∅:=by
          have:=(Lv.mp hi).2
          simpa using this.symm
         have e2:vj=its[j]'∅:=by
          have:=(Lv.mp hj).2
          simpa using this.symm
         subst e1 e2;have b1:=cy (ks:=ks) i hi';have b2:=cy (ks:=ks) j hj';exact FR bP _ _ _ _ X.A.in1 s' _ ∅ ∅ (g.get i hi' ∅) (g.get j hj' ∅) (by rw[aH]; unfold bP; omega) (dE hc.2 hi' hj') X.prog X.w _ _ hq
        ·have hv':its[ip ks]?=ba v:=by
          have:its.toArray.size=ks.length:=by simpa using hl
          rw[this]at hv
          simpa [ip]using hv
         obtain⟨v',q1,q2⟩:=r1.get e1;obtain⟨u',q3,q4⟩:=L2.Vals.get rv1 q1;rw[hv']at q3;cases q3;exact#[v',H,A,I.kept hk',q4,.refl,so,q2]
       ·cases e
      ·cases e
     ·cases e
    | _=>cases e
def mR:∀ {ws:Jn W} {bs:Jn J3},iq ws=ba bs->ws=bs.map W.bl
 | [],bs,h=>by cases h; rfl
 | .bl b::ws,bs,h=>by
  (dsimp only[iq]at h; simp only[Js]at h)
  obtain⟨r,h1,h2⟩:=h;subst h2;rw[mR h1]; rfl
 | .non::_,_,h|.int _::_,_,h|.str _::_,_,h|.tup _::_,_,h|.ref _::_,_,h=>by cases h
def sr {bs:Jn J3}{vs:Jn V}{us:Jn Jr}(r:RelL X.K A H (bs.map W.bl) vs)(rv:Vals vs us):us=bs.map M3:=by
 induction bs generalizing vs us with
 | nil=>cases r; cases rv; rfl
 | cons b bs ih=>
  cases r with
  | cons r1 r2=>
   cases rv with
   | cons v1 v2=>
    cases r1;obtain rfl:_=M3 b:=v1;rw[ih r2 v2]; rfl
def vO (bs:Jn J3):(JW bs.length).all (λi=>bs.getD i false)=bs.all id:=by
 induction bs with
 | nil=>rfl
 | cons b bs ih=>simp[O9,SF,QM]at ih ⊢; rw[ih]
def DU {id:Lf}{fb:Jn J3->J3}{g:Jn W->aa->Jw (W×aa)}(hg:∀xs S,g xs S=match xs with|[.ref i]=>(match fS S i with|some ws=>(iq ws).map λbs=>(.bl (fb bs),S)|none=>gV)|_=>gV)
  (hcall:∀ {s:Jt} {x:Jr} {Q:Jr->Jt->Prop} {E:Jr->Jt->Prop} {bs:Jn J3},wpAny (model X.prog X.w) X.A.in1 (pyIter x) (λit s₂=>∃I fp wr P St,it=.ref I/\Ro X.prog X.w X.A.in1 I fp wr bs.length P St/\St 0 s₂.heap/\TruthOf X.prog X.w X.A.in1 P (λi=>bs.getD i false)/\
   ∀h' tk,(∀b o,b∉wr->s₂.heap.get? b=ba o->h'.get? b=ba o)->Q (.bool (fb bs)) { s₂ with heap:=h',toks:=tk }) E s->wpAny (model X.prog X.w) X.A (call (.builtin id) [x]) Q E s)
  (hh:X.A.handled=gV):LCall X (.builtin id) g:=by
 intro J s Y H A S xs vs us w S' I so rl rv e;rw[hg]at e;cases rl with
 | nil=>cases e
 | cons r t=>
  cases t with
  | cons _ _=>cases r <;> cases e
  | nil=>
   cases rv with
   | cons ru rv2=>
    cases rv2;cases r with
    | @ref ri ad ea=>
     simp only at e;split at e
     ·rename_i ws hw;rw[Js]at e;obtain⟨bs,e1,e2⟩:=e;cases e2;obtain⟨vs',h1,r1⟩:=bo so hw ea;obtain⟨its,rv1,p,hz⟩:=I.list h1;obtain rfl:_=Kk _:=ru;rw[mR e1]at r1;have hits:=sr r1 rv1;show hcall (bs:=bs) ?_;show M1 p.isList ?_;have hlt:ad < s.heap.objs.size:=by obtain⟨_,ho,_⟩:=p.isList; exact JO ho
      have W:=RV (prog:=X.prog) (w:=X.w) (A:=X.A.in1) hh s.heap.objs.size ad (JZ hlt) its.toArray;have hsz:its.toArray.size=bs.length:=by rw[JM,hits,Jp]
      rw[hsz]at W;show#[_,_,_,_,_,rfl,W,#[#[_,JH _ rfl,rfl,rfl],?_],λi v s' Q E hi hq=>?_,λh' tk hk=>?_]
      ·obtain⟨o,ho,hc⟩:=p.isList;exact#[o,Jq _ ho,hc]
      ·have hb:bs[i]?.map M3=ba v:=by rw[<- JB,<- hits]; simpa using hi
       cases q:bs[i]? with
       | none=>rw[q]at hb; cases hb
       | some b=>
        rw[q]at hb;cases hb;have eb:bs.getD i false=b:=by simp[q]
        have hq:Q (bs.getD i false) s':=hq;rw[eb]at hq;exact L4 hq
      ·show#[.bl (fb bs),H,A,I.kept (λb o e=>hk b o (λz=>?_) (Jq _ e)),rfl,.refl,so,.bl]
       have hb:=JO e;rw[JK.mp z]at hb;exact KT _ hb
     ·cases e
    | _=>cases e
def vP (hh:X.A.handled=gV):LCall X (.builtin "all") Bl:=
 DU (fb:=λbs=>bs.all id) (λxs S=>rfl) (λ{s x Q E bs} h=>call_all_walk (LI h (λit s₂ #[I,fp,wr,P,St',a,b,c,d,f]=>#[I,fp,wr,_,P,St',_,a,b,c,d,λh' tk hk=>by rw[vO]; exact f h' tk hk]) λ_ _ e=>e)) hh
end
noncomputable abbrev FA:=Fm->aa->Jw (Jn W×aa)
noncomputable abbrev FT:=Fm->aa->Jw (J3×aa)
inductive Out where
 | nx (Z:Fm)|rt (w:W)|bk (Z:Fm)|ct (Z:Fm)
noncomputable abbrev FS:=Fm->aa->Jw (Out×aa)
section
variable (X:Cx)
inductive tE (f:FE)(Y:L2.St)(H:Hp)(Q:VK):Prop
 | mk (A:Jn Jz) (Z:Fm) (S:aa) (w:W) (S':aa) (er:EnvRel X.K A H Z Y) (so:StoreOk X.w X.K A H S) (e:f Z S=ba (w,S')) (q:∀v H',EndV X.w X.K A H S' w v H'->Q v H'):tE f Y H Q
abbrev EndB (A:Jn Jz)(H:Hp)(S':aa)(k:J3):J3->Hp->Prop:=λb H'=>b=k/\∃A',Ext X.K A H A' H'/\StoreOk X.w X.K A' H' S'
inductive tT (f:FT)(Y:L2.St)(H:Hp)(Q:J3->Hp->Prop):Prop
 | mk (A:Jn Jz) (Z:Fm) (S:aa) (k:J3) (S':aa) (er:EnvRel X.K A H Z Y) (so:StoreOk X.w X.K A H S) (e:f Z S=ba (k,S')) (q:∀b H',EndB X A H S' k b H'->Q b H'):tT f Y H Q
inductive EndA (A:Jn Jz)(H:Hp)(S':aa)(ws:Jn W)(vs:Jn V)(H':Hp):Prop
 | mk (A':Jn Jz) (e:Ext X.K A H A' H') (so:StoreOk X.w X.K A' H' S') (r:RelL X.K A' H' ws vs):EndA A H S' ws vs H'
inductive tA (f:FA)(Y:L2.St)(H:Hp)(Q:Jn V->Hp->Prop):Prop
 | mk (A:Jn Jz) (Z:Fm) (S:aa) (ws:Jn W) (S':aa) (er:EnvRel X.K A H Z Y) (so:StoreOk X.w X.K A H S) (e:f Z S=ba (ws,S')) (q:∀vs H',EndA X A H S' ws vs H'->Q vs H'):tA f Y H Q
inductive EndF (A:Jn Jz)(H:Hp)(o:Out)(S':aa)(c:Fm->Out)(Y':L2.St)(H':Hp):Prop
 | mk (Z':Fm) (A':Jn Jz) (eo:o=c Z') (e:Ext X.K A H A' H') (so:StoreOk X.w X.K A' H' S') (er:EnvRel X.K A' H' Z' Y'):EndF A H o S' c Y' H'
inductive EndR (A:Jn Jz)(H:Hp)(o:Out)(S':aa)(v:V)(H':Hp):Prop
 | mk (w:W) (A':Jn Jz) (eo:o=.rt w) (e:Ext X.K A H A' H') (so:StoreOk X.w X.K A' H' S') (r:Rel X.K A' H' w v):EndR A H o S' v H'
abbrev EndS (A:Jn Jz)(H:Hp)(o:Out)(S':aa):Ends where
 nx:=EndF X A H o S' .nx
 rt:=EndR X A H o S'
 bk:=EndF X A H o S' .bk
 ct:=EndF X A H o S' .ct
structure Imp (E D:Ends):Prop where
 nx:∀Y H,E.nx Y H->D.nx Y H
 rt:∀v H,E.rt v H->D.rt v H
 bk:∀Y H,E.bk Y H->D.bk Y H
 ct:∀Y H,E.ct Y H->D.ct Y H
inductive tS (f:FS)(D:Ends)(Y:L2.St)(H:Hp):Prop
 | mk (A:Jn Jz) (Z:Fm) (S:aa) (o:Out) (S':aa) (er:EnvRel X.K A H Z Y) (so:StoreOk X.w X.K A H S) (e:f Z S=ba (o,S')) (d:Imp (EndS X A H o S') D):tS f D Y H
noncomputable abbrev GE (e:J2)(f:FE):Prop:=PE X e (tE X f)
noncomputable abbrev GT (e:J2)(f:FT):Prop:=PT X e (tT X f)
noncomputable abbrev GW (e:J2)(f:FT):Prop:=PW X e (tT X f)
noncomputable abbrev GA (es:Jn J2)(f:FA):Prop:=PA X es (tA X f)
noncomputable abbrev GS (st:Mx)(f:FS):Prop:=PS X st (tS X f)
noncomputable abbrev GSs (sts:Jn Mx)(f:FS):Prop:=PSs X sts (tS X f)
end
def Imp.trans {E D F:Ends}(a:Imp E D)(b:Imp D F):Imp E F:=#[λ_ _ h=>b.nx _ _ (a.nx _ _ h),λ_ _ h=>b.rt _ _ (a.rt _ _ h),λ_ _ h=>b.bk _ _ (a.bk _ _ h),λ_ _ h=>b.ct _ _ (a.ct _ _ h)]
section
variable{X:Cx}
def GE.of {e:J2}{t:TE}{f:FE}(h:PE X e t)(hf:∀(Y:L2.St) (H:Hp) (A:Jn Jz) (Z:Fm) (S:aa) (w:W) (S':aa),EnvRel X.K A H Z Y->StoreOk X.w X.K A H S->f Z S=ba (w,S')->∀Q:VK,(∀v H',EndV X.w X.K A H S' w v H'->Q v H')->t Y H Q):GE X e f:=
 λJ s Y H Q I #[A,Z,S,w,S',er,so,e1,hq]=>h J s Y H Q I (hf Y H A Z S w S' er so e1 Q hq)
def GT.of {e:J2}{t:TT}{f:FT}(h:PT X e t)(hf:∀(Y:L2.St) (H:Hp) (A:Jn Jz) (Z:Fm) (S:aa) (k:J3) (S':aa),EnvRel X.K A H Z Y->StoreOk X.w X.K A H S->f Z S=ba (k,S')->∀Q:J3->Hp->Prop,(∀b H',EndB X A H S' k b H'->Q b H')->t Y H Q):GT X e f:=
 λJ s Y H Q I #[A,Z,S,w,S',er,so,e1,hq]=>h J s Y H Q I (hf Y H A Z S w S' er so e1 Q hq)
def GW.of {e:J2}{t:TT}{f:FT}(h:PW X e t)(hf:∀(Y:L2.St) (H:Hp) (A:Jn Jz) (Z:Fm) (S:aa) (k:J3) (S':aa),EnvRel X.K A H Z Y->StoreOk X.w X.K A H S->f Z S=ba (k,S')->∀Q:J3->Hp->Prop,(∀b H',EndB X A H S' k b H'->Q b H')->t Y H Q):GW X e f:=
 λwh J s Y H Q I #[A,Z,S,w,S',er,so,e1,hq]=>h wh J s Y H Q I (hf Y H A Z S w S' er so e1 Q hq)
def GA.of {es:Jn J2}{t:TA}{f:FA}(h:PA X es t)(hf:∀(Y:L2.St) (H:Hp) (A:Jn Jz) (Z:Fm) (S:aa) (ws:Jn W) (S':aa),EnvRel X.K A H Z Y->StoreOk X.w X.K A H S->f Z S=ba (ws,S')->∀Q:Jn V->Hp->Prop,(∀vs H',EndA X A H S' ws vs H'->Q vs H')->t Y H Q):GA X es f:=
 λpos J s Y H Q I #[A,Z,S,w,S',er,so,e1,hq]=>h pos J s Y H Q I (hf Y H A Z S w S' er so e1 Q hq)
def GS.of {st:Mx}{t:TS}{f:FS}(h:PS X st t)(hf:∀(Y:L2.St) (H:Hp) (A:Jn Jz) (Z:Fm) (S:aa) (o:Out) (S':aa),EnvRel X.K A H Z Y->StoreOk X.w X.K A H S->f Z S=ba (o,S')->∀D:Ends,Imp (EndS X A H o S') D->t D Y H):GS X st f:=
 λJ s Y H D I #[A,Z,S,o,S',er,so,e1,hq]=>h J s Y H D I (hf Y H A Z S o S' er so e1 D hq)
def GSs.of {st:Jn Mx}{t:TS}{f:FS}(h:PSs X st t)(hf:∀(Y:L2.St) (H:Hp) (A:Jn Jz) (Z:Fm) (S:aa) (o:Out) (S':aa),EnvRel X.K A H Z Y->StoreOk X.w X.K A H S->f Z S=ba (o,S')->∀D:Ends,Imp (EndS X A H o S') D->t D Y H):GSs X st f:=
 λJ s Y H D I #[A,Z,S,o,S',er,so,e1,hq]=>h J s Y H D I (hf Y H A Z S o S' er so e1 D hq)
def EndV.after {A A1:Jn Jz}{H H1:Hp}{S':aa}{w:W}{v:V}{H':Hp}(e:Ext X.K A H A1 H1)(h:EndV X.w X.K A1 H1 S' w v H'):EndV X.w X.K A H S' w v H':=by
 obtain⟨A',x,y,z⟩:=h;exact#[A',e.trans x,y,z]
def EndB.after {A A1:Jn Jz}{H H1:Hp}{S':aa}{k b:J3}{H':Hp}(e:Ext X.K A H A1 H1)(h:EndB X A1 H1 S' k b H'):EndB X A H S' k b H':=by
 obtain⟨h1,A',x,y⟩:=h;exact#[h1,A',e.trans x,y]
def EndS.after {A A1:Jn Jz}{H H1:Hp}{S':aa}{o:Out}(e:Ext X.K A H A1 H1):Imp (EndS X A1 H1 o S') (EndS X A H o S'):=
 #[λ_ _ #[Z',A',a,b,c,d]=>#[Z',A',a,e.trans b,c,d],λ_ _ #[Z',A',a,b,c,d]=>#[Z',A',a,e.trans b,c,d],λ_ _ #[Z',A',a,b,c,d]=>#[Z',A',a,e.trans b,c,d],λ_ _ #[Z',A',a,b,c,d]=>#[Z',A',a,e.trans b,c,d]]
abbrev fC (w:W):FE:=λ_ S=>ba (w,S)
abbrev fV (i:Jx):FE:=λZ S=>match Z[i]? with
 | some (ba w)=>ba (w,S)
 | _=>gV
def qa {e:J2}{v:V}{w:W}(h:PE X e (tC v))(r:∀A H,Rel X.K A H w v):GE X e (fC w):=
 GE.of h λY H A Z S w' S' er so e Q hq=>by cases e; exact hq _ _ (.here so (r A H))
def HX {i:Jx}{e:J2}(h:PE X e (Da i)):GE X e (fV i):=GE.of h λY H A Z S w S' er so e Q hq=>by
 unfold fV at e;split at e
 ·rename_i w' hw;cases e;obtain⟨v,h1,h2⟩:=er.2 i _ hw;exact#[v,h1,hq _ _ (.here so h2)]
 ·cases e
abbrev Bn (g:W->W->aa->Jw (W×aa))(fa fb:FE):FE:=λZ S=>match fa Z S with
 | some (x,S1)=>match fb Z S1 with
  | some (y,S2)=>g x y S2
  | none=>gV
 | none=>gV
def Hf {fa fb:FE}{g:W->W->aa->Jw (W×aa)}{Z:Fm}{S:aa}{r:W×aa}(e:Bn g fa fb Z S=ba r):∃x S1 y S2,fa Z S=ba (x,S1)/\fb Z S1=ba (y,S2)/\g x y S2=ba r:=by
 unfold Bn at e;split at e
 ·rename_i x S1 h1;split at e
  ·rename_i y S2 h2;exact#[x,S1,y,S2,h1,h2,e]
  ·cases e
 ·cases e
def iX {fa fb:FE}{Z:Fm}{S S1 S2:aa}{x y:W}{Y:L2.St}{H:Hp}{A:Jn Jz}{R:V->V->Hp->Prop}(er:EnvRel X.K A H Z Y)(so:StoreOk X.w X.K A H S)(h1:fa Z S=ba (x,S1))(h2:fb Z S1=ba (y,S2))
  (h:∀a b H2 A2,Ext X.K A H A2 H2->StoreOk X.w X.K A2 H2 S2->Rel X.K A2 H2 x a->Rel X.K A2 H2 y b->R a b H2):tE X fa Y H λa H1=>tE X fb Y H1 λb H2=>R a b H2:=by
 show#[A,Z,S,x,S1,er,so,h1,λa H1 #[A1,e1,o1,r1]=>?_]
 show#[A1,Z,S1,y,S2,er.mono e1,o1,h2,λb H2 #[A2,e2,o2,r2]=>?_]
 exact h a b H2 A2 (e1.trans e2) o2 (r1.mono e2) r2
inductive rOp (X:Cx)(g:W->W->aa->Jw (W×aa))(a b:V)(H:Hp)(Q:VK):Prop
 | mk (A:Jn Jz) (S:aa) (x y w:W) (S':aa) (so:StoreOk X.w X.K A H S) (rx:Rel X.K A H x a) (ry:Rel X.K A H y b) (e:g x y S=ba (w,S')) (q:∀v H',EndV X.w X.K A H S' w v H'->Q v H'):rOp X g a b H Q
inductive rCall (X:Cx)(g:Jn W->aa->Jw (W×aa))(vs:Jn V)(H:Hp)(Q:VK):Prop
 | mk (A:Jn Jz) (S:aa) (ws:Jn W) (w:W) (S':aa) (so:StoreOk X.w X.K A H S) (rl:RelL X.K A H ws vs) (e:g ws S=ba (w,S')) (q:∀v H',EndV X.w X.K A H S' w v H'->Q v H'):rCall X g vs H Q
def LOp.opr {f:Jr->Jr->Tb Jr}{g:W->W->aa->Jw (W×aa)}(h:LOp X f g):OpR X f (rOp X g):=by
 intro J s Y H a b u v Q I ru rv ⟨A,S,x,y,w,S',so,rx,ry,e,hq⟩;exact bx (h J s Y H A S x y a b u v w S' I so rx ru ry rv e) λu' s' #[v',H',A',I',r',e1,o1,z1]=>#[v',H',I',r',hq v' H' #[A',e1,o1,z1]]
def CF {a b:J2}{op:Qv}{pos:Mk}{fa fb:FE}{g:W->W->aa->Jw (W×aa)}(ho:LOp X (binaryOp op) g)(ha:GE X a fa)(hb:GE X b fb):GE X (.BinOp a op b pos) (Bn g fa fb):=
 GE.of (Fo ho.opr ha hb) λY H A Z S w S' er so e Q hq=>by
  obtain⟨x,S1,y,S2,h1,h2,h3⟩:=Hf e;exact iX er so h1 h2 λa b H2 A2 e2 o2 r1 r2=>#[A2,S2,x,y,w,S',o2,r1,r2,h3,λv H' z=>hq v H' (z.after e2)]
abbrev yj (fa:FE):FE:=λZ S=>match fa Z S with
 | some (.int i,S1)=>ba (.int (-i),S1)
 | _=>gV
def yk {a:J2}{pos:Mk}{fa:FE}(ha:GE X a fa):GE X (.UnaryOp .USub a pos) (yj fa):=
 GE.of (Fp DB ha) λY H A Z S w S' er so e Q hq=>by
  unfold yj at e;split at e
  ·rename_i i S1 h1;cases e;show#[A,Z,S,_,_,er,so,h1,λv H1 #[A1,e1,o1,r1]=>?_]
   cases r1;exact#[_,rfl,hq _ _ #[A1,e1,o1,.int]]
  ·cases e
abbrev Bo (o:COp)(fa fb:FE):FE:=Bn (aZ o) fa fb
def DV {a b:J2}{o:COp}{pos:Mk}{fa fb:FE}(hu:X.A.units+ii < cLine)(ha:GE X a fa)(hb:GE X b fb)(hm:behindInMarks o.py b=false):GE X (.Compare a [o.py] [b] pos) (Bo o fa fb):=
 GE.of (AD (pO hu o).opr ha hb hm) λY H A Z S w S' er so e Q hq=>by
  obtain⟨x,S1,y,S2,h1,h2,h3⟩:=Hf e;exact iX er so h1 h2 λa b H2 A2 e2 o2 r1 r2=>#[A2,S2,x,y,w,S',o2,r1,r2,h3,λv H' z=>hq v H' (z.after e2)]
abbrev ym (f:FE):FT:=λZ S=>match f Z S with
 | some (.bl k,S')=>ba (k,S')
 | _=>gV
def DW {a b:J2}{o:COp}{pos:Mk}{fa fb:FE}(hu:X.A.units+ii < cLine)(ha:GE X a fa)(hb:GE X b fb)(hm:behindInMarks o.py b=false):GT X (.Compare a [o.py] [b] pos) (ym (Bo o fa fb)):=
 GT.of (AE (pO hu o).opr ha hb hm) λY H A Z S k S' er so e Q hq=>by
  unfold ym at e;split at e
  ·rename_i k' S'' h0;cases e;obtain⟨x,S1,y,S2,h1,h2,h3⟩:=Hf h0;show iX er so h1 h2 λa b H2 A2 e2 o2 r1 r2=>#[A2,S2,x,y,_,_,o2,r1,r2,h3,λv H' #[A',z1,z2,z3]=>?_]
   cases z3;exact#[k,rfl,hq _ _ #[rfl,A',e2.trans z1,z2]]
  ·cases e
abbrev gU (f:FE):FT:=λZ S=>match f Z S with
 | some (w,S')=>(io S' w).map λk=>(k,S')
 | none=>gV
def cL {e:J2}{f:FE}(h:GE X e f)(he:∀whole,isTrue e X.env whole=(do let v <- whole; standAt e.pos; holding [v] (truthy v))):GT X e (gU f):=by
 intro J s Y H Q I ⟨A,Z,S,k,S',er,so,e1,hq⟩;unfold gU at e1;split at e1
 ·rename_i w S1 h1;rw[Js]at e1;obtain⟨k',ek,e2⟩:=e1;cases e2;show isTrue_plain (bx (h J s Y H (EndV X.w X.K A H _ w) I #[A,Z,S,w,_,er,so,h1,λ_ _ z=>z]) λv s1 #[x,H1,I1,r1,A1,e1,o1,z1]=>?_) (he _)
  exact HV I1 o1 z1 r1 ek λs' I'=>#[H1,I',hq _ _ #[rfl,A1,e1,o1]]
 ·cases e1
abbrev yn (f g:FT):FT:=λZ S=>match f Z S with
 | some (true,S1)=>g Z S1
 | some (false,S1)=>ba (false,S1)
 | none=>gV
abbrev FU (f g:FT):FT:=λZ S=>match f Z S with
 | some (true,S1)=>ba (true,S1)
 | some (false,S1)=>g Z S1
 | none=>gV
abbrev Bp (f:FT):FT:=λZ S=>match f Z S with
 | some (k,S1)=>ba (!k,S1)
 | none=>gV
def yo {f g:FT}{Y:L2.St}{H:Hp}{A:Jn Jz}{Z:Fm}{S:aa}{k:J3}{S':aa}(er:EnvRel X.K A H Z Y)(so:StoreOk X.w X.K A H S)(e:yn f g Z S=ba (k,S'))(Q:J3->Hp->Prop)(hq:∀b H',EndB X A H S' k b H'->Q b H') :
  E9 (tT X f) (tT X g) Y H Q:=by
 unfold yn at e;split at e
 ·rename_i S1 h1;show#[A,Z,S,true,S1,er,so,h1,λb H1 #[z0,A1,z1,z2]=>?_]
  subst z0;rw[JX rfl];exact#[A1,Z,S1,k,S',er.mono z1,z2,e,λb H' q=>hq b H' (q.after z1)]
 ·rename_i S1 h1;cases e;show#[A,Z,S,false,_,er,so,h1,λb H1 #[z0,A1,z1,z2]=>?_]
  subst z0;rw[J8 J1];exact hq _ _ #[rfl,A1,z1,z2]
 ·cases e
def Bq {f g:FT}{Y:L2.St}{H:Hp}{A:Jn Jz}{Z:Fm}{S:aa}{k:J3}{S':aa}(er:EnvRel X.K A H Z Y)(so:StoreOk X.w X.K A H S)(e:FU f g Z S=ba (k,S'))(Q:J3->Hp->Prop)(hq:∀b H',EndB X A H S' k b H'->Q b H') :
  IP (tT X f) (tT X g) Y H Q:=by
 unfold FU at e;split at e
 ·rename_i S1 h1;cases e;show#[A,Z,S,true,_,er,so,h1,λb H1 #[z0,A1,z1,z2]=>?_]
  subst z0;rw[JX rfl];exact hq _ _ #[rfl,A1,z1,z2]
 ·rename_i S1 h1;show#[A,Z,S,false,S1,er,so,h1,λb H1 #[z0,A1,z1,z2]=>?_]
  subst z0;rw[J8 J1];exact#[A1,Z,S1,k,S',er.mono z1,z2,e,λb H' q=>hq b H' (q.after z1)]
 ·cases e
def Br {a:J2}{pos:Mk}{f:FT}(h:GT X a f):GW X (.BoolOp .And [a] pos) f:=Av h
def DX {a:J2}{pos:Mk}{f:FT}(h:GT X a f):GW X (.BoolOp .Or [a] pos) f:=Db h
def DY {a b:J2}{r:Jn J2}{pos:Mk}{f g:FT}(h:GT X a f)(h2:GW X (.BoolOp .And (b::r) pos) g):GW X (.BoolOp .And (a::b::r) pos) (yn f g):=
 GW.of (Dc h h2) λY H A Z S k S' er so e Q hq=>yo er so e Q hq
def FV {a b:J2}{r:Jn J2}{pos:Mk}{f g:FT}(h:GT X a f)(h2:GW X (.BoolOp .Or (b::r) pos) g):GW X (.BoolOp .Or (a::b::r) pos) (FU f g):=
 GW.of (Fa h h2) λY H A Z S k S' er so e Q hq=>Bq er so e Q hq
def DZ {a:J2}{pos:Mk}{f:FT}(h:GT X a f):GT X (.UnaryOp .Not a pos) (Bp f):=
 GT.of (De h) λY H A Z S k S' er so e Q hq=>by
  unfold Bp at e;split at e
  ·rename_i k1 S1 h1;cases e;show#[A,Z,S,k1,_,er,so,h1,λb H1 #[z0,A1,z1,z2]=>?_]
   subst z0;exact hq _ _ #[rfl,A1,z1,z2]
  ·cases e
abbrev tZ (f g:FE):FE:=λZ S=>match f Z S with
 | some (.bl true,S1)=>g Z S1
 | some (.bl false,S1)=>ba (.bl false,S1)
 | _=>gV
abbrev Bs (f g:FE):FE:=λZ S=>match f Z S with
 | some (.bl true,S1)=>ba (.bl true,S1)
 | some (.bl false,S1)=>g Z S1
 | _=>gV
abbrev t4 (f:FE):FE:=λZ S=>match f Z S with
 | some (.bl k,S1)=>ba (.bl (!k),S1)
 | _=>gV
def D0 {a:J2}{op:Ts}{pos:Mk}{f:FE}(h:GE X a f):GE X (.BoolOp op [a] pos) f:=Dg h
def D1 {a b:J2}{r:Jn J2}{pos:Mk}{f g:FE}(h:GE X a f)(h2:GE X (.BoolOp .And (b::r) pos) g):GE X (.BoolOp .And (a::b::r) pos) (tZ f g):=
 GE.of (Dh h h2) λY H A Z S w S' er so e Q hq=>by
  unfold tZ at e;split at e
  ·rename_i S1 h1;show#[A,Z,S,_,S1,er,so,h1,λv H1 #[A1,z1,z2,z3]=>?_]
   cases z3;show#[true,rfl,?_];rw[JX rfl];exact#[A1,Z,S1,w,S',er.mono z1,z2,e,λb H' q=>hq b H' (q.after z1)]
  ·rename_i S1 h1;cases e;show#[A,Z,S,_,_,er,so,h1,λv H1 #[A1,z1,z2,z3]=>?_]
   cases z3;show#[false,rfl,?_];rw[J8 J1];exact hq _ _ #[A1,z1,z2,.bl]
  ·cases e
def FW {a b:J2}{r:Jn J2}{pos:Mk}{f g:FE}(h:GE X a f)(h2:GE X (.BoolOp .Or (b::r) pos) g):GE X (.BoolOp .Or (a::b::r) pos) (Bs f g):=
 GE.of (Fd h h2) λY H A Z S w S' er so e Q hq=>by
  unfold Bs at e;split at e
  ·rename_i S1 h1;cases e;show#[A,Z,S,_,_,er,so,h1,λv H1 #[A1,z1,z2,z3]=>?_]
   cases z3;show#[true,rfl,?_];rw[JX rfl];exact hq _ _ #[A1,z1,z2,.bl]
  ·rename_i S1 h1;show#[A,Z,S,_,S1,er,so,h1,λv H1 #[A1,z1,z2,z3]=>?_]
   cases z3;show#[false,rfl,?_];rw[J8 J1];exact#[A1,Z,S1,w,S',er.mono z1,z2,e,λb H' q=>hq b H' (q.after z1)]
  ·cases e
def D2 {a:J2}{pos:Mk}{f:FE}(h:GE X a f):GE X (.UnaryOp .Not a pos) (t4 f):=
 GE.of (Di h) λY H A Z S w S' er so e Q hq=>by
  unfold t4 at e;split at e
  ·rename_i k1 S1 h1;cases e;show#[A,Z,S,_,_,er,so,h1,λb H1 #[A1,z1,z2,z3]=>?_]
   cases z3;exact#[_,rfl,hq _ _ #[A1,z1,z2,.bl]]
  ·cases e
abbrev iY:FA:=λ_ S=>ba ([],S)
abbrev dJ (f:FE)(g:FA):FA:=λZ S=>match f Z S with
 | some (w,S1)=>match g Z S1 with
  | some (ws,S2)=>ba (w::ws,S2)
  | none=>gV
 | none=>gV
def D3:GA X [] iY:=GA.of xi λY H A Z S ws S' er so e Q hq=>by cases e; exact hq _ _ #[A,.refl,so,.nil]
def Bt {e:J2}{es:Jn J2}{f:FE}{g:FA}(h:GE X e f)(h2:GA X es g)(hs:starEach (e::es) X.env=(false,eval e X.env)::starEach es X.env):GA X (e::es) (dJ f g):=
 GA.of (nE h h2 hs) λY H A Z S ws S' er so e Q hq=>by
  unfold dJ at e;split at e
  ·rename_i w S1 h1;split at e
   ·rename_i ws2 S2 h2;cases e;show#[A,Z,S,w,S1,er,so,h1,λv H1 #[A1,z1,z2,z3]=>?_]
    show#[A1,Z,S1,ws2,_,er.mono z1,z2,h2,λvs H2 #[A2,y1,y2,y3]=>?_]
    exact hq _ _ #[A2,z1.trans y1,y2,.cons (z3.mono y1) y3]
   ·cases e
  ·cases e
abbrev yp (f:FA):FE:=λZ S=>match f Z S with
 | some (ws,S1)=>rT S1 ws
 | none=>gV
abbrev yq (f:FA):FE:=λZ S=>match f Z S with
 | some (ws,S1)=>lY S1 ws
 | none=>gV
def yr {es:Jn J2}{k:Jx}{pos:Mk}{f:FA}(h:GA X es f):GE X (.Tuple es k pos) (yp f):=
 GE.of (DE h) λY H A Z S w S' er so e Q hq=>by
  unfold yp at e;split at e
  ·rename_i ws S1 h1;obtain⟨hl,rfl,rfl⟩:=tm e;show#[A,Z,S,ws,_,er,so,h1,λvs H1 #[A1,z1,z2,z3]=>#[by rw[<- z3.length]; exact hl,λp hp=>?_]]
   exact hq _ _ (EndV.after z1 (.tup z2 z3 hp))
  ·cases e
def yt {es:Jn J2}{pos:Mk}{f:FA}(h:GA X es f):GE X (.List es pos) (yq f):=
 GE.of (DF h) λY H A Z S w S' er so e Q hq=>by
  unfold yq at e;split at e
  ·rename_i ws S1 h1;obtain⟨hl,rfl,rfl⟩:=j8 e;show#[A,Z,S,ws,_,er,so,h1,λvs H1 #[A1,z1,z2,z3]=>#[by rw[<- z3.length]; exact hl,λp hp=>?_]]
   exact hq _ _ (EndV.after z1 (.lst z2 z3 hp))
  ·cases e
abbrev jR (g:Jn W->aa->Jw (W×aa))(f:FA):FE:=λZ S=>match f Z S with
 | some (ws,S1)=>g ws S1
 | none=>gV
def LCall.callr {v:Jr}{g:Jn W->aa->Jw (W×aa)}(h:LCall X v g):CallR X v (rCall X g):=by
 intro J s Y H vs us Q I rv ⟨A,S,ws,w,S',so,rl,e,hq⟩;exact bx (h J s Y H A S ws vs us w S' I so rl rv e) λu' s' #[v',H',A',I',r',e1,o1,z1]=>#[v',H',I',r',hq v' H' #[A',e1,o1,z1]]
def mS {g:Jn W->aa->Jw (W×aa)}{f:FA}{Y:L2.St}{H:Hp}{A:Jn Jz}{Z:Fm}{S:aa}{w:W}{S':aa}(er:EnvRel X.K A H Z Y)(so:StoreOk X.w X.K A H S)(e:jR g f Z S=ba (w,S'))(Q:VK)(hq:∀v H',EndV X.w X.K A H S' w v H'->Q v H') :
  tA X f Y H λvs H1=>rCall X g vs H1 Q:=by
 unfold jR at e;split at e
 ·rename_i ws S1 h1;exact#[A,Z,S,ws,S1,er,so,h1,λvs H1 #[A1,z1,z2,z3]=>#[A1,S1,ws,w,S',z2,z3,e,λv H' q=>hq v H' (q.after z1)]]
 ·cases e
def t8 {id:Lf}{x:JS}{e:J2}{es:Jn J2}{p pos:Mk}{f:FA}{g:Jn W->aa->Jw (W×aa)}(hc:LCall X (.builtin id) g)(hg:Gl X x)(hm:X.mg x=gV)(hv:bootBuiltins x=ba (.builtin id))(ha:GA X (e::es) f)
  (hn:x≠"__name__") (hdb:(x==("__debug__" : JS))=false) (hs:starEach (e::es) X.env=(false,eval e X.env)::starEach es X.env) (hpl:(backTo pos (starEach es X.env)).any (·.1)=false):GE X (.Call (.Name x p) (e::es) [] pos) (jR g f):=
 GE.of (pc hc.callr hg hm hv ha hn hdb hs hpl) λY H A Z S w S' er so e Q hq=>mS er so e Q hq
def qb {id:Lf}{x:JS}{e:J2}{es:Jn J2}{p pos:Mk}{f:FA}{g:Jn W->aa->Jw (W×aa)}(hc:LCall X (.type id) g)(hg:Gl X x)(hm:X.mg x=gV)(hv:bootBuiltins x=ba (.type id))(ha:GA X (e::es) f)
  (hn:x≠"__name__") (hdb:(x==("__debug__" : JS))=false) (hs:starEach (e::es) X.env=(false,eval e X.env)::starEach es X.env) (hpl:(backTo pos (starEach es X.env)).any (·.1)=false):GE X (.Call (.Name x p) (e::es) [] pos) (jR g f):=
 GE.of (vc hc.callr hg hm hv ha hn hdb hs hpl) λY H A Z S w S' er so e Q hq=>mS er so e Q hq
end
abbrev tyOk (T:Lf)(S:aa):W->J3
 | .str _=>T == "str"
 | .ref i=>(T == "list" && (fS S i).isSome)||(T == "dict" && (jN S i).isSome)
 | _=>false
abbrev E2 (T:Lf)(g:W->Jn W->aa->Jw (W×aa))(fo:FE)(f:FA):FE:=λZ S=>match fo Z S with
 | some (x,S1)=>if tyOk T S1 x then match f Z S1 with
  | some (ws,S2)=>g x ws S2
  | none=>gV
  else gV
 | none=>gV
abbrev HY (fa fb:FE):FE:=Bn o7 fa fb
noncomputable abbrev FO:=Fm->aa->Jw (Jw JI×aa)
abbrev D4:FO:=λ_ S=>ba (gV,S)
abbrev t9 (f:FE):FO:=λZ S=>match f Z S with
 | some (.int i,S1)=>ba (ba i,S1)
 | _=>gV
abbrev FX (fa:FE)(fl fh:FO):FE:=λZ S=>match fa Z S with
 | some (x,S1)=>match fl Z S1 with
  | some (lo,S2)=>match fh Z S2 with
   | some (hi,S3)=>ph x lo hi S3
   | none=>gV
  | none=>gV
 | none=>gV
section
variable{X:Cx}
inductive rMeth (X:Cx)(g:W->Jn W->aa->Jw (W×aa))(a:V)(vs:Jn V)(H:Hp)(Q:VK):Prop
 | mk (A:Jn Jz) (S:aa) (x:W) (ws:Jn W) (w:W) (S':aa) (so:StoreOk X.w X.K A H S) (rx:Rel X.K A H x a) (rl:RelL X.K A H ws vs) (e:g x ws S=ba (w,S')) (q:∀v H',EndV X.w X.K A H S' w v H'->Q v H'):rMeth X g a vs H Q
def tyOk.is {J:Jn (Jz×Lr)}{Y:L2.St}{s:Jt}{A:Jn Jz}{H:Hp}{S:aa}{T:Lf}{x:W}{a:V}{v:Jr}(I:Inv X J Y H s)(so:StoreOk X.w X.K A H S)(r:Rel X.K A H x a)(rv:RelV a v)(h:tyOk T S x=true) :
  s.TypeIs v T/\∀b,v=.ref b->∃ob,s.heap.get? b=ba ob/\ob.dict=gV:=by
 cases r with
 | str=>exact xr I rv (show HQ X.K T (.str _) H from eq_of_beq h)
 | ref ea=>
  simp only[tyOk,Lk,Jv]at h;rcases h with⟨h1,h2⟩|⟨h1,h2⟩
  ·obtain⟨xs,hx⟩:=KF.mp h2;obtain⟨vs,h3,_⟩:=bo so hx ea;exact xr I rv (show HQ X.K T (.ref _) H from .inl #[eq_of_beq h1,vs,h3])
  ·obtain⟨U,hx⟩:=KF.mp h2;obtain⟨xs,rd,_⟩:=fW so hx ea;obtain⟨_,_,_,o,es,ep,q1,q2,q3,q4⟩:=cH I rd;have e:=eq_of_beq h1;subst e;obtain rfl:v=Kk _:=rv;exact#[#[o,q1,q2.1],λb e=>by cases e; exact#[o,q1,q2.2.1]]
 | _=>cases h
def qc {o e:J2}{es:Jn J2}{name:JS}{apos cpos:Mk}{T id:Lf}{g:W->Jn W->aa->Jw (W×aa)}{fo:FE}{f:FA}(pa:PlainAttrs T)(slot:Slot T name id)(hty:typeOf (.builtin id)=pure (.type "method_descriptor"))(hm:mC X id g)
  (ho:GE X o fo) (ha:GA X (e::es) f) (hbase:attributeBase o name X.env (eval o X.env)=eval o X.env)
  (hfew:((backTo cpos (starEach (e::es) X.env)).all (λx=>!x.1)&&(backToKw cpos (keywordEach [] X.env)).all (λx=>x.1.isSome)
   && decide ((e::es).length+([]:Jn RD).length+(if ([]:Jn RD).isEmpty then 0 else 1) < 30))=true)
  (hline:(apos.endLine==cpos.line)=true) (hs:starEach (e::es) X.env=(false,eval e X.env)::starEach es X.env) (hplain:(backTo cpos (starEach es X.env)).any (·.1)=false) :
  GE X (.Call (.Attribute o name apos) (e::es) [] cpos) (E2 T g fo f):=by
 intro J s Y H Q I ⟨A,Z,S,w,S',er,so,e,hq⟩;unfold E2 at e;split at e
 ·rename_i x S1 h1;split at e
  ·rename_i ht;split at e
   ·rename_i ws S2 h2;show wpAny_Call_method_late hbase hfew hline rfl (bx (ho J s Y H (EndV X.w X.K A H S1 x) I #[A,Z,S,_,_,er,so,h1,λ_ _ z=>z]) λv s1 #[a,H1,I1,r1,A1,e1,o1,z1]=>?_)
    obtain⟨t1,t2⟩:=tyOk.is I1 o1 z1 r1 ht;show#[T,id,pa,slot,hty,t1,t2,?_];have hA:=ha cpos J s1 Y H1 (EndA X A1 H1 S2 ws) I1 #[A1,Z,S1,ws,S2,er.mono e1,o1,h2,λ_ _ z=>z]
    rw[hs]at hA ⊢;show Calls.callWith_builtin (by show(false||(backTo cpos (starEach es X.env)).any (·.1))=false; rw[hplain] <;> rfl) (Calls.evalArgs_plain ?_)
    show bx hA λus s2 #[vs,H2,I2,r2,A2,e2,o2,z2]=>?_
    show bx (hm J s2 Y H2 A2 S2 x a v ws vs us w S' I2 o2 (z1.mono e2) r1 z2 r2 e) λu' s' #[v',H',A',I',r',e3,o3,z3]=>?_
    exact#[v',H',I',r',hq v' H' #[A',(e1.trans e2).trans e3,o3,z3]]
   ·cases e
  ·cases e
 ·cases e
def LIx.ixr {g:W->W->aa->Jw (W×aa)}(h:LIx X g):IxR X (rOp X g):=by
 intro value slice J s Y H a b u v Q I ru rv ⟨A,S,x,y,w,S',so,rx,ry,e,hq⟩ hs;exact bx (h value slice J s Y H A S x y a b u v w S' I so rx ru ry rv e hs) λu' s' #[v',H',A',I',r',e1,o1,z1]=>#[v',H',I',r',hq v' H' #[A',e1,o1,z1]]
def FY {a b:J2}{pos:Mk}{fa fb:FE}(hu:X.A.units+10 < cLine)(ha:GE X a fa)(hb:GE X b fb)(hs:nH b):GE X (.Subscript a b pos) (HY fa fb):=
 GE.of (FD (HW hu).ixr ha hb hs) λY H A Z S w S' er so e Q hq=>by
  obtain⟨x,S1,y,S2,h1,h2,h3⟩:=Hf e;exact iX er so h1 h2 λa b H2 A2 e2 o2 r1 r2=>#[A2,S2,x,y,w,S',o2,r1,r2,h3,λv H' z=>hq v H' (z.after e2)]
inductive tO (X:Cx)(f:FO)(Y:L2.St)(H:Hp)(Q:Jw JI->Hp->Prop):Prop
 | mk (A:Jn Jz) (Z:Fm) (S:aa) (k:Jw JI) (S':aa) (er:EnvRel X.K A H Z Y) (so:StoreOk X.w X.K A H S) (e:f Z S=ba (k,S')) (q:∀H' A',Ext X.K A H A' H'->StoreOk X.w X.K A' H' S'->Q k H'):tO X f Y H Q
noncomputable abbrev GO (X:Cx)(e:Jw J2)(f:FO):Prop:=PO X e (tO X f)
def Bu:GO X gV D4:=λJ s Y H Q I #[A,Z,S,k,S',er,so,e,hq]=>by
 cases e;exact AI J s Y H Q I (hq H A .refl so)
def Bv {e:J2}{f:FE}(h:GE X e f):GO X (ba e) (t9 f):=λJ s Y H Q I #[A,Z,S,k,S',er,so,e,hq]=>by
 unfold t9 at e;split at e
 ·rename_i i S1 h1;cases e;show AJ h J s Y H Q I #[A,Z,S,_,_,er,so,h1,λv H1 #[A1,z1,z2,z3]=>?_]
  cases z3;exact#[i,rfl,hq H1 A1 z1 z2]
 ·cases e
inductive rSl (X:Cx)(g:W->Jw JI->Jw JI->aa->Jw (W×aa))(a:V)(lo hi:Jw JI)(H:Hp)(Q:VK):Prop
 | mk (A:Jn Jz) (S:aa) (x w:W) (S':aa) (so:StoreOk X.w X.K A H S) (rx:Rel X.K A H x a) (e:g x lo hi S=ba (w,S')) (q:∀v H',EndV X.w X.K A H S' w v H'->Q v H'):rSl X g a lo hi H Q
def LSl.slr {g:W->Jw JI->Jw JI->aa->Jw (W×aa)}(h:LSl X g):FC X (rSl X g):=by
 intro J s Y H a v vl vu lo hi sl Q I rv hs pl pu ⟨A,S,x,w,S',so,rx,e,hq⟩;obtain⟨T,id,h1,h2,h3⟩:=h J s Y H A S x a v vl vu lo hi sl w S' I so rx rv hs pl pu e;exact#[T,id,h1,h2,bx h3 λu' s' #[v',H',A',I',r',e1,o1,z1]=>#[v',H',I',r',hq v' H' #[A',e1,o1,z1]]]
def FZ {a:J2}{lo hi:Jw J2}{p2 pos:Mk}{fa:FE}{fl fh:FO}(ha:GE X a fa)(hl:GO X lo fl)(hh:GO X hi fh):GE X (.Subscript a (.Slice lo hi gV p2) pos) (FX fa fl fh):=
 GE.of (xo Jh.slr ha hl hh) λY H A Z S w S' er so e Q hq=>by
  unfold FX at e;split at e
  ·rename_i x S1 h1;split at e
   ·rename_i l S2 h2;split at e
    ·rename_i h S3 h3;show#[A,Z,S,x,S1,er,so,h1,λv H1 #[A1,z1,z2,z3]=>?_]
     show#[A1,Z,S1,l,S2,er.mono z1,z2,h2,λH2 A2 y1 y2=>?_]
     show#[A2,Z,S2,h,S3,er.mono (z1.trans y1),y2,h3,λH3 A3 x1 x2=>?_]
     exact#[A3,S3,x,w,S',x2,(z3.mono y1).mono x1,e,λv H' q=>hq v H' (q.after ((z1.trans y1).trans x1))]
    ·cases e
   ·cases e
  ·cases e
noncomputable abbrev FF:=Jn W->aa->Jw (W×aa)
inductive spF (wd:Kq)(K:JE)(n:Jx)(g:FF)(vs:Jn V)(H:Hp)(Q:VK)(E:XK):Prop
 | mk (A:Jn Jz) (S:aa) (ws:Jn W) (w:W) (S':aa) (so:StoreOk wd K A H S) (rl:RelL K A H ws vs) (hl:ws.length=n) (e:g ws S=ba (w,S')) (q:∀v H',EndV wd K A H S' w v H'->Q v H'):spF wd K n g vs H Q E
abbrev qd (n:Jx)(g:FF)(f:FA):FE:=λZ S=>match f Z S with
 | some (ws,S1)=>if ws.length=n then g ws S1 else gV
 | none=>gV
def qf {n:Jx}{g:FF}{f:FA}{Y:L2.St}{H:Hp}{A:Jn Jz}{Z:Fm}{S:aa}{w:W}{S':aa}{E:XK}(er:EnvRel X.K A H Z Y)(so:StoreOk X.w X.K A H S)(e:qd n g f Z S=ba (w,S'))(Q:VK)(hq:∀v H',EndV X.w X.K A H S' w v H'->Q v H') :
  xk (spF X.w X.K n g) [] E (tA X f) Y H Q:=by
 unfold qd at e;split at e
 ·rename_i ws S1 h1;split at e
  ·rename_i hl;show#[A,Z,S,ws,S1,er,so,h1,λvs H1 #[A1,z1,z2,z3]=>?_]
   change spF X.w X.K n g (vs++[]) H1 Q E;rw[Li];exact#[A1,S1,ws,w,S',z2,z3,hl,e,λv H' q=>hq v H' (q.after z1)]
  ·cases e
 ·cases e
def D5 {k n:Jx}{fa:Jz}{fd:Mf}{ps:Jn JS}{g:FF}{x:JS}{e:J2}{es:Jn J2}{p pos:Mk}{f:FA}(F:FnOk X.prog X.w X.K X.mg X.base wL k fa fd ps (spF X.w X.K n g))(hr:Room k X.A)(hg:Gl X x)(hm:X.mg x=ba (.ref fa))(hk:Lj X.K (.ref fa)=true)
  (hb:Binds X.K fd ps []) (ha:GA X (e::es) f) (hdb:(x==("__debug__" : JS))=false) (he:starEach (e::es) X.env=(false,eval e X.env)::starEach es X.env) (hpl:(backTo pos (starEach es X.env)).any (·.1)=false) :
  GE X (.Call (.Name x p) (e::es) [] pos) (qd n g f):=
 GE.of (AF F hr hg hm hk hb .nil CC ha hdb he hpl) λY H A Z S w S' er so e Q hq=>qf er so e Q hq
def Bw {k n:Jx}{fa:Jz}{fd:Mf}{ps:Jn JS}{g:FF}{x:JS}{p pos:Mk}(F:FnOk X.prog X.w X.K X.mg X.base wL k fa fd ps (spF X.w X.K n g))(hr:Room k X.A)(hg:Gl X x)(hm:X.mg x=ba (.ref fa))(hk:Lj X.K (.ref fa)=true)
  (hb:Binds X.K fd ps []) (hdb:(x==("__debug__" : JS))=false):GE X (.Call (.Name x p) [] [] pos) (qd n g iY):=
 GE.of (xm F hr hg hm hk hb .nil CC hdb) λY H A Z S w S' er so e Q hq=>by
  obtain⟨A1,S1,ws,w1,S1',a1,a2,a3,a4,a5⟩:=qf (f:=iY) (E:=E0) er so e Q hq |> λ#[A,Z,S,ws,S',b1,b2,b3,b4]=>b4 [] H (by cases b3; exact#[A,.refl,b2,.nil])
  exact#[A1,S1,ws,w1,S1',a1,a2,a3,a4,a5]
def Bx:GSs X [] (λZ S=>ba (.nx Z,S)):=GSs.of Aw λY H A Z S o S' er so e D hd=>by cases e; exact hd.nx _ _ #[Z,A,rfl,.refl,so,er]
abbrev By (f g:FS):FS:=λZ S=>match f Z S with
 | some (.nx Z',S1)=>g Z' S1
 | some (.rt w,S1)=>ba (.rt w,S1)
 | some (.bk Z',S1)=>ba (.bk Z',S1)
 | some (.ct Z',S1)=>ba (.ct Z',S1)
 | none=>gV
def yu {st:Mx}{sts:Jn Mx}{f g:FS}(h:GS X st f)(h2:GSs X sts g):GSs X (st::sts) (By f g):=GSs.of (w9 h h2) λY H A Z S o S' er so e D hd=>by
 unfold By at e;split at e
 ·rename_i Z1 S1 h1;show#[A,Z,S,_,_,er,so,h1,#[λY' H' #[Z',A',e1,e2,e3,e4]=>?_,λv H' #[w,A',e1,_,_,_]=>(by cases e1),λv H' #[w,A',e1,_,_,_]=>(by cases e1),λv H' #[w,A',e1,_,_,_]=>(by cases e1)]]
  cases e1;exact#[A',_,S1,o,S',e4,e3,e,(EndS.after e2).trans hd]
 ·rename_i w S1 h1;cases e;exact#[A,Z,S,_,_,er,so,h1,#[λY' H' #[w,A',e1,_,_,_]=>(by cases e1),hd.rt,hd.bk,hd.ct]]
 ·rename_i w S1 h1;cases e;exact#[A,Z,S,_,_,er,so,h1,#[λY' H' #[w,A',e1,_,_,_]=>(by cases e1),hd.rt,hd.bk,hd.ct]]
 ·rename_i w S1 h1;cases e;exact#[A,Z,S,_,_,er,so,h1,#[λY' H' #[w,A',e1,_,_,_]=>(by cases e1),hd.rt,hd.bk,hd.ct]]
 ·cases e
abbrev Bz (f:FE):FS:=λZ S=>match f Z S with
 | some (_,S1)=>ba (.nx Z,S1)
 | none=>gV
def F0 {e:J2}{pos:Mk}{f:FE}(h:GE X e f)(hs:swapsWith e gV pos.line X.env=pure false):GS X (.Expr e pos) (Bz f):=GS.of (Ay h hs) λY H A Z S o S' er so e D hd=>by
 unfold Bz at e;split at e
 ·rename_i w S1 h1;cases e;exact#[A,Z,S,w,_,er,so,h1,λv H1 #[A1,z1,z2,z3]=>hd.nx _ _ #[Z,A1,rfl,z1,z2,er.mono z1]]
 ·cases e
abbrev yv:FS:=λZ S=>ba (.nx Z,S)
def D6 {x:JS}{j:Jx}{pos pos':Mk}:GS X (.Expr (.Constant (.str x) j pos) pos') yv:=GS.of Dj λY H A Z S o S' er so e D hd=>by cases e; exact hd.nx _ _ #[Z,A,rfl,.refl,so,er]
def BA {pos:Mk}:GS X (.Pass pos) yv:=GS.of Ax λY H A Z S o S' er so e D hd=>by cases e; exact hd.nx _ _ #[Z,A,rfl,.refl,so,er]
abbrev BB (f:FE):FS:=λZ S=>match f Z S with
 | some (w,S1)=>ba (.rt w,S1)
 | none=>gV
def D7 {e:J2}{pos:Mk}{f:FE}(h:GE X e f):GS X (.Return (ba e) pos) (BB f):=GS.of (Dk h) λY H A Z S o S' er so e D hd=>by
 unfold BB at e;split at e
 ·rename_i w S1 h1;cases e;exact#[A,Z,S,w,_,er,so,h1,λv H1 #[A1,z1,z2,z3]=>hd.rt _ _ #[w,A1,rfl,z1,z2,z3]]
 ·cases e
abbrev BC (c:FT)(f g:FS):FS:=λZ S=>match c Z S with
 | some (true,S1)=>f Z S1
 | some (false,S1)=>g Z S1
 | none=>gV
def F1 {c:J2}{a b:Jn Mx}{pos:Mk}{fc:FT}{f g:FS}(hc:GT X c fc)(ha:GSs X a f)(hb:GSs X b g):GS X (.If c a b pos) (BC fc f g):=GS.of (Ff hc ha hb) λY H A Z S o S' er so e D hd=>by
 unfold BC at e;split at e
 ·rename_i S1 h1;show#[A,Z,S,_,S1,er,so,h1,λb H1 #[z0,A1,z1,z2]=>?_]
  subst z0;rw[JX rfl];exact#[A1,Z,S1,o,S',er.mono z1,z2,e,(EndS.after z1).trans hd]
 ·rename_i S1 h1;show#[A,Z,S,_,S1,er,so,h1,λb H1 #[z0,A1,z1,z2]=>?_]
  subst z0;rw[J8 J1];exact#[A1,Z,S1,o,S',er.mono z1,z2,e,(EndS.after z1).trans hd]
 ·cases e
noncomputable abbrev FG:=W->Fm->aa->Jw (Fm×aa)
inductive tG (X:Cx)(f:FG)(v:V)(Y:L2.St)(H:Hp)(Q:L2.St->Hp->Prop):Prop
 | mk (A:Jn Jz) (Z:Fm) (S:aa) (w:W) (Z':Fm) (S':aa) (er:EnvRel X.K A H Z Y) (so:StoreOk X.w X.K A H S) (r:Rel X.K A H w v) (e:f w Z S=ba (Z',S')) (q:∀Y' H' A',Ext X.K A H A' H'->StoreOk X.w X.K A' H' S'->EnvRel X.K A' H' Z' Y'->Q Y' H'):tG X f v Y H Q
noncomputable abbrev GG (X:Cx)(tg:J2)(f:FG):Prop:=PG X tg (tG X f)
abbrev CG (i:Jx):FG:=λw Z S=>ba (Z.set i (ba w),S)
def ud {i:Jx}{x:JS}{pos:Mk}(hN:X.N.Nodup)(hi:X.N[i]?=ba x)(hx:At X.env.scope x)(hf:X.fn x=true\/X.env.scope.names.lookup x=ba .local):GG X (.Name x pos) (CG i):=by
 intro J s Y H v u Q I r ⟨A,Z,S,w,Z',S',er,so,rw',e,hq⟩;cases e;exact sV hN hi hx hf J s Y H v u Q I r (hq _ _ A .refl so (er.set rw' i))
abbrev d7:Jn Jx->Jn W->Fm->Jw Fm
 | [],[],Z=>ba Z
 | i::is,w::ws,Z=>d7 is ws (Z.set i (ba w))
 | _,_,_=>gV
abbrev E3 (is:Jn Jx):FG:=λw Z S=>match w with
 | .tup ws=>(d7 is ws Z).map λZ'=>(Z',S)
 | _=>gV
def vQ:∀ {ts:Jn J2} {is:Jn Jx},(∀x∈ts,∃y p,x=.Name y p)->O4 (λ(t:J2) (i:Jx)=>∃x p,t=P1 x p/\X.N[i]?=ba x/\At X.env.scope x/\(X.fn x=true\/X.env.scope.names.lookup x=ba .local)) ts is->X.N.Nodup->
  Fg X ts (λvs Y H Q=>∃A Z ws Z' S,EnvRel X.K A H Z Y/\StoreOk X.w X.K A H S/\RelL X.K A H ws vs/\d7 is ws Z=ba Z'/\∀Y',EnvRel X.K A H Z' Y'->Q Y' H):=by
 intro ts
 induction ts with
 | nil=>
  intro is _ h hN;cases h;intro J s Y H vs us Q I r ⟨A,Z,ws,Z',S,er,so,rl,e,hq⟩;cases rl with
  | nil=>cases e; exact Az J s Y H [] us Q I r #[rfl,hq _ er]
  | cons _ _=>cases e
 | cons t ts ih=>
  intro is hs h hN;cases h with
  | cons h1 h2=>
   obtain⟨x,p,rfl,hi,hl,hf⟩:=h1;have:=ih (λy hy=>hs y (KA _ hy)) h2 hN
   intro J s Y H vs us Q I r ⟨A,Z,ws,Z',S,er,so,rl,e,hq⟩;cases rl with
   | nil=>cases e
   | cons r1 r2=>
    show xf (sV hN hi hl hf) this rfl J s Y H _ us Q I r #[_,_,rfl,?_];exact#[A,_,_,Z',S,er.set r1 _,so,r2,e,hq]
def D8 {ts:Jn J2}{is:Jn Jx}{k:Jx}{pos:Mk}(hc:X.calm=true)(hs:∀x∈ts,∃y p,x=.Name y p)(h:O4 (λ(t:J2) (i:Jx)=>∃x p,t=P1 x p/\X.N[i]?=ba x/\At X.env.scope x/\(X.fn x=true\/X.env.scope.names.lookup x=ba .local)) ts is)(hN:X.N.Nodup)
  (hn:(assignEach ts X.env).length=ts.length) (hst:(assignEach ts X.env).findIdx? (·.1)=gV):GG X (.Tuple ts k pos) (E3 is):=by
 intro J s Y H v u Q I r ⟨A,Z,S,w,Z',S',er,so,rw',e,hq⟩;unfold E3 at e;split at e
 ·rw[Js]at e;obtain⟨Z1,e1,e2⟩:=e;cases e2;cases rw' with
  | tup h1 r1=>
   have hl:∀(is:Jn Jx) (ws:Jn W) (Z Z':Fm),d7 is ws Z=ba Z'->is.length=ws.length:=by
    intro is
    induction is with
    | nil=>intro ws Z Z' e; cases ws <;> first|rfl|cases e
    | cons i is ih=>intro ws Z Z' e; cases ws <;> first|cases e|(simp; exact ih _ _ _ e)
   exact Dp hc (vQ hs h hN) hn hst J s Y H _ u Q I r #[_,_,rfl,h1,by rw[<- r1.length,<- hl _ _ _ _ e1,<- OR h],A,Z,_,_,_,er,so,r1,e1,λY' z=>hq _ _ A .refl so z]
 ·cases e
abbrev BE (fo fi:FE):FG:=λw Z S=>match fo Z S with
 | some (o,S1)=>match fi Z S1 with
  | some (i,S2)=>match iU o i w S2 with
   | some S3=>ba (Z,S3)
   | none=>gV
  | none=>gV
 | none=>gV
inductive rSet (X:Cx)(g:W->W->W->aa->Jw aa)(ao ai av:V)(H:Hp)(Q:Hp->Prop):Prop
 | mk (A:Jn Jz) (S:aa) (o i w:W) (S':aa) (so:StoreOk X.w X.K A H S) (r1:Rel X.K A H o ao) (r2:Rel X.K A H i ai) (r3:Rel X.K A H w av) (e:g o i w S=ba S') (q:∀H' A',Ext X.K A H A' H'->StoreOk X.w X.K A' H' S'->Q H'):rSet X g ao ai av H Q
def LSet.pset {g:W->W->W->aa->Jw aa}(h:LSet X g):Do X (rSet X g):=by
 intro J s Y H ao ai av uo ui uv Q I ro ri rv ⟨A,S,o,i,w,S',so,r1,r2,r3,e,hq⟩;exact bx (h J s Y H A S o i w ao ai av uo ui uv S' I so r1 ro r2 ri r3 rv e) λ_ s' #[H',A',I',e1,o1]=>#[H',I',hq H' A' e1 o1]
def D9 {o i:J2}{pos:Mk}{fo fi:FE}(hu:X.A.units+10 < cLine)(ho:GE X o fo)(hi:GE X i fi)(ha:∀v,assign (.Subscript o i pos) X.env v=(do
   let ov <- holding [v] (eval o X.env)
   let iv <- holding [v,ov] (eval i X.env)
   standAt pos
   holding [v,ov,iv] (setItem ov iv v)
   release [v,ov,iv] [])):GG X (.Subscript o i pos) (BE fo fi):=by
 intro J s Y H v u Q I r ⟨A,Z,S,w,Z',S',er,so,rw',e,hq⟩;unfold BE at e;split at e
 ·rename_i o' S1 h1;split at e
  ·rename_i i' S2 h2;split at e
   ·rename_i S3 h3;cases e;show Dq ho hi (FP hu).pset ha J s Y H v u Q I r ?_;show#[A,Z,S,o',S1,er,so,h1,λa H1 #[A1,e1,o1,r1]=>?_]
    show#[A1,Z,S1,i',S2,er.mono e1,o1,h2,λb H2 #[A2,e2,o2,r2]=>?_]
    exact#[A2,S2,o',i',w,_,o2,r1.mono e2,r2,rw'.mono (e1.trans e2),h3,λH' A' z1 z2=>hq Y H' A' ((e1.trans e2).trans z1) z2 (er.mono ((e1.trans e2).trans z1))]
   ·cases e
  ·cases e
 ·cases e
abbrev la (f:FE)(g:FG):FS:=λZ S=>match f Z S with
 | some (w,S1)=>match g w Z S1 with
  | some (Z',S2)=>ba (.nx Z',S2)
  | none=>gV
 | none=>gV
def su {tg e:J2}{pos:Mk}{f:FE}{g:FG}(h:GE X e f)(hg:GG X tg g)(hs:swapsWithSole [tg] e pos.line X.env=pure false)(hw:swappedStores [tg] e X.env=pure gV)(h1:(assignEach [tg] X.env).map (·.2)=[assign tg X.env]) :
  GS X (.Assign [tg] e pos) (la f g):=GS.of (Dr h hg hs hw h1) λY H A Z S o S' er so e D hd=>by
 unfold la at e;split at e
 ·rename_i w S1 h1;split at e
  ·rename_i Z1 S2 h2;cases e;show#[A,Z,S,w,S1,er,so,h1,λv H1 #[A1,z1,z2,z3]=>?_]
   exact#[A1,Z,S1,w,Z1,_,er.mono z1,z2,z3,h2,λY' H' A' y1 y2 y3=>hd.nx _ _ #[Z1,A',rfl,z1.trans y1,y2,y3]]
  ·cases e
 ·cases e
abbrev BF (i j:Jx)(f:FA):FS:=λZ S=>match f Z S with
 | some ([x,y],S1)=>ba (.nx ((Z.set i (ba x)).set j (ba y)),S1)
 | _=>gV
def Ea {i j:Jx}{x y:JS}{a b:J2}{f:FA}{px py pt pos:Mk}{kt k2:Jx}{pt2:Mk}(hc:X.calm=true)(hN:X.N.Nodup)(hi:X.N[i]?=ba x)(hj:X.N[j]?=ba y)(hij:i≠j)
  (hx:X.env.scope.names.lookup x=ba .local) (hy:X.env.scope.names.lookup y=ba .local) (ha:GA X [a,b] f)
  (hw:swappedStores [.Tuple [.Name x px,.Name y py] kt pt] (.Tuple [a,b] k2 pt2) X.env=pure (ba [x,y]))
  (hs:swapsWithSole [.Tuple [.Name x px,.Name y py] kt pt] (.Tuple [a,b] k2 pt2) pos.line X.env=pure false) :
  GS X (.Assign [.Tuple [.Name x px,.Name y py] kt pt] (.Tuple [a,b] k2 pt2) pos) (BF i j f):=GS.of (Ds hc hN hi hj hij hx hy ha hw hs) λY H A Z S o S' er so e D hd=>by
 unfold BF at e;split at e
 ·rename_i x y S1 h1;cases e;show#[A,Z,S,_,_,er,so,h1,λvs H1 #[A1,z1,z2,z3]=>?_]
  cases z3 with
  | cons r1 t=>
   cases t with
   | cons r2 t=>
    cases t;exact#[_,_,rfl,hd.nx _ _ #[_,A1,rfl,z1,z2,((er.mono z1).set r1 i).set r2 j]]
 ·cases e
abbrev on (c:FT)(b:FS):Jx->FS
 | 0,_,_=>gV
 | n+1,Z,S=>match c Z S with
  | some (true,S1)=>match b Z S1 with
   | some (.nx Z',S2)=>on c b n Z' S2
   | some (.ct Z',S2)=>on c b n Z' S2
   | some (.bk Z',S2)=>ba (.nx Z',S2)
   | some (.rt w,S2)=>ba (.rt w,S2)
   | none=>gV
  | some (false,S1)=>ba (.nx Z,S1)
  | none=>gV
def yw {c:J2}{body:Jn Mx}{pos:Mk}{fc:FT}{fb:FS}(n:Jx)(hp:P0 (model X.prog X.w) X.A X.env X.xe)(hc:GT X c fc)(hb:GSs X body fb):GS X (.While c body [] pos) (on fc fb n):=GS.of (xg hp hc hb) λY H A Z S o S' er so e D hd=>by
 show#[λm Y1 H1=>∃A1 Z1 S1,Ext X.K A H A1 H1/\EnvRel X.K A1 H1 Z1 Y1/\StoreOk X.w X.K A1 H1 S1/\on fc fb m Z1 S1=ba (o,S'),#[n,A,Z,S,.refl,er,so,e],?_]
 rintro m Y1 H1 ⟨A1,Z1,S1,e1,er1,so1,w1⟩;cases m with
 | zero=>cases w1
 | succ m=>
  dsimp only[on]at w1;split at w1
  ·rename_i S2 h1;show#[A1,Z1,S1,_,S2,er1,so1,h1,λb H2 #[z0,A2,z1,z2]=>?_]
   subst z0;rw[JX rfl];show#[λY3 H3=>∃A3 Z3 S3,Ext X.K A H A3 H3/\EnvRel X.K A3 H3 Z3 Y3/\StoreOk X.w X.K A3 H3 S3/\on fc fb m Z3 S3=ba (o,S'),λY' H' h=>#[m,K2 _,h],?_]
   split at w1
   ·rename_i Z3 S3 h3;show#[A2,Z1,S2,_,S3,er1.mono z1,z2,h3,#[λY' H' #[Z',A',y0,y1,y2,y3]=>?_,λv H' #[w,A',y0,_,_,_]=>(by cases y0),λv H' #[w,A',y0,_,_,_]=>(by cases y0),λv H' #[w,A',y0,_,_,_]=>(by cases y0)]]
    cases y0;exact#[A',_,S3,(e1.trans z1).trans y1,y3,y2,w1]
   ·rename_i Z3 S3 h3;show#[A2,Z1,S2,_,S3,er1.mono z1,z2,h3,#[λv H' #[w,A',y0,_,_,_]=>(by cases y0),λv H' #[w,A',y0,_,_,_]=>(by cases y0),λv H' #[w,A',y0,_,_,_]=>(by cases y0),λY' H' #[Z',A',y0,y1,y2,y3]=>?_]]
    cases y0;exact#[A',_,S3,(e1.trans z1).trans y1,y3,y2,w1]
   ·rename_i Z3 S3 h3;cases w1;show#[A2,Z1,S2,_,_,er1.mono z1,z2,h3,#[λv H' #[w,A',y0,_,_,_]=>(by cases y0),λv H' #[w,A',y0,_,_,_]=>(by cases y0),λY' H' #[Z',A',y0,y1,y2,y3]=>?_,λv H' #[w,A',y0,_,_,_]=>(by cases y0)]]
    cases y0;exact hd.nx _ _ #[_,A',rfl,(e1.trans z1).trans y1,y2,y3]
   ·rename_i w3 S3 h3;cases w1;show#[A2,Z1,S2,_,_,er1.mono z1,z2,h3,#[λv H' #[w,A',y0,_,_,_]=>(by cases y0),λv H' #[w,A',y0,y1,y2,y3]=>?_,λv H' #[w,A',y0,_,_,_]=>(by cases y0),λv H' #[w,A',y0,_,_,_]=>(by cases y0)]]
    cases y0;exact hd.rt _ _ #[_,A',rfl,(e1.trans z1).trans y1,y2,y3]
   ·cases w1
  ·rename_i S2 h1;cases w1;show#[A1,Z1,S1,_,_,er1,so1,h1,λb H2 #[z0,A2,z1,z2]=>?_]
   subst z0;rw[J8 J1];exact hd.nx _ _ #[_,A2,rfl,e1.trans z1,z2,er1.mono z1]
  ·cases w1
end
inductive MI where
 | its (ws:Jn W)
 | live (r:Jx)
 | zl (r q:Jx)
abbrev l4 (xs ys:Jn W):Jn W:=JV (λx y=>.tup [x,y]) xs ys
abbrev MI.at (S:aa)(i:Jx):MI->Jw (Jw W)
 | .its ws=>ba ws[i]?
 | .live r=>match fS S r with
  | some xs=>ba xs[i]?
  | none=>gV
 | .zl r q=>match fS S r,fS S q with
  | some xs,ba ys=>ba (l4 xs ys)[i]?
  | _,_=>gV
abbrev MI.len (S:aa):MI->Jw Jx
 | .its ws=>ba ws.length
 | .live r=>(fS S r).map (·.length)
 | .zl r q=>match fS S r,fS S q with
  | some xs,ba ys=>ba (l4 xs ys).length
  | _,_=>gV
noncomputable abbrev FI:=Fm->aa->Jw (MI×aa)
structure MIt (wd:Kq)(K:JE)(mi:MI)(td:It)(A0:Jn Jz)(H0:Hp):Prop where
 go:∀A H S i w,Ext K A0 H0 A H->StoreOk wd K A H S->mi.at S i=ba (ba w)->td.go i H/\∀x H',td.yld i H x H'->Ext K A H A H'/\StoreOk wd K A H' S/\Rel K A H' w x
 stop:∀A H S i,Ext K A0 H0 A H->StoreOk wd K A H S->mi.at S i=ba gV->td.stop i H
inductive tI (X:Cx)(f:FI)(Y:L2.St)(H:Hp)(R:It->Hp->Prop):Prop
 | mk (A:Jn Jz) (Z:Fm) (S:aa) (mi:MI) (S':aa) (er:EnvRel X.K A H Z Y) (so:StoreOk X.w X.K A H S) (e:f Z S=ba (mi,S')) (q:∀td H' A',Ext X.K A H A' H'->StoreOk X.w X.K A' H' S'->MIt X.w X.K mi td A' H'->R td H'):tI X f Y H R
noncomputable abbrev GI (X:Cx)(tg iter:J2)(f:FI):Prop:=PI X tg iter (tI X f)
abbrev BG (f:FE):FI:=λZ S=>match f Z S with
 | some (.tup ws,S1)=>ba (.its ws,S1)
 | some (.ref r,S1)=>match fS S1 r with
  | some _=>ba (.live r,S1)
  | none=>gV
 | _=>gV
abbrev c8 (lo:JI)(n:Jx):Jn W:=(JW n).map λ(k:Jx)=>.int (lo+(k:JI))
abbrev sv (f:FA):FI:=λZ S=>match f Z S with
 | some ([.int j],S1)=>if -(2 ^ 62)<=j/\j < 2 ^ 62 then ba (.its (c8 0 j.toNat),S1)else gV
 | _=>gV
abbrev iRng2 (f:FA):FI:=λZ S=>match f Z S with
 | some ([.int i,.int j],S1)=>if -(2 ^ 62)<=i/\i < 2 ^ 62/\-(2 ^ 62)<=j/\j < 2 ^ 62 then ba (.its (c8 i (j - i).toNat),S1)else gV
 | _=>gV
abbrev fY (mi:MI)(g:FG)(b:FS):Jx->Jx->FS
 | 0,i,Z,S=>match mi.at S i with
  | some gV=>ba (.nx Z,S)
  | _=>gV
 | n+1,i,Z,S=>match mi.at S i with
  | some (ba w)=>match g w Z S with
   | some (Z1,S1)=>match b Z1 S1 with
    | some (.nx Z2,S2)=>fY mi g b n (i+1) Z2 S2
    | some (.ct Z2,S2)=>fY mi g b n (i+1) Z2 S2
    | some (.bk Z2,S2)=>ba (.nx Z2,S2)
    | some (.rt w,S2)=>ba (.rt w,S2)
    | none=>gV
   | none=>gV
  | _=>gV
abbrev yy (fi:FI)(g:FG)(b:FS):FS:=λZ S=>match fi Z S with
 | some (mi,S1)=>match mi.len S1 with
  | some n=>fY mi g b n 0 Z S1
  | none=>gV
 | none=>gV
section
variable{X:Cx}
def BH {A:Jn Jz}{H:Hp}{ws:Jn W}{a:Jz}{vs:Jn V}(h:SqT X.K H a vs)(r:RelL X.K A H ws vs):MIt X.w X.K (.its ws) (EZ X.K a) A H:=by
 show#[λA' H' S i w e so hi=>?_,λA' H' S i e so hi=>?_]
 ·simp only[MI.at,Kb]at hi;obtain⟨v,h1,h2⟩:=(r.mono e).get hi;show#[#[vs,v,e.tp _ _ h,h1],λx H2 #[z1,z2]=>?_]
  subst z1;have:=z2 vs (e.tp _ _ h);rw[h1]at this; cases this
  exact#[.refl,so,h2]
 ·simp only[MI.at,Kb]at hi;show#[vs,e.tp _ _ h,?_];rw[<- r.length];exact KH.mp hi
def BI {A:Jn Jz}{H:Hp}{r:Jx}{a:Jz}(ea:A[r]?=ba a):MIt X.w X.K (.live r) (Hz X.K a) A H:=by
 show#[λA' H' S i w e so hi=>?_,λA' H' S i e so hi=>?_]
 ·simp only[MI.at]at hi;split at hi
  ·rename_i xs hx;simp only[Kb]at hi;obtain⟨vs,h1,r1⟩:=bo so hx (e.ad _ _ ea);obtain⟨v,h2,h3⟩:=r1.get hi;show#[#[vs,v,h1,h2],λx H2 #[z1,z2]=>?_]
   subst z1;have:=z2 vs h1;rw[h2]at this; cases this
   exact#[.refl,so,h3]
  ·cases hi
 ·simp only[MI.at]at hi;split at hi
  ·rename_i xs hx;simp only[Kb]at hi;obtain⟨vs,h1,r1⟩:=bo so hx (e.ad _ _ ea);show#[vs,h1,?_];rw[<- r1.length];exact KH.mp hi
  ·cases hi
def d8 {lo:JI}{n i:Jx}:(c8 lo n)[i]?=if i < n then ba (.int (lo+i))else gV:=by
 unfold c8;rw[JB]
 by_cases h:i < n
 ·rw[JX h,LQ h]; rfl
 ·rw[J8 h,KH.mpr (by simp; omega)]; rfl
def ue {A:Jn Jz}{H:Hp}{lo:JI}{n:Jx}:MIt X.w X.K (.its (c8 lo n)) (Fk lo n) A H:=by
 show#[λA' H' S i w e so hi=>?_,λA' H' S i e so hi=>?_]
 ·simp only[MI.at,Kb]at hi;rw[d8]at hi;split at hi
  ·cases hi;show#[by assumption,λx H2 #[z1,z2]=>?_]
   subst z1 z2;exact#[.refl,so,.int]
  ·cases hi
 ·simp only[MI.at,Kb]at hi;rw[d8]at hi;split at hi
  ·cases hi
  ·change n<=i;omega
def qh {tg:J2}{J:Jn (Jz×Lr)}{Y:L2.St}{H1:Hp}{s1:Jt}{R:It->Hp->Prop}{a:Jz}{xs:Jn V}{v:Jr}(I1:Inv X J Y H1 s1)(r1:RelV (.ref a) v)(hq:SqL X.K H1 a xs)(q:R (Hz X.K a) H1) :
  wpAny (model X.prog X.w) X.A (pyIter v) (Fj X J Y tg R) X.xe s1:=by
 cases r1;obtain⟨its,rv,p,hz⟩:=I1.list hq;show M1 p.isList ?_;show#[s1.heap.objs.size,[s1.heap.objs.size],_,_,H1,rfl,I1.kept (t':=s1.toks) λb o e=>Jq _ e,u5 a _,#[_,JH _ rfl,rfl,rfl],λb hb=>?_,q]
 have e:b=s1.heap.objs.size:=by simpa using hb
 subst e;exact I1.fpOk (JA _) (I1.hok.fresh (JA _))
def sw {tg:J2}{J:Jn (Jz×Lr)}{Y:L2.St}{H1:Hp}{s1:Jt}{R:It->Hp->Prop}{a:Jz}{xs:Jn V}{v:Jr}(I1:Inv X J Y H1 s1)(r1:RelV (.ref a) v)(hq:SqT X.K H1 a xs)(q:R (EZ X.K a) H1) :
  wpAny (model X.prog X.w) X.A (pyIter v) (Fj X J Y tg R) X.xe s1:=by
 cases r1;obtain⟨its,rv,p,hz⟩:=I1.tuple hq;show Qp (show s1.heap.IsTuple a its.toArray from p) ?_
 show#[s1.heap.objs.size,[s1.heap.objs.size],_,_,H1,rfl,I1.kept (t':=s1.toks) λb o e=>Jq _ e,rK a _,#[_,JH _ rfl,rfl,rfl],λb hb=>?_,q]
 have e:b=s1.heap.objs.size:=by simpa using hb
 subst e;exact I1.fpOk (JA _) (I1.hok.fresh (JA _))
def BJ {tg a:J2}{f:FA}{p pos:Mk}(hg:Gl X "range")(hm:X.mg "range" = gV)(ha:GA X [a] f)(hs:starEach [a] X.env=[(false,eval a X.env)]):GI X tg (.Call (.Name "range" p) [a] [] pos) (sv f):=by
 intro J s Y H R I ⟨A,Z,S,mi,S',er,so,e,hq⟩;unfold sv at e;split at e
 ·rename_i j S1 h1;split at e
  ·rename_i hj;cases e;show u6 hg hm ha hs J s Y H R I #[A,Z,S,_,_,er,so,h1,λvs H1 #[A1,z1,z2,z3]=>?_]
   cases z3 with
   | cons r1 t=>
    cases t;cases r1;exact#[j,rfl,hj.1,hj.2,hq _ _ A1 z1 z2 ue]
  ·cases e
 ·cases e
def BK {tg a b:J2}{f:FA}{p pos:Mk}(hg:Gl X "range")(hm:X.mg "range" = gV)(ha:GA X [a,b] f)(hs:starEach [a,b] X.env=[(false,eval a X.env),(false,eval b X.env)])(hs2:starEach [b] X.env=[(false,eval b X.env)]):GI X tg (.Call (.Name "range" p) [a,b] [] pos) (iRng2 f):=by
 intro J s Y H R I ⟨A,Z,S,mi,S',er,so,e,hq⟩;unfold iRng2 at e;split at e
 ·rename_i i j S1 h1;split at e
  ·rename_i hj;cases e;show u7 hg hm ha hs hs2 J s Y H R I #[A,Z,S,_,_,er,so,h1,λvs H1 #[A1,z1,z2,z3]=>?_]
   cases z3 with
   | cons r1 t=>
    cases t with
    | cons r2 t=>
     cases t;cases r1;cases r2;exact#[i,j,rfl,hj,hq _ _ A1 z1 z2 ue]
  ·cases e
 ·cases e
def Eb {tg l:J2}{f:FE}(h:GE X l f):GI X tg l (BG f):=by
 intro J s Y H R I ⟨A,Z,S,mi,S',er,so,e,hq⟩;unfold BG at e;split at e
 ·rename_i ws S1 h1;cases e;show bx (h J s Y H (EndV X.w X.K A H _ (.tup ws)) I #[A,Z,S,_,_,er,so,h1,λ_ _ z=>z]) λv s1 #[x,H1,I1,r1,A1,e1,o1,z1]=>?_
  cases z1 with
  | tup hq1 rl=>
   show sw I1 r1 hq1 (hq _ _ A1 e1 o1 (BH hq1 rl))
 ·rename_i r S1 h1;split at e
  ·rename_i ys hy;cases e;show bx (h J s Y H (EndV X.w X.K A H _ (.ref r)) I #[A,Z,S,_,_,er,so,h1,λ_ _ z=>z]) λv s1 #[x,H1,I1,r1,A1,e1,o1,z1]=>?_
   cases z1 with
   | ref ea=>
    obtain⟨vs,hl,_⟩:=bo o1 hy ea;exact qh I1 r1 hl (hq _ _ A1 e1 o1 (BI ea))
  ·cases e
 ·cases e
def Ec {tg iter:J2}{body:Jn Mx}{pos:Mk}{fi:FI}{g:FG}{fb:FS}(hp:P0 (model X.prog X.w) X.A X.env X.xe)(hc:X.calm=true)(hi:GI X tg iter fi)(hg:GG X tg g)(hb:GSs X body fb)
  (hs:∀x,foldedSetIterable iter X.env x=pure x):GS X (.For tg iter body [] pos) (yy fi g fb):=GS.of (Du hp hc hi hg hb hs) λY H A Z S o S' er so e D hd=>by
 unfold yy at e;split at e
 ·rename_i mi S1 h1;split at e
  ·rename_i n hn;show#[A,Z,S,mi,S1,er,so,h1,λtd H1 A1 z1 z2 mit=>?_]
   show#[λi m Y2 H2=>∃A2 Z2 S2,Ext X.K A1 H1 A2 H2/\EnvRel X.K A2 H2 Z2 Y2/\StoreOk X.w X.K A2 H2 S2/\fY mi g fb m i Z2 S2=ba (o,S'),#[n,A1,Z,S1,.refl,er.mono z1,z2,e],?_]
   rintro i m Y2 H2 ⟨A2,Z2,S2,e2,er2,so2,w2⟩;cases m with
   | zero=>
    dsimp only[fY]at w2;split at w2
    ·rename_i hs;cases w2;exact .inl #[mit.stop A2 H2 _ i e2 so2 hs,hd.nx _ _ #[_,A2,rfl,z1.trans e2,so2,er2]]
    ·cases w2
   | succ m=>
    dsimp only[fY]at w2;split at w2
    ·rename_i w hw;obtain⟨go,yl⟩:=mit.go A2 H2 S2 i w e2 so2 hw;show .inr #[go,λY3 H3=>∃A3 Z3 S3,Ext X.K A1 H1 A3 H3/\EnvRel X.K A3 H3 Z3 Y3/\StoreOk X.w X.K A3 H3 S3/\fY mi g fb m (i+1) Z3 S3=ba (o,S'),λY' H' h=>#[m,K2 _,h],λx H3 hy=>?_]
     obtain⟨x1,x2,x3⟩:=yl x H3 hy;split at w2
     ·rename_i Z3 S3 h3;show#[A2,Z2,S2,w,Z3,S3,er2.mono x1,x2,x3,h3,λY4 H4 A4 y1 y2 y3=>?_]
      have ex:Ext X.K A1 H1 A4 H4:=(e2.trans x1).trans y1;split at w2
      ·rename_i Z5 S5 h5;show#[A4,Z3,S3,_,S5,y3,y2,h5,#[λY' H' #[Z',A',u0,u1,u2,u3]=>?_,λv H' #[w,A',y0,_,_,_]=>(by cases y0),λv H' #[w,A',y0,_,_,_]=>(by cases y0),λv H' #[w,A',y0,_,_,_]=>(by cases y0)]]
       cases u0;exact#[A',_,S5,ex.trans u1,u3,u2,w2]
      ·rename_i Z5 S5 h5;show#[A4,Z3,S3,_,S5,y3,y2,h5,#[λv H' #[w,A',y0,_,_,_]=>(by cases y0),λv H' #[w,A',y0,_,_,_]=>(by cases y0),λv H' #[w,A',y0,_,_,_]=>(by cases y0),λY' H' #[Z',A',u0,u1,u2,u3]=>?_]]
       cases u0;exact#[A',_,S5,ex.trans u1,u3,u2,w2]
      ·rename_i Z5 S5 h5;cases w2;show#[A4,Z3,S3,_,_,y3,y2,h5,#[λv H' #[w,A',y0,_,_,_]=>(by cases y0),λv H' #[w,A',y0,_,_,_]=>(by cases y0),λY' H' #[Z',A',u0,u1,u2,u3]=>?_,λv H' #[w,A',y0,_,_,_]=>(by cases y0)]]
       cases u0;exact hd.nx _ _ #[_,A',rfl,(z1.trans ex).trans u1,u2,u3]
      ·rename_i w5 S5 h5;cases w2;show#[A4,Z3,S3,_,_,y3,y2,h5,#[λv H' #[w,A',y0,_,_,_]=>(by cases y0),λv H' #[w,A',u0,u1,u2,u3]=>?_,λv H' #[w,A',y0,_,_,_]=>(by cases y0),λv H' #[w,A',y0,_,_,_]=>(by cases y0)]]
       cases u0;exact hd.rt _ _ #[_,A',rfl,(z1.trans ex).trans u1,u2,u3]
      ·cases w2
     ·cases w2
    ·cases w2
  ·cases e
 ·cases e
end
section
variable{prog:Kf}{w:Kq}{B:Ki}{E:Jr->Jt->Prop}{s:Jt}
def BL {d:Jz}{es:J7 L5}{ep:Jx}{Q:Jr->Jt->Prop}(hd:(d==sysModules)=false)(hm:RawD d es ep s.heap)(hfit:(es.size:JI) < 2 ^ 63)
  (h:Q (.int es.size (s.toks+1)) { s with toks:=s.toks+1+1 }):wpAny (model prog w) B (call (.builtin "len") [.ref d]) Q E s:=by
 have hT:=hm.type;obtain⟨o,ho,hc,hdat⟩:=id hm;show Ni kind_len plain_len entry_len (args_len1 _) ?_;unfold Mz.«len»;show Jo (m:=oneArg "len" _) (Ju ?_);show Jo (m:=callSpecial? (.ref d) (LG "__len__")) (KI (name:=LG "__len__") hT F.slot_dict_len (KM F.slot_dict_len hT F.entry_dict_len ?_ (F.args_dict_len_1 _)));change wpAny _ _ (dictSize d >>= _) _ _ s;unfold dictSize;show Jo (Jo (NM ho hdat (Ju ?_)));change wpAny _ _ (R4 d >>= _) _ _ s;show Jo (wpAny_pendingCount_other hd ?_);show wpAny_ret_mkInt ?_;rw[Nat.add_zero];change wpAny _ _ _ _ _ { s with toks:=s.toks+1 }
 show Jo (KR (Ju ?_));show Jo (M9 ?_);change wpAny _ _ (if ((es.size:Jx):JI) < 0 then _ else _) _ _ _
 rw[J8 ∅]
 change wpAny _ _ (if ((es.size:Jx):JI)>=2 ^ 63 then _ else _) _ _ _
 rw[J8 ∅]
 exact Jo (Rp (Ju #[_,rfl,h]))
end
section
variable{X:Cx}{J:Jn (Jz×Lr)}{Y:L2.St}{H:Hp}{s:Jt}{A:Jn Jz}{S:aa}
def sx:LCall X (.builtin "len") sa:=by
 intro J s Y H A S xs vs us w S' I so rl rv e
 by_cases hd:∃i U,xs=[.ref i]/\jN S i=ba U
 ·obtain⟨i,U,rfl,hk⟩:=hd
  (dsimp only[sa]at e; simp only[hk]at e)
  cases e;cases rl with
  | cons r t=>
   cases t;cases rv with
   | cons ru rv2=>
    cases rv2;cases r with
    | ref ea=>
     obtain⟨xs,rd,kr⟩:=fW so hk ea;have d:=cH I rd;obtain⟨es,ep,raw,he⟩:=d.raw;obtain rfl:_=Kk _:=ru;have hl:es.size=xs.length:=by rw[<- JP,he,Jp]
     have hz:=d.1;have hs:sizeLine=16777216:=Ky;show BL d.2.1 raw ∅ #[.int U.length,H,A,I.tok _,#[_,by rw[kr.length,hl]],.refl,so,.int]
 ·have:sa xs S=rW xs S:=by
   unfold sa;split
   ·rename_i i;split
    ·rename_i U hk;exact absurd #[i,U,rfl,hk] hd
    ·rfl
   ·rfl
  rw[this]at e;exact vp J s Y H A S xs vs us w S' I so rl rv e
abbrev Hg (S:aa):W->Jw Lf
 | .non=>ba "NoneType"|.bl _=>ba "bool"|.int _=>ba "int"|.str _=>ba "str"|.tup _=>ba "tuple"
 | .ref i=>match fS S i with
  | some _=>ba "list"
  | none=>(jN S i).map λ_=>"dict"
abbrev qk:Jn Lf:=["bool","int","str","tuple","list","dict"]
abbrev vR (S:aa)(x:W)(c:Lf):Jw J3:=match Hg S x with
 | some t=>if qk.contains c then ba (t==c||(t == "bool" && c == "int"))else gV
 | none=>gV
def iu {K:JE}{t c:Lf}(ht:t∈["NoneType","bool","int","str","tuple","list","dict"])(hc:c∈qk):PySem.W.kitOne K (.type t) (.type c)=ba (t==c||(t == "bool" && c == "int")):=by
 simp only[qk,JR,Kh,Lu]at ht hc;rcases ht with rfl|rfl|rfl|rfl|rfl|rfl|rfl <;> rcases hc with rfl|rfl|rfl|rfl|rfl|rfl <;> rfl
def yz:CallR X (.builtin "isinstance") (λvs H Q=>∃A S x v c b,vs=[v,.ty c]/\StoreOk X.w X.K A H S/\Rel X.K A H x v/\vR S x c=ba b/\Q (.bl b) H):=by
 intro J s Y H vs us Q I rv ⟨A,S,x,v,c,b,e1,so,rx,e2,hq⟩;subst e1;cases rv with
 | cons r1 rv2=>cases rv2 with
  | cons r2 rv3=>
   cases rv3;obtain rfl:_=Lx c:=r2;unfold vR at e2;split at e2
   ·rename_i t ht;split at e2
    ·rename_i hc;cases e2;have hc':c∈qk:=by simpa using hc
     have fin:∀tk,EP X J Y Q (.bool (t==c||(t == "bool" && c == "int"))) { s with toks:=tk }:=λtk=>#[.bl _,H,I.tok _,rfl,hq]
     cases rx with
     | non=>cases ht; cases(show _=Kz from r1); exact Mo PySem.W.kitx_none I.kIn NX (iu (by simp) hc') (λz=>nomatch z) fin
     | bl=>cases ht; cases(show _=M3 _ from r1); exact Mo PySem.W.kitx_bool I.kIn NX (iu (by simp) hc') (λz=>nomatch z) fin
     | int=>cases ht; obtain⟨t',q⟩:=(show ∃t,_=OY _ t from r1); cases q; exact Mo PySem.W.kitx_int I.kIn NX (iu (by simp) hc') (λz=>nomatch z) fin
     | str=>cases ht; obtain⟨t',q⟩:=(show ∃t,_=NU _ t from r1); cases q; exact Mo PySem.W.kitx_str I.kIn NX (iu (by simp) hc') (λz=>nomatch z) fin
     | tup h1 r1'=>
      cases ht;obtain⟨its,rv,⟨o,q1,q2,_⟩,hz⟩:=I.tuple h1;cases(show _=Kk _ from r1)
      exact Mo PySem.W.kitx_tuple I.kIn #[o,q1,q2] (iu (by simp) hc') (λz=>nomatch z) fin
     | ref ea=>
      cases(show _=Kk _ from r1)
      dsimp only[Hg]at ht;split at ht
      ·rename_i ws hw;cases ht;obtain⟨vs,h1,_⟩:=bo so hw ea;obtain⟨its,rv,p,hz⟩:=I.list h1;obtain⟨o,q1,q2,_⟩:=p.isList;exact Mo PySem.W.kitx_list I.kIn #[o,q1,q2] (iu (by simp) hc') (λz=>nomatch z) fin
      ·rw[Js]at ht;obtain⟨U,hk,rfl⟩:=ht;obtain⟨xs,rd,kr⟩:=fW so hk ea;obtain⟨es,ep,⟨o,q1,q2,_⟩,he⟩:=(cH I rd).raw;exact Mo PySem.W.kitx_dict I.kIn #[o,q1,q2.1] (iu (by simp) hc') (λz=>nomatch z) fin
    ·cases e2
   ·cases e2
abbrev yA (c:Lf)(f:FE):FE:=λZ S=>match f Z S with
 | some (x,S1)=>(vR S1 x c).map λb=>(.bl b,S1)
 | none=>gV
def Ed {cn:JS}{c:Lf}{e:J2}{p p2 pos:Mk}{f:FE}(hg:Gl X "isinstance")(hm:X.mg "isinstance" = gV)(hg2:Gl X cn)(hm2:X.mg cn=gV)(hv2:bootBuiltins cn=ba (.type c))(hn2:cn≠"__name__")(hd2:(cn==("__debug__" : JS))=false)
  (he:GE X e f) (hs:starEach [e,.Name cn p2] X.env=(false,eval e X.env)::starEach [.Name cn p2] X.env):GE X (.Call (.Name "isinstance" p) [e,.Name cn p2] [] pos) (yA c f):=
 GE.of (pc (yz) hg hm rfl (nE he (nE (Au (v:=.ty c) hg2 hm2 hv2 rfl hn2 hd2) xi) hs) #v[] #v[] hs rfl) λY H A Z S w S' er so e Q hq=>by
  unfold yA at e;split at e
  ·rename_i x1 S1 h1;rw[Js]at e;obtain⟨b,e1,e2⟩:=e;cases e2;exact#[A,Z,S,x1,_,er,so,h1,λv H1 #[A1,z1,z2,z3]=>#[A1,_,x1,v,c,b,rfl,z2,z3,e1,hq _ _ #[A1,z1,z2,.bl]]]
  ·cases e
end
abbrev dF:Jn (T×W)->Jn W->Jw (Jn (T×W))
 | U,[]=>ba U
 | U,k::v::ws=>match gS k with
  | some t=>dF (eE U t v) ws
  | none=>gV
 | _,[_]=>gV
abbrev CH:FE:=λ_ S=>ba (.ref S.length,S++[.dic []])
abbrev ql (f:FA):FE:=λZ S=>match f Z (S++[.dic []])with
 | some (ws,S1)=>match S1[S.length]? with
  | some (.dic [])=>match dF [] ws with
   | some U=>ba (.ref S.length,S1.set S.length (.dic U))
   | none=>gV
  | _=>gV
 | none=>gV
section
variable (K:JE) (A:Jn Jz) (H:Hp)
inductive RelP:Jn W->Jn (V×V)->Prop
 | nil:RelP [] []
 | cons {k v:W} {a b:V} {ws:Jn W} {ps:Jn (V×V)}:Rel K A H k a->Rel K A H v b->RelP ws ps->RelP (k::v::ws) ((a,b)::ps)
end
def RelP.mono {K:JE}{A A':Jn Jz}{H H':Hp}(e:Ext K A H A' H'){ws:Jn W}{ps:Jn (V×V)}(h:RelP K A H ws ps):RelP K A' H' ws ps:=by
 induction h with
 | nil=>exact .nil
 | cons a b c ih=>exact .cons (a.mono e) (b.mono e) ih
section
variable{X:Cx}{J:Jn (Jz×Lr)}{Y:L2.St}{H:Hp}{s:Jt}{A:Jn Jz}{S:aa}
abbrev HZ (X:Cx)(A:Jn Jz)(H:Hp)(S':aa)(ws:Jn W):Jn (V×V)->Hp->Prop:=λps H'=>∃A',Ext X.K A H A' H'/\StoreOk X.w X.K A' H' S'/\RelP X.K A' H' ws ps
abbrev F2 (X:Cx)(pos:Mk)(keys:Jn (Jw J2))(values:Jn J2)(f:FA):Prop:=
 ∀(J:Jn (Jz×Lr)) (s:Jt) (Y:L2.St) (H:Hp) (A:Jn Jz) (Z:Fm) (S:aa) (ws:Jn W) (S':aa),Inv X J Y H s->EnvRel X.K A H Z Y->StoreOk X.w X.K A H S->f Z S=ba (ws,S')->
  wpAny (model X.prog X.w) X.A (evalPairs (pairTrees keys values X.env pos)) (λvs s'=>∃ps H',Inv X J Y H' s'/\VV ps vs/\HZ X A H S' ws ps H') X.xe s
def BM {pos:Mk}:F2 X pos [] [] iY:=λJ s Y H A Z S ws S' I er so e=>by
 cases e;exact pairTrees_nil_walk #[[],H,I,.nil,A,.refl,so,.nil]
def yB {pos:Mk}{k v:J2}{ks:Jn (Jw J2)}{vs:Jn J2}{fk fv:FE}{f:FA}(hk:GE X k fk)(hv:GE X v fv)(hr:F2 X pos ks vs f):F2 X pos (ba k::ks) (v::vs) (dJ fk (dJ fv f)):=λJ s Y H A Z S ws S' I er so e=>by
 unfold dJ at e;split at e
 ·rename_i w1 S1 h1;split at e
  ·rename_i w2 S2 h2;cases e;split at h2
   ·rename_i w3 S3 h3;split at h2
    ·rename_i w4 S4 h4;cases h2;show pairTrees_cons_walk (bx (hk J s Y H (EndV X.w X.K A H S1 w1) I #[A,Z,S,_,_,er,so,h1,λ_ _ z=>z]) λu s1 #[x,H1,I1,r1,A1,e1,o1,z1]=>
      bx (hv J s1 Y H1 (EndV X.w X.K A1 H1 S3 w3) I1 #[A1,Z,S1,_,_,er.mono e1,o1,h3,λ_ _ z=>z]) λu2 s2 #[x2,H2,I2,r2,A2,e2,o2,z2]=>
      bx (hr J s2 Y H2 A2 Z S3 _ _ I2 (er.mono (e1.trans e2)) o2 h4) λvs' s3 #[ps,H3,I3,rel,A3,e3,o3,z3]=>?_)
     exact#[(x,x2)::ps,H3,I3,.cons #[r1,r2] rel,A3,e1.trans (e2.trans e3),o3,.cons (z1.mono (e2.trans e3)) (z2.mono e3) z3]
    ·cases h2
   ·cases h2
  ·cases e
 ·cases e
def mT {r:Jx}{d:Jz}{E:Jr->Jt->Prop}(hu:X.A.units+10 < cLine):∀(vs:Jn (Jr×Jr)) (ps:Jn (V×V)) (ws:Jn W) (U U':Jn (T×W)) (s:Jt) (H:Hp) (S:aa) (Q:PUnit->Jt->Prop),
  Inv X J Y H s->StoreOk X.w X.K A H S->nV S r=ba U->A[r]?=ba d->RelP X.K A H ws ps->VV ps vs->dF U ws=ba U'->U.length+vs.length<=30->
  (∀s' H',Inv X J Y H' s'->Ext X.K A H A H'->StoreOk X.w X.K A H' (S.set r (.dic U'))->Q Qm s')->
  wpAny (model X.prog X.w) X.A (forIn vs Qm λ(x:Jr×Jr) (_:PUnit)=>(do dictSet d x.1 x.2; pure (LH Qm):Tb (ForInStep PUnit))) Q E s
 | [],_,_,U,U',s,H,S,Q,I,so,hr,ea,rp,vv,e,hl,hq=>by
  cases vv;cases rp;cases e;rw[OC];show Ju (hq s H I .refl ?_);have hS:=iT hr;have:S.set r (.dic U)=S:=by
   apply OP;intro j;rw[LP];split
   ·rename_i e; subst e
    split
    ·exact hS.symm
    ·rename_i h; exact absurd (JD.mp hS).1 h
   ·rfl
  rw[this]; exact so
 | (ku,vu)::vs,_,_,U,U',s,H,S,Q,I,so,hr,ea,rp,vv,e,hl,hq=>by
  cases vv with
  | cons hv vv2=>
   cases rp with
   | @cons wk wv va vb ws2 ps2 rk rv' rp2=>
    dsimp only[dF]at e;split at e
    ·rename_i t ht;rw[N6];obtain⟨xs,hH,kr⟩:=tK so hr ea;have dd0:=cH I (.inl hH);have dd:=dd0.dict I kr;obtain⟨bk,e1,e2,rkk⟩:=iS ht rk hv.1;have e2:ku=Kk bk:=e2;subst e2;obtain⟨q1,q2,q3⟩:=dX ht;rw[Kr]at hl;have hz:xs.length<=sizeLine:=dd0.1;show Jo (Jo (wpAny_dictSet_heap (hsz:=hz) (show X.A.units+aA < cLine by unfold aA; omega) (jm I rkk q3) dd λh' dd' hs=>Ju ?_))
     have kr':=kr.put q2 q3 rkk rv' hv.2;have hz':(storedH xs t bk vu).length<=sizeLine:=by
      rw[<- kr'.length];have h2:=cO U t wv;rw[Ky];omega
     have dn:DicAt X.w d (storedH xs t bk vu) h':=.of hz' dd0.2.1 dd';obtain⟨so',ex⟩:=so.writeO (iT hr) rfl ea (u:=d4 X.w d (storedH xs t bk vu)) (n:=.dic (eE U t wv)) #[_,aK,kr'.mono (cF (.ext hH))];have I':Inv X J Y (bv H d (d4 X.w d (storedH xs t bk vu))) { s with heap:=h',toks:=s.toks+(aW X.prog X.w).draws t }:=nL I (by rw[hH]; exact NX) hs (let ⟨q,_,_,hq,_⟩:=dd'; #[q,hq]) dn.ok
     have hl':(S.set r (.dic (eE U t wv)))[r]?=ba (.dic (eE U t wv)):=by
      rw[LP,JX rfl,JX (JD.mp (iT hr)).1]
     show mT hu vs _ _ (eE U t wv) U' _ _ _ Q I' so' (by unfold nV; rw[hl']) ea (rp2.mono ex) vv2 e (by have:=cO U t wv; omega) λs' H' I2 ex2 so2=>?_
     rw[List.set_set]at so2;exact hq s' H' I2 (ex.trans ex2) so2
    ·cases e
def BN {pos:Mk}:GE X (.Dict [] [] pos) CH:=λJ s Y H Q I #[A,Z,S,w,S',er,so,e,hq]=>by
 cases e;have hn:=I.hok.fresh (JA s.heap.objs.size);have dn:DicAt X.w s.heap.objs.size [] (s.heap.push { cls:=.type "dict",data:=.dict #[] }):=#[Lm _,Oc.mpr (Ne.symm (JZ I.big)),PN,_,#[],0,JH _ rfl,#[rfl,rfl,rfl],rfl,rfl];show wpAny_Dict_empty #[.ref s.heap.objs.size,_,I.laid (a:=s.heap.objs.size) (o:=d4 X.w s.heap.objs.size []) (t':=s.toks) (λ_ _ q=>Jq _ q) (JA _) dn.ok,rfl,hq _ _ #[A++[s.heap.objs.size],cV hn,so.pushO hn #[[],aK,.nil],.ref ?_]]
 rw[<- so.len]; simp
def BO {pos:Mk}{keys:Jn (Jw J2)}{values:Jn J2}{f:FA}(hu:X.A.units+10 < cLine)(h:F2 X pos keys values f)(hall:keys.all (·.isSome)=true)(hl:keys.length=values.length)(h0:keys≠[])(h15:keys.length<=15):GE X (.Dict keys values pos) (ql f):=by
 intro J s Y H Q I ⟨A,Z,S,w,S',er,so,e,hq⟩;unfold ql at e;split at e
 ·rename_i ws S1 h1;split at e
  ·rename_i hS1;split at e
   ·rename_i U hp;cases e;have hn:=I.hok.fresh (JA s.heap.objs.size);have dn:DicAt X.w s.heap.objs.size [] (s.heap.push { cls:=.type "dict",data:=.dict #[] }):=#[Lm _,Oc.mpr (Ne.symm (JZ I.big)),PN,_,#[],0,JH _ rfl,#[rfl,rfl,rfl],rfl,rfl];have I1:=I.laid (a:=s.heap.objs.size) (o:=d4 X.w s.heap.objs.size []) (h':=s.heap.push { cls:=.type "dict",data:=.dict #[] }) (t':=s.toks) (λ_ _ q=>Jq _ q) (JA _) dn.ok
    have ex0:Ext X.K A H (A++[s.heap.objs.size]) (bv H s.heap.objs.size (d4 X.w s.heap.objs.size [])):=cV hn;have so0:StoreOk X.w X.K (A++[s.heap.objs.size]) (bv H s.heap.objs.size (d4 X.w s.heap.objs.size [])) (S++[.dic []]):=so.pushO hn #[[],aK,.nil];have hlen:=pairTrees_length keys values X.env pos hall hl;have hne:pairTrees keys values X.env pos≠[]:=λhe=>by
     rw[he]at hlen;exact h0 (Lb.mp hlen.symm)
    rw[arm_eval_Dict,zip_pairTrees keys values X.env pos hall hl,dictDisplay_pairs _ hne ∅]
    show Jo (N2 (Jo ?_));unfold subDict;show Jo (Rm ?_);show Jo (KR ?_);rw[JX ∅]
    show Jo (LI (wpAny_evalPairs_len (h J _ Y _ _ Z _ _ _ I1 (er.mono ex0) so0 h1)) (λvs s₁ h₁=>?_) λ_ _ e=>e)
    obtain⟨hvl,ps,H2,I2,vv,A2,ex2,so2,rp⟩:=h₁;show KR ?_;have ea:A2[S.length]?=ba s.heap.objs.size:=ex2.ad _ _ (by rw[<- so.len]; simp)
    show Jo (mT hu vs ps ws [] U s₁ H2 S1 _ I2 so2 (by unfold nV; rw[hS1]) ea rp vv hp (by rw[LS]; omega) λs' H' I3 ex3 so3=>?_)
    exact Ju (Ju (Ju #[.ref s.heap.objs.size,H',I3,rfl,hq _ _ #[A2,ex0.trans (ex2.trans ex3),so3,.ref ea]]))
   ·cases e
  ·cases e
 ·cases e
end
abbrev IS (wd:Kq)(a:Jz)(o:Lr)(xs:Jn (T×Jz×Jr)):It:=
 #[λi H=>H a=ba (.frz o (d4 wd a xs))/\i < xs.length,λi H x H'=>H'=H/\∃q,xs[i]?=ba q/\x=.ref q.2.1,λi H=>H a=ba (.frz o (d4 wd a xs))/\xs.length<=i]
def vS {P:Kf}{w:Kq}{K:JE}{tg:J2}(a it:Jz){o:Lr}{es:J7 L5}{ep:Jx}{xs:Jn (T×Jz×Jr)}(hx:o.ExactDict)(hd:o.data=.dict es ep)(he:es.toList=xs.map (xx w)) :
  Turn P w K tg (IS w a o xs) [it] it (λi h=>h.IsKeyIter it a i es.size ep) where
 mem:=by simp
 obj:=λi h st b hb=>by
  have e:b=it:=by simpa using hb
  subst e;obtain⟨o,e,c,d⟩:=st;exact#[o,e,λv z=>by rw[d]at z; cases z]
 keep:=λi h h' st k=>st.at λo e=>k it (by simp) o e
 item:=by
  intro X hP hw hK hc i J s Y H E I hf st hg;subst hP hw hK;obtain⟨hH,hi⟩:=hg;have ho:s.heap.get? a=ba o:=(show ObjOk X.prog X.w H s.heap a (.frz o (d4 X.w a xs))from I.hok a _ hH).1
  have hl:es.size=xs.length:=by rw[<- JP,he,Jp]
  have hi':i < es.size:=∅
  obtain⟨f0,f1,f2,f3,f4,f5⟩:=hf it (by simp)
  have hk:es[i].key=.ref (xs[i]).2.1:=by
   have:es.toList[i]?=ba (xx X.w xs[i]):=by rw[he,JB,Jy hi]; rfl
   rw[K9,LV hi']at this;have:=KQ this;rw[this]; rfl
  show pQ st #[o,ho,hx,hd] hi' λh' st' sb=>?_
  have I1:Inv X J Y H { s with heap:=h' }:=I.turned (t':=s.toks) (λb o hb e=>(sb.2 b hb).trans e) f0 f1 f3 f4 f5
  obtain⟨o',e,c,d⟩:=id st';exact#[_,rfl,sW (s:={ s with heap:=h' }) e c d #v[] #[.ref (xs[i]).2.1,H,I1,hk,#[rfl,xs[i],Jy hi,rfl],st',λb hb=>(hf b hb).1]]
 done:=by
  intro X hP hw hK hc i J s Y H E I hf st hg;subst hP hw hK;obtain⟨hH,hi⟩:=hg;have ho:s.heap.get? a=ba o:=(show ObjOk X.prog X.w H s.heap a (.frz o (d4 X.w a xs))from I.hok a _ hH).1
  have hl:es.size=xs.length:=by rw[<- JP,he,Jp]
  obtain⟨f0,f1,f2,f3,f4,f5⟩:=hf it (by simp)
  exact tM (I.ok.hd hc) st #[o,ho,hx,hd] ∅ λh' eb=>#[rfl,I.turned (t':=s.toks) (λb o hb e=>eb b o hb e) f0 f1 f3 f4 f5]
 self:=λ_ _ _ _ _ st h=>PL st h
abbrev ee (f:FE):FI:=λZ S=>match f Z S with
 | some (.tup ws,S1)=>ba (.its ws,S1)
 | some (.ref r,S1)=>match fS S1 r with
  | some _=>ba (.live r,S1)
  | none=>match jN S1 r with
   | some U=>ba (.its (U.map λp=>p.1.w),S1.set r (.frd U))
   | none=>gV
 | _=>gV
section
variable{X:Cx}{J:Jn (Jz×Lr)}{Y:L2.St}{H:Hp}{s:Jt}{A:Jn Jz}{S:aa}
def yC {a:Jz}{o:Lr}{U:Jn (T×W)}{xs:Jn (T×Jz×Jr)}(hH:H a=ba (.frz o (d4 X.w a xs)))(kr:KRel X.K A H U xs):MIt X.w X.K (.its (U.map λp=>p.1.w)) (IS X.w a o xs) A H:=by
 show#[λA' H' S i w e so hi=>?_,λA' H' S i e so hi=>?_]
 ·simp only[MI.at,Kb]at hi;obtain⟨v,h1,h2⟩:=((kr.mono e).keysL).get hi;rw[JB,Js]at h1;obtain⟨q,q1,q2⟩:=h1;show#[#[e.fz _ _ _ hH,(JD.mp q1).1],λx H2 #[z1,q',z2,z3]=>?_]
  subst z1 z3;rw[q1]at z2; cases z2
  exact#[.refl,so,by rw[q2]; exact h2]
 ·simp only[MI.at,Kb]at hi;show#[e.fz _ _ _ hH,?_];have:=KH.mp hi;rw[Jp,kr.length]at this;exact this
def BP {tg l:J2}{f:FE}(h:GE X l f):GI X tg l (ee f):=by
 intro J s Y H R I ⟨A,Z,S,mi,S',er,so,e,hq⟩
 by_cases hd:∃r S1 U,f Z S=ba (.ref r,S1)/\fS S1 r=gV/\jN S1 r=ba U
 ·obtain⟨r,S1,U,h1,h2,h3⟩:=hd;simp only[ee,h1,h2,h3]at e;cases e;show bx (h J s Y H (EndV X.w X.K A H S1 (.ref r)) I #[A,Z,S,_,_,er,so,h1,λ_ _ z=>z]) λv s1 #[x,H1,I1,r1,A1,e1,o1,z1]=>?_
  cases z1 with
  | @ref _ a ea=>
   obtain rfl:v=Kk a:=r1;have fz:∃o xs H2,Inv X J Y H2 s1/\Ext X.K A1 H1 A1 H2/\StoreOk X.w X.K A1 H2 (S1.set r (.frd U))/\H2 a=ba (.frz o (d4 X.w a xs))/\KRel X.K A1 H2 U xs:=by
    unfold jN at h3;split at h3
    ·rename_i k hk;cases h3;obtain⟨xs,hH,kr⟩:=o1.obj r _ a hk ea;have d:=cH I1 (.inl hH);obtain⟨_,_,_,o,es,ep,q1,q2,q3,q4⟩:=id d;obtain⟨so',ex⟩:=o1.writeO hk rfl ea (u:=.frz o (d4 X.w a xs)) (n:=.frd U) #[o,xs,aK,kr.mono (cF (.ext hH))];exact#[o,xs,_,nL (h':=s1.heap) (t':=s1.toks) (ob:=.frz o (d4 X.w a xs)) I1 (by rw[hH]; exact NX) (QH _ _) #[o,q1] #[q1,d.ok],ex,so',aK,kr.mono ex]
    ·rename_i k hk;cases h3;obtain⟨o,xs,hH,kr⟩:=o1.obj r _ a hk ea;have:S1.set r (.frd U)=S1:=by
      apply OP;intro j;rw[LP];split
      ·rename_i e; subst e
       split
       ·exact hk.symm
       ·rename_i h; exact absurd (JD.mp hk).1 h
      ·rfl
     rw[this];exact#[o,xs,H1,I1,.refl,o1,hH,kr]
    ·cases h3
   obtain⟨o,xs,H2,I2,ex,so2,hH,kr⟩:=fz;have d:=cH I2 (.inr #[o,hH]);have ho:s1.heap.get? a=ba o:=(show ObjOk X.prog X.w H2 s1.heap a (.frz o (d4 X.w a xs))from I2.hok a _ hH).1
   obtain⟨_,hsm,_,o',es,ep,q1,q2,q3,q4⟩:=id d;rw[ho]at q1;cases q1;show pP hsm #[o,ho,q2,q3] ?_;show#[s1.heap.objs.size,[s1.heap.objs.size],_,_,H2,rfl,I2.kept (t':=s1.toks) λb o e=>Jq _ e,vS a _ q2 q3 q4,#[_,JH _ rfl,rfl,rfl],λb hb=>?_,hq _ _ A1 (e1.trans ex) so2 (yC hH kr)]
   have e:b=s1.heap.objs.size:=by simpa using hb
   subst e;exact I2.fpOk (JA _) (I2.hok.fresh (JA _))
 ·have:ee f Z S=BG f Z S:=by
   unfold ee BG;cases hf:f Z S with
   | none=>rfl
   | some p=>
    obtain⟨w,S1⟩:=p;cases w with
    | ref r=>
     cases h2:fS S1 r with
     | some _=>simp only[h2]
     | none=>
      cases h3:jN S1 r with
      | none=>simp only[h2,h3]
      | some U=>exact absurd #[r,S1,U,hf,h2,h3] hd
    | _=>rfl
  rw[this]at e;exact Eb h J s Y H R I #[A,Z,S,mi,S',er,so,e,hq]
end
section
variable{tv:Tv}{A:Ki}{E:Jr->Jt->Prop}{s:Jt}
def qm {scope:MM}{g:Jz}{cl:Jn (JS×Jz)}{qual:JS}{outer:Qg}{Q:Qg->Jt->Prop}
  (h:Q (newEnv scope s.heap.objs.size g (cellsFrom (s.heap.objs.size+1) scope.names cl) qual gV .none (ba outer) builtinsNs) { s with heap:=pushCells (s.heap.push { cls:=.type "dict",data:=.dict #[] }) scope.names }) :
  wpAny tv A (newFunctionEnv scope g cl [] qual gV .none (ba outer)) Q E s:=by
 simp only[newFunctionEnv,Option.isSome_some,Lp];show Jo (Rm ?_);show Jo (wpAny_layCells _ (λname kind cells=>by cases hkc:kind==MX <;> simp[hkc]) _ _ _ _ ?_)
 rw[show({ s with heap:=s.heap.push { cls:=.type "dict",data:=.dict #[] } }:Jt).heap.objs.size=s.heap.objs.size+1 from K8 ..]
 rw[OC];exact Jo (Ju (Ju h))
def yD {names:Jn (JS×Lo)}{h2:Kv}:(pushCells (h2.push { cls:=.type "dict",data:=.dict #[] }) names).Ns h2.objs.size (λ_=>gV):=
 Heap.Ns.keeps (h:=h2.push { cls:=.type "dict",data:=.dict #[] }) #[_,#[],0,JH _ rfl,rfl,by simp[StrKeys],λ_=>rfl] (Pq names _)
def ff:∀(names:Jn (JS×Lo)) (m:Jx) (acc:Jn (JS×Jz)) {x:JS} {c:Jz},(cellsFrom m names acc).lookup x=ba c->
  (acc.lookup x=ba c/\(x,MX)∉names)\/(m<=c/\(x,MX)∈names/\∀h:Kv,h.objs.size=m->(pushCells h names).IsCell c gV)
 | [],_,_,_,_,hm=>.inl #[hm,λz=>nomatch z]
 | (name,kind)::r,m,acc,x,c,hm=>by
  unfold cellsFrom at hm;split at hm
  ·rename_i hk;have hc:kind=.cell:=eq_of_beq hk;subst hc;rcases ff r _ _ hm with⟨z,zn⟩|⟨z1,z2,z3⟩
   ·rw[KY]at z;split at z
    ·rename_i e;cases z;have:=eq_of_beq e;subst this;show .inr #[JA _,KP,λh e=>?_]
     subst e;exact(show(h.push { cls:=.type "cell",data:=.cell gV }).IsCell h.objs.size gV from#[_,JH _ rfl,rfl]).keeps (Pq r _)
    ·rename_i e;show .inl #[z,λy=>?_]
     rcases JR.mp y with y|y
     ·cases y; simp at e
     ·exact zn y
   ·show .inr #[Nat.le_of_succ_le z1,KA _ z2,λh e=>?_]
    exact z3 _ (by rw[K8,e])
  ·rename_i hk;rcases ff r _ _ hm with⟨z,zn⟩|⟨z1,z2,z3⟩
   ·show .inl #[z,λy=>?_]
    rcases JR.mp y with y|y
    ·cases y; exact hk rfl
    ·exact zn y
   ·show .inr #[z1,KA _ z2,λh e=>?_]
    unfold pushCells;rw[J8 hk];exact z3 h e
def jr:∀(names:Jn (JS×Lo)) (m:Jx) (acc:Jn (JS×Jz)),(∀x c,acc.lookup x=ba c->c < m)->(∀x y c,acc.lookup x=ba c->acc.lookup y=ba c->x=y)->
  ∀x y c,(cellsFrom m names acc).lookup x=ba c->(cellsFrom m names acc).lookup y=ba c->x=y
 | [],_,_,_,h=>h
 | (name,kind)::r,m,acc,hl,h=>by
  unfold cellsFrom;split
  ·show jr r (m+1) _ (λx c e=>?_) λx y c e1 e2=>?_
   ·rw[KY]at e;split at e
    ·cases e; exact K2 _
    ·exact LA (hl x c e)
   ·rw[KY]at e1 e2;split at e1 <;> split at e2
    ·rename_i _ z1 _ z2;rw[eq_of_beq z1,eq_of_beq z2]
    ·cases e1;exact absurd (hl y _ e2) (KT _)
    ·cases e2;exact absurd (hl x _ e1) (KT _)
    ·exact h x y c e1 e2
  ·exact jr r m acc hl h
def jt:∀(names:Jn (JS×Lo)) (m:Jx) (acc:Jn (JS×Jz)) {n:JS},(n,MX)∈names\/(∃c,acc.lookup n=ba c)->∃c,(cellsFrom m names acc).lookup n=ba c
 | [],_,_,_,h=>h.elim (λz=>nomatch z) id
 | (name,kind)::r,m,acc,n,h=>by
  unfold cellsFrom;split
  ·show jt r (m+1) _ ?_;rw[KY];split
   ·exact .inr #[_,rfl]
   ·rename_i e;rcases h with z|z
    ·rcases JR.mp z with y|y
     ·cases y; simp at e
     ·exact .inl y
    ·exact .inr z
  ·rename_i hk;show jt r m acc ?_;rcases h with z|z
   ·rcases JR.mp z with y|y
    ·cases y; exact absurd rfl hk
    ·exact .inl y
   ·exact .inr z
end
abbrev bz (mi:MI)(g:FG)(c:FT)(f:FE):Jx->Jx->Fm->aa->Jw (Jn W×aa)
 | 0,i,_,S=>match mi.at S i with
  | some gV=>ba ([],S)
  | _=>gV
 | n+1,i,Z,S=>match mi.at S i with
  | some (ba w)=>match g w Z S with
   | some (Z1,S1)=>match c Z1 S1 with
    | some (true,S2)=>match f Z1 S2 with
     | some (y,S3)=>match bz mi g c f n (i+1) Z1 S3 with
      | some (ys,S4)=>ba (y::ys,S4)
      | none=>gV
     | none=>gV
    | some (false,S2)=>bz mi g c f n (i+1) Z1 S2
    | none=>gV
   | none=>gV
  | _=>gV
abbrev eg (cap:Jn (Jw Jx))(Z:Fm):Fm:=cap.map λo=>match o with
 | some j=>(Z[j]?).join
 | none=>gV
abbrev lb (fi:FI)(g:FG)(c:FT)(f:FE)(cap:Jn (Jw Jx)):FE:=λZ S=>match fi Z S with
 | some (mi,S1)=>match mi.len S1 with
  | some n=>match bz mi g c f n 0 (eg cap Z) S1 with
   | some (ys,S2)=>lY S2 ys
   | none=>gV
  | none=>gV
 | none=>gV
abbrev CI:FT:=λ_ S=>ba (true,S)
abbrev lV (X:Cx)(scope:MM)(cl:Jn (JS×Jz))(C:Jz)(N:Jn JS)(s0:Jt)(H0:Hp)(ex:Jn Jz):Cx:=
 { X with env:=compEnvC scope (cellsFrom (C+1) scope.names cl) C X.env,N:=N,s₀:=s0,H₀:=H0,outer:=X.stack,stack:=X.stack,ex:=ex,fn:=λx=>scope.names.any λy=>y.1==x&&y.2==.cell,pn:=[],xe:=λ_ _=>K5 }
structure CompOk (X:Cx)(scope:MM)(cl:Jn (JS×Jz))(N:Jn JS)(cap:Jn (Jw Jx)):Prop where
 clos:closureFor scope X.env=pure cl
 kind:scope.kind=.function
 names:∀y∈scope.names,y.2=.local->scope.names.lookup y.1=ba .local
 sub:∀x c,cl.lookup x=ba c->X.env.cells.lookup x=ba c
 has:∀m x,((relabel scope X.env).names.lookup x=ba .cell\/(relabel scope X.env).names.lookup x=ba .free)->∃c,(cellsFrom m scope.names cl).lookup x=ba c
 len:cap.length=N.length
 cap:∀(i j:Jx) (x:JS),cap[i]?=ba (ba j)->N[i]?=ba x->X.N[j]?=ba x/\(X.env.kindOf x=ba .cell\/X.env.kindOf x=ba .free)/\((relabel scope X.env).names.lookup x=ba .cell\/(relabel scope X.env).names.lookup x=ba .free)/\(x,MX)∉scope.names
def CompOk.of {X:Cx}{scope:MM}{cl:Jn (JS×Jz)}{N:Jn JS}{cap:Jn (Jw Jx)}(ck:CompOk X scope cl N cap){m:Jx}{x:JS}{c:Jz}(z:(cellsFrom m scope.names cl).lookup x=ba c):X.env.cells.lookup x=ba c\/m<=c:=
 (ff _ _ _ z).elim (λq=>.inl (ck.sub x c q.1)) λq=>.inr q.1
def gW {prog:Kf}{w:Kq}{A:Ki}{R:QV->Jt->Prop}{s:Jt}{elt target iter:J2}{ifs:Jn J2}{scope:MM}{pos:Mk}{it acc:Jr}{env:Qg}(I:Jx->Jt->Prop)
    (turn:∀n s,I n s->wpAny (model prog w) A (pyNext it) (λr s₁=>match r with
      | none=>R (.ok .next) s₁
      | some v=>wpAny (model prog w) A (letOwnedTupleGo target it v) (λ_ s₁=>wpAny (model prog w) A (assign target env v) (λ_ s₂=>
          wpAny (model prog w) A (forIn ifs true λc r=>if r=true then do let ok <- isTrue c env (eval c env); pure (LH ok)else pure (LH r)) (λok s₃=>
            if ok=true then wpAny (model prog w) A (eval elt env) (λx s₄=>
              wpAny (model prog w) A (call (.builtin "list.append") [acc,x]) (λ_ s₅=>∃m,m < n/\I m s₅) (λ_ _=>K5) s₄) (λ_ _=>K5) s₃
            else ∃m,m < n/\I m s₃) (λ_ _=>K5) s₂) (λ_ _=>K5) s₁) (λ_ _=>K5) s₁) (λ_ _=>K5) s)
    (n:Jx) (h:I n s) :
    codeAny (model prog w) A (.compLoop (.ListComp elt [#[target,iter,ifs,0]] scope pos) 0 it acc env) R s:=by
  show codeAny_loop rfl I (λn s hI=>?_) n h
  change wpAny _ A ((compTurn (.ListComp elt [#[target,iter,ifs,0]] scope pos) 0 it acc env).onRaise (λx=>do noteFrame x env; theTreesLotGoes x)) _ _ s
  show wpAny_noted ?_;rw[compTurn_list];show Jo (N2 (Jo (LI (turn n s hI) (λr s₁ h₁=>?_) λ_ _ h'=>h'.elim)))
  cases r with
  | none=>exact Ju h₁
  | some v=>
    show Jo (LI h₁ (λ_ s₁ h₁=>?_) λ_ _ h'=>h'.elim)
    show Jo (LI h₁ (λ_ s₂ h₂=>Jo (LI h₂ (λok s₃ h₃=>?_) λ_ _ h'=>h'.elim)) λ_ _ h'=>h'.elim)
    cases ok with
    | false=>exact Ju #[rfl,h₃]
    | true=>
      exact Jo (Jo (LI h₃ (λx s₄ h₄=>Jo (LI h₄ (λ_ s₅ h₅=>Ju (Ju #[rfl,h₅])) λ_ _ h'=>h'.elim)) λ_ _ h'=>h'.elim))
section
variable{X:Cx}{J:Jn (Jz×Lr)}{Y:L2.St}{H:Hp}{s:Jt}
def Inv.adopt {D:Jz}{o:HO}(I:Inv X J Y H s)(hn:H D=gV)(h1:D∈X.ex\/X.s₀.heap.objs.size<=D)(hL:D≠X.env.locals)(h2:∀x c,X.env.cells.lookup x=ba c->c≠D)(h3:∀p∈X.pn++J,p.1≠D)
  (new:ObjOk X.prog X.w (bv H D o) s.heap D o):Inv X J Y (bv H D o) s:=by
 have nit:∀b u,H b=ba u->b≠D:=λb u e z=>by rw[z,hn]at e; cases e
 have key:Inv X J Y (bv H D o) { s with heap:=s.heap,gens:=s.gens,drawn:=s.drawn,toks:=s.toks }:=by
  show I.step (g':=s.gens) (d':=s.drawn) (t':=s.toks) (h':=s.heap) (ch:=[D]) (λb hb=>?_) (λb o _ _ hc e _=>e) (λb o _ _ hc e _=>#[o.slots,e]) (λb o hc e n=>?_)
   (λb o hc e=>#[o,e]) (λb xs e=>?_) (λb o xs e=>?_) (λb ps e=>#[#[],?_]) (λm hm=>hm) (λb u e=>?_) I.bare
  ·have e:b=D:=by simpa using hb
   subst e;exact#[h1,hL,h2,h3]
  ·rw[aC (λz=>hc (by simp[z]))]; exact n
  ·rw[aC (nit b _ e)]; exact e
  ·rw[aC (nit b _ e)]; exact e
  ·rw[aC (nit b _ e),e]; simp
  ·by_cases hb:b=D
   ·subst hb; rw[aK]at e; cases e; exact new
   ·rw[aC hb]at e;show(I.hok b u e).stay (λc v hc q=>q) (λc q=>?_) λc xs q=>?_
    ·rw[aC (nit c _ q)]; exact q
    ·rw[aC (nit c _ q)]; exact q
 exact key
def Ee {scope:MM}{cl:Jn (JS×Jz)}{N:Jn JS}{cap:Jn (Jw Jx)}{C:Jz}{s0:Jt}{ex:Jn Jz}(I:Inv X J Y H s)(ck:CompOk X scope cl N cap)(hs:s.heap.objs.size<=s0.heap.objs.size)(hC:s0.heap.objs.size<=C)(hlt:∀x c,X.env.cells.lookup x=ba c->c < C+1)
  (hk:∀b o,s.heap.get? b=ba o->s0.heap.get? b=ba o) (hex:∀b∈ex,(b < C)/\(∀x c,X.env.cells.lookup x=ba c->c≠b)/\(∀o,X.base.get? b≠ba o)/\b∉rJ X.stack) :
  (lV X scope cl C N s0 H ex).Ok where
 mod:=I.ok.mod
 kind:=ck.kind
 glob:=I.ok.glob
 blt:=I.ok.blt
 above:=hC
 inj:=jr scope.names (C+1) cl (λx c h=>hlt x c (ck.sub x c h)) λx y c h1 h2=>I.ok.inj x y c (ck.sub x c h1) (ck.sub y c h2)
 has:=λx h=>ck.has _ x h
 cab:=λx c h hc=>by
  obtain⟨⟨y,k⟩,hy,e⟩:=Rb.mp h;rw[Jv]at e;have e1:y=x:=eq_of_beq e.1;have e2:k=.cell:=eq_of_beq e.2;subst e1 e2;rcases ff _ _ _ hc with q|q
  ·exact absurd hy q.2
  ·exact J6 hC (J6 (Ma _) q.1)
 hd:=I.ok.hd
 frames:=I.ok.frames
 stk:=.inl rfl
 exf:=λb hb=>#[JZ (hex b hb).1,λx c h=>(ck.of h).elim (λq=>(hex b hb).2.1 x c q) λq z=>absurd (J4 (LA (hex b hb).1) q) (z ▸ KT _)]
 bs:=λb o e=>#[hk b o (I.bk b o e),(I.bs b o e).2]
 bsz:=J6 (J6 I.ok.bsz I.sz) hs
 noex:=λb o e hb=>(hex b hb).2.2.1 o e
 exfs:=λb hb=>(hex b hb).2.2.2
 funs:=I.stack.of_keeps λb o e _=>#[o,hk b o e,rfl]
 frf:=I.stkFree
structure BlockOk (X:Cx)(scope:MM)(cl:Jn (JS×Jz))(N:Jn JS)(tg elt:J2)(ifs:Jn J2)(g:FG)(c:FT)(f:FE):Prop where
 tgt:∀C s0 H0 ex,GG (lV X scope cl C N s0 H0 ex) tg g
 tst:∀C s0 H0 ex J s Y H Q,Inv (lV X scope cl C N s0 H0 ex) J Y H s->tT (lV X scope cl C N s0 H0 ex) c Y H Q->
  wpAny (model X.prog X.w) X.A (forIn ifs true λc r=>if r=true then do let ok <- isTrue c (compEnvC scope (cellsFrom (C+1) scope.names cl) C X.env) (eval c (compEnvC scope (cellsFrom (C+1) scope.names cl) C X.env)); pure (LH ok)else pure (LH r)) (TP (lV X scope cl C N s0 H0 ex) J Y Q) (λ_ _=>K5) s
 elt:∀C s0 H0 ex,GE (lV X scope cl C N s0 H0 ex) elt f
def oo {prog:Kf}{w:Kq}{B:Ki}{s:Jt}{E:Jr->Jt->Prop}{Q:Jr->Jt->Prop}{D:Jz}{its:Jn Jr}{n:Jx}{u:Jr}(e:s.heap.get? D=ba { cls:=.type "list",data:=.seq its.toArray n })(hz:its.length < sizeLine)
  (h:∀h' n',h'.get? D=ba { cls:=.type "list",data:=.seq (its++[u]).toArray n' }->(∀b o,b≠D->s.heap.get? b=ba o->h'.get? b=ba o)->Q .none { s with heap:=h' }) :
  wpAny (model prog w) B (call (.builtin "list.append") [.ref D,u]) Q E s:=by
 show Op F.slot_list_append #[_,e,rfl] F.entry_list_append (F.args_list_append_2 _ _) (QA D its.toArray n u (by rw[JM]; omega)) #[e,?_]
 have q:=Q1 e (λa=>a.push u)
 have e2:its.toArray.push u=(its++[u]).toArray:=by simp
 rw[e2]at q;exact h _ _ q (λb o hb ho=>(Kw s.heap (Lh λa=>a.push u) (Ne.symm hb)).trans ho)
def mU {scope:MM}{cl:Jn (JS×Jz)}{N:Jn JS}{cap:Jn (Jw Jx)}{tg elt iter:J2}{ifs:Jn J2}{g:FG}{c:FT}{f:FE}{pos:Mk}{A:Jn Jz}{Z:Fm}{S S':aa}{mi:MI}{n:Jx}{ws:Jn W}{E:Jr->Jt->Prop}
  {it:Jz} {fp:Jn Jz} {tn:Jx->Kv->Prop} {td:It} {RR:Jr->Jz->QV->Jt->Prop}
  (I:Inv X J Y H s) (hc:X.calm=true) (er:EnvRel X.K A H Z Y) (so:StoreOk X.w X.K A H S) (ck:CompOk X scope cl N cap) (bk:BlockOk X scope cl N tg elt ifs g c f)
  (T:Turn X.prog X.w X.K tg td fp it tn) (t0:tn 0 s.heap) (hfp:∀b∈fp,ie X J H b) (mit:MIt X.w X.K mi td A H) (e:bz mi g c f n 0 (eg cap Z) S=ba (ws,S')) (hz:ws.length<=sizeLine)
  (fin:∀D C s' H' A' vs m,s'.heap.Ns C m->H' D=gV->D≠C->C≠X.env.locals->C∉X.fs->H' C=gV->X.s₀.heap.objs.size<=C->(∀x c,X.env.cells.lookup x=ba c->c≠C)->(∀p∈X.pn++J,p.1≠C)->
   Inv X J Y (bv H' D (.lst vs)) s'->Ext X.K A H A' H'->StoreOk X.w X.K A' H' S'->RelL X.K A' H' ws vs->RR (.ref D) C (.ok .next) s') :
  wpAny (model X.prog X.w) X.A (newList []) (λacc s₃=>wpAny (model X.prog X.w) X.A (newFunctionEnv scope X.env.globals cl [] X.env.qual gV .none (ba X.env)) (λcenv s₄=>
   codeAny (model X.prog X.w) X.A (.compStart (.ListComp elt [#[tg,iter,ifs,0]] scope pos) 0 (.ref it) acc { cenv with scope:=relabel scope X.env }) (RR acc cenv.locals) s₄) E s₃) E s:=by
 show Ks (qm ?_);dsimp only;generalize hH2:s.heap.push { cls:=.type "list",dict:=gV,data:=.seq ([]:Jn Jr).toArray }=h2;obtain⟨h₁,hh₁⟩ : ∃h₁,h₁=pushCells (h2.push { cls:=.type "dict",data:=.dict #[] }) scope.names:=#[_,rfl];rw[<- hh₁];have hns₁:=yD (names:=scope.names) (h2:=h2);rw[<- hh₁]at hns₁;have hCs:h2.objs.size=s.heap.objs.size+1:=by rw[<- hH2,K8]
 have k2:∀b o,s.heap.get? b=ba o->h2.get? b=ba o:=λb o z=>hH2 ▸ Jq _ z
 have lt2:∀b o,h2.get? b=ba o->b < h2.objs.size:=λb o z=>JO z
 have k1:∀b o,h2.get? b=ba o->h₁.get? b=ba o:=λb o z=>hh₁ ▸ Pq _ _ b o (Jq _ z)
 have hD2:h2.get? s.heap.objs.size=ba { cls:=.type "list",data:=.seq ([]:Jn Jr).toArray }:=hH2 ▸ JH _ rfl;have hDC:s.heap.objs.size≠h2.objs.size:=by rw[hCs]; omega
 have fresh:∀a,s.heap.objs.size<=a->H a=gV:=λa ha=>I.hok.fresh ha
 have cellLt:∀x c,X.env.cells.lookup x=ba c->c < s.heap.objs.size:=λx c z=>let ⟨_,q⟩:=I.cell x c z; q.lt
 have fpLt:∀b∈fp,b < s.heap.objs.size:=λb hb=>let ⟨_,q,_⟩:=T.obj 0 s.heap t0 b hb; JO q
 have stkLt:∀b∈rJ X.stack,b < s.heap.objs.size:=λb hb=>let ⟨_,o,q,_⟩:=I.stack.mem hb; JO q
 have baseLt:∀b o,X.base.get? b=ba o->b < s.heap.objs.size:=λb o z=>JO (I.bk b o z)
 have fpStk:∀b∈fp,b∉rJ X.stack:=λb hb z=>by
  rcases JR.mp (I.stkSub b z)with q|q
  ·exact(hfp b hb).2.1 q
  ·exact(hfp b hb).2.2.1 q
 have fpBase:∀b∈fp,∀o,X.base.get? b≠ba o:=λb hb o z=>by
  rcases(hfp b hb).2.2.2.1 with q|q
  ·exact I.ok.noex b o z q
  ·exact absurd (J4 (JO (I.ok.bs b o z).1) q) (KT _)
 have ltD:∀ {b:Jz},b < s.heap.objs.size->b < h2.objs.size:=λhb=>by rw[hCs]; exact LA hb
 have ltC:∀ {b:Jz},b < s.heap.objs.size->b≠h2.objs.size:=λhb=>JZ (ltD hb)
 have ownNe:∀ {b c:Jz},b<=s.heap.objs.size->h2.objs.size+1<=c->c≠b:=λhb hc=>Lg (NA hb (J4 (by rw[hCs]; omega:s.heap.objs.size < h2.objs.size+1) hc))
 let s3:Jt:={ s with heap:=h2 }
 have ok':(lV X scope cl h2.objs.size N s3 H (fp++[s.heap.objs.size])).Ok:=by
  show Ee I ck (show s.heap.objs.size<=h2.objs.size by rw[hCs]; omega) (JA _) (λx c z=>LA (ltD (cellLt x c z))) k2 λb hb=>?_
  rcases Kc.mp hb with hb|hb
  ·exact#[ltD (fpLt b hb),(hfp b hb).2.2.2.2.1,fpBase b hb,fpStk b hb]
  ·have eb:b=s.heap.objs.size:=by simpa using hb
   subst eb;exact#[(by rw[hCs]; exact K2 _),λx c z=>JZ (cellLt x c z),λo z=>KT _ (baseLt _ o z),λz=>KT _ (stkLt _ z)]
 obtain⟨m0,hn0,hl0⟩:=I.loc;have I0:Inv (lV X scope cl h2.objs.size N s3 H (fp++[s.heap.objs.size])) [] (cap.map λo=>match o with|some j=>(Y[j]?).join|none=>gV) H { s3 with heap:=h₁ }:=by
  show#[ok',rfl,I.bare,Un.kept k1,#[_,hns₁,λi x v e1 e2 e3=>?_],λx cc z=>?_,fresh _ (show s.heap.objs.size<=h2.objs.size by rw[hCs]; exact Ma _),λx cc z=>(ck.of z).elim (I.freeC x cc) λq=>fresh _ (show s.heap.objs.size<=cc by omega),λp hp=>absurd hp (by simp[lV]),(I.hok.kept k2).kept k1,by rw[Jp]; exact ck.len]
  ·rw[JB]at e2;cases q:cap[i]? with
   | none=>rw[q]at e2; cases e2
   | some oj=>
    rw[q]at e2;cases oj with
    | none=>cases e2
    | some j=>
     obtain⟨z1,z2,z3,z4⟩:=ck.cap i j x q e1;have e2':(Y[j]?).join=ba v:=by simpa using e2
     have e2'':Y[j]?=ba (ba v):=by
      cases r:Y[j]? with
      | none=>rw[r]at e2'; cases e2'
      | some y=>rw[r]at e2'; exact congrArg ba e2'
     obtain⟨u,ru,lk⟩:=hl0 j x v z1 e2'' (by
      rcases z2 with z|z
      ·exact .inr (.inl z)
      ·exact .inr (.inr z))
     show#[u,ru,?_];rcases lk with⟨zk,_⟩|⟨_,cc,zc,zi⟩
     ·rcases z2 with z|z <;> (rw[zk]at z; cases z)
     ·obtain⟨c2,hc2⟩:=ck.has (h2.objs.size+1) x z3;have:=(ff _ _ _ hc2).elim (λq=>ck.sub x c2 q.1) λq=>absurd q.2.1 z4
      rw[zc]at this; cases this
      show .inr #[z3,cc,hc2,?_];obtain⟨o,ho,hd⟩:=zi;exact#[o,k1 _ _ (k2 _ _ ho),hd]
  ·rcases ff _ _ _ z with q|q
   ·obtain⟨v,o,ho,hd⟩:=I.cell x cc (ck.sub x cc q.1);exact#[v,o,k1 _ _ (k2 _ _ ho),hd]
   ·exact#[gV,hh₁ ▸ q.2.2 _ (K8 ..)]
 have er0:EnvRel X.K A H (eg cap Z) (cap.map λo=>match o with|some j=>(Y[j]?).join|none=>gV):=by
  show#[by simp[eg],λi w q=>?_]
  unfold eg at q;rw[JB]at q ⊢;cases r:cap[i]? with
  | none=>rw[r]at q; cases q
  | some oj=>
   rw[r]at q;cases oj with
   | none=>cases q
   | some j=>
    have q':(Z[j]?).join=ba w:=by simpa using q
    have q'':Z[j]?=ba (ba w):=by
     cases z:Z[j]? with
     | none=>rw[z]at q'; cases q'
     | some y=>rw[z]at q'; exact congrArg ba q'
    obtain⟨v,z1,z2⟩:=er.2 j w q'';exact#[v,by simp[z1],z2]
 have t1:tn 0 h₁:=T.keep 0 s.heap h₁ t0 λb hb o z=>k1 b o (k2 b o z)
 have fpOk':∀ {H':Hp} {pp:Jn (Jz×Lr)},(∀b∈fp,H' b=gV)->(∀p∈pp,p.1=s.heap.objs.size)->∀b∈fp,ie (lV X scope cl h2.objs.size N s3 H (fp++[s.heap.objs.size])) pp H' b:=λhn hp b hb=>
  #[hn b hb,ltC (fpLt b hb),fpStk b hb,.inl (KU _ hb),λx cc z=>(ck.of z).elim (λq=>(hfp b hb).2.2.2.2.1 x cc q) (ownNe (MN (fpLt b hb))),λp hpp=>by
   rw[hp p (by simpa [lV]using hpp)]
   exact(JZ (fpLt b hb)).symm]
 have DinEx:s.heap.objs.size∈fp++[s.heap.objs.size]:=Ke _ (by simp)
 have cellD:∀x c,(cellsFrom (h2.objs.size+1) scope.names cl).lookup x=ba c->c≠s.heap.objs.size:=λx cc z=>(ck.of z).elim (λq=>JZ (cellLt x cc q)) (ownNe (JA _))
 have fpD:∀b∈fp,b≠s.heap.objs.size:=λb hb=>JZ (fpLt b hb)
 have theEnd:∀s' Y' H' A' vs its nn,Inv (lV X scope cl h2.objs.size N s3 H (fp++[s.heap.objs.size])) [] Y' H' s'->s'.heap.get? s.heap.objs.size=ba { cls:=.type "list",data:=.seq its nn }->∀(hits:∃l:Jn Jr,its=l.toArray/\Vals vs l),H' s.heap.objs.size=gV->Ext X.K A H A' H'->StoreOk X.w X.K A' H' S'->RelL X.K A' H' ws vs->
   RR (.ref s.heap.objs.size) h2.objs.size (.ok .next) s':=by
  intro s' Y' H' A' vs its nn I' hD hits hDn ex so' rl;obtain⟨l,rfl,rv⟩:=hits;obtain⟨m,hn,_⟩:=id I'.loc;have un:Un (rJ X.stack) (fp++[s.heap.objs.size]) H H' s.heap s'.heap:=(Un.kept k2).trans I'.base;have hch:∀b∈fp++[s.heap.objs.size],(b∈X.ex\/X.s₀.heap.objs.size<=b)/\b≠X.env.locals/\(∀x c,X.env.cells.lookup x=ba c->c≠b)/\∀p∈X.pn++J,p.1≠b:=λb hb=>by
   rcases Kc.mp hb with hb|hb
   ·exact#[(hfp b hb).2.2.2.1,(hfp b hb).2.1,(hfp b hb).2.2.2.2.1,(hfp b hb).2.2.2.2.2]
   ·have eb:b=s.heap.objs.size:=by simpa using hb
    subst eb;exact#[.inr I.sz,(JZ I.lt).symm,λx cc z=>JZ (cellLt x cc z),λp hp=>JZ (JO (I.pin p hp).1)]
  have I2:Inv X J Y H' s':=I.call' (show s'.os=s.os from I'.os) un I'.hok I'.bare hch
  have I3:Inv X J Y (bv H' s.heap.objs.size (.lst vs)) s':=Inv.adopt I2 hDn (hch _ DinEx).1 (hch _ DinEx).2.1 (hch _ DinEx).2.2.1 (hch _ DinEx).2.2.2 #[by rw[<- rl.length]; exact hz,l,nn,rv,hD]
  have hCle:s.heap.objs.size<=h2.objs.size:=by rw[hCs]; exact Ma _
  exact fin _ _ s' H' A' vs m hn hDn hDC (Lg (J4 I.lt hCle)) (I.nofs hCle) I'.free (J6 I.sz hCle) (λx cc z=>JZ (J4 (cellLt x cc z) hCle))
   (λp hp=>JZ (J4 (JO (I.pin p hp).1) hCle)) I3 ex so' rl
 have loop:∀s4:Jt,s4={ s3 with heap:=h₁ }->
   codeAny (model X.prog X.w) X.A (.compLoop (.ListComp elt [#[tg,iter,ifs,0]] scope pos) 0 (.ref it) (.ref s.heap.objs.size) (compEnvC scope (cellsFrom (h2.objs.size+1) scope.names cl) h2.objs.size X.env)) (RR (.ref s.heap.objs.size) h2.objs.size) s4:=by
  rintro s4 rfl;show gW (λk s5=>∃i Y5 H5 A5 Z5 S5 done its nn vs ys,Inv (lV X scope cl h2.objs.size N s3 H (fp++[s.heap.objs.size])) [] Y5 H5 s5/\tn i s5.heap/\(∀b∈fp,H5 b=gV)/\s5.heap.get? s.heap.objs.size=ba { cls:=.type "list",data:=.seq (its:Jn Jr).toArray nn }/\H5 s.heap.objs.size=gV/\Vals vs its/\
   Ext X.K A H A5 H5/\EnvRel X.K A5 H5 Z5 Y5/\StoreOk X.w X.K A5 H5 S5/\RelL X.K A5 H5 done vs/\ws=done++ys/\bz mi g c f k i Z5 S5=ba (ys,S')) ?_ n
   #[0,_,H,A,_,S,[],[],0,[],ws,I0,t1,λb hb=>(hfp b hb).1,k1 _ _ hD2,fresh _ (JA _),.nil,.refl,er0,so,.nil,rfl,e]
  rintro k s5 ⟨i,Y5,H5,A5,Z5,S5,done,its,nn,vs,ys,I5,t5,f5,d5,n5,v5,e5,er5,so5,rl5,hw5,w5⟩;have pinD:Inv (lV X scope cl h2.objs.size N s3 H (fp++[s.heap.objs.size])) [(s.heap.objs.size,{ cls:=.type "list",data:=.seq its.toArray nn })] Y5 H5 s5:=I5.pins_of λp hp=>by
   have hp':p=(s.heap.objs.size,{ cls:=.type "list",data:=.seq its.toArray nn }):=by simpa using hp
   subst hp';exact#[d5,n5,hDC,λz=>KT _ (stkLt _ z),λv z=>by cases z]
  have oneD:∀p∈[(s.heap.objs.size,({ cls:=.type "list",data:=.seq its.toArray nn }:Lr))],p.1=s.heap.objs.size:=λp hp=>by
   have hp':p=(s.heap.objs.size,{ cls:=.type "list",data:=.seq its.toArray nn }):=by simpa using hp
   rw[hp']
  cases k with
  | zero=>
   dsimp only[bz]at w5;split at w5
   ·rename_i hst;cases w5;rw[Li]at hw5;subst hw5;show bx (T.done (lV X scope cl h2.objs.size N s3 H (fp++[s.heap.objs.size])) rfl rfl rfl hc i _ s5 Y5 H5 _ pinD (fpOk' f5 oneD) t5 (mit.stop A5 H5 _ i e5 so5 hst)) λr s6 #[hr,I6]=>?_
    subst hr;have p6:=I6.pin _ (Ke _ (JK.mpr rfl));exact theEnd s6 Y5 H5 A5 vs _ nn (I6.pins_of λp hp=>absurd hp (by simp)) p6.1 #[its,rfl,v5] n5 e5 so5 rl5
   ·cases w5
  | succ k=>
   dsimp only[bz]at w5;split at w5
   ·rename_i w hw;obtain⟨go,yl⟩:=mit.go A5 H5 S5 i w e5 so5 hw;show bx (T.item (lV X scope cl h2.objs.size N s3 H (fp++[s.heap.objs.size])) rfl rfl rfl hc i _ s5 Y5 H5 _ pinD (fpOk' f5 oneD) t5 go) λr s6 #[u,hr,h6]=>?_
    subst hr;show bx h6 λ_ s7 #[x,H7,I7,r7,y7,t7,f7]=>?_
    obtain⟨x1,x2,x3⟩:=yl x H7 y7;have I7':=I7.pinned (fpOk' f7 oneD) (T.obj _ _ t7);split at w5
    ·rename_i Z8 S8 h8;show bx (bk.tgt _ _ _ _ _ s7 Y5 H7 x u (λY' H'=>∃A',Ext X.K A5 H5 A' H'/\StoreOk X.w X.K A' H' S8/\EnvRel X.K A' H' Z8 Y') I7' r7 #[A5,Z5,S5,w,Z8,S8,er5.mono x1,x2,x3,h8,λY' H' A' q1 q2 q3=>#[A',x1.trans q1,q2,q3]]) λ_ s8 #[Y8,H8,I8,A8,e58,so8,er8]=>?_
     have e8:Ext X.K A H A8 H8:=e5.trans e58;have pD:∀ {Y':L2.St} {H':Hp} {s':Jt},Inv (lV X scope cl h2.objs.size N s3 H (fp++[s.heap.objs.size])) ([(s.heap.objs.size,{ cls:=.type "list",data:=.seq its.toArray nn })]++jh fp s7.heap) Y' H' s'->s'.heap.get? s.heap.objs.size=ba { cls:=.type "list",data:=.seq its.toArray nn }/\H' s.heap.objs.size=gV:=λI'=>
      let q:=I'.pin _ (Ke _ (KU _ (JK.mpr rfl)))
      #[q.1,q.2.1]
     have pF:∀ {Y':L2.St} {H':Hp} {s':Jt},Inv (lV X scope cl h2.objs.size N s3 H (fp++[s.heap.objs.size])) ([(s.heap.objs.size,{ cls:=.type "list",data:=.seq its.toArray nn })]++jh fp s7.heap) Y' H' s'->(∀b∈fp,H' b=gV)/\∀b∈fp,∀o,s7.heap.get? b=ba o->s'.heap.get? b=ba o:=λI'=>
      #[λb hb=>by
       obtain⟨o,eo,_⟩:=T.obj _ _ t7 b hb;exact(I'.pin (b,o) (Ke _ (Ke _ (fD hb eo)))).2.1,
       λb hb o eo=>(I'.pin (b,o) (Ke _ (Ke _ (fD hb eo)))).1]
     split at w5
     ·rename_i S9 h9;show bx (bk.tst _ _ _ _ _ s8 Y8 H8 (λb H'=>b=true/\∃A',Ext X.K A8 H8 A' H'/\StoreOk X.w X.K A' H' S9) I8 #[A8,Z8,S8,true,S9,er8,so8,h9,λb H' #[z0,A',z1,z2]=>#[z0,A',z1,z2]]) λb s9 #[H9,I9,z0,A9,e9,so9]=>?_
      subst z0;rw[JX rfl];split at w5
      ·rename_i y S10 h10;split at w5
       ·rename_i ys' S4 h11;cases w5;show bx (bk.elt _ _ _ _ _ s9 Y8 H9 (EndV X.w X.K A9 H9 S10 y) I9 #[A9,Z8,S9,y,S10,er8.mono e9,so9,h10,λ_ _ z=>z]) λu10 s10 #[v10,H10,I10,r10,A10,e10,so10,rl10]=>?_
        obtain⟨d10,n10⟩:=pD I10;obtain⟨f10,k10⟩:=pF I10;have hlen:its.length < sizeLine:=by
         have l1:=v5.length;have l2:=rl5.length;rw[hw5,JC,Kr]at hz;omega
        show oo d10 hlen λh' n' hd' hk'=>?_
        have Ib:Inv (lV X scope cl h2.objs.size N s3 H (fp++[s.heap.objs.size])) [] Y8 H10 { s10 with heap:=h' }:=by
         have Ia:Inv (lV X scope cl h2.objs.size N s3 H (fp++[s.heap.objs.size])) [] Y8 H10 s10:=I10.pins_of λp hp=>absurd hp (by simp)
         exact Ia.turned (t':=s10.toks) (it:=s.heap.objs.size) hk' n10 hDC (.inl DinEx) cellD (λp hp=>absurd hp (by simp[lV]))
        show#[k,K2 k,i+1,Y8,H10,A10,Z8,S10,done++[y],its++[u10],n',vs++[v10],ys',Ib,?_,f10,hd',n10,v5.append #v[r10],(e8.trans e9).trans e10,(er8.mono e9).mono e10,so10,?_,?_,h11]
        ·exact T.keep (i+1) s7.heap h' t7 λb hb o eo=>hk' b o (fpD b hb) (k10 b hb o eo)
        ·exact(rl5.mono ((e58.trans e9).trans e10)).append #v[rl10]
        ·rw[hw5,Lz]; rfl
       ·cases w5
      ·cases w5
     ·rename_i S9 h9;show bx (bk.tst _ _ _ _ _ s8 Y8 H8 (λb H'=>b=false/\∃A',Ext X.K A8 H8 A' H'/\StoreOk X.w X.K A' H' S9) I8 #[A8,Z8,S8,false,S9,er8,so8,h9,λb H' #[z0,A',z1,z2]=>#[z0,A',z1,z2]]) λb s9 #[H9,I9,z0,A9,e9,so9]=>?_
      subst z0;rw[J8 J1];obtain⟨d9,n9⟩:=pD I9;obtain⟨f9,k9⟩:=pF I9;show#[k,K2 k,i+1,Y8,H9,A9,Z8,S9,done,its,nn,vs,ys,I9.pins_of λp hp=>absurd hp (by simp),T.keep (i+1) s7.heap _ t7 k9,f9,d9,n9,v5,e8.trans e9,er8.mono e9,so9,rl5.mono (e58.trans e9),hw5,w5]
     ·cases w5
    ·cases w5
   ·cases w5
 exact codeAny_compStart_list (loop _ rfl) (T.self X.A 0 _ _ _ t1 (loop _ rfl))
def qo {fi:FI}{g:FG}{c:FT}{f:FE}{cap:Jn (Jw Jx)}{Z:Fm}{S:aa}{w:W}{S':aa}(e:lb fi g c f cap Z S=ba (w,S')) :
  ∃mi S1 n ys S2,fi Z S=ba (mi,S1)/\mi.len S1=ba n/\bz mi g c f n 0 (eg cap Z) S1=ba (ys,S2)/\ys.length<=sizeLine/\w=.ref S2.length/\S'=S2++[.lst ys]:=by
 unfold lb at e;split at e
 ·rename_i mi S1 h1;split at e
  ·rename_i n h2;split at e
   ·rename_i ys S2 h3;obtain⟨h4,h5,h6⟩:=j8 e;exact#[mi,S1,n,ys,S2,h1,h2,h3,h4,h5,h6]
   ·cases e
  ·cases e
 ·cases e
def BQ {scope:MM}{N:Jn JS}{cap:Jn (Jw Jx)}{tg elt iter:J2}{ifs:Jn J2}{fi:FI}{g:FG}{c:FT}{f:FE}{pos:Mk}(hc:X.calm=true)(hi:GI X tg iter fi)(hck:X.Ok->∃cl,CompOk X scope cl N cap/\BlockOk X scope cl N tg elt ifs g c f)
  (hs:∀x,foldedSetIterable iter X.env x=pure x):GE X (.ListComp elt [#[tg,iter,ifs,0]] scope pos) (lb fi g c f cap):=by
 intro J s Y H Q I ⟨A,Z,S,w,S',er,so,e,hq⟩;obtain⟨mi,S1,n,ys,S2,h1,h2,h3,h4,rfl,rfl⟩:=qo e;obtain⟨cl,ck,bk⟩:=hck I.ok;rw[eval_ListComp];show OW (use:=gV) rfl hs ck.clos ck.kind ck.names (bx (hi J s Y H (λtd H'=>∃A',Ext X.K A H A' H'/\StoreOk X.w X.K A' H' S1/\MIt X.w X.K mi td A' H') I #[A,Z,S,mi,S1,er,so,h1,λtd H' A' z1 z2 z3=>#[A',z1,z2,z3]]) λv s1 q1=>bx q1 λitv s2 q2=>?_)
 obtain⟨it,fp,tn,td,H2,rfl,I2,T,t0,hfp,A2,e2,so2,mit⟩:=q2;show mU (RR:=λacc C=>compPost (model X.prog X.w) X.A X.xe gV (EP X J Y Q) acc C) I2 hc (er.mono e2) so2 ck bk T t0 hfp mit h3 h4 ?_
 intro D C s' H' A' vs m hn hDn hDC hCL hCf hCn hCs hCc hCp I3 ex so3 rl;show#[m,hn,λh' hs'=>?_]
 have I4:Inv X J Y (bv H' D (.lst vs)) { s' with heap:=h' }:=I3.turned (t':=s'.toks) (it:=C) (λb o hb eo=>hs'.extBut b o hb eo) (by rw[aC (Ne.symm hDC)]; exact hCn) hCL (.inr hCs) hCc hCp
 exact#[.ref D,_,I4,rfl,hq _ _ (EndV.after (e2.trans ex) (.lst so3 rl hDn))]
def sy {scope:MM}{N:Jn JS}{cap:Jn (Jw Jx)}{tg elt iter:J2}{ifs:Jn J2}{fi:FI}{g:FG}{c:FT}{f:FE}{pos py spos:Mk}{y:JS}{i:Jx}(hc:X.calm=true)(hi:GI X tg iter fi)(hck:X.Ok->∃cl,CompOk X scope cl N cap/\BlockOk X scope cl N tg elt ifs g c f)
  (hs:∀x,foldedSetIterable iter X.env x=pure x) (hsw:swapsWith (.ListComp elt [#[tg,iter,ifs,0]] scope pos) (ba (.Name y py)) spos.line X.env=pure true) (hN:X.N.Nodup) (hy:X.N[i]?=ba y) (hl:X.env.scope.names.lookup y=ba .local) :
  GS X (.Assign [.Name y py] (.ListComp elt [#[tg,iter,ifs,0]] scope pos) spos) (la (lb fi g c f cap) (CG i)):=by
 intro J s Y H Dd I ⟨A,Z,S,o,S',er,so,e,hd⟩;unfold la at e;split at e
 ·rename_i w S0 h0;simp only[CG]at e;cases e;obtain⟨mi,S1,n,ys,S2,h1,h2,h3,h4,rfl,rfl⟩:=qo h0;obtain⟨cl,ck,bk⟩:=hck I.ok;rw[exec_Assign_Name_used _ _ _ _ hsw];show Jo (N2 (Jo ?_));change wpAny _ X.A (do let _ <- comprehension (.ListComp elt [⟨tg,iter,ifs,0⟩] scope pos) scope X.env _ (newList []) false (eval iter X.env) (ba (assign (.Name y py) X.env))) _ _ s
  show Jo (LI (OW (use:=ba (assign (.Name y py) X.env)) (Q:=λ_ s'=>SP X J Dd .next s') rfl hs ck.clos ck.kind ck.names
   (bx (hi J s Y H (λtd H'=>∃A',Ext X.K A H A' H'/\StoreOk X.w X.K A' H' S1/\MIt X.w X.K mi td A' H') I #[A,Z,S,mi,S1,er,so,h1,λtd H' A' z1 z2 z3=>#[A',z1,z2,z3]]) λv s1 q1=>bx q1 λitv s2 q2=>?_)) (λ_ s' hq=>Ju (Ju hq)) λ_ _ e=>e)
  obtain⟨it,fp,tn,td,H2,rfl,I2,T,t0,hfp,A2,e2,so2,mit⟩:=q2;show mU (RR:=λacc C=>compPost (model X.prog X.w) X.A X.xe (ba (assign (.Name y py) X.env)) (λ_ s'=>SP X J Dd .next s') acc C) I2 hc (er.mono e2) so2 ck bk T t0 hfp mit h3 h4 ?_
  intro D C s' H' A' vs m hn hDn hDC hCL hCf hCn hCs hCc hCp I3 ex so3 rl;obtain⟨oC,esC,epC,hoC,hdC,hrC⟩:=id hn;have I3':Inv X (J++[(C,oC)]) Y (bv H' D (.lst vs)) s':=I3.pins_of λp hp=>by
   rcases Kc.mp hp with hp|hp
   ·exact I3.pin p (Ke _ hp)
   ·have hp':p=(C,oC):=by simpa using hp
    subst hp';exact#[hoC,by rw[aC (Ne.symm hDC)]; exact hCn,hCL,hCf,λv z=>by rw[hdC]at z; cases z]
  change wpAny _ X.A (assign (.Name y py) X.env (.ref D)) _ _ _;show Qt (iI I3' hN hy (.inl hl) (v:=.ref D) rfl (λs4 I4=>?_) (.inr hl))
  have pC:=I4.pin (C,oC) (Ke _ (Ke _ (JK.mpr rfl)));show#[m,#[oC,esC,epC,pC.1,hdC,hrC],λh' hs'=>?_]
  have I5:Inv X J (Y.set i (ba (.ref D))) (bv H' D (.lst vs)) s4:=I4.pins_of λp hp=>I4.pin p (Ke _ (KU _ hp))
  have I6:Inv X J (Y.set i (ba (.ref D))) (bv H' D (.lst vs)) { s4 with heap:=h' }:=I5.turned (t':=s4.toks) (it:=C) (λb o hb eo=>hs'.extBut b o hb eo) (by rw[aC (Ne.symm hDC)]; exact hCn) hCL (.inr hCs) hCc hCp
  obtain⟨Af,f1,f2,f3⟩:=EndV.after (e2.trans ex) (EndV.lst so3 rl hDn);exact#[_,_,I6,hd.nx _ _ #[_,Af,rfl,f1,f2,(er.mono f1).set f3 i]]
 ·cases e
end
open PySem.Builtin.SmallTypes (nextOf)
structure Zap (z p q i j:Jz):Prop where
 pz:p≠z
 qz:q≠z
 iz:i≠z
 jz:j≠z
 pq:p≠q
 pi:p≠i
 pj:p≠j
 qi:q≠i
 qj:q≠j
 ij:i≠j
section
variable{prog:Kf}{w:Kq}
structure Zit (prog:Kf)(w:Kq)(it:Jz)(T:Jx->Kv->Prop)(C:Kv->Prop)(i:Jx)(Uz:Jw (Jr->Prop)):Prop where
 keep:∀j h h',T j h->(∀o,h.get? it=ba o->h'.get? it=ba o)->T j h'
 next:∀V,Uz=ba V->∀(B:Ki) (s:Jt) (Q:Jr->Jt->Prop) (E:Jr->Jt->Prop),T i s.heap->C s.heap->(∀u h' tk,V u->T (i+1) h'->LF it s.heap h'->Q u { s with heap:=h',toks:=tk })->wpAny (model prog w) B (nextOf (.ref it)) Q E s
 stop:Uz=gV->∀(B:Ki) (s:Jt) (Q:Jr->Jt->Prop) (E:Jr->Jt->Prop),B.handled=gV->T i s.heap->C s.heap->(∀h' e,PK it s.heap h'->(∃o,h'.get? e=ba o/\o.cls=.type "StopIteration")->E (.ref e) { s with heap:=h' })->wpAny (model prog w) B (nextOf (.ref it)) Q E s
variable{B:Ki}{E:Jr->Jt->Prop}{s:Jt}{z p q i1 i2:Jz}{T1 T2:Jx->Kv->Prop}{C1 C2:Kv->Prop}{i:Jx}{a b:Jr}
abbrev Zc (z q i1 i2:Jz)(C:Kv->Prop):Prop:=∀h h',C h->(∀c o,c≠z->c≠q->c≠i1->c≠i2->h.get? c=ba o->h'.get? c=ba o)->C h'
def lc {U1 Uq:Jw (Jr->Prop)}{Q:Jr->Jt->Prop}(D:Zap z p q i1 i2)(Zz:Zit prog w i1 T1 C1 i U1)(Z2':∀V1,U1=ba V1->Zit prog w i2 T2 C2 i Uq)(k1:Zc z q i1 i2 C1)(k2:Zc z q i1 i2 C2)(hh:B.handled=gV)
  (hz:Qb s.heap z p q .none) (hp:N1 s.heap p (.ref i1) (.ref i2)) (hq:N1 s.heap q a b) (t1:T1 i s.heap) (t2:T2 i s.heap) (c1:C1 s.heap) (c2:C2 s.heap)
  (hI:∀V1 V2,U1=ba V1->Uq=ba V2->∀u v h' tk,V1 u->V2 v->Qb h' z p q (rawInt s.heap.objs.size)->N1 h' q u v->T1 (i+1) h'->T2 (i+1) h'->N1 h' s.heap.objs.size u v->
   (∀c o,c≠z->c≠q->c≠i1->c≠i2->s.heap.get? c=ba o->h'.get? c=ba o)->Q (.ref s.heap.objs.size) { s with heap:=h',toks:=tk })
  (hE:U1=gV\/Uq=gV->∀h' tk e,(∀c o,c≠z->c≠q->c≠i1->c≠i2->s.heap.get? c=ba o->h'.get? c=ba o)->(∃o,h'.get? e=ba o/\o.cls=.type "StopIteration")->E (.ref e) { s with heap:=h',toks:=tk }) :
  wpAny (model prog w) B (Mz.«zip.__next__» #[[.ref z],[]]) (λfin s'=>∃v,fin=.done (.ret v)/\Q v s') E s:=by
 change wpAny _ _ (field (.ref z) 2 >>= _) _ _ s;show Jo (Ls hz rfl (x:=.bool false) rfl ?_);change wpAny _ _ (field (.ref z) 3 >>= _) _ _ s;show Jo (Ls hz rfl (x:=.ref p) rfl (Jo (Ll hp rfl ?_)));change wpAny _ _ (LC (.ref z) >>= _) _ _ s;unfold LC;show Jo (Jo (Ls hz rfl (x:=.none) rfl (Ju ?_)));simp only[Lp];show Jo (Ol (Jo (Ls hz rfl (x:=.ref q) rfl ?_)));show Jo (Mg hz (by simp) λg1 zz1 s1=>?_)
 replace zz1:Qb g1 z p q .ellipsis:=zz1;show Jo ?_;simp only[List.zipIdx_cons,List.zipIdx_nil,N6,OC];show Jo (Jo (Sn ?_));change wpAny _ _ (nextOf (.ref i1) >>= _) _ _ _;have up1:∀c o,c≠z->s.heap.get? c=ba o->g1.get? c=ba o:=λc o hc e=>s1.extBut c o hc e
 have t1':T1 i g1:=Zz.keep _ _ _ t1 λo e=>up1 _ _ D.iz e
 have c1':C1 g1:=k1 _ _ c1 λc o hc _ _ _ e=>up1 c o hc e
 have fin:∀(g:Kv) (tk:Jx) (it e:Jz),(it=i1\/it=i2)->U1=gV\/Uq=gV->Qb g z p q .ellipsis->(∀c o,c≠z->c≠q->c≠i1->c≠i2->s.heap.get? c=ba o->g.get? c=ba o)->(∃o,g.get? e=ba o/\o.cls=.type "StopIteration")->
   wpAny (model prog w) B (setField (.ref z) 0 .none) (λ_ s''=>E (.ref e) s'') E { s with heap:=g,toks:=tk }:=λg tk it e _ hu gz kg #[oe,he,hc]=>by
  have ne:e≠z:=λx=>by subst x; rw[gz]at he; cases he; simp at hc
  exact Mg gz (by simp) λg' _ sb=>hE hu g' tk e (λc o a1 a2 a3 a4 x=>sb.extBut _ _ a1 (kg c o a1 a2 a3 a4 x)) #[oe,sb.extBut _ _ ne he,hc]
 cases hu1:U1 with
 | none=>
  show Jo (Zz.stop hu1 _ _ _ _ hh t1' c1' λg2 e eb he=>?_)
  exact fin g2 s.toks i1 e (.inl rfl) (.inl hu1) (eb _ _ D.iz.symm zz1) (λc o a1 _ a3 _ x=>eb _ _ a3 (up1 c o a1 x)) he
 | some V1=>
  have Zq:=Z2' V1 hu1;show Jo (Zz.next V1 hu1 _ _ _ _ t1' c1' λu g2 tk2 hu t12 s2=>Ju ?_)
  have q2:N1 g2 q a b:=s2.extBut _ _ D.qi (up1 _ _ D.qz hq);show Jo (Ll q2 rfl (Jo (PP q2 λg3 q3 s3=>?_)))
  replace q3:N1 g3 q u b:=q3;show Jo (M9 (Ju ?_));show Jo (Jo (Sn ?_));change wpAny _ _ (nextOf (.ref i2) >>= _) _ _ _;have up3:∀c o,c≠z->c≠q->c≠i1->s.heap.get? c=ba o->g3.get? c=ba o:=λc o a1 a2 a3 x=>s3.extBut _ _ a2 (s2.extBut _ _ a3 (up1 c o a1 x))
  have zz3:Qb g3 z p q .ellipsis:=s3.extBut _ _ D.qz.symm (s2.extBut _ _ D.iz.symm zz1);have t2':T2 i g3:=Zq.keep _ _ _ t2 λo e=>up3 _ _ D.jz D.qj.symm D.ij.symm e
  have c2':C2 g3:=k2 _ _ c2 λc o a1 a2 a3 _ e=>up3 c o a1 a2 a3 e
  cases hu2:Uq with
  | none=>
   show Jo (Zq.stop hu2 _ _ _ _ hh t2' c2' λg4 e eb he=>?_)
   exact fin g4 tk2 i2 e (.inr rfl) (.inr hu2) (eb _ _ D.jz.symm zz3) (λc o a1 a2 a3 a4 x=>eb _ _ a4 (up3 c o a1 a2 a3 x)) he
  | some V2=>
   show Jo (Zq.next V2 hu2 _ _ _ _ t2' c2' λv g4 tk4 hv t24 s4=>Ju ?_)
   have q4:N1 g4 q u b:=s4.extBut _ _ D.qj q3;show Jo (Ll q4 rfl (Jo (PP q4 λg5 q5 s5=>?_)))
   replace q5:N1 g5 q u v:=q5;show Jo (M9 (Ju (Ju ?_)));show Jo (Ll q5 rfl (Jo (Ou ?_)));have sz:g5.objs.size=s.heap.objs.size:=by rw[s5.1,s4.1,s3.1,s2.1,s1.1]
   have zz5:Qb g5 z p q .ellipsis:=s5.extBut _ _ D.qz.symm (s4.extBut _ _ D.jz.symm zz3);have t15:T1 (i+1) g5:=Zz.keep _ _ _ t12 λo e=>s5.extBut _ _ D.qi.symm (s4.extBut _ _ D.ij (s3.extBut _ _ D.qi.symm e))
   have t25:T2 (i+1) g5:=Zq.keep _ _ _ t24 λo e=>s5.extBut _ _ D.qj.symm e
   have zlt:z < g5.objs.size:=JO zz5;change wpAny _ _ (L6 (.ref z) (.ref g5.objs.size) >>= _) _ _ _;show Jo ?_;unfold L6;have zz6:Qb (g5.push { cls:=.type "tuple",data:=.seq [u,v].toArray }) z p q .ellipsis:=Jq _ zz5;show Jo (Mg zz6 (by simp) λg7 zz7 s7=>?_)
   replace zz7:Qb g7 z p q (rawInt g5.objs.size):=zz7;show Mg zz7 (by simp) λg8 zz8 s8=>?_
   replace zz8:Qb g8 z p q (rawInt g5.objs.size):=zz8;have up8:∀c o,c≠z->g5.get? c=ba o->g8.get? c=ba o:=λc o hc e=>s8.extBut _ _ hc (s7.extBut _ _ hc (Jq _ e))
   have n8:N1 g8 g5.objs.size u v:=s8.extBut _ _ (Lg zlt) (s7.extBut _ _ (Lg zlt) (JH _ rfl));rw[sz]at zz8 n8;show Ju #[_,rfl,?_];change Q (.ref g5.objs.size) _;rw[sz];exact hI V1 V2 hu1 hu2 u v g8 tk4 hu hv zz8 (up8 _ _ D.qz q5) (Zz.keep _ _ _ t15 λo e=>up8 _ _ D.iz e) (Zq.keep _ _ _ t25 λo e=>up8 _ _ D.jz e) n8 λc o a1 a2 a3 a4 e=>up8 c o a1 (s5.extBut _ _ a2 (s4.extBut _ _ a4 (up3 c o a1 a2 a3 e)))
end
end Mi
namespace Mi
open PySem PySem.Spec PyProof.Rows L2
open PySem.Builtin.SmallTypes (nextOf)
abbrev eT (prog:Kf)(w:Kq)(v:Jr)(o:Lr)(C:Kv->Prop):Prop:=∀(B:Ki) (s:Jt) (Q:Jr->Jt->Prop) (E:Jr->Jt->Prop),C s.heap->Q (.ref s.heap.objs.size) { s with heap:=s.heap.push o }->wpAny (model prog w) B (pyIter v) Q E s
abbrev F3 (h:Kv)(o1 o2:Lr):Kv:=(h.push o1).push o2
abbrev F4 (h:Kv)(o1 o2:Lr):Kv:=(F3 h o1 o2).push { cls:=.type "tuple",data:=.seq [.ref h.objs.size,.ref (h.push o1).objs.size].toArray }
abbrev F5 (h:Kv)(o1 o2:Lr):Kv:=(F4 h o1 o2).push { cls:=.type "tuple",data:=.seq [.none,.none].toArray }
abbrev CJ (h:Kv)(o1 o2:Lr):Kv:=(F5 h o1 o2).push { cls:=.type "zip",data:=.fields [.none,.bool false,.bool false,.ref (F3 h o1 o2).objs.size,.ref (F4 h o1 o2).objs.size].toArray }
section
variable{prog:Kf}{w:Kq}{B:Ki}{E:Jr->Jt->Prop}{s:Jt}{v1 v2:Jr}{o1 o2:Lr}{C1 C2:Kv->Prop}
def sA (h1:eT prog w v1 o1 C1)(h2:eT prog w v2 o2 C2)(k2:∀h o,C2 h->C2 (h.push o)) :
  MeetsIn prog w (Mz.«zip.__new__» #[[.type "zip",v1,v2],[]]) (λ_ R s=>C1 s.heap/\C2 s.heap/\R (.ok (.ret (.ref (F5 s.heap o1 o2).objs.size))) { s with heap:=CJ s.heap o1 o2 }):=
 .of_wp λA R s h=>by
  obtain⟨hp,g,d,tk,os⟩:=s;obtain⟨c1,c2,h⟩:=h;have hsub:=sub_zip;have d1:∀(B:Ki) (Q:Jr->Jt->Prop) (E:Jr->Jt->Prop),Q (.ref hp.objs.size) #[hp.push o1,g,d,tk,os]->wpAny (model prog w) B (pyIter v1) Q E #[hp,g,d,tk,os]:=λB Q E q=>h1 B #[hp,g,d,tk,os] Q E c1 q
  have d2:∀(B:Ki) (Q:Jr->Jt->Prop) (E:Jr->Jt->Prop),Q (.ref (hp.push o1).objs.size) #[(hp.push o1).push o2,g,d,tk,os]->wpAny (model prog w) B (pyIter v2) Q E #[hp.push o1,g,d,tk,os]:=λB Q E q=>h2 B #[hp.push o1,g,d,tk,os] Q E (k2 _ _ c2) q
  wp_walk using d1 _ _ _,d2 _ _ _
  exact#[_,rfl,h]
def yE {Q:Jr->Jt->Prop}(h1:eT prog w v1 o1 C1)(h2:eT prog w v2 o2 C2)(k2:∀h o,C2 h->C2 (h.push o))(c1:C1 s.heap)(c2:C2 s.heap)(n1:o1.isFreed=false)(n2:o2.isFreed=false)
  (h:∀h',Qb h' (s.heap.objs.size+4) (s.heap.objs.size+2) (s.heap.objs.size+3) .none->N1 h' (s.heap.objs.size+2) (.ref s.heap.objs.size) (.ref (s.heap.objs.size+1))->N1 h' (s.heap.objs.size+3) .none .none->
   h'.get? s.heap.objs.size=ba o1->h'.get? (s.heap.objs.size+1)=ba o2->h'.objs.size=s.heap.objs.size+5->(∀c o,s.heap.get? c=ba o->h'.get? c=ba o)->Q (.ref (s.heap.objs.size+4)) { s with heap:=h' }) :
  wpAny (model prog w) B (call (.type "zip") [v1,v2]) Q E s:=by
 show RY F.called_zip #v[] (F.typeCall_zip_2 _ _) (F.newCall_zip_2 _ _) (λobj=>F.args_object_init_3 obj _ _) F.entry_zip_new (sA h1 h2 k2) #[c1,c2,?_]
 have e1:(s.heap.push o1).objs.size=s.heap.objs.size+1:=K8 ..;have e2:(F3 s.heap o1 o2).objs.size=s.heap.objs.size+2:=by unfold F3; rw[K8,e1]
 have e3:(F4 s.heap o1 o2).objs.size=s.heap.objs.size+3:=by unfold F4; rw[K8,e2]
 have e4:(F5 s.heap o1 o2).objs.size=s.heap.objs.size+4:=by unfold F5; rw[K8,e3]
 have e5:(CJ s.heap o1 o2).objs.size=s.heap.objs.size+5:=by unfold CJ; rw[K8,e4]
 have g5:(CJ s.heap o1 o2).get? (F5 s.heap o1 o2).objs.size=ba _:=JH _ rfl;have g4:(CJ s.heap o1 o2).get? (F4 s.heap o1 o2).objs.size=ba _:=Jq _ (JH _ rfl);have g3:(CJ s.heap o1 o2).get? (F3 s.heap o1 o2).objs.size=ba _:=Jq _ (Jq _ (JH _ rfl));have g2:(CJ s.heap o1 o2).get? (s.heap.push o1).objs.size=ba o2:=Jq _ (Jq _ (Jq _ (JH _ n2)));have g1:(CJ s.heap o1 o2).get? s.heap.objs.size=ba o1:=Jq _ (Jq _ (Jq _ (Jq _ (JH _ n1))));rw[e2,e3,e4]at g5;rw[e1,e2]at g3;rw[e3]at g4;rw[e1]at g2;change _/\_;rw[e4];exact#[#[_,g5,rfl],h _ g5 g3 g4 g1 g2 e5 λc o x=>Jq _ (Jq _ (Jq _ (Jq _ (Jq _ x))))]
end
end Mi
namespace Mi
open PySem PySem.Spec PyProof.Rows L2
open PySem.Builtin.SmallTypes (nextOf)
section
variable{prog:Kf}{w:Kq}{A:Ki}{E:Jr->Jt->Prop}{s:Jt}
def F6 {it t:Jz}{i:Jx}{items:J7 Jr}{x:Jr}{Q:Jr->Jt->Prop}(hit:s.heap.IsTupleIter it t i)(ht:s.heap.IsTuple t items)(hx:items[i]?=ba x)
  (hQ:∀h',h'.IsTupleIter it t (i+1)->LF it s.heap h'->Q x { s with heap:=h' }):wpAny (model prog w) A (nextOf (.ref it)) Q E s:=by
 obtain⟨o,ho,hc,hd⟩:=id hit;obtain⟨ot,hot,_,nt,hdt⟩:=ht;unfold OJ;show Jo (KI (name:=LG "__next__") hit.typeIs F.slot_tuple_iterator_next (KM F.slot_tuple_iterator_next hit.typeIs F.entry_tuple_iterator_next ?_ (F.args_tuple_iterator_next_1 _)));change wpAny _ _ (field (.ref it) 0 >>= _) _ _ s;show Jo (Ls ho hd (x:=.ref t) rfl ?_);change wpAny _ _ (if (Kk t==Kz)=true then _ else _) _ _ s
 rw[J8 (show ¬ ((Kk t==Kz)=true)from J1)]
 change wpAny _ _ (field (.ref it) 1 >>= _) _ _ s;show Jo (Ls ho hd (x:=.int i 0) rfl (Jo (Ll hot hdt ?_)));simp only[JL,hx];show Jo (Oy ho hd (by simp) (Ju #[x,rfl,Ju (hQ _ #[_,Ln _ ho (PB (Nz hd _)),(QI ..).trans hc,?_] (MA ..))]))
 rw[Nz hd]; simp[rawInt]
def F7 {it t:Jz}{i:Jx}{items:J7 Jr}{Q:Jr->Jt->Prop}(hh:A.handled=gV)(hit:s.heap.IsTupleIter it t i)(ht:s.heap.IsTuple t items)(hx:items[i]?=gV)
  (hE:∀h' e,PK it s.heap h'->(∃o,h'.get? e=ba o/\o.cls=.type "StopIteration")->E (.ref e) { s with heap:=h' }):wpAny (model prog w) A (nextOf (.ref it)) Q E s:=by
 obtain⟨o,ho,hc,hd⟩:=id hit;obtain⟨ot,hot,_,nt,hdt⟩:=ht;unfold OJ;show Jo (KI (name:=LG "__next__") hit.typeIs F.slot_tuple_iterator_next (KM F.slot_tuple_iterator_next hit.typeIs F.entry_tuple_iterator_next ?_ (F.args_tuple_iterator_next_1 _)));change wpAny _ _ (field (.ref it) 0 >>= _) _ _ s;show Jo (Ls ho hd (x:=.ref t) rfl ?_);change wpAny _ _ (if (Kk t==Kz)=true then _ else _) _ _ s
 rw[J8 (show ¬ ((Kk t==Kz)=true)from J1)]
 change wpAny _ _ (field (.ref it) 1 >>= _) _ _ s;show Jo (Ls ho hd (x:=.int i 0) rfl (Jo (Ll hot hdt ?_)));simp only[JL,hx];show Jo (Ol (Jo (Oy ho hd (by simp) ?_)))
 change wpAny _ _ (newExc (.type "StopIteration") [] >>= _) _ _ _;show Jo ?_;simp only[newExc,newTuple];show Jo (Ks ?_ (by size_fits))
 show Jo (m:=firstArgMember _ _) (NC (a:=Kz) (by first|rfl|(simp only[firstArgMember]; rfl)) (Ks ?_ (by size_fits)))
 simp only[raiseNew];show Jo (Qa ?_)
 first|rw[show A.in1.handled=gV from hh]|rw[hh]
 exact Jo (Ju (Rn (hE _ _ (((MA ..).extBut.push _).push _) #[_,JH _ rfl,rfl])))
end
inductive Zs where|tup (a:Jz)|lst (a:Jz)
abbrev Zs.T (it:Jz):Zs->Jx->Kv->Prop
 | .tup a,i,h=>h.IsTupleIter it a i
 | .lst a,i,h=>h.IsListIter it a i
abbrev Zs.at (K:JE)(H:Hp)(i:Jx)(v:V):Zs->Prop
 | .tup a=>∃xs,SqT K H a xs/\xs[i]?=ba v
 | .lst a=>∃xs,SqL K H a xs/\xs[i]?=ba v
abbrev Zs.out (K:JE)(H:Hp)(i:Jx):Zs->Prop
 | .tup a=>∃xs,SqT K H a xs/\xs.length<=i
 | .lst a=>∃xs,SqL K H a xs/\xs.length<=i
def Zs.keep {S:Zs}{it:Jz}{j:Jx}{h h':Kv}(t:S.T it j h)(k:∀o,h.get? it=ba o->h'.get? it=ba o):S.T it j h':=by
 cases S with
 | tup a=>exact t.at k
 | lst a=>exact t.at k
section
variable{X:Cx}{J:Jn (Jz×Lr)}{Y:L2.St}{H:Hp}{s:Jt}
def yF (I:Inv X J Y H s){a b:Jz}{o:Lr}(h:X.K.lookup a=ba o)(f:ie X J H b):a≠b:=λz=>by
 subst z;have hb:=I.ok.mod.kin a o h;rcases f.2.2.2.1 with q|q
 ·exact I.ok.noex a o hb q
 ·exact absurd (J4 (JO (I.ok.bs a o hb).1) q) (KT _)
end
end Mi
namespace Mi
open PySem PySem.Spec PyProof.Rows L2
open PySem.Builtin.SmallTypes (nextOf)
section
variable{X:Cx}{J:Jn (Jz×Lr)}{Y:L2.St}{H:Hp}{s:Jt}{h':Kv}
def yG {a b:Jz}{u:HO}(h:Rd H a u)(f:H b=gV):a≠b:=λz=>by
 subst z;rcases h with h|⟨o,h⟩ <;> (rw[f]at h; cases h)
def Inv.turnedL {t':Jx}{ch:Jn Jz}(I:Inv X J Y H s)(k:∀b o,b∉ch->s.heap.get? b=ba o->h'.get? b=ba o)(hf:∀b∈ch,ie X J H b):Inv X J Y H { s with heap:=h',toks:=t' }:=by
 have nit:∀b u,H b=ba u->b∉ch:=λb u e z=>by have:=(hf b z).1; rw[e]at this; cases this
 show I.step (g':=s.gens) (d':=s.drawn) (ch:=ch) (λb hb=>?_) (λb o _ _ hc e _=>k b o hc e) (λb o _ _ hc e _=>#[o.slots,k b o hc e]) (λ_ _ _ _ n=>n) (λb o hc e=>#[o,k b o hc e]) (λ_ _ e=>e) (λ_ _ _ e=>e) (λb ps e=>#[#[],by rw[e]; simp]) (λm hm=>?_) (λb u e=>?_) I.bare
 ·obtain⟨_,f1,_,f3,f4,f5⟩:=hf b hb;exact#[f3,f1,f4,f5]
 ·obtain⟨o,es,ep,ho,r⟩:=hm;exact#[o,es,ep,k _ o (λz=>(hf _ z).2.1 rfl) ho,r]
 ·show(I.hok b u e).stay (λc v hc q=>k c v ?_ q) (λ_ q=>q) λ_ _ q=>q
  rcases hc with z|z
  ·rw[z]; exact nit b u e
  ·exact nit c _ z
def Zs.zit {S:Zs}{it z q i1 i2:Jz}{i:Jx}{Uz:Jw V}(I:Inv X J Y H s)(hf:∀b∈[z,q,i1,i2],ie X J H b)(g:match Uz with|some v=>S.at X.K H i v|none=>S.out X.K H i) :
  ∃C,Zit X.prog X.w it (S.T it) C i (Uz.map λv u=>RelV v u)/\C s.heap/\Zc z q i1 i2 C:=by
 have zc:∀(a:Jz) (P:Kv->Prop),(∀h h',P h->(∀o,h.get? a=ba o->h'.get? a=ba o)->P h')->(∀b∈[z,q,i1,i2],a≠b)->Zc z q i1 i2 P:=λa P hP hn h h' p k=>
  hP h h' p λo e=>k a o (hn z (by simp)) (hn q (by simp)) (hn i1 (by simp)) (hn i2 (by simp)) e
 have sep:∀ {a:Jz} {u:HO} {o:Lr} {b:Jz},(Rd H a u\/X.K.lookup a=ba o)->b∈[z,q,i1,i2]->a≠b:=λh hb=>h.elim (λr=>yG r (hf _ hb).1) λr=>yF I r (hf _ hb)
 cases S with
 | tup a=>
  obtain⟨xs,hq,hx⟩ : ∃xs,SqT X.K H a xs/\(match Uz with|some v=>xs[i]?=ba v|none=>xs.length<=i):=by
   cases Uz <;> exact g
  obtain⟨its,rv,p,_⟩:=I.tuple hq;have hne:∀b∈[z,q,i1,i2],a≠b:=λb hb=>by
   rcases hq with r|⟨o,_,_,r,_⟩
   ·exact yG r (hf b hb).1
   ·exact yF I r (hf b hb)
  show#[λh=>h.IsTuple a its.toArray,#[λj h h' t k=>Zs.keep (S:=.tup a) t k,λV hV B s2 Q E t c hQ=>?_,λhU B s2 Q E hh t c hE=>?_],p,zc a _ (λh h' #[o,e,r] k=>#[o,k _ e,r]) hne]
  ·cases Uz with
   | none=>cases hV
   | some v=>
    cases hV;obtain⟨u,hu,ru⟩:=rv.get hx;exact F6 t c (x:=u) (by simpa using hu) λh' t' sb=>hQ u h' s2.toks ru t' sb
  ·cases Uz with
   | some v=>cases hU
   | none=>
    have:=L2.Vals.length rv;have hx':xs.length<=i:=hx;exact F7 hh t c (by simp; omega) hE
 | lst a=>
  obtain⟨xs,hq,hx⟩ : ∃xs,SqL X.K H a xs/\(match Uz with|some v=>xs[i]?=ba v|none=>xs.length<=i):=by
   cases Uz <;> exact g
  obtain⟨its,rv,p,_⟩:=I.list hq;have hne:∀b∈[z,q,i1,i2],a≠b:=λb hb=>by
   rcases hq with r|⟨o,_,_,r,_⟩
   ·exact yG r (hf b hb).1
   ·exact yF I r (hf b hb)
  show#[λh=>h.IsList a its.toArray,#[λj h h' t k=>Zs.keep (S:=.lst a) t k,λV hV B s2 Q E t c hQ=>?_,λhU B s2 Q E hh t c hE=>?_],p.isList,zc a _ (λh h' #[o,e,r] k=>#[o,k _ e,r]) hne]
  ·cases Uz with
   | none=>cases hV
   | some v=>
    cases hV;obtain⟨u,hu,ru⟩:=rv.get hx;exact wpAny_nextOf_list_item t c (x:=u) (by simpa using hu) λh' t' sb=>hQ u h' s2.toks ru t' sb
  ·cases Uz with
   | some v=>cases hU
   | none=>
    have:=L2.Vals.length rv;have hx':xs.length<=i:=hx;exact wpAny_nextOf_list_end hh t c (by simp; omega) hE
end
abbrev Zs.is (K:JE)(H:Hp)(i:Jx)(v:V):Zs->Prop
 | .tup a=>∀xs,SqT K H a xs->xs[i]?=ba v
 | .lst a=>∀xs,SqL K H a xs->xs[i]?=ba v
def Zs.at_is {S:Zs}{X:Cx}{J:Jn (Jz×Lr)}{Y:L2.St}{H:Hp}{s:Jt}{i:Jx}{v:V}(I:Inv X J Y H s)(h:S.at X.K H i v):S.is X.K H i v:=by
 cases S with
 | tup a=>obtain⟨xs,hq,hx⟩:=h; exact λys hy=>by rw[I.tuple_inj hy hq]; exact hx
 | lst a=>obtain⟨xs,hq,hx⟩:=h; exact λys hy=>by rw[I.list_inj hy hq]; exact hx
abbrev Hh (K:JE)(S1 S2:Zs):It:=
 #[λi H=>∃x y,S1.at K H i x/\S2.at K H i y,λi H v H'=>∃p x y,S1.is K H i x/\S2.is K H i y/\v=.ref p/\H p=gV/\H'=bv H p (.tup [x,y]),λi H=>S1.out K H i\/(∃x,S1.at K H i x)/\S2.out K H i]
def yH {P:Kf}{w:Kq}{K:JE}{els:Jn J2}{k0:Jx}{tp:Mk}{S1 S2:Zs}{z p q i1 i2:Jz}(D:Zap z p q i1 i2) :
  Turn P w K (.Tuple els k0 tp) (Hh K S1 S2) [z,p,q,i1,i2] z (λi h=>Qb h z p q .none/\N1 h p (.ref i1) (.ref i2)/\(∃a b,N1 h q a b)/\S1.T i1 i h/\S2.T i2 i h) where
 mem:=by simp
 obj:=λi h #[a,b,#[u,v,c],d,e] b' hb=>by
  have it:∀ {S:Zs} {it:Jz},S.T it i h->∃o,h.get? it=ba o/\∀v,o.data≠.cell v:=λ{S it} t=>by
   cases S with
   | tup a=>obtain⟨o,e,_,d⟩:=t; exact#[o,e,λv z=>by rw[d]at z; cases z]
   | lst a=>obtain⟨o,e,_,d⟩:=t; exact#[o,e,λv z=>by rw[d]at z; cases z]
  simp only[JR,Kh,Lu]at hb;rcases hb with rfl|rfl|rfl|rfl|rfl
  ·exact#[_,a,λv z=>by cases z]
  ·exact#[_,b,λv z=>by cases z]
  ·exact#[_,c,λv z=>by cases z]
  ·exact it d
  ·exact it e
 keep:=λi h h' #[a,b,#[u,v,c],d,e] k=>#[k z (by simp) _ a,k p (by simp) _ b,#[u,v,k q (by simp) _ c],Zs.keep d (k i1 (by simp)),Zs.keep e (k i2 (by simp))]
 item:=by
  intro X hP hw hK hc i J s Y H E I hf st hg;subst hP hw hK;obtain⟨x,y,g1,g2⟩:=hg;obtain⟨a,b,⟨u,v,c⟩,d,e⟩:=st;have hf4:∀b∈[z,q,i1,i2],ie X J H b:=λb hb=>hf b (by simp only[JR,Kh,Lu]at hb ⊢; rcases hb with h|h|h|h <;> simp[h])
  obtain⟨C1,Zz,c1,k1⟩:=Zs.zit (it:=i1) (Uz:=ba x) I hf4 g1;obtain⟨C2,Zq,c2,k2⟩:=Zs.zit (it:=i2) (Uz:=ba y) I hf4 g2;have hT:s.TypeIs (.ref z) "zip":=#[_,a,rfl];unfold pyNext;show Jo (MW (KI (name:=LG "__next__") hT F.slot_zip_next (KM F.slot_zip_next hT F.entry_zip_next ?_ (F.args_zip_next_1 _))));show lc D Zz (λ_ _=>Zq) k1 k2 (I.ok.hd hc) a b c d e c1 c2 (λV1 V2 e1 e2 u1 u2 g tk r1 r2 zg qg t1 t2 ng kp=>?_) (λz=>by rcases z with z|z <;> cases z)
  cases e1;cases e2;show Ju #[_,rfl,?_];show wpAny_letOwnedTupleGo_zip (s:={ s with heap:=g,toks:=tk }) zg λg' zg' sb=>?_
  have N0:H s.heap.objs.size=gV:=I.hok.fresh (JA _);have lt:∀ {b:Jz},b∈[z,p,q,i1,i2]->s.heap.objs.size≠b:=λ{b} hb=>by
   have:∃o,s.heap.get? b=ba o:=by
    have it:∀ {S:Zs} {it:Jz},S.T it i s.heap->∃o,s.heap.get? it=ba o:=λ{S it} t=>by
     cases S with
     | tup a=>obtain⟨o,e,_⟩:=t; exact#[o,e]
     | lst a=>obtain⟨o,e,_⟩:=t; exact#[o,e]
    simp only[JR,Kh,Lu]at hb;rcases hb with rfl|rfl|rfl|rfl|rfl
    ·exact#[_,a]
    ·exact#[_,b]
    ·exact#[_,c]
    ·exact it d
    ·exact it e
   obtain⟨o,e⟩:=this;exact Lg (JO e)
  have up:∀b o,b∉[z,q,i1,i2]->s.heap.get? b=ba o->g'.get? b=ba o:=λb o hb e=>by
   simp only[JR,Kh,Lu,Q8]at hb;exact sb.extBut _ _ hb.1 (kp b o hb.1 hb.2.1 hb.2.2.1 hb.2.2.2 e)
  have I1:Inv X J Y H { s with heap:=g',toks:=tk }:=Mi.Inv.turnedL I up hf4
  have ng':N1 g' s.heap.objs.size u1 u2:=sb.extBut _ _ (lt (by simp)) ng
  have I2:Inv X J Y (bv H s.heap.objs.size (.tup [x,y])) { s with heap:=g',toks:=tk }:=by
   show Mi.Inv.adopt I1 N0 (.inr I.sz) (Lg I.lt) (λw c e=>?_) (λp hp=>?_) #[by change 2<=sizeLine; decide,[u1,u2],.cons r1 #v[r2],#[_,ng',rfl,0,rfl]]
   ·obtain⟨v,q⟩:=I.cell w c e;exact JZ q.lt
   ·exact JZ (JO (I.pin p hp).1)
  show#[.ref s.heap.objs.size,_,I2,rfl,#[s.heap.objs.size,x,y,Zs.at_is I g1,Zs.at_is I g2,rfl,N0,rfl],#[zg',up p _ ?_ b,#[u1,u2,sb.extBut _ _ D.qz qg],Zs.keep t1 λo e=>sb.extBut _ _ D.iz e,Zs.keep t2 λo e=>sb.extBut _ _ D.jz e],λb hb=>?_]
  ·simp only[JR,Kh,Lu,Q8];exact#[D.pz,D.pq,D.pi,D.pj]
  ·rw[aC (Ne.symm (lt hb))];exact(hf b hb).1
 done:=by
  intro X hP hw hK hc i J s Y H E I hf st hg;subst hP hw hK;obtain⟨a,b,⟨u,v,c⟩,d,e⟩:=st;have hf4:∀b∈[z,q,i1,i2],ie X J H b:=λb hb=>hf b (by simp only[JR,Kh,Lu]at hb ⊢; rcases hb with h|h|h|h <;> simp[h])
  have hT:s.TypeIs (.ref z) "zip":=#[_,a,rfl];unfold pyNext;show Jo (MW (KI (name:=LG "__next__") hT F.slot_zip_next (KM F.slot_zip_next hT F.entry_zip_next ?_ (F.args_zip_next_1 _))));have ends:∀h' tk e,(∀c o,c≠z->c≠q->c≠i1->c≠i2->s.heap.get? c=ba o->h'.get? c=ba o)->(∃o,h'.get? e=ba o/\o.cls=.type "StopIteration")->
    wpAny (model X.prog X.w) X.A (do if <- isInstance (.ref e) (.type "StopIteration")then pure (gV:Jw Jr)else throw (.ref e)) (λr s1=>r=gV/\Inv X J Y H s1) E { s with heap:=h',toks:=tk }:=λh' tk e k #[o,ho,hc]=>
   Jo (MF (T:="StopIteration") (b:=true) #[o,ho,hc] Os (Ju #[rfl,Mi.Inv.turnedL I (λb o hb e=>by
    simp only[JR,Kh,Lu,Q8]at hb;exact k b o hb.1 hb.2.1 hb.2.2.1 hb.2.2.2 e) hf4]))
  rcases hg with g1|⟨⟨x,g1⟩,g2⟩
  ·obtain⟨C1,Zz,c1,k1⟩:=Zs.zit (it:=i1) (Uz:=gV) I hf4 g1;exact lc (Uq:=gV) D Zz (λV1 e1=>by cases e1) k1 (C2:=λ_=>Rs) (λ_ _ _ _=>trivial) (I.ok.hd hc) a b c d e c1 trivial (λV1 V2 e1 _=>by cases e1) λ_ h' tk e k he=>ends h' tk e k he
  ·obtain⟨C1,Zz,c1,k1⟩:=Zs.zit (it:=i1) (Uz:=ba x) I hf4 g1;obtain⟨C2,Zq,c2,k2⟩:=Zs.zit (it:=i2) (Uz:=gV) I hf4 g2;exact lc D Zz (λ_ _=>Zq) k1 k2 (I.ok.hd hc) a b c d e c1 c2 (λV1 V2 _ e2=>by cases e2) λ_ h' tk e k he=>ends h' tk e k he
 self:=λ_ _ _ _ _ st h=>Rc st.1 h
end Mi
namespace Mi
open PySem PySem.Spec PyProof.Rows L2
abbrev E4:W->Jw (Jn W)
 | .tup xs=>ba xs
 | _=>gV
abbrev BR (f:FA):FI:=λZ S=>match f Z S with
 | some ([x,y],S1)=>match E4 x,E4 y with
  | some xs,ba ys=>ba (.its (l4 xs ys),S1)
  | _,_=>match x,y with
   | .ref r,.ref q=>match fS S1 r,fS S1 q with
    | some _,ba _=>ba (.zl r q,S1)
    | _,_=>gV
   | _,_=>gV
 | _=>gV
section
variable{X:Cx}{J:Jn (Jz×Lr)}{Y:L2.St}{H:Hp}{s:Jt}{A:Jn Jz}
abbrev ZRel (K:JE)(A:Jn Jz)(H:Hp)(xs:Jn W):Zs->Prop
 | .tup a=>∃vs,SqT K H a vs/\RelL K A H xs vs
 | .lst a=>K5
def ZRel.mono {K:JE}{A A':Jn Jz}{H H':Hp}{xs:Jn W}{S:Zs}(e:Ext K A H A' H')(h:ZRel K A H xs S):ZRel K A' H' xs S:=by
 cases S with
 | tup a=>obtain⟨vs,h1,h2⟩:=h; exact#[vs,e.tp _ _ h1,h2.mono e]
 | lst a=>exact h
def ZRel.at {K:JE}{xs:Jn W}{S:Zs}{i:Jx}{w:W}(h:ZRel K A H xs S)(hi:xs[i]?=ba w):∃v,S.at K H i v/\Rel K A H w v:=by
 cases S with
 | tup a=>obtain⟨vs,h1,h2⟩:=h; obtain⟨v,h3,h4⟩:=h2.get hi; exact#[v,#[vs,h1,h3],h4]
 | lst a=>exact h.elim
def ZRel.is {K:JE}{xs:Jn W}{S:Zs}{i:Jx}{w:W}{v:V}(h:ZRel K A H xs S)(hi:xs[i]?=ba w)(z:S.is K H i v):Rel K A H w v:=by
 obtain⟨v',h1,h2⟩:=h.at hi;cases S with
 | tup a=>
  obtain⟨vs,q,e⟩:=h1;have:=z vs q;rw[e]at this; cases this
  exact h2
 | lst a=>exact h.elim
def ZRel.out {K:JE}{xs:Jn W}{S:Zs}{i:Jx}(h:ZRel K A H xs S)(hi:xs.length<=i):S.out K H i:=by
 cases S with
 | tup a=>obtain⟨vs,h1,h2⟩:=h; exact#[vs,h1,by rw[<- h2.length]; exact hi]
 | lst a=>exact h.elim
def qp {xs ys:Jn W}{i:Jx}{w:W}(h:(l4 xs ys)[i]?=ba w):∃x y,xs[i]?=ba x/\ys[i]?=ba y/\w=.tup [x,y]:=by
 unfold l4 at h;rw[PC]at h;split at h
 ·rename_i x y e1 e2;cases h;exact#[x,y,e1,e2,rfl]
 ·cases h
def BS {S1 S2:Zs}{xs ys:Jn W}(z1:ZRel X.K A H xs S1)(z2:ZRel X.K A H ys S2):MIt X.w X.K (.its (l4 xs ys)) (Hh X.K S1 S2) A H:=by
 show#[λA' H' S i w e so hi=>?_,λA' H' S i e so hi=>?_]
 ·simp only[MI.at,Kb]at hi;obtain⟨x,y,e1,e2,rfl⟩:=qp hi;obtain⟨v,g1,r1⟩:=(z1.mono e).at e1;obtain⟨u,g2,r2⟩:=(z2.mono e).at e2;show#[#[v,u,g1,g2],λp H2 #[a,v',u',q1,q2,hp,hn,hH]=>?_]
  subst hp hH;have ex:Ext X.K A' H' A' (bv H' a (.tup [v',u'])):=cF (.inl hn);exact#[ex,so.lay hn,.tup (.of aK) #v[((z1.mono e).is e1 q1).mono ex,((z2.mono e).is e2 q2).mono ex]]
 ·simp only[MI.at,Kb,KH,l4,LR]at hi
  by_cases h1:xs.length<=i
  ·exact .inl ((z1.mono e).out h1)
  ·have hx:i < xs.length:=∅
   obtain⟨v,g1,_⟩:=(z1.mono e).at (Jy hx);exact .inr #[#[v,g1],(z2.mono e).out ∅]
def yI {r q:Jx}{a b:Jz}(ea:A[r]?=ba a)(eb:A[q]?=ba b):MIt X.w X.K (.zl r q) (Hh X.K (.lst a) (.lst b)) A H:=by
 show#[λA' H' S i w e so hi=>?_,λA' H' S i e so hi=>?_]
 ·simp only[MI.at]at hi;split at hi
  ·rename_i xs ys hx hy;simp only[Kb]at hi;obtain⟨x,y,e1,e2,rfl⟩:=qp hi;obtain⟨vs,h1,r1⟩:=bo so hx (e.ad _ _ ea);obtain⟨us,h2,r2⟩:=bo so hy (e.ad _ _ eb);obtain⟨v,g1,q1⟩:=r1.get e1;obtain⟨u,g2,q2⟩:=r2.get e2;show#[#[v,u,#[vs,h1,g1],#[us,h2,g2]],λp H2 #[c,v',u',z1,z2,hp,hn,hH]=>?_]
   subst hp hH;have t1:=z1 vs h1;rw[g1]at t1; cases t1
   have t2:=z2 us h2;rw[g2]at t2; cases t2
   have ex:Ext X.K A' H' A' (bv H' c (.tup [v,u])):=cF (.inl hn);exact#[ex,so.lay hn,.tup (.of aK) #v[q1.mono ex,q2.mono ex]]
  ·cases hi
 ·simp only[MI.at]at hi;split at hi
  ·rename_i xs ys hx hy;simp only[Kb,KH,l4,LR]at hi;obtain⟨vs,h1,r1⟩:=bo so hx (e.ad _ _ ea);obtain⟨us,h2,r2⟩:=bo so hy (e.ad _ _ eb)
   by_cases hl:xs.length<=i
   ·exact .inl #[vs,h1,by rw[<- r1.length]; exact hl]
   ·have hx':i < xs.length:=∅
    obtain⟨v,g1,_⟩:=r1.get (Jy hx');exact .inr #[#[v,vs,h1,g1],us,h2,by rw[<- r2.length]; omega]
  ·cases hi
def oq {x:W}{v:V}{u:Jr}{xs:Jn W}(I:Inv X J Y H s)(r:Rel X.K A H x v)(ru:RelV v u)(e:E4 x=ba xs) :
  ∃(S:Zs) (o:Lr) (C:Kv->Prop),ZRel X.K A H xs S/\eT X.prog X.w u o C/\C s.heap/\(∀h o,C h->C (h.push o))/\o.isFreed=false/\∀it h,h.get? it=ba o->S.T it 0 h:=by
 cases r with
 | @tup ws a vs hq rl=>
  cases e;obtain⟨its,rv,p,_⟩:=I.tuple hq;obtain rfl:u=Kk a:=ru;exact#[.tup a,{ cls:=.type "tuple_iterator",data:=.fields [.ref a,.int 0 0].toArray },λh=>h.IsTuple a its.toArray,#[vs,hq,rl],λB s Q E c hQ=>Qp c hQ,p,λh o #[ot,e,r]=>#[ot,Jq _ e,r],rfl,λit h e=>#[_,e,rfl,rfl]]
 | _=>cases e
def yJ:bootBuiltins "zip" = ba (.type "zip"):=rfl
def uf {a:Jz}{xs:Jn V}{u:Jr}(I:Inv X J Y H s)(ru:RelV (.ref a) u)(hq:SqL X.K H a xs) :
  ∃(o:Lr) (C:Kv->Prop),eT X.prog X.w u o C/\C s.heap/\(∀h o,C h->C (h.push o))/\o.isFreed=false/\∀it h,h.get? it=ba o->(Zs.lst a).T it 0 h:=by
 obtain⟨its,rv,p,_⟩:=I.list hq;obtain rfl:u=Kk a:=ru;exact#[{ cls:=.type "list_iterator",data:=.fields [.ref a,.int 0 0].toArray },λh=>h.IsList a its.toArray,λB s Q E c hQ=>M1 c hQ,p.isList,λh o #[ot,e,r]=>#[ot,Jq _ e,r],rfl,λit h e=>#[_,e,rfl,rfl]]
def Ef {els:Jn J2}{k0:Jx}{tp:Mk}{a b:J2}{f:FA}{p pos:Mk}(hg:Gl X "zip")(hm:X.mg "zip" = gV)(ha:GA X [a,b] f)(hs:starEach [a,b] X.env=[(false,eval a X.env),(false,eval b X.env)])(hs2:starEach [b] X.env=[(false,eval b X.env)]) :
  GI X (.Tuple els k0 tp) (.Call (.Name "zip" p) [a,b] [] pos) (BR f):=by
 intro J s Y H R I ⟨A,Z,S,mi,S',er,so,e,hq⟩;have fin:∀ {s1:Jt} {H1:Hp} {u v:Jr} {Sa Sb:Zs} {oa ob:Lr} {Ca Cb:Kv->Prop},Inv X J Y H1 s1->eT X.prog X.w u oa Ca->Ca s1.heap->oa.isFreed=false->(∀it h,h.get? it=ba oa->Sa.T it 0 h)->eT X.prog X.w v ob Cb->Cb s1.heap->(∀h o,Cb h->Cb (h.push o))->ob.isFreed=false->(∀it h,h.get? it=ba ob->Sb.T it 0 h)->R (Hh X.K Sa Sb) H1->
   wpAny (model X.prog X.w) X.A (call (.type "zip") [u,v]) (λv s=>wpAny (model X.prog X.w) X.A (pyIter v) (Fj X J Y (.Tuple els k0 tp) R) X.xe s) X.xe s1:=λ{s1 H1 u v Sa Sb oa ob Ca Cb} I1 ia ca na ta ib cb kb nb tb hR=>by
  show yE ia ib kb ca cb na nb λh' hz hp hq' g1 g2 hsz kp=>?_
  have I2:Inv X J Y H1 { s1 with heap:=h' }:=I1.kept (t':=s1.toks) kp
  show Rc (s:={ s1 with heap:=h' }) hz ?_
  have D:Zap (s1.heap.objs.size+4) (s1.heap.objs.size+2) (s1.heap.objs.size+3) s1.heap.objs.size (s1.heap.objs.size+1):=by constructor <;> (intro z; simp at z)
  show#[s1.heap.objs.size+4,_,_,_,H1,rfl,I2,yH (S1:=Sa) (S2:=Sb) D,#[hz,hp,#[_,_,hq'],ta _ _ g1,tb _ _ g2],λb hb=>?_,hR]
  have hb':s1.heap.objs.size<=b:=by
   simp only[JR,Kh,Lu]at hb;rcases hb with rfl|rfl|rfl|rfl|rfl
   ·exact Mb _ _
   ·exact Mb _ _
   ·exact Mb _ _
   ·exact JA _
   ·exact Mb _ _
  exact I1.fpOk hb' (I1.hok.fresh hb')
 unfold BR at e;split at e
 ·rename_i x y S1 h1;show TX (ic I hg hm yJ (LM (bx (ha pos J s Y H _ I #[A,Z,S,_,_,er,so,h1,λ_ _ z=>z]) λus s1 #[vs,H1,I1,r1,A1,z1,z2,z3]=>?_) (by rw[hs,hs2]) (by rw[hs2]; rfl)))
  cases z3 with
  | cons ra t=>
   cases t with
   | cons rb t=>
    cases t;cases r1 with
    | cons ua t=>
     cases t with
     | cons ub t=>
      cases t;split at e
      ·rename_i xs ys e1 e2;cases e;obtain⟨Sa,oa,Ca,za,ia,ca,ka,na,ta⟩:=oq I1 ra ua e1;obtain⟨Sb,ob,Cb,zb,ib,cb,kb,nb,tb⟩:=oq I1 rb ub e2;exact fin I1 ia ca na ta ib cb kb nb tb (hq _ _ A1 z1 z2 (BS za zb))
      ·split at e
       ·rename_i r q;split at e
        ·rename_i xs ys hx hy;cases e;cases ra with
         | @ref _ a ea=>
          cases rb with
          | @ref _ b eb=>
           obtain⟨va,q1,_⟩:=bo z2 hx ea;obtain⟨vb,q2,_⟩:=bo z2 hy eb;obtain⟨oa,Ca,ia,ca,ka,na,ta⟩:=uf I1 ua q1;obtain⟨ob,Cb,ib,cb,kb,nb,tb⟩:=uf I1 ub q2;exact fin I1 ia ca na ta ib cb kb nb tb (hq _ _ A1 z1 z2 (yI ea eb))
        ·cases e
       ·cases e
 ·cases e
end
open PySem.Builtin.SmallTypes (nextOf)
section
variable{prog:Kf}{w:Kq}{B:Ki}{E:Jr->Jt->Prop}{s:Jt}{e it:Jz}{T:Jx->Kv->Prop}{C:Kv->Prop}{i:Jx}{old:Jr}
structure EnAt (h0 h:Kv)(e it:Jz)(fs:J7 Jr)(T:Kv->Prop):Prop where
 here:h.get? e=ba { cls:=.type "enumerate",dict:=gV,data:=.fields fs,slots:=#[] }
 turn:T h
 kept:∀b o,b≠e->b≠it->h0.get? b=ba o->h.get? b=ba o
def EnAt.put {h0:Kv}{fs:J7 Jr}{T:Kv->Prop}{k:Jx}{v:Jr}{Q:TW->Jt->Prop}(x:EnAt h0 s.heap e it fs T)(hne:e≠it)(kT:∀h h',T h->(∀o,h.get? it=ba o->h'.get? it=ba o)->T h')(hk:k < fs.size)
  (q:∀h',EnAt h0 h' e it (fs.setIfInBounds k v) T->LF e s.heap h'->Q () { s with heap:=h' }):wpAny (model prog w) B (setField (.ref e) k v) Q E s:=
 Mg x.here hk λh' y sb=>q h' #[y,kT _ _ x.turn λo z=>sb.extBut _ _ (Ne.symm hne) z,λb o h1 h2 z=>sb.extBut b o h1 (x.kept b o h1 h2 z)] sb
def mV {Uz:Jw (Jr->Prop)}{Q:Jr->Jt->Prop}(Zx:Zit prog w it T C i Uz)(hh:B.handled=gV)(he:Tt s.heap e it (i:JI) old)(t:T i s.heap)(c:C s.heap)(hne:e≠it)
  (hI:∀V,Uz=ba V->∀u h' tk tk0,V u->IsEnumOut h' e it ((i:JI)+1) u s.heap.objs.size->T (i+1) h'->h'.get? s.heap.objs.size=ba { cls:=.type "tuple",data:=.seq [.int i tk0,u].toArray }->
   (∀b o,b≠e->b≠it->s.heap.get? b=ba o->h'.get? b=ba o)->Q (.ref s.heap.objs.size) { s with heap:=h',toks:=tk })
  (hE:Uz=gV->∀h' x,PK it s.heap h'->(∃o,h'.get? x=ba o/\o.cls=.type "StopIteration")->E (.ref x) { s with heap:=h' }) :
  wpAny (model prog w) B (Mz.«enumerate.__next__» #[[.ref e],[]]) (λfin s'=>∃v,fin=.done (.ret v)/\Q v s') E s:=by
 obtain⟨hp,g,d,tk,os⟩:=s;change wpAny _ _ (field (.ref e) 2 >>= _) _ _ _;show Jo (Ls he rfl (x:=.ref it) rfl (Jo ?_));cases Uz with
 | none=>exact Zx.stop rfl _ _ _ _ hh t c λh' x a b=>hE rfl h' x a b
 | some V=>
  show Zx.next V rfl _ _ _ _ t c λu ha tka hu ta sba=>?_
  have kT:=Zx.keep (i+1);have xa:EnAt hp ha e it [.none,.bool false,.ref it,rawInt i,.none,old].toArray (T (i+1)):=#[(sba.2 e hne).trans he,ta,λb o _ h2 z=>sba.extBut b o h2 z]
  have za:ha.objs.size=hp.objs.size:=sba.1;clear sba ta;change wpAny _ _ (field (.ref e) 3 >>= _) _ _ #[ha,g,d,tka,os];show Jo (Ls xa.here rfl (x:=rawInt i) rfl ?_);change wpAny _ _ (field (.ref e) 4 >>= _) _ _ #[ha,g,d,tka,os];show Jo (Ls xa.here rfl (x:=.none) rfl ?_);change wpAny _ _ (mkInt i >>= _) _ _ #[ha,g,d,tka,os];show Jo (Rp (Jo (xa.put (s:=#[ha,g,d,tka+1,os]) hne kT (by simp) λhb xb sb1=>Jo (xb.put (s:=#[hb,g,d,tka+1,os]) hne kT (by simp) λhc xc sb2=>Jo (Ou ?_)))))
  have zc:hc.objs.size=hp.objs.size:=by rw[sb2.1,<- za]; exact sb1.1
  have hel:hp.objs.size≠e:=Lg (JO he);have new:=JH hc (o:={ cls:=.type "tuple",data:=.seq [.int i tka,u].toArray }) rfl;have xd:EnAt hp (hc.push { cls:=.type "tuple",data:=.seq [.int i tka,u].toArray }) e it [.none,.bool false,.ref it,rawInt ((i:JI)+1),.none,old].toArray (T (i+1)):=#[Jq _ xc.here,kT _ _ xc.turn λo z=>Jq _ z,λb o h1 h2 z=>Jq _ (xc.kept b o h1 h2 z)]
  rw[zc]at new;change wpAny _ _ (LC (.ref e) >>= _) _ _ #[hc.push _,g,d,tka+1,os];rw[zc];generalize hc.push { cls:=.type "tuple",data:=.seq [.int i tka,u].toArray }=hd at new xd ⊢;clear zc sb2 xc sb1 xb hb xa za;show Jo ?_;unfold LC;show Jo (Ls xd.here rfl (x:=.none) rfl (Ju ?_));simp only[Lp];show Jo (Ol (Jo (Ls xd.here rfl (x:=old) rfl (Jo (xd.put (s:=#[hd,g,d,tka+1,os]) hne kT (by simp) λh1 x1 s1=>Jo ?_)))))
  unfold L6;show Jo (x1.put (s:=#[h1,g,d,tka+1,os]) hne kT (by simp) λh2 x2 s2=>x2.put (s:=#[h2,g,d,tka+1,os]) hne kT (by simp) λh3 x3 s3=>Jo (M9 (Ju #[_,rfl,hI V rfl u h3 (tka+1) tka hu x3.here x3.turn ?_ x3.kept])))
  exact s3.extBut _ _ hel (s2.extBut _ _ hel (s1.extBut _ _ hel new))
variable{v:Jr}{o:Lr}
def qr (h1:eT prog w v o C) :
  MeetsIn prog w (Mz.«enumerate.__new__» #[[.type "enumerate",v],[]]) (λ_ R s=>C s.heap/\R (.ok (.ret (.ref (s.heap.push o).objs.size))) { s with heap:=(s.heap.push o).push { cls:=.type "enumerate",data:=.fields [.none,.bool false,.ref s.heap.objs.size,rawInt 0,.none,.none].toArray } }):=
 .of_wp λA R s h=>by
  obtain⟨hp,g,d,tk,os⟩:=s;obtain⟨c,h⟩:=h;have hsub:=sub_enumerate;have d1:∀(B:Ki) (Q:Jr->Jt->Prop) (E:Jr->Jt->Prop),Q (.ref hp.objs.size) #[hp.push o,g,d,tk,os]->wpAny (model prog w) B (pyIter v) Q E #[hp,g,d,tk,os]:=λB Q E q=>h1 B #[hp,g,d,tk,os] Q E c q
  wp_walk
  show wpAny_stack_any λst=>Ju ?_
  split
  ·rename_i c _ _ _ _ _;cases(c==Lx "enumerate")
   ·wp_walk using d1 _ _ _
    exact#[_,rfl,h]
   ·wp_walk using d1 _ _ _
    exact#[_,rfl,h]
  ·wp_walk using d1 _ _ _
   exact#[_,rfl,h]
def vT {Q:Jr->Jt->Prop}(h1:eT prog w v o C)(c:C s.heap)(n1:o.isFreed=false)
  (h:∀h',Tt h' (s.heap.objs.size+1) s.heap.objs.size 0 .none->h'.get? s.heap.objs.size=ba o->(∀b o,s.heap.get? b=ba o->h'.get? b=ba o)->Q (.ref (s.heap.objs.size+1)) { s with heap:=h' }) :
  wpAny (model prog w) B (call (.type "enumerate") [v]) Q E s:=by
 show RY F.called_enumerate #v[] (F.typeCall_enumerate_1 _) (F.newCall_enumerate_1 _) (λobj=>F.args_object_init_2 obj _) F.entry_enumerate_new (qr h1) #[c,?_]
 have hz:(s.heap.push o).objs.size=s.heap.objs.size+1:=K8 ..;change _/\_;rw[hz];have he:Tt ((s.heap.push o).push { cls:=.type "enumerate",data:=.fields [.none,.bool false,.ref s.heap.objs.size,rawInt 0,.none,.none].toArray }) (s.heap.objs.size+1) s.heap.objs.size 0 .none:=by
  have:=JH (s.heap.push o) (o:={ cls:=.type "enumerate",data:=.fields [.none,.bool false,.ref s.heap.objs.size,rawInt 0,.none,.none].toArray }) rfl;rw[hz]at this; exact this
 exact#[#[_,he,rfl],h _ he (Jq _ (JH _ n1)) λb o x=>Jq _ (Jq _ x)]
end
abbrev IT (K:JE)(S1:Zs):It:=
 #[λi H=>∃x,S1.at K H i x,λi H v H'=>∃p x,S1.is K H i x/\v=.ref p/\H p=gV/\H'=bv H p (.tup [.int i,x]),λi H=>S1.out K H i]
def vU {P:Kf}{w:Kq}{K:JE}{els:Jn J2}{k0:Jx}{tp:Mk}{S1:Zs}{z i1:Jz}(D:z≠i1) :
  Turn P w K (.Tuple els k0 tp) (IT K S1) [z,i1] z (λi h=>(∃old,Tt h z i1 i old)/\S1.T i1 i h) where
 mem:=by simp
 obj:=λi h #[#[old,a],d] b' hb=>by
  have it:∀ {S:Zs} {it:Jz},S.T it i h->∃o,h.get? it=ba o/\∀v,o.data≠.cell v:=λ{S it} t=>by
   cases S with
   | tup a=>obtain⟨o,e,_,d⟩:=t; exact#[o,e,λv z=>by rw[d]at z; cases z]
   | lst a=>obtain⟨o,e,_,d⟩:=t; exact#[o,e,λv z=>by rw[d]at z; cases z]
  simp only[JR,Kh,Lu]at hb;rcases hb with rfl|rfl
  ·exact#[_,a,λv z=>by cases z]
  ·exact it d
 keep:=λi h h' #[#[old,a],d] k=>#[#[old,k z (by simp) _ a],Zs.keep d (k i1 (by simp))]
 item:=by
  intro X hP hw hK hc i J s Y H E I hf st hg;subst hP hw hK;obtain⟨x,g1⟩:=hg;obtain⟨⟨old,a⟩,d⟩:=st;have hf4:∀b∈[z,z,i1,i1],ie X J H b:=λb hb=>hf b (by simp only[JR,Kh,Lu]at hb ⊢; rcases hb with h|h|h|h <;> simp[h])
  obtain⟨C1,Zz,c1,k1⟩:=Zs.zit (it:=i1) (Uz:=ba x) I hf4 g1;have hT:s.TypeIs (.ref z) "enumerate":=#[_,a,rfl];unfold pyNext;show Jo (MW (KI (name:=LG "__next__") hT F.slot_enumerate_next (KM F.slot_enumerate_next hT F.entry_enumerate_next ?_ (F.args_enumerate_next_1 _))));show mV Zz (I.ok.hd hc) a d c1 D (λV e1 u g tk tk0 r1 zg t1 ng kp=>?_) (λz=>by cases z)
  cases e1;show Ju #[_,rfl,?_];show wpAny_letOwnedTupleGo_enum (s:={ s with heap:=g,toks:=tk }) zg λg' zg' sb=>?_
  have N0:H s.heap.objs.size=gV:=I.hok.fresh (JA _);have lt:∀ {b:Jz},b∈[z,i1]->s.heap.objs.size≠b:=λ{b} hb=>by
   have:∃o,s.heap.get? b=ba o:=by
    have it:∀ {S:Zs} {it:Jz},S.T it i s.heap->∃o,s.heap.get? it=ba o:=λ{S it} t=>by
     cases S with
     | tup a=>obtain⟨o,e,_⟩:=t; exact#[o,e]
     | lst a=>obtain⟨o,e,_⟩:=t; exact#[o,e]
    simp only[JR,Kh,Lu]at hb;rcases hb with rfl|rfl
    ·exact#[_,a]
    ·exact it d
   obtain⟨o,e⟩:=this;exact Lg (JO e)
  have up:∀b o,b∉[z,i1]->s.heap.get? b=ba o->g'.get? b=ba o:=λb o hb e=>by
   simp only[JR,Kh,Lu,Q8]at hb;exact sb.extBut _ _ hb.1 (kp b o hb.1 hb.2 e)
  have I1:Inv X J Y H { s with heap:=g',toks:=tk }:=Mi.Inv.turnedL I up hf
  have ng':g'.get? s.heap.objs.size=ba { cls:=.type "tuple",data:=.seq [.int i tk0,u].toArray }:=sb.extBut _ _ (lt (by simp)) ng
  have I2:Inv X J Y (bv H s.heap.objs.size (.tup [.int i,x])) { s with heap:=g',toks:=tk }:=by
   show Mi.Inv.adopt I1 N0 (.inr I.sz) (Lg I.lt) (λw c e=>?_) (λp hp=>?_) #[by change 2<=sizeLine; decide,[.int i tk0,u],.cons #[_,rfl] #v[r1],#[_,ng',rfl,0,rfl]]
   ·obtain⟨v,q⟩:=I.cell w c e;exact JZ q.lt
   ·exact JZ (JO (I.pin p hp).1)
  show#[.ref s.heap.objs.size,_,I2,rfl,#[s.heap.objs.size,x,Zs.at_is I g1,rfl,N0,rfl],#[#[_,zg'],Zs.keep t1 λo e=>sb.extBut _ _ (Ne.symm D) e],λb hb=>?_]
  rw[aC (Ne.symm (lt hb))];exact(hf b hb).1
 done:=by
  intro X hP hw hK hc i J s Y H E I hf st hg;subst hP hw hK;obtain⟨⟨old,a⟩,d⟩:=st;have hf4:∀b∈[z,z,i1,i1],ie X J H b:=λb hb=>hf b (by simp only[JR,Kh,Lu]at hb ⊢; rcases hb with h|h|h|h <;> simp[h])
  obtain⟨C1,Zz,c1,k1⟩:=Zs.zit (it:=i1) (Uz:=gV) I hf4 hg;have hT:s.TypeIs (.ref z) "enumerate":=#[_,a,rfl];unfold pyNext;show Jo (MW (KI (name:=LG "__next__") hT F.slot_enumerate_next (KM F.slot_enumerate_next hT F.entry_enumerate_next ?_ (F.args_enumerate_next_1 _))));show mV Zz (I.ok.hd hc) a d c1 D (λV e1=>by cases e1) λ_ h' e k #[o,ho,hc]=>?_
  exact Jo (MF (T:="StopIteration") (b:=true) #[o,ho,hc] Os (Ju #[rfl,Mi.Inv.turnedL (t':=s.toks) I (λb o hb e=>by
    simp only[JR,Kh,Lu,Q8]at hb;exact k b o hb.2 e) hf]))
 self:=λ_ _ _ _ _ st h=>by obtain⟨⟨old,a⟩,_⟩:=st; exact QN a h
abbrev ou (xs:Jn W):Jn W:=xs.zipIdx.map λp=>.tup [.int (p.2:Jx),p.1]
def qt {xs:Jn W}{i:Jx}{w:W}(h:(ou xs)[i]?=ba w):∃x,xs[i]?=ba x/\w=.tup [.int i,x]:=by
 unfold ou at h;rw[JB,List.getElem?_zipIdx,RT,Js]at h;obtain⟨x,h1,rfl⟩:=h;exact#[x,h1,by simp]
abbrev BU (f:FA):FI:=λZ S=>match f Z S with
 | some ([x],S1)=>match E4 x with
  | some xs=>ba (.its (ou xs),S1)
  | none=>gV
 | _=>gV
section
variable{X:Cx}{J:Jn (Jz×Lr)}{Y:L2.St}{H:Hp}{s:Jt}{A:Jn Jz}
def yK {S1:Zs}{xs:Jn W}(z1:ZRel X.K A H xs S1):MIt X.w X.K (.its (ou xs)) (IT X.K S1) A H:=by
 show#[λA' H' S i w e so hi=>?_,λA' H' S i e so hi=>?_]
 ·simp only[MI.at,Kb]at hi;obtain⟨x,e1,rfl⟩:=qt hi;obtain⟨v,g1,r1⟩:=(z1.mono e).at e1;show#[#[v,g1],λp H2 #[a,v',q1,hp,hn,hH]=>?_]
  subst hp hH;have ex:Ext X.K A' H' A' (bv H' a (.tup [.int i,v'])):=cF (.inl hn);exact#[ex,so.lay hn,.tup (.of aK) #v[.int,((z1.mono e).is e1 q1).mono ex]]
 ·simp only[MI.at,Kb,KH,ou,Jp,List.length_zipIdx]at hi;exact(z1.mono e).out hi
def vV:bootBuiltins "enumerate" = ba (.type "enumerate"):=rfl
def BV {els:Jn J2}{k0:Jx}{tp:Mk}{a:J2}{f:FA}{p pos:Mk}(hg:Gl X "enumerate")(hm:X.mg "enumerate" = gV)(ha:GA X [a] f)(hs:starEach [a] X.env=[(false,eval a X.env)]) :
  GI X (.Tuple els k0 tp) (.Call (.Name "enumerate" p) [a] [] pos) (BU f):=by
 intro J s Y H R I ⟨A,Z,S,mi,S',er,so,e,hq⟩;unfold BU at e;split at e
 ·rename_i x S1 h1;split at e
  ·rename_i xs e1;cases e;show TX (ic I hg hm vV (LM (bx (ha pos J s Y H _ I #[A,Z,S,_,_,er,so,h1,λ_ _ z=>z]) λus s1 #[vs,H1,I1,r1,A1,z1,z2,z3]=>?_) (by rw[hs]; rfl) (by rfl)))
   cases z3 with
   | cons ra t=>
    cases t;cases r1 with
    | cons ua t=>
     cases t;obtain⟨Sa,oa,Ca,za,ia,ca,ka,na,ta⟩:=oq I1 ra ua e1;show vT ia ca na λh' hz g1 kp=>?_
     have I2:Inv X J Y H1 { s1 with heap:=h' }:=I1.kept (t':=s1.toks) kp
     show QN (s:={ s1 with heap:=h' }) hz ?_
     show#[s1.heap.objs.size+1,_,_,_,H1,rfl,I2,vU (S1:=Sa) (i1:=s1.heap.objs.size) (by simp),#[#[_,hz],ta _ _ g1],λb hb=>?_,hq _ _ A1 z1 z2 (yK za)]
     have hb':s1.heap.objs.size<=b:=by
      simp only[JR,Kh,Lu]at hb;rcases hb with rfl|rfl
      ·exact Mb _ _
      ·exact JA _
     exact I1.fpOk hb' (I1.hok.fresh hb')
  ·cases e
 ·cases e
end
end Mi
namespace Mi
open PySem PySem.Spec PyProof.Rows L2
abbrev BW (g1 g2:Jn W->aa->Jw (W×aa))(xs:Jn W)(S:aa):Jw (W×aa):=match g1 xs S with
 | some r=>ba r
 | none=>g2 xs S
def qu {X:Cx}{f:Jr}{g1 g2:Jn W->aa->Jw (W×aa)}(h1:LCall X f g1)(h2:LCall X f g2):LCall X f (BW g1 g2):=by
 intro J s Y H A S xs vs us w S' I so rl rv e;unfold BW at e;split at e
 ·rename_i r hr;cases e;exact h1 J s Y H A S xs vs us w S' I so rl rv hr
 ·exact h2 J s Y H A S xs vs us w S' I so rl rv e
inductive Bi where|len|list|tuple|int|set|sorted|range|all|min
 deriving ML
abbrev Bi.fn:Bi->Jn W->aa->Jw (W×aa)
 | .len=>sa|.list=>BW jM mK|.tuple=>kZ|.int=>FL|.set=>kX|.sorted=>BW bK dO|.range=>nR|.all=>Bl|.min=>xZ
abbrev Bi.name:Bi->JS
 | .len=>"len"|.list=>"list"|.tuple=>"tuple"|.int=>"int"|.set=>"set"|.sorted=>"sorted"|.range=>"range"|.all=>"all"|.min=>"min"
inductive Me where|append|extend|join|pop|get
 deriving ML
abbrev Me.fn:Me->W->Jn W->aa->Jw (W×aa)
 | .append=>iM|.extend=>iN|.join=>tF|.pop=>Bh|.get=>tL
abbrev Me.name:Me->JS
 | .append=>"append"|.extend=>"extend"|.join=>"join"|.pop=>"pop"|.get=>"get"
abbrev Me.ty:Me->Lf
 | .append=>"list"|.extend=>"list"|.join=>"str"|.pop=>"list"|.get=>"dict"
inductive Tg where
 | nm (i:Jx)|tp (is:Jn Jx)
set_option genSizeOf false in
set_option genInjectivity false in
mutual
inductive E where
 | c (w:W)|v (i:Jx)
 | op (o:BOp) (a b:E)
 | cmp (o:COp) (a b:E)
 | and (a b:E)|or (a b:E)|not (a:E)
 | own (f:JS) (n:Jx) (es:Es)|bi (b:Bi) (es:Es)|me (m:Me) (o:E) (es:Es)
 | ix (a b:E)|sl (a:E) (lo hi:Ep)|tup (es:Es)|lst (es:Es)
 | isi (c:Lf) (a:E)
 | neg (a:E)|dnew|disp (es:Es)
 | comp (elt:E) (tg:Tg) (it:Ie) (cs:Es) (cap:Jn (Jw Jx))
inductive Es where
 | nil|cons (e:E) (es:Es)
inductive Ep where
 | no|yes (e:E)
inductive Ie where
 | seq (e:E)|rng (es:Es)|zip (es:Es)|rng2 (es:Es)|enu (es:Es)
end
set_option genSizeOf false in
set_option genInjectivity false in
mutual
inductive Sm where
 | set (i:Jx) (e:E)|asg (is:Jn Jx) (e:E)|par (i j:Jx) (es:Es)|put (o k e:E)
 | ex (e:E)|ret (e:E)|pass
 | ite (t:E) (a b:Ss)|whl (t:E) (b:Ss)|loop (tg:Tg) (it:Ie) (b:Ss)
inductive Ss where
 | nil|cons (s:Sm) (ss:Ss)
end
abbrev fZ:Tg->FG
 | .nm i=>CG i
 | .tp is=>E3 is
section
variable (M:JS->FF)
mutual
def aB:E->FE
 | .c w=>fC w
 | .v i=>fV i
 | .op o a b=>Bn (fT o) (aB a) (aB b)
 | .cmp o a b=>Bo o (aB a) (aB b)
 | .and a b=>tZ (aB a) (aB b)
 | .or a b=>Bs (aB a) (aB b)
 | .not a=>t4 (aB a)
 | .own f n es=>qd n (M f) (c7 es)
 | .bi b es=>jR b.fn (c7 es)
 | .me m o es=>E2 m.ty m.fn (aB o) (c7 es)
 | .ix a b=>HY (aB a) (aB b)
 | .sl a lo hi=>FX (aB a) (ug lo) (ug hi)
 | .tup es=>yp (c7 es)
 | .lst es=>yq (c7 es)
 | .isi c a=>yA c (aB a)
 | .neg a=>yj (aB a)
 | .dnew=>CH
 | .disp es=>ql (c7 es)
 | .comp elt tg it cs cap=>lb (iZ it) (fZ tg) (BX cs) (aB elt) cap
def dy:E->FT
 | .cmp o a b=>ym (Bo o (aB a) (aB b))
 | .and a b=>yn (dy a) (dy b)
 | .or a b=>FU (dy a) (dy b)
 | .not a=>Bp (dy a)
 | .c w=>gU (fC w)
 | .v i=>gU (fV i)
 | .op o a b=>gU (Bn (fT o) (aB a) (aB b))
 | .own f n es=>gU (qd n (M f) (c7 es))
 | .bi b es=>gU (jR b.fn (c7 es))
 | .me m o es=>gU (E2 m.ty m.fn (aB o) (c7 es))
 | .ix a b=>gU (HY (aB a) (aB b))
 | .sl a lo hi=>gU (FX (aB a) (ug lo) (ug hi))
 | .tup es=>gU (yp (c7 es))
 | .lst es=>gU (yq (c7 es))
 | .isi c a=>gU (yA c (aB a))
 | .neg a=>gU (yj (aB a))
 | .dnew=>λ_ _=>gV
 | .disp _=>λ_ _=>gV
 | .comp _ _ _ _ _=>λ_ _=>gV
def c7:Es->FA
 | .nil=>iY
 | .cons e es=>dJ (aB e) (c7 es)
def BX:Es->FT
 | .nil=>CI
 | .cons e .nil=>dy e
 | .cons _ (.cons _ _)=>λ_ _=>gV
def ug:Ep->FO
 | .no=>D4
 | .yes e=>t9 (aB e)
def iZ:Ie->FI
 | .seq e=>ee (aB e)
 | .rng es=>sv (c7 es)
 | .zip es=>BR (c7 es)
 | .rng2 es=>iRng2 (c7 es)
 | .enu es=>BU (c7 es)
end
variable (fuel:Jx)
mutual
def ga:Sm->FS
 | .set i e=>la (aB M e) (CG i)
 | .asg is e=>la (aB M e) (E3 is)
 | .par i j es=>BF i j (c7 M es)
 | .put o k e=>la (aB M e) (BE (aB M o) (aB M k))
 | .ex e=>Bz (aB M e)
 | .ret e=>BB (aB M e)
 | .pass=>yv
 | .ite t a b=>BC (dy M t) (gb a) (gb b)
 | .whl t b=>on (dy M t) (gb b) fuel
 | .loop tg it b=>yy (iZ M it) (fZ tg) (gb b)
def gb:Ss->FS
 | .nil=>λZ S=>ba (.nx Z,S)
 | .cons s ss=>By (ga s) (gb ss)
end
end
structure Gam where
 sc:Jn (JS×Lo)
 N:Jn JS
 fns:Jn (JS×Jx)
 blt:Jn JS
 dfn:J3
 own:Jn JS
abbrev Eg:Jw Lo->J3
 | some .local=>true|some .cell=>true|some .free=>true|_=>false
abbrev BY:Jw Lo->J3
 | some .cell=>true|some .free=>true|_=>false
abbrev gf (names outer:Jn (JS×Lo)):Jn (JS×Lo):=names.map λ(n,k)=>if (k==.free&&outer.lookup n==ba .cell)then(n,.cell)else(n,k)
abbrev slot (Γ:Gam)(x:JS):Jw Jx:=if Eg (Γ.sc.lookup x) && !(x==("__debug__" : JS)) && !(x==("__classdict__" : JS))then Γ.N.findIdx? (· == x)else gV
abbrev uh:Qv->Jw BOp
 | .Add=>ba .add|.Sub=>ba .sub|.Mult=>ba .mul|.FloorDiv=>ba .fdiv|.Mod=>ba .mod|.Pow=>ba .pow|_=>gV
abbrev uj:Sy->Jw COp
 | .Eq=>ba .eq|.NotEq=>ba .ne|.Lt=>ba .lt|.LtE=>ba .le|.Gt=>ba .gt|.GtE=>ba .ge|.In=>ba .isin|.NotIn=>ba .notin|.Is=>ba .is|.IsNot=>ba .isnot
abbrev BZ (x:JS):Jw Bi:=[Bi.len,.list,.tuple,.int,.set,.sorted,.range,.all,.min].find? λb=>b.name==x
abbrev B0 (x:JS):Jw Me:=[Me.append,.extend,.join,.pop,.get].find? λb=>b.name==x
abbrev F8 (Γ:Gam)(x:JS):J3:=Γ.sc.lookup x==ba .globalImplicit && !(x==("__debug__" : JS))
abbrev yL (x:JS):Jw Lf:=if x==("bool" : JS)then ba "bool" else if x==("int" : JS)then ba "int" else if x==("str" : JS)then ba "str" else if x==("tuple" : JS)then ba "tuple" else if x==("list" : JS)then ba "list" else if x==("dict" : JS)then ba "dict" else gV
abbrev uk:Jn (Jw J2)->Jn J2->Jn J2
 | some k::ks,v::vs=>k::v::uk ks vs
 | _,_=>[]
abbrev B1 (Γ:Gam)(f:J2->Jw E):Jn J2->Jw E
 | [a,.Name c _]=>if F8 Γ c&&Γ.blt.contains c then match yL c,f a with
  | some cs,ba a'=>ba (.isi cs a')
  | _,_=>gV
  else gV
 | _=>gV
abbrev gE:J2->J3
 | .Name _ _=>true|.Constant _ _ _=>true|.Subscript _ _ _=>true|_=>false
abbrev lf (Γ:Gam)(x:JS):J3:=Γ.sc.lookup x==ba .globalImplicit && !(x==("__debug__" : JS))
abbrev db (Γ:Gam)(x:JS):Jw Jx:=if (Γ.sc.lookup x==ba .local)||((Γ.dfn||Γ.own.contains x)&&Γ.sc.lookup x==ba .cell)then Γ.N.findIdx? (· == x)else gV
abbrev cA (f:J2->Jw E)(es:Jn J2):Jw Es:=es.foldr (λe acc=>match f e,acc with|some e',ba es'=>ba (.cons e' es')|_,_=>gV) (ba .nil)
abbrev cB (f:J2->Jw E)(op:Ts):Jn J2->Jw E
 | []=>gV
 | [a]=>f a
 | a::b::bw=>match f a,cB f op (b::bw)with
  | some a',ba b'=>ba (match op with|.And=>.and a' b'|.Or=>.or a' b')
  | _,_=>gV
abbrev cP (f:J2->Jw E):Jw J2->Jw Ep
 | none=>ba .no
 | some e=>(f e).map .yes
abbrev isTup:J2->J3
 | .Tuple _ _ _=>true
 | _=>false
abbrev cI (Γ:Gam)(f:J2->Jw E)(tg:J2):J2->Jw Ie
 | .Call (.Name x p) [a] [] q=>if x==("range" : JS)&&lf Γ x&&Γ.blt.contains x then(cA f [a]).map .rng else if x==("enumerate" : JS)&&lf Γ x&&Γ.blt.contains x&&isTup tg then(cA f [a]).map .enu else(f (.Call (.Name x p) [a] [] q)).map .seq
 | .Call (.Name x p) [a,b] [] q=>if x==("zip" : JS)&&lf Γ x&&Γ.blt.contains x&&isTup tg then(cA f [a,b]).map .zip else if x==("range" : JS)&&lf Γ x&&Γ.blt.contains x then(cA f [a,b]).map .rng2 else(f (.Call (.Name x p) [a,b] [] q)).map .seq
 | e=>(f e).map .seq
abbrev E5 (Γ:Gam):Jn J2->Jw (Jn Jx)
 | []=>ba []
 | .Name x _::ts=>match db Γ x,E5 Γ ts with
  | some i,ba is=>ba (i::is)
  | _,_=>gV
 | _::_=>gV
abbrev cT (Γ:Gam):J2->Jw Tg
 | .Name x _=>(db Γ x).map .nm
 | .Tuple ts _ _=>(E5 Γ ts).map .tp
 | _=>gV
abbrev g9 (names:Jn (JS×Lo)):Jn JS:=(names.filter λp=>p.2==.local||p.2==.cell||p.2==.free).map (·.1)
abbrev gF (Γ:Gam)(names:Jn (JS×Lo)):Jn (Jw Jx):=(g9 names).map λx=>if names.lookup x==ba .local||names.lookup x==ba .cell then gV else Γ.N.findIdx? (· == x)
abbrev yM (Γ:Gam)(scope:MM):J3:=
 (scope.kind==.function)&&scope.names.all (λy=>!(y.2==.local)||scope.names.lookup y.1==ba .local)&&scope.names.all (λy=>!(y.2==.cell)||scope.names.lookup y.1==ba .cell) &&
 scope.names.all (λy=>!(y.2==.free)||(BY (Γ.sc.lookup y.1)&&scope.names.lookup y.1==ba .free&&(Γ.N.findIdx? (· == y.1)).isSome))&&decide (g9 scope.names).Nodup
abbrev hW (Γ:Gam)(scope:MM):Gam:={ Γ with sc:=gf scope.names Γ.sc,N:=g9 scope.names,dfn:=false,own:=(scope.names.filter λp=>p.2==.cell).map (·.1) }
abbrev yN (f:J2->Jw E)(keys:Jn (Jw J2))(values:Jn J2):Jw E:=
 if keys.isEmpty&&values.isEmpty then ba .dnew
 else if keys.all (·.isSome)&&decide (keys.length=values.length)&&decide (keys.length<=15)then(cA f (uk keys values)).map .disp else gV
abbrev cE:Jx->Gam->J2->Jw E
 | 0,_,_=>gV
 | n+1,Γ,e=>match e with
  | .Constant (.int i) _ _=>ba (.c (.int i))
  | .Constant (.str x) _ _=>ba (.c (.str x))
  | .Constant (.bool b) _ _=>ba (.c (.bl b))
  | .Constant .none _ _=>ba (.c .non)
  | .Name x _=>match slot Γ x with
   | some i=>ba (.v i)
   | none=>gV
  | .BinOp a op b _=>match uh op,cE n Γ a,cE n Γ b with
   | some o,ba a',ba b'=>ba (.op o a' b')
   | _,_,_=>gV
  | .UnaryOp .Not a _=>(cE n Γ a).map .not
  | .UnaryOp .USub a _=>(cE n Γ a).map .neg
  | .BoolOp op vs _=>cB (cE n Γ) op vs
  | .Compare a [op] [b] _=>match uj op,cE n Γ a,cE n Γ b with
   | some o,ba a',ba b'=>ba (.cmp o a' b')
   | _,_,_=>gV
  | .Call (.Name f _) args [] _=>if lf Γ f then match Γ.fns.lookup f with
    | some k=>(cA (cE n Γ) args).map (.own f k)
    | none=>if f==("isinstance" : JS)then(if Γ.blt.contains f then B1 Γ (cE n Γ) args else gV)else match BZ f,args with
     | some b,a::as=>if Γ.blt.contains f then(cA (cE n Γ) (a::as)).map (.bi b)else gV
     | _,_=>gV
   else gV
  | .Call (.Attribute o m apos) (a::as) [] cpos=>match B0 m,cE n Γ o,cA (cE n Γ) (a::as)with
   | some m',ba o',ba es=>if gE o&&(apos.endLine==cpos.line)&&decide ((a::as).length < 29)then ba (.me m' o' es)else gV
   | _,_,_=>gV
  | .Subscript a (.Slice lo hi gV _) _=>match cE n Γ a,cP (cE n Γ) lo,cP (cE n Γ) hi with
   | some a',ba lo',ba hi'=>ba (.sl a' lo' hi')
   | _,_,_=>gV
  | .Subscript a b _=>match cE n Γ a,cE n Γ b with
   | some a',ba b'=>ba (.ix a' b')
   | _,_=>gV
  | .Tuple es _ _=>(cA (cE n Γ) es).map .tup
  | .List es _=>(cA (cE n Γ) es).map .lst
  | .Dict keys values _=>yN (cE n Γ) keys values
  | .ListComp elt [#[tg,iter,ifs,asy]] scope _=>if (asy==0)&&(yM Γ scope&&decide (ifs.length<=1))then
    match cI Γ (cE n Γ) tg iter,cT (hW Γ scope) tg,cA (cE n (hW Γ scope)) ifs,cE n (hW Γ scope) elt with
    | some it,ba t,ba cs,ba el=>ba (.comp el t it cs (gF Γ scope.names))
    | _,_,_,_=>gV
   else gV
  | _=>gV
structure CtxOk (M:JS->FF)(X:Cx)(Γ:Gam):Prop where
 names:X.env.scope.names=Γ.sc
 kind:X.env.scope.kind=.function
 N:X.N=Γ.N
 nd:Γ.N.Nodup
 calm:X.calm=true
 xe:X.xe=λ_ _=>K5
 un:X.A.units+ii < cLine
 dfn:Γ.dfn=true->∀x,X.fn x=true
 own:∀x∈Γ.own,X.fn x=true
 blt:∀x∈Γ.blt,X.mg x=gV
 fns:∀f n,Γ.fns.lookup f=ba n->∃k fa fd ps,FnOk X.prog X.w X.K X.mg X.base wL k fa fd ps (spF X.w X.K n (M f))/\Room k X.A/\X.mg f=ba (.ref fa)/\Lj X.K (.ref fa)=true/\Binds X.K fd ps []
def aL {α:Type}{x:α}{P:Prop}(h:(gV:Jw α)=ba x):P:=nomatch h
abbrev iw:J2->J3
 | .Starred _ _=>false
 | _=>true
def aw {e:J2}{es:Jn J2}{env:Qg}(h:iw e=true):starEach (e::es) env=(false,eval e env)::starEach es env:=by
 cases e <;> first|rfl|cases h
def aX {env:Qg}{pos:Mk}:∀ {es:Jn J2},es.all iw=true->(backTo pos (starEach es env)).any (·.1)=false
 | [],_=>rfl
 | e::es,h=>by
  rw[KL,Jv]at h;rw[aw h.1];show(false||(backTo pos (starEach es env)).any (·.1))=false
  rw[aX h.2];rfl
def qv {env:Qg}{pos:Mk}:∀ {es:Jn J2},es.all iw=true->(backTo pos (starEach es env)).all (λx=>!x.1)=true
 | [],_=>rfl
 | e::es,h=>by
  rw[KL,Jv]at h;rw[aw h.1];show(true&&(backTo pos (starEach es env)).all (λx=>!x.1))=true
  rw[qv h.2];rfl
def ju {n:Jx}{Γ:Gam}{e:J2}{e':E}(h:cE n Γ e=ba e'):iw e=true:=by
 cases n with
 | zero=>cases h
 | succ n=>cases e <;> first|rfl|(exact aL h)
def i3 {f:J2->Jw E}{e:J2}{es:Jn J2}{r:Es}(h:cA f (e::es)=ba r):∃e' es',f e=ba e'/\cA f es=ba es'/\r=.cons e' es':=by
 simp only[cA,RA]at h;split at h
 ·rename_i e' es' h1 h2;cases h;exact#[e',es',h1,h2,rfl]
 ·cases h
def cg {n:Jx}{Γ:Gam}:∀ {es:Jn J2} {r:Es},cA (cE n Γ) es=ba r->es.all iw=true
 | [],_,_=>rfl
 | e::es,r,h=>by
  obtain⟨e',es',h1,h2,_⟩:=i3 h;rw[KL,ju h1,cg h2];rfl
def dz {N:Jn JS}{x:JS}{i:Jx}(h:N.findIdx? (· == x)=ba i):N[i]?=ba x:=by
 obtain⟨hl,h1,_⟩:=List.findIdx?_eq_some_iff_getElem.mp h;rw[Jy hl];exact congrArg ba (eq_of_beq h1)
section
variable{M:JS->FF}{X:Cx}{Γ:Gam}
def ow {e:J2}:GT X e (λ_ _=>gV):=λJ s Y H Q I #[A,Z,S,k,S',er,so,e1,hq]=>by cases e1
def yO {x:JS}(h:Eg (X.env.scope.names.lookup x)=true):Ha X.env.scope x:=by
 unfold Eg at h;split at h
 ·exact .inl (by assumption)
 ·exact .inr (.inl (by assumption))
 ·exact .inr (.inr (by assumption))
 ·cases h
def yP (K:CtxOk M X Γ){x:JS}{pos:Mk}{i:Jx}(h:slot Γ x=ba i):GE X (.Name x pos) (fV i):=by
 unfold slot at h;split at h
 ·rename_i hc;rw[Jv,Jv]at hc;obtain⟨⟨h1,h2⟩,h3⟩:=hc;show HX (wR (by rw[K.N]; exact dz h) (yO (by rw[K.names]; exact h1)) (by simpa using h2) (by simpa using h3))
 ·cases h
def jS (K:CtxOk M X Γ){x:JS}(h:lf Γ x=true):Gl X x/\(x==("__debug__" : JS))=false:=by
 unfold lf at h;rw[Jv]at h;show#[?_,by simpa using h.2]
 change X.env.scope.names.lookup x=_;rw[K.names];exact eq_of_beq h.1
def yQ {o:Sy}{c:COp}(h:uj o=ba c):c.py=o:=by
 cases o <;> (simp only[uj,Kb]at h; subst h; rfl)
def yR {o:Qv}{c:BOp}(h:uh o=ba c):c.py=o:=by
 cases o <;> simp only[uh,Kb]at h <;> first|(subst h; rfl)|cases h
def vW {x:JS}{b:Bi}(h:BZ x=ba b):b.name=x:=by
 have:=Pr h;exact eq_of_beq this
def vX {x:JS}{b:Me}(h:B0 x=ba b):b.name=x:=by
 have:=Pr h;exact eq_of_beq this
def dc {n:Jx}(ih:∀ {e:J2} {e':E},cE n Γ e=ba e'->GE X e (aB M e')):∀ {es:Jn J2} {r:Es},cA (cE n Γ) es=ba r->GA X es (c7 M r)
 | [],r,h=>by cases h; exact D3
 | e::es,r,h=>by
  obtain⟨e',es',h1,h2,rfl⟩:=i3 h;exact Bt (ih h1) (dc ih h2) (aw (ju h1))
def F9 (K:CtxOk M X Γ){n:Jx}{f:JS}{p pos:Mk}{args:Jn J2}{k:Jx}{r:Es}(hg:lf Γ f=true)(hf:Γ.fns.lookup f=ba k)(ha:cA (cE n Γ) args=ba r)(h:GA X args (c7 M r)):GE X (.Call (.Name f p) args [] pos) (qd k (M f) (c7 M r)):=by
 obtain⟨d,fa,fd,ps,F,hr,hm,hk,hb⟩:=K.fns f k hf;obtain⟨g1,g2⟩:=jS K hg;cases args with
 | nil=>cases ha; exact Bw F hr g1 hm hk hb g2
 | cons a as=>
  have ns:=cg ha;rw[KL,Jv]at ns;exact D5 F hr g1 hm hk hb h g2 (aw ns.1) (aX ns.2)
def Ic (K:CtxOk M X Γ){n:Jx}{f:JS}{p pos:Mk}{a:J2}{as:Jn J2}{b:Bi}{r:Es}(hg:lf Γ f=true)(hb:BZ f=ba b)(hc:Γ.blt.contains f=true)(ha:cA (cE n Γ) (a::as)=ba r)(h:GA X (a::as) (c7 M r)):GE X (.Call (.Name f p) (a::as) [] pos) (jR b.fn (c7 M r)):=by
 obtain⟨g1,g2⟩:=jS K hg;have hm:X.mg f=gV:=K.blt f (by simpa using hc)
 have ns:=cg ha;rw[KL,Jv]at ns;have e:=vW hb;subst e;have hu:X.A.units+12 < cLine:=by have:=K.un; have:ii=20:=rfl; omega
 have calm:∀ {f:Jr} {g:Jn W->aa->Jw (W×aa)},(X.A.handled=gV->LCall X f g)->LCall X f g:=λh J s Y H A S xs vs us w S' I=>h (I.ok.hd K.calm) J s Y H A S xs vs us w S' I
 cases b with
 | len=>exact t8 sx g1 hm PySem.boot_len h #v[] g2 (aw ns.1) (aX ns.2)
 | list=>exact qb (calm λhh=>qu (pK hh) (pW hh)) g1 hm rfl h #v[] g2 (aw ns.1) (aX ns.2)
 | tuple=>exact qb (calm om) g1 hm rfl h #v[] g2 (aw ns.1) (aX ns.2)
 | int=>exact qb vt g1 hm rfl h #v[] g2 (aw ns.1) (aX ns.2)
 | set=>exact qb (calm λhh=>sn hh hu) g1 hm rfl h #v[] g2 (aw ns.1) (aX ns.2)
 | sorted=>exact t8 (calm λhh=>qu (p9 hh hu) (nZ hh hu)) g1 hm rfl h #v[] g2 (aw ns.1) (aX ns.2)
 | range=>exact qb pJ g1 hm rfl h #v[] g2 (aw ns.1) (aX ns.2)
 | all=>exact t8 (calm vP) g1 hm rfl h #v[] g2 (aw ns.1) (aX ns.2)
 | min=>exact t8 (calm λhh=>vN hh hu) g1 hm rfl h #v[] g2 (aw ns.1) (aX ns.2)
def yS {x:JS}{c:Lf}(h:yL x=ba c):bootBuiltins x=ba (.type c)/\x≠"__name__":=by
 unfold yL at h;split at h
 ·rename_i e; cases h; rw[eq_of_beq e]; exact#[rfl,#v[]]
 ·split at h
  ·rename_i e; cases h; rw[eq_of_beq e]; exact#[rfl,#v[]]
  ·split at h
   ·rename_i e; cases h; rw[eq_of_beq e]; exact#[rfl,#v[]]
   ·split at h
    ·rename_i e; cases h; rw[eq_of_beq e]; exact#[rfl,#v[]]
    ·split at h
     ·rename_i e; cases h; rw[eq_of_beq e]; exact#[rfl,#v[]]
     ·split at h
      ·rename_i e; cases h; rw[eq_of_beq e]; exact#[rfl,#v[]]
      ·cases h
def Ga (K:CtxOk M X Γ){n:Jx}{f:JS}{p pos:Mk}{args:Jn J2}{r:E}(hg:lf Γ f=true)(hb:(f==("isinstance" : JS))=true)(hc:Γ.blt.contains f=true)(ih:∀ {e:J2} {e':E},cE n Γ e=ba e'->GE X e (aB M e'))(h:B1 Γ (cE n Γ) args=ba r) :
  GE X (.Call (.Name f p) args [] pos) (aB M r)/\∃a c,r=.isi c a:=by
 obtain⟨g1,g2⟩:=jS K hg;have hm:X.mg f=gV:=K.blt f (by simpa using hc)
 have e:=eq_of_beq hb;subst e;unfold B1 at h;split at h
 ·rename_i a c q;split at h
  ·rename_i hcc;rw[Jv]at hcc;obtain⟨g3,g4⟩:=jS K (x:=c) hcc.1;have hm2:X.mg c=gV:=K.blt c (by simpa using hcc.2)
   split at h
   ·rename_i cs a' h1 h2;cases h;obtain⟨b1,b2⟩:=yS h1;exact#[Ed g1 hm g3 hm2 b1 b2 g4 (ih h2) (aw (ju h2)),a',cs,rfl]
   ·cases h
  ·cases h
 ·cases h
def fj {o:J2}{name:JS}{env:Qg}(h:gE o=true):attributeBase o name env (eval o env)=eval o env:=by
 cases o <;> first|rfl|cases h
def um {n:Jx}{pos:Mk}(ih:∀ {e:J2} {e':E},cE n Γ e=ba e'->GE X e (aB M e')):∀(keys:Jn (Jw J2)) (values:Jn J2) {r:Es},keys.all (·.isSome)=true->keys.length=values.length->cA (cE n Γ) (uk keys values)=ba r->F2 X pos keys values (c7 M r)
 | [],[],r,_,_,h=>by cases h; exact BM
 | [],_::_,r,_,hl,_=>by cases hl
 | _::_,[],r,_,hl,_=>by cases hl
 | none::_,_::_,r,ha,_,_=>by cases ha
 | some k::ks,v::vs,r,ha,hl,h=>by
  dsimp only[uk]at h;obtain⟨e1,es1,h1,h2,rfl⟩:=i3 h;obtain⟨e2,es2,h3,h4,rfl⟩:=i3 h2;rw[KL,Jv]at ha;exact yB (ih h1) (ih h3) (um ih ks vs ha.2 (by simpa using hl) h4)
def Ig (K:CtxOk M X Γ){n:Jx}{m:JS}{apos cpos:Mk}{o a:J2}{as:Jn J2}{b:Me}{o':E}{r:Es}(hm:B0 m=ba b)(hr:gE o=true)(hl:(apos.endLine==cpos.line)=true)(hn:(a::as).length < 29)(ho:GE X o (aB M o'))(ha:cA (cE n Γ) (a::as)=ba r)(h:GA X (a::as) (c7 M r)) :
  GE X (.Call (.Attribute o m apos) (a::as) [] cpos) (E2 b.ty b.fn (aB M o') (c7 M r)):=by
 have ns:=cg ha;have ns':=ns;rw[KL,Jv]at ns;have j5:((backTo cpos (starEach (a::as) X.env)).all (λx=>!x.1)&&(backToKw cpos (keywordEach [] X.env)).all (λx=>x.1.isSome)&&decide ((a::as).length+([]:Jn RD).length+(if ([]:Jn RD).isEmpty then 0 else 1) < 30))=true:=by
  rw[qv ns',Nr,Jv];exact#[rfl,K6 (by simp only[LS,List.isEmpty_nil,Lp]; omega)]
 have e:=vX hm;subst e;cases b with
 | append=>exact qc ND PySem.F.slot_list_append PySem.F.type_list_append nP ho h (fj hr) j5 hl (aw ns.1) (aX ns.2)
 | extend=>exact qc ND PySem.F.slot_list_extend PySem.F.type_list_extend nQ ho h (fj hr) j5 hl (aw ns.1) (aX ns.2)
 | join=>exact qc PySem.F.plainAttrs_str PySem.F.slot_str_join PySem.F.type_str_join rX ho h (fj hr) j5 hl (aw ns.1) (aX ns.2)
 | pop=>exact qc ND PySem.F.slot_list_pop PySem.F.type_list_pop vw ho h (fj hr) j5 hl (aw ns.1) (aX ns.2)
 | get=>exact qc PySem.F.plainAttrs_dict Px PySem.F.type_dict_get (r6 (by have:=K.un; have:ii=20:=rfl; omega)) ho h (fj hr) j5 hl (aw ns.1) (aX ns.2)
def qw {n:Jx}{Γ:Gam}{e:J2}{e':E}{op:Sy}(h:cE n Γ e=ba e'):behindInMarks op e=false:=by
 cases n with
 | zero=>cases h
 | succ n=>cases e <;> first|rfl|(exact aL h)
def sB {n:Jx}{Γ:Gam}{e:J2}{e':E}(h:cE n Γ e=ba e'):nH e:=by
 cases n with
 | zero=>cases h
 | succ n=>cases e <;> first|(intro o i; rfl)|(exact aL h)
def ox {n:Jx}{Γ:Gam}{f:J2->Jw E}{e:J2}{i:Ie}{env:Qg}{tg:J2}(hf:∀el k p,f (.Set el k p)=gV)(h:cI Γ f tg e=ba i):∀x,foldedSetIterable e env x=pure x:=by
 intro x;cases e <;> first|rfl|(simp[cI,hf]at h)
def oy {n:Jx}{op:Ts}{pos:Mk}(ih:∀ {e:J2} {e':E},cE n Γ e=ba e'->GE X e (aB M e')):∀ {vs:Jn J2} {r:E},cB (cE n Γ) op vs=ba r->GE X (.BoolOp op vs pos) (aB M r)
 | [],r,h=>by cases h
 | [a],r,h=>D0 (ih h)
 | a::b::bw,r,h=>by
  simp only[cB]at h;split at h
  ·rename_i a' b' h1 h2;cases h;cases op with
   | And=>exact D1 (ih h1) (oy ih h2)
   | Or=>exact FW (ih h1) (oy ih h2)
  ·cases h
def oz {n:Jx}{op:Ts}{pos:Mk}(ih:∀ {e:J2} {e':E},cE n Γ e=ba e'->GT X e (dy M e')):∀ {vs:Jn J2} {r:E},cB (cE n Γ) op vs=ba r->GW X (.BoolOp op vs pos) (dy M r)
 | [],r,h=>by cases h
 | [a],r,h=>by
  cases op with
  | And=>exact Br (ih h)
  | Or=>exact DX (ih h)
 | a::b::bw,r,h=>by
  simp only[cB]at h;split at h
  ·rename_i a' b' h1 h2;cases h;cases op with
   | And=>exact DY (ih h1) (oz ih h2)
   | Or=>exact FV (ih h1) (oz ih h2)
  ·cases h
def yT {n:Jx}(ih:∀ {e:J2} {e':E},cE n Γ e=ba e'->GE X e (aB M e')){o:Jw J2}{p:Ep}(h:cP (cE n Γ) o=ba p):GO X o (ug M p):=by
 cases o with
 | none=>cases h; exact Bu
 | some e=>
  simp only[cP,Js]at h;obtain⟨e',h1,rfl⟩:=h;exact Bv (ih h1)
def sC (K:CtxOk M X Γ){n:Jx}(ih:∀ {e:J2} {e':E},cE n Γ e=ba e'->GE X e (aB M e')){tg e:J2}{i:Ie}(h:cI Γ (cE n Γ) tg e=ba i):GI X tg e (iZ M i):=by
 have gen:(cE n Γ e).map Ie.seq=ba i->GI X tg e (iZ M i):=λh=>by
  rw[Js]at h;obtain⟨e',h1,rfl⟩:=h;exact BP (ih h1)
 unfold cI at h;split at h
 ·rename_i x p a pos;split at h
  ·rename_i hc;rw[Jv,Jv]at hc;obtain⟨⟨h1,h2⟩,h3⟩:=hc;have hx:=eq_of_beq h1;subst hx;rw[Js]at h;obtain⟨r,hr,rfl⟩:=h;have ns:=cg hr;rw[KL,Jv]at ns;exact BJ (jS K h2).1 (K.blt _ (by simpa using h3)) (dc ih hr) (aw ns.1)
  ·split at h
   ·rename_i hc;rw[Jv,Jv,Jv]at hc;obtain⟨⟨⟨h1,h2⟩,h3⟩,h4⟩:=hc;have hx:=eq_of_beq h1;subst hx;rw[Js]at h;obtain⟨r,hr,rfl⟩:=h;have ns:=cg hr;rw[KL,Jv]at ns;cases tg with
    | Tuple els k0 tp=>exact BV (jS K h2).1 (K.blt _ (by simpa using h3)) (dc ih hr) (aw ns.1)
    | _=>cases h4
   ·exact gen h
 ·rename_i x p a b pos;split at h
  ·rename_i hc;rw[Jv,Jv,Jv]at hc;obtain⟨⟨⟨h1,h2⟩,h3⟩,h4⟩:=hc;have hx:=eq_of_beq h1;subst hx;rw[Js]at h;obtain⟨r,hr,rfl⟩:=h;have ns:=cg hr;rw[KL,KL,Jv,Jv]at ns;cases tg with
   | Tuple els k0 tp=>exact Ef (jS K h2).1 (K.blt _ (by simpa using h3)) (dc ih hr) (by rw[aw ns.1,aw ns.2.1]; rfl) (aw ns.2.1)
   | _=>cases h4
  ·split at h
   ·rename_i hc;rw[Jv,Jv]at hc;obtain⟨⟨h1,h2⟩,h3⟩:=hc;have hx:=eq_of_beq h1;subst hx;rw[Js]at h;obtain⟨r,hr,rfl⟩:=h;have ns:=cg hr;rw[KL,KL,Jv,Jv]at ns;exact BK (jS K h2).1 (K.blt _ (by simpa using h3)) (dc ih hr) (by rw[aw ns.1,aw ns.2.1]; rfl) (aw ns.2.1)
   ·exact gen h
 ·exact gen h
def oA (K:CtxOk M X Γ){x:JS}{i:Jx}(h:db Γ x=ba i):X.N[i]?=ba x/\At X.env.scope x/\(X.fn x=true\/X.env.scope.names.lookup x=ba .local):=by
 unfold db at h;split at h
 ·rename_i hc;show#[by rw[K.N]; exact dz h,?_]
  unfold L2.At;rw[K.names];rw[Lk,Jv]at hc;rcases hc with hc|⟨hd,hc⟩
  ·have:=eq_of_beq hc;exact#[.inl this,.inr this]
  ·rw[Lk]at hd;exact#[.inr (eq_of_beq hc),.inl (hd.elim (λhd=>K.dfn hd x) λhd=>K.own x (by simpa using hd))]
 ·cases h
def qx (K:CtxOk M X Γ):∀ {ts:Jn J2} {is:Jn Jx},E5 Γ ts=ba is->(∀x∈ts,∃y p,x=P1 y p)/\O4 (λ(t:J2) (i:Jx)=>∃x p,t=P1 x p/\X.N[i]?=ba x/\At X.env.scope x/\(X.fn x=true\/X.env.scope.names.lookup x=ba .local)) ts is
 | [],is,h=>by cases h; exact#[λx hx=>by simp at hx,.nil]
 | t::ts,is,h=>by
  cases t with
  | Name x p=>
   dsimp only[E5]at h;split at h
   ·rename_i i is' h1 h2;cases h;obtain⟨a,b⟩:=qx K h2;exact#[λy hy=>(JR.mp hy).elim (λe=>#[x,p,e]) (a y),.cons #[x,p,rfl,oA K h1] b]
   ·cases h
  | _=>cases h
def iy {env:Qg}:∀ {ts:Jn J2},(∀x∈ts,∃y p,x=P1 y p)->(assignEach ts env).length=ts.length/\(assignEach ts env).findIdx? (·.1)=gV
 | [],_=>#[rfl,rfl]
 | t::ts,h=>by
  obtain⟨y,p,rfl⟩:=h t KP;obtain⟨a,b⟩:=iy (env:=env) λx hx=>h x (KA _ hx)
  show#[by show(assignEach ts env).length+1=ts.length+1; rw[a],?_]
  change List.findIdx? (·.1) ((false,assign (.Name y p) env)::assignEach ts env)=gV
  rw[List.findIdx?_cons,b];rfl
def uq (K:CtxOk M X Γ){tg:J2}{t:Tg}(h:cT Γ tg=ba t):GG X tg (fZ t):=by
 have hN:X.N.Nodup:=by rw[K.N]; exact K.nd
 cases tg with
 | Name x p=>
  dsimp only[cT]at h; simp only[Js]at h
  obtain⟨i,h1,rfl⟩:=h;obtain⟨a,b,c⟩:=oA K h1;exact ud hN a b c
 | Tuple ts k p=>
  dsimp only[cT]at h; simp only[Js]at h
  obtain⟨is,h1,rfl⟩:=h;obtain⟨a,b⟩:=qx K h1;exact D8 K.calm a b hN (iy a).1 (iy a).2
 | _=>cases h
end
abbrev eW (env:Qg):Jn (JS×Lo)->Jn (JS×Jz)->Jn (JS×Jz)
 | [],cs=>cs
 | (n,k)::r,cs=>eW env r (if k==.free then(n,(env.cells.lookup n).getD 0)::cs else cs)
def jv {env:Qg}:∀(names:Jn (JS×Lo)) (cs:Jn (JS×Jz)),(∀y∈names,y.2=.free->(env.cells.lookup y.1).isSome=true)->
  (forIn names cs λx r=>match x with|(name,kind)=>if (kind==Nt)=true then do let a <- cellOf env name; pure (LH ((name,a)::r))else pure (LH r):Tb (Jn (JS×Jz)))=pure (eW env names cs)
 | [],cs,_=>by rw[OC]; rfl
 | (n,k)::r,cs,h=>by
  rw[N6];have hr:=λy hy=>h y (KA _ hy)
  by_cases hk:(k==Nt)=true
  ·obtain⟨c,hc⟩:=KF.mp (h (n,k) KP (eq_of_beq hk));have e1:cellOf env n=pure c:=by unfold cellOf; rw[hc]
   simp only[hk,Lp,e1,pure_bind];rw[jv r _ hr];simp only[eW,hk,Lp,hc,Re]
  ·have hk':(k==Nt)=false:=by simpa using hk
   simp only[hk',J5,KZ,pure_bind];rw[jv r _ hr];simp only[eW,hk',J5,KZ]
def j4 {scope:MM}{env:Qg}(h:∀y∈scope.names,y.2=.free->(env.cells.lookup y.1).isSome=true):closureFor scope env=pure (eW env scope.names []):=by
 have:=jv scope.names [] h;unfold closureFor;simp only[this,pure_bind]
def lg {env:Qg}:∀(names:Jn (JS×Lo)) (cs:Jn (JS×Jz)),(∀y∈names,y.2=.free->(env.cells.lookup y.1).isSome=true)->(∀x c,cs.lookup x=ba c->env.cells.lookup x=ba c)->
  ∀x c,(eW env names cs).lookup x=ba c->env.cells.lookup x=ba c
 | [],cs,_,h,x,c,e=>h x c e
 | (n,k)::r,cs,hn,h,x,c,e=>by
  show lg r _ (λy hy=>hn y (KA _ hy)) (λx c e=>?_) x c e
  split at e
  ·rename_i hk;rw[KY]at e;split at e
   ·rename_i hx;cases e;have:=eq_of_beq hx;subst this;obtain⟨c,hc⟩:=KF.mp (hn (x,k) KP (eq_of_beq hk));rw[hc]; rfl
   ·exact h x c e
  ·exact h x c e
def jT {env:Qg}{x:JS}:∀(names:Jn (JS×Lo)) (cs:Jn (JS×Jz)),(∃c,cs.lookup x=ba c)->∃c,(eW env names cs).lookup x=ba c
 | [],cs,h=>h
 | (n,k)::r,cs,h=>by
  show jT r _ ?_;split
  ·rw[KY];split
   ·exact#[_,rfl]
   ·exact h
  ·exact h
def ll {env:Qg}{x:JS}:∀(names:Jn (JS×Lo)) (cs:Jn (JS×Jz)),(x,Nt)∈names->∃c,(eW env names cs).lookup x=ba c
 | [],cs,h=>by simp at h
 | (n,k)::r,cs,h=>by
  rcases JR.mp h with e|h
  ·cases e;show jT r _ ?_;simp[KY]
  ·exact ll r _ h
def ln {x:JS}{k:Lo}:∀ {l:Jn (JS×Lo)},l.lookup x=ba k->(x,k)∈l
 | [],h=>by simp at h
 | (n,j)::r,h=>by
  rw[KY]at h;split at h
  ·rename_i hx;cases h;have:=eq_of_beq hx;subst this;exact KP
  ·exact KA _ (ln h)
def eX {X:Cx}{M:JS->FF}{Γ:Gam}(K:CtxOk M X Γ)(scope:MM):(relabel scope X.env).names=gf scope.names Γ.sc:=by
 unfold relabel gf Pc;rw[K.kind,K.names];show KG λ#[n,k] _=>?_
 have e:(Qq==Qq)=true:=rfl;simp only[e,Nq]
def eh {outer:Jn (JS×Lo)}{x:JS}:∀ {names:Jn (JS×Lo)},(gf names outer).lookup x=(names.lookup x).map λk=>if (k==.free&&outer.lookup x==ba .cell)then .cell else k
 | []=>rfl
 | (n,k)::r=>by
  have ih:=eh (outer:=outer) (x:=x) (names:=r);change List.lookup x ((if (k==Nt&&outer.lookup n==ba .cell)=true then(n,MX)else(n,k))::gf r outer)=_
  cases hx:x==n with
  | true=>
   have:=eq_of_beq hx;subst this;simp only[KY,KJ,Kg];split <;> simp[KY]
  | false=>
   simp only[KY,hx];split <;> (simp only[KY,hx]; exact ih)
section
variable{M:JS->FF}{X:Cx}{Γ:Gam}
structure ScOk (Γ:Gam)(scope:MM):Prop where
 kind:scope.kind=.function
 names:∀y∈scope.names,y.2=.local->scope.names.lookup y.1=ba .local
 cell:∀y∈scope.names,y.2=.cell->scope.names.lookup y.1=ba .cell
 free:∀y∈scope.names,y.2=.free->BY (Γ.sc.lookup y.1)=true/\scope.names.lookup y.1=ba .free/\(Γ.N.findIdx? (· == y.1)).isSome=true
 nd:(g9 scope.names).Nodup
def ur {scope:MM}(h:yM Γ scope=true):ScOk Γ scope:=by
 unfold yM at h;rw[Jv,Jv,Jv,Jv]at h;obtain⟨⟨⟨⟨h1,h2⟩,h3⟩,h4⟩,h5⟩:=h;show#[eq_of_beq h1,λy hy e=>?_,λy hy e=>?_,λy hy e=>?_,Kt h5]
 ·have:=JQ.mp h2 y hy;rw[e]at this
  simpa using this
 ·have:=JQ.mp h3 y hy;rw[e]at this
  simpa using this
 ·have:=JQ.mp h4 y hy;rw[e]at this;simp only[KJ,Mu,OT,Jv]at this;exact#[this.1.1,eq_of_beq this.1.2,this.2]
def ut {o:Jw Lo}(h:BY o=true):o=ba .cell\/o=ba .free:=by
 unfold BY at h;split at h
 ·exact .inl rfl
 ·exact .inr rfl
 ·cases h
def mW (K:CtxOk M X Γ)(ok:X.Ok){scope:MM}(sc:ScOk Γ scope):CompOk X scope (eW X.env scope.names []) (g9 scope.names) (gF Γ scope.names):=by
 have cells:∀y∈scope.names,y.2=.free->(X.env.cells.lookup y.1).isSome=true:=λy hy e=>by
  have hk:=ut (sc.free y hy e).1;obtain⟨c,hc⟩:=ok.has y.1 (by unfold Pc; rw[K.names]; exact hk)
  rw[hc]; rfl
 have relab:∀x,((relabel scope X.env).names.lookup x=ba .cell\/(relabel scope X.env).names.lookup x=ba .free)->(x,MX)∈scope.names\/(x,Nt)∈scope.names:=λx h=>by
  rw[eX K,eh]at h;cases q:scope.names.lookup x with
  | none=>rw[q]at h; rcases h with h|h <;> cases h
  | some k=>
   rw[q]at h;have hm:=ln q;cases k with
   | free=>exact .inr hm
   | cell=>exact .inl hm
   | _=>rcases h with h|h <;> simp at h
 show#[j4 cells,sc.kind,sc.names,lg _ _ cells (λx c e=>by cases e),λm x h=>jt _ _ _ ((relab x h).imp id λz=>ll _ _ z),by simp[gF],λi j x hi hx=>?_]
 unfold gF at hi;rw[JB,hx]at hi;simp only[Kg,Kb]at hi;split at hi
 ·cases hi
 ·rename_i hl;have hx2:x∈g9 scope.names:=JJ hx;unfold g9 at hx2;obtain⟨⟨x',k⟩,hf,e⟩:=JF.mp hx2;obtain⟨hm,hk⟩:=LD.mp hf;have e':x'=x:=e;subst e';have hkf:k=.free:=by
   simp only[Lk]at hk;rcases hk with(hk|hk)|hk
   ·have:k=.local:=eq_of_beq hk;subst this;have:=sc.names (x',.local) hm rfl;rw[this]at hl;simp at hl
   ·have:k=.cell:=eq_of_beq hk;subst this;have:=sc.cell (x',.cell) hm rfl;rw[this]at hl;simp at hl
   ·exact eq_of_beq hk
  subst hkf;obtain⟨f1,f2,f3⟩:=sc.free _ hm rfl;show#[by rw[K.N]; exact dz hi,by unfold Pc; rw[K.names]; exact ut f1,?_,λz=>by rw[sc.cell _ z rfl]at f2; cases f2]
  rw[eX K,eh,f2];simp only[Kg,Kb,KJ,Nr];split
  ·exact .inl rfl
  ·exact .inr rfl
def fm (K:CtxOk M X Γ){scope:MM}(sc:ScOk Γ scope)(C:Jz)(s0:Jt)(H0:Hp)(ex:Jn Jz):CtxOk M (lV X scope (eW X.env scope.names []) C (g9 scope.names) s0 H0 ex) (hW Γ scope) where
 names:=eX K scope
 kind:=sc.kind
 N:=rfl
 nd:=sc.nd
 calm:=K.calm
 xe:=rfl
 un:=K.un
 dfn:=λh=>by cases h
 own:=λx h=>by
  obtain⟨⟨y,k⟩,hy,e⟩:=JF.mp h;obtain⟨hm,hk⟩:=LD.mp hy;have e':y=x:=e;subst e';exact Rb.mpr #[(y,k),hm,by simpa using hk]
 blt:=K.blt
 fns:=K.fns
def qA {cs:Es}{n:Jx}{ifs:Jn J2}{Γ:Gam}(hl:ifs.length<=1)(hc:cA (cE n Γ) ifs=ba cs){Yq:Cx}(ih:∀ {e:J2} {e':E},cE n Γ e=ba e'->GT Yq e (dy M e'))(hx:Yq.xe=λ_ _=>K5) :
  ∀J s Y H Q,Inv Yq J Y H s->tT Yq (BX M cs) Y H Q->
  wpAny (model Yq.prog Yq.w) Yq.A (forIn ifs true λc r=>if r=true then do let ok <- isTrue c Yq.env (eval c Yq.env); pure (LH ok)else pure (LH r)) (TP Yq J Y Q) (λ_ _=>K5) s:=by
 intro J s Y H Q I h
 match ifs,hl,hc with
 | [],_,hc=>
  cases hc;obtain⟨A,Z,S,k,S',er,so,e,hq⟩:=h;cases e;exact wpAny_tests_nil #[H,I,hq _ _ #[rfl,A,.refl,so]]
 | [c],_,hc=>
  obtain⟨e',es',h1,h2,rfl⟩:=i3 hc;cases h2;have:=ih h1 J s Y H Q I h;rw[hx]at this;exact wpAny_tests_one this
def bQ:∀(n:Jx) {Γ:Gam} {X:Cx} {e:J2} {e':E},CtxOk M X Γ->cE n Γ e=ba e'->GE X e (aB M e')/\GT X e (dy M e'):=by
 intro n
 induction n with
 | zero=>intro Γ X e e' K h; cases h
 | succ n ih=>
  intro Γ X e e' K h;have ihE:∀ {e:J2} {e':E},cE n Γ e=ba e'->GE X e (aB M e'):=λq=>(ih K q).1
  have ihT:∀ {e:J2} {e':E},cE n Γ e=ba e'->GT X e (dy M e'):=λq=>(ih K q).2
  have hu10:X.A.units+10 < cLine:=by have:=K.un; have:ii=20:=rfl; omega
  cases e with
  | Constant c k p=>
   cases c <;> cases h
   all_goals first
    | exact#[qa wX (λ_ _=>.non),cL (qa wX (λ_ _=>.non)) λ_=>rfl]
    | exact#[qa CA (λ_ _=>.bl),cL (qa CA (λ_ _=>.bl)) λ_=>rfl]
    | exact#[qa wW (λ_ _=>.int),cL (qa wW (λ_ _=>.int)) λ_=>rfl]
    | exact#[qa wY (λ_ _=>.str),cL (qa wY (λ_ _=>.str)) λ_=>rfl]
  | Name x p=>
   replace h:(match slot Γ x with|some i=>ba (E.v i)|none=>gV)=ba e':=h
   split at h
   ·rename_i i h1;cases h;exact#[yP K h1,cL (yP K h1) λ_=>rfl]
   ·cases h
  | BinOp a op b p=>
   replace h:(match uh op,cE n Γ a,cE n Γ b with|some o,ba a',ba b'=>ba (E.op o a' b')|_,_,_=>gV)=ba e':=h
   split at h
   ·rename_i o a' b' h1 h2 h3;cases h;have e:=yR h1;subst e;exact#[CF (tq o) (ihE h2) (ihE h3),cL (CF (tq o) (ihE h2) (ihE h3)) λ_=>rfl]
   ·cases h
  | UnaryOp op a p=>
   cases op with
   | Not=>
    replace h:(cE n Γ a).map E.not=ba e':=h;rw[Js]at h;obtain⟨a',h1,rfl⟩:=h;exact#[D2 (ihE h1),DZ (ihT h1)]
   | USub=>
    replace h:(cE n Γ a).map E.neg=ba e':=h;rw[Js]at h;obtain⟨a',h1,rfl⟩:=h;exact#[yk (ihE h1),cL (yk (ihE h1)) λ_=>rfl]
   | _=>exact aL h
  | BoolOp op vs p=>
   replace h:cB (cE n Γ) op vs=ba e':=h;exact#[oy ihE h,(oz ihT h).pt]
  | Compare a ops cs p=>
   match ops,cs,h with
   | [op],[b],h=>
    replace h:(match uj op,cE n Γ a,cE n Γ b with|some o,ba a',ba b'=>ba (E.cmp o a' b')|_,_,_=>gV)=ba e':=h
    split at h
    ·rename_i o a' b' h1 h2 h3;cases h;have e:=yQ h1;subst e;exact#[DV K.un (ihE h2) (ihE h3) (qw h3),DW K.un (ihE h2) (ihE h3) (qw h3)]
    ·cases h
   | [],_,h=>exact aL h
   | [_],[],h=>exact aL h
   | [_],_::_::_,h=>exact aL h
   | _::_::_,_,h=>exact aL h
  | Call f args kws p=>
   cases kws with
   | cons _ _=>cases f <;> first|(exact aL h)|(cases args <;> (exact aL h))
   | nil=>
    cases f with
    | Name x q=>
     replace h:(if lf Γ x then match Γ.fns.lookup x with|some k=>(cA (cE n Γ) args).map (E.own x k)|none=>if x==("isinstance" : JS)then(if Γ.blt.contains x then B1 Γ (cE n Γ) args else gV)else match (generalizing:=false) BZ x,args with|some b,a::as=>if Γ.blt.contains x then(cA (cE n Γ) (a::as)).map (E.bi b)else gV|_,_=>gV else gV)=ba e':=h
     split at h
     ·rename_i hg;split at h
      ·rename_i k hk;rw[Js]at h;obtain⟨r,hr,rfl⟩:=h;have g:=F9 (pos:=p) (p:=q) K hg hk hr (dc ihE hr);exact#[g,cL g λ_=>rfl]
      ·split at h
       ·rename_i his;split at h
        ·rename_i hc;obtain⟨g,a',c',rfl⟩:=Ga (pos:=p) (p:=q) K hg his hc ihE h;exact#[g,cL g λ_=>rfl]
        ·cases h
       ·split at h
        ·rename_i bb a as hb;split at h
         ·rename_i hc;rw[Js]at h;obtain⟨r,hr,rfl⟩:=h;have g:=Ic (pos:=p) (p:=q) K hg hb hc hr (dc ihE hr);exact#[g,cL g λ_=>rfl]
         ·cases h
        ·cases h
     ·cases h
    | Attribute o m q=>
     cases args with
     | nil=>exact aL h
     | cons a as=>
      replace h:(match B0 m,cE n Γ o,cA (cE n Γ) (a::as)with|some m',ba o',ba es=>if gE o&&(q.endLine==p.line)&&decide ((a::as).length < 29)then ba (E.me m' o' es)else gV|_,_,_=>gV)=ba e':=h
      split at h
      ·rename_i m' o' es h1 h2 h3;split at h
       ·rename_i hc;rw[Jv,Jv,JU]at hc;cases h;have g:=Ig K (cpos:=p) (apos:=q) h1 hc.1.1 hc.1.2 hc.2 (ihE h2) h3 (dc ihE h3);exact#[g,cL g λ_=>rfl]
       ·cases h
      ·cases h
    | _=>exact aL h
  | Subscript a b p=>
   have plain:(match cE n Γ a,cE n Γ b with|some a',ba b'=>ba (E.ix a' b')|_,_=>gV)=ba e'->GE X (.Subscript a b p) (aB M e')/\GT X (.Subscript a b p) (dy M e'):=λh=>by
    split at h
    ·rename_i a' b' h1 h2;cases h;have g:=FY (pos:=p) hu10 (ihE h1) (ihE h2) (sB h2);exact#[g,cL g λ_=>rfl]
    ·cases h
   cases b with
   | Slice lo hi st q=>
    cases st with
    | none=>
     replace h:(match cE n Γ a,cP (cE n Γ) lo,cP (cE n Γ) hi with|some a',ba lo',ba hi'=>ba (E.sl a' lo' hi')|_,_,_=>gV)=ba e':=h
     split at h
     ·rename_i a' lo' hi' h1 h2 h3;cases h;have g:=FZ (pos:=p) (p2:=q) (ihE h1) (yT ihE h2) (yT ihE h3);exact#[g,cL g λ_=>rfl]
     ·cases h
    | some z=>exact plain h
   | _=>exact plain h
  | Tuple es k p=>
   replace h:(cA (cE n Γ) es).map E.tup=ba e':=h;rw[Js]at h;obtain⟨r,h1,rfl⟩:=h;exact#[yr (dc ihE h1),cL (yr (dc ihE h1)) λ_=>rfl]
  | List es p=>
   replace h:(cA (cE n Γ) es).map E.lst=ba e':=h;rw[Js]at h;obtain⟨r,h1,rfl⟩:=h;exact#[yt (dc ihE h1),cL (yt (dc ihE h1)) λ_=>rfl]
  | Dict keys values p=>
   replace h:yN (cE n Γ) keys values=ba e':=h;unfold yN at h;split at h
   ·rename_i hc;cases h;rw[Jv]at hc;have k0:keys=[]:=Rf.mp hc.1;have v0:values=[]:=Rf.mp hc.2;subst k0 v0;exact#[BN,ow]
   ·rename_i hc0;split at h
    ·rename_i hc;rw[Jv,Jv,JU,JU]at hc;rw[Js]at h;obtain⟨r,hr,rfl⟩:=h;have h0:keys≠[]:=λz=>by
      subst z;have v0:values=[]:=Lb.mp hc.1.2.symm;subst v0;exact hc0 rfl
     exact#[BO (pos:=p) hu10 (um ihE keys values hc.1.1 hc.1.2 hr) hc.1.1 hc.1.2 h0 hc.2,ow]
    ·cases h
  | ListComp elt gens scope p=>
   match gens,h with
   | [#[tg,iter,ifs,asy]],h=>
    replace h:(if (asy==0)&&(yM Γ scope&&decide (ifs.length<=1))then match cI Γ (cE n Γ) tg iter,cT (hW Γ scope) tg,cA (cE n (hW Γ scope)) ifs,cE n (hW Γ scope) elt with|some it,ba t,ba cs,ba el=>ba (E.comp el t it cs (gF Γ scope.names))|_,_,_,_=>gV else gV)=ba e':=h
    split at h
    ·rename_i hc;rw[Jv,Jv,JU]at hc;have e0:asy=0:=eq_of_beq hc.1;subst e0;replace hc:=hc.2;split at h
     ·rename_i it t cs el h1 h2 h3 h4;cases h;have sc:=ur hc.1;show#[BQ K.calm (sC K ihE h1) (λok=>#[_,mW K ok sc,?_]) (ox (n:=n) (λel k p=>by cases n <;> rfl) h1),ow]
      show#[λC s0 H0 ex=>uq (fm K sc C s0 H0 ex) h2,λC s0 H0 ex J s Y H Q I q=>?_,λC s0 H0 ex=>(ih (fm K sc C s0 H0 ex) h4).1]
      exact qA hc.2 h3 (λz=>(ih (fm K sc C s0 H0 ex) z).2) rfl J s Y H Q I q
     ·cases h
    ·cases h
   | [],h=>exact aL h
   | #[_,_,_,_]::_::_,h=>exact aL h
  | _=>exact aL h
end
noncomputable abbrev bR:Jx:=30
abbrev CK:J2->J3
 | .Constant (.str _) _ _=>true
 | _=>false
abbrev jw:J2->J3
 | .ListComp _ _ _ _=>true
 | _=>false
abbrev uu:J2->J3
 | .Slice _ _ _ _=>true
 | _=>false
abbrev uw (f:Mx->Jw Sm)(ss:Jn Mx):Jw Ss:=ss.foldr (λs acc=>match f s,acc with|some s',ba ss'=>ba (.cons s' ss')|_,_=>gV) (ba .nil)
abbrev Eh (Γ:Gam):Jn J2->J2->Jw Sm
 | [.Name x px,.Name y py],.Tuple [a,b] _ _=>match Γ.N.findIdx? (· == x),Γ.N.findIdx? (· == y),cA (cE bR Γ) [a,b]with
  | some i,ba j,ba es=>if !(i==j)&&(Γ.sc.lookup x==ba .local)&&(Γ.sc.lookup y==ba .local)&&(py.line==px.line) && !([a,b].all (foldedForSure 8)) && !([a,b].all (constantsAlone 8))then ba (.par i j es)else gV
  | _,_,_=>gV
 | _,_=>gV
abbrev cS:Jx->Gam->Mx->Jw Sm
 | 0,_,_=>gV
 | n+1,Γ,st=>match st with
  | .Assign [.Name x _] e _=>match db Γ x,cE bR Γ e with
   | some i,ba e'=>ba (.set i e')
   | _,_=>gV
  | .Assign [.Tuple ts _ _] e _=>if isTup e then Eh Γ ts e else if jw e then gV else match E5 Γ ts,cE bR Γ e with
   | some is,ba e'=>ba (.asg is e')
   | _,_=>gV
  | .Assign [.Subscript o k _] e _=>if uu k then gV else match cE bR Γ o,cE bR Γ k,cE bR Γ e with
   | some o',ba k',ba e'=>ba (.put o' k' e')
   | _,_,_=>gV
  | .Expr e _=>if CK e then ba .pass else if jw e then gV else(cE bR Γ e).map .ex
  | .Return (ba e) _=>(cE bR Γ e).map .ret
  | .Pass _=>ba .pass
  | .If t a b _=>match cE bR Γ t,uw (cS n Γ) a,uw (cS n Γ) b with
   | some t',ba a',ba b'=>ba (.ite t' a' b')
   | _,_,_=>gV
  | .While t b [] _=>match cE bR Γ t,uw (cS n Γ) b with
   | some t',ba b'=>ba (.whl t' b')
   | _,_=>gV
  | .For tg it b [] _=>match cT Γ tg,cI Γ (cE bR Γ) tg it,uw (cS n Γ) b with
   | some t,ba i,ba b'=>ba (.loop t i b')
   | _,_,_=>gV
  | _=>gV
section
variable{M:JS->FF}{X:Cx}{Γ:Gam}{fuel:Jx}
def yU {f:Mx->Jw Sm}{s:Mx}{ss:Jn Mx}{r:Ss}(h:uw f (s::ss)=ba r):∃s' ss',f s=ba s'/\uw f ss=ba ss'/\r=.cons s' ss':=by
 simp only[uw,RA]at h;split at h
 ·rename_i e' es' h1 h2;cases h;exact#[e',es',h1,h2,rfl]
 ·cases h
def gG {n:Jx}(ih:∀ {st:Mx} {s':Sm},cS n Γ st=ba s'->GS X st (ga M fuel s')):∀ {ss:Jn Mx} {r:Ss},uw (cS n Γ) ss=ba r->GSs X ss (gb M fuel r)
 | [],r,h=>by cases h; exact Bx
 | s::ss,r,h=>by
  obtain⟨s',ss',h1,h2,rfl⟩:=yU h;exact yu (ih h1) (gG ih h2)
def lp {e:J2}{t:Jw J2}{l:Jx}{env:Qg}(h:jw e=false)(n:Jx){Γ:Gam}{e':E}(hc:cE n Γ e=ba e'):swapsWith e t l env=pure false:=by
 cases n with
 | zero=>cases hc
 | succ n=>cases e <;> first|(exfalso; exact aL hc)|rfl|cases h
def sD (K:CtxOk M X Γ){n:Jx}{elt:J2}{gens:Jn Comprehension}{scope:MM}{p:Mk}{e':E}(h:cE (n+1) Γ (.ListComp elt gens scope p)=ba e') :
  ∃tg iter ifs fi g c f cap,gens=[#[tg,iter,ifs,0]]/\aB M e'=lb fi g c f cap/\GI X tg iter fi/\(X.Ok->∃cl,CompOk X scope cl (g9 scope.names) cap/\BlockOk X scope cl (g9 scope.names) tg elt ifs g c f)/\∀x,foldedSetIterable iter X.env x=pure x:=by
 match gens,h with
 | [#[tg,iter,ifs,asy]],h=>
  replace h:(if (asy==0)&&(yM Γ scope&&decide (ifs.length<=1))then match cI Γ (cE n Γ) tg iter,cT (hW Γ scope) tg,cA (cE n (hW Γ scope)) ifs,cE n (hW Γ scope) elt with|some it,ba t,ba cs,ba el=>ba (E.comp el t it cs (gF Γ scope.names))|_,_,_,_=>gV else gV)=ba e':=h
  split at h
  ·rename_i hc;rw[Jv,Jv,JU]at hc;have e0:asy=0:=eq_of_beq hc.1;subst e0;replace hc:=hc.2;split at h
   ·rename_i it t cs el h1 h2 h3 h4;cases h;have sc:=ur hc.1;show#[tg,iter,ifs,_,_,_,_,_,rfl,rfl,sC K (λz=>(bQ n K z).1) h1,λok=>#[_,mW K ok sc,?_],ox (n:=n) (λel k p=>by cases n <;> rfl) h1]
    show#[λC s0 H0 ex=>uq (fm K sc C s0 H0 ex) h2,λC s0 H0 ex J s Y H Q I q=>?_,λC s0 H0 ex=>(bQ n (fm K sc C s0 H0 ex) h4).1]
    exact qA hc.2 h3 (λz=>(bQ n (fm K sc C s0 H0 ex) z).2) rfl J s Y H Q I q
   ·cases h
  ·cases h
 | [],h=>exact aL h
 | #[_,_,_,_]::_::_,h=>exact aL h
def Gb (K:CtxOk M X Γ){x:JS}{px pos:Mk}{e:J2}{i:Jx}{e':E}(hi:db Γ x=ba i)(he:cE bR Γ e=ba e'):GS X (.Assign [.Name x px] e pos) (la (aB M e') (CG i)):=by
 obtain⟨a,b,c⟩:=oA K hi;have hN:X.N.Nodup:=by rw[K.N]; exact K.nd
 have plain:swapsWith e (ba (.Name x px)) pos.line X.env=pure false->GS X (.Assign [.Name x px] e pos) (la (aB M e') (CG i)):=λhs=>su (bQ _ K he).1 (ud hN a b c) hs (by cases e <;> rfl) rfl
 cases hc:jw e with
 | false=>exact plain (lp hc _ he)
 | true=>
  cases e with
  | ListComp elt gens scope p=>
   cases hsw:(X.env.blockKind==.function&&X.env.kindOf x==ba .local&&px.line==p.line && !(scope.names.any λ(n,k)=>n==x&&(k==.local||k==.cell)))with
   | false=>
    show plain ?_;show(pure (X.env.blockKind==.function&&X.env.kindOf x==ba .local&&px.line==p.line && !(scope.names.any λ(n,k)=>n==x&&(k==.local||k==.cell))):Tb J3)=pure false
    rw[hsw]
   | true=>
    have hsw':swapsWith (.ListComp elt gens scope p) (ba (.Name x px)) pos.line X.env=pure true:=by
     show(pure (X.env.blockKind==.function&&X.env.kindOf x==ba .local&&px.line==p.line && !(scope.names.any λ(n,k)=>n==x&&(k==.local||k==.cell))):Tb J3)=pure true
     rw[hsw]
    rw[Jv,Jv,Jv]at hsw;have hl:X.env.scope.names.lookup x=ba .local:=eq_of_beq hsw.1.1.2;obtain⟨tg,iter,ifs,fi,g,c',f,cap,rfl,e2,gi,hck,hs⟩:=sD K he;rw[e2];exact sy K.calm gi hck hs hsw' hN a hl
  | _=>cases hc
def qB (K:CtxOk M X Γ){x y:JS}{px py pt pt2:Mk}{kt k2:Jx}{a b:J2}(hxy:x≠y)(hx:Γ.sc.lookup x=ba .local)(hy:Γ.sc.lookup y=ba .local)(hl:(py.line==px.line)=true)(h1:[a,b].all (foldedForSure 8)=false)(h2:[a,b].all (constantsAlone 8)=false)(hs:iw a=true)(hs2:iw b=true) :
  swappedStores [.Tuple [.Name x px,.Name y py] kt pt] (.Tuple [a,b] k2 pt2) X.env=pure (ba [x,y]):=by
 have kx:(X.env.kindOf x==ba .local)=true:=by unfold Pc; rw[K.names,hx]; rfl
 have ky:(X.env.kindOf y==ba .local)=true:=by unfold Pc; rw[K.names,hy]; rfl
 have bk:(X.env.blockKind != .function)=false:=by
  unfold Env.blockKind;rw[K.kind];rfl
 have hp:(px.line==px.line)=true:=by simp
 have ed:([x,y].eraseDups.length != [x,y].length)=false:=by
  have:(y==x)=false:=by simpa using Ne.symm hxy
  simp[P4,this]
 have kx':X.env.kindOf x=ba .local:=eq_of_beq kx;have ky':X.env.kindOf y=ba .local:=eq_of_beq ky;have hl':py.line=px.line:=eq_of_beq hl;have bk':X.env.blockKind=.function:=by simpa using bk
 have yx:(y==x)=false:=by simpa using Ne.symm hxy
 have h1':(foldedForSure 8 a&&foldedForSure 8 b)=false:=by simpa using h1
 have h2':(constantsAlone 8 a&&constantsAlone 8 b)=false:=by simpa using h2
 unfold swappedStores;simp only[L9,List.any_nil,P9,Nl,List.filterMap_nil,kx',ky',bk',List.head?_cons,Kg,Re,Kr,LS,KL,List.all_nil,Nq,h1',h2'];show Eq.trans (J8 ?_) (Eq.trans (J8 ?_) ?_)
 ·decide
 ·rw[Lk];rintro(hh|hh)
  ·clear h1 h2 h1' h2';cases a <;> first|(cases hh; done)|(cases hs; done)
  ·clear h1 h2 h1' h2';cases b <;> first|(cases hh; done)|(cases hs2; done)
 ·dsimp only[Expr.pos]; simp[hl',yx,P4]
def B2 (fuel:Jx)(K:CtxOk M X Γ):∀(n:Jx) {st:Mx} {s':Sm},cS n Γ st=ba s'->GS X st (ga M fuel s'):=by
 have hN:X.N.Nodup:=by rw[K.N]; exact K.nd
 have own:P0 (model X.prog X.w) X.A X.env X.xe:=by rw[K.xe]; exact TR
 intro n
 induction n with
 | zero=>intro st s' h; cases h
 | succ n ih=>
  intro st s' h;cases st with
  | Expr e p=>
   replace h:(if CK e then ba Sm.pass else if jw e then gV else(cE bR Γ e).map Sm.ex)=ba s':=h
   split at h
   ·rename_i hd;cases h;cases e with
    | Constant c k q=>
     cases c with
     | str x=>exact D6
     | _=>cases hd
    | _=>cases hd
   ·split at h
    ·cases h
    ·rename_i hd hc;rw[Js]at h;obtain⟨e',h1,rfl⟩:=h;exact F0 (bQ _ K h1).1 (lp (by simpa using hc) _ h1)
  | Return o p=>
   cases o with
   | none=>cases h
   | some e=>
    replace h:(cE bR Γ e).map Sm.ret=ba s':=h;rw[Js]at h;obtain⟨e',h1,rfl⟩:=h;exact D7 (bQ _ K h1).1
  | Pass p=>cases h; exact BA
  | If t a b p=>
   replace h:(match cE bR Γ t,uw (cS n Γ) a,uw (cS n Γ) b with|some t',ba a',ba b'=>ba (Sm.ite t' a' b')|_,_,_=>gV)=ba s':=h
   split at h
   ·rename_i t' a' b' h1 h2 h3;cases h;exact F1 (bQ _ K h1).2 (gG ih h2) (gG ih h3)
   ·cases h
  | While t b o p=>
   cases o with
   | cons _ _=>exact aL h
   | nil=>
    replace h:(match cE bR Γ t,uw (cS n Γ) b with|some t',ba b'=>ba (Sm.whl t' b')|_,_=>gV)=ba s':=h
    split at h
    ·rename_i t' b' h1 h2;cases h;exact yw fuel own (bQ _ K h1).2 (gG ih h2)
    ·cases h
  | For tg it b o p=>
   cases o with
   | cons _ _=>exact aL h
   | nil=>
    replace h:(match cT Γ tg,cI Γ (cE bR Γ) tg it,uw (cS n Γ) b with|some t,ba i,ba b'=>ba (Sm.loop t i b')|_,_,_=>gV)=ba s':=h
    split at h
    ·rename_i t i b' h1 h2 h3;cases h;exact Ec own K.calm (sC K (λz=>(bQ _ K z).1) h2) (uq K h1) (gG ih h3) (ox (n:=bR) (λel k p=>rfl) h2)
    ·cases h
  | Assign ts e p=>
   match ts,h with
   | [],h=>exact aL h
   | a::_::_,h=>cases a <;> exact aL h
   | [t],h=>
    cases t with
    | Name x px=>
     replace h:(match db Γ x,cE bR Γ e with|some i,ba e'=>ba (Sm.set i e')|_,_=>gV)=ba s':=h
     split at h
     ·rename_i i e' h1 h2;cases h;exact Gb K h1 h2
     ·cases h
    | Subscript o k q=>
     replace h:(if uu k then gV else match cE bR Γ o,cE bR Γ k,cE bR Γ e with|some o',ba k',ba e'=>ba (Sm.put o' k' e')|_,_,_=>gV)=ba s':=h
     split at h
     ·cases h
     ·rename_i hc;split at h
      ·rename_i o' k' e' h1 h2 h3;cases h;show su (bQ _ K h3).1 (D9 (by have:=K.un; have:ii=20:=rfl; omega) (bQ _ K h1).1 (bQ _ K h2).1 ?_) (by cases e <;> rfl) (by cases e <;> rfl) rfl
       intro v;cases k <;> first|rfl|exact absurd rfl hc
      ·cases h
    | Tuple ts' k q=>
     have par:∀ {x y:JS} {px py:Mk} {a b:PySem.Expr} {k2:Jx} {q2:Mk},(match Γ.N.findIdx? (· == x),Γ.N.findIdx? (· == y),cA (cE bR Γ) [a,b]with
       | some i,ba j,ba es=>if !(i==j)&&(Γ.sc.lookup x==ba .local)&&(Γ.sc.lookup y==ba .local)&&(py.line==px.line) && !([a,b].all (foldedForSure 8)) && !([a,b].all (constantsAlone 8))then ba (Sm.par i j es)else gV
       | _,_,_=>gV)=ba s'->GS X (.Assign [.Tuple [.Name x px,.Name y py] k q] (.Tuple [a,b] k2 q2) p) (ga M fuel s'):=λ{x y px py a b k2 q2} h=>by
      split at h
      ·rename_i i j es h1 h2 h3;split at h
       ·rename_i hc;cases h;rw[Jv,Jv,Jv,Jv,Jv]at hc;obtain⟨⟨⟨⟨⟨c1,c2⟩,c3⟩,c4⟩,c5⟩,c6⟩:=hc;have hij:i≠j:=by simpa using c1
        have ns:=cg h3;rw[KL,KL,Jv,Jv]at ns;have hi:X.N[i]?=ba x:=by rw[K.N]; exact dz h1
        have hj:X.N[j]?=ba y:=by rw[K.N]; exact dz h2
        show Ea K.calm hN hi hj hij (by rw[K.names]; exact eq_of_beq c2) (by rw[K.names]; exact eq_of_beq c3) (dc (λz=>(bQ _ K z).1) h3) (qB K ?_ (eq_of_beq c2) (eq_of_beq c3) c4 (by rw[<- M0]; exact c5) (by rw[<- M0]; exact c6) ns.1 ns.2.1) rfl
        rintro rfl;rw[h1]at h2;cases h2;exact hij rfl
       ·cases h
      ·cases h
     replace h:(if isTup e then Eh Γ ts' e else if jw e then gV else match E5 Γ ts',cE bR Γ e with|some is,ba e'=>ba (Sm.asg is e')|_,_=>gV)=ba s':=h
     split at h
     ·unfold Eh at h;split at h
      ·exact par h
      ·cases h
     ·split at h
      ·cases h
      ·rename_i hc1 hc2;split at h
       ·rename_i is e' h1 h2;cases h;show su (bQ _ K h2).1 (uq (tg:=.Tuple ts' k q) (t:=.tp is) K (by(dsimp only[cT]; simp[h1]))) (lp (t:=ba (.Tuple ts' k q)) (l:=p.line) (env:=X.env) (by simpa using hc2) _ h2) ?_ rfl
        cases e <;> first|rfl|exact absurd rfl hc1
       ·cases h
    | _=>exact aL h
  | _=>exact aL h
end
structure Df where
 ps:Jn JS
 N:Jn JS
 body:Ss
abbrev fH (N:Jn JS)(ws:Jn W):Fm:=ws.map ba++Km (N.length - ws.length) gV
abbrev am (defs:Jn (JS×Df))(fuel:Jx):Jx->JS->FF
 | 0,_,_,_=>gV
 | d+1,f,ws,S=>match defs.lookup f with
  | some df=>if ws.length=df.ps.length then match gb (am defs fuel d) fuel df.body (fH df.N ws) S with
    | some (.rt w,S')=>ba (w,S')
    | some (.nx _,S')=>ba (.non,S')
    | _=>gV
   else gV
  | none=>gV
structure Md where
 fns:Jn (JS×Jx)
 blt:Jn JS
abbrev yV (tv:Md)(st:Mx)(N:Jn JS):Gam:={ sc:=(aR st).names,N:=N,fns:=tv.fns,blt:=tv.blt,dfn:=true,own:=[] }
abbrev Gc (tv:Md)(st:Mx)(df:Df):Prop:=uw (cS 20 (yV tv st df.N)) (cD st)=ba df.body
def mX {K:JE}{A:Jn Jz}{H:Hp}{ws:Jn W}{vs:Jn V}{N:Jn JS}(r:RelL K A H ws vs):EnvRel K A H (fH N ws) (fQ N vs):=by
 show#[by simp[fH,L2.fQ,r.length],λi w h=>?_]
 unfold fH at h;unfold L2.fQ
 by_cases hi:i < ws.length
 ·rw[Ku (by simpa using hi),JB]at h
  rw[Ku (by rw[Jp,<- r.length]; exact hi),JB]
  cases q:ws[i]? with
  | none=>rw[q]at h; cases h
  | some w'=>
   rw[q]at h;simp only[Kg,Kb]at h;subst h;obtain⟨v,h1,h2⟩:=r.get q;exact#[v,by rw[h1]; rfl,h2]
 ·rw[LO (by simpa using hi)]at h
  have:=JJ h;simp at this
section
variable{P:Kf}{w:Kq}{K:JE}{mg:JS->Jw Jr}{base:Kv}
abbrev CL (P:Kf)(w:Kq)(K:JE)(mg:JS->Jw Jr)(base:Kv)(tv:Md)(defs:Jn (JS×Df))(fuel d:Jx):Prop:=
 ∀f n,tv.fns.lookup f=ba n->∃fa fd ps,FnOk P w K mg base wL d fa fd ps (spF w K n (am defs fuel d f))/\mg f=ba (.ref fa)/\Lj K (.ref fa)=true/\Binds K fd ps []
structure MdOk (w:Kq)(K:JE)(mg:JS->Jw Jr)(tv:Md):Prop where
 blt:∀y∈tv.blt,mg y=gV
def CM {tv:Md}{defs:Jn (JS×Df)}{fuel d:Jx}{x qual:JS}{st:Mx}{f:Jz}{fd:Mf}{df:Df}(F:Fun K x qual st f fd)(S:FnScope df.N df.ps (aR st))(hd:defs.lookup x=ba df)(hc:Gc tv st df)
  (hb:MdOk w K mg tv) (prev:CL P w K mg base tv defs fuel d):FnOk P w K mg base wL (d+1) f fd df.ps (spF w K df.ps.length (am defs fuel (d+1) x)):=by
 show F.ok S (λvs H Q E h=>?_) (λcdv A outer s H vs Q E hr h=>?_)
 ·obtain⟨A,S,ws,w',S',_,rl,hl,_⟩:=h;rw[<- rl.length]; exact hl
 ·obtain⟨A',St,ws,w',S',so,rl,hl,e,hq⟩:=h;have K':CtxOk (am defs fuel d) (rO wL P w K mg base df.N qual (aR st) f cdv A outer s H E).nox (yV tv st df.N):=by
   show#[rfl,S.kind,rfl,S.nd,rfl,rfl,?_,λ_ _=>rfl,λ_ h=>(nomatch h),hb.blt,λg n hg=>?_]
   ·have:=hr.un;show(A.deeper _).units+20 < cLine;omega
   ·obtain⟨fa,fd',ps',h1,h2,h3,h4⟩:=prev g n hg;exact#[d,fa,fd',ps',h1,hr,h2,h3,h4]
  show#[tS _ (gb (am defs fuel d) fuel df.body),gG (λz=>B2 fuel K' 20 z) hc,?_]
  (dsimp only[am]at e; simp only[hd]at e)
  rw[JX hl]at e;split at e
  ·rename_i w1 S1 h1;cases e;show#[A',fH df.N ws,St,_,_,mX rl,so,h1,#[λY' H' #[_,_,z,_,_,_]=>(by cases z),λv H' #[w2,A2,z0,z1,z2,z3]=>?_,λY' H' #[_,_,z,_,_,_]=>(by cases z),λY' H' #[_,_,z,_,_,_]=>(by cases z)]]
   cases z0;exact hq v H' #[A2,z1,z2,z3]
  ·rename_i Z1 S1 h1;cases e;show#[A',fH df.N ws,St,_,_,mX rl,so,h1,#[λY' H' #[w2,A2,z0,z1,z2,z3]=>?_,λY' H' #[_,_,z,_,_,_]=>(by cases z),λY' H' #[_,_,z,_,_,_]=>(by cases z),λY' H' #[_,_,z,_,_,_]=>(by cases z)]]
   exact hq _ H' #[A2,z1,z2,.non]
  ·cases e
def vY {H:Hp}{a:Jz}{ns:Jn JI}(hO:xu H)(hS:SqL K H a (ns.map V.int)):StoreOk w K [a] H [.fro (ns.map W.int)]/\RelL K [a] H [.ref 0] [.ref a]:=by
 have rl:∀ns:Jn JI,RelL K [a] H (ns.map W.int) (ns.map V.int):=by
  intro ns
  induction ns with
  | nil=>exact .nil
  | cons n ns ih=>exact .cons .int ih
 have fr:FroL K H a (ns.map V.int):=by
  rcases hS with(h|⟨o,h⟩)|h
  ·rcases hO a with z|⟨o,xs,z⟩ <;> (rw[z]at h; cases h)
  ·exact .inl #[o,h]
  ·exact .inr h
 show#[#[rfl,λi j b o u e1 m1 e2 m2 _ _=>?_,λi o b e1 e2=>?_],.cons (.ref rfl) .nil]
 ·cases i with
  | zero=>simp at e1; subst e1; cases m1
  | succ i=>simp at e1
 ·cases i with
  | zero=>
   simp at e1 e2;subst e1 e2;exact#[_,fr,rl ns]
  | succ i=>simp at e1
def Ei {g:FF}{H:Hp}{a:Jz}{ns:Jn JI}(h:∃S',g [.ref 0] [.fro (ns.map W.int)]=ba (.bl true,S'))(hO:xu H)(hS:SqL K H a (ns.map V.int)):spF w K 1 g [.ref a] H (λv _=>v=.bl true) λ_ _ _=>K5:=by
 obtain⟨S',e⟩:=h;obtain⟨so,rl⟩:=vY hO hS;exact#[[a],_,_,_,S',so,rl,rfl,e,λv H' #[A',z1,z2,z3]=>by cases z3; rfl]
end
abbrev Wp {α:Type}(o:Jw α)(Q:α->Prop):Prop:=∃a,o=ba a/\Q a
def ac {α:Type}{a:α}{Q:α->Prop}:Wp (ba a) Q↔Q a:=#[λ#[b,e,h]=>(by cases e; exact h),λh=>#[a,rfl,h]]
def af {α:Type}{Q:α->Prop}:Wp (gV:Jw α) Q↔K5:=#[λ#[b,e,h]=>(by cases e),λh=>h.elim]
def Wp.mono {α:Type}{o:Jw α}{Q Q':α->Prop}(h:Wp o Q)(k:∀a,Q a->Q' a):Wp o Q':=let ⟨a,e,q⟩:=h; #[a,e,k a q]
section
variable{M:JS->FF}{fuel:Jx}{Z:Fm}{S:aa}
noncomputable abbrev QW:=W×aa->Prop
def Ji {w:W}{Q:QW}:Wp (aB M (.c w) Z S) Q↔Q (w,S):=by(dsimp only[aB]; simp[fC,ac,af])
def IU {i:Jx}{Q:QW}:Wp (aB M (.v i) Z S) Q↔∃w,Z[i]?=ba (ba w)/\Q (w,S):=by
 (dsimp only[aB]; simp only[fV])
 rcases h:Z[i]? with _|_|w <;> simp[ac,af]
def yW {g:W->W->aa->Jw (W×aa)}{a b:FE}{Q:QW}:Wp (Bn g a b Z S) Q↔Wp (a Z S) λp=>Wp (b Z p.2) λq=>Wp (g p.1 q.1 q.2) Q:=by
 unfold Bn;rcases h:a Z S with _|⟨x,S1⟩
 ·simp[ac,af]
 ·rcases h2:b Z S1 with _|⟨y,S2⟩ <;> simp[ac,af,h2]
def Ih {o:BOp}{a b:E}{Q:QW}:Wp (aB M (.op o a b) Z S) Q↔Wp (aB M a Z S) λp=>Wp (aB M b Z p.2) λq=>Wp (fT o p.1 q.1 q.2) Q:=by dsimp only[aB]; exact yW
def CN {o:COp}{a b:E}{Q:QW}:Wp (aB M (.cmp o a b) Z S) Q↔Wp (aB M a Z S) λp=>Wp (aB M b Z p.2) λq=>Wp (aZ o p.1 q.1 q.2) Q:=by dsimp only[aB]; exact yW
def Ii {a b:E}{Q:QW}:Wp (aB M (.ix a b) Z S) Q↔Wp (aB M a Z S) λp=>Wp (aB M b Z p.2) λq=>Wp (o7 p.1 q.1 q.2) Q:=by dsimp only[aB]; exact yW
def Gd {a b:E}{Q:QW}:Wp (aB M (.and a b) Z S) Q↔Wp (aB M a Z S) λp=>∃k,p.1=.bl k/\(k=true->Wp (aB M b Z p.2) Q)/\(k=false->Q (.bl false,p.2)):=by
 (dsimp only[aB]; dsimp only[tZ])
 rcases h:aB M a Z S with _|⟨x,S1⟩
 ·simp[ac,af]
 ·cases x <;> simp[ac,af]
  rename_i b; cases b <;> simp[ac,af]
def Ij {a b:E}{Q:QW}:Wp (aB M (.or a b) Z S) Q↔Wp (aB M a Z S) λp=>∃k,p.1=.bl k/\(k=true->Q (.bl true,p.2))/\(k=false->Wp (aB M b Z p.2) Q):=by
 (dsimp only[aB]; dsimp only[Bs])
 rcases h:aB M a Z S with _|⟨x,S1⟩
 ·simp[ac,af]
 ·cases x <;> simp[ac,af]
  rename_i b; cases b <;> simp[ac,af]
def Ge {a:E}{Q:QW}:Wp (aB M (.not a) Z S) Q↔Wp (aB M a Z S) λp=>∃k,p.1=.bl k/\Q (.bl (!k),p.2):=by
 (dsimp only[aB]; dsimp only[t4])
 rcases h:aB M a Z S with _|⟨x,S1⟩
 ·simp[ac,af]
 ·cases x <;> simp[ac,af]
  rename_i k; cases k <;> simp
def CO {f:JS}{n:Jx}{es:Es}{Q:QW}:Wp (aB M (.own f n es) Z S) Q↔Wp (c7 M es Z S) λp=>p.1.length=n/\Wp (M f p.1 p.2) Q:=by
 (dsimp only[aB]; dsimp only[qd])
 rcases h:c7 M es Z S with _|⟨x,S1⟩
 ·simp[ac,af]
 ·by_cases hl:x.length=n <;> simp[ac,af,hl]
def Gf {b:Bi}{es:Es}{Q:QW}:Wp (aB M (.bi b es) Z S) Q↔Wp (c7 M es Z S) λp=>Wp (b.fn p.1 p.2) Q:=by
 (dsimp only[aB]; dsimp only[jR])
 rcases h:c7 M es Z S with _|⟨x,S1⟩ <;> simp[ac,af]
def Ik {m:Me}{o:E}{es:Es}{Q:QW}:Wp (aB M (.me m o es) Z S) Q↔Wp (aB M o Z S) λp=>tyOk m.ty p.2 p.1=true/\Wp (c7 M es Z p.2) λq=>Wp (m.fn p.1 q.1 q.2) Q:=by
 (dsimp only[aB]; dsimp only[E2])
 rcases h:aB M o Z S with _|⟨x,S1⟩
 ·simp[ac,af]
 ·by_cases ht:tyOk m.ty S1 x=true
  ·rcases h2:c7 M es Z S1 with _|⟨y,S2⟩ <;> simp[ac,af,ht,h2]
  ·simp[ac,af,ht]
def Il {a:E}{lo hi:Ep}{Q:QW}:Wp (aB M (.sl a lo hi) Z S) Q↔Wp (aB M a Z S) λp=>Wp (ug M lo Z p.2) λq=>Wp (ug M hi Z q.2) λr=>Wp (ph p.1 q.1 r.1 r.2) Q:=by
 (dsimp only[aB]; dsimp only[FX])
 rcases h:aB M a Z S with _|⟨x,S1⟩
 ·simp[ac,af]
 ·rcases h2:ug M lo Z S1 with _|⟨y,S2⟩
  ·simp[ac,af,h2]
  ·rcases h3:ug M hi Z S2 with _|⟨z,S3⟩ <;> simp[ac,af,h2,h3]
def Im {Q:Jw JI×aa->Prop}:Wp (ug M .no Z S) Q↔Q (gV,S):=by(dsimp only[ug]; simp[D4,ac,af])
def Gg {a:E}{Q:Jw JI×aa->Prop}:Wp (ug M (.yes a) Z S) Q↔Wp (aB M a Z S) λp=>∃i,p.1=.int i/\Q (ba i,p.2):=by
 (dsimp only[ug]; simp only[t9])
 rcases h:aB M a Z S with _|⟨x,S1⟩
 ·simp[ac,af]
 ·cases x <;> simp[ac,af]
def Gh {es:Es}{Q:QW}:Wp (aB M (.tup es) Z S) Q↔Wp (c7 M es Z S) λp=>p.1.length<=sizeLine/\Q (.tup p.1,p.2):=by
 (dsimp only[aB]; (dsimp only[yp]; simp only[rT]))
 rcases h:c7 M es Z S with _|⟨x,S1⟩
 ·simp[ac,af]
 ·by_cases hl:x.length<=sizeLine <;> simp[ac,af,hl]
def Gi {es:Es}{Q:QW}:Wp (aB M (.lst es) Z S) Q↔Wp (c7 M es Z S) λp=>p.1.length<=sizeLine/\Q (.ref p.2.length,p.2++[.lst p.1]):=by
 (dsimp only[aB]; (dsimp only[yq]; simp only[lY]))
 rcases h:c7 M es Z S with _|⟨x,S1⟩
 ·simp[ac,af]
 ·by_cases hl:x.length<=sizeLine <;> simp[ac,af,hl]
def CP {c:Lf}{a:E}{Q:QW}:Wp (aB M (.isi c a) Z S) Q↔Wp (aB M a Z S) λp=>∃k,vR p.2 p.1 c=ba k/\Q (.bl k,p.2):=by
 (dsimp only[aB]; simp only[yA])
 rcases h:aB M a Z S with _|⟨x,S1⟩
 ·simp[ac,af]
 ·cases h2:vR S1 x c <;> simp[ac,af,h2]
  rename_i k; cases k <;> simp
def Gj {a:E}{Q:QW}:Wp (aB M (.neg a) Z S) Q↔Wp (aB M a Z S) λp=>∃i,p.1=.int i/\Q (.int (-i),p.2):=by
 (dsimp only[aB]; simp only[yj])
 rcases h:aB M a Z S with _|⟨x,S1⟩
 ·simp[ac,af]
 ·cases x <;> simp[ac,af]
def Ej {es:Es}{Q:QW}:Wp (aB M (.disp es) Z S) Q↔Wp (c7 M es Z (S++[.dic []])) λp=>p.2[S.length]?=ba (.dic [])/\∃U,dF [] p.1=ba U/\Q (.ref S.length,p.2.set S.length (.dic U)):=by
 have e:aB M (.disp es) Z S=ql (c7 M es) Z S:=by dsimp only[aB]
 rw[e];unfold ql;cases c7 M es Z (S++[.dic []])with
 | none=>simp[af]
 | some p=>
  obtain⟨x,S1⟩:=p;simp only[ac];cases h2:S1[S.length]? with
  | none=>simp[af]
  | some o=>
   cases o with
   | lst _=>simp[af]
   | fro _=>simp[af]
   | frd _=>simp[af]
   | stt _=>simp[af]
   | rng _ _=>simp[af]
   | dic U=>
    cases U with
    | nil=>cases h3:dF [] x <;> simp[ac,af]
    | cons a b=>simp[af]
def Gk {Q:Jn W×aa->Prop}:Wp (c7 M .nil Z S) Q↔Q ([],S):=by(dsimp only[c7]; (dsimp only[iY]; simp[ac,af]))
def Ek {e:E}{es:Es}{Q:Jn W×aa->Prop}:Wp (c7 M (.cons e es) Z S) Q↔Wp (aB M e Z S) λp=>Wp (c7 M es Z p.2) λq=>Q (p.1::q.1,q.2):=by
 (dsimp only[c7]; dsimp only[dJ])
 rcases h:aB M e Z S with _|⟨x,S1⟩
 ·simp[ac,af]
 ·rcases h2:c7 M es Z S1 with _|⟨y,S2⟩ <;> simp[ac,af,h2]
noncomputable abbrev QB:=J3×aa->Prop
def Gm {f:FE}{Q:QB}:Wp (ym f Z S) Q↔Wp (f Z S) λp=>∃k,p.1=.bl k/\Q (k,p.2):=by
 unfold ym;rcases h:f Z S with _|⟨x,S1⟩
 ·simp[ac,af]
 ·cases x <;> simp[ac,af]
  rename_i k; cases k <;> simp
def uy {f:FE}{Q:QB}:Wp (gU f Z S) Q↔Wp (f Z S) λp=>∃k,io p.2 p.1=ba k/\Q (k,p.2):=by
 unfold gU;rcases h:f Z S with _|⟨x,S1⟩
 ·simp[ac,af]
 ·cases h2:io S1 x <;> simp[ac,af,h2]
  rename_i k; cases k <;> simp
def Gn {o:COp}{a b:E}{Q:QB}:Wp (dy M (.cmp o a b) Z S) Q↔Wp (aB M (.cmp o a b) Z S) λp=>∃k,p.1=.bl k/\Q (k,p.2):=by dsimp only[dy,aB]; exact Gm
def Go {a b:E}{Q:QB}:Wp (dy M (.and a b) Z S) Q↔Wp (dy M a Z S) λp=>(p.1=true->Wp (dy M b Z p.2) Q)/\(p.1=false->Q (false,p.2)):=by
 (dsimp only[dy]; simp only[yn])
 rcases h:dy M a Z S with _|⟨x,S1⟩
 ·simp[ac,af]
 ·cases x <;> simp[ac,af]
def Io {a b:E}{Q:QB}:Wp (dy M (.or a b) Z S) Q↔Wp (dy M a Z S) λp=>(p.1=true->Q (true,p.2))/\(p.1=false->Wp (dy M b Z p.2) Q):=by
 (dsimp only[dy]; simp only[FU])
 rcases h:dy M a Z S with _|⟨x,S1⟩
 ·simp[ac,af]
 ·cases x <;> simp[ac,af]
def Gp {a:E}{Q:QB}:Wp (dy M (.not a) Z S) Q↔Wp (dy M a Z S) λp=>Q (!p.1,p.2):=by
 (dsimp only[dy]; simp only[Bp])
 rcases h:dy M a Z S with _|⟨x,S1⟩ <;> simp[ac,af]
def Jj {i:Jx}{Q:QB}:Wp (dy M (.v i) Z S) Q↔Wp (aB M (.v i) Z S) λp=>∃k,io p.2 p.1=ba k/\Q (k,p.2):=by dsimp only[dy,aB]; exact uy
def Gq {f:JS}{n:Jx}{es:Es}{Q:QB}:Wp (dy M (.own f n es) Z S) Q↔Wp (aB M (.own f n es) Z S) λp=>∃k,io p.2 p.1=ba k/\Q (k,p.2):=by dsimp only[dy,aB]; exact uy
def Ip {b:Bi}{es:Es}{Q:QB}:Wp (dy M (.bi b es) Z S) Q↔Wp (aB M (.bi b es) Z S) λp=>∃k,io p.2 p.1=ba k/\Q (k,p.2):=by dsimp only[dy,aB]; exact uy
def Gr {c:Lf}{a:E}{Q:QB}:Wp (dy M (.isi c a) Z S) Q↔Wp (aB M (.isi c a) Z S) λp=>∃k,io p.2 p.1=ba k/\Q (k,p.2):=by dsimp only[dy,aB]; exact uy
noncomputable abbrev QO:=Out×aa->Prop
def Gs {Q:QO}:Wp (gb M fuel .nil Z S) Q↔Q (.nx Z,S):=by(dsimp only[gb]; simp[ac,af])
def El {s:Sm}{ss:Ss}{Q:QO}:Wp (gb M fuel (.cons s ss) Z S) Q↔Wp (ga M fuel s Z S) λp=>(∀Z',p.1=.nx Z'->Wp (gb M fuel ss Z' p.2) Q)/\((∀Z',p.1≠.nx Z')->Q p):=by
 (dsimp only[gb]; simp only[By])
 rcases h:ga M fuel s Z S with _|⟨o,S1⟩
 ·simp[ac,af]
 ·cases o <;> simp[ac,af]
def yX {f:FE}{g:FG}{Q:QO}:Wp (la f g Z S) Q↔Wp (f Z S) λp=>Wp (g p.1 Z p.2) λq=>Q (.nx q.1,q.2):=by
 unfold la;rcases h:f Z S with _|⟨x,S1⟩
 ·simp[ac,af]
 ·rcases h2:g x Z S1 with _|⟨y,S2⟩ <;> simp[ac,af,h2]
def Em {i:Jx}{e:E}{Q:QO}:Wp (ga M fuel (.set i e) Z S) Q↔Wp (aB M e Z S) λp=>Q (.nx (Z.set i (ba p.1)),p.2):=by
 dsimp only[ga]; rw[yX]; simp[CG,ac,af]
def En {is:Jn Jx}{e:E}{Q:QO}:Wp (ga M fuel (.asg is e) Z S) Q↔Wp (aB M e Z S) λp=>∃ws Z',p.1=.tup ws/\d7 is ws Z=ba Z'/\Q (.nx Z',p.2):=by
 dsimp only[ga]; rw[yX]
 constructor
 ·show λh=>h.mono λp hp=>?_
  obtain⟨w,S1⟩:=p;obtain⟨q,h1,h2⟩:=hp;cases w with
  | tup ws=>
   simp only[E3,Js]at h1;obtain⟨Z',h3,rfl⟩:=h1;exact#[ws,Z',rfl,h3,h2]
  | _=>cases h1
 ·show λh=>h.mono λp hp=>?_
  obtain⟨w,S1⟩:=p;obtain⟨ws,Z',h0,h1,h2⟩:=hp;subst h0;exact#[(Z',S1),by simp[E3,h1],h2]
def Eo {i j:Jx}{es:Es}{Q:QO}:Wp (ga M fuel (.par i j es) Z S) Q↔Wp (c7 M es Z S) λp=>∃x y,p.1=[x,y]/\Q (.nx ((Z.set i (ba x)).set j (ba y)),p.2):=by
 (dsimp only[ga]; dsimp only[BF])
 rcases h:c7 M es Z S with _|⟨x,S1⟩
 ·simp[af]
 ·match x with
  | []=>simp[ac,af]
  | [_]=>simp[ac,af]
  | [a,b]=>
   simp only[ac];exact#[λh=>#[a,b,rfl,h],λ#[x,y,e,h]=>by cases e; exact h]
  | _::_::_::_=>simp[ac,af]
def Er {o k e:E}{Q:QO}:Wp (ga M fuel (.put o k e) Z S) Q↔Wp (aB M e Z S) λp=>Wp (aB M o Z p.2) λq=>Wp (aB M k Z q.2) λr=>∃S',iU q.1 r.1 p.1 r.2=ba S'/\Q (.nx Z,S'):=by
 dsimp only[ga]; rw[yX]
 rcases h:aB M e Z S with _|⟨x,S1⟩
 ·simp[ac,af]
 ·simp only[ac];unfold BE;rcases h2:aB M o Z S1 with _|⟨y,S2⟩
  ·simp[ac,af]
  ·rcases h3:aB M k Z S2 with _|⟨z,S3⟩
   ·simp[ac,af,h3]
   ·cases h4:iU y z x S3 <;> simp[ac,af,h3,h4]
def Gu {e:E}{Q:QO}:Wp (ga M fuel (.ex e) Z S) Q↔Wp (aB M e Z S) λp=>Q (.nx Z,p.2):=by
 (dsimp only[ga]; simp only[Bz])
 rcases h:aB M e Z S with _|⟨x,S1⟩ <;> simp[ac,af]
def Et {e:E}{Q:QO}:Wp (ga M fuel (.ret e) Z S) Q↔Wp (aB M e Z S) λp=>Q (.rt p.1,p.2):=by
 (dsimp only[ga]; simp only[BB])
 rcases h:aB M e Z S with _|⟨x,S1⟩ <;> simp[ac,af]
def Eu {t:E}{a b:Ss}{Q:QO}:Wp (ga M fuel (.ite t a b) Z S) Q↔Wp (dy M t Z S) λp=>(p.1=true->Wp (gb M fuel a Z p.2) Q)/\(p.1=false->Wp (gb M fuel b Z p.2) Q):=by
 (dsimp only[ga]; simp only[BC])
 rcases h:dy M t Z S with _|⟨x,S1⟩
 ·simp[ac,af]
 ·cases x <;> simp[ac,af]
abbrev yY (I:Fm->aa->Prop)(Q:QO)(o:Out×aa):Prop:=match o.1 with
 | .nx Z'=>I Z' o.2
 | .ct Z'=>I Z' o.2
 | .bk Z'=>Q (.nx Z',o.2)
 | .rt w=>Q (.rt w,o.2)
def jx {mi:MI}{g:FG}{b:FS}{xs:Jn W}{Q:QO}(I:Jx->Fm->aa->Prop)(hat:∀i Z S,I i Z S->mi.at S i=ba xs[i]?)
  (hstep:∀i w Z S,xs[i]?=ba w->I i Z S->Wp (g w Z S) λq=>Wp (b q.1 q.2) (yY (I (i+1)) Q)) (hend:∀Z S,I xs.length Z S->Q (.nx Z,S)):∀(n i:Jx) (Z:Fm) (S:aa),i+n=xs.length->I i Z S->Wp (fY mi g b n i Z S) Q
 | 0,i,Z,S,hl,hI=>by
  have e:mi.at S i=ba gV:=by rw[hat i Z S hI,MY ∅]
  simp only[fY,e];have hi:i=xs.length:=∅
  exact ac.mpr (hend Z S (hi ▸ hI))
 | n+1,i,Z,S,hl,hI=>by
  have hi:i < xs.length:=∅
  have e:mi.at S i=ba (ba xs[i]):=by rw[hat i Z S hI,Jy hi]
  obtain⟨⟨Z1,S1⟩,h1,⟨o,S2⟩,h2,h3⟩:=hstep i xs[i] Z S (Jy hi) hI;simp only[fY,e,h1,h2];cases o with
  | nx Z2=>exact jx I hat hstep hend n (i+1) Z2 S2 ∅ h3
  | ct Z2=>exact jx I hat hstep hend n (i+1) Z2 S2 ∅ h3
  | bk Z2=>exact ac.mpr h3
  | rt w=>exact ac.mpr h3
def Gv {fi:FI}{g:FG}{b:FS}{Q:QO}:Wp (yy fi g b Z S) Q↔Wp (fi Z S) λp=>∃n,p.1.len p.2=ba n/\Wp (fY p.1 g b n 0 Z p.2) Q:=by
 unfold yy;rcases h:fi Z S with _|⟨mi,S1⟩
 ·simp[af]
 ·cases h2:mi.len S1 <;> simp[ac,af,h2]
def dP {mi:MI}{g:FG}{c:FT}{f:FE}{xs:Jn W}{Q:Jn W×aa->Prop}(I:Jx->Jn W->Fm->aa->Prop)(hat:∀i ys Z S,I i ys Z S->mi.at S i=ba xs[i]?)
  (hstep:∀i w ys Z S,xs[i]?=ba w->I i ys Z S->Wp (g w Z S) λq=>Wp (c q.1 q.2) λk=>(k.1=true->Wp (f q.1 k.2) λy=>I (i+1) (ys++[y.1]) q.1 y.2)/\(k.1=false->I (i+1) ys q.1 k.2))
  (hend:∀ys Z S,I xs.length ys Z S->Q (ys,S)):∀(n i:Jx) (ys:Jn W) (Z:Fm) (S:aa),i+n=xs.length->I i ys Z S->Wp (bz mi g c f n i Z S) λp=>Q (ys++p.1,p.2)
 | 0,i,ys,Z,S,hl,hI=>by
  have e:mi.at S i=ba gV:=by rw[hat i ys Z S hI,MY ∅]
  simp only[bz,e];show ac.mpr ?_;have:i=xs.length:=∅
  simpa using hend ys Z S (this ▸ hI)
 | n+1,i,ys,Z,S,hl,hI=>by
  have hi:i < xs.length:=∅
  have e:mi.at S i=ba (ba xs[i]):=by rw[hat i ys Z S hI,Jy hi]
  obtain⟨⟨Z1,S1⟩,h1,⟨k,S2⟩,h2,h3,h4⟩:=hstep i xs[i] ys Z S (Jy hi) hI;simp only[bz,e,h1,h2];cases k with
  | true=>
   obtain⟨⟨y,S3⟩,h5,h6⟩:=h3 rfl;simp only[h5];obtain⟨⟨zs,S4⟩,h7,h8⟩:=dP I hat hstep hend n (i+1) (ys++[y]) Z1 S3 ∅ h6
   simp only[h7];exact ac.mpr (by simpa using h8)
  | false=>exact dP I hat hstep hend n (i+1) ys Z1 S2 ∅ (h4 rfl)
def yZ {elt:E}{tg:Tg}{it:Ie}{cs:Es}{cap:Jn (Jw Jx)}{Q:QW}:Wp (aB M (.comp elt tg it cs cap) Z S) Q↔Wp (iZ M it Z S) λp=>∃n,p.1.len p.2=ba n/\Wp (bz p.1 (fZ tg) (BX M cs) (aB M elt) n 0 (eg cap Z) p.2) λq=>q.1.length<=sizeLine/\Q (.ref q.2.length,q.2++[.lst q.1]):=by
 (dsimp only[aB]; simp only[lb,lY])
 rcases h:iZ M it Z S with _|⟨mi,S1⟩
 ·simp[af]
 ·rcases h2:mi.len S1 with _|n
  ·simp[ac,af,h2]
  ·rcases h3:bz mi (fZ tg) (BX M cs) (aB M elt) n 0 (eg cap Z) S1 with _|⟨ys,S2⟩
   ·simp[ac,af,h2,h3]
   ·by_cases hl:ys.length<=sizeLine <;> simp[ac,af,h2,h3,hl]
def Gw {Q:QB}:Wp (BX M .nil Z S) Q↔Q (true,S):=by(dsimp only[BX]; simp[CI,ac])
def Gx {e:E}{Q:QB}:Wp (BX M #v[e] Z S) Q↔Wp (dy M e Z S) Q:=by dsimp only[BX]; exact Iff.rfl
def lq {c:FT}{b:FS}{Q:QO}(I:Jx->Fm->aa->Prop)(hstep:∀m Z S,I m Z S->Wp (c Z S) λk=>(k.1=true->∃m',m=m'+1/\Wp (b Z k.2) (yY (I m') Q))/\(k.1=false->Q (.nx Z,k.2))) :
  ∀(n m:Jx) (Z:Fm) (S:aa),m < n->I m Z S->Wp (on c b n Z S) Q
 | 0,m,Z,S,h,_=>∅
 | n+1,m,Z,S,h,hI=>by
  obtain⟨⟨k,S1⟩,h1,h2,h3⟩:=hstep m Z S hI;simp only[on,h1];cases k with
  | false=>exact ac.mpr (h3 rfl)
  | true=>
   obtain⟨m',rfl,⟨o,S2⟩,h5,h6⟩:=h2 rfl;simp only[h5];cases o with
   | nx Z2=>exact lq I hstep n m' Z2 S2 ∅ h6
   | ct Z2=>exact lq I hstep n m' Z2 S2 ∅ h6
   | bk Z2=>exact ac.mpr h6
   | rt w=>exact ac.mpr h6
def vZ {defs:Jn (JS×Df)}{d:Jx}{f:JS}{ws:Jn W}{df:Df}{Q:QW}(h:defs.lookup f=ba df)(hl:ws.length=df.ps.length)
  (hb:Wp (gb (am defs fuel d) fuel df.body (fH df.N ws) S) λp=>match p.1 with|.rt w=>Q (w,p.2)|.nx _=>Q (.non,p.2)|_=>K5):Wp (am defs fuel (d+1) f ws S) Q:=by
 obtain⟨⟨o,S1⟩,h1,h2⟩:=hb;simp only[am,h,JX hl,h1];cases o with
 | rt w=>exact ac.mpr h2
 | nx Z=>exact ac.mpr h2
 | bk _=>exact h2.elim
 | ct _=>exact h2.elim
end
section
variable{S:aa}{Q:QW}
def cQ {a b:JI}:fT .add (.int a) (.int b) S=ba (.int (a+b),S):=rfl
def qC {a b:JI}:fT .sub (.int a) (.int b) S=ba (.int (a - b),S):=rfl
def oB {c:JI->JI->J3}{f:JI->JI->JI}{i j:JI}(h:c i j=true):Ap c f (.int i) (.int j) S=ba (.int (f i j),S):=by
 unfold Ap;dsimp only;rw[JX h]
def qD {a b:JI}(h : -(2 ^ 64) < b)(h2:b < 2 ^ 64):fT .mul (.int a) (.int b) S=ba (.int (a*b),S):=oB (c:=vk) (f:=(· * ·)) (by
 unfold vk;simp only[Lk,Jv,JU];exact .inr #[h,h2])
def i4 {a b:JI}(h:0 < b):fT .mod (.int a) (.int b) S=ba (.int (a % b),S):=oB (c:=λ_ j=>decide (0 < j)) (f:=(· % ·)) (K6 h)
def iA {a b:JI}(h:0 < b)(h2:b < 1073741824):fT .fdiv (.int a) (.int b) S=ba (.int (a / b),S):=oB (c:=λ_ j=>AT j) (f:=(· / ·)) (by
 unfold AT;simp only[Jv,JU];exact#[h,h2])
def Ev:fT .pow (.int 10) (.int 18) S=ba (.int 1000000000000000000,S):=rfl
def Ew {x y:JS}(h:x.length+y.length<=sizeLine):fT .add (.str x) (.str y) S=ba (.str (x++y),S):=by simp only[fT,vm]; rw[JX h]
def gh {xs ys:Jn W}(h:(xs++ys).length<=sizeLine):fT .add (.tup xs) (.tup ys) S=ba (.tup (xs++ys),S):=by simp only[fT,vm,rT]; rw[JX h]
def y4 {i j:Jx}{xs ys:Jn W}(h1:S[i]?=ba (.lst xs))(h2:S[j]?=ba (.lst ys))(h:(xs++ys).length<=sizeLine):fT .add (.ref i) (.ref j) S=ba (.ref S.length,S++[.lst (xs++ys)]):=by
 simp only[fT,vm,o5,h1,h2,lY]; rw[JX h]
def iB {a b:JI}:aZ .eq (.int a) (.int b) S=ba (.bl (a==b),S):=rfl
def Iq {a b:JI}:aZ .ne (.int a) (.int b) S=ba (.bl (!(a==b)),S):=rfl
def v4 {a b:JI}:aZ .lt (.int a) (.int b) S=ba (.bl (decide (a < b)),S):=rfl
def Gy {a b:JI}:aZ .gt (.int a) (.int b) S=ba (.bl (decide (a > b)),S):=rfl
def Ir {a b:JI}:aZ .ge (.int a) (.int b) S=ba (.bl (decide (a>=b)),S):=rfl
def CQ {a b:JS}:aZ .eq (.str a) (.str b) S=ba (.bl (a==b),S):=rfl
def Gz {a b:JS}:aZ .ne (.str a) (.str b) S=ba (.bl (!(a==b)),S):=rfl
def aq {r:Jx}{xs:Jn W}(h:S[r]?=ba (.lst xs)):fS S r=ba xs:=by simp[fS,h]
def B3 {r:Jx}{xs:Jn W}(h:S[r]?=ba (.fro xs)):fS S r=ba xs:=by simp[fS,h]
def di {r:Jx}{xs:Jn W}(h:S[r]?=ba (.lst xs)):o5 S r=ba xs:=by simp[o5,h]
def km {r:Jx}{xs:Jn W}(h:S[r]?=ba (.lst xs)):jN S r=gV:=by simp[jN,h]
def ci {r:Jx}{U:Jn (T×W)}(h:S[r]?=ba (.dic U)):jN S r=ba U:=by simp[jN,h]
def oE {r:Jx}{U:Jn (T×W)}(h:S[r]?=ba (.dic U)):fS S r=gV:=by simp[fS,h]
def B4 {r:Jx}{U:Jn (T×W)}(h:S[r]?=ba (.frd U)):jN S r=ba U:=by simp[jN,h]
def atI_nat {α:Type}{xs:Jn α}{j:Jx}{w:α}(h:xs[j]?=ba w):pd xs (j:JI)=ba w:=by
 have hl:=(JD.mp h).1;unfold pd sZ;rw[JX (JN j),JX (by exact_mod_cast hl)]
 simpa using h
def oF {α:Type}{xs:Jn α}{i:JI}{w:α}(h0:0<=i)(h:xs[i.toNat]?=ba w):pd xs i=ba w:=by
 have:=atI_nat h
 rwa [Nm h0]at this
def y6 {r:Jx}{xs:Jn W}{i:JI}{w:W}(h:S[r]?=ba (.lst xs))(h0:0<=i)(hw:xs[i.toNat]?=ba w):o7 (.ref r) (.int i) S=ba (w,S):=by
 change vn (.ref r) (.int i) S=_;simp[vn,aq h,oF h0 hw]
def GB {xs:Jn W}{i:JI}{w:W}(h0:0<=i)(hw:xs[i.toNat]?=ba w):o7 (.tup xs) (.int i) S=ba (w,S):=by
 change vn (.tup xs) (.int i) S=_;simp[vn,oF h0 hw]
def CS {x:JS}{i:JI}{c:Jx}(hz:x.length<=sizeLine)(h0:0<=i)(hw:x.cps.toList[i.toNat]?=ba c):o7 (.str x) (.int i) S=ba (.str #[[c].toArray],S):=by
 change vn (.str x) (.int i) S=_;simp[vn,hz,oF h0 hw]
def CT {r:Jx}{xs:Jn W}{i:JI}{w:W}(h:S[r]?=ba (.lst xs))(h0:0<=i)(hi:i.toNat < xs.length):iU (.ref r) (.int i) w S=ba (S.set r (.lst (xs.set i.toNat w))):=by
 change vo (.ref r) (.int i) w S=_;have:sZ xs.length i=ba i.toNat:=by
  unfold sZ;rw[JX h0,JX ∅]
 simp[vo,di h,this]
def CU {r:Jx}{xs:Jn W}(h:S[r]?=ba (.lst xs)):sa [.ref r] S=ba (.int xs.length,S):=by
 (dsimp only[sa,rW]; simp[km h,aq h])
def uz {r:Jx}{xs:Jn W}{y:W}(h:S[r]?=ba (.lst xs))(hl:xs.length < sizeLine):iM (.ref r) [y] S=ba (.non,S.set r (.lst (xs++[y]))):=by
 simp[iM,di h,hl]
def GC {r:Jx}{xs:Jn W}(h:S[r]?=ba (.lst xs)):kZ [.ref r] S=ba (.tup xs,S):=by
 (dsimp only[kZ,kI]; simp[xN,h,aq h])
def cv {r:Jx}{xs:Jn W}(h:S[r]?=ba (.lst xs)):tyOk "list" S (.ref r)=true:=by simp[tyOk,aq h]
def aT {r:Jx}{o o':O}(h:S[r]?=ba o):(S.set r o')[r]?=ba o':=by
 rw[LP,JX rfl,JX (JD.mp h).1]
def be {r j:Jx}{o':O}(h:r≠j):(S.set r o')[j]?=S[j]?:=by rw[LP,J8 h]
def ag {o:O}:(S++[o])[S.length]?=ba o:=by simp
def al {j:Jx}{o u:O}(h:S[j]?=ba o):(S++[u])[j]?=ba o:=by rw[Ku (JD.mp h).1]; exact h
def bS {j:Jx}{o:O}(h:S[j]?=ba o):j < S.length:=(JD.mp h).1
structure Kp (r:Jx)(S S':aa):Prop where
 get:∀j o,j≠r->S[j]?=ba o->S'[j]?=ba o
 len:S.length<=S'.length
def Kp.refl {r:Jx}{S:aa}:Kp r S S:=#[λ_ _ _ h=>h,JA _]
def Kp.trans {r:Jx}{S S' S'':aa}(a:Kp r S S')(b:Kp r S' S''):Kp r S S'':=#[λj o n h=>b.get j o n (a.get j o n h),J6 a.len b.len]
def Kp.set {r:Jx}{S:aa}{o:O}:Kp r S (S.set r o):=#[λj u n h=>by rw[be (Ne.symm n)]; exact h,by simp]
def Kp.push {r:Jx}{S:aa}{o:O}:Kp r S (S++[o]):=#[λj u n h=>al h,by simp]
def Kp.late {r t:Jx}{S0 S:aa}{o:O}(a:Kp r S0 S)(h:S0.length<=t):Kp r S0 (S.set t o):=
 #[λj u n e=>by
  have:=bS e;rw[be ∅]; exact a.get j u n e,by simpa using a.len]
end
abbrev wO {α:Type}(o:Jw α)(Q:α->Prop):Prop:=match o with
 | some a=>Q a
 | none=>K5
def cq {α:Type}{o:Jw α}{Q:α->Prop}(h:wO o Q):Wp o Q:=by
 cases o with
 | none=>exact h.elim
 | some a=>exact#[a,rfl,h]
def GD {α:Type}{o:Jw α}{Q:α->Prop}(h:Wp o Q):wO o Q:=by
 obtain⟨a,rfl,q⟩:=h;exact q
def ab {α:Type}{o:Jw α}{a:α}{Q:α->Prop}(e:o=ba a)(h:Q a):wO o Q:=by subst e; exact h
abbrev wB:W->(J3->Prop)->Prop
 | .bl k,Q=>Q k
 | _,_=>K5
abbrev wN:W->(JI->Prop)->Prop
 | .int k,Q=>Q k
 | _,_=>K5
abbrev wU:W->(Jn W->Prop)->Prop
 | .tup k,Q=>Q k
 | _,_=>K5
def uA {w:W}{Q:J3->Prop}(h:wB w Q):∃k,w=.bl k/\Q k:=by cases w <;> first|exact h.elim|exact#[_,rfl,h]
def CV {w:W}{Q:JI->Prop}(h:wN w Q):∃k,w=.int k/\Q k:=by cases w <;> first|exact h.elim|exact#[_,rfl,h]
def GF {w:W}{Q:Jn W->Prop}(h:wU w Q):∃k,w=.tup k/\Q k:=by cases w <;> first|exact h.elim|exact#[_,rfl,h]
abbrev w2:Jn W->(W->W->Prop)->Prop
 | [x,y],Q=>Q x y
 | _,_=>K5
def GH {xs:Jn W}{Q:W->W->Prop}(h:w2 xs Q):∃x y,xs=[x,y]/\Q x y:=by
 match xs,h with
 | [x,y],h=>exact#[x,y,rfl,h]
abbrev wG:Jw W->(W->Prop)->Prop
 | some w,Q=>Q w
 | none,_=>K5
abbrev wV:Fm->Jx->(W->Prop)->Prop
 | [],_,_=>K5
 | o::_,0,Q=>wG o Q
 | _::Z,n+1,Q=>wV Z n Q
def y8 {Q:W->Prop}:∀ {Z:Fm} {i:Jx},wV Z i Q->∃w,Z[i]?=ba (ba w)/\Q w
 | [],i,h=>h.elim
 | some w::Z,0,h=>#[w,rfl,h]
 | none::Z,0,h=>h.elim
 | x::Z,n+1,h=>by
  obtain⟨w,e2,q⟩:=y8 (Z:=Z) (i:=n) h;exact#[w,e2,q]
abbrev aP (M:JS->FF)(f:JS)(n:Jx)(ws:Jn W)(S:aa):Jw (W×aa):=if ws.length=n then M f ws S else gV
section
variable (M:JS->FF) (fuel:Jx)
mutual
def wE:E->Fm->aa->QW->Prop
 | .c w,_,S,Q=>Q (w,S)
 | .v i,Z,S,Q=>wV Z i λw=>Q (w,S)
 | .op o a b,Z,S,Q=>wE a Z S λp=>wE b Z p.2 λq=>wO (fT o p.1 q.1 q.2) Q
 | .cmp o a b,Z,S,Q=>wE a Z S λp=>wE b Z p.2 λq=>wO (aZ o p.1 q.1 q.2) Q
 | .and a b,Z,S,Q=>wE a Z S λp=>wB p.1 λk=>(k=true->wE b Z p.2 Q)/\(k=false->Q (.bl false,p.2))
 | .or a b,Z,S,Q=>wE a Z S λp=>wB p.1 λk=>(k=true->Q (.bl true,p.2))/\(k=false->wE b Z p.2 Q)
 | .not a,Z,S,Q=>wE a Z S λp=>wB p.1 λk=>Q (.bl (!k),p.2)
 | .own f n es,Z,S,Q=>wA es Z S λp=>wO (aP M f n p.1 p.2) Q
 | .bi b es,Z,S,Q=>wA es Z S λp=>wO (b.fn p.1 p.2) Q
 | .me m o es,Z,S,Q=>wE o Z S λp=>tyOk m.ty p.2 p.1=true/\wA es Z p.2 λq=>wO (m.fn p.1 q.1 q.2) Q
 | .ix a b,Z,S,Q=>wE a Z S λp=>wE b Z p.2 λq=>wO (o7 p.1 q.1 q.2) Q
 | .sl a lo hi,Z,S,Q=>wE a Z S λp=>wP lo Z p.2 λq=>wP hi Z q.2 λr=>wO (ph p.1 q.1 r.1 r.2) Q
 | .tup es,Z,S,Q=>wA es Z S λp=>Q (.tup p.1,p.2)
 | .lst es,Z,S,Q=>wA es Z S λp=>Q (.ref p.2.length,p.2++[.lst p.1])
 | .isi c a,Z,S,Q=>wE a Z S λp=>wO (vR p.2 p.1 c) λk=>Q (.bl k,p.2)
 | .neg a,Z,S,Q=>wE a Z S λp=>wN p.1 λi=>Q (.int (-i),p.2)
 | .dnew,_,S,Q=>Q (.ref S.length,S++[.dic []])
 | .disp es,Z,S,Q=>wA es Z (S++[.dic []]) λp=>p.2[S.length]?=ba (.dic [])/\wO (dF [] p.1) λU=>Q (.ref S.length,p.2.set S.length (.dic U))
 | .comp elt tg it cs cap,Z,S,Q=>Wp (aB M (.comp elt tg it cs cap) Z S) Q
def wT:E->Fm->aa->QB->Prop
 | .cmp o a b,Z,S,Q=>wE a Z S λp=>wE b Z p.2 λq=>wO (aZ o p.1 q.1 q.2) λr=>wB r.1 λk=>Q (k,r.2)
 | .and a b,Z,S,Q=>wT a Z S λp=>(p.1=true->wT b Z p.2 Q)/\(p.1=false->Q (false,p.2))
 | .or a b,Z,S,Q=>wT a Z S λp=>(p.1=true->Q (true,p.2))/\(p.1=false->wT b Z p.2 Q)
 | .not a,Z,S,Q=>wT a Z S λp=>Q (!p.1,p.2)
 | .isi c a,Z,S,Q=>wE a Z S λp=>wO (vR p.2 p.1 c) λk=>Q (k,p.2)
 | .c w,Z,S,Q=>Wp (dy M (.c w) Z S) Q
 | .v i,Z,S,Q=>wV Z i λw=>wO (io S w) λk=>Q (k,S)
 | .op o a b,Z,S,Q=>Wp (dy M (.op o a b) Z S) Q
 | .own f n es,Z,S,Q=>wA es Z S λp=>wO (aP M f n p.1 p.2) λq=>wO (io q.2 q.1) λk=>Q (k,q.2)
 | .bi b es,Z,S,Q=>wA es Z S λp=>wO (b.fn p.1 p.2) λq=>wO (io q.2 q.1) λk=>Q (k,q.2)
 | .me m o es,Z,S,Q=>Wp (dy M (.me m o es) Z S) Q
 | .ix a b,Z,S,Q=>Wp (dy M (.ix a b) Z S) Q
 | .sl a lo hi,Z,S,Q=>Wp (dy M (.sl a lo hi) Z S) Q
 | .tup es,Z,S,Q=>Wp (dy M (.tup es) Z S) Q
 | .lst es,Z,S,Q=>Wp (dy M (.lst es) Z S) Q
 | .neg a,Z,S,Q=>Wp (dy M (.neg a) Z S) Q
 | .dnew,Z,S,Q=>Wp (dy M .dnew Z S) Q
 | .disp es,Z,S,Q=>Wp (dy M (.disp es) Z S) Q
 | .comp elt tg it cs cap,Z,S,Q=>Wp (dy M (.comp elt tg it cs cap) Z S) Q
def wA:Es->Fm->aa->(Jn W×aa->Prop)->Prop
 | .nil,_,S,Q=>Q ([],S)
 | .cons e es,Z,S,Q=>wE e Z S λp=>wA es Z p.2 λq=>Q (p.1::q.1,q.2)
def wP:Ep->Fm->aa->(Jw JI×aa->Prop)->Prop
 | .no,_,S,Q=>Q (gV,S)
 | .yes a,Z,S,Q=>wE a Z S λp=>wN p.1 λi=>Q (ba i,p.2)
end
abbrev rH (K:Fm->aa->Prop)(Q:QO)(p:Out×aa):Prop:=match p.1 with
 | .nx Z=>K Z p.2
 | o=>Q (o,p.2)
mutual
def wS:Sm->Fm->aa->(Fm->aa->Prop)->QO->Prop
 | .set i e,Z,S,K,_=>wE M e Z S λp=>K (Z.set i (ba p.1)) p.2
 | .asg is e,Z,S,K,_=>wE M e Z S λp=>wU p.1 λws=>wO (d7 is ws Z) λZ'=>K Z' p.2
 | .par i j es,Z,S,K,_=>wA M es Z S λp=>w2 p.1 λx y=>K ((Z.set i (ba x)).set j (ba y)) p.2
 | .put o k e,Z,S,K,_=>wE M e Z S λp=>wE M o Z p.2 λq=>wE M k Z q.2 λr=>wO (iU q.1 r.1 p.1 r.2) λS'=>K Z S'
 | .ex e,Z,S,K,_=>wE M e Z S λp=>K Z p.2
 | .ret e,Z,S,_,Q=>wE M e Z S λp=>Q (.rt p.1,p.2)
 | .pass,Z,S,K,_=>K Z S
 | .ite t a b,Z,S,K,Q=>wT M t Z S λp=>∀Q':QO,(∀Z' S',K Z' S'->Q' (.nx Z',S'))->(∀o S',(∀Z',o≠.nx Z')->Q (o,S')->Q' (o,S'))->(p.1=true->B5 a Z p.2 Q')/\(p.1=false->B5 b Z p.2 Q')
 | .whl t b,Z,S,K,Q=>Wp (ga M fuel (.whl t b) Z S) (rH K Q)
 | .loop tg it b,Z,S,K,Q=>Wp (ga M fuel (.loop tg it b) Z S) (rH K Q)
def B5:Ss->Fm->aa->QO->Prop
 | .nil,Z,S,Q=>Q (.nx Z,S)
 | .cons s ss,Z,S,Q=>wS s Z S (λZ' S'=>B5 ss Z' S' Q) Q
end
end
abbrev Hi:Es->Jx
 | .nil=>0
 | .cons _ es=>Hi es+1
mutual
def dA:E->J3
 | .c _|.v _|.comp _ _ _ _ _|.dnew=>true
 | .op _ a b|.cmp _ a b|.and a b|.or a b|.ix a b=>dA a&&dA b
 | .neg a|.not a|.isi _ a=>dA a
 | .own _ n es=>Hi es==n&&lW es
 | .bi _ es|.disp es=>lW es
 | .me _ o es=>dA o&&lW es
 | .sl a lo hi=>dA a&&Iu lo&&Iu hi
 | .tup es|.lst es=>decide (Hi es<=1000)&&lW es
def lW:Es->J3
 | .nil=>true
 | .cons e es=>dA e&&lW es
def Iu:Ep->J3
 | .no=>true
 | .yes e=>dA e
end
mutual
def IV:Sm->J3
 | .set _ e|.asg _ e|.ex e|.ret e=>dA e
 | .put o k e=>dA o&&dA k&&dA e
 | .par _ _ es=>lW es
 | .ite t a b=>dA t&&gX a&&gX b
 | _=>true
def gX:Ss->J3
 | .nil=>true
 | .cons s ss=>IV s&&gX ss
end
section
variable{M:JS->FF}{fuel:Jx}
def i5:∀ {es:Es} {Z:Fm} {S S':aa} {ws:Jn W},c7 M es Z S=ba (ws,S')->ws.length=Hi es
 | .nil,Z,S,S',ws,h=>by dsimp only[c7]at h; cases h; rfl
 | .cons e es,Z,S,S',ws,h=>by
  dsimp only[c7]at h;unfold dJ at h;split at h
  ·split at h
   ·rename_i h2; cases h; rw[Kr,i5 h2]; rfl
   ·cases h
  ·cases h
def y9 {n:Jx}(h:decide (n<=1000)=true):n<=sizeLine:=J6 (Kt h) (by rw[Ky]; decide)
def dG {a b:J3}(h:(a&&b)=true):a=true:=by cases a <;> first|rfl|cases h
def eY {a b:J3}(h:(a&&b)=true):b=true:=by cases a <;> first|exact h|cases h
mutual
theorem bn:∀(e:E) {Z:Fm} {S:aa} {Q:QW},dA e=true->wE M e Z S Q->Wp (aB M e Z S) Q
 | .c w,Z,S,Q,k,h=>Ji.mpr h
 | .v i,Z,S,Q,k,h=>IU.mpr (y8 h)
 | .op o a b,Z,S,Q,k,h=>Ih.mpr ((bn a (dG k) h).mono λp hp=>(bn b (eY k) hp).mono λq hq=>cq hq)
 | .cmp o a b,Z,S,Q,k,h=>CN.mpr ((bn a (dG k) h).mono λp hp=>(bn b (eY k) hp).mono λq hq=>cq hq)
 | .and a b,Z,S,Q,k,h=>Gd.mpr ((bn a (dG k) h).mono λp hp=>let ⟨c,e,h1,h2⟩:=uA hp; #[c,e,λz=>bn b (eY k) (h1 z),h2])
 | .or a b,Z,S,Q,k,h=>Ij.mpr ((bn a (dG k) h).mono λp hp=>let ⟨c,e,h1,h2⟩:=uA hp; #[c,e,h1,λz=>bn b (eY k) (h2 z)])
 | .not a,Z,S,Q,k,h=>Ge.mpr ((bn a k h).mono λp hp=>uA hp)
 | .own f n es,Z,S,Q,k,h=>CO.mpr (by
   obtain⟨⟨ws,S1⟩,e,hq⟩:=hX es (eY k) h;have hl:ws.length=n:=(i5 e).trans (eq_of_beq (dG k));simp only[aP,JX hl]at hq;exact#[_,e,hl,cq hq])
 | .bi b es,Z,S,Q,k,h=>Gf.mpr ((hX es k h).mono λp hp=>cq hp)
 | .me m o es,Z,S,Q,k,h=>Ik.mpr ((bn o (dG k) h).mono λp hp=>#[hp.1,(hX es (eY k) hp.2).mono λq hq=>cq hq])
 | .ix a b,Z,S,Q,k,h=>Ii.mpr ((bn a (dG k) h).mono λp hp=>(bn b (eY k) hp).mono λq hq=>cq hq)
 | .sl a lo hi,Z,S,Q,k,h=>Il.mpr ((bn a (dG (dG k)) h).mono λp hp=>(CW lo (eY (dG k)) hp).mono λq hq=>(CW hi (eY k) hq).mono λr hr=>cq hr)
 | .tup es,Z,S,Q,k,h=>Gh.mpr (by
   obtain⟨⟨ws,S1⟩,e,hq⟩:=hX es (eY k) h;exact#[_,e,by rw[i5 e]; exact y9 (dG k),hq])
 | .lst es,Z,S,Q,k,h=>Gi.mpr (by
   obtain⟨⟨ws,S1⟩,e,hq⟩:=hX es (eY k) h;exact#[_,e,by rw[i5 e]; exact y9 (dG k),hq])
 | .isi c a,Z,S,Q,k,h=>CP.mpr ((bn a k h).mono λp hp=>cq hp)
 | .neg a,Z,S,Q,k,h=>Gj.mpr ((bn a k h).mono λp hp=>CV hp)
 | .dnew,Z,S,Q,k,h=>#[_,rfl,h]
 | .disp es,Z,S,Q,k,h=>Ej.mpr ((hX es k h).mono λp hp=>#[hp.1,let ⟨U,e,q⟩:=cq hp.2; #[U,e,q]])
 | .comp elt tg it cs cap,Z,S,Q,k,h=>h
theorem hX:∀(es:Es) {Z:Fm} {S:aa} {Q:Jn W×aa->Prop},lW es=true->wA M es Z S Q->Wp (c7 M es Z S) Q
 | .nil,Z,S,Q,k,h=>Gk.mpr h
 | .cons e es,Z,S,Q,k,h=>Ek.mpr ((bn e (dG k) h).mono λp hp=>hX es (eY k) hp)
theorem CW:∀(e:Ep) {Z:Fm} {S:aa} {Q:Jw JI×aa->Prop},Iu e=true->wP M e Z S Q->Wp (ug M e Z S) Q
 | .no,Z,S,Q,k,h=>Im.mpr h
 | .yes a,Z,S,Q,k,h=>Gg.mpr ((bn a k h).mono λp hp=>CV hp)
theorem jU:∀(e:E) {Z:Fm} {S:aa} {Q:QB},dA e=true->wT M e Z S Q->Wp (dy M e Z S) Q
 | .cmp o a b,Z,S,Q,k,h=>Gn.mpr (CN.mpr ((bn a (dG k) h).mono λp hp=>(bn b (eY k) hp).mono λq hq=>(cq hq).mono λr hr=>uA hr))
 | .and a b,Z,S,Q,k,h=>Go.mpr ((jU a (dG k) h).mono λp hp=>#[λz=>jU b (eY k) (hp.1 z),hp.2])
 | .or a b,Z,S,Q,k,h=>Io.mpr ((jU a (dG k) h).mono λp hp=>#[hp.1,λz=>jU b (eY k) (hp.2 z)])
 | .not a,Z,S,Q,k,h=>Gp.mpr (jU a k h)
 | .isi c a,Z,S,Q,k,h=>Gr.mpr (CP.mpr ((bn a k h).mono λp hp=>let ⟨b,e,q⟩:=cq hp; #[b,e,b,rfl,q]))
 | .v i,Z,S,Q,k,h=>Jj.mpr (IU.mpr (let ⟨w,e,q⟩:=y8 h; #[w,e,cq q]))
 | .own f n es,Z,S,Q,k,h=>Gq.mpr (CO.mpr (by
   obtain⟨⟨ws,S1⟩,e,hq⟩:=hX es (eY k) h;have hl:ws.length=n:=(i5 e).trans (eq_of_beq (dG k));simp only[aP,JX hl]at hq;exact#[_,e,hl,(cq hq).mono λq hq=>cq hq]))
 | .c w,Z,S,Q,k,h=>h
 | .op o a b,Z,S,Q,k,h=>h
 | .bi b es,Z,S,Q,k,h=>Ip.mpr (Gf.mpr ((hX es k h).mono λp hp=>(cq hp).mono λq hq=>cq hq))
 | .me m o es,Z,S,Q,k,h=>h
 | .ix a b,Z,S,Q,k,h=>h
 | .sl a lo hi,Z,S,Q,k,h=>h
 | .tup es,Z,S,Q,k,h=>h
 | .lst es,Z,S,Q,k,h=>h
 | .neg a,Z,S,Q,k,h=>h
 | .dnew,Z,S,Q,k,h=>h
 | .disp es,Z,S,Q,k,h=>h
 | .comp elt tg it cs cap,Z,S,Q,k,h=>h
end
mutual
theorem GJ:∀(s:Sm) {Z:Fm} {S:aa} {K:Fm->aa->Prop} {Q:QO},IV s=true->wS M fuel s Z S K Q->Wp (ga M fuel s Z S) (rH K Q)
 | .set i e,Z,S,K,Q,k,h=>Em.mpr (bn e k h)
 | .asg is e,Z,S,K,Q,k,h=>En.mpr ((bn e k h).mono λp hp=>let ⟨ws,e1,h1⟩:=GF hp; let ⟨Z',e2,h2⟩:=cq h1; #[ws,Z',e1,e2,h2])
 | .par i j es,Z,S,K,Q,k,h=>Eo.mpr ((hX es k h).mono λp hp=>GH hp)
 | .put o i e,Z,S,K,Q,k,h=>Er.mpr ((bn e (eY k) h).mono λp hp=>(bn o (dG (dG k)) hp).mono λq hq=>(bn i (eY (dG k)) hq).mono λr hr=>cq hr)
 | .ex e,Z,S,K,Q,k,h=>Gu.mpr (bn e k h)
 | .ret e,Z,S,K,Q,k,h=>Et.mpr (bn e k h)
 | .pass,Z,S,K,Q,k,h=>#[_,rfl,h]
 | .ite t a b,Z,S,K,Q,k,h=>Eu.mpr ((jU t (dG (dG k)) h).mono λp hp=>by
   obtain⟨h1,h2⟩:=hp (rH K Q) (λZ' S' z=>z) (λo S' hn z=>by cases o <;> first|exact z|exact absurd rfl (hn _))
   exact#[λz=>jy a (eY (dG k)) (h1 z),λz=>jy b (eY k) (h2 z)])
 | .whl t b,Z,S,K,Q,k,h=>h
 | .loop tg it b,Z,S,K,Q,k,h=>h
theorem jy:∀(ss:Ss) {Z:Fm} {S:aa} {Q:QO},gX ss=true->B5 M fuel ss Z S Q->Wp (gb M fuel ss Z S) Q
 | .nil,Z,S,Q,k,h=>Gs.mpr h
 | .cons s ss,Z,S,Q,k,h=>El.mpr ((GJ s (dG k) h).mono λp hp=>by
   obtain⟨o,S1⟩:=p;cases o with
   | nx Z'=>exact#[λZ2 e=>by cases e; exact jy ss (eY k) hp,λz=>absurd rfl (z Z')]
   | _=>exact#[λZ2 e=>(by cases e),λ_=>hp])
end
structure wZ (M:JS->FF)(fuel:Jx)(ss:Ss)(Z:Fm)(S:aa)(Q:QO):Prop where
 out:B5 M fuel ss Z S Q
def GK {ss:Ss}{Z:Fm}{S:aa}{Q:QO}:B5 M fuel ss Z S Q=wZ M fuel ss Z S Q:=propext #[λh=>#[h],λh=>h.out]
def Ex {defs:Jn (JS×Df)}{d:Jx}{f:JS}{n:Jx}{ws:Jn W}{df:Df}{S:aa}{Q:QW}(h:defs.lookup f=ba df)(hn:ws.length=n)(hl:ws.length=df.ps.length)(ok:gX df.body=true)
  (hb:∀Q':QO,(∀w S',Q (w,S')->Q' (.rt w,S'))->wZ (am defs fuel d) fuel df.body (fH df.N ws) S Q'):wO (aP (am defs fuel (d+1)) f n ws S) Q:=by
 unfold aP;rw[JX hn];exact GD (vZ h hl ((jy _ ok (hb (λp=>match p.1 with|.rt w=>Q (w,p.2)|_=>K5) λw S' q=>q).out).mono λp hp=>by
  obtain⟨o,S1⟩:=p;cases o <;> first|exact hp|exact hp.elim))
end
section
variable{M:JS->FF}{fuel:Jx}{Z:Fm}{S:aa}{K:Fm->aa->Prop}{Q:QO}
abbrev wM (M:JS->FF)(fuel:Jx)(b:Ss)(Z:Fm)(S:aa)(I:Fm->aa->Prop)(Q:QO):Prop:=∀Q':QO,(∀Z' S',I Z' S'->Q' (.nx Z',S'))->(∀w S',Q (.rt w,S')->Q' (.rt w,S'))->wZ M fuel b Z S Q'
def iC {tg:Tg}{it:Ie}{b:Ss}{mi:MI}{S1:aa}{xs:Jn W}(I:Jx->Fm->aa->Prop)(ok:gX b=true)(hi:iZ M it Z S=ba (mi,S1))(hat:∀i Z S,I i Z S->mi.at S i=ba xs[i]?)(hl:mi.len S1=ba xs.length)(h0:I 0 Z S1)
  (hstep:∀(i:Jx) (w:W) (Z:Fm) (S:aa),xs[i]?=ba w->I i Z S->wO (fZ tg w Z S) λq=>wM M fuel b q.1 q.2 (I (i+1)) Q) (hend:∀Z S,I xs.length Z S->K Z S):Wp (ga M fuel (.loop tg it b) Z S) (rH K Q):=by
 rw[ga,Gv];show#[_,hi,xs.length,hl,?_];show jx (Q:=rH K Q) I hat (λi w Z S h1 h2=>?_) (λZ S h=>hend Z S h) _ 0 Z S1 ∅ h0
 exact(cq (hstep i w Z S h1 h2)).mono λq hq=>jy b ok (wZ.out (hq _ (λ_ _ h=>h) λ_ _ h=>h))
def br {e:E}{Q:QW}(ok:dA e=true)(h:wE M e Z S Q):∃w S',aB M e Z S=ba (w,S')/\Q (w,S'):=let ⟨⟨w,S'⟩,a,b⟩:=bn e ok h; #[w,S',a,b]
def bT {i0:Jx}{e:E}{b:Ss}(j:JI)(I:Jx->Fm->aa->Prop)(oe:dA e=true)(ok:gX b=true)(hj : -(2 ^ 62)<=j/\j < 2 ^ 62)(he:wE M e Z S λp=>p.1=.int j/\I 0 Z p.2)
  (hstep:∀(i:Jx) (Z:Fm) (S:aa),(i:JI) < j->I i Z S->wM M fuel b (Z.set i0 (ba (.int i))) S (I (i+1)) Q) (hend:∀Z S,I j.toNat Z S->K Z S):Wp (ga M fuel (.loop (.nm i0) (.rng #v[e]) b) Z S) (rH K Q):=by
 obtain⟨w,S1,e1,rfl,h0⟩:=br oe he;have hl:(c8 0 j.toNat).length=j.toNat:=by simp[c8]
 show iC (mi:=.its (c8 0 j.toNat)) (S1:=S1) (xs:=c8 0 j.toNat) I ok ?_ (λ_ _ _ _=>rfl) rfl h0 (λi w Z S hw hI=>?_) λZ S hI=>hend Z S (hl ▸ hI)
 ·simp only[iZ,c7,dJ,iY,sv,e1];rw[JX hj]
 ·rw[d8]at hw;split at hw
  ·rename_i hk;cases hw;rw[NN];exact hstep i Z S ∅ hI
  ·cases hw
def for_tup {tg:Tg}{e:E}{b:Ss}(xs:Jn W)(I:Jx->Fm->aa->Prop)(oe:dA e=true)(ok:gX b=true)(he:wE M e Z S λp=>p.1=.tup xs/\I 0 Z p.2)
  (hstep:∀(i:Jx) (w:W) (Z:Fm) (S:aa),xs[i]?=ba w->I i Z S->wO (fZ tg w Z S) λq=>wM M fuel b q.1 q.2 (I (i+1)) Q) (hend:∀Z S,I xs.length Z S->K Z S):Wp (ga M fuel (.loop tg (.seq e) b) Z S) (rH K Q):=by
 obtain⟨w,S1,e1,rfl,h0⟩:=br oe he;exact iC (mi:=.its xs) (S1:=S1) I ok (by simp only[iZ,ee,e1]) (λ_ _ _ _=>rfl) rfl h0 hstep hend
def oG {tg:Tg}{e:E}{b:Ss}(t:Jx)(xs:Jn W)(I:Jx->Fm->aa->Prop)(oe:dA e=true)(ok:gX b=true)(he:wE M e Z S λp=>p.1=.ref t/\I 0 Z p.2)(hat:∀i Z S,I i Z S->S[t]?=ba (.lst xs))
  (hstep:∀(i:Jx) (w:W) (Z:Fm) (S:aa),xs[i]?=ba w->I i Z S->wO (fZ tg w Z S) λq=>wM M fuel b q.1 q.2 (I (i+1)) Q) (hend:∀Z S,I xs.length Z S->K Z S):Wp (ga M fuel (.loop tg (.seq e) b) Z S) (rH K Q):=by
 obtain⟨w,S1,e1,rfl,h0⟩:=br oe he;exact iC (mi:=.live t) (S1:=S1) I ok (by simp only[iZ,ee,e1,aq (hat _ _ _ h0)]) (λi Z S h=>by simp only[MI.at,aq (hat _ _ _ h)]) (by simp only[MI.len,aq (hat _ _ _ h0),Kg]) h0 hstep hend
def uB {t:E}{b:Ss}(I:Jx->Fm->aa->Prop)(m:Jx)(ot:dA t=true)(ok:gX b=true)(hm:m < fuel)(h0:I m Z S)
  (hstep:∀m Z S,I m Z S->wT M t Z S λk=>(k.1=true->∃m',m=m'+1/\wM M fuel b Z k.2 (I m') Q)/\(k.1=false->K Z k.2)):Wp (ga M fuel (.whl t b) Z S) (rH K Q):=by
 rw[ga];show lq (Q:=rH K Q) I (λm Z S hI=>(jU t ot (hstep m Z S hI)).mono λk hk=>#[λz=>?_,λz=>hk.2 z]) fuel m Z S hm h0
 obtain⟨m',e,h⟩:=hk.1 z;exact#[m',e,jy b ok (wZ.out (h _ (λ_ _ h=>h) λ_ _ h=>h))]
abbrev wC (M:JS->FF):Es->Fm->aa->QB->Prop
 | .nil,_,S,Q=>Q (true,S)
 | .cons e .nil,Z,S,Q=>wT M e Z S Q
 | .cons _ (.cons _ _),_,_,_=>K5
def CY {cs:Es}{Q:QB}(ok:lW cs=true)(h:wC M cs Z S Q):Wp (BX M cs Z S) Q:=by
 match cs,h,ok with
 | .nil,h,_=>exact Gw.mpr h
 | .cons e .nil,h,ok=>exact Gx.mpr (jU e (dG ok) h)
abbrev fP (M:JS->FF)(elt:E)(cs:Es)(Z:Fm)(S:aa)(G:W->Fm->aa->Prop)(N:Fm->aa->Prop):Prop:=wC M cs Z S λk=>(k.1=true->wE M elt Z k.2 λy=>G y.1 Z y.2)/\(k.1=false->N Z k.2)
def jA {elt:E}{tg:Tg}{it:Ie}{cs:Es}{cap:Jn (Jw Jx)}{mi:MI}{S1:aa}{xs:Jn W}{Q:QW}(I:Jx->Jn W->Fm->aa->Prop)(oe:dA elt=true)(oc:lW cs=true)(hi:iZ M it Z S=ba (mi,S1))(hat:∀i ys Z S,I i ys Z S->mi.at S i=ba xs[i]?)(hl:mi.len S1=ba xs.length)(h0:I 0 [] (eg cap Z) S1)
  (hstep:∀(i:Jx) (w:W) (ys:Jn W) (Z:Fm) (S:aa),xs[i]?=ba w->I i ys Z S->wO (fZ tg w Z S) λq=>fP M elt cs q.1 q.2 (λy=>I (i+1) (ys++[y])) (I (i+1) ys))
  (hend:∀ys Z S,I xs.length ys Z S->ys.length<=sizeLine/\Q (.ref S.length,S++[.lst ys])):Wp (aB M (.comp elt tg it cs cap) Z S) Q:=by
 rw[yZ];show#[_,hi,xs.length,hl,?_];show(dP (xs:=xs) (Q:=λq=>q.1.length<=sizeLine/\Q (.ref q.2.length,q.2++[.lst q.1])) I hat (λi w ys Z S h1 h2=>?_) hend xs.length 0 [] _ S1 ∅ h0).mono λq hq=>by simpa using hq
 exact(cq (hstep i w ys Z S h1 h2)).mono λq hq=>(CY oc hq).mono λk hk=>#[λz=>bn elt oe (hk.1 z),hk.2]
def dj {elt e:E}{i0:Jx}{cs:Es}{cap:Jn (Jw Jx)}{Q:QW}(j:JI)(I:Jx->Jn W->Fm->aa->Prop)(oi:dA e=true)(oe:dA elt=true)(oc:lW cs=true)(hj : -(2 ^ 62)<=j/\j < 2 ^ 62)(he:wE M e Z S λp=>p.1=.int j/\I 0 [] (eg cap Z) p.2)
  (hstep:∀(i:Jx) (ys:Jn W) (Z:Fm) (S:aa),(i:JI) < j->I i ys Z S->fP M elt cs (Z.set i0 (ba (.int i))) S (λy=>I (i+1) (ys++[y])) (I (i+1) ys))
  (hend:∀ys Z S,I j.toNat ys Z S->ys.length<=sizeLine/\Q (.ref S.length,S++[.lst ys])):Wp (aB M (.comp elt (.nm i0) (.rng #v[e]) cs cap) Z S) Q:=by
 obtain⟨w,S1,e1,rfl,h0⟩:=br oi he;have hl:(c8 0 j.toNat).length=j.toNat:=by simp[c8]
 show jA (mi:=.its (c8 0 j.toNat)) (S1:=S1) (xs:=c8 0 j.toNat) I oe oc ?_ (λ_ _ _ _ _=>rfl) rfl h0 (λi w ys Z S hw hI=>?_) λys Z S hI=>hend ys Z S (hl ▸ hI)
 ·simp only[iZ,c7,dJ,iY,sv,e1];rw[JX hj]
 ·rw[d8]at hw;split at hw
  ·rename_i hk;cases hw;rw[NN];exact hstep i ys Z S ∅ hI
  ·cases hw
def uC {elt e:E}{tg:Tg}{cs:Es}{cap:Jn (Jw Jx)}{Q:QW}(xs:Jn W)(I:Jx->Jn W->Fm->aa->Prop)(oi:dA e=true)(oe:dA elt=true)(oc:lW cs=true)(he:wE M e Z S λp=>p.1=.tup xs/\I 0 [] (eg cap Z) p.2)
  (hstep:∀(i:Jx) (w:W) (ys:Jn W) (Z:Fm) (S:aa),xs[i]?=ba w->I i ys Z S->wO (fZ tg w Z S) λq=>fP M elt cs q.1 q.2 (λy=>I (i+1) (ys++[y])) (I (i+1) ys))
  (hend:∀ys Z S,I xs.length ys Z S->ys.length<=sizeLine/\Q (.ref S.length,S++[.lst ys])):Wp (aB M (.comp elt tg (.seq e) cs cap) Z S) Q:=by
 obtain⟨w,S1,e1,rfl,h0⟩:=br oi he;exact jA (mi:=.its xs) (S1:=S1) I oe oc (by simp only[iZ,ee,e1]) (λ_ _ _ _ _=>rfl) rfl h0 hstep hend
def uD {elt e:E}{tg:Tg}{cs:Es}{cap:Jn (Jw Jx)}{Q:QW}(t:Jx)(xs:Jn W)(I:Jx->Jn W->Fm->aa->Prop)(oi:dA e=true)(oe:dA elt=true)(oc:lW cs=true)(he:wE M e Z S λp=>p.1=.ref t/\I 0 [] (eg cap Z) p.2)(hat:∀i ys Z S,I i ys Z S->S[t]?=ba (.lst xs))
  (hstep:∀(i:Jx) (w:W) (ys:Jn W) (Z:Fm) (S:aa),xs[i]?=ba w->I i ys Z S->wO (fZ tg w Z S) λq=>fP M elt cs q.1 q.2 (λy=>I (i+1) (ys++[y])) (I (i+1) ys))
  (hend:∀ys Z S,I xs.length ys Z S->ys.length<=sizeLine/\Q (.ref S.length,S++[.lst ys])):Wp (aB M (.comp elt tg (.seq e) cs cap) Z S) Q:=by
 obtain⟨w,S1,e1,rfl,h0⟩:=br oi he;exact jA (mi:=.live t) (S1:=S1) I oe oc (by simp only[iZ,ee,e1,aq (hat _ _ _ _ h0)]) (λi ys Z S h=>by simp only[MI.at,aq (hat _ _ _ _ h)]) (by simp only[MI.len,aq (hat _ _ _ _ h0),Kg]) h0 hstep hend
def B6 {elt a:E}{tg:Tg}{cs:Es}{cap:Jn (Jw Jx)}{Q:QW}(xs:Jn W)(I:Jx->Jn W->Fm->aa->Prop)(oa:dA a=true)(oe:dA elt=true)(oc:lW cs=true)(he:wE M a Z S λp=>E4 p.1=ba xs/\I 0 [] (eg cap Z) p.2)
  (hstep:∀(i:Jx) (x:W) (ys:Jn W) (Z:Fm) (S:aa),xs[i]?=ba x->I i ys Z S->wO (fZ tg (.tup [.int i,x]) Z S) λq=>fP M elt cs q.1 q.2 (λy=>I (i+1) (ys++[y])) (I (i+1) ys))
  (hend:∀ys Z S,I xs.length ys Z S->ys.length<=sizeLine/\Q (.ref S.length,S++[.lst ys])):Wp (aB M (.comp elt tg (.enu #v[a]) cs cap) Z S) Q:=by
 obtain⟨x,S1,e1,h1,h0⟩:=br oa he;have hl:(ou xs).length=xs.length:=by simp[ou]
 show jA (mi:=.its (ou xs)) (S1:=S1) (xs:=ou xs) I oe oc (by simp only[iZ,c7,dJ,iY,BU,e1,h1]) (λ_ _ _ _ _=>rfl) rfl h0 (λi w ys Z S hw hI=>?_) λys Z S hI=>hend ys Z S (hl ▸ hI)
 obtain⟨y,hy,rfl⟩:=qt hw;exact hstep i y ys Z S hy hI
def st {s:Sm}{ss:Ss}(h:wS M fuel s Z S (λZ' S'=>wZ M fuel ss Z' S' Q) Q):wZ M fuel (.cons s ss) Z S Q:=#[by
 dsimp only[B5];simp only[GK];exact h]
def bA (h:Q (.nx Z,S)):wZ M fuel .nil Z S Q:=#[h]
def au {t:J3}{a b:Ss}{Q Q0:QO}{K:Fm->aa->Prop}(ha:t=true->∀Q':QO,(∀Z' S',K Z' S'->Q' (.nx Z',S'))->(∀w S',Q (.rt w,S')->Q' (.rt w,S'))->wZ M fuel a Z S Q')(hb:t=false->∀Q':QO,(∀Z' S',K Z' S'->Q' (.nx Z',S'))->(∀w S',Q (.rt w,S')->Q' (.rt w,S'))->wZ M fuel b Z S Q') :
  ∀Q':QO,(∀Z' S',K Z' S'->Q' (.nx Z',S'))->(∀o S',(∀Z',o≠.nx Z')->Q (o,S')->Q' (o,S'))->(t=true->B5 M fuel a Z S Q')/\(t=false->B5 M fuel b Z S Q'):=
 λQ' h1 h2=>#[λe=>(ha e Q' h1 λw S'=>h2 (.rt w) S' (λ_ z=>nomatch z)).out,λe=>(hb e Q' h1 λw S'=>h2 (.rt w) S' (λ_ z=>nomatch z)).out]
end
abbrev en:Ss:=
 #v[.ret (.lst #v[.bi .list #v[.v 0],.c (.int 0),.c (.int 0),.c (.int 1),.c (.int 0)])]
abbrev cM:Ss:=
 #v[.ite (.and (.cmp .eq (.ix (.v 0) (.c (.int 2))) (.c (.int 0))) (.cmp .lt (.ix (.v 0) (.c (.int 1))) (.bi .len #v[.ix (.v 0) (.c (.int 0))]))) #v[.set 2 (.ix (.ix (.v 0) (.c (.int 0))) (.ix (.v 0) (.c (.int 1)))),.put (.v 0) (.c (.int 1)) (.op .add (.ix (.v 0) (.c (.int 1))) (.c (.int 1))),.ite (.cmp .ge (.v 2) (.op .pow (.c (.int 10)) (.c (.int 18)))) #v[.put (.v 0) (.c (.int 2)) (.v 2)] #v[.put (.v 0) (.c (.int 3)) (.op .mod (.op .add (.op .add (.op .mul (.ix (.v 0) (.c (.int 3))) (.c (.int 40013))) (.op .mod (.v 2) (.c (.int 1000003)))) (.c (.int 1))) (.c (.int 2147483647)))]] .nil,.ite (.cmp .gt (.ix (.v 0) (.c (.int 2))) (.c (.int 0))) #v[.set 3 (.op .mod (.ix (.v 0) (.c (.int 2))) (.v 1)),.put (.v 0) (.c (.int 2)) (.op .fdiv (.ix (.v 0) (.c (.int 2))) (.v 1)),.ret (.v 3)] .nil,.put (.v 0) (.c (.int 4)) (.op .add (.ix (.v 0) (.c (.int 4))) (.c (.int 1))),.put (.v 0) (.c (.int 3)) (.op .mod (.op .add (.op .add (.op .mul (.ix (.v 0) (.c (.int 3))) (.c (.int 48271))) (.c (.int 12820163))) (.ix (.v 0) (.c (.int 4)))) (.c (.int 2147483647))),.ret (.op .mod (.op .fdiv (.op .mod (.op .mul (.op .add (.op .mod (.ix (.v 0) (.c (.int 3))) (.c (.int 65521))) (.c (.int 1))) (.op .add (.op .fdiv (.ix (.v 0) (.c (.int 3))) (.c (.int 65521))) (.c (.int 7919)))) (.c (.int 1000003))) (.c (.int 7))) (.v 1))]
abbrev dk:Ss:=
 #v[.ret (.me .join (.c (.str "")) #v[.comp (.ix (.c (.str "abcdefghijklmnopqrstuvwxyz")) (.own "_law_pick" 2 #v[.v 2,.c (.int 26)])) (.nm 1) (.rng #v[.v 1]) .nil [gV,gV,ba 0]])]
abbrev fI:Ss:=
 #v[.ite (.cmp .ne (.v 1) (.c (.str ""))) #v[.ret (.op .add (.v 1) (.own "_law_letters" 2 #v[.v 0,.op .add (.c (.int 1)) (.own "_law_pick" 2 #v[.v 0,.c (.int 2)])]))] .nil,.ite (.cmp .eq (.own "_law_pick" 2 #v[.v 0,.c (.int 6)]) (.c (.int 0))) #v[.set 2 (.lst #v[.c (.str "markss"),.c (.str "mark"),.c (.str "way"),.c (.str "wayss"),.c (.str "bars"),.c (.str "ba"),.c (.str "somex")]),.set 2 (.op .add (.v 2) (.lst #v[.c (.str "eachx"),.c (.str "note"),.c (.str "no"),.c (.str "ands"),.c (.str "ors"),.c (.str "o"),.c (.str "iss")])),.ret (.ix (.v 2) (.own "_law_pick" 2 #v[.v 0,.c (.int 14)]))] .nil,.ret (.own "_law_letters" 2 #v[.v 0,.op .add (.c (.int 1)) (.own "_law_pick" 2 #v[.v 0,.c (.int 8)])])]
abbrev cR:Ss:=
 #v[.set 2 (.c (.str "")),.ite (.cmp .eq (.own "_law_pick" 2 #v[.v 0,.c (.int 3)]) (.c (.int 0))) #v[.set 2 (.own "_law_letters" 2 #v[.v 0,.op .add (.c (.int 1)) (.own "_law_pick" 2 #v[.v 0,.c (.int 6)])])] .nil,.set 3 (.lst #v[.c (.str "marks"),.c (.str "ways"),.c (.str "bar"),.c (.str "some"),.c (.str "each"),.c (.str "not"),.c (.str "and"),.c (.str "or"),.c (.str "is")]),.loop (.nm 4) (.rng #v[.v 1]) #v[.set 5 (.own "_law_name" 2 #v[.v 0,.v 2]),.set 6 (.c (.int 0)),.whl (.cmp .isin (.v 5) (.v 3)) #v[.set 5 (.op .mul (.ix (.c (.str "abcdefghijklmnopqrstuvwxyz")) (.op .mod (.v 6) (.c (.int 26)))) (.op .add (.c (.int 1)) (.op .fdiv (.v 6) (.c (.int 26))))),.set 6 (.op .add (.v 6) (.c (.int 1)))],.ex (.me .append (.v 3) #v[.v 5])],.ret (.bi .tuple #v[.sl (.v 3) (.yes (.c (.int 9))) .no])]
abbrev dq:Ss:=
 #v[.ite (.cmp .lt (.v 3) (.v 2)) #v[.ret (.ix (.ix (.ix (.v 1) (.v 2)) (.c (.int 1))) (.v 3))] .nil,.ret (.ix (.ix (.ix (.v 0) (.c (.int 1))) (.ix (.ix (.ix (.v 1) (.v 3)) (.c (.int 1))) (.v 2))) (.c (.int 1)))]
abbrev fJ:Ss:=
 #v[.set 3 (.lst .nil),.loop (.nm 4) (.rng #v[.bi .len #v[.v 2]]) #v[.set 5 (.ix (.v 2) (.v 4)),.ex (.me .append (.v 3) #v[.tup #v[.ix (.ix (.v 1) (.v 5)) (.c (.int 0)),.bi .tuple #v[.comp (.own "_law_between" 4 #v[.v 3,.v 4,.v 2,.v 1]) (.nm 1) (.seq (.sl (.v 2) .no (.yes (.v 4)))) .nil [gV,gV,ba 5,ba 0,ba 1]]]])],.ret (.bi .tuple #v[.v 3])]
abbrev gk:Ss:=
 #v[.ret (.lst #v[.tup #v[.c (.int 0),.c (.int 1),.c (.int 2)],.tup #v[.c (.int 0),.c (.int 2),.c (.int 1)],.tup #v[.c (.int 1),.c (.int 0),.c (.int 2)],.tup #v[.c (.int 1),.c (.int 2),.c (.int 0)],.tup #v[.c (.int 2),.c (.int 0),.c (.int 1)],.tup #v[.c (.int 2),.c (.int 1),.c (.int 0)]])]
abbrev dQ:Ss:=
 #v[.ret (.bi .min #v[.comp (.own "_law_part" 3 #v[.v 2,.v 3,.v 1]) (.nm 1) (.seq (.own "_law_turns" 0 .nil)) .nil [gV,gV,ba 0,ba 1]])]
abbrev eN:Ss:=
 #v[.set 2 (.ix (.lst #v[.lst #v[.tup #v[.c (.int 0)]],.lst #v[.tup #v[.c (.int 0),.c (.int 1)],.tup #v[.c (.int 1),.c (.int 0)]],.lst #v[.tup #v[.c (.int 0),.c (.int 1),.c (.int 2)],.tup #v[.c (.int 1),.c (.int 0),.c (.int 2)],.tup #v[.c (.int 0),.c (.int 2),.c (.int 1)]]]) (.op .sub (.v 1) (.c (.int 1)))),.ret (.ix (.v 2) (.own "_law_pick" 2 #v[.v 0,.bi .len #v[.v 2]]))]
abbrev dt:Ss:=
 #v[.set 4 (.own "_law_names" 2 #v[.v 0,.op .add (.v 1) (.bi .len #v[.v 2])]),.set 5 (.bi .tuple #v[.comp (.tup #v[.ix (.v 4) (.op .add (.v 3) (.v 1)),.ix (.v 2) (.v 1)]) (.nm 1) (.rng #v[.bi .len #v[.v 2]]) .nil [gV,gV,ba 2,ba 1,ba 4]]),.ret (.tup #v[.sl (.v 4) .no (.yes (.v 1)),.v 5,.bi .tuple #v[.bi .sorted #v[.v 3]]])]
abbrev cj:Ss:=
 #v[.set 3 (.lst .nil),.loop (.nm 4) (.rng #v[.c (.int 3)]) #v[.ex (.me .append (.v 3) #v[.tup #v[.own "_law_pick" 2 #v[.v 0,.v 1],.bi .tuple #v[.comp (.own "_law_pick" 2 #v[.v 2,.v 3]) (.nm 1) (.rng #v[.v 4]) .nil [gV,gV,ba 0,ba 2]]]])],.ret (.bi .tuple #v[.v 3])]
abbrev eO:Ss:=
 #v[.set 1 (.lst #v[.tup #v[.c (.int 1),.c (.int 1)],.tup #v[.c (.int 2),.c (.int 1)],.tup #v[.c (.int 3),.c (.int 1)],.tup #v[.c (.int 1),.c (.int 2)],.tup #v[.c (.int 1),.c (.int 2)],.tup #v[.c (.int 2),.c (.int 2)],.tup #v[.c (.int 2),.c (.int 2)],.tup #v[.c (.int 3),.c (.int 2)],.tup #v[.c (.int 1),.c (.int 3)],.tup #v[.c (.int 1),.c (.int 3)],.tup #v[.c (.int 2),.c (.int 3)]]),.ret (.ix (.v 1) (.own "_law_pick" 2 #v[.v 0,.c (.int 11)]))]
abbrev cX:Ss:=
 #v[.asg [1,2] (.own "_law_sizes" 1 #v[.v 0]),.set 3 (.own "_law_rule_of" 4 #v[.v 0,.v 1,.own "_law_backs" 2 #v[.v 0,.v 2],.tup .nil]),.set 4 .dnew,.loop (.nm 5) (.rng #v[.own "_law_pick" 2 #v[.v 0,.c (.int 9)]]) #v[.put (.v 4) (.own "_law_figure" 2 #v[.v 3,.own "_law_free_three" 3 #v[.v 0,.v 1,.v 2]]) (.c (.bl true))],.ret (.tup #v[.ix (.v 3) (.c (.int 0)),.ix (.v 3) (.c (.int 1)),.bi .tuple #v[.bi .sorted #v[.v 4]]])]
abbrev bU:Ss:=
 #v[.set 1 (.lst #v[.tup #v[.tup #v[.c (.int 1),.c (.int 0)],.disp #v[.tup #v[.c (.int 0),.c (.int 0)],.lst #v[.c (.int 0)]],.c (.int 3)],.tup #v[.tup #v[.c (.int 0),.c (.int 2),.c (.int 1)],.disp #v[.tup #v[.c (.int 1),.c (.int 1)],.lst #v[.c (.int 1)]],.c (.int 2)],.tup #v[.tup #v[.c (.int 0),.c (.int 1)],.disp #v[.tup #v[.c (.int 1),.c (.int 1)],.lst #v[.c (.int 1)]],.c (.int 3)]]),.ex (.me .append (.v 1) #v[.tup #v[.tup #v[.c (.int 0),.c (.int 1)],.disp #v[.tup #v[.c (.int 1),.c (.int 1)],.lst #v[.c (.int 1)],.tup #v[.c (.int 0),.c (.int 0)],.lst #v[.c (.int 1)]],.c (.int 3)]]),.ex (.me .append (.v 1) #v[.tup #v[.tup #v[.c (.int 0),.c (.int 1)],.disp #v[.tup #v[.c (.int 1),.c (.int 1)],.lst .nil],.c (.int 1)]]),.ex (.me .append (.v 1) #v[.tup #v[.tup #v[.c (.int 0),.c (.int 2),.c (.int 1)],.disp #v[.tup #v[.c (.int 0),.c (.int 0)],.lst #v[.c (.int 0)],.tup #v[.c (.int 0),.c (.int 1)],.lst #v[.c (.int 1)],.tup #v[.c (.int 1),.c (.int 0)],.lst #v[.c (.int 1)],.tup #v[.c (.int 1),.c (.int 1)],.lst #v[.c (.int 1)]],.c (.int 2)]]),.ex (.me .append (.v 1) #v[.tup #v[.tup #v[.c (.int 1),.c (.int 0)],.dnew,.c (.int 3)]]),.ex (.me .append (.v 1) #v[.tup #v[.tup #v[.c (.int 0),.c (.int 1),.c (.int 2)],.disp #v[.tup #v[.c (.int 2),.c (.int 2)],.lst #v[.c (.int 2)],.tup #v[.c (.int 1),.c (.int 2)],.lst #v[.c (.int 1)],.tup #v[.c (.int 2),.c (.int 1)],.lst #v[.c (.int 1)],.tup #v[.c (.int 1),.c (.int 1)],.lst #v[.c (.int 1),.c (.int 2)]],.c (.int 2)]]),.ex (.me .append (.v 1) #v[.tup #v[.tup #v[.c (.int 0),.c (.int 1),.c (.int 2)],.disp #v[.tup #v[.c (.int 0),.c (.int 0)],.lst #v[.c (.int 0),.c (.int 1)]],.c (.int 2)]]),.ret (.ix (.v 1) (.own "_law_pick" 2 #v[.v 0,.c (.int 9)]))]
abbrev dR:Ss:=
 #v[.set 5 (.disp #v[.tup #v[.c (.int 1),.c (.int 0)],.v 2,.tup #v[.c (.int 2),.c (.int 0)],.v 3,.tup #v[.c (.int 2),.c (.int 1)],.v 4]),.loop (.nm 6) (.seq (.bi .list #v[.v 5])) #v[.put (.v 5) (.tup #v[.ix (.v 6) (.c (.int 1)),.ix (.v 6) (.c (.int 0))]) (.ix (.v 0) (.ix (.v 5) (.v 6)))],.loop (.tp [7,8,9]) (.seq (.own "_law_turns" 0 .nil)) #v[.ite (.cmp .notin (.ix (.v 5) (.tup #v[.v 7,.v 9])) (.me .get (.v 1) #v[.tup #v[.ix (.v 5) (.tup #v[.v 7,.v 8]),.ix (.v 5) (.tup #v[.v 8,.v 9])],.lst #v[.ix (.v 5) (.tup #v[.v 7,.v 9])]])) #v[.ret (.c (.bl true))] .nil],.ret (.c (.bl false))]
abbrev bg:Ss:=
 #v[.set 3 (.bi .len #v[.v 1]),.set 4 (.lst #v[.lst #v[.tup #v[.c (.int 0)]],.lst #v[.tup #v[.c (.int 0),.c (.int 1)],.tup #v[.c (.int 1),.c (.int 0)]]]),.ex (.me .append (.v 4) #v[.lst #v[.tup #v[.c (.int 0),.c (.int 1),.c (.int 2)],.tup #v[.c (.int 0),.c (.int 2),.c (.int 1)],.tup #v[.c (.int 2),.c (.int 0),.c (.int 1)],.tup #v[.c (.int 2),.c (.int 1),.c (.int 0)]]]),.set 5 (.ix (.v 4) (.op .sub (.v 3) (.c (.int 1)))),.ite (.cmp .eq (.v 1) (.tup #v[.c (.int 0),.c (.int 1),.c (.int 2)])) #v[.set 5 (.own "_law_turns" 0 .nil)] .nil,.set 6 (.ix (.v 5) (.own "_law_pick" 2 #v[.v 0,.bi .len #v[.v 5]])),.set 7 (.op .mul (.lst #v[.c (.int 0)]) (.v 3)),.loop (.nm 8) (.rng #v[.v 3]) #v[.put (.v 7) (.ix (.v 6) (.v 8)) (.ix (.v 6) (.ix (.v 1) (.v 8)))],.set 9 .dnew,.loop (.tp [10,11]) (.seq (.v 2)) #v[.put (.v 9) (.tup #v[.ix (.v 6) (.v 10),.ix (.v 6) (.v 11)]) (.comp (.ix (.v 2) (.v 1)) (.nm 1) (.seq (.ix (.v 2) (.tup #v[.v 10,.v 11]))) .nil [gV,gV,ba 6])],.ret (.tup #v[.bi .tuple #v[.v 7],.v 9])]
abbrev bV:Ss:=
 #v[.set 1 (.own "_law_pick" 2 #v[.v 0,.c (.int 7)]),.ite (.cmp .eq (.v 1) (.c (.int 0))) #v[.ret (.own "_law_free_rule" 1 #v[.v 0])] .nil,.ite (.cmp .eq (.v 1) (.c (.int 1))) #v[.ret (.own "_law_one_way_rule" 1 #v[.v 0])] .nil,.asg [2,3,4] (.own "_law_laying_kind" 1 #v[.v 0]),.set 5 (.op .add (.c (.int 1)) (.own "_law_pick" 2 #v[.v 0,.v 4])),.asg [2,3] (.own "_law_numbered" 3 #v[.v 0,.v 2,.v 3]),.set 6 (.own "_law_rule_of" 4 #v[.v 0,.v 5,.v 2,.tup .nil]),.set 7 .dnew,.set 8 (.bi .len #v[.v 2]),.loop (.nm 9) (.rng #v[.op .mul (.op .mul (.v 8) (.v 8)) (.v 8)]) #v[.par 10 11 #v[.op .mod (.v 9) (.v 8),.op .mod (.op .fdiv (.v 9) (.v 8)) (.v 8)],.set 12 (.op .fdiv (.op .fdiv (.v 9) (.v 8)) (.v 8)),.ite (.own "_law_breaks" 5 #v[.v 2,.v 3,.v 10,.v 11,.v 12]) #v[.loop (.nm 13) (.seq (.own "_law_rising" 1 #v[.v 5])) #v[.set 14 (.tup #v[.tup #v[.ix (.v 13) (.c (.int 0)),.tup .nil],.tup #v[.ix (.v 13) (.c (.int 1)),.tup #v[.v 10]]]),.put (.v 7) (.own "_law_figure" 2 #v[.v 6,.op .add (.v 14) (.tup #v[.tup #v[.ix (.v 13) (.c (.int 2)),.tup #v[.v 11,.v 12]]])]) (.c (.bl true))]] .nil],.ret (.tup #v[.ix (.v 6) (.c (.int 0)),.ix (.v 6) (.c (.int 1)),.bi .tuple #v[.bi .sorted #v[.v 7]]])]
abbrev dS:Ss:=
 #v[.set 1 (.lst .nil),.loop (.nm 2) (.rng #v[.v 0]) #v[.loop (.nm 3) (.rng2 #v[.v 2,.v 0]) #v[.set 1 (.op .add (.v 1) (.comp (.tup #v[.v 2,.v 3,.v 1]) (.nm 1) (.rng2 #v[.v 3,.v 0]) .nil [gV,gV,ba 2,ba 3]))]],.ret (.v 1)]
abbrev cJ:Ss:=
 #v[.asg [1,2] (.own "_law_sizes" 1 #v[.v 0]),.set 3 (.own "_law_rule_of" 4 #v[.v 0,.v 1,.own "_law_backs" 2 #v[.v 0,.v 2],.tup .nil]),.set 5 (.comp (.v 1) (.nm 1) (.rng #v[.v 2]) #v[.cmp .eq (.ix (.ix (.ix (.v 2) (.c (.int 1))) (.v 1)) (.c (.int 1))) (.v 1)] [gV,gV,ba 3]),.ite (.or (.cmp .eq (.v 5) (.lst .nil)) (.cmp .eq (.v 2) (.c (.int 1)))) #v[.ret (.v 3)] .nil,.set 6 (.ix (.v 5) (.own "_law_pick" 2 #v[.v 0,.bi .len #v[.v 5]])),.set 7 .dnew,.loop (.nm 4) (.rng #v[.own "_law_pick" 2 #v[.v 0,.c (.int 9)]]) #v[.set 8 (.own "_law_free_three" 3 #v[.v 0,.v 1,.v 2]),.ite (.and (.cmp .ne (.ix (.ix (.ix (.v 8) (.c (.int 1))) (.c (.int 1))) (.c (.int 0))) (.v 6)) (.cmp .notin (.v 6) (.ix (.ix (.v 8) (.c (.int 2))) (.c (.int 1))))) #v[.put (.v 7) (.own "_law_figure" 2 #v[.v 3,.v 8]) (.c (.bl true))] .nil],.ret (.tup #v[.ix (.v 3) (.c (.int 0)),.ix (.v 3) (.c (.int 1)),.bi .tuple #v[.bi .sorted #v[.v 7]]])]
abbrev bG:Ss:=
 #v[.set 1 (.op .add (.c (.int 1)) (.own "_law_pick" 2 #v[.v 0,.c (.int 3)])),.set 2 (.comp (.tup #v[.tup #v[.v 1,.tup .nil],.tup #v[.v 1,.tup #v[.c (.int 0)]],.tup #v[.v 1,.tup #v[.c (.int 0),.c (.int 0)]]]) (.nm 1) (.rng #v[.v 1]) #v[.cmp .eq (.own "_law_pick" 2 #v[.v 2,.c (.int 2)]) (.c (.int 0))] [gV,gV,ba 0]),.ret (.own "_law_rule_of" 4 #v[.v 0,.v 1,.tup #v[.c (.int 0)],.v 2])]
abbrev bL:Ss:=
 #v[.set 3 (.lst .nil),.loop (.nm 4) (.rng #v[.v 2]) #v[.set 5 (.own "_law_pick" 2 #v[.v 0,.bi .len #v[.ix (.v 1) (.c (.int 0))]]),.ex (.me .append (.v 3) #v[.tup #v[.v 5,.bi .tuple #v[.comp (.own "_law_pick" 2 #v[.v 2,.bi .len #v[.ix (.v 3) (.c (.int 1))]]) (.nm 1) (.rng #v[.v 4]) .nil [gV,gV,ba 0,ba 1]]]])],.ret (.bi .tuple #v[.v 3])]
abbrev aY:Ss:=
 #v[.ite (.cmp .is (.v 1) (.c .non)) #v[.ret (.cmp .is (.v 0) (.c .non))] .nil,.ite (.or (.isi "bool" (.v 1)) (.isi "bool" (.v 0))) #v[.ret (.and (.isi "bool" (.v 1)) (.and (.isi "bool" (.v 0)) (.cmp .eq (.v 0) (.v 1))))] .nil,.ite (.isi "int" (.v 1)) #v[.ret (.and (.isi "int" (.v 0)) (.cmp .eq (.v 0) (.v 1)))] .nil,.ite (.isi "str" (.v 1)) #v[.ret (.and (.isi "str" (.v 0)) (.cmp .eq (.v 0) (.v 1)))] .nil,.ite (.or (.cmp .ne (.isi "tuple" (.v 1)) (.isi "tuple" (.v 0))) (.cmp .ne (.isi "list" (.v 1)) (.isi "list" (.v 0)))) #v[.ret (.c (.bl false))] .nil,.ret (.and (.cmp .eq (.bi .len #v[.v 0]) (.bi .len #v[.v 1])) (.bi .all #v[.comp (.own "_law_alike" 2 #v[.ix (.v 3) (.v 1),.ix (.v 2) (.v 1)]) (.nm 1) (.rng #v[.bi .len #v[.v 1]]) .nil [gV,gV,ba 1,ba 0]]))]
abbrev Is (defs:Jn (JS×Df))(f:JS)(np nn:Jx)(b:Ss):Prop:=∃df:Df,defs.lookup f=ba df/\df.ps.length=np/\df.N.length=nn/\df.body=b
def ay {defs:Jn (JS×Df)}{fuel d:Jx}{f:JS}{np nn:Jx}{b:Ss}{ws:Jn W}{S:aa}{Q:QW}(h:Is defs f np nn b)(hl:ws.length=np)(ok:gX b=true)
  (hb:∀Q':QO,(∀w S',Q (w,S')->Q' (.rt w,S'))->wZ (am defs fuel d) fuel b (ws.map ba++Km (nn - np) gV) S Q'):wO (aP (am defs fuel (d+1)) f np ws S) Q:=by
 obtain⟨df,h1,h2,h3,h4⟩:=h;subst h4;show Ex h1 hl (hl.trans h2.symm) ok λQ' hR=>?_
 have:=hb Q' hR;unfold fH;rw[h3,hl];exact this
structure Gen (defs:Jn (JS×Df)):Prop where
 pick:Is defs ("_law_pick" : JS) 2 4 cM
 letters:Is defs ("_law_letters" : JS) 2 2 dk
 name:Is defs ("_law_name" : JS) 2 3 fI
 names:Is defs ("_law_names" : JS) 2 7 cR
 between:Is defs ("_law_between" : JS) 4 4 dq
 part:Is defs ("_law_part" : JS) 3 6 fJ
 turns:Is defs ("_law_turns" : JS) 0 0 gk
 figure:Is defs ("_law_figure" : JS) 2 2 dQ
 backs:Is defs ("_law_backs" : JS) 2 3 eN
 rule_of:Is defs ("_law_rule_of" : JS) 4 6 dt
 free_three:Is defs ("_law_free_three" : JS) 3 5 cj
 sizes:Is defs ("_law_sizes" : JS) 1 2 eO
 any_rule:Is defs ("_law_any_rule" : JS) 1 6 cX
 laying_kind:Is defs ("_law_laying_kind" : JS) 1 2 bU
 breaks:Is defs ("_law_breaks" : JS) 5 10 dR
 numbered:Is defs ("_law_numbered" : JS) 3 12 bg
 laying_rule:Is defs ("_law_laying_rule" : JS) 1 15 bV
 rising:Is defs ("_law_rising" : JS) 1 4 dS
 free_rule:Is defs ("_law_free_rule" : JS) 1 9 cJ
 one_way_rule:Is defs ("_law_one_way_rule" : JS) 1 3 bG
structure FlA (S:aa)(r q:Jx)(ns:Jn JI)(i c x n:JI):Prop where
 at_r:S[r]?=ba (.lst [.ref q,.int i,.int c,.int x,.int n])
 at_q:S[q]?=ba (.lst (ns.map W.int))
 lt:q < r
 i0:0<=i
 c0:0<=c
 x0:0<=x
 x1:x < 2147483647
def FlA.ne {S:aa}{r q:Jx}{ns:Jn JI}{i c x n:JI}(h:FlA S r q ns i c x n):q≠r:=JZ h.lt
abbrev Fl (S:aa)(r:Jx):Prop:=∃(q:Jx) (ns:Jn JI) (i c x n:JI),FlA S r q ns i c x n
def FlA.put {S:aa}{r q:Jx}{ns:Jn JI}{i c x n i' c' x' n':JI}(h:FlA S r q ns i c x n)(h1:0<=i')(h2:0<=c')(h3:0<=x')(h4:x' < 2147483647):FlA (S.set r (.lst [.ref q,.int i',.int c',.int x',.int n'])) r q ns i' c' x' n':=
 #[aT h.at_r,by rw[be (Ne.symm h.ne)]; exact h.at_q,h.lt,h1,h2,h3,h4]
def Fl.keep {S S':aa}{r:Jx}(h:Fl S r)(h1:S'[r]?=S[r]?)(k:Kp r S S'):Fl S' r:=
 let ⟨q,ns,i,c,x,n,f⟩:=h; #[q,ns,i,c,x,n,by rw[h1]; exact f.at_r,k.get _ _ f.ne f.at_q,f.lt,f.i0,f.c0,f.x0,f.x1]
def Fl.lt {S:aa}{r:Jx}(h:Fl S r):r < S.length:=let ⟨_,_,_,_,_,_,f⟩:=h; bS f.at_r
structure Ka (S S':aa):Prop where
 get:∀(j:Jx) (o:O),S[j]?=ba o->S'[j]?=ba o
 len:S.length<=S'.length
def Ka.refl {S:aa}:Ka S S:=#[λ_ _ h=>h,JA _]
def Ka.trans {S S' S'':aa}(a:Ka S S')(b:Ka S' S''):Ka S S'':=#[λj o h=>b.get j o (a.get j o h),J6 a.len b.len]
def Ka.push {S:aa}{o:O}:Ka S (S++[o]):=#[λj u h=>al h,by simp]
def Ka.late {t:Jx}{S0 S:aa}{o:O}(a:Ka S0 S)(h:S0.length<=t):Ka S0 (S.set t o):=
 #[λj u e=>by have:=bS e; rw[be ∅]; exact a.get j u e,by simpa using a.len]
def Ka.kp {S S':aa}(a:Ka S S')(r:Jx):Kp r S S':=#[λj o _ h=>a.get j o h,a.len]
def Fl.ka {S S':aa}{r:Jx}(h:Fl S r)(k:Ka S S'):Fl S' r:=h.keep (by obtain⟨q,ns,i,c,x,n,f⟩:=h; rw[k.get _ _ f.at_r,f.at_r]) (k.kp r)
def Fl.own {S:aa}{r t:Jx}{o:O}(h:Fl S r)(ht:r < t):Fl (S.set t o) r:=by
 obtain⟨q,ns,i,c,x,n,f⟩:=h;have:=f.lt;exact#[q,ns,i,c,x,n,by rw[be ∅]; exact f.at_r,by rw[be ∅]; exact f.at_q,f.lt,f.i0,f.c0,f.x0,f.x1]
def eF {S:aa}{r:Jx}{xs:Jn W}{i:Jx}{w:W}{Q:QW}(h:S[r]?=ba (.lst xs))(hw:xs[i]?=ba w)(q:Q (w,S)):wO (o7 (.ref r) (.int (i:JI)) S) Q:=ab (y6 h (JN i) (by rw[JL]; exact hw)) q
def mY {S:aa}{r:Jx}{xs:Jn W}{i:Jx}{w:W}{Q:aa->Prop}(h:S[r]?=ba (.lst xs))(hi:T7 (i+1) xs.length=true)(q:Q (S.set r (.lst (xs.set i w)))):wO (iU (.ref r) (.int (i:JI)) w S) Q:=ab (CT h (JN i) (by rw[JL]; exact MZ hi)) (by rw[JL]; exact q)
section
variable{defs:Jn (JS×Df)}{fuel d:Jx}{S:aa}{r:Jx}{Q:QW}
def aM (hd:Is defs ("_law_pick" : JS) 2 4 cM){m:JI}(hf:Fl S r)(h0:0 < m)(h1:m < 1073741824)(k:∀v S',0<=v->v < m->Fl S' r->Kp r S S'->Q (.int v,S')) :
  wO (aP (am defs fuel (d+1)) "_law_pick" 2 [.ref r,.int m] S) Q:=by
 obtain⟨q,ns,i,c,x,n,f⟩:=hf;show ay hd rfl rfl λQ' hR=>?_
 replace k:∀v S',0<=v->v < m->Fl S' r->Kp r S S'->Q' (.rt (.int v),S'):=λv S' a b c e=>hR _ _ (k v S' a b c e)
 clear hR;change wZ _ _ cM [ba (.ref r),ba (.int m),gV,gV] S Q';have bw:∀(S1:aa) (w2:Jw W) (i1 c1 x1 n1:JI),FlA S1 r q ns i1 c1 x1 n1->Kp r S S1->wZ (am defs fuel d) fuel (match cM with|.cons _ ss=>ss|.nil=>.nil) [ba (.ref r),ba (.int m),w2,gV] S1 Q':=by
  intro S1 w2 i1 c1 x1 n1 f1 k1;dsimp only[cM];show st ?_;dsimp only[wS,wT,wE,wV,wG];show eF (i:=2) f1.at_r rfl ?_;dsimp only[Gy,wO,wB];show au (Q0:=Q') (λhg Q2 hn hr=>?_) (λhg Q2 hn hr=>?_)
  ·clear hn;show st ?_;dsimp only[wS,wE,wV,wG];show eF (i:=2) f1.at_r rfl (ab (i4 h0) ?_);show st ?_;dsimp only[wS,wE,wV,wG,JG];show eF (i:=2) f1.at_r rfl (ab (iA h0 h1) (mY (i:=2) f1.at_r rfl ?_));show st ?_;dsimp only[wS,wE,wV,wG,JG];exact hr _ _ (k _ _ (Mp _ ∅) (Mh _ h0) #[q,ns,i1,c1 / m,x1,n1,f1.put f1.i0 (N9 f1.c0 ∅) f1.x0 f1.x1] (k1.trans .set))
  ·show bA (hn _ _ ?_);clear hn hr;have f2:FlA (S1.set r (.lst [.ref q,.int i1,.int c1,.int x1,.int (n1+1)])) r q ns i1 c1 x1 (n1+1):=f1.put f1.i0 f1.c0 f1.x0 f1.x1;show st ?_;dsimp only[wS,wE,wV,wG];show eF (i:=4) f1.at_r rfl ?_;dsimp only[cQ,wO];show mY (i:=4) f1.at_r rfl ?_;show st ?_;dsimp only[wS,wE,wV,wG,JG];show eF (i:=3) f2.at_r rfl (ab (qD #v[] #v[]) ?_)
   dsimp only[cQ,wO];show eF (i:=4) f2.at_r rfl ?_;dsimp only[cQ,wO];show(mY (i:=3) f2.at_r rfl ?_);have f3:FlA ((S1.set r (.lst [.ref q,.int i1,.int c1,.int x1,.int (n1+1)])).set r (.lst [.ref q,.int i1,.int c1,.int ((x1*48271+12820163+(n1+1)) % 2147483647),.int (n1+1)])) r q ns i1 c1 ((x1*48271+12820163+(n1+1)) % 2147483647) (n1+1):=f2.put f1.i0 f1.c0 (Mp _ #v[]) (Mh _ #v[])
   dsimp only[JG];generalize(x1*48271+12820163+(n1+1)) % 2147483647=y at f3 ⊢;have b1:y / 65521+7919 < 2 ^ 64:=by
    have:=f3.x1;have:=Int.ediv_le_self 65521 f3.x0;omega
   have b2 : -(2 ^ 64) < y / 65521+7919:=by
    have:=N9 f3.x0 (show(0:JI)<=65521 by decide)
    omega
   show st ?_;dsimp only[wS,wE,wV,wG,JG];show eF (i:=3) f3.at_r rfl (ab (i4 #v[]) ?_)
   dsimp only[cQ,wO];show eF (i:=3) f3.at_r rfl ?_;dsimp only[cQ,wO];show ab (qD b2 b1) ?_;show ab (i4 h0) ?_;exact k _ _ (Mp _ ∅) (Mh _ h0) #[q,ns,_,_,_,_,f3] (k1.trans (Kp.set.trans .set))
 dsimp only[cM]at bw ⊢;show st ?_;dsimp only[wS,wT,wE,wV,wG,wA];show eF (i:=2) f.at_r rfl ?_;dsimp only[iB,wO,wB];have skip:∀Q2:QO,(∀Z' S',wZ (am defs fuel d) fuel _ Z' S' Q'->Q2 (.nx Z',S'))->Q2 (.nx [ba (.ref r),ba (.int m),gV,gV],S):=λQ2 hn=>hn _ _ (bw S gV i c x n f .refl)
 show#[λ_=>?_,λ_ Q2 hn hr=>#[λz=>(by cases z),λ_=>(bA (skip Q2 hn)).out]]
 show eF (i:=1) f.at_r rfl (eF (i:=0) f.at_r rfl (ab (CU f.at_q) ?_));dsimp only[v4,wO,wB];show au (Q0:=Q') (λhl Q2 hn _=>?_) (λhg Q2 hn hr=>bA (skip Q2 hn))
 clear skip;have hl':i.toNat < ns.length:=by
  have:=Kt hl;rw[Jp]at this;have:=f.i0;omega
 have hcell:(ns.map W.int)[i.toNat]?=ba (.int ns[i.toNat]):=by simp[hl']
 generalize ns[i.toNat]=cell at hcell;have f1:FlA (S.set r (.lst [.ref q,.int (i+1),.int c,.int x,.int n])) r q ns (i+1) c x n:=f.put (by have:=f.i0; omega) f.c0 f.x0 f.x1
 show st ?_;dsimp only[wS,wE,wV,wG];show eF (i:=0) f.at_r rfl (eF (i:=1) f.at_r rfl (ab (y6 f.at_q f.i0 hcell) ?_));show st ?_;dsimp only[wS,wE,wV,wG,JG];show eF (i:=1) f.at_r rfl ?_;dsimp only[cQ,wO];show mY (i:=1) f.at_r rfl ?_;show st ?_;dsimp only[wS,wT,wE,wV,wG,Ev,Ir,wO,wB];show au (Q0:=Q') (λhg Q3 hn3 _=>?_) (λhg Q3 hn3 _=>?_)
 ·show st ?_;dsimp only[wS,wE,wV,wG];show mY (i:=2) f1.at_r rfl (bA (hn3 _ _ (bA (hn _ _ ?_))));exact bw _ _ (i+1) cell x n (f1.put f1.i0 (by have:=Kt hg; omega) f.x0 f.x1) (Kp.set.trans .set)
 ·show st ?_;dsimp only[wS,wE,wV,wG];show eF (i:=3) f1.at_r rfl (ab (qD #v[] #v[]) (ab (i4 #v[]) ?_))
  dsimp only[cQ,wO];show mY (i:=3) f1.at_r rfl (bA (hn3 _ _ (bA (hn _ _ ?_))));exact bw _ _ (i+1) c _ n (f1.put f1.i0 f.c0 (Mp _ #v[]) (Mh _ #v[])) (Kp.set.trans .set)
end
abbrev dr:Jx->Ss->Ss
 | 0,ss=>ss
 | n+1,.cons _ ss=>dr n ss
 | _,.nil=>.nil
def aF {α:Type}{a:α}{Q:α->Prop}:wO (ba a) Q=Q a:=rfl
def aG {M:JS->FF}{fuel:Jx}{Z:Fm}{S:aa}{Q:QO}{s:Sm}{ss:Ss}(h:∀K:Fm->aa->Prop,(∀Z' S',wZ M fuel ss Z' S' Q->K Z' S')->wS M fuel s Z S K Q):wZ M fuel (.cons s ss) Z S Q:=st (h _ λ_ _ h=>h)
def GL {M:JS->FF}{fuel:Jx}{Z:Fm}{S:aa}{i:Jx}{e:E}{K:Fm->aa->Prop}{Q:QO}(h:wE M e Z S λp=>K (Z.set i (ba p.1)) p.2):wS M fuel (.set i e) Z S K Q:=h
def i6 {n:Jx}(h:T7 n 1000=true):n<=sizeLine:=J6 (MZ h) (by rw[Ky]; decide)
def j5 {n:Jx}(h:n<=1000):n<=sizeLine:=J6 h (by rw[Ky]; decide)
def fq {S:aa}{r:Jx}{xs:Jn W}{i:JI}{w:W}{Q:QW}(h:S[r]?=ba (.lst xs))(h0:0<=i)(hw:xs[i.toNat]?=ba w)(q:Q (w,S)):wO (o7 (.ref r) (.int i) S) Q:=ab (y6 h h0 hw) q
def ak {S:aa}{xs:Jn W}{i:JI}{w:W}{Q:QW}(h0:0<=i)(hw:xs[i.toNat]?=ba w)(q:Q (w,S)):wO (o7 (.tup xs) (.int i) S) Q:=ab (GB h0 hw) q
def jV {S:aa}{r:Jx}{xs:Jn W}{y:W}{Q:QW}(h:S[r]?=ba (.lst xs))(hl:xs.length < 1000)(q:Q (.non,S.set r (.lst (xs++[y])))):wO (Me.append.fn (.ref r) [y] S) Q:=ab (uz h (J4 hl (i6 rfl))) q
def eu {S:aa}{r:Jx}{xs:Jn W}{Q:QW}(h:S[r]?=ba (.lst xs))(q:Q (.int xs.length,S)):wO (Bi.len.fn [.ref r] S) Q:=ab (CU h) q
def aN {S:aa}{xs:Jn W}{Q:QW}(q:Q (.int xs.length,S)):wO (Bi.len.fn [.tup xs] S) Q:=q
def dB {S:aa}{r:Jx}{xs:Jn W}{Q:QW}(h:S[r]?=ba (.lst xs))(q:Q (.tup xs,S)):wO (Bi.tuple.fn [.ref r] S) Q:=ab (GC h) q
section
variable{M:JS->FF}{fuel:Jx}{Z:Fm}{S S1:aa}{K:Fm->aa->Prop}
def bZ {t:E}{a:Ss}{Q:QO}(ht:∀Q:QB,Q (false,S1)->wT M t Z S Q)(h:K Z S1):wS M fuel (.ite t a .nil) Z S K Q:=by
 dsimp only[wS];exact ht _ λQ' h1 h2=>#[λz=>(by cases z),λ_=>(bA (h1 _ _ h)).out]
def lr {t:E}{a b:Ss}{Q:QO}(ht:∀Q:QB,Q (true,S1)->wT M t Z S Q)(h:∀Q':QO,(∀Z' S',K Z' S'->Q' (.nx Z',S'))->(∀w S',Q (.rt w,S')->Q' (.rt w,S'))->wZ M fuel a Z S1 Q'):wS M fuel (.ite t a b) Z S K Q:=by
 dsimp only[wS];exact ht _ λQ' h1 h2=>#[λ_=>(h Q' h1 λw S' q=>h2 (.rt w) S' (λ_ z=>nomatch z) q).out,λz=>(by cases z)]
end
def zd:∀k:Fin 26,("abcdefghijklmnopqrstuvwxyz" : JS).cps.toList[k.val]?=ba (97+k.val):=by decide
def uE:("abcdefghijklmnopqrstuvwxyz" : JS).length<=sizeLine:=by decide
def lu:∀cs:Jn Jx,jl (cs.map λc=>W.str #[[c].toArray])=ba (cs.map λc=>(#[[c].toArray] : JS))
 | []=>rfl
 | c::cs=>by simp[jl,lu cs]
def mZ:∀cs:Jn Jx,((cs.map λc=>(#[[c].toArray] : JS)).map (·.length)).sum=cs.length
 | []=>rfl
 | c::cs=>by
  have:=mZ cs;simp only[KO,List.sum_cons,Kr];rw[this];change 1+cs.length=_;omega
def fK (a b:JS):(a++b).cps.toList=a.cps.toList++b.cps.toList:=Oe
def lv:∀cs:Jn Jx,(T0 "" (cs.map λc=>(#[[c].toArray] : JS))).cps.toList=cs
 | []=>rfl
 | [c]=>rfl
 | c::d::cs=>by
  have ih:=lv (d::cs);show(((#[[c].toArray] : JS)++("" : JS)++T0 "" ((d::cs).map λc=>(#[[c].toArray] : JS))).cps).toList=_
  rw[fK,fK,ih];rfl
def qE (cs:Jn Jx):(SW "" (cs.map λc=>(#[[c].toArray] : JS))).cps.toList=cs:=by
 show(TC "" _).cps.toList=_;rw[StrLaws.glued_eq_join];exact lv cs
abbrev uF (y:JS):Prop:=∀c∈y.cps.toList,97<=c/\c<=122
abbrev Name (y:JS):Prop:=1<=y.cps.toList.length/\y.cps.toList.length<=8/\uF y
def uG (y:JS):y.length=y.cps.toList.length:=by simp[To]
abbrev ze:Jn JS:=["markss","mark","way","wayss","bars","ba","somex","eachx","note","no","ands","ors","o","iss"]
def v6:∀y∈ze,Name y:=by
 have h:ze.all (λy=>decide (1<=y.cps.toList.length/\y.cps.toList.length<=8)&&y.cps.toList.all λc=>decide (97<=c/\c<=122))=true:=by decide
 intro y hy;have:=JQ.mp h y hy;rw[Jv]at this;obtain⟨a,b⟩:=this;exact#[(Kt a).1,(Kt a).2,λc hc=>Kt (JQ.mp b c hc)]
def lw {α:Type}{f:α->W}{xs:Jn α}{i:Jx}(h:i < xs.length):∃x∈xs,(xs.map f)[i]?=ba (f x):=#[xs[i],Kd _,by rw[JB,Jy h]; rfl]
section
variable{defs:Jn (JS×Df)}{fuel d:Jx}{S:aa}{r:Jx}{Q:QW}
def jB (G:Gen defs){m:JI}(hf:Fl S r)(h0:0<=m)(h1:m<=1000)(k:∀y S',y.cps.toList.length=m.toNat->uF y->Fl S' r->Kp r S S'->Q (.str y,S')) :
  wO (aP (am defs fuel (d+2)) "_law_letters" 2 [.ref r,.int m] S) Q:=by
 show ay G.letters rfl rfl λQ' hR=>?_
 change wZ _ _ dk [ba (.ref r),ba (.int m)] S Q';dsimp only[dk];show st ?_;dsimp only[wS,wE,wA];show#[rfl,dj m (λi ys Z S'=>(∃a,Z=[gV,a,ba (.ref r)])/\Fl S' r/\Kp r S S'/\∃cs:Jn Jx,ys=cs.map (λc=>W.str #[[c].toArray])/\cs.length=i/\∀c∈cs,97<=c/\c<=122) rfl rfl rfl #[∅,∅] #[rfl,#[gV,rfl],hf,.refl,[],rfl,rfl,λ_ h=>nomatch h] ?_ ?_]
 ·rintro i ys Z S1 hi ⟨⟨a,rfl⟩,f1,k1,cs,rfl,hl,hc⟩;dsimp only[fP,wC,wE,wA,wV,wG,JG];show#[λ_=>aM (d:=d) G.pick f1 #v[] #v[] λv S2 h2 h3 f2 k2=>?_,λz=>by cases z]
  have ha:=zd #[v.toNat,∅]
  show ab (CS uE h2 ha) #[#[_,rfl],f2,k1.trans k2,cs++[97+v.toNat],by simp,by simp[hl],λc hx=>?_]
  rcases Kc.mp hx with h|h
  ·exact hc c h
  ·rw[JK.mp h]; omega
 ·rintro ys Z S1 ⟨_,f1,k1,cs,rfl,hl,hc⟩;show#[by rw[Jp,hl,Ky]; omega,?_]
  have hz:((cs.map λc=>(#[[c].toArray] : JS)).map (·.length)).sum+(cs.map λc=>(#[[c].toArray] : JS)).length*("" : JS).length<=16777216:=by
   rw[mZ,show("" : JS).length=0 from rfl,Pd]
   omega
  show ab (a:=(.str (SW "" (cs.map λc=>(#[[c].toArray] : JS))),S1++[.lst (cs.map λc=>W.str #[[c].toArray])])) ?_ (hR _ _ (k _ _ (by rw[qE,hl]) (λc h=>hc c (by rw[qE]at h; exact h)) (f1.ka .push) (k1.trans .push)))
  simp only[Me.fn,tF,eH,aq ag,lu];rw[JX hz]
def Ey (G:Gen defs){y:JS}(hf:Fl S r)(h0:y.cps.toList.length<=6)(h1:uF y)(k:∀z S',Name z->Fl S' r->Kp r S S'->Q (.str z,S')) :
  wO (aP (am defs fuel (d+3)) "_law_name" 2 [.ref r,.str y] S) Q:=by
 show ay G.name rfl rfl λQ' hR=>?_
 replace k:∀z S',Name z->Fl S' r->Kp r S S'->Q' (.rt (.str z),S'):=λz S' a b c=>hR _ _ (k z S' a b c)
 clear hR;change wZ _ _ fI [ba (.ref r),ba (.str y),gV] S Q';dsimp only[fI];nofun
 dsimp only[wS,wT,wE,wV,wG,Gz,wO,wB];show au (Q0:=Q') (λ_ Q2 _ hr=>?_) (λ_ Q2 hn _=>?_)
 ·show st ?_;left;show aM (d:=d+1) G.pick hf #v[] #v[] λv S1 v0 v1 f1 k1=>?_
  dsimp only[cQ,wO];show jB (d:=d) G f1 ∅ ∅ λz S2 hz hs f2 k2=>?_
  have hl:(y++z).cps.toList.length=y.cps.toList.length+z.cps.toList.length:=by rw[fK,JC]
  show ab (Ew (by rw[uG,uG,Ky]; omega)) (hr _ _ (k _ _ #[∅,∅,λc hc=>?_] f2 (k1.trans k2)))
  rw[fK]at hc;exact(Kc.mp hc).elim (h1 c) (hs c)
 ·show bA (hn _ _ (hK _ _ ?_));clear hn hK;nofun
  dsimp only[wS,wT,wE,wA,wV,wG];show aM (d:=d+1) G.pick hf #v[] #v[] λv S1 v0 v1 f1 k1=>?_
  dsimp only[iB,wO,wB];show au (Q0:=Q') (λ_ Q2 _ hr=>?_) (λ_ Q2 hn _=>?_)
  ·show st ?_;left;show st ?_;left;show ab (y4 (i:=S1.length) (j:=(S1++[_]).length) (al ag) ag (i6 rfl)) ?_;dsimp only;show st ?_;left;show aM (d:=d+1) G.pick (((f1.ka .push).ka .push).ka .push) #v[] #v[] λv S2 v0 v1 f2 k2=>?_
   have e:=k2.get _ _ (by have:=f1.lt; simp only[JC]; omega) ag
   obtain⟨z,hz,ez⟩:=lw (f:=W.str) (xs:=ze) (i:=v.toNat) (by change v.toNat < 14; omega)
   exact fq e v0 ez (hr _ _ (k _ _ (v6 z hz) f2 (k1.trans (Kp.push.trans (Kp.push.trans (Kp.push.trans k2))))))
  ·show bA (hn _ _ (hK _ _ ?_));clear hn hK;show st ?_;left;show aM (d:=d+1) G.pick f1 #v[] #v[] λv S2 v0 v1 f2 k2=>?_
   dsimp only[cQ,wO];exact jB (d:=d) G f2 ∅ ∅ λz S3 hz hs f3 k3=>k _ _ #[∅,∅,hs] f3 (k1.trans (k2.trans k3))
end
def gl {α:Type}[ML α]:∀(l m:Jn α),l.Nodup->(∀x∈l,x∈m)->l.length<=m.length
 | [],_,_,_=>Lm _
 | x::l,m,hn,hs=>by
  rw[K1]at hn;have hx:x∈m:=hs x (.head _);have h1:=gl l (m.erase x) hn.2 λy hy=>(Na (λ(e:y=x)=>hn.1 (by rw[<- e]; exact hy))).mpr (hs y (.tail _ hy))
  rw[OX hx]at h1;have:=Pe hx;rw[Kr]; omega
abbrev l7 (k:Jx):JS:=#[[97+k].toArray]
def zf {a b:Jx}(h:l7 a=l7 b):a=b:=by
 unfold l7 at h;injection h with h
 injection h with h
 injection h with h
 omega
def qF (s:Jx):((JW s).map l7).Nodup:=by
 unfold Tu;rw[Ld];exact List.nodup_range.imp λh e=>h (zf e)
def v8 {k:Jx}(h:k < 26):Name (l7 k):=#[JA 1,(by decide:1<=8),λc hc=>by
 cases JK.mp (show c∈[97+k]from hc)
 omega]
abbrev iD:Jn JS:=["marks","ways","bar","some","each","not","and","or","is"]
def zh (zs:Jn JS):(zs.map W.str).all bI=true:=by
 rw[JQ];intro x hx;obtain⟨z,_,rfl⟩:=JF.mp hx;rfl
def B7 (zs:Jn JS)(y:JS):((zs.map W.str).any λz=>xE z (.str y))=decide (y∈zs):=by
 induction zs with
 | nil=>rfl
 | cons z zs ih=>
  rw[KO,L9,ih];show((z==y)||_)=_
  by_cases h:z=y
  ·subst h; simp
  ·have:(z==y)=false:=by simpa using h
   rw[this,OT];have h2:(y∈z::zs)=(y∈zs):=by simp[Ne.symm h]
   simp only[h2]
def wa {S:aa}{t:Jx}{zs:Jn JS}{y:JS}(h:S[t]?=ba (.lst (zs.map W.str))):aZ .isin (.str y) (.ref t) S=ba (.bl (decide (y∈zs)),S):=by
 (dsimp only[aZ,ik,DP,Bc,eH]; simp only[km h,aq h])
 rw[JX (by rw[zh]; rfl),B7]
 rfl
def Ez {S:aa}{k:Jx}:fT .mul (.str #[[k].toArray]) (.int 1) S=ba (.str #[[k].toArray],S):=by
 dsimp only[fT,xz];rw[JX #[#v[],#v[],by change 1*1<=sizeLine; rw[Ky]; decide]]
 rfl
def gm {xs:Jn W}{k:Jx}:jj xs gV (ba (k:JI))=xs.take k:=by
 unfold jj;rw[HT.kC,HT.sX,PJ,SM]
 by_cases h:k<=xs.length
 ·rw[RB h]
 ·rw[Rg ∅,NO (JA _),NO ∅]
def zj {xs:Jn W}{k:Jx}:jj xs (ba (k:JI)) gV=xs.drop k:=by
 unfold jj;rw[HT.kC,HT.sX]
 by_cases h:k<=xs.length
 ·rw[RB h,NO (by rw[Nc]; exact JA _)]
 ·rw[Rg ∅,NL (JA _),NL ∅]; exact List.take_nil
section
variable{defs:Jn (JS×Df)}{fuel d:Jx}{S:aa}{r:Jx}{Q:QW}
def B8 {M:JS->FF}{m z w:W}{t:Jx}{y:JS}{zs:Jn JS}{K:Fm->aa->Prop}{Q:QO}(hfu:20 < fuel)(hy:Name y)(e:S[t]?=ba (.lst (zs.map W.str)))(hl:zs.length<=15)
  (k:∀y s,Name y->y∉zs->K [ba (.ref r),ba m,ba z,ba (.ref t),ba w,ba (.str y),ba s] S) :
  wS M fuel (.whl (.cmp .isin (.v 5) (.v 3)) #v[.set 5 (.op .mul (.ix (.c (.str "abcdefghijklmnopqrstuvwxyz")) (.op .mod (.v 6) (.c (.int 26)))) (.op .add (.c (.int 1)) (.op .fdiv (.v 6) (.c (.int 26))))),.set 6 (.op .add (.v 6) (.c (.int 1)))])
   [ba (.ref r),ba m,ba z,ba (.ref t),ba w,ba (.str y),ba (.int 0)] S K Q:=by
 dsimp only[wS];show uB (λmm Z S'=>∃(s:Jx) (y:JS),Z=[ba (.ref r),ba m,ba z,ba (.ref t),ba w,ba (.str y),ba (.int s)]/\S'=S/\mm+s=18/\s<=16/\Name y/\(0 < s->y=l7 (s - 1))/\∀k,k+1 < s->l7 k∈zs) 18 rfl rfl ∅ #[0,y,rfl,rfl,rfl,∅,hy,λh=>absurd h ∅,λk h=>absurd h ∅] ?_
 rintro mm Z S' ⟨s,y',rfl,rfl,hm,hs,hy',hc1,hc2⟩;dsimp only[wT,wE,wV,wG];show ab (wa e) #[λhin=>?_,λhout=>k _ _ hy' (LX hout)]
 have all:∀k,k < s->l7 k∈zs:=λk hk=>by
  by_cases h:k+1 < s
  ·exact hc2 k h
  ·have e:k=s - 1:=∅
   rw[e,<- hc1 ∅]; exact Kt hin
 have hs15:s<=15:=by
  have h7:=gl ((JW s).map l7) zs (qF s) λx hx=>by
   obtain⟨k,hk,rfl⟩:=JF.mp hx;exact all k (JT.mp hk)
  rw[Jp,J9]at h7;omega
 show#[mm - 1,∅,λQ2 hn _=>?_]
 have em:((s:JI) % 26)=s:=Int.emod_eq_of_lt ∅ ∅
 have ed:((s:JI) / 26)=0:=Int.ediv_eq_zero_of_lt ∅ ∅
 show st ?_;dsimp only[wS,wE,wV,wG,JG];show ab (i4 #v[]) ?_
 rw[em];show ab (CS (i:=(s:JI)) uE (JN s) (zd #[s,∅])) ?_
 have e2:fT .fdiv (.int s) (.int 26) S'=ba (.int 0,S'):=by rw[iA ∅ ∅,ed]
 dsimp only;rw[e2];dsimp only[cQ,aF];rw[show(1:JI)+0=1 from rfl]
 show ab Ez ?_;show st ?_;dsimp only[wS,wE,wV,wG,JG,cQ,aF];exact bA (hn _ _ #[s+1,l7 s,rfl,rfl,∅,∅,v8 ∅,λ_=>rfl,λk hk=>all k ∅])
def B9 (hfu:20 < fuel)(G:Gen defs){m:Jx}(hf:Fl S r)(h1:m<=6)(k:∀(ys:Jn JS) S',ys.length=m->(∀y∈ys,Name y)->(iD++ys).Nodup->Fl S' r->Kp r S S'->Q (.tup (ys.map W.str),S')) :
  wO (aP (am defs fuel (d+4)) "_law_names" 2 [.ref r,.int m] S) Q:=by
 show ay G.names rfl rfl λQ' hR=>?_
 replace k:∀(ys:Jn JS) S',ys.length=m->(∀y∈ys,Name y)->(iD++ys).Nodup->Fl S' r->Kp r S S'->Q' (.rt (.tup (ys.map W.str)),S'):=λz S' a b c e f=>hR _ _ (k z S' a b c e f)
 clear hR;change wZ _ _ cR [ba (.ref r),ba (.int m),gV,gV,gV,gV,gV] S Q';have bw:∀(z:JS) (S2:aa),z.cps.toList.length<=6->uF z->Fl S2 r->Kp r S S2->wZ (am defs fuel (d+3)) fuel (dr 2 cR) [ba (.ref r),ba (.int m),ba (.str z),gV,gV,gV,gV] S2 Q':=by
  intro z S2 hz1 hz2 f2 k2;dsimp only[dr,cR];have hrt:=f2.lt;have hSt:=k2.len;show st ?_;left;nofun
  show bT (m:JI) (λi Z S'=>∃a4 a5 a6 ys,Z=[ba (.ref r),ba (.int m),ba (.str z),ba (.ref S2.length),a4,a5,a6]/\S'[S2.length]?=ba (.lst ((iD++ys).map W.str))/\ys.length=i/\(∀y∈ys,Name y)/\(iD++ys).Nodup/\Fl S' r/\Kp r S S') rfl rfl ∅ ?_ ?_ ?_
  ·dsimp only[wE,wV,wG];exact#[rfl,gV,gV,gV,[],rfl,ag,rfl,λ_ h=>(nomatch h),#v[],f2.ka .push,k2.trans .push]
  ·rintro i Z S3 hi ⟨a4,a5,a6,ys,rfl,e3,hy1,hy2,hy3,f3,k3⟩ Q2 hn _;clear hK;show st ?_;left;show Ey (d:=d) G f3 hz1 hz2 λy S4 hy f4 k4=>?_
   have e4:=k4.get _ _ ∅ e3
   show st ?_;left;show st (B8 hfu hy e4 (by rw[JC,hy1]; show 9+i<=15; omega) λy' s hy' hnot=>?_)
   show st ?_;left;show#[cv e4,jV e4 (by rw[Jp,JC,hy1]; show 9+i < 1000; omega) ?_]
   show bA (hn _ _ #[_,_,_,ys++[y'],rfl,?_,by rw[JC,hy1]; rfl,λx hx=>?_,?_,f4.own hrt,(k3.trans k4).late hSt])
   ·rw[aT e4,<- Lz,J0 (l₁:=iD++ys)]; rfl
   ·rcases Kc.mp hx with h|h
    ·exact hy2 x h
    ·rw[JK.mp h]; exact hy'
   ·rw[<- Lz,M2];show#[hy3,by simp,λa ha b hb e=>?_]
    rw[JK.mp hb]at e;exact hnot (e ▸ ha)
  ·rintro Z S3 ⟨a4,a5,a6,ys,rfl,e3,hy1,hy2,hy3,f3,k3⟩;show hK _ _ (st ?_);dsimp only[wS,wE,wA,wV,wG,wP,wN];have hs:ph (.ref S2.length) (ba 9) gV S3=ba (.ref S3.length,S3++[.lst (ys.map W.str)]):=by
    have:jj ((iD++ys).map W.str) (ba ((9:Jx):JI)) gV=ys.map W.str:=by
     rw[zj,J0];exact RC rfl
    simp only[ph,aq e3];rw[show(ba 9:Jw JI)=ba ((9:Jx):JI)from rfl,this]
   show ab hs (dB ag (k _ _ ?_ hy2 hy3 (f3.ka .push) (k3.trans .push)));rw[hy1]; exact JL m
 dsimp only[cR];show st ?_;dsimp only[wS,wE,JG];nofun
 dsimp only[wS,wT,wE,wA,wV,wG];show aM (d:=d+2) G.pick hf #v[] #v[] λv S1 v0 v1 f1 k1=>?_
 dsimp only[iB,wO,wB];show au (Q0:=Q') (λ_ Q2 hn _=>?_) (λ_ Q2 hn _=>?_)
 ·show st ?_;left;show aM (d:=d+2) G.pick f1 #v[] #v[] λv S2 v0 v1 f2 k2=>?_
  dsimp only[cQ,wO];exact jB (d:=d+1) G f2 ∅ ∅ λz S3 hz hs f3 k3=>bA (hn _ _ (hK _ _ (bw z S3 ∅ hs f3 (k1.trans (k2.trans k3)))))
 ·exact bA (hn _ _ (hK _ _ (bw "" S1 #v[] (λc hc=>nomatch hc) f1 k1)))
end
noncomputable abbrev Pt:=JI×Jn JI
noncomputable abbrev Wd:=Jn Pt
abbrev bh (p:Pt):W:=.tup [.int p.1,.tup (p.2.map W.int)]
abbrev az (u:Wd):W:=.tup (u.map bh)
abbrev eD (p:Pt):T:=.tup [.int p.1,.tup (p.2.map T.int)]
abbrev bC (u:Wd):T:=.tup (u.map eD)
def uH:∀xs:Jn JI,T.ws (xs.map T.int)=xs.map W.int
 | []=>rfl
 | x::xs=>by simp[T.ws,T.w,uH xs]
def GM (p:Pt):(eD p).w=bh p:=by simp[eD,bh,T.w,T.ws,uH]
def sE:∀u:Wd,T.ws (u.map eD)=u.map bh
 | []=>rfl
 | p::u=>by simp[T.ws,GM,sE u]
def zm (u:Wd):(bC u).w=az u:=by simp[bC,az,T.w,sE]
def GN (u:Wd):W.t (az u)=ba (bC u):=by rw[<- zm]; exact T.w_t _
def sF:∀us:Jn Wd,T.ws (us.map bC)=us.map az
 | []=>rfl
 | u::us=>by simp[T.ws,zm,sF us]
def zo (us:Jn Wd):W.ts (us.map az)=ba (us.map bC):=by rw[<- sF]; exact T.ws_ts _
def lz:∀xs:Jn JI,T.depths (xs.map T.int)=0
 | []=>rfl
 | x::xs=>by simp[T.depths,T.depth,lz xs]
def zp (p:Pt):(eD p).depth=2:=by simp[eD,T.depth,T.depths,lz]
def gH:∀u:Wd,T.depths (u.map eD)<=2
 | []=>by simp[T.depths]
 | p::u=>by
  have:=gH u;simp only[KO,T.depths,zp]; omega
def lA (u:Wd):(bC u).depth<=3:=by
 have:=gH u;simp only[bC,T.depth]; omega
def gI:∀us:Jn Wd,T.depths (us.map bC)<=3
 | []=>by simp[T.depths]
 | u::us=>by
  have:=gI us;have:=lA u;simp only[KO,T.depths]; omega
def oH (u:Wd):gS (az u)=ba (bC u):=by
 unfold gS;rw[GN];show(if (bC u).isTup=true/\(bC u).depth<=aA then _ else _)=_
 rw[JX #[rfl,by have:=lA u; unfold aA; omega]]
mutual
def qG:T->T->J3
 | .int _,.int _=>true
 | .str _,.str _=>true
 | .tup xs,.tup ys=>i7 xs ys
 | _,_=>false
def i7:Jn T->Jn T->J3
 | [],_=>true
 | _,[]=>true
 | x::xs,y::ys=>qG x y&&i7 xs ys
end
mutual
theorem sG:∀x y:T,qG x y=true->(gT x y).isSome=true
 | .int _,.int _,_=>rfl
 | .str _,.str _,_=>rfl
 | .tup xs,.tup ys,h=>by
  dsimp only[qG]at h;dsimp only[gT];exact uI xs ys h
 | .int _,.str _,h|.int _,.tup _,h|.str _,.int _,h|.str _,.tup _,h|.tup _,.int _,h|.tup _,.str _,h=>by cases h
theorem uI:∀xs ys:Jn T,i7 xs ys=true->(bY xs ys).isSome=true
 | [],[],_=>rfl
 | [],_::_,_=>rfl
 | _::_,[],_=>rfl
 | x::xs,y::ys,h=>by
  dsimp only[i7]at h; simp only[Jv]at h
  dsimp only[bY];split
  ·exact uI xs ys h.2
  ·exact sG x y h.1
end
def qH:∀xs ys:Jn JI,i7 (xs.map T.int) (ys.map T.int)=true
 | [],_=>rfl
 | _::_,[]=>rfl
 | x::xs,y::ys=>by dsimp only[SX,i7,qG]; simp[qH xs ys]
def zq (p q:Pt):qG (eD p) (eD q)=true:=by dsimp only[eD,qG,i7]; simp[qH]
def uJ:∀u v:Wd,i7 (u.map eD) (v.map eD)=true
 | [],_=>rfl
 | _::_,[]=>rfl
 | p::u,q::v=>by dsimp only[SX,i7]; simp[zq,uJ u v]
def EA (u v:Wd):qG (bC u) (bC v)=true:=by dsimp only[bC,qG]; exact uJ _ _
def gJ (us:Jn Wd):eM (us.map bC)=true:=by
 unfold eM;rw[JQ];intro x hx;obtain⟨u,_,rfl⟩:=JF.mp hx;rw[JQ];intro y hy;obtain⟨v,_,rfl⟩:=JF.mp hy;exact sG _ _ (EA u v)
def zr (us:Jn Wd)(h:∀u∈us,u≠[]):(rG (us.map bC)).isSome=true:=by
 unfold rG;split
 ·rfl
 ·split
  ·rfl
  ·split
   ·rfl
   ·split
    ·rfl
    ·split
     ·rfl
     ·rename_i h5;exfalso;apply h5;rw[JQ];intro x hx;obtain⟨u,hu,rfl⟩:=JF.mp hx;cases u with
      | nil=>exact absurd rfl (h [] hu)
      | cons p u=>rfl
abbrev bO (bs:Jn JI)(u:Wd)(i j:Jx):JI:=if j < i then((u.getD i (0,[])).2).getD j 0 else bs.getD (((u.getD j (0,[])).2).getD i 0).toNat 0
abbrev ah (bs:Jn JI)(u:Wd)(ps:Jn Jx):Wd:=(JW ps.length).map λk=>((u.getD (ps.getD k 0) (0,[])).1,(ps.take k).map λj=>bO bs u (ps.getD k 0) j)
abbrev ar:Jn (Jn Jx):=[[0,1,2],[0,2,1],[1,0,2],[1,2,0],[2,0,1],[2,1,0]]
abbrev jC (bs:Jn JI)(u:Wd):Wd:=(ar.map (ah bs u)).getD (ip ((ar.map (ah bs u)).map bC)) []
abbrev aQ (n:JS)(b:JI):W:=.tup [.str n,.int b]
structure GoodW (a n:Jx)(u:Wd):Prop where
 mark:∀(k:Jx) (p:Pt),u[k]?=ba p->0<=p.1/\p.1 < a
 len:∀(k:Jx) (p:Pt),u[k]?=ba p->p.2.length=k
 way:∀(k:Jx) (p:Pt),u[k]?=ba p->∀w∈p.2,0<=w/\w < n
abbrev GoodB (bs:Jn JI):Prop:=bs=[0]\/bs=[0,1]\/bs=[1,0]\/bs=[0,1,2]\/bs=[1,0,2]\/bs=[0,2,1]
def GoodB.rng {bs:Jn JI}(h:GoodB bs):∀k:Jx,k < bs.length->∃b:JI,bs[k]?=ba b/\0<=b/\b < bs.length:=by
 rcases h with rfl|rfl|rfl|rfl|rfl|rfl <;> intro k hk
 ·match k,hk with
  | 0,_=>exact#[0,rfl,#v[],#v[]]
 ·match k,hk with
  | 0,_=>exact#[0,rfl,#v[],#v[]]
  | 1,_=>exact#[1,rfl,#v[],#v[]]
 ·match k,hk with
  | 0,_=>exact#[1,rfl,#v[],#v[]]
  | 1,_=>exact#[0,rfl,#v[],#v[]]
 ·match k,hk with
  | 0,_=>exact#[0,rfl,#v[],#v[]]
  | 1,_=>exact#[1,rfl,#v[],#v[]]
  | 2,_=>exact#[2,rfl,#v[],#v[]]
 ·match k,hk with
  | 0,_=>exact#[1,rfl,#v[],#v[]]
  | 1,_=>exact#[0,rfl,#v[],#v[]]
  | 2,_=>exact#[2,rfl,#v[],#v[]]
 ·match k,hk with
  | 0,_=>exact#[0,rfl,#v[],#v[]]
  | 1,_=>exact#[2,rfl,#v[],#v[]]
  | 2,_=>exact#[1,rfl,#v[],#v[]]
def getD_some {α:Type}{xs:Jn α}{i:Jx}{x d:α}(h:xs[i]?=ba x):xs.getD i d=x:=by simp[h]
def ap {α:Type}{xs:Jn α}{i:Jx}{d:α}(h:i < xs.length):xs[i]?=ba (xs.getD i d):=by simp[h]
def oJ {ns:Jn JS}{bs:Jn JI}{k:Jx}{n:JS}{b:JI}(h1:ns[k]?=ba n)(h2:bs[k]?=ba b):(JV aQ ns bs)[k]?=ba (aQ n b):=by
 rw[PC,h1,h2]
abbrev aj (ps:Jn Jx):Jn W:=ps.map λ(p:Jx)=>W.int (p:JI)
def kn {ps:Jn Jx}{k p:Jx}(h:ps[k]?=ba p):(aj ps)[k]?=ba (.int p):=by simp[aj,h]
def aD (bs:Jn JI)(u:Wd)(ps:Jn Jx):(ah bs u ps).length=ps.length:=by unfold ah; rw[Jp,J9]
def ey {u:Wd}{i:Jx}(hi:i < u.length):(u.map bh)[((i:Jx):JI).toNat]?=ba (bh (u.getD i (0,[]))):=by
 rw[JL,JB,ap hi]; rfl
section
variable{defs:Jn (JS×Df)}{fuel d:Jx}{S:aa}{r:Jx}{Q:QW}
def zt {M:JS->FF}{m0 b0:W}{ns:Jn JS}{bs:Jn JI}{a:Jx}{u:Wd}{i j:Jx}{Q:QO}(hb:GoodB bs)(hl:ns.length=bs.length)(hu:GoodW a bs.length u)(hi:i < u.length)(hj:j < u.length)(hij:i≠j)(k:Q (.rt (.int (bO bs u i j)),S)) :
  wZ M fuel dq [ba (.tup [m0,.tup (JV aQ ns bs),b0]),ba (az u),ba (.int i),ba (.int j)] S Q:=by
 have hpi:=ap (d:=(0,[])) hi;have hpj:=ap (d:=(0,[])) hj;unfold bO at k;dsimp only[dq];nofun
 dsimp only[wS,wT,wE,wV,wG,v4,wO,wB,az];show au (Q0:=Q) (λh Q2 _ hr=>?_) (λh Q2 hn _=>?_)
 ·have hji:j < i:=by have:=Kt h; omega
  rw[JX hji]at k;have hw:j < (u.getD i (0,[])).2.length:=by rw[hu.len i _ hpi]; exact hji
  show st ?_;dsimp only[wS,wE,wV,wG];show ak (JN i) (ey hi) (ak #v[] rfl (ak (JN j) ?_ (hr _ _ k)))
  rw[JL,JB,ap (d:=0) hw]; rfl
 ·have hji:¬ j < i:=by have:=LX h; omega
  rw[J8 hji]at k;show bA (hn _ _ (hK _ _ ?_));clear hn hK;have hw:i < (u.getD j (0,[])).2.length:=by rw[hu.len j _ hpj]; omega
  have hg:=ap (d:=0) hw;obtain⟨g1,g2⟩:=hu.way j _ hpj _ (JJ hg);obtain⟨b,hb1,hb2,hb3⟩:=hb.rng ((u.getD j (0,[])).2.getD i 0).toNat ∅
  have hn:((u.getD j (0,[])).2.getD i 0).toNat < ns.length:=∅
  rw[getD_some hb1]at k;show st ?_;dsimp only[wS,wE,wV,wG];show ak #v[] rfl (ak (JN j) (ey hj) (ak #v[] rfl (ak (JN i) ?_ (ak g1 (oJ (Jy hn) hb1) (ak #v[] rfl k)))))
  rw[JL,JB,hg]; rfl
def wb (G:Gen defs){m0 b0:W}{ns:Jn JS}{bs:Jn JI}{a:Jx}{u:Wd}{i j:Jx}(hb:GoodB bs)(hl:ns.length=bs.length)(hu:GoodW a bs.length u)(hi:i < u.length)(hj:j < u.length)(hij:i≠j)(k:Q (.int (bO bs u i j),S)) :
  wO (aP (am defs fuel (d+1)) "_law_between" 4 [.tup [m0,.tup (JV aQ ns bs),b0],az u,.int i,.int j] S) Q:=
 ay G.between rfl rfl λQ' hR=>zt hb hl hu hi hj hij (hR _ _ k)
def zu (G:Gen defs){m0 b0:W}{ns:Jn JS}{bs:Jn JI}{a:Jx}{u:Wd}{ps:Jn Jx}(hb:GoodB bs)(hl:ns.length=bs.length)(hu:GoodW a bs.length u)(hps:∀p∈ps,p < u.length)(hnd:ps.Nodup)(hsz:ps.length < 1000)(k:∀S',Ka S S'->Q (az (ah bs u ps),S')) :
  wO (aP (am defs fuel (d+2)) "_law_part" 3 [.tup [m0,.tup (JV aQ ns bs),b0],az u,.tup (aj ps)] S) Q:=by
 show ay G.part rfl rfl λQ' hR=>?_
 replace k:∀S',Ka S S'->Q' (.rt (az (ah bs u ps)),S'):=λS' a=>hR _ _ (k S' a)
 clear hR;change wZ _ _ fJ [ba (.tup [m0,.tup (JV aQ ns bs),b0]),ba (az u),ba (.tup (aj ps)),gV,gV,gV] S Q';generalize hR0:W.tup [m0,.tup (JV aQ ns bs),b0]=R;dsimp only[fJ];show st ?_;dsimp only[wS,wE,wA,JG];nofun
 have nl:(aj ps).length=ps.length:=Jp ..;show bT (ps.length:JI) (λk Z S'=>∃a4 a5,Z=[ba R,ba (az u),ba (.tup (aj ps)),ba (.ref S.length),a4,a5]/\S'[S.length]?=ba (.lst (((ah bs u ps).take k).map bh))/\Ka S S') rfl rfl ∅ ?_ ?_ ?_
 ·dsimp only[wE,wA,wV,wG];show aN ?_;rw[nl];exact#[rfl,gV,gV,rfl,ag,.push]
 ·rintro i Z S1 hi ⟨a4,a5,rfl,e1,k1⟩ Q2 hn _;clear hK;have hi':i < ps.length:=∅
  have hp:ps[i]?=ba ps[i]:=Jy hi';have hpu:ps[i] < u.length:=hps _ (Kd hi');show st ?_;dsimp only[wS,wE,wV,wG,JG];show ak (JN i) (by rw[JL]; exact kn hp) ?_
  show st ?_;left;show#[cv e1,ak (JN _) (ey hpu) (ak #v[] rfl ?_)]
  show uC (aj (ps.take i)) (λj ys Z2 S2=>(∃a1,Z2=[gV,a1,ba (.int ps[i]),ba R,ba (az u)])/\ys=((ps.take i).take j).map (λq=>W.int (bO bs u ps[i] q))/\Ka S1 S2) rfl rfl rfl ?_ ?_ ?_
  ·dsimp only[wE,wP,wV,wG,wN];show ab (a:=(.tup (aj (ps.take i)),S1)) ?_ #[rfl,#[gV,rfl],rfl,.refl];simp only[ph,gm];unfold aj;rw[Nu]
  ·rintro j w ys Z2 S2 hw ⟨⟨a1,rfl⟩,rfl,k2⟩;have hjl:j < (ps.take i).length:=by
    have:=(JD.mp hw).1;unfold aj at this
    rwa [Jp]at this
   have hq:(ps.take i)[j]?=ba (ps.take i)[j]:=Jy hjl;cases(kn hq).symm.trans hw;have hj:j < i:=by rw[Kn]at hjl; omega
   have eq:(ps.take i)[j]=ps[j]'∅:=NP
   generalize(ps.take i)[j]=q at hq eq ⊢;show ab (show fZ (.nm 1) (.int (q:JI)) [gV,a1,ba (.int ps[i]),ba R,ba (az u)] S2=ba ([gV,ba (.int (q:JI)),ba (.int ps[i]),ba R,ba (az u)],S2)from rfl) ?_
   dsimp only[fP,wC,wE,wA,wV,wG];subst hR0;show#[λ_=>wb (d:=d) G hb hl hu hpu (by rw[eq]; exact hps _ (Kd _)) ?_ #[#[_,rfl],?_,k2],λz=>by cases z]
   ·rw[eq];intro h;have:=(LJ hnd).mp h;omega
   ·rw[Kj,hq];simp
  ·rintro ys Z2 S2 ⟨_,rfl,k2⟩;rw[show(aj (ps.take i)).length=(ps.take i).length from Jp ..,Kx]
   show#[j5 (by rw[Jp,Kn]; omega),dB ag ?_]
   have e2:=al (u:=O.lst ((ps.take i).map λq=>W.int (bO bs u ps[i] q))) (k2.get _ _ e1)
   show jV e2 (by rw[Jp,Kn]; omega) (bA (hn _ _ #[_,_,rfl,?_,((k1.trans k2).trans .push).late (JA _)]))
   rw[aT e2];have ep:(ah bs u ps)[i]?=ba ((u.getD ps[i] (0,[])).1,(ps.take i).map λq=>bO bs u ps[i] q):=by
    unfold ah;rw[JB,LQ hi',Kg,getD_some hp]
   rw[Kj,ep];simp[bh,QM]
 ·rintro Z S1 ⟨a4,a5,rfl,e1,k1⟩;rw[JL,<- aD bs u ps,Kx]at e1;show hK _ _ (st ?_);left;exact dB e1 (k _ k1)
def ko (G:Gen defs)(k:Q (.ref S.length,S++[.lst (ar.map λt=>W.tup (aj t))])):wO (aP (am defs fuel (d+1)) "_law_turns" 0 [] S) Q:=by
 show ay G.turns rfl rfl λQ' hR=>?_
 dsimp only[gk];show st ?_;dsimp only[wS,wE,wA];exact hR _ _ k
def de (bt:Jx->Jx->J3):∀n:Jx,argBest bt n<=n
 | 0=>JA _
 | n+1=>by have:=de bt n; simp only[argBest]; split <;> omega
def i8 (G:Gen defs){m0 b0:W}{ns:Jn JS}{bs:Jn JI}{a:Jx}{u:Wd}(hb:GoodB bs)(hl:ns.length=bs.length)(hu:GoodW a bs.length u)(h3:u.length=3)(k:∀S',Ka S S'->Q (az (jC bs u),S')) :
  wO (aP (am defs fuel (d+3)) "_law_figure" 2 [.tup [m0,.tup (JV aQ ns bs),b0],az u] S) Q:=by
 show ay G.figure rfl rfl λQ' hR=>?_
 replace k:∀S',Ka S S'->Q' (.rt (az (jC bs u)),S'):=λS' a=>hR _ _ (k S' a)
 clear hR;change wZ _ _ dQ [ba (.tup [m0,.tup (JV aQ ns bs),b0]),ba (az u)] S Q';generalize hR0:W.tup [m0,.tup (JV aQ ns bs),b0]=R;dsimp only[dQ];show st ?_;dsimp only[wS,wE,wA];show uD S.length (ar.map λt=>W.tup (aj t)) (λi ys Z2 S2=>(∃a1,Z2=[gV,a1,ba R,ba (az u)])/\ys=((ar.take i).map λt=>az (ah bs u t))/\Ka (S++[.lst (ar.map λt=>W.tup (aj t))]) S2) rfl rfl rfl ?_ ?_ ?_ ?_
 ·dsimp only[wE,wA];exact ko (d:=d+1) G #[rfl,#[gV,rfl],rfl,.refl]
 ·rintro i ys Z2 S2 ⟨_,_,k2⟩;exact k2.get _ _ ag
 ·rintro i w ys Z2 S2 hw ⟨⟨a1,rfl⟩,rfl,k2⟩;rw[JB,Js]at hw;obtain⟨t,ht,rfl⟩:=hw;have ht3:(∀p∈t,p < 3)/\t.Nodup/\t.length < 1000:=by
   have:∀t∈ar,(∀p∈t,p < 3)/\t.Nodup/\t.length < 1000:=by decide
   exact this t (JJ ht)
  show ab (show fZ (.nm 1) (.tup (aj t)) [gV,a1,ba R,ba (az u)] S2=ba ([gV,ba (.tup (aj t)),ba R,ba (az u)],S2)from rfl) ?_
  dsimp only[fP,wC,wE,wA,wV,wG];subst hR0;show#[λ_=>zu (d:=d) G hb hl hu (λp hp=>by rw[h3]; exact ht3.1 p hp) ht3.2.1 ht3.2.2 λS3 k3=>#[#[_,rfl],?_,k2.trans k3],λz=>by cases z]
  rw[Kj,ht];simp
 ·rintro ys Z2 S2 ⟨_,rfl,k2⟩;have e:((ar.take (ar.map λt=>W.tup (aj t)).length).map λt=>az (ah bs u t))=(ar.map (ah bs u)).map az:=by
   rw[Jp,Kx,La]; rfl
  rw[e];show#[i6 rfl,ab (a:=(az (jC bs u),S2++[.lst ((ar.map (ah bs u)).map az)])) ?_ (k _ ((Ka.push.trans k2).trans .push))]
  (dsimp only[Bi.fn,xZ]; simp only[aq ag,zo])
  rw[JX #[by have:=gI (ar.map (ah bs u)); unfold bP; omega,gJ _]]
  unfold jC;have hlt:ip ((ar.map (ah bs u)).map bC) < (ar.map (ah bs u)).length:=NA (de _ _) (by decide:5 < 6)
  rw[JB,ap (d:=[]) hlt];rfl
end
abbrev ae (xs:Jn JI):Jn W:=xs.map W.int
abbrev cr (us:Jn Wd):Jn Wd:=c9 (kS (us.map bC)) [] us
def i9 {α β:Type}{lt:Jx->Jx->J3}{d:α}{d':β}{f:α->β}{us:Jn α}:c9 lt d' (us.map f)=(c9 lt d us).map f:=by
 unfold c9;rw[Jp];split
 ·rfl
 ·rw[La];show KG λi hi=>?_
  have hl:i < us.length:=kj ∅ i hi
  simp[hl]
def sH {S:aa}{x:W}{us:Jn Wd}(h:da S x=ba (us.map az))(h64:us.length < 64)(hne:∀u∈us,u≠[]):dO [x] S=ba (.ref S.length,S++[.lst ((cr us).map az)]):=by
 have ok:fG (us.map bC)=true:=by
  unfold fG;simp only[Jv,Lk,JU,Jp];exact#[#[h64,by have:=gI us; unfold bP; omega],.inr #[zr us hne,gJ us]]
 simp only[dO,h,zo];rw[JX ok,i9 (d:=[])];rfl
abbrev dL (ms ns:Jn JS)(bs:Jn JI)(us:Jn Wd):W:=.tup [.tup (ms.map W.str),.tup (JV aQ ns bs),.tup (us.map az)]
structure GoodN (ms ns:Jn JS):Prop where
 name:∀y∈ms++ns,Name y
 nd:(iD++(ms++ns)).Nodup
def GoodW.nil {a n:Jx}:GoodW a n []:=#[λk p h=>(by simp at h),λk p h=>(by simp at h),λk p h=>(by simp at h)]
def GoodW.snoc {a n:Jx}{u:Wd}{m:JI}{ws:Jn JI}(h:GoodW a n u)(h1:0<=m/\m < a)(h2:ws.length=u.length)(h3:∀w∈ws,0<=w/\w < (n:JI)):GoodW a n (u++[(m,ws)]):=by
 have key:∀(k:Jx) (p:Pt),(u++[(m,ws)])[k]?=ba p->u[k]?=ba p\/(k=u.length/\p=(m,ws)):=λk p e=>by
  rcases Nat.lt_or_ge k u.length with hk|hk
  ·rw[Ku hk]at e; exact .inl e
  ·rw[LO hk]at e;have:k - u.length=0:=by
    have:=(JD.mp e).1;simp at this; omega
   rw[this]at e;cases e;exact .inr #[∅,rfl]
 show#[λk p e=>?_,λk p e=>?_,λk p e=>?_] <;> rcases key k p e with e|⟨rfl,rfl⟩
 ·exact h.mark k p e
 ·exact h1
 ·exact h.len k p e
 ·exact h2
 ·exact h.way k p e
 ·exact h3
def GoodB.inv {bs:Jn JI}(h:GoodB bs):∀k:Jx,k < bs.length->bs.getD (bs.getD k 0).toNat 0=k:=by
 rcases h with rfl|rfl|rfl|rfl|rfl|rfl <;> decide
def GoodB.at {bs:Jn JI}(h:GoodB bs){x:JI}(h0:0<=x)(h1:x < bs.length):bs[x.toNat]?=ba (bs.getD x.toNat 0)/\0<=bs.getD x.toNat 0/\bs.getD x.toNat 0 < bs.length:=by
 obtain⟨b,h2,h3⟩:=h.rng x.toNat ∅
 rw[getD_some h2];exact#[h2,h3]
def Cc {S:aa}{x:W}{xs:Jn W}(h:da S x=ba xs):bK [x] S=gV:=by
 cases x with
 | ref i=>
  have e2:DT S i=gV:=by
   unfold DT;cases e:S[i]? with
   | none=>rfl
   | some o=>
    cases o with
    | stt ss=>simp[da,fS,jN,e]at h
    | _=>rfl
  (dsimp only[bK]; simp only[e2])
 | _=>rfl
def zv {S:aa}{x:W}{us:Jn Wd}{Q:QW}(h:da S x=ba (us.map az))(h64:us.length < 64)(hne:∀u∈us,u≠[])(q:Q (.ref S.length,S++[.lst ((cr us).map az)])):wO (Bi.sorted.fn [x] S) Q:=by
 show ab ?_ q;show(match bK [x] S with
  | some r=>ba r
  | none=>dO [x] S)=_
 rw[Cc h];exact sH h h64 hne
abbrev zw:Jn (Jx×Jx):=[(1,1),(2,1),(3,1),(1,2),(1,2),(2,2),(2,2),(3,2),(1,3),(1,3),(2,3)]
def zx:∀p∈zw,1<=p.1/\p.1<=3/\1<=p.2/\p.2<=3/\p.1*p.2<=6:=by decide
abbrev lB:Jx->Jn (Jn JI)
 | 1=>[[0]]
 | 2=>[[0,1],[1,0]]
 | _=>[[0,1,2],[1,0,2],[0,2,1]]
def zy:∀n:Jx,1<=n->n<=3->(∀b∈lB n,GoodB b/\b.length=n)/\0 < (lB n).length/\(lB n).length<=3
 | 1,_,_=>#[λb h=>by cases JK.mp h; exact#[.inl rfl,rfl],#v[],#v[]]
 | 2,_,_=>#[λb h=>by
   rcases JR.mp h with rfl|h
   ·exact#[.inr (.inl rfl),rfl]
   ·cases JK.mp h; exact#[.inr (.inr (.inl rfl)),rfl],#v[],#v[]]
 | 3,_,_=>#[λb h=>by
   rcases JR.mp h with rfl|h
   ·exact#[.inr (.inr (.inr (.inl rfl))),rfl]
   ·rcases JR.mp h with rfl|h
    ·exact#[.inr (.inr (.inr (.inr (.inl rfl)))),rfl]
    ·cases JK.mp h; exact#[.inr (.inr (.inr (.inr (.inr rfl)))),rfl],#v[],#v[]]
 | 0,h,_=>absurd h #v[]
 | n+4,_,h=>absurd h ∅
section
variable{defs:Jn (JS×Df)}{fuel d:Jx}{S:aa}{r:Jx}{Q:QW}
def oK (G:Gen defs)(hf:Fl S r)(k:∀(a n:Jx) S',1<=a->a<=3->1<=n->n<=3->a*n<=6->Fl S' r->Kp r S S'->Q (.tup [.int a,.int n],S')) :
  wO (aP (am defs fuel (d+2)) "_law_sizes" 1 [.ref r] S) Q:=by
 show ay G.sizes rfl rfl λQ' hR=>?_
 change wZ _ _ eO [ba (.ref r),gV] S Q';dsimp only[eO];show st ?_;dsimp only[wS,wE,wA,JG];show st ?_;left;show aM (d:=d) G.pick (hf.ka .push) #v[] #v[] λv S1 v0 v1 f1 k1=>?_
 have e:=k1.get _ _ (Lg hf.lt) ag;obtain⟨p,hp,ep⟩:=lw (f:=λp:Jx×Jx=>W.tup [.int p.1,.int p.2]) (xs:=zw) (i:=v.toNat) (by change v.toNat < 11; omega)
 obtain⟨a1,a3,n1,n3,an⟩:=zx p hp;exact fq e v0 ep (hR _ _ (k _ _ _ a1 a3 n1 n3 an f1 (Kp.push.trans k1)))
def oM (G:Gen defs){n:Jx}(hf:Fl S r)(h1:1<=n)(h3:n<=3)(k:∀(bs:Jn JI) S',GoodB bs->bs.length=n->Fl S' r->Kp r S S'->Q (.tup (ae bs),S')) :
  wO (aP (am defs fuel (d+2)) "_law_backs" 2 [.ref r,.int n] S) Q:=by
 show ay G.backs rfl rfl λQ' hR=>?_
 replace k:∀(bs:Jn JI) S',GoodB bs->bs.length=n->Fl S' r->Kp r S S'->Q' (.rt (.tup (ae bs)),S'):=λz S' a b c e=>hR _ _ (k z S' a b c e)
 clear hR;change wZ _ _ eN [ba (.ref r),ba (.int n),gV] S Q';dsimp only[eN];nofun
 left;dsimp only[qC,aF];obtain⟨hg,g0,g3⟩:=zy n h1 h3;have fin:∀(t:Jx) (S1:aa),S.length<=t->S1[t]?=ba (.lst ((lB n).map λb=>.tup (ae b)))->Ka S S1->K [ba (.ref r),ba (.int n),ba (.ref t)] S1:=by
  intro t S1 ht et ka;show hK _ _ (st ?_);left;show eu et ?_;rw[Jp];show aM (d:=d) G.pick (hf.ka ka) ∅ ∅ λv S2 v0 v1 f2 k2=>?_
  have e2:=k2.get _ _ (by have:=hf.lt; omega) et
  obtain⟨b,hb,eb⟩:=lw (f:=λb:Jn JI=>W.tup (ae b)) (xs:=lB n) (i:=v.toNat) ∅
  exact fq e2 v0 eb (k b S2 (hg b hb).1 (hg b hb).2 f2 ((ka.kp r).trans k2))
 clear hK g0 g3 hg;rcases(show n=1\/n=2\/n=3 by omega)with rfl|rfl|rfl
 ·exact eF (i:=0) ag rfl (fin _ _ (JA _) (al (al (al ag))) (Ka.push.trans (Ka.push.trans (Ka.push.trans .push))))
 ·exact eF (i:=1) ag rfl (fin _ _ (by simp) (al (al ag)) (Ka.push.trans (Ka.push.trans (Ka.push.trans .push))))
 ·exact eF (i:=2) ag rfl (fin _ _ (by simp only[JC]; omega) (al ag) (Ka.push.trans (Ka.push.trans (Ka.push.trans .push))))
def nh (hfu:20 < fuel)(G:Gen defs){a:Jx}{bs:Jn JI}{x:W}{us:Jn Wd}(hf:Fl S r)(ha:a<=3)(hb:bs.length<=3)(hx:∀S',Kp r S S'->da S' x=ba (us.map az))(h64:us.length < 64)(hne:∀u∈us,u≠[])
  (k:∀(ms ns:Jn JS) S',ms.length=a->ns.length=bs.length->GoodN ms ns->Fl S' r->Kp r S S'->Q (dL ms ns bs (cr us),S')) :
  wO (aP (am defs fuel (d+5)) "_law_rule_of" 4 [.ref r,.int a,.tup (ae bs),x] S) Q:=by
 show ay G.rule_of rfl rfl λQ' hR=>?_
 replace k:∀(ms ns:Jn JS) S',ms.length=a->ns.length=bs.length->GoodN ms ns->Fl S' r->Kp r S S'->Q' (.rt (dL ms ns bs (cr us)),S'):=λz y S' a b c e f=>hR _ _ (k z y S' a b c e f)
 clear hR;change wZ _ _ dt [ba (.ref r),ba (.int a),ba (.tup (ae bs)),ba x,gV,gV] S Q';have hbl:(ae bs).length=bs.length:=Jp ..;dsimp only[dt];nofun
 left;show aN ?_;rw[hbl];dsimp only[cQ,aF];show B9 (d:=d) (m:=a+bs.length) hfu G hf ∅ λys S1 q2 q3 q4 f1 k1=>hK _ _ ?_
 clear hK K;have hzl:(JV aQ (ys.drop a) bs).length=bs.length:=by
  rw[LR,Nc]; omega
 nofun
 dsimp only[wS,wE,wA,JG];show dj (bs.length:JI) (λk zs Z2 S2=>(∃a1,Z2=[gV,a1,ba (.tup (ae bs)),ba (.int a),ba (.tup (ys.map W.str))])/\zs=((JV aQ (ys.drop a) bs).take k)/\S2=S1) rfl rfl rfl ∅ ?_ ?_ ?_
 ·dsimp only[wE,wA,wV,wG];show aN ?_;rw[hbl];exact#[rfl,#[gV,rfl],rfl,rfl]
 ·rintro i zs Z2 S2 hi ⟨⟨a1,rfl⟩,rfl,rfl⟩;clear hK;have hi':i < bs.length:=∅
  have h1:a+i < ys.length:=∅
  dsimp only[fP,wC,wE,wA,wV,wG,JG,cQ,aF];show#[λ_=>ak ∅ (w:=.str ys[a+i]) ?_ (ak ∅ (w:=.int bs[i]) ?_ #[#[_,rfl],?_,rfl]),λz=>by cases z]
  ·rw[show((a:JI)+(i:JI)).toNat=a+i by omega,JB,Jy h1]; rfl
  ·unfold ae;rw[JL,JB,Jy hi']; rfl
  ·have ez:(JV aQ (ys.drop a) bs)[i]?=ba (aQ ys[a+i] bs[i]):=oJ (by rw[List.getElem?_drop]; exact Jy h1) (Jy hi')
   rw[Kj,ez];rfl
 ·rintro zs Z2 S2 ⟨_,rfl,rfl⟩;rw[JL,<- hzl,Kx];show#[j5 ∅,dB ag (hK _ _ ?_)]
  clear hK K;show st ?_;dsimp only[wS,wE,wA,wP,wV,wG,wN];have hs:ph (.tup (ys.map W.str)) gV (ba (a:JI)) (S2++[O.lst (JV aQ (ys.drop a) bs)])=ba (.tup ((ys.take a).map W.str),S2++[O.lst (JV aQ (ys.drop a) bs)]):=by
   simp only[ph,gm];rw[Nu]
  show ab hs (zv (hx _ (k1.trans .push)) h64 hne (dB ag ?_));show k (ys.take a) (ys.drop a) _ ?_ ?_ #[?_,?_] ((f1.ka .push).ka .push) (k1.trans (Kp.push.trans .push))
  ·rw[Kn]; omega
  ·rw[Nc]; omega
  ·rw[NT]; exact q3
  ·rw[NT]; exact q4
def fL (hfu:20 < fuel)(G:Gen defs){a:Jx}{bs:Jn JI}(hf:Fl S r)(ha:a<=3)(hb:bs.length<=3)
  (k:∀(ms ns:Jn JS) S',ms.length=a->ns.length=bs.length->GoodN ms ns->Fl S' r->Kp r S S'->Q (dL ms ns bs [],S')) :
  wO (aP (am defs fuel (d+5)) "_law_rule_of" 4 [.ref r,.int a,.tup (ae bs),.tup []] S) Q:=
 nh hfu G hf ha hb (us:=[]) (λ_ _=>rfl) #v[] (λ_ h=>nomatch h) k
def draws {M:JS->FF}{Z:Fm}{elt e:E}{cap:Jn (Jw Jx)}{n i:Jx}{R:Fm}(oe:dA elt=true)(oi:dA e=true)(h1:i<=1000)(hc:eg cap Z=gV::gV::R)(hf:Fl S r)(he:∀Q:QW,Q (.int i,S)->wE M e Z S Q)
  (hp:∀(a:Jw W) (S1:aa) (Q:QW),Fl S1 r->(∀v S',0<=v->v < (n:JI)->Fl S' r->Kp r S1 S'->Q (.int v,S'))->wE M elt (gV::a::R) S1 Q)
  (k:∀(vs:Jn JI) S',vs.length=i->(∀w∈vs,0<=w/\w < (n:JI))->Fl S' r->Kp r S S'->Q (.ref S'.length,S'++[.lst (ae vs)])) :
  Wp (aB M (.comp elt (.nm 1) (.rng #v[e]) .nil cap) Z S) Q:=by
 show dj (i:JI) (λj ys Z2 S3=>(∃a1,Z2=gV::a1::R)/\(∃vs:Jn JI,ys=ae vs/\vs.length=j/\∀w∈vs,0<=w/\w < (n:JI))/\Fl S3 r/\Kp r S S3) oi oe rfl ∅ (he _ #[rfl,#[gV,hc],#[[],rfl,rfl,λ_ h=>nomatch h],hf,.refl]) ?_ ?_
 ·rintro j ys Z2 S3 hj ⟨⟨a1,rfl⟩,⟨vs,rfl,hvl,hv⟩,f3,k3⟩;show#[λ_=>hp _ _ _ f3 λv S4 v0 v1 f4 k4=>#[#[_,rfl],#[vs++[v],(J0 (l₁:=vs) (l₂:=[v])).symm,by rw[JC,hvl]; rfl,λw hw=>?_],f4,k3.trans k4],λz=>by cases z]
  rcases Kc.mp hw with h|h
  ·exact hv w h
  ·rw[JK.mp h]; exact#[v0,v1]
 ·rintro ys Z2 S3 ⟨_,⟨vs,rfl,hvl,hv⟩,f3,k3⟩;rw[JL]at hvl;exact#[j5 (by rw[show(ae vs).length=vs.length from Jp ..]; omega),k vs S3 hvl hv f3 k3]
def ja (G:Gen defs){a n:Jx}(hf:Fl S r)(ha:0 < a)(ha3:a<=3)(hn:0 < n)(hn3:n<=3)(k:∀(u:Wd) S',u.length=3->GoodW a n u->Fl S' r->Kp r S S'->Q (az u,S')) :
  wO (aP (am defs fuel (d+2)) "_law_free_three" 3 [.ref r,.int a,.int n] S) Q:=by
 show ay G.free_three rfl rfl λQ' hR=>?_
 replace k:∀(u:Wd) S',u.length=3->GoodW a n u->Fl S' r->Kp r S S'->Q' (.rt (az u),S'):=λz S' a b c e=>hR _ _ (k z S' a b c e)
 clear hR;change wZ _ _ cj [ba (.ref r),ba (.int a),ba (.int n),gV,gV] S Q';dsimp only[cj];have hrt:=hf.lt;show st ?_;dsimp only[wS,wE,wA,JG];nofun
 show bT 3 (λk Z S'=>∃a4 u,Z=[ba (.ref r),ba (.int a),ba (.int n),ba (.ref S.length),a4]/\S'[S.length]?=ba (.lst (u.map bh))/\u.length=k/\GoodW a n u/\Fl S' r/\Kp r S S') rfl rfl #v[] #[rfl,gV,[],rfl,ag,rfl,.nil,hf.ka .push,.push] ?_ ?_
 ·rintro i Z S1 hi ⟨a4,u,rfl,e1,hul,hu,f1,k1⟩ Q2 hn' _;clear hK;show st ?_;left;show#[cv e1,aM (d:=d) G.pick f1 ∅ ∅ λv S2 v0 v1 f2 k2=>?_]
  have e2:=k2.get _ _ ∅ e1
  show draws (n:=n) (i:=i) (R:=[ba (.ref r),ba (.int n)]) rfl rfl ∅ rfl f2 (λQ q=>q) (λa S1 Q f q=>aM (d:=d) G.pick f ∅ ∅ q) λvs S3 hvl hv f3 k3=>?_
  have e3:=al (u:=O.lst (ae vs)) (k3.get _ _ ∅ e2)
  show dB ag (jV e3 (by rw[Jp]; omega) (bA (hn' _ _ #[_,u++[(v,vs)],rfl,?_,by rw[JC,hul]; rfl,hu.snoc #[v0,v1] (hvl.trans hul.symm) hv,(f3.ka .push).own hrt,(k1.trans (k2.trans (k3.trans .push))).late (JA _)])))
  rw[aT e3,J0]; rfl
 ·rintro Z S1 ⟨a4,u,rfl,e1,hul,hu,f1,k1⟩;show hK _ _ (st ?_);left;exact dB e1 (k u _ hul hu f1 k1)
def qI (G:Gen defs)(hg:Is defs ("_law_any_world" : JS) 3 6 bL){a:Jx}{bs:Jn JI}{ms ns:Jn JS}{b0:W}{many:Jx}(hf:Fl S r)(ha:0 < a)(ha3:a<=3)(hb:GoodB bs)(hml:ms.length=a)(hnl:ns.length=bs.length)(hm:many<=999)(k:∀(u:Wd) S',u.length=many->GoodW a bs.length u->Fl S' r->Kp r S S'->Q (az u,S')) :
  wO (aP (am defs fuel (d+2)) "_law_any_world" 3 [.ref r,.tup [.tup (ms.map W.str),.tup (JV aQ ns bs),b0],.int many] S) Q:=by
 show ay hg rfl rfl λQ' hR=>?_
 replace k:∀(u:Wd) S',u.length=many->GoodW a bs.length u->Fl S' r->Kp r S S'->Q' (.rt (az u),S'):=λz S' a b c e=>hR _ _ (k z S' a b c e)
 clear hR;have hb1:1<=bs.length/\bs.length<=3:=by rcases hb with rfl|rfl|rfl|rfl|rfl|rfl <;> decide
 have hzl:(JV aQ ns bs).length=bs.length:=by rw[LR]; omega
 have hmm:(ms.map W.str).length=a:=by rw[Jp,hml]
 generalize ms.map W.str=tv at hmm;generalize JV aQ ns bs=N at hzl;change wZ _ _ bL [ba (.ref r),ba (.tup [.tup tv,.tup N,b0]),ba (.int many),gV,gV,gV] S Q';dsimp only[bL];have hrt:=hf.lt;show st ?_;dsimp only[wS,wE,wA,JG];nofun
 show bT (many:JI) (λk Z S'=>∃a4 a5 u,Z=[ba (.ref r),ba (.tup [.tup tv,.tup N,b0]),ba (.int many),ba (.ref S.length),a4,a5]/\S'[S.length]?=ba (.lst (u.map bh))/\u.length=k/\GoodW a bs.length u/\Fl S' r/\Kp r S S') rfl rfl ∅ #[rfl,gV,gV,[],rfl,ag,rfl,.nil,hf.ka .push,.push] ?_ ?_
 ·rintro i Z S1 hi ⟨a4,a5,u,rfl,e1,hul,hu,f1,k1⟩ Q2 hn' _;clear hK;show st ?_;left;show ak #v[] rfl (aN ?_)
  rw[hmm];show aM (d:=d) G.pick f1 ∅ ∅ λv S2 v0 v1 f2 k2=>?_
  have e2:=k2.get _ _ ∅ e1
  show st ?_;left;show#[cv e2,draws (n:=bs.length) (i:=i) (R:=[ba (.ref r),ba (.tup [.tup tv,.tup N,b0])]) rfl rfl ∅ rfl f2 (λQ q=>q) (λa S1 Q f q=>?_) λvs S3 hvl hv f3 k3=>?_]
  ·dsimp only[wE,wA,wV,wG];show ak #v[] rfl (aN ?_)
   rw[hzl];exact aM (d:=d) G.pick f ∅ ∅ q
  have e3:=al (u:=O.lst (ae vs)) (k3.get _ _ ∅ e2)
  show dB ag (jV e3 (by rw[Jp]; omega) (bA (hn' _ _ #[_,_,u++[(v,vs)],rfl,?_,by rw[JC,hul]; rfl,hu.snoc #[v0,v1] (hvl.trans hul.symm) hv,(f3.ka .push).own hrt,(k1.trans (k2.trans (k3.trans .push))).late (JA _)])))
  rw[aT e3,J0]; rfl
 ·rintro Z S1 ⟨a4,a5,u,rfl,e1,hul,hu,f1,k1⟩;show hK _ _ (st ?_);left;exact dB e1 (k u _ ∅ hu f1 k1)
end
abbrev lC (n:Jx):Jn JI:=(JW n).map λ(k:Jx)=>(k:JI)
abbrev qJ (a n:Jx):Jn Wd:=(lC a).flatMap λm0=>(lC a).flatMap λm1=>(lC a).flatMap λm2=>(lC n).flatMap λw1=>(lC n).flatMap λw2=>(lC n).map λw3=>[(m0,[]),(m1,[w1]),(m2,[w2,w3])]
abbrev aO (a:Jx)(bs:Jn JI):Jn Wd:=((qJ a bs.length).map (jC bs)).eraseDups
def cY {n:Jx}{x:JI}(h0:0<=x)(h1:x < n):x∈lC n:=JF.mpr #[x.toNat,JT.mpr ∅,∅]
def wc {a n:Jx}{u:Wd}(h:GoodW a n u)(h3:u.length=3):u∈qJ a n:=by
 match u,h3 with
 | [(m0,w0),(m1,w1),(m2,w2)],_=>
  have l0:=h.len 0 _ rfl;have l1:=h.len 1 _ rfl;have l2:=h.len 2 _ rfl;simp only at l0 l1 l2
  match w0,l0 with
  | [],_=>
   match w1,l1 with
   | [x],_=>
    match w2,l2 with
    | [y,z],_=>
     have a0:=h.mark 0 _ rfl;have a1:=h.mark 1 _ rfl;have a2:=h.mark 2 _ rfl;have b1:=h.way 1 _ rfl x (by simp)
     have b2:=h.way 2 _ rfl y (by simp)
     have b3:=h.way 2 _ rfl z (by simp)
     unfold qJ;simp only[K4,JF];exact#[m0,cY a0.1 a0.2,m1,cY a1.1 a1.2,m2,cY a2.1 a2.2,x,cY b1.1 b1.2,y,cY b2.1 b2.2,z,cY b3.1 b3.2,rfl]
def uK {a:Jx}{bs:Jn JI}{u:Wd}(h:GoodW a bs.length u)(h3:u.length=3):jC bs u∈aO a bs:=by
 unfold aO;rw[OD];exact JF.mpr #[u,wc h h3,rfl]
structure SizeOk (a:Jx)(bs:Jn JI):Prop where
 pos:0 < a
 good:GoodB bs
 most:a*bs.length<=6
 a3:a<=3
def SizeOk.n3 {a:Jx}{bs:Jn JI}(h:SizeOk a bs):0 < bs.length/\bs.length<=3:=by
 rcases h.good with rfl|rfl|rfl|rfl|rfl|rfl <;> decide
def GP:(aO 1 [0]).length < 64/\(aO 2 [0]).length < 64/\(aO 3 [0]).length < 64:=by decide +kernel
def Hj:(aO 1 [0,1]).length < 64/\(aO 2 [0,1]).length < 64/\(aO 1 [1,0]).length < 64/\(aO 2 [1,0]).length < 64:=by decide +kernel
def Iv:(aO 1 [0,1,2]).length < 64/\(aO 1 [1,0,2]).length < 64/\(aO 1 [0,2,1]).length < 64:=by decide +kernel
def Iw:(aO 3 [0,1]).length < 64:=by decide +kernel
def Ix:(aO 3 [1,0]).length < 64:=by decide +kernel
def Iy:(aO 2 [0,1,2]).length < 64:=by decide +kernel
def Iz:(aO 2 [1,0,2]).length < 64:=by decide +kernel
def IA:(aO 2 [0,2,1]).length < 64:=by decide +kernel
def kq {a:Jx}{bs:Jn JI}(h:SizeOk a bs):(aO a bs).length < 64:=by
 obtain⟨h0,hb,hm,h3⟩:=h;have ha:a=1\/a=2\/a=3:=∅
 rcases hb with rfl|rfl|rfl|rfl|rfl|rfl <;> rcases ha with rfl|rfl|rfl
 ·exact GP.1
 ·exact GP.2.1
 ·exact GP.2.2
 ·exact Hj.1
 ·exact Hj.2.1
 ·exact Iw
 ·exact Hj.2.2.1
 ·exact Hj.2.2.2
 ·exact Ix
 ·exact Iv.1
 ·exact Iy
 ·simp at hm
 ·exact Iv.2.1
 ·exact Iz
 ·simp at hm
 ·exact Iv.2.2
 ·exact IA
 ·simp at hm
def zz (bs:Jn JI)(u:Wd):∃t∈ar,jC bs u=ah bs u t:=by
 have h7:(ar.map (ah bs u)).length=6:=by rw[Jp]; rfl
 have h8:((ar.map (ah bs u)).map bC).length=6:=by rw[Jp,h7]
 have hlt:ip ((ar.map (ah bs u)).map bC) < (ar.map (ah bs u)).length:=by
  unfold ip;have h6:=de (kS ((ar.map (ah bs u)).map bC)) (((ar.map (ah bs u)).map bC).length - 1);rw[h7]; omega
 unfold jC;rw[getD_some (Jy hlt)];obtain⟨t,ht,e⟩:=JF.mp (Kd hlt);exact#[t,ht,e.symm]
def Cd (bs:Jn JI)(u:Wd):jC bs u≠[]:=by
 obtain⟨t,ht,e⟩:=zz bs u;rw[e];have:∀t∈ar,t≠[]:=by decide
 have h:=this t ht;intro z;have hl:(ah bs u t).length=t.length:=by simp[ah]
 rw[z]at hl;exact h (Lb.mp hl.symm)
def qK:∀ {xs ys:Jn JI},xs.map T.int=ys.map T.int->xs=ys
 | [],[],_=>rfl
 | [],_::_,h=>by cases h
 | _::_,[],h=>by cases h
 | x::xs,y::ys,h=>by
  rw[KO,KO]at h;injection h with h1 h2
  injection h1 with h1
  rw[h1,qK h2]
def oN {p q:Pt}(h:eD p=eD q):p=q:=by
 unfold eD at h;injection h with h
 injection h with h1 h2
 injection h1 with h1
 injection h2 with h2 _
 injection h2 with h2
 exact RH h1 (qK h2)
def fM {u v:Wd}(h:bC u=bC v):u=v:=by
 unfold bC at h;injection h with h
 have inj:∀ {u v:Wd},u.map eD=v.map eD->u=v:=by
  intro u
  induction u with
  | nil=>intro v h; cases v with
   | nil=>rfl
   | cons _ _=>cases h
  | cons p u ih=>intro v h; cases v with
   | nil=>cases h
   | cons q v=>
    rw[KO,KO]at h;injection h with h1 h2
    rw[oN h1,ih h2]
 exact inj h
def jD {U:Jn (T×W)}{k:T}{v:W}:(eE U k v).map (·.1)=if k∈U.map (·.1)then U.map (·.1)else U.map (·.1)++[k]:=by
 have hany:(U.any λp=>decide (p.1=k))=decide (k∈U.map (·.1)):=by
  induction U with
  | nil=>rfl
  | cons p U ih=>
   rw[L9,ih,KO]
   by_cases e:p.1=k
   ·subst e; simp
   ·rw[Kl e,OT];have:(k∈p.1::U.map (·.1))=(k∈U.map (·.1)):=by simp[Ne.symm e]
    simp only[this]
 unfold eE;rw[hany]
 by_cases h:k∈U.map (·.1)
 ·rw[JX h,JX (K6 h),La];show KG λp _=>?_
  show(if p.1=k then(p.1,v)else p).1=p.1
  split <;> rfl
 ·rw[J8 h,J8 (by simpa using h),J0]
  rfl
structure FigD (L:Jn Wd)(U:Jn (T×W))(fs:Jn Wd):Prop where
 keys:U.map (·.1)=fs.map bC
 nd:fs.Nodup
 mem:∀f∈fs,f∈L
def FigD.nil {L:Jn Wd}:FigD L [] []:=#[rfl,PN,λ_ h=>nomatch h]
def FigD.len {L:Jn Wd}{U:Jn (T×W)}{fs:Jn Wd}(h:FigD L U fs):U.length=fs.length/\fs.length<=L.length:=by
 have:=congrArg SQ h.keys;rw[Jp,Jp]at this;exact#[this,gl fs L h.nd h.mem]
def FigD.put {L:Jn Wd}{U:Jn (T×W)}{fs:Jn Wd}{f:Wd}{v:W}(h:FigD L U fs)(hf:f∈L):∃fs',FigD L (eE U (bC f) v) fs':=by
 by_cases hm:f∈fs
 ·show#[fs,?_,h.nd,h.mem];rw[jD,JX (by rw[h.keys]; exact JF.mpr #[f,hm,rfl]),h.keys]
 ·show#[fs++[f],?_,?_,λg hg=>?_]
  ·rw[jD,J8,h.keys,J0]
   ·rfl
   ·rw[h.keys];intro z;obtain⟨g,hg,e⟩:=JF.mp z;exact hm (fM e ▸ hg)
  ·rw[M2];show#[h.nd,by simp,λa ha b hb e=>?_]
   rw[JK.mp hb]at e;exact hm (e ▸ ha)
  ·rcases Kc.mp hg with h'|h'
   ·exact h.mem g h'
   ·rw[JK.mp h']; exact hf
def FigD.items {S:aa}{t:Jx}{L:Jn Wd}{U:Jn (T×W)}{fs:Jn Wd}(h:FigD L U fs)(e:S[t]?=ba (.dic U)):da S (.ref t)=ba (fs.map az):=by
 simp only[da,oE e,ci e,Kg];congr 1;have:(U.map (·.1)).map T.w=(fs.map bC).map T.w:=by rw[h.keys]
 rw[La,La]at this
 calc U.map (λp=>p.1.w)=U.map (T.w∘λx=>x.1):=rfl
  _=fs.map (T.w∘bC):=this
  _=fs.map az:=by
   show KG λf _=>?_
   exact zm f
def qL {a:Jx}{bs:Jn JI}{f:Wd}(h:f∈aO a bs):f≠[]:=by
 unfold aO at h;rw[OD]at h;obtain⟨u,_,rfl⟩:=JF.mp h;exact Cd bs u
def zA {S:aa}{t:Jx}{U:Jn (T×W)}{u:Wd}{v:W}(h:S[t]?=ba (.dic U))(hl:U.length < sizeLine):iU (.ref t) (az u) v S=ba (S.set t (.dic (eE U (bC u) v))):=by
 have hk:=oH u;unfold az at hk ⊢
 (dsimp only[iU,nV]; simp only[h,hk])
 rw[JX hl]
structure RuleAt (a:Jx)(bs:Jn JI)(ms ns:Jn JS)(gs:Jn Wd):Prop where
 size:SizeOk a bs
 ml:ms.length=a
 nl:ns.length=bs.length
 nm:GoodN ms ns
 nd:gs.Nodup
 mem:∀g∈gs,g∈aO a bs
abbrev eA (w:W):Prop:=∃a bs ms ns gs,w=dL ms ns bs (cr gs)/\RuleAt a bs ms ns gs
section
variable{M:JS->FF}{fuel:Jx}{Z:Fm}{S:aa}{K:Fm->aa->Prop}{Q:QO}
def jb {i0:Jx}{e:E}{b:Ss}(oe:dA e=true)(ok:gX b=true)(he:wE M e Z S λp=>∃(j:JI) (I:Jx->Fm->aa->Prop),p.1=.int j/\(-(2 ^ 62)<=j/\j < 2 ^ 62)/\I 0 Z p.2/\
  (∀(i:Jx) (Z:Fm) (S:aa),(i:JI) < j->I i Z S->wM M fuel b (Z.set i0 (ba (.int i))) S (I (i+1)) Q)/\∀Z S,I j.toNat Z S->K Z S):Wp (ga M fuel (.loop (.nm i0) (.rng #v[e]) b) Z S) (rH K Q):=by
 obtain⟨w,S1,e1,j,I,rfl,hj,h0,hs,hend⟩:=br oe he;have hl:(c8 0 j.toNat).length=j.toNat:=by simp[c8]
 show iC (mi:=.its (c8 0 j.toNat)) (S1:=S1) (xs:=c8 0 j.toNat) I ok ?_ (λ_ _ _ _=>rfl) rfl h0 (λi w Z S hw hI=>?_) λZ S hI=>hend Z S (hl ▸ hI)
 ·(dsimp only[iZ,c7,dJ,iY,sv]; simp only[e1])
  rw[JX hj]
 ·rw[d8]at hw;split at hw
  ·rename_i hk;cases hw;rw[NN];exact hs i Z S ∅ hI
  ·cases hw
def jc {tg:Tg}{e:E}{b:Ss}(oe:dA e=true)(ok:gX b=true)(he:wE M e Z S λp=>∃(t:Jx) (xs:Jn W) (I:Jx->Fm->aa->Prop),p.1=.ref t/\I 0 Z p.2/\(∀i Z S,I i Z S->S[t]?=ba (.lst xs))/\
  (∀(i:Jx) (w:W) (Z:Fm) (S:aa),xs[i]?=ba w->I i Z S->wO (fZ tg w Z S) λq=>wM M fuel b q.1 q.2 (I (i+1)) Q)/\∀Z S,I xs.length Z S->K Z S):Wp (ga M fuel (.loop tg (.seq e) b) Z S) (rH K Q):=by
 obtain⟨w,S1,e1,t,xs,I,rfl,h0,hat,hs,hend⟩:=br oe he;exact iC (mi:=.live t) (S1:=S1) I ok (by simp only[iZ,ee,e1,aq (hat _ _ _ h0)]) (λi Z S h=>by simp only[MI.at,aq (hat _ _ _ h)]) (by simp only[MI.len,aq (hat _ _ _ h0),Kg]) h0 hs hend
end
section
variable{defs:Jn (JS×Df)}{fuel d:Jx}{S:aa}{r:Jx}{Q:QW}
def zB {q:Jx}{a:Jx}{bs:Jn JI}{ms ns:Jn JS}{fs0:Jn Wd}{U:Jn (T×W)}{fs:Jn Wd}(h3:S[q]?=ba (.dic U))(h4:FigD (aO a bs) U fs)(hs:SizeOk a bs)(hml:ms.length=a)(hnl:ns.length=bs.length)(hnm:GoodN ms ns)(k:∀w S',eA w->Ka S S'->Q (w,S')) :
  wO (o7 (dL ms ns bs fs0) (.int 0) S) λp=>wO (o7 (dL ms ns bs fs0) (.int 1) p.2) λq'=>wO (Bi.sorted.fn [.ref q] q'.2) λs=>wO (Bi.tuple.fn [s.1] s.2) λz=>Q (.tup [p.1,q'.1,z.1],z.2):=by
 show ak #v[] rfl (ak #v[] rfl ?_)
 have hl:=h4.len;exact zv (h4.items h3) (by have:=kq hs; omega) (λf hf=>qL (h4.mem f hf)) (dB ag (k _ _ #[a,bs,ms,ns,fs,rfl,hs,hml,hnl,hnm,h4.nd,h4.mem] .push))
def zC {q:Jx}{a:Jx}{bs:Jn JI}{u:Wd}{U:Jn (T×W)}{fs:Jn Wd}{Q:aa->Prop}(h3:S[q]?=ba (.dic U))(h4:FigD (aO a bs) U fs)(hs:SizeOk a bs)(hu:GoodW a bs.length u)(hu3:u.length=3)
  (k:∀o,(∃U fs,(S.set q o)[q]?=ba (.dic U)/\FigD (aO a bs) U fs)->Q (S.set q o)):wO (iU (.ref q) (az (jC bs u)) (.bl true) S) Q:=by
 have hl:=h4.len;have:=kq hs;obtain⟨fs',h5⟩:=h4.put (v:=.bl true) (uK hu hu3);exact ab (zA h3 (by rw[Ky]; omega)) (k _ #[_,fs',aT h3,h5])
def sI (hfu:20 < fuel)(G:Gen defs)(hf:Fl S r)(k:∀w S',eA w->Fl S' r->Kp r S S'->Q (w,S')):wO (aP (am defs fuel (d+6)) "_law_any_rule" 1 [.ref r] S) Q:=by
 show ay G.any_rule rfl rfl λQ' hR=>?_
 replace k:∀w S',eA w->Fl S' r->Kp r S S'->Q' (.rt w,S'):=λz S' a b c=>hR _ _ (k z S' a b c)
 clear hR;change wZ _ _ cX [ba (.ref r),gV,gV,gV,gV,gV] S Q';dsimp only[cX];nofun
 left;show oK (d:=d+3) G hf λa n S1 a1 a3 n1 n3 an f1 k1=>?_
 dsimp only[wU];show ab (show d7 [1,2] [.int a,.int n] [ba (.ref r),gV,gV,gV,gV,gV]=ba [ba (.ref r),ba (.int a),ba (.int n),gV,gV,gV]from rfl) (hK _ _ ?_)
 clear hK K;nofun
 left;show oM (d:=d+3) G f1 n1 n3 λbs S2 hb hbl f2 k2=>?_
 have hsz:SizeOk a bs:=#[∅,hb,by rw[hbl]; exact an,a3]
 show fL (d:=d) hfu G f2 a3 ∅ λms ns S3 hml hnl hnm f3 k3=>hK _ _ ?_
 clear hK K;have hrt:=f3.lt;replace k3:Kp r S S3:=k1.trans (k2.trans k3);clear k1 k2 f1 f2;show st ?_;dsimp only[wS,wE,JG];nofun
 show jb rfl rfl ?_;dsimp only[wE,wA,wV,wG];show aM (d:=d+4) G.pick (f3.ka .push) #v[] #v[] λv S4 v0 v9 f4 k4=>?_
 show#[v,λk Z S'=>(∃a5,Z=[ba (.ref r),ba (.int a),ba (.int n),ba (dL ms ns bs []),ba (.ref S3.length),a5])/\(∃U fs,S'[S3.length]?=ba (.dic U)/\FigD (aO a bs) U fs)/\Fl S' r/\Kp r S S',rfl,∅,#[#[gV,rfl],#[[],[],k4.get _ _ ∅ ag,.nil],f4,(k3.trans .push).trans k4],?_,?_]
 ·rintro i Z S5 hi ⟨⟨a5,rfl⟩,⟨U,fs,e5,hd⟩,f5,k5⟩ Q2 hn _;clear hK;show st ?_;left;show ja (d:=d+3) G f5 ∅ a3 ∅ n3 λu S6 hu3 hu f6 k6=>?_
  have hu:GoodW a bs.length u:=hbl.symm ▸ hu;show i8 (d:=d+2) G hb hnl hu hu3 λS7 k7=>?_
  have e7:=k7.get _ _ (k6.get _ _ ∅ e5)
  exact zC e7 hd hsz hu hu3 λo ho=>bA (hn _ _ #[#[_,rfl],ho,(f6.ka k7).own hrt,((k5.trans k6).trans (k7.kp r)).late k3.len])
 ·rintro Z S5 ⟨⟨a5,rfl⟩,⟨U,fs,e5,hd⟩,f5,k5⟩;show hK _ _ (st ?_);left;exact zB (Q:=λp=>Q' (.rt p.1,p.2)) e5 hd hsz hml hnl hnm λw S6 hw k6=>k w S6 hw (f5.ka k6) (k5.trans (k6.kp r))
end
abbrev oO (t:JI×JI×JI):W:=.tup [.int t.1,.int t.2.1,.int t.2.2]
abbrev qM (a:Jx)(t:JI×JI×JI):Prop:=(0<=t.1/\t.1 < a)/\(0<=t.2.1/\t.2.1 < a)/\(0<=t.2.2/\t.2.2 < a)
abbrev zD (k:JI):Wd:=[(k,[]),(k,[0]),(k,[0,0])]
def IB:∀k∈lC 1,zD k∈aO 1 [0]:=by decide +kernel
def IC:∀k∈lC 2,zD k∈aO 2 [0]:=by decide +kernel
def ID:∀k∈lC 3,zD k∈aO 3 [0]:=by decide +kernel
def Ce {a:Jx}{k:JI}(h0:1<=a)(h3:a<=3)(hk:0<=k)(hk2:k < a):zD k∈aO a [0]:=by
 have ha:a=1\/a=2\/a=3:=∅
 rcases ha with rfl|rfl|rfl
 ·exact IB k (cY hk hk2)
 ·exact IC k (cY hk hk2)
 ·exact ID k (cY hk hk2)
def Cf {a b:JI}(h:zD a=zD b):a=b:=by
 unfold zD at h;injection h with h1 h2
 injection h1
def oP:GoodB [0]:=.inl rfl
def CZ {S:aa}{i j:Jx}{xs:Jn W}(h1:S[i]?=ba (.lst xs))(h2:S[j]?=ba (.lst [])):aZ .eq (.ref i) (.ref j) S=ba (.bl xs.isEmpty,S):=by
 show(kG S (19+1) (.ref i) (.ref j)).map _=_
 (dsimp only[kG]; simp only[di h1,di h2])
 cases xs with
 | nil=>rfl
 | cons x xs=>rfl
def Cg {S:aa}{f:JI}{ws:Jn JI}:∃b,aZ .notin (.int f) (.tup (ae ws)) S=ba (.bl b,S):=by
 have hf:(bI (.int f)&&(ae ws).all bI)=true:=by
  (dsimp only[bI]; simp only[Nr,JQ])
  intro x hx;obtain⟨z,_,rfl⟩:=JF.mp hx;rfl
 show#[!(ae ws).any λz=>xE z (.int f),?_]
 change ik .notin (.int f) (.tup (ae ws)) S=_
 (dsimp only[ik,DP,Bc,eH]; simp only[hf,Lp,Kg])
section
variable{M:JS->FF}{fuel:Jx}{Z:Fm}{S:aa}{K:Fm->aa->Prop}{Q:QO}
def gp {i0:Jx}{a b:E}{bd:Ss}(i j:JI)(I:Jx->Fm->aa->Prop)(oa:dA a=true)(ob:dA b=true)(ok:gX bd=true)(hj : -(2 ^ 62)<=i/\i < 2 ^ 62/\-(2 ^ 62)<=j/\j < 2 ^ 62)(he:wE M a Z S λp=>p.1=.int i/\wE M b Z p.2 λq=>q.1=.int j/\I 0 Z q.2)
  (hstep:∀(k:Jx) (Z:Fm) (S:aa),(k:JI) < j - i->I k Z S->wM M fuel bd (Z.set i0 (ba (.int (i+k)))) S (I (k+1)) Q) (hend:∀Z S,I (j - i).toNat Z S->K Z S):Wp (ga M fuel (.loop (.nm i0) (.rng2 #v[a,b]) bd) Z S) (rH K Q):=by
 obtain⟨w,S1,e1,rfl,h1⟩:=br oa he;obtain⟨w,S2,e2,rfl,h0⟩:=br ob h1;have hl:(c8 i (j - i).toNat).length=(j - i).toNat:=by simp[c8]
 show iC (mi:=.its (c8 i (j - i).toNat)) (S1:=S2) (xs:=c8 i (j - i).toNat) I ok ?_ (λ_ _ _ _=>rfl) rfl h0 (λk w Z S hw hI=>?_) λZ S hI=>hend Z S (hl ▸ hI)
 ·simp only[iZ,c7,dJ,iY,iRng2,e1,e2];rw[JX hj]
 ·rw[d8]at hw;split at hw
  ·rename_i hk;cases hw;exact hstep k Z S ∅ hI
  ·cases hw
def zE {elt a b:E}{i0:Jx}{cs:Es}{cap:Jn (Jw Jx)}{Q:QW}(i j:JI)(I:Jx->Jn W->Fm->aa->Prop)(oa:dA a=true)(ob:dA b=true)(oe:dA elt=true)(oc:lW cs=true)(hj : -(2 ^ 62)<=i/\i < 2 ^ 62/\-(2 ^ 62)<=j/\j < 2 ^ 62)(he:wE M a Z S λp=>p.1=.int i/\wE M b Z p.2 λq=>q.1=.int j/\I 0 [] (eg cap Z) q.2)
  (hstep:∀(k:Jx) (ys:Jn W) (Z:Fm) (S:aa),(k:JI) < j - i->I k ys Z S->fP M elt cs (Z.set i0 (ba (.int (i+k)))) S (λy=>I (k+1) (ys++[y])) (I (k+1) ys))
  (hend:∀ys Z S,I (j - i).toNat ys Z S->ys.length<=sizeLine/\Q (.ref S.length,S++[.lst ys])):Wp (aB M (.comp elt (.nm i0) (.rng2 #v[a,b]) cs cap) Z S) Q:=by
 obtain⟨w,S1,e1,rfl,h1⟩:=br oa he;obtain⟨w,S2,e2,rfl,h0⟩:=br ob h1;have hl:(c8 i (j - i).toNat).length=(j - i).toNat:=by simp[c8]
 show jA (mi:=.its (c8 i (j - i).toNat)) (S1:=S2) (xs:=c8 i (j - i).toNat) I oe oc ?_ (λ_ _ _ _ _=>rfl) rfl h0 (λk w ys Z S hw hI=>?_) λys Z S hI=>hend ys Z S (hl ▸ hI)
 ·simp only[iZ,c7,dJ,iY,iRng2,e1,e2];rw[JX hj]
 ·rw[d8]at hw;split at hw
  ·rename_i hk;cases hw;exact hstep k ys Z S ∅ hI
  ·cases hw
end
section
variable{defs:Jn (JS×Df)}{fuel d:Jx}{S:aa}{r:Jx}{Q:QW}
def zF (G:Gen defs){a:Jx}(ha:a<=3)(k:∀(q:Jx) (ts:Jn (JI×JI×JI)) (S':aa),S'[q]?=ba (.lst (ts.map oO))->(∀t∈ts,qM a t)->S.length<=q->Ka S S'->Q (.ref q,S')) :
  wO (aP (am defs fuel (d+1)) "_law_rising" 1 [.int a] S) Q:=by
 show ay G.rising rfl rfl λQ' hR=>?_
 replace k:∀(q:Jx) (ts:Jn (JI×JI×JI)) (S':aa),S'[q]?=ba (.lst (ts.map oO))->(∀t∈ts,qM a t)->S.length<=q->Ka S S'->Q' (.rt (.ref q),S'):=λq ts S' a b c e=>hR _ _ (k q ts S' a b c e)
 clear hR;change wZ _ _ dS [ba (.int a),gV,gV,gV] S Q';dsimp only[dS];show st ?_;dsimp only[wS,wE,wA,JG];nofun
 show bT (a:JI) (λi Z S'=>∃(q:Jx) (ts:Jn (JI×JI×JI)) (a2 a3:Jw W),Z=[ba (.int a),ba (.ref q),a2,a3]/\S'[q]?=ba (.lst (ts.map oO))/\(∀t∈ts,qM a t)/\S.length<=q/\ts.length<=9*i/\Ka S S') rfl rfl ∅ #[rfl,_,[],_,_,rfl,ag,λ_ h=>(nomatch h),JA _,Lm _,.push] ?_ ?_
 ·rintro i Z S1 hi ⟨q,ts,a2,a3,rfl,e1,ht,hq,hl,k1⟩ Q2 hn _;clear hK k;nofun
  show gp (i:JI) (a:JI) (λj Z S'=>∃(q:Jx) (ts:Jn (JI×JI×JI)) (a3:Jw W),Z=[ba (.int a),ba (.ref q),ba (.int i),a3]/\S'[q]?=ba (.lst (ts.map oO))/\(∀t∈ts,qM a t)/\S.length<=q/\ts.length<=9*i+3*j/\Ka S S') rfl rfl rfl ∅ #[rfl,rfl,q,ts,a3,rfl,e1,ht,hq,∅,k1] ?_ ?_
  ·rintro j Z S2 hj ⟨q,ts,a3,rfl,e2,ht,hq,hl,k2⟩ Q3 hn3 _;clear hK hn;show st ?_;dsimp only[wS,wE,wV,wG,JG];show zE ((i:JI)+j) (a:JI) (λm ys Z2 S3=>(∃a1,Z2=[gV,a1,ba (.int i),ba (.int ((i:JI)+j))])/\(∃us:Jn (JI×JI×JI),ys=us.map oO/\us.length=m/\∀t∈us,qM a t)/\S3=S2) rfl rfl rfl rfl ∅ #[rfl,rfl,#[gV,rfl],#[[],rfl,rfl,λ_ h=>nomatch h],rfl] ?_ ?_
   ·rintro m ys Z2 S3 hm ⟨⟨a1,rfl⟩,⟨us,rfl,hul,hu⟩,rfl⟩;show#[λ_=>#[#[_,rfl],#[us++[((i:JI),(i:JI)+j,(i:JI)+j+m)],by rw[J0]; rfl,by rw[JC,hul]; rfl,λt h=>?_],rfl],λz=>by cases z]
    rcases Kc.mp h with h|h
    ·exact hu t h
    ·rw[JK.mp h];exact#[#[∅,∅],#[by dsimp only; omega,by dsimp only; omega],#[by dsimp only; omega,by dsimp only; omega]]
   ·rintro ys Z2 S3 ⟨_,⟨us,rfl,hul,hu⟩,rfl⟩;show#[j5 (by rw[Jp]; omega),ab (y4 (al e2) ag ?_) (bA (hn3 _ _ #[_,ts++us,_,rfl,?_,λt h=>(Kc.mp h).elim (ht t) (hu t),?_,?_,k2.trans (Ka.push.trans .push)]))]
    ·show j5 ?_;rw[JC,Jp,Jp];omega
    ·rw[J0]; exact ag
    ·have:=k2.len;simp only[JC]; omega
    ·rw[JC]; omega
  ·rintro Z S2 ⟨q,ts,a3,rfl,e2,ht,hq,hl,k2⟩;exact hK _ _ (bA (hn _ _ #[q,ts,_,_,rfl,e2,ht,hq,∅,k2]))
 ·rintro Z S1 ⟨q,ts,a2,a3,rfl,e1,ht,hq,hl,k1⟩;show hK _ _ (st ?_);exact k q ts S1 e1 ht hq k1
def we (hfu:20 < fuel)(G:Gen defs)(hf:Fl S r)(k:∀w S',eA w->Fl S' r->Kp r S S'->Q (w,S')):wO (aP (am defs fuel (d+6)) "_law_one_way_rule" 1 [.ref r] S) Q:=by
 show ay G.one_way_rule rfl rfl λQ' hR=>?_
 replace k:∀w S',eA w->Fl S' r->Kp r S S'->Q' (.rt w,S'):=λz S' a b c=>hR _ _ (k z S' a b c)
 clear hR;change wZ _ _ bG [ba (.ref r),gV,gV] S Q';dsimp only[bG];nofun
 left;show aM (d:=d+4) G.pick hf #v[] #v[] λv S1 v0 v3 f1 k1=>?_
 dsimp only[cQ,aF];obtain⟨a,ea⟩ : ∃a:Jx,1+v=a:=#[(1+v).toNat,∅]
 rw[ea];show hK _ _ ?_;clear hK K;nofun
 dsimp only[wS,wE,JG];show dj (a:JI) (λk zs Z2 S2=>(∃a1,Z2=[gV,a1,ba (.ref r)])/\(∃ks:Jn JI,zs=(ks.map zD).map az/\ks.Pairwise (·≠·)/\ks.length<=k/\∀x∈ks,0<=x/\x < k)/\Fl S2 r/\Kp r S1 S2) rfl rfl rfl ∅ #[rfl,#[gV,rfl],#[[],rfl,.nil,JA _,λ_ h=>(nomatch h)],f1,.refl] ?_ ?_
 ·rintro i zs Z2 S2 hi ⟨⟨a1,rfl⟩,⟨ks,rfl,hkp,hkl,hks⟩,f2,k2⟩;clear hK k;dsimp only[fP,wC,wT,wE,wA,wV,wG,JG];show aM (d:=d+4) G.pick f2 #v[] #v[] λv S3 _ _ f3 k3=>?_
  dsimp only[iB,aF,wB];show#[λ_=>#[#[_,rfl],#[ks++[(i:JI)],by simp[zD,az,bh],?_,by rw[JC]; exact NW hkl,λx hx=>?_],f3,k2.trans k3],λ_=>#[#[_,rfl],#[ks,rfl,hkp,∅,λx hx=>#[(hks x hx).1,by have:=(hks x hx).2; omega]],f3,k2.trans k3]]
  ·rw[PQ];show#[hkp,by simp,λx hx y hy e=>?_]
   have:=(hks x hx).2;rw[JK.mp hy]at e;omega
  ·rcases Kc.mp hx with h|h
   ·exact#[(hks x h).1,by have:=(hks x h).2; omega]
   ·rw[JK.mp h]; omega
 ·rintro zs Z2 S2 ⟨_,⟨ks,rfl,hkp,hkl,hks⟩,f2,k2⟩;rw[JL]at hkl hks;show#[j5 (by rw[Jp,Jp]; omega),hK _ _ (st ?_)]
  clear hK K;left;have hlt:=f2.lt;show nh (d:=d) (a:=a) (bs:=[0]) (us:=ks.map zD) hfu G (f2.ka .push) ∅ #v[] (λS' kk=>?_) (by rw[Jp]; omega) (λu hu=>by obtain⟨x,_,rfl⟩:=JF.mp hu; exact Rh _ _) λms ns S3 hml hnl hnm f3 k3=>?_
  ·simp only[da,aq (kk.get _ _ ∅ ag)]
  show k _ _ #[a,[0],ms,ns,ks.map zD,rfl,#[#[∅,oP,by simp; omega,∅],hml,hnl,hnm,?_,λg hg=>?_]] f3 (k1.trans (k2.trans (Kp.push.trans k3)))
  ·unfold Tu;rw[Ld];exact hkp.imp λh e=>h (Cf e)
  ·obtain⟨x,hx,rfl⟩:=JF.mp hg;exact Ce ∅ ∅ (hks x hx).1 (hks x hx).2
def qN (hfu:20 < fuel)(G:Gen defs)(hf:Fl S r)(k:∀w S',eA w->Fl S' r->Kp r S S'->Q (w,S')):wO (aP (am defs fuel (d+6)) "_law_free_rule" 1 [.ref r] S) Q:=by
 show ay G.free_rule rfl rfl λQ' hR=>?_
 replace k:∀w S',eA w->Fl S' r->Kp r S S'->Q' (.rt w,S'):=λz S' a b c=>hR _ _ (k z S' a b c)
 clear hR;change wZ _ _ cJ [ba (.ref r),gV,gV,gV,gV,gV,gV,gV,gV] S Q';dsimp only[cJ];nofun
 left;show oK (d:=d+3) G hf λa n S1 a1 a3 n1 n3 an f1 k1=>?_
 dsimp only[wU];show ab (show d7 [1,2] [.int a,.int n] [ba (.ref r),gV,gV,gV,gV,gV,gV,gV,gV]=ba [ba (.ref r),ba (.int a),ba (.int n),gV,gV,gV,gV,gV,gV]from rfl) (hK _ _ ?_)
 clear hK K;nofun
 left;show oM (d:=d+3) G f1 n1 n3 λbs S2 hb hbl f2 k2=>?_
 have hsz:SizeOk a bs:=#[∅,hb,by rw[hbl]; exact an,a3]
 show fL (d:=d) hfu G f2 a3 ∅ λms ns S3 hml hnl hnm f3 k3=>hK _ _ ?_
 clear hK K;have hrt:=f3.lt;replace k3:Kp r S S3:=k1.trans (k2.trans k3);clear k1 k2 f1 f2;nofun
 dsimp only[wS,wE,JG];show dj (n:JI) (λi zs Z2 S2=>(∃a1,Z2=[gV,a1,ba (dL ms ns bs [])])/\(∃ks:Jn JI,zs=ae ks/\ks.length<=i)/\S2=S3) rfl rfl rfl ∅ #[rfl,#[gV,rfl],#[[],rfl,JA _],rfl] ?_ ?_
 ·rintro i zs Z2 S2 hi ⟨⟨a1,rfl⟩,⟨ks,rfl,hkl⟩,rfl⟩;clear hK k;have hi':i < bs.length:=∅
  dsimp only[fP,wC,wT,wE,wA,wV,wG,JG];show ak #v[] rfl (ak (JN i) (by rw[JL]; exact oJ (Jy ∅) (Jy hi')) (ak #v[] rfl ?_))
  dsimp only[iB,aF,wB];exact#[λ_=>#[#[_,rfl],#[ks++[(i:JI)],by unfold ae; rw[J0]; rfl,by rw[JC]; exact NW hkl],rfl],λ_=>#[#[_,rfl],#[ks,rfl,∅],rfl]]
 ·rintro zs Z2 S2 ⟨_,⟨ks,rfl,hkl⟩,rfl⟩;rw[JL]at hkl;have il:(ae ks).length=ks.length:=Jp ..;show#[j5 ∅,hK _ _ ?_]
  clear hK K;nofun
  dsimp only[wS,wT,wE,wA,wV,wG,JG];show ab (CZ (al ag) ag) ?_;dsimp only[wB];have f4:=(f3.ka (Ka.push (o:=O.lst (ae ks)))).ka (Ka.push (o:=O.lst []));have k4:=k3.trans ((Kp.push (o:=O.lst (ae ks))).trans (Kp.push (o:=O.lst [])));have e4:=al (u:=O.lst []) (ag (S:=S2) (o:=O.lst (ae ks)));have hl4:S2.length < (S2++[O.lst (ae ks)]++[O.lst []]).length:=by simp
  generalize hS4:S2++[O.lst (ae ks)]++[O.lst []]=S4 at f4 k4 e4 hl4;clear hS4;have ret:∀Q2:QO,(∀w S',Q' (.rt w,S')->Q2 (.rt w,S'))->wZ (am defs fuel (d+5)) fuel #v[.ret (.v 3)] [ba (.ref r),ba (.int a),ba (.int n),ba (dL ms ns bs []),gV,ba (.ref S2.length),gV,gV,gV] S4 Q2:=λQ2 hr=>st (hr _ _ (k _ _ #[a,bs,ms,ns,[],rfl,hsz,hml,hnl,hnm,.nil,λ_ h=>(nomatch h)] f4 k4))
  show#[λ_=>au (Q0:=Q') (λ_ Q2 _ hr=>ret Q2 hr) (λz=>by cases z),λhne=>?_]
  dsimp only[iB,aF,wB];show au (Q0:=Q') (λ_ Q2 _ hr=>ret Q2 hr) (λ_ Q2 hn _=>bA (hn _ _ (hK _ _ ?_)))
  clear hK ret hn;have hk0:0 < ks.length:=by
   cases ks with
   | nil=>cases hne
   | cons x ks=>exact Nat.succ_pos _
  nofun
  left;show eu e4 ?_;rw[il];show aM (d:=d+4) G.pick f4 ∅ ∅ λv S5 v0 v1 f5 k5=>?_
  have e5:=k5.get _ _ ∅ e4
  obtain⟨x,_,ex⟩:=lw (f:=W.int) (xs:=ks) (i:=v.toNat) ∅
  show fq e5 v0 ex (hK _ _ ?_);clear hK K;replace k5:Kp r S S5:=k4.trans k5;have hrt5:=f5.lt;show st ?_;dsimp only[wS,wE,JG];nofun
  show jb rfl rfl ?_;dsimp only[wE,wA,wV,wG];show aM (d:=d+4) G.pick (f5.ka .push) #v[] #v[] λv S6 v0 v9 f6 k6=>?_
  show#[v,λ_ Z S'=>(∃a4 a8,Z=[ba (.ref r),ba (.int a),ba (.int n),ba (dL ms ns bs []),a4,ba (.ref S2.length),ba (.int x),ba (.ref S5.length),a8])/\(∃U fs,S'[S5.length]?=ba (.dic U)/\FigD (aO a bs) U fs)/\Fl S' r/\Kp r S S',rfl,∅,#[#[gV,gV,rfl],#[[],[],k6.get _ _ ∅ ag,.nil],f6,(k5.trans .push).trans k6],?_,?_]
  ·rintro i Z S7 hi ⟨⟨a4,a8,rfl⟩,⟨U,fs,e7,hd⟩,f7,k7⟩ Q2 hn _;clear hK k;show st ?_;left;show ja (d:=d+3) G f7 ∅ a3 ∅ n3 λu S8 hu3 hu f8 k8=>?_
   have hu:GoodW a bs.length u:=hbl.symm ▸ hu;have e8:=k8.get _ _ ∅ e7
   obtain⟨p0,p1,p2,rfl⟩ : ∃p0 p1 p2,u=[p0,p1,p2]:=by
    match u,hu3 with
    | [p0,p1,p2],_=>exact#[p0,p1,p2,rfl]
   have l1:=hu.len 1 p1 rfl;obtain⟨m1,ws1⟩:=p1;obtain⟨w1,rfl⟩ : ∃w1,ws1=[w1]:=by
    match ws1,l1 with
    | [w1],_=>exact#[w1,rfl]
   obtain⟨b,hb2⟩:=Cg (S:=S8) (f:=x) (ws:=p2.2);have kk:=k7.trans k8;nofun
   dsimp only[wS,wT,wE,wA,wV,wG];show ak #v[] rfl (ak #v[] rfl (ak #v[] rfl ?_))
   dsimp only[Iq,aF,wB];have skip:K [ba (.ref r),ba (.int a),ba (.int n),ba (dL ms ns bs []),ba (.int i),ba (.ref S2.length),ba (.int x),ba (.ref S5.length),ba (az [p0,(m1,[w1]),p2])] S8:=hK _ _ (bA (hn _ _ #[#[_,_,rfl],#[U,fs,e8,hd],f8,kk]));show#[λ_=>?_,λ_=>au (Q0:=Q2) (λz=>by cases z) λ_ Q3 hn3 _=>bA (hn3 _ _ skip)]
   show ak #v[] rfl (ak #v[] rfl (ab hb2 ?_))
   dsimp only[wB];show au (Q0:=Q2) (λ_ Q3 hn3 _=>?_) λ_ Q3 hn3 _=>bA (hn3 _ _ skip)
   clear skip;show st ?_;left;show i8 (d:=d+2) G hb hnl hu hu3 λS9 k9=>?_
   exact zC (k9.get _ _ e8) hd hsz hu hu3 λo ho=>bA (hn3 _ _ (hK _ _ (bA (hn _ _ #[#[_,_,rfl],ho,(f8.ka k9).own hrt5,(kk.trans (k9.kp r)).late k5.len]))))
  ·rintro Z S7 ⟨⟨a4,a8,rfl⟩,⟨U,fs,e7,hd⟩,f7,k7⟩;show hK _ _ (st ?_);left;exact zB (Q:=λp=>Q' (.rt p.1,p.2)) e7 hd hsz hml hnl hnm λw S8 hw k8=>k w S8 hw (f7.ka k8) (k7.trans (k8.kp r))
end
abbrev bE (u v:JI):T:=.tup [.int u,.int v]
abbrev dC (u v:JI):W:=.tup [.int u,.int v]
def jd {u v:JI}:gS (dC u v)=ba (bE u v):=rfl
def zG {U:Jn (T×W)}{k:T}{v:W}{p:T×W}(h:p∈eE U k v):p∈U\/p=(k,v):=by
 unfold eE at h;split at h
 ·obtain⟨q,hq,rfl⟩:=JF.mp h;split
  ·rename_i e; exact .inr (by rw[e])
  ·exact .inl hq
 ·rcases Kc.mp h with h|h
  ·exact .inl h
  ·exact .inr (JK.mp h)
def lD {U:Jn (T×W)}{k:T}{v:W}(h:bF U k=ba v):(k,v)∈U:=by
 unfold bF at h;rw[Js]at h;obtain⟨p,h1,rfl⟩:=h;have:=Pr h1;rw[<- Kt this];exact List.mem_of_find?_eq_some h1
def uL {U:Jn (T×W)}{p:T×W}(h:p∈U):∃v,bF U p.1=ba v:=by
 unfold bF;cases e:U.find? λq=>decide (q.1=p.1)with
 | some q=>exact#[q.2,rfl]
 | none=>exact absurd (List.find?_eq_none.mp e p h) (by simp)
abbrev MustE (S:aa)(n b:Jx)(U:Jn (T×W)):Prop:=∀p∈U,∃(u v:JI) (l:Jx) (ws:Jn JI),p=(bE u v,W.ref l)/\(0<=u/\u < n)/\(0<=v/\v < n)/\b<=l/\S[l]?=ba (.lst (ae ws))/\ws.length<=3/\∀w∈ws,0<=w/\w < (n:JI)
def MustE.mono {S S':aa}{n b:Jx}{U:Jn (T×W)}(h:MustE S n b U)(k:∀(l:Jx) (ws:Jn JI),b<=l->S[l]?=ba (.lst (ae ws))->S'[l]?=ba (.lst (ae ws))):MustE S' n b U:=λp hp=>
 let ⟨u,v,l,ws,h1,h2,h3,h4,h5,h6⟩:=h p hp
 #[u,v,l,ws,h1,h2,h3,h4,k l ws h4 h5,h6]
def MustE.ka {S S':aa}{n b:Jx}{U:Jn (T×W)}(h:MustE S n b U)(k:Ka S S'):MustE S' n b U:=h.mono λl ws _ e=>k.get _ _ e
def MustE.kp {S S':aa}{n b r:Jx}{U:Jn (T×W)}(h:MustE S n b U)(hr:r < b)(k:Kp r S S'):MustE S' n b U:=h.mono λl ws hl e=>k.get _ _ ∅ e
def MustE.set {S:aa}{n b t:Jx}{U k:Jn (T×W)}{o:O}(h:MustE S n b U)(ht:S[t]?=ba (.dic k)):MustE (S.set t o) n b U:=h.mono λl ws hl e=>by
 rw[be (by rintro rfl; rw[ht]at e; cases e)]; exact e
def MustE.put {S:aa}{n b:Jx}{U:Jn (T×W)}{u v:JI}{l:Jx}{ws:Jn JI}(h:MustE S n b U)(h2:0<=u/\u < n)(h3:0<=v/\v < n)(h4:b<=l)(h5:S[l]?=ba (.lst (ae ws)))(h6:ws.length<=3)(h7:∀w∈ws,0<=w/\w < (n:JI)):MustE S n b (eE U (bE u v) (.ref l)):=λp hp=>by
 rcases zG hp with hp|rfl
 ·exact h p hp
 ·exact#[u,v,l,ws,rfl,h2,h3,h4,h5,h6,h7]
noncomputable abbrev Ch:=JI×JI×Jn JI
abbrev qO (ws:Jn JI):Es:=ws.foldr (λw es=>.cons (.c (.int w)) es) .nil
abbrev uM:Jn Ch->Es
 | []=>.nil
 | e::L=>.cons (.tup #v[.c (.int e.1),.c (.int e.2.1)]) (.cons (.lst (qO e.2.2)) (uM L))
abbrev wf:Jn Ch->Jx->Jn W
 | [],_=>[]
 | e::L,s=>dC e.1 e.2.1::.ref s::wf L (s+1)
abbrev wg (L:Jn Ch):aa:=L.map λe=>O.lst (ae e.2.2)
abbrev uN (n:Jx)(e:Ch):J3:=decide ((0<=e.1/\e.1 < n)/\(0<=e.2.1/\e.2.1 < n)/\e.2.2.length<=3)&&e.2.2.all λw=>decide (0<=w/\w < (n:JI))
section
variable{M:JS->FF}{Z:Fm}
def sJ {S:aa}:∀ {ws:Jn JI} {Q:Jn W×aa->Prop},Q (ae ws,S)->wA M (qO ws) Z S Q
 | [],Q,q=>by change wA M .nil Z S Q; exact q
 | w::ws,Q,q=>by change wA M (.cons (.c (.int w)) (qO ws)) Z S Q; dsimp only[wA,wE]; exact sJ q
def zH:∀ {L:Jn Ch} {S:aa} {Q:Jn W×aa->Prop},Q (wf L S.length,S++wg L)->wA M (uM L) Z S Q
 | [],S,Q,q=>by
  change wA M .nil Z S Q;dsimp only[wA]
  rwa [show S++wg []=S from Li S]at q
 | e::L,S,Q,q=>by
  change wA M (.cons (.tup #v[.c (.int e.1),.c (.int e.2.1)]) (.cons (.lst (qO e.2.2)) (uM L))) Z S Q;dsimp only[wA,wE];show sJ (zH ?_);rw[JC,Lz];exact q
end
def ni {S:aa}{n b:Jx}:∀(L:Jn Ch) (s:Jx) (U:Jn (T×W)),MustE S n b U->b<=s->(∀e∈L,uN n e=true)->(∀i e,L[i]?=ba e->S[s+i]?=ba (.lst (ae e.2.2)))->∃U',dF U (wf L s)=ba U'/\MustE S n b U'/\U'.length<=U.length+L.length
 | [],s,U,hm,hb,hL,hS=>#[U,by simp[wf,dF],hm,by simp]
 | e::L,s,U,hm,hb,hL,hS=>by
  have h1:=hL e (by simp)
  unfold uN at h1;rw[Jv,JQ]at h1;obtain⟨h2,h3,h4⟩:=Kt h1.1;obtain⟨U',k1,k2,k3⟩:=ni L (s+1) (eE U (bE e.1 e.2.1) (.ref s)) (hm.put h2 h3 hb (by have:=hS 0 e rfl; simpa using this) h4 (λw hw=>Kt (h1.2 w hw))) ∅ (λx hx=>hL x (by simp[hx])) (λi x hx=>by have:=hS (i+1) x (by simpa using hx); rw[show s+1+i=s+(i+1) by omega]; exact this)
  show#[U',?_,k2,?_]
  ·simp only[wf,dF,jd]; exact k1
  ·have:=cO U (bE e.1 e.2.1) (.ref s);rw[Kr]; omega
abbrev KB:Jn (Jn JI):=[[1,0],[0,2,1],[0,1],[0,1,2]]
abbrev KindOk (S:aa)(b:Jx)(w:W):Prop:=∃(bs:Jn JI) (q:Jx) (U:Jn (T×W)) (most:JI),w=.tup [.tup (ae bs),.ref q,.int most]/\bs∈KB/\1<=most/\most<=3/\most*bs.length<=6/\S[q]?=ba (.dic U)/\b<=q/\U.length<=4/\MustE S bs.length b U
def KindOk.mono {S S':aa}{b:Jx}{w:W}(h:KindOk S b w)(k1:∀(l:Jx) (ws:Jn JI),b<=l->S[l]?=ba (.lst (ae ws))->S'[l]?=ba (.lst (ae ws)))(k2:∀(l:Jx) (U:Jn (T×W)),b<=l->S[l]?=ba (.dic U)->S'[l]?=ba (.dic U)):KindOk S' b w:=
 let ⟨bs,q,U,most,h1,h2,h3,h4,h5,h6,h7,h8,h9⟩:=h
 #[bs,q,U,most,h1,h2,h3,h4,h5,k2 _ _ h7 h6,h7,h8,h9.mono k1]
def KindOk.ka {S S':aa}{b:Jx}{w:W}(h:KindOk S b w)(k:Ka S S'):KindOk S' b w:=h.mono (λl ws _ e=>k.get _ _ e) (λl ws _ e=>k.get _ _ e)
abbrev zI (bs:Jn JI)(L:Jn Ch)(most:JI):E:=.tup #v[.tup (qO bs),.disp (uM L),.c (.int most)]
section
variable{M:JS->FF}{Z:Fm}{S:aa}
def oQ (bs:Jn JI)(L:Jn Ch)(most:JI){b:Jx}{Q:QW}(hb:b<=S.length)(h1:bs∈KB)(h2:1<=most/\most<=3/\most*bs.length<=6)(hL:∀e∈L,uN bs.length e=true)(h4:L.length<=4)(k:∀w S',KindOk S' b w->Ka S S'->Q (w,S')) :
  wE M (zI bs L most) Z S Q:=by
 unfold zI;dsimp only[wE,wA];show sJ (zH ?_);obtain⟨U,k1,k2,k3⟩:=ni (S:=S++[O.dic []]++wg L) (n:=bs.length) (b:=b) L (S.length+1) [] (λ_ h=>nomatch h) ∅ hL (λi e he=>by
  rw[LO (by simp),show S.length+1+i - (S++[O.dic []]).length=i by simp]
  simp[wg,he])
 have hat:(S++[O.dic []]++wg L)[S.length]?=ba (.dic []):=by
  rw[Ku (by simp)]; exact ag
 show#[hat,ab (show dF [] (wf L (S++[O.dic []]).length)=ba U by rw[JC]; exact k1) (k _ _ #[bs,S.length,U,most,rfl,h1,h2.1,h2.2.1,h2.2.2,aT hat,hb,?_,k2.set hat] #[λj o h=>?_,by simp])]
 ·simp only[LS]at k3; omega
 ·have:j < S.length:=bS h;show((S++[O.dic []]++wg L).set S.length (O.dic U))[j]?=ba o;rw[be ∅,Ku (by simp; omega)]
  exact al h
structure Menu (S0 S:aa)(r t m:Jx):Prop where
 at_t:∃xs:Jn W,S[t]?=ba (.lst xs)/\xs.length=m/\∀x∈xs,KindOk S S0.length x
 pos:0 < m
 j5:m<=9
 fl:Fl S r
 kp:Kp r S0 S
 lt:S0.length<=t
 rlt:r < S0.length
def qP {S0 S S':aa}{r t m:Jx}{w:W}(h:Menu S0 S r t m)(hw:KindOk S' S0.length w)(k:Ka S S')(hm:m < 9):∃xs,S'[t]?=ba (.lst xs)/\xs.length < sizeLine/\Menu S0 (S'.set t (.lst (xs++[w]))) r t (m+1):=by
 obtain⟨⟨xs,h1,h2,h3⟩,hp,hf,fl,kp,lt,rlt⟩:=h;have e:S'[t]?=ba (.lst xs):=k.get _ _ h1;have stay:∀x,KindOk S' S0.length x->KindOk (S'.set t (.lst (xs++[w]))) S0.length x:=λx hx=>hx.mono (λl ws hl el=>by
  by_cases hlt:t=l
  ·exfalso;subst hlt;rw[e]at el;injection el with el
   injection el with el
   match xs,h2,h3 with
   | [],h2,_=>simp at h2; omega
   | x::xs,_,h3=>
    obtain⟨bs,q,U,most,hx,_⟩:=h3 x (by simp)
    subst hx
    match ws with
    | []=>simp[ae]at el
    | w::ws=>simp[ae]at el
  ·rw[be hlt]; exact el) (λl U hl el=>by
  rw[be (by rintro rfl; rw[e]at el; cases el)]; exact el)
 show#[xs,e,(by rw[Ky]; omega),#[xs++[w],aT e,by simp; omega,λx hx=>?_],∅,∅,(fl.ka k).own ∅,(kp.trans (k.kp r)).late lt,lt,rlt]
 rcases Kc.mp hx with hx|hx
 ·exact stay x ((h3 x hx).ka k)
 ·rw[JK.mp hx]; exact stay w hw
def qQ (bs:Jn JI)(L:Jn Ch)(most:JI){fuel:Jx}{S0:aa}{r t m:Jx}{x0:Jw W}{K:Fm->aa->Prop}{Q:QO}(h:Menu S0 S r t m)(hm:m < 9)(h1:bs∈KB)(h2:1<=most/\most<=3/\most*bs.length<=6)(hL:∀e∈L,uN bs.length e=true)(h4:L.length<=4)(k:∀S',Menu S0 S' r t (m+1)->K [x0,ba (.ref t)] S') :
  wS M fuel (.ex (.me .append (.v 1) #v[zI bs L most])) [x0,ba (.ref t)] S K Q:=by
 left;obtain⟨xs,e1,e2,e3⟩:=h.at_t;show#[cv e1,oQ bs L most (J6 h.lt (MN (bS e1))) h1 h2 hL h4 λw S' k1 k2=>?_]
 obtain⟨xs',f1,f2,f3⟩:=qP h k1 k2 hm;exact ab (uz f1 f2) (k _ f3)
def l8 {defs:Jn (JS×Df)}{fuel d:Jx}{r:Jx}{Q:QW}(G:Gen defs)(hf:Fl S r)(k:∀w S',KindOk S' S.length w->Fl S' r->Kp r S S'->Q (w,S')):wO (aP (am defs fuel (d+2)) "_law_laying_kind" 1 [.ref r] S) Q:=by
 show ay G.laying_kind rfl rfl λQ' hR=>?_
 replace k:∀w S',KindOk S' S.length w->Fl S' r->Kp r S S'->Q' (.rt w,S'):=λz S' a b c=>hR _ _ (k z S' a b c)
 clear hR;change wZ _ _ bU [ba (.ref r),gV] S Q';have hrt:=hf.lt;unfold bU;nofun
 show GL ?_;change wA _ _ _ _ _; change wE _ _ _ _ _
 show oQ [1,0] [(0,0,[0])] 3 (b:=S.length) (JA _) #v[] #v[] #v[] #v[] λw1 S1 k1 a1=>?_
 change wE _ _ _ _ _;show oQ [0,2,1] [(1,1,[1])] 2 (b:=S.length) a1.len #v[] #v[] #v[] #v[] λw2 S2 k2 a2=>?_
 have a12:=a1.trans a2;change wE _ _ _ _ _;show oQ [0,1] [(1,1,[1])] 3 (b:=S.length) a12.len #v[] #v[] #v[] #v[] λw3 S3 k3 a3=>?_
 have a13:=a12.trans a3;dsimp only[wA];show hK _ _ ?_;clear hK K;have m3:Menu S (S3++[O.lst [w1,w2,w3]]) r S3.length 3:=by
  show#[#[[w1,w2,w3],ag,rfl,λx hx=>?_],#v[],#v[],(hf.ka a13).ka .push,(a13.trans .push).kp r,a13.len,hrt]
  rcases JR.mp hx with rfl|hx
  ·exact(k1.ka (a2.trans a3)).ka .push
  ·rcases JR.mp hx with rfl|hx
   ·exact(k2.ka a3).ka .push
   ·rw[JK.mp hx];exact k3.ka .push
 dsimp only[JG];clear k1 k2 k3 a1 a2 a3 a12 a13;generalize S3.length=t at m3;generalize S3++[O.lst [w1,w2,w3]]=S3' at m3;show aG λK hK=>qQ [0,1] [(1,1,[1]),(0,0,[1])] 3 m3 #v[] #v[] #v[] #v[] #v[] λS4 m4=>hK _ _ ?_
 show aG λK hK=>qQ [0,1] [(1,1,[])] 1 m4 #v[] #v[] #v[] #v[] #v[] λS5 m5=>hK _ _ ?_
 show aG λK hK=>qQ [0,2,1] [(0,0,[0]),(0,1,[1]),(1,0,[1]),(1,1,[1])] 2 m5 #v[] #v[] #v[] #v[] #v[] λS6 m6=>hK _ _ ?_
 nofun
 left;obtain⟨xs,e1,e2,e3⟩:=m6.at_t;obtain⟨xs',f1,f2,m7⟩:=qP (S':=S6++[O.dic []]) (w:=.tup [.tup (ae [1,0]),.ref S6.length,.int 3]) m6 #[[1,0],S6.length,[],3,rfl,#v[],#v[],#v[],#v[],ag,m6.kp.len,#v[],λ_ h=>(nomatch h)] .push #v[]
 show#[cv e1,ab (uz f1 f2) (hK _ _ ?_)];show aG λK hK=>qQ [0,1,2] [(2,2,[2]),(1,2,[1]),(2,1,[1]),(1,1,[1,2])] 2 m7 #v[] #v[] #v[] #v[] #v[] λS8 m8=>hK _ _ ?_
 show aG λK hK=>qQ [0,1,2] [(0,0,[0,1])] 2 m8 #v[] #v[] #v[] #v[] #v[] λS9 m9=>hK _ _ ?_
 show st ?_;left;show aM (d:=d) G.pick m9.fl #v[] #v[] λv S10 v0 v9 f10 k10=>?_
 obtain⟨xs,g1,g2,g3⟩:=m9.at_t;have hlt:=m9.lt;have hv:v.toNat < xs.length:=∅
 exact fq (k10.get _ _ ∅ g1) v0 (Jy hv) (k _ _ ((g3 _ (Kd hv)).mono (λl ws hl e=>k10.get _ _ ∅ e) (λl ws hl e=>k10.get _ _ ∅ e)) f10 (m9.kp.trans k10))
end
abbrev qR (bs:Jn JI):Jn (Jn JI):=if bs=[0,1,2]then[[0,1,2],[0,2,1],[1,0,2],[1,2,0],[2,0,1],[2,1,0]]else if bs.length=2 then[[0,1],[1,0]]else[[0,1,2],[0,2,1],[2,0,1],[2,1,0]]
abbrev hZ (bs nm:Jn JI):Jx->Jn JI
 | 0=>Km bs.length 0
 | k+1=>(hZ bs nm k).set (nm.getD k 0).toNat (nm.getD (bs.getD k 0).toNat 0)
def jE (bs nm:Jn JI):∀k,(hZ bs nm k).length=bs.length
 | 0=>by simp[hZ]
 | k+1=>by simp[hZ,jE bs nm k]
def Ci:∀bs∈KB,∀nm∈qR bs,nm.length=bs.length/\(∀x∈nm,0<=x/\x < (bs.length:JI))/\(∀x∈bs,0<=x/\x < (bs.length:JI))/\GoodB (hZ bs nm bs.length):=by
 unfold GoodB;decide +kernel
def zJ:∀bs∈KB,(bs.length=2\/bs.length=3)/\0 < (qR bs).length/\(qR bs).length < 10:=by decide
section
variable{M:JS->FF}{fuel:Jx}{Z:Fm}{S:aa}{K:Fm->aa->Prop}{Q:QO}
def Cj {tg:Tg}{e:E}{b:Ss}(r:Jx)(U:Jn (T×W))(I:Jx->Fm->aa->Prop)(oe:dA e=true)(ok:gX b=true)(he:wE M e Z S λp=>p.1=.ref r/\p.2[r]?=ba (.dic U)/\I 0 Z (p.2.set r (.frd U)))
  (hstep:∀(i:Jx) (p:T×W) (Z:Fm) (S:aa),U[i]?=ba p->I i Z S->wO (fZ tg p.1.w Z S) λq=>wM M fuel b q.1 q.2 (I (i+1)) Q) (hend:∀Z S,I U.length Z S->K Z S):Wp (ga M fuel (.loop tg (.seq e) b) Z S) (rH K Q):=by
 obtain⟨w,S1,e1,rfl,e2,h0⟩:=br oe he;show iC (mi:=.its (U.map λp=>p.1.w)) (S1:=S1.set r (.frd U)) (xs:=U.map λp=>p.1.w) I ok (by simp only[iZ,ee,e1,oE e2,ci e2]) (λ_ _ _ _=>rfl) rfl h0 (λi w Z S hw hI=>?_) λZ S hI=>hend Z S (by rwa [Jp]at hI)
 rw[JB,Js]at hw;obtain⟨p,hp,rfl⟩:=hw;exact hstep i p Z S hp hI
end
section
variable{defs:Jn (JS×Df)}{fuel d:Jx}{S:aa}{r:Jx}{Q:QW}
def GQ {i n:Jx}{x:W}(h:S[i]?=ba (.lst [x]))(hn:n<=1000)(q:Q (.ref S.length,S++[.lst (Km n x)])):wO (fT .mul (.ref i) (.int (n:JI)) S) Q:=by
 show ab ?_ q;have:n<=sizeLine:=j5 hn;simp only[fT,xz,di h];rw[JX #[∅,∅,by simpa using this]]
 unfold lY;simp[this]
def nj {q:Jx}{U:Jn (T×W)}{u v:JI}{w:W}(h:jN S q=ba U)(hg:bF U (bE u v)=ba w):o7 (.ref q) (.tup [.int u,.int v]) S=ba (w,S):=by
 have hk:gS (.tup [.int u,.int v])=ba (bE u v):=jd;simp only[o7,h,hk,hg,Kg]
def zK {q:Jx}{U:Jn (T×W)}{u v:JI}{w:W}(h:S[q]?=ba (.dic U))(hl:U.length < sizeLine):iU (.ref q) (.tup [.int u,.int v]) w S=ba (S.set q (.dic (eE U (bE u v) w))):=by
 have hk:gS (.tup [.int u,.int v])=ba (bE u v):=jd;simp only[iU,nV,h,hk];rw[JX hl]
def jF {xs:Jn JI}{x:JI}(h0:0<=x)(h1:x.toNat < xs.length):(ae xs)[x.toNat]?=ba (.int (xs.getD x.toNat 0)):=by
 unfold ae;rw[JB,ap (d:=0) h1]; rfl
def gq {xs:Jn JI}{i:Jx}(h:i < xs.length):xs.getD i 0∈xs:=JJ (ap (d:=0) h)
def l9 (G:Gen defs){Q:QO}{bs:Jn JI}{x0 x2:Jw W}(hb:bs∈KB)
  (hk:∀(m s:Jx) (S':aa),Ka S S'->S'[s]?=ba (.lst ((qR bs).map λnm=>W.tup (ae nm)))->S.length<=s->wZ (am defs fuel (d+1)) fuel (dr 5 bg) [x0,ba (.tup (ae bs)),x2,ba (.int bs.length),ba (.ref m),ba (.ref s),gV,gV,gV,gV,gV,gV] S' Q) :
  wZ (am defs fuel (d+1)) fuel bg [x0,ba (.tup (ae bs)),x2,gV,gV,gV,gV,gV,gV,gV,gV,gV] S Q:=by
 generalize hd5:dr 5 bg=bw at hk;unfold bg at hd5 ⊢;dsimp only[dr]at hd5;rw[hd5];clear hd5;nofun
 left;show aN ?_;rw[show(ae bs).length=bs.length from Jp ..]
 show hK _ _ ?_;clear hK K;nofun
 left;have hm:(((S++[O.lst [.tup [.int 0]]])++[O.lst [.tup [.int 0,.int 1],.tup [.int 1,.int 0]]])++[O.lst [.ref S.length,.ref (S++[O.lst [.tup [.int 0]]]).length]])[((S++[O.lst [.tup [.int 0]]])++[O.lst [.tup [.int 0,.int 1],.tup [.int 1,.int 0]]]).length]?=ba (.lst [.ref S.length,.ref (S++[O.lst [.tup [.int 0]]]).length]):=ag;show hK _ _ ?_;clear hK K;generalize hS1:S++[O.lst [.tup [.int 0]]]=S1 at hm ⊢;generalize hS2:S1++[O.lst [.tup [.int 0,.int 1],.tup [.int 1,.int 0]]]=S2 at hm ⊢;generalize hS3:S2++[O.lst [.ref S.length,.ref S1.length]]=S3 at hm ⊢;have l1:S1.length=S.length+1:=by rw[<- hS1]; simp
 have l2:S2.length=S1.length+1:=by rw[<- hS2]; simp
 have l3:S3.length=S2.length+1:=by rw[<- hS3]; simp
 have kS2:Ka S S2:=by rw[<- hS2,<- hS1]; exact Ka.push.trans .push
 nofun
 left;show#[cv hm,jV (al hm) (by decide:2 < 1000) (hK _ _ ?_)]
 clear hK K;generalize hS5:(S3++[O.lst [.tup [.int 0,.int 1,.int 2],.tup [.int 0,.int 2,.int 1],.tup [.int 2,.int 0,.int 1],.tup [.int 2,.int 1,.int 0]]]).set S2.length (.lst ([.ref S.length,.ref S1.length]++[.ref S3.length]))=S5;have k5:Ka S S5:=by
  rw[<- hS5,<- hS3];exact Ka.late (kS2.trans (Ka.push.trans .push)) ∅
 have m5:S5[S2.length]?=ba (.lst [.ref S.length,.ref S1.length,.ref S3.length]):=by
  rw[<- hS5]; exact aT (al hm)
 have p5:S5[S1.length]?=ba (.lst [.tup [.int 0,.int 1],.tup [.int 1,.int 0]]):=by
  rw[<- hS5,be ∅,<- hS3,<- hS2]
  exact al (al ag)
 have t5:S5[S3.length]?=ba (.lst [.tup [.int 0,.int 1,.int 2],.tup [.int 0,.int 2,.int 1],.tup [.int 2,.int 0,.int 1],.tup [.int 2,.int 1,.int 0]]):=by
  rw[<- hS5,be ∅]
  exact ag
 have h1:S.length<=S1.length:=∅
 have h3:S.length<=S3.length:=∅
 clear hS1 hS2 hS3 hS5 hm l1 l2 l3 kS2;nofun
 dsimp only[wS,wE,wA,wV,wG,JG,qC,aF];have hb':bs=[1,0]\/bs=[0,2,1]\/bs=[0,1]\/bs=[0,1,2]:=by simpa [KB]using hb
 rcases hb' with rfl|rfl|rfl|rfl
 ·show eF (i:=1) m5 rfl (hK _ _ (aG λK hK=>bZ (λQ q=>q) (hK _ _ (hk _ _ _ k5 p5 h1))))
 ·show eF (i:=2) m5 rfl (hK _ _ (aG λK hK=>bZ (λQ q=>q) (hK _ _ (hk _ _ _ k5 t5 h3))))
 ·show eF (i:=1) m5 rfl (hK _ _ (aG λK hK=>bZ (λQ q=>q) (hK _ _ (hk _ _ _ k5 p5 h1))))
 ·show eF (i:=2) m5 rfl (hK _ _ (aG λK hK=>lr (λQ q=>q) λQ2 hn _=>?_))
  show st ?_;left;exact ko (d:=d) G (bA (hn _ _ (hK _ _ (hk _ _ _ (k5.trans .push) ag k5.len))))
def sK (G:Gen defs){S0:aa}{bs:Jn JI}{q:Jx}{U:Jn (T×W)}(hb:bs∈KB)(hf:Fl S r)(hr:r < S0.length)(kp:Kp r S0 S)(hq:S[q]?=ba (.dic U))(hq0:S0.length<=q)(h4:U.length<=4)(hm:MustE S bs.length S0.length U)
  (k:∀(bs':Jn JI) (q':Jx) (U':Jn (T×W)) S',GoodB bs'->bs'.length=bs.length->S'[q']?=ba (.dic U')->S0.length<=q'->MustE S' bs.length S0.length U'->Fl S' r->Kp r S0 S'->Q (.tup [.tup (ae bs'),.ref q'],S')) :
  wO (aP (am defs fuel (d+2)) "_law_numbered" 3 [.ref r,.tup (ae bs),.ref q] S) Q:=by
 show ay G.numbered rfl rfl λQ' hR=>?_
 replace k:∀(bs':Jn JI) (q':Jx) (U':Jn (T×W)) S',GoodB bs'->bs'.length=bs.length->S'[q']?=ba (.dic U')->S0.length<=q'->MustE S' bs.length S0.length U'->Fl S' r->Kp r S0 S'->Q' (.rt (.tup [.tup (ae bs'),.ref q']),S'):=λa b c e f g h i j l m=>hR _ _ (k a b c e f g h i j l m)
 clear hR;show l9 (d:=d) G hb ?_;intro m s S1 k1 e1 hs;dsimp only[dr,bg];have hrt:=hf.lt;obtain⟨hb1,hb2,hb3⟩:=zJ bs hb;nofun
 left;show eu e1 ?_;rw[Jp];show aM (d:=d) G.pick (hf.ka k1) ∅ ∅ λv S2 v0 v1 f2 k2=>?_
 obtain⟨nm,hnmm,enm⟩:=lw (f:=λnm=>W.tup (ae nm)) (xs:=qR bs) (i:=v.toNat) ∅
 obtain⟨n1,n2,n3,n4⟩:=Ci bs hb nm hnmm;show fq (k2.get _ _ ∅ e1) v0 enm (hK _ _ ?_)
 clear hK K;nofun
 left;show GQ ag ∅ (hK _ _ ?_)
 clear hK K;generalize hS4:S2++[O.lst [.int 0]]=S4;have k24:Ka S2 S4:=hS4 ▸ .push;have f4:Fl S4 r:=f2.ka k24;have kp4:Kp r S0 S4:=(kp.trans (k1.kp r)).trans (k2.trans (k24.kp r));have q4:S4[q]?=ba (.dic U):=k24.get _ _ (k2.get _ _ ∅ (k1.get _ _ hq))
 have m4:MustE S4 bs.length S0.length U:=((hm.ka k1).kp hr k2).ka k24;clear hS4 k24 hm hq f2 k2 k1 e1 enm hf;nofun
 show bT (bs.length:JI) (λk Z S'=>(∃x8,Z=[ba (.ref r),ba (.tup (ae bs)),ba (.ref q),ba (.int bs.length),ba (.ref m),ba (.ref s),ba (.tup (ae nm)),ba (.ref S4.length),x8,gV,gV,gV])/\S'[S4.length]?=ba (.lst (ae (hZ bs nm k)))/\Ka S4 S') rfl rfl ∅ #[rfl,#[_,rfl],?_,.push] ?_ ?_
 ·rw[ag]; simp[hZ,ae]
 ·rintro i Z S5 hi ⟨⟨x8,rfl⟩,e5,k5⟩ Q2 hn _;clear hK k;have hi':i < bs.length:=∅
  have hi1:i < nm.length:=∅
  have c:=n3 _ (gq hi');have c2:=n2 _ (gq hi1);show st ?_;left;show ak (JN i) (jF (JN i) hi') (ak c.1 (jF c.1 (by rw[JL]; omega)) (ak (JN i) (jF (JN i) hi1) ?_))
  rw[JL];show ab (CT e5 c2.1 (by rw[show(ae (hZ bs nm i)).length=_ from Jp ..,jE]; omega)) (bA (hn _ _ #[#[_,rfl],?_,k5.late (JA _)]))
  rw[aT e5];unfold ae;rw[hZ,List.map_set]
 ·rintro Z S5 ⟨⟨x8,rfl⟩,e5,k5⟩;rw[JL]at e5;show hK _ _ (st ?_);clear hK K;dsimp only[wS,wE,JG];have f5:Fl S5 r:=f4.ka k5;have q5:S5[q]?=ba (.dic U):=k5.get _ _ q4;have m5:MustE S5 bs.length S0.length U:=m4.ka k5;have kp5:Kp r S0 S5:=kp4.trans (k5.kp r);have hq5:=bS q5;have ht5:=bS e5;have hqt:q≠S4.length:=by rintro rfl; rw[e5]at q5; cases q5
  have hn9:(bs.length:JI)<=3:=∅
  have hr5:=f5.lt;clear k5 m4 q4 f4;nofun
  show Cj q U (λk Z S'=>(∃x10 x11,Z=[ba (.ref r),ba (.tup (ae bs)),ba (.ref q),ba (.int bs.length),ba (.ref m),ba (.ref s),ba (.tup (ae nm)),ba (.ref S4.length),x8,ba (.ref S5.length),x10,x11])/\S'[q]?=ba (.frd U)/\MustE S' bs.length S0.length U/\S'[S4.length]?=ba (.lst (ae (hZ bs nm bs.length)))/\(∃U',S'[S5.length]?=ba (.dic U')/\U'.length<=k/\MustE S' bs.length S0.length U')/\Fl S' r/\Kp r S0 S') rfl rfl #[rfl,al q5,#[gV,gV,rfl],aT (al q5),(m5.ka .push).set (al q5),?_,#[[],?_,JA _,λ_ h=>(nomatch h)],(f5.ka .push).own ∅,(kp5.trans .push).late hq0] ?_ ?_
  ·rw[be hqt]; exact al e5
  ·rw[be ∅]; exact ag
  ·rintro i p Z S6 hp ⟨⟨x10,x11,rfl⟩,q6,m6,t6,⟨U',o6,l6,mm6⟩,f6,kp6⟩;clear hK k;have hpm:=JJ hp;have hil:=(JD.mp hp).1;obtain⟨u,v',l,ws,rfl,hu,hv',hl,hws,hl3,hw3⟩:=m6 p hpm;obtain⟨g,hg⟩:=uL hpm;obtain⟨u2,v2,l2,ws2,he2,_,_,hl2,hws2,hl32,hw32⟩:=m6 _ (lD hg);injection he2 with _ he2
   subst he2;have hul:u.toNat < nm.length:=∅
   have hvl:v'.toNat < nm.length:=∅
   show ab (show fZ (.tp [10,11]) (bE u v',W.ref l).1.w [ba (.ref r),ba (.tup (ae bs)),ba (.ref q),ba (.int bs.length),ba (.ref m),ba (.ref s),ba (.tup (ae nm)),ba (.ref S4.length),x8,ba (.ref S5.length),x10,x11] S6=ba ([ba (.ref r),ba (.tup (ae bs)),ba (.ref q),ba (.int bs.length),ba (.ref m),ba (.ref s),ba (.tup (ae nm)),ba (.ref S4.length),x8,ba (.ref S5.length),ba (.int u),ba (.int v')],S6)from rfl) λQ2 hn _=>?_
   show st ?_;left;show uD l2 (ae ws2) (λi zs Z2 S7=>(∃a1,Z2=[gV,a1,ba (.tup (ae nm))])/\zs=ae ((ws2.take i).map λw=>nm.getD w.toNat 0)/\S7=S6) rfl rfl rfl ?_ ?_ ?_ ?_
   ·dsimp only[wE,wA,wV,wG];exact ab (nj (B4 q6) hg) #[rfl,#[_,rfl],rfl,rfl]
   ·rintro i zs Z2 S7 ⟨_,_,rfl⟩;exact hws2
   ·rintro i w zs Z2 S7 hw ⟨⟨a1,rfl⟩,rfl,rfl⟩;unfold ae at hw;rw[JB,Js]at hw;obtain⟨x,hx,rfl⟩:=hw;obtain⟨x0,x1⟩:=hw32 x (JJ hx);have hxl:x.toNat < nm.length:=∅
    show ab (show fZ (.nm 1) (.int x) [gV,a1,ba (.tup (ae nm))] S7=ba ([gV,ba (.int x),ba (.tup (ae nm))],S7)from rfl) ?_
    dsimp only[fP,wC,wE,wA,wV,wG];show#[λ_=>ak x0 (jF x0 hxl) #[#[_,rfl],?_,rfl],λz=>by cases z]
    rw[Kj,hx];simp[ae]
   ·rintro zs Z2 S7 ⟨_,rfl,rfl⟩;rw[show(ae ws2).length=ws2.length from Jp ..,Kx]
    show#[j5 (by simp[ae]; omega),ak hu.1 (jF hu.1 hul) (ak hv'.1 (jF hv'.1 hvl) ?_)]
    show ab (zK (al o6) (by rw[Ky]; omega)) (bA (hn _ _ #[#[_,_,rfl],?_,(m6.ka .push).set (al o6),?_,#[_,aT (al o6),?_,?_],(f6.ka .push).own ∅,(kp6.trans .push).late kp5.len]))
    ·rw[be ∅]; exact al q6
    ·rw[be ∅]; exact al t6
    ·exact J6 (cO ..) (NW l6)
    ·show((mm6.ka .push).put (n2 _ (gq hul)) (n2 _ (gq hvl)) kp6.len ag (by simp; omega) ?_).set (al o6)
     intro w hw;obtain⟨x,hx,rfl⟩:=JF.mp hw;obtain⟨x0,x1⟩:=hw32 x hx;exact n2 _ (gq ∅)
  ·rintro Z S6 ⟨⟨x10,x11,rfl⟩,q6,m6,t6,⟨U',o6,l6,mm6⟩,f6,kp6⟩;show hK _ _ (st ?_);left;exact dB t6 (k _ _ U' _ n4 (jE _ _ _) o6 kp5.len mm6 f6 kp6)
end
abbrev wj (x y z:JI):Jn (T×W):=[(bE 1 0,.int x),(bE 2 0,.int y),(bE 2 1,.int z)]
abbrev Ck (x y z a b c:JI):Jx->Jn (T×W)
 | 0=>wj x y z
 | 1=>wj x y z++[(bE 0 1,.int a)]
 | 2=>wj x y z++[(bE 0 1,.int a),(bE 0 2,.int b)]
 | _=>wj x y z++[(bE 0 1,.int a),(bE 0 2,.int b),(bE 1 2,.int c)]
def EB {n x y z a b c:JI}(hx:0<=x/\x < n)(hy:0<=y/\y < n)(hz:0<=z/\z < n)(ha:0<=a/\a < n)(hb:0<=b/\b < n)(hc:0<=c/\c < n):∀i j:Jx,i < 3->j < 3->i≠j->∃p:JI,bF (Ck x y z a b c 3) (bE i j)=ba (.int p)/\0<=p/\p < n:=by
 intro i j hi hj hij
 match i,j,hi,hj,hij with
 | 0,0,_,_,h=>exact absurd rfl h
 | 0,1,_,_,_=>exact#[a,by rfl,ha]
 | 0,2,_,_,_=>exact#[b,by rfl,hb]
 | 1,0,_,_,_=>exact#[x,by rfl,hx]
 | 1,1,_,_,h=>exact absurd rfl h
 | 1,2,_,_,_=>exact#[c,by rfl,hc]
 | 2,0,_,_,_=>exact#[y,by rfl,hy]
 | 2,1,_,_,_=>exact#[z,by rfl,hz]
 | 2,2,_,_,h=>exact absurd rfl h
def qS:∀t∈ar,t.length=3/\t.getD 0 0 < 3/\t.getD 1 0 < 3/\t.getD 2 0 < 3/\t.getD 0 0≠t.getD 1 0/\t.getD 1 0≠t.getD 2 0/\t.getD 0 0≠t.getD 2 0:=by decide
def zL {t:Jn Jx}(h:t∈ar):∃i j k:Jx,t=[i,j,k]/\i < 3/\j < 3/\k < 3/\i≠j/\j≠k/\i≠k:=by
 obtain⟨h1,h2⟩:=qS t h
 match t,h1,h2 with
 | [i,j,k],_,h2=>exact#[i,j,k,rfl,h2]
section
variable{defs:Jn (JS×Df)}{fuel d:Jx}{S:aa}{r:Jx}{Q:QW}
def zM {l:Jx}{f:JI}{ws:Jn JI}(h:S[l]?=ba (.lst (ae ws))):∃b,aZ .notin (.int f) (.ref l) S=ba (.bl b,S):=by
 have hf:(bI (.int f)&&(ae ws).all bI)=true:=by
  (dsimp only[bI]; simp only[Nr,JQ])
  intro x hx;obtain⟨z,_,rfl⟩:=JF.mp hx;rfl
 show#[!(ae ws).any λz=>xE z (.int f),?_]
 (dsimp only[aZ,ik,DP,Bc,eH]; simp only[km h,aq h,hf,Lp,Kg])
def EC {q:Jx}{U:Jn (T×W)}(h:S[q]?=ba (.dic U)):tyOk "dict" S (.ref q)=true:=by simp[tyOk,ci h]
def Cm {q:Jx}{U:Jn (T×W)}(h:S[q]?=ba (.dic U))(k:Q (.ref S.length,S++[.lst (U.map λp=>p.1.w)])):wO (Bi.list.fn [.ref q] S) Q:=by
 show ab ?_ k;have h1:xN S q=gV:=by simp[xN,h]
 have h2:jM [.ref q] S=gV:=by(dsimp only[jM,iL,eH]; simp[h1,oE h])
 simp only[Bi.fn,BW,h2,mK,ci h]
def zN (G:Gen defs){bs:Jn JI}{q b0:Jx}{U:Jn (T×W)}{x y z:JI}(hb:GoodB bs)(hx:0<=x/\x < bs.length)(hy:0<=y/\y < bs.length)(hz:0<=z/\z < bs.length)(hq:S[q]?=ba (.dic U))(hm:MustE S bs.length b0 U)
  (k:∀b S',Ka S S'->Q (.bl b,S')):wO (aP (am defs fuel (d+2)) "_law_breaks" 5 [.tup (ae bs),.ref q,.int x,.int y,.int z] S) Q:=by
 show ay G.breaks rfl rfl λQ' hR=>?_
 replace k:∀b S',Ka S S'->Q' (.rt (.bl b),S'):=λa b c=>hR _ _ (k a b c)
 clear hR;change wZ _ _ dR [ba (.tup (ae bs)),ba (.ref q),ba (.int x),ba (.int y),ba (.int z),gV,gV,gV,gV,gV] S Q';obtain⟨a,ha1,ha⟩:=hb.rng x.toNat ∅
 obtain⟨b,hb1,hb2⟩:=hb.rng y.toNat ∅
 obtain⟨c,hc1,hc⟩:=hb.rng z.toNat ∅
 have hqt:=bS hq;unfold dR;nofun
 left;show#[ag,ab (show dF [] [.tup [.int 1,.int 0],.int x,.tup [.int 2,.int 0],.int y,.tup [.int 2,.int 1],.int z]=ba (wj x y z)from rfl) (hK _ _ ?_)]
 clear hK K;have e1:((S++[O.dic []]).set S.length (.dic (wj x y z)))[S.length]?=ba (.dic (wj x y z)):=aT ag;have k1:Ka S ((S++[O.dic []]).set S.length (.dic (wj x y z))):=Ka.push.late (JA _);have l1:((S++[O.dic []]).set S.length (.dic (wj x y z))).length=S.length+1:=by simp
 generalize(S++[O.dic []]).set S.length (.dic (wj x y z))=S1 at e1 k1 l1 ⊢;nofun
 show jc rfl rfl ?_;dsimp only[wE,wA,wV,wG];show Cm e1 #[S1.length,[dC 1 0,dC 2 0,dC 2 1],(λk Z S'=>(∃x6,Z=[ba (.tup (ae bs)),ba (.ref q),ba (.int x),ba (.int y),ba (.int z),ba (.ref S.length),x6,gV,gV,gV])/\S'[S.length]?=ba (.dic (Ck x y z a b c k))/\S'[S1.length]?=ba (.lst [dC 1 0,dC 2 0,dC 2 1])/\Ka S S'),rfl,#[#[_,rfl],al e1,ag,k1.trans .push],λi Z S' h=>h.2.2.1,?_,?_]
 ·have step:∀(u v f g:JI) (kv kv':Jn (T×W)) (S':aa) (i:Jx),bF kv (bE u v)=ba (.int f)->0<=f->bs[f.toNat]?=ba g->kv.length < 10->eE kv (bE v u) (.int g)=kv'->Ck x y z a b c (i+1)=kv'->∀x6:Jw W,S'[S.length]?=ba (.dic kv)->S'[S1.length]?=ba (.lst [dC 1 0,dC 2 0,dC 2 1])->Ka S S'->
    wO (fZ (.nm 6) (dC u v) [ba (.tup (ae bs)),ba (.ref q),ba (.int x),ba (.int y),ba (.int z),ba (.ref S.length),x6,gV,gV,gV] S') λp=>wM (am defs fuel (d+1)) fuel #v[.put (.v 5) (.tup #v[.ix (.v 6) (.c (.int 1)),.ix (.v 6) (.c (.int 0))]) (.ix (.v 0) (.ix (.v 5) (.v 6)))] p.1 p.2 (λZ S'=>(∃x6,Z=[ba (.tup (ae bs)),ba (.ref q),ba (.int x),ba (.int y),ba (.int z),ba (.ref S.length),x6,gV,gV,gV])/\S'[S.length]?=ba (.dic (Ck x y z a b c (i+1)))/\S'[S1.length]?=ba (.lst [dC 1 0,dC 2 0,dC 2 1])/\Ka S S') Q':=by
   clear hK k;intro u v f g kv kv' S' i h1 h2 h3 h4 h5 h6 x6 e e' k;show ab (show fZ (.nm 6) (dC u v) [ba (.tup (ae bs)),ba (.ref q),ba (.int x),ba (.int y),ba (.int z),ba (.ref S.length),x6,gV,gV,gV] S'=ba ([ba (.tup (ae bs)),ba (.ref q),ba (.int x),ba (.int y),ba (.int z),ba (.ref S.length),ba (dC u v),gV,gV,gV],S')from rfl) λQ2 hn _=>?_
   show st ?_;left;show ab (nj (ci e) h1) (ak h2 (w:=.int g) (by unfold ae; rw[JB,h3]; rfl) (ak #v[] rfl (ak #v[] rfl ?_)))
   show ab (zK e (by rw[Ky]; omega)) (bA (hn _ _ #[#[_,rfl],?_,?_,k.late (JA _)]))
   ·rw[aT e,h5,h6]
   ·rw[be ∅]; exact e'
  rintro i w Z S2 hw ⟨⟨x6,rfl⟩,e2,l2,k2⟩
  match i,hw,e2 with
  | 0,hw,e2=>cases hw; exact step 1 0 x a _ _ S2 0 (by rfl) hx.1 ha1 (by simp[Ck,wj]) (by rfl) (by rfl) x6 e2 l2 k2
  | 1,hw,e2=>cases hw; exact step 2 0 y b _ _ S2 1 (by rfl) hy.1 hb1 (by simp[Ck,wj]) (by rfl) (by rfl) x6 e2 l2 k2
  | 2,hw,e2=>cases hw; exact step 2 1 z c _ _ S2 2 (by rfl) hz.1 hc1 (by simp[Ck,wj]) (by rfl) (by rfl) x6 e2 l2 k2
  | n+3,hw,_=>simp at hw
 ·rintro Z S2 ⟨⟨x6,rfl⟩,e2,l2,k2⟩;have hv:=EB hx hy hz ha hb2 hc;have e2:S2[S.length]?=ba (.dic (Ck x y z a b c 3)):=e2;show hK _ _ ?_;clear hK K;have hlt2:=bS e2;nofun
  show jc rfl rfl ?_;dsimp only[wE,wA,wV,wG];show ko (d:=d) G #[S2.length,ar.map (λt=>W.tup (aj t)),(λk Z S'=>(∃x7 x8 x9,Z=[ba (.tup (ae bs)),ba (.ref q),ba (.int x),ba (.int y),ba (.int z),ba (.ref S.length),x6,x7,x8,x9])/\S'[S.length]?=ba (.dic (Ck x y z a b c 3))/\S'[S2.length]?=ba (.lst (ar.map (λt=>W.tup (aj t))))/\Ka S S'),rfl,#[#[_,_,_,rfl],al e2,ag,k2.trans .push],λi Z S' h=>h.2.2.1,?_,?_]
  ·rintro i w Z S3 hw ⟨⟨x7,x8,x9,rfl⟩,e3,l3,k3⟩;clear hK;rw[JB,Js]at hw;obtain⟨t,ht,rfl⟩:=hw;obtain⟨i1,j1,h1,rfl,hi1,hj1,hh1,n1,n2,n3⟩:=zL (JJ ht);obtain⟨p1,g1,r1⟩:=hv i1 j1 hi1 hj1 n1;obtain⟨p2,g2,r2⟩:=hv j1 h1 hj1 hh1 n2;obtain⟨p3,g3,r3⟩:=hv i1 h1 hi1 hh1 n3;have q3:=k3.get _ _ hq;show ab (show fZ (.tp [7,8,9]) (W.tup (aj [i1,j1,h1])) [ba (.tup (ae bs)),ba (.ref q),ba (.int x),ba (.int y),ba (.int z),ba (.ref S.length),x6,x7,x8,x9] S3=ba ([ba (.tup (ae bs)),ba (.ref q),ba (.int x),ba (.int y),ba (.int z),ba (.ref S.length),x6,ba (.int i1),ba (.int j1),ba (.int h1)],S3)from rfl) λQ2 hn hr=>?_
   nofun
   dsimp only[wS,wT,wE,wA,wV,wG];show ab (nj (ci e3) g3) #[EC q3,ab (nj (ci e3) g1) (ab (nj (ci e3) g2) (ab (nj (ci e3) g3) ?_))];have hget:Me.get.fn (.ref q) [.tup [.int p1,.int p2],.ref S3.length] (S3++[O.lst [.int p3]])=ba ((bF U (bE p1 p2)).getD (.ref S3.length),S3++[O.lst [.int p3]]):=by
    have hk:gS (.tup [.int p1,.int p2])=ba (bE p1 p2):=jd
    (dsimp only[Me.fn,tL]; simp only[ci (al q3),hk])
   show ab hget ?_;have hres:∃(l:Jx) (ws:Jn JI),(bF U (bE p1 p2)).getD (.ref S3.length)=.ref l/\(S3++[O.lst [.int p3]])[l]?=ba (.lst (ae ws)):=by
    cases hg:bF U (bE p1 p2)with
    | none=>exact#[S3.length,[p3],rfl,ag]
    | some g=>
     obtain⟨u,v,l,ws,he,_,_,_,hl,_⟩:=(hm.ka k3) _ (lD hg);injection he with _ he
     subst he;exact#[l,ws,rfl,al hl]
   obtain⟨l,ws,hl1,hl2⟩:=hres;dsimp only;rw[hl1];obtain⟨kb,hkb⟩:=zM (f:=p3) hl2;show ab hkb ?_;dsimp only[wB];show au (Q0:=Q2) (λ_ Q3 _ hr3=>st (hr3 _ _ (hr _ _ (k _ _ (k3.trans .push))))) λ_ Q3 hn3 _=>bA (hn3 _ _ (hK _ _ (bA (hn _ _ #[#[_,_,_,rfl],al e3,al l3,k3.trans .push]))))
  ·rintro Z S3 ⟨⟨x7,x8,x9,rfl⟩,e3,l3,k3⟩;exact hK _ _ (st (k _ _ k3))
end
def GR {a n:Jx}{m0 m1 m2 x y z:JI}(h0:0<=m0/\m0 < a)(h1:0<=m1/\m1 < a)(h2:0<=m2/\m2 < a)(hx:0<=x/\x < n)(hy:0<=y/\y < n)(hz:0<=z/\z < n):GoodW a n [(m0,[]),(m1,[x]),(m2,[y,z])]:=by
 show#[λk p h=>?_,λk p h=>?_,λk p h=>?_] <;> match k,h with
 | 0,h=>cases h; first|exact h0|rfl|(intro w hw; cases hw)
 | 1,h=>cases h; first|exact h1|rfl|(intro w hw; rw[JK.mp hw]; exact hx)
 | 2,h=>cases h; first|exact h2|rfl|(intro w hw; rcases JR.mp hw with e|hw <;> first|exact e ▸ hy|(rw[JK.mp hw]; exact hz))
 | n+3,h=>simp at h
def ED {M:JS->FF}{Z:Fm}{S:aa}{i n:Jx}{Q:QW}(hv:∀Q:W->Prop,Q (.int n)->wV Z i Q)(hn:n<=3)(k:∀j:JI,0<=j->j<=27->j=(n:JI)*n*n->Q (.int j,S)):wE M (.op .mul (.op .mul (.v i) (.v i)) (.v i)) Z S Q:=by
 have b1 : -(2 ^ 64) < (n:JI):=∅
 have b2:(n:JI) < 2 ^ 64:=∅
 have hc:(n:JI)*n*n<=27/\0<=(n:JI)*n*n:=by rcases(show n=0\/n=1\/n=2\/n=3 by omega)with h|h|h|h <;> rw[h] <;> decide
 dsimp only[wE];have em:∀m:JI,fT .mul (.int m) (.int n) S=ba (.int (m*n),S):=λm=>qD b1 b2
 generalize fT .mul=B at em ⊢;show hv _ ?_;show hv _ ?_;show ab (em _) ?_;show hv _ ?_;show ab (em _) ?_;have:=k _ hc.2 hc.1 rfl;exact this
def zO {M:JS->FF}{fuel:Jx}{Z:Fm}{S:aa}{K:Fm->aa->Prop}{Q:QO}{i0 i n:Jx}{b:Ss}(hv:∀Q:W->Prop,Q (.int n)->wV Z i Q)(hn:n<=3)(ok:gX b=true)
  (h:∀j:JI,0<=j->j<=27->j=(n:JI)*n*n->∃I:Jx->Fm->aa->Prop,I 0 Z S/\(∀(i:Jx) (Z:Fm) (S:aa),(i:JI) < j->I i Z S->wM M fuel b (Z.set i0 (ba (.int i))) S (I (i+1)) Q)/\∀Z S,I j.toNat Z S->K Z S) :
  Wp (ga M fuel (.loop (.nm i0) (.rng #v[.op .mul (.op .mul (.v i) (.v i)) (.v i)]) b) Z S) (rH K Q):=
 have hw:=ED (M:=M) (S:=S) (Q:=λp=>∃(j:JI) (I:Jx->Fm->aa->Prop),p.1=.int j/\(-(2 ^ 62)<=j/\j < 2 ^ 62)/\I 0 Z p.2/\(∀(i:Jx) (Z:Fm) (S:aa),(i:JI) < j->I i Z S->wM M fuel b (Z.set i0 (ba (.int i))) S (I (i+1)) Q)/\∀Z S,I j.toNat Z S->K Z S) hv hn λj j0 j27 e=>let ⟨I,h0,h1,h2⟩:=h j j0 j27 e; #[j,I,rfl,∅,h0,h1,h2]
 jb rfl ok hw
section
variable{defs:Jn (JS×Df)}{fuel d:Jx}{S:aa}{r:Jx}{Q:QW}
def zP (hfu:20 < fuel)(G:Gen defs)(hf:Fl S r)(k:∀w S',eA w->Fl S' r->Kp r S S'->Q (w,S')):wO (aP (am defs fuel (d+7)) "_law_laying_rule" 1 [.ref r] S) Q:=by
 show ay G.laying_rule rfl rfl λQ' hR=>?_
 replace k:∀w S',eA w->Fl S' r->Kp r S S'->Q' (.rt w,S'):=λz S' a b c=>hR _ _ (k z S' a b c)
 clear hR;change wZ _ _ bV [ba (.ref r),gV,gV,gV,gV,gV,gV,gV,gV,gV,gV,gV,gV,gV,gV] S Q';unfold bV;nofun
 left;show aM (d:=d+5) G.pick hf #v[] #v[] λv S1 v0 v7 f1 k1=>hK _ _ ?_
 clear hK K;nofun
 dsimp only[wS,wT,wE,wV,wG,iB,aF,wB];show au (Q0:=Q') (λ_ Q2 _ hr=>?_) (λ_ Q2 hn _=>bA (hn _ _ (hK _ _ ?_)))
 ·show st ?_;left;exact qN (d:=d) hfu G f1 λw S2 a b c=>hr _ _ (k w S2 a b (k1.trans c))
 clear hK K hn;nofun
 dsimp only[wS,wT,wE,wV,wG,iB,aF,wB];show au (Q0:=Q') (λ_ Q2 _ hr=>?_) (λ_ Q2 hn _=>bA (hn _ _ (hK _ _ ?_)))
 ·show st ?_;left;exact we (d:=d) hfu G f1 λw S2 a b c=>hr _ _ (k w S2 a b (k1.trans c))
 clear hK K hn;have hr1:=f1.lt;nofun
 left;show l8 (d:=d+4) G f1 λw2 S2 hw2 f2 k2=>?_
 obtain⟨bs0,q0,U0,most,rfl,hbs0,m1,m3,m6,hq0,hq0l,h40,hm0⟩:=hw2;dsimp only[wU];show ab (show d7 [2,3,4] [.tup (ae bs0),.ref q0,.int most] [ba (.ref r),ba (.int v),gV,gV,gV,gV,gV,gV,gV,gV,gV,gV,gV,gV,gV]=ba [ba (.ref r),ba (.int v),ba (.tup (ae bs0)),ba (.ref q0),ba (.int most),gV,gV,gV,gV,gV,gV,gV,gV,gV,gV]from rfl) (hK _ _ ?_)
 clear hK K;nofun
 left;show aM (d:=d+5) G.pick f2 ∅ ∅ λv3 S3 v30 v3m f3 k3=>?_
 dsimp only[cQ,aF];obtain⟨a,ea⟩ : ∃a:Jx,1+v3=a:=#[(1+v3).toNat,∅]
 rw[ea];show hK _ _ ?_;clear hK K;nofun
 left;show sK (d:=d+4) G (S0:=S1) hbs0 f3 hr1 (k2.trans k3) (k3.get _ _ ∅ hq0) hq0l h40 (hm0.kp hr1 k3) λbs q U S4 hb hbl hq hql hm f4 k4=>?_
 dsimp only[wU];show ab (show d7 [2,3] [.tup (ae bs),.ref q] [ba (.ref r),ba (.int v),ba (.tup (ae bs0)),ba (.ref q0),ba (.int most),ba (.int a),gV,gV,gV,gV,gV,gV,gV,gV,gV]=ba [ba (.ref r),ba (.int v),ba (.tup (ae bs)),ba (.ref q),ba (.int most),ba (.int a),gV,gV,gV,gV,gV,gV,gV,gV,gV]from rfl) (hK _ _ ?_)
 clear hK K;rw[<- hbl]at hm m6;have hn:bs.length=2\/bs.length=3:=by rw[hbl]; exact(zJ bs0 hbs0).1
 have hsz:SizeOk a bs:=#[∅,hb,by
  have h1:(a:JI)*bs.length<=most*bs.length:=Int.mul_le_mul_of_nonneg_right ∅ ∅
  exact_mod_cast Int.le_trans h1 m6,∅]
 clear m6 hm0 hq0 hq0l h40 hbl hbs0 k2 k3 f2 f3;nofun
 left;show fL (d:=d+1) hfu G f4 ∅ ∅ λms ns S5 hml hnl hnm f5 k5=>hK _ _ ?_
 clear hK K;have kk:Kp r S S5:=k1.trans (k4.trans k5);have hrt:=f5.lt;have hq5:S5[q]?=ba (.dic U):=k5.get _ _ ∅ hq
 have hm5:MustE S5 bs.length S1.length U:=hm.kp hr1 k5;have hqn:q < S5.length:=bS hq5;clear k1 k4 k5 f4 hm hq hql f1;show st ?_;dsimp only[wS,wE,JG];nofun
 left;show aN ?_;rw[show(ae bs).length=bs.length from Jp ..]
 show hK _ _ ?_;clear hK K;nofun
 show zO (n:=bs.length) (λQ q=>q) ∅ rfl λj j0 j27 hj=>?_
 show#[(λ_ Z S'=>(∃x9 x10 x11 x12 x13 x14,Z=[ba (.ref r),ba (.int v),ba (.tup (ae bs)),ba (.ref q),ba (.int most),ba (.int a),ba (dL ms ns bs []),ba (.ref S5.length),ba (.int bs.length),x9,x10,x11,x12,x13,x14])/\(∃U fs,S'[S5.length]?=ba (.dic U)/\FigD (aO a bs) U fs)/\S'[q]?=ba (.dic U)/\MustE S' bs.length S1.length U/\Fl S' r/\Kp r S S'),#[#[_,_,_,_,_,_,rfl],#[[],[],ag,.nil],al hq5,hm5.ka .push,f5.ka .push,kk.trans .push],?_,?_]
 ·rintro i Z S6 hi ⟨⟨x9,x10,x11,x12,x13,x14,rfl⟩,⟨kvd,fs,e6,hd⟩,hq6,hm6,f6,k6⟩ Q2 hn2 _;clear hK k;have hnp:(0:JI) < bs.length:=∅
  have hnb:(bs.length:JI) < 1073741824:=∅
  have y1:0<=(i:JI) % bs.length/\(i:JI) % bs.length < bs.length:=#[Mp _ ∅,Mh _ hnp]
  have y2:0<=(i:JI) / bs.length % bs.length/\(i:JI) / bs.length % bs.length < bs.length:=#[Mp _ ∅,Mh _ hnp]
  have y3:0<=(i:JI) / bs.length / bs.length/\(i:JI) / bs.length / bs.length < bs.length:=by
   rcases hn with h|h <;> rw[h]at hj ⊢ <;> omega
  nofun
  left;show ab (i4 hnp) (ab (iA hnp hnb) (ab (i4 hnp) ?_));dsimp only[w2];show hK _ _ ?_;clear hK K;nofun
  left;show ab (iA hnp hnb) (ab (iA hnp hnb) (hK _ _ ?_));clear hK K;dsimp only;generalize(i:JI) % bs.length=z1 at y1 ⊢;generalize(i:JI) / bs.length % bs.length=z2 at y2 ⊢;generalize(i:JI) / bs.length / bs.length=z3 at y3 ⊢;nofun
  dsimp only[wS,wT,wA,wE,wV,wG];show zN (d:=d+4) G hb y1 y2 y3 hq6 hm6 λb S7 k7=>?_
  dsimp only[io,aF];show au (Q0:=Q2) (λ_ Q3 hn3 _=>?_) (λ_ Q3 hn3 _=>bA (hn3 _ _ (hK _ _ (bA (hn2 _ _ #[#[_,_,_,_,_,_,rfl],#[kvd,fs,k7.get _ _ e6,hd],k7.get _ _ hq6,hm6.ka k7,f6.ka k7,k6.trans (k7.kp r)])))))
  show aG λK3 hK3=>?_
  show jc rfl rfl ?_;dsimp only[wE,wA,wV,wG];have h56:S5.length < S6.length:=bS e6;have h67:=k7.len;show zF (d:=d+5) G (a:=a) ∅ λt ts S8 e8 ht ht7 k8=>?_
  show#[t,ts.map oO,(λ_ Z S'=>(∃x9 x13 x14,Z=[ba (.ref r),ba (.int v),ba (.tup (ae bs)),ba (.ref q),ba (.int most),ba (.int a),ba (dL ms ns bs []),ba (.ref S5.length),ba (.int bs.length),x9,ba (.int z1),ba (.int z2),ba (.int z3),x13,x14])/\(∃U fs,S'[S5.length]?=ba (.dic U)/\FigD (aO a bs) U fs)/\S'[q]?=ba (.dic U)/\MustE S' bs.length S1.length U/\S'[t]?=ba (.lst (ts.map oO))/\Fl S' r/\Kp r S S'),rfl,#[#[_,_,_,rfl],#[kvd,fs,k8.get _ _ (k7.get _ _ e6),hd],k8.get _ _ (k7.get _ _ hq6),(hm6.ka k7).ka k8,e8,(f6.ka k7).ka k8,k6.trans ((k7.trans k8).kp r)],λi Z S' h=>h.2.2.2.2.1,?_,?_]
  ·rintro j w Z S9 hw ⟨⟨x9,x13,x14,rfl⟩,⟨kvd,fs,e9,hd⟩,hq9,hm9,ht9,f9,k9⟩;clear hK3 hn3 hK hn2;rw[JB,Js]at hw;obtain⟨⟨tr1,tr2,tr3⟩,htr,rfl⟩:=hw;obtain⟨t1,t2,t3⟩:=ht _ (JJ htr);show ab (show fZ (.nm 13) (oO (tr1,tr2,tr3)) [ba (.ref r),ba (.int v),ba (.tup (ae bs)),ba (.ref q),ba (.int most),ba (.int a),ba (dL ms ns bs []),ba (.ref S5.length),ba (.int bs.length),x9,ba (.int z1),ba (.int z2),ba (.int z3),x13,x14] S9=ba ([ba (.ref r),ba (.int v),ba (.tup (ae bs)),ba (.ref q),ba (.int most),ba (.int a),ba (dL ms ns bs []),ba (.ref S5.length),ba (.int bs.length),x9,ba (.int z1),ba (.int z2),ba (.int z3),ba (oO (tr1,tr2,tr3)),x14],S9)from rfl) λQ4 hn4 _=>?_
   have hu:GoodW a bs.length [(tr1,[]),(tr2,[z1]),(tr3,[z2,z3])]:=GR t1 t2 t3 y1 y2 y3;nofun
   left;show ak #v[] rfl (ak #v[] rfl (hK _ _ ?_))
   clear hK K;show st ?_;left;show ak #v[] rfl (ab (gh (i6 rfl)) ?_)
   show i8 (d:=d+3) (m0:=.tup (ms.map W.str)) (b0:=.tup []) (u:=[(tr1,[]),(tr2,[z1]),(tr3,[z2,z3])]) G hb hnl hu rfl λS10 k10=>?_
   have e10:=k10.get _ _ e9;exact zC e10 hd hsz hu rfl λo ho=>bA (hn4 _ _ #[#[_,_,_,rfl],ho,by rw[be ∅]; exact k10.get _ _ hq9,(hm9.ka k10).set e10,by rw[be ∅]; exact k10.get _ _ ht9,(f9.ka k10).own hrt,(k9.trans (k10.kp r)).late kk.len])
  ·rintro Z S9 ⟨⟨x9,x13,x14,rfl⟩,hdd,hq9,hm9,ht9,f9,k9⟩;exact hK3 _ _ (bA (hn3 _ _ (hK _ _ (bA (hn2 _ _ #[#[_,_,_,_,_,_,rfl],hdd,hq9,hm9,f9,k9])))))
 ·rintro Z S6 ⟨⟨x9,x10,x11,x12,x13,x14,rfl⟩,⟨kvd,fs,e6,hd⟩,hq6,hm6,f6,k6⟩;show hK _ _ (st ?_);left;exact zB (Q:=λp=>Q' (.rt p.1,p.2)) e6 hd hsz hml hnl hnm λw S8 hw k8=>k w S8 hw (f6.ka k8) (k6.trans (k8.kp r))
end
abbrev Tr:Jx->W->Prop
 | _,.int _=>Rs
 | _,.str _=>Rs
 | _,.non=>Rs
 | n+1,.tup xs=>xs.length<=1000/\∀x∈xs,Tr n x
 | _,_=>K5
def jG:∀n:Jx,iq (Km n (.bl true))=ba (Km n true)
 | 0=>rfl
 | n+1=>by rw[Ly,iq,jG n]; rfl
def uO (n:Jx):(Km n true).all id=true:=by
 rw[JQ];intro x hx;rw[(List.mem_replicate.mp hx).2]; rfl
section
variable{defs:Jn (JS×Df)}{fuel:Jx}
def uP (hg:Is defs ("_law_alike" : JS) 2 2 aY):∀(n d:Jx) (w:W) (S:aa) (Q:QW),Tr n w->(∀S',Ka S S'->Q (.bl true,S'))->wO (aP (am defs fuel (d+n+1)) "_law_alike" 2 [w,w] S) Q:=by
 intro n
 induction n with
 | zero=>
  intro d w S Q hw k;show ay hg rfl rfl λQ' hR=>?_
  replace k:=hR _ _ (k S .refl);clear hR;change wZ _ _ aY [ba w,ba w] S Q';dsimp only[aY];cases w with
  | int x=>
   show aG λK hK=>bZ (λQ q=>q) (hK _ _ ?_)
   show aG λK hK=>bZ (λQ q=>#[λz=>(by cases z),λ_=>q]) (hK _ _ ?_)
   show aG λK hK=>lr (λQ q=>q) λQ2 _ hr=>st ?_
   dsimp only[wS,wE,wV,wG];show ab (show vR S (.int x) "int" = ba true from rfl) #[λ_=>?_,λz=>by cases z]
   dsimp only[iB,aF];rw[KJ];exact hr _ _ k
  | str x=>
   show aG λK hK=>bZ (λQ q=>q) (hK _ _ ?_)
   show aG λK hK=>bZ (λQ q=>#[λz=>(by cases z),λ_=>q]) (hK _ _ ?_)
   show aG λK hK=>bZ (λQ q=>q) (hK _ _ ?_)
   show aG λK hK=>lr (λQ q=>q) λQ2 _ hr=>st ?_
   dsimp only[wS,wE,wV,wG];show ab (show vR S (.str x) "str" = ba true from rfl) #[λ_=>?_,λz=>by cases z]
   dsimp only[CQ,aF];rw[KJ];exact hr _ _ k
  | non=>
   show aG λK hK=>lr (λQ q=>q) λQ2 _ hr=>st ?_
   dsimp only[wS,wE,wV,wG];exact ab (show aZ .is .non .non S=ba (.bl true,S)from rfl) (hr _ _ k)
  | _=>exact hw.elim
 | succ n ih=>
  intro d w S Q hw k;show ay hg rfl rfl λQ' hR=>?_
  replace k:∀S',Ka S S'->Q' (.rt (.bl true),S'):=λS' a=>hR _ _ (k S' a)
  clear hR;change wZ _ _ aY [ba w,ba w] S Q';dsimp only[aY];cases w with
  | int x=>
   show aG λK hK=>bZ (λQ q=>q) (hK _ _ ?_)
   show aG λK hK=>bZ (λQ q=>#[λz=>(by cases z),λ_=>q]) (hK _ _ ?_)
   show aG λK hK=>lr (λQ q=>q) λQ2 _ hr=>st ?_
   dsimp only[wS,wE,wV,wG];show ab (show vR S (.int x) "int" = ba true from rfl) #[λ_=>?_,λz=>by cases z]
   dsimp only[iB,aF];rw[KJ];exact hr _ _ (k _ .refl)
  | str x=>
   show aG λK hK=>bZ (λQ q=>q) (hK _ _ ?_)
   show aG λK hK=>bZ (λQ q=>#[λz=>(by cases z),λ_=>q]) (hK _ _ ?_)
   show aG λK hK=>bZ (λQ q=>q) (hK _ _ ?_)
   show aG λK hK=>lr (λQ q=>q) λQ2 _ hr=>st ?_
   dsimp only[wS,wE,wV,wG];show ab (show vR S (.str x) "str" = ba true from rfl) #[λ_=>?_,λz=>by cases z]
   dsimp only[CQ,aF];rw[KJ];exact hr _ _ (k _ .refl)
  | tup xs=>
   obtain⟨hl,hx⟩:=hw;show aG λK hK=>bZ (λQ q=>q) (hK _ _ ?_)
   show aG λK hK=>bZ (λQ q=>#[λz=>(by cases z),λ_=>q]) (hK _ _ ?_)
   show aG λK hK=>bZ (λQ q=>q) (hK _ _ ?_)
   show aG λK hK=>bZ (λQ q=>q) (hK _ _ ?_)
   show aG λK hK=>bZ (λQ q=>#[λz=>(by cases z),λ_=>q]) (hK _ _ ?_)
   show st ?_;left;show aN (aN ?_);dsimp only[iB,aF,wB];rw[KJ];show#[λ_=>?_,λz=>by cases z]
   show dj (xs.length:JI) (λi ys Z2 S2=>(∃a1,Z2=[gV,a1,ba (.tup xs),ba (.tup xs)])/\ys=Km i (.bl true)/\Ka S S2) rfl rfl rfl ∅ ?_ ?_ ?_
   ·dsimp only[wE,wA,wV,wG];exact aN #[rfl,#[gV,rfl],rfl,.refl]
   ·rintro i ys Z2 S2 hi ⟨⟨a1,rfl⟩,rfl,k2⟩;have hi':i < xs.length:=∅
    dsimp only[fP,wC,wE,wA,wV,wG,JG];show#[λ_=>ak (JN i) (by rw[JL]; exact Jy hi') (ak (JN i) (by rw[JL]; exact Jy hi') (ih d _ _ _ (hx _ (Kd hi')) λS3 k3=>#[#[_,rfl],?_,k2.trans k3])),λz=>by cases z]
    rw[PR]
   ·rintro ys Z2 S2 ⟨_,rfl,k2⟩;rw[JL];show#[j5 (by rw[NR]; exact hl),ab (a:=(.bl true,S2++[.lst (Km xs.length (.bl true))])) ?_ (k _ (k2.trans .push))]
    (dsimp only[Bi.fn,Bl]; simp only[aq ag,jG,Kg,uO])
  | non=>
   show aG λK hK=>lr (λQ q=>q) λQ2 _ hr=>st ?_
   dsimp only[wS,wE,wV,wG];exact ab (show aZ .is .non .non S=ba (.bl true,S)from rfl) (hr _ _ (k _ .refl))
  | _=>exact hw.elim
end
abbrev uQ:Ss:=
 #v[.ite (.cmp .gt (.v 2) (.v 3)) #v[.ret (.ix (.ix (.ix (.v 1) (.v 2)) (.c (.int 1))) (.v 3))] .nil,.ret (.ix (.ix (.ix (.v 0) (.c (.int 1))) (.ix (.ix (.ix (.v 1) (.v 3)) (.c (.int 1))) (.v 2))) (.c (.int 1)))]
abbrev gr:Ss:=
 #v[.ret (.bi .tuple #v[.comp (.own "point_over" 4 #v[.v 4,.v 5,.sl (.v 3) .no (.yes (.v 1)),.v 2]) (.tp [1,2]) (.enu #v[.v 2]) .nil [gV,gV,gV,ba 2,ba 0,ba 1]])]
abbrev dU:Ss:=
 #v[.ret (.tup #v[.ix (.ix (.v 1) (.v 3)) (.c (.int 0)),.bi .tuple #v[.comp (.own "way" 4 #v[.v 3,.v 4,.v 2,.v 1]) (.nm 1) (.seq (.v 2)) .nil [gV,gV,ba 3,ba 0,ba 1]]])]
abbrev bj:Ss:=
 #v[.set 3 (.bi .list #v[.bi .range #v[.v 1]]),.set 4 (.lst .nil),.whl (.cmp .lt (.bi .len #v[.v 4]) (.v 2)) #v[.ex (.me .append (.v 4) #v[.me .pop (.v 3) #v[.own "_law_pick" 2 #v[.v 0,.bi .len #v[.v 3]]]])],.ret (.bi .tuple #v[.v 4])]
abbrev bH:Ss:=
 #v[.set 2 (.lst #v[.tup .nil]),.loop (.nm 3) (.rng #v[.v 1]) #v[.set 2 (.comp (.op .add (.ix (.v 3) (.op .fdiv (.v 1) (.v 2))) (.tup #v[.op .mod (.v 1) (.v 2)])) (.nm 1) (.rng #v[.op .mul (.bi .len #v[.v 2]) (.v 0)]) .nil [gV,gV,ba 0,ba 2])],.ret (.v 2)]
abbrev cm:Ss:=
 #v[.set 2 (.lst #v[.tup .nil]),.loop (.nm 3) (.rng #v[.v 1]) #v[.set 4 (.lst .nil),.loop (.nm 5) (.rng #v[.bi .len #v[.ix (.v 0) (.c (.int 0))]]) #v[.ex (.me .extend (.v 4) #v[.comp (.tup #v[.v 2,.v 1]) (.nm 1) (.seq (.own "_law_digits" 2 #v[.bi .len #v[.ix (.v 0) (.c (.int 1))],.v 3])) .nil [gV,gV,ba 5]])],.set 2 (.comp (.op .add (.ix (.v 3) (.op .fdiv (.v 1) (.bi .len #v[.v 2]))) (.tup #v[.ix (.v 2) (.op .mod (.v 1) (.bi .len #v[.v 2]))])) (.nm 1) (.rng #v[.op .mul (.bi .len #v[.v 2]) (.bi .len #v[.v 4])]) .nil [gV,gV,ba 4,ba 2])],.ret (.v 2)]
section
variable{defs:Jn (JS×Df)}{fuel d:Jx}{S:aa}{r:Jx}{Q:QW}
def zQ {M:JS->FF}{m0 b0:W}{ns:Jn JS}{bs:Jn JI}{a:Jx}{u:Wd}{i j:Jx}{Q:QO}(hb:GoodB bs)(hl:ns.length=bs.length)(hu:GoodW a bs.length u)(hi:i < u.length)(hj:j < u.length)(hij:i≠j)(k:Q (.rt (.int (bO bs u i j)),S)) :
  wZ M fuel uQ [ba (.tup [m0,.tup (JV aQ ns bs),b0]),ba (az u),ba (.int i),ba (.int j)] S Q:=by
 have hpi:=ap (d:=(0,[])) hi;have hpj:=ap (d:=(0,[])) hj;unfold bO at k;dsimp only[uQ];nofun
 dsimp only[wS,wT,wE,wV,wG,Gy,wO,wB,az];show au (Q0:=Q) (λh Q2 _ hr=>?_) (λh Q2 hn _=>?_)
 ·have hji:j < i:=by have:=Kt h; omega
  rw[JX hji]at k;have hw:j < (u.getD i (0,[])).2.length:=by rw[hu.len i _ hpi]; exact hji
  show st ?_;dsimp only[wS,wE,wV,wG];show ak (JN i) (ey hi) (ak #v[] rfl (ak (JN j) ?_ (hr _ _ k)))
  rw[JL,JB,ap (d:=0) hw]; rfl
 ·have hji:¬ j < i:=by have:=LX h; omega
  rw[J8 hji]at k;show bA (hn _ _ (hK _ _ ?_));clear hn hK;have hw:i < (u.getD j (0,[])).2.length:=by rw[hu.len j _ hpj]; omega
  have hg:=ap (d:=0) hw;obtain⟨g1,g2⟩:=hu.way j _ hpj _ (JJ hg);obtain⟨b,hb1,hb2,hb3⟩:=hb.rng ((u.getD j (0,[])).2.getD i 0).toNat ∅
  have hn:((u.getD j (0,[])).2.getD i 0).toNat < ns.length:=∅
  rw[getD_some hb1]at k;show st ?_;dsimp only[wS,wE,wV,wG];show ak #v[] rfl (ak (JN j) (ey hj) (ak #v[] rfl (ak (JN i) ?_ (ak g1 (oJ (Jy hn) hb1) (ak #v[] rfl k)))))
  rw[JL,JB,hg]; rfl
structure Parts (defs:Jn (JS×Df)):Prop where
 way:Is defs ("way" : JS) 4 4 uQ
 over:Is defs ("point_over" : JS) 4 4 dU
def GU (P:Parts defs){m0 b0:W}{ns:Jn JS}{bs:Jn JI}{a:Jx}{u:Wd}{i j:Jx}(hb:GoodB bs)(hl:ns.length=bs.length)(hu:GoodW a bs.length u)(hi:i < u.length)(hj:j < u.length)(hij:i≠j)(k:Q (.int (bO bs u i j),S)) :
  wO (aP (am defs fuel (d+1)) "way" 4 [.tup [m0,.tup (JV aQ ns bs),b0],az u,.int i,.int j] S) Q:=
 ay P.way rfl rfl λQ' hR=>zQ hb hl hu hi hj hij (hR _ _ k)
def zR (P:Parts defs){m0 b0:W}{ns:Jn JS}{bs:Jn JI}{a:Jx}{u:Wd}{ps:Jn Jx}{i:Jx}(hb:GoodB bs)(hl:ns.length=bs.length)(hu:GoodW a bs.length u)(hps:∀p∈ps,p < u.length/\i≠p)(hi:i < u.length)(hsz:ps.length<=1000)(k:∀S',Ka S S'->Q (bh ((u.getD i (0,[])).1,ps.map λq=>bO bs u i q),S')) :
  wO (aP (am defs fuel (d+2)) "point_over" 4 [.tup [m0,.tup (JV aQ ns bs),b0],az u,.tup (aj ps),.int i] S) Q:=by
 show ay P.over rfl rfl λQ' hR=>?_
 replace k:∀S',Ka S S'->Q' (.rt (bh ((u.getD i (0,[])).1,ps.map λq=>bO bs u i q)),S'):=λS' a=>hR _ _ (k S' a)
 clear hR;change wZ _ _ dU [ba (.tup [m0,.tup (JV aQ ns bs),b0]),ba (az u),ba (.tup (aj ps)),ba (.int i)] S Q';generalize hR0:W.tup [m0,.tup (JV aQ ns bs),b0]=R;dsimp only[dU];show st ?_;left;show ak (JN i) (ey hi) (ak #v[] rfl ?_)
 show uC (aj ps) (λj ys Z2 S2=>(∃a1,Z2=[gV,a1,ba (.int i),ba R,ba (az u)])/\ys=(ps.take j).map (λq=>W.int (bO bs u i q))/\Ka S S2) rfl rfl rfl #[rfl,#[gV,rfl],rfl,.refl] ?_ ?_
 ·rintro j w ys Z2 S2 hw ⟨⟨a1,rfl⟩,rfl,k2⟩;unfold aj at hw;rw[JB,Js]at hw;obtain⟨q,hq,rfl⟩:=hw;obtain⟨hqu,hqi⟩:=hps q (JJ hq);show ab (show fZ (.nm 1) (.int (q:JI)) [gV,a1,ba (.int i),ba R,ba (az u)] S2=ba ([gV,ba (.int (q:JI)),ba (.int i),ba R,ba (az u)],S2)from rfl) ?_
  dsimp only[fP,wC,wE,wA,wV,wG];subst hR0;show#[λ_=>GU (d:=d) P hb hl hu hi hqu hqi #[#[_,rfl],?_,k2],λz=>by cases z]
  rw[Kj,hq];simp
 ·rintro ys Z2 S2 ⟨_,rfl,k2⟩;rw[show(aj ps).length=ps.length from Jp ..,Kx]
  show#[j5 (by rw[Jp]; exact hsz),dB ag ?_]
  have:=k _ (k2.trans (Ka.push (o:=O.lst (ps.map λq=>W.int (bO bs u i q)))))
  unfold bh at this;rw[La]at this;exact this
def uR (P:Parts defs)(hp:Is defs ("part" : JS) 3 3 gr){m0 b0:W}{ns:Jn JS}{bs:Jn JI}{a:Jx}{u:Wd}{ps:Jn Jx}(hb:GoodB bs)(hl:ns.length=bs.length)(hu:GoodW a bs.length u)(hps:∀p∈ps,p < u.length)(hnd:ps.Nodup)(hsz:ps.length<=1000)(k:∀S',Ka S S'->Q (az (ah bs u ps),S')) :
  wO (aP (am defs fuel (d+3)) "part" 3 [.tup [m0,.tup (JV aQ ns bs),b0],az u,.tup (aj ps)] S) Q:=by
 show ay hp rfl rfl λQ' hR=>?_
 replace k:∀S',Ka S S'->Q' (.rt (az (ah bs u ps)),S'):=λS' a=>hR _ _ (k S' a)
 clear hR;change wZ _ _ gr [ba (.tup [m0,.tup (JV aQ ns bs),b0]),ba (az u),ba (.tup (aj ps))] S Q';generalize hR0:W.tup [m0,.tup (JV aQ ns bs),b0]=R;dsimp only[gr];show st ?_;dsimp only[wS,wE,wA];show B6 (aj ps) (λj ys Z2 S2=>(∃a1 a2,Z2=[gV,a1,a2,ba (.tup (aj ps)),ba R,ba (az u)])/\ys=((ah bs u ps).take j).map bh/\Ka S S2) rfl rfl rfl #[rfl,#[gV,gV,rfl],rfl,.refl] ?_ ?_
 ·rintro j w ys Z2 S2 hw ⟨⟨a1,a2,rfl⟩,rfl,k2⟩;unfold aj at hw;rw[JB,Js]at hw;obtain⟨q,hq,rfl⟩:=hw;have hj:j < ps.length:=(JD.mp hq).1;have eq:q=ps[j]:=(JD.mp hq).2.symm;show ab (show fZ (.tp [1,2]) (.tup [.int (j:JI),.int (q:JI)]) [gV,a1,a2,ba (.tup (aj ps)),ba R,ba (az u)] S2=ba ([gV,ba (.int (j:JI)),ba (.int (q:JI)),ba (.tup (aj ps)),ba R,ba (az u)],S2)from rfl) ?_
  dsimp only[fP,wC,wE,wA,wP,wV,wG,wN];show#[λ_=>ab (a:=(.tup (aj (ps.take j)),S2)) ?_ ?_,λz=>by cases z]
  ·simp only[ph,gm];unfold aj;rw[Nu]
  ·subst hR0;show zR (d:=d) P hb hl hu (λp hp=>#[hps p (LZ hp),?_]) (hps q (JJ hq)) (by rw[Kn]; omega) λS3 k3=>#[#[_,_,rfl],?_,k2.trans k3]
   ·obtain⟨m,hm,e⟩:=LL.mp hp;rw[Kn]at hm;rw[NP]at e;rw[eq,<- e];intro z;have:=(LJ hnd).mp z;omega
   ·have ep:(ah bs u ps)[j]?=ba ((u.getD q (0,[])).1,(ps.take j).map λq'=>bO bs u q q'):=by
     unfold ah;rw[JB,LQ hj,Kg,getD_some hq]
    rw[Kj,ep];simp
 ·rintro ys Z2 S2 ⟨_,rfl,k2⟩;rw[show(aj ps).length=ps.length from Jp ..,<- aD bs u ps,Kx]
  exact#[j5 (by rw[Jp,aD]; exact hsz),dB ag (k _ (k2.trans .push))]
end
section
variable{S:aa}{Q:QW}
def qT:∀(xs:Jn Jx) (i:Jx),(aj xs).eraseIdx i=aj (xs.eraseIdx i)
 | [],i=>by cases i <;> rfl
 | x::xs,0=>rfl
 | x::xs,i+1=>by
  change W.int (x:Jx)::(aj xs).eraseIdx i=W.int (x:Jx)::aj (xs.eraseIdx i);rw[qT xs i]
def wm (n:Jx):Bj 0 ((n:JI) - 0).toNat=aj (JW n):=by
 unfold Bj aj;rw[show((n:JI) - 0).toNat=n by omega]
 exact KG λk _=>by rw[NN]
def Cn {i n:Jx}(h:S[i]?=ba (.rng 0 n))(hn:n<=1000)(q:Q (.ref S.length,S++[.lst (aj (JW n))])):wO (Bi.list.fn [.ref i] S) Q:=by
 show ab ?_ q;have h1:xN S i=ba (0,(n:JI)):=by simp[xN,h]
 have h2:jM [.ref i] S=ba (.ref S.length,S++[.lst (aj (JW n))]):=by
  (dsimp only[jM]; simp only[h1])
  rw[JX #[∅,∅,∅,∅,by rw[Ky]; omega],wm]
 simp only[Bi.fn,BW,h2]
def wn {M:JS->FF}{fuel:Jx}{Z:Fm}{K:Fm->aa->Prop}{Q:QO}{i j n:Jx}{m:JI}(hm:m=n)(hv:∀Q:W->Prop,Q (.int m)->wV Z i Q)(hn:n<=1000)(k:∀(t:Jx) (S':aa),t=S.length+1->S'=S++[O.rng 0 n]++[.lst (aj (JW n))]->K (Z.set j (ba (.ref t))) S') :
  wS M fuel (.set j (.bi .list #v[.bi .range #v[.v i]])) Z S K Q:=by
 have e:Bi.range.fn [.int m] S=ba (.ref S.length,S++[.rng 0 m]):=by
  dsimp only[Bi.fn,nR];rw[JX #[∅,∅]]
 have h:wO (Bi.list.fn [.ref S.length] (S++[O.rng 0 m])) λp=>K (Z.set j (ba p.1)) p.2:=by
  subst hm;exact Cn ag hn (k _ _ (by simp) rfl)
 have g:wO (Bi.range.fn [.int m] S) λp=>wO (Bi.list.fn [p.1] p.2) λp=>K (Z.set j (ba p.1)) p.2:=by
  rw[e];exact h
 dsimp only[wS,wE,wA];exact hv _ g
def GV {t:Jx}{xs:Jn W}{v:JI}{w:W}(h:S[t]?=ba (.lst xs))(h0:0<=v)(hw:xs[v.toNat]?=ba w)(hl:xs.length<=1000)(q:Q (w,S.set t (.lst (xs.eraseIdx v.toNat)))):wO (Me.pop.fn (.ref t) [.int v] S) Q:=by
 show ab ?_ q;have hv:=(JD.mp hw).1;have hs:seqIndex? v xs.length=ba v.toNat:=by
  unfold seqIndex?;rw[J8 (show ¬ v < 0 by omega)]
  exact JX (by rw[Jv]; exact#[K6 h0,K6 ∅])
 (dsimp only[Me.fn,Bh]; simp only[di h])
 rw[JX #[∅,∅]]
 simp only[hs,hw]
end
section
variable{defs:Jn (JS×Df)}{fuel d:Jx}{S:aa}{r:Jx}{Q:QW}
def oR (G:Gen defs)(hg:Is defs ("_law_drawn_points" : JS) 3 5 bj){many size:Jx}(hf:Fl S r)(hm:many<=900)(hs:size<=many)(hfu:size < fuel)(k:∀(ps:Jn Jx) S',ps.length=size->ps.Nodup->(∀p∈ps,p < many)->Fl S' r->Kp r S S'->Q (.tup (aj ps),S')) :
  wO (aP (am defs fuel (d+2)) "_law_drawn_points" 3 [.ref r,.int many,.int size] S) Q:=by
 show ay hg rfl rfl λQ' hR=>?_
 replace k:∀(ps:Jn Jx) S',ps.length=size->ps.Nodup->(∀p∈ps,p < many)->Fl S' r->Kp r S S'->Q' (.rt (.tup (aj ps)),S'):=λa b c e f g h=>hR _ _ (k a b c e f g h)
 clear hR;change wZ _ _ bj [ba (.ref r),ba (.int many),ba (.int size),gV,gV] S Q';have hrt:=hf.lt;dsimp only[bj];nofun
 generalize hM:(many:JI)=tv at hK ⊢;show wn hM.symm (λQ q=>q) ∅ λt S1 ht hS1=>hK _ _ ?_
 clear hK K;subst hM;dsimp only[JG];have e1:S1[t]?=ba (.lst (aj (JW many))):=by
  rw[hS1,show t=(S++[O.rng 0 many]).length by rw[ht]; simp]; exact ag
 have l1:S.length < t:=∅
 have f1:Fl S1 r:=by rw[hS1]; exact(hf.ka .push).ka .push
 have k1:Kp r S S1:=by rw[hS1]; exact Kp.push.trans .push
 have l2:=bS e1;clear hS1 ht;show st ?_;dsimp only[wS,wE,wA,JG];nofun
 have nl:∀xs:Jn Jx,(aj xs).length=xs.length:=λxs=>Jp ..
 show uB (λm Z S'=>Z=[ba (.ref r),ba (.int many),ba (.int size),ba (.ref t),ba (.ref S1.length)]/\∃ls ps:Jn Jx,S'[t]?=ba (.lst (aj ls))/\S'[S1.length]?=ba (.lst (aj ps))/\(ls++ps).Nodup/\(∀p∈ls++ps,p < many)/\ls.length+ps.length=many/\ps.length+m=size/\Fl S' r/\Kp r S S') size rfl rfl hfu #[rfl,JW many,[],al e1,ag,by rw[Li]; exact NZ,λp hp=>by rw[Li]at hp; exact JT.mp hp,by simp,by simp,f1.ka .push,k1.trans .push] ?_
 rintro m Z S2 ⟨rfl,ls,ps,e2,e3,nd,lt,hl,hsz,f2,k2⟩;dsimp only[wT,wE,wA,wV,wG];show eu e3 ?_;rw[nl];dsimp only[v4,aF,wB];show#[λh=>?_,λh=>?_]
 ·have h:(ps.length:JI) < size:=Kt h;show#[m - 1,∅,λQ2 hn _=>?_]
  clear hK k;show st ?_;left;show#[cv e3,cv e2,eu e2 ?_];rw[nl];show aM (d:=d) G.pick f2 ∅ ∅ λv S3 v0 v1 f3 k3=>?_
  have e2':=k3.get _ _ ∅ e2
  have e3':=k3.get _ _ ∅ e3
  have hv:v.toNat < ls.length:=∅
  show GV e2' v0 (kn (Jy hv)) (by rw[nl]; omega) ?_
  have e3s:(S3.set t (.lst ((aj ls).eraseIdx v.toNat)))[S1.length]?=ba (.lst (aj ps)):=by rw[be ∅]; exact e3'
  show jV e3s (by rw[nl]; omega) (bA (hn _ _ #[rfl,ls.eraseIdx v.toNat,ps++[ls[v.toNat]],?_,?_,?_,?_,?_,?_,(f3.own ∅).own ∅,((k2.trans k3).late ∅).late (by have:=k1.len; omega)]))
  ·rw[be ∅,aT e2']
   rw[qT]
  ·rw[aT e3s];unfold aj;rw[J0]; rfl
  ·have hp:(ls.eraseIdx v.toNat++(ps++[ls[v.toNat]])).Perm (ls++ps):=by
    have h1:(ls[v.toNat]::ls.eraseIdx v.toNat).Perm ls:=iO hv;have h2:(ls.eraseIdx v.toNat++(ps++[ls[v.toNat]])).Perm (ls[v.toNat]::(ls.eraseIdx v.toNat++ps)):=by
     rw[<- Lz]; exact List.perm_append_singleton _ _
    exact h2.trans ((h1.append_right ps))
   exact hp.nodup_iff.mpr nd
  ·intro p hp;show lt p ?_;rcases Kc.mp hp with h|h
   ·exact KU _ (List.mem_of_mem_eraseIdx h)
   ·rcases Kc.mp h with h|h
    ·exact Ke _ h
    ·rw[JK.mp h]; exact KU _ (Kd hv)
  ·rw[M5 hv,JC,KD]; omega
  ·rw[JC,KD]; omega
 ·have h:¬ (ps.length:JI) < size:=LX h;show hK _ _ (st ?_);left;exact dB e3 (k ps _ ∅ (M2.mp nd).2.1 (λp hp=>lt p (Ke _ hp)) f2 k2)
end
abbrev bm (n:Jx):Jx->Jn (Jn JI)
 | 0=>[[]]
 | k+1=>(JW ((bm n k).length*n)).map λi=>(bm n k).getD (i / n) []++[((i % n:Jx):JI)]
abbrev bD (a n k:Jx):Jn Pt:=(JW a).flatMap λ(m:Jx)=>(bm n k).map λds=>(((m:Jx):JI),ds)
abbrev cz (a n:Jx):Jx->Jn Wd
 | 0=>[[]]
 | k+1=>(JW ((cz a n k).length*(bD a n k).length)).map λi=>(cz a n k).getD (i / (bD a n k).length) []++[(bD a n k).getD (i % (bD a n k).length) (0,[])]
def Co {n k:Jx}{ds:Jn JI}:ds∈bm n k->ds.length<=k:=by
 induction k generalizing ds with
 | zero=>intro h; cases JK.mp h; exact JA _
 | succ k ih=>
  intro h;obtain⟨i,hi,rfl⟩:=JF.mp h;have hi:=JT.mp hi;have hn:0 < n:=by
   rcases OE n with h|h
   ·rw[h,Pd]at hi; omega
   ·exact h
  have hlt:i / n < (bm n k).length:=L1 (by rw[MP]; exact hi)
  have:=ih (JJ (ap (d:=[]) hlt));rw[JC,KD]; omega
def C0 {M:JS->FF}{Z:Fm}{S:aa}{a b:E}{x y:JI}{Q:QW}(ha:∀Q:QW,Q (.int x,S)->wE M a Z S Q)(hb:∀Q:QW,Q (.int y,S)->wE M b Z S Q)(h1 : -(2 ^ 64) < y)(h2:y < 2 ^ 64)(q:Q (.int (x*y),S)):wE M (.op .mul a b) Z S Q:=by
 have em:fT .mul (.int x) (.int y) S=ba (.int (x*y),S):=qD h1 h2;dsimp only[wE];show ha _ ?_;show hb _ ?_;dsimp only;rw[em];exact q
def iE {n:Jx}:∀k:Jx,(bm n k).length=n ^ k
 | 0=>rfl
 | k+1=>by rw[bm,Jp,J9,iE k,Pf]
def zS {n k:Jx}(hn:n<=3)(hk:k<=5):(bm n k).length<=243/\(k<=4->(bm n k).length<=81):=by
 rw[iE];exact#[J6 (MB hn k) (Ms (n:=3) #v[] hk),λh=>J6 (MB hn k) (Ms (n:=3) #v[] h)]
section
variable{defs:Jn (JS×Df)}{fuel d:Jx}{S:aa}{r:Jx}{Q:QW}
def zU (hg:Is defs ("_law_digits" : JS) 2 4 bH){n k:Jx}(hn1:1<=n)(hn3:n<=3)(hk5:k<=5)(kk:∀(q:Jx) (S':aa),S'[q]?=ba (.lst ((bm n k).map λds=>.tup (ae ds)))->S.length<=q->Ka S S'->Q (.ref q,S')) :
  wO (aP (am defs fuel (d+1)) "_law_digits" 2 [.int n,.int k] S) Q:=by
 show ay hg rfl rfl λQ' hR=>?_
 replace kk:∀(q:Jx) (S':aa),S'[q]?=ba (.lst ((bm n k).map λds=>.tup (ae ds)))->S.length<=q->Ka S S'->Q' (.rt (.ref q),S'):=λa b c e f=>hR _ _ (kk a b c e f)
 clear hR;change wZ _ _ bH [ba (.int n),ba (.int k),gV,gV] S Q';dsimp only[bH];show st ?_;dsimp only[wS,wE,wA,JG];nofun
 show bT (k:JI) (λi Z S'=>∃(q:Jx) (a3:Jw W),Z=[ba (.int n),ba (.int k),ba (.ref q),a3]/\S'[q]?=ba (.lst ((bm n i).map λds=>.tup (ae ds)))/\S.length<=q/\Ka S S') rfl rfl ∅ #[rfl,_,_,rfl,ag,JA _,.push] ?_ ?_
 ·rintro i Z S1 hi ⟨q,a3,rfl,e1,hq,k1⟩ Q2 hn _;clear hK kk;obtain⟨b9,b3⟩:=zS (n:=n) (k:=i) hn3 ∅
  have b3:=b3 ∅
  have hP:(bm n i).length*n<=243:=NQ b3 hn3;have hPz:(((bm n i).length:JI)*(n:JI))=(((bm n i).length*n:Jx):JI):=(Pj ..).symm;show st ?_;dsimp only[wS,wE,JG];show dj ((((bm n i).length*n:Jx)):JI) (λj ys Z2 S2=>(∃a1,Z2=[gV,a1,ba (.int n),ba (.ref q)])/\ys=((bm n (i+1)).take j).map (λds=>.tup (ae ds))/\S2=S1) rfl rfl rfl ∅ ?_ ?_ ?_
  ·show C0 (x:=(bm n i).length) (y:=n) (λQ q=>?_) (λQ q=>q) ∅ ∅ #[by rw[hPz],#[gV,rfl],rfl,rfl]
   dsimp only[wE,wA,wV,wG];show eu e1 ?_;rw[Jp];exact q
  ·rintro j ys Z2 S2 hj ⟨⟨a1,rfl⟩,rfl,rfl⟩;have hj':j < (bm n i).length*n:=∅
   have hlt:j / n < (bm n i).length:=L1 (by rw[MP]; exact hj')
   have hg:=ap (d:=[]) hlt;have hdl:=Co (JJ hg);dsimp only[fP,wC,wE,wA,wV,wG,JG];show#[λ_=>ab (iA ∅ ∅) ?_,λz=>by cases z]
   show fq e1 (w:=.tup (ae ((bm n i).getD (j / n) []))) (N9 ∅ ∅) (by rw[show((j:JI) / (n:JI)).toNat=j / n from rfl,JB,hg]; rfl) ?_
   show ab (i4 ∅) (ab (gh (j5 (by rw[JC,show(ae ((bm n i).getD (j / n) [])).length=((bm n i).getD (j / n) []).length from Jp ..]; show _+1<=1000; omega))) #[#[_,rfl],?_,rfl])
   have ed:(bm n (i+1))[j]?=ba ((bm n i).getD (j / n) []++[((j % n:Jx):JI)]):=by
    rw[bm,JB,LQ hj']; rfl
   rw[Kj,ed];simp[ae]
  ·rintro ys Z2 S2 ⟨_,rfl,rfl⟩;have hl:(bm n (i+1)).length=(bm n i).length*n:=by rw[bm,Jp,J9]
   rw[JL,<- hl,Kx];show#[j5 (by rw[Jp,hl]; omega),bA (hn _ _ #[_,_,rfl,ag,k1.len,k1.trans .push])]
 ·rintro Z S1 ⟨q,a3,rfl,e1,hq,k1⟩;exact hK _ _ (st (kk q S1 (by rw[JL]at e1; exact e1) hq k1))
end
def Cp {a n k:Jx}{u:Wd}:u∈cz a n k->u.length<=k:=by
 induction k generalizing u with
 | zero=>intro h; cases JK.mp h; exact JA _
 | succ k ih=>
  intro h;obtain⟨i,hi,rfl⟩:=JF.mp h;have hi:=JT.mp hi;have hlt:i / (bD a n k).length < (cz a n k).length:=L1 (by rw[MP]; exact hi)
  have:=ih (JJ (ap (d:=[]) hlt));rw[JC,KD]; omega
def iF {a n k:Jx}:(bD a n k).length=a*n ^ k:=by
 unfold bD
 induction a with
 | zero=>simp
 | succ a ih=>rw[Mq,L7,JC,ih]; simp[iE,NH]
def eB {a n:Jx}(k:Jx):(cz a n (k+1)).length=(cz a n k).length*(bD a n k).length:=by rw[cz,Jp,J9]
def qU {a n k:Jx}(ha1:1<=a)(ha:a<=3)(hn1:1<=n)(hn:n<=3)(han:a*n<=6)(hk:k<=2):1<=(bD a n k).length/\(bD a n k).length<=27/\(cz a n k).length*(bD a n k).length<=216:=by
 have w0:(cz a n 0).length=1:=rfl;have w1:=eB (a:=a) (n:=n) 0;have w2:=eB (a:=a) (n:=n) 1;simp only[iF]at w1 w2 ⊢;rcases(show k=0\/k=1\/k=2 by omega)with rfl|rfl|rfl <;> rcases(show a=1\/a=2\/a=3 by omega)with rfl|rfl|rfl <;> rcases(show n=1\/n=2\/n=3 by omega)with rfl|rfl|rfl <;> simp_all
def lE {M:JS->FF}{Z:Fm}{S:aa}{elt e:E}{tg:Tg}{cs:Es}{cap:Jn (Jw Jx)}{Q:QW}(oi:dA e=true)(oe:dA elt=true)(oc:lW cs=true)(he:wE M e Z S λp=>∃(t:Jx) (xs:Jn W) (I:Jx->Jn W->Fm->aa->Prop),p.1=.ref t/\I 0 [] (eg cap Z) p.2/\(∀i ys Z S,I i ys Z S->S[t]?=ba (.lst xs))/\
  (∀(i:Jx) (w:W) (ys:Jn W) (Z:Fm) (S:aa),xs[i]?=ba w->I i ys Z S->wO (fZ tg w Z S) λq=>fP M elt cs q.1 q.2 (λy=>I (i+1) (ys++[y])) (I (i+1) ys))/\
  ∀ys Z S,I xs.length ys Z S->ys.length<=sizeLine/\Q (.ref S.length,S++[.lst ys])):Wp (aB M (.comp elt tg (.seq e) cs cap) Z S) Q:=by
 obtain⟨w,S1,e1,t,xs,I,rfl,h0,hat,hstep,hend⟩:=br oi he;exact jA (mi:=.live t) (S1:=S1) I oe oc (by simp only[iZ,ee,e1,aq (hat _ _ _ _ h0)]) (λi ys Z S h=>by simp only[MI.at,aq (hat _ _ _ _ h)]) (by simp only[MI.len,aq (hat _ _ _ _ h0),Kg]) h0 hstep hend
section
variable{defs:Jn (JS×Df)}{fuel d:Jx}{S:aa}{r:Jx}{Q:QW}
def GX {t l:Jx}{xs ys:Jn W}(h:S[t]?=ba (.lst xs))(h2:S[l]?=ba (.lst ys))(hl:xs.length+ys.length<=1000)(q:Q (.non,S.set t (.lst (xs++ys)))):wO (Me.extend.fn (.ref t) [.ref l] S) Q:=by
 show ab ?_ q
 (dsimp only[Me.fn,iN]; simp only[di h,di h2])
 rw[JX (j5 hl)]
def wo (hd:Is defs ("_law_digits" : JS) 2 4 bH)(hg:Is defs ("_law_worlds" : JS) 2 6 cm){a n K:Jx}{tv N:Jn W}{b0:W}(hM:tv.length=a)(hN:N.length=n)(ha1:1<=a)(ha3:a<=3)(hn1:1<=n)(hn3:n<=3)(hK5:K<=5)(most:∀i < K,1<=(bD a n i).length/\(bD a n i).length<=27/\(cz a n i).length*(bD a n i).length<=216)
  (kk:∀(q:Jx) (S':aa),S'[q]?=ba (.lst ((cz a n K).map az))->S.length<=q->Ka S S'->Q (.ref q,S')) :
  wO (aP (am defs fuel (d+2)) "_law_worlds" 2 [.tup [.tup tv,.tup N,b0],.int (K:JI)] S) Q:=by
 show ay hg rfl rfl λQ' hR=>?_
 replace kk:∀(q:Jx) (S':aa),S'[q]?=ba (.lst ((cz a n K).map az))->S.length<=q->Ka S S'->Q' (.rt (.ref q),S'):=λa b c e f=>hR _ _ (kk a b c e f)
 clear hR;change wZ _ _ cm [ba (.tup [.tup tv,.tup N,b0]),ba (.int (K:JI)),gV,gV,gV,gV] S Q';generalize hR0:W.tup [.tup tv,.tup N,b0]=R;dsimp only[cm];show st ?_;dsimp only[wS,wE,wA,JG];show aG λK' hK=>?_
 show bT (K:JI) (λi Z S'=>∃(q:Jx) (a3 a4 a5:Jw W),Z=[ba R,ba (.int (K:JI)),ba (.ref q),a3,a4,a5]/\S'[q]?=ba (.lst ((cz a n i).map az))/\S.length<=q/\Ka S S') rfl rfl ∅ #[rfl,_,_,_,_,rfl,ag,JA _,.push] ?_ ?_
 ·rintro i Z S1 hi ⟨q,a3,a4,a5,rfl,e1,hq,k1⟩ Q2 hn _;clear hK kk;obtain⟨p1,p27,hP⟩:=most i ∅
  have hq1:=bS e1;show st ?_;dsimp only[wS,wE,wA,JG];show aG λK' hK=>?_
  show jb rfl rfl ?_;dsimp only[wE,wA,wV,wG];subst hR0;show ak #v[] rfl (aN ?_)
  rw[hM];show#[(a:JI),λm Z S'=>∃a5,Z=[ba (.tup [.tup tv,.tup N,b0]),ba (.int (K:JI)),ba (.ref q),ba (.int i),ba (.ref S1.length),a5]/\S'[S1.length]?=ba (.lst ((bD m n i).map bh))/\S'[q]?=ba (.lst ((cz a n i).map az))/\Ka S S',rfl,∅,#[a5,rfl,ag,al e1,k1.trans .push],?_,?_]
  ·rintro m Z S2 hm ⟨a5,rfl,e2,e2q,k2⟩ Q3 hn3' _;clear hK hn;have hS12:=bS e2;show st ?_;left;show#[cv e2,?_];show lE rfl rfl rfl ?_;dsimp only[wE,wA,wV,wG];show ak #v[] rfl (aN ?_)
   rw[hN];show zU (d:=d) hd hn1 hn3 ∅ λl S3 e3 hl k3=>?_
   show#[l,(bm n i).map λds=>.tup (ae ds),λj ys Z2 S4=>(∃a1,Z2=[gV,a1,ba (.int m)])/\ys=((bm n i).take j).map (λds=>bh ((m:JI),ds))/\S4=S3,rfl,#[#[gV,rfl],rfl,rfl],λj ys Z2 S4 h=>by rw[h.2.2]; exact e3,?_,?_]
   ·rintro j w ys Z2 S4 hw ⟨⟨a1,rfl⟩,rfl,rfl⟩;rw[JB,Js]at hw;obtain⟨ds,hds,rfl⟩:=hw;show ab (show fZ (.nm 1) (.tup (ae ds)) [gV,a1,ba (.int m)] S4=ba ([gV,ba (.tup (ae ds)),ba (.int m)],S4)from rfl) ?_
    show#[λ_=>#[#[_,rfl],?_,rfl],λz=>by cases z]
    rw[Kj,hds];simp[bh,ae]
   ·rintro ys Z2 S4 ⟨_,rfl,rfl⟩;rw[show((bm n i).map λds=>W.tup (ae ds)).length=(bm n i).length from Jp ..,Kx]
    have hdl:=(zS (n:=n) (k:=i) hn3 ∅).1
    have e2':=al (u:=O.lst ((bm n i).map λds=>bh ((m:JI),ds))) (k3.get _ _ e2)
    have hpm:(bD m n i).length<=27:=by
     rw[iF]at p27 ⊢;exact J6 (Nb _ ∅) p27
    show#[j5 (by rw[Jp]; omega),GX e2' ag (by rw[Jp,Jp]; omega) (bA (hn3' _ _ #[_,rfl,?_,?_,((k2.trans k3).trans .push).late k1.len]))]
    ·rw[aT e2'];unfold bD;rw[Mq,L7,J0];simp
    ·rw[be ∅]; exact al (k3.get _ _ e2q)
  ·rintro Z S2 ⟨a5,rfl,e2,e2q,k2⟩;rw[JL]at e2;show hK _ _ ?_;clear hK K';have hPz:(((cz a n i).length:JI)*((bD a n i).length:JI))=(((cz a n i).length*(bD a n i).length:Jx):JI):=(Pj ..).symm;show st ?_;dsimp only[wS,wE,JG];show dj (((cz a n i).length*(bD a n i).length:Jx):JI) (λj ys Z2 S3=>(∃a1,Z2=[gV,a1,ba (.ref S1.length),ba (.ref q)])/\ys=((cz a n (i+1)).take j).map az/\S3=S2) rfl rfl rfl ∅ ?_ ?_ ?_
   ·show C0 (x:=(cz a n i).length) (y:=(bD a n i).length) (λQ q'=>?_) (λQ q'=>?_) ∅ ∅ #[by rw[hPz],#[gV,rfl],rfl,rfl]
    ·dsimp only[wE,wA,wV,wG];show eu e2q ?_;rw[Jp];exact q'
    ·dsimp only[wE,wA,wV,wG];show eu e2 ?_;rw[Jp];exact q'
   ·rintro j ys Z2 S3 hj ⟨⟨a1,rfl⟩,rfl,rfl⟩;have hj':j < (cz a n i).length*(bD a n i).length:=∅
    have hlt:j / (bD a n i).length < (cz a n i).length:=L1 (by rw[MP]; exact hj')
    have hg:=ap (d:=[]) hlt;have hwl:=Cp (JJ hg);have hmod:j % (bD a n i).length < (bD a n i).length:=Pa _ p1;have hp:=ap (d:=(0,[])) hmod;dsimp only[fP,wC,wE,wA,wV,wG,JG];show#[λ_=>eu e2 ?_,λz=>by cases z]
    rw[Jp];show ab (iA ∅ ∅) ?_
    show fq e2q (w:=az ((cz a n i).getD (j / (bD a n i).length) [])) (N9 ∅ ∅) (by rw[show((j:JI) / ((bD a n i).length:JI)).toNat=j / (bD a n i).length from rfl,JB,hg]; rfl) (eu e2 ?_)
    rw[Jp];show ab (i4 ∅) (fq e2 (w:=bh ((bD a n i).getD (j % (bD a n i).length) (0,[]))) (Mp _ ∅) (by rw[show((j:JI) % ((bD a n i).length:JI)).toNat=j % (bD a n i).length from rfl,JB,hp]; rfl) ?_)
    show ab (gh (j5 (by rw[JC,Jp]; show _+1<=1000; omega))) #[#[_,rfl],?_,rfl]
    have ed:(cz a n (i+1))[j]?=ba ((cz a n i).getD (j / (bD a n i).length) []++[(bD a n i).getD (j % (bD a n i).length) (0,[])]):=by
     rw[cz,JB,LQ hj']; rfl
    rw[Kj,ed];simp[az]
   ·rintro ys Z2 S3 ⟨_,rfl,rfl⟩;rw[JL,<- eB,Kx];exact#[j5 (by rw[Jp,eB]; omega),bA (hn _ _ #[_,_,_,_,rfl,ag,k2.len,k2.trans .push])]
 ·rintro Z S1 ⟨q,a3,a4,a5,rfl,e1,hq,k1⟩;rw[JL]at e1;exact hK _ _ (st (kk q S1 e1 hq k1))
def zW (hd:Is defs ("_law_digits" : JS) 2 4 bH)(hg:Is defs ("_law_worlds" : JS) 2 6 cm){a n:Jx}{tv N:Jn W}{b0:W}(hM:tv.length=a)(hN:N.length=n)(ha1:1<=a)(ha3:a<=3)(hn1:1<=n)(hn3:n<=3)(han:a*n<=6)
  (kk:∀(q:Jx) (S':aa),S'[q]?=ba (.lst ((cz a n 3).map az))->S.length<=q->Ka S S'->Q (.ref q,S')) :
  wO (aP (am defs fuel (d+2)) "_law_worlds" 2 [.tup [.tup tv,.tup N,b0],.int 3] S) Q:=
 wo (K:=3) hd hg hM hN ha1 ha3 hn1 hn3 #v[] (λi hi=>qU ha1 ha3 hn1 hn3 han ∅) kk
end
abbrev dH (a:Jx)(bs:Jn JI):Jn Wd:=(cz a bs.length 3).map (jC bs)
abbrev b6 (a:Jx)(bs:Jn JI):J3:=match jP ((dH a bs).map bC)with
 | some ks=>decide ks.Nodup && !ks.isEmpty
 | none=>false
def IE:b6 1 [0]=true/\b6 2 [0]=true/\b6 3 [0]=true:=by decide +kernel
def Hk:b6 1 [0,1]=true/\b6 2 [0,1]=true/\b6 1 [1,0]=true/\b6 2 [1,0]=true:=by decide +kernel
def IF:b6 1 [0,1,2]=true/\b6 1 [1,0,2]=true/\b6 1 [0,2,1]=true:=by decide +kernel
def IG:b6 3 [0,1]=true:=by decide +kernel
def IH:b6 3 [1,0]=true:=by decide +kernel
def II:b6 2 [0,1,2]=true:=by decide +kernel
def IJ:b6 2 [1,0,2]=true:=by decide +kernel
def IK:b6 2 [0,2,1]=true:=by decide +kernel
abbrev ft (bs:Jn JI)(v:Wd)(ps:Jn Jx)(i:Jx):Pt:=((v.getD i (0,[])).1,ps.map λq=>bO bs v i q)
abbrev aE (n:Jx)(os:Jn (Jn Jx)):Jn (Jn Jx):=os.flatMap λo=>((JW n).filter λp=>decide (p∉o)).map λp=>o++[p]
def dg (bs:Jn JI)(v:Wd)(o:Jn Jx)(p:Jx):ah bs v (o++[p])=ah bs v o++[ft bs v o p]:=by
 unfold ah ft;rw[JC,KD,Mq,J0];congr 1
 ·show KG λk hk=>?_
  have hk:=JT.mp hk;rw[show(o++[p]).getD k 0=o.getD k 0 by simp[Ku hk],List.take_append_of_le_length ∅]
 ·simp
def sL {xs:Jn JI}{k:Jx}(h:xs.length=k):(JW k).map (λq=>xs.getD q 0)=xs:=by
 apply LW
 ·simp[h]
 ·intro i h1 h2; simp[h2]
def wp {bs:Jn JI}{a n:Jx}{u:Wd}{k:Jx}(hu:GoodW a n u)(hk:k < u.length):ft bs u (JW k) k=u.getD k (0,[]):=by
 unfold ft;have hl:=hu.len k _ (ap (d:=(0,[])) hk);have e:((JW k).map λq=>bO bs u k q)=(u.getD k (0,[])).2:=by
  show Eq.trans (KG λq hq=>?_) (sL hl)
  have hq:=JT.mp hq;unfold bO;rw[JX hq]
 rw[e]
def lF {α β:Type}{f g:α->Jn β}:∀ {xs:Jn α},(∀x∈xs,f x=g x)->xs.flatMap f=xs.flatMap g
 | [],_=>rfl
 | x::xs,h=>by rw[Le,Le,h x (.head _),lF λy hy=>h y (.tail _ hy)]
def je {n:Jx}:∀os:Jn (Jn Jx),(aE n os).length<=os.length*n
 | []=>by simp[aE]
 | o::os=>by
  have ih:=je (n:=n) os;unfold aE at ih ⊢;rw[Le,JC,Jp,Kr,NH];have:=Ml (λp=>decide (p∉o)) (JW n)
  rw[J9]at this;omega
def wq {n:Jx}{os:Jn (Jn Jx)}{i:Jx}:(aE n (os.take i)).length<=os.length*n:=by
 show J6 (je _) (Nb _ ?_);rw[Kn]; omega
def nk {S:aa}{d:Jx}:∀xs ys:Jn JI,j3 (kG S d) (xs.map W.int) (ys.map W.int)=ba (decide (xs=ys))
 | [],[]=>rfl
 | [],_::_=>rfl
 | _::_,[]=>rfl
 | x::xs,y::ys=>by
  have e:kG S d (.int x) (.int y)=ba (x==y):=by cases d <;> rfl
  simp only[KO,j3,e,nk xs ys]
  by_cases h:x=y
  ·subst h; by_cases h2:xs=ys <;> simp[h2]
  ·have h':(x==y)=false:=by simpa using h
   simp[h,h']
def EE {S:aa}{d:Jx}(p q:Pt):kG S (d+2) (bh p) (bh q)=ba (decide (p=q)):=by
 obtain⟨m,ws⟩:=p;obtain⟨m',ws'⟩:=q;change j3 (kG S (d+1)) [.int m,.tup (ws.map W.int)] [.int m',.tup (ws'.map W.int)]=_;have e:kG S (d+1) (.int m) (.int m')=ba (m==m'):=rfl;have e2:kG S (d+1) (.tup (ws.map W.int)) (.tup (ws'.map W.int))=ba (decide (ws=ws')):=nk ws ws';simp only[j3,e,e2]
 by_cases h:m=m'
 ·subst h; by_cases h2:ws=ws' <;> simp[h2]
 ·have h':(m==m')=false:=by simpa using h
  simp[h,h']
def GY {S:aa}{p q:Pt}:aZ .eq (bh p) (bh q) S=ba (.bl (decide (p=q)),S):=by
 show(kG S (18+2) (bh p) (bh q)).map _=_;rw[EE]; rfl
def qV {p:Jx}:∀ps:Jn Jx,((aj ps).any λz=>xE z (.int p))=decide (p∈ps)
 | []=>rfl
 | q::ps=>by
  show((q:JI)==(p:JI)||(aj ps).any _)=_
  rw[qV ps]
  by_cases h:q=p
  ·subst h; simp
  ·have h1:((q:JI)==(p:JI))=false:=by simp; omega
   have h2:¬ p=q:=λe=>h e.symm
   rw[h1]; simp[h2]
def wt (ps:Jn Jx):(aj ps).all bI=true:=by
 rw[JQ];intro x hx;obtain⟨p,_,rfl⟩:=JF.mp hx;rfl
def zX {S:aa}{p:Jx}{ps:Jn Jx}:aZ .notin (.int p) (.tup (aj ps)) S=ba (.bl (decide (p∉ps)),S):=by
 change ik .notin (.int p) (.tup (aj ps)) S=_;have hf:(bI (.int p)&&(aj ps).all bI)=true:=by rw[wt]; rfl
 simp only[ik,DP,Bc,eH,hf,Lp,Kg,qV];congr 3
 by_cases h:p∈ps <;> simp[h]
def zY {xs:Jn W}:jj xs gV (ba (-1))=xs.dropLast:=by
 unfold jj;rw[HT.kC,PJ,SM,List.dropLast_eq_take];congr 1;show(if (-1:JI) < 0 then((-1:JI)+(xs.length:JI)).toNat else min (-1:JI).toNat xs.length)=_
 rw[JX #v[]]; omega
def wu (ps:Jn Jx):(aj ps).dropLast=aj ps.dropLast:=by unfold aj; rw[List.map_dropLast]
def Cq {S:aa}{ps:Jn Jx}(h:ps≠[]):o7 (.tup (aj ps)) (.int (-1)) S=ba (.int (ps.getLastD 0:Jx),S):=by
 have hl:(aj ps).length=ps.length:=Jp ..;have hp:0 < ps.length:=P5.mpr h;have hs:sZ (aj ps).length (-1)=ba (ps.length - 1):=by
  rw[hl];unfold sZ;rw[J8 #v[]]
  exact(JX ∅).trans (by congr 1; omega)
 have hg:(aj ps)[ps.length - 1]?=ba (.int (ps.getLastD 0:Jx)):=by
  show kn ?_;rw[List.getLastD_eq_getLast?,List.getLast?_eq_getElem?];have:ps.length - 1 < ps.length:=∅
  simp[this]
 (dsimp only[o7,vn,pd]; simp only[hs,hg,Option.bind_some,Kg])
abbrev aJ:Ss:=
 #v[.set 2 (.lst .nil),.loop (.nm 3) (.seq (.v 0)) #v[.ex (.me .extend (.v 2) #v[.comp (.op .add (.v 2) (.tup #v[.v 1])) (.nm 1) (.rng #v[.v 1]) #v[.cmp .notin (.v 1) (.v 2)] [gV,gV,ba 3]])],.ret (.v 2)]
abbrev bW (os:Jn (Jn Jx)):Jn W:=os.map λo=>.tup (aj o)
section
variable{defs:Jn (JS×Df)}{fuel d:Jx}{S:aa}{Q:QW}
def sM {t l:Jx}{xs ys:Jn W}(h:S[t]?=ba (.lst xs))(h2:S[l]?=ba (.lst ys))(hl:xs.length+ys.length<=1000000)(q:Q (.non,S.set t (.lst (xs++ys)))):wO (Me.extend.fn (.ref t) [.ref l] S) Q:=by
 show ab ?_ q;simp only[Me.fn,iN,di h,di h2];rw[JX (by rw[Ky]; omega)]
def ma {n:Jx}(h:n<=1000000):n<=sizeLine:=by rw[Ky]; omega
def qW (hg:Is defs ("longer_orders" : JS) 2 4 aJ){n l:Jx}{os:Jn (Jn Jx)}(e:S[l]?=ba (.lst (bW os)))(hn:n<=100)(hol:∀o∈os,o.length<=100)(hos:os.length*n<=100000)
  (k:∀(q:Jx) (S':aa),S'[q]?=ba (.lst (bW (aE n os)))->S.length<=q->Ka S S'->Q (.ref q,S')) :
  wO (aP (am defs fuel (d+1)) "longer_orders" 2 [.ref l,.int n] S) Q:=by
 show ay hg rfl rfl λQ' hR=>?_
 replace k:∀(q:Jx) (S':aa),S'[q]?=ba (.lst (bW (aE n os)))->S.length<=q->Ka S S'->Q' (.rt (.ref q),S'):=λa b c e f=>hR _ _ (k a b c e f)
 clear hR;change wZ _ _ aJ [ba (.ref l),ba (.int n),gV,gV] S Q';have hlS:=bS e;dsimp only[aJ];show st ?_;dsimp only[wS,wE,wA,JG];nofun
 show oG l (bW os) (λi Z S'=>(∃a3,Z=[ba (.ref l),ba (.int n),ba (.ref S.length),a3])/\S'[l]?=ba (.lst (bW os))/\S'[S.length]?=ba (.lst (bW (aE n (os.take i))))/\Ka S S') rfl rfl #[rfl,#[gV,rfl],al e,ag,.push] (λi Z S' h=>h.2.1) ?_ ?_
 ·rintro i w Z S1 hw ⟨⟨a3,rfl⟩,e0,e1,k1⟩;clear hK k;unfold bW at hw;rw[JB,Js]at hw;obtain⟨o,ho,rfl⟩:=hw;have hol:=hol o (JJ ho);show ab (show fZ (.nm 3) (.tup (aj o)) [ba (.ref l),ba (.int n),ba (.ref S.length),a3] S1=ba ([ba (.ref l),ba (.int n),ba (.ref S.length),ba (.tup (aj o))],S1)from rfl) ?_
  intro Q2 hn _;show st ?_;left;show#[cv e1,?_];show dj (n:JI) (λj ys Z2 S2=>(∃a1,Z2=[gV,a1,ba (.tup (aj o))])/\ys=bW (((JW j).filter λp=>decide (p∉o)).map λp=>o++[p])/\S2=S1) rfl rfl rfl ∅ #[rfl,#[gV,rfl],rfl,rfl] ?_ ?_
  ·rintro j ys Z2 S2 hj ⟨⟨a1,rfl⟩,rfl,rfl⟩;dsimp only[fP,wC,wE,wA,wV,wG,JG];show ab zX ?_;dsimp only[wB];have er:(JW (j+1)).filter (λp=>decide (p∉o))=(JW j).filter (λp=>decide (p∉o))++(if j∉o then[j]else[]):=by
    rw[Mq,MS];congr 1
    by_cases h:j∈o <;> simp[h]
   show#[λh=>?_,λh=>#[#[_,rfl],?_,rfl]]
   ·have h:j∉o:=Kt h;show ab (gh (ma (by rw[JC,show(aj o).length=o.length from Jp ..]; show _+1<=_; omega))) #[#[_,rfl],?_,rfl]
    rw[er,JX h,J0];unfold bW;rw[J0];simp[aj]
   ·have h:¬ j∉o:=LX h;rw[er,J8 h,Li]
  ·rintro ys Z2 S2 ⟨_,rfl,rfl⟩;rw[JL];have hlen:(bW (((JW n).filter λp=>decide (p∉o)).map λp=>o++[p])).length<=n:=by
    unfold bW;rw[Jp,Jp];exact J6 (Ml _ _) (by rw[J9]; exact JA _)
   have e1':=al (u:=O.lst (bW (((JW n).filter λp=>decide (p∉o)).map λp=>o++[p]))) e1
   have hlt:=wq (n:=n) (os:=os) (i:=i);have hlw:(bW (aE n (os.take i))).length=(aE n (os.take i)).length:=Jp ..;show#[ma ∅,sM e1' ag ∅ (bA (hn _ _ #[#[_,rfl],?_,?_,(k1.trans .push).late (JA _)]))]
   ·rw[be ∅]; exact al e0
   ·rw[aT e1'];unfold aE bW;rw[Kj,ho];simp
 ·rintro Z S1 ⟨⟨a3,rfl⟩,e0,e1,k1⟩;rw[show(bW os).length=os.length from Jp ..,Kx]at e1
  exact hK _ _ (st (k _ _ e1 (JA _) k1))
def EF {t:Jx}{xs:Jn W}{y:W}(h:S[t]?=ba (.lst xs))(hl:xs.length < 1000000)(q:Q (.non,S.set t (.lst (xs++[y])))):wO (Me.append.fn (.ref t) [y] S) Q:=ab (uz h (by rw[Ky]; omega)) q
def eP {i:Jx}{xs:Jn W}{c:Lf}(h:S[i]?=ba (.lst xs))(hc:qk.contains c=true):vR S (.ref i) c=ba ("list" == c||("list" == "bool" && c == "int")):=by
 have:Hg S (.ref i)=ba "list":=by simp[Hg,aq h]
 unfold vR;rw[this];exact JX hc
def ww (hg:Is defs ("_law_alike" : JS) 2 2 aY){n i j:Jx}{xs:Jn W}(hi:S[i]?=ba (.lst xs))(hj:S[j]?=ba (.lst xs))(hl:xs.length<=100000)(hx:∀x∈xs,Tr n x)(k:∀S',Ka S S'->Q (.bl true,S')) :
  wO (aP (am defs fuel (d+n+2)) "_law_alike" 2 [.ref i,.ref j] S) Q:=by
 show ay hg rfl rfl λQ' hR=>?_
 replace k:∀S',Ka S S'->Q' (.rt (.bl true),S'):=λS' a=>hR _ _ (k S' a)
 clear hR;change wZ _ _ aY [ba (.ref i),ba (.ref j)] S Q';dsimp only[aY];show aG λK hK=>bZ (S1:=S) (λQ q=>q) (hK _ _ ?_)
 clear hK K;show aG λK hK=>bZ (S1:=S) (λQ q=>?_) (hK _ _ ?_)
 ·dsimp only[wT,wE,wV,wG];show ab (eP hj #v[]) #[λz=>?_,λ_=>ab (eP hi #v[]) q]
  exact absurd z #v[]
 clear hK K;show aG λK hK=>bZ (S1:=S) (λQ q=>?_) (hK _ _ ?_)
 ·dsimp only[wT,wE,wV,wG];exact ab (eP hj #v[]) q
 clear hK K;show aG λK hK=>bZ (S1:=S) (λQ q=>?_) (hK _ _ ?_)
 ·dsimp only[wT,wE,wV,wG];exact ab (eP hj #v[]) q
 clear hK K;show aG λK hK=>bZ (S1:=S) (λQ q=>?_) (hK _ _ ?_)
 ·dsimp only[wT,wE,wV,wG];show ab (eP hj #v[]) (ab (eP hi #v[]) ?_)
  show ab (show aZ .ne (.bl false) (.bl false) S=ba (.bl false,S)from rfl) #[λz=>(by cases z),λ_=>?_]
  dsimp only;show ab (eP hj #v[]) (ab (eP hi #v[]) ?_)
  exact ab (show aZ .ne (.bl true) (.bl true) S=ba (.bl false,S)from rfl) q
 clear hK K;show st ?_;left;show eu hi (eu hj ?_);dsimp only[iB,aF,wB];rw[KJ];show#[λ_=>?_,λz=>by cases z]
 show dj (xs.length:JI) (λm ys Z2 S2=>(∃a1,Z2=[gV,a1,ba (.ref j),ba (.ref i)])/\ys=Km m (.bl true)/\Ka S S2) rfl rfl rfl ∅ ?_ ?_ ?_
 ·dsimp only[wE,wA,wV,wG];exact eu hj #[rfl,#[gV,rfl],rfl,.refl]
 ·rintro m ys Z2 S2 hm ⟨⟨a1,rfl⟩,rfl,k2⟩;have hm':m < xs.length:=∅
  dsimp only[fP,wC,wE,wA,wV,wG,JG];show#[λ_=>fq (k2.get _ _ hi) (JN m) (by rw[JL]; exact Jy hm') (fq (k2.get _ _ hj) (JN m) (by rw[JL]; exact Jy hm') (uP hg n d _ _ _ (hx _ (Kd hm')) λS3 k3=>#[#[_,rfl],?_,k2.trans k3])),λz=>by cases z]
  rw[PR]
 ·rintro ys Z2 S2 ⟨_,rfl,k2⟩;rw[JL];show#[ma (by rw[NR]; omega),ab (a:=(.bl true,S2++[.lst (Km xs.length (.bl true))])) ?_ (k _ (k2.trans .push))]
  simp only[Bi.fn,Bl,aq ag,jG,Kg,uO]
end
def Cr {a:Jx}{bs:Jn JI}(h:SizeOk a bs):b6 a bs=true:=by
 obtain⟨h0,hb,hm,h3⟩:=h;have ha:a=1\/a=2\/a=3:=∅
 rcases hb with rfl|rfl|rfl|rfl|rfl|rfl <;> rcases ha with rfl|rfl|rfl
 ·exact IE.1
 ·exact IE.2.1
 ·exact IE.2.2
 ·exact Hk.1
 ·exact Hk.2.1
 ·exact IG
 ·exact Hk.2.2.1
 ·exact Hk.2.2.2
 ·exact IH
 ·exact IF.1
 ·exact II
 ·exact absurd hm #v[]
 ·exact IF.2.1
 ·exact IJ
 ·exact absurd hm #v[]
 ·exact IF.2.2
 ·exact IK
 ·exact absurd hm #v[]
def qX:∀ {us vs:Jn Wd},us.map bC=vs.map bC->us=vs
 | [],[],_=>rfl
 | [],_::_,h=>by cases h
 | _::_,[],h=>by cases h
 | x::xs,y::ys,h=>by
  simp only[KO,TU]at h;rw[fM h.1,qX h.2]
def qY:∀xs:Jn JI,cW (xs.map T.int)=true
 | []=>rfl
 | _::xs=>qY xs
def kw:∀u:Wd,cW (u.map eD)=true
 | []=>rfl
 | p::u=>by
  simp only[KO,cW,Jv];show#[?_,kw u];simp[eD,d6,cW,qY]
def oT (u:Wd):d6 (bC u)=true:=kw u
def C3:∀ {ks:Jn T} {L:Jn Wd},(∀k∈ks,k∈L.map bC)->∃us:Jn Wd,ks=us.map bC/\∀u∈us,u∈L
 | [],_,_=>#[[],rfl,λ_ h=>nomatch h]
 | k::ks,L,h=>by
  obtain⟨u,hu,rfl⟩:=JF.mp (h k (.head _));obtain⟨us,rfl,h2⟩:=C3 λk hk=>h k (.tail _ hk)
  exact#[u::us,rfl,λv hv=>(JR.mp hv).elim (λe=>e ▸ hu) (h2 v)]
def jW:∀ {us:Jn Wd},(us.map bC).Nodup->us.Nodup
 | [],_=>.nil
 | u::us,h=>by
  rw[KO,K1]at h;exact K1.mpr #[λz=>h.1 (JF.mpr #[u,z,rfl]),jW h.2]
def oU {n k:Jx}{ds:Jn JI}:ds∈bm n k->ds.length=k/\∀w∈ds,0<=w/\w < (n:JI):=by
 induction k generalizing ds with
 | zero=>intro h; cases JK.mp h; exact#[rfl,λw hw=>nomatch hw]
 | succ k ih=>
  intro h;obtain⟨i,hi,rfl⟩:=JF.mp h;have hi:=JT.mp hi;have hn:0 < n:=by
   rcases OE n with h|h
   ·rw[h,Pd]at hi; omega
   ·exact h
  have hlt:i / n < (bm n k).length:=L1 (by rw[MP]; exact hi)
  obtain⟨h1,h2⟩:=ih (JJ (ap (d:=[]) hlt));show#[by rw[JC,h1]; rfl,λw hw=>?_]
  rcases Kc.mp hw with h|h
  ·exact h2 w h
  ·rw[JK.mp h];have:=Pa i hn;omega
def qZ {a n k:Jx}{u:Wd}:u∈cz a n k->GoodW a n u/\u.length=k:=by
 induction k generalizing u with
 | zero=>intro h; cases JK.mp h; exact#[.nil,rfl]
 | succ k ih=>
  intro h;obtain⟨i,hi,rfl⟩:=JF.mp h;have hi:=JT.mp hi;have hpos:0 < (bD a n k).length:=by
   rcases OE (bD a n k).length with h|h
   ·rw[h,Pd]at hi; omega
   ·exact h
  have hlt:i / (bD a n k).length < (cz a n k).length:=L1 (by rw[MP]; exact hi)
  obtain⟨h1,h2⟩:=ih (JJ (ap (d:=[]) hlt));have hp:=JJ (ap (d:=(0,[])) (Pa i hpos));obtain⟨m,hm,hp⟩:=K4.mp hp;obtain⟨ds,hds,e⟩:=JF.mp hp;obtain⟨g1,g2⟩:=oU hds;have hm:=JT.mp hm;rw[<- e];exact#[h1.snoc #[∅,∅] (by rw[g1,h2]) g2,by rw[JC,h2]; rfl]
def Cs {a:Jx}{bs:Jn JI}(h:SizeOk a bs):∃us:Jn Wd,jP ((dH a bs).map bC)=ba (us.map bC)/\us.Nodup/\us.length < 64/\(∀u∈us,u∈aO a bs)/\dH a bs≠[]:=by
 have p:=Cr h;unfold b6 at p;split at p
 ·rename_i ks hk;simp only[Jv,JU]at p;have hm0:=yc hk;obtain⟨us,rfl,hm⟩:=C3 (L:=aO a bs) λk hk=>by
   obtain⟨f,hf,rfl⟩:=JF.mp (hm0 k hk);obtain⟨u,hu,rfl⟩:=JF.mp hf;obtain⟨g1,g2⟩:=qZ hu;exact JF.mpr #[_,uK g1 g2,rfl]
  have nd:=jW p.1;show#[us,hk,nd,NA (gl us _ nd hm) (kq h),hm,λz=>?_]
  rw[z]at hk;have e:ba (us.map bC)=ba []:=hk.symm;rw[KQ e]at p;exact absurd p.2 #v[]
 ·cases p
def q8 {us:Jn Wd}(h:us.Nodup):Nice (us.map bC):=by
 show#[λx hx=>?_,gJ us,?_]
 ·obtain⟨u,_,rfl⟩:=JF.mp hx;exact oT u
 ·rw[Lw,Ld];exact h.imp λhne e=>hne (fM e)
def jH {us:Jn Wd}:(cr us).map bC=dI (us.map bC):=by
 unfold cr dI;rw[i9 (d:=[])]
def wx {us vs:Jn Wd}(h:us.Nodup)(hs:vs.Sublist (cr us)):cr vs=vs:=by
 apply qX;rw[jH];show yb (q8 h) ?_;rw[<- jH];exact hs.map _
abbrev du:Ss:=
 #v[.ret (.bi .sorted #v[.bi .set #v[.comp (.own "_law_figure" 2 #v[.v 2,.v 1]) (.nm 1) (.seq (.own "_law_worlds" 2 #v[.v 0,.c (.int 3)])) .nil [gV,gV,ba 0]]])]
abbrev cK:Ss:=
 #v[.set 1 (.own "_law_pick" 2 #v[.v 0,.c (.int 4)]),.ite (.cmp .eq (.v 1) (.c (.int 0))) #v[.ret (.own "_law_laying_rule" 1 #v[.v 0])] .nil,.ite (.cmp .lt (.v 1) (.c (.int 3))) #v[.ret (.own "_law_any_rule" 1 #v[.v 0])] .nil,.asg [2,3] (.own "_law_sizes" 1 #v[.v 0]),.set 4 (.own "_law_rule_of" 4 #v[.v 0,.v 2,.own "_law_backs" 2 #v[.v 0,.v 3],.tup .nil]),.ret (.tup #v[.ix (.v 4) (.c (.int 0)),.ix (.v 4) (.c (.int 1)),.bi .tuple #v[.comp (.v 1) (.nm 1) (.seq (.own "_law_figures" 1 #v[.v 4])) #v[.cmp .eq (.own "_law_pick" 2 #v[.v 2,.c (.int 3)]) (.c (.int 0))] [gV,gV,ba 0]]])]
section
variable{defs:Jn (JS×Df)}{fuel d:Jx}{S:aa}{r:Jx}{Q:QW}
def EG {l:Jx}{us ks:Jn Wd}(h:S[l]?=ba (.lst (us.map az)))(hne:us≠[])(hk:jP (us.map bC)=ba (ks.map bC))(q:Q (.ref S.length,S++[.stt (ks.map bC)])):wO (Bi.set.fn [.ref l] S) Q:=by
 show ab ?_ q;have e2:kX [.ref l] S=ba (.ref S.length,S++[.stt (ks.map bC)]):=by
  simp only[kX,aq h,zo];rw[JX,hk]
  ·rfl
  ·rw[JQ];intro x hx;obtain⟨u,_,rfl⟩:=JF.mp hx;have:=lA u;have kl:aA=6:=rfl;simp only[yd,oT,Nr,Jv,JU];exact#[rfl,∅]
 exact e2
def Ct {l:Jx}{us:Jn Wd}(h:S[l]?=ba (.stt (us.map bC)))(h64:us.length < 64)(hnd:us.Nodup)(hne:∀u∈us,u≠[])(q:Q (.ref S.length,S++[.lst ((cr us).map az)])):wO (Bi.sorted.fn [.ref l] S) Q:=by
 show ab ?_ q;have hr:DT S l=ba (us.map bC):=by simp[DT,h]
 have N:=q8 hnd;have ok:kY (us.map bC)=true:=by
  simp only[kY,fG,Jv,JU,Lk,Jp];show#[#[#[JQ.mpr N.num,N.lt],N.nd],#[#[h64,by have:=gI us; unfold bP; omega],.inr #[zr us hne,N.lt]]]
 have e1:bK [.ref l] S=ba (.ref S.length,S++[.lst ((cr us).map az)]):=by
  simp only[bK,hr];rw[JX ok,<- jH,sF]
 change BW bK dO [.ref l] S=_;unfold BW;simp only[e1]
structure Full (defs:Jn (JS×Df)):Prop where
 digits:Is defs ("_law_digits" : JS) 2 4 bH
 worlds:Is defs ("_law_worlds" : JS) 2 6 cm
 figures:Is defs ("_law_figures" : JS) 1 1 du
 full:Is defs ("_law_full_rule" : JS) 1 5 cK
def wy (G:Gen defs)(F:Full defs){ms ns:Jn JS}{a:Jx}{bs:Jn JI}{b0:W}(hs:SizeOk a bs)(hml:ms.length=a)(hnl:ns.length=bs.length)
  (k:∀(us:Jn Wd) (q:Jx) (S':aa),us.Nodup->us.length < 64->(∀u∈us,u∈aO a bs)->S'[q]?=ba (.lst ((cr us).map az))->S.length<=q->Ka S S'->Q (.ref q,S')) :
  wO (aP (am defs fuel (d+4)) "_law_figures" 1 [.tup [.tup (ms.map W.str),.tup (JV aQ ns bs),b0]] S) Q:=by
 show ay F.figures rfl rfl λQ' hR=>?_
 replace k:∀(us:Jn Wd) (q:Jx) (S':aa),us.Nodup->us.length < 64->(∀u∈us,u∈aO a bs)->S'[q]?=ba (.lst ((cr us).map az))->S.length<=q->Ka S S'->Q' (.rt (.ref q),S'):=λa b c e f g h i j=>hR _ _ (k a b c e f g h i j)
 clear hR;obtain⟨us,hk,hnd,h64,hmem,hne⟩:=Cs hs;have hb3:=hs.n3;have hpos:=hs.pos;have h3:=hs.a3;have hmost:=hs.most;change wZ _ _ du [ba (.tup [.tup (ms.map W.str),.tup (JV aQ ns bs),b0])] S Q';generalize hB:W.tup [.tup (ms.map W.str),.tup (JV aQ ns bs),b0]=R;dsimp only[du];show st ?_;left;show lE rfl rfl rfl ?_;dsimp only[wE,wA,wV,wG];subst hB;show zW (d:=d+1) F.digits F.worlds (a:=a) (n:=bs.length) (by rw[Jp,hml]) (by rw[LR,hnl]; omega) hpos h3 hb3.1 hb3.2 hmost λl S1 e1 hl k1=>?_
 generalize hB:W.tup [.tup (ms.map W.str),.tup (JV aQ ns bs),b0]=R;show#[l,(cz a bs.length 3).map az,λj ys Z2 S2=>(∃a1,Z2=[gV,a1,ba R])/\ys=((dH a bs).take j).map az/\S2[l]?=ba (.lst ((cz a bs.length 3).map az))/\Ka S S2,rfl,#[#[gV,rfl],rfl,e1,k1],λj ys Z2 S2 h=>h.2.2.1,?_,?_]
 ·rintro j w ys Z2 S2 hw ⟨⟨a1,rfl⟩,rfl,e2,k2⟩;rw[JB,Js]at hw;obtain⟨u,hu,rfl⟩:=hw;obtain⟨gu,hu3⟩:=qZ (JJ hu);show ab (show fZ (.nm 1) (az u) [gV,a1,ba R] S2=ba ([gV,ba (az u),ba R],S2)from rfl) ?_
  dsimp only[fP,wC,wE,wA,wV,wG];subst hB;show#[λ_=>i8 (d:=d) G hs.good hnl gu hu3 λS3 k3=>#[#[_,rfl],?_,k3.get _ _ e2,k2.trans k3],λz=>by cases z]
  have:(dH a bs)[j]?=ba (jC bs u):=by unfold dH; rw[JB,hu]; rfl
  rw[Kj,this];simp
 ·rintro ys Z2 S2 ⟨_,rfl,e2,k2⟩;have hfl:(dH a bs).length=((cz a bs.length 3).map az).length:=by unfold dH; rw[Jp,Jp]
  rw[<- hfl,Kx];have hl216:(dH a bs).length<=216:=by
   unfold dH;rw[Jp,eB];exact(qU (k:=2) hpos h3 hb3.1 hb3.2 hmost #v[]).2.2
  show#[ma (by rw[Jp]; omega),EG ag hne hk (Ct ag h64 hnd (λu hu=>qL (hmem u hu)) ?_)]
  have kk:=((k2.trans (Ka.push (o:=O.lst ((dH a bs).map az)))).trans (Ka.push (o:=O.stt (us.map bC)))).trans (Ka.push (o:=O.lst ((cr us).map az)));exact k us _ _ hnd h64 hmem ag (((k2.trans (Ka.push (o:=O.lst ((dH a bs).map az)))).trans (Ka.push (o:=O.stt (us.map bC)))).len) kk
def EH (hfu:20 < fuel)(G:Gen defs)(F:Full defs)(hf:Fl S r)(k:∀w S',eA w->Fl S' r->Kp r S S'->Q (w,S')):wO (aP (am defs fuel (d+8)) "_law_full_rule" 1 [.ref r] S) Q:=by
 show ay F.full rfl rfl λQ' hR=>?_
 replace k:∀w S',eA w->Fl S' r->Kp r S S'->Q' (.rt w,S'):=λz S' a b c=>hR _ _ (k z S' a b c)
 clear hR;change wZ _ _ cK [ba (.ref r),gV,gV,gV,gV] S Q';dsimp only[cK];nofun
 left;show aM (d:=d+6) G.pick hf #v[] #v[] λv S1 v0 v7 f1 k1=>hK _ _ ?_
 clear hK K;nofun
 dsimp only[wS,wT,wE,wV,wG,iB,aF,wB];show au (Q0:=Q') (λ_ Q2 _ hr=>?_) (λ_ Q2 hn _=>bA (hn _ _ (hK _ _ ?_)))
 ·show st ?_;left;exact zP (d:=d) hfu G f1 λw S2 hw f2 k2=>hr _ _ (k w S2 hw f2 (k1.trans k2))
 clear hK K hn;nofun
 dsimp only[wS,wT,wE,wV,wG,v4,aF,wB];show au (Q0:=Q') (λ_ Q2 _ hr=>?_) (λ_ Q2 hn _=>bA (hn _ _ (hK _ _ ?_)))
 ·show st ?_;left;exact sI (d:=d+1) hfu G f1 λw S2 hw f2 k2=>hr _ _ (k w S2 hw f2 (k1.trans k2))
 clear hK K hn;nofun
 left;show oK (d:=d+5) G f1 λa n S2 a1 a3 n1 n3 an f2 k2=>?_
 dsimp only[wU];show ab (show d7 [2,3] [.int a,.int n] [ba (.ref r),ba (.int v),gV,gV,gV]=ba [ba (.ref r),ba (.int v),ba (.int a),ba (.int n),gV]from rfl) (hK _ _ ?_)
 clear hK K;nofun
 left;show oM (d:=d+5) G f2 n1 n3 λbs S3 hb hbl f3 k3=>?_
 have hsz:SizeOk a bs:=#[∅,hb,by rw[hbl]; exact an,a3]
 show fL (d:=d+2) hfu G f3 a3 ∅ λms ns S4 hml hnl hnm f4 k4=>hK _ _ ?_
 clear hK K;have k14:Kp r S S4:=k1.trans (k2.trans (k3.trans k4));clear k1 k2 k3 k4;show st ?_;left;show ak #v[] rfl (ak #v[] rfl ?_)
 show lE rfl rfl rfl ?_;dsimp only[wE,wA,wV,wG];show wy (d:=d+3) G F hsz hml hnl λus q S5 hnd h64 hmem e5 hq k5=>?_
 have f5:=f4.ka k5;have hrq:r < q:=J4 f4.lt hq;show#[q,(cr us).map az,λj ys Z2 S6=>(∃a1,Z2=[gV,a1,ba (.ref r)])/\(∃vs:Jn Wd,ys=vs.map az/\vs.Sublist ((cr us).take j))/\S6[q]?=ba (.lst ((cr us).map az))/\Fl S6 r/\Kp r S S6,rfl,#[#[gV,rfl],#[[],rfl,by simp],e5,f5,k14.trans (k5.kp r)],λj ys Z2 S6 h=>h.2.2.1,?_,?_]
 ·rintro j w ys Z2 S6 hw ⟨⟨a1,rfl⟩,⟨vs,rfl,hsub⟩,e6,f6,k6⟩;rw[JB,Js]at hw;obtain⟨u,hu,rfl⟩:=hw;show ab (show fZ (.nm 1) (az u) [gV,a1,ba (.ref r)] S6=ba ([gV,ba (az u),ba (.ref r)],S6)from rfl) ?_
  dsimp only[fP,wC,wE,wA,wV,wG];show aM (d:=d+6) G.pick f6 #v[] #v[] λv S7 _ _ f7 k7=>?_
  dsimp only[iB,aF,wB];have e7:=k7.get _ _ ∅ e6
  show#[λ_=>#[#[_,rfl],#[vs++[u],by rw[J0]; rfl,?_],e7,f7,k6.trans k7],λ_=>#[#[_,rfl],#[vs,rfl,?_],e7,f7,k6.trans k7]]
  ·rw[Kj,hu];exact hsub.append (TD _)
  ·rw[Kj];exact hsub.trans (List.sublist_append_left _ _)
 ·rintro ys Z2 S6 ⟨_,⟨vs,rfl,hsub⟩,e6,f6,k6⟩;rw[Jp,Kx]at hsub;have pu:(cr us).Perm us:=dw;have hvl:vs.length<=us.length:=by rw[<- pu.length_eq]; exact hsub.length_le
  have hvs:=wx hnd hsub;show#[ma (by rw[Jp]; omega),dB ag (k _ _ #[a,bs,ms,ns,vs,by rw[hvs]; rfl,hsz,hml,hnl,hnm,hsub.nodup (pu.nodup_iff.mpr hnd),λg hg=>hmem g (pu.mem_iff.mp (hsub.subset hg))] (f6.ka .push) (k6.trans .push))]
end
section
variable{M:JS->FF}{Z:Fm}{S:aa}
def sN {α:Type}{elt:E}{tg:Tg}{it:Ie}{cs:Es}{cap:Jn (Jw Jx)}{mi:MI}{S1:aa}{Q:QW}(L:Jn α)(f:α->W)(p:α->J3)(g:α->W)(td:Fm->Prop)(fr:α->Fm)(hJ:∀x Z S,td Z->fZ tg (f x) Z S=ba (fr x,S)/\td (fr x))(oe:dA elt=true)(oc:lW cs=true)(hc:td (eg cap Z))(hl:L.length<=1000000)(hi:iZ M it Z S=ba (mi,S1))(k1:Ka S S1)(hat:∀i S',Ka S1 S'->mi.at S' i=ba (L.map f)[i]?)(hn:mi.len S1=ba (L.map f).length)
  (hstep:∀x∈L,∀S',Ka S S'->fP M elt cs (fr x) S' (λy _ S2=>p x=true/\y=g x/\Ka S' S2) (λ_ S2=>p x=false/\Ka S' S2))
  (k:∀S',Ka S S'->Q (.ref S'.length,S'++[.lst ((L.filter p).map g)])):Wp (aB M (.comp elt tg it cs cap) Z S) Q:=by
 rw[yZ];show#[_,hi,_,hn,?_];show(dP (xs:=L.map f) (Q:=λq=>q.1.length<=sizeLine/\Q (.ref q.2.length,q.2++[.lst q.1])) (λi ys Z' S'=>td Z'/\ys=((L.take i).filter p).map g/\Ka S1 S') (λi ys Z' S' h=>hat i S' h.2.2) (λi w ys Z' S' hw h=>?_) (λys Z' S' h=>?_) (L.map f).length 0 [] _ S1 ∅ #[hc,rfl,.refl]).mono λq hq=>by simpa using hq
 ·obtain⟨hj,rfl,k2⟩:=h;rw[JB,Js]at hw;obtain⟨x,hx,rfl⟩:=hw;obtain⟨h1,h2⟩:=hJ x Z' S' hj;show#[_,h1,?_];show(CY oc (hstep x (JJ hx) S' (k1.trans k2))).mono λc hc=>#[λz=>(bn elt oe (hc.1 z)).mono λy hy=>#[h2,?_,k2.trans hy.2.2],λz=>#[h2,?_,k2.trans (hc.2 z).2]]
  ·rw[Kj,hx,MS,show(So (ba x)).filter p=[x]from O2 hy.1,J0,hy.2.1]; rfl
  ·rw[Kj,hx,MS,show(So (ba x)).filter p=[]from O3 (by rw[(hc.2 z).1]; exact J1),Li]
 ·obtain⟨_,rfl,k2⟩:=h;dsimp only;rw[show(L.map f).length=L.length from Jp ..,Kx]
  show#[ma ?_,k S' (k1.trans k2)];rw[Jp];exact J6 (Ml _ _) hl
def sO {α:Type}{elt:E}{it:Ie}{cs:Es}{cap:Jn (Jw Jx)}{mi:MI}{S1:aa}{Q:QW}(L:Jn α)(f:α->W)(p:α->J3)(g:α->W)(R:Fm)(oe:dA elt=true)(oc:lW cs=true)(hc:eg cap Z=gV::gV::R)(hl:L.length<=1000000)(hi:iZ M it Z S=ba (mi,S1))(k1:Ka S S1)(hat:∀i S',Ka S1 S'->mi.at S' i=ba (L.map f)[i]?)(hn:mi.len S1=ba (L.map f).length)
  (hstep:∀x∈L,∀S',Ka S S'->fP M elt cs (gV::ba (f x)::R) S' (λy _ S2=>p x=true/\y=g x/\Ka S' S2) (λ_ S2=>p x=false/\Ka S' S2))
  (k:∀S',Ka S S'->Q (.ref S'.length,S'++[.lst ((L.filter p).map g)])):Wp (aB M (.comp elt (.nm 1) it cs cap) Z S) Q:=
 sN L f p g (λZ=>∃a,Z=gV::a::R) (λx=>gV::ba (f x)::R) (λ_ _ _ h=>let ⟨_,e⟩:=h; e ▸ #[rfl,_,rfl]) oe oc #[_,hc] hl hi k1 hat hn hstep k
def zZ {α:Type}{elt e:E}{cs:Es}{cap:Jn (Jw Jx)}{Q:QW}(L:Jn α)(f:α->W)(p:α->J3)(g:α->W)(R:Fm)(oi:dA e=true)(oe:dA elt=true)(oc:lW cs=true)(hc:eg cap Z=gV::gV::R)(hl:L.length<=1000000)
  (he:wE M e Z S λq=>∃t,q.1=.ref t/\q.2[t]?=ba (.lst (L.map f))/\Ka S q.2)
  (hstep:∀x∈L,∀S',Ka S S'->fP M elt cs (gV::ba (f x)::R) S' (λy _ S2=>p x=true/\y=g x/\Ka S' S2) (λ_ S2=>p x=false/\Ka S' S2))
  (k:∀S',Ka S S'->Q (.ref S'.length,S'++[.lst ((L.filter p).map g)])):Wp (aB M (.comp elt (.nm 1) (.seq e) cs cap) Z S) Q:=by
 obtain⟨w,S1,e1,t,rfl,ht,k1⟩:=br oi he;exact sO (mi:=.live t) L f p g R oe oc hc hl (by simp only[iZ,ee,e1,aq ht]) k1 (λi S' h=>by simp only[MI.at,aq (h.get _ _ ht)]) (by simp only[MI.len,aq ht,Kg]) hstep k
def EI {α:Type}{elt e:E}{cs:Es}{cap:Jn (Jw Jx)}{Q:QW}(L:Jn α)(f:α->W)(p:α->J3)(g:α->W)(R:Fm)(oi:dA e=true)(oe:dA elt=true)(oc:lW cs=true)(hc:eg cap Z=gV::gV::R)(hl:L.length<=1000000)
  (he:wE M e Z S λq=>q.1=.tup (L.map f)/\Ka S q.2)
  (hstep:∀x∈L,∀S',Ka S S'->fP M elt cs (gV::ba (f x)::R) S' (λy _ S2=>p x=true/\y=g x/\Ka S' S2) (λ_ S2=>p x=false/\Ka S' S2))
  (k:∀S',Ka S S'->Q (.ref S'.length,S'++[.lst ((L.filter p).map g)])):Wp (aB M (.comp elt (.nm 1) (.seq e) cs cap) Z S) Q:=by
 obtain⟨w,S1,e1,rfl,k1⟩:=br oi he;exact sO (mi:=.its (L.map f)) L f p g R oe oc hc hl (by simp only[iZ,ee,e1]) k1 (λ_ _ _=>rfl) rfl hstep k
def q9 (n:Jx):c8 0 n=(JW n).map λi=>W.int (i:Jx):=by
 unfold c8;show KG λi _=>?_
 rw[NN]
def EJ {elt e:E}{cs:Es}{cap:Jn (Jw Jx)}{Q:QW}(n:Jx)(p:Jx->J3)(g:Jx->W)(R:Fm)(oi:dA e=true)(oe:dA elt=true)(oc:lW cs=true)(hc:eg cap Z=gV::gV::R)(hl:n<=1000000)
  (he:wE M e Z S λq=>q.1=.int n/\Ka S q.2)
  (hstep:∀x < n,∀S',Ka S S'->fP M elt cs (gV::ba (.int (x:Jx))::R) S' (λy _ S2=>p x=true/\y=g x/\Ka S' S2) (λ_ S2=>p x=false/\Ka S' S2))
  (k:∀S',Ka S S'->Q (.ref S'.length,S'++[.lst (((JW n).filter p).map g)])):Wp (aB M (.comp elt (.nm 1) (.rng #v[e]) cs cap) Z S) Q:=by
 obtain⟨w,S1,e1,rfl,k1⟩:=br oi he;show sO (mi:=.its (c8 0 n)) (JW n) (λi=>W.int (i:Jx)) p g R oe oc hc (by rw[J9]; exact hl) ?_ k1 (λi S' _=>by rw[<- q9]; rfl) (by rw[<- q9]; rfl) (λx hx=>hstep x (JT.mp hx)) k
 simp only[iZ,c7,dJ,iY,sv,e1];rw[JX #[∅,∅]]; rfl
def jf {α:Type}(L:Jn α):L.filter (λ_=>true)=L:=List.filter_eq_self.mpr λ_ _=>rfl
end
def EK {bs:Jn JI}{a:Jx}{v:Wd}{i j:Jx}(hb:GoodB bs)(hv:GoodW a bs.length v)(hi:i < v.length)(hj:j < v.length)(hij:i≠j):0<=bO bs v i j/\bO bs v i j < (bs.length:JI):=by
 unfold bO
 by_cases h:j < i
 ·rw[JX h];have hp:=ap (d:=(0,[])) hi;have hw:j < (v.getD i (0,[])).2.length:=by rw[hv.len i _ hp]; exact h
  exact hv.way i _ hp _ (JJ (ap (d:=0) hw))
 ·rw[J8 h];have hp:=ap (d:=(0,[])) hj;have hw:i < (v.getD j (0,[])).2.length:=by rw[hv.len j _ hp]; omega
  obtain⟨g1,g2⟩:=hv.way j _ hp _ (JJ (ap (d:=0) hw));exact(hb.at g1 g2).2
def cp {bs:Jn JI}{a:Jx}{v:Wd}{ps:Jn Jx}(hb:GoodB bs)(hv:GoodW a bs.length v)(hps:∀p∈ps,p < v.length)(hnd:ps.Nodup):GoodW a bs.length (ah bs v ps):=by
 have at':∀(k:Jx) (q:Pt),(ah bs v ps)[k]?=ba q->∃hk:k < ps.length,q=((v.getD ps[k] (0,[])).1,(ps.take k).map λj=>bO bs v ps[k] j):=λk q e=>by
  have hk:k < ps.length:=by
   have:=(JD.mp e).1;rw[aD]at this; exact this
  show#[hk,?_];unfold ah at e;rw[JB,LQ hk,Kg,show ps.getD k 0=ps[k] by simp[hk]]at e
  exact(KQ e).symm
 show#[λk q e=>?_,λk q e=>?_,λk q e=>?_]
 ·obtain⟨hk,rfl⟩:=at' k q e;have:=hv.mark _ _ (ap (d:=(0,[])) (hps _ (Kd hk)));exact this
 ·obtain⟨hk,rfl⟩:=at' k q e;dsimp only;rw[Jp,Kn]; omega
 ·obtain⟨hk,rfl⟩:=at' k q e;intro w hw;obtain⟨j,hj,rfl⟩:=JF.mp hw;have hjm:=LZ hj;show EK hb hv (hps _ (Kd hk)) (hps _ hjm) λe=>?_
  obtain⟨m,hm,e2⟩:=LL.mp hj;rw[Kn]at hm;rw[NP]at e2;have:=(LJ hnd).mp (e.trans e2.symm);omega
section
variable{defs:Jn (JS×Df)}{fuel d:Jx}{S:aa}{Q:QW}
def EM (hd:Is defs ("_law_flow" : JS) 1 1 en){ns:Jn JI}{u:Jx}(hu:S[u]?=ba (.fro (ns.map W.int)))(k:∀r S',Ka S S'->Fl S' r->Q (.ref r,S')) :
  wO (aP (am defs fuel (d+1)) "_law_flow" 1 [.ref u] S) Q:=by
 show ay hd rfl rfl λQ' hR=>?_
 change wZ _ _ en [ba (.ref u)] S Q';dsimp only[en];show st ?_;left;have e:Bi.list.fn [.ref u] S=ba (.ref S.length,S++[.lst (ns.map W.int)]):=by
  have h1:xN S u=gV:=by simp[xN,hu]
  simp only[Bi.fn,BW,jM,h1,iL,eH,B3 hu]
 show ab e (hR _ _ (k _ _ (Ka.push.trans .push) #[S.length,ns,0,0,1,0,?_,?_,?_,#v[],#v[],#v[],#v[]]))
 ·exact ag
 ·exact al ag
 ·simp
end
def jX {bt:Jx->Jx->J3}{N:Jx}(ir:∀i < N,bt i i=false)(tr:∀i j k,i < N->j < N->k < N->bt i j=true->bt j k=true->bt i k=true):∀n,n < N->∀j≤n,bt j (argBest bt n)=false
 | 0,hn,j,hj=>by
  obtain rfl:j=0:=∅
  exact ir 0 hn
 | n+1,hn,j,hj=>by
  have ih:=jX ir tr n ∅
  have hb:=de bt n;simp only[argBest];cases c:bt (n+1) (argBest bt n)with
  | true=>
   rw[JX rfl]
   by_cases e:j=n+1
   ·subst e; exact ir _ hn
   ·cases c2:bt j (n+1)with
    | false=>rfl
    | true=>
     have:=tr j (n+1) (argBest bt n) ∅ hn ∅ c2 c
     rw[ih j ∅]at this; cases this
  | false=>
   rw[J8 (by exact J1)]
   by_cases e:j=n+1
   ·subst e; exact c
   ·exact ih j ∅
def z5 {ks:Jn T}(hn:∀x∈ks,d6 x=true)(hl:eM ks=true)(hne:ks≠[]):∃x,ks[ip ks]?=ba x/\x∈ks/\∀y∈ks,gT y x=ba false:=by
 have hp:0 < ks.length:=P5.mpr hne;have hm:ip ks < ks.length:=by
  unfold ip;have:=de (kS ks) (ks.length - 1);omega
 have ltk:∀i j (hi:i < ks.length) (hj:j < ks.length),gT ks[i] ks[j]=ba (kS ks i j):=λi j hi hj=>dE hl hi hj
 have ir:∀i < ks.length,kS ks i i=false:=λi hi=>by
  cases c:kS ks i i with
  | false=>rfl
  | true=>
   have e:=ltk i i hi hi;rw[c]at e;have:=jo _ _ (hn _ (Kd hi)) e;rw[e]at this; cases this
 have mn:=jX (bt:=kS ks) (N:=ks.length) ir (λi j k hi hj hk h1 h2=>by
  have e1:=ltk i j hi hj;have e2:=ltk j k hj hk;rw[h1]at e1;rw[h2]at e2;have:=sf _ _ _ (hn _ (Kd hi)) (hn _ (Kd hj)) e1 e2;rw[ltk i k hi hk]at this;exact KQ this) (ks.length - 1) ∅
 show#[ks[ip ks],Jy hm,Kd hm,λy hy=>?_]
 obtain⟨j,hj,rfl⟩:=LL.mp hy;rw[ltk j _ hj hm];congr 1;exact mn j ∅
def Cu {x y:T}(hx:d6 x=true)(h1:gT x y=ba false)(h2:gT y x=ba false):x=y:=by
 by_cases e:x=y
 ·exact e
 ·rw[og x y hx e h2]at h1; cases h1
def lG:∀ {xs ys as bs:Jn T},xs.length=ys.length->bY xs ys=ba true->bY (xs++as) (ys++bs)=ba true
 | [],[],_,_,_,h=>by cases h
 | x::xs,y::ys,as,bs,hl,h=>by
  simp only[Ri,bY]at h ⊢
  by_cases e:x=y
  ·rw[JX e]at h ⊢;exact lG (by simpa using hl) h
  ·rw[J8 e]at h ⊢;exact h
 | [],_::_,_,_,hl,_=>by simp at hl
 | _::_,[],_,_,hl,_=>by simp at hl
def lH {as bs:Jn T}:∀xs:Jn T,bY (xs++as) (xs++bs)=bY as bs
 | []=>rfl
 | x::xs=>by
  simp only[Ri,bY,Lp];exact lH xs
def EN {x y:T}(hx:d6 x=true)(h:bY [x] [y]=ba true):gT x y=ba true:=by
 simp only[bY]at h;split at h
 ·cases h
 ·exact h
structure Ord (n:Jx)(o:Jn Jx):Prop where
 nd:o.Nodup
 lt:∀p∈o,p < n
abbrev z6:Jx->Jn (Jn Jx)
 | 0=>[[]]
 | k+1=>(z6 k).flatMap λo=>(JW (k+1)).map λi=>o.take i++[k]++o.drop i
def oV:∀ {n:Jx} {o:Jn Jx},o∈z6 n↔Ord n o/\o.length=n
 | 0,o=>by
  rw[z6,JK];exact#[λh=>by subst h; exact#[#[.nil,λp hp=>nomatch hp],rfl],λh=>L3 h.2]
 | n+1,o=>by
  rw[z6,K4];constructor
  ·rintro⟨o',h1,h2⟩;obtain⟨i,hi,rfl⟩:=JF.mp h2;obtain⟨⟨nd,lt⟩,hl⟩:=oV.mp h1;have hi:=JT.mp hi;have hp:(o'.take i++[n]++o'.drop i).Perm (n::o'):=by
    have e:o'.take i++[n]++o'.drop i=o'.take i++n::o'.drop i:=by simp
    rw[e];show Rj.trans ?_;rw[NT]
   show#[#[hp.nodup_iff.mpr (K1.mpr #[λz=>absurd (lt _ z) (KT _),nd]),λp hpm=>?_],by rw[hp.length_eq,Kr,hl]]
   rcases JR.mp (hp.mem_iff.mp hpm)with z|z
   ·omega
   ·have:=lt p z; omega
  ·rintro⟨⟨nd,lt⟩,hl⟩;have hm:n∈o:=by
    by_cases z:n∈o
    ·exact z
    ·have h1:=gl o (JW n) nd λp hp=>JT.mpr (by
      have:=lt p hp;have:p≠n:=λe=>z (e ▸ hp)
      omega)
     rw[J9]at h1;omega
   obtain⟨a,b,rfl⟩:=List.append_of_mem hm;have hp:(a++n::b).Perm (n::(a++b)):=Rj;have nd2:=hp.nodup_iff.mp nd;obtain⟨nn,nd3⟩:=K1.mp nd2;show#[a++b,oV.mpr #[#[nd3,λp hpm=>?_],?_],JF.mpr #[a.length,JT.mpr ?_,?_]]
   ·have h1:=lt p (hp.mem_iff.mpr (KA _ hpm));have:p≠n:=λe=>nn (e ▸ hpm)
    omega
   ·have:=hp.length_eq;rw[hl,Kr]at this;omega
   ·rw[JC,Kr]at hl;omega
   ·rw[List.take_left',RC] <;> simp
abbrev aS (bs:Jn JI)(u:Wd)(o:Jn Jx):Pt:=ft bs u o.dropLast (o.getLastD 0)
abbrev cC (ps:Jn Pt):Pt:=ps.getD (ip (ps.map eD)) (0,[])
abbrev eQ (bs:Jn JI)(u:Wd):Jx->Jn (Jn Jx)
 | 0=>[[]]
 | k+1=>(aE u.length (eQ bs u k)).filter λo=>decide (aS bs u o=cC ((aE u.length (eQ bs u k)).map (aS bs u)))
abbrev oW (bs:Jn JI)(u:Wd):Jx->Wd
 | 0=>[]
 | k+1=>oW bs u k++[cC ((aE u.length (eQ bs u k)).map (aS bs u))]
def lI (p:Pt):d6 (eD p)=true:=by
 have:=kw [p]
 simpa [cW]using this
def gK (ps:Jn Pt):eM (ps.map eD)=true:=by
 unfold eM;rw[JQ];intro x hx;rw[JQ];intro y hy;obtain⟨p,_,rfl⟩:=JF.mp hx;obtain⟨q,_,rfl⟩:=JF.mp hy;exact sG _ _ (zq p q)
def nq {ps:Jn Pt}(h:ps≠[]):ps[ip (ps.map eD)]?=ba (cC ps)/\cC ps∈ps/\∀y∈ps,gT (eD y) (eD (cC ps))=ba false:=by
 obtain⟨x,h1,h2,h3⟩:=z5 (ks:=ps.map eD) (λx hx=>by obtain⟨p,_,rfl⟩:=JF.mp hx; exact lI p) (gK ps) (by simpa using h)
 rw[JB,Js]at h1;obtain⟨p,hp,rfl⟩:=h1;have e:cC ps=p:=by unfold cC; rw[JY,hp]; rfl
 rw[e];exact#[hp,JJ hp,λy hy=>h3 _ (JF.mpr #[y,hy,rfl])]
def fu {n:Jx}{os:Jn (Jn Jx)}{o':Jn Jx}:o'∈aE n os↔∃o∈os,∃p,p < n/\p∉o/\o'=o++[p]:=by
 unfold aE;rw[K4];constructor
 ·rintro⟨o,ho,h⟩;obtain⟨p,hp,rfl⟩:=JF.mp h;obtain⟨h1,h2⟩:=LD.mp hp;exact#[o,ho,p,JT.mp h1,Kt h2,rfl]
 ·rintro⟨o,ho,p,h1,h2,rfl⟩;exact#[o,ho,JF.mpr #[p,LD.mpr #[JT.mpr h1,K6 h2],rfl]]
def gL {bs:Jn JI}{u:Wd}{o:Jn Jx}{p:Jx}:aS bs u (o++[p])=ft bs u o p:=by
 unfold aS;rw[PU,PV]
def gx {n:Jx}{o:Jn Jx}{p:Jx}:Ord n (o++[p])↔Ord n o/\p < n/\p∉o:=by
 constructor
 ·rintro⟨nd,lt⟩;rw[M2]at nd;exact#[#[nd.1,λq hq=>lt q (KU _ hq)],lt p (by simp),λz=>nd.2.2 p z p (by simp) rfl]
 ·rintro⟨⟨nd,lt⟩,h1,h2⟩;show#[M2.mpr #[nd,by simp,λa ha b hb e=>?_],λq hq=>?_]
  ·rw[JK.mp hb]at e;exact h2 (e ▸ ha)
  ·rcases Kc.mp hq with z|z
   ·exact lt q z
   ·rw[JK.mp z]; exact h1
def rc {n:Jx}{o:Jn Jx}(h:Ord n o)(hl:o.length < n):∃p,p < n/\p∉o:=by
 by_cases z:∃p,p < n/\p∉o
 ·exact z
 ·have h1:=gl (JW n) o NZ λp hp=>by
   by_cases z2:p∈o
   ·exact z2
   ·exact absurd #[p,JT.mp hp,z2] z
  rw[J9]at h1;omega
def GZ (u v:Wd):(gT (bC u) (bC v)).isSome=true:=by
 have:=gJ [u,v];unfold eM at this;rw[JQ]at this;have:=this (bC u) (by simp)
 rw[JQ]at this;exact this (bC v) (by simp)
def EO {u v:Wd}(h:gT (bC u) (bC v)≠ba true):gT (bC u) (bC v)=ba false:=by
 obtain⟨b,hb⟩:=KF.mp (GZ u v);cases b with
 | false=>exact hb
 | true=>exact absurd hb h
structure GrOk (bs:Jn JI)(u:Wd)(k:Jx):Prop where
 mem:∀o,o∈eQ bs u k↔Ord u.length o/\o.length=k/\ah bs u o=oW bs u k
 least:∀o,Ord u.length o->o.length=k->gT (bC (ah bs u o)) (bC (oW bs u k))=ba false
 ne:eQ bs u k≠[]
 len:(oW bs u k).length=k
def oX {k:Jx}{o:Jn Jx}(h:o.length=k+1):∃o' p,o=o'++[p]/\o'.length=k:=by
 have hne:o≠[]:=λz=>by rw[z]at h; cases h
 exact#[o.dropLast,o.getLast hne,(MV hne).symm,by rw[N4]; omega]
def re {bs:Jn JI}{u:Wd}:∀k,k<=u.length->GrOk bs u k
 | 0,_=>by
  show#[λo=>?_,λo _ hl=>?_,Rh _ _,rfl]
  ·rw[eQ,JK];exact#[λh=>by subst h; exact#[#[.nil,λp hp=>nomatch hp],rfl,rfl],λh=>L3 h.2.1]
  ·rw[L3 hl]; rfl
 | k+1,hk=>by
  have ih:=re (bs:=bs) (u:=u) k ∅
  have lne:aE u.length (eQ bs u k)≠[]:=by
   obtain⟨o,ho⟩:=Nk _ ih.ne;obtain⟨h1,h2,_⟩:=(ih.mem o).mp ho;obtain⟨p,hp,hpo⟩:=rc h1 ∅
   exact OF (fu.mpr #[o,ho,p,hp,hpo,rfl])
  obtain⟨_,b2,b3⟩:=nq (ps:=(aE u.length (eQ bs u k)).map (aS bs u)) (by simpa using lne)
  have ef:oW bs u (k+1)=oW bs u k++[cC ((aE u.length (eQ bs u k)).map (aS bs u))]:=rfl;have eo:eQ bs u (k+1)=(aE u.length (eQ bs u k)).filter λo=>decide (aS bs u o=cC ((aE u.length (eQ bs u k)).map (aS bs u))):=rfl
  generalize cC ((aE u.length (eQ bs u k)).map (aS bs u))=best at b2 b3 ef eo;show#[λo=>?_,λo hO hl=>?_,?_,by rw[ef,JC,ih.len]; rfl]
  ·rw[eo,LD,ef];constructor
   ·rintro⟨h1,h2⟩;obtain⟨o,ho,p,hp,hpo,rfl⟩:=fu.mp h1;obtain⟨g1,g2,g3⟩:=(ih.mem o).mp ho;have h2:=Kt h2;rw[gL]at h2;exact#[gx.mpr #[g1,hp,hpo],by rw[JC,g2]; rfl,by rw[dg,g3,h2]]
   ·rintro⟨h1,h2,h3⟩;obtain⟨o,p,rfl,hl⟩:=oX h2;obtain⟨g1,g2,g3⟩:=gx.mp h1;rw[dg]at h3;obtain⟨e1,e2⟩:=List.append_inj h3 (by rw[aD,ih.len,hl])
    show#[fu.mpr #[o,(ih.mem o).mpr #[g1,hl,e1],p,g2,g3,rfl],K6 ?_];rw[gL];exact List.singleton_inj.mp e2
  ·obtain⟨o,p,rfl,hl'⟩:=oX hl;clear hl;have hl:=hl';obtain⟨g1,g2,g3⟩:=gx.mp hO;show EO λz=>?_
   rw[dg,ef]at z;have z:bY ((ah bs u o++[ft bs u o p]).map eD) ((oW bs u k++[best]).map eD)=ba true:=z;rw[J0,J0]at z
   by_cases e:ah bs u o=oW bs u k
   ·rw[e,lH]at z;have:=EN (lI _) z;rw[b3 _ (JF.mpr #[o++[p],fu.mpr #[o,(ih.mem o).mpr #[g1,hl,e],p,g2,g3,rfl],gL])]at this;cases this
   ·have h1:=og (bC (oW bs u k)) (bC (ah bs u o)) (oT _) (λh=>e (fM h).symm) (ih.least o g1 hl)
    have h1:bY ((oW bs u k).map eD) ((ah bs u o).map eD)=ba true:=h1;have h2:=lG (as:=[best].map eD) (bs:=[ft bs u o p].map eD) (by rw[Jp,Jp,aD,ih.len,hl]) h1
    have h3:=n6 _ _ (by rw[<- J0]; exact kw _) h2
    rw[z]at h3; cases h3
  ·obtain⟨o,ho,e⟩:=JF.mp b2;rw[eo];exact OF (LD.mpr #[ho,K6 e])
abbrev lJ (bs:Jn JI)(u:Wd):Wd:=oW bs u u.length
def lK {bs:Jn JI}{u:Wd}:∃o,Ord u.length o/\o.length=u.length/\ah bs u o=lJ bs u:=by
 have h:=re (bs:=bs) (u:=u) u.length (JA _);obtain⟨o,ho⟩:=Nk _ h.ne;exact#[o,(h.mem o).mp ho]
def gM {bs:Jn JI}{u:Wd}{o:Jn Jx}{i:Jx}(hi:i < o.length):(ah bs u o).getD i (0,[])=((u.getD (o.getD i 0) (0,[])).1,(o.take i).map λj=>bO bs u (o.getD i 0) j):=by
 unfold ah;rw[JY,JB,LQ hi]; rfl
def rf {bs:Jn JI}{u:Wd}{o:Jn Jx}{i j:Jx}(hi:i < o.length)(hj:j < i):((ah bs u o).getD i (0,[])).2.getD j 0=bO bs u (o.getD i 0) (o.getD j 0):=by
 rw[gM hi];dsimp only;rw[JY,JB,No hj,ap (d:=0) (show j < o.length by omega)]; rfl
def z7 {bs:Jn JI}{a:Jx}{u:Wd}{o:Jn Jx}{i j:Jx}(hb:GoodB bs)(hu:GoodW a bs.length u)(hO:Ord u.length o)(hi:i < o.length)(hj:j < o.length)(hij:i≠j):bO bs (ah bs u o) i j=bO bs u (o.getD i 0) (o.getD j 0):=by
 have gi:=ap (d:=0) hi;have gj:=ap (d:=0) hj;have li:=hO.lt _ (JJ gi);have lj:=hO.lt _ (JJ gj);have ne:o.getD i 0≠o.getD j 0:=λe=>by
  have h1:o[i]=o.getD i 0:=by simp[hi]
  have h2:o[j]=o.getD j 0:=by simp[hj]
  exact hij ((LJ hO.nd).mp (by rw[h1,h2,e]))
 by_cases h:j < i
 ·have:bO bs (ah bs u o) i j=((ah bs u o).getD i (0,[])).2.getD j 0:=by unfold bO; rw[JX h]
  rw[this,rf hi h]
 ·have:bO bs (ah bs u o) i j=bs.getD (((ah bs u o).getD j (0,[])).2.getD i 0).toNat 0:=by unfold bO; rw[J8 h]
  rw[this,rf hj ∅]
  generalize o.getD i 0=x at *
  generalize o.getD j 0=y at *
  unfold bO
  by_cases h2:x < y
  ·rw[JX h2,J8 ∅]
  ·rw[J8 h2,JX ∅]
   have hp:=ap (d:=(0,[])) li;have hw:y < (u.getD x (0,[])).2.length:=by rw[hu.len x _ hp]; omega
   obtain⟨w0,w1⟩:=hu.way x _ hp _ (JJ (ap (d:=0) hw));have:=hb.inv ((u.getD x (0,[])).2.getD y 0).toNat ∅
   rw[this]; omega
def dh {bs:Jn JI}{a:Jx}{u:Wd}{o p:Jn Jx}(hb:GoodB bs)(hu:GoodW a bs.length u)(hO:Ord u.length o)(hP:Ord o.length p):ah bs (ah bs u o) p=ah bs u (p.map λi=>o.getD i 0):=by
 show LW (by rw[aD,aD,Jp]) λk h1 h2=>?_
 rw[aD]at h1;have e1:=gM (bs:=bs) (u:=ah bs u o) (o:=p) h1;have e2:=gM (bs:=bs) (u:=u) (o:=p.map λi=>o.getD i 0) (i:=k) (by rw[Jp]; exact h1)
 have hk:p.getD k 0 < o.length:=hP.lt _ (JJ (ap (d:=0) h1));have ek:(p.map λi=>o.getD i 0).getD k 0=o.getD (p.getD k 0) 0:=by
  rw[JY,JB,ap (d:=0) h1]; rfl
 rw[ek]at e2;rw[gM hk]at e1;have f:∀(v:Wd) (hv:k < v.length),v[k]=v.getD k (0,[]):=λv hv=>by simp[hv]
 rw[f _ (by rw[aD]; exact h1),f _ h2,e1,e2]
 congr 1;rw[<- Nu,La];show KG λj hj=>?_
 obtain⟨m,hm,rfl⟩:=LL.mp hj;rw[Kn]at hm;rw[NP];have hpm:p[m]=p.getD m 0:=by simp[show m < p.length by omega]
 rw[hpm];show z7 hb hu hO hk (hP.lt _ (JJ (ap (d:=0) (show m < p.length by omega)))) λe=>?_
 have h3:p[k]=p.getD k 0:=by simp[h1]
 have:=(LJ hP.nd).mp (h3.trans (e.trans hpm.symm));omega
def dW {n:Jx}{o:Jn Jx}(h:Ord n o)(hl:o.length=n){p:Jx}(hp:p < n):p∈o:=by
 by_cases z:p∈o
 ·exact z
 ·have:=(gx (n:=n) (o:=o) (p:=p)).mpr #[h,hp,z];have h1:=gl (o++[p]) (JW n) this.nd λq hq=>JT.mpr (this.lt q hq)
  rw[JC,J9,KD]at h1;omega
def rg {n:Jx}{o p:Jn Jx}(h:Ord n o)(hp:Ord o.length p):Ord n (p.map λi=>o.getD i 0):=by
 have g:∀i,i < o.length->o[i]?=ba (o.getD i 0):=λi hi=>ap hi
 show#[?_,λq hq=>?_]
 ·rw[Lw,Ld];show hp.nd.imp_of_mem λ{a b} ha hb hab e=>hab ?_
  have h1:=hp.lt a ha;have h2:=hp.lt b hb;have e1:o[a]=o.getD a 0:=by simp[h1]
  have e2:o[b]=o.getD b 0:=by simp[h2]
  exact(LJ h.nd).mp (by rw[e1,e2,e])
 ·obtain⟨i,hi,rfl⟩:=JF.mp hq;exact h.lt _ (JJ (g i (hp.lt i hi)))
def sP {bs:Jn JI}{a:Jx}{u:Wd}{o:Jn Jx}(hb:GoodB bs)(hu:GoodW a bs.length u)(hO:Ord u.length o)(hl:o.length=u.length):lJ bs (ah bs u o)=lJ bs u:=by
 have pl:(ah bs u o).length=u.length:=by rw[aD,hl]
 obtain⟨p,p1,p2,p3⟩:=lK (bs:=bs) (u:=ah bs u o);obtain⟨q,q1,q2,q3⟩:=lK (bs:=bs) (u:=u);rw[pl]at p1 p2;have m1:=λo h1 h2=>(re (bs:=bs) (u:=u) _ (JA _)).least o h1 h2
 have m2:=λo2 h1 h2=>(re (bs:=bs) (u:=ah bs u o) _ (JA _)).least o2 h1 h2
 show fM (Cu (oT _) ?_ ?_)
 ·rw[<- p3,dh hb hu hO (by rw[hl]; exact p1)]
  exact m1 _ (rg hO (by rw[hl]; exact p1)) (by rw[Jp,p2])
 ·have e:q=(q.map λx=>o.idxOf x).map λi=>o.getD i 0:=by
   rw[La]
   conv=>lhs; rw[<- SZ q]
   show KG λx hx=>?_
   have hm:=dW hO hl (q1.lt x hx);have hlt:=L8 hm;change x=o.getD (o.idxOf x) 0;rw[JY,Jy hlt,Mj]; rfl
  have hQ:Ord o.length (q.map λx=>o.idxOf x):=by
   show#[?_,λi hi=>?_]
   ·rw[Lw,Ld];show q1.nd.imp_of_mem λ{x y} hx hy hxy e=>hxy ?_
    have h1:=L8 (dW hO hl (q1.lt x hx));have h2:=L8 (dW hO hl (q1.lt y hy));have e1:=Mj h1;have e2:=Mj h2;rw[<- e1,<- e2];congr 1
   ·obtain⟨x,hx,rfl⟩:=JF.mp hi;exact L8 (dW hO hl (q1.lt x hx))
  rw[<- q3,e,<- dh hb hu hO hQ];exact m2 _ (by rw[pl,<- hl]; exact hQ) (by rw[Jp,pl,q2])
section
variable{M:JS->FF}{Z:Fm}{S:aa}
def EQ {α:Type}{elt a b:E}{cs:Es}{cap:Jn (Jw Jx)}{Q:QW}(L:Jn α)(f g:α->W)(p:α->J3)(h:α->W)(R:Fm)(oa:dA a=true)(ob:dA b=true)(oe:dA elt=true)(oc:lW cs=true)(hc:eg cap Z=gV::gV::gV::R)(hl:L.length<=1000000)
  (he:wE M a Z S λq=>wE M b Z q.2 λq2=>∃r t,q.1=.ref r/\q2.1=.ref t/\q2.2[r]?=ba (.lst (L.map f))/\q2.2[t]?=ba (.lst (L.map g))/\Ka S q2.2)
  (hstep:∀x∈L,∀S',Ka S S'->fP M elt cs (gV::ba (f x)::ba (g x)::R) S' (λy _ S2=>p x=true/\y=h x/\Ka S' S2) (λ_ S2=>p x=false/\Ka S' S2))
  (k:∀S',Ka S S'->Q (.ref S'.length,S'++[.lst ((L.filter p).map h)])):Wp (aB M (.comp elt (.tp [1,2]) (.zip #v[a,b]) cs cap) Z S) Q:=by
 obtain⟨w,S0,e1,h1⟩:=br oa he;obtain⟨w2,S1,e2,r,t,rfl,rfl,hr,ht,k1⟩:=br ob h1;have hr:=hr;have hz:l4 (L.map f) (L.map g)=L.map λx=>W.tup [f x,g x]:=by
  unfold l4;rw[List.zipWith_map,List.zipWith_self]
 have hi:iZ M (.zip #v[a,b]) Z S=ba (.zl r t,S1):=by
  dsimp only at hr ht;simp only[iZ,c7,dJ,iY,BR,e1,e2,E4,aq hr,aq ht]
 dsimp only at hr ht k1;exact sN L (λx=>W.tup [f x,g x]) p h (λZ=>∃a b,Z=gV::a::b::R) (λx=>gV::ba (f x)::ba (g x)::R) (λ_ _ _ h=>let ⟨_,_,e⟩:=h; e ▸ #[rfl,_,_,rfl]) oe oc #[_,_,hc] hl hi k1 (λi S' h=>by simp only[MI.at,aq (h.get _ _ hr),aq (h.get _ _ ht),hz]) (by simp only[MI.len,aq hr,aq ht,hz]) hstep k
end
def z8 (L:Jn Pt):W.ts (L.map bh)=ba (L.map eD):=by rw[<- sE]; exact T.ws_ts _
abbrev cZ:Ss:=
 #v[.set 2 (.lst .nil),.set 3 (.lst #v[.tup .nil]),.whl (.cmp .lt (.bi .len #v[.v 2]) (.bi .len #v[.v 1])) #v[.set 4 (.own "longer_orders" 2 #v[.v 3,.bi .len #v[.v 1]]),.set 5 (.comp (.own "point_over" 4 #v[.v 2,.v 3,.sl (.v 1) .no (.yes (.neg (.c (.int 1)))),.ix (.v 1) (.neg (.c (.int 1)))]) (.nm 1) (.seq (.v 4)) .nil [gV,gV,ba 0,ba 1]),.set 6 (.bi .min #v[.v 5]),.ex (.me .append (.v 2) #v[.v 6]),.set 3 (.comp (.v 1) (.tp [1,2]) (.zip #v[.v 4,.v 5]) #v[.cmp .eq (.v 2) (.v 3)] [gV,gV,gV,ba 6])],.ret (.bi .tuple #v[.v 2])]
section
variable{defs:Jn (JS×Df)}{fuel d:Jx}{S:aa}{Q:QW}
def ER {l:Jx}{ps:Jn Pt}(h:S[l]?=ba (.lst (ps.map bh)))(hne:ps≠[])(q:Q (bh (cC ps),S)):wO (Bi.min.fn [.ref l] S) Q:=by
 show ab ?_ q;simp only[Bi.fn,xZ,aq h,z8];rw[JX #[by have:=gH ps; unfold bP; omega,gK _],JB,(nq hne).1]; rfl
def uS {bs:Jn JI}{u:Wd}:∀k,(eQ bs u k).length<=u.length ^ k
 | 0=>JA _
 | k+1=>by
  have h1:=Ml (λo=>decide (aS bs u o=cC ((aE u.length (eQ bs u k)).map (aS bs u)))) (aE u.length (eQ bs u k))
  have h2:=je (n:=u.length) (eQ bs u k);have h3:=Nb u.length (uS (bs:=bs) (u:=u) k);rw[Pf];exact J6 h1 (J6 h2 h3)
def jg (hfu:20 < fuel)(P:Parts defs)(hlo:Is defs ("longer_orders" : JS) 2 4 aJ)(hg:Is defs ("least_form" : JS) 2 7 cZ){m0 b0:W}{ns:Jn JS}{bs:Jn JI}{a:Jx}{u:Wd}(hb:GoodB bs)(hnl:ns.length=bs.length)(hu:GoodW a bs.length u)(hu6:u.length<=6)
  (kk:∀S',Ka S S'->Q (az (lJ bs u),S')) :
  wO (aP (am defs fuel (d+3)) "least_form" 2 [.tup [m0,.tup (JV aQ ns bs),b0],az u] S) Q:=by
 show ay hg rfl rfl λQ' hR=>?_
 replace kk:∀S',Ka S S'->Q' (.rt (az (lJ bs u)),S'):=λS' a=>hR _ _ (kk S' a)
 clear hR;change wZ _ _ cZ [ba (.tup [m0,.tup (JV aQ ns bs),b0]),ba (az u),gV,gV,gV,gV,gV] S Q';generalize hR0:W.tup [m0,.tup (JV aQ ns bs),b0]=R;have ul:(u.map bh).length=u.length:=Jp ..;dsimp only[cZ];show st ?_;dsimp only[wS,wE,wA,JG];show st ?_;dsimp only[wS,wE,wA,JG];nofun
 show uB (λm Z S'=>∃(k q:Jx) (a4 a5 a6:Jw W),k+m=u.length/\Z=[ba R,ba (az u),ba (.ref S.length),ba (.ref q),a4,a5,a6]/\S'[S.length]?=ba (.lst ((oW bs u k).map bh))/\S'[q]?=ba (.lst (bW (eQ bs u k)))/\Ka S S') u.length rfl rfl ∅ #[0,(S++[O.lst []]).length,gV,gV,gV,∅,rfl,al ag,ag,Ka.push.trans .push] ?_
 rintro m Z S1 ⟨k,q,a4,a5,a6,hkm,rfl,e1,e2,k1⟩;have ok:=re (bs:=bs) (u:=u) k ∅
 have hl1:=bS e1;dsimp only[wT,wE,wA,wV,wG];show eu e1 (aN ?_);rw[ul,Jp,ok.len];dsimp only[v4,aF,wB];show#[λh=>?_,λh=>?_]
 ·have h:(k:JI) < u.length:=Kt h;have hkn:k < u.length:=∅
  show#[m - 1,∅,λQ2 hn _=>?_]
  clear hK kk;have hgl:(eQ bs u k).length<=7776:=J6 (uS k) (J6 (MB hu6 k) (Ms (n:=6) #v[] (show k<=5 by omega)))
  have hmul:(eQ bs u k).length*u.length<=46656:=NQ hgl hu6;have hll:(aE u.length (eQ bs u k)).length<=46656:=J6 (je _) hmul;show st ?_;left;show aN ?_;rw[ul];show qW (d:=d+1) hlo e2 ∅ (λo ho=>by have:=((ok.mem o).mp ho).2.1; omega) ∅ λl S2 e3 hl k2=>?_
  have hl:S1.length<=l:=hl;have lne:aE u.length (eQ bs u k)≠[]:=by
   obtain⟨o,ho⟩:=Nk _ ok.ne;obtain⟨h1,h2,_⟩:=(ok.mem o).mp ho;obtain⟨p,hp,hpo⟩:=rc h1 ∅
   exact OF (fu.mpr #[o,ho,p,hp,hpo,rfl])
  show st ?_;dsimp only[wS,wE,JG];show zZ (aE u.length (eQ bs u k)) (λo=>.tup (aj o)) (λ_=>true) (λo=>bh (aS bs u o)) [ba R,ba (az u)] rfl rfl rfl rfl ∅ #[l,rfl,e3,.refl] (λo ho S3 k3=>?_) λS3 k3=>?_
  ·obtain⟨o,ho',p,hp,hpo,rfl⟩:=fu.mp ho;obtain⟨⟨o1,o2⟩,o3,_⟩:=(ok.mem o).mp ho';dsimp only[fP,wC,wE,wA,wP,wV,wG,wN];show#[λ_=>?_,λz=>by cases z]
   show ab (show ph (.tup (aj (o++[p]))) gV (ba (-1)) S3=ba (.tup (aj o),S3) by simp only[ph,zY,wu,PU]) ?_
   dsimp only;show ab (Cq (by simp)) ?_
   dsimp only;subst hR0;rw[PV,gL];exact zR (d:=d) P hb hnl hu (λx hx=>#[o2 x hx,λe=>hpo (e ▸ hx)]) hp ∅ λS4 k4=>#[rfl,rfl,k4]
  rw[jf];have em:(aE u.length (eQ bs u k)).map (λo=>bh (aS bs u o))=((aE u.length (eQ bs u k)).map (aS bs u)).map bh:=by rw[La]; rfl
  rw[em];have e4:(S3++[O.lst (((aE u.length (eQ bs u k)).map (aS bs u)).map bh)])[S3.length]?=ba (.lst (((aE u.length (eQ bs u k)).map (aS bs u)).map bh)):=ag;have e3':=al (u:=O.lst (((aE u.length (eQ bs u k)).map (aS bs u)).map bh)) (k3.get _ _ e3);have e1':=al (u:=O.lst (((aE u.length (eQ bs u k)).map (aS bs u)).map bh)) (k3.get _ _ (k2.get _ _ e1));have ls3:S.length < S3.length:=J4 hl1 (J6 k2.len k3.len);have k4:Ka S (S3++[O.lst (((aE u.length (eQ bs u k)).map (aS bs u)).map bh)]):=((k1.trans k2).trans k3).trans .push;generalize S3++[O.lst (((aE u.length (eQ bs u k)).map (aS bs u)).map bh)]=S4 at e4 e3' e1' k4;generalize hl5:S3.length=l5 at e4 ls3;clear e2 e3 k3 k2 hl5;show st ?_;left;show ER e4 (by simpa using lne) ?_
  show st ?_;left;show#[cv e1',EF e1' (by rw[Jp,ok.len]; omega) ?_]
  have s1:=aT (o':=O.lst ((oW bs u k).map bh++[bh (cC ((aE u.length (eQ bs u k)).map (aS bs u)))])) e1';have s3:(S4.set S.length (O.lst ((oW bs u k).map bh++[bh (cC ((aE u.length (eQ bs u k)).map (aS bs u)))])))[l]?=ba (.lst (bW (aE u.length (eQ bs u k)))):=by rw[be ∅]; exact e3'
  have s4:(S4.set S.length (O.lst ((oW bs u k).map bh++[bh (cC ((aE u.length (eQ bs u k)).map (aS bs u)))])))[l5]?=ba (.lst (((aE u.length (eQ bs u k)).map (aS bs u)).map bh)):=by rw[be ∅]; exact e4
  have k5:=k4.late (o:=O.lst ((oW bs u k).map bh++[bh (cC ((aE u.length (eQ bs u k)).map (aS bs u)))])) (JA S.length);generalize S4.set S.length (O.lst ((oW bs u k).map bh++[bh (cC ((aE u.length (eQ bs u k)).map (aS bs u)))]))=S5 at s1 s3 s4 k5;show st ?_;dsimp only[wS,wE,JG];show EQ (aE u.length (eQ bs u k)) (λo=>.tup (aj o)) (λo=>bh (aS bs u o)) (λo=>decide (aS bs u o=cC ((aE u.length (eQ bs u k)).map (aS bs u)))) (λo=>.tup (aj o)) [ba (bh (cC ((aE u.length (eQ bs u k)).map (aS bs u))))] rfl rfl rfl rfl rfl ∅ #[l,l5,rfl,rfl,s3,by rw[em]; exact s4,.refl] (λo ho S6 k6=>?_) λS6 k6=>?_
  ·dsimp only[fP,wC,wT,wE,wV,wG];show ab GY ?_;dsimp only[wB];exact#[λz=>#[z,rfl,.refl],λz=>#[z,.refl]]
  ·show bA (hn _ _ #[k+1,S6.length,_,_,_,∅,rfl,?_,ag,(k5.trans k6).trans .push])
   have:=al (u:=O.lst (((aE u.length (eQ bs u k)).filter λo=>decide (aS bs u o=cC ((aE u.length (eQ bs u k)).map (aS bs u)))).map λo=>W.tup (aj o))) (k6.get _ _ s1)
   rw[this,show oW bs u (k+1)=oW bs u k++[cC ((aE u.length (eQ bs u k)).map (aS bs u))]from rfl,J0]; rfl
 ·have h:¬ (k:JI) < u.length:=LX h;obtain rfl:k=u.length:=∅
  show hK _ _ (st ?_);left;exact dB e1 (kk _ k1)
end
abbrev bu:Ss:=
 #v[.set 4 (.tup #v[.ix (.ix (.v 0) (.v 1)) (.c (.int 0)),.tup .nil]),.set 5 (.tup #v[.ix (.ix (.v 0) (.v 2)) (.c (.int 0)),.tup #v[.ix (.ix (.ix (.v 0) (.v 2)) (.c (.int 1))) (.v 1)]]),.ret (.tup #v[.v 4,.v 5,.tup #v[.ix (.ix (.v 0) (.v 3)) (.c (.int 0)),.tup #v[.ix (.ix (.ix (.v 0) (.v 3)) (.c (.int 1))) (.v 1),.ix (.ix (.ix (.v 0) (.v 3)) (.c (.int 1))) (.v 2)]]])]
abbrev b7 (u:Wd)(i j k:Jx):Wd:=[((u.getD i (0,[])).1,[]),((u.getD j (0,[])).1,[(u.getD j (0,[])).2.getD i 0]),((u.getD k (0,[])).1,[(u.getD k (0,[])).2.getD i 0,(u.getD k (0,[])).2.getD j 0])]
def iG {bs:Jn JI}{u:Wd}{i j k:Jx}(h1:i < j)(h2:j < k):ah bs u [i,j,k]=b7 u i j k:=by
 show[((u.getD i (0,[])).1,[]),((u.getD j (0,[])).1,[bO bs u j i]),((u.getD k (0,[])).1,[bO bs u k i,bO bs u k j])]=_;unfold bO b7;rw[JX h1,JX h2,JX (O8 h1 h2)]
section
variable{defs:Jn (JS×Df)}{fuel d:Jx}{S:aa}{Q:QW}
def uT (hg:Is defs ("three_at" : JS) 4 6 bu){a n:Jx}{u:Wd}{i j k:Jx}(hu:GoodW a n u)(h1:i < j)(h2:j < k)(h3:k < u.length)(q:Q (az (b7 u i j k),S)) :
  wO (aP (am defs fuel (d+1)) "three_at" 4 [az u,.int i,.int j,.int k] S) Q:=by
 show ay hg rfl rfl λQ' hR=>?_
 replace q:=hR _ _ q;clear hR;change wZ _ _ bu [ba (az u),ba (.int i),ba (.int j),ba (.int k),gV,gV] S Q';have hi:i < u.length:=∅
 have hj:j < u.length:=∅
 have lj:i < (u.getD j (0,[])).2.length:=by rw[hu.len j _ (ap (d:=(0,[])) hj)]; exact h1
 have lk:j < (u.getD k (0,[])).2.length:=by rw[hu.len k _ (ap (d:=(0,[])) h3)]; exact h2
 have lki:i < (u.getD k (0,[])).2.length:=∅
 have w:∀ {p m:Jx},m < (u.getD p (0,[])).2.length->((u.getD p (0,[])).2.map W.int)[((m:Jx):JI).toNat]?=ba (.int ((u.getD p (0,[])).2.getD m 0)):=λ{p m} h=>by
  rw[JL,JB,ap (d:=0) h]; rfl
 dsimp only[bu];show st ?_;left;show ak (JN i) (ey hi) (ak #v[] rfl ?_)
 show st ?_;left;show ak (JN j) (ey hj) (ak #v[] rfl (ak (JN j) (ey hj) (ak #v[] rfl (ak (JN i) (w lj) ?_))))
 show st ?_;left;exact ak (JN k) (ey h3) (ak #v[] rfl (ak (JN k) (ey h3) (ak #v[] rfl (ak (JN i) (w lki) (ak (JN k) (ey h3) (ak #v[] rfl (ak (JN j) (w lk) q)))))))
end
abbrev bf (i j k i' j' k':Jx):Prop:=i' < i\/(i'=i/\(j' < j\/(j'=j/\k' < k)))
abbrev ES (P:Jx->Jx->Jx->J3)(n i j k:Jx):Prop:=i < j/\j < k/\k < n/\P i j k=true/\∀i' j' k',i' < j'->j' < k'->k' < n->bf i j k i' j' k'->P i' j' k'=false
abbrev Ans (P:Jx->Jx->Jx->J3)(n:Jx)(w:W):Prop:=(w=.non/\∀i j k,i < j->j < k->k < n->P i j k=false)\/∃i j k:Jx,w=.tup [.int i,.int j,.int k]/\ES P n i j k
def Ans.congr {P P':Jx->Jx->Jx->J3}{n:Jx}{w:W}(e:∀i j k,i < j->j < k->k < n->P i j k=P' i j k)(h:Ans P n w):Ans P' n w:=by
 rcases h with⟨rfl,h⟩|⟨i,j,k,rfl,a1,a2,a3,a4,a5⟩
 ·exact .inl #[rfl,λi j k b1 b2 b3=>by rw[<- e i j k b1 b2 b3]; exact h i j k b1 b2 b3]
 ·exact .inr #[i,j,k,rfl,a1,a2,a3,by rw[<- e i j k a1 a2 a3]; exact a4,λi' j' k' b1 b2 b3 b4=>by rw[<- e i' j' k' b1 b2 b3]; exact a5 i' j' k' b1 b2 b3 b4]
abbrev bM:Ss:=
 #v[.loop (.nm 2) (.rng #v[.bi .len #v[.v 1]]) #v[.loop (.nm 3) (.rng2 #v[.op .add (.v 2) (.c (.int 1)),.bi .len #v[.v 1]]) #v[.loop (.nm 4) (.rng2 #v[.op .add (.v 3) (.c (.int 1)),.bi .len #v[.v 1]]) #v[.ite (.cmp .isin (.own "three_at" 4 #v[.v 1,.v 2,.v 3,.v 4]) (.v 0)) #v[.ret (.tup #v[.v 2,.v 3,.v 4])] .nil]]],.ret (.c .non)]
abbrev jI (U:Jn (T×W))(u:Wd)(i j k:Jx):J3:=(bF U (bC (b7 u i j k))).isSome
section
variable{defs:Jn (JS×Df)}{fuel d:Jx}{S:aa}{Q:QW}
def md (h3:Is defs ("three_at" : JS) 4 6 bu)(hg:Is defs ("first_three" : JS) 2 5 bM){a n q:Jx}{u:Wd}{U:Jn (T×W)}(hu:GoodW a n u)(hl:u.length<=1000)(e:S[q]?=ba (.dic U))(kk:∀w,Ans (jI U u) u.length w->Q (w,S)) :
  wO (aP (am defs fuel (d+2)) "first_three" 2 [.ref q,az u] S) Q:=by
 show ay hg rfl rfl λQ' hR=>?_
 replace kk:∀w,Ans (jI U u) u.length w->Q' (.rt w,S):=λw h=>hR _ _ (kk w h)
 clear hR;change wZ _ _ bM [ba (.ref q),ba (az u),gV,gV,gV] S Q';have ul:(u.map bh).length=u.length:=Jp ..;dsimp only[bM];nofun
 show bT (u.length:JI) (λi Z S'=>(∃a2 a3 a4,Z=[ba (.ref q),ba (az u),a2,a3,a4])/\S'=S/\∀i' j' k',i' < i->i' < j'->j' < k'->k' < u.length->jI U u i' j' k'=false) rfl rfl ∅ ?_ ?_ ?_
 ·dsimp only[wE,wA,wV,wG];show aN ?_;rw[ul];exact#[rfl,#[_,_,_,rfl],rfl,λi' _ _ z=>∅]
 ·rintro i Z S1 hi ⟨⟨a2,a3,a4,rfl⟩,rfl,no⟩ Q2 hn hr;clear hK;dsimp only[JG];nofun
  show gp ((i:JI)+1) (u.length:JI) (λm Z S'=>(∃a3 a4,Z=[ba (.ref q),ba (az u),ba (.int i),a3,a4])/\S'=S1/\∀j' k',j' < i+1+m->i < j'->j' < k'->k' < u.length->jI U u i j' k'=false) rfl rfl rfl ∅ ?_ ?_ ?_
  ·dsimp only[wE,wA,wV,wG];show ab cQ #[rfl,aN ?_];rw[ul];exact#[rfl,#[_,_,rfl],rfl,λj' k' z1 z2=>∅]
  ·rintro m Z S2 hm ⟨⟨a3,a4,rfl⟩,rfl,no2⟩ Q3 hn3 hr3;clear hK;have ej:(i:JI)+1+m=((i+1+m:Jx):JI):=∅
   rw[ej];generalize hj:i+1+m=j at no2 hn3 ej;have hij:i < j:=∅
   have hju:j < u.length:=∅
   dsimp only[JG];nofun
   show gp ((j:JI)+1) (u.length:JI) (λl Z S'=>(∃a4,Z=[ba (.ref q),ba (az u),ba (.int i),ba (.int j),a4])/\S'=S2/\∀k',k' < j+1+l->j < k'->k' < u.length->jI U u i j k'=false) rfl rfl rfl ∅ ?_ ?_ ?_
   ·dsimp only[wE,wA,wV,wG];show ab cQ #[rfl,aN ?_];rw[ul];exact#[rfl,#[_,rfl],rfl,λk' z1 z2=>∅]
   ·rintro l Z S3 hl3 ⟨⟨a4,rfl⟩,rfl,no3⟩ Q4 hn4 hr4;clear hK;have ek:(j:JI)+1+l=((j+1+l:Jx):JI):=∅
    rw[ek];generalize hk:j+1+l=k at no3 hn4 ek;have hjk:j < k:=∅
    have hku:k < u.length:=∅
    dsimp only[JG];nofun
    dsimp only[wS,wT,wE,wA,wV,wG];show uT (d:=d) h3 hu hij hjk hku ?_;show ab (show aZ .isin (az (b7 u i j k)) (.ref q) S3=ba (.bl (jI U u i j k),S3) by simp only[aZ,ci e,oH]; rfl) ?_
    dsimp only[wB];show au (Q0:=Q4) (λh Q5 _ hr5=>?_) (λh Q5 hn5 _=>bA (hn5 _ _ (hK _ _ (bA (hn4 _ _ #[#[_,rfl],rfl,λk' z1 z2 z3=>?_])))))
    ·show st ?_;left;show hr5 _ _ (hr4 _ _ (hr3 _ _ (hr _ _ (kk _ (.inr #[i,j,k,rfl,hij,hjk,hku,h,λi' j' k' b1 b2 b3 b4=>?_])))))
     rcases b4 with b|⟨rfl,b|⟨rfl,b⟩⟩
     ·exact no i' j' k' b b1 b2 b3
     ·exact no2 j' k' b b1 b2 b3
     ·exact no3 k' b b2 b3
    ·by_cases ek2:k'=k
     ·rw[ek2]; exact h
     ·exact no3 k' ∅ z2 z3
   ·rintro Z S3 ⟨⟨a4,rfl⟩,rfl,no3⟩;show hK _ _ (bA (hn3 _ _ #[#[_,_,rfl],rfl,λj' k' z1 z2 z3 z4=>?_]))
    by_cases ej2:j'=j
    ·rw[ej2]; exact no3 k' ∅ ∅ z4
    ·exact no2 j' k' ∅ z2 z3 z4
  ·rintro Z S2 ⟨⟨a3,a4,rfl⟩,rfl,no2⟩;show hK _ _ (bA (hn _ _ #[#[_,_,_,rfl],rfl,λi' j' k' z1 z2 z3 z4=>?_]))
   by_cases ei:i'=i
   ·rw[ei]; exact no2 j' k' ∅ ∅ z3 z4
   ·exact no i' j' k' ∅ z2 z3 z4
 ·rintro Z S1 ⟨⟨a2,a3,a4,rfl⟩,rfl,no⟩;show hK _ _ (st ?_);dsimp only[wS,wE];exact kk _ (.inl #[rfl,λi j k b1 b2 b3=>no i j k ∅ b1 b2 b3])
end
structure HasD (U:Jn (T×W))(L:Jn Wd):Prop where
 iff:∀t,t∈U.map (·.1)↔t∈L.map bC
 len:U.length<=L.length
def z9 {U:Jn (T×W)}{t:T}:(bF U t).isSome=true↔t∈U.map (·.1):=by
 constructor
 ·intro h;obtain⟨v,hv⟩:=KF.mp h;exact JF.mpr #[_,lD hv,rfl]
 ·intro h;obtain⟨p,hp,rfl⟩:=JF.mp h;obtain⟨v,hv⟩:=uL hp;rw[hv]; rfl
def HasD.get {U:Jn (T×W)}{L:Jn Wd}(h:HasD U L)(t:T):(bF U t).isSome=decide (t∈L.map bC):=by
 rw[N8,z9,h.iff,JU]
def HasD.nil:HasD [] []:=#[λt=>by simp,JA _]
def HasD.put {U:Jn (T×W)}{L:Jn Wd}{f:Wd}{v:W}(h:HasD U L):HasD (eE U (bC f) v) (L++[f]):=by
 show#[λt=>?_,?_]
 ·rw[jD,J0,Kc,<- h.iff t]
  by_cases hk:bC f∈U.map (·.1)
  ·rw[JX hk];constructor
   ·exact .inl
   ·rintro(z|z)
    ·exact z
    ·rw[JK.mp z]; exact hk
  ·rw[J8 hk,Kc]; rfl
 ·have:=cO U (bC f) v;have:=h.len;rw[JC,KD]; omega
abbrev fw:Ss:=
 #v[.set 1 .dnew,.loop (.nm 2) (.seq (.ix (.v 0) (.c (.int 2)))) #v[.loop (.nm 3) (.seq (.own "_law_turns" 0 .nil)) #v[.put (.v 1) (.own "_law_part" 3 #v[.v 0,.v 2,.v 3]) (.c (.bl true))]],.ret (.v 1)]
abbrev cu (bs:Jn JI)(gs:Jn Wd):Jn Wd:=gs.flatMap λg=>ar.map (ah bs g)
def lL (bs:Jn JI):∀gs:Jn Wd,(cu bs gs).length=6*gs.length
 | []=>rfl
 | g::gs=>by
  have:=lL bs gs;unfold cu at this ⊢;rw[Le,JC,this,Kr,Jp,show ar.length=6 from rfl]; omega
section
variable{defs:Jn (JS×Df)}{fuel d:Jx}{S:aa}{Q:QW}
def G0 (G:Gen defs)(hg:Is defs ("_law_bad" : JS) 1 4 fw){m0:W}{ns:Jn JS}{bs:Jn JI}{a:Jx}{gs:Jn Wd}(hb:GoodB bs)(hnl:ns.length=bs.length)(hgs:∀g∈gs,GoodW a bs.length g/\g.length=3)(h64:gs.length<=100)
  (k:∀(q:Jx) (U:Jn (T×W)) (S':aa),S'[q]?=ba (.dic U)->HasD U (cu bs gs)->S.length<=q->Ka S S'->Q (.ref q,S')) :
  wO (aP (am defs fuel (d+3)) "_law_bad" 1 [.tup [m0,.tup (JV aQ ns bs),.tup (gs.map az)]] S) Q:=by
 show ay hg rfl rfl λQ' hR=>?_
 replace k:∀(q:Jx) (U:Jn (T×W)) (S':aa),S'[q]?=ba (.dic U)->HasD U (cu bs gs)->S.length<=q->Ka S S'->Q' (.rt (.ref q),S'):=λa b c e f g h=>hR _ _ (k a b c e f g h)
 clear hR;change wZ _ _ fw [ba (.tup [m0,.tup (JV aQ ns bs),.tup (gs.map az)]),gV,gV,gV] S Q';generalize hR0:W.tup [m0,.tup (JV aQ ns bs),.tup (gs.map az)]=R;dsimp only[fw];show st ?_;dsimp only[wS,wE,JG];nofun
 show for_tup (gs.map az) (λi Z S'=>(∃a2 a3,Z=[ba R,ba (.ref S.length),a2,a3])/\(∃U,S'[S.length]?=ba (.dic U)/\HasD U (cu bs (gs.take i)))/\Ka S S') rfl rfl ?_ ?_ ?_
 ·dsimp only[wE,wV,wG];subst hR0;exact ak #v[] rfl #[rfl,#[_,_,rfl],#[[],ag,.nil],.push]
 ·rintro i w Z S1 hw ⟨⟨a2,a3,rfl⟩,⟨U,e1,h1⟩,k1⟩;clear hK k;rw[JB,Js]at hw;obtain⟨g,hg1,rfl⟩:=hw;obtain⟨gg,g3⟩:=hgs g (JJ hg1);have hi:i < gs.length:=(JD.mp hg1).1;show ab (show fZ (.nm 2) (az g) [ba R,ba (.ref S.length),a2,a3] S1=ba ([ba R,ba (.ref S.length),ba (az g),a3],S1)from rfl) ?_
  intro Q2 hn _;nofun
  show jc rfl rfl ?_;dsimp only[wE,wA];show ko (d:=d+1) G ?_;show#[S1.length,ar.map (λt=>W.tup (aj t)),(λj Z S'=>(∃a3,Z=[ba R,ba (.ref S.length),ba (az g),a3])/\(∃U,S'[S.length]?=ba (.dic U)/\HasD U (cu bs (gs.take i)++(ar.take j).map (ah bs g)))/\S'[S1.length]?=ba (.lst (ar.map λt=>W.tup (aj t)))/\Ka S S'),rfl,#[#[_,rfl],#[U,al e1,by rw[RZ,QD,Li]; exact h1],ag,k1.trans .push],λj Z S' h=>h.2.2.1,?_,?_]
  ·rintro j w Z S2 hw ⟨⟨a3,rfl⟩,⟨U2,e2,h2⟩,el,k2⟩;clear hK hn;rw[JB,Js]at hw;obtain⟨t,ht,rfl⟩:=hw;have htm:=JJ ht;have tk:t.length<=3/\t.Nodup/\∀p∈t,p < 3:=by
    have:∀t∈ar,t.length<=3/\t.Nodup/\∀p∈t,p < 3:=by decide
    exact this t htm
   show ab (show fZ (.nm 3) (.tup (aj t)) [ba R,ba (.ref S.length),ba (az g),a3] S2=ba ([ba R,ba (.ref S.length),ba (az g),ba (.tup (aj t))],S2)from rfl) ?_
   intro Q3 hn3 _;show st ?_;left;subst hR0;show zu (d:=d) G hb hnl gg (λp hp=>by have:=tk.2.2 p hp; omega) tk.2.1 ∅ λS3 k3=>?_
   have e3:=k3.get _ _ e2;have hlt:U2.length < sizeLine:=by
    have b1:=h2.len;have b2:=lL bs (gs.take i);rw[JC,b2,Jp,Kn,Kn,show ar.length=6 from rfl]at b1
    rw[Ky]; omega
   show ab (zA e3 hlt) (bA (hn3 _ _ #[#[_,rfl],#[_,aT e3,?_],?_,(k2.trans k3).late (JA _)]))
   ·rw[Kj,ht,J0,<- Lz];exact h2.put
   ·rw[be (by have:=k1.len; have:=bS e1; omega)]; exact k3.get _ _ el
  ·rintro Z S2 ⟨⟨a3,rfl⟩,⟨U2,e2,h2⟩,el,k2⟩;rw[Jp,Kx]at h2;show hK _ _ (bA (hn _ _ #[#[_,_,rfl],#[U2,e2,?_],k2]));unfold cu at h2 ⊢;rw[Kj,hg1,L7]
   simpa using h2
 ·rintro Z S1 ⟨⟨a2,a3,rfl⟩,⟨U,e1,h1⟩,k1⟩;rw[Jp,Kx]at h1;exact hK _ _ (st (k _ U S1 e1 h1 (JA _) k1))
end
abbrev aU:Ss:=
 #v[.set 1 (.lst #v[.tup .nil]),.whl (.cmp .lt (.bi .len #v[.ix (.v 1) (.c (.int 0))]) (.c (.int 3))) #v[.set 1 (.own "longer_orders" 2 #v[.v 1,.c (.int 3)])],.set 2 .dnew,.loop (.nm 3) (.seq (.ix (.v 0) (.c (.int 2)))) #v[.loop (.nm 4) (.seq (.v 1)) #v[.put (.v 2) (.own "part" 3 #v[.v 0,.v 3,.v 4]) (.c (.bl true))]],.ret (.v 2)]
abbrev wz:Jx->Jn (Jn Jx)
 | 0=>[[]]
 | i+1=>aE 3 (wz i)
def wD:wz 3=ar:=by decide
def ET:∀i,i<=3->(∃o,(wz i)[0]?=ba o/\o.length=i)/\(wz i).length<=6/\∀o∈wz i,o.length<=3:=λi hi=>by
 rcases(show i=0\/i=1\/i=2\/i=3 by omega)with rfl|rfl|rfl|rfl
 ·exact#[#[[],rfl,rfl],#v[],#v[]]
 ·exact#[#[[0],rfl,rfl],#v[],#v[]]
 ·exact#[#[[0,1],rfl,rfl],#v[],#v[]]
 ·exact#[#[[0,1,2],rfl,rfl],#v[],#v[]]
section
variable{defs:Jn (JS×Df)}{fuel d:Jx}{S:aa}{Q:QW}
def rh (hfu:20 < fuel)(P:Parts defs)(hp:Is defs ("part" : JS) 3 3 gr)(hl:Is defs ("longer_orders" : JS) 2 4 aJ)(hg:Is defs ("barred_threes" : JS) 1 5 aU){m0:W}{ns:Jn JS}{bs:Jn JI}{a:Jx}{gs:Jn Wd}(hb:GoodB bs)(hnl:ns.length=bs.length)(hgs:∀g∈gs,GoodW a bs.length g/\g.length=3)(h64:gs.length<=100)
  (k:∀(q:Jx) (U:Jn (T×W)) (S':aa),S'[q]?=ba (.dic U)->HasD U (cu bs gs)->S.length<=q->Ka S S'->Q (.ref q,S')) :
  wO (aP (am defs fuel (d+4)) "barred_threes" 1 [.tup [m0,.tup (JV aQ ns bs),.tup (gs.map az)]] S) Q:=by
 show ay hg rfl rfl λQ' hR=>?_
 replace k:∀(q:Jx) (U:Jn (T×W)) (S':aa),S'[q]?=ba (.dic U)->HasD U (cu bs gs)->S.length<=q->Ka S S'->Q' (.rt (.ref q),S'):=λa b c e f g h=>hR _ _ (k a b c e f g h)
 clear hR;change wZ _ _ aU [ba (.tup [m0,.tup (JV aQ ns bs),.tup (gs.map az)]),gV,gV,gV,gV] S Q';generalize hR0:W.tup [m0,.tup (JV aQ ns bs),.tup (gs.map az)]=R;dsimp only[aU];show st ?_;dsimp only[wS,wE,wA,JG];nofun
 show uB (λm Z S'=>∃(i q:Jx),i+m=3/\Z=[ba R,ba (.ref q),gV,gV,gV]/\S'[q]?=ba (.lst (bW (wz i)))/\S.length<=q/\Ka S S') 3 rfl rfl ∅ #[0,S.length,rfl,rfl,ag,JA _,.push] ?_
 rintro m Z S1 ⟨i,q,him,rfl,e1,hq,k1⟩;obtain⟨⟨o,ho,hol⟩,l6,l3⟩:=ET i ∅
 dsimp only[wT,wE,wA,wV,wG];show fq (w:=.tup (aj o)) e1 #v[] (by unfold bW; rw[JB,show((0:JI).toNat)=0 from rfl,ho]; rfl) (aN ?_)
 rw[show(aj o).length=o.length from Jp ..,hol]
 dsimp only[v4,aF,wB];show#[λh=>?_,λh=>?_]
 ·have h:(i:JI) < 3:=Kt h;show#[m - 1,∅,λQ2 hn _=>?_]
  clear hK k;show st ?_;left;show qW (n:=3) (d:=d+2) hl e1 #v[] (λo ho=>by have:=l3 o ho; omega) ∅ λq2 S2 e2 hq2 k2=>bA (hn _ _ #[i+1,q2,∅,rfl,e2,?_,k1.trans k2])
  exact J6 k1.len hq2
 ·have h:¬ (i:JI) < 3:=LX h;obtain rfl:i=3:=∅
  rw[wD]at e1;show hK _ _ ?_;clear hK K l6 l3 ho hol h him;show st ?_;dsimp only[wS,wE,JG];nofun
  have hq1:=bS e1;show for_tup (gs.map az) (λi Z S'=>(∃a3 a4,Z=[ba R,ba (.ref q),ba (.ref S1.length),a3,a4])/\(∃U,S'[S1.length]?=ba (.dic U)/\HasD U (cu bs (gs.take i)))/\S'[q]?=ba (.lst (bW ar))/\Ka S S') rfl rfl ?_ ?_ ?_
  ·dsimp only[wE,wV,wG];subst hR0;exact ak #v[] rfl #[rfl,#[_,_,rfl],#[[],ag,.nil],al e1,k1.trans .push]
  ·rintro i w Z S2 hw ⟨⟨a3,a4,rfl⟩,⟨U,e2,h2⟩,el2,k2⟩;clear hK k;rw[JB,Js]at hw;obtain⟨g,hg1,rfl⟩:=hw;obtain⟨gg,g3⟩:=hgs g (JJ hg1);have hi:i < gs.length:=(JD.mp hg1).1;show ab (show fZ (.nm 3) (az g) [ba R,ba (.ref q),ba (.ref S1.length),a3,a4] S2=ba ([ba R,ba (.ref q),ba (.ref S1.length),ba (az g),a4],S2)from rfl) ?_
   intro Q2 hn _;nofun
   show oG q (bW ar) (λj Z S'=>(∃a4,Z=[ba R,ba (.ref q),ba (.ref S1.length),ba (az g),a4])/\(∃U,S'[S1.length]?=ba (.dic U)/\HasD U (cu bs (gs.take i)++(ar.take j).map (ah bs g)))/\S'[q]?=ba (.lst (bW ar))/\Ka S S') rfl rfl #[rfl,#[_,rfl],#[U,e2,by rw[RZ,QD,Li]; exact h2],el2,k2] (λj Z S' h=>h.2.2.1) ?_ ?_
   ·rintro j w Z S3 hw ⟨⟨a4,rfl⟩,⟨U3,e3,h3⟩,el3,k3⟩;clear hK hn;unfold bW at hw;rw[JB,Js]at hw;obtain⟨t,ht,rfl⟩:=hw;have tk:t.length<=3/\t.Nodup/\∀p∈t,p < 3:=by
     have:∀t∈ar,t.length<=3/\t.Nodup/\∀p∈t,p < 3:=by decide
     exact this t (JJ ht)
    show ab (show fZ (.nm 4) (.tup (aj t)) [ba R,ba (.ref q),ba (.ref S1.length),ba (az g),a4] S3=ba ([ba R,ba (.ref q),ba (.ref S1.length),ba (az g),ba (.tup (aj t))],S3)from rfl) ?_
    intro Q3 hn3 _;show st ?_;left;subst hR0;show uR (d:=d) P hp hb hnl gg (λp hp=>by have:=tk.2.2 p hp; omega) tk.2.1 ∅ λS4 k4=>?_
    have e4:=k4.get _ _ e3;have hlt:U3.length < sizeLine:=by
     have b1:=h3.len;have b2:=lL bs (gs.take i);rw[JC,b2,Jp,Kn,Kn,show ar.length=6 from rfl]at b1
     rw[Ky]; omega
    show ab (zA e4 hlt) (bA (hn3 _ _ #[#[_,rfl],#[_,aT e4,?_],?_,(k3.trans k4).late k1.len]))
    ·rw[Kj,ht,J0,<- Lz];exact h3.put
    ·rw[be ∅]; exact k4.get _ _ el3
   ·rintro Z S3 ⟨⟨a4,rfl⟩,⟨U3,e3,h3⟩,el3,k3⟩;rw[show(bW ar).length=ar.length from Jp ..,Kx]at h3
    show hK _ _ (bA (hn _ _ #[#[_,_,rfl],#[U3,e3,?_],el3,k3]));unfold cu at h3 ⊢;rw[Kj,hg1,L7]
    simpa using h3
  ·rintro Z S2 ⟨⟨a3,a4,rfl⟩,⟨U,e2,h2⟩,el2,k2⟩;rw[Jp,Kx]at h2;exact hK _ _ (st (k _ U S2 e2 h2 k1.len k2))
end
abbrev bB:Ss:=
 #v[.loop (.nm 6) (.rng2 #v[.bi .len #v[.v 5],.bi .len #v[.v 3]]) #v[.set 7 (.lst .nil),.loop (.nm 8) (.rng #v[.bi .len #v[.ix (.v 1) (.c (.int 1))]]) #v[.set 9 (.lst .nil),.loop (.nm 10) (.rng #v[.v 6]) #v[.ex (.me .append (.v 9) #v[.cmp .isin (.tup #v[.tup #v[.ix (.ix (.v 3) (.v 10)) (.c (.int 0)),.tup .nil],.tup #v[.ix (.ix (.v 3) (.v 6)) (.c (.int 0)),.tup #v[.ix (.ix (.ix (.v 3) (.v 6)) (.c (.int 1))) (.v 10)]],.tup #v[.v 4,.tup #v[.ix (.v 5) (.v 10),.v 8]]]) (.v 2)])],.ite (.cmp .notin (.c (.bl true)) (.v 9)) #v[.ex (.me .append (.v 7) #v[.v 8])] .nil],.ite (.cmp .eq (.v 7) (.lst .nil)) #v[.ret (.c .non)] .nil,.set 5 (.op .add (.v 5) (.tup #v[.ix (.v 7) (.own "_law_pick" 2 #v[.v 0,.bi .len #v[.v 7]])]))],.ret (.v 5)]
def Aa {S:aa}{l:Jx}{bl:Jn J3}(h:S[l]?=ba (.lst (bl.map W.bl))):∃b,aZ .notin (.bl true) (.ref l) S=ba (.bl b,S):=by
 have hf:(bI (.bl true)&&(bl.map W.bl).all bI)=true:=by
  (dsimp only[bI]; simp only[Nr,JQ])
  intro x hx;obtain⟨z,_,rfl⟩:=JF.mp hx;rfl
 show#[!(bl.map W.bl).any λz=>xE z (.bl true),?_]
 (dsimp only[aZ,ik,DP,Bc,eH]; simp only[km h,aq h,hf,Lp,Kg])
section
variable{defs:Jn (JS×Df)}{fuel d:Jx}{S:aa}{r:Jx}{Q:QW}
def sQ (G:Gen defs)(hg:Is defs ("_law_new_ways" : JS) 6 11 bB){m0 b0:W}{N:Jn W}{a n q:Jx}{u:Wd}{mk:JI}{U:Jn (T×W)}(hN:N.length=n)(hn3:n<=3)(hu:GoodW a n u)(hl:u.length<=900)(e:S[q]?=ba (.dic U))(hqr:q≠r)(hf:Fl S r)
  (k:∀w S',(w=.non\/∃to:Jn JI,w=.tup (ae to)/\to.length=u.length/\∀x∈to,0<=x/\x < (n:JI))->Fl S' r->Kp r S S'->Q (w,S')) :
  wO (aP (am defs fuel (d+2)) "_law_new_ways" 6 [.ref r,.tup [m0,.tup N,b0],.ref q,az u,.int mk,.tup []] S) Q:=by
 show ay hg rfl rfl λQ' hR=>?_
 replace k:∀w S',(w=.non\/∃to:Jn JI,w=.tup (ae to)/\to.length=u.length/\∀x∈to,0<=x/\x < (n:JI))->Fl S' r->Kp r S S'->Q' (.rt w,S'):=λw S' h1 h2 h3=>hR _ _ (k w S' h1 h2 h3)
 clear hR;change wZ _ _ bB [ba (.ref r),ba (.tup [m0,.tup N,b0]),ba (.ref q),ba (az u),ba (.int mk),ba (.tup (ae [])),gV,gV,gV,gV,gV] S Q';generalize hR0:W.tup [m0,.tup N,b0]=R;have ul:(u.map bh).length=u.length:=Jp ..;have hqS:=bS e;have hrS:=hf.lt;dsimp only[bB];nofun
 show gp 0 (u.length:JI) (λm Z S'=>∃(to:Jn JI) (a6 a7 a8 a9 a10:Jw W),Z=[ba (.ref r),ba R,ba (.ref q),ba (az u),ba (.int mk),ba (.tup (ae to)),a6,a7,a8,a9,a10]/\to.length=m/\(∀x∈to,0<=x/\x < (n:JI))/\Fl S' r/\Kp r S S') rfl rfl rfl ∅ ?_ ?_ ?_
 ·dsimp only[wE,wA,wV,wG];show aN #[rfl,aN ?_];rw[ul];exact#[rfl,[],_,_,_,_,_,rfl,rfl,(λx hx=>nomatch hx),hf,.refl]
 ·rintro m Z S1 hm ⟨to,a6,a7,a8,a9,a10,rfl,htl,hto,f1,k1⟩ Q2 hn2 hr2;clear hK;rw[NN];have hmu:m < u.length:=∅
  have e1:S1[q]?=ba (.dic U):=k1.get _ _ hqr e;have s1:S.length<=S1.length:=k1.len;have lm:=hu.len m _ (ap (d:=(0,[])) hmu);dsimp only[JG];show st ?_;dsimp only[wS,wE,wA,JG];nofun
  show bT (n:JI) (λx Z S'=>(∃a8 a9 a10,Z=[ba (.ref r),ba R,ba (.ref q),ba (az u),ba (.int mk),ba (.tup (ae to)),ba (.int m),ba (.ref S1.length),a8,a9,a10])/\(∃ls:Jn JI,S'[S1.length]?=ba (.lst (ae ls))/\ls.length<=x/\∀y∈ls,0<=y/\y < (n:JI))/\S'[q]?=ba (.dic U)/\Fl S' r/\Kp r S S') rfl rfl ∅ ?_ ?_ ?_
  ·dsimp only[wE,wA,wV,wG];subst hR0;show ak #v[] rfl (aN ?_)
   rw[hN];exact#[rfl,#[_,_,_,rfl],#[[],ag,JA _,(λy hy=>nomatch hy)],al e1,f1.ka .push,k1.trans .push]
  ·rintro x Z S2 hx ⟨⟨a8,a9,a10,rfl⟩,⟨ls,e2,hll,hls⟩,q2,f2,k2⟩ Q3 hn3' hr3;clear hK;have l2:=bS e2;dsimp only[JG];show st ?_;dsimp only[wS,wE,wA,JG];nofun
   show bT (m:JI) (λi Z S'=>(∃a10,Z=[ba (.ref r),ba R,ba (.ref q),ba (az u),ba (.int mk),ba (.tup (ae to)),ba (.int m),ba (.ref S1.length),ba (.int x),ba (.ref S2.length),a10])/\(∃bl:Jn J3,S'[S2.length]?=ba (.lst (bl.map W.bl))/\bl.length=i)/\S'[S1.length]?=ba (.lst (ae ls))/\S'[q]?=ba (.dic U)/\Fl S' r/\Kp r S S') rfl rfl ∅ #[rfl,#[_,rfl],#[[],ag,rfl],al e2,al q2,f2.ka .push,k2.trans .push] ?_ ?_
   ·rintro i Z S3 hi ⟨⟨a10,rfl⟩,⟨bl,e3,hbl⟩,el3,q3,f3,k3⟩ Q4 hn4 _;clear hK;have hiu:i < u.length:=∅
    have him:i < (u.getD m (0,[])).2.length:=∅
    have hit:i < to.length:=∅
    dsimp only[JG];show st ?_;left;show#[cv e3,?_];show ak (JN i) (ey hiu) (ak #v[] rfl (ak (JN m) (ey hmu) (ak #v[] rfl (ak (JN m) (ey hmu) (ak #v[] rfl (ak (w:=.int ((u.getD m (0,[])).2.getD i 0)) (JN i) (by rw[JL,JB,ap (d:=0) him]; rfl) (ak (w:=.int (to.getD i 0)) (JN i) (by rw[JL]; unfold ae; rw[JB,ap (d:=0) hit]; rfl) ?_)))))))
    show ab (a:=(.bl (bF U (bC [((u.getD i (0,[])).1,[]),((u.getD m (0,[])).1,[(u.getD m (0,[])).2.getD i 0]),(mk,[to.getD i 0,(x:JI)])])).isSome,S3)) ?_ ?_
    ·change aZ .isin (az [((u.getD i (0,[])).1,[]),((u.getD m (0,[])).1,[(u.getD m (0,[])).2.getD i 0]),(mk,[to.getD i 0,(x:JI)])]) (.ref q) S3=_;simp only[aZ,ci q3,oH]; rfl
    show jV e3 (by rw[Jp]; omega) (bA (hn4 _ _ #[#[_,rfl],#[bl++[(bF U (bC [((u.getD i (0,[])).1,[]),((u.getD m (0,[])).1,[(u.getD m (0,[])).2.getD i 0]),(mk,[to.getD i 0,(x:JI)])])).isSome],?_,by rw[JC,hbl]; rfl],?_,?_,f3.own ∅,k3.late ∅]))
    ·rw[aT e3,J0]; rfl
    ·rw[be ∅]; exact el3
    ·rw[be ∅]; exact q3
   ·rintro Z S3 ⟨⟨a10,rfl⟩,⟨bl,e3,hbl⟩,el3,q3,f3,k3⟩;show hK _ _ ?_;clear hK K;nofun
    dsimp only[wS,wT,wE,wA,wV,wG];obtain⟨b,eb⟩:=Aa e3;show ab eb ?_;dsimp only[wB];show au (Q0:=Q3) (λ_ Q5 hn5 _=>?_) (λ_ Q5 hn5 _=>bA (hn5 _ _ (hK _ _ (bA (hn3' _ _ #[#[_,_,_,rfl],#[ls,el3,∅,hls],q3,f3,k3])))))
    show st ?_;left;show#[cv el3,jV el3 (by unfold ae; rw[Jp]; omega) (bA (hn5 _ _ (hK _ _ (bA (hn3' _ _ #[#[_,_,_,rfl],#[ls++[(x:JI)],?_,by rw[JC,KD]; omega,λy hy=>?_],?_,f3.own ∅,k3.late ∅])))))]
    ·rw[aT el3]; unfold ae; rw[J0]; rfl
    ·rcases Kc.mp hy with h|h
     ·exact hls y h
     ·rw[JK.mp h]; omega
    ·rw[be ∅]; exact q3
  ·rintro Z S2 ⟨⟨a8,a9,a10,rfl⟩,⟨ls,e2,hll,hls⟩,q2,f2,k2⟩;show hK _ _ ?_;clear hK K;rw[JL]at hll;nofun
   dsimp only[wS,wT,wE,wA,wV,wG];show ab (CZ (al e2) ag) ?_;dsimp only[wB];show au (Q0:=Q2) (λ_ Q5 _ hr5=>?_) (λhne Q5 hn5 _=>bA (hn5 _ _ (hK _ _ ?_)))
   ·show st ?_;dsimp only[wS,wE];exact hr5 _ _ (hr2 _ _ (k _ _ (.inl rfl) (f2.ka .push) (k2.trans .push)))
   clear hn5 hK;have hpos:0 < ls.length:=by
    cases ls with
    | nil=>cases hne
    | cons _ _=>simp
   show st ?_;left;have e2':=al (u:=O.lst []) e2;show eu e2' ?_;rw[show(ae ls).length=ls.length from Jp ..]
   show aM (d:=d) G.pick (f2.ka .push) ∅ ∅ λv S4 v0 v1 f4 k4=>?_
   have hv:v.toNat < ls.length:=∅
   have e4:=k4.get _ _ (by have:=bS e2; omega) e2'
   show fq (w:=.int ls[v.toNat]) e4 v0 (by unfold ae; rw[JB,Jy hv]; rfl) ?_
   show ab (gh (ma (by rw[JC,show(ae to).length=to.length from Jp ..]; show _+1<=_; omega))) (bA (hn2 _ _ #[to++[ls[v.toNat]],ba (.int m),ba (.ref S1.length),a8,a9,a10,?_,by rw[JC,htl]; rfl,λy hy=>?_,f4,(k2.trans .push).trans k4]))
   ·rw[show ae to++[W.int ls[v.toNat]]=ae (to++[ls[v.toNat]]) by unfold ae; rw[J0]; rfl]
   ·rcases Kc.mp hy with h|h
    ·exact hto y h
    ·rw[JK.mp h]; exact hls _ (Kd hv)
 ·rintro Z S1 ⟨to,a6,a7,a8,a9,a10,rfl,htl,hto,f1,k1⟩;show hK _ _ (st ?_);dsimp only[wS,wE,wV,wG];exact k _ _ (.inr #[to,rfl,∅,hto]) f1 k1
end
abbrev dD:Ss:=
 #v[.set 4 (.tup .nil),.loop (.nm 5) (.rng #v[.v 3]) #v[.set 6 (.own "_law_pick" 2 #v[.v 0,.bi .len #v[.ix (.v 1) (.c (.int 0))]]),.set 7 (.own "_law_new_ways" 6 #v[.v 0,.v 1,.v 2,.v 4,.v 6,.tup .nil]),.ite (.cmp .isnot (.v 7) (.c .non)) #v[.set 4 (.op .add (.v 4) (.tup #v[.tup #v[.v 6,.v 7]]))] .nil],.ret (.v 4)]
abbrev b8:Ss:=
 #v[.ret (.own "first_three" 2 #v[.own "barred_threes" 1 #v[.v 0],.v 1])]
section
variable{defs:Jn (JS×Df)}{fuel d:Jx}{S:aa}{r:Jx}{Q:QW}
def Cv (G:Gen defs)(hw:Is defs ("_law_new_ways" : JS) 6 11 bB)(hg:Is defs ("_law_world" : JS) 4 8 dD){tv N:Jn W}{b0:W}{a n q many:Jx}{U:Jn (T×W)}(hM:tv.length=a)(ha1:0 < a)(ha3:a<=3)(hN:N.length=n)(hn3:n<=3)(hm:many<=900)(e:S[q]?=ba (.dic U))(hqr:q≠r)(hf:Fl S r)
  (k:∀(u:Wd) S',u.length<=many->GoodW a n u->Fl S' r->Kp r S S'->Q (az u,S')) :
  wO (aP (am defs fuel (d+3)) "_law_world" 4 [.ref r,.tup [.tup tv,.tup N,b0],.ref q,.int many] S) Q:=by
 show ay hg rfl rfl λQ' hR=>?_
 replace k:∀(u:Wd) S',u.length<=many->GoodW a n u->Fl S' r->Kp r S S'->Q' (.rt (az u),S'):=λu S' h1 h2 h3 h4=>hR _ _ (k u S' h1 h2 h3 h4)
 clear hR;change wZ _ _ dD [ba (.ref r),ba (.tup [.tup tv,.tup N,b0]),ba (.ref q),ba (.int many),gV,gV,gV,gV] S Q';generalize hR0:W.tup [.tup tv,.tup N,b0]=R;dsimp only[dD];show st ?_;dsimp only[wS,wE,wA,JG];nofun
 show bT (many:JI) (λi Z S'=>∃(u:Wd) (a5 a6 a7:Jw W),Z=[ba (.ref r),ba R,ba (.ref q),ba (.int many),ba (az u),a5,a6,a7]/\u.length<=i/\GoodW a n u/\Fl S' r/\Kp r S S') rfl rfl ∅ #[rfl,[],_,_,_,rfl,JA _,.nil,hf,.refl] ?_ ?_
 ·rintro i Z S1 hi ⟨u,a5,a6,a7,rfl,hul,hu,f1,k1⟩ Q2 hn _;clear hK;have e1:=k1.get _ _ hqr e;dsimp only[JG];show st ?_;left;subst hR0;show ak #v[] rfl (aN ?_)
  rw[hM];show aM (d:=d+1) G.pick f1 ∅ ∅ λv S2 v0 v1 f2 k2=>?_
  have e2:=k2.get _ _ hqr e1;show st ?_;left;show sQ (d:=d) G hw hN hn3 hu ∅ e2 hqr f2 λw S3 hw3 f3 k3=>?_
  nofun
  dsimp only[wS,wT,wE,wA,wV,wG];rcases hw3 with rfl|⟨to,rfl,htl,hto⟩
  ·show ab (show aZ .isnot .non .non S3=ba (.bl false,S3)from rfl) ?_
   dsimp only[wB];exact au (Q0:=Q2) (λz=>by cases z) (λ_ Q5 hn5 _=>bA (hn5 _ _ (hK _ _ (bA (hn _ _ #[u,_,_,_,rfl,∅,hu,f3,(k1.trans k2).trans k3])))))
  ·show ab (show aZ .isnot (.tup (ae to)) .non S3=ba (.bl true,S3)from rfl) ?_
   dsimp only[wB];show au (Q0:=Q2) (λ_ Q5 hn5 _=>?_) (λz=>by cases z)
   show st ?_;dsimp only[wS,wE,wA,wV,wG,JG,az];show ab (gh (ma (by rw[JC,Jp]; show _+1<=_; omega))) (bA (hn5 _ _ (hK _ _ (bA (hn _ _ #[u++[(v,to)],ba (.int i),ba (.int v),ba (.tup (ae to)),?_,?_,hu.snoc #[v0,v1] htl hto,f3,(k1.trans k2).trans k3])))))
   ·unfold az;rw[J0]; rfl
   ·rw[JC,KD]; omega
 ·rintro Z S1 ⟨u,a5,a6,a7,rfl,hul,hu,f1,k1⟩;rw[JL]at hul;show hK _ _ (st ?_);dsimp only[wS,wE,wV,wG];exact k u S1 hul hu f1 k1
def lM (hfu:20 < fuel)(P:Parts defs)(hp:Is defs ("part" : JS) 3 3 gr)(hl:Is defs ("longer_orders" : JS) 2 4 aJ)(hbt:Is defs ("barred_threes" : JS) 1 5 aU)(h3:Is defs ("three_at" : JS) 4 6 bu)(hft:Is defs ("first_three" : JS) 2 5 bM)(hg:Is defs ("first_barred" : JS) 2 2 b8)
  {m0:W} {ns:Jn JS} {bs:Jn JI} {a:Jx} {gs:Jn Wd} {u:Wd} (hb:GoodB bs) (hnl:ns.length=bs.length) (hgs:∀g∈gs,GoodW a bs.length g/\g.length=3) (h64:gs.length<=100) (hu:GoodW a bs.length u) (hul:u.length<=1000)
  (k:∀w S',Ans (λi j k=>decide (bC (b7 u i j k)∈(cu bs gs).map bC)) u.length w->Ka S S'->Q (w,S')) :
  wO (aP (am defs fuel (d+5)) "first_barred" 2 [.tup [m0,.tup (JV aQ ns bs),.tup (gs.map az)],az u] S) Q:=by
 show ay hg rfl rfl λQ' hR=>?_
 change wZ _ _ b8 [ba (.tup [m0,.tup (JV aQ ns bs),.tup (gs.map az)]),ba (az u)] S Q';dsimp only[b8];show st ?_;left;show rh (d:=d) hfu P hp hl hbt hb hnl hgs h64 λq U S1 e1 h1 _ k1=>?_
 show md (d:=d+2) h3 hft hu hul e1 λw hw=>hR _ _ (k w S1 ?_ k1)
 exact hw.congr λi j k _ _ _=>h1.get _
end
def fA {n:Jx}{x:JI}(h:x∈lC n):0<=x/\x < n:=by
 obtain⟨k,hk,rfl⟩:=JF.mp h;have:=JT.mp hk;omega
def sR {a n:Jx}{u:Wd}(h:u∈qJ a n):GoodW a n u/\u.length=3:=by
 unfold qJ at h;simp only[K4,JF]at h;obtain⟨m0,h0,m1,h1,m2,h2,w1,g1,w2,g2,w3,g3,rfl⟩:=h;show#[?_,rfl];have s1:GoodW a n ([]++[(m0,[])]):=GoodW.nil.snoc (fA h0) rfl (λw hw=>nomatch hw)
 have s2:GoodW a n ([(m0,[])]++[(m1,[w1])]):=s1.snoc (fA h1) rfl (λw hw=>by rw[JK.mp hw]; exact fA g1)
 exact s2.snoc (fA h2) rfl (λw hw=>by
  simp only[JR,Kh,Lu]at hw;rcases hw with rfl|rfl
  ·exact fA g2
  ·exact fA g3)
def wF {a:Jx}{bs:Jn JI}{g:Wd}(hb:GoodB bs)(h:g∈aO a bs):GoodW a bs.length g/\g.length=3:=by
 unfold aO at h;rw[OD]at h;obtain⟨u,hu,rfl⟩:=JF.mp h;obtain⟨gu,u3⟩:=sR hu;unfold jC;have hm:ip ((ar.map (ah bs u)).map bC) < (ar.map (ah bs u)).length:=by
  unfold ip;show NA (de _ _) ?_;rw[Jp,Jp]; decide
 have:=JJ (ap (d:=[]) hm);obtain⟨t,ht,e⟩:=JF.mp this;rw[<- e];have tk:∀t∈ar,t.length=3/\t.Nodup/\∀p∈t,p < 3:=by decide
 obtain⟨t1,t2,t3⟩:=tk t ht;exact#[cp hb gu (λp hp=>by have:=t3 p hp; omega) t2,by rw[aD]; exact t1]
abbrev eR (U:Jn (T×W))(u:Wd)(h:Pt)(p q:Jx):J3:=(bF U (bC [((u.getD p (0,[])).1,[]),((u.getD q (0,[])).1,[(u.getD q (0,[])).2.getD p 0]),(h.1,[h.2.getD p 0,h.2.getD q 0])])).isSome
def ce {u:Wd}{h:Pt}{p:Jx}(hp:p < u.length):(u++[h]).getD p (0,[])=u.getD p (0,[]):=by
 rw[JY,JY,Ku hp]
def iH {u:Wd}{h:Pt}:(u++[h]).getD u.length (0,[])=h:=by
 rw[JY,LO (JA _),Nat.sub_self]; rfl
def rj {U:Jn (T×W)}{u:Wd}{h:Pt}{p q:Jx}(h1:p < q)(h2:q < u.length):jI U (u++[h]) p q u.length=eR U u h p q:=by
 unfold jI eR b7;rw[ce (O8 h1 h2),ce h2,iH]
def lN {u:Wd}{p s:Jx}(h:p < s):(u.take s).getD p (0,[])=u.getD p (0,[]):=by
 rw[JY,JY,No h]
abbrev j6 (U:Jn (T×W))(v:Wd):J3:=(JW (v.length - 2)).all λp=>!jI U v p (v.length - 2) (v.length - 1)
def nr {U:Jn (T×W)}{u:Wd}{h:Pt}{s:Jx}(hs:s < u.length):j6 U (u.take (s+1)++[h])=(JW s).all λp=>!eR U u h p s:=by
 have hl:(u.take (s+1)).length=s+1:=by rw[Kn]; omega
 unfold j6;rw[JC,hl,KD,show s+1+1 - 2=s by omega,show s+1+1 - 1=s+1 by omega,N8,JQ,JQ]
 show Qc λp=>Qc λhp=>?_
 have hp:=JT.mp hp;have e:=rj (U:=U) (u:=u.take (s+1)) (h:=h) (p:=p) (q:=s) hp ∅
 rw[hl]at e;rw[e];unfold eR;rw[lN ∅,lN ∅]
abbrev cN (n:Jx)(hs:Jn Pt):Jn Pt:=hs.flatMap λh=>(JW n).map λ(w:Jx)=>(h.1,h.2++[(w:JI)])
abbrev cw (U:Jn (T×W))(u:Wd)(n:Jx)(m:JI):Jx->Jn Pt
 | 0=>[(m,[])]
 | s+1=>(cN n (cw U u n m s)).filter λh=>j6 U (u.take (s+1)++[h])
abbrev aI (U:Jn (T×W))(u:Wd)(a n:Jx):Jn Pt:=(JW a).flatMap λ(m:Jx)=>cw U u n (m:JI) u.length
def lO {ws:Jn JI}{x:JI}{p:Jx}(hp:p < ws.length):(ws++[x]).getD p 0=ws.getD p 0:=by
 rw[JY,JY,Ku hp]
def fN {U:Jn (T×W)}{u:Wd}{m x:JI}{ws:Jn JI}{p q:Jx}(h1:p < q)(h2:q < ws.length):eR U u (m,ws++[x]) p q=eR U u (m,ws) p q:=by
 unfold eR;dsimp only;rw[lO (O8 h1 h2),lO h2]
def cU {U:Jn (T×W)}{u:Wd}{n:Jx}{m:JI}:∀ {s:Jx} {h:Pt},s<=u.length->(h∈cw U u n m s↔h.1=m/\h.2.length=s/\(∀w∈h.2,0<=w/\w < (n:JI))/\∀p q,p < q->q < s->eR U u h p q=false)
 | 0,h,_=>by
  rw[cw,JK];constructor
  ·rintro rfl;exact#[rfl,rfl,(λw hw=>nomatch hw),λp q _ h=>absurd h (Nat.not_lt_zero _)]
  ·rintro⟨h1,h2,_⟩;rw[<- h1,<- L3 h2]
 | s+1,h,hs=>by
  rw[cw,LD,nr ∅,JQ]
  unfold cN;rw[K4];constructor
  ·rintro⟨⟨h0,hm,hw⟩,hb⟩;obtain⟨w,hwr,rfl⟩:=JF.mp hw;obtain⟨h1,h2,h3,h4⟩:=(cU ∅).mp hm
   have hwr:=JT.mp hwr;show#[h1,by rw[JC,h2]; rfl,λx hx=>?_,λp q hpq hq=>?_]
   ·rcases Kc.mp hx with z|z
    ·exact h3 x z
    ·rw[JK.mp z]; omega
   ·by_cases e:q=s
    ·subst e;have:=hb p (JT.mpr hpq)
     simpa using this
    ·rw[fN hpq ∅]; exact h4 p q hpq ∅
  ·rintro⟨h1,h2,h3,h4⟩;obtain⟨m',ws⟩:=h;dsimp only at h1 h2 h3 h4;have hne:ws≠[]:=λz=>by rw[z]at h2; cases h2
   have hd:=MV hne;have hx:=h3 _ (Rk hne);generalize ws.getLast hne=x at hd hx;have hdl:ws.dropLast.length=s:=by rw[N4]; omega
   generalize ws.dropLast=vs at hd hdl;subst hd;show#[#[(m',vs),(cU ∅).mpr #[h1,hdl,λw hw=>h3 w (KU _ hw),λp q hpq hq=>?_],?_],λp hp=>?_]
   ·rw[<- fN (x:=x) hpq ∅]; exact h4 p q hpq ∅
   ·exact JF.mpr #[x.toNat,JT.mpr ∅,by dsimp only; rw[show((x.toNat:Jx):JI)=x by omega]]
   ·rw[h4 p s (JT.mp hp) ∅]; rfl
def gN {U:Jn (T×W)}{u:Wd}{n:Jx}{m:JI}:∀s:Jx,(cw U u n m s).length<=n ^ s
 | 0=>JA _
 | s+1=>by
  rw[cw];show J6 (Ml _ _) ?_;have:=gN (U:=U) (u:=u) (n:=n) (m:=m) s;have e:∀hs:Jn Pt,(cN n hs).length=hs.length*n:=λhs=>by
   unfold cN
   induction hs with
   | nil=>simp
   | cons h hs ih=>rw[Le,JC,ih,Jp,J9,Kr,NH]; omega
  rw[e,Pf];exact Nb _ this
def nu {n:Jx}(hs:Jn Pt):(cN n hs).length=hs.length*n:=by
 unfold cN
 induction hs with
 | nil=>simp
 | cons h hs ih=>rw[Le,JC,ih,Jp,J9,Kr,NH]; omega
def eC {U:Jn (T×W)}{u:Wd}{a n:Jx}{h:Pt}:h∈aI U u a n↔(0<=h.1/\h.1 < a)/\h.2.length=u.length/\(∀w∈h.2,0<=w/\w < (n:JI))/\∀p q,p < q->q < u.length->eR U u h p q=false:=by
 unfold aI;rw[K4];constructor
 ·rintro⟨m,hm,hh⟩;obtain⟨h1,h2⟩:=(cU (JA _)).mp hh;have:=JT.mp hm;exact#[∅,h2]
 ·rintro⟨h1,h2⟩;exact#[h.1.toNat,JT.mpr ∅,(cU (JA _)).mpr #[∅,h2]]
abbrev cf:Ss:=
 #v[.set 2 (.op .sub (.bi .len #v[.v 1]) (.c (.int 1))),.loop (.nm 3) (.rng #v[.op .sub (.v 2) (.c (.int 1))]) #v[.ite (.cmp .isin (.own "three_at" 4 #v[.v 1,.v 3,.op .sub (.v 2) (.c (.int 1)),.v 2]) (.v 0)) #v[.ret (.v 3)] .nil],.ret (.c .non)]
abbrev gy:Ss:=
 #v[.ret (.own "wishes_over" 3 #v[.v 0,.own "barred_threes" 1 #v[.v 0],.v 1])]
abbrev bN:Ss:=
 #v[.set 3 (.lst .nil),.loop (.nm 4) (.rng #v[.bi .len #v[.ix (.v 0) (.c (.int 0))]]) #v[.set 5 (.lst #v[.tup #v[.v 4,.tup .nil]]),.loop (.nm 6) (.rng2 #v[.c (.int 1),.op .add (.bi .len #v[.v 2]) (.c (.int 1))]) #v[.set 5 (.comp (.v 1) (.nm 1) (.seq (.own "longer_wishes" 2 #v[.v 0,.v 5])) #v[.cmp .is (.own "first_bar" 2 #v[.v 2,.op .add (.sl (.v 4) .no (.yes (.v 3))) (.tup #v[.v 1])]) (.c .non)] [gV,gV,ba 1,ba 6,ba 2])],.ex (.me .extend (.v 3) #v[.v 5])],.ret (.v 3)]
abbrev aV:Ss:=
 #v[.set 2 (.lst .nil),.loop (.tp [3,4]) (.seq (.v 1)) #v[.ex (.me .extend (.v 2) #v[.comp (.tup #v[.v 2,.op .add (.v 3) (.tup #v[.v 1])]) (.nm 1) (.rng #v[.bi .len #v[.ix (.v 0) (.c (.int 1))]]) .nil [gV,gV,ba 3,ba 4]])],.ret (.v 2)]
def rm {U:Jn (T×W)}{v:Wd}{s:Jx}(hs:v.length=s+2):j6 U v=true↔∀i < s,jI U v i s (s+1)=false:=by
 unfold j6;rw[hs,show s+2 - 2=s from rfl,show s+2 - 1=s+1 from rfl,JQ]
 show Qc λi=>?_
 rw[JT,M0]
def gO {a n s:Jx}{u:Wd}(hu:GoodW a n u):GoodW a n (u.take s):=by
 have key:∀(k:Jx) (x:Pt),(u.take s)[k]?=ba x->u[k]?=ba x:=λk x e=>by
  rw[List.getElem?_take]at e;split at e
  ·exact e
  ·cases e
 exact#[λk x e=>hu.mark k x (key k x e),λk x e=>hu.len k x (key k x e),λk x e=>hu.way k x (key k x e)]
section
variable{defs:Jn (JS×Df)}{fuel d:Jx}{S:aa}{Q:QW}
def rn (h3:Is defs ("three_at" : JS) 4 6 bu)(hg:Is defs ("first_bar" : JS) 2 4 cf){a n q:Jx}{v:Wd}{U:Jn (T×W)}(hv:GoodW a n v)(h2:2<=v.length)(hl:v.length<=1000)(e:S[q]?=ba (.dic U))(k:∀w,((w=.non/\j6 U v=true)\/∃i:JI,w=.int i/\j6 U v=false)->Q (w,S)) :
  wO (aP (am defs fuel (d+2)) "first_bar" 2 [.ref q,az v] S) Q:=by
 show ay hg rfl rfl λQ' hR=>?_
 replace k:∀w,((w=.non/\j6 U v=true)\/∃i:JI,w=.int i/\j6 U v=false)->Q' (.rt w,S):=λw h=>hR _ _ (k w h)
 clear hR;change wZ _ _ cf [ba (.ref q),ba (az v),gV,gV] S Q';have ul:(v.map bh).length=v.length:=Jp ..;obtain⟨s,hs⟩ : ∃s,v.length=s+2:=#[v.length - 2,∅]
 dsimp only[cf];show st ?_;left;show aN (ab qC ?_);rw[ul,show((v.length:Jx):JI) - 1=((s+1:Jx):JI) by omega]
 nofun
 show bT (s:JI) (λi Z S'=>(∃a3,Z=[ba (.ref q),ba (az v),ba (.int ((s+1:Jx):JI)),a3])/\S'=S/\∀i' < i,jI U v i' s (s+1)=false) rfl rfl ∅ ?_ ?_ ?_
 ·dsimp only[wE,wV,wG];show ab qC #[?_,#[_,rfl],rfl,λi' z=>∅]
  dsimp only;rw[show((s+1:Jx):JI) - 1=(s:JI) by omega]
 ·rintro i Z S1 hi ⟨⟨a3,rfl⟩,rfl,no⟩ Q2 hn hr;clear hK;dsimp only[JG];nofun
  dsimp only[wS,wT,wE,wA,wV,wG];show ab qC ?_;dsimp only;rw[show((s+1:Jx):JI) - 1=(s:JI) by omega]
  show uT (d:=d) h3 hv ∅ (K2 s) ∅ ?_
  show ab (show aZ .isin (az (b7 v i s (s+1))) (.ref q) S1=ba (.bl (jI U v i s (s+1)),S1) by simp only[aZ,ci e,oH]; rfl) ?_
  dsimp only[wB];show au (Q0:=Q2) (λh Q5 _ hr5=>?_) (λh Q5 hn5 _=>bA (hn5 _ _ (hK _ _ (bA (hn _ _ #[#[_,rfl],rfl,λi' z=>?_])))))
  ·show st ?_;dsimp only[wS,wE,wV,wG];show hr5 _ _ (hr _ _ (k _ (.inr #[i,rfl,?_])));rw[QP];intro z;rw[(rm hs).mp z i ∅]at h
   cases h
  ·by_cases ei:i'=i
   ·rw[ei]; exact h
   ·exact no i' ∅
 ·rintro Z S1 ⟨⟨a3,rfl⟩,rfl,no⟩;show hK _ _ (st ?_);dsimp only[wS,wE];exact k _ (.inl #[rfl,(rm hs).mpr no])
def j7 (hg:Is defs ("longer_wishes" : JS) 2 5 aV){m0 b0:W}{N:Jn W}{n l:Jx}{hs:Jn Pt}(hN:N.length=n)(hn:n<=3)(e:S[l]?=ba (.lst (hs.map bh)))(hol:∀h∈hs,h.2.length<=100)(hos:hs.length<=10000)
  (k:∀(q:Jx) (S':aa),S'[q]?=ba (.lst ((cN n hs).map bh))->S.length<=q->Ka S S'->Q (.ref q,S')) :
  wO (aP (am defs fuel (d+1)) "longer_wishes" 2 [.tup [m0,.tup N,b0],.ref l] S) Q:=by
 show ay hg rfl rfl λQ' hR=>?_
 replace k:∀(q:Jx) (S':aa),S'[q]?=ba (.lst ((cN n hs).map bh))->S.length<=q->Ka S S'->Q' (.rt (.ref q),S'):=λa b c e f=>hR _ _ (k a b c e f)
 clear hR;change wZ _ _ aV [ba (.tup [m0,.tup N,b0]),ba (.ref l),gV,gV,gV] S Q';generalize hR0:W.tup [m0,.tup N,b0]=R;have hlS:=bS e;dsimp only[aV];show st ?_;dsimp only[wS,wE,wA,JG];nofun
 show oG l (hs.map bh) (λi Z S'=>(∃a3 a4,Z=[ba R,ba (.ref l),ba (.ref S.length),a3,a4])/\S'[l]?=ba (.lst (hs.map bh))/\S'[S.length]?=ba (.lst ((cN n (hs.take i)).map bh))/\Ka S S') rfl rfl #[rfl,#[gV,gV,rfl],al e,ag,.push] (λi Z S' h=>h.2.1) ?_ ?_
 ·rintro i w Z S1 hw ⟨⟨a3,a4,rfl⟩,e0,e1,k1⟩;clear hK k;rw[JB,Js]at hw;obtain⟨h,ho,rfl⟩:=hw;have hol:=hol h (JJ ho);show ab (show fZ (.tp [3,4]) (bh h) [ba R,ba (.ref l),ba (.ref S.length),a3,a4] S1=ba ([ba R,ba (.ref l),ba (.ref S.length),ba (.int h.1),ba (.tup (ae h.2))],S1)from rfl) ?_
  intro Q2 hn2 _;show st ?_;left;show#[cv e1,?_];show EJ n (λ_=>true) (λ(w:Jx)=>bh (h.1,h.2++[(w:JI)])) [ba (.int h.1),ba (.tup (ae h.2))] rfl rfl rfl rfl ∅ ?_ (λx hx S2 k2=>?_) λS2 k2=>?_
  ·dsimp only[wE,wA,wV,wG];subst hR0;show ak #v[] rfl (aN ?_)
   rw[hN];exact#[rfl,.refl]
  ·dsimp only[fP,wC,wE,wA,wV,wG];show#[λ_=>ab (gh (ma ?_)) #[rfl,?_,.refl],λz=>by cases z]
   ·rw[JC,show(ae h.2).length=h.2.length from Jp ..]; show _+1<=_; omega
   ·simp[bh,ae]
  ·rw[jf];have e1':=al (u:=O.lst ((JW n).map λ(w:Jx)=>bh (h.1,h.2++[(w:JI)]))) (k2.get _ _ e1)
   have hle:(cN n (hs.take i)).length<=30000:=by
    rw[nu,Kn];exact J6 (NQ (show min i hs.length<=10000 by omega) hn) #v[]
   show sM e1' ag (by rw[Jp,Jp,J9]; omega) (bA (hn2 _ _ #[#[_,_,rfl],?_,?_,((k1.trans k2).trans .push).late (JA _)]))
   ·rw[be ∅]; exact al (k2.get _ _ e0)
   ·rw[aT e1'];unfold cN;rw[Kj,ho];simp
 ·rintro Z S1 ⟨⟨a3,a4,rfl⟩,e0,e1,k1⟩;rw[Jp,Kx]at e1;exact hK _ _ (st (k _ _ e1 (JA _) k1))
def oY {n s:Jx}(hn:n<=3)(hs:s<=5):n ^ s<=243:=J6 (MB hn s) (Ms (n:=3) #v[] hs)
def sS {U:Jn (T×W)}{u:Wd}{n i:Jx}(hn:n<=3)(hu:u.length<=5):((JW i).flatMap λ(m:Jx)=>cw U u n (m:JI) u.length).length<=i*243:=by
 induction i with
 | zero=>simp
 | succ i ih=>
  rw[Mq,L7,JC,Le,List.flatMap_nil,Li];have:=J6 (gN (U:=U) (u:=u) (n:=n) (m:=(i:Jx)) u.length) (oY hn hu);omega
def mf (h3:Is defs ("three_at" : JS) 4 6 bu)(hfb:Is defs ("first_bar" : JS) 2 4 cf)(hlw:Is defs ("longer_wishes" : JS) 2 5 aV)(hg:Is defs ("wishes_over" : JS) 3 7 bN){tv N:Jn W}{b0:W}{a n q:Jx}{u:Wd}{U:Jn (T×W)}(hM:tv.length=a)(hN:N.length=n)(ha3:a<=3)(hn3:n<=3)(hu:GoodW a n u)(hul:u.length<=5)(e:S[q]?=ba (.dic U))
  (k:∀(l:Jx) (S':aa),S'[l]?=ba (.lst ((aI U u a n).map bh))->S.length<=l->Ka S S'->Q (.ref l,S')) :
  wO (aP (am defs fuel (d+3)) "wishes_over" 3 [.tup [.tup tv,.tup N,b0],.ref q,az u] S) Q:=by
 show ay hg rfl rfl λQ' hR=>?_
 replace k:∀(l:Jx) (S':aa),S'[l]?=ba (.lst ((aI U u a n).map bh))->S.length<=l->Ka S S'->Q' (.rt (.ref l),S'):=λa b c e f=>hR _ _ (k a b c e f)
 clear hR;change wZ _ _ bN [ba (.tup [.tup tv,.tup N,b0]),ba (.ref q),ba (az u),gV,gV,gV,gV] S Q';generalize hR0:W.tup [.tup tv,.tup N,b0]=R;have hqS:=bS e;have ul:(u.map bh).length=u.length:=Jp ..;dsimp only[bN];show st ?_;dsimp only[wS,wE,wA,JG];nofun
 show bT (a:JI) (λi Z S'=>(∃a4 a5 a6,Z=[ba R,ba (.ref q),ba (az u),ba (.ref S.length),a4,a5,a6])/\S'[S.length]?=ba (.lst (((JW i).flatMap λ(m:Jx)=>cw U u n (m:JI) u.length).map bh))/\Ka S S') rfl rfl ∅ ?_ ?_ ?_
 ·dsimp only[wE,wA,wV,wG];subst hR0;show ak #v[] rfl (aN ?_)
  rw[hM];exact#[rfl,#[_,_,_,rfl],ag,.push]
 ·rintro i Z S1 hi ⟨⟨a4,a5,a6,rfl⟩,e1,k1⟩ Q2 hn2 _;clear hK k;have hl1:=bS e1;dsimp only[JG];show st ?_;left;nofun
  show gp 1 ((u.length:JI)+1) (λm Z S'=>∃(t:Jx) (a6:Jw W),Z=[ba R,ba (.ref q),ba (az u),ba (.ref S.length),ba (.int i),ba (.ref t),a6]/\S'[t]?=ba (.lst ((cw U u n i m).map bh))/\Ka S1 S') rfl rfl rfl ∅ ?_ ?_ ?_
  ·dsimp only[wE,wA,wV,wG];show#[rfl,aN (ab cQ ?_)];rw[ul];exact#[rfl,S1.length,a6,rfl,ag,.push]
  ·rintro m Z S2 hm ⟨t,a6,rfl,e2,k2⟩ Q3 hn3 _;clear hK hn2;have hmu:m < u.length:=∅
   rw[show(1:JI)+m=((m+1:Jx):JI) by omega]
   have hhl:(cw U u n i m).length<=243:=J6 (gN m) (oY ‹n<=3› ∅)
   have hll:(cN n (cw U u n i m)).length<=729:=by rw[nu]; exact NQ hhl ‹n<=3›
   dsimp only[JG];show st ?_;dsimp only[wS,wE,JG];show zZ (cN n (cw U u n i m)) bh (λh=>j6 U (u.take (m+1)++[h])) bh [ba (.ref q),ba (.int ((m+1:Jx):JI)),ba (az u)] rfl rfl rfl rfl ∅ ?_ (λh hh S4 k4=>?_) λS4 k4=>?_
   ·dsimp only[wE,wA,wV,wG];subst hR0;exact j7 (d:=d+1) hlw hN ‹n<=3› e2 (λh hh=>by have:=((cU ∅).mp hh).2.1; omega) ∅ λl S3 e3 _ k3=>#[l,rfl,e3,k3]
   ·have hgd:GoodW a n (u.take (m+1)++[h]):=by
     unfold cN at hh;obtain⟨h0,hm0,hw⟩:=K4.mp hh;obtain⟨w,hwr,rfl⟩:=JF.mp hw;obtain⟨g1,g2,g3,_⟩:=(cU ∅).mp hm0
     have hwr:=JT.mp hwr;show(gO hu).snoc (by rw[g1]; omega) (by rw[JC,g2,Kn,KD]; omega) λx hx=>?_
     rcases Kc.mp hx with z|z
     ·exact g3 x z
     ·rw[JK.mp z]; omega
    have hvl:(u.take (m+1)++[h]).length=m+2:=by rw[JC,Kn,KD]; omega
    dsimp only[fP,wC,wT,wE,wA,wP,wV,wG,wN];show ab (show ph (az u) gV (ba ((m+1:Jx):JI)) S4=ba (.tup ((u.map bh).take (m+1)),S4) by simp only[az,ph,gm]) ?_
    dsimp only;have ev:(u.map bh).take (m+1)++[bh h]=(u.take (m+1)++[h]).map bh:=by rw[J0,Nu]; rfl
    show ab (gh (ma (by rw[ev,Jp]; omega))) ?_
    dsimp only;rw[ev];show rn (d:=d) (v:=u.take (m+1)++[h]) h3 hfb hgd ∅ ∅ (k4.get _ _ (k2.get _ _ (k1.get _ _ e))) λw hw=>?_
    show ab (show aZ .is w .non S4=ba (.bl (j6 U (u.take (m+1)++[h])),S4) by rcases hw with⟨rfl,hb⟩|⟨i,rfl,hb⟩ <;> rw[hb] <;> rfl) ?_
    dsimp only[wB];exact#[λz=>#[z,rfl,.refl],λz=>#[z,.refl]]
   ·exact bA (hn3 _ _ #[_,_,rfl,ag,(k2.trans k4).trans .push])
  ·rintro Z S2 ⟨t,a6,rfl,e2,k2⟩;rw[show((u.length:JI)+1 - 1).toNat=u.length by omega]at e2
   show hK _ _ ?_;clear hK K;have e1':=k2.get _ _ e1;have hhl:(cw U u n i u.length).length<=243:=J6 (gN _) (oY hn3 hul);have hfl:=sS (U:=U) (i:=i) hn3 hul;show st ?_;left;show#[cv e1',sM e1' e2 (by rw[Jp,Jp]; omega) (bA (hn2 _ _ #[#[_,_,_,rfl],?_,(k1.trans k2).late (JA _)]))]
   rw[aT e1',Mq,L7,J0];simp
 ·rintro Z S1 ⟨⟨a4,a5,a6,rfl⟩,e1,k1⟩;rw[JL]at e1;exact hK _ _ (st (k _ _ e1 (JA _) k1))
def rq (hfu:20 < fuel)(P:Parts defs)(hp:Is defs ("part" : JS) 3 3 gr)(hl:Is defs ("longer_orders" : JS) 2 4 aJ)(hbt:Is defs ("barred_threes" : JS) 1 5 aU)(h3:Is defs ("three_at" : JS) 4 6 bu)(hfb:Is defs ("first_bar" : JS) 2 4 cf)(hlw:Is defs ("longer_wishes" : JS) 2 5 aV)(hwo:Is defs ("wishes_over" : JS) 3 7 bN)(hg:Is defs ("wishes" : JS) 2 2 gy)
  {ms ns:Jn JS} {bs:Jn JI} {a:Jx} {gs:Jn Wd} {u:Wd} (hml:ms.length=a) (ha3:a<=3) (hb:GoodB bs) (hnl:ns.length=bs.length) (hgs:∀g∈gs,GoodW a bs.length g/\g.length=3) (h64:gs.length<=100) (hu:GoodW a bs.length u) (hul:u.length<=5)
  (k:∀(l:Jx) (U:Jn (T×W)) (S':aa),HasD U (cu bs gs)->S'[l]?=ba (.lst ((aI U u a bs.length).map bh))->S.length<=l->Ka S S'->Q (.ref l,S')) :
  wO (aP (am defs fuel (d+5)) "wishes" 2 [.tup [.tup (ms.map W.str),.tup (JV aQ ns bs),.tup (gs.map az)],az u] S) Q:=by
 show ay hg rfl rfl λQ' hR=>?_
 change wZ _ _ gy [ba (.tup [.tup (ms.map W.str),.tup (JV aQ ns bs),.tup (gs.map az)]),ba (az u)] S Q';have hb3:bs.length<=3:=by rcases hb with rfl|rfl|rfl|rfl|rfl|rfl <;> decide
 dsimp only[gy];show st ?_;left;show rh (d:=d) hfu P hp hl hbt hb hnl hgs h64 λq U S1 e1 h1 _ k1=>?_
 exact mf (d:=d+1) (tv:=ms.map W.str) (N:=JV aQ ns bs) (n:=bs.length) h3 hfb hlw hwo (by rw[Jp,hml]) (by rw[LR,hnl]; omega) ha3 hb3 hu hul e1 λl S2 e2 hl2 k2=>hR _ _ (k l U S2 h1 e2 (J6 k1.len hl2) (k1.trans k2))
end
abbrev rz (U:Jn (T×W))(u:Wd)(s:Jx)(h:Pt):J3:=(JW s).all λq=>(JW q).all λp=>!eR U u h p q
def uU {U:Jn (T×W)}{u:Wd}{s:Jx}{h:Pt}:rz U u s h=true↔∀q < s,∀p < q,eR U u h p q=false:=by
 unfold rz;simp only[JQ,JT,M0]
def lP {α β:Type}{d:α}(n:Jx)(f:α->Jx->β)(h:0 < n):∀xs:Jn α,(JW (xs.length*n)).map (λi=>f (xs.getD (i / n) d) (i % n))=xs.flatMap λx=>(JW n).map (f x)
 | []=>by simp
 | x::xs=>by
  rw[Le,<- lP n f h xs,Kr,NH,SD,List.range_add,J0,La];congr 1
  ·show KG λi hi=>?_
   have hi:=JT.mp hi;rw[Nat.div_eq_of_lt hi,Nat.mod_eq_of_lt hi]; rfl
  ·show KG λi hi=>?_
   dsimp only[Sq];rw[Nat.add_div_left _ h,Nat.add_mod_left]; rfl
def lQ {n k:Jx}(h:0 < n):bm n (k+1)=(bm n k).flatMap λds=>(JW n).map λ(w:Jx)=>ds++[(w:JI)]:=by
 rw[bm];exact lP (d:=[]) n (λds (w:Jx)=>ds++[(w:JI)]) h (bm n k)
def gP {U:Jn (T×W)}{u:Wd}{n:Jx}{m:JI}(h:0 < n):∀s:Jx,s<=u.length->cw U u n m s=((bm n s).map λds=>(m,ds)).filter (rz U u s)
 | 0,_=>rfl
 | s+1,hs=>by
  rw[cw,gP h s ∅,lQ h]
  unfold cN;have len:∀ds∈bm n s,ds.length=s:=λds hd=>(oU hd).1
  generalize bm n s=D at len
  induction D with
  | nil=>rfl
  | cons ds D ih=>
   have ih:=ih λx hx=>len x (KA _ hx)
   have hl:=len ds (KP ..);have st:∀w:Jx,rz U u (s+1) (m,ds++[(w:JI)])=(rz U u s (m,ds)&&j6 U (u.take (s+1)++[(m,ds++[(w:JI)])])):=λw=>by
    rw[nr ∅,N8,Jv,uU,uU,JQ]
    constructor
    ·intro z;show#[λq hq p hp=>?_,λp hp=>?_]
     ·rw[<- fN (x:=(w:JI)) hp ∅]; exact z q ∅ p hp
     ·rw[z s (K2 s) p (JT.mp hp)]; rfl
    ·rintro⟨z1,z2⟩ q hq p hp
     by_cases e:q=s
     ·subst e
      simpa using z2 p (JT.mpr hp)
     ·rw[fN hp ∅]; exact z1 q ∅ p hp
   rw[Le,J0,MS,<- ih,KO,La]
   by_cases hm:rz U u s (m,ds)=true
   ·rw[O2 hm,Le,MS];congr 1;rw[show((λds=>(m,ds))∘λ(w:Jx)=>ds++[(w:JI)])=λ(w:Jx)=>(m,ds++[(w:JI)])from rfl]
    show QQ λx hx=>?_
    obtain⟨w,_,rfl⟩:=JF.mp hx;dsimp only;rw[st w,hm]; rfl
   ·rw[O3 hm];have:((JW n).map ((λds=>(m,ds))∘λ(w:Jx)=>ds++[(w:JI)])).filter (rz U u (s+1))=[]:=by
     rw[List.filter_eq_nil_iff];intro x hx;obtain⟨w,_,rfl⟩:=JF.mp hx;dsimp only[Sq];rw[st w,QP.mpr hm];exact J1
    rw[this,Rv]
def sT {U U':Jn (T×W)}{u:Wd}{a n:Jx}(hn:0 < n)(h:∀t,(bF U t).isSome=(bF U' t).isSome):aI U u a n=aI U' u a n:=by
 unfold aI;show lF λm _=>?_
 rw[gP hn _ (JA _),gP hn _ (JA _)];show QQ λx _=>?_
 have:∀p q,eR U u x p q=eR U' u x p q:=λp q=>h _
 unfold rz;simp only[this]
section
variable{defs:Jn (JS×Df)}{fuel d:Jx}{S:aa}{Q:QW}
def EU {L:Jn Pt}(h:∀p∈L,p.2.length<=1000):∀x∈L.map bh,Tr 2 x:=λx hx=>by
 obtain⟨p,hp,rfl⟩:=JF.mp hx;show#[MZ rfl,λy hy=>?_]
 simp only[JR,Kh,Lu]at hy;rcases hy with rfl|rfl
 ·trivial
 ·show#[by rw[Jp]; exact h p hp,λz hz=>?_]
  obtain⟨w,_,rfl⟩:=JF.mp hz;trivial
end
def rA {bs:Jn JI}{a n:Jx}{u:Wd}(hu:GoodW a n u):∀k,k<=u.length->ah bs u (JW k)=u.take k
 | 0,_=>by simp[ah]
 | k+1,h=>by
  rw[Mq,dg,rA hu k ∅,wp hu ∅,Kj,ap (d:=(0,[])) ∅]; rfl
def uV {bs:Jn JI}{a n:Jx}{u:Wd}(hu:GoodW a n u):ah bs u (JW u.length)=u:=by
 rw[rA hu _ (JA _),Kx]
def G1 {n:Jx}{o:Jn Jx}(h:Ord n o)(hl:o.length=n):∃p,Ord o.length p/\p.length=n/\(p.map λi=>o.getD i 0)=JW n:=by
 show#[(JW n).map λi=>o.idxOf i,#[?_,λp hp=>?_],by rw[Jp,J9],?_]
 ·rw[Lw,Ld];show Sr ?_ (NZ (n:=n));intro x y hx hy hne z;have hx':=dW h hl (JT.mp hx);have hy':=dW h hl (JT.mp hy);have e1:=Mj (Mw.mpr hx');have e2:=Mj (Mw.mpr hy');show hne ?_;rw[<- e1,<- e2];congr 1
 ·obtain⟨i,hi,rfl⟩:=JF.mp hp;exact Mw.mpr (dW h hl (JT.mp hi))
 ·rw[La]
  conv=>rhs; rw[<- SZ (JW n)]
  show KG λi hi=>?_
  have hi':=dW h hl (JT.mp hi);change o.getD (o.idxOf i) 0=i;rw[JY,Jy (Mw.mpr hi'),Mj]; rfl
abbrev lR (bs:Jn JI)(X:Jn Wd):Prop:=∀w∈X,w.length=3->∀t,Ord 3 t->t.length=3->ah bs w t∈X
def gQ {t:Jn Jx}:t∈ar↔Ord 3 t/\t.length=3:=by
 constructor
 ·intro h;have:∀t∈ar,t.Nodup/\(∀p∈t,p < 3)/\t.length=3:=by decide
  obtain⟨h1,h2,h3⟩:=this t h;exact#[#[h1,h2],h3]
 ·intro h;have h1:=oV.mpr h;have:∀t∈z6 3,t∈ar:=by decide
  exact this t h1
def nv {bs:Jn JI}{a:Jx}{gs:Jn Wd}(hb:GoodB bs)(hgs:∀g∈gs,GoodW a bs.length g/\g.length=3):lR bs (cu bs gs):=by
 intro w hw _ t ht hl;unfold cu at hw ⊢;obtain⟨g,hg,hw⟩:=K4.mp hw;obtain⟨s,hs,rfl⟩:=JF.mp hw;obtain⟨s1,s2⟩:=gQ.mp hs;obtain⟨g1,g2⟩:=hgs g hg;have s1':Ord g.length s:=by rw[g2]; exact s1
 rw[dh hb g1 s1' (by rw[s2]; exact ht)]
 show K4.mpr #[g,hg,JF.mpr #[_,gQ.mpr #[?_,by rw[Jp,hl]],rfl]]
 have:=rg s1' (p:=t) (by rw[s2]; exact ht)
 rw[g2]at this;exact this
abbrev fB (X:Jn Wd)(u:Wd):Prop:=∀i j k,i < j->j < k->k < u.length->b7 u i j k∉X
def wH {bs:Jn JI}{a:Jx}{X:Jn Wd}{u:Wd}(hb:GoodB bs)(hT:lR bs X)(hu:GoodW a bs.length u)(hs:fB X u){x y z:Jx}(hx:x < u.length)(hy:y < u.length)(hz:z < u.length)(h1:x≠y)(h2:x≠z)(h3:y≠z):ah bs u [x,y,z]∉X:=by
 have ord:∀ {x y z:Jx},x < u.length->y < u.length->z < u.length->x≠y->x≠z->y≠z->Ord u.length [x,y,z]:=λ{x y z} hx hy hz h1 h2 h3=>#[by simp[h1,h2,h3],λp hp=>by simp at hp; rcases hp with rfl|rfl|rfl <;> assumption]
 have key:∀i j k,i < j->j < k->k < u.length->∀t:Jn Jx,Ord 3 t->t.length=3->ah bs u [i,j,k]∈X->K5:=λi j k a1 a2 a3 t _ _ h=>hs i j k a1 a2 a3 (by rw[<- iG (bs:=bs) a1 a2]; exact h)
 intro h;have turn:∀(x y z:Jx) (t:Jn Jx),Ord u.length [x,y,z]->Ord 3 t->t.length=3->ah bs u [x,y,z]∈X->ah bs u (t.map λi=>[x,y,z].getD i 0)∈X:=λx y z t o ht hl h=>by
  have:=hT _ h (by rw[aD]; rfl) t ht hl
  rw[dh hb hu o (by simpa using ht)]at this
  exact this
 have o:=ord hx hy hz h1 h2 h3;have T:∀t:Jn Jx,t∈ar->ah bs u (t.map λi=>[x,y,z].getD i 0)∈X:=λt ht=>turn x y z t o (gQ.mp ht).1 (gQ.mp ht).2 h
 have fin:∀i j k,i < j->j < k->k < u.length->ah bs u [i,j,k]∈X->K5:=λi j k a1 a2 a3 h=>hs i j k a1 a2 a3 (by rw[<- iG (bs:=bs) a1 a2]; exact h)
 rcases MR h1 with a|a <;> rcases MR h2 with b|b <;> rcases MR h3 with c|c
 ·exact fin x y z a c hz (T [0,1,2] #v[])
 ·exact fin x z y b c hy (T [0,2,1] #v[])
 ·omega
 ·exact fin z x y b a hy (T [2,0,1] #v[])
 ·exact fin y x z a b hz (T [1,0,2] #v[])
 ·omega
 ·exact fin y z x c b hx (T [1,2,0] #v[])
 ·exact fin z y x c a hx (T [2,1,0] #v[])
def dZ {bs:Jn JI}{a:Jx}{X:Jn Wd}{u:Wd}{o:Jn Jx}(hb:GoodB bs)(hT:lR bs X)(hu:GoodW a bs.length u)(hO:Ord u.length o)(hs:fB X u):fB X (ah bs u o):=by
 intro i j k h1 h2 h3;rw[aD]at h3;rw[<- iG (bs:=bs) h1 h2];have o3:Ord o.length [i,j,k]:=#[by simp; omega,λp hp=>by simp at hp; omega]
 rw[dh hb hu hO o3];have nd:∀x y,x < o.length->y < o.length->x≠y->o.getD x 0≠o.getD y 0:=λx y hx hy hne z=>by
  rw[JY,JY,Jy hx,Jy hy]at z;exact hne ((LJ hO.nd).mp z)
 have lt:∀x,x < o.length->o.getD x 0 < u.length:=λx hx=>by
  rw[JY,Jy hx];exact hO.lt _ (Kd hx)
 exact wH hb hT hu hs (lt i ∅) (lt j ∅) (lt k h3) (nd i j ∅ ∅ ∅) (nd i k ∅ h3 ∅) (nd j k ∅ h3 ∅)
def Ab {bs:Jn JI}{a:Jx}{X:Jn Wd}{u:Wd}{o:Jn Jx}(hb:GoodB bs)(hT:lR bs X)(hu:GoodW a bs.length u)(hO:Ord u.length o)(hl:o.length=u.length):fB X (ah bs u o)↔fB X u:=by
 show#[λh=>?_,dZ hb hT hu hO]
 obtain⟨p,p1,p2,p3⟩:=G1 hO hl;have:=dZ hb hT (cp hb hu hO.lt hO.nd) (by rw[aD]; exact p1) h
 rw[dh hb hu hO p1,p3,uV hu]at this;exact this
def Ac {bs:Jn JI}{w:Wd}{h:Pt}{o:Jn Jx}{i:Jx}(hi:i < w.length)(ho:∀p∈o,p < w.length):ft bs (w++[h]) o i=ft bs w o i:=by
 unfold ft;rw[ce hi];congr 1;show KG λq hq=>?_
 unfold bO;rw[ce hi,ce (ho q hq)]
def rB {bs:Jn JI}{w:Wd}{h:Pt}:∀(n:Jx) (o:Jn Jx),o.length=n->(∀p∈o,p < w.length)->ah bs (w++[h]) o=ah bs w o
 | 0,o,hl,_=>by rw[Lb.mp hl]; simp[ah]
 | n+1,o,hl,ho=>by
  obtain⟨o',p,rfl,hl'⟩:=oX hl;rw[dg,dg,rB n o' hl' λq hq=>ho q (KU _ hq),Ac (ho p (by simp)) λq hq=>ho q (KU _ hq)]
def nw {w:Wd}{h:Pt}{i j k:Jx}(hi:i < w.length)(hj:j < w.length)(hk:k < w.length):b7 (w++[h]) i j k=b7 w i j k:=by
 unfold b7;rw[ce hi,ce hj,ce hk]
def wI {X:Jn Wd}{u:Wd}{h:Pt}:fB X (u++[h])↔fB X u/\∀p q,p < q->q < u.length->b7 (u++[h]) p q u.length∉X:=by
 constructor
 ·intro hs;show#[λi j k h1 h2 h3=>?_,λp q h1 h2=>hs p q u.length h1 h2 (by simp)]
  rw[<- nw (h:=h) ∅ ∅ h3]
  exact hs i j k h1 h2 (by simp; omega)
 ·rintro⟨h1,h2⟩ i j k a1 a2 a3;rw[JC,KD]at a3
  by_cases hk:k < u.length
  ·rw[nw ∅ ∅ hk]
   exact h1 i j k a1 a2 hk
  ·have:k=u.length:=∅
   subst this;exact h2 i j a1 a2
def rC {X:Jn Wd}{U:Jn (T×W)}{a n:Jx}{u:Wd}{h:Pt}(hH:HasD U X)(hu:GoodW a n u)(hs:fB X u):h∈aI U u a n↔GoodW a n (u++[h])/\fB X (u++[h]):=by
 have bar:∀p q,p < q->q < u.length->(eR U u h p q=false↔b7 (u++[h]) p q u.length∉X):=λp q h1 h2=>by
  rw[<- rj h1 h2,jI,hH.get,MK];constructor
  ·exact λz y=>z (P6 y)
  ·intro z y;obtain⟨x,hx,e⟩:=JF.mp y;rw[<- fM e]at z;exact z hx
 rw[eC,wI];constructor
 ·rintro⟨h1,h2,h3,h4⟩;show#[hu.snoc h1 h2 h3,hs,λp q a b=>(bar p q a b).mp (h4 p q a b)]
 ·rintro⟨h1,_,h2⟩;have hl:(u++[h])[u.length]?=ba h:=by simp
  exact#[h1.mark _ _ hl,h1.len _ _ hl,h1.way _ _ hl,λp q a b=>(bar p q a b).mpr (h2 p q a b)]
def Ad {α:Type}[BEq α][LawfulBEq α]:∀ {A B:Jn α},A.Nodup->(∀x∈A,x∈B)->A.length<=B.length
 | [],_,_,_=>Lm _
 | x::A,B,h,hs=>by
  rw[K1]at h;have hx:=hs x (by simp)
  have:=Ad (A:=A) (B:=B.erase x) h.2 λy hy=>(Na (λ(e:y=x)=>h.1 (by rw[<- e]; exact hy))).mpr (hs y (by simp[hy]))
  rw[OX hx]at this;have:=Pe hx;rw[Kr];omega
def Ae {α β:Type}{f:α->β}:∀ {A:Jn α},A.Nodup->(∀x∈A,∀y∈A,f x=f y->x=y)->(A.map f).Nodup
 | [],_,_=>.nil
 | x::A,h,hi=>by
  rw[K1]at h;rw[KO,K1];show#[λz=>?_,Ae h.2 λy hy z hz=>hi y (by simp[hy]) z (by simp[hz])]
  obtain⟨y,hy,e⟩:=JF.mp z;exact h.1 (hi y (by simp[hy]) x (by simp) e ▸ hy)
def uW {n:Jx}(hn:0 < n):∀ {k:Jx} {ds:Jn JI},ds.length=k->(∀w∈ds,0<=w/\w < (n:JI))->ds∈bm n k
 | 0,ds,hl,_=>by rw[Lb.mp hl]; simp[bm]
 | k+1,ds,hl,h=>by
  have hne:ds≠[]:=λz=>by rw[z]at hl; cases hl
  have e:=(MV hne).symm;have hm:=h (ds.getLast hne) (Rk hne);rw[lQ hn];show K4.mpr #[ds.dropLast,uW hn (by rw[N4,hl]; rfl) λw hw=>h w ((List.dropLast_sublist ds).subset hw),JF.mpr #[(ds.getLast hne).toNat,JT.mpr ∅,?_]]
  rw[Nm hm.1];exact e.symm
abbrev bX (o:Jn Jx)(h:Pt):Pt:=(h.1,o.map λk=>h.2.getD k 0)
def wJ {bs:Jn JI}{a n:Jx}{u:Wd}{h:Pt}{o:Jn Jx}(ho:∀p∈o,p < u.length):ft bs (u++[h]) o u.length=bX o h:=by
 unfold ft bX;rw[iH];congr 1;show KG λq hq=>?_
 unfold bO;rw[JX (ho q hq),iH]
def ny {bs:Jn JI}{a:Jx}{X:Jn Wd}{U:Jn (T×W)}{u:Wd}{h:Pt}{o:Jn Jx}(hb:GoodB bs)(hT:lR bs X)(hH:HasD U X)(hu:GoodW a bs.length u)(hs:fB X u)(hO:Ord u.length o)(hl:o.length=u.length)(hh:h∈aI U u a bs.length):bX o h∈aI U (ah bs u o) a bs.length:=by
 obtain⟨g1,g2⟩:=(rC hH hu hs).mp hh;have O:Ord (u++[h]).length (o++[u.length]):=gx.mpr #[#[hO.nd,λp hp=>by have:=hO.lt p hp; simp; omega],by simp,λz=>by have:=hO.lt _ z; omega]
 have e:ah bs (u++[h]) (o++[u.length])=ah bs u o++[bX o h]:=by
  rw[dg,rB _ o rfl hO.lt,wJ (a:=a) (n:=bs.length) hO.lt]
 show(rC hH (cp hb hu hO.lt hO.nd) (dZ hb hT hu hO hs)).mpr #[?_,?_]
 ·rw[<- e]; exact cp hb g1 O.lt O.nd
 ·rw[<- e]; exact dZ hb hT g1 O g2
def Ag {bs:Jn JI}{a:Jx}{X:Jn Wd}{U:Jn (T×W)}{u:Wd}{h':Pt}{o:Jn Jx}(hb:GoodB bs)(hT:lR bs X)(hH:HasD U X)(hu:GoodW a bs.length u)(hs:fB X u)(hO:Ord u.length o)(hl:o.length=u.length):h'∈aI U (ah bs u o) a bs.length↔∃h∈aI U u a bs.length,h'=bX o h:=by
 constructor
 ·intro hh;obtain⟨r,r1,r2,r3⟩:=G1 hO hl;have pl:(ah bs u o).length=o.length:=aD ..;have key:=ny hb hT hH (cp hb hu hO.lt hO.nd) (dZ hb hT hu hO hs) (o:=r) (by rw[pl]; exact r1) (by rw[pl,r2,hl]) hh
  rw[dh hb hu hO r1,r3,uV hu]at key;show#[_,key,?_];have hlen:h'.2.length=o.length:=by
   obtain⟨_,g2,_⟩:=eC.mp hh;rw[g2,pl]
  unfold bX;show RH rfl ?_;dsimp only;show LW (by rw[Jp,hlen]) λi h1 h2=>?_
  rw[NY];have hi:i < o.length:=by rw[<- hlen]; exact h1
  have hoi:o[i] < r.length:=by rw[r2]; exact hO.lt _ (Kd hi)
  rw[JY,JB,Jy hoi];change h'.2[i]=h'.2.getD r[o[i]] 0;have e1:o.getD r[o[i]] 0=o[i]:=by
   have:=List.getElem_of_eq r3 (i:=o[i]) (by rw[Jp]; exact hoi)
   rw[NY,List.getElem_range]at this;exact this
  have hr:r[o[i]] < o.length:=r1.lt _ (Kd hoi);have e2:r[o[i]]=i:=by
   rw[JY,Jy hr]at e1;exact(LJ hO.nd).mp e1
  rw[e2,JY,Jy h1]; rfl
 ·rintro⟨h,hh,rfl⟩;exact ny hb hT hH hu hs hO hl hh
def oZ {α β:Type}{R:α->α->Prop}{P:β->β->Prop}{f:α->Jn β}:∀ {A:Jn α},A.Pairwise R->(∀x∈A,(f x).Pairwise P)->(∀x∈A,∀y∈A,R x y->∀z∈f x,∀w∈f y,P z w)->(A.flatMap f).Pairwise P
 | [],_,_,_=>.nil
 | x::A,h,hn,hd=>by
  rw[OB]at h;rw[Le,PQ];show#[hn x (by simp),oZ h.2 (λy hy=>hn y (by simp[hy])) λy hy z hz=>hd y (by simp[hy]) z (by simp[hz]),λz hz w hw=>?_]
  obtain⟨y,hy,hw⟩:=K4.mp hw;exact hd x (by simp) y (by simp[hy]) (h.1 y hy) z hz w hw
def uX {x y:JI}(h:x < y){as bs:Jn T}:bY (T.int x::as) (T.int y::bs)=ba true:=by
 have hne:T.int x≠T.int y:=λz=>by simp only[T.int.injEq]at z; omega
 show(if T.int x=T.int y then bY as bs else ba (decide (x < y)))=ba true
 rw[J8 hne,K6 h]
def Ah {n:Jx}(hn:0 < n):∀k,(bm n k).Pairwise λx y=>bY (x.map T.int) (y.map T.int)=ba true
 | 0=>by simp[bm]
 | k+1=>by
  rw[lQ hn];show oZ (Ah hn k) (λds _=>?_) λx hx y hy h z hz w hw=>?_
  ·rw[Ld];show List.pairwise_lt_range.imp λh=>?_
   rw[J0,J0,lH];exact uX ∅
  ·obtain⟨p,_,rfl⟩:=JF.mp hz;obtain⟨q,_,rfl⟩:=JF.mp hw;rw[J0,J0];exact lG (by rw[Jp,Jp,(oU hx).1,(oU hy).1]) h
def rD {U:Jn (T×W)}{u:Wd}{a n:Jx}(hn:0 < n):DS ((aI U u a n).map eD):=by
 unfold DS aI;rw[Ld];show oZ List.pairwise_lt_range (λm _=>?_) λm _ m' _ h z hz w hw=>?_
 ·rw[gP hn _ (JA _)];show Ta _ ?_;rw[Ld];show(Ah hn _).imp λ{x y} h=>?_
  show(if T.int (m:JI)=T.int (m:JI)then bY [T.tup (x.map T.int)] [T.tup (y.map T.int)]else _)=ba true
  rw[JX rfl];have hne:T.tup (x.map T.int)≠T.tup (y.map T.int):=λe=>by
   injection e with e
   rw[e]at h;have:∀l:Jn T,bY l l≠ba true:=λl=>by
    induction l with
    | nil=>intro z; cases z
    | cons t l ih=>intro z; exact ih (by have z:(if t=t then bY l l else gT t t)=ba true:=z; rwa [JX rfl]at z)
   exact this _ h
  show(if T.tup (x.map T.int)=T.tup (y.map T.int)then ba false else bY (x.map T.int) (y.map T.int))=ba true
  rw[J8 hne]; exact h
 ·have e1:=(cU (JA _)).mp hz;have e2:=(cU (JA _)).mp hw;change bY [T.int z.1,T.tup (z.2.map T.int)] [T.int w.1,T.tup (w.2.map T.int)]=ba true;rw[e1.1,e2.1];exact uX ∅
abbrev nz (ps:Jn Pt):Jn Pt:=c9 (kS (ps.map eD)) (0,[]) ps
def Ai {ps:Jn Pt}(h:ps.Nodup):Nice (ps.map eD):=by
 show#[λx hx=>?_,gK ps,?_]
 ·obtain⟨p,_,rfl⟩:=JF.mp hx;exact lI p
 ·rw[Lw,Ld];exact h.imp λhne e=>hne (oN e)
def Cw {S:aa}{l:Jx}{ps:Jn Pt}{Q:QW}(h:S[l]?=ba (.lst (ps.map bh)))(h64:ps.length < 64)(q:Q (.ref S.length,S++[.lst ((nz ps).map bh)])):wO (Bi.sorted.fn [.ref l] S) Q:=by
 show ab ?_ q;have hi:da S (.ref l)=ba (ps.map bh):=by simp only[da,aq h]
 have ok:fG (ps.map eD)=true:=by
  unfold fG;simp only[Jv,Lk,JU,Jp];show#[#[h64,by have:=gH ps; unfold bP; omega],.inr #[?_,gK ps]]
  unfold rG;have h2:((ps.map eD).all λk=>(bc k).any λf=>fF f == "int")=true:=by
   rw[JQ];intro x hx;obtain⟨p,_,rfl⟩:=JF.mp hx;rfl
  rw[h2];split
  ·rfl
  ·split <;> rfl
 show(match bK [.ref l] S with
  | some r=>ba r
  | none=>dO [.ref l] S)=_
 have e0:bK [.ref l] S=gV:=by simp only[bK,DT,h]
 rw[e0];simp only[dO,hi,z8];rw[JX ok,i9 (d:=((0,[]):Pt))];rfl
def uY {α:Type}[ML α]:∀ {A B:Jn α},A.Nodup->B.Nodup->(∀x,x∈A↔x∈B)->A.Perm B
 | [],B,_,_,h=>by
  cases B with
  | nil=>exact .nil
  | cons b B=>exact absurd ((h b).mpr (by simp)) (by simp)
 | x::A,B,hA,hB,h=>by
  rw[K1]at hA;have hx:x∈B:=(h x).mp (by simp)
  have p:=List.perm_cons_erase hx;show(T3 x (uY hA.2 (hB.erase x) λy=>?_)).trans p.symm
  constructor
  ·intro hy;have hne:y≠x:=λe=>hA.1 (e ▸ hy)
   exact(Na hne).mpr ((h y).mp (by simp[hy]))
  ·intro hy;have hne:y≠x:=λe=>by
    rw[e]at hy;have:=(p.nodup_iff.mp hB);rw[K1]at this;exact this.1 hy
   have:=(h y).mpr ((Na hne).mp hy);rw[JR]at this;exact this.resolve_left hne
def o4 {U:Jn (T×W)}{u:Wd}{a n:Jx}(hn:0 < n):(aI U u a n).Nodup:=by
 have h:=rD (U:=U) (u:=u) (a:=a) hn;unfold DS at h;rw[Ld]at h;rw[Lw];show h.imp λ{x y} h e=>?_
 rw[e]at h;have:=jo _ _ (lI y) h;rw[h]at this;cases this
def rE {bs:Jn JI}{a:Jx}{X:Jn Wd}{U:Jn (T×W)}{u:Wd}{o:Jn Jx}(hb:GoodB bs)(hn:0 < bs.length)(hT:lR bs X)(hH:HasD U X)(hu:GoodW a bs.length u)(hs:fB X u)(hO:Ord u.length o)(hl:o.length=u.length):nz ((aI U u a bs.length).map (bX o))=aI U (ah bs u o) a bs.length:=by
 have inj:∀x∈aI U u a bs.length,∀y∈aI U u a bs.length,bX o x=bX o y->x=y:=λx hx y hy e=>by
  have lx:=(eC.mp hx).2.1;have ly:=(eC.mp hy).2.1;have e1:x.1=y.1:=by
   have:=congrArg Prod.fst e;exact this
  have e2:(o.map λk=>x.2.getD k 0)=o.map λk=>y.2.getD k 0:=by
   have:=congrArg Prod.snd e;exact this
  show RH e1 (LW (by rw[lx,ly]) λi h1 h2=>?_)
  have hi:=dW hO hl (p:=i) ∅
  have:=List.map_inj_left.mp e2 i hi;rw[JY,JY,Jy h1,Jy h2]at this;exact this
 have nd1:((aI U u a bs.length).map (bX o)).Nodup:=Ae (o4 hn) inj;have pm:((aI U u a bs.length).map (bX o)).Perm (aI U (ah bs u o) a bs.length):=uY nd1 (o4 hn) λh'=>by
  rw[Ag hb hT hH hu hs hO hl,JF];exact#[λ#[h,h1,h2]=>#[h,h1,h2.symm],λ#[h,h1,h2]=>#[h,h1,h2.symm]]
 have em:(nz ((aI U u a bs.length).map (bX o))).map eD=dI (((aI U u a bs.length).map (bX o)).map eD):=by
  unfold nz dI;exact(i9 (d:=((0,[]):Pt)) (f:=eD)).symm
 have fin:(nz ((aI U u a bs.length).map (bX o))).map eD=(aI U (ah bs u o) a bs.length).map eD:=by
  show iV (λx hx=>by obtain⟨p,_,rfl⟩:=JF.mp hx; exact lI p) ?_ (by rw[em]; exact fX (Ai nd1)) (rD hn)
  show Sl eD ((show(nz ((aI U u a bs.length).map (bX o))).Perm ((aI U u a bs.length).map (bX o))from dw).trans pm)
 have inj2:∀ {A B:Jn Pt},A.map eD=B.map eD->A=B:=λ{A B} h=>(List.map_inj_right λp q e=>oN e).mp h
 exact inj2 fin
abbrev lS:Ss:=
 #v[.set 8 (.own "_law_drawn_points" 3 #v[.v 1,.bi .len #v[.v 7],.bi .len #v[.v 7]]),.set 9 (.own "part" 3 #v[.v 2,.v 7,.v 8]),.set 10 (.bi .sorted #v[.comp (.tup #v[.v 1,.bi .tuple #v[.comp (.ix (.v 2) (.v 1)) (.nm 1) (.seq (.v 3)) .nil [gV,gV,ba 2]]]) (.tp [1,2]) (.seq (.own "wishes" 2 #v[.v 2,.v 7])) .nil [gV,gV,gV,ba 8]]),.ite (.not (.own "_law_alike" 2 #v[.own "wishes" 2 #v[.v 2,.v 9],.v 10])) #v[.ret (.c (.bl false))] .nil,.ret (.own "_law_alike" 2 #v[.own "least_form" 2 #v[.v 2,.v 9],.own "least_form" 2 #v[.v 2,.v 7]])]
abbrev lT:Ss:=
 (.cons (.set 7 (.sl (.v 4) .no (.yes (.c (.int 3)))))
 (.cons (.ite (.cmp .isnot (.own "first_barred" 2 #v[.v 2,.v 7]) (.c .non)) #v[.set 7 (.sl (.v 4) .no (.yes (.c (.int 2))))] .nil)
 lS))
abbrev kz:Ss:=
 (.cons (.set 1 (.own "_law_flow" 1 #v[.v 0]))
 (.cons (.set 2 (.own "_law_full_rule" 1 #v[.v 1]))
 (.cons (.set 3 (.own "_law_pick" 2 #v[.v 1,.c (.int 8)]))
 (.cons (.set 4 (.own "_law_any_world" 3 #v[.v 1,.v 2,.v 3]))
 (.cons (.ite (.cmp .eq (.own "_law_pick" 2 #v[.v 1,.c (.int 2)]) (.c (.int 0))) #v[.set 4 (.own "_law_world" 4 #v[.v 1,.v 2,.own "_law_bad" 1 #v[.v 2],.v 3])] .nil)
 (.cons (.set 3 (.bi .len #v[.v 4]))
 (.cons (.set 5 (.own "part" 3 #v[.v 2,.v 4,.own "_law_drawn_points" 3 #v[.v 1,.v 3,.v 3]]))
 (.cons (.set 6 (.own "part" 3 #v[.v 2,.v 4,.own "_law_drawn_points" 3 #v[.v 1,.v 3,.own "_law_pick" 2 #v[.v 1,.op .add (.v 3) (.c (.int 1))]]]))
 (.cons (.ite (.cmp .ne (.cmp .is (.own "first_barred" 2 #v[.v 2,.v 4]) (.c .non)) (.cmp .is (.own "first_barred" 2 #v[.v 2,.v 5]) (.c .non))) #v[.ret (.c (.bl false))] .nil)
 (.cons (.ite (.and (.cmp .isnot (.own "first_barred" 2 #v[.v 2,.v 6]) (.c .non)) (.cmp .is (.own "first_barred" 2 #v[.v 2,.v 4]) (.c .non))) #v[.ret (.c (.bl false))] .nil)
 lT))))))))))
structure Lw17 (defs:Jn (JS×Df)):Prop where
 gen:Gen defs
 full:Full defs
 parts:Parts defs
 part:Is defs ("part" : JS) 3 3 gr
 longer:Is defs ("longer_orders" : JS) 2 4 aJ
 least:Is defs ("least_form" : JS) 2 7 cZ
 bar:Is defs ("barred_threes" : JS) 1 5 aU
 three:Is defs ("three_at" : JS) 4 6 bu
 first:Is defs ("first_three" : JS) 2 5 bM
 fbarred:Is defs ("first_barred" : JS) 2 2 b8
 fbar:Is defs ("first_bar" : JS) 2 4 cf
 lwish:Is defs ("longer_wishes" : JS) 2 5 aV
 wover:Is defs ("wishes_over" : JS) 3 7 bN
 wishes:Is defs ("wishes" : JS) 2 2 gy
 flow:Is defs ("_law_flow" : JS) 1 1 en
 aworld:Is defs ("_law_any_world" : JS) 3 6 bL
 ways:Is defs ("_law_new_ways" : JS) 6 11 bB
 world:Is defs ("_law_world" : JS) 4 8 dD
 bad:Is defs ("_law_bad" : JS) 1 4 fw
 alike:Is defs ("_law_alike" : JS) 2 2 aY
 drawn:Is defs ("_law_drawn_points" : JS) 3 5 bj
 law:Is defs ("law" : JS) 1 11 kz
def rF {U:Jn (T×W)}{u:Wd}{a:Jx}{bs:Jn JI}(hs:SizeOk a bs)(hu:u.length<=3):(aI U u a bs.length).length<=54:=by
 obtain⟨n1,n3⟩:=hs.n3;have h:=Ad (A:=aI U u a bs.length) (B:=bD a bs.length u.length) (o4 n1) λp hp=>by
  obtain⟨h1,h2,h3,_⟩:=eC.mp hp;unfold bD;show K4.mpr #[p.1.toNat,JT.mpr ∅,JF.mpr #[p.2,uW n1 h2 h3,?_]]
  rw[Nm h1.1]
 rw[iF]at h;have h2:a*bs.length ^ u.length<=a*bs.length ^ 3:=Nat.mul_le_mul_left _ (Ms n1 hu);have h3:a*bs.length ^ 3=a*bs.length*bs.length ^ 2:=by rw[Pf,MP (bs.length ^ 2),Nat.mul_assoc]
 have h4:a*bs.length*bs.length ^ 2<=6*3 ^ 2:=NQ hs.most (MB n3 2);omega
def Aj {X:Jn Wd}{u:Wd}{w:W}(h:Ans (λi j k=>decide (bC (b7 u i j k)∈X.map bC)) u.length w):(w=.non/\fB X u)\/((∃i j k:JI,w=.tup [.int i,.int j,.int k])/\¬ fB X u):=by
 have mem:∀i j k,bC (b7 u i j k)∈X.map bC↔b7 u i j k∈X:=λi j k=>#[λh=>by obtain⟨x,hx,e⟩:=JF.mp h; rw[<- fM e]; exact hx,λh=>P6 h]
 rcases h with⟨rfl,h⟩|⟨i,j,k,rfl,h1,h2,h3,h4,_⟩
 ·exact .inl #[rfl,λi j k a b c z=>by
   have:=h i j k a b c;rw[MK,mem]at this;exact this z]
 ·show .inr #[#[_,_,_,rfl],λz=>z i j k h1 h2 h3 ?_]
  rw[JU,mem]at h4;exact h4
section
variable{M:JS->FF}{Z:Fm}{S:aa}
def EV {α:Type}{elt e:E}{cs:Es}{cap:Jn (Jw Jx)}{Q:QW}(L:Jn α)(f g:α->W)(p:α->J3)(h:α->W)(R:Fm)(oi:dA e=true)(oe:dA elt=true)(oc:lW cs=true)(hc:eg cap Z=gV::gV::gV::R)(hl:L.length<=1000000)
  (he:wE M e Z S λq=>∃t,q.1=.ref t/\q.2[t]?=ba (.lst (L.map λx=>W.tup [f x,g x]))/\Ka S q.2)
  (hstep:∀x∈L,∀S',Ka S S'->fP M elt cs (gV::ba (f x)::ba (g x)::R) S' (λy _ S2=>p x=true/\y=h x/\Ka S' S2) (λ_ S2=>p x=false/\Ka S' S2))
  (k:∀S',Ka S S'->Q (.ref S'.length,S'++[.lst ((L.filter p).map h)])):Wp (aB M (.comp elt (.tp [1,2]) (.seq e) cs cap) Z S) Q:=by
 obtain⟨w,S1,e1,t,rfl,ht,k1⟩:=br oi he;exact sN (mi:=.live t) L (λx=>W.tup [f x,g x]) p h (λZ=>∃a b,Z=gV::a::b::R) (λx=>gV::ba (f x)::ba (g x)::R) (λ_ _ _ h=>let ⟨_,_,e⟩:=h; e ▸ #[rfl,_,_,rfl]) oe oc #[_,_,hc] hl (by simp only[iZ,ee,e1,aq ht]) k1 (λi S' h=>by simp only[MI.at,aq (h.get _ _ ht)]) (by simp only[MI.len,aq ht,Kg]) hstep k
end
def G2 {a n:Jx}{u:Wd}(hu:GoodW a n u)(hl:u.length<=1000):Tr 3 (az u):=by
 show#[by rw[Jp]; exact hl,λx hx=>?_]
 obtain⟨p,hp,rfl⟩:=JF.mp hx;obtain⟨k,hk,e⟩:=LL.mp hp;have hpl:=hu.len k p (by rw[Jy hk,e])
 show#[MZ rfl,λy hy=>?_]
 simp only[JR,Kh,Lu]at hy;rcases hy with rfl|rfl
 ·trivial
 ·show#[by rw[Jp]; omega,λz hz=>?_]
  obtain⟨w,_,rfl⟩:=JF.mp hz;trivial
section
variable{defs:Jn (JS×Df)}{fuel d:Jx}
def wK (hfu:50 < fuel)(L:Lw17 defs){m0:W}{ns:Jn JS}{bs:Jn JI}{a:Jx}{gs:Jn Wd}{u:Wd}{S:aa}{Q:QW}(hb:GoodB bs)(hnl:ns.length=bs.length)(hgs:∀g∈gs,GoodW a bs.length g/\g.length=3)(h64:gs.length<=100)(hu:GoodW a bs.length u)(hul:u.length<=1000)
  (k1:fB (cu bs gs) u->∀S',Ka S S'->Q (.non,S')) (k2:¬ fB (cu bs gs) u->∀i j k S',Ka S S'->Q (.tup [.int i,.int j,.int k],S')) :
  wO (aP (am defs fuel (d+8)) "first_barred" 2 [.tup [m0,.tup (JV aQ ns bs),.tup (gs.map az)],az u] S) Q:=by
 show lM (d:=d+3) ∅ L.parts L.part L.longer L.bar L.three L.first L.fbarred hb hnl hgs h64 hu hul λw S' h k'=>?_
 rcases Aj h with⟨rfl,hs⟩|⟨⟨i,j,l,rfl⟩,hs⟩
 ·exact k1 hs S' k'
 ·exact k2 hs i j l S' k'
set_option maxHeartbeats 200000 in
def Ak (hfu:50 < fuel)(L:Lw17 defs){ms ns:Jn JS}{bs:Jn JI}{w0 w3 w4 w5 w6:W}{a r:Jx}{gs:Jn Wd}{u:Wd}{S:aa}{Q':QO}(hs:SizeOk a bs)(hml:ms.length=a)(hnl:ns.length=bs.length)(hgs:∀g∈gs,GoodW a bs.length g/\g.length=3)(h64:gs.length<=100)(hu:GoodW a bs.length u)(hst:fB (cu bs gs) u)(hu3:u.length<=3)(f:Fl S r)(k:∀S',Q' (.rt (.bl true),S')) :
  wZ (am defs fuel (d+8)) fuel lS [ba w0,ba (.ref r),ba (.tup [.tup (ms.map W.str),.tup (JV aQ ns bs),.tup (gs.map az)]),ba w3,ba w4,ba w5,ba w6,ba (az u),gV,gV,gV] S Q':=by
 have hb:=hs.good;have hT:=nv hb hgs;obtain⟨n1,n3⟩:=hs.n3;have hG:=L.gen;dsimp only[lS];nofun
 dsimp only[wS,wE,wA,wV,wG,JG,az];show aN (aN ?_);rw[Jp];show oR (d:=d+6) hG L.drawn (many:=u.length) (size:=u.length) f ∅ (JA _) ∅ λo S1 hol hnd hol2 f1 _=>hK _ _ ?_
 clear hK K;have hO:Ord u.length o:=#[hnd,hol2];have gv:=cp hb hu hO.lt hO.nd;have vl:(ah bs u o).length=u.length:=by rw[aD,hol]
 nofun
 left;show uR (d:=d+5) L.parts L.part hb hnl hu hO.lt hO.nd ∅ λS2 k2=>hK _ _ ?_
 clear hK K;nofun
 left;have hwi:wO (aP (am defs fuel (d+8)) "wishes" 2 [.tup [.tup (ms.map W.str),.tup (JV aQ ns bs),.tup (gs.map az)],az u] S2) λq=>∃U t,HasD U (cu bs gs)/\q.1=.ref t/\q.2[t]?=ba (.lst ((aI U u a bs.length).map bh))/\Ka S2 q.2:=rq (d:=d+3) ∅ L.parts L.part L.longer L.bar L.three L.fbar L.lwish L.wover L.wishes hml hs.a3 hb hnl hgs h64 hu ∅ λl U S' h1 h2 _ h4=>#[U,l,h1,rfl,h2,h4]
 obtain⟨⟨w,S3⟩,ew,U,t,hH,rfl,e3,k3⟩:=cq hwi;have hlen:=rF (U:=U) hs hu3;show EV (aI U u a bs.length) (λh=>W.int h.1) (λh=>W.tup (h.2.map W.int)) (λ_=>true) (λh=>bh (bX o h)) [ba (.tup (aj o))] rfl rfl rfl rfl ∅ ?_ (λh hh S' k'=>?_) λS4 k4=>?_
 ·dsimp only[wE,wA,wV,wG];exact ab ew #[t,rfl,e3,k3]
 ·have lh:=(eC.mp hh).2.1;dsimp only[fP,wC,wE,wA,wV,wG];show#[λ_=>?_,λz=>by cases z]
  show EI o (λp=>W.int (p:Jx)) (λ_=>true) (λp=>W.int (h.2.getD p 0)) [ba (W.tup (h.2.map W.int))] rfl rfl rfl rfl ∅ #[rfl,.refl] (λp hp S5 k5=>?_) λS5 k5=>?_
  ·dsimp only[fP,wC,wE,wA,wV,wG];have hpl:p < h.2.length:=by rw[lh]; exact hO.lt p hp
   exact#[λ_=>ak (w:=.int (h.2.getD p 0)) (JN p) (by rw[JL,JB,ap (d:=0) hpl]; rfl) #[rfl,rfl,.refl],λz=>by cases z]
  ·rw[jf];show dB ag #[rfl,?_,k5.trans .push];unfold bX bh;rw[La]; rfl
 rw[jf,show((aI U u a bs.length).map λh=>bh (bX o h))=((aI U u a bs.length).map (bX o)).map bh by rw[La]; rfl]
 show Cw ag (by rw[Jp]; omega) ?_
 rw[rE hb n1 hT hH hu hst hO hol];have e6:(S4++[O.lst (((aI U u a bs.length).map (bX o)).map bh)]++[O.lst ((aI U (ah bs u o) a bs.length).map bh)])[(S4++[O.lst (((aI U u a bs.length).map (bX o)).map bh)]).length]?=ba (.lst ((aI U (ah bs u o) a bs.length).map bh)):=ag;generalize S4++[O.lst (((aI U u a bs.length).map (bX o)).map bh)]++[O.lst ((aI U (ah bs u o) a bs.length).map bh)]=S6 at e6 ⊢;generalize(S4++[O.lst (((aI U u a bs.length).map (bX o)).map bh)]).length=t6 at e6 ⊢;show hK _ _ ?_;clear hK K;have hlen2:=rF (U:=U) (u:=ah bs u o) hs ∅
 have trp:∀x∈(aI U (ah bs u o) a bs.length).map bh,Tr 2 x:=EU λp hp=>by have:=(eC.mp hp).2.1; omega
 nofun
 dsimp only[wS,wT,wE,wA,wV,wG];show rq (d:=d+3) ∅ L.parts L.part L.longer L.bar L.three L.fbar L.lwish L.wover L.wishes hml hs.a3 hb hnl hgs h64 gv ∅ λl U2 S7 hH2 e7 _ k7=>?_
 rw[sT n1 λt=>(hH2.get t).trans (hH.get t).symm]at e7
 show ww (d:=d+4) (n:=2) L.alike e7 (k7.get _ _ e6) (by rw[Jp]; omega) trp λS8 _=>?_
 show ab (show io S8 (.bl true)=ba true from rfl) ?_
 show au (Q0:=Q') (λz=>by cases z) (λ_ Q2 hn2 _=>bA (hn2 _ _ (hK _ _ ?_)))
 clear hn2 hK K;show st ?_;left;show jg (d:=d+5) ∅ L.parts L.longer L.least hb hnl gv ∅ λS9 _=>?_
 show jg (d:=d+5) ∅ L.parts L.longer L.least hb hnl hu ∅ λS10 _=>?_
 rw[sP hb hu hO hol];obtain⟨q,q1,q2,q3⟩:=lK (bs:=bs) (u:=u);rw[<- q3];exact uP L.alike 3 (d+4) _ _ _ (G2 (cp hb hu q1.lt q1.nd) (by rw[aD]; omega)) λS11 _=>k S11
def Al {X:Jn Wd}{u:Wd}(h:u.length<=2):fB X u:=λi j k h1 h2 h3=>∅
def G3 {S:aa}{a b:J3}:aZ .ne (.bl a) (.bl b) S=ba (.bl (!(a==b)),S):=by cases a <;> cases b <;> rfl
def EW (hfu:50 < fuel)(L:Lw17 defs){ms ns:Jn JS}{bs:Jn JI}{w0 w3 w5 w6:W}{a r:Jx}{gs:Jn Wd}{u:Wd}{S:aa}{Q':QO}(hs:SizeOk a bs)(hml:ms.length=a)(hnl:ns.length=bs.length)(hgs:∀g∈gs,GoodW a bs.length g/\g.length=3)(h64:gs.length<=100)(hu:GoodW a bs.length u)(f:Fl S r)(k:∀S',Q' (.rt (.bl true),S')) :
  wZ (am defs fuel (d+8)) fuel lT [ba w0,ba (.ref r),ba (.tup [.tup (ms.map W.str),.tup (JV aQ ns bs),.tup (gs.map az)]),ba w3,ba (az u),ba w5,ba w6,gV,gV,gV,gV] S Q':=by
 have hb:=hs.good;have sl:∀(m:Jx) (S:aa),ph (az u) gV (ba (m:JI)) S=ba (az (u.take m),S):=λm S=>by simp only[az,ph,gm,Nu]
 dsimp only[lT];nofun
 dsimp only[wS,wE,wA,wP,wV,wG,wN,JG];show ab (sl 3 S) (hK _ _ ?_);clear hK K;nofun
 dsimp only[wS,wT,wE,wA,wV,wG];have l3:(u.take 3).length<=3:=by rw[Kn]; omega
 show wK hfu L hb hnl hgs h64 (gO hu) ∅ (λhst S1 k1=>?_) λhst i j l S1 k1=>?_
 ·show ab (show aZ .isnot .non .non S1=ba (.bl false,S1)from rfl) ?_
  dsimp only[wB];show au (Q0:=Q') (λz=>by cases z) (λ_ Q2 hn2 _=>bA (hn2 _ _ (hK _ _ ?_)))
  exact Ak hfu L hs hml hnl hgs h64 (gO hu) hst l3 (f.ka k1) k
 ·show ab (show aZ .isnot (.tup [.int i,.int j,.int l]) .non S1=ba (.bl true,S1)from rfl) ?_
  dsimp only[wB];show au (Q0:=Q') (λ_ Q2 hn2 _=>?_) (λz=>by cases z)
  show st ?_;dsimp only[wS,wE,wA,wP,wV,wG,wN,JG];show ab (sl 2 S1) (bA (hn2 _ _ (hK _ _ ?_)));have l2:(u.take 2).length<=2:=by rw[Kn]; omega
  exact Ak hfu L hs hml hnl hgs h64 (gO hu) (Al l2) ∅ (f.ka k1) k
def Am (hfu:50 < fuel)(L:Lw17 defs){zs:Jn JI}:∃S',am defs fuel (d+9) "law" [.ref 0] [.fro (zs.map W.int)]=ba (.bl true,S'):=by
 suffices h:wO (aP (am defs fuel (d+9)) "law" 1 [.ref 0] [.fro (zs.map W.int)]) (λp=>p.1=.bl true) by
  obtain⟨⟨v,S'⟩,e,q⟩:=cq h;cases(show v=.bl true from q)
  exact#[S',e]
 have G:=L.gen;show ay L.law rfl rfl λQ' hR=>?_
 change wZ _ _ kz [ba (.ref 0),gV,gV,gV,gV,gV,gV,gV,gV,gV,gV] [.fro (zs.map W.int)] Q';unfold kz;nofun
 left;show EM (d:=d+7) L.flow (ns:=zs) rfl λr S1 _ f1=>hK _ _ ?_
 clear hK K;nofun
 left;show EH (d:=d) ∅ G L.full f1 λw S2 hw f2 _=>hK _ _ ?_
 clear hK K f1;obtain⟨a,bs,ms,ns,gs0,rfl,hr⟩:=hw;have hs:=hr.size;have hb:=hs.good;have hnl:=hr.nl;have hml:=hr.ml;have pm:(cr gs0).Perm gs0:=dw;have hgs:∀g∈cr gs0,GoodW a bs.length g/\g.length=3:=λg hg=>wF hb (hr.mem g (pm.mem_iff.mp hg))
 have h64:(cr gs0).length<=100:=by
  have h1:=gl gs0 _ hr.nd hr.mem;have h2:=kq hr.size;rw[pm.length_eq]; omega
 clear hr pm;unfold dL;generalize cr gs0=gs at hgs h64;clear gs0;obtain⟨n1,n3⟩:=hs.n3;have hT:=nv hb hgs;have zl:(JV aQ ns bs).length=bs.length:=by rw[LR,hnl]; omega
 have mml:(ms.map W.str).length=a:=by rw[Jp]; exact hml
 nofun
 left;show aM (d:=d+7) G.pick f2 #v[] #v[] λn S3 n0 n8 f3 _=>hK _ _ ?_
 clear hK K f2;obtain⟨n,rfl⟩ : ∃m:Jx,n=m:=#[n.toNat,∅]
 nofun
 left;show qI (d:=d+6) G L.aworld f3 hs.pos hs.a3 hb hml hnl ∅ λu0 S4 hul0 hu0 f4 _=>hK _ _ ?_
 clear hK K f3;nofun
 have tl:∀(u:Wd) (S5:aa),GoodW a bs.length u->u.length<=7->Fl S5 r->K [ba (.ref 0),ba (.ref r),ba (.tup [.tup (ms.map W.str),.tup (JV aQ ns bs),.tup (gs.map az)]),ba (.int (n:JI)),ba (az u),gV,gV,gV,gV,gV,gV] S5:=by
  intro u S5 hu hul f5;show hK _ _ ?_;clear hK K f4 hu0 hul0;nofun
  dsimp only[wS,wE,wA,wV,wG,JG,az];show aN ?_;rw[Jp];show hK _ _ ?_;clear hK K;nofun
  left;show oR (d:=d+6) G L.drawn (many:=u.length) (size:=u.length) f5 ∅ (JA _) ∅ λo S6 hol hnd hol2 f6 _=>?_
  have hO:Ord u.length o:=#[hnd,hol2];show uR (d:=d+5) L.parts L.part hb hnl hu hO.lt hO.nd ∅ λS7 k7=>hK _ _ ?_
  clear hK K f5;have f7:=f6.ka k7;nofun
  left;show ab cQ ?_;dsimp only;rw[show((u.length:Jx):JI)+1=((u.length+1:Jx):JI)from rfl]
  show aM (d:=d+7) G.pick f7 ∅ ∅ λm S8 m0 m1 f8 _=>?_
  obtain⟨m,rfl⟩ : ∃k:Jx,m=k:=#[m.toNat,∅]
  show oR (d:=d+6) G L.drawn (many:=u.length) (size:=m) f8 ∅ ∅ ∅ λp S9 hpl hpn hpl2 f9 _=>?_
  have hP:Ord u.length p:=#[hpn,hpl2];show uR (d:=d+5) L.parts L.part hb hnl hu hP.lt hP.nd ∅ λS10 k10=>hK _ _ ?_
  clear hK K f6 f7 f8;have f10:=f9.ka k10;have gv:=cp hb hu hO.lt hO.nd;have gw:=cp hb hu hP.lt hP.nd;have iff:=Ab hb hT hu hO hol;have sub:fB (cu bs gs) u->fB (cu bs gs) (ah bs u p):=dZ hb hT hu hP;have vl:(ah bs u o).length<=7:=by rw[aD]; omega
  have wl:(ah bs u p).length<=7:=by rw[aD]; omega
  generalize ah bs u o=v at gv iff vl ⊢;generalize ah bs u p=w at gw sub wl ⊢;nofun
  have go:∀S',Ka S10 S'->K [ba (.ref 0),ba (.ref r),ba (.tup [.tup (ms.map W.str),.tup (JV aQ ns bs),.tup (gs.map az)]),ba (.int (u.length:JI)),ba (az u),ba (az v),ba (az w),gV,gV,gV,gV] S':=by
   intro S11 k11;show hK _ _ ?_;clear hK K;have GP:=f10.ka k11;nofun
   have go2:∀S',Ka S11 S'->K [ba (.ref 0),ba (.ref r),ba (.tup [.tup (ms.map W.str),.tup (JV aQ ns bs),.tup (gs.map az)]),ba (.int (u.length:JI)),ba (az u),ba (az v),ba (az w),gV,gV,gV,gV] S':=λS' k'=>hK _ _ (EW hfu L hs hml hnl hgs h64 hu (GP.ka k') λS9=>hR _ _ rfl)
   clear hK;dsimp only[wS,wT,wE,wA,wV,wG];show wK hfu L hb hnl hgs h64 gw ∅ (λhsw S12 k12=>?_) λhsw i j l S12 k12=>?_
   ·show ab (show aZ .isnot .non .non S12=ba (.bl false,S12)from rfl) ?_
    dsimp only[wB];show#[λz=>(by cases z),λ_=>?_]
    exact au (Q0:=Q') (λz=>by cases z) (λ_ Q2 hn2 _=>bA (hn2 _ _ (go2 S12 k12)))
   ·show ab (show aZ .isnot (.tup [.int i,.int j,.int l]) .non S12=ba (.bl true,S12)from rfl) ?_
    dsimp only[wB];show#[λ_=>?_,λz=>by cases z]
    show wK hfu L hb hnl hgs h64 hu ∅ (λhsu S13 k13=>absurd (sub hsu) hsw) λhsu i j l S13 k13=>?_
    show ab (show aZ .is (.tup [.int i,.int j,.int l]) .non S13=ba (.bl false,S13)from rfl) ?_
    dsimp only[wB];exact au (Q0:=Q') (λz=>by cases z) (λ_ Q2 hn2 _=>bA (hn2 _ _ (go2 S13 (k12.trans k13))))
  clear hK;dsimp only[wS,wT,wE,wA,wV,wG];have same:∀ {S:aa} {b:J3},Ka S10 S->aZ .ne (.bl b) (.bl b) S=ba (.bl false,S):=λ{S b} _=>by rw[G3]; simp
  show wK hfu L hb hnl hgs h64 hu ∅ (λhsu S11 k11=>?_) λhsu i j l S11 k11=>?_
  ·show ab (show aZ .is .non .non S11=ba (.bl true,S11)from rfl) ?_
   show wK hfu L hb hnl hgs h64 gv ∅ (λhsv S12 k12=>?_) λhsv i j l S12 k12=>absurd (iff.mpr hsu) hsv
   show ab (show aZ .is .non .non S12=ba (.bl true,S12)from rfl) (ab (same (k11.trans k12)) ?_)
   dsimp only[wB];exact au (Q0:=Q') (λz=>by cases z) (λ_ Q2 hn2 _=>bA (hn2 _ _ (go S12 (k11.trans k12))))
  ·show ab (show aZ .is (.tup [.int i,.int j,.int l]) .non S11=ba (.bl false,S11)from rfl) ?_
   show wK hfu L hb hnl hgs h64 gv ∅ (λhsv S12 k12=>absurd (iff.mp hsv) hsu) λhsv i j l S12 k12=>?_
   show ab (show aZ .is (.tup [.int i,.int j,.int l]) .non S12=ba (.bl false,S12)from rfl) (ab (same (k11.trans k12)) ?_)
   dsimp only[wB];exact au (Q0:=Q') (λz=>by cases z) (λ_ Q2 hn2 _=>bA (hn2 _ _ (go S12 (k11.trans k12))))
 clear hK;dsimp only[wS,wT,wE,wA,wV,wG];show aM (d:=d+7) G.pick f4 #v[] #v[] λv S5 _ _ f5 _=>?_
 dsimp only[iB,aF,wB];show au (Q0:=Q') (λ_ Q2 hn2 _=>?_) (λ_ Q2 hn2 _=>bA (hn2 _ _ (tl u0 S5 hu0 ∅ f5)))
 show st ?_;left;show G0 (d:=d+5) G L.bad hb hnl hgs h64 λq U S6 e6 _ hq k6=>?_
 have hqr:q≠r:=by have:=f5.lt; omega
 show Cv (d:=d+5) G L.ways L.world (tv:=ms.map W.str) (N:=JV aQ ns bs) (n:=bs.length) mml hs.pos hs.a3 zl n3 ∅ e6 hqr (f5.ka k6) λu S7 hul hu f7 _=>?_
 exact bA (hn2 _ _ (tl u S7 hu ∅ f7))
end
abbrev nA (i:Jx):Mx:=PySem.Challenge.pw_layworld_k17_whole_order_is_nothing.main.body.getD i (.Pass #[0,0,0,0])
abbrev C4:Df:=#[["_law_script"],["_law_script","_law_flow_here","_law_rule","_law_size","_law_world_here","_law_other","_law_some","_law_base","_law_order","_law_twin","_law_due"],kz]
noncomputable abbrev Tw:=JS×Jx×Df×Jx
noncomputable abbrev tw (x:JS)(i:Jx)(d:Df)(a:Jx):Tw:=(x,i,d,a)
abbrev TL:Jn Tw:=[tw "way" 1 #[["rule","world","i","j"],["rule","world","i","j"],uQ] 21,tw "part" 3 #[["rule","world","points"],["rule","world","points"],gr] 26,tw "point_over" 4 #[["rule","world","ahead","point"],["rule","world","ahead","point"],dU] 31,tw "least_form" 5 #[["rule","world"],["rule","world","form","orders","longer","lasts","least"],cZ] 36,tw "longer_orders" 6 #[["orders","size"],["orders","size","longer","order"],aJ] 41,tw "barred_threes" 8 #[["rule"],["rule","orders","barred","figure","order"],aU] 48,tw "three_at" 9 #[["world","i","j","k"],["world","i","j","k","one","two"],bu] 55,tw "first_barred" 10 #[["rule","world"],["rule","world"],b8] 62,tw "first_three" 11 #[["barred","world"],["barred","world","i","j","k"],bM] 69,tw "first_bar" 12 #[["barred","world"],["barred","world","last","point"],cf] 76,tw "wishes" 13 #[["rule","world"],["rule","world"],gy] 83,tw "wishes_over" 14 #[["rule","barred","world"],["rule","barred","world","found","mark","heads","size"],bN] 88,tw "longer_wishes" 15 #[["rule","heads"],["rule","heads","longer","mark","ways"],aV] 93,tw "_law_flow" 17 #[["_law_script"],["_law_script"],en] 100,tw "_law_pick" 18 #[["_law_flow_here","_law_many"],["_law_flow_here","_law_many","_law_cell","_law_digit"],cM] 107,tw "_law_letters" 19 #[["_law_flow_here","_law_many"],["_law_flow_here","_law_many"],dk] 112,tw "_law_name" 20 #[["_law_flow_here","_law_stem"],["_law_flow_here","_law_stem","_law_near"],fI] 119,tw "_law_names" 21 #[["_law_flow_here","_law_many"],["_law_flow_here","_law_many","_law_stem","_law_names_here","_law_k","_law_name_here","_law_spare"],cR] 126,tw "_law_between" 22 #[["_law_rule","_law_world_here","_law_i","_law_j"],["_law_rule","_law_world_here","_law_i","_law_j"],dq] 133,tw "_law_part" 23 #[["_law_rule","_law_world_here","_law_points"],["_law_rule","_law_world_here","_law_points","_law_told","_law_k","_law_i"],fJ] 138,tw "_law_turns" 24 #[[],[],gk] 145,tw "_law_figure" 25 #[["_law_rule","_law_three"],["_law_rule","_law_three"],dQ] 150,tw "_law_bad" 26 #[["_law_rule"],["_law_rule","_law_bad_here","_law_three","_law_points"],fw] 157,tw "_law_backs" 27 #[["_law_flow_here","_law_many"],["_law_flow_here","_law_many","_law_menu"],eN] 164,tw "_law_rule_of" 28 #[["_law_flow_here","_law_marks","_law_backs_here","_law_barred"],["_law_flow_here","_law_marks","_law_backs_here","_law_barred","_law_names_here","_law_ways"],dt] 169,tw "_law_free_three" 29 #[["_law_flow_here","_law_marks","_law_ways"],["_law_flow_here","_law_marks","_law_ways","_law_told","_law_k"],cj] 174,tw "_law_sizes" 30 #[["_law_flow_here"],["_law_flow_here","_law_menu"],eO] 181,tw "_law_any_rule" 31 #[["_law_flow_here"],["_law_flow_here","_law_marks","_law_ways","_law_rule","_law_barred","_law_k"],cX] 188,tw "_law_laying_kind" 32 #[["_law_flow_here"],["_law_flow_here","_law_menu"],bU] 195,tw "_law_breaks" 33 #[["_law_backs_here","_law_must","_law_to_one","_law_to_two","_law_between_here"],["_law_backs_here","_law_must","_law_to_one","_law_to_two","_law_between_here","_law_to","_law_pair","_law_x","_law_y","_law_z"],dR] 202,tw "_law_numbered" 34 #[["_law_flow_here","_law_backs_here","_law_must"],["_law_flow_here","_law_backs_here","_law_must","_law_many","_law_menu","_law_some","_law_numbers","_law_told","_law_k","_law_other","_law_u","_law_v"],bg] 207,tw "_law_laying_rule" 35 #[["_law_flow_here"],["_law_flow_here","_law_form","_law_backs_here","_law_must","_law_most","_law_marks","_law_rule","_law_barred","_law_many","_law_at","_law_one","_law_two","_law_between_here","_law_some","_law_first"],bV] 214,tw "_law_rising" 36 #[["_law_marks"],["_law_marks","_law_told","_law_i","_law_j"],dS] 219,tw "_law_free_rule" 37 #[["_law_flow_here"],["_law_flow_here","_law_marks","_law_ways","_law_rule","_law_k","_law_own","_law_free","_law_barred","_law_three"],cJ] 224,tw "_law_one_way_rule" 38 #[["_law_flow_here"],["_law_flow_here","_law_marks","_law_barred"],bG] 229,tw "_law_any_world" 39 #[["_law_flow_here","_law_rule","_law_many"],["_law_flow_here","_law_rule","_law_many","_law_told","_law_k","_law_mark"],bL] 234,tw "_law_new_ways" 40 #[["_law_flow_here","_law_rule","_law_bad_here","_law_world_here","_law_mark","_law_to"],["_law_flow_here","_law_rule","_law_bad_here","_law_world_here","_law_mark","_law_to","_law_k","_law_left","_law_w","_law_seen","_law_i"],bB] 241,tw "_law_world" 41 #[["_law_flow_here","_law_rule","_law_bad_here","_law_many"],["_law_flow_here","_law_rule","_law_bad_here","_law_many","_law_world_here","_law_k","_law_mark","_law_to"],dD] 248,tw "_law_alike" 42 #[["_law_found","_law_due"],["_law_found","_law_due"],aY] 253,tw "_law_digits" 43 #[["_law_many","_law_size"],["_law_many","_law_size","_law_told","_law_k"],bH] 258,tw "_law_worlds" 44 #[["_law_rule","_law_size"],["_law_rule","_law_size","_law_told","_law_k","_law_points","_law_mark"],cm] 263,tw "_law_figures" 45 #[["_law_rule"],["_law_rule"],du] 268,tw "_law_full_rule" 46 #[["_law_flow_here"],["_law_flow_here","_law_form","_law_marks","_law_many","_law_rule"],cK] 273,tw "_law_drawn_points" 47 #[["_law_flow_here","_law_many","_law_size"],["_law_flow_here","_law_many","_law_size","_law_left","_law_told"],bj] 280,tw "law" 48 C4 285]
abbrev jY:Jn (JS×Df):=TL.map λp=>(p.1,p.2.2.1)
abbrev IL:Jn (JS×Jx):=TL.map λp=>(p.1,p.2.2.1.ps.length)
abbrev Cy:Jn JS:=["range","len","list","tuple","int","set","sorted","isinstance","bool","str","all","min","zip","enumerate"]
abbrev E6:Md:=#[IL,Cy]
abbrev BD (x:JS)(st:Mx)(df:Df):Prop:=∀(kV doc pm:Jr) (an:Jw Jz) (cdv ct:Jr) (us:Jn Jr),us.length=df.ps.length->bindArgs (LY x x (dM st) (cD st) (aR st) .none kV doc pm an cdv ct) #[us,[]]=pure (df.ps.zip us)
def IW {us:Jn Jr}(h:us.length=0):us=[]:=Lb.mp h
def uc {us:Jn Jr}{n:Jx}(h:us.length=n+1):∃a t,us=a::t/\t.length=n:=by
 cases us with
 | nil=>cases h
 | cons a t=>exact#[a,t,rfl,T8 h]
def IX {us:Jn Jr}(h:us.length=1):∃a,us=[a]:=by obtain⟨a,t,rfl,g⟩:=uc h; cases IW g; exact#[a,rfl]
def IY {us:Jn Jr}(h:us.length=2):∃a b,us=[a,b]:=by obtain⟨a,t,rfl,g⟩:=uc h; obtain⟨b,rfl⟩:=IX g; exact#[a,b,rfl]
def IZ {us:Jn Jr}(h:us.length=3):∃a b c,us=[a,b,c]:=by obtain⟨a,t,rfl,g⟩:=uc h; obtain⟨b,c,rfl⟩:=IY g; exact#[a,b,c,rfl]
def Ja {us:Jn Jr}(h:us.length=4):∃a b c d,us=[a,b,c,d]:=by obtain⟨a,t,rfl,g⟩:=uc h; obtain⟨b,c,d,rfl⟩:=IZ g; exact#[a,b,c,d,rfl]
def Jb {us:Jn Jr}(h:us.length=5):∃a b c d e,us=[a,b,c,d,e]:=by obtain⟨a,t,rfl,g⟩:=uc h; obtain⟨b,c,d,e,rfl⟩:=Ja g; exact#[a,b,c,d,e,rfl]
def Jk {us:Jn Jr}(h:us.length=6):∃a b c d e f,us=[a,b,c,d,e,f]:=by obtain⟨a,t,rfl,g⟩:=uc h; obtain⟨b,c,d,e,f,rfl⟩:=Jb g; exact#[a,b,c,d,e,f,rfl]
abbrev DG (p:Tw):Prop:=Gc E6 (nA p.2.1) p.2.2.1/\FnScope p.2.2.1.N p.2.2.1.ps (aR (nA p.2.1))/\BD p.1 (nA p.2.1) p.2.2.1
def gc {α:Type}{F:α->Prop}{p:α}{L:Jn α}(a:F p)(b:∀q∈L,F q):∀q∈p::L,F q:=List.forall_mem_cons.mpr #[a,b]
def gn {α:Type}{F:α->Prop}:∀q∈([]:Jn α),F q:=λ_ h=>nomatch h
def Jl {p:Tw}(a:uw (cS 20 (yV E6 (nA p.2.1) p.2.2.1.N)) (cD (nA p.2.1))=ba p.2.2.1.body)(b:FnScope p.2.2.1.N p.2.2.1.ps (aR (nA p.2.1)))(c:BD p.1 (nA p.2.1) p.2.2.1):DG p:=#[a,b,c]
set_option maxHeartbeats 0 in
def C5:∀p∈TL,DG p:=by
 unfold TL
 repeat show gc (Jl (by kernel_rfl) #[rfl,rfl,rfl,by decide +kernel,rfl,by decide +kernel,by decide +kernel] λ_ _ _ _ _ _ us h=>by
  first
   | (obtain⟨a,rfl⟩:=IX h; rfl)
   | (obtain⟨a,b,rfl⟩:=IY h; rfl)
   | (obtain⟨a,b,c,rfl⟩:=IZ h; rfl)
   | (obtain⟨a,b,c,d,rfl⟩:=Ja h; rfl)
   | (obtain⟨a,b,c,d,e,rfl⟩:=Jb h; rfl)
   | (obtain⟨a,b,c,d,e,f,rfl⟩:=Jk h; rfl)
   | (obtain rfl:=IW h; rfl)) ?_
 exact gn
def G4 {f:JS}{m n:Jx}{b:Ss}(h:((jY.lookup f).map λd=>(d.ps.length,d.N.length,d.body))=ba (m,n,b)):Is jY f m n b:=by
 rw[Js]at h;obtain⟨d,h1,h2⟩:=h;rw[Su,Su]at h2;exact#[d,h1,h2.1,h2.2.1,h2.2.2]
set_option maxHeartbeats 0 in
def G5:Lw17 jY:=by
 repeat' first
  | exact G4 (by kernel_rfl)
  | constructor
def lU:∀(L:Jn Tw) (x:JS) (n:Jx),(L.map λp=>(p.1,p.2.2.1.ps.length)).lookup x=ba n->∃p∈L,p.1=x/\p.2.2.1.ps.length=n/\(L.map λp=>(p.1,p.2.2.1)).lookup x=ba p.2.2.1
 | [],x,n,h=>by cases h
 | p::L,x,n,h=>by
  rw[KO,KY]at h;rw[KO,KY];cases e:x==p.1 with
  | true=>
   rw[e]at h;cases h;exact#[p,KP ..,(eq_of_beq e).symm,rfl,rfl]
  | false=>
   rw[e]at h;obtain⟨q,h1,h2,h3,h4⟩:=lU L x n h;exact#[q,KA _ h1,h2,h3,h4]
section
variable{P:Kf}{w:Kq}{K:JE}{mg:JS->Jw Jr}{base:Kv}
abbrev An (K:JE)(mg:JS->Jw Jr)(x:JS)(st:Mx)(df:Df):Prop:=∃(f:Jz) (fd:Mf),Fun K x x st f fd/\mg x=ba (.ref f)/\Lj K (.ref f)=true/\Binds K fd df.ps []
def EX {h:Kv}{x:JS}{st:Mx}{df:Df}{f:Jz}{oc:Jr}{od an:Jw Jz}{osl:J7 (Jw Jr)}{kV doc pm cdv ct:Jr}(X:K.In h)(G:h.Ns mainGlobals mg)
  (b:BD x st df)
  (a:Nf K mainGlobals x=ba (ba (.ref f))) (l:K.lookup f=ba #[oc,od,.func (LY x x (dM st) (cD st) (aR st) .none kV doc pm an cdv ct),osl]) (c:MC K cdv x=true) (k:Lj K (.ref f)=true):An K mg x st df:=
 have F:=xw (st:=st) l c k
 #[f,_,F,Sv X G a,k,F.binds b]
def Ao {fuel:Jx}(hb:MdOk w K mg E6)(D:∀p∈TL,An K mg p.1 (nA p.2.1) p.2.2.1):∀d,CL P w K mg base E6 jY fuel d
 | 0=>λf n h=>by
  obtain⟨p,h1,rfl,h2,h3⟩:=lU TL f n h;obtain⟨fa,fd,F,m,kp,b⟩:=D p h1;show#[fa,fd,p.2.2.1.ps,#[λvs H Q E z=>?_,λA outer s H args us vs Q E hr he hbd hv z=>?_],m,kp,b]
  all_goals
   obtain⟨_,_,_,_,_,_,_,_,z,_⟩:=z;cases z
 | d+1=>λf n h=>by
  obtain⟨p,h1,rfl,h2,h3⟩:=lU TL f n h;obtain⟨g1,g2,_⟩:=C5 p h1;obtain⟨fa,fd,F,m,kp,b⟩:=D p h1;show#[fa,fd,p.2.2.1.ps,?_,m,kp,b];rw[<- h2];exact CM F g2 h3 g1 hb (Ao hb D d)
def G6 {h:Kv}(X:K.In h)(G:h.Ns mainGlobals mg)(z:∀y∈Cy,Nf K mainGlobals y=ba gV):MdOk w K mg E6:=#[λy hy=>PySem.W.mg_none_of X G (z y hy)]
end
def EY {l:Pi}{w:Kq}{K:JE}{h:Kv}{mg:JS->Jw Jr}{fa f:Jz}(X:K.In h)(G:h.Ns mainGlobals mg)(hfa:mg "law" = ba (.ref fa))(hb:MdOk w K mg E6)(D:∀p∈TL,An K mg p.1 (nA p.2.1) p.2.2.1)
  {oc:Jr} {od an:Jw Jz} {osl:J7 (Jw Jr)} {kV doc pm cdv ct:Jr} (a:Nf K mainGlobals "law" = ba (ba (.ref f))) (l':K.lookup f=ba #[oc,od,.func (LY "law" "law" (dM (nA 48)) (cD (nA 48)) (aR (nA 48)) .none kV doc pm an cdv ct),osl]) (c:MC K cdv "law" = true) (k:Lj K (.ref f)=true) :
  ∃fd:Mf,(∀(s:Jt) (v:Jr),Qw s fd #[[v],[]] [("_law_script",v)])/\∀base:Kv,K.In base->base.Ns mainGlobals mg->FnOk l.prog w K mg base wL 9 fa fd ["_law_script"] (spF w K 1 (am jY 100 9 "law")):=by
 have e:=hfa.symm.trans (Sv X G a);cases e;have F:=xw (st:=nA 48) l' c k;exact#[LY "law" "law" (dM (nA 48)) (cD (nA 48)) (aR (nA 48)) .none kV doc pm an cdv ct,λs v=>.of_eq rfl,λbase _ _=>CM (df:=C4) F #[rfl,rfl,rfl,by decide +kernel,rfl,by decide +kernel,by decide +kernel] (by rfl) (by rfl) hb (Ao hb D 8)]
def IM {l:Pi}{q:Kf}{loose:Jn JS}{XP:(JS->Jw Jr)->Kv->Prop}{YP:Kq->Kv->Prop}{d:DefRec}{K:Qk->JE}(hn:l.most=ba 63)(hdf:d.params.defaults=[])
  (hY:∀(w:Kq) (h:Kv),YP w h->(K w.params).In h)
  (F:∀(w:Kq) (mg:JS->Jw Jr) (fa:Jz) (h:Kv),(K w.params).In h->h.Ns mainGlobals mg->mg d.name=ba (.ref fa)->
   ∃fd:Mf,(∀(s:Jt) (u:Jr),Qw s fd #[[u],[]] [("_law_script",u)])/\∀base:Kv,(K w.params).In base->base.Ns mainGlobals mg->FnOk l.prog w (K w.params) mg base wL 9 fa fd ["_law_script"] (spF w (K w.params) 1 (am jY 100 9 "law"))) :
  R9 q loose XP YP l.row.toRowW d [] (λf vs=>RN f vs):=
 L2.AR (n:=63) (k:=9) (x:="_law_script") (CX:=λ_=>wL) (sp:=λw=>spF w (K w.params) 1 (am jY 100 9 "law")) hn #v[] hdf #[rfl,#v[],#v[]] hY F
  (λw H a ns hl hO hS=>Ei (Am (defs:=jY) (fuel:=100) (d:=0) #v[] G5) hO hS) λ_ _ _ _ _ z=>z
end Mi
open PySem PySem.W PyProof.Rows L2
set_option maxHeartbeats 0
namespace Mi
section
abbrev pw:Kf:=Oa
abbrev ge (P:Qk)(n:JS)(t:Jx)(v:Jr):L5:=#[PyData.keyHash P n,.str n t,v]
abbrev kd (a:Jx)(es:Jn L5)(n:Jx):Jz×Lr:=(a,#[.type "dict",gV,.dict es.toArray n,#[]])
abbrev kc (a:Jx)(vs:Jn Jr):Jz×Lr:=(a,#[.type "code",gV,.fields vs.toArray,#[]])
abbrev kf (a:Jx)(st:Mx)(n:JS)(pm cd:Jr):Jz×Lr:=(a,#[.type "function",gV,.func (LY n n (dM st) (cD st) (aR st) .none .none .none pm gV cd .none),#[]])
abbrev IN (i:Jx):Jr:=if i<=1 then(.str "layworld.worlds" 187)else if i<=6 then(.str "layworld.parts" 199)else if i<=15 then(.str "layworld.threes" 225)else(.str "law_layworld_k17_whole_order_is_nothing" 299)
abbrev kx (a:Jx)(b:J3)(i:Jx)(s:JS)(t:Jx)(l p:JI)(m:Jx)(R:JE):JE:=kc a [.str s t,.str s (t+1),.str "/claim/cut.py" (t+2),.int l 0,.int p 0,.int 0 0,.int 0 0,.int 3 0,.ref (if b then a - 5 else a - 3),.bool true,.int 181 0,.ref (if b then a - 4 else a - 2),.none,if b then .ref (a - 3)else .none,if b then .ref (a - 2)else .none,.ref (a - 1),.int m 0,.int l 0,.str "/claim/cut.py" (m+1)]::kf (a+1) (nA i) s (IN i) (.ref a)::R
abbrev K0 (P:Qk):JE:=kd 3 [ge P "__name__" 165 (.str "law_layworld_k17_whole_order_is_nothing" 299),ge P "__doc__" 166 .none,ge P "__package__" 167 .none,ge P "__loader__" 168 (.builtin "__main__.__loader__#opaque"),ge P "__spec__" 169 .none,ge P "__annotations__" 170 (.ref 6),ge P "__builtins__" 171 (.ref 4),ge P "__file__" 173 (.str "/claim/cut.py" 172),ge P "__cached__" 174 .none,ge P "way" 198 (.ref 21),ge P "part" 206 (.ref 26),ge P "point_over" 212 (.ref 31),ge P "least_form" 218 (.ref 36),ge P "longer_orders" 224 (.ref 41),ge P "barred_threes" 237 (.ref 48),ge P "three_at" 249 (.ref 55),ge P "first_barred" 257 (.ref 62),ge P "first_three" 268 (.ref 69),ge P "first_bar" 278 (.ref 76),ge P "wishes" 286 (.ref 83),ge P "wishes_over" 292 (.ref 88),ge P "longer_wishes" 298 (.ref 93),ge P "_law_flow" 307 (.ref 100),ge P "_law_pick" 317 (.ref 107),ge P "_law_letters" 323 (.ref 112),ge P "_law_name" 332 (.ref 119),ge P "_law_names" 345 (.ref 126),ge P "_law_between" 355 (.ref 133),ge P "_law_part" 361 (.ref 138),ge P "_law_turns" 367 (.ref 145),ge P "_law_figure" 373 (.ref 150),ge P "_law_bad" 383 (.ref 157),ge P "_law_backs" 392 (.ref 164),ge P "_law_rule_of" 398 (.ref 169),ge P "_law_free_three" 404 (.ref 174),ge P "_law_sizes" 412 (.ref 181),ge P "_law_any_rule" 424 (.ref 188),ge P "_law_laying_kind" 432 (.ref 195),ge P "_law_breaks" 448 (.ref 202),ge P "_law_numbered" 454 (.ref 207),ge P "_law_laying_rule" 475 (.ref 214),ge P "_law_rising" 481 (.ref 219),ge P "_law_free_rule" 487 (.ref 224),ge P "_law_one_way_rule" 493 (.ref 229),ge P "_law_any_world" 499 (.ref 234),ge P "_law_new_ways" 516 (.ref 241),ge P "_law_world" 530 (.ref 248),ge P "_law_alike" 536 (.ref 253),ge P "_law_digits" 542 (.ref 258),ge P "_law_worlds" 548 (.ref 263),ge P "_law_figures" 554 (.ref 268),ge P "_law_full_rule" 560 (.ref 273),ge P "_law_drawn_points" 571 (.ref 280),ge P "law" 577 (.ref 285)] 54::(kx 20 true 1 "way" 189 2 4 196
 (kx 25 false 3 "part" 201 7 3 204
 (kx 30 false 4 "point_over" 207 9 4 210
 (kx 35 false 5 "least_form" 213 11 2 216
 (kx 40 false 6 "longer_orders" 219 21 2 222
 (kx 47 true 8 "barred_threes" 227 27 1 235
 (kx 54 true 9 "three_at" 238 36 4 247
 (kx 61 true 10 "first_barred" 250 40 2 255
 (kx 68 true 11 "first_three" 258 42 2 266
 (kx 75 true 12 "first_bar" 269 49 2 276
 (kx 82 true 13 "wishes" 279 55 2 284
 (kx 87 false 14 "wishes_over" 287 57 3 290
 (kx 92 false 15 "longer_wishes" 293 65 2 296
 (kx 99 true 17 "_law_flow" 301 71 1 305
 (kx 106 true 18 "_law_pick" 308 73 2 315
 (kx 111 false 19 "_law_letters" 318 88 2 321
 (kx 118 true 20 "_law_name" 324 90 2 330
 (kx 125 true 21 "_law_names" 333 98 2 343
 (kx 132 true 22 "_law_between" 346 111 4 353
 (kx 137 false 23 "_law_part" 356 115 3 359
 (kx 144 true 24 "_law_turns" 362 121 0 365
 (kx 149 false 25 "_law_figure" 368 123 2 371
 (kx 156 true 26 "_law_bad" 374 125 1 381
 (kx 163 true 27 "_law_backs" 384 131 2 390
 (kx 168 false 28 "_law_rule_of" 393 134 4 396
 (kx 173 false 29 "_law_free_three" 399 138 3 402
 (kx 180 true 30 "_law_sizes" 405 143 1 410
 (kx 187 true 31 "_law_any_rule" 413 146 1 422
 (kx 194 true 32 "_law_laying_kind" 425 153 1 430
 (kx 201 true 33 "_law_breaks" 433 162 5 446
 (kx 206 false 34 "_law_numbered" 449 170 3 452
 (kx 213 true 35 "_law_laying_rule" 455 185 1 473
 (kx 218 false 36 "_law_rising" 476 205 1 479
 (kx 223 false 37 "_law_free_rule" 482 211 1 485
 (kx 228 false 38 "_law_one_way_rule" 488 224 1 491
 (kx 233 false 39 "_law_any_world" 494 228 3 497
 (kx 240 true 40 "_law_new_ways" 500 234 6 514
 (kx 247 true 41 "_law_world" 517 247 4 528
 (kx 252 false 42 "_law_alike" 531 255 2 534
 (kx 257 false 43 "_law_digits" 537 267 2 540
 (kx 262 false 44 "_law_worlds" 543 272 2 546
 (kx 267 false 45 "_law_figures" 549 280 1 552
 (kx 272 false 46 "_law_full_rule" 555 282 1 558
 (kx 279 true 47 "_law_drawn_points" 561 291 3 569
 (kx 284 false 48 "law" 572 297 1 575 [])))))))))))))))))))))))))))))))))))))))))))))
abbrev Jc:Jn Jx:=[3,20,21,25,26,30,31,35,36,40,41,47,48,54,55,61,62,68,69,75,76,82,83,87,88,92,93,99,100,106,107,111,112,118,119,125,126,132,133,137,138,144,145,149,150,156,157,163,164,168,169,173,174,180,181,187,188,194,195,201,202,206,207,213,214,218,219,223,224,228,229,233,234,240,241,247,248,252,253,257,258,262,263,267,268,272,273,279,280,284,285]
abbrev vq:Kf:={ pw with main:={ pw.main with body:=[nA 48] } }
abbrev lo:Jn JS:=[("way" : JS),("part" : JS),("point_over" : JS),("least_form" : JS),("longer_orders" : JS),("barred_threes" : JS),("three_at" : JS),("first_barred" : JS),("first_three" : JS),("first_bar" : JS),("wishes" : JS),("wishes_over" : JS),("longer_wishes" : JS),("_law_flow" : JS),("_law_pick" : JS),("_law_letters" : JS),("_law_name" : JS),("_law_names" : JS),("_law_between" : JS),("_law_part" : JS),("_law_turns" : JS),("_law_figure" : JS),("_law_bad" : JS),("_law_backs" : JS),("_law_rule_of" : JS),("_law_free_three" : JS),("_law_sizes" : JS),("_law_any_rule" : JS),("_law_laying_kind" : JS),("_law_breaks" : JS),("_law_numbered" : JS),("_law_laying_rule" : JS),("_law_rising" : JS),("_law_free_rule" : JS),("_law_one_way_rule" : JS),("_law_any_world" : JS),("_law_new_ways" : JS),("_law_world" : JS),("_law_alike" : JS),("_law_digits" : JS),("_law_worlds" : JS),("_law_figures" : JS),("_law_full_rule" : JS),("_law_drawn_points" : JS)]
abbrev EL (K:JE)(p:Tw):Prop:=Nf K mainGlobals p.1=ba (ba (.ref p.2.2.2))/\K.lookup p.2.2.2=ba (kf p.2.2.2 (nA p.2.1) p.1 (IN p.2.1) (.ref (p.2.2.2 - 1))).2/\MC K (.ref (p.2.2.2 - 1)) p.1=true/\Lj K (.ref p.2.2.2)=true
def Jm {K:JE}{p:Tw}(e:Nf K mainGlobals p.1=ba (ba (.ref p.2.2.2)))(l:K.lookup p.2.2.2=ba (kf p.2.2.2 (nA p.2.1) p.1 (IN p.2.1) (.ref (p.2.2.2 - 1))).2)(c:MC K (.ref (p.2.2.2 - 1)) p.1=true)(k:Lj K (.ref p.2.2.2)=true):EL K p:=#[e,l,c,k]
def G7 (P:Qk):∀p∈TL,EL (K0 P) p:=by
 unfold TL
 repeat show gc (Jm (by kernel_rfl) (by kernel_rfl) (by kernel_rfl) (by kernel_rfl)) ?_
 exact gn
def G8 (P:Qk):∀y∈Cy,Nf (K0 P) mainGlobals y=ba gV:=by
 unfold Cy
 repeat show gc (F:=λy=>Nf (K0 P) mainGlobals y=ba gV) (by kernel_rfl) ?_
 exact gn
def eK:∀P,Jc=(K0 P).map (·.1):=λ_=>by kernel_rfl
abbrev hk:PySem.W.Hook:=PySem.W.kHook K0 Jc eK
def hl:PySem.W.LeftO pw vq lo (λs=>SN vq [] s&&Sw [] s) hk.obs hk.val 2856:=λw=>by kernel_rfl
def s0:PySem.Challenge.rw_layworld_k17_whole_order_is_nothing.row.wellSaid=true:=by kernel_rfl
end
end Mi
end
end ZZ.Lean
open ZZ.Lean
theorem PySem.Challenge.cw_layworld_k17_whole_order_is_nothing_holds : PySem.Challenge.rw_layworld_k17_whole_order_is_nothing.Holds := by
 w_on
 show PySem.W.holds_law (KC (KC (KC (KC (KC (KC (KC (KC (KC (KC (KC (KC (KC (KC (KC (KC (KC (KC (Mi.s0) (by kernel_rfl)) (by kernel_rfl)) (by kernel_rfl)) (by kernel_rfl)) (by kernel_rfl)) (by kernel_rfl)) (by kernel_rfl)) (by kernel_rfl)) (by kernel_rfl)) (by kernel_rfl)) (by kernel_rfl)) (by kernel_rfl)) (by kernel_rfl)) (by kernel_rfl)) (by kernel_rfl)) (by kernel_rfl)) (by kernel_rfl)) (by kernel_rfl)) (λsaid=>?_)
 show PySem.W.holds_open (q:=Mi.vq) (loose:=Mi.lo) (Xt:=λs=>SN Mi.vq [] s&&Sw [] s) (XP:=PySem.W.XL Mi.vq []) (Yf:=Mi.hk.obs) (Ya:=Mi.hk.val) (YP:=Mi.hk.says) (N:=2856) Mi.hl Mi.hk.of Mi.hk.keeps (λs e=>PySem.W.xl_of s (PX.mp e).1) TM (by rfl) (by rfl) (by rfl) (λs e=>PySem.W.recFacts_of (PX.mp e).2) (by rfl) said (by decide +kernel) #[rfl,rfl,rfl,rfl,rfl,by decide +kernel] ?hw ?hc
 case hw=>w_witness2
 case hc=>
 show Mi.IM (l:=Ob) (K:=Mi.K0) rfl rfl (λw h Yq=>PySem.W.kIn_of Yq) ?F
 case F=>
  intro w mg fa h KX G hmg;exact Mi.EY KX G hmg (Mi.G6 KX G (Mi.G8 w.params)) (λp hp=>let ⟨e,l,c,k⟩:=Mi.G7 w.params p hp; Mi.EX KX G (Mi.C5 p hp).2.2 e l c k)
   (f:=285) (oc:=.type "function") (od:=gV) (an:=gV) (osl:=#[]) (kV:=.none) (doc:=.none) (pm:=(.str "law_layworld_k17_whole_order_is_nothing" 299)) (cdv:=.ref 284) (ct:=.none) (by kernel_rfl) (by kernel_rfl) (by kernel_rfl) (by kernel_rfl)
