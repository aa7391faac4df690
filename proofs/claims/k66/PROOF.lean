import PyProof.Rows.All
import Wide.All
import OpenK.AllK
import Wide.FinOn
import Lean
import PyProof.EqAt
import PyProof.EqKinds
import PyProof.TupleCall
import PySem.Challenge.RW_layworld_k66_unlike_worlds_told
import KE.KDictList
import PyProof.SetKind
import PyProof.IsRules
import KE.KSortTup
import PyProof.ZipIter
import PyProof.Draws
import PyProof.EnumMake
import PyProof.WalksEnum
noncomputable section
open Option renaming some->ba,none->gV
set_option hygiene false
local macro_rules|`(abbrev $i:declId $s:optDeclSig $v:declVal)=>`(noncomputable def $i:declId $s:optDeclSig $v:declVal)|`(def $i:declId $b* :$t $v:declVal)=>`(theorem $i:declId $b* :$t $v:declVal)|`(tactic|omega)=>`(tactic|first|lia|omega (config:={}))|`(tactic|show $e:term)=>`(tactic|refine $e:term)|`(↥$x)=>`(($x).length)|`(⇑$x)=>`(($x).size)|`(tactic|delta $x*)=>`(tactic|dsimp only[$[$x:ident],*])|`(tactic|revert $x*)=>`(tactic|simp only[$[$x:term],*])|`(tactic|left)=>`(tactic|dsimp only[wS,wE,wA,wV,wG,List.set])|`(tactic|nofun)=>`(tactic|refine aG λK hK=>?_)
local macro_rules|`(#v[])=>`((by decide))|`(#v[$x:term])=>`(.cons $x .nil)|`(#v[$x:term,$y:term,*])=>`(.cons $x #v[$y,*])
local macro_rules|`(#[$x:term])=>`(⟨$x⟩)|`(#[$x:term,$y:term,*])=>`(⟨$x,$y,*⟩)
local macro_rules|`(∅)=>`((by omega))
open _root_ renaming List->J5,Option->Ke,Nat->Kf,Int->Ks,if_pos->KF,decide_eq_true_eq->KG,Array->KL,if_neg->KM,Bool->KU,decide_eq_false->Le,of_decide_eq_true->Lo,beq_self_eq_true->Lv,if_false->LO,False->LV,decide_eq_true->LZ,String->L1,if_true->Mm,or_false->Mo,of_decide_eq_false->MU,decide_eq_false_iff_not->NP,DecidableEq->NQ,beq_eq_false_iff_ne->Pg,forall_congr'->Rs,bne_self_eq_false->R4,not_or->Sq,decide_true->SL,True->SN,decide_false->Uj,dif_pos->UU,Unit->Vc
open PySem renaming wpAny_bind->J6,Value->J9,Shared->Kc,wpAny_pure->Kd,Addr->Kj,Str->KJ,Expr->KP,SetTable->K1,Program->K9,Around->Ld,World->Ll,wpAny_newObj_type->Ln,sizeLine_eq->Lp,Heap->Lq,wpAny_callSpecial?_slot->LA,wpAny_call_entry->LG,wpAny_holding->LK,codeAny_builtin->LM,wpAny_setState_of->LW,wpAny_seqItems->L9,Obj->Mf,wpAny_field->Mh,wpAny_mono->MB,NameKind->MD,plainId_quiet->MH,wpAny_typeNameOfWhole_keyiter->MW,wpAny_truthy_bool->MZ,DictEntry->M0,Pos->Na,Spec->Nd,FuncData->Nf,wpAny_setField_rec->Nh,wpAny_passesOwn->Nn,wpAny_typeNameOf_keyiter->Nz,Stmt->NB,mem_of_lookup->ND,Builtin->NE,wpAny_askSetting->NH,wpAny_isInstance->NI,wpAny_typeOf->NT,wpAny_ite_split->NZ,wpAny_attempt->N3,Scope->N5,wpAny_pyIter_list->N7,wpAny_letGo->Od,wpAny_forIn_list->Om,wpAny_updateSeq->OC,wpAny_Call_Name_kw->OE,wpAny_of_eq->ON,codeAny_mono->OP,wpAny_runValue->OV,wpAny_dictEntries->OX,IsPair->O5,wpAny_standAt->O6,wpAny_loadPart'->Pc,wpAny_setEntries_of->Ph,wpAny_rule->Pq,IsPart->Ps,call_meets->Pw,isSubtype_stop->PB,wpAny_fieldsOf->PC,wpAny_newTuple->PD,wpAny_setField->PH,wpAny_tryCatch->PJ,wpAny_pyIter_slot->P2,wpAny_newList->Qa,wpAny_comprehension_free->Qc,noFill_tuple_add->Qe,Paired->Qj,wpAny_load->Ql,ItemsOf->Qp,wpAny_execs_nil->Qv,codeAny_of_tree->Qz,wpAny_specialOf->QA,wpAny_dictEpoch->QC,builtinLookup_eq_fast->QI,wpAny_isSame_ref_self->QK,wpAny_isOneOf_keyiter->QN,GenState->QR,wpAny_pyIter_keyiter->QV,wpAny_updateSeq_pair->Q1,PassesOwn->Rc,Keyword->Re,rangeSize_one->Rl,seq_tuple_add->Rm,wpAny_handled->Ro,IsZip->Rr,Params->Rz,sub_set_self->RA,wpAny_pyIter_tuple->RG,Env->RK,wpAny_assign_Name->RL,Operator->RN,BindsTo->RO,concat_meets->RQ,wpAny_sequenceKey->RS,seqIndex_neg->RT,list_append->RV,wpAny_setEpoch_of->RZ,wpAny_pyIter_enum->R9,wpAny_pyHash_int->Sd,wpAny_pyHash_str->Se,Result->Sh,wpAny_pyIter_zip->Sx,seqIndex_of->SH,wpAny_throw->SI,Walks->SJ,wpAny_mkInt->SK,typeLookup_type->SS,wpAny_Name->Tc,wpAny_bindName->Td,typeIs_int->Tf,fitsIndex_both->Ti,call->Tk,isSubtype_type->To,entryFor_alias->Tp,callType_newIn->Tx,intBits_le_64->TH,evalPart_none->TK,call_list_seq->TM,wpAny_onRaise->T6,small_one->Ua,CmpOp->Ub,call_range_1->Ue,IsRangeIter->Ut,wpAny_alloc->Uz,Sem->UC,BoolOp->UR,IsEnum->US,IsRange->UW,Fin->tv,Drawn->Va,Model->Vb,Tok->Vk
open List renaming length_map->J7,getElem?_map->Kh,length_append->Kk,getElem?_eq_getElem->Kl,mem_map->Kn,mem_of_getElem?->Ko,getElem?_eq_some_iff->Kq,mem_singleton->Kt,set->Kv,mem_range->Kx,size_toArray->Ky,all_eq_true->KA,mem_cons->KD,range->KH,zipWith->KI,length_range->KQ,getD_eq_getElem?_getD->KY,length_cons->KZ,length_take->K2,map_append->K5,mem_append_right->K6,take_add_one->K8,mem_append->La,take_length->Lb,replicate->Lf,getElem?_append_left->Lg,not_mem_nil->Li,getElem_mem->Lm,getElem?_eq_none_iff->Lz,all_cons->LD,map_cons->LF,length_eq_zero_iff->LI,mem_cons_of_mem->LL,mem_append_left->LN,length_singleton->LQ,map_congr_left->LS,mem_flatMap->LU,mem_cons_self->LX,nodup_cons->LY,mem_iff_getElem->L3,map_map->L5,mem_filter->L7,getElem?_append_right->Mg,append_nil->Ml,lookup_cons->Mn,replicate_succ->Mr,append_assoc->Mt,dropLast_concat_getLast->MA,mem_of_mem_take->MF,getElem?_set->MK,pairwise_map->ML,getElem?_range->MM,flatMap_append->MN,length_nil->MO,getElem_inj->MR,length_drop->MS,eq_nil_of_length_eq_zero->MY,flatMap_cons->M3,length_zipWith->M6,idxOf_lt_length_of_mem->M8,any_cons->M9,ext_getElem->Nb,zip_cons_cons->Ng,take_append_drop->Ni,length_filter_le->Nk,pairwise_iff_getElem->Nm,flatten_cons->Nq,length_dropLast->Nw,length_erase_of_mem->NA,filterMap_cons->NC,foldlM_cons->NM,nodup_range->NO,take_append_of_le_length->NR,take_of_length_le->NW,length_pos_of_mem->NX,find?_cons->N1,range_succ->N2,getElem?_eq_none->N4,getElem_take->N8,nodup_append->N9,mem_erase_of_ne->Oe,perm_ext_iff_of_nodup->Of,nodup_iff_pairwise_ne->Oi,exists_mem_of_ne_nil->Ot,getElem?_take_of_lt->Ox,ne_nil_of_mem->OL,drop_of_length_le->OW,length_replicate->OZ,getElem_map->O4,map_take->O8,mem_of_mem_drop->Pa,getElem?_of_mem->Pb,forIn_cons->Pd,mem_filterMap->Pr,length_eraseIdx_of_lt->Pz,drop_zero->PF,pairwise_cons->PL,nodup_nil->PM,mem_eraseDups->PN,filter_append->PP,getElem_idxOf->PQ,extract_eq_take_drop->PU,rel_of_pairwise_cons->PV,getElem?_zip_eq_some->PX,ext_getElem?->P3,perm_middle->Qi,getElem?_set_self->Qk,range_succ_eq_map->Qn,of_mem_zip->Qw,find?_some->QH,getElem?_zipWith->QQ,getElem?_set_ne->QS,pairwise_append->QY,forIn_nil->QZ,replicate_succ'->Q6,dropLast_concat->Q7,getLastD_concat->Q8,eraseDups_cons->Ri,length_pos_iff->Rj,mem_map_of_mem->Rk,find?_eq_none->RD,Nodup->RE,getElem_range->RF,take_sublist->RP,map_nil->RX,zip_nil_left->RY,any_toArray->Sr,isEmpty_iff->Sz,cons_ne_nil->SC,getLast_mem->SD,cons_append->SF,length->SG,foldl_cons->SR,foldr_cons->SY,drop_left'->Ta,foldl->Th,take_zero->Tz,all_map->Uh,map->UA
open PySem.Heap renaming get?_push_of_some->J8,get?_push_size->Ku,lt_size->KC,get?_update_other->Lr,get?_update_self->Ma,size_push->Mj,SameBut->Mw,get?_update_ne->Ov,ExtBut->QU,size_update->Su
open Option renaming map_eq_some_iff->Kb,map_some->Lk,isSome_iff_exists->Lx,map_eq_none_iff->OU,getD_none->Sj,getD_some->Sy,map_map->Tq,toList->T7
open Bool renaming and_eq_true->Kg,false_ne_true->KS,false_eq_true->KT,or_eq_true->My,not_true->Ny,not_eq_true'->N6,and_true->Oz,true_and->O7,and_false->Px,eq_false_iff->P5,false_or->P8,eq_iff_iff->QG,and_eq_false_iff->QJ,not_false->QT,and_eq_true_iff->Q9,or_false->Rn
open Nat renaming le_refl->Ki,ne_of_lt->KO,lt_of_lt_of_le->KR,le_trans->KW,zero_le->LC,lt_irrefl->LR,lt_succ_self->L0,lt_of_le_of_lt->L6,ne_of_gt->Mb,div_lt_of_lt_mul->MX,le_add_right->Nc,le_of_ble_eq_true->Nj,not_lt_zero->No,le_succ->Nr,lt_succ_of_lt->Nt,pow_le_pow_right->Nv,le_of_lt->NS,lt_or_gt_of_ne->NU,eq_or_lt_of_le->NV,eq_zero_or_pos->NY,mul_le_mul->Og,mul_le_mul_right->Oh,succ_mul->Oj,mul_comm->Ol,pow_le_pow_left->Ow,mod_lt->OF,lt_trans->OS,lt_trichotomy->OY,succ_le_succ->O2,pow_succ->Pn,le_of_lt_succ->P4,not_lt->Qo,div_div_eq_div_mul->Qq,succ_pos->Qr,mul_zero->Qu,lt_or_ge->R5,sub_zero->R6,lt_succ_of_le->R7,le_of_not_lt->Sn,succ_ne_zero->So,div_eq_of_lt->Sv,min_eq_right->SA,min_eq_left->SZ,add_assoc->TW,add_comm->Uf,min_self->Ui,zero_add->Uo,add_zero->Uq,sub_self->Us,ble->Vn
open Array renaming length_toList->Km,getElem?_eq_some_iff->K7,getElem?_eq_getElem->Lh,getElem?_toList->LJ,size_map->LP,getD->Ms,mem_toList_iff->ME,mem_of_getElem?->MQ,map->NL,toList_extract->Oc,getElem?_replicate->OA,forIn_toList->OG,getElem?_map->OH,getElem_toList->O9,toList_append->Pi,perm_iff_toList_perm->PK,toList_push->P1,toList_map->Qg,replicate->QF,append_assoc->Rv,filterMap->SU,map_map->TX,toList->Ud
open PySem.W renaming Frag->Kr,look_both->Lu,keepIn->L8,fnOf->MV,kia_one->Np,codeIn->NG,kas_sort->NN,nsIn->Oo,methodObj->PZ,cellsFrom_some->Qm,OpenLaw->Qx,kat_nil->QE,KdlSrc->QX,WalkO->TN,recOk->TQ,Looks->TZ,mg_of->T9,xlAt->Ug
open Int renaming toNat_natCast->Kw,natCast_nonneg->Kz,emod_lt_of_pos->MT,emod_nonneg->M4,toNat_of_nonneg->Ou,ediv_nonneg->Pf,zero_add->Qt,natCast_mul->Qy
open PySem.SetTable renaming insertAt->KN,below->Lj,turns->Mk,bits->MJ,layClean->Nu,Probe->NJ,grown->NK,advance->On,runEnd->OD,sizeAbove->OI,fits->Rp,leap->Rq,tooFull->Sw,relaid->SX,fresh->Tv,laid->T3,slot->T4,fill->T5,has->Ur,sameMemory->UL,probeStart->UM,gaveWay->U5,put->Vm
open Option.some renaming injEq->K4,inj->LB
open PySem.Value renaming ref->Lc,none->Ls,type->Mq,bool->Oa,str->O0,int->Qd
open PySem.Around renaming under_plainId->LH
open PySem.Obj renaming mapSeq->L4,data_mapFields->OJ,isFreed_of_fields->QP,cls_mapFields->R1,mapFields->TY
open PySem.Builtin.List renaming listExtendWith->Mc,listTooLong->Nx,listLengthHint->Pk,listSameRef->P7,listFitsIndex->Tj
open Classical renaming byContradiction->Mp,propDecidable->Uc
open PySem.Builtin.Tuple renaming tupleExact->Mu,tupleItemsOf->Ob,tupleHashOf->Oq,tupleCompareSizes->Sc,tupleIsExact->Tl
open PySem.Builtin.SmallTypes renaming ownedTupleIsFree->Mv,ownedTupleHandOut->M5,nextOf->PY
open PySem.Str renaming ofString->Mx,length->UO,join->Vh
open ForInStep renaming yield->Mz
open PySem.Builtin.Range renaming rangeSize->MC,small->Pj
open PyProof.Rows renaming callWith_type1->MG,slot_tuple_getitem->MP,subscriptTail_builtinR->OR,assignInOrder_cons->Pp,AllBare->P0,listUpdate_at->P9,SortKind->Qf,get?_update_seq->QD,entry_tuple_getitem->Rg,lt_int->Rh,args_tuple_getitem->Rx,IsTup->RJ,assignInOrder_nil->RM,listItems_at->R3,callWith_builtin1->Si,seqEpoch_at->SM,entry_list_sort->SW,IntsAre->Tb,slicePart_none->Te,slot_list_sort->Tt,args_list_sort->Tu,tupleItemsOf_->TJ,plain_sorted->Uk,entry_sorted->Ul,args_sorted1->Um,kind_sorted->UB,Call_->Vd
open PySem.SetTable.probe renaming go->M1
open PySem.SetTable.layClean renaming free->M7
open PySem.Builtin.Slice renaming slicePlaces->Nl,sliceAdjust->Op,sliceApplied->Pu,slicePartIndex->SO,sliceFields->TB
open PySem.Heap.SameBut renaming update->NF,refl->R0
open PySem.Calls renaming call_function_entry->Os,Name_function_global->Po,Constant_str->Rw
open PySem.F renaming args_tuple_add_2->Oy,entry_tuple_add->OM,plainAttrs_list->OO,slot_tuple_add->OQ,slot_dict_get->QL
open PySem.NameKind renaming free->OB,cell->Vi
open PySem.SetTable.below renaming go->OT
open PySem.SeqAt renaming EqAt->O1,notIn_listAt->Ry,in_tupleAt->Sk,in_listAt->SQ
open True renaming intro->O3
open PySem.Builtin.Dict_items renaming ownsTuple->Pe
open PySem.Builtin.Builtins renaming bindParams->Pl
open PySem.Challenge renaming pw_layworld_k66_unlike_worlds_told->Py,rw_layworld_k66_unlike_worlds_told->PR
open PySem.Paired renaming length->P6
open List.Pairwise renaming imp_of_mem->Qb,nil->UT,imp->UV
open PySem.SetTable.Probe.mk renaming injEq->Qh
open PySem.Env renaming kindOf->Qs
open PySem.Builtin.Dict renaming showsAll->QM,dictSlotNone->TD,pendingCount->TF
open Sum renaming inl->Ra,inr->Rb
open PySem.Expr renaming Name->Rf
open PySem.SeqAt.EqAt renaming int_str->Rt,str_int->Ru,none_bool->Uu,bool_none->Uv,bool_bool->Uw,none_int->UD,none_str->UE,bool_int->UF,bool_str->UG,int_none->UH,int_bool->UI,str_none->UJ,str_bool->UK,int_int->UP,str_str->UQ,same->U7
open PUnit renaming unit->RB
open PySem.Code renaming quiet_builtin->RC
open PySem.ScopeKind renaming function->RH
open PySem.AutoListH renaming list___mul___list_int_3->RI
open PySem.AutoSeq1 renaming list_extend_list_list_0->RW,sub_tuple_tuple->TR
open Function renaming comp_def->R8,comp->Vj
open PyProof.Rows.IsTup renaming new->Sg
open PySem.IsL renaming update->Sl
open PySem.Builtin.Frozenset renaming updateFrom->SV,newClass->Tn,sizeOf->TU
open PySem.Walks renaming list->Ts
open PySem.Builtin.Str renaming tooLong->TC,glued->UX
open PySem.Moved renaming eq_with->TV
open List.Perm renaming map->T0,nil_eq->U4,swap->Vg
open Prod.mk renaming injEq->T8
open PySem.MeetsSeq renaming list_pop_at->Ux
open PySem.Txt renaming join->Uy,mul->Vl
open PySem.Heap.IsSliceOf renaming new->UN
open List.Sublist renaming refl->UY
open PySem.Flow renaming next->UZ
open PySem.W.Looks renaming ld->tx
open PySem.W.XL renaming keeps->U6
open PySem.PassesOwn renaming never->U8
open List.cons renaming injEq->U9
open Prod renaming ext->Ve
open Or renaming inr->Vf
open Nat.succ renaming inj->Vo
set_option genSizeOf false
namespace ZZ.Lean
noncomputable section
set_option Elab.async false
set_option linter.all false
set_option maxRecDepth 100000
namespace L2
open PySem PySem.Spec PyProof.Rows
noncomputable abbrev nH:=Sum Ks KJ
abbrev Db:nH->J9->KU
 |.inl k,v=>Value.isInt k v
 |.inr x,v=>Value.isStrOf x v
abbrev Ir (w:Ll):nH->Ks
 |.inl k=>hashInt k
 |.inr x=>hashStr w x
def bp:∀{k:nH}{v:J9},Db k v=true->(∃i t,k=Ra i/\v=Qd i t)\/(∃x t,k=Rb x/\v=O0 x t)
 |.inl i,v,h=>by
  obtain⟨t,e⟩:=Value.isInt_shape (k:=i) (v:=v) h;show .inl #[i,t,rfl,e]
 |.inr x,v,h=>by
  obtain⟨t,e⟩:=Value.isStrOf_shape (x:=x) (v:=v) h;show .inr #[x,t,rfl,e]
def DH (a b:Ks):decide ((Ra a:nH)=Ra b)=(a==b):=by
 by_cases e:a=b
 ·subst e;simp
 ·have h:¬ (Ra a:nH)=Ra b:=λq=>e (Sum.inl.inj q)
  rw[Le h];show(Pg.mpr e).symm
def DI (a b:KJ):decide ((Rb a:nH)=Rb b)=decide (a=b):=by
 by_cases e:a=b
 ·subst e;simp
 ·have h:¬ (Rb a:nH)=Rb b:=λq=>e (Sum.inr.inj q)
  rw[Le h,Le e]
def DJ (a:Ks)(b:KJ):decide ((Ra a:nH)=Rb b)=false:=Le (λq=>nomatch q)
def DK (a:KJ)(b:Ks):decide ((Rb a:nH)=Ra b)=false:=Le (λq=>nomatch q)
abbrev nI (prog:K9)(w:Ll):PySem.KeyKind prog w nH where
 is:=Db
 hash:=Ir w
 inj:=λv a b ha hb=>by
  rcases bp ha with⟨i,t,rfl,rfl⟩|⟨x,t,rfl,rfl⟩
  ·rcases bp hb with⟨j,u,rfl,e⟩|⟨y,u,rfl,e⟩
   ·injection e with e1 _;rw[e1]
   ·show nomatch e
  ·rcases bp hb with⟨j,u,rfl,e⟩|⟨y,u,rfl,e⟩
   ·show nomatch e
   ·injection e with e1 _;rw[e1]
 byValue:=λk v h=>by
  rcases bp h with⟨i,t,rfl,rfl⟩|⟨x,t,rfl,rfl⟩<;>rfl
 pyHash:=λhv h=>by
  rcases bp hv with⟨i,t,rfl,rfl⟩|⟨x,t,rfl,rfl⟩
  ·show Sd h
  ·show Se h
 eqBool:=λhu hv h=>by
  rcases bp hu with⟨i,t,rfl,rfl⟩|⟨x,t,rfl,rfl⟩
  ·rcases bp hv with⟨j,u,rfl,rfl⟩|⟨y,u,rfl,rfl⟩
   ·rw[DH]at h;show wpAny_eqBool_int h
   ·rw[DJ]at h;show Rt i t y u _ _ _ _ h
  ·rcases bp hv with⟨j,u,rfl,rfl⟩|⟨y,u,rfl,rfl⟩
   ·rw[DK]at h;show Ru x t j u _ _ _ _ h
   ·rw[DI]at h;show wpAny_eqBool_str h
 «strs»:=λk x t v h=>by
  rcases bp h with⟨i,u,rfl,e⟩|⟨y,u,rfl,e⟩
  ·show nomatch e
  ·injection e with e1 _
   subst e1;cases v<;>rfl
inductive V where
 |non|bl (b:KU)|int (i:Ks)|str (x:KJ)|byt (b:KL UInt8)|flt (b:UInt64)|ref (a:Kj)|ty (n:L1)
 deriving NQ
abbrev RelV:V->J9->Prop
 |.non,u=>u=Ls
 |.bl b,u=>u=Oa b
 |.int i,u=>∃t,u=Qd i t
 |.str x,u=>∃t,u=O0 x t
 |.byt b,u=>∃t,u=Value.bytes b t
 |.flt b,u=>∃t,u=Value.float b t
 |.ref a,u=>u=Lc a
 |.ty n,u=>u=Mq n
noncomputable abbrev Vals:J5 V->J5 J9->Prop:=Qj RelV
def Vals.length {xs:J5 V}{us:J5 J9}(r:Vals xs us):↥xs=↥us:=P6 r
def Vals.get:∀{xs:J5 V}{us:J5 J9}{i:Kf}{x:V},Vals xs us->xs[i]?=ba x->∃u,us[i]?=ba u/\RelV x u
 |_,_,_,_,.nil,e=>by simp at e
 |_,_,0,_,.cons r _,e=>by simp at e;subst e;show#[_,rfl,r]
 |_,_,i+1,x,.cons _ t,e=>by
  obtain⟨u,h1,h2⟩:=Vals.get (i:=i) (x:=x) t (by simpa using e)
  show#[u,by simpa using h1,h2]
def Vals.set {x:V}{u:J9}(r:RelV x u):∀{xs:J5 V}{us:J5 J9} (i:Kf),Vals xs us->Vals (xs.set i x) (us.set i u)
 |_,_,_,.nil=>.nil
 |_,_,0,.cons _ t=>.cons r t
 |_,_,i+1,.cons q t=>.cons q (Vals.set r i t)
def Vals.append:∀{xs ys:J5 V}{us ws:J5 J9},Vals xs us->Vals ys ws->Vals (xs++ys) (us++ws)
 |_,_,_,_,.nil,s=>s
 |_,_,_,_,.cons r t,s=>.cons r (Vals.append t s)
def Vals.take:∀{xs:J5 V}{us:J5 J9} (n:Kf),Vals xs us->Vals (xs.take n) (us.take n)
 |_,_,0,_=>.nil
 |_,_,_+1,.nil=>.nil
 |_,_,n+1,.cons r t=>.cons r (Vals.take n t)
def Vals.drop:∀{xs:J5 V}{us:J5 J9} (n:Kf),Vals xs us->Vals (xs.drop n) (us.drop n)
 |_,_,0,r=>r
 |_,_,_+1,.nil=>.nil
 |_,_,n+1,.cons _ t=>Vals.drop n t
abbrev FX:Ke V->Ke J9->Prop
 |some v,ba u=>RelV v u
 |none,gV=>SN
 |_,_=>LV
abbrev KV {κ:Type}:J5 (κ×V)->J5 (κ×J9)->Prop:=Qj λ(p:κ×V) (q:κ×J9)=>p.1=q.1/\RelV p.2 q.2
abbrev kV:nH->V
 |.inl i=>.int i
 |.inr x=>.str x
inductive HO where
 |lst (xs:J5 V)
 |tup (xs:J5 V)
 |dK (U:J5 (nH×V))|dT (U:J5 (J5 nH×V))
 |set (S:Ks->KU) (n:Kf)
 |ins (C dx:Kj) (fs:J5 (KJ×V))
 |own (x:Kj)
 |xd (fs:J5 (KJ×V))
 |met (f x:Kj)
 |rng (lo hi:Ks)
 |frz (o:Mf) (u:HO)
 |tbl (ps:KL J9)
 |ext (φ:Lq->Prop)
noncomputable abbrev Hp:=Kj->Ke HO
abbrev bx (H:Hp)(a:Kj)(o:HO):Hp:=λb=>if b=a then ba o else H b
def aJ {H:Hp}{a:Kj}{o:HO}:bx H a o a=ba o:=by unfold bx;rw[KF rfl]
def aC {H:Hp}{a b:Kj}{o:HO}(h:b≠a):bx H a o b=H b:=by unfold bx;rw[KM h]
def dW {H:Hp}{a b:Kj}{o:HO}(h:H a=ba o)(h':H b=gV):a≠b:=by
 intro e;subst e;rw[h]at h';cases h'
section
variable (P:K9) (w:Ll)
abbrev ObjOk (H:Hp)(h:Lq)(a:Kj):HO->Prop
 |.lst xs=>↥xs<=sizeLine/\∃(its:J5 J9) (n:Kf),Vals xs its/\h.get? a=ba {cls:=.type "list",data:=.seq its.toArray n}
 |.tup xs=>↥xs<=sizeLine/\∃its:J5 J9,Vals xs its/\RJ h a its.toArray
 |.dK U=>↥U<=sizeLine/\(a==sysModules)=false/\∃vs,KV U vs/\h.DictOf (nI P w) a vs
 |.dT U=>↥U<=sizeLine/\(a==sysModules)=false/\∃xs:J5 (J5 nH×Kj×J9),
   Qj (λ(p:J5 nH×V) (q:J5 nH×Kj×J9)=>p.1=q.1/\H q.2.1=ba (.tup (p.1.map kV))/\RelV p.2 q.2.2) U xs/\
   ∃o es ep,h.get? a=ba o/\o.ExactDict/\o.data=.dict es ep/\es.toList=xs.map (entryOfKey (tupleKind (nI P w)))/\(xs.map (·.1)).Nodup
 |.set S n=>h.SetOf (intKind P w) a S n
 |.ins C dx fs=>H dx=ba (.own a)/\↥fs<=1000/\dx≠a/\h.get? a=ba (PySem.W.instObj C dx)/\
   ∃mA,h.Ns1 dx mA/\(∀f,FX (fs.lookup f) (mA f))/\PySem.Within mA (fs.map (·.1))
 |.own _=>∃o,h.get? a=ba o
 |.xd fs=>∃mA,h.Ns1 a mA/\∀f,FX (fs.lookup f) (mA f)
 |.rng lo hi=>∃t u v,h.get? a=ba {cls:=.type "range",data:=.fields [.int lo t,.int hi u,.int 1 v].toArray}
 |.frz o u=>h.get? a=ba o/\ObjOk H h a u
 |.tbl ps=>h.get? a=ba {cls:=.none,data:=.fields ps}
 |.met f x=>h.get? a=ba (PZ (.ref f) (.ref x))
 |.ext φ=>φ h/\(∃o,h.get? a=ba o)/\∀h1 h2:Lq,φ h1->(∀o,h1.get? a=ba o->h2.get? a=ba o)->φ h2
abbrev HOk (H:Hp)(h:Lq):Prop:=∀a o,H a=ba o->ObjOk P w H h a o
end
section
variable{P:K9}{w:Ll}{H H':Hp}{h h':Lq}{a:Kj}{o:HO}
def ObjOk.lt (x:ObjOk P w H h a o):a<⇑h.objs:=by
 cases o with
 |lst xs=>obtain⟨_,_,_,_,e⟩:=x;show KC e
 |tup xs=>obtain⟨_,_,_,p⟩:=x;show p.lt
 |dK U=>obtain⟨_,_,_,_,o,_,_,e,_⟩:=x;show KC e
 |dT U=>obtain⟨_,_,_,_,o,_,_,e,_⟩:=x;show KC e
 |set S n=>obtain⟨o,_,_,_,e,_⟩:=x;show KC e
 |ins C dx fs=>obtain⟨_,_,_,e,_⟩:=x;show KC e
 |own y=>obtain⟨_,e⟩:=x;show KC e
 |xd fs=>obtain⟨_,⟨_,_,_,e,_⟩,_⟩:=x;show KC e
 |rng lo hi=>obtain⟨_,_,_,e⟩:=x;show KC e
 |frz ob u=>obtain⟨e,_⟩:=x;show KC e
 |tbl ps=>show KC (show h.get? a=ba _ from x)
 |met f y=>show KC (show h.get? a=ba _ from x)
 |ext φ=>obtain⟨_,⟨_,e⟩,_⟩:=x;show KC e
def Paired.mapP {α β:Type}{F G:α->β->Prop}:∀{l₁:J5 α}{l₂:J5 β},Qj F l₁ l₂->(∀a b,F a b->G a b)->Qj G l₁ l₂
 |_,_,.nil,_=>.nil
 |_,_,.cons r t,f=>.cons (f _ _ r) (Paired.mapP t f)
def ObjOk.stay (x:ObjOk P w H h a o)(k:∀b u,(b=a\/H b=ba (.own a))->h.get? b=ba u->h'.get? b=ba u)
  (ho:∀b,H b=ba (.own a)->H' b=ba (.own a)) (ht:∀b xs,H b=ba (.tup xs)->H' b=ba (.tup xs)):ObjOk P w H' h' a o:=by
 induction o with
 |lst xs=>obtain⟨z,its,n,r,e⟩:=x;show#[z,its,n,r,k _ _ (.inl rfl) e]
 |tup xs=>obtain⟨z,its,r,ob,e,c⟩:=x;show#[z,its,r,ob,k _ _ (.inl rfl) e,c]
 |dK U=>obtain⟨z,y,vs,r,ob,es,ep,e,c⟩:=x;show#[z,y,vs,r,ob,es,ep,k _ _ (.inl rfl) e,c]
 |dT U=>
  obtain⟨z,y,xs,r,ob,es,ep,e,c⟩:=x;show#[z,y,xs,Paired.mapP r λp q z=>#[z.1,ht _ _ z.2.1,z.2.2],ob,es,ep,k _ _ (.inl rfl) e,c]
 |set S n=>obtain⟨ob,es,ep,t,e,c⟩:=x;show#[ob,es,ep,t,k _ _ (.inl rfl) e,c]
 |ins C dx fs=>
  obtain⟨d,z,ne,e,mA,⟨od,es,ep,e2,c⟩,r⟩:=x;show#[ho _ d,z,ne,k _ _ (.inl rfl) e,mA,#[od,es,ep,k _ _ (.inr d) e2,c],r]
 |own y=>obtain⟨ob,e⟩:=x;show#[ob,k _ _ (.inl rfl) e]
 |xd fs=>obtain⟨mA,⟨od,es,ep,e,c⟩,r⟩:=x;show#[mA,#[od,es,ep,k _ _ (.inl rfl) e,c],r]
 |rng lo hi=>obtain⟨t,u,v,e⟩:=x;show#[t,u,v,k _ _ (.inl rfl) e]
 |frz ob u ih=>obtain⟨e,q⟩:=x;show#[k _ _ (.inl rfl) e,ih q]
 |tbl ps=>
  have e:h.get? a=ba {cls:=.none,data:=.fields ps}:=x;change h'.get? a=ba {cls:=.none,data:=.fields ps};show k a _ (.inl rfl) e
 |met f y=>
  have e:h.get? a=ba (PZ (.ref f) (.ref y)):=x;change h'.get? a=ba (PZ (.ref f) (.ref y));show k a _ (.inl rfl) e
 |ext φ=>obtain⟨p,⟨o,e⟩,st⟩:=x;show#[st _ _ p λo q=>k _ _ (.inl rfl) q,#[o,k _ _ (.inl rfl) e],st]
def HOk.lt (x:HOk P w H h)(e:H a=ba o):a<⇑h.objs:=(x a o e).lt
def HOk.fresh (x:HOk P w H h)(e:⇑h.objs<=a):H a=gV:=by
 cases q:H a with
 |none=>rfl
 |some u=>show absurd (KR (x.lt q) e) (LR _)
def HOk.kept (x:HOk P w H h)(k:∀b u,h.get? b=ba u->h'.get? b=ba u):HOk P w H h':=λa o e=>
 (x a o e).stay (λb u _ q=>k b u q) (λ_ q=>q) λ_ _ q=>q
def HOk.laid (x:HOk P w H h)(k:∀b u,h.get? b=ba u->h'.get? b=ba u)(hp:⇑h.objs<=a)(new:ObjOk P w (bx H a o) h' a o):HOk P w (bx H a o) h':=λb u e=>by
 have hn:=x.fresh hp
 by_cases hb:b=a
 ·subst hb;rw[aJ]at e;cases e;show new
 ·rw[aC hb]at e;show(x b u e).stay (λc v _ q=>k c v q) (λc q=>by rw[aC (dW q hn)];show q) λc xs q=>by rw[aC (dW q hn)];show q
end
abbrev Rd (H:Hp)(a:Kj)(u:HO):Prop:=H a=ba u\/∃o,H a=ba (.frz o u)
def Rd.ok {P:K9}{w:Ll}{H:Hp}{h:Lq}{a:Kj}{u:HO}(r:Rd H a u)(x:HOk P w H h):ObjOk P w H h a u:=by
 rcases r with r|⟨o,r⟩
 ·show x a u r
 ·obtain⟨_,q⟩:=x a _ r;show q
abbrev FY:Ke HO->Prop
 |some (.lst _)=>SN
 |some (.dK _)=>SN
 |some (.dT _)=>SN
 |some (.set _ _)=>SN
 |some (.ins _ _ _)=>SN
 |some (.ext _)=>SN
 |_=>LV
section
variable{P:K9}{w:Ll}{H:Hp}{h h':Lq}{x e:Kj}{o':HO}
def HOk.write (ok:HOk P w H h)(mu:FY (H x))(he:e=x\/H e=ba (.own x))(k:∀b u,b≠e->h.get? b=ba u->h'.get? b=ba u)(heo:∃u,h'.get? e=ba u)
  (new:ObjOk P w (bx H x o') h' x o'):HOk P w (bx H x o') h':=λb u q=>by
 have nown:∀c y,H c=ba (.own y)->c≠x:=λc y r z=>by subst z;rw[r]at mu;show mu
 have ntup:∀c xs,H c=ba (.tup xs)->c≠x:=λc xs r z=>by subst z;rw[r]at mu;show mu
 by_cases hb:b=x
 ·subst hb;rw[aJ]at q;cases q;show new
 ·rw[aC hb]at q
  by_cases hbe:b=e
  ·have q':H b=ba (.own x):=by
    rcases he with z|z
    ·show absurd (hbe.trans z) hb
    ·rw[hbe];show z
   rw[q]at q';cases q'
   obtain⟨v,hv⟩:=heo;show#[v,by rw[hbe];show hv]
  ·show(ok b u q).stay (λc v hc r=>k c v ?_ r) (λc r=>by rw[aC (nown c b r)];show r) λc xs r=>by rw[aC (ntup c xs r)];show r
   rcases hc with rfl|hc
   ·show hbe
   ·rintro rfl;rcases he with z|z
    ·show nown c b hc z
    ·rw[hc]at z;cases z;show hb rfl
end
structure Un (fs ex:J5 Kj)(H H':Hp)(h h':Lq):Prop where
 keep:∀b o,h.get? b=ba o->H b=gV->b∉fs->b∉ex->h'.get? b=ba o
 slot:∀b o,h.get? b=ba o->H b=gV->b∈fs->b∉ex->∃sl,h'.get? b=ba {o with slots:=sl}
 free:∀b o,h.get? b=ba o->H b=gV->b∉ex->H' b=gV
 there:∀b o,h.get? b=ba o->b∉ex->∃o',h'.get? b=ba o'
 tups:∀b xs,H b=ba (.tup xs)->H' b=ba (.tup xs)
 frzs:∀b o u,H b=ba (.frz o u)->H' b=ba (.frz o u)
 tbls:∀b ps,H b=ba (.tbl ps)->∃more,H' b=ba (.tbl (ps++more))
section
variable{fs fs' ex ex':J5 Kj}{H H1 H2:Hp}{h h1 h2 h':Lq}{a x e:Kj}{o:HO}
def Un.any (u:Un fs ex H H1 h h1){b:Kj}{ob:Mf}(q:h.get? b=ba ob)(n:H b=gV)(hx:b∉ex):∃sl,h1.get? b=ba {ob with slots:=sl}:=by
 by_cases hb:b∈fs
 ·show u.slot b ob q n hb hx
 ·show#[ob.slots,u.keep b ob q n hb hx]
def Un.trans (a:Un fs ex H H1 h h1)(b:Un fs ex H1 H2 h1 h2):Un fs ex H H2 h h2 where
 keep:=λc ob q n hc hx=>b.keep c ob (a.keep c ob q n hc hx) (a.free c ob q n hx) hc hx
 slot:=λc ob q n hc hx=>by
  obtain⟨sl,e1⟩:=a.slot c ob q n hc hx;obtain⟨sl',e2⟩:=b.slot c _ e1 (a.free c ob q n hx) hc hx;show#[sl',e2]
 free:=λc ob q n hx=>by
  obtain⟨o',e1⟩:=a.there c ob q hx;show b.free c o' e1 (a.free c ob q n hx) hx
 there:=λc ob q hx=>by
  obtain⟨o',e1⟩:=a.there c ob q hx;show b.there c o' e1 hx
 tups:=λc xs q=>b.tups c xs (a.tups c xs q)
 frzs:=λc ob xs q=>b.frzs c ob xs (a.frzs c ob xs q)
 tbls:=λc ps q=>by
  obtain⟨m1,e1⟩:=a.tbls c ps q;obtain⟨m2,e2⟩:=b.tbls c _ e1;show#[m1++m2,by rw[e2,Rv]]
def Un.kept (k:∀b u,h.get? b=ba u->h'.get? b=ba u):Un fs ex H H h h':=
 #[λb ob q _ _ _=>k b ob q,λb ob q _ _ _=>#[ob.slots,k b ob q],λ_ _ _ n _=>n,λb ob q _=>#[ob,k b ob q],λ_ _ q=>q,λ_ _ _ q=>q,λ_ ps q=>#[#[],by rw[q];simp]]
def Un.refl:Un fs ex H H h h:=Un.kept λ_ _ q=>q
def Un.laid (k:∀b u,h.get? b=ba u->h'.get? b=ba u)(hp:⇑h.objs<=a)(hn:H a=gV):Un fs ex H (bx H a o) h h' where
 keep:=λb u q _ _ _=>k b u q
 slot:=λb u q _ _ _=>#[u.slots,k b u q]
 free:=λb u q n _=>by rw[aC (KO (KR (KC q) hp))];show n
 there:=λb u q _=>#[u,k b u q]
 tups:=λb xs q=>by rw[aC (dW q hn)];show q
 frzs:=λb u xs q=>by rw[aC (dW q hn)];show q
 tbls:=λb ps q=>#[#[],by rw[aC (dW q hn),q];simp]
def Un.write (mu:FY (H x))(he:e=x\/H e=ba (.own x))(k:∀b u,b≠e->h.get? b=ba u->h'.get? b=ba u)(heo:∃u,h'.get? e=ba u):Un fs ex H (bx H x o) h h':=by
 have hx:∀b,H b=gV->b≠x:=λb n z=>by subst z;rw[n]at mu;show mu
 have hb:∀b,H b=gV->b≠e:=λb n z=>by
  subst z;rcases he with r|r
  ·show hx b n r
  ·rw[n]at r;cases r
 have hm:∀b u,H b=ba u->¬ FY (ba u)->b≠x:=λb u q nm z=>by subst z;rw[q]at mu;show nm mu
 show#[λb u q n _ _=>k b u (hb b n) q,λb u q n _ _=>#[u.slots,k b u (hb b n) q],λb u q n _=>by rw[aC (hx b n)];show n,λb u q _=>?_,
  λb xs q=>by rw[aC (hm b _ q λz=>z)];show q,λb u xs q=>by rw[aC (hm b _ q λz=>z)];show q,λb ps q=>#[#[],by rw[aC (hm b _ q λz=>z),q];simp]]
 by_cases hbe:b=e
 ·subst hbe;show heo
 ·show#[u,k b u hbe q]
end
abbrev Ic (h:Lq)(H:Hp):J5 Kj:=(KH ⇑h.objs).filter λa=>(H a).isSome
abbrev nJ (h:Lq)(H:Hp):Lq:=PySem.W.hideAll h (Ic h H)
def vw (h:Lq)(H:Hp):(nJ h H).objs.size=⇑h.objs:=PySem.W.hideAll_size _ _
def xt {h:Lq}{H:Hp}{b:Kj}{o:Mf}(e:h.get? b=ba o)(n:H b=gV):(nJ h H).get? b=ba o:=
 PySem.W.hideAll_get _ e λhm=>by
  have q:(H b).isSome=true:=(L7.mp hm).2;rw[n]at q;simp at q
def AS {h:Lq}{H:Hp}{b:Kj}{o:Mf}(e:(nJ h H).get? b=ba o):h.get? b=ba o/\H b=gV:=by
 have e':h.get? b=ba o:=PySem.W.of_hideAll (Ic h H) e;show#[e',?_];cases q:H b with
 |none=>rfl
 |some x=>
  have hm:b∈Ic h H:=L7.mpr #[Kx.mpr (KC e'),by simp[q]]
  have z:(nJ h H).get? b=gV:=PySem.W.hideAll_none (Ic h H) hm;rw[z]at e;cases e
abbrev AT (g h:Lq)(L:Kj):J5 (Kj×Mf):=(KH ⇑h.objs).filterMap λa=>if a=L\/(g.get? a).isSome=true then gV else(h.get? a).map λo=>(a,o)
abbrev aQ (g h:Lq)(L d:Kj):J5 (Kj×Mf):=(AT g h L).filter λp=>decide (p.1≠d)
structure Mod (K:Kr)(mg:KJ->Ke J9)(base:Lq):Prop where
 kin:K.In base
 glob:base.Ns mainGlobals mg
 blt:∃mb,base.Ns builtinsNs mb/\∀x:KJ,x≠"__name__"->mb x=bootBuiltins x
 nolimit:base.NoLimit
structure Cx where
 prog:K9
 w:Ll
 K:Kr
 mg:KJ->Ke J9
 base:Lq
 A:Ld
 N:J5 KJ
 s₀:Kc
 H₀:Hp
 env:RK
 outer:J5 RK
 stack:J5 RK
 ex:J5 Kj
 fn:KJ->KU
 calm:KU
 pn:J5 (Kj×Mf)
 xe:J9->Kc->Prop
abbrev rM (l:J5 RK):J5 Kj:=l.filterMap (·.frame)
noncomputable abbrev Cx.fs (X:Cx):J5 Kj:=rM X.outer
abbrev Ig (sc:N5)(x:KJ):Prop:=sc.names.lookup x=ba .local\/sc.names.lookup x=ba .cell\/sc.names.lookup x=ba .free
abbrev AU (sc:N5)(x:KJ):Prop:=sc.names.lookup x=ba .local\/sc.names.lookup x=ba .cell
abbrev Iu (env:RK)(h:Lq)(m:KJ->Ke J9)(x:KJ)(u:J9):Prop:=
 (env.kindOf x=ba .local/\m x=ba u)\/((env.kindOf x=ba .cell\/env.kindOf x=ba .free)/\∃c,env.cells.lookup x=ba c/\h.IsCell c (ba u))
structure Cx.Ok (X:Cx):Prop where
 mod:Mod X.K X.mg X.base
 kind:X.env.scope.kind=.function
 glob:X.env.globals=mainGlobals
 blt:X.env.builtins=builtinsNs
 above:⇑X.s₀.heap.objs<=X.env.locals
 inj:∀x y c,X.env.cells.lookup x=ba c->X.env.cells.lookup y=ba c->x=y
 has:∀x,(X.env.kindOf x=ba .cell\/X.env.kindOf x=ba .free)->∃c,X.env.cells.lookup x=ba c
 cab:∀x c,X.fn x=true->X.env.cells.lookup x=ba c->⇑X.s₀.heap.objs<=c
 hd:X.calm=true->X.A.handled=gV
 frames:X.A.frames=ba X.stack
 stk:X.stack=X.outer\/(X.stack=X.env::X.outer/\X.env.frame=ba X.env.locals)
 exf:∀b∈X.ex,b≠X.env.locals/\∀x c,X.env.cells.lookup x=ba c->c≠b
 bs:∀b o,X.base.get? b=ba o->X.s₀.heap.get? b=ba o/\X.H₀ b=gV
 bsz:⇑X.base.objs<=⇑X.s₀.heap.objs
 noex:∀b o,X.base.get? b=ba o->b∉X.ex
 exfs:∀b∈X.ex,b∉X.fs
 funs:X.s₀.heap.FunFrames X.base X.outer
 frf:∀b∈X.fs,X.H₀ b=gV
structure Inv (X:Cx)(J:J5 (Kj×Mf))(Y:J5 (Ke V))(H:Hp)(s:Kc):Prop where
 ok:X.Ok
 os:s.os=X.s₀.os
 bare:P0 s.gens
 base:Un X.fs X.ex X.H₀ H X.s₀.heap s.heap
 loc:∃m,s.heap.Ns X.env.locals m/\∀(i:Kf) (x:KJ) (v:V),X.N[i]?=ba x->Y[i]?=ba (ba v)->Ig X.env.scope x->∃u,RelV v u/\Iu X.env s.heap m x u
 cell:∀x c,X.env.cells.lookup x=ba c->∃v,s.heap.IsCell c v
 free:H X.env.locals=gV
 freeC:∀x c,X.env.cells.lookup x=ba c->H c=gV
 pin:∀p∈X.pn++J,s.heap.get? p.1=ba p.2/\H p.1=gV/\p.1≠X.env.locals/\p.1∉X.fs/\∀v,p.2.data≠.cell v
 hok:HOk X.prog X.w H s.heap
 len:↥Y=↥X.N
section
variable{X:Cx}{J:J5 (Kj×Mf)}{Y:J5 (Ke V)}{H H':Hp}{s:Kc}{h':Lq}
def Cx.Ok.nofr (ok:X.Ok){b:Kj}{o:Mf}(e:X.base.get? b=ba o):b∉X.fs:=λhb=>by
 have:=(ok.funs.mem hb).1;rw[e]at this;cases this
def Inv.bs (I:Inv X J Y H s):∀b o,X.base.get? b=ba o->s.heap.get? b=ba o/\H b=gV:=λb o e=>
 #[I.base.keep b o (I.ok.bs b o e).1 (I.ok.bs b o e).2 (I.ok.nofr e) (I.ok.noex b o e),I.base.free b o (I.ok.bs b o e).1 (I.ok.bs b o e).2 (I.ok.noex b o e)]
def Inv.bk (I:Inv X J Y H s):∀b o,X.base.get? b=ba o->s.heap.get? b=ba o:=λb o e=>(I.bs b o e).1
def Inv.mod (I:Inv X J Y H s):Mod X.K X.mg X.base:=I.ok.mod
def Inv.kIn (I:Inv X J Y H s):X.K.In s.heap:=I.ok.mod.kin.keeps I.bk
def Inv.lt (I:Inv X J Y H s):X.env.locals<⇑s.heap.objs:=let ⟨_,hn,_⟩:=I.loc;hn.lt
def Inv.sz (I:Inv X J Y H s):⇑X.s₀.heap.objs<=⇑s.heap.objs:=KW I.ok.above (NS I.lt)
def Inv.nofs (I:Inv X J Y H s){a:Kj}(h:⇑s.heap.objs<=a):a∉X.fs:=λhb=>by
 obtain⟨_,o,ho,_⟩:=I.ok.funs.mem hb;show absurd (KR (KC ho) (KW I.sz h)) (LR _)
def Inv.cne (I:Inv X J Y H s):∀x c,X.env.cells.lookup x=ba c->c≠X.env.locals:=λx c e z=>by
 obtain⟨v,o,ho,hd⟩:=I.cell x c e;obtain⟨m,⟨o',es,ep,ho',hd',_⟩,_⟩:=I.loc;rw[z,ho']at ho;cases ho;rw[hd']at hd;cases hd
def Inv.funs (I:Inv X J Y H s):s.heap.FunFrames X.base X.outer:=by
 have all:∀(l:J5 RK),(∀b∈rM l,b∈X.fs)->X.s₀.heap.FunFrames X.base l->s.heap.FunFrames X.base l:=by
  intro l
  induction l with
  |nil=>intro _ _;trivial
  |cons env r ih=>
   intro hs hl;obtain⟨hk,⟨L,o,hf,hn,ho,hd⟩,hr⟩:=hl;have hL:L∈X.fs:=hs L (by unfold rM;rw[NC,hf];show LX)
   obtain⟨sl,e⟩:=I.base.slot L o ho (I.ok.frf L hL) hL λz=>I.ok.exfs L z hL
   show#[hk,#[L,_,hf,hn,e,hd],ih (λb hb=>hs b (by unfold rM;rw[NC,hf];show LL _ hb)) hr]
 show all X.outer (λ_ hb=>hb) I.ok.funs
def Inv.stack (I:Inv X J Y H s):s.heap.FunFrames X.base X.stack:=by
 rcases I.ok.stk with e|⟨e,hf⟩
 ·rw[e];show I.funs
 ·rw[e];obtain⟨m,hn,_⟩:=I.loc;show .cons (by rw[I.ok.kind];decide) hf hn ?_ I.funs
  show Heap.get?_none_of_le (KW I.ok.bsz I.ok.above)
def Inv.stkSub (I:Inv X J Y H s):∀b∈rM X.stack,b∈X.env.locals::X.fs:=λb hb=>by
 rcases I.ok.stk with e|⟨e,hf⟩
 ·rw[e]at hb;show LL _ hb
 ·rw[e]at hb;unfold rM at hb;rw[NC,hf]at hb;show hb
def Inv.stkFree (I:Inv X J Y H s):∀b∈rM X.stack,H b=gV:=λb hb=>by
 rcases KD.mp (I.stkSub b hb)with e|hb
 ·rw[e];show I.free
 ·obtain⟨_,o,ho,_⟩:=I.ok.funs.mem hb;show I.base.free b o ho (I.ok.frf b hb) λz=>I.ok.exfs b z hb
def Inv.step {g':KL QR}{t':Kf}{d':Va}{ch:J5 Kj}(I:Inv X J Y H s)
  (hch:∀b∈ch,(b∈X.ex\/⇑X.s₀.heap.objs<=b)/\b≠X.env.locals/\(∀x c,X.env.cells.lookup x=ba c->c≠b)/\∀p∈X.pn++J,p.1≠b)
  (keep:∀b o,b≠X.env.locals->b∉X.fs->b∉ch->s.heap.get? b=ba o->H b=gV->h'.get? b=ba o)
  (slot:∀b o,b≠X.env.locals->b∈X.fs->b∉ch->s.heap.get? b=ba o->H b=gV->∃sl,h'.get? b=ba {o with slots:=sl}) (free:∀b o,b∉ch->s.heap.get? b=ba o->H b=gV->H' b=gV)
  (there:∀b o,b∉ch->s.heap.get? b=ba o->∃o',h'.get? b=ba o')
  (tups:∀b xs,H b=ba (.tup xs)->H' b=ba (.tup xs)) (frzs:∀b o u,H b=ba (.frz o u)->H' b=ba (.frz o u)) (tbls:∀b ps,H b=ba (.tbl ps)->∃more,H' b=ba (.tbl (ps++more)))
  (ns:∀m,s.heap.Ns X.env.locals m->h'.Ns X.env.locals m) (hok:HOk X.prog X.w H' h') (hg:P0 g') :
  Inv X J Y H' {s with heap:=h',gens:=g',drawn:=d',toks:=t'}:=by
 have neL:∀b o,X.s₀.heap.get? b=ba o->b≠X.env.locals:=λb o e=>KO (KR (KC e) I.ok.above)
 have neC:∀b o,X.s₀.heap.get? b=ba o->b∉X.ex->b∉ch:=λb o e hx hb=>by
  rcases(hch b hb).1 with z|z
  ·show hx z
  ·show absurd (KR (KC e) z) (LR _)
 have cellK:∀x c,X.env.cells.lookup x=ba c->∀v,s.heap.IsCell c v->h'.IsCell c v:=λx c e v #[o,ho,hd]=>by
  have nch:c∉ch:=λz=>(hch c z).2.2.1 x c e rfl
  by_cases hc:c∈X.fs
  ·obtain⟨sl,q⟩:=slot c o (I.cne x c e) hc nch ho (I.freeC x c e);show#[_,q,hd]
  ·show#[o,keep c o (I.cne x c e) hc nch ho (I.freeC x c e),hd]
 show#[I.ok,I.os,hg,#[λb o e n hb hx=>?_,λb o e n hb hx=>?_,λb o e n hx=>?_,λb o e hx=>?_,λb xs e=>tups b xs (I.base.tups b xs e),λb o xs e=>frzs b o xs (I.base.frzs b o xs e),λb ps e=>?_],?_,λx c e=>?_,?_,λx c e=>?_,λp hp=>?_,hok,I.len]
 ·show keep b o (neL b o e) hb (neC b o e hx) (I.base.keep b o e n hb hx) (I.base.free b o e n hx)
 ·obtain⟨sl,e1⟩:=I.base.slot b o e n hb hx;obtain⟨sl',e2⟩:=slot b _ (neL b o e) hb (neC b o e hx) e1 (I.base.free b o e n hx);show#[sl',e2]
 ·obtain⟨o',e1⟩:=I.base.there b o e hx;show free b o' (neC b o e hx) e1 (I.base.free b o e n hx)
 ·obtain⟨o',e1⟩:=I.base.there b o e hx;show there b o' (neC b o e hx) e1
 ·obtain⟨m1,e1⟩:=I.base.tbls b ps e;obtain⟨m2,e2⟩:=tbls b _ e1;show#[m1++m2,by rw[e2,Rv]]
 ·obtain⟨m,hn,hl⟩:=I.loc;show#[m,ns m hn,λi x v e1 e2 e3=>?_]
  obtain⟨u,r,l⟩:=hl i x v e1 e2 e3;show#[u,r,?_];rcases l with l|⟨k,c,e,z⟩
  ·show .inl l
  ·show .inr #[k,c,e,cellK x c e _ z]
 ·obtain⟨v,z⟩:=I.cell x c e;show#[v,cellK x c e v z]
 ·obtain⟨m,⟨o,_,_,ho,_⟩,_⟩:=I.loc;show free _ o (λz=>(hch _ z).2.1 rfl) ho I.free
 ·obtain⟨v,o,ho,hd⟩:=I.cell x c e;show free c o (λz=>(hch c z).2.2.1 x c e rfl) ho (I.freeC x c e)
 ·obtain⟨e,n,ne,nf,d⟩:=I.pin p hp;have nch:p.1∉ch:=λz=>(hch p.1 z).2.2.2 p hp rfl
  show#[keep p.1 p.2 ne nf nch e n,free p.1 p.2 nch e n,ne,nf,d]
def Inv.un {t':Kf}(I:Inv X J Y H s)(u:Un X.fs [] H H' s.heap h')(hok:HOk X.prog X.w H' h'):Inv X J Y H' {s with heap:=h',toks:=t'}:=by
 obtain⟨m,⟨o,es,ep,ho,r⟩,_⟩:=id I.loc;obtain⟨sl,hL⟩:=u.any ho I.free (by simp)
 show I.step (g':=s.gens) (d':=s.drawn) (ch:=[]) (λ_ z=>nomatch z) (λb o _ hb _ e n=>u.keep b o e n hb (by simp)) (λb o _ hb _ e n=>u.slot b o e n hb (by simp)) (λb o _ e n=>u.free b o e n (by simp)) (λb o _ e=>u.there b o e (by simp)) u.tups u.frzs u.tbls (λm' hm=>by
  obtain⟨o',es',ep',ho',r'⟩:=hm;rw[ho]at ho';cases ho'
  show#[_,es',ep',hL,r']) hok I.bare
def Inv.call {g':KL QR}{t':Kf}{d':Va}{ch:J5 Kj}(I:Inv X J Y H s)(u:Un (rM X.stack) ch H H' s.heap h')(hok:HOk X.prog X.w H' h')(hg:P0 g')
  (hch:∀b∈ch,(b∈X.ex\/⇑X.s₀.heap.objs<=b)/\b≠X.env.locals/\(∀x c,X.env.cells.lookup x=ba c->c≠b)/\∀p∈X.pn++J,p.1≠b) :
  Inv X J Y H' {s with heap:=h',gens:=g',drawn:=d',toks:=t'}:=by
 obtain⟨m,⟨o,es,ep,ho,r⟩,_⟩:=id I.loc;obtain⟨sl,hL⟩:=u.any ho I.free λz=>(hch _ z).2.1 rfl
 show I.step (ch:=ch) hch (λb o hL hb hc e n=>u.keep b o e n (λz=>(KD.mp (I.stkSub b z)).elim hL hb) hc) (λb o _ _ hc e n=>u.any e n hc) (λb o hc e n=>u.free b o e n hc) (λb o hc e=>u.there b o e hc) u.tups u.frzs u.tbls (λm' hm=>by
  obtain⟨o',es',ep',ho',r'⟩:=hm;rw[ho]at ho';cases ho'
  show#[_,es',ep',hL,r']) hok hg
def Inv.turned {t':Kf}{it:Kj}(I:Inv X J Y H s)(k:∀b o,b≠it->s.heap.get? b=ba o->h'.get? b=ba o)(hn:H it=gV)(hL:it≠X.env.locals)
  (h1:it∈X.ex\/⇑X.s₀.heap.objs<=it) (h2:∀x c,X.env.cells.lookup x=ba c->c≠it) (h3:∀p∈X.pn++J,p.1≠it):Inv X J Y H {s with heap:=h',toks:=t'}:=by
 have nit:∀b u,H b=ba u->b≠it:=λb u e z=>by rw[z,hn]at e;cases e
 show I.step (g':=s.gens) (d':=s.drawn) (ch:=[it]) (λb hb=>?_) (λb o _ _ hc e _=>k b o (λz=>hc (by simp[z])) e) (λb o _ _ hc e _=>#[o.slots,k b o (λz=>hc (by simp[z])) e]) (λ_ _ _ _ n=>n)
  (λb o hc e=>#[o,k b o (λz=>hc (by simp[z])) e]) (λ_ _ e=>e) (λ_ _ _ e=>e) (λb ps e=>#[#[],by rw[e];simp]) (λm hm=>?_) (λb u e=>?_) I.bare
 ·have e:b=it:=by simpa using hb
  subst e;show#[h1,hL,h2,h3]
 ·obtain⟨o,es,ep,ho,r⟩:=hm;show#[o,es,ep,k _ o (Ne.symm hL) ho,r]
 ·show(I.hok b u e).stay (λc v hc q=>k c v ?_ q) (λ_ q=>q) λ_ _ q=>q
  rcases hc with z|z
  ·rw[z];show nit b u e
  ·show nit c _ z
def Inv.tok (I:Inv X J Y H s)(t:Kf):Inv X J Y H {s with toks:=t}:=I.un (h':=s.heap) (t':=t) Un.refl I.hok
def Inv.kept {t':Kf}(I:Inv X J Y H s)(k:∀b u,s.heap.get? b=ba u->h'.get? b=ba u):Inv X J Y H {s with heap:=h',toks:=t'}:=I.un (Un.kept k) (I.hok.kept k)
def Inv.laid {a:Kj}{o:HO}{t':Kf}(I:Inv X J Y H s)(k:∀b u,s.heap.get? b=ba u->h'.get? b=ba u)(hp:⇑s.heap.objs<=a)(new:ObjOk X.prog X.w (bx H a o) h' a o) :
  Inv X J Y (bx H a o) {s with heap:=h',toks:=t'}:=I.un (Un.laid k hp (I.hok.fresh hp)) (I.hok.laid k hp new)
def Inv.write {x e:Kj}{o:HO}{t':Kf}(I:Inv X J Y H s)(mu:FY (H x))(he:e=x\/H e=ba (.own x))(k:∀b u,b≠e->s.heap.get? b=ba u->h'.get? b=ba u)(heo:∃u,h'.get? e=ba u)
  (new:ObjOk X.prog X.w (bx H x o) h' x o):Inv X J Y (bx H x o) {s with heap:=h',toks:=t'}:=I.un (Un.write mu he k heo) (I.hok.write mu he k heo new)
def Inv.pins_of {J':J5 (Kj×Mf)}(I:Inv X J Y H s)(h:∀p∈J',s.heap.get? p.1=ba p.2/\H p.1=gV/\p.1≠X.env.locals/\p.1∉X.fs/\∀v,p.2.data≠.cell v):Inv X J' Y H s:=
 #[I.ok,I.os,I.bare,I.base,I.loc,I.cell,I.free,I.freeC,λp hp=>(La.mp hp).elim (λz=>I.pin p (LN _ z)) (h p),I.hok,I.len]
def pd {N:J5 KJ}(hN:N.Nodup){i j:Kf}{x:KJ}(a:N[i]?=ba x)(b:N[j]?=ba x):i=j:=by
 obtain⟨h1,e1⟩:=Kq.mp a;obtain⟨h2,e2⟩:=Kq.mp b;show(MR hN).mp (e1.trans e2.symm)
def vx {Mqa:Vb}{A:Ld}{E:J9->Kc->Prop}{i:Kf}{x:KJ}{v:V}{u:J9}{Q:Vc->Kc->Prop}(I:Inv X J Y H s)(hN:X.N.Nodup)(hi:X.N[i]?=ba x)(hx:AU X.env.scope x)(r:RelV v u)
  (h:∀s',Inv X J (Y.set i (ba v)) H s'->(∃a,Mw a s.heap s'.heap/\(a=X.env.locals\/X.env.cells.lookup x=ba a))->Q () s') (hf:X.fn x=true\/X.env.scope.names.lookup x=ba .local):wpAny Mqa A (storeName X.env x u) Q E s:=by
 obtain⟨m,hn,hl⟩:=id I.loc;have hcls:(X.env.scope.kind==.class||(X.env.scope.kind==.module&&X.env.locals != X.env.globals))=false:=by rw[I.ok.kind];rfl
 have hiσ:i<↥Y:=by rw[I.len];show(Kq.mp hi).1
 have cne:=I.cne;have tracked:∀{a:Kj}{h':Lq},(∃o,s.heap.get? a=ba o/\H a=gV)->Mw a s.heap h'->HOk X.prog X.w H h':=λ{a h'} ha hs b ob e=>by
  obtain⟨_,_,hfree⟩:=ha;show(I.hok b ob e).stay (λc w' hc q=>(hs.2 c ?_).trans q) (λ_ q=>q) λ_ _ q=>q
  rintro rfl;rcases hc with rfl|hc
  ·rw[hfree]at e;cases e
  ·rw[hfree]at hc;cases hc
 rcases hx with hk|hk
 ·show wpAny_storeName_local hk hn (λh' hn' hs=>?_) hcls
  obtain⟨oL,_,_,hoL,_⟩:=id hn;show h _ #[I.ok,I.os,I.bare,#[λb o e n hb hx=>?_,λb o e n hb hx=>?_,I.base.free,λb o e hx=>?_,I.base.tups,I.base.frzs,I.base.tbls],#[_,hn',λj y v' e1 e2 e3=>?_],λy c e=>?_,I.free,I.freeC,λp hp=>?_,tracked #[oL,hoL,I.free] hs,by simpa using I.len] #[_,hs,.inl rfl]
  ·show(hs.2 b (KO (KR (KC e) I.ok.above))).trans (I.base.keep b o e n hb hx)
  ·obtain⟨sl,e1⟩:=I.base.slot b o e n hb hx;show#[sl,(hs.2 b (KO (KR (KC e) I.ok.above))).trans e1]
  ·obtain⟨o',e1⟩:=I.base.there b o e hx;show#[o',(hs.2 b (KO (KR (KC e) I.ok.above))).trans e1]
  ·by_cases hj:j=i
   ·subst hj;rw[hi]at e1;cases e1
    rw[Qk hiσ]at e2;cases e2;show#[u,r,.inl #[hk,by simp]]
   ·rw[QS (Ne.symm hj)]at e2;obtain⟨u',r',q⟩:=hl j y v' e1 e2 e3;show#[u',r',?_];rcases q with⟨k,e⟩|⟨k,c,e,z⟩
    ·show .inl #[k,?_];have:y≠x:=λe=>hj (pd hN e1 (e▸hi))
     simp[this,e]
    ·show .inr #[k,c,e,z.sameBut hs (cne y c e)]
  ·obtain⟨w',z⟩:=I.cell y c e;show#[w',z.sameBut hs (cne y c e)]
  ·obtain⟨e,n,ne,nf,d⟩:=I.pin p hp;show#[(hs.2 p.1 ne).trans e,n,ne,nf,d]
 ·have hfn:X.fn x=true:=by
   rcases hf with z|z
   ·show z
   ·rw[z]at hk;cases hk
  obtain⟨c,hc⟩:=I.ok.has x (.inl hk);obtain⟨w',z⟩:=I.cell x c hc;show wpAny_storeName_cell I.ok.kind hk hc z (λh' hc' hs=>?_)
  obtain⟨oc,hoc,hocd⟩:=id z;show h {s with heap:=h'} #[I.ok,I.os,I.bare,#[λb o e n hb hx=>?_,λb o e n hb hx=>?_,I.base.free,λb o e hx=>?_,I.base.tups,I.base.frzs,I.base.tbls],#[m,hn.sameBut hs (Ne.symm (cne x c hc)),λj y v' e1 e2 e3=>?_],λy c' e=>?_,I.free,I.freeC,λp hp=>?_,tracked #[oc,hoc,I.freeC x c hc] hs,by simpa using I.len] #[c,hs,.inr hc]
  ·show(hs.2 b (KO (KR (KC e) (I.ok.cab x c hfn hc)))).trans (I.base.keep b o e n hb hx)
  ·obtain⟨sl,e1⟩:=I.base.slot b o e n hb hx;show#[sl,(hs.2 b (KO (KR (KC e) (I.ok.cab x c hfn hc)))).trans e1]
  ·obtain⟨o',e1⟩:=I.base.there b o e hx;show#[o',(hs.2 b (KO (KR (KC e) (I.ok.cab x c hfn hc)))).trans e1]
  ·by_cases hj:j=i
   ·subst hj;rw[hi]at e1;cases e1
    rw[Qk hiσ]at e2;cases e2;show#[u,r,.inr #[.inl hk,c,hc,hc']]
   ·rw[QS (Ne.symm hj)]at e2;obtain⟨u',r',q⟩:=hl j y v' e1 e2 e3;show#[u',r',?_];rcases q with q|⟨k,c',e,z'⟩
    ·show .inl q
    ·show .inr #[k,c',e,z'.sameBut hs ?_];rintro rfl;show hj (pd hN e1 (I.ok.inj _ _ _ e hc▸hi))
  ·by_cases hcc:c'=c
   ·subst hcc;show#[_,hc']
   ·obtain⟨w2,z2⟩:=I.cell y c' e;show#[w2,z2.sameBut hs hcc]
  ·obtain⟨e,n,ne,nf,d⟩:=I.pin p hp;show#[(hs.2 p.1 ?_).trans e,n,ne,nf,d];intro q;rw[q,hoc]at e;have q':oc=p.2:=LB e;show d w' (by rw[<- q'];show hocd)
def iK {Mqa:Vb}{A:Ld}{E:J9->Kc->Prop}{i:Kf}{x:KJ}{v:V}{u:J9}{Q:Vc->Kc->Prop}(I:Inv X J Y H s)(hN:X.N.Nodup)(hi:X.N[i]?=ba x)(hx:AU X.env.scope x)(r:RelV v u)
  (h:∀s',Inv X J (Y.set i (ba v)) H s'->Q () s') (hf:X.fn x=true\/X.env.scope.names.lookup x=ba .local):wpAny Mqa A (storeName X.env x u) Q E s:=
 vx I hN hi hx r (λs' I' _=>h s' I') hf
def Inv.call' {s':Kc}{ch:J5 Kj}(I:Inv X J Y H s)(ho:s'.os=s.os)(u:Un (rM X.stack) ch H H' s.heap s'.heap)(hok:HOk X.prog X.w H' s'.heap)(hg:P0 s'.gens)
  (hch:∀b∈ch,(b∈X.ex\/⇑X.s₀.heap.objs<=b)/\b≠X.env.locals/\(∀x c,X.env.cells.lookup x=ba c->c≠b)/\∀p∈X.pn++J,p.1≠b):Inv X J Y H' s':=by
 obtain⟨h',g',d',t',o'⟩:=s';have e:o'=s.os:=ho;subst e;show I.call (g':=g') (t':=t') (d':=d') u hok hg hch
end
noncomputable abbrev XK:=J9->Ke Kj->Hp->Prop
noncomputable abbrev St:=J5 (Ke V)
noncomputable abbrev VK:=V->Hp->Prop
noncomputable abbrev TE:=St->Hp->VK->Prop
noncomputable abbrev TT:=St->Hp->(KU->Hp->Prop)->Prop
noncomputable abbrev TA:=St->Hp->(J5 V->Hp->Prop)->Prop
structure Ends where
 nx:St->Hp->Prop
 rt:VK
 bk:St->Hp->Prop:=λ_ _=>LV
 ct:St->Hp->Prop:=λ_ _=>LV
noncomputable abbrev TS:=Ends->St->Hp->Prop
inductive EP (X:Cx)(J:J5 (Kj×Mf))(Y:St)(Q:VK)(u:J9)(s':Kc):Prop
 |mk (v:V) (H':Hp) (i:Inv X J Y H' s') (r:RelV v u) (q:Q v H'):EP X J Y Q u s'
inductive TP (X:Cx)(J:J5 (Kj×Mf))(Y:St)(Q:KU->Hp->Prop)(b:KU)(s':Kc):Prop
 |mk (H':Hp) (i:Inv X J Y H' s') (q:Q b H'):TP X J Y Q b s'
inductive AP (X:Cx)(J:J5 (Kj×Mf))(Y:St)(Q:J5 V->Hp->Prop)(us:J5 J9)(s':Kc):Prop
 |mk (vs:J5 V) (H':Hp) (i:Inv X J Y H' s') (r:Vals vs us) (q:Q vs H'):AP X J Y Q us s'
abbrev SP (X:Cx)(J:J5 (Kj×Mf))(D:Ends)(f:Flow)(s':Kc):Prop:=
 match f with
 |.next=>∃Y' H',Inv X J Y' H' s'/\D.nx Y' H'
 |.brk=>∃Y' H',Inv X J Y' H' s'/\D.bk Y' H'
 |.cont=>∃Y' H',Inv X J Y' H' s'/\D.ct Y' H'
 |.ret u=>∃v Y' H',Inv X J Y' H' s'/\RelV v u/\D.rt v H'
abbrev PE (X:Cx)(e:KP)(t:TE):Prop:=
 ∀(J:J5 (Kj×Mf)) (s:Kc) (Y:St) (H:Hp) (Q:VK),Inv X J Y H s->t Y H Q->wpAny (model X.prog X.w) X.A (eval e X.env) (EP X J Y Q) X.xe s
abbrev PT (X:Cx)(e:KP)(t:TT):Prop:=
 ∀(J:J5 (Kj×Mf)) (s:Kc) (Y:St) (H:Hp) (Q:KU->Hp->Prop),Inv X J Y H s->t Y H Q->wpAny (model X.prog X.w) X.A (isTrue e X.env (eval e X.env)) (TP X J Y Q) X.xe s
abbrev PW (X:Cx)(e:KP)(t:TT):Prop:=
 ∀(whole:UC J9) (J:J5 (Kj×Mf)) (s:Kc) (Y:St) (H:Hp) (Q:KU->Hp->Prop),Inv X J Y H s->t Y H Q->wpAny (model X.prog X.w) X.A (isTrue e X.env whole) (TP X J Y Q) X.xe s
def PW.pt {X:Cx}{e:KP}{t:TT}(h:PW X e t):PT X e t:=h _
abbrev PA (X:Cx)(es:J5 KP)(t:TA):Prop:=
 ∀(pos:Na) (J:J5 (Kj×Mf)) (s:Kc) (Y:St) (H:Hp) (Q:J5 V->Hp->Prop),Inv X J Y H s->t Y H Q->wpAny (model X.prog X.w) X.A (spliced (backTo pos (starEach es X.env))) (AP X J Y Q) X.xe s
abbrev PS (X:Cx)(st:NB)(t:TS):Prop:=
 ∀(J:J5 (Kj×Mf)) (s:Kc) (Y:St) (H:Hp) (D:Ends),Inv X J Y H s->t D Y H->wpAny (model X.prog X.w) X.A (exec st X.env) (SP X J D) X.xe s
abbrev PSs (X:Cx)(st:J5 NB)(t:TS):Prop:=
 ∀(J:J5 (Kj×Mf)) (s:Kc) (Y:St) (H:Hp) (D:Ends),Inv X J Y H s->t D Y H->wpAny (model X.prog X.w) X.A (execs st X.env) (SP X J D) X.xe s
def bu {α:Type}{t:UC α}{Q Q':α->Kc->Prop}{Mqa:Vb}{A:Ld}{E:J9->Kc->Prop}{s:Kc}(h:wpAny Mqa A t Q E s)(hQ:∀a s,Q a s->Q' a s):wpAny Mqa A t Q' E s:=MB h hQ λ_ _ x=>x
section
variable{X:Cx}
abbrev DL (i:Kf):TE:=λY H Q=>∃v,Y[i]?=ba (ba v)/\Q v H
abbrev tC (v:V):TE:=λ_ H Q=>Q v H
def xu {i:Kf}{x:KJ}{pos:Na}(hN:X.N[i]?=ba x)(hv:Ig X.env.scope x)(hd:(x==("__debug__": KJ))=false:=by decide)(hcd:(x==("__classdict__": KJ))=false:=by decide):PE X (.Name x pos) (DL i):=by
 intro J s Y H Q I h;obtain⟨v,e,h⟩:=h;obtain⟨m,hn,hl⟩:=I.loc;obtain⟨u,r,l⟩:=hl i x v hN e hv;have fin:EP X J Y Q u s:=#[v,H,I,r,h];rcases l with⟨hk,hm⟩|⟨hk,c,hc,hcell⟩
 ·show Tc (wpAny_loadName_local I.ok.kind hk hn hm fin) hd
 ·rcases hk with hk|hk
  ·show Tc (wpAny_loadName_cell I.ok.kind hk hc hcell fin) hd
  ·show Tc (wpAny_loadName_free I.ok.kind hk hc hcell fin hcd) hd
def xv {i j pos}:PE X (.Constant (.int i) j pos) (tC (.int i)):=λ_ _ _ H _ I h=>wpAny_Constant_int #[.int i,H,I.tok _,#[_,rfl],h]
def Dc {b j pos}:PE X (.Constant (.bool b) j pos) (tC (.bl b)):=λ_ _ _ H _ I h=>Constant_bool #[.bl b,H,I,rfl,h]
def xw {j pos}:PE X (.Constant .none j pos) (tC .non):=λ_ _ _ H _ I h=>Constant_none #[.non,H,I,rfl,h]
def xx {x j pos}:PE X (.Constant (.str x) j pos) (tC (.str x)):=λ_ _ _ H _ I h=>Rw #[.str x,H,I.tok _,#[_,rfl],h]
abbrev Gl (X:Cx)(x:KJ):Prop:=X.env.kindOf x=ba .globalImplicit
def tD {E:J9->Kc->Prop}{J:J5 (Kj×Mf)}{s:Kc}{Y:St}{H:Hp}{x:KJ}{u:J9}{pos:Na}{Q:J9->Kc->Prop}(I:Inv X J Y H s)(hg:Gl X x)(hm:X.mg x=ba u)(h:Q u s)
  (hd:(x==("__debug__": KJ))=false:=by decide):wpAny (model X.prog X.w) X.A (eval (.Name x pos) X.env) Q E s:=
 Po I.ok.kind hg (Calls.loadGlobal_global (by rw[I.ok.glob];show I.mod.glob.keeps I.bk) hm h) hd
def io {E:J9->Kc->Prop}{J:J5 (Kj×Mf)}{s:Kc}{Y:St}{H:Hp}{x:KJ}{u:J9}{pos:Na}{Q:J9->Kc->Prop}(I:Inv X J Y H s)(hg:Gl X x)(hm:X.mg x=gV)(hv:bootBuiltins x=ba u)(h:Q u s)
  (hn:x≠"__name__":=by decide) (hd:(x==("__debug__": KJ))=false:=by decide):wpAny (model X.prog X.w) X.A (eval (.Name x pos) X.env) Q E s:=by
 obtain⟨mb,h1,h2⟩:=I.mod.blt;show Po I.ok.kind hg (Calls.loadGlobal_builtin (by rw[I.ok.glob];show I.mod.glob.keeps I.bk) hm (by rw[I.ok.blt];show h1.keeps I.bk) ((h2 x hn).trans hv) h) hd
def AV {x:KJ}{v:V}{u:J9}{pos:Na}(hg:Gl X x)(hm:X.mg x=gV)(hv:bootBuiltins x=ba u)(r:RelV v u)(hn:x≠"__name__":=by decide)(hd:(x==("__debug__": KJ))=false:=by decide):PE X (.Name x pos) (tC v):=
 λ_ _ _ H _ I h=>io I hg hm hv #[v,H,I,r,h] hn hd
variable{a b:KP}{ta tb:TE}{pos:Na}
variable{tA tB':TT}{aQ:J5 KP}
abbrev FZ (t u:TT):TT:=λY H Q=>t Y H λc H1=>if c=true then u Y H1 Q else Q false H1
abbrev JH (t u:TT):TT:=λY H Q=>t Y H λc H1=>if c=true then Q true H1 else u Y H1 Q
abbrev Iv (t:TT):TT:=λY H Q=>t Y H λc H1=>Q (!c) H1
def AW (ha:PT X a tA):PW X (.BoolOp .And [a] pos) tA:=by
 intro wh J s Y H Q I h;show isTrue_and (bu (ha J s Y H Q I h) λc s1 e=>?_)
 cases c with
 |true=>show isTrue_and_nil e
 |false=>show e
def DM (ha:PT X a tA):PW X (.BoolOp .Or [a] pos) tA:=by
 intro wh J s Y H Q I h;show isTrue_or (bu (ha J s Y H Q I h) λc s1 e=>?_)
 cases c with
 |false=>show isTrue_or_nil e
 |true=>show e
def DN (ha:PT X a tA)(hb:PW X (.BoolOp .And (b::aQ) pos) tB'):PW X (.BoolOp .And (a::b::aQ) pos) (FZ tA tB'):=by
 intro wh J s Y H Q I h;show isTrue_and (bu (ha J s Y H _ I h) λc s1 #[H1,I1,q1]=>?_)
 cases c with
 |true=>show hb wh J s1 Y H1 Q I1 q1
 |false=>show#[H1,I1,q1]
def F1 (ha:PT X a tA)(hb:PW X (.BoolOp .Or (b::aQ) pos) tB'):PW X (.BoolOp .Or (a::b::aQ) pos) (JH tA tB'):=by
 intro wh J s Y H Q I h;show isTrue_or (bu (ha J s Y H _ I h) λc s1 #[H1,I1,q1]=>?_)
 cases c with
 |true=>show#[H1,I1,q1]
 |false=>show hb wh J s1 Y H1 Q I1 q1
def DO (ha:PT X a tA):PT X (.UnaryOp .Not a pos) (Iv tA):=by
 intro J s Y H Q I h;show isTrue_not (bu (ha J s Y H (λc H1=>Q (!c) H1) I h) λ_ _ #[H1,i,q]=>#[H1,i,q])
abbrev F2 (ta tb:TE):TE:=λY H Q=>ta Y H λx H1=>∃c,x=.bl c/\if c=true then tb Y H1 Q else Q (.bl false) H1
abbrev Iw (ta tb:TE):TE:=λY H Q=>ta Y H λx H1=>∃c,x=.bl c/\if c=true then Q (.bl true) H1 else tb Y H1 Q
abbrev F3 (ta:TE):TE:=λY H Q=>ta Y H λx H1=>∃c,x=.bl c/\Q (.bl (!c)) H1
def DP {op}{t:TE}(h:PE X a t):PE X (.BoolOp op [a] pos) t:=λJ s Y H Q I hw=>BoolOp_one (h J s Y H Q I hw)
def DQ (ha:PE X a ta)(hb:PE X (.BoolOp .And (b::aQ) pos) tb):PE X (.BoolOp .And (a::b::aQ) pos) (F2 ta tb):=by
 intro J s Y H Q I h;show BoolOp_and (bu (ha J s Y H _ I h) λv s1 #[x,H1,I1,r1,q1]=>?_)
 obtain⟨c,rfl,q1⟩:=q1;cases r1;show MZ ?_;cases c with
 |true=>show hb J s1 Y H1 Q I1 q1
 |false=>show#[.bl false,H1,I1,rfl,q1]
def F4 (ha:PE X a ta)(hb:PE X (.BoolOp .Or (b::aQ) pos) tb):PE X (.BoolOp .Or (a::b::aQ) pos) (Iw ta tb):=by
 intro J s Y H Q I h;show BoolOp_or (bu (ha J s Y H _ I h) λv s1 #[x,H1,I1,r1,q1]=>?_)
 obtain⟨c,rfl,q1⟩:=q1;cases r1;show MZ ?_;cases c with
 |false=>show hb J s1 Y H1 Q I1 q1
 |true=>show#[.bl true,H1,I1,rfl,q1]
def DR (ha:PE X a ta):PE X (.UnaryOp .Not a pos) (F3 ta):=by
 intro J s Y H Q I h;show UnaryOp_ (bu (ha J s Y H _ I h) λv s1 #[x,H1,I1,r1,q1]=>?_)
 obtain⟨c,rfl,q1⟩:=q1;cases r1;show not_of (MZ #[.bl (!c),H1,I1,rfl,q1])
abbrev JU (t:TT)(ta tb:TE):TE:=λY H Q=>t Y H λc H1=>if c=true then ta Y H1 Q else tb Y H1 Q
def xy {c:KP}(hc:PT X c tA)(ha:PE X a ta)(hb:PE X b tb):PE X (.IfExp c a b pos) (JU tA ta tb):=by
 intro J s Y H Q I h;show wpAny_IfExp (bu (hc J s Y H _ I h) λd s1 #[H1,I1,q1]=>?_)
 cases d with
 |true=>show ha J s1 Y H1 Q I1 q1
 |false=>show hb J s1 Y H1 Q I1 q1
end
abbrev SqL (K:Kr)(H:Hp)(a:Kj)(xs:J5 V):Prop:=
 Rd H a (.lst xs)\/
  ∃(o:Mf) (its:KL J9) (n:Kf),K.lookup a=ba o/\o.cls=.type "list"/\o.dict=gV/\o.data=.seq its n/\⇑its<=sizeLine/\Vals xs its.toList
abbrev SqT (K:Kr)(H:Hp)(a:Kj)(xs:J5 V):Prop:=
 Rd H a (.tup xs)\/
  ∃(o:Mf) (its:KL J9) (n:Kf),K.lookup a=ba o/\o.cls=.type "tuple"/\o.data=.seq its n/\⇑its<=sizeLine/\Vals xs its.toList
abbrev Ix:J9->Ke V
 |.none=>ba .non
 |.bool b=>ba (.bl b)
 |.int i _=>ba (.int i)
 |.str x _=>ba (.str x)
 |.bytes b _=>ba (.byt b)
 |.float b _=>ba (.flt b)
 |.ref a=>ba (.ref a)
 |.type n=>ba (.ty n)
 |_=>gV
def RelV.abs {x:V}{u:J9}(r:RelV x u):Ix u=ba x:=by
 cases x with
 |non=>cases r;rfl
 |bl _=>cases r;rfl
 |int _=>obtain⟨t,rfl⟩:=r;rfl
 |str _=>obtain⟨t,rfl⟩:=r;rfl
 |byt _=>obtain⟨t,rfl⟩:=r;rfl
 |flt _=>obtain⟨t,rfl⟩:=r;rfl
 |ref _=>cases r;rfl
 |ty _=>cases r;rfl
def RelV.inj {x y:V}{u:J9}(r:RelV x u)(q:RelV y u):x=y:=LB (r.abs.symm.trans q.abs)
def Vals.inj:∀{xs ys:J5 V}{us:J5 J9},Vals xs us->Vals ys us->xs=ys
 |_,_,_,.nil,.nil=>rfl
 |_,_,_,.cons r t,.cons r' t'=>by rw[r.inj r',Vals.inj t t']
section
variable{X:Cx}{J:J5 (Kj×Mf)}{Y:St}{H:Hp}{s:Kc}{a:Kj}{xs ys:J5 V}
def SqL.of {K:Kr}(h:H a=ba (.lst xs)):SqL K H a xs:=.inl (.inl h)
def SqT.of {K:Kr}(h:H a=ba (.tup xs)):SqT K H a xs:=.inl (.inl h)
def Inv.list (I:Inv X J Y H s)(h:SqL X.K H a xs):∃its:J5 J9,Vals xs its/\PlainL s.heap a its.toArray/\↥xs<=sizeLine:=by
 rcases h with h|⟨o,its,n,hk,hc,hd,hs,hz,r⟩
 ·obtain⟨z,its,n,r,e⟩:=h.ok I.hok;show#[its,r,#[_,n,e,rfl,rfl,rfl],z]
 ·show#[its.toList,r,#[o,n,I.kIn a o hk,hc,hd,by simpa using hs],?_]
  have e:=↥r;simp only[Km]at e;omega
def Inv.tuple (I:Inv X J Y H s)(h:SqT X.K H a xs):∃its:J5 J9,Vals xs its/\RJ s.heap a its.toArray/\↥xs<=sizeLine:=by
 rcases h with h|⟨o,its,n,hk,hc,hs,hz,r⟩
 ·obtain⟨z,its,r,p⟩:=h.ok I.hok;show#[its,r,p,z]
 ·show#[its.toList,r,#[o,I.kIn a o hk,hc,n,by simpa using hs],?_]
  have e:=↥r;simp only[Km]at e;omega
def Inv.list_inj (I:Inv X J Y H s)(h:SqL X.K H a xs)(h':SqL X.K H a ys):xs=ys:=by
 obtain⟨its,r,⟨o,n,e,_,_,d⟩,_⟩:=I.list h;obtain⟨its',r',⟨o',n',e',_,_,d'⟩,_⟩:=I.list h';rw[e]at e';cases e'
 rw[d]at d';injection d' with d1 _
 have:its=its':=by simpa using congrArg Ud d1
 subst this;show r.inj r'
def Inv.tuple_inj (I:Inv X J Y H s)(h:SqT X.K H a xs)(h':SqT X.K H a ys):xs=ys:=by
 obtain⟨its,r,⟨o,e,_,n,d⟩,_⟩:=I.tuple h;obtain⟨its',r',⟨o',e',_,n',d'⟩,_⟩:=I.tuple h';rw[e]at e';cases e'
 rw[d]at d';injection d' with d1 _
 have:its=its':=by simpa using congrArg Ud d1
 subst this;show r.inj r'
end
noncomputable abbrev Cx.wish (X:Cx)(E:J9->Kc->Prop):Cx:={X with xe:=E}
noncomputable abbrev Cx.nox (X:Cx):Cx:=X.wish λ_ _=>LV
def Cx.Ok.wish {X:Cx}(ok:X.Ok)(E:J9->Kc->Prop):(X.wish E).Ok:=
 #[ok.mod,ok.kind,ok.glob,ok.blt,ok.above,ok.inj,ok.has,ok.cab,ok.hd,ok.frames,ok.stk,ok.exf,ok.bs,ok.bsz,ok.noex,ok.exfs,ok.funs,ok.frf]
def Cx.Ok.unwish {X:Cx}{E:J9->Kc->Prop}(ok:(X.wish E).Ok):X.Ok:=
 #[ok.mod,ok.kind,ok.glob,ok.blt,ok.above,ok.inj,ok.has,ok.cab,ok.hd,ok.frames,ok.stk,ok.exf,ok.bs,ok.bsz,ok.noex,ok.exfs,ok.funs,ok.frf]
section
variable{X:Cx}{J:J5 (Kj×Mf)}{Y:St}{H:Hp}{s:Kc}{E:J9->Kc->Prop}
def Inv.wish (I:Inv X J Y H s)(E:J9->Kc->Prop):Inv (X.wish E) J Y H s:=#[I.ok.wish E,I.os,I.bare,I.base,I.loc,I.cell,I.free,I.freeC,I.pin,I.hok,I.len]
def Inv.unwish (I:Inv (X.wish E) J Y H s):Inv X J Y H s:=#[I.ok.unwish,I.os,I.bare,I.base,I.loc,I.cell,I.free,I.freeC,I.pin,I.hok,I.len]
def SP.unwish {D:Ends}{f:Flow}{s':Kc}(h:SP (X.wish E) J D f s'):SP X J D f s':=by
 cases f with
 |next=>obtain⟨Y',H',I,q⟩:=h;show#[Y',H',I.unwish,q]
 |brk=>obtain⟨Y',H',I,q⟩:=h;show#[Y',H',I.unwish,q]
 |cont=>obtain⟨Y',H',I,q⟩:=h;show#[Y',H',I.unwish,q]
 |ret u=>obtain⟨v,Y',H',I,r,q⟩:=h;show#[v,Y',H',I.unwish,r,q]
def PSs.nox {st:J5 NB}{t:TS}(h:PSs X.nox st t):PSs X st t:=λJ s Y H D I hw=>
 MB (h J s Y H D (I.wish _) hw) (λ_ _ q=>q.unwish) λ_ _ z=>LV.elim z
end
section
variable{X:Cx}{st:NB}{aQ:J5 NB}{t u:TS}{e:KP}{te:TE}{pos:Na}
abbrev xz:TS:=λD Y H=>D.nx Y H
abbrev Iy (t u:TS):TS:=λD Y H=>t {D with nx:=u D} Y H
def AX:PSs X [] xz:=λ_ _ Y H _ I h=>Qv #[Y,H,I,h]
def xA (h1:PS X st t)(h2:PSs X aQ u):PSs X (st::aQ) (Iy t u):=by
 intro J s Y H D I h;show wpAny_execs_cons (bu (h1 J s Y H {D with nx:=u D} I h) λf s1 q=>?_)
 cases f with
 |next=>
  obtain⟨Y',H',I',q⟩:=q;show h2 J s1 Y' H' D I' q
 |ret v=>show q
 |brk=>show q
 |cont=>show q
def AY:PS X (.Pass pos) xz:=λ_ _ Y H _ I h=>wpAny_Pass #[Y,H,I,h]
def Inv.quiet {J:J5 (Kj×Mf)}{Y:St}{H:Hp}{s:Kc}(I:Inv X J Y H s):interactive X.env=false:=by simp[interactive,I.ok.kind]
def DS {x j pos pos'}:PS X (.Expr (.Constant (.str x) j pos) pos') xz:=λ_ s Y H _ I h=>wpAny_Expr (Rw (show SP X _ _ .next {s with toks:=s.toks+1} from#[Y,H,I.tok _,h])) I.quiet
abbrev F5 (te:TE):TS:=λD Y H=>te Y H λ_ H1=>D.nx Y H1
def AZ (he:PE X e te)(hs:swapsWith e gV pos.line X.env=pure false:=by rfl):PS X (.Expr e pos) (F5 te):=by
 intro J s Y H D I h;show wpAny_Expr_any (bu (he J s Y H _ I h) λv s1 #[x,H1,I1,r1,q1]=>#[Y,H1,I1,q1]) I.quiet hs
abbrev Iz (te:TE):TS:=λD Y H=>te Y H D.rt
def DT (he:PE X e te):PS X (.Return (ba e) pos) (Iz te):=by
 intro J s Y H D I h;show wpAny_Return_some (bu (he J s Y H _ I h) λv s1 #[x,H1,I1,r1,q1]=>#[x,Y,H1,I1,r1,q1])
abbrev IA (c:TT)(t u:TS):TS:=λD Y H=>c Y H λb H1=>if b=true then t D Y H1 else u D Y H1
def F6 {c:KP}{a b:J5 NB}{tc:TT}(hc:PT X c tc)(ha:PSs X a t)(hb:PSs X b u):PS X (.If c a b pos) (IA tc t u):=by
 intro J s Y H D I h;show wpAny_If (bu (hc J s Y H _ I h) λd s1 #[H1,I1,q1]=>?_)
 cases d with
 |true=>show ha J s1 Y H1 D I1 q1
 |false=>show hb J s1 Y H1 D I1 q1
end
noncomputable abbrev TG:=V->St->Hp->(St->Hp->Prop)->Prop
noncomputable abbrev DU:=J5 V->St->Hp->(St->Hp->Prop)->Prop
abbrev PG (X:Cx)(target:KP)(t:TG):Prop:=
 ∀(J:J5 (Kj×Mf)) (s:Kc) (Y:St) (H:Hp) (v:V) (u:J9) (Q:St->Hp->Prop),Inv X J Y H s->RelV v u->t v Y H Q->
  wpAny (model X.prog X.w) X.A (assign target X.env u) (λ_ s'=>∃Y' H',Inv X J Y' H' s'/\Q Y' H') X.xe s
abbrev Ga (X:Cx)(ts:J5 KP)(t:DU):Prop:=
 ∀(J:J5 (Kj×Mf)) (s:Kc) (Y:St) (H:Hp) (vs:J5 V) (us:J5 J9) (Q:St->Hp->Prop),Inv X J Y H s->Vals vs us->t vs Y H Q->
  wpAny (model X.prog X.w) X.A (assignInOrder ((assignEach ts X.env).map (·.2)) us) (λ_ s'=>∃Y' H',Inv X J Y' H' s'/\Q Y' H') X.xe s
noncomputable abbrev DV:=V->V->V->Hp->(Hp->Prop)->Prop
abbrev DW (X:Cx)(t:DV):Prop:=
 ∀(J:J5 (Kj×Mf)) (s:Kc) (Y:St) (H:Hp) (o i v:V) (ov iv u:J9) (Q:Hp->Prop),Inv X J Y H s->RelV o ov->RelV i iv->RelV v u->t o i v H Q->
  wpAny (model X.prog X.w) X.A (setItem ov iv u) (λ_ s'=>∃H',Inv X J Y H' s'/\Q H') X.xe s
section
variable{X:Cx}{pos:Na}
abbrev Gb (i:Kf):TG:=λv Y H Q=>Q (Y.set i (ba v)) H
def tF {i:Kf}{x:KJ}(hN:X.N.Nodup)(hi:X.N[i]?=ba x)(hx:AU X.env.scope x)(hf:X.fn x=true\/X.env.scope.names.lookup x=ba .local):PG X (.Name x pos) (Gb i):=by
 intro J s Y H v u Q I r h;show RL (iK I hN hi hx r (λs' I'=>#[_,H,I',h]) hf)
abbrev IB:DU:=λvs Y H Q=>vs=[]/\Q Y H
abbrev Gc (t:TG)(u:DU):DU:=λvs Y H Q=>∃v r,vs=v::r/\t v Y H λY' H'=>u r Y' H' Q
def A6:Ga X [] IB:=by
 intro J s Y H vs us Q I r h;obtain⟨e,h⟩:=h;subst e;cases r;show RM #[Y,H,I,h]
def xB {e:KP}{es:J5 KP}{t:TG}{u:DU}(h1:PG X e t)(h2:Ga X es u)
  (hs:(assignEach (e::es) X.env).map (·.2)=assign e X.env::(assignEach es X.env).map (·.2):=by rfl):Ga X (e::es) (Gc t u):=by
 intro J s Y H vs us Q I r h;obtain⟨v,vr,e1,h⟩:=h;subst e1;cases r with
 |cons r rr=>
  rw[hs];show Pp (bu (h1 J s Y H _ _ _ I r h) λ_ s1 #[Y1,H1,I1,q1]=>?_)
  show h2 J s1 Y1 H1 _ _ Q I1 rr q1
abbrev IC (K:Kr)(n:Kf)(t:DU):TG:=λv Y H Q=>∃a xs,v=.ref a/\SqT K H a xs/\↥xs=n/\t xs Y H Q
def DX {es:J5 KP}{k:Kf}{t:DU}{n:Kf}(hc:X.calm=true)(h:Ga X es t)
  (hn:(assignEach es X.env).length=n:=by rfl) (hst:(assignEach es X.env).findIdx? (·.1)=gV:=by rfl):PG X (.Tuple es k pos) (IC X.K n t):=by
 intro J s Y H v u Q I r hw;obtain⟨a,xs,e1,hq,hl,hw⟩:=hw;subst e1;cases r;obtain⟨its,rv,ht,hz⟩:=I.tuple hq;show assign_Tuple_tuple (I.ok.hd hc) ht (by simp[hn,<- hl,↥rv]) hst λh' hx=>?_
 have I1:Inv X J Y H {s with heap:=h'}:=I.kept (t':=s.toks) λb o e=>hx b o (KO (KC e)) e
 show h J _ Y H xs _ Q I1 (by simpa using rv) hw
abbrev ID (to ti:TE)(t:DV):TG:=λv Y H Q=>to Y H λo H1=>ti Y H1 λi H2=>t o i v H2 λH3=>Q Y H3
def DY {o i:KP}{to ti:TE}{t:DV}(ho:PE X o to)(hi:PE X i ti)(hs:DW X t)
  (ha:∀v,assign (.Subscript o i pos) X.env v=(do
   let ov <- holding [v] (eval o X.env)
   let iv <- holding [v,ov] (eval i X.env)
   standAt pos
   holding [v,ov,iv] (setItem ov iv v)
   release [v,ov,iv] []):=by intro _;rfl):PG X (.Subscript o i pos) (ID to ti t):=by
 intro J s Y H v u Q I r h;rw[ha];show J6 (LK (bu (ho J s Y H _ I h) λov s1 #[x,H1,I1,r1,q1]=>?_))
 show J6 (LK (bu (hi J s1 Y H1 _ I1 q1) λiv s2 #[y,H2,I2,r2,q2]=>?_))
 show J6 (O6 (J6 (LK (bu (hs J s2 Y H2 x y v ov iv u _ I2 r1 r2 r q2) λ_ s3 #[H3,I3,q3]=>?_))))
 show wpAny_release #[Y,H3,I3,q3]
abbrev IE (te:TE)(g:TG):TS:=λD Y H=>te Y H λx H1=>g x Y H1 D.nx
def DZ {tg e:KP}{te:TE}{g:TG}(he:PE X e te)(hg:PG X tg g)(hs:swapsWithSole [tg] e pos.line X.env=pure false:=by rfl)(hw:swappedStores [tg] e X.env=pure gV:=by rfl)
  (h1:(assignEach [tg] X.env).map (·.2)=[assign tg X.env]:=by rfl):PS X (.Assign [tg] e pos) (IE te g):=by
 intro J s Y H D I h;show wpAny_Assign_stores (bu (he J s Y H _ I h) λv s1 #[x,H1,I1,r1,q1]=>?_) hs hw
 rw[h1];show bu (hg J s1 Y H1 x v _ I1 r1 q1) λ_ s2 q=>q
abbrev IF (i j:Kf)(ta:TA):TS:=λD Y H=>ta Y H λvs H1=>∃v w,vs=[v,w]/\D.nx ((Y.set i (ba v)).set j (ba w)) H1
def D0 {i j:Kf}{x y:KJ}{a b:KP}{ta:TA}{px py pt:Na}{kt k2 pt2}(hc:X.calm=true)(hN:X.N.Nodup)(hi:X.N[i]?=ba x)(hj:X.N[j]?=ba y)(hij:i≠j)
  (hx:X.env.scope.names.lookup x=ba .local) (hy:X.env.scope.names.lookup y=ba .local) (ha:PA X [a,b] ta)
  (hw:swappedStores [.Tuple [.Name x px,.Name y py] kt pt] (.Tuple [a,b] k2 pt2) X.env=pure (ba [x,y]))
  (hs:swapsWithSole [.Tuple [.Name x px,.Name y py] kt pt] (.Tuple [a,b] k2 pt2) pos.line X.env=pure false:=by rfl) :
  PS X (.Assign [.Tuple [.Name x px,.Name y py] kt pt] (.Tuple [a,b] k2 pt2) pos) (IF i j ta):=by
 intro J s Y H D I h;rw[exec_Assign_arm];show J6 (O6 ?_);rw[hs];show J6 (Kd ?_);rw[KM #v[]]
 show J6 (Tuple_ (bu (ha _ J s Y H _ I h) λus s1 #[vs,H1,I1,r1,q1]=>?_))
 obtain⟨v,w,e1,q1⟩:=q1;subst e1;obtain⟨u1,u2,rfl,rv,rw'⟩:∃u1 u2,us=[u1,u2]/\RelV v u1/\RelV w u2:=by
  cases r1 with
  |cons p q=>
   cases q with
   |cons p' q'=>
    cases q';show#[_,_,rfl,p,p']
 show Ln ?_ (by change 2<=sizeLine;decide)
 have I2:Inv X J Y H1 {s1 with heap:=s1.heap.push {cls:=.type "tuple",data:=.seq [u1,u2].toArray}}:=I1.kept (t':=s1.toks) λb o e=>J8 _ e
 rw[hw];show J6 (Kd ?_);change wpAny (model X.prog X.w) X.A (do rule "assign.swapped-stores";let items <- unpackItems (.ref ⇑s1.heap.objs) 2 gV;assignInOrder [λv=>bindName X.env y v,λv=>bindName X.env x v] items.reverse;pure UZ) _ _ _
 show J6 (Pq (J6 (unpackItems_tuple (items:=[u1,u2].toArray) (I.ok.hd hc) (Sg s1.heap _) λh' hx'=>?_)))
 have I3:=I2.kept (h':=h') (t':=s1.toks) λb o e=>hx' b o (KO (KC e)) e
 change wpAny _ _ (assignInOrder [λv=>bindName X.env y v,λv=>bindName X.env x v] [u2,u1] >>= λ_=>pure UZ) _ _ _
 show J6 (Pp (Td (iK I3 hN hj (.inl hy) rw' (λs2 I4=>?_) (.inr hy))))
 show Pp (Td (iK I4 hN hi (.inl hx) rv (λs3 I5=>RM (Kd ?_)) (.inr hx)))
 rw[List.set_comm _ _ (Ne.symm hij)]at I5;show#[_,H1,I5,q1]
abbrev D1 (c:TT)(tb:TS):TS:=λD Y H=>∃W:Kf->St->Hp->Prop,(∃m,W m Y H)/\∀m Y H,W m Y H->
 c Y H λb H1=>if b=true then ∃N:St->Hp->Prop,(∀Y' H',N Y' H'->∃m',m'<m/\W m' Y' H')/\tb {D with nx:=N,ct:=N,bk:=D.nx} Y H1 else D.nx Y H1
def xC {c:KP}{body:J5 NB}{tc:TT}{tb:TS}(hp:Rc (model X.prog X.w) X.A X.env X.xe)(hc:PT X c tc)(hb:PSs X body tb):PS X (.While c body [] pos) (D1 tc tb):=by
 intro J s Y H D I h;obtain⟨W,⟨m0,w0⟩,turn⟩:=h;show wpAny_While (codeAny_whileLoop (λn s'=>∃Y' H',Inv X J Y' H' s'/\W n Y' H') ?_ m0 #[Y,H,I,w0])
 rintro n s1 ⟨Y1,H1,I1,w1⟩;show Nn hp (bu (hc J s1 Y1 H1 _ I1 (turn n Y1 H1 w1)) λb s2 #[H2,I2,q2]=>?_)
 cases b with
 |true=>
  obtain⟨N,hN,q2⟩:=q2;rw[KF rfl];show Nn hp (bu (hb J s2 Y1 H2 _ I2 q2) λf s3 q3=>?_)
  cases f with
  |next=>
   obtain⟨Y3,H3,I3,n3⟩:=q3;obtain⟨m',hm,w3⟩:=hN Y3 H3 n3;show#[m',hm,Y3,H3,I3,w3]
  |cont=>
   obtain⟨Y3,H3,I3,n3⟩:=q3;obtain⟨m',hm,w3⟩:=hN Y3 H3 n3;show#[m',hm,Y3,H3,I3,w3]
  |brk=>show q3
  |ret v=>show q3
 |false=>
  rw[KM KS];show Qv #[Y1,H2,I2,q2]
end
structure It where
 go:Kf->Hp->Prop
 yld:Kf->Hp->V->Hp->Prop
 stop:Kf->Hp->Prop
abbrev ip (X:Cx)(J:J5 (Kj×Mf))(H:Hp)(b:Kj):Prop:=
 H b=gV/\b≠X.env.locals/\b∉X.fs/\(b∈X.ex\/⇑X.s₀.heap.objs<=b)/\(∀x c,X.env.cells.lookup x=ba c->c≠b)/\∀p∈X.pn++J,p.1≠b
def Inv.fpOk {X:Cx}{J:J5 (Kj×Mf)}{Y:St}{H H':Hp}{s:Kc}{b:Kj}(I:Inv X J Y H s)(hb:⇑s.heap.objs<=b)(hn:H' b=gV):ip X J H' b:=by
 show#[hn,Mb (KR I.lt hb),I.nofs hb,.inr (KW I.sz hb),λx c e z=>?_,λp hp z=>?_]
 ·obtain⟨v,q⟩:=I.cell x c e;show absurd (KR q.lt (by rw[z];show hb)) (LR _)
 ·show absurd (KR (KC (I.pin p hp).1) (by rw[z];show hb)) (LR _)
structure Turn (P:K9)(w:Ll)(K:Kr)(tg:KP)(td:It)(fp:J5 Kj)(it:Kj)(tn:Kf->Lq->Prop):Prop where
 mem:it∈fp
 obj:∀i h,tn i h->∀b∈fp,∃o,h.get? b=ba o/\∀v,o.data≠.cell v
 keep:∀i h h',tn i h->(∀b∈fp,∀o,h.get? b=ba o->h'.get? b=ba o)->tn i h'
 item:∀(X:Cx),X.prog=P->X.w=w->X.K=K->X.calm=true->∀(i:Kf) (J:J5 (Kj×Mf)) (s:Kc) (Y:St) (H:Hp) (E:J9->Kc->Prop),Inv X J Y H s->(∀b∈fp,ip X J H b)->tn i s.heap->td.go i H->
  wpAny (model P w) X.A (pyNext (.ref it)) (λr s1=>∃u,r=ba u/\
   wpAny (model P w) X.A (letOwnedTupleGo tg (.ref it) u) (λ_ s2=>∃x H',Inv X J Y H' s2/\RelV x u/\td.yld i H x H'/\tn (i+1) s2.heap/\∀b∈fp,H' b=gV) E s1) E s
 done:∀(X:Cx),X.prog=P->X.w=w->X.K=K->X.calm=true->∀(i:Kf) (J:J5 (Kj×Mf)) (s:Kc) (Y:St) (H:Hp) (E:J9->Kc->Prop),Inv X J Y H s->(∀b∈fp,ip X J H b)->tn i s.heap->td.stop i H->
  wpAny (model P w) X.A (pyNext (.ref it)) (λr s1=>r=gV/\Inv X J Y H s1) E s
 self:∀(A:Ld) (i:Kf) (s:Kc) (Q:J9->Kc->Prop) (E:J9->Kc->Prop),tn i s.heap->Q (.ref it) s->wpAny (model P w) A (pyIter (.ref it)) Q E s
noncomputable abbrev TI:=St->Hp->(It->Hp->Prop)->Prop
abbrev Gd (X:Cx)(J:J5 (Kj×Mf))(Y:St)(tg:KP)(R:It->Hp->Prop)(itv:J9)(s2:Kc):Prop:=
 ∃(it:Kj) (fp:J5 Kj) (tn:Kf->Lq->Prop) (td:It) (H':Hp),itv=.ref it/\Inv X J Y H' s2/\Turn X.prog X.w X.K tg td fp it tn/\tn 0 s2.heap/\(∀b∈fp,ip X J H' b)/\R td H'
abbrev PI (X:Cx)(tg iter:KP)(wi:TI):Prop:=
 ∀(J:J5 (Kj×Mf)) (s:Kc) (Y:St) (H:Hp) (R:It->Hp->Prop),Inv X J Y H s->wi Y H R->
  wpAny (model X.prog X.w) X.A (eval iter X.env) (λv s1=>wpAny (model X.prog X.w) X.A (pyIter v) (Gd X J Y tg R) X.xe s1) X.xe s
def tH {Mqa:Vb}{A:Ld}{E:J9->Kc->Prop}{s:Kc}{tg:KP}{it:Kj}{u:J9}{o:Mf}{n:L1}{vs:KL J9}{Q:Vc->Kc->Prop}(ho:s.heap.get? it=ba o)(hc:o.cls=.type n)(hd:o.data=.fields vs)
    (hn:["enumerate","zip","dict_itemiterator","dict_reverseitemiterator","odict_iterator","itertools.zip_longest","itertools.pairwise"].contains n=false) (hQ:Q () s):wpAny Mqa A (letOwnedTupleGo tg (.ref it) u) Q E s:=by
  unfold letOwnedTupleGo;cases tg<;>first
    |show Kd hQ
    |(cases u<;>first
        |show Kd hQ
        | (show J6 (Ql ho ?_)
           rw[hc,hd];change wpAny Mqa A (if (["enumerate","zip","dict_itemiterator","dict_reverseitemiterator","odict_iterator","itertools.zip_longest","itertools.pairwise"].contains n&&vs[0]?==ba (rawInt _))=true then _ else _) Q E s
           rw[KM (by intro h;rw[hn,Bool.false_and]at h;cases h)]
           show Kd hQ))
abbrev IG (K:Kr)(a:Kj):It:=
 #[λi H=>∃xs x,SqL K H a xs/\xs[i]?=ba x,λi H x H'=>H'=H/\∀xs,SqL K H a xs->xs[i]?=ba x,λi H=>∃xs,SqL K H a xs/\↥xs<=i]
abbrev FJ (K:Kr)(a:Kj):It:=
 #[λi H=>∃xs x,SqT K H a xs/\xs[i]?=ba x,λi H x H'=>H'=H/\∀xs,SqT K H a xs->xs[i]?=ba x,λi H=>∃xs,SqT K H a xs/\↥xs<=i]
abbrev Ge (lo:Ks)(n:Kf):It:=#[λi _=>i<n,λi H x H'=>H'=H/\x=.int (lo+i),λi _=>n<=i]
def vy {P:K9}{w:Ll}{K:Kr}{tg:KP}(a it:Kj):Turn P w K tg (IG K a) [it] it (λi h=>h.IsListIter it a i) where
 mem:=by simp
 obj:=λi h st b hb=>by
  have e:b=it:=by simpa using hb
  subst e;obtain⟨o,e,c,d⟩:=st;show#[o,e,λv z=>by rw[d]at z;cases z]
 keep:=λi h h' st k=>st.at λo e=>k it (by simp) o e
 item:=by
  intro X hP hw hK hc i J s Y H E I hf st hg;subst hP hw hK;obtain⟨xs,x,hq,hx⟩:=hg;obtain⟨its,rv,p,hz⟩:=I.list hq;obtain⟨u,hu,ru⟩:=rv.get hx;obtain⟨f0,f1,f2,f3,f4,f5⟩:=hf it (by simp)
  show wpAny_pyNext_list_item st p.isList (x:=u) (by simpa using hu) λh' st' sb=>?_
  have I1:Inv X J Y H {s with heap:=h'}:=I.turned (t':=s.toks) (λb o hb e=>(sb.2 b hb).trans e) f0 f1 f3 f4 f5
  obtain⟨o,e,c,d⟩:=id st';show#[u,rfl,tH (s:={s with heap:=h'}) e c d #v[] #[x,H,I1,ru,#[rfl,λys hy=>by rw[I.list_inj hy hq];show hx],st',λb hb=>(hf b hb).1]]
 done:=by
  intro X hP hw hK hc i J s Y H E I hf st hg;subst hP hw hK;obtain⟨xs,hq,hx⟩:=hg;obtain⟨its,rv,p,hz⟩:=I.list hq;obtain⟨f0,f1,f2,f3,f4,f5⟩:=hf it (by simp)
  have hl:=↥rv;show wpAny_pyNext_list_end (I.ok.hd hc) st p.isList (by simp;omega) λh' eb=>#[rfl,I.turned (t':=s.toks) (λb o hb e=>eb b o hb e) f0 f1 f3 f4 f5]
 self:=λ_ _ _ _ _ st h=>wpAny_pyIter_listiter st h
def rN {P:K9}{w:Ll}{K:Kr}{tg:KP}(a it:Kj):Turn P w K tg (FJ K a) [it] it (λi h=>h.IsTupleIter it a i) where
 mem:=by simp
 obj:=λi h st b hb=>by
  have e:b=it:=by simpa using hb
  subst e;obtain⟨o,e,c,d⟩:=st;show#[o,e,λv z=>by rw[d]at z;cases z]
 keep:=λi h h' st k=>st.at λo e=>k it (by simp) o e
 item:=by
  intro X hP hw hK hc i J s Y H E I hf st hg;subst hP hw hK;obtain⟨xs,x,hq,hx⟩:=hg;obtain⟨its,rv,p,hz⟩:=I.tuple hq;obtain⟨u,hu,ru⟩:=rv.get hx;obtain⟨f0,f1,f2,f3,f4,f5⟩:=hf it (by simp)
  show wpAny_pyNext_tuple_item st (show s.heap.IsTuple a its.toArray from p) (x:=u) (by simpa using hu) λh' st' sb=>?_
  have I1:Inv X J Y H {s with heap:=h'}:=I.turned (t':=s.toks) (λb o hb e=>(sb.2 b hb).trans e) f0 f1 f3 f4 f5
  obtain⟨o,e,c,d⟩:=id st';show#[u,rfl,tH (s:={s with heap:=h'}) e c d #v[] #[x,H,I1,ru,#[rfl,λys hy=>by rw[I.tuple_inj hy hq];show hx],st',λb hb=>(hf b hb).1]]
 done:=by
  intro X hP hw hK hc i J s Y H E I hf st hg;subst hP hw hK;obtain⟨xs,hq,hx⟩:=hg;obtain⟨its,rv,p,hz⟩:=I.tuple hq;obtain⟨f0,f1,f2,f3,f4,f5⟩:=hf it (by simp)
  have hl:=↥rv;show wpAny_pyNext_tuple_end (I.ok.hd hc) st (show s.heap.IsTuple a its.toArray from p) (by simp;omega) λh' eb=>#[rfl,I.turned (t':=s.toks) (λb o hb e=>eb b o hb e) f0 f1 f3 f4 f5]
 self:=λ_ _ _ _ _ st h=>wpAny_pyIter_tupleiter st h
def rO {P:K9}{w:Ll}{K:Kr}{tg:KP}(it:Kj)(lo:Ks)(n:Kf):Turn P w K tg (Ge lo n) [it] it (λi h=>Ut h it (lo+(i:Kf)*1) ((n:Ks)-(i:Kf)) 1) where
 mem:=by simp
 obj:=λi h st b hb=>by
  have e:b=it:=by simpa using hb
  subst e;show#[_,st,λv z=>by
   have z':Data.fields _=Data.cell v:=z;cases z']
 keep:=λi h h' st k=>k it (by simp) _ st
 item:=by
  intro X hP hw hK hc i J s Y H E I hf st hg;subst hP hw hK;obtain⟨f0,f1,f2,f3,f4,f5⟩:=hf it (by simp)
  have W:=Walks.range (prog:=X.prog) (w:=X.w) (I.ok.hd hc) it lo 1 n;show W.item i s _ _ hg st λv h' tk hv st' kk=>?_
  obtain⟨t,rfl⟩:=hv;have I1:Inv X J Y H {s with heap:=h',toks:=tk}:=I.turned (λb o hb e=>kk b o (by simpa using hb) e) f0 f1 f3 f4 f5
  show#[_,rfl,tH (s:={s with heap:=h',toks:=tk}) (n:="range_iterator") st' rfl rfl #v[] #[.int (lo+i),H,I1,#[t,?_],#[rfl,rfl],st',λb hb=>(hf b hb).1]]
  rw[Int.mul_one]
 done:=by
  intro X hP hw hK hc i J s Y H E I hf st hg;subst hP hw hK;obtain⟨f0,f1,f2,f3,f4,f5⟩:=hf it (by simp)
  show wpAny_pyNext_range_end (I.ok.hd hc) st (by have:n<=i:=hg;omega) λh' eb=>#[rfl,I.turned (t':=s.toks) (λb o hb e=>eb b o hb e) f0 f1 f3 f4 f5]
 self:=λ_ _ _ _ _ st h=>wpAny_pyIter_rangeiter st h
section
variable{X:Cx}{tg:KP}
def pf {J:J5 (Kj×Mf)}{Y:St}{H:Hp}{s:Kc}{R:It->Hp->Prop}{E:J9->Kc->Prop}{lo hi:Ks}{t u v:Vk}{tk:Kf}(I:Inv X J Y H s)(h1 : -(2^62)<=lo)(h2:lo<2^62)(h3 : -(2^62)<=hi)(h4:hi<2^62)
  (q:R (Ge lo (hi-lo).toNat) H):wpAny (model X.prog X.w) X.A (pyIter (.ref ⇑s.heap.objs)) (Gd X J Y tg R) E {s with heap:=s.heap.push {cls:=.type "range",data:=.fields [.int lo t,.int hi u,.int 1 v].toArray},toks:=tk}:=by
 show wpAny_pyIter_range (IsRange.new ..) (Ua h1 h2 h3 h4) ?_;have I1:Inv X J Y H {s with heap:=s.heap.push {cls:=.type "range",data:=.fields [.int lo t,.int hi u,.int 1 v].toArray},toks:=tk}:=I.kept λb o e=>J8 _ e
 show#[(s.heap.push {cls:=.type "range",data:=.fields [.int lo t,.int hi u,.int 1 v].toArray}).objs.size,[(s.heap.push {cls:=.type "range",data:=.fields [.int lo t,.int hi u,.int 1 v].toArray}).objs.size],_,_,H,rfl,
  I1.kept (t':=tk) λb o e=>J8 _ e,rO _ lo (hi-lo).toNat,?_,λb hb=>?_,q]
 ·have e1:lo+((0:Kf):Ks)*1=lo:=by simp
  have e2:(((hi-lo).toNat:Kf):Ks)-((0:Kf):Ks)=MC lo hi 1:=by rw[Rl];split<;>omega
  change Ut _ _ (lo+((0:Kf):Ks)*1) ((((hi-lo).toNat:Kf):Ks)-((0:Kf):Ks)) 1;rw[e1,e2];show Ku _ rfl
 ·have e:b=(s.heap.push {cls:=.type "range",data:=.fields [.int lo t,.int hi u,.int 1 v].toArray}).objs.size:=by simpa using hb
  subst e;show I1.fpOk (Ki _) (I1.hok.fresh (Ki _))
abbrev Gf (ta:TA):TI:=λY H R=>ta Y H λvs H1=>∃j:Ks,vs=[.int j]/\-(2^62)<=j/\j<2^62/\R (Ge 0 j.toNat) H1
abbrev iRng2 (ta:TA):TI:=λY H R=>ta Y H λvs H1=>∃i j:Ks,vs=[.int i,.int j]/\(-(2^62)<=i/\i<2^62/\-(2^62)<=j/\j<2^62)/\R (Ge i (j-i).toNat) H1
def vz {a:KP}{ta:TA}{p pos:Na}(hg:Gl X "range")(hm:X.mg "range" = gV)(ha:PA X [a] ta)(hs:starEach [a] X.env=[(false,eval a X.env)]:=by rfl):PI X tg (.Call (.Name "range" p) [a] [] pos) (Gf ta):=by
 intro J s Y H R I h;show Vd (io I hg hm boot_range (MG (bu (ha pos J s Y H _ I h) λus s1 #[vs,H1,I1,r1,q1]=>?_) hs rfl))
 obtain⟨j,e,q1,q2,q⟩:=q1;subst e;cases r1 with
 |cons r rr=>
  cases rr;obtain⟨t,rfl⟩:=r;show Ue (pf I1 ∅ ∅ q1 q2 (by simpa using q))
def vA {a b:KP}{ta:TA}{p pos:Na}(hg:Gl X "range")(hm:X.mg "range" = gV)(ha:PA X [a,b] ta)(hs:starEach [a,b] X.env=[(false,eval a X.env),(false,eval b X.env)]:=by rfl)(hs2:starEach [b] X.env=[(false,eval b X.env)]:=by rfl) :
  PI X tg (.Call (.Name "range" p) [a,b] [] pos) (iRng2 ta):=by
 intro J s Y H R I h;show Vd (io I hg hm boot_range (MG (bu (ha pos J s Y H _ I h) λus s1 #[vs,H1,I1,r1,q1]=>?_) (by rw[hs,hs2]) (by rw[hs2];rfl)))
 obtain⟨i,j,e,⟨q1,q2,q3,q4⟩,q⟩:=q1;subst e;cases r1 with
 |cons r rr=>
  cases rr with
  |cons r' rr=>
   cases rr;obtain⟨t,rfl⟩:=r;obtain⟨t',rfl⟩:=r';show call_range_2 (pf I1 q1 q2 q3 q4 q)
abbrev IH (wi:TI)(g:TG)(tb:TS):TS:=λD Y H=>wi Y H λtd H1=>∃W:Kf->Kf->St->Hp->Prop,(∃m,W 0 m Y H1)/\∀i m Y H,W i m Y H->
 (td.stop i H/\D.nx Y H)\/(td.go i H/\∃N:St->Hp->Prop,(∀Y' H',N Y' H'->∃m',m'<m/\W (i+1) m' Y' H')/\∀x H',td.yld i H x H'->g x Y H' λY2 H2=>tb {D with nx:=N,ct:=N,bk:=D.nx} Y2 H2)
abbrev jn (fp:J5 Kj)(h:Lq):J5 (Kj×Mf):=fp.filterMap λb=>(h.get? b).map λo=>(b,o)
def fL {fp:J5 Kj}{h:Lq}{b:Kj}{o:Mf}(hb:b∈fp)(e:h.get? b=ba o):(b,o)∈jn fp h:=Pr.mpr #[b,hb,by rw[e];rfl]
def vB {fp:J5 Kj}{h:Lq}{p:Kj×Mf}(hp:p∈jn fp h):p.1∈fp/\h.get? p.1=ba p.2:=by
 obtain⟨b,hb,e⟩:=Pr.mp hp;cases q:h.get? b with
 |none=>rw[q]at e;cases e
 |some o=>
  rw[q]at e;have e':(b,o)=p:=LB e;subst e';show#[hb,q]
def Inv.pinned {J:J5 (Kj×Mf)}{Y:St}{H:Hp}{s:Kc}{fp:J5 Kj}(I:Inv X J Y H s)(hf:∀b∈fp,ip X J H b)(ho:∀b∈fp,∃o,s.heap.get? b=ba o/\∀v,o.data≠.cell v):Inv X (J++jn fp s.heap) Y H s:=
 I.pins_of λp hp=>(La.mp hp).elim (λz=>I.pin p (K6 _ z)) λz=>by
  obtain⟨hb,e⟩:=vB z;obtain⟨f0,f1,f2,_⟩:=hf p.1 hb;obtain⟨o,e',d⟩:=ho p.1 hb;rw[e]at e';cases e'
  show#[e,f0,f1,f2,d]
def Inv.unpinned {J pl:J5 (Kj×Mf)}{Y:St}{H:Hp}{s:Kc}(I:Inv X (J++pl) Y H s):Inv X J Y H s:=I.pins_of λp hp=>I.pin p (K6 _ (LN _ hp))
def D2 {iter:KP}{body:J5 NB}{wi:TI}{g:TG}{tb:TS}{pos:Na}(hp:Rc (model X.prog X.w) X.A X.env X.xe)(hc:X.calm=true)(hi:PI X tg iter wi)(hg:PG X tg g)(hb:PSs X body tb)
  (hs:∀x,foldedSetIterable iter X.env x=pure x:=by intro _;rfl):PS X (.For tg iter body [] pos) (IH wi g tb):=by
 intro J s Y H D I h;show wpAny_For (bu (hi J s Y H _ I h) λv s1 h1=>bu h1 λitv s2 h2=>?_) hs
 obtain⟨it,fp,tn,td,H2,e,I2,T,aG,f2,W,⟨m0,w0⟩,turn⟩:=h2;subst e;have stat:∀{H':Hp},(∀b∈fp,H' b=gV)->∀b∈fp,ip X J H' b:=λhn b hb=>#[hn b hb,(f2 b hb).2]
 show codeAny_forLoop_any (λn s'=>∃i Y' H',Inv X J Y' H' s'/\tn i s'.heap/\(∀b∈fp,H' b=gV)/\W i n Y' H') ?_ m0 #[0,Y,H2,I2,aG,λb hb=>(f2 b hb).1,w0]
 rintro n s3 ⟨i,Y3,H3,I3,st3,fr3,w3⟩;rcases turn i n Y3 H3 w3 with⟨stop,qn⟩|⟨go,N,hN,step⟩
 ·show Nn hp (bu (T.done X rfl rfl rfl hc i J s3 Y3 H3 X.xe I3 (stat fr3) st3 stop) λr s4 #[hr,I4]=>?_)
  subst hr;show Qv #[Y3,H3,I4,qn]
 ·show Nn hp (bu (T.item X rfl rfl rfl hc i J s3 Y3 H3 X.xe I3 (stat fr3) st3 go) λr s4 #[u,hr,h4]=>?_)
  subst hr;show Nn hp (bu h4 λ_ s5 #[x,H5,I5,r5,y5,FM,fr5]=>?_)
  have I5':=I5.pinned (stat fr5) (T.obj _ _ FM);show Nn hp (bu (hg _ s5 Y3 H5 x u _ I5' r5 (step x H5 y5)) λ_ s6 #[Y6,H6,I6,q6]=>?_)
  show Nn hp (bu (hb _ s6 Y6 H6 _ I6 q6) λf s7 q7=>?_)
  have again:∀{Y7:St}{H7:Hp},Inv X (J++jn fp s5.heap) Y7 H7 s7->N Y7 H7->∃m,m<n/\∃i Y' H',Inv X J Y' H' s7/\tn i s7.heap/\(∀b∈fp,H' b=gV)/\W i m Y' H':=λ{Y7 H7} I7 n7=>by
   obtain⟨m',hm,w7⟩:=hN Y7 H7 n7;show#[m',hm,i+1,Y7,H7,I7.unpinned,T.keep _ _ _ FM λb hb o e=>(I7.pin (b,o) (K6 _ (K6 _ (fL hb e)))).1,λb hb=>?_,w7]
   obtain⟨o,e,d⟩:=T.obj _ _ FM b hb;show(I7.pin (b,o) (K6 _ (K6 _ (fL hb e)))).2.1
  cases f with
  |next=>obtain⟨Y7,H7,I7,n7⟩:=q7;show again I7 n7
  |cont=>obtain⟨Y7,H7,I7,n7⟩:=q7;show again I7 n7
  |brk=>obtain⟨Y7,H7,I7,q7⟩:=q7;show#[Y7,H7,I7.unpinned,q7]
  |ret v=>obtain⟨x7,Y7,H7,I7,r7,q7⟩:=q7;show#[x7,Y7,H7,I7.unpinned,r7,q7]
end
def for_tup {K:Kr}{a:Kj}{xs:J5 V}{g:TG}{tb:TS}{D:Ends}{Y:St}{H:Hp}(Pv:Kf->St->Hp->Prop)(h0:Pv 0 Y H)(hl:∀i Y H,i<=↥xs->Pv i Y H->SqT K H a xs)
  (hs:∀i x Y H,xs[i]?=ba x->Pv i Y H->g x Y H λY2 H2=>tb {D with nx:=Pv (i+1),ct:=Pv (i+1),bk:=D.nx} Y2 H2) (hd:∀Y H,Pv ↥xs Y H->D.nx Y H) :
  ∃W:Kf->Kf->St->Hp->Prop,(∃m,W 0 m Y H)/\∀i m Y H,W i m Y H->
   ((FJ K a).stop i H/\D.nx Y H)\/((FJ K a).go i H/\∃N:St->Hp->Prop,(∀Y' H',N Y' H'->∃m',m'<m/\W (i+1) m' Y' H')/\∀x H',(FJ K a).yld i H x H'->g x Y H' λY2 H2=>tb {D with nx:=N,ct:=N,bk:=D.nx} Y2 H2):=by
 show#[λi m Y H=>m=↥xs-i/\i<=↥xs/\Pv i Y H,#[↥xs,by simp,LC _,h0],?_]
 rintro i m Y H ⟨rfl,hi,p⟩;have q:=hl i Y H hi p
 by_cases hlt:i<↥xs
 ·show .inr #[#[xs,xs[i],q,by simp[hlt]],Pv (i+1),λY' H' p'=>#[↥xs-(i+1),∅,rfl,hlt,p'],λx H' y=>?_]
  obtain⟨e,y⟩:=y;subst e;show hs i x Y _ (y xs q) p
 ·have e:i=↥xs:=∅
  subst e;show .inl #[#[xs,q,Ki _],hd Y H p]
noncomputable abbrev R2:=V->V->Hp->VK->Prop
abbrev OpR (X:Cx)(f:J9->J9->UC J9)(r:R2):Prop:=
 ∀(J:J5 (Kj×Mf)) (s:Kc) (Y:St) (H:Hp) (x y:V) (v u:J9) (Q:VK),Inv X J Y H s->RelV x v->RelV y u->r x y H Q->
  wpAny (model X.prog X.w) X.A (f v u) (EP X J Y Q) X.xe s
abbrev II (X:Cx)(f:J9->UC J9)(r:V->Hp->VK->Prop):Prop:=
 ∀(J:J5 (Kj×Mf)) (s:Kc) (Y:St) (H:Hp) (x:V) (v:J9) (Q:VK),Inv X J Y H s->RelV x v->r x H Q->
  wpAny (model X.prog X.w) X.A (f v) (EP X J Y Q) X.xe s
abbrev CallR (X:Cx)(f:J9)(r:J5 V->Hp->VK->Prop):Prop:=
 ∀(J:J5 (Kj×Mf)) (s:Kc) (Y:St) (H:Hp) (xs:J5 V) (us:J5 J9) (Q:VK),Inv X J Y H s->Vals xs us->r xs H Q->
  wpAny (model X.prog X.w) X.A (call f us) (EP X J Y Q) X.xe s
abbrev IJ (X:Cx)(r:V->Hp->(KU->Hp->Prop)->Prop):Prop:=
 ∀(J:J5 (Kj×Mf)) (s:Kc) (Y:St) (H:Hp) (x:V) (v:J9) (Q:KU->Hp->Prop),Inv X J Y H s->RelV x v->r x H Q->
  wpAny (model X.prog X.w) X.A (truthy v) (TP X J Y Q) X.xe s
abbrev Ih (r:R2)(ta tb:TE):TE:=λY H Q=>ta Y H λx H1=>tb Y H1 λy H2=>r x y H2 Q
abbrev JV (r:V->Hp->VK->Prop)(ta:TE):TE:=λY H Q=>ta Y H λx H1=>r x H1 Q
abbrev rI (C:Ks->Ks->Prop)(g:Ks->Ks->V):R2:=λx y H Q=>∃i j,x=.int i/\y=.int j/\C i j/\Q (g i j) H
abbrev De (g:Ks->Ks->V):R2:=λx y H Q=>∃i j,x=.int i/\y=.int j/\Q (g i j) H
abbrev rU (g:Ks->V):V->Hp->VK->Prop:=λx H Q=>∃i,x=.int i/\Q (g i) H
section
variable{X:Cx}{a b c:KP}{ta tb tc:TE}{pos:Na}
def D3 (ha:PE X a ta)(hb:PE X b tb){J:J5 (Kj×Mf)}{s:Kc}{Y:St}{H:Hp}{R:V->V->Hp->Prop}(I:Inv X J Y H s)
  (h:ta Y H λx H1=>tb Y H1 λy H2=>R x y H2) {Q:J9->Kc->Prop}{f:J9->J9->UC J9}
  (hf:∀v u s2 x y H2,Inv X J Y H2 s2->RelV x v->RelV y u->R x y H2->wpAny (model X.prog X.w) X.A (f v u) Q X.xe s2) :
  wpAny (model X.prog X.w) X.A (eval a X.env) (λv s₁=>wpAny (model X.prog X.w) X.A (eval b X.env) (λu s₂=>wpAny (model X.prog X.w) X.A (f v u) Q X.xe s₂) X.xe s₁) X.xe s:=by
 show bu (ha J s Y H _ I h) λv s1 #[x,H1,I1,r1,q1]=>?_
 show bu (hb J s1 Y H1 _ I1 q1) λu s2 #[y,H2,I2,r2,q2]=>?_
 show hf v u s2 x y H2 I2 r1 r2 q2
def Gg {op:RN}{r:R2}(ho:OpR X (binaryOp op) r)(ha:PE X a ta)(hb:PE X b tb):PE X (.BinOp a op b pos) (Ih r ta tb):=by
 intro J s Y H Q I h;show wpAny_BinOp (D3 ha hb I h λv u s2 x y H2 I2 rx ry q=>ho J s2 Y H2 x y v u Q I2 rx ry q)
def Gh {op:UnaryOp}{r:V->Hp->VK->Prop}(ho:II X (unaryOp op) r)(ha:PE X a ta):PE X (.UnaryOp op a pos) (JV r ta):=by
 intro J s Y H Q I h;show UnaryOp_ (bu (ha J s Y H _ I h) λv s1 #[x,H1,I1,r1,q1]=>ho J s1 Y H1 x v Q I1 r1 q1)
def Ii {f:J9->J9->UC J9}{C:Ks->Ks->Prop}{g:Ks->Ks->Ks}
  (rule:∀(i j:Ks) (t u:Vk) (s:Kc) (Q:J9->Kc->Prop) (E:J9->Kc->Prop),C i j->Q (.int (g i j) s.toks) {s with toks:=s.toks+1}->wpAny (model X.prog X.w) X.A (f (.int i t) (.int j u)) Q E s) :
  OpR X f (rI C λi j=>.int (g i j)):=by
 intro J s Y H x y v u Q I rx ry h;obtain⟨i,j,rfl,rfl,hc,q⟩:=h;obtain⟨t,rfl⟩:=rx;obtain⟨t',rfl⟩:=ry;show rule i j t t' s _ _ hc #[.int (g i j),H,I.tok _,#[_,rfl],q]
def Gi {f:J9->J9->UC J9}{g:Ks->Ks->Ks}
  (rule:∀(i j:Ks) (t u:Vk) (s:Kc) (Q:J9->Kc->Prop) (E:J9->Kc->Prop),Q (.int (g i j) s.toks) {s with toks:=s.toks+1}->wpAny (model X.prog X.w) X.A (f (.int i t) (.int j u)) Q E s) :
  OpR X f (De λi j=>.int (g i j)):=by
 intro J s Y H x y v u Q I rx ry h;obtain⟨i,j,rfl,rfl,q⟩:=h;obtain⟨t,rfl⟩:=rx;obtain⟨t',rfl⟩:=ry;show rule i j t t' s _ _ #[.int (g i j),H,I.tok _,#[_,rfl],q]
def A7 {f:J9->J9->UC J9}{g:Ks->Ks->KU}
  (rule:∀(i j:Ks) (t u:Vk) (s:Kc) (Q:J9->Kc->Prop) (E:J9->Kc->Prop),Q (.bool (g i j)) s->wpAny (model X.prog X.w) X.A (f (.int i t) (.int j u)) Q E s) :
  OpR X f (De λi j=>.bl (g i j)):=by
 intro J s Y H x y v u Q I rx ry h;obtain⟨i,j,rfl,rfl,q⟩:=h;obtain⟨t,rfl⟩:=rx;obtain⟨t',rfl⟩:=ry;show rule i j t t' s _ _ #[.bl (g i j),H,I,rfl,q]
abbrev IK (i j:Ks):Prop:=0<j/\j<1073741824
abbrev IL (i j:Ks):Prop:=0<=j/\j<=1000000/\i.natAbs<2^64
abbrev CMul (i j:Ks):Prop:=(-(2^64)<i/\i<2^64)\/(-(2^64)<j/\j<2^64)
def CMul.ok {i j:Ks}(h:CMul i j):IntMulOk i j:=by
 rcases h with⟨h1,h2⟩|⟨h1,h2⟩
 ·show .of_left (TH h1 h2)
 ·show .of_right (TH h1 h2)
def D4:OpR X (binaryOp .Add) (De λi j=>.int (i+j)):=Gi λ_ _ _ _ _ _ _ q=>add_int q
def D5:OpR X (binaryOp .Sub) (De λi j=>.int (i-j)):=Gi λ_ _ _ _ _ _ _ q=>sub_int q
def D6:OpR X (binaryOp .Mult) (rI CMul λi j=>.int (i*j)):=Ii λ_ _ _ _ _ _ _ hc q=>mul_int q hc.ok
def Ba:OpR X (binaryOp .FloorDiv) (rI IK λi j=>.int (i/j)):=Ii λi j _ _ _ _ _ hc q=>by
 have h1:(0:Ks)<j:=hc.1;have h2:j<1073741824:=hc.2;show floordiv_int ∅ (by rw[Int.fdiv_eq_ediv_of_nonneg i ∅];show q) (.inl (PyProof.noPylong_small ∅))
def D7:OpR X (binaryOp .Mod) (rI (λ_ j=>0<j) λi j=>.int (i % j)):=Ii λi j _ _ _ _ _ hc q=>by
 have h1:(0:Ks)<j:=hc;show mod_int' ∅ (by rw[Int.fmod_eq_emod_of_nonneg i ∅];show q)
def D8:OpR X (binaryOp .Pow) (rI IL λi j=>.int (i^j.toNat)):=Ii λ_ _ _ _ _ _ _ hc q=>pow_int_small hc.1 hc.2.1 hc.2.2 q
def JW {f:J9->UC J9}{g:Ks->Ks}
  (rule:∀(i:Ks) (t:Vk) (s:Kc) (Q:J9->Kc->Prop) (E:J9->Kc->Prop),Q (.int (g i) s.toks) {s with toks:=s.toks+1}->wpAny (model X.prog X.w) X.A (f (.int i t)) Q E s) :
  II X f (rU λi=>.int (g i)):=by
 intro J s Y H x v Q I rx h;obtain⟨i,rfl,q⟩:=h;obtain⟨t,rfl⟩:=rx;show rule i t s _ _ #[.int (g i),H,I.tok _,#[_,rfl],q]
def D9:II X (unaryOp .USub) (rU λi=>.int (-i)):=JW λ_ _ _ _ _ q=>neg_int q
def xD {J:J5 (Kj×Mf)}{Y:St}{H:Hp}{s:Kc}{Q:VK}{k k':KU}(I:Inv X J Y H s)(q:Q (.bl k) H)(e:k=k'):EP X J Y Q (.bool k') s:=by
 subst e;show#[.bl k,H,I,rfl,q]
def Gj:OpR X (compareOp .Lt) (De λi j=>.bl (decide (i<j))):=A7 λ_ _ _ _ _ _ _ q=>lt_int q
def Gk:OpR X (compareOp .LtE) (De λi j=>.bl (decide (i<=j))):=A7 λ_ _ _ _ _ _ _ q=>le_int q
def Gm:OpR X (compareOp .Gt) (De λi j=>.bl (decide (j<i))):=A7 λ_ _ _ _ _ _ _ q=>gt_int q
def Gn:OpR X (compareOp .GtE) (De λi j=>.bl (decide (j<=i))):=A7 λ_ _ _ _ _ _ _ q=>ge_int q
def Ea:OpR X (compareOp .Is) (λx y H Q=>y=.non/\Q (.bl (decide (x=.non))) H):=by
 intro J s Y H x y v u Q I rx ry h;obtain⟨rfl,q⟩:=h;cases ry;show is_none_gen (xD I q ?_);cases x<;>first
  |(cases rx;rfl)
  |(obtain⟨t,rfl⟩:=rx;rfl)
def Bb:OpR X (compareOp .IsNot) (λx y H Q=>y=.non/\Q (.bl (!decide (x=.non))) H):=by
 intro J s Y H x y v u Q I rx ry h;obtain⟨rfl,q⟩:=h;cases ry;show isnot_none_gen (xD I q ?_);cases x<;>first
  |(cases rx;rfl)
  |(obtain⟨t,rfl⟩:=rx;rfl)
def Bc {op:Ub}{r:R2}(ho:OpR X (compareOp op) r)(ha:PE X a ta)(hb:PE X b tb)(hm:behindInMarks op b=false):PE X (.Compare a [op] [b] pos) (Ih r ta tb):=by
 intro J s Y H Q I h;show wpAny_Compare1 (D3 ha hb I h λv u s2 x y H2 I2 rx ry q=>ho J s2 Y H2 x y v u Q I2 rx ry q) hm
abbrev Go (t:TE):TT:=λY H Q=>t Y H λx H'=>∃k,x=.bl k/\Q k H'
def Bd {op:Ub}{r:R2}(ho:OpR X (compareOp op) r)(ha:PE X a ta)(hb:PE X b tb)(hm:behindInMarks op b=false):PT X (.Compare a [op] [b] pos) (Go (Ih r ta tb)):=by
 intro J s Y H Q I h;show wpAny_isTrue_Compare1 (bu (ha J s Y H _ I h) λv s1 #[x,H1,I1,r1,q1]=>bu (hb J s1 Y H1 _ I1 q1) λu s2 #[y,H2,I2,r2,q2]=>
  bu (ho J s2 Y H2 x y v u _ I2 r1 r2 q2) λc s3 #[z,H3,I3,r3,k,e,q3]=>?_) hm
 subst e;cases r3;show MZ #[H3,I3,q3]
abbrev IM (K:Kr)(x:V)(H:Hp)(k:KU):Prop:=
 match x with
 |.non=>k=false
 |.bl b=>k=b
 |.int i=>k=(i != 0)
 |.str y=>↥y<=sizeLine/\k=((↥y:Ks) != 0)
 |.byt y=>⇑y<=sizeLine/\k=((⇑y:Ks) != 0)
 |.ref p=>(∃xs,SqL K H p xs/\k = !xs.isEmpty)\/(∃xs,SqT K H p xs/\k = !xs.isEmpty)\/∃U,H p=ba (.dK U)/\k = !U.isEmpty
 |_=>LV
def rP {κ:Type}{U:J5 (κ×V)}{vs:J5 (κ×J9)}(r:KV U vs):(!vs.isEmpty) = !U.isEmpty:=by
 cases r<;>rfl
def kB {xs:J5 V}{its:J5 J9}(r:Vals xs its):(!its.toArray.isEmpty) = !xs.isEmpty:=by
 cases r<;>simp
def jo:(sizeLine:Kf)<2^63:=by rw[Lp];decide
def Eb:IJ X (λx H Q=>∃k,IM X.K x H k/\Q k H):=by
 intro J s Y H x v Q I rx h;obtain⟨k,e,q⟩:=h;have hl:=jo;have hs:sizeLine=16777216:=Lp;cases x with
 |non=>
  cases rx;have e':k=false:=e;subst e';show truthy_none #[H,I,q]
 |bl b=>
  cases rx;have e':k=b:=e;subst e';show MZ #[H,I,q]
 |int i=>
  obtain⟨t,rfl⟩:=rx;have e':k=(i != 0):=e;subst e';show PySem.P.truthy_int #[H,I,q]
 |str y=>
  obtain⟨t,rfl⟩:=rx;obtain⟨hy,e'⟩ : ↥y<=sizeLine/\k=((↥y:Ks) != 0):=e;subst e';show PySem.P.truthy_str ∅ #[H,I.tok _,q]
 |byt y=>
  obtain⟨t,rfl⟩:=rx;obtain⟨hy,e'⟩ : ⇑y<=sizeLine/\k=((⇑y:Ks) != 0):=e;subst e';show PySem.W.truthy_bytes ∅ #[H,I.tok _,q]
 |ref p=>
  cases rx;have e':(∃xs,SqL X.K H p xs/\k = !xs.isEmpty)\/(∃xs,SqT X.K H p xs/\k = !xs.isEmpty)\/∃U,H p=ba (.dK U)/\k = !U.isEmpty:=e;rcases e' with⟨xs,hx,e'⟩|⟨xs,hx,e'⟩|⟨U,hx,e'⟩
  ·subst e';obtain⟨its,r,pl,hz⟩:=I.list hx;have hlen:=↥r;show wpAny_truthy_list pl.isList (by revert Ky;omega) #[H,I.tok _,by rw[kB r];show q]
  ·subst e';obtain⟨its,r,pl,hz⟩:=I.tuple hx;have hlen:=↥r;show truthy_tuple pl (by revert Ky;omega) #[H,I.tok _,by rw[kB r];show q]
  ·subst e';obtain⟨hz,hS,vs,r,m⟩ : ↥U<=sizeLine/\(p==sysModules)=false/\∃vs,KV U vs/\s.heap.DictOf (nI X.prog X.w) p vs:=I.hok p _ hx;have hlen:↥U=↥vs:=P6 r;show wpAny_truthy_dict hS m ∅ #[H,I.tok _,by rw[rP r];show q]
 |_=>show(show LV from e).elim
def rQ:OpR X (binaryOp .Add) (λx y H Q=>∃i j,x=.str i/\y=.str j/\↥i+↥j<=sizeLine/\Q (.str (i++j)) H):=by
 intro J s Y H x y v u Q I rx ry h;obtain⟨i,j,rfl,rfl,hz,q⟩:=h;obtain⟨t,rfl⟩:=rx;obtain⟨t',rfl⟩:=ry;show add_str (λt' tk=>#[.str (i++j),H,I.tok _,#[_,rfl],q]) hz
def mj {x:V}{us:J5 J9}(r:Vals [x] us):∃u,us=[u]/\RelV x u:=by
 cases r with
 |cons r1 r2=>cases r2;show#[_,rfl,r1]
def Gp {x y:V}{us:J5 J9}(r:Vals [x,y] us):∃u w',us=[u,w']/\RelV x u/\RelV y w':=by
 cases r with
 |cons r1 r2=>
  cases r2 with
  |cons r3 r4=>cases r4;show#[_,_,rfl,r1,r3]
def vC (hc:X.calm=true):CallR X (.builtin "min") (λxs H Q=>∃i j,xs=[.int i,.int j]/\Q (.int (if j<i then j else i)) H):=by
 intro J s Y H xs us Q I r h;obtain⟨i,j,rfl,q⟩:=h;obtain⟨u,w',rfl,⟨t,rfl⟩,⟨t',rfl⟩⟩:=Gp r;show min_two_ints (I.ok.hd hc) λh' tk k=>#[_,H,I.kept k,?_,q]
 by_cases hj:j<i
 ·rw[KF hj,KF hj];show#[_,rfl]
 ·rw[KM hj,KM hj];show#[_,rfl]
def mo:CallR X (.type "int") (λxs H Q=>(∃i,xs=[.int i]/\Q (.int i) H)\/∃k,xs=[.bl k]/\Q (.int (if k then 1 else 0)) H):=by
 intro J s Y H xs us Q I r h;rcases h with⟨i,rfl,q⟩|⟨k,rfl,q⟩
 ·obtain⟨u,rfl,t,rfl⟩:=mj r;show call_int_int #[.int i,H,I,#[_,rfl],q]
 ·obtain⟨u,rfl,r1⟩:=mj r;cases r1;show call_int_bool #[.int (if k then 1 else 0),H,I.tok _,#[_,rfl],q]
abbrev IN (K:Kr)(x:V)(H:Hp)(n:Kf):Prop:=
 match x with
 |.str y=>↥y<=sizeLine/\n=↥y
 |.byt y=>⇑y<=sizeLine/\n=⇑y
 |.ref p=>(∃xs,SqL K H p xs/\n=↥xs)\/∃xs,SqT K H p xs/\n=↥xs
 |_=>LV
def kC:CallR X (.builtin "len") (λxs H Q=>∃x n,xs=[x]/\IN X.K x H n/\Q (.int n) H):=by
 intro J s Y H xs us Q I r h;obtain⟨x,n,rfl,e,q⟩:=h;obtain⟨u,rfl,rx⟩:=mj r;have hl:=jo;have hs:sizeLine=16777216:=Lp;cases x with
 |str y=>
  obtain⟨t,rfl⟩:=rx;obtain⟨hy,e'⟩ : ↥y<=sizeLine/\n=↥y:=e;subst e';show len_str ∅ #[.int _,H,I.tok _,#[_,rfl],q]
 |byt y=>
  obtain⟨t,rfl⟩:=rx;obtain⟨hy,e'⟩ : ⇑y<=sizeLine/\n=⇑y:=e;subst e';show PySem.W.len_bytes ∅ #[.int _,H,I.tok _,#[_,rfl],q]
 |ref p=>
  cases rx;have e':(∃xs,SqL X.K H p xs/\n=↥xs)\/∃xs,SqT X.K H p xs/\n=↥xs:=e;rcases e' with⟨xs,hx,e'⟩|⟨xs,hx,e'⟩
  ·subst e';obtain⟨its,r',pl,hz⟩:=I.list hx;have hlen:=↥r';show Calls.call_len_list pl.isList (by revert Ky;omega) #[.int ↥xs,H,I.tok _,#[_,by revert Ky;rw[hlen]],q]
  ·subst e';obtain⟨its,r',pl,hz⟩:=I.tuple hx;have hlen:=↥r';show len_tuple pl (by revert Ky;omega) #[.int ↥xs,H,I.tok _,#[_,by revert Ky;rw[hlen]],q]
 |_=>show(show LV from e).elim
end
structure Room (k:Kf)(A:Ld):Prop where
 hd:A.handled=gV
 dp:A.depth+3*k+5<recursionLimit
 un:A.units+16*k+200<cLine
def Room.deeper {k:Kf}{A:Ld}(r:Room (k+1) A)(env:RK):Room k (A.deeper env):=
 #[r.hd,by have:=r.dp;show A.depth+1+3*k+5<_;omega,by have:=r.un;show A.units+3+16*k+200<_;omega]
def Room.depth {k:Kf}{A:Ld}(r:Room k A):A.depth<recursionLimit:=by have:=r.dp;omega
abbrev Gq:TA:=λ_ H Q=>Q [] H
abbrev Gr (ta:TE)(tr:TA):TA:=λY H Q=>ta Y H λx H1=>tr Y H1 λxs H2=>Q (x::xs) H2
section
variable{X:Cx}{e:KP}{es:J5 KP}{te:TE}{t:TA}{pos:Na}
def xE:PA X [] Gq:=λ_ _ _ _ H Q I h=>Calls.spliced_nil #[[],H,I,.nil,h]
def nK (ha:PE X e te)(hr:PA X es t)(hs:starEach (e::es) X.env=(false,eval e X.env)::starEach es X.env:=by rfl):PA X (e::es) (Gr te t):=by
 intro pos J s Y H Q I h;rw[hs];change wpAny _ _ (spliced ((false,eval e X.env)::backTo pos (starEach es X.env))) _ _ s;show Calls.spliced_cons (bu (ha J s Y H _ I h) λu s1 #[x,H1,I1,r1,q1]=>?_)
 show bu (hr pos J s1 Y H1 _ I1 q1) λus s2 #[xs,H2,I2,r2,q2]=>#[x::xs,H2,I2,.cons r1 r2,q2]
abbrev IP (t:TA):TE:=λY H Q=>t Y H λxs H1=>↥xs<=sizeLine/\∀p,H1 p=gV->Q (.ref p) (bx H1 p (.tup xs))
abbrev IQ (t:TA):TE:=λY H Q=>t Y H λxs H1=>↥xs<=sizeLine/\∀p,H1 p=gV->Q (.ref p) (bx H1 p (.lst xs))
def Ec {x1}(h:PA X es t):PE X (.Tuple es x1 pos) (IP t):=by
 intro J s Y H Q I hq;show wpAny_Tuple_spliced (bu (h pos J s Y H _ I hq) λus s1 #[xs,H1,I1,r,z,q]=>#[by rw[<- ↥r];show z,?_])
 have hf:H1 ⇑s1.heap.objs=gV:=I1.hok.fresh (Ki _);show#[.ref ⇑s1.heap.objs,bx H1 ⇑s1.heap.objs (.tup xs),I1.laid (t':=s1.toks) (λb u e=>J8 _ e) (Ki _) ?_,rfl,q _ hf]
 show#[z,us,r,#[_,Ku _ rfl,rfl,_,rfl]]
def Ed (h:PA X es t):PE X (.List es pos) (IQ t):=by
 intro J s Y H Q I hq;show wpAny_List_spliced (bu (h pos J s Y H _ I hq) λus s1 #[xs,H1,I1,r,z,q]=>#[by rw[<- ↥r];show z,?_])
 have hf:H1 ⇑s1.heap.objs=gV:=I1.hok.fresh (Ki _);show#[.ref ⇑s1.heap.objs,bx H1 ⇑s1.heap.objs (.lst xs),I1.laid (t':=s1.toks) (λb u e=>J8 _ e) (Ki _) ?_,rfl,q _ hf]
 show#[z,us,0,r,Ku _ rfl]
end
noncomputable abbrev Sp:=J5 V->Hp->VK->XK->Prop
noncomputable abbrev xF:=J5 RK->Hp->Kc->XK->J9->Kc->Prop
structure Env0 (P:K9)(w:Ll)(K:Kr)(mg:KJ->Ke J9)(base:Lq)(A:Ld)(outer:J5 RK)(s:Kc)(H:Hp):Prop where
 frames:A.frames=ba outer
 mod:Mod K mg base
 bs:∀b o,base.get? b=ba o->s.heap.get? b=ba o/\H b=gV
 bsz:⇑base.objs<=⇑s.heap.objs
 funs:s.heap.FunFrames base outer
 frf:∀b∈rM outer,H b=gV
 hok:HOk P w H s.heap
 bare:P0 s.gens
abbrev CE (outer:J5 RK)(P:K9)(w:Ll)(H:Hp)(s:Kc)(Q:VK)(u:J9)(s':Kc):Prop:=
 ∃v H',s'.os=s.os/\P0 s'.gens/\Un (rM outer) [] H H' s.heap s'.heap/\HOk P w H' s'.heap/\RelV v u/\Q v H'
abbrev CR (CX:xF)(outer:J5 RK)(P:K9)(w:Ll)(H:Hp)(s:Kc)(Q:VK)(E:XK)(r:Sh)(s':Kc):Prop:=
 match r with
 |.ok (.ret u)=>CE outer P w H s Q u s'
 |.ok _=>LV
 |.error e=>CX outer H s E e s'
structure FnOk (P:K9)(w:Ll)(K:Kr)(mg:KJ->Ke J9)(base:Lq)(CX:xF)(k:Kf)(f:Kj)(fd:Nf)(ps:J5 KJ)(sp:Sp):Prop where
 len:∀vs H Q E,sp vs H Q E->↥vs=↥ps
 run:∀(A:Ld) (outer:J5 RK) (s:Kc) (H:Hp) (args:Args) (us:J5 J9) (vs:J5 V) (Q:VK) (E:XK),Room k A->Env0 P w K mg base A outer s H->RO s fd args (ps.zip us)->Vals vs us->sp vs H Q E->
  codeAny (model P w) A (.call (.ref f) args) (CR CX outer P w H s Q E) s
section
variable{X:Cx}{J:J5 (Kj×Mf)}{Y:St}{H:Hp}{s s':Kc}
def Inv.env0 (I:Inv X J Y H s):Env0 X.prog X.w X.K X.mg X.base X.A X.stack s H:=
 #[I.ok.frames,I.ok.mod,I.bs,KW I.ok.bsz I.sz,I.stack,I.stkFree,I.hok,I.bare]
def Inv.after {Q:VK}{u:J9}(I:Inv X J Y H s)(h:CE X.stack X.prog X.w H s Q u s'):EP X J Y Q u s':=by
 obtain⟨v,H',os,bare,un,hok,r,q⟩:=h;obtain⟨hh,g,d,t,os'⟩:=s';obtain rfl:os'=s.os:=os;show#[v,H',I.call (h':=hh) (g':=g) (d':=d) (t':=t) (ch:=[]) un hok bare (λb z=>absurd z (by simp)),r,q]
end
abbrev xG (sp:Sp)(dvs:J5 V)(E:XK)(t:TA):TE:=λY H Q=>t Y H λvs H1=>sp (vs++dvs) H1 Q E
abbrev Binds (K:Kr)(fd:Nf)(ps:J5 KJ)(ds:J5 J9):Prop:=
 ∀(s:Kc) (us:J5 J9),K.In s.heap->(us++ds).length=↥ps->RO s fd #[us,[]] (ps.zip (us++ds))
def Binds.all {K:Kr}{fd:Nf}{ps:J5 KJ}(h:∀us:J5 J9,↥us=↥ps->bindArgs fd #[us,[]]=pure (ps.zip us)):Binds K fd ps []:=λs us _ hl=>by
 rw[Ml]at hl ⊢;show .of_eq (h us hl)
abbrev nL (CX:xF)(X:Cx)(E:XK):Prop:=∀(J:J5 (Kj×Mf)) (Y:St) (H:Hp) (s:Kc) (e:J9) (s':Kc),Inv X J Y H s->CX X.stack H s E e s'->X.xe e s'
section
variable{X:Cx}{CX:xF}{k:Kf}{f C:Kj}{fd:Nf}{ps:J5 KJ}{sp:Sp}{dvs:J5 V}{ds:J5 J9}{E:XK}{x m:KJ}{p pos apos:Na}{e o:KP}{es:J5 KP}{ta:TE}{t:TA}
def xH {J:J5 (Kj×Mf)}{Y:St}{H:Hp}{s:Kc}{Q:VK}{us:J5 J9}{vs:J5 V}(F:FnOk X.prog X.w X.K X.mg X.base CX k f fd ps sp)(hr:Room k X.A)(hb:Binds X.K fd ps ds)(hd:Vals dvs ds)(hx:nL CX X E)
  (I:Inv X J Y H s) (r:Vals vs us) (h:sp (vs++dvs) H Q E):wpAny (model X.prog X.w) X.A (call (.ref f) us) (EP X J Y Q) X.xe s:=by
 have r2:Vals (vs++dvs) (us++ds):=r.append hd;have hl:(us++ds).length=↥ps:=by rw[<- ↥r2];show F.len _ _ _ _ h
 show wpAny_call (OP (F.run X.A X.stack s H #[us,[]] (us++ds) (vs++dvs) Q E hr I.env0 (hb s us I.kIn hl) r2 h) λr s' hq=>?_)
 cases r with
 |error e=>show hx J Y H s e s' I hq
 |ok fl=>
  cases fl with
  |ret u=>show I.after hq
  |next=>show LV.elim hq
  |brk=>show LV.elim hq
  |cont=>show LV.elim hq
def Be (F:FnOk X.prog X.w X.K X.mg X.base CX k f fd ps sp)(hr:Room k X.A)(hg:Gl X x)(hm:X.mg x=ba (.ref f))(hk:L8 X.K (.ref f)=true)(hb:Binds X.K fd ps ds)(hd:Vals dvs ds)(hx:nL CX X E)
  (ha:PA X (e::es) t) (hdb:(x==("__debug__": KJ))=false:=by decide) (he:starEach (e::es) X.env=(false,eval e X.env)::starEach es X.env:=by rfl) (hpl:(backTo pos (starEach es X.env)).any (·.1)=false:=by rfl) :
  PE X (.Call (.Name x p) (e::es) [] pos) (xG sp dvs E t):=by
 intro J s Y H Q I h;show OE (tD I hg hm ?_ hdb);show PySem.W.callWith_K (h₀:=X.base) I.ok.mod.kin hk (bu (ha pos J s Y H _ I h) λus s1 #[vs,H1,I1,r,q]=>#[I1.kIn,?_]) he hpl
 show xH F hr hb hd hx I1 r q
def xI (F:FnOk X.prog X.w X.K X.mg X.base CX k f fd ps sp)(hr:Room k X.A)(hg:Gl X x)(hm:X.mg x=ba (.ref f))(hk:L8 X.K (.ref f)=true)(hb:Binds X.K fd ps ds)(hd:Vals dvs ds)(hx:nL CX X E)
  (hdb:(x==("__debug__": KJ))=false:=by decide):PE X (.Call (.Name x p) [] [] pos) (xG sp dvs E Gq):=by
 intro J s Y H Q I h;show OE (tD I hg hm ?_ hdb);show PySem.W.callWith_K0 I.kIn hk (xH (us:=[]) F hr hb hd hx I .nil h)
end
structure FnScope (N P:J5 KJ)(sc:N5):Prop where
 kind:sc.kind=.function
 co:sc.isCoroutine=false
 gen:sc.isGenerator=false
 nd:N.Nodup
 pre:N.take ↥P=P
 par:∀x∈P,sc.names.lookup x=ba .local\/sc.names.lookup x=ba .cell
 nofree:∀y∈sc.names,y.2≠.free
def mq {kindOf:KJ->Ke MD}{x:KJ}:∀{binds:J5 (KJ×J9)}{m:KJ->Ke J9},(∀v,(x,v)∉binds)->bindL kindOf binds m x=m x
 |[],_,_=>rfl
 |(n,v)::r,m,h=>by
  unfold bindL;rw[mq λw hw=>h w (LL _ hw)]
  split
  ·have:x≠n:=by rintro rfl;show h v LX
   simp[this]
  ·rfl
def mr {kindOf:KJ->Ke MD}{x:KJ}:∀{binds:J5 (KJ×J9)}{m:KJ->Ke J9},(∀v,(x,v)∉binds)->bindC kindOf binds m x=m x
 |[],_,_=>rfl
 |(n,v)::r,m,h=>by
  unfold bindC;rw[mr λw hw=>h w (LL _ hw)]
  split
  ·rfl
  ·have:x≠n:=by rintro rfl;show h v LX
   simp[this]
def mw {kindOf:KJ->Ke MD}{x:KJ}{v:J9}:∀{P:J5 KJ}{vs:J5 J9}{i:Kf}{m:KJ->Ke J9},P.Nodup->P[i]?=ba x->vs[i]?=ba v->kindOf x=ba .local->
  bindL kindOf (P.zip vs) m x=ba v
 |[],_,_,_,_,h,_,_=>by simp at h
 |_::_,[],_,_,_,_,h,_=>by simp at h
 |p::P,w::vs,0,m,nd,h1,h2,hk=>by
  simp at h1 h2;subst h1;subst h2
  change bindL kindOf ((p,w)::P.zip vs) m p=_;unfold bindL;rw[mq λv hv=>(LY.mp nd).1 (Qw hv).1,KF hk]
  simp
 |p::P,w::vs,i+1,m,nd,h1,h2,hk=>by
  change bindL kindOf ((p,w)::P.zip vs) m x=_;unfold bindL;show mw (i:=i) (LY.mp nd).2 (by simpa using h1) (by simpa using h2) hk
def mx {kindOf:KJ->Ke MD}{x:KJ}{v:J9}:∀{P:J5 KJ}{vs:J5 J9}{i:Kf}{m:KJ->Ke J9},P.Nodup->P[i]?=ba x->vs[i]?=ba v->kindOf x≠ba .local->
  bindC kindOf (P.zip vs) m x=ba v
 |[],_,_,_,_,h,_,_=>by simp at h
 |_::_,[],_,_,_,_,h,_=>by simp at h
 |p::P,w::vs,0,m,nd,h1,h2,hk=>by
  simp at h1 h2;subst h1;subst h2
  change bindC kindOf ((p,w)::P.zip vs) m p=_;unfold bindC;rw[mr λv hv=>(LY.mp nd).1 (Qw hv).1,KM hk]
  simp
 |p::P,w::vs,i+1,m,nd,h1,h2,hk=>by
  change bindC kindOf ((p,w)::P.zip vs) m x=_;unfold bindC;show mx (i:=i) (LY.mp nd).2 (by simpa using h1) (by simpa using h2) hk
abbrev gp (N:J5 KJ)(vs:J5 V):St:=vs.map ba++Lf (↥N-↥vs) gV
abbrev rR (CX:xF)(P:K9)(w:Ll)(K:Kr)(mg:KJ->Ke J9)(base:Lq)(N:J5 KJ)(qual:KJ)(scope:N5)(f:Kj)(cd:J9)(A:Ld)(outer:J5 RK)(s:Kc)(H:Hp)(E:XK):Cx where
 prog:=P
 w:=w
 K:=K
 mg:=mg
 base:=base
 A:=A.deeper (envOfC qual scope ⇑s.heap.objs f cd)
 N:=N
 s₀:=s
 H₀:=H
 env:=envOfC qual scope ⇑s.heap.objs f cd
 outer:=outer
 stack:=envOfC qual scope ⇑s.heap.objs f cd::outer
 ex:=[]
 calm:=true
 fn:=λ_=>true
 pn:=[]
 xe:=λe s'=>wpAny (model P w) (A.deeper (envOfC qual scope ⇑s.heap.objs f cd)) (leaving (envOfC qual scope ⇑s.heap.objs f cd) e) (λ_ s''=>CX outer H s E e s'') (λe' s''=>CX outer H s E e' s'') s'
def pg {sc:N5}{n:Kf}{x:KJ}(h:sc.names.lookup x=ba .cell):∃c,(cellsFrom n sc.names []).lookup x=ba c:=by
 have q:=Qm sc.names n [] (.inl h);show Lx.mp q
def vD {CX:xF}{P:K9}{w:Ll}{K:Kr}{mg:KJ->Ke J9}{base:Lq}{N ps:J5 KJ}{qual:KJ}{scope:N5}{f:Kj}{cd:J9}{A:Ld}{outer:J5 RK}{s s1:Kc}{H:Hp}{E:XK}{us:J5 J9}{vs:J5 V}
  (S:FnScope N ps scope) (hd:A.handled=gV) (e0:Env0 P w K mg base A outer s H) (hl:↥vs=↥ps) (r:Vals vs us)
  (x:InCallC s ⇑s.heap.objs (bindL (envOfC qual scope ⇑s.heap.objs f cd).kindOf (ps.zip us) λ_=>gV) (cellsFrom (⇑s.heap.objs+1) scope.names []) (bindC (envOfC qual scope ⇑s.heap.objs f cd).kindOf (ps.zip us) λ_=>gV) s1) :
  Inv (rR CX P w K mg base N qual scope f cd A outer s H E) [] (gp N vs) H s1:=by
 have hpl:↥ps<=↥N:=by have:=congrArg SG S.pre;rw[K2]at this;omega
 obtain⟨h1,tk,rfl,hk⟩:=x.done;have noA:∀b:Kj,b∉(rR CX P w K mg base N qual scope f cd A outer s H E).ex:=λb z=>absurd (show b∈([]:J5 Kj)from z) (by simp)
 show#[#[e0.mod,S.kind,rfl,rfl,Ki _,λy z c h1 h2=>?_,λy hy=>?_,λy c _ h=>?_,λ_=>hd,Around.frames_deeper e0.frames,.inr #[rfl,rfl],λb z=>absurd z (noA b),e0.bs,e0.bsz,λb _ _=>noA b,λb z=>absurd z (noA b),e0.funs,e0.frf],
  rfl,e0.bare,Un.kept hk,#[_,x.toInCall.ns,λi y v h1 h2 h3=>?_],λy c h=>#[_,x.cell y c h],e0.hok.fresh (Ki _),λy c h=>?_,λp hp=>absurd (show p∈([]:J5 (Kj×Mf))from hp) (by simp),e0.hok.kept hk,?_]
 ·show name_of_addr x.apart (ND h1) (ND h2)
 ·have hy:scope.names.lookup y=ba .cell\/scope.names.lookup y=ba .free:=hy;rcases hy with hy|hy
  ·show pg hy
  ·show absurd rfl (S.nofree _ (ND hy))
 ·show NS (x.above y c (ND h))
 ·have hi:i<↥vs:=by
   unfold gp at h2
   by_cases hi:i<↥vs
   ·show hi
   ·rw[Mg (by simpa using hi)]at h2
    rw[List.getElem?_replicate]at h2;split at h2<;>cases h2
  have ha:vs[i]?=ba v:=by
   unfold gp at h2;rw[Lg (by simpa using hi),Kh]at h2
   cases e:vs[i]? with
   |none=>rw[e]at h2;cases h2
   |some a=>rw[e]at h2;cases h2;rfl
  obtain⟨u,hu,rv⟩:=r.get ha;have hp:ps[i]?=ba y:=by
   rw[<- S.pre,Ox ∅];show h1
  have ndP:ps.Nodup:=by rw[<- S.pre];show S.nd.sublist (RP _ _)
  show#[u,rv,?_];rcases S.par y (Ko hp)with k|k
  ·show .inl #[k,mw ndP hp hu k]
  ·obtain⟨c,e⟩:=pg (n:=⇑s.heap.objs+1) k;show .inr #[.inl k,c,e,?_];have q:=x.cell y c e;rw[mx ndP hp hu (by change scope.names.lookup y≠_;rw[k];decide)]at q
   show q
 ·show e0.hok.fresh (NS (x.above y c (ND h)))
 ·unfold gp;change _=↥N;rw[Kk,J7,OZ];omega
def Gs {CX:xF}{P:K9}{w:Ll}{K:Kr}{mg:KJ->Ke J9}{base:Lq}{k:Kf}{f:Kj}{name qual:KJ}{params:Arguments}{body:J5 NB}{scope:N5}{dV kV doc pm cdv ct oc:J9}{an od:Ke Kj}
  {osl:KL (Ke J9)}{N ps:J5 KJ}{sp:Sp} (lk:K.lookup f=ba #[oc,od,.func (MV name qual params body scope dV kV doc pm an cdv ct),osl]) (hcd:NG K cdv qual=true) (S:FnScope N ps scope)
  (len:∀vs H Q E,sp vs H Q E->↥vs=↥ps)
  (hbody:∀(A:Ld) (outer:J5 RK) (s:Kc) (H:Hp) (vs:J5 V) (Q:VK) (E:XK),Room k (A.deeper (envOfC qual scope ⇑s.heap.objs f cdv))->sp vs H Q E->
   ∃t,PSs (rR CX P w K mg base N qual scope f cdv A outer s H E) body t/\t {nx:=λ_ H'=>Q .non H',rt:=Q} (gp N vs) H) :
  FnOk P w K mg base CX (k+1) f (MV name qual params body scope dV kV doc pm an cdv ct) ps sp:=by
 show#[len,λA outer s H args us vs Q E hr e0 hb r hsp=>?_]
 have hl:=len _ _ _ _ hsp;have KX:K.In s.heap:=e0.mod.kin.keeps λb o e=>(e0.bs b o e).1
 have lim:s.heap.NoLimit:=e0.mod.nolimit.keeps λb o e=>(e0.bs b o e).1
 have hkind:∀y∈ps.zip us,scope.names.lookup y.1=ba .local\/(scope.names.lookup y.1=ba .cell/\((cellsFrom (⇑s.heap.objs+1) scope.names []).lookup y.1).isSome=true):=λ#[n,v] hy=>by
  rcases S.par n (Qw hy).1 with q|q
  ·show .inl q
  ·show .inr #[q,Qm _ _ _ (.inl q)]
 show codeAny_call_function hr.depth (KX _ _ lk) rfl S.co S.gen rfl (PySem.W.codeRec_of KX hcd) (hb _ _ _ _ ?_);show wpAny_newFunctionEnv_cells S.kind hkind λenv he s1 x=>?_
 subst he;show#[lim.keeps x.toInCall.keep,codeAny_func ?_];obtain⟨t,ht,hq⟩:=hbody A outer s H vs Q E (hr.deeper _) hsp;have I:Inv (rR CX P w K mg base N qual scope f cdv A outer s H E) [] (gp N vs) H s1:=vD S hr.hd e0 hl r x;show MB (ht [] s1 (gp N vs) H _ I hq) (λfl s' hs=>?_) λe s' hs=>hs
 have fin:∀{Y':St}{H':Hp}{v:V}{u:J9},Inv (rR CX P w K mg base N qual scope f cdv A outer s H E) [] Y' H' s'->RelV v u->Q v H'->CE outer P w H s Q u s':=
  λ{Y' H' v u} td rv q=>#[v,H',td.os,td.bare,td.base,td.hok,rv,q]
 cases fl with
 |ret u=>
  obtain⟨v,Y',H',td,rv,q⟩:=hs;show fin td rv q
 |next=>
  obtain⟨Y',H',td,q⟩:=hs;show fin (v:=V.non) (u:=Ls) td rfl q
 |brk=>
  obtain⟨_,_,_,q⟩:=hs;show LV.elim q
 |cont=>
  obtain⟨_,_,_,q⟩:=hs;show LV.elim q
section
variable{X:Cx}{x:KJ}{p pos:Na}{e:KP}{es:J5 KP}{t:TA}{id T:L1}{r:J5 V->Hp->VK->Prop}
abbrev JI (r:J5 V->Hp->VK->Prop)(t:TA):TE:=λY H Q=>t Y H λvs H1=>r vs H1 Q
def ph (hc:CallR X (.builtin id) r)(hg:Gl X x)(hm:X.mg x=gV)(hv:bootBuiltins x=ba (.builtin id))(ha:PA X (e::es) t)(hn:x≠"__name__":=by decide)(hdb:(x==("__debug__": KJ))=false:=by decide)
  (he:starEach (e::es) X.env=(false,eval e X.env)::starEach es X.env:=by rfl) (hpl:(backTo pos (starEach es X.env)).any (·.1)=false:=by rfl):PE X (.Call (.Name x p) (e::es) [] pos) (JI r t):=by
 intro J s Y H Q I h;show OE (io I hg hm hv ?_ hn hdb);show Si (bu (ha pos J s Y H _ I h) λus s1 #[vs,H1,I1,r1,q1]=>hc J s1 Y H1 vs us Q I1 r1 q1) he hpl
def vE (hc:CallR X (.type T) r)(hg:Gl X x)(hm:X.mg x=gV)(hv:bootBuiltins x=ba (.type T))(ha:PA X (e::es) t)(hn:x≠"__name__":=by decide)(hdb:(x==("__debug__": KJ))=false:=by decide)
  (he:starEach (e::es) X.env=(false,eval e X.env)::starEach es X.env:=by rfl) (hpl:(backTo pos (starEach es X.env)).any (·.1)=false:=by rfl):PE X (.Call (.Name x p) (e::es) [] pos) (JI r t):=by
 intro J s Y H Q I h;show OE (io I hg hm hv ?_ hn hdb);show MG (bu (ha pos J s Y H _ I h) λus s1 #[vs,H1,I1,r1,q1]=>hc J s1 Y H1 vs us Q I1 r1 q1) he hpl
end
end L2
namespace HT
open PySem PyProof.Rows
section
open PySem.SeqAt
open PySem.AutoSeq1 (wpAny_loadPart')
open PySem.MeetsSeq PySem.MeetsSeq2 PySem.MeetsSeq3
end
section
variable{prog:K9}{w:Ll}{A:Ld}{E:J9->Kc->Prop}{s:Kc}
def Bf {t b:Kj}{vs ws:J5 J9}{Q:J9->Kc->Prop}(ht:RJ s.heap t vs.toArray)(hb:RJ s.heap b ws.toArray)(hv:vs≠[])
  (h1:ws=[]->Q (.ref t) s) (h2:ws≠[]->Q (.ref ⇑s.heap.objs) {s with heap:=s.heap.push {cls:=.type "tuple",data:=.seq (vs++ws).toArray}})
  (hsz:↥vs+↥ws<=sizeLine):wpAny (model prog w) A (binaryOp .Add (.ref t) (.ref b)) Q E s:=by
 obtain⟨⟨cls,dd,data,sl⟩,ho,hc,n,hd⟩:=id ht;obtain⟨⟨cls2,dd2,data2,sl2⟩,ho2,hc2,n2,hd2⟩:=id hb;simp only at hc hd hc2 hd2;subst hc hd hc2 hd2;have e:vs.toArray++ws.toArray=(vs++ws).toArray:=by simp
 by_cases hw:ws=[]
 ·show RQ #[_,ho,rfl] #[_,ho2,rfl] Qe Rm OQ OM (Oy _ _)
   (tuple_addW1 t b vs.toArray ws.toArray n n2 dd dd2 sl sl2 (by simpa using hv) (by simp[hw])) #[ho,ho2,h1 hw]
 ·show RQ #[_,ho,rfl] #[_,ho2,rfl] Qe Rm OQ OM (Oy _ _)
   (tuple_addW2 t b vs.toArray ws.toArray n n2 dd dd2 sl sl2 (by simpa using hv) (by simpa using hw) (by rw[Ky,Ky];show hsz)) #[ho,ho2,?_]
  rw[e];show h2 hw
abbrev b6 (n d:Kf):Ke Ks->Kf
 |none=>d
 |some v=>if v<0 then(v+(n:Ks)).toNat else min v.toNat n
def kD (n d:Kf):b6 n d gV=d:=rfl
def tJ (n d k:Kf):b6 n d (ba (k:Ks))=min k n:=by
 show(if (k:Ks)<0 then((k:Ks)+(n:Ks)).toNat else min (k:Ks).toNat n)=min k n
 rw[KM ∅,Kw]
def Ee (n d:Kf)(hd:d<=n)(o:Ke Ks):b6 n d o<=n:=by
 cases o with
 |none=>show hd
 |some v=>
  show(if v<0 then(v+(n:Ks)).toNat else min v.toNat n)<=n
  by_cases hv:v<0
  ·rw[KF hv];omega
  ·rw[KM hv];show Nat.min_le_right _ _
def tK (v:Ks)(n d:Kf):(if v<0 then max (v+(n:Ks)) 0 else min v (n:Ks))=((b6 n d (ba v):Kf):Ks):=by
 show(if v<0 then max (v+(n:Ks)) 0 else min v (n:Ks))=(((if v<0 then(v+(n:Ks)).toNat else min v.toNat n):Kf):Ks)
 by_cases hv:v<0
 ·simp only[KF hv];omega
 ·simp only[KM hv];omega
def rS (lo hi:Ke Ks)(n:Kf):Op lo hi 1 (n:Ks)=(((b6 n 0 lo:Kf):Ks),((b6 n n hi:Kf):Ks)):=by
 have h1:¬ ((1:Ks)<0):=∅
 unfold Op;revert h1 LO;show Ve ?_ ?_
 ·cases lo with
  |none=>rfl
  |some v=>show tK v n 0
 ·cases hi with
  |none=>rfl
  |some v=>show tK v n n
def rT (i j:Kf):Nl (i:Ks) (j:Ks) 1=j-i:=by
 unfold Nl;have h1:(1:Ks) > 0:=∅
 revert h1 Mm Int.ediv_one;split<;>omega
def kE {v:J9}{o:Ke Ks}{Q:Ke Ks->Kc->Prop}(p:Ps v o)(h:Q o s):wpAny (model prog w) A (SO v) Q E s:=by
 cases p with
 |none=>show Te h
 |int i t=>show slicePart_int h
def ff {sl:Kj}{vl vu:J9}{lo hi:Ke Ks}{n:Kf}{Q:Ks×Ks×Kf->Kc->Prop}(hs:s.heap.IsSliceOf sl vl vu .none)(pl:Ps vl lo)(pu:Ps vu hi)
  (h:Q (((b6 n 0 lo:Kf):Ks),1,b6 n n hi-b6 n 0 lo) s):wpAny (model prog w) A (Pu (.ref sl) (pure (n:Ks))) Q E s:=by
 obtain⟨os,hos,hcs,hds⟩:=id hs;unfold Pu TB;show J6 (J6 (Mh hos hds (x:=vl) rfl (J6 (Mh hos hds (x:=vu) rfl (J6 (Mh hos hds (x:=.none) rfl (Kd ?_)))))));show J6 (Te ?_);change wpAny _ _ (if ((1:Ks)==0)=true then _ else _) _ _ s
 rw[KM #v[]]
 show J6 (kE pl (J6 (kE pu (J6 (Kd ?_)))));change wpAny _ _ (match Op lo hi 1 (n:Ks)with|(lo,hi)=>pure (lo,(1:Ks),Nl lo hi 1)) _ _ s
 rw[rS lo hi n];change wpAny _ _ (pure (((b6 n 0 lo:Kf):Ks),(1:Ks),Nl ((b6 n 0 lo:Kf):Ks) ((b6 n n hi:Kf):Ks) 1)) _ _ s;rw[rT];show Kd h
def xJ (xs:KL J9)(i k:Kf):((KH k).filterMap λ(m:Kf)=>xs[((i:Ks)+(m:Ks)*1).toNat]?).toArray=((xs.toList.drop i).take k).toArray:=by
 have e:(λ(m:Kf)=>xs[((i:Ks)+(m:Ks)*1).toNat]?)=λm=>xs[i+m]?:=by
  funext m
  have:((i:Ks)+(m:Ks)*1).toNat=i+m:=∅
  rw[this]
 rw[e];have:=pick_run xs i k;rw[List.filterMap_map]at this;have e2:((λx=>xs[x]?)∘λx=>i+x)=λm=>xs[i+m]?:=rfl
 rw[e2]at this;rw[this]
def iL {t sl:Kj}{items:KL J9}{vl vu:J9}{lo hi:Ke Ks}{Q:J9->Kc->Prop}(ht:RJ s.heap t items)(hs:s.heap.IsSliceOf sl vl vu .none)(pl:Ps vl lo)(pu:Ps vu hi)
  (hw:¬ (b6 ⇑items 0 lo=0/\b6 ⇑items ⇑items hi=⇑items))
  (h:Q (.ref ⇑s.heap.objs) {s with heap:=s.heap.push {cls:=.type "tuple",data:=.seq ((items.toList.drop (b6 ⇑items 0 lo)).take (b6 ⇑items ⇑items hi-b6 ⇑items 0 lo)).toArray}})
  (hsz:⇑items<=sizeLine):wpAny (model prog w) A (getItem (.ref t) (.ref sl)) Q E s:=by
 have htake:sizeOk (.seq ((items.toList.drop (b6 ⇑items 0 lo)).take (b6 ⇑items ⇑items hi-b6 ⇑items 0 lo)).toArray):=by
  show((items.toList.drop (b6 ⇑items 0 lo)).take (b6 ⇑items ⇑items hi-b6 ⇑items 0 lo)).toArray.size<=sizeLine;rw[Ky,K2,MS,Km];omega
 have hj:b6 ⇑items ⇑items hi<=⇑items:=Ee _ _ (Ki _) hi;obtain⟨os,hos,hcs,hds⟩:=id hs;have hTs:s.TypeIs (.ref sl) "slice":=#[os,hos,hcs];unfold getItem
 try with_reducible show LK ?_
 first|refine J6 (Kd ?_)|skip
 show J6 (RS ht.typeIs #v[] ?_)
 show J6 (LA (name:=Mx "__getitem__") ht.typeIs MP
  (LG MP ht.typeIs Rg ?_ (Rx _ _)))
 change wpAny _ _ (Ob (.ref t) >>= _) _ _ s;show J6 (TJ ht ?_);show J6 (NT hTs ?_);rw[KF #v[]]
 show J6 (ff hs pl pu ?_);have hno:¬ ((((b6 ⇑items 0 lo:Kf):Ks)==0&&(1:Ks)==1&&(b6 ⇑items ⇑items hi-b6 ⇑items 0 lo)==⇑items)=true):=by
  intro q;rw[Kg,Kg]at q;have q1:((b6 ⇑items 0 lo:Kf):Ks)=0:=eq_of_beq q.1.1;have q2:b6 ⇑items ⇑items hi-b6 ⇑items 0 lo=⇑items:=eq_of_beq q.2;show hw #[∅,∅]
 change wpAny _ _ (if (((b6 ⇑items 0 lo:Kf):Ks)==0&&(1:Ks)==1&&(b6 ⇑items ⇑items hi-b6 ⇑items 0 lo)==⇑items)=true then _ else _) _ _ s
 rw[KM hno,xJ]
 first
  |show J6 (m:=Mu _) (Ln (Kd #[_,rfl,Kd h]) htake)
  |show J6 (m:=Mu _) (Ln (J6 (Kd (Kd #[_,rfl,Kd h]))) htake)
  |show J6 (J6 (m:=Mu _) (Ln (Kd (Kd #[_,rfl,Kd h])) htake))
  |show J6 (J6 (m:=Mu _) (Ln (Kd #[_,rfl,Kd h]) htake))
end
end HT
namespace L2
open PySem PySem.Spec PyProof.Rows
noncomputable abbrev TO:=St->Hp->(Ke Ks->Hp->Prop)->Prop
abbrev PO (X:Cx)(e:Ke KP)(t:TO):Prop:=
 ∀(J:J5 (Kj×Mf)) (s:Kc) (Y:St) (H:Hp) (Q:Ke Ks->Hp->Prop),Inv X J Y H s->t Y H Q->
  wpAny (model X.prog X.w) X.A (evalPart e X.env) (λu s'=>∃o H',Inv X J Y H' s'/\Ps u o/\Q o H') X.xe s
abbrev Bg:TO:=λ_ H Q=>Q gV H
abbrev Gu (t:TE):TO:=λY H Q=>t Y H λx H1=>∃i,x=.int i/\Q (ba i) H1
section
variable{X:Cx}{e:KP}{te:TE}{lo hi:Ke KP}{tl th:TO}{pos p2:Na}
def Bh:PO X gV Bg:=by
 intro J s Y H Q I h;rw[TK];show Kd #[gV,H,I,.none,h]
def Bj (h:PE X e te):PO X (ba e) (Gu te):=by
 intro J s Y H Q I hw;rw[evalPart_some];show bu (h J s Y H _ I hw) λu s1 #[x,H1,I1,r1,q1]=>?_
 obtain⟨i,rfl,q⟩:=q1;obtain⟨t,rfl⟩:=r1;show#[ba i,H1,I1,.int i t,q]
abbrev Gv (X:Cx)(r:V->Ke Ks->Ke Ks->Hp->VK->Prop):Prop:=
 ∀(J:J5 (Kj×Mf)) (s:Kc) (Y:St) (H:Hp) (x:V) (v vl vu:J9) (lo hi:Ke Ks) (sl:Kj) (Q:VK),Inv X J Y H s->RelV x v->s.heap.IsSliceOf sl vl vu .none->Ps vl lo->Ps vu hi->r x lo hi H Q->
  ∃T id,typeLookup (.type T) "__getitem__" = pure (ba (.builtin id))/\s.TypeIs v T/\wpAny (model X.prog X.w) X.A (getItem v (.ref sl)) (EP X J Y Q) X.xe s
abbrev JX (r:V->Ke Ks->Ke Ks->Hp->VK->Prop)(te:TE)(tl th:TO):TE:=λY H Q=>te Y H λx H1=>tl Y H1 λl H2=>th Y H2 λu H3=>r x l u H3 Q
def xK {r:V->Ke Ks->Ke Ks->Hp->VK->Prop}(hr:Gv X r)(he:PE X e te)(hl:PO X lo tl)(hu:PO X hi th):PE X (.Subscript e (.Slice lo hi gV p2) pos) (JX r te tl th):=by
 intro J s Y H Q I h;show Subscript_ (bu (he J s Y H _ I h) λv s1 #[x,H1,I1,r1,q1]=>?_)
 show wpAny_Slice (bu (hl J s1 Y H1 _ I1 q1) λvl s2 #[l,H2,I2,pl,q2]=>bu (hu J s2 Y H2 _ I2 q2) λvu s3 #[u,H3,I3,pu,q3]=>?_)
 rw[TK];show Kd ?_;have I4:Inv X J Y H3 {s3 with heap:=s3.heap.push {cls:=.type "slice",data:=.fields [vl,vu,.none].toArray}}:=I3.kept (t':=s3.toks) λb ob q=>J8 _ q
 obtain⟨T,id,hT,ht,hg⟩:=hr J {s3 with heap:=s3.heap.push {cls:=.type "slice",data:=.fields [vl,vu,.none].toArray}} Y H3 x v vl vu l u ⇑s3.heap.objs Q I4 r1 (UN ..) pl pu q3
 change wpAny (model X.prog X.w) X.A (subscriptTail e (.Slice lo hi gV p2) v (.ref ⇑s3.heap.objs)) (EP X J Y Q) X.xe {s3 with heap:=s3.heap.push {cls:=.type "slice",data:=.fields [vl,vu,.none].toArray}}
 show tail_any (ops:=[.ref ⇑s3.heap.objs,v]) ht hT hg (by with_unfolding_all rfl)
abbrev kF (xs:J5 V)(lo hi:Ke Ks):J5 V:=(xs.drop (HT.b6 ↥xs 0 lo)).take (HT.b6 ↥xs ↥xs hi-HT.b6 ↥xs 0 lo)
def jP (xs:J5 V)(lo hi:Ke Ks):(kF xs lo hi).length<=↥xs:=by
 unfold kF;rw[K2,MS];omega
abbrev IR (K:Kr):V->Ke Ks->Ke Ks->Hp->VK->Prop:=λx lo hi H Q=>∃a xs,x=.ref a/\SqT K H a xs/\
 ¬ (HT.b6 ↥xs 0 lo=0/\HT.b6 ↥xs ↥xs hi=↥xs)/\∀p,H p=gV->Q (.ref p) (bx H p (.tup (kF xs lo hi)))
def Ef:Gv X (IR X.K):=by
 intro J s Y H x v vl vu lo hi sl Q I rx hs pl pu h;obtain⟨a,xs,rfl,hx,hw,q⟩:=h;cases rx;obtain⟨its,r,ht,hz⟩:=I.tuple hx;have hlen:⇑its.toArray=↥xs:=by rw[Ky];show r.length.symm
 show#["tuple",_,PyProof.Rows.slot_tuple_getitem.lookup,ht.typeIs,?_];show HT.iL ht hs pl pu (by rw[hlen];show hw) ?_ (by rw[hlen];show hz)
 rw[hlen];show#[.ref ⇑s.heap.objs,_,I.laid (t':=s.toks) (o:=.tup (kF xs lo hi)) (λb ob q=>J8 _ q) (Ki _) ?_,rfl,q _ (I.hok.fresh (Ki _))]
 show#[KW (jP xs lo hi) hz,_,(r.drop (HT.b6 ↥xs 0 lo)).take (HT.b6 ↥xs ↥xs hi-HT.b6 ↥xs 0 lo),Sg _ _]
def Vals.nil_iff {xs:J5 V}{us:J5 J9}(r:Vals xs us):us=[]↔xs=[]:=by
 cases r with
 |nil=>simp
 |cons _ _=>simp
end
abbrev tL (n:Kf)(i:Ks):Ke Kf:=if 0<=i then(if i<n then ba i.toNat else gV)else if -(n:Ks)<=i then ba (i+n).toNat else gV
abbrev pr {α:Type}(xs:J5 α)(i:Ks):Ke α:=(tL ↥xs i).bind λj=>xs[j]?
def tM {n:Kf}{i:Ks}{j:Kf}(h:tL n i=ba j):seqIndex? i n=ba j/\j<n/\-(n:Ks)<=i/\i<n:=by
 unfold tL at h
 by_cases h0:0<=i
 ·rw[KF h0]at h
  by_cases h1:i<n
  ·rw[KF h1]at h;have e:i.toNat=j:=LB h;show#[by rw[SH h0 h1,e],∅,∅,h1]
  ·rw[KM h1]at h;cases h
 ·rw[KM h0]at h
  by_cases h1 : -(n:Ks)<=i
  ·rw[KF h1]at h;have e:(i+n).toNat=j:=LB h;show#[by rw[RT ∅ h1,e],∅,h1,∅]
  ·rw[KM h1]at h;cases h
def nM {α:Type}{xs:J5 α}{i:Ks}{v:α}(h:pr xs i=ba v):∃j,seqIndex? i ↥xs=ba j/\xs[j]?=ba v/\j<↥xs/\-(↥xs:Ks)<=i/\i<↥xs:=by
 unfold pr at h;cases e:tL ↥xs i with
 |none=>rw[e]at h;cases h
 |some j=>
  rw[e]at h;obtain⟨h1,h2,h3,h4⟩:=tM e;show#[j,h1,h,h2,h3,h4]
def atI_nat {α:Type}{xs:J5 α}{j:Kf}{v:α}(h:xs[j]?=ba v):pr xs (j:Ks)=ba v:=by
 have hj:j<↥xs:=(Kq.mp h).1;have e:tL ↥xs (j:Ks)=ba j:=by
  unfold tL;rw[KF ∅,KF ∅];simp
 unfold pr;rw[e];show h
abbrev nN (b:KP):Prop:=∀o i,subscripted b false o i=operate [o,i] (getItem o i)
abbrev IxR (X:Cx)(r:R2):Prop:=
 ∀(value slice:KP) (J:J5 (Kj×Mf)) (s:Kc) (Y:St) (H:Hp) (x y:V) (v u:J9) (Q:VK),Inv X J Y H s->RelV x v->RelV y u->r x y H Q->
  subscripted slice false v u=operate [v,u] (getItem v u)->wpAny (model X.prog X.w) X.A (subscriptTail value slice v u) (EP X J Y Q) X.xe s
abbrev MtR (X:Cx)(id:L1)(r:V->J5 V->Hp->VK->Prop):Prop:=
 ∀(J:J5 (Kj×Mf)) (s:Kc) (Y:St) (H:Hp) (x:V) (xs:J5 V) (v:J9) (us:J5 J9) (Q:VK),Inv X J Y H s->RelV x v->Vals xs us->r x xs H Q->
  wpAny (model X.prog X.w) X.A (call (.builtin id) (v::us)) (EP X J Y Q) X.xe s
section
variable{X:Cx}{a b:KP}{ta tb:TE}{pos:Na}
def Gw {r:R2}(hr:IxR X r)(ha:PE X a ta)(hb:PE X b tb)(hs:nN b):PE X (.Subscript a b pos) (Ih r ta tb):=by
 intro J s Y H Q I h;show Subscript_ (D3 ha hb I h λv u s2 x y H2 I2 rx ry q=>hr a b J s2 Y H2 x y v u Q I2 rx ry q (hs _ _))
abbrev IS (K:Kr):R2:=λx y H Q=>∃p xs i v,x=.ref p/\y=.int i/\SqL K H p xs/\pr xs i=ba v/\Q v H
abbrev IT (K:Kr):R2:=λx y H Q=>∃p xs i v,x=.ref p/\y=.int i/\SqT K H p xs/\pr xs i=ba v/\Q v H
abbrev IU:R2:=λx y H Q=>∃z i c,x=.str z/\y=.int i/\↥z<=sizeLine/\pr z.cps.toList i=ba c/\Q (.str #[[c].toArray]) H
def Bk:IxR X (IS X.K):=by
 intro value slice J s Y H x y v u Q I rx ry h hs;obtain⟨p,xs,i,z,rfl,rfl,hq,he,q⟩:=h;cases rx;obtain⟨t,rfl⟩:=ry;obtain⟨its,r,pl,hz⟩:=I.list hq;obtain⟨j,h1,h2,h3,h4,h5⟩:=nM he;obtain⟨w,ew,rw'⟩:=r.get h2;have hl:=↥r;have hn:=jo;have fin:EP X J Y Q w s:=#[z,H,I,rw',q]
 by_cases h0:0<=i
 ·have hj:i.toNat=j:=by
   rw[SH h0 h5]at h1;show LB h1
  show item_listR pl.isList h0 ∅ (by rw[hj];simpa using ew) fin hs
 ·have hj:(i+(⇑its.toArray:Ks)).toNat=j:=by
   rw[RT ∅ h4]at h1
   rw[Ky,<- hl];show LB h1
  show OR (x:=w) pl.isList.typeIs slot_list_getitem.lookup
   (wpAny_getItem_list_neg (Q:=λr s'=>r=w/\EP X J Y Q r s') pl.isList ∅ (by rw[Ky]<;>omega) ∅ (by rw[hj];simpa using ew) #[rfl,fin]) hs
def Eg:IxR X (IT X.K):=by
 intro value slice J s Y H x y v u Q I rx ry h hs;obtain⟨p,xs,i,z,rfl,rfl,hq,he,q⟩:=h;cases rx;obtain⟨t,rfl⟩:=ry;obtain⟨its,r,pl,hz⟩:=I.tuple hq;obtain⟨j,h1,h2,h3,h4,h5⟩:=nM he;obtain⟨w,ew,rw'⟩:=r.get h2;have hl:=↥r;have hn:=jo;have fin:EP X J Y Q w s:=#[z,H,I,rw',q];show OR (x:=w) pl.typeIs slot_tuple_getitem.lookup
  (getItem_tuple (j:=j) (Q:=λr s'=>r=w/\EP X J Y Q r s') pl ∅ ∅ (by rw[Ky,<- hl];show h1) (by simpa using ew) #[rfl,fin]) hs
def Eh:IxR X IU:=by
 intro value slice J s Y H x y v u Q I rx ry h hs;obtain⟨z,i,c,rfl,rfl,hz,he,q⟩:=h;obtain⟨t,rfl⟩:=rx;obtain⟨t',rfl⟩:=ry;obtain⟨j,h1,h2,h3,h4,h5⟩:=nM he;have hl:↥z.cps.toList=↥z:=by simp[UO]
 rw[hl]at h1 h4 h5;have hn:=jo;show tail_any (typeIs_str s z t) slot_str_getitem.lookup (getItem_str (c:=c) (by
  have e1:decide (i < -(2^63:Ks))=false:=Le ∅
  have e2:decide (i>=2^63)=false:=Le ∅
  rw[e1,e2,Rn]) (by rw[h1];simpa using h2) #[.str #[[c].toArray],H,I.tok _,#[_,rfl],q]) hs
def rV (its:J5 J9)(n j:Kf)(u:J9):L4 (·.setIfInBounds j u) {cls:=.type "list",data:=.seq its.toArray n}={cls:=.type "list",data:=.seq (its.set j u).toArray n}:=by
 simp[L4]
def Inv.lst {J:J5 (Kj×Mf)}{Y:St}{H:Hp}{s:Kc}{p:Kj}{xs:J5 V}(I:Inv X J Y H s)(h:H p=ba (.lst xs)) :
  ∃(its:J5 J9) (n:Kf),Vals xs its/\s.heap.get? p=ba {cls:=.type "list",data:=.seq its.toArray n}/\↥xs<=sizeLine:=by
 obtain⟨z,its,n,r,e⟩:=I.hok p _ h;show#[its,n,r,e,z]
def Inv.lstUpd {J:J5 (Kj×Mf)}{Y:St}{H:Hp}{s:Kc}{p:Kj}{xs ys:J5 V}{its its':J5 J9}{n n':Kf}{f:Mf->Mf}(I:Inv X J Y H s)(h:H p=ba (.lst xs))
  (ho:s.heap.get? p=ba {cls:=.type "list",data:=.seq its.toArray n}) (hf:f {cls:=.type "list",data:=.seq its.toArray n}={cls:=.type "list",data:=.seq its'.toArray n'}) (r:Vals ys its') (hz:↥ys<=sizeLine) (t:Kf) :
  Inv X J Y (bx H p (.lst ys)) {s with heap:=s.heap.update p f,toks:=t}:=by
 have e:(s.heap.update p f).get? p=ba {cls:=.type "list",data:=.seq its'.toArray n'}:=by
  rw[Ma f ho (by rw[hf]<;>rfl),hf]
 show I.write (x:=p) (e:=p) (by rw[h];trivial) (.inl rfl) (λb u hb q=>(Lr _ _ (Ne.symm hb)).trans q) #[_,e] ?_
 show#[hz,its',n',r,e]
abbrev Gx:V->V->V->Hp->(Hp->Prop)->Prop:=λo i v H Q=>∃p xs k j,o=.ref p/\i=.int k/\H p=ba (.lst xs)/\tL ↥xs k=ba j/\Q (bx H p (.lst (xs.set j v)))
def xL:DW X Gx:=by
 intro J s Y H o i v ov iv u Q I ro ri rv h;obtain⟨p,xs,k,j,rfl,rfl,hp,hj,q⟩:=h;cases ro;obtain⟨t,rfl⟩:=ri;obtain⟨its,n,r,ho,hz⟩:=I.lst hp;obtain⟨h1,h2,h3,h4⟩:=tM hj;have hl:=↥r;have hn:=jo;have I':Inv X J Y (bx H p (.lst (xs.set j v))) {s with heap:=s.heap.update p (L4 (·.setIfInBounds j u))}:=
  I.lstUpd hp ho (rV its n j u) (r.set rv j) (by rw[List.length_set];show hz) s.toks
 by_cases h0:0<=k
 ·have hk:k.toNat=j:=by
   rw[SH h0 h4]at h1;show LB h1
  show PySem.W.ki_setAt ho h0 ∅ (by rw[Ky,<- hl];show h4) (by rw[hk];show#[_,I',q])
 ·have hk:(k+(⇑its.toArray:Ks)).toNat=j:=by
   rw[RT ∅ h3]at h1
   rw[Ky,<- hl];show LB h1
  show PySem.W.ki_setBack ho ∅ (by rw[Ky,<- hl];show h3) ∅ (by rw[hk];show#[_,I',q])
def nO (lo hi:Ke Ks)(n:Kf):(sliceBounds lo hi gV n).1=((HT.b6 n 0 lo:Kf):Ks)/\(sliceBounds lo hi gV n).2.1=((HT.b6 n n hi:Kf):Ks)/\(sliceBounds lo hi gV n).2.2=1:=by
 show#[?_,?_,rfl]
 ·cases lo with
  |none=>simp[sliceBounds,HT.b6]
  |some i=>
   simp only[sliceBounds,HT.b6,Sj,show(1:Ks) > 0 by decide,Mm]
   by_cases h:i<0
   ·simp only[h,Mm]<;>omega
   ·simp only[h,LO]<;>omega
 ·cases hi with
  |none=>simp[sliceBounds,HT.b6]
  |some i=>
   simp only[sliceBounds,HT.b6,Sj,show(1:Ks) > 0 by decide,Mm]
   by_cases h:i<0
   ·simp only[h,Mm]<;>omega
   ·simp only[h,LO]<;>omega
def lY (its:J5 J9)(lo hi:Ke Ks):slicePick its.toArray lo hi gV=((its.drop (HT.b6 ↥its 0 lo)).take (HT.b6 ↥its ↥its hi-HT.b6 ↥its 0 lo)).toArray:=by
 obtain⟨h1,h2,h3⟩:=nO lo hi ⇑its.toArray;unfold slicePick;rw[h1,h2,h3];simp only[sliceRange_one,pick_run,Ky]<;>rfl
abbrev IV (K:Kr):V->Ke Ks->Ke Ks->Hp->VK->Prop:=λx lo hi H Q=>∃a xs,x=.ref a/\SqL K H a xs/\∀p,H p=gV->Q (.ref p) (bx H p (.lst (kF xs lo hi)))
def Bl:Gv X (IV X.K):=by
 intro J s Y H x v vl vu lo hi sl Q I rx hs pl pu h;obtain⟨a,xs,rfl,hx,q⟩:=h;cases rx;obtain⟨its,r,ht,hz⟩:=I.list hx;have hlen:=↥r;show#["list",_,slot_list_getitem.lookup,ht.isList.typeIs,?_];show wpAny_getItem_list_slice ht.isList hs pl pu .none (by simp) ?_ (by rw[Ky]<;>omega)
 rw[lY,<- hlen];show#[.ref ⇑s.heap.objs,_,I.laid (t':=s.toks) (o:=.lst (kF xs lo hi)) (λb ob q=>J8 _ q) (Ki _) ?_,rfl,q _ (I.hok.fresh (Ki _))]
 show#[KW (jP xs lo hi) hz,_,0,(r.drop (HT.b6 ↥xs 0 lo)).take (HT.b6 ↥xs ↥xs hi-HT.b6 ↥xs 0 lo),Ku _ rfl]
abbrev ic:V->KU
 |.non=>true
 |.bl _=>true
 |.int _=>true
 |.str _=>true
 |_=>false
abbrev Bm:V->V->KU
 |.non,.non=>true
 |.bl a,.bl b=>a==b
 |.bl a,.int b=>(if a then 1 else 0)==b
 |.int a,.bl b=>a==(if b then 1 else 0)
 |.int a,.int b=>a==b
 |.str a,.str b=>a==b
 |_,_=>false
def Ei {A:Ld}{s:Kc}{y x:V}{u v:J9}(ry:RelV y u)(rx:RelV x v)(fy:ic y=true)(fx:ic x=true):O1 A s u v (Bm y x):=by
 cases y with
 |non=>
  cases ry;cases x with
  |non=>cases rx;show U7 _
  |bl b=>cases rx;show Uu b
  |int b=>obtain⟨t,rfl⟩:=rx;show UD b t
  |str b=>obtain⟨t,rfl⟩:=rx;show UE b t
  |_=>show absurd (show false=true from fx) KS
 |bl a=>
  cases ry;cases x with
  |non=>cases rx;show Uv a
  |bl b=>cases rx;show Uw a b
  |int b=>obtain⟨t,rfl⟩:=rx;show UF a b t
  |str b=>obtain⟨t,rfl⟩:=rx;show UG a b t
  |_=>show absurd (show false=true from fx) KS
 |int a=>
  obtain⟨t',rfl⟩:=ry;cases x with
  |non=>cases rx;show UH a t'
  |bl b=>cases rx;show UI a t' b
  |int b=>obtain⟨t,rfl⟩:=rx;show UP a t' b t
  |str b=>obtain⟨t,rfl⟩:=rx;show Rt a t' b t
  |_=>show absurd (show false=true from fx) KS
 |str a=>
  obtain⟨t',rfl⟩:=ry;cases x with
  |non=>cases rx;show UJ a t'
  |bl b=>cases rx;show UK a t' b
  |int b=>obtain⟨t,rfl⟩:=rx;show Ru a t' b t
  |str b=>obtain⟨t,rfl⟩:=rx;show UQ a t' b t
  |_=>show absurd (show false=true from fx) KS
 |_=>show absurd (show false=true from fy) KS
abbrev rW (x:V)(u:J9):KU:=match u with
 |.none=>Bm .non x
 |.bool b=>Bm (.bl b) x
 |.int i _=>Bm (.int i) x
 |.str z _=>Bm (.str z) x
 |_=>false
def xM {x y:V}{u:J9}(r:RelV y u)(f:ic y=true):rW x u=Bm y x:=by
 cases y with
 |non=>cases r;rfl
 |bl b=>cases r;rfl
 |int i=>obtain⟨t,rfl⟩:=r;rfl
 |str z=>obtain⟨t,rfl⟩:=r;rfl
 |_=>show absurd (show false=true from f) KS
def iM {x:V}:∀{xs:J5 V}{us:J5 J9},Vals xs us->xs.all ic=true->us.any (rW x)=xs.any λy=>Bm y x
 |_,_,.nil,_=>rfl
 |y::xs,u::us,.cons r t,f=>by
  rw[LD,Kg]at f;rw[M9,M9,xM r f.1,iM t f.2]
def gq {A:Ld}{s:Kc}{x:V}{v:J9}(rx:RelV x v)(fx:ic x=true):∀{xs:J5 V}{us:J5 J9},Vals xs us->xs.all ic=true->∀u∈us,O1 A s u v (rW x u)
 |_,_,.nil,_=>λu hu=>by cases hu
 |y::xs,u::us,.cons r t,f=>λu' hu=>by
  rw[LD,Kg]at f;rcases KD.mp hu with rfl|hu
  ·rw[xM r f.1];show Ei r rx f.1 fx
  ·show gq rx fx t f.2 u' hu
abbrev Ij (x:V)(xs:J5 V):KU:=xs.any λy=>Bm y x
abbrev IW (K:Kr)(neg:KU):R2:=λx y H Q=>∃p xs,y=.ref p/\(SqL K H p xs\/SqT K H p xs)/\ic x=true/\xs.all ic=true/\Q (.bl (if neg then !Ij x xs else Ij x xs)) H
def vF:OpR X (compareOp .In) (IW X.K false):=by
 intro J s Y H x y v u Q I rx ry h;obtain⟨p,xs,rfl,hq,fx,fs,q⟩:=h;cases ry;rcases hq with hq|hq
 ·obtain⟨its,r,pl,hz⟩:=I.list hq;show SQ (rW x) pl.isList (λw hw=>gq rx fx r fs w (by simpa using hw)) #[.bl _,H,I,rfl,?_]
  rw[show its.toArray.any (rW x)=its.any (rW x) by simp,iM r fs]
  show q
 ·obtain⟨its,r,pl,hz⟩:=I.tuple hq;show Sk (rW x) pl (λw hw=>gq rx fx r fs w (by simpa using hw)) #[.bl _,H,I,rfl,?_]
  rw[show its.toArray.any (rW x)=its.any (rW x) by simp,iM r fs]
  show q
def nP:OpR X (compareOp .NotIn) (IW X.K true):=by
 intro J s Y H x y v u Q I rx ry h;obtain⟨p,xs,rfl,hq,fx,fs,q⟩:=h;cases ry;rcases hq with hq|hq
 ·obtain⟨its,r,pl,hz⟩:=I.list hq;show Ry (rW x) pl.isList (λw hw=>gq rx fx r fs w (by simpa using hw)) #[.bl _,H,I,rfl,?_]
  rw[show its.toArray.any (rW x)=its.any (rW x) by simp,iM r fs]
  show q
 ·obtain⟨its,r,pl,hz⟩:=I.tuple hq;show SeqAt.notIn_tupleAt (rW x) pl (λw hw=>gq rx fx r fs w (by simpa using hw)) #[.bl _,H,I,rfl,?_]
  rw[show its.toArray.any (rW x)=its.any (rW x) by simp,iM r fs]
  show q
def nQ:CallR X (.type "list") (λxs H Q=>∃p ys,xs=[.ref p]/\(SqL X.K H p ys\/SqT X.K H p ys)/\∀l,H l=gV->Q (.ref l) (bx H l (.lst ys))):=by
 intro J s Y H xs us Q I r h;obtain⟨p,ys,rfl,hq,q⟩:=h;obtain⟨u,rfl,rx⟩:=mj r;cases rx;have fin:∀(its:J5 J9),Vals ys its->↥ys<=sizeLine->∀(h':Lq) (c':Kf),(∀b o',s.heap.get? b=ba o'->h'.get? b=ba o')->
   h'.get? ⇑s.heap.objs=ba {cls:=.type "list",dict:=gV,data:=.seq its.toArray c',slots:=#[]}->EP X J Y Q (.ref ⇑s.heap.objs) {s with heap:=h'}:=λits r' hz h' c' kp e=>
  #[.ref ⇑s.heap.objs,_,I.laid (t':=s.toks) kp (Ki _) (show ObjOk X.prog X.w _ h' _ (.lst ys)from#[hz,its,c',r',e]),rfl,q _ (I.hok.fresh (Ki _))]
 rcases hq with hq|hq
 ·obtain⟨its,r',pl,hz⟩:=I.list hq;have hlen:=↥r';obtain⟨o,ho,hc,n,hd⟩:=pl.isList;show TM p (.inl rfl) ho hc hd (λh' c' kp e=>fin its r' hz h' c' kp e) (by simp only[Ky]<;>omega)
 ·obtain⟨its,r',pl,hz⟩:=I.tuple hq;have hlen:=↥r';obtain⟨o,ho,hc,n,hd⟩:=pl;show TM p (.inr rfl) ho hc hd (λh' c' kp e=>fin its r' hz h' c' kp e) (by simp only[Ky]<;>omega)
def ie:CallR X (.type "tuple") (λxs H Q=>∃p ys,xs=[.ref p]/\((SqL X.K H p ys/\∀l,H l=gV->Q (.ref l) (bx H l (.tup ys)))\/(SqT X.K H p ys/\Q (.ref p) H))):=by
 intro J s Y H xs us Q I r h;obtain⟨p,ys,rfl,h⟩:=h;obtain⟨u,rfl,rx⟩:=mj r;cases rx;rcases h with⟨hq,q⟩|⟨hq,q⟩
 ·obtain⟨its,r',pl,hz⟩:=I.list hq;have hlen:=↥r';show call_tuple_list pl.isList (λh' kp=>?_) (by simp only[Ky]<;>omega)
  have I1:Inv X J Y H {s with heap:=h'}:=I.kept (t':=s.toks) kp
  have I2:Inv X J Y (bx H ⇑h'.objs (.tup ys)) {s with heap:=h'.push {cls:=.type "tuple",data:=.seq its.toArray}}:=
   I1.laid (t':=s.toks) (λb o e=>J8 _ e) (Ki _) (show ObjOk X.prog X.w _ _ _ (.tup ys)from#[hz,its,r',Sg _ _])
  show#[.ref ⇑h'.objs,_,I2,rfl,q _ (I1.hok.fresh (Ki _))]
 ·obtain⟨its,r',pl,hz⟩:=I.tuple hq;show call_tuple_same pl #[.ref p,H,I,rfl,q]
abbrev IX (K:Kr)(T:L1)(x:V)(H:Hp):Prop:=match x with
 |.str _=>T="str"
 |.int _=>T="int"
 |.ref p=>(T="list"/\∃xs,SqL K H p xs)\/(T="tuple"/\∃o,K.lookup p=ba o/\o.cls=.type "tuple"/\o.dict=gV)\/
   (T="dict"/\((∃U,H p=ba (.dK U))\/∃U,H p=ba (.dT U)))\/(T="set"/\∃S n,H p=ba (.set S n))
 |_=>LV
def xN {J:J5 (Kj×Mf)}{Y:St}{H:Hp}{s:Kc}{T:L1}{x:V}{v:J9}(I:Inv X J Y H s)(r:RelV x v)(ty:IX X.K T x H) :
  s.TypeIs v T/\∀a,v=.ref a->∃ob,s.heap.get? a=ba ob/\ob.dict=gV:=by
 cases x with
 |str z=>
  obtain⟨t,rfl⟩:=r;cases(show T="str" from ty)
  show#[typeIs_str s z t,λ_ e=>nomatch e]
 |int i=>
  obtain⟨t,rfl⟩:=r;cases(show T="int" from ty)
  show#[Tf s i t,λ_ e=>nomatch e]
 |ref p=>
  cases r;rcases ty with⟨rfl,xs,hq⟩|⟨rfl,o,hk,hc,hd⟩|⟨rfl,hk⟩|⟨rfl,S,n,hk⟩
  ·obtain⟨its,_,pl,_⟩:=I.list hq;show#[pl.isList.typeIs,λa e=>?_]
   cases e;obtain⟨o,n,e,c,hd,_⟩:=pl;show#[o,e,hd]
  ·show#[#[o,I.kIn p o hk,hc],λa e=>?_]
   cases e;show#[o,I.kIn _ o hk,hd]
  ·have z:∃o,s.heap.get? p=ba o/\o.ExactDict:=by
    rcases hk with⟨U,hk⟩|⟨U,hk⟩
    ·obtain⟨_,_,_,_,o,_,_,e,ex,_⟩:=I.hok p _ hk;show#[o,e,ex]
    ·obtain⟨_,_,_,_,o,_,_,e,ex,_⟩:=I.hok p _ hk;show#[o,e,ex]
   obtain⟨o,e,ex⟩:=z;show#[#[o,e,ex.1],λa e2=>?_]
   cases e2;show#[o,e,ex.2.1]
  ·obtain⟨o,_,_,_,e,ex,_⟩:=I.hok p _ hk;show#[#[o,e,ex.1],λa e2=>?_]
   cases e2;show#[o,e,ex.2.1]
 |_=>show LV.elim ty
variable{o e:KP}{es:J5 KP}{to:TE}{t:TA}{name:KJ}{apos cpos:Na}{T id:L1}{r:V->J5 V->Hp->VK->Prop}
end
abbrev IY (X:Cx)(id:L1)(r:V->J5 V->Hp->VK->Prop):Prop:=
 ∀(J:J5 (Kj×Mf)) (s:Kc) (Y:St) (H:Hp) (x:V) (xs:J5 V) (v:J9) (us:J5 J9) (Q:VK),Inv X J Y H s->RelV x v->Vals xs us->r x xs H Q->
  wpAny (model X.prog X.w) X.A (call (.builtin id) (v::us)) (EP X J Y Q) X.xe s
def Vals.one:∀{x:V}{us:J5 J9},Vals [x] us->∃u,us=[u]/\RelV x u
 |_,_,.cons r .nil=>#[_,rfl,r]
def Vals.eraseIdx:∀{xs:J5 V}{us:J5 J9} (i:Kf),Vals xs us->Vals (xs.eraseIdx i) (us.eraseIdx i)
 |_,_,_,.nil=>.nil
 |_,_,0,.cons _ t=>t
 |_,_,i+1,.cons r t=>.cons r (Vals.eraseIdx i t)
def Vals.rep {xs:J5 V}{us:J5 J9}(h:Vals xs us):∀k:Kf,Vals (Lf k xs).flatten (Lf k us).flatten
 |0=>.nil
 |k+1=>by
  rw[Mr,Mr,Nq,Nq];show Vals.append h (Vals.rep h k)
def my {α:Type}:∀(l:J5 α) (i:Kf),(l.eraseIdx i).length<=↥l
 |[],_=>Ki _
 |_::_,0=>Nr _
 |_::r,i+1=>O2 (my r i)
def mz (its:J5 J9):∀(k:Kf) (acc:J5 J9),
  Th (λx1 x2=>x1++x2) acc.toArray (Lf k its.toArray)=(acc++(Lf k its).flatten).toArray
 |0,acc=>by simp
 |k+1,acc=>by
  have e:acc.toArray++its.toArray=(acc++its).toArray:=by simp
  have e2:(acc++its)++(Lf k its).flatten=acc++(Lf (k+1) its).flatten:=by
   rw[Mr,Nq,Mt]
  rw[<- e2,<- mz its k (acc++its),<- e,Mr,SR]
section
variable{X:Cx}{J:J5 (Kj×Mf)}{Y:St}{H:Hp}{s:Kc}{l b:Kj}{xs ys zs:J5 V}
def Inv.lset {its its':J5 J9}{n:Kf}{f:KL J9->KL J9}{t':Kf}(I:Inv X J Y H s)(hH:H l=ba (.lst xs))
  (e:s.heap.get? l=ba {cls:=.type "list",data:=.seq its.toArray n}) (hf:f its.toArray=its'.toArray) (hv:Vals ys its') (hz:↥ys<=sizeLine) :
  Inv X J Y (bx H l (.lst ys)) {s with heap:=s.heap.update l (L4 f),toks:=t'}:=by
 have q:=Sl e f;rw[hf]at q;show I.write (x:=l) (e:=l) (by rw[hH];show trivial) (.inl rfl) (λb' u hb hu=>(Lr s.heap (L4 f) (Ne.symm hb)).trans hu) #[_,q] ?_
 show#[hz,its',_,hv,q]
def Inv.lnew {its:J5 J9}{t':Kf}(I:Inv X J Y H s)(hv:Vals ys its)(hz:↥ys<=sizeLine) :
  Inv X J Y (bx H ⇑s.heap.objs (.lst ys)) {s with heap:=s.heap.push {cls:=.type "list",data:=.seq its.toArray},toks:=t'}:=
 I.laid (λ_ _ q=>J8 _ q) (Ki _) #[hz,its,0,hv,Ku _ rfl]
def Inv.fresh (I:Inv X J Y H s):H ⇑s.heap.objs=gV:=I.hok.fresh (Ki _)
def Inv.lstM (I:Inv X J Y H s)(hH:H l=ba (.lst xs)):↥xs<=sizeLine/\∃(its:J5 J9) (n:Kf),Vals xs its/\↥xs=↥its/\s.heap.get? l=ba {cls:=.type "list",data:=.seq its.toArray n}:=by
 obtain⟨z,its,n,r,e⟩:=I.hok l _ hH;show#[z,its,n,r,↥r,e]
def pA {n:Kf}(h:n<=sizeLine):Nx n=false:=by
 unfold Nx;show Le ∅
end
section
variable{X:Cx}
abbrev Bn:V->J5 V->Hp->VK->Prop:=λx vs H Q=>∃l xs y,x=.ref l/\vs=[y]/\H l=ba (.lst xs)/\↥xs<sizeLine/\Q .non (bx H l (.lst (xs++[y])))
def vG:IY X "list.append" Bn:=by
 intro J s Y H x vs v us Q I rx rv h;obtain⟨l,xs,y,rfl,rfl,hH,hz,q⟩:=h;cases rx;obtain⟨u,rfl,ru⟩:=rv.one;obtain⟨z,its,n,r,hl,e⟩:=I.lstM hH;show Pw F.slot_list_append #[_,e,rfl] F.entry_list_append (F.args_list_append_2 _ _) (RV l its.toArray n u (by rw[Ky];omega)) #[e,?_]
 show#[.non,_,I.lset (its':=its++[u]) hH e (by simp) (r.append #v[ru]) ?_,rfl,q]
 rw[Kk,LQ];omega
abbrev Bo:V->J5 V->Hp->VK->Prop:=λx vs H Q=>∃l b xs zs,x=.ref l/\vs=[.ref b]/\H l=ba (.lst xs)/\H b=ba (.lst zs)/\↥xs+↥zs<=sizeLine/\Q .non (bx H l (.lst (xs++zs)))
def vH:IY X "list.extend" Bo:=by
 intro J s Y H x vs v us Q I rx rv h;obtain⟨l,b,xs,zs,rfl,rfl,hH,hB,hz,q⟩:=h;cases rx;obtain⟨u,rfl,ru⟩:=rv.one;cases ru;obtain⟨z,its,n,r,hl,e⟩:=I.lstM hH;obtain⟨z2,its2,n2,r2,hl2,e2⟩:=I.lstM hB;have hsz:⇑its.toArray+⇑its2.toArray<=sizeLine:=by rw[Ky,Ky];omega
 have hlong:¬ (!its.toArray.isEmpty&&Nx (⇑its.toArray+⇑its2.toArray))=true:=by
  rw[pA hsz,Px];show KS
 show Pw F.slot_list_extend #[_,e,rfl] F.entry_list_extend (F.args_list_extend_2 _ _)
  (RW l its.toArray n b its2.toArray n2 hlong (by rw[Ky];omega) ∅) #[e,e2,?_]
 show#[.non,_,I.lset (its':=its++its2) hH e (by simp) (r.append r2) ?_,rfl,q]
 rw[Kk];omega
abbrev Ej:V->J5 V->Hp->VK->Prop:=λx vs H Q=>∃l xs i k y,x=.ref l/\vs=[.int i]/\H l=ba (.lst xs)/\-(2^63)<=i/\i<2^63/\seqIndex? i ↥xs=ba k/\xs[k]?=ba y/\Q y (bx H l (.lst (xs.eraseIdx k)))
def xO:IY X "list.pop" Ej:=by
 intro J s Y H x vs v us Q I rx rv h;obtain⟨l,xs,i,k,y,rfl,rfl,hH,h1,h2,hk,hy,q⟩:=h;cases rx;obtain⟨u,rfl,ru⟩:=rv.one;obtain⟨t,rfl⟩:=ru;obtain⟨z,its,n,r,hl,e⟩:=I.lstM hH;obtain⟨w,hw,rw'⟩:=r.get hy;show Pw F.slot_list_pop #[_,e,rfl] F.entry_list_pop (F.args_list_pop_2 _ _)
  (Ux l its.toArray n i t k w (Ti h1 h2) (by rw[Ky,<- hl];show hk) (by rw[<- LJ];show hw) (by rw[Ky];omega)) #[e,?_]
 show#[y,_,I.lset (its':=its.eraseIdx k) hH e ?_ (r.eraseIdx k) ?_,rw',q]
 ·change its.toArray.eraseIdxIfInBounds k=(its.eraseIdx k).toArray;rw[List.eraseIdxIfInBounds_toArray]
 ·have:=my xs k;omega
abbrev IZ:R2:=λx y H Q=>∃l b xs zs,x=.ref l/\y=.ref b/\H l=ba (.lst xs)/\H b=ba (.lst zs)/\↥xs+↥zs<=sizeLine/\∀p,H p=gV->Q (.ref p) (bx H p (.lst (xs++zs)))
def Ek:OpR X (binaryOp .Add) IZ:=by
 intro J s Y H x y v u Q I rx ry h;obtain⟨l,b,xs,zs,rfl,rfl,hH,hB,hz,q⟩:=h;cases rx;cases ry;obtain⟨z,its,n,r,hl,e⟩:=I.lstM hH;obtain⟨z2,its2,n2,r2,hl2,e2⟩:=I.lstM hB;show PySem.P.add_list e e2 ?_ (by rw[Ky,Ky];omega)
 have ea:its.toArray++its2.toArray=(its++its2).toArray:=by simp
 rw[ea];show#[.ref _,_,I.lnew (t':=s.toks) (r.append r2) (by rw[Kk];omega),rfl,q _ I.fresh]
abbrev Ja:R2:=λx y H Q=>∃l k xs,x=.ref l/\y=.int k/\H l=ba (.lst xs)/\-(2^63)<=k/\k<2^63/\↥xs*k.toNat<=sizeLine/\
 ∀p,H p=gV->Q (.ref p) (bx H p (.lst (Lf k.toNat xs).flatten))
def Bp {α:Type}(xs:J5 α)(k:Kf):(Lf k xs).flatten.length=k*↥xs:=by
 induction k with
 |zero=>simp
 |succ k ih=>rw[Mr,Nq,Kk,ih,Oj,Uf]
def El:OpR X (binaryOp .Mult) Ja:=by
 intro J s Y H x y v u Q I rx ry h;obtain⟨l,k,xs,rfl,rfl,hH,h1,h2,hz,q⟩:=h;cases rx;obtain⟨t,rfl⟩:=ry;obtain⟨z,its,n,r,hl,e⟩:=I.lstM hH;have hlen:⇑its.toArray*k.toNat<=sizeLine:=by rw[Ky,<- hl];show hz
 have hcap:¬ ⇑its.toArray*k.toNat > (2^63-1)/8:=by
  have:(sizeLine:Kf)<=(2^63-1)/8:=by decide
  omega
 have hfit:¬ (!Tj k)=true:=by
  rw[Ti h1 h2];show KS
 have hlong:¬ Nx (⇑its.toArray*k.toNat)=true:=by
  rw[pA hlen];show KS
 have hnew:Th (λx1 x2=>x1++x2) #[] (Lf (if its.toArray.isEmpty=true then 0 else k.toNat) its.toArray)=(Lf k.toNat its).flatten.toArray:=by
  have f0:∀m:Kf,Th (λx1 x2=>x1++x2) #[] (Lf m its.toArray)=(Lf m its).flatten.toArray:=λm=>by
   have:=mz its m [];rw[List.nil_append]at this;show this
  rw[f0];cases its with
  |nil=>simp
  |cons a r'=>rw[KM (by simp)]
 show wpAny_binaryOp_repeat_ref (T:="list") (U:="int") #v[] #[_,e,rfl] (λs'=>Tf s' k t) noFill_list_mul F.fills_int_mul F.slot_int_rmul repeat_list F.slot_int_index.lookup
  (Pw F.slot_int_rmul (Tf s k t) F.entry_int_rmul (F.args_int_rmul_2 _ _) (int___rmul___int_list k t l its.toArray n)
   #[e,rfl,#[_,e,rfl],Pw F.slot_list_mul #[_,e,rfl] F.entry_list_mul (F.args_list_mul_2 _ _) (RI l its.toArray n k t hfit hcap hlong) #[e,?_]])
 rw[hnew];show#[.ref _,_,I.lnew (t':=s.toks) (r.rep k.toNat) (by rw[Bp,Ol];show hz),rfl,q _ I.fresh]
end
section
variable{X:Cx}{J:J5 (Kj×Mf)}{Y:St}{H:Hp}{s:Kc}{a:Kj}{y v:V}{u r:J9}{o:Ke V}{A:Ld}{E:J9->Kc->Prop}
def Inv.big (I:Inv X J Y H s):sysModules<⇑s.heap.objs:=by
 have h:mainGlobals<⇑s.heap.objs:=(I.mod.glob.keeps I.bk).lt;show OS #v[] h
def nR {h':Lq}{t':Kf}{ob:HO}(I:Inv X J Y H s)(mu:FY (H a))(hs:Mw a s.heap h')(he:∃q,h'.get? a=ba q)(new:ObjOk X.prog X.w (bx H a ob) h' a ob) :
  Inv X J Y (bx H a ob) {s with heap:=h',toks:=t'}:=
 I.write (x:=a) (e:=a) mu (.inl rfl) (λb q hb z=>(hs.2 b hb).trans z) he new
end
noncomputable abbrev VV:J5 (V×V)->J5 (J9×J9)->Prop:=Qj λp q=>RelV p.1 q.1/\RelV p.2 q.2
structure M2 (X:Cx)(o:KP)(m:KJ)(apos:Na)(e f:KP)(cpos:Na):Prop where
 base:attributeBase o m X.env (eval o X.env)=eval o X.env
 few:((backTo cpos (starEach [e,f] X.env)).all (λx=>!x.1)&&(backToKw cpos (keywordEach [] X.env)).all (λx=>x.1.isSome)
  && decide (([e,f]:J5 KP).length+([]:J5 Re).length+(if ([]:J5 Re).isEmpty then 0 else 1)<30))=true
 line:(apos.endLine==cpos.line)=true
 trees:backTo cpos (starEach [e,f] X.env)=[(false,eval e X.env),(false,eval f X.env)]
end L2
namespace Att
open PySem PySem.W PySem.Calls PyProof.Rows
def j6 {P:Rz}{h:Lq}:∀(ns:J5 Ks) (vs:J5 J9),WellAll P h vs (ns.map WData.int)->Tb vs ns:=by
 intro ns
 induction ns with
 |nil=>
  intro vs w;rw[RX]at w;cases w;show .nil
 |cons n ns ih=>
  intro vs w;rw[LF]at w;cases w with
  |cons a b=>
   cases a;show .cons _ _ (ih _ b)
def vI {l:OpenLaw}{n:Kf}(hn:l.most=ba n){P:Rz}{h:Lq}{args:J5 WData}{vals:J5 J9}
  (hpre:l.row.toRowW.claim.pre args=true) (hwl:WellAll P h vals args) :
  ∃a vs ns,vals=[Lc a]/\args=[WData.list (ns.map WData.int)]/\h.get? a=ba {cls:=.type "list",data:=.seq vs.toArray}/\Tb vs ns/\↥ns<=n:=by
 have hsh:WShape.hasAll [] args [.list .int]=true:=(pre_splitW hpre).1;have hc:l.pre.holds [] {args:=args}=true:=(pre_splitW hpre).2;obtain⟨d,r,rfl,h1,h2⟩:=hasAllW_cons hsh;obtain rfl:=hasAllW_nil h2;obtain⟨xs,rfl,h3⟩:=hasW_list h1;obtain⟨ns,rfl⟩:=items_int h3;have hlen:↥ns<=n:=by
  unfold OpenLaw.pre at hc;have h4:(WTm.not (.lt (.lit (.int (n:Ks))) (.len (.arg 0)))).holds [] {args:=[.list (ns.map .int)]}=true:=by
   have h4:=(holds_andW hc).1;rw[hn]at h4;show h4
  have h5:=condW_of h4 (w_not (w_lt w_lit (w_len_list (w_arg rfl))));rw[J7]at h5;show Sn λq=>?_
  have q':(n:Ks)<((↥ns:Kf):Ks):=∅
  first
   |(rw[LZ q']at h5;show absurd h5 #v[])
   |(simp at h5;omega)
 cases hwl with
 |cons w1 w2=>
  cases w2;cases w1 with
  |list ho hall=>show#[_,_,ns,rfl,rfl,ho,j6 ns _ hall,hlen]
def vJ (l:OpenLaw)(args:J5 WData):l.row.toRowW.claim.post args (.bool true) args=true:=
 postW_of (r:=l.row.toRowW) (X:=(true==true))
  (show WShape.has [] (.bool true) .bool=true by first|rfl|decide|simp[WShape.has,WShape.arms,WShape.armsAll])
  (show(WTm.eq .res (.lit (.bool true))).value [] {args:=args,res:=ba (.bool true),after:=args}=ba (.bool (true==true))from w_eq_bool (w_res rfl) w_lit) rfl
def attach_call {l:OpenLaw}{n:Kf}{q:K9}{loose:J5 KJ}{XP:(KJ->Ke J9)->Lq->Prop}{YP:Ll->Lq->Prop}{d:DefRec}
  (hn:l.most=ba n) (hdf:d.params.defaults=[])
  (call:∀(w:Ll) (s₀ s₁:Kc) (mg mb:KJ->Ke J9) (fa:Kj) (o:Mf) (pm cd doc:J9) (a:Kj) (vs:J5 J9) (ns:J5 Ks),
   Ground q loose [] XP w s₀ mg mb s₁.heap->YP w s₁.heap->
   s₁.heap.get? fa=ba o->o.data=.func (docDef d.name d.params d.body d.scope pm cd doc)->s₁.heap.CodeRec cd d.name->mg d.name=ba (.ref fa)->
   s₁.heap.get? a=ba {cls:=.type "list",data:=.seq vs.toArray}->Tb vs ns->↥ns<=n->s₁.gens=#[]->
   codeAny (model l.prog w) callerA (.call (.ref fa) #[[.ref a],[]]) (λr s'=>r=.ok (.ret (.bool true))/\OldK s₁.heap s'.heap/\s'.os=s₁.os/\P0 s'.gens) s₁) :
  WalkO q loose XP YP l.row.toRowW d [] (λf vs=>Tk f vs):=by
 intro w s₀ s₁ mg mb G Yx fa o pm cd doc dV kV ho hd hcd hD hmg hg args vals as hpre hlay hrd hwl hlo;obtain rfl:dV=.none:=Dflts.none hD hdf;obtain rfl:kV=.none:=Dflts.noKw hD;obtain⟨a,vs,ns,rfl,rfl,hobj,hints,hlen⟩:=vI hn hpre hwl;show enter_call (OP (call w s₀ s₁ mg mb fa o pm cd doc a vs ns G Yx ho (fd_plain hd) hcd hmg hobj hints hlen hg) λr s' hq=>?_)
 obtain⟨rfl,h2,h3,h4⟩:=hq;show#[.inl #[.bool true,.bool true,[],rfl,λ_=>rfl,.bool true,vJ l _,λ_=>#[UT,λ_ hm=>(nomatch hm)]],h2,h3,h4]
end Att
namespace L2
open PySem PySem.Spec PyProof.Rows
def mB:∀{vs:J5 J9}{ns:J5 Ks},Tb vs ns->Vals (ns.map V.int) vs
 |_,_,.nil=>.nil
 |_,_,.cons n t h=>.cons #[t,rfl] (mB h)
abbrev xP (H:Hp):Prop:=∀b,H b=gV\/∃o xs,H b=ba (.frz o (.lst xs))
def xQ {P:K9}{w:Ll}{K:Kr}{mg mb:KJ->Ke J9}{CX:xF}{k:Kf}{fa a:Kj}{fd:Nf}{x:KJ}{sp:Sp}{s₁:Kc}{vs:J5 J9}{ns:J5 Ks}
  (KX:K.In s₁.heap) (hns:s₁.heap.Ns mainGlobals mg) (hb:s₁.heap.Ns builtinsNs mb) (hbb:∀x:KJ,x≠"__name__"->mb x=bootBuiltins x) (hlim:s₁.heap.NoLimit) (hg:s₁.gens=#[])
  (ha:s₁.heap.get? a=ba {cls:=.type "list",data:=.seq vs.toArray}) (hi:Tb vs ns) (hl:↥ns<=sizeLine) (hr:Room k callerA)
  (F:∀base:Lq,K.In base->base.Ns mainGlobals mg->FnOk P w K mg base CX k fa fd [x] sp) (hbind:∀(s:Kc) (u:J9),RO s fd #[[u],[]] [(x,u)])
  (hsp:∀H:Hp,xP H->SqL K H a (ns.map V.int)->sp [.ref a] H (λv _=>v=.bl true) λ_ _ _=>LV)
  (hCX:∀H e s',CX [] H s₁ (λ_ _ _=>LV) e s'->LV) :
  codeAny (model P w) callerA (.call (.ref fa) #[[.ref a],[]]) (λr s'=>r=.ok (.ret (.bool true))/\OldK s₁.heap s'.heap/\s'.os=s₁.os/\P0 s'.gens) s₁:=by
 have rv:=mB hi;have lenV:=↥hi;have core:∀H:Hp,xP H->SqL K H a (ns.map V.int)->HOk P w H s₁.heap->(∀b,H b≠gV->b=a)->(H a≠gV->K.lookup a=gV)->
   codeAny (model P w) callerA (.call (.ref fa) #[[.ref a],[]]) (λr s'=>r=.ok (.ret (.bool true))/\OldK s₁.heap s'.heap/\s'.os=s₁.os/\P0 s'.gens) s₁:=by
  intro H hO hS hok hA hK;have base_of:∀{b:Kj}{o:Mf},s₁.heap.get? b=ba o->H b=gV->(nJ s₁.heap H).get? b=ba o:=λe n=>xt e n
  have noA:∀{b:Kj}{o:Mf}{es:KL M0}{ep:Kf},s₁.heap.get? b=ba o->o.data=.dict es ep->H b=gV:=λ{b o es ep} e d=>by
   cases q:H b with
   |none=>rfl
   |some u=>
    have e':b=a:=hA b (by rw[q];simp)
    subst e';rw[ha]at e;cases e
    have d':Data.seq vs.toArray _=Data.dict es ep:=d;cases d'
  have nsK:∀{b:Kj}{m:KJ->Ke J9},s₁.heap.Ns b m->(nJ s₁.heap H).Ns b m:=λ{b m} #[o,es,ep,e,d,r]=>#[o,es,ep,base_of e (noA e d),d,r]
  have hKb:K.In (nJ s₁.heap H):=λb o e=>base_of (KX b o e) (by
   cases q:H b with
   |none=>rfl
   |some u=>
    have e':b=a:=hA b (by rw[q];simp)
    subst e';rw[hK (by rw[q];simp)]at e;cases e)
  have hM:Mod K mg (nJ s₁.heap H):=#[hKb,nsK hns,#[mb,nsK hb,hbb],let ⟨mc,h1,h2⟩:=hlim;#[mc,nsK h1,h2]]
  have e0:Env0 P w K mg (nJ s₁.heap H) callerA [] s₁ H:=#[rfl,hM,λb o e=>AS e,Nat.le_of_eq (vw _ _),trivial,λb hb=>absurd (show b∈([]:J5 Kj)from hb) (by simp),hok,.of_eq hg]
  show OP ((F _ hKb (nsK hns)).run callerA [] s₁ H #[[.ref a],[]] [.ref a] [.ref a] _ _ hr e0 (hbind s₁ (.ref a)) #v[rfl] (hsp H hO hS)) λr s' h=>?_
  cases r with
  |error e=>show(hCX H e s' h).elim
  |ok fl=>
   cases fl with
   |next=>show LV.elim h
   |brk=>show LV.elim h
   |cont=>show LV.elim h
   |ret u=>
    obtain⟨v,H',os,bare,un,hok',r',q⟩:=h;have q':v=.bl true:=q;subst q';obtain rfl:u=Oa true:=r';show#[rfl,OldK.of_keep λb o e=>?_,os,bare]
    cases q:H b with
    |none=>show un.keep b o e q (by intro z;show absurd (show b∈([]:J5 Kj)from z) (by simp)) (by simp)
    |some u=>
     rcases hO b with z|⟨ob,xs,z⟩
     ·rw[q]at z;cases z
     ·have z2:=un.frzs b ob _ z;obtain⟨e1,_⟩:=hok b _ z;obtain⟨e2,_⟩:=hok' b _ z2;rw[e]at e1;cases e1
      show e2
 cases hk:K.lookup a with
 |some o=>
  have e:=KX a o hk;rw[ha]at e;cases e;show core (λ_=>gV) (λ_=>.inl rfl) (.inr #[_,vs.toArray,_,hk,rfl,rfl,rfl,by rw[Ky,lenV];show hl,by simpa using rv]) (λb u z=>by have z':(gV:Ke HO)=ba u:=z;cases z') (λb z=>absurd rfl z) λz=>absurd rfl z
 |none=>
  show core (λb=>if b=a then ba (.frz {cls:=.type "list",data:=.seq vs.toArray} (.lst (ns.map V.int)))else gV) (λb=>?_) (.inl (.inr #[{cls:=.type "list",data:=.seq vs.toArray},KF rfl])) (λb u z=>?_) (λb z=>?_) λ_=>hk
  ·by_cases hb:b=a
   ·show .inr #[_,_,KF hb]
   ·show .inl (KM hb)
  ·by_cases hb:b=a
   ·have z':=(KF hb).symm.trans z;cases z';subst hb;show#[ha,by rw[J7];show hl,vs,_,rv,ha]
   ·have z':=(KM hb).symm.trans z;cases z'
  ·by_cases hb:b=a
   ·show hb
   ·show absurd (KM hb) z
def Bq {l:Qx}{n k:Kf}{q:K9}{loose:J5 KJ}{XP:(KJ->Ke J9)->Lq->Prop}{YP:Ll->Lq->Prop}{d:DefRec}{K:Rz->Kr}{CX:Ll->xF}{sp:Ll->Sp}{x:KJ}
  (hn:l.most=ba n) (hn2:n<=sizeLine) (hdf:d.params.defaults=[]) (hr:Room k callerA)
  (hY:∀(w:Ll) (h:Lq),YP w h->(K w.params).In h)
  (F:∀(w:Ll) (mg:KJ->Ke J9) (fa:Kj) (h:Lq),(K w.params).In h->h.Ns mainGlobals mg->mg d.name=ba (.ref fa)->
   ∃fd:Nf,(∀(s:Kc) (u:J9),RO s fd #[[u],[]] [(x,u)])/\
    ∀base:Lq,(K w.params).In base->base.Ns mainGlobals mg->FnOk l.prog w (K w.params) mg base (CX w) k fa fd [x] (sp w))
  (hsp:∀(w:Ll) (H:Hp) (a:Kj) (ns:J5 Ks),↥ns<=n->xP H->SqL (K w.params) H a (ns.map V.int)->sp w [.ref a] H (λv _=>v=.bl true) λ_ _ _=>LV)
  (hCX:∀(w:Ll) (H:Hp) (s:Kc) (e:J9) (s':Kc),CX w [] H s (λ_ _ _=>LV) e s'->LV) :
  TN q loose XP YP l.row.toRowW d [] (λf vs=>Tk f vs):=by
 show Att.attach_call hn hdf λw s₀ s₁ mg mb fa o pm cd doc a vs ns G Yx ho hd hcd hmg hobj hints hlen hg=>?_
 have KX:=hY w _ Yx;obtain⟨fd,hb,hF⟩:=F w mg fa _ KX G.T.g hmg;show xQ KX G.T.g G.T.b G.T.builtins G.T.nolimit hg hobj hints (KW hlen hn2) hr hF hb (λH hO hS=>hsp w H a ns hlen hO hS) λH e s'=>hCX w H s₁ e s'
abbrev dH (s:NB):Arguments:=match s with
 |.FunctionDef _ a _ _ _ _ _ _ _ _=>a
 |_=>{posonlyargs:=[],args:=[],vararg:=gV,kwonlyargs:=[],kw_defaults:=[],kwarg:=gV,defaults:=[]}
abbrev cg (s:NB):J5 NB:=match s with
 |.FunctionDef _ _ b _ _ _ _ _ _ _=>b
 |_=>[]
abbrev aR (s:NB):N5:=match s with
 |.FunctionDef _ _ _ _ _ _ sc _ _ _=>sc
 |_=>{kind:=.function,names:=[],isGenerator:=false,isCoroutine:=false}
noncomputable abbrev xo:xF:=λ_ _ _ _ _ _=>LV
noncomputable abbrev E0:XK:=λ_ _ _=>LV
def Dg {X:Cx}:nL xo X E0:=λ_ _ _ _ _ _ _ h=>h.elim
structure Fun (K:Kr)(x qual:KJ)(st:NB)(f:Kj)(fd:Nf):Prop where
 ex:∃(oc:J9) (od:Ke Kj) (kV doc pm:J9) (an:Ke Kj) (cdv ct:J9) (osl:KL (Ke J9)),
  fd=MV x qual (dH st) (cg st) (aR st) .none kV doc pm an cdv ct/\K.lookup f=ba #[oc,od,.func fd,osl]/\NG K cdv qual=true
 kp:L8 K (.ref f)=true
section
variable{P:K9}{w:Ll}{K:Kr}{mg:KJ->Ke J9}{base:Lq}
def Fun.ok {x qual:KJ}{st:NB}{f:Kj}{fd:Nf}{N ps:J5 KJ}{k:Kf}{sp:Sp}(F:Fun K x qual st f fd)(S:FnScope N ps (aR st))(len:∀vs H Q E,sp vs H Q E->↥vs=↥ps)
  (hbody:∀(cdv:J9) (A:Ld) (outer:J5 RK) (s:Kc) (H:Hp) (vs:J5 V) (Q:VK) (E:XK),Room k (A.deeper (envOfC qual (aR st) ⇑s.heap.objs f cdv))->sp vs H Q E->
   ∃t,PSs (rR xo P w K mg base N qual (aR st) f cdv A outer s H E).nox (cg st) t/\t {nx:=λ_ H'=>Q .non H',rt:=Q} (gp N vs) H):FnOk P w K mg base xo (k+1) f fd ps sp:=by
 obtain⟨oc,od,kV,doc,pm,an,cdv,ct,osl,rfl,lk,hcd⟩:=F.ex;show Gs lk hcd S len λA outer s H vs Q E hr hsp=>?_
 obtain⟨t,h,q⟩:=hbody cdv A outer s H vs Q E hr hsp;show#[t,h.nox,q]
def Fun.binds {x qual:KJ}{st:NB}{f:Kj}{fd:Nf}{ps:J5 KJ}(F:Fun K x qual st f fd)
  (h:∀(kV doc pm:J9) (an:Ke Kj) (cdv ct:J9) (us:J5 J9),↥us=↥ps->bindArgs (MV x qual (dH st) (cg st) (aR st) .none kV doc pm an cdv ct) #[us,[]]=pure (ps.zip us)):Binds K fd ps []:=by
 obtain⟨oc,od,kV,doc,pm,an,cdv,ct,osl,rfl,lk,hcd⟩:=F.ex;show .all (h kV doc pm an cdv ct)
def xR {x qual:KJ}{st:NB}{f:Kj}{oc:J9}{od an:Ke Kj}{osl:KL (Ke J9)}{kV doc pm cdv ct:J9}(l:K.lookup f=ba #[oc,od,.func (MV x qual (dH st) (cg st) (aR st) .none kV doc pm an cdv ct),osl])
  (c:NG K cdv qual=true) (k:L8 K (.ref f)=true):Fun K x qual st f (MV x qual (dH st) (cg st) (aR st) .none kV doc pm an cdv ct):=#[#[oc,od,kV,doc,pm,an,cdv,ct,osl,rfl,l,c],k]
end
section
variable{X:Cx}
def pv (i:Kf){x:KJ}{pos:Na}(hN:X.N[i]?=ba x:=by rfl)(hv:Ig X.env.scope x)(hd:(x==("__debug__": KJ))=false:=by decide)
  (hcd:(x==("__classdict__": KJ))=false:=by decide):PE X (.Name x pos) (DL i):=xu hN hv hd hcd
end
end L2
open PySem PySem.W PyProof.Rows L2
set_option maxHeartbeats 0
namespace Mi
section
abbrev mC (i:Kf):NB:=PySem.Challenge.pw_layworld_k66_unlike_worlds_told.main.body.getD i (.Pass #[0,0,0,0])
abbrev pw:K9:=Py
abbrev ge (P:Rz)(n:KJ)(t:Kf)(v:J9):M0:=#[PyData.keyHash P n,.str n t,v]
abbrev kd (a:Kf)(es:J5 M0)(n:Kf):Kj×Mf:=(a,#[.type "dict",gV,.dict es.toArray n,#[]])
abbrev kc (a:Kf)(vs:J5 J9):Kj×Mf:=(a,#[.type "code",gV,.fields vs.toArray,#[]])
abbrev kf (a:Kf)(st:NB)(n:KJ)(pm cd:J9):Kj×Mf:=(a,#[.type "function",gV,.func (MV n n (dH st) (cg st) (aR st) .none .none .none pm gV cd .none),#[]])
abbrev Jb (i:Kf):J9:=if i<=1 then(.str "layworld.worlds" 187)else if i<=6 then(.str "layworld.parts" 199)else if i<=12 then(.str "layworld.threes" 225)else if i<=14 then(.str "layworld.counts" 272)else(.str "law_layworld_k66_unlike_worlds_told" 288)
abbrev kx (a:Kf)(b:KU)(i:Kf)(s:KJ)(t:Kf)(l p:Ks)(m:Kf)(R:Kr):Kr:=kc a [.str s t,.str s (t+1),.str "/claim/cut.py" (t+2),.int l 0,.int p 0,.int 0 0,.int 0 0,.int 3 0,.ref (if b then a-5 else a-3),.bool true,.int 181 0,.ref (if b then a-4 else a-2),.none,if b then .ref (a-3)else .none,if b then .ref (a-2)else .none,.ref (a-1),.int m 0,.int l 0,.str "/claim/cut.py" (m+1)]::kf (a+1) (mC i) s (Jb i) (.ref a)::R
abbrev K0 (P:Rz):Kr:=kd 3 [ge P "__name__" 165 (.str "law_layworld_k66_unlike_worlds_told" 288),ge P "__doc__" 166 .none,ge P "__package__" 167 .none,ge P "__loader__" 168 (.builtin "__main__.__loader__#opaque"),ge P "__spec__" 169 .none,ge P "__annotations__" 170 (.ref 6),ge P "__builtins__" 171 (.ref 4),ge P "__file__" 173 (.str "/claim/cut.py" 172),ge P "__cached__" 174 .none,ge P "way" 198 (.ref 21),ge P "part" 206 (.ref 26),ge P "point_over" 212 (.ref 31),ge P "least_form" 218 (.ref 36),ge P "longer_orders" 224 (.ref 41),ge P "barred_threes" 237 (.ref 48),ge P "three_at" 249 (.ref 55),ge P "first_bar" 259 (.ref 62),ge P "wishes_over" 265 (.ref 67),ge P "longer_wishes" 271 (.ref 72),ge P "unlike_worlds" 287 (.ref 79),ge P "_law_flow" 296 (.ref 86),ge P "_law_pick" 306 (.ref 93),ge P "_law_letters" 312 (.ref 98),ge P "_law_name" 321 (.ref 105),ge P "_law_names" 334 (.ref 112),ge P "_law_between" 344 (.ref 119),ge P "_law_part" 350 (.ref 124),ge P "_law_turns" 356 (.ref 131),ge P "_law_figure" 362 (.ref 136),ge P "_law_bad" 372 (.ref 143),ge P "_law_may" 382 (.ref 150),ge P "_law_last_may" 396 (.ref 157),ge P "_law_backs" 405 (.ref 164),ge P "_law_rule_of" 411 (.ref 169),ge P "_law_free_three" 417 (.ref 174),ge P "_law_sizes" 425 (.ref 181),ge P "_law_any_rule" 437 (.ref 188),ge P "_law_laying_kind" 445 (.ref 195),ge P "_law_breaks" 461 (.ref 202),ge P "_law_numbered" 467 (.ref 207),ge P "_law_laying_rule" 488 (.ref 214),ge P "_law_rising" 494 (.ref 219),ge P "_law_free_rule" 500 (.ref 224),ge P "_law_one_way_rule" 506 (.ref 229),ge P "_law_alike" 512 (.ref 234),ge P "_law_orders" 518 (.ref 239),ge P "_law_least" 524 (.ref 244),ge P "_law_digits" 530 (.ref 249),ge P "_law_worlds" 536 (.ref 254),ge P "_law_figures" 542 (.ref 259),ge P "_law_full_rule" 548 (.ref 264),ge P "_law_size" 556 (.ref 271),ge P "law" 562 (.ref 276)] 53::(kx 20 true 1 "way" 189 2 4 196
 (kx 25 false 3 "part" 201 7 3 204
 (kx 30 false 4 "point_over" 207 9 4 210
 (kx 35 false 5 "least_form" 213 11 2 216
 (kx 40 false 6 "longer_orders" 219 21 2 222
 (kx 47 true 8 "barred_threes" 227 27 1 235
 (kx 54 true 9 "three_at" 238 36 4 247
 (kx 61 true 10 "first_bar" 250 40 2 257
 (kx 66 false 11 "wishes_over" 260 46 3 263
 (kx 71 false 12 "longer_wishes" 266 54 2 269
 (kx 78 true 14 "unlike_worlds" 274 60 2 285
 (kx 85 true 16 "_law_flow" 290 71 1 294
 (kx 92 true 17 "_law_pick" 297 73 2 304
 (kx 97 false 18 "_law_letters" 307 88 2 310
 (kx 104 true 19 "_law_name" 313 90 2 319
 (kx 111 true 20 "_law_names" 322 98 2 332
 (kx 118 true 21 "_law_between" 335 111 4 342
 (kx 123 false 22 "_law_part" 345 115 3 348
 (kx 130 true 23 "_law_turns" 351 121 0 354
 (kx 135 false 24 "_law_figure" 357 123 2 360
 (kx 142 true 25 "_law_bad" 363 125 1 370
 (kx 149 true 26 "_law_may" 373 131 3 380
 (kx 156 true 27 "_law_last_may" 383 136 4 394
 (kx 163 true 28 "_law_backs" 397 143 2 403
 (kx 168 false 29 "_law_rule_of" 406 146 4 409
 (kx 173 false 30 "_law_free_three" 412 150 3 415
 (kx 180 true 31 "_law_sizes" 418 155 1 423
 (kx 187 true 32 "_law_any_rule" 426 158 1 435
 (kx 194 true 33 "_law_laying_kind" 438 165 1 443
 (kx 201 true 34 "_law_breaks" 446 174 5 459
 (kx 206 false 35 "_law_numbered" 462 182 3 465
 (kx 213 true 36 "_law_laying_rule" 468 197 1 486
 (kx 218 false 37 "_law_rising" 489 217 1 492
 (kx 223 false 38 "_law_free_rule" 495 223 1 498
 (kx 228 false 39 "_law_one_way_rule" 501 236 1 504
 (kx 233 false 40 "_law_alike" 507 240 2 510
 (kx 238 false 41 "_law_orders" 513 252 1 516
 (kx 243 false 42 "_law_least" 519 260 2 522
 (kx 248 false 43 "_law_digits" 525 262 2 528
 (kx 253 false 44 "_law_worlds" 531 267 2 534
 (kx 258 false 45 "_law_figures" 537 275 1 540
 (kx 263 false 46 "_law_full_rule" 543 277 1 546
 (kx 270 true 47 "_law_size" 549 286 2 554
 (kx 275 false 48 "law" 557 292 1 560 []))))))))))))))))))))))))))))))))))))))))))))
abbrev JJ:J5 Kf:=[3,20,21,25,26,30,31,35,36,40,41,47,48,54,55,61,62,66,67,71,72,78,79,85,86,92,93,97,98,104,105,111,112,118,119,123,124,130,131,135,136,142,143,149,150,156,157,163,164,168,169,173,174,180,181,187,188,194,195,201,202,206,207,213,214,218,219,223,224,228,229,233,234,238,239,243,244,248,249,253,254,258,259,263,264,270,271,275,276]
abbrev vq:K9:={pw with main:={pw.main with body:=[mC 48]}}
abbrev lo:J5 KJ:=[("way": KJ),("part": KJ),("point_over": KJ),("least_form": KJ),("longer_orders": KJ),("barred_threes": KJ),("three_at": KJ),("first_bar": KJ),("wishes_over": KJ),("longer_wishes": KJ),("unlike_worlds": KJ),("_law_flow": KJ),("_law_pick": KJ),("_law_letters": KJ),("_law_name": KJ),("_law_names": KJ),("_law_between": KJ),("_law_part": KJ),("_law_turns": KJ),("_law_figure": KJ),("_law_bad": KJ),("_law_may": KJ),("_law_last_may": KJ),("_law_backs": KJ),("_law_rule_of": KJ),("_law_free_three": KJ),("_law_sizes": KJ),("_law_any_rule": KJ),("_law_laying_kind": KJ),("_law_breaks": KJ),("_law_numbered": KJ),("_law_laying_rule": KJ),("_law_rising": KJ),("_law_free_rule": KJ),("_law_one_way_rule": KJ),("_law_alike": KJ),("_law_orders": KJ),("_law_least": KJ),("_law_digits": KJ),("_law_worlds": KJ),("_law_figures": KJ),("_law_full_rule": KJ),("_law_size": KJ)]
def eK:∀P,JJ=(K0 P).map (·.1):=λ_=>by kernel_rfl
abbrev hk:PySem.W.Hook:=PySem.W.kHook K0 JJ eK
def hl:PySem.W.LeftO pw vq lo (λs=>Ug vq [] s&&TQ [] s) hk.obs hk.val 2792:=λw=>by kernel_rfl
def s0:PySem.Challenge.rw_layworld_k66_unlike_worlds_told.row.wellSaid=true:=by kernel_rfl
end
end Mi
namespace Mi
open PySem PySem.Spec PyProof.Rows L2
abbrev dX (t:K1)(n:Kf):KU:=decide (Lj t.place 0=0)&&(KH n).all λi=>decide (Lj t.place (t.place.getD i 0+1)=i+1)
abbrev fj (w:Ll):KU:=w.params.followText "set-order"
inductive W where
 |non|bl (b:KU)|int (i:Ks)|str (x:KJ)|tup (xs:J5 W)|ref (i:Kf)
inductive T where
 |int (i:Ks)|str (x:KJ)|tup (xs:J5 T)
mutual
def T.beq:T->T->KU
 |.int i,.int j=>i==j
 |.str x,.str y=>x==y
 |.tup xs,.tup ys=>T.beqs xs ys
 |_,_=>false
def T.beqs:J5 T->J5 T->KU
 |[],[]=>true
 |x::xs,y::ys=>T.beq x y&&T.beqs xs ys
 |_,_=>false
end
mutual
theorem T.beq_iff:∀x y:T,T.beq x y=true↔x=y
 |.int i,.int j=>by simp[T.beq]
 |.str x,.str y=>by simp[T.beq]
 |.tup xs,.tup ys=>by simp[T.beq,T.beqs_iff xs ys]
 |.int _,.str _|.int _,.tup _|.str _,.int _|.str _,.tup _|.tup _,.int _|.tup _,.str _=>by simp[T.beq]
theorem T.beqs_iff:∀xs ys:J5 T,T.beqs xs ys=true↔xs=ys
 |[],[]=>by simp[T.beqs]
 |x::xs,y::ys=>by simp[T.beqs,T.beq_iff x y,T.beqs_iff xs ys]
 |[],_::_|_::_,[]=>by simp[T.beqs]
end
noncomputable instance:NQ T:=λx y=>decidable_of_iff (T.beq x y=true) (T.beq_iff x y)
mutual
def T.w:T->W
 |.int i=>.int i
 |.str x=>.str x
 |.tup xs=>.tup (T.ws xs)
def T.ws:J5 T->J5 W
 |[]=>[]
 |x::xs=>T.w x::T.ws xs
end
mutual
def W.t:W->Ke T
 |.int i=>ba (.int i)
 |.str x=>ba (.str x)
 |.tup xs=>(W.ts xs).map .tup
 |_=>gV
def W.ts:J5 W->Ke (J5 T)
 |[]=>ba []
 |x::xs=>match W.t x,W.ts xs with
  |some y,ba ys=>ba (y::ys)
  |_,_=>gV
end
mutual
theorem W.t_w:∀{w:W}{k:T},W.t w=ba k->k.w=w
 |.int i,_,h=>by cases h;rfl
 |.str x,_,h=>by cases h;rfl
 |.tup xs,_,h=>by
  simp only[W.t,Kb]at h;obtain⟨ks,h1,h2⟩:=h;subst h2;simp only[T.w,W.ts_w h1]
 |.non,_,h|.bl _,_,h|.ref _,_,h=>by cases h
theorem W.ts_w:∀{ws:J5 W}{ks:J5 T},W.ts ws=ba ks->T.ws ks=ws
 |[],_,h=>by cases h;rfl
 |w::ws,_,h=>by
  simp only[W.ts]at h;split at h
  ·rename_i y ys h1 h2;cases h;simp only[T.ws,W.t_w h1,W.ts_w h2]
  ·cases h
end
mutual
theorem T.w_t:∀k:T,W.t k.w=ba k
 |.int _=>rfl
 |.str _=>rfl
 |.tup xs=>by simp only[T.w,W.t,T.ws_ts xs,Lk]
theorem T.ws_ts:∀ks:J5 T,W.ts (T.ws ks)=ba ks
 |[]=>rfl
 |x::xs=>by simp only[T.ws,W.ts,T.w_t x,T.ws_ts xs]
end
mutual
def T.depth:T->Kf
 |.tup xs=>T.depths xs+1
 |_=>0
def T.depths:J5 T->Kf
 |[]=>0
 |x::xs=>max (T.depth x) (T.depths xs)
end
mutual
def T.draws:T->Kf
 |.tup xs=>T.drawss xs+1
 |_=>1
def T.drawss:J5 T->Kf
 |[]=>0
 |x::xs=>T.draws x+T.drawss xs
end
mutual
def eG (wd:Ll):T->Ks
 |.int i=>hashInt i
 |.str x=>hashStr wd x
 |.tup xs=>reduceHash (Oq (iq wd xs))
def iq (wd:Ll):J5 T->J5 Ks
 |[]=>[]
 |x::xs=>eG wd x::iq wd xs
end
abbrev T.isTup:T->KU
 |.tup _=>true
 |_=>false
abbrev az:Kf:=6
inductive O where
 |lst (xs:J5 W)
 |fro (xs:J5 W)
 |stt (ks:J5 T)
 |rng (lo hi:Ks)
 |dic (U:J5 (T×W))
 |frd (U:J5 (T×W))
noncomputable abbrev aa:=J5 O
noncomputable abbrev Fm:=J5 (Ke W)
section
variable (K:Kr) (A:J5 Kj) (H:Hp)
mutual
inductive Rel:W->V->Prop
 |non:Rel .non .non
 |bl {b:KU}:Rel (.bl b) (.bl b)
 |int {i:Ks}:Rel (.int i) (.int i)
 |str {x:KJ}:Rel (.str x) (.str x)
 |tup {ws:J5 W}{a:Kj}{vs:J5 V}:SqT K H a vs->RelL ws vs->Rel (.tup ws) (.ref a)
 |ref {i:Kf}{a:Kj}:A[i]?=ba a->Rel (.ref i) (.ref a)
inductive RelL:J5 W->J5 V->Prop
 |nil:RelL [] []
 |cons {w:W}{v:V}{ws:J5 W}{vs:J5 V}:Rel w v->RelL ws vs->RelL (w::ws) (v::vs)
end
end
section
variable{K:Kr}{A A' A'':J5 Kj}{H H' H'':Hp}
structure Ext (K:Kr)(A:J5 Kj)(H:Hp)(A':J5 Kj)(H':Hp):Prop where
 ad:∀(i:Kf) (a:Kj),A[i]?=ba a->A'[i]?=ba a
 tp:∀(a:Kj) (vs:J5 V),SqT K H a vs->SqT K H' a vs
 fz:∀(a:Kj) (o:Mf) (u:HO),H a=ba (.frz o u)->H' a=ba (.frz o u)
def Ext.refl:Ext K A H A H:=#[λ_ _ h=>h,λ_ _ h=>h,λ_ _ _ h=>h]
def Ext.trans (e:Ext K A H A' H')(f:Ext K A' H' A'' H''):Ext K A H A'' H'':=#[λi a h=>f.ad i a (e.ad i a h),λa vs h=>f.tp a vs (e.tp a vs h),λa o u h=>f.fz a o u (e.fz a o u h)]
mutual
theorem Rel.mono (e:Ext K A H A' H'):∀{w:W}{v:V},Rel K A H w v->Rel K A' H' w v
 |_,_,.non=>.non
 |_,_,.bl=>.bl
 |_,_,.int=>.int
 |_,_,.str=>.str
 |_,_,.tup h r=>.tup (e.tp _ _ h) (RelL.mono e r)
 |_,_,.ref h=>.ref (e.ad _ _ h)
theorem RelL.mono (e:Ext K A H A' H'):∀{ws:J5 W}{vs:J5 V},RelL K A H ws vs->RelL K A' H' ws vs
 |_,_,.nil=>.nil
 |_,_,.cons r t=>.cons (Rel.mono e r) (RelL.mono e t)
end
def RelL.length:∀{ws:J5 W}{vs:J5 V},RelL K A H ws vs->↥ws=↥vs
 |_,_,.nil=>rfl
 |_,_,.cons _ t=>by simp[RelL.length t]
def RelL.get:∀{ws:J5 W}{vs:J5 V}{i:Kf}{w:W},RelL K A H ws vs->ws[i]?=ba w->∃v,vs[i]?=ba v/\Rel K A H w v
 |_,_,_,_,.nil,e=>by simp at e
 |_,_,0,_,.cons r _,e=>by simp at e;subst e;show#[_,rfl,r]
 |_,_,i+1,w,.cons _ t,e=>by
  obtain⟨u,h1,h2⟩:=RelL.get (i:=i) (w:=w) t (by simpa using e)
  show#[u,by simpa using h1,h2]
def RelL.append:∀{xs ys:J5 W}{us ws:J5 V},RelL K A H xs us->RelL K A H ys ws->RelL K A H (xs++ys) (us++ws)
 |_,_,_,_,.nil,s=>s
 |_,_,_,_,.cons r t,s=>.cons r (RelL.append t s)
def RelL.take:∀{xs:J5 W}{us:J5 V} (n:Kf),RelL K A H xs us->RelL K A H (xs.take n) (us.take n)
 |_,_,0,_=>.nil
 |_,_,_+1,.nil=>.nil
 |_,_,n+1,.cons r t=>.cons r (RelL.take n t)
def RelL.drop:∀{xs:J5 W}{us:J5 V} (n:Kf),RelL K A H xs us->RelL K A H (xs.drop n) (us.drop n)
 |_,_,0,r=>r
 |_,_,_+1,.nil=>.nil
 |_,_,n+1,.cons _ t=>RelL.drop n t
def RelL.set {x:W}{u:V}(r:Rel K A H x u):∀{xs:J5 W}{us:J5 V} (i:Kf),RelL K A H xs us->RelL K A H (xs.set i x) (us.set i u)
 |_,_,_,.nil=>.nil
 |_,_,0,.cons _ t=>.cons r t
 |_,_,i+1,.cons q t=>.cons q (RelL.set r i t)
def RelL.rep {xs:J5 W}{us:J5 V}(h:RelL K A H xs us):∀k:Kf,RelL K A H (Lf k xs).flatten (Lf k us).flatten
 |0=>.nil
 |k+1=>by
  rw[Mr,Mr,Nq,Nq];show RelL.append h (RelL.rep h k)
def RelL.eraseIdx:∀{xs:J5 W}{us:J5 V} (i:Kf),RelL K A H xs us->RelL K A H (xs.eraseIdx i) (us.eraseIdx i)
 |_,_,_,.nil=>.nil
 |_,_,0,.cons _ t=>t
 |_,_,i+1,.cons r t=>.cons r (RelL.eraseIdx i t)
abbrev FroL (K:Kr)(H:Hp)(a:Kj)(vs:J5 V):Prop:=
 (∃o,H a=ba (.frz o (.lst vs)))\/
  ∃(o:Mf) (its:KL J9) (n:Kf),K.lookup a=ba o/\o.cls=.type "list"/\o.dict=gV/\o.data=.seq its n/\⇑its<=sizeLine/\Vals vs its.toList
def FroL.sq {a:Kj}{vs:J5 V}(h:FroL K H a vs):SqL K H a vs:=by
 rcases h with⟨o,h⟩|h
 ·show .inl (.inr #[o,h])
 ·show .inr h
abbrev xS (wd:Ll)(x:T×Kj×J9):M0:=#[eG wd x.1,.ref x.2.1,x.2.2]
abbrev DicAt (wd:Ll)(a:Kj)(xs:J5 (T×Kj×J9))(h:Lq):Prop:=
 ↥xs<=sizeLine/\(a==sysModules)=false/\(xs.map (·.1)).Nodup/\∃o es ep,h.get? a=ba o/\o.ExactDict/\o.data=.dict es ep/\es.toList=xs.map (xS wd)
abbrev dY (wd:Ll)(a:Kj)(xs:J5 (T×Kj×J9)):HO:=.ext (DicAt wd a xs)
abbrev KRel (K:Kr)(A:J5 Kj)(H:Hp):J5 (T×W)->J5 (T×Kj×J9)->Prop:=
 Qj λ(p:T×W) (q:T×Kj×J9)=>p.1=q.1/\p.1.isTup=true/\p.1.depth<=az/\Rel K A H p.1.w (.ref q.2.1)/\∃v,Rel K A H p.2 v/\RelV v q.2.2
def KRel.mono (e:Ext K A H A' H'){U:J5 (T×W)}{xs:J5 (T×Kj×J9)}(h:KRel K A H U xs):KRel K A' H' U xs:=
 Paired.mapP h λ_ _ #[h1,h2,h3,h4,v,h5,h6]=>#[h1,h2,h3,h4.mono e,v,h5.mono e,h6]
variable{wd:Ll}
abbrev Br (wd:Ll)(as:J5 Kj)(o:Mf):Prop:=o.ExactSet/\∃es ep t,o.data=.set es ep t/\⇑es<=sizeLine/\t.fits ⇑es=true/\t.led=(!fj wd)/\(t.plain=true->⇑es=0\/dX t ⇑es=true)/\es.toList.map (·.2)=as.map Lc
abbrev ObjRel (wd:Ll)(K:Kr)(A:J5 Kj)(H:Hp)(a:Kj):O->Prop
 |.lst ws=>∃vs,H a=ba (.lst vs)/\RelL K A H ws vs
 |.fro ws=>∃vs,FroL K H a vs/\RelL K A H ws vs
 |.stt ks=>∃o φ as,H a=ba (.frz o (.ext φ))/\Br wd as o/\RelL K A H (T.ws ks) (as.map V.ref)
 |.rng lo hi=>H a=ba (.rng lo hi)
 |.dic U=>∃xs,H a=ba (dY wd a xs)/\KRel K A H U xs
 |.frd U=>∃o xs,H a=ba (.frz o (dY wd a xs))/\KRel K A H U xs
abbrev O.mut:O->KU
 |.fro _=>false
 |.stt _=>false
 |.rng _ _=>false
 |.frd _=>false
 |_=>true
structure StoreOk (wd:Ll)(K:Kr)(A:J5 Kj)(H:Hp)(S:aa):Prop where
 len:↥A=↥S
 nd:∀(i j:Kf) (a:Kj) (o u:O),S[i]?=ba o->o.mut=true->S[j]?=ba u->u.mut=true->A[i]?=ba a->A[j]?=ba a->i=j
 obj:∀(i:Kf) (o:O) (a:Kj),S[i]?=ba o->A[i]?=ba a->ObjRel wd K A H a o
abbrev EnvRel (K:Kr)(A:J5 Kj)(H:Hp)(Z:Fm)(Y:L2.St):Prop:=
 ↥Z=↥Y/\∀(i:Kf) (w:W),Z[i]?=ba (ba w)->∃v,Y[i]?=ba (ba v)/\Rel K A H w v
def EnvRel.mono {Z:Fm}{Y:L2.St}(e:Ext K A H A' H')(h:EnvRel K A H Z Y):EnvRel K A' H' Z Y:=
 #[h.1,λi w q=>let ⟨v,a,b⟩:=h.2 i w q;#[v,a,b.mono e]]
def EnvRel.set {Z:Fm}{Y:L2.St}{w:W}{v:V}(h:EnvRel K A H Z Y)(r:Rel K A H w v)(i:Kf):EnvRel K A H (Z.set i (ba w)) (Y.set i (ba v)):=by
 show#[by simp[h.1],λj w' q=>?_]
 rw[MK]at q ⊢
 by_cases e:i=j
 ·subst e;rw[KF rfl]at q ⊢
  by_cases hl:i<↥Z
  ·rw[KF hl]at q;rw[KF (h.1▸hl)];cases q;show#[v,rfl,r]
  ·rw[KM hl]at q;cases q
 ·rw[KM e]at q ⊢;show h.2 j w' q
abbrev Wr (H:Hp)(p:Kj):Prop:=H p=gV\/(∃xs,H p=ba (.lst xs))\/(∃φ,H p=ba (.ext φ))\/∃ks,H p=ba (.dK ks)
def Wr.lst {p:Kj}{xs:J5 V}(h:H p=ba (.lst xs)):Wr H p:=.inr (.inl #[xs,h])
def Wr.ext {p:Kj}{φ:Lq->Prop}(h:H p=ba (.ext φ)):Wr H p:=.inr (.inr (.inl #[φ,h]))
def Wr.ne_tup {p a:Kj}{xs:J5 V}(hp:Wr H p)(h:H a=ba (.tup xs)):a≠p:=by
 intro e;subst e
 rcases hp with q|⟨xs,q⟩|⟨φ,q⟩|⟨ks,q⟩<;>(rw[h]at q;cases q)
def Wr.ne_frz {p a:Kj}{o:Mf}{u:HO}(hp:Wr H p)(h:H a=ba (.frz o u)):a≠p:=by
 intro e;subst e
 rcases hp with q|⟨xs,q⟩|⟨φ,q⟩|⟨ks,q⟩<;>(rw[h]at q;cases q)
def Wr.ne_rng {p a:Kj}{lo hi:Ks}(hp:Wr H p)(h:H a=ba (.rng lo hi)):a≠p:=by
 intro e;subst e
 rcases hp with q|⟨xs,q⟩|⟨φ,q⟩|⟨ks,q⟩<;>(rw[h]at q;cases q)
def tN {p:Kj}{o:HO}(hp:Wr H p){a:Kj}{vs:J5 V}(h:SqT K H a vs):SqT K (bx H p o) a vs:=by
 rcases h with(h|⟨o',h⟩)|h
 ·show .inl (.inl (by rw[aC (hp.ne_tup h)];show h))
 ·show .inl (.inr #[o',by rw[aC (hp.ne_frz h)];show h])
 ·show .inr h
def xT {p:Kj}{o:HO}(hp:Wr H p){a:Kj}{vs:J5 V}(h:FroL K H a vs):FroL K (bx H p o) a vs:=by
 rcases h with⟨o',h⟩|h
 ·show .inl #[o',by rw[aC (hp.ne_frz h)];show h]
 ·show .inr h
def ci {p:Kj}{o:HO}(hp:Wr H p):Ext K A H A (bx H p o):=#[λ_ _ h=>h,λ_ _ h=>tN hp h,λ_ _ _ h=>by rw[aC (hp.ne_frz h)];show h]
def cJ {p:Kj}{o:HO}(hp:H p=gV):Ext K A H (A++[p]) (bx H p o):=
 #[λi a h=>by rw[Lg (Kq.mp h).1];show h,λ_ _ h=>tN (.inl hp) h,λ_ _ _ h=>by rw[aC (Wr.ne_frz (.inl hp) h)];show h]
def ObjRel.keep {p a:Kj}{o:HO}{b:O}(hp:Wr H p)(hne:b.mut=true->a≠p)(e:Ext K A H A' (bx H p o))(h:ObjRel wd K A H a b):ObjRel wd K A' (bx H p o) a b:=by
 cases b with
 |lst ws=>
  obtain⟨vs,q,r⟩:=h;show#[vs,by rw[aC (hne rfl)];show q,r.mono e]
 |fro ws=>
  obtain⟨vs,q,r⟩:=h;show#[vs,xT hp q,r.mono e]
 |stt ks=>
  obtain⟨ob,φ,as,q,r1,r2⟩:=h;show#[ob,φ,as,by rw[aC (hp.ne_frz q)];show q,r1,r2.mono e]
 |rng lo hi=>
  have h:H a=ba (.rng lo hi):=h;change bx H p o a=ba (.rng lo hi);rw[aC (hp.ne_rng h)];show h
 |dic U=>
  obtain⟨xs,q,r⟩:=h;show#[xs,by rw[aC (hne rfl)];show q,r.mono e]
 |frd U=>
  obtain⟨ob,xs,q,r⟩:=h;show#[ob,xs,by rw[aC (hp.ne_frz q)];show q,r.mono e]
def ObjRel.there {a:Kj}{b:O}(h:ObjRel wd K A H a b)(hm:b.mut=true):H a≠gV:=by
 cases b with
 |lst ws=>obtain⟨vs,q,r⟩:=h;rw[q];intro z;cases z
 |fro ws=>cases hm
 |stt ws=>cases hm
 |rng lo hi=>cases hm
 |dic U=>obtain⟨vs,q,r⟩:=h;rw[q];intro z;cases z
 |frd ws=>cases hm
def ObjRel.wr {a:Kj}{b:O}(h:ObjRel wd K A H a b)(hm:b.mut=true):Wr H a:=by
 cases b with
 |lst ws=>obtain⟨vs,q,r⟩:=h;show .lst q
 |fro ws=>cases hm
 |stt ws=>cases hm
 |rng lo hi=>cases hm
 |dic U=>obtain⟨vs,q,r⟩:=h;show .ext q
 |frd ws=>cases hm
def StoreOk.lay {S:aa}{p:Kj}{o:HO}(h:StoreOk wd K A H S)(hp:H p=gV):StoreOk wd K A (bx H p o) S:=
 #[h.len,h.nd,λi b a e ea=>(h.obj i b a e ea).keep (.inl hp) (λhm z=>(h.obj i b a e ea).there hm (z▸hp)) (ci (.inl hp))]
def StoreOk.pushO {S:aa}{p:Kj}{n:O}{u:HO}(h:StoreOk wd K A H S)(hp:H p=gV)(r:ObjRel wd K (A++[p]) (bx H p u) p n):StoreOk wd K (A++[p]) (bx H p u) (S++[n]):=by
 have ex:Ext K A H (A++[p]) (bx H p u):=cJ hp;have old:∀{i:Kf}{o:O}{a:Kj},(S++[n])[i]?=ba o->(A++[p])[i]?=ba a->i<↥S->S[i]?=ba o/\A[i]?=ba a:=λ{i o a} e ea hl=>by
  rw[Lg hl]at e;rw[Lg (h.len▸hl)]at ea;show#[e,ea]
 have new:∀{i:Kf}{o:O}{a:Kj},(S++[n])[i]?=ba o->(A++[p])[i]?=ba a->¬ i<↥S->i=↥S/\o=n/\a=p:=λ{i o a} e ea hl=>by
  have hi:i=↥S:=by
   have:=(Kq.mp e).1;simp at this;omega
  subst hi;simp at e;rw[<- h.len]at ea;simp at ea;show#[rfl,e.symm,ea.symm]
 show#[by simp[h.len],λi j a o u e1 m1 e2 m2 a1 a2=>?_,λi o a e ea=>?_]
 ·by_cases hi:i<↥S<;>by_cases hj:j<↥S
  ·obtain⟨x1,y1⟩:=old e1 a1 hi;obtain⟨x2,y2⟩:=old e2 a2 hj;show h.nd i j a o u x1 m1 x2 m2 y1 y2
  ·obtain⟨x1,y1⟩:=old e1 a1 hi;obtain⟨_,_,z⟩:=new e2 a2 hj;subst z;show absurd hp ((h.obj i o a x1 y1).there m1)
  ·obtain⟨x2,y2⟩:=old e2 a2 hj;obtain⟨_,_,z⟩:=new e1 a1 hi;subst z;show absurd hp ((h.obj j u a x2 y2).there m2)
  ·rw[(new e1 a1 hi).1,(new e2 a2 hj).1]
 ·by_cases hi:i<↥S
  ·obtain⟨x1,y1⟩:=old e ea hi;show(h.obj i o a x1 y1).keep (.inl hp) (λhm z=>(h.obj i o a x1 y1).there hm (z▸hp)) ex
  ·obtain⟨_,rfl,rfl⟩:=new e ea hi;show r
def StoreOk.push {S:aa}{p:Kj}{ws:J5 W}{vs:J5 V}(h:StoreOk wd K A H S)(hp:H p=gV)(r:RelL K A H ws vs):StoreOk wd K (A++[p]) (bx H p (.lst vs)) (S++[.lst ws]):=
 h.pushO hp #[vs,aJ,r.mono (cJ hp)]
def StoreOk.writeO {S:aa}{i:Kf}{p:Kj}{o0 n:O}{u:HO}(h:StoreOk wd K A H S)(e:S[i]?=ba o0)(m0:o0.mut=true)(ea:A[i]?=ba p)(r:ObjRel wd K A (bx H p u) p n) :
  StoreOk wd K A (bx H p u) (S.set i n)/\Ext K A H A (bx H p u):=by
 have hw:Wr H p:=(h.obj i _ p e ea).wr m0;have ex:Ext K A H A (bx H p u):=ci hw;have hl:i<↥S:=(Kq.mp e).1;show#[#[by simp[h.len],λj k a o u e1 m1 e2 m2 a1 a2=>?_,λj o a e1 a1=>?_],ex]
 ·have get:∀{j:Kf}{o:O},(S.set i n)[j]?=ba o->o.mut=true->∃o',S[j]?=ba o'/\o'.mut=true:=λ{j o} q m=>by
   rw[MK]at q
   by_cases z:i=j
   ·subst z;show#[_,e,m0]
   ·rw[KM z]at q;show#[o,q,m]
  obtain⟨o',x1,m1'⟩:=get e1 m1;obtain⟨u',x2,m2'⟩:=get e2 m2;show h.nd j k a o' u' x1 m1' x2 m2' a1 a2
 ·rw[MK]at e1
  by_cases z:i=j
  ·subst z;rw[KF rfl,KF hl]at e1;cases e1;rw[ea]at a1;cases a1
   show r
  ·rw[KM z]at e1;show(h.obj j o a e1 a1).keep hw (λhm q=>z (h.nd i j p _ o e m0 e1 hm ea (q▸a1))) ex
def StoreOk.write {S:aa}{i:Kf}{p:Kj}{ws:J5 W}{us:J5 V}{ws0:J5 W}(h:StoreOk wd K A H S)(e:S[i]?=ba (.lst ws0))(ea:A[i]?=ba p)(r:RelL K A H ws us) :
  StoreOk wd K A (bx H p (.lst us)) (S.set i (.lst ws))/\Ext K A H A (bx H p (.lst us)):=
 h.writeO e rfl ea #[us,aJ,r.mono (ci ((h.obj i _ p e ea).wr rfl))]
end
abbrev gr (S:aa)(i:Kf):Ke (J5 W):=match S[i]? with
 |some (.lst xs)=>ba xs
 |some (.fro xs)=>ba xs
 |_=>gV
abbrev pc (S:aa)(i:Kf):Ke (J5 W):=match S[i]? with
 |some (.lst xs)=>ba xs
 |_=>gV
abbrev lZ (S:aa)(xs:J5 W):Ke (W×aa):=if ↥xs<=sizeLine then ba (.ref ↥S,S++[.lst xs])else gV
abbrev rX (S:aa)(xs:J5 W):Ke (W×aa):=if ↥xs<=sizeLine then ba (.tup xs,S)else gV
abbrev Bs (j:Ks):KU:=decide (0<j)&&decide (j<1073741824)
abbrev vK (i j:Ks):KU:=(decide (-(2^64)<i)&&decide (i<2^64))||(decide (-(2^64)<j)&&decide (j<2^64))
abbrev Gy (i j:Ks):KU:=decide (0<=j)&&decide (j<=1000000)&&decide (i.natAbs<2^64)
inductive BOp where|add|sub|mul|fdiv|mod|pow
 deriving NQ
abbrev AM (c:Ks->Ks->KU)(f:Ks->Ks->Ks)(x y:W)(S:aa):Ke (W×aa):=match x,y with
 |.int i,.int j=>if c i j then ba (.int (f i j),S)else gV
 |_,_=>gV
abbrev vL (x y:W)(S:aa):Ke (W×aa):=match x with
 |.int i=>match y with
  |.int j=>ba (.int (i+j),S)
  |_=>gV
 |.str x=>match y with
  |.str y=>if ↥x+↥y<=sizeLine then ba (.str (x++y),S)else gV
  |_=>gV
 |.tup xs=>match y with
  |.tup ys=>rX S (xs++ys)
  |_=>gV
 |.ref i=>match y with
  |.ref j=>match pc S i,pc S j with
   |some xs,ba ys=>lZ S (xs++ys)
   |_,_=>gV
  |_=>gV
 |_=>gV
abbrev xU (x y:W)(S:aa):Ke (W×aa):=match x with
 |.str x=>match y with
  |.int k=>if k<2^24/\-(2^24)<=k/\↥x*k.toNat<=sizeLine then ba (.str (Vl x k),S)else gV
  |_=>gV
 |.ref i=>match y with
  |.int k=>match pc S i with
   |some xs=>if k<2^24/\-(2^24)<=k/\↥xs*k.toNat<=sizeLine then lZ S (Lf k.toNat xs).flatten else gV
   |none=>gV
  |_=>gV
 |x=>AM vK (· * ·) x y S
abbrev gk:BOp->W->W->aa->Ke (W×aa)
 |.add,x,y,S=>vL x y S
 |.sub,x,y,S=>AM (λ_ _=>true) (· - ·) x y S
 |.mul,x,y,S=>xU x y S
 |.fdiv,x,y,S=>AM (λ_ j=>Bs j) (· / ·) x y S
 |.mod,x,y,S=>AM (λ_ j=>decide (0<j)) (· % ·) x y S
 |.pow,x,y,S=>AM Gy (λi j=>i^j.toNat) x y S
abbrev BOp.py:BOp->RN
 |.add=>.Add|.sub=>.Sub|.mul=>.Mult|.fdiv=>.FloorDiv|.mod=>.Mod|.pow=>.Pow
section
variable (X:Cx)
inductive PostE (J:J5 (Kj×Mf))(Y:L2.St)(A:J5 Kj)(H:Hp)(S':aa)(w:W)(u:J9)(s':Kc):Prop
 |mk (v:V) (H':Hp) (A':J5 Kj) (i:Inv X J Y H' s') (r:RelV v u) (e:Ext X.K A H A' H') (so:StoreOk X.w X.K A' H' S') (rl:Rel X.K A' H' w v):PostE J Y A H S' w u s'
noncomputable abbrev FE:=Fm->aa->Ke (W×aa)
abbrev LOp (f:J9->J9->UC J9)(g:W->W->aa->Ke (W×aa)):Prop:=
 ∀(J:J5 (Kj×Mf)) (s:Kc) (Y:L2.St) (H:Hp) (A:J5 Kj) (S:aa) (x y:W) (a b:V) (u v:J9) (w:W) (S':aa),Inv X J Y H s->StoreOk X.w X.K A H S->
  Rel X.K A H x a->RelV a u->Rel X.K A H y b->RelV b v->g x y S=ba (w,S')->wpAny (model X.prog X.w) X.A (f u v) (PostE X J Y A H S' w) X.xe s
end
section
variable{X:Cx}
def kG {S:aa}{i:Kf}{xs:J5 W}(h:pc S i=ba xs):S[i]?=ba (.lst xs):=by
 unfold pc at h;split at h
 ·cases h;assumption
 ·cases h
def eT {A:J5 Kj}{H:Hp}{S:aa}{i:Kf}{xs:J5 W}{a:Kj}(so:StoreOk X.w X.K A H S)(h:pc S i=ba xs)(ea:A[i]?=ba a):∃vs,H a=ba (.lst vs)/\RelL X.K A H xs vs:=
 so.obj i _ a (kG h) ea
def bh {A:J5 Kj}{H:Hp}{S:aa}{i:Kf}{xs:J5 W}{a:Kj}(so:StoreOk X.w X.K A H S)(h:gr S i=ba xs)(ea:A[i]?=ba a):∃vs,SqL X.K H a vs/\RelL X.K A H xs vs:=by
 unfold gr at h;split at h
 ·cases h;obtain⟨vs,q,r⟩:=so.obj i _ a (by assumption) ea
  show#[vs,.of q,r]
 ·cases h;obtain⟨vs,q,r⟩:=so.obj i _ a (by assumption) ea
  show#[vs,q.sq,r]
 ·cases h
def ke {S S':aa}{xs:J5 W}{w:W}(h:lZ S xs=ba (w,S')):↥xs<=sizeLine/\w=.ref ↥S/\S'=S++[.lst xs]:=by
 unfold lZ at h;split at h
 ·cases h;show#[by assumption,rfl,rfl]
 ·cases h
def tP {S S':aa}{xs:J5 W}{w:W}(h:rX S xs=ba (w,S')):↥xs<=sizeLine/\w=.tup xs/\S'=S:=by
 unfold rX at h;split at h
 ·cases h;show#[by assumption,rfl,rfl]
 ·cases h
def Bt {A:J5 Kj}{H:Hp}{S:aa}{ws:J5 W}{vs:J5 V}{Q:VK}{p:Kj}(so:StoreOk X.w X.K A H S)(r:RelL X.K A H ws vs)(hp:H p=gV)
  (q:∀v H' A',Ext X.K A H A' H'->StoreOk X.w X.K A' H' (S++[.lst ws])->Rel X.K A' H' (.ref ↥S) v->Q v H'):Q (.ref p) (bx H p (.lst vs)):=
 q _ _ (A++[p]) (cJ hp) (so.push hp r) (.ref (by rw[<- so.len];simp))
def Bu {A:J5 Kj}{H:Hp}{S:aa}{ws:J5 W}{vs:J5 V}{Q:VK}{p:Kj}(so:StoreOk X.w X.K A H S)(r:RelL X.K A H ws vs)(hp:H p=gV)
  (q:∀v H' A',Ext X.K A H A' H'->StoreOk X.w X.K A' H' S->Rel X.K A' H' (.tup ws) v->Q v H'):Q (.ref p) (bx H p (.tup vs)):=
 q _ _ A (ci (.inl hp)) (so.lay hp) (.tup (.of aJ) (r.mono (ci (.inl hp))))
abbrev Gz (K:Kr):R2:=λx y H Q=>∃a b xs ys,x=.ref a/\y=.ref b/\SqT K H a xs/\SqT K H b ys/\↥xs+↥ys<=sizeLine/\
 (xs=[]->Q (.ref b) H)/\(ys=[]->Q (.ref a) H)/\(∀p,H p=gV->Q (.ref p) (bx H p (.tup (xs++ys))))
def Bv:OpR X (binaryOp .Add) (Gz X.K):=by
 intro J s Y H x y v u Q I rx ry h;obtain⟨a,b,xs,ys,rfl,rfl,ha,hb,hz,q0,q1,q2⟩:=h;cases rx;cases ry;obtain⟨its,r1,p1,_⟩:=I.tuple ha;obtain⟨its2,r2,p2,_⟩:=I.tuple hb
 by_cases hx:xs=[]
 ·obtain⟨⟨cls,dd,data,sl⟩,ho,hc,n,hd⟩:=id p1;obtain⟨⟨cls2,dd2,data2,sl2⟩,ho2,hc2,n2,hd2⟩:=id p2;simp only at hc hd hc2 hd2;subst hc hd hc2 hd2;show RQ #[_,ho,rfl] #[_,ho2,rfl] Qe Rm OQ OM (Oy _ _)
   (tuple_addW0 a b its.toArray its2.toArray n n2 dd dd2 sl sl2 (by simp[r1.nil_iff.mpr hx])) #[ho,ho2,#[.ref b,H,I,rfl,q0 hx]]
 ·show HT.Bf p1 p2 (λz=>hx (r1.nil_iff.mp z)) (λz=>#[.ref a,H,I,rfl,q1 (r2.nil_iff.mp z)]) (λz=>?_) (by rw[<- ↥r1,<- ↥r2];show hz)
  show#[.ref ⇑s.heap.objs,_,I.laid (t':=s.toks) (o:=.tup (xs++ys)) (λb ob q=>J8 _ q) (Ki _) ?_,rfl,q2 _ (I.hok.fresh (Ki _))]
  show#[by rw[Kk];show hz,_,r1.append r2,Sg _ _]
def RelL.nil_iff {K:Kr}{A:J5 Kj}{H:Hp}{ws:J5 W}{vs:J5 V}(r:RelL K A H ws vs):vs=[]↔ws=[]:=by
 cases r<;>simp
def rY:OpR X (binaryOp .Mult) (λx y H Q=>∃z k,x=.str z/\y=.int k/\MulOk z k/\Q (.str (Vl z k)) H):=by
 intro J s Y H x y v u Q I rx ry h;obtain⟨z,k,rfl,rfl,ok,q⟩:=h;obtain⟨t,rfl⟩:=rx;obtain⟨t',rfl⟩:=ry;show SB.mul ok λt2 k2=>#[.str _,H,I.tok _,#[_,rfl],q]
def xV {x:KJ}{k:Ks}(h1:k<16777216)(h2 : -16777216<=k)(h3:↥x*k.toNat<=sizeLine):MulOk x k:=by
 have hs:sizeLine=16777216:=Lp;rw[hs]at h3;show#[?_,λa b=>?_,λ_ _=>?_]
 ·rw[Bool.or_eq_false_iff];show#[Le ∅,Le ∅]
 ·have hk:0<k:=∅
  have e:(↥x:Ks)*k=((↥x*k.toNat:Kf):Ks):=by
   rw[Qy,Ou ∅]
  intro hgt;have h4:(2^63-1:Ks)<(↥x:Ks)*k:=(Int.ediv_lt_iff_lt_mul hk).mp hgt;rw[e]at h4;generalize ↥x*k.toNat=z at h3 h4;omega
 ·unfold TC;rw[hs];show Le ∅
inductive EndV (wd:Ll)(K:Kr)(A:J5 Kj)(H:Hp)(S':aa)(w:W)(v:V)(H':Hp):Prop
 |mk (A':J5 Kj) (e:Ext K A H A' H') (so:StoreOk wd K A' H' S') (r:Rel K A' H' w v):EndV wd K A H S' w v H'
def EndV.here {A:J5 Kj}{H:Hp}{S:aa}{w:W}{v:V}(so:StoreOk X.w X.K A H S)(r:Rel X.K A H w v):EndV X.w X.K A H S w v H:=#[A,.refl,so,r]
def EndV.lst {A:J5 Kj}{H:Hp}{S:aa}{ws:J5 W}{vs:J5 V}{p:Kj}(so:StoreOk X.w X.K A H S)(r:RelL X.K A H ws vs)(hp:H p=gV):EndV X.w X.K A H (S++[.lst ws]) (.ref ↥S) (.ref p) (bx H p (.lst vs)):=
 Bt (Q:=EndV X.w X.K A H (S++[.lst ws]) (.ref ↥S)) so r hp λv H' A' a b c=>#[A',a,b,c]
def EndV.tup {A:J5 Kj}{H:Hp}{S:aa}{ws:J5 W}{vs:J5 V}{p:Kj}(so:StoreOk X.w X.K A H S)(r:RelL X.K A H ws vs)(hp:H p=gV):EndV X.w X.K A H S (.tup ws) (.ref p) (bx H p (.tup vs)):=
 Bu (Q:=EndV X.w X.K A H S (.tup ws)) so r hp λv H' A' a b c=>#[A',a,b,c]
def EP.post {J:J5 (Kj×Mf)}{Y:L2.St}{A:J5 Kj}{H:Hp}{S':aa}{w:W}{u:J9}{s':Kc}(h:EP X J Y (EndV X.w X.K A H S' w) u s'):PostE X J Y A H S' w u s':=by
 obtain⟨v,H',I',r,A',x,y,z⟩:=h;show#[v,H',A',I',r,x,y,z]
def OpR.go {f:J9->J9->UC J9}{r:R2}(h:OpR X f r){J:J5 (Kj×Mf)}{Y:L2.St}{A:J5 Kj}{H:Hp}{S':aa}{w:W}{s:Kc}{a b:V}{u v:J9}(I:Inv X J Y H s)(ru:RelV a u)(rv:RelV b v)
  (q:r a b H (EndV X.w X.K A H S' w)):wpAny (model X.prog X.w) X.A (f u v) (PostE X J Y A H S' w) X.xe s:=bu (h J s Y H a b u v _ I ru rv q) λ_ _=>EP.post
def Bw:LOp X (binaryOp .Add) (gk .add):=by
 intro J s Y H A S x y a b u v w S' I so rx ru ry rv e;cases rx with
 |int=>cases ry with
  |int=>cases e;show OpR.go D4 I ru rv #[_,_,rfl,rfl,.here so .int]
  |_=>cases e
 |str=>cases ry with
  |str=>
   dsimp only[gk,vL]at e;split at e
   ·cases e;show OpR.go rQ I ru rv #[_,_,rfl,rfl,by assumption,.here so .str]
   ·cases e
  |_=>cases e
 |tup h1 r1=>cases ry with
  |tup h2 r2=>
   obtain⟨hl,rfl,rfl⟩:=tP (show rX S _=_ from e)
   rw[Kk,↥r1,↥r2]at hl;show OpR.go Bv I ru rv #[_,_,_,_,rfl,rfl,h1,h2,hl,λz=>?_,λz=>?_,λp hp=>.tup so (r1.append r2) hp]
   ·have z':=r1.nil_iff.mp z;subst z';show .here so (.tup h2 r2)
   ·have z':=r2.nil_iff.mp z;subst z';rw[Ml];show .here so (.tup h1 r1)
  |_=>cases e
 |ref h1=>cases ry with
  |ref h2=>
   dsimp only[gk,vL]at e;split at e
   ·obtain⟨hl,rfl,rfl⟩:=ke e;obtain⟨vs,q1,r1⟩:=eT so (by assumption) h1
    obtain⟨us,q2,r2⟩:=eT so (by assumption) h2
    rw[Kk,↥r1,↥r2]at hl;show OpR.go Ek I ru rv #[_,_,_,_,rfl,rfl,q1,q2,hl,λp hp=>.lst so (r1.append r2) hp]
   ·cases e
  |_=>cases e
 |_=>cases e
def pB {f:J9->J9->UC J9}{c:Ks->Ks->KU}{g:Ks->Ks->Ks}{r:R2}(h:OpR X f r)(hr:∀i j H Q,c i j=true->Q (.int (g i j)) H->r (.int i) (.int j) H Q):LOp X f (AM c g):=by
 intro J s Y H A S x y a b u v w S' I so rx ru ry rv e;cases rx with
 |int=>cases ry with
  |int=>
   unfold AM at e;dsimp only at e;split at e
   ·cases e;show OpR.go h I ru rv (hr _ _ _ _ (by assumption) (.here so .int))
   ·cases e
  |_=>cases e
 |_=>cases e
def Bx:LOp X (binaryOp .Sub) (gk .sub):=pB D5 λ_ _ _ _ _ q=>#[_,_,rfl,rfl,q]
def By {i j:Ks}(h:vK i j=true):CMul i j:=by
 unfold vK at h;rw[My,Kg,Kg,KG,KG,KG,KG]at h;show h
def Bz:LOp X (binaryOp .Mult) (gk .mul):=by
 have hI:LOp X (binaryOp .Mult) (AM vK (· * ·)):=pB D6 λ_ _ _ _ h q=>#[_,_,rfl,rfl,By h,q]
 intro J s Y H A S x y a b u v w S' I so rx ru ry rv e;cases x with
 |str z=>
  cases rx with
  |str=>cases ry with
   |int=>
    dsimp only[gk,xU]at e;split at e
    ·rename_i hc;cases e;show OpR.go rY I ru rv #[_,_,rfl,rfl,xV ∅ ∅ hc.2.2,.here so .str]
    ·cases e
   |_=>cases e
 |ref z=>
  cases rx with
  |ref h1=>cases ry with
   |int=>
    dsimp only[gk,xU]at e;split at e
    ·split at e
     ·rename_i hc;obtain⟨hl,rfl,rfl⟩:=ke e;obtain⟨vs,q1,r1⟩:=eT so (by assumption) h1
      rw[↥r1]at hc;show OpR.go El I ru rv #[_,_,_,rfl,rfl,q1,∅,∅,hc.2.2,λp hp=>.lst so (r1.rep _) hp]
     ·cases e
    ·cases e
   |_=>cases e
 |_=>show hI _ _ _ _ _ _ _ _ _ _ _ _ _ _ I so rx ru ry rv e
def xW:LOp X (binaryOp .FloorDiv) (gk .fdiv):=pB Ba λ_ _ _ _ h q=>#[_,_,rfl,rfl,by
 unfold Bs at h;rw[Kg,KG,KG]at h;show h,q]
def BA:LOp X (binaryOp .Mod) (gk .mod):=pB D7 λ_ _ _ _ h q=>#[_,_,rfl,rfl,Lo h,q]
def BB:LOp X (binaryOp .Pow) (gk .pow):=pB D8 λ_ _ _ _ h q=>#[_,_,rfl,rfl,by
 unfold Gy at h;rw[Kg,Kg,KG,KG,KG]at h;show#[h.1.1,h.1.2,h.2],q]
def tQ (o:BOp):LOp X (binaryOp o.py) (gk o):=by
 cases o
 ·show Bw
 ·show Bx
 ·show Bz
 ·show xW
 ·show BA
 ·show BB
end
abbrev j7 (f:W->W->Ke KU):J5 W->J5 W->Ke KU
 |[],[]=>ba true
 |[],_::_=>ba false
 |_::_,[]=>ba false
 |x::xs,y::ys=>match f x y,j7 f xs ys with
  |some a,ba b=>ba (a&&b)
  |_,_=>gV
abbrev b2 (b:KU):Ks:=if b then 1 else 0
abbrev kH (S:aa):Kf->W->W->Ke KU
 |_,.non,y=>match y with
  |.non=>ba true
  |_=>gV
 |_,.bl a,y=>match y with
  |.bl b=>ba (a==b)
  |_=>gV
 |_,.int a,y=>match y with
  |.int b=>ba (a==b)
  |_=>gV
 |_,.str a,y=>match y with
  |.str b=>ba (a==b)
  |_=>gV
 |0,_,_=>gV
 |d+1,.tup xs,y=>match y with
  |.tup ys=>j7 (kH S d) xs ys
  |_=>gV
 |d+1,.ref i,y=>match y with
  |.ref j=>match pc S i,pc S j with
   |some xs,ba ys=>if ↥xs=↥ys then j7 (kH S d) xs ys else ba false
   |_,_=>gV
  |_=>gV
section
variable{X:Cx}{J:J5 (Kj×Mf)}{Y:L2.St}{H:Hp}{s:Kc}{A:J5 Kj}{S:aa}
abbrev RU (K:Kr)(A:J5 Kj)(H:Hp)(w:W)(u:J9):Prop:=∃v,Rel K A H w v/\RelV v u
def tR {ws:J5 W}{vs:J5 V}{us:J5 J9}(r:RelL X.K A H ws vs)(q:Vals vs us):∀(j:Kf) (h1:j<↥ws) (h2:j<↥us),RU X.K A H ws[j] us[j]:=by
 induction ws generalizing vs us with
 |nil=>intro j h1;simp at h1
 |cons w ws ih=>
  cases r with
  |cons r1 rr=>
   cases q with
   |cons q1 qq=>
    intro j h1 h2;cases j with
    |zero=>show#[_,r1,q1]
    |succ j=>show ih rr qq j (by simpa using h1) (by simpa using h2)
def xX {ws:J5 W}{u:J9}(I:Inv X J Y H s)(h:RU X.K A H (.tup ws) u):∃a its,u=.ref a/\RJ s.heap a its/\⇑its=↥ws/\↥ws<=sizeLine/\∀(j:Kf) (h1:j<↥ws) (h2:j<⇑its),RU X.K A H ws[j] its[j]:=by
 obtain⟨v,r,q⟩:=h;cases r with
 |tup sq rl=>
  obtain⟨its,rv,ht,hz⟩:=I.tuple sq;show#[_,its.toArray,q,ht,by rw[Ky,<- ↥rv,↥rl],by rw[↥rl];show hz,λj h1 h2=>?_]
  have:=tR rl rv j h1 (by simpa using h2)
  simpa using this
def xY {i:Kf}{ws:J5 W}{u:J9}(I:Inv X J Y H s)(so:StoreOk X.w X.K A H S)(e:pc S i=ba ws)(h:RU X.K A H (.ref i) u):∃a its,u=.ref a/\A[i]?=ba a/\s.heap.IsList a its/\⇑its=↥ws/\↥ws<=sizeLine/\∀(j:Kf) (h1:j<↥ws) (h2:j<⇑its),RU X.K A H ws[j] its[j]:=by
 obtain⟨v,r,q⟩:=h;cases r with
 |ref ea=>
  obtain⟨vs,hq,rl⟩:=eT so e ea;obtain⟨its,rv,ht,hz⟩:=I.list (.of hq);show#[_,its.toArray,q,ea,ht.isList,by rw[Ky,<- ↥rv,↥rl],by rw[↥rl];show hz,λj h1 h2=>?_]
  have:=tR rl rv j h1 (by simpa using h2)
  simpa using this
def kI {f:W->W->Ke KU}:∀{xs ys:J5 W}{k:KU},j7 f xs ys=ba k->∃e:Kf->KU,(∀(j:Kf) (h1:j<↥xs) (h2:j<↥ys),f xs[j] ys[j]=ba (e j))/\
  k=((KH (min ↥xs ↥ys)).all e&&↥xs==↥ys)
 |[],[],k,h=>#[λ_=>true,λj h1=>by simp at h1,by cases h;rfl]
 |[],_::_,k,h=>#[λ_=>true,λj h1=>by simp at h1,by cases h;simp]
 |_::_,[],k,h=>#[λ_=>true,λj h1 h2=>by simp at h2,by cases h;simp]
 |x::xs,y::ys,k,h=>by
  dsimp only[j7]at h;split at h
  ·rename_i a b ha hb;cases h;obtain⟨e,h1,h2⟩:=kI hb;show#[λj=>match j with|0=>a|j+1=>e j,λj hj1 hj2=>?_,?_]
   ·cases j with
    |zero=>show ha
    |succ j=>show h1 j (by simpa using hj1) (by simpa using hj2)
   ·subst h2;revert KZ Nat.add_min_add_right Qn LD Uh Bool.and_assoc;congr 2;simp
  ·cases h
def BC (I:Inv X J Y H s)(so:StoreOk X.w X.K A H S):∀(d:Kf) {x y:W}{v:V}{k:KU},Rel X.K A H x v->Rel X.K A H y v->kH S d x y=ba k->k=true:=by
 intro d
 induction d with
 |zero=>
  intro x y v k rx ry e;cases rx with
  |non=>cases ry;cases e;rfl
  |bl=>cases ry;cases e;show Lv _
  |int=>cases ry;cases e;show Lv _
  |str=>cases ry;cases e;show Lv _
  |tup _ _=>cases e
  |ref _=>cases e
 |succ d ih=>
  have lists:∀{xs ys:J5 W}{vs:J5 V}{k:KU},RelL X.K A H xs vs->RelL X.K A H ys vs->j7 (kH S d) xs ys=ba k->k=true:=by
   intro xs
   induction xs with
   |nil=>
    intro ys vs k r1 r2 e;cases r1;cases r2;cases e;rfl
   |cons x xs ihx=>
    intro ys vs k r1 r2 e;cases r1 with
    |cons p1 q1=>
     cases r2 with
     |cons p2 q2=>
      dsimp only[j7]at e;split at e
      ·rename_i a b ha hb;cases e;rw[ih p1 p2 ha,ihx q1 q2 hb];rfl
      ·cases e
  intro x y v k rx ry e;cases rx with
  |non=>cases ry;cases e;rfl
  |bl=>cases ry;cases e;show Lv _
  |int=>cases ry;cases e;show Lv _
  |str=>cases ry;cases e;show Lv _
  |tup h1 r1=>
   cases ry with
   |tup h2 r2=>
    rw[I.tuple_inj h1 h2]at r1;show lists r1 r2 e
   |ref ea=>cases e
  |ref ea=>
   cases ry with
   |tup h2 r2=>cases e
   |ref eb=>
    dsimp only[kH]at e;split at e
    ·rename_i xs ys hx hy;have:=so.nd _ _ _ _ _ (kG hx) rfl (kG hy) rfl ea eb;subst this;rw[hx]at hy;cases hy
     rw[KF rfl]at e;obtain⟨vs,q,r⟩:=eT so hx ea;show lists r r e
    ·cases e
def aI (A:Ld):A.in1.units=A.units+1:=rfl
noncomputable abbrev FK (B:Ld)(s:Kc)(u v:J9)(k:KU):Prop:=SeqAt.RcAt B s u v k/\SeqAt.RcNeAt B s u v (!k)/\O1 B s u v k
open SeqAt in
def Dh (I:Inv X J Y H s)(so:StoreOk X.w X.K A H S):∀(d:Kf) (B:Ld) {x y:W}{u v:J9}{k:KU},B.units+d<cLine->RU X.K A H x u->RU X.K A H y v->kH S d x y=ba k->FK B s u v k:=by
 have non:∀{B:Ld}{y:W}{u v:J9}{k:KU}{d:Kf},RU X.K A H .non u->RU X.K A H y v->kH S d .non y=ba k->FK B s u v k:=by
  intro B y u v k d ⟨_,rx,ra⟩ ⟨_,ry,rb⟩ e;cases rx;cases(show u=Ls from ra)
  cases y with
  |non=>
   have e:ba (true)=ba k:=by cases d<;>show e
   cases e;cases ry;cases(show v=Ls from rb)
   show#[.none_none,.none_none,.same _]
  |_=>cases d<;>cases e
 have bl:∀{B:Ld}{b:KU}{y:W}{u v:J9}{k:KU}{d:Kf},RU X.K A H (.bl b) u->RU X.K A H y v->kH S d (.bl b) y=ba k->FK B s u v k:=by
  intro B b y u v k d ⟨_,rx,ra⟩ ⟨_,ry,rb⟩ e;cases rx;cases(show u=Oa _ from ra)
  cases y with
  |bl c=>
   have e:ba (b==c)=ba k:=by cases d<;>show e
   cases e;cases ry;cases(show v=Oa _ from rb)
   show#[.bool_bool _ _,.bool_bool _ _,.bool_bool _ _]
  |_=>cases d<;>cases e
 have int:∀{B:Ld}{b:Ks}{y:W}{u v:J9}{k:KU}{d:Kf},RU X.K A H (.int b) u->RU X.K A H y v->kH S d (.int b) y=ba k->FK B s u v k:=by
  intro B b y u v k d ⟨_,rx,ra⟩ ⟨_,ry,rb⟩ e;cases rx;obtain⟨t0,rfl⟩:∃t,u=Qd _ t:=ra;cases y with
  |int c=>
   have e:ba (b==c)=ba k:=by cases d<;>show e
   cases e;cases ry;obtain⟨t,rfl⟩:∃t,v=Qd _ t:=rb;show#[.int_int _ _ _ _,.int_int _ _ _ _,.int_int _ _ _ _]
  |_=>cases d<;>cases e
 have str:∀{B:Ld}{b:KJ}{y:W}{u v:J9}{k:KU}{d:Kf},RU X.K A H (.str b) u->RU X.K A H y v->kH S d (.str b) y=ba k->FK B s u v k:=by
  intro B b y u v k d ⟨_,rx,ra⟩ ⟨_,ry,rb⟩ e;cases rx;obtain⟨t0,rfl⟩:∃t,u=O0 _ t:=ra;cases y with
  |str c=>
   have e:ba (b==c)=ba k:=by cases d<;>show e
   cases e;cases ry;obtain⟨t,rfl⟩:∃t,v=O0 _ t:=rb;show#[.str_str _ _ _ _,.str_str _ _ _ _,.str_str _ _ _ _]
  |_=>cases d<;>cases e
 intro d
 induction d with
 |zero=>
  intro B x y u v k hu rx ry e;cases x with
  |non=>show non rx ry e
  |bl b=>show bl rx ry e
  |int b=>show int rx ry e
  |str b=>show str rx ry e
  |_=>cases e
 |succ d ih=>
  intro B x y u v k hu rx ry e;have hu0:B.units<cLine:=∅
  have hu1:B.in1.units+d<cLine:=by rw[aI];omega
  have rx0:=rx;have ry0:=ry;have fin:∀{a b:Kj},u=.ref a->v=.ref b->RcAt B s u v k->RcNeAt B s u v (!k)->FK B s u v k:=by
   intro a b ea eb h1 h2;subst ea eb;show#[h1,h2,?_]
   by_cases hab:a=b
   ·subst hab;obtain⟨v1,q1,z1⟩:=rx0;obtain⟨v2,q2,z2⟩:=ry0;have e12:v1=v2:=z1.inj z2;subst e12;have:=BC I so (d+1) q1 q2 e;subst this;show EqAt.same _
   ·show EqAt.of_refs hab h1
  cases x with
  |non=>show non rx ry e
  |bl b=>show bl rx ry e
  |int b=>show int rx ry e
  |str b=>show str rx ry e
  |tup xs=>
   cases y with
   |tup ys=>
    obtain⟨a,its,rfl,ht,hs,_,hi⟩:=xX I rx;obtain⟨b,its2,rfl,ht2,hs2,_,hi2⟩:=xX I ry;obtain⟨f,h1,h2⟩:=kI (show j7 (kH S d) xs ys=ba k from e)
    have he:∀j (h1:j<⇑its) (h2:j<⇑its2),EqAt B.in1 s its[j] its2[j] (f j):=λj j1 j2=>
     (ih B.in1 hu1 (hi j (hs▸j1) j1) (hi2 j (hs2▸j2) j2) (h1 j (hs▸j1) (hs2▸j2))).2.2
    rw[<- hs,<- hs2]at h2;subst h2;show fin rfl rfl (RcAt.tuples ht ht2 hu0 he) (RcNeAt.tuples ht ht2 hu0 he)
   |_=>cases e
  |ref i=>
   cases y with
   |ref j=>
    dsimp only[kH]at e;split at e
    ·rename_i ws ws2 hw hw2;obtain⟨a,its,rfl,_,hl,hs,_,hi⟩:=xY I so hw rx;obtain⟨b,its2,rfl,_,hl2,hs2,_,hi2⟩:=xY I so hw2 ry;split at e
     ·rename_i hlen;obtain⟨f,h1,h2⟩:=kI e;have he:∀j (h1:j<⇑its) (h2:j<⇑its2),EqAt B.in1 s its[j] its2[j] (f j):=λj j1 j2=>
       (ih B.in1 hu1 (hi j (hs▸j1) j1) (hi2 j (hs2▸j2) j2) (h1 j (hs▸j1) (hs2▸j2))).2.2
      have hk:k=(KH ⇑its).all f:=by rw[h2,hs,hlen];simp
      subst hk;show fin rfl rfl (RcAt.lists hl hl2 (by rw[hs,hs2,hlen]) hu0 he) (RcNeAt.lists hl hl2 (by rw[hs,hs2,hlen]) hu0 he)
     ·rename_i hlen;cases e;have hb:(⇑its != ⇑its2)=true:=by rw[hs,hs2];simpa using hlen
      show fin rfl rfl (RcAt.lists_lengths hl hl2 hb hu0) (RcNeAt.lists_lengths hl hl2 hb hu0)
    ·cases e
   |_=>cases e
end
abbrev LtAt (B:Ld)(s:Kc)(u v:J9)(k:KU):Prop:=
 ∀(prog:K9) (w:Ll) (E:J9->Kc->Prop) (Q:J9->Kc->Prop),Q (.bool k) s->wpAny (model prog w) B (richCompare .Lt u v) Q E s
inductive LexR (B:Ld)(s:Kc):J5 J9->J5 J9->KU->Prop
 |nn:LexR B s [] [] false
 |nc {v:J9}{vs:J5 J9}:LexR B s [] (v::vs) true
 |cn {v:J9}{vs:J5 J9}:LexR B s (v::vs) [] false
 |eq {u v:J9}{us vs:J5 J9}{k:KU}:O1 B s u v true->LexR B s us vs k->LexR B s (u::us) (v::vs) k
 |ne {u v:J9}{us vs:J5 J9}{k:KU}:O1 B s u v false->LtAt B s u v k->LexR B s (u::us) (v::vs) k
section
open PySem.SeqAt
open PySem.AutoSeq1 (wpAny_loadPart')
open PySem.MeetsSeq PySem.MeetsSeq2 PySem.MeetsSeq3
def nS (l b:Kj)(items items2:KL J9)(n n2:Kf)(dd dd2:Ke Kj)(sl sl2:KL (Ke J9))(k:KU) :
  Meets (NE.«tuple.__lt__» #[[.ref l,.ref b],[]])
   (λB R s=>s.heap.get? l=ba {cls:=.type "tuple",dict:=dd,data:=.seq items n,slots:=sl}/\s.heap.get? b=ba {cls:=.type "tuple",dict:=dd2,data:=.seq items2 n2,slots:=sl2}/\
    LexR B.in1 s items.toList items2.toList k/\R (.ok (.ret (.bool k))) s):=
 .of_wp λprog w A R s h=>by
  obtain⟨hp,g,d,tk,os⟩:=s;obtain⟨hl,hb,hx,h⟩:=h
  have f2:=TR;have z1:↥items.toList=⇑items:=by simp
  have z2:↥items2.toList=⇑items2:=by simp
  wp_walk using Pc hl,Pc hb,Om _ (λaQ b s'=>b.1=gV/\s'=#[hp,g,d,tk,os]/\∃(vs ws:J5 J9),aQ=vs.zip ws/\
   LexR A.in1 #[hp,g,d,tk,os] vs ws k/\↥vs+⇑items2=↥ws+⇑items) _
  case turn=>
   rintro⟨y,x⟩ aQ b s' ⟨hb',rfl,vs,ws,hz,hlx,hlen⟩;cases hlx with
   |nn=>rw[RY]at hz;cases hz
   |nc=>rw[RY]at hz;cases hz
   |cn=>rw[List.zip_nil_right]at hz;cases hz
   |eq he hr=>
    rw[Ng]at hz;injection hz with hyx hrest
    injection hyx with hy hx
    subst hy hx;simp only[KZ]at hlen;show J6 (he prog w _ _ ?_)
    wp_walk
    show#[rfl,rfl,_,_,hrest,hr,∅]
   |ne he hr=>
    rw[Ng]at hz;injection hz with hyx hrest
    injection hyx with hy hx
    subst hy hx;show J6 (he prog w _ _ ?_);have hri:=hr prog w
    wp_walk using hri
    show#[_,rfl,by simpa using h]
  case fin=>
   rintro⟨b1,b2⟩ s' ⟨hb',rfl,vs,ws,hz,hlx,hlen⟩;simp only at hb';subst hb';have hv:k=decide (⇑items<⇑items2):=by
    cases hlx with
    |nn=>simp only[MO]at hlen;show(Le ∅).symm
    |nc=>simp only[MO,KZ]at hlen;show(LZ ∅).symm
    |cn=>simp only[MO,KZ]at hlen;show(Le ∅).symm
    |eq _ _=>rw[Ng]at hz;cases hz
    |ne _ _=>rw[Ng]at hz;cases hz
   subst hv
   wp_walk
   show#[_,rfl,by simpa [Sc]using h]
  case h=>
   show#[rfl,rfl,items.toList,items2.toList,rfl,hx,∅]
end
def LtAt.tuples {B:Ld}{s:Kc}{l b:Kj}{items items2:KL J9}{k:KU}(hl:RJ s.heap l items)(hb:RJ s.heap b items2)(hu:B.units<cLine)(hx:LexR B.in1 s items.toList items2.toList k) :
  LtAt B s (.ref l) (.ref b) k:=λprog w E Q h=>by
 obtain⟨⟨cls,dd,data,sl⟩,ho,hc,n,hd⟩:=id hl;obtain⟨⟨cls2,dd2,data2,sl2⟩,ho2,hc2,n2,hd2⟩:=id hb;simp only at hc hd hc2 hd2;subst hc hd hc2 hd2;show richCompare_meets_room (op:=.Lt) #[_,ho,rfl] #[_,ho2,rfl] PySem.F.slot_tuple_lt PySem.F.entry_tuple_lt (PySem.F.args_tuple_lt_2 _ _) (nS l b items items2 n n2 dd dd2 sl sl2 k)
  #[ho,ho2,hx,show Oa k≠Value.notImplemented/\Q (.bool k) s from#[(λx=>nomatch x),h]] hu
inductive COp where|eq|ne|lt|le|gt|ge|isin|notin|is|isnot
 deriving NQ
abbrev COp.py:COp->Ub
 |.eq=>.Eq|.ne=>.NotEq|.lt=>.Lt|.le=>.LtE|.gt=>.Gt|.ge=>.GtE|.isin=>.In|.notin=>.NotIn|.is=>.Is|.isnot=>.IsNot
abbrev bY:W->KU
 |.non=>true
 |.bl _=>true
 |.int _=>true
 |.str _=>true
 |_=>false
abbrev AN:W->W->KU
 |.non,.non=>true
 |.bl a,.bl b=>a==b
 |.bl a,.int b=>b2 a==b
 |.int a,.bl b=>a==b2 b
 |.int a,.int b=>a==b
 |.str a,.str b=>a==b
 |_,_=>false
abbrev fm (S:aa):W->Ke (J5 W)
 |.tup xs=>ba xs
 |.ref i=>gr S i
 |_=>gV
noncomputable abbrev iu:Kf:=20
abbrev xp (x y:W)(S:aa):Ke KU:=match fm S y with
 |some ys=>if bY x&&ys.all bY then ba (ys.any λz=>AN z x)else gV
 |none=>gV
abbrev xZ:W->KU
 |.non=>true
 |_=>false
abbrev x4 (f:Ks->Ks->KU):W->W->Ke KU
 |.int i,.int j=>ba (f i j)
 |_,_=>gV
abbrev FL:COp->W->W->aa->Ke KU
 |.eq,x,y,S=>kH S iu x y
 |.ne,x,y,S=>(kH S iu x y).map (!·)
 |.lt,x,y,_=>x4 (λi j=>decide (i<j)) x y
 |.le,x,y,_=>x4 (λi j=>decide (i<=j)) x y
 |.gt,x,y,_=>x4 (λi j=>decide (j<i)) x y
 |.ge,x,y,_=>x4 (λi j=>decide (j<=i)) x y
 |.isin,x,y,S=>xp x y S
 |.notin,x,y,S=>(xp x y S).map (!·)
 |.is,x,y,_=>if xZ y then ba (xZ x)else gV
 |.isnot,x,y,_=>if xZ y then ba (!xZ x)else gV
abbrev iN (o:COp)(x y:W)(S:aa):Ke (W×aa):=(FL o x y S).map λk=>(.bl k,S)
section
variable{X:Cx}
def tU {J:J5 (Kj×Mf)}{Y:L2.St}{H:Hp}{s:Kc}{A:J5 Kj}{S:aa}{k:KU}(I:Inv X J Y H s)(so:StoreOk X.w X.K A H S):PostE X J Y A H S (.bl k) (.bool k) s:=
 #[.bl k,H,A,I,rfl,.refl,so,.bl]
def BE {o:COp}{x y w:W}{S S':aa}(h:iN o x y S=ba (w,S')):∃k,FL o x y S=ba k/\w=.bl k/\S'=S:=by
 unfold iN at h;rw[Kb]at h;obtain⟨k,h1,h2⟩:=h;cases h2;show#[k,h1,rfl,rfl]
def pE {A:J5 Kj}{H:Hp}{w:W}{v:V}(r:Rel X.K A H w v)(f:bY w=true):ic v=true:=by
 cases r<;>first|rfl|cases f
def mD {A:J5 Kj}{H:Hp}:∀{ws:J5 W}{vs:J5 V},RelL X.K A H ws vs->ws.all bY=true->vs.all ic=true
 |_,_,.nil,_=>rfl
 |_,_,.cons r t,f=>by
  rw[LD,Kg]at f ⊢;show#[pE r f.1,mD t f.2]
def BF {A:J5 Kj}{H:Hp}{x y:W}{u v:V}(r:Rel X.K A H x u)(q:Rel X.K A H y v)(fx:bY x=true)(fy:bY y=true):Bm u v=AN x y:=by
 cases r<;>cases q<;>first|rfl|cases fx|cases fy
def tV {A:J5 Kj}{H:Hp}{y:W}{v:V}(q:Rel X.K A H y v)(fy:bY y=true):∀{ws:J5 W}{vs:J5 V},RelL X.K A H ws vs->ws.all bY=true->Ij v vs=ws.any λz=>AN z y
 |_,_,.nil,_=>rfl
 |_,_,.cons r t,f=>by
  rw[LD,Kg]at f;have:=tV q fy t f.2;unfold Ij at this ⊢;rw[M9,M9,BF r q f.1 fy,this]
def nT {J:J5 (Kj×Mf)}{Y:L2.St}{H:Hp}{s:Kc}{A:J5 Kj}{S:aa}{y:W}{b:V}{ys:J5 W}(so:StoreOk X.w X.K A H S)(r:Rel X.K A H y b)(e:fm S y=ba ys):∃p vs,b=.ref p/\(SqL X.K H p vs\/SqT X.K H p vs)/\RelL X.K A H ys vs:=by
 cases r with
 |tup h1 r1=>cases e;show#[_,_,rfl,.inr h1,r1]
 |ref ea=>
  obtain⟨vs,h1,r1⟩:=bh so e ea;show#[_,vs,rfl,.inl h1,r1]
 |_=>cases e
def x5 {neg:KU}{o:Ub}(ho:OpR X (compareOp o) (IW X.K neg)){J:J5 (Kj×Mf)}{Y:L2.St}{H:Hp}{s:Kc}{A:J5 Kj}{S:aa}{x y:W}{a b:V}{u v:J9}{ys:J5 W}(I:Inv X J Y H s)(so:StoreOk X.w X.K A H S)
  (rx:Rel X.K A H x a) (ru:RelV a u) (ry:Rel X.K A H y b) (rv:RelV b v) (e:fm S y=ba ys) (f:(bY x&&ys.all bY)=true) :
  wpAny (model X.prog X.w) X.A (compareOp o u v) (PostE X J Y A H S (.bl (if neg then !ys.any λz=>AN z x else ys.any λz=>AN z x))) X.xe s:=by
 obtain⟨p,vs,rfl,hq,rl⟩:=nT (J:=J) (Y:=Y) (s:=s) so ry e;rw[Kg]at f;show OpR.go ho I ru rv #[p,vs,rfl,hq,pE rx f.1,mD rl f.2,?_];rw[tV rx f.1 rl f.2];show .here so .bl
def BG (hu:X.A.units+iu<cLine)(o:COp):LOp X (compareOp o.py) (iN o):=by
 intro J s Y H A S x y a b u v w S' I so rx ru ry rv e;obtain⟨k,ek,e1,e2⟩:=BE e;subst e1;subst e2;clear e
 rename aa=>S
 have twoI:∀{f:Ks->Ks->KU},x4 f x y=ba k->∃i j,x=.int i/\y=.int j/\k=f i j:=by
  intro f h;cases x with
  |int i=>cases y with
   |int j=>cases h;show#[i,j,rfl,rfl,rfl]
   |_=>cases h
  |_=>cases h
 have hu1:X.A.units+1<cLine:=by have:iu=20:=rfl;omega
 have ofSq:∀{c:KU},xp x y S=ba c->(∃ys,fm S y=ba ys/\(bY x&&ys.all bY)=true/\c=ys.any λz=>AN z x):=by
  intro c h;unfold xp at h;split at h
  ·split at h
   ·cases h;show#[_,by assumption,by assumption,rfl]
   ·cases h
  ·cases h
 have ofN:∀{c:KU},(if xZ y then ba c else gV)=ba k->y=.non/\k=c:=by
  intro c h;cases y with
  |non=>cases h;show#[rfl,rfl]
  |_=>cases h
 cases o with
 |eq=>show(Dh I so iu X.A hu #[a,rx,ru] #[b,ry,rv] ek).1 _ _ _ _ (tU I so)
 |ne=>
  obtain⟨k',h1,rfl⟩:=Kb.mp ek;show(Dh I so iu X.A hu #[a,rx,ru] #[b,ry,rv] h1).2.1 _ _ _ _ (tU I so)
 |lt=>
  obtain⟨i,j,rfl,rfl,rfl⟩:=twoI ek;cases rx;cases ry
  show OpR.go Gj I ru rv #[_,_,rfl,rfl,.here so .bl]
 |le=>
  obtain⟨i,j,rfl,rfl,rfl⟩:=twoI ek;cases rx;cases ry
  show OpR.go Gk I ru rv #[_,_,rfl,rfl,.here so .bl]
 |gt=>
  obtain⟨i,j,rfl,rfl,rfl⟩:=twoI ek;cases rx;cases ry
  show OpR.go Gm I ru rv #[_,_,rfl,rfl,.here so .bl]
 |ge=>
  obtain⟨i,j,rfl,rfl,rfl⟩:=twoI ek;cases rx;cases ry
  show OpR.go Gn I ru rv #[_,_,rfl,rfl,.here so .bl]
 |isin=>
  obtain⟨ys,h1,h2,rfl⟩:=ofSq ek;show x5 (neg:=false) vF I so rx ru ry rv h1 h2
 |notin=>
  obtain⟨c,h,rfl⟩:=Kb.mp ek;obtain⟨ys,h1,h2,rfl⟩:=ofSq h;show x5 (neg:=true) nP I so rx ru ry rv h1 h2
 |is=>
  obtain⟨rfl,rfl⟩:=ofN ek;cases ry;show OpR.go Ea I ru rv #[rfl,?_];cases rx<;>show .here so .bl
 |isnot=>
  obtain⟨rfl,rfl⟩:=ofN ek;cases ry;show OpR.go Bb I ru rv #[rfl,?_];cases rx<;>show .here so .bl
end
end Mi
namespace HT
open PySem PyProof.Rows
section
variable{prog:K9}{w:Ll}{A:Ld}{E:J9->Kc->Prop}{s:Kc}
def gY {t sl:Kj}{items:KL J9}{vl vu:J9}{lo hi:Ke Ks}{Q:J9->Kc->Prop}(ht:RJ s.heap t items)(hs:s.heap.IsSliceOf sl vl vu .none)(pl:Ps vl lo)(pu:Ps vu hi)
  (hw:b6 ⇑items 0 lo=0/\b6 ⇑items ⇑items hi=⇑items) (h:Q (.ref t) s):wpAny (model prog w) A (getItem (.ref t) (.ref sl)) Q E s:=by
 obtain⟨os,hos,hcs,hds⟩:=id hs;have hTs:s.TypeIs (.ref sl) "slice":=#[os,hos,hcs];unfold getItem
 try with_reducible show LK ?_
 first|refine J6 (Kd ?_)|skip
 show J6 (RS ht.typeIs #v[] ?_)
 show J6 (LA (name:=Mx "__getitem__") ht.typeIs MP
  (LG MP ht.typeIs Rg ?_ (Rx _ _)))
 change wpAny _ _ (Ob (.ref t) >>= _) _ _ s;show J6 (TJ ht ?_);show J6 (NT hTs ?_);rw[KF #v[]]
 show J6 (ff hs pl pu ?_);have hyes:((((b6 ⇑items 0 lo:Kf):Ks)==0&&(1:Ks)==1&&(b6 ⇑items ⇑items hi-b6 ⇑items 0 lo)==⇑items)=true):=by
  rw[hw.1,hw.2];simp
 change wpAny _ _ (if (((b6 ⇑items 0 lo:Kf):Ks)==0&&(1:Ks)==1&&(b6 ⇑items ⇑items hi-b6 ⇑items 0 lo)==⇑items)=true then _ else _) _ _ s
 rw[KF hyes];unfold Tl;show J6 (J6 (NT ht.typeIs (Kd ?_)));rw[KF #v[]]
 show J6 (Pq (J6 (Kd (Kd #[_,rfl,Kd h]))))
end
end HT
namespace Mi
open PySem PySem.Spec PyProof.Rows L2
abbrev vM (x y:W)(S:aa):Ke (W×aa):=match x,y with
 |.tup xs,.int i=>(pr xs i).map λw=>(w,S)
 |.ref r,.int i=>match gr S r with
  |some xs=>(pr xs i).map λw=>(w,S)
  |none=>gV
 |.str x,.int i=>if ↥x<=sizeLine then(pr x.cps.toList i).map λc=>(.str #[[c].toArray],S)else gV
 |_,_=>gV
abbrev jp (xs:J5 W)(lo hi:Ke Ks):J5 W:=(xs.drop (HT.b6 ↥xs 0 lo)).take (HT.b6 ↥xs ↥xs hi-HT.b6 ↥xs 0 lo)
abbrev mE (x:W)(lo hi:Ke Ks)(S:aa):Ke (W×aa):=match x with
 |.tup xs=>ba (.tup (jp xs lo hi),S)
 |.ref r=>match gr S r with
  |some xs=>ba (.ref ↥S,S++[.lst (jp xs lo hi)])
  |none=>gV
 |_=>gV
abbrev vN (o i v:W)(S:aa):Ke aa:=match o,i with
 |.ref r,.int k=>match pc S r with
  |some xs=>match tL ↥xs k with
   |some j=>ba (S.set r (.lst (xs.set j v)))
   |none=>gV
  |none=>gV
 |_,_=>gV
section
variable (X:Cx)
abbrev LIx (g:W->W->aa->Ke (W×aa)):Prop:=
 ∀(value slice:KP) (J:J5 (Kj×Mf)) (s:Kc) (Y:L2.St) (H:Hp) (A:J5 Kj) (S:aa) (x y:W) (a b:V) (u v:J9) (w:W) (S':aa),Inv X J Y H s->StoreOk X.w X.K A H S->
  Rel X.K A H x a->RelV a u->Rel X.K A H y b->RelV b v->g x y S=ba (w,S')->subscripted slice false u v=operate [u,v] (getItem u v)->wpAny (model X.prog X.w) X.A (subscriptTail value slice u v) (PostE X J Y A H S' w) X.xe s
abbrev LSl (g:W->Ke Ks->Ke Ks->aa->Ke (W×aa)):Prop:=
 ∀(J:J5 (Kj×Mf)) (s:Kc) (Y:L2.St) (H:Hp) (A:J5 Kj) (S:aa) (x:W) (a:V) (v vl vu:J9) (lo hi:Ke Ks) (sl:Kj) (w:W) (S':aa),Inv X J Y H s->StoreOk X.w X.K A H S->
  Rel X.K A H x a->RelV a v->s.heap.IsSliceOf sl vl vu .none->Ps vl lo->Ps vu hi->g x lo hi S=ba (w,S')->
  ∃T id,typeLookup (.type T) "__getitem__" = pure (ba (.builtin id))/\s.TypeIs v T/\wpAny (model X.prog X.w) X.A (getItem v (.ref sl)) (PostE X J Y A H S' w) X.xe s
abbrev LSet (g:W->W->W->aa->Ke aa):Prop:=
 ∀(J:J5 (Kj×Mf)) (s:Kc) (Y:L2.St) (H:Hp) (A:J5 Kj) (S:aa) (o i x:W) (ao ai ax:V) (uo ui ux:J9) (S':aa),Inv X J Y H s->StoreOk X.w X.K A H S->
  Rel X.K A H o ao->RelV ao uo->Rel X.K A H i ai->RelV ai ui->Rel X.K A H x ax->RelV ax ux->g o i x S=ba S'->
  wpAny (model X.prog X.w) X.A (setItem uo ui ux) (λ_ s'=>∃H' A',Inv X J Y H' s'/\Ext X.K A H A' H'/\StoreOk X.w X.K A' H' S') X.xe s
abbrev LCall (f:J9)(g:J5 W->aa->Ke (W×aa)):Prop:=
 ∀(J:J5 (Kj×Mf)) (s:Kc) (Y:L2.St) (H:Hp) (A:J5 Kj) (S:aa) (xs:J5 W) (vs:J5 V) (us:J5 J9) (w:W) (S':aa),Inv X J Y H s->StoreOk X.w X.K A H S->
  RelL X.K A H xs vs->Vals vs us->g xs S=ba (w,S')->wpAny (model X.prog X.w) X.A (call f us) (PostE X J Y A H S' w) X.xe s
abbrev mF (id:L1)(g:W->J5 W->aa->Ke (W×aa)):Prop:=
 ∀(J:J5 (Kj×Mf)) (s:Kc) (Y:L2.St) (H:Hp) (A:J5 Kj) (S:aa) (x:W) (a:V) (u:J9) (xs:J5 W) (vs:J5 V) (us:J5 J9) (w:W) (S':aa),Inv X J Y H s->StoreOk X.w X.K A H S->
  Rel X.K A H x a->RelV a u->RelL X.K A H xs vs->Vals vs us->g x xs S=ba (w,S')->wpAny (model X.prog X.w) X.A (call (.builtin id) (u::us)) (PostE X J Y A H S' w) X.xe s
end
section
variable{X:Cx}{J:J5 (Kj×Mf)}{Y:L2.St}{H:Hp}{s:Kc}{A:J5 Kj}{S:aa}
def IxR.go {r:R2}(h:IxR X r){S':aa}{w:W}{a b:V}{u v:J9}{value slice:KP}(I:Inv X J Y H s)(ru:RelV a u)(rv:RelV b v)(q:r a b H (EndV X.w X.K A H S' w))(hs:subscripted slice false u v=operate [u,v] (getItem u v)) :
  wpAny (model X.prog X.w) X.A (subscriptTail value slice u v) (PostE X J Y A H S' w) X.xe s:=bu (h value slice J s Y H a b u v _ I ru rv q hs) λ_ _=>EP.post
def CallR.go {f:J9}{r:J5 V->Hp->VK->Prop}(h:CallR X f r){S':aa}{w:W}{vs:J5 V}{us:J5 J9}(I:Inv X J Y H s)(rv:Vals vs us)(q:r vs H (EndV X.w X.K A H S' w)) :
  wpAny (model X.prog X.w) X.A (call f us) (PostE X J Y A H S' w) X.xe s:=bu (h J s Y H vs us _ I rv q) λ_ _=>EP.post
def MtR.go {id:L1}{r:V->J5 V->Hp->VK->Prop}(h:MtR X id r){S':aa}{w:W}{a:V}{u:J9}{vs:J5 V}{us:J5 J9}(I:Inv X J Y H s)(ru:RelV a u)(rv:Vals vs us)(q:r a vs H (EndV X.w X.K A H S' w)) :
  wpAny (model X.prog X.w) X.A (call (.builtin id) (u::us)) (PostE X J Y A H S' w) X.xe s:=bu (h J s Y H a vs u us _ I ru rv q) λ_ _=>EP.post
def tW {xs:J5 W}{vs:J5 V}{i:Ks}{w:W}(r:RelL X.K A H xs vs)(e:pr xs i=ba w):∃v,pr vs i=ba v/\Rel X.K A H w v:=by
 unfold pr at e ⊢;rw[↥r]at e;cases q:tL ↥vs i with
 |none=>rw[q]at e;cases e
 |some j=>
  rw[q]at e;obtain⟨v,h1,h2⟩:=r.get (show xs[j]?=ba w from e)
  show#[v,h1,h2]
def JY (hu:X.A.units+10<cLine):LIx X vM:=by
 intro value slice J s Y H A S x y a b u v w S' I so rx ru ry rv e hs;cases rx with
 |tup h1 r1=>cases ry with
  |int=>
   (dsimp only[vM]at e;simp only[Kb]at e)
   obtain⟨w',e1,e2⟩:=e;cases e2;obtain⟨z,h2,r2⟩:=tW r1 e1;show IxR.go Eg I ru rv #[_,_,_,_,rfl,rfl,h1,h2,.here so r2] hs
  |_=>cases e
 |ref ea=>cases ry with
  |int=>
   dsimp only[vM]at e;split at e
   ·rename_i ws hw;rw[Kb]at e;obtain⟨w',e1,e2⟩:=e;cases e2;obtain⟨vs,h1,r1⟩:=bh so hw ea;obtain⟨z,h2,r2⟩:=tW r1 e1;show IxR.go Bk I ru rv #[_,_,_,_,rfl,rfl,h1,h2,.here so r2] hs
   ·cases e
  |_=>cases e
 |str=>cases ry with
  |int=>
   dsimp only[vM]at e;split at e
   ·rw[Kb]at e;obtain⟨c,e1,e2⟩:=e;cases e2;show IxR.go Eh I ru rv #[_,_,_,rfl,rfl,by assumption,e1,.here so .str] hs
   ·cases e
  |_=>cases e
 |_=>cases ry<;>cases e
def nU {xs:J5 W}{vs:J5 V}{lo hi:Ke Ks}(r:RelL X.K A H xs vs):RelL X.K A H (jp xs lo hi) (kF vs lo hi):=by
 unfold jp kF;rw[↥r];show(r.drop _).take _
def BH:Gv X (λx lo hi H Q=>∃a xs,x=.ref a/\SqT X.K H a xs/\(kF xs lo hi=xs->Q (.ref a) H)/\∀p,H p=gV->Q (.ref p) (bx H p (.tup (kF xs lo hi)))):=by
 intro J s Y H x v vl vu lo hi sl Q I rx hs pl pu h;obtain⟨a,xs,rfl,hx,q0,q⟩:=h
 by_cases hw:(HT.b6 ↥xs 0 lo=0/\HT.b6 ↥xs ↥xs hi=↥xs)
 ·cases rx;obtain⟨its,r,ht,hz⟩:=I.tuple hx;have hlen:⇑its.toArray=↥xs:=by rw[Ky];show r.length.symm
  show#["tuple",_,PyProof.Rows.slot_tuple_getitem.lookup,ht.typeIs,?_];show HT.gY ht hs pl pu (by rw[hlen];show hw) #[.ref a,H,I,rfl,q0 ?_]
  unfold kF;rw[hw.1,hw.2];simp
 ·show Ef J s Y H (.ref a) v vl vu lo hi sl Q I rx hs pl pu #[a,xs,rfl,hx,hw,q]
def JZ:LSl X mE:=by
 intro J s Y H A S x a v vl vu lo hi sl w S' I so rx rv hs pl pu e;cases rx with
 |tup h1 r1=>
  cases e;obtain⟨T,id,z1,z2,z3⟩:=BH J s Y H _ v vl vu lo hi sl (EndV X.w X.K A H S (.tup (jp _ lo hi))) I rv hs pl pu #[_,_,rfl,h1,λq=>.here so (.tup h1 (by have:=nU (lo:=lo) (hi:=hi) r1;rw[q]at this;show this)),λp hp=>.tup so (nU r1) hp]
  show#[T,id,z1,z2,bu z3 λ_ _=>EP.post]
 |ref ea=>
  dsimp only[mE]at e;split at e
  ·rename_i ws hw;cases e;obtain⟨vs,h1,r1⟩:=bh so hw ea;obtain⟨T,id,z1,z2,z3⟩:=Bl J s Y H _ v vl vu lo hi sl (EndV X.w X.K A H (S++[.lst (jp ws lo hi)]) (.ref ↥S)) I rv hs pl pu #[_,_,rfl,h1,λp hp=>.lst so (nU r1) hp]
   show#[T,id,z1,z2,bu z3 λ_ _=>EP.post]
  ·cases e
 |_=>cases e
def lset (hu:X.A.units+10<cLine):LSet X vN:=by
 intro J s Y H A S o i x ao ai ax uo ui ux S' I so ro ruo ri rui rx rux e;cases ro with
 |ref ea=>cases ri with
  |int=>
   dsimp only[vN]at e;split at e
   ·rename_i ws hw;split at e
    ·rename_i j hj;cases e;obtain⟨vs,h1,r1⟩:=eT so hw ea;rw[↥r1]at hj;obtain⟨so',ex⟩:=so.write (kG hw) ea (r1.set rx j);show bu (xL J s Y H _ _ _ uo ui ux (λH'=>H'=bx H _ (.lst (vs.set j ax))) I ruo rui rux #[_,_,_,_,rfl,rfl,h1,hj,rfl]) λ_ s' #[H',I',e']=>#[_,A,e'▸I',ex,so']
    ·cases e
   ·cases e
  |_=>cases e
 |_=>cases ri<;>cases e
abbrev rZ (xs:J5 W)(S:aa):Ke (W×aa):=match xs with
 |[.tup ys]=>ba (.int ↥ys,S)
 |[.str y]=>if ↥y<=sizeLine then ba (.int ↥y,S)else gV
 |[.ref i]=>(gr S i).map λys=>(.int ↥ys,S)
 |_=>gV
def vO:LCall X (.builtin "len") rZ:=by
 intro J s Y H A S xs vs us w S' I so rl rv e;cases rl with
 |nil=>cases e
 |cons r t=>
  cases t with
  |cons _ _=>cases r<;>cases e
  |nil=>
   cases r with
   |tup h1 r1=>cases e;rw[↥r1];show CallR.go kC I rv #[_,_,rfl,.inr #[_,h1,rfl],.here so .int]
   |str=>
    dsimp only[rZ]at e;split at e
    ·cases e;show CallR.go kC I rv #[_,_,rfl,#[by assumption,rfl],.here so .int]
    ·cases e
   |ref ea=>
    (dsimp only[rZ]at e;simp only[Kb]at e)
    obtain⟨ws,hw,e2⟩:=e;cases e2;obtain⟨vs',h1,r1⟩:=bh so hw ea;rw[↥r1];show CallR.go kC I rv #[_,_,rfl,.inl #[_,h1,rfl],.here so .int]
   |_=>cases e
abbrev iO (xs:J5 W)(S:aa):Ke (W×aa):=match xs with
 |[x]=>match fm S x with
  |some ys=>ba (.ref ↥S,S++[.lst ys])
  |none=>gV
 |_=>gV
def iw:LCall X (.type "list") iO:=by
 intro J s Y H A S xs vs us w S' I so rl rv e;cases rl with
 |nil=>cases e
 |cons r t=>
  cases t with
  |cons _ _=>cases e
  |nil=>
   dsimp only[iO]at e;split at e
   ·rename_i ys hy;cases e;obtain⟨p,vs',rfl,hq,r1⟩:=nT (J:=J) (Y:=Y) (s:=s) so r hy;show CallR.go nQ I rv #[p,vs',rfl,hq,λl hl=>.lst so r1 hl]
   ·cases e
abbrev kJ (xs:J5 W)(S:aa):Ke (W×aa):=match xs with
 |[.tup ys]=>ba (.tup ys,S)
 |[.ref i]=>match gr S i with
  |some ys=>ba (.tup ys,S)
  |none=>gV
 |_=>gV
def jQ:LCall X (.type "tuple") kJ:=by
 intro J s Y H A S xs vs us w S' I so rl rv e;cases rl with
 |nil=>cases e
 |cons r t=>
  cases t with
  |cons _ _=>cases r<;>cases e
  |nil=>
   cases r with
   |tup h1 r1=>cases e;show CallR.go ie I rv #[_,_,rfl,.inr #[h1,.here so (.tup h1 r1)]]
   |ref ea=>
    dsimp only[kJ]at e;split at e
    ·rename_i ys hy;cases e;obtain⟨vs',h1,r1⟩:=bh so hy ea;show CallR.go ie I rv #[_,_,rfl,.inl #[h1,λl hl=>.tup so r1 hl]]
    ·cases e
   |_=>cases e
abbrev GB (xs:J5 W)(S:aa):Ke (W×aa):=match xs with
 |[.int i]=>ba (.int i,S)
 |[.bl b]=>ba (.int (if b then 1 else 0),S)
 |_=>gV
def vP:LCall X (.type "int") GB:=by
 intro J s Y H A S xs vs us w S' I so rl rv e;cases rl with
 |nil=>cases e
 |cons r t=>
  cases t with
  |cons _ _=>cases r<;>cases e
  |nil=>
   cases r with
   |int=>cases e;show CallR.go mo I rv (.inl #[_,rfl,.here so .int])
   |bl=>cases e;show CallR.go mo I rv (.inr #[_,rfl,.here so .int])
   |_=>cases e
abbrev iP (x:W)(xs:J5 W)(S:aa):Ke (W×aa):=match x,xs with
 |.ref i,[y]=>match pc S i with
  |some ys=>if ↥ys<sizeLine then ba (.non,S.set i (.lst (ys++[y])))else gV
  |none=>gV
 |_,_=>gV
def jq {i:Kf}{p:Kj}{ws ws0:J5 W}{us:J5 V}(so:StoreOk X.w X.K A H S)(e:pc S i=ba ws0)(ea:A[i]?=ba p)(r:RelL X.K A H ws us){w:W}{v:V}(rw':Rel X.K A H w v) :
  EndV X.w X.K A H (S.set i (.lst ws)) w v (bx H p (.lst us)):=by
 obtain⟨so',ex⟩:=so.write (kG e) ea r;show#[A,ex,so',rw'.mono ex]
def nV:mF X "list.append" iP:=by
 intro J s Y H A S x a u xs vs us w S' I so rx ru rl rv e;cases rx with
 |ref ea=>
  cases rl with
  |nil=>cases e
  |cons r t=>
   cases t with
   |cons _ _=>cases e
   |nil=>
    dsimp only[iP]at e;split at e
    ·rename_i ys hy;split at e
     ·rename_i hl;cases e;obtain⟨vs',h1,r1⟩:=eT so hy ea;rw[↥r1]at hl;show MtR.go vG I ru rv #[_,_,_,rfl,rfl,h1,hl,jq so hy ea (r1.append #v[r]) .non]
     ·cases e
    ·cases e
 |_=>cases e
abbrev iQ (x:W)(xs:J5 W)(S:aa):Ke (W×aa):=match x,xs with
 |.ref i,[.ref j]=>match pc S i,pc S j with
  |some ys,ba zs=>if ↥ys+↥zs<=sizeLine then ba (.non,S.set i (.lst (ys++zs)))else gV
  |_,_=>gV
 |_,_=>gV
def nW:mF X "list.extend" iQ:=by
 intro J s Y H A S x a u xs vs us w S' I so rx ru rl rv e;cases rx with
 |ref ea=>
  cases rl with
  |nil=>cases e
  |cons r t=>
   cases t with
   |cons _ _=>cases r<;>cases e
   |nil=>
    cases r with
    |ref eb=>
     dsimp only[iQ]at e;split at e
     ·rename_i ys zs hy hz;split at e
      ·rename_i hl;cases e;obtain⟨vs',h1,r1⟩:=eT so hy ea;obtain⟨vs2,h2,r2⟩:=eT so hz eb;rw[↥r1,↥r2]at hl;show MtR.go vH I ru rv #[_,_,_,_,rfl,rfl,h1,h2,hl,jq so hy ea (r1.append r2) .non]
      ·cases e
     ·cases e
    |_=>cases e
 |_=>cases e
abbrev Em (x:W)(xs:J5 W)(S:aa):Ke (W×aa):=match x,xs with
 |.ref i,[.int k]=>match pc S i with
  |some ys=>if -(2^63)<=k/\k<2^63 then match seqIndex? k ↥ys with
   |some j=>match ys[j]? with
    |some y=>ba (y,S.set i (.lst (ys.eraseIdx j)))
    |none=>gV
   |none=>gV
   else gV
  |none=>gV
 |_,_=>gV
def vQ:mF X "list.pop" Em:=by
 intro J s Y H A S x a u xs vs us w S' I so rx ru rl rv e;cases rx with
 |ref ea=>
  cases rl with
  |nil=>cases e
  |cons r t=>
   cases t with
   |cons _ _=>cases r<;>cases e
   |nil=>
    cases r with
    |int=>
     dsimp only[Em]at e;split at e
     ·rename_i ys hy;split at e
      ·rename_i hk;split at e
       ·rename_i j hj;split at e
        ·rename_i y hyj;cases e;obtain⟨vs',h1,r1⟩:=eT so hy ea;obtain⟨v',h2,r2⟩:=r1.get hyj;rw[↥r1]at hj;show MtR.go xO I ru rv #[_,_,_,_,_,rfl,rfl,h1,hk.1,hk.2,hj,h2,jq so hy ea (r1.eraseIdx j) r2]
        ·cases e
       ·cases e
      ·cases e
     ·cases e
    |_=>cases e
 |_=>cases e
abbrev jr:J5 W->Ke (J5 KJ)
 |[]=>ba []
 |.str x::xs=>(jr xs).map (x :: ·)
 |_::_=>gV
abbrev tX (x:W)(xs:J5 W)(S:aa):Ke (W×aa):=match x,xs with
 |.str x,[y]=>match fm S y with
  |some ys=>match jr ys with
   |some zs=>if (zs.map (·.length)).sum+↥zs*↥x<=16777216 then ba (.str (Uy x zs),S)else gV
   |none=>gV
  |none=>gV
 |_,_=>gV
def kK:∀{ws:J5 W}{vs:J5 V}{us:J5 J9}{zs:J5 KJ},RelL X.K A H ws vs->Vals vs us->jr ws=ba zs->StrsAre us zs
 |_,_,_,zs,.nil,.nil,e=>by cases e;show .nil
 |_,_,_,zs,.cons r t,.cons q p,e=>by
  cases r with
  |str=>
   (dsimp only[jr]at e;simp only[Kb]at e)
   obtain⟨z,e1,e2⟩:=e;subst e2;obtain⟨tk,rfl⟩:∃t,_=O0 _ t:=q;show .cons _ tk (kK t p e1)
  |_=>cases e
def r0:mF X "str.join" tX:=by
 intro J s Y H A S x a u xs vs us w S' I so rx ru rl rv e;cases rx with
 |str=>
  cases rl with
  |nil=>cases e
  |cons r t=>
   cases t with
   |cons _ _=>cases e
   |nil=>
    simp only[tX]at e;split at e
    ·rename_i ys hy;split at e
     ·rename_i zs hz;split at e
      ·rename_i hl;cases e;obtain⟨p,vs',rfl,hq,r1⟩:=nT (J:=J) (Y:=Y) (s:=s) so r hy;obtain⟨t0,rfl⟩:∃t,u=O0 _ t:=ru;obtain⟨u1,rfl,ru1⟩:=mj rv;have ru1':u1=Lc p:=ru1;subst ru1';rcases hq with hq|hq
       ·obtain⟨its,rr,pl,hz'⟩:=I.list hq;show join_list pl.isList (by simpa using kK r1 rr hz) hl λt' k=>#[.str _,H,A,I.tok _,#[_,rfl],.refl,so,.str]
       ·obtain⟨its,rr,pl,hz'⟩:=I.tuple hq;show join_tuple pl (by simpa using kK r1 rr hz) hl λt' k=>#[.str _,H,A,I.tok _,#[_,rfl],.refl,so,.str]
      ·cases e
     ·cases e
    ·cases e
 |_=>cases e
abbrev ga (S:aa):W->Ke KU
 |.non=>ba false
 |.bl b=>ba b
 |.int i=>ba (i != 0)
 |.str y=>if ↥y<=sizeLine then ba ((↥y:Ks) != 0)else gV
 |.tup xs=>ba (!xs.isEmpty)
 |.ref i=>(gr S i).map λxs=>!xs.isEmpty
def jR {ws:J5 W}{vs:J5 V}(r:RelL X.K A H ws vs):(!ws.isEmpty) = !vs.isEmpty:=by cases r<;>rfl
def Jc {x:W}{a:V}{u:J9}{k:KU}{Q:KU->Kc->Prop}(I:Inv X J Y H s)(so:StoreOk X.w X.K A H S)(rx:Rel X.K A H x a)(ru:RelV a u)(e:ga S x=ba k)(hq:∀s',Inv X J Y H s'->Q k s') :
  wpAny (model X.prog X.w) X.A (truthy u) Q X.xe s:=by
 show bu (Eb J s Y H a u (λb H'=>b=k/\H'=H) I ru #[k,?_,rfl,rfl]) λb s' #[H',I',e1,e2]=>?_
 ·cases rx with
  |non=>cases e;rfl
  |bl=>cases e;rfl
  |int=>cases e;rfl
  |str=>
   simp only[ga]at e;split at e
   ·cases e;show#[by assumption,rfl]
   ·cases e
  |tup h1 r1=>cases e;show .inr (.inl #[_,h1,jR r1])
  |ref ea=>
   simp only[ga,Kb]at e;obtain⟨ws,hw,e2⟩:=e;subst e2;obtain⟨vs,h1,r1⟩:=bh so hw ea;show .inl #[_,h1,jR r1]
 ·subst e1 e2;show hq s' I'
end
abbrev cj (w:Ll):Mf:={cls:=.type "set",dict:=gV,data:=.set #[] 0 (.fresh 0 0 (!fj w))}
section
variable{prog:K9}{w:Ll}{A:Ld}{E:J9->Kc->Prop}{s:Kc}{R:Sh->Kc->Prop}{I:Kj}{fp wr:J5 Kj}{G:KL QR->KL QR->Prop}{n:Kf}{P:Kf->J9->Prop}{St:Kf->Kc->Prop}
def ya (a:J9){Q₁:J9->Kc->Prop}(h:Q₁ (.ref ⇑s.heap.objs) {s with heap:=s.heap.push (cj w)}):codeAny (model prog w) A (.call (.builtin "set.__new__") #[[.type "set",a],[]]) (wants Q₁ E) s:=by
 show Qz ?_;change wpAny _ A.in1 (checkBuiltinCall "set.__new__" #[[.type "set",a],[]] >>= λ_=>again (.builtin "set.__new__" #[[.type "set",a],[]])) _ _ s
 show J6 (ON (F.newCall_set_1 a) (Kd #[MH F.plain_set_new _,LM F.entry_set_new ?_]));rw[LH F.plain_set_new _];unfold NE.«set.__new__» Tn;have hsub:=RA;obtain⟨hp,g,d,tk,os⟩:=s;dsimp only
 wp_walk
 show NH (Kd ?_);dsimp only;revert newObj;show J6 (Uz (Kd (Kd h)))
end
def gv:Slot "set_iterator" "__next__" "set_iterator.__next__":=.of (owner:="set_iterator") (n:="__next__") (by rw[SS,QI];kernel_rfl) (by decide +kernel) (by decide +kernel) (by decide +kernel) (by first|show .inl (by decide +kernel)|show .inr (by decide +kernel)) (by rw[To];kernel_rfl)
def pG:Slot "set_iterator" "__iter__" "set_iterator.__iter__":=.of (owner:="set_iterator") (n:="__iter__") (by rw[SS,QI];kernel_rfl) (by decide +kernel) (by decide +kernel) (by decide +kernel) (by first|show .inl (by decide +kernel)|show .inr (by decide +kernel)) (by rw[To];kernel_rfl)
def vR:entryFor table "set_iterator.__next__" = ba NE.«set_iterator.__next__»:=entryFor_of_tree (by kernel_rfl)
def r6:entryFor table "set.__iter__" = ba NE.«frozenset.__iter__»:=Tp (id':="frozenset.__iter__") (by kernel_rfl) rfl (by decide +kernel) (by kernel_rfl)
def yb (a:J9):argsOk "set_iterator.__next__" #[[a],[]]:=by unfold argsOk;kernel_rfl
section
variable{α:Type}{prog:K9}{w:Ll}{A:Ld}{E:J9->Kc->Prop}{s:Kc}
def vS {src:Source}{n:Kf}{Q:Kf->Kc->Prop}(hn:n≠0)(h:∀i dr,i<n->Q i {s with drawn:=dr}):wpAny (model prog w) A (choose src n) Q E s:=λ_ _ _=>#[hn,h _ _ (OF _ (Nat.pos_of_ne_zero hn))]
def kL:∀{l:J5 α}{i:Kf} (h:i<↥l),(l[i]::l.eraseIdx i).Perm l
 |x::l,0,_=>.refl _
 |x::l,i+1,h=>(Vg _ _ _).trans ((kL (l:=l) (i:=i) (by simpa using h)).cons x)
def kM:∀(n:Kf) (xs:J5 α) {s:Kc}{Q:J5 α->Kc->Prop},↥xs=n->(∀ys dr,ys.Perm xs->Q ys {s with drawn:=dr})->wpAny (model prog w) A (drawOrder n xs) Q E s
 |0,xs,s,Q,hl,h=>by
  obtain rfl:=LI.mp hl;show Kd (h [] s.drawn .nil)
 |n+1,[],s,Q,hl,h=>by cases hl
 |n+1,x::xs,s,Q,hl,h=>by
  unfold drawOrder;show J6 (vS (by simp) λi dr hi=>?_)
  rw[Kl hi];dsimp only;show J6 (kM n _ (by rw[Pz hi,hl];rfl) λys dr' hp=>Kd (h _ dr' ?_))
  show(hp.cons _).trans (kL hi)
def tY {next:Kf->Kf}:∀(f k:Kf) (lf9:J5 α) (out:KL α),f=↥lf9->(pickOrder.go next f k lf9 out).toList.Perm (out.toList++lf9)
 |0,k,lf9,out,h=>by
  obtain rfl:=LI.mp h.symm;simp[pickOrder.go]
 |f+1,k,lf9,out,h=>by
  unfold pickOrder.go;have hp:0<↥lf9:=∅
  have hi:next k % ↥lf9<↥lf9:=OF _ hp;rw[Kl hi];dsimp only;show(tY f (k+1) _ _ (by rw[Pz hi];omega)).trans ?_
  rw[P1,Mt];show(kL hi).append_left _
def gL {next:Kf->Kf}{xs:KL α}:(pickOrder next xs).toList.Perm xs.toList:=by
 have:=tY (next:=next) ⇑xs 0 xs.toList #[] (by simp)
 simpa [pickOrder]using this
abbrev SIt (I:Kj)(f r:J9)(i n ep:Kf)(h:Lq):Prop:=h.get? I=ba {cls:=.type "set_iterator",data:=.fields [f,.int i 0,r,.int n 0,.int ep 0].toArray}
def SIt.type {I:Kj}{f r:J9}{i n ep:Kf}(x:SIt I f r i n ep s.heap):s.TypeIs (.ref I) "set_iterator":=#[_,x,rfl]
def pH {I:Kj}{Q:Ke J9->Kc->Prop}{f r:J9}{i n ep:Kf}(x:SIt I f r i n ep s.heap)(h:wpAny (model prog w) A.in1 (NE.«set_iterator.__next__» #[[.ref I],[]]) (λfin s'=>∃v,fin=.done (.ret v)/\Q (ba v) s') (λe s'=>wpAny (model prog w) A (do if <- isInstance e (.type "StopIteration")then pure gV else throw e) Q E s') s):wpAny (model prog w) A (pyNext (.ref I)) Q E s:=by
 unfold pyNext;show J6 (N3 (LA (name:=Mx "__next__") x.type gv (LG gv x.type vR ?_ (yb _))));show MB h (λ_ _ #[v,e,q]=>#[v,e,Kd q]) λ_ _ q=>q
abbrev GC (prog:K9)(w:Ll)(A:Ld)(Q:Ke J9->Kc->Prop)(E:J9->Kc->Prop)(e:J9)(s':Kc):Prop:=wpAny (model prog w) A (do if <- isInstance e (.type "StopIteration")then pure gV else throw e) Q E s'
def pI {Q:Ke J9->Kc->Prop}{Q2:tv->Kc->Prop}(hh:A.handled=gV)(h:∀h',(∀b o,s.heap.get? b=ba o->h'.get? b=ba o)->Q gV {s with heap:=h'}):wpAny (model prog w) A.in1 (newExc (.type "StopIteration") [] >>= λx=>raiseNew x) Q2 (GC prog w A Q E) s:=by
 show J6 ?_;revert newExc newTuple;show J6 (Ln ?_ (by size_fits))
 show J6 (m:=firstArgMember _ _) (ON (a:=Ls) (by first|rfl|(revert firstArgMember;rfl)) ?_)
 show Ln ?_ (by size_fits)
 revert raiseNew;show J6 (Ro ?_);rw[show A.in1.handled=gV from hh]
 show J6 (Kd (SI ?_));show J6 (NI (T:="StopIteration") (b:=true) #[_,Ku _ rfl,rfl] PB ?_);show Kd (h _ λb o e=>J8 _ (J8 _ e))
section
variable{I a:Kj}{f r:J9}{i n ep sl:Kf}{o:Mf}{es:KL (Ks×J9)}{t:K1}{Q:Ke J9->Kc->Prop}
def gM {Q:Vc->Kc->Prop}{vs:KL J9}{k:Kf}{v:J9}(x:s.heap.get? I=ba {cls:=.type "set_iterator",data:=.fields vs})(hk:k<⇑vs)(h:∀h',h'.get? I=ba {cls:=.type "set_iterator",data:=.fields (vs.setIfInBounds k v)}->Mw I s.heap h'->Q () {s with heap:=h'}):wpAny (model prog w) A (setField (.ref I) k v) Q E s:=Nh x hk h
def gN (x:SIt I (.int sl 0) (.ref a) i n ep s.heap)(ho:s.heap.get? a=ba o)(hd:o.data=.set es ep t)(hf:t.fits ⇑es=true)(hn:⇑es=n)(hh:A.handled=gV){rs:Ke (J9×Kf)}
  (hx:∀Q':Ke (J9×Kf)->Kc->Prop,Q' rs s->wpAny (model prog w) A.in1 (setNext a sl i ep) Q' (GC prog w A Q E) s)
  (h1:∀v sl',rs=ba (v,sl')->∀h',SIt I (.int sl' 0) (.ref a) (i+1) n ep h'->(∀b o,b≠I->s.heap.get? b=ba o->h'.get? b=ba o)->Q (ba v) {s with heap:=h'})
  (h2:rs=gV->∀h',(∀b o,b≠I->s.heap.get? b=ba o->h'.get? b=ba o)->Q gV {s with heap:=h'}):wpAny (model prog w) A (pyNext (.ref I)) Q E s:=by
 show pH x ?_;show J6 (Kd ?_);change wpAny _ _ (fieldsOf (.ref I) >>= _) _ _ s;show J6 (PC x rfl ?_);show J6 (Ph ho hd hf ?_);rw[KM (by simp[hn])]
 show J6 (hx _ ?_);cases rs with
 |some p=>
  obtain⟨v,sl'⟩:=p;dsimp only;show J6 (gM x (by simp) λh' x' sb'=>?_)
  show J6 (gM x' (by simp) λh2 x2 sb2=>?_)
  show Kd #[v,rfl,h1 v sl' rfl h2 ?_ λb o hb e=>?_]
  ·simpa [SIt,rawInt]using x2
  ·rw[sb2.2 b hb,sb'.2 b hb];show e
 |none=>
  dsimp only;show J6 (gM x (by simp) λh' x' sb'=>?_)
  show pI hh λh'' k=>h2 rfl h'' λb o hb e=>k b o (by rw[sb'.2 b hb];show e)
def mG {tp:Kj}{ps:J5 Kf}(x:SIt I (.ref tp) (.ref a) i n ep s.heap)(ho:s.heap.get? a=ba o)(hd:o.data=.set es ep t)(hf:t.fits ⇑es=true)(hn:⇑es=n)(hh:A.handled=gV)
  (ht:s.heap.get? tp=ba {cls:=.type "tuple",data:=.seq (ps.map λk=>rawInt (k:Kf)).toArray 0})
  (h1:∀p e,ps[i]?=ba p->es[p]?=ba e->∀h',SIt I (.ref tp) (.ref a) (i+1) n ep h'->(∀b o,b≠I->s.heap.get? b=ba o->h'.get? b=ba o)->Q (ba e.2) {s with heap:=h'})
  (hp:∀p,ps[i]?=ba p->∃e,es[p]?=ba e)
  (h2:ps[i]?=gV->∀h',(∀b o,b≠I->s.heap.get? b=ba o->h'.get? b=ba o)->Q gV {s with heap:=h'}):wpAny (model prog w) A (pyNext (.ref I)) Q E s:=by
 show pH x ?_;show J6 (Kd ?_);change wpAny _ _ (fieldsOf (.ref I) >>= _) _ _ s;show J6 (PC x rfl ?_);show J6 (Ph ho hd hf ?_);rw[KM (by simp[hn])]
 show J6 (L9 ht rfl ?_);dsimp only;have hg:(ps.map λk=>rawInt (k:Kf)).toArray[(i:Ks).toNat]?=(ps[i]?).map λk=>rawInt (k:Kf):=by simp
 rw[hg];cases q:ps[i]? with
 |some p=>
  obtain⟨e,he⟩:=hp p q;change wpAny _ _ (setNextDrawn a (p:Ks).toNat (ep:Ks).toNat >>= _) _ _ s;unfold setNextDrawn;show J6 (J6 (LW ho hd hf ?_));dsimp only;rw[KM (by simp)]
  revert Kw he;show Kd ?_;show J6 (gM x (by simp) λh' x' sb'=>?_)
  show Kd #[e.2,rfl,h1 p e q he h' ?_ λb o hb z=>?_]
  ·simpa [SIt,rawInt]using x'
  ·rw[sb'.2 b hb];show z
 |none=>
  delta Option.map_none;show J6 (gM x (by simp) λh' x' sb'=>?_)
  show J6 (gM x' (by simp) λh3 x3 sb3=>?_)
  show pI hh λh'' k=>h2 q h'' λb o hb e=>k b o (by rw[sb3.2 b hb,sb'.2 b hb];show e)
def mH {E:J9->Kc->Prop}{Q:Ke (J9×Kf)->Kc->Prop}(ho:s.heap.get? a=ba o)(hd:o.data=.set es ep t)(hf:t.fits ⇑es=true)(hb:fj w=true)(h:Q ((((pickOrder (w.params.setOrder a ep) es).toList.map (·.2))[i]?).map λv=>(v,sl)) s):wpAny (model prog w) A (setNext a sl i ep) Q E s:=by
 unfold setNext;show J6 (LW ho hd hf ?_);dsimp only;have ask1:∀{Q:KU->Kc->Prop},Q true s->wpAny (model prog w) A setsByText Q E s:=λ{Q} hq=>by
  unfold setsByText;show J6 (NH (Kd ?_));change Q (fj w) s;rw[hb];show hq
 show J6 (ask1 ?_);rw[KF rfl,KM (by simp)]
 show J6 ?_;unfold setWalk;show J6 (LW ho hd hf ?_);dsimp only;show J6 (ask1 ?_);rw[KF rfl];show J6 (NH (Kd (Kd ?_)));have e:(((pickOrder (w.params.setOrder a ep) es)[i]?).map λe=>(e.2,sl))=((((pickOrder (w.params.setOrder a ep) es).toList.map (·.2))[i]?).map λv=>(v,sl)):=by
  rw[Kh,LJ,Tq];rfl
 change Q (((pickOrder (w.params.setOrder a ep) es)[i]?).map λe=>(e.2,sl)) s
 rw[e];show h
def pJ {E:J9->Kc->Prop}{Q:Ke (J9×Kf)->Kc->Prop}(ho:s.heap.get? a=ba o)(hd:o.data=.set es ep t)(hf:t.fits ⇑es=true)(hb:fj w=false)(hl:t.led=true)(h1:⇑es<=1)(hi:i=0/\sl=0\/i=⇑es/\sl=(t.place.getD 0 0)+1)
  (h:Q (((es.toList.map (·.2))[i]?).map λv=>(v,t.place.getD 0 0+1)) s):wpAny (model prog w) A (setNext a sl i ep) Q E s:=by
 unfold setNext;show J6 (LW ho hd hf ?_);dsimp only;have ask1:∀{Q:KU->Kc->Prop},Q false s->wpAny (model prog w) A setsByText Q E s:=λ{Q} hq=>by
  unfold setsByText;show J6 (NH (Kd ?_));change Q (fj w) s;rw[hb];show hq
 show J6 (ask1 ?_);rw[KM KS];show NZ (λhc=>absurd hc (by change ¬ ((!t.plain&&decide (⇑es > 1))=true);simp;omega)) (λ_=>?_)
 show J6 ?_;change wpAny _ _ (if (!t.led && !es.isEmpty)=true then unsupported "set:maker-not-led" else pure ()) _ _ s
 rw[KM (by simp[hl])]
 show Kd (Kd ?_);obtain⟨es⟩:=es;obtain⟨mk,pl,dm,fg,ld,mv,pn⟩:=t;obtain⟨pl⟩:=pl;simp only[Rp,Kg,beq_iff_eq]at hf
 match es,pl,hf.1,h1 with
 |[],[],_,_=>
  have:i=0:=by rcases hi with z|z<;>simpa using z.1
  subst this;show h
 |[e],[j],_,_=>
  rcases hi with⟨rfl,rfl⟩|⟨rfl,rfl⟩
  ·show h
  ·have e1:Lj [j].toArray (j+1)=1:=by
    change OT [j].toArray (j+1) 1 0 1=1;simp[OT]
   have e2:(({mask:=mk,place:=[j].toArray,dummies:=dm,finger:=fg,led:=ld,moves:=mv,plain:=pn}:K1).place.getD 0 0)=j:=rfl;change Q (match ([e].toArray:KL (Ks×J9))[Lj [j].toArray (j+1)]?,([j].toArray:KL Kf)[Lj [j].toArray (j+1)]? with|some (_,x),ba j=>ba (x,j+1)|_,_=>gV) s
   rw[e1];show h
 |e::e'::es,_,_,z=>simp at z
 |[],_::_,z,_=>simp at z
 |[_],[],z,_=>simp at z
 |[_],_::_::_,z,_=>simp at z
def kN {E:J9->Kc->Prop}{Q:Ke (J9×Kf)->Kc->Prop}(ho:s.heap.get? a=ba o)(hd:o.data=.set es ep t)(hf:t.fits ⇑es=true)(hb:fj w=false)(hl:t.led=true)(hp:t.plain=true)(hw:Lj t.place sl=i)
  (h:Q (((es.toList.map (·.2))[i]?).map λv=>(v,t.place.getD i 0+1)) s):wpAny (model prog w) A (setNext a sl i ep) Q E s:=by
 unfold setNext;show J6 (LW ho hd hf ?_);dsimp only;have ask1:∀{Q:KU->Kc->Prop},Q false s->wpAny (model prog w) A setsByText Q E s:=λ{Q} hq=>by
  unfold setsByText;show J6 (NH (Kd ?_));change Q (fj w) s;rw[hb];show hq
 show J6 (ask1 ?_);rw[KM KS];show NZ (λhc=>absurd hc (by change ¬ ((!t.plain&&decide (⇑es > 1))=true);simp[hp])) (λ_=>?_)
 show J6 ?_;change wpAny _ _ (if (!t.led && !es.isEmpty)=true then unsupported "set:maker-not-led" else pure ()) _ _ s
 rw[KM (by simp[hl])]
 show Kd (Kd ?_);rw[hw];have hz:⇑t.place=⇑es:=by
  simp only[Rp,Kg,beq_iff_eq]at hf;show hf.1
 rw[Kh,LJ]at h
 by_cases hi:i<⇑es
 ·have e1:es[i]?=ba es[i]:=by simp[hi]
  have e2:t.place[i]?=ba (t.place.getD i 0):=by simp[Ms,hz,hi]
  rw[e1]at h ⊢;rw[e2];show h
 ·have e1:es[i]?=gV:=by simp;omega
  rw[e1]at h ⊢;show h
end
end
def vT:entryFor table "set_iterator.__iter__" = ba NE.«dict_keyiterator.__iter__»:=Tp (id':="dict_keyiterator.__iter__") (by kernel_rfl) rfl (by decide +kernel) (by kernel_rfl)
def yc (a:J9):argsOk "set_iterator.__iter__" #[[a],[]]:=by unfold argsOk;kernel_rfl
section
variable{prog:K9}{w:Ll}{A:Ld}{E:J9->Kc->Prop}{s:Kc}{I a tp:Kj}{f r:J9}{i n ep sl:Kf}{o:Mf}{es:KL (Ks×J9)}{t:K1}
def iR {Q:J9->Kc->Prop}(x:SIt I f r i n ep s.heap)(h:Q (.ref I) s):wpAny (model prog w) A (pyIter (.ref I)) Q E s:=by
 show P2 x.type pG (LG pG x.type vT ?_ (yc _));change wpAny _ _ (ret (.ref I)) _ _ s;show Kd #[_,rfl,"set_iterator",_,x.type,gv.lookup,h]
def pK {b x y:Kj}(h:b∉[x]):b≠x:=λz=>h (by simp[z])
def r8 (hh:A.handled=gV)(hne:a≠I)(hd:o.data=.set es ep t)(hf:t.fits ⇑es=true)(hb:fj w=true) :
  SJ prog w A I [I,a] [I] ⇑es (λi v=>((pickOrder (w.params.setOrder a ep) es).toList.map (·.2))[i]?=ba v) (λi h=>SIt I (.int 0 0) (.ref a) i ⇑es ep h/\h.get? a=ba o) where
 sub:=λb hb=>by simp at hb;simp[hb]
 frame:=λ_ _ _ st hk=>#[hk I (by simp) _ st.1,hk a (by simp) _ st.2]
 item:=λi s Q E hi st hQ=>by
  have hl:((pickOrder (w.params.setOrder a ep) es).toList.map (·.2)).length=⇑es:=by rw[J7,gL.length_eq,Km]
  show gN (sl:=0) st.1 st.2 hd hf rfl hh (λQ' hq=>mH st.2 hd hf hb hq) (λv sl' e h' x' k=>?_) λe h' k=>?_
  ·obtain⟨v',q,e⟩:=Kb.mp e;cases e;show hQ v h' s.toks q #[x',k a _ hne st.2] λb o hb e=>k b o (pK (y:=b) hb) e
  ·rw[OU,Lz]at e;omega
 done:=λs Q E st hQ=>by
  have hl:((pickOrder (w.params.setOrder a ep) es).toList.map (·.2)).length=⇑es:=by rw[J7,gL.length_eq,Km]
  show gN (sl:=0) st.1 st.2 hd hf rfl hh (λQ' hq=>mH st.2 hd hf hb hq) (λv sl' e h' x' k=>?_) λe h' k=>hQ h' s.toks λb o hb e=>k b o (pK (y:=b) hb) e
  obtain⟨v',q,e⟩:=Kb.mp e;have:=(Kq.mp q).1;omega
 self:=λ_ _ _ _ st hQ=>iR st.1 hQ
def vU (hh:A.handled=gV)(hne:a≠I)(hd:o.data=.set es ep t)(hf:t.fits ⇑es=true)(hb:fj w=false)(hl:t.led=true)(h1:⇑es<=1) :
  SJ prog w A I [I,a] [I] ⇑es (λi v=>(es.toList.map (·.2))[i]?=ba v) (λi h=>SIt I (.int ((if i=0 then 0 else t.place.getD 0 0+1:Kf):Ks) 0) (.ref a) i ⇑es ep h/\h.get? a=ba o) where
 sub:=λb hb=>by simp at hb;simp[hb]
 frame:=λ_ _ _ st hk=>#[hk I (by simp) _ st.1,hk a (by simp) _ st.2]
 item:=λi s Q E hi st hQ=>by
  have i0:i=0:=∅
  subst i0;show gN st.1 st.2 hd hf rfl hh (λQ' hq=>pJ st.2 hd hf hb hl h1 (.inl #[rfl,rfl]) hq) (λv sl' e h' x' k=>?_) λe h' k=>?_
  ·obtain⟨v',q,e⟩:=Kb.mp e;cases e;show hQ v h' s.toks q #[x',k a _ hne st.2] λb o hb e=>k b o (pK (y:=b) hb) e
  ·rw[OU,Lz,J7,Km]at e;omega
 done:=λs Q E st hQ=>by
  show gN st.1 st.2 hd hf rfl hh (λQ' hq=>pJ st.2 hd hf hb hl h1 ?_ hq) (λv sl' e h' x' k=>?_) λe h' k=>hQ h' s.toks λb o hb e=>k b o (pK (y:=b) hb) e
  ·by_cases h0:⇑es=0
   ·show .inl #[h0,by rw[KF h0]]
   ·show .inr #[rfl,by rw[KM h0]]
  ·obtain⟨v',q,e⟩:=Kb.mp e;have:=(Kq.mp q).1;rw[J7,Km]at this;omega
 self:=λ_ _ _ _ st hQ=>iR st.1 hQ
def pL (hh:A.handled=gV)(hne:a≠I)(hd:o.data=.set es ep t)(hf:t.fits ⇑es=true)(hb:fj w=false)(hl:t.led=true)(hp:t.plain=true)(hw:dX t ⇑es=true) :
  SJ prog w A I [I,a] [I] ⇑es (λi v=>(es.toList.map (·.2))[i]?=ba v) (λi h=>SIt I (.int ((if i=0 then 0 else t.place.getD (i-1) 0+1:Kf):Ks) 0) (.ref a) i ⇑es ep h/\h.get? a=ba o):=by
 have go:∀i,i<=⇑es->Lj t.place (if i=0 then 0 else t.place.getD (i-1) 0+1)=i:=λi hi=>by
  simp only[dX,Kg,KG,KA,Kx]at hw
  by_cases h0:i=0
  ·rw[KF h0,h0];show hw.1
  ·rw[KM h0,hw.2 (i-1) ∅];omega
 show {
  sub:=λb hb=>by simp at hb;simp[hb]
  frame:=λ_ _ _ st hk=>#[hk I (by simp) _ st.1,hk a (by simp) _ st.2]
  item:=λi s Q E hi st hQ=>by
   show gN st.1 st.2 hd hf rfl hh (λQ' hq=>kN st.2 hd hf hb hl hp (go i ∅) hq) (λv sl' e h' x' k=>?_) λe h' k=>?_
   ·obtain⟨v',q,e⟩:=Kb.mp e;cases e;show hQ v h' s.toks q #[by rw[KM (So i)];show x',k a _ hne st.2] λb o hb e=>k b o (pK (y:=b) hb) e
   ·rw[OU,Lz,J7,Km]at e;omega
  done:=λs Q E st hQ=>by
   show gN st.1 st.2 hd hf rfl hh (λQ' hq=>kN st.2 hd hf hb hl hp (go _ (Ki _)) hq) (λv sl' e h' x' k=>?_) λe h' k=>hQ h' s.toks λb o hb e=>k b o (pK (y:=b) hb) e
   obtain⟨v',q,e⟩:=Kb.mp e;have:=(Kq.mp q).1;rw[J7,Km]at this;omega
  self:=λ_ _ _ _ st hQ=>iR st.1 hQ}
def pM {ps:J5 Kf}(hh:A.handled=gV)(hne:a≠I)(hnt:tp≠I)(hd:o.data=.set es ep t)(hf:t.fits ⇑es=true)(hp:ps.Perm (KH ⇑es)) :
  SJ prog w A I [I,a,tp] [I] ⇑es (λi v=>(ps.map λp=>(es.getD p (0,.none)).2)[i]?=ba v) (λi h=>SIt I (.ref tp) (.ref a) i ⇑es ep h/\h.get? a=ba o/\h.get? tp=ba {cls:=.type "tuple",data:=.seq (ps.map λk=>rawInt (k:Kf)).toArray 0}) where
 sub:=λb hb=>by simp at hb;simp[hb]
 frame:=λ_ _ _ st hk=>#[hk I (by simp) _ st.1,hk a (by simp) _ st.2.1,hk tp (by simp) _ st.2.2]
 item:=λi s Q E hi st hQ=>by
  have lt:∀{p},ps[i]?=ba p->p<⇑es:=λq=>Kx.mp (hp.mem_iff.mp (Ko q))
  show mG st.1 st.2.1 hd hf rfl hh st.2.2 (λp e q qe h' x' k=>?_) (λp q=>#[es[p]'(lt q),by simp[lt q]]) λe h' k=>?_
  ·show hQ e.2 h' s.toks ?_ #[x',k a _ hne st.2.1,k tp _ hnt st.2.2] λb o hb e=>k b o (pK (y:=b) hb) e
   rw[Kh,q];simp[Ms,lt q];rw[Lh (lt q)]at qe;cases qe;rfl
  ·rw[Lz,hp.length_eq,KQ]at e;omega
 done:=λs Q E st hQ=>by
  show mG st.1 st.2.1 hd hf rfl hh st.2.2 (λp e q qe h' x' k=>?_) (λp q=>?_) λe h' k=>hQ h' s.toks λb o hb e=>k b o (pK (y:=b) hb) e
  ·have:=(Kq.mp q).1;rw[hp.length_eq,KQ]at this;omega
  ·have:=(Kq.mp q).1;rw[hp.length_eq,KQ]at this;omega
 self:=λ_ _ _ _ st hQ=>iR st.1 hQ
end
section
variable{prog:K9}{w:Ll}{A:Ld}{E:J9->Kc->Prop}{s:Kc}{a:Kj}{o:Mf}{xs:J5 KJ}{es:KL (Ks×J9)}{ep:Kf}{t:K1}
structure SetWalk (prog:K9)(w:Ll)(A:Ld)(s:Kc)(a:Kj)(es:KL (Ks×J9))(I:Kj)(h':Lq):Prop where
 ex:∃(fp:J5 Kj) (St:Kf->Lq->Prop) (us:J5 J9) (n:Kf),us.Perm (es.toList.map (·.2))/\↥us=n/\SJ prog w A I fp [I] n (λi v=>us[i]?=ba v) St/\St 0 h'/\∀b∈fp,b=a\/⇑s.heap.objs<=b/\b<⇑h'.objs
 new:⇑s.heap.objs<=I
 keep:∀b u,s.heap.get? b=ba u->h'.get? b=ba u
def yd {Q:J9->Kc->Prop}(hh:A.handled=gV)(ho:s.heap.get? a=ba o)(hex:o.ExactSet)(hd:o.data=.set es ep t)(hz:⇑es<=sizeLine)(fit:t.fits ⇑es=true)(led:t.led = !fj w)(pl:t.plain=true->⇑es=0\/dX t ⇑es=true)(h:∀I h' dr,SetWalk prog w A s a es I h'->Q (.ref I) {s with heap:=h',drawn:=dr}):wpAny (model prog w) A (pyIter (.ref a)) Q E s:=by
 have hT:s.TypeIs (.ref a) "set":=#[o,ho,hex.1];have ha:a<⇑s.heap.objs:=KC ho;show P2 hT F.slot_set_iter (LG F.slot_set_iter hT r6 ?_ (F.args_set_iter_1 _));unfold NE.«frozenset.__iter__»;show J6 (J6 (Kd ?_));change wpAny _ _ (pure a) _ _ s;show Kd ?_;unfold TU setDrawn;show J6 (J6 (Ph ho hd fit (Kd ?_)));show J6 (J6 (LW ho hd fit ?_));dsimp only;unfold setsByText;show J6 (J6 (NH (Kd (Kd ?_))));have oI:∀(f:J9) (h0:Lq),(h0.push {cls:=.type "set_iterator",data:=.fields [f,rawInt 0,.ref a,rawInt ⇑es,rawInt ep].toArray}).get? ⇑h0.objs=ba {cls:=.type "set_iterator",data:=.fields [f,rawInt 0,.ref a,rawInt ⇑es,rawInt ep].toArray}:=λf h0=>Ku _ rfl
 show NZ (λhc=>?_) (λhc=>?_)
 ·show J6 (kM ⇑es _ KQ λps dr hp=>?_)
  show J6 (PD ?_ (by rw[J7,hp.length_eq,KQ];show hz))
  have o1:=J8 (seqObj "tuple" (ps.map λk=>rawInt (k:Kf)).toArray 0) ho
  show J6 (RZ o1 hd fit ?_);show J6 (Ln (Kd #[_,rfl,"set_iterator",_,#[_,oI _ _,rfl],gv.lookup,?_]));have z1:(s.heap.push (seqObj "tuple" (ps.map λk=>rawInt (k:Kf)).toArray 0)).objs.size=⇑s.heap.objs+1:=Mj ..
  have W:=pM (prog:=prog) (w:=w) (A:=A) (a:=a) (I:=(s.heap.push (seqObj "tuple" (ps.map λk=>rawInt (k:Kf)).toArray 0)).objs.size) (tp:=⇑s.heap.objs) (ps:=ps) hh (by rw[z1];show KO (Nt ha)) (by rw[z1];show KO (L0 _)) hd fit hp
  have eL:(ps.map λp=>(es.getD p (0,Ls)).2).length=⇑es:=by rw[J7,hp.length_eq,KQ]
  show h _ _ dr #[#[_,_,ps.map λp=>(es.getD p (0,Ls)).2,_,?_,eL,W,#[oI _ _,J8 _ o1,J8 _ (Ku _ rfl)],λb hb=>?_],by rw[z1];show Nr _,λb u e=>J8 _ (J8 _ e)]
  ·show(hp.map _).trans ?_;have e:((KH ⇑es).map λp=>(es.getD p (0,Ls)).2)=es.toList.map λe=>e.2:=by
    apply Nb
    ·simp
    ·intro k h1 h2;simp only[J7,KQ]at h1;simp[Ms,h1]
   rw[e]
  ·rw[Mj,z1];simp only[KD,Li,Mo]at hb;rcases hb with rfl|rfl|rfl
   ·show .inr #[by rw[z1];show Nr _,by rw[z1];show L0 _]
   ·show .inl rfl
   ·show .inr #[Ki _,Nt (L0 _)]
 ·show J6 (Kd (J6 (RZ ho hd fit ?_)));show J6 (Ln (Kd #[_,rfl,"set_iterator",_,#[_,oI _ _,rfl],gv.lookup,?_]));have near:∀b∈[⇑s.heap.objs,a],b=a\/⇑s.heap.objs<=b/\b<(s.heap.push {cls:=.type "set_iterator",data:=.fields [rawInt 0,rawInt 0,.ref a,rawInt ⇑es,rawInt ep].toArray}).objs.size:=λb hb=>by
   rw[Mj];simp only[KD,Li,Mo]at hb;rcases hb with rfl|rfl
   ·show .inr #[Ki _,L0 _]
   ·show .inl rfl
  cases hb:fj w with
  |true=>
   have W:=r8 (prog:=prog) (A:=A) (I:=⇑s.heap.objs) hh (KO ha) hd fit hb;have eL:((pickOrder (w.params.setOrder a ep) es).toList.map (·.2)).length=⇑es:=by rw[J7,gL.length_eq,Km]
   show h _ _ s.drawn #[#[[⇑s.heap.objs,a],_,(pickOrder (w.params.setOrder a ep) es).toList.map (·.2),_,gL.map _,eL,W,#[oI _ _,J8 _ ho],near],Ki _,λb u e=>J8 _ e]
  |false=>
   have hl:t.led=true:=by rw[led,hb];rfl
   have eL:(es.toList.map (·.2)).length=⇑es:=by rw[J7,Km]
   by_cases hpw:t.plain=true/\dX t ⇑es=true
   ·have W:=pL (prog:=prog) (A:=A) (I:=⇑s.heap.objs) hh (KO ha) hd fit hb hl hpw.1 hpw.2;show h _ _ s.drawn #[#[[⇑s.heap.objs,a],_,es.toList.map (·.2),_,.refl _,eL,W,#[oI _ _,J8 _ ho],near],Ki _,λb u e=>J8 _ e]
   have h1:⇑es<=1:=by
    cases hp:t.plain with
    |true=>
     rcases pl hp with z|z
     ·rw[z];show LC _
     ·show absurd #[hp,z] hpw
    |false=>
     show Sn λz=>hc ?_
     show((!fj w)&&((!t.plain)&&decide (⇑es > 1)))=true;rw[hb,hp]
     simpa using z
   have W:=vU (prog:=prog) (A:=A) (I:=⇑s.heap.objs) hh (KO ha) hd fit hb hl h1;show h _ _ s.drawn #[#[[⇑s.heap.objs,a],_,es.toList.map (·.2),_,.refl _,eL,W,#[oI _ _,J8 _ ho],near],Ki _,λb u e=>J8 _ e]
def ye {Q:KU->Kc->Prop}(hT:s.TypeIs (.ref a) "set")(h:Q false s):wpAny (model prog w) A (Pk (.ref a)) Q E s:=by
 unfold Pk;show J6 (QA hT F.slot_set_len.lookup ?_);generalize hid:("set.__len__": L1)=k0
 wp_delta
 rw[show splitId k0=ba ("set","__len__")from by subst hid;decide +kernel]
 subst hid;show J6 (NI (T:="set") (b:=true) hT RA ?_);show NZ (λz=>absurd z #v[]) (λ_=>NZ (λ_=>?_) (λz=>absurd (by decide +kernel) z))
 show J6 (NT hT (Kd h))
def pN {Q:J5 J9->Kc->Prop}(hh:A.handled=gV)(ho:s.heap.get? a=ba o)(hex:o.ExactSet)(hd:o.data=.set es ep t)(hz:⇑es<=sizeLine)(fit:t.fits ⇑es=true)(led:t.led = !fj w)(pl:t.plain=true->⇑es=0\/dX t ⇑es=true)
  (hQ:∀h' tk dr us,(∀b u,s.heap.get? b=ba u->h'.get? b=ba u)->⇑s.heap.objs<=⇑h'.objs->us.Perm (es.toList.map (·.2))->Q us {s with heap:=h',toks:=tk,drawn:=dr}):wpAny (model prog w) A (collect (.ref a)) Q E s:=by
 have ha:a<⇑s.heap.objs:=KC ho;unfold collect;show J6 (OV (LM F.entry_proto_collect ?_));rw[LH F.plain_proto_collect _];change wpAny _ A.in1 (newList [] >>= λl=>again (.builtin "list.__iadd__" #[[l,.ref a],[]])) _ _ s
 show J6 (Ln ?_);have oL:(s.heap.push {cls:=.type "list",data:=.seq ([]:J5 J9).toArray}).get? ⇑s.heap.objs=ba {cls:=.type "list",data:=.seq #[] 0}:=Ku _ rfl;have o1:=J8 {cls:=.type "list",data:=.seq ([]:J5 J9).toArray} ho;have z1:(s.heap.push {cls:=.type "list",data:=.seq ([]:J5 J9).toArray}).objs.size=⇑s.heap.objs+1:=Mj ..;show Kd #[MH F.plain_list_iadd _,LM F.entry_list_iadd ?_];rw[LH F.plain_list_iadd _];change wpAny _ A.in1 (Mc (.ref ⇑s.heap.objs) (.ref a) (.ref ⇑s.heap.objs)) _ _ _;unfold Mc;show J6 (NT (T:="set") #[o,o1,hex.1] ?_);have n1:P7 (.ref ⇑s.heap.objs) (.ref a)=false:=by
  have:⇑s.heap.objs≠a:=Mb ha;simp[P7,this]
 have n2:(Mq "set" == Mq "list")=false:=by decide
 have n3:(Mq "set" == Mq "tuple")=false:=by decide
 revert n1 n2 n3 Rn KT LO;show J6 (yd (A:=A.in1) (by simp[hh]) o1 hex hd hz fit led pl λI h' dr W=>?_)
 obtain⟨⟨fp,St,us,n,hP,hn,W,st,hfp⟩,hI,kp⟩:=W;rw[z1]at hI;have oa:=kp a o o1;show J6 (LK (ye #[o,oa,hex.1] ?_));have oL1:=kp _ _ oL;have hD:⇑s.heap.objs∉fp:=λz=>by
  rcases hfp _ z with e|⟨e,_⟩
  ·show Mb ha e
  ·rw[z1]at e;show Nat.not_succ_le_self _ e
 show NZ (λ_=>?_) (λz=>absurd (by decide +kernel) z)
 show J6 (Pq (J6 ?_));change wpAny _ _ (updateSeq ⇑s.heap.objs (·.push .none) >>= λ_=>updateSeq ⇑s.heap.objs (·.pop)) _ _ _
 show J6 (OC oL1 rfl ?_);have oL2:=Ma (L4 (·.push Ls)) oL1 rfl
 show OC (hz:=by seq_fits) oL2 rfl ?_
 have oL3:=Ma (L4 (·.pop)) oL2 rfl
 have hnl:n<=sizeLine:=by rw[<- hn,hP.length_eq,J7,Km];show hz
 show Kd #[MH PySem.F.plain_extend_loop _,codeAny_extend_loopS W.toS hnl ⇑s.heap.objs hD (.ref ⇑s.heap.objs) n 0 _ #[] _ rfl (LC _) (W.frame 0 _ _ st λb hb u e=>?_) oL3 (ItemsOf.nil _) λs' acc c' mv oS hacc=>?_]
 ·have hb':b≠⇑s.heap.objs:=λz=>hD (z▸hb)
  show(Lr _ _ (Ne.symm hb')).trans ((Lr _ _ (Ne.symm hb')).trans e)
 ·rw[TV mv];change wpAny (model prog w) A (do
    let o <- load ⇑s.heap.objs
    match o.data with
    |.seq xs _=>pure xs.toList
    |_=>unsupported "internal:collect") Q E _
  show J6 (Ql oS (Kd ?_));have eU:acc.toList=us:=by
   apply P3;intro i
   by_cases hi:i<n
   ·have h1:i<⇑acc:=by rw[hacc.1];show hi
    have:=hacc.2 i acc[i] (by simp[h1])
    rw[this,LJ];simp[h1]
   ·rw[N4 (by rw[Km,hacc.1];omega),N4 ∅]
  rw[eU];show hQ _ _ dr us (λb u e=>?_) (NS (KC oS)) hP
  have hb:=KC e;have hb':b≠⇑s.heap.objs:=KO hb;show mv.heap b u (λz=>?_) ((Lr _ _ (Ne.symm hb')).trans ((Lr _ _ (Ne.symm hb')).trans (kp b u (J8 _ e))))
  simp only[KD,Li,Mo]at z;rcases z with z|z
  ·show hb' z
  ·rw[z]at hb;show LR _ (KR (Nt hb) hI)
end
abbrev BI (S:aa)(i:Kf):Ke (Ks×Ks):=match S[i]? with
 |some (.rng lo hi)=>ba (lo,hi)
 |_=>gV
abbrev r9 (xs:J5 W)(S:aa):Ke (W×aa):=match xs with
 |[.int j]=>if -(2^62)<=j/\j<2^62 then ba (.ref ↥S,S++[.rng 0 j])else gV
 |_=>gV
abbrev GD (lo:Ks)(n:Kf):J5 W:=(KH n).map λ(k:Kf)=>.int (lo+(k:Ks))
abbrev mI (xs:J5 W)(S:aa):Ke (W×aa):=match xs with
 |[.ref i]=>match BI S i with
  |some (lo,hi)=>if -(2^62)<=lo/\lo<2^62/\-(2^62)<=hi/\hi<2^62/\(hi-lo).toNat<=sizeLine then ba (.ref ↥S,S++[.lst (GD lo (hi-lo).toNat)])else gV
  |none=>iO [.ref i] S
 |xs=>iO xs S
section
variable{X:Cx}{J:J5 (Kj×Mf)}{Y:L2.St}{H:Hp}{s:Kc}{A:J5 Kj}{S:aa}
def Inv.drawn (I:Inv X J Y H s)(d:Va):Inv X J Y H {s with drawn:=d}:=#[I.ok,I.os,I.bare,I.base,I.loc,I.cell,I.free,I.freeC,I.pin,I.hok,I.len]
def iS {h':Lq}{tk:Kf}{dr:Va}{D:Kj}{n:O}{u:HO}(I:Inv X J Y H s)(so:StoreOk X.w X.K A H S)(hk:∀b o,s.heap.get? b=ba o->h'.get? b=ba o)(hD:⇑s.heap.objs<=D)(new:ObjOk X.prog X.w (bx H D u) h' D u)
  (r:H D=gV->ObjRel X.w X.K (A++[D]) (bx H D u) D n):PostE X J Y A H (S++[n]) (.ref ↥S) (.ref D) {s with heap:=h',toks:=tk,drawn:=dr}:=by
 have hn:H D=gV:=I.hok.fresh hD;show#[.ref D,_,A++[D],Mi.Inv.drawn (I.laid (a:=D) (o:=u) (t':=tk) hk hD new) dr,rfl,cJ hn,so.pushO hn (r hn),.ref ?_];rw[<- so.len];simp
def nX:∀{vs:J5 V}{us:J5 J9},↥vs=↥us->(∀(i:Kf) v u,vs[i]?=ba v->us[i]?=ba u->L2.RelV v u)->Vals vs us
 |[],[],_,_=>.nil
 |v::vs,u::us,hl,h=>.cons (h 0 v u rfl rfl) (nX (by simpa using hl) λi v u a b=>h (i+1) v u (by simpa using a) (by simpa using b))
 |[],_::_,hl,_=>by cases hl
 |_::_,[],hl,_=>by cases hl
def nY {K:Kr}{lo:Ks}:∀(l:J5 Kf),RelL K A H (l.map λ(k:Kf)=>W.int (lo+(k:Ks))) (l.map λ(k:Kf)=>V.int (lo+(k:Ks)))
 |[]=>.nil
 |_::l=>.cons .int (nY l)
def kh {xs:J5 W}{vs:J5 V}{us:J5 J9}{i:Kf}(rl:RelL X.K A H [.ref i] vs)(rv:Vals vs us):∃a,A[i]?=ba a/\us=[.ref a]:=by
 cases rl with
 |cons r t=>
  cases t;cases r with
  |@ref _ a ea=>
   cases rv with
   |cons ru rv=>
    cases rv;obtain rfl:_=Lc a:=ru;show#[a,ea,rfl]
def pO:LCall X (.type "range") r9:=by
 intro J s Y H A S xs vs us w S' I so rl rv e;unfold r9 at e;split at e
 ·rename_i j;split at e
  ·rename_i hb;cases e;cases rl with
   |cons r t=>
    cases t;cases r;cases rv with
    |cons ru rv=>
     cases rv;obtain⟨tk,rfl⟩:=ru;show Ue (iS (dr:=s.drawn) (u:=.rng 0 j) I so (λb o e=>J8 _ e) (Ki _) #[_,_,_,Ku _ rfl] λ_=>aJ)
  ·cases e
 ·cases e
def pP (hh:X.A.handled=gV):LCall X (.type "list") mI:=by
 intro J s Y H A S xs vs us w S' I so rl rv e;unfold mI at e;split at e
 ·rename_i i;split at e
  ·rename_i lo hi hr;split at e
   ·rename_i hb;cases e;obtain⟨a,ea,rfl⟩:=kh (xs:=[]) rl rv;obtain⟨b1,b2,b3,b4,b5⟩:=hb;have hH:H a=ba (.rng lo hi):=by
     unfold BI at hr;split at hr
     ·rename_i hx;cases hr;show so.obj i _ a hx ea
     ·cases hr
    obtain⟨t,u,v,ho⟩:=I.hok a _ hH;have hn:MC lo hi 1=((hi-lo).toNat:Kf):=by rw[Rl];split<;>omega
    show call_list_range hh ho (Ua b1 b2 b3 b4) hn b5 λh' tk acc c hk hD hacc=>?_
    have hv:Vals ((KH (hi-lo).toNat).map λ(k:Kf)=>V.int (lo+(k:Ks))) acc.toList:=by
     show nX (by rw[J7,KQ,Km,hacc.1]) λi v u e1 e2=>?_
     rw[Kh,Kb]at e1;obtain⟨k,e1,rfl⟩:=e1;obtain⟨hk,rfl⟩:=Kq.mp e1;obtain⟨t,rfl⟩:=hacc.2 i u (by rw[<- LJ];show e2)
     show#[t,by simp]
    show iS (dr:=s.drawn) (u:=.lst ((KH (hi-lo).toNat).map λ(k:Kf)=>V.int (lo+(k:Ks)))) I so hk (Ki _) #[by simpa using b5,acc.toList,c,hv,by simpa using hD] λhn=>#[_,aJ,?_]
    show nY _
   ·cases e
  ·show iw J s Y H A S _ vs us w S' I so rl rv e
 ·show iw J s Y H A S _ vs us w S' I so rl rv e
end
mutual
inductive IsT (h:Lq):T->J9->Prop
 |int {i:Ks}{t:Vk}:IsT h (.int i) (.int i t)
 |str {x:KJ}{t:Vk}:IsT h (.str x) (.str x t)
 |tup {ks:J5 T}{a:Kj}{o:Mf}{items:KL J9}{n:Kf}:h.get? a=ba o->o.cls=.type "tuple"->o.data=.seq items n->IsTs h ks items.toList->IsT h (.tup ks) (.ref a)
inductive IsTs (h:Lq):J5 T->J5 J9->Prop
 |nil:IsTs h [] []
 |cons {k:T}{v:J9}{ks:J5 T}{vs:J5 J9}:IsT h k v->IsTs h ks vs->IsTs h (k::ks) (v::vs)
end
mutual
theorem IsT.inj {h:Lq}:∀{x y:T}{v:J9},IsT h x v->IsT h y v->x=y
 |_,_,_,.int,h2=>by cases h2;rfl
 |_,_,_,.str,h2=>by cases h2;rfl
 |_,_,_,.tup a1 _ d1 t1,h2=>by
  cases h2 with
  |tup a2 _ d2 t2=>
   rw[a1]at a2;cases a2
   rw[d1]at d2;cases d2
   rw[IsTs.inj t1 t2]
theorem IsTs.inj {h:Lq}:∀{x y:J5 T}{v:J5 J9},IsTs h x v->IsTs h y v->x=y
 |_,_,_,.nil,h2=>by cases h2;rfl
 |_,_,_,.cons a b,h2=>by
  cases h2 with
  |cons c d=>rw[IsT.inj a c,IsTs.inj b d]
end
mutual
theorem IsT.keeps {h h':Lq}{d:Kj}{o:Mf}{es:KL M0}{ep:Kf}(ho:h.get? d=ba o)(hd:o.data=.dict es ep)(hs:Mw d h h'):∀{x:T}{v:J9},IsT h x v->IsT h' x v
 |_,_,.int=>.int
 |_,_,.str=>.str
 |_,_,.tup (a:=a) a1 c1 d1 t1=>by
  have hne:a≠d:=by
   rintro rfl;rw[a1]at ho;cases ho
   rw[d1]at hd;cases hd
  show .tup ((hs.2 a hne).trans a1) c1 d1 (IsTs.keeps ho hd hs t1)
theorem IsTs.keeps {h h':Lq}{d:Kj}{o:Mf}{es:KL M0}{ep:Kf}(ho:h.get? d=ba o)(hd:o.data=.dict es ep)(hs:Mw d h h'):∀{x:J5 T}{v:J5 J9},IsTs h x v->IsTs h' x v
 |_,_,.nil=>.nil
 |_,_,.cons a b=>.cons (IsT.keeps ho hd hs a) (IsTs.keeps ho hd hs b)
end
def IsTs.length {h:Lq}:∀{x:J5 T}{v:J5 J9},IsTs h x v->↥x=↥v
 |_,_,.nil=>rfl
 |_,_,.cons _ b=>by simp[IsTs.length b]
def IsTs.get {h:Lq}:∀{x:J5 T}{v:J5 J9},IsTs h x v->∀(j:Kf) (h1:j<↥x) (h2:j<↥v),IsT h x[j] v[j]
 |_,_,.cons a _,0,_,_=>a
 |_,_,.cons _ b,j+1,h1,h2=>IsTs.get b j (by simpa using h1) (by simpa using h2)
def b7:∀{ks:J5 T} (j:Kf) (h:j<↥ks),(ks[j]).depth<=T.depths ks
 |k::ks,0,_=>by revert T.depths List.getElem_cons_zero;omega
 |k::ks,j+1,h=>by
  have:=b7 (ks:=ks) j (by simpa using h)
  revert T.depths List.getElem_cons_succ;omega
section
variable{prog:K9}{w:Ll}{E:J9->Kc->Prop}
mutual
theorem pQ:∀(k:T) (v:J9) (A:Ld) (s:Kc) (Q:Ks->Kc->Prop),IsT s.heap k v->A.units+k.depth<cLine->Q (eG w k) {s with toks:=s.toks+k.draws}->wpAny (model prog w) A (pyHash v) Q E s
 |.int i,_,A,s,Q,x,_,h=>by cases x;show Sd h
 |.str y,_,A,s,Q,x,_,h=>by cases x;show Se h
 |.tup ks,_,A,s,Q,x,hu,h=>by
  cases x with
  |@tup _ a o items n hg hc hd hw=>
   simp only[T.depth]at hu;show PySem.W.pyHash_slot (T:="tuple") #[_,hg,hc] F.slot_tuple_hash F.entry_tuple_hash (F.args_tuple_hash_1 _) (beq_builtin_none _) (.inr ∅) ?_
   change wpAny _ _ (Ob (.ref a) >>= _) _ _ s;show J6 (wpAny_tupleItemsOf hg hd ?_);show J6 ?_;rw[<- OG];show kO ks items.toList A.in1 s #[] _ hw (by rw[aI];omega) λb hb=>?_
   change wpAny _ _ (retInt (Oq b.toList)) _ _ _;rw[hb];show J6 (SK (Kd #[_,_,rfl,?_]))
   simpa [T.draws,TW,eG]using h
theorem kO:∀(ks:J5 T) (vs:J5 J9) (A:Ld) (s:Kc) (b:KL Ks) (Q:KL Ks->Kc->Prop),IsTs s.heap ks vs->A.units+T.depths ks<cLine->
  (∀b',b'.toList=b.toList++iq w ks->Q b' {s with toks:=s.toks+T.drawss ks})->
  wpAny (model prog w) A (forIn vs b λx r=>do let h <- pyHash x;pure RB;pure (Mz (r.push h))) Q E s
 |[],_,A,s,b,Q,x,_,h=>by cases x;show Kd (h b (by simp[iq]))
 |k::ks,_,A,s,b,Q,x,hu,h=>by
  cases x with
  |cons x1 x2=>
   simp only[T.depths]at hu;rw[Pd];show J6 (J6 (pQ k _ A s _ x1 ∅ ?_))
   show J6 (Kd (Kd ?_));show kO ks _ A _ _ Q x2 ∅ λb' hb=>?_
   have:=h b' (by simp[hb,iq])
   simpa [T.drawss,TW]using this
end
open SeqAt in
def vV:∀(d:Kf) (x y:T) (u v:J9) (B:Ld) (s:Kc),x.depth<=d->IsT s.heap x u->IsT s.heap y v->B.units+d<cLine->B.units+y.depth<cLine->EqAt B s u v (decide (x=y))
 |d,.int i,y,_,_,B,s,_,h1,h2,hu,hv=>by
  cases h1;cases h2 with
  |int=>
   rename_i j t2;have:decide (T.int i=T.int j)=(i==j):=by by_cases e:i=j<;>simp[e]
   rw[this];show .int_int _ _ _ _
  |str=>rw[Le (by simp)];show .int_str _ _ _ _
  |tup a c dd t=>rw[Le (by simp)];show .int_tuple _ _ #[_,a,c,_,dd] (by simp only[T.depth]at hv;omega)
 |d,.str z,y,_,_,B,s,_,h1,h2,hu,hv=>by
  cases h1;cases h2 with
  |int=>rw[Le (by simp)];show .str_int _ _ _ _
  |str=>
   rename_i z2 t2;have:decide (T.str z=T.str z2)=(z==z2):=by by_cases e:z=z2<;>simp[e]
   rw[this];show .str_str _ _ _ _
  |tup a c dd t=>rw[Le (by simp)];show .str_tuple _ _ #[_,a,c,_,dd] (by simp only[T.depth]at hv;omega)
 |0,.tup ks,y,_,_,B,s,hd,h1,h2,hu,hv=>by simp[T.depth]at hd
 |d+1,.tup ks,y,_,_,B,s,hd,h1,h2,hu,hv=>by
  have h1':=h1;cases h1 with
  |@tup _ a o items n a1 c1 d1 t1=>
   have hT:s.heap.IsTuple a items:=#[_,a1,c1,_,d1];simp only[T.depth]at hd;cases h2 with
   |int=>rw[Le (by simp)];show .tuple_int _ _ hT ∅
   |str=>rw[Le (by simp)];show .tuple_str _ _ hT ∅
   |@tup ks2 b o2 items2 n2 a2 c2 d2 t2=>
    have hT2:s.heap.IsTuple b items2:=#[_,a2,c2,_,d2]
    by_cases hab:a=b
    ·subst hab;have:T.tup ks=T.tup ks2:=h1'.inj (.tup a2 c2 d2 t2);rw[LZ this];show EqAt.same _
    ·show EqAt.of_refs hab ?_;simp only[T.depth]at hv;have l1:⇑items=↥ks:=by rw[<- Km,↥t1]
     have l2:⇑items2=↥ks2:=by rw[<- Km,↥t2]
     let e:Kf->KU:=λj=>if h:j<↥ks/\j<↥ks2 then decide (ks[j]'h.1=ks2[j]'h.2)else true
     have he:∀j (h1:j<⇑items) (h2:j<⇑items2),EqAt B.in1 s items[j] items2[j] (e j):=λj j1 j2=>by
      have g1:=t1.get j (l1▸j1) (by simpa using j1)
      have g2:=t2.get j (l2▸j2) (by simpa using j2)
      have q1:=b7 (ks:=ks) j (l1▸j1);have q2:=b7 (ks:=ks2) j (l2▸j2);have:=vV d _ _ _ _ B.in1 s ∅ g1 g2 (by rw[aI];omega) (by rw[aI];omega)
      change EqAt B.in1 s items[j] items2[j] (if h:j<↥ks/\j<↥ks2 then decide (ks[j]'h.1=ks2[j]'h.2)else true)
      rw[UU #[l1▸j1,l2▸j2]]
      simpa using this
     have:=RcAt.tuples hT hT2 ∅ he
     have hk:((KH (min ⇑items ⇑items2)).all e&&⇑items==⇑items2)=decide (T.tup ks=T.tup ks2):=by
      rw[l1,l2]
      by_cases hl:↥ks=↥ks2
      ·by_cases hq:ks=ks2
       ·subst hq;revert Ui Lv Oz SL KA Kx;intro j hj;show(if h:j<↥ks/\j<↥ks then decide (ks[j]'h.1=ks[j]'h.2)else true)=true
        rw[UU #[hj,hj]];simp
       ·rw[Le (by simpa using hq)]
        have:∃j,∃h:j<↥ks,ks[j]≠ks2[j]'(hl▸h):=by
         apply Mp;intro hn;show hq (Nb hl λj h1 h2=>Mp λz=>hn #[j,h1,z])
        obtain⟨j,hj,hne⟩:=this;rw[QJ];apply Or.inl;rw[List.all_eq_false];show#[j,by rw[Kx,<- hl,Ui];show hj,?_]
        show ¬ (if h:j<↥ks/\j<↥ks2 then decide (ks[j]'h.1=ks2[j]'h.2)else true)=true
        rw[UU #[hj,hl▸hj]]
        simpa using hne
      ·rw[Le (by simp;intro z;show hl (by rw[z])),QJ]
       right
       simpa using hl
     rw[hk]at this;show this
def mJ {n:Kf}{v:J9}(h:∀a,v≠.ref a):eqIsQuiet n v=pure true:=by
 cases v with
 |ref a=>show absurd rfl (h a)
 |_=>first|rfl|simp[eqIsQuiet]|(unfold eqIsQuiet;rfl)
def ki:∀(d:Kf) (k:T) (v:J9) (A:Ld) (s:Kc) (Q:KU->Kc->Prop),k.depth<=d->IsT s.heap k v->Q true s->wpAny (model prog w) A (eqIsQuiet d v) Q E s
 |d,.int i,_,A,s,Q,_,x,h=>by cases x;rw[mJ (λa=>by simp)];show Kd h
 |d,.str i,_,A,s,Q,_,x,h=>by cases x;rw[mJ (λa=>by simp)];show Kd h
 |0,.tup ks,_,A,s,Q,hd,x,h=>by simp[T.depth]at hd
 |d+1,.tup ks,_,A,s,Q,hd,x,h=>by
  cases x with
  |@tup _ a o items n ho hc hdt hi=>
   simp only[T.depth]at hd;have hT:s.TypeIs (.ref a) "tuple":=#[_,ho,hc];unfold eqIsQuiet;show J6 (QA hT F.slot_tuple_eq.lookup ?_);change wpAny _ _ (isInstance (.ref a) (.type "tuple") >>= _) _ _ s;show J6 (NI hT isSubtype_tuple_tuple ?_);revert Ny KT LO;show J6 (L9 ho hdt ?_);show J6 ?_;change wpAny _ _ (forIn items _ _) _ _ s;rw[<- OG];show Om _ (λaQ r s'=>r.1=gV/\s'=s/\∃kk,IsTs s.heap kk aQ/\T.depths kk<=d) _ ?_ ?_ _ _ #[rfl,rfl,ks,hi,∅]
   ·rintro v aQ r s' ⟨hr,rfl,kk,hall,hdk⟩;cases hall with
    |cons q1 q2=>
     simp only[T.depths]at hdk;show J6 (ki d _ v _ _ _ ∅ q1 ?_)
     revert Ny KT LO;show Kd #[rfl,rfl,_,q2,∅]
   ·rintro⟨r1,r2⟩ s' ⟨hr,rfl,_⟩;simp only at hr;subst hr;show Kd h
end
abbrev aV (prog:K9)(w:Ll):HeapKind prog w T where
 is:=λh k a=>IsT h k (.ref a)/\k.depth<=az
 hash:=eG w
 draws:=T.draws
 room:=λA=>A.units+az<cLine
 inj:=λhx hy=>hx.1.inj hy.1
 keeps:=λx ho hd hs=>#[x.1.keeps ho hd hs,x.2]
 pyHash:=λhu hk h=>pQ _ _ _ _ _ hk.1 (by have:=hk.2;omega) h
 eqBool:=λhu hx hy h=>vV az _ _ _ _ _ _ hx.2 hx.1 hy.1 hu (by have:=hy.2;omega) _ _ _ _ h
 quiet:=λhk h=>ki 8 _ _ _ _ _ (by have:=hk.2;unfold az at this;omega) hk.1 h
section
variable{prog:K9}{w:Ll}{E:J9->Kc->Prop}
def mK {n:Kf}{v:J9}(h:∀a,v≠.ref a):ofAClassStatement n v=pure false:=by
 cases v with
 |ref a=>show absurd rfl (h a)
 |_=>first|rfl|dsimp only[ofAClassStatement]|(unfold ofAClassStatement;rfl)
def nZ:∀(d:Kf) (k:T) (v:J9) (A:Ld) (s:Kc) (Q:KU->Kc->Prop),k.depth<=d->IsT s.heap k v->Q false s->wpAny (model prog w) A (ofAClassStatement d v) Q E s
 |d,.int i,_,A,s,Q,_,x,h=>by cases x;rw[mK (λa=>by simp)];show Kd h
 |d,.str i,_,A,s,Q,_,x,h=>by cases x;rw[mK (λa=>by simp)];show Kd h
 |0,.tup ks,_,A,s,Q,hd,x,h=>by simp[T.depth]at hd
 |d+1,.tup ks,_,A,s,Q,hd,x,h=>by
  cases x with
  |@tup _ a o items n ho hc hdt hi=>
   simp only[T.depth]at hd;have hT:s.TypeIs (.ref a) "tuple":=#[_,ho,hc];unfold ofAClassStatement;show J6 (NT hT ?_);dsimp only;rw[KF (show("tuple" == "tuple")=true by decide)]
   show J6 (Kd ?_);revert Ny KT LO;show J6 (L9 ho hdt ?_);show J6 ?_;change wpAny _ _ (forIn items _ _) _ _ s;rw[<- OG];show Om _ (λaQ r s'=>r.1=gV/\s'=s/\∃kk,IsTs s.heap kk aQ/\T.depths kk<=d) _ ?_ ?_ _ _ #[rfl,rfl,ks,hi,∅]
   ·rintro v aQ r s' ⟨hr,rfl,kk,hall,hdk⟩;cases hall with
    |cons q1 q2=>
     simp only[T.depths]at hdk;show J6 (nZ d _ v _ _ _ ∅ q1 ?_)
     revert KT LO;show Kd #[rfl,rfl,_,q2,∅]
   ·rintro⟨r1,r2⟩ s' ⟨hr,rfl,_⟩;simp only at hr;subst hr;show Kd h
def yf {A:Ld}{s:Kc}{Q:KU->Kc->Prop}{x:T}{b:Kj}{ys:J5 J9}(hx:IsT s.heap x (.ref b))(hdx:x.depth<=az)(hy:∀v∈ys,∃y c,v=.ref c/\IsT s.heap y (.ref c)/\y.depth<=az)(h:Q false s):wpAny (model prog w) A (searchCouldBeSeen (.ref b) ys) Q E s:=by
 unfold searchCouldBeSeen;show J6 ?_;show Om _ (λaQ r s'=>r.1=gV/\s'=s/\∀v∈aQ,∃y c,v=.ref c/\IsT s.heap y (.ref c)/\y.depth<=az) _ ?_ ?_ _ _ #[rfl,rfl,hy]
 ·rintro v aQ r s' ⟨hr,rfl,hall⟩;obtain⟨y,c,rfl,q,hdy⟩:=hall v (.head _);have hrest:∀v∈aQ,∃y c,v=.ref c/\IsT s'.heap y (.ref c)/\y.depth<=az:=λv hv=>hall v (.tail _ hv)
  have k6:az<=8:=by unfold az;decide
  dsimp only;split
  ·show Kd #[rfl,rfl,hrest]
  ·show J6 (ki 8 _ _ _ _ _ ∅ hx ?_)
   revert Ny KT LO;show J6 (ki 8 _ _ _ _ _ ∅ q ?_)
   revert Ny KT LO;show J6 (nZ 8 _ _ _ _ _ ∅ hx ?_)
   revert KT LO;show J6 (nZ 8 _ _ _ _ _ ∅ q ?_)
   revert KT LO;show Kd #[rfl,rfl,hrest]
 ·rintro⟨r1,r2⟩ s' ⟨hr,rfl,_⟩;simp only at hr;subst hr;show Kd h
end
inductive Sf where|there|free (slot:Kf)
abbrev bv (es:KL (Ks×T))(t:K1)(x:T)(h:Ks):Kf->Ke NJ->Ke Sf
 |0,_=>gV
 |f+1,stand=>match t.probe (λi=>(es[i]?.map (·.1)).getD 0) h (stand.getD (t.probeStart h))with
  |none=>gV
  |some (.empty j gV)=>ba (.free j)
  |some (.empty _ (ba _))=>gV
  |some (.candidate j i next)=>match es[i]? with
   |none=>gV
   |some (_,y)=>if y=x then ba .there else if t.slot j=.live i then bv es t x h f (ba next)else gV
structure SE (h:Lq)(es0:KL (Ks×T))(es:KL (Ks×J9)):Prop where
 size:⇑es0=⇑es
 ent:∀(i:Kf) (hh:Ks) (y:T),es0[i]?=ba (hh,y)->∃b:Kj,es[i]?=ba (hh,Lc b)/\IsT h y (.ref b)/\y.depth<=az
def SE.hash {h:Lq}{es0:KL (Ks×T)}{es:KL (Ks×J9)}(R:SE h es0 es):(λ(i:Kf)=>(es0[i]?.map (λp=>p.1)).getD 0)=λ(i:Kf)=>(es[i]?.map (λp=>p.1)).getD 0:=by
 funext i
 cases e:es0[i]? with
 |none=>
  have:es[i]?=gV:=by rw[Array.getElem?_eq_none_iff]at e ⊢;rw[<- ⇑R];show e
  rw[this];rfl
 |some p=>
  obtain⟨b,e2,_⟩:=R.ent i p.1 p.2 e;rw[e2];rfl
def SE.vals {h:Lq}{es0:KL (Ks×T)}{es:KL (Ks×J9)}(R:SE h es0 es):∀e∈es.toList,∃y c,e.2=.ref c/\IsT h y (.ref c)/\y.depth<=az:=λe he=>by
 obtain⟨i,hi,rfl⟩:=L3.mp he;rw[Km]at hi;have hi0:i<⇑es0:=by rw[⇑R];show hi
 obtain⟨b,e2,q⟩:=R.ent i es0[i].1 es0[i].2 (Lh hi0);rw[Lh hi]at e2;show#[_,b,?_,q];rw[O9,LB e2]
section
variable{prog:K9}{w:Ll}{E:J9->Kc->Prop}{A:Ld}{s:Kc}
def yg {a b:Kj}{o:Mf}{es0:KL (Ks×T)}{es:KL (Ks×J9)}{ep:Kf}{t:K1}{x:T}{h:Ks}{Q:SetFound->Kc->Prop}(ho:s.heap.get? a=ba o)(hd:o.data=.set es ep t)(hf:t.fits ⇑es=true)(hg:t.gaveWay=false)(R:SE s.heap es0 es)
    (hx:IsT s.heap x (.ref b)) (hdx:x.depth<=az) (hu:(aV prog w).room A):∀(f F:Kf) (stand:Ke NJ) (r:Sf),bv es0 t x h f stand=ba r->f<=F->(r=.there->Q (.there gV) s)->(∀j,r=.free j->Q (.free j false) s)->
    wpAny (model prog w) A (setSearchFrom a (.ref b) h true F stand) Q E s:=by
  intro f
  induction f with
  |zero=>intro F stand r e;cases e
  |succ f ih=>
    intro F stand r e hF h1 h2;obtain⟨F,rfl⟩:∃F',F=F'+1:=#[F-1,∅]
    unfold setSearchFrom;show J6 (LW ho hd hf ?_);dsimp only;rw[hg];revert KT LO;unfold bv at e;rw[R.hash]at e;split
    · rename_i met hm
      have hm:t.probe (λi=>(es[i]?.map (·.1)).getD 0) h (stand.getD (t.probeStart h))=ba met:=hm
      rw[hm]at e;cases met with
      |empty j dm=>
        cases dm with
        |none=>cases e;show Kd (h2 j rfl)
        |some d=>cases e
      |candidate j i next=>
        dsimp only at e ⊢;cases ei:es0[i]? with
        |none=>rw[ei]at e;cases e
        |some p=>
          obtain⟨hh,y⟩:=p;rw[ei]at e;dsimp only at e;obtain⟨c,ec,qy,hdy⟩:=R.ent i hh y ei;rw[ec];dsimp only;have sm:t.sameMemory t.moves t.mask=ba true:=by unfold UL;rw[KF (Lv _)]
          have hv:∀v∈UA (λx=>x.snd) (Array.filter (λx=>x.fst==h) es).toList,∃y c,v=Lc c/\IsT s.heap y (.ref c)/\y.depth<=az:=λv hv=>by
            obtain⟨p,hp,rfl⟩:=Kn.mp hv;rw[Array.toList_filter]at hp;show R.vals p (L7.mp hp).1
          cases hl:t.led
          · revert QT Mm
            show J6 (yf hx hdx hv ?_);revert KT LO;show J6 (LK ((aV prog w).eqBool hu #[qy,hdy] #[hx,hdx] ?_));show J6 (LW ho hd hf ?_)
            by_cases hyx:y=x
            · rw[KF hyx]at e
              cases e;revert hyx SL Oz Mm;show Kd (h1 rfl)
            · rw[KM hyx]at e
              split at e
              · rename_i hsl
                revert hyx Uj Px KT LO sm Mm hsl ec;show J6 (QK ?_);show J6 (Kd ?_);revert Mm;show ih F (ba next) r e ∅ h1 h2
              · cases e
          · revert Ny KT LO
            show J6 (LK ((aV prog w).eqBool hu #[qy,hdy] #[hx,hdx] ?_));show J6 (LW ho hd hf ?_)
            by_cases hyx:y=x
            · rw[KF hyx]at e
              cases e;revert hyx SL Oz Mm;show Kd (h1 rfl)
            · rw[KM hyx]at e
              split at e
              · rename_i hsl
                revert hyx Uj Px KT LO sm Mm hsl ec;show J6 (QK ?_);show J6 (Kd ?_);revert Mm;show ih F (ba next) r e ∅ h1 h2
              · cases e
    · rename_i hm
      have hm:t.probe (λi=>(es[i]?.map (·.1)).getD 0) h (stand.getD (t.probeStart h))=gV:=by
        first|show hm|(cases hp:t.probe (λi=>(es[i]?.map (·.1)).getD 0) h (stand.getD (t.probeStart h))with
          |none=>rfl
          |some m=>show absurd hp (hm m))
      rw[hm]at e;cases e
end
mutual
def dZ:T->KU
 |.int _=>true
 |.str _=>false
 |.tup xs=>cK xs
def cK:J5 T->KU
 |[]=>true
 |x::xs=>dZ x&&cK xs
end
section
variable{prog:K9}{w:Ll}{E:J9->Kc->Prop}
def tZ:∀(d:Kf) (k:T) (v:J9) (A:Ld) (s:Kc) (Q:KU->Kc->Prop),dZ k=true->k.depth<=d->IsT s.heap k v->Q true s->wpAny (model prog w) A (hashByValue d v) Q E s
 |d,.int i,_,A,s,Q,_,_,x,h=>by
  cases x;have:∀t,hashByValue d (.int i t)=pure true:=λt=>by cases d<;>rfl
  rw[this];show Kd h
 |d,.str i,_,A,s,Q,hn,_,x,h=>by cases hn
 |0,.tup ks,_,A,s,Q,_,hd,x,h=>by simp[T.depth]at hd
 |d+1,.tup ks,_,A,s,Q,hn,hd,x,h=>by
  cases x with
  |@tup _ a o items n ho hc hdt hi=>
   simp only[T.depth]at hd;have hn:cK ks=true:=hn;have hT:s.TypeIs (.ref a) "tuple":=#[_,ho,hc];unfold hashByValue;show J6 (QA hT F.slot_tuple_hash.lookup ?_);show J6 (L9 ho hdt ?_);show J6 ?_;change wpAny _ _ (forIn items _ _) _ _ s;rw[<- OG];show Om _ (λaQ r s'=>r.1=gV/\s'=s/\∃kk,IsTs s.heap kk aQ/\T.depths kk<=d/\cK kk=true) _ ?_ ?_ _ _ #[rfl,rfl,ks,hi,∅,hn]
   ·rintro v aQ r s' ⟨hr,rfl,kk,hall,hdk,hnk⟩;cases hall with
    |cons q1 q2=>
     simp only[T.depths]at hdk;simp only[cK,Kg]at hnk;show J6 (tZ d _ v _ _ _ hnk.1 ∅ q1 ?_)
     revert Ny KT LO;show Kd #[rfl,rfl,_,q2,∅,hnk.2]
   ·rintro⟨r1,r2⟩ s' ⟨hr,rfl,_⟩;simp only at hr;subst hr;show Kd h
end
noncomputable abbrev Ze:=Ks×T×Kj
abbrev zT (z:Ze):Ks×T:=(z.1,z.2.1)
abbrev zV (z:Ze):Ks×J9:=(z.1,.ref z.2.2)
abbrev ZOk (h:Lq)(zs:KL Ze):Prop:=∀z∈zs.toList,IsT h z.2.1 (.ref z.2.2)/\z.2.1.depth<=az
def ZOk.se {h:Lq}{zs:KL Ze}(k:ZOk h zs):SE h (zs.map zT) (zs.map zV):=#[by simp,λi hh y e=>by
 rw[OH,Kb]at e;obtain⟨z,hz,e⟩:=e;cases e;show#[z.2.2,by rw[OH,hz];rfl,k z (by rw[ME];show MQ hz)]]
def iT {α β:Type}{f:α->β}{xs:KL α}{p:Kf}{x:α}:KN (xs.map f) p (f x)=(KN xs p x).map f:=by
 unfold KN;simp[Array.map_extract]
abbrev cL (t:K1)(n:Kf):KU:=t.fits n && !t.gaveWay&&decide (n<=1000)
abbrev bj (hf:T->Ks)(st:KL (Ks×T)×K1)(x:T):Ke (KL (Ks×T)×K1):=
 match bv st.1 st.2 x (hf x) 2000 gV with
 |none=>gV
 |some .there=>ba st
 |some (.free slot)=>
  if cL (st.2.put slot).1 (KN st.1 (st.2.put slot).2 (hf x,x)).size then
   if (st.2.put slot).1.tooFull then
    if OI (NK (st.1.size+1))<=sizeLine then
     match (st.2.put slot).1.relaid ((KN st.1 (st.2.put slot).2 (hf x,x)).map (·.1)) (NK (st.1.size+1))with
     |none=>gV
     |some (t2,order)=>
      if (order.filterMap ((KN st.1 (st.2.put slot).2 (hf x,x))[·]?)).size=(KN st.1 (st.2.put slot).2 (hf x,x)).size/\cL t2 (order.filterMap ((KN st.1 (st.2.put slot).2 (hf x,x))[·]?)).size=true then ba (order.filterMap ((KN st.1 (st.2.put slot).2 (hf x,x))[·]?),t2)else gV
    else gV
   else ba (KN st.1 (st.2.put slot).2 (hf x,x),(st.2.put slot).1)
  else gV
def filterMap_map {α β:Type}{f:α->β}{xs:KL α}{order:KL Kf}:order.filterMap ((xs.map f)[·]?)=(order.filterMap (xs[·]?)).map f:=by
 rw[Array.map_filterMap];congr 1
 funext i
 show OH ..
def sd {b:Kj}{es:KL (Ks×J9)}:byScan (.ref b) es=false:=rfl
def kP {t:K1}{n:Kf}(h:cL t n=true):t.fits n=true/\t.gaveWay=false/\n<=1000:=by
 unfold cL at h;simp only[Kg,N6,KG]at h;show#[h.1.1,h.1.2,h.2]
section
variable{prog:K9}{w:Ll}{E:J9->Kc->Prop}{A:Ld}{s:Kc}
def sf {a:Kj}{o:Mf}{es es1:KL (Ks×J9)}{ep:Kf}{t t1:K1}{Q:Vc->Kc->Prop}(ho:s.heap.get? a=ba o)(hd:o.data=.set es ep t)(hz:⇑es1<=1000)
  (h:∀h',Mw a s.heap h'->h'.get? a=ba {o with data:=.set es1 (ep+1) t1}->Q () {s with heap:=h'}):wpAny (model prog w) A (storeSet a es1 t1) Q E s:=by
 show wpAny_storeSet_of ho hd (h _ (NF ..) ?_) (KW hz (by rw[Lp];decide))
 have:=Ma (Obj.putSet es1 t1) ho (by rw[putSet_of es1 t1 hd];rfl)
 rw[putSet_of es1 t1 hd]at this;show this
def GF {a b:Kj}{o:Mf}{zs:KL Ze}{ep:Kf}{t:K1}{x:T}{hf:T->Ks}{es1:KL (Ks×T)}{t1:K1}{Q:KU->Kc->Prop}(ho:s.heap.get? a=ba o)(hd:o.data=.set (zs.map zV) ep t)(hft:cL t ⇑zs=true)(hz:ZOk s.heap zs)
  (hx:IsT s.heap x (.ref b)) (hdx:x.depth<=az) (hnx:dZ x=true) (hu:(aV prog w).room A) (e:bj hf (zs.map zT,t) x=ba (es1,t1))
  (k:∀(bb:KU) (h':Lq) (zs':KL Ze) (ep':Kf),zs'.map zT=es1->cL t1 ⇑zs'=true->Mw a s.heap h'->h'.get? a=ba {o with data:=.set (zs'.map zV) ep' t1}->(∀z∈zs'.toList,z∈zs.toList\/z=(hf x,x,b))->Q bb {s with heap:=h'}) :
  wpAny (model prog w) A (setAddHashed a (.ref b) (hf x)) Q E s:=by
 obtain⟨f1,f2,f3⟩:=kP hft;have f1':t.fits (zs.map zV).size=true:=by rw[LP];show f1
 unfold setAddHashed setAddHashedIn;show LK (J6 (LW ho hd f1' ?_));dsimp only;rw[sd];revert KT LO;unfold bj at e;cases hs:bv (zs.map zT) t x (hf x) 2000 gV with
 |none=>rw[hs]at e;cases e
 |some r=>
  rw[hs]at e;dsimp only at e;show J6 ?_;unfold setSearch;show yg ho hd f1' f2 hz.se hx hdx hu 2000 100000 gV r hs #v[] (λhr=>?_) λslot hr=>?_
  ·subst hr;cases e;show Kd (k false s.heap zs ep rfl hft (R0 ..) (by rw[<- hd];show ho) λz h=>.inl h)
  ·subst hr;dsimp only at e ⊢;show J6 (LW ho hd f1' ?_);dsimp only;split at e
   ·rename_i hok1;have eI:KN (zs.map zT) (t.put slot).2 (hf x,x)=(KN zs (t.put slot).2 (hf x,x,b)).map zT:=iT (f:=zT) (x:=(hf x,x,b));have eV:KN (zs.map zV) (t.put slot).2 (hf x,.ref b)=(KN zs (t.put slot).2 (hf x,x,b)).map zV:=iT (f:=zV) (x:=(hf x,x,b));have hmem:∀z∈(KN zs (t.put slot).2 (hf x,x,b)).toList,z∈zs.toList\/z=(hf x,x,b):=λz h=>by
     unfold KN at h;simp only[Pi,P1,La,Kt]at h;rcases h with(h|h)|h
     ·rw[Oc]at h;show .inl (by rw[PU]at h;show Pa (MF h))
     ·show .inr h
     ·rw[Oc]at h;show .inl (by rw[PU]at h;show Pa (MF h))
    rw[eI]at e hok1;rw[LP]at hok1;obtain⟨g1,g2,g3⟩:=kP hok1;rw[eV];have hfst:∀z1:KL Ze,NL (λx=>x.fst) (NL zV z1)=NL (λx=>x.fst) (NL zT z1):=λz1=>by
     rw[TX,TX];rfl
    simp only[LP]at e ⊢;generalize(t.put slot).1=tt at e hok1 g1 g2 ⊢;generalize KN zs (t.put slot).2 (hf x,x,b)=z1 at e hok1 g1 g3 hmem ⊢;clear eI eV;have k8:x.depth<=8:=KW hdx (by unfold az;decide)
    have g1v:tt.fits (NL zV z1).size=true:=by rw[LP];show g1
    have tail:∀h1:Lq,Mw a s.heap h1->h1.get? a=ba {o with data:=.set (NL zV z1) (ep+1) tt}->wpAny (model prog w) A (if (!false&&tt.tooFull)=true then do setRelay a (NK (⇑zs+1));pure true else pure true) Q E {s with heap:=h1}:=by
     intro h1 sb1 q1;cases htf:tt.tooFull with
     |false=>
      rw[htf]at e;simp only[KT,LO]at e;cases e;revert QT Px KT LO;show Kd (k true h1 z1 (ep+1) rfl hok1 sb1 q1 hmem)
     |true=>
      rw[htf]at e;simp only[Mm]at e;revert QT Oz Mm;split at e
      ·rename_i hle;cases hrel:tt.relaid (NL (λx=>x.fst) (NL zT z1)) (NK (⇑zs+1))with
       |none=>rw[hrel]at e;cases e
       |some p=>
        obtain⟨t2,order⟩:=p;rw[hrel]at e;dsimp only at e;rw[filterMap_map,LP]at e;split at e
        ·rename_i hc;cases e;obtain⟨c1,c2⟩:=hc;obtain⟨d1,d2,d3⟩:=kP c2;unfold setRelay;show J6 (J6 (LW q1 rfl g1v ?_));dsimp only;rw[KM (Qo.mpr hle)];rw[hfst,hrel];show J6 (ON (a:=(NL zV (SU (λx=>z1[x]?) order),t1)) ?_ ?_)
         ·show(if ((SU (λx=>(NL zV z1)[x]?) order).size != (NL zV z1).size)=true then _ else _)=_
          rw[filterMap_map,LP,LP,c1];rw[KM (by simp)]
         ·dsimp only;show sf (s:={s with heap:=h1}) q1 rfl (by rw[LP];show d3) λh2 sb2 q2=>Kd (k true h2 _ (ep+1+1) rfl c2 (sb1.trans sb2) q2 λz hz=>hmem z ?_)
          obtain⟨i,hi,e⟩:=Array.mem_filterMap.mp (ME.mp hz);show ME.mpr (MQ e)
        ·cases e
      ·cases e
    cases hp:tt.plain with
    |false=>
     revert KT LO;show J6 (Kd ?_);revert Mm;show J6 (sf ho hd (by rw[LP];show g3) λh1 sb1 q1=>tail h1 sb1 q1)
    |true=>
     revert Mm;show J6 (tZ 8 _ _ _ _ _ hnx k8 hx ?_);revert Mm;show J6 (sf ho hd (by rw[LP];show g3) λh1 sb1 q1=>tail h1 sb1 q1)
   ·cases e
end
abbrev gO (h h':Lq):Prop:=∀c o,h.get? c=ba o->o.cls=.type "tuple"->h'.get? c=ba o
mutual
theorem IsT.stay {h h':Lq}(k:gO h h'):∀{x:T}{v:J9},IsT h x v->IsT h' x v
 |_,_,.int=>.int
 |_,_,.str=>.str
 |_,_,.tup a b c d=>.tup (k _ _ a b) b c (IsTs.stay k d)
theorem IsTs.stay {h h':Lq}(k:gO h h'):∀{x:J5 T}{v:J5 J9},IsTs h x v->IsTs h' x v
 |_,_,.nil=>.nil
 |_,_,.cons a b=>.cons (IsT.stay k a) (IsTs.stay k b)
end
def ZOk.stay {h h':Lq}{zs:KL Ze}(k:gO h h')(z:ZOk h zs):ZOk h' zs:=λy hy=>#[(z y hy).1.stay k,(z y hy).2]
section
variable{prog:K9}{w:Ll}{A:Ld}{E:J9->Kc->Prop}{s:Kc}{R:Sh->Kc->Prop}{I:Kj}{fp wr:J5 Kj}{G:KL QR->KL QR->Prop}{n:Kf}{P:Kf->J9->Prop}{St:Kf->Kc->Prop}
abbrev kQ (w:Ll)(zs:KL Ze)(ep:Kf)(t:K1):Mf:={cj w with data:=.set (zs.map zV) ep t}
def vW (W:WalksS prog w A.in1 I fp wr G n P St){D:Kj}(hD:D∉fp)(hwr:∀i s b o,St i s->b∈wr->s.heap.get? b=ba o->o.cls≠.type "tuple"){ks:J5 T}{res:KL (Ks×T)×K1}{Yx:T->Kj->Prop}(hl:↥ks=n)(hk:∀x∈ks,dZ x=true/\x.depth<=az)(hP:∀i v,P i v->∃x b,ks[i]?=ba x/\v=.ref b/\Yx x b)(hu:(aV prog w).room A.in1) :
  ∀(k i:Kf) (s:Kc) (zs:KL Ze) (ep:Kf) (t:K1),n-i=k->i<=n->St i s->s.heap.get? D=ba (kQ w zs ep t)->cL t ⇑zs=true->ZOk s.heap zs->(∀z∈zs.toList,Yx z.2.1 z.2.2)->(∀j v x,P j v->ks[j]?=ba x->IsT s.heap x v)->(ks.drop i).foldlM (bj (eG w)) (zs.map zT,t)=ba res->
   (∀s' zs' ep',Moved (D::wr) G s s'->s'.heap.get? D=ba (kQ w zs' ep' res.2)->zs'.map zT=res.1->cL res.2 ⇑zs'=true->ZOk s'.heap zs'->(∀z∈zs'.toList,Yx z.2.1 z.2.2)->R (.ok (.ret .none)) s')->codeAny (model prog w) A (.builtin "set.update.loop" #[[.ref D,.ref I],[]]) R s:=by
 have hw:D∉wr:=λz=>hD (W.sub _ z)
 have up:∀b∈wr,b∈D::wr:=λb z=>LL _ z
 intro k
 induction k with
 |zero=>
  intro i s zs ep t hk' hi st ho hok hz hy hT hsim hR;obtain rfl:i=n:=∅
  show LM F.entry_set_update_loop ?_;rw[LH F.plain_set_update_loop _];change wpAny _ A.in1 (pyNext (.ref I) >>= _) _ _ s;show J6 (W.done s _ _ st λs' mv=>?_)
  rw[OW ∅]at hsim
  cases hsim;have ts:gO s.heap s'.heap:=λc o q hc=>mv.heap c o (λz=>hwr _ _ _ _ st z q hc) q
  show Kd (hR s' zs ep (mv.mono up) (mv.heap D _ hw ho) rfl hok (hz.stay ts) hy)
 |succ k ih=>
  intro i s zs ep t hk' hi st ho hok hz hy hT hsim hR;have hlt:i<n:=∅
  show LM F.entry_set_update_loop ?_;rw[LH F.plain_set_update_loop _];change wpAny _ A.in1 (pyNext (.ref I) >>= _) _ _ s;show J6 (W.item i s _ _ hlt st λv s1 pv st1 mv=>?_)
  obtain⟨x,b,hx,rfl,yx⟩:=hP i v pv;have ts1:gO s.heap s1.heap:=λc o q hc=>mv.heap c o (λz=>hwr _ _ _ _ st z q hc) q
  obtain⟨hn,hdp⟩:=hk x (Ko hx);have HV:IsT s1.heap x (.ref b):=(hT i _ x pv hx).stay ts1;have o1:s1.heap.get? D=ba (kQ w zs ep t):=mv.heap D _ hw ho;have hd1:ks.drop i=x::ks.drop (i+1):=by
   obtain⟨h1,h2⟩:=Kq.mp hx;rw[List.drop_eq_getElem_cons h1,h2]
  rw[hd1,NM]at hsim;cases hs:bj (eG w) (zs.map zT,t) x with
  |none=>rw[hs]at hsim;cases hsim
  |some aG=>
   obtain⟨es1,t1⟩:=aG;rw[hs]at hsim;have hsim:(ks.drop (i+1)).foldlM (bj (eG w)) (es1,t1)=ba res:=hsim;change wpAny _ A.in1 (holding [Lc b] (setAdd D (.ref b)) >>= _) _ _ s1;show J6 (LK ?_);unfold setAdd;show LK (J6 ((aV prog w).pyHash hu #[HV,hdp] ?_));show GF (s:={s1 with toks:=s1.toks+x.draws}) (hf:=eG w) o1 rfl hok (hz.stay ts1) HV hdp hn hu hs λbb h' zs' ep' e1 hok' sb ho' hmem=>?_
   have ts2:gO s1.heap h':=λc o q hc=>by
    show sb.extBut c o (λz=>?_) q
    subst z;rw[o1]at q;cases q;show absurd hc (by change ¬ (Mq "set" = Mq "tuple");simp)
   have hz':ZOk h' zs':=λz hzm=>by
    rcases hmem z hzm with h|rfl
    ·show((hz.stay ts1).stay ts2) z h
    ·show#[HV.stay ts2,hdp]
   show Kd #[MH F.plain_set_update_loop _,ih (i+1) {s1 with heap:=h',toks:=s1.toks+x.draws} zs' ep' t1 ∅ hlt (W.frame _ s1 _ _ st1 (Nc _ _) λc hc u q=>?_) ho' hok' hz' (λz hzm=>by
    rcases hmem z hzm with h|rfl
    ·show hy z h
    ·show yx) (λj v y pj hy=>((hT j v y pj hy).stay ts1).stay ts2) (by rw[e1];show hsim) λs2 zs2 ep2 mv2 ho2 e2 hok2 hz2 hy2=>?_]
   ·rw[sb.2 c λz=>hD (z▸hc)];show q
   ·show hR s2 zs2 ep2 (Moved.trans W.gtrans ((mv.mono up).then_heap (Nc _ _) λc u hc q=>?_) mv2) ho2 e2 hok2 hz2 hy2
    rw[sb.2 c λz=>hc (z▸LX)]
    show q
end
section
variable{prog:K9}{w:Ll}{A:Ld}{E:J9->Kc->Prop}{s:Kc}
def yh (l:KU):cL (.fresh 0 0 l) (#[]:KL Ze).size=true:=by cases l<;>decide
set_option maxHeartbeats 4000000 in
def vX {l:Kj}{its:KL J9}{ks:J5 T}{res:KL (Ks×T)×K1}{Q:J9->Kc->Prop}(hh:A.handled=gV)(hl:s.heap.IsList l its)(hi:IsTs s.heap ks its.toList)(hk:∀x∈ks,dZ x=true/\x.depth<=az)(hrf:∀(i:Kf) (v:J9),its[i]?=ba v->∃b,v=.ref b)(hu:(aV prog w).room A.in1.in1.in1)(hsim:ks.foldlM (bj (eG w)) (#[],.fresh 0 0 (!fj w))=ba res)
  (h:∀(h':Lq) (tk:Kf) (zs:KL Ze) (ep:Kf),h'.get? ⇑s.heap.objs=ba (kQ w zs ep res.2)->zs.map zT=res.1->cL res.2 ⇑zs=true->ZOk h' zs->(∀z∈zs.toList,∃i:Kf,ks[i]?=ba z.2.1/\its[i]?=ba (Lc z.2.2))->(∀b u,s.heap.get? b=ba u->h'.get? b=ba u)->Q (.ref ⇑s.heap.objs) {s with heap:=h',toks:=tk}):wpAny (model prog w) A (call (.type "set") [.ref l]) Q E s:=by
 obtain⟨c,tl,hmro⟩:=F.called_set.mro;have hmade:=F.called_set.made;have hsub:=F.called_set.sub;have hn1:=F.called_set.notType;have hn2:=F.called_set.canCreate;have hct:=F.typeCall_set_1 (.ref l);show wpAny_call (Qz ?_);change wpAny _ _ (callAny (.type "set") _) _ _ _;show Kd #[RC _ (by decide +kernel),LM F.entry_type_call ?_]
 rw[Around.under_plain (weight_type_call_type "set" [.ref l] []) rfl]
 repeat (any_goals (first|assumption|wp_step))
 show OP (ya (w:=w) (.ref l) (E:=E) (Q₁:=λobj s1=>obj=.ref ⇑s.heap.objs/\s1={s with heap:=s.heap.push (cj w)}) #[rfl,rfl]) λr s1 hr=>?_
 match r,hr with
 |.ok (.ret obj),hr=>
  obtain⟨rfl,rfl⟩:=hr;have oS:(s.heap.push (cj w)).get? ⇑s.heap.objs=ba (cj w):=Ku _ rfl;have tS:Shared.TypeIs {s with heap:=s.heap.push (cj w)} (.ref ⇑s.heap.objs) "set":=#[_,oS,rfl]
  have hli:=F.called_set.init.lookup;have hbi:=F.called_set.init.bind (.ref ⇑s.heap.objs)
  repeat (any_goals (first|assumption|wp_step))
  show OP (codeAny_call_builtin (R:=wants (λr s2=>r=.none/\∃h' tk zs ep,s2={s with heap:=h',toks:=tk}/\h'.get? ⇑s.heap.objs=ba (kQ w zs ep res.2)/\zs.map zT=res.1/\cL res.2 ⇑zs=true/\ZOk h' zs/\(∀z∈zs.toList,∃i:Kf,ks[i]?=ba z.2.1/\its[i]?=ba (Lc z.2.2))/\∀b u,s.heap.get? b=ba u->h'.get? b=ba u) E) F.called_set.init.plain F.entry_set_init (check_set_init_1 tS ?_)) λr2 s2 hr2=>?_
  ·obtain⟨⟨oc,od,ot,osl⟩,hol,hcl,nl,hdl⟩:=id hl;simp only at hcl hdl;subst hcl hdl;have hol1:=J8 (cj w) hol;have l1:(s.heap.push (cj w)).IsList l its:=#[_,hol1,rfl,nl,rfl];have e1:=F.sub_list_set;have e2:=F.sub_list_frozenset;have e3:(Mq "list" == Mq "dict")=false:=by decide
   unfold NE.«set.__init__» noKeywords SV;generalize hPI:pyIter=PI
   wp_walk
   subst hPI;show N7 l1 (J6 (OV ?_));have ls:l<⇑s.heap.objs:=KC hol;have sz:(s.heap.push (cj w)).objs.size=⇑s.heap.objs+1:=Mj ..;have ne:l≠(s.heap.push (cj w)).objs.size:=by rw[sz];show KO (Nt ls)
   have oS':(s.heap.push (cj w)).get? ⇑s.heap.objs=ba (kQ w #[] 0 (.fresh 0 0 (!fj w))):=by
    rw[oS];unfold kQ cj;simp
   have len:↥ks=⇑its:=by rw[↥hi,Km]
   show vW ((Ts (A:=A.in1.in1.in1) (by simp[hh]) _ l ne its).toS) (D:=⇑s.heap.objs) (ks:=ks) (res:=res) (Yx:=λx b=>∃i:Kf,ks[i]?=ba x/\its[i]?=ba (Lc b)) (by rw[sz];revert KD Li Mo Sq;show#[KO (L0 _),Mb ls]) (λi s b o st hb q=>?_) len hk (λi v q=>?_) hu _ 0 _ #[] 0 (.fresh 0 0 (!fj w)) rfl (LC _)
    #[#[_,Ku _ rfl,rfl,rfl],l1.push _] (J8 _ oS') (yh _) (λz hz=>by simp at hz) (λz hz=>by simp at hz) (λj v x q hx=>?_) (by rw[PF,show NL zT #[]=#[] by simp];show hsim) λs3 zs3 ep3 mv ho3 e3 hok3 hz3 hy3=>?_
   ·obtain⟨⟨o',e,hc,_⟩,_⟩:=st;rw[Kt.mp hb]at q;rw[q]at e;cases e;rw[hc];simp
   ·obtain⟨b,rfl⟩:=hrf i v q;have hi':i<↥ks:=by rw[len];show(K7.mp q).1
    show#[ks[i],b,Kl hi',rfl,i,Kl hi',q]
   ·have hj:=(Kq.mp hx);have q':=(K7.mp q);obtain⟨h1,rfl⟩:=hj;obtain⟨h2,rfl⟩:=q';have:=hi.get j h1 (by rw[Km];show h2)
    rw[O9]at this;show this.stay λc o q hc=>J8 _ (J8 _ q)
   ·rw[TV mv];show Kd (Kd #[rfl,s3.heap,s3.toks,zs3,ep3,rfl,ho3,e3,hok3,hz3,hy3,λb u q=>?_])
    have hb:=KC q;show mv.heap b u (by rw[sz];revert KD Li Mo Sq;show#[KO hb,KO (Nt hb)]) (J8 _ (J8 _ q))
  ·match r2,hr2 with
   |.ok (.ret r),hr2=>
    obtain⟨rfl,h',tk,zs,ep,rfl,g1,g2,g3,g4,g5,g6⟩:=hr2
    repeat (any_goals (first|assumption|wp_step))
    show h h' tk zs ep g1 g2 g3 g4 g5 g6
   |.ok .next,hr2=>show hr2.elim
   |.ok .brk,hr2=>show hr2.elim
   |.ok .cont,hr2=>show hr2.elim
   |.error e,hr2=>show hr2
 |.ok .next,hr=>show hr.elim
 |.ok .brk,hr=>show hr.elim
 |.ok .cont,hr=>show hr.elim
 |.error e,hr=>show hr
end
abbrev jS (S:aa)(i:Kf):Ke (J5 (T×W)):=match S[i]? with
 |some (.dic U)=>ba U
 |some (.frd U)=>ba U
 |_=>gV
abbrev n0 (S:aa)(i:Kf):Ke (J5 (T×W)):=match S[i]? with
 |some (.dic U)=>ba U
 |_=>gV
abbrev bO (U:J5 (T×W))(k:T):Ke W:=(U.find? λp=>decide (p.1=k)).map (·.2)
abbrev d0 (U:J5 (T×W))(k:T)(v:W):J5 (T×W):=
 if (U.any λp=>decide (p.1=k))=true then U.map (λp=>if p.1=k then(p.1,v)else p)else U++[(k,v)]
abbrev gZ (w:W):Ke T:=match W.t w with
 |some k=>if k.isTup=true/\k.depth<=az then ba k else gV
 |none=>gV
def dP {w:W}{k:T}(h:gZ w=ba k):k.w=w/\k.isTup=true/\k.depth<=az:=by
 unfold gZ at h;split at h
 ·rename_i k' hk;split at h
  ·rename_i hc;cases h;show#[W.t_w hk,hc.1,hc.2]
  ·cases h
 ·cases h
def cD (U:J5 (T×W))(k:T)(v:W):(d0 U k v).length<=↥U+1:=by
 unfold d0;split
 ·rw[J7];omega
 ·rw[Kk,KZ,MO];omega
section
variable{X:Cx}{J:J5 (Kj×Mf)}{Y:L2.St}{H:Hp}{s:Kc}{A:J5 Kj}{S:aa}
mutual
theorem kR (I:Inv X J Y H s):∀(k:T) {v:V}{u:J9},Rel X.K A H k.w v->RelV v u->IsT s.heap k u
 |.int i,_,_,r,q=>by
  cases r;obtain⟨t,rfl⟩:∃t,_=Qd _ t:=q;show .int
 |.str x,_,_,r,q=>by
  cases r;obtain⟨t,rfl⟩:∃t,_=O0 _ t:=q;show .str
 |.tup ks,_,_,r,q=>by
  simp only[T.w]at r;cases r with
  |tup sq rl=>
   obtain⟨its,rv,⟨o,h1,h2,n,h3⟩,hz⟩:=I.tuple sq;obtain rfl:_=Lc _:=q;show .tup h1 h2 h3 (eH I ks rl (by simpa using rv))
theorem eH (I:Inv X J Y H s):∀(ks:J5 T) {vs:J5 V}{us:J5 J9},RelL X.K A H (T.ws ks) vs->Vals vs us->IsTs s.heap ks us
 |[],_,_,r,q=>by
  simp only[T.ws]at r;cases r;cases q;show .nil
 |k::ks,_,_,r,q=>by
  simp only[T.ws]at r;cases r with
  |cons r1 r2=>
   cases q with
   |cons q1 q2=>show .cons (kR I k r1 q1) (eH I ks r2 q2)
end
def jt (I:Inv X J Y H s){k:T}{b:Kj}(r:Rel X.K A H k.w (.ref b))(hd:k.depth<=az):(aV X.prog X.w).is s.heap k b:=#[kR I k r rfl,hd]
def iU {w:W}{k:T}{v:V}{u:J9}(hk:gZ w=ba k)(r:Rel X.K A H w v)(q:RelV v u):∃b,v=.ref b/\u=.ref b/\Rel X.K A H k.w (.ref b):=by
 obtain⟨h1,h2,h3⟩:=dP hk;subst h1;cases k with
 |tup ks=>
  simp only[T.w]at r;cases r with
  |tup a b=>show#[_,rfl,q,by revert T.w;show .tup a b]
 |_=>cases h2
def KRel.is {U:J5 (T×W)}{xs:J5 (T×Kj×J9)}(I:Inv X J Y H s)(r:KRel X.K A H U xs):∀x∈xs,(aV X.prog X.w).is s.heap x.1 x.2.1:=by
 unfold KRel at r
 induction r with
 |nil=>intro x hx;show nomatch hx
 |@cons p q ps qs h t ih=>
  intro x hx;rcases KD.mp hx with e|hx
  ·subst e;obtain⟨h1,h2,h3,h4,_⟩:=h;rw[h1]at h3 h4;show jt I h4 h3
  ·show ih x hx
def KRel.length {U:J5 (T×W)}{xs:J5 (T×Kj×J9)}(r:KRel X.K A H U xs):↥U=↥xs:=P6 r
def KRel.val {U:J5 (T×W)}{xs:J5 (T×Kj×J9)}(r:KRel X.K A H U xs)(k:T) :
  (∀w,bO U k=ba w->∃p v,atKey xs k=ba p/\Rel X.K A H w v/\RelV v p.2)/\(bO U k=gV->atKey xs k=gV):=by
 unfold KRel at r
 induction r with
 |nil=>show#[λw h=>(nomatch h),λ_=>rfl]
 |@cons p q ps qs h t ih=>
  obtain⟨h1,_,_,_,v,h5,h6⟩:=h
  by_cases e:p.1=k
  ·have e':q.1=k:=h1.symm.trans e;have a1:bO (p::ps) k=ba p.2:=by simp[bO,N1,e]
   have a2:atKey (q::qs) k=ba q.2:=by simp[atKey,N1,e']
   rw[a1,a2];show#[λw hw=>(by cases hw;show#[_,v,rfl,h5,h6]),λh=>nomatch h]
  ·have e':¬ q.1=k:=λz=>e (h1.trans z)
   have a1:bO (p::ps) k=bO ps k:=by simp[bO,N1,e]
   have a2:atKey (q::qs) k=atKey qs k:=by simp[atKey,N1,e']
   rw[a1,a2];show ih
def KRel.repl {U:J5 (T×W)}{xs:J5 (T×Kj×J9)}(r:KRel X.K A H U xs)(k:T){w:W}{v:V}{u:J9}(rw':Rel X.K A H w v)(rv:RelV v u) :
  KRel X.K A H (U.map λp=>if p.1=k then(p.1,w)else p) (xs.map (putAt k u)):=by
 unfold KRel at r ⊢
 induction r with
 |nil=>show .nil
 |@cons p q ps qs h t ih=>
  rw[LF,LF];show .cons ?_ ih;obtain⟨h1,h2,h3,h4,h5⟩:=h;unfold putAt
  by_cases e:p.1=k
  ·rw[KF e,KF (h1.symm.trans e)];show#[h1,h2,h3,h4,v,rw',rv]
  ·rw[KM e,KM (λz=>e (h1.trans z))];show#[h1,h2,h3,h4,h5]
def pR (k:T):∀U:J5 (T×W),(U.any λp=>decide (p.1=k))=(bO U k).isSome
 |[]=>rfl
 |p::r=>by
  rw[M9]
  by_cases e:p.1=k
  ·have a1:bO (p::r) k=ba p.2:=by simp[bO,N1,e]
   rw[a1,LZ e];rfl
  ·have a1:bO (p::r) k=bO r k:=by simp[bO,N1,e]
   rw[a1,Le e,P8];show pR k r
def KRel.put {U:J5 (T×W)}{xs:J5 (T×Kj×J9)}(r:KRel X.K A H U xs){k:T}{b:Kj}{w:W}{v:V}{u:J9}(h1:k.isTup=true)(h2:k.depth<=az)(h3:Rel X.K A H k.w (.ref b))(rw':Rel X.K A H w v)(rv:RelV v u) :
  KRel X.K A H (d0 U k w) (storedH xs k b u):=by
 have e:(U.any λp=>decide (p.1=k))=(atKey xs k).isSome:=by
  rw[pR];cases q:bO U k with
  |none=>rw[(r.val k).2 q];rfl
  |some x=>obtain⟨p,_,h,_⟩:=(r.val k).1 x q;rw[h];rfl
 unfold d0 storedH;rw[e]
 by_cases q:(atKey xs k).isSome=true
 ·rw[KF q,KF q];show r.repl k rw' rv
 ·rw[KM q,KM q];show Paired.snoc r #[rfl,h1,h2,h3,v,rw',rv]
def DicAt.of {h:Lq}{a:Kj}{xs:J5 (T×Kj×J9)}(hz:↥xs<=sizeLine)(hs:(a==sysModules)=false)(d:h.DictOfH (aV X.prog X.w) a xs):DicAt X.w a xs h:=
 let ⟨o,es,ep,h1,h2,h3,h4,_,h6⟩:=d;#[hz,hs,h6,o,es,ep,h1,h2,h3,h4]
def DicAt.stay {wd:Ll}{h h':Lq}{a:Kj}{xs:J5 (T×Kj×J9)}(d:DicAt wd a xs h)(k:∀o,h.get? a=ba o->h'.get? a=ba o):DicAt wd a xs h':=
 let ⟨h0,hs,hn,o,es,ep,h1,h2⟩:=d;#[h0,hs,hn,o,es,ep,k _ h1,h2]
def DicAt.ok {P:K9}{h:Lq}{wd:Ll}{a:Kj}{xs:J5 (T×Kj×J9)}(d:DicAt wd a xs h):ObjOk P wd H h a (dY wd a xs):=
 #[d,let ⟨_,_,_,o,_,_,h1,_⟩:=d;#[o,h1],λ_ _ p k=>p.stay k]
def cm {a:Kj}{xs:J5 (T×Kj×J9)}(I:Inv X J Y H s)(e:Rd H a (dY X.w a xs)):DicAt X.w a xs s.heap:=(show ObjOk X.prog X.w H s.heap a (dY X.w a xs)from e.ok I.hok).1
def DicAt.dict {U:J5 (T×W)}{a:Kj}{xs:J5 (T×Kj×J9)}(d:DicAt X.w a xs s.heap)(I:Inv X J Y H s)(r:KRel X.K A H U xs):s.heap.DictOfH (aV X.prog X.w) a xs:=
 let ⟨_,_,hn,o,es,ep,h1,h2,h3,h4⟩:=d;#[o,es,ep,h1,h2,h3,h4,r.is I,hn]
def gw {i:Kf}{U:J5 (T×W)}{a:Kj}(so:StoreOk X.w X.K A H S)(e:jS S i=ba U)(ea:A[i]?=ba a):∃xs,Rd H a (dY X.w a xs)/\KRel X.K A H U xs:=by
 unfold jS at e;split at e
 ·rename_i k h;cases e;obtain⟨xs,q,r⟩:=so.obj i _ a h ea;show#[xs,.inl q,r]
 ·rename_i k h;cases e;obtain⟨o,xs,q,r⟩:=so.obj i _ a h ea;show#[xs,.inr #[o,q],r]
 ·cases e
def iV {i:Kf}{U:J5 (T×W)}(e:n0 S i=ba U):S[i]?=ba (.dic U):=by
 unfold n0 at e;split at e
 ·rename_i h;cases e;show h
 ·cases e
def t4 {i:Kf}{U:J5 (T×W)}{a:Kj}(so:StoreOk X.w X.K A H S)(e:n0 S i=ba U)(ea:A[i]?=ba a):∃xs,H a=ba (dY X.w a xs)/\KRel X.K A H U xs:=
 so.obj i _ a (iV e) ea
def pS {B:Ld}(hu:B.units+10<cLine):(aV X.prog X.w).room B.in1:=by
 change B.in1.units+az<cLine;rw[aI];unfold az;omega
abbrev n6 (x y:W)(S:aa):Ke (W×aa):=match x,y with
 |.ref r,.tup ks=>match jS S r,gZ (.tup ks)with
  |some U,ba k=>(bO U k).map λw=>(w,S)
  |_,_=>gV
 |x,y=>vM x y S
def Jd (hu:X.A.units+10<cLine):LIx X n6:=by
 intro value slice J s Y H A S x y a b u v w S' I so rx ru ry rv e hs
 by_cases hxy:∃r ks,x=.ref r/\y=.tup ks
 ·obtain⟨r,ks,rfl,rfl⟩:=hxy;simp only[n6]at e;split at e
  ·rename_i U k hk1 hk2;rw[Kb]at e;obtain⟨w',e1,e2⟩:=e;cases e2;cases rx with
   |ref ea=>
    obtain⟨xs,rd,kr⟩:=gw so hk1 ea;have d:=cm I rd;have dd:=d.dict I kr;obtain⟨bk,rfl,rfl,rk⟩:=iU hk2 ry rv;obtain⟨p,vv,h1,h2,h3⟩:=(kr.val k).1 _ e1;obtain rfl:u=Lc _:=ru;show OR (x:=p.2) dd.typeIs slot_dict_getitem.lookup
     (wpAny_getItem_heap (Q:=λr s'=>r=p.2/\PostE X J Y A H S w r s') (pS hu) (jt I rk (dP hk2).2.2) dd h1 #[rfl,vv,H,A,I.tok _,h3,.refl,so,h2]) hs
  ·cases e
 ·have:n6 x y S=vM x y S:=by
   cases x<;>cases y<;>first|rfl|show absurd #[_,_,rfl,rfl] hxy
  rw[this]at e;show JY hu value slice J s Y H A S x y a b u v w S' I so rx ru ry rv e hs
abbrev iW (o i v:W)(S:aa):Ke aa:=match o,i with
 |.ref r,.tup ks=>match n0 S r,gZ (.tup ks)with
  |some U,ba k=>if ↥U<sizeLine then ba (S.set r (.dic (d0 U k v)))else gV
  |_,_=>gV
 |o,i=>vN o i v S
def GH (hu:X.A.units+10<cLine):LSet X iW:=by
 intro J s Y H A S o i x ao ai ax uo ui ux S' I so ro ruo ri rui rx rux e
 by_cases hxy:∃r ks,o=.ref r/\i=.tup ks
 ·obtain⟨r,ks,rfl,rfl⟩:=hxy;dsimp only[iW]at e;split at e
  ·rename_i U k hk1 hk2;split at e
   ·rename_i hl;cases e;cases ro with
    |ref ea=>
     obtain⟨xs,hH,kr⟩:=t4 so hk1 ea;have d:=cm I (.inl hH);have dd:=d.dict I kr;obtain⟨bk,rfl,rfl,rk⟩:=iU hk2 ri rui;obtain⟨q1,q2,q3⟩:=dP hk2;obtain rfl:uo=Lc _:=ruo;have hz:↥xs<=sizeLine:=by rw[<- ↥kr];omega
     show wpAny_setItem_heap (hsz:=hz) (pS hu) (jt I rk q3) dd λh' dd' hs=>?_
     have kr':=kr.put q2 q3 rk rx rux;have hz':(storedH xs k bk ux).length<=sizeLine:=by
      rw[<- ↥kr'];have:=cD U k x;omega
     have dn:DicAt X.w _ (storedH xs k bk ux) h':=.of hz' d.2.1 dd';obtain⟨so',ex⟩:=so.writeO (iV hk1) rfl ea (u:=dY X.w _ (storedH xs k bk ux)) (n:=.dic (d0 U k x)) #[_,aJ,kr'.mono (ci (.ext hH))];show#[_,A,nR I (by rw[hH];show O3) hs (let ⟨q,_,_,hq,_⟩:=dd';#[q,hq]) dn.ok,ex,so']
   ·cases e
  ·cases e
 ·have:iW o i x S=vN o i x S:=by
   cases o<;>cases i<;>first|rfl|show absurd #[_,_,rfl,rfl] hxy
  rw[this]at e;show lset hu J s Y H A S o i x ao ai ax uo ui ux S' I so ro ruo ri rui rx rux e
abbrev t8 (x:W)(xs:J5 W)(S:aa):Ke (W×aa):=match x,xs with
 |.ref r,[y,z]=>match jS S r,gZ y with
  |some U,ba k=>ba ((bO U k).getD z,S)
  |_,_=>gV
 |_,_=>gV
def sg (hu:X.A.units+10<cLine):mF X "dict.get" t8:=by
 intro J s Y H A S x a u xs vs us w S' I so rx ru rl rv e;cases rx with
 |ref ea=>
  cases rl with
  |nil=>cases e
  |cons r1 t1=>
   cases t1 with
   |nil=>cases e
   |cons r2 t2=>
    cases t2 with
    |cons _ _=>cases e
    |nil=>
     dsimp only[t8]at e;split at e
     ·rename_i U k hk1 hk2;cases e;obtain⟨xs,rd,kr⟩:=gw so hk1 ea;have d:=cm I rd;have dd:=d.dict I kr;cases rv with
      |cons v1 rv2=>
       cases rv2 with
       |cons v2 rv3=>
        cases rv3;obtain⟨bk,rfl,rfl,rk⟩:=iU hk2 r1 v1;obtain rfl:u=Lc _:=ru;show call_meetsIn QL dd.typeIs PySem.F.entry_dict_get (PySem.F.args_dict_get_3 _ _ _) (meetsH_dict_get_default (aV X.prog X.w) _ bk d.2.1 _) #[pS hu,k,xs,jt I rk (dP hk2).2.2,dd,?_];cases q:bO U k with
        |none=>
         rw[(kr.val k).2 q];show#[_,H,A,I.tok _,v2,.refl,so,r2]
        |some w'=>
         obtain⟨p,vv,h1,h2,h3⟩:=(kr.val k).1 _ q;rw[h1];show#[vv,H,A,I.tok _,h3,.refl,so,h2]
     ·cases e
 |_=>cases e
abbrev Ik (x:W)(i:Kf)(S:aa):Ke KU:=match W.t x,gr S i with
 |some k,ba ys=>match W.ts ys with
  |some ks=>if k.depth<=az/\T.depths ks<=az then ba (decide (k∈ks))else gV
  |none=>gV
 |_,_=>gV
abbrev En (x:W)(ys:J5 W):Ke KU:=match W.t x,W.ts ys with
 |some k,ba ks=>if k.depth<=az/\T.depths ks<=az then ba (decide (k∈ks))else gV
 |_,_=>gV
def og {h:Lq}:∀{ks:J5 T}{vs:J5 J9},IsTs h ks vs->∀v∈vs,∃k∈ks,IsT h k v
 |_,_,.cons a b,v,hv=>by
  rcases KD.mp hv with rfl|hv
  ·show#[_,.head _,a]
  ·obtain⟨k,hk,q⟩:=og b v hv;show#[k,.tail _ hk,q]
abbrev AO (h:Lq)(k:T)(v:J9):KU:=@decide (IsT h k v) (Uc _)
def sh {h:Lq}{k k':T}{v:J9}(x:IsT h k' v):AO h k v=decide (k'=k):=by
 unfold AO
 by_cases e:k'=k
 ·subst e;simp[x]
 ·have:¬ IsT h k v:=λy=>e (x.inj y)
  simp[e,this]
def oh {h:Lq}{k:T}:∀{ks:J5 T}{vs:J5 J9},IsTs h ks vs->vs.any (AO h k)=decide (k∈ks)
 |_,_,.nil=>by simp
 |_,_,.cons (k:=k') a b=>by
  rw[M9,sh a,oh b]
  by_cases e:k'=k
  ·simp[e]
  ·have:¬ k=k':=λz=>e z.symm
   simp[e,this]
def kS:∀{ks:J5 T}{k:T},k∈ks->k.depth<=T.depths ks
 |x::ks,k,h=>by
  revert T.depths;rcases KD.mp h with rfl|h
  ·omega
  ·have:=kS h;omega
def yi {x:W}{i:Kf}{a b:V}{u v:J9}{c:KU}(hu:X.A.units+10<cLine)(I:Inv X J Y H s)(so:StoreOk X.w X.K A H S)(rx:Rel X.K A H x a)(ru:RelV a u)(ry:Rel X.K A H (.ref i) b)(rv:RelV b v)(e:Ik x i S=ba c) :
  ∃l its k ks,v=.ref l/\s.heap.IsList l its/\(∀y,y∈its->O1 X.A.in1 s y u (AO s.heap k y))/\its.any (AO s.heap k)=c/\c=decide (k∈(ks:J5 T)):=by
 unfold Ik at e;split at e
 ·rename_i k ys h1 h2;split at e
  ·rename_i ks h3;split at e
   ·rename_i h4;cases e;cases ry with
    |ref ea=>
     obtain⟨vs,g1,g2⟩:=bh so h2 ea;obtain⟨its,rv',p,_⟩:=I.list g1;obtain rfl:v=Lc _:=rv;have hT:IsTs s.heap ks its:=eH I ks ((W.ts_w h3).symm▸g2) rv';have hk:IsT s.heap k u:=kR I k ((W.t_w h1).symm▸rx) ru;show#[_,its.toArray,k,ks,rfl,p.isList,λy hy=>?_,by rw[Sr];show oh hT,rfl]
     obtain⟨k',hk',q⟩:=og hT y (by simpa using hy)
     rw[sh q];have:=kS hk';have kl:az=6:=rfl;show vV az k' k _ _ _ _ ∅ q hk (by rw[aI];omega) (by rw[aI];omega)
   ·cases e
  ·cases e
 ·cases e
def BJ {x:W}{ys:J5 W}{a b:V}{u v:J9}{c:KU}(hu:X.A.units+10<cLine)(I:Inv X J Y H s)(rx:Rel X.K A H x a)(ru:RelV a u)(ry:Rel X.K A H (.tup ys) b)(rv:RelV b v)(e:En x ys=ba c) :
  ∃l its k,v=.ref l/\s.heap.IsTuple l its/\(∀y,y∈its->O1 X.A.in1 s y u (AO s.heap k y))/\its.any (AO s.heap k)=c:=by
 unfold En at e;split at e
 ·rename_i k ks h1 h3;split at e
  ·rename_i h4;cases e;cases ry with
   |@tup _ l vs g1 g2=>
    obtain⟨its,rv',p,_⟩:=I.tuple g1;obtain rfl:v=Lc _:=rv;have hT:IsTs s.heap ks its:=eH I ks ((W.ts_w h3).symm▸g2) rv';have hk:IsT s.heap k u:=kR I k ((W.t_w h1).symm▸rx) ru;show#[_,its.toArray,k,rfl,p,λy hy=>?_,by rw[Sr];show oh hT]
    obtain⟨k',hk',q⟩:=og hT y (by simpa using hy)
    rw[sh q];have:=kS hk';have kl:az=6:=rfl;show vV az k' k _ _ _ _ ∅ q hk (by rw[aI];omega) (by rw[aI];omega)
  ·cases e
 ·cases e
abbrev cx (o:COp)(x y:W)(S:aa):Ke (W×aa):=match o,y with
 |.isin,.ref i=>match jS S i with
  |some U=>(gZ x).map λk=>(.bl (bO U k).isSome,S)
  |none=>match x with
   |.tup xs=>(Ik (.tup xs) i S).map λb=>(.bl (b),S)
   |x=>iN .isin x (.ref i) S
 |.notin,.ref i=>match jS S i with
  |some U=>(gZ x).map λk=>(.bl (!(bO U k).isSome),S)
  |none=>match x with
   |.tup xs=>(Ik (.tup xs) i S).map λb=>(.bl (!b),S)
   |x=>iN .notin x (.ref i) S
 |.isin,.tup ys=>match x with
  |.tup xs=>(En (.tup xs) ys).map λb=>(.bl b,S)
  |x=>iN .isin x (.tup ys) S
 |o,y=>iN o x y S
def pT (hu:X.A.units+iu<cLine)(o:COp):LOp X (compareOp o.py) (cx o):=by
 intro J s Y H A S x y a b u v w S' I so rx ru ry rv e;have get:∀{i:Kf}{U:J5 (T×W)}{k:T},y=.ref i->jS S i=ba U->gZ x=ba k->∃d c xs,v=.ref d/\u=.ref c/\(d==sysModules)=false/\(aV X.prog X.w).is s.heap k c/\s.heap.DictOfH (aV X.prog X.w) d xs/\(bO U k).isSome=(atKey xs k).isSome:=by
  intro i U k hy hk1 hk2;subst hy;cases ry with
  |ref ea=>
   obtain⟨xs,rd,kr⟩:=gw so hk1 ea;have d:=cm I rd;obtain⟨bk,rfl,rfl,rk⟩:=iU hk2 rx ru;obtain rfl:v=Lc _:=rv;show#[_,bk,xs,rfl,rfl,d.2.1,jt I rk (dP hk2).2.2,d.dict I kr,?_];cases q:bO U k with
   |none=>rw[(kr.val k).2 q];rfl
   |some w'=>obtain⟨p,_,h1,_⟩:=(kr.val k).1 _ q;rw[h1];rfl
 have old:iN o x y S=ba (w,S')->wpAny (model X.prog X.w) X.A (compareOp o.py u v) (PostE X J Y A H S' w) X.xe s:=λh=>BG hu o J s Y H A S x y a b u v w S' I so rx ru ry rv h
 have hu':X.A.units+10<cLine:=by have:iu=20:=rfl;omega
 unfold cx at e;split at e
 ·split at e
  ·rename_i U hk1;rw[Kb]at e;obtain⟨k,hk2,e2⟩:=e;cases e2;obtain⟨d,c,xs,rfl,rfl,q1,q2,q3,q4⟩:=get rfl hk1 hk2;rw[q4];show wpAny_in_heap (pS hu') q2 q1 q3 #[.bl _,H,A,I.tok _,rfl,.refl,so,.bl]
  ·split at e
   ·rw[Kb]at e;obtain⟨c,hc,e⟩:=e;cases e;obtain⟨l,its,k,ks,rfl,p1,p2,p3,_⟩:=yi hu' I so rx ru ry rv hc;show SQ (AO s.heap k) p1 p2 ?_;rw[p3];show#[.bl _,H,A,I,rfl,.refl,so,.bl]
   ·show old e
 ·split at e
  ·rename_i U hk1;rw[Kb]at e;obtain⟨k,hk2,e2⟩:=e;cases e2;obtain⟨d,c,xs,rfl,rfl,q1,q2,q3,q4⟩:=get rfl hk1 hk2;rw[q4];show wpAny_notIn_heap (pS hu') q2 q1 q3 #[.bl _,H,A,I.tok _,rfl,.refl,so,.bl]
  ·split at e
   ·rw[Kb]at e;obtain⟨c,hc,e⟩:=e;cases e;obtain⟨l,its,k,ks,rfl,p1,p2,p3,_⟩:=yi hu' I so rx ru ry rv hc;show Ry (AO s.heap k) p1 p2 ?_;rw[p3];show#[.bl _,H,A,I,rfl,.refl,so,.bl]
   ·show old e
 ·split at e
  ·rw[Kb]at e;obtain⟨c,hc,e⟩:=e;cases e;obtain⟨l,its,k,rfl,p1,p2,p3⟩:=BJ hu' I rx ru ry rv hc;show Sk (AO s.heap k) p1 p2 ?_;rw[p3];show#[.bl _,H,A,I,rfl,.refl,so,.bl]
  ·show old e
 ·show old e
end
abbrev RawD (d:Kj)(es:KL M0)(ep:Kf)(h:Lq):Prop:=∃o,h.get? d=ba o/\o.ExactDict/\o.data=.dict es ep
def RawD.at {d:Kj}{es:KL M0}{ep:Kf}{h h':Lq}(x:RawD d es ep h)(e:∀o,h.get? d=ba o->h'.get? d=ba o):RawD d es ep h':=let ⟨o,ho,r⟩:=x;#[o,e _ ho,r]
def RawD.lt {d:Kj}{es:KL M0}{ep:Kf}{h:Lq}(x:RawD d es ep h):d<⇑h.objs:=let ⟨_,ho,_⟩:=x;KC ho
def RawD.type {d:Kj}{es:KL M0}{ep:Kf}{s:Kc}(x:RawD d es ep s.heap):s.TypeIs (.ref d) "dict":=let ⟨o,ho,hc,_⟩:=x;#[o,ho,hc.1]
section
variable{prog:K9}{w:Ll}{A:Ld}{E:J9->Kc->Prop}{s:Kc}{it d:Kj}{i ep:Kf}{es:KL M0}
def pU {Q:J9->Kc->Prop}(hd:(d==sysModules)=false)(hm:RawD d es ep s.heap)
  (hQ:Q (.ref ⇑s.heap.objs) {s with heap:=s.heap.push {cls:=.type "dict_keyiterator",data:=.fields [.ref d,.int 0 0,.int ⇑es 0,.int ep 0].toArray}}):wpAny (model prog w) A (pyIter (.ref d)) Q E s:=by
 have hT:=hm.type;obtain⟨o,ho,hc,hdat⟩:=id hm;show P2 hT F.slot_dict_iter (LG F.slot_dict_iter hT F.entry_dict_iter ?_ (F.args_dict_iter_1 _));unfold NE.«dict.__iter__» TD;show J6 (J6 (wpAny_notOrdered_dict hT ?_));change wpAny _ _ (pure (Lc d)) _ _ s;show Kd ?_;change wpAny _ _ (QM d >>= _) _ _ s;unfold QM;rw[KM (by rw[hd];show KS)]
 show J6 (Kd (J6 (OX ho hdat (J6 (QC ho hdat ?_)))));show J6 (Ln (Kd #[_,rfl,"dict_keyiterator",_,#[_,Ku _ rfl,rfl],F.slot_dict_keyiterator_next.lookup,?_]))
 simpa [rawInt]using hQ
def pV {Q:Ke J9->Kc->Prop}(hit:s.heap.IsKeyIter it d i ⇑es ep)(hm:RawD d es ep s.heap)(hi:i<⇑es)
  (hQ:∀h',h'.IsKeyIter it d (i+1) ⇑es ep->Mw it s.heap h'->Q (ba es[i].key) {s with heap:=h'}):wpAny (model prog w) A (pyNext (.ref it)) Q E s:=by
 obtain⟨o,ho,hc,hd⟩:=id hit;obtain⟨od,hod,hcd,hdd⟩:=id hm;unfold pyNext;show J6 (N3 (LA (name:=Mx "__next__") hit.typeIs F.slot_dict_keyiterator_next
  (LG F.slot_dict_keyiterator_next hit.typeIs F.entry_dict_keyiterator_next ?_ (F.args_dict_keyiterator_next_1 _))))
 show J6 (Kd (J6 (J6 ?_)))
 first|refine J6 (MW hit.typeIs (Kd ?_))|refine J6 (Nz hit.typeIs (Kd ?_))
 show J6 (PC ho hd ?_);have hown:Pe "dict_keyiterator" = false:=by decide
 revert hown KT LO;change wpAny _ _ (if (Lc d==Ls)=true then _ else _) _ _ s
 rw[KM (show ¬ ((Lc d==Ls)=true)from KS)]
 show J6 (Kd (J6 (OX hod hdd ?_)));rw[KM (by simp)]
 show J6 (Kd (J6 (QC hod hdd ?_)));rw[KM (by simp)]
 show Kd ?_;simp only[show ¬ ((i:Ks)<0)from by omega,LO,Kw,Lh hi]
 show J6 ?_
 first|refine J6 (MW hit.typeIs (Kd ?_))|refine J6 (Nz hit.typeIs (Kd ?_))
 show J6 (QN hit.typeIs ?_);change wpAny _ _ (setField (.ref it) 1 (rawInt ((i:Ks)+1)) >>= _) _ _ s;show J6 (PH ho hd (by simp) ?_)
 have hit':(s.heap.update it (TY (·.setIfInBounds 1 (rawInt ((i:Ks)+1))))).IsKeyIter it d (i+1) ⇑es ep:=
  #[_,Ma _ ho (QP (OJ hd _)),(R1 ..).trans hc,by rw[OJ hd];simp[rawInt]]
 show J6 (LK ?_);show J6 (QN (s:={s with heap:=s.heap.update it (TY (·.setIfInBounds 1 (rawInt ((i:Ks)+1))))}) hit'.typeIs ?_)
 change wpAny _ _ (pure es[i].key) _ _ _;show Kd (Kd #[_,rfl,Kd (hQ _ hit' (NF ..))])
def t9 {Q:Ke J9->Kc->Prop}(hh:A.handled=gV)(hit:s.heap.IsKeyIter it d i ⇑es ep)(hm:RawD d es ep s.heap)(hge:⇑es<=i)
  (hQ:∀h',QU it s.heap h'->Q gV {s with heap:=h'}):wpAny (model prog w) A (pyNext (.ref it)) Q E s:=by
 obtain⟨o,ho,hc,hd⟩:=id hit;obtain⟨od,hod,hcd,hdd⟩:=id hm;unfold pyNext;show J6 (N3 (LA (name:=Mx "__next__") hit.typeIs F.slot_dict_keyiterator_next
  (LG F.slot_dict_keyiterator_next hit.typeIs F.entry_dict_keyiterator_next ?_ (F.args_dict_keyiterator_next_1 _))))
 show J6 (Kd (J6 (J6 ?_)))
 first|refine J6 (MW hit.typeIs (Kd ?_))|refine J6 (Nz hit.typeIs (Kd ?_))
 show J6 (PC ho hd ?_);have hown:Pe "dict_keyiterator" = false:=by decide
 revert hown KT LO;change wpAny _ _ (if (Lc d==Ls)=true then _ else _) _ _ s
 rw[KM (show ¬ ((Lc d==Ls)=true)from KS)]
 show J6 (Kd (J6 (OX hod hdd ?_)));rw[KM (by simp)]
 show J6 (Kd (J6 (QC hod hdd ?_)));rw[KM (by simp)]
 show Kd ?_;simp only[show ¬ ((i:Ks)<0)from by omega,LO,Kw,Array.getElem?_eq_none hge]
 show J6 ?_
 first|refine J6 (MW hit.typeIs (Kd ?_))|refine J6 (Nz hit.typeIs (Kd ?_))
 change wpAny _ _ (setField (.ref it) 0 .none >>= _) _ _ s;show J6 (PH ho hd (by simp) ?_)
 change wpAny _ _ (newExc (.type "StopIteration") [] >>= _) _ _ _;show J6 ?_;revert newExc newTuple;show J6 (Ln ?_ (by size_fits))
 show J6 (m:=firstArgMember _ _) (ON (a:=Ls) (by first|rfl|(revert firstArgMember;rfl)) ?_)
 show Ln ?_ (by size_fits)
 revert raiseNew;show J6 (Ro ?_);rw[show A.in1.handled=gV from hh]
 show J6 (Kd (SI ?_));show J6 (NI (T:="StopIteration") (b:=true) #[_,Ku _ rfl,rfl] PB ?_);show Kd (hQ _ (((NF ..).extBut.push _).push _))
def vY (hh:A.handled=gV)(I d:Kj)(hne:d≠I)(es:KL M0)(ep:Kf) :
  SJ prog w A I [I,d] [I] ⇑es (λi v=>∃e,es[i]?=ba e/\e.key=v) (λi h=>h.IsKeyIter I d i ⇑es ep/\RawD d es ep h) where
 sub:=λb hb=>by simp at hb;simp[hb]
 frame:=λ_ _ _ st hk=>#[st.1.at λo e=>hk I (by simp) o e,st.2.at λo e=>hk d (by simp) o e]
 item:=λi s Q E hi st hQ=>
  pV st.1 st.2 hi λh' hit' hs'=>hQ _ h' s.toks #[es[i],by simp[hi],rfl] #[hit',st.2.at λo e=>(hs'.2 d hne).trans e] λb o hb e=>hs'.extBut b o (λh=>hb (by simp[h])) e
 done:=λs Q E st hQ=>t9 hh st.1 st.2 (Ki _) λh' he'=>hQ h' s.toks λb o hb e=>he' b o (λh=>hb (by simp[h])) e
 self:=λ_ _ _ _ st hQ=>QV st.1 hQ
def ud (lo:(d==sysModules)=false):QX prog w "dict" d d ⇑es (λi v=>∃e,es[i]?=ba e/\e.key=v) (RawD d es ep) where
 type:=λ_ hm=>hm.type
 there:=λ_ hm=>#[hm.lt,hm.lt]
 keep:=λ_ _ hm hk=>hm.at λo e=>hk d (.inl rfl) o e
 notList:=by decide
 notTuple:=by decide
 hint:=λ_ _ _ _ hm hq=>PySem.W.kdl_hint_dict hm.type hq
 iter:=λ_ _ hh hm=>#[_,_,(λ_ _ hq=>pU lo hm hq),vY hh _ d (KO hm.lt) es ep,#[#[_,Ku _ rfl,rfl,rfl],hm.at λo e=>J8 _ e]]
def yj {T:L1}{r d S:Kj}{n:Kf}{P:Kf->J9->Prop}{OK:Lq->Prop}{R:Sh->Kc->Prop}(K:QX prog w T r d n P OK)(hh:A.handled=gV)(hok:OK s.heap)(hn:n<=sizeLine)(hSr:S≠r)(hSd:S≠d)
  (hS:s.heap.get? S=ba {cls:=.type "list",data:=.seq #[] 0})
  (hR:∀h' tk acc' c',(∀b o,b≠S->s.heap.get? b=ba o->h'.get? b=ba o)->h'.get? S=ba {cls:=.type "list",dict:=gV,data:=.seq acc' c',slots:=#[]}->Qp P acc' n->R (.ok (.ret (.ref S))) {s with heap:=h',toks:=tk}) :
  codeAny (model prog w) A (.builtin "list.__iadd__" #[[.ref S,.ref r],[]]) R s:=by
 show LM F.entry_list_iadd ?_;rw[LH F.plain_list_iadd _];change wpAny _ A.in1 (Mc (.ref S) (.ref r) (.ref S)) _ _ _;show PySem.W.kdl_extend K hh hok S hSr hSd _ 0 hS hR hn
def pW {T:L1}{r d:Kj}{n:Kf}{P:Kf->J9->Prop}{OK:Lq->Prop}{Q:J5 J9->Kc->Prop}(K:QX prog w T r d n P OK)(hh:A.handled=gV)(hok:OK s.heap)(hn:n<=sizeLine)
  (hQ:∀h' tk acc,(∀b o,s.heap.get? b=ba o->h'.get? b=ba o)->⇑s.heap.objs<=⇑h'.objs->Qp P acc n->Q acc.toList {s with heap:=h',toks:=tk}):wpAny (model prog w) A (collect (.ref r)) Q E s:=by
 unfold collect;show J6 (OV (LM F.entry_proto_collect ?_));rw[LH F.plain_proto_collect _];change wpAny _ A.in1 (newList [] >>= λl=>again (.builtin "list.__iadd__" #[[l,.ref r],[]])) _ _ s
 show J6 (Ln ?_);have hlt:=K.there _ hok;show Kd #[MH F.plain_list_iadd _,yj (s:={s with heap:=s.heap.push {cls:=.type "list",data:=.seq ([]:J5 J9).toArray}}) K hh (K.keep _ _ hok λb _ o e=>J8 _ e) hn (Mb hlt.1) (Mb hlt.2) (Ku _ rfl) λh' tk acc' c' hk hS' hacc=>?_]
 change wpAny (model prog w) A (do
   let o <- load ⇑s.heap.objs
   match o.data with
   |.seq xs _=>pure xs.toList
   |_=>unsupported "internal:collect") Q E {s with heap:=h',toks:=tk}
 show J6 (Ql hS' ?_);show Kd (hQ h' tk acc' (λb o e=>hk b o (KO (KC e)) (J8 _ e)) (NS (KC hS')) hacc)
end
mutual
def gP:T->T->Ke KU
 |.int a,.int b=>ba (decide (a<b))
 |.str a,.str b=>ba (decide (a.cps.toList<b.cps.toList))
 |.tup xs,.tup ys=>cY xs ys
 |_,_=>gV
def cY:J5 T->J5 T->Ke KU
 |[],[]=>ba false
 |[],_::_=>ba true
 |_::_,[]=>ba false
 |x::xs,y::ys=>if x=y then cY xs ys else gP x y
end
mutual
theorem IsT.kept {h h':Lq}(hk:∀b o,o.cls=.type "tuple"->h.get? b=ba o->h'.get? b=ba o):∀{x:T}{v:J9},IsT h x v->IsT h' x v
 |_,_,.int=>.int
 |_,_,.str=>.str
 |_,_,.tup a1 c1 d1 t1=>.tup (hk _ _ c1 a1) c1 d1 (IsTs.kept hk t1)
theorem IsTs.kept {h h':Lq}(hk:∀b o,o.cls=.type "tuple"->h.get? b=ba o->h'.get? b=ba o):∀{x:J5 T}{v:J5 J9},IsTs h x v->IsTs h' x v
 |_,_,.nil=>.nil
 |_,_,.cons a b=>.cons (IsT.kept hk a) (IsTs.kept hk b)
end
def GJ {B:Ld}{s:Kc}{d:Kf}(hu:B.units+d<cLine)(hl:∀(x y:T) (u v:J9) (k:KU),x.depth<=d->y.depth<=d->IsT s.heap x u->IsT s.heap y v->gP x y=ba k->LtAt B s u v k) :
  ∀(xs ys:J5 T) (us vs:J5 J9) (k:KU),T.depths xs<=d->T.depths ys<=d->IsTs s.heap xs us->IsTs s.heap ys vs->cY xs ys=ba k->LexR B s us vs k
 |[],[],_,_,k,_,_,h1,h2,e=>by cases h1;cases h2;cases e;show .nn
 |[],y::ys,_,_,k,_,_,h1,h2,e=>by cases h1;cases h2;cases e;show .nc
 |x::xs,[],_,_,k,_,_,h1,h2,e=>by cases h1;cases h2;cases e;show .cn
 |x::xs,y::ys,_,_,k,d1,d2,h1,h2,e=>by
  simp only[T.depths]at d1 d2;cases h1 with
  |cons p1 q1=>
   cases h2 with
   |cons p2 q2=>
    have he:=vV d x y _ _ B s ∅ p1 p2 hu ∅
    dsimp only[cY]at e
    by_cases hxy:x=y
    ·rw[KF hxy]at e;rw[LZ hxy]at he;show .eq he (GJ hu hl xs ys _ _ k ∅ ∅ q1 q2 e)
    ·rw[KM hxy]at e;rw[Le hxy]at he;show .ne he (hl x y _ _ k ∅ ∅ p1 p2 e)
def GK:∀(d:Kf) (x y:T) (u v:J9) (B:Ld) (s:Kc) (k:KU),x.depth<=d->y.depth<=d->IsT s.heap x u->IsT s.heap y v->B.units+d<cLine->gP x y=ba k->LtAt B s u v k:=by
 intro d
 induction d with
 |zero=>
  intro x y u v B s k d1 d2 h1 h2 hu e;cases h1 with
  |int=>cases h2 with
   |int=>cases e;show λprog w E Q h=>(Rh h:wpAny (model prog w) B (compareOp .Lt _ _) Q E s)
   |_=>cases e
  |str=>cases h2 with
   |str=>cases e;show λprog w E Q h=>(lt_str h:wpAny (model prog w) B (compareOp .Lt _ _) Q E s)
   |_=>cases e
  |tup _ _ _ _=>simp[T.depth]at d1
 |succ d ih=>
  intro x y u v B s k d1 d2 h1 h2 hu e;cases h1 with
  |int=>cases h2 with
   |int=>cases e;show λprog w E Q h=>(Rh h:wpAny (model prog w) B (compareOp .Lt _ _) Q E s)
   |_=>cases e
  |str=>cases h2 with
   |str=>cases e;show λprog w E Q h=>(lt_str h:wpAny (model prog w) B (compareOp .Lt _ _) Q E s)
   |_=>cases e
  |tup a1 c1 e1 t1=>cases h2 with
   |tup a2 c2 e2 t2=>
    simp only[T.depth]at d1 d2;have hu1:B.in1.units+d<cLine:=by rw[aI];omega
    show LtAt.tuples #[_,a1,c1,_,e1] #[_,a2,c2,_,e2] ∅ (GJ hu1 (λx y u v k q1 q2 q3 q4 q5=>ih x y u v B.in1 s k q1 q2 q3 q4 hu1 q5) _ _ _ _ k ∅ ∅ t1 t2 e)
   |_=>cases e
section
variable{prog:K9}{w:Ll}{A:Ld}{R:Sh->Kc->Prop}{I S:Kj}{fp wr:J5 Kj}{n:Kf}{P:Kf->J9->Prop}{St:Kf->Lq->Prop}{Ok:Lq->Prop}{bt:Kf->Kf->KU}
abbrev yk (prog:K9)(w:Ll)(A:Ld)(P:Kf->J9->Prop)(Ok:Lq->Prop)(bt:Kf->Kf->KU):Prop:=
 ∀i j vi vj (s:Kc) (Q:J9->Kc->Prop) (E:J9->Kc->Prop),Ok s.heap->P i vi->P j vj->Q (.bool (bt i j)) s->wpAny (model prog w) A (richCompare .Lt vi vj) Q E s
def ym (W:SJ prog w A.in1 I fp wr n P St)(hcmp:yk prog w A.in1 P Ok bt)(hSf:S∉fp)(hok:∀h h',Ok h->(∀b o,b∉wr->b≠S->h.get? b=ba o->h'.get? b=ba o)->Ok h') :
  ∀(k j:Kf) (s:Kc) (vb:J9) (c:Kf),n-(j+1)=k->j<n->St (j+1) s.heap->P (argBest bt j) vb->Ok s.heap->s.heap.get? S=ba {cls:=.type "list",dict:=gV,data:=.seq [vb,vb].toArray c,slots:=#[]}->
  (∀v h' tk,P (argBest bt (n-1)) v->(∀b o,b∉wr->b≠S->s.heap.get? b=ba o->h'.get? b=ba o)->R (.ok (.ret v)) {s with heap:=h',toks:=tk})->
  codeAny (model prog w) A (.builtin "min.loop" #[[.ref I,.none,.ref S],[]]) R s:=by
 have hSw:S∉wr:=λh=>hSf (W.sub _ h)
 have hname:(toString "min" ++ toString ".loop": L1)="min.loop":=by decide
 intro k
 induction k with
 |zero=>
  intro j s vb c hk hj hst hPb hO hS hR;have hin:j+1=n:=∅
  show LM F.entry_min_loop ?_;rw[LH F.plain_min_loop _];change wpAny _ A.in1 (seqItems? (.ref S) >>= _) _ _ s;show J6 (L9 hS rfl ?_);change wpAny _ A.in1 (tryCatch (pyNext (.ref I)) _ >>= _) _ _ s;show J6 (PJ (W.done s _ _ (hin▸hst) λh' tk hk'=>?_))
  have hS':=hk' S _ hSw hS;change wpAny _ A.in1 (updateSeq S (λ_=>#[]) >>= _) _ _ _
  show J6 (OC hS' rfl (J6 (Od (Kd ?_))));have e:j=n-1:=∅
  show hR vb _ tk (e▸hPb) λb o hbw hbS e=>(Lr _ _ (Ne.symm hbS)).trans (hk' b o hbw e)
 |succ k ih=>
  intro j s vb c hk hj hst hPb hO hS hR;have hlt:j+1<n:=∅
  show LM F.entry_min_loop ?_;rw[LH F.plain_min_loop _];change wpAny _ A.in1 (seqItems? (.ref S) >>= _) _ _ s;show J6 (L9 hS rfl ?_);change wpAny _ A.in1 (tryCatch (pyNext (.ref I)) _ >>= _) _ _ s;show J6 (PJ (W.item (j+1) s _ _ hlt hst λv h' tk hP hst' hk'=>?_))
  have hS':=hk' S _ hSw hS;have hO':Ok h':=hok _ _ hO λb o hb _ e=>hk' b o hb e
  change wpAny _ A.in1 (tryCatch (holding [v,v] (richCompare .Lt v vb >>= _)) _ >>= _) _ _ _;show J6 (PJ (LK (J6 (hcmp (j+1) (argBest bt j) v vb _ _ _ hO' hP hPb ?_))));show J6 (LK (MZ ?_));show J6 (Od (Kd ?_));cases hb:bt (j+1) (argBest bt j)with
  |true=>
   revert Mm;show J6 (OC hS' rfl (J6 (Od ?_)));rw[hname];show Kd #[MH F.plain_min_loop _,ih (j+1) _ v _ ∅ hlt (W.frame _ _ _ hst' λb hbf o e=>?_) (by revert argBest hb Mm;show hP) (hok _ _ hO' λb o _ hbS e=>(Lr _ _ (Ne.symm hbS)).trans e) (Ma _ hS' rfl)
    λv' h'' tk'' hP' hk''=>?_]
   ·show(Lr _ _ (λh:S=b=>hSf (by rw[h];show hbf))).trans e
   ·show hR v' h'' tk'' hP' λb o hbw hbS e=>hk'' b o hbw hbS ((Lr _ _ (Ne.symm hbS)).trans (hk' b o hbw e))
  |false=>
   revert KT LO;show J6 (Od ?_);rw[hname];show Kd #[MH F.plain_min_loop _,ih (j+1) _ vb c ∅ hlt hst' (by revert argBest hb KT LO;show hPb) hO' hS' λv' h'' tk'' hP' hk''=>?_]
   show hR v' h'' tk'' hP' λb o hbw hbS e=>hk'' b o hbw hbS (hk' b o hbw e)
def vZ (W:SJ prog w A.in1 I fp wr n P St)(hcmp:yk prog w A.in1 P Ok bt)(hSf:S∉fp)(hok:∀h h',Ok h->(∀b o,b∉wr->b≠S->h.get? b=ba o->h'.get? b=ba o)->Ok h')(hn:0<n){s:Kc}{c:Kf}(hst:St 0 s.heap)(hO:Ok s.heap)
  (hS:s.heap.get? S=ba {cls:=.type "list",dict:=gV,data:=.seq #[] c,slots:=#[]})
  (hR:∀v h' tk,P (argBest bt (n-1)) v->(∀b o,b∉wr->b≠S->s.heap.get? b=ba o->h'.get? b=ba o)->R (.ok (.ret v)) {s with heap:=h',toks:=tk}) :
  codeAny (model prog w) A (.builtin "min.loop" #[[.ref I,.none,.ref S],[]]) R s:=by
 have hSw:S∉wr:=λh=>hSf (W.sub _ h)
 have hname:(toString "min" ++ toString ".loop": L1)="min.loop":=by decide
 show LM F.entry_min_loop ?_;rw[LH F.plain_min_loop _];change wpAny _ A.in1 (seqItems? (.ref S) >>= _) _ _ s;show J6 (L9 hS rfl ?_);change wpAny _ A.in1 (tryCatch (pyNext (.ref I)) _ >>= _) _ _ s;show J6 (PJ (W.item 0 s _ _ hn hst λv h' tk hP hst' hk'=>?_))
 have hS':=hk' S _ hSw hS;change wpAny _ A.in1 (updateSeq S (λ_=>[v,v].toArray) >>= _) _ _ _
 show J6 (OC hS' rfl ?_);rw[hname];have hO':Ok h':=hok _ _ hO λb o hb _ e=>hk' b o hb e
 show Kd #[MH F.plain_min_loop _,ym W hcmp hSf hok _ 0 _ v _ rfl hn (W.frame _ _ _ hst' λb hbf o e=>?_) hP (hok _ _ hO' λb o _ hbS e=>(Lr _ _ (Ne.symm hbS)).trans e) (Ma _ hS' rfl) λv' h'' tk'' hP' hk''=>?_]
 ·show(Lr _ _ (λh:S=b=>hSf (by rw[h];show hbf))).trans e
 ·show hR v' h'' tk'' hP' λb o hbw hbS e=>hk'' b o hbw hbS ((Lr _ _ (Ne.symm hbS)).trans (hk' b o hbw e))
end
section
variable{prog:K9}{w:Ll}{A:Ld}{E:J9->Kc->Prop}{s:Kc}
def yn {l:Kj}{items:KL J9}{bt:Kf->Kf->KU}{Q:J9->Kc->Prop}(hh:A.handled=gV)(hl:s.heap.IsList l items)(hn:0<⇑items)
  (hcmp:yk prog w A.in1 (λi v=>items[i]?=ba v) (λh=>∀b o,s.heap.get? b=ba o->h.get? b=ba o) bt)
  (hQ:∀v h' tk,items[argBest bt (⇑items-1)]?=ba v->(∀b o,s.heap.get? b=ba o->h'.get? b=ba o)->Q v {s with heap:=h',toks:=tk}) :
  wpAny (model prog w) A (call (.builtin "min") [.ref l]) Q E s:=by
 have hname:(toString "min" ++ toString ".loop": L1)="min.loop":=by decide
 show call_function_tree F.kind_min F.plain_min F.entry_min (F.args_min1 _) ?_;change wpAny _ A.in1 (Pl "min" ["key","default"] 0 #[[],[]] >>= _) _ _ s;show J6 (ON (show Pl "min" ["key","default"] 0 #[[],[]]=pure [gV,gV]from rfl) ?_)
 show J6 (Kd ?_);show J6 (N7 hl ?_);show J6 (Ln ?_);rw[hname];have hlt:l<⇑s.heap.objs:=let ⟨_,ho,_⟩:=hl;KC ho
 have hne:l≠⇑s.heap.objs:=KO hlt;have W:=Ts (prog:=prog) (w:=w) (A:=A.in1) hh ⇑s.heap.objs l hne items;have hsz:∀o:Mf,(s.heap.push o).objs.size=⇑s.heap.objs+1:=λo=>by simp[Heap.push]
 show Kd #[MH F.plain_min_loop _,vZ (A:=A) (Ok:=λh=>∀b o,s.heap.get? b=ba o->h.get? b=ba o) W hcmp (λhm=>?_) (λh h' ho hk b o e=>?_) hn #[?_,?_] (λb o e=>J8 _ (J8 _ e)) (Ku _ rfl) λv h' tk hv hk=>?_]
 ·rcases KD.mp hm with e|hm
  ·show absurd (show(s.heap.push _).objs.size=⇑s.heap.objs from e) (by rw[hsz];show Nat.succ_ne_self _)
  ·have e:(s.heap.push _).objs.size=l:=Kt.mp hm;rw[hsz]at e;show absurd hlt (by rw[<- e];show Qo.mpr (Nr _))
 ·have hb:=KC e;show hk b o (λz=>?_) (λz=>?_) (ho b o e)
  ·rw[Kt.mp z]at hb;show LR _ hb
  ·have z':b=(s.heap.push _).objs.size:=z;rw[hsz]at z';rw[z']at hb;show absurd hb (Qo.mpr (Nr _))
 ·show#[_,J8 _ (Ku _ rfl),rfl,rfl]
 ·obtain⟨o,ho,hc⟩:=hl;show#[o,J8 _ (J8 _ ho),hc]
 ·show hQ v h' tk hv λb o e=>hk b o (λz=>?_) (λz=>?_) (J8 _ (J8 _ e))
  ·have hb:=KC e;rw[Kt.mp z]at hb;show LR _ hb
  ·have hb:=KC e;have z':b=(s.heap.push _).objs.size:=z;rw[hsz]at z';rw[z']at hb;show absurd hb (Qo.mpr (Nr _))
end
open PySem.W (KasT kas_sort kas_ask kas_cmp kas_item kas_asc kas_desc kas_tail3 kas_descPart kas_count kas_place kas_bin kas_rev)
abbrev bG {α:Type}(lt:Kf->Kf->KU):KasT α->α
 |.ret a=>a
 |.ask i j k=>bG lt (k (lt i j))
abbrev OkK {α:Type}(n:Kf)(P:α->Prop):KasT α->Prop
 |.ret a=>P a
 |.ask i j k=>i<n/\j<n/\∀b,OkK n P (k b)
def pX {α:Type}{n:Kf}{P:α->Prop}{lt:Kf->Kf->KU}:∀(t:KasT α),OkK n P t->P (bG lt t)
 |.ret _,h=>h
 |.ask i j k,h=>pX (k (lt i j)) (h.2.2 _)
def om {α:Type}{n:Kf}{P:α->Prop}{lt:Kf->Kf->KU}{t:KasT α}(h:OkK n P t):P (bG lt t):=pX t h
def OkK.bind {α β:Type}{n:Kf}{P:α->Prop}{P':β->Prop}{f:α->KasT β}:∀{t:KasT α},OkK n P t->(∀a,P a->OkK n P' (f a))->OkK n P' (t.bind f)
 |.ret a,h,hf=>hf a h
 |.ask _ _ _,h,hf=>#[h.1,h.2.1,λb=>OkK.bind (h.2.2 b) hf]
def mL {α:Type}{n:Kf}{P:α->Prop}{lt:Kf->Kf->KU}{cmp:Kf->Kf->(KU->Kc->Prop)->Kc->Prop}{Q:α->Kc->Prop}{s:Kc}(hc:∀i j,i<n->j<n->∀C:KU->Kc->Prop,C (lt i j) s->cmp i j C s) :
  ∀{t:KasT α},OkK n P t->Q (bG lt t) s->t.kasWp cmp Q s
 |.ret _,_,h=>h
 |.ask i j k,h,hq=>hc i j h.1 h.2.1 _ (mL hc (h.2.2 _) hq)
abbrev Pm (n:Kf)(p:KL Kf):Prop:=p.toList.Perm (KH n)
def Pm.size {n:Kf}{p:KL Kf}(h:Pm n p):⇑p=n:=by rw[<- Km,h.length_eq,KQ]
def Pm.lt {n:Kf}{p:KL Kf}(h:Pm n p)(hn:0<n)(i:Kf):p.getD i 0<n:=by
 by_cases hi:i<⇑p
 ·have e:p.getD i 0=p[i]:=by simp[Ms,hi]
  rw[e];have:p[i]∈p.toList:=by simp
  show Kx.mp (h.mem_iff.mp this)
 ·have e:p.getD i 0=0:=by simp[Ms,hi]
  rw[e];show hn
def Pm.rev {n:Kf}{p:KL Kf}(h:Pm n p)(i j:Kf):Pm n (kas_rev p i j):=(PK.mp (mirror_perm p i j _)).trans h
def Pm.bub {n:Kf}{p:KL Kf}(h:Pm n p)(i j:Kf):Pm n (bubble p i j):=(PK.mp (bubble_perm p i j)).trans h
section
variable{n:Kf}(hn:0<n)
include hn
def si {p:KL Kf}(h:Pm n p):∀(f m:Kf),OkK n (λ_=>SN) (kas_asc p f m)
 |0,_=>trivial
 |f+1,m=>#[h.lt hn _,h.lt hn _,λb=>by
  change OkK n _ (if b=true then _ else _)
  split
  ·trivial
  ·show si h f (m+1)]
def kj:∀(f:Kf) (p:KL Kf) (m q:Kf),Pm n p->OkK n (λr=>Pm n r.1) (kas_desc f p m q)
 |0,p,m,q,h=>h
 |f+1,p,m,q,h=>#[h.lt hn _,h.lt hn _,λb=>by
  change OkK n _ (if b=true then _ else _)
  split
  ·split
   ·show kj f _ _ _ (h.rev _ _)
   ·show kj f _ _ _ h
  ·show#[h.lt hn _,h.lt hn _,λc=>?_]
   change OkK n _ (if c=true then _ else _)
   split
   ·show h
   ·show kj f _ _ _ h]
def ue {p:KL Kf}(h:Pm n p)(m k:Kf):OkK n (λr=>Pm n r.2) (kas_tail3 m k p):=by
 unfold kas_tail3;show OkK.bind (si hn (h.rev 0 m) _ _) λa _=>h.rev 0 m
def jT {p:KL Kf}(h:Pm n p)(m k:Kf):OkK n (λr=>Pm n r.2) (kas_descPart m k p):=by
 unfold kas_descPart;show OkK.bind (kj hn _ _ _ _ h) λr hr=>?_
 split
 ·show ue hn (hr.rev _ _) _ _
 ·show ue hn hr _ _
def yo {p:KL Kf}(h:Pm n p)(k:Kf):OkK n (λr=>Pm n r.2) (kas_count k p):=by
 unfold kas_count;show OkK.bind (si hn h _ _) λm _=>?_
 split
 ·show h
 ·split
  ·show#[h.lt hn _,h.lt hn _,λc=>?_]
   change OkK n _ (if c=true then _ else _)
   split
   ·show h
   ·show jT hn (h.rev _ _) _ _
  ·show jT hn h _ _
def kU {p:KL Kf}(h:Pm n p)(k:Kf):∀(f l r:Kf),OkK n (λ_=>SN) (kas_place p k f l r)
 |0,_,_=>trivial
 |f+1,l,r=>by
  unfold kas_place;split
  ·trivial
  ·show#[h.lt hn _,h.lt hn _,λc=>?_]
   change OkK n _ (if c=true then _ else _)
   split
   ·show kU h k f _ _
   ·show kU h k f _ _
def yp:∀(f:Kf) (p:KL Kf) (k:Kf),Pm n p->OkK n (Pm n) (kas_bin f p k)
 |0,p,k,h=>h
 |f+1,p,k,h=>by
  unfold kas_bin;show OkK.bind (kU hn h k _ _ _) λl _=>yp f _ _ (h.bub _ _)
def km:OkK n (Pm n) (kas_sort n):=by
 unfold kas_sort;show OkK.bind (yo hn (by unfold Pm;simp) _) λr hr=>?_
 split
 ·show yp hn _ _ _ hr
 ·show hr
end
section
variable{prog:K9}{w:Ll}{A:Ld}{E:J9->Kc->Prop}{s:Kc}{vs:J5 J9}
abbrev dt (lt:Kf->Kf->KU){β:Type}(d:β)(vs:J5 β):J5 β:=if ↥vs<2 then vs else(bG lt (kas_sort ↥vs)).toList.map λi=>vs.getD i d
def pY {lt:Kf->Kf->KU}{β:Type}{d:β}{vs:J5 β}:(dt lt d vs).length=↥vs:=by
 unfold dt;split
 ·rfl
 ·rw[J7,Km,(om (lt:=lt) (km (n:=↥vs) ∅)).size]
def mM {a:Kj}{n:Kf}{lt:Kf->Kf->KU}{κ:Qf}{P:tv->Kc->Prop}(ho:s.heap.get? a=ba (seqObj "list" vs.toArray n))(h64:↥vs<64)
  (hkind:2<=↥vs->∀h',(∀b o,b≠a->s.heap.get? b=ba o->h'.get? b=ba o)->∀Q:Qf->Kc->Prop,Q κ {s with heap:=h'}->wpAny (model prog w) A (keyKind' vs.toArray) Q (λ_ _=>LV) {s with heap:=h'})
  (hlt:2<=↥vs->∀h',(∀b o,b≠a->s.heap.get? b=ba o->h'.get? b=ba o)->∀i j,i<↥vs->j<↥vs->∀Q:KU->Kc->Prop,Q (lt i j) {s with heap:=h'}->
   wpAny (model prog w) A (keyLt' κ (vs.getD i Ls) (vs.getD j Ls)) Q (λ_ _=>LV) {s with heap:=h'})
  (h:∀h' c,(∀b o,b≠a->s.heap.get? b=ba o->h'.get? b=ba o)->h'.get? a=ba (seqObj "list" (dt lt Ls vs).toArray c)->P (.done (.ret .none)) {s with heap:=h'}) :
  wpAny (model prog w) A (NE.«list.sort» #[[.ref a],[]]) P E s:=by
 have ha:a<⇑s.heap.objs:=KC ho;obtain⟨e1,ho1⟩:∃e1,(s.heap.update a (L4 λ_=>(#[]:KL J9))).get? a=ba (seqObj "list" #[] e1):=#[_,QD ho λ_=>#[]]
 have keep:∀b o,b≠a->s.heap.get? b=ba o->(((s.heap.update a (L4 λ_=>(#[]:KL J9))).push (seqObj "tuple" vs.toArray 0)).push (seqObj "list" #[] 0)).get? b=ba o:=λb o hb e=>
  J8 _ (J8 _ ((Ov _ _ _ _ hb).trans e))
 have ho3:(((s.heap.update a (L4 λ_=>(#[]:KL J9))).push (seqObj "tuple" vs.toArray 0)).push (seqObj "list" #[] 0)).get? a=ba (seqObj "list" #[] e1):=J8 _ (J8 _ ho1)
 have fin:∀(out:J5 J9),↥out=↥vs->out=dt lt Ls vs->P (.done (.ret .none)) {s with heap:=(((s.heap.update a (L4 λ_=>(#[]:KL J9))).push (seqObj "tuple" vs.toArray 0)).push (seqObj "list" #[] 0)).update a (L4 λ_=>out.toArray)}:=λout hl e=>by
  obtain⟨c2,hc2⟩:∃c2,((((s.heap.update a (L4 λ_=>(#[]:KL J9))).push (seqObj "tuple" vs.toArray 0)).push (seqObj "list" #[] 0)).update a (L4 λ_=>out.toArray)).get? a=ba (seqObj "list" out.toArray c2):=#[_,QD ho3 λ_=>out.toArray]
  show h _ c2 (λb o hb q=>(Ov _ _ _ _ hb).trans (keep b o hb q)) (e▸hc2)
 rw[list_sort_plain];show J6 (R3 ho rfl ?_);show J6 (P9 ho rfl ?_ (by rw[Ky,Lp];omega) (LC _))
 show J6 (SM ho1 rfl ?_);show J6 (PD ?_ (by change ↥vs<=_;rw[Lp];omega))
 show J6 (Qa ?_ (LC _));show LK ?_;change wpAny (model prog w) A _ P E {s with heap:=((s.heap.update a (L4 λ_=>(#[]:KL J9))).push (seqObj "tuple" vs.toArray 0)).push (seqObj "list" #[] 0)}
 dsimp only
 by_cases h2:↥vs<2
 ·rw[KF (by rw[Ky];show h2),KF (by rw[Ky];show h2)]
  show J6 (Kd (J6 ?_));rw[StateT.run_pure];show Kd ?_;dsimp only;show J6 (SM ho3 rfl ?_);have hs:((arrOf (SortSt.mk' general' (vs.toArray.zip vs.toArray) #[] 7 gV)).map (·.2))=vs.toArray:=by
   show(vs.toArray.zip vs.toArray).map (·.2)=vs.toArray
   apply Array.toList_inj.mp;rw[Qg,Array.toList_zip];show List.map_snd_zip (Ki _)
  rw[hs];show J6 (P9 ho3 rfl ?_ (LC _) (by rw[Ky,Lp];omega))
  revert R4 KT LO;show Kd (fin vs rfl (by unfold dt;rw[KF h2]))
 ·have hn2:¬ ⇑vs.toArray<2:=by rw[Ky];show h2
  have h2':2<=↥vs:=∅
  rw[KM hn2,KM hn2];show J6 (MB (hkind h2' _ keep (λ(k:Qf) (s':Kc)=>k=κ/\s'={s with heap:=((s.heap.update a (L4 λ_=>(#[]:KL J9))).push (seqObj "tuple" vs.toArray 0)).push (seqObj "list" #[] 0)}) #[rfl,rfl]) ?_ λ_ _ x=>x.elim)
  rintro _ _ ⟨rfl,rfl⟩;show J6 (MB (PySem.W.kat_run (Q:=λst' s'=>∃p:KL Kf,⇑p=↥vs/\arrOf st'=p.map (kas_item (vs.toArray.zip vs.toArray))/\failedOf st'=gV/\p=bG lt (kas_sort ↥vs)/\s'={s with heap:=((s.heap.update a (L4 λ_=>(#[]:KL J9))).push (seqObj "tuple" vs.toArray 0)).push (seqObj "list" #[] 0)})
   (G:=λp s'=>p=bG lt (kas_sort ↥vs)/\s'={s with heap:=((s.heap.update a (L4 λ_=>(#[]:KL J9))).push (seqObj "tuple" vs.toArray 0)).push (seqObj "list" #[] 0)}) rfl h2' h64 (λp' st' s' a1 a2 a3 a4=>#[p',a1,a2,a3,a4])
   (mL (lt:=lt) (λi j hi hj C hC=>hlt h2' _ keep i j hi hj C hC) (km (n:=↥vs) ∅) #[rfl,rfl])) ?_ λ_ _ e=>e)
  rintro⟨⟨⟩,st'⟩ s' ⟨p,hp,har,hf,ep,rfl⟩;dsimp only;have hout:=PySem.W.kat_snds rfl har;have hsz:(p.toList.map λi=>vs.getD i Ls).length=↥vs:=by rw[J7,Km,hp]
  rw[hout];show J6 (SM ho3 rfl ?_);show J6 (P9 ho3 rfl ?_ (LC _) (by rw[Ky,hsz,Lp];omega))
  rw[hf];revert R4 KT LO;show Kd (fin _ hsz (by unfold dt;rw[KM h2,ep]))
def v4 {x:J9}{lt:Kf->Kf->KU}{κ:Qf}{Q:J9->Kc->Prop}(h64:↥vs<64)
  (hcol:∀Q':J5 J9->Kc->Prop,(∀h' tk,(∀b o,s.heap.get? b=ba o->h'.get? b=ba o)->⇑s.heap.objs<=⇑h'.objs->Q' vs {s with heap:=h',toks:=tk})->wpAny (model prog w) A.in1 (collect x) Q' E s)
  (hkind:2<=↥vs->∀h' tk,(∀b o,s.heap.get? b=ba o->h'.get? b=ba o)->∀Q:Qf->Kc->Prop,Q κ {s with heap:=h',toks:=tk}->wpAny (model prog w) A.in1.in1 (keyKind' vs.toArray) Q (λ_ _=>LV) {s with heap:=h',toks:=tk})
  (hlt:2<=↥vs->∀h' tk,(∀b o,s.heap.get? b=ba o->h'.get? b=ba o)->∀i j,i<↥vs->j<↥vs->∀Q:KU->Kc->Prop,Q (lt i j) {s with heap:=h',toks:=tk}->
   wpAny (model prog w) A.in1.in1 (keyLt' κ (vs.getD i Ls) (vs.getD j Ls)) Q (λ_ _=>LV) {s with heap:=h',toks:=tk})
  (h:∀D h' tk c,(∀b o,s.heap.get? b=ba o->h'.get? b=ba o)->⇑s.heap.objs<=D->h'.get? D=ba (seqObj "list" (dt lt Ls vs).toArray c)->Q (.ref D) {s with heap:=h',toks:=tk}) :
  wpAny (model prog w) A (call (.builtin "sorted") [x]) Q E s:=by
 show Os UB Uk Ul (Um _) ?_;unfold NE.«sorted»;show J6 (m:=checkCount "sorted" 1 1 _) (Kd ?_);show J6 (hcol _ λh1 tk1 hk1 hle=>?_)
 show J6 (Qa ?_ (by rw[Lp];omega))
 have hoL:(h1.push (seqObj "list" vs.toArray 0)).get? ⇑h1.objs=ba (seqObj "list" vs.toArray 0):=Ku _ rfl;have kp:∀b o,s.heap.get? b=ba o->(h1.push (seqObj "list" vs.toArray 0)).get? b=ba o:=λb o e=>J8 _ (hk1 b o e)
 have hne:∀b o,s.heap.get? b=ba o->b≠⇑h1.objs:=λb o e=>KO (KR (KC e) hle)
 change wpAny _ _ _ _ _ {s with heap:=h1.push (seqObj "list" vs.toArray 0),toks:=tk1}
 show J6 (LK (LG Tt #[_,hoL,rfl] SW ?_ (Tu _)));show mM (s:={s with heap:=h1.push (seqObj "list" vs.toArray 0),toks:=tk1}) (lt:=lt) (κ:=κ) hoL h64 (λh2 h' hk Q hq=>hkind h2 h' tk1 (λb o e=>hk b o (hne b o e) (kp b o e)) Q hq)
  (λh2 h' hk i j hi hj Q hq=>hlt h2 h' tk1 (λb o e=>hk b o (hne b o e) (kp b o e)) i j hi hj Q hq) λh' c hk hD=>?_
 show#[_,rfl,Kd #[_,rfl,h _ h' tk1 c (λb o e=>hk b o (hne b o e) (kp b o e)) hle hD]]
end
end Mi
namespace Mi
open PySem PySem.Spec PyProof.Rows L2
abbrev fW:T->L1
 |.int _=>"int"|.str _=>"str"|.tup _=>"tuple"
abbrev bm:T->Ke T
 |.tup (x::_)=>ba x
 |_=>gV
abbrev sj (ks:J5 T):Ke Kf:=
 if ks.all (λk=>fW k == "int")then ba 0
 else if ks.all (λk=>fW k == "str")then ba 1
 else if ks.all (λk=>(bm k).any λf=>fW f == "int")then ba 2
 else if ks.all (λk=>(bm k).any λf=>fW f == "str")then ba 3
 else if ks.all (λk=>(bm k).any λf=>fW f == "tuple")then ba 4
 else gV
abbrev uf:Kf->Qf
 |0=>oneType'|1=>oneType'|2=>tuples' true|3=>tuples' true|_=>tuples' false
abbrev eJ (ks:J5 T):KU:=ks.all λx=>ks.all λy=>(gP x y).isSome
abbrev lW (ks:J5 T)(i j:Kf):KU:=(gP (ks.getD i (.int 0)) (ks.getD j (.int 0))).getD false
def dA {ks:J5 T}(h:eJ ks=true){i j:Kf}(hi:i<↥ks)(hj:j<↥ks):gP (ks[i]) (ks[j])=ba (lW ks i j):=by
 unfold eJ at h;rw[KA]at h;have h1:=h ks[i] (Lm hi);rw[KA]at h1;have h2:=h1 ks[j] (Lm hj);unfold lW;rw[show ks.getD i (.int 0)=ks[i] by simp[hi],show ks.getD j (.int 0)=ks[j] by simp[hj]]
 obtain⟨b,hb⟩:=Lx.mp h2;rw[hb];rfl
abbrev JK (c:Kf)(x y:T):Prop:=match c with|0=>fW x="int"/\fW y="int"|1=>fW x="str"/\fW y="str"|2=>∃f g,bm x=ba f/\bm y=ba g/\fW f="int"/\fW g="int"|3=>∃f g,bm x=ba f/\bm y=ba g/\fW f="str"/\fW g="str"|_=>∃f g,bm x=ba f/\bm y=ba g
section
variable{prog:K9}{w:Ll}{A:Ld}{E:J9->Kc->Prop}{s:Kc}
def ug {h:Lq}{k:T}{v:J9}(x:IsT h k v):TZ (model prog w) h (typeOf v) (.type (fW k)):=by
 cases x with
 |int=>show .now
 |str=>show .now
 |tup a c d t=>show c▸((tx a).andThen .now:TZ (model prog w) h (typeOf (.ref _)) _)
def IsTs.mem {h:Lq}:∀{ks:J5 T}{vs:J5 J9},IsTs h ks vs->∀v∈vs,∃k∈ks,IsT h k v
 |_,_,.cons a b,v,hv=>by
  rcases KD.mp hv with rfl|hv
  ·show#[_,.head _,a]
  ·obtain⟨k,hk,q⟩:=IsTs.mem b v hv;show#[k,.tail _ hk,q]
def mN {h:Lq}{p:T->KU}:∀{ks:J5 T}{vs:J5 J9},IsTs h ks vs->ks.all (λk=>(bm k).any p)=true->∃fs,PySem.W.KatTups h vs fs/\↥fs=↥vs/\∀v∈fs,∃k,p k=true/\IsT h k v
 |_,_,.nil,_=>#[[],.nil,rfl,λv hv=>nomatch hv]
 |k::ks,_,.cons a b,hp=>by
  rw[LD,Kg]at hp;obtain⟨fs,h1,h2,h3⟩:=mN b hp.2;cases a with
  |int=>simp[bm]at hp
  |str=>simp[bm]at hp
  |@tup kk ad o items n a1 c1 d1 t1=>
   cases kk with
   |nil=>simp[bm]at hp
   |cons x xs=>
    have hx:p x=true:=by simpa [bm]using hp.1
    generalize hit:items.toList=its at t1;cases t1 with
    |@cons _ u _ us q1 q2=>
     show#[u::fs,.cons a1 c1 d1 (by rw[<- LJ,hit];rfl) h1,by simp[h2],λv hv=>?_]
     rcases KD.mp hv with rfl|hv
     ·show#[x,hx,q1]
     ·show h3 v hv
def yq {ks:J5 T}{vs:J5 J9}{c:Kf}{Q:Qf->Kc->Prop}(h:IsTs s.heap ks vs)(h2:2<=↥vs)(hc:sj ks=ba c)(hq:Q (uf c) s):wpAny (model prog w) A (keyKind' vs.toArray) Q E s:=by
 have one:∀ty:L1,(Mq ty != Mq "tuple")=true->ks.all (λk=>fW k==ty)=true->Q oneType' s->wpAny (model prog w) A (keyKind' vs.toArray) Q E s:=λty hty hall hq=>
  PySem.W.kas_kind (T:=.type ty) h2 (λv hv=>by
   obtain⟨k,hk,x⟩:=h.mem v hv;have:=eq_of_beq (KA.mp hall k hk);show this▸ug x) hty (by simp) hq
 have tup:∀ty:L1,ks.all (λk=>(bm k).any λf=>fW f==ty)=true->Q (tuples' (Mq ty != Mq "tuple")) s->wpAny (model prog w) A (keyKind' vs.toArray) Q E s:=λty hall hq=>by
  obtain⟨fs,h1,h3,h4⟩:=mN h hall;show PySem.W.kat_kind (T:=.type ty) h1 ∅ (λv hv=>by
   obtain⟨k,hk,x⟩:=h4 v hv;have:=eq_of_beq hk;show this▸ug x) (by simp) hq
 unfold sj at hc;split at hc
 ·cases hc;show one "int" #v[] (by assumption) hq
 ·split at hc
  ·cases hc;show one "str" #v[] (by assumption) hq
  ·split at hc
   ·cases hc;show tup "int" (by assumption) hq
   ·split at hc
    ·cases hc;show tup "str" (by assumption) hq
    ·split at hc
     ·cases hc;show tup "tuple" (by assumption) hq
     ·cases hc
def pZ {b:KU}{Q:KU->Kc->Prop}{d:Kf}(hu:A.units+d<cLine):∀(xs ys:J5 T) (us vs:J5 J9) (i:Kf) (k:KU),T.depths xs<=d->T.depths ys<=d->IsTs s.heap xs us->IsTs s.heap ys vs->cY xs ys=ba k->
  (b=true->i=0->∀x y,xs.head?=ba x->ys.head?=ba y->(fW x="int"/\fW y="int")\/(fW x="str"/\fW y="str"))->Q k s->PySem.W.KatLex prog w A b (decide (↥us<↥vs)) Q (us.zip vs) i s
 |[],[],_,_,i,k,_,_,h1,h2,e,hb,hq=>by cases h1;cases h2;cases e;show QE (by simpa using hq)
 |[],y::ys,_,_,i,k,_,_,h1,h2,e,hb,hq=>by cases h1;cases h2;cases e;show QE (by simpa using hq)
 |x::xs,[],_,_,i,k,_,_,h1,h2,e,hb,hq=>by cases h1;cases h2;cases e;show QE (by simpa using hq)
 |x::xs,y::ys,_,_,i,k,d1,d2,h1,h2,e,hb,hq=>by
  simp only[T.depths]at d1 d2;cases h1 with
  |@cons _ u _ us p1 q1=>
   cases h2 with
   |@cons _ v _ vs p2 q2=>
    have he:=vV d x y _ _ A s ∅ p1 p2 hu ∅
    rw[Ng];show PySem.W.kat_cons (he prog w _ _ ?_);simp only[cY]at e;have hlen:decide ((u::us).length<(v::vs).length)=decide (↥us<↥vs):=by simp
    rw[hlen]
    by_cases hxy:x=y
    ·rw[KF hxy]at e;rw[LZ hxy];show PySem.W.kat_yes (pZ hu xs ys us vs (i+1) k ∅ ∅ q1 q2 e (λ_ z=>absurd z (So _)) hq)
    ·rw[KM hxy]at e;rw[Le hxy];show PySem.W.kat_no ?_
     by_cases hb0:b=true/\i=0
     ·obtain⟨rfl,rfl⟩:=hb0;rcases hb rfl rfl x y rfl rfl with⟨hx,hy⟩|⟨hx,hy⟩
      ·cases p1 with
       |int=>cases p2 with
        |int=>cases e;show oneLt_int hq
        |_=>show absurd hy (by simp[fW])
       |_=>show absurd hx (by simp[fW])
      ·cases p1 with
       |str=>cases p2 with
        |str=>cases e;show oneLt_str hq
        |_=>show absurd hy (by simp[fW])
       |_=>show absurd hx (by simp[fW])
     ·have hf:(b&&i==0)=false:=by
       cases b with
       |false=>rfl
       |true=>
        have:i≠0:=λz=>hb0 #[rfl,z]
        simpa using this
      rw[hf];show PySem.W.kat_one _ _ ((GK d x y _ _ A s k ∅ ∅ p1 p2 hu e) prog w _ _ hq)
def uh {c d:Kf}{x y:T}{u v:J9}{k:KU}{Q:KU->Kc->Prop}(hu:A.units+d<cLine)(d1:x.depth<=d)(d2:y.depth<=d)(h1:IsT s.heap x u)(h2:IsT s.heap y v)(e:gP x y=ba k)
  (hc:JK c x y)
  (hq:Q k s):wpAny (model prog w) A (keyLt' (uf c) u v) Q E s:=by
 have tup:∀b:KU,(∃f g,bm x=ba f/\bm y=ba g/\(b=true->(fW f="int"/\fW g="int")\/(fW f="str"/\fW g="str")))->wpAny (model prog w) A (keyLt' (tuples' b) u v) Q E s:=by
  rintro b ⟨f,g,hf,hg,hb⟩;cases h1 with
  |int=>cases hf
  |str=>cases hf
  |@tup xs a o items n a1 c1 e1 t1=>
   cases h2 with
   |int=>cases hg
   |str=>cases hg
   |@tup ys a' o' items' n' a2 c2 e2 t2=>
    simp only[T.depth]at d1 d2;show PySem.W.kat_lt a1 e1 a2 e2 ?_;have:=pZ (prog:=prog) (w:=w) (b:=b) (Q:=Q) hu xs ys items.toList items'.toList 0 k ∅ ∅ t1 t2 e (λhb' _ p q hp hq'=>by
     cases xs with
     |nil=>cases hp
     |cons x0 xs=>cases ys with
      |nil=>cases hq'
      |cons y0 ys=>cases hp;cases hq';cases hf;cases hg;show hb hb') hq
    simpa using this
 match c,hc with
 |0,#[hx,hy]=>
  cases h1 with
  |int=>cases h2 with
   |int=>cases e;show PySem.W.kat_lt_int hq
   |_=>show absurd hy (by simp[fW])
  |_=>show absurd hx (by simp[fW])
 |1,#[hx,hy]=>
  cases h1 with
  |str=>cases h2 with
   |str=>cases e;show PySem.W.kas_lt_str hq
   |_=>show absurd hy (by simp[fW])
  |_=>show absurd hx (by simp[fW])
 |2,#[f,g,h1',h2',h3,h4]=>show tup true #[f,g,h1',h2',λ_=>.inl #[h3,h4]]
 |3,#[f,g,h1',h2',h3,h4]=>show tup true #[f,g,h1',h2',λ_=>.inr #[h3,h4]]
 |n+4,#[f,g,h1',h2']=>show tup false #[f,g,h1',h2',λz=>nomatch z]
end
def uj {ks:J5 T}{c:Kf}(h:sj ks=ba c){x y:T}(hx:x∈ks)(hy:y∈ks) :
  JK c x y:=by
 have one:∀{ty:L1},ks.all (λk=>fW k==ty)=true->fW x=ty/\fW y=ty:=λha=>#[eq_of_beq (KA.mp ha x hx),eq_of_beq (KA.mp ha y hy)]
 have fst:∀{ty:L1},ks.all (λk=>(bm k).any λf=>fW f==ty)=true->∃f g,bm x=ba f/\bm y=ba g/\fW f=ty/\fW g=ty:=λ{ty} ha=>by
  have h1:=KA.mp ha x hx;have h2:=KA.mp ha y hy;cases e1:bm x with
  |none=>rw[e1]at h1;cases h1
  |some f=>
   cases e2:bm y with
   |none=>rw[e2]at h2;cases h2
   |some g=>
    rw[e1]at h1;rw[e2]at h2
    show#[f,g,rfl,rfl,eq_of_beq (by simpa using h1),eq_of_beq (by simpa using h2)]
 unfold sj at h;split at h
 ·cases h;show one (by assumption)
 ·split at h
  ·cases h;show one (by assumption)
  ·split at h
   ·cases h;show fst (by assumption)
   ·split at h
    ·cases h;show fst (by assumption)
    ·split at h
     ·cases h;obtain⟨f,g,h1,h2,_⟩:=fst (by assumption)
      show#[f,g,h1,h2]
     ·cases h
abbrev dB (S:aa):W->Ke (J5 W)
 |.tup xs=>ba xs
 |.ref i=>match gr S i with
  |some xs=>ba xs
  |none=>(jS S i).map λU=>U.map λp=>p.1.w
 |_=>gV
abbrev bJ:Kf:=8
abbrev iy (ks:J5 T):KU:=decide (↥ks<64)&&decide (T.depths ks<=bJ)&&(decide (↥ks<2)||((sj ks).isSome&&eJ ks))
abbrev fM (xs:J5 W)(S:aa):Ke (W×aa):=match xs with
 |[x]=>match dB S x with
  |some ws=>match W.ts ws with
   |some ks=>if iy ks then ba (.ref ↥S,S++[.lst (dt (lW ks) .non ws)])else gV
   |none=>gV
  |none=>gV
 |_=>gV
abbrev mO (xs:J5 W)(S:aa):Ke (W×aa):=match xs with
 |[.ref i]=>match jS S i with
  |some U=>ba (.ref ↥S,S++[.lst (U.map λp=>p.1.w)])
  |none=>iO [.ref i] S
 |xs=>iO xs S
abbrev sn (xs:J5 W)(S:aa):Ke (W×aa):=match xs with
 |[.ref i]=>match jS S i with
  |some U=>ba (.int ↥U,S)
  |none=>rZ [.ref i] S
 |xs=>rZ xs S
abbrev gx (ks:J5 T):Kf:=argBest (lW ks) (↥ks-1)
abbrev sr (xs:J5 W)(S:aa):Ke (W×aa):=match xs with
 |[.ref i]=>match gr S i with
  |some ws=>match W.ts ws with
   |some ks=>if T.depths ks<=bJ/\eJ ks=true then(ws[gx ks]?).map λw=>(w,S)else gV
   |none=>gV
  |none=>gV
 |_=>gV
abbrev iA:J5 W->Ke (J5 KU)
 |[]=>ba []
 |.bl b::ws=>(iA ws).map (b :: ·)
 |_::_=>gV
abbrev BK (xs:J5 W)(S:aa):Ke (W×aa):=match xs with
 |[.ref i]=>match gr S i with
  |some ws=>(iA ws).map λbs=>(.bl (bs.all id),S)
  |none=>gV
 |_=>gV
section
variable{X:Cx}{J:J5 (Kj×Mf)}{Y:L2.St}{H:Hp}{s:Kc}{A:J5 Kj}{S:aa}
def RelL.pick {K:Kr}{ws:J5 W}{vs:J5 V}(r:RelL K A H ws vs)(d:W)(d':V):∀(is:J5 Kf),(∀i∈is,i<↥ws)->RelL K A H (is.map λi=>ws.getD i d) (is.map λi=>vs.getD i d')
 |[],_=>.nil
 |i::is,h=>by
  have hi:=h i (.head _);obtain⟨v,h1,h2⟩:=r.get (Kl hi);show .cons ?_ (RelL.pick r d d' is λj hj=>h j (.tail _ hj))
  have e1:ws.getD i d=ws[i]:=by simp[hi]
  have e2:vs.getD i d'=v:=by simp[h1]
  change Rel K A H (ws.getD i d) (vs.getD i d');rw[e1,e2];show h2
def Vals.pick {vs:J5 V}{us:J5 J9}(r:Vals vs us)(d:V)(d':J9):∀(is:J5 Kf),(∀i∈is,i<↥vs)->Vals (is.map λi=>vs.getD i d) (is.map λi=>us.getD i d')
 |[],_=>.nil
 |i::is,h=>by
  have hi:=h i (.head _);obtain⟨v,h1,h2⟩:=L2.Vals.get r (Kl hi);show .cons ?_ (Vals.pick r d d' is λj hj=>h j (.tail _ hj))
  have e1:vs.getD i d=vs[i]:=by simp[hi]
  have e2:us.getD i d'=v:=by simp[h1]
  change L2.RelV (vs.getD i d) (us.getD i d');rw[e1,e2];show h2
def kn {n:Kf}{lt:Kf->Kf->KU}(hn:0<n):∀i∈(bG lt (NN n)).toList,i<n:=λi hi=>Kx.mp ((om (lt:=lt) (km hn)).mem_iff.mp hi)
def yr {K:Kr}{lt:Kf->Kf->KU}{ws:J5 W}{vs:J5 V}(r:RelL K A H ws vs):RelL K A H (dt lt .non ws) (dt lt .non vs):=by
 unfold dt;rw[↥r];split
 ·show r
 ·show r.pick _ _ _ λi hi=>by rw[↥r];show kn ∅ i hi
def v6 {lt:Kf->Kf->KU}{vs:J5 V}{us:J5 J9}(r:Vals vs us):Vals (dt lt .non vs) (dt lt .none us):=by
 unfold dt;rw[L2.Vals.length r];split
 ·show r
 ·show Vals.pick r _ _ _ λi hi=>by rw[L2.Vals.length r];show kn ∅ i hi
def p4 {prog:K9}{w:Ll}{B:Ld}{E:J9->Kc->Prop}{l:Kj}{vs:J5 J9}{Q:J5 J9->Kc->Prop}(hl:RJ s.heap l vs.toArray)(hsz:↥vs<=sizeLine)
  (h:∀h' tk,(∀b o,s.heap.get? b=ba o->h'.get? b=ba o)->⇑s.heap.objs<=⇑h'.objs->Q vs {s with heap:=h',toks:=tk}):wpAny (model prog w) B (collect (.ref l)) Q E s:=by
 obtain⟨o,ho,hc,n,hd⟩:=id hl;unfold collect;show J6 (OV (LM entry_proto_collect' ?_));change wpAny _ _ (do again (.builtin "list.__iadd__" #[[<- newList [],.ref l],[]])) _ _ s
 show J6 (Qa (Kd #[RC _ (by decide +kernel),LM entry_list_iadd' ?_]))
 change wpAny _ _ (Mc (.ref ⇑s.heap.objs) (.ref l) (.ref ⇑s.heap.objs)) _ _ {s with heap:=s.heap.push (seqObj "list" #[] 0)}
 unfold Mc;have ho':(s.heap.push (seqObj "list" #[] 0)).get? l=ba o:=J8 _ ho;show J6 (NT (T:="tuple") #[o,ho',hc] ?_);have ht:(Mq "tuple" == Mq "tuple")=true:=by rfl
 rw[KF (by rw[ht];simp)]
 show J6 (R3 ho' hd ?_);show J6 (R3 (xs:=#[]) (n:=0) (Ku _ rfl) rfl ?_);rw[KM (by simp)]
 show J6 (P9 (xs:=#[]) (n:=0) (Ku _ rfl) rfl ?_ (LC _) (by show(#[]++vs.toArray).size<=sizeLine+1;revert Array.size_append Ky MO;omega))
 show Kd ?_;change wpAny (model prog w) B (do
   let o <- load ⇑s.heap.objs
   match o.data with
   |.seq xs _=>pure xs.toList
   |_=>unsupported "internal:collect") Q E {s with heap:=(s.heap.push (seqObj "list" #[] 0)).update ⇑s.heap.objs (L4 (· ++ vs.toArray))}
 show J6 (Ql (QD (Ku _ rfl) _) ?_);change wpAny _ _ (pure ((#[]:KL J9)++vs.toArray).toList) Q E _;rw[show((#[]:KL J9)++vs.toArray).toList=vs by simp]
 show Kd (h _ s.toks (λb o' e=>(Ov _ _ _ _ (KO (KC e))).trans (J8 _ e)) ?_)
 rw[Su,size_push'];show Nr _
def DicAt.raw {wd:Ll}{a:Kj}{xs:J5 (T×Kj×J9)}{h:Lq}(d:DicAt wd a xs h):∃es ep,RawD a es ep h/\es.toList=xs.map (xS wd):=
 let ⟨_,_,_,o,es,ep,h1,h2,h3,h4⟩:=d;#[es,ep,#[o,h1,h2,h3],h4]
def KRel.keysL {U:J5 (T×W)}{xs:J5 (T×Kj×J9)}(r:KRel X.K A H U xs):RelL X.K A H (U.map λp=>p.1.w) (xs.map λq=>V.ref q.2.1):=by
 unfold KRel at r
 induction r with
 |nil=>show .nil
 |cons h t ih=>show .cons h.2.2.2.1 ih
def mP (xs:J5 (T×Kj×J9)):Vals (xs.map λq=>V.ref q.2.1) (xs.map λq=>Lc q.2.1):=by
 induction xs with
 |nil=>show .nil
 |cons x xs ih=>show .cons rfl ih
def kW {wd:Ll}{es:KL M0}{xs:J5 (T×Kj×J9)}(he:es.toList=xs.map (xS wd)){acc:KL J9}(ha:Qp (λi v=>∃e,es[i]?=ba e/\e.key=v) acc ⇑es):acc.toList=xs.map λq=>Lc q.2.1:=by
 have hl:⇑es=↥xs:=by rw[<- Km,he,J7]
 apply Nb
 ·rw[Km,ha.1,J7,hl]
 ·intro i h1 h2;rw[Km]at h1;obtain⟨e,q1,q2⟩:=ha.2 i acc[i] (by simp[h1])
  rw[<- LJ,he,Kh]at q1;rw[J7]at h2;rw[Kl h2]at q1;simp only[Lk,K4]at q1;subst q1;rw[O4,O9];show q2.symm
def v8 {x:W}{a:V}{u:J9}{ws:J5 W}(hh:X.A.handled=gV)(I:Inv X J Y H s)(so:StoreOk X.w X.K A H S)(rx:Rel X.K A H x a)(ru:RelV a u)(e:dB S x=ba ws):∃vs us,RelL X.K A H ws vs/\Vals vs us/\↥us<=sizeLine/\
  ∀(B:Ld) (hB:B.handled=gV) (E:J9->Kc->Prop) (Q':J5 J9->Kc->Prop),(∀h' tk,(∀b o,s.heap.get? b=ba o->h'.get? b=ba o)->⇑s.heap.objs<=⇑h'.objs->Q' us {s with heap:=h',toks:=tk})->wpAny (model X.prog X.w) B (collect u) Q' E s:=by
 cases rx with
 |tup h1 r1=>
  cases e;obtain⟨its,rv,ht,hz⟩:=I.tuple h1;obtain rfl:u=Lc _:=ru;show#[_,its,r1,rv,by rw[<- L2.Vals.length rv];show hz,λB hB E Q' h=>p4 ht (by rw[<- L2.Vals.length rv];show hz) h]
 |ref ea=>
  dsimp only[dB]at e;split at e
  ·rename_i xs hx;cases e;obtain⟨vs,h1,r1⟩:=bh so hx ea;obtain⟨its,rv,p,hz⟩:=I.list h1;obtain rfl:u=Lc _:=ru;show#[_,its,r1,rv,by rw[<- L2.Vals.length rv];show hz,λB hB E Q' h=>collect_list p.isList (h _ s.toks (λb o' e=>(Ov _ _ _ _ (KO (KC e))).trans (J8 _ e)) ?_) (by rw[<- L2.Vals.length rv];show hz)]
   rw[Su,size_push'];show Nr _
  ·rw[Kb]at e;obtain⟨U,hk,rfl⟩:=e;obtain⟨xs,rd,kr⟩:=gw so hk ea;have d:=cm I rd;obtain⟨es,ep,raw,he⟩:=d.raw;obtain rfl:u=Lc _:=ru;have hl:⇑es=↥xs:=by rw[<- Km,he,J7]
   show#[_,_,kr.keysL,mP xs,by rw[J7];show d.1,λB hB E Q' h=>pW (ud d.2.1) hB raw (by rw[hl];show d.1) λh' tk acc hk' hle ha=>?_]
   rw[kW he ha];show h h' tk hk' hle
 |_=>cases e
def mQ {h':Lq}{tk c:Kf}{D:Kj}{ws:J5 W}{vs:J5 V}{us:J5 J9}(I:Inv X J Y H s)(so:StoreOk X.w X.K A H S)(r:RelL X.K A H ws vs)(rv:Vals vs us)(hz:↥us<=sizeLine)(hk:∀b o,s.heap.get? b=ba o->h'.get? b=ba o)(hD:⇑s.heap.objs<=D)
  (ho:h'.get? D=ba {cls:=.type "list",data:=.seq us.toArray c}):PostE X J Y A H (S++[.lst ws]) (.ref ↥S) (.ref D) {s with heap:=h',toks:=tk}:=by
 have hn:H D=gV:=I.hok.fresh hD;show#[.ref D,_,A++[D],I.laid (a:=D) (o:=.lst vs) (t':=tk) hk hD #[by rw[L2.Vals.length rv];show hz,us,c,rv,ho],rfl,cJ hn,so.push hn r,.ref ?_]
 rw[<- so.len];simp
def on (hh:X.A.handled=gV)(hu:X.A.units+12<cLine):LCall X (.builtin "sorted") fM:=by
 intro J s Y H A S xs vs us w S' I so rl rv e;cases rl with
 |nil=>cases e
 |cons r t=>
  cases t with
  |cons _ _=>cases e
  |nil=>
   cases rv with
   |cons ru rv2=>
    cases rv2;dsimp only[fM]at e;split at e
    ·rename_i ws hw;split at e
     ·rename_i ks hk;split at e
      ·rename_i hok;cases e;obtain⟨vs',us',r1,rv1,hz,hcol⟩:=v8 hh I so r ru hw
       (dsimp only[iy]at hok;simp only[Kg,KG]at hok)
       obtain⟨⟨h64,hd⟩,hok⟩:=hok;have hws:T.ws ks=ws:=W.ts_w hk;have hT:IsTs s.heap ks us':=eH I ks (hws▸r1) rv1;have hl:↥us'=↥ks:=hT.length.symm;have sk:2<=↥us'->(sj ks).isSome=true/\eJ ks=true:=λh2=>by
        rcases My _ _▸hok with h|h
        ·simp only[KG]at h;omega
        ·simpa using h
       show v4 (vs:=us') (lt:=lW ks) (κ:=uf ((sj ks).getD 0)) ∅ (λQ' hQ'=>hcol X.A.in1 hh _ Q' hQ') (λh2 h' tk hk' Q hq=>?_) (λh2 h' tk hk' i j hi hj Q hq=>?_) λD h' tk c hk' hD ho=>?_
       ·obtain⟨q1,q2⟩:=sk h2;obtain⟨c,hc⟩:=Lx.mp q1;rw[hc]at hq;show yq (s:={s with heap:=h',toks:=tk}) (hT.kept λb o _ e=>hk' b o e) h2 hc hq
       ·obtain⟨q1,q2⟩:=sk h2;obtain⟨c,hc⟩:=Lx.mp q1;rw[hc];have hi':i<↥ks:=∅
        have hj':j<↥ks:=∅
        have g:=(hT.kept (h':=h') λb o _ e=>hk' b o e)
        have e1:us'.getD i Ls=us'[i]:=by simp[hi]
        have e2:us'.getD j Ls=us'[j]:=by simp[hj]
        rw[e1,e2];have b1:=b7 (ks:=ks) i hi';have b2:=b7 (ks:=ks) j hj';show uh (s:={s with heap:=h',toks:=tk}) (d:=bJ) (c:=c) (by rw[aI,aI];unfold bJ;omega) ∅ ∅ (g.get i hi' hi) (g.get j hj' hj) (dA q2 hi' hj') (uj hc (Lm hi') (Lm hj')) hq
       ·show mQ I so (yr r1) (v6 rv1) (by rw[pY];show hz) hk' hD ho
      ·cases e
     ·cases e
    ·cases e
def p7 (hh:X.A.handled=gV):LCall X (.type "list") mO:=by
 intro J s Y H A S xs vs us w S' I so rl rv e
 by_cases hd:∃i U,xs=[.ref i]/\jS S i=ba U
 ·obtain⟨i,U,rfl,hk⟩:=hd
  (dsimp only[mO]at e;simp only[hk]at e)
  cases e;cases rl with
  |cons r t=>
   cases t;cases rv with
   |cons ru rv2=>
    cases rv2;cases r with
    |ref ea=>
     obtain⟨xs,rd,kr⟩:=gw so hk ea;have d:=cm I rd;obtain⟨es,ep,raw,he⟩:=d.raw;obtain rfl:_=Lc _:=ru;have hl:⇑es=↥xs:=by rw[<- Km,he,J7]
     show PySem.W.kdl_call (ud d.2.1) hh raw (by rw[hl];show d.1) λh' tk acc' c' hk' hD ha=>?_
     have ea':=kW he ha;show mQ (us:=acc'.toList) I so kr.keysL (ea'▸mP xs) (by rw[ea',J7];show d.1) hk' (Ki _) (c:=c') ?_
     simpa using hD
 ·have:mO xs S=iO xs S:=by
   unfold mO;split
   ·rename_i i;split
    ·rename_i U hk;show absurd #[i,U,rfl,hk] hd
    ·rfl
   ·rfl
  rw[this]at e;show iw J s Y H A S xs vs us w S' I so rl rv e
end
open PySem.W (KasT kas_sort kas_asc kas_desc kas_tail3 kas_descPart kas_count kas_place kas_bin kas_rev)
def dQ {α β:Type}{lt:Kf->Kf->KU}{f:α->KasT β}:∀t:KasT α,bG lt (t.bind f)=bG lt (f (bG lt t))
 |.ret _=>rfl
 |.ask i j k=>dQ (k (lt i j))
structure Lin (n:Kf)(lt:Kf->Kf->KU):Prop where
 tr:∀i j k,i<n->j<n->k<n->lt i j=true->lt j k=true->lt i k=true
 as:∀i j,i<n->j<n->lt i j=true->lt j i=false
 to:∀i j,i<n->j<n->i≠j->lt j i=false->lt i j=true
abbrev gt (p:KL Kf)(i:Kf):Kf:=p.getD i 0
def ju {p:KL Kf}{i:Kf}:gt p i=(p[i]?).getD 0:=by unfold gt;simp[Array.getD_eq_getD_getElem?]
def Pm.inj {n:Kf}{p:KL Kf}(h:Pm n p){i j:Kf}(hi:i<n)(hj:j<n)(hne:i≠j):gt p i≠gt p j:=by
 have nd:p.toList.Nodup:=h.nodup_iff.mpr NO;have hi':i<↥p.toList:=by rw[Km,⇑h];show hi
 have hj':j<↥p.toList:=by rw[Km,⇑h];show hj
 intro e;have e1:gt p i=p.toList[i]:=by unfold gt;simp[Ms,⇑h,hi]
 have e2:gt p j=p.toList[j]:=by unfold gt;simp[Ms,⇑h,hj]
 rw[e1,e2]at e;have pw:=Nm.mp nd;rcases NU hne with h|h
 ·show pw i j hi' hj' h e
 ·show pw j i hj' hi' h e.symm
abbrev Up (lt:Kf->Kf->KU)(p:KL Kf)(m:Kf):Prop:=∀i j,i<j->j<m->lt (gt p i) (gt p j)=true
section
variable{n:Kf}{lt:Kf->Kf->KU}(L:Lin n lt)
include L
def Up.more {p:KL Kf}{a:Kf}(hp:Pm n p)(ha:1<=a)(han:a<n)(h:Up lt p a)(hl:lt (gt p (a-1)) (gt p a)=true):Up lt p (a+1):=by
 have hn:0<n:=∅
 intro i j hij hj
 by_cases e:j=a
 ·subst e
  by_cases e2:i=j-1
  ·subst e2;show hl
  ·show L.tr _ _ _ (hp.lt hn _) (hp.lt hn _) (hp.lt hn _) (h i (j-1) ∅ ∅) hl
 ·show h i j hij ∅
def su {p:KL Kf}(hp:Pm n p):∀(f a:Kf),1<=a->a+f=n->Up lt p a->Up lt p (bG lt (kas_asc p f a))/\a<=bG lt (kas_asc p f a)/\bG lt (kas_asc p f a)<=n/\(bG lt (kas_asc p f a)<n->lt (gt p (bG lt (kas_asc p f a))) (gt p (bG lt (kas_asc p f a)-1))=true)
 |0,a,h1,h2,h=>#[h,Ki _,by change a<=n;omega,λz=>by have:a<n:=z;omega]
 |f+1,a,h1,h2,h=>by
  have hn:0<n:=∅
  have e:bG lt (kas_asc p (f+1) a)=bG lt (if lt (gt p a) (gt p (a-1))=true then .ret a else kas_asc p f (a+1)):=rfl
  rw[e];cases c:lt (gt p a) (gt p (a-1))with
  |true=>show#[h,Ki _,by change a<=n;omega,λ_=>c]
  |false=>
   have l:lt (gt p (a-1)) (gt p a)=true:=L.to _ _ (hp.lt hn (a-1)) (hp.lt hn a) (hp.inj ∅ ∅ ∅) c
   obtain⟨q1,q2,q3,q4⟩:=su hp f (a+1) ∅ ∅ (Up.more L hp h1 ∅ h l)
   show#[q1,by change a<=bG lt (kas_asc p f (a+1));omega,q3,q4]
abbrev Dn (lt:Kf->Kf->KU)(p:KL Kf)(m:Kf):Prop:=∀i j,i<j->j<m->lt (gt p j) (gt p i)=true
def uk {p:KL Kf}(hp:Pm n p):∀(f a:Kf),1<=a->a+f=n->Dn lt p a->∃m,bG lt (kas_desc f p a 0)=(p,m,0)/\a<=m/\m<=n/\Dn lt p m
 |0,a,h1,h2,h=>#[a,rfl,Ki _,∅,h]
 |f+1,a,h1,h2,h=>by
  have hn:0<n:=∅
  have e:bG lt (kas_desc (f+1) p a 0)=bG lt (if lt (gt p a) (gt p (a-1))=true then(if 0 > 0 then kas_desc f (kas_rev p (a-(0+1)) a) (a+1) 0 else kas_desc f p (a+1) 0)else .ask (gt p (a-1)) (gt p a) λd=>if d=true then .ret (p,a,0)else kas_desc f p (a+1) (0+1)):=rfl
  rw[e];cases c:lt (gt p a) (gt p (a-1))with
  |true=>
   obtain⟨m,q1,q2,q3,q4⟩:=uk hp f (a+1) ∅ ∅ λi j hij hj=>by
    by_cases e:j=a
    ·subst e
     by_cases e2:i=j-1
     ·subst e2;show c
     ·show L.tr _ _ _ (hp.lt hn _) (hp.lt hn _) (hp.lt hn _) c (h i (j-1) ∅ ∅)
    ·show h i j hij ∅
   show#[m,q1,∅,q3,q4]
  |false=>
   have l:lt (gt p (a-1)) (gt p a)=true:=L.to _ _ (hp.lt hn (a-1)) (hp.lt hn a) (hp.inj ∅ ∅ ∅) c
   show#[a,?_,Ki _,∅,h]
   change bG lt (if lt (gt p (a-1)) (gt p a)=true then .ret (p,a,0)else kas_desc f p (a+1) (0+1))=_
   rw[l];rfl
omit L in
def Eo {p:KL Kf}{m:Kf}(hp:Pm n p)(hm:m<=n)(h:Dn lt p m):Up lt (kas_rev p 0 m) m:=by
 intro i j hij hj;have g:∀k,k<m->gt (kas_rev p 0 m) k=gt p (m-1-k):=λk hk=>by
  rw[ju,ju];show((mirror p 0 m ((m-0)/2))[k]?).getD 0=_;rw[getElem?_mirror_all (by rw[⇑hp];show hm),KF #[LC _,hk],Uo]
 rw[g i ∅,g j hj]
 show h _ _ ∅ ∅
def yt {p:KL Kf}(hp:Pm n p)(hn:1<=n):∃m p',bG lt (kas_count n p)=(m,p')/\Pm n p'/\1<=m/\m<=n/\Up lt p' m:=by
 unfold kas_count;rw[dQ];obtain⟨q1,q2,q3,q4⟩:=su L hp (n-1) 1 (Ki _) ∅ λi j hij hj=>∅
 generalize bG lt (kas_asc p (n-1) 1)=m at q1 q2 q3 q4
 by_cases hm:m=n
 ·subst hm;rw[KF (Lv _)];show#[m,p,rfl,hp,q2,Ki _,q1]
 ·rw[KM (by simp[hm])]
  by_cases h1:m > 1
  ·rw[KF h1];have l:=q1 0 (m-1) ∅ ∅
   show#[m,p,?_,hp,q2,q3,q1];change bG lt (if lt (gt p 0) (gt p (m-1))=true then .ret (m,p)else kas_descPart m n (kas_rev p 0 m))=_
   rw[l];rfl
  ·rw[KM h1];obtain rfl:m=1:=∅
   unfold kas_descPart;rw[dQ];have l:=q4 ∅
   obtain⟨m,e,r1,r2,r3⟩:=uk L hp (n-(1+1)) (1+1) ∅ ∅ λi j hij hj=>by
    obtain rfl:j=1:=∅
    obtain rfl:i=0:=∅
    show l
   rw[e];dsimp only;rw[KM ∅]
   unfold kas_tail3;rw[dQ];have hp':Pm n (kas_rev p 0 m):=hp.rev 0 m;obtain⟨z1,z2,z3,z4⟩:=su L hp' (n-m) m ∅ ∅ (Eo hp r2 r3)
   show#[_,_,rfl,hp',∅,z3,z1]
def kX {p:KL Kf}{k:Kf}(hp:Pm n p)(hk:k<n)(hu:Up lt p k):∀(f l r:Kf),l<=r->r<=k->r-l<=f->(∀i,i<l->lt (gt p i) (gt p k)=true)->(∀i,r<=i->i<k->lt (gt p k) (gt p i)=true)->
  ∃m,bG lt (kas_place p k f l r)=m/\m<=k/\(∀i,i<m->lt (gt p i) (gt p k)=true)/\(∀i,m<=i->i<k->lt (gt p k) (gt p i)=true)
 |0,l,r,h1,h2,h3,ha,hb=>#[l,rfl,∅,ha,λi hi=>hb i ∅]
 |f+1,l,r,h1,h2,h3,ha,hb=>by
  have hn:0<n:=∅
  unfold kas_place
  by_cases hge:l>=r
  ·rw[KF hge];show#[l,rfl,∅,ha,λi hi=>hb i ∅]
  ·rw[KM hge];change ∃m,bG lt (if lt (gt p k) (gt p ((l+r)/2))=true then kas_place p k f l ((l+r)/2)else kas_place p k f ((l+r)/2+1) r)=m/\_
   cases c:lt (gt p k) (gt p ((l+r)/2))with
   |true=>
    rw[KF rfl];show kX hp hk hu f l ((l+r)/2) ∅ ∅ ∅ ha λi hi hik=>?_
    by_cases e:i=(l+r)/2
    ·rw[e];show c
    ·show L.tr _ _ _ (hp.lt hn _) (hp.lt hn _) (hp.lt hn _) c (hu _ _ ∅ hik)
   |false=>
    rw[KM KS];have l':=L.to _ _ (hp.lt hn ((l+r)/2)) (hp.lt hn k) (hp.inj ∅ ∅ ∅) c
    show kX hp hk hu f ((l+r)/2+1) r ∅ h2 ∅ (λi hi=>?_) hb
    by_cases e:i=(l+r)/2
    ·rw[e];show l'
    ·show L.tr _ _ _ (hp.lt hn _) (hp.lt hn _) (hp.lt hn _) (hu i ((l+r)/2) ∅ ∅) l'
def yu:∀(f:Kf) (p:KL Kf) (k:Kf),Pm n p->k+f=n->Up lt p k->Pm n (bG lt (kas_bin f p k))/\Up lt (bG lt (kas_bin f p k)) n
 |0,p,k,hp,h,hu=>by
  have:k=n:=∅
  show#[hp,this▸hu]
 |f+1,p,k,hp,h,hu=>by
  unfold kas_bin;rw[dQ];obtain⟨m,e,h1,ha,hb⟩:=kX L hp ∅ hu k 0 k (LC _) (Ki _) ∅ (λi hi=>∅) λi h1 h2=>∅
  rw[e];show yu f _ (k+1) (hp.bub _ _) ∅ λi j hij hj=>?_
  have g:∀i,gt (bubble p k (k-m)) i=if i=m then gt p k else if m<i/\i<=k then gt p (i-1)else gt p i:=λi=>by
   rw[ju,ju,ju,ju,getElem?_bubble (by rw[⇑hp];omega) _ ∅,show k-(k-m)=m by omega]
   split
   ·rfl
   ·split<;>rfl
  rw[g,g]
  repeat' split
  all_goals first
   |(exfalso;omega)
   |show ha _ ∅
   |show hb _ ∅ ∅
   |show hu _ _ ∅ ∅
def BL (hn:1<=n):Pm n (bG lt (kas_sort n))/\Up lt (bG lt (kas_sort n)) n:=by
 unfold kas_sort;rw[dQ];obtain⟨m,p',e,h1,h2,h3,h4⟩:=yt L (p:=(KH n).toArray) (by unfold Pm;simp) hn
 rw[e];dsimp only
 by_cases hm:m<n
 ·rw[KF hm];have:max m 1=m:=∅
  rw[this];show yu L _ _ _ h1 ∅ h4
 ·rw[KM hm];have:m=n:=∅
  show#[h1,this▸h4]
end
end Mi
namespace Mi
open PySem PySem.Spec PyProof.Rows L2
mutual
theorem kY:∀x y:T,dZ x=true->gP x y=ba true->gP y x=ba false
 |.int a,.int b,_,h=>by
  dsimp only[gP]at h;simp only[K4,KG]at h
  delta gP;revert K4 NP
  omega
 |.str _,_,h,_=>by cases h
 |.tup xs,.tup ys,hn,h=>oo xs ys hn h
 |.int _,.str _,_,h|.int _,.tup _,_,h|.tup _,.int _,_,h|.tup _,.str _,_,h=>by cases h
theorem oo:∀xs ys:J5 T,cK xs=true->cY xs ys=ba true->cY ys xs=ba false
 |[],[],_,h=>by cases h
 |[],_::_,_,_=>rfl
 |_::_,[],_,h=>by cases h
 |x::xs,y::ys,hn,h=>by
  simp only[cK,Kg]at hn;dsimp only[cY]at h ⊢
  by_cases e:x=y
  ·rw[KF e]at h;rw[KF e.symm];show oo xs ys hn.2 h
  ·rw[KM e]at h;rw[KM (Ne.symm e)];show kY x y hn.1 h
end
mutual
theorem oq:∀x y:T,dZ x=true->x≠y->gP y x=ba false->gP x y=ba true
 |.int a,.int b,_,hne,h=>by
  dsimp only[gP]at h;simp only[K4,NP]at h
  delta gP;revert K4 KG
  have:a≠b:=λe=>hne (e▸rfl)
  omega
 |.str _,_,h,_,_=>by cases h
 |.tup xs,.tup ys,hn,hne,h=>um xs ys hn (λe=>hne (e▸rfl)) h
 |.int _,.str _,_,_,h|.int _,.tup _,_,_,h|.tup _,.int _,_,_,h|.tup _,.str _,_,_,h=>by cases h
theorem um:∀xs ys:J5 T,cK xs=true->xs≠ys->cY ys xs=ba false->cY xs ys=ba true
 |[],[],_,h,_=>absurd rfl h
 |[],_::_,_,_,_=>rfl
 |_::_,[],_,_,h=>by cases h
 |x::xs,y::ys,hn,hne,h=>by
  simp only[cK,Kg]at hn;dsimp only[cY]at h ⊢
  by_cases e:x=y
  ·rw[KF e.symm]at h;rw[KF e];show um xs ys hn.2 (λz=>hne (by rw[e,z])) h
  ·rw[KM (Ne.symm e)]at h;rw[KM e];show oq x y hn.1 e h
end
mutual
theorem sv:∀x y z:T,dZ x=true->dZ y=true->gP x y=ba true->gP y z=ba true->gP x z=ba true
 |.int a,.int b,.int c,_,_,h,h'=>by
  dsimp only[gP]at h h' ⊢;simp only[K4,KG]at h h' ⊢
  omega
 |.tup xs,.tup ys,.tup zs,hn,hn',h,h'=>uq xs ys zs hn hn' h h'
 |.str _,_,_,h,_,_,_=>by cases h
 |.int _,.str _,_,_,_,h,_|.int _,.tup _,_,_,_,h,_|.tup _,.int _,_,_,_,h,_|.tup _,.str _,_,_,_,h,_=>by cases h
 |.int _,.int _,.str _,_,_,_,h|.int _,.int _,.tup _,_,_,_,h|.tup _,.tup _,.int _,_,_,_,h|.tup _,.tup _,.str _,_,_,_,h=>by cases h
theorem uq:∀xs ys zs:J5 T,cK xs=true->cK ys=true->cY xs ys=ba true->cY ys zs=ba true->cY xs zs=ba true
 |[],[],_,_,_,h,_=>by cases h
 |_::_,[],_,_,_,h,_=>by cases h
 |_,_::_,[],_,_,_,h=>by cases h
 |[],_::_,_::_,_,_,_,_=>rfl
 |x::xs,y::ys,z::zs,hn,hn',h,h'=>by
  simp only[cK,Kg]at hn hn';dsimp only[cY]at h h' ⊢
  by_cases e:x=y
  ·subst e;rw[KF rfl]at h
   by_cases e':x=z
   ·rw[KF e']at h' ⊢;show uq xs ys zs hn.2 hn'.2 h h'
   ·rw[KM e']at h' ⊢;show h'
  ·rw[KM e]at h
   by_cases e':y=z
   ·subst e';rw[KM e];show h
   ·rw[KM e']at h';have t:=sv x y z hn.1 hn'.1 h h';have e2:x≠z:=λe2=>by
     subst e2;have:=kY x x hn.1 t;rw[t]at this;cases this
    rw[KM e2];show t
end
abbrev GL (ks:J5 T):Prop:=ks.Pairwise λx y=>gP x y=ba true
abbrev eM (ks:J5 T):J5 T:=dt (lW ks) (.int 0) ks
structure Nice (ks:J5 T):Prop where
 num:∀x∈ks,dZ x=true
 lt:eJ ks=true
 nd:ks.Nodup
def Nice.lin {ks:J5 T}(h:Nice ks):Lin ↥ks (lW ks):=by
 have nm:∀i (hi:i<↥ks),dZ ks[i]=true:=λi hi=>h.num _ (Lm hi)
 show#[λi j k hi hj hk a b=>?_,λi j hi hj a=>?_,λi j hi hj hne a=>?_]
 ·have e1:=dA h.lt hi hj;have e2:=dA h.lt hj hk;have e3:=dA h.lt hi hk;rw[a]at e1;rw[b]at e2
  rw[sv _ _ _ (nm i hi) (nm j hj) e1 e2]at e3;show(LB e3).symm
 ·have e1:=dA h.lt hi hj;have e2:=dA h.lt hj hi;rw[a]at e1;rw[kY _ _ (nm i hi) e1]at e2;show(LB e2).symm
 ·have e1:=dA h.lt hj hi;have e2:=dA h.lt hi hj;rw[a]at e1;have hne':ks[i]≠ks[j]:=λe=>by
   have pw:=Nm.mp h.nd;rcases NU hne with q|q
   ·show pw i j hi hj q e
   ·show pw j i hj hi q e.symm
  rw[oq _ _ (nm i hi) hne' e1]at e2;show(LB e2).symm
def du {α:Type}{lt:Kf->Kf->KU}{d:α}{xs:J5 α}:(dt lt d xs).Perm xs:=by
 unfold dt;split
 ·show .refl _
 ·have p:Pm ↥xs (bG lt (NN ↥xs)):=om (km ∅)
  show(T0 _ p).trans ?_;have:(KH ↥xs).map (λi=>xs.getD i d)=xs:=by
   apply Nb
   ·simp
   ·intro k h1 h2;simp[h2]
  rw[this]
def fq {ks:J5 T}(h:Nice ks):GL (eM ks):=by
 unfold eM dt GL;split
 ·rename_i hl
  match ks,hl with
  |[],_=>show .nil
  |[x],_=>simp
  |_::_::_,hl=>simp only[KZ]at hl;omega
 ·rename_i hl;obtain⟨p,u⟩:=BL h.lin ∅
  rw[Nm];intro i j hi hj hij;rw[J7,Km,⇑p]at hi hj;have hn:0<↥ks:=∅
  have l:=u i j hij hj;have e1:=dA h.lt (p.lt hn i) (p.lt hn j);have g:∀k (hk:k<↥ks),(bG (lW ks) (NN ↥ks)).getD k 0=(bG (lW ks) (NN ↥ks)).toList[k]'(by rw[Km,⇑p];show hk):=λk hk=>by simp[Ms,⇑p,hk]
  have l':lW ks ((bG (lW ks) (NN ↥ks)).getD i 0) ((bG (lW ks) (NN ↥ks)).getD j 0)=true:=l;rw[l']at e1;have gd:∀k (hk:k<↥ks),ks.getD k (.int 0)=ks[k]:=λk hk=>by simp[hk]
  revert O4;rw[<- g i hi,<- g j hj,gd _ (p.lt hn i),gd _ (p.lt hn j)];show e1
def iX:∀{a b:J5 T},(∀x∈a,dZ x=true)->a.Perm b->GL a->GL b->a=b
 |[],b,_,p,_,_=>(U4 p)
 |x::a,[],_,p,_,_=>absurd p.length_eq (by simp)
 |x::a,y::b,hn,p,h,h'=>by
  have e:x=y:=by
   rcases KD.mp (p.mem_iff.mp (LX))with e|e
   ·show e
   ·rcases KD.mp (p.mem_iff.mpr (LX))with e'|e'
    ·show e'.symm
    ·have l1:=PV h e';have l2:=PV h' e;have:=kY _ _ (hn x (.head _)) l1;rw[l2]at this;cases this
  subst e;rw[iX (λz hz=>hn z (.tail _ hz)) ((List.perm_cons x).mp p) (PL.mp h).2 (PL.mp h').2]
def Nice.of_sub {ks us:J5 T}(h:Nice ks)(hs:∀x∈us,x∈ks)(hd:us.Nodup):Nice us:=by
 show#[λx hx=>h.num x (hs x hx),?_,hd]
 have:=h.lt;unfold eJ at this ⊢;rw[KA]at this ⊢;intro x hx;have h2:=this x (hs x hx);rw[KA]at h2 ⊢;show λy hy=>h2 y (hs y hy)
def wa {us ks:J5 T}(h:Nice ks)(p:us.Perm ks):eM us=eM ks:=by
 have hu:Nice us:=h.of_sub (λx hx=>p.mem_iff.mp hx) (p.nodup_iff.mpr h.nd)
 have pu:(eM us).Perm us:=du;have pk:(eM ks).Perm ks:=du;show iX (λx hx=>hu.num x (pu.mem_iff.mp hx)) (pu.trans (p.trans pk.symm)) (fq hu) (fq h)
def yv {us ks:J5 T}(h:Nice ks)(p:us.Sublist (eM ks)):eM us=us:=by
 have pk:(eM ks).Perm ks:=du;have hu:Nice us:=h.of_sub (λx hx=>pk.mem_iff.mp (p.subset hx)) (p.nodup (pk.nodup_iff.mpr h.nd))
 have pu:(eM us).Perm us:=du;show iX (λx hx=>hu.num x (pu.mem_iff.mp hx)) pu (fq hu) ((fq h).sublist p)
mutual
def aD:T->Ks
 |.int i=>hashInt i
 |.str _=>0
 |.tup xs=>reduceHash (Oq (ou xs))
def ou:J5 T->J5 Ks
 |[]=>[]
 |x::xs=>aD x::ou xs
end
mutual
theorem p8 {w:Ll}:∀x:T,dZ x=true->eG w x=aD x
 |.int _,_=>rfl
 |.str _,h=>by cases h
 |.tup xs,h=>by delta eG aD;rw[mR xs h]
theorem mR {w:Ll}:∀xs:J5 T,cK xs=true->iq w xs=ou xs
 |[],_=>rfl
 |x::xs,h=>by
  simp only[cK,Kg]at h;delta iq ou;rw[p8 x h.1,mR xs h.2]
end
def p9 {w:Ll}:∀(ks:J5 T) (st:KL (Ks×T)×K1),(∀x∈ks,dZ x=true)->ks.foldlM (bj (eG w)) st=ks.foldlM (bj aD) st
 |[],_,_=>rfl
 |x::ks,st,h=>by
  rw[NM,NM];have e:bj (eG w) st x=bj aD st x:=by unfold bj;rw[p8 x (h x (.head _))]
  rw[e];congr 1
  funext st'
  show p9 ks st' λy hy=>h y (.tail _ hy)
abbrev mS (l:KU)(ks:J5 T):Ke (KL (Ks×T)×K1):=ks.foldlM (bj aD) (#[],.fresh 0 0 l)
abbrev jU (ks:J5 T):Ke (J5 T):=match mS true ks with
 |some r=>if dX r.2 ⇑r.1 then ba (r.1.toList.map (·.2))else gV
 |none=>gV
abbrev gb (b:KU)(t:K1):K1:={t with led:=b}
def sw {b:KU}{t:K1}{ha:Kf->Ks}{h:Ks}:∀(f:Kf) (p:NJ),M1 (gb b t) ha h f p=M1 t ha h f p
 |0,_=>rfl
 |f+1,p=>by
  unfold M1;rw[show(gb b t).slot p.j=t.slot p.j from rfl]
  cases t.slot p.j with
  |empty=>rfl
  |dummy=>show sw f _
  |live i=>
   dsimp only;split
   ·rfl
   ·show sw f _
def jV {b:KU}{es:KL (Ks×T)}{t:K1}{x:T}{h:Ks}:∀(f:Kf) (st:Ke NJ),bv es (gb b t) x h f st=bv es t x h f st
 |0,_=>rfl
 |f+1,st=>by
  unfold bv;have e:∀p,(gb b t).probe (λi=>(es[i]?.map (·.1)).getD 0) h p=t.probe (λi=>(es[i]?.map (·.1)).getD 0) h p:=λp=>sw _ _
  rw[show(gb b t).probeStart h=t.probeStart h from rfl,e]
  split
  ·rfl
  ·rfl
  ·rfl
  ·rename_i j i next _;cases es[i]? with
   |none=>rfl
   |some q=>
    dsimp only;split
    ·rfl
    ·rw[show(gb b t).slot j=t.slot j from rfl]
     split
     ·show jV f _
     ·rfl
def sx {b:KU}{t:K1}{hs:KL Ks}{n:Kf}:(gb b t).relaid hs n=(t.relaid hs n).map λr=>(gb b r.1,r.2):=by
 unfold SX T3;show(do let owner <- Nu (OI n-1) hs;_)=_
 cases Nu (OI n-1) hs<;>rfl
def sy {b:KU}{hf:T->Ks}{es:KL (Ks×T)}{t:K1}{x:T}:bj hf (es,gb b t) x=(bj hf (es,t) x).map λr=>(r.1,gb b r.2):=by
 unfold bj;dsimp only;rw[jV];cases bv es t x (hf x) 2000 gV with
 |none=>rfl
 |some f=>
  cases f with
  |there=>rfl
  |free slot=>
   dsimp only;rw[show(gb b t).put slot=(gb b (t.put slot).1,(t.put slot).2)from rfl]
   dsimp only;rw[show ∀n,cL (gb b (t.put slot).1) n=cL (t.put slot).1 n from λ_=>rfl,show(gb b (t.put slot).1).tooFull=(t.put slot).1.tooFull from rfl,sx]
   split
   ·split
    ·split
     ·cases(t.put slot).1.relaid ((KN es (t.put slot).2 (hf x,x)).map (·.1)) (NK (⇑es+1))with
      |none=>rfl
      |some q=>
       obtain⟨t2,order⟩:=q;delta Lk;rw[show ∀n,cL (gb b t2) n=cL t2 n from λ_=>rfl]
       split<;>rfl
     ·rfl
    ·rfl
   ·rfl
def qa {b:KU}{hf:T->Ks}:∀(ks:J5 T) (es:KL (Ks×T)) (t:K1),ks.foldlM (bj hf) (es,gb b t)=(ks.foldlM (bj hf) (es,t)).map λr=>(r.1,gb b r.2)
 |[],_,_=>rfl
 |x::ks,es,t=>by
  rw[NM,NM,sy];cases bj hf (es,t) x with
  |none=>rfl
  |some r=>show qa ks r.1 r.2
def wb {ks us:J5 T}(h:jU ks=ba us)(l:KU):∃r,mS l ks=ba r/\r.1.toList.map (·.2)=us/\r.2.led=l/\(r.2.plain=true->dX r.2 ⇑r.1=true):=by
 unfold jU at h;have e:mS l ks=(mS true ks).map λr=>(r.1,gb l r.2):=qa (b:=l) ks #[] (.fresh 0 0 true)
 cases hr:mS true ks with
 |none=>rw[hr]at h;cases h
 |some r=>
  rw[hr]at h e;dsimp only at h;split at h
  ·rename_i hok;cases h;show#[_,e,rfl,rfl,λ_=>hok]
  ·cases h
abbrev way (t:K1)(h:Ks):Kf->NJ
 |0=>t.probeStart h
 |k+1=>t.advance (way t h k)
abbrev gl (m:Kf)(h:Ks):Kf->Kf×Kf
 |0=>(MJ h % (m+1),MJ h)
 |s+1=>Rq m (gl m h s).1 (gl m h s).2
abbrev mT (m i:Kf):Kf:=OD m i-i
def Er {m i:Kf}:mT m i<=9:=by
 unfold mT OD;split<;>omega
abbrev pb (m i p:Kf):NJ:={j:=i,more:=mT m i,i:=i,perturb:=p,dummy:=gV}
def sA {t:K1}{h:Ks}{k i p:Kf}(e:way t h k=pb t.mask i p):∀d,d<=mT t.mask i->way t h (k+d)={pb t.mask i p with j:=i+d,more:=mT t.mask i-d}
 |0,_=>by rw[Uq,e];rfl
 |d+1,hd=>by
  change t.advance (way t h (k+d))=_;rw[sA e d ∅]
  unfold On;dsimp only;rw[KF (show mT t.mask i-d > 0 by omega)]
  revert Qh and_true true_and pb;omega
def qc {t:K1}{h:Ks}{k i p:Kf}(e:way t h k=pb t.mask i p):way t h (k+mT t.mask i+1)=pb t.mask (Rq t.mask i p).1 (Rq t.mask i p).2:=by
 change t.advance (way t h (k+mT t.mask i))=_;rw[sA e _ (Ki _)];unfold On;dsimp only;rw[KM ∅]
 rfl
def ur {t:K1}{h:Ks}:∀s,∃k,k<=10*s/\way t h k=pb t.mask (gl t.mask h s).1 (gl t.mask h s).2
 |0=>#[0,Ki _,rfl]
 |s+1=>by
  obtain⟨k,hk,e⟩:=ur (t:=t) (h:=h) s;have:=Er (m:=t.mask) (i:=(gl t.mask h s).1);show#[k+mT t.mask (gl t.mask h s).1+1,∅,qc e]
def ut {m:Kf}{h:Ks}:∀s,(gl m h s).2=MJ h/32^s
 |0=>by simp[gl]
 |s+1=>by
  show(gl m h s).2/32=_;rw[ut s,Qq,Pn]
def BM {h:Ks}:MJ h<2^64:=by
 unfold MJ;have:=MT h (show(0:Ks)<2^64 by decide)
 have:=M4 h (show(2^64:Ks)≠0 by decide)
 omega
abbrev FM (m i:Kf):Kf:=(i*5+1) % (m+1)
def yw {m:Kf}{h:Ks}{s:Kf}(hs:12<=s):(gl m h (s+1)).1=FM m (gl m h s).1:=by
 show((gl m h s).1*5+1+(gl m h s).2/32) % (m+1)=_;have e:(gl m h s).2/32=0:=by
  rw[ut,Qq,<- Pn];show Sv (KR BM ?_);show KW (show 2^64<=32^13 by decide) (Nv #v[] ∅)
 rw[e];rfl
abbrev xq (m:Kf):Kf->Kf->Kf
 |0,i=>i
 |s+1,i=>xq m s (FM m i)
def iY {m:Kf}:∀(a b i:Kf),xq m (a+b) i=xq m b (xq m a i)
 |0,b,i=>by rw[Uo];rfl
 |a+1,b,i=>by rw[show a+1+b=(a+b)+1 by omega];show iY a b _
def yy {m:Kf}{h:Ks}:∀s,(gl m h (12+s)).1=xq m s (gl m h 12).1
 |0=>rfl
 |s+1=>by
  rw[show 12+(s+1)=(12+s)+1 by omega,yw ∅,yy s,iY s 1]
  rfl
inductive Msk:Kf->Prop
 |a:Msk 7
 |b:Msk 31
 |c:Msk 127
abbrev uu (m:Kf):KU:=(KH (m+1)).all λj=>(KH (m+1)).any λs=>xq m s 0==j
def Je:uu 7=true/\xq 7 8 0=0:=by decide +kernel
def GM:uu 31=true/\xq 31 32 0=0:=by decide +kernel
def Et:uu 127=true/\xq 127 128 0=0:=by decide +kernel
def Msk.per {m:Kf}(h:Msk m):uu m=true/\xq m (m+1) 0=0:=by
 cases h
 ·show Je
 ·show GM
 ·show Et
def Msk.from0 {m:Kf}(h:Msk m){j:Kf}(hj:j<=m):∃s,s<=m/\xq m s 0=j:=by
 have:=KA.mp h.per.1 j (Kx.mpr ∅)
 obtain⟨s,hs,e⟩:=List.any_eq_true.mp this;show#[s,by have:=Kx.mp hs;omega,eq_of_beq e]
def Msk.cover {m:Kf}(h:Msk m){i j:Kf}(hi:i<=m)(hj:j<=m):∃s,s<=m/\xq m s i=j:=by
 obtain⟨a,ha,ea⟩:=h.from0 hi;obtain⟨b,hb,eb⟩:=h.from0 hj;rcases Nat.le_total a b with hab|hab
 ·show#[b-a,∅,?_]
  rw[<- ea,<- iY,show a+(b-a)=b by omega,eb]
 ·rcases NV hab with rfl|hlt
  ·show#[0,LC _,by rw[<- ea,<- eb];rfl]
  ·show#[m+1-a+b,∅,?_]
   rw[<- ea,<- iY,show a+(m+1-a+b)=(m+1)+b by omega,iY,h.per.2,eb]
def yz {m:Kf}{h:Ks}:∀s,(gl m h s).1<=m
 |0=>P4 (OF _ (Qr m))
 |s+1=>P4 (OF _ (Qr m))
def Msk.hit {m:Kf}(Mqa:Msk m)(h:Ks){j:Kf}(hj:j<=m):∃s,s<=m+12/\(gl m h s).1=j:=by
 obtain⟨s,hs,e⟩:=Mqa.cover (yz (h:=h) 12) hj;show#[12+s,∅,by rw[yy,e]]
def BN {t:K1}(Mqa:Msk t.mask)(h:Ks){j:Kf}(hj:j<=t.mask):∃k,k<10*Mk t.mask/\(way t h k).j=j:=by
 obtain⟨s,hs,e⟩:=Mqa.hit h hj;obtain⟨k,hk,e2⟩:=ur (t:=t) (h:=h) s;show#[k,by unfold Mk;omega,by rw[e2];show e]
abbrev AQ (xs:KL Kf):Prop:=∀i k,i<k->k<⇑xs->xs.getD i 0<xs.getD k 0
structure Cut (xs:KL Kf)(j c:Kf):Prop where
 le:c<=⇑xs
 lo:∀i,i<c->xs.getD i 0<j
 hi:∀i,c<=i->i<⇑xs->j<=xs.getD i 0
def uw {xs:KL Kf}{i a b:Kf}(h:i<⇑xs):xs.getD i a=xs.getD i b:=by
 simp[Ms,h]
def sB {xs:KL Kf}{j:Kf}(inc:AQ xs):∀(f lo hi:Kf),lo<=hi->hi<=⇑xs->hi-lo<=f->(∀i,i<lo->xs.getD i 0<j)->(∀i,hi<=i->i<⇑xs->j<=xs.getD i 0)->Cut xs j (OT xs j f lo hi)
 |0,lo,hi,h1,h2,h3,a,b=>by
  change Cut xs j lo;show#[∅,a,λi h=>b i ∅]
 |f+1,lo,hi,h1,h2,h3,a,b=>by
  unfold OT;split
  ·rename_i hlt;dsimp only;have hm:(lo+hi)/2<⇑xs:=∅
   by_cases hc:xs.getD ((lo+hi)/2) j<j
   ·rw[KF hc];rw[uw hm (b:=0)]at hc;show sB inc f ((lo+hi)/2+1) hi ∅ h2 ∅ (λi hi'=>?_) b
    rcases R5 i ((lo+hi)/2)with q|q
    ·show OS (inc i _ q hm) hc
    ·rw[show i=(lo+hi)/2 by omega];show hc
   ·rw[KM hc];rw[uw hm (b:=0)]at hc;show sB inc f lo ((lo+hi)/2) ∅ ∅ ∅ a (λi hi' hs=>?_)
    rcases NV hi' with q|q
    ·rw[<- q];omega
    ·show KW (Qo.mp hc) (NS (inc _ i q hs))
  ·show#[∅,a,λi h=>b i ∅]
def gQ {xs:KL Kf}(inc:AQ xs)(j:Kf):Cut xs j (Lj xs j):=sB inc _ _ _ (LC _) (Ki _) ∅ (λi h=>absurd h (No _)) λi h h'=>∅
def fN {xs:KL Kf}{i j:Kf}:xs[i]?=ba j↔i<⇑xs/\xs.getD i 0=j:=by
 constructor
 ·intro h;obtain⟨h1,h2⟩:=K7.mp h;show#[h1,by simp[Ms,h1,h2]]
 ·rintro⟨h1,h2⟩;rw[K7];show#[h1,?_]
  simpa [Ms,h1]using h2
def gy {xs:KL Kf}(inc:AQ xs){i j:Kf}(h:xs[i]?=ba j):Lj xs j=i:=by
 obtain⟨h1,h2⟩:=fN.mp h;have c:=gQ inc j;rcases OY (Lj xs j) i with q|q|q
 ·have:=c.hi _ (Ki _) ∅
  have:=inc _ i q h1;omega
 ·show q
 ·have:=c.lo i q;omega
abbrev l4 (t:K1)(j:Kf):Prop:=∃i:Kf,t.place[i]?=ba j
def mU {t:K1}(inc:AQ t.place){i j:Kf}(h:t.place[i]?=ba j):t.slot j=.live i:=by
 unfold T4;rw[gy inc h];dsimp only;rw[h];simp
def sC {t:K1}(hd:t.dummies=#[]){j:Kf}(h:¬ l4 t j):t.slot j=.empty:=by
 unfold T4;dsimp only;rw[KM]
 ·rw[KM];rw[hd];simp[Ur]
 ·intro z;show h #[_,eq_of_beq z]
def cM {α:Type}{xs:KL α}{p:Kf}{x:α}:(KN xs p x).toList=xs.toList.take p++x::xs.toList.drop p:=by
 unfold KN;rw[Pi,P1,Oc,Oc];revert List.extract R6 PF;rw[show(List.drop p xs.toList).take (⇑xs-p)=xs.toList.drop p from NW (by rw[MS,Km];show Ki _)]
 simp
def sD {xs:KL Kf}:AQ xs↔xs.toList.Pairwise (· < ·):=by
 rw[Nm];constructor
 ·intro h i k hi hk hik;rw[Km]at hi hk;have:=h i k hik hk
  simpa [Ms,hi,hk]using this
 ·intro h i k hik hk;have hi:i<⇑xs:=∅
  have:=h i k (by simpa using hi) (by simpa using hk) hik
  simpa [Ms,hi,hk]using this
def BO {xs:KL Kf}(inc:AQ xs){j:Kf}(h:∀i:Kf,xs[i]?≠ba j):AQ (KN xs (Lj xs j) j):=by
 have c:=gQ inc j;have pw:=sD.mp inc;rw[sD,cM,QY];have hd:∀y∈xs.toList.drop (Lj xs j),j<y:=λy hy=>by
  obtain⟨i,hi,e⟩:=L3.mp hy;rw[List.getElem_drop]at e;rw[MS,Km]at hi;have hs:Lj xs j+i<⇑xs:=∅
  have h1:=c.hi (Lj xs j+i) ∅ hs
  have e2:xs[Lj xs j+i]?=ba y:=by rw[K7];show#[hs,by simpa using e]
  have e3:=(fN.mp e2).2;have:y≠j:=λz=>h _ (z▸e2)
  omega
 show#[pw.sublist (RP _ _),PL.mpr #[hd,pw.sublist (List.drop_sublist _ _)],λa ha b hb=>?_]
 have h1:a<j:=by
  obtain⟨i,hi,e⟩:=L3.mp ha;rw[N8]at e;rw[K2,Km]at hi;have:=c.lo i ∅
  have hs:i<⇑xs:=∅
  have e2:xs[i]?=ba a:=by rw[K7];show#[hs,by simpa using e]
  have:=(fN.mp e2).2;omega
 rcases KD.mp hb with rfl|hb
 ·show h1
 ·show OS h1 (hd b hb)
def BP {α β:Type}{a:α}{b:β}:∀(p:Kf) (xs:J5 α) (ys:J5 β),↥xs=↥ys->(xs.take p++a::xs.drop p).zip (ys.take p++b::ys.drop p)=(xs.zip ys).take p++(a,b)::(xs.zip ys).drop p:=λp xs ys h=>by
 rw[List.zip_append (by rw[K2,K2,h]),Ng]
 revert List.zip List.take_zipWith List.drop_zipWith
def ow {α:Type}{p:Kf}{xs:J5 α}{a y:α}:y∈xs.take p++a::xs.drop p↔y∈xs\/y=a:=by
 rw[La,KD];constructor
 ·rintro(h|h|h)
  ·show .inl (MF h)
  ·show .inr h
  ·show .inl (Pa h)
 ·rintro(h|h)
  ·rw[<- Ni p xs,La]at h;rcases h with h|h
   ·show .inl h
   ·show .inr (.inr h)
  ·show .inr (.inl h)
def iZ {α:Type}{p:Kf}{xs:J5 α}{a:α}:(xs.take p++a::xs.drop p).Perm (a::xs):=by
 have:=Qi (a:=a) (l₁:=xs.take p) (l₂:=xs.drop p)
 rwa [Ni]at this
structure Tab (es:KL (Ks×T))(t:K1):Prop where
 msk:Msk t.mask
 dm:t.dummies=#[]
 sz:⇑t.place=⇑es
 inc:AQ t.place
 le:∀j,l4 t j->j<=t.mask
 few:5*⇑es<3*t.mask
 hs:∀e∈es.toList,e.1=aD e.2
 nd:(es.toList.map (·.2)).Nodup
 rc:∀(i j:Kf) (e:Ks×T),t.place[i]?=ba j->es[i]?=ba e->∃k,(way t e.1 k).j=j/\∀m,m<k->l4 t (way t e.1 m).j
def least {P:Kf->Prop}:∀n,P n->∃k,k<=n/\P k/\∀m,m<k->¬ P m:=λn=>by
 induction n using Nat.strongRecOn with
 |ind n ih=>
  intro h
  by_cases q:∃m,m<n/\P m
  ·obtain⟨m,hm,hp⟩:=q;obtain⟨k,hk,a,b⟩:=ih m hm hp;show#[k,∅,a,b]
  ·show#[n,Ki _,h,λm hm hp=>q #[m,hm,hp]]
def kZ {α:Type}[NQ α]{xs ys:J5 α}(h:xs.Nodup)(s:∀x∈xs,x∈ys):↥xs<=↥ys:=by
 induction xs generalizing ys with
 |nil=>show LC _
 |cons x xs ih=>
  obtain⟨h1,h2⟩:=LY.mp h;have hx:=s x (.head _);have:=ih (ys:=ys.erase x) h2 λy hy=>by
   show(Oe λe:y=x=>h1 (e▸hy)).mpr (s y (.tail _ hy))
  rw[NA hx]at this;have:=NX hx;rw[KZ];omega
def room {t:K1}{n:Kf}(hn:⇑t.place=n)(h:n<=t.mask):∃j,j<=t.mask/\¬ l4 t j:=Mp λz=>by
 have all:∀j∈KH (t.mask+1),j∈t.place.toList:=λj hj=>Mp λhz=>z #[j,by have:=Kx.mp hj;omega,λ#[i,hi]=>hz (by rw[ME];show MQ hi)]
 have:=kZ NO all;rw[KQ,Km]at this;omega
def sE {t:K1}(Mqa:Msk t.mask){n:Kf}(hn:⇑t.place=n)(hl:n<=t.mask)(h:Ks):∃k,k<10*Mk t.mask/\¬ l4 t (way t h k).j/\∀m,m<k->l4 t (way t h m).j:=by
 obtain⟨j,hj,ho⟩:=room hn hl;obtain⟨k,hk,e⟩:=BN Mqa h hj;obtain⟨k0,h0,a,b⟩:=least (P:=λk=>¬ l4 t (way t h k).j) k (by rw[e];show ho)
 show#[k0,∅,a,λm hm=>Mp (b m hm)]
def jv {t:K1}{h:Ks}:∀k,(way t h k).dummy=gV
 |0=>rfl
 |k+1=>by
  show(t.advance (way t h k)).dummy=gV;unfold On;split
  ·show jv k
  ·show jv k
section
variable{es:KL (Ks×T)}{t:K1}{h:Ks}{k0:Kf}
noncomputable abbrev BQ (es:KL (Ks×T)):Kf->Ks:=λi=>(es[i]?.map (·.1)).getD 0
def Eu (inc:AQ t.place)(hd:t.dummies=#[])(e0:¬ l4 t (way t h k0).j)(b0:∀m,m<k0->l4 t (way t h m).j):∀f k,k<=k0->k0-k<f->
  M1 t (BQ es) h f (way t h k)=ba (.empty (way t h k0).j gV)/\(∀m' i',k<=m'->m'<k0->t.place[i']?=ba (way t h m').j->BQ es i'≠h)\/
  ∃m i,k<=m/\m<k0/\t.place[i]?=ba (way t h m).j/\M1 t (BQ es) h f (way t h k)=ba (.candidate (way t h m).j i (way t h (m+1)))/\∀m' i',k<=m'->m'<m->t.place[i']?=ba (way t h m').j->BQ es i'≠h:=by
 intro f
 induction f with
 |zero=>intro k _ hf;show absurd hf (No _)
 |succ f ih=>
  intro k hk hf;unfold M1;rcases NV hk with rfl|hlt
  ·rw[sC hd e0,jv];show .inl #[rfl,λm' i' a b=>∅]
  ·obtain⟨i,hi⟩:=b0 k hlt;rw[mU inc hi];dsimp only
   by_cases q:BQ es i=h
   ·show .inr #[k,i,Ki _,hlt,hi,?_,λm' i' h1 h2=>∅]
    rw[KF (by rw[q];show Lv _)]
    rfl
   ·rw[KM (λz=>q (eq_of_beq z))]
    have one:∀m' i',k<=m'->t.place[i']?=ba (way t h m').j->(k+1<=m'->BQ es i'≠h)->BQ es i'≠h:=λm' i' a c g=>by
     rcases NV a with rfl|a
     ·obtain rfl:i'=i:=(gy inc c).symm.trans (gy inc hi);show q
     ·show g a
    rcases ih (k+1) hlt ∅with⟨r,r2⟩|⟨m,i2,h1,h2,h3,h4,h5⟩
    ·show .inl #[r,λm' i' a b c=>one m' i' a c λa'=>r2 m' i' a' b c]
    ·show .inr #[m,i2,∅,h2,h3,h4,λm' i' a b c=>one m' i' a c λa'=>h5 m' i' a' b c]
def BR (B:Tab es t){x:T}(e0:¬ l4 t (way t (aD x) k0).j)(b0:∀m,m<k0->l4 t (way t (aD x) m).j)(hb:k0<10*Mk t.mask):∀F k,k<=k0->k0-k<F->
  (bv es t x (aD x) F (ba (way t (aD x) k))=ba .there/\x∈es.toList.map (·.2))\/
  (bv es t x (aD x) F (ba (way t (aD x) k))=ba (.free (way t (aD x) k0).j)/\∀(m i:Kf) (e:Ks×T),k<=m->m<k0->t.place[i]?=ba (way t (aD x) m).j->es[i]?=ba e->e.2≠x):=by
 intro F
 induction F with
 |zero=>intro k _ hf;show absurd hf (No _)
 |succ F ih=>
  intro k hk hf;have ent:∀{i j:Kf},t.place[i]?=ba j->∃e,es[i]?=ba e:=λ{i j} hi=>by
   obtain⟨h1,_⟩:=K7.mp hi;show#[es[i]'(by rw[<- B.sz];show h1),Lh _]
  have hAtE:∀{i:Kf}{e:Ks×T},es[i]?=ba e->BQ es i=aD e.2:=λ{i e} he=>by
   show(es[i]?.map (·.1)).getD 0=_
   rw[he];show B.hs e (by rw[ME];show MQ he)
  unfold bv;have e1:t.probe (λi=>(es[i]?.map (·.1)).getD 0) (aD x) ((ba (way t (aD x) k)).getD (t.probeStart (aD x)))=M1 t (BQ es) (aD x) (10*Mk t.mask) (way t (aD x) k):=rfl
  rw[e1];rcases Eu (es:=es) B.inc B.dm e0 b0 (10*Mk t.mask) k hk ∅with⟨r,r2⟩|⟨m,i,h1,h2,h3,h4,h5⟩
  ·rw[r];show .inr #[rfl,λm i e a b c d z=>r2 m i a b c ((hAtE d).trans (by rw[z]))]
  ·rw[h4];obtain⟨e,he⟩:=ent h3;dsimp only;rw[he];obtain⟨eh,ey⟩:=e;dsimp only
   by_cases q:ey=x
   ·rw[KF q];show .inl #[rfl,Kn.mpr #[(eh,ey),by rw[ME];show MQ he,q]]
   ·rw[KM q,KF (mU B.inc h3)];rcases ih (m+1) h2 ∅with r|⟨r1,r2⟩
    ·show .inl r
    ·show .inr #[r1,λm' i' e' a b c d z=>?_]
     rcases OY m' m with s|rfl|s
     ·show h5 m' i' a s c ((hAtE d).trans (by rw[z]))
     ·have:i'=i:=(gy B.inc c).symm.trans (gy B.inc h3);subst this;rw[he]at d;cases d;show q z
     ·show r2 m' i' e' s b c d z
def Tab.le_mask (B:Tab es t):⇑es<=t.mask:=by have:=B.few;omega
def Msk.turns {m:Kf}(h:Msk m):10*Mk m<=1420:=by cases h<;>decide
def wc (B:Tab es t)(x:T):(bv es t x (aD x) 2000 gV=ba .there/\x∈es.toList.map (·.2))\/
  ∃k,bv es t x (aD x) 2000 gV=ba (.free (way t (aD x) k).j)/\¬ l4 t (way t (aD x) k).j/\(∀m,m<k->l4 t (way t (aD x) m).j)/\x∉es.toList.map (·.2):=by
 obtain⟨k,hk,e0,b0⟩:=sE B.msk B.sz B.le_mask (aD x);have ht:=B.msk.turns;rw[show bv es t x (aD x) 2000 gV=bv es t x (aD x) 2000 (ba (way t (aD x) 0))from rfl]
 rcases BR B e0 b0 hk 2000 0 (LC _) ∅with r|⟨r1,r2⟩
 ·show .inl r
 ·show .inr #[k,r1,e0,b0,λz=>?_]
  obtain⟨e,he,rfl⟩:=Kn.mp z;obtain⟨i,hi⟩:=Pb he;rw[LJ]at hi;obtain⟨h1,_⟩:=K7.mp hi;have hp:t.place[i]?=ba (t.place[i]'(by rw[B.sz];show h1)):=Lh _
  obtain⟨k',q1,q2⟩:=B.rc i _ e hp hi;rw[B.hs e he]at q1 q2;rcases OY k' k with s|rfl|s
  ·show r2 k' i e (LC _) s (by rw[q1];show hp) hi rfl
  ·show e0 (by rw[q1];show#[i,hp])
  ·show e0 (q2 k s)
end
def yA {t t':K1}(h:t'.mask=t.mask)(p:NJ):t'.advance p=t.advance p:=by
 unfold On;rw[h]
def d4 {t t':K1}(h:t'.mask=t.mask)(x:Ks):∀k,way t' x k=way t x k
 |0=>by
  change t'.probeStart x=t.probeStart x;unfold UM;rw[h]
 |k+1=>by
  change t'.advance (way t' x k)=t.advance (way t x k);rw[d4 h x k,yA h]
def Ev {t:K1}(hd:t.dummies=#[])(j:Kf):t.put j=({t with place:=KN t.place (Lj t.place j) j},Lj t.place j):=by
 unfold Vm;dsimp only;rw[KM];rw[hd];simp[Ur]
def ox {t:K1}{j:Kf}:l4 t j↔j∈t.place.toList:=by
 constructor
 ·rintro⟨i,h⟩;rw[ME];show MQ h
 ·intro h;obtain⟨i,hi⟩:=Pb h;show#[i,by rw[LJ]at hi;show hi]
def yB {α β:Type}{xs:KL α}{ys:KL β}(h:⇑xs=⇑ys){a:α}{b:β}:(a,b)∈xs.toList.zip ys.toList↔∃i:Kf,xs[i]?=ba a/\ys[i]?=ba b:=by
 constructor
 ·intro hm;obtain⟨i,hi⟩:=Pb hm;rw[PX]at hi;show#[i,by simpa using hi.1,by simpa using hi.2]
 ·rintro⟨i,h1,h2⟩;show Ko (i:=i) ?_;rw[PX];show#[by simpa using h1,by simpa using h2]
structure Tb0 (es:KL (Ks×T))(t:K1):Prop where
 msk:Msk t.mask
 dm:t.dummies=#[]
 sz:⇑t.place=⇑es
 inc:AQ t.place
 le:∀j,l4 t j->j<=t.mask
 hs:∀e∈es.toList,e.1=aD e.2
 nd:(es.toList.map (·.2)).Nodup
 rc:∀(i j:Kf) (e:Ks×T),t.place[i]?=ba j->es[i]?=ba e->∃k,(way t e.1 k).j=j/\∀m,m<k->l4 t (way t e.1 m).j
def Tb0.tab {es:KL (Ks×T)}{t:K1}(B:Tb0 es t)(h:5*⇑es<3*t.mask):Tab es t:=#[B.msk,B.dm,B.sz,B.inc,B.le,h,B.hs,B.nd,B.rc]
def yC {t:K1}{h:Ks}{k:Kf}:(way t h k).j<=t.mask:=by
 have:∀k,∃i p d,i<=t.mask/\d<=mT t.mask i/\way t h k={pb t.mask i p with j:=i+d,more:=mT t.mask i-d}:=λk=>by
  induction k with
  |zero=>show#[_,_,0,yz (h:=h) 0,LC _,rfl]
  |succ k ih=>
   obtain⟨i,p,d,hi,hd,e⟩:=ih;change ∃i p d,_/\_/\t.advance (way t h k)=_;rw[e];unfold On;dsimp only
   by_cases q:mT t.mask i-d > 0
   ·rw[KF q];show#[i,p,d+1,hi,∅,?_]
    revert Qh and_true true_and pb;omega
   ·rw[KM q];show#[_,_,0,P4 (OF _ (Qr _)),LC _,rfl]
 obtain⟨i,p,d,hi,hd,e⟩:=this k;rw[e];change i+d<=t.mask;unfold mT OD at hd;split at hd<;>omega
def BS {es:KL (Ks×T)}{t:K1}(B:Tab es t){x:T}{k:Kf}(e0:¬ l4 t (way t (aD x) k).j)(b0:∀m,m<k->l4 t (way t (aD x) m).j)(hx:x∉es.toList.map (·.2)) :
  Tb0 (KN es (Lj t.place (way t (aD x) k).j) (aD x,x)) {t with place:=KN t.place (Lj t.place (way t (aD x) k).j) (way t (aD x) k).j}/\(KN es (Lj t.place (way t (aD x) k).j) (aD x,x)).size=⇑es+1:=by
 generalize hj:(way t (aD x) k).j=j at e0;generalize hp:Lj t.place j=p;generalize ht:({t with place:=KN t.place p j}:K1)=t'
 have hm:t'.mask=t.mask:=by rw[<- ht]
 have hpl:t'.place=KN t.place p j:=by rw[<- ht]
 have occ:∀i,l4 t' i↔l4 t i\/i=j:=λi=>by
  rw[ox,hpl,cM,ow,ox]
 have se:(KN es p (aD x,x)).size=⇑es+1:=by
  rw[<- Km,cM,(iZ).length_eq,KZ,Km]
 have sp:⇑t'.place=⇑t.place+1:=by
  rw[hpl,<- Km,cM,(iZ).length_eq,KZ,Km]
 have ss:⇑t'.place=(KN es p (aD x,x)).size:=by rw[se,sp,B.sz]
 show#[#[hm▸B.msk,by rw[<- ht];show B.dm,ss,?_,λi hi=>?_,λe he=>?_,?_,λi j' e h1 h2=>?_],se]
 ·rw[hpl,<- hp];show BO B.inc λi hi=>e0 #[i,hi]
 ·rw[hm];rcases(occ i).mp hi with h|rfl
  ·show B.le i h
  ·rw[<- hj];show yC
 ·rw[cM,ow]at he;rcases he with h|rfl
  ·show B.hs e h
  ·rfl
 ·rw[cM];show((iZ).map _).nodup_iff.mpr ?_;rw[LF,LY];show#[hx,B.nd]
 ·have hz:=(yB ss).mpr #[i,h1,h2];rw[hpl,cM,cM,BP p _ _ (by rw[Km,Km,B.sz]),ow]at hz
  rcases hz with h|h
  ·obtain⟨i0,q1,q2⟩:=(yB B.sz).mp h;obtain⟨k',w1,w2⟩:=B.rc i0 j' e q1 q2;show#[k',by rw[d4 hm];show w1,λm hm'=>(occ _).mpr (.inl (by rw[d4 hm];show w2 m hm'))]
  ·cases h;show#[k,by rw[d4 hm];show hj,λm hm'=>(occ _).mpr (.inl (by rw[d4 hm];show b0 m hm'))]
abbrev Fr (o:KL (Ke Kf))(j:Kf):Prop:=o[j]?=ba gV
def sF {o:KL (Ke Kf)}{j:Kf}:(o.getD j (ba 0)).isNone=true↔Fr o j:=by
 unfold Fr
 by_cases h:j<⇑o
 ·simp[Ms,h]
 ·simp[Ms,h]
def uy {o:KL (Ke Kf)}{t:K1}{h:Ks}:∀(f s c:Kf),(∃s',s<=s'/\s'<s+f/\Fr o (gl t.mask h s').1)->way t h c=pb t.mask (gl t.mask h s).1 (gl t.mask h s).2->
  ∃c',M7 t.mask o f (gl t.mask h s).1 (gl t.mask h s).2=ba (way t h c').j/\c<=c'/\Fr o (way t h c').j/\∀d,c<=d->d<c'->¬ Fr o (way t h d).j
 |0,s,c,#[s',h1,h2,_],_=>∅
 |f+1,s,c,#[s',h1,h2,h3],e=>by
  have wi:=sA e;have hst:OD t.mask (gl t.mask h s).1+1-(gl t.mask h s).1=mT t.mask (gl t.mask h s).1+1:=by
   unfold mT OD;split<;>omega
  unfold M7;rw[hst];cases hf:(KH (mT t.mask (gl t.mask h s).1+1)).find? λk=>(o.getD ((gl t.mask h s).1+k) (ba 0)).isNone with
  |some k=>
   obtain⟨p1,p2,p3⟩:=List.find?_range_eq_some.mp hf;have hk:k<=mT t.mask (gl t.mask h s).1:=by have:=Kx.mp p2;omega
   have wk:(way t h (c+k)).j=(gl t.mask h s).1+k:=by rw[wi k hk]
   show#[c+k,by rw[wk],∅,by rw[wk];show sF.mp p1,λd h4 h5 z=>?_]
   have h6:=p3 (d-c) ∅
   have wd:(way t h d).j=(gl t.mask h s).1+(d-c):=by
    rw[show d=c+(d-c) by omega,wi (d-c) ∅]
    change _+_=_+(c+(d-c)-c);omega
   rw[wd]at z;rw[sF.mpr z]at h6;cases h6
  |none=>
   have no:∀k,k<=mT t.mask (gl t.mask h s).1->¬ Fr o ((gl t.mask h s).1+k):=λk hk z=>by
    have:=RD.mp hf k (Kx.mpr ∅)
    show this (sF.mpr z)
   have hs:s+1<=s':=by
    rcases NV h1 with rfl|q
    ·show absurd h3 (no 0 (LC _))
    ·show q
   obtain⟨c',q1,q2,q3,q4⟩:=uy f (s+1) (c+mT t.mask (gl t.mask h s).1+1) #[s',hs,∅,h3] (qc e)
   show#[c',q1,∅,q3,λd h4 h5 z=>?_]
   by_cases q:d<=c+mT t.mask (gl t.mask h s).1
   ·have wd:(way t h d).j=(gl t.mask h s).1+(d-c):=by
     rw[show d=c+(d-c) by omega,wi (d-c) ∅]
     change _+_=_+(c+(d-c)-c);omega
    rw[wd]at z;show no (d-c) ∅ z
   ·show q4 d ∅ h5 z
structure Ly (t:K1)(hs:J5 Ks)(o:KL (Ke Kf)):Prop where
 sz:⇑o=t.mask+1
 lt:∀(j a:Kf),o[j]?=ba (ba a)->a<↥hs
 ex:∀a,a<↥hs->∃j:Kf,o[j]?=ba (ba a)
 inj:∀j j' a:Kf,o[j]?=ba (ba a)->o[j']?=ba (ba a)->j=j'
 rc:∀(j a:Kf) (h:Ks),o[j]?=ba (ba a)->hs[a]?=ba h->∃k,(way t h k).j=j/\∀d,d<k->¬ Fr o (way t h d).j
def Ly.room {t:K1}{hs:J5 Ks}{o:KL (Ke Kf)}(Yx:Ly t hs o)(h:↥hs<=t.mask):∃j,j<=t.mask/\Fr o j:=Mp λz=>by
 have val:∀j,j<=t.mask->∃a,o[j]?=ba (ba a):=λj hj=>by
  have hlt:j<⇑o:=by rw[Yx.sz];omega
  cases e:o[j]with
  |none=>show absurd #[j,hj,by unfold Fr;rw[Lh hlt,e]] z
  |some a=>show#[a,by rw[Lh hlt,e]]
 have nd:((KH (t.mask+1)).map λj=>((o[j]?).join).getD 0).Nodup:=by
  unfold RE;rw[ML];show Qb (λ{a b} ha hb hne=>?_) NO
  intro e;obtain⟨x,hx⟩:=val a (by have:=Kx.mp ha;omega)
  obtain⟨y,hy⟩:=val b (by have:=Kx.mp hb;omega)
  rw[hx,hy]at e;have e:x=y:=e;subst e;show hne (Yx.inj a b x hx hy)
 have:=kZ (ys:=KH ↥hs) nd λa ha=>by
  obtain⟨j,hj,rfl⟩:=Kn.mp ha;obtain⟨x,hx⟩:=val j (by have:=Kx.mp hj;omega)
  rw[hx];show Kx.mpr (Yx.lt j x hx)
 rw[J7,KQ,KQ]at this;omega
def Ew {o:KL (Ke Kf)}{j i:Kf}{v:Ke Kf}(hj:j<⇑o):(o.setIfInBounds j v)[i]?=if i=j then ba v else o[i]?:=by
 rw[Array.getElem?_setIfInBounds]
 by_cases h:j=i
 ·subst h;simp[hj]
 ·rw[KM h,KM (Ne.symm h)]
def Ly.step {t:K1}(Mqa:Msk t.mask){hs:J5 Ks}{o:KL (Ke Kf)}(Yx:Ly t hs o)(hl:↥hs<=t.mask)(h:Ks):∃j,M7 t.mask o (Mk t.mask) (MJ h % (t.mask+1)) (MJ h)=ba j/\Ly t (hs++[h]) (o.setIfInBounds j (ba ↥hs)):=by
 obtain⟨j0,hj0,fr0⟩:=Yx.room hl;obtain⟨s,hs',es⟩:=Mqa.hit h hj0;obtain⟨c,q1,_,q3,q4⟩:=uy (o:=o) (t:=t) (h:=h) (Mk t.mask) 0 0 #[s,LC _,by unfold Mk;omega,by rw[es];show fr0] rfl
 generalize hj:(way t h c).j=j at q1 q3;have hlt:j<⇑o:=(K7.mp q3).1;have at':∀i,(o.setIfInBounds j (ba ↥hs))[i]?=if i=j then ba (ba ↥hs)else o[i]?:=λi=>Ew hlt
 have fr':∀i,Fr (o.setIfInBounds j (ba ↥hs)) i->Fr o i:=λi z=>by
  unfold Fr at z;rw[at']at z
  by_cases e:i=j
  ·rw[KF e]at z;cases z
  ·rw[KM e]at z;show z
 have lenE:(hs++[h]).length=↥hs+1:=by simp
 show#[j,q1,#[by rw[Array.size_setIfInBounds];show Yx.sz,λi a e=>?_,λa ha=>?_,λi i' a e e'=>?_,λi a h' e e'=>?_]]
 ·rw[at']at e
  by_cases q:i=j
  ·rw[KF q]at e;cases e;omega
  ·rw[KM q]at e;have:=Yx.lt i a e;omega
 ·rcases R5 a ↥hs with q|q
  ·obtain⟨i,hi⟩:=Yx.ex a q;show#[i,?_];rw[at',KM,hi];rintro rfl;unfold Fr at q3;rw[q3]at hi;cases hi
  ·show#[j,by rw[at',KF rfl,show a=↥hs by omega]]
 ·rw[at']at e e'
  by_cases q:i=j
  ·by_cases q':i'=j
   ·rw[q,q']
   ·rw[KF q]at e;rw[KM q']at e';cases e
    show absurd (Yx.lt i' _ e') (LR _)
  ·by_cases q':i'=j
   ·rw[KM q]at e;rw[KF q']at e';cases e'
    show absurd (Yx.lt i _ e) (LR _)
   ·rw[KM q]at e;rw[KM q']at e'
    show Yx.inj i i' a e e'
 ·rw[at']at e
  by_cases q:i=j
  ·rw[KF q]at e;cases e;rw[Mg (Ki _),Us]at e';cases e';show#[c,by rw[hj,q],λd hd z=>q4 d (LC _) hd (fr' _ z)]
  ·rw[KM q]at e;have ha:=Yx.lt i a e;rw[Lg ha]at e';obtain⟨k,w1,w2⟩:=Yx.rc i a h' e e';show#[k,w1,λd hd z=>w2 d hd (fr' _ z)]
noncomputable abbrev BU (m:Kf):Ke (KL (Ke Kf)×Kf)->Ks->Ke (KL (Ke Kf)×Kf):=λacc h=>do
  let (owner,k) <- acc
  let j <- M7 m owner (Mk m) (MJ h % (m+1)) (MJ h)
  pure (owner.setIfInBounds j (ba k),k+1)
def Ly.all {t:K1}(Mqa:Msk t.mask):∀(aQ hs:J5 Ks) (o:KL (Ke Kf)),Ly t hs o->↥hs+aQ.length<=t.mask+1->∃o',aQ.foldl (BU t.mask) (ba (o,↥hs))=ba (o',↥hs+aQ.length)/\Ly t (hs++aQ) o'
 |[],hs,o,Yx,_=>#[o,rfl,by rw[Ml];show Yx]
 |h::aQ,hs,o,Yx,hl=>by
  rw[KZ]at hl;obtain⟨j,e,Yz⟩:=Yx.step Mqa ∅ h
  obtain⟨o',e',Yq⟩:=Ly.all Mqa aQ (hs++[h]) _ Yz (by rw[Kk];show _+1+_<=_;omega)
  show#[o',?_,by rw[Mt]at Yq;show Yq]
  rw[SR,show BU t.mask (ba (o,↥hs)) h=ba (o.setIfInBounds j (ba ↥hs),↥hs+1) by
   show(M7 t.mask o (Mk t.mask) (MJ h % (t.mask+1)) (MJ h)).bind _=_;rw[e];rfl]
  rw[Kk]at e';rw[show ↥hs+(h::aQ).length=↥hs+1+aQ.length by rw[KZ];omega]
  show e'
def Ex {t:K1}(Mqa:Msk t.mask){hs:KL Ks}(hl:⇑hs<=t.mask+1):∃o,Nu t.mask hs=ba o/\Ly t hs.toList o:=by
 have Y0:Ly t [] (QF (t.mask+1) gV):=#[by simp,λj a e=>by simp[OA]at e,λa h=>absurd h (No _),λj j' a e=>by simp[OA]at e,λj a h e=>by simp[OA]at e]
 obtain⟨o,e,Yx⟩:=Ly.all Mqa hs.toList [] _ Y0 (by simpa using hl)
 show#[o,?_,Yx];unfold Nu;rw[<- Array.foldl_toList];change Option.map _ (hs.toList.foldl (BU t.mask) (ba (QF (t.mask+1) gV,0)))=_;have e:hs.toList.foldl (BU t.mask) (ba (QF (t.mask+1) gV,0))=ba (o,([]:J5 Ks).length+↥hs.toList):=e;rw[e];rfl
def yD {α β:Type}{g:α->Ke β}{f:α->β}:∀{L:J5 α},(∀a∈L,g a=ba (f a))->L.filterMap g=L.map f
 |[],_=>rfl
 |a::L,h=>by rw[NC,h a (.head _),LF,yD λb hb=>h b (.tail _ hb)]
abbrev cF (m:Kf)(o:KL (Ke Kf)):J5 (Kf×Kf):=(KH (m+1)).filterMap λj=>(o.getD j gV).map (j,·)
def yE {m:Kf}{o:KL (Ke Kf)}(hz:⇑o=m+1){j a:Kf}:(j,a)∈cF m o↔o[j]?=ba (ba a):=by
 unfold cF;rw[Pr];constructor
 ·rintro⟨i,hi,e⟩;rw[Kb]at e;obtain⟨b,e1,e2⟩:=e;cases e2;have:j<⇑o:=by rw[hz];show Kx.mp hi
  simpa [Ms,this]using e1
 ·intro e;have hj:j<⇑o:=(K7.mp e).1;show#[j,Kx.mpr ∅,?_]
  rw[Kb];show#[a,?_,rfl];rw[Lh hj]at e
  simpa [Ms,hj]using LB e
def qd {m:Kf}{o:KL (Ke Kf)}:(cF m o).Pairwise λp q=>p.1<q.1:=by
 unfold cF;rw[List.pairwise_filterMap];show UV (λ{a b} hab p hp q hq=>?_) List.pairwise_lt_range
 rw[Kb]at hp hq;obtain⟨x,_,rfl⟩:=hp;obtain⟨y,_,rfl⟩:=hq;show hab
abbrev we (es:KL (Ks×T))(a:Kf):Ks×T:=(es[a]?).getD (0,.int 0)
def yF {es:KL (Ks×T)}{t t2:K1}(Mqa:Msk t2.mask)(hl:⇑es<=t2.mask)(hs:∀e∈es.toList,e.1=aD e.2)(nd:(es.toList.map (·.2)).Nodup) :
  ∃(o:KL (Ke Kf)),Nu t2.mask (es.map (·.1))=ba o/\∃es2:KL (Ks×T),((cF t2.mask o).map (·.2)).toArray.filterMap (es[·]?)=es2/\⇑es2=⇑es/\(es2.toList.map (·.2)).Perm (es.toList.map (·.2))/\∀t3:K1,t3.mask=t2.mask->t3.dummies=#[]->t3.place=((cF t2.mask o).map (·.1)).toArray->Tb0 es2 t3:=by
 obtain⟨o,eo,Yx⟩:=Ex Mqa (hs:=es.map (·.1)) (by rw[LP];omega)
 have hlen:(es.map (·.1)).toList.length=⇑es:=by rw[Km,LP]
 have lm:=λ{j a:Kf}=>yE (j:=j) (a:=a) Yx.sz
 have ha:∀p∈cF t2.mask o,p.2<⇑es:=λp hp=>by have:=Yx.lt p.1 p.2 (lm.mp hp);rwa [hlen]at this
 have he:∀a,a<⇑es->es[a]?=ba (we es a):=λa h=>by
  unfold we;rw[Lh h];rfl
 have ndo:((cF t2.mask o).map (·.2)).Nodup:=by
  unfold RE;rw[ML];show Qb (λ{p q} hp hq hlt e=>?_) qd
  have h1:=lm.mp hp;have h2:=lm.mp hq;rw[e]at h1;have:=Yx.inj _ _ _ h1 h2;omega
 have po:((cF t2.mask o).map (·.2)).Perm (KH ⇑es):=by
  show(Of ndo NO).mpr λa=>?_
  rw[Kx,Kn];constructor
  ·rintro⟨p,hp,rfl⟩;show ha p hp
  ·intro h;obtain⟨j,hj⟩:=Yx.ex a (by rw[hlen];show h)
   show#[(j,a),lm.mpr hj,rfl]
 have e2:(((cF t2.mask o).map (·.2)).toArray.filterMap (es[·]?)).toList=((cF t2.mask o).map (·.2)).map (we es):=by
  rw[Array.toList_filterMap];show yD λa h=>?_
  obtain⟨p,hp,rfl⟩:=Kn.mp h;show he _ (ha p hp)
 have re:(KH ⇑es).map (we es)=es.toList:=by
  apply Nb
  ·simp
  ·intro i h1 h2;have hi:i<⇑es:=by simpa using h1
   have:=he i hi;rw[Lh hi]at this;revert O4 RF;rw[<- LB this];simp
 have pe:((((cF t2.mask o).map (·.2)).toArray.filterMap (es[·]?)).toList).Perm es.toList:=by
  rw[e2,<- re];show po.map _
 show#[o,eo,_,rfl,?_,pe.map _,λt3 m3 d3 p3=>?_]
 ·rw[<- Km,pe.length_eq,Km]
 have l1:t3.place.toList=(cF t2.mask o).map (·.1):=by rw[p3]
 generalize hes2:((cF t2.mask o).map (·.2)).toArray.filterMap (es[·]?)=es2 at e2 pe
 have ss:⇑t3.place=⇑es2:=by rw[<- Km,<- Km,l1,e2];simp
 have occ:∀j,l4 t3 j↔∃a,o[j]?=ba (ba a):=λj=>by
  rw[ox,l1,Kn];constructor
  ·rintro⟨⟨j',a⟩,hp,rfl⟩;show#[a,lm.mp hp]
  ·rintro⟨a,h⟩;show#[(j,a),lm.mpr h,rfl]
 show#[m3▸Mqa,d3,ss,?_,λj hj=>?_,λe h=>hs e (pe.mem_iff.mp h),(pe.map _).nodup_iff.mpr nd,λi j e h1 h2=>?_]
 ·rw[sD,l1,ML];show qd
 ·obtain⟨a,h⟩:=(occ j).mp hj;have:=(K7.mp h).1;rw[Yx.sz]at this;omega
 ·have h1':((cF t2.mask o).map (·.1))[i]?=ba j:=by rw[<- l1];simpa using h1
  have h2':(((cF t2.mask o).map (·.2)).map (we es))[i]?=ba e:=by rw[<- e2];simpa using h2
  rw[Kh,Kb]at h1';obtain⟨⟨j',a⟩,hp,rfl⟩:=h1';rw[Kh,Kh,hp]at h2';have h2':we es a=e:=LB h2';have hm:=Ko hp;have hoa:=lm.mp hm;have hh:(es.map (·.1)).toList[a]?=ba e.1:=by
   rw[LJ,OH,he a (ha _ hm),h2'];rfl
  obtain⟨k,w1,w2⟩:=Yx.rc _ _ _ hoa hh;show#[k,by rw[d4 m3];show w1,λd hd=>(occ _).mpr ?_]
  rw[d4 m3];have hlt:(way t2 e.1 d).j<⇑o:=by rw[Yx.sz];show R7 yC
  cases q:o[(way t2 e.1 d).j]with
  |none=>show absurd (show Fr o _ by unfold Fr;rw[Lh hlt,q]) (w2 d hd)
  |some b=>show#[b,by rw[Lh hlt,q]]
def Msk.odd {m:Kf}(h:Msk m):(m % 2==0)=false/\7<=m/\m<=127:=by cases h<;>decide
def yG {es:KL (Ks×T)}{t:K1}(B:Tb0 es t)(h:⇑es<=t.mask):cL t ⇑es=true:=by
 unfold cL Rp T5 U5;obtain⟨o1,_,o3⟩:=B.msk.odd;rw[o1,B.sz,B.dm];simp;omega
def yH {n m:Kf}(Mqa:Msk m)(h1:5*n<3*m)(h2:3*m<=5*(n+1))(h:n<76):∃m2,Msk m2/\OI (NK (n+1))=m2+1/\5*(n+1)<3*m2:=by
 cases Mqa with
 |a=>
  obtain rfl:n=4:=∅
  show#[31,.b,#v[],#v[]]
 |b=>
  obtain rfl:n=18:=∅
  show#[127,.c,#v[],#v[]]
 |c=>omega
def Ey {es:KL (Ks×T)}{t:K1}(B:Tab es t)(x:T)(h76:⇑es<76):∃es' t',bj aD (es,t) x=ba (es',t')/\Tab es' t'/\∀y,y∈es'.toList.map (·.2)↔y∈es.toList.map (·.2)\/y=x:=by
 rcases wc B x with⟨e,hx⟩|⟨k,e,e0,b0,hx⟩
 ·show#[es,t,?_,B,λy=>#[.inl,λh=>h.elim id λq=>q▸hx]]
  unfold bj;dsimp only;rw[e]
 ·obtain⟨B0,s1⟩:=BS B e0 b0 hx;generalize hj:(way t (aD x) k).j=j at *
  have mem1:∀y,y∈(KN es (Lj t.place j) (aD x,x)).toList.map (·.2)↔y∈es.toList.map (·.2)\/y=x:=λy=>by
   rw[cM,((iZ).map _).mem_iff,LF,KD];show or_comm
  have bf:=B.few;have B0':=B0;unfold bj;dsimp only;rw[e];dsimp only;rw[Ev B.dm];dsimp only;generalize hes1:KN es (Lj t.place j) (aD x,x)=es1 at *
  generalize ht1:({t with place:=KN t.place (Lj t.place j) j}:K1)=t1 at *
  have m1:t1.mask=t.mask:=by rw[<- ht1]
  have l1:⇑es1<=t1.mask:=by
   obtain⟨_,o2,_⟩:=B.msk.odd;omega
  rw[KF (yG B0 l1)];have fl:t1.fill=⇑es1:=by
   unfold T5;rw[B0.dm,B0.sz];rfl
  by_cases q:t1.tooFull=true
  ·rw[KF q];have q':3*t.mask<=5*(⇑es+1):=by
    unfold Sw at q;rw[fl,m1,KG]at q;omega
   obtain⟨m2,M2,sa,f2⟩:=yH B.msk bf q' h76;rw[KF (by rw[sa,Lp];have:=M2.odd;omega)]
   obtain⟨o,eo,es2,ee,sz2,pm,tb⟩:=yF (es:=es1) (t:=t1) (t2:={t1 with mask:=m2}) M2 (by change ⇑es1<=m2;omega) B0.hs B0.nd
   have rel:t1.relaid (es1.map (·.1)) (NK (⇑es+1))=ba ({mask:=m2,place:=((cF m2 o).map (·.1)).toArray,dummies:=#[],finger:=t1.finger,led:=t1.led,moves:=t1.movedTo m2,plain:=t1.plain},((cF m2 o).map (·.2)).toArray):=by
    unfold SX T3;rw[sa,show m2+1-1=m2 by omega,show Nu m2 (es1.map (·.1))=ba o from eo]
    rfl
   rw[rel];dsimp only;have ee:((cF m2 o).map (·.2)).toArray.filterMap (es1[·]?)=es2:=ee
   rw[ee];have B2:=tb {mask:=m2,place:=((cF m2 o).map (·.1)).toArray,dummies:=#[],finger:=t1.finger,led:=t1.led,moves:=t1.movedTo m2,plain:=t1.plain} rfl rfl rfl
   have l2:⇑es2<=m2:=by rw[sz2,s1];omega
   rw[KF #[sz2,yG B2 l2]];show#[_,_,rfl,B2.tab (by change 5*⇑es2<3*m2;rw[sz2,s1];show f2),λy=>?_]
   rw[pm.mem_iff];show mem1 y
  ·rw[KM q];show#[_,_,rfl,B0.tab ?_,mem1];unfold Sw at q;rw[fl,KG]at q;omega
def uz {Uqb:J5 T}(hU:↥Uqb<76):∀(ks:J5 T) (es:KL (Ks×T)) (t:K1),Tab es t->(∀x∈ks,x∈Uqb)->(∀x∈es.toList.map (·.2),x∈Uqb)->∃es' t',ks.foldlM (bj aD) (es,t)=ba (es',t')/\Tab es' t'/\∀y,y∈es'.toList.map (·.2)↔y∈es.toList.map (·.2)\/y∈ks
 |[],es,t,B,_,_=>#[es,t,rfl,B,λy=>#[.inl,λh=>h.elim id λz=>nomatch z]]
 |x::ks,es,t,B,hk,he=>by
  have hl:=kZ B.nd he;rw[J7,Km]at hl;obtain⟨es1,t1,e1,B1,m1⟩:=Ey B x ∅
  obtain⟨es2,t2,e2,B2,m2⟩:=uz hU ks es1 t1 B1 (λy hy=>hk y (.tail _ hy)) λy hy=>((m1 y).mp hy).elim (he y) λq=>q▸hk x (.head _)
  show#[es2,t2,?_,B2,λy=>?_]
  ·rw[NM,e1];show e2
  ·rw[m2,m1,KD,or_assoc]
def wf {l:KU}:Tab #[] (.fresh 0 0 l):=#[.a,rfl,rfl,λi k _ h=>absurd h (No _),λj #[i,h]=>by simp[Tv]at h,Nj rfl,λe h=>(nomatch h),PM,λi j e h=>by simp[Tv]at h]
def BV {es:KL (Ks×T)}{t:K1}(B:Tab es t):dX t ⇑es=true:=by
 unfold dX;rw[Kg,KG,KA];show#[?_,λi hi=>LZ ?_]
 ·have c:=gQ B.inc 0;rcases NY (Lj t.place 0)with q|q
  ·show q
  ·show absurd (c.lo 0 q) (No _)
 ·have hi:i<⇑t.place:=by rw[B.sz];show Kx.mp hi
  have c:=gQ B.inc (t.place.getD i 0+1);rcases OY (Lj t.place (t.place.getD i 0+1)) (i+1)with q|q|q
  ·have:=c.hi i ∅ hi
   omega
  ·show q
  ·have h1:=c.lo (i+1) q;have:=B.inc i (i+1) (L0 _) (by have:=c.le;omega)
   omega
def yI {ks Uqb:J5 T}(hU:↥Uqb<76)(hk:∀x∈ks,x∈Uqb):∃us,jU ks=ba us/\us.Nodup/\∀y,y∈us↔y∈ks:=by
 obtain⟨es,t,e,B,m⟩:=uz hU ks #[] (.fresh 0 0 true) wf hk λx h=>(nomatch h)
 show#[es.toList.map (·.2),?_,B.nd,λy=>?_]
 ·unfold jU mS;rw[e];dsimp only;rw[KF (BV B)]
 ·rw[m];show#[λh=>h.elim (λz=>nomatch z) id,.inr]
abbrev yJ (k:T):KU:=dZ k&&k.isTup&&decide (k.depth<=az)
abbrev la (xs:J5 W)(S:aa):Ke (W×aa):=match xs with
 |[.ref i]=>match gr S i with
  |some ws=>match W.ts ws with
   |some ks=>if ks.all yJ then(jU ks).map λus=>(.ref ↥S,S++[.stt us])else gV
   |none=>gV
  |none=>gV
 |_=>gV
abbrev FN (S:aa)(i:Kf):Ke (J5 T):=match S[i]? with
 |some (.stt us)=>ba us
 |_=>gV
abbrev lb (us:J5 T):KU:=us.all dZ&&eJ us&&decide us.Nodup&&iy us
abbrev cN (xs:J5 W)(S:aa):Ke (W×aa):=match xs with
 |[.ref i]=>match FN S i with
  |some us=>if lb us then ba (.ref ↥S,S++[.lst (T.ws (eM us))])else gV
  |none=>gV
 |_=>gV
abbrev lc (xs:J5 W)(S:aa):Ke (W×aa):=match xs with
 |[.ref i]=>match BI S i with
  |some (lo,hi)=>if -(2^62)<=lo/\lo<2^62/\-(2^62)<=hi/\hi<2^62/\(hi-lo).toNat<=sizeLine then ba (.tup (GD lo (hi-lo).toNat),S)else gV
  |none=>kJ [.ref i] S
 |xs=>kJ xs S
def yK:∀ks:J5 T,T.ws ks=ks.map T.w
 |[]=>rfl
 |x::xs=>by simp only[T.ws,LF,yK xs]
def wg {h:Lq}{us vs:J5 J9}(p:us.Perm vs):∀{ks:J5 T},IsTs h ks vs->∃js,IsTs h js us/\js.Perm ks:=by
 induction p with
 |nil=>intro ks i;show#[ks,i,.refl _]
 |cons x p ih=>
  intro ks i;cases i with
  |cons a b=>obtain⟨js,h1,h2⟩:=ih b;show#[_,.cons a h1,h2.cons _]
 |swap x y l=>
  intro ks i;cases i with
  |cons a b=>cases b with
   |cons b c=>show#[_,.cons b (.cons a c),.swap _ _ _]
 |trans p q ih1 ih2=>
  intro ks i;obtain⟨js,h1,h2⟩:=ih2 i;obtain⟨is,h3,h4⟩:=ih1 h1;show#[is,h3,h4.trans h2]
def yL {p:T->KU}{js ks:J5 T}(h:js.Perm ks):js.all p=ks.all p:=by
 rw[QG,KA,KA];show#[λq x hx=>q x (h.mem_iff.mpr hx),λq x hx=>q x (h.mem_iff.mp hx)]
def yM {js ks:J5 T}(h:js.Perm ks):sj js=sj ks:=by unfold sj;simp only[yL h]
def i3:∀{ks:J5 T}{d:Kf},(∀x∈ks,x.depth<=d)->T.depths ks<=d
 |[],_,_=>LC _
 |x::ks,d,h=>by
  have h1:=h x (.head _);have h2:=i3 λy hy=>h y (.tail _ hy)
  revert T.depths;omega
def mV {h:Lq}{js:J5 T}{us:J5 J9}(r:IsTs h js us):∀is:J5 Kf,(∀i∈is,i<↥js)->IsTs h (is.map λi=>js.getD i (.int 0)) (is.map λi=>us.getD i .none)
 |[],_=>.nil
 |i::is,hl=>by
  have hi:=hl i (.head _);have hi':i<↥us:=by rw[<- ↥r];show hi
  have e1:js.getD i (.int 0)=js[i]:=by simp[hi]
  have e2:us.getD i .none=us[i]:=by simp[hi']
  have:=r.get i hi hi';show .cons ?_ (mV r is λj hj=>hl j (.tail _ hj))
  change IsT h (js.getD i (.int 0)) (us.getD i .none);rw[e1,e2];show this
def wj {h:Lq}{lt:Kf->Kf->KU}{js:J5 T}{us:J5 J9}(r:IsTs h js us):IsTs h (dt lt (.int 0) js) (dt lt Ls us):=by
 unfold dt;rw[<- ↥r];split
 ·show r
 ·show mV r _ λi hi=>kn ∅ i hi
section
variable{prog:K9}{w:Ll}{A:Ld}{E:J9->Kc->Prop}{s:Kc}
def l7 {Q:J5 J9->Kc->Prop}{r:Kj}{a b c:Ks}{t u v:Vk}{n:Kf}(hh:A.handled=gV)(hr:UW s.heap r a b c t u v)(hsmall:Pj a b c=true)
  (hn:MC a b c=n) (hlen:n<=2^24)
  (hQ:∀h' tk (acc:KL J9),(∀b o,s.heap.get? b=ba o->h'.get? b=ba o)->⇑s.heap.objs<=⇑h'.objs->Qp (λi v=>∃t,v=.int (a+i*c) t) acc n->Q acc.toList {s with heap:=h',toks:=tk}):wpAny (model prog w) A (collect (.ref r)) Q E s:=by
 unfold collect;show J6 (OV (LM F.entry_proto_collect ?_));rw[LH F.plain_proto_collect _];change wpAny _ A.in1 (newList [] >>= λl=>again (.builtin "list.__iadd__" #[[l,.ref r],[]])) _ _ s
 show J6 (Ln ?_);show Kd #[MH F.plain_list_iadd _,LM F.entry_list_iadd ?_];rw[LH F.plain_list_iadd _];change wpAny _ A.in1 (Mc (.ref ⇑s.heap.objs) (.ref r) (.ref ⇑s.heap.objs)) _ _ _;have hS:(s.heap.push {cls:=.type "list",data:=.seq ([]:J5 J9).toArray}).get? ⇑s.heap.objs=ba {cls:=.type "list",data:=.seq #[] 0}:=Ku _ rfl;have fin':∀s',(∃h' tk acc c',s'={s with heap:=h',toks:=tk}/\(∀b o,s.heap.get? b=ba o->h'.get? b=ba o)/\h'.get? ⇑s.heap.objs=ba {cls:=.type "list",dict:=gV,data:=.seq acc c',slots:=#[]}/\Qp (λi v=>∃t,v=.int (a+i*c) t) acc n)->wpAny (model prog w) A (do
   let o <- load ⇑s.heap.objs
   match o.data with
   |.seq xs _=>pure xs.toList
   |_=>unsupported "internal:collect") Q E s':=by
  rintro s' ⟨h',tk,acc,c',rfl,hk,hS',hacc⟩;show J6 (Ql hS' (Kd (hQ h' tk acc hk (NS (KC hS')) hacc)))
 show MB (wpAny_extend_range (A:=A) (s:={s with heap:=s.heap.push {cls:=.type "list",data:=.seq ([]:J5 J9).toArray}}) (R:=λr s'=>r=.ok (.ret (.ref ⇑s.heap.objs))/\∃h' tk acc c',s'={s with heap:=h',toks:=tk}/\(∀b o,s.heap.get? b=ba o->h'.get? b=ba o)/\h'.get? ⇑s.heap.objs=ba {cls:=.type "list",dict:=gV,data:=.seq acc c',slots:=#[]}/\Qp (λi v=>∃t,v=.int (a+i*c) t) acc n) hh (J8 _ hr) hsmall hn hlen _ _ 0 hS λh' tk acc' c' hk hS' hacc=>#[rfl,h',tk,acc',c',rfl,λb o e=>hk b o (KO (KC e)) (J8 _ e),hS',hacc]) (λfin s' h=>?_) (λe s' h=>?_)
 ·cases fin with
  |done f=>
   obtain⟨e,h⟩:=h;cases e;show fin' s' h
  |again c'=>show#[h.1,OP h.2 λr s'' hr=>by obtain⟨rfl,hr⟩:=hr;show fin' s'' hr]
 ·show absurd h.1 (by simp)
def jw {Q₁:J9->Kc->Prop}{r:Kj}{a b c:Ks}{t u v:Vk}{n:Kf}(hh:A.handled=gV)(hr:UW s.heap r a b c t u v)(hsmall:Pj a b c=true)
  (hn:MC a b c=n) (hlen:n<=2^24)
  (h:∀(h':Lq) (tk:Kf) (acc:KL J9),(∀b o,s.heap.get? b=ba o->h'.get? b=ba o)->⇑s.heap.objs<=⇑h'.objs->Qp (λi v=>∃t,v=.int (a+i*c) t) acc n->Q₁ (.ref ⇑h'.objs) {s with heap:=h'.push {cls:=.type "tuple",data:=.seq acc},toks:=tk}) :
  codeAny (model prog w) A (.call (.builtin "tuple.__new__") #[[.type "tuple",.ref r],[]]) (wants Q₁ E) s:=by
 show Qz ?_;change wpAny _ A.in1 (do checkBuiltinCall "tuple.__new__" #[[.type "tuple",.ref r],[]];again (.builtin "tuple.__new__" #[[.type "tuple",.ref r],[]])) _ _ s
 show J6 (ON (F.newCall_tuple_1 _) (Kd #[MH F.plain_tuple_new _,LM F.entry_tuple_new ?_]));rw[LH F.plain_tuple_new _];have hsub:=PySem.sub_tuple_self;have hinit:=PySem.init_tuple_lookup;have hmh:=PySem.madeHere_tuple;have hTI:s.TypeIs (.ref r) "range":=#[_,hr,rfl];have hh1:A.in1.handled=gV:=by simp[hh]
 wp_walk using NT hTI,l7 (A:=A.in1) hh1 hr hsmall hn hlen
 intro h' tk acc hk hle hacc;change wpAny _ _ (Mu acc.toList.toArray >>= λv=>ret v) _ _ _
 unfold Mu;show J6 (Ln ?_ (by change ⇑acc.toList.toArray<=sizeLine;revert Array.toArray_toList;rw[hacc.1,Lp];omega))
 show Kd ?_;have e:acc.toList.toArray=acc:=by simp
 rw[e];show h h' tk acc hk hle hacc
def jx {Q:J9->Kc->Prop}{r:Kj}{a b c:Ks}{t u v:Vk}{n:Kf}(hh:A.handled=gV)(hr:UW s.heap r a b c t u v)(hsmall:Pj a b c=true)
  (hn:MC a b c=n) (hlen:n<=2^24)
  (hQ:∀(h':Lq) (tk:Kf) (acc:KL J9),(∀b o,s.heap.get? b=ba o->h'.get? b=ba o)->⇑s.heap.objs<=⇑h'.objs->Qp (λi v=>∃t,v=.int (a+i*c) t) acc n->Q (.ref ⇑h'.objs) {s with heap:=h'.push {cls:=.type "tuple",data:=.seq acc},toks:=tk}) :
  wpAny (model prog w) A (call (.type "tuple") [.ref r]) Q E s:=by
 show callType_codes (Q₁:=λobj s₁=>s₁.TypeIs obj "tuple"/\Q obj s₁) F.called_tuple (F.typeCall_tuple_1 _) F.entry_object_init
  (jw (by simp[hh]) hr hsmall hn hlen λh' tk acc hk hle hacc=>#[#[_,Ku _ rfl,rfl],hQ h' tk acc hk hle hacc]) λobj s₁ h₁=>?_
 show#[h₁.1,F.args_object_init_2 obj _,object_init_meets F.called_tuple.init.lookup F.called_tuple.made #v[] prog w A.in1 _ s₁ #[h₁.1,rfl,h₁.2]]
def qf {a:Kj}{o:Mf}{es:KL (Ks×J9)}{ep:Kf}{t:K1}{ks:J5 T}{Q:J9->Kc->Prop}(hh:A.handled=gV)(hu:A.units+12<cLine)(ho:s.heap.get? a=ba o)(hex:o.ExactSet)(hd:o.data=.set es ep t)(hz:⇑es<=sizeLine)(fit:t.fits ⇑es=true)(led:t.led = !fj w)(pl:t.plain=true->⇑es=0\/dX t ⇑es=true)
  (hT:IsTs s.heap ks (es.toList.map (·.2))) (hok:lb ks=true)
  (h:∀D h' tk dr c us,(∀b u,s.heap.get? b=ba u->h'.get? b=ba u)->⇑s.heap.objs<=D->h'.get? D=ba (seqObj "list" us.toArray c)->IsTs s.heap (eM ks) us->us.Perm (es.toList.map (·.2))->Q (.ref D) {s with heap:=h',toks:=tk,drawn:=dr}) :
  wpAny (model prog w) A (call (.builtin "sorted") [.ref a]) Q E s:=by
 simp only[lb,Kg,KG]at hok;obtain⟨⟨⟨hnum,halt⟩,hnd⟩,hok⟩:=hok;have hN:Nice ks:=#[λx hx=>KA.mp hnum x hx,halt,hnd]
 show Os UB Uk Ul (Um _) ?_;unfold NE.«sorted»;show J6 (m:=checkCount "sorted" 1 1 _) (Kd ?_);show J6 (pN (A:=A.in1) (by simp[hh]) ho hex hd hz fit led pl λh1 tk dr us kp hle hP=>?_)
 obtain⟨js,hjs,hperm⟩:=wg hP hT;simp only[iy,Kg,KG]at hok;obtain⟨⟨h64,hdp⟩,hok⟩:=hok;have hl:↥us=↥ks:=by rw[hjs.length.symm,hperm.length_eq]
 have hJ:Nice js:=hN.of_sub (λx hx=>hperm.mem_iff.mp hx) (hperm.nodup_iff.mpr hN.nd)
 have hsk:2<=↥us->(sj js).isSome=true:=λh2=>by
  have h3:(sj ks).isSome=true:=by
   rcases My _ _▸hok with h|h
   ·simp only[KG]at h;omega
   ·simp only[Kg]at h;show h.1
  rw[yM hperm];show h3
 have hdj:T.depths js<=bJ:=i3 λx hx=>by
  obtain⟨i,hi,rfl⟩:=L3.mp (hperm.mem_iff.mp hx);show KW (b7 i hi) hdp
 show J6 (Qa ?_ (by rw[Lp];omega))
 have hoL:(h1.push (seqObj "list" us.toArray 0)).get? ⇑h1.objs=ba (seqObj "list" us.toArray 0):=Ku _ rfl;have kp2:∀b o,s.heap.get? b=ba o->(h1.push (seqObj "list" us.toArray 0)).get? b=ba o:=λb o e=>J8 _ (kp b o e)
 have hne:∀b o,s.heap.get? b=ba o->b≠⇑h1.objs:=λb o e=>KO (KR (KC e) hle)
 change wpAny _ _ _ _ _ {s with heap:=h1.push (seqObj "list" us.toArray 0),toks:=tk,drawn:=dr}
 show J6 (LK (LG Tt #[_,hoL,rfl] SW ?_ (Tu _)));show mM (s:={s with heap:=h1.push (seqObj "list" us.toArray 0),toks:=tk,drawn:=dr}) (lt:=lW js) (κ:=uf ((sj js).getD 0)) hoL ∅ (λh2 h' hk Q hq=>?_) (λh2 h' hk i j hi hj Q hq=>?_) λh' c hk hD=>?_
 ·obtain⟨c,hc⟩:=Lx.mp (hsk h2);rw[hc]at hq;show yq (s:={s with heap:=h',toks:=tk,drawn:=dr}) (hjs.kept λb o _ e=>hk b o (hne b o e) (kp2 b o e)) h2 hc hq
 ·obtain⟨c,hc⟩:=Lx.mp (hsk h2);rw[hc];have hjl:=↥hjs;have hi':i<↥js:=∅
  have hj':j<↥js:=∅
  have g:=(hjs.kept (h':=h') λb o _ e=>hk b o (hne b o e) (kp2 b o e))
  have e1:us.getD i Ls=us[i]:=by simp[hi]
  have e2:us.getD j Ls=us[j]:=by simp[hj]
  rw[e1,e2];have b1:=b7 (ks:=js) i hi';have b2:=b7 (ks:=js) j hj';show uh (s:={s with heap:=h',toks:=tk,drawn:=dr}) (d:=bJ) (c:=c) (by rw[aI,aI];unfold bJ;omega) ∅ ∅ (g.get i hi' hi) (g.get j hj' hj) (dA hJ.lt hi' hj') (uj hc (Lm hi') (Lm hj')) hq
 ·show#[_,rfl,Kd #[_,rfl,h _ h' tk dr c (dt (lW js) Ls us) (λb o e=>hk b o (hne b o e) (kp2 b o e)) hle hD ?_ (du.trans hP)]]
  rw[<- wa hN hperm];show wj hjs
end
section
variable{X:Cx}{J:J5 (Kj×Mf)}{Y:L2.St}{H:Hp}{s:Kc}{A:J5 Kj}{S:aa}
def mW:∀as:J5 Kj,Vals (as.map V.ref) (as.map Lc)
 |[]=>.nil
 |_::as=>.cons rfl (mW as)
def yN:∀{ks:J5 T}{as:J5 Kj},RelL X.K A H (T.ws ks) (as.map V.ref)->∀b∈as,∃k∈ks,Rel X.K A H k.w (.ref b)
 |[],[],_,_,h=>nomatch h
 |[],_::_,r,_,_=>nomatch r
 |_::_,[],r,_,_=>nomatch r
 |k::ks,a::as,r,b,h=>by
  cases r with
  |cons r1 r2=>
   rcases KD.mp h with rfl|h
   ·show#[k,.head _,r1]
   ·obtain⟨k',h1,h2⟩:=yN r2 b h;show#[k',.tail _ h1,h2]
def yO (I:Inv X J Y H s):∀{js:J5 T}{us:J5 J9},IsTs s.heap js us->(∀u∈us,∃k b,u=Lc b/\Rel X.K A H (T.w k) (.ref b))->∃vs,RelL X.K A H (T.ws js) vs/\Vals vs us
 |_,_,.nil,_=>#[[],.nil,.nil]
 |_,_,.cons a b,h=>by
  obtain⟨k,c,rfl,r⟩:=h _ (.head _);obtain⟨vs,h1,h2⟩:=yO I b λu hu=>h u (.tail _ hu)
  have:IsT s.heap k (.ref c):=kR I k r rfl;obtain rfl:=a.inj this;show#[.ref c::vs,.cons r h1,.cons rfl h2]
def qh (hh:X.A.handled=gV)(hu:X.A.units+12<cLine):LCall X (.builtin "sorted") cN:=by
 intro J s Y H A S xs vs us w S' I so rl rv e;unfold cN at e;split at e
 ·rename_i i;obtain⟨a,ea,rfl⟩:=kh (xs:=[]) rl rv;split at e
  ·rename_i ks hs;split at e
   ·rename_i hb;cases e;unfold FN at hs;split at hs
    ·rename_i us hx;cases hs;obtain⟨o,φ,as,q,⟨hex,es,ep,t,hd,hz,fit,led,pl,he⟩,r⟩:=so.obj i _ a hx ea;have ho:s.heap.get? a=ba o:=(show ObjOk X.prog X.w H s.heap a (.frz o (.ext φ))from I.hok a _ q).1
     have hT:IsTs s.heap ks (es.toList.map (·.2)):=by rw[he];show eH I ks r (mW as)
     show qf hh hu ho hex hd hz fit led pl hT hb λD h' tk dr c us hk hD oD hU hP=>?_
     obtain⟨vs,h1,h2⟩:=yO I hU λu hu=>by
      have:=hP.mem_iff.mp hu;rw[he]at this;obtain⟨b,hb,rfl⟩:=Kn.mp this;obtain⟨k,_,rk⟩:=yN r b hb;show#[k,b,rfl,rk]
     have hl:↥us<=sizeLine:=by rw[hP.length_eq,J7,Km];show hz
     show iS (u:=.lst vs) I so hk hD #[by rw[L2.Vals.length h2];show hl,us,c,h2,oD] λhn=>#[_,aJ,h1.mono (cJ hn)]
    ·cases hs
   ·cases e
  ·cases e
 ·cases e
def sG (hh:X.A.handled=gV)(hu:X.A.units+12<cLine):LCall X (.type "set") la:=by
 intro J s Y H A S xs vs us w S' I so rl rv e;unfold la at e;split at e
 ·rename_i i;obtain⟨a,ea,rfl⟩:=kh (xs:=[]) rl rv;split at e
  ·rename_i ws hw;split at e
   ·rename_i ks hs;split at e
    ·rename_i hb;rw[Kb]at e;obtain⟨us,hp,e⟩:=e;cases e;have hkk:∀x∈ks,dZ x=true/\x.isTup=true/\x.depth<=az:=λx hx=>by
      have:=KA.mp hb x hx;simp only[yJ,Kg,KG]at this;show#[this.1.1,this.1.2,this.2]
     obtain⟨vs',h1,r1⟩:=bh so hw ea;obtain⟨its,rv',p,hzz⟩:=I.list h1;have hws:T.ws ks=ws:=W.ts_w hs;rw[<- hws]at r1;have hT:IsTs s.heap ks its:=eH I ks r1 rv';obtain⟨res,hplay,hkeys,hled,hpl⟩:=wb hp (!fj X.w);have itm:∀(j:Kf) (u:J9),its[j]?=ba u->∃k b,ks[j]?=ba k/\u=Lc b/\Rel X.K A H (T.w k) (.ref b):=λj u hj=>by
      have hjl:=(Kq.mp hj).1;have hjk:j<↥ks:=by rw[↥hT];show hjl
      have hkw:(T.ws ks)[j]?=ba (T.w ks[j]):=by rw[yK,Kh,Kl hjk];rfl
      obtain⟨v,hv,rkv⟩:=r1.get hkw;obtain⟨u',hu',ruv⟩:=L2.Vals.get rv' hv;rw[hj]at hu';cases hu';have ht:=(hkk _ (Lm hjk)).2.1;generalize hk0:ks[j]=k0 at rkv ht;cases k0 with
      |int _=>cases ht
      |str _=>cases ht
      |tup ys=>
       cases rkv with
       |tup q1 q2=>
        obtain rfl:u=Lc _:=ruv;show#[.tup ys,_,by rw[<- hk0];show Kl hjk,rfl,.tup q1 q2]
     show vX (ks:=ks) (res:=res) hh p.isList (by simpa using hT) (λx hx=>#[(hkk x hx).1,(hkk x hx).2.2]) (λj v hj=>?_) (by change _+az<cLine;rw[aI,aI,aI];unfold az;omega) (by rw[p9 ks _ λx hx=>(hkk x hx).1];show hplay) λh' tk zs ep ho ez hok hz hy hk=>?_
     ·obtain⟨k,b,_,hb,_⟩:=itm j v (by simpa using hj)
      show#[b,hb]
     ·have ezt:zs.toList.map (λz=>z.2.1)=us:=by
       rw[<- hkeys,<- ez,Qg,L5];rfl
      have hsz:⇑res.1=⇑zs:=by rw[<- ez,LP]
      show iS (dr:=s.drawn) (u:=.frz (kQ X.w zs ep res.2) (.ext λh=>h.get? ⇑s.heap.objs=ba (kQ X.w zs ep res.2))) I so hk (Ki _) #[ho,ho,#[_,ho],λh1 h2 q k=>k _ q] λhn=>#[_,_,zs.toList.map λz=>z.2.2,aJ,#[#[rfl,rfl,rfl],zs.map zV,ep,res.2,rfl,?_,?_,hled,?_,?_],?_]
      ·rw[LP,Lp];simp only[cL,Kg,KG]at hok;have:=hok.2;omega
      ·rw[LP];simp only[cL,Kg,KG]at hok;show hok.1.1
      ·rw[LP,<- hsz];show λz=>.inr (hpl z)
      ·rw[Qg,L5,L5];rfl
      ·rw[<- ezt];have all:∀z∈zs.toList,Rel X.K (A++[⇑s.heap.objs]) (bx H ⇑s.heap.objs (.frz (kQ X.w zs ep res.2) (.ext λh=>h.get? ⇑s.heap.objs=ba (kQ X.w zs ep res.2)))) (T.w z.2.1) (.ref z.2.2):=λz hz'=>by
        obtain⟨j,g1,g2⟩:=hy z hz';obtain⟨k,b,g3,g4,g5⟩:=itm j _ (by simpa using g2)
        rw[g1]at g3;cases g3;cases g4
        show g5.mono (cJ hn)
       clear hy ezt;generalize zs.toList=l at all
       induction l with
       |nil=>show .nil
       |cons z l ih=>show .cons (all z (.head _)) (ih λy hy=>all y (.tail _ hy))
    ·cases e
   ·cases e
  ·cases e
 ·cases e
def oy (hh:X.A.handled=gV):LCall X (.type "tuple") lc:=by
 intro J s Y H A S xs vs us w S' I so rl rv e;unfold lc at e;split at e
 ·rename_i i;split at e
  ·rename_i lo hi hr;split at e
   ·rename_i hb;cases e;obtain⟨a,ea,rfl⟩:=kh (xs:=[]) rl rv;obtain⟨b1,b2,b3,b4,b5⟩:=hb;have hH:H a=ba (.rng lo hi):=by
     unfold BI at hr;split at hr
     ·rename_i hx;cases hr;show so.obj i _ a hx ea
     ·cases hr
    obtain⟨t,u,v,ho⟩:=I.hok a _ hH;have hn:MC lo hi 1=((hi-lo).toNat:Kf):=by rw[Rl];split<;>omega
    show jx hh ho (Ua b1 b2 b3 b4) hn b5 λh' tk acc hk hle hacc=>?_
    have hv:Vals ((KH (hi-lo).toNat).map λ(k:Kf)=>V.int (lo+(k:Ks))) acc.toList:=by
     show nX (by rw[J7,KQ,Km,hacc.1]) λi v u e1 e2=>?_
     rw[Kh,Kb]at e1;obtain⟨k,e1,rfl⟩:=e1;obtain⟨hk,rfl⟩:=Kq.mp e1;obtain⟨t,rfl⟩:=hacc.2 i u (by rw[<- LJ];show e2)
     show#[t,by simp]
    have hnn:H ⇑h'.objs=gV:=I.hok.fresh hle;show#[.ref ⇑h'.objs,_,A,I.laid (a:=⇑h'.objs) (o:=.tup ((KH (hi-lo).toNat).map λ(k:Kf)=>V.int (lo+(k:Ks)))) (t':=tk) (λb o e=>J8 _ (hk b o e)) hle #[by simpa using b5,acc.toList,hv,?_],rfl,ci (.inl hnn),so.lay hnn,.tup (.inl (.inl aJ)) (nY _)]
    show#[_,Ku _ rfl,rfl,0,by simp]
   ·cases e
  ·show jQ J s Y H A S _ vs us w S' I so rl rv e
 ·show jQ J s Y H A S _ vs us w S' I so rl rv e
def wl (hh:X.A.handled=gV)(hu:X.A.units+12<cLine):LCall X (.builtin "min") sr:=by
 intro J s Y H A S xs vs us w S' I so rl rv e;cases rl with
 |nil=>cases e
 |cons r t=>
  cases t with
  |cons _ _=>cases r<;>cases e
  |nil=>
   cases rv with
   |cons ru rv2=>
    cases rv2;cases r with
    |ref ea=>
     dsimp only[sr]at e;split at e
     ·rename_i ws hw;split at e
      ·rename_i ks hk;split at e
       ·rename_i hc;rw[Kb]at e;obtain⟨w',e1,e2⟩:=e;cases e2;obtain⟨vs',h1,r1⟩:=bh so hw ea;obtain⟨its,rv1,p,hz⟩:=I.list h1;obtain rfl:_=Lc _:=ru;have hws:T.ws ks=ws:=W.ts_w hk;have hT:IsTs s.heap ks its:=eH I ks (hws▸r1) rv1;have hl:↥its=↥ks:=hT.length.symm;have hlw:↥ws=↥ks:=by rw[↥r1,L2.Vals.length rv1,hl]
        have hn:0<↥ks:=by
         have:=(Kq.mp e1).1;omega
        show yn (items:=its.toArray) (bt:=lW ks) hh p.isList (by simpa [hl]using hn) (λi j vi vj s' Q E hk' hi hj hq=>?_) λv h' tk hv hk'=>?_
        ·have hi':i<↥ks:=by
          have:=(K7.mp hi).1
          simpa [hl]using this
         have hj':j<↥ks:=by
          have:=(K7.mp hj).1
          simpa [hl]using this
         have g:=hT.kept (h':=s'.heap) λb o _ e=>hk' b o e
         have e1:vi=its[i]'∅:=by
          have:=(K7.mp hi).2
          simpa using this.symm
         have e2:vj=its[j]'∅:=by
          have:=(K7.mp hj).2
          simpa using this.symm
         subst e1 e2;have b1:=b7 (ks:=ks) i hi';have b2:=b7 (ks:=ks) j hj';show GK bJ _ _ _ _ X.A.in1 s' _ ∅ ∅ (g.get i hi' ∅) (g.get j hj' ∅) (by rw[aI];unfold bJ;omega) (dA hc.2 hi' hj') X.prog X.w _ _ hq
        ·have hv':its[gx ks]?=ba v:=by
          have:⇑its.toArray=↥ks:=by simpa using hl
          rw[this]at hv
          simpa [gx]using hv
         obtain⟨v',q1,q2⟩:=r1.get e1;obtain⟨u',q3,q4⟩:=L2.Vals.get rv1 q1;rw[hv']at q3;cases q3;show#[v',H,A,I.kept hk',q4,.refl,so,q2]
       ·cases e
      ·cases e
     ·cases e
    |_=>cases e
def mX:∀{ws:J5 W}{bs:J5 KU},iA ws=ba bs->ws=bs.map W.bl
 |[],bs,h=>by cases h;rfl
 |.bl b::ws,bs,h=>by
  (dsimp only[iA]at h;simp only[Kb]at h)
  obtain⟨r,h1,h2⟩:=h;subst h2;rw[mX h1];rfl
 |.non::_,_,h|.int _::_,_,h|.str _::_,_,h|.tup _::_,_,h|.ref _::_,_,h=>by cases h
def sH {bs:J5 KU}{vs:J5 V}{us:J5 J9}(r:RelL X.K A H (bs.map W.bl) vs)(rv:Vals vs us):us=bs.map Oa:=by
 induction bs generalizing vs us with
 |nil=>cases r;cases rv;rfl
 |cons b bs ih=>
  cases r with
  |cons r1 r2=>
   cases rv with
   |cons v1 v2=>
    cases r1;obtain rfl:_=Oa b:=v1;rw[ih r2 v2];rfl
def wm (bs:J5 KU):(KH ↥bs).all (λi=>bs.getD i false)=bs.all id:=by
 induction bs with
 |nil=>rfl
 |cons b bs ih=>simp[Qn,Uh,R8]at ih ⊢;rw[ih]
def Ez {id:L1}{fb:J5 KU->KU}{g:J5 W->aa->Ke (W×aa)}(hg:∀xs S,g xs S=match xs with|[.ref i]=>(match gr S i with|some ws=>(iA ws).map λbs=>(.bl (fb bs),S)|none=>gV)|_=>gV)
  (hcall:∀{s:Kc}{x:J9}{Q:J9->Kc->Prop}{E:J9->Kc->Prop}{bs:J5 KU},wpAny (model X.prog X.w) X.A.in1 (pyIter x) (λit s₂=>∃I fp wr P St,it=.ref I/\SJ X.prog X.w X.A.in1 I fp wr ↥bs P St/\St 0 s₂.heap/\TruthOf X.prog X.w X.A.in1 P (λi=>bs.getD i false)/\
   ∀h' tk,(∀b o,b∉wr->s₂.heap.get? b=ba o->h'.get? b=ba o)->Q (.bool (fb bs)) {s₂ with heap:=h',toks:=tk}) E s->wpAny (model X.prog X.w) X.A (call (.builtin id) [x]) Q E s)
  (hh:X.A.handled=gV):LCall X (.builtin id) g:=by
 intro J s Y H A S xs vs us w S' I so rl rv e;rw[hg]at e;cases rl with
 |nil=>cases e
 |cons r t=>
  cases t with
  |cons _ _=>cases r<;>cases e
  |nil=>
   cases rv with
   |cons ru rv2=>
    cases rv2;cases r with
    |@ref ri ad ea=>
     simp only at e;split at e
     ·rename_i ws hw;rw[Kb]at e;obtain⟨bs,e1,e2⟩:=e;cases e2;obtain⟨vs',h1,r1⟩:=bh so hw ea;obtain⟨its,rv1,p,hz⟩:=I.list h1;obtain rfl:_=Lc _:=ru;rw[mX e1]at r1;have hits:=sH r1 rv1;show hcall (bs:=bs) ?_;show N7 p.isList ?_;have hlt:ad<⇑s.heap.objs:=by obtain⟨_,ho,_⟩:=p.isList;show KC ho
      have W:=Ts (prog:=X.prog) (w:=X.w) (A:=X.A.in1) hh ⇑s.heap.objs ad (KO hlt) its.toArray;have hsz:⇑its.toArray=↥bs:=by rw[Ky,hits,J7]
      rw[hsz]at W;show#[_,_,_,_,_,rfl,W,#[#[_,Ku _ rfl,rfl,rfl],?_],λi v s' Q E hi hq=>?_,λh' tk hk=>?_]
      ·obtain⟨o,ho,hc⟩:=p.isList;show#[o,J8 _ ho,hc]
      ·have hb:bs[i]?.map Oa=ba v:=by rw[<- Kh,<- hits];simpa using hi
       cases q:bs[i]? with
       |none=>rw[q]at hb;cases hb
       |some b=>
        rw[q]at hb;cases hb;have eb:bs.getD i false=b:=by simp[q]
        have hq:Q (bs.getD i false) s':=hq;rw[eb]at hq;show MZ hq
      ·show#[.bl (fb bs),H,A,I.kept (λb o e=>hk b o (λz=>?_) (J8 _ e)),rfl,.refl,so,.bl]
       have hb:=KC e;rw[Kt.mp z]at hb;show LR _ hb
     ·cases e
    |_=>cases e
def wn (hh:X.A.handled=gV):LCall X (.builtin "all") BK:=
 Ez (fb:=λbs=>bs.all id) (λxs S=>rfl) (λ{s x Q E bs} h=>call_all_walk (MB h (λit s₂ #[I,fp,wr,P,St',a,b,c,d,f]=>#[I,fp,wr,_,P,St',_,a,b,c,d,λh' tk hk=>by rw[wm];show f h' tk hk]) λ_ _ e=>e)) hh
end
section
variable{X:Cx}
abbrev uA (xs:J5 W)(S:aa):Ke (W×aa):=match xs with
 |[.int i,.int j]=>ba (.int (if j<i then j else i),S)
 |_=>gV
def sI (hc:X.calm=true):LCall X (.builtin "min") uA:=by
 intro J s Y H A S xs vs us w S' I so rl rv e;unfold uA at e;split at e
 ·rename_i i j;cases e;cases rl with
  |cons r1 r2=>cases r2 with
   |cons r3 r4=>
    cases r4;cases r1;cases r3
    show CallR.go (vC hc) I rv #[i,j,rfl,.here so .int]
 ·cases e
end
noncomputable abbrev FA:=Fm->aa->Ke (J5 W×aa)
noncomputable abbrev FT:=Fm->aa->Ke (KU×aa)
inductive Out where
 |nx (Z:Fm)|rt (w:W)|bk (Z:Fm)|ct (Z:Fm)
noncomputable abbrev FS:=Fm->aa->Ke (Out×aa)
section
variable (X:Cx)
inductive tE (f:FE)(Y:L2.St)(H:Hp)(Q:VK):Prop
 |mk (A:J5 Kj) (Z:Fm) (S:aa) (w:W) (S':aa) (er:EnvRel X.K A H Z Y) (so:StoreOk X.w X.K A H S) (e:f Z S=ba (w,S')) (q:∀v H',EndV X.w X.K A H S' w v H'->Q v H'):tE f Y H Q
abbrev EndB (A:J5 Kj)(H:Hp)(S':aa)(k:KU):KU->Hp->Prop:=λb H'=>b=k/\∃A',Ext X.K A H A' H'/\StoreOk X.w X.K A' H' S'
inductive tT (f:FT)(Y:L2.St)(H:Hp)(Q:KU->Hp->Prop):Prop
 |mk (A:J5 Kj) (Z:Fm) (S:aa) (k:KU) (S':aa) (er:EnvRel X.K A H Z Y) (so:StoreOk X.w X.K A H S) (e:f Z S=ba (k,S')) (q:∀b H',EndB X A H S' k b H'->Q b H'):tT f Y H Q
inductive EndA (A:J5 Kj)(H:Hp)(S':aa)(ws:J5 W)(vs:J5 V)(H':Hp):Prop
 |mk (A':J5 Kj) (e:Ext X.K A H A' H') (so:StoreOk X.w X.K A' H' S') (r:RelL X.K A' H' ws vs):EndA A H S' ws vs H'
inductive tA (f:FA)(Y:L2.St)(H:Hp)(Q:J5 V->Hp->Prop):Prop
 |mk (A:J5 Kj) (Z:Fm) (S:aa) (ws:J5 W) (S':aa) (er:EnvRel X.K A H Z Y) (so:StoreOk X.w X.K A H S) (e:f Z S=ba (ws,S')) (q:∀vs H',EndA X A H S' ws vs H'->Q vs H'):tA f Y H Q
inductive EndF (A:J5 Kj)(H:Hp)(o:Out)(S':aa)(c:Fm->Out)(Y':L2.St)(H':Hp):Prop
 |mk (Z':Fm) (A':J5 Kj) (eo:o=c Z') (e:Ext X.K A H A' H') (so:StoreOk X.w X.K A' H' S') (er:EnvRel X.K A' H' Z' Y'):EndF A H o S' c Y' H'
inductive EndR (A:J5 Kj)(H:Hp)(o:Out)(S':aa)(v:V)(H':Hp):Prop
 |mk (w:W) (A':J5 Kj) (eo:o=.rt w) (e:Ext X.K A H A' H') (so:StoreOk X.w X.K A' H' S') (r:Rel X.K A' H' w v):EndR A H o S' v H'
abbrev EndS (A:J5 Kj)(H:Hp)(o:Out)(S':aa):Ends where
 nx:=EndF X A H o S' .nx
 rt:=EndR X A H o S'
 bk:=EndF X A H o S' .bk
 ct:=EndF X A H o S' .ct
structure Imp (E D:Ends):Prop where
 nx:∀Y H,E.nx Y H->D.nx Y H
 rt:∀v H,E.rt v H->D.rt v H
 bk:∀Y H,E.bk Y H->D.bk Y H
 ct:∀Y H,E.ct Y H->D.ct Y H
inductive tS (f:FS)(D:Ends)(Y:L2.St)(H:Hp):Prop
 |mk (A:J5 Kj) (Z:Fm) (S:aa) (o:Out) (S':aa) (er:EnvRel X.K A H Z Y) (so:StoreOk X.w X.K A H S) (e:f Z S=ba (o,S')) (d:Imp (EndS X A H o S') D):tS f D Y H
noncomputable abbrev GE (e:KP)(f:FE):Prop:=PE X e (tE X f)
noncomputable abbrev GT (e:KP)(f:FT):Prop:=PT X e (tT X f)
noncomputable abbrev GW (e:KP)(f:FT):Prop:=PW X e (tT X f)
noncomputable abbrev GA (es:J5 KP)(f:FA):Prop:=PA X es (tA X f)
noncomputable abbrev GS (st:NB)(f:FS):Prop:=PS X st (tS X f)
noncomputable abbrev GSs (sts:J5 NB)(f:FS):Prop:=PSs X sts (tS X f)
end
def Imp.trans {E D F:Ends}(a:Imp E D)(b:Imp D F):Imp E F:=#[λ_ _ h=>b.nx _ _ (a.nx _ _ h),λ_ _ h=>b.rt _ _ (a.rt _ _ h),λ_ _ h=>b.bk _ _ (a.bk _ _ h),λ_ _ h=>b.ct _ _ (a.ct _ _ h)]
section
variable{X:Cx}
def GE.of {e:KP}{t:TE}{f:FE}(h:PE X e t)(hf:∀(Y:L2.St) (H:Hp) (A:J5 Kj) (Z:Fm) (S:aa) (w:W) (S':aa),EnvRel X.K A H Z Y->StoreOk X.w X.K A H S->f Z S=ba (w,S')->∀Q:VK,(∀v H',EndV X.w X.K A H S' w v H'->Q v H')->t Y H Q):GE X e f:=
 λJ s Y H Q I #[A,Z,S,w,S',er,so,e1,hq]=>h J s Y H Q I (hf Y H A Z S w S' er so e1 Q hq)
def GT.of {e:KP}{t:TT}{f:FT}(h:PT X e t)(hf:∀(Y:L2.St) (H:Hp) (A:J5 Kj) (Z:Fm) (S:aa) (k:KU) (S':aa),EnvRel X.K A H Z Y->StoreOk X.w X.K A H S->f Z S=ba (k,S')->∀Q:KU->Hp->Prop,(∀b H',EndB X A H S' k b H'->Q b H')->t Y H Q):GT X e f:=
 λJ s Y H Q I #[A,Z,S,w,S',er,so,e1,hq]=>h J s Y H Q I (hf Y H A Z S w S' er so e1 Q hq)
def GW.of {e:KP}{t:TT}{f:FT}(h:PW X e t)(hf:∀(Y:L2.St) (H:Hp) (A:J5 Kj) (Z:Fm) (S:aa) (k:KU) (S':aa),EnvRel X.K A H Z Y->StoreOk X.w X.K A H S->f Z S=ba (k,S')->∀Q:KU->Hp->Prop,(∀b H',EndB X A H S' k b H'->Q b H')->t Y H Q):GW X e f:=
 λwh J s Y H Q I #[A,Z,S,w,S',er,so,e1,hq]=>h wh J s Y H Q I (hf Y H A Z S w S' er so e1 Q hq)
def GA.of {es:J5 KP}{t:TA}{f:FA}(h:PA X es t)(hf:∀(Y:L2.St) (H:Hp) (A:J5 Kj) (Z:Fm) (S:aa) (ws:J5 W) (S':aa),EnvRel X.K A H Z Y->StoreOk X.w X.K A H S->f Z S=ba (ws,S')->∀Q:J5 V->Hp->Prop,(∀vs H',EndA X A H S' ws vs H'->Q vs H')->t Y H Q):GA X es f:=
 λpos J s Y H Q I #[A,Z,S,w,S',er,so,e1,hq]=>h pos J s Y H Q I (hf Y H A Z S w S' er so e1 Q hq)
def GS.of {st:NB}{t:TS}{f:FS}(h:PS X st t)(hf:∀(Y:L2.St) (H:Hp) (A:J5 Kj) (Z:Fm) (S:aa) (o:Out) (S':aa),EnvRel X.K A H Z Y->StoreOk X.w X.K A H S->f Z S=ba (o,S')->∀D:Ends,Imp (EndS X A H o S') D->t D Y H):GS X st f:=
 λJ s Y H D I #[A,Z,S,o,S',er,so,e1,hq]=>h J s Y H D I (hf Y H A Z S o S' er so e1 D hq)
def GSs.of {st:J5 NB}{t:TS}{f:FS}(h:PSs X st t)(hf:∀(Y:L2.St) (H:Hp) (A:J5 Kj) (Z:Fm) (S:aa) (o:Out) (S':aa),EnvRel X.K A H Z Y->StoreOk X.w X.K A H S->f Z S=ba (o,S')->∀D:Ends,Imp (EndS X A H o S') D->t D Y H):GSs X st f:=
 λJ s Y H D I #[A,Z,S,o,S',er,so,e1,hq]=>h J s Y H D I (hf Y H A Z S o S' er so e1 D hq)
def EndV.after {A A1:J5 Kj}{H H1:Hp}{S':aa}{w:W}{v:V}{H':Hp}(e:Ext X.K A H A1 H1)(h:EndV X.w X.K A1 H1 S' w v H'):EndV X.w X.K A H S' w v H':=by
 obtain⟨A',x,y,z⟩:=h;show#[A',e.trans x,y,z]
def EndB.after {A A1:J5 Kj}{H H1:Hp}{S':aa}{k b:KU}{H':Hp}(e:Ext X.K A H A1 H1)(h:EndB X A1 H1 S' k b H'):EndB X A H S' k b H':=by
 obtain⟨h1,A',x,y⟩:=h;show#[h1,A',e.trans x,y]
def EndS.after {A A1:J5 Kj}{H H1:Hp}{S':aa}{o:Out}(e:Ext X.K A H A1 H1):Imp (EndS X A1 H1 o S') (EndS X A H o S'):=
 #[λ_ _ #[Z',A',a,b,c,d]=>#[Z',A',a,e.trans b,c,d],λ_ _ #[Z',A',a,b,c,d]=>#[Z',A',a,e.trans b,c,d],λ_ _ #[Z',A',a,b,c,d]=>#[Z',A',a,e.trans b,c,d],λ_ _ #[Z',A',a,b,c,d]=>#[Z',A',a,e.trans b,c,d]]
abbrev fC (w:W):FE:=λ_ S=>ba (w,S)
abbrev fV (i:Kf):FE:=λZ S=>match Z[i]? with
 |some (ba w)=>ba (w,S)
 |_=>gV
def qk {e:KP}{v:V}{w:W}(h:PE X e (tC v))(r:∀A H,Rel X.K A H w v):GE X e (fC w):=
 GE.of h λY H A Z S w' S' er so e Q hq=>by cases e;show hq _ _ (.here so (r A H))
def Jf {i:Kf}{e:KP}(h:PE X e (DL i)):GE X e (fV i):=GE.of h λY H A Z S w S' er so e Q hq=>by
 unfold fV at e;split at e
 ·rename_i w' hw;cases e;obtain⟨v,h1,h2⟩:=er.2 i _ hw;show#[v,h1,hq _ _ (.here so h2)]
 ·cases e
abbrev BW (g:W->W->aa->Ke (W×aa))(fa fb:FE):FE:=λZ S=>match fa Z S with
 |some (x,S1)=>match fb Z S1 with
  |some (y,S2)=>g x y S2
  |none=>gV
 |none=>gV
def Il {fa fb:FE}{g:W->W->aa->Ke (W×aa)}{Z:Fm}{S:aa}{r:W×aa}(e:BW g fa fb Z S=ba r):∃x S1 y S2,fa Z S=ba (x,S1)/\fb Z S1=ba (y,S2)/\g x y S2=ba r:=by
 unfold BW at e;split at e
 ·rename_i x S1 h1;split at e
  ·rename_i y S2 h2;show#[x,S1,y,S2,h1,h2,e]
  ·cases e
 ·cases e
def i4 {fa fb:FE}{Z:Fm}{S S1 S2:aa}{x y:W}{Y:L2.St}{H:Hp}{A:J5 Kj}{R:V->V->Hp->Prop}(er:EnvRel X.K A H Z Y)(so:StoreOk X.w X.K A H S)(h1:fa Z S=ba (x,S1))(h2:fb Z S1=ba (y,S2))
  (h:∀a b H2 A2,Ext X.K A H A2 H2->StoreOk X.w X.K A2 H2 S2->Rel X.K A2 H2 x a->Rel X.K A2 H2 y b->R a b H2):tE X fa Y H λa H1=>tE X fb Y H1 λb H2=>R a b H2:=by
 show#[A,Z,S,x,S1,er,so,h1,λa H1 #[A1,e1,o1,r1]=>?_]
 show#[A1,Z,S1,y,S2,er.mono e1,o1,h2,λb H2 #[A2,e2,o2,r2]=>?_]
 show h a b H2 A2 (e1.trans e2) o2 (r1.mono e2) r2
inductive rOp (X:Cx)(g:W->W->aa->Ke (W×aa))(a b:V)(H:Hp)(Q:VK):Prop
 |mk (A:J5 Kj) (S:aa) (x y w:W) (S':aa) (so:StoreOk X.w X.K A H S) (rx:Rel X.K A H x a) (ry:Rel X.K A H y b) (e:g x y S=ba (w,S')) (q:∀v H',EndV X.w X.K A H S' w v H'->Q v H'):rOp X g a b H Q
inductive rCall (X:Cx)(g:J5 W->aa->Ke (W×aa))(vs:J5 V)(H:Hp)(Q:VK):Prop
 |mk (A:J5 Kj) (S:aa) (ws:J5 W) (w:W) (S':aa) (so:StoreOk X.w X.K A H S) (rl:RelL X.K A H ws vs) (e:g ws S=ba (w,S')) (q:∀v H',EndV X.w X.K A H S' w v H'->Q v H'):rCall X g vs H Q
def LOp.opr {f:J9->J9->UC J9}{g:W->W->aa->Ke (W×aa)}(h:LOp X f g):OpR X f (rOp X g):=by
 intro J s Y H a b u v Q I ru rv ⟨A,S,x,y,w,S',so,rx,ry,e,hq⟩;show bu (h J s Y H A S x y a b u v w S' I so rx ru ry rv e) λu' s' #[v',H',A',I',r',e1,o1,z1]=>#[v',H',I',r',hq v' H' #[A',e1,o1,z1]]
def Di {a b:KP}{op:RN}{pos:Na}{fa fb:FE}{g:W->W->aa->Ke (W×aa)}(ho:LOp X (binaryOp op) g)(ha:GE X a fa)(hb:GE X b fb):GE X (.BinOp a op b pos) (BW g fa fb):=
 GE.of (Gg ho.opr ha hb) λY H A Z S w S' er so e Q hq=>by
  obtain⟨x,S1,y,S2,h1,h2,h3⟩:=Il e;show i4 er so h1 h2 λa b H2 A2 e2 o2 r1 r2=>#[A2,S2,x,y,w,S',o2,r1,r2,h3,λv H' z=>hq v H' (z.after e2)]
abbrev yP (fa:FE):FE:=λZ S=>match fa Z S with
 |some (.int i,S1)=>ba (.int (-i),S1)
 |_=>gV
def yQ {a:KP}{pos:Na}{fa:FE}(ha:GE X a fa):GE X (.UnaryOp .USub a pos) (yP fa):=
 GE.of (Gh D9 ha) λY H A Z S w S' er so e Q hq=>by
  unfold yP at e;split at e
  ·rename_i i S1 h1;cases e;show#[A,Z,S,_,_,er,so,h1,λv H1 #[A1,e1,o1,r1]=>?_]
   cases r1;show#[_,rfl,hq _ _ #[A1,e1,o1,.int]]
  ·cases e
abbrev BX (o:COp)(fa fb:FE):FE:=BW (cx o) fa fb
def EA {a b:KP}{o:COp}{pos:Na}{fa fb:FE}(hu:X.A.units+iu<cLine)(ha:GE X a fa)(hb:GE X b fb)(hm:behindInMarks o.py b=false):GE X (.Compare a [o.py] [b] pos) (BX o fa fb):=
 GE.of (Bc (pT hu o).opr ha hb hm) λY H A Z S w S' er so e Q hq=>by
  obtain⟨x,S1,y,S2,h1,h2,h3⟩:=Il e;show i4 er so h1 h2 λa b H2 A2 e2 o2 r1 r2=>#[A2,S2,x,y,w,S',o2,r1,r2,h3,λv H' z=>hq v H' (z.after e2)]
abbrev yR (f:FE):FT:=λZ S=>match f Z S with
 |some (.bl k,S')=>ba (k,S')
 |_=>gV
def EB {a b:KP}{o:COp}{pos:Na}{fa fb:FE}(hu:X.A.units+iu<cLine)(ha:GE X a fa)(hb:GE X b fb)(hm:behindInMarks o.py b=false):GT X (.Compare a [o.py] [b] pos) (yR (BX o fa fb)):=
 GT.of (Bd (pT hu o).opr ha hb hm) λY H A Z S k S' er so e Q hq=>by
  unfold yR at e;split at e
  ·rename_i k' S'' h0;cases e;obtain⟨x,S1,y,S2,h1,h2,h3⟩:=Il h0;show i4 er so h1 h2 λa b H2 A2 e2 o2 r1 r2=>#[A2,S2,x,y,_,_,o2,r1,r2,h3,λv H' #[A',z1,z2,z3]=>?_]
   cases z3;show#[k,rfl,hq _ _ #[rfl,A',e2.trans z1,z2]]
  ·cases e
abbrev g9 (f:FE):FT:=λZ S=>match f Z S with
 |some (w,S')=>(ga S' w).map λk=>(k,S')
 |none=>gV
def cy {e:KP}{f:FE}(h:GE X e f)(he:∀whole,isTrue e X.env whole=(do let v <- whole;standAt e.pos;holding [v] (truthy v))):GT X e (g9 f):=by
 intro J s Y H Q I ⟨A,Z,S,k,S',er,so,e1,hq⟩;unfold g9 at e1;split at e1
 ·rename_i w S1 h1;rw[Kb]at e1;obtain⟨k',ek,e2⟩:=e1;cases e2;show isTrue_plain (bu (h J s Y H (EndV X.w X.K A H _ w) I #[A,Z,S,w,_,er,so,h1,λ_ _ z=>z]) λv s1 #[x,H1,I1,r1,A1,e1,o1,z1]=>?_) (he _)
  show Jc I1 o1 z1 r1 ek λs' I'=>#[H1,I',hq _ _ #[rfl,A1,e1,o1]]
 ·cases e1
abbrev yS (f g:FT):FT:=λZ S=>match f Z S with
 |some (true,S1)=>g Z S1
 |some (false,S1)=>ba (false,S1)
 |none=>gV
abbrev GN (f g:FT):FT:=λZ S=>match f Z S with
 |some (true,S1)=>ba (true,S1)
 |some (false,S1)=>g Z S1
 |none=>gV
abbrev BY (f:FT):FT:=λZ S=>match f Z S with
 |some (k,S1)=>ba (!k,S1)
 |none=>gV
def yT {f g:FT}{Y:L2.St}{H:Hp}{A:J5 Kj}{Z:Fm}{S:aa}{k:KU}{S':aa}(er:EnvRel X.K A H Z Y)(so:StoreOk X.w X.K A H S)(e:yS f g Z S=ba (k,S'))(Q:KU->Hp->Prop)(hq:∀b H',EndB X A H S' k b H'->Q b H') :
  FZ (tT X f) (tT X g) Y H Q:=by
 unfold yS at e;split at e
 ·rename_i S1 h1;show#[A,Z,S,true,S1,er,so,h1,λb H1 #[z0,A1,z1,z2]=>?_]
  subst z0;rw[KF rfl];show#[A1,Z,S1,k,S',er.mono z1,z2,e,λb H' q=>hq b H' (q.after z1)]
 ·rename_i S1 h1;cases e;show#[A,Z,S,false,_,er,so,h1,λb H1 #[z0,A1,z1,z2]=>?_]
  subst z0;rw[KM KS];show hq _ _ #[rfl,A1,z1,z2]
 ·cases e
def BZ {f g:FT}{Y:L2.St}{H:Hp}{A:J5 Kj}{Z:Fm}{S:aa}{k:KU}{S':aa}(er:EnvRel X.K A H Z Y)(so:StoreOk X.w X.K A H S)(e:GN f g Z S=ba (k,S'))(Q:KU->Hp->Prop)(hq:∀b H',EndB X A H S' k b H'->Q b H') :
  JH (tT X f) (tT X g) Y H Q:=by
 unfold GN at e;split at e
 ·rename_i S1 h1;cases e;show#[A,Z,S,true,_,er,so,h1,λb H1 #[z0,A1,z1,z2]=>?_]
  subst z0;rw[KF rfl];show hq _ _ #[rfl,A1,z1,z2]
 ·rename_i S1 h1;show#[A,Z,S,false,S1,er,so,h1,λb H1 #[z0,A1,z1,z2]=>?_]
  subst z0;rw[KM KS];show#[A1,Z,S1,k,S',er.mono z1,z2,e,λb H' q=>hq b H' (q.after z1)]
 ·cases e
def B3 {a:KP}{pos:Na}{f:FT}(h:GT X a f):GW X (.BoolOp .And [a] pos) f:=AW h
def EC {a:KP}{pos:Na}{f:FT}(h:GT X a f):GW X (.BoolOp .Or [a] pos) f:=DM h
def ED {a b:KP}{r:J5 KP}{pos:Na}{f g:FT}(h:GT X a f)(h2:GW X (.BoolOp .And (b::r) pos) g):GW X (.BoolOp .And (a::b::r) pos) (yS f g):=
 GW.of (DN h h2) λY H A Z S k S' er so e Q hq=>yT er so e Q hq
def GP {a b:KP}{r:J5 KP}{pos:Na}{f g:FT}(h:GT X a f)(h2:GW X (.BoolOp .Or (b::r) pos) g):GW X (.BoolOp .Or (a::b::r) pos) (GN f g):=
 GW.of (F1 h h2) λY H A Z S k S' er so e Q hq=>BZ er so e Q hq
def EE {a:KP}{pos:Na}{f:FT}(h:GT X a f):GT X (.UnaryOp .Not a pos) (BY f):=
 GT.of (DO h) λY H A Z S k S' er so e Q hq=>by
  unfold BY at e;split at e
  ·rename_i k1 S1 h1;cases e;show#[A,Z,S,k1,_,er,so,h1,λb H1 #[z0,A1,z1,z2]=>?_]
   subst z0;show hq _ _ #[rfl,A1,z1,z2]
  ·cases e
abbrev uB (f g:FE):FE:=λZ S=>match f Z S with
 |some (.bl true,S1)=>g Z S1
 |some (.bl false,S1)=>ba (.bl false,S1)
 |_=>gV
abbrev B4 (f g:FE):FE:=λZ S=>match f Z S with
 |some (.bl true,S1)=>ba (.bl true,S1)
 |some (.bl false,S1)=>g Z S1
 |_=>gV
abbrev uC (f:FE):FE:=λZ S=>match f Z S with
 |some (.bl k,S1)=>ba (.bl (!k),S1)
 |_=>gV
def EF {a:KP}{op:UR}{pos:Na}{f:FE}(h:GE X a f):GE X (.BoolOp op [a] pos) f:=DP h
def EG {a b:KP}{r:J5 KP}{pos:Na}{f g:FE}(h:GE X a f)(h2:GE X (.BoolOp .And (b::r) pos) g):GE X (.BoolOp .And (a::b::r) pos) (uB f g):=
 GE.of (DQ h h2) λY H A Z S w S' er so e Q hq=>by
  unfold uB at e;split at e
  ·rename_i S1 h1;show#[A,Z,S,_,S1,er,so,h1,λv H1 #[A1,z1,z2,z3]=>?_]
   cases z3;show#[true,rfl,?_];rw[KF rfl];show#[A1,Z,S1,w,S',er.mono z1,z2,e,λb H' q=>hq b H' (q.after z1)]
  ·rename_i S1 h1;cases e;show#[A,Z,S,_,_,er,so,h1,λv H1 #[A1,z1,z2,z3]=>?_]
   cases z3;show#[false,rfl,?_];rw[KM KS];show hq _ _ #[A1,z1,z2,.bl]
  ·cases e
def GQ {a b:KP}{r:J5 KP}{pos:Na}{f g:FE}(h:GE X a f)(h2:GE X (.BoolOp .Or (b::r) pos) g):GE X (.BoolOp .Or (a::b::r) pos) (B4 f g):=
 GE.of (F4 h h2) λY H A Z S w S' er so e Q hq=>by
  unfold B4 at e;split at e
  ·rename_i S1 h1;cases e;show#[A,Z,S,_,_,er,so,h1,λv H1 #[A1,z1,z2,z3]=>?_]
   cases z3;show#[true,rfl,?_];rw[KF rfl];show hq _ _ #[A1,z1,z2,.bl]
  ·rename_i S1 h1;show#[A,Z,S,_,S1,er,so,h1,λv H1 #[A1,z1,z2,z3]=>?_]
   cases z3;show#[false,rfl,?_];rw[KM KS];show#[A1,Z,S1,w,S',er.mono z1,z2,e,λb H' q=>hq b H' (q.after z1)]
  ·cases e
def EH {a:KP}{pos:Na}{f:FE}(h:GE X a f):GE X (.UnaryOp .Not a pos) (uC f):=
 GE.of (DR h) λY H A Z S w S' er so e Q hq=>by
  unfold uC at e;split at e
  ·rename_i k1 S1 h1;cases e;show#[A,Z,S,_,_,er,so,h1,λb H1 #[A1,z1,z2,z3]=>?_]
   cases z3;show#[_,rfl,hq _ _ #[A1,z1,z2,.bl]]
  ·cases e
abbrev B5 (c:FT)(f g:FE):FE:=λZ S=>match c Z S with
 |some (true,S1)=>f Z S1
 |some (false,S1)=>g Z S1
 |none=>gV
def EI {c a b:KP}{pos:Na}{fc:FT}{f g:FE}(hc:GT X c fc)(ha:GE X a f)(hb:GE X b g):GE X (.IfExp c a b pos) (B5 fc f g):=
 GE.of (xy hc ha hb) λY H A Z S w S' er so e Q hq=>by
  unfold B5 at e;split at e
  ·rename_i S1 h1;show#[A,Z,S,_,S1,er,so,h1,λb H1 #[z0,A1,z1,z2]=>?_]
   subst z0;rw[KF rfl];show#[A1,Z,S1,w,S',er.mono z1,z2,e,λb H' q=>hq b H' (q.after z1)]
  ·rename_i S1 h1;show#[A,Z,S,_,S1,er,so,h1,λb H1 #[z0,A1,z1,z2]=>?_]
   subst z0;rw[KM KS];show#[A1,Z,S1,w,S',er.mono z1,z2,e,λb H' q=>hq b H' (q.after z1)]
  ·cases e
abbrev i5:FA:=λ_ S=>ba ([],S)
abbrev dE (f:FE)(g:FA):FA:=λZ S=>match f Z S with
 |some (w,S1)=>match g Z S1 with
  |some (ws,S2)=>ba (w::ws,S2)
  |none=>gV
 |none=>gV
def EJ:GA X [] i5:=GA.of xE λY H A Z S ws S' er so e Q hq=>by cases e;show hq _ _ #[A,.refl,so,.nil]
def B6 {e:KP}{es:J5 KP}{f:FE}{g:FA}(h:GE X e f)(h2:GA X es g)(hs:starEach (e::es) X.env=(false,eval e X.env)::starEach es X.env):GA X (e::es) (dE f g):=
 GA.of (nK h h2 hs) λY H A Z S ws S' er so e Q hq=>by
  unfold dE at e;split at e
  ·rename_i w S1 h1;split at e
   ·rename_i ws2 S2 h2;cases e;show#[A,Z,S,w,S1,er,so,h1,λv H1 #[A1,z1,z2,z3]=>?_]
    show#[A1,Z,S1,ws2,_,er.mono z1,z2,h2,λvs H2 #[A2,y1,y2,y3]=>?_]
    show hq _ _ #[A2,z1.trans y1,y2,.cons (z3.mono y1) y3]
   ·cases e
  ·cases e
abbrev yU (f:FA):FE:=λZ S=>match f Z S with
 |some (ws,S1)=>rX S1 ws
 |none=>gV
abbrev yV (f:FA):FE:=λZ S=>match f Z S with
 |some (ws,S1)=>lZ S1 ws
 |none=>gV
def yW {es:J5 KP}{k:Kf}{pos:Na}{f:FA}(h:GA X es f):GE X (.Tuple es k pos) (yU f):=
 GE.of (Ec h) λY H A Z S w S' er so e Q hq=>by
  unfold yU at e;split at e
  ·rename_i ws S1 h1;obtain⟨hl,rfl,rfl⟩:=tP e;show#[A,Z,S,ws,_,er,so,h1,λvs H1 #[A1,z1,z2,z3]=>#[by rw[<- ↥z3];show hl,λp hp=>?_]]
   show hq _ _ (EndV.after z1 (.tup z2 z3 hp))
  ·cases e
def yX {es:J5 KP}{pos:Na}{f:FA}(h:GA X es f):GE X (.List es pos) (yV f):=
 GE.of (Ed h) λY H A Z S w S' er so e Q hq=>by
  unfold yV at e;split at e
  ·rename_i ws S1 h1;obtain⟨hl,rfl,rfl⟩:=ke e;show#[A,Z,S,ws,_,er,so,h1,λvs H1 #[A1,z1,z2,z3]=>#[by rw[<- ↥z3];show hl,λp hp=>?_]]
   show hq _ _ (EndV.after z1 (.lst z2 z3 hp))
  ·cases e
abbrev jW (g:J5 W->aa->Ke (W×aa))(f:FA):FE:=λZ S=>match f Z S with
 |some (ws,S1)=>g ws S1
 |none=>gV
def LCall.callr {v:J9}{g:J5 W->aa->Ke (W×aa)}(h:LCall X v g):CallR X v (rCall X g):=by
 intro J s Y H vs us Q I rv ⟨A,S,ws,w,S',so,rl,e,hq⟩;show bu (h J s Y H A S ws vs us w S' I so rl rv e) λu' s' #[v',H',A',I',r',e1,o1,z1]=>#[v',H',I',r',hq v' H' #[A',e1,o1,z1]]
def mY {g:J5 W->aa->Ke (W×aa)}{f:FA}{Y:L2.St}{H:Hp}{A:J5 Kj}{Z:Fm}{S:aa}{w:W}{S':aa}(er:EnvRel X.K A H Z Y)(so:StoreOk X.w X.K A H S)(e:jW g f Z S=ba (w,S'))(Q:VK)(hq:∀v H',EndV X.w X.K A H S' w v H'->Q v H') :
  tA X f Y H λvs H1=>rCall X g vs H1 Q:=by
 unfold jW at e;split at e
 ·rename_i ws S1 h1;show#[A,Z,S,ws,S1,er,so,h1,λvs H1 #[A1,z1,z2,z3]=>#[A1,S1,ws,w,S',z2,z3,e,λv H' q=>hq v H' (q.after z1)]]
 ·cases e
def uD {id:L1}{x:KJ}{e:KP}{es:J5 KP}{p pos:Na}{f:FA}{g:J5 W->aa->Ke (W×aa)}(hc:LCall X (.builtin id) g)(hg:Gl X x)(hm:X.mg x=gV)(hv:bootBuiltins x=ba (.builtin id))(ha:GA X (e::es) f)
  (hn:x≠"__name__") (hdb:(x==("__debug__": KJ))=false) (hs:starEach (e::es) X.env=(false,eval e X.env)::starEach es X.env) (hpl:(backTo pos (starEach es X.env)).any (·.1)=false):GE X (.Call (.Name x p) (e::es) [] pos) (jW g f):=
 GE.of (ph hc.callr hg hm hv ha hn hdb hs hpl) λY H A Z S w S' er so e Q hq=>mY er so e Q hq
def ql {id:L1}{x:KJ}{e:KP}{es:J5 KP}{p pos:Na}{f:FA}{g:J5 W->aa->Ke (W×aa)}(hc:LCall X (.type id) g)(hg:Gl X x)(hm:X.mg x=gV)(hv:bootBuiltins x=ba (.type id))(ha:GA X (e::es) f)
  (hn:x≠"__name__") (hdb:(x==("__debug__": KJ))=false) (hs:starEach (e::es) X.env=(false,eval e X.env)::starEach es X.env) (hpl:(backTo pos (starEach es X.env)).any (·.1)=false):GE X (.Call (.Name x p) (e::es) [] pos) (jW g f):=
 GE.of (vE hc.callr hg hm hv ha hn hdb hs hpl) λY H A Z S w S' er so e Q hq=>mY er so e Q hq
end
abbrev tyOk (T:L1)(S:aa):W->KU
 |.str _=>T == "str"
 |.ref i=>(T == "list" && (gr S i).isSome)||(T == "dict" && (jS S i).isSome)
 |_=>false
abbrev FP (T:L1)(g:W->J5 W->aa->Ke (W×aa))(fo:FE)(f:FA):FE:=λZ S=>match fo Z S with
 |some (x,S1)=>if tyOk T S1 x then match f Z S1 with
  |some (ws,S2)=>g x ws S2
  |none=>gV
  else gV
 |none=>gV
abbrev Jg (fa fb:FE):FE:=BW n6 fa fb
noncomputable abbrev FO:=Fm->aa->Ke (Ke Ks×aa)
abbrev EK:FO:=λ_ S=>ba (gV,S)
abbrev uE (f:FE):FO:=λZ S=>match f Z S with
 |some (.int i,S1)=>ba (ba i,S1)
 |_=>gV
abbrev GR (fa:FE)(fl fh:FO):FE:=λZ S=>match fa Z S with
 |some (x,S1)=>match fl Z S1 with
  |some (lo,S2)=>match fh Z S2 with
   |some (hi,S3)=>mE x lo hi S3
   |none=>gV
  |none=>gV
 |none=>gV
section
variable{X:Cx}
inductive rMeth (X:Cx)(g:W->J5 W->aa->Ke (W×aa))(a:V)(vs:J5 V)(H:Hp)(Q:VK):Prop
 |mk (A:J5 Kj) (S:aa) (x:W) (ws:J5 W) (w:W) (S':aa) (so:StoreOk X.w X.K A H S) (rx:Rel X.K A H x a) (rl:RelL X.K A H ws vs) (e:g x ws S=ba (w,S')) (q:∀v H',EndV X.w X.K A H S' w v H'->Q v H'):rMeth X g a vs H Q
def tyOk.is {J:J5 (Kj×Mf)}{Y:L2.St}{s:Kc}{A:J5 Kj}{H:Hp}{S:aa}{T:L1}{x:W}{a:V}{v:J9}(I:Inv X J Y H s)(so:StoreOk X.w X.K A H S)(r:Rel X.K A H x a)(rv:RelV a v)(h:tyOk T S x=true) :
  s.TypeIs v T/\∀b,v=.ref b->∃ob,s.heap.get? b=ba ob/\ob.dict=gV:=by
 cases r with
 |str=>show xN I rv (show IX X.K T (.str _) H from eq_of_beq h)
 |ref ea=>
  simp only[tyOk,My,Kg]at h;rcases h with⟨h1,h2⟩|⟨h1,h2⟩
  ·obtain⟨xs,hx⟩:=Lx.mp h2;obtain⟨vs,h3,_⟩:=bh so hx ea;show xN I rv (show IX X.K T (.ref _) H from .inl #[eq_of_beq h1,vs,h3])
  ·obtain⟨U,hx⟩:=Lx.mp h2;obtain⟨xs,rd,_⟩:=gw so hx ea;obtain⟨_,_,_,o,es,ep,q1,q2,q3,q4⟩:=cm I rd;have e:=eq_of_beq h1;subst e;obtain rfl:v=Lc _:=rv;show#[#[o,q1,q2.1],λb e=>by cases e;show#[o,q1,q2.2.1]]
 |_=>cases h
def qm {o e:KP}{es:J5 KP}{name:KJ}{apos cpos:Na}{T id:L1}{g:W->J5 W->aa->Ke (W×aa)}{fo:FE}{f:FA}(pa:PlainAttrs T)(slot:Slot T name id)(hty:typeOf (.builtin id)=pure (.type "method_descriptor"))(hm:mF X id g)
  (ho:GE X o fo) (ha:GA X (e::es) f) (hbase:attributeBase o name X.env (eval o X.env)=eval o X.env)
  (hfew:((backTo cpos (starEach (e::es) X.env)).all (λx=>!x.1)&&(backToKw cpos (keywordEach [] X.env)).all (λx=>x.1.isSome)
   && decide ((e::es).length+([]:J5 Re).length+(if ([]:J5 Re).isEmpty then 0 else 1)<30))=true)
  (hline:(apos.endLine==cpos.line)=true) (hs:starEach (e::es) X.env=(false,eval e X.env)::starEach es X.env) (hplain:(backTo cpos (starEach es X.env)).any (·.1)=false) :
  GE X (.Call (.Attribute o name apos) (e::es) [] cpos) (FP T g fo f):=by
 intro J s Y H Q I ⟨A,Z,S,w,S',er,so,e,hq⟩;unfold FP at e;split at e
 ·rename_i x S1 h1;split at e
  ·rename_i ht;split at e
   ·rename_i ws S2 h2;show wpAny_Call_method_late hbase hfew hline rfl (bu (ho J s Y H (EndV X.w X.K A H S1 x) I #[A,Z,S,_,_,er,so,h1,λ_ _ z=>z]) λv s1 #[a,H1,I1,r1,A1,e1,o1,z1]=>?_)
    obtain⟨t1,t2⟩:=tyOk.is I1 o1 z1 r1 ht;show#[T,id,pa,slot,hty,t1,t2,?_];have hA:=ha cpos J s1 Y H1 (EndA X A1 H1 S2 ws) I1 #[A1,Z,S1,ws,S2,er.mono e1,o1,h2,λ_ _ z=>z]
    rw[hs]at hA ⊢;show Calls.callWith_builtin (by show(false||(backTo cpos (starEach es X.env)).any (·.1))=false;rw[hplain]<;>rfl) (Calls.evalArgs_plain ?_)
    show bu hA λus s2 #[vs,H2,I2,r2,A2,e2,o2,z2]=>?_
    show bu (hm J s2 Y H2 A2 S2 x a v ws vs us w S' I2 o2 (z1.mono e2) r1 z2 r2 e) λu' s' #[v',H',A',I',r',e3,o3,z3]=>?_
    show#[v',H',I',r',hq v' H' #[A',(e1.trans e2).trans e3,o3,z3]]
   ·cases e
  ·cases e
 ·cases e
def LIx.ixr {g:W->W->aa->Ke (W×aa)}(h:LIx X g):IxR X (rOp X g):=by
 intro value slice J s Y H a b u v Q I ru rv ⟨A,S,x,y,w,S',so,rx,ry,e,hq⟩ hs;show bu (h value slice J s Y H A S x y a b u v w S' I so rx ru ry rv e hs) λu' s' #[v',H',A',I',r',e1,o1,z1]=>#[v',H',I',r',hq v' H' #[A',e1,o1,z1]]
def GU {a b:KP}{pos:Na}{fa fb:FE}(hu:X.A.units+10<cLine)(ha:GE X a fa)(hb:GE X b fb)(hs:nN b):GE X (.Subscript a b pos) (Jg fa fb):=
 GE.of (Gw (Jd hu).ixr ha hb hs) λY H A Z S w S' er so e Q hq=>by
  obtain⟨x,S1,y,S2,h1,h2,h3⟩:=Il e;show i4 er so h1 h2 λa b H2 A2 e2 o2 r1 r2=>#[A2,S2,x,y,w,S',o2,r1,r2,h3,λv H' z=>hq v H' (z.after e2)]
inductive tO (X:Cx)(f:FO)(Y:L2.St)(H:Hp)(Q:Ke Ks->Hp->Prop):Prop
 |mk (A:J5 Kj) (Z:Fm) (S:aa) (k:Ke Ks) (S':aa) (er:EnvRel X.K A H Z Y) (so:StoreOk X.w X.K A H S) (e:f Z S=ba (k,S')) (q:∀H' A',Ext X.K A H A' H'->StoreOk X.w X.K A' H' S'->Q k H'):tO X f Y H Q
noncomputable abbrev GO (X:Cx)(e:Ke KP)(f:FO):Prop:=PO X e (tO X f)
def B7:GO X gV EK:=λJ s Y H Q I #[A,Z,S,k,S',er,so,e,hq]=>by
 cases e;show Bh J s Y H Q I (hq H A .refl so)
def B8 {e:KP}{f:FE}(h:GE X e f):GO X (ba e) (uE f):=λJ s Y H Q I #[A,Z,S,k,S',er,so,e,hq]=>by
 unfold uE at e;split at e
 ·rename_i i S1 h1;cases e;show Bj h J s Y H Q I #[A,Z,S,_,_,er,so,h1,λv H1 #[A1,z1,z2,z3]=>?_]
  cases z3;show#[i,rfl,hq H1 A1 z1 z2]
 ·cases e
inductive rSl (X:Cx)(g:W->Ke Ks->Ke Ks->aa->Ke (W×aa))(a:V)(lo hi:Ke Ks)(H:Hp)(Q:VK):Prop
 |mk (A:J5 Kj) (S:aa) (x w:W) (S':aa) (so:StoreOk X.w X.K A H S) (rx:Rel X.K A H x a) (e:g x lo hi S=ba (w,S')) (q:∀v H',EndV X.w X.K A H S' w v H'->Q v H'):rSl X g a lo hi H Q
def LSl.slr {g:W->Ke Ks->Ke Ks->aa->Ke (W×aa)}(h:LSl X g):Gv X (rSl X g):=by
 intro J s Y H a v vl vu lo hi sl Q I rv hs pl pu ⟨A,S,x,w,S',so,rx,e,hq⟩;obtain⟨T,id,h1,h2,h3⟩:=h J s Y H A S x a v vl vu lo hi sl w S' I so rx rv hs pl pu e;show#[T,id,h1,h2,bu h3 λu' s' #[v',H',A',I',r',e1,o1,z1]=>#[v',H',I',r',hq v' H' #[A',e1,o1,z1]]]
def GV {a:KP}{lo hi:Ke KP}{p2 pos:Na}{fa:FE}{fl fh:FO}(ha:GE X a fa)(hl:GO X lo fl)(hh:GO X hi fh):GE X (.Subscript a (.Slice lo hi gV p2) pos) (GR fa fl fh):=
 GE.of (xK JZ.slr ha hl hh) λY H A Z S w S' er so e Q hq=>by
  unfold GR at e;split at e
  ·rename_i x S1 h1;split at e
   ·rename_i l S2 h2;split at e
    ·rename_i h S3 h3;show#[A,Z,S,x,S1,er,so,h1,λv H1 #[A1,z1,z2,z3]=>?_]
     show#[A1,Z,S1,l,S2,er.mono z1,z2,h2,λH2 A2 y1 y2=>?_]
     show#[A2,Z,S2,h,S3,er.mono (z1.trans y1),y2,h3,λH3 A3 x1 x2=>?_]
     show#[A3,S3,x,w,S',x2,(z3.mono y1).mono x1,e,λv H' q=>hq v H' (q.after ((z1.trans y1).trans x1))]
    ·cases e
   ·cases e
  ·cases e
noncomputable abbrev FF:=J5 W->aa->Ke (W×aa)
inductive spF (wd:Ll)(K:Kr)(n:Kf)(g:FF)(vs:J5 V)(H:Hp)(Q:VK)(E:XK):Prop
 |mk (A:J5 Kj) (S:aa) (ws:J5 W) (w:W) (S':aa) (so:StoreOk wd K A H S) (rl:RelL K A H ws vs) (hl:↥ws=n) (e:g ws S=ba (w,S')) (q:∀v H',EndV wd K A H S' w v H'->Q v H'):spF wd K n g vs H Q E
abbrev qo (n:Kf)(g:FF)(f:FA):FE:=λZ S=>match f Z S with
 |some (ws,S1)=>if ↥ws=n then g ws S1 else gV
 |none=>gV
def qp {n:Kf}{g:FF}{f:FA}{Y:L2.St}{H:Hp}{A:J5 Kj}{Z:Fm}{S:aa}{w:W}{S':aa}{E:XK}(er:EnvRel X.K A H Z Y)(so:StoreOk X.w X.K A H S)(e:qo n g f Z S=ba (w,S'))(Q:VK)(hq:∀v H',EndV X.w X.K A H S' w v H'->Q v H') :
  xG (spF X.w X.K n g) [] E (tA X f) Y H Q:=by
 unfold qo at e;split at e
 ·rename_i ws S1 h1;split at e
  ·rename_i hl;show#[A,Z,S,ws,S1,er,so,h1,λvs H1 #[A1,z1,z2,z3]=>?_]
   change spF X.w X.K n g (vs++[]) H1 Q E;rw[Ml];show#[A1,S1,ws,w,S',z2,z3,hl,e,λv H' q=>hq v H' (q.after z1)]
  ·cases e
 ·cases e
def EM {k n:Kf}{fa:Kj}{fd:Nf}{ps:J5 KJ}{g:FF}{x:KJ}{e:KP}{es:J5 KP}{p pos:Na}{f:FA}(F:FnOk X.prog X.w X.K X.mg X.base xo k fa fd ps (spF X.w X.K n g))(hr:Room k X.A)(hg:Gl X x)(hm:X.mg x=ba (.ref fa))(hk:L8 X.K (.ref fa)=true)
  (hb:Binds X.K fd ps []) (ha:GA X (e::es) f) (hdb:(x==("__debug__": KJ))=false) (he:starEach (e::es) X.env=(false,eval e X.env)::starEach es X.env) (hpl:(backTo pos (starEach es X.env)).any (·.1)=false) :
  GE X (.Call (.Name x p) (e::es) [] pos) (qo n g f):=
 GE.of (Be F hr hg hm hk hb .nil Dg ha hdb he hpl) λY H A Z S w S' er so e Q hq=>qp er so e Q hq
def B9 {k n:Kf}{fa:Kj}{fd:Nf}{ps:J5 KJ}{g:FF}{x:KJ}{p pos:Na}(F:FnOk X.prog X.w X.K X.mg X.base xo k fa fd ps (spF X.w X.K n g))(hr:Room k X.A)(hg:Gl X x)(hm:X.mg x=ba (.ref fa))(hk:L8 X.K (.ref fa)=true)
  (hb:Binds X.K fd ps []) (hdb:(x==("__debug__": KJ))=false):GE X (.Call (.Name x p) [] [] pos) (qo n g i5):=
 GE.of (xI F hr hg hm hk hb .nil Dg hdb) λY H A Z S w S' er so e Q hq=>by
  obtain⟨A1,S1,ws,w1,S1',a1,a2,a3,a4,a5⟩:=qp (f:=i5) (E:=E0) er so e Q hq |> λ#[A,Z,S,ws,S',b1,b2,b3,b4]=>b4 [] H (by cases b3;show#[A,.refl,b2,.nil])
  show#[A1,S1,ws,w1,S1',a1,a2,a3,a4,a5]
def Cc:GSs X [] (λZ S=>ba (.nx Z,S)):=GSs.of AX λY H A Z S o S' er so e D hd=>by cases e;show hd.nx _ _ #[Z,A,rfl,.refl,so,er]
abbrev Cd (f g:FS):FS:=λZ S=>match f Z S with
 |some (.nx Z',S1)=>g Z' S1
 |some (.rt w,S1)=>ba (.rt w,S1)
 |some (.bk Z',S1)=>ba (.bk Z',S1)
 |some (.ct Z',S1)=>ba (.ct Z',S1)
 |none=>gV
def yY {st:NB}{sts:J5 NB}{f g:FS}(h:GS X st f)(h2:GSs X sts g):GSs X (st::sts) (Cd f g):=GSs.of (xA h h2) λY H A Z S o S' er so e D hd=>by
 unfold Cd at e;split at e
 ·rename_i Z1 S1 h1;show#[A,Z,S,_,_,er,so,h1,#[λY' H' #[Z',A',e1,e2,e3,e4]=>?_,λv H' #[w,A',e1,_,_,_]=>(by cases e1),λv H' #[w,A',e1,_,_,_]=>(by cases e1),λv H' #[w,A',e1,_,_,_]=>(by cases e1)]]
  cases e1;show#[A',_,S1,o,S',e4,e3,e,(EndS.after e2).trans hd]
 ·rename_i w S1 h1;cases e;show#[A,Z,S,_,_,er,so,h1,#[λY' H' #[w,A',e1,_,_,_]=>(by cases e1),hd.rt,hd.bk,hd.ct]]
 ·rename_i w S1 h1;cases e;show#[A,Z,S,_,_,er,so,h1,#[λY' H' #[w,A',e1,_,_,_]=>(by cases e1),hd.rt,hd.bk,hd.ct]]
 ·rename_i w S1 h1;cases e;show#[A,Z,S,_,_,er,so,h1,#[λY' H' #[w,A',e1,_,_,_]=>(by cases e1),hd.rt,hd.bk,hd.ct]]
 ·cases e
abbrev Ce (f:FE):FS:=λZ S=>match f Z S with
 |some (_,S1)=>ba (.nx Z,S1)
 |none=>gV
def GX {e:KP}{pos:Na}{f:FE}(h:GE X e f)(hs:swapsWith e gV pos.line X.env=pure false):GS X (.Expr e pos) (Ce f):=GS.of (AZ h hs) λY H A Z S o S' er so e D hd=>by
 unfold Ce at e;split at e
 ·rename_i w S1 h1;cases e;show#[A,Z,S,w,_,er,so,h1,λv H1 #[A1,z1,z2,z3]=>hd.nx _ _ #[Z,A1,rfl,z1,z2,er.mono z1]]
 ·cases e
abbrev yZ:FS:=λZ S=>ba (.nx Z,S)
def EN {x:KJ}{j:Kf}{pos pos':Na}:GS X (.Expr (.Constant (.str x) j pos) pos') yZ:=GS.of DS λY H A Z S o S' er so e D hd=>by cases e;show hd.nx _ _ #[Z,A,rfl,.refl,so,er]
def Cf {pos:Na}:GS X (.Pass pos) yZ:=GS.of AY λY H A Z S o S' er so e D hd=>by cases e;show hd.nx _ _ #[Z,A,rfl,.refl,so,er]
abbrev Cg (f:FE):FS:=λZ S=>match f Z S with
 |some (w,S1)=>ba (.rt w,S1)
 |none=>gV
def EO {e:KP}{pos:Na}{f:FE}(h:GE X e f):GS X (.Return (ba e) pos) (Cg f):=GS.of (DT h) λY H A Z S o S' er so e D hd=>by
 unfold Cg at e;split at e
 ·rename_i w S1 h1;cases e;show#[A,Z,S,w,_,er,so,h1,λv H1 #[A1,z1,z2,z3]=>hd.rt _ _ #[w,A1,rfl,z1,z2,z3]]
 ·cases e
abbrev Ch (c:FT)(f g:FS):FS:=λZ S=>match c Z S with
 |some (true,S1)=>f Z S1
 |some (false,S1)=>g Z S1
 |none=>gV
def GY {c:KP}{a b:J5 NB}{pos:Na}{fc:FT}{f g:FS}(hc:GT X c fc)(ha:GSs X a f)(hb:GSs X b g):GS X (.If c a b pos) (Ch fc f g):=GS.of (F6 hc ha hb) λY H A Z S o S' er so e D hd=>by
 unfold Ch at e;split at e
 ·rename_i S1 h1;show#[A,Z,S,_,S1,er,so,h1,λb H1 #[z0,A1,z1,z2]=>?_]
  subst z0;rw[KF rfl];show#[A1,Z,S1,o,S',er.mono z1,z2,e,(EndS.after z1).trans hd]
 ·rename_i S1 h1;show#[A,Z,S,_,S1,er,so,h1,λb H1 #[z0,A1,z1,z2]=>?_]
  subst z0;rw[KM KS];show#[A1,Z,S1,o,S',er.mono z1,z2,e,(EndS.after z1).trans hd]
 ·cases e
noncomputable abbrev FG:=W->Fm->aa->Ke (Fm×aa)
inductive tG (X:Cx)(f:FG)(v:V)(Y:L2.St)(H:Hp)(Q:L2.St->Hp->Prop):Prop
 |mk (A:J5 Kj) (Z:Fm) (S:aa) (w:W) (Z':Fm) (S':aa) (er:EnvRel X.K A H Z Y) (so:StoreOk X.w X.K A H S) (r:Rel X.K A H w v) (e:f w Z S=ba (Z',S')) (q:∀Y' H' A',Ext X.K A H A' H'->StoreOk X.w X.K A' H' S'->EnvRel X.K A' H' Z' Y'->Q Y' H'):tG X f v Y H Q
noncomputable abbrev GG (X:Cx)(tg:KP)(f:FG):Prop:=PG X tg (tG X f)
abbrev Dj (i:Kf):FG:=λw Z S=>ba (Z.set i (ba w),S)
def uF {i:Kf}{x:KJ}{pos:Na}(hN:X.N.Nodup)(hi:X.N[i]?=ba x)(hx:AU X.env.scope x)(hf:X.fn x=true\/X.env.scope.names.lookup x=ba .local):GG X (.Name x pos) (Dj i):=by
 intro J s Y H v u Q I r ⟨A,Z,S,w,Z',S',er,so,rw',e,hq⟩;cases e;show tF hN hi hx hf J s Y H v u Q I r (hq _ _ A .refl so (er.set rw' i))
abbrev dC:J5 Kf->J5 W->Fm->Ke Fm
 |[],[],Z=>ba Z
 |i::is,w::ws,Z=>dC is ws (Z.set i (ba w))
 |_,_,_=>gV
abbrev FQ (is:J5 Kf):FG:=λw Z S=>match w with
 |.tup ws=>(dC is ws Z).map λZ'=>(Z',S)
 |_=>gV
def wo:∀{ts:J5 KP}{is:J5 Kf},(∀x∈ts,∃y p,x=.Name y p)->Qj (λ(t:KP) (i:Kf)=>∃x p,t=Rf x p/\X.N[i]?=ba x/\AU X.env.scope x/\(X.fn x=true\/X.env.scope.names.lookup x=ba .local)) ts is->X.N.Nodup->
  Ga X ts (λvs Y H Q=>∃A Z ws Z' S,EnvRel X.K A H Z Y/\StoreOk X.w X.K A H S/\RelL X.K A H ws vs/\dC is ws Z=ba Z'/\∀Y',EnvRel X.K A H Z' Y'->Q Y' H):=by
 intro ts
 induction ts with
 |nil=>
  intro is _ h hN;cases h;intro J s Y H vs us Q I r ⟨A,Z,ws,Z',S,er,so,rl,e,hq⟩;cases rl with
  |nil=>cases e;show A6 J s Y H [] us Q I r #[rfl,hq _ er]
  |cons _ _=>cases e
 |cons t ts ih=>
  intro is hs h hN;cases h with
  |cons h1 h2=>
   obtain⟨x,p,rfl,hi,hl,hf⟩:=h1;have:=ih (λy hy=>hs y (LL _ hy)) h2 hN
   intro J s Y H vs us Q I r ⟨A,Z,ws,Z',S,er,so,rl,e,hq⟩;cases rl with
   |nil=>cases e
   |cons r1 r2=>
    show xB (tF hN hi hl hf) this rfl J s Y H _ us Q I r #[_,_,rfl,?_];show#[A,_,_,Z',S,er.set r1 _,so,r2,e,hq]
def EQ {ts:J5 KP}{is:J5 Kf}{k:Kf}{pos:Na}(hc:X.calm=true)(hs:∀x∈ts,∃y p,x=.Name y p)(h:Qj (λ(t:KP) (i:Kf)=>∃x p,t=Rf x p/\X.N[i]?=ba x/\AU X.env.scope x/\(X.fn x=true\/X.env.scope.names.lookup x=ba .local)) ts is)(hN:X.N.Nodup)
  (hn:(assignEach ts X.env).length=↥ts) (hst:(assignEach ts X.env).findIdx? (·.1)=gV):GG X (.Tuple ts k pos) (FQ is):=by
 intro J s Y H v u Q I r ⟨A,Z,S,w,Z',S',er,so,rw',e,hq⟩;unfold FQ at e;split at e
 ·rw[Kb]at e;obtain⟨Z1,e1,e2⟩:=e;cases e2;cases rw' with
  |tup h1 r1=>
   have hl:∀(is:J5 Kf) (ws:J5 W) (Z Z':Fm),dC is ws Z=ba Z'->↥is=↥ws:=by
    intro is
    induction is with
    |nil=>intro ws Z Z' e;cases ws<;>first|rfl|cases e
    |cons i is ih=>intro ws Z Z' e;cases ws<;>first|cases e|(simp;show ih _ _ _ e)
   show DX hc (wo hs h hN) hn hst J s Y H _ u Q I r #[_,_,rfl,h1,by rw[<- ↥r1,<- hl _ _ _ _ e1,<- P6 h],A,Z,_,_,_,er,so,r1,e1,λY' z=>hq _ _ A .refl so z]
 ·cases e
abbrev Ci (fo fi:FE):FG:=λw Z S=>match fo Z S with
 |some (o,S1)=>match fi Z S1 with
  |some (i,S2)=>match iW o i w S2 with
   |some S3=>ba (Z,S3)
   |none=>gV
  |none=>gV
 |none=>gV
inductive rSet (X:Cx)(g:W->W->W->aa->Ke aa)(ao ai av:V)(H:Hp)(Q:Hp->Prop):Prop
 |mk (A:J5 Kj) (S:aa) (o i w:W) (S':aa) (so:StoreOk X.w X.K A H S) (r1:Rel X.K A H o ao) (r2:Rel X.K A H i ai) (r3:Rel X.K A H w av) (e:g o i w S=ba S') (q:∀H' A',Ext X.K A H A' H'->StoreOk X.w X.K A' H' S'->Q H'):rSet X g ao ai av H Q
def LSet.pset {g:W->W->W->aa->Ke aa}(h:LSet X g):DW X (rSet X g):=by
 intro J s Y H ao ai av uo ui uv Q I ro ri rv ⟨A,S,o,i,w,S',so,r1,r2,r3,e,hq⟩;show bu (h J s Y H A S o i w ao ai av uo ui uv S' I so r1 ro r2 ri r3 rv e) λ_ s' #[H',A',I',e1,o1]=>#[H',I',hq H' A' e1 o1]
def ER {o i:KP}{pos:Na}{fo fi:FE}(hu:X.A.units+10<cLine)(ho:GE X o fo)(hi:GE X i fi)(ha:∀v,assign (.Subscript o i pos) X.env v=(do
   let ov <- holding [v] (eval o X.env)
   let iv <- holding [v,ov] (eval i X.env)
   standAt pos
   holding [v,ov,iv] (setItem ov iv v)
   release [v,ov,iv] [])):GG X (.Subscript o i pos) (Ci fo fi):=by
 intro J s Y H v u Q I r ⟨A,Z,S,w,Z',S',er,so,rw',e,hq⟩;unfold Ci at e;split at e
 ·rename_i o' S1 h1;split at e
  ·rename_i i' S2 h2;split at e
   ·rename_i S3 h3;cases e;show DY ho hi (GH hu).pset ha J s Y H v u Q I r ?_;show#[A,Z,S,o',S1,er,so,h1,λa H1 #[A1,e1,o1,r1]=>?_]
    show#[A1,Z,S1,i',S2,er.mono e1,o1,h2,λb H2 #[A2,e2,o2,r2]=>?_]
    show#[A2,S2,o',i',w,_,o2,r1.mono e2,r2,rw'.mono (e1.trans e2),h3,λH' A' z1 z2=>hq Y H' A' ((e1.trans e2).trans z1) z2 (er.mono ((e1.trans e2).trans z1))]
   ·cases e
  ·cases e
 ·cases e
abbrev lf (f:FE)(g:FG):FS:=λZ S=>match f Z S with
 |some (w,S1)=>match g w Z S1 with
  |some (Z',S2)=>ba (.nx Z',S2)
  |none=>gV
 |none=>gV
def sJ {tg e:KP}{pos:Na}{f:FE}{g:FG}(h:GE X e f)(hg:GG X tg g)(hs:swapsWithSole [tg] e pos.line X.env=pure false)(hw:swappedStores [tg] e X.env=pure gV)(h1:(assignEach [tg] X.env).map (·.2)=[assign tg X.env]) :
  GS X (.Assign [tg] e pos) (lf f g):=GS.of (DZ h hg hs hw h1) λY H A Z S o S' er so e D hd=>by
 unfold lf at e;split at e
 ·rename_i w S1 h1;split at e
  ·rename_i Z1 S2 h2;cases e;show#[A,Z,S,w,S1,er,so,h1,λv H1 #[A1,z1,z2,z3]=>?_]
   show#[A1,Z,S1,w,Z1,_,er.mono z1,z2,z3,h2,λY' H' A' y1 y2 y3=>hd.nx _ _ #[Z1,A',rfl,z1.trans y1,y2,y3]]
  ·cases e
 ·cases e
abbrev Cj (i j:Kf)(f:FA):FS:=λZ S=>match f Z S with
 |some ([x,y],S1)=>ba (.nx ((Z.set i (ba x)).set j (ba y)),S1)
 |_=>gV
def ES {i j:Kf}{x y:KJ}{a b:KP}{f:FA}{px py pt pos:Na}{kt k2:Kf}{pt2:Na}(hc:X.calm=true)(hN:X.N.Nodup)(hi:X.N[i]?=ba x)(hj:X.N[j]?=ba y)(hij:i≠j)
  (hx:X.env.scope.names.lookup x=ba .local) (hy:X.env.scope.names.lookup y=ba .local) (ha:GA X [a,b] f)
  (hw:swappedStores [.Tuple [.Name x px,.Name y py] kt pt] (.Tuple [a,b] k2 pt2) X.env=pure (ba [x,y]))
  (hs:swapsWithSole [.Tuple [.Name x px,.Name y py] kt pt] (.Tuple [a,b] k2 pt2) pos.line X.env=pure false) :
  GS X (.Assign [.Tuple [.Name x px,.Name y py] kt pt] (.Tuple [a,b] k2 pt2) pos) (Cj i j f):=GS.of (D0 hc hN hi hj hij hx hy ha hw hs) λY H A Z S o S' er so e D hd=>by
 unfold Cj at e;split at e
 ·rename_i x y S1 h1;cases e;show#[A,Z,S,_,_,er,so,h1,λvs H1 #[A1,z1,z2,z3]=>?_]
  cases z3 with
  |cons r1 t=>
   cases t with
   |cons r2 t=>
    cases t;show#[_,_,rfl,hd.nx _ _ #[_,A1,rfl,z1,z2,((er.mono z1).set r1 i).set r2 j]]
 ·cases e
abbrev oz (c:FT)(b:FS):Kf->FS
 |0,_,_=>gV
 |n+1,Z,S=>match c Z S with
  |some (true,S1)=>match b Z S1 with
   |some (.nx Z',S2)=>oz c b n Z' S2
   |some (.ct Z',S2)=>oz c b n Z' S2
   |some (.bk Z',S2)=>ba (.nx Z',S2)
   |some (.rt w,S2)=>ba (.rt w,S2)
   |none=>gV
  |some (false,S1)=>ba (.nx Z,S1)
  |none=>gV
def y4 {c:KP}{body:J5 NB}{pos:Na}{fc:FT}{fb:FS}(n:Kf)(hp:Rc (model X.prog X.w) X.A X.env X.xe)(hc:GT X c fc)(hb:GSs X body fb):GS X (.While c body [] pos) (oz fc fb n):=GS.of (xC hp hc hb) λY H A Z S o S' er so e D hd=>by
 show#[λm Y1 H1=>∃A1 Z1 S1,Ext X.K A H A1 H1/\EnvRel X.K A1 H1 Z1 Y1/\StoreOk X.w X.K A1 H1 S1/\oz fc fb m Z1 S1=ba (o,S'),#[n,A,Z,S,.refl,er,so,e],?_]
 rintro m Y1 H1 ⟨A1,Z1,S1,e1,er1,so1,w1⟩;cases m with
 |zero=>cases w1
 |succ m=>
  dsimp only[oz]at w1;split at w1
  ·rename_i S2 h1;show#[A1,Z1,S1,_,S2,er1,so1,h1,λb H2 #[z0,A2,z1,z2]=>?_]
   subst z0;rw[KF rfl];show#[λY3 H3=>∃A3 Z3 S3,Ext X.K A H A3 H3/\EnvRel X.K A3 H3 Z3 Y3/\StoreOk X.w X.K A3 H3 S3/\oz fc fb m Z3 S3=ba (o,S'),λY' H' h=>#[m,L0 _,h],?_]
   split at w1
   ·rename_i Z3 S3 h3;show#[A2,Z1,S2,_,S3,er1.mono z1,z2,h3,#[λY' H' #[Z',A',y0,y1,y2,y3]=>?_,λv H' #[w,A',y0,_,_,_]=>(by cases y0),λv H' #[w,A',y0,_,_,_]=>(by cases y0),λv H' #[w,A',y0,_,_,_]=>(by cases y0)]]
    cases y0;show#[A',_,S3,(e1.trans z1).trans y1,y3,y2,w1]
   ·rename_i Z3 S3 h3;show#[A2,Z1,S2,_,S3,er1.mono z1,z2,h3,#[λv H' #[w,A',y0,_,_,_]=>(by cases y0),λv H' #[w,A',y0,_,_,_]=>(by cases y0),λv H' #[w,A',y0,_,_,_]=>(by cases y0),λY' H' #[Z',A',y0,y1,y2,y3]=>?_]]
    cases y0;show#[A',_,S3,(e1.trans z1).trans y1,y3,y2,w1]
   ·rename_i Z3 S3 h3;cases w1;show#[A2,Z1,S2,_,_,er1.mono z1,z2,h3,#[λv H' #[w,A',y0,_,_,_]=>(by cases y0),λv H' #[w,A',y0,_,_,_]=>(by cases y0),λY' H' #[Z',A',y0,y1,y2,y3]=>?_,λv H' #[w,A',y0,_,_,_]=>(by cases y0)]]
    cases y0;show hd.nx _ _ #[_,A',rfl,(e1.trans z1).trans y1,y2,y3]
   ·rename_i w3 S3 h3;cases w1;show#[A2,Z1,S2,_,_,er1.mono z1,z2,h3,#[λv H' #[w,A',y0,_,_,_]=>(by cases y0),λv H' #[w,A',y0,y1,y2,y3]=>?_,λv H' #[w,A',y0,_,_,_]=>(by cases y0),λv H' #[w,A',y0,_,_,_]=>(by cases y0)]]
    cases y0;show hd.rt _ _ #[_,A',rfl,(e1.trans z1).trans y1,y2,y3]
   ·cases w1
  ·rename_i S2 h1;cases w1;show#[A1,Z1,S1,_,_,er1,so1,h1,λb H2 #[z0,A2,z1,z2]=>?_]
   subst z0;rw[KM KS];show hd.nx _ _ #[_,A2,rfl,e1.trans z1,z2,er1.mono z1]
  ·cases w1
end
inductive MI where
 |its (ws:J5 W)
 |live (r:Kf)
 |zl (r q:Kf)
abbrev l8 (xs ys:J5 W):J5 W:=KI (λx y=>.tup [x,y]) xs ys
abbrev MI.at (S:aa)(i:Kf):MI->Ke (Ke W)
 |.its ws=>ba ws[i]?
 |.live r=>match gr S r with
  |some xs=>ba xs[i]?
  |none=>gV
 |.zl r q=>match gr S r,gr S q with
  |some xs,ba ys=>ba (l8 xs ys)[i]?
  |_,_=>gV
abbrev MI.len (S:aa):MI->Ke Kf
 |.its ws=>ba ↥ws
 |.live r=>(gr S r).map (·.length)
 |.zl r q=>match gr S r,gr S q with
  |some xs,ba ys=>ba (l8 xs ys).length
  |_,_=>gV
noncomputable abbrev FI:=Fm->aa->Ke (MI×aa)
structure MIt (wd:Ll)(K:Kr)(mi:MI)(td:It)(A0:J5 Kj)(H0:Hp):Prop where
 go:∀A H S i w,Ext K A0 H0 A H->StoreOk wd K A H S->mi.at S i=ba (ba w)->td.go i H/\∀x H',td.yld i H x H'->Ext K A H A H'/\StoreOk wd K A H' S/\Rel K A H' w x
 stop:∀A H S i,Ext K A0 H0 A H->StoreOk wd K A H S->mi.at S i=ba gV->td.stop i H
inductive tI (X:Cx)(f:FI)(Y:L2.St)(H:Hp)(R:It->Hp->Prop):Prop
 |mk (A:J5 Kj) (Z:Fm) (S:aa) (mi:MI) (S':aa) (er:EnvRel X.K A H Z Y) (so:StoreOk X.w X.K A H S) (e:f Z S=ba (mi,S')) (q:∀td H' A',Ext X.K A H A' H'->StoreOk X.w X.K A' H' S'->MIt X.w X.K mi td A' H'->R td H'):tI X f Y H R
noncomputable abbrev GI (X:Cx)(tg iter:KP)(f:FI):Prop:=PI X tg iter (tI X f)
abbrev Ck (f:FE):FI:=λZ S=>match f Z S with
 |some (.tup ws,S1)=>ba (.its ws,S1)
 |some (.ref r,S1)=>match gr S1 r with
  |some _=>ba (.live r,S1)
  |none=>gV
 |_=>gV
abbrev cZ (lo:Ks)(n:Kf):J5 W:=(KH n).map λ(k:Kf)=>.int (lo+(k:Ks))
abbrev sK (f:FA):FI:=λZ S=>match f Z S with
 |some ([.int j],S1)=>if -(2^62)<=j/\j<2^62 then ba (.its (cZ 0 j.toNat),S1)else gV
 |_=>gV
abbrev iRng2 (f:FA):FI:=λZ S=>match f Z S with
 |some ([.int i,.int j],S1)=>if -(2^62)<=i/\i<2^62/\-(2^62)<=j/\j<2^62 then ba (.its (cZ i (j-i).toNat),S1)else gV
 |_=>gV
abbrev gA (mi:MI)(g:FG)(b:FS):Kf->Kf->FS
 |0,i,Z,S=>match mi.at S i with
  |some gV=>ba (.nx Z,S)
  |_=>gV
 |n+1,i,Z,S=>match mi.at S i with
  |some (ba w)=>match g w Z S with
   |some (Z1,S1)=>match b Z1 S1 with
    |some (.nx Z2,S2)=>gA mi g b n (i+1) Z2 S2
    |some (.ct Z2,S2)=>gA mi g b n (i+1) Z2 S2
    |some (.bk Z2,S2)=>ba (.nx Z2,S2)
    |some (.rt w,S2)=>ba (.rt w,S2)
    |none=>gV
   |none=>gV
  |_=>gV
abbrev y6 (fi:FI)(g:FG)(b:FS):FS:=λZ S=>match fi Z S with
 |some (mi,S1)=>match mi.len S1 with
  |some n=>gA mi g b n 0 Z S1
  |none=>gV
 |none=>gV
section
variable{X:Cx}
def Cm {A:J5 Kj}{H:Hp}{ws:J5 W}{a:Kj}{vs:J5 V}(h:SqT X.K H a vs)(r:RelL X.K A H ws vs):MIt X.w X.K (.its ws) (FJ X.K a) A H:=by
 show#[λA' H' S i w e so hi=>?_,λA' H' S i e so hi=>?_]
 ·simp only[MI.at,K4]at hi;obtain⟨v,h1,h2⟩:=(r.mono e).get hi;show#[#[vs,v,e.tp _ _ h,h1],λx H2 #[z1,z2]=>?_]
  subst z1;have:=z2 vs (e.tp _ _ h);rw[h1]at this;cases this
  show#[.refl,so,h2]
 ·simp only[MI.at,K4]at hi;show#[vs,e.tp _ _ h,?_];rw[<- ↥r];show Lz.mp hi
def Cn {A:J5 Kj}{H:Hp}{r:Kf}{a:Kj}(ea:A[r]?=ba a):MIt X.w X.K (.live r) (IG X.K a) A H:=by
 show#[λA' H' S i w e so hi=>?_,λA' H' S i e so hi=>?_]
 ·simp only[MI.at]at hi;split at hi
  ·rename_i xs hx;simp only[K4]at hi;obtain⟨vs,h1,r1⟩:=bh so hx (e.ad _ _ ea);obtain⟨v,h2,h3⟩:=r1.get hi;show#[#[vs,v,h1,h2],λx H2 #[z1,z2]=>?_]
   subst z1;have:=z2 vs h1;rw[h2]at this;cases this
   show#[.refl,so,h3]
  ·cases hi
 ·simp only[MI.at]at hi;split at hi
  ·rename_i xs hx;simp only[K4]at hi;obtain⟨vs,h1,r1⟩:=bh so hx (e.ad _ _ ea);show#[vs,h1,?_];rw[<- ↥r1];show Lz.mp hi
  ·cases hi
def d6 {lo:Ks}{n i:Kf}:(cZ lo n)[i]?=if i<n then ba (.int (lo+i))else gV:=by
 unfold cZ;rw[Kh]
 by_cases h:i<n
 ·rw[KF h,MM h];rfl
 ·rw[KM h,Lz.mpr (by simp;omega)];rfl
def uG {A:J5 Kj}{H:Hp}{lo:Ks}{n:Kf}:MIt X.w X.K (.its (cZ lo n)) (Ge lo n) A H:=by
 show#[λA' H' S i w e so hi=>?_,λA' H' S i e so hi=>?_]
 ·simp only[MI.at,K4]at hi;rw[d6]at hi;split at hi
  ·cases hi;show#[by assumption,λx H2 #[z1,z2]=>?_]
   subst z1 z2;show#[.refl,so,.int]
  ·cases hi
 ·simp only[MI.at,K4]at hi;rw[d6]at hi;split at hi
  ·cases hi
  ·change n<=i;omega
def qr {tg:KP}{J:J5 (Kj×Mf)}{Y:L2.St}{H1:Hp}{s1:Kc}{R:It->Hp->Prop}{a:Kj}{xs:J5 V}{v:J9}(I1:Inv X J Y H1 s1)(r1:RelV (.ref a) v)(hq:SqL X.K H1 a xs)(q:R (IG X.K a) H1) :
  wpAny (model X.prog X.w) X.A (pyIter v) (Gd X J Y tg R) X.xe s1:=by
 cases r1;obtain⟨its,rv,p,hz⟩:=I1.list hq;show N7 p.isList ?_;show#[⇑s1.heap.objs,[⇑s1.heap.objs],_,_,H1,rfl,I1.kept (t':=s1.toks) λb o e=>J8 _ e,vy a _,#[_,Ku _ rfl,rfl,rfl],λb hb=>?_,q]
 have e:b=⇑s1.heap.objs:=by simpa using hb
 subst e;show I1.fpOk (Ki _) (I1.hok.fresh (Ki _))
def sL {tg:KP}{J:J5 (Kj×Mf)}{Y:L2.St}{H1:Hp}{s1:Kc}{R:It->Hp->Prop}{a:Kj}{xs:J5 V}{v:J9}(I1:Inv X J Y H1 s1)(r1:RelV (.ref a) v)(hq:SqT X.K H1 a xs)(q:R (FJ X.K a) H1) :
  wpAny (model X.prog X.w) X.A (pyIter v) (Gd X J Y tg R) X.xe s1:=by
 cases r1;obtain⟨its,rv,p,hz⟩:=I1.tuple hq;show RG (show s1.heap.IsTuple a its.toArray from p) ?_
 show#[⇑s1.heap.objs,[⇑s1.heap.objs],_,_,H1,rfl,I1.kept (t':=s1.toks) λb o e=>J8 _ e,rN a _,#[_,Ku _ rfl,rfl,rfl],λb hb=>?_,q]
 have e:b=⇑s1.heap.objs:=by simpa using hb
 subst e;show I1.fpOk (Ki _) (I1.hok.fresh (Ki _))
def Co {tg a:KP}{f:FA}{p pos:Na}(hg:Gl X "range")(hm:X.mg "range" = gV)(ha:GA X [a] f)(hs:starEach [a] X.env=[(false,eval a X.env)]):GI X tg (.Call (.Name "range" p) [a] [] pos) (sK f):=by
 intro J s Y H R I ⟨A,Z,S,mi,S',er,so,e,hq⟩;unfold sK at e;split at e
 ·rename_i j S1 h1;split at e
  ·rename_i hj;cases e;show vz hg hm ha hs J s Y H R I #[A,Z,S,_,_,er,so,h1,λvs H1 #[A1,z1,z2,z3]=>?_]
   cases z3 with
   |cons r1 t=>
    cases t;cases r1;show#[j,rfl,hj.1,hj.2,hq _ _ A1 z1 z2 uG]
  ·cases e
 ·cases e
def Cp {tg a b:KP}{f:FA}{p pos:Na}(hg:Gl X "range")(hm:X.mg "range" = gV)(ha:GA X [a,b] f)(hs:starEach [a,b] X.env=[(false,eval a X.env),(false,eval b X.env)])(hs2:starEach [b] X.env=[(false,eval b X.env)]):GI X tg (.Call (.Name "range" p) [a,b] [] pos) (iRng2 f):=by
 intro J s Y H R I ⟨A,Z,S,mi,S',er,so,e,hq⟩;unfold iRng2 at e;split at e
 ·rename_i i j S1 h1;split at e
  ·rename_i hj;cases e;show vA hg hm ha hs hs2 J s Y H R I #[A,Z,S,_,_,er,so,h1,λvs H1 #[A1,z1,z2,z3]=>?_]
   cases z3 with
   |cons r1 t=>
    cases t with
    |cons r2 t=>
     cases t;cases r1;cases r2;show#[i,j,rfl,hj,hq _ _ A1 z1 z2 uG]
  ·cases e
 ·cases e
def ET {tg l:KP}{f:FE}(h:GE X l f):GI X tg l (Ck f):=by
 intro J s Y H R I ⟨A,Z,S,mi,S',er,so,e,hq⟩;unfold Ck at e;split at e
 ·rename_i ws S1 h1;cases e;show bu (h J s Y H (EndV X.w X.K A H _ (.tup ws)) I #[A,Z,S,_,_,er,so,h1,λ_ _ z=>z]) λv s1 #[x,H1,I1,r1,A1,e1,o1,z1]=>?_
  cases z1 with
  |tup hq1 rl=>
   show sL I1 r1 hq1 (hq _ _ A1 e1 o1 (Cm hq1 rl))
 ·rename_i r S1 h1;split at e
  ·rename_i ys hy;cases e;show bu (h J s Y H (EndV X.w X.K A H _ (.ref r)) I #[A,Z,S,_,_,er,so,h1,λ_ _ z=>z]) λv s1 #[x,H1,I1,r1,A1,e1,o1,z1]=>?_
   cases z1 with
   |ref ea=>
    obtain⟨vs,hl,_⟩:=bh o1 hy ea;show qr I1 r1 hl (hq _ _ A1 e1 o1 (Cn ea))
  ·cases e
 ·cases e
def EU {tg iter:KP}{body:J5 NB}{pos:Na}{fi:FI}{g:FG}{fb:FS}(hp:Rc (model X.prog X.w) X.A X.env X.xe)(hc:X.calm=true)(hi:GI X tg iter fi)(hg:GG X tg g)(hb:GSs X body fb)
  (hs:∀x,foldedSetIterable iter X.env x=pure x):GS X (.For tg iter body [] pos) (y6 fi g fb):=GS.of (D2 hp hc hi hg hb hs) λY H A Z S o S' er so e D hd=>by
 unfold y6 at e;split at e
 ·rename_i mi S1 h1;split at e
  ·rename_i n hn;show#[A,Z,S,mi,S1,er,so,h1,λtd H1 A1 z1 z2 mit=>?_]
   show#[λi m Y2 H2=>∃A2 Z2 S2,Ext X.K A1 H1 A2 H2/\EnvRel X.K A2 H2 Z2 Y2/\StoreOk X.w X.K A2 H2 S2/\gA mi g fb m i Z2 S2=ba (o,S'),#[n,A1,Z,S1,.refl,er.mono z1,z2,e],?_]
   rintro i m Y2 H2 ⟨A2,Z2,S2,e2,er2,so2,w2⟩;cases m with
   |zero=>
    dsimp only[gA]at w2;split at w2
    ·rename_i hs;cases w2;show .inl #[mit.stop A2 H2 _ i e2 so2 hs,hd.nx _ _ #[_,A2,rfl,z1.trans e2,so2,er2]]
    ·cases w2
   |succ m=>
    dsimp only[gA]at w2;split at w2
    ·rename_i w hw;obtain⟨go,yl⟩:=mit.go A2 H2 S2 i w e2 so2 hw;show .inr #[go,λY3 H3=>∃A3 Z3 S3,Ext X.K A1 H1 A3 H3/\EnvRel X.K A3 H3 Z3 Y3/\StoreOk X.w X.K A3 H3 S3/\gA mi g fb m (i+1) Z3 S3=ba (o,S'),λY' H' h=>#[m,L0 _,h],λx H3 hy=>?_]
     obtain⟨x1,x2,x3⟩:=yl x H3 hy;split at w2
     ·rename_i Z3 S3 h3;show#[A2,Z2,S2,w,Z3,S3,er2.mono x1,x2,x3,h3,λY4 H4 A4 y1 y2 y3=>?_]
      have ex:Ext X.K A1 H1 A4 H4:=(e2.trans x1).trans y1;split at w2
      ·rename_i Z5 S5 h5;show#[A4,Z3,S3,_,S5,y3,y2,h5,#[λY' H' #[Z',A',u0,u1,u2,u3]=>?_,λv H' #[w,A',y0,_,_,_]=>(by cases y0),λv H' #[w,A',y0,_,_,_]=>(by cases y0),λv H' #[w,A',y0,_,_,_]=>(by cases y0)]]
       cases u0;show#[A',_,S5,ex.trans u1,u3,u2,w2]
      ·rename_i Z5 S5 h5;show#[A4,Z3,S3,_,S5,y3,y2,h5,#[λv H' #[w,A',y0,_,_,_]=>(by cases y0),λv H' #[w,A',y0,_,_,_]=>(by cases y0),λv H' #[w,A',y0,_,_,_]=>(by cases y0),λY' H' #[Z',A',u0,u1,u2,u3]=>?_]]
       cases u0;show#[A',_,S5,ex.trans u1,u3,u2,w2]
      ·rename_i Z5 S5 h5;cases w2;show#[A4,Z3,S3,_,_,y3,y2,h5,#[λv H' #[w,A',y0,_,_,_]=>(by cases y0),λv H' #[w,A',y0,_,_,_]=>(by cases y0),λY' H' #[Z',A',u0,u1,u2,u3]=>?_,λv H' #[w,A',y0,_,_,_]=>(by cases y0)]]
       cases u0;show hd.nx _ _ #[_,A',rfl,(z1.trans ex).trans u1,u2,u3]
      ·rename_i w5 S5 h5;cases w2;show#[A4,Z3,S3,_,_,y3,y2,h5,#[λv H' #[w,A',y0,_,_,_]=>(by cases y0),λv H' #[w,A',u0,u1,u2,u3]=>?_,λv H' #[w,A',y0,_,_,_]=>(by cases y0),λv H' #[w,A',y0,_,_,_]=>(by cases y0)]]
       cases u0;show hd.rt _ _ #[_,A',rfl,(z1.trans ex).trans u1,u2,u3]
      ·cases w2
     ·cases w2
    ·cases w2
  ·cases e
 ·cases e
end
section
variable{prog:K9}{w:Ll}{B:Ld}{E:J9->Kc->Prop}{s:Kc}
def Cq {d:Kj}{es:KL M0}{ep:Kf}{Q:J9->Kc->Prop}(hd:(d==sysModules)=false)(hm:RawD d es ep s.heap)(hfit:(⇑es:Ks)<2^63)
  (h:Q (.int ⇑es (s.toks+1)) {s with toks:=s.toks+1+1}):wpAny (model prog w) B (call (.builtin "len") [.ref d]) Q E s:=by
 have hT:=hm.type;obtain⟨o,ho,hc,hdat⟩:=id hm;show Os kind_len plain_len entry_len (args_len1 _) ?_;unfold NE.«len»;show J6 (m:=oneArg "len" _) (Kd ?_);show J6 (m:=callSpecial? (.ref d) (Mx "__len__")) (LA (name:=Mx "__len__") hT F.slot_dict_len (LG F.slot_dict_len hT F.entry_dict_len ?_ (F.args_dict_len_1 _)));change wpAny _ _ (dictSize d >>= _) _ _ s;unfold dictSize;show J6 (J6 (OX ho hdat (Kd ?_)));change wpAny _ _ (TF d >>= _) _ _ s;show J6 (wpAny_pendingCount_other hd ?_);show wpAny_ret_mkInt ?_;rw[Uq];change wpAny _ _ _ _ _ {s with toks:=s.toks+1}
 show J6 (LK (Kd ?_));show J6 (Od ?_);change wpAny _ _ (if ((⇑es:Kf):Ks)<0 then _ else _) _ _ _
 rw[KM ∅]
 change wpAny _ _ (if ((⇑es:Kf):Ks)>=2^63 then _ else _) _ _ _
 rw[KM ∅]
 show J6 (SK (Kd #[_,rfl,h]))
end
section
variable{X:Cx}{J:J5 (Kj×Mf)}{Y:L2.St}{H:Hp}{s:Kc}{A:J5 Kj}{S:aa}
def sM:LCall X (.builtin "len") sn:=by
 intro J s Y H A S xs vs us w S' I so rl rv e
 by_cases hd:∃i U,xs=[.ref i]/\jS S i=ba U
 ·obtain⟨i,U,rfl,hk⟩:=hd
  (dsimp only[sn]at e;simp only[hk]at e)
  cases e;cases rl with
  |cons r t=>
   cases t;cases rv with
   |cons ru rv2=>
    cases rv2;cases r with
    |ref ea=>
     obtain⟨xs,rd,kr⟩:=gw so hk ea;have d:=cm I rd;obtain⟨es,ep,raw,he⟩:=d.raw;obtain rfl:_=Lc _:=ru;have hl:⇑es=↥xs:=by rw[<- Km,he,J7]
     have hz:=d.1;have hs:sizeLine=16777216:=Lp;show Cq d.2.1 raw ∅ #[.int ↥U,H,A,I.tok _,#[_,by rw[↥kr,hl]],.refl,so,.int]
 ·have:sn xs S=rZ xs S:=by
   unfold sn;split
   ·rename_i i;split
    ·rename_i U hk;show absurd #[i,U,rfl,hk] hd
    ·rfl
   ·rfl
  rw[this]at e;show vO J s Y H A S xs vs us w S' I so rl rv e
abbrev Im (S:aa):W->Ke L1
 |.non=>ba "NoneType"|.bl _=>ba "bool"|.int _=>ba "int"|.str _=>ba "str"|.tup _=>ba "tuple"
 |.ref i=>match gr S i with
  |some _=>ba "list"
  |none=>(jS S i).map λ_=>"dict"
abbrev qt:J5 L1:=["bool","int","str","tuple","list","dict"]
abbrev wp (S:aa)(x:W)(c:L1):Ke KU:=match Im S x with
 |some t=>if qt.contains c then ba (t==c||(t == "bool" && c == "int"))else gV
 |none=>gV
def iB {K:Kr}{t c:L1}(ht:t∈["NoneType","bool","int","str","tuple","list","dict"])(hc:c∈qt):PySem.W.kitOne K (.type t) (.type c)=ba (t==c||(t == "bool" && c == "int")):=by
 simp only[qt,KD,Li,Mo]at ht hc;rcases ht with rfl|rfl|rfl|rfl|rfl|rfl|rfl<;>rcases hc with rfl|rfl|rfl|rfl|rfl|rfl<;>rfl
def y8:CallR X (.builtin "isinstance") (λvs H Q=>∃A S x v c b,vs=[v,.ty c]/\StoreOk X.w X.K A H S/\Rel X.K A H x v/\wp S x c=ba b/\Q (.bl b) H):=by
 intro J s Y H vs us Q I rv ⟨A,S,x,v,c,b,e1,so,rx,e2,hq⟩;subst e1;cases rv with
 |cons r1 rv2=>cases rv2 with
  |cons r2 rv3=>
   cases rv3;obtain rfl:_=Mq c:=r2;unfold wp at e2;split at e2
   ·rename_i t ht;split at e2
    ·rename_i hc;cases e2;have hc':c∈qt:=by simpa using hc
     have fin:∀tk,EP X J Y Q (.bool (t==c||(t == "bool" && c == "int"))) {s with toks:=tk}:=λtk=>#[.bl _,H,I.tok _,rfl,hq]
     cases rx with
     |non=>cases ht;cases(show _=Ls from r1);show Np PySem.W.kitx_none I.kIn O3 (iB (by simp) hc') (λz=>nomatch z) fin
     |bl=>cases ht;cases(show _=Oa _ from r1);show Np PySem.W.kitx_bool I.kIn O3 (iB (by simp) hc') (λz=>nomatch z) fin
     |int=>cases ht;obtain⟨t',q⟩:=(show ∃t,_=Qd _ t from r1);cases q;show Np PySem.W.kitx_int I.kIn O3 (iB (by simp) hc') (λz=>nomatch z) fin
     |str=>cases ht;obtain⟨t',q⟩:=(show ∃t,_=O0 _ t from r1);cases q;show Np PySem.W.kitx_str I.kIn O3 (iB (by simp) hc') (λz=>nomatch z) fin
     |tup h1 r1'=>
      cases ht;obtain⟨its,rv,⟨o,q1,q2,_⟩,hz⟩:=I.tuple h1;cases(show _=Lc _ from r1)
      show Np PySem.W.kitx_tuple I.kIn #[o,q1,q2] (iB (by simp) hc') (λz=>nomatch z) fin
     |ref ea=>
      cases(show _=Lc _ from r1)
      dsimp only[Im]at ht;split at ht
      ·rename_i ws hw;cases ht;obtain⟨vs,h1,_⟩:=bh so hw ea;obtain⟨its,rv,p,hz⟩:=I.list h1;obtain⟨o,q1,q2,_⟩:=p.isList;show Np PySem.W.kitx_list I.kIn #[o,q1,q2] (iB (by simp) hc') (λz=>nomatch z) fin
      ·rw[Kb]at ht;obtain⟨U,hk,rfl⟩:=ht;obtain⟨xs,rd,kr⟩:=gw so hk ea;obtain⟨es,ep,⟨o,q1,q2,_⟩,he⟩:=(cm I rd).raw;show Np PySem.W.kitx_dict I.kIn #[o,q1,q2.1] (iB (by simp) hc') (λz=>nomatch z) fin
    ·cases e2
   ·cases e2
abbrev y9 (c:L1)(f:FE):FE:=λZ S=>match f Z S with
 |some (x,S1)=>(wp S1 x c).map λb=>(.bl b,S1)
 |none=>gV
def EV {cn:KJ}{c:L1}{e:KP}{p p2 pos:Na}{f:FE}(hg:Gl X "isinstance")(hm:X.mg "isinstance" = gV)(hg2:Gl X cn)(hm2:X.mg cn=gV)(hv2:bootBuiltins cn=ba (.type c))(hn2:cn≠"__name__")(hd2:(cn==("__debug__": KJ))=false)
  (he:GE X e f) (hs:starEach [e,.Name cn p2] X.env=(false,eval e X.env)::starEach [.Name cn p2] X.env):GE X (.Call (.Name "isinstance" p) [e,.Name cn p2] [] pos) (y9 c f):=
 GE.of (ph (y8) hg hm rfl (nK he (nK (AV (v:=.ty c) hg2 hm2 hv2 rfl hn2 hd2) xE) hs) #v[] #v[] hs rfl) λY H A Z S w S' er so e Q hq=>by
  unfold y9 at e;split at e
  ·rename_i x1 S1 h1;rw[Kb]at e;obtain⟨b,e1,e2⟩:=e;cases e2;show#[A,Z,S,x1,_,er,so,h1,λv H1 #[A1,z1,z2,z3]=>#[A1,_,x1,v,c,b,rfl,z2,z3,e1,hq _ _ #[A1,z1,z2,.bl]]]
  ·cases e
end
abbrev dD:J5 (T×W)->J5 W->Ke (J5 (T×W))
 |U,[]=>ba U
 |U,k::v::ws=>match gZ k with
  |some t=>dD (d0 U t v) ws
  |none=>gV
 |_,[_]=>gV
abbrev Dk:FE:=λ_ S=>ba (.ref ↥S,S++[.dic []])
abbrev qu (f:FA):FE:=λZ S=>match f Z (S++[.dic []])with
 |some (ws,S1)=>match S1[↥S]? with
  |some (.dic [])=>match dD [] ws with
   |some U=>ba (.ref ↥S,S1.set ↥S (.dic U))
   |none=>gV
  |_=>gV
 |none=>gV
section
variable (K:Kr) (A:J5 Kj) (H:Hp)
inductive RelP:J5 W->J5 (V×V)->Prop
 |nil:RelP [] []
 |cons {k v:W}{a b:V}{ws:J5 W}{ps:J5 (V×V)}:Rel K A H k a->Rel K A H v b->RelP ws ps->RelP (k::v::ws) ((a,b)::ps)
end
def RelP.mono {K:Kr}{A A':J5 Kj}{H H':Hp}(e:Ext K A H A' H'){ws:J5 W}{ps:J5 (V×V)}(h:RelP K A H ws ps):RelP K A' H' ws ps:=by
 induction h with
 |nil=>show .nil
 |cons a b c ih=>show .cons (a.mono e) (b.mono e) ih
section
variable{X:Cx}{J:J5 (Kj×Mf)}{Y:L2.St}{H:Hp}{s:Kc}{A:J5 Kj}{S:aa}
abbrev Jh (X:Cx)(A:J5 Kj)(H:Hp)(S':aa)(ws:J5 W):J5 (V×V)->Hp->Prop:=λps H'=>∃A',Ext X.K A H A' H'/\StoreOk X.w X.K A' H' S'/\RelP X.K A' H' ws ps
abbrev GZ (X:Cx)(pos:Na)(keys:J5 (Ke KP))(values:J5 KP)(f:FA):Prop:=
 ∀(J:J5 (Kj×Mf)) (s:Kc) (Y:L2.St) (H:Hp) (A:J5 Kj) (Z:Fm) (S:aa) (ws:J5 W) (S':aa),Inv X J Y H s->EnvRel X.K A H Z Y->StoreOk X.w X.K A H S->f Z S=ba (ws,S')->
  wpAny (model X.prog X.w) X.A (evalPairs (pairTrees keys values X.env pos)) (λvs s'=>∃ps H',Inv X J Y H' s'/\VV ps vs/\Jh X A H S' ws ps H') X.xe s
def Cr {pos:Na}:GZ X pos [] [] i5:=λJ s Y H A Z S ws S' I er so e=>by
 cases e;show pairTrees_nil_walk #[[],H,I,.nil,A,.refl,so,.nil]
def zd {pos:Na}{k v:KP}{ks:J5 (Ke KP)}{vs:J5 KP}{fk fv:FE}{f:FA}(hk:GE X k fk)(hv:GE X v fv)(hr:GZ X pos ks vs f):GZ X pos (ba k::ks) (v::vs) (dE fk (dE fv f)):=λJ s Y H A Z S ws S' I er so e=>by
 unfold dE at e;split at e
 ·rename_i w1 S1 h1;split at e
  ·rename_i w2 S2 h2;cases e;split at h2
   ·rename_i w3 S3 h3;split at h2
    ·rename_i w4 S4 h4;cases h2;show pairTrees_cons_walk (bu (hk J s Y H (EndV X.w X.K A H S1 w1) I #[A,Z,S,_,_,er,so,h1,λ_ _ z=>z]) λu s1 #[x,H1,I1,r1,A1,e1,o1,z1]=>
      bu (hv J s1 Y H1 (EndV X.w X.K A1 H1 S3 w3) I1 #[A1,Z,S1,_,_,er.mono e1,o1,h3,λ_ _ z=>z]) λu2 s2 #[x2,H2,I2,r2,A2,e2,o2,z2]=>
      bu (hr J s2 Y H2 A2 Z S3 _ _ I2 (er.mono (e1.trans e2)) o2 h4) λvs' s3 #[ps,H3,I3,rel,A3,e3,o3,z3]=>?_)
     show#[(x,x2)::ps,H3,I3,.cons #[r1,r2] rel,A3,e1.trans (e2.trans e3),o3,.cons (z1.mono (e2.trans e3)) (z2.mono e3) z3]
    ·cases h2
   ·cases h2
  ·cases e
 ·cases e
def mZ {r:Kf}{d:Kj}{E:J9->Kc->Prop}(hu:X.A.units+10<cLine):∀(vs:J5 (J9×J9)) (ps:J5 (V×V)) (ws:J5 W) (U U':J5 (T×W)) (s:Kc) (H:Hp) (S:aa) (Q:PUnit->Kc->Prop),
  Inv X J Y H s->StoreOk X.w X.K A H S->n0 S r=ba U->A[r]?=ba d->RelP X.K A H ws ps->VV ps vs->dD U ws=ba U'->↥U+↥vs<=30->
  (∀s' H',Inv X J Y H' s'->Ext X.K A H A H'->StoreOk X.w X.K A H' (S.set r (.dic U'))->Q RB s')->
  wpAny (model X.prog X.w) X.A (forIn vs RB λ(x:J9×J9) (_:PUnit)=>(do dictSet d x.1 x.2;pure (Mz RB):UC (ForInStep PUnit))) Q E s
 |[],_,_,U,U',s,H,S,Q,I,so,hr,ea,rp,vv,e,hl,hq=>by
  cases vv;cases rp;cases e;rw[QZ];show Kd (hq s H I .refl ?_);have hS:=iV hr;have:S.set r (.dic U)=S:=by
   apply P3;intro j;rw[MK];split
   ·rename_i e;subst e
    split
    ·show hS.symm
    ·rename_i h;show absurd (Kq.mp hS).1 h
   ·rfl
  rw[this];show so
 |(ku,vu)::vs,_,_,U,U',s,H,S,Q,I,so,hr,ea,rp,vv,e,hl,hq=>by
  cases vv with
  |cons hv vv2=>
   cases rp with
   |@cons wk wv va vb ws2 ps2 rk rv' rp2=>
    dsimp only[dD]at e;split at e
    ·rename_i t ht;rw[Pd];obtain⟨xs,hH,kr⟩:=t4 so hr ea;have dd0:=cm I (.inl hH);have dd:=dd0.dict I kr;obtain⟨bk,e1,e2,rkk⟩:=iU ht rk hv.1;have e2:ku=Lc bk:=e2;subst e2;obtain⟨q1,q2,q3⟩:=dP ht;rw[KZ]at hl;have hz:↥xs<=sizeLine:=dd0.1;show J6 (J6 (wpAny_dictSet_heap (hsz:=hz) (show X.A.units+az<cLine by unfold az;omega) (jt I rkk q3) dd λh' dd' hs=>Kd ?_))
     have kr':=kr.put q2 q3 rkk rv' hv.2;have hz':(storedH xs t bk vu).length<=sizeLine:=by
      rw[<- ↥kr'];have h2:=cD U t wv;rw[Lp];omega
     have dn:DicAt X.w d (storedH xs t bk vu) h':=.of hz' dd0.2.1 dd';obtain⟨so',ex⟩:=so.writeO (iV hr) rfl ea (u:=dY X.w d (storedH xs t bk vu)) (n:=.dic (d0 U t wv)) #[_,aJ,kr'.mono (ci (.ext hH))];have I':Inv X J Y (bx H d (dY X.w d (storedH xs t bk vu))) {s with heap:=h',toks:=s.toks+(aV X.prog X.w).draws t}:=nR I (by rw[hH];show O3) hs (let ⟨q,_,_,hq,_⟩:=dd';#[q,hq]) dn.ok
     have hl':(S.set r (.dic (d0 U t wv)))[r]?=ba (.dic (d0 U t wv)):=by
      rw[MK,KF rfl,KF (Kq.mp (iV hr)).1]
     show mZ hu vs _ _ (d0 U t wv) U' _ _ _ Q I' so' (by unfold n0;rw[hl']) ea (rp2.mono ex) vv2 e (by have:=cD U t wv;omega) λs' H' I2 ex2 so2=>?_
     rw[List.set_set]at so2;show hq s' H' I2 (ex.trans ex2) so2
    ·cases e
def Cs {pos:Na}:GE X (.Dict [] [] pos) Dk:=λJ s Y H Q I #[A,Z,S,w,S',er,so,e,hq]=>by
 cases e;have hn:=I.hok.fresh (Ki ⇑s.heap.objs);have dn:DicAt X.w ⇑s.heap.objs [] (s.heap.push {cls:=.type "dict",data:=.dict #[]}):=#[LC _,Pg.mpr (Ne.symm (KO I.big)),PM,_,#[],0,Ku _ rfl,#[rfl,rfl,rfl],rfl,rfl];show wpAny_Dict_empty #[.ref ⇑s.heap.objs,_,I.laid (a:=⇑s.heap.objs) (o:=dY X.w ⇑s.heap.objs []) (t':=s.toks) (λ_ _ q=>J8 _ q) (Ki _) dn.ok,rfl,hq _ _ #[A++[⇑s.heap.objs],cJ hn,so.pushO hn #[[],aJ,.nil],.ref ?_]]
 rw[<- so.len];simp
def Ct {pos:Na}{keys:J5 (Ke KP)}{values:J5 KP}{f:FA}(hu:X.A.units+10<cLine)(h:GZ X pos keys values f)(hall:keys.all (·.isSome)=true)(hl:↥keys=↥values)(h0:keys≠[])(h15:↥keys<=15):GE X (.Dict keys values pos) (qu f):=by
 intro J s Y H Q I ⟨A,Z,S,w,S',er,so,e,hq⟩;unfold qu at e;split at e
 ·rename_i ws S1 h1;split at e
  ·rename_i hS1;split at e
   ·rename_i U hp;cases e;have hn:=I.hok.fresh (Ki ⇑s.heap.objs);have dn:DicAt X.w ⇑s.heap.objs [] (s.heap.push {cls:=.type "dict",data:=.dict #[]}):=#[LC _,Pg.mpr (Ne.symm (KO I.big)),PM,_,#[],0,Ku _ rfl,#[rfl,rfl,rfl],rfl,rfl];have I1:=I.laid (a:=⇑s.heap.objs) (o:=dY X.w ⇑s.heap.objs []) (h':=s.heap.push {cls:=.type "dict",data:=.dict #[]}) (t':=s.toks) (λ_ _ q=>J8 _ q) (Ki _) dn.ok
    have ex0:Ext X.K A H (A++[⇑s.heap.objs]) (bx H ⇑s.heap.objs (dY X.w ⇑s.heap.objs [])):=cJ hn;have so0:StoreOk X.w X.K (A++[⇑s.heap.objs]) (bx H ⇑s.heap.objs (dY X.w ⇑s.heap.objs [])) (S++[.dic []]):=so.pushO hn #[[],aJ,.nil];have hlen:=pairTrees_length keys values X.env pos hall hl;have hne:pairTrees keys values X.env pos≠[]:=λhe=>by
     rw[he]at hlen;show h0 (LI.mp hlen.symm)
    rw[arm_eval_Dict,zip_pairTrees keys values X.env pos hall hl,dictDisplay_pairs _ hne ∅]
    show J6 (O6 (J6 ?_));unfold subDict;show J6 (Uz ?_);show J6 (LK ?_);rw[KF ∅]
    show J6 (MB (wpAny_evalPairs_len (h J _ Y _ _ Z _ _ _ I1 (er.mono ex0) so0 h1)) (λvs s₁ h₁=>?_) λ_ _ e=>e)
    obtain⟨hvl,ps,H2,I2,vv,A2,ex2,so2,rp⟩:=h₁;show LK ?_;have ea:A2[↥S]?=ba ⇑s.heap.objs:=ex2.ad _ _ (by rw[<- so.len];simp)
    show J6 (mZ hu vs ps ws [] U s₁ H2 S1 _ I2 so2 (by unfold n0;rw[hS1]) ea rp vv hp (by rw[MO];omega) λs' H' I3 ex3 so3=>?_)
    show Kd (Kd (Kd #[.ref ⇑s.heap.objs,H',I3,rfl,hq _ _ #[A2,ex0.trans (ex2.trans ex3),so3,.ref ea]]))
   ·cases e
  ·cases e
 ·cases e
end
abbrev JL (wd:Ll)(a:Kj)(o:Mf)(xs:J5 (T×Kj×J9)):It:=
 #[λi H=>H a=ba (.frz o (dY wd a xs))/\i<↥xs,λi H x H'=>H'=H/\∃q,xs[i]?=ba q/\x=.ref q.2.1,λi H=>H a=ba (.frz o (dY wd a xs))/\↥xs<=i]
def wq {P:K9}{w:Ll}{K:Kr}{tg:KP}(a it:Kj){o:Mf}{es:KL M0}{ep:Kf}{xs:J5 (T×Kj×J9)}(hx:o.ExactDict)(hd:o.data=.dict es ep)(he:es.toList=xs.map (xS w)) :
  Turn P w K tg (JL w a o xs) [it] it (λi h=>h.IsKeyIter it a i ⇑es ep) where
 mem:=by simp
 obj:=λi h st b hb=>by
  have e:b=it:=by simpa using hb
  subst e;obtain⟨o,e,c,d⟩:=st;show#[o,e,λv z=>by rw[d]at z;cases z]
 keep:=λi h h' st k=>st.at λo e=>k it (by simp) o e
 item:=by
  intro X hP hw hK hc i J s Y H E I hf st hg;subst hP hw hK;obtain⟨hH,hi⟩:=hg;have ho:s.heap.get? a=ba o:=(show ObjOk X.prog X.w H s.heap a (.frz o (dY X.w a xs))from I.hok a _ hH).1
  have hl:⇑es=↥xs:=by rw[<- Km,he,J7]
  have hi':i<⇑es:=∅
  obtain⟨f0,f1,f2,f3,f4,f5⟩:=hf it (by simp)
  have hk:es[i].key=.ref (xs[i]).2.1:=by
   have:es.toList[i]?=ba (xS X.w xs[i]):=by rw[he,Kh,Kl hi];rfl
   rw[LJ,Lh hi']at this;have:=LB this;rw[this];rfl
  show pV st #[o,ho,hx,hd] hi' λh' st' sb=>?_
  have I1:Inv X J Y H {s with heap:=h'}:=I.turned (t':=s.toks) (λb o hb e=>(sb.2 b hb).trans e) f0 f1 f3 f4 f5
  obtain⟨o',e,c,d⟩:=id st';show#[_,rfl,tH (s:={s with heap:=h'}) e c d #v[] #[.ref (xs[i]).2.1,H,I1,hk,#[rfl,xs[i],Kl hi,rfl],st',λb hb=>(hf b hb).1]]
 done:=by
  intro X hP hw hK hc i J s Y H E I hf st hg;subst hP hw hK;obtain⟨hH,hi⟩:=hg;have ho:s.heap.get? a=ba o:=(show ObjOk X.prog X.w H s.heap a (.frz o (dY X.w a xs))from I.hok a _ hH).1
  have hl:⇑es=↥xs:=by rw[<- Km,he,J7]
  obtain⟨f0,f1,f2,f3,f4,f5⟩:=hf it (by simp)
  show t9 (I.ok.hd hc) st #[o,ho,hx,hd] ∅ λh' eb=>#[rfl,I.turned (t':=s.toks) (λb o hb e=>eb b o hb e) f0 f1 f3 f4 f5]
 self:=λ_ _ _ _ _ st h=>QV st h
abbrev ft (f:FE):FI:=λZ S=>match f Z S with
 |some (.tup ws,S1)=>ba (.its ws,S1)
 |some (.ref r,S1)=>match gr S1 r with
  |some _=>ba (.live r,S1)
  |none=>match jS S1 r with
   |some U=>ba (.its (U.map λp=>p.1.w),S1.set r (.frd U))
   |none=>gV
 |_=>gV
section
variable{X:Cx}{J:J5 (Kj×Mf)}{Y:L2.St}{H:Hp}{s:Kc}{A:J5 Kj}{S:aa}
def ze {a:Kj}{o:Mf}{U:J5 (T×W)}{xs:J5 (T×Kj×J9)}(hH:H a=ba (.frz o (dY X.w a xs)))(kr:KRel X.K A H U xs):MIt X.w X.K (.its (U.map λp=>p.1.w)) (JL X.w a o xs) A H:=by
 show#[λA' H' S i w e so hi=>?_,λA' H' S i e so hi=>?_]
 ·simp only[MI.at,K4]at hi;obtain⟨v,h1,h2⟩:=((kr.mono e).keysL).get hi;rw[Kh,Kb]at h1;obtain⟨q,q1,q2⟩:=h1;show#[#[e.fz _ _ _ hH,(Kq.mp q1).1],λx H2 #[z1,q',z2,z3]=>?_]
  subst z1 z3;rw[q1]at z2;cases z2
  show#[.refl,so,by rw[q2];show h2]
 ·simp only[MI.at,K4]at hi;show#[e.fz _ _ _ hH,?_];have:=Lz.mp hi;rw[J7,↥kr]at this;show this
def Cu {tg l:KP}{f:FE}(h:GE X l f):GI X tg l (ft f):=by
 intro J s Y H R I ⟨A,Z,S,mi,S',er,so,e,hq⟩
 by_cases hd:∃r S1 U,f Z S=ba (.ref r,S1)/\gr S1 r=gV/\jS S1 r=ba U
 ·obtain⟨r,S1,U,h1,h2,h3⟩:=hd;simp only[ft,h1,h2,h3]at e;cases e;show bu (h J s Y H (EndV X.w X.K A H S1 (.ref r)) I #[A,Z,S,_,_,er,so,h1,λ_ _ z=>z]) λv s1 #[x,H1,I1,r1,A1,e1,o1,z1]=>?_
  cases z1 with
  |@ref _ a ea=>
   obtain rfl:v=Lc a:=r1;have fz:∃o xs H2,Inv X J Y H2 s1/\Ext X.K A1 H1 A1 H2/\StoreOk X.w X.K A1 H2 (S1.set r (.frd U))/\H2 a=ba (.frz o (dY X.w a xs))/\KRel X.K A1 H2 U xs:=by
    unfold jS at h3;split at h3
    ·rename_i k hk;cases h3;obtain⟨xs,hH,kr⟩:=o1.obj r _ a hk ea;have d:=cm I1 (.inl hH);obtain⟨_,_,_,o,es,ep,q1,q2,q3,q4⟩:=id d;obtain⟨so',ex⟩:=o1.writeO hk rfl ea (u:=.frz o (dY X.w a xs)) (n:=.frd U) #[o,xs,aJ,kr.mono (ci (.ext hH))];show#[o,xs,_,nR (h':=s1.heap) (t':=s1.toks) (ob:=.frz o (dY X.w a xs)) I1 (by rw[hH];show O3) (R0 _ _) #[o,q1] #[q1,d.ok],ex,so',aJ,kr.mono ex]
    ·rename_i k hk;cases h3;obtain⟨o,xs,hH,kr⟩:=o1.obj r _ a hk ea;have:S1.set r (.frd U)=S1:=by
      apply P3;intro j;rw[MK];split
      ·rename_i e;subst e
       split
       ·show hk.symm
       ·rename_i h;show absurd (Kq.mp hk).1 h
      ·rfl
     rw[this];show#[o,xs,H1,I1,.refl,o1,hH,kr]
    ·cases h3
   obtain⟨o,xs,H2,I2,ex,so2,hH,kr⟩:=fz;have d:=cm I2 (.inr #[o,hH]);have ho:s1.heap.get? a=ba o:=(show ObjOk X.prog X.w H2 s1.heap a (.frz o (dY X.w a xs))from I2.hok a _ hH).1
   obtain⟨_,hsm,_,o',es,ep,q1,q2,q3,q4⟩:=id d;rw[ho]at q1;cases q1;show pU hsm #[o,ho,q2,q3] ?_;show#[⇑s1.heap.objs,[⇑s1.heap.objs],_,_,H2,rfl,I2.kept (t':=s1.toks) λb o e=>J8 _ e,wq a _ q2 q3 q4,#[_,Ku _ rfl,rfl,rfl],λb hb=>?_,hq _ _ A1 (e1.trans ex) so2 (ze hH kr)]
   have e:b=⇑s1.heap.objs:=by simpa using hb
   subst e;show I2.fpOk (Ki _) (I2.hok.fresh (Ki _))
 ·have:ft f Z S=Ck f Z S:=by
   unfold ft Ck;cases hf:f Z S with
   |none=>rfl
   |some p=>
    obtain⟨w,S1⟩:=p;cases w with
    |ref r=>
     cases h2:gr S1 r with
     |some _=>revert h2
     |none=>
      cases h3:jS S1 r with
      |none=>revert h2 h3
      |some U=>show absurd #[r,S1,U,hf,h2,h3] hd
    |_=>rfl
  rw[this]at e;show ET h J s Y H R I #[A,Z,S,mi,S',er,so,e,hq]
end
abbrev bz (mi:MI)(g:FG)(c:FT)(f:FE):Kf->Kf->Fm->aa->Ke (J5 W×aa)
 |0,i,_,S=>match mi.at S i with
  |some gV=>ba ([],S)
  |_=>gV
 |n+1,i,Z,S=>match mi.at S i with
  |some (ba w)=>match g w Z S with
   |some (Z1,S1)=>match c Z1 S1 with
    |some (true,S2)=>match f Z1 S2 with
     |some (y,S3)=>match bz mi g c f n (i+1) Z1 S3 with
      |some (ys,S4)=>ba (y::ys,S4)
      |none=>gV
     |none=>gV
    |some (false,S2)=>bz mi g c f n (i+1) Z1 S2
    |none=>gV
   |none=>gV
  |_=>gV
abbrev eW (cap:J5 (Ke Kf))(Z:Fm):Fm:=cap.map λo=>match o with
 |some j=>(Z[j]?).join
 |none=>gV
abbrev lg (fi:FI)(g:FG)(c:FT)(f:FE)(cap:J5 (Ke Kf)):FE:=λZ S=>match fi Z S with
 |some (mi,S1)=>match mi.len S1 with
  |some n=>match bz mi g c f n 0 (eW cap Z) S1 with
   |some (ys,S2)=>lZ S2 ys
   |none=>gV
  |none=>gV
 |none=>gV
abbrev Dl:FT:=λ_ S=>ba (true,S)
abbrev lX (X:Cx)(scope:N5)(cl:J5 (KJ×Kj))(C:Kj)(N:J5 KJ)(s0:Kc)(H0:Hp)(ex:J5 Kj):Cx:=
 {X with env:=compEnvC scope cl C X.env,N:=N,s₀:=s0,H₀:=H0,outer:=X.stack,stack:=X.stack,ex:=ex,fn:=λ_=>false,pn:=[],xe:=λ_ _=>LV}
structure CompOk (X:Cx)(scope:N5)(cl:J5 (KJ×Kj))(N:J5 KJ)(cap:J5 (Ke Kf)):Prop where
 clos:closureFor scope X.env=pure cl
 kind:scope.kind=.function
 names:∀y∈scope.names,y.2=.local->scope.names.lookup y.1=ba .local
 nocell:∀y∈scope.names,y.2≠.cell
 sub:∀x c,cl.lookup x=ba c->X.env.cells.lookup x=ba c
 has:∀x,((relabel scope X.env).names.lookup x=ba .cell\/(relabel scope X.env).names.lookup x=ba .free)->∃c,cl.lookup x=ba c
 len:↥cap=↥N
 cap:∀(i j:Kf) (x:KJ),cap[i]?=ba (ba j)->N[i]?=ba x->X.N[j]?=ba x/\(X.env.kindOf x=ba .cell\/X.env.kindOf x=ba .free)/\((relabel scope X.env).names.lookup x=ba .cell\/(relabel scope X.env).names.lookup x=ba .free)
def hW {prog:K9}{w:Ll}{A:Ld}{R:Sh->Kc->Prop}{s:Kc}{elt target iter:KP}{ifs:J5 KP}{scope:N5}{pos:Na}{it acc:J9}{env:RK}(I:Kf->Kc->Prop)
    (turn:∀n s,I n s->wpAny (model prog w) A (pyNext it) (λr s₁=>match r with
      |none=>R (.ok .next) s₁
      |some v=>wpAny (model prog w) A (letOwnedTupleGo target it v) (λ_ s₁=>wpAny (model prog w) A (assign target env v) (λ_ s₂=>
          wpAny (model prog w) A (forIn ifs true λc r=>if r=true then do let ok <- isTrue c env (eval c env);pure (Mz ok)else pure (Mz r)) (λok s₃=>
            if ok=true then wpAny (model prog w) A (eval elt env) (λx s₄=>
              wpAny (model prog w) A (call (.builtin "list.append") [acc,x]) (λ_ s₅=>∃m,m<n/\I m s₅) (λ_ _=>LV) s₄) (λ_ _=>LV) s₃
            else ∃m,m<n/\I m s₃) (λ_ _=>LV) s₂) (λ_ _=>LV) s₁) (λ_ _=>LV) s₁) (λ_ _=>LV) s)
    (n:Kf) (h:I n s) :
    codeAny (model prog w) A (.compLoop (.ListComp elt [#[target,iter,ifs,0]] scope pos) 0 it acc env) R s:=by
  show codeAny_loop rfl I (λn s hI=>?_) n h
  change wpAny _ A ((compTurn (.ListComp elt [#[target,iter,ifs,0]] scope pos) 0 it acc env).onRaise (λx=>do noteFrame x env;theTreesLotGoes x)) _ _ s
  show wpAny_noted ?_;rw[compTurn_list];show J6 (O6 (J6 (MB (turn n s hI) (λr s₁ h₁=>?_) λ_ _ h'=>h'.elim)))
  cases r with
  |none=>show Kd h₁
  |some v=>
    show J6 (MB h₁ (λ_ s₁ h₁=>?_) λ_ _ h'=>h'.elim)
    show J6 (MB h₁ (λ_ s₂ h₂=>J6 (MB h₂ (λok s₃ h₃=>?_) λ_ _ h'=>h'.elim)) λ_ _ h'=>h'.elim)
    cases ok with
    |false=>show Kd #[rfl,h₃]
    |true=>
      show J6 (J6 (MB h₃ (λx s₄ h₄=>J6 (MB h₄ (λ_ s₅ h₅=>Kd (Kd #[rfl,h₅])) λ_ _ h'=>h'.elim)) λ_ _ h'=>h'.elim))
section
variable{X:Cx}{J:J5 (Kj×Mf)}{Y:L2.St}{H:Hp}{s:Kc}
def Inv.adopt {D:Kj}{o:HO}(I:Inv X J Y H s)(hn:H D=gV)(h1:D∈X.ex\/⇑X.s₀.heap.objs<=D)(hL:D≠X.env.locals)(h2:∀x c,X.env.cells.lookup x=ba c->c≠D)(h3:∀p∈X.pn++J,p.1≠D)
  (new:ObjOk X.prog X.w (bx H D o) s.heap D o):Inv X J Y (bx H D o) s:=by
 have nit:∀b u,H b=ba u->b≠D:=λb u e z=>by rw[z,hn]at e;cases e
 have key:Inv X J Y (bx H D o) {s with heap:=s.heap,gens:=s.gens,drawn:=s.drawn,toks:=s.toks}:=by
  show I.step (g':=s.gens) (d':=s.drawn) (t':=s.toks) (h':=s.heap) (ch:=[D]) (λb hb=>?_) (λb o _ _ hc e _=>e) (λb o _ _ hc e _=>#[o.slots,e]) (λb o hc e n=>?_)
   (λb o hc e=>#[o,e]) (λb xs e=>?_) (λb o xs e=>?_) (λb ps e=>#[#[],?_]) (λm hm=>hm) (λb u e=>?_) I.bare
  ·have e:b=D:=by simpa using hb
   subst e;show#[h1,hL,h2,h3]
  ·rw[aC (λz=>hc (by simp[z]))];show n
  ·rw[aC (nit b _ e)];show e
  ·rw[aC (nit b _ e)];show e
  ·rw[aC (nit b _ e),e];simp
  ·by_cases hb:b=D
   ·subst hb;rw[aJ]at e;cases e;show new
   ·rw[aC hb]at e;show(I.hok b u e).stay (λc v hc q=>q) (λc q=>?_) λc xs q=>?_
    ·rw[aC (nit c _ q)];show q
    ·rw[aC (nit c _ q)];show q
 show key
def EW {scope:N5}{cl:J5 (KJ×Kj)}{N:J5 KJ}{cap:J5 (Ke Kf)}{C:Kj}{s0:Kc}{ex:J5 Kj}(I:Inv X J Y H s)(ck:CompOk X scope cl N cap)(hs:⇑s.heap.objs<=s0.heap.objs.size)(hC:s0.heap.objs.size<=C)
  (hk:∀b o,s.heap.get? b=ba o->s0.heap.get? b=ba o) (hex:∀b∈ex,(b≠C)/\(∀x c,X.env.cells.lookup x=ba c->c≠b)/\(∀o,X.base.get? b≠ba o)/\b∉rM X.stack) :
  (lX X scope cl C N s0 H ex).Ok where
 mod:=I.ok.mod
 kind:=ck.kind
 glob:=I.ok.glob
 blt:=I.ok.blt
 above:=hC
 inj:=λx y c h1 h2=>I.ok.inj x y c (ck.sub x c h1) (ck.sub y c h2)
 has:=λx h=>ck.has x h
 cab:=λx c h=>by cases h
 hd:=I.ok.hd
 frames:=I.ok.frames
 stk:=.inl rfl
 exf:=λb hb=>#[(hex b hb).1,λx c h=>(hex b hb).2.1 x c (ck.sub x c h)]
 bs:=λb o e=>#[hk b o (I.bk b o e),(I.bs b o e).2]
 bsz:=KW (KW I.ok.bsz I.sz) hs
 noex:=λb o e hb=>(hex b hb).2.2.1 o e
 exfs:=λb hb=>(hex b hb).2.2.2
 funs:=I.stack.of_keeps λb o e _=>#[o,hk b o e,rfl]
 frf:=I.stkFree
structure BlockOk (X:Cx)(scope:N5)(cl:J5 (KJ×Kj))(N:J5 KJ)(tg elt:KP)(ifs:J5 KP)(g:FG)(c:FT)(f:FE):Prop where
 tgt:∀C s0 H0 ex,GG (lX X scope cl C N s0 H0 ex) tg g
 tst:∀C s0 H0 ex J s Y H Q,Inv (lX X scope cl C N s0 H0 ex) J Y H s->tT (lX X scope cl C N s0 H0 ex) c Y H Q->
  wpAny (model X.prog X.w) X.A (forIn ifs true λc r=>if r=true then do let ok <- isTrue c (compEnvC scope cl C X.env) (eval c (compEnvC scope cl C X.env));pure (Mz ok)else pure (Mz r)) (TP (lX X scope cl C N s0 H0 ex) J Y Q) (λ_ _=>LV) s
 elt:∀C s0 H0 ex,GE (lX X scope cl C N s0 H0 ex) elt f
def oA {prog:K9}{w:Ll}{B:Ld}{s:Kc}{E:J9->Kc->Prop}{Q:J9->Kc->Prop}{D:Kj}{its:J5 J9}{n:Kf}{u:J9}(e:s.heap.get? D=ba {cls:=.type "list",data:=.seq its.toArray n})(hz:↥its<sizeLine)
  (h:∀h' n',h'.get? D=ba {cls:=.type "list",data:=.seq (its++[u]).toArray n'}->(∀b o,b≠D->s.heap.get? b=ba o->h'.get? b=ba o)->Q .none {s with heap:=h'}) :
  wpAny (model prog w) B (call (.builtin "list.append") [.ref D,u]) Q E s:=by
 show Pw F.slot_list_append #[_,e,rfl] F.entry_list_append (F.args_list_append_2 _ _) (RV D its.toArray n u (by rw[Ky];omega)) #[e,?_]
 have q:=Sl e (λa=>a.push u)
 have e2:its.toArray.push u=(its++[u]).toArray:=by simp
 rw[e2]at q;show h _ _ q (λb o hb ho=>(Lr s.heap (L4 λa=>a.push u) (Ne.symm hb)).trans ho)
def nh {scope:N5}{cl:J5 (KJ×Kj)}{N:J5 KJ}{cap:J5 (Ke Kf)}{tg elt iter:KP}{ifs:J5 KP}{g:FG}{c:FT}{f:FE}{pos:Na}{A:J5 Kj}{Z:Fm}{S S':aa}{mi:MI}{n:Kf}{ws:J5 W}{E:J9->Kc->Prop}
  {it:Kj}{fp:J5 Kj}{tn:Kf->Lq->Prop}{td:It}{RR:J9->Kj->Sh->Kc->Prop}
  (I:Inv X J Y H s) (hc:X.calm=true) (er:EnvRel X.K A H Z Y) (so:StoreOk X.w X.K A H S) (ck:CompOk X scope cl N cap) (bk:BlockOk X scope cl N tg elt ifs g c f)
  (T:Turn X.prog X.w X.K tg td fp it tn) (t0:tn 0 s.heap) (hfp:∀b∈fp,ip X J H b) (mit:MIt X.w X.K mi td A H) (e:bz mi g c f n 0 (eW cap Z) S=ba (ws,S')) (hz:↥ws<=sizeLine)
  (fin:∀D C s' H' A' vs m,s'.heap.Ns C m->H' D=gV->D≠C->C≠X.env.locals->C∉X.fs->H' C=gV->⇑X.s₀.heap.objs<=C->(∀x c,X.env.cells.lookup x=ba c->c≠C)->(∀p∈X.pn++J,p.1≠C)->
   Inv X J Y (bx H' D (.lst vs)) s'->Ext X.K A H A' H'->StoreOk X.w X.K A' H' S'->RelL X.K A' H' ws vs->RR (.ref D) C (.ok .next) s') :
  wpAny (model X.prog X.w) X.A (newList []) (λacc s₃=>wpAny (model X.prog X.w) X.A (newFunctionEnv scope X.env.globals cl [] X.env.qual gV .none (ba X.env)) (λcenv s₄=>
   codeAny (model X.prog X.w) X.A (.compStart (.ListComp elt [#[tg,iter,ifs,0]] scope pos) 0 (.ref it) acc {cenv with scope:=relabel scope X.env}) (RR acc cenv.locals) s₄) E s₃) E s:=by
 show Ln (wpAny_newFunctionEnv ck.nocell (by intro y hy;simp at hy) (λh₁ hns₁ hsb₁=>?_) ck.kind)
 dsimp only at hns₁ hsb₁ ⊢;generalize hH2:s.heap.push {cls:=.type "list",dict:=gV,data:=.seq ([]:J5 J9).toArray}=h2 at hns₁ hsb₁ ⊢;have hCs:⇑h2.objs=⇑s.heap.objs+1:=by rw[<- hH2,Mj]
 have k2:∀b o,s.heap.get? b=ba o->h2.get? b=ba o:=λb o z=>hH2▸J8 _ z
 have lt2:∀b o,h2.get? b=ba o->b<⇑h2.objs:=λb o z=>KC z
 have k1:∀b o,h2.get? b=ba o->h₁.get? b=ba o:=λb o z=>hsb₁.extBut b o (KO (lt2 b o z)) (J8 _ z)
 have hD2:h2.get? ⇑s.heap.objs=ba {cls:=.type "list",data:=.seq ([]:J5 J9).toArray}:=hH2▸Ku _ rfl;have hDC:⇑s.heap.objs≠⇑h2.objs:=by rw[hCs];omega
 have fresh:∀a,⇑s.heap.objs<=a->H a=gV:=λa ha=>I.hok.fresh ha
 have cellLt:∀x c,X.env.cells.lookup x=ba c->c<⇑s.heap.objs:=λx c z=>let ⟨_,q⟩:=I.cell x c z;q.lt
 have fpLt:∀b∈fp,b<⇑s.heap.objs:=λb hb=>let ⟨_,q,_⟩:=T.obj 0 s.heap t0 b hb;KC q
 have stkLt:∀b∈rM X.stack,b<⇑s.heap.objs:=λb hb=>let ⟨_,o,q,_⟩:=I.stack.mem hb;KC q
 have baseLt:∀b o,X.base.get? b=ba o->b<⇑s.heap.objs:=λb o z=>KC (I.bk b o z)
 have fpStk:∀b∈fp,b∉rM X.stack:=λb hb z=>by
  rcases KD.mp (I.stkSub b z)with q|q
  ·show(hfp b hb).2.1 q
  ·show(hfp b hb).2.2.1 q
 have fpBase:∀b∈fp,∀o,X.base.get? b≠ba o:=λb hb o z=>by
  rcases(hfp b hb).2.2.2.1 with q|q
  ·show I.ok.noex b o z q
  ·show absurd (KR (KC (I.ok.bs b o z).1) q) (LR _)
 have ltC:∀{b:Kj},b<⇑s.heap.objs->b≠⇑h2.objs:=λhb=>by rw[hCs];show KO (Nt hb)
 let s3:Kc:={s with heap:=h2}
 have ok':(lX X scope cl ⇑h2.objs N s3 H (fp++[⇑s.heap.objs])).Ok:=by
  show EW I ck (show ⇑s.heap.objs<=⇑h2.objs by rw[hCs];omega) (Ki _) k2 λb hb=>?_
  rcases La.mp hb with hb|hb
  ·show#[ltC (fpLt b hb),(hfp b hb).2.2.2.2.1,fpBase b hb,fpStk b hb]
  ·have eb:b=⇑s.heap.objs:=by simpa using hb
   subst eb;show#[hDC,λx c z=>KO (cellLt x c z),λo z=>LR _ (baseLt _ o z),λz=>LR _ (stkLt _ z)]
 obtain⟨m0,hn0,hl0⟩:=I.loc;have I0:Inv (lX X scope cl ⇑h2.objs N s3 H (fp++[⇑s.heap.objs])) [] (cap.map λo=>match o with|some j=>(Y[j]?).join|none=>gV) H {s3 with heap:=h₁,toks:=s3.toks+([]:J5 (KJ×J9)).length}:=by
  show#[ok',rfl,I.bare,Un.kept k1,#[_,hns₁,λi x v e1 e2 e3=>?_],λx cc z=>?_,fresh _ (show ⇑s.heap.objs<=⇑h2.objs by rw[hCs];show Nr _),λx cc z=>I.freeC x cc (ck.sub x cc z),λp hp=>absurd hp (by simp[lX]),(I.hok.kept k2).kept k1,by rw[J7];show ck.len]
  ·rw[Kh]at e2;cases q:cap[i]? with
   |none=>rw[q]at e2;cases e2
   |some oj=>
    rw[q]at e2;cases oj with
    |none=>cases e2
    |some j=>
     obtain⟨z1,z2,z3⟩:=ck.cap i j x q e1;have e2':(Y[j]?).join=ba v:=by simpa using e2
     have e2'':Y[j]?=ba (ba v):=by
      cases r:Y[j]? with
      |none=>rw[r]at e2';cases e2'
      |some y=>rw[r]at e2';show congrArg ba e2'
     obtain⟨u,ru,lk⟩:=hl0 j x v z1 e2'' (by
      rcases z2 with z|z
      ·show .inr (.inl z)
      ·show .inr (.inr z))
     show#[u,ru,?_];rcases lk with⟨zk,_⟩|⟨_,cc,zc,zi⟩
     ·rcases z2 with z|z<;>(rw[zk]at z;cases z)
     ·obtain⟨c2,hc2⟩:=ck.has x z3;have:=ck.sub x c2 hc2;rw[zc]at this;cases this
      show .inr #[z3,cc,hc2,?_];obtain⟨o,ho,hd⟩:=zi;show#[o,k1 _ _ (k2 _ _ ho),hd]
  ·obtain⟨v,o,ho,hd⟩:=I.cell x cc (ck.sub x cc z);show#[v,o,k1 _ _ (k2 _ _ ho),hd]
 have er0:EnvRel X.K A H (eW cap Z) (cap.map λo=>match o with|some j=>(Y[j]?).join|none=>gV):=by
  show#[by simp[eW],λi w q=>?_]
  unfold eW at q;rw[Kh]at q ⊢;cases r:cap[i]? with
  |none=>rw[r]at q;cases q
  |some oj=>
   rw[r]at q;cases oj with
   |none=>cases q
   |some j=>
    have q':(Z[j]?).join=ba w:=by simpa using q
    have q'':Z[j]?=ba (ba w):=by
     cases z:Z[j]? with
     |none=>rw[z]at q';cases q'
     |some y=>rw[z]at q';show congrArg ba q'
    obtain⟨v,z1,z2⟩:=er.2 j w q'';show#[v,by simp[z1],z2]
 have t1:tn 0 h₁:=T.keep 0 s.heap h₁ t0 λb hb o z=>k1 b o (k2 b o z)
 have fpOk':∀{H':Hp}{pp:J5 (Kj×Mf)},(∀b∈fp,H' b=gV)->(∀p∈pp,p.1=⇑s.heap.objs)->∀b∈fp,ip (lX X scope cl ⇑h2.objs N s3 H (fp++[⇑s.heap.objs])) pp H' b:=λhn hp b hb=>
  #[hn b hb,ltC (fpLt b hb),fpStk b hb,.inl (LN _ hb),λx cc z=>(hfp b hb).2.2.2.2.1 x cc (ck.sub x cc z),λp hpp=>by
   rw[hp p (by simpa [lX]using hpp)]
   show(KO (fpLt b hb)).symm]
 have DinEx:⇑s.heap.objs∈fp++[⇑s.heap.objs]:=K6 _ (by simp)
 have cellD:∀x c,cl.lookup x=ba c->c≠⇑s.heap.objs:=λx cc z=>KO (cellLt x cc (ck.sub x cc z))
 have fpD:∀b∈fp,b≠⇑s.heap.objs:=λb hb=>KO (fpLt b hb)
 have theEnd:∀s' Y' H' A' vs its nn,Inv (lX X scope cl ⇑h2.objs N s3 H (fp++[⇑s.heap.objs])) [] Y' H' s'->s'.heap.get? ⇑s.heap.objs=ba {cls:=.type "list",data:=.seq its nn}->∀(hits:∃l:J5 J9,its=l.toArray/\Vals vs l),H' ⇑s.heap.objs=gV->Ext X.K A H A' H'->StoreOk X.w X.K A' H' S'->RelL X.K A' H' ws vs->
   RR (.ref ⇑s.heap.objs) ⇑h2.objs (.ok .next) s':=by
  intro s' Y' H' A' vs its nn I' hD hits hDn ex so' rl;obtain⟨l,rfl,rv⟩:=hits;obtain⟨m,hn,_⟩:=id I'.loc;have un:Un (rM X.stack) (fp++[⇑s.heap.objs]) H H' s.heap s'.heap:=(Un.kept k2).trans I'.base;have hch:∀b∈fp++[⇑s.heap.objs],(b∈X.ex\/⇑X.s₀.heap.objs<=b)/\b≠X.env.locals/\(∀x c,X.env.cells.lookup x=ba c->c≠b)/\∀p∈X.pn++J,p.1≠b:=λb hb=>by
   rcases La.mp hb with hb|hb
   ·show#[(hfp b hb).2.2.2.1,(hfp b hb).2.1,(hfp b hb).2.2.2.2.1,(hfp b hb).2.2.2.2.2]
   ·have eb:b=⇑s.heap.objs:=by simpa using hb
    subst eb;show#[.inr I.sz,(KO I.lt).symm,λx cc z=>KO (cellLt x cc z),λp hp=>KO (KC (I.pin p hp).1)]
  have I2:Inv X J Y H' s':=I.call' (show s'.os=s.os from I'.os) un I'.hok I'.bare hch
  have I3:Inv X J Y (bx H' ⇑s.heap.objs (.lst vs)) s':=Inv.adopt I2 hDn (hch _ DinEx).1 (hch _ DinEx).2.1 (hch _ DinEx).2.2.1 (hch _ DinEx).2.2.2 #[by rw[<- ↥rl];show hz,l,nn,rv,hD]
  have hCle:⇑s.heap.objs<=⇑h2.objs:=by rw[hCs];show Nr _
  show fin _ _ s' H' A' vs m hn hDn hDC (Mb (KR I.lt hCle)) (I.nofs hCle) I'.free (KW I.sz hCle) (λx cc z=>KO (KR (cellLt x cc z) hCle))
   (λp hp=>KO (KR (KC (I.pin p hp).1) hCle)) I3 ex so' rl
 have loop:∀s4:Kc,s4={s3 with heap:=h₁,toks:=s3.toks+([]:J5 (KJ×J9)).length}->
   codeAny (model X.prog X.w) X.A (.compLoop (.ListComp elt [#[tg,iter,ifs,0]] scope pos) 0 (.ref it) (.ref ⇑s.heap.objs) (compEnvC scope cl ⇑h2.objs X.env)) (RR (.ref ⇑s.heap.objs) ⇑h2.objs) s4:=by
  rintro s4 rfl;show hW (λk s5=>∃i Y5 H5 A5 Z5 S5 done its nn vs ys,Inv (lX X scope cl ⇑h2.objs N s3 H (fp++[⇑s.heap.objs])) [] Y5 H5 s5/\tn i s5.heap/\(∀b∈fp,H5 b=gV)/\s5.heap.get? ⇑s.heap.objs=ba {cls:=.type "list",data:=.seq (its:J5 J9).toArray nn}/\H5 ⇑s.heap.objs=gV/\Vals vs its/\
   Ext X.K A H A5 H5/\EnvRel X.K A5 H5 Z5 Y5/\StoreOk X.w X.K A5 H5 S5/\RelL X.K A5 H5 done vs/\ws=done++ys/\bz mi g c f k i Z5 S5=ba (ys,S')) ?_ n
   #[0,_,H,A,_,S,[],[],0,[],ws,I0,t1,λb hb=>(hfp b hb).1,k1 _ _ hD2,fresh _ (Ki _),.nil,.refl,er0,so,.nil,rfl,e]
  rintro k s5 ⟨i,Y5,H5,A5,Z5,S5,done,its,nn,vs,ys,I5,t5,f5,d5,n5,v5,e5,er5,so5,rl5,hw5,w5⟩;have pinD:Inv (lX X scope cl ⇑h2.objs N s3 H (fp++[⇑s.heap.objs])) [(⇑s.heap.objs,{cls:=.type "list",data:=.seq its.toArray nn})] Y5 H5 s5:=I5.pins_of λp hp=>by
   have hp':p=(⇑s.heap.objs,{cls:=.type "list",data:=.seq its.toArray nn}):=by simpa using hp
   subst hp';show#[d5,n5,hDC,λz=>LR _ (stkLt _ z),λv z=>by cases z]
  have oneD:∀p∈[(⇑s.heap.objs,({cls:=.type "list",data:=.seq its.toArray nn}:Mf))],p.1=⇑s.heap.objs:=λp hp=>by
   have hp':p=(⇑s.heap.objs,{cls:=.type "list",data:=.seq its.toArray nn}):=by simpa using hp
   rw[hp']
  cases k with
  |zero=>
   dsimp only[bz]at w5;split at w5
   ·rename_i hst;cases w5;rw[Ml]at hw5;subst hw5;show bu (T.done (lX X scope cl ⇑h2.objs N s3 H (fp++[⇑s.heap.objs])) rfl rfl rfl hc i _ s5 Y5 H5 _ pinD (fpOk' f5 oneD) t5 (mit.stop A5 H5 _ i e5 so5 hst)) λr s6 #[hr,I6]=>?_
    subst hr;have p6:=I6.pin _ (K6 _ (Kt.mpr rfl));show theEnd s6 Y5 H5 A5 vs _ nn (I6.pins_of λp hp=>absurd hp (by simp)) p6.1 #[its,rfl,v5] n5 e5 so5 rl5
   ·cases w5
  |succ k=>
   dsimp only[bz]at w5;split at w5
   ·rename_i w hw;obtain⟨go,yl⟩:=mit.go A5 H5 S5 i w e5 so5 hw;show bu (T.item (lX X scope cl ⇑h2.objs N s3 H (fp++[⇑s.heap.objs])) rfl rfl rfl hc i _ s5 Y5 H5 _ pinD (fpOk' f5 oneD) t5 go) λr s6 #[u,hr,h6]=>?_
    subst hr;show bu h6 λ_ s7 #[x,H7,I7,r7,y7,t7,f7]=>?_
    obtain⟨x1,x2,x3⟩:=yl x H7 y7;have I7':=I7.pinned (fpOk' f7 oneD) (T.obj _ _ t7);split at w5
    ·rename_i Z8 S8 h8;show bu (bk.tgt _ _ _ _ _ s7 Y5 H7 x u (λY' H'=>∃A',Ext X.K A5 H5 A' H'/\StoreOk X.w X.K A' H' S8/\EnvRel X.K A' H' Z8 Y') I7' r7 #[A5,Z5,S5,w,Z8,S8,er5.mono x1,x2,x3,h8,λY' H' A' q1 q2 q3=>#[A',x1.trans q1,q2,q3]]) λ_ s8 #[Y8,H8,I8,A8,e58,so8,er8]=>?_
     have e8:Ext X.K A H A8 H8:=e5.trans e58;have pD:∀{Y':L2.St}{H':Hp}{s':Kc},Inv (lX X scope cl ⇑h2.objs N s3 H (fp++[⇑s.heap.objs])) ([(⇑s.heap.objs,{cls:=.type "list",data:=.seq its.toArray nn})]++jn fp s7.heap) Y' H' s'->s'.heap.get? ⇑s.heap.objs=ba {cls:=.type "list",data:=.seq its.toArray nn}/\H' ⇑s.heap.objs=gV:=λI'=>
      let q:=I'.pin _ (K6 _ (LN _ (Kt.mpr rfl)))
      #[q.1,q.2.1]
     have pF:∀{Y':L2.St}{H':Hp}{s':Kc},Inv (lX X scope cl ⇑h2.objs N s3 H (fp++[⇑s.heap.objs])) ([(⇑s.heap.objs,{cls:=.type "list",data:=.seq its.toArray nn})]++jn fp s7.heap) Y' H' s'->(∀b∈fp,H' b=gV)/\∀b∈fp,∀o,s7.heap.get? b=ba o->s'.heap.get? b=ba o:=λI'=>
      #[λb hb=>by
       obtain⟨o,eo,_⟩:=T.obj _ _ t7 b hb;show(I'.pin (b,o) (K6 _ (K6 _ (fL hb eo)))).2.1,
       λb hb o eo=>(I'.pin (b,o) (K6 _ (K6 _ (fL hb eo)))).1]
     split at w5
     ·rename_i S9 h9;show bu (bk.tst _ _ _ _ _ s8 Y8 H8 (λb H'=>b=true/\∃A',Ext X.K A8 H8 A' H'/\StoreOk X.w X.K A' H' S9) I8 #[A8,Z8,S8,true,S9,er8,so8,h9,λb H' #[z0,A',z1,z2]=>#[z0,A',z1,z2]]) λb s9 #[H9,I9,z0,A9,e9,so9]=>?_
      subst z0;rw[KF rfl];split at w5
      ·rename_i y S10 h10;split at w5
       ·rename_i ys' S4 h11;cases w5;show bu (bk.elt _ _ _ _ _ s9 Y8 H9 (EndV X.w X.K A9 H9 S10 y) I9 #[A9,Z8,S9,y,S10,er8.mono e9,so9,h10,λ_ _ z=>z]) λu10 s10 #[v10,H10,I10,r10,A10,e10,so10,rl10]=>?_
        obtain⟨d10,n10⟩:=pD I10;obtain⟨f10,k10⟩:=pF I10;have hlen:↥its<sizeLine:=by
         have l1:=↥v5;have l2:=↥rl5;rw[hw5,Kk,KZ]at hz;omega
        show oA d10 hlen λh' n' hd' hk'=>?_
        have Ib:Inv (lX X scope cl ⇑h2.objs N s3 H (fp++[⇑s.heap.objs])) [] Y8 H10 {s10 with heap:=h'}:=by
         have Ia:Inv (lX X scope cl ⇑h2.objs N s3 H (fp++[⇑s.heap.objs])) [] Y8 H10 s10:=I10.pins_of λp hp=>absurd hp (by simp)
         show Ia.turned (t':=s10.toks) (it:=⇑s.heap.objs) hk' n10 hDC (.inl DinEx) cellD (λp hp=>absurd hp (by simp[lX]))
        show#[k,L0 k,i+1,Y8,H10,A10,Z8,S10,done++[y],its++[u10],n',vs++[v10],ys',Ib,?_,f10,hd',n10,v5.append #v[r10],(e8.trans e9).trans e10,(er8.mono e9).mono e10,so10,?_,?_,h11]
        ·show T.keep (i+1) s7.heap h' t7 λb hb o eo=>hk' b o (fpD b hb) (k10 b hb o eo)
        ·show(rl5.mono ((e58.trans e9).trans e10)).append #v[rl10]
        ·rw[hw5,Mt];rfl
       ·cases w5
      ·cases w5
     ·rename_i S9 h9;show bu (bk.tst _ _ _ _ _ s8 Y8 H8 (λb H'=>b=false/\∃A',Ext X.K A8 H8 A' H'/\StoreOk X.w X.K A' H' S9) I8 #[A8,Z8,S8,false,S9,er8,so8,h9,λb H' #[z0,A',z1,z2]=>#[z0,A',z1,z2]]) λb s9 #[H9,I9,z0,A9,e9,so9]=>?_
      subst z0;rw[KM KS];obtain⟨d9,n9⟩:=pD I9;obtain⟨f9,k9⟩:=pF I9;show#[k,L0 k,i+1,Y8,H9,A9,Z8,S9,done,its,nn,vs,ys,I9.pins_of λp hp=>absurd hp (by simp),T.keep (i+1) s7.heap _ t7 k9,f9,d9,n9,v5,e8.trans e9,er8.mono e9,so9,rl5.mono (e58.trans e9),hw5,w5]
     ·cases w5
    ·cases w5
   ·cases w5
 show codeAny_compStart_list (loop _ rfl) (T.self X.A 0 _ _ _ t1 (loop _ rfl))
def qv {fi:FI}{g:FG}{c:FT}{f:FE}{cap:J5 (Ke Kf)}{Z:Fm}{S:aa}{w:W}{S':aa}(e:lg fi g c f cap Z S=ba (w,S')) :
  ∃mi S1 n ys S2,fi Z S=ba (mi,S1)/\mi.len S1=ba n/\bz mi g c f n 0 (eW cap Z) S1=ba (ys,S2)/\↥ys<=sizeLine/\w=.ref ↥S2/\S'=S2++[.lst ys]:=by
 unfold lg at e;split at e
 ·rename_i mi S1 h1;split at e
  ·rename_i n h2;split at e
   ·rename_i ys S2 h3;obtain⟨h4,h5,h6⟩:=ke e;show#[mi,S1,n,ys,S2,h1,h2,h3,h4,h5,h6]
   ·cases e
  ·cases e
 ·cases e
def Cv {scope:N5}{N:J5 KJ}{cap:J5 (Ke Kf)}{tg elt iter:KP}{ifs:J5 KP}{fi:FI}{g:FG}{c:FT}{f:FE}{pos:Na}(hc:X.calm=true)(hi:GI X tg iter fi)(hck:X.Ok->∃cl,CompOk X scope cl N cap/\BlockOk X scope cl N tg elt ifs g c f)
  (hs:∀x,foldedSetIterable iter X.env x=pure x):GE X (.ListComp elt [#[tg,iter,ifs,0]] scope pos) (lg fi g c f cap):=by
 intro J s Y H Q I ⟨A,Z,S,w,S',er,so,e,hq⟩;obtain⟨mi,S1,n,ys,S2,h1,h2,h3,h4,rfl,rfl⟩:=qv e;obtain⟨cl,ck,bk⟩:=hck I.ok;rw[eval_ListComp];show Qc (use:=gV) rfl hs ck.clos ck.kind ck.names (bu (hi J s Y H (λtd H'=>∃A',Ext X.K A H A' H'/\StoreOk X.w X.K A' H' S1/\MIt X.w X.K mi td A' H') I #[A,Z,S,mi,S1,er,so,h1,λtd H' A' z1 z2 z3=>#[A',z1,z2,z3]]) λv s1 q1=>bu q1 λitv s2 q2=>?_)
 obtain⟨it,fp,tn,td,H2,rfl,I2,T,t0,hfp,A2,e2,so2,mit⟩:=q2;show nh (RR:=λacc C=>compPost (model X.prog X.w) X.A X.xe gV (EP X J Y Q) acc C) I2 hc (er.mono e2) so2 ck bk T t0 hfp mit h3 h4 ?_
 intro D C s' H' A' vs m hn hDn hDC hCL hCf hCn hCs hCc hCp I3 ex so3 rl;show#[m,hn,λh' hs'=>?_]
 have I4:Inv X J Y (bx H' D (.lst vs)) {s' with heap:=h'}:=I3.turned (t':=s'.toks) (it:=C) (λb o hb eo=>hs'.extBut b o hb eo) (by rw[aC (Ne.symm hDC)];show hCn) hCL (.inr hCs) hCc hCp
 show#[.ref D,_,I4,rfl,hq _ _ (EndV.after (e2.trans ex) (.lst so3 rl hDn))]
def sN {scope:N5}{N:J5 KJ}{cap:J5 (Ke Kf)}{tg elt iter:KP}{ifs:J5 KP}{fi:FI}{g:FG}{c:FT}{f:FE}{pos py spos:Na}{y:KJ}{i:Kf}(hc:X.calm=true)(hi:GI X tg iter fi)(hck:X.Ok->∃cl,CompOk X scope cl N cap/\BlockOk X scope cl N tg elt ifs g c f)
  (hs:∀x,foldedSetIterable iter X.env x=pure x) (hsw:swapsWith (.ListComp elt [#[tg,iter,ifs,0]] scope pos) (ba (.Name y py)) spos.line X.env=pure true) (hN:X.N.Nodup) (hy:X.N[i]?=ba y) (hl:X.env.scope.names.lookup y=ba .local) :
  GS X (.Assign [.Name y py] (.ListComp elt [#[tg,iter,ifs,0]] scope pos) spos) (lf (lg fi g c f cap) (Dj i)):=by
 intro J s Y H Dd I ⟨A,Z,S,o,S',er,so,e,hd⟩;unfold lf at e;split at e
 ·rename_i w S0 h0;simp only[Dj]at e;cases e;obtain⟨mi,S1,n,ys,S2,h1,h2,h3,h4,rfl,rfl⟩:=qv h0;obtain⟨cl,ck,bk⟩:=hck I.ok;rw[exec_Assign_Name_used _ _ _ _ hsw];show J6 (O6 (J6 ?_));change wpAny _ X.A (do let _ <- comprehension (.ListComp elt [#[tg,iter,ifs,0]] scope pos) scope X.env _ (newList []) false (eval iter X.env) (ba (assign (.Name y py) X.env))) _ _ s
  show J6 (MB (Qc (use:=ba (assign (.Name y py) X.env)) (Q:=λ_ s'=>SP X J Dd .next s') rfl hs ck.clos ck.kind ck.names
   (bu (hi J s Y H (λtd H'=>∃A',Ext X.K A H A' H'/\StoreOk X.w X.K A' H' S1/\MIt X.w X.K mi td A' H') I #[A,Z,S,mi,S1,er,so,h1,λtd H' A' z1 z2 z3=>#[A',z1,z2,z3]]) λv s1 q1=>bu q1 λitv s2 q2=>?_)) (λ_ s' hq=>Kd (Kd hq)) λ_ _ e=>e)
  obtain⟨it,fp,tn,td,H2,rfl,I2,T,t0,hfp,A2,e2,so2,mit⟩:=q2;show nh (RR:=λacc C=>compPost (model X.prog X.w) X.A X.xe (ba (assign (.Name y py) X.env)) (λ_ s'=>SP X J Dd .next s') acc C) I2 hc (er.mono e2) so2 ck bk T t0 hfp mit h3 h4 ?_
  intro D C s' H' A' vs m hn hDn hDC hCL hCf hCn hCs hCc hCp I3 ex so3 rl;obtain⟨oC,esC,epC,hoC,hdC,hrC⟩:=id hn;have I3':Inv X (J++[(C,oC)]) Y (bx H' D (.lst vs)) s':=I3.pins_of λp hp=>by
   rcases La.mp hp with hp|hp
   ·show I3.pin p (K6 _ hp)
   ·have hp':p=(C,oC):=by simpa using hp
    subst hp';show#[hoC,by rw[aC (Ne.symm hDC)];show hCn,hCL,hCf,λv z=>by rw[hdC]at z;cases z]
  change wpAny _ X.A (assign (.Name y py) X.env (.ref D)) _ _ _;show RL (iK I3' hN hy (.inl hl) (v:=.ref D) rfl (λs4 I4=>?_) (.inr hl))
  have pC:=I4.pin (C,oC) (K6 _ (K6 _ (Kt.mpr rfl)));show#[m,#[oC,esC,epC,pC.1,hdC,hrC],λh' hs'=>?_]
  have I5:Inv X J (Y.set i (ba (.ref D))) (bx H' D (.lst vs)) s4:=I4.pins_of λp hp=>I4.pin p (K6 _ (LN _ hp))
  have I6:Inv X J (Y.set i (ba (.ref D))) (bx H' D (.lst vs)) {s4 with heap:=h'}:=I5.turned (t':=s4.toks) (it:=C) (λb o hb eo=>hs'.extBut b o hb eo) (by rw[aC (Ne.symm hDC)];show hCn) hCL (.inr hCs) hCc hCp
  obtain⟨Af,f1,f2,f3⟩:=EndV.after (e2.trans ex) (EndV.lst so3 rl hDn);show#[_,_,I6,hd.nx _ _ #[_,Af,rfl,f1,f2,(er.mono f1).set f3 i]]
 ·cases e
end
open PySem.Builtin.SmallTypes (nextOf)
structure Zap (z p q i j:Kj):Prop where
 pz:p≠z
 qz:q≠z
 iz:i≠z
 jz:j≠z
 pq:p≠q
 pi:p≠i
 pj:p≠j
 qi:q≠i
 qj:q≠j
 ij:i≠j
section
variable{prog:K9}{w:Ll}
structure Zit (prog:K9)(w:Ll)(it:Kj)(T:Kf->Lq->Prop)(C:Lq->Prop)(i:Kf)(Uqb:Ke (J9->Prop)):Prop where
 keep:∀j h h',T j h->(∀o,h.get? it=ba o->h'.get? it=ba o)->T j h'
 next:∀V,Uqb=ba V->∀(B:Ld) (s:Kc) (Q:J9->Kc->Prop) (E:J9->Kc->Prop),T i s.heap->C s.heap->(∀u h' tk,V u->T (i+1) h'->Mw it s.heap h'->Q u {s with heap:=h',toks:=tk})->wpAny (model prog w) B (nextOf (.ref it)) Q E s
 stop:Uqb=gV->∀(B:Ld) (s:Kc) (Q:J9->Kc->Prop) (E:J9->Kc->Prop),B.handled=gV->T i s.heap->C s.heap->(∀h' e,QU it s.heap h'->(∃o,h'.get? e=ba o/\o.cls=.type "StopIteration")->E (.ref e) {s with heap:=h'})->wpAny (model prog w) B (nextOf (.ref it)) Q E s
variable{B:Ld}{E:J9->Kc->Prop}{s:Kc}{z p q i1 i2:Kj}{T1 T2:Kf->Lq->Prop}{C1 C2:Lq->Prop}{i:Kf}{a b:J9}
abbrev Zc (z q i1 i2:Kj)(C:Lq->Prop):Prop:=∀h h',C h->(∀c o,c≠z->c≠q->c≠i1->c≠i2->h.get? c=ba o->h'.get? c=ba o)->C h'
def lh {U1 Uqa:Ke (J9->Prop)}{Q:J9->Kc->Prop}(D:Zap z p q i1 i2)(Zz:Zit prog w i1 T1 C1 i U1)(Z2':∀V1,U1=ba V1->Zit prog w i2 T2 C2 i Uqa)(k1:Zc z q i1 i2 C1)(k2:Zc z q i1 i2 C2)(hh:B.handled=gV)
  (hz:Rr s.heap z p q .none) (hp:O5 s.heap p (.ref i1) (.ref i2)) (hq:O5 s.heap q a b) (t1:T1 i s.heap) (t2:T2 i s.heap) (c1:C1 s.heap) (c2:C2 s.heap)
  (hI:∀V1 V2,U1=ba V1->Uqa=ba V2->∀u v h' tk,V1 u->V2 v->Rr h' z p q (rawInt ⇑s.heap.objs)->O5 h' q u v->T1 (i+1) h'->T2 (i+1) h'->O5 h' ⇑s.heap.objs u v->
   (∀c o,c≠z->c≠q->c≠i1->c≠i2->s.heap.get? c=ba o->h'.get? c=ba o)->Q (.ref ⇑s.heap.objs) {s with heap:=h',toks:=tk})
  (hE:U1=gV\/Uqa=gV->∀h' tk e,(∀c o,c≠z->c≠q->c≠i1->c≠i2->s.heap.get? c=ba o->h'.get? c=ba o)->(∃o,h'.get? e=ba o/\o.cls=.type "StopIteration")->E (.ref e) {s with heap:=h',toks:=tk}) :
  wpAny (model prog w) B (NE.«zip.__next__» #[[.ref z],[]]) (λfin s'=>∃v,fin=.done (.ret v)/\Q v s') E s:=by
 change wpAny _ _ (field (.ref z) 2 >>= _) _ _ s;show J6 (Mh hz rfl (x:=.bool false) rfl ?_);change wpAny _ _ (field (.ref z) 3 >>= _) _ _ s;show J6 (Mh hz rfl (x:=.ref p) rfl (J6 (L9 hp rfl ?_)));change wpAny _ _ (Mv (.ref z) >>= _) _ _ s;unfold Mv;show J6 (J6 (Mh hz rfl (x:=.none) rfl (Kd ?_)));revert Mm;show J6 (Pq (J6 (Mh hz rfl (x:=.ref q) rfl ?_)));show J6 (Nh hz (by simp) λg1 zz1 s1=>?_)
 replace zz1:Rr g1 z p q .ellipsis:=zz1;show J6 ?_;revert List.zipIdx_cons List.zipIdx_nil Pd QZ;show J6 (J6 (T6 ?_));change wpAny _ _ (nextOf (.ref i1) >>= _) _ _ _;have up1:∀c o,c≠z->s.heap.get? c=ba o->g1.get? c=ba o:=λc o hc e=>s1.extBut c o hc e
 have t1':T1 i g1:=Zz.keep _ _ _ t1 λo e=>up1 _ _ D.iz e
 have c1':C1 g1:=k1 _ _ c1 λc o hc _ _ _ e=>up1 c o hc e
 have fin:∀(g:Lq) (tk:Kf) (it e:Kj),(it=i1\/it=i2)->U1=gV\/Uqa=gV->Rr g z p q .ellipsis->(∀c o,c≠z->c≠q->c≠i1->c≠i2->s.heap.get? c=ba o->g.get? c=ba o)->(∃o,g.get? e=ba o/\o.cls=.type "StopIteration")->
   wpAny (model prog w) B (setField (.ref z) 0 .none) (λ_ s''=>E (.ref e) s'') E {s with heap:=g,toks:=tk}:=λg tk it e _ hu gz kg #[oe,he,hc]=>by
  have ne:e≠z:=λx=>by subst x;rw[gz]at he;cases he;simp at hc
  show Nh gz (by simp) λg' _ sb=>hE hu g' tk e (λc o a1 a2 a3 a4 x=>sb.extBut _ _ a1 (kg c o a1 a2 a3 a4 x)) #[oe,sb.extBut _ _ ne he,hc]
 cases hu1:U1 with
 |none=>
  show J6 (Zz.stop hu1 _ _ _ _ hh t1' c1' λg2 e eb he=>?_)
  show fin g2 s.toks i1 e (.inl rfl) (.inl hu1) (eb _ _ D.iz.symm zz1) (λc o a1 _ a3 _ x=>eb _ _ a3 (up1 c o a1 x)) he
 |some V1=>
  have Zq:=Z2' V1 hu1;show J6 (Zz.next V1 hu1 _ _ _ _ t1' c1' λu g2 tk2 hu t12 s2=>Kd ?_)
  have q2:O5 g2 q a b:=s2.extBut _ _ D.qi (up1 _ _ D.qz hq);show J6 (L9 q2 rfl (J6 (Q1 q2 λg3 q3 s3=>?_)))
  replace q3:O5 g3 q u b:=q3;show J6 (Od (Kd ?_));show J6 (J6 (T6 ?_));change wpAny _ _ (nextOf (.ref i2) >>= _) _ _ _;have up3:∀c o,c≠z->c≠q->c≠i1->s.heap.get? c=ba o->g3.get? c=ba o:=λc o a1 a2 a3 x=>s3.extBut _ _ a2 (s2.extBut _ _ a3 (up1 c o a1 x))
  have zz3:Rr g3 z p q .ellipsis:=s3.extBut _ _ D.qz.symm (s2.extBut _ _ D.iz.symm zz1);have t2':T2 i g3:=Zq.keep _ _ _ t2 λo e=>up3 _ _ D.jz D.qj.symm D.ij.symm e
  have c2':C2 g3:=k2 _ _ c2 λc o a1 a2 a3 _ e=>up3 c o a1 a2 a3 e
  cases hu2:Uqa with
  |none=>
   show J6 (Zq.stop hu2 _ _ _ _ hh t2' c2' λg4 e eb he=>?_)
   show fin g4 tk2 i2 e (.inr rfl) (.inr hu2) (eb _ _ D.jz.symm zz3) (λc o a1 a2 a3 a4 x=>eb _ _ a4 (up3 c o a1 a2 a3 x)) he
  |some V2=>
   show J6 (Zq.next V2 hu2 _ _ _ _ t2' c2' λv g4 tk4 hv t24 s4=>Kd ?_)
   have q4:O5 g4 q u b:=s4.extBut _ _ D.qj q3;show J6 (L9 q4 rfl (J6 (Q1 q4 λg5 q5 s5=>?_)))
   replace q5:O5 g5 q u v:=q5;show J6 (Od (Kd (Kd ?_)));show J6 (L9 q5 rfl (J6 (PD ?_)));have sz:⇑g5.objs=⇑s.heap.objs:=by rw[s5.1,s4.1,s3.1,s2.1,s1.1]
   have zz5:Rr g5 z p q .ellipsis:=s5.extBut _ _ D.qz.symm (s4.extBut _ _ D.jz.symm zz3);have t15:T1 (i+1) g5:=Zz.keep _ _ _ t12 λo e=>s5.extBut _ _ D.qi.symm (s4.extBut _ _ D.ij (s3.extBut _ _ D.qi.symm e))
   have t25:T2 (i+1) g5:=Zq.keep _ _ _ t24 λo e=>s5.extBut _ _ D.qj.symm e
   have zlt:z<⇑g5.objs:=KC zz5;change wpAny _ _ (M5 (.ref z) (.ref ⇑g5.objs) >>= _) _ _ _;show J6 ?_;unfold M5;have zz6:Rr (g5.push {cls:=.type "tuple",data:=.seq [u,v].toArray}) z p q .ellipsis:=J8 _ zz5;show J6 (Nh zz6 (by simp) λg7 zz7 s7=>?_)
   replace zz7:Rr g7 z p q (rawInt ⇑g5.objs):=zz7;show Nh zz7 (by simp) λg8 zz8 s8=>?_
   replace zz8:Rr g8 z p q (rawInt ⇑g5.objs):=zz8;have up8:∀c o,c≠z->g5.get? c=ba o->g8.get? c=ba o:=λc o hc e=>s8.extBut _ _ hc (s7.extBut _ _ hc (J8 _ e))
   have n8:O5 g8 ⇑g5.objs u v:=s8.extBut _ _ (Mb zlt) (s7.extBut _ _ (Mb zlt) (Ku _ rfl));rw[sz]at zz8 n8;show Kd #[_,rfl,?_];change Q (.ref ⇑g5.objs) _;rw[sz];show hI V1 V2 hu1 hu2 u v g8 tk4 hu hv zz8 (up8 _ _ D.qz q5) (Zz.keep _ _ _ t15 λo e=>up8 _ _ D.iz e) (Zq.keep _ _ _ t25 λo e=>up8 _ _ D.jz e) n8 λc o a1 a2 a3 a4 e=>up8 c o a1 (s5.extBut _ _ a2 (s4.extBut _ _ a4 (up3 c o a1 a2 a3 e)))
end
end Mi
namespace Mi
open PySem PySem.Spec PyProof.Rows L2
open PySem.Builtin.SmallTypes (nextOf)
abbrev eX (prog:K9)(w:Ll)(v:J9)(o:Mf)(C:Lq->Prop):Prop:=∀(B:Ld) (s:Kc) (Q:J9->Kc->Prop) (E:J9->Kc->Prop),C s.heap->Q (.ref ⇑s.heap.objs) {s with heap:=s.heap.push o}->wpAny (model prog w) B (pyIter v) Q E s
abbrev G0 (h:Lq)(o1 o2:Mf):Lq:=(h.push o1).push o2
abbrev G1 (h:Lq)(o1 o2:Mf):Lq:=(G0 h o1 o2).push {cls:=.type "tuple",data:=.seq [.ref ⇑h.objs,.ref (h.push o1).objs.size].toArray}
abbrev G2 (h:Lq)(o1 o2:Mf):Lq:=(G1 h o1 o2).push {cls:=.type "tuple",data:=.seq [.none,.none].toArray}
abbrev Dm (h:Lq)(o1 o2:Mf):Lq:=(G2 h o1 o2).push {cls:=.type "zip",data:=.fields [.none,.bool false,.bool false,.ref (G0 h o1 o2).objs.size,.ref (G1 h o1 o2).objs.size].toArray}
section
variable{prog:K9}{w:Ll}{B:Ld}{E:J9->Kc->Prop}{s:Kc}{v1 v2:J9}{o1 o2:Mf}{C1 C2:Lq->Prop}
def sO (h1:eX prog w v1 o1 C1)(h2:eX prog w v2 o2 C2)(k2:∀h o,C2 h->C2 (h.push o)) :
  MeetsIn prog w (NE.«zip.__new__» #[[.type "zip",v1,v2],[]]) (λ_ R s=>C1 s.heap/\C2 s.heap/\R (.ok (.ret (.ref (G2 s.heap o1 o2).objs.size))) {s with heap:=Dm s.heap o1 o2}):=
 .of_wp λA R s h=>by
  obtain⟨hp,g,d,tk,os⟩:=s;obtain⟨c1,c2,h⟩:=h;have hsub:=sub_zip;have d1:∀(B:Ld) (Q:J9->Kc->Prop) (E:J9->Kc->Prop),Q (.ref ⇑hp.objs) #[hp.push o1,g,d,tk,os]->wpAny (model prog w) B (pyIter v1) Q E #[hp,g,d,tk,os]:=λB Q E q=>h1 B #[hp,g,d,tk,os] Q E c1 q
  have d2:∀(B:Ld) (Q:J9->Kc->Prop) (E:J9->Kc->Prop),Q (.ref (hp.push o1).objs.size) #[(hp.push o1).push o2,g,d,tk,os]->wpAny (model prog w) B (pyIter v2) Q E #[hp.push o1,g,d,tk,os]:=λB Q E q=>h2 B #[hp.push o1,g,d,tk,os] Q E (k2 _ _ c2) q
  wp_walk using d1 _ _ _,d2 _ _ _
  show#[_,rfl,h]
def zf {Q:J9->Kc->Prop}(h1:eX prog w v1 o1 C1)(h2:eX prog w v2 o2 C2)(k2:∀h o,C2 h->C2 (h.push o))(c1:C1 s.heap)(c2:C2 s.heap)(n1:o1.isFreed=false)(n2:o2.isFreed=false)
  (h:∀h',Rr h' (⇑s.heap.objs+4) (⇑s.heap.objs+2) (⇑s.heap.objs+3) .none->O5 h' (⇑s.heap.objs+2) (.ref ⇑s.heap.objs) (.ref (⇑s.heap.objs+1))->O5 h' (⇑s.heap.objs+3) .none .none->
   h'.get? ⇑s.heap.objs=ba o1->h'.get? (⇑s.heap.objs+1)=ba o2->⇑h'.objs=⇑s.heap.objs+5->(∀c o,s.heap.get? c=ba o->h'.get? c=ba o)->Q (.ref (⇑s.heap.objs+4)) {s with heap:=h'}) :
  wpAny (model prog w) B (call (.type "zip") [v1,v2]) Q E s:=by
 show Tx F.called_zip #v[] (F.typeCall_zip_2 _ _) (F.newCall_zip_2 _ _) (λobj=>F.args_object_init_3 obj _ _) F.entry_zip_new (sO h1 h2 k2) #[c1,c2,?_]
 have e1:(s.heap.push o1).objs.size=⇑s.heap.objs+1:=Mj ..;have e2:(G0 s.heap o1 o2).objs.size=⇑s.heap.objs+2:=by unfold G0;rw[Mj,e1]
 have e3:(G1 s.heap o1 o2).objs.size=⇑s.heap.objs+3:=by unfold G1;rw[Mj,e2]
 have e4:(G2 s.heap o1 o2).objs.size=⇑s.heap.objs+4:=by unfold G2;rw[Mj,e3]
 have e5:(Dm s.heap o1 o2).objs.size=⇑s.heap.objs+5:=by unfold Dm;rw[Mj,e4]
 have g5:(Dm s.heap o1 o2).get? (G2 s.heap o1 o2).objs.size=ba _:=Ku _ rfl;have g4:(Dm s.heap o1 o2).get? (G1 s.heap o1 o2).objs.size=ba _:=J8 _ (Ku _ rfl);have g3:(Dm s.heap o1 o2).get? (G0 s.heap o1 o2).objs.size=ba _:=J8 _ (J8 _ (Ku _ rfl));have g2:(Dm s.heap o1 o2).get? (s.heap.push o1).objs.size=ba o2:=J8 _ (J8 _ (J8 _ (Ku _ n2)));have g1:(Dm s.heap o1 o2).get? ⇑s.heap.objs=ba o1:=J8 _ (J8 _ (J8 _ (J8 _ (Ku _ n1))));rw[e2,e3,e4]at g5;rw[e1,e2]at g3;rw[e3]at g4;rw[e1]at g2;change _/\_;rw[e4];show#[#[_,g5,rfl],h _ g5 g3 g4 g1 g2 e5 λc o x=>J8 _ (J8 _ (J8 _ (J8 _ (J8 _ x))))]
end
end Mi
namespace Mi
open PySem PySem.Spec PyProof.Rows L2
open PySem.Builtin.SmallTypes (nextOf)
section
variable{prog:K9}{w:Ll}{A:Ld}{E:J9->Kc->Prop}{s:Kc}
def G3 {it t:Kj}{i:Kf}{items:KL J9}{x:J9}{Q:J9->Kc->Prop}(hit:s.heap.IsTupleIter it t i)(ht:s.heap.IsTuple t items)(hx:items[i]?=ba x)
  (hQ:∀h',h'.IsTupleIter it t (i+1)->Mw it s.heap h'->Q x {s with heap:=h'}):wpAny (model prog w) A (nextOf (.ref it)) Q E s:=by
 obtain⟨o,ho,hc,hd⟩:=id hit;obtain⟨ot,hot,_,nt,hdt⟩:=ht;unfold PY;show J6 (LA (name:=Mx "__next__") hit.typeIs F.slot_tuple_iterator_next (LG F.slot_tuple_iterator_next hit.typeIs F.entry_tuple_iterator_next ?_ (F.args_tuple_iterator_next_1 _)));change wpAny _ _ (field (.ref it) 0 >>= _) _ _ s;show J6 (Mh ho hd (x:=.ref t) rfl ?_);change wpAny _ _ (if (Lc t==Ls)=true then _ else _) _ _ s
 rw[KM (show ¬ ((Lc t==Ls)=true)from KS)]
 change wpAny _ _ (field (.ref it) 1 >>= _) _ _ s;show J6 (Mh ho hd (x:=.int i 0) rfl (J6 (L9 hot hdt ?_)));revert Kw hx;show J6 (PH ho hd (by simp) (Kd #[x,rfl,Kd (hQ _ #[_,Ma _ ho (QP (OJ hd _)),(R1 ..).trans hc,?_] (NF ..))]))
 rw[OJ hd];simp[rawInt]
def G4 {it t:Kj}{i:Kf}{items:KL J9}{Q:J9->Kc->Prop}(hh:A.handled=gV)(hit:s.heap.IsTupleIter it t i)(ht:s.heap.IsTuple t items)(hx:items[i]?=gV)
  (hE:∀h' e,QU it s.heap h'->(∃o,h'.get? e=ba o/\o.cls=.type "StopIteration")->E (.ref e) {s with heap:=h'}):wpAny (model prog w) A (nextOf (.ref it)) Q E s:=by
 obtain⟨o,ho,hc,hd⟩:=id hit;obtain⟨ot,hot,_,nt,hdt⟩:=ht;unfold PY;show J6 (LA (name:=Mx "__next__") hit.typeIs F.slot_tuple_iterator_next (LG F.slot_tuple_iterator_next hit.typeIs F.entry_tuple_iterator_next ?_ (F.args_tuple_iterator_next_1 _)));change wpAny _ _ (field (.ref it) 0 >>= _) _ _ s;show J6 (Mh ho hd (x:=.ref t) rfl ?_);change wpAny _ _ (if (Lc t==Ls)=true then _ else _) _ _ s
 rw[KM (show ¬ ((Lc t==Ls)=true)from KS)]
 change wpAny _ _ (field (.ref it) 1 >>= _) _ _ s;show J6 (Mh ho hd (x:=.int i 0) rfl (J6 (L9 hot hdt ?_)));revert Kw hx;show J6 (Pq (J6 (PH ho hd (by simp) ?_)))
 change wpAny _ _ (newExc (.type "StopIteration") [] >>= _) _ _ _;show J6 ?_;revert newExc newTuple;show J6 (Ln ?_ (by size_fits))
 show J6 (m:=firstArgMember _ _) (ON (a:=Ls) (by first|rfl|(revert firstArgMember;rfl)) (Ln ?_ (by size_fits)))
 revert raiseNew;show J6 (Ro ?_)
 first|rw[show A.in1.handled=gV from hh]|rw[hh]
 show J6 (Kd (SI (hE _ _ (((NF ..).extBut.push _).push _) #[_,Ku _ rfl,rfl])))
end
inductive Zs where|tup (a:Kj)|lst (a:Kj)
abbrev Zs.T (it:Kj):Zs->Kf->Lq->Prop
 |.tup a,i,h=>h.IsTupleIter it a i
 |.lst a,i,h=>h.IsListIter it a i
abbrev Zs.at (K:Kr)(H:Hp)(i:Kf)(v:V):Zs->Prop
 |.tup a=>∃xs,SqT K H a xs/\xs[i]?=ba v
 |.lst a=>∃xs,SqL K H a xs/\xs[i]?=ba v
abbrev Zs.out (K:Kr)(H:Hp)(i:Kf):Zs->Prop
 |.tup a=>∃xs,SqT K H a xs/\↥xs<=i
 |.lst a=>∃xs,SqL K H a xs/\↥xs<=i
def Zs.keep {S:Zs}{it:Kj}{j:Kf}{h h':Lq}(t:S.T it j h)(k:∀o,h.get? it=ba o->h'.get? it=ba o):S.T it j h':=by
 cases S with
 |tup a=>show t.at k
 |lst a=>show t.at k
section
variable{X:Cx}{J:J5 (Kj×Mf)}{Y:L2.St}{H:Hp}{s:Kc}
def zh (I:Inv X J Y H s){a b:Kj}{o:Mf}(h:X.K.lookup a=ba o)(f:ip X J H b):a≠b:=λz=>by
 subst z;have hb:=I.ok.mod.kin a o h;rcases f.2.2.2.1 with q|q
 ·show I.ok.noex a o hb q
 ·show absurd (KR (KC (I.ok.bs a o hb).1) q) (LR _)
end
end Mi
namespace Mi
open PySem PySem.Spec PyProof.Rows L2
open PySem.Builtin.SmallTypes (nextOf)
section
variable{X:Cx}{J:J5 (Kj×Mf)}{Y:L2.St}{H:Hp}{s:Kc}{h':Lq}
def zj {a b:Kj}{u:HO}(h:Rd H a u)(f:H b=gV):a≠b:=λz=>by
 subst z;rcases h with h|⟨o,h⟩<;>(rw[f]at h;cases h)
def Inv.turnedL {t':Kf}{ch:J5 Kj}(I:Inv X J Y H s)(k:∀b o,b∉ch->s.heap.get? b=ba o->h'.get? b=ba o)(hf:∀b∈ch,ip X J H b):Inv X J Y H {s with heap:=h',toks:=t'}:=by
 have nit:∀b u,H b=ba u->b∉ch:=λb u e z=>by have:=(hf b z).1;rw[e]at this;cases this
 show I.step (g':=s.gens) (d':=s.drawn) (ch:=ch) (λb hb=>?_) (λb o _ _ hc e _=>k b o hc e) (λb o _ _ hc e _=>#[o.slots,k b o hc e]) (λ_ _ _ _ n=>n) (λb o hc e=>#[o,k b o hc e]) (λ_ _ e=>e) (λ_ _ _ e=>e) (λb ps e=>#[#[],by rw[e];simp]) (λm hm=>?_) (λb u e=>?_) I.bare
 ·obtain⟨_,f1,_,f3,f4,f5⟩:=hf b hb;show#[f3,f1,f4,f5]
 ·obtain⟨o,es,ep,ho,r⟩:=hm;show#[o,es,ep,k _ o (λz=>(hf _ z).2.1 rfl) ho,r]
 ·show(I.hok b u e).stay (λc v hc q=>k c v ?_ q) (λ_ q=>q) λ_ _ q=>q
  rcases hc with z|z
  ·rw[z];show nit b u e
  ·show nit c _ z
def Zs.zit {S:Zs}{it z q i1 i2:Kj}{i:Kf}{Uqb:Ke V}(I:Inv X J Y H s)(hf:∀b∈[z,q,i1,i2],ip X J H b)(g:match Uqb with|some v=>S.at X.K H i v|none=>S.out X.K H i) :
  ∃C,Zit X.prog X.w it (S.T it) C i (Uqb.map λv u=>RelV v u)/\C s.heap/\Zc z q i1 i2 C:=by
 have zc:∀(a:Kj) (P:Lq->Prop),(∀h h',P h->(∀o,h.get? a=ba o->h'.get? a=ba o)->P h')->(∀b∈[z,q,i1,i2],a≠b)->Zc z q i1 i2 P:=λa P hP hn h h' p k=>
  hP h h' p λo e=>k a o (hn z (by simp)) (hn q (by simp)) (hn i1 (by simp)) (hn i2 (by simp)) e
 have sep:∀{a:Kj}{u:HO}{o:Mf}{b:Kj},(Rd H a u\/X.K.lookup a=ba o)->b∈[z,q,i1,i2]->a≠b:=λh hb=>h.elim (λr=>zj r (hf _ hb).1) λr=>zh I r (hf _ hb)
 cases S with
 |tup a=>
  obtain⟨xs,hq,hx⟩:∃xs,SqT X.K H a xs/\(match Uqb with|some v=>xs[i]?=ba v|none=>↥xs<=i):=by
   cases Uqb<;>show g
  obtain⟨its,rv,p,_⟩:=I.tuple hq;have hne:∀b∈[z,q,i1,i2],a≠b:=λb hb=>by
   rcases hq with r|⟨o,_,_,r,_⟩
   ·show zj r (hf b hb).1
   ·show zh I r (hf b hb)
  show#[λh=>h.IsTuple a its.toArray,#[λj h h' t k=>Zs.keep (S:=.tup a) t k,λV hV B s2 Q E t c hQ=>?_,λhU B s2 Q E hh t c hE=>?_],p,zc a _ (λh h' #[o,e,r] k=>#[o,k _ e,r]) hne]
  ·cases Uqb with
   |none=>cases hV
   |some v=>
    cases hV;obtain⟨u,hu,ru⟩:=rv.get hx;show G3 t c (x:=u) (by simpa using hu) λh' t' sb=>hQ u h' s2.toks ru t' sb
  ·cases Uqb with
   |some v=>cases hU
   |none=>
    have:=L2.Vals.length rv;have hx':↥xs<=i:=hx;show G4 hh t c (by simp;omega) hE
 |lst a=>
  obtain⟨xs,hq,hx⟩:∃xs,SqL X.K H a xs/\(match Uqb with|some v=>xs[i]?=ba v|none=>↥xs<=i):=by
   cases Uqb<;>show g
  obtain⟨its,rv,p,_⟩:=I.list hq;have hne:∀b∈[z,q,i1,i2],a≠b:=λb hb=>by
   rcases hq with r|⟨o,_,_,r,_⟩
   ·show zj r (hf b hb).1
   ·show zh I r (hf b hb)
  show#[λh=>h.IsList a its.toArray,#[λj h h' t k=>Zs.keep (S:=.lst a) t k,λV hV B s2 Q E t c hQ=>?_,λhU B s2 Q E hh t c hE=>?_],p.isList,zc a _ (λh h' #[o,e,r] k=>#[o,k _ e,r]) hne]
  ·cases Uqb with
   |none=>cases hV
   |some v=>
    cases hV;obtain⟨u,hu,ru⟩:=rv.get hx;show wpAny_nextOf_list_item t c (x:=u) (by simpa using hu) λh' t' sb=>hQ u h' s2.toks ru t' sb
  ·cases Uqb with
   |some v=>cases hU
   |none=>
    have:=L2.Vals.length rv;have hx':↥xs<=i:=hx;show wpAny_nextOf_list_end hh t c (by simp;omega) hE
end
abbrev Zs.is (K:Kr)(H:Hp)(i:Kf)(v:V):Zs->Prop
 |.tup a=>∀xs,SqT K H a xs->xs[i]?=ba v
 |.lst a=>∀xs,SqL K H a xs->xs[i]?=ba v
def Zs.at_is {S:Zs}{X:Cx}{J:J5 (Kj×Mf)}{Y:L2.St}{H:Hp}{s:Kc}{i:Kf}{v:V}(I:Inv X J Y H s)(h:S.at X.K H i v):S.is X.K H i v:=by
 cases S with
 |tup a=>obtain⟨xs,hq,hx⟩:=h;show λys hy=>by rw[I.tuple_inj hy hq];show hx
 |lst a=>obtain⟨xs,hq,hx⟩:=h;show λys hy=>by rw[I.list_inj hy hq];show hx
abbrev Io (K:Kr)(S1 S2:Zs):It:=
 #[λi H=>∃x y,S1.at K H i x/\S2.at K H i y,λi H v H'=>∃p x y,S1.is K H i x/\S2.is K H i y/\v=.ref p/\H p=gV/\H'=bx H p (.tup [x,y]),λi H=>S1.out K H i\/(∃x,S1.at K H i x)/\S2.out K H i]
def zm {P:K9}{w:Ll}{K:Kr}{els:J5 KP}{k0:Kf}{tp:Na}{S1 S2:Zs}{z p q i1 i2:Kj}(D:Zap z p q i1 i2) :
  Turn P w K (.Tuple els k0 tp) (Io K S1 S2) [z,p,q,i1,i2] z (λi h=>Rr h z p q .none/\O5 h p (.ref i1) (.ref i2)/\(∃a b,O5 h q a b)/\S1.T i1 i h/\S2.T i2 i h) where
 mem:=by simp
 obj:=λi h #[a,b,#[u,v,c],d,e] b' hb=>by
  have it:∀{S:Zs}{it:Kj},S.T it i h->∃o,h.get? it=ba o/\∀v,o.data≠.cell v:=λ{S it} t=>by
   cases S with
   |tup a=>obtain⟨o,e,_,d⟩:=t;show#[o,e,λv z=>by rw[d]at z;cases z]
   |lst a=>obtain⟨o,e,_,d⟩:=t;show#[o,e,λv z=>by rw[d]at z;cases z]
  simp only[KD,Li,Mo]at hb;rcases hb with rfl|rfl|rfl|rfl|rfl
  ·show#[_,a,λv z=>by cases z]
  ·show#[_,b,λv z=>by cases z]
  ·show#[_,c,λv z=>by cases z]
  ·show it d
  ·show it e
 keep:=λi h h' #[a,b,#[u,v,c],d,e] k=>#[k z (by simp) _ a,k p (by simp) _ b,#[u,v,k q (by simp) _ c],Zs.keep d (k i1 (by simp)),Zs.keep e (k i2 (by simp))]
 item:=by
  intro X hP hw hK hc i J s Y H E I hf st hg;subst hP hw hK;obtain⟨x,y,g1,g2⟩:=hg;obtain⟨a,b,⟨u,v,c⟩,d,e⟩:=st;have hf4:∀b∈[z,q,i1,i2],ip X J H b:=λb hb=>hf b (by simp only[KD,Li,Mo]at hb ⊢;rcases hb with h|h|h|h<;>simp[h])
  obtain⟨C1,Zz,c1,k1⟩:=Zs.zit (it:=i1) (Uqb:=ba x) I hf4 g1;obtain⟨C2,Zq,c2,k2⟩:=Zs.zit (it:=i2) (Uqb:=ba y) I hf4 g2;have hT:s.TypeIs (.ref z) "zip":=#[_,a,rfl];unfold pyNext;show J6 (N3 (LA (name:=Mx "__next__") hT F.slot_zip_next (LG F.slot_zip_next hT F.entry_zip_next ?_ (F.args_zip_next_1 _))));show lh D Zz (λ_ _=>Zq) k1 k2 (I.ok.hd hc) a b c d e c1 c2 (λV1 V2 e1 e2 u1 u2 g tk r1 r2 zg qg t1 t2 ng kp=>?_) (λz=>by rcases z with z|z<;>cases z)
  cases e1;cases e2;show Kd #[_,rfl,?_];show wpAny_letOwnedTupleGo_zip (s:={s with heap:=g,toks:=tk}) zg λg' zg' sb=>?_
  have N0:H ⇑s.heap.objs=gV:=I.hok.fresh (Ki _);have lt:∀{b:Kj},b∈[z,p,q,i1,i2]->⇑s.heap.objs≠b:=λ{b} hb=>by
   have:∃o,s.heap.get? b=ba o:=by
    have it:∀{S:Zs}{it:Kj},S.T it i s.heap->∃o,s.heap.get? it=ba o:=λ{S it} t=>by
     cases S with
     |tup a=>obtain⟨o,e,_⟩:=t;show#[o,e]
     |lst a=>obtain⟨o,e,_⟩:=t;show#[o,e]
    simp only[KD,Li,Mo]at hb;rcases hb with rfl|rfl|rfl|rfl|rfl
    ·show#[_,a]
    ·show#[_,b]
    ·show#[_,c]
    ·show it d
    ·show it e
   obtain⟨o,e⟩:=this;show Mb (KC e)
  have up:∀b o,b∉[z,q,i1,i2]->s.heap.get? b=ba o->g'.get? b=ba o:=λb o hb e=>by
   simp only[KD,Li,Mo,Sq]at hb;show sb.extBut _ _ hb.1 (kp b o hb.1 hb.2.1 hb.2.2.1 hb.2.2.2 e)
  have I1:Inv X J Y H {s with heap:=g',toks:=tk}:=Mi.Inv.turnedL I up hf4
  have ng':O5 g' ⇑s.heap.objs u1 u2:=sb.extBut _ _ (lt (by simp)) ng
  have I2:Inv X J Y (bx H ⇑s.heap.objs (.tup [x,y])) {s with heap:=g',toks:=tk}:=by
   show Mi.Inv.adopt I1 N0 (.inr I.sz) (Mb I.lt) (λw c e=>?_) (λp hp=>?_) #[by change 2<=sizeLine;decide,[u1,u2],.cons r1 #v[r2],#[_,ng',rfl,0,rfl]]
   ·obtain⟨v,q⟩:=I.cell w c e;show KO q.lt
   ·show KO (KC (I.pin p hp).1)
  show#[.ref ⇑s.heap.objs,_,I2,rfl,#[⇑s.heap.objs,x,y,Zs.at_is I g1,Zs.at_is I g2,rfl,N0,rfl],#[zg',up p _ ?_ b,#[u1,u2,sb.extBut _ _ D.qz qg],Zs.keep t1 λo e=>sb.extBut _ _ D.iz e,Zs.keep t2 λo e=>sb.extBut _ _ D.jz e],λb hb=>?_]
  ·revert KD Li Mo Sq;show#[D.pz,D.pq,D.pi,D.pj]
  ·rw[aC (Ne.symm (lt hb))];show(hf b hb).1
 done:=by
  intro X hP hw hK hc i J s Y H E I hf st hg;subst hP hw hK;obtain⟨a,b,⟨u,v,c⟩,d,e⟩:=st;have hf4:∀b∈[z,q,i1,i2],ip X J H b:=λb hb=>hf b (by simp only[KD,Li,Mo]at hb ⊢;rcases hb with h|h|h|h<;>simp[h])
  have hT:s.TypeIs (.ref z) "zip":=#[_,a,rfl];unfold pyNext;show J6 (N3 (LA (name:=Mx "__next__") hT F.slot_zip_next (LG F.slot_zip_next hT F.entry_zip_next ?_ (F.args_zip_next_1 _))));have ends:∀h' tk e,(∀c o,c≠z->c≠q->c≠i1->c≠i2->s.heap.get? c=ba o->h'.get? c=ba o)->(∃o,h'.get? e=ba o/\o.cls=.type "StopIteration")->
    wpAny (model X.prog X.w) X.A (do if <- isInstance (.ref e) (.type "StopIteration")then pure (gV:Ke J9)else throw (.ref e)) (λr s1=>r=gV/\Inv X J Y H s1) E {s with heap:=h',toks:=tk}:=λh' tk e k #[o,ho,hc]=>
   J6 (NI (T:="StopIteration") (b:=true) #[o,ho,hc] PB (Kd #[rfl,Mi.Inv.turnedL I (λb o hb e=>by
    simp only[KD,Li,Mo,Sq]at hb;show k b o hb.1 hb.2.1 hb.2.2.1 hb.2.2.2 e) hf4]))
  rcases hg with g1|⟨⟨x,g1⟩,g2⟩
  ·obtain⟨C1,Zz,c1,k1⟩:=Zs.zit (it:=i1) (Uqb:=gV) I hf4 g1;show lh (Uqa:=gV) D Zz (λV1 e1=>by cases e1) k1 (C2:=λ_=>SN) (λ_ _ _ _=>trivial) (I.ok.hd hc) a b c d e c1 trivial (λV1 V2 e1 _=>by cases e1) λ_ h' tk e k he=>ends h' tk e k he
  ·obtain⟨C1,Zz,c1,k1⟩:=Zs.zit (it:=i1) (Uqb:=ba x) I hf4 g1;obtain⟨C2,Zq,c2,k2⟩:=Zs.zit (it:=i2) (Uqb:=gV) I hf4 g2;show lh D Zz (λ_ _=>Zq) k1 k2 (I.ok.hd hc) a b c d e c1 c2 (λV1 V2 _ e2=>by cases e2) λ_ h' tk e k he=>ends h' tk e k he
 self:=λ_ _ _ _ _ st h=>Sx st.1 h
end Mi
namespace Mi
open PySem PySem.Spec PyProof.Rows L2
abbrev FR:W->Ke (J5 W)
 |.tup xs=>ba xs
 |_=>gV
abbrev Cw (f:FA):FI:=λZ S=>match f Z S with
 |some ([x,y],S1)=>match FR x,FR y with
  |some xs,ba ys=>ba (.its (l8 xs ys),S1)
  |_,_=>match x,y with
   |.ref r,.ref q=>match gr S1 r,gr S1 q with
    |some _,ba _=>ba (.zl r q,S1)
    |_,_=>gV
   |_,_=>gV
 |_=>gV
section
variable{X:Cx}{J:J5 (Kj×Mf)}{Y:L2.St}{H:Hp}{s:Kc}{A:J5 Kj}
abbrev ZRel (K:Kr)(A:J5 Kj)(H:Hp)(xs:J5 W):Zs->Prop
 |.tup a=>∃vs,SqT K H a vs/\RelL K A H xs vs
 |.lst a=>LV
def ZRel.mono {K:Kr}{A A':J5 Kj}{H H':Hp}{xs:J5 W}{S:Zs}(e:Ext K A H A' H')(h:ZRel K A H xs S):ZRel K A' H' xs S:=by
 cases S with
 |tup a=>obtain⟨vs,h1,h2⟩:=h;show#[vs,e.tp _ _ h1,h2.mono e]
 |lst a=>show h
def ZRel.at {K:Kr}{xs:J5 W}{S:Zs}{i:Kf}{w:W}(h:ZRel K A H xs S)(hi:xs[i]?=ba w):∃v,S.at K H i v/\Rel K A H w v:=by
 cases S with
 |tup a=>obtain⟨vs,h1,h2⟩:=h;obtain⟨v,h3,h4⟩:=h2.get hi;show#[v,#[vs,h1,h3],h4]
 |lst a=>show h.elim
def ZRel.is {K:Kr}{xs:J5 W}{S:Zs}{i:Kf}{w:W}{v:V}(h:ZRel K A H xs S)(hi:xs[i]?=ba w)(z:S.is K H i v):Rel K A H w v:=by
 obtain⟨v',h1,h2⟩:=h.at hi;cases S with
 |tup a=>
  obtain⟨vs,q,e⟩:=h1;have:=z vs q;rw[e]at this;cases this
  show h2
 |lst a=>show h.elim
def ZRel.out {K:Kr}{xs:J5 W}{S:Zs}{i:Kf}(h:ZRel K A H xs S)(hi:↥xs<=i):S.out K H i:=by
 cases S with
 |tup a=>obtain⟨vs,h1,h2⟩:=h;show#[vs,h1,by rw[<- ↥h2];show hi]
 |lst a=>show h.elim
def qw {xs ys:J5 W}{i:Kf}{w:W}(h:(l8 xs ys)[i]?=ba w):∃x y,xs[i]?=ba x/\ys[i]?=ba y/\w=.tup [x,y]:=by
 unfold l8 at h;rw[QQ]at h;split at h
 ·rename_i x y e1 e2;cases h;show#[x,y,e1,e2,rfl]
 ·cases h
def Cy {S1 S2:Zs}{xs ys:J5 W}(z1:ZRel X.K A H xs S1)(z2:ZRel X.K A H ys S2):MIt X.w X.K (.its (l8 xs ys)) (Io X.K S1 S2) A H:=by
 show#[λA' H' S i w e so hi=>?_,λA' H' S i e so hi=>?_]
 ·simp only[MI.at,K4]at hi;obtain⟨x,y,e1,e2,rfl⟩:=qw hi;obtain⟨v,g1,r1⟩:=(z1.mono e).at e1;obtain⟨u,g2,r2⟩:=(z2.mono e).at e2;show#[#[v,u,g1,g2],λp H2 #[a,v',u',q1,q2,hp,hn,hH]=>?_]
  subst hp hH;have ex:Ext X.K A' H' A' (bx H' a (.tup [v',u'])):=ci (.inl hn);show#[ex,so.lay hn,.tup (.of aJ) #v[((z1.mono e).is e1 q1).mono ex,((z2.mono e).is e2 q2).mono ex]]
 ·simp only[MI.at,K4,Lz,l8,M6]at hi
  by_cases h1:↥xs<=i
  ·show .inl ((z1.mono e).out h1)
  ·have hx:i<↥xs:=∅
   obtain⟨v,g1,_⟩:=(z1.mono e).at (Kl hx);show .inr #[#[v,g1],(z2.mono e).out ∅]
def zn {r q:Kf}{a b:Kj}(ea:A[r]?=ba a)(eb:A[q]?=ba b):MIt X.w X.K (.zl r q) (Io X.K (.lst a) (.lst b)) A H:=by
 show#[λA' H' S i w e so hi=>?_,λA' H' S i e so hi=>?_]
 ·simp only[MI.at]at hi;split at hi
  ·rename_i xs ys hx hy;simp only[K4]at hi;obtain⟨x,y,e1,e2,rfl⟩:=qw hi;obtain⟨vs,h1,r1⟩:=bh so hx (e.ad _ _ ea);obtain⟨us,h2,r2⟩:=bh so hy (e.ad _ _ eb);obtain⟨v,g1,q1⟩:=r1.get e1;obtain⟨u,g2,q2⟩:=r2.get e2;show#[#[v,u,#[vs,h1,g1],#[us,h2,g2]],λp H2 #[c,v',u',z1,z2,hp,hn,hH]=>?_]
   subst hp hH;have t1:=z1 vs h1;rw[g1]at t1;cases t1
   have t2:=z2 us h2;rw[g2]at t2;cases t2
   have ex:Ext X.K A' H' A' (bx H' c (.tup [v,u])):=ci (.inl hn);show#[ex,so.lay hn,.tup (.of aJ) #v[q1.mono ex,q2.mono ex]]
  ·cases hi
 ·simp only[MI.at]at hi;split at hi
  ·rename_i xs ys hx hy;simp only[K4,Lz,l8,M6]at hi;obtain⟨vs,h1,r1⟩:=bh so hx (e.ad _ _ ea);obtain⟨us,h2,r2⟩:=bh so hy (e.ad _ _ eb)
   by_cases hl:↥xs<=i
   ·show .inl #[vs,h1,by rw[<- ↥r1];show hl]
   ·have hx':i<↥xs:=∅
    obtain⟨v,g1,_⟩:=r1.get (Kl hx');show .inr #[#[v,vs,h1,g1],us,h2,by rw[<- ↥r2];omega]
  ·cases hi
def oB {x:W}{v:V}{u:J9}{xs:J5 W}(I:Inv X J Y H s)(r:Rel X.K A H x v)(ru:RelV v u)(e:FR x=ba xs) :
  ∃(S:Zs) (o:Mf) (C:Lq->Prop),ZRel X.K A H xs S/\eX X.prog X.w u o C/\C s.heap/\(∀h o,C h->C (h.push o))/\o.isFreed=false/\∀it h,h.get? it=ba o->S.T it 0 h:=by
 cases r with
 |@tup ws a vs hq rl=>
  cases e;obtain⟨its,rv,p,_⟩:=I.tuple hq;obtain rfl:u=Lc a:=ru;show#[.tup a,{cls:=.type "tuple_iterator",data:=.fields [.ref a,.int 0 0].toArray},λh=>h.IsTuple a its.toArray,#[vs,hq,rl],λB s Q E c hQ=>RG c hQ,p,λh o #[ot,e,r]=>#[ot,J8 _ e,r],rfl,λit h e=>#[_,e,rfl,rfl]]
 |_=>cases e
def zo:bootBuiltins "zip" = ba (.type "zip"):=rfl
def uH {a:Kj}{xs:J5 V}{u:J9}(I:Inv X J Y H s)(ru:RelV (.ref a) u)(hq:SqL X.K H a xs) :
  ∃(o:Mf) (C:Lq->Prop),eX X.prog X.w u o C/\C s.heap/\(∀h o,C h->C (h.push o))/\o.isFreed=false/\∀it h,h.get? it=ba o->(Zs.lst a).T it 0 h:=by
 obtain⟨its,rv,p,_⟩:=I.list hq;obtain rfl:u=Lc a:=ru;show#[{cls:=.type "list_iterator",data:=.fields [.ref a,.int 0 0].toArray},λh=>h.IsList a its.toArray,λB s Q E c hQ=>N7 c hQ,p.isList,λh o #[ot,e,r]=>#[ot,J8 _ e,r],rfl,λit h e=>#[_,e,rfl,rfl]]
def EX {els:J5 KP}{k0:Kf}{tp:Na}{a b:KP}{f:FA}{p pos:Na}(hg:Gl X "zip")(hm:X.mg "zip" = gV)(ha:GA X [a,b] f)(hs:starEach [a,b] X.env=[(false,eval a X.env),(false,eval b X.env)])(hs2:starEach [b] X.env=[(false,eval b X.env)]) :
  GI X (.Tuple els k0 tp) (.Call (.Name "zip" p) [a,b] [] pos) (Cw f):=by
 intro J s Y H R I ⟨A,Z,S,mi,S',er,so,e,hq⟩;have fin:∀{s1:Kc}{H1:Hp}{u v:J9}{Sa Sb:Zs}{oa ob:Mf}{Ca Cb:Lq->Prop},Inv X J Y H1 s1->eX X.prog X.w u oa Ca->Ca s1.heap->oa.isFreed=false->(∀it h,h.get? it=ba oa->Sa.T it 0 h)->eX X.prog X.w v ob Cb->Cb s1.heap->(∀h o,Cb h->Cb (h.push o))->ob.isFreed=false->(∀it h,h.get? it=ba ob->Sb.T it 0 h)->R (Io X.K Sa Sb) H1->
   wpAny (model X.prog X.w) X.A (call (.type "zip") [u,v]) (λv s=>wpAny (model X.prog X.w) X.A (pyIter v) (Gd X J Y (.Tuple els k0 tp) R) X.xe s) X.xe s1:=λ{s1 H1 u v Sa Sb oa ob Ca Cb} I1 ia ca na ta ib cb kb nb tb hR=>by
  show zf ia ib kb ca cb na nb λh' hz hp hq' g1 g2 hsz kp=>?_
  have I2:Inv X J Y H1 {s1 with heap:=h'}:=I1.kept (t':=s1.toks) kp
  show Sx (s:={s1 with heap:=h'}) hz ?_
  have D:Zap (⇑s1.heap.objs+4) (⇑s1.heap.objs+2) (⇑s1.heap.objs+3) ⇑s1.heap.objs (⇑s1.heap.objs+1):=by constructor<;>(intro z;simp at z)
  show#[⇑s1.heap.objs+4,_,_,_,H1,rfl,I2,zm (S1:=Sa) (S2:=Sb) D,#[hz,hp,#[_,_,hq'],ta _ _ g1,tb _ _ g2],λb hb=>?_,hR]
  have hb':⇑s1.heap.objs<=b:=by
   simp only[KD,Li,Mo]at hb;rcases hb with rfl|rfl|rfl|rfl|rfl
   ·show Nc _ _
   ·show Nc _ _
   ·show Nc _ _
   ·show Ki _
   ·show Nc _ _
  show I1.fpOk hb' (I1.hok.fresh hb')
 unfold Cw at e;split at e
 ·rename_i x y S1 h1;show Vd (io I hg hm zo (MG (bu (ha pos J s Y H _ I #[A,Z,S,_,_,er,so,h1,λ_ _ z=>z]) λus s1 #[vs,H1,I1,r1,A1,z1,z2,z3]=>?_) (by rw[hs,hs2]) (by rw[hs2];rfl)))
  cases z3 with
  |cons ra t=>
   cases t with
   |cons rb t=>
    cases t;cases r1 with
    |cons ua t=>
     cases t with
     |cons ub t=>
      cases t;split at e
      ·rename_i xs ys e1 e2;cases e;obtain⟨Sa,oa,Ca,za,ia,ca,ka,na,ta⟩:=oB I1 ra ua e1;obtain⟨Sb,ob,Cb,zb,ib,cb,kb,nb,tb⟩:=oB I1 rb ub e2;show fin I1 ia ca na ta ib cb kb nb tb (hq _ _ A1 z1 z2 (Cy za zb))
      ·split at e
       ·rename_i r q;split at e
        ·rename_i xs ys hx hy;cases e;cases ra with
         |@ref _ a ea=>
          cases rb with
          |@ref _ b eb=>
           obtain⟨va,q1,_⟩:=bh z2 hx ea;obtain⟨vb,q2,_⟩:=bh z2 hy eb;obtain⟨oa,Ca,ia,ca,ka,na,ta⟩:=uH I1 ua q1;obtain⟨ob,Cb,ib,cb,kb,nb,tb⟩:=uH I1 ub q2;show fin I1 ia ca na ta ib cb kb nb tb (hq _ _ A1 z1 z2 (zn ea eb))
        ·cases e
       ·cases e
 ·cases e
end
open PySem.Builtin.SmallTypes (nextOf)
section
variable{prog:K9}{w:Ll}{B:Ld}{E:J9->Kc->Prop}{s:Kc}{e it:Kj}{T:Kf->Lq->Prop}{C:Lq->Prop}{i:Kf}{old:J9}
structure EnAt (h0 h:Lq)(e it:Kj)(fs:KL J9)(T:Lq->Prop):Prop where
 here:h.get? e=ba {cls:=.type "enumerate",dict:=gV,data:=.fields fs,slots:=#[]}
 turn:T h
 kept:∀b o,b≠e->b≠it->h0.get? b=ba o->h.get? b=ba o
def EnAt.put {h0:Lq}{fs:KL J9}{T:Lq->Prop}{k:Kf}{v:J9}{Q:Vc->Kc->Prop}(x:EnAt h0 s.heap e it fs T)(hne:e≠it)(kT:∀h h',T h->(∀o,h.get? it=ba o->h'.get? it=ba o)->T h')(hk:k<⇑fs)
  (q:∀h',EnAt h0 h' e it (fs.setIfInBounds k v) T->Mw e s.heap h'->Q () {s with heap:=h'}):wpAny (model prog w) B (setField (.ref e) k v) Q E s:=
 Nh x.here hk λh' y sb=>q h' #[y,kT _ _ x.turn λo z=>sb.extBut _ _ (Ne.symm hne) z,λb o h1 h2 z=>sb.extBut b o h1 (x.kept b o h1 h2 z)] sb
def ni {Uqb:Ke (J9->Prop)}{Q:J9->Kc->Prop}(Zx:Zit prog w it T C i Uqb)(hh:B.handled=gV)(he:US s.heap e it (i:Ks) old)(t:T i s.heap)(c:C s.heap)(hne:e≠it)
  (hI:∀V,Uqb=ba V->∀u h' tk tk0,V u->IsEnumOut h' e it ((i:Ks)+1) u ⇑s.heap.objs->T (i+1) h'->h'.get? ⇑s.heap.objs=ba {cls:=.type "tuple",data:=.seq [.int i tk0,u].toArray}->
   (∀b o,b≠e->b≠it->s.heap.get? b=ba o->h'.get? b=ba o)->Q (.ref ⇑s.heap.objs) {s with heap:=h',toks:=tk})
  (hE:Uqb=gV->∀h' x,QU it s.heap h'->(∃o,h'.get? x=ba o/\o.cls=.type "StopIteration")->E (.ref x) {s with heap:=h'}) :
  wpAny (model prog w) B (NE.«enumerate.__next__» #[[.ref e],[]]) (λfin s'=>∃v,fin=.done (.ret v)/\Q v s') E s:=by
 obtain⟨hp,g,d,tk,os⟩:=s;change wpAny _ _ (field (.ref e) 2 >>= _) _ _ _;show J6 (Mh he rfl (x:=.ref it) rfl (J6 ?_));cases Uqb with
 |none=>show Zx.stop rfl _ _ _ _ hh t c λh' x a b=>hE rfl h' x a b
 |some V=>
  show Zx.next V rfl _ _ _ _ t c λu ha tka hu ta sba=>?_
  have kT:=Zx.keep (i+1);have xa:EnAt hp ha e it [.none,.bool false,.ref it,rawInt i,.none,old].toArray (T (i+1)):=#[(sba.2 e hne).trans he,ta,λb o _ h2 z=>sba.extBut b o h2 z]
  have za:⇑ha.objs=⇑hp.objs:=sba.1;clear sba ta;change wpAny _ _ (field (.ref e) 3 >>= _) _ _ #[ha,g,d,tka,os];show J6 (Mh xa.here rfl (x:=rawInt i) rfl ?_);change wpAny _ _ (field (.ref e) 4 >>= _) _ _ #[ha,g,d,tka,os];show J6 (Mh xa.here rfl (x:=.none) rfl ?_);change wpAny _ _ (mkInt i >>= _) _ _ #[ha,g,d,tka,os];show J6 (SK (J6 (xa.put (s:=#[ha,g,d,tka+1,os]) hne kT (by simp) λhb xb sb1=>J6 (xb.put (s:=#[hb,g,d,tka+1,os]) hne kT (by simp) λhc xc sb2=>J6 (PD ?_)))))
  have zc:⇑hc.objs=⇑hp.objs:=by rw[sb2.1,<- za];show sb1.1
  have hel:⇑hp.objs≠e:=Mb (KC he);have new:=Ku hc (o:={cls:=.type "tuple",data:=.seq [.int i tka,u].toArray}) rfl;have xd:EnAt hp (hc.push {cls:=.type "tuple",data:=.seq [.int i tka,u].toArray}) e it [.none,.bool false,.ref it,rawInt ((i:Ks)+1),.none,old].toArray (T (i+1)):=#[J8 _ xc.here,kT _ _ xc.turn λo z=>J8 _ z,λb o h1 h2 z=>J8 _ (xc.kept b o h1 h2 z)]
  rw[zc]at new;change wpAny _ _ (Mv (.ref e) >>= _) _ _ #[hc.push _,g,d,tka+1,os];rw[zc];generalize hc.push {cls:=.type "tuple",data:=.seq [.int i tka,u].toArray}=hd at new xd ⊢;clear zc sb2 xc sb1 xb hb xa za;show J6 ?_;unfold Mv;show J6 (Mh xd.here rfl (x:=.none) rfl (Kd ?_));revert Mm;show J6 (Pq (J6 (Mh xd.here rfl (x:=old) rfl (J6 (xd.put (s:=#[hd,g,d,tka+1,os]) hne kT (by simp) λh1 x1 s1=>J6 ?_)))))
  unfold M5;show J6 (x1.put (s:=#[h1,g,d,tka+1,os]) hne kT (by simp) λh2 x2 s2=>x2.put (s:=#[h2,g,d,tka+1,os]) hne kT (by simp) λh3 x3 s3=>J6 (Od (Kd #[_,rfl,hI V rfl u h3 (tka+1) tka hu x3.here x3.turn ?_ x3.kept])))
  show s3.extBut _ _ hel (s2.extBut _ _ hel (s1.extBut _ _ hel new))
variable{v:J9}{o:Mf}
def qx (h1:eX prog w v o C) :
  MeetsIn prog w (NE.«enumerate.__new__» #[[.type "enumerate",v],[]]) (λ_ R s=>C s.heap/\R (.ok (.ret (.ref (s.heap.push o).objs.size))) {s with heap:=(s.heap.push o).push {cls:=.type "enumerate",data:=.fields [.none,.bool false,.ref ⇑s.heap.objs,rawInt 0,.none,.none].toArray}}):=
 .of_wp λA R s h=>by
  obtain⟨hp,g,d,tk,os⟩:=s;obtain⟨c,h⟩:=h;have hsub:=sub_enumerate;have d1:∀(B:Ld) (Q:J9->Kc->Prop) (E:J9->Kc->Prop),Q (.ref ⇑hp.objs) #[hp.push o,g,d,tk,os]->wpAny (model prog w) B (pyIter v) Q E #[hp,g,d,tk,os]:=λB Q E q=>h1 B #[hp,g,d,tk,os] Q E c q
  wp_walk
  show wpAny_stack_any λst=>Kd ?_
  split
  ·rename_i c _ _ _ _ _;cases(c==Mq "enumerate")
   ·wp_walk using d1 _ _ _
    show#[_,rfl,h]
   ·wp_walk using d1 _ _ _
    show#[_,rfl,h]
  ·wp_walk using d1 _ _ _
   show#[_,rfl,h]
def wt {Q:J9->Kc->Prop}(h1:eX prog w v o C)(c:C s.heap)(n1:o.isFreed=false)
  (h:∀h',US h' (⇑s.heap.objs+1) ⇑s.heap.objs 0 .none->h'.get? ⇑s.heap.objs=ba o->(∀b o,s.heap.get? b=ba o->h'.get? b=ba o)->Q (.ref (⇑s.heap.objs+1)) {s with heap:=h'}) :
  wpAny (model prog w) B (call (.type "enumerate") [v]) Q E s:=by
 show Tx F.called_enumerate #v[] (F.typeCall_enumerate_1 _) (F.newCall_enumerate_1 _) (λobj=>F.args_object_init_2 obj _) F.entry_enumerate_new (qx h1) #[c,?_]
 have hz:(s.heap.push o).objs.size=⇑s.heap.objs+1:=Mj ..;change _/\_;rw[hz];have he:US ((s.heap.push o).push {cls:=.type "enumerate",data:=.fields [.none,.bool false,.ref ⇑s.heap.objs,rawInt 0,.none,.none].toArray}) (⇑s.heap.objs+1) ⇑s.heap.objs 0 .none:=by
  have:=Ku (s.heap.push o) (o:={cls:=.type "enumerate",data:=.fields [.none,.bool false,.ref ⇑s.heap.objs,rawInt 0,.none,.none].toArray}) rfl;rw[hz]at this;show this
 show#[#[_,he,rfl],h _ he (J8 _ (Ku _ n1)) λb o x=>J8 _ (J8 _ x)]
end
abbrev JM (K:Kr)(S1:Zs):It:=
 #[λi H=>∃x,S1.at K H i x,λi H v H'=>∃p x,S1.is K H i x/\v=.ref p/\H p=gV/\H'=bx H p (.tup [.int i,x]),λi H=>S1.out K H i]
def wu {P:K9}{w:Ll}{K:Kr}{els:J5 KP}{k0:Kf}{tp:Na}{S1:Zs}{z i1:Kj}(D:z≠i1) :
  Turn P w K (.Tuple els k0 tp) (JM K S1) [z,i1] z (λi h=>(∃old,US h z i1 i old)/\S1.T i1 i h) where
 mem:=by simp
 obj:=λi h #[#[old,a],d] b' hb=>by
  have it:∀{S:Zs}{it:Kj},S.T it i h->∃o,h.get? it=ba o/\∀v,o.data≠.cell v:=λ{S it} t=>by
   cases S with
   |tup a=>obtain⟨o,e,_,d⟩:=t;show#[o,e,λv z=>by rw[d]at z;cases z]
   |lst a=>obtain⟨o,e,_,d⟩:=t;show#[o,e,λv z=>by rw[d]at z;cases z]
  simp only[KD,Li,Mo]at hb;rcases hb with rfl|rfl
  ·show#[_,a,λv z=>by cases z]
  ·show it d
 keep:=λi h h' #[#[old,a],d] k=>#[#[old,k z (by simp) _ a],Zs.keep d (k i1 (by simp))]
 item:=by
  intro X hP hw hK hc i J s Y H E I hf st hg;subst hP hw hK;obtain⟨x,g1⟩:=hg;obtain⟨⟨old,a⟩,d⟩:=st;have hf4:∀b∈[z,z,i1,i1],ip X J H b:=λb hb=>hf b (by simp only[KD,Li,Mo]at hb ⊢;rcases hb with h|h|h|h<;>simp[h])
  obtain⟨C1,Zz,c1,k1⟩:=Zs.zit (it:=i1) (Uqb:=ba x) I hf4 g1;have hT:s.TypeIs (.ref z) "enumerate":=#[_,a,rfl];unfold pyNext;show J6 (N3 (LA (name:=Mx "__next__") hT F.slot_enumerate_next (LG F.slot_enumerate_next hT F.entry_enumerate_next ?_ (F.args_enumerate_next_1 _))));show ni Zz (I.ok.hd hc) a d c1 D (λV e1 u g tk tk0 r1 zg t1 ng kp=>?_) (λz=>by cases z)
  cases e1;show Kd #[_,rfl,?_];show wpAny_letOwnedTupleGo_enum (s:={s with heap:=g,toks:=tk}) zg λg' zg' sb=>?_
  have N0:H ⇑s.heap.objs=gV:=I.hok.fresh (Ki _);have lt:∀{b:Kj},b∈[z,i1]->⇑s.heap.objs≠b:=λ{b} hb=>by
   have:∃o,s.heap.get? b=ba o:=by
    have it:∀{S:Zs}{it:Kj},S.T it i s.heap->∃o,s.heap.get? it=ba o:=λ{S it} t=>by
     cases S with
     |tup a=>obtain⟨o,e,_⟩:=t;show#[o,e]
     |lst a=>obtain⟨o,e,_⟩:=t;show#[o,e]
    simp only[KD,Li,Mo]at hb;rcases hb with rfl|rfl
    ·show#[_,a]
    ·show it d
   obtain⟨o,e⟩:=this;show Mb (KC e)
  have up:∀b o,b∉[z,i1]->s.heap.get? b=ba o->g'.get? b=ba o:=λb o hb e=>by
   simp only[KD,Li,Mo,Sq]at hb;show sb.extBut _ _ hb.1 (kp b o hb.1 hb.2 e)
  have I1:Inv X J Y H {s with heap:=g',toks:=tk}:=Mi.Inv.turnedL I up hf
  have ng':g'.get? ⇑s.heap.objs=ba {cls:=.type "tuple",data:=.seq [.int i tk0,u].toArray}:=sb.extBut _ _ (lt (by simp)) ng
  have I2:Inv X J Y (bx H ⇑s.heap.objs (.tup [.int i,x])) {s with heap:=g',toks:=tk}:=by
   show Mi.Inv.adopt I1 N0 (.inr I.sz) (Mb I.lt) (λw c e=>?_) (λp hp=>?_) #[by change 2<=sizeLine;decide,[.int i tk0,u],.cons #[_,rfl] #v[r1],#[_,ng',rfl,0,rfl]]
   ·obtain⟨v,q⟩:=I.cell w c e;show KO q.lt
   ·show KO (KC (I.pin p hp).1)
  show#[.ref ⇑s.heap.objs,_,I2,rfl,#[⇑s.heap.objs,x,Zs.at_is I g1,rfl,N0,rfl],#[#[_,zg'],Zs.keep t1 λo e=>sb.extBut _ _ (Ne.symm D) e],λb hb=>?_]
  rw[aC (Ne.symm (lt hb))];show(hf b hb).1
 done:=by
  intro X hP hw hK hc i J s Y H E I hf st hg;subst hP hw hK;obtain⟨⟨old,a⟩,d⟩:=st;have hf4:∀b∈[z,z,i1,i1],ip X J H b:=λb hb=>hf b (by simp only[KD,Li,Mo]at hb ⊢;rcases hb with h|h|h|h<;>simp[h])
  obtain⟨C1,Zz,c1,k1⟩:=Zs.zit (it:=i1) (Uqb:=gV) I hf4 hg;have hT:s.TypeIs (.ref z) "enumerate":=#[_,a,rfl];unfold pyNext;show J6 (N3 (LA (name:=Mx "__next__") hT F.slot_enumerate_next (LG F.slot_enumerate_next hT F.entry_enumerate_next ?_ (F.args_enumerate_next_1 _))));show ni Zz (I.ok.hd hc) a d c1 D (λV e1=>by cases e1) λ_ h' e k #[o,ho,hc]=>?_
  show J6 (NI (T:="StopIteration") (b:=true) #[o,ho,hc] PB (Kd #[rfl,Mi.Inv.turnedL (t':=s.toks) I (λb o hb e=>by
    simp only[KD,Li,Mo,Sq]at hb;show k b o hb.2 e) hf]))
 self:=λ_ _ _ _ _ st h=>by obtain⟨⟨old,a⟩,_⟩:=st;show R9 a h
abbrev oE (xs:J5 W):J5 W:=xs.zipIdx.map λp=>.tup [.int (p.2:Kf),p.1]
def qA {xs:J5 W}{i:Kf}{w:W}(h:(oE xs)[i]?=ba w):∃x,xs[i]?=ba x/\w=.tup [.int i,x]:=by
 unfold oE at h;rw[Kh,List.getElem?_zipIdx,Tq,Kb]at h;obtain⟨x,h1,rfl⟩:=h;show#[x,h1,by simp]
abbrev Cz (f:FA):FI:=λZ S=>match f Z S with
 |some ([x],S1)=>match FR x with
  |some xs=>ba (.its (oE xs),S1)
  |none=>gV
 |_=>gV
section
variable{X:Cx}{J:J5 (Kj×Mf)}{Y:L2.St}{H:Hp}{s:Kc}{A:J5 Kj}
def zp {S1:Zs}{xs:J5 W}(z1:ZRel X.K A H xs S1):MIt X.w X.K (.its (oE xs)) (JM X.K S1) A H:=by
 show#[λA' H' S i w e so hi=>?_,λA' H' S i e so hi=>?_]
 ·simp only[MI.at,K4]at hi;obtain⟨x,e1,rfl⟩:=qA hi;obtain⟨v,g1,r1⟩:=(z1.mono e).at e1;show#[#[v,g1],λp H2 #[a,v',q1,hp,hn,hH]=>?_]
  subst hp hH;have ex:Ext X.K A' H' A' (bx H' a (.tup [.int i,v'])):=ci (.inl hn);show#[ex,so.lay hn,.tup (.of aJ) #v[.int,((z1.mono e).is e1 q1).mono ex]]
 ·simp only[MI.at,K4,Lz,oE,J7,List.length_zipIdx]at hi;show(z1.mono e).out hi
def ww:bootBuiltins "enumerate" = ba (.type "enumerate"):=rfl
def CA {els:J5 KP}{k0:Kf}{tp:Na}{a:KP}{f:FA}{p pos:Na}(hg:Gl X "enumerate")(hm:X.mg "enumerate" = gV)(ha:GA X [a] f)(hs:starEach [a] X.env=[(false,eval a X.env)]) :
  GI X (.Tuple els k0 tp) (.Call (.Name "enumerate" p) [a] [] pos) (Cz f):=by
 intro J s Y H R I ⟨A,Z,S,mi,S',er,so,e,hq⟩;unfold Cz at e;split at e
 ·rename_i x S1 h1;split at e
  ·rename_i xs e1;cases e;show Vd (io I hg hm ww (MG (bu (ha pos J s Y H _ I #[A,Z,S,_,_,er,so,h1,λ_ _ z=>z]) λus s1 #[vs,H1,I1,r1,A1,z1,z2,z3]=>?_) (by rw[hs];rfl) (by rfl)))
   cases z3 with
   |cons ra t=>
    cases t;cases r1 with
    |cons ua t=>
     cases t;obtain⟨Sa,oa,Ca,za,ia,ca,ka,na,ta⟩:=oB I1 ra ua e1;show wt ia ca na λh' hz g1 kp=>?_
     have I2:Inv X J Y H1 {s1 with heap:=h'}:=I1.kept (t':=s1.toks) kp
     show R9 (s:={s1 with heap:=h'}) hz ?_
     show#[⇑s1.heap.objs+1,_,_,_,H1,rfl,I2,wu (S1:=Sa) (i1:=⇑s1.heap.objs) (by simp),#[#[_,hz],ta _ _ g1],λb hb=>?_,hq _ _ A1 z1 z2 (zp za)]
     have hb':⇑s1.heap.objs<=b:=by
      simp only[KD,Li,Mo]at hb;rcases hb with rfl|rfl
      ·show Nc _ _
      ·show Ki _
     show I1.fpOk hb' (I1.hok.fresh hb')
  ·cases e
 ·cases e
end
end Mi
namespace Mi
open PySem PySem.Spec PyProof.Rows L2
abbrev wx (g1 g2:J5 W->aa->Ke (W×aa))(xs:J5 W)(S:aa):Ke (W×aa):=match g1 xs S with
 |some r=>ba r
 |none=>g2 xs S
def ll {X:Cx}{f:J9}{g1 g2:J5 W->aa->Ke (W×aa)}(h1:LCall X f g1)(h2:LCall X f g2):LCall X f (wx g1 g2):=by
 intro J s Y H A S xs vs us w S' I so rl rv e;unfold wx at e;split at e
 ·rename_i r hr;cases e;show h1 J s Y H A S xs vs us w S' I so rl rv hr
 ·show h2 J s Y H A S xs vs us w S' I so rl rv e
inductive Bi where|len|list|tuple|int|set|sorted|range|all|min
 deriving NQ
abbrev Bi.fn:Bi->J5 W->aa->Ke (W×aa)
 |.len=>sn|.list=>wx mI mO|.tuple=>lc|.int=>GB|.set=>la|.sorted=>wx cN fM|.range=>r9|.all=>BK|.min=>wx sr uA
abbrev Bi.name:Bi->KJ
 |.len=>"len"|.list=>"list"|.tuple=>"tuple"|.int=>"int"|.set=>"set"|.sorted=>"sorted"|.range=>"range"|.all=>"all"|.min=>"min"
inductive Me where|append|extend|join|pop|get
 deriving NQ
abbrev Me.fn:Me->W->J5 W->aa->Ke (W×aa)
 |.append=>iP|.extend=>iQ|.join=>tX|.pop=>Em|.get=>t8
abbrev Me.name:Me->KJ
 |.append=>"append"|.extend=>"extend"|.join=>"join"|.pop=>"pop"|.get=>"get"
abbrev Me.ty:Me->L1
 |.append=>"list"|.extend=>"list"|.join=>"str"|.pop=>"list"|.get=>"dict"
inductive Tg where
 |nm (i:Kf)|tp (is:J5 Kf)
set_option genSizeOf false in
set_option genInjectivity false in
mutual
inductive E where
 |c (w:W)|v (i:Kf)
 |op (o:BOp) (a b:E)
 |cmp (o:COp) (a b:E)
 |and (a b:E)|or (a b:E)|not (a:E)
 |own (f:KJ) (n:Kf) (es:Es)|bi (b:Bi) (es:Es)|me (m:Me) (o:E) (es:Es)
 |ix (a b:E)|sl (a:E) (lo hi:Ep)|tup (es:Es)|lst (es:Es)
 |isi (c:L1) (a:E)
 |neg (a:E)|dnew|disp (es:Es)|ite (t a b:E)
 |comp (elt:E) (tg:Tg) (it:Ie) (cs:Es) (cap:J5 (Ke Kf))
inductive Es where
 |nil|cons (e:E) (es:Es)
inductive Ep where
 |no|yes (e:E)
inductive Ie where
 |seq (e:E)|rng (es:Es)|zip (es:Es)|rng2 (es:Es)|enu (es:Es)
end
set_option genSizeOf false in
set_option genInjectivity false in
mutual
inductive Sm where
 |set (i:Kf) (e:E)|asg (is:J5 Kf) (e:E)|par (i j:Kf) (es:Es)|put (o k e:E)
 |ex (e:E)|ret (e:E)|pass
 |ite (t:E) (a b:Ss)|whl (t:E) (b:Ss)|loop (tg:Tg) (it:Ie) (b:Ss)
inductive Ss where
 |nil|cons (s:Sm) (ss:Ss)
end
abbrev fX:Tg->FG
 |.nm i=>Dj i
 |.tp is=>FQ is
section
variable (M:KJ->FF)
mutual
def aA:E->FE
 |.c w=>fC w
 |.v i=>fV i
 |.op o a b=>BW (gk o) (aA a) (aA b)
 |.cmp o a b=>BX o (aA a) (aA b)
 |.and a b=>uB (aA a) (aA b)
 |.or a b=>B4 (aA a) (aA b)
 |.not a=>uC (aA a)
 |.own f n es=>qo n (M f) (cX es)
 |.bi b es=>jW b.fn (cX es)
 |.me m o es=>FP m.ty m.fn (aA o) (cX es)
 |.ix a b=>Jg (aA a) (aA b)
 |.sl a lo hi=>GR (aA a) (uI lo) (uI hi)
 |.tup es=>yU (cX es)
 |.lst es=>yV (cX es)
 |.isi c a=>y9 c (aA a)
 |.neg a=>yP (aA a)
 |.dnew=>Dk
 |.disp es=>qu (cX es)
 |.ite t a b=>B5 (c7 t) (aA a) (aA b)
 |.comp elt tg it cs cap=>lg (jy it) (fX tg) (CB cs) (aA elt) cap
def c7:E->FT
 |.cmp o a b=>yR (BX o (aA a) (aA b))
 |.and a b=>yS (c7 a) (c7 b)
 |.or a b=>GN (c7 a) (c7 b)
 |.not a=>BY (c7 a)
 |.c w=>g9 (fC w)
 |.v i=>g9 (fV i)
 |.op o a b=>g9 (BW (gk o) (aA a) (aA b))
 |.own f n es=>g9 (qo n (M f) (cX es))
 |.bi b es=>g9 (jW b.fn (cX es))
 |.me m o es=>g9 (FP m.ty m.fn (aA o) (cX es))
 |.ix a b=>g9 (Jg (aA a) (aA b))
 |.sl a lo hi=>g9 (GR (aA a) (uI lo) (uI hi))
 |.tup es=>g9 (yU (cX es))
 |.lst es=>g9 (yV (cX es))
 |.isi c a=>g9 (y9 c (aA a))
 |.neg a=>g9 (yP (aA a))
 |.dnew=>λ_ _=>gV
 |.disp _=>λ_ _=>gV
 |.ite _ _ _=>λ_ _=>gV
 |.comp _ _ _ _ _=>λ_ _=>gV
def cX:Es->FA
 |.nil=>i5
 |.cons e es=>dE (aA e) (cX es)
def CB:Es->FT
 |.nil=>Dl
 |.cons e .nil=>c7 e
 |.cons _ (.cons _ _)=>λ_ _=>gV
def uI:Ep->FO
 |.no=>EK
 |.yes e=>uE (aA e)
def jy:Ie->FI
 |.seq e=>ft (aA e)
 |.rng es=>sK (cX es)
 |.zip es=>Cw (cX es)
 |.rng2 es=>iRng2 (cX es)
 |.enu es=>Cz (cX es)
end
variable (fuel:Kf)
mutual
def gB:Sm->FS
 |.set i e=>lf (aA M e) (Dj i)
 |.asg is e=>lf (aA M e) (FQ is)
 |.par i j es=>Cj i j (cX M es)
 |.put o k e=>lf (aA M e) (Ci (aA M o) (aA M k))
 |.ex e=>Ce (aA M e)
 |.ret e=>Cg (aA M e)
 |.pass=>yZ
 |.ite t a b=>Ch (c7 M t) (gC a) (gC b)
 |.whl t b=>oz (c7 M t) (gC b) fuel
 |.loop tg it b=>y6 (jy M it) (fX tg) (gC b)
def gC:Ss->FS
 |.nil=>λZ S=>ba (.nx Z,S)
 |.cons s ss=>Cd (gB s) (gC ss)
end
end
structure Gam where
 sc:J5 (KJ×MD)
 N:J5 KJ
 fns:J5 (KJ×Kf)
 blt:J5 KJ
 dfn:KU
abbrev EY:Ke MD->KU
 |some .local=>true|some .cell=>true|some .free=>true|_=>false
abbrev CC:Ke MD->KU
 |some .cell=>true|some .free=>true|_=>false
abbrev gD (names outer:J5 (KJ×MD)):J5 (KJ×MD):=names.map λ(n,k)=>if (k==.free&&outer.lookup n==ba .cell)then(n,.cell)else(n,k)
abbrev slot (Γ:Gam)(x:KJ):Ke Kf:=if EY (Γ.sc.lookup x) && !(x==("__debug__": KJ)) && !(x==("__classdict__": KJ))then Γ.N.findIdx? (· == x)else gV
abbrev uJ:RN->Ke BOp
 |.Add=>ba .add|.Sub=>ba .sub|.Mult=>ba .mul|.FloorDiv=>ba .fdiv|.Mod=>ba .mod|.Pow=>ba .pow|_=>gV
abbrev uK:Ub->Ke COp
 |.Eq=>ba .eq|.NotEq=>ba .ne|.Lt=>ba .lt|.LtE=>ba .le|.Gt=>ba .gt|.GtE=>ba .ge|.In=>ba .isin|.NotIn=>ba .notin|.Is=>ba .is|.IsNot=>ba .isnot
abbrev CD (x:KJ):Ke Bi:=[Bi.len,.list,.tuple,.int,.set,.sorted,.range,.all,.min].find? λb=>b.name==x
abbrev CF (x:KJ):Ke Me:=[Me.append,.extend,.join,.pop,.get].find? λb=>b.name==x
abbrev G5 (Γ:Gam)(x:KJ):KU:=Γ.sc.lookup x==ba .globalImplicit && !(x==("__debug__": KJ))
abbrev zq (x:KJ):Ke L1:=if x==("bool": KJ)then ba "bool" else if x==("int": KJ)then ba "int" else if x==("str": KJ)then ba "str" else if x==("tuple": KJ)then ba "tuple" else if x==("list": KJ)then ba "list" else if x==("dict": KJ)then ba "dict" else gV
abbrev uL:J5 (Ke KP)->J5 KP->J5 KP
 |some k::ks,v::vs=>k::v::uL ks vs
 |_,_=>[]
abbrev CG (Γ:Gam)(f:KP->Ke E):J5 KP->Ke E
 |[a,.Name c _]=>if G5 Γ c&&Γ.blt.contains c then match zq c,f a with
  |some cs,ba a'=>ba (.isi cs a')
  |_,_=>gV
  else gV
 |_=>gV
abbrev gR:KP->KU
 |.Name _ _=>true|.Constant _ _ _=>true|.Subscript _ _ _=>true|_=>false
abbrev ln (Γ:Gam)(x:KJ):KU:=Γ.sc.lookup x==ba .globalImplicit && !(x==("__debug__": KJ))
abbrev da (Γ:Gam)(x:KJ):Ke Kf:=if (Γ.sc.lookup x==ba .local)||(Γ.dfn&&Γ.sc.lookup x==ba .cell)then Γ.N.findIdx? (· == x)else gV
abbrev cA (f:KP->Ke E)(es:J5 KP):Ke Es:=es.foldr (λe acc=>match f e,acc with|some e',ba es'=>ba (.cons e' es')|_,_=>gV) (ba .nil)
abbrev cB (f:KP->Ke E)(op:UR):J5 KP->Ke E
 |[]=>gV
 |[a]=>f a
 |a::b::aQ=>match f a,cB f op (b::aQ)with
  |some a',ba b'=>ba (match op with|.And=>.and a' b'|.Or=>.or a' b')
  |_,_=>gV
abbrev cP (f:KP->Ke E):Ke KP->Ke Ep
 |none=>ba .no
 |some e=>(f e).map .yes
abbrev isTup:KP->KU
 |.Tuple _ _ _=>true
 |_=>false
abbrev cI (Γ:Gam)(f:KP->Ke E)(tg:KP):KP->Ke Ie
 |.Call (.Name x p) [a] [] q=>if x==("range": KJ)&&ln Γ x&&Γ.blt.contains x then(cA f [a]).map .rng else if x==("enumerate": KJ)&&ln Γ x&&Γ.blt.contains x&&isTup tg then(cA f [a]).map .enu else(f (.Call (.Name x p) [a] [] q)).map .seq
 |.Call (.Name x p) [a,b] [] q=>if x==("zip": KJ)&&ln Γ x&&Γ.blt.contains x&&isTup tg then(cA f [a,b]).map .zip else if x==("range": KJ)&&ln Γ x&&Γ.blt.contains x then(cA f [a,b]).map .rng2 else(f (.Call (.Name x p) [a,b] [] q)).map .seq
 |e=>(f e).map .seq
abbrev FU (Γ:Gam):J5 KP->Ke (J5 Kf)
 |[]=>ba []
 |.Name x _::ts=>match da Γ x,FU Γ ts with
  |some i,ba is=>ba (i::is)
  |_,_=>gV
 |_::_=>gV
abbrev cT (Γ:Gam):KP->Ke Tg
 |.Name x _=>(da Γ x).map .nm
 |.Tuple ts _ _=>(FU Γ ts).map .tp
 |_=>gV
abbrev ig (names:J5 (KJ×MD)):J5 KJ:=(names.filter λp=>p.2==.local||p.2==.free).map (·.1)
abbrev gS (Γ:Gam)(names:J5 (KJ×MD)):J5 (Ke Kf):=(ig names).map λx=>if names.lookup x==ba .local then gV else Γ.N.findIdx? (· == x)
abbrev zr (Γ:Gam)(scope:N5):KU:=
 (scope.kind==.function)&&scope.names.all (λy=>!(y.2==.local)||scope.names.lookup y.1==ba .local)&&scope.names.all (λy=>!(y.2==.cell)) &&
 scope.names.all (λy=>!(y.2==.free)||(CC (Γ.sc.lookup y.1)&&scope.names.lookup y.1==ba .free&&(Γ.N.findIdx? (· == y.1)).isSome))&&decide (ig scope.names).Nodup
abbrev ii (Γ:Gam)(scope:N5):Gam:={Γ with sc:=gD scope.names Γ.sc,N:=ig scope.names,dfn:=false}
abbrev zt (f:KP->Ke E)(keys:J5 (Ke KP))(values:J5 KP):Ke E:=
 if keys.isEmpty&&values.isEmpty then ba .dnew
 else if keys.all (·.isSome)&&decide (↥keys=↥values)&&decide (↥keys<=15)then(cA f (uL keys values)).map .disp else gV
abbrev cE:Kf->Gam->KP->Ke E
 |0,_,_=>gV
 |n+1,Γ,e=>match e with
  |.Constant (.int i) _ _=>ba (.c (.int i))
  |.Constant (.str x) _ _=>ba (.c (.str x))
  |.Constant (.bool b) _ _=>ba (.c (.bl b))
  |.Constant .none _ _=>ba (.c .non)
  |.Name x _=>match slot Γ x with
   |some i=>ba (.v i)
   |none=>gV
  |.BinOp a op b _=>match uJ op,cE n Γ a,cE n Γ b with
   |some o,ba a',ba b'=>ba (.op o a' b')
   |_,_,_=>gV
  |.UnaryOp .Not a _=>(cE n Γ a).map .not
  |.UnaryOp .USub a _=>(cE n Γ a).map .neg
  |.BoolOp op vs _=>cB (cE n Γ) op vs
  |.Compare a [op] [b] _=>match uK op,cE n Γ a,cE n Γ b with
   |some o,ba a',ba b'=>ba (.cmp o a' b')
   |_,_,_=>gV
  |.IfExp t a b _=>match cE n Γ t,cE n Γ a,cE n Γ b with
   |some t',ba a',ba b'=>ba (.ite t' a' b')
   |_,_,_=>gV
  |.Call (.Name f _) args [] _=>if ln Γ f then match Γ.fns.lookup f with
    |some k=>(cA (cE n Γ) args).map (.own f k)
    |none=>if f==("isinstance": KJ)then(if Γ.blt.contains f then CG Γ (cE n Γ) args else gV)else match CD f,args with
     |some b,a::as=>if Γ.blt.contains f then(cA (cE n Γ) (a::as)).map (.bi b)else gV
     |_,_=>gV
   else gV
  |.Call (.Attribute o m apos) (a::as) [] cpos=>match CF m,cE n Γ o,cA (cE n Γ) (a::as)with
   |some m',ba o',ba es=>if gR o&&(apos.endLine==cpos.line)&&decide ((a::as).length<29)then ba (.me m' o' es)else gV
   |_,_,_=>gV
  |.Subscript a (.Slice lo hi gV _) _=>match cE n Γ a,cP (cE n Γ) lo,cP (cE n Γ) hi with
   |some a',ba lo',ba hi'=>ba (.sl a' lo' hi')
   |_,_,_=>gV
  |.Subscript a b _=>match cE n Γ a,cE n Γ b with
   |some a',ba b'=>ba (.ix a' b')
   |_,_=>gV
  |.Tuple es _ _=>(cA (cE n Γ) es).map .tup
  |.List es _=>(cA (cE n Γ) es).map .lst
  |.Dict keys values _=>zt (cE n Γ) keys values
  |.ListComp elt [#[tg,iter,ifs,asy]] scope _=>if (asy==0)&&(zr Γ scope&&decide (↥ifs<=1))then
    match cI Γ (cE n Γ) tg iter,cT (ii Γ scope) tg,cA (cE n (ii Γ scope)) ifs,cE n (ii Γ scope) elt with
    |some it,ba t,ba cs,ba el=>ba (.comp el t it cs (gS Γ scope.names))
    |_,_,_,_=>gV
   else gV
  |_=>gV
structure CtxOk (M:KJ->FF)(X:Cx)(Γ:Gam):Prop where
 names:X.env.scope.names=Γ.sc
 kind:X.env.scope.kind=.function
 N:X.N=Γ.N
 nd:Γ.N.Nodup
 calm:X.calm=true
 xe:X.xe=λ_ _=>LV
 un:X.A.units+iu<cLine
 dfn:Γ.dfn=true->∀x,X.fn x=true
 blt:∀x∈Γ.blt,X.mg x=gV
 fns:∀f n,Γ.fns.lookup f=ba n->∃k fa fd ps,FnOk X.prog X.w X.K X.mg X.base xo k fa fd ps (spF X.w X.K n (M f))/\Room k X.A/\X.mg f=ba (.ref fa)/\L8 X.K (.ref fa)=true/\Binds X.K fd ps []
def aK {α:Type}{x:α}{P:Prop}(h:(gV:Ke α)=ba x):P:=nomatch h
abbrev iC:KP->KU
 |.Starred _ _=>false
 |_=>true
def ar {e:KP}{es:J5 KP}{env:RK}(h:iC e=true):starEach (e::es) env=(false,eval e env)::starEach es env:=by
 cases e<;>first|rfl|cases h
def aW {env:RK}{pos:Na}:∀{es:J5 KP},es.all iC=true->(backTo pos (starEach es env)).any (·.1)=false
 |[],_=>rfl
 |e::es,h=>by
  rw[LD,Kg]at h;rw[ar h.1];show(false||(backTo pos (starEach es env)).any (·.1))=false
  rw[aW h.2];rfl
def qB {env:RK}{pos:Na}:∀{es:J5 KP},es.all iC=true->(backTo pos (starEach es env)).all (λx=>!x.1)=true
 |[],_=>rfl
 |e::es,h=>by
  rw[LD,Kg]at h;rw[ar h.1];show(true&&(backTo pos (starEach es env)).all (λx=>!x.1))=true
  rw[qB h.2];rfl
def jA {n:Kf}{Γ:Gam}{e:KP}{e':E}(h:cE n Γ e=ba e'):iC e=true:=by
 cases n with
 |zero=>cases h
 |succ n=>cases e<;>first|rfl|(show aK h)
def i6 {f:KP->Ke E}{e:KP}{es:J5 KP}{r:Es}(h:cA f (e::es)=ba r):∃e' es',f e=ba e'/\cA f es=ba es'/\r=.cons e' es':=by
 simp only[cA,SY]at h;split at h
 ·rename_i e' es' h1 h2;cases h;show#[e',es',h1,h2,rfl]
 ·cases h
def bT {n:Kf}{Γ:Gam}:∀{es:J5 KP}{r:Es},cA (cE n Γ) es=ba r->es.all iC=true
 |[],_,_=>rfl
 |e::es,r,h=>by
  obtain⟨e',es',h1,h2,_⟩:=i6 h;rw[LD,jA h1,bT h2];rfl
def dv {N:J5 KJ}{x:KJ}{i:Kf}(h:N.findIdx? (· == x)=ba i):N[i]?=ba x:=by
 obtain⟨hl,h1,_⟩:=List.findIdx?_eq_some_iff_getElem.mp h;rw[Kl hl];show congrArg ba (eq_of_beq h1)
section
variable{M:KJ->FF}{X:Cx}{Γ:Gam}
def ko {e:KP}:GT X e (λ_ _=>gV):=λJ s Y H Q I #[A,Z,S,k,S',er,so,e1,hq]=>by cases e1
def zu {x:KJ}(h:EY (X.env.scope.names.lookup x)=true):Ig X.env.scope x:=by
 unfold EY at h;split at h
 ·show .inl (by assumption)
 ·show .inr (.inl (by assumption))
 ·show .inr (.inr (by assumption))
 ·cases h
def zv (K:CtxOk M X Γ){x:KJ}{pos:Na}{i:Kf}(h:slot Γ x=ba i):GE X (.Name x pos) (fV i):=by
 unfold slot at h;split at h
 ·rename_i hc;rw[Kg,Kg]at hc;obtain⟨⟨h1,h2⟩,h3⟩:=hc;show Jf (xu (by rw[K.N];show dv h) (zu (by rw[K.names];show h1)) (by simpa using h2) (by simpa using h3))
 ·cases h
def jX (K:CtxOk M X Γ){x:KJ}(h:ln Γ x=true):Gl X x/\(x==("__debug__": KJ))=false:=by
 unfold ln at h;rw[Kg]at h;show#[?_,by simpa using h.2]
 change X.env.scope.names.lookup x=_;rw[K.names];show eq_of_beq h.1
def zw {o:Ub}{c:COp}(h:uK o=ba c):c.py=o:=by
 cases o<;>(simp only[uK,K4]at h;subst h;rfl)
def zx {o:RN}{c:BOp}(h:uJ o=ba c):c.py=o:=by
 cases o<;>simp only[uJ,K4]at h<;>first|(subst h;rfl)|cases h
def wy {x:KJ}{b:Bi}(h:CD x=ba b):b.name=x:=by
 have:=QH h;show eq_of_beq this
def wz {x:KJ}{b:Me}(h:CF x=ba b):b.name=x:=by
 have:=QH h;show eq_of_beq this
def db {n:Kf}(ih:∀{e:KP}{e':E},cE n Γ e=ba e'->GE X e (aA M e')):∀{es:J5 KP}{r:Es},cA (cE n Γ) es=ba r->GA X es (cX M r)
 |[],r,h=>by cases h;show EJ
 |e::es,r,h=>by
  obtain⟨e',es',h1,h2,rfl⟩:=i6 h;show B6 (ih h1) (db ih h2) (ar (jA h1))
def G6 (K:CtxOk M X Γ){n:Kf}{f:KJ}{p pos:Na}{args:J5 KP}{k:Kf}{r:Es}(hg:ln Γ f=true)(hf:Γ.fns.lookup f=ba k)(ha:cA (cE n Γ) args=ba r)(h:GA X args (cX M r)):GE X (.Call (.Name f p) args [] pos) (qo k (M f) (cX M r)):=by
 obtain⟨d,fa,fd,ps,F,hr,hm,hk,hb⟩:=K.fns f k hf;obtain⟨g1,g2⟩:=jX K hg;cases args with
 |nil=>cases ha;show B9 F hr g1 hm hk hb g2
 |cons a as=>
  have ns:=bT ha;rw[LD,Kg]at ns;show EM F hr g1 hm hk hb h g2 (ar ns.1) (aW ns.2)
def Ji (K:CtxOk M X Γ){n:Kf}{f:KJ}{p pos:Na}{a:KP}{as:J5 KP}{b:Bi}{r:Es}(hg:ln Γ f=true)(hb:CD f=ba b)(hc:Γ.blt.contains f=true)(ha:cA (cE n Γ) (a::as)=ba r)(h:GA X (a::as) (cX M r)):GE X (.Call (.Name f p) (a::as) [] pos) (jW b.fn (cX M r)):=by
 obtain⟨g1,g2⟩:=jX K hg;have hm:X.mg f=gV:=K.blt f (by simpa using hc)
 have ns:=bT ha;rw[LD,Kg]at ns;have e:=wy hb;subst e;have hu:X.A.units+12<cLine:=by have:=K.un;have:iu=20:=rfl;omega
 have calm:∀{f:J9}{g:J5 W->aa->Ke (W×aa)},(X.A.handled=gV->LCall X f g)->LCall X f g:=λh J s Y H A S xs vs us w S' I=>h (I.ok.hd K.calm) J s Y H A S xs vs us w S' I
 cases b with
 |len=>show uD sM g1 hm PySem.boot_len h #v[] g2 (ar ns.1) (aW ns.2)
 |list=>show ql (calm λhh=>ll (pP hh) (p7 hh)) g1 hm rfl h #v[] g2 (ar ns.1) (aW ns.2)
 |tuple=>show ql (calm oy) g1 hm rfl h #v[] g2 (ar ns.1) (aW ns.2)
 |int=>show ql vP g1 hm rfl h #v[] g2 (ar ns.1) (aW ns.2)
 |set=>show ql (calm λhh=>sG hh hu) g1 hm rfl h #v[] g2 (ar ns.1) (aW ns.2)
 |sorted=>show uD (calm λhh=>ll (qh hh hu) (on hh hu)) g1 hm rfl h #v[] g2 (ar ns.1) (aW ns.2)
 |range=>show ql pO g1 hm rfl h #v[] g2 (ar ns.1) (aW ns.2)
 |all=>show uD (calm wn) g1 hm rfl h #v[] g2 (ar ns.1) (aW ns.2)
 |min=>show uD (calm λhh=>ll (wl hh hu) (sI K.calm)) g1 hm rfl h #v[] g2 (ar ns.1) (aW ns.2)
def zy {x:KJ}{c:L1}(h:zq x=ba c):bootBuiltins x=ba (.type c)/\x≠"__name__":=by
 unfold zq at h;split at h
 ·rename_i e;cases h;rw[eq_of_beq e];show#[rfl,#v[]]
 ·split at h
  ·rename_i e;cases h;rw[eq_of_beq e];show#[rfl,#v[]]
  ·split at h
   ·rename_i e;cases h;rw[eq_of_beq e];show#[rfl,#v[]]
   ·split at h
    ·rename_i e;cases h;rw[eq_of_beq e];show#[rfl,#v[]]
    ·split at h
     ·rename_i e;cases h;rw[eq_of_beq e];show#[rfl,#v[]]
     ·split at h
      ·rename_i e;cases h;rw[eq_of_beq e];show#[rfl,#v[]]
      ·cases h
def G7 (K:CtxOk M X Γ){n:Kf}{f:KJ}{p pos:Na}{args:J5 KP}{r:E}(hg:ln Γ f=true)(hb:(f==("isinstance": KJ))=true)(hc:Γ.blt.contains f=true)(ih:∀{e:KP}{e':E},cE n Γ e=ba e'->GE X e (aA M e'))(h:CG Γ (cE n Γ) args=ba r) :
  GE X (.Call (.Name f p) args [] pos) (aA M r)/\∃a c,r=.isi c a:=by
 obtain⟨g1,g2⟩:=jX K hg;have hm:X.mg f=gV:=K.blt f (by simpa using hc)
 have e:=eq_of_beq hb;subst e;unfold CG at h;split at h
 ·rename_i a c q;split at h
  ·rename_i hcc;rw[Kg]at hcc;obtain⟨g3,g4⟩:=jX K (x:=c) hcc.1;have hm2:X.mg c=gV:=K.blt c (by simpa using hcc.2)
   split at h
   ·rename_i cs a' h1 h2;cases h;obtain⟨b1,b2⟩:=zy h1;show#[EV g1 hm g3 hm2 b1 b2 g4 (ih h2) (ar (jA h2)),a',cs,rfl]
   ·cases h
  ·cases h
 ·cases h
def fu {o:KP}{name:KJ}{env:RK}(h:gR o=true):attributeBase o name env (eval o env)=eval o env:=by
 cases o<;>first|rfl|cases h
def uM {n:Kf}{pos:Na}(ih:∀{e:KP}{e':E},cE n Γ e=ba e'->GE X e (aA M e')):∀(keys:J5 (Ke KP)) (values:J5 KP) {r:Es},keys.all (·.isSome)=true->↥keys=↥values->cA (cE n Γ) (uL keys values)=ba r->GZ X pos keys values (cX M r)
 |[],[],r,_,_,h=>by cases h;show Cr
 |[],_::_,r,_,hl,_=>by cases hl
 |_::_,[],r,_,hl,_=>by cases hl
 |none::_,_::_,r,ha,_,_=>by cases ha
 |some k::ks,v::vs,r,ha,hl,h=>by
  dsimp only[uL]at h;obtain⟨e1,es1,h1,h2,rfl⟩:=i6 h;obtain⟨e2,es2,h3,h4,rfl⟩:=i6 h2;rw[LD,Kg]at ha;show zd (ih h1) (ih h3) (uM ih ks vs ha.2 (by simpa using hl) h4)
def Jj (K:CtxOk M X Γ){n:Kf}{m:KJ}{apos cpos:Na}{o a:KP}{as:J5 KP}{b:Me}{o':E}{r:Es}(hm:CF m=ba b)(hr:gR o=true)(hl:(apos.endLine==cpos.line)=true)(hn:(a::as).length<29)(ho:GE X o (aA M o'))(ha:cA (cE n Γ) (a::as)=ba r)(h:GA X (a::as) (cX M r)) :
  GE X (.Call (.Attribute o m apos) (a::as) [] cpos) (FP b.ty b.fn (aA M o') (cX M r)):=by
 have ns:=bT ha;have ns':=ns;rw[LD,Kg]at ns;have few:((backTo cpos (starEach (a::as) X.env)).all (λx=>!x.1)&&(backToKw cpos (keywordEach [] X.env)).all (λx=>x.1.isSome)&&decide ((a::as).length+([]:J5 Re).length+(if ([]:J5 Re).isEmpty then 0 else 1)<30))=true:=by
  rw[qB ns',O7,Kg];show#[rfl,LZ (by revert MO List.isEmpty_nil Mm;omega)]
 have e:=wz hm;subst e;cases b with
 |append=>show qm OO PySem.F.slot_list_append PySem.F.type_list_append nV ho h (fu hr) few hl (ar ns.1) (aW ns.2)
 |extend=>show qm OO PySem.F.slot_list_extend PySem.F.type_list_extend nW ho h (fu hr) few hl (ar ns.1) (aW ns.2)
 |join=>show qm PySem.F.plainAttrs_str PySem.F.slot_str_join PySem.F.type_str_join r0 ho h (fu hr) few hl (ar ns.1) (aW ns.2)
 |pop=>show qm OO PySem.F.slot_list_pop PySem.F.type_list_pop vQ ho h (fu hr) few hl (ar ns.1) (aW ns.2)
 |get=>show qm PySem.F.plainAttrs_dict QL PySem.F.type_dict_get (sg (by have:=K.un;have:iu=20:=rfl;omega)) ho h (fu hr) few hl (ar ns.1) (aW ns.2)
def qC {n:Kf}{Γ:Gam}{e:KP}{e':E}{op:Ub}(h:cE n Γ e=ba e'):behindInMarks op e=false:=by
 cases n with
 |zero=>cases h
 |succ n=>cases e<;>first|rfl|(show aK h)
def sP {n:Kf}{Γ:Gam}{e:KP}{e':E}(h:cE n Γ e=ba e'):nN e:=by
 cases n with
 |zero=>cases h
 |succ n=>cases e<;>first|(intro o i;rfl)|(show aK h)
def oF {n:Kf}{Γ:Gam}{f:KP->Ke E}{e:KP}{i:Ie}{env:RK}{tg:KP}(hf:∀el k p,f (.Set el k p)=gV)(h:cI Γ f tg e=ba i):∀x,foldedSetIterable e env x=pure x:=by
 intro x;cases e<;>first|rfl|(simp[cI,hf]at h)
def oG {n:Kf}{op:UR}{pos:Na}(ih:∀{e:KP}{e':E},cE n Γ e=ba e'->GE X e (aA M e')):∀{vs:J5 KP}{r:E},cB (cE n Γ) op vs=ba r->GE X (.BoolOp op vs pos) (aA M r)
 |[],r,h=>by cases h
 |[a],r,h=>EF (ih h)
 |a::b::aQ,r,h=>by
  simp only[cB]at h;split at h
  ·rename_i a' b' h1 h2;cases h;cases op with
   |And=>show EG (ih h1) (oG ih h2)
   |Or=>show GQ (ih h1) (oG ih h2)
  ·cases h
def oH {n:Kf}{op:UR}{pos:Na}(ih:∀{e:KP}{e':E},cE n Γ e=ba e'->GT X e (c7 M e')):∀{vs:J5 KP}{r:E},cB (cE n Γ) op vs=ba r->GW X (.BoolOp op vs pos) (c7 M r)
 |[],r,h=>by cases h
 |[a],r,h=>by
  cases op with
  |And=>show B3 (ih h)
  |Or=>show EC (ih h)
 |a::b::aQ,r,h=>by
  simp only[cB]at h;split at h
  ·rename_i a' b' h1 h2;cases h;cases op with
   |And=>show ED (ih h1) (oH ih h2)
   |Or=>show GP (ih h1) (oH ih h2)
  ·cases h
def zz {n:Kf}(ih:∀{e:KP}{e':E},cE n Γ e=ba e'->GE X e (aA M e')){o:Ke KP}{p:Ep}(h:cP (cE n Γ) o=ba p):GO X o (uI M p):=by
 cases o with
 |none=>cases h;show B7
 |some e=>
  simp only[cP,Kb]at h;obtain⟨e',h1,rfl⟩:=h;show B8 (ih h1)
def sQ (K:CtxOk M X Γ){n:Kf}(ih:∀{e:KP}{e':E},cE n Γ e=ba e'->GE X e (aA M e')){tg e:KP}{i:Ie}(h:cI Γ (cE n Γ) tg e=ba i):GI X tg e (jy M i):=by
 have gen:(cE n Γ e).map Ie.seq=ba i->GI X tg e (jy M i):=λh=>by
  rw[Kb]at h;obtain⟨e',h1,rfl⟩:=h;show Cu (ih h1)
 unfold cI at h;split at h
 ·rename_i x p a pos;split at h
  ·rename_i hc;rw[Kg,Kg]at hc;obtain⟨⟨h1,h2⟩,h3⟩:=hc;have hx:=eq_of_beq h1;subst hx;rw[Kb]at h;obtain⟨r,hr,rfl⟩:=h;have ns:=bT hr;rw[LD,Kg]at ns;show Co (jX K h2).1 (K.blt _ (by simpa using h3)) (db ih hr) (ar ns.1)
  ·split at h
   ·rename_i hc;rw[Kg,Kg,Kg]at hc;obtain⟨⟨⟨h1,h2⟩,h3⟩,h4⟩:=hc;have hx:=eq_of_beq h1;subst hx;rw[Kb]at h;obtain⟨r,hr,rfl⟩:=h;have ns:=bT hr;rw[LD,Kg]at ns;cases tg with
    |Tuple els k0 tp=>show CA (jX K h2).1 (K.blt _ (by simpa using h3)) (db ih hr) (ar ns.1)
    |_=>cases h4
   ·show gen h
 ·rename_i x p a b pos;split at h
  ·rename_i hc;rw[Kg,Kg,Kg]at hc;obtain⟨⟨⟨h1,h2⟩,h3⟩,h4⟩:=hc;have hx:=eq_of_beq h1;subst hx;rw[Kb]at h;obtain⟨r,hr,rfl⟩:=h;have ns:=bT hr;rw[LD,LD,Kg,Kg]at ns;cases tg with
   |Tuple els k0 tp=>show EX (jX K h2).1 (K.blt _ (by simpa using h3)) (db ih hr) (by rw[ar ns.1,ar ns.2.1];rfl) (ar ns.2.1)
   |_=>cases h4
  ·split at h
   ·rename_i hc;rw[Kg,Kg]at hc;obtain⟨⟨h1,h2⟩,h3⟩:=hc;have hx:=eq_of_beq h1;subst hx;rw[Kb]at h;obtain⟨r,hr,rfl⟩:=h;have ns:=bT hr;rw[LD,LD,Kg,Kg]at ns;show Cp (jX K h2).1 (K.blt _ (by simpa using h3)) (db ih hr) (by rw[ar ns.1,ar ns.2.1];rfl) (ar ns.2.1)
   ·show gen h
 ·show gen h
def oJ (K:CtxOk M X Γ){x:KJ}{i:Kf}(h:da Γ x=ba i):X.N[i]?=ba x/\AU X.env.scope x/\(X.fn x=true\/X.env.scope.names.lookup x=ba .local):=by
 unfold da at h;split at h
 ·rename_i hc;show#[by rw[K.N];show dv h,?_]
  unfold L2.AU;rw[K.names];rw[My,Kg]at hc;rcases hc with hc|⟨hd,hc⟩
  ·have:=eq_of_beq hc;show#[.inl this,.inr this]
  ·show#[.inr (eq_of_beq hc),.inl (K.dfn hd x)]
 ·cases h
def qD (K:CtxOk M X Γ):∀{ts:J5 KP}{is:J5 Kf},FU Γ ts=ba is->(∀x∈ts,∃y p,x=Rf y p)/\Qj (λ(t:KP) (i:Kf)=>∃x p,t=Rf x p/\X.N[i]?=ba x/\AU X.env.scope x/\(X.fn x=true\/X.env.scope.names.lookup x=ba .local)) ts is
 |[],is,h=>by cases h;show#[λx hx=>by simp at hx,.nil]
 |t::ts,is,h=>by
  cases t with
  |Name x p=>
   dsimp only[FU]at h;split at h
   ·rename_i i is' h1 h2;cases h;obtain⟨a,b⟩:=qD K h2;show#[λy hy=>(KD.mp hy).elim (λe=>#[x,p,e]) (a y),.cons #[x,p,rfl,oJ K h1] b]
   ·cases h
  |_=>cases h
def iD {env:RK}:∀{ts:J5 KP},(∀x∈ts,∃y p,x=Rf y p)->(assignEach ts env).length=↥ts/\(assignEach ts env).findIdx? (·.1)=gV
 |[],_=>#[rfl,rfl]
 |t::ts,h=>by
  obtain⟨y,p,rfl⟩:=h t LX;obtain⟨a,b⟩:=iD (env:=env) λx hx=>h x (LL _ hx)
  show#[by show(assignEach ts env).length+1=↥ts+1;rw[a],?_]
  change List.findIdx? (·.1) ((false,assign (.Name y p) env)::assignEach ts env)=gV
  rw[List.findIdx?_cons,b];rfl
def uN (K:CtxOk M X Γ){tg:KP}{t:Tg}(h:cT Γ tg=ba t):GG X tg (fX t):=by
 have hN:X.N.Nodup:=by rw[K.N];show K.nd
 cases tg with
 |Name x p=>
  dsimp only[cT]at h;simp only[Kb]at h
  obtain⟨i,h1,rfl⟩:=h;obtain⟨a,b,c⟩:=oJ K h1;show uF hN a b c
 |Tuple ts k p=>
  dsimp only[cT]at h;simp only[Kb]at h
  obtain⟨is,h1,rfl⟩:=h;obtain⟨a,b⟩:=qD K h1;show EQ K.calm a b hN (iD a).1 (iD a).2
 |_=>cases h
end
abbrev eY (env:RK):J5 (KJ×MD)->J5 (KJ×Kj)->J5 (KJ×Kj)
 |[],cs=>cs
 |(n,k)::r,cs=>eY env r (if k==.free then(n,(env.cells.lookup n).getD 0)::cs else cs)
def jB {env:RK}:∀(names:J5 (KJ×MD)) (cs:J5 (KJ×Kj)),(∀y∈names,y.2=.free->(env.cells.lookup y.1).isSome=true)->
  (forIn names cs λx r=>match x with|(name,kind)=>if (kind==OB)=true then do let a <- cellOf env name;pure (Mz ((name,a)::r))else pure (Mz r):UC (J5 (KJ×Kj)))=pure (eY env names cs)
 |[],cs,_=>by rw[QZ];rfl
 |(n,k)::r,cs,h=>by
  rw[Pd];have hr:=λy hy=>h y (LL _ hy)
  by_cases hk:(k==OB)=true
  ·obtain⟨c,hc⟩:=Lx.mp (h (n,k) LX (eq_of_beq hk));have e1:cellOf env n=pure c:=by unfold cellOf;rw[hc]
   revert hk Mm e1 pure_bind;rw[jB r _ hr];revert eY hk Mm hc Sy
  ·have hk':(k==OB)=false:=by simpa using hk
   revert hk' KT LO pure_bind;rw[jB r _ hr];revert eY hk' KT LO
def j8 {scope:N5}{env:RK}(h:∀y∈scope.names,y.2=.free->(env.cells.lookup y.1).isSome=true):closureFor scope env=pure (eY env scope.names []):=by
 have:=jB scope.names [] h;unfold closureFor;revert this pure_bind
def lp {env:RK}:∀(names:J5 (KJ×MD)) (cs:J5 (KJ×Kj)),(∀y∈names,y.2=.free->(env.cells.lookup y.1).isSome=true)->(∀x c,cs.lookup x=ba c->env.cells.lookup x=ba c)->
  ∀x c,(eY env names cs).lookup x=ba c->env.cells.lookup x=ba c
 |[],cs,_,h,x,c,e=>h x c e
 |(n,k)::r,cs,hn,h,x,c,e=>by
  show lp r _ (λy hy=>hn y (LL _ hy)) (λx c e=>?_) x c e
  split at e
  ·rename_i hk;rw[Mn]at e;split at e
   ·rename_i hx;cases e;have:=eq_of_beq hx;subst this;obtain⟨c,hc⟩:=Lx.mp (hn (x,k) LX (eq_of_beq hk));rw[hc];rfl
   ·show h x c e
  ·show h x c e
def jY {env:RK}{x:KJ}:∀(names:J5 (KJ×MD)) (cs:J5 (KJ×Kj)),(∃c,cs.lookup x=ba c)->∃c,(eY env names cs).lookup x=ba c
 |[],cs,h=>h
 |(n,k)::r,cs,h=>by
  show jY r _ ?_;split
  ·rw[Mn];split
   ·show#[_,rfl]
   ·show h
  ·show h
def lq {env:RK}{x:KJ}:∀(names:J5 (KJ×MD)) (cs:J5 (KJ×Kj)),(x,OB)∈names->∃c,(eY env names cs).lookup x=ba c
 |[],cs,h=>by simp at h
 |(n,k)::r,cs,h=>by
  rcases KD.mp h with e|h
  ·cases e;show jY r _ ?_;simp[Mn]
  ·show lq r _ h
def lr {x:KJ}{k:MD}:∀{l:J5 (KJ×MD)},l.lookup x=ba k->(x,k)∈l
 |[],h=>by simp at h
 |(n,j)::r,h=>by
  rw[Mn]at h;split at h
  ·rename_i hx;cases h;have:=eq_of_beq hx;subst this;show LX
  ·show LL _ (lr h)
def eZ {X:Cx}{M:KJ->FF}{Γ:Gam}(K:CtxOk M X Γ)(scope:N5):(relabel scope X.env).names=gD scope.names Γ.sc:=by
 unfold relabel gD Qs;rw[K.kind,K.names];show LS λ#[n,k] _=>?_
 have e:(RH==RH)=true:=rfl;revert e Oz
def d7 {outer:J5 (KJ×MD)}{x:KJ}:∀{names:J5 (KJ×MD)},(gD names outer).lookup x=(names.lookup x).map λk=>if (k==.free&&outer.lookup x==ba .cell)then .cell else k
 |[]=>rfl
 |(n,k)::r=>by
  have ih:=d7 (outer:=outer) (x:=x) (names:=r);change List.lookup x ((if (k==OB&&outer.lookup n==ba .cell)=true then(n,Vi)else(n,k))::gD r outer)=_
  cases hx:x==n with
  |true=>
   have:=eq_of_beq hx;subst this;revert Mn Lv Lk;split<;>simp[Mn]
  |false=>
   revert Mn hx;split<;>(revert Mn hx;show ih)
section
variable{M:KJ->FF}{X:Cx}{Γ:Gam}
structure ScOk (Γ:Gam)(scope:N5):Prop where
 kind:scope.kind=.function
 names:∀y∈scope.names,y.2=.local->scope.names.lookup y.1=ba .local
 nocell:∀y∈scope.names,y.2≠.cell
 free:∀y∈scope.names,y.2=.free->CC (Γ.sc.lookup y.1)=true/\scope.names.lookup y.1=ba .free/\(Γ.N.findIdx? (· == y.1)).isSome=true
 nd:(ig scope.names).Nodup
def uO {scope:N5}(h:zr Γ scope=true):ScOk Γ scope:=by
 unfold zr at h;rw[Kg,Kg,Kg,Kg]at h;obtain⟨⟨⟨⟨h1,h2⟩,h3⟩,h4⟩,h5⟩:=h;show#[eq_of_beq h1,λy hy e=>?_,λy hy e=>?_,λy hy e=>?_,Lo h5]
 ·have:=KA.mp h2 y hy;rw[e]at this
  simpa using this
 ·have:=KA.mp h3 y hy;rw[e]at this;simp at this
 ·have:=KA.mp h4 y hy;rw[e]at this;simp only[Lv,Ny,P8,Kg]at this;show#[this.1.1,eq_of_beq this.1.2,this.2]
def uP {o:Ke MD}(h:CC o=true):o=ba .cell\/o=ba .free:=by
 unfold CC at h;split at h
 ·show .inl rfl
 ·show .inr rfl
 ·cases h
def nj (K:CtxOk M X Γ)(ok:X.Ok){scope:N5}(sc:ScOk Γ scope):CompOk X scope (eY X.env scope.names []) (ig scope.names) (gS Γ scope.names):=by
 have cells:∀y∈scope.names,y.2=.free->(X.env.cells.lookup y.1).isSome=true:=λy hy e=>by
  have hk:=uP (sc.free y hy e).1;obtain⟨c,hc⟩:=ok.has y.1 (by unfold Qs;rw[K.names];show hk)
  rw[hc];rfl
 have relab:∀x,((relabel scope X.env).names.lookup x=ba .cell\/(relabel scope X.env).names.lookup x=ba .free)->(x,OB)∈scope.names:=λx h=>by
  rw[eZ K,d7]at h;cases q:scope.names.lookup x with
  |none=>rw[q]at h;rcases h with h|h<;>cases h
  |some k=>
   rw[q]at h;have hm:=lr q;cases k with
   |free=>show hm
   |cell=>show absurd rfl (sc.nocell _ hm)
   |_=>rcases h with h|h<;>simp at h
 show#[j8 cells,sc.kind,sc.names,sc.nocell,lp _ _ cells (λx c e=>by cases e),λx h=>lq _ _ (relab x h),by simp[gS],λi j x hi hx=>?_]
 unfold gS at hi;rw[Kh,hx]at hi;simp only[Lk,K4]at hi;split at hi
 ·cases hi
 ·rename_i hl;have hx2:x∈ig scope.names:=Ko hx;unfold ig at hx2;obtain⟨⟨x',k⟩,hf,e⟩:=Kn.mp hx2;obtain⟨hm,hk⟩:=L7.mp hf;have e':x'=x:=e;subst e';have hkf:k=.free:=by
   simp only[My]at hk;rcases hk with hk|hk
   ·have:k=.local:=eq_of_beq hk;subst this;have:=sc.names (x',.local) hm rfl;rw[this]at hl;simp at hl
   ·show eq_of_beq hk
  subst hkf;obtain⟨f1,f2,f3⟩:=sc.free _ hm rfl;show#[by rw[K.N];show dv hi,by unfold Qs;rw[K.names];show uP f1,?_]
  rw[eZ K,d7,f2];revert Lk K4 Lv O7;split
  ·show .inl rfl
  ·show .inr rfl
def fw (K:CtxOk M X Γ){scope:N5}(sc:ScOk Γ scope)(C:Kj)(s0:Kc)(H0:Hp)(ex:J5 Kj):CtxOk M (lX X scope (eY X.env scope.names []) C (ig scope.names) s0 H0 ex) (ii Γ scope) where
 names:=eZ K scope
 kind:=sc.kind
 N:=rfl
 nd:=sc.nd
 calm:=K.calm
 xe:=rfl
 un:=K.un
 dfn:=λh=>by cases h
 blt:=K.blt
 fns:=K.fns
def qE {cs:Es}{n:Kf}{ifs:J5 KP}{Γ:Gam}(hl:↥ifs<=1)(hc:cA (cE n Γ) ifs=ba cs){Yx:Cx}(ih:∀{e:KP}{e':E},cE n Γ e=ba e'->GT Yx e (c7 M e'))(hx:Yx.xe=λ_ _=>LV) :
  ∀J s Y H Q,Inv Yx J Y H s->tT Yx (CB M cs) Y H Q->
  wpAny (model Yx.prog Yx.w) Yx.A (forIn ifs true λc r=>if r=true then do let ok <- isTrue c Yx.env (eval c Yx.env);pure (Mz ok)else pure (Mz r)) (TP Yx J Y Q) (λ_ _=>LV) s:=by
 intro J s Y H Q I h
 match ifs,hl,hc with
 |[],_,hc=>
  cases hc;obtain⟨A,Z,S,k,S',er,so,e,hq⟩:=h;cases e;show wpAny_tests_nil #[H,I,hq _ _ #[rfl,A,.refl,so]]
 |[c],_,hc=>
  obtain⟨e',es',h1,h2,rfl⟩:=i6 hc;cases h2;have:=ih h1 J s Y H Q I h;rw[hx]at this;show wpAny_tests_one this
def bK:∀(n:Kf) {Γ:Gam}{X:Cx}{e:KP}{e':E},CtxOk M X Γ->cE n Γ e=ba e'->GE X e (aA M e')/\GT X e (c7 M e'):=by
 intro n
 induction n with
 |zero=>intro Γ X e e' K h;cases h
 |succ n ih=>
  intro Γ X e e' K h;have ihE:∀{e:KP}{e':E},cE n Γ e=ba e'->GE X e (aA M e'):=λq=>(ih K q).1
  have ihT:∀{e:KP}{e':E},cE n Γ e=ba e'->GT X e (c7 M e'):=λq=>(ih K q).2
  have hu10:X.A.units+10<cLine:=by have:=K.un;have:iu=20:=rfl;omega
  cases e with
  |Constant c k p=>
   cases c<;>cases h
   all_goals first
    |show#[qk xw (λ_ _=>.non),cy (qk xw (λ_ _=>.non)) λ_=>rfl]
    |show#[qk Dc (λ_ _=>.bl),cy (qk Dc (λ_ _=>.bl)) λ_=>rfl]
    |show#[qk xv (λ_ _=>.int),cy (qk xv (λ_ _=>.int)) λ_=>rfl]
    |show#[qk xx (λ_ _=>.str),cy (qk xx (λ_ _=>.str)) λ_=>rfl]
  |Name x p=>
   replace h:(match slot Γ x with|some i=>ba (E.v i)|none=>gV)=ba e':=h
   split at h
   ·rename_i i h1;cases h;show#[zv K h1,cy (zv K h1) λ_=>rfl]
   ·cases h
  |BinOp a op b p=>
   replace h:(match uJ op,cE n Γ a,cE n Γ b with|some o,ba a',ba b'=>ba (E.op o a' b')|_,_,_=>gV)=ba e':=h
   split at h
   ·rename_i o a' b' h1 h2 h3;cases h;have e:=zx h1;subst e;show#[Di (tQ o) (ihE h2) (ihE h3),cy (Di (tQ o) (ihE h2) (ihE h3)) λ_=>rfl]
   ·cases h
  |UnaryOp op a p=>
   cases op with
   |Not=>
    replace h:(cE n Γ a).map E.not=ba e':=h;rw[Kb]at h;obtain⟨a',h1,rfl⟩:=h;show#[EH (ihE h1),EE (ihT h1)]
   |USub=>
    replace h:(cE n Γ a).map E.neg=ba e':=h;rw[Kb]at h;obtain⟨a',h1,rfl⟩:=h;show#[yQ (ihE h1),cy (yQ (ihE h1)) λ_=>rfl]
   |_=>show aK h
  |BoolOp op vs p=>
   replace h:cB (cE n Γ) op vs=ba e':=h;show#[oG ihE h,(oH ihT h).pt]
  |Compare a ops cs p=>
   match ops,cs,h with
   |[op],[b],h=>
    replace h:(match uK op,cE n Γ a,cE n Γ b with|some o,ba a',ba b'=>ba (E.cmp o a' b')|_,_,_=>gV)=ba e':=h
    split at h
    ·rename_i o a' b' h1 h2 h3;cases h;have e:=zw h1;subst e;show#[EA K.un (ihE h2) (ihE h3) (qC h3),EB K.un (ihE h2) (ihE h3) (qC h3)]
    ·cases h
   |[],_,h=>show aK h
   |[_],[],h=>show aK h
   |[_],_::_::_,h=>show aK h
   |_::_::_,_,h=>show aK h
  |IfExp t a b p=>
   replace h:(match cE n Γ t,cE n Γ a,cE n Γ b with|some t',ba a',ba b'=>ba (E.ite t' a' b')|_,_,_=>gV)=ba e':=h
   split at h
   ·rename_i t' a' b' h1 h2 h3;cases h;show#[EI (ihT h1) (ihE h2) (ihE h3),ko]
   ·cases h
  |Call f args kws p=>
   cases kws with
   |cons _ _=>cases f<;>first|(show aK h)|(cases args<;>(show aK h))
   |nil=>
    cases f with
    |Name x q=>
     replace h:(if ln Γ x then match Γ.fns.lookup x with|some k=>(cA (cE n Γ) args).map (E.own x k)|none=>if x==("isinstance": KJ)then(if Γ.blt.contains x then CG Γ (cE n Γ) args else gV)else match (generalizing:=false) CD x,args with|some b,a::as=>if Γ.blt.contains x then(cA (cE n Γ) (a::as)).map (E.bi b)else gV|_,_=>gV else gV)=ba e':=h
     split at h
     ·rename_i hg;split at h
      ·rename_i k hk;rw[Kb]at h;obtain⟨r,hr,rfl⟩:=h;have g:=G6 (pos:=p) (p:=q) K hg hk hr (db ihE hr);show#[g,cy g λ_=>rfl]
      ·split at h
       ·rename_i his;split at h
        ·rename_i hc;obtain⟨g,a',c',rfl⟩:=G7 (pos:=p) (p:=q) K hg his hc ihE h;show#[g,cy g λ_=>rfl]
        ·cases h
       ·split at h
        ·rename_i bb a as hb;split at h
         ·rename_i hc;rw[Kb]at h;obtain⟨r,hr,rfl⟩:=h;have g:=Ji (pos:=p) (p:=q) K hg hb hc hr (db ihE hr);show#[g,cy g λ_=>rfl]
         ·cases h
        ·cases h
     ·cases h
    |Attribute o m q=>
     cases args with
     |nil=>show aK h
     |cons a as=>
      replace h:(match CF m,cE n Γ o,cA (cE n Γ) (a::as)with|some m',ba o',ba es=>if gR o&&(q.endLine==p.line)&&decide ((a::as).length<29)then ba (E.me m' o' es)else gV|_,_,_=>gV)=ba e':=h
      split at h
      ·rename_i m' o' es h1 h2 h3;split at h
       ·rename_i hc;rw[Kg,Kg,KG]at hc;cases h;have g:=Jj K (cpos:=p) (apos:=q) h1 hc.1.1 hc.1.2 hc.2 (ihE h2) h3 (db ihE h3);show#[g,cy g λ_=>rfl]
       ·cases h
      ·cases h
    |_=>show aK h
  |Subscript a b p=>
   have plain:(match cE n Γ a,cE n Γ b with|some a',ba b'=>ba (E.ix a' b')|_,_=>gV)=ba e'->GE X (.Subscript a b p) (aA M e')/\GT X (.Subscript a b p) (c7 M e'):=λh=>by
    split at h
    ·rename_i a' b' h1 h2;cases h;have g:=GU (pos:=p) hu10 (ihE h1) (ihE h2) (sP h2);show#[g,cy g λ_=>rfl]
    ·cases h
   cases b with
   |Slice lo hi st q=>
    cases st with
    |none=>
     replace h:(match cE n Γ a,cP (cE n Γ) lo,cP (cE n Γ) hi with|some a',ba lo',ba hi'=>ba (E.sl a' lo' hi')|_,_,_=>gV)=ba e':=h
     split at h
     ·rename_i a' lo' hi' h1 h2 h3;cases h;have g:=GV (pos:=p) (p2:=q) (ihE h1) (zz ihE h2) (zz ihE h3);show#[g,cy g λ_=>rfl]
     ·cases h
    |some z=>show plain h
   |_=>show plain h
  |Tuple es k p=>
   replace h:(cA (cE n Γ) es).map E.tup=ba e':=h;rw[Kb]at h;obtain⟨r,h1,rfl⟩:=h;show#[yW (db ihE h1),cy (yW (db ihE h1)) λ_=>rfl]
  |List es p=>
   replace h:(cA (cE n Γ) es).map E.lst=ba e':=h;rw[Kb]at h;obtain⟨r,h1,rfl⟩:=h;show#[yX (db ihE h1),cy (yX (db ihE h1)) λ_=>rfl]
  |Dict keys values p=>
   replace h:zt (cE n Γ) keys values=ba e':=h;unfold zt at h;split at h
   ·rename_i hc;cases h;rw[Kg]at hc;have k0:keys=[]:=Sz.mp hc.1;have v0:values=[]:=Sz.mp hc.2;subst k0 v0;show#[Cs,ko]
   ·rename_i hc0;split at h
    ·rename_i hc;rw[Kg,Kg,KG,KG]at hc;rw[Kb]at h;obtain⟨r,hr,rfl⟩:=h;have h0:keys≠[]:=λz=>by
      subst z;have v0:values=[]:=LI.mp hc.1.2.symm;subst v0;show hc0 rfl
     show#[Ct (pos:=p) hu10 (uM ihE keys values hc.1.1 hc.1.2 hr) hc.1.1 hc.1.2 h0 hc.2,ko]
    ·cases h
  |ListComp elt gens scope p=>
   match gens,h with
   |[#[tg,iter,ifs,asy]],h=>
    replace h:(if (asy==0)&&(zr Γ scope&&decide (↥ifs<=1))then match cI Γ (cE n Γ) tg iter,cT (ii Γ scope) tg,cA (cE n (ii Γ scope)) ifs,cE n (ii Γ scope) elt with|some it,ba t,ba cs,ba el=>ba (E.comp el t it cs (gS Γ scope.names))|_,_,_,_=>gV else gV)=ba e':=h
    split at h
    ·rename_i hc;rw[Kg,Kg,KG]at hc;have e0:asy=0:=eq_of_beq hc.1;subst e0;replace hc:=hc.2;split at h
     ·rename_i it t cs el h1 h2 h3 h4;cases h;have sc:=uO hc.1;show#[Cv K.calm (sQ K ihE h1) (λok=>#[_,nj K ok sc,?_]) (oF (n:=n) (λel k p=>by cases n<;>rfl) h1),ko]
      show#[λC s0 H0 ex=>uN (fw K sc C s0 H0 ex) h2,λC s0 H0 ex J s Y H Q I q=>?_,λC s0 H0 ex=>(ih (fw K sc C s0 H0 ex) h4).1]
      show qE hc.2 h3 (λz=>(ih (fw K sc C s0 H0 ex) z).2) rfl J s Y H Q I q
     ·cases h
    ·cases h
   |[],h=>show aK h
   |#[_,_,_,_]::_::_,h=>show aK h
  |_=>show aK h
end
noncomputable abbrev bL:Kf:=30
abbrev Do:KP->KU
 |.Constant (.str _) _ _=>true
 |_=>false
abbrev jC:KP->KU
 |.ListComp _ _ _ _=>true
 |_=>false
abbrev uQ:KP->KU
 |.Slice _ _ _ _=>true
 |_=>false
abbrev uR (f:NB->Ke Sm)(ss:J5 NB):Ke Ss:=ss.foldr (λs acc=>match f s,acc with|some s',ba ss'=>ba (.cons s' ss')|_,_=>gV) (ba .nil)
abbrev EZ (Γ:Gam):J5 KP->KP->Ke Sm
 |[.Name x px,.Name y py],.Tuple [a,b] _ _=>match Γ.N.findIdx? (· == x),Γ.N.findIdx? (· == y),cA (cE bL Γ) [a,b]with
  |some i,ba j,ba es=>if !(i==j)&&(Γ.sc.lookup x==ba .local)&&(Γ.sc.lookup y==ba .local)&&(py.line==px.line) && !([a,b].all (foldedForSure 8)) && !([a,b].all (constantsAlone 8))then ba (.par i j es)else gV
  |_,_,_=>gV
 |_,_=>gV
abbrev cS:Kf->Gam->NB->Ke Sm
 |0,_,_=>gV
 |n+1,Γ,st=>match st with
  |.Assign [.Name x _] e _=>match da Γ x,cE bL Γ e with
   |some i,ba e'=>ba (.set i e')
   |_,_=>gV
  |.Assign [.Tuple ts _ _] e _=>if isTup e then EZ Γ ts e else if jC e then gV else match FU Γ ts,cE bL Γ e with
   |some is,ba e'=>ba (.asg is e')
   |_,_=>gV
  |.Assign [.Subscript o k _] e _=>if uQ k then gV else match cE bL Γ o,cE bL Γ k,cE bL Γ e with
   |some o',ba k',ba e'=>ba (.put o' k' e')
   |_,_,_=>gV
  |.Expr e _=>if Do e then ba .pass else if jC e then gV else(cE bL Γ e).map .ex
  |.Return (ba e) _=>(cE bL Γ e).map .ret
  |.Pass _=>ba .pass
  |.If t a b _=>match cE bL Γ t,uR (cS n Γ) a,uR (cS n Γ) b with
   |some t',ba a',ba b'=>ba (.ite t' a' b')
   |_,_,_=>gV
  |.While t b [] _=>match cE bL Γ t,uR (cS n Γ) b with
   |some t',ba b'=>ba (.whl t' b')
   |_,_=>gV
  |.For tg it b [] _=>match cT Γ tg,cI Γ (cE bL Γ) tg it,uR (cS n Γ) b with
   |some t,ba i,ba b'=>ba (.loop t i b')
   |_,_,_=>gV
  |_=>gV
section
variable{M:KJ->FF}{X:Cx}{Γ:Gam}{fuel:Kf}
def zA {f:NB->Ke Sm}{s:NB}{ss:J5 NB}{r:Ss}(h:uR f (s::ss)=ba r):∃s' ss',f s=ba s'/\uR f ss=ba ss'/\r=.cons s' ss':=by
 simp only[uR,SY]at h;split at h
 ·rename_i e' es' h1 h2;cases h;show#[e',es',h1,h2,rfl]
 ·cases h
def gT {n:Kf}(ih:∀{st:NB}{s':Sm},cS n Γ st=ba s'->GS X st (gB M fuel s')):∀{ss:J5 NB}{r:Ss},uR (cS n Γ) ss=ba r->GSs X ss (gC M fuel r)
 |[],r,h=>by cases h;show Cc
 |s::ss,r,h=>by
  obtain⟨s',ss',h1,h2,rfl⟩:=zA h;show yY (ih h1) (gT ih h2)
def lu {e:KP}{t:Ke KP}{l:Kf}{env:RK}(h:jC e=false)(n:Kf){Γ:Gam}{e':E}(hc:cE n Γ e=ba e'):swapsWith e t l env=pure false:=by
 cases n with
 |zero=>cases hc
 |succ n=>cases e<;>first|(exfalso;show aK hc)|rfl|cases h
def sR (K:CtxOk M X Γ){n:Kf}{elt:KP}{gens:J5 Comprehension}{scope:N5}{p:Na}{e':E}(h:cE (n+1) Γ (.ListComp elt gens scope p)=ba e') :
  ∃tg iter ifs fi g c f cap,gens=[#[tg,iter,ifs,0]]/\aA M e'=lg fi g c f cap/\GI X tg iter fi/\(X.Ok->∃cl,CompOk X scope cl (ig scope.names) cap/\BlockOk X scope cl (ig scope.names) tg elt ifs g c f)/\∀x,foldedSetIterable iter X.env x=pure x:=by
 match gens,h with
 |[#[tg,iter,ifs,asy]],h=>
  replace h:(if (asy==0)&&(zr Γ scope&&decide (↥ifs<=1))then match cI Γ (cE n Γ) tg iter,cT (ii Γ scope) tg,cA (cE n (ii Γ scope)) ifs,cE n (ii Γ scope) elt with|some it,ba t,ba cs,ba el=>ba (E.comp el t it cs (gS Γ scope.names))|_,_,_,_=>gV else gV)=ba e':=h
  split at h
  ·rename_i hc;rw[Kg,Kg,KG]at hc;have e0:asy=0:=eq_of_beq hc.1;subst e0;replace hc:=hc.2;split at h
   ·rename_i it t cs el h1 h2 h3 h4;cases h;have sc:=uO hc.1;show#[tg,iter,ifs,_,_,_,_,_,rfl,rfl,sQ K (λz=>(bK n K z).1) h1,λok=>#[_,nj K ok sc,?_],oF (n:=n) (λel k p=>by cases n<;>rfl) h1]
    show#[λC s0 H0 ex=>uN (fw K sc C s0 H0 ex) h2,λC s0 H0 ex J s Y H Q I q=>?_,λC s0 H0 ex=>(bK n (fw K sc C s0 H0 ex) h4).1]
    show qE hc.2 h3 (λz=>(bK n (fw K sc C s0 H0 ex) z).2) rfl J s Y H Q I q
   ·cases h
  ·cases h
 |[],h=>show aK h
 |#[_,_,_,_]::_::_,h=>show aK h
def G8 (K:CtxOk M X Γ){x:KJ}{px pos:Na}{e:KP}{i:Kf}{e':E}(hi:da Γ x=ba i)(he:cE bL Γ e=ba e'):GS X (.Assign [.Name x px] e pos) (lf (aA M e') (Dj i)):=by
 obtain⟨a,b,c⟩:=oJ K hi;have hN:X.N.Nodup:=by rw[K.N];show K.nd
 have plain:swapsWith e (ba (.Name x px)) pos.line X.env=pure false->GS X (.Assign [.Name x px] e pos) (lf (aA M e') (Dj i)):=λhs=>sJ (bK _ K he).1 (uF hN a b c) hs (by cases e<;>rfl) rfl
 cases hc:jC e with
 |false=>show plain (lu hc _ he)
 |true=>
  cases e with
  |ListComp elt gens scope p=>
   cases hsw:(X.env.blockKind==.function&&X.env.kindOf x==ba .local&&px.line==p.line && !(scope.names.any λ(n,k)=>n==x&&(k==.local||k==.cell)))with
   |false=>
    show plain ?_;show(pure (X.env.blockKind==.function&&X.env.kindOf x==ba .local&&px.line==p.line && !(scope.names.any λ(n,k)=>n==x&&(k==.local||k==.cell))):UC KU)=pure false
    rw[hsw]
   |true=>
    have hsw':swapsWith (.ListComp elt gens scope p) (ba (.Name x px)) pos.line X.env=pure true:=by
     show(pure (X.env.blockKind==.function&&X.env.kindOf x==ba .local&&px.line==p.line && !(scope.names.any λ(n,k)=>n==x&&(k==.local||k==.cell))):UC KU)=pure true
     rw[hsw]
    rw[Kg,Kg,Kg]at hsw;have hl:X.env.scope.names.lookup x=ba .local:=eq_of_beq hsw.1.1.2;obtain⟨tg,iter,ifs,fi,g,c',f,cap,rfl,e2,gi,hck,hs⟩:=sR K he;rw[e2];show sN K.calm gi hck hs hsw' hN a hl
  |_=>cases hc
def qF (K:CtxOk M X Γ){x y:KJ}{px py pt pt2:Na}{kt k2:Kf}{a b:KP}(hxy:x≠y)(hx:Γ.sc.lookup x=ba .local)(hy:Γ.sc.lookup y=ba .local)(hl:(py.line==px.line)=true)(h1:[a,b].all (foldedForSure 8)=false)(h2:[a,b].all (constantsAlone 8)=false)(hs:iC a=true)(hs2:iC b=true) :
  swappedStores [.Tuple [.Name x px,.Name y py] kt pt] (.Tuple [a,b] k2 pt2) X.env=pure (ba [x,y]):=by
 have kx:(X.env.kindOf x==ba .local)=true:=by unfold Qs;rw[K.names,hx];rfl
 have ky:(X.env.kindOf y==ba .local)=true:=by unfold Qs;rw[K.names,hy];rfl
 have bk:(X.env.blockKind != .function)=false:=by
  unfold Env.blockKind;rw[K.kind];rfl
 have hp:(px.line==px.line)=true:=by simp
 have ed:([x,y].eraseDups.length != [x,y].length)=false:=by
  have:(y==x)=false:=by simpa using Ne.symm hxy
  simp[Ri,this]
 have kx':X.env.kindOf x=ba .local:=eq_of_beq kx;have ky':X.env.kindOf y=ba .local:=eq_of_beq ky;have hl':py.line=px.line:=eq_of_beq hl;have bk':X.env.blockKind=.function:=by simpa using bk
 have yx:(y==x)=false:=by simpa using Ne.symm hxy
 have h1':(foldedForSure 8 a&&foldedForSure 8 b)=false:=by simpa using h1
 have h2':(constantsAlone 8 a&&constantsAlone 8 b)=false:=by simpa using h2
 unfold swappedStores;simp only[M9,List.any_nil,Rn,NC,List.filterMap_nil,kx',ky',bk',List.head?_cons,Lk,Sy,KZ,MO,LD,List.all_nil,Oz,h1',h2'];show Eq.trans (KM ?_) (Eq.trans (KM ?_) ?_)
 ·decide
 ·rw[My];rintro(hh|hh)
  ·clear h1 h2 h1' h2';cases a<;>first|(cases hh;done)|(cases hs;done)
  ·clear h1 h2 h1' h2';cases b<;>first|(cases hh;done)|(cases hs2;done)
 ·delta Expr.pos;simp[hl',yx,Ri]
def CH (fuel:Kf)(K:CtxOk M X Γ):∀(n:Kf) {st:NB}{s':Sm},cS n Γ st=ba s'->GS X st (gB M fuel s'):=by
 have hN:X.N.Nodup:=by rw[K.N];show K.nd
 have own:Rc (model X.prog X.w) X.A X.env X.xe:=by rw[K.xe];show U8
 intro n
 induction n with
 |zero=>intro st s' h;cases h
 |succ n ih=>
  intro st s' h;cases st with
  |Expr e p=>
   replace h:(if Do e then ba Sm.pass else if jC e then gV else(cE bL Γ e).map Sm.ex)=ba s':=h
   split at h
   ·rename_i hd;cases h;cases e with
    |Constant c k q=>
     cases c with
     |str x=>show EN
     |_=>cases hd
    |_=>cases hd
   ·split at h
    ·cases h
    ·rename_i hd hc;rw[Kb]at h;obtain⟨e',h1,rfl⟩:=h;show GX (bK _ K h1).1 (lu (by simpa using hc) _ h1)
  |Return o p=>
   cases o with
   |none=>cases h
   |some e=>
    replace h:(cE bL Γ e).map Sm.ret=ba s':=h;rw[Kb]at h;obtain⟨e',h1,rfl⟩:=h;show EO (bK _ K h1).1
  |Pass p=>cases h;show Cf
  |If t a b p=>
   replace h:(match cE bL Γ t,uR (cS n Γ) a,uR (cS n Γ) b with|some t',ba a',ba b'=>ba (Sm.ite t' a' b')|_,_,_=>gV)=ba s':=h
   split at h
   ·rename_i t' a' b' h1 h2 h3;cases h;show GY (bK _ K h1).2 (gT ih h2) (gT ih h3)
   ·cases h
  |While t b o p=>
   cases o with
   |cons _ _=>show aK h
   |nil=>
    replace h:(match cE bL Γ t,uR (cS n Γ) b with|some t',ba b'=>ba (Sm.whl t' b')|_,_=>gV)=ba s':=h
    split at h
    ·rename_i t' b' h1 h2;cases h;show y4 fuel own (bK _ K h1).2 (gT ih h2)
    ·cases h
  |For tg it b o p=>
   cases o with
   |cons _ _=>show aK h
   |nil=>
    replace h:(match cT Γ tg,cI Γ (cE bL Γ) tg it,uR (cS n Γ) b with|some t,ba i,ba b'=>ba (Sm.loop t i b')|_,_,_=>gV)=ba s':=h
    split at h
    ·rename_i t i b' h1 h2 h3;cases h;show EU own K.calm (sQ K (λz=>(bK _ K z).1) h2) (uN K h1) (gT ih h3) (oF (n:=bL) (λel k p=>rfl) h2)
    ·cases h
  |Assign ts e p=>
   match ts,h with
   |[],h=>show aK h
   |a::_::_,h=>cases a<;>show aK h
   |[t],h=>
    cases t with
    |Name x px=>
     replace h:(match da Γ x,cE bL Γ e with|some i,ba e'=>ba (Sm.set i e')|_,_=>gV)=ba s':=h
     split at h
     ·rename_i i e' h1 h2;cases h;show G8 K h1 h2
     ·cases h
    |Subscript o k q=>
     replace h:(if uQ k then gV else match cE bL Γ o,cE bL Γ k,cE bL Γ e with|some o',ba k',ba e'=>ba (Sm.put o' k' e')|_,_,_=>gV)=ba s':=h
     split at h
     ·cases h
     ·rename_i hc;split at h
      ·rename_i o' k' e' h1 h2 h3;cases h;show sJ (bK _ K h3).1 (ER (by have:=K.un;have:iu=20:=rfl;omega) (bK _ K h1).1 (bK _ K h2).1 ?_) (by cases e<;>rfl) (by cases e<;>rfl) rfl
       intro v;cases k<;>first|rfl|show absurd rfl hc
      ·cases h
    |Tuple ts' k q=>
     have par:∀{x y:KJ}{px py:Na}{a b:PySem.Expr}{k2:Kf}{q2:Na},(match Γ.N.findIdx? (· == x),Γ.N.findIdx? (· == y),cA (cE bL Γ) [a,b]with
       |some i,ba j,ba es=>if !(i==j)&&(Γ.sc.lookup x==ba .local)&&(Γ.sc.lookup y==ba .local)&&(py.line==px.line) && !([a,b].all (foldedForSure 8)) && !([a,b].all (constantsAlone 8))then ba (Sm.par i j es)else gV
       |_,_,_=>gV)=ba s'->GS X (.Assign [.Tuple [.Name x px,.Name y py] k q] (.Tuple [a,b] k2 q2) p) (gB M fuel s'):=λ{x y px py a b k2 q2} h=>by
      split at h
      ·rename_i i j es h1 h2 h3;split at h
       ·rename_i hc;cases h;rw[Kg,Kg,Kg,Kg,Kg]at hc;obtain⟨⟨⟨⟨⟨c1,c2⟩,c3⟩,c4⟩,c5⟩,c6⟩:=hc;have hij:i≠j:=by simpa using c1
        have ns:=bT h3;rw[LD,LD,Kg,Kg]at ns;have hi:X.N[i]?=ba x:=by rw[K.N];show dv h1
        have hj:X.N[j]?=ba y:=by rw[K.N];show dv h2
        show ES K.calm hN hi hj hij (by rw[K.names];show eq_of_beq c2) (by rw[K.names];show eq_of_beq c3) (db (λz=>(bK _ K z).1) h3) (qF K ?_ (eq_of_beq c2) (eq_of_beq c3) c4 (by rw[<- N6];show c5) (by rw[<- N6];show c6) ns.1 ns.2.1) rfl
        rintro rfl;rw[h1]at h2;cases h2;show hij rfl
       ·cases h
      ·cases h
     replace h:(if isTup e then EZ Γ ts' e else if jC e then gV else match FU Γ ts',cE bL Γ e with|some is,ba e'=>ba (Sm.asg is e')|_,_=>gV)=ba s':=h
     split at h
     ·unfold EZ at h;split at h
      ·show par h
      ·cases h
     ·split at h
      ·cases h
      ·rename_i hc1 hc2;split at h
       ·rename_i is e' h1 h2;cases h;show sJ (bK _ K h2).1 (uN (tg:=.Tuple ts' k q) (t:=.tp is) K (by(delta cT;simp[h1]))) (lu (t:=ba (.Tuple ts' k q)) (l:=p.line) (env:=X.env) (by simpa using hc2) _ h2) ?_ rfl
        cases e<;>first|rfl|show absurd rfl hc1
       ·cases h
    |_=>show aK h
  |_=>show aK h
end
structure Df where
 ps:J5 KJ
 N:J5 KJ
 body:Ss
abbrev fO (N:J5 KJ)(ws:J5 W):Fm:=ws.map ba++Lf (↥N-↥ws) gV
abbrev al (defs:J5 (KJ×Df))(fuel:Kf):Kf->KJ->FF
 |0,_,_,_=>gV
 |d+1,f,ws,S=>match defs.lookup f with
  |some df=>if ↥ws=↥df.ps then match gC (al defs fuel d) fuel df.body (fO df.N ws) S with
    |some (.rt w,S')=>ba (w,S')
    |some (.nx _,S')=>ba (.non,S')
    |_=>gV
   else gV
  |none=>gV
structure Md where
 fns:J5 (KJ×Kf)
 blt:J5 KJ
abbrev zB (Mqa:Md)(st:NB)(N:J5 KJ):Gam:={sc:=(aR st).names,N:=N,fns:=Mqa.fns,blt:=Mqa.blt,dfn:=true}
abbrev G9 (Mqa:Md)(st:NB)(df:Df):Prop:=uR (cS 20 (zB Mqa st df.N)) (cg st)=ba df.body
def nk {K:Kr}{A:J5 Kj}{H:Hp}{ws:J5 W}{vs:J5 V}{N:J5 KJ}(r:RelL K A H ws vs):EnvRel K A H (fO N ws) (gp N vs):=by
 show#[by simp[fO,L2.gp,↥r],λi w h=>?_]
 unfold fO at h;unfold L2.gp
 by_cases hi:i<↥ws
 ·rw[Lg (by simpa using hi),Kh]at h
  rw[Lg (by rw[J7,<- ↥r];show hi),Kh]
  cases q:ws[i]? with
  |none=>rw[q]at h;cases h
  |some w'=>
   rw[q]at h;simp only[Lk,K4]at h;subst h;obtain⟨v,h1,h2⟩:=r.get q;show#[v,by rw[h1];rfl,h2]
 ·rw[Mg (by simpa using hi)]at h
  have:=Ko h;simp at this
section
variable{P:K9}{w:Ll}{K:Kr}{mg:KJ->Ke J9}{base:Lq}
abbrev Dp (P:K9)(w:Ll)(K:Kr)(mg:KJ->Ke J9)(base:Lq)(Mqa:Md)(defs:J5 (KJ×Df))(fuel d:Kf):Prop:=
 ∀f n,Mqa.fns.lookup f=ba n->∃fa fd ps,FnOk P w K mg base xo d fa fd ps (spF w K n (al defs fuel d f))/\mg f=ba (.ref fa)/\L8 K (.ref fa)=true/\Binds K fd ps []
structure MdOk (w:Ll)(K:Kr)(mg:KJ->Ke J9)(Mqa:Md):Prop where
 blt:∀y∈Mqa.blt,mg y=gV
def Dq {Mqa:Md}{defs:J5 (KJ×Df)}{fuel d:Kf}{x qual:KJ}{st:NB}{f:Kj}{fd:Nf}{df:Df}(F:Fun K x qual st f fd)(S:FnScope df.N df.ps (aR st))(hd:defs.lookup x=ba df)(hc:G9 Mqa st df)
  (hb:MdOk w K mg Mqa) (prev:Dp P w K mg base Mqa defs fuel d):FnOk P w K mg base xo (d+1) f fd df.ps (spF w K ↥df.ps (al defs fuel (d+1) x)):=by
 show F.ok S (λvs H Q E h=>?_) (λcdv A outer s H vs Q E hr h=>?_)
 ·obtain⟨A,S,ws,w',S',_,rl,hl,_⟩:=h;rw[<- ↥rl];show hl
 ·obtain⟨A',St,ws,w',S',so,rl,hl,e,hq⟩:=h;have K':CtxOk (al defs fuel d) (rR xo P w K mg base df.N qual (aR st) f cdv A outer s H E).nox (zB Mqa st df.N):=by
   show#[rfl,S.kind,rfl,S.nd,rfl,rfl,?_,λ_ _=>rfl,hb.blt,λg n hg=>?_]
   ·have:=hr.un;show(A.deeper _).units+20<cLine;omega
   ·obtain⟨fa,fd',ps',h1,h2,h3,h4⟩:=prev g n hg;show#[d,fa,fd',ps',h1,hr,h2,h3,h4]
  show#[tS _ (gC (al defs fuel d) fuel df.body),gT (λz=>CH fuel K' 20 z) hc,?_]
  (dsimp only[al]at e;simp only[hd]at e)
  rw[KF hl]at e;split at e
  ·rename_i w1 S1 h1;cases e;show#[A',fO df.N ws,St,_,_,nk rl,so,h1,#[λY' H' #[_,_,z,_,_,_]=>(by cases z),λv H' #[w2,A2,z0,z1,z2,z3]=>?_,λY' H' #[_,_,z,_,_,_]=>(by cases z),λY' H' #[_,_,z,_,_,_]=>(by cases z)]]
   cases z0;show hq v H' #[A2,z1,z2,z3]
  ·rename_i Z1 S1 h1;cases e;show#[A',fO df.N ws,St,_,_,nk rl,so,h1,#[λY' H' #[w2,A2,z0,z1,z2,z3]=>?_,λY' H' #[_,_,z,_,_,_]=>(by cases z),λY' H' #[_,_,z,_,_,_]=>(by cases z),λY' H' #[_,_,z,_,_,_]=>(by cases z)]]
   show hq _ H' #[A2,z1,z2,.non]
  ·cases e
def wD {H:Hp}{a:Kj}{ns:J5 Ks}(hO:xP H)(hS:SqL K H a (ns.map V.int)):StoreOk w K [a] H [.fro (ns.map W.int)]/\RelL K [a] H [.ref 0] [.ref a]:=by
 have rl:∀ns:J5 Ks,RelL K [a] H (ns.map W.int) (ns.map V.int):=by
  intro ns
  induction ns with
  |nil=>show .nil
  |cons n ns ih=>show .cons .int ih
 have fr:FroL K H a (ns.map V.int):=by
  rcases hS with(h|⟨o,h⟩)|h
  ·rcases hO a with z|⟨o,xs,z⟩<;>(rw[z]at h;cases h)
  ·show .inl #[o,h]
  ·show .inr h
 show#[#[rfl,λi j b o u e1 m1 e2 m2 _ _=>?_,λi o b e1 e2=>?_],.cons (.ref rfl) .nil]
 ·cases i with
  |zero=>simp at e1;subst e1;cases m1
  |succ i=>simp at e1
 ·cases i with
  |zero=>
   simp at e1 e2;subst e1 e2;show#[_,fr,rl ns]
  |succ i=>simp at e1
def E1 {g:FF}{H:Hp}{a:Kj}{ns:J5 Ks}(h:∃S',g [.ref 0] [.fro (ns.map W.int)]=ba (.bl true,S'))(hO:xP H)(hS:SqL K H a (ns.map V.int)):spF w K 1 g [.ref a] H (λv _=>v=.bl true) λ_ _ _=>LV:=by
 obtain⟨S',e⟩:=h;obtain⟨so,rl⟩:=wD hO hS;show#[[a],_,_,_,S',so,rl,rfl,e,λv H' #[A',z1,z2,z3]=>by cases z3;rfl]
end
abbrev Wp {α:Type}(o:Ke α)(Q:α->Prop):Prop:=∃a,o=ba a/\Q a
def ac {α:Type}{a:α}{Q:α->Prop}:Wp (ba a) Q↔Q a:=#[λ#[b,e,h]=>(by cases e;show h),λh=>#[a,rfl,h]]
def ae {α:Type}{Q:α->Prop}:Wp (gV:Ke α) Q↔LV:=#[λ#[b,e,h]=>(by cases e),λh=>h.elim]
def Wp.mono {α:Type}{o:Ke α}{Q Q':α->Prop}(h:Wp o Q)(k:∀a,Q a->Q' a):Wp o Q':=let ⟨a,e,q⟩:=h;#[a,e,k a q]
section
variable{M:KJ->FF}{fuel:Kf}{Z:Fm}{S:aa}
noncomputable abbrev QW:=W×aa->Prop
def J0 {w:W}{Q:QW}:Wp (aA M (.c w) Z S) Q↔Q (w,S):=by(delta aA;simp[fC,ac,ae])
def JN {i:Kf}{Q:QW}:Wp (aA M (.v i) Z S) Q↔∃w,Z[i]?=ba (ba w)/\Q (w,S):=by
 (delta aA;revert fV)
 rcases h:Z[i]? with _|_|w<;>simp[ac,ae]
def zC {g:W->W->aa->Ke (W×aa)}{a b:FE}{Q:QW}:Wp (BW g a b Z S) Q↔Wp (a Z S) λp=>Wp (b Z p.2) λq=>Wp (g p.1 q.1 q.2) Q:=by
 unfold BW;rcases h:a Z S with _|⟨x,S1⟩
 ·simp[ac,ae]
 ·rcases h2:b Z S1 with _|⟨y,S2⟩<;>simp[ac,ae,h2]
def Jk {o:BOp}{a b:E}{Q:QW}:Wp (aA M (.op o a b) Z S) Q↔Wp (aA M a Z S) λp=>Wp (aA M b Z p.2) λq=>Wp (gk o p.1 q.1 q.2) Q:=by delta aA;show zC
def Dr {o:COp}{a b:E}{Q:QW}:Wp (aA M (.cmp o a b) Z S) Q↔Wp (aA M a Z S) λp=>Wp (aA M b Z p.2) λq=>Wp (cx o p.1 q.1 q.2) Q:=by delta aA;show zC
def Jl {a b:E}{Q:QW}:Wp (aA M (.ix a b) Z S) Q↔Wp (aA M a Z S) λp=>Wp (aA M b Z p.2) λq=>Wp (n6 p.1 q.1 q.2) Q:=by delta aA;show zC
def Ha {a b:E}{Q:QW}:Wp (aA M (.and a b) Z S) Q↔Wp (aA M a Z S) λp=>∃k,p.1=.bl k/\(k=true->Wp (aA M b Z p.2) Q)/\(k=false->Q (.bl false,p.2)):=by
 (delta aA;delta uB)
 rcases h:aA M a Z S with _|⟨x,S1⟩
 ·simp[ac,ae]
 ·cases x<;>simp[ac,ae]
  rename_i b;cases b<;>simp[ac,ae]
def Jm {a b:E}{Q:QW}:Wp (aA M (.or a b) Z S) Q↔Wp (aA M a Z S) λp=>∃k,p.1=.bl k/\(k=true->Q (.bl true,p.2))/\(k=false->Wp (aA M b Z p.2) Q):=by
 (delta aA;delta B4)
 rcases h:aA M a Z S with _|⟨x,S1⟩
 ·simp[ac,ae]
 ·cases x<;>simp[ac,ae]
  rename_i b;cases b<;>simp[ac,ae]
def Hb {a:E}{Q:QW}:Wp (aA M (.not a) Z S) Q↔Wp (aA M a Z S) λp=>∃k,p.1=.bl k/\Q (.bl (!k),p.2):=by
 (delta aA;delta uC)
 rcases h:aA M a Z S with _|⟨x,S1⟩
 ·simp[ac,ae]
 ·cases x<;>simp[ac,ae]
  rename_i k;cases k<;>simp
def Hc {t a b:E}{Q:QW}:Wp (aA M (.ite t a b) Z S) Q↔Wp (c7 M t Z S) λp=>(p.1=true->Wp (aA M a Z p.2) Q)/\(p.1=false->Wp (aA M b Z p.2) Q):=by
 (delta aA;revert B5)
 rcases h:c7 M t Z S with _|⟨x,S1⟩
 ·simp[ac,ae]
 ·cases x<;>simp[ac,ae]
def Ds {f:KJ}{n:Kf}{es:Es}{Q:QW}:Wp (aA M (.own f n es) Z S) Q↔Wp (cX M es Z S) λp=>↥p.1=n/\Wp (M f p.1 p.2) Q:=by
 (delta aA;delta qo)
 rcases h:cX M es Z S with _|⟨x,S1⟩
 ·simp[ac,ae]
 ·by_cases hl:↥x=n<;>simp[ac,ae,hl]
def Hd {b:Bi}{es:Es}{Q:QW}:Wp (aA M (.bi b es) Z S) Q↔Wp (cX M es Z S) λp=>Wp (b.fn p.1 p.2) Q:=by
 (delta aA;delta jW)
 rcases h:cX M es Z S with _|⟨x,S1⟩<;>simp[ac,ae]
def Jn {m:Me}{o:E}{es:Es}{Q:QW}:Wp (aA M (.me m o es) Z S) Q↔Wp (aA M o Z S) λp=>tyOk m.ty p.2 p.1=true/\Wp (cX M es Z p.2) λq=>Wp (m.fn p.1 q.1 q.2) Q:=by
 (delta aA;delta FP)
 rcases h:aA M o Z S with _|⟨x,S1⟩
 ·simp[ac,ae]
 ·by_cases ht:tyOk m.ty S1 x=true
  ·rcases h2:cX M es Z S1 with _|⟨y,S2⟩<;>simp[ac,ae,ht,h2]
  ·simp[ac,ae,ht]
def Jo {a:E}{lo hi:Ep}{Q:QW}:Wp (aA M (.sl a lo hi) Z S) Q↔Wp (aA M a Z S) λp=>Wp (uI M lo Z p.2) λq=>Wp (uI M hi Z q.2) λr=>Wp (mE p.1 q.1 r.1 r.2) Q:=by
 (delta aA;delta GR)
 rcases h:aA M a Z S with _|⟨x,S1⟩
 ·simp[ac,ae]
 ·rcases h2:uI M lo Z S1 with _|⟨y,S2⟩
  ·simp[ac,ae,h2]
  ·rcases h3:uI M hi Z S2 with _|⟨z,S3⟩<;>simp[ac,ae,h2,h3]
def Jp {Q:Ke Ks×aa->Prop}:Wp (uI M .no Z S) Q↔Q (gV,S):=by(delta uI;simp[EK,ac,ae])
def He {a:E}{Q:Ke Ks×aa->Prop}:Wp (uI M (.yes a) Z S) Q↔Wp (aA M a Z S) λp=>∃i,p.1=.int i/\Q (ba i,p.2):=by
 (delta uI;revert uE)
 rcases h:aA M a Z S with _|⟨x,S1⟩
 ·simp[ac,ae]
 ·cases x<;>simp[ac,ae]
def Hf {es:Es}{Q:QW}:Wp (aA M (.tup es) Z S) Q↔Wp (cX M es Z S) λp=>↥p.1<=sizeLine/\Q (.tup p.1,p.2):=by
 (delta aA;(delta yU;revert rX))
 rcases h:cX M es Z S with _|⟨x,S1⟩
 ·simp[ac,ae]
 ·by_cases hl:↥x<=sizeLine<;>simp[ac,ae,hl]
def Hg {es:Es}{Q:QW}:Wp (aA M (.lst es) Z S) Q↔Wp (cX M es Z S) λp=>↥p.1<=sizeLine/\Q (.ref ↥p.2,p.2++[.lst p.1]):=by
 (delta aA;(delta yV;revert lZ))
 rcases h:cX M es Z S with _|⟨x,S1⟩
 ·simp[ac,ae]
 ·by_cases hl:↥x<=sizeLine<;>simp[ac,ae,hl]
def Dt {c:L1}{a:E}{Q:QW}:Wp (aA M (.isi c a) Z S) Q↔Wp (aA M a Z S) λp=>∃k,wp p.2 p.1 c=ba k/\Q (.bl k,p.2):=by
 (delta aA;revert y9)
 rcases h:aA M a Z S with _|⟨x,S1⟩
 ·simp[ac,ae]
 ·cases h2:wp S1 x c<;>simp[ac,ae,h2]
  rename_i k;cases k<;>simp
def Hh {a:E}{Q:QW}:Wp (aA M (.neg a) Z S) Q↔Wp (aA M a Z S) λp=>∃i,p.1=.int i/\Q (.int (-i),p.2):=by
 (delta aA;revert yP)
 rcases h:aA M a Z S with _|⟨x,S1⟩
 ·simp[ac,ae]
 ·cases x<;>simp[ac,ae]
def E2 {es:Es}{Q:QW}:Wp (aA M (.disp es) Z S) Q↔Wp (cX M es Z (S++[.dic []])) λp=>p.2[↥S]?=ba (.dic [])/\∃U,dD [] p.1=ba U/\Q (.ref ↥S,p.2.set ↥S (.dic U)):=by
 have e:aA M (.disp es) Z S=qu (cX M es) Z S:=by delta aA
 rw[e];unfold qu;cases cX M es Z (S++[.dic []])with
 |none=>simp[ae]
 |some p=>
  obtain⟨x,S1⟩:=p;revert ac;cases h2:S1[↥S]? with
  |none=>simp[ae]
  |some o=>
   cases o with
   |lst _=>simp[ae]
   |fro _=>simp[ae]
   |frd _=>simp[ae]
   |stt _=>simp[ae]
   |rng _ _=>simp[ae]
   |dic U=>
    cases U with
    |nil=>cases h3:dD [] x<;>simp[ac,ae]
    |cons a b=>simp[ae]
def Hi {Q:J5 W×aa->Prop}:Wp (cX M .nil Z S) Q↔Q ([],S):=by(delta cX;(delta i5;simp[ac,ae]))
def E3 {e:E}{es:Es}{Q:J5 W×aa->Prop}:Wp (cX M (.cons e es) Z S) Q↔Wp (aA M e Z S) λp=>Wp (cX M es Z p.2) λq=>Q (p.1::q.1,q.2):=by
 (delta cX;delta dE)
 rcases h:aA M e Z S with _|⟨x,S1⟩
 ·simp[ac,ae]
 ·rcases h2:cX M es Z S1 with _|⟨y,S2⟩<;>simp[ac,ae,h2]
noncomputable abbrev QB:=KU×aa->Prop
def Hj {f:FE}{Q:QB}:Wp (yR f Z S) Q↔Wp (f Z S) λp=>∃k,p.1=.bl k/\Q (k,p.2):=by
 unfold yR;rcases h:f Z S with _|⟨x,S1⟩
 ·simp[ac,ae]
 ·cases x<;>simp[ac,ae]
  rename_i k;cases k<;>simp
def uS {f:FE}{Q:QB}:Wp (g9 f Z S) Q↔Wp (f Z S) λp=>∃k,ga p.2 p.1=ba k/\Q (k,p.2):=by
 unfold g9;rcases h:f Z S with _|⟨x,S1⟩
 ·simp[ac,ae]
 ·cases h2:ga S1 x<;>simp[ac,ae,h2]
  rename_i k;cases k<;>simp
def Hk {o:COp}{a b:E}{Q:QB}:Wp (c7 M (.cmp o a b) Z S) Q↔Wp (aA M (.cmp o a b) Z S) λp=>∃k,p.1=.bl k/\Q (k,p.2):=by delta c7 aA;show Hj
def Hl {a b:E}{Q:QB}:Wp (c7 M (.and a b) Z S) Q↔Wp (c7 M a Z S) λp=>(p.1=true->Wp (c7 M b Z p.2) Q)/\(p.1=false->Q (false,p.2)):=by
 (delta c7;revert yS)
 rcases h:c7 M a Z S with _|⟨x,S1⟩
 ·simp[ac,ae]
 ·cases x<;>simp[ac,ae]
def Jq {a b:E}{Q:QB}:Wp (c7 M (.or a b) Z S) Q↔Wp (c7 M a Z S) λp=>(p.1=true->Q (true,p.2))/\(p.1=false->Wp (c7 M b Z p.2) Q):=by
 (delta c7;revert GN)
 rcases h:c7 M a Z S with _|⟨x,S1⟩
 ·simp[ac,ae]
 ·cases x<;>simp[ac,ae]
def Hm {a:E}{Q:QB}:Wp (c7 M (.not a) Z S) Q↔Wp (c7 M a Z S) λp=>Q (!p.1,p.2):=by
 (delta c7;revert BY)
 rcases h:c7 M a Z S with _|⟨x,S1⟩<;>simp[ac,ae]
def J1 {i:Kf}{Q:QB}:Wp (c7 M (.v i) Z S) Q↔Wp (aA M (.v i) Z S) λp=>∃k,ga p.2 p.1=ba k/\Q (k,p.2):=by delta c7 aA;show uS
def Hn {f:KJ}{n:Kf}{es:Es}{Q:QB}:Wp (c7 M (.own f n es) Z S) Q↔Wp (aA M (.own f n es) Z S) λp=>∃k,ga p.2 p.1=ba k/\Q (k,p.2):=by delta c7 aA;show uS
def Jr {b:Bi}{es:Es}{Q:QB}:Wp (c7 M (.bi b es) Z S) Q↔Wp (aA M (.bi b es) Z S) λp=>∃k,ga p.2 p.1=ba k/\Q (k,p.2):=by delta c7 aA;show uS
def Ho {c:L1}{a:E}{Q:QB}:Wp (c7 M (.isi c a) Z S) Q↔Wp (aA M (.isi c a) Z S) λp=>∃k,ga p.2 p.1=ba k/\Q (k,p.2):=by delta c7 aA;show uS
noncomputable abbrev QO:=Out×aa->Prop
def Hq {Q:QO}:Wp (gC M fuel .nil Z S) Q↔Q (.nx Z,S):=by(delta gC;simp[ac,ae])
def E4 {s:Sm}{ss:Ss}{Q:QO}:Wp (gC M fuel (.cons s ss) Z S) Q↔Wp (gB M fuel s Z S) λp=>(∀Z',p.1=.nx Z'->Wp (gC M fuel ss Z' p.2) Q)/\((∀Z',p.1≠.nx Z')->Q p):=by
 (delta gC;revert Cd)
 rcases h:gB M fuel s Z S with _|⟨o,S1⟩
 ·simp[ac,ae]
 ·cases o<;>simp[ac,ae]
def zD {f:FE}{g:FG}{Q:QO}:Wp (lf f g Z S) Q↔Wp (f Z S) λp=>Wp (g p.1 Z p.2) λq=>Q (.nx q.1,q.2):=by
 unfold lf;rcases h:f Z S with _|⟨x,S1⟩
 ·simp[ac,ae]
 ·rcases h2:g x Z S1 with _|⟨y,S2⟩<;>simp[ac,ae,h2]
def E5 {i:Kf}{e:E}{Q:QO}:Wp (gB M fuel (.set i e) Z S) Q↔Wp (aA M e Z S) λp=>Q (.nx (Z.set i (ba p.1)),p.2):=by
 delta gB;rw[zD];simp[Dj,ac,ae]
def E6 {is:J5 Kf}{e:E}{Q:QO}:Wp (gB M fuel (.asg is e) Z S) Q↔Wp (aA M e Z S) λp=>∃ws Z',p.1=.tup ws/\dC is ws Z=ba Z'/\Q (.nx Z',p.2):=by
 delta gB;rw[zD]
 constructor
 ·show λh=>h.mono λp hp=>?_
  obtain⟨w,S1⟩:=p;obtain⟨q,h1,h2⟩:=hp;cases w with
  |tup ws=>
   simp only[FQ,Kb]at h1;obtain⟨Z',h3,rfl⟩:=h1;show#[ws,Z',rfl,h3,h2]
  |_=>cases h1
 ·show λh=>h.mono λp hp=>?_
  obtain⟨w,S1⟩:=p;obtain⟨ws,Z',h0,h1,h2⟩:=hp;subst h0;show#[(Z',S1),by simp[FQ,h1],h2]
def E7 {i j:Kf}{es:Es}{Q:QO}:Wp (gB M fuel (.par i j es) Z S) Q↔Wp (cX M es Z S) λp=>∃x y,p.1=[x,y]/\Q (.nx ((Z.set i (ba x)).set j (ba y)),p.2):=by
 (delta gB;delta Cj)
 rcases h:cX M es Z S with _|⟨x,S1⟩
 ·simp[ae]
 ·match x with
  |[]=>simp[ac,ae]
  |[_]=>simp[ac,ae]
  |[a,b]=>
   revert ac;show#[λh=>#[a,b,rfl,h],λ#[x,y,e,h]=>by cases e;show h]
  |_::_::_::_=>simp[ac,ae]
def E8 {o k e:E}{Q:QO}:Wp (gB M fuel (.put o k e) Z S) Q↔Wp (aA M e Z S) λp=>Wp (aA M o Z p.2) λq=>Wp (aA M k Z q.2) λr=>∃S',iW q.1 r.1 p.1 r.2=ba S'/\Q (.nx Z,S'):=by
 delta gB;rw[zD]
 rcases h:aA M e Z S with _|⟨x,S1⟩
 ·simp[ac,ae]
 ·revert ac;unfold Ci;rcases h2:aA M o Z S1 with _|⟨y,S2⟩
  ·simp[ac,ae]
  ·rcases h3:aA M k Z S2 with _|⟨z,S3⟩
   ·simp[ac,ae,h3]
   ·cases h4:iW y z x S3<;>simp[ac,ae,h3,h4]
def Hr {e:E}{Q:QO}:Wp (gB M fuel (.ex e) Z S) Q↔Wp (aA M e Z S) λp=>Q (.nx Z,p.2):=by
 (delta gB;revert Ce)
 rcases h:aA M e Z S with _|⟨x,S1⟩<;>simp[ac,ae]
def E9 {e:E}{Q:QO}:Wp (gB M fuel (.ret e) Z S) Q↔Wp (aA M e Z S) λp=>Q (.rt p.1,p.2):=by
 (delta gB;revert Cg)
 rcases h:aA M e Z S with _|⟨x,S1⟩<;>simp[ac,ae]
def Fa {t:E}{a b:Ss}{Q:QO}:Wp (gB M fuel (.ite t a b) Z S) Q↔Wp (c7 M t Z S) λp=>(p.1=true->Wp (gC M fuel a Z p.2) Q)/\(p.1=false->Wp (gC M fuel b Z p.2) Q):=by
 (delta gB;revert Ch)
 rcases h:c7 M t Z S with _|⟨x,S1⟩
 ·simp[ac,ae]
 ·cases x<;>simp[ac,ae]
abbrev zE (I:Fm->aa->Prop)(Q:QO)(o:Out×aa):Prop:=match o.1 with
 |.nx Z'=>I Z' o.2
 |.ct Z'=>I Z' o.2
 |.bk Z'=>Q (.nx Z',o.2)
 |.rt w=>Q (.rt w,o.2)
def jD {mi:MI}{g:FG}{b:FS}{xs:J5 W}{Q:QO}(I:Kf->Fm->aa->Prop)(hat:∀i Z S,I i Z S->mi.at S i=ba xs[i]?)
  (hstep:∀i w Z S,xs[i]?=ba w->I i Z S->Wp (g w Z S) λq=>Wp (b q.1 q.2) (zE (I (i+1)) Q)) (hend:∀Z S,I ↥xs Z S->Q (.nx Z,S)):∀(n i:Kf) (Z:Fm) (S:aa),i+n=↥xs->I i Z S->Wp (gA mi g b n i Z S) Q
 |0,i,Z,S,hl,hI=>by
  have e:mi.at S i=ba gV:=by rw[hat i Z S hI,N4 ∅]
  revert gA e;have hi:i=↥xs:=∅
  show ac.mpr (hend Z S (hi▸hI))
 |n+1,i,Z,S,hl,hI=>by
  have hi:i<↥xs:=∅
  have e:mi.at S i=ba (ba xs[i]):=by rw[hat i Z S hI,Kl hi]
  obtain⟨⟨Z1,S1⟩,h1,⟨o,S2⟩,h2,h3⟩:=hstep i xs[i] Z S (Kl hi) hI;revert gA e h1 h2;cases o with
  |nx Z2=>show jD I hat hstep hend n (i+1) Z2 S2 ∅ h3
  |ct Z2=>show jD I hat hstep hend n (i+1) Z2 S2 ∅ h3
  |bk Z2=>show ac.mpr h3
  |rt w=>show ac.mpr h3
def Hs {fi:FI}{g:FG}{b:FS}{Q:QO}:Wp (y6 fi g b Z S) Q↔Wp (fi Z S) λp=>∃n,p.1.len p.2=ba n/\Wp (gA p.1 g b n 0 Z p.2) Q:=by
 unfold y6;rcases h:fi Z S with _|⟨mi,S1⟩
 ·simp[ae]
 ·cases h2:mi.len S1<;>simp[ac,ae,h2]
def dI {mi:MI}{g:FG}{c:FT}{f:FE}{xs:J5 W}{Q:J5 W×aa->Prop}(I:Kf->J5 W->Fm->aa->Prop)(hat:∀i ys Z S,I i ys Z S->mi.at S i=ba xs[i]?)
  (hstep:∀i w ys Z S,xs[i]?=ba w->I i ys Z S->Wp (g w Z S) λq=>Wp (c q.1 q.2) λk=>(k.1=true->Wp (f q.1 k.2) λy=>I (i+1) (ys++[y.1]) q.1 y.2)/\(k.1=false->I (i+1) ys q.1 k.2))
  (hend:∀ys Z S,I ↥xs ys Z S->Q (ys,S)):∀(n i:Kf) (ys:J5 W) (Z:Fm) (S:aa),i+n=↥xs->I i ys Z S->Wp (bz mi g c f n i Z S) λp=>Q (ys++p.1,p.2)
 |0,i,ys,Z,S,hl,hI=>by
  have e:mi.at S i=ba gV:=by rw[hat i ys Z S hI,N4 ∅]
  revert bz e;show ac.mpr ?_;have:i=↥xs:=∅
  simpa using hend ys Z S (this▸hI)
 |n+1,i,ys,Z,S,hl,hI=>by
  have hi:i<↥xs:=∅
  have e:mi.at S i=ba (ba xs[i]):=by rw[hat i ys Z S hI,Kl hi]
  obtain⟨⟨Z1,S1⟩,h1,⟨k,S2⟩,h2,h3,h4⟩:=hstep i xs[i] ys Z S (Kl hi) hI;revert bz e h1 h2;cases k with
  |true=>
   obtain⟨⟨y,S3⟩,h5,h6⟩:=h3 rfl;revert h5;obtain⟨⟨zs,S4⟩,h7,h8⟩:=dI I hat hstep hend n (i+1) (ys++[y]) Z1 S3 ∅ h6
   revert h7;show ac.mpr (by simpa using h8)
  |false=>show dI I hat hstep hend n (i+1) ys Z1 S2 ∅ (h4 rfl)
def zF {elt:E}{tg:Tg}{it:Ie}{cs:Es}{cap:J5 (Ke Kf)}{Q:QW}:Wp (aA M (.comp elt tg it cs cap) Z S) Q↔Wp (jy M it Z S) λp=>∃n,p.1.len p.2=ba n/\Wp (bz p.1 (fX tg) (CB M cs) (aA M elt) n 0 (eW cap Z) p.2) λq=>↥q.1<=sizeLine/\Q (.ref ↥q.2,q.2++[.lst q.1]):=by
 (delta aA;revert lg lZ)
 rcases h:jy M it Z S with _|⟨mi,S1⟩
 ·simp[ae]
 ·rcases h2:mi.len S1 with _|n
  ·simp[ac,ae,h2]
  ·rcases h3:bz mi (fX tg) (CB M cs) (aA M elt) n 0 (eW cap Z) S1 with _|⟨ys,S2⟩
   ·simp[ac,ae,h2,h3]
   ·by_cases hl:↥ys<=sizeLine<;>simp[ac,ae,h2,h3,hl]
def Ht {Q:QB}:Wp (CB M .nil Z S) Q↔Q (true,S):=by(delta CB;simp[Dl,ac])
def Hu {e:E}{Q:QB}:Wp (CB M #v[e] Z S) Q↔Wp (c7 M e Z S) Q:=by delta CB;show Iff.rfl
def lv {c:FT}{b:FS}{Q:QO}(I:Kf->Fm->aa->Prop)(hstep:∀m Z S,I m Z S->Wp (c Z S) λk=>(k.1=true->∃m',m=m'+1/\Wp (b Z k.2) (zE (I m') Q))/\(k.1=false->Q (.nx Z,k.2))) :
  ∀(n m:Kf) (Z:Fm) (S:aa),m<n->I m Z S->Wp (oz c b n Z S) Q
 |0,m,Z,S,h,_=>∅
 |n+1,m,Z,S,h,hI=>by
  obtain⟨⟨k,S1⟩,h1,h2,h3⟩:=hstep m Z S hI;revert oz h1;cases k with
  |false=>show ac.mpr (h3 rfl)
  |true=>
   obtain⟨m',rfl,⟨o,S2⟩,h5,h6⟩:=h2 rfl;revert h5;cases o with
   |nx Z2=>show lv I hstep n m' Z2 S2 ∅ h6
   |ct Z2=>show lv I hstep n m' Z2 S2 ∅ h6
   |bk Z2=>show ac.mpr h6
   |rt w=>show ac.mpr h6
def wF {defs:J5 (KJ×Df)}{d:Kf}{f:KJ}{ws:J5 W}{df:Df}{Q:QW}(h:defs.lookup f=ba df)(hl:↥ws=↥df.ps)
  (hb:Wp (gC (al defs fuel d) fuel df.body (fO df.N ws) S) λp=>match p.1 with|.rt w=>Q (w,p.2)|.nx _=>Q (.non,p.2)|_=>LV):Wp (al defs fuel (d+1) f ws S) Q:=by
 obtain⟨⟨o,S1⟩,h1,h2⟩:=hb;simp only[al,h,KF hl,h1];cases o with
 |rt w=>show ac.mpr h2
 |nx Z=>show ac.mpr h2
 |bk _=>show h2.elim
 |ct _=>show h2.elim
end
section
variable{S:aa}{Q:QW}
def c9 {a b:Ks}:gk .add (.int a) (.int b) S=ba (.int (a+b),S):=rfl
def qG {a b:Ks}:gk .sub (.int a) (.int b) S=ba (.int (a-b),S):=rfl
def oK {c:Ks->Ks->KU}{f:Ks->Ks->Ks}{i j:Ks}(h:c i j=true):AM c f (.int i) (.int j) S=ba (.int (f i j),S):=by
 unfold AM;dsimp only;rw[KF h]
def qH {a b:Ks}(h : -(2^64)<b)(h2:b<2^64):gk .mul (.int a) (.int b) S=ba (.int (a*b),S):=oK (c:=vK) (f:=(· * ·)) (by
 unfold vK;revert My Kg KG;show .inr #[h,h2])
def i7 {a b:Ks}(h:0<b):gk .mod (.int a) (.int b) S=ba (.int (a % b),S):=oK (c:=λ_ j=>decide (0<j)) (f:=(· % ·)) (LZ h)
def iE {a b:Ks}(h:0<b)(h2:b<1073741824):gk .fdiv (.int a) (.int b) S=ba (.int (a/b),S):=oK (c:=λ_ j=>Bs j) (f:=(· / ·)) (by
 unfold Bs;revert Kg KG;show#[h,h2])
def Fb:gk .pow (.int 10) (.int 18) S=ba (.int 1000000000000000000,S):=rfl
def Fc {x y:KJ}(h:↥x+↥y<=sizeLine):gk .add (.str x) (.str y) S=ba (.str (x++y),S):=by revert gk vL;rw[KF h]
def fe {xs ys:J5 W}(h:(xs++ys).length<=sizeLine):gk .add (.tup xs) (.tup ys) S=ba (.tup (xs++ys),S):=by revert gk vL rX;rw[KF h]
def zG {i j:Kf}{xs ys:J5 W}(h1:S[i]?=ba (.lst xs))(h2:S[j]?=ba (.lst ys))(h:(xs++ys).length<=sizeLine):gk .add (.ref i) (.ref j) S=ba (.ref ↥S,S++[.lst (xs++ys)]):=by
 revert gk vL pc h1 h2 lZ;rw[KF h]
def gf {a b:Ks}:cx .eq (.int a) (.int b) S=ba (.bl (a==b),S):=rfl
def Js {a b:Ks}:cx .ne (.int a) (.int b) S=ba (.bl (!(a==b)),S):=rfl
def wH {a b:Ks}:cx .lt (.int a) (.int b) S=ba (.bl (decide (a<b)),S):=rfl
def Hv {a b:Ks}:cx .gt (.int a) (.int b) S=ba (.bl (decide (a > b)),S):=rfl
def Jt {a b:Ks}:cx .ge (.int a) (.int b) S=ba (.bl (decide (a>=b)),S):=rfl
def Du {a b:KJ}:cx .eq (.str a) (.str b) S=ba (.bl (a==b),S):=rfl
def Hw {a b:KJ}:cx .ne (.str a) (.str b) S=ba (.bl (!(a==b)),S):=rfl
def au {r:Kf}{xs:J5 W}(h:S[r]?=ba (.lst xs)):gr S r=ba xs:=by simp[gr,h]
def CI {r:Kf}{xs:J5 W}(h:S[r]?=ba (.fro xs)):gr S r=ba xs:=by simp[gr,h]
def dJ {r:Kf}{xs:J5 W}(h:S[r]?=ba (.lst xs)):pc S r=ba xs:=by simp[pc,h]
def oM {r:Kf}{xs:J5 W}(h:S[r]?=ba (.lst xs)):jS S r=gV:=by simp[jS,h]
def cp {r:Kf}{U:J5 (T×W)}(h:S[r]?=ba (.dic U)):jS S r=ba U:=by simp[jS,h]
def oN {r:Kf}{U:J5 (T×W)}(h:S[r]?=ba (.dic U)):gr S r=gV:=by simp[gr,h]
def CJ {r:Kf}{U:J5 (T×W)}(h:S[r]?=ba (.frd U)):jS S r=ba U:=by simp[jS,h]
def atI_nat {α:Type}{xs:J5 α}{j:Kf}{w:α}(h:xs[j]?=ba w):pr xs (j:Ks)=ba w:=by
 have hl:=(Kq.mp h).1;unfold pr tL;rw[KF (Kz j),KF (by exact_mod_cast hl)]
 simpa using h
def oO {α:Type}{xs:J5 α}{i:Ks}{w:α}(h0:0<=i)(h:xs[i.toNat]?=ba w):pr xs i=ba w:=by
 have:=atI_nat h
 rwa [Ou h0]at this
def zH {r:Kf}{xs:J5 W}{i:Ks}{w:W}(h:S[r]?=ba (.lst xs))(h0:0<=i)(hw:xs[i.toNat]?=ba w):n6 (.ref r) (.int i) S=ba (w,S):=by
 change vM (.ref r) (.int i) S=_;simp[vM,au h,oO h0 hw]
def Hx {xs:J5 W}{i:Ks}{w:W}(h0:0<=i)(hw:xs[i.toNat]?=ba w):n6 (.tup xs) (.int i) S=ba (w,S):=by
 change vM (.tup xs) (.int i) S=_;simp[vM,oO h0 hw]
def Dv {x:KJ}{i:Ks}{c:Kf}(hz:↥x<=sizeLine)(h0:0<=i)(hw:x.cps.toList[i.toNat]?=ba c):n6 (.str x) (.int i) S=ba (.str #[[c].toArray],S):=by
 change vM (.str x) (.int i) S=_;simp[vM,hz,oO h0 hw]
def Dw {r:Kf}{xs:J5 W}{i:Ks}{w:W}(h:S[r]?=ba (.lst xs))(h0:0<=i)(hi:i.toNat<↥xs):iW (.ref r) (.int i) w S=ba (S.set r (.lst (xs.set i.toNat w))):=by
 change vN (.ref r) (.int i) w S=_;have:tL ↥xs i=ba i.toNat:=by
  unfold tL;rw[KF h0,KF ∅]
 simp[vN,dJ h,this]
def Dx {r:Kf}{xs:J5 W}(h:S[r]?=ba (.lst xs)):sn [.ref r] S=ba (.int ↥xs,S):=by
 (delta sn rZ;simp[oM h,au h])
def uT {r:Kf}{xs:J5 W}{y:W}(h:S[r]?=ba (.lst xs))(hl:↥xs<sizeLine):iP (.ref r) [y] S=ba (.non,S.set r (.lst (xs++[y]))):=by
 simp[iP,dJ h,hl]
def Hy {r:Kf}{xs:J5 W}(h:S[r]?=ba (.lst xs)):lc [.ref r] S=ba (.tup xs,S):=by
 (delta lc kJ;simp[BI,h,au h])
def dc {r:Kf}{xs:J5 W}(h:S[r]?=ba (.lst xs)):tyOk "list" S (.ref r)=true:=by simp[tyOk,au h]
def bn {r:Kf}{o o':O}(h:S[r]?=ba o):(S.set r o')[r]?=ba o':=by
 rw[MK,KF rfl,KF (Kq.mp h).1]
def a9 {r j:Kf}{o':O}(h:r≠j):(S.set r o')[j]?=S[j]?:=by rw[MK,KM h]
def af {o:O}:(S++[o])[↥S]?=ba o:=by simp
def ak {j:Kf}{o u:O}(h:S[j]?=ba o):(S++[u])[j]?=ba o:=by rw[Lg (Kq.mp h).1];show h
def bH {j:Kf}{o:O}(h:S[j]?=ba o):j<↥S:=(Kq.mp h).1
structure Kp (r:Kf)(S S':aa):Prop where
 get:∀j o,j≠r->S[j]?=ba o->S'[j]?=ba o
 len:↥S<=↥S'
def Kp.refl {r:Kf}{S:aa}:Kp r S S:=#[λ_ _ _ h=>h,Ki _]
def Kp.trans {r:Kf}{S S' S'':aa}(a:Kp r S S')(b:Kp r S' S''):Kp r S S'':=#[λj o n h=>b.get j o n (a.get j o n h),KW a.len b.len]
def Kp.set {r:Kf}{S:aa}{o:O}:Kp r S (S.set r o):=#[λj u n h=>by rw[a9 (Ne.symm n)];show h,by simp]
def Kp.push {r:Kf}{S:aa}{o:O}:Kp r S (S++[o]):=#[λj u n h=>ak h,by simp]
def Kp.late {r t:Kf}{S0 S:aa}{o:O}(a:Kp r S0 S)(h:↥S0<=t):Kp r S0 (S.set t o):=
 #[λj u n e=>by
  have:=bH e;rw[a9 ∅];show a.get j u n e,by simpa using a.len]
end
abbrev wO {α:Type}(o:Ke α)(Q:α->Prop):Prop:=match o with
 |some a=>Q a
 |none=>LV
def b8 {α:Type}{o:Ke α}{Q:α->Prop}(h:wO o Q):Wp o Q:=by
 cases o with
 |none=>show h.elim
 |some a=>show#[a,rfl,h]
def Hz {α:Type}{o:Ke α}{Q:α->Prop}(h:Wp o Q):wO o Q:=by
 obtain⟨a,rfl,q⟩:=h;show q
def ab {α:Type}{o:Ke α}{a:α}{Q:α->Prop}(e:o=ba a)(h:Q a):wO o Q:=by subst e;show h
abbrev wB:W->(KU->Prop)->Prop
 |.bl k,Q=>Q k
 |_,_=>LV
abbrev wN:W->(Ks->Prop)->Prop
 |.int k,Q=>Q k
 |_,_=>LV
abbrev wU:W->(J5 W->Prop)->Prop
 |.tup k,Q=>Q k
 |_,_=>LV
def uU {w:W}{Q:KU->Prop}(h:wB w Q):∃k,w=.bl k/\Q k:=by cases w<;>first|show h.elim|show#[_,rfl,h]
def Dy {w:W}{Q:Ks->Prop}(h:wN w Q):∃k,w=.int k/\Q k:=by cases w<;>first|show h.elim|show#[_,rfl,h]
def HA {w:W}{Q:J5 W->Prop}(h:wU w Q):∃k,w=.tup k/\Q k:=by cases w<;>first|show h.elim|show#[_,rfl,h]
abbrev w2:J5 W->(W->W->Prop)->Prop
 |[x,y],Q=>Q x y
 |_,_=>LV
def HB {xs:J5 W}{Q:W->W->Prop}(h:w2 xs Q):∃x y,xs=[x,y]/\Q x y:=by
 match xs,h with
 |[x,y],h=>show#[x,y,rfl,h]
abbrev wG:Ke W->(W->Prop)->Prop
 |some w,Q=>Q w
 |none,_=>LV
abbrev wV:Fm->Kf->(W->Prop)->Prop
 |[],_,_=>LV
 |o::_,0,Q=>wG o Q
 |_::Z,n+1,Q=>wV Z n Q
def zI {Q:W->Prop}:∀{Z:Fm}{i:Kf},wV Z i Q->∃w,Z[i]?=ba (ba w)/\Q w
 |[],i,h=>h.elim
 |some w::Z,0,h=>#[w,rfl,h]
 |none::Z,0,h=>h.elim
 |x::Z,n+1,h=>by
  obtain⟨w,e2,q⟩:=zI (Z:=Z) (i:=n) h;show#[w,e2,q]
abbrev aN (M:KJ->FF)(f:KJ)(n:Kf)(ws:J5 W)(S:aa):Ke (W×aa):=if ↥ws=n then M f ws S else gV
section
variable (M:KJ->FF) (fuel:Kf)
mutual
def wE:E->Fm->aa->QW->Prop
 |.c w,_,S,Q=>Q (w,S)
 |.v i,Z,S,Q=>wV Z i λw=>Q (w,S)
 |.op o a b,Z,S,Q=>wE a Z S λp=>wE b Z p.2 λq=>wO (gk o p.1 q.1 q.2) Q
 |.cmp o a b,Z,S,Q=>wE a Z S λp=>wE b Z p.2 λq=>wO (cx o p.1 q.1 q.2) Q
 |.and a b,Z,S,Q=>wE a Z S λp=>wB p.1 λk=>(k=true->wE b Z p.2 Q)/\(k=false->Q (.bl false,p.2))
 |.or a b,Z,S,Q=>wE a Z S λp=>wB p.1 λk=>(k=true->Q (.bl true,p.2))/\(k=false->wE b Z p.2 Q)
 |.not a,Z,S,Q=>wE a Z S λp=>wB p.1 λk=>Q (.bl (!k),p.2)
 |.own f n es,Z,S,Q=>wA es Z S λp=>wO (aN M f n p.1 p.2) Q
 |.bi b es,Z,S,Q=>wA es Z S λp=>wO (b.fn p.1 p.2) Q
 |.me m o es,Z,S,Q=>wE o Z S λp=>tyOk m.ty p.2 p.1=true/\wA es Z p.2 λq=>wO (m.fn p.1 q.1 q.2) Q
 |.ix a b,Z,S,Q=>wE a Z S λp=>wE b Z p.2 λq=>wO (n6 p.1 q.1 q.2) Q
 |.sl a lo hi,Z,S,Q=>wE a Z S λp=>wP lo Z p.2 λq=>wP hi Z q.2 λr=>wO (mE p.1 q.1 r.1 r.2) Q
 |.tup es,Z,S,Q=>wA es Z S λp=>Q (.tup p.1,p.2)
 |.lst es,Z,S,Q=>wA es Z S λp=>Q (.ref ↥p.2,p.2++[.lst p.1])
 |.isi c a,Z,S,Q=>wE a Z S λp=>wO (wp p.2 p.1 c) λk=>Q (.bl k,p.2)
 |.neg a,Z,S,Q=>wE a Z S λp=>wN p.1 λi=>Q (.int (-i),p.2)
 |.dnew,_,S,Q=>Q (.ref ↥S,S++[.dic []])
 |.disp es,Z,S,Q=>wA es Z (S++[.dic []]) λp=>p.2[↥S]?=ba (.dic [])/\wO (dD [] p.1) λU=>Q (.ref ↥S,p.2.set ↥S (.dic U))
 |.ite t a b,Z,S,Q=>wT t Z S λp=>(p.1=true->wE a Z p.2 Q)/\(p.1=false->wE b Z p.2 Q)
 |.comp elt tg it cs cap,Z,S,Q=>Wp (aA M (.comp elt tg it cs cap) Z S) Q
def wT:E->Fm->aa->QB->Prop
 |.cmp o a b,Z,S,Q=>wE a Z S λp=>wE b Z p.2 λq=>wO (cx o p.1 q.1 q.2) λr=>wB r.1 λk=>Q (k,r.2)
 |.and a b,Z,S,Q=>wT a Z S λp=>(p.1=true->wT b Z p.2 Q)/\(p.1=false->Q (false,p.2))
 |.or a b,Z,S,Q=>wT a Z S λp=>(p.1=true->Q (true,p.2))/\(p.1=false->wT b Z p.2 Q)
 |.not a,Z,S,Q=>wT a Z S λp=>Q (!p.1,p.2)
 |.isi c a,Z,S,Q=>wE a Z S λp=>wO (wp p.2 p.1 c) λk=>Q (k,p.2)
 |.c w,Z,S,Q=>Wp (c7 M (.c w) Z S) Q
 |.v i,Z,S,Q=>wV Z i λw=>wO (ga S w) λk=>Q (k,S)
 |.op o a b,Z,S,Q=>Wp (c7 M (.op o a b) Z S) Q
 |.own f n es,Z,S,Q=>wA es Z S λp=>wO (aN M f n p.1 p.2) λq=>wO (ga q.2 q.1) λk=>Q (k,q.2)
 |.bi b es,Z,S,Q=>wA es Z S λp=>wO (b.fn p.1 p.2) λq=>wO (ga q.2 q.1) λk=>Q (k,q.2)
 |.me m o es,Z,S,Q=>Wp (c7 M (.me m o es) Z S) Q
 |.ix a b,Z,S,Q=>Wp (c7 M (.ix a b) Z S) Q
 |.sl a lo hi,Z,S,Q=>Wp (c7 M (.sl a lo hi) Z S) Q
 |.tup es,Z,S,Q=>Wp (c7 M (.tup es) Z S) Q
 |.lst es,Z,S,Q=>Wp (c7 M (.lst es) Z S) Q
 |.neg a,Z,S,Q=>Wp (c7 M (.neg a) Z S) Q
 |.dnew,Z,S,Q=>Wp (c7 M .dnew Z S) Q
 |.disp es,Z,S,Q=>Wp (c7 M (.disp es) Z S) Q
 |.ite t a b,Z,S,Q=>Wp (c7 M (.ite t a b) Z S) Q
 |.comp elt tg it cs cap,Z,S,Q=>Wp (c7 M (.comp elt tg it cs cap) Z S) Q
def wA:Es->Fm->aa->(J5 W×aa->Prop)->Prop
 |.nil,_,S,Q=>Q ([],S)
 |.cons e es,Z,S,Q=>wE e Z S λp=>wA es Z p.2 λq=>Q (p.1::q.1,q.2)
def wP:Ep->Fm->aa->(Ke Ks×aa->Prop)->Prop
 |.no,_,S,Q=>Q (gV,S)
 |.yes a,Z,S,Q=>wE a Z S λp=>wN p.1 λi=>Q (ba i,p.2)
end
abbrev rL (K:Fm->aa->Prop)(Q:QO)(p:Out×aa):Prop:=match p.1 with
 |.nx Z=>K Z p.2
 |o=>Q (o,p.2)
mutual
def wS:Sm->Fm->aa->(Fm->aa->Prop)->QO->Prop
 |.set i e,Z,S,K,_=>wE M e Z S λp=>K (Z.set i (ba p.1)) p.2
 |.asg is e,Z,S,K,_=>wE M e Z S λp=>wU p.1 λws=>wO (dC is ws Z) λZ'=>K Z' p.2
 |.par i j es,Z,S,K,_=>wA M es Z S λp=>w2 p.1 λx y=>K ((Z.set i (ba x)).set j (ba y)) p.2
 |.put o k e,Z,S,K,_=>wE M e Z S λp=>wE M o Z p.2 λq=>wE M k Z q.2 λr=>wO (iW q.1 r.1 p.1 r.2) λS'=>K Z S'
 |.ex e,Z,S,K,_=>wE M e Z S λp=>K Z p.2
 |.ret e,Z,S,_,Q=>wE M e Z S λp=>Q (.rt p.1,p.2)
 |.pass,Z,S,K,_=>K Z S
 |.ite t a b,Z,S,K,Q=>wT M t Z S λp=>∀Q':QO,(∀Z' S',K Z' S'->Q' (.nx Z',S'))->(∀o S',(∀Z',o≠.nx Z')->Q (o,S')->Q' (o,S'))->(p.1=true->zJ a Z p.2 Q')/\(p.1=false->zJ b Z p.2 Q')
 |.whl t b,Z,S,K,Q=>Wp (gB M fuel (.whl t b) Z S) (rL K Q)
 |.loop tg it b,Z,S,K,Q=>Wp (gB M fuel (.loop tg it b) Z S) (rL K Q)
def zJ:Ss->Fm->aa->QO->Prop
 |.nil,Z,S,Q=>Q (.nx Z,S)
 |.cons s ss,Z,S,Q=>wS s Z S (λZ' S'=>zJ ss Z' S' Q) Q
end
end
abbrev Ip:Es->Kf
 |.nil=>0
 |.cons _ es=>Ip es+1
mutual
def dz:E->KU
 |.c _|.v _|.comp _ _ _ _ _|.dnew=>true
 |.op _ a b|.cmp _ a b|.and a b|.or a b|.ix a b=>dz a&&dz b
 |.ite a b c=>dz a&&dz b&&dz c
 |.neg a|.not a|.isi _ a=>dz a
 |.own _ n es=>Ip es==n&&nq es
 |.bi _ es|.disp es=>nq es
 |.me _ o es=>dz o&&nq es
 |.sl a lo hi=>dz a&&Ju lo&&Ju hi
 |.tup es|.lst es=>decide (Ip es<=1000)&&nq es
def nq:Es->KU
 |.nil=>true
 |.cons e es=>dz e&&nq es
def Ju:Ep->KU
 |.no=>true
 |.yes e=>dz e
end
mutual
def JO:Sm->KU
 |.set _ e|.asg _ e|.ex e|.ret e=>dz e
 |.put o k e=>dz o&&dz k&&dz e
 |.par _ _ es=>nq es
 |.ite t a b=>dz t&&hX a&&hX b
 |_=>true
def hX:Ss->KU
 |.nil=>true
 |.cons s ss=>JO s&&hX ss
end
section
variable{M:KJ->FF}{fuel:Kf}
def i8:∀{es:Es}{Z:Fm}{S S':aa}{ws:J5 W},cX M es Z S=ba (ws,S')->↥ws=Ip es
 |.nil,Z,S,S',ws,h=>by dsimp only[cX]at h;cases h;rfl
 |.cons e es,Z,S,S',ws,h=>by
  dsimp only[cX]at h;unfold dE at h;split at h
  ·split at h
   ·rename_i h2;cases h;rw[KZ,i8 h2];rfl
   ·cases h
  ·cases h
def zK {n:Kf}(h:decide (n<=1000)=true):n<=sizeLine:=KW (Lo h) (by rw[Lp];decide)
def c8 {a b:KU}(h:(a&&b)=true):a=true:=by cases a<;>first|rfl|cases h
def d8 {a b:KU}(h:(a&&b)=true):b=true:=by cases a<;>first|show h|cases h
mutual
theorem aY:∀(e:E) {Z:Fm}{S:aa}{Q:QW},dz e=true->wE M e Z S Q->Wp (aA M e Z S) Q
 |.c w,Z,S,Q,k,h=>J0.mpr h
 |.v i,Z,S,Q,k,h=>JN.mpr (zI h)
 |.op o a b,Z,S,Q,k,h=>Jk.mpr ((aY a (c8 k) h).mono λp hp=>(aY b (d8 k) hp).mono λq hq=>b8 hq)
 |.cmp o a b,Z,S,Q,k,h=>Dr.mpr ((aY a (c8 k) h).mono λp hp=>(aY b (d8 k) hp).mono λq hq=>b8 hq)
 |.and a b,Z,S,Q,k,h=>Ha.mpr ((aY a (c8 k) h).mono λp hp=>let ⟨c,e,h1,h2⟩:=uU hp;#[c,e,λz=>aY b (d8 k) (h1 z),h2])
 |.or a b,Z,S,Q,k,h=>Jm.mpr ((aY a (c8 k) h).mono λp hp=>let ⟨c,e,h1,h2⟩:=uU hp;#[c,e,h1,λz=>aY b (d8 k) (h2 z)])
 |.not a,Z,S,Q,k,h=>Hb.mpr ((aY a k h).mono λp hp=>uU hp)
 | .own f n es,Z,S,Q,k,h=>Ds.mpr (by
   obtain⟨⟨ws,S1⟩,e,hq⟩:=ik es (d8 k) h;have hl:↥ws=n:=(i8 e).trans (eq_of_beq (c8 k));simp only[aN,KF hl]at hq;show#[_,e,hl,b8 hq])
 |.bi b es,Z,S,Q,k,h=>Hd.mpr ((ik es k h).mono λp hp=>b8 hp)
 |.me m o es,Z,S,Q,k,h=>Jn.mpr ((aY o (c8 k) h).mono λp hp=>#[hp.1,(ik es (d8 k) hp.2).mono λq hq=>b8 hq])
 |.ix a b,Z,S,Q,k,h=>Jl.mpr ((aY a (c8 k) h).mono λp hp=>(aY b (d8 k) hp).mono λq hq=>b8 hq)
 |.sl a lo hi,Z,S,Q,k,h=>Jo.mpr ((aY a (c8 (c8 k)) h).mono λp hp=>(Dz lo (d8 (c8 k)) hp).mono λq hq=>(Dz hi (d8 k) hq).mono λr hr=>b8 hr)
 | .tup es,Z,S,Q,k,h=>Hf.mpr (by
   obtain⟨⟨ws,S1⟩,e,hq⟩:=ik es (d8 k) h;show#[_,e,by rw[i8 e];show zK (c8 k),hq])
 | .lst es,Z,S,Q,k,h=>Hg.mpr (by
   obtain⟨⟨ws,S1⟩,e,hq⟩:=ik es (d8 k) h;show#[_,e,by rw[i8 e];show zK (c8 k),hq])
 |.isi c a,Z,S,Q,k,h=>Dt.mpr ((aY a k h).mono λp hp=>b8 hp)
 |.neg a,Z,S,Q,k,h=>Hh.mpr ((aY a k h).mono λp hp=>Dy hp)
 |.dnew,Z,S,Q,k,h=>#[_,rfl,h]
 |.disp es,Z,S,Q,k,h=>E2.mpr ((ik es k h).mono λp hp=>#[hp.1,let ⟨U,e,q⟩:=b8 hp.2;#[U,e,q]])
 |.ite t a b,Z,S,Q,k,h=>Hc.mpr ((i9 t (c8 (c8 k)) h).mono λp hp=>#[λz=>aY a (d8 (c8 k)) (hp.1 z),λz=>aY b (d8 k) (hp.2 z)])
 |.comp elt tg it cs cap,Z,S,Q,k,h=>h
theorem ik:∀(es:Es) {Z:Fm}{S:aa}{Q:J5 W×aa->Prop},nq es=true->wA M es Z S Q->Wp (cX M es Z S) Q
 |.nil,Z,S,Q,k,h=>Hi.mpr h
 |.cons e es,Z,S,Q,k,h=>E3.mpr ((aY e (c8 k) h).mono λp hp=>ik es (d8 k) hp)
theorem Dz:∀(e:Ep) {Z:Fm}{S:aa}{Q:Ke Ks×aa->Prop},Ju e=true->wP M e Z S Q->Wp (uI M e Z S) Q
 |.no,Z,S,Q,k,h=>Jp.mpr h
 |.yes a,Z,S,Q,k,h=>He.mpr ((aY a k h).mono λp hp=>Dy hp)
theorem i9:∀(e:E) {Z:Fm}{S:aa}{Q:QB},dz e=true->wT M e Z S Q->Wp (c7 M e Z S) Q
 |.cmp o a b,Z,S,Q,k,h=>Hk.mpr (Dr.mpr ((aY a (c8 k) h).mono λp hp=>(aY b (d8 k) hp).mono λq hq=>(b8 hq).mono λr hr=>uU hr))
 |.and a b,Z,S,Q,k,h=>Hl.mpr ((i9 a (c8 k) h).mono λp hp=>#[λz=>i9 b (d8 k) (hp.1 z),hp.2])
 |.or a b,Z,S,Q,k,h=>Jq.mpr ((i9 a (c8 k) h).mono λp hp=>#[hp.1,λz=>i9 b (d8 k) (hp.2 z)])
 |.not a,Z,S,Q,k,h=>Hm.mpr (i9 a k h)
 |.isi c a,Z,S,Q,k,h=>Ho.mpr (Dt.mpr ((aY a k h).mono λp hp=>let ⟨b,e,q⟩:=b8 hp;#[b,e,b,rfl,q]))
 |.v i,Z,S,Q,k,h=>J1.mpr (JN.mpr (let ⟨w,e,q⟩:=zI h;#[w,e,b8 q]))
 | .own f n es,Z,S,Q,k,h=>Hn.mpr (Ds.mpr (by
   obtain⟨⟨ws,S1⟩,e,hq⟩:=ik es (d8 k) h;have hl:↥ws=n:=(i8 e).trans (eq_of_beq (c8 k));simp only[aN,KF hl]at hq;show#[_,e,hl,(b8 hq).mono λq hq=>b8 hq]))
 |.c w,Z,S,Q,k,h=>h
 |.op o a b,Z,S,Q,k,h=>h
 |.bi b es,Z,S,Q,k,h=>Jr.mpr (Hd.mpr ((ik es k h).mono λp hp=>(b8 hp).mono λq hq=>b8 hq))
 |.me m o es,Z,S,Q,k,h=>h
 |.ix a b,Z,S,Q,k,h=>h
 |.sl a lo hi,Z,S,Q,k,h=>h
 |.tup es,Z,S,Q,k,h=>h
 |.lst es,Z,S,Q,k,h=>h
 |.neg a,Z,S,Q,k,h=>h
 |.dnew,Z,S,Q,k,h=>h
 |.disp es,Z,S,Q,k,h=>h
 |.ite t a b,Z,S,Q,k,h=>h
 |.comp elt tg it cs cap,Z,S,Q,k,h=>h
end
mutual
theorem HC:∀(s:Sm) {Z:Fm}{S:aa}{K:Fm->aa->Prop}{Q:QO},JO s=true->wS M fuel s Z S K Q->Wp (gB M fuel s Z S) (rL K Q)
 |.set i e,Z,S,K,Q,k,h=>E5.mpr (aY e k h)
 |.asg is e,Z,S,K,Q,k,h=>E6.mpr ((aY e k h).mono λp hp=>let ⟨ws,e1,h1⟩:=HA hp;let ⟨Z',e2,h2⟩:=b8 h1;#[ws,Z',e1,e2,h2])
 |.par i j es,Z,S,K,Q,k,h=>E7.mpr ((ik es k h).mono λp hp=>HB hp)
 |.put o i e,Z,S,K,Q,k,h=>E8.mpr ((aY e (d8 k) h).mono λp hp=>(aY o (c8 (c8 k)) hp).mono λq hq=>(aY i (d8 (c8 k)) hq).mono λr hr=>b8 hr)
 |.ex e,Z,S,K,Q,k,h=>Hr.mpr (aY e k h)
 |.ret e,Z,S,K,Q,k,h=>E9.mpr (aY e k h)
 |.pass,Z,S,K,Q,k,h=>#[_,rfl,h]
 | .ite t a b,Z,S,K,Q,k,h=>Fa.mpr ((i9 t (c8 (c8 k)) h).mono λp hp=>by
   obtain⟨h1,h2⟩:=hp (rL K Q) (λZ' S' z=>z) (λo S' hn z=>by cases o<;>first|show z|show absurd rfl (hn _))
   show#[λz=>jE a (d8 (c8 k)) (h1 z),λz=>jE b (d8 k) (h2 z)])
 |.whl t b,Z,S,K,Q,k,h=>h
 |.loop tg it b,Z,S,K,Q,k,h=>h
theorem jE:∀(ss:Ss) {Z:Fm}{S:aa}{Q:QO},hX ss=true->zJ M fuel ss Z S Q->Wp (gC M fuel ss Z S) Q
 |.nil,Z,S,Q,k,h=>Hq.mpr h
 | .cons s ss,Z,S,Q,k,h=>E4.mpr ((HC s (c8 k) h).mono λp hp=>by
   obtain⟨o,S1⟩:=p;cases o with
   |nx Z'=>show#[λZ2 e=>by cases e;show jE ss (d8 k) hp,λz=>absurd rfl (z Z')]
   |_=>show#[λZ2 e=>(by cases e),λ_=>hp])
end
structure wZ (M:KJ->FF)(fuel:Kf)(ss:Ss)(Z:Fm)(S:aa)(Q:QO):Prop where
 out:zJ M fuel ss Z S Q
def HD {ss:Ss}{Z:Fm}{S:aa}{Q:QO}:zJ M fuel ss Z S Q=wZ M fuel ss Z S Q:=propext #[λh=>#[h],λh=>h.out]
def Fd {defs:J5 (KJ×Df)}{d:Kf}{f:KJ}{n:Kf}{ws:J5 W}{df:Df}{S:aa}{Q:QW}(h:defs.lookup f=ba df)(hn:↥ws=n)(hl:↥ws=↥df.ps)(ok:hX df.body=true)
  (hb:∀Q':QO,(∀w S',Q (w,S')->Q' (.rt w,S'))->wZ (al defs fuel d) fuel df.body (fO df.N ws) S Q'):wO (aN (al defs fuel (d+1)) f n ws S) Q:=by
 unfold aN;rw[KF hn];show Hz (wF h hl ((jE _ ok (hb (λp=>match p.1 with|.rt w=>Q (w,p.2)|_=>LV) λw S' q=>q).out).mono λp hp=>by
  obtain⟨o,S1⟩:=p;cases o<;>first|show hp|show hp.elim))
end
section
variable{M:KJ->FF}{fuel:Kf}{Z:Fm}{S:aa}{K:Fm->aa->Prop}{Q:QO}
abbrev xr (M:KJ->FF)(fuel:Kf)(b:Ss)(Z:Fm)(S:aa)(I:Fm->aa->Prop)(Q:QO):Prop:=∀Q':QO,(∀Z' S',I Z' S'->Q' (.nx Z',S'))->(∀w S',Q (.rt w,S')->Q' (.rt w,S'))->wZ M fuel b Z S Q'
def iF {tg:Tg}{it:Ie}{b:Ss}{mi:MI}{S1:aa}{xs:J5 W}(I:Kf->Fm->aa->Prop)(ok:hX b=true)(hi:jy M it Z S=ba (mi,S1))(hat:∀i Z S,I i Z S->mi.at S i=ba xs[i]?)(hl:mi.len S1=ba ↥xs)(h0:I 0 Z S1)
  (hstep:∀(i:Kf) (w:W) (Z:Fm) (S:aa),xs[i]?=ba w->I i Z S->wO (fX tg w Z S) λq=>xr M fuel b q.1 q.2 (I (i+1)) Q) (hend:∀Z S,I ↥xs Z S->K Z S):Wp (gB M fuel (.loop tg it b) Z S) (rL K Q):=by
 rw[gB,Hs];show#[_,hi,↥xs,hl,?_];show jD (Q:=rL K Q) I hat (λi w Z S h1 h2=>?_) (λZ S h=>hend Z S h) _ 0 Z S1 ∅ h0
 show(b8 (hstep i w Z S h1 h2)).mono λq hq=>jE b ok (wZ.out (hq _ (λ_ _ h=>h) λ_ _ h=>h))
def bD {e:E}{Q:QW}(ok:dz e=true)(h:wE M e Z S Q):∃w S',aA M e Z S=ba (w,S')/\Q (w,S'):=let ⟨⟨w,S'⟩,a,b⟩:=aY e ok h;#[w,S',a,b]
def cq {i0:Kf}{e:E}{b:Ss}(j:Ks)(I:Kf->Fm->aa->Prop)(oe:dz e=true)(ok:hX b=true)(hj : -(2^62)<=j/\j<2^62)(he:wE M e Z S λp=>p.1=.int j/\I 0 Z p.2)
  (hstep:∀(i:Kf) (Z:Fm) (S:aa),(i:Ks)<j->I i Z S->xr M fuel b (Z.set i0 (ba (.int i))) S (I (i+1)) Q) (hend:∀Z S,I j.toNat Z S->K Z S):Wp (gB M fuel (.loop (.nm i0) (.rng #v[e]) b) Z S) (rL K Q):=by
 obtain⟨w,S1,e1,rfl,h0⟩:=bD oe he;have hl:(cZ 0 j.toNat).length=j.toNat:=by simp[cZ]
 show iF (mi:=.its (cZ 0 j.toNat)) (S1:=S1) (xs:=cZ 0 j.toNat) I ok ?_ (λ_ _ _ _=>rfl) rfl h0 (λi w Z S hw hI=>?_) λZ S hI=>hend Z S (hl▸hI)
 ·revert jy cX dE i5 sK e1;rw[KF hj]
 ·rw[d6]at hw;split at hw
  ·rename_i hk;cases hw;rw[Qt];show hstep i Z S ∅ hI
  ·cases hw
def for_tup {tg:Tg}{e:E}{b:Ss}(xs:J5 W)(I:Kf->Fm->aa->Prop)(oe:dz e=true)(ok:hX b=true)(he:wE M e Z S λp=>p.1=.tup xs/\I 0 Z p.2)
  (hstep:∀(i:Kf) (w:W) (Z:Fm) (S:aa),xs[i]?=ba w->I i Z S->wO (fX tg w Z S) λq=>xr M fuel b q.1 q.2 (I (i+1)) Q) (hend:∀Z S,I ↥xs Z S->K Z S):Wp (gB M fuel (.loop tg (.seq e) b) Z S) (rL K Q):=by
 obtain⟨w,S1,e1,rfl,h0⟩:=bD oe he;show iF (mi:=.its xs) (S1:=S1) I ok (by revert jy ft e1) (λ_ _ _ _=>rfl) rfl h0 hstep hend
def ja {tg:Tg}{e:E}{b:Ss}(t:Kf)(xs:J5 W)(I:Kf->Fm->aa->Prop)(oe:dz e=true)(ok:hX b=true)(he:wE M e Z S λp=>p.1=.ref t/\I 0 Z p.2)(hat:∀i Z S,I i Z S->S[t]?=ba (.lst xs))
  (hstep:∀(i:Kf) (w:W) (Z:Fm) (S:aa),xs[i]?=ba w->I i Z S->wO (fX tg w Z S) λq=>xr M fuel b q.1 q.2 (I (i+1)) Q) (hend:∀Z S,I ↥xs Z S->K Z S):Wp (gB M fuel (.loop tg (.seq e) b) Z S) (rL K Q):=by
 obtain⟨w,S1,e1,rfl,h0⟩:=bD oe he;show iF (mi:=.live t) (S1:=S1) I ok (by simp only[jy,ft,e1,au (hat _ _ _ h0)]) (λi Z S h=>by simp only[MI.at,au (hat _ _ _ h)]) (by simp only[MI.len,au (hat _ _ _ h0),Lk]) h0 hstep hend
def zL {t:E}{b:Ss}(I:Kf->Fm->aa->Prop)(m:Kf)(ot:dz t=true)(ok:hX b=true)(hm:m<fuel)(h0:I m Z S)
  (hstep:∀m Z S,I m Z S->wT M t Z S λk=>(k.1=true->∃m',m=m'+1/\xr M fuel b Z k.2 (I m') Q)/\(k.1=false->K Z k.2)):Wp (gB M fuel (.whl t b) Z S) (rL K Q):=by
 rw[gB];show lv (Q:=rL K Q) I (λm Z S hI=>(i9 t ot (hstep m Z S hI)).mono λk hk=>#[λz=>?_,λz=>hk.2 z]) fuel m Z S hm h0
 obtain⟨m',e,h⟩:=hk.1 z;show#[m',e,jE b ok (wZ.out (h _ (λ_ _ h=>h) λ_ _ h=>h))]
abbrev wC (M:KJ->FF):Es->Fm->aa->QB->Prop
 |.nil,_,S,Q=>Q (true,S)
 |.cons e .nil,Z,S,Q=>wT M e Z S Q
 |.cons _ (.cons _ _),_,_,_=>LV
def DA {cs:Es}{Q:QB}(ok:nq cs=true)(h:wC M cs Z S Q):Wp (CB M cs Z S) Q:=by
 match cs,h,ok with
 |.nil,h,_=>show Ht.mpr h
 |.cons e .nil,h,ok=>show Hu.mpr (i9 e (c8 ok) h)
abbrev gm (M:KJ->FF)(elt:E)(cs:Es)(Z:Fm)(S:aa)(G:W->Fm->aa->Prop)(N:Fm->aa->Prop):Prop:=wC M cs Z S λk=>(k.1=true->wE M elt Z k.2 λy=>G y.1 Z y.2)/\(k.1=false->N Z k.2)
def jF {elt:E}{tg:Tg}{it:Ie}{cs:Es}{cap:J5 (Ke Kf)}{mi:MI}{S1:aa}{xs:J5 W}{Q:QW}(I:Kf->J5 W->Fm->aa->Prop)(oe:dz elt=true)(oc:nq cs=true)(hi:jy M it Z S=ba (mi,S1))(hat:∀i ys Z S,I i ys Z S->mi.at S i=ba xs[i]?)(hl:mi.len S1=ba ↥xs)(h0:I 0 [] (eW cap Z) S1)
  (hstep:∀(i:Kf) (w:W) (ys:J5 W) (Z:Fm) (S:aa),xs[i]?=ba w->I i ys Z S->wO (fX tg w Z S) λq=>gm M elt cs q.1 q.2 (λy=>I (i+1) (ys++[y])) (I (i+1) ys))
  (hend:∀ys Z S,I ↥xs ys Z S->↥ys<=sizeLine/\Q (.ref ↥S,S++[.lst ys])):Wp (aA M (.comp elt tg it cs cap) Z S) Q:=by
 rw[zF];show#[_,hi,↥xs,hl,?_];show(dI (xs:=xs) (Q:=λq=>↥q.1<=sizeLine/\Q (.ref ↥q.2,q.2++[.lst q.1])) I hat (λi w ys Z S h1 h2=>?_) hend ↥xs 0 [] _ S1 ∅ h0).mono λq hq=>by simpa using hq
 show(b8 (hstep i w ys Z S h1 h2)).mono λq hq=>(DA oc hq).mono λk hk=>#[λz=>aY elt oe (hk.1 z),hk.2]
def dh {elt e:E}{i0:Kf}{cs:Es}{cap:J5 (Ke Kf)}{Q:QW}(j:Ks)(I:Kf->J5 W->Fm->aa->Prop)(oi:dz e=true)(oe:dz elt=true)(oc:nq cs=true)(hj : -(2^62)<=j/\j<2^62)(he:wE M e Z S λp=>p.1=.int j/\I 0 [] (eW cap Z) p.2)
  (hstep:∀(i:Kf) (ys:J5 W) (Z:Fm) (S:aa),(i:Ks)<j->I i ys Z S->gm M elt cs (Z.set i0 (ba (.int i))) S (λy=>I (i+1) (ys++[y])) (I (i+1) ys))
  (hend:∀ys Z S,I j.toNat ys Z S->↥ys<=sizeLine/\Q (.ref ↥S,S++[.lst ys])):Wp (aA M (.comp elt (.nm i0) (.rng #v[e]) cs cap) Z S) Q:=by
 obtain⟨w,S1,e1,rfl,h0⟩:=bD oi he;have hl:(cZ 0 j.toNat).length=j.toNat:=by simp[cZ]
 show jF (mi:=.its (cZ 0 j.toNat)) (S1:=S1) (xs:=cZ 0 j.toNat) I oe oc ?_ (λ_ _ _ _ _=>rfl) rfl h0 (λi w ys Z S hw hI=>?_) λys Z S hI=>hend ys Z S (hl▸hI)
 ·revert jy cX dE i5 sK e1;rw[KF hj]
 ·rw[d6]at hw;split at hw
  ·rename_i hk;cases hw;rw[Qt];show hstep i ys Z S ∅ hI
  ·cases hw
def uV {elt e:E}{tg:Tg}{cs:Es}{cap:J5 (Ke Kf)}{Q:QW}(xs:J5 W)(I:Kf->J5 W->Fm->aa->Prop)(oi:dz e=true)(oe:dz elt=true)(oc:nq cs=true)(he:wE M e Z S λp=>p.1=.tup xs/\I 0 [] (eW cap Z) p.2)
  (hstep:∀(i:Kf) (w:W) (ys:J5 W) (Z:Fm) (S:aa),xs[i]?=ba w->I i ys Z S->wO (fX tg w Z S) λq=>gm M elt cs q.1 q.2 (λy=>I (i+1) (ys++[y])) (I (i+1) ys))
  (hend:∀ys Z S,I ↥xs ys Z S->↥ys<=sizeLine/\Q (.ref ↥S,S++[.lst ys])):Wp (aA M (.comp elt tg (.seq e) cs cap) Z S) Q:=by
 obtain⟨w,S1,e1,rfl,h0⟩:=bD oi he;show jF (mi:=.its xs) (S1:=S1) I oe oc (by revert jy ft e1) (λ_ _ _ _ _=>rfl) rfl h0 hstep hend
def uW {elt e:E}{tg:Tg}{cs:Es}{cap:J5 (Ke Kf)}{Q:QW}(t:Kf)(xs:J5 W)(I:Kf->J5 W->Fm->aa->Prop)(oi:dz e=true)(oe:dz elt=true)(oc:nq cs=true)(he:wE M e Z S λp=>p.1=.ref t/\I 0 [] (eW cap Z) p.2)(hat:∀i ys Z S,I i ys Z S->S[t]?=ba (.lst xs))
  (hstep:∀(i:Kf) (w:W) (ys:J5 W) (Z:Fm) (S:aa),xs[i]?=ba w->I i ys Z S->wO (fX tg w Z S) λq=>gm M elt cs q.1 q.2 (λy=>I (i+1) (ys++[y])) (I (i+1) ys))
  (hend:∀ys Z S,I ↥xs ys Z S->↥ys<=sizeLine/\Q (.ref ↥S,S++[.lst ys])):Wp (aA M (.comp elt tg (.seq e) cs cap) Z S) Q:=by
 obtain⟨w,S1,e1,rfl,h0⟩:=bD oi he;show jF (mi:=.live t) (S1:=S1) I oe oc (by simp only[jy,ft,e1,au (hat _ _ _ _ h0)]) (λi ys Z S h=>by simp only[MI.at,au (hat _ _ _ _ h)]) (by simp only[MI.len,au (hat _ _ _ _ h0),Lk]) h0 hstep hend
def CK {elt a:E}{tg:Tg}{cs:Es}{cap:J5 (Ke Kf)}{Q:QW}(xs:J5 W)(I:Kf->J5 W->Fm->aa->Prop)(oa:dz a=true)(oe:dz elt=true)(oc:nq cs=true)(he:wE M a Z S λp=>FR p.1=ba xs/\I 0 [] (eW cap Z) p.2)
  (hstep:∀(i:Kf) (x:W) (ys:J5 W) (Z:Fm) (S:aa),xs[i]?=ba x->I i ys Z S->wO (fX tg (.tup [.int i,x]) Z S) λq=>gm M elt cs q.1 q.2 (λy=>I (i+1) (ys++[y])) (I (i+1) ys))
  (hend:∀ys Z S,I ↥xs ys Z S->↥ys<=sizeLine/\Q (.ref ↥S,S++[.lst ys])):Wp (aA M (.comp elt tg (.enu #v[a]) cs cap) Z S) Q:=by
 obtain⟨x,S1,e1,h1,h0⟩:=bD oa he;have hl:(oE xs).length=↥xs:=by simp[oE]
 show jF (mi:=.its (oE xs)) (S1:=S1) (xs:=oE xs) I oe oc (by revert jy cX dE i5 Cz e1 h1) (λ_ _ _ _ _=>rfl) rfl h0 (λi w ys Z S hw hI=>?_) λys Z S hI=>hend ys Z S (hl▸hI)
 obtain⟨y,hy,rfl⟩:=qA hw;show hstep i y ys Z S hy hI
def st {s:Sm}{ss:Ss}(h:wS M fuel s Z S (λZ' S'=>wZ M fuel ss Z' S' Q) Q):wZ M fuel (.cons s ss) Z S Q:=#[by
 delta zJ;revert HD;show h]
def bP (h:Q (.nx Z,S)):wZ M fuel .nil Z S Q:=#[h]
def aB {t:KU}{a b:Ss}{Q Q0:QO}{K:Fm->aa->Prop}(ha:t=true->∀Q':QO,(∀Z' S',K Z' S'->Q' (.nx Z',S'))->(∀w S',Q (.rt w,S')->Q' (.rt w,S'))->wZ M fuel a Z S Q')(hb:t=false->∀Q':QO,(∀Z' S',K Z' S'->Q' (.nx Z',S'))->(∀w S',Q (.rt w,S')->Q' (.rt w,S'))->wZ M fuel b Z S Q') :
  ∀Q':QO,(∀Z' S',K Z' S'->Q' (.nx Z',S'))->(∀o S',(∀Z',o≠.nx Z')->Q (o,S')->Q' (o,S'))->(t=true->zJ M fuel a Z S Q')/\(t=false->zJ M fuel b Z S Q'):=
 λQ' h1 h2=>#[λe=>(ha e Q' h1 λw S'=>h2 (.rt w) S' (λ_ z=>nomatch z)).out,λe=>(hb e Q' h1 λw S'=>h2 (.rt w) S' (λ_ z=>nomatch z)).out]
end
abbrev eg:Ss:=
 #v[.ret (.lst #v[.bi .list #v[.v 0],.c (.int 0),.c (.int 0),.c (.int 1),.c (.int 0)])]
abbrev cz:Ss:=
 #v[.ite (.and (.cmp .eq (.ix (.v 0) (.c (.int 2))) (.c (.int 0))) (.cmp .lt (.ix (.v 0) (.c (.int 1))) (.bi .len #v[.ix (.v 0) (.c (.int 0))]))) #v[.set 2 (.ix (.ix (.v 0) (.c (.int 0))) (.ix (.v 0) (.c (.int 1)))),.put (.v 0) (.c (.int 1)) (.op .add (.ix (.v 0) (.c (.int 1))) (.c (.int 1))),.ite (.cmp .ge (.v 2) (.op .pow (.c (.int 10)) (.c (.int 18)))) #v[.put (.v 0) (.c (.int 2)) (.v 2)] #v[.put (.v 0) (.c (.int 3)) (.op .mod (.op .add (.op .add (.op .mul (.ix (.v 0) (.c (.int 3))) (.c (.int 40013))) (.op .mod (.v 2) (.c (.int 1000003)))) (.c (.int 1))) (.c (.int 2147483647)))]] .nil,.ite (.cmp .gt (.ix (.v 0) (.c (.int 2))) (.c (.int 0))) #v[.set 3 (.op .mod (.ix (.v 0) (.c (.int 2))) (.v 1)),.put (.v 0) (.c (.int 2)) (.op .fdiv (.ix (.v 0) (.c (.int 2))) (.v 1)),.ret (.v 3)] .nil,.put (.v 0) (.c (.int 4)) (.op .add (.ix (.v 0) (.c (.int 4))) (.c (.int 1))),.put (.v 0) (.c (.int 3)) (.op .mod (.op .add (.op .add (.op .mul (.ix (.v 0) (.c (.int 3))) (.c (.int 48271))) (.c (.int 12820163))) (.ix (.v 0) (.c (.int 4)))) (.c (.int 2147483647))),.ret (.op .mod (.op .fdiv (.op .mod (.op .mul (.op .add (.op .mod (.ix (.v 0) (.c (.int 3))) (.c (.int 65521))) (.c (.int 1))) (.op .add (.op .fdiv (.ix (.v 0) (.c (.int 3))) (.c (.int 65521))) (.c (.int 7919)))) (.c (.int 1000003))) (.c (.int 7))) (.v 1))]
abbrev di:Ss:=
 #v[.ret (.me .join (.c (.str "")) #v[.comp (.ix (.c (.str "abcdefghijklmnopqrstuvwxyz")) (.own "_law_pick" 2 #v[.v 2,.c (.int 26)])) (.nm 1) (.rng #v[.v 1]) .nil [gV,gV,ba 0]])]
abbrev fP:Ss:=
 #v[.ite (.cmp .ne (.v 1) (.c (.str ""))) #v[.ret (.op .add (.v 1) (.own "_law_letters" 2 #v[.v 0,.op .add (.c (.int 1)) (.own "_law_pick" 2 #v[.v 0,.c (.int 2)])]))] .nil,.ite (.cmp .eq (.own "_law_pick" 2 #v[.v 0,.c (.int 6)]) (.c (.int 0))) #v[.set 2 (.lst #v[.c (.str "markss"),.c (.str "mark"),.c (.str "way"),.c (.str "wayss"),.c (.str "bars"),.c (.str "ba"),.c (.str "somex")]),.set 2 (.op .add (.v 2) (.lst #v[.c (.str "eachx"),.c (.str "note"),.c (.str "no"),.c (.str "ands"),.c (.str "ors"),.c (.str "o"),.c (.str "iss")])),.ret (.ix (.v 2) (.own "_law_pick" 2 #v[.v 0,.c (.int 14)]))] .nil,.ret (.own "_law_letters" 2 #v[.v 0,.op .add (.c (.int 1)) (.own "_law_pick" 2 #v[.v 0,.c (.int 8)])])]
abbrev cG:Ss:=
 #v[.set 2 (.c (.str "")),.ite (.cmp .eq (.own "_law_pick" 2 #v[.v 0,.c (.int 3)]) (.c (.int 0))) #v[.set 2 (.own "_law_letters" 2 #v[.v 0,.op .add (.c (.int 1)) (.own "_law_pick" 2 #v[.v 0,.c (.int 6)])])] .nil,.set 3 (.lst #v[.c (.str "marks"),.c (.str "ways"),.c (.str "bar"),.c (.str "some"),.c (.str "each"),.c (.str "not"),.c (.str "and"),.c (.str "or"),.c (.str "is")]),.loop (.nm 4) (.rng #v[.v 1]) #v[.set 5 (.own "_law_name" 2 #v[.v 0,.v 2]),.set 6 (.c (.int 0)),.whl (.cmp .isin (.v 5) (.v 3)) #v[.set 5 (.op .mul (.ix (.c (.str "abcdefghijklmnopqrstuvwxyz")) (.op .mod (.v 6) (.c (.int 26)))) (.op .add (.c (.int 1)) (.op .fdiv (.v 6) (.c (.int 26))))),.set 6 (.op .add (.v 6) (.c (.int 1)))],.ex (.me .append (.v 3) #v[.v 5])],.ret (.bi .tuple #v[.sl (.v 3) (.yes (.c (.int 9))) .no])]
abbrev dj:Ss:=
 #v[.ite (.cmp .lt (.v 3) (.v 2)) #v[.ret (.ix (.ix (.ix (.v 1) (.v 2)) (.c (.int 1))) (.v 3))] .nil,.ret (.ix (.ix (.ix (.v 0) (.c (.int 1))) (.ix (.ix (.ix (.v 1) (.v 3)) (.c (.int 1))) (.v 2))) (.c (.int 1)))]
abbrev fQ:Ss:=
 #v[.set 3 (.lst .nil),.loop (.nm 4) (.rng #v[.bi .len #v[.v 2]]) #v[.set 5 (.ix (.v 2) (.v 4)),.ex (.me .append (.v 3) #v[.tup #v[.ix (.ix (.v 1) (.v 5)) (.c (.int 0)),.bi .tuple #v[.comp (.own "_law_between" 4 #v[.v 3,.v 4,.v 2,.v 1]) (.nm 1) (.seq (.sl (.v 2) .no (.yes (.v 4)))) .nil [gV,gV,ba 5,ba 0,ba 1]]]])],.ret (.bi .tuple #v[.v 3])]
abbrev gE:Ss:=
 #v[.ret (.lst #v[.tup #v[.c (.int 0),.c (.int 1),.c (.int 2)],.tup #v[.c (.int 0),.c (.int 2),.c (.int 1)],.tup #v[.c (.int 1),.c (.int 0),.c (.int 2)],.tup #v[.c (.int 1),.c (.int 2),.c (.int 0)],.tup #v[.c (.int 2),.c (.int 0),.c (.int 1)],.tup #v[.c (.int 2),.c (.int 1),.c (.int 0)]])]
abbrev dL:Ss:=
 #v[.ret (.bi .min #v[.comp (.own "_law_part" 3 #v[.v 2,.v 3,.v 1]) (.nm 1) (.seq (.own "_law_turns" 0 .nil)) .nil [gV,gV,ba 0,ba 1]])]
abbrev eN:Ss:=
 #v[.set 2 (.ix (.lst #v[.lst #v[.tup #v[.c (.int 0)]],.lst #v[.tup #v[.c (.int 0),.c (.int 1)],.tup #v[.c (.int 1),.c (.int 0)]],.lst #v[.tup #v[.c (.int 0),.c (.int 1),.c (.int 2)],.tup #v[.c (.int 1),.c (.int 0),.c (.int 2)],.tup #v[.c (.int 0),.c (.int 2),.c (.int 1)]]]) (.op .sub (.v 1) (.c (.int 1)))),.ret (.ix (.v 2) (.own "_law_pick" 2 #v[.v 0,.bi .len #v[.v 2]]))]
abbrev dk:Ss:=
 #v[.set 4 (.own "_law_names" 2 #v[.v 0,.op .add (.v 1) (.bi .len #v[.v 2])]),.set 5 (.bi .tuple #v[.comp (.tup #v[.ix (.v 4) (.op .add (.v 3) (.v 1)),.ix (.v 2) (.v 1)]) (.nm 1) (.rng #v[.bi .len #v[.v 2]]) .nil [gV,gV,ba 2,ba 1,ba 4]]),.ret (.tup #v[.sl (.v 4) .no (.yes (.v 1)),.v 5,.bi .tuple #v[.bi .sorted #v[.v 3]]])]
abbrev bU:Ss:=
 #v[.set 3 (.lst .nil),.loop (.nm 4) (.rng #v[.c (.int 3)]) #v[.ex (.me .append (.v 3) #v[.tup #v[.own "_law_pick" 2 #v[.v 0,.v 1],.bi .tuple #v[.comp (.own "_law_pick" 2 #v[.v 2,.v 3]) (.nm 1) (.rng #v[.v 4]) .nil [gV,gV,ba 0,ba 2]]]])],.ret (.bi .tuple #v[.v 3])]
abbrev eO:Ss:=
 #v[.set 1 (.lst #v[.tup #v[.c (.int 1),.c (.int 1)],.tup #v[.c (.int 2),.c (.int 1)],.tup #v[.c (.int 3),.c (.int 1)],.tup #v[.c (.int 1),.c (.int 2)],.tup #v[.c (.int 1),.c (.int 2)],.tup #v[.c (.int 2),.c (.int 2)],.tup #v[.c (.int 2),.c (.int 2)],.tup #v[.c (.int 3),.c (.int 2)],.tup #v[.c (.int 1),.c (.int 3)],.tup #v[.c (.int 1),.c (.int 3)],.tup #v[.c (.int 2),.c (.int 3)]]),.ret (.ix (.v 1) (.own "_law_pick" 2 #v[.v 0,.c (.int 11)]))]
abbrev cO:Ss:=
 #v[.asg [1,2] (.own "_law_sizes" 1 #v[.v 0]),.set 3 (.own "_law_rule_of" 4 #v[.v 0,.v 1,.own "_law_backs" 2 #v[.v 0,.v 2],.tup .nil]),.set 4 .dnew,.loop (.nm 5) (.rng #v[.own "_law_pick" 2 #v[.v 0,.c (.int 9)]]) #v[.put (.v 4) (.own "_law_figure" 2 #v[.v 3,.own "_law_free_three" 3 #v[.v 0,.v 1,.v 2]]) (.c (.bl true))],.ret (.tup #v[.ix (.v 3) (.c (.int 0)),.ix (.v 3) (.c (.int 1)),.bi .tuple #v[.bi .sorted #v[.v 4]]])]
abbrev bM:Ss:=
 #v[.set 1 (.lst #v[.tup #v[.tup #v[.c (.int 1),.c (.int 0)],.disp #v[.tup #v[.c (.int 0),.c (.int 0)],.lst #v[.c (.int 0)]],.c (.int 3)],.tup #v[.tup #v[.c (.int 0),.c (.int 2),.c (.int 1)],.disp #v[.tup #v[.c (.int 1),.c (.int 1)],.lst #v[.c (.int 1)]],.c (.int 2)],.tup #v[.tup #v[.c (.int 0),.c (.int 1)],.disp #v[.tup #v[.c (.int 1),.c (.int 1)],.lst #v[.c (.int 1)]],.c (.int 3)]]),.ex (.me .append (.v 1) #v[.tup #v[.tup #v[.c (.int 0),.c (.int 1)],.disp #v[.tup #v[.c (.int 1),.c (.int 1)],.lst #v[.c (.int 1)],.tup #v[.c (.int 0),.c (.int 0)],.lst #v[.c (.int 1)]],.c (.int 3)]]),.ex (.me .append (.v 1) #v[.tup #v[.tup #v[.c (.int 0),.c (.int 1)],.disp #v[.tup #v[.c (.int 1),.c (.int 1)],.lst .nil],.c (.int 1)]]),.ex (.me .append (.v 1) #v[.tup #v[.tup #v[.c (.int 0),.c (.int 2),.c (.int 1)],.disp #v[.tup #v[.c (.int 0),.c (.int 0)],.lst #v[.c (.int 0)],.tup #v[.c (.int 0),.c (.int 1)],.lst #v[.c (.int 1)],.tup #v[.c (.int 1),.c (.int 0)],.lst #v[.c (.int 1)],.tup #v[.c (.int 1),.c (.int 1)],.lst #v[.c (.int 1)]],.c (.int 2)]]),.ex (.me .append (.v 1) #v[.tup #v[.tup #v[.c (.int 1),.c (.int 0)],.dnew,.c (.int 3)]]),.ex (.me .append (.v 1) #v[.tup #v[.tup #v[.c (.int 0),.c (.int 1),.c (.int 2)],.disp #v[.tup #v[.c (.int 2),.c (.int 2)],.lst #v[.c (.int 2)],.tup #v[.c (.int 1),.c (.int 2)],.lst #v[.c (.int 1)],.tup #v[.c (.int 2),.c (.int 1)],.lst #v[.c (.int 1)],.tup #v[.c (.int 1),.c (.int 1)],.lst #v[.c (.int 1),.c (.int 2)]],.c (.int 2)]]),.ex (.me .append (.v 1) #v[.tup #v[.tup #v[.c (.int 0),.c (.int 1),.c (.int 2)],.disp #v[.tup #v[.c (.int 0),.c (.int 0)],.lst #v[.c (.int 0),.c (.int 1)]],.c (.int 2)]]),.ret (.ix (.v 1) (.own "_law_pick" 2 #v[.v 0,.c (.int 9)]))]
abbrev dM:Ss:=
 #v[.set 5 (.disp #v[.tup #v[.c (.int 1),.c (.int 0)],.v 2,.tup #v[.c (.int 2),.c (.int 0)],.v 3,.tup #v[.c (.int 2),.c (.int 1)],.v 4]),.loop (.nm 6) (.seq (.bi .list #v[.v 5])) #v[.put (.v 5) (.tup #v[.ix (.v 6) (.c (.int 1)),.ix (.v 6) (.c (.int 0))]) (.ix (.v 0) (.ix (.v 5) (.v 6)))],.loop (.tp [7,8,9]) (.seq (.own "_law_turns" 0 .nil)) #v[.ite (.cmp .notin (.ix (.v 5) (.tup #v[.v 7,.v 9])) (.me .get (.v 1) #v[.tup #v[.ix (.v 5) (.tup #v[.v 7,.v 8]),.ix (.v 5) (.tup #v[.v 8,.v 9])],.lst #v[.ix (.v 5) (.tup #v[.v 7,.v 9])]])) #v[.ret (.c (.bl true))] .nil],.ret (.c (.bl false))]
abbrev bc:Ss:=
 #v[.set 3 (.bi .len #v[.v 1]),.set 4 (.lst #v[.lst #v[.tup #v[.c (.int 0)]],.lst #v[.tup #v[.c (.int 0),.c (.int 1)],.tup #v[.c (.int 1),.c (.int 0)]]]),.ex (.me .append (.v 4) #v[.lst #v[.tup #v[.c (.int 0),.c (.int 1),.c (.int 2)],.tup #v[.c (.int 0),.c (.int 2),.c (.int 1)],.tup #v[.c (.int 2),.c (.int 0),.c (.int 1)],.tup #v[.c (.int 2),.c (.int 1),.c (.int 0)]]]),.set 5 (.ix (.v 4) (.op .sub (.v 3) (.c (.int 1)))),.ite (.cmp .eq (.v 1) (.tup #v[.c (.int 0),.c (.int 1),.c (.int 2)])) #v[.set 5 (.own "_law_turns" 0 .nil)] .nil,.set 6 (.ix (.v 5) (.own "_law_pick" 2 #v[.v 0,.bi .len #v[.v 5]])),.set 7 (.op .mul (.lst #v[.c (.int 0)]) (.v 3)),.loop (.nm 8) (.rng #v[.v 3]) #v[.put (.v 7) (.ix (.v 6) (.v 8)) (.ix (.v 6) (.ix (.v 1) (.v 8)))],.set 9 .dnew,.loop (.tp [10,11]) (.seq (.v 2)) #v[.put (.v 9) (.tup #v[.ix (.v 6) (.v 10),.ix (.v 6) (.v 11)]) (.comp (.ix (.v 2) (.v 1)) (.nm 1) (.seq (.ix (.v 2) (.tup #v[.v 10,.v 11]))) .nil [gV,gV,ba 6])],.ret (.tup #v[.bi .tuple #v[.v 7],.v 9])]
abbrev bN:Ss:=
 #v[.set 1 (.own "_law_pick" 2 #v[.v 0,.c (.int 7)]),.ite (.cmp .eq (.v 1) (.c (.int 0))) #v[.ret (.own "_law_free_rule" 1 #v[.v 0])] .nil,.ite (.cmp .eq (.v 1) (.c (.int 1))) #v[.ret (.own "_law_one_way_rule" 1 #v[.v 0])] .nil,.asg [2,3,4] (.own "_law_laying_kind" 1 #v[.v 0]),.set 5 (.op .add (.c (.int 1)) (.own "_law_pick" 2 #v[.v 0,.v 4])),.asg [2,3] (.own "_law_numbered" 3 #v[.v 0,.v 2,.v 3]),.set 6 (.own "_law_rule_of" 4 #v[.v 0,.v 5,.v 2,.tup .nil]),.set 7 .dnew,.set 8 (.bi .len #v[.v 2]),.loop (.nm 9) (.rng #v[.op .mul (.op .mul (.v 8) (.v 8)) (.v 8)]) #v[.par 10 11 #v[.op .mod (.v 9) (.v 8),.op .mod (.op .fdiv (.v 9) (.v 8)) (.v 8)],.set 12 (.op .fdiv (.op .fdiv (.v 9) (.v 8)) (.v 8)),.ite (.own "_law_breaks" 5 #v[.v 2,.v 3,.v 10,.v 11,.v 12]) #v[.loop (.nm 13) (.seq (.own "_law_rising" 1 #v[.v 5])) #v[.set 14 (.tup #v[.tup #v[.ix (.v 13) (.c (.int 0)),.tup .nil],.tup #v[.ix (.v 13) (.c (.int 1)),.tup #v[.v 10]]]),.put (.v 7) (.own "_law_figure" 2 #v[.v 6,.op .add (.v 14) (.tup #v[.tup #v[.ix (.v 13) (.c (.int 2)),.tup #v[.v 11,.v 12]]])]) (.c (.bl true))]] .nil],.ret (.tup #v[.ix (.v 6) (.c (.int 0)),.ix (.v 6) (.c (.int 1)),.bi .tuple #v[.bi .sorted #v[.v 7]]])]
abbrev dN:Ss:=
 #v[.set 1 (.lst .nil),.loop (.nm 2) (.rng #v[.v 0]) #v[.loop (.nm 3) (.rng2 #v[.v 2,.v 0]) #v[.set 1 (.op .add (.v 1) (.comp (.tup #v[.v 2,.v 3,.v 1]) (.nm 1) (.rng2 #v[.v 3,.v 0]) .nil [gV,gV,ba 2,ba 3]))]],.ret (.v 1)]
abbrev cr:Ss:=
 #v[.asg [1,2] (.own "_law_sizes" 1 #v[.v 0]),.set 3 (.own "_law_rule_of" 4 #v[.v 0,.v 1,.own "_law_backs" 2 #v[.v 0,.v 2],.tup .nil]),.set 5 (.comp (.v 1) (.nm 1) (.rng #v[.v 2]) #v[.cmp .eq (.ix (.ix (.ix (.v 2) (.c (.int 1))) (.v 1)) (.c (.int 1))) (.v 1)] [gV,gV,ba 3]),.ite (.or (.cmp .eq (.v 5) (.lst .nil)) (.cmp .eq (.v 2) (.c (.int 1)))) #v[.ret (.v 3)] .nil,.set 6 (.ix (.v 5) (.own "_law_pick" 2 #v[.v 0,.bi .len #v[.v 5]])),.set 7 .dnew,.loop (.nm 4) (.rng #v[.own "_law_pick" 2 #v[.v 0,.c (.int 9)]]) #v[.set 8 (.own "_law_free_three" 3 #v[.v 0,.v 1,.v 2]),.ite (.and (.cmp .ne (.ix (.ix (.ix (.v 8) (.c (.int 1))) (.c (.int 1))) (.c (.int 0))) (.v 6)) (.cmp .notin (.v 6) (.ix (.ix (.v 8) (.c (.int 2))) (.c (.int 1))))) #v[.put (.v 7) (.own "_law_figure" 2 #v[.v 3,.v 8]) (.c (.bl true))] .nil],.ret (.tup #v[.ix (.v 3) (.c (.int 0)),.ix (.v 3) (.c (.int 1)),.bi .tuple #v[.bi .sorted #v[.v 7]]])]
abbrev bE:Ss:=
 #v[.set 1 (.op .add (.c (.int 1)) (.own "_law_pick" 2 #v[.v 0,.c (.int 3)])),.set 2 (.comp (.tup #v[.tup #v[.v 1,.tup .nil],.tup #v[.v 1,.tup #v[.c (.int 0)]],.tup #v[.v 1,.tup #v[.c (.int 0),.c (.int 0)]]]) (.nm 1) (.rng #v[.v 1]) #v[.cmp .eq (.own "_law_pick" 2 #v[.v 2,.c (.int 2)]) (.c (.int 0))] [gV,gV,ba 0]),.ret (.own "_law_rule_of" 4 #v[.v 0,.v 1,.tup #v[.c (.int 0)],.v 2])]
abbrev aZ:Ss:=
 #v[.ite (.cmp .is (.v 1) (.c .non)) #v[.ret (.cmp .is (.v 0) (.c .non))] .nil,.ite (.or (.isi "bool" (.v 1)) (.isi "bool" (.v 0))) #v[.ret (.and (.isi "bool" (.v 1)) (.and (.isi "bool" (.v 0)) (.cmp .eq (.v 0) (.v 1))))] .nil,.ite (.isi "int" (.v 1)) #v[.ret (.and (.isi "int" (.v 0)) (.cmp .eq (.v 0) (.v 1)))] .nil,.ite (.isi "str" (.v 1)) #v[.ret (.and (.isi "str" (.v 0)) (.cmp .eq (.v 0) (.v 1)))] .nil,.ite (.or (.cmp .ne (.isi "tuple" (.v 1)) (.isi "tuple" (.v 0))) (.cmp .ne (.isi "list" (.v 1)) (.isi "list" (.v 0)))) #v[.ret (.c (.bl false))] .nil,.ret (.and (.cmp .eq (.bi .len #v[.v 0]) (.bi .len #v[.v 1])) (.bi .all #v[.comp (.own "_law_alike" 2 #v[.ix (.v 3) (.v 1),.ix (.v 2) (.v 1)]) (.nm 1) (.rng #v[.bi .len #v[.v 1]]) .nil [gV,gV,ba 1,ba 0]]))]
abbrev Is (defs:J5 (KJ×Df))(f:KJ)(np nn:Kf)(b:Ss):Prop:=∃df:Df,defs.lookup f=ba df/\↥df.ps=np/\↥df.N=nn/\df.body=b
def aw {defs:J5 (KJ×Df)}{fuel d:Kf}{f:KJ}{np nn:Kf}{b:Ss}{ws:J5 W}{S:aa}{Q:QW}(h:Is defs f np nn b)(hl:↥ws=np)(ok:hX b=true)
  (hb:∀Q':QO,(∀w S',Q (w,S')->Q' (.rt w,S'))->wZ (al defs fuel d) fuel b (ws.map ba++Lf (nn-np) gV) S Q'):wO (aN (al defs fuel (d+1)) f np ws S) Q:=by
 obtain⟨df,h1,h2,h3,h4⟩:=h;subst h4;show Fd h1 hl (hl.trans h2.symm) ok λQ' hR=>?_
 have:=hb Q' hR;unfold fO;rw[h3,hl];show this
structure Gen (defs:J5 (KJ×Df)):Prop where
 pick:Is defs ("_law_pick": KJ) 2 4 cz
 letters:Is defs ("_law_letters": KJ) 2 2 di
 name:Is defs ("_law_name": KJ) 2 3 fP
 names:Is defs ("_law_names": KJ) 2 7 cG
 between:Is defs ("_law_between": KJ) 4 4 dj
 part:Is defs ("_law_part": KJ) 3 6 fQ
 turns:Is defs ("_law_turns": KJ) 0 0 gE
 figure:Is defs ("_law_figure": KJ) 2 2 dL
 backs:Is defs ("_law_backs": KJ) 2 3 eN
 rule_of:Is defs ("_law_rule_of": KJ) 4 6 dk
 free_three:Is defs ("_law_free_three": KJ) 3 5 bU
 sizes:Is defs ("_law_sizes": KJ) 1 2 eO
 any_rule:Is defs ("_law_any_rule": KJ) 1 6 cO
 laying_kind:Is defs ("_law_laying_kind": KJ) 1 2 bM
 breaks:Is defs ("_law_breaks": KJ) 5 10 dM
 numbered:Is defs ("_law_numbered": KJ) 3 12 bc
 laying_rule:Is defs ("_law_laying_rule": KJ) 1 15 bN
 rising:Is defs ("_law_rising": KJ) 1 4 dN
 free_rule:Is defs ("_law_free_rule": KJ) 1 9 cr
 one_way_rule:Is defs ("_law_one_way_rule": KJ) 1 3 bE
structure FlA (S:aa)(r q:Kf)(ns:J5 Ks)(i c x n:Ks):Prop where
 at_r:S[r]?=ba (.lst [.ref q,.int i,.int c,.int x,.int n])
 at_q:S[q]?=ba (.lst (ns.map W.int))
 lt:q<r
 i0:0<=i
 c0:0<=c
 x0:0<=x
 x1:x<2147483647
def FlA.ne {S:aa}{r q:Kf}{ns:J5 Ks}{i c x n:Ks}(h:FlA S r q ns i c x n):q≠r:=KO h.lt
abbrev Fl (S:aa)(r:Kf):Prop:=∃(q:Kf) (ns:J5 Ks) (i c x n:Ks),FlA S r q ns i c x n
def FlA.put {S:aa}{r q:Kf}{ns:J5 Ks}{i c x n i' c' x' n':Ks}(h:FlA S r q ns i c x n)(h1:0<=i')(h2:0<=c')(h3:0<=x')(h4:x'<2147483647):FlA (S.set r (.lst [.ref q,.int i',.int c',.int x',.int n'])) r q ns i' c' x' n':=
 #[bn h.at_r,by rw[a9 (Ne.symm h.ne)];show h.at_q,h.lt,h1,h2,h3,h4]
def Fl.keep {S S':aa}{r:Kf}(h:Fl S r)(h1:S'[r]?=S[r]?)(k:Kp r S S'):Fl S' r:=
 let ⟨q,ns,i,c,x,n,f⟩:=h;#[q,ns,i,c,x,n,by rw[h1];show f.at_r,k.get _ _ f.ne f.at_q,f.lt,f.i0,f.c0,f.x0,f.x1]
def Fl.lt {S:aa}{r:Kf}(h:Fl S r):r<↥S:=let ⟨_,_,_,_,_,_,f⟩:=h;bH f.at_r
structure Ka (S S':aa):Prop where
 get:∀(j:Kf) (o:O),S[j]?=ba o->S'[j]?=ba o
 len:↥S<=↥S'
def Ka.refl {S:aa}:Ka S S:=#[λ_ _ h=>h,Ki _]
def Ka.trans {S S' S'':aa}(a:Ka S S')(b:Ka S' S''):Ka S S'':=#[λj o h=>b.get j o (a.get j o h),KW a.len b.len]
def Ka.push {S:aa}{o:O}:Ka S (S++[o]):=#[λj u h=>ak h,by simp]
def Ka.late {t:Kf}{S0 S:aa}{o:O}(a:Ka S0 S)(h:↥S0<=t):Ka S0 (S.set t o):=
 #[λj u e=>by have:=bH e;rw[a9 ∅];show a.get j u e,by simpa using a.len]
def Ka.kp {S S':aa}(a:Ka S S')(r:Kf):Kp r S S':=#[λj o _ h=>a.get j o h,a.len]
def Fl.ka {S S':aa}{r:Kf}(h:Fl S r)(k:Ka S S'):Fl S' r:=h.keep (by obtain⟨q,ns,i,c,x,n,f⟩:=h;rw[k.get _ _ f.at_r,f.at_r]) (k.kp r)
def Fl.own {S:aa}{r t:Kf}{o:O}(h:Fl S r)(ht:r<t):Fl (S.set t o) r:=by
 obtain⟨q,ns,i,c,x,n,f⟩:=h;have:=f.lt;show#[q,ns,i,c,x,n,by rw[a9 ∅];show f.at_r,by rw[a9 ∅];show f.at_q,f.lt,f.i0,f.c0,f.x0,f.x1]
def eF {S:aa}{r:Kf}{xs:J5 W}{i:Kf}{w:W}{Q:QW}(h:S[r]?=ba (.lst xs))(hw:xs[i]?=ba w)(q:Q (w,S)):wO (n6 (.ref r) (.int (i:Ks)) S) Q:=ab (zH h (Kz i) (by rw[Kw];show hw)) q
def nr {S:aa}{r:Kf}{xs:J5 W}{i:Kf}{w:W}{Q:aa->Prop}(h:S[r]?=ba (.lst xs))(hi:Vn (i+1) ↥xs=true)(q:Q (S.set r (.lst (xs.set i w)))):wO (iW (.ref r) (.int (i:Ks)) w S) Q:=ab (Dw h (Kz i) (by rw[Kw];show Nj hi)) (by rw[Kw];show q)
section
variable{defs:J5 (KJ×Df)}{fuel d:Kf}{S:aa}{r:Kf}{Q:QW}
def be (hd:Is defs ("_law_pick": KJ) 2 4 cz){m:Ks}(hf:Fl S r)(h0:0<m)(h1:m<1073741824)(k:∀v S',0<=v->v<m->Fl S' r->Kp r S S'->Q (.int v,S')) :
  wO (aN (al defs fuel (d+1)) "_law_pick" 2 [.ref r,.int m] S) Q:=by
 obtain⟨q,ns,i,c,x,n,f⟩:=hf;show aw hd rfl rfl λQ' hR=>?_
 replace k:∀v S',0<=v->v<m->Fl S' r->Kp r S S'->Q' (.rt (.int v),S'):=λv S' a b c e=>hR _ _ (k v S' a b c e)
 clear hR;change wZ _ _ cz [ba (.ref r),ba (.int m),gV,gV] S Q';have aQ:∀(S1:aa) (w2:Ke W) (i1 c1 x1 n1:Ks),FlA S1 r q ns i1 c1 x1 n1->Kp r S S1->wZ (al defs fuel d) fuel (match cz with|.cons _ ss=>ss|.nil=>.nil) [ba (.ref r),ba (.int m),w2,gV] S1 Q':=by
  intro S1 w2 i1 c1 x1 n1 f1 k1;delta cz;show st ?_;delta wS wT wE wV wG;show eF (i:=2) f1.at_r rfl ?_;delta Hv wO wB;show aB (Q0:=Q') (λhg Q2 hn hr=>?_) (λhg Q2 hn hr=>?_)
  ·clear hn;show st ?_;delta wS wE wV wG;show eF (i:=2) f1.at_r rfl (ab (i7 h0) ?_);show st ?_;delta wS wE wV wG Kv;show eF (i:=2) f1.at_r rfl (ab (iE h0 h1) (nr (i:=2) f1.at_r rfl ?_));show st ?_;delta wS wE wV wG Kv;show hr _ _ (k _ _ (M4 _ ∅) (MT _ h0) #[q,ns,i1,c1/m,x1,n1,f1.put f1.i0 (Pf f1.c0 ∅) f1.x0 f1.x1] (k1.trans .set))
  ·show bP (hn _ _ ?_);clear hn hr;have f2:FlA (S1.set r (.lst [.ref q,.int i1,.int c1,.int x1,.int (n1+1)])) r q ns i1 c1 x1 (n1+1):=f1.put f1.i0 f1.c0 f1.x0 f1.x1;show st ?_;delta wS wE wV wG;show eF (i:=4) f1.at_r rfl ?_;delta c9 wO;show nr (i:=4) f1.at_r rfl ?_;show st ?_;delta wS wE wV wG Kv;show eF (i:=3) f2.at_r rfl (ab (qH #v[] #v[]) ?_)
   delta c9 wO;show eF (i:=4) f2.at_r rfl ?_;delta c9 wO;show(nr (i:=3) f2.at_r rfl ?_);have f3:FlA ((S1.set r (.lst [.ref q,.int i1,.int c1,.int x1,.int (n1+1)])).set r (.lst [.ref q,.int i1,.int c1,.int ((x1*48271+12820163+(n1+1)) % 2147483647),.int (n1+1)])) r q ns i1 c1 ((x1*48271+12820163+(n1+1)) % 2147483647) (n1+1):=f2.put f1.i0 f1.c0 (M4 _ #v[]) (MT _ #v[])
   delta Kv;generalize(x1*48271+12820163+(n1+1)) % 2147483647=y at f3 ⊢;have b1:y/65521+7919<2^64:=by
    have:=f3.x1;have:=Int.ediv_le_self 65521 f3.x0;omega
   have b2 : -(2^64)<y/65521+7919:=by
    have:=Pf f3.x0 (show(0:Ks)<=65521 by decide)
    omega
   show st ?_;delta wS wE wV wG Kv;show eF (i:=3) f3.at_r rfl (ab (i7 #v[]) ?_)
   delta c9 wO;show eF (i:=3) f3.at_r rfl ?_;delta c9 wO;show ab (qH b2 b1) ?_;show ab (i7 h0) ?_;show k _ _ (M4 _ ∅) (MT _ h0) #[q,ns,_,_,_,_,f3] (k1.trans (Kp.set.trans .set))
 dsimp only[cz]at aQ ⊢;show st ?_;delta wS wT wE wV wG wA;show eF (i:=2) f.at_r rfl ?_;delta gf wO wB;have skip:∀Q2:QO,(∀Z' S',wZ (al defs fuel d) fuel _ Z' S' Q'->Q2 (.nx Z',S'))->Q2 (.nx [ba (.ref r),ba (.int m),gV,gV],S):=λQ2 hn=>hn _ _ (aQ S gV i c x n f .refl)
 show#[λ_=>?_,λ_ Q2 hn hr=>#[λz=>(by cases z),λ_=>(bP (skip Q2 hn)).out]]
 show eF (i:=1) f.at_r rfl (eF (i:=0) f.at_r rfl (ab (Dx f.at_q) ?_));delta wH wO wB;show aB (Q0:=Q') (λhl Q2 hn _=>?_) (λhg Q2 hn hr=>bP (skip Q2 hn))
 clear skip;have hl':i.toNat<↥ns:=by
  have:=Lo hl;rw[J7]at this;have:=f.i0;omega
 have hcell:(ns.map W.int)[i.toNat]?=ba (.int ns[i.toNat]):=by simp[hl']
 generalize ns[i.toNat]=cell at hcell;have f1:FlA (S.set r (.lst [.ref q,.int (i+1),.int c,.int x,.int n])) r q ns (i+1) c x n:=f.put (by have:=f.i0;omega) f.c0 f.x0 f.x1
 show st ?_;delta wS wE wV wG;show eF (i:=0) f.at_r rfl (eF (i:=1) f.at_r rfl (ab (zH f.at_q f.i0 hcell) ?_));show st ?_;delta wS wE wV wG Kv;show eF (i:=1) f.at_r rfl ?_;delta c9 wO;show nr (i:=1) f.at_r rfl ?_;show st ?_;delta wS wT wE wV wG Fb Jt wO wB;show aB (Q0:=Q') (λhg Q3 hn3 _=>?_) (λhg Q3 hn3 _=>?_)
 ·show st ?_;delta wS wE wV wG;show nr (i:=2) f1.at_r rfl (bP (hn3 _ _ (bP (hn _ _ ?_))));show aQ _ _ (i+1) cell x n (f1.put f1.i0 (by have:=Lo hg;omega) f.x0 f.x1) (Kp.set.trans .set)
 ·show st ?_;delta wS wE wV wG;show eF (i:=3) f1.at_r rfl (ab (qH #v[] #v[]) (ab (i7 #v[]) ?_))
  delta c9 wO;show nr (i:=3) f1.at_r rfl (bP (hn3 _ _ (bP (hn _ _ ?_))));show aQ _ _ (i+1) c _ n (f1.put f1.i0 f.c0 (M4 _ #v[]) (MT _ #v[])) (Kp.set.trans .set)
end
abbrev dr:Kf->Ss->Ss
 |0,ss=>ss
 |n+1,.cons _ ss=>dr n ss
 |_,.nil=>.nil
def aH {α:Type}{a:α}{Q:α->Prop}:wO (ba a) Q=Q a:=rfl
def aG {M:KJ->FF}{fuel:Kf}{Z:Fm}{S:aa}{Q:QO}{s:Sm}{ss:Ss}(h:∀K:Fm->aa->Prop,(∀Z' S',wZ M fuel ss Z' S' Q->K Z' S')->wS M fuel s Z S K Q):wZ M fuel (.cons s ss) Z S Q:=st (h _ λ_ _ h=>h)
def HE {M:KJ->FF}{fuel:Kf}{Z:Fm}{S:aa}{i:Kf}{e:E}{K:Fm->aa->Prop}{Q:QO}(h:wE M e Z S λp=>K (Z.set i (ba p.1)) p.2):wS M fuel (.set i e) Z S K Q:=h
def jb {n:Kf}(h:Vn n 1000=true):n<=sizeLine:=KW (Nj h) (by rw[Lp];decide)
def few {n:Kf}(h:n<=1000):n<=sizeLine:=KW h (by rw[Lp];decide)
def fY {S:aa}{r:Kf}{xs:J5 W}{i:Ks}{w:W}{Q:QW}(h:S[r]?=ba (.lst xs))(h0:0<=i)(hw:xs[i.toNat]?=ba w)(q:Q (w,S)):wO (n6 (.ref r) (.int i) S) Q:=ab (zH h h0 hw) q
def ah {S:aa}{xs:J5 W}{i:Ks}{w:W}{Q:QW}(h0:0<=i)(hw:xs[i.toNat]?=ba w)(q:Q (w,S)):wO (n6 (.tup xs) (.int i) S) Q:=ab (Hx h0 hw) q
def qI {S:aa}{r:Kf}{xs:J5 W}{y:W}{Q:QW}(h:S[r]?=ba (.lst xs))(hl:↥xs<1000)(q:Q (.non,S.set r (.lst (xs++[y])))):wO (Me.append.fn (.ref r) [y] S) Q:=ab (uT h (KR hl (jb rfl))) q
def fZ {S:aa}{r:Kf}{xs:J5 W}{Q:QW}(h:S[r]?=ba (.lst xs))(q:Q (.int ↥xs,S)):wO (Bi.len.fn [.ref r] S) Q:=ab (Dx h) q
def aX {S:aa}{xs:J5 W}{Q:QW}(q:Q (.int ↥xs,S)):wO (Bi.len.fn [.tup xs] S) Q:=q
def fA {S:aa}{r:Kf}{xs:J5 W}{Q:QW}(h:S[r]?=ba (.lst xs))(q:Q (.tup xs,S)):wO (Bi.tuple.fn [.ref r] S) Q:=ab (Hy h) q
section
variable{M:KJ->FF}{fuel:Kf}{Z:Fm}{S S1:aa}{K:Fm->aa->Prop}
def bQ {t:E}{a:Ss}{Q:QO}(ht:∀Q:QB,Q (false,S1)->wT M t Z S Q)(h:K Z S1):wS M fuel (.ite t a .nil) Z S K Q:=by
 delta wS;show ht _ λQ' h1 h2=>#[λz=>(by cases z),λ_=>(bP (h1 _ _ h)).out]
def lw {t:E}{a b:Ss}{Q:QO}(ht:∀Q:QB,Q (true,S1)->wT M t Z S Q)(h:∀Q':QO,(∀Z' S',K Z' S'->Q' (.nx Z',S'))->(∀w S',Q (.rt w,S')->Q' (.rt w,S'))->wZ M fuel a Z S1 Q'):wS M fuel (.ite t a b) Z S K Q:=by
 delta wS;show ht _ λQ' h1 h2=>#[λ_=>(h Q' h1 λw S' q=>h2 (.rt w) S' (λ_ z=>nomatch z) q).out,λz=>(by cases z)]
end
def zM:∀k:Fin 26,("abcdefghijklmnopqrstuvwxyz": KJ).cps.toList[k.val]?=ba (97+k.val):=by decide
def uX:("abcdefghijklmnopqrstuvwxyz": KJ).length<=sizeLine:=by decide
def lx:∀cs:J5 Kf,jr (cs.map λc=>W.str #[[c].toArray])=ba (cs.map λc=>(#[[c].toArray]:KJ))
 |[]=>rfl
 |c::cs=>by simp[jr,lx cs]
def nu:∀cs:J5 Kf,((cs.map λc=>(#[[c].toArray]:KJ)).map (·.length)).sum=↥cs
 |[]=>rfl
 |c::cs=>by
  have:=nu cs;revert LF List.sum_cons KZ;rw[this];change 1+↥cs=_;omega
def fR (a b:KJ):(a++b).cps.toList=a.cps.toList++b.cps.toList:=Pi
def ly:∀cs:J5 Kf,(Vh "" (cs.map λc=>(#[[c].toArray]:KJ))).cps.toList=cs
 |[]=>rfl
 |[c]=>rfl
 |c::d::cs=>by
  have ih:=ly (d::cs);show(((#[[c].toArray]:KJ)++("": KJ)++Vh "" ((d::cs).map λc=>(#[[c].toArray]:KJ))).cps).toList=_
  rw[fR,fR,ih];rfl
def qJ (cs:J5 Kf):(Uy "" (cs.map λc=>(#[[c].toArray]:KJ))).cps.toList=cs:=by
 show(UX "" _).cps.toList=_;rw[StrLaws.glued_eq_join];show ly cs
abbrev uY (y:KJ):Prop:=∀c∈y.cps.toList,97<=c/\c<=122
abbrev Name (y:KJ):Prop:=1<=↥y.cps.toList/\↥y.cps.toList<=8/\uY y
def uZ (y:KJ):↥y=↥y.cps.toList:=by simp[UO]
abbrev zN:J5 KJ:=["markss","mark","way","wayss","bars","ba","somex","eachx","note","no","ands","ors","o","iss"]
def wI:∀y∈zN,Name y:=by
 have h:zN.all (λy=>decide (1<=↥y.cps.toList/\↥y.cps.toList<=8)&&y.cps.toList.all λc=>decide (97<=c/\c<=122))=true:=by decide
 intro y hy;have:=KA.mp h y hy;rw[Kg]at this;obtain⟨a,b⟩:=this;show#[(Lo a).1,(Lo a).2,λc hc=>Lo (KA.mp b c hc)]
def lz {α:Type}{f:α->W}{xs:J5 α}{i:Kf}(h:i<↥xs):∃x∈xs,(xs.map f)[i]?=ba (f x):=#[xs[i],Lm _,by rw[Kh,Kl h];rfl]
section
variable{defs:J5 (KJ×Df)}{fuel d:Kf}{S:aa}{r:Kf}{Q:QW}
def jG (G:Gen defs){m:Ks}(hf:Fl S r)(h0:0<=m)(h1:m<=1000)(k:∀y S',↥y.cps.toList=m.toNat->uY y->Fl S' r->Kp r S S'->Q (.str y,S')) :
  wO (aN (al defs fuel (d+2)) "_law_letters" 2 [.ref r,.int m] S) Q:=by
 show aw G.letters rfl rfl λQ' hR=>?_
 change wZ _ _ di [ba (.ref r),ba (.int m)] S Q';delta di;show st ?_;delta wS wE wA;show#[rfl,dh m (λi ys Z S'=>(∃a,Z=[gV,a,ba (.ref r)])/\Fl S' r/\Kp r S S'/\∃cs:J5 Kf,ys=cs.map (λc=>W.str #[[c].toArray])/\↥cs=i/\∀c∈cs,97<=c/\c<=122) rfl rfl rfl #[∅,∅] #[rfl,#[gV,rfl],hf,.refl,[],rfl,rfl,λ_ h=>nomatch h] ?_ ?_]
 ·rintro i ys Z S1 hi ⟨⟨a,rfl⟩,f1,k1,cs,rfl,hl,hc⟩;delta gm wC wE wA wV wG Kv;show#[λ_=>be (d:=d) G.pick f1 #v[] #v[] λv S2 h2 h3 f2 k2=>?_,λz=>by cases z]
  have ha:=zM #[v.toNat,∅]
  show ab (Dv uX h2 ha) #[#[_,rfl],f2,k1.trans k2,cs++[97+v.toNat],by simp,by simp[hl],λc hx=>?_]
  rcases La.mp hx with h|h
  ·show hc c h
  ·rw[Kt.mp h];omega
 ·rintro ys Z S1 ⟨_,f1,k1,cs,rfl,hl,hc⟩;show#[by rw[J7,hl,Lp];omega,?_]
  have hz:((cs.map λc=>(#[[c].toArray]:KJ)).map (·.length)).sum+(cs.map λc=>(#[[c].toArray]:KJ)).length*("": KJ).length<=16777216:=by
   rw[nu,show("": KJ).length=0 from rfl,Qu]
   omega
  show ab (a:=(.str (Uy "" (cs.map λc=>(#[[c].toArray]:KJ))),S1++[.lst (cs.map λc=>W.str #[[c].toArray])])) ?_ (hR _ _ (k _ _ (by rw[qJ,hl]) (λc h=>hc c (by rw[qJ]at h;show h)) (f1.ka .push) (k1.trans .push)))
  simp only[Me.fn,tX,fm,au af,lx];rw[KF hz]
def Fe (G:Gen defs){y:KJ}(hf:Fl S r)(h0:↥y.cps.toList<=6)(h1:uY y)(k:∀z S',Name z->Fl S' r->Kp r S S'->Q (.str z,S')) :
  wO (aN (al defs fuel (d+3)) "_law_name" 2 [.ref r,.str y] S) Q:=by
 show aw G.name rfl rfl λQ' hR=>?_
 replace k:∀z S',Name z->Fl S' r->Kp r S S'->Q' (.rt (.str z),S'):=λz S' a b c=>hR _ _ (k z S' a b c)
 clear hR;change wZ _ _ fP [ba (.ref r),ba (.str y),gV] S Q';delta fP;nofun
 delta wS wT wE wV wG Hw wO wB;show aB (Q0:=Q') (λ_ Q2 _ hr=>?_) (λ_ Q2 hn _=>?_)
 ·show st ?_;left;show be (d:=d+1) G.pick hf #v[] #v[] λv S1 v0 v1 f1 k1=>?_
  delta c9 wO;show jG (d:=d) G f1 ∅ ∅ λz S2 hz hs f2 k2=>?_
  have hl:(y++z).cps.toList.length=↥y.cps.toList+↥z.cps.toList:=by rw[fR,Kk]
  show ab (Fc (by rw[uZ,uZ,Lp];omega)) (hr _ _ (k _ _ #[∅,∅,λc hc=>?_] f2 (k1.trans k2)))
  rw[fR]at hc;show(La.mp hc).elim (h1 c) (hs c)
 ·show bP (hn _ _ (hK _ _ ?_));clear hn hK;nofun
  delta wS wT wE wA wV wG;show be (d:=d+1) G.pick hf #v[] #v[] λv S1 v0 v1 f1 k1=>?_
  delta gf wO wB;show aB (Q0:=Q') (λ_ Q2 _ hr=>?_) (λ_ Q2 hn _=>?_)
  ·show st ?_;left;show st ?_;left;show ab (zG (i:=↥S1) (j:=(S1++[_]).length) (ak af) af (jb rfl)) ?_;dsimp only;show st ?_;left;show be (d:=d+1) G.pick (((f1.ka .push).ka .push).ka .push) #v[] #v[] λv S2 v0 v1 f2 k2=>?_
   have e:=k2.get _ _ (by have:=f1.lt;revert Kk;omega) af
   obtain⟨z,hz,ez⟩:=lz (f:=W.str) (xs:=zN) (i:=v.toNat) (by change v.toNat<14;omega)
   show fY e v0 ez (hr _ _ (k _ _ (wI z hz) f2 (k1.trans (Kp.push.trans (Kp.push.trans (Kp.push.trans k2))))))
  ·show bP (hn _ _ (hK _ _ ?_));clear hn hK;show st ?_;left;show be (d:=d+1) G.pick f1 #v[] #v[] λv S2 v0 v1 f2 k2=>?_
   delta c9 wO;show jG (d:=d) G f2 ∅ ∅ λz S3 hz hs f3 k3=>k _ _ #[∅,∅,hs] f3 (k1.trans (k2.trans k3))
end
def fS {α:Type}[NQ α]:∀(l m:J5 α),l.Nodup->(∀x∈l,x∈m)->↥l<=↥m
 |[],_,_,_=>LC _
 |x::l,m,hn,hs=>by
  rw[LY]at hn;have hx:x∈m:=hs x (.head _);have h1:=fS l (m.erase x) hn.2 λy hy=>(Oe (λ(e:y=x)=>hn.1 (by rw[<- e];show hy))).mpr (hs y (.tail _ hy))
  rw[NA hx]at h1;have:=NX hx;rw[KZ];omega
abbrev l9 (k:Kf):KJ:=#[[97+k].toArray]
def zO {a b:Kf}(h:l9 a=l9 b):a=b:=by
 unfold l9 at h;injection h with h
 injection h with h
 injection h with h
 omega
def qK (s:Kf):((KH s).map l9).Nodup:=by
 unfold RE;rw[ML];show List.nodup_range.imp λh e=>h (zO e)
def wJ {k:Kf}(h:k<26):Name (l9 k):=#[Ki 1,(by decide:1<=8),λc hc=>by
 cases Kt.mp (show c∈[97+k]from hc)
 omega]
abbrev iG:J5 KJ:=["marks","ways","bar","some","each","not","and","or","is"]
def zP (zs:J5 KJ):(zs.map W.str).all bY=true:=by
 rw[KA];intro x hx;obtain⟨z,_,rfl⟩:=Kn.mp hx;rfl
def CL (zs:J5 KJ)(y:KJ):((zs.map W.str).any λz=>AN z (.str y))=decide (y∈zs):=by
 induction zs with
 |nil=>rfl
 |cons z zs ih=>
  rw[LF,M9,ih];show((z==y)||_)=_
  by_cases h:z=y
  ·subst h;simp
  ·have:(z==y)=false:=by simpa using h
   rw[this,P8];have h2:(y∈z::zs)=(y∈zs):=by simp[Ne.symm h]
   revert h2
def wK {S:aa}{t:Kf}{zs:J5 KJ}{y:KJ}(h:S[t]?=ba (.lst (zs.map W.str))):cx .isin (.str y) (.ref t) S=ba (.bl (decide (y∈zs)),S):=by
 (delta cx iN FL xp fm;simp only[oM h,au h])
 rw[KF (by rw[zP];rfl),CL]
 rfl
def Ff {S:aa}{k:Kf}:gk .mul (.str #[[k].toArray]) (.int 1) S=ba (.str #[[k].toArray],S):=by
 delta gk xU;rw[KF #[#v[],#v[],by change 1*1<=sizeLine;rw[Lp];decide]]
 rfl
def gF {xs:J5 W}{k:Kf}:jp xs gV (ba (k:Ks))=xs.take k:=by
 unfold jp;rw[HT.kD,HT.tJ,PF,R6]
 by_cases h:k<=↥xs
 ·rw[SZ h]
 ·rw[SA ∅,NW (Ki _),NW ∅]
def qL {xs:J5 W}{k:Kf}:jp xs (ba (k:Ks)) gV=xs.drop k:=by
 unfold jp;rw[HT.kD,HT.tJ]
 by_cases h:k<=↥xs
 ·rw[SZ h,NW (by rw[MS];show Ki _)]
 ·rw[SA ∅,OW (Ki _),OW ∅];show List.take_nil
section
variable{defs:J5 (KJ×Df)}{fuel d:Kf}{S:aa}{r:Kf}{Q:QW}
def CM {M:KJ->FF}{m z w:W}{t:Kf}{y:KJ}{zs:J5 KJ}{K:Fm->aa->Prop}{Q:QO}(hfu:20<fuel)(hy:Name y)(e:S[t]?=ba (.lst (zs.map W.str)))(hl:↥zs<=15)
  (k:∀y s,Name y->y∉zs->K [ba (.ref r),ba m,ba z,ba (.ref t),ba w,ba (.str y),ba s] S) :
  wS M fuel (.whl (.cmp .isin (.v 5) (.v 3)) #v[.set 5 (.op .mul (.ix (.c (.str "abcdefghijklmnopqrstuvwxyz")) (.op .mod (.v 6) (.c (.int 26)))) (.op .add (.c (.int 1)) (.op .fdiv (.v 6) (.c (.int 26))))),.set 6 (.op .add (.v 6) (.c (.int 1)))])
   [ba (.ref r),ba m,ba z,ba (.ref t),ba w,ba (.str y),ba (.int 0)] S K Q:=by
 delta wS;show zL (λmm Z S'=>∃(s:Kf) (y:KJ),Z=[ba (.ref r),ba m,ba z,ba (.ref t),ba w,ba (.str y),ba (.int s)]/\S'=S/\mm+s=18/\s<=16/\Name y/\(0<s->y=l9 (s-1))/\∀k,k+1<s->l9 k∈zs) 18 rfl rfl ∅ #[0,y,rfl,rfl,rfl,∅,hy,λh=>absurd h ∅,λk h=>absurd h ∅] ?_
 rintro mm Z S' ⟨s,y',rfl,rfl,hm,hs,hy',hc1,hc2⟩;delta wT wE wV wG;show ab (wK e) #[λhin=>?_,λhout=>k _ _ hy' (MU hout)]
 have all:∀k,k<s->l9 k∈zs:=λk hk=>by
  by_cases h:k+1<s
  ·show hc2 k h
  ·have e:k=s-1:=∅
   rw[e,<- hc1 ∅];show Lo hin
 have hs15:s<=15:=by
  have h7:=fS ((KH s).map l9) zs (qK s) λx hx=>by
   obtain⟨k,hk,rfl⟩:=Kn.mp hx;show all k (Kx.mp hk)
  rw[J7,KQ]at h7;omega
 show#[mm-1,∅,λQ2 hn _=>?_]
 have em:((s:Ks) % 26)=s:=Int.emod_eq_of_lt ∅ ∅
 have ed:((s:Ks)/26)=0:=Int.ediv_eq_zero_of_lt ∅ ∅
 show st ?_;delta wS wE wV wG Kv;show ab (i7 #v[]) ?_
 rw[em];show ab (Dv (i:=(s:Ks)) uX (Kz s) (zM #[s,∅])) ?_
 have e2:gk .fdiv (.int s) (.int 26) S'=ba (.int 0,S'):=by rw[iE ∅ ∅,ed]
 dsimp only;rw[e2];delta c9 aH;rw[show(1:Ks)+0=1 from rfl]
 show ab Ff ?_;show st ?_;delta wS wE wV wG Kv c9 aH;show bP (hn _ _ #[s+1,l9 s,rfl,rfl,∅,∅,wJ ∅,λ_=>rfl,λk hk=>all k ∅])
def CN (hfu:20<fuel)(G:Gen defs){m:Kf}(hf:Fl S r)(h1:m<=6)(k:∀(ys:J5 KJ) S',↥ys=m->(∀y∈ys,Name y)->(iG++ys).Nodup->Fl S' r->Kp r S S'->Q (.tup (ys.map W.str),S')) :
  wO (aN (al defs fuel (d+4)) "_law_names" 2 [.ref r,.int m] S) Q:=by
 show aw G.names rfl rfl λQ' hR=>?_
 replace k:∀(ys:J5 KJ) S',↥ys=m->(∀y∈ys,Name y)->(iG++ys).Nodup->Fl S' r->Kp r S S'->Q' (.rt (.tup (ys.map W.str)),S'):=λz S' a b c e f=>hR _ _ (k z S' a b c e f)
 clear hR;change wZ _ _ cG [ba (.ref r),ba (.int m),gV,gV,gV,gV,gV] S Q';have aQ:∀(z:KJ) (S2:aa),↥z.cps.toList<=6->uY z->Fl S2 r->Kp r S S2->wZ (al defs fuel (d+3)) fuel (dr 2 cG) [ba (.ref r),ba (.int m),ba (.str z),gV,gV,gV,gV] S2 Q':=by
  intro z S2 hz1 hz2 f2 k2;delta dr cG;have hrt:=f2.lt;have hSt:=k2.len;show st ?_;left;nofun
  show cq (m:Ks) (λi Z S'=>∃a4 a5 a6 ys,Z=[ba (.ref r),ba (.int m),ba (.str z),ba (.ref ↥S2),a4,a5,a6]/\S'[↥S2]?=ba (.lst ((iG++ys).map W.str))/\↥ys=i/\(∀y∈ys,Name y)/\(iG++ys).Nodup/\Fl S' r/\Kp r S S') rfl rfl ∅ ?_ ?_ ?_
  ·delta wE wV wG;show#[rfl,gV,gV,gV,[],rfl,af,rfl,λ_ h=>(nomatch h),#v[],f2.ka .push,k2.trans .push]
  ·rintro i Z S3 hi ⟨a4,a5,a6,ys,rfl,e3,hy1,hy2,hy3,f3,k3⟩ Q2 hn _;clear hK;show st ?_;left;show Fe (d:=d) G f3 hz1 hz2 λy S4 hy f4 k4=>?_
   have e4:=k4.get _ _ ∅ e3
   show st ?_;left;show st (CM hfu hy e4 (by rw[Kk,hy1];show 9+i<=15;omega) λy' s hy' hnot=>?_)
   show st ?_;left;show#[dc e4,qI e4 (by rw[J7,Kk,hy1];show 9+i<1000;omega) ?_]
   show bP (hn _ _ #[_,_,_,ys++[y'],rfl,?_,by rw[Kk,hy1];rfl,λx hx=>?_,?_,f4.own hrt,(k3.trans k4).late hSt])
   ·rw[bn e4,<- Mt,K5 (l₁:=iG++ys)];rfl
   ·rcases La.mp hx with h|h
    ·show hy2 x h
    ·rw[Kt.mp h];show hy'
   ·rw[<- Mt,N9];show#[hy3,by simp,λa ha b hb e=>?_]
    rw[Kt.mp hb]at e;show hnot (e▸ha)
  ·rintro Z S3 ⟨a4,a5,a6,ys,rfl,e3,hy1,hy2,hy3,f3,k3⟩;show hK _ _ (st ?_);delta wS wE wA wV wG wP wN;have hs:mE (.ref ↥S2) (ba 9) gV S3=ba (.ref ↥S3,S3++[.lst (ys.map W.str)]):=by
    have:jp ((iG++ys).map W.str) (ba ((9:Kf):Ks)) gV=ys.map W.str:=by
     rw[qL,K5];show Ta rfl
    simp only[mE,au e3];rw[show(ba 9:Ke Ks)=ba ((9:Kf):Ks)from rfl,this]
   show ab hs (fA af (k _ _ ?_ hy2 hy3 (f3.ka .push) (k3.trans .push)));rw[hy1];show Kw m
 delta cG;show st ?_;delta wS wE Kv;nofun
 delta wS wT wE wA wV wG;show be (d:=d+2) G.pick hf #v[] #v[] λv S1 v0 v1 f1 k1=>?_
 delta gf wO wB;show aB (Q0:=Q') (λ_ Q2 hn _=>?_) (λ_ Q2 hn _=>?_)
 ·show st ?_;left;show be (d:=d+2) G.pick f1 #v[] #v[] λv S2 v0 v1 f2 k2=>?_
  delta c9 wO;show jG (d:=d+1) G f2 ∅ ∅ λz S3 hz hs f3 k3=>bP (hn _ _ (hK _ _ (aQ z S3 ∅ hs f3 (k1.trans (k2.trans k3)))))
 ·show bP (hn _ _ (hK _ _ (aQ "" S1 #v[] (λc hc=>nomatch hc) f1 k1)))
end
noncomputable abbrev Pt:=Ks×J5 Ks
noncomputable abbrev Wd:=J5 Pt
abbrev bw (p:Pt):W:=.tup [.int p.1,.tup (p.2.map W.int)]
abbrev ay (u:Wd):W:=.tup (u.map bw)
abbrev hZ (p:Pt):T:=.tup [.int p.1,.tup (p.2.map T.int)]
abbrev bq (u:Wd):T:=.tup (u.map hZ)
def u4:∀xs:J5 Ks,T.ws (xs.map T.int)=xs.map W.int
 |[]=>rfl
 |x::xs=>by simp[T.ws,T.w,u4 xs]
def HF (p:Pt):(hZ p).w=bw p:=by simp[hZ,bw,T.w,T.ws,u4]
def sS:∀u:Wd,T.ws (u.map hZ)=u.map bw
 |[]=>rfl
 |p::u=>by simp[T.ws,HF,sS u]
def zQ (u:Wd):(bq u).w=ay u:=by simp[bq,ay,T.w,sS]
def HG (u:Wd):W.t (ay u)=ba (bq u):=by rw[<- zQ];show T.w_t _
def sT:∀us:J5 Wd,T.ws (us.map bq)=us.map ay
 |[]=>rfl
 |u::us=>by simp[T.ws,zQ,sT us]
def u5 (us:J5 Wd):W.ts (us.map ay)=ba (us.map bq):=by rw[<- sT];show T.ws_ts _
def lA:∀xs:J5 Ks,T.depths (xs.map T.int)=0
 |[]=>rfl
 |x::xs=>by simp[T.depths,T.depth,lA xs]
def zR (p:Pt):(hZ p).depth=2:=by simp[hZ,T.depth,T.depths,lA]
def jH:∀u:Wd,T.depths (u.map hZ)<=2
 |[]=>by simp[T.depths]
 |p::u=>by
  have:=jH u;revert LF T.depths zR;omega
def lB (u:Wd):(bq u).depth<=3:=by
 have:=jH u;revert bq T.depth;omega
def fB:∀us:J5 Wd,T.depths (us.map bq)<=3
 |[]=>by simp[T.depths]
 |u::us=>by
  have:=fB us;have:=lB u;revert LF T.depths;omega
def sU (u:Wd):gZ (ay u)=ba (bq u):=by
 unfold gZ;rw[HG];show(if (bq u).isTup=true/\(bq u).depth<=az then _ else _)=_
 rw[KF #[rfl,by have:=lB u;unfold az;omega]]
mutual
def qM:T->T->KU
 |.int _,.int _=>true
 |.str _,.str _=>true
 |.tup xs,.tup ys=>jc xs ys
 |_,_=>false
def jc:J5 T->J5 T->KU
 |[],_=>true
 |_,[]=>true
 |x::xs,y::ys=>qM x y&&jc xs ys
end
mutual
theorem sV:∀x y:T,qM x y=true->(gP x y).isSome=true
 |.int _,.int _,_=>rfl
 |.str _,.str _,_=>rfl
 |.tup xs,.tup ys,h=>by
  dsimp only[qM]at h;delta gP;show u6 xs ys h
 |.int _,.str _,h|.int _,.tup _,h|.str _,.int _,h|.str _,.tup _,h|.tup _,.int _,h|.tup _,.str _,h=>by cases h
theorem u6:∀xs ys:J5 T,jc xs ys=true->(cY xs ys).isSome=true
 |[],[],_=>rfl
 |[],_::_,_=>rfl
 |_::_,[],_=>rfl
 |x::xs,y::ys,h=>by
  dsimp only[jc]at h;simp only[Kg]at h
  delta cY;split
  ·show u6 xs ys h.2
  ·show sV x y h.1
end
def qN:∀xs ys:J5 Ks,jc (xs.map T.int) (ys.map T.int)=true
 |[],_=>rfl
 |_::_,[]=>rfl
 |x::xs,y::ys=>by delta UA jc qM;simp[qN xs ys]
def zS (p q:Pt):qM (hZ p) (hZ q)=true:=by delta hZ qM jc;simp[qN]
def u7:∀u v:Wd,jc (u.map hZ) (v.map hZ)=true
 |[],_=>rfl
 |_::_,[]=>rfl
 |p::u,q::v=>by delta UA jc;simp[zS,u7 u v]
def Fg (u v:Wd):qM (bq u) (bq v)=true:=by delta bq qM;show u7 _ _
def de (us:J5 Wd):eJ (us.map bq)=true:=by
 unfold eJ;rw[KA];intro x hx;obtain⟨u,_,rfl⟩:=Kn.mp hx;rw[KA];intro y hy;obtain⟨v,_,rfl⟩:=Kn.mp hy;show sV _ _ (Fg u v)
def zU (us:J5 Wd)(h:∀u∈us,u≠[]):(sj (us.map bq)).isSome=true:=by
 unfold sj;split
 ·rfl
 ·split
  ·rfl
  ·split
   ·rfl
   ·split
    ·rfl
    ·split
     ·rfl
     ·rename_i h5;exfalso;apply h5;rw[KA];intro x hx;obtain⟨u,hu,rfl⟩:=Kn.mp hx;cases u with
      |nil=>show absurd rfl (h [] hu)
      |cons p u=>rfl
abbrev bV (bs:J5 Ks)(u:Wd)(i j:Kf):Ks:=if j<i then((u.getD i (0,[])).2).getD j 0 else bs.getD (((u.getD j (0,[])).2).getD i 0).toNat 0
abbrev aj (bs:J5 Ks)(u:Wd)(ps:J5 Kf):Wd:=(KH ↥ps).map λk=>((u.getD (ps.getD k 0) (0,[])).1,(ps.take k).map λj=>bV bs u (ps.getD k 0) j)
abbrev ap:J5 (J5 Kf):=[[0,1,2],[0,2,1],[1,0,2],[1,2,0],[2,0,1],[2,1,0]]
abbrev gh (bs:J5 Ks)(u:Wd):Wd:=(ap.map (aj bs u)).getD (gx ((ap.map (aj bs u)).map bq)) []
abbrev aP (n:KJ)(b:Ks):W:=.tup [.str n,.int b]
structure GoodW (a n:Kf)(u:Wd):Prop where
 mark:∀(k:Kf) (p:Pt),u[k]?=ba p->0<=p.1/\p.1<a
 len:∀(k:Kf) (p:Pt),u[k]?=ba p->↥p.2=k
 way:∀(k:Kf) (p:Pt),u[k]?=ba p->∀w∈p.2,0<=w/\w<n
abbrev GoodB (bs:J5 Ks):Prop:=bs=[0]\/bs=[0,1]\/bs=[1,0]\/bs=[0,1,2]\/bs=[1,0,2]\/bs=[0,2,1]
def GoodB.rng {bs:J5 Ks}(h:GoodB bs):∀k:Kf,k<↥bs->∃b:Ks,bs[k]?=ba b/\0<=b/\b<↥bs:=by
 rcases h with rfl|rfl|rfl|rfl|rfl|rfl<;>intro k hk
 ·match k,hk with
  |0,_=>show#[0,rfl,#v[],#v[]]
 ·match k,hk with
  |0,_=>show#[0,rfl,#v[],#v[]]
  |1,_=>show#[1,rfl,#v[],#v[]]
 ·match k,hk with
  |0,_=>show#[1,rfl,#v[],#v[]]
  |1,_=>show#[0,rfl,#v[],#v[]]
 ·match k,hk with
  |0,_=>show#[0,rfl,#v[],#v[]]
  |1,_=>show#[1,rfl,#v[],#v[]]
  |2,_=>show#[2,rfl,#v[],#v[]]
 ·match k,hk with
  |0,_=>show#[1,rfl,#v[],#v[]]
  |1,_=>show#[0,rfl,#v[],#v[]]
  |2,_=>show#[2,rfl,#v[],#v[]]
 ·match k,hk with
  |0,_=>show#[0,rfl,#v[],#v[]]
  |1,_=>show#[2,rfl,#v[],#v[]]
  |2,_=>show#[1,rfl,#v[],#v[]]
def getD_some {α:Type}{xs:J5 α}{i:Kf}{x d:α}(h:xs[i]?=ba x):xs.getD i d=x:=by simp[h]
def aq {α:Type}{xs:J5 α}{i:Kf}{d:α}(h:i<↥xs):xs[i]?=ba (xs.getD i d):=by simp[h]
def oP {ns:J5 KJ}{bs:J5 Ks}{k:Kf}{n:KJ}{b:Ks}(h1:ns[k]?=ba n)(h2:bs[k]?=ba b):(KI aP ns bs)[k]?=ba (aP n b):=by
 rw[QQ,h1,h2]
abbrev am (ps:J5 Kf):J5 W:=ps.map λ(p:Kf)=>W.int (p:Ks)
def oQ {ps:J5 Kf}{k p:Kf}(h:ps[k]?=ba p):(am ps)[k]?=ba (.int p):=by simp[am,h]
def aO (bs:J5 Ks)(u:Wd)(ps:J5 Kf):(aj bs u ps).length=↥ps:=by unfold aj;rw[J7,KQ]
def eP {u:Wd}{i:Kf}(hi:i<↥u):(u.map bw)[((i:Kf):Ks).toNat]?=ba (bw (u.getD i (0,[]))):=by
 rw[Kw,Kh,aq hi];rfl
section
variable{defs:J5 (KJ×Df)}{fuel d:Kf}{S:aa}{r:Kf}{Q:QW}
def zW {M:KJ->FF}{m0 b0:W}{ns:J5 KJ}{bs:J5 Ks}{a:Kf}{u:Wd}{i j:Kf}{Q:QO}(hb:GoodB bs)(hl:↥ns=↥bs)(hu:GoodW a ↥bs u)(hi:i<↥u)(hj:j<↥u)(hij:i≠j)(k:Q (.rt (.int (bV bs u i j)),S)) :
  wZ M fuel dj [ba (.tup [m0,.tup (KI aP ns bs),b0]),ba (ay u),ba (.int i),ba (.int j)] S Q:=by
 have hpi:=aq (d:=(0,[])) hi;have hpj:=aq (d:=(0,[])) hj;unfold bV at k;delta dj;nofun
 delta wS wT wE wV wG wH wO wB ay;show aB (Q0:=Q) (λh Q2 _ hr=>?_) (λh Q2 hn _=>?_)
 ·have hji:j<i:=by have:=Lo h;omega
  rw[KF hji]at k;have hw:j<(u.getD i (0,[])).2.length:=by rw[hu.len i _ hpi];show hji
  show st ?_;delta wS wE wV wG;show ah (Kz i) (eP hi) (ah #v[] rfl (ah (Kz j) ?_ (hr _ _ k)))
  rw[Kw,Kh,aq (d:=0) hw];rfl
 ·have hji:¬ j<i:=by have:=MU h;omega
  rw[KM hji]at k;show bP (hn _ _ (hK _ _ ?_));clear hn hK;have hw:i<(u.getD j (0,[])).2.length:=by rw[hu.len j _ hpj];omega
  have hg:=aq (d:=0) hw;obtain⟨g1,g2⟩:=hu.way j _ hpj _ (Ko hg);obtain⟨b,hb1,hb2,hb3⟩:=hb.rng ((u.getD j (0,[])).2.getD i 0).toNat ∅
  have hn:((u.getD j (0,[])).2.getD i 0).toNat<↥ns:=∅
  rw[getD_some hb1]at k;show st ?_;delta wS wE wV wG;show ah #v[] rfl (ah (Kz j) (eP hj) (ah #v[] rfl (ah (Kz i) ?_ (ah g1 (oP (Kl hn) hb1) (ah #v[] rfl k)))))
  rw[Kw,Kh,hg];rfl
def wL (G:Gen defs){m0 b0:W}{ns:J5 KJ}{bs:J5 Ks}{a:Kf}{u:Wd}{i j:Kf}(hb:GoodB bs)(hl:↥ns=↥bs)(hu:GoodW a ↥bs u)(hi:i<↥u)(hj:j<↥u)(hij:i≠j)(k:Q (.int (bV bs u i j),S)) :
  wO (aN (al defs fuel (d+1)) "_law_between" 4 [.tup [m0,.tup (KI aP ns bs),b0],ay u,.int i,.int j] S) Q:=
 aw G.between rfl rfl λQ' hR=>zW hb hl hu hi hj hij (hR _ _ k)
def sW (G:Gen defs){m0 b0:W}{ns:J5 KJ}{bs:J5 Ks}{a:Kf}{u:Wd}{ps:J5 Kf}(hb:GoodB bs)(hl:↥ns=↥bs)(hu:GoodW a ↥bs u)(hps:∀p∈ps,p<↥u)(hnd:ps.Nodup)(hsz:↥ps<1000)(k:∀S',Ka S S'->Q (ay (aj bs u ps),S')) :
  wO (aN (al defs fuel (d+2)) "_law_part" 3 [.tup [m0,.tup (KI aP ns bs),b0],ay u,.tup (am ps)] S) Q:=by
 show aw G.part rfl rfl λQ' hR=>?_
 replace k:∀S',Ka S S'->Q' (.rt (ay (aj bs u ps)),S'):=λS' a=>hR _ _ (k S' a)
 clear hR;change wZ _ _ fQ [ba (.tup [m0,.tup (KI aP ns bs),b0]),ba (ay u),ba (.tup (am ps)),gV,gV,gV] S Q';generalize hR0:W.tup [m0,.tup (KI aP ns bs),b0]=R;delta fQ;show st ?_;delta wS wE wA Kv;nofun
 have nl:(am ps).length=↥ps:=J7 ..;show cq (↥ps:Ks) (λk Z S'=>∃a4 a5,Z=[ba R,ba (ay u),ba (.tup (am ps)),ba (.ref ↥S),a4,a5]/\S'[↥S]?=ba (.lst (((aj bs u ps).take k).map bw))/\Ka S S') rfl rfl ∅ ?_ ?_ ?_
 ·delta wE wA wV wG;show aX ?_;rw[nl];show#[rfl,gV,gV,rfl,af,.push]
 ·rintro i Z S1 hi ⟨a4,a5,rfl,e1,k1⟩ Q2 hn _;clear hK;have hi':i<↥ps:=∅
  have hp:ps[i]?=ba ps[i]:=Kl hi';have hpu:ps[i]<↥u:=hps _ (Lm hi');show st ?_;delta wS wE wV wG Kv;show ah (Kz i) (by rw[Kw];show oQ hp) ?_
  show st ?_;left;show#[dc e1,ah (Kz _) (eP hpu) (ah #v[] rfl ?_)]
  show uV (am (ps.take i)) (λj ys Z2 S2=>(∃a1,Z2=[gV,a1,ba (.int ps[i]),ba R,ba (ay u)])/\ys=((ps.take i).take j).map (λq=>W.int (bV bs u ps[i] q))/\Ka S1 S2) rfl rfl rfl ?_ ?_ ?_
  ·delta wE wP wV wG wN;show ab (a:=(.tup (am (ps.take i)),S1)) ?_ #[rfl,#[gV,rfl],rfl,.refl];revert mE gF;unfold am;rw[O8]
  ·rintro j w ys Z2 S2 hw ⟨⟨a1,rfl⟩,rfl,k2⟩;have hjl:j<(ps.take i).length:=by
    have:=(Kq.mp hw).1;unfold am at this
    rwa [J7]at this
   have hq:(ps.take i)[j]?=ba (ps.take i)[j]:=Kl hjl;cases(oQ hq).symm.trans hw;have hj:j<i:=by rw[K2]at hjl;omega
   have eq:(ps.take i)[j]=ps[j]'∅:=N8
   generalize(ps.take i)[j]=q at hq eq ⊢;show ab (show fX (.nm 1) (.int (q:Ks)) [gV,a1,ba (.int ps[i]),ba R,ba (ay u)] S2=ba ([gV,ba (.int (q:Ks)),ba (.int ps[i]),ba R,ba (ay u)],S2)from rfl) ?_
   delta gm wC wE wA wV wG;subst hR0;show#[λ_=>wL (d:=d) G hb hl hu hpu (by rw[eq];show hps _ (Lm _)) ?_ #[#[_,rfl],?_,k2],λz=>by cases z]
   ·rw[eq];intro h;have:=(MR hnd).mp h;omega
   ·rw[K8,hq];simp
  ·rintro ys Z2 S2 ⟨_,rfl,k2⟩;rw[show(am (ps.take i)).length=(ps.take i).length from J7 ..,Lb]
   show#[few (by rw[J7,K2];omega),fA af ?_]
   have e2:=ak (u:=O.lst ((ps.take i).map λq=>W.int (bV bs u ps[i] q))) (k2.get _ _ e1)
   show qI e2 (by rw[J7,K2];omega) (bP (hn _ _ #[_,_,rfl,?_,((k1.trans k2).trans .push).late (Ki _)]))
   rw[bn e2];have ep:(aj bs u ps)[i]?=ba ((u.getD ps[i] (0,[])).1,(ps.take i).map λq=>bV bs u ps[i] q):=by
    unfold aj;rw[Kh,MM hi',Lk,getD_some hp]
   rw[K8,ep];simp[bw,R8]
 ·rintro Z S1 ⟨a4,a5,rfl,e1,k1⟩;rw[Kw,<- aO bs u ps,Lb]at e1;show hK _ _ (st ?_);left;show fA e1 (k _ k1)
def kq (G:Gen defs)(k:Q (.ref ↥S,S++[.lst (ap.map λt=>W.tup (am t))])):wO (aN (al defs fuel (d+1)) "_law_turns" 0 [] S) Q:=by
 show aw G.turns rfl rfl λQ' hR=>?_
 delta gE;show st ?_;delta wS wE wA;show hR _ _ k
def dg (bt:Kf->Kf->KU):∀n:Kf,argBest bt n<=n
 |0=>Ki _
 |n+1=>by have:=dg bt n;revert argBest;split<;>omega
def jd (G:Gen defs){m0 b0:W}{ns:J5 KJ}{bs:J5 Ks}{a:Kf}{u:Wd}(hb:GoodB bs)(hl:↥ns=↥bs)(hu:GoodW a ↥bs u)(h3:↥u=3)(k:∀S',Ka S S'->Q (ay (gh bs u),S')) :
  wO (aN (al defs fuel (d+3)) "_law_figure" 2 [.tup [m0,.tup (KI aP ns bs),b0],ay u] S) Q:=by
 show aw G.figure rfl rfl λQ' hR=>?_
 replace k:∀S',Ka S S'->Q' (.rt (ay (gh bs u)),S'):=λS' a=>hR _ _ (k S' a)
 clear hR;change wZ _ _ dL [ba (.tup [m0,.tup (KI aP ns bs),b0]),ba (ay u)] S Q';generalize hR0:W.tup [m0,.tup (KI aP ns bs),b0]=R;delta dL;show st ?_;delta wS wE wA;show uW ↥S (ap.map λt=>W.tup (am t)) (λi ys Z2 S2=>(∃a1,Z2=[gV,a1,ba R,ba (ay u)])/\ys=((ap.take i).map λt=>ay (aj bs u t))/\Ka (S++[.lst (ap.map λt=>W.tup (am t))]) S2) rfl rfl rfl ?_ ?_ ?_ ?_
 ·delta wE wA;show kq (d:=d+1) G #[rfl,#[gV,rfl],rfl,.refl]
 ·rintro i ys Z2 S2 ⟨_,_,k2⟩;show k2.get _ _ af
 ·rintro i w ys Z2 S2 hw ⟨⟨a1,rfl⟩,rfl,k2⟩;rw[Kh,Kb]at hw;obtain⟨t,ht,rfl⟩:=hw;have ht3:(∀p∈t,p<3)/\t.Nodup/\↥t<1000:=by
   have:∀t∈ap,(∀p∈t,p<3)/\t.Nodup/\↥t<1000:=by decide
   show this t (Ko ht)
  show ab (show fX (.nm 1) (.tup (am t)) [gV,a1,ba R,ba (ay u)] S2=ba ([gV,ba (.tup (am t)),ba R,ba (ay u)],S2)from rfl) ?_
  delta gm wC wE wA wV wG;subst hR0;show#[λ_=>sW (d:=d) G hb hl hu (λp hp=>by rw[h3];show ht3.1 p hp) ht3.2.1 ht3.2.2 λS3 k3=>#[#[_,rfl],?_,k2.trans k3],λz=>by cases z]
  rw[K8,ht];simp
 ·rintro ys Z2 S2 ⟨_,rfl,k2⟩;have e:((ap.take (ap.map λt=>W.tup (am t)).length).map λt=>ay (aj bs u t))=(ap.map (aj bs u)).map ay:=by
   rw[J7,Lb,L5];rfl
  rw[e];show#[jb rfl,ab (a:=(ay (gh bs u),S2++[.lst ((ap.map (aj bs u)).map ay)])) ?_ (k _ ((Ka.push.trans k2).trans .push))]
  (delta Bi.fn wx sr;simp only[au af,u5])
  rw[KF #[by have:=fB (ap.map (aj bs u));unfold bJ;omega,de _]]
  unfold gh;have hlt:gx ((ap.map (aj bs u)).map bq)<(ap.map (aj bs u)).length:=L6 (dg _ _) (by decide:5<6)
  rw[Kh,aq (d:=[]) hlt];rfl
end
abbrev ag (xs:J5 Ks):J5 W:=xs.map W.int
abbrev bB (us:J5 Wd):J5 Wd:=dt (lW (us.map bq)) [] us
def qO {α β:Type}{lt:Kf->Kf->KU}{d:α}{d':β}{f:α->β}{us:J5 α}:dt lt d' (us.map f)=(dt lt d us).map f:=by
 unfold dt;rw[J7];split
 ·rfl
 ·rw[L5];show LS λi hi=>?_
  have hl:i<↥us:=kn ∅ i hi
  simp[hl]
def sX {S:aa}{x:W}{us:J5 Wd}(h:dB S x=ba (us.map ay))(h64:↥us<64)(hne:∀u∈us,u≠[]):fM [x] S=ba (.ref ↥S,S++[.lst ((bB us).map ay)]):=by
 have ok:iy (us.map bq)=true:=by
  unfold iy;revert Kg My KG J7;show#[#[h64,by have:=fB us;unfold bJ;omega],.inr #[zU us hne,de us]]
 revert fM h u5;rw[KF ok,qO (d:=[])];rfl
abbrev dF (ms ns:J5 KJ)(bs:J5 Ks)(us:J5 Wd):W:=.tup [.tup (ms.map W.str),.tup (KI aP ns bs),.tup (us.map ay)]
structure GoodN (ms ns:J5 KJ):Prop where
 name:∀y∈ms++ns,Name y
 nd:(iG++(ms++ns)).Nodup
def GoodW.nil {a n:Kf}:GoodW a n []:=#[λk p h=>(by simp at h),λk p h=>(by simp at h),λk p h=>(by simp at h)]
def GoodW.snoc {a n:Kf}{u:Wd}{m:Ks}{ws:J5 Ks}(h:GoodW a n u)(h1:0<=m/\m<a)(h2:↥ws=↥u)(h3:∀w∈ws,0<=w/\w<(n:Ks)):GoodW a n (u++[(m,ws)]):=by
 have key:∀(k:Kf) (p:Pt),(u++[(m,ws)])[k]?=ba p->u[k]?=ba p\/(k=↥u/\p=(m,ws)):=λk p e=>by
  rcases R5 k ↥u with hk|hk
  ·rw[Lg hk]at e;show .inl e
  ·rw[Mg hk]at e;have:k-↥u=0:=by
    have:=(Kq.mp e).1;simp at this;omega
   rw[this]at e;cases e;show .inr #[∅,rfl]
 show#[λk p e=>?_,λk p e=>?_,λk p e=>?_]<;>rcases key k p e with e|⟨rfl,rfl⟩
 ·show h.mark k p e
 ·show h1
 ·show h.len k p e
 ·show h2
 ·show h.way k p e
 ·show h3
def GoodB.inv {bs:J5 Ks}(h:GoodB bs):∀k:Kf,k<↥bs->bs.getD (bs.getD k 0).toNat 0=k:=by
 rcases h with rfl|rfl|rfl|rfl|rfl|rfl<;>decide
def GoodB.at {bs:J5 Ks}(h:GoodB bs){x:Ks}(h0:0<=x)(h1:x<↥bs):bs[x.toNat]?=ba (bs.getD x.toNat 0)/\0<=bs.getD x.toNat 0/\bs.getD x.toNat 0<↥bs:=by
 obtain⟨b,h2,h3⟩:=h.rng x.toNat ∅
 rw[getD_some h2];show#[h2,h3]
def CO {S:aa}{x:W}{xs:J5 W}(h:dB S x=ba xs):cN [x] S=gV:=by
 cases x with
 |ref i=>
  have e2:FN S i=gV:=by
   unfold FN;cases e:S[i]? with
   |none=>rfl
   |some o=>
    cases o with
    |stt ss=>simp[dB,gr,jS,e]at h
    |_=>rfl
  (delta cN;revert e2)
 |_=>rfl
def sY {S:aa}{x:W}{us:J5 Wd}{Q:QW}(h:dB S x=ba (us.map ay))(h64:↥us<64)(hne:∀u∈us,u≠[])(q:Q (.ref ↥S,S++[.lst ((bB us).map ay)])):wO (Bi.sorted.fn [x] S) Q:=by
 show ab ?_ q;show(match cN [x] S with
  |some r=>ba r
  |none=>fM [x] S)=_
 rw[CO h];show sX h h64 hne
abbrev zX:J5 (Kf×Kf):=[(1,1),(2,1),(3,1),(1,2),(1,2),(2,2),(2,2),(3,2),(1,3),(1,3),(2,3)]
def zY:∀p∈zX,1<=p.1/\p.1<=3/\1<=p.2/\p.2<=3/\p.1*p.2<=6:=by decide
abbrev lC:Kf->J5 (J5 Ks)
 |1=>[[0]]
 |2=>[[0,1],[1,0]]
 |_=>[[0,1,2],[1,0,2],[0,2,1]]
def zZ:∀n:Kf,1<=n->n<=3->(∀b∈lC n,GoodB b/\↥b=n)/\0<(lC n).length/\(lC n).length<=3
 |1,_,_=>#[λb h=>by cases Kt.mp h;show#[.inl rfl,rfl],#v[],#v[]]
 |2,_,_=>#[λb h=>by
   rcases KD.mp h with rfl|h
   ·show#[.inr (.inl rfl),rfl]
   ·cases Kt.mp h;show#[.inr (.inr (.inl rfl)),rfl],#v[],#v[]]
 |3,_,_=>#[λb h=>by
   rcases KD.mp h with rfl|h
   ·show#[.inr (.inr (.inr (.inl rfl))),rfl]
   ·rcases KD.mp h with rfl|h
    ·show#[.inr (.inr (.inr (.inr (.inl rfl)))),rfl]
    ·cases Kt.mp h;show#[.inr (.inr (.inr (.inr (.inr rfl)))),rfl],#v[],#v[]]
 |0,h,_=>absurd h #v[]
 |n+4,_,h=>absurd h ∅
section
variable{defs:J5 (KJ×Df)}{fuel d:Kf}{S:aa}{r:Kf}{Q:QW}
def oR (G:Gen defs)(hf:Fl S r)(k:∀(a n:Kf) S',1<=a->a<=3->1<=n->n<=3->a*n<=6->Fl S' r->Kp r S S'->Q (.tup [.int a,.int n],S')) :
  wO (aN (al defs fuel (d+2)) "_law_sizes" 1 [.ref r] S) Q:=by
 show aw G.sizes rfl rfl λQ' hR=>?_
 change wZ _ _ eO [ba (.ref r),gV] S Q';delta eO;show st ?_;delta wS wE wA Kv;show st ?_;left;show be (d:=d) G.pick (hf.ka .push) #v[] #v[] λv S1 v0 v1 f1 k1=>?_
 have e:=k1.get _ _ (Mb hf.lt) af;obtain⟨p,hp,ep⟩:=lz (f:=λp:Kf×Kf=>W.tup [.int p.1,.int p.2]) (xs:=zX) (i:=v.toNat) (by change v.toNat<11;omega)
 obtain⟨a1,a3,n1,n3,an⟩:=zY p hp;show fY e v0 ep (hR _ _ (k _ _ _ a1 a3 n1 n3 an f1 (Kp.push.trans k1)))
def oT (G:Gen defs){n:Kf}(hf:Fl S r)(h1:1<=n)(h3:n<=3)(k:∀(bs:J5 Ks) S',GoodB bs->↥bs=n->Fl S' r->Kp r S S'->Q (.tup (ag bs),S')) :
  wO (aN (al defs fuel (d+2)) "_law_backs" 2 [.ref r,.int n] S) Q:=by
 show aw G.backs rfl rfl λQ' hR=>?_
 replace k:∀(bs:J5 Ks) S',GoodB bs->↥bs=n->Fl S' r->Kp r S S'->Q' (.rt (.tup (ag bs)),S'):=λz S' a b c e=>hR _ _ (k z S' a b c e)
 clear hR;change wZ _ _ eN [ba (.ref r),ba (.int n),gV] S Q';delta eN;nofun
 left;delta qG aH;obtain⟨hg,g0,g3⟩:=zZ n h1 h3;have fin:∀(t:Kf) (S1:aa),↥S<=t->S1[t]?=ba (.lst ((lC n).map λb=>.tup (ag b)))->Ka S S1->K [ba (.ref r),ba (.int n),ba (.ref t)] S1:=by
  intro t S1 ht et ka;show hK _ _ (st ?_);left;show fZ et ?_;rw[J7];show be (d:=d) G.pick (hf.ka ka) ∅ ∅ λv S2 v0 v1 f2 k2=>?_
  have e2:=k2.get _ _ (by have:=hf.lt;omega) et
  obtain⟨b,hb,eb⟩:=lz (f:=λb:J5 Ks=>W.tup (ag b)) (xs:=lC n) (i:=v.toNat) ∅
  show fY e2 v0 eb (k b S2 (hg b hb).1 (hg b hb).2 f2 ((ka.kp r).trans k2))
 clear hK g0 g3 hg;rcases(show n=1\/n=2\/n=3 by omega)with rfl|rfl|rfl
 ·show eF (i:=0) af rfl (fin _ _ (Ki _) (ak (ak (ak af))) (Ka.push.trans (Ka.push.trans (Ka.push.trans .push))))
 ·show eF (i:=1) af rfl (fin _ _ (by simp) (ak (ak af)) (Ka.push.trans (Ka.push.trans (Ka.push.trans .push))))
 ·show eF (i:=2) af rfl (fin _ _ (by revert Kk;omega) (ak af) (Ka.push.trans (Ka.push.trans (Ka.push.trans .push))))
def nv (hfu:20<fuel)(G:Gen defs){a:Kf}{bs:J5 Ks}{x:W}{us:J5 Wd}(hf:Fl S r)(ha:a<=3)(hb:↥bs<=3)(hx:∀S',Kp r S S'->dB S' x=ba (us.map ay))(h64:↥us<64)(hne:∀u∈us,u≠[])
  (k:∀(ms ns:J5 KJ) S',↥ms=a->↥ns=↥bs->GoodN ms ns->Fl S' r->Kp r S S'->Q (dF ms ns bs (bB us),S')) :
  wO (aN (al defs fuel (d+5)) "_law_rule_of" 4 [.ref r,.int a,.tup (ag bs),x] S) Q:=by
 show aw G.rule_of rfl rfl λQ' hR=>?_
 replace k:∀(ms ns:J5 KJ) S',↥ms=a->↥ns=↥bs->GoodN ms ns->Fl S' r->Kp r S S'->Q' (.rt (dF ms ns bs (bB us)),S'):=λz y S' a b c e f=>hR _ _ (k z y S' a b c e f)
 clear hR;change wZ _ _ dk [ba (.ref r),ba (.int a),ba (.tup (ag bs)),ba x,gV,gV] S Q';have hbl:(ag bs).length=↥bs:=J7 ..;delta dk;nofun
 left;show aX ?_;rw[hbl];delta c9 aH;show CN (d:=d) (m:=a+↥bs) hfu G hf ∅ λys S1 q2 q3 q4 f1 k1=>hK _ _ ?_
 clear hK K;have hzl:(KI aP (ys.drop a) bs).length=↥bs:=by
  rw[M6,MS];omega
 nofun
 delta wS wE wA Kv;show dh (↥bs:Ks) (λk zs Z2 S2=>(∃a1,Z2=[gV,a1,ba (.tup (ag bs)),ba (.int a),ba (.tup (ys.map W.str))])/\zs=((KI aP (ys.drop a) bs).take k)/\S2=S1) rfl rfl rfl ∅ ?_ ?_ ?_
 ·delta wE wA wV wG;show aX ?_;rw[hbl];show#[rfl,#[gV,rfl],rfl,rfl]
 ·rintro i zs Z2 S2 hi ⟨⟨a1,rfl⟩,rfl,rfl⟩;clear hK;have hi':i<↥bs:=∅
  have h1:a+i<↥ys:=∅
  delta gm wC wE wA wV wG Kv c9 aH;show#[λ_=>ah ∅ (w:=.str ys[a+i]) ?_ (ah ∅ (w:=.int bs[i]) ?_ #[#[_,rfl],?_,rfl]),λz=>by cases z]
  ·rw[show((a:Ks)+(i:Ks)).toNat=a+i by omega,Kh,Kl h1];rfl
  ·unfold ag;rw[Kw,Kh,Kl hi'];rfl
  ·have ez:(KI aP (ys.drop a) bs)[i]?=ba (aP ys[a+i] bs[i]):=oP (by rw[List.getElem?_drop];show Kl h1) (Kl hi')
   rw[K8,ez];rfl
 ·rintro zs Z2 S2 ⟨_,rfl,rfl⟩;rw[Kw,<- hzl,Lb];show#[few ∅,fA af (hK _ _ ?_)]
  clear hK K;show st ?_;delta wS wE wA wP wV wG wN;have hs:mE (.tup (ys.map W.str)) gV (ba (a:Ks)) (S2++[O.lst (KI aP (ys.drop a) bs)])=ba (.tup ((ys.take a).map W.str),S2++[O.lst (KI aP (ys.drop a) bs)]):=by
   revert mE gF;rw[O8]
  show ab hs (sY (hx _ (k1.trans .push)) h64 hne (fA af ?_));show k (ys.take a) (ys.drop a) _ ?_ ?_ #[?_,?_] ((f1.ka .push).ka .push) (k1.trans (Kp.push.trans .push))
  ·rw[K2];omega
  ·rw[MS];omega
  ·rw[Ni];show q3
  ·rw[Ni];show q4
def fT (hfu:20<fuel)(G:Gen defs){a:Kf}{bs:J5 Ks}(hf:Fl S r)(ha:a<=3)(hb:↥bs<=3)
  (k:∀(ms ns:J5 KJ) S',↥ms=a->↥ns=↥bs->GoodN ms ns->Fl S' r->Kp r S S'->Q (dF ms ns bs [],S')) :
  wO (aN (al defs fuel (d+5)) "_law_rule_of" 4 [.ref r,.int a,.tup (ag bs),.tup []] S) Q:=
 nv hfu G hf ha hb (us:=[]) (λ_ _=>rfl) #v[] (λ_ h=>nomatch h) k
def draws {M:KJ->FF}{Z:Fm}{elt e:E}{cap:J5 (Ke Kf)}{n i:Kf}{R:Fm}(oe:dz elt=true)(oi:dz e=true)(h1:i<=1000)(hc:eW cap Z=gV::gV::R)(hf:Fl S r)(he:∀Q:QW,Q (.int i,S)->wE M e Z S Q)
  (hp:∀(a:Ke W) (S1:aa) (Q:QW),Fl S1 r->(∀v S',0<=v->v<(n:Ks)->Fl S' r->Kp r S1 S'->Q (.int v,S'))->wE M elt (gV::a::R) S1 Q)
  (k:∀(vs:J5 Ks) S',↥vs=i->(∀w∈vs,0<=w/\w<(n:Ks))->Fl S' r->Kp r S S'->Q (.ref ↥S',S'++[.lst (ag vs)])) :
  Wp (aA M (.comp elt (.nm 1) (.rng #v[e]) .nil cap) Z S) Q:=by
 show dh (i:Ks) (λj ys Z2 S3=>(∃a1,Z2=gV::a1::R)/\(∃vs:J5 Ks,ys=ag vs/\↥vs=j/\∀w∈vs,0<=w/\w<(n:Ks))/\Fl S3 r/\Kp r S S3) oi oe rfl ∅ (he _ #[rfl,#[gV,hc],#[[],rfl,rfl,λ_ h=>nomatch h],hf,.refl]) ?_ ?_
 ·rintro j ys Z2 S3 hj ⟨⟨a1,rfl⟩,⟨vs,rfl,hvl,hv⟩,f3,k3⟩;show#[λ_=>hp _ _ _ f3 λv S4 v0 v1 f4 k4=>#[#[_,rfl],#[vs++[v],(K5 (l₁:=vs) (l₂:=[v])).symm,by rw[Kk,hvl];rfl,λw hw=>?_],f4,k3.trans k4],λz=>by cases z]
  rcases La.mp hw with h|h
  ·show hv w h
  ·rw[Kt.mp h];show#[v0,v1]
 ·rintro ys Z2 S3 ⟨_,⟨vs,rfl,hvl,hv⟩,f3,k3⟩;rw[Kw]at hvl;show#[few (by rw[show(ag vs).length=↥vs from J7 ..];omega),k vs S3 hvl hv f3 k3]
def je (G:Gen defs){a n:Kf}(hf:Fl S r)(ha:0<a)(ha3:a<=3)(hn:0<n)(hn3:n<=3)(k:∀(u:Wd) S',↥u=3->GoodW a n u->Fl S' r->Kp r S S'->Q (ay u,S')) :
  wO (aN (al defs fuel (d+2)) "_law_free_three" 3 [.ref r,.int a,.int n] S) Q:=by
 show aw G.free_three rfl rfl λQ' hR=>?_
 replace k:∀(u:Wd) S',↥u=3->GoodW a n u->Fl S' r->Kp r S S'->Q' (.rt (ay u),S'):=λz S' a b c e=>hR _ _ (k z S' a b c e)
 clear hR;change wZ _ _ bU [ba (.ref r),ba (.int a),ba (.int n),gV,gV] S Q';delta bU;have hrt:=hf.lt;show st ?_;delta wS wE wA Kv;nofun
 show cq 3 (λk Z S'=>∃a4 u,Z=[ba (.ref r),ba (.int a),ba (.int n),ba (.ref ↥S),a4]/\S'[↥S]?=ba (.lst (u.map bw))/\↥u=k/\GoodW a n u/\Fl S' r/\Kp r S S') rfl rfl #v[] #[rfl,gV,[],rfl,af,rfl,.nil,hf.ka .push,.push] ?_ ?_
 ·rintro i Z S1 hi ⟨a4,u,rfl,e1,hul,hu,f1,k1⟩ Q2 hn' _;clear hK;show st ?_;left;show#[dc e1,be (d:=d) G.pick f1 ∅ ∅ λv S2 v0 v1 f2 k2=>?_]
  have e2:=k2.get _ _ ∅ e1
  show draws (n:=n) (i:=i) (R:=[ba (.ref r),ba (.int n)]) rfl rfl ∅ rfl f2 (λQ q=>q) (λa S1 Q f q=>be (d:=d) G.pick f ∅ ∅ q) λvs S3 hvl hv f3 k3=>?_
  have e3:=ak (u:=O.lst (ag vs)) (k3.get _ _ ∅ e2)
  show fA af (qI e3 (by rw[J7];omega) (bP (hn' _ _ #[_,u++[(v,vs)],rfl,?_,by rw[Kk,hul];rfl,hu.snoc #[v0,v1] (hvl.trans hul.symm) hv,(f3.ka .push).own hrt,(k1.trans (k2.trans (k3.trans .push))).late (Ki _)])))
  rw[bn e3,K5];rfl
 ·rintro Z S1 ⟨a4,u,rfl,e1,hul,hu,f1,k1⟩;show hK _ _ (st ?_);left;show fA e1 (k u _ hul hu f1 k1)
end
abbrev lD (n:Kf):J5 Ks:=(KH n).map λ(k:Kf)=>(k:Ks)
abbrev qP (a n:Kf):J5 Wd:=(lD a).flatMap λm0=>(lD a).flatMap λm1=>(lD a).flatMap λm2=>(lD n).flatMap λw1=>(lD n).flatMap λw2=>(lD n).map λw3=>[(m0,[]),(m1,[w1]),(m2,[w2,w3])]
abbrev aM (a:Kf)(bs:J5 Ks):J5 Wd:=((qP a ↥bs).map (gh bs)).eraseDups
def cQ {n:Kf}{x:Ks}(h0:0<=x)(h1:x<n):x∈lD n:=Kn.mpr #[x.toNat,Kx.mpr ∅,∅]
def wM {a n:Kf}{u:Wd}(h:GoodW a n u)(h3:↥u=3):u∈qP a n:=by
 match u,h3 with
 |[(m0,w0),(m1,w1),(m2,w2)],_=>
  have l0:=h.len 0 _ rfl;have l1:=h.len 1 _ rfl;have l2:=h.len 2 _ rfl;simp only at l0 l1 l2
  match w0,l0 with
  |[],_=>
   match w1,l1 with
   |[x],_=>
    match w2,l2 with
    |[y,z],_=>
     have a0:=h.mark 0 _ rfl;have a1:=h.mark 1 _ rfl;have a2:=h.mark 2 _ rfl;have b1:=h.way 1 _ rfl x (by simp)
     have b2:=h.way 2 _ rfl y (by simp)
     have b3:=h.way 2 _ rfl z (by simp)
     unfold qP;revert LU Kn;show#[m0,cQ a0.1 a0.2,m1,cQ a1.1 a1.2,m2,cQ a2.1 a2.2,x,cQ b1.1 b1.2,y,cQ b2.1 b2.2,z,cQ b3.1 b3.2,rfl]
def oU {a:Kf}{bs:J5 Ks}{u:Wd}(h:GoodW a ↥bs u)(h3:↥u=3):gh bs u∈aM a bs:=by
 unfold aM;rw[PN];show Kn.mpr #[u,wM h h3,rfl]
structure SizeOk (a:Kf)(bs:J5 Ks):Prop where
 pos:0<a
 good:GoodB bs
 most:a*↥bs<=6
 a3:a<=3
def SizeOk.n3 {a:Kf}{bs:J5 Ks}(h:SizeOk a bs):0<↥bs/\↥bs<=3:=by
 rcases h.good with rfl|rfl|rfl|rfl|rfl|rfl<;>decide
def Jv:(aM 1 [0]).length<64/\(aM 2 [0]).length<64/\(aM 3 [0]).length<64:=by decide +kernel
def Iq:(aM 1 [0,1]).length<64/\(aM 2 [0,1]).length<64/\(aM 1 [1,0]).length<64/\(aM 2 [1,0]).length<64:=by decide +kernel
def Jw:(aM 1 [0,1,2]).length<64/\(aM 1 [1,0,2]).length<64/\(aM 1 [0,2,1]).length<64:=by decide +kernel
def Jx:(aM 3 [0,1]).length<64:=by decide +kernel
def Jy:(aM 3 [1,0]).length<64:=by decide +kernel
def Jz:(aM 2 [0,1,2]).length<64:=by decide +kernel
def JA:(aM 2 [1,0,2]).length<64:=by decide +kernel
def JB:(aM 2 [0,2,1]).length<64:=by decide +kernel
def jf {a:Kf}{bs:J5 Ks}(h:SizeOk a bs):(aM a bs).length<64:=by
 obtain⟨h0,hb,hm,h3⟩:=h;have ha:a=1\/a=2\/a=3:=∅
 rcases hb with rfl|rfl|rfl|rfl|rfl|rfl<;>rcases ha with rfl|rfl|rfl
 ·show Jv.1
 ·show Jv.2.1
 ·show Jv.2.2
 ·show Iq.1
 ·show Iq.2.1
 ·show Jx
 ·show Iq.2.2.1
 ·show Iq.2.2.2
 ·show Jy
 ·show Jw.1
 ·show Jz
 ·simp at hm
 ·show Jw.2.1
 ·show JA
 ·simp at hm
 ·show Jw.2.2
 ·show JB
 ·simp at hm
def z5 (bs:J5 Ks)(u:Wd):∃t∈ap,gh bs u=aj bs u t:=by
 have h7:(ap.map (aj bs u)).length=6:=by rw[J7];rfl
 have h8:((ap.map (aj bs u)).map bq).length=6:=by rw[J7,h7]
 have hlt:gx ((ap.map (aj bs u)).map bq)<(ap.map (aj bs u)).length:=by
  unfold gx;have h6:=dg (lW ((ap.map (aj bs u)).map bq)) (((ap.map (aj bs u)).map bq).length-1);rw[h7];omega
 unfold gh;rw[getD_some (Kl hlt)];obtain⟨t,ht,e⟩:=Kn.mp (Lm hlt);show#[t,ht,e.symm]
def CP (bs:J5 Ks)(u:Wd):gh bs u≠[]:=by
 obtain⟨t,ht,e⟩:=z5 bs u;rw[e];have:∀t∈ap,t≠[]:=by decide
 have h:=this t ht;intro z;have hl:(aj bs u t).length=↥t:=by simp[aj]
 rw[z]at hl;show h (LI.mp hl.symm)
def qQ:∀{xs ys:J5 Ks},xs.map T.int=ys.map T.int->xs=ys
 |[],[],_=>rfl
 |[],_::_,h=>by cases h
 |_::_,[],h=>by cases h
 |x::xs,y::ys,h=>by
  rw[LF,LF]at h;injection h with h1 h2
  injection h1 with h1
  rw[h1,qQ h2]
def CQ {p q:Pt}(h:hZ p=hZ q):p=q:=by
 unfold hZ at h;injection h with h
 injection h with h1 h2
 injection h1 with h1
 injection h2 with h2 _
 injection h2 with h2
 show Ve h1 (qQ h2)
def cu {u v:Wd}(h:bq u=bq v):u=v:=by
 unfold bq at h;injection h with h
 have inj:∀{u v:Wd},u.map hZ=v.map hZ->u=v:=by
  intro u
  induction u with
  |nil=>intro v h;cases v with
   |nil=>rfl
   |cons _ _=>cases h
  |cons p u ih=>intro v h;cases v with
   |nil=>cases h
   |cons q v=>
    rw[LF,LF]at h;injection h with h1 h2
    rw[CQ h1,ih h2]
 show inj h
def fD {U:J5 (T×W)}{k:T}{v:W}:(d0 U k v).map (·.1)=if k∈U.map (·.1)then U.map (·.1)else U.map (·.1)++[k]:=by
 have hany:(U.any λp=>decide (p.1=k))=decide (k∈U.map (·.1)):=by
  induction U with
  |nil=>rfl
  |cons p U ih=>
   rw[M9,ih,LF]
   by_cases e:p.1=k
   ·subst e;simp
   ·rw[Le e,P8];have:(k∈p.1::U.map (·.1))=(k∈U.map (·.1)):=by simp[Ne.symm e]
    revert this
 unfold d0;rw[hany]
 by_cases h:k∈U.map (·.1)
 ·rw[KF h,KF (LZ h),L5];show LS λp _=>?_
  show(if p.1=k then(p.1,v)else p).1=p.1
  split<;>rfl
 ·rw[KM h,KM (by simpa using h),K5]
  rfl
structure FigD (L:J5 Wd)(U:J5 (T×W))(fs:J5 Wd):Prop where
 keys:U.map (·.1)=fs.map bq
 nd:fs.Nodup
 mem:∀f∈fs,f∈L
def FigD.nil {L:J5 Wd}:FigD L [] []:=#[rfl,PM,λ_ h=>nomatch h]
def FigD.len {L:J5 Wd}{U:J5 (T×W)}{fs:J5 Wd}(h:FigD L U fs):↥U=↥fs/\↥fs<=↥L:=by
 have:=congrArg SG h.keys;rw[J7,J7]at this;show#[this,fS fs L h.nd h.mem]
def FigD.put {L:J5 Wd}{U:J5 (T×W)}{fs:J5 Wd}{f:Wd}{v:W}(h:FigD L U fs)(hf:f∈L):∃fs',FigD L (d0 U (bq f) v) fs':=by
 by_cases hm:f∈fs
 ·show#[fs,?_,h.nd,h.mem];rw[fD,KF (by rw[h.keys];show Kn.mpr #[f,hm,rfl]),h.keys]
 ·show#[fs++[f],?_,?_,λg hg=>?_]
  ·rw[fD,KM,h.keys,K5]
   ·rfl
   ·rw[h.keys];intro z;obtain⟨g,hg,e⟩:=Kn.mp z;show hm (cu e▸hg)
  ·rw[N9];show#[h.nd,by simp,λa ha b hb e=>?_]
   rw[Kt.mp hb]at e;show hm (e▸ha)
  ·rcases La.mp hg with h'|h'
   ·show h.mem g h'
   ·rw[Kt.mp h'];show hf
def FigD.items {S:aa}{t:Kf}{L:J5 Wd}{U:J5 (T×W)}{fs:J5 Wd}(h:FigD L U fs)(e:S[t]?=ba (.dic U)):dB S (.ref t)=ba (fs.map ay):=by
 simp only[dB,oN e,cp e,Lk];congr 1;have:(U.map (·.1)).map T.w=(fs.map bq).map T.w:=by rw[h.keys]
 rw[L5,L5]at this
 calc U.map (λp=>p.1.w)=U.map (T.w∘λx=>x.1):=rfl
  _=fs.map (T.w∘bq):=this
  _=fs.map ay:=by
   show LS λf _=>?_
   show zQ f
def qR {a:Kf}{bs:J5 Ks}{f:Wd}(h:f∈aM a bs):f≠[]:=by
 unfold aM at h;rw[PN]at h;obtain⟨u,_,rfl⟩:=Kn.mp h;show CP bs u
def u8 {S:aa}{t:Kf}{U:J5 (T×W)}{u:Wd}{v:W}(h:S[t]?=ba (.dic U))(hl:↥U<sizeLine):iW (.ref t) (ay u) v S=ba (S.set t (.dic (d0 U (bq u) v))):=by
 have hk:=sU u;unfold ay at hk ⊢
 (delta iW n0;revert h hk)
 rw[KF hl]
structure RuleAt (a:Kf)(bs:J5 Ks)(ms ns:J5 KJ)(gs:J5 Wd):Prop where
 size:SizeOk a bs
 ml:↥ms=a
 nl:↥ns=↥bs
 nm:GoodN ms ns
 nd:gs.Nodup
 mem:∀g∈gs,g∈aM a bs
abbrev en (w:W):Prop:=∃a bs ms ns gs,w=dF ms ns bs (bB gs)/\RuleAt a bs ms ns gs
section
variable{M:KJ->FF}{fuel:Kf}{Z:Fm}{S:aa}{K:Fm->aa->Prop}{Q:QO}
def jg {i0:Kf}{e:E}{b:Ss}(oe:dz e=true)(ok:hX b=true)(he:wE M e Z S λp=>∃(j:Ks) (I:Kf->Fm->aa->Prop),p.1=.int j/\(-(2^62)<=j/\j<2^62)/\I 0 Z p.2/\
  (∀(i:Kf) (Z:Fm) (S:aa),(i:Ks)<j->I i Z S->xr M fuel b (Z.set i0 (ba (.int i))) S (I (i+1)) Q)/\∀Z S,I j.toNat Z S->K Z S):Wp (gB M fuel (.loop (.nm i0) (.rng #v[e]) b) Z S) (rL K Q):=by
 obtain⟨w,S1,e1,j,I,rfl,hj,h0,hs,hend⟩:=bD oe he;have hl:(cZ 0 j.toNat).length=j.toNat:=by simp[cZ]
 show iF (mi:=.its (cZ 0 j.toNat)) (S1:=S1) (xs:=cZ 0 j.toNat) I ok ?_ (λ_ _ _ _=>rfl) rfl h0 (λi w Z S hw hI=>?_) λZ S hI=>hend Z S (hl▸hI)
 ·(delta jy cX dE i5 sK;revert e1)
  rw[KF hj]
 ·rw[d6]at hw;split at hw
  ·rename_i hk;cases hw;rw[Qt];show hs i Z S ∅ hI
  ·cases hw
def gG {tg:Tg}{e:E}{b:Ss}(oe:dz e=true)(ok:hX b=true)(he:wE M e Z S λp=>∃(t:Kf) (xs:J5 W) (I:Kf->Fm->aa->Prop),p.1=.ref t/\I 0 Z p.2/\(∀i Z S,I i Z S->S[t]?=ba (.lst xs))/\
  (∀(i:Kf) (w:W) (Z:Fm) (S:aa),xs[i]?=ba w->I i Z S->wO (fX tg w Z S) λq=>xr M fuel b q.1 q.2 (I (i+1)) Q)/\∀Z S,I ↥xs Z S->K Z S):Wp (gB M fuel (.loop tg (.seq e) b) Z S) (rL K Q):=by
 obtain⟨w,S1,e1,t,xs,I,rfl,h0,hat,hs,hend⟩:=bD oe he;show iF (mi:=.live t) (S1:=S1) I ok (by simp only[jy,ft,e1,au (hat _ _ _ h0)]) (λi Z S h=>by simp only[MI.at,au (hat _ _ _ h)]) (by simp only[MI.len,au (hat _ _ _ h0),Lk]) h0 hs hend
end
section
variable{defs:J5 (KJ×Df)}{fuel d:Kf}{S:aa}{r:Kf}{Q:QW}
def z6 {q:Kf}{a:Kf}{bs:J5 Ks}{ms ns:J5 KJ}{fs0:J5 Wd}{U:J5 (T×W)}{fs:J5 Wd}(h3:S[q]?=ba (.dic U))(h4:FigD (aM a bs) U fs)(hs:SizeOk a bs)(hml:↥ms=a)(hnl:↥ns=↥bs)(hnm:GoodN ms ns)(k:∀w S',en w->Ka S S'->Q (w,S')) :
  wO (n6 (dF ms ns bs fs0) (.int 0) S) λp=>wO (n6 (dF ms ns bs fs0) (.int 1) p.2) λq'=>wO (Bi.sorted.fn [.ref q] q'.2) λs=>wO (Bi.tuple.fn [s.1] s.2) λz=>Q (.tup [p.1,q'.1,z.1],z.2):=by
 show ah #v[] rfl (ah #v[] rfl ?_)
 have hl:=h4.len;show sY (h4.items h3) (by have:=jf hs;omega) (λf hf=>qR (h4.mem f hf)) (fA af (k _ _ #[a,bs,ms,ns,fs,rfl,hs,hml,hnl,hnm,h4.nd,h4.mem] .push))
def z7 {q:Kf}{a:Kf}{bs:J5 Ks}{u:Wd}{U:J5 (T×W)}{fs:J5 Wd}{Q:aa->Prop}(h3:S[q]?=ba (.dic U))(h4:FigD (aM a bs) U fs)(hs:SizeOk a bs)(hu:GoodW a ↥bs u)(hu3:↥u=3)
  (k:∀o,(∃U fs,(S.set q o)[q]?=ba (.dic U)/\FigD (aM a bs) U fs)->Q (S.set q o)):wO (iW (.ref q) (ay (gh bs u)) (.bl true) S) Q:=by
 have hl:=h4.len;have:=jf hs;obtain⟨fs',h5⟩:=h4.put (v:=.bl true) (oU hu hu3);show ab (u8 h3 (by rw[Lp];omega)) (k _ #[_,fs',bn h3,h5])
def sZ (hfu:20<fuel)(G:Gen defs)(hf:Fl S r)(k:∀w S',en w->Fl S' r->Kp r S S'->Q (w,S')):wO (aN (al defs fuel (d+6)) "_law_any_rule" 1 [.ref r] S) Q:=by
 show aw G.any_rule rfl rfl λQ' hR=>?_
 replace k:∀w S',en w->Fl S' r->Kp r S S'->Q' (.rt w,S'):=λz S' a b c=>hR _ _ (k z S' a b c)
 clear hR;change wZ _ _ cO [ba (.ref r),gV,gV,gV,gV,gV] S Q';delta cO;nofun
 left;show oR (d:=d+3) G hf λa n S1 a1 a3 n1 n3 an f1 k1=>?_
 delta wU;show ab (show dC [1,2] [.int a,.int n] [ba (.ref r),gV,gV,gV,gV,gV]=ba [ba (.ref r),ba (.int a),ba (.int n),gV,gV,gV]from rfl) (hK _ _ ?_)
 clear hK K;nofun
 left;show oT (d:=d+3) G f1 n1 n3 λbs S2 hb hbl f2 k2=>?_
 have hsz:SizeOk a bs:=#[∅,hb,by rw[hbl];show an,a3]
 show fT (d:=d) hfu G f2 a3 ∅ λms ns S3 hml hnl hnm f3 k3=>hK _ _ ?_
 clear hK K;have hrt:=f3.lt;replace k3:Kp r S S3:=k1.trans (k2.trans k3);clear k1 k2 f1 f2;show st ?_;delta wS wE Kv;nofun
 show jg rfl rfl ?_;delta wE wA wV wG;show be (d:=d+4) G.pick (f3.ka .push) #v[] #v[] λv S4 v0 v9 f4 k4=>?_
 show#[v,λk Z S'=>(∃a5,Z=[ba (.ref r),ba (.int a),ba (.int n),ba (dF ms ns bs []),ba (.ref ↥S3),a5])/\(∃U fs,S'[↥S3]?=ba (.dic U)/\FigD (aM a bs) U fs)/\Fl S' r/\Kp r S S',rfl,∅,#[#[gV,rfl],#[[],[],k4.get _ _ ∅ af,.nil],f4,(k3.trans .push).trans k4],?_,?_]
 ·rintro i Z S5 hi ⟨⟨a5,rfl⟩,⟨U,fs,e5,hd⟩,f5,k5⟩ Q2 hn _;clear hK;show st ?_;left;show je (d:=d+3) G f5 ∅ a3 ∅ n3 λu S6 hu3 hu f6 k6=>?_
  have hu:GoodW a ↥bs u:=hbl.symm▸hu;show jd (d:=d+2) G hb hnl hu hu3 λS7 k7=>?_
  have e7:=k7.get _ _ (k6.get _ _ ∅ e5)
  show z7 e7 hd hsz hu hu3 λo ho=>bP (hn _ _ #[#[_,rfl],ho,(f6.ka k7).own hrt,((k5.trans k6).trans (k7.kp r)).late k3.len])
 ·rintro Z S5 ⟨⟨a5,rfl⟩,⟨U,fs,e5,hd⟩,f5,k5⟩;show hK _ _ (st ?_);left;show z6 (Q:=λp=>Q' (.rt p.1,p.2)) e5 hd hsz hml hnl hnm λw S6 hw k6=>k w S6 hw (f5.ka k6) (k5.trans (k6.kp r))
end
abbrev oV (t:Ks×Ks×Ks):W:=.tup [.int t.1,.int t.2.1,.int t.2.2]
abbrev qS (a:Kf)(t:Ks×Ks×Ks):Prop:=(0<=t.1/\t.1<a)/\(0<=t.2.1/\t.2.1<a)/\(0<=t.2.2/\t.2.2<a)
abbrev z8 (k:Ks):Wd:=[(k,[]),(k,[0]),(k,[0,0])]
def JC:∀k∈lD 1,z8 k∈aM 1 [0]:=by decide +kernel
def JD:∀k∈lD 2,z8 k∈aM 2 [0]:=by decide +kernel
def JE:∀k∈lD 3,z8 k∈aM 3 [0]:=by decide +kernel
def CS {a:Kf}{k:Ks}(h0:1<=a)(h3:a<=3)(hk:0<=k)(hk2:k<a):z8 k∈aM a [0]:=by
 have ha:a=1\/a=2\/a=3:=∅
 rcases ha with rfl|rfl|rfl
 ·show JC k (cQ hk hk2)
 ·show JD k (cQ hk hk2)
 ·show JE k (cQ hk hk2)
def CT {a b:Ks}(h:z8 a=z8 b):a=b:=by
 unfold z8 at h;injection h with h1 h2
 injection h1
def oW:GoodB [0]:=.inl rfl
def HH {S:aa}{i j:Kf}{xs:J5 W}(h1:S[i]?=ba (.lst xs))(h2:S[j]?=ba (.lst [])):cx .eq (.ref i) (.ref j) S=ba (.bl xs.isEmpty,S):=by
 show(kH S (19+1) (.ref i) (.ref j)).map _=_
 (delta kH;simp only[dJ h1,dJ h2])
 cases xs with
 |nil=>rfl
 |cons x xs=>rfl
def CU {S:aa}{f:Ks}{ws:J5 Ks}:∃b,cx .notin (.int f) (.tup (ag ws)) S=ba (.bl b,S):=by
 have hf:(bY (.int f)&&(ag ws).all bY)=true:=by
  (delta bY;revert O7 KA)
  intro x hx;obtain⟨z,_,rfl⟩:=Kn.mp hx;rfl
 show#[!(ag ws).any λz=>AN z (.int f),?_]
 change iN .notin (.int f) (.tup (ag ws)) S=_
 (delta iN FL xp fm;revert hf Mm Lk)
section
variable{M:KJ->FF}{fuel:Kf}{Z:Fm}{S:aa}{K:Fm->aa->Prop}{Q:QO}
def jh {i0:Kf}{a b:E}{bd:Ss}(i j:Ks)(I:Kf->Fm->aa->Prop)(oa:dz a=true)(ob:dz b=true)(ok:hX bd=true)(hj : -(2^62)<=i/\i<2^62/\-(2^62)<=j/\j<2^62)(he:wE M a Z S λp=>p.1=.int i/\wE M b Z p.2 λq=>q.1=.int j/\I 0 Z q.2)
  (hstep:∀(k:Kf) (Z:Fm) (S:aa),(k:Ks)<j-i->I k Z S->xr M fuel bd (Z.set i0 (ba (.int (i+k)))) S (I (k+1)) Q) (hend:∀Z S,I (j-i).toNat Z S->K Z S):Wp (gB M fuel (.loop (.nm i0) (.rng2 #v[a,b]) bd) Z S) (rL K Q):=by
 obtain⟨w,S1,e1,rfl,h1⟩:=bD oa he;obtain⟨w,S2,e2,rfl,h0⟩:=bD ob h1;have hl:(cZ i (j-i).toNat).length=(j-i).toNat:=by simp[cZ]
 show iF (mi:=.its (cZ i (j-i).toNat)) (S1:=S2) (xs:=cZ i (j-i).toNat) I ok ?_ (λ_ _ _ _=>rfl) rfl h0 (λk w Z S hw hI=>?_) λZ S hI=>hend Z S (hl▸hI)
 ·revert jy cX dE i5 iRng2 e1 e2;rw[KF hj]
 ·rw[d6]at hw;split at hw
  ·rename_i hk;cases hw;show hstep k Z S ∅ hI
  ·cases hw
def z9 {elt a b:E}{i0:Kf}{cs:Es}{cap:J5 (Ke Kf)}{Q:QW}(i j:Ks)(I:Kf->J5 W->Fm->aa->Prop)(oa:dz a=true)(ob:dz b=true)(oe:dz elt=true)(oc:nq cs=true)(hj : -(2^62)<=i/\i<2^62/\-(2^62)<=j/\j<2^62)(he:wE M a Z S λp=>p.1=.int i/\wE M b Z p.2 λq=>q.1=.int j/\I 0 [] (eW cap Z) q.2)
  (hstep:∀(k:Kf) (ys:J5 W) (Z:Fm) (S:aa),(k:Ks)<j-i->I k ys Z S->gm M elt cs (Z.set i0 (ba (.int (i+k)))) S (λy=>I (k+1) (ys++[y])) (I (k+1) ys))
  (hend:∀ys Z S,I (j-i).toNat ys Z S->↥ys<=sizeLine/\Q (.ref ↥S,S++[.lst ys])):Wp (aA M (.comp elt (.nm i0) (.rng2 #v[a,b]) cs cap) Z S) Q:=by
 obtain⟨w,S1,e1,rfl,h1⟩:=bD oa he;obtain⟨w,S2,e2,rfl,h0⟩:=bD ob h1;have hl:(cZ i (j-i).toNat).length=(j-i).toNat:=by simp[cZ]
 show jF (mi:=.its (cZ i (j-i).toNat)) (S1:=S2) (xs:=cZ i (j-i).toNat) I oe oc ?_ (λ_ _ _ _ _=>rfl) rfl h0 (λk w ys Z S hw hI=>?_) λys Z S hI=>hend ys Z S (hl▸hI)
 ·revert jy cX dE i5 iRng2 e1 e2;rw[KF hj]
 ·rw[d6]at hw;split at hw
  ·rename_i hk;cases hw;show hstep k ys Z S ∅ hI
  ·cases hw
end
section
variable{defs:J5 (KJ×Df)}{fuel d:Kf}{S:aa}{r:Kf}{Q:QW}
def Aa (G:Gen defs){a:Kf}(ha:a<=3)(k:∀(q:Kf) (ts:J5 (Ks×Ks×Ks)) (S':aa),S'[q]?=ba (.lst (ts.map oV))->(∀t∈ts,qS a t)->↥S<=q->Ka S S'->Q (.ref q,S')) :
  wO (aN (al defs fuel (d+1)) "_law_rising" 1 [.int a] S) Q:=by
 show aw G.rising rfl rfl λQ' hR=>?_
 replace k:∀(q:Kf) (ts:J5 (Ks×Ks×Ks)) (S':aa),S'[q]?=ba (.lst (ts.map oV))->(∀t∈ts,qS a t)->↥S<=q->Ka S S'->Q' (.rt (.ref q),S'):=λq ts S' a b c e=>hR _ _ (k q ts S' a b c e)
 clear hR;change wZ _ _ dN [ba (.int a),gV,gV,gV] S Q';delta dN;show st ?_;delta wS wE wA Kv;nofun
 show cq (a:Ks) (λi Z S'=>∃(q:Kf) (ts:J5 (Ks×Ks×Ks)) (a2 a3:Ke W),Z=[ba (.int a),ba (.ref q),a2,a3]/\S'[q]?=ba (.lst (ts.map oV))/\(∀t∈ts,qS a t)/\↥S<=q/\↥ts<=9*i/\Ka S S') rfl rfl ∅ #[rfl,_,[],_,_,rfl,af,λ_ h=>(nomatch h),Ki _,LC _,.push] ?_ ?_
 ·rintro i Z S1 hi ⟨q,ts,a2,a3,rfl,e1,ht,hq,hl,k1⟩ Q2 hn _;clear hK k;nofun
  show jh (i:Ks) (a:Ks) (λj Z S'=>∃(q:Kf) (ts:J5 (Ks×Ks×Ks)) (a3:Ke W),Z=[ba (.int a),ba (.ref q),ba (.int i),a3]/\S'[q]?=ba (.lst (ts.map oV))/\(∀t∈ts,qS a t)/\↥S<=q/\↥ts<=9*i+3*j/\Ka S S') rfl rfl rfl ∅ #[rfl,rfl,q,ts,a3,rfl,e1,ht,hq,∅,k1] ?_ ?_
  ·rintro j Z S2 hj ⟨q,ts,a3,rfl,e2,ht,hq,hl,k2⟩ Q3 hn3 _;clear hK hn;show st ?_;delta wS wE wV wG Kv;show z9 ((i:Ks)+j) (a:Ks) (λm ys Z2 S3=>(∃a1,Z2=[gV,a1,ba (.int i),ba (.int ((i:Ks)+j))])/\(∃us:J5 (Ks×Ks×Ks),ys=us.map oV/\↥us=m/\∀t∈us,qS a t)/\S3=S2) rfl rfl rfl rfl ∅ #[rfl,rfl,#[gV,rfl],#[[],rfl,rfl,λ_ h=>nomatch h],rfl] ?_ ?_
   ·rintro m ys Z2 S3 hm ⟨⟨a1,rfl⟩,⟨us,rfl,hul,hu⟩,rfl⟩;show#[λ_=>#[#[_,rfl],#[us++[((i:Ks),(i:Ks)+j,(i:Ks)+j+m)],by rw[K5];rfl,by rw[Kk,hul];rfl,λt h=>?_],rfl],λz=>by cases z]
    rcases La.mp h with h|h
    ·show hu t h
    ·rw[Kt.mp h];show#[#[∅,∅],#[by dsimp only;omega,by dsimp only;omega],#[by dsimp only;omega,by dsimp only;omega]]
   ·rintro ys Z2 S3 ⟨_,⟨us,rfl,hul,hu⟩,rfl⟩;show#[few (by rw[J7];omega),ab (zG (ak e2) af ?_) (bP (hn3 _ _ #[_,ts++us,_,rfl,?_,λt h=>(La.mp h).elim (ht t) (hu t),?_,?_,k2.trans (Ka.push.trans .push)]))]
    ·show few ?_;rw[Kk,J7,J7];omega
    ·rw[K5];show af
    ·have:=k2.len;revert Kk;omega
    ·rw[Kk];omega
  ·rintro Z S2 ⟨q,ts,a3,rfl,e2,ht,hq,hl,k2⟩;show hK _ _ (bP (hn _ _ #[q,ts,_,_,rfl,e2,ht,hq,∅,k2]))
 ·rintro Z S1 ⟨q,ts,a2,a3,rfl,e1,ht,hq,hl,k1⟩;show hK _ _ (st ?_);show k q ts S1 e1 ht hq k1
def wQ (hfu:20<fuel)(G:Gen defs)(hf:Fl S r)(k:∀w S',en w->Fl S' r->Kp r S S'->Q (w,S')):wO (aN (al defs fuel (d+6)) "_law_one_way_rule" 1 [.ref r] S) Q:=by
 show aw G.one_way_rule rfl rfl λQ' hR=>?_
 replace k:∀w S',en w->Fl S' r->Kp r S S'->Q' (.rt w,S'):=λz S' a b c=>hR _ _ (k z S' a b c)
 clear hR;change wZ _ _ bE [ba (.ref r),gV,gV] S Q';delta bE;nofun
 left;show be (d:=d+4) G.pick hf #v[] #v[] λv S1 v0 v3 f1 k1=>?_
 delta c9 aH;obtain⟨a,ea⟩:∃a:Kf,1+v=a:=#[(1+v).toNat,∅]
 rw[ea];show hK _ _ ?_;clear hK K;nofun
 delta wS wE Kv;show dh (a:Ks) (λk zs Z2 S2=>(∃a1,Z2=[gV,a1,ba (.ref r)])/\(∃ks:J5 Ks,zs=(ks.map z8).map ay/\ks.Pairwise (·≠·)/\↥ks<=k/\∀x∈ks,0<=x/\x<k)/\Fl S2 r/\Kp r S1 S2) rfl rfl rfl ∅ #[rfl,#[gV,rfl],#[[],rfl,.nil,Ki _,λ_ h=>(nomatch h)],f1,.refl] ?_ ?_
 ·rintro i zs Z2 S2 hi ⟨⟨a1,rfl⟩,⟨ks,rfl,hkp,hkl,hks⟩,f2,k2⟩;clear hK k;delta gm wC wT wE wA wV wG Kv;show be (d:=d+4) G.pick f2 #v[] #v[] λv S3 _ _ f3 k3=>?_
  delta gf aH wB;show#[λ_=>#[#[_,rfl],#[ks++[(i:Ks)],by simp[z8,ay,bw],?_,by rw[Kk];show O2 hkl,λx hx=>?_],f3,k2.trans k3],λ_=>#[#[_,rfl],#[ks,rfl,hkp,∅,λx hx=>#[(hks x hx).1,by have:=(hks x hx).2;omega]],f3,k2.trans k3]]
  ·rw[QY];show#[hkp,by simp,λx hx y hy e=>?_]
   have:=(hks x hx).2;rw[Kt.mp hy]at e;omega
  ·rcases La.mp hx with h|h
   ·show#[(hks x h).1,by have:=(hks x h).2;omega]
   ·rw[Kt.mp h];omega
 ·rintro zs Z2 S2 ⟨_,⟨ks,rfl,hkp,hkl,hks⟩,f2,k2⟩;rw[Kw]at hkl hks;show#[few (by rw[J7,J7];omega),hK _ _ (st ?_)]
  clear hK K;left;have hlt:=f2.lt;show nv (d:=d) (a:=a) (bs:=[0]) (us:=ks.map z8) hfu G (f2.ka .push) ∅ #v[] (λS' kk=>?_) (by rw[J7];omega) (λu hu=>by obtain⟨x,_,rfl⟩:=Kn.mp hu;show SC _ _) λms ns S3 hml hnl hnm f3 k3=>?_
  ·simp only[dB,au (kk.get _ _ ∅ af)]
  show k _ _ #[a,[0],ms,ns,ks.map z8,rfl,#[#[∅,oW,by simp;omega,∅],hml,hnl,hnm,?_,λg hg=>?_]] f3 (k1.trans (k2.trans (Kp.push.trans k3)))
  ·unfold RE;rw[ML];show hkp.imp λh e=>h (CT e)
  ·obtain⟨x,hx,rfl⟩:=Kn.mp hg;show CS ∅ ∅ (hks x hx).1 (hks x hx).2
def qT (hfu:20<fuel)(G:Gen defs)(hf:Fl S r)(k:∀w S',en w->Fl S' r->Kp r S S'->Q (w,S')):wO (aN (al defs fuel (d+6)) "_law_free_rule" 1 [.ref r] S) Q:=by
 show aw G.free_rule rfl rfl λQ' hR=>?_
 replace k:∀w S',en w->Fl S' r->Kp r S S'->Q' (.rt w,S'):=λz S' a b c=>hR _ _ (k z S' a b c)
 clear hR;change wZ _ _ cr [ba (.ref r),gV,gV,gV,gV,gV,gV,gV,gV] S Q';delta cr;nofun
 left;show oR (d:=d+3) G hf λa n S1 a1 a3 n1 n3 an f1 k1=>?_
 delta wU;show ab (show dC [1,2] [.int a,.int n] [ba (.ref r),gV,gV,gV,gV,gV,gV,gV,gV]=ba [ba (.ref r),ba (.int a),ba (.int n),gV,gV,gV,gV,gV,gV]from rfl) (hK _ _ ?_)
 clear hK K;nofun
 left;show oT (d:=d+3) G f1 n1 n3 λbs S2 hb hbl f2 k2=>?_
 have hsz:SizeOk a bs:=#[∅,hb,by rw[hbl];show an,a3]
 show fT (d:=d) hfu G f2 a3 ∅ λms ns S3 hml hnl hnm f3 k3=>hK _ _ ?_
 clear hK K;have hrt:=f3.lt;replace k3:Kp r S S3:=k1.trans (k2.trans k3);clear k1 k2 f1 f2;nofun
 delta wS wE Kv;show dh (n:Ks) (λi zs Z2 S2=>(∃a1,Z2=[gV,a1,ba (dF ms ns bs [])])/\(∃ks:J5 Ks,zs=ag ks/\↥ks<=i)/\S2=S3) rfl rfl rfl ∅ #[rfl,#[gV,rfl],#[[],rfl,Ki _],rfl] ?_ ?_
 ·rintro i zs Z2 S2 hi ⟨⟨a1,rfl⟩,⟨ks,rfl,hkl⟩,rfl⟩;clear hK k;have hi':i<↥bs:=∅
  delta gm wC wT wE wA wV wG Kv;show ah #v[] rfl (ah (Kz i) (by rw[Kw];show oP (Kl ∅) (Kl hi')) (ah #v[] rfl ?_))
  delta gf aH wB;show#[λ_=>#[#[_,rfl],#[ks++[(i:Ks)],by unfold ag;rw[K5];rfl,by rw[Kk];show O2 hkl],rfl],λ_=>#[#[_,rfl],#[ks,rfl,∅],rfl]]
 ·rintro zs Z2 S2 ⟨_,⟨ks,rfl,hkl⟩,rfl⟩;rw[Kw]at hkl;have il:(ag ks).length=↥ks:=J7 ..;show#[few ∅,hK _ _ ?_]
  clear hK K;nofun
  delta wS wT wE wA wV wG Kv;show ab (HH (ak af) af) ?_;delta wB;have f4:=(f3.ka (Ka.push (o:=O.lst (ag ks)))).ka (Ka.push (o:=O.lst []));have k4:=k3.trans ((Kp.push (o:=O.lst (ag ks))).trans (Kp.push (o:=O.lst [])));have e4:=ak (u:=O.lst []) (af (S:=S2) (o:=O.lst (ag ks)));have hl4:↥S2<(S2++[O.lst (ag ks)]++[O.lst []]).length:=by simp
  generalize hS4:S2++[O.lst (ag ks)]++[O.lst []]=S4 at f4 k4 e4 hl4;clear hS4;have ret:∀Q2:QO,(∀w S',Q' (.rt w,S')->Q2 (.rt w,S'))->wZ (al defs fuel (d+5)) fuel #v[.ret (.v 3)] [ba (.ref r),ba (.int a),ba (.int n),ba (dF ms ns bs []),gV,ba (.ref ↥S2),gV,gV,gV] S4 Q2:=λQ2 hr=>st (hr _ _ (k _ _ #[a,bs,ms,ns,[],rfl,hsz,hml,hnl,hnm,.nil,λ_ h=>(nomatch h)] f4 k4))
  show#[λ_=>aB (Q0:=Q') (λ_ Q2 _ hr=>ret Q2 hr) (λz=>by cases z),λhne=>?_]
  delta gf aH wB;show aB (Q0:=Q') (λ_ Q2 _ hr=>ret Q2 hr) (λ_ Q2 hn _=>bP (hn _ _ (hK _ _ ?_)))
  clear hK ret hn;have hk0:0<↥ks:=by
   cases ks with
   |nil=>cases hne
   |cons x ks=>show Qr _
  nofun
  left;show fZ e4 ?_;rw[il];show be (d:=d+4) G.pick f4 ∅ ∅ λv S5 v0 v1 f5 k5=>?_
  have e5:=k5.get _ _ ∅ e4
  obtain⟨x,_,ex⟩:=lz (f:=W.int) (xs:=ks) (i:=v.toNat) ∅
  show fY e5 v0 ex (hK _ _ ?_);clear hK K;replace k5:Kp r S S5:=k4.trans k5;have hrt5:=f5.lt;show st ?_;delta wS wE Kv;nofun
  show jg rfl rfl ?_;delta wE wA wV wG;show be (d:=d+4) G.pick (f5.ka .push) #v[] #v[] λv S6 v0 v9 f6 k6=>?_
  show#[v,λ_ Z S'=>(∃a4 a8,Z=[ba (.ref r),ba (.int a),ba (.int n),ba (dF ms ns bs []),a4,ba (.ref ↥S2),ba (.int x),ba (.ref ↥S5),a8])/\(∃U fs,S'[↥S5]?=ba (.dic U)/\FigD (aM a bs) U fs)/\Fl S' r/\Kp r S S',rfl,∅,#[#[gV,gV,rfl],#[[],[],k6.get _ _ ∅ af,.nil],f6,(k5.trans .push).trans k6],?_,?_]
  ·rintro i Z S7 hi ⟨⟨a4,a8,rfl⟩,⟨U,fs,e7,hd⟩,f7,k7⟩ Q2 hn _;clear hK k;show st ?_;left;show je (d:=d+3) G f7 ∅ a3 ∅ n3 λu S8 hu3 hu f8 k8=>?_
   have hu:GoodW a ↥bs u:=hbl.symm▸hu;have e8:=k8.get _ _ ∅ e7
   obtain⟨p0,p1,p2,rfl⟩:∃p0 p1 p2,u=[p0,p1,p2]:=by
    match u,hu3 with
    |[p0,p1,p2],_=>show#[p0,p1,p2,rfl]
   have l1:=hu.len 1 p1 rfl;obtain⟨m1,ws1⟩:=p1;obtain⟨w1,rfl⟩:∃w1,ws1=[w1]:=by
    match ws1,l1 with
    |[w1],_=>show#[w1,rfl]
   obtain⟨b,hb2⟩:=CU (S:=S8) (f:=x) (ws:=p2.2);have kk:=k7.trans k8;nofun
   delta wS wT wE wA wV wG;show ah #v[] rfl (ah #v[] rfl (ah #v[] rfl ?_))
   delta Js aH wB;have skip:K [ba (.ref r),ba (.int a),ba (.int n),ba (dF ms ns bs []),ba (.int i),ba (.ref ↥S2),ba (.int x),ba (.ref ↥S5),ba (ay [p0,(m1,[w1]),p2])] S8:=hK _ _ (bP (hn _ _ #[#[_,_,rfl],#[U,fs,e8,hd],f8,kk]));show#[λ_=>?_,λ_=>aB (Q0:=Q2) (λz=>by cases z) λ_ Q3 hn3 _=>bP (hn3 _ _ skip)]
   show ah #v[] rfl (ah #v[] rfl (ab hb2 ?_))
   delta wB;show aB (Q0:=Q2) (λ_ Q3 hn3 _=>?_) λ_ Q3 hn3 _=>bP (hn3 _ _ skip)
   clear skip;show st ?_;left;show jd (d:=d+2) G hb hnl hu hu3 λS9 k9=>?_
   show z7 (k9.get _ _ e8) hd hsz hu hu3 λo ho=>bP (hn3 _ _ (hK _ _ (bP (hn _ _ #[#[_,_,rfl],ho,(f8.ka k9).own hrt5,(kk.trans (k9.kp r)).late k5.len]))))
  ·rintro Z S7 ⟨⟨a4,a8,rfl⟩,⟨U,fs,e7,hd⟩,f7,k7⟩;show hK _ _ (st ?_);left;show z6 (Q:=λp=>Q' (.rt p.1,p.2)) e7 hd hsz hml hnl hnm λw S8 hw k8=>k w S8 hw (f7.ka k8) (k7.trans (k8.kp r))
end
abbrev bC (u v:Ks):T:=.tup [.int u,.int v]
abbrev dw (u v:Ks):W:=.tup [.int u,.int v]
def ji {u v:Ks}:gZ (dw u v)=ba (bC u v):=rfl
def Ab {U:J5 (T×W)}{k:T}{v:W}{p:T×W}(h:p∈d0 U k v):p∈U\/p=(k,v):=by
 unfold d0 at h;split at h
 ·obtain⟨q,hq,rfl⟩:=Kn.mp h;split
  ·rename_i e;show .inr (by rw[e])
  ·show .inl hq
 ·rcases La.mp h with h|h
  ·show .inl h
  ·show .inr (Kt.mp h)
def lE {U:J5 (T×W)}{k:T}{v:W}(h:bO U k=ba v):(k,v)∈U:=by
 unfold bO at h;rw[Kb]at h;obtain⟨p,h1,rfl⟩:=h;have:=QH h1;rw[<- Lo this];show List.mem_of_find?_eq_some h1
def u9 {U:J5 (T×W)}{p:T×W}(h:p∈U):∃v,bO U p.1=ba v:=by
 unfold bO;cases e:U.find? λq=>decide (q.1=p.1)with
 |some q=>show#[q.2,rfl]
 |none=>show absurd (RD.mp e p h) (by simp)
abbrev MustE (S:aa)(n b:Kf)(U:J5 (T×W)):Prop:=∀p∈U,∃(u v:Ks) (l:Kf) (ws:J5 Ks),p=(bC u v,W.ref l)/\(0<=u/\u<n)/\(0<=v/\v<n)/\b<=l/\S[l]?=ba (.lst (ag ws))/\↥ws<=3/\∀w∈ws,0<=w/\w<(n:Ks)
def MustE.mono {S S':aa}{n b:Kf}{U:J5 (T×W)}(h:MustE S n b U)(k:∀(l:Kf) (ws:J5 Ks),b<=l->S[l]?=ba (.lst (ag ws))->S'[l]?=ba (.lst (ag ws))):MustE S' n b U:=λp hp=>
 let ⟨u,v,l,ws,h1,h2,h3,h4,h5,h6⟩:=h p hp
 #[u,v,l,ws,h1,h2,h3,h4,k l ws h4 h5,h6]
def MustE.ka {S S':aa}{n b:Kf}{U:J5 (T×W)}(h:MustE S n b U)(k:Ka S S'):MustE S' n b U:=h.mono λl ws _ e=>k.get _ _ e
def MustE.kp {S S':aa}{n b r:Kf}{U:J5 (T×W)}(h:MustE S n b U)(hr:r<b)(k:Kp r S S'):MustE S' n b U:=h.mono λl ws hl e=>k.get _ _ ∅ e
def MustE.set {S:aa}{n b t:Kf}{U k:J5 (T×W)}{o:O}(h:MustE S n b U)(ht:S[t]?=ba (.dic k)):MustE (S.set t o) n b U:=h.mono λl ws hl e=>by
 rw[a9 (by rintro rfl;rw[ht]at e;cases e)];show e
def MustE.put {S:aa}{n b:Kf}{U:J5 (T×W)}{u v:Ks}{l:Kf}{ws:J5 Ks}(h:MustE S n b U)(h2:0<=u/\u<n)(h3:0<=v/\v<n)(h4:b<=l)(h5:S[l]?=ba (.lst (ag ws)))(h6:↥ws<=3)(h7:∀w∈ws,0<=w/\w<(n:Ks)):MustE S n b (d0 U (bC u v) (.ref l)):=λp hp=>by
 rcases Ab hp with hp|rfl
 ·show h p hp
 ·show#[u,v,l,ws,rfl,h2,h3,h4,h5,h6,h7]
noncomputable abbrev CV:=Ks×Ks×J5 Ks
abbrev qU (ws:J5 Ks):Es:=ws.foldr (λw es=>.cons (.c (.int w)) es) .nil
abbrev vc:J5 CV->Es
 |[]=>.nil
 |e::L=>.cons (.tup #v[.c (.int e.1),.c (.int e.2.1)]) (.cons (.lst (qU e.2.2)) (vc L))
abbrev wR:J5 CV->Kf->J5 W
 |[],_=>[]
 |e::L,s=>dw e.1 e.2.1::.ref s::wR L (s+1)
abbrev wW (L:J5 CV):aa:=L.map λe=>O.lst (ag e.2.2)
abbrev vd (n:Kf)(e:CV):KU:=decide ((0<=e.1/\e.1<n)/\(0<=e.2.1/\e.2.1<n)/\↥e.2.2<=3)&&e.2.2.all λw=>decide (0<=w/\w<(n:Ks))
section
variable{M:KJ->FF}{Z:Fm}
def tf {S:aa}:∀{ws:J5 Ks}{Q:J5 W×aa->Prop},Q (ag ws,S)->wA M (qU ws) Z S Q
 |[],Q,q=>by change wA M .nil Z S Q;show q
 |w::ws,Q,q=>by change wA M (.cons (.c (.int w)) (qU ws)) Z S Q;delta wA wE;show tf q
def Ac:∀{L:J5 CV}{S:aa}{Q:J5 W×aa->Prop},Q (wR L ↥S,S++wW L)->wA M (vc L) Z S Q
 |[],S,Q,q=>by
  change wA M .nil Z S Q;delta wA
  rwa [show S++wW []=S from Ml S]at q
 |e::L,S,Q,q=>by
  change wA M (.cons (.tup #v[.c (.int e.1),.c (.int e.2.1)]) (.cons (.lst (qU e.2.2)) (vc L))) Z S Q;delta wA wE;show tf (Ac ?_);rw[Kk,Mt];show q
end
def nw {S:aa}{n b:Kf}:∀(L:J5 CV) (s:Kf) (U:J5 (T×W)),MustE S n b U->b<=s->(∀e∈L,vd n e=true)->(∀i e,L[i]?=ba e->S[s+i]?=ba (.lst (ag e.2.2)))->∃U',dD U (wR L s)=ba U'/\MustE S n b U'/\↥U'<=↥U+↥L
 |[],s,U,hm,hb,hL,hS=>#[U,by simp[wR,dD],hm,by simp]
 |e::L,s,U,hm,hb,hL,hS=>by
  have h1:=hL e (by simp)
  unfold vd at h1;rw[Kg,KA]at h1;obtain⟨h2,h3,h4⟩:=Lo h1.1;obtain⟨U',k1,k2,k3⟩:=nw L (s+1) (d0 U (bC e.1 e.2.1) (.ref s)) (hm.put h2 h3 hb (by have:=hS 0 e rfl;simpa using this) h4 (λw hw=>Lo (h1.2 w hw))) ∅ (λx hx=>hL x (by simp[hx])) (λi x hx=>by have:=hS (i+1) x (by simpa using hx);rw[show s+1+i=s+(i+1) by omega];show this)
  show#[U',?_,k2,?_]
  ·revert wR dD ji;show k1
  ·have:=cD U (bC e.1 e.2.1) (.ref s);rw[KZ];omega
abbrev KB:J5 (J5 Ks):=[[1,0],[0,2,1],[0,1],[0,1,2]]
abbrev KindOk (S:aa)(b:Kf)(w:W):Prop:=∃(bs:J5 Ks) (q:Kf) (U:J5 (T×W)) (most:Ks),w=.tup [.tup (ag bs),.ref q,.int most]/\bs∈KB/\1<=most/\most<=3/\most*↥bs<=6/\S[q]?=ba (.dic U)/\b<=q/\↥U<=4/\MustE S ↥bs b U
def KindOk.mono {S S':aa}{b:Kf}{w:W}(h:KindOk S b w)(k1:∀(l:Kf) (ws:J5 Ks),b<=l->S[l]?=ba (.lst (ag ws))->S'[l]?=ba (.lst (ag ws)))(k2:∀(l:Kf) (U:J5 (T×W)),b<=l->S[l]?=ba (.dic U)->S'[l]?=ba (.dic U)):KindOk S' b w:=
 let ⟨bs,q,U,most,h1,h2,h3,h4,h5,h6,h7,h8,h9⟩:=h
 #[bs,q,U,most,h1,h2,h3,h4,h5,k2 _ _ h7 h6,h7,h8,h9.mono k1]
def KindOk.ka {S S':aa}{b:Kf}{w:W}(h:KindOk S b w)(k:Ka S S'):KindOk S' b w:=h.mono (λl ws _ e=>k.get _ _ e) (λl ws _ e=>k.get _ _ e)
abbrev Ad (bs:J5 Ks)(L:J5 CV)(most:Ks):E:=.tup #v[.tup (qU bs),.disp (vc L),.c (.int most)]
section
variable{M:KJ->FF}{Z:Fm}{S:aa}
def oX (bs:J5 Ks)(L:J5 CV)(most:Ks){b:Kf}{Q:QW}(hb:b<=↥S)(h1:bs∈KB)(h2:1<=most/\most<=3/\most*↥bs<=6)(hL:∀e∈L,vd ↥bs e=true)(h4:↥L<=4)(k:∀w S',KindOk S' b w->Ka S S'->Q (w,S')) :
  wE M (Ad bs L most) Z S Q:=by
 unfold Ad;delta wE wA;show tf (Ac ?_);obtain⟨U,k1,k2,k3⟩:=nw (S:=S++[O.dic []]++wW L) (n:=↥bs) (b:=b) L (↥S+1) [] (λ_ h=>nomatch h) ∅ hL (λi e he=>by
  rw[Mg (by simp),show ↥S+1+i-(S++[O.dic []]).length=i by simp]
  simp[wW,he])
 have hat:(S++[O.dic []]++wW L)[↥S]?=ba (.dic []):=by
  rw[Lg (by simp)];show af
 show#[hat,ab (show dD [] (wR L (S++[O.dic []]).length)=ba U by rw[Kk];show k1) (k _ _ #[bs,↥S,U,most,rfl,h1,h2.1,h2.2.1,h2.2.2,bn hat,hb,?_,k2.set hat] #[λj o h=>?_,by simp])]
 ·simp only[MO]at k3;omega
 ·have:j<↥S:=bH h;show((S++[O.dic []]++wW L).set ↥S (O.dic U))[j]?=ba o;rw[a9 ∅,Lg (by simp;omega)]
  show ak h
structure Menu (S0 S:aa)(r t m:Kf):Prop where
 at_t:∃xs:J5 W,S[t]?=ba (.lst xs)/\↥xs=m/\∀x∈xs,KindOk S ↥S0 x
 pos:0<m
 few:m<=9
 fl:Fl S r
 kp:Kp r S0 S
 lt:↥S0<=t
 rlt:r<↥S0
def qV {S0 S S':aa}{r t m:Kf}{w:W}(h:Menu S0 S r t m)(hw:KindOk S' ↥S0 w)(k:Ka S S')(hm:m<9):∃xs,S'[t]?=ba (.lst xs)/\↥xs<sizeLine/\Menu S0 (S'.set t (.lst (xs++[w]))) r t (m+1):=by
 obtain⟨⟨xs,h1,h2,h3⟩,hp,hf,fl,kp,lt,rlt⟩:=h;have e:S'[t]?=ba (.lst xs):=k.get _ _ h1;have stay:∀x,KindOk S' ↥S0 x->KindOk (S'.set t (.lst (xs++[w]))) ↥S0 x:=λx hx=>hx.mono (λl ws hl el=>by
  by_cases hlt:t=l
  ·exfalso;subst hlt;rw[e]at el;injection el with el
   injection el with el
   match xs,h2,h3 with
   |[],h2,_=>simp at h2;omega
   |x::xs,_,h3=>
    obtain⟨bs,q,U,most,hx,_⟩:=h3 x (by simp)
    subst hx
    match ws with
    |[]=>simp[ag]at el
    |w::ws=>simp[ag]at el
  ·rw[a9 hlt];show el) (λl U hl el=>by
  rw[a9 (by rintro rfl;rw[e]at el;cases el)];show el)
 show#[xs,e,(by rw[Lp];omega),#[xs++[w],bn e,by simp;omega,λx hx=>?_],∅,∅,(fl.ka k).own ∅,(kp.trans (k.kp r)).late lt,lt,rlt]
 rcases La.mp hx with hx|hx
 ·show stay x ((h3 x hx).ka k)
 ·rw[Kt.mp hx];show stay w hw
def qW (bs:J5 Ks)(L:J5 CV)(most:Ks){fuel:Kf}{S0:aa}{r t m:Kf}{x0:Ke W}{K:Fm->aa->Prop}{Q:QO}(h:Menu S0 S r t m)(hm:m<9)(h1:bs∈KB)(h2:1<=most/\most<=3/\most*↥bs<=6)(hL:∀e∈L,vd ↥bs e=true)(h4:↥L<=4)(k:∀S',Menu S0 S' r t (m+1)->K [x0,ba (.ref t)] S') :
  wS M fuel (.ex (.me .append (.v 1) #v[Ad bs L most])) [x0,ba (.ref t)] S K Q:=by
 left;obtain⟨xs,e1,e2,e3⟩:=h.at_t;show#[dc e1,oX bs L most (KW h.lt (NS (bH e1))) h1 h2 hL h4 λw S' k1 k2=>?_]
 obtain⟨xs',f1,f2,f3⟩:=qV h k1 k2 hm;show ab (uT f1 f2) (k _ f3)
def ma {defs:J5 (KJ×Df)}{fuel d:Kf}{r:Kf}{Q:QW}(G:Gen defs)(hf:Fl S r)(k:∀w S',KindOk S' ↥S w->Fl S' r->Kp r S S'->Q (w,S')):wO (aN (al defs fuel (d+2)) "_law_laying_kind" 1 [.ref r] S) Q:=by
 show aw G.laying_kind rfl rfl λQ' hR=>?_
 replace k:∀w S',KindOk S' ↥S w->Fl S' r->Kp r S S'->Q' (.rt w,S'):=λz S' a b c=>hR _ _ (k z S' a b c)
 clear hR;change wZ _ _ bM [ba (.ref r),gV] S Q';have hrt:=hf.lt;unfold bM;nofun
 show HE ?_;change wA _ _ _ _ _;change wE _ _ _ _ _
 show oX [1,0] [(0,0,[0])] 3 (b:=↥S) (Ki _) #v[] #v[] #v[] #v[] λw1 S1 k1 a1=>?_
 change wE _ _ _ _ _;show oX [0,2,1] [(1,1,[1])] 2 (b:=↥S) a1.len #v[] #v[] #v[] #v[] λw2 S2 k2 a2=>?_
 have a12:=a1.trans a2;change wE _ _ _ _ _;show oX [0,1] [(1,1,[1])] 3 (b:=↥S) a12.len #v[] #v[] #v[] #v[] λw3 S3 k3 a3=>?_
 have a13:=a12.trans a3;delta wA;show hK _ _ ?_;clear hK K;have m3:Menu S (S3++[O.lst [w1,w2,w3]]) r ↥S3 3:=by
  show#[#[[w1,w2,w3],af,rfl,λx hx=>?_],#v[],#v[],(hf.ka a13).ka .push,(a13.trans .push).kp r,a13.len,hrt]
  rcases KD.mp hx with rfl|hx
  ·show(k1.ka (a2.trans a3)).ka .push
  ·rcases KD.mp hx with rfl|hx
   ·show(k2.ka a3).ka .push
   ·rw[Kt.mp hx];show k3.ka .push
 delta Kv;clear k1 k2 k3 a1 a2 a3 a12 a13;generalize ↥S3=t at m3;generalize S3++[O.lst [w1,w2,w3]]=S3' at m3;show aG λK hK=>qW [0,1] [(1,1,[1]),(0,0,[1])] 3 m3 #v[] #v[] #v[] #v[] #v[] λS4 m4=>hK _ _ ?_
 show aG λK hK=>qW [0,1] [(1,1,[])] 1 m4 #v[] #v[] #v[] #v[] #v[] λS5 m5=>hK _ _ ?_
 show aG λK hK=>qW [0,2,1] [(0,0,[0]),(0,1,[1]),(1,0,[1]),(1,1,[1])] 2 m5 #v[] #v[] #v[] #v[] #v[] λS6 m6=>hK _ _ ?_
 nofun
 left;obtain⟨xs,e1,e2,e3⟩:=m6.at_t;obtain⟨xs',f1,f2,m7⟩:=qV (S':=S6++[O.dic []]) (w:=.tup [.tup (ag [1,0]),.ref ↥S6,.int 3]) m6 #[[1,0],↥S6,[],3,rfl,#v[],#v[],#v[],#v[],af,m6.kp.len,#v[],λ_ h=>(nomatch h)] .push #v[]
 show#[dc e1,ab (uT f1 f2) (hK _ _ ?_)];show aG λK hK=>qW [0,1,2] [(2,2,[2]),(1,2,[1]),(2,1,[1]),(1,1,[1,2])] 2 m7 #v[] #v[] #v[] #v[] #v[] λS8 m8=>hK _ _ ?_
 show aG λK hK=>qW [0,1,2] [(0,0,[0,1])] 2 m8 #v[] #v[] #v[] #v[] #v[] λS9 m9=>hK _ _ ?_
 show st ?_;left;show be (d:=d) G.pick m9.fl #v[] #v[] λv S10 v0 v9 f10 k10=>?_
 obtain⟨xs,g1,g2,g3⟩:=m9.at_t;have hlt:=m9.lt;have hv:v.toNat<↥xs:=∅
 show fY (k10.get _ _ ∅ g1) v0 (Kl hv) (k _ _ ((g3 _ (Lm hv)).mono (λl ws hl e=>k10.get _ _ ∅ e) (λl ws hl e=>k10.get _ _ ∅ e)) f10 (m9.kp.trans k10))
end
abbrev qX (bs:J5 Ks):J5 (J5 Ks):=if bs=[0,1,2]then[[0,1,2],[0,2,1],[1,0,2],[1,2,0],[2,0,1],[2,1,0]]else if ↥bs=2 then[[0,1],[1,0]]else[[0,1,2],[0,2,1],[2,0,1],[2,1,0]]
abbrev im (bs nm:J5 Ks):Kf->J5 Ks
 |0=>Lf ↥bs 0
 |k+1=>(im bs nm k).set (nm.getD k 0).toNat (nm.getD (bs.getD k 0).toNat 0)
def jI (bs nm:J5 Ks):∀k,(im bs nm k).length=↥bs
 |0=>by simp[im]
 |k+1=>by simp[im,jI bs nm k]
def CW:∀bs∈KB,∀nm∈qX bs,↥nm=↥bs/\(∀x∈nm,0<=x/\x<(↥bs:Ks))/\(∀x∈bs,0<=x/\x<(↥bs:Ks))/\GoodB (im bs nm ↥bs):=by
 unfold GoodB;decide +kernel
def Ae:∀bs∈KB,(↥bs=2\/↥bs=3)/\0<(qX bs).length/\(qX bs).length<10:=by decide
section
variable{M:KJ->FF}{fuel:Kf}{Z:Fm}{S:aa}{K:Fm->aa->Prop}{Q:QO}
def CY {tg:Tg}{e:E}{b:Ss}(r:Kf)(U:J5 (T×W))(I:Kf->Fm->aa->Prop)(oe:dz e=true)(ok:hX b=true)(he:wE M e Z S λp=>p.1=.ref r/\p.2[r]?=ba (.dic U)/\I 0 Z (p.2.set r (.frd U)))
  (hstep:∀(i:Kf) (p:T×W) (Z:Fm) (S:aa),U[i]?=ba p->I i Z S->wO (fX tg p.1.w Z S) λq=>xr M fuel b q.1 q.2 (I (i+1)) Q) (hend:∀Z S,I ↥U Z S->K Z S):Wp (gB M fuel (.loop tg (.seq e) b) Z S) (rL K Q):=by
 obtain⟨w,S1,e1,rfl,e2,h0⟩:=bD oe he;show iF (mi:=.its (U.map λp=>p.1.w)) (S1:=S1.set r (.frd U)) (xs:=U.map λp=>p.1.w) I ok (by simp only[jy,ft,e1,oN e2,cp e2]) (λ_ _ _ _=>rfl) rfl h0 (λi w Z S hw hI=>?_) λZ S hI=>hend Z S (by rwa [J7]at hI)
 rw[Kh,Kb]at hw;obtain⟨p,hp,rfl⟩:=hw;show hstep i p Z S hp hI
end
section
variable{defs:J5 (KJ×Df)}{fuel d:Kf}{S:aa}{r:Kf}{Q:QW}
def HI {i n:Kf}{x:W}(h:S[i]?=ba (.lst [x]))(hn:n<=1000)(q:Q (.ref ↥S,S++[.lst (Lf n x)])):wO (gk .mul (.ref i) (.int (n:Ks)) S) Q:=by
 show ab ?_ q;have:n<=sizeLine:=few hn;simp only[gk,xU,dJ h];rw[KF #[∅,∅,by simpa using this]]
 unfold lZ;simp[this]
def ny {q:Kf}{U:J5 (T×W)}{u v:Ks}{w:W}(h:jS S q=ba U)(hg:bO U (bC u v)=ba w):n6 (.ref q) (.tup [.int u,.int v]) S=ba (w,S):=by
 have hk:gZ (.tup [.int u,.int v])=ba (bC u v):=ji;revert n6 h hk hg Lk
def Ag {q:Kf}{U:J5 (T×W)}{u v:Ks}{w:W}(h:S[q]?=ba (.dic U))(hl:↥U<sizeLine):iW (.ref q) (.tup [.int u,.int v]) w S=ba (S.set q (.dic (d0 U (bC u v) w))):=by
 have hk:gZ (.tup [.int u,.int v])=ba (bC u v):=ji;revert iW n0 h hk;rw[KF hl]
def jJ {xs:J5 Ks}{x:Ks}(h0:0<=x)(h1:x.toNat<↥xs):(ag xs)[x.toNat]?=ba (.int (xs.getD x.toNat 0)):=by
 unfold ag;rw[Kh,aq (d:=0) h1];rfl
def gH {xs:J5 Ks}{i:Kf}(h:i<↥xs):xs.getD i 0∈xs:=Ko (aq (d:=0) h)
def md (G:Gen defs){Q:QO}{bs:J5 Ks}{x0 x2:Ke W}(hb:bs∈KB)
  (hk:∀(m s:Kf) (S':aa),Ka S S'->S'[s]?=ba (.lst ((qX bs).map λnm=>W.tup (ag nm)))->↥S<=s->wZ (al defs fuel (d+1)) fuel (dr 5 bc) [x0,ba (.tup (ag bs)),x2,ba (.int ↥bs),ba (.ref m),ba (.ref s),gV,gV,gV,gV,gV,gV] S' Q) :
  wZ (al defs fuel (d+1)) fuel bc [x0,ba (.tup (ag bs)),x2,gV,gV,gV,gV,gV,gV,gV,gV,gV] S Q:=by
 generalize hd5:dr 5 bc=aQ at hk;unfold bc at hd5 ⊢;dsimp only[dr]at hd5;rw[hd5];clear hd5;nofun
 left;show aX ?_;rw[show(ag bs).length=↥bs from J7 ..]
 show hK _ _ ?_;clear hK K;nofun
 left;have hm:(((S++[O.lst [.tup [.int 0]]])++[O.lst [.tup [.int 0,.int 1],.tup [.int 1,.int 0]]])++[O.lst [.ref ↥S,.ref (S++[O.lst [.tup [.int 0]]]).length]])[((S++[O.lst [.tup [.int 0]]])++[O.lst [.tup [.int 0,.int 1],.tup [.int 1,.int 0]]]).length]?=ba (.lst [.ref ↥S,.ref (S++[O.lst [.tup [.int 0]]]).length]):=af;show hK _ _ ?_;clear hK K;generalize hS1:S++[O.lst [.tup [.int 0]]]=S1 at hm ⊢;generalize hS2:S1++[O.lst [.tup [.int 0,.int 1],.tup [.int 1,.int 0]]]=S2 at hm ⊢;generalize hS3:S2++[O.lst [.ref ↥S,.ref ↥S1]]=S3 at hm ⊢;have l1:↥S1=↥S+1:=by rw[<- hS1];simp
 have l2:↥S2=↥S1+1:=by rw[<- hS2];simp
 have l3:↥S3=↥S2+1:=by rw[<- hS3];simp
 have kS2:Ka S S2:=by rw[<- hS2,<- hS1];show Ka.push.trans .push
 nofun
 left;show#[dc hm,qI (ak hm) (by decide:2<1000) (hK _ _ ?_)]
 clear hK K;generalize hS5:(S3++[O.lst [.tup [.int 0,.int 1,.int 2],.tup [.int 0,.int 2,.int 1],.tup [.int 2,.int 0,.int 1],.tup [.int 2,.int 1,.int 0]]]).set ↥S2 (.lst ([.ref ↥S,.ref ↥S1]++[.ref ↥S3]))=S5;have k5:Ka S S5:=by
  rw[<- hS5,<- hS3];show Ka.late (kS2.trans (Ka.push.trans .push)) ∅
 have m5:S5[↥S2]?=ba (.lst [.ref ↥S,.ref ↥S1,.ref ↥S3]):=by
  rw[<- hS5];show bn (ak hm)
 have p5:S5[↥S1]?=ba (.lst [.tup [.int 0,.int 1],.tup [.int 1,.int 0]]):=by
  rw[<- hS5,a9 ∅,<- hS3,<- hS2]
  show ak (ak af)
 have t5:S5[↥S3]?=ba (.lst [.tup [.int 0,.int 1,.int 2],.tup [.int 0,.int 2,.int 1],.tup [.int 2,.int 0,.int 1],.tup [.int 2,.int 1,.int 0]]):=by
  rw[<- hS5,a9 ∅]
  show af
 have h1:↥S<=↥S1:=∅
 have h3:↥S<=↥S3:=∅
 clear hS1 hS2 hS3 hS5 hm l1 l2 l3 kS2;nofun
 delta wS wE wA wV wG Kv qG aH;have hb':bs=[1,0]\/bs=[0,2,1]\/bs=[0,1]\/bs=[0,1,2]:=by simpa [KB]using hb
 rcases hb' with rfl|rfl|rfl|rfl
 ·show eF (i:=1) m5 rfl (hK _ _ (aG λK hK=>bQ (λQ q=>q) (hK _ _ (hk _ _ _ k5 p5 h1))))
 ·show eF (i:=2) m5 rfl (hK _ _ (aG λK hK=>bQ (λQ q=>q) (hK _ _ (hk _ _ _ k5 t5 h3))))
 ·show eF (i:=1) m5 rfl (hK _ _ (aG λK hK=>bQ (λQ q=>q) (hK _ _ (hk _ _ _ k5 p5 h1))))
 ·show eF (i:=2) m5 rfl (hK _ _ (aG λK hK=>lw (λQ q=>q) λQ2 hn _=>?_))
  show st ?_;left;show kq (d:=d) G (bP (hn _ _ (hK _ _ (hk _ _ _ (k5.trans .push) af k5.len))))
def tj (G:Gen defs){S0:aa}{bs:J5 Ks}{q:Kf}{U:J5 (T×W)}(hb:bs∈KB)(hf:Fl S r)(hr:r<↥S0)(kp:Kp r S0 S)(hq:S[q]?=ba (.dic U))(hq0:↥S0<=q)(h4:↥U<=4)(hm:MustE S ↥bs ↥S0 U)
  (k:∀(bs':J5 Ks) (q':Kf) (U':J5 (T×W)) S',GoodB bs'->↥bs'=↥bs->S'[q']?=ba (.dic U')->↥S0<=q'->MustE S' ↥bs ↥S0 U'->Fl S' r->Kp r S0 S'->Q (.tup [.tup (ag bs'),.ref q'],S')) :
  wO (aN (al defs fuel (d+2)) "_law_numbered" 3 [.ref r,.tup (ag bs),.ref q] S) Q:=by
 show aw G.numbered rfl rfl λQ' hR=>?_
 replace k:∀(bs':J5 Ks) (q':Kf) (U':J5 (T×W)) S',GoodB bs'->↥bs'=↥bs->S'[q']?=ba (.dic U')->↥S0<=q'->MustE S' ↥bs ↥S0 U'->Fl S' r->Kp r S0 S'->Q' (.rt (.tup [.tup (ag bs'),.ref q']),S'):=λa b c e f g h i j l m=>hR _ _ (k a b c e f g h i j l m)
 clear hR;show md (d:=d) G hb ?_;intro m s S1 k1 e1 hs;delta dr bc;have hrt:=hf.lt;obtain⟨hb1,hb2,hb3⟩:=Ae bs hb;nofun
 left;show fZ e1 ?_;rw[J7];show be (d:=d) G.pick (hf.ka k1) ∅ ∅ λv S2 v0 v1 f2 k2=>?_
 obtain⟨nm,hnmm,enm⟩:=lz (f:=λnm=>W.tup (ag nm)) (xs:=qX bs) (i:=v.toNat) ∅
 obtain⟨n1,n2,n3,n4⟩:=CW bs hb nm hnmm;show fY (k2.get _ _ ∅ e1) v0 enm (hK _ _ ?_)
 clear hK K;nofun
 left;show HI af ∅ (hK _ _ ?_)
 clear hK K;generalize hS4:S2++[O.lst [.int 0]]=S4;have k24:Ka S2 S4:=hS4▸.push;have f4:Fl S4 r:=f2.ka k24;have kp4:Kp r S0 S4:=(kp.trans (k1.kp r)).trans (k2.trans (k24.kp r));have q4:S4[q]?=ba (.dic U):=k24.get _ _ (k2.get _ _ ∅ (k1.get _ _ hq))
 have m4:MustE S4 ↥bs ↥S0 U:=((hm.ka k1).kp hr k2).ka k24;clear hS4 k24 hm hq f2 k2 k1 e1 enm hf;nofun
 show cq (↥bs:Ks) (λk Z S'=>(∃x8,Z=[ba (.ref r),ba (.tup (ag bs)),ba (.ref q),ba (.int ↥bs),ba (.ref m),ba (.ref s),ba (.tup (ag nm)),ba (.ref ↥S4),x8,gV,gV,gV])/\S'[↥S4]?=ba (.lst (ag (im bs nm k)))/\Ka S4 S') rfl rfl ∅ #[rfl,#[_,rfl],?_,.push] ?_ ?_
 ·rw[af];simp[im,ag]
 ·rintro i Z S5 hi ⟨⟨x8,rfl⟩,e5,k5⟩ Q2 hn _;clear hK k;have hi':i<↥bs:=∅
  have hi1:i<↥nm:=∅
  have c:=n3 _ (gH hi');have c2:=n2 _ (gH hi1);show st ?_;left;show ah (Kz i) (jJ (Kz i) hi') (ah c.1 (jJ c.1 (by rw[Kw];omega)) (ah (Kz i) (jJ (Kz i) hi1) ?_))
  rw[Kw];show ab (Dw e5 c2.1 (by rw[show(ag (im bs nm i)).length=_ from J7 ..,jI];omega)) (bP (hn _ _ #[#[_,rfl],?_,k5.late (Ki _)]))
  rw[bn e5];unfold ag;rw[im,List.map_set]
 ·rintro Z S5 ⟨⟨x8,rfl⟩,e5,k5⟩;rw[Kw]at e5;show hK _ _ (st ?_);clear hK K;delta wS wE Kv;have f5:Fl S5 r:=f4.ka k5;have q5:S5[q]?=ba (.dic U):=k5.get _ _ q4;have m5:MustE S5 ↥bs ↥S0 U:=m4.ka k5;have kp5:Kp r S0 S5:=kp4.trans (k5.kp r);have hq5:=bH q5;have ht5:=bH e5;have hqt:q≠↥S4:=by rintro rfl;rw[e5]at q5;cases q5
  have hn9:(↥bs:Ks)<=3:=∅
  have hr5:=f5.lt;clear k5 m4 q4 f4;nofun
  show CY q U (λk Z S'=>(∃x10 x11,Z=[ba (.ref r),ba (.tup (ag bs)),ba (.ref q),ba (.int ↥bs),ba (.ref m),ba (.ref s),ba (.tup (ag nm)),ba (.ref ↥S4),x8,ba (.ref ↥S5),x10,x11])/\S'[q]?=ba (.frd U)/\MustE S' ↥bs ↥S0 U/\S'[↥S4]?=ba (.lst (ag (im bs nm ↥bs)))/\(∃U',S'[↥S5]?=ba (.dic U')/\↥U'<=k/\MustE S' ↥bs ↥S0 U')/\Fl S' r/\Kp r S0 S') rfl rfl #[rfl,ak q5,#[gV,gV,rfl],bn (ak q5),(m5.ka .push).set (ak q5),?_,#[[],?_,Ki _,λ_ h=>(nomatch h)],(f5.ka .push).own ∅,(kp5.trans .push).late hq0] ?_ ?_
  ·rw[a9 hqt];show ak e5
  ·rw[a9 ∅];show af
  ·rintro i p Z S6 hp ⟨⟨x10,x11,rfl⟩,q6,m6,t6,⟨U',o6,l6,mm6⟩,f6,kp6⟩;clear hK k;have hpm:=Ko hp;have hil:=(Kq.mp hp).1;obtain⟨u,v',l,ws,rfl,hu,hv',hl,hws,hl3,hw3⟩:=m6 p hpm;obtain⟨g,hg⟩:=u9 hpm;obtain⟨u2,v2,l2,ws2,he2,_,_,hl2,hws2,hl32,hw32⟩:=m6 _ (lE hg);injection he2 with _ he2
   subst he2;have hul:u.toNat<↥nm:=∅
   have hvl:v'.toNat<↥nm:=∅
   show ab (show fX (.tp [10,11]) (bC u v',W.ref l).1.w [ba (.ref r),ba (.tup (ag bs)),ba (.ref q),ba (.int ↥bs),ba (.ref m),ba (.ref s),ba (.tup (ag nm)),ba (.ref ↥S4),x8,ba (.ref ↥S5),x10,x11] S6=ba ([ba (.ref r),ba (.tup (ag bs)),ba (.ref q),ba (.int ↥bs),ba (.ref m),ba (.ref s),ba (.tup (ag nm)),ba (.ref ↥S4),x8,ba (.ref ↥S5),ba (.int u),ba (.int v')],S6)from rfl) λQ2 hn _=>?_
   show st ?_;left;show uW l2 (ag ws2) (λi zs Z2 S7=>(∃a1,Z2=[gV,a1,ba (.tup (ag nm))])/\zs=ag ((ws2.take i).map λw=>nm.getD w.toNat 0)/\S7=S6) rfl rfl rfl ?_ ?_ ?_ ?_
   ·delta wE wA wV wG;show ab (ny (CJ q6) hg) #[rfl,#[_,rfl],rfl,rfl]
   ·rintro i zs Z2 S7 ⟨_,_,rfl⟩;show hws2
   ·rintro i w zs Z2 S7 hw ⟨⟨a1,rfl⟩,rfl,rfl⟩;unfold ag at hw;rw[Kh,Kb]at hw;obtain⟨x,hx,rfl⟩:=hw;obtain⟨x0,x1⟩:=hw32 x (Ko hx);have hxl:x.toNat<↥nm:=∅
    show ab (show fX (.nm 1) (.int x) [gV,a1,ba (.tup (ag nm))] S7=ba ([gV,ba (.int x),ba (.tup (ag nm))],S7)from rfl) ?_
    delta gm wC wE wA wV wG;show#[λ_=>ah x0 (jJ x0 hxl) #[#[_,rfl],?_,rfl],λz=>by cases z]
    rw[K8,hx];simp[ag]
   ·rintro zs Z2 S7 ⟨_,rfl,rfl⟩;rw[show(ag ws2).length=↥ws2 from J7 ..,Lb]
    show#[few (by simp[ag];omega),ah hu.1 (jJ hu.1 hul) (ah hv'.1 (jJ hv'.1 hvl) ?_)]
    show ab (Ag (ak o6) (by rw[Lp];omega)) (bP (hn _ _ #[#[_,_,rfl],?_,(m6.ka .push).set (ak o6),?_,#[_,bn (ak o6),?_,?_],(f6.ka .push).own ∅,(kp6.trans .push).late kp5.len]))
    ·rw[a9 ∅];show ak q6
    ·rw[a9 ∅];show ak t6
    ·show KW (cD ..) (O2 l6)
    ·show((mm6.ka .push).put (n2 _ (gH hul)) (n2 _ (gH hvl)) kp6.len af (by simp;omega) ?_).set (ak o6)
     intro w hw;obtain⟨x,hx,rfl⟩:=Kn.mp hw;obtain⟨x0,x1⟩:=hw32 x hx;show n2 _ (gH ∅)
  ·rintro Z S6 ⟨⟨x10,x11,rfl⟩,q6,m6,t6,⟨U',o6,l6,mm6⟩,f6,kp6⟩;show hK _ _ (st ?_);left;show fA t6 (k _ _ U' _ n4 (jI _ _ _) o6 kp5.len mm6 f6 kp6)
end
abbrev wX (x y z:Ks):J5 (T×W):=[(bC 1 0,.int x),(bC 2 0,.int y),(bC 2 1,.int z)]
abbrev CZ (x y z a b c:Ks):Kf->J5 (T×W)
 |0=>wX x y z
 |1=>wX x y z++[(bC 0 1,.int a)]
 |2=>wX x y z++[(bC 0 1,.int a),(bC 0 2,.int b)]
 |_=>wX x y z++[(bC 0 1,.int a),(bC 0 2,.int b),(bC 1 2,.int c)]
def Fh {n x y z a b c:Ks}(hx:0<=x/\x<n)(hy:0<=y/\y<n)(hz:0<=z/\z<n)(ha:0<=a/\a<n)(hb:0<=b/\b<n)(hc:0<=c/\c<n):∀i j:Kf,i<3->j<3->i≠j->∃p:Ks,bO (CZ x y z a b c 3) (bC i j)=ba (.int p)/\0<=p/\p<n:=by
 intro i j hi hj hij
 match i,j,hi,hj,hij with
 |0,0,_,_,h=>show absurd rfl h
 |0,1,_,_,_=>show#[a,by rfl,ha]
 |0,2,_,_,_=>show#[b,by rfl,hb]
 |1,0,_,_,_=>show#[x,by rfl,hx]
 |1,1,_,_,h=>show absurd rfl h
 |1,2,_,_,_=>show#[c,by rfl,hc]
 |2,0,_,_,_=>show#[y,by rfl,hy]
 |2,1,_,_,_=>show#[z,by rfl,hz]
 |2,2,_,_,h=>show absurd rfl h
def qY:∀t∈ap,↥t=3/\t.getD 0 0<3/\t.getD 1 0<3/\t.getD 2 0<3/\t.getD 0 0≠t.getD 1 0/\t.getD 1 0≠t.getD 2 0/\t.getD 0 0≠t.getD 2 0:=by decide
def Ah {t:J5 Kf}(h:t∈ap):∃i j k:Kf,t=[i,j,k]/\i<3/\j<3/\k<3/\i≠j/\j≠k/\i≠k:=by
 obtain⟨h1,h2⟩:=qY t h
 match t,h1,h2 with
 |[i,j,k],_,h2=>show#[i,j,k,rfl,h2]
section
variable{defs:J5 (KJ×Df)}{fuel d:Kf}{S:aa}{r:Kf}{Q:QW}
def Ai {l:Kf}{f:Ks}{ws:J5 Ks}(h:S[l]?=ba (.lst (ag ws))):∃b,cx .notin (.int f) (.ref l) S=ba (.bl b,S):=by
 have hf:(bY (.int f)&&(ag ws).all bY)=true:=by
  (delta bY;revert O7 KA)
  intro x hx;obtain⟨z,_,rfl⟩:=Kn.mp hx;rfl
 show#[!(ag ws).any λz=>AN z (.int f),?_]
 (delta cx iN FL xp fm;simp only[oM h,au h,hf,Mm,Lk])
def Fi {q:Kf}{U:J5 (T×W)}(h:S[q]?=ba (.dic U)):tyOk "dict" S (.ref q)=true:=by simp[tyOk,cp h]
def C0 {q:Kf}{U:J5 (T×W)}(h:S[q]?=ba (.dic U))(k:Q (.ref ↥S,S++[.lst (U.map λp=>p.1.w)])):wO (Bi.list.fn [.ref q] S) Q:=by
 show ab ?_ k;have h1:BI S q=gV:=by simp[BI,h]
 have h2:mI [.ref q] S=gV:=by(delta mI iO fm;simp[h1,oN h])
 simp only[Bi.fn,wx,h2,mO,cp h]
def Aj (G:Gen defs){bs:J5 Ks}{q b0:Kf}{U:J5 (T×W)}{x y z:Ks}(hb:GoodB bs)(hx:0<=x/\x<↥bs)(hy:0<=y/\y<↥bs)(hz:0<=z/\z<↥bs)(hq:S[q]?=ba (.dic U))(hm:MustE S ↥bs b0 U)
  (k:∀b S',Ka S S'->Q (.bl b,S')):wO (aN (al defs fuel (d+2)) "_law_breaks" 5 [.tup (ag bs),.ref q,.int x,.int y,.int z] S) Q:=by
 show aw G.breaks rfl rfl λQ' hR=>?_
 replace k:∀b S',Ka S S'->Q' (.rt (.bl b),S'):=λa b c=>hR _ _ (k a b c)
 clear hR;change wZ _ _ dM [ba (.tup (ag bs)),ba (.ref q),ba (.int x),ba (.int y),ba (.int z),gV,gV,gV,gV,gV] S Q';obtain⟨a,ha1,ha⟩:=hb.rng x.toNat ∅
 obtain⟨b,hb1,hb2⟩:=hb.rng y.toNat ∅
 obtain⟨c,hc1,hc⟩:=hb.rng z.toNat ∅
 have hqt:=bH hq;unfold dM;nofun
 left;show#[af,ab (show dD [] [.tup [.int 1,.int 0],.int x,.tup [.int 2,.int 0],.int y,.tup [.int 2,.int 1],.int z]=ba (wX x y z)from rfl) (hK _ _ ?_)]
 clear hK K;have e1:((S++[O.dic []]).set ↥S (.dic (wX x y z)))[↥S]?=ba (.dic (wX x y z)):=bn af;have k1:Ka S ((S++[O.dic []]).set ↥S (.dic (wX x y z))):=Ka.push.late (Ki _);have l1:((S++[O.dic []]).set ↥S (.dic (wX x y z))).length=↥S+1:=by simp
 generalize(S++[O.dic []]).set ↥S (.dic (wX x y z))=S1 at e1 k1 l1 ⊢;nofun
 show gG rfl rfl ?_;delta wE wA wV wG;show C0 e1 #[↥S1,[dw 1 0,dw 2 0,dw 2 1],(λk Z S'=>(∃x6,Z=[ba (.tup (ag bs)),ba (.ref q),ba (.int x),ba (.int y),ba (.int z),ba (.ref ↥S),x6,gV,gV,gV])/\S'[↥S]?=ba (.dic (CZ x y z a b c k))/\S'[↥S1]?=ba (.lst [dw 1 0,dw 2 0,dw 2 1])/\Ka S S'),rfl,#[#[_,rfl],ak e1,af,k1.trans .push],λi Z S' h=>h.2.2.1,?_,?_]
 ·have step:∀(u v f g:Ks) (kv kv':J5 (T×W)) (S':aa) (i:Kf),bO kv (bC u v)=ba (.int f)->0<=f->bs[f.toNat]?=ba g->↥kv<10->d0 kv (bC v u) (.int g)=kv'->CZ x y z a b c (i+1)=kv'->∀x6:Ke W,S'[↥S]?=ba (.dic kv)->S'[↥S1]?=ba (.lst [dw 1 0,dw 2 0,dw 2 1])->Ka S S'->
    wO (fX (.nm 6) (dw u v) [ba (.tup (ag bs)),ba (.ref q),ba (.int x),ba (.int y),ba (.int z),ba (.ref ↥S),x6,gV,gV,gV] S') λp=>xr (al defs fuel (d+1)) fuel #v[.put (.v 5) (.tup #v[.ix (.v 6) (.c (.int 1)),.ix (.v 6) (.c (.int 0))]) (.ix (.v 0) (.ix (.v 5) (.v 6)))] p.1 p.2 (λZ S'=>(∃x6,Z=[ba (.tup (ag bs)),ba (.ref q),ba (.int x),ba (.int y),ba (.int z),ba (.ref ↥S),x6,gV,gV,gV])/\S'[↥S]?=ba (.dic (CZ x y z a b c (i+1)))/\S'[↥S1]?=ba (.lst [dw 1 0,dw 2 0,dw 2 1])/\Ka S S') Q':=by
   clear hK k;intro u v f g kv kv' S' i h1 h2 h3 h4 h5 h6 x6 e e' k;show ab (show fX (.nm 6) (dw u v) [ba (.tup (ag bs)),ba (.ref q),ba (.int x),ba (.int y),ba (.int z),ba (.ref ↥S),x6,gV,gV,gV] S'=ba ([ba (.tup (ag bs)),ba (.ref q),ba (.int x),ba (.int y),ba (.int z),ba (.ref ↥S),ba (dw u v),gV,gV,gV],S')from rfl) λQ2 hn _=>?_
   show st ?_;left;show ab (ny (cp e) h1) (ah h2 (w:=.int g) (by unfold ag;rw[Kh,h3];rfl) (ah #v[] rfl (ah #v[] rfl ?_)))
   show ab (Ag e (by rw[Lp];omega)) (bP (hn _ _ #[#[_,rfl],?_,?_,k.late (Ki _)]))
   ·rw[bn e,h5,h6]
   ·rw[a9 ∅];show e'
  rintro i w Z S2 hw ⟨⟨x6,rfl⟩,e2,l2,k2⟩
  match i,hw,e2 with
  |0,hw,e2=>cases hw;show step 1 0 x a _ _ S2 0 (by rfl) hx.1 ha1 (by simp[CZ,wX]) (by rfl) (by rfl) x6 e2 l2 k2
  |1,hw,e2=>cases hw;show step 2 0 y b _ _ S2 1 (by rfl) hy.1 hb1 (by simp[CZ,wX]) (by rfl) (by rfl) x6 e2 l2 k2
  |2,hw,e2=>cases hw;show step 2 1 z c _ _ S2 2 (by rfl) hz.1 hc1 (by simp[CZ,wX]) (by rfl) (by rfl) x6 e2 l2 k2
  |n+3,hw,_=>simp at hw
 ·rintro Z S2 ⟨⟨x6,rfl⟩,e2,l2,k2⟩;have hv:=Fh hx hy hz ha hb2 hc;have e2:S2[↥S]?=ba (.dic (CZ x y z a b c 3)):=e2;show hK _ _ ?_;clear hK K;have hlt2:=bH e2;nofun
  show gG rfl rfl ?_;delta wE wA wV wG;show kq (d:=d) G #[↥S2,ap.map (λt=>W.tup (am t)),(λk Z S'=>(∃x7 x8 x9,Z=[ba (.tup (ag bs)),ba (.ref q),ba (.int x),ba (.int y),ba (.int z),ba (.ref ↥S),x6,x7,x8,x9])/\S'[↥S]?=ba (.dic (CZ x y z a b c 3))/\S'[↥S2]?=ba (.lst (ap.map (λt=>W.tup (am t))))/\Ka S S'),rfl,#[#[_,_,_,rfl],ak e2,af,k2.trans .push],λi Z S' h=>h.2.2.1,?_,?_]
  ·rintro i w Z S3 hw ⟨⟨x7,x8,x9,rfl⟩,e3,l3,k3⟩;clear hK;rw[Kh,Kb]at hw;obtain⟨t,ht,rfl⟩:=hw;obtain⟨i1,j1,h1,rfl,hi1,hj1,hh1,n1,n2,n3⟩:=Ah (Ko ht);obtain⟨p1,g1,r1⟩:=hv i1 j1 hi1 hj1 n1;obtain⟨p2,g2,r2⟩:=hv j1 h1 hj1 hh1 n2;obtain⟨p3,g3,r3⟩:=hv i1 h1 hi1 hh1 n3;have q3:=k3.get _ _ hq;show ab (show fX (.tp [7,8,9]) (W.tup (am [i1,j1,h1])) [ba (.tup (ag bs)),ba (.ref q),ba (.int x),ba (.int y),ba (.int z),ba (.ref ↥S),x6,x7,x8,x9] S3=ba ([ba (.tup (ag bs)),ba (.ref q),ba (.int x),ba (.int y),ba (.int z),ba (.ref ↥S),x6,ba (.int i1),ba (.int j1),ba (.int h1)],S3)from rfl) λQ2 hn hr=>?_
   nofun
   delta wS wT wE wA wV wG;show ab (ny (cp e3) g3) #[Fi q3,ab (ny (cp e3) g1) (ab (ny (cp e3) g2) (ab (ny (cp e3) g3) ?_))];have hget:Me.get.fn (.ref q) [.tup [.int p1,.int p2],.ref ↥S3] (S3++[O.lst [.int p3]])=ba ((bO U (bC p1 p2)).getD (.ref ↥S3),S3++[O.lst [.int p3]]):=by
    have hk:gZ (.tup [.int p1,.int p2])=ba (bC p1 p2):=ji
    (delta Me.fn t8;simp only[cp (ak q3),hk])
   show ab hget ?_;have hres:∃(l:Kf) (ws:J5 Ks),(bO U (bC p1 p2)).getD (.ref ↥S3)=.ref l/\(S3++[O.lst [.int p3]])[l]?=ba (.lst (ag ws)):=by
    cases hg:bO U (bC p1 p2)with
    |none=>show#[↥S3,[p3],rfl,af]
    |some g=>
     obtain⟨u,v,l,ws,he,_,_,_,hl,_⟩:=(hm.ka k3) _ (lE hg);injection he with _ he
     subst he;show#[l,ws,rfl,ak hl]
   obtain⟨l,ws,hl1,hl2⟩:=hres;dsimp only;rw[hl1];obtain⟨kb,hkb⟩:=Ai (f:=p3) hl2;show ab hkb ?_;delta wB;show aB (Q0:=Q2) (λ_ Q3 _ hr3=>st (hr3 _ _ (hr _ _ (k _ _ (k3.trans .push))))) λ_ Q3 hn3 _=>bP (hn3 _ _ (hK _ _ (bP (hn _ _ #[#[_,_,_,rfl],ak e3,ak l3,k3.trans .push]))))
  ·rintro Z S3 ⟨⟨x7,x8,x9,rfl⟩,e3,l3,k3⟩;show hK _ _ (st (k _ _ k3))
end
def HJ {a n:Kf}{m0 m1 m2 x y z:Ks}(h0:0<=m0/\m0<a)(h1:0<=m1/\m1<a)(h2:0<=m2/\m2<a)(hx:0<=x/\x<n)(hy:0<=y/\y<n)(hz:0<=z/\z<n):GoodW a n [(m0,[]),(m1,[x]),(m2,[y,z])]:=by
 show#[λk p h=>?_,λk p h=>?_,λk p h=>?_]<;>match k,h with
 |0,h=>cases h;first|show h0|rfl|(intro w hw;cases hw)
 |1,h=>cases h;first|show h1|rfl|(intro w hw;rw[Kt.mp hw];show hx)
 |2,h=>cases h;first|show h2|rfl|(intro w hw;rcases KD.mp hw with e|hw<;>first|show e▸hy|(rw[Kt.mp hw];show hz))
 |n+3,h=>simp at h
def Fj {M:KJ->FF}{Z:Fm}{S:aa}{i n:Kf}{Q:QW}(hv:∀Q:W->Prop,Q (.int n)->wV Z i Q)(hn:n<=3)(k:∀j:Ks,0<=j->j<=27->j=(n:Ks)*n*n->Q (.int j,S)):wE M (.op .mul (.op .mul (.v i) (.v i)) (.v i)) Z S Q:=by
 have b1 : -(2^64)<(n:Ks):=∅
 have b2:(n:Ks)<2^64:=∅
 have hc:(n:Ks)*n*n<=27/\0<=(n:Ks)*n*n:=by rcases(show n=0\/n=1\/n=2\/n=3 by omega)with h|h|h|h<;>rw[h]<;>decide
 delta wE;have em:∀m:Ks,gk .mul (.int m) (.int n) S=ba (.int (m*n),S):=λm=>qH b1 b2
 generalize gk .mul=B at em ⊢;show hv _ ?_;show hv _ ?_;show ab (em _) ?_;show hv _ ?_;show ab (em _) ?_;have:=k _ hc.2 hc.1 rfl;show this
def Ak {M:KJ->FF}{fuel:Kf}{Z:Fm}{S:aa}{K:Fm->aa->Prop}{Q:QO}{i0 i n:Kf}{b:Ss}(hv:∀Q:W->Prop,Q (.int n)->wV Z i Q)(hn:n<=3)(ok:hX b=true)
  (h:∀j:Ks,0<=j->j<=27->j=(n:Ks)*n*n->∃I:Kf->Fm->aa->Prop,I 0 Z S/\(∀(i:Kf) (Z:Fm) (S:aa),(i:Ks)<j->I i Z S->xr M fuel b (Z.set i0 (ba (.int i))) S (I (i+1)) Q)/\∀Z S,I j.toNat Z S->K Z S) :
  Wp (gB M fuel (.loop (.nm i0) (.rng #v[.op .mul (.op .mul (.v i) (.v i)) (.v i)]) b) Z S) (rL K Q):=
 have hw:=Fj (M:=M) (S:=S) (Q:=λp=>∃(j:Ks) (I:Kf->Fm->aa->Prop),p.1=.int j/\(-(2^62)<=j/\j<2^62)/\I 0 Z p.2/\(∀(i:Kf) (Z:Fm) (S:aa),(i:Ks)<j->I i Z S->xr M fuel b (Z.set i0 (ba (.int i))) S (I (i+1)) Q)/\∀Z S,I j.toNat Z S->K Z S) hv hn λj j0 j27 e=>let ⟨I,h0,h1,h2⟩:=h j j0 j27 e;#[j,I,rfl,∅,h0,h1,h2]
 jg rfl ok hw
section
variable{defs:J5 (KJ×Df)}{fuel d:Kf}{S:aa}{r:Kf}{Q:QW}
def Al (hfu:20<fuel)(G:Gen defs)(hf:Fl S r)(k:∀w S',en w->Fl S' r->Kp r S S'->Q (w,S')):wO (aN (al defs fuel (d+7)) "_law_laying_rule" 1 [.ref r] S) Q:=by
 show aw G.laying_rule rfl rfl λQ' hR=>?_
 replace k:∀w S',en w->Fl S' r->Kp r S S'->Q' (.rt w,S'):=λz S' a b c=>hR _ _ (k z S' a b c)
 clear hR;change wZ _ _ bN [ba (.ref r),gV,gV,gV,gV,gV,gV,gV,gV,gV,gV,gV,gV,gV,gV] S Q';unfold bN;nofun
 left;show be (d:=d+5) G.pick hf #v[] #v[] λv S1 v0 v7 f1 k1=>hK _ _ ?_
 clear hK K;nofun
 delta wS wT wE wV wG gf aH wB;show aB (Q0:=Q') (λ_ Q2 _ hr=>?_) (λ_ Q2 hn _=>bP (hn _ _ (hK _ _ ?_)))
 ·show st ?_;left;show qT (d:=d) hfu G f1 λw S2 a b c=>hr _ _ (k w S2 a b (k1.trans c))
 clear hK K hn;nofun
 delta wS wT wE wV wG gf aH wB;show aB (Q0:=Q') (λ_ Q2 _ hr=>?_) (λ_ Q2 hn _=>bP (hn _ _ (hK _ _ ?_)))
 ·show st ?_;left;show wQ (d:=d) hfu G f1 λw S2 a b c=>hr _ _ (k w S2 a b (k1.trans c))
 clear hK K hn;have hr1:=f1.lt;nofun
 left;show ma (d:=d+4) G f1 λw2 S2 hw2 f2 k2=>?_
 obtain⟨bs0,q0,U0,most,rfl,hbs0,m1,m3,m6,hq0,hq0l,h40,hm0⟩:=hw2;delta wU;show ab (show dC [2,3,4] [.tup (ag bs0),.ref q0,.int most] [ba (.ref r),ba (.int v),gV,gV,gV,gV,gV,gV,gV,gV,gV,gV,gV,gV,gV]=ba [ba (.ref r),ba (.int v),ba (.tup (ag bs0)),ba (.ref q0),ba (.int most),gV,gV,gV,gV,gV,gV,gV,gV,gV,gV]from rfl) (hK _ _ ?_)
 clear hK K;nofun
 left;show be (d:=d+5) G.pick f2 ∅ ∅ λv3 S3 v30 v3m f3 k3=>?_
 delta c9 aH;obtain⟨a,ea⟩:∃a:Kf,1+v3=a:=#[(1+v3).toNat,∅]
 rw[ea];show hK _ _ ?_;clear hK K;nofun
 left;show tj (d:=d+4) G (S0:=S1) hbs0 f3 hr1 (k2.trans k3) (k3.get _ _ ∅ hq0) hq0l h40 (hm0.kp hr1 k3) λbs q U S4 hb hbl hq hql hm f4 k4=>?_
 delta wU;show ab (show dC [2,3] [.tup (ag bs),.ref q] [ba (.ref r),ba (.int v),ba (.tup (ag bs0)),ba (.ref q0),ba (.int most),ba (.int a),gV,gV,gV,gV,gV,gV,gV,gV,gV]=ba [ba (.ref r),ba (.int v),ba (.tup (ag bs)),ba (.ref q),ba (.int most),ba (.int a),gV,gV,gV,gV,gV,gV,gV,gV,gV]from rfl) (hK _ _ ?_)
 clear hK K;rw[<- hbl]at hm m6;have hn:↥bs=2\/↥bs=3:=by rw[hbl];show(Ae bs0 hbs0).1
 have hsz:SizeOk a bs:=#[∅,hb,by
  have h1:(a:Ks)*↥bs<=most*↥bs:=Int.mul_le_mul_of_nonneg_right ∅ ∅
  exact_mod_cast Int.le_trans h1 m6,∅]
 clear m6 hm0 hq0 hq0l h40 hbl hbs0 k2 k3 f2 f3;nofun
 left;show fT (d:=d+1) hfu G f4 ∅ ∅ λms ns S5 hml hnl hnm f5 k5=>hK _ _ ?_
 clear hK K;have kk:Kp r S S5:=k1.trans (k4.trans k5);have hrt:=f5.lt;have hq5:S5[q]?=ba (.dic U):=k5.get _ _ ∅ hq
 have hm5:MustE S5 ↥bs ↥S1 U:=hm.kp hr1 k5;have hqn:q<↥S5:=bH hq5;clear k1 k4 k5 f4 hm hq hql f1;show st ?_;delta wS wE Kv;nofun
 left;show aX ?_;rw[show(ag bs).length=↥bs from J7 ..]
 show hK _ _ ?_;clear hK K;nofun
 show Ak (n:=↥bs) (λQ q=>q) ∅ rfl λj j0 j27 hj=>?_
 show#[(λ_ Z S'=>(∃x9 x10 x11 x12 x13 x14,Z=[ba (.ref r),ba (.int v),ba (.tup (ag bs)),ba (.ref q),ba (.int most),ba (.int a),ba (dF ms ns bs []),ba (.ref ↥S5),ba (.int ↥bs),x9,x10,x11,x12,x13,x14])/\(∃U fs,S'[↥S5]?=ba (.dic U)/\FigD (aM a bs) U fs)/\S'[q]?=ba (.dic U)/\MustE S' ↥bs ↥S1 U/\Fl S' r/\Kp r S S'),#[#[_,_,_,_,_,_,rfl],#[[],[],af,.nil],ak hq5,hm5.ka .push,f5.ka .push,kk.trans .push],?_,?_]
 ·rintro i Z S6 hi ⟨⟨x9,x10,x11,x12,x13,x14,rfl⟩,⟨kvd,fs,e6,hd⟩,hq6,hm6,f6,k6⟩ Q2 hn2 _;clear hK k;have hnp:(0:Ks)<↥bs:=∅
  have hnb:(↥bs:Ks)<1073741824:=∅
  have y1:0<=(i:Ks) % ↥bs/\(i:Ks) % ↥bs<↥bs:=#[M4 _ ∅,MT _ hnp]
  have y2:0<=(i:Ks) / ↥bs % ↥bs/\(i:Ks) / ↥bs % ↥bs<↥bs:=#[M4 _ ∅,MT _ hnp]
  have y3:0<=(i:Ks) / ↥bs / ↥bs/\(i:Ks) / ↥bs / ↥bs<↥bs:=by
   rcases hn with h|h<;>rw[h]at hj ⊢<;>omega
  nofun
  left;show ab (i7 hnp) (ab (iE hnp hnb) (ab (i7 hnp) ?_));delta w2;show hK _ _ ?_;clear hK K;nofun
  left;show ab (iE hnp hnb) (ab (iE hnp hnb) (hK _ _ ?_));clear hK K;dsimp only;generalize(i:Ks) % ↥bs=z1 at y1 ⊢;generalize(i:Ks) / ↥bs % ↥bs=z2 at y2 ⊢;generalize(i:Ks) / ↥bs / ↥bs=z3 at y3 ⊢;nofun
  delta wS wT wA wE wV wG;show Aj (d:=d+4) G hb y1 y2 y3 hq6 hm6 λb S7 k7=>?_
  delta ga aH;show aB (Q0:=Q2) (λ_ Q3 hn3 _=>?_) (λ_ Q3 hn3 _=>bP (hn3 _ _ (hK _ _ (bP (hn2 _ _ #[#[_,_,_,_,_,_,rfl],#[kvd,fs,k7.get _ _ e6,hd],k7.get _ _ hq6,hm6.ka k7,f6.ka k7,k6.trans (k7.kp r)])))))
  show aG λK3 hK3=>?_
  show gG rfl rfl ?_;delta wE wA wV wG;have h56:↥S5<↥S6:=bH e6;have h67:=k7.len;show Aa (d:=d+5) G (a:=a) ∅ λt ts S8 e8 ht ht7 k8=>?_
  show#[t,ts.map oV,(λ_ Z S'=>(∃x9 x13 x14,Z=[ba (.ref r),ba (.int v),ba (.tup (ag bs)),ba (.ref q),ba (.int most),ba (.int a),ba (dF ms ns bs []),ba (.ref ↥S5),ba (.int ↥bs),x9,ba (.int z1),ba (.int z2),ba (.int z3),x13,x14])/\(∃U fs,S'[↥S5]?=ba (.dic U)/\FigD (aM a bs) U fs)/\S'[q]?=ba (.dic U)/\MustE S' ↥bs ↥S1 U/\S'[t]?=ba (.lst (ts.map oV))/\Fl S' r/\Kp r S S'),rfl,#[#[_,_,_,rfl],#[kvd,fs,k8.get _ _ (k7.get _ _ e6),hd],k8.get _ _ (k7.get _ _ hq6),(hm6.ka k7).ka k8,e8,(f6.ka k7).ka k8,k6.trans ((k7.trans k8).kp r)],λi Z S' h=>h.2.2.2.2.1,?_,?_]
  ·rintro j w Z S9 hw ⟨⟨x9,x13,x14,rfl⟩,⟨kvd,fs,e9,hd⟩,hq9,hm9,ht9,f9,k9⟩;clear hK3 hn3 hK hn2;rw[Kh,Kb]at hw;obtain⟨⟨tr1,tr2,tr3⟩,htr,rfl⟩:=hw;obtain⟨t1,t2,t3⟩:=ht _ (Ko htr);show ab (show fX (.nm 13) (oV (tr1,tr2,tr3)) [ba (.ref r),ba (.int v),ba (.tup (ag bs)),ba (.ref q),ba (.int most),ba (.int a),ba (dF ms ns bs []),ba (.ref ↥S5),ba (.int ↥bs),x9,ba (.int z1),ba (.int z2),ba (.int z3),x13,x14] S9=ba ([ba (.ref r),ba (.int v),ba (.tup (ag bs)),ba (.ref q),ba (.int most),ba (.int a),ba (dF ms ns bs []),ba (.ref ↥S5),ba (.int ↥bs),x9,ba (.int z1),ba (.int z2),ba (.int z3),ba (oV (tr1,tr2,tr3)),x14],S9)from rfl) λQ4 hn4 _=>?_
   have hu:GoodW a ↥bs [(tr1,[]),(tr2,[z1]),(tr3,[z2,z3])]:=HJ t1 t2 t3 y1 y2 y3;nofun
   left;show ah #v[] rfl (ah #v[] rfl (hK _ _ ?_))
   clear hK K;show st ?_;left;show ah #v[] rfl (ab (fe (jb rfl)) ?_)
   show jd (d:=d+3) (m0:=.tup (ms.map W.str)) (b0:=.tup []) (u:=[(tr1,[]),(tr2,[z1]),(tr3,[z2,z3])]) G hb hnl hu rfl λS10 k10=>?_
   have e10:=k10.get _ _ e9;show z7 e10 hd hsz hu rfl λo ho=>bP (hn4 _ _ #[#[_,_,_,rfl],ho,by rw[a9 ∅];show k10.get _ _ hq9,(hm9.ka k10).set e10,by rw[a9 ∅];show k10.get _ _ ht9,(f9.ka k10).own hrt,(k9.trans (k10.kp r)).late kk.len])
  ·rintro Z S9 ⟨⟨x9,x13,x14,rfl⟩,hdd,hq9,hm9,ht9,f9,k9⟩;show hK3 _ _ (bP (hn3 _ _ (hK _ _ (bP (hn2 _ _ #[#[_,_,_,_,_,_,rfl],hdd,hq9,hm9,f9,k9])))))
 ·rintro Z S6 ⟨⟨x9,x10,x11,x12,x13,x14,rfl⟩,⟨kvd,fs,e6,hd⟩,hq6,hm6,f6,k6⟩;show hK _ _ (st ?_);left;show z6 (Q:=λp=>Q' (.rt p.1,p.2)) e6 hd hsz hml hnl hnm λw S8 hw k8=>k w S8 hw (f6.ka k8) (k6.trans (k8.kp r))
end
abbrev Tr:Kf->W->Prop
 |_,.int _=>SN
 |_,.str _=>SN
 |_,.non=>SN
 |n+1,.tup xs=>↥xs<=1000/\∀x∈xs,Tr n x
 |_,_=>LV
def jK:∀n:Kf,iA (Lf n (.bl true))=ba (Lf n true)
 |0=>rfl
 |n+1=>by rw[Mr,iA,jK n];rfl
def ve (n:Kf):(Lf n true).all id=true:=by
 rw[KA];intro x hx;rw[(List.mem_replicate.mp hx).2];rfl
section
variable{defs:J5 (KJ×Df)}{fuel:Kf}
def C3 (hg:Is defs ("_law_alike": KJ) 2 2 aZ):∀(n d:Kf) (w:W) (S:aa) (Q:QW),Tr n w->(∀S',Ka S S'->Q (.bl true,S'))->wO (aN (al defs fuel (d+n+1)) "_law_alike" 2 [w,w] S) Q:=by
 intro n
 induction n with
 |zero=>
  intro d w S Q hw k;show aw hg rfl rfl λQ' hR=>?_
  replace k:=hR _ _ (k S .refl);clear hR;change wZ _ _ aZ [ba w,ba w] S Q';delta aZ;cases w with
  |int x=>
   show aG λK hK=>bQ (λQ q=>q) (hK _ _ ?_)
   show aG λK hK=>bQ (λQ q=>#[λz=>(by cases z),λ_=>q]) (hK _ _ ?_)
   show aG λK hK=>lw (λQ q=>q) λQ2 _ hr=>st ?_
   delta wS wE wV wG;show ab (show wp S (.int x) "int" = ba true from rfl) #[λ_=>?_,λz=>by cases z]
   delta gf aH;rw[Lv];show hr _ _ k
  |str x=>
   show aG λK hK=>bQ (λQ q=>q) (hK _ _ ?_)
   show aG λK hK=>bQ (λQ q=>#[λz=>(by cases z),λ_=>q]) (hK _ _ ?_)
   show aG λK hK=>bQ (λQ q=>q) (hK _ _ ?_)
   show aG λK hK=>lw (λQ q=>q) λQ2 _ hr=>st ?_
   delta wS wE wV wG;show ab (show wp S (.str x) "str" = ba true from rfl) #[λ_=>?_,λz=>by cases z]
   delta Du aH;rw[Lv];show hr _ _ k
  |non=>
   show aG λK hK=>lw (λQ q=>q) λQ2 _ hr=>st ?_
   delta wS wE wV wG;show ab (show cx .is .non .non S=ba (.bl true,S)from rfl) (hr _ _ k)
  |_=>show hw.elim
 |succ n ih=>
  intro d w S Q hw k;show aw hg rfl rfl λQ' hR=>?_
  replace k:∀S',Ka S S'->Q' (.rt (.bl true),S'):=λS' a=>hR _ _ (k S' a)
  clear hR;change wZ _ _ aZ [ba w,ba w] S Q';delta aZ;cases w with
  |int x=>
   show aG λK hK=>bQ (λQ q=>q) (hK _ _ ?_)
   show aG λK hK=>bQ (λQ q=>#[λz=>(by cases z),λ_=>q]) (hK _ _ ?_)
   show aG λK hK=>lw (λQ q=>q) λQ2 _ hr=>st ?_
   delta wS wE wV wG;show ab (show wp S (.int x) "int" = ba true from rfl) #[λ_=>?_,λz=>by cases z]
   delta gf aH;rw[Lv];show hr _ _ (k _ .refl)
  |str x=>
   show aG λK hK=>bQ (λQ q=>q) (hK _ _ ?_)
   show aG λK hK=>bQ (λQ q=>#[λz=>(by cases z),λ_=>q]) (hK _ _ ?_)
   show aG λK hK=>bQ (λQ q=>q) (hK _ _ ?_)
   show aG λK hK=>lw (λQ q=>q) λQ2 _ hr=>st ?_
   delta wS wE wV wG;show ab (show wp S (.str x) "str" = ba true from rfl) #[λ_=>?_,λz=>by cases z]
   delta Du aH;rw[Lv];show hr _ _ (k _ .refl)
  |tup xs=>
   obtain⟨hl,hx⟩:=hw;show aG λK hK=>bQ (λQ q=>q) (hK _ _ ?_)
   show aG λK hK=>bQ (λQ q=>#[λz=>(by cases z),λ_=>q]) (hK _ _ ?_)
   show aG λK hK=>bQ (λQ q=>q) (hK _ _ ?_)
   show aG λK hK=>bQ (λQ q=>q) (hK _ _ ?_)
   show aG λK hK=>bQ (λQ q=>#[λz=>(by cases z),λ_=>q]) (hK _ _ ?_)
   show st ?_;left;show aX (aX ?_);delta gf aH wB;rw[Lv];show#[λ_=>?_,λz=>by cases z]
   show dh (↥xs:Ks) (λi ys Z2 S2=>(∃a1,Z2=[gV,a1,ba (.tup xs),ba (.tup xs)])/\ys=Lf i (.bl true)/\Ka S S2) rfl rfl rfl ∅ ?_ ?_ ?_
   ·delta wE wA wV wG;show aX #[rfl,#[gV,rfl],rfl,.refl]
   ·rintro i ys Z2 S2 hi ⟨⟨a1,rfl⟩,rfl,k2⟩;have hi':i<↥xs:=∅
    delta gm wC wE wA wV wG Kv;show#[λ_=>ah (Kz i) (by rw[Kw];show Kl hi') (ah (Kz i) (by rw[Kw];show Kl hi') (ih d _ _ _ (hx _ (Lm hi')) λS3 k3=>#[#[_,rfl],?_,k2.trans k3])),λz=>by cases z]
    rw[Q6]
   ·rintro ys Z2 S2 ⟨_,rfl,k2⟩;rw[Kw];show#[few (by rw[OZ];show hl),ab (a:=(.bl true,S2++[.lst (Lf ↥xs (.bl true))])) ?_ (k _ (k2.trans .push))]
    (delta Bi.fn BK;simp only[au af,jK,Lk,ve])
  |non=>
   show aG λK hK=>lw (λQ q=>q) λQ2 _ hr=>st ?_
   delta wS wE wV wG;show ab (show cx .is .non .non S=ba (.bl true,S)from rfl) (hr _ _ (k _ .refl))
  |_=>show hw.elim
end
abbrev vf:Ss:=
 #v[.ite (.cmp .gt (.v 2) (.v 3)) #v[.ret (.ix (.ix (.ix (.v 1) (.v 2)) (.c (.int 1))) (.v 3))] .nil,.ret (.ix (.ix (.ix (.v 0) (.c (.int 1))) (.ix (.ix (.ix (.v 1) (.v 3)) (.c (.int 1))) (.v 2))) (.c (.int 1)))]
abbrev jL:Ss:=
 #v[.ret (.bi .tuple #v[.comp (.own "point_over" 4 #v[.v 4,.v 5,.sl (.v 3) .no (.yes (.v 1)),.v 2]) (.tp [1,2]) (.enu #v[.v 2]) .nil [gV,gV,gV,ba 2,ba 0,ba 1]])]
abbrev dO:Ss:=
 #v[.ret (.tup #v[.ix (.ix (.v 1) (.v 3)) (.c (.int 0)),.bi .tuple #v[.comp (.own "way" 4 #v[.v 3,.v 4,.v 2,.v 1]) (.nm 1) (.seq (.v 2)) .nil [gV,gV,ba 3,ba 0,ba 1]]])]
abbrev bF:Ss:=
 #v[.set 2 (.lst #v[.tup .nil]),.loop (.nm 3) (.rng #v[.v 1]) #v[.set 2 (.comp (.op .add (.ix (.v 3) (.op .fdiv (.v 1) (.v 2))) (.tup #v[.op .mod (.v 1) (.v 2)])) (.nm 1) (.rng #v[.op .mul (.bi .len #v[.v 2]) (.v 0)]) .nil [gV,gV,ba 0,ba 2])],.ret (.v 2)]
abbrev bW:Ss:=
 #v[.set 2 (.lst #v[.tup .nil]),.loop (.nm 3) (.rng #v[.v 1]) #v[.set 4 (.lst .nil),.loop (.nm 5) (.rng #v[.bi .len #v[.ix (.v 0) (.c (.int 0))]]) #v[.ex (.me .extend (.v 4) #v[.comp (.tup #v[.v 2,.v 1]) (.nm 1) (.seq (.own "_law_digits" 2 #v[.bi .len #v[.ix (.v 0) (.c (.int 1))],.v 3])) .nil [gV,gV,ba 5]])],.set 2 (.comp (.op .add (.ix (.v 3) (.op .fdiv (.v 1) (.bi .len #v[.v 2]))) (.tup #v[.ix (.v 2) (.op .mod (.v 1) (.bi .len #v[.v 2]))])) (.nm 1) (.rng #v[.op .mul (.bi .len #v[.v 2]) (.bi .len #v[.v 4])]) .nil [gV,gV,ba 4,ba 2])],.ret (.v 2)]
section
variable{defs:J5 (KJ×Df)}{fuel d:Kf}{S:aa}{r:Kf}{Q:QW}
def Am {M:KJ->FF}{m0 b0:W}{ns:J5 KJ}{bs:J5 Ks}{a:Kf}{u:Wd}{i j:Kf}{Q:QO}(hb:GoodB bs)(hl:↥ns=↥bs)(hu:GoodW a ↥bs u)(hi:i<↥u)(hj:j<↥u)(hij:i≠j)(k:Q (.rt (.int (bV bs u i j)),S)) :
  wZ M fuel vf [ba (.tup [m0,.tup (KI aP ns bs),b0]),ba (ay u),ba (.int i),ba (.int j)] S Q:=by
 have hpi:=aq (d:=(0,[])) hi;have hpj:=aq (d:=(0,[])) hj;unfold bV at k;delta vf;nofun
 delta wS wT wE wV wG Hv wO wB ay;show aB (Q0:=Q) (λh Q2 _ hr=>?_) (λh Q2 hn _=>?_)
 ·have hji:j<i:=by have:=Lo h;omega
  rw[KF hji]at k;have hw:j<(u.getD i (0,[])).2.length:=by rw[hu.len i _ hpi];show hji
  show st ?_;delta wS wE wV wG;show ah (Kz i) (eP hi) (ah #v[] rfl (ah (Kz j) ?_ (hr _ _ k)))
  rw[Kw,Kh,aq (d:=0) hw];rfl
 ·have hji:¬ j<i:=by have:=MU h;omega
  rw[KM hji]at k;show bP (hn _ _ (hK _ _ ?_));clear hn hK;have hw:i<(u.getD j (0,[])).2.length:=by rw[hu.len j _ hpj];omega
  have hg:=aq (d:=0) hw;obtain⟨g1,g2⟩:=hu.way j _ hpj _ (Ko hg);obtain⟨b,hb1,hb2,hb3⟩:=hb.rng ((u.getD j (0,[])).2.getD i 0).toNat ∅
  have hn:((u.getD j (0,[])).2.getD i 0).toNat<↥ns:=∅
  rw[getD_some hb1]at k;show st ?_;delta wS wE wV wG;show ah #v[] rfl (ah (Kz j) (eP hj) (ah #v[] rfl (ah (Kz i) ?_ (ah g1 (oP (Kl hn) hb1) (ah #v[] rfl k)))))
  rw[Kw,Kh,hg];rfl
structure Parts (defs:J5 (KJ×Df)):Prop where
 way:Is defs ("way": KJ) 4 4 vf
 over:Is defs ("point_over": KJ) 4 4 dO
def HK (P:Parts defs){m0 b0:W}{ns:J5 KJ}{bs:J5 Ks}{a:Kf}{u:Wd}{i j:Kf}(hb:GoodB bs)(hl:↥ns=↥bs)(hu:GoodW a ↥bs u)(hi:i<↥u)(hj:j<↥u)(hij:i≠j)(k:Q (.int (bV bs u i j),S)) :
  wO (aN (al defs fuel (d+1)) "way" 4 [.tup [m0,.tup (KI aP ns bs),b0],ay u,.int i,.int j] S) Q:=
 aw P.way rfl rfl λQ' hR=>Am hb hl hu hi hj hij (hR _ _ k)
def An (P:Parts defs){m0 b0:W}{ns:J5 KJ}{bs:J5 Ks}{a:Kf}{u:Wd}{ps:J5 Kf}{i:Kf}(hb:GoodB bs)(hl:↥ns=↥bs)(hu:GoodW a ↥bs u)(hps:∀p∈ps,p<↥u/\i≠p)(hi:i<↥u)(hsz:↥ps<=1000)(k:∀S',Ka S S'->Q (bw ((u.getD i (0,[])).1,ps.map λq=>bV bs u i q),S')) :
  wO (aN (al defs fuel (d+2)) "point_over" 4 [.tup [m0,.tup (KI aP ns bs),b0],ay u,.tup (am ps),.int i] S) Q:=by
 show aw P.over rfl rfl λQ' hR=>?_
 replace k:∀S',Ka S S'->Q' (.rt (bw ((u.getD i (0,[])).1,ps.map λq=>bV bs u i q)),S'):=λS' a=>hR _ _ (k S' a)
 clear hR;change wZ _ _ dO [ba (.tup [m0,.tup (KI aP ns bs),b0]),ba (ay u),ba (.tup (am ps)),ba (.int i)] S Q';generalize hR0:W.tup [m0,.tup (KI aP ns bs),b0]=R;delta dO;show st ?_;left;show ah (Kz i) (eP hi) (ah #v[] rfl ?_)
 show uV (am ps) (λj ys Z2 S2=>(∃a1,Z2=[gV,a1,ba (.int i),ba R,ba (ay u)])/\ys=(ps.take j).map (λq=>W.int (bV bs u i q))/\Ka S S2) rfl rfl rfl #[rfl,#[gV,rfl],rfl,.refl] ?_ ?_
 ·rintro j w ys Z2 S2 hw ⟨⟨a1,rfl⟩,rfl,k2⟩;unfold am at hw;rw[Kh,Kb]at hw;obtain⟨q,hq,rfl⟩:=hw;obtain⟨hqu,hqi⟩:=hps q (Ko hq);show ab (show fX (.nm 1) (.int (q:Ks)) [gV,a1,ba (.int i),ba R,ba (ay u)] S2=ba ([gV,ba (.int (q:Ks)),ba (.int i),ba R,ba (ay u)],S2)from rfl) ?_
  delta gm wC wE wA wV wG;subst hR0;show#[λ_=>HK (d:=d) P hb hl hu hi hqu hqi #[#[_,rfl],?_,k2],λz=>by cases z]
  rw[K8,hq];simp
 ·rintro ys Z2 S2 ⟨_,rfl,k2⟩;rw[show(am ps).length=↥ps from J7 ..,Lb]
  show#[few (by rw[J7];show hsz),fA af ?_]
  have:=k _ (k2.trans (Ka.push (o:=O.lst (ps.map λq=>W.int (bV bs u i q)))))
  unfold bw at this;rw[L5]at this;show this
def HL (P:Parts defs)(hp:Is defs ("part": KJ) 3 3 jL){m0 b0:W}{ns:J5 KJ}{bs:J5 Ks}{a:Kf}{u:Wd}{ps:J5 Kf}(hb:GoodB bs)(hl:↥ns=↥bs)(hu:GoodW a ↥bs u)(hps:∀p∈ps,p<↥u)(hnd:ps.Nodup)(hsz:↥ps<=1000)(k:∀S',Ka S S'->Q (ay (aj bs u ps),S')) :
  wO (aN (al defs fuel (d+3)) "part" 3 [.tup [m0,.tup (KI aP ns bs),b0],ay u,.tup (am ps)] S) Q:=by
 show aw hp rfl rfl λQ' hR=>?_
 replace k:∀S',Ka S S'->Q' (.rt (ay (aj bs u ps)),S'):=λS' a=>hR _ _ (k S' a)
 clear hR;change wZ _ _ jL [ba (.tup [m0,.tup (KI aP ns bs),b0]),ba (ay u),ba (.tup (am ps))] S Q';generalize hR0:W.tup [m0,.tup (KI aP ns bs),b0]=R;delta jL;show st ?_;delta wS wE wA;show CK (am ps) (λj ys Z2 S2=>(∃a1 a2,Z2=[gV,a1,a2,ba (.tup (am ps)),ba R,ba (ay u)])/\ys=((aj bs u ps).take j).map bw/\Ka S S2) rfl rfl rfl #[rfl,#[gV,gV,rfl],rfl,.refl] ?_ ?_
 ·rintro j w ys Z2 S2 hw ⟨⟨a1,a2,rfl⟩,rfl,k2⟩;unfold am at hw;rw[Kh,Kb]at hw;obtain⟨q,hq,rfl⟩:=hw;have hj:j<↥ps:=(Kq.mp hq).1;have eq:q=ps[j]:=(Kq.mp hq).2.symm;show ab (show fX (.tp [1,2]) (.tup [.int (j:Ks),.int (q:Ks)]) [gV,a1,a2,ba (.tup (am ps)),ba R,ba (ay u)] S2=ba ([gV,ba (.int (j:Ks)),ba (.int (q:Ks)),ba (.tup (am ps)),ba R,ba (ay u)],S2)from rfl) ?_
  delta gm wC wE wA wP wV wG wN;show#[λ_=>ab (a:=(.tup (am (ps.take j)),S2)) ?_ ?_,λz=>by cases z]
  ·revert mE gF;unfold am;rw[O8]
  ·subst hR0;show An (d:=d) P hb hl hu (λp hp=>#[hps p (MF hp),?_]) (hps q (Ko hq)) (by rw[K2];omega) λS3 k3=>#[#[_,_,rfl],?_,k2.trans k3]
   ·obtain⟨m,hm,e⟩:=L3.mp hp;rw[K2]at hm;rw[N8]at e;rw[eq,<- e];intro z;have:=(MR hnd).mp z;omega
   ·have ep:(aj bs u ps)[j]?=ba ((u.getD q (0,[])).1,(ps.take j).map λq'=>bV bs u q q'):=by
     unfold aj;rw[Kh,MM hj,Lk,getD_some hq]
    rw[K8,ep];simp
 ·rintro ys Z2 S2 ⟨_,rfl,k2⟩;rw[show(am ps).length=↥ps from J7 ..,<- aO bs u ps,Lb]
  show#[few (by rw[J7,aO];show hsz),fA af (k _ (k2.trans .push))]
end
abbrev br (n:Kf):Kf->J5 (J5 Ks)
 |0=>[[]]
 |k+1=>(KH ((br n k).length*n)).map λi=>(br n k).getD (i/n) []++[((i % n:Kf):Ks)]
abbrev bg (a n k:Kf):J5 Pt:=(KH a).flatMap λ(m:Kf)=>(br n k).map λds=>(((m:Kf):Ks),ds)
abbrev aL (a n:Kf):Kf->J5 Wd
 |0=>[[]]
 |k+1=>(KH ((aL a n k).length*(bg a n k).length)).map λi=>(aL a n k).getD (i/(bg a n k).length) []++[(bg a n k).getD (i % (bg a n k).length) (0,[])]
def C4 {n k:Kf}{ds:J5 Ks}:ds∈br n k->↥ds<=k:=by
 induction k generalizing ds with
 |zero=>intro h;cases Kt.mp h;show Ki _
 |succ k ih=>
  intro h;obtain⟨i,hi,rfl⟩:=Kn.mp h;have hi:=Kx.mp hi;have hn:0<n:=by
   rcases NY n with h|h
   ·rw[h,Qu]at hi;omega
   ·show h
  have hlt:i/n<(br n k).length:=MX (by rw[Ol];show hi)
  have:=ih (Ko (aq (d:=[]) hlt));rw[Kk,LQ];omega
def DB {M:KJ->FF}{Z:Fm}{S:aa}{a b:E}{x y:Ks}{Q:QW}(ha:∀Q:QW,Q (.int x,S)->wE M a Z S Q)(hb:∀Q:QW,Q (.int y,S)->wE M b Z S Q)(h1 : -(2^64)<y)(h2:y<2^64)(q:Q (.int (x*y),S)):wE M (.op .mul a b) Z S Q:=by
 have em:gk .mul (.int x) (.int y) S=ba (.int (x*y),S):=qH h1 h2;delta wE;show ha _ ?_;show hb _ ?_;dsimp only;rw[em];show q
def iH {n:Kf}:∀k:Kf,(br n k).length=n^k
 |0=>rfl
 |k+1=>by rw[br,J7,KQ,iH k,Pn]
def Ao {n k:Kf}(hn:n<=3)(hk:k<=5):(br n k).length<=243/\(k<=4->(br n k).length<=81):=by
 rw[iH];show#[KW (Ow hn k) (Nv (n:=3) #v[] hk),λh=>KW (Ow hn k) (Nv (n:=3) #v[] h)]
section
variable{defs:J5 (KJ×Df)}{fuel d:Kf}{S:aa}{r:Kf}{Q:QW}
def Ap (hg:Is defs ("_law_digits": KJ) 2 4 bF){n k:Kf}(hn1:1<=n)(hn3:n<=3)(hk5:k<=5)(kk:∀(q:Kf) (S':aa),S'[q]?=ba (.lst ((br n k).map λds=>.tup (ag ds)))->↥S<=q->Ka S S'->Q (.ref q,S')) :
  wO (aN (al defs fuel (d+1)) "_law_digits" 2 [.int n,.int k] S) Q:=by
 show aw hg rfl rfl λQ' hR=>?_
 replace kk:∀(q:Kf) (S':aa),S'[q]?=ba (.lst ((br n k).map λds=>.tup (ag ds)))->↥S<=q->Ka S S'->Q' (.rt (.ref q),S'):=λa b c e f=>hR _ _ (kk a b c e f)
 clear hR;change wZ _ _ bF [ba (.int n),ba (.int k),gV,gV] S Q';delta bF;show st ?_;delta wS wE wA Kv;nofun
 show cq (k:Ks) (λi Z S'=>∃(q:Kf) (a3:Ke W),Z=[ba (.int n),ba (.int k),ba (.ref q),a3]/\S'[q]?=ba (.lst ((br n i).map λds=>.tup (ag ds)))/\↥S<=q/\Ka S S') rfl rfl ∅ #[rfl,_,_,rfl,af,Ki _,.push] ?_ ?_
 ·rintro i Z S1 hi ⟨q,a3,rfl,e1,hq,k1⟩ Q2 hn _;clear hK kk;obtain⟨b9,b3⟩:=Ao (n:=n) (k:=i) hn3 ∅
  have b3:=b3 ∅
  have hP:(br n i).length*n<=243:=Og b3 hn3;have hPz:(((br n i).length:Ks)*(n:Ks))=(((br n i).length*n:Kf):Ks):=(Qy ..).symm;show st ?_;delta wS wE Kv;show dh ((((br n i).length*n:Kf)):Ks) (λj ys Z2 S2=>(∃a1,Z2=[gV,a1,ba (.int n),ba (.ref q)])/\ys=((br n (i+1)).take j).map (λds=>.tup (ag ds))/\S2=S1) rfl rfl rfl ∅ ?_ ?_ ?_
  ·show DB (x:=(br n i).length) (y:=n) (λQ q=>?_) (λQ q=>q) ∅ ∅ #[by rw[hPz],#[gV,rfl],rfl,rfl]
   delta wE wA wV wG;show fZ e1 ?_;rw[J7];show q
  ·rintro j ys Z2 S2 hj ⟨⟨a1,rfl⟩,rfl,rfl⟩;have hj':j<(br n i).length*n:=∅
   have hlt:j/n<(br n i).length:=MX (by rw[Ol];show hj')
   have hg:=aq (d:=[]) hlt;have hdl:=C4 (Ko hg);delta gm wC wE wA wV wG Kv;show#[λ_=>ab (iE ∅ ∅) ?_,λz=>by cases z]
   show fY e1 (w:=.tup (ag ((br n i).getD (j/n) []))) (Pf ∅ ∅) (by rw[show((j:Ks)/(n:Ks)).toNat=j/n from rfl,Kh,hg];rfl) ?_
   show ab (i7 ∅) (ab (fe (few (by rw[Kk,show(ag ((br n i).getD (j/n) [])).length=((br n i).getD (j/n) []).length from J7 ..];show _+1<=1000;omega))) #[#[_,rfl],?_,rfl])
   have ed:(br n (i+1))[j]?=ba ((br n i).getD (j/n) []++[((j % n:Kf):Ks)]):=by
    rw[br,Kh,MM hj'];rfl
   rw[K8,ed];simp[ag]
  ·rintro ys Z2 S2 ⟨_,rfl,rfl⟩;have hl:(br n (i+1)).length=(br n i).length*n:=by rw[br,J7,KQ]
   rw[Kw,<- hl,Lb];show#[few (by rw[J7,hl];omega),bP (hn _ _ #[_,_,rfl,af,k1.len,k1.trans .push])]
 ·rintro Z S1 ⟨q,a3,rfl,e1,hq,k1⟩;show hK _ _ (st (kk q S1 (by rw[Kw]at e1;show e1) hq k1))
end
def C5 {a n k:Kf}{u:Wd}:u∈aL a n k->↥u<=k:=by
 induction k generalizing u with
 |zero=>intro h;cases Kt.mp h;show Ki _
 |succ k ih=>
  intro h;obtain⟨i,hi,rfl⟩:=Kn.mp h;have hi:=Kx.mp hi;have hlt:i/(bg a n k).length<(aL a n k).length:=MX (by rw[Ol];show hi)
  have:=ih (Ko (aq (d:=[]) hlt));rw[Kk,LQ];omega
def eu {a n k:Kf}:(bg a n k).length=a*n^k:=by
 unfold bg
 induction a with
 |zero=>simp
 |succ a ih=>rw[N2,MN,Kk,ih];simp[iH,Oj]
def bR {a n:Kf}(k:Kf):(aL a n (k+1)).length=(aL a n k).length*(bg a n k).length:=by rw[aL,J7,KQ]
def lF {a n k:Kf}(ha1:1<=a)(ha:a<=3)(hn1:1<=n)(hn:n<=3)(han:a*n<=6)(hk:k<=2):1<=(bg a n k).length/\(bg a n k).length<=27/\(aL a n k).length*(bg a n k).length<=216:=by
 have w0:(aL a n 0).length=1:=rfl;have w1:=bR (a:=a) (n:=n) 0;have w2:=bR (a:=a) (n:=n) 1;simp only[eu]at w1 w2 ⊢;rcases(show k=0\/k=1\/k=2 by omega)with rfl|rfl|rfl<;>rcases(show a=1\/a=2\/a=3 by omega)with rfl|rfl|rfl<;>rcases(show n=1\/n=2\/n=3 by omega)with rfl|rfl|rfl<;>simp_all
def lG {M:KJ->FF}{Z:Fm}{S:aa}{elt e:E}{tg:Tg}{cs:Es}{cap:J5 (Ke Kf)}{Q:QW}(oi:dz e=true)(oe:dz elt=true)(oc:nq cs=true)(he:wE M e Z S λp=>∃(t:Kf) (xs:J5 W) (I:Kf->J5 W->Fm->aa->Prop),p.1=.ref t/\I 0 [] (eW cap Z) p.2/\(∀i ys Z S,I i ys Z S->S[t]?=ba (.lst xs))/\
  (∀(i:Kf) (w:W) (ys:J5 W) (Z:Fm) (S:aa),xs[i]?=ba w->I i ys Z S->wO (fX tg w Z S) λq=>gm M elt cs q.1 q.2 (λy=>I (i+1) (ys++[y])) (I (i+1) ys))/\
  ∀ys Z S,I ↥xs ys Z S->↥ys<=sizeLine/\Q (.ref ↥S,S++[.lst ys])):Wp (aA M (.comp elt tg (.seq e) cs cap) Z S) Q:=by
 obtain⟨w,S1,e1,t,xs,I,rfl,h0,hat,hstep,hend⟩:=bD oi he;show jF (mi:=.live t) (S1:=S1) I oe oc (by simp only[jy,ft,e1,au (hat _ _ _ _ h0)]) (λi ys Z S h=>by simp only[MI.at,au (hat _ _ _ _ h)]) (by simp only[MI.len,au (hat _ _ _ _ h0),Lk]) h0 hstep hend
section
variable{defs:J5 (KJ×Df)}{fuel d:Kf}{S:aa}{r:Kf}{Q:QW}
def HM {t l:Kf}{xs ys:J5 W}(h:S[t]?=ba (.lst xs))(h2:S[l]?=ba (.lst ys))(hl:↥xs+↥ys<=1000)(q:Q (.non,S.set t (.lst (xs++ys)))):wO (Me.extend.fn (.ref t) [.ref l] S) Q:=by
 show ab ?_ q
 (delta Me.fn iQ;simp only[dJ h,dJ h2])
 rw[KF (few hl)]
def nz (hd:Is defs ("_law_digits": KJ) 2 4 bF)(hg:Is defs ("_law_worlds": KJ) 2 6 bW){a n K:Kf}{Mqa N:J5 W}{b0:W}(hM:↥Mqa=a)(hN:↥N=n)(ha1:1<=a)(ha3:a<=3)(hn1:1<=n)(hn3:n<=3)(hK5:K<=5)(most:∀i<K,1<=(bg a n i).length/\(bg a n i).length<=27/\(aL a n i).length*(bg a n i).length<=216)
  (kk:∀(q:Kf) (S':aa),S'[q]?=ba (.lst ((aL a n K).map ay))->↥S<=q->Ka S S'->Q (.ref q,S')) :
  wO (aN (al defs fuel (d+2)) "_law_worlds" 2 [.tup [.tup Mqa,.tup N,b0],.int (K:Ks)] S) Q:=by
 show aw hg rfl rfl λQ' hR=>?_
 replace kk:∀(q:Kf) (S':aa),S'[q]?=ba (.lst ((aL a n K).map ay))->↥S<=q->Ka S S'->Q' (.rt (.ref q),S'):=λa b c e f=>hR _ _ (kk a b c e f)
 clear hR;change wZ _ _ bW [ba (.tup [.tup Mqa,.tup N,b0]),ba (.int (K:Ks)),gV,gV,gV,gV] S Q';generalize hR0:W.tup [.tup Mqa,.tup N,b0]=R;delta bW;show st ?_;delta wS wE wA Kv;show aG λK' hK=>?_
 show cq (K:Ks) (λi Z S'=>∃(q:Kf) (a3 a4 a5:Ke W),Z=[ba R,ba (.int (K:Ks)),ba (.ref q),a3,a4,a5]/\S'[q]?=ba (.lst ((aL a n i).map ay))/\↥S<=q/\Ka S S') rfl rfl ∅ #[rfl,_,_,_,_,rfl,af,Ki _,.push] ?_ ?_
 ·rintro i Z S1 hi ⟨q,a3,a4,a5,rfl,e1,hq,k1⟩ Q2 hn _;clear hK kk;obtain⟨p1,p27,hP⟩:=most i ∅
  have hq1:=bH e1;show st ?_;delta wS wE wA Kv;show aG λK' hK=>?_
  show jg rfl rfl ?_;delta wE wA wV wG;subst hR0;show ah #v[] rfl (aX ?_)
  rw[hM];show#[(a:Ks),λm Z S'=>∃a5,Z=[ba (.tup [.tup Mqa,.tup N,b0]),ba (.int (K:Ks)),ba (.ref q),ba (.int i),ba (.ref ↥S1),a5]/\S'[↥S1]?=ba (.lst ((bg m n i).map bw))/\S'[q]?=ba (.lst ((aL a n i).map ay))/\Ka S S',rfl,∅,#[a5,rfl,af,ak e1,k1.trans .push],?_,?_]
  ·rintro m Z S2 hm ⟨a5,rfl,e2,e2q,k2⟩ Q3 hn3' _;clear hK hn;have hS12:=bH e2;show st ?_;left;show#[dc e2,?_];show lG rfl rfl rfl ?_;delta wE wA wV wG;show ah #v[] rfl (aX ?_)
   rw[hN];show Ap (d:=d) hd hn1 hn3 ∅ λl S3 e3 hl k3=>?_
   show#[l,(br n i).map λds=>.tup (ag ds),λj ys Z2 S4=>(∃a1,Z2=[gV,a1,ba (.int m)])/\ys=((br n i).take j).map (λds=>bw ((m:Ks),ds))/\S4=S3,rfl,#[#[gV,rfl],rfl,rfl],λj ys Z2 S4 h=>by rw[h.2.2];show e3,?_,?_]
   ·rintro j w ys Z2 S4 hw ⟨⟨a1,rfl⟩,rfl,rfl⟩;rw[Kh,Kb]at hw;obtain⟨ds,hds,rfl⟩:=hw;show ab (show fX (.nm 1) (.tup (ag ds)) [gV,a1,ba (.int m)] S4=ba ([gV,ba (.tup (ag ds)),ba (.int m)],S4)from rfl) ?_
    show#[λ_=>#[#[_,rfl],?_,rfl],λz=>by cases z]
    rw[K8,hds];simp[bw,ag]
   ·rintro ys Z2 S4 ⟨_,rfl,rfl⟩;rw[show((br n i).map λds=>W.tup (ag ds)).length=(br n i).length from J7 ..,Lb]
    have hdl:=(Ao (n:=n) (k:=i) hn3 ∅).1
    have e2':=ak (u:=O.lst ((br n i).map λds=>bw ((m:Ks),ds))) (k3.get _ _ e2)
    have hpm:(bg m n i).length<=27:=by
     rw[eu]at p27 ⊢;show KW (Oh _ ∅) p27
    show#[few (by rw[J7];omega),HM e2' af (by rw[J7,J7];omega) (bP (hn3' _ _ #[_,rfl,?_,?_,((k2.trans k3).trans .push).late k1.len]))]
    ·rw[bn e2'];unfold bg;rw[N2,MN,K5];simp
    ·rw[a9 ∅];show ak (k3.get _ _ e2q)
  ·rintro Z S2 ⟨a5,rfl,e2,e2q,k2⟩;rw[Kw]at e2;show hK _ _ ?_;clear hK K';have hPz:(((aL a n i).length:Ks)*((bg a n i).length:Ks))=(((aL a n i).length*(bg a n i).length:Kf):Ks):=(Qy ..).symm;show st ?_;delta wS wE Kv;show dh (((aL a n i).length*(bg a n i).length:Kf):Ks) (λj ys Z2 S3=>(∃a1,Z2=[gV,a1,ba (.ref ↥S1),ba (.ref q)])/\ys=((aL a n (i+1)).take j).map ay/\S3=S2) rfl rfl rfl ∅ ?_ ?_ ?_
   ·show DB (x:=(aL a n i).length) (y:=(bg a n i).length) (λQ q'=>?_) (λQ q'=>?_) ∅ ∅ #[by rw[hPz],#[gV,rfl],rfl,rfl]
    ·delta wE wA wV wG;show fZ e2q ?_;rw[J7];show q'
    ·delta wE wA wV wG;show fZ e2 ?_;rw[J7];show q'
   ·rintro j ys Z2 S3 hj ⟨⟨a1,rfl⟩,rfl,rfl⟩;have hj':j<(aL a n i).length*(bg a n i).length:=∅
    have hlt:j/(bg a n i).length<(aL a n i).length:=MX (by rw[Ol];show hj')
    have hg:=aq (d:=[]) hlt;have hwl:=C5 (Ko hg);have hmod:j % (bg a n i).length<(bg a n i).length:=OF _ p1;have hp:=aq (d:=(0,[])) hmod;delta gm wC wE wA wV wG Kv;show#[λ_=>fZ e2 ?_,λz=>by cases z]
    rw[J7];show ab (iE ∅ ∅) ?_
    show fY e2q (w:=ay ((aL a n i).getD (j/(bg a n i).length) [])) (Pf ∅ ∅) (by rw[show((j:Ks)/((bg a n i).length:Ks)).toNat=j/(bg a n i).length from rfl,Kh,hg];rfl) (fZ e2 ?_)
    rw[J7];show ab (i7 ∅) (fY e2 (w:=bw ((bg a n i).getD (j % (bg a n i).length) (0,[]))) (M4 _ ∅) (by rw[show((j:Ks) % ((bg a n i).length:Ks)).toNat=j % (bg a n i).length from rfl,Kh,hp];rfl) ?_)
    show ab (fe (few (by rw[Kk,J7];show _+1<=1000;omega))) #[#[_,rfl],?_,rfl]
    have ed:(aL a n (i+1))[j]?=ba ((aL a n i).getD (j/(bg a n i).length) []++[(bg a n i).getD (j % (bg a n i).length) (0,[])]):=by
     rw[aL,Kh,MM hj'];rfl
    rw[K8,ed];simp[ay]
   ·rintro ys Z2 S3 ⟨_,rfl,rfl⟩;rw[Kw,<- bR,Lb];show#[few (by rw[J7,bR];omega),bP (hn _ _ #[_,_,_,_,rfl,af,k2.len,k2.trans .push])]
 ·rintro Z S1 ⟨q,a3,a4,a5,rfl,e1,hq,k1⟩;rw[Kw]at e1;show hK _ _ (st (kk q S1 e1 hq k1))
def Aq (hd:Is defs ("_law_digits": KJ) 2 4 bF)(hg:Is defs ("_law_worlds": KJ) 2 6 bW){a n:Kf}{Mqa N:J5 W}{b0:W}(hM:↥Mqa=a)(hN:↥N=n)(ha1:1<=a)(ha3:a<=3)(hn1:1<=n)(hn3:n<=3)(han:a*n<=6)
  (kk:∀(q:Kf) (S':aa),S'[q]?=ba (.lst ((aL a n 3).map ay))->↥S<=q->Ka S S'->Q (.ref q,S')) :
  wO (aN (al defs fuel (d+2)) "_law_worlds" 2 [.tup [.tup Mqa,.tup N,b0],.int 3] S) Q:=
 nz (K:=3) hd hg hM hN ha1 ha3 hn1 hn3 #v[] (λi hi=>lF ha1 ha3 hn1 hn3 han ∅) kk
end
abbrev gI (bs:J5 Ks)(v:Wd)(ps:J5 Kf)(i:Kf):Pt:=((v.getD i (0,[])).1,ps.map λq=>bV bs v i q)
abbrev aE (n:Kf)(os:J5 (J5 Kf)):J5 (J5 Kf):=os.flatMap λo=>((KH n).filter λp=>decide (p∉o)).map λp=>o++[p]
def dR (bs:J5 Ks)(v:Wd)(o:J5 Kf)(p:Kf):aj bs v (o++[p])=aj bs v o++[gI bs v o p]:=by
 unfold aj gI;rw[Kk,LQ,N2,K5];congr 1
 ·show LS λk hk=>?_
  have hk:=Kx.mp hk;rw[show(o++[p]).getD k 0=o.getD k 0 by simp[Lg hk],NR ∅]
 ·simp
def jj {n:Kf}:∀os:J5 (J5 Kf),(aE n os).length<=↥os*n
 |[]=>by simp[aE]
 |o::os=>by
  have ih:=jj (n:=n) os;unfold aE at ih ⊢;rw[M3,Kk,J7,KZ,Oj];have:=Nk (λp=>decide (p∉o)) (KH n)
  rw[KQ]at this;omega
def wY {n:Kf}{os:J5 (J5 Kf)}{i:Kf}:(aE n (os.take i)).length<=↥os*n:=by
 show KW (jj _) (Oh _ ?_);rw[K2];omega
def nA {S:aa}{d:Kf}:∀xs ys:J5 Ks,j7 (kH S d) (xs.map W.int) (ys.map W.int)=ba (decide (xs=ys))
 |[],[]=>rfl
 |[],_::_=>rfl
 |_::_,[]=>rfl
 |x::xs,y::ys=>by
  have e:kH S d (.int x) (.int y)=ba (x==y):=by cases d<;>rfl
  simp only[LF,j7,e,nA xs ys]
  by_cases h:x=y
  ·subst h;by_cases h2:xs=ys<;>simp[h2]
  ·have h':(x==y)=false:=by simpa using h
   simp[h,h']
def Fk {S:aa}{d:Kf}(p q:Pt):kH S (d+2) (bw p) (bw q)=ba (decide (p=q)):=by
 obtain⟨m,ws⟩:=p;obtain⟨m',ws'⟩:=q;change j7 (kH S (d+1)) [.int m,.tup (ws.map W.int)] [.int m',.tup (ws'.map W.int)]=_;have e:kH S (d+1) (.int m) (.int m')=ba (m==m'):=rfl;have e2:kH S (d+1) (.tup (ws.map W.int)) (.tup (ws'.map W.int))=ba (decide (ws=ws')):=nA ws ws';revert j7 e e2
 by_cases h:m=m'
 ·subst h;by_cases h2:ws=ws'<;>simp[h2]
 ·have h':(m==m')=false:=by simpa using h
  simp[h,h']
def HN {S:aa}{p q:Pt}:cx .eq (bw p) (bw q) S=ba (.bl (decide (p=q)),S):=by
 show(kH S (18+2) (bw p) (bw q)).map _=_;rw[Fk];rfl
def qZ {p:Kf}:∀ps:J5 Kf,((am ps).any λz=>AN z (.int p))=decide (p∈ps)
 |[]=>rfl
 |q::ps=>by
  show((q:Ks)==(p:Ks)||(am ps).any _)=_
  rw[qZ ps]
  by_cases h:q=p
  ·subst h;simp
  ·have h1:((q:Ks)==(p:Ks))=false:=by simp;omega
   have h2:¬ p=q:=λe=>h e.symm
   rw[h1];simp[h2]
def w6 (ps:J5 Kf):(am ps).all bY=true:=by
 rw[KA];intro x hx;obtain⟨p,_,rfl⟩:=Kn.mp hx;rfl
def Ar {S:aa}{p:Kf}{ps:J5 Kf}:cx .notin (.int p) (.tup (am ps)) S=ba (.bl (decide (p∉ps)),S):=by
 change iN .notin (.int p) (.tup (am ps)) S=_;have hf:(bY (.int p)&&(am ps).all bY)=true:=by rw[w6];rfl
 revert iN FL xp fm hf Mm Lk qZ;congr 3
 by_cases h:p∈ps<;>simp[h]
def As {xs:J5 W}:jp xs gV (ba (-1))=xs.dropLast:=by
 unfold jp;rw[HT.kD,PF,R6,List.dropLast_eq_take];congr 1;show(if (-1:Ks)<0 then((-1:Ks)+(↥xs:Ks)).toNat else min (-1:Ks).toNat ↥xs)=_
 rw[KF #v[]];omega
def w8 (ps:J5 Kf):(am ps).dropLast=am ps.dropLast:=by unfold am;rw[List.map_dropLast]
def C6 {S:aa}{ps:J5 Kf}(h:ps≠[]):n6 (.tup (am ps)) (.int (-1)) S=ba (.int (ps.getLastD 0:Kf),S):=by
 have hl:(am ps).length=↥ps:=J7 ..;have hp:0<↥ps:=Rj.mpr h;have hs:tL (am ps).length (-1)=ba (↥ps-1):=by
  rw[hl];unfold tL;rw[KM #v[]]
  show(KF ∅).trans (by congr 1;omega)
 have hg:(am ps)[↥ps-1]?=ba (.int (ps.getLastD 0:Kf)):=by
  show oQ ?_;rw[List.getLastD_eq_getLast?,List.getLast?_eq_getElem?];have:↥ps-1<↥ps:=∅
  simp[this]
 (delta n6 vM pr;revert hs hg Option.bind_some Lk)
abbrev aU:Ss:=
 #v[.set 2 (.lst .nil),.loop (.nm 3) (.seq (.v 0)) #v[.ex (.me .extend (.v 2) #v[.comp (.op .add (.v 2) (.tup #v[.v 1])) (.nm 1) (.rng #v[.v 1]) #v[.cmp .notin (.v 1) (.v 2)] [gV,gV,ba 3]])],.ret (.v 2)]
abbrev aS (os:J5 (J5 Kf)):J5 W:=os.map λo=>.tup (am o)
section
variable{defs:J5 (KJ×Df)}{fuel d:Kf}{S:aa}{Q:QW}
def oY {t l:Kf}{xs ys:J5 W}(h:S[t]?=ba (.lst xs))(h2:S[l]?=ba (.lst ys))(hl:↥xs+↥ys<=1000000)(q:Q (.non,S.set t (.lst (xs++ys)))):wO (Me.extend.fn (.ref t) [.ref l] S) Q:=by
 show ab ?_ q;simp only[Me.fn,iQ,dJ h,dJ h2];rw[KF (by rw[Lp];omega)]
def mf {n:Kf}(h:n<=1000000):n<=sizeLine:=by rw[Lp];omega
def rf (hg:Is defs ("longer_orders": KJ) 2 4 aU){n l:Kf}{os:J5 (J5 Kf)}(e:S[l]?=ba (.lst (aS os)))(hn:n<=100)(hol:∀o∈os,↥o<=100)(hos:↥os*n<=100000)
  (k:∀(q:Kf) (S':aa),S'[q]?=ba (.lst (aS (aE n os)))->↥S<=q->Ka S S'->Q (.ref q,S')) :
  wO (aN (al defs fuel (d+1)) "longer_orders" 2 [.ref l,.int n] S) Q:=by
 show aw hg rfl rfl λQ' hR=>?_
 replace k:∀(q:Kf) (S':aa),S'[q]?=ba (.lst (aS (aE n os)))->↥S<=q->Ka S S'->Q' (.rt (.ref q),S'):=λa b c e f=>hR _ _ (k a b c e f)
 clear hR;change wZ _ _ aU [ba (.ref l),ba (.int n),gV,gV] S Q';have hlS:=bH e;delta aU;show st ?_;delta wS wE wA Kv;nofun
 show ja l (aS os) (λi Z S'=>(∃a3,Z=[ba (.ref l),ba (.int n),ba (.ref ↥S),a3])/\S'[l]?=ba (.lst (aS os))/\S'[↥S]?=ba (.lst (aS (aE n (os.take i))))/\Ka S S') rfl rfl #[rfl,#[gV,rfl],ak e,af,.push] (λi Z S' h=>h.2.1) ?_ ?_
 ·rintro i w Z S1 hw ⟨⟨a3,rfl⟩,e0,e1,k1⟩;clear hK k;unfold aS at hw;rw[Kh,Kb]at hw;obtain⟨o,ho,rfl⟩:=hw;have hol:=hol o (Ko ho);show ab (show fX (.nm 3) (.tup (am o)) [ba (.ref l),ba (.int n),ba (.ref ↥S),a3] S1=ba ([ba (.ref l),ba (.int n),ba (.ref ↥S),ba (.tup (am o))],S1)from rfl) ?_
  intro Q2 hn _;show st ?_;left;show#[dc e1,?_];show dh (n:Ks) (λj ys Z2 S2=>(∃a1,Z2=[gV,a1,ba (.tup (am o))])/\ys=aS (((KH j).filter λp=>decide (p∉o)).map λp=>o++[p])/\S2=S1) rfl rfl rfl ∅ #[rfl,#[gV,rfl],rfl,rfl] ?_ ?_
  ·rintro j ys Z2 S2 hj ⟨⟨a1,rfl⟩,rfl,rfl⟩;delta gm wC wE wA wV wG Kv;show ab Ar ?_;delta wB;have er:(KH (j+1)).filter (λp=>decide (p∉o))=(KH j).filter (λp=>decide (p∉o))++(if j∉o then[j]else[]):=by
    rw[N2,PP];congr 1
    by_cases h:j∈o<;>simp[h]
   show#[λh=>?_,λh=>#[#[_,rfl],?_,rfl]]
   ·have h:j∉o:=Lo h;show ab (fe (mf (by rw[Kk,show(am o).length=↥o from J7 ..];show _+1<=_;omega))) #[#[_,rfl],?_,rfl]
    rw[er,KF h,K5];unfold aS;rw[K5];simp[am]
   ·have h:¬ j∉o:=MU h;rw[er,KM h,Ml]
  ·rintro ys Z2 S2 ⟨_,rfl,rfl⟩;rw[Kw];have hlen:(aS (((KH n).filter λp=>decide (p∉o)).map λp=>o++[p])).length<=n:=by
    unfold aS;rw[J7,J7];show KW (Nk _ _) (by rw[KQ];show Ki _)
   have e1':=ak (u:=O.lst (aS (((KH n).filter λp=>decide (p∉o)).map λp=>o++[p]))) e1
   have hlt:=wY (n:=n) (os:=os) (i:=i);have hlw:(aS (aE n (os.take i))).length=(aE n (os.take i)).length:=J7 ..;show#[mf ∅,oY e1' af ∅ (bP (hn _ _ #[#[_,rfl],?_,?_,(k1.trans .push).late (Ki _)]))]
   ·rw[a9 ∅];show ak e0
   ·rw[bn e1'];unfold aE aS;rw[K8,ho];simp
 ·rintro Z S1 ⟨⟨a3,rfl⟩,e0,e1,k1⟩;rw[show(aS os).length=↥os from J7 ..,Lb]at e1
  show hK _ _ (st (k _ _ e1 (Ki _) k1))
def Fn {t:Kf}{xs:J5 W}{y:W}(h:S[t]?=ba (.lst xs))(hl:↥xs<1000000)(q:Q (.non,S.set t (.lst (xs++[y])))):wO (Me.append.fn (.ref t) [y] S) Q:=ab (uT h (by rw[Lp];omega)) q
def eQ {i:Kf}{xs:J5 W}{c:L1}(h:S[i]?=ba (.lst xs))(hc:qt.contains c=true):wp S (.ref i) c=ba ("list" == c||("list" == "bool" && c == "int")):=by
 have:Im S (.ref i)=ba "list":=by simp[Im,au h]
 unfold wp;rw[this];show KF hc
def w9 (hg:Is defs ("_law_alike": KJ) 2 2 aZ){n i j:Kf}{xs:J5 W}(hi:S[i]?=ba (.lst xs))(hj:S[j]?=ba (.lst xs))(hl:↥xs<=100000)(hx:∀x∈xs,Tr n x)(k:∀S',Ka S S'->Q (.bl true,S')) :
  wO (aN (al defs fuel (d+n+2)) "_law_alike" 2 [.ref i,.ref j] S) Q:=by
 show aw hg rfl rfl λQ' hR=>?_
 replace k:∀S',Ka S S'->Q' (.rt (.bl true),S'):=λS' a=>hR _ _ (k S' a)
 clear hR;change wZ _ _ aZ [ba (.ref i),ba (.ref j)] S Q';delta aZ;show aG λK hK=>bQ (S1:=S) (λQ q=>q) (hK _ _ ?_)
 clear hK K;show aG λK hK=>bQ (S1:=S) (λQ q=>?_) (hK _ _ ?_)
 ·delta wT wE wV wG;show ab (eQ hj #v[]) #[λz=>?_,λ_=>ab (eQ hi #v[]) q]
  show absurd z #v[]
 clear hK K;show aG λK hK=>bQ (S1:=S) (λQ q=>?_) (hK _ _ ?_)
 ·delta wT wE wV wG;show ab (eQ hj #v[]) q
 clear hK K;show aG λK hK=>bQ (S1:=S) (λQ q=>?_) (hK _ _ ?_)
 ·delta wT wE wV wG;show ab (eQ hj #v[]) q
 clear hK K;show aG λK hK=>bQ (S1:=S) (λQ q=>?_) (hK _ _ ?_)
 ·delta wT wE wV wG;show ab (eQ hj #v[]) (ab (eQ hi #v[]) ?_)
  show ab (show cx .ne (.bl false) (.bl false) S=ba (.bl false,S)from rfl) #[λz=>(by cases z),λ_=>?_]
  dsimp only;show ab (eQ hj #v[]) (ab (eQ hi #v[]) ?_)
  show ab (show cx .ne (.bl true) (.bl true) S=ba (.bl false,S)from rfl) q
 clear hK K;show st ?_;left;show fZ hi (fZ hj ?_);delta gf aH wB;rw[Lv];show#[λ_=>?_,λz=>by cases z]
 show dh (↥xs:Ks) (λm ys Z2 S2=>(∃a1,Z2=[gV,a1,ba (.ref j),ba (.ref i)])/\ys=Lf m (.bl true)/\Ka S S2) rfl rfl rfl ∅ ?_ ?_ ?_
 ·delta wE wA wV wG;show fZ hj #[rfl,#[gV,rfl],rfl,.refl]
 ·rintro m ys Z2 S2 hm ⟨⟨a1,rfl⟩,rfl,k2⟩;have hm':m<↥xs:=∅
  delta gm wC wE wA wV wG Kv;show#[λ_=>fY (k2.get _ _ hi) (Kz m) (by rw[Kw];show Kl hm') (fY (k2.get _ _ hj) (Kz m) (by rw[Kw];show Kl hm') (C3 hg n d _ _ _ (hx _ (Lm hm')) λS3 k3=>#[#[_,rfl],?_,k2.trans k3])),λz=>by cases z]
  rw[Q6]
 ·rintro ys Z2 S2 ⟨_,rfl,k2⟩;rw[Kw];show#[mf (by rw[OZ];omega),ab (a:=(.bl true,S2++[.lst (Lf ↥xs (.bl true))])) ?_ (k _ (k2.trans .push))]
  simp only[Bi.fn,BK,au af,jK,Lk,ve]
end
abbrev eA (a:Kf)(bs:J5 Ks):J5 Wd:=(aL a ↥bs 3).map (gh bs)
def lH:∀{us vs:J5 Wd},us.map bq=vs.map bq->us=vs
 |[],[],_=>rfl
 |[],_::_,h=>by cases h
 |_::_,[],h=>by cases h
 |x::xs,y::ys,h=>by
  simp only[LF,U9]at h;rw[cu h.1,lH h.2]
def rg:∀xs:J5 Ks,cK (xs.map T.int)=true
 |[]=>rfl
 |_::xs=>rg xs
def kw:∀u:Wd,cK (u.map hZ)=true
 |[]=>rfl
 |p::u=>by
  revert LF cK Kg;show#[?_,kw u];simp[hZ,dZ,cK,rg]
def fU (u:Wd):dZ (bq u)=true:=kw u
def DC:∀{ks:J5 T}{L:J5 Wd},(∀k∈ks,k∈L.map bq)->∃us:J5 Wd,ks=us.map bq/\∀u∈us,u∈L
 |[],_,_=>#[[],rfl,λ_ h=>nomatch h]
 |k::ks,L,h=>by
  obtain⟨u,hu,rfl⟩:=Kn.mp (h k (.head _));obtain⟨us,rfl,h2⟩:=DC λk hk=>h k (.tail _ hk)
  show#[u::us,rfl,λv hv=>(KD.mp hv).elim (λe=>e▸hu) (h2 v)]
def jZ:∀{us:J5 Wd},(us.map bq).Nodup->us.Nodup
 |[],_=>.nil
 |u::us,h=>by
  rw[LF,LY]at h;show LY.mpr #[λz=>h.1 (Kn.mpr #[u,z,rfl]),jZ h.2]
def rh {us L:J5 Wd}(hL:↥L<64)(h:∀u∈us,u∈L):∃ks:J5 Wd,jU (us.map bq)=ba (ks.map bq)/\ks.Nodup/\(∀u,u∈ks↔u∈us)/\↥ks<64:=by
 obtain⟨ks,e,nd,hm⟩:=yI (ks:=us.map bq) (Uqb:=L.map bq) (by rw[J7];omega) λx hx=>by
  obtain⟨u,hu,rfl⟩:=Kn.mp hx;show Kn.mpr #[u,h u hu,rfl]
 obtain⟨vs,rfl,_⟩:=DC (L:=us) λk hk=>(hm k).mp hk
 have nd':=jZ nd;have hm':∀u,u∈vs↔u∈us:=λu=>by
  have:=hm (bq u);constructor
  ·intro hu;obtain⟨v,hv,ev⟩:=Kn.mp (this.mp (Kn.mpr #[u,hu,rfl]));show cu ev▸hv
  ·intro hu;obtain⟨v,hv,ev⟩:=Kn.mp (this.mpr (Kn.mpr #[u,hu,rfl]));show cu ev▸hv
 show#[vs,e,nd',hm',L6 (fS vs L nd' λu hu=>h u ((hm' u).mp hu)) hL]
def Fo {n k:Kf}{ds:J5 Ks}:ds∈br n k->↥ds=k/\∀w∈ds,0<=w/\w<(n:Ks):=by
 induction k generalizing ds with
 |zero=>intro h;cases Kt.mp h;show#[rfl,λw hw=>nomatch hw]
 |succ k ih=>
  intro h;obtain⟨i,hi,rfl⟩:=Kn.mp h;have hi:=Kx.mp hi;have hn:0<n:=by
   rcases NY n with h|h
   ·rw[h,Qu]at hi;omega
   ·show h
  have hlt:i/n<(br n k).length:=MX (by rw[Ol];show hi)
  obtain⟨h1,h2⟩:=ih (Ko (aq (d:=[]) hlt));show#[by rw[Kk,h1];rfl,λw hw=>?_]
  rcases La.mp hw with h|h
  ·show h2 w h
  ·rw[Kt.mp h];have:=OF i hn;omega
def lI {a n k:Kf}{u:Wd}:u∈aL a n k->GoodW a n u/\↥u=k:=by
 induction k generalizing u with
 |zero=>intro h;cases Kt.mp h;show#[.nil,rfl]
 |succ k ih=>
  intro h;obtain⟨i,hi,rfl⟩:=Kn.mp h;have hi:=Kx.mp hi;have hpos:0<(bg a n k).length:=by
   rcases NY (bg a n k).length with h|h
   ·rw[h,Qu]at hi;omega
   ·show h
  have hlt:i/(bg a n k).length<(aL a n k).length:=MX (by rw[Ol];show hi)
  obtain⟨h1,h2⟩:=ih (Ko (aq (d:=[]) hlt));have hp:=Ko (aq (d:=(0,[])) (OF i hpos));obtain⟨m,hm,hp⟩:=LU.mp hp;obtain⟨ds,hds,e⟩:=Kn.mp hp;obtain⟨g1,g2⟩:=Fo hds;have hm:=Kx.mp hm;rw[<- e];show#[h1.snoc #[∅,∅] (by rw[g1,h2]) g2,by rw[Kk,h2];rfl]
def C7 {a:Kf}{bs:J5 Ks}(h:SizeOk a bs):∃us:J5 Wd,jU ((eA a bs).map bq)=ba (us.map bq)/\us.Nodup/\↥us<64/\(∀u∈us,u∈aM a bs):=by
 have inF:∀f∈eA a bs,f∈aM a bs:=λf hf=>by
  obtain⟨u,hu,rfl⟩:=Kn.mp hf;obtain⟨g1,g2⟩:=lI hu;show oU g1 g2
 obtain⟨us,e,nd,hm,l⟩:=rh (L:=aM a bs) (jf h) inF;show#[us,e,nd,l,λu hu=>inF u ((hm u).mp hu)]
def jk {us:J5 Wd}(h:us.Nodup):Nice (us.map bq):=by
 show#[λx hx=>?_,de us,?_]
 ·obtain⟨u,_,rfl⟩:=Kn.mp hx;show fU u
 ·rw[Oi,ML];show h.imp λhne e=>hne (cu e)
def fE {us:J5 Wd}:(bB us).map bq=eM (us.map bq):=by
 unfold bB eM;rw[qO (d:=[])]
def xf {us vs:J5 Wd}(h:us.Nodup)(hs:vs.Sublist (bB us)):bB vs=vs:=by
 apply lH;rw[fE];show yv (jk h) ?_;rw[<- fE];show hs.map _
abbrev dq:Ss:=
 #v[.ret (.bi .sorted #v[.bi .set #v[.comp (.own "_law_figure" 2 #v[.v 2,.v 1]) (.nm 1) (.seq (.own "_law_worlds" 2 #v[.v 0,.c (.int 3)])) .nil [gV,gV,ba 0]]])]
abbrev cv:Ss:=
 #v[.set 1 (.own "_law_pick" 2 #v[.v 0,.c (.int 4)]),.ite (.cmp .eq (.v 1) (.c (.int 0))) #v[.ret (.own "_law_laying_rule" 1 #v[.v 0])] .nil,.ite (.cmp .lt (.v 1) (.c (.int 3))) #v[.ret (.own "_law_any_rule" 1 #v[.v 0])] .nil,.asg [2,3] (.own "_law_sizes" 1 #v[.v 0]),.set 4 (.own "_law_rule_of" 4 #v[.v 0,.v 2,.own "_law_backs" 2 #v[.v 0,.v 3],.tup .nil]),.ret (.tup #v[.ix (.v 4) (.c (.int 0)),.ix (.v 4) (.c (.int 1)),.bi .tuple #v[.comp (.v 1) (.nm 1) (.seq (.own "_law_figures" 1 #v[.v 4])) #v[.cmp .eq (.own "_law_pick" 2 #v[.v 2,.c (.int 3)]) (.c (.int 0))] [gV,gV,ba 0]]])]
section
variable{defs:J5 (KJ×Df)}{fuel d:Kf}{S:aa}{r:Kf}{Q:QW}
def At {l:Kf}{us ks:J5 Wd}(h:S[l]?=ba (.lst (us.map ay)))(hk:jU (us.map bq)=ba (ks.map bq))(q:Q (.ref ↥S,S++[.stt (ks.map bq)])):wO (Bi.set.fn [.ref l] S) Q:=by
 show ab ?_ q;have e2:la [.ref l] S=ba (.ref ↥S,S++[.stt (ks.map bq)]):=by
  simp only[la,au h,u5];rw[KF,hk]
  ·rfl
  ·rw[KA];intro x hx;obtain⟨u,_,rfl⟩:=Kn.mp hx;have:=lB u;have kl:az=6:=rfl;revert yJ fU O7 Kg KG;show#[rfl,∅]
 show e2
def vg {l:Kf}{us:J5 Wd}(h:S[l]?=ba (.stt (us.map bq)))(h64:↥us<64)(hnd:us.Nodup)(hne:↥us<2\/∀u∈us,u≠[])(q:Q (.ref ↥S,S++[.lst ((bB us).map ay)])):wO (Bi.sorted.fn [.ref l] S) Q:=by
 show ab ?_ q;have hr:FN S l=ba (us.map bq):=by simp[FN,h]
 have N:=jk hnd;have ok:lb (us.map bq)=true:=by
  revert lb iy Kg KG My J7;show#[#[#[KA.mpr N.num,N.lt],N.nd],#[#[h64,by have:=fB us;unfold bJ;omega],hne.imp id λhne=>#[zU us hne,N.lt]]]
 have e1:cN [.ref l] S=ba (.ref ↥S,S++[.lst ((bB us).map ay)]):=by
  revert cN hr;rw[KF ok,<- fE,sT]
 change wx cN fM [.ref l] S=_;unfold wx;revert e1
structure Full (defs:J5 (KJ×Df)):Prop where
 digits:Is defs ("_law_digits": KJ) 2 4 bF
 worlds:Is defs ("_law_worlds": KJ) 2 6 bW
 figures:Is defs ("_law_figures": KJ) 1 1 dq
 full:Is defs ("_law_full_rule": KJ) 1 5 cv
def xg (G:Gen defs)(F:Full defs){ms ns:J5 KJ}{a:Kf}{bs:J5 Ks}{b0:W}(hs:SizeOk a bs)(hml:↥ms=a)(hnl:↥ns=↥bs)
  (k:∀(us:J5 Wd) (q:Kf) (S':aa),us.Nodup->↥us<64->(∀u∈us,u∈aM a bs)->S'[q]?=ba (.lst ((bB us).map ay))->↥S<=q->Ka S S'->Q (.ref q,S')) :
  wO (aN (al defs fuel (d+4)) "_law_figures" 1 [.tup [.tup (ms.map W.str),.tup (KI aP ns bs),b0]] S) Q:=by
 show aw F.figures rfl rfl λQ' hR=>?_
 replace k:∀(us:J5 Wd) (q:Kf) (S':aa),us.Nodup->↥us<64->(∀u∈us,u∈aM a bs)->S'[q]?=ba (.lst ((bB us).map ay))->↥S<=q->Ka S S'->Q' (.rt (.ref q),S'):=λa b c e f g h i j=>hR _ _ (k a b c e f g h i j)
 clear hR;obtain⟨us,hk,hnd,h64,hmem⟩:=C7 hs;have hb3:=hs.n3;have hpos:=hs.pos;have h3:=hs.a3;have hmost:=hs.most;change wZ _ _ dq [ba (.tup [.tup (ms.map W.str),.tup (KI aP ns bs),b0])] S Q';generalize hB:W.tup [.tup (ms.map W.str),.tup (KI aP ns bs),b0]=R;delta dq;show st ?_;left;show lG rfl rfl rfl ?_;delta wE wA wV wG;subst hB;show Aq (d:=d+1) F.digits F.worlds (a:=a) (n:=↥bs) (by rw[J7,hml]) (by rw[M6,hnl];omega) hpos h3 hb3.1 hb3.2 hmost λl S1 e1 hl k1=>?_
 generalize hB:W.tup [.tup (ms.map W.str),.tup (KI aP ns bs),b0]=R;show#[l,(aL a ↥bs 3).map ay,λj ys Z2 S2=>(∃a1,Z2=[gV,a1,ba R])/\ys=((eA a bs).take j).map ay/\S2[l]?=ba (.lst ((aL a ↥bs 3).map ay))/\Ka S S2,rfl,#[#[gV,rfl],rfl,e1,k1],λj ys Z2 S2 h=>h.2.2.1,?_,?_]
 ·rintro j w ys Z2 S2 hw ⟨⟨a1,rfl⟩,rfl,e2,k2⟩;rw[Kh,Kb]at hw;obtain⟨u,hu,rfl⟩:=hw;obtain⟨gu,hu3⟩:=lI (Ko hu);show ab (show fX (.nm 1) (ay u) [gV,a1,ba R] S2=ba ([gV,ba (ay u),ba R],S2)from rfl) ?_
  delta gm wC wE wA wV wG;subst hB;show#[λ_=>jd (d:=d) G hs.good hnl gu hu3 λS3 k3=>#[#[_,rfl],?_,k3.get _ _ e2,k2.trans k3],λz=>by cases z]
  have:(eA a bs)[j]?=ba (gh bs u):=by unfold eA;rw[Kh,hu];rfl
  rw[K8,this];simp
 ·rintro ys Z2 S2 ⟨_,rfl,e2,k2⟩;have hfl:(eA a bs).length=((aL a ↥bs 3).map ay).length:=by unfold eA;rw[J7,J7]
  rw[<- hfl,Lb];have hl216:(eA a bs).length<=216:=by
   unfold eA;rw[J7,bR];show(lF (k:=2) hpos h3 hb3.1 hb3.2 hmost #v[]).2.2
  show#[mf (by rw[J7];omega),At af hk (vg af h64 hnd (.inr λu hu=>qR (hmem u hu)) ?_)]
  have kk:=((k2.trans (Ka.push (o:=O.lst ((eA a bs).map ay)))).trans (Ka.push (o:=O.stt (us.map bq)))).trans (Ka.push (o:=O.lst ((bB us).map ay)));show k us _ _ hnd h64 hmem af (((k2.trans (Ka.push (o:=O.lst ((eA a bs).map ay)))).trans (Ka.push (o:=O.stt (us.map bq)))).len) kk
def Fp (hfu:20<fuel)(G:Gen defs)(F:Full defs)(hf:Fl S r)(k:∀w S',en w->Fl S' r->Kp r S S'->Q (w,S')):wO (aN (al defs fuel (d+8)) "_law_full_rule" 1 [.ref r] S) Q:=by
 show aw F.full rfl rfl λQ' hR=>?_
 replace k:∀w S',en w->Fl S' r->Kp r S S'->Q' (.rt w,S'):=λz S' a b c=>hR _ _ (k z S' a b c)
 clear hR;change wZ _ _ cv [ba (.ref r),gV,gV,gV,gV] S Q';delta cv;nofun
 left;show be (d:=d+6) G.pick hf #v[] #v[] λv S1 v0 v7 f1 k1=>hK _ _ ?_
 clear hK K;nofun
 delta wS wT wE wV wG gf aH wB;show aB (Q0:=Q') (λ_ Q2 _ hr=>?_) (λ_ Q2 hn _=>bP (hn _ _ (hK _ _ ?_)))
 ·show st ?_;left;show Al (d:=d) hfu G f1 λw S2 hw f2 k2=>hr _ _ (k w S2 hw f2 (k1.trans k2))
 clear hK K hn;nofun
 delta wS wT wE wV wG wH aH wB;show aB (Q0:=Q') (λ_ Q2 _ hr=>?_) (λ_ Q2 hn _=>bP (hn _ _ (hK _ _ ?_)))
 ·show st ?_;left;show sZ (d:=d+1) hfu G f1 λw S2 hw f2 k2=>hr _ _ (k w S2 hw f2 (k1.trans k2))
 clear hK K hn;nofun
 left;show oR (d:=d+5) G f1 λa n S2 a1 a3 n1 n3 an f2 k2=>?_
 delta wU;show ab (show dC [2,3] [.int a,.int n] [ba (.ref r),ba (.int v),gV,gV,gV]=ba [ba (.ref r),ba (.int v),ba (.int a),ba (.int n),gV]from rfl) (hK _ _ ?_)
 clear hK K;nofun
 left;show oT (d:=d+5) G f2 n1 n3 λbs S3 hb hbl f3 k3=>?_
 have hsz:SizeOk a bs:=#[∅,hb,by rw[hbl];show an,a3]
 show fT (d:=d+2) hfu G f3 a3 ∅ λms ns S4 hml hnl hnm f4 k4=>hK _ _ ?_
 clear hK K;have k14:Kp r S S4:=k1.trans (k2.trans (k3.trans k4));clear k1 k2 k3 k4;show st ?_;left;show ah #v[] rfl (ah #v[] rfl ?_)
 show lG rfl rfl rfl ?_;delta wE wA wV wG;show xg (d:=d+3) G F hsz hml hnl λus q S5 hnd h64 hmem e5 hq k5=>?_
 have f5:=f4.ka k5;have hrq:r<q:=KR f4.lt hq;show#[q,(bB us).map ay,λj ys Z2 S6=>(∃a1,Z2=[gV,a1,ba (.ref r)])/\(∃vs:J5 Wd,ys=vs.map ay/\vs.Sublist ((bB us).take j))/\S6[q]?=ba (.lst ((bB us).map ay))/\Fl S6 r/\Kp r S S6,rfl,#[#[gV,rfl],#[[],rfl,by simp],e5,f5,k14.trans (k5.kp r)],λj ys Z2 S6 h=>h.2.2.1,?_,?_]
 ·rintro j w ys Z2 S6 hw ⟨⟨a1,rfl⟩,⟨vs,rfl,hsub⟩,e6,f6,k6⟩;rw[Kh,Kb]at hw;obtain⟨u,hu,rfl⟩:=hw;show ab (show fX (.nm 1) (ay u) [gV,a1,ba (.ref r)] S6=ba ([gV,ba (ay u),ba (.ref r)],S6)from rfl) ?_
  delta gm wC wE wA wV wG;show be (d:=d+6) G.pick f6 #v[] #v[] λv S7 _ _ f7 k7=>?_
  delta gf aH wB;have e7:=k7.get _ _ ∅ e6
  show#[λ_=>#[#[_,rfl],#[vs++[u],by rw[K5];rfl,?_],e7,f7,k6.trans k7],λ_=>#[#[_,rfl],#[vs,rfl,?_],e7,f7,k6.trans k7]]
  ·rw[K8,hu];show hsub.append (UY _)
  ·rw[K8];show hsub.trans (List.sublist_append_left _ _)
 ·rintro ys Z2 S6 ⟨_,⟨vs,rfl,hsub⟩,e6,f6,k6⟩;rw[J7,Lb]at hsub;have pu:(bB us).Perm us:=du;have hvl:↥vs<=↥us:=by rw[<- pu.length_eq];show hsub.length_le
  have hvs:=xf hnd hsub;show#[mf (by rw[J7];omega),fA af (k _ _ #[a,bs,ms,ns,vs,by rw[hvs];rfl,hsz,hml,hnl,hnm,hsub.nodup (pu.nodup_iff.mpr hnd),λg hg=>hmem g (pu.mem_iff.mp (hsub.subset hg))] (f6.ka .push) (k6.trans .push))]
end
abbrev cC:Ss:=
 #v[.set 4 (.tup #v[.ix (.ix (.v 0) (.v 1)) (.c (.int 0)),.tup .nil]),.set 5 (.tup #v[.ix (.ix (.v 0) (.v 2)) (.c (.int 0)),.tup #v[.ix (.ix (.ix (.v 0) (.v 2)) (.c (.int 1))) (.v 1)]]),.ret (.tup #v[.v 4,.v 5,.tup #v[.ix (.ix (.v 0) (.v 3)) (.c (.int 0)),.tup #v[.ix (.ix (.ix (.v 0) (.v 3)) (.c (.int 1))) (.v 1),.ix (.ix (.ix (.v 0) (.v 3)) (.c (.int 1))) (.v 2)]]])]
abbrev cR (u:Wd)(i j k:Kf):Wd:=[((u.getD i (0,[])).1,[]),((u.getD j (0,[])).1,[(u.getD j (0,[])).2.getD i 0]),((u.getD k (0,[])).1,[(u.getD k (0,[])).2.getD i 0,(u.getD k (0,[])).2.getD j 0])]
def iI {bs:J5 Ks}{u:Wd}{i j k:Kf}(h1:i<j)(h2:j<k):aj bs u [i,j,k]=cR u i j k:=by
 show[((u.getD i (0,[])).1,[]),((u.getD j (0,[])).1,[bV bs u j i]),((u.getD k (0,[])).1,[bV bs u k i,bV bs u k j])]=_;unfold bV cR;rw[KF h1,KF h2,KF (OS h1 h2)]
section
variable{defs:J5 (KJ×Df)}{fuel d:Kf}{S:aa}{Q:QW}
def C8 (hg:Is defs ("three_at": KJ) 4 6 cC){a n:Kf}{u:Wd}{i j k:Kf}(hu:GoodW a n u)(h1:i<j)(h2:j<k)(h3:k<↥u)(q:Q (ay (cR u i j k),S)) :
  wO (aN (al defs fuel (d+1)) "three_at" 4 [ay u,.int i,.int j,.int k] S) Q:=by
 show aw hg rfl rfl λQ' hR=>?_
 replace q:=hR _ _ q;clear hR;change wZ _ _ cC [ba (ay u),ba (.int i),ba (.int j),ba (.int k),gV,gV] S Q';have hi:i<↥u:=∅
 have hj:j<↥u:=∅
 have lj:i<(u.getD j (0,[])).2.length:=by rw[hu.len j _ (aq (d:=(0,[])) hj)];show h1
 have lk:j<(u.getD k (0,[])).2.length:=by rw[hu.len k _ (aq (d:=(0,[])) h3)];show h2
 have lki:i<(u.getD k (0,[])).2.length:=∅
 have w:∀{p m:Kf},m<(u.getD p (0,[])).2.length->((u.getD p (0,[])).2.map W.int)[((m:Kf):Ks).toNat]?=ba (.int ((u.getD p (0,[])).2.getD m 0)):=λ{p m} h=>by
  rw[Kw,Kh,aq (d:=0) h];rfl
 delta cC;show st ?_;left;show ah (Kz i) (eP hi) (ah #v[] rfl ?_)
 show st ?_;left;show ah (Kz j) (eP hj) (ah #v[] rfl (ah (Kz j) (eP hj) (ah #v[] rfl (ah (Kz i) (w lj) ?_))))
 show st ?_;left;show ah (Kz k) (eP h3) (ah #v[] rfl (ah (Kz k) (eP h3) (ah #v[] rfl (ah (Kz i) (w lki) (ah (Kz k) (eP h3) (ah #v[] rfl (ah (Kz j) (w lk) q)))))))
end
abbrev bf (i j k i' j' k':Kf):Prop:=i'<i\/(i'=i/\(j'<j\/(j'=j/\k'<k)))
abbrev tm (U:J5 (T×W))(u:Wd)(i j k:Kf):KU:=(bO U (bq (cR u i j k))).isSome
structure HasD (U:J5 (T×W))(L:J5 Wd):Prop where
 iff:∀t,t∈U.map (·.1)↔t∈L.map bq
 len:↥U<=↥L
def Au {U:J5 (T×W)}{t:T}:(bO U t).isSome=true↔t∈U.map (·.1):=by
 constructor
 ·intro h;obtain⟨v,hv⟩:=Lx.mp h;show Kn.mpr #[_,lE hv,rfl]
 ·intro h;obtain⟨p,hp,rfl⟩:=Kn.mp h;obtain⟨v,hv⟩:=u9 hp;rw[hv];rfl
def HasD.get {U:J5 (T×W)}{L:J5 Wd}(h:HasD U L)(t:T):(bO U t).isSome=decide (t∈L.map bq):=by
 rw[QG,Au,h.iff,KG]
def HasD.nil:HasD [] []:=#[λt=>by simp,Ki _]
def HasD.put {U:J5 (T×W)}{L:J5 Wd}{f:Wd}{v:W}(h:HasD U L):HasD (d0 U (bq f) v) (L++[f]):=by
 show#[λt=>?_,?_]
 ·rw[fD,K5,La,<- h.iff t]
  by_cases hk:bq f∈U.map (·.1)
  ·rw[KF hk];constructor
   ·show .inl
   ·rintro(z|z)
    ·show z
    ·rw[Kt.mp z];show hk
  ·rw[KM hk,La];rfl
 ·have:=cD U (bq f) v;have:=h.len;rw[Kk,LQ];omega
abbrev fF:Ss:=
 #v[.set 1 .dnew,.loop (.nm 2) (.seq (.ix (.v 0) (.c (.int 2)))) #v[.loop (.nm 3) (.seq (.own "_law_turns" 0 .nil)) #v[.put (.v 1) (.own "_law_part" 3 #v[.v 0,.v 2,.v 3]) (.c (.bl true))]],.ret (.v 1)]
abbrev bZ (bs:J5 Ks)(gs:J5 Wd):J5 Wd:=gs.flatMap λg=>ap.map (aj bs g)
def lJ (bs:J5 Ks):∀gs:J5 Wd,(bZ bs gs).length=6*↥gs
 |[]=>rfl
 |g::gs=>by
  have:=lJ bs gs;unfold bZ at this ⊢;rw[M3,Kk,this,KZ,J7,show ap.length=6 from rfl];omega
section
variable{defs:J5 (KJ×Df)}{fuel d:Kf}{S:aa}{Q:QW}
def HP (G:Gen defs)(hg:Is defs ("_law_bad": KJ) 1 4 fF){m0:W}{ns:J5 KJ}{bs:J5 Ks}{a:Kf}{gs:J5 Wd}(hb:GoodB bs)(hnl:↥ns=↥bs)(hgs:∀g∈gs,GoodW a ↥bs g/\↥g=3)(h64:↥gs<=100)
  (k:∀(q:Kf) (U:J5 (T×W)) (S':aa),S'[q]?=ba (.dic U)->HasD U (bZ bs gs)->↥S<=q->Ka S S'->Q (.ref q,S')) :
  wO (aN (al defs fuel (d+3)) "_law_bad" 1 [.tup [m0,.tup (KI aP ns bs),.tup (gs.map ay)]] S) Q:=by
 show aw hg rfl rfl λQ' hR=>?_
 replace k:∀(q:Kf) (U:J5 (T×W)) (S':aa),S'[q]?=ba (.dic U)->HasD U (bZ bs gs)->↥S<=q->Ka S S'->Q' (.rt (.ref q),S'):=λa b c e f g h=>hR _ _ (k a b c e f g h)
 clear hR;change wZ _ _ fF [ba (.tup [m0,.tup (KI aP ns bs),.tup (gs.map ay)]),gV,gV,gV] S Q';generalize hR0:W.tup [m0,.tup (KI aP ns bs),.tup (gs.map ay)]=R;delta fF;show st ?_;delta wS wE Kv;nofun
 show for_tup (gs.map ay) (λi Z S'=>(∃a2 a3,Z=[ba R,ba (.ref ↥S),a2,a3])/\(∃U,S'[↥S]?=ba (.dic U)/\HasD U (bZ bs (gs.take i)))/\Ka S S') rfl rfl ?_ ?_ ?_
 ·delta wE wV wG;subst hR0;show ah #v[] rfl #[rfl,#[_,_,rfl],#[[],af,.nil],.push]
 ·rintro i w Z S1 hw ⟨⟨a2,a3,rfl⟩,⟨U,e1,h1⟩,k1⟩;clear hK k;rw[Kh,Kb]at hw;obtain⟨g,hg1,rfl⟩:=hw;obtain⟨gg,g3⟩:=hgs g (Ko hg1);have hi:i<↥gs:=(Kq.mp hg1).1;show ab (show fX (.nm 2) (ay g) [ba R,ba (.ref ↥S),a2,a3] S1=ba ([ba R,ba (.ref ↥S),ba (ay g),a3],S1)from rfl) ?_
  intro Q2 hn _;nofun
  show gG rfl rfl ?_;delta wE wA;show kq (d:=d+1) G ?_;show#[↥S1,ap.map (λt=>W.tup (am t)),(λj Z S'=>(∃a3,Z=[ba R,ba (.ref ↥S),ba (ay g),a3])/\(∃U,S'[↥S]?=ba (.dic U)/\HasD U (bZ bs (gs.take i)++(ap.take j).map (aj bs g)))/\S'[↥S1]?=ba (.lst (ap.map λt=>W.tup (am t)))/\Ka S S'),rfl,#[#[_,rfl],#[U,ak e1,by rw[Tz,RX,Ml];show h1],af,k1.trans .push],λj Z S' h=>h.2.2.1,?_,?_]
  ·rintro j w Z S2 hw ⟨⟨a3,rfl⟩,⟨U2,e2,h2⟩,el,k2⟩;clear hK hn;rw[Kh,Kb]at hw;obtain⟨t,ht,rfl⟩:=hw;have htm:=Ko ht;have tk:↥t<=3/\t.Nodup/\∀p∈t,p<3:=by
    have:∀t∈ap,↥t<=3/\t.Nodup/\∀p∈t,p<3:=by decide
    show this t htm
   show ab (show fX (.nm 3) (.tup (am t)) [ba R,ba (.ref ↥S),ba (ay g),a3] S2=ba ([ba R,ba (.ref ↥S),ba (ay g),ba (.tup (am t))],S2)from rfl) ?_
   intro Q3 hn3 _;show st ?_;left;subst hR0;show sW (d:=d) G hb hnl gg (λp hp=>by have:=tk.2.2 p hp;omega) tk.2.1 ∅ λS3 k3=>?_
   have e3:=k3.get _ _ e2;have hlt:↥U2<sizeLine:=by
    have b1:=h2.len;have b2:=lJ bs (gs.take i);rw[Kk,b2,J7,K2,K2,show ap.length=6 from rfl]at b1
    rw[Lp];omega
   show ab (u8 e3 hlt) (bP (hn3 _ _ #[#[_,rfl],#[_,bn e3,?_],?_,(k2.trans k3).late (Ki _)]))
   ·rw[K8,ht,K5,<- Mt];show h2.put
   ·rw[a9 (by have:=k1.len;have:=bH e1;omega)];show k3.get _ _ el
  ·rintro Z S2 ⟨⟨a3,rfl⟩,⟨U2,e2,h2⟩,el,k2⟩;rw[J7,Lb]at h2;show hK _ _ (bP (hn _ _ #[#[_,_,rfl],#[U2,e2,?_],k2]));unfold bZ at h2 ⊢;rw[K8,hg1,MN]
   simpa using h2
 ·rintro Z S1 ⟨⟨a2,a3,rfl⟩,⟨U,e1,h1⟩,k1⟩;rw[J7,Lb]at h1;show hK _ _ (st (k _ U S1 e1 h1 (Ki _) k1))
end
abbrev bI:Ss:=
 #v[.set 1 (.lst #v[.tup .nil]),.whl (.cmp .lt (.bi .len #v[.ix (.v 1) (.c (.int 0))]) (.c (.int 3))) #v[.set 1 (.own "longer_orders" 2 #v[.v 1,.c (.int 3)])],.set 2 .dnew,.loop (.nm 3) (.seq (.ix (.v 0) (.c (.int 2)))) #v[.loop (.nm 4) (.seq (.v 1)) #v[.put (.v 2) (.own "part" 3 #v[.v 0,.v 3,.v 4]) (.c (.bl true))]],.ret (.v 2)]
abbrev xh:Kf->J5 (J5 Kf)
 |0=>[[]]
 |i+1=>aE 3 (xh i)
def xi:xh 3=ap:=by decide
def Fq:∀i,i<=3->(∃o,(xh i)[0]?=ba o/\↥o=i)/\(xh i).length<=6/\∀o∈xh i,↥o<=3:=λi hi=>by
 rcases(show i=0\/i=1\/i=2\/i=3 by omega)with rfl|rfl|rfl|rfl
 ·show#[#[[],rfl,rfl],#v[],#v[]]
 ·show#[#[[0],rfl,rfl],#v[],#v[]]
 ·show#[#[[0,1],rfl,rfl],#v[],#v[]]
 ·show#[#[[0,1,2],rfl,rfl],#v[],#v[]]
section
variable{defs:J5 (KJ×Df)}{fuel d:Kf}{S:aa}{Q:QW}
def Av (hfu:20<fuel)(P:Parts defs)(hp:Is defs ("part": KJ) 3 3 jL)(hl:Is defs ("longer_orders": KJ) 2 4 aU)(hg:Is defs ("barred_threes": KJ) 1 5 bI){m0:W}{ns:J5 KJ}{bs:J5 Ks}{a:Kf}{gs:J5 Wd}(hb:GoodB bs)(hnl:↥ns=↥bs)(hgs:∀g∈gs,GoodW a ↥bs g/\↥g=3)(h64:↥gs<=100)
  (k:∀(q:Kf) (U:J5 (T×W)) (S':aa),S'[q]?=ba (.dic U)->HasD U (bZ bs gs)->↥S<=q->Ka S S'->Q (.ref q,S')) :
  wO (aN (al defs fuel (d+4)) "barred_threes" 1 [.tup [m0,.tup (KI aP ns bs),.tup (gs.map ay)]] S) Q:=by
 show aw hg rfl rfl λQ' hR=>?_
 replace k:∀(q:Kf) (U:J5 (T×W)) (S':aa),S'[q]?=ba (.dic U)->HasD U (bZ bs gs)->↥S<=q->Ka S S'->Q' (.rt (.ref q),S'):=λa b c e f g h=>hR _ _ (k a b c e f g h)
 clear hR;change wZ _ _ bI [ba (.tup [m0,.tup (KI aP ns bs),.tup (gs.map ay)]),gV,gV,gV,gV] S Q';generalize hR0:W.tup [m0,.tup (KI aP ns bs),.tup (gs.map ay)]=R;delta bI;show st ?_;delta wS wE wA Kv;nofun
 show zL (λm Z S'=>∃(i q:Kf),i+m=3/\Z=[ba R,ba (.ref q),gV,gV,gV]/\S'[q]?=ba (.lst (aS (xh i)))/\↥S<=q/\Ka S S') 3 rfl rfl ∅ #[0,↥S,rfl,rfl,af,Ki _,.push] ?_
 rintro m Z S1 ⟨i,q,him,rfl,e1,hq,k1⟩;obtain⟨⟨o,ho,hol⟩,l6,l3⟩:=Fq i ∅
 delta wT wE wA wV wG;show fY (w:=.tup (am o)) e1 #v[] (by unfold aS;rw[Kh,show((0:Ks).toNat)=0 from rfl,ho];rfl) (aX ?_)
 rw[show(am o).length=↥o from J7 ..,hol]
 delta wH aH wB;show#[λh=>?_,λh=>?_]
 ·have h:(i:Ks)<3:=Lo h;show#[m-1,∅,λQ2 hn _=>?_]
  clear hK k;show st ?_;left;show rf (n:=3) (d:=d+2) hl e1 #v[] (λo ho=>by have:=l3 o ho;omega) ∅ λq2 S2 e2 hq2 k2=>bP (hn _ _ #[i+1,q2,∅,rfl,e2,?_,k1.trans k2])
  show KW k1.len hq2
 ·have h:¬ (i:Ks)<3:=MU h;obtain rfl:i=3:=∅
  rw[xi]at e1;show hK _ _ ?_;clear hK K l6 l3 ho hol h him;show st ?_;delta wS wE Kv;nofun
  have hq1:=bH e1;show for_tup (gs.map ay) (λi Z S'=>(∃a3 a4,Z=[ba R,ba (.ref q),ba (.ref ↥S1),a3,a4])/\(∃U,S'[↥S1]?=ba (.dic U)/\HasD U (bZ bs (gs.take i)))/\S'[q]?=ba (.lst (aS ap))/\Ka S S') rfl rfl ?_ ?_ ?_
  ·delta wE wV wG;subst hR0;show ah #v[] rfl #[rfl,#[_,_,rfl],#[[],af,.nil],ak e1,k1.trans .push]
  ·rintro i w Z S2 hw ⟨⟨a3,a4,rfl⟩,⟨U,e2,h2⟩,el2,k2⟩;clear hK k;rw[Kh,Kb]at hw;obtain⟨g,hg1,rfl⟩:=hw;obtain⟨gg,g3⟩:=hgs g (Ko hg1);have hi:i<↥gs:=(Kq.mp hg1).1;show ab (show fX (.nm 3) (ay g) [ba R,ba (.ref q),ba (.ref ↥S1),a3,a4] S2=ba ([ba R,ba (.ref q),ba (.ref ↥S1),ba (ay g),a4],S2)from rfl) ?_
   intro Q2 hn _;nofun
   show ja q (aS ap) (λj Z S'=>(∃a4,Z=[ba R,ba (.ref q),ba (.ref ↥S1),ba (ay g),a4])/\(∃U,S'[↥S1]?=ba (.dic U)/\HasD U (bZ bs (gs.take i)++(ap.take j).map (aj bs g)))/\S'[q]?=ba (.lst (aS ap))/\Ka S S') rfl rfl #[rfl,#[_,rfl],#[U,e2,by rw[Tz,RX,Ml];show h2],el2,k2] (λj Z S' h=>h.2.2.1) ?_ ?_
   ·rintro j w Z S3 hw ⟨⟨a4,rfl⟩,⟨U3,e3,h3⟩,el3,k3⟩;clear hK hn;unfold aS at hw;rw[Kh,Kb]at hw;obtain⟨t,ht,rfl⟩:=hw;have tk:↥t<=3/\t.Nodup/\∀p∈t,p<3:=by
     have:∀t∈ap,↥t<=3/\t.Nodup/\∀p∈t,p<3:=by decide
     show this t (Ko ht)
    show ab (show fX (.nm 4) (.tup (am t)) [ba R,ba (.ref q),ba (.ref ↥S1),ba (ay g),a4] S3=ba ([ba R,ba (.ref q),ba (.ref ↥S1),ba (ay g),ba (.tup (am t))],S3)from rfl) ?_
    intro Q3 hn3 _;show st ?_;left;subst hR0;show HL (d:=d) P hp hb hnl gg (λp hp=>by have:=tk.2.2 p hp;omega) tk.2.1 ∅ λS4 k4=>?_
    have e4:=k4.get _ _ e3;have hlt:↥U3<sizeLine:=by
     have b1:=h3.len;have b2:=lJ bs (gs.take i);rw[Kk,b2,J7,K2,K2,show ap.length=6 from rfl]at b1
     rw[Lp];omega
    show ab (u8 e4 hlt) (bP (hn3 _ _ #[#[_,rfl],#[_,bn e4,?_],?_,(k3.trans k4).late k1.len]))
    ·rw[K8,ht,K5,<- Mt];show h3.put
    ·rw[a9 ∅];show k4.get _ _ el3
   ·rintro Z S3 ⟨⟨a4,rfl⟩,⟨U3,e3,h3⟩,el3,k3⟩;rw[show(aS ap).length=ap.length from J7 ..,Lb]at h3
    show hK _ _ (bP (hn _ _ #[#[_,_,rfl],#[U3,e3,?_],el3,k3]));unfold bZ at h3 ⊢;rw[K8,hg1,MN]
    simpa using h3
  ·rintro Z S2 ⟨⟨a3,a4,rfl⟩,⟨U,e2,h2⟩,el2,k2⟩;rw[J7,Lb]at h2;show hK _ _ (st (k _ U S2 e2 h2 k1.len k2))
end
section
variable{M:KJ->FF}{Z:Fm}{S:aa}
def Aw {α:Type}{elt:E}{tg:Tg}{it:Ie}{cs:Es}{cap:J5 (Ke Kf)}{mi:MI}{S1:aa}{Q:QW}(L:J5 α)(f:α->W)(p:α->KU)(g:α->W)(td:Fm->Prop)(fr:α->Fm)(hJ:∀x Z S,td Z->fX tg (f x) Z S=ba (fr x,S)/\td (fr x))(oe:dz elt=true)(oc:nq cs=true)(hc:td (eW cap Z))(hl:↥L<=1000000)(hi:jy M it Z S=ba (mi,S1))(k1:Ka S S1)(hat:∀i S',Ka S1 S'->mi.at S' i=ba (L.map f)[i]?)(hn:mi.len S1=ba (L.map f).length)
  (hstep:∀x∈L,∀S',Ka S S'->gm M elt cs (fr x) S' (λy _ S2=>p x=true/\y=g x/\Ka S' S2) (λ_ S2=>p x=false/\Ka S' S2))
  (k:∀S',Ka S S'->Q (.ref ↥S',S'++[.lst ((L.filter p).map g)])):Wp (aA M (.comp elt tg it cs cap) Z S) Q:=by
 rw[zF];show#[_,hi,_,hn,?_];show(dI (xs:=L.map f) (Q:=λq=>↥q.1<=sizeLine/\Q (.ref ↥q.2,q.2++[.lst q.1])) (λi ys Z' S'=>td Z'/\ys=((L.take i).filter p).map g/\Ka S1 S') (λi ys Z' S' h=>hat i S' h.2.2) (λi w ys Z' S' hw h=>?_) (λys Z' S' h=>?_) (L.map f).length 0 [] _ S1 ∅ #[hc,rfl,.refl]).mono λq hq=>by simpa using hq
 ·obtain⟨hj,rfl,k2⟩:=h;rw[Kh,Kb]at hw;obtain⟨x,hx,rfl⟩:=hw;obtain⟨h1,h2⟩:=hJ x Z' S' hj;show#[_,h1,?_];show(DA oc (hstep x (Ko hx) S' (k1.trans k2))).mono λc hc=>#[λz=>(aY elt oe (hc.1 z)).mono λy hy=>#[h2,?_,k2.trans hy.2.2],λz=>#[h2,?_,k2.trans (hc.2 z).2]]
  ·rw[K8,hx,PP,show(T7 (ba x)).filter p=[x]from List.filter_cons_of_pos hy.1,K5,hy.2.1];rfl
  ·rw[K8,hx,PP,show(T7 (ba x)).filter p=[]from List.filter_cons_of_neg (by rw[(hc.2 z).1];show KS),Ml]
 ·obtain⟨_,rfl,k2⟩:=h;dsimp only;rw[show(L.map f).length=↥L from J7 ..,Lb]
  show#[mf ?_,k S' (k1.trans k2)];rw[J7];show KW (Nk _ _) hl
def Ax {α:Type}{elt:E}{it:Ie}{cs:Es}{cap:J5 (Ke Kf)}{mi:MI}{S1:aa}{Q:QW}(L:J5 α)(f:α->W)(p:α->KU)(g:α->W)(R:Fm)(oe:dz elt=true)(oc:nq cs=true)(hc:eW cap Z=gV::gV::R)(hl:↥L<=1000000)(hi:jy M it Z S=ba (mi,S1))(k1:Ka S S1)(hat:∀i S',Ka S1 S'->mi.at S' i=ba (L.map f)[i]?)(hn:mi.len S1=ba (L.map f).length)
  (hstep:∀x∈L,∀S',Ka S S'->gm M elt cs (gV::ba (f x)::R) S' (λy _ S2=>p x=true/\y=g x/\Ka S' S2) (λ_ S2=>p x=false/\Ka S' S2))
  (k:∀S',Ka S S'->Q (.ref ↥S',S'++[.lst ((L.filter p).map g)])):Wp (aA M (.comp elt (.nm 1) it cs cap) Z S) Q:=
 Aw L f p g (λZ=>∃a,Z=gV::a::R) (λx=>gV::ba (f x)::R) (λ_ _ _ h=>let ⟨_,e⟩:=h;e ▸ #[rfl,_,rfl]) oe oc #[_,hc] hl hi k1 hat hn hstep k
def lK {α:Type}{elt e:E}{cs:Es}{cap:J5 (Ke Kf)}{Q:QW}(L:J5 α)(f:α->W)(p:α->KU)(g:α->W)(R:Fm)(oi:dz e=true)(oe:dz elt=true)(oc:nq cs=true)(hc:eW cap Z=gV::gV::R)(hl:↥L<=1000000)
  (he:wE M e Z S λq=>∃t,q.1=.ref t/\q.2[t]?=ba (.lst (L.map f))/\Ka S q.2)
  (hstep:∀x∈L,∀S',Ka S S'->gm M elt cs (gV::ba (f x)::R) S' (λy _ S2=>p x=true/\y=g x/\Ka S' S2) (λ_ S2=>p x=false/\Ka S' S2))
  (k:∀S',Ka S S'->Q (.ref ↥S',S'++[.lst ((L.filter p).map g)])):Wp (aA M (.comp elt (.nm 1) (.seq e) cs cap) Z S) Q:=by
 obtain⟨w,S1,e1,t,rfl,ht,k1⟩:=bD oi he;show Ax (mi:=.live t) L f p g R oe oc hc hl (by simp only[jy,ft,e1,au ht]) k1 (λi S' h=>by simp only[MI.at,au (h.get _ _ ht)]) (by simp only[MI.len,au ht,Lk]) hstep k
def rj (n:Kf):cZ 0 n=(KH n).map λi=>W.int (i:Kf):=by
 unfold cZ;show LS λi _=>?_
 rw[Qt]
def Ay {elt e:E}{cs:Es}{cap:J5 (Ke Kf)}{Q:QW}(n:Kf)(p:Kf->KU)(g:Kf->W)(R:Fm)(oi:dz e=true)(oe:dz elt=true)(oc:nq cs=true)(hc:eW cap Z=gV::gV::R)(hl:n<=1000000)
  (he:wE M e Z S λq=>q.1=.int n/\Ka S q.2)
  (hstep:∀x<n,∀S',Ka S S'->gm M elt cs (gV::ba (.int (x:Kf))::R) S' (λy _ S2=>p x=true/\y=g x/\Ka S' S2) (λ_ S2=>p x=false/\Ka S' S2))
  (k:∀S',Ka S S'->Q (.ref ↥S',S'++[.lst (((KH n).filter p).map g)])):Wp (aA M (.comp elt (.nm 1) (.rng #v[e]) cs cap) Z S) Q:=by
 obtain⟨w,S1,e1,rfl,k1⟩:=bD oi he;show Ax (mi:=.its (cZ 0 n)) (KH n) (λi=>W.int (i:Kf)) p g R oe oc hc (by rw[KQ];show hl) ?_ k1 (λi S' _=>by rw[<- rj];rfl) (by rw[<- rj];rfl) (λx hx=>hstep x (Kx.mp hx)) k
 revert jy cX dE i5 sK e1;rw[KF #[∅,∅]];rfl
def gJ {α:Type}(L:J5 α):L.filter (λ_=>true)=L:=List.filter_eq_self.mpr λ_ _=>rfl
end
abbrev dG (U:J5 (T×W))(u:Wd)(h:Pt)(p q:Kf):KU:=(bO U (bq [((u.getD p (0,[])).1,[]),((u.getD q (0,[])).1,[(u.getD q (0,[])).2.getD p 0]),(h.1,[h.2.getD p 0,h.2.getD q 0])])).isSome
def bS {u:Wd}{h:Pt}{p:Kf}(hp:p<↥u):(u++[h]).getD p (0,[])=u.getD p (0,[]):=by
 rw[KY,KY,Lg hp]
def tq {u:Wd}{h:Pt}:(u++[h]).getD ↥u (0,[])=h:=by
 rw[KY,Mg (Ki _),Us];rfl
def rm {U:J5 (T×W)}{u:Wd}{h:Pt}{p q:Kf}(h1:p<q)(h2:q<↥u):tm U (u++[h]) p q ↥u=dG U u h p q:=by
 unfold tm dG cR;rw[bS (OS h1 h2),bS h2,tq]
def lL {u:Wd}{p s:Kf}(h:p<s):(u.take s).getD p (0,[])=u.getD p (0,[]):=by
 rw[KY,KY,Ox h]
abbrev lM (U:J5 (T×W))(v:Wd):KU:=(KH (↥v-2)).all λp=>!tm U v p (↥v-2) (↥v-1)
def xj {U:J5 (T×W)}{u:Wd}{h:Pt}{s:Kf}(hs:s<↥u):lM U (u.take (s+1)++[h])=(KH s).all λp=>!dG U u h p s:=by
 have hl:(u.take (s+1)).length=s+1:=by rw[K2];omega
 unfold lM;rw[Kk,hl,LQ,show s+1+1-2=s by omega,show s+1+1-1=s+1 by omega,QG,KA,KA]
 show Rs λp=>Rs λhp=>?_
 have hp:=Kx.mp hp;have e:=rm (U:=U) (u:=u.take (s+1)) (h:=h) (p:=p) (q:=s) hp ∅
 rw[hl]at e;rw[e];unfold dG;rw[lL ∅,lL ∅]
abbrev cU (n:Kf)(hs:J5 Pt):J5 Pt:=hs.flatMap λh=>(KH n).map λ(w:Kf)=>(h.1,h.2++[(w:Ks)])
abbrev cV (U:J5 (T×W))(u:Wd)(n:Kf)(m:Ks):Kf->J5 Pt
 |0=>[(m,[])]
 |s+1=>(cU n (cV U u n m s)).filter λh=>lM U (u.take (s+1)++[h])
abbrev eB (U:J5 (T×W))(u:Wd)(a n:Kf):J5 Pt:=(KH a).flatMap λ(m:Kf)=>cV U u n (m:Ks) ↥u
def lN {ws:J5 Ks}{x:Ks}{p:Kf}(hp:p<↥ws):(ws++[x]).getD p 0=ws.getD p 0:=by
 rw[KY,KY,Lg hp]
def lO {U:J5 (T×W)}{u:Wd}{m x:Ks}{ws:J5 Ks}{p q:Kf}(h1:p<q)(h2:q<↥ws):dG U u (m,ws++[x]) p q=dG U u (m,ws) p q:=by
 unfold dG;dsimp only;rw[lN (OS h1 h2),lN h2]
def dS {U:J5 (T×W)}{u:Wd}{n:Kf}{m:Ks}:∀{s:Kf}{h:Pt},s<=↥u->(h∈cV U u n m s↔h.1=m/\↥h.2=s/\(∀w∈h.2,0<=w/\w<(n:Ks))/\∀p q,p<q->q<s->dG U u h p q=false)
 |0,h,_=>by
  rw[cV,Kt];constructor
  ·rintro rfl;show#[rfl,rfl,(λw hw=>nomatch hw),λp q _ h=>absurd h (No _)]
  ·rintro⟨h1,h2,_⟩;rw[<- h1,<- MY h2]
 |s+1,h,hs=>by
  rw[cV,L7,xj ∅,KA]
  unfold cU;rw[LU];constructor
  ·rintro⟨⟨h0,hm,hw⟩,hb⟩;obtain⟨w,hwr,rfl⟩:=Kn.mp hw;obtain⟨h1,h2,h3,h4⟩:=(dS ∅).mp hm
   have hwr:=Kx.mp hwr;show#[h1,by rw[Kk,h2];rfl,λx hx=>?_,λp q hpq hq=>?_]
   ·rcases La.mp hx with z|z
    ·show h3 x z
    ·rw[Kt.mp z];omega
   ·by_cases e:q=s
    ·subst e;have:=hb p (Kx.mpr hpq)
     simpa using this
    ·rw[lO hpq ∅];show h4 p q hpq ∅
  ·rintro⟨h1,h2,h3,h4⟩;obtain⟨m',ws⟩:=h;dsimp only at h1 h2 h3 h4;have hne:ws≠[]:=λz=>by rw[z]at h2;cases h2
   have hd:=MA hne;have hx:=h3 _ (SD hne);generalize ws.getLast hne=x at hd hx;have hdl:↥ws.dropLast=s:=by rw[Nw];omega
   generalize ws.dropLast=vs at hd hdl;subst hd;show#[#[(m',vs),(dS ∅).mpr #[h1,hdl,λw hw=>h3 w (LN _ hw),λp q hpq hq=>?_],?_],λp hp=>?_]
   ·rw[<- lO (x:=x) hpq ∅];show h4 p q hpq ∅
   ·show Kn.mpr #[x.toNat,Kx.mpr ∅,by dsimp only;rw[show((x.toNat:Kf):Ks)=x by omega]]
   ·rw[h4 p s (Kx.mp hp) ∅];rfl
def gU {U:J5 (T×W)}{u:Wd}{n:Kf}{m:Ks}:∀s:Kf,(cV U u n m s).length<=n^s
 |0=>Ki _
 |s+1=>by
  rw[cV];show KW (Nk _ _) ?_;have:=gU (U:=U) (u:=u) (n:=n) (m:=m) s;have e:∀hs:J5 Pt,(cU n hs).length=↥hs*n:=λhs=>by
   unfold cU
   induction hs with
   |nil=>simp
   |cons h hs ih=>rw[M3,Kk,ih,J7,KQ,KZ,Oj];omega
  rw[e,Pn];show Oh _ this
def nB {n:Kf}(hs:J5 Pt):(cU n hs).length=↥hs*n:=by
 unfold cU
 induction hs with
 |nil=>simp
 |cons h hs ih=>rw[M3,Kk,ih,J7,KQ,KZ,Oj];omega
def Az {U:J5 (T×W)}{u:Wd}{a n:Kf}{h:Pt}:h∈eB U u a n↔(0<=h.1/\h.1<a)/\↥h.2=↥u/\(∀w∈h.2,0<=w/\w<(n:Ks))/\∀p q,p<q->q<↥u->dG U u h p q=false:=by
 unfold eB;rw[LU];constructor
 ·rintro⟨m,hm,hh⟩;obtain⟨h1,h2⟩:=(dS (Ki _)).mp hh;have:=Kx.mp hm;show#[∅,h2]
 ·rintro⟨h1,h2⟩;show#[h.1.toNat,Kx.mpr ∅,(dS (Ki _)).mpr #[∅,h2]]
abbrev cH:Ss:=
 #v[.set 2 (.op .sub (.bi .len #v[.v 1]) (.c (.int 1))),.loop (.nm 3) (.rng #v[.op .sub (.v 2) (.c (.int 1))]) #v[.ite (.cmp .isin (.own "three_at" 4 #v[.v 1,.v 3,.op .sub (.v 2) (.c (.int 1)),.v 2]) (.v 0)) #v[.ret (.v 3)] .nil],.ret (.c .non)]
abbrev ce:Ss:=
 #v[.set 3 (.lst .nil),.loop (.nm 4) (.rng #v[.bi .len #v[.ix (.v 0) (.c (.int 0))]]) #v[.set 5 (.lst #v[.tup #v[.v 4,.tup .nil]]),.loop (.nm 6) (.rng2 #v[.c (.int 1),.op .add (.bi .len #v[.v 2]) (.c (.int 1))]) #v[.set 5 (.comp (.v 1) (.nm 1) (.seq (.own "longer_wishes" 2 #v[.v 0,.v 5])) #v[.cmp .is (.own "first_bar" 2 #v[.v 2,.op .add (.sl (.v 4) .no (.yes (.v 3))) (.tup #v[.v 1])]) (.c .non)] [gV,gV,ba 1,ba 6,ba 2])],.ex (.me .extend (.v 3) #v[.v 5])],.ret (.v 3)]
abbrev bo:Ss:=
 #v[.set 2 (.lst .nil),.loop (.tp [3,4]) (.seq (.v 1)) #v[.ex (.me .extend (.v 2) #v[.comp (.tup #v[.v 2,.op .add (.v 3) (.tup #v[.v 1])]) (.nm 1) (.rng #v[.bi .len #v[.ix (.v 0) (.c (.int 1))]]) .nil [gV,gV,ba 3,ba 4]])],.ret (.v 2)]
def rn {U:J5 (T×W)}{v:Wd}{s:Kf}(hs:↥v=s+2):lM U v=true↔∀i<s,tm U v i s (s+1)=false:=by
 unfold lM;rw[hs,show s+2-2=s from rfl,show s+2-1=s+1 from rfl,KA]
 show Rs λi=>?_
 rw[Kx,N6]
def jM {a n s:Kf}{u:Wd}(hu:GoodW a n u):GoodW a n (u.take s):=by
 have key:∀(k:Kf) (x:Pt),(u.take s)[k]?=ba x->u[k]?=ba x:=λk x e=>by
  rw[List.getElem?_take]at e;split at e
  ·show e
  ·cases e
 show#[λk x e=>hu.mark k x (key k x e),λk x e=>hu.len k x (key k x e),λk x e=>hu.way k x (key k x e)]
section
variable{defs:J5 (KJ×Df)}{fuel d:Kf}{S:aa}{Q:QW}
def rq (h3:Is defs ("three_at": KJ) 4 6 cC)(hg:Is defs ("first_bar": KJ) 2 4 cH){a n q:Kf}{v:Wd}{U:J5 (T×W)}(hv:GoodW a n v)(h2:2<=↥v)(hl:↥v<=1000)(e:S[q]?=ba (.dic U))(k:∀w,((w=.non/\lM U v=true)\/∃i:Ks,w=.int i/\lM U v=false)->Q (w,S)) :
  wO (aN (al defs fuel (d+2)) "first_bar" 2 [.ref q,ay v] S) Q:=by
 show aw hg rfl rfl λQ' hR=>?_
 replace k:∀w,((w=.non/\lM U v=true)\/∃i:Ks,w=.int i/\lM U v=false)->Q' (.rt w,S):=λw h=>hR _ _ (k w h)
 clear hR;change wZ _ _ cH [ba (.ref q),ba (ay v),gV,gV] S Q';have ul:(v.map bw).length=↥v:=J7 ..;obtain⟨s,hs⟩:∃s,↥v=s+2:=#[↥v-2,∅]
 delta cH;show st ?_;left;show aX (ab qG ?_);rw[ul,show((↥v:Kf):Ks)-1=((s+1:Kf):Ks) by omega]
 nofun
 show cq (s:Ks) (λi Z S'=>(∃a3,Z=[ba (.ref q),ba (ay v),ba (.int ((s+1:Kf):Ks)),a3])/\S'=S/\∀i'<i,tm U v i' s (s+1)=false) rfl rfl ∅ ?_ ?_ ?_
 ·delta wE wV wG;show ab qG #[?_,#[_,rfl],rfl,λi' z=>∅]
  dsimp only;rw[show((s+1:Kf):Ks)-1=(s:Ks) by omega]
 ·rintro i Z S1 hi ⟨⟨a3,rfl⟩,rfl,no⟩ Q2 hn hr;clear hK;delta Kv;nofun
  delta wS wT wE wA wV wG;show ab qG ?_;dsimp only;rw[show((s+1:Kf):Ks)-1=(s:Ks) by omega]
  show C8 (d:=d) h3 hv ∅ (L0 s) ∅ ?_
  show ab (show cx .isin (ay (cR v i s (s+1))) (.ref q) S1=ba (.bl (tm U v i s (s+1)),S1) by simp only[cx,cp e,sU];rfl) ?_
  delta wB;show aB (Q0:=Q2) (λh Q5 _ hr5=>?_) (λh Q5 hn5 _=>bP (hn5 _ _ (hK _ _ (bP (hn _ _ #[#[_,rfl],rfl,λi' z=>?_])))))
  ·show st ?_;delta wS wE wV wG;show hr5 _ _ (hr _ _ (k _ (.inr #[i,rfl,?_])));rw[P5];intro z;rw[(rn hs).mp z i ∅]at h
   cases h
  ·by_cases ei:i'=i
   ·rw[ei];show h
   ·show no i' ∅
 ·rintro Z S1 ⟨⟨a3,rfl⟩,rfl,no⟩;show hK _ _ (st ?_);delta wS wE;show k _ (.inl #[rfl,(rn hs).mpr no])
def j9 (hg:Is defs ("longer_wishes": KJ) 2 5 bo){m0 b0:W}{N:J5 W}{n l:Kf}{hs:J5 Pt}(hN:↥N=n)(hn:n<=3)(e:S[l]?=ba (.lst (hs.map bw)))(hol:∀h∈hs,↥h.2<=100)(hos:↥hs<=10000)
  (k:∀(q:Kf) (S':aa),S'[q]?=ba (.lst ((cU n hs).map bw))->↥S<=q->Ka S S'->Q (.ref q,S')) :
  wO (aN (al defs fuel (d+1)) "longer_wishes" 2 [.tup [m0,.tup N,b0],.ref l] S) Q:=by
 show aw hg rfl rfl λQ' hR=>?_
 replace k:∀(q:Kf) (S':aa),S'[q]?=ba (.lst ((cU n hs).map bw))->↥S<=q->Ka S S'->Q' (.rt (.ref q),S'):=λa b c e f=>hR _ _ (k a b c e f)
 clear hR;change wZ _ _ bo [ba (.tup [m0,.tup N,b0]),ba (.ref l),gV,gV,gV] S Q';generalize hR0:W.tup [m0,.tup N,b0]=R;have hlS:=bH e;delta bo;show st ?_;delta wS wE wA Kv;nofun
 show ja l (hs.map bw) (λi Z S'=>(∃a3 a4,Z=[ba R,ba (.ref l),ba (.ref ↥S),a3,a4])/\S'[l]?=ba (.lst (hs.map bw))/\S'[↥S]?=ba (.lst ((cU n (hs.take i)).map bw))/\Ka S S') rfl rfl #[rfl,#[gV,gV,rfl],ak e,af,.push] (λi Z S' h=>h.2.1) ?_ ?_
 ·rintro i w Z S1 hw ⟨⟨a3,a4,rfl⟩,e0,e1,k1⟩;clear hK k;rw[Kh,Kb]at hw;obtain⟨h,ho,rfl⟩:=hw;have hol:=hol h (Ko ho);show ab (show fX (.tp [3,4]) (bw h) [ba R,ba (.ref l),ba (.ref ↥S),a3,a4] S1=ba ([ba R,ba (.ref l),ba (.ref ↥S),ba (.int h.1),ba (.tup (ag h.2))],S1)from rfl) ?_
  intro Q2 hn2 _;show st ?_;left;show#[dc e1,?_];show Ay n (λ_=>true) (λ(w:Kf)=>bw (h.1,h.2++[(w:Ks)])) [ba (.int h.1),ba (.tup (ag h.2))] rfl rfl rfl rfl ∅ ?_ (λx hx S2 k2=>?_) λS2 k2=>?_
  ·delta wE wA wV wG;subst hR0;show ah #v[] rfl (aX ?_)
   rw[hN];show#[rfl,.refl]
  ·delta gm wC wE wA wV wG;show#[λ_=>ab (fe (mf ?_)) #[rfl,?_,.refl],λz=>by cases z]
   ·rw[Kk,show(ag h.2).length=↥h.2 from J7 ..];show _+1<=_;omega
   ·simp[bw,ag]
  ·rw[gJ];have e1':=ak (u:=O.lst ((KH n).map λ(w:Kf)=>bw (h.1,h.2++[(w:Ks)]))) (k2.get _ _ e1)
   have hle:(cU n (hs.take i)).length<=30000:=by
    rw[nB,K2];show KW (Og (show min i ↥hs<=10000 by omega) hn) #v[]
   show oY e1' af (by rw[J7,J7,KQ];omega) (bP (hn2 _ _ #[#[_,_,rfl],?_,?_,((k1.trans k2).trans .push).late (Ki _)]))
   ·rw[a9 ∅];show ak (k2.get _ _ e0)
   ·rw[bn e1'];unfold cU;rw[K8,ho];simp
 ·rintro Z S1 ⟨⟨a3,a4,rfl⟩,e0,e1,k1⟩;rw[J7,Lb]at e1;show hK _ _ (st (k _ _ e1 (Ki _) k1))
def oZ {n s:Kf}(hn:n<=3)(hs:s<=5):n^s<=243:=KW (Ow hn s) (Nv (n:=3) #v[] hs)
def tu {U:J5 (T×W)}{u:Wd}{n i:Kf}(hn:n<=3)(hu:↥u<=5):((KH i).flatMap λ(m:Kf)=>cV U u n (m:Ks) ↥u).length<=i*243:=by
 induction i with
 |zero=>simp
 |succ i ih=>
  rw[N2,MN,Kk,M3,List.flatMap_nil,Ml];have:=KW (gU (U:=U) (u:=u) (n:=n) (m:=(i:Kf)) ↥u) (oZ hn hu);omega
def mh (h3:Is defs ("three_at": KJ) 4 6 cC)(hfb:Is defs ("first_bar": KJ) 2 4 cH)(hlw:Is defs ("longer_wishes": KJ) 2 5 bo)(hg:Is defs ("wishes_over": KJ) 3 7 ce){Mqa N:J5 W}{b0:W}{a n q:Kf}{u:Wd}{U:J5 (T×W)}(hM:↥Mqa=a)(hN:↥N=n)(ha3:a<=3)(hn3:n<=3)(hu:GoodW a n u)(hul:↥u<=5)(e:S[q]?=ba (.dic U))
  (k:∀(l:Kf) (S':aa),S'[l]?=ba (.lst ((eB U u a n).map bw))->↥S<=l->Ka S S'->Q (.ref l,S')) :
  wO (aN (al defs fuel (d+3)) "wishes_over" 3 [.tup [.tup Mqa,.tup N,b0],.ref q,ay u] S) Q:=by
 show aw hg rfl rfl λQ' hR=>?_
 replace k:∀(l:Kf) (S':aa),S'[l]?=ba (.lst ((eB U u a n).map bw))->↥S<=l->Ka S S'->Q' (.rt (.ref l),S'):=λa b c e f=>hR _ _ (k a b c e f)
 clear hR;change wZ _ _ ce [ba (.tup [.tup Mqa,.tup N,b0]),ba (.ref q),ba (ay u),gV,gV,gV,gV] S Q';generalize hR0:W.tup [.tup Mqa,.tup N,b0]=R;have hqS:=bH e;have ul:(u.map bw).length=↥u:=J7 ..;delta ce;show st ?_;delta wS wE wA Kv;nofun
 show cq (a:Ks) (λi Z S'=>(∃a4 a5 a6,Z=[ba R,ba (.ref q),ba (ay u),ba (.ref ↥S),a4,a5,a6])/\S'[↥S]?=ba (.lst (((KH i).flatMap λ(m:Kf)=>cV U u n (m:Ks) ↥u).map bw))/\Ka S S') rfl rfl ∅ ?_ ?_ ?_
 ·delta wE wA wV wG;subst hR0;show ah #v[] rfl (aX ?_)
  rw[hM];show#[rfl,#[_,_,_,rfl],af,.push]
 ·rintro i Z S1 hi ⟨⟨a4,a5,a6,rfl⟩,e1,k1⟩ Q2 hn2 _;clear hK k;have hl1:=bH e1;delta Kv;show st ?_;left;nofun
  show jh 1 ((↥u:Ks)+1) (λm Z S'=>∃(t:Kf) (a6:Ke W),Z=[ba R,ba (.ref q),ba (ay u),ba (.ref ↥S),ba (.int i),ba (.ref t),a6]/\S'[t]?=ba (.lst ((cV U u n i m).map bw))/\Ka S1 S') rfl rfl rfl ∅ ?_ ?_ ?_
  ·delta wE wA wV wG;show#[rfl,aX (ab c9 ?_)];rw[ul];show#[rfl,↥S1,a6,rfl,af,.push]
  ·rintro m Z S2 hm ⟨t,a6,rfl,e2,k2⟩ Q3 hn3 _;clear hK hn2;have hmu:m<↥u:=∅
   rw[show(1:Ks)+m=((m+1:Kf):Ks) by omega]
   have hhl:(cV U u n i m).length<=243:=KW (gU m) (oZ ‹n<=3› ∅)
   have hll:(cU n (cV U u n i m)).length<=729:=by rw[nB];show Og hhl ‹n<=3›
   delta Kv;show st ?_;delta wS wE Kv;show lK (cU n (cV U u n i m)) bw (λh=>lM U (u.take (m+1)++[h])) bw [ba (.ref q),ba (.int ((m+1:Kf):Ks)),ba (ay u)] rfl rfl rfl rfl ∅ ?_ (λh hh S4 k4=>?_) λS4 k4=>?_
   ·delta wE wA wV wG;subst hR0;show j9 (d:=d+1) hlw hN ‹n<=3› e2 (λh hh=>by have:=((dS ∅).mp hh).2.1;omega) ∅ λl S3 e3 _ k3=>#[l,rfl,e3,k3]
   ·have hgd:GoodW a n (u.take (m+1)++[h]):=by
     unfold cU at hh;obtain⟨h0,hm0,hw⟩:=LU.mp hh;obtain⟨w,hwr,rfl⟩:=Kn.mp hw;obtain⟨g1,g2,g3,_⟩:=(dS ∅).mp hm0
     have hwr:=Kx.mp hwr;show(jM hu).snoc (by rw[g1];omega) (by rw[Kk,g2,K2,LQ];omega) λx hx=>?_
     rcases La.mp hx with z|z
     ·show g3 x z
     ·rw[Kt.mp z];omega
    have hvl:(u.take (m+1)++[h]).length=m+2:=by rw[Kk,K2,LQ];omega
    delta gm wC wT wE wA wP wV wG wN;show ab (show mE (ay u) gV (ba ((m+1:Kf):Ks)) S4=ba (.tup ((u.map bw).take (m+1)),S4) by revert ay mE gF) ?_
    dsimp only;have ev:(u.map bw).take (m+1)++[bw h]=(u.take (m+1)++[h]).map bw:=by rw[K5,O8];rfl
    show ab (fe (mf (by rw[ev,J7];omega))) ?_
    dsimp only;rw[ev];show rq (d:=d) (v:=u.take (m+1)++[h]) h3 hfb hgd ∅ ∅ (k4.get _ _ (k2.get _ _ (k1.get _ _ e))) λw hw=>?_
    show ab (show cx .is w .non S4=ba (.bl (lM U (u.take (m+1)++[h])),S4) by rcases hw with⟨rfl,hb⟩|⟨i,rfl,hb⟩<;>rw[hb]<;>rfl) ?_
    delta wB;show#[λz=>#[z,rfl,.refl],λz=>#[z,.refl]]
   ·show bP (hn3 _ _ #[_,_,rfl,af,(k2.trans k4).trans .push])
  ·rintro Z S2 ⟨t,a6,rfl,e2,k2⟩;rw[show((↥u:Ks)+1-1).toNat=↥u by omega]at e2
   show hK _ _ ?_;clear hK K;have e1':=k2.get _ _ e1;have hhl:(cV U u n i ↥u).length<=243:=KW (gU _) (oZ hn3 hul);have hfl:=tu (U:=U) (i:=i) hn3 hul;show st ?_;left;show#[dc e1',oY e1' e2 (by rw[J7,J7];omega) (bP (hn2 _ _ #[#[_,_,_,rfl],?_,(k1.trans k2).late (Ki _)]))]
   rw[bn e1',N2,MN,K5];simp
 ·rintro Z S1 ⟨⟨a4,a5,a6,rfl⟩,e1,k1⟩;rw[Kw]at e1;show hK _ _ (st (k _ _ e1 (Ki _) k1))
end
abbrev bA:Ss:=
 #v[.asg [4,5] (.ix (.v 2) (.v 3)),.loop (.nm 6) (.rng2 #v[.c (.int 1),.v 3]) #v[.loop (.nm 7) (.rng #v[.v 6]) #v[.ite (.cmp .isin (.tup #v[.tup #v[.ix (.ix (.v 2) (.v 7)) (.c (.int 0)),.tup .nil],.tup #v[.ix (.ix (.v 2) (.v 6)) (.c (.int 0)),.tup #v[.ix (.ix (.ix (.v 2) (.v 6)) (.c (.int 1))) (.v 7)]],.tup #v[.v 4,.tup #v[.ix (.v 5) (.v 7),.ix (.v 5) (.v 6)]]]) (.v 1)) #v[.ret (.c (.bl false))] .nil]],.ret (.c (.bl true))]
abbrev rz (U:J5 (T×W))(u:Wd)(s:Kf)(h:Pt):KU:=(KH s).all λq=>(KH q).all λp=>!dG U u h p q
def jl {U:J5 (T×W)}{u:Wd}{s:Kf}{h:Pt}:rz U u s h=true↔∀q<s,∀p<q,dG U u h p q=false:=by
 unfold rz;revert KA Kx N6
def iJ {α β:Type}{d:α}(n:Kf)(f:α->Kf->β)(h:0<n):∀xs:J5 α,(KH (↥xs*n)).map (λi=>f (xs.getD (i/n) d) (i % n))=xs.flatMap λx=>(KH n).map (f x)
 |[]=>by simp
 |x::xs=>by
  rw[M3,<- iJ n f h xs,KZ,Oj,Uf,List.range_add,K5,L5];congr 1
  ·show LS λi hi=>?_
   have hi:=Kx.mp hi;rw[Sv hi,Nat.mod_eq_of_lt hi];rfl
  ·show LS λi hi=>?_
   delta Vj;rw[Nat.add_div_left _ h,Nat.add_mod_left];rfl
def AA {n k:Kf}(h:0<n):br n (k+1)=(br n k).flatMap λds=>(KH n).map λ(w:Kf)=>ds++[(w:Ks)]:=by
 rw[br];show iJ (d:=[]) n (λds (w:Kf)=>ds++[(w:Ks)]) h (br n k)
def Fs {bs:J5 Ks}{a:Kf}{v:Wd}{i j:Kf}(hb:GoodB bs)(hv:GoodW a ↥bs v)(hi:i<↥v)(hj:j<↥v)(hij:i≠j):0<=bV bs v i j/\bV bs v i j<(↥bs:Ks):=by
 unfold bV
 by_cases h:j<i
 ·rw[KF h];have hp:=aq (d:=(0,[])) hi;have hw:j<(v.getD i (0,[])).2.length:=by rw[hv.len i _ hp];show h
  show hv.way i _ hp _ (Ko (aq (d:=0) hw))
 ·rw[KM h];have hp:=aq (d:=(0,[])) hj;have hw:i<(v.getD j (0,[])).2.length:=by rw[hv.len j _ hp];omega
  obtain⟨g1,g2⟩:=hv.way j _ hp _ (Ko (aq (d:=0) hw));show(hb.at g1 g2).2
def jN {bs:J5 Ks}{a:Kf}{v:Wd}{ps:J5 Kf}(hb:GoodB bs)(hv:GoodW a ↥bs v)(hps:∀p∈ps,p<↥v)(hnd:ps.Nodup):GoodW a ↥bs (aj bs v ps):=by
 have at':∀(k:Kf) (q:Pt),(aj bs v ps)[k]?=ba q->∃hk:k<↥ps,q=((v.getD ps[k] (0,[])).1,(ps.take k).map λj=>bV bs v ps[k] j):=λk q e=>by
  have hk:k<↥ps:=by
   have:=(Kq.mp e).1;rw[aO]at this;show this
  show#[hk,?_];unfold aj at e;rw[Kh,MM hk,Lk,show ps.getD k 0=ps[k] by simp[hk]]at e
  show(LB e).symm
 show#[λk q e=>?_,λk q e=>?_,λk q e=>?_]
 ·obtain⟨hk,rfl⟩:=at' k q e;have:=hv.mark _ _ (aq (d:=(0,[])) (hps _ (Lm hk)));show this
 ·obtain⟨hk,rfl⟩:=at' k q e;dsimp only;rw[J7,K2];omega
 ·obtain⟨hk,rfl⟩:=at' k q e;intro w hw;obtain⟨j,hj,rfl⟩:=Kn.mp hw;have hjm:=MF hj;show Fs hb hv (hps _ (Lm hk)) (hps _ hjm) λe=>?_
  obtain⟨m,hm,e2⟩:=L3.mp hj;rw[K2]at hm;rw[N8]at e2;have:=(MR hnd).mp (e.trans e2.symm);omega
section
variable{defs:J5 (KJ×Df)}{fuel d:Kf}{S:aa}{Q:QW}
def Ft (hd:Is defs ("_law_flow": KJ) 1 1 eg){ns:J5 Ks}{u:Kf}(hu:S[u]?=ba (.fro (ns.map W.int)))(k:∀r S',Ka S S'->Fl S' r->Q (.ref r,S')) :
  wO (aN (al defs fuel (d+1)) "_law_flow" 1 [.ref u] S) Q:=by
 show aw hd rfl rfl λQ' hR=>?_
 change wZ _ _ eg [ba (.ref u)] S Q';delta eg;show st ?_;left;have e:Bi.list.fn [.ref u] S=ba (.ref ↥S,S++[.lst (ns.map W.int)]):=by
  have h1:BI S u=gV:=by simp[BI,hu]
  simp only[Bi.fn,wx,mI,h1,iO,fm,CI hu]
 show ab e (hR _ _ (k _ _ (Ka.push.trans .push) #[↥S,ns,0,0,1,0,?_,?_,?_,#v[],#v[],#v[],#v[]]))
 ·show af
 ·show ak af
 ·simp
end
def j3 {bt:Kf->Kf->KU}{N:Kf}(ir:∀i<N,bt i i=false)(tr:∀i j k,i<N->j<N->k<N->bt i j=true->bt j k=true->bt i k=true):∀n,n<N->∀j≤n,bt j (argBest bt n)=false
 |0,hn,j,hj=>by
  obtain rfl:j=0:=∅
  show ir 0 hn
 |n+1,hn,j,hj=>by
  have ih:=j3 ir tr n ∅
  have hb:=dg bt n;revert argBest;cases c:bt (n+1) (argBest bt n)with
  |true=>
   rw[KF rfl]
   by_cases e:j=n+1
   ·subst e;show ir _ hn
   ·cases c2:bt j (n+1)with
    |false=>rfl
    |true=>
     have:=tr j (n+1) (argBest bt n) ∅ hn ∅ c2 c
     rw[ih j ∅]at this;cases this
  |false=>
   rw[KM (by show KS)]
   by_cases e:j=n+1
   ·subst e;show c
   ·show ih j ∅
def lP {ks:J5 T}(hn:∀x∈ks,dZ x=true)(hl:eJ ks=true)(hne:ks≠[]):∃x,ks[gx ks]?=ba x/\x∈ks/\∀y∈ks,gP y x=ba false:=by
 have hp:0<↥ks:=Rj.mpr hne;have hm:gx ks<↥ks:=by
  unfold gx;have:=dg (lW ks) (↥ks-1);omega
 have ltk:∀i j (hi:i<↥ks) (hj:j<↥ks),gP ks[i] ks[j]=ba (lW ks i j):=λi j hi hj=>dA hl hi hj
 have ir:∀i<↥ks,lW ks i i=false:=λi hi=>by
  cases c:lW ks i i with
  |false=>rfl
  |true=>
   have e:=ltk i i hi hi;rw[c]at e;have:=kY _ _ (hn _ (Lm hi)) e;rw[e]at this;cases this
 have mn:=j3 (bt:=lW ks) (N:=↥ks) ir (λi j k hi hj hk h1 h2=>by
  have e1:=ltk i j hi hj;have e2:=ltk j k hj hk;rw[h1]at e1;rw[h2]at e2;have:=sv _ _ _ (hn _ (Lm hi)) (hn _ (Lm hj)) e1 e2;rw[ltk i k hi hk]at this;show LB this) (↥ks-1) ∅
 show#[ks[gx ks],Kl hm,Lm hm,λy hy=>?_]
 obtain⟨j,hj,rfl⟩:=L3.mp hy;rw[ltk j _ hj hm];congr 1;show mn j ∅
def o4 {x y:T}(hx:dZ x=true)(h1:gP x y=ba false)(h2:gP y x=ba false):x=y:=by
 by_cases e:x=y
 ·show e
 ·rw[oq x y hx e h2]at h1;cases h1
def rA:∀{xs ys as bs:J5 T},↥xs=↥ys->cY xs ys=ba true->cY (xs++as) (ys++bs)=ba true
 |[],[],_,_,_,h=>by cases h
 |x::xs,y::ys,as,bs,hl,h=>by
  simp only[SF,cY]at h ⊢
  by_cases e:x=y
  ·rw[KF e]at h ⊢;show rA (by simpa using hl) h
  ·rw[KM e]at h ⊢;show h
 |[],_::_,_,_,hl,_=>by simp at hl
 |_::_,[],_,_,hl,_=>by simp at hl
def rB {as bs:J5 T}:∀xs:J5 T,cY (xs++as) (xs++bs)=cY as bs
 |[]=>rfl
 |x::xs=>by
  revert SF cY Mm;show rB xs
def Fu {x y:T}(hx:dZ x=true)(h:cY [x] [y]=ba true):gP x y=ba true:=by
 simp only[cY]at h;split at h
 ·cases h
 ·show h
structure Ord (n:Kf)(o:J5 Kf):Prop where
 nd:o.Nodup
 lt:∀p∈o,p<n
abbrev eC:Kf->J5 (J5 Kf)
 |0=>[[]]
 |k+1=>(eC k).flatMap λo=>(KH (k+1)).map λi=>o.take i++[k]++o.drop i
def eR:∀{n:Kf}{o:J5 Kf},o∈eC n↔Ord n o/\↥o=n
 |0,o=>by
  rw[eC,Kt];show#[λh=>by subst h;show#[#[.nil,λp hp=>nomatch hp],rfl],λh=>MY h.2]
 |n+1,o=>by
  rw[eC,LU];constructor
  ·rintro⟨o',h1,h2⟩;obtain⟨i,hi,rfl⟩:=Kn.mp h2;obtain⟨⟨nd,lt⟩,hl⟩:=eR.mp h1;have hi:=Kx.mp hi;have hp:(o'.take i++[n]++o'.drop i).Perm (n::o'):=by
    have e:o'.take i++[n]++o'.drop i=o'.take i++n::o'.drop i:=by simp
    rw[e];show Qi.trans ?_;rw[Ni]
   show#[#[hp.nodup_iff.mpr (LY.mpr #[λz=>absurd (lt _ z) (LR _),nd]),λp hpm=>?_],by rw[hp.length_eq,KZ,hl]]
   rcases KD.mp (hp.mem_iff.mp hpm)with z|z
   ·omega
   ·have:=lt p z;omega
  ·rintro⟨⟨nd,lt⟩,hl⟩;have hm:n∈o:=by
    by_cases z:n∈o
    ·show z
    ·have h1:=fS o (KH n) nd λp hp=>Kx.mpr (by
      have:=lt p hp;have:p≠n:=λe=>z (e▸hp)
      omega)
     rw[KQ]at h1;omega
   obtain⟨a,b,rfl⟩:=List.append_of_mem hm;have hp:(a++n::b).Perm (n::(a++b)):=Qi;have nd2:=hp.nodup_iff.mp nd;obtain⟨nn,nd3⟩:=LY.mp nd2;show#[a++b,eR.mpr #[#[nd3,λp hpm=>?_],?_],Kn.mpr #[↥a,Kx.mpr ?_,?_]]
   ·have h1:=lt p (hp.mem_iff.mpr (LL _ hpm));have:p≠n:=λe=>nn (e▸hpm)
    omega
   ·have:=hp.length_eq;rw[hl,KZ]at this;omega
   ·rw[Kk,KZ]at hl;omega
   ·rw[List.take_left',Ta]<;>simp
abbrev aT (bs:J5 Ks)(u:Wd)(o:J5 Kf):Pt:=gI bs u o.dropLast (o.getLastD 0)
abbrev cf (ps:J5 Pt):Pt:=ps.getD (gx (ps.map hZ)) (0,[])
abbrev eS (bs:J5 Ks)(u:Wd):Kf->J5 (J5 Kf)
 |0=>[[]]
 |k+1=>(aE ↥u (eS bs u k)).filter λo=>decide (aT bs u o=cf ((aE ↥u (eS bs u k)).map (aT bs u)))
abbrev o5 (bs:J5 Ks)(u:Wd):Kf->Wd
 |0=>[]
 |k+1=>o5 bs u k++[cf ((aE ↥u (eS bs u k)).map (aT bs u))]
def AB (p:Pt):dZ (hZ p)=true:=by
 have:=kw [p]
 simpa [cK]using this
def nC (ps:J5 Pt):eJ (ps.map hZ)=true:=by
 unfold eJ;rw[KA];intro x hx;rw[KA];intro y hy;obtain⟨p,_,rfl⟩:=Kn.mp hx;obtain⟨q,_,rfl⟩:=Kn.mp hy;show sV _ _ (zS p q)
def nD {ps:J5 Pt}(h:ps≠[]):ps[gx (ps.map hZ)]?=ba (cf ps)/\cf ps∈ps/\∀y∈ps,gP (hZ y) (hZ (cf ps))=ba false:=by
 obtain⟨x,h1,h2,h3⟩:=lP (ks:=ps.map hZ) (λx hx=>by obtain⟨p,_,rfl⟩:=Kn.mp hx;show AB p) (nC ps) (by simpa using h)
 rw[Kh,Kb]at h1;obtain⟨p,hp,rfl⟩:=h1;have e:cf ps=p:=by unfold cf;rw[KY,hp];rfl
 rw[e];show#[hp,Ko hp,λy hy=>h3 _ (Kn.mpr #[y,hy,rfl])]
def fG {n:Kf}{os:J5 (J5 Kf)}{o':J5 Kf}:o'∈aE n os↔∃o∈os,∃p,p<n/\p∉o/\o'=o++[p]:=by
 unfold aE;rw[LU];constructor
 ·rintro⟨o,ho,h⟩;obtain⟨p,hp,rfl⟩:=Kn.mp h;obtain⟨h1,h2⟩:=L7.mp hp;show#[o,ho,p,Kx.mp h1,Lo h2,rfl]
 ·rintro⟨o,ho,p,h1,h2,rfl⟩;show#[o,ho,Kn.mpr #[p,L7.mpr #[Kx.mpr h1,LZ h2],rfl]]
def gW {bs:J5 Ks}{u:Wd}{o:J5 Kf}{p:Kf}:aT bs u (o++[p])=gI bs u o p:=by
 unfold aT;rw[Q7,Q8]
def gK {n:Kf}{o:J5 Kf}{p:Kf}:Ord n (o++[p])↔Ord n o/\p<n/\p∉o:=by
 constructor
 ·rintro⟨nd,lt⟩;rw[N9]at nd;show#[#[nd.1,λq hq=>lt q (LN _ hq)],lt p (by simp),λz=>nd.2.2 p z p (by simp) rfl]
 ·rintro⟨⟨nd,lt⟩,h1,h2⟩;show#[N9.mpr #[nd,by simp,λa ha b hb e=>?_],λq hq=>?_]
  ·rw[Kt.mp hb]at e;show h2 (e▸ha)
  ·rcases La.mp hq with z|z
   ·show lt q z
   ·rw[Kt.mp z];show h1
def rC {n:Kf}{o:J5 Kf}(h:Ord n o)(hl:↥o<n):∃p,p<n/\p∉o:=by
 by_cases z:∃p,p<n/\p∉o
 ·show z
 ·have h1:=fS (KH n) o NO λp hp=>by
   by_cases z2:p∈o
   ·show z2
   ·show absurd #[p,Kx.mp hp,z2] z
  rw[KQ]at h1;omega
def HQ (u v:Wd):(gP (bq u) (bq v)).isSome=true:=by
 have:=de [u,v];unfold eJ at this;rw[KA]at this;have:=this (bq u) (by simp)
 rw[KA]at this;show this (bq v) (by simp)
def Fv {u v:Wd}(h:gP (bq u) (bq v)≠ba true):gP (bq u) (bq v)=ba false:=by
 obtain⟨b,hb⟩:=Lx.mp (HQ u v);cases b with
 |false=>show hb
 |true=>show absurd hb h
structure GrOk (bs:J5 Ks)(u:Wd)(k:Kf):Prop where
 mem:∀o,o∈eS bs u k↔Ord ↥u o/\↥o=k/\aj bs u o=o5 bs u k
 least:∀o,Ord ↥u o->↥o=k->gP (bq (aj bs u o)) (bq (o5 bs u k))=ba false
 ne:eS bs u k≠[]
 len:(o5 bs u k).length=k
def o7 {k:Kf}{o:J5 Kf}(h:↥o=k+1):∃o' p,o=o'++[p]/\↥o'=k:=by
 have hne:o≠[]:=λz=>by rw[z]at h;cases h
 show#[o.dropLast,o.getLast hne,(MA hne).symm,by rw[Nw];omega]
def lQ {bs:J5 Ks}{u:Wd}:∀k,k<=↥u->GrOk bs u k
 |0,_=>by
  show#[λo=>?_,λo _ hl=>?_,SC _ _,rfl]
  ·rw[eS,Kt];show#[λh=>by subst h;show#[#[.nil,λp hp=>nomatch hp],rfl,rfl],λh=>MY h.2.1]
  ·rw[MY hl];rfl
 |k+1,hk=>by
  have ih:=lQ (bs:=bs) (u:=u) k ∅
  have lne:aE ↥u (eS bs u k)≠[]:=by
   obtain⟨o,ho⟩:=Ot _ ih.ne;obtain⟨h1,h2,_⟩:=(ih.mem o).mp ho;obtain⟨p,hp,hpo⟩:=rC h1 ∅
   show OL (fG.mpr #[o,ho,p,hp,hpo,rfl])
  obtain⟨_,b2,b3⟩:=nD (ps:=(aE ↥u (eS bs u k)).map (aT bs u)) (by simpa using lne)
  have ef:o5 bs u (k+1)=o5 bs u k++[cf ((aE ↥u (eS bs u k)).map (aT bs u))]:=rfl;have eo:eS bs u (k+1)=(aE ↥u (eS bs u k)).filter λo=>decide (aT bs u o=cf ((aE ↥u (eS bs u k)).map (aT bs u))):=rfl
  generalize cf ((aE ↥u (eS bs u k)).map (aT bs u))=best at b2 b3 ef eo;show#[λo=>?_,λo hO hl=>?_,?_,by rw[ef,Kk,ih.len];rfl]
  ·rw[eo,L7,ef];constructor
   ·rintro⟨h1,h2⟩;obtain⟨o,ho,p,hp,hpo,rfl⟩:=fG.mp h1;obtain⟨g1,g2,g3⟩:=(ih.mem o).mp ho;have h2:=Lo h2;rw[gW]at h2;show#[gK.mpr #[g1,hp,hpo],by rw[Kk,g2];rfl,by rw[dR,g3,h2]]
   ·rintro⟨h1,h2,h3⟩;obtain⟨o,p,rfl,hl⟩:=o7 h2;obtain⟨g1,g2,g3⟩:=gK.mp h1;rw[dR]at h3;obtain⟨e1,e2⟩:=List.append_inj h3 (by rw[aO,ih.len,hl])
    show#[fG.mpr #[o,(ih.mem o).mpr #[g1,hl,e1],p,g2,g3,rfl],LZ ?_];rw[gW];show List.singleton_inj.mp e2
  ·obtain⟨o,p,rfl,hl'⟩:=o7 hl;clear hl;have hl:=hl';obtain⟨g1,g2,g3⟩:=gK.mp hO;show Fv λz=>?_
   rw[dR,ef]at z;have z:cY ((aj bs u o++[gI bs u o p]).map hZ) ((o5 bs u k++[best]).map hZ)=ba true:=z;rw[K5,K5]at z
   by_cases e:aj bs u o=o5 bs u k
   ·rw[e,rB]at z;have:=Fu (AB _) z;rw[b3 _ (Kn.mpr #[o++[p],fG.mpr #[o,(ih.mem o).mpr #[g1,hl,e],p,g2,g3,rfl],gW])]at this;cases this
   ·have h1:=oq (bq (o5 bs u k)) (bq (aj bs u o)) (fU _) (λh=>e (cu h).symm) (ih.least o g1 hl)
    have h1:cY ((o5 bs u k).map hZ) ((aj bs u o).map hZ)=ba true:=h1;have h2:=rA (as:=[best].map hZ) (bs:=[gI bs u o p].map hZ) (by rw[J7,J7,aO,ih.len,hl]) h1
    have h3:=oo _ _ (by rw[<- K5];show kw _) h2
    rw[z]at h3;cases h3
  ·obtain⟨o,ho,e⟩:=Kn.mp b2;rw[eo];show OL (L7.mpr #[ho,LZ e])
abbrev aF (bs:J5 Ks)(u:Wd):Wd:=o5 bs u ↥u
def fH {bs:J5 Ks}{u:Wd}:∃o,Ord ↥u o/\↥o=↥u/\aj bs u o=aF bs u:=by
 have h:=lQ (bs:=bs) (u:=u) ↥u (Ki _);obtain⟨o,ho⟩:=Ot _ h.ne;show#[o,(h.mem o).mp ho]
def C9 (n:Kf):eC n≠[]:=by
 have:KH n∈eC n:=eR.mpr #[#[NO,λp hp=>Kx.mp hp],KQ]
 show OL this
def xk {bs:J5 Ks}{u:Wd}:((eC ↥u).map (aj bs u))[gx (((eC ↥u).map (aj bs u)).map bq)]?=ba (aF bs u):=by
 obtain⟨x,h1,h2,h3⟩:=lP (ks:=((eC ↥u).map (aj bs u)).map bq) (λx hx=>by obtain⟨p,_,rfl⟩:=Kn.mp hx;show fU p) (de _) (by simpa using C9 ↥u)
 rw[Kh,Kb]at h1;obtain⟨v,hv,rfl⟩:=h1;rw[hv];congr 1;obtain⟨o,ho,rfl⟩:=Kn.mp (Ko hv);obtain⟨g1,g2⟩:=eR.mp ho;obtain⟨o',k1,k2,k3⟩:=fH (bs:=bs) (u:=u);show cu (o4 (fU _) ((lQ _ (Ki _)).least o g1 g2) ?_);show h3 _ (Kn.mpr #[_,Kn.mpr #[o',eR.mpr #[k1,k2],rfl],by rw[k3]])
def gX {bs:J5 Ks}{u:Wd}{o:J5 Kf}{i:Kf}(hi:i<↥o):(aj bs u o).getD i (0,[])=((u.getD (o.getD i 0) (0,[])).1,(o.take i).map λj=>bV bs u (o.getD i 0) j):=by
 unfold aj;rw[KY,Kh,MM hi];rfl
def rD {bs:J5 Ks}{u:Wd}{o:J5 Kf}{i j:Kf}(hi:i<↥o)(hj:j<i):((aj bs u o).getD i (0,[])).2.getD j 0=bV bs u (o.getD i 0) (o.getD j 0):=by
 rw[gX hi];dsimp only;rw[KY,Kh,Ox hj,aq (d:=0) (show j<↥o by omega)];rfl
def AC {bs:J5 Ks}{a:Kf}{u:Wd}{o:J5 Kf}{i j:Kf}(hb:GoodB bs)(hu:GoodW a ↥bs u)(hO:Ord ↥u o)(hi:i<↥o)(hj:j<↥o)(hij:i≠j):bV bs (aj bs u o) i j=bV bs u (o.getD i 0) (o.getD j 0):=by
 have gi:=aq (d:=0) hi;have gj:=aq (d:=0) hj;have li:=hO.lt _ (Ko gi);have lj:=hO.lt _ (Ko gj);have ne:o.getD i 0≠o.getD j 0:=λe=>by
  have h1:o[i]=o.getD i 0:=by simp[hi]
  have h2:o[j]=o.getD j 0:=by simp[hj]
  show hij ((MR hO.nd).mp (by rw[h1,h2,e]))
 by_cases h:j<i
 ·have:bV bs (aj bs u o) i j=((aj bs u o).getD i (0,[])).2.getD j 0:=by unfold bV;rw[KF h]
  rw[this,rD hi h]
 ·have:bV bs (aj bs u o) i j=bs.getD (((aj bs u o).getD j (0,[])).2.getD i 0).toNat 0:=by unfold bV;rw[KM h]
  rw[this,rD hj ∅]
  generalize o.getD i 0=x at *
  generalize o.getD j 0=y at *
  unfold bV
  by_cases h2:x<y
  ·rw[KF h2,KM ∅]
  ·rw[KM h2,KF ∅]
   have hp:=aq (d:=(0,[])) li;have hw:y<(u.getD x (0,[])).2.length:=by rw[hu.len x _ hp];omega
   obtain⟨w0,w1⟩:=hu.way x _ hp _ (Ko (aq (d:=0) hw));have:=hb.inv ((u.getD x (0,[])).2.getD y 0).toNat ∅
   rw[this];omega
def fI {bs:J5 Ks}{a:Kf}{u:Wd}{o p:J5 Kf}(hb:GoodB bs)(hu:GoodW a ↥bs u)(hO:Ord ↥u o)(hP:Ord ↥o p):aj bs (aj bs u o) p=aj bs u (p.map λi=>o.getD i 0):=by
 show Nb (by rw[aO,aO,J7]) λk h1 h2=>?_
 rw[aO]at h1;have e1:=gX (bs:=bs) (u:=aj bs u o) (o:=p) h1;have e2:=gX (bs:=bs) (u:=u) (o:=p.map λi=>o.getD i 0) (i:=k) (by rw[J7];show h1)
 have hk:p.getD k 0<↥o:=hP.lt _ (Ko (aq (d:=0) h1));have ek:(p.map λi=>o.getD i 0).getD k 0=o.getD (p.getD k 0) 0:=by
  rw[KY,Kh,aq (d:=0) h1];rfl
 rw[ek]at e2;rw[gX hk]at e1;have f:∀(v:Wd) (hv:k<↥v),v[k]=v.getD k (0,[]):=λv hv=>by simp[hv]
 rw[f _ (by rw[aO];show h1),f _ h2,e1,e2]
 congr 1;rw[<- O8,L5];show LS λj hj=>?_
 obtain⟨m,hm,rfl⟩:=L3.mp hj;rw[K2]at hm;rw[N8];have hpm:p[m]=p.getD m 0:=by simp[show m<↥p by omega]
 rw[hpm];show AC hb hu hO hk (hP.lt _ (Ko (aq (d:=0) (show m<↥p by omega)))) λe=>?_
 have h3:p[k]=p.getD k 0:=by simp[h1]
 have:=(MR hP.nd).mp (h3.trans (e.trans hpm.symm));omega
def kz {n:Kf}{o:J5 Kf}(h:Ord n o)(hl:↥o=n){p:Kf}(hp:p<n):p∈o:=by
 by_cases z:p∈o
 ·show z
 ·have:=(gK (n:=n) (o:=o) (p:=p)).mpr #[h,hp,z];have h1:=fS (o++[p]) (KH n) this.nd λq hq=>Kx.mpr (this.lt q hq)
  rw[Kk,KQ,LQ]at h1;omega
def rE {n:Kf}{o p:J5 Kf}(h:Ord n o)(hp:Ord ↥o p):Ord n (p.map λi=>o.getD i 0):=by
 have g:∀i,i<↥o->o[i]?=ba (o.getD i 0):=λi hi=>aq hi
 show#[?_,λq hq=>?_]
 ·rw[Oi,ML];show hp.nd.imp_of_mem λ{a b} ha hb hab e=>hab ?_
  have h1:=hp.lt a ha;have h2:=hp.lt b hb;have e1:o[a]=o.getD a 0:=by simp[h1]
  have e2:o[b]=o.getD b 0:=by simp[h2]
  show(MR h.nd).mp (by rw[e1,e2,e])
 ·obtain⟨i,hi,rfl⟩:=Kn.mp hq;show h.lt _ (Ko (g i (hp.lt i hi)))
def lR {bs:J5 Ks}{a:Kf}{u:Wd}{o:J5 Kf}(hb:GoodB bs)(hu:GoodW a ↥bs u)(hO:Ord ↥u o)(hl:↥o=↥u):aF bs (aj bs u o)=aF bs u:=by
 have pl:(aj bs u o).length=↥u:=by rw[aO,hl]
 obtain⟨p,p1,p2,p3⟩:=fH (bs:=bs) (u:=aj bs u o);obtain⟨q,q1,q2,q3⟩:=fH (bs:=bs) (u:=u);rw[pl]at p1 p2;have m1:=λo h1 h2=>(lQ (bs:=bs) (u:=u) _ (Ki _)).least o h1 h2
 have m2:=λo2 h1 h2=>(lQ (bs:=bs) (u:=aj bs u o) _ (Ki _)).least o2 h1 h2
 show cu (o4 (fU _) ?_ ?_)
 ·rw[<- p3,fI hb hu hO (by rw[hl];show p1)]
  show m1 _ (rE hO (by rw[hl];show p1)) (by rw[J7,p2])
 ·have e:q=(q.map λx=>o.idxOf x).map λi=>o.getD i 0:=by
   rw[L5]
   conv=>lhs;rw[<- List.map_id q]
   show LS λx hx=>?_
   have hm:=kz hO hl (q1.lt x hx);have hlt:=M8 hm;change x=o.getD (o.idxOf x) 0;rw[KY,Kl hlt,PQ];rfl
  have hQ:Ord ↥o (q.map λx=>o.idxOf x):=by
   show#[?_,λi hi=>?_]
   ·rw[Oi,ML];show q1.nd.imp_of_mem λ{x y} hx hy hxy e=>hxy ?_
    have h1:=M8 (kz hO hl (q1.lt x hx));have h2:=M8 (kz hO hl (q1.lt y hy));have e1:=PQ h1;have e2:=PQ h2;rw[<- e1,<- e2];congr 1
   ·obtain⟨x,hx,rfl⟩:=Kn.mp hi;show M8 (kz hO hl (q1.lt x hx))
  rw[<- q3,e,<- fI hb hu hO hQ];show m2 _ (by rw[pl,<- hl];show hQ) (by rw[J7,pl,q2])
abbrev j4 (bs:J5 Ks)(X:J5 Wd):Prop:=∀w∈X,↥w=3->∀t,Ord 3 t->↥t=3->aj bs w t∈X
def dU {t:J5 Kf}:t∈ap↔Ord 3 t/\↥t=3:=by
 constructor
 ·intro h;have:∀t∈ap,t.Nodup/\(∀p∈t,p<3)/\↥t=3:=by decide
  obtain⟨h1,h2,h3⟩:=this t h;show#[#[h1,h2],h3]
 ·intro h;have h1:=eR.mpr h;have:∀t∈eC 3,t∈ap:=by decide
  show this t h1
def jO {bs:J5 Ks}{a:Kf}{gs:J5 Wd}(hb:GoodB bs)(hgs:∀g∈gs,GoodW a ↥bs g/\↥g=3):j4 bs (bZ bs gs):=by
 intro w hw _ t ht hl;unfold bZ at hw ⊢;obtain⟨g,hg,hw⟩:=LU.mp hw;obtain⟨s,hs,rfl⟩:=Kn.mp hw;obtain⟨s1,s2⟩:=dU.mp hs;obtain⟨g1,g2⟩:=hgs g hg;have s1':Ord ↥g s:=by rw[g2];show s1
 rw[fI hb g1 s1' (by rw[s2];show ht)]
 show LU.mpr #[g,hg,Kn.mpr #[_,dU.mpr #[?_,by rw[J7,hl]],rfl]]
 have:=rE s1' (p:=t) (by rw[s2];show ht)
 rw[g2]at this;show this
abbrev lS (X:J5 Wd)(u:Wd):Prop:=∀i j k,i<j->j<k->k<↥u->cR u i j k∉X
def xl {bs:J5 Ks}{a:Kf}{X:J5 Wd}{u:Wd}(hb:GoodB bs)(hT:j4 bs X)(hu:GoodW a ↥bs u)(hs:lS X u){x y z:Kf}(hx:x<↥u)(hy:y<↥u)(hz:z<↥u)(h1:x≠y)(h2:x≠z)(h3:y≠z):aj bs u [x,y,z]∉X:=by
 have ord:∀{x y z:Kf},x<↥u->y<↥u->z<↥u->x≠y->x≠z->y≠z->Ord ↥u [x,y,z]:=λ{x y z} hx hy hz h1 h2 h3=>#[by simp[h1,h2,h3],λp hp=>by simp at hp;rcases hp with rfl|rfl|rfl<;>assumption]
 have key:∀i j k,i<j->j<k->k<↥u->∀t:J5 Kf,Ord 3 t->↥t=3->aj bs u [i,j,k]∈X->LV:=λi j k a1 a2 a3 t _ _ h=>hs i j k a1 a2 a3 (by rw[<- iI (bs:=bs) a1 a2];show h)
 intro h;have turn:∀(x y z:Kf) (t:J5 Kf),Ord ↥u [x,y,z]->Ord 3 t->↥t=3->aj bs u [x,y,z]∈X->aj bs u (t.map λi=>[x,y,z].getD i 0)∈X:=λx y z t o ht hl h=>by
  have:=hT _ h (by rw[aO];rfl) t ht hl
  rw[fI hb hu o (by simpa using ht)]at this
  show this
 have o:=ord hx hy hz h1 h2 h3;have T:∀t:J5 Kf,t∈ap->aj bs u (t.map λi=>[x,y,z].getD i 0)∈X:=λt ht=>turn x y z t o (dU.mp ht).1 (dU.mp ht).2 h
 have fin:∀i j k,i<j->j<k->k<↥u->aj bs u [i,j,k]∈X->LV:=λi j k a1 a2 a3 h=>hs i j k a1 a2 a3 (by rw[<- iI (bs:=bs) a1 a2];show h)
 rcases NU h1 with a|a<;>rcases NU h2 with b|b<;>rcases NU h3 with c|c
 ·show fin x y z a c hz (T [0,1,2] #v[])
 ·show fin x z y b c hy (T [0,2,1] #v[])
 ·omega
 ·show fin z x y b a hy (T [2,0,1] #v[])
 ·show fin y x z a b hz (T [1,0,2] #v[])
 ·omega
 ·show fin y z x c b hx (T [1,2,0] #v[])
 ·show fin z y x c a hx (T [2,1,0] #v[])
def nE {bs:J5 Ks}{a:Kf}{X:J5 Wd}{u:Wd}{o:J5 Kf}(hb:GoodB bs)(hT:j4 bs X)(hu:GoodW a ↥bs u)(hO:Ord ↥u o)(hs:lS X u):lS X (aj bs u o):=by
 intro i j k h1 h2 h3;rw[aO]at h3;rw[<- iI (bs:=bs) h1 h2];have o3:Ord ↥o [i,j,k]:=#[by simp;omega,λp hp=>by simp at hp;omega]
 rw[fI hb hu hO o3];have nd:∀x y,x<↥o->y<↥o->x≠y->o.getD x 0≠o.getD y 0:=λx y hx hy hne z=>by
  rw[KY,KY,Kl hx,Kl hy]at z;show hne ((MR hO.nd).mp z)
 have lt:∀x,x<↥o->o.getD x 0<↥u:=λx hx=>by
  rw[KY,Kl hx];show hO.lt _ (Lm hx)
 show xl hb hT hu hs (lt i ∅) (lt j ∅) (lt k h3) (nd i j ∅ ∅ ∅) (nd i k ∅ h3 ∅) (nd j k ∅ h3 ∅)
def AD {bs:J5 Ks}{w:Wd}{h:Pt}{o:J5 Kf}{i:Kf}(hi:i<↥w)(ho:∀p∈o,p<↥w):gI bs (w++[h]) o i=gI bs w o i:=by
 unfold gI;rw[bS hi];congr 1;show LS λq hq=>?_
 unfold bV;rw[bS hi,bS (ho q hq)]
def rF {bs:J5 Ks}{w:Wd}{h:Pt}:∀(n:Kf) (o:J5 Kf),↥o=n->(∀p∈o,p<↥w)->aj bs (w++[h]) o=aj bs w o
 |0,o,hl,_=>by rw[LI.mp hl];simp[aj]
 |n+1,o,hl,ho=>by
  obtain⟨o',p,rfl,hl'⟩:=o7 hl;rw[dR,dR,rF n o' hl' λq hq=>ho q (LN _ hq),AD (ho p (by simp)) λq hq=>ho q (LN _ hq)]
def nF {w:Wd}{h:Pt}{i j k:Kf}(hi:i<↥w)(hj:j<↥w)(hk:k<↥w):cR (w++[h]) i j k=cR w i j k:=by
 unfold cR;rw[bS hi,bS hj,bS hk]
def nG {X:J5 Wd}{u:Wd}{h:Pt}:lS X (u++[h])↔lS X u/\∀p q,p<q->q<↥u->cR (u++[h]) p q ↥u∉X:=by
 constructor
 ·intro hs;show#[λi j k h1 h2 h3=>?_,λp q h1 h2=>hs p q ↥u h1 h2 (by simp)]
  rw[<- nF (h:=h) ∅ ∅ h3]
  show hs i j k h1 h2 (by simp;omega)
 ·rintro⟨h1,h2⟩ i j k a1 a2 a3;rw[Kk,LQ]at a3
  by_cases hk:k<↥u
  ·rw[nF ∅ ∅ hk]
   show h1 i j k a1 a2 hk
  ·have:k=↥u:=∅
   subst this;show h2 i j a1 a2
def lT {X:J5 Wd}{U:J5 (T×W)}{a n:Kf}{u:Wd}{h:Pt}(hH:HasD U X)(hu:GoodW a n u)(hs:lS X u):h∈eB U u a n↔GoodW a n (u++[h])/\lS X (u++[h]):=by
 have bar:∀p q,p<q->q<↥u->(dG U u h p q=false↔cR (u++[h]) p q ↥u∉X):=λp q h1 h2=>by
  rw[<- rm h1 h2,tm,hH.get,NP];constructor
  ·show λz y=>z (Rk y)
  ·intro z y;obtain⟨x,hx,e⟩:=Kn.mp y;rw[<- cu e]at z;show z hx
 rw[Az,nG];constructor
 ·rintro⟨h1,h2,h3,h4⟩;show#[hu.snoc h1 h2 h3,hs,λp q a b=>(bar p q a b).mp (h4 p q a b)]
 ·rintro⟨h1,_,h2⟩;have hl:(u++[h])[↥u]?=ba h:=by simp
  show#[h1.mark _ _ hl,h1.len _ _ hl,h1.way _ _ hl,λp q a b=>(bar p q a b).mpr (h2 p q a b)]
abbrev Unl (bs:J5 Ks)(a:Kf)(X:J5 Wd)(k:Kf)(L:Wd):Prop:=∃w,GoodW a ↥bs w/\↥w=k/\lS X w/\aF bs w=L
def Unl.good {bs:J5 Ks}{a k:Kf}{X:J5 Wd}{L:Wd}(hb:GoodB bs)(hT:j4 bs X)(h:Unl bs a X k L):GoodW a ↥bs L/\↥L=k/\lS X L/\aF bs L=L:=by
 obtain⟨w,h1,h2,h3,rfl⟩:=h;obtain⟨o,o1,o2,o3⟩:=fH (bs:=bs) (u:=w);rw[<- o3];show#[jN hb h1 o1.lt o1.nd,by rw[aO,o2,h2],nE hb hT h1 o1 h3,?_]
 rw[lR hb h1 o1 o2,o3]
def rG {bs:J5 Ks}{a:Kf}{X:J5 Wd}{L:Wd}:Unl bs a X 0 L↔L=[]:=by
 constructor
 ·rintro⟨w,_,h2,_,rfl⟩;rw[LI.mp h2];rfl
 ·rintro rfl;show#[[],#[λk p h=>by simp at h,λk p h=>by simp at h,λk p h=>by simp at h],rfl,λi j k _ _ h=>by simp at h,rfl]
def jm {bs:J5 Ks}{a k:Kf}{X:J5 Wd}{U:J5 (T×W)}{L':Wd}(hb:GoodB bs)(hT:j4 bs X)(hH:HasD U X):Unl bs a X (k+1) L'↔∃L,Unl bs a X k L/\∃h∈eB U L a ↥bs,L'=aF bs (L++[h]):=by
 constructor
 ·rintro⟨w',h1,h2,h3,rfl⟩;obtain⟨w,h,rfl,hl⟩:∃w h,w'=w++[h]/\↥w=k:=by
   have hne:w'≠[]:=λz=>by rw[z]at h2;cases h2
   show#[w'.dropLast,w'.getLast hne,(MA hne).symm,by rw[Nw,h2];rfl]
  have hw:GoodW a ↥bs w:=by
   have:=jM (s:=↥w) h1;rw[NR (Ki _),Lb]at this;show this
  have hsw:=(nG.mp h3).1;obtain⟨o,o1,o2,o3⟩:=fH (bs:=bs) (u:=w);have O:Ord (w++[h]).length (o++[↥w]):=gK.mpr #[#[o1.nd,λp hp=>by have:=o1.lt p hp;simp;omega],by simp,λz=>by have:=o1.lt _ z;omega]
  have ol:(o++[↥w]).length=(w++[h]).length:=by simp[o2]
  have e:aj bs (w++[h]) (o++[↥w])=aF bs w++[gI bs (w++[h]) o ↥w]:=by
   rw[dR,rF _ o rfl o1.lt,o3]
  have hU:Unl bs a X k (aF bs w):=#[w,hw,hl,hsw,rfl];obtain⟨g1,g2,g3,_⟩:=hU.good hb hT;show#[_,hU,gI bs (w++[h]) o ↥w,(lT hH g1 g3).mpr #[?_,?_],?_]
  ·rw[<- e];show jN hb h1 O.lt O.nd
  ·rw[<- e];show nE hb hT h1 O h3
  ·rw[<- e];show(lR hb h1 O ol).symm
 ·rintro⟨L,hU,h,hh,rfl⟩;obtain⟨g1,g2,g3,_⟩:=hU.good hb hT;obtain⟨w1,w2⟩:=(lT hH g1 g3).mp hh;show#[L++[h],w1,by simp[g2],w2,rfl]
def lU {α:Type}[BEq α][LawfulBEq α]:∀{A B:J5 α},A.Nodup->(∀x∈A,x∈B)->↥A<=↥B
 |[],_,_,_=>LC _
 |x::A,B,h,hs=>by
  rw[LY]at h;have hx:=hs x (by simp)
  have:=lU (A:=A) (B:=B.erase x) h.2 λy hy=>(Oe (λ(e:y=x)=>h.1 (by rw[<- e];show hy))).mpr (hs y (by simp[hy]))
  rw[NA hx]at this;have:=NX hx;rw[KZ];omega
def vh {n:Kf}(hn:0<n):∀{k:Kf}{ds:J5 Ks},↥ds=k->(∀w∈ds,0<=w/\w<(n:Ks))->ds∈br n k
 |0,ds,hl,_=>by rw[LI.mp hl];simp[br]
 |k+1,ds,hl,h=>by
  have hne:ds≠[]:=λz=>by rw[z]at hl;cases hl
  have e:=(MA hne).symm;have hm:=h (ds.getLast hne) (SD hne);rw[AA hn];show LU.mpr #[ds.dropLast,vh hn (by rw[Nw,hl];rfl) λw hw=>h w ((List.dropLast_sublist ds).subset hw),Kn.mpr #[(ds.getLast hne).toNat,Kx.mpr ∅,?_]]
  rw[Ou hm.1];show e.symm
def AE {a n k:Kf}(hp:0<(bg a n k).length):aL a n (k+1)=(aL a n k).flatMap λx=>(bg a n k).map λp=>x++[p]:=by
 have h:=iJ (d:=([]:Wd)) (bg a n k).length (λx i=>x++[(bg a n k).getD i (0,[])]) hp (aL a n k)
 rw[aL,h];congr 1
 funext x
 show Nb (by simp) λi h1 h2=>?_
 revert O4 RF;rw[J7]at h2;rw[KY,Kl h2];rfl
def vk {a n:Kf}(ha:0<a)(hn:0<n){w:Wd}{k:Kf}:w∈aL a n k↔GoodW a n w/\↥w=k:=by
 show#[lI,?_]
 induction k generalizing w with
 |zero=>
  rintro⟨_,h⟩;rw[LI.mp h];simp[aL]
 |succ k ih=>
  rintro⟨h1,h2⟩;have hp:0<(bg a n k).length:=by rw[eu];show Nat.mul_pos ha (Nat.pow_pos hn)
  obtain⟨w0,h,rfl,hl⟩:∃w0 h,w=w0++[h]/\↥w0=k:=by
   have hne:w≠[]:=λz=>by rw[z]at h2;cases h2
   show#[w.dropLast,w.getLast hne,(MA hne).symm,by rw[Nw,h2];rfl]
  have hw:GoodW a n w0:=by
   have:=jM (s:=↥w0) h1;rw[NR (Ki _),Lb]at this;show this
  have hg:(w0++[h])[↥w0]?=ba h:=by simp
  have m:=h1.mark _ _ hg;have l:=h1.len _ _ hg;have v:=h1.way _ _ hg;rw[AE hp];show LU.mpr #[w0,ih #[hw,hl],Kn.mpr #[h,?_,rfl]];unfold bg;show LU.mpr #[h.1.toNat,Kx.mpr ∅,Kn.mpr #[h.2,vh hn (by rw[l,hl]) v,?_]]
  rw[Ou m.1]
def fJ {n:Kf}{x:Ks}(h:x∈lD n):0<=x/\x<n:=by
 obtain⟨k,hk,rfl⟩:=Kn.mp h;have:=Kx.mp hk;omega
def tz {a n:Kf}{u:Wd}(h:u∈qP a n):GoodW a n u/\↥u=3:=by
 unfold qP at h;simp only[LU,Kn]at h;obtain⟨m0,h0,m1,h1,m2,h2,w1,g1,w2,g2,w3,g3,rfl⟩:=h;show#[?_,rfl];have s1:GoodW a n ([]++[(m0,[])]):=GoodW.nil.snoc (fJ h0) rfl (λw hw=>nomatch hw)
 have s2:GoodW a n ([(m0,[])]++[(m1,[w1])]):=s1.snoc (fJ h1) rfl (λw hw=>by rw[Kt.mp hw];show fJ g1)
 show s2.snoc (fJ h2) rfl (λw hw=>by
  simp only[KD,Li,Mo]at hw;rcases hw with rfl|rfl
  ·show fJ g2
  ·show fJ g3)
def xm {a:Kf}{bs:J5 Ks}{g:Wd}(hb:GoodB bs)(h:g∈aM a bs):GoodW a ↥bs g/\↥g=3:=by
 unfold aM at h;rw[PN]at h;obtain⟨u,hu,rfl⟩:=Kn.mp h;obtain⟨gu,u3⟩:=tz hu;unfold gh;have hm:gx ((ap.map (aj bs u)).map bq)<(ap.map (aj bs u)).length:=by
  unfold gx;show L6 (dg _ _) ?_;rw[J7,J7];decide
 have:=Ko (aq (d:=[]) hm);obtain⟨t,ht,e⟩:=Kn.mp this;rw[<- e];have tk:∀t∈ap,↥t=3/\t.Nodup/\∀p∈t,p<3:=by decide
 obtain⟨t1,t2,t3⟩:=tk t ht;show#[jN hb gu (λp hp=>by have:=t3 p hp;omega) t2,by rw[aO];show t1]
def Fw {bs:J5 Ks}{u:Wd}:∃t∈ap,gh bs u=aj bs u t/\∀s∈ap,gP (bq (aj bs u s)) (bq (gh bs u))=ba false:=by
 obtain⟨x,h1,h2,h3⟩:=lP (ks:=(ap.map (aj bs u)).map bq) (λx hx=>by obtain⟨p,_,rfl⟩:=Kn.mp hx;show fU p) (de _) (by simp[ap])
 rw[Kh,Kb]at h1;obtain⟨v,hv,rfl⟩:=h1;have e:gh bs u=v:=by unfold gh;rw[KY,hv];rfl
 rw[e];obtain⟨t,ht,rfl⟩:=Kn.mp (Ko hv);show#[t,ht,rfl,λs hs=>h3 _ (Kn.mpr #[_,Kn.mpr #[s,hs,rfl],rfl])]
def xn {bs:J5 Ks}{u:Wd}(h:↥u=3):gh bs u=aF bs u:=by
 obtain⟨t,ht,e,mn⟩:=Fw (bs:=bs) (u:=u);obtain⟨o,h1,h2,h3⟩:=fH (bs:=bs) (u:=u);have hl:∀t∈ap,gP (bq (aj bs u t)) (bq (aF bs u))=ba false:=λt ht=>by
  obtain⟨g1,g2⟩:=dU.mp ht;rw[<- h]at g1 g2;show(lQ (bs:=bs) (u:=u) ↥u (Ki _)).least t g1 g2
 show cu (o4 (fU _) ?_ ?_)
 ·rw[e];show hl t ht
 ·rw[<- h3];rw[h]at h1 h2;show mn o (dU.mpr #[h1,h2])
def eD (us:J5 Wd):(bB us).Perm us:=du
structure KeyD (U:J5 (T×W))(us:J5 Wd):Prop where
 keys:U.map (·.1)=us.map bq
 nd:us.Nodup
def KeyD.put {U:J5 (T×W)}{us:J5 Wd}{f:Wd}{v:W}(h:KeyD U us):∃us',KeyD (d0 U (bq f) v) us'/\∀g,g∈us'↔g∈us\/g=f:=by
 by_cases hm:f∈us
 ·show#[us,#[?_,h.nd],λg=>#[.inl,λz=>z.elim id λe=>e▸hm]]
  rw[fD,KF (by rw[h.keys];show Kn.mpr #[f,hm,rfl]),h.keys]
 ·show#[us++[f],#[?_,?_],λg=>by rw[La,Kt]]
  ·rw[fD,KM,h.keys,K5]
   ·rfl
   ·rw[h.keys];intro z;obtain⟨g,hg,e⟩:=Kn.mp z;show hm (cu e▸hg)
  ·rw[N9];show#[h.nd,by simp,λa ha b hb e=>?_]
   rw[Kt.mp hb]at e;show hm (e▸ha)
def KeyD.len {U:J5 (T×W)}{us:J5 Wd}(h:KeyD U us):↥U=↥us:=by
 have:=congrArg SG h.keys;rw[J7,J7]at this;show this
abbrev vm (a n k:Kf):Prop:=k<=3\/(k<=4/\a=1/\n<=2)\/(n=1/\(k<=4\/(k<=5/\a<=2)))
def HR:((aL 3 1 4).filter λw=>decide (aF [0] w=w)).length<64:=by decide +kernel
def vn:(aL 1 1 4).length<64/\(aL 2 1 4).length<64/\(aL 1 1 5).length<64/\(aL 2 1 5).length<64:=by decide +kernel
def o8 {bs:J5 Ks}{a k:Kf}{X us:J5 Wd}(hs:SizeOk a bs)(hT:j4 bs X)(hk:vm a ↥bs k)(hn:us.Nodup)(hu:∀L∈us,Unl bs a X k L):↥us<64:=by
 have hb:=hs.good;obtain⟨n1,n3⟩:=hs.n3;have xp:∀L∈us,L∈aL a ↥bs k:=λL hL=>(vk hs.pos n1).mpr #[((hu L hL).good hb hT).1,((hu L hL).good hb hT).2.1]
 have len:↥us<=(aL a ↥bs k).length:=lU hn xp;have w0:(aL a ↥bs 0).length=1:=rfl;have w1:(aL a ↥bs 1).length=a:=by rw[bR,w0,eu];simp
 have w2:(aL a ↥bs 2).length=a*(a*↥bs):=by rw[bR,w1,eu];simp
 have m2:a*(a*↥bs)<=18:=Og hs.a3 hs.most;have le3:k<=3->↥us<64:=λhk=>by
  have:k=0\/k=1\/k=2\/k=3:=∅
  rcases this with rfl|rfl|rfl|rfl
  ·omega
  ·have:=hs.a3;omega
  ·omega
  ·show L6 (lU (B:=aM a bs) hn λL hL=>?_) (jf hs)
   obtain⟨g1,g2,_,g4⟩:=(hu L hL).good hb hT;rw[<- g4,<- xn g2];show oU g1 g2
 rcases hk with hk|⟨hk,rfl,h2⟩|⟨h1,hk⟩
 ·show le3 hk
 ·by_cases h3:k<=3
  ·show le3 h3
  ·have:k=4:=∅
   subst this;have out:∀w,aF bs w≠w->w∈aL 1 ↥bs 4->↥us<(aL 1 ↥bs 4).length:=λw hw hm=>by
    have:=lU (B:=(aL 1 ↥bs 4).erase w) hn λL hL=>(Oe (λ(e:L=w)=>hw (by rw[<- e];show((hu L hL).good hb hT).2.2.2))).mpr (xp L hL)
    rw[NA hm]at this;have:=NX hm;omega
   rcases hb with rfl|rfl|rfl|rfl|rfl|rfl
   ·show L6 len (by decide +kernel)
   ·have:=out [(0,[]),(0,[1]),(0,[0,0]),(0,[0,0,0])] (by decide +kernel) (by decide +kernel)
    show KR this (by decide +kernel)
   ·have:=out [(0,[]),(0,[1]),(0,[0,0]),(0,[0,0,0])] (by decide +kernel) (by decide +kernel)
    show KR this (by decide +kernel)
   ·show absurd h2 #v[]
   ·show absurd h2 #v[]
   ·show absurd h2 #v[]
 ·by_cases h3:k<=3
  ·show le3 h3
  obtain rfl:bs=[0]:=by
   rcases hb with rfl|rfl|rfl|rfl|rfl|rfl
   ·rfl
   all_goals show absurd h1 #v[]
  have ha:=hs.a3;have ha0:=hs.pos;have hc:a=1\/a=2\/a=3:=∅
  have hk':k=4\/(k=5/\a<=2):=∅
  rcases hk' with rfl|⟨rfl,h5⟩
  ·rcases hc with rfl|rfl|rfl
   ·show L6 len vn.1
   ·show L6 len vn.2.1
   ·show L6 (lU hn λL hL=>L7.mpr #[xp L hL,LZ ((hu L hL).good (.inl rfl) hT).2.2.2]) HR
  ·rcases hc with rfl|rfl|rfl
   ·show L6 len vn.2.2.1
   ·show L6 len vn.2.2.2
   ·omega
abbrev cw:Ss:=
 #v[.set 2 (.own "barred_threes" 1 #v[.v 0]),.set 3 (.lst #v[.tup .nil]),.loop (.nm 4) (.rng #v[.v 1]) #v[.set 5 .dnew,.loop (.nm 6) (.seq (.v 3)) #v[.loop (.nm 7) (.seq (.own "wishes_over" 3 #v[.v 0,.v 2,.v 6])) #v[.put (.v 5) (.own "least_form" 2 #v[.v 0,.op .add (.v 6) (.tup #v[.v 7])]) (.c (.bl true))]],.set 3 (.bi .sorted #v[.v 5])],.ret (.v 3)]
section
variable{M:KJ->FF}{Z:Fm}{S:aa}
def Fx {α:Type}{elt a b:E}{cs:Es}{cap:J5 (Ke Kf)}{Q:QW}(L:J5 α)(f g:α->W)(p:α->KU)(h:α->W)(R:Fm)(oa:dz a=true)(ob:dz b=true)(oe:dz elt=true)(oc:nq cs=true)(hc:eW cap Z=gV::gV::gV::R)(hl:↥L<=1000000)
  (he:wE M a Z S λq=>wE M b Z q.2 λq2=>∃r t,q.1=.ref r/\q2.1=.ref t/\q2.2[r]?=ba (.lst (L.map f))/\q2.2[t]?=ba (.lst (L.map g))/\Ka S q2.2)
  (hstep:∀x∈L,∀S',Ka S S'->gm M elt cs (gV::ba (f x)::ba (g x)::R) S' (λy _ S2=>p x=true/\y=h x/\Ka S' S2) (λ_ S2=>p x=false/\Ka S' S2))
  (k:∀S',Ka S S'->Q (.ref ↥S',S'++[.lst ((L.filter p).map h)])):Wp (aA M (.comp elt (.tp [1,2]) (.zip #v[a,b]) cs cap) Z S) Q:=by
 obtain⟨w,S0,e1,h1⟩:=bD oa he;obtain⟨w2,S1,e2,r,t,rfl,rfl,hr,ht,k1⟩:=bD ob h1;have hr:=hr;have hz:l8 (L.map f) (L.map g)=L.map λx=>W.tup [f x,g x]:=by
  unfold l8;rw[List.zipWith_map,List.zipWith_self]
 have hi:jy M (.zip #v[a,b]) Z S=ba (.zl r t,S1):=by
  dsimp only at hr ht;simp only[jy,cX,dE,i5,Cw,e1,e2,FR,au hr,au ht]
 dsimp only at hr ht k1;show Aw L (λx=>W.tup [f x,g x]) p h (λZ=>∃a b,Z=gV::a::b::R) (λx=>gV::ba (f x)::ba (g x)::R) (λ_ _ _ h=>let ⟨_,_,e⟩:=h;e ▸ #[rfl,_,_,rfl]) oe oc #[_,_,hc] hl hi k1 (λi S' h=>by simp only[MI.at,au (h.get _ _ hr),au (h.get _ _ ht),hz]) (by simp only[MI.len,au hr,au ht,hz]) hstep k
end
def Fy (L:J5 Pt):W.ts (L.map bw)=ba (L.map hZ):=by rw[<- sS];show T.ws_ts _
abbrev cW:Ss:=
 #v[.set 2 (.lst .nil),.set 3 (.lst #v[.tup .nil]),.whl (.cmp .lt (.bi .len #v[.v 2]) (.bi .len #v[.v 1])) #v[.set 4 (.own "longer_orders" 2 #v[.v 3,.bi .len #v[.v 1]]),.set 5 (.comp (.own "point_over" 4 #v[.v 2,.v 3,.sl (.v 1) .no (.yes (.neg (.c (.int 1)))),.ix (.v 1) (.neg (.c (.int 1)))]) (.nm 1) (.seq (.v 4)) .nil [gV,gV,ba 0,ba 1]),.set 6 (.bi .min #v[.v 5]),.ex (.me .append (.v 2) #v[.v 6]),.set 3 (.comp (.v 1) (.tp [1,2]) (.zip #v[.v 4,.v 5]) #v[.cmp .eq (.v 2) (.v 3)] [gV,gV,gV,ba 6])],.ret (.bi .tuple #v[.v 2])]
abbrev bX:Ss:=
 #v[.set 1 (.lst #v[.tup .nil]),.loop (.nm 2) (.rng #v[.v 0]) #v[.set 3 (.lst .nil),.loop (.nm 4) (.seq (.v 1)) #v[.ex (.me .extend (.v 3) #v[.comp (.op .add (.op .add (.sl (.v 3) .no (.yes (.v 1))) (.tup #v[.v 2])) (.sl (.v 3) (.yes (.v 1)) .no)) (.nm 1) (.rng #v[.op .add (.v 2) (.c (.int 1))]) .nil [gV,gV,ba 2,ba 4]])],.set 1 (.v 3)],.ret (.v 1)]
abbrev dy:Ss:=
 #v[.ret (.bi .min #v[.comp (.own "_law_part" 3 #v[.v 2,.v 3,.v 1]) (.nm 1) (.seq (.own "_law_orders" 1 #v[.bi .len #v[.v 1]])) .nil [gV,gV,ba 0,ba 1]])]
section
variable{defs:J5 (KJ×Df)}{fuel d:Kf}{S:aa}{Q:QW}
def Fz {l:Kf}{ps:J5 Pt}(h:S[l]?=ba (.lst (ps.map bw)))(hne:ps≠[])(q:Q (bw (cf ps),S)):wO (Bi.min.fn [.ref l] S) Q:=by
 show ab ?_ q;simp only[Bi.fn,wx,sr,au h,Fy];rw[KF #[by have:=jH ps;unfold bJ;omega,nC _],Kh,(nD hne).1];rfl
def FB {l:Kf}{us:J5 Wd}{v:Wd}(h:S[l]?=ba (.lst (us.map ay)))(hv:us[gx (us.map bq)]?=ba v)(q:Q (ay v,S)):wO (Bi.min.fn [.ref l] S) Q:=by
 show ab ?_ q;simp only[Bi.fn,wx,sr,au h,u5];rw[KF #[by have:=fB us;unfold bJ;omega,de _],Kh,hv];rfl
def vo {bs:J5 Ks}{u:Wd}:∀k,(eS bs u k).length<=↥u^k
 |0=>Ki _
 |k+1=>by
  have h1:=Nk (λo=>decide (aT bs u o=cf ((aE ↥u (eS bs u k)).map (aT bs u)))) (aE ↥u (eS bs u k))
  have h2:=jj (n:=↥u) (eS bs u k);have h3:=Oh ↥u (vo (bs:=bs) (u:=u) k);rw[Pn];show KW h1 (KW h2 h3)
def o9 (hfu:20<fuel)(P:Parts defs)(hlo:Is defs ("longer_orders": KJ) 2 4 aU)(hg:Is defs ("least_form": KJ) 2 7 cW){m0 b0:W}{ns:J5 KJ}{bs:J5 Ks}{a:Kf}{u:Wd}(hb:GoodB bs)(hnl:↥ns=↥bs)(hu:GoodW a ↥bs u)(hu6:↥u<=6)
  (kk:∀S',Ka S S'->Q (ay (aF bs u),S')) :
  wO (aN (al defs fuel (d+3)) "least_form" 2 [.tup [m0,.tup (KI aP ns bs),b0],ay u] S) Q:=by
 show aw hg rfl rfl λQ' hR=>?_
 replace kk:∀S',Ka S S'->Q' (.rt (ay (aF bs u)),S'):=λS' a=>hR _ _ (kk S' a)
 clear hR;change wZ _ _ cW [ba (.tup [m0,.tup (KI aP ns bs),b0]),ba (ay u),gV,gV,gV,gV,gV] S Q';generalize hR0:W.tup [m0,.tup (KI aP ns bs),b0]=R;have ul:(u.map bw).length=↥u:=J7 ..;delta cW;show st ?_;delta wS wE wA Kv;show st ?_;delta wS wE wA Kv;nofun
 show zL (λm Z S'=>∃(k q:Kf) (a4 a5 a6:Ke W),k+m=↥u/\Z=[ba R,ba (ay u),ba (.ref ↥S),ba (.ref q),a4,a5,a6]/\S'[↥S]?=ba (.lst ((o5 bs u k).map bw))/\S'[q]?=ba (.lst (aS (eS bs u k)))/\Ka S S') ↥u rfl rfl ∅ #[0,(S++[O.lst []]).length,gV,gV,gV,∅,rfl,ak af,af,Ka.push.trans .push] ?_
 rintro m Z S1 ⟨k,q,a4,a5,a6,hkm,rfl,e1,e2,k1⟩;have ok:=lQ (bs:=bs) (u:=u) k ∅
 have hl1:=bH e1;delta wT wE wA wV wG;show fZ e1 (aX ?_);rw[ul,J7,ok.len];delta wH aH wB;show#[λh=>?_,λh=>?_]
 ·have h:(k:Ks)<↥u:=Lo h;have hkn:k<↥u:=∅
  show#[m-1,∅,λQ2 hn _=>?_]
  clear hK kk;have hgl:(eS bs u k).length<=7776:=KW (vo k) (KW (Ow hu6 k) (Nv (n:=6) #v[] (show k<=5 by omega)))
  have hmul:(eS bs u k).length*↥u<=46656:=Og hgl hu6;have hll:(aE ↥u (eS bs u k)).length<=46656:=KW (jj _) hmul;show st ?_;left;show aX ?_;rw[ul];show rf (d:=d+1) hlo e2 ∅ (λo ho=>by have:=((ok.mem o).mp ho).2.1;omega) ∅ λl S2 e3 hl k2=>?_
  have hl:↥S1<=l:=hl;have lne:aE ↥u (eS bs u k)≠[]:=by
   obtain⟨o,ho⟩:=Ot _ ok.ne;obtain⟨h1,h2,_⟩:=(ok.mem o).mp ho;obtain⟨p,hp,hpo⟩:=rC h1 ∅
   show OL (fG.mpr #[o,ho,p,hp,hpo,rfl])
  show st ?_;delta wS wE Kv;show lK (aE ↥u (eS bs u k)) (λo=>.tup (am o)) (λ_=>true) (λo=>bw (aT bs u o)) [ba R,ba (ay u)] rfl rfl rfl rfl ∅ #[l,rfl,e3,.refl] (λo ho S3 k3=>?_) λS3 k3=>?_
  ·obtain⟨o,ho',p,hp,hpo,rfl⟩:=fG.mp ho;obtain⟨⟨o1,o2⟩,o3,_⟩:=(ok.mem o).mp ho';delta gm wC wE wA wP wV wG wN;show#[λ_=>?_,λz=>by cases z]
   show ab (show mE (.tup (am (o++[p]))) gV (ba (-1)) S3=ba (.tup (am o),S3) by revert mE As w8 Q7) ?_
   dsimp only;show ab (C6 (by simp)) ?_
   dsimp only;subst hR0;rw[Q8,gW];show An (d:=d) P hb hnl hu (λx hx=>#[o2 x hx,λe=>hpo (e▸hx)]) hp ∅ λS4 k4=>#[rfl,rfl,k4]
  rw[gJ];have em:(aE ↥u (eS bs u k)).map (λo=>bw (aT bs u o))=((aE ↥u (eS bs u k)).map (aT bs u)).map bw:=by rw[L5];rfl
  rw[em];have e4:(S3++[O.lst (((aE ↥u (eS bs u k)).map (aT bs u)).map bw)])[↥S3]?=ba (.lst (((aE ↥u (eS bs u k)).map (aT bs u)).map bw)):=af;have e3':=ak (u:=O.lst (((aE ↥u (eS bs u k)).map (aT bs u)).map bw)) (k3.get _ _ e3);have e1':=ak (u:=O.lst (((aE ↥u (eS bs u k)).map (aT bs u)).map bw)) (k3.get _ _ (k2.get _ _ e1));have ls3:↥S<↥S3:=KR hl1 (KW k2.len k3.len);have k4:Ka S (S3++[O.lst (((aE ↥u (eS bs u k)).map (aT bs u)).map bw)]):=((k1.trans k2).trans k3).trans .push;generalize S3++[O.lst (((aE ↥u (eS bs u k)).map (aT bs u)).map bw)]=S4 at e4 e3' e1' k4;generalize hl5:↥S3=l5 at e4 ls3;clear e2 e3 k3 k2 hl5;show st ?_;left;show Fz e4 (by simpa using lne) ?_
  show st ?_;left;show#[dc e1',Fn e1' (by rw[J7,ok.len];omega) ?_]
  have s1:=bn (o':=O.lst ((o5 bs u k).map bw++[bw (cf ((aE ↥u (eS bs u k)).map (aT bs u)))])) e1';have s3:(S4.set ↥S (O.lst ((o5 bs u k).map bw++[bw (cf ((aE ↥u (eS bs u k)).map (aT bs u)))])))[l]?=ba (.lst (aS (aE ↥u (eS bs u k)))):=by rw[a9 ∅];show e3'
  have s4:(S4.set ↥S (O.lst ((o5 bs u k).map bw++[bw (cf ((aE ↥u (eS bs u k)).map (aT bs u)))])))[l5]?=ba (.lst (((aE ↥u (eS bs u k)).map (aT bs u)).map bw)):=by rw[a9 ∅];show e4
  have k5:=k4.late (o:=O.lst ((o5 bs u k).map bw++[bw (cf ((aE ↥u (eS bs u k)).map (aT bs u)))])) (Ki ↥S);generalize S4.set ↥S (O.lst ((o5 bs u k).map bw++[bw (cf ((aE ↥u (eS bs u k)).map (aT bs u)))]))=S5 at s1 s3 s4 k5;show st ?_;delta wS wE Kv;show Fx (aE ↥u (eS bs u k)) (λo=>.tup (am o)) (λo=>bw (aT bs u o)) (λo=>decide (aT bs u o=cf ((aE ↥u (eS bs u k)).map (aT bs u)))) (λo=>.tup (am o)) [ba (bw (cf ((aE ↥u (eS bs u k)).map (aT bs u))))] rfl rfl rfl rfl rfl ∅ #[l,l5,rfl,rfl,s3,by rw[em];show s4,.refl] (λo ho S6 k6=>?_) λS6 k6=>?_
  ·delta gm wC wT wE wV wG;show ab HN ?_;delta wB;show#[λz=>#[z,rfl,.refl],λz=>#[z,.refl]]
  ·show bP (hn _ _ #[k+1,↥S6,_,_,_,∅,rfl,?_,af,(k5.trans k6).trans .push])
   have:=ak (u:=O.lst (((aE ↥u (eS bs u k)).filter λo=>decide (aT bs u o=cf ((aE ↥u (eS bs u k)).map (aT bs u)))).map λo=>W.tup (am o))) (k6.get _ _ s1)
   rw[this,show o5 bs u (k+1)=o5 bs u k++[cf ((aE ↥u (eS bs u k)).map (aT bs u))]from rfl,K5];rfl
 ·have h:¬ (k:Ks)<↥u:=MU h;obtain rfl:k=↥u:=∅
  show hK _ _ (st ?_);left;show fA e1 (kk _ k1)
def rH:∀n,n<=6->(eC n).length<=720
 |0,_=>by decide
 |1,_=>by decide
 |2,_=>by decide
 |3,_=>by decide
 |4,_=>by decide
 |5,_=>by decide +kernel
 |6,_=>by decide +kernel
 |n+7,h=>∅
def AF (hg:Is defs ("_law_orders": KJ) 1 5 bX){n:Kf}(hn:n<=6)
  (kk:∀(q:Kf) (S':aa),S'[q]?=ba (.lst (aS (eC n)))->↥S<=q->Ka S S'->Q (.ref q,S')) :
  wO (aN (al defs fuel (d+1)) "_law_orders" 1 [.int n] S) Q:=by
 show aw hg rfl rfl λQ' hR=>?_
 replace kk:∀(q:Kf) (S':aa),S'[q]?=ba (.lst (aS (eC n)))->↥S<=q->Ka S S'->Q' (.rt (.ref q),S'):=λa b c e f=>hR _ _ (kk a b c e f)
 clear hR;change wZ _ _ bX [ba (.int n),gV,gV,gV,gV] S Q';delta bX;show st ?_;delta wS wE wA Kv;nofun
 show cq (n:Ks) (λi Z S'=>∃(q:Kf) (a2 a3 a4:Ke W),Z=[ba (.int n),ba (.ref q),a2,a3,a4]/\S'[q]?=ba (.lst (aS (eC i)))/\↥S<=q/\Ka S S') rfl rfl ∅ #[rfl,_,_,_,_,rfl,af,Ki _,.push] ?_ ?_
 ·rintro i Z S1 hi ⟨q,a2,a3,a4,rfl,e1,hq,k1⟩ Q2 hn2 _;clear hK kk;have hi6:i<=5:=∅
  have hol:=rH i ∅
  have hq1:=bH e1;delta Kv;show st ?_;delta wS wE wA Kv;nofun
  show ja q (aS (eC i)) (λj Z S'=>(∃a4,Z=[ba (.int n),ba (.ref q),ba (.int i),ba (.ref ↥S1),a4])/\S'[q]?=ba (.lst (aS (eC i)))/\S'[↥S1]?=ba (.lst (aS (((eC i).take j).flatMap λo=>(KH (i+1)).map λm=>o.take m++[i]++o.drop m)))/\Ka S S') rfl rfl #[rfl,#[_,rfl],ak e1,af,k1.trans .push] (λj Z S' h=>h.2.1) ?_ ?_
  ·rintro j w Z S2 hw ⟨⟨a4,rfl⟩,e0,e2,k2⟩;clear hK hn2;unfold aS at hw;rw[Kh,Kb]at hw;obtain⟨o,ho,rfl⟩:=hw;have hlo:↥o=i:=(eR.mp (Ko ho)).2;have hj:j<(eC i).length:=(Kq.mp ho).1;show ab (show fX (.nm 4) (.tup (am o)) [ba (.int n),ba (.ref q),ba (.int i),ba (.ref ↥S1),a4] S2=ba ([ba (.int n),ba (.ref q),ba (.int i),ba (.ref ↥S1),ba (.tup (am o))],S2)from rfl) ?_
   intro Q3 hn3 _;show st ?_;left;show#[dc e2,?_];show Ay (i+1) (λ_=>true) (λm=>.tup (am (o.take m++[i]++o.drop m))) [ba (.int i),ba (.tup (am o))] rfl rfl rfl rfl ∅ ?_ (λm hm S3 k3=>?_) λS3 k3=>?_
   ·delta wE wV wG;show ab c9 #[?_,.refl];rw[Int.natCast_succ]
   ·have nl:(am o).length=↥o:=J7 ..;delta gm wC wE wA wP wV wG wN;show#[λ_=>?_,λz=>by cases z]
    show ab (show mE (.tup (am o)) gV (ba ((m:Kf):Ks)) S3=ba (.tup ((am o).take m),S3) by revert mE gF) ?_
    dsimp only;show ab (fe (mf (by rw[Kk,K2];show _+1<=_;omega))) ?_
    dsimp only;show ab (show mE (.tup (am o)) (ba ((m:Kf):Ks)) gV S3=ba (.tup ((am o).drop m),S3) by revert mE qL) ?_
    dsimp only;show ab (fe (mf (by rw[Kk,Kk,K2,MS];show _+1+_<=_;omega))) #[rfl,?_,.refl]
    simp[am]
   ·rw[gJ];have e2':=ak (u:=O.lst ((KH (i+1)).map λm=>W.tup (am (o.take m++[i]++o.drop m)))) (k3.get _ _ e2)
    have hfl:(((eC i).take j).flatMap λo=>(KH (i+1)).map λm=>o.take m++[i]++o.drop m).length<=720*6:=by
     have:∀L:J5 (J5 Kf),(L.flatMap λo=>(KH (i+1)).map λm=>o.take m++[i]++o.drop m).length=↥L*(i+1):=λL=>by
      induction L with
      |nil=>simp
      |cons x L ih=>rw[M3,Kk,ih,J7,KQ,KZ,Oj];omega
     rw[this,K2];show Og ∅ ∅
    show oY e2' af (by unfold aS;rw[J7,J7,KQ];omega) (bP (hn3 _ _ #[#[_,rfl],?_,?_,((k2.trans k3).trans .push).late k1.len]))
    ·rw[a9 ∅];show ak (k3.get _ _ e0)
    ·rw[bn e2',K8,ho,MN];unfold aS;rw[K5];simp
  ·rintro Z S2 ⟨⟨a4,rfl⟩,e0,e2,k2⟩;rw[show(aS (eC i)).length=(eC i).length from J7 ..,Lb]at e2
   show hK _ _ (st ?_);delta wS wE wV wG Kv;show bP (hn2 _ _ #[_,_,_,_,rfl,e2,k1.len,k2])
 ·rintro Z S1 ⟨q,a2,a3,a4,rfl,e1,hq,k1⟩;rw[Kw]at e1;show hK _ _ (st (kk q S1 e1 hq k1))
def rJ (G:Gen defs)(ho:Is defs ("_law_orders": KJ) 1 5 bX)(hg:Is defs ("_law_least": KJ) 2 2 dy){m0 b0:W}{ns:J5 KJ}{bs:J5 Ks}{a:Kf}{u:Wd}(hb:GoodB bs)(hnl:↥ns=↥bs)(hu:GoodW a ↥bs u)(hu6:↥u<=6)
  (kk:∀S',Ka S S'->Q (ay (aF bs u),S')) :
  wO (aN (al defs fuel (d+3)) "_law_least" 2 [.tup [m0,.tup (KI aP ns bs),b0],ay u] S) Q:=by
 show aw hg rfl rfl λQ' hR=>?_
 replace kk:∀S',Ka S S'->Q' (.rt (ay (aF bs u)),S'):=λS' a=>hR _ _ (kk S' a)
 clear hR;change wZ _ _ dy [ba (.tup [m0,.tup (KI aP ns bs),b0]),ba (ay u)] S Q';generalize hR0:W.tup [m0,.tup (KI aP ns bs),b0]=R;delta dy;show st ?_;delta wS wE wA;show lK (eC ↥u) (λo=>.tup (am o)) (λ_=>true) (λo=>ay (aj bs u o)) [ba R,ba (ay u)] rfl rfl rfl rfl (by have:=rH ↥u hu6;omega) ?_ (λo ho2 S2 k2=>?_) λS2 k2=>?_
 ·delta wE wA wV wG;show aX ?_;rw[show(u.map bw).length=↥u from J7 ..]
  show AF (d:=d+1) ho hu6 λq S1 e1 _ k1=>#[q,rfl,e1,k1]
 ·obtain⟨⟨o1,o2⟩,o3⟩:=eR.mp ho2;delta gm wC wE wA wV wG;show#[λ_=>?_,λz=>by cases z]
  subst hR0;show sW (d:=d) G hb hnl hu o2 o1 ∅ λS3 k3=>#[rfl,rfl,k3]
 ·rw[gJ];dsimp only;show FB (us:=(eC ↥u).map (aj bs u)) (by rw[L5];show af) xk (kk _ (k2.trans .push))
end
structure Cts (defs:J5 (KJ×Df)):Prop where
 parts:Parts defs
 part:Is defs ("part": KJ) 3 3 jL
 longer:Is defs ("longer_orders": KJ) 2 4 aU
 least:Is defs ("least_form": KJ) 2 7 cW
 bar:Is defs ("barred_threes": KJ) 1 5 bI
 three:Is defs ("three_at": KJ) 4 6 cC
 fbar:Is defs ("first_bar": KJ) 2 4 cH
 lwish:Is defs ("longer_wishes": KJ) 2 5 bo
 wish:Is defs ("wishes_over": KJ) 3 7 ce
 unl:Is defs ("unlike_worlds": KJ) 2 8 cw
structure Forms (bs:J5 Ks)(a:Kf)(X:J5 Wd)(k:Kf)(F:J5 Wd):Prop where
 nd:F.Nodup
 mem:∀L,L∈F↔Unl bs a X k L
 srt:GL (F.map bq)
section
variable{defs:J5 (KJ×Df)}{fuel d:Kf}{S:aa}{Q:QW}
def rK (hfu:20<fuel)(C:Cts defs){ms:J5 W}{ns:J5 KJ}{bs:J5 Ks}{a k:Kf}{gs:J5 Wd}(hs:SizeOk a bs)(hml:↥ms=a)(hnl:↥ns=↥bs)(hgs:∀g∈gs,GoodW a ↥bs g/\↥g=3)(h64:↥gs<=100)(hk:vm a ↥bs k)
  (kk:∀(q:Kf) (F:J5 Wd) (S':aa),Forms bs a (bZ bs gs) k F->↥F<64->S'[q]?=ba (.lst (F.map ay))->↥S<=q->Ka S S'->Q (.ref q,S')) :
  wO (aN (al defs fuel (d+5)) "unlike_worlds" 2 [.tup [.tup ms,.tup (KI aP ns bs),.tup (gs.map ay)],.int (k:Ks)] S) Q:=by
 show aw C.unl rfl rfl λQ' hR=>?_
 replace kk:∀(q:Kf) (F:J5 Wd) (S':aa),Forms bs a (bZ bs gs) k F->↥F<64->S'[q]?=ba (.lst (F.map ay))->↥S<=q->Ka S S'->Q' (.rt (.ref q),S'):=λq F S' x y z v w=>hR _ _ (kk q F S' x y z v w)
 clear hR;change wZ _ _ cw [ba (.tup [.tup ms,.tup (KI aP ns bs),.tup (gs.map ay)]),ba (.int (k:Ks)),gV,gV,gV,gV,gV,gV] S Q';have hb:=hs.good;obtain⟨n1,n3⟩:=hs.n3;have hT:=jO hb hgs;have zl:(KI aP ns bs).length=↥bs:=by rw[M6,hnl];omega
 have hk4:k<=5:=by rcases hk with h|⟨h,_⟩|⟨_,h|⟨h,_⟩⟩<;>omega
 have hkf:∀i,i<=k->vm a ↥bs i:=λi hi=>by
  rcases hk with h|⟨h,h1,h2⟩|⟨h1,h⟩
  ·show .inl ∅
  ·show .inr (.inl #[∅,h1,h2])
  ·show .inr (.inr #[h1,∅])
 delta cw;nofun
 left;show Av (d:=d) hfu C.parts C.part C.longer C.bar hb hnl hgs h64 λqb U S1 e1 hH _ k1=>hK _ _ ?_
 clear hK K;generalize hR0:W.tup [.tup ms,.tup (KI aP ns bs),.tup (gs.map ay)]=R;generalize bZ bs gs=X at hH hT kk;show st ?_;delta wS wE wA Kv;nofun
 show cq (k:Ks) (λi Z S'=>∃(q:Kf) (F:J5 Wd) (a4 a5 a6 a7:Ke W),Z=[ba R,ba (.int (k:Ks)),ba (.ref qb),ba (.ref q),a4,a5,a6,a7]/\Forms bs a X i F/\↥F<64/\S'[q]?=ba (.lst (F.map ay))/\↥S<=q/\S'[qb]?=ba (.dic U)/\Ka S S') rfl rfl ∅ #[rfl,_,[[]],_,_,_,_,rfl,#[by simp,λL=>by rw[rG,Kt],List.pairwise_singleton ..],#v[],af,k1.len,ak e1,k1.trans .push] ?_ ?_
 ·rintro i Z S2 hi ⟨q,F,a4,a5,a6,a7,rfl,hF,hF64,e2,_,b2,k2⟩ Q2 hn2 _;clear hK kk;have hik:i+1<=k:=∅
  have hq2:=bH e2;have hb2:=bH b2;have hFg:∀L∈F,GoodW a ↥bs L/\↥L=i/\lS X L/\aF bs L=L:=λL hL=>((hF.mem L).mp hL).good hb hT
  delta Kv;show st ?_;delta wS wE Kv;nofun
  have un:∀us:J5 Wd,(∀g∈us,∃L∈F,∃h∈eB U L a ↥bs,g=aF bs (L++[h]))->∀g∈us,Unl bs a X (i+1) g:=λus h g hg=>by
   obtain⟨L,hL,hh⟩:=h g hg;show(jm hb hT hH).mpr #[L,(hF.mem L).mp hL,hh]
  show ja q (F.map ay) (λx Z S3=>(∃a6 a7,Z=[ba R,ba (.int (k:Ks)),ba (.ref qb),ba (.ref q),ba (.int (i:Ks)),ba (.ref ↥S2),a6,a7])/\(∃kv us,S3[↥S2]?=ba (.dic kv)/\KeyD kv us/\∀g,g∈us↔∃L∈F.take x,∃h∈eB U L a ↥bs,g=aF bs (L++[h]))/\S3[q]?=ba (.lst (F.map ay))/\S3[qb]?=ba (.dic U)/\Ka S S3) rfl rfl #[rfl,#[_,_,rfl],#[[],[],af,#[rfl,.nil],λg=>by simp],ak e2,ak b2,k2.trans .push] (λ_ _ _ h=>h.2.2.1) ?_ ?_
  ·rintro x w Z S3 hw ⟨⟨a6,a7,rfl⟩,⟨kv,us,e3,hD,hmem⟩,q3,b3,k3⟩;clear hK hn2;rw[Kh,Kb]at hw;obtain⟨L,hL,rfl⟩:=hw;have hLF:=Ko hL;obtain⟨g1,g2,g3,g4⟩:=hFg L hLF;have gsn:∀h∈eB U L a ↥bs,GoodW a ↥bs (L++[h]):=λh hh=>((lT hH g1 g3).mp hh).1
   have sub1:∀L'∈F.take x,L'∈F:=λL' h=>MF h
   show ab (show fX (.nm 6) (ay L) [ba R,ba (.int (k:Ks)),ba (.ref qb),ba (.ref q),ba (.int (i:Ks)),ba (.ref ↥S2),a6,a7] S3=ba ([ba R,ba (.int (k:Ks)),ba (.ref qb),ba (.ref q),ba (.int (i:Ks)),ba (.ref ↥S2),ba (ay L),a7],S3)from rfl) ?_
   intro Q3 hn3 _;nofun
   replace hK:∀Z' S',Q3 (.nx Z',S')->K Z' S':=λZ' S' h=>hK _ _ (bP h)
   show gG rfl rfl ?_;delta wE wA wV wG;subst hR0;show mh (d:=d+1) C.three C.fbar C.lwish C.wish hml zl hs.a3 n3 g1 ∅ b3 λl S4 e4 hl4 k4=>?_
   have hunW:∀h∈eB U L a ↥bs,Unl bs a X (i+1) (aF bs (L++[h])):=λh hh=>(jm hb hT hH).mpr #[L,(hF.mem L).mp hLF,h,hh,rfl]
   have hsuf:∀g,(∃L'∈F.take (x+1),∃h∈eB U L' a ↥bs,g=aF bs (L'++[h]))↔(∃L'∈F.take x,∃h∈eB U L' a ↥bs,g=aF bs (L'++[h]))\/∃h∈eB U L a ↥bs,g=aF bs (L++[h]):=λg=>by
    rw[K8,hL];constructor
    ·rintro⟨L',h1,h2⟩;rcases La.mp h1 with z|z
     ·show .inl #[L',z,h2]
     ·have:L'=L:=by simpa using z
      subst this;show .inr h2
    ·rintro(⟨L',h1,h2⟩|h2)
     ·show#[L',LN _ h1,h2]
     ·show#[L,K6 _ (by simp),h2]
   have hS3:=bH e3;generalize eB U L a ↥bs=Ws at e4 gsn hunW hsuf;show#[l,Ws.map bw,λy Z S5=>(∃a7,Z=[ba (.tup [.tup ms,.tup (KI aP ns bs),.tup (gs.map ay)]),ba (.int (k:Ks)),ba (.ref qb),ba (.ref q),ba (.int (i:Ks)),ba (.ref ↥S2),ba (ay L),a7])/\(∃kv us,S5[↥S2]?=ba (.dic kv)/\KeyD kv us/\∀g,g∈us↔(∃L'∈F.take x,∃h∈eB U L' a ↥bs,g=aF bs (L'++[h]))\/∃h∈Ws.take y,g=aF bs (L++[h]))/\S5[l]?=ba (.lst (Ws.map bw))/\S5[q]?=ba (.lst (F.map ay))/\S5[qb]?=ba (.dic U)/\Ka S S5,rfl,#[#[_,rfl],#[kv,us,k4.get _ _ e3,hD,λg=>by rw[hmem];simp],e4,k4.get _ _ q3,k4.get _ _ b3,k3.trans k4],λ_ _ _ h=>h.2.2.1,?_,?_]
   ·rintro y w Z S5 hw ⟨⟨a7,rfl⟩,⟨kv5,FW,e5,hD5,hm5⟩,l5,q5,b5,k5⟩;clear hK hn3;rw[Kh,Kb]at hw;obtain⟨h,hh,rfl⟩:=hw;have hhW:=Ko hh;show ab (show fX (.nm 7) (bw h) [ba (.tup [.tup ms,.tup (KI aP ns bs),.tup (gs.map ay)]),ba (.int (k:Ks)),ba (.ref qb),ba (.ref q),ba (.int (i:Ks)),ba (.ref ↥S2),ba (ay L),a7] S5=ba ([ba (.tup [.tup ms,.tup (KI aP ns bs),.tup (gs.map ay)]),ba (.int (k:Ks)),ba (.ref qb),ba (.ref q),ba (.int (i:Ks)),ba (.ref ↥S2),ba (ay L),ba (bw h)],S5)from rfl) ?_
    intro Q4 hn4 _;show st ?_;left;show ab (show gk .add (ay L) (.tup [bw h]) S5=ba (ay (L++[h]),S5)from ?_) ?_
    ·unfold ay;rw[fe (few (by simp;omega)),K5];rfl
    dsimp only;show o9 (d:=d+1) hfu C.parts C.longer C.least hb hnl (gsn h hhW) (by simp;omega) λS6 k6=>?_
    have e6:=k6.get _ _ e5;have hlen:FW.length<64:=o8 hs hT (hkf _ hik) hD5.nd λg hg=>by
     rcases(hm5 g).mp hg with⟨L',h1,h',h2,rfl⟩|⟨h',h2,rfl⟩
     ·show(jm hb hT hH).mpr #[L',(hF.mem L').mp (sub1 L' h1),h',h2,rfl]
     ·show hunW h' (MF h2)
    obtain⟨us',hD',hm'⟩:=hD5.put (f:=aF bs (L++[h])) (v:=.bl true);show ab (u8 e6 (by rw[hD5.len,Lp];omega)) (bP (hn4 _ _ #[#[_,rfl],#[_,us',bn e6,hD',λg=>?_],?_,?_,?_,(k5.trans k6).late k2.len]))
    ·rw[hm' g,hm5 g,K8,hh];constructor
     ·rintro((z|⟨h',h2,e⟩)|z)
      ·show .inl z
      ·show .inr #[h',LN _ h2,e]
      ·show .inr #[h,K6 _ (by simp),z]
     ·rintro(z|⟨h',h2,e⟩)
      ·show .inl (.inl z)
      ·rcases La.mp h2 with y|y
       ·show .inl (.inr #[h',y,e])
       ·have:h'=h:=by simpa using y
        subst this;show .inr e
    ·rw[a9 ∅];show k6.get _ _ l5
    ·rw[a9 ∅];show k6.get _ _ q5
    ·rw[a9 ∅];show k6.get _ _ b5
   ·rintro Z S5 ⟨⟨a7,rfl⟩,⟨kv5,FW,e5,hD5,hm5⟩,l5,q5,b5,k5⟩;rw[J7,Lb]at hm5;show hK _ _ (hn3 _ _ #[#[_,_,rfl],#[kv5,FW,e5,hD5,λg=>by rw[hsuf g];show hm5 g],q5,b5,k5])
  ·rintro Z S3 ⟨⟨a6,a7,rfl⟩,⟨kv,us,e3,hD,hmem⟩,q3,b3,k3⟩;rw[J7,Lb]at hmem;have hmu:∀g,g∈us↔Unl bs a X (i+1) g:=λg=>by
    rw[hmem g,jm hb hT hH];show#[λ#[L,h1,h2]=>#[L,(hF.mem L).mp h1,h2],λ#[L,h1,h2]=>#[L,(hF.mem L).mpr h1,h2]]
   have h64':↥us<64:=o8 hs hT (hkf _ hik) hD.nd λg hg=>(hmu g).mp hg
   show hK _ _ (st ?_);left;have hit:dB S3 (.ref ↥S2)=ba (us.map ay):=(FigD.items (L:=us) #[hD.keys,hD.nd,λ_ h=>h] e3)
   show sY hit h64' (λg hg=>?_) (bP (hn2 _ _ #[_,bB us,_,_,_,_,rfl,#[(eD us).nodup_iff.mpr hD.nd,λg=>by rw[(eD us).mem_iff];show hmu g,by rw[fE];show fq (jk hD.nd)],by rw[(eD us).length_eq];show h64',af,k3.len,ak b3,k3.trans .push]))
   obtain⟨_,g2,_⟩:=((hmu g).mp hg).good hb hT;show λz=>by rw[z]at g2;cases g2
 ·rintro Z S2 ⟨q,F,a4,a5,a6,a7,rfl,hF,hF64,e2,hq,b2,k2⟩;rw[Kw]at hF;show hK _ _ (st (kk q F S2 hF hF64 e2 hq k2))
end
abbrev fK:Ss:=
 #v[.loop (.nm 3) (.rng2 #v[.c (.int 2),.bi .len #v[.v 2]]) #v[.ite (.not (.own "_law_last_may" 4 #v[.v 0,.v 1,.v 2,.v 3])) #v[.ret (.c (.bl false))] .nil],.ret (.c (.bl true))]
abbrev AR (U:J5 (T×W))(u:Wd):KU:=(KH ↥u).all λk=>rz U u k (u.getD k (0,[]))
def vp {U:J5 (T×W)}{X:J5 Wd}{u:Wd}(hH:HasD U X):AR U u=true↔lS X u:=by
 unfold AR;rw[KA];have bar:∀i j k,dG U u (u.getD k (0,[])) i j=false↔cR u i j k∉X:=λi j k=>by
  show(bO U (bq (cR u i j k))).isSome=false↔_;rw[hH.get,NP];constructor
  ·show λz y=>z (Rk y)
  ·intro z y;obtain⟨x,hx,e⟩:=Kn.mp y;rw[<- cu e]at z;show z hx
 constructor
 ·intro h i j k h1 h2 h3;show(bar i j k).mp (jl.mp (h k (Kx.mpr h3)) j h2 i h1)
 ·intro h k hk;show jl.mpr λj hj i hi=>(bar i j k).mpr (h i j k hi hj (Kx.mp hk))
section
variable{defs:J5 (KJ×Df)}{fuel d:Kf}{S:aa}{Q:QW}
def tB (hg:Is defs ("_law_last_may": KJ) 4 8 bA){R:W}{a n q m0:Kf}{u:Wd}{U:J5 (T×W)}(hu:GoodW a n u)(hk:m0<↥u)(hl:↥u<=1000)(e:S[q]?=ba (.dic U))(k:Q (.bl (rz U u m0 (u.getD m0 (0,[]))),S)) :
  wO (aN (al defs fuel (d+1)) "_law_last_may" 4 [R,.ref q,ay u,.int (m0:Ks)] S) Q:=by
 show aw hg rfl rfl λQ' hR=>?_
 replace k:=hR _ _ k;clear hR;change wZ _ _ bA [ba R,ba (.ref q),ba (ay u),ba (.int (m0:Ks)),gV,gV,gV,gV] S Q';have hh:(u.getD m0 (0,[])).2.length=m0:=hu.len m0 _ (aq (d:=(0,[])) hk);have at':∀p<m0,((u.map bw)[((p:Kf):Ks).toNat]?=ba (bw (u.getD p (0,[])))):=λp hp=>eP ∅
 have hw:∀p<m0,(ag (u.getD m0 (0,[])).2)[((p:Kf):Ks).toNat]?=ba (.int ((u.getD m0 (0,[])).2.getD p 0)):=λp hp=>by
  rw[Kw];unfold ag;rw[Kh,aq (d:=0) ∅];rfl
 delta bA;show st ?_;delta wS wE wV wG;show ah (Kz _) (eP hk) ?_;generalize u.getD m0 (0,[])=h at hh hw k;delta wU bw;show ab (show dC [4,5] [.int h.1,.tup (h.2.map W.int)] [ba R,ba (.ref q),ba (ay u),ba (.int (m0:Ks)),gV,gV,gV,gV]=ba [ba R,ba (.ref q),ba (ay u),ba (.int (m0:Ks)),ba (.int h.1),ba (.tup (ag h.2)),gV,gV]from rfl) ?_
 nofun
 show jh 1 (m0:Ks) (λm Z S'=>(∃a6 a7,Z=[ba R,ba (.ref q),ba (ay u),ba (.int (m0:Ks)),ba (.int h.1),ba (.tup (ag h.2)),a6,a7])/\S'=S/\∀j<m+1,∀p<j,dG U u h p j=false) rfl rfl rfl ∅ #[rfl,rfl,#[_,_,rfl],rfl,λj hj p hp=>∅] ?_ ?_
 ·rintro m Z S1 hm ⟨⟨a6,a7,rfl⟩,rfl,no⟩ Q2 hn2 hr2;clear hK;rw[show(1:Ks)+m=((m+1:Kf):Ks) by omega]
  have hmu:m+1<m0:=∅
  generalize hj:m+1=j at hmu hn2 no;delta Kv;nofun
  show cq (j:Ks) (λi Z S'=>(∃a7,Z=[ba R,ba (.ref q),ba (ay u),ba (.int (m0:Ks)),ba (.int h.1),ba (.tup (ag h.2)),ba (.int (j:Ks)),a7])/\S'=S1/\∀p<i,dG U u h p j=false) rfl rfl ∅ #[rfl,#[_,rfl],rfl,λp hp=>∅] ?_ ?_
  ·rintro i Z S2 hi ⟨⟨a7,rfl⟩,rfl,no2⟩ Q3 hn3 hr3;clear hK;have hij:i<j:=∅
   have hiu:i<m0:=∅
   have lj:i<(u.getD j (0,[])).2.length:=by rw[hu.len j _ (aq (d:=(0,[])) ∅)];show hij
   delta Kv;nofun
   delta wS wT wE wA wV wG;show ah (Kz i) (at' i hiu) (ah #v[] rfl (ah (Kz j) (at' j hmu) (ah #v[] rfl (ah (Kz j) (at' j hmu) (ah #v[] rfl (ah (w:=.int ((u.getD j (0,[])).2.getD i 0)) (Kz i) (by rw[Kw,Kh,aq (d:=0) lj];rfl) (ah (Kz i) (hw i hiu) (ah (Kz j) (hw j hmu) ?_))))))))
   show ab (show cx .isin (ay [((u.getD i (0,[])).1,[]),((u.getD j (0,[])).1,[(u.getD j (0,[])).2.getD i 0]),(h.1,[h.2.getD i 0,h.2.getD j 0])]) (.ref q) S2=ba (.bl (dG U u h i j),S2) by simp only[cx,cp e,sU];rfl) ?_
   delta wB;show aB (Q0:=Q3) (λhb Q5 _ hr5=>?_) (λhb Q5 hn5 _=>bP (hn5 _ _ (hK _ _ (bP (hn3 _ _ #[#[_,rfl],rfl,λp hp=>?_])))))
   ·show st ?_;delta wS wE;have:rz U u m0 h=false:=by
     rw[P5];intro z;rw[jl.mp z j hmu i hij]at hb;cases hb
    rw[this]at k;show hr5 _ _ (hr3 _ _ (hr2 _ _ k))
   ·by_cases ep:p=i
    ·rw[ep];show hb
    ·show no2 p ∅
  ·rintro Z S2 ⟨⟨a7,rfl⟩,rfl,no2⟩;rw[Kw]at no2;show hK _ _ (bP (hn2 _ _ #[#[_,_,rfl],rfl,λj' hj' p hp=>?_]))
   by_cases ej:j'=j
   ·subst ej;show no2 p hp
   ·show no j' ∅ p hp
 ·rintro Z S1 ⟨⟨a6,a7,rfl⟩,rfl,no⟩;show hK _ _ (st ?_);delta wS wE;rw[jl.mpr λq hq p hp=>no q ∅ p hp]at k
  show k
def HS (hlm:Is defs ("_law_last_may": KJ) 4 8 bA)(hg:Is defs ("_law_may": KJ) 3 4 fK){R:W}{a n q:Kf}{u:Wd}{U:J5 (T×W)}(hu:GoodW a n u)(hl:↥u<=1000)(e:S[q]?=ba (.dic U))(k:Q (.bl (AR U u),S)) :
  wO (aN (al defs fuel (d+2)) "_law_may" 3 [R,.ref q,ay u] S) Q:=by
 show aw hg rfl rfl λQ' hR=>?_
 replace k:=hR _ _ k;clear hR;change wZ _ _ fK [ba R,ba (.ref q),ba (ay u),gV] S Q';have ul:(u.map bw).length=↥u:=J7 ..;delta fK;nofun
 show jh 2 (↥u:Ks) (λm Z S'=>(∃a3,Z=[ba R,ba (.ref q),ba (ay u),a3])/\S'=S/\∀j<m+2,j<↥u->rz U u j (u.getD j (0,[]))=true) rfl rfl rfl ∅ ?_ ?_ ?_
 ·delta wE wA wV wG;show#[rfl,aX ?_];rw[ul];show#[rfl,#[_,rfl],rfl,λj hj _=>jl.mpr λy hy x hx=>∅]
 ·rintro m Z S1 hm ⟨⟨a3,rfl⟩,rfl,no⟩ Q2 hn2 hr2;clear hK;rw[show(2:Ks)+m=((m+2:Kf):Ks) by omega]
  have hmu:m+2<↥u:=∅
  delta Kv;nofun
  delta wS wT wE wA wV wG;show tB (d:=d) hlm hu hmu hl e ?_;show ab (show ga S1 (.bl (rz U u (m+2) (u.getD (m+2) (0,[]))))=ba (rz U u (m+2) (u.getD (m+2) (0,[])))from rfl) ?_
  show aB (Q0:=Q2) (λz Q5 _ hr5=>?_) (λz Q5 hn5 _=>bP (hn5 _ _ (hK _ _ (bP (hn2 _ _ #[#[_,rfl],rfl,λj hj hju=>?_])))))
  ·show st ?_;delta wS wE;have:AR U u=false:=by
    rw[P5];intro y;have:=KA.mp y (m+2) (Kx.mpr hmu);rw[this]at z;cases z
   rw[this]at k;show hr5 _ _ (hr2 _ _ k)
  ·by_cases ej:j=m+2
   ·rw[ej];simpa using z
   ·show no j ∅ hju
 ·rintro Z S1 ⟨⟨a3,rfl⟩,rfl,no⟩;show hK _ _ (st ?_);delta wS wE;have:AR U u=true:=KA.mpr λj hj=>no j (by have:=Kx.mp hj;omega) (Kx.mp hj)
  rw[this]at k;show k
end
abbrev eE:Ss:=
 #v[.ite (.and (.cmp .lt (.bi .len #v[.ix (.v 1) (.c (.int 0))]) (.c (.int 3))) (.cmp .eq (.bi .len #v[.ix (.v 1) (.c (.int 1))]) (.c (.int 1)))) #v[.ret (.own "_law_pick" 2 #v[.v 0,.c (.int 6)])] .nil,.ite (.or (.and (.cmp .eq (.bi .len #v[.ix (.v 1) (.c (.int 0))]) (.c (.int 1))) (.cmp .eq (.bi .len #v[.ix (.v 1) (.c (.int 1))]) (.c (.int 2)))) (.cmp .eq (.bi .len #v[.ix (.v 1) (.c (.int 1))]) (.c (.int 1)))) #v[.ret (.own "_law_pick" 2 #v[.v 0,.c (.int 5)])] .nil,.ret (.own "_law_pick" 2 #v[.v 0,.c (.int 4)])]
abbrev kA:Ss:=
 #v[.set 1 (.own "_law_flow" 1 #v[.v 0]),.set 2 (.own "_law_full_rule" 1 #v[.v 1]),.set 3 (.own "_law_bad" 1 #v[.v 2]),.set 4 (.own "_law_size" 2 #v[.v 1,.v 2]),.set 5 (.op .add (.sl (.v 2) .no (.yes (.c (.int 2)))) (.tup #v[.tup .nil])),.set 6 (.bi .sorted #v[.bi .set #v[.comp (.own "_law_least" 2 #v[.v 3,.v 1]) (.nm 1) (.seq (.own "_law_worlds" 2 #v[.v 2,.v 4])) #v[.own "_law_may" 3 #v[.v 3,.v 2,.v 1]] [gV,gV,ba 3,ba 2]]]),.set 7 (.own "unlike_worlds" 2 #v[.v 2,.v 4]),.ite (.not (.own "_law_alike" 2 #v[.v 7,.v 6])) #v[.ret (.c (.bl false))] .nil,.ex (.me .append (.v 7) #v[.c .non]),.set 8 (.bi .min #v[.v 4,.c (.int 3)]),.set 9 (.bi .sorted #v[.bi .set #v[.comp (.own "_law_least" 2 #v[.v 2,.v 1]) (.nm 1) (.seq (.own "_law_worlds" 2 #v[.v 5,.v 8])) .nil [gV,gV,ba 5]]]),.ite (.not (.own "_law_alike" 2 #v[.own "unlike_worlds" 2 #v[.v 5,.v 8],.v 9])) #v[.ret (.c (.bl false))] .nil,.ret (.and (.own "_law_alike" 2 #v[.own "unlike_worlds" 2 #v[.v 2,.v 4],.v 6]) (.own "_law_alike" 2 #v[.own "unlike_worlds" 2 #v[.v 2,.c (.int 0)],.lst #v[.tup .nil]]))]
structure Lw66 (defs:J5 (KJ×Df)):Prop where
 gen:Gen defs
 full:Full defs
 cts:Cts defs
 flow:Is defs ("_law_flow": KJ) 1 1 eg
 bad:Is defs ("_law_bad": KJ) 1 4 fF
 may:Is defs ("_law_may": KJ) 3 4 fK
 lmay:Is defs ("_law_last_may": KJ) 4 8 bA
 alike:Is defs ("_law_alike": KJ) 2 2 aZ
 orders:Is defs ("_law_orders": KJ) 1 5 bX
 least:Is defs ("_law_least": KJ) 2 2 dy
 size:Is defs ("_law_size": KJ) 2 2 eE
 law:Is defs ("law": KJ) 1 10 kA
def vt {a n k:Kf}(ha1:1<=a)(ha:a<=3)(hn1:1<=n)(hn:n<=3)(han:a*n<=6)(hk:vm a n k):∀i<k,1<=(bg a n i).length/\(bg a n i).length<=27/\(aL a n i).length*(bg a n i).length<=216:=by
 intro i hi
 by_cases h2:i<=2
 ·show lF ha1 ha hn1 hn han h2
 ·rcases hk with hk|⟨hk,rfl,hn2⟩|⟨rfl,hk⟩
  ·omega
  ·have:i=3:=∅
   subst this;have:n=1\/n=2:=∅
   rcases this with rfl|rfl<;>decide +kernel
  ·have hi':i=3\/(i=4/\a<=2):=∅
   have ha':a=1\/a=2\/a=3:=∅
   rcases hi' with rfl|⟨rfl,h⟩
   ·rcases ha' with rfl|rfl|rfl<;>decide +kernel
   ·rcases ha' with rfl|rfl|rfl
    ·decide +kernel
    ·decide +kernel
    ·omega
def HU {a n:Kf}{u:Wd}(hu:GoodW a n u)(hl:↥u<=1000):Tr 3 (ay u):=by
 show#[by rw[J7];show hl,λx hx=>?_]
 obtain⟨p,hp,rfl⟩:=Kn.mp hx;obtain⟨k,hk,e⟩:=L3.mp hp;have hpl:=hu.len k p (by rw[Kl hk,e])
 show#[Nj rfl,λy hy=>?_]
 simp only[KD,Li,Mo]at hy;rcases hy with rfl|rfl
 ·trivial
 ·show#[by rw[J7];omega,λz hz=>?_]
  obtain⟨w,_,rfl⟩:=Kn.mp hz;trivial
def AG {bs:J5 Ks}{a k:Kf}{X F ks:J5 Wd}(hF:Forms bs a X k F)(hk:ks.Nodup)(hm:∀L,L∈ks↔Unl bs a X k L):bB ks=F:=by
 show lH (iX (λx hx=>?_) ?_ (by rw[fE];show fq (jk hk)) hF.srt)
 ·obtain⟨u,_,rfl⟩:=Kn.mp hx;show fU u
 ·show T0 _ ((eD ks).trans ?_);show(Of hk hF.nd).mpr λL=>(hm L).trans (hF.mem L).symm
def DD:∀us:J5 Wd,∃vs:J5 Wd,vs.Nodup/\∀x,x∈vs↔x∈us
 |[]=>#[[],.nil,λ_=>.rfl]
 |u::us=>by
  obtain⟨vs,h1,h2⟩:=DD us
  by_cases h:u∈vs
  ·show#[vs,h1,λx=>by rw[KD,<- h2];show#[.inr,λz=>z.elim (λe=>e▸h) id]]
  ·show#[u::vs,LY.mpr #[h,h1],λx=>by rw[KD,KD,h2]]
section
variable{defs:J5 (KJ×Df)}{fuel d:Kf}{S:aa}{r:Kf}{Q:QW}
def AH {bs:J5 Ks}{a k l:Kf}{X us:J5 Wd}(hs:SizeOk a bs)(hT:j4 bs X)(hk:vm a ↥bs k)(h:S[l]?=ba (.lst (us.map ay)))(hu:∀L,L∈us↔Unl bs a X k L)
  (q:∀(F:J5 Wd) (t:Kf) (S':aa),(∀G,Forms bs a X k G->G=F)->S'[t]?=ba (.lst (F.map ay))->(∀g∈F,GoodW a ↥bs g/\↥g=k)->↥F<64->↥S<=t->Ka S S'->Q (.ref t,S')):wO (Bi.set.fn [.ref l] S) λp=>wO (Bi.sorted.fn [p.1] p.2) Q:=by
 have good:∀L,L∈us->GoodW a ↥bs L/\↥L=k:=λL hL=>#[(((hu L).mp hL).good hs.good hT).1,(((hu L).mp hL).good hs.good hT).2.1]
 obtain⟨vs,n1,n2⟩:=DD us;obtain⟨ks,e,nd,hm,h64⟩:=rh (us:=us) (L:=vs) (o8 hs hT hk n1 λL hL=>(hu L).mp ((n2 L).mp hL)) λu hu'=>(n2 u).mpr hu'
 show At h e (vg af h64 nd ?_ ?_)
 ·rcases NY k with h0|h0
  ·show .inl (R7 (fS ks [[]] nd λu hu'=>?_))
   have:=(good u ((hm u).mp hu')).2;rw[h0]at this;rw[LI.mp this];show .head _
  ·show .inr λu hu' z=>?_
   have:=(good u ((hm u).mp hu')).2;rw[z]at this;have:0=k:=this;omega
 ·have hp:=eD ks;show q (bB ks) _ _ (λG hG=>(AG hG nd λL=>(hm L).trans (hu L)).symm) af (λg hg=>good g ((hm g).mp (hp.mem_iff.mp hg))) (by rw[hp.length_eq];show h64) (by simp) (Ka.push.trans .push)
def FC (G:Gen defs)(hg:Is defs ("_law_size": KJ) 2 2 eE){Mqa N:J5 W}{b0:W}{a n:Kf}(hM:↥Mqa=a)(hN:↥N=n)(hf:Fl S r)(k:∀(j:Kf) S',vm a n j->Fl S' r->Kp r S S'->Q (.int (j:Ks),S')):wO (aN (al defs fuel (d+2)) "_law_size" 2 [.ref r,.tup [.tup Mqa,.tup N,b0]] S) Q:=by
 show aw hg rfl rfl λQ' hR=>?_
 replace k:∀(j:Kf) S',vm a n j->Fl S' r->Kp r S S'->Q' (.rt (.int (j:Ks)),S'):=λj S' a b c=>hR _ _ (k j S' a b c)
 clear hR;change wZ _ _ eE [ba (.ref r),ba (.tup [.tup Mqa,.tup N,b0])] S Q';delta eE;have pk:∀(m:Kf) (Q2:QO),0<m->m<=6->(∀j:Kf,j<m->vm a n j)->(∀w S',Q' (.rt w,S')->Q2 (.rt w,S'))->wZ (al defs fuel (d+1)) fuel #v[.ret (.own "_law_pick" 2 #v[.v 0,.c (.int (m:Kf))])] [ba (.ref r),ba (.tup [.tup Mqa,.tup N,b0])] S Q2:=λm Q2 m0 m6 hm hr=>by
  show st ?_;left;show be (d:=d) G.pick hf ∅ ∅ λv S1 v0 v1 f1 k1=>hr _ _ ?_
  obtain⟨j,rfl⟩:∃j:Kf,v=j:=#[v.toNat,∅]
  show k j S1 (hm j ∅) f1 k1
 nofun
 delta wS wT wE wA wV wG;show ah #v[] rfl (aX (ab wH ?_))
 rw[hM];have aQ:¬ (a<3/\n=1)->K [ba (.ref r),ba (.tup [.tup Mqa,.tup N,b0])] S:=λhno=>by
  show hK _ _ ?_;clear hK K;nofun
  delta wS wT wE wA wV wG;show ah #v[] rfl (aX (ab gf ?_))
  rw[hM];have last:K [ba (.ref r),ba (.tup [.tup Mqa,.tup N,b0])] S:=hK _ _ (pk 4 Q' #v[] #v[] (λj hj=>.inl ∅) λ_ _ h=>h)
  have n1:∀Q2:QO,n=1->(∀w S',Q' (.rt w,S')->Q2 (.rt w,S'))->wZ (al defs fuel (d+1)) fuel #v[.ret (.own "_law_pick" 2 #v[.v 0,.c (.int 5)])] [ba (.ref r),ba (.tup [.tup Mqa,.tup N,b0])] S Q2:=λQ2 h1 hr=>pk 5 Q2 #v[] #v[] (λj hj=>.inr (.inr #[h1,.inl ∅])) hr
  have second:wO (n6 (.tup [.tup Mqa,.tup N,b0]) (.int 1) S) λp=>wO (Bi.len.fn [p.1] p.2) λp=>wO (cx .eq p.1 (.int 1) p.2) λr_1=>wB r_1.1 λt=>∀Q2:QO,(∀Z' S',K Z' S'->Q2 (.nx Z',S'))->(∀o S',(∀Z',o≠.nx Z')->Q' (o,S')->Q2 (o,S'))->(t=true->zJ (al defs fuel (d+1)) fuel #v[.ret (.own "_law_pick" 2 #v[.v 0,.c (.int 5)])] [ba (.ref r),ba (.tup [.tup Mqa,.tup N,b0])] r_1.2 Q2)/\(t=false->zJ (al defs fuel (d+1)) fuel .nil [ba (.ref r),ba (.tup [.tup Mqa,.tup N,b0])] r_1.2 Q2):=by
   show ah #v[] rfl (aX (ab gf ?_))
   rw[hN];show aB (Q0:=Q') (λz Q2 _ hr=>n1 Q2 (by have:=eq_of_beq z;omega) hr) (λz Q2 hn _=>bP (hn _ _ last))
  show#[λz=>?_,λ_=>#[λz=>(by cases z),λ_=>second]]
  show ah #v[] rfl (aX (ab gf ?_))
  rw[hN];show#[λz2 Q2 hn hr=>#[λ_=>(pk 5 Q2 #v[] #v[] (λj hj=>.inr (.inl #[∅,by have:=eq_of_beq z;omega,by have:=eq_of_beq z2;omega])) λw S' h=>hr _ _ (λ_ z=>nomatch z) h).out,λz=>(by cases z)],λ_=>second]
 show#[λz=>?_,λz=>aB (Q0:=Q') (λz=>by cases z) (λ_ Q2 hn _=>bP (hn _ _ (aQ λh=>by have:=MU z;omega)))]
 show ah #v[] rfl (aX (ab gf ?_))
 rw[hN];show aB (Q0:=Q') (λz2 Q2 _ hr=>pk 6 Q2 #v[] #v[] (λj hj=>.inr (.inr #[by have:=eq_of_beq z2;omega,.inr #[∅,by have:=Lo z;omega]])) hr) (λz2 Q2 hn _=>bP (hn _ _ (aQ λh=>by
  have:¬ ((n:Ks)=1):=λe=>by rw[e]at z2;cases z2
  omega)))
def AI {M:KJ->FF}{fl:Kf}{Z:Fm}{S:aa}{t:E}{a:Ss}{K:Fm->aa->Prop}{Q:QO}(ht:∀Q:QB,(∀S',Ka S S'->Q (true,S'))->wT M t Z S Q)(hk:∀S',Ka S S'->K Z S'):wS M fl (.ite (.not t) a .nil) Z S K Q:=by
 delta wS wT;show ht _ λS' k' Q' h1 h2=>#[λz=>(by cases z),λ_=>(bP (h1 _ _ (hk S' k'))).out]
def AJ (hfu:50<fuel)(L:Lw66 defs){zs:J5 Ks}:∃S',al defs fuel (d+9) "law" [.ref 0] [.fro (zs.map W.int)]=ba (.bl true,S'):=by
 suffices h:wO (aN (al defs fuel (d+9)) "law" 1 [.ref 0] [.fro (zs.map W.int)]) (λp=>p.1=.bl true) by
  obtain⟨⟨v,S'⟩,e,q⟩:=b8 h;cases(show v=.bl true from q)
  show#[S',e]
 have G:=L.gen;show aw L.law rfl rfl λQ' hR=>?_
 change wZ _ _ kA [ba (.ref 0),gV,gV,gV,gV,gV,gV,gV,gV,gV] [.fro (zs.map W.int)] Q';unfold kA;nofun
 left;show Ft (d:=d+7) L.flow (ns:=zs) rfl λr S1 _ f1=>hK _ _ ?_
 clear hK K;nofun
 left;show Fp (d:=d) ∅ G L.full f1 λw S2 hw f2 _=>hK _ _ ?_
 clear hK K f1;obtain⟨a,bs,ms,ns,gs0,rfl,hr⟩:=hw;have hs:=⇑hr;have hb:=hs.good;have hnl:=hr.nl;have hml:=hr.ml;have pm:(bB gs0).Perm gs0:=du;have hgs:∀g∈bB gs0,GoodW a ↥bs g/\↥g=3:=λg hg=>xm hb (hr.mem g (pm.mem_iff.mp hg))
 have h64:(bB gs0).length<=100:=by
  have h1:=fS gs0 _ hr.nd hr.mem;have h2:=jf ⇑hr;rw[pm.length_eq];omega
 clear hr pm;unfold dF;generalize bB gs0=gs at hgs h64;clear gs0;obtain⟨n1,n3⟩:=hs.n3;have hT:=jO hb hgs;have hT0:j4 bs (bZ bs []):=jO (a:=a) hb λg hg=>(nomatch hg)
 have zl:(KI aP ns bs).length=↥bs:=by rw[M6,hnl];omega
 have mml:(ms.map W.str).length=a:=by rw[J7];show hml
 nofun
 left;show HP (d:=d+5) G L.bad hb hnl hgs h64 λq U S3 e3 hH hq k3=>hK _ _ ?_
 clear hK K;have f3:=f2.ka k3;have hqr:q≠r:=by have:=f2.lt;omega
 nofun
 left;show FC (d:=d+6) G ⇑L mml zl f3 λk S4 hk _ k4=>hK _ _ ?_
 clear hK K;have e4:S4[q]?=ba (.dic U):=k4.get _ _ hqr e3;clear k4 f3 f2 e3 k3 hq;have hk5:k<=5:=by rcases hk with h|⟨h,_⟩|⟨_,h|⟨h,_⟩⟩<;>omega
 have hk3:vm a ↥bs (min k 3):=.inl ∅
 have hk0:vm a ↥bs 0:=.inl ∅
 have unl:∀{S:aa}{Q:QW}{k:Kf},vm a ↥bs k->(∀(q:Kf) (F:J5 Wd) (S':aa),Forms bs a (bZ bs gs) k F->↥F<64->S'[q]?=ba (.lst (F.map ay))->↥S<=q->Ka S S'->Q (.ref q,S'))->wO (aN (al defs fuel (d+8)) "unlike_worlds" 2 [.tup [.tup (ms.map W.str),.tup (KI aP ns bs),.tup (gs.map ay)],.int (k:Ks)] S) Q:=λ{S Q k} hk h=>rK (d:=d+3) ∅ L.cts hs mml hnl hgs h64 hk h
 have unl0:∀{S:aa}{Q:QW}{k:Kf},vm a ↥bs k->(∀(q:Kf) (F:J5 Wd) (S':aa),Forms bs a (bZ bs []) k F->↥F<64->S'[q]?=ba (.lst (F.map ay))->↥S<=q->Ka S S'->Q (.ref q,S'))->wO (aN (al defs fuel (d+8)) "unlike_worlds" 2 [.tup [.tup (ms.map W.str),.tup (KI aP ns bs),.tup []],.int (k:Ks)] S) Q:=λ{S Q k} hk h=>rK (d:=d+3) (gs:=[]) ∅ L.cts hs mml hnl (λg hg=>(nomatch hg)) #v[] hk h
 have wor:∀{S:aa}{b0:W}{k:Kf},vm a ↥bs k->wO (aN (al defs fuel (d+8)) "_law_worlds" 2 [.tup [.tup (ms.map W.str),.tup (KI aP ns bs),b0],.int (k:Ks)] S) λp=>∃t,p.1=.ref t/\p.2[t]?=ba (.lst ((aL a ↥bs k).map ay))/\Ka S p.2:=λ{S b0 k} hk=>nz (d:=d+6) L.full.digits L.full.worlds mml zl hs.pos hs.a3 n1 n3 (by rcases hk with h|⟨h,_⟩|⟨_,h|⟨h,_⟩⟩<;>omega) (vt hs.pos hs.a3 n1 n3 hs.most hk) λt S' h1 _ h3=>#[t,rfl,h1,h3]
 have V:∀(k:Kf) (w:Wd),w∈aL a ↥bs k↔GoodW a ↥bs w/\↥w=k:=λk w=>vk hs.pos n1
 have vlen:∀k,vm a ↥bs k->(aL a ↥bs k).length<=1000000:=λk hk=>by
  cases k with
  |zero=>show(by decide:1<=1000000)
  |succ k=>rw[bR];have:=(vt hs.pos hs.a3 n1 n3 hs.most hk k (L0 _)).2.2;omega
 have lst:∀{S:aa}{Q:QW}{b0:W}{w:Wd},GoodW a ↥bs w->↥w<=6->(∀S',Ka S S'->Q (ay (aF bs w),S'))->wO (aN (al defs fuel (d+8)) "_law_least" 2 [.tup [.tup (ms.map W.str),.tup (KI aP ns bs),b0],ay w] S) Q:=λ{S Q b0 w} hu hl h=>rJ (d:=d+5) G L.orders L.least hb hnl hu hl h
 have alk:∀{S:aa}{Q:QW}{i j k:Kf}{F:J5 Wd},S[i]?=ba (.lst (F.map ay))->S[j]?=ba (.lst (F.map ay))->(∀g∈F,GoodW a ↥bs g/\↥g=k)->k<=5->↥F<64->(∀S',Ka S S'->Q (.bl true,S'))->wO (aN (al defs fuel (d+8)) "_law_alike" 2 [.ref i,.ref j] S) Q:=λ{S Q i j k F} hi hj hg hk hl h=>w9 (d:=d+3) (n:=3) L.alike hi hj (by rw[J7];omega) (λx hx=>by
  obtain⟨g,hg',rfl⟩:=Kn.mp hx;show HU (hg g hg').1 (by rw[(hg g hg').2];omega)) h
 generalize hA:W.tup (ms.map W.str)=A at *
 generalize hN:W.tup (KI aP ns bs)=N at *
 generalize hB:W.tup (gs.map ay)=B at *
 clear hA hN hB mml zl hnl hml h64;nofun
 delta wS wE wA wV wG wP wN Kv;show ab (show mE (.tup [A,N,B]) gV (ba 2) S4=ba (.tup [A,N],S4)from rfl) ?_
 show ab (fe (xs:=[A,N]) (ys:=[.tup []]) (few (Nj rfl))) (hK _ _ ?_);clear hK K;change wZ _ _ _ [ba (.ref 0),ba (.ref r),ba (.tup [A,N,B]),ba (.ref q),ba (.int (k:Ks)),ba (.tup [A,N,.tup []]),gV,gV,gV,gV] S4 Q';nofun
 delta wS wE wA Kv;show lK (aL a ↥bs k) ay (AR U) (λw=>ay (aF bs w)) [ba (.ref q),ba (.tup [A,N,B])] rfl rfl rfl rfl (vlen k hk) ?_ (λw hw S' k'=>?_) λS5 k5=>?_
 ·delta wE wA wV wG;show wor hk
 ·obtain⟨g1,g2⟩:=(V k w).mp hw;delta gm wC wT wE wA wV wG;show HS (d:=d+6) L.lmay L.may g1 ∅ (k'.get _ _ e4) ?_
  show ab (show ga S' (.bl (AR U w))=ba (AR U w)from rfl) ?_
  show#[λz=>lst g1 ∅ λS2 k2=>#[z,rfl,k2],λz=>#[z,.refl]]
 have due:∀Lw,Lw∈((aL a ↥bs k).filter (AR U)).map (aF bs)↔Unl bs a (bZ bs gs) k Lw:=λLw=>by
  rw[Kn];constructor
  ·rintro⟨w,hw,rfl⟩;obtain⟨h1,h2⟩:=L7.mp hw;obtain⟨g1,g2⟩:=(V k w).mp h1;show#[w,g1,g2,(vp hH).mp h2,rfl]
  ·rintro⟨w,g1,g2,g3,rfl⟩;show#[w,L7.mpr #[(V k w).mpr #[g1,g2],(vp hH).mpr g3],rfl]
 show AH hs hT hk (l:=↥S5) (us:=((aL a ↥bs k).filter (AR U)).map (aF bs)) (by rw[L5];show af) due λF t S6 hF e6 hFg hF64 ht k6=>hK _ _ ?_
 clear hK K due;replace k6:Ka S4 S6:=k5.trans (Ka.push.trans k6);clear k5;nofun
 left;show unl hk λq7 F7 S7 hF7 _ e7 hq7 k7=>hK _ _ ?_
 clear hK K;obtain rfl:=hF F7 hF7;have ht6:=bH e6;nofun
 show AI (λQ h=>?_) λS8 k8=>hK _ _ ?_
 ·delta wT wE wA wV wG;show alk e7 (k7.get _ _ e6) hFg hk5 hF64 λS' k'=>ab (show ga S' (.bl true)=ba true from rfl) (h S' k')
 clear hK K;nofun
 left;show#[dc (k8.get _ _ e7),qI (k8.get _ _ e7) (by rw[J7];omega) (hK _ _ ?_)]
 clear hK K;have e9:(S8.set q7 (.lst (F7.map ay++[.non])))[t]?=ba (.lst (F7.map ay)):=by rw[a9 ∅];show k8.get _ _ (k7.get _ _ e6)
 generalize S8.set q7 (.lst (F7.map ay++[.non]))=S9 at e9;nofun
 left;show ab (a:=(.int ((min k 3:Kf):Ks),S9)) ?_ (hK _ _ ?_)
 ·change wx sr uA [.int (k:Ks),.int 3] S9=_;change ba (W.int (if (3:Ks)<k then 3 else k),S9)=_
  by_cases h:(3:Ks)<k
  ·rw[KF h,show min k 3=3 by omega];rfl
  ·rw[KM h,show min k 3=k by omega]
 clear hK K;nofun
 delta wS wE wA Kv;show lK (aL a ↥bs (min k 3)) ay (λ_=>true) (λw=>ay (aF bs w)) [ba (.tup [A,N,.tup []])] rfl rfl rfl rfl (vlen _ hk3) ?_ (λw hw S' k'=>?_) λS10 k10=>?_
 ·delta wE wA wV wG;show wor hk3
 ·obtain⟨g1,g2⟩:=(V _ w).mp hw;delta gm wC wE wA wV wG;show#[λ_=>lst g1 ∅ λS2 k2=>#[rfl,rfl,k2],λz=>by cases z]
 rw[gJ];have due0:∀Lw,Lw∈(aL a ↥bs (min k 3)).map (aF bs)↔Unl bs a (bZ bs []) (min k 3) Lw:=λLw=>by
  rw[Kn];constructor
  ·rintro⟨w,hw,rfl⟩;obtain⟨g1,g2⟩:=(V _ w).mp hw;show#[w,g1,g2,λi j k _ _ _ z=>(nomatch z),rfl]
  ·rintro⟨w,g1,g2,_,rfl⟩;show#[w,(V _ w).mpr #[g1,g2],rfl]
 show AH hs hT0 hk3 (l:=↥S10) (us:=(aL a ↥bs (min k 3)).map (aF bs)) (by rw[L5];show af) due0 λF0 t0 S11 hF0 e11 hFg0 hF064 _ k11=>hK _ _ ?_
 clear hK K due0;have e11':S11[t]?=ba (.lst (F7.map ay)):=k11.get _ _ (ak (k10.get _ _ e9));nofun
 show AI (λQ h=>?_) λS12 k12=>hK _ _ ?_
 ·delta wT wE wA wV wG;show unl0 hk3 λq8 F8 S8' hF8 _ e8 _ k8'=>?_
  obtain rfl:=hF0 F8 hF8;show alk e8 (k8'.get _ _ e11) hFg0 ∅ hF064 λS' k'=>ab (show ga S' (.bl true)=ba true from rfl) (h S' (k8'.trans k'))
 clear hK K;show st ?_;left;show unl hk λq9 F9 S13 hF9 _ e13 _ k13=>?_
 obtain rfl:=hF F9 hF9;show alk e13 (k13.get _ _ (k12.get _ _ e11')) hFg hk5 hF64 λS14 _=>?_
 show#[λ_=>?_,λz=>by cases z]
 show unl hk0 λq10 F10 S15 hF10 _ e15 _ _=>?_
 have h10:F10=[[]]:=by
  have hm:∀x,x∈F10↔x∈[([]:Wd)]:=λx=>by rw[hF10.mem,rG,Kt]
  have p:=(Of hF10.nd (by simp)).mpr hm
  show List.perm_singleton.mp p
 subst h10;show alk (k:=0) (F:=[[]]) (ak e15) af (λg hg=>by rw[Kt.mp hg];show#[.nil,rfl]) #v[] #v[] λS16 _=>hR _ _ rfl
end
abbrev DE:Df:=#[["_law_script"],["_law_script","_law_flow_here","_law_rule","_law_bad_here","_law_size_here","_law_twin","_law_due","_law_found","_law_less","_law_others"],kA]
noncomputable abbrev Tw:=KJ×Kf×Df×Kf
noncomputable abbrev tw (x:KJ)(i:Kf)(d:Df)(a:Kf):Tw:=(x,i,d,a)
abbrev TL:J5 Tw:=[tw "way" 1 #[["rule","world","i","j"],["rule","world","i","j"],vf] 21,tw "part" 3 #[["rule","world","points"],["rule","world","points"],jL] 26,tw "point_over" 4 #[["rule","world","ahead","point"],["rule","world","ahead","point"],dO] 31,tw "least_form" 5 #[["rule","world"],["rule","world","form","orders","longer","lasts","least"],cW] 36,tw "longer_orders" 6 #[["orders","size"],["orders","size","longer","order"],aU] 41,tw "barred_threes" 8 #[["rule"],["rule","orders","barred","figure","order"],bI] 48,tw "three_at" 9 #[["world","i","j","k"],["world","i","j","k","one","two"],cC] 55,tw "first_bar" 10 #[["barred","world"],["barred","world","last","point"],cH] 62,tw "wishes_over" 11 #[["rule","barred","world"],["rule","barred","world","found","mark","heads","size"],ce] 67,tw "longer_wishes" 12 #[["rule","heads"],["rule","heads","longer","mark","ways"],bo] 72,tw "unlike_worlds" 14 #[["rule","n"],["rule","n","barred","found","ahead","longer","world","wish"],cw] 79,tw "_law_flow" 16 #[["_law_script"],["_law_script"],eg] 86,tw "_law_pick" 17 #[["_law_flow_here","_law_many"],["_law_flow_here","_law_many","_law_cell","_law_digit"],cz] 93,tw "_law_letters" 18 #[["_law_flow_here","_law_many"],["_law_flow_here","_law_many"],di] 98,tw "_law_name" 19 #[["_law_flow_here","_law_stem"],["_law_flow_here","_law_stem","_law_near"],fP] 105,tw "_law_names" 20 #[["_law_flow_here","_law_many"],["_law_flow_here","_law_many","_law_stem","_law_names_here","_law_k","_law_name_here","_law_spare"],cG] 112,tw "_law_between" 21 #[["_law_rule","_law_world","_law_i","_law_j"],["_law_rule","_law_world","_law_i","_law_j"],dj] 119,tw "_law_part" 22 #[["_law_rule","_law_world","_law_points"],["_law_rule","_law_world","_law_points","_law_told","_law_k","_law_i"],fQ] 124,tw "_law_turns" 23 #[[],[],gE] 131,tw "_law_figure" 24 #[["_law_rule","_law_three"],["_law_rule","_law_three"],dL] 136,tw "_law_bad" 25 #[["_law_rule"],["_law_rule","_law_bad_here","_law_three","_law_points"],fF] 143,tw "_law_may" 26 #[["_law_rule","_law_bad_here","_law_world"],["_law_rule","_law_bad_here","_law_world","_law_k"],fK] 150,tw "_law_last_may" 27 #[["_law_rule","_law_bad_here","_law_world","_law_k"],["_law_rule","_law_bad_here","_law_world","_law_k","_law_mark","_law_to","_law_j","_law_i"],bA] 157,tw "_law_backs" 28 #[["_law_flow_here","_law_many"],["_law_flow_here","_law_many","_law_menu"],eN] 164,tw "_law_rule_of" 29 #[["_law_flow_here","_law_marks","_law_backs_here","_law_barred"],["_law_flow_here","_law_marks","_law_backs_here","_law_barred","_law_names_here","_law_ways"],dk] 169,tw "_law_free_three" 30 #[["_law_flow_here","_law_marks","_law_ways"],["_law_flow_here","_law_marks","_law_ways","_law_told","_law_k"],bU] 174,tw "_law_sizes" 31 #[["_law_flow_here"],["_law_flow_here","_law_menu"],eO] 181,tw "_law_any_rule" 32 #[["_law_flow_here"],["_law_flow_here","_law_marks","_law_ways","_law_rule","_law_barred","_law_k"],cO] 188,tw "_law_laying_kind" 33 #[["_law_flow_here"],["_law_flow_here","_law_menu"],bM] 195,tw "_law_breaks" 34 #[["_law_backs_here","_law_must","_law_to_one","_law_to_two","_law_between_here"],["_law_backs_here","_law_must","_law_to_one","_law_to_two","_law_between_here","_law_to","_law_pair","_law_x","_law_y","_law_z"],dM] 202,tw "_law_numbered" 35 #[["_law_flow_here","_law_backs_here","_law_must"],["_law_flow_here","_law_backs_here","_law_must","_law_many","_law_menu","_law_some","_law_numbers","_law_told","_law_k","_law_other","_law_u","_law_v"],bc] 207,tw "_law_laying_rule" 36 #[["_law_flow_here"],["_law_flow_here","_law_form","_law_backs_here","_law_must","_law_most","_law_marks","_law_rule","_law_barred","_law_many","_law_at","_law_one","_law_two","_law_between_here","_law_some","_law_first"],bN] 214,tw "_law_rising" 37 #[["_law_marks"],["_law_marks","_law_told","_law_i","_law_j"],dN] 219,tw "_law_free_rule" 38 #[["_law_flow_here"],["_law_flow_here","_law_marks","_law_ways","_law_rule","_law_k","_law_own","_law_free","_law_barred","_law_three"],cr] 224,tw "_law_one_way_rule" 39 #[["_law_flow_here"],["_law_flow_here","_law_marks","_law_barred"],bE] 229,tw "_law_alike" 40 #[["_law_found","_law_due"],["_law_found","_law_due"],aZ] 234,tw "_law_orders" 41 #[["_law_many"],["_law_many","_law_told","_law_k","_law_longer","_law_order"],bX] 239,tw "_law_least" 42 #[["_law_rule","_law_world"],["_law_rule","_law_world"],dy] 244,tw "_law_digits" 43 #[["_law_many","_law_size_here"],["_law_many","_law_size_here","_law_told","_law_k"],bF] 249,tw "_law_worlds" 44 #[["_law_rule","_law_size_here"],["_law_rule","_law_size_here","_law_told","_law_k","_law_points","_law_mark"],bW] 254,tw "_law_figures" 45 #[["_law_rule"],["_law_rule"],dq] 259,tw "_law_full_rule" 46 #[["_law_flow_here"],["_law_flow_here","_law_form","_law_marks","_law_many","_law_rule"],cv] 264,tw "_law_size" 47 #[["_law_flow_here","_law_rule"],["_law_flow_here","_law_rule"],eE] 271,tw "law" 48 DE 276]
abbrev j5:J5 (KJ×Df):=TL.map λp=>(p.1,p.2.2.1)
abbrev JF:J5 (KJ×Kf):=TL.map λp=>(p.1,↥p.2.2.1.ps)
abbrev Da:J5 KJ:=["range","len","list","tuple","int","set","sorted","isinstance","bool","str","all","min","zip","enumerate"]
abbrev FV:Md:=#[JF,Da]
abbrev BD (x:KJ)(st:NB)(df:Df):Prop:=∀(kV doc pm:J9) (an:Ke Kj) (cdv ct:J9) (us:J5 J9),↥us=↥df.ps->bindArgs (MV x x (dH st) (cg st) (aR st) .none kV doc pm an cdv ct) #[us,[]]=pure (df.ps.zip us)
def JP {us:J5 J9}(h:↥us=0):us=[]:=LI.mp h
def uc {us:J5 J9}{n:Kf}(h:↥us=n+1):∃a t,us=a::t/\↥t=n:=by
 cases us with
 |nil=>cases h
 |cons a t=>show#[a,t,rfl,Vo h]
def JQ {us:J5 J9}(h:↥us=1):∃a,us=[a]:=by obtain⟨a,t,rfl,g⟩:=uc h;cases JP g;show#[a,rfl]
def JR {us:J5 J9}(h:↥us=2):∃a b,us=[a,b]:=by obtain⟨a,t,rfl,g⟩:=uc h;obtain⟨b,rfl⟩:=JQ g;show#[a,b,rfl]
def JS {us:J5 J9}(h:↥us=3):∃a b c,us=[a,b,c]:=by obtain⟨a,t,rfl,g⟩:=uc h;obtain⟨b,c,rfl⟩:=JR g;show#[a,b,c,rfl]
def JT {us:J5 J9}(h:↥us=4):∃a b c d,us=[a,b,c,d]:=by obtain⟨a,t,rfl,g⟩:=uc h;obtain⟨b,c,d,rfl⟩:=JS g;show#[a,b,c,d,rfl]
def FW {us:J5 J9}(h:↥us=5):∃a b c d e,us=[a,b,c,d,e]:=by obtain⟨a,t,rfl,g⟩:=uc h;obtain⟨b,c,d,e,rfl⟩:=JT g;show#[a,b,c,d,e,rfl]
def J2 {us:J5 J9}(h:↥us=6):∃a b c d e f,us=[a,b,c,d,e,f]:=by obtain⟨a,t,rfl,g⟩:=uc h;obtain⟨b,c,d,e,f,rfl⟩:=FW g;show#[a,b,c,d,e,f,rfl]
abbrev DG (p:Tw):Prop:=G9 FV (mC p.2.1) p.2.2.1/\FnScope p.2.2.1.N p.2.2.1.ps (aR (mC p.2.1))/\BD p.1 (mC p.2.1) p.2.2.1
def gc {α:Type}{F:α->Prop}{p:α}{L:J5 α}(a:F p)(b:∀q∈L,F q):∀q∈p::L,F q:=List.forall_mem_cons.mpr #[a,b]
def gn {α:Type}{F:α->Prop}:∀q∈([]:J5 α),F q:=λ_ h=>nomatch h
def J3 {p:Tw}(a:uR (cS 20 (zB FV (mC p.2.1) p.2.2.1.N)) (cg (mC p.2.1))=ba p.2.2.1.body)(b:FnScope p.2.2.1.N p.2.2.1.ps (aR (mC p.2.1)))(c:BD p.1 (mC p.2.1) p.2.2.1):DG p:=#[a,b,c]
set_option maxHeartbeats 0 in
def DF:∀p∈TL,DG p:=by
 unfold TL
 repeat show gc (J3 (by kernel_rfl) #[rfl,rfl,rfl,by decide +kernel,rfl,by decide +kernel,by decide +kernel] λ_ _ _ _ _ _ us h=>by
  first
   |(obtain⟨a,rfl⟩:=JQ h;rfl)
   |(obtain⟨a,b,rfl⟩:=JR h;rfl)
   |(obtain⟨a,b,c,rfl⟩:=JS h;rfl)
   |(obtain⟨a,b,c,d,rfl⟩:=JT h;rfl)
   |(obtain⟨a,b,c,d,e,rfl⟩:=FW h;rfl)
   |(obtain⟨a,b,c,d,e,f,rfl⟩:=J2 h;rfl)
   |(obtain rfl:=JP h;rfl)) ?_
 show gn
def HV {f:KJ}{m n:Kf}{b:Ss}(h:((j5.lookup f).map λd=>(↥d.ps,↥d.N,d.body))=ba (m,n,b)):Is j5 f m n b:=by
 rw[Kb]at h;obtain⟨d,h1,h2⟩:=h;rw[T8,T8]at h2;show#[d,h1,h2.1,h2.2.1,h2.2.2]
set_option maxHeartbeats 0 in
def HW:Lw66 j5:=by
 repeat' first
  |show HV (by kernel_rfl)
  |constructor
def lV:∀(L:J5 Tw) (x:KJ) (n:Kf),(L.map λp=>(p.1,↥p.2.2.1.ps)).lookup x=ba n->∃p∈L,p.1=x/\↥p.2.2.1.ps=n/\(L.map λp=>(p.1,p.2.2.1)).lookup x=ba p.2.2.1
 |[],x,n,h=>by cases h
 |p::L,x,n,h=>by
  rw[LF,Mn]at h;rw[LF,Mn];cases e:x==p.1 with
  |true=>
   rw[e]at h;cases h;show#[p,LX ..,(eq_of_beq e).symm,rfl,rfl]
  |false=>
   rw[e]at h;obtain⟨q,h1,h2,h3,h4⟩:=lV L x n h;show#[q,LL _ h1,h2,h3,h4]
section
variable{P:K9}{w:Ll}{K:Kr}{mg:KJ->Ke J9}{base:Lq}
abbrev AK (K:Kr)(mg:KJ->Ke J9)(x:KJ)(st:NB)(df:Df):Prop:=∃(f:Kj) (fd:Nf),Fun K x x st f fd/\mg x=ba (.ref f)/\L8 K (.ref f)=true/\Binds K fd df.ps []
def FD {h:Lq}{x:KJ}{st:NB}{df:Df}{f:Kj}{oc:J9}{od an:Ke Kj}{osl:KL (Ke J9)}{kV doc pm cdv ct:J9}(X:K.In h)(G:h.Ns mainGlobals mg)
  (b:BD x st df)
  (a:Oo K mainGlobals x=ba (ba (.ref f))) (l:K.lookup f=ba #[oc,od,.func (MV x x (dH st) (cg st) (aR st) .none kV doc pm an cdv ct),osl]) (c:NG K cdv x=true) (k:L8 K (.ref f)=true):AK K mg x st df:=
 have F:=xR (st:=st) l c k
 #[f,_,F,T9 X G a,k,F.binds b]
def AL {fuel:Kf}(hb:MdOk w K mg FV)(D:∀p∈TL,AK K mg p.1 (mC p.2.1) p.2.2.1):∀d,Dp P w K mg base FV j5 fuel d
 |0=>λf n h=>by
  obtain⟨p,h1,rfl,h2,h3⟩:=lV TL f n h;obtain⟨fa,fd,F,m,kp,b⟩:=D p h1;show#[fa,fd,p.2.2.1.ps,#[λvs H Q E z=>?_,λA outer s H args us vs Q E hr he hbd hv z=>?_],m,kp,b]
  all_goals
   obtain⟨_,_,_,_,_,_,_,_,z,_⟩:=z;cases z
 |d+1=>λf n h=>by
  obtain⟨p,h1,rfl,h2,h3⟩:=lV TL f n h;obtain⟨g1,g2,_⟩:=DF p h1;obtain⟨fa,fd,F,m,kp,b⟩:=D p h1;show#[fa,fd,p.2.2.1.ps,?_,m,kp,b];rw[<- h2];show Dq F g2 h3 g1 hb (AL hb D d)
def HX {h:Lq}(X:K.In h)(G:h.Ns mainGlobals mg)(z:∀y∈Da,Oo K mainGlobals y=ba gV):MdOk w K mg FV:=#[λy hy=>PySem.W.mg_none_of X G (z y hy)]
end
def FH {l:Qx}{w:Ll}{K:Kr}{h:Lq}{mg:KJ->Ke J9}{fa f:Kj}(X:K.In h)(G:h.Ns mainGlobals mg)(hfa:mg "law" = ba (.ref fa))(hb:MdOk w K mg FV)(D:∀p∈TL,AK K mg p.1 (mC p.2.1) p.2.2.1)
  {oc:J9}{od an:Ke Kj}{osl:KL (Ke J9)}{kV doc pm cdv ct:J9} (a:Oo K mainGlobals "law" = ba (ba (.ref f))) (l':K.lookup f=ba #[oc,od,.func (MV "law" "law" (dH (mC 48)) (cg (mC 48)) (aR (mC 48)) .none kV doc pm an cdv ct),osl]) (c:NG K cdv "law" = true) (k:L8 K (.ref f)=true) :
  ∃fd:Nf,(∀(s:Kc) (v:J9),RO s fd #[[v],[]] [("_law_script",v)])/\∀base:Lq,K.In base->base.Ns mainGlobals mg->FnOk l.prog w K mg base xo 9 fa fd ["_law_script"] (spF w K 1 (al j5 100 9 "law")):=by
 have e:=hfa.symm.trans (T9 X G a);cases e;have F:=xR (st:=mC 48) l' c k;show#[MV "law" "law" (dH (mC 48)) (cg (mC 48)) (aR (mC 48)) .none kV doc pm an cdv ct,λs v=>.of_eq rfl,λbase _ _=>Dq (df:=DE) F #[rfl,rfl,rfl,by decide +kernel,rfl,by decide +kernel,by decide +kernel] (by rfl) (by rfl) hb (AL hb D 8)]
def JG {l:Qx}{q:K9}{loose:J5 KJ}{XP:(KJ->Ke J9)->Lq->Prop}{YP:Ll->Lq->Prop}{d:DefRec}{K:Rz->Kr}(hn:l.most=ba 63)(hdf:d.params.defaults=[])
  (hY:∀(w:Ll) (h:Lq),YP w h->(K w.params).In h)
  (F:∀(w:Ll) (mg:KJ->Ke J9) (fa:Kj) (h:Lq),(K w.params).In h->h.Ns mainGlobals mg->mg d.name=ba (.ref fa)->
   ∃fd:Nf,(∀(s:Kc) (u:J9),RO s fd #[[u],[]] [("_law_script",u)])/\∀base:Lq,(K w.params).In base->base.Ns mainGlobals mg->FnOk l.prog w (K w.params) mg base xo 9 fa fd ["_law_script"] (spF w (K w.params) 1 (al j5 100 9 "law"))) :
  TN q loose XP YP l.row.toRowW d [] (λf vs=>Tk f vs):=
 L2.Bq (n:=63) (k:=9) (x:="_law_script") (CX:=λ_=>xo) (sp:=λw=>spF w (K w.params) 1 (al j5 100 9 "law")) hn #v[] hdf #[rfl,#v[],#v[]] hY F
  (λw H a ns hl hO hS=>E1 (AJ (defs:=j5) (fuel:=100) (d:=0) #v[] HW) hO hS) λ_ _ _ _ _ z=>z
end Mi
open PySem PySem.W PyProof.Rows L2
namespace Mi
section
abbrev EL (K:Kr)(p:Tw):Prop:=Oo K mainGlobals p.1=ba (ba (.ref p.2.2.2))/\K.lookup p.2.2.2=ba (kf p.2.2.2 (mC p.2.1) p.1 (Jb p.2.1) (.ref (p.2.2.2-1))).2/\NG K (.ref (p.2.2.2-1)) p.1=true/\L8 K (.ref p.2.2.2)=true
def J4 {K:Kr}{p:Tw}(e:Oo K mainGlobals p.1=ba (ba (.ref p.2.2.2)))(l:K.lookup p.2.2.2=ba (kf p.2.2.2 (mC p.2.1) p.1 (Jb p.2.1) (.ref (p.2.2.2-1))).2)(c:NG K (.ref (p.2.2.2-1)) p.1=true)(k:L8 K (.ref p.2.2.2)=true):EL K p:=#[e,l,c,k]
def HY (P:Rz):∀p∈TL,EL (K0 P) p:=by
 unfold TL
 repeat show gc (J4 (by kernel_rfl) (by kernel_rfl) (by kernel_rfl) (by kernel_rfl)) ?_
 show gn
def HZ (P:Rz):∀y∈Da,Oo (K0 P) mainGlobals y=ba gV:=by
 unfold Da
 repeat show gc (F:=λy=>Oo (K0 P) mainGlobals y=ba gV) (by kernel_rfl) ?_
 show gn
end
end Mi
end
end ZZ.Lean
open ZZ.Lean
theorem PySem.Challenge.cw_layworld_k66_unlike_worlds_told_holds : PySem.Challenge.rw_layworld_k66_unlike_worlds_told.Holds := by
 w_on
 show PySem.W.holds_law (Lu (Lu (Lu (Lu (Lu (Lu (Lu (Lu (Lu (Lu (Lu (Lu (Lu (Lu (Lu (Lu (Lu (Lu (Mi.s0) (by kernel_rfl)) (by kernel_rfl)) (by kernel_rfl)) (by kernel_rfl)) (by kernel_rfl)) (by kernel_rfl)) (by kernel_rfl)) (by kernel_rfl)) (by kernel_rfl)) (by kernel_rfl)) (by kernel_rfl)) (by kernel_rfl)) (by kernel_rfl)) (by kernel_rfl)) (by kernel_rfl)) (by kernel_rfl)) (by kernel_rfl)) (by kernel_rfl)) (λsaid=>?_)
 show PySem.W.holds_open (q:=Mi.vq) (loose:=Mi.lo) (Xt:=λs=>Ug Mi.vq [] s&&TQ [] s) (XP:=PySem.W.XL Mi.vq []) (Yf:=Mi.hk.obs) (Ya:=Mi.hk.val) (YP:=Mi.hk.says) (N:=2792) Mi.hl Mi.hk.of Mi.hk.keeps (λs e=>PySem.W.xl_of s (Q9.mp e).1) U6 (by rfl) (by rfl) (by rfl) (λs e=>PySem.W.recFacts_of (Q9.mp e).2) (by rfl) said (by decide +kernel) #[rfl,rfl,rfl,rfl,rfl,by decide +kernel] ?hw ?hc
 case hw=>w_witness2
 case hc=>
 show Mi.JG (l:=PR) (K:=Mi.K0) rfl rfl (λw h Yx=>PySem.W.kIn_of Yx) ?F
 case F=>
  intro w mg fa h KX G hmg;show Mi.FH KX G hmg (Mi.HX KX G (Mi.HZ w.params)) (λp hp=>let ⟨e,l,c,k⟩:=Mi.HY w.params p hp;Mi.FD KX G (Mi.DF p hp).2.2 e l c k)
   (f:=276) (oc:=.type "function") (od:=gV) (an:=gV) (osl:=#[]) (kV:=.none) (doc:=.none) (pm:=(.str "law_layworld_k66_unlike_worlds_told" 288)) (cdv:=.ref 275) (ct:=.none) (by kernel_rfl) (by kernel_rfl) (by kernel_rfl) (by kernel_rfl)
