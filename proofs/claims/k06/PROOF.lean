import PyProof.Rows.All
import Wide.All
import OpenK.AllK
import Wide.FinOn
import Lean
import PyProof.EqAt
import PyProof.EqKinds
import PyProof.TupleCall
import PySem.Challenge.RW_layworld_k06_rules_written_and_read
import KE.KDictList
import PyProof.SetKind
import PyProof.IsRules
import KE.KSortTup
import PyProof.MeetsStr4
import PyProof.StrLawsJoin
import PyProof.ZipIter
import PyProof.Draws
import PyProof.EnumMake
import PyProof.WalksEnum
import PyProof.StrLawsTight
import PyProof.StrLawsChain
noncomputable section
open Option renaming some->ba,none->gV
set_option hygiene false
local macro_rules|`(abbrev $i:declId $s:optDeclSig $v:declVal)=>`(noncomputable def $i:declId $s:optDeclSig $v:declVal)|`(def $i:declId $b* :$t $v:declVal)=>`(theorem $i:declId $b* :$t $v:declVal)|`(tactic|omega)=>`(tactic|first|lia|omega (config:={}))|`(tactic|show $e:term)=>`(tactic|refine $e:term)|`(tactic|left)=>`(tactic|dsimp only[wS,wE,wA,wV,wG,List.set])|`(tactic|nofun)=>`(tactic|refine aA λK hK=>?_)
local macro_rules|`(#v[])=>`((by decide))|`(#v[$x:term])=>`(.cons $x .nil)|`(#v[$x:term,$y:term,*])=>`(.cons $x #v[$y,*])
local macro_rules|`(#[$x:term])=>`(⟨$x⟩)|`(#[$x:term,$y:term,*])=>`(⟨$x,$y,*⟩)
local macro_rules|`(∅)=>`((by omega))
open _root_ renaming List->Jj,Option->Jq,Nat->Jr,Int->JG,if_pos->JO,decide_eq_true_eq->JW,if_neg->JZ,Bool->J1,decide_eq_false->J4,beq_self_eq_true->J5,decide_eq_true->J6,of_decide_eq_true->J9,Array->Ki,of_decide_eq_false->Kv,False->KP,String->KY,or_false->Ld,beq_eq_false_iff_ne->LO,if_false->L6,if_true->Mf,DecidableEq->MB,decide_eq_false_iff_not->Oq,True->Pp,bne_self_eq_false->Qr,not_or->QG,beq_iff_eq->Rn,Unit->Sr,dif_pos->SH
open PySem renaming wpAny_bind->Jk,Value->Jm,Shared->Jp,wpAny_pure->Jt,Addr->Ju,Str->JA,Expr->JR,Program->J2,Around->Ke,World->Kf,Heap->Kn,sizeLine_eq->Kq,wpAny_callSpecial?_slot->Kt,wpAny_newObj_type->Ku,wpAny_call_entry->KN,codeAny_builtin->KO,wpAny_holding->KQ,wpAny_truthy_bool->K8,Obj->La,wpAny_field->Lb,wpAny_mono->Ll,NameKind->Ln,wpAny_seqItems->Lu,wpAny_typeNameOfWhole_keyiter->LG,DictEntry->LJ,Spec->LL,Pos->LN,plainId_quiet->LW,FuncData->LX,wpAny_passesOwn->L4,wpAny_typeNameOf_keyiter->Ma,Stmt->Mb,mem_of_lookup->Mc,wpAny_setField_rec->Mr,strKind->Mv,Scope->My,wpAny_pyIter_list->Mz,call_meets->MD,wpAny_letGo->ME,wpAny_attempt->MU,wpAny_loadPart'->MW,Builtin->MX,wpAny_Call_Name_kw->MZ,codeAny_mono->M5,SetTable->M8,wpAny_dictEntries->Na,wpAny_rule->Nh,wpAny_isInstance->Nl,IsPair->Nn,wpAny_standAt->Nr,IsPart->Nw,wpAny_typeOf->NH,wpAny_runValue->NM,wpAny_setField->NN,wpAny_tryCatch->NO,wpAny_of_eq->N8,wpAny_comprehension_free->Og,wpAny_pyHash_str->Oj,noFill_tuple_add->Ol,wpAny_forIn_list->On,Paired->Ou,ItemsOf->OB,wpAny_execs_nil->OI,codeAny_of_tree->ON,wpAny_dictEpoch->OO,wpAny_updateSeq->OP,wpAny_isOneOf_keyiter->OX,GenState->O1,Params->O4,isSubtype_stop->O6,wpAny_pyIter_keyiter->O7,wpAny_newTuple->O9,wpAny_updateSeq_pair->Pd,PassesOwn->Pl,Keyword->Pn,rangeSize_one->Py,seq_tuple_add->Pz,wpAny_newList->PF,IsZip->PH,wpAny_load->PR,typeIs_str->PX,wpAny_pyIter_tuple->P3,wpAny_pyIter_ascii->P4,Env->P9,wpAny_assign_Name->Qa,Operator->Qc,BindsTo->Qd,concat_meets->Qf,wpAny_sequenceKey->Qg,seqIndex_neg->Qh,list_append->Qi,wpAny_pyIter_enum->Qv,wpAny_pyHash_int->Qz,Result->QC,wpAny_pyIter_zip->QL,CmpOp->QU,seqIndex_of->QV,wpAny_mkInt->QX,wpAny_Name->Rf,wpAny_bindName->Rg,typeIs_int->Ri,fitsIndex_both->Rk,call->Rm,wpAny_fieldsOf->Rr,callType_newIn->Rt,intBits_le_64->RA,evalPart_none->RC,call_list_seq->RE,wpAny_handled->RJ,wpAny_onRaise->RN,small_one->RS,call_range_1->RY,Sem->R3,IsRangeIter->R6,wpAny_alloc->Sd,wpAny_throw->Se,BoolOp->Sy,IsEnum->Sz,Model->SD,IsRange->SI,Tok->SL,Drawn->SV,Walks->SY
open List renaming length_map->Jl,getElem?_map->Jv,length_append->Jw,zipWith->Jx,getElem?_eq_getElem->JB,mem_cons->JC,mem_of_getElem?->JD,set->JE,mem_singleton->JH,mem_map->JI,size_toArray->JJ,getElem?_eq_some_iff->JK,length_cons->JL,map_cons->JS,all_eq_true->JV,mem_append_right->JY,map_append->J0,not_mem_nil->J7,range->Kb,mem_cons_of_mem->Kd,replicate->Kg,getElem?_append_left->Kh,mem_append->Kj,all_cons->Kl,getElem_mem->Ko,mem_cons_self->Kr,length_take->Ks,append_nil->Kx,mem_append_left->Ky,mem_range->Kz,length_zipWith->KA,take_add_one->KH,getD_eq_getElem?_getD->KI,map_map->KL,getElem?_eq_none_iff->KM,take_length->KR,append_assoc->KS,nodup_append->KT,length_range->KU,lookup_cons->K6,map_congr_left->K7,replicate_succ->Lf,length_nil->Lj,findIdx?_eq_some_iff_getElem->Lo,getElem?_append_right->Lp,getElem?_set->Lr,take_of_length_le->Ls,getElem?_zipWith->Lz,length_drop->LB,mem_iff_getElem->LH,pairwise_map->LK,nodup_cons->LM,idxOf_lt_length_of_mem->LS,any_cons->LU,mem_filter->L3,flatten_cons->L7,getElem_inj->Mh,length_eq_zero_iff->Mm,eq_nil_of_length_eq_zero->Mo,zip_cons_cons->Mq,find?_cons->Ms,range_succ->Mu,take_append_drop->Mw,length_filter_le->Mx,getElem?_zipIdx->MF,nodup_iff_pairwise_ne->MG,map_zipWith->MK,pairwise_iff_getElem->MM,exists_mem_of_ne_nil->MN,filterMap_cons->MO,getElem?_range->MR,getElem?_take_of_lt->MS,drop_left'->MY,length_zipIdx->M1,flatMap_cons->Nc,length_singleton->Nf,ext_getElem->Nk,isEmpty_iff->No,mem_flatMap->Np,cons_append->Nq,mem_of_mem_take->Nu,forIn_cons->Ny,take_left'->NA,mem_zipIdx_iff_getElem?->NB,length_zip->NC,flatMap_append->NG,pairwise_cons->NQ,findIdx?_cons->NS,drop_zero->NT,mem_eraseDups->NU,filter_append->NV,ne_nil_of_mem->NW,getElem_idxOf->NX,drop_drop->NZ,rel_of_pairwise_cons->N4,ext_getElem?->Oa,getElem_take->Ob,map_take->Oh,nodup_range->Op,flatMap_nil->Ot,getElem?_set_self->Ov,map_nil->Ox,range_succ_eq_map->Oy,drop_of_length_le->OH,of_mem_zip->OJ,foldl_cons->OL,find?_some->OS,length_replicate->OT,getElem?_eq_none->OZ,getElem?_set_ne->O2,length->O3,forIn_nil->Pa,nodup_nil->Pb,dropLast_concat->Pe,getLastD_concat->Pf,mem_of_mem_drop->Pg,tail_cons->Ph,eraseDups_cons->Ps,length_pos_iff->Pu,mem_map_of_mem->Px,drop_one->PK,mem_filterMap->PU,getElem?_drop->P6,take_sublist->Qe,all_map->Qm,zip_nil_left->Qn,zip->Qx,any_toArray->QH,getElem_map->QJ,range'_succ->QK,cons_ne_nil->QP,perm_middle->QQ,zipWith_map->QR,map_fst_zip->QT,nil_append->Q6,foldr_cons->Ra,foldl->Rj,Nodup->Rv,sum_cons->RO,range'->Sf,map_id->Sg,map->Ta
open PySem.Heap renaming get?_push_of_some->Jn,get?_push_size->JF,lt_size->JM,get?_update_other->KD,get?_update_self->Ly,SameBut->LC,size_push->LY,get?_update_ne->MQ,ExtBut->O5,size_update->QI
open Option renaming map_eq_some_iff->Jo,map_some->Kc,isSome_iff_exists->KF,getD_none->Om,map_eq_none_iff->OD,getD_some->QM,map_none->Q7,map_map->Ru,toList->RP
open Bool renaming and_eq_true->Js,false_ne_true->JP,false_eq_true->KZ,or_eq_true->Lw,true_and->Nt,false_or->Od,and_eq_false_iff->OU,and_eq_true_iff->Pi,and_true->PC,not_true->PD,not_eq_true'->Qw,or_false->RD
open Nat renaming le_refl->Jy,ne_of_lt->JX,lt_of_lt_of_le->J3,le_trans->J8,zero_le->KW,lt_irrefl->K4,ne_of_gt->Li,le_of_ble_eq_true->LA,le_succ->LV,lt_succ_self->MH,le_add_right->MJ,le_of_lt->M4,succ_le_succ->Nj,mul_le_mul_right->Nv,lt_succ_of_lt->N9,min_self->Oz,lt_of_succ_lt_succ->OE,mul_le_mul_left->Pw,add_assoc->PB,lt_or_gt_of_ne->P2,succ_mul->Qk,sub_zero->Qt,lt_or_ge->Qu,min_eq_right->QN,mul_add->QZ,le_add_left->Q9,min_eq_left->Rc,not_lt->Rs,zero_add->R0,succ_pos->R1,ble->Ti
open PySem.W renaming Frag->Jz,look_both->Kk,keepIn->K1,fnOf->LD,nsIn->LF,kia_one->L5,codeIn->Mj,kas_sort->Ml,methodObj->N6,cellsFrom_some->Ow,OpenLaw->OM,kat_nil->OR,KdlSrc->O8,mg_of->PL,WalkO->RF,recOk->RG,Looks->RL,xlAt->RZ
open Int renaming toNat_natCast->JN,natCast_nonneg->JU,emod_lt_of_pos->LZ,emod_nonneg->Mt,toNat_of_nonneg->MP,zero_add->OG,ediv_nonneg->Rb
open Array renaming length_toList->JQ,getElem?_toList->KJ,getElem?_eq_some_iff->Lv,getElem?_eq_getElem->L1,size_append->MA,toList_append->NF,perm_iff_toList_perm->NP,getElem?_eq_none->OA,getD->OC,append_assoc->PP,forIn_toList->P0,toList->RX
open Option.some renaming injEq->JT,inj->Kw
open PySem.Value renaming ref->Km,none->KC,bool->Le,type->L8,str->M2,int->Oi
open PySem.Around renaming under_plainId->KG
open PySem.Txt renaming split->K5,startswith->NR,join->Qo,mul->Th
open PyProof.Rows renaming callWith_type1->K9,slot_tuple_getitem->Lx,subscriptTail_builtinR->M7,assignInOrder_cons->NK,AllBare->N7,listUpdate_at->Oe,SortKind->Oo,get?_update_seq->OQ,entry_tuple_getitem->Pq,lt_int->Pr,args_tuple_getitem->PV,IsTup->P8,assignInOrder_nil->Qb,listItems_at->Qq,callWith_builtin1->QD,seqEpoch_at->QY,IntsAre->Re,slicePart_none->Rh,tupleItemsOf_->RB,Call_->SE,StrsAre->SG
open PySem.Obj renaming mapSeq->Lc,data_mapFields->M0,isFreed_of_fields->OY,cls_mapFields->Qp,mapFields->RI
open PySem.Builtin.Tuple renaming tupleExact->Lg,tupleItemsOf->MC,tupleHashOf->N1,tupleCompareSizes->Qy,tupleIsExact->Ro
open PySem.Builtin.SmallTypes renaming ownedTupleIsFree->Lh,ownedTupleHandOut->LQ,nextOf->N5
open ForInStep renaming yield->Lk
open PySem.Builtin.Range renaming rangeSize->Lm,small->NE
open PySem.Str renaming ofString->Lq,length->Mp,join->SZ
open PySem.Builtin.Str renaming occurrences->LI,strKind->LP,tooLong->Rx,partsBetween->RM,glued->SJ
open PySem.Builtin.List renaming listExtendWith->LR,listTooLong->L9,listFitsIndex->Rl
open PySem.Builtin.Slice renaming slicePlaces->L0,sliceAdjust->ML,sliceApplied->NL,slicePartIndex->Q1,sliceFields->Rw
open PySem.Heap.SameBut renaming update->Mg,refl->Ql
open PySem.SetTable renaming grown->Mk,fits_plain_off->RT,orStandIn->Sx,relaid->SR,laid->Td
open PySem.F renaming plainAttrs_list->Mn,args_tuple_add_2->MT,entry_tuple_add->M3,slot_tuple_add->M6,plainAttrs_str->Nb,slot_tuple_index->Of,slot_list_index->Os,slot_dict_get->OV
open PySem.NameKind renaming free->MV,cell->Tf
open PySem.StrLaws renaming sliceText->M9,join_length_le->Nd,glued_eq_join->Ng,At->NY,strSub_toList->O0,subAt_eq->QS
open PySem.SeqAt renaming EqAt->Ni,notIn_listAt->PY,in_tupleAt->QE,in_listAt->Q5
open True renaming intro->Nm
open PySem.Challenge renaming pw_layworld_k06_rules_written_and_read->Nx,rw_layworld_k06_rules_written_and_read->ND
open PySem.Builtin.Dict_items renaming ownsTuple->Nz
open PySem.Builtin.Builtins renaming bindParams->NI
open PySem.Calls renaming Name_function_global->NJ,call_function_entry->N3,Constant_str->PQ
open Classical renaming byContradiction->N2,propDecidable->RV
open PySem.Paired renaming length->Oc
open PySem.Env renaming kindOf->OF
open PySem.Builtin.Dict renaming showsAll->OW,dictSlotNone->Ry,pendingCount->Rz
open Std.Legacy.Range renaming forIn_eq_forIn_range'->Pc,size->R4
open Sum renaming inl->Pj,inr->Pk
open PySem.Expr renaming Name->Po
open PySem.Str.join renaming eq_3->PJ
open PySem.SeqAt.EqAt renaming int_str->PM,str_int->PN,none_bool->R7,bool_none->R8,bool_bool->R9,none_int->Sh,none_str->Si,bool_int->Sj,bool_str->Sk,int_none->Sl,int_bool->Sn,str_none->So,str_bool->Sq,int_int->Sv,str_str->Sw,same->SQ
open PySem.Code renaming quiet_builtin->PZ
open PUnit renaming unit->P1
open PySem.ScopeKind renaming function->P5
open PySem.AutoListH renaming list___mul___list_int_3->P7
open PySem.AutoSeq1 renaming list_extend_list_list_0->Qj,sub_tuple_tuple->RH
open Function renaming comp_def->Qs
open PyProof.Rows.IsTup renaming new->QA
open PySem.IsL renaming update->QF
open PySem.Builtin.Frozenset renaming updateFrom->Q8,newClass->Rp
open PySem.Walks renaming list->Rq
open Prod.mk renaming injEq->RQ
open List.Perm renaming append_left->R5,nil_eq->SN,cons->Tc,map->Te
open PySem.MeetsSeq renaming list_pop_at->Sc
open PySem.Heap.IsSliceOf renaming new->Su
open List.Nodup renaming sublist->SA
open List.Pairwise renaming nil->SF
open PySem.Flow renaming next->SK
open PySem.W.Looks renaming ld->SM
open PySem.W.XL renaming keeps->SO
open PySem.PassesOwn renaming never->SS
open List.cons renaming injEq->SU
open Prod renaming ext->SW,fst->Tb
open Or renaming inr->SX
open Nat.succ renaming inj->Tj
set_option genSizeOf false
namespace ZZ.Lean
noncomputable section
set_option Elab.async false
set_option linter.all false
set_option maxRecDepth 100000
namespace L2
open PySem PySem.Spec PyProof.Rows
noncomputable abbrev mM:=Sum JG JA
abbrev BX:mM->Jm->J1
 | .inl k,v=>Value.isInt k v
 | .inr x,v=>Value.isStrOf x v
abbrev Hl (w:Kf):mM->JG
 | .inl k=>hashInt k
 | .inr x=>hashStr w x
def be:∀ {k:mM} {v:Jm},BX k v=true->(∃i t,k=Pj i/\v=Oi i t)\/(∃x t,k=Pk x/\v=M2 x t)
 | .inl i,v,h=>by
  obtain⟨t,e⟩:=Value.isInt_shape (k:=i) (v:=v) h;exact .inl #[i,t,rfl,e]
 | .inr x,v,h=>by
  obtain⟨t,e⟩:=Value.isStrOf_shape (x:=x) (v:=v) h;exact .inr #[x,t,rfl,e]
def CB (a b:JG):decide ((Pj a:mM)=Pj b)=(a==b):=by
 by_cases e:a=b
 ·subst e; simp
 ·have h:¬ (Pj a:mM)=Pj b:=λq=>e (Sum.inl.inj q)
  rw[J4 h];exact(LO.mpr e).symm
def CC (a b:JA):decide ((Pk a:mM)=Pk b)=decide (a=b):=by
 by_cases e:a=b
 ·subst e; simp
 ·have h:¬ (Pk a:mM)=Pk b:=λq=>e (Sum.inr.inj q)
  rw[J4 h,J4 e]
def CD (a:JG)(b:JA):decide ((Pj a:mM)=Pk b)=false:=J4 (λq=>nomatch q)
def CF (a:JA)(b:JG):decide ((Pk a:mM)=Pj b)=false:=J4 (λq=>nomatch q)
abbrev mN (prog:J2)(w:Kf):PySem.KeyKind prog w mM where
 is:=BX
 hash:=Hl w
 inj:=λv a b ha hb=>by
  rcases be ha with⟨i,t,rfl,rfl⟩|⟨x,t,rfl,rfl⟩
  ·rcases be hb with⟨j,u,rfl,e⟩|⟨y,u,rfl,e⟩
   ·injection e with e1 _; rw[e1]
   ·exact nomatch e
  ·rcases be hb with⟨j,u,rfl,e⟩|⟨y,u,rfl,e⟩
   ·exact nomatch e
   ·injection e with e1 _; rw[e1]
 byValue:=λk v h=>by
  rcases be h with⟨i,t,rfl,rfl⟩|⟨x,t,rfl,rfl⟩ <;> rfl
 pyHash:=λhv h=>by
  rcases be hv with⟨i,t,rfl,rfl⟩|⟨x,t,rfl,rfl⟩
  ·exact Qz h
  ·exact Oj h
 eqBool:=λhu hv h=>by
  rcases be hu with⟨i,t,rfl,rfl⟩|⟨x,t,rfl,rfl⟩
  ·rcases be hv with⟨j,u,rfl,rfl⟩|⟨y,u,rfl,rfl⟩
   ·rw[CB]at h; exact wpAny_eqBool_int h
   ·rw[CD]at h; exact PM i t y u _ _ _ _ h
  ·rcases be hv with⟨j,u,rfl,rfl⟩|⟨y,u,rfl,rfl⟩
   ·rw[CF]at h; exact PN x t j u _ _ _ _ h
   ·rw[CC]at h; exact wpAny_eqBool_str h
 «strs»:=λk x t v h=>by
  rcases be h with⟨i,u,rfl,e⟩|⟨y,u,rfl,e⟩
  ·exact nomatch e
  ·injection e with e1 _
   subst e1;cases v <;> rfl
inductive V where
 | non|bl (b:J1)|int (i:JG)|str (x:JA)|byt (b:Ki UInt8)|flt (b:UInt64)|ref (a:Ju)|ty (n:KY)
 deriving MB
abbrev RelV:V->Jm->Prop
 | .non,u=>u=KC
 | .bl b,u=>u=Le b
 | .int i,u=>∃t,u=Oi i t
 | .str x,u=>∃t,u=M2 x t
 | .byt b,u=>∃t,u=Value.bytes b t
 | .flt b,u=>∃t,u=Value.float b t
 | .ref a,u=>u=Km a
 | .ty n,u=>u=L8 n
noncomputable abbrev Vals:Jj V->Jj Jm->Prop:=Ou RelV
def Vals.length {xs:Jj V}{us:Jj Jm}(r:Vals xs us):xs.length=us.length:=Oc r
def Vals.get:∀ {xs:Jj V} {us:Jj Jm} {i:Jr} {x:V},Vals xs us->xs[i]?=ba x->∃u,us[i]?=ba u/\RelV x u
 | _,_,_,_,.nil,e=>by simp at e
 | _,_,0,_,.cons r _,e=>by simp at e; subst e; exact#[_,rfl,r]
 | _,_,i+1,x,.cons _ t,e=>by
  obtain⟨u,h1,h2⟩:=Vals.get (i:=i) (x:=x) t (by simpa using e)
  exact#[u,by simpa using h1,h2]
def Vals.set {x:V}{u:Jm}(r:RelV x u):∀ {xs:Jj V} {us:Jj Jm} (i:Jr),Vals xs us->Vals (xs.set i x) (us.set i u)
 | _,_,_,.nil=>.nil
 | _,_,0,.cons _ t=>.cons r t
 | _,_,i+1,.cons q t=>.cons q (Vals.set r i t)
def Vals.append:∀ {xs ys:Jj V} {us ws:Jj Jm},Vals xs us->Vals ys ws->Vals (xs++ys) (us++ws)
 | _,_,_,_,.nil,s=>s
 | _,_,_,_,.cons r t,s=>.cons r (Vals.append t s)
def Vals.take:∀ {xs:Jj V} {us:Jj Jm} (n:Jr),Vals xs us->Vals (xs.take n) (us.take n)
 | _,_,0,_=>.nil
 | _,_,_+1,.nil=>.nil
 | _,_,n+1,.cons r t=>.cons r (Vals.take n t)
def Vals.drop:∀ {xs:Jj V} {us:Jj Jm} (n:Jr),Vals xs us->Vals (xs.drop n) (us.drop n)
 | _,_,0,r=>r
 | _,_,_+1,.nil=>.nil
 | _,_,n+1,.cons _ t=>Vals.drop n t
abbrev E4:Jq V->Jq Jm->Prop
 | some v,ba u=>RelV v u
 | none,gV=>Pp
 | _,_=>KP
abbrev KV {κ:Type}:Jj (κ×V)->Jj (κ×Jm)->Prop:=Ou λ(p:κ×V) (q:κ×Jm)=>p.1=q.1/\RelV p.2 q.2
abbrev kV:mM->V
 | .inl i=>.int i
 | .inr x=>.str x
inductive HO where
 | lst (xs:Jj V)
 | tup (xs:Jj V)
 | dK (U:Jj (mM×V))|dT (U:Jj (Jj mM×V))
 | set (S:JG->J1) (n:Jr)
 | ins (C dx:Ju) (fs:Jj (JA×V))
 | own (x:Ju)
 | xd (fs:Jj (JA×V))
 | met (f x:Ju)
 | rng (lo hi:JG)
 | frz (o:La) (u:HO)
 | tbl (ps:Ki Jm)
 | ext (φ:Kn->Prop)
noncomputable abbrev Hp:=Ju->Jq HO
abbrev bn (H:Hp)(a:Ju)(o:HO):Hp:=λb=>if b=a then ba o else H b
def aI {H:Hp}{a:Ju}{o:HO}:bn H a o a=ba o:=by unfold bn; rw[JO rfl]
def aD {H:Hp}{a b:Ju}{o:HO}(h:b≠a):bn H a o b=H b:=by unfold bn; rw[JZ h]
def dL {H:Hp}{a b:Ju}{o:HO}(h:H a=ba o)(h':H b=gV):a≠b:=by
 intro e; subst e; rw[h]at h'; cases h'
section
variable (P:J2) (w:Kf)
abbrev NoD (h:Kn)(a:Ju):Prop:=∃o,h.get? a=ba o/\o.dict=gV
def NoD.new (h:Kn)(its:Ki Jm)(n:Jr):NoD (h.push { cls:=.type "tuple",data:=.seq its n }) h.objs.size:=#[_,JF _ rfl,rfl]
abbrev ObjOk (H:Hp)(h:Kn)(a:Ju):HO->Prop
 | .lst xs=>xs.length<=sizeLine/\∃(its:Jj Jm) (n:Jr),Vals xs its/\h.get? a=ba { cls:=.type "list",data:=.seq its.toArray n }
 | .tup xs=>(xs.length<=sizeLine/\NoD h a)/\∃its:Jj Jm,Vals xs its/\P8 h a its.toArray
 | .dK U=>U.length<=sizeLine/\(a==sysModules)=false/\∃vs,KV U vs/\h.DictOf (mN P w) a vs
 | .dT U=>U.length<=sizeLine/\(a==sysModules)=false/\∃xs:Jj (Jj mM×Ju×Jm),
   Ou (λ(p:Jj mM×V) (q:Jj mM×Ju×Jm)=>p.1=q.1/\H q.2.1=ba (.tup (p.1.map kV))/\RelV p.2 q.2.2) U xs/\
   ∃o es ep,h.get? a=ba o/\o.ExactDict/\o.data=.dict es ep/\es.toList=xs.map (entryOfKey (tupleKind (mN P w)))/\(xs.map (·.1)).Nodup
 | .set S n=>h.SetOf (intKind P w) a S n
 | .ins C dx fs=>H dx=ba (.own a)/\fs.length<=1000/\dx≠a/\h.get? a=ba (PySem.W.instObj C dx)/\
   ∃mA,h.Ns1 dx mA/\(∀f,E4 (fs.lookup f) (mA f))/\PySem.Within mA (fs.map (·.1))
 | .own _=>∃o,h.get? a=ba o
 | .xd fs=>∃mA,h.Ns1 a mA/\∀f,E4 (fs.lookup f) (mA f)
 | .rng lo hi=>∃t u v,h.get? a=ba { cls:=.type "range",data:=.fields [.int lo t,.int hi u,.int 1 v].toArray }
 | .frz o u=>h.get? a=ba o/\ObjOk H h a u
 | .tbl ps=>h.get? a=ba { cls:=.none,data:=.fields ps }
 | .met f x=>h.get? a=ba (N6 (.ref f) (.ref x))
 | .ext φ=>φ h/\(∃o,h.get? a=ba o)/\∀h1 h2:Kn,φ h1->(∀o,h1.get? a=ba o->h2.get? a=ba o)->φ h2
abbrev HOk (H:Hp)(h:Kn):Prop:=∀a o,H a=ba o->ObjOk P w H h a o
end
section
variable{P:J2}{w:Kf}{H H':Hp}{h h':Kn}{a:Ju}{o:HO}
def ObjOk.lt (x:ObjOk P w H h a o):a < h.objs.size:=by
 cases o with
 | lst xs=>obtain⟨_,_,_,_,e⟩:=x; exact JM e
 | tup xs=>obtain⟨_,_,_,p⟩:=x; exact p.lt
 | dK U=>obtain⟨_,_,_,_,o,_,_,e,_⟩:=x; exact JM e
 | dT U=>obtain⟨_,_,_,_,o,_,_,e,_⟩:=x; exact JM e
 | set S n=>obtain⟨o,_,_,_,e,_⟩:=x; exact JM e
 | ins C dx fs=>obtain⟨_,_,_,e,_⟩:=x; exact JM e
 | own y=>obtain⟨_,e⟩:=x; exact JM e
 | xd fs=>obtain⟨_,⟨_,_,_,e,_⟩,_⟩:=x; exact JM e
 | rng lo hi=>obtain⟨_,_,_,e⟩:=x; exact JM e
 | frz ob u=>obtain⟨e,_⟩:=x; exact JM e
 | tbl ps=>exact JM (show h.get? a=ba _ from x)
 | met f y=>exact JM (show h.get? a=ba _ from x)
 | ext φ=>obtain⟨_,⟨_,e⟩,_⟩:=x; exact JM e
def Paired.mapP {α β:Type}{F G:α->β->Prop}:∀ {l₁:Jj α} {l₂:Jj β},Ou F l₁ l₂->(∀a b,F a b->G a b)->Ou G l₁ l₂
 | _,_,.nil,_=>.nil
 | _,_,.cons r t,f=>.cons (f _ _ r) (Paired.mapP t f)
def ObjOk.stay (x:ObjOk P w H h a o)(k:∀b u,(b=a\/H b=ba (.own a))->h.get? b=ba u->h'.get? b=ba u)
  (ho:∀b,H b=ba (.own a)->H' b=ba (.own a)) (ht:∀b xs,H b=ba (.tup xs)->H' b=ba (.tup xs)):ObjOk P w H' h' a o:=by
 induction o with
 | lst xs=>obtain⟨z,its,n,r,e⟩:=x; exact#[z,its,n,r,k _ _ (.inl rfl) e]
 | tup xs=>obtain⟨⟨z,ob',e',d⟩,its,r,ob,e,c⟩:=x; exact#[#[z,ob',k _ _ (.inl rfl) e',d],its,r,ob,k _ _ (.inl rfl) e,c]
 | dK U=>obtain⟨z,y,vs,r,ob,es,ep,e,c⟩:=x; exact#[z,y,vs,r,ob,es,ep,k _ _ (.inl rfl) e,c]
 | dT U=>
  obtain⟨z,y,xs,r,ob,es,ep,e,c⟩:=x;exact#[z,y,xs,Paired.mapP r λp q z=>#[z.1,ht _ _ z.2.1,z.2.2],ob,es,ep,k _ _ (.inl rfl) e,c]
 | set S n=>obtain⟨ob,es,ep,t,e,c⟩:=x; exact#[ob,es,ep,t,k _ _ (.inl rfl) e,c]
 | ins C dx fs=>
  obtain⟨d,z,ne,e,mA,⟨od,es,ep,e2,c⟩,r⟩:=x;exact#[ho _ d,z,ne,k _ _ (.inl rfl) e,mA,#[od,es,ep,k _ _ (.inr d) e2,c],r]
 | own y=>obtain⟨ob,e⟩:=x; exact#[ob,k _ _ (.inl rfl) e]
 | xd fs=>obtain⟨mA,⟨od,es,ep,e,c⟩,r⟩:=x; exact#[mA,#[od,es,ep,k _ _ (.inl rfl) e,c],r]
 | rng lo hi=>obtain⟨t,u,v,e⟩:=x; exact#[t,u,v,k _ _ (.inl rfl) e]
 | frz ob u ih=>obtain⟨e,q⟩:=x; exact#[k _ _ (.inl rfl) e,ih q]
 | tbl ps=>
  have e:h.get? a=ba { cls:=.none,data:=.fields ps }:=x;change h'.get? a=ba { cls:=.none,data:=.fields ps };exact k a _ (.inl rfl) e
 | met f y=>
  have e:h.get? a=ba (N6 (.ref f) (.ref y)):=x;change h'.get? a=ba (N6 (.ref f) (.ref y));exact k a _ (.inl rfl) e
 | ext φ=>obtain⟨p,⟨o,e⟩,st⟩:=x; exact#[st _ _ p λo q=>k _ _ (.inl rfl) q,#[o,k _ _ (.inl rfl) e],st]
def HOk.lt (x:HOk P w H h)(e:H a=ba o):a < h.objs.size:=(x a o e).lt
def HOk.fresh (x:HOk P w H h)(e:h.objs.size<=a):H a=gV:=by
 cases q:H a with
 | none=>rfl
 | some u=>exact absurd (J3 (x.lt q) e) (K4 _)
def HOk.kept (x:HOk P w H h)(k:∀b u,h.get? b=ba u->h'.get? b=ba u):HOk P w H h':=λa o e=>
 (x a o e).stay (λb u _ q=>k b u q) (λ_ q=>q) λ_ _ q=>q
def HOk.laid (x:HOk P w H h)(k:∀b u,h.get? b=ba u->h'.get? b=ba u)(hp:h.objs.size<=a)(new:ObjOk P w (bn H a o) h' a o):HOk P w (bn H a o) h':=λb u e=>by
 have hn:=x.fresh hp
 by_cases hb:b=a
 ·subst hb; rw[aI]at e; cases e; exact new
 ·rw[aD hb]at e;exact(x b u e).stay (λc v _ q=>k c v q) (λc q=>by rw[aD (dL q hn)]; exact q) λc xs q=>by rw[aD (dL q hn)]; exact q
end
abbrev Rd (H:Hp)(a:Ju)(u:HO):Prop:=H a=ba u\/∃o,H a=ba (.frz o u)
def Rd.ok {P:J2}{w:Kf}{H:Hp}{h:Kn}{a:Ju}{u:HO}(r:Rd H a u)(x:HOk P w H h):ObjOk P w H h a u:=by
 rcases r with r|⟨o,r⟩
 ·exact x a u r
 ·obtain⟨_,q⟩:=x a _ r;exact q
abbrev E5:Jq HO->Prop
 | some (.lst _)=>Pp
 | some (.dK _)=>Pp
 | some (.dT _)=>Pp
 | some (.set _ _)=>Pp
 | some (.ins _ _ _)=>Pp
 | some (.ext _)=>Pp
 | _=>KP
section
variable{P:J2}{w:Kf}{H:Hp}{h h':Kn}{x e:Ju}{o':HO}
def HOk.write (ok:HOk P w H h)(mu:E5 (H x))(he:e=x\/H e=ba (.own x))(k:∀b u,b≠e->h.get? b=ba u->h'.get? b=ba u)(heo:∃u,h'.get? e=ba u)
  (new:ObjOk P w (bn H x o') h' x o'):HOk P w (bn H x o') h':=λb u q=>by
 have nown:∀c y,H c=ba (.own y)->c≠x:=λc y r z=>by subst z; rw[r]at mu; exact mu
 have ntup:∀c xs,H c=ba (.tup xs)->c≠x:=λc xs r z=>by subst z; rw[r]at mu; exact mu
 by_cases hb:b=x
 ·subst hb; rw[aI]at q; cases q; exact new
 ·rw[aD hb]at q
  by_cases hbe:b=e
  ·have q':H b=ba (.own x):=by
    rcases he with z|z
    ·exact absurd (hbe.trans z) hb
    ·rw[hbe]; exact z
   rw[q]at q'; cases q'
   obtain⟨v,hv⟩:=heo;exact#[v,by rw[hbe]; exact hv]
  ·show(ok b u q).stay (λc v hc r=>k c v ?_ r) (λc r=>by rw[aD (nown c b r)]; exact r) λc xs r=>by rw[aD (ntup c xs r)]; exact r
   rcases hc with rfl|hc
   ·exact hbe
   ·rintro rfl;rcases he with z|z
    ·exact nown c b hc z
    ·rw[hc]at z; cases z; exact hb rfl
end
structure Un (fs ex:Jj Ju)(H H':Hp)(h h':Kn):Prop where
 keep:∀b o,h.get? b=ba o->H b=gV->b∉fs->b∉ex->h'.get? b=ba o
 slot:∀b o,h.get? b=ba o->H b=gV->b∈fs->b∉ex->∃sl,h'.get? b=ba { o with slots:=sl }
 free:∀b o,h.get? b=ba o->H b=gV->b∉ex->H' b=gV
 there:∀b o,h.get? b=ba o->b∉ex->∃o',h'.get? b=ba o'
 tups:∀b xs,H b=ba (.tup xs)->H' b=ba (.tup xs)
 frzs:∀b o u,H b=ba (.frz o u)->H' b=ba (.frz o u)
 tbls:∀b ps,H b=ba (.tbl ps)->∃more,H' b=ba (.tbl (ps++more))
section
variable{fs fs' ex ex':Jj Ju}{H H1 H2:Hp}{h h1 h2 h':Kn}{a x e:Ju}{o:HO}
def Un.any (u:Un fs ex H H1 h h1){b:Ju}{ob:La}(q:h.get? b=ba ob)(n:H b=gV)(hx:b∉ex):∃sl,h1.get? b=ba { ob with slots:=sl }:=by
 by_cases hb:b∈fs
 ·exact u.slot b ob q n hb hx
 ·exact#[ob.slots,u.keep b ob q n hb hx]
def Un.trans (a:Un fs ex H H1 h h1)(b:Un fs ex H1 H2 h1 h2):Un fs ex H H2 h h2 where
 keep:=λc ob q n hc hx=>b.keep c ob (a.keep c ob q n hc hx) (a.free c ob q n hx) hc hx
 slot:=λc ob q n hc hx=>by
  obtain⟨sl,e1⟩:=a.slot c ob q n hc hx;obtain⟨sl',e2⟩:=b.slot c _ e1 (a.free c ob q n hx) hc hx;exact#[sl',e2]
 free:=λc ob q n hx=>by
  obtain⟨o',e1⟩:=a.there c ob q hx;exact b.free c o' e1 (a.free c ob q n hx) hx
 there:=λc ob q hx=>by
  obtain⟨o',e1⟩:=a.there c ob q hx;exact b.there c o' e1 hx
 tups:=λc xs q=>b.tups c xs (a.tups c xs q)
 frzs:=λc ob xs q=>b.frzs c ob xs (a.frzs c ob xs q)
 tbls:=λc ps q=>by
  obtain⟨m1,e1⟩:=a.tbls c ps q;obtain⟨m2,e2⟩:=b.tbls c _ e1;exact#[m1++m2,by rw[e2,PP]]
def Un.kept (k:∀b u,h.get? b=ba u->h'.get? b=ba u):Un fs ex H H h h':=
 #[λb ob q _ _ _=>k b ob q,λb ob q _ _ _=>#[ob.slots,k b ob q],λ_ _ _ n _=>n,λb ob q _=>#[ob,k b ob q],λ_ _ q=>q,λ_ _ _ q=>q,λ_ ps q=>#[#[],by rw[q]; simp]]
def Un.refl:Un fs ex H H h h:=Un.kept λ_ _ q=>q
def Un.laid (k:∀b u,h.get? b=ba u->h'.get? b=ba u)(hp:h.objs.size<=a)(hn:H a=gV):Un fs ex H (bn H a o) h h' where
 keep:=λb u q _ _ _=>k b u q
 slot:=λb u q _ _ _=>#[u.slots,k b u q]
 free:=λb u q n _=>by rw[aD (JX (J3 (JM q) hp))]; exact n
 there:=λb u q _=>#[u,k b u q]
 tups:=λb xs q=>by rw[aD (dL q hn)]; exact q
 frzs:=λb u xs q=>by rw[aD (dL q hn)]; exact q
 tbls:=λb ps q=>#[#[],by rw[aD (dL q hn),q]; simp]
def Un.write (mu:E5 (H x))(he:e=x\/H e=ba (.own x))(k:∀b u,b≠e->h.get? b=ba u->h'.get? b=ba u)(heo:∃u,h'.get? e=ba u):Un fs ex H (bn H x o) h h':=by
 have hx:∀b,H b=gV->b≠x:=λb n z=>by subst z; rw[n]at mu; exact mu
 have hb:∀b,H b=gV->b≠e:=λb n z=>by
  subst z;rcases he with r|r
  ·exact hx b n r
  ·rw[n]at r; cases r
 have hm:∀b u,H b=ba u->¬ E5 (ba u)->b≠x:=λb u q nm z=>by subst z; rw[q]at mu; exact nm mu
 show#[λb u q n _ _=>k b u (hb b n) q,λb u q n _ _=>#[u.slots,k b u (hb b n) q],λb u q n _=>by rw[aD (hx b n)]; exact n,λb u q _=>?_,
  λb xs q=>by rw[aD (hm b _ q λz=>z)]; exact q,λb u xs q=>by rw[aD (hm b _ q λz=>z)]; exact q,λb ps q=>#[#[],by rw[aD (hm b _ q λz=>z),q]; simp]]
 by_cases hbe:b=e
 ·subst hbe; exact heo
 ·exact#[u,k b u hbe q]
end
abbrev Hc (h:Kn)(H:Hp):Jj Ju:=(Kb h.objs.size).filter λa=>(H a).isSome
abbrev mO (h:Kn)(H:Hp):Kn:=PySem.W.hideAll h (Hc h H)
def tU (h:Kn)(H:Hp):(mO h H).objs.size=h.objs.size:=PySem.W.hideAll_size _ _
def vx {h:Kn}{H:Hp}{b:Ju}{o:La}(e:h.get? b=ba o)(n:H b=gV):(mO h H).get? b=ba o:=
 PySem.W.hideAll_get _ e λhm=>by
  have q:(H b).isSome=true:=(L3.mp hm).2;rw[n]at q; simp at q
def zv {h:Kn}{H:Hp}{b:Ju}{o:La}(e:(mO h H).get? b=ba o):h.get? b=ba o/\H b=gV:=by
 have e':h.get? b=ba o:=PySem.W.of_hideAll (Hc h H) e;show#[e',?_];cases q:H b with
 | none=>rfl
 | some x=>
  have hm:b∈Hc h H:=L3.mpr #[Kz.mpr (JM e'),by simp[q]]
  have z:(mO h H).get? b=gV:=PySem.W.hideAll_none (Hc h H) hm;rw[z]at e; cases e
abbrev zw (g h:Kn)(L:Ju):Jj (Ju×La):=(Kb h.objs.size).filterMap λa=>if a=L\/(g.get? a).isSome=true then gV else(h.get? a).map λo=>(a,o)
abbrev bI (g h:Kn)(L d:Ju):Jj (Ju×La):=(zw g h L).filter λp=>decide (p.1≠d)
structure Mod (K:Jz)(mg:JA->Jq Jm)(base:Kn):Prop where
 kin:K.In base
 glob:base.Ns mainGlobals mg
 blt:∃mb,base.Ns builtinsNs mb/\∀x:JA,x≠"__name__"->mb x=bootBuiltins x
 nolimit:base.NoLimit
structure Cx where
 prog:J2
 w:Kf
 K:Jz
 mg:JA->Jq Jm
 base:Kn
 A:Ke
 N:Jj JA
 s₀:Jp
 H₀:Hp
 env:P9
 outer:Jj P9
 stack:Jj P9
 ex:Jj Ju
 fn:JA->J1
 calm:J1
 pn:Jj (Ju×La)
 xe:Jm->Jp->Prop
abbrev qC (l:Jj P9):Jj Ju:=l.filterMap (·.frame)
noncomputable abbrev Cx.fs (X:Cx):Jj Ju:=qC X.outer
abbrev Hd (sc:My)(x:JA):Prop:=sc.names.lookup x=ba .local\/sc.names.lookup x=ba .cell\/sc.names.lookup x=ba .free
abbrev zx (sc:My)(x:JA):Prop:=sc.names.lookup x=ba .local\/sc.names.lookup x=ba .cell
abbrev Look (env:P9)(h:Kn)(m:JA->Jq Jm)(x:JA)(u:Jm):Prop:=
 (env.kindOf x=ba .local/\m x=ba u)\/((env.kindOf x=ba .cell\/env.kindOf x=ba .free)/\∃c,env.cells.lookup x=ba c/\h.IsCell c (ba u))
structure Cx.Ok (X:Cx):Prop where
 mod:Mod X.K X.mg X.base
 kind:X.env.scope.kind=.function
 glob:X.env.globals=mainGlobals
 blt:X.env.builtins=builtinsNs
 above:X.s₀.heap.objs.size<=X.env.locals
 inj:∀x y c,X.env.cells.lookup x=ba c->X.env.cells.lookup y=ba c->x=y
 has:∀x,(X.env.kindOf x=ba .cell\/X.env.kindOf x=ba .free)->∃c,X.env.cells.lookup x=ba c
 cab:∀x c,X.fn x=true->X.env.cells.lookup x=ba c->X.s₀.heap.objs.size<=c
 hd:X.calm=true->X.A.handled=gV
 frames:X.A.frames=ba X.stack
 stk:X.stack=X.outer\/(X.stack=X.env::X.outer/\X.env.frame=ba X.env.locals)
 exf:∀b∈X.ex,b≠X.env.locals/\∀x c,X.env.cells.lookup x=ba c->c≠b
 bs:∀b o,X.base.get? b=ba o->X.s₀.heap.get? b=ba o/\X.H₀ b=gV
 bsz:X.base.objs.size<=X.s₀.heap.objs.size
 noex:∀b o,X.base.get? b=ba o->b∉X.ex
 exfs:∀b∈X.ex,b∉X.fs
 funs:X.s₀.heap.FunFrames X.base X.outer
 frf:∀b∈X.fs,X.H₀ b=gV
structure Inv (X:Cx)(J:Jj (Ju×La))(Y:Jj (Jq V))(H:Hp)(s:Jp):Prop where
 ok:X.Ok
 os:s.os=X.s₀.os
 bare:N7 s.gens
 base:Un X.fs X.ex X.H₀ H X.s₀.heap s.heap
 loc:∃m,s.heap.Ns X.env.locals m/\∀(i:Jr) (x:JA) (v:V),X.N[i]?=ba x->Y[i]?=ba (ba v)->Hd X.env.scope x->∃u,RelV v u/\Look X.env s.heap m x u
 cell:∀x c,X.env.cells.lookup x=ba c->∃v,s.heap.IsCell c v
 free:H X.env.locals=gV
 freeC:∀x c,X.env.cells.lookup x=ba c->H c=gV
 pin:∀p∈X.pn++J,s.heap.get? p.1=ba p.2/\H p.1=gV/\p.1≠X.env.locals/\p.1∉X.fs/\∀v,p.2.data≠.cell v
 hok:HOk X.prog X.w H s.heap
 len:Y.length=X.N.length
section
variable{X:Cx}{J:Jj (Ju×La)}{Y:Jj (Jq V)}{H H':Hp}{s:Jp}{h':Kn}
def Cx.Ok.nofr (ok:X.Ok){b:Ju}{o:La}(e:X.base.get? b=ba o):b∉X.fs:=λhb=>by
 have:=(ok.funs.mem hb).1;rw[e]at this; cases this
def Inv.bs (I:Inv X J Y H s):∀b o,X.base.get? b=ba o->s.heap.get? b=ba o/\H b=gV:=λb o e=>
 #[I.base.keep b o (I.ok.bs b o e).1 (I.ok.bs b o e).2 (I.ok.nofr e) (I.ok.noex b o e),I.base.free b o (I.ok.bs b o e).1 (I.ok.bs b o e).2 (I.ok.noex b o e)]
def Inv.bk (I:Inv X J Y H s):∀b o,X.base.get? b=ba o->s.heap.get? b=ba o:=λb o e=>(I.bs b o e).1
def Inv.mod (I:Inv X J Y H s):Mod X.K X.mg X.base:=I.ok.mod
def Inv.kIn (I:Inv X J Y H s):X.K.In s.heap:=I.ok.mod.kin.keeps I.bk
def Inv.lt (I:Inv X J Y H s):X.env.locals < s.heap.objs.size:=let ⟨_,hn,_⟩:=I.loc; hn.lt
def Inv.sz (I:Inv X J Y H s):X.s₀.heap.objs.size<=s.heap.objs.size:=J8 I.ok.above (M4 I.lt)
def Inv.nofs (I:Inv X J Y H s){a:Ju}(h:s.heap.objs.size<=a):a∉X.fs:=λhb=>by
 obtain⟨_,o,ho,_⟩:=I.ok.funs.mem hb;exact absurd (J3 (JM ho) (J8 I.sz h)) (K4 _)
def Inv.cne (I:Inv X J Y H s):∀x c,X.env.cells.lookup x=ba c->c≠X.env.locals:=λx c e z=>by
 obtain⟨v,o,ho,hd⟩:=I.cell x c e;obtain⟨m,⟨o',es,ep,ho',hd',_⟩,_⟩:=I.loc;rw[z,ho']at ho; cases ho; rw[hd']at hd; cases hd
def Inv.funs (I:Inv X J Y H s):s.heap.FunFrames X.base X.outer:=by
 have all:∀(l:Jj P9),(∀b∈qC l,b∈X.fs)->X.s₀.heap.FunFrames X.base l->s.heap.FunFrames X.base l:=by
  intro l
  induction l with
  | nil=>intro _ _; trivial
  | cons env r ih=>
   intro hs hl;obtain⟨hk,⟨L,o,hf,hn,ho,hd⟩,hr⟩:=hl;have hL:L∈X.fs:=hs L (by unfold qC; rw[MO,hf]; exact Kr)
   obtain⟨sl,e⟩:=I.base.slot L o ho (I.ok.frf L hL) hL λz=>I.ok.exfs L z hL
   exact#[hk,#[L,_,hf,hn,e,hd],ih (λb hb=>hs b (by unfold qC; rw[MO,hf]; exact Kd _ hb)) hr]
 exact all X.outer (λ_ hb=>hb) I.ok.funs
def Inv.stack (I:Inv X J Y H s):s.heap.FunFrames X.base X.stack:=by
 rcases I.ok.stk with e|⟨e,hf⟩
 ·rw[e]; exact I.funs
 ·rw[e];obtain⟨m,hn,_⟩:=I.loc;show .cons (by rw[I.ok.kind]; decide) hf hn ?_ I.funs
  exact Heap.get?_none_of_le (J8 I.ok.bsz I.ok.above)
def Inv.stkSub (I:Inv X J Y H s):∀b∈qC X.stack,b∈X.env.locals::X.fs:=λb hb=>by
 rcases I.ok.stk with e|⟨e,hf⟩
 ·rw[e]at hb; exact Kd _ hb
 ·rw[e]at hb;unfold qC at hb;rw[MO,hf]at hb;exact hb
def Inv.stkFree (I:Inv X J Y H s):∀b∈qC X.stack,H b=gV:=λb hb=>by
 rcases JC.mp (I.stkSub b hb)with e|hb
 ·rw[e]; exact I.free
 ·obtain⟨_,o,ho,_⟩:=I.ok.funs.mem hb;exact I.base.free b o ho (I.ok.frf b hb) λz=>I.ok.exfs b z hb
def Inv.step {g':Ki O1}{t':Jr}{d':SV}{ch:Jj Ju}(I:Inv X J Y H s)
  (hch:∀b∈ch,(b∈X.ex\/X.s₀.heap.objs.size<=b)/\b≠X.env.locals/\(∀x c,X.env.cells.lookup x=ba c->c≠b)/\∀p∈X.pn++J,p.1≠b)
  (keep:∀b o,b≠X.env.locals->b∉X.fs->b∉ch->s.heap.get? b=ba o->H b=gV->h'.get? b=ba o)
  (slot:∀b o,b≠X.env.locals->b∈X.fs->b∉ch->s.heap.get? b=ba o->H b=gV->∃sl,h'.get? b=ba { o with slots:=sl }) (free:∀b o,b∉ch->s.heap.get? b=ba o->H b=gV->H' b=gV)
  (there:∀b o,b∉ch->s.heap.get? b=ba o->∃o',h'.get? b=ba o')
  (tups:∀b xs,H b=ba (.tup xs)->H' b=ba (.tup xs)) (frzs:∀b o u,H b=ba (.frz o u)->H' b=ba (.frz o u)) (tbls:∀b ps,H b=ba (.tbl ps)->∃more,H' b=ba (.tbl (ps++more)))
  (ns:∀m,s.heap.Ns X.env.locals m->h'.Ns X.env.locals m) (hok:HOk X.prog X.w H' h') (hg:N7 g') :
  Inv X J Y H' { s with heap:=h',gens:=g',drawn:=d',toks:=t' }:=by
 have neL:∀b o,X.s₀.heap.get? b=ba o->b≠X.env.locals:=λb o e=>JX (J3 (JM e) I.ok.above)
 have neC:∀b o,X.s₀.heap.get? b=ba o->b∉X.ex->b∉ch:=λb o e hx hb=>by
  rcases(hch b hb).1 with z|z
  ·exact hx z
  ·exact absurd (J3 (JM e) z) (K4 _)
 have cellK:∀x c,X.env.cells.lookup x=ba c->∀v,s.heap.IsCell c v->h'.IsCell c v:=λx c e v #[o,ho,hd]=>by
  have nch:c∉ch:=λz=>(hch c z).2.2.1 x c e rfl
  by_cases hc:c∈X.fs
  ·obtain⟨sl,q⟩:=slot c o (I.cne x c e) hc nch ho (I.freeC x c e);exact#[_,q,hd]
  ·exact#[o,keep c o (I.cne x c e) hc nch ho (I.freeC x c e),hd]
 show#[I.ok,I.os,hg,#[λb o e n hb hx=>?_,λb o e n hb hx=>?_,λb o e n hx=>?_,λb o e hx=>?_,λb xs e=>tups b xs (I.base.tups b xs e),λb o xs e=>frzs b o xs (I.base.frzs b o xs e),λb ps e=>?_],?_,λx c e=>?_,?_,λx c e=>?_,λp hp=>?_,hok,I.len]
 ·exact keep b o (neL b o e) hb (neC b o e hx) (I.base.keep b o e n hb hx) (I.base.free b o e n hx)
 ·obtain⟨sl,e1⟩:=I.base.slot b o e n hb hx;obtain⟨sl',e2⟩:=slot b _ (neL b o e) hb (neC b o e hx) e1 (I.base.free b o e n hx);exact#[sl',e2]
 ·obtain⟨o',e1⟩:=I.base.there b o e hx;exact free b o' (neC b o e hx) e1 (I.base.free b o e n hx)
 ·obtain⟨o',e1⟩:=I.base.there b o e hx;exact there b o' (neC b o e hx) e1
 ·obtain⟨m1,e1⟩:=I.base.tbls b ps e;obtain⟨m2,e2⟩:=tbls b _ e1;exact#[m1++m2,by rw[e2,PP]]
 ·obtain⟨m,hn,hl⟩:=I.loc;show#[m,ns m hn,λi x v e1 e2 e3=>?_]
  obtain⟨u,r,l⟩:=hl i x v e1 e2 e3;show#[u,r,?_];rcases l with l|⟨k,c,e,z⟩
  ·exact .inl l
  ·exact .inr #[k,c,e,cellK x c e _ z]
 ·obtain⟨v,z⟩:=I.cell x c e;exact#[v,cellK x c e v z]
 ·obtain⟨m,⟨o,_,_,ho,_⟩,_⟩:=I.loc;exact free _ o (λz=>(hch _ z).2.1 rfl) ho I.free
 ·obtain⟨v,o,ho,hd⟩:=I.cell x c e;exact free c o (λz=>(hch c z).2.2.1 x c e rfl) ho (I.freeC x c e)
 ·obtain⟨e,n,ne,nf,d⟩:=I.pin p hp;have nch:p.1∉ch:=λz=>(hch p.1 z).2.2.2 p hp rfl
  exact#[keep p.1 p.2 ne nf nch e n,free p.1 p.2 nch e n,ne,nf,d]
def Inv.un {t':Jr}(I:Inv X J Y H s)(u:Un X.fs [] H H' s.heap h')(hok:HOk X.prog X.w H' h'):Inv X J Y H' { s with heap:=h',toks:=t' }:=by
 obtain⟨m,⟨o,es,ep,ho,r⟩,_⟩:=id I.loc;obtain⟨sl,hL⟩:=u.any ho I.free (by simp)
 exact I.step (g':=s.gens) (d':=s.drawn) (ch:=[]) (λ_ z=>nomatch z) (λb o _ hb _ e n=>u.keep b o e n hb (by simp)) (λb o _ hb _ e n=>u.slot b o e n hb (by simp)) (λb o _ e n=>u.free b o e n (by simp)) (λb o _ e=>u.there b o e (by simp)) u.tups u.frzs u.tbls (λm' hm=>by
  obtain⟨o',es',ep',ho',r'⟩:=hm;rw[ho]at ho'; cases ho'
  exact#[_,es',ep',hL,r']) hok I.bare
def Inv.call {g':Ki O1}{t':Jr}{d':SV}{ch:Jj Ju}(I:Inv X J Y H s)(u:Un (qC X.stack) ch H H' s.heap h')(hok:HOk X.prog X.w H' h')(hg:N7 g')
  (hch:∀b∈ch,(b∈X.ex\/X.s₀.heap.objs.size<=b)/\b≠X.env.locals/\(∀x c,X.env.cells.lookup x=ba c->c≠b)/\∀p∈X.pn++J,p.1≠b) :
  Inv X J Y H' { s with heap:=h',gens:=g',drawn:=d',toks:=t' }:=by
 obtain⟨m,⟨o,es,ep,ho,r⟩,_⟩:=id I.loc;obtain⟨sl,hL⟩:=u.any ho I.free λz=>(hch _ z).2.1 rfl
 exact I.step (ch:=ch) hch (λb o hL hb hc e n=>u.keep b o e n (λz=>(JC.mp (I.stkSub b z)).elim hL hb) hc) (λb o _ _ hc e n=>u.any e n hc) (λb o hc e n=>u.free b o e n hc) (λb o hc e=>u.there b o e hc) u.tups u.frzs u.tbls (λm' hm=>by
  obtain⟨o',es',ep',ho',r'⟩:=hm;rw[ho]at ho'; cases ho'
  exact#[_,es',ep',hL,r']) hok hg
def Inv.turned {t':Jr}{it:Ju}(I:Inv X J Y H s)(k:∀b o,b≠it->s.heap.get? b=ba o->h'.get? b=ba o)(hn:H it=gV)(hL:it≠X.env.locals)
  (h1:it∈X.ex\/X.s₀.heap.objs.size<=it) (h2:∀x c,X.env.cells.lookup x=ba c->c≠it) (h3:∀p∈X.pn++J,p.1≠it):Inv X J Y H { s with heap:=h',toks:=t' }:=by
 have nit:∀b u,H b=ba u->b≠it:=λb u e z=>by rw[z,hn]at e; cases e
 show I.step (g':=s.gens) (d':=s.drawn) (ch:=[it]) (λb hb=>?_) (λb o _ _ hc e _=>k b o (λz=>hc (by simp[z])) e) (λb o _ _ hc e _=>#[o.slots,k b o (λz=>hc (by simp[z])) e]) (λ_ _ _ _ n=>n)
  (λb o hc e=>#[o,k b o (λz=>hc (by simp[z])) e]) (λ_ _ e=>e) (λ_ _ _ e=>e) (λb ps e=>#[#[],by rw[e]; simp]) (λm hm=>?_) (λb u e=>?_) I.bare
 ·have e:b=it:=by simpa using hb
  subst e;exact#[h1,hL,h2,h3]
 ·obtain⟨o,es,ep,ho,r⟩:=hm;exact#[o,es,ep,k _ o (Ne.symm hL) ho,r]
 ·show(I.hok b u e).stay (λc v hc q=>k c v ?_ q) (λ_ q=>q) λ_ _ q=>q
  rcases hc with z|z
  ·rw[z]; exact nit b u e
  ·exact nit c _ z
def Inv.tok (I:Inv X J Y H s)(t:Jr):Inv X J Y H { s with toks:=t }:=I.un (h':=s.heap) (t':=t) Un.refl I.hok
def Inv.kept {t':Jr}(I:Inv X J Y H s)(k:∀b u,s.heap.get? b=ba u->h'.get? b=ba u):Inv X J Y H { s with heap:=h',toks:=t' }:=I.un (Un.kept k) (I.hok.kept k)
def Inv.laid {a:Ju}{o:HO}{t':Jr}(I:Inv X J Y H s)(k:∀b u,s.heap.get? b=ba u->h'.get? b=ba u)(hp:s.heap.objs.size<=a)(new:ObjOk X.prog X.w (bn H a o) h' a o) :
  Inv X J Y (bn H a o) { s with heap:=h',toks:=t' }:=I.un (Un.laid k hp (I.hok.fresh hp)) (I.hok.laid k hp new)
def Inv.write {x e:Ju}{o:HO}{t':Jr}(I:Inv X J Y H s)(mu:E5 (H x))(he:e=x\/H e=ba (.own x))(k:∀b u,b≠e->s.heap.get? b=ba u->h'.get? b=ba u)(heo:∃u,h'.get? e=ba u)
  (new:ObjOk X.prog X.w (bn H x o) h' x o):Inv X J Y (bn H x o) { s with heap:=h',toks:=t' }:=I.un (Un.write mu he k heo) (I.hok.write mu he k heo new)
def Inv.pins_of {J':Jj (Ju×La)}(I:Inv X J Y H s)(h:∀p∈J',s.heap.get? p.1=ba p.2/\H p.1=gV/\p.1≠X.env.locals/\p.1∉X.fs/\∀v,p.2.data≠.cell v):Inv X J' Y H s:=
 #[I.ok,I.os,I.bare,I.base,I.loc,I.cell,I.free,I.freeC,λp hp=>(Kj.mp hp).elim (λz=>I.pin p (Ky _ z)) (h p),I.hok,I.len]
def oE {N:Jj JA}(hN:N.Nodup){i j:Jr}{x:JA}(a:N[i]?=ba x)(b:N[j]?=ba x):i=j:=by
 obtain⟨h1,e1⟩:=JK.mp a;obtain⟨h2,e2⟩:=JK.mp b;exact(Mh hN).mp (e1.trans e2.symm)
def tV {tv:SD}{A:Ke}{E:Jm->Jp->Prop}{i:Jr}{x:JA}{v:V}{u:Jm}{Q:Sr->Jp->Prop}(I:Inv X J Y H s)(hN:X.N.Nodup)(hi:X.N[i]?=ba x)(hx:zx X.env.scope x)(r:RelV v u)
  (h:∀s',Inv X J (Y.set i (ba v)) H s'->(∃a,LC a s.heap s'.heap/\(a=X.env.locals\/X.env.cells.lookup x=ba a))->Q () s') (hf:X.fn x=true\/X.env.scope.names.lookup x=ba .local):wpAny tv A (storeName X.env x u) Q E s:=by
 obtain⟨m,hn,hl⟩:=id I.loc;have hcls:(X.env.scope.kind==.class||(X.env.scope.kind==.module&&X.env.locals != X.env.globals))=false:=by rw[I.ok.kind]; rfl
 have hiσ:i < Y.length:=by rw[I.len]; exact(JK.mp hi).1
 have cne:=I.cne;have tracked:∀ {a:Ju} {h':Kn},(∃o,s.heap.get? a=ba o/\H a=gV)->LC a s.heap h'->HOk X.prog X.w H h':=λ{a h'} ha hs b ob e=>by
  obtain⟨_,_,hfree⟩:=ha;show(I.hok b ob e).stay (λc w' hc q=>(hs.2 c ?_).trans q) (λ_ q=>q) λ_ _ q=>q
  rintro rfl;rcases hc with rfl|hc
  ·rw[hfree]at e; cases e
  ·rw[hfree]at hc; cases hc
 rcases hx with hk|hk
 ·show wpAny_storeName_local hk hn (λh' hn' hs=>?_) hcls
  obtain⟨oL,_,_,hoL,_⟩:=id hn;show h _ #[I.ok,I.os,I.bare,#[λb o e n hb hx=>?_,λb o e n hb hx=>?_,I.base.free,λb o e hx=>?_,I.base.tups,I.base.frzs,I.base.tbls],#[_,hn',λj y v' e1 e2 e3=>?_],λy c e=>?_,I.free,I.freeC,λp hp=>?_,tracked #[oL,hoL,I.free] hs,by simpa using I.len] #[_,hs,.inl rfl]
  ·exact(hs.2 b (JX (J3 (JM e) I.ok.above))).trans (I.base.keep b o e n hb hx)
  ·obtain⟨sl,e1⟩:=I.base.slot b o e n hb hx;exact#[sl,(hs.2 b (JX (J3 (JM e) I.ok.above))).trans e1]
  ·obtain⟨o',e1⟩:=I.base.there b o e hx;exact#[o',(hs.2 b (JX (J3 (JM e) I.ok.above))).trans e1]
  ·by_cases hj:j=i
   ·subst hj;rw[hi]at e1; cases e1
    rw[Ov hiσ]at e2;cases e2;exact#[u,r,.inl #[hk,by simp]]
   ·rw[O2 (Ne.symm hj)]at e2;obtain⟨u',r',q⟩:=hl j y v' e1 e2 e3;show#[u',r',?_];rcases q with⟨k,e⟩|⟨k,c,e,z⟩
    ·show .inl #[k,?_];have:y≠x:=λe=>hj (oE hN e1 (e ▸ hi))
     simp[this,e]
    ·exact .inr #[k,c,e,z.sameBut hs (cne y c e)]
  ·obtain⟨w',z⟩:=I.cell y c e;exact#[w',z.sameBut hs (cne y c e)]
  ·obtain⟨e,n,ne,nf,d⟩:=I.pin p hp;exact#[(hs.2 p.1 ne).trans e,n,ne,nf,d]
 ·have hfn:X.fn x=true:=by
   rcases hf with z|z
   ·exact z
   ·rw[z]at hk; cases hk
  obtain⟨c,hc⟩:=I.ok.has x (.inl hk);obtain⟨w',z⟩:=I.cell x c hc;show wpAny_storeName_cell I.ok.kind hk hc z (λh' hc' hs=>?_)
  obtain⟨oc,hoc,hocd⟩:=id z;show h { s with heap:=h' } #[I.ok,I.os,I.bare,#[λb o e n hb hx=>?_,λb o e n hb hx=>?_,I.base.free,λb o e hx=>?_,I.base.tups,I.base.frzs,I.base.tbls],#[m,hn.sameBut hs (Ne.symm (cne x c hc)),λj y v' e1 e2 e3=>?_],λy c' e=>?_,I.free,I.freeC,λp hp=>?_,tracked #[oc,hoc,I.freeC x c hc] hs,by simpa using I.len] #[c,hs,.inr hc]
  ·exact(hs.2 b (JX (J3 (JM e) (I.ok.cab x c hfn hc)))).trans (I.base.keep b o e n hb hx)
  ·obtain⟨sl,e1⟩:=I.base.slot b o e n hb hx;exact#[sl,(hs.2 b (JX (J3 (JM e) (I.ok.cab x c hfn hc)))).trans e1]
  ·obtain⟨o',e1⟩:=I.base.there b o e hx;exact#[o',(hs.2 b (JX (J3 (JM e) (I.ok.cab x c hfn hc)))).trans e1]
  ·by_cases hj:j=i
   ·subst hj;rw[hi]at e1; cases e1
    rw[Ov hiσ]at e2;cases e2;exact#[u,r,.inr #[.inl hk,c,hc,hc']]
   ·rw[O2 (Ne.symm hj)]at e2;obtain⟨u',r',q⟩:=hl j y v' e1 e2 e3;show#[u',r',?_];rcases q with q|⟨k,c',e,z'⟩
    ·exact .inl q
    ·show .inr #[k,c',e,z'.sameBut hs ?_];rintro rfl;exact hj (oE hN e1 (I.ok.inj _ _ _ e hc ▸ hi))
  ·by_cases hcc:c'=c
   ·subst hcc; exact#[_,hc']
   ·obtain⟨w2,z2⟩:=I.cell y c' e;exact#[w2,z2.sameBut hs hcc]
  ·obtain⟨e,n,ne,nf,d⟩:=I.pin p hp;show#[(hs.2 p.1 ?_).trans e,n,ne,nf,d];intro q;rw[q,hoc]at e;have q':oc=p.2:=Kw e;exact d w' (by rw[<- q']; exact hocd)
def ie {tv:SD}{A:Ke}{E:Jm->Jp->Prop}{i:Jr}{x:JA}{v:V}{u:Jm}{Q:Sr->Jp->Prop}(I:Inv X J Y H s)(hN:X.N.Nodup)(hi:X.N[i]?=ba x)(hx:zx X.env.scope x)(r:RelV v u)
  (h:∀s',Inv X J (Y.set i (ba v)) H s'->Q () s') (hf:X.fn x=true\/X.env.scope.names.lookup x=ba .local):wpAny tv A (storeName X.env x u) Q E s:=
 tV I hN hi hx r (λs' I' _=>h s' I') hf
def Inv.call' {s':Jp}{ch:Jj Ju}(I:Inv X J Y H s)(ho:s'.os=s.os)(u:Un (qC X.stack) ch H H' s.heap s'.heap)(hok:HOk X.prog X.w H' s'.heap)(hg:N7 s'.gens)
  (hch:∀b∈ch,(b∈X.ex\/X.s₀.heap.objs.size<=b)/\b≠X.env.locals/\(∀x c,X.env.cells.lookup x=ba c->c≠b)/\∀p∈X.pn++J,p.1≠b):Inv X J Y H' s':=by
 obtain⟨h',g',d',t',o'⟩:=s';have e:o'=s.os:=ho;subst e;exact I.call (g':=g') (t':=t') (d':=d') u hok hg hch
end
noncomputable abbrev XK:=Jm->Jq Ju->Hp->Prop
noncomputable abbrev St:=Jj (Jq V)
noncomputable abbrev VK:=V->Hp->Prop
noncomputable abbrev TE:=St->Hp->VK->Prop
noncomputable abbrev TT:=St->Hp->(J1->Hp->Prop)->Prop
noncomputable abbrev TA:=St->Hp->(Jj V->Hp->Prop)->Prop
structure Ends where
 nx:St->Hp->Prop
 rt:VK
 bk:St->Hp->Prop:=λ_ _=>KP
 ct:St->Hp->Prop:=λ_ _=>KP
noncomputable abbrev TS:=Ends->St->Hp->Prop
inductive EP (X:Cx)(J:Jj (Ju×La))(Y:St)(Q:VK)(u:Jm)(s':Jp):Prop
 | mk (v:V) (H':Hp) (i:Inv X J Y H' s') (r:RelV v u) (q:Q v H'):EP X J Y Q u s'
inductive TP (X:Cx)(J:Jj (Ju×La))(Y:St)(Q:J1->Hp->Prop)(b:J1)(s':Jp):Prop
 | mk (H':Hp) (i:Inv X J Y H' s') (q:Q b H'):TP X J Y Q b s'
inductive AP (X:Cx)(J:Jj (Ju×La))(Y:St)(Q:Jj V->Hp->Prop)(us:Jj Jm)(s':Jp):Prop
 | mk (vs:Jj V) (H':Hp) (i:Inv X J Y H' s') (r:Vals vs us) (q:Q vs H'):AP X J Y Q us s'
abbrev SP (X:Cx)(J:Jj (Ju×La))(D:Ends)(f:Flow)(s':Jp):Prop:=
 match f with
 | .next=>∃Y' H',Inv X J Y' H' s'/\D.nx Y' H'
 | .brk=>∃Y' H',Inv X J Y' H' s'/\D.bk Y' H'
 | .cont=>∃Y' H',Inv X J Y' H' s'/\D.ct Y' H'
 | .ret u=>∃v Y' H',Inv X J Y' H' s'/\RelV v u/\D.rt v H'
abbrev PE (X:Cx)(e:JR)(t:TE):Prop:=
 ∀(J:Jj (Ju×La)) (s:Jp) (Y:St) (H:Hp) (Q:VK),Inv X J Y H s->t Y H Q->wpAny (model X.prog X.w) X.A (eval e X.env) (EP X J Y Q) X.xe s
abbrev PT (X:Cx)(e:JR)(t:TT):Prop:=
 ∀(J:Jj (Ju×La)) (s:Jp) (Y:St) (H:Hp) (Q:J1->Hp->Prop),Inv X J Y H s->t Y H Q->wpAny (model X.prog X.w) X.A (isTrue e X.env (eval e X.env)) (TP X J Y Q) X.xe s
abbrev PW (X:Cx)(e:JR)(t:TT):Prop:=
 ∀(whole:R3 Jm) (J:Jj (Ju×La)) (s:Jp) (Y:St) (H:Hp) (Q:J1->Hp->Prop),Inv X J Y H s->t Y H Q->wpAny (model X.prog X.w) X.A (isTrue e X.env whole) (TP X J Y Q) X.xe s
def PW.pt {X:Cx}{e:JR}{t:TT}(h:PW X e t):PT X e t:=h _
abbrev PA (X:Cx)(es:Jj JR)(t:TA):Prop:=
 ∀(pos:LN) (J:Jj (Ju×La)) (s:Jp) (Y:St) (H:Hp) (Q:Jj V->Hp->Prop),Inv X J Y H s->t Y H Q->wpAny (model X.prog X.w) X.A (spliced (backTo pos (starEach es X.env))) (AP X J Y Q) X.xe s
abbrev PS (X:Cx)(st:Mb)(t:TS):Prop:=
 ∀(J:Jj (Ju×La)) (s:Jp) (Y:St) (H:Hp) (D:Ends),Inv X J Y H s->t D Y H->wpAny (model X.prog X.w) X.A (exec st X.env) (SP X J D) X.xe s
abbrev PSs (X:Cx)(st:Jj Mb)(t:TS):Prop:=
 ∀(J:Jj (Ju×La)) (s:Jp) (Y:St) (H:Hp) (D:Ends),Inv X J Y H s->t D Y H->wpAny (model X.prog X.w) X.A (execs st X.env) (SP X J D) X.xe s
def a7 {α:Type}{t:R3 α}{Q Q':α->Jp->Prop}{tv:SD}{A:Ke}{E:Jm->Jp->Prop}{s:Jp}(h:wpAny tv A t Q E s)(hQ:∀a s,Q a s->Q' a s):wpAny tv A t Q' E s:=Ll h hQ λ_ _ x=>x
section
variable{X:Cx}
abbrev CG (i:Jr):TE:=λY H Q=>∃v,Y[i]?=ba (ba v)/\Q v H
abbrev tC (v:V):TE:=λ_ H Q=>Q v H
def vy {i:Jr}{x:JA}{pos:LN}(hN:X.N[i]?=ba x)(hv:Hd X.env.scope x)(hd:(x==("__debug__" : JA))=false:=by decide)(hcd:(x==("__classdict__" : JA))=false:=by decide):PE X (.Name x pos) (CG i):=by
 intro J s Y H Q I h;obtain⟨v,e,h⟩:=h;obtain⟨m,hn,hl⟩:=I.loc;obtain⟨u,r,l⟩:=hl i x v hN e hv;have fin:EP X J Y Q u s:=#[v,H,I,r,h];rcases l with⟨hk,hm⟩|⟨hk,c,hc,hcell⟩
 ·exact Rf (wpAny_loadName_local I.ok.kind hk hn hm fin) hd
 ·rcases hk with hk|hk
  ·exact Rf (wpAny_loadName_cell I.ok.kind hk hc hcell fin) hd
  ·exact Rf (wpAny_loadName_free I.ok.kind hk hc hcell fin hcd) hd
def vz {i j pos}:PE X (.Constant (.int i) j pos) (tC (.int i)):=λ_ _ _ H _ I h=>wpAny_Constant_int #[.int i,H,I.tok _,#[_,rfl],h]
def BY {b j pos}:PE X (.Constant (.bool b) j pos) (tC (.bl b)):=λ_ _ _ H _ I h=>Constant_bool #[.bl b,H,I,rfl,h]
def vA {j pos}:PE X (.Constant .none j pos) (tC .non):=λ_ _ _ H _ I h=>Constant_none #[.non,H,I,rfl,h]
def vB {x j pos}:PE X (.Constant (.str x) j pos) (tC (.str x)):=λ_ _ _ H _ I h=>PQ #[.str x,H,I.tok _,#[_,rfl],h]
abbrev Gl (X:Cx)(x:JA):Prop:=X.env.kindOf x=ba .globalImplicit
def mP {E:Jm->Jp->Prop}{J:Jj (Ju×La)}{s:Jp}{Y:St}{H:Hp}{x:JA}{u:Jm}{pos:LN}{Q:Jm->Jp->Prop}(I:Inv X J Y H s)(hg:Gl X x)(hm:X.mg x=ba u)(h:Q u s)
  (hd:(x==("__debug__" : JA))=false:=by decide):wpAny (model X.prog X.w) X.A (eval (.Name x pos) X.env) Q E s:=
 NJ I.ok.kind hg (Calls.loadGlobal_global (by rw[I.ok.glob]; exact I.mod.glob.keeps I.bk) hm h) hd
def fO {E:Jm->Jp->Prop}{J:Jj (Ju×La)}{s:Jp}{Y:St}{H:Hp}{x:JA}{u:Jm}{pos:LN}{Q:Jm->Jp->Prop}(I:Inv X J Y H s)(hg:Gl X x)(hm:X.mg x=gV)(hv:bootBuiltins x=ba u)(h:Q u s)
  (hn:x≠"__name__":=by decide) (hd:(x==("__debug__" : JA))=false:=by decide):wpAny (model X.prog X.w) X.A (eval (.Name x pos) X.env) Q E s:=by
 obtain⟨mb,h1,h2⟩:=I.mod.blt;exact NJ I.ok.kind hg (Calls.loadGlobal_builtin (by rw[I.ok.glob]; exact I.mod.glob.keeps I.bk) hm (by rw[I.ok.blt]; exact h1.keeps I.bk) ((h2 x hn).trans hv) h) hd
def zy {x:JA}{v:V}{u:Jm}{pos:LN}(hg:Gl X x)(hm:X.mg x=ba u)(r:RelV v u)(hd:(x==("__debug__" : JA))=false:=by decide):PE X (.Name x pos) (tC v):=
 λ_ _ _ H _ I h=>mP I hg hm #[v,H,I,r,h] hd
def zz {x:JA}{v:V}{u:Jm}{pos:LN}(hg:Gl X x)(hm:X.mg x=gV)(hv:bootBuiltins x=ba u)(r:RelV v u)(hn:x≠"__name__":=by decide)(hd:(x==("__debug__" : JA))=false:=by decide):PE X (.Name x pos) (tC v):=
 λ_ _ _ H _ I h=>fO I hg hm hv #[v,H,I,r,h] hn hd
variable{a b:JR}{ta tb:TE}{pos:LN}
variable{tA tB':TT}{bI:Jj JR}
abbrev E6 (t u:TT):TT:=λY H Q=>t Y H λc H1=>if c=true then u Y H1 Q else Q false H1
abbrev IH (t u:TT):TT:=λY H Q=>t Y H λc H1=>if c=true then Q true H1 else u Y H1 Q
abbrev Hm (t:TT):TT:=λY H Q=>t Y H λc H1=>Q (!c) H1
def zA (ha:PT X a tA):PW X (.BoolOp .And [a] pos) tA:=by
 intro wh J s Y H Q I h;show isTrue_and (a7 (ha J s Y H Q I h) λc s1 e=>?_)
 cases c with
 | true=>exact isTrue_and_nil e
 | false=>exact e
def CH (ha:PT X a tA):PW X (.BoolOp .Or [a] pos) tA:=by
 intro wh J s Y H Q I h;show isTrue_or (a7 (ha J s Y H Q I h) λc s1 e=>?_)
 cases c with
 | false=>exact isTrue_or_nil e
 | true=>exact e
def CI (ha:PT X a tA)(hb:PW X (.BoolOp .And (b::bI) pos) tB'):PW X (.BoolOp .And (a::b::bI) pos) (E6 tA tB'):=by
 intro wh J s Y H Q I h;show isTrue_and (a7 (ha J s Y H _ I h) λc s1 #[H1,I1,q1]=>?_)
 cases c with
 | true=>exact hb wh J s1 Y H1 Q I1 q1
 | false=>exact#[H1,I1,q1]
def E7 (ha:PT X a tA)(hb:PW X (.BoolOp .Or (b::bI) pos) tB'):PW X (.BoolOp .Or (a::b::bI) pos) (IH tA tB'):=by
 intro wh J s Y H Q I h;show isTrue_or (a7 (ha J s Y H _ I h) λc s1 #[H1,I1,q1]=>?_)
 cases c with
 | true=>exact#[H1,I1,q1]
 | false=>exact hb wh J s1 Y H1 Q I1 q1
def CJ (ha:PT X a tA):PT X (.UnaryOp .Not a pos) (Hm tA):=by
 intro J s Y H Q I h;exact isTrue_not (a7 (ha J s Y H (λc H1=>Q (!c) H1) I h) λ_ _ #[H1,i,q]=>#[H1,i,q])
abbrev E8 (ta tb:TE):TE:=λY H Q=>ta Y H λx H1=>∃c,x=.bl c/\if c=true then tb Y H1 Q else Q (.bl false) H1
abbrev Hn (ta tb:TE):TE:=λY H Q=>ta Y H λx H1=>∃c,x=.bl c/\if c=true then Q (.bl true) H1 else tb Y H1 Q
abbrev E9 (ta:TE):TE:=λY H Q=>ta Y H λx H1=>∃c,x=.bl c/\Q (.bl (!c)) H1
def CK {op}{t:TE}(h:PE X a t):PE X (.BoolOp op [a] pos) t:=λJ s Y H Q I hw=>BoolOp_one (h J s Y H Q I hw)
def CL (ha:PE X a ta)(hb:PE X (.BoolOp .And (b::bI) pos) tb):PE X (.BoolOp .And (a::b::bI) pos) (E8 ta tb):=by
 intro J s Y H Q I h;show BoolOp_and (a7 (ha J s Y H _ I h) λv s1 #[x,H1,I1,r1,q1]=>?_)
 obtain⟨c,rfl,q1⟩:=q1;cases r1;show K8 ?_;cases c with
 | true=>exact hb J s1 Y H1 Q I1 q1
 | false=>exact#[.bl false,H1,I1,rfl,q1]
def Fa (ha:PE X a ta)(hb:PE X (.BoolOp .Or (b::bI) pos) tb):PE X (.BoolOp .Or (a::b::bI) pos) (Hn ta tb):=by
 intro J s Y H Q I h;show BoolOp_or (a7 (ha J s Y H _ I h) λv s1 #[x,H1,I1,r1,q1]=>?_)
 obtain⟨c,rfl,q1⟩:=q1;cases r1;show K8 ?_;cases c with
 | false=>exact hb J s1 Y H1 Q I1 q1
 | true=>exact#[.bl true,H1,I1,rfl,q1]
def CM (ha:PE X a ta):PE X (.UnaryOp .Not a pos) (E9 ta):=by
 intro J s Y H Q I h;show UnaryOp_ (a7 (ha J s Y H _ I h) λv s1 #[x,H1,I1,r1,q1]=>?_)
 obtain⟨c,rfl,q1⟩:=q1;cases r1;exact not_of (K8 #[.bl (!c),H1,I1,rfl,q1])
end
abbrev SqL (K:Jz)(H:Hp)(a:Ju)(xs:Jj V):Prop:=
 Rd H a (.lst xs)\/
  ∃(o:La) (its:Ki Jm) (n:Jr),K.lookup a=ba o/\o.cls=.type "list"/\o.dict=gV/\o.data=.seq its n/\its.size<=sizeLine/\Vals xs its.toList
abbrev SqT (K:Jz)(H:Hp)(a:Ju)(xs:Jj V):Prop:=
 Rd H a (.tup xs)\/
  ∃(o:La) (its:Ki Jm) (n:Jr),K.lookup a=ba o/\o.cls=.type "tuple"/\o.dict=gV/\o.data=.seq its n/\its.size<=sizeLine/\Vals xs its.toList
abbrev zB:Jm->Jq V
 | .none=>ba .non
 | .bool b=>ba (.bl b)
 | .int i _=>ba (.int i)
 | .str x _=>ba (.str x)
 | .bytes b _=>ba (.byt b)
 | .float b _=>ba (.flt b)
 | .ref a=>ba (.ref a)
 | .type n=>ba (.ty n)
 | _=>gV
def RelV.abs {x:V}{u:Jm}(r:RelV x u):zB u=ba x:=by
 cases x with
 | non=>cases r; rfl
 | bl _=>cases r; rfl
 | int _=>obtain⟨t,rfl⟩:=r; rfl
 | str _=>obtain⟨t,rfl⟩:=r; rfl
 | byt _=>obtain⟨t,rfl⟩:=r; rfl
 | flt _=>obtain⟨t,rfl⟩:=r; rfl
 | ref _=>cases r; rfl
 | ty _=>cases r; rfl
def RelV.inj {x y:V}{u:Jm}(r:RelV x u)(q:RelV y u):x=y:=Kw (r.abs.symm.trans q.abs)
def Vals.inj:∀ {xs ys:Jj V} {us:Jj Jm},Vals xs us->Vals ys us->xs=ys
 | _,_,_,.nil,.nil=>rfl
 | _,_,_,.cons r t,.cons r' t'=>by rw[r.inj r',Vals.inj t t']
section
variable{X:Cx}{J:Jj (Ju×La)}{Y:St}{H:Hp}{s:Jp}{a:Ju}{xs ys:Jj V}
def SqL.of {K:Jz}(h:H a=ba (.lst xs)):SqL K H a xs:=.inl (.inl h)
def SqT.of {K:Jz}(h:H a=ba (.tup xs)):SqT K H a xs:=.inl (.inl h)
def Inv.list (I:Inv X J Y H s)(h:SqL X.K H a xs):∃its:Jj Jm,Vals xs its/\PlainL s.heap a its.toArray/\xs.length<=sizeLine:=by
 rcases h with h|⟨o,its,n,hk,hc,hd,hs,hz,r⟩
 ·obtain⟨z,its,n,r,e⟩:=h.ok I.hok;exact#[its,r,#[_,n,e,rfl,rfl,rfl],z]
 ·show#[its.toList,r,#[o,n,I.kIn a o hk,hc,hd,by simpa using hs],?_]
  have e:=r.length;simp only[JQ]at e;omega
def Inv.tuple (I:Inv X J Y H s)(h:SqT X.K H a xs):∃its:Jj Jm,Vals xs its/\P8 s.heap a its.toArray/\xs.length<=sizeLine:=by
 rcases h with h|⟨o,its,n,hk,hc,hd,hs,hz,r⟩
 ·obtain⟨z,its,r,p⟩:=h.ok I.hok;exact#[its,r,p,z.1]
 ·show#[its.toList,r,#[o,I.kIn a o hk,hc,n,by simpa using hs],?_]
  have e:=r.length;simp only[JQ]at e;omega
def Inv.list_inj (I:Inv X J Y H s)(h:SqL X.K H a xs)(h':SqL X.K H a ys):xs=ys:=by
 obtain⟨its,r,⟨o,n,e,_,_,d⟩,_⟩:=I.list h;obtain⟨its',r',⟨o',n',e',_,_,d'⟩,_⟩:=I.list h';rw[e]at e'; cases e'
 rw[d]at d';injection d' with d1 _
 have:its=its':=by simpa using congrArg RX d1
 subst this;exact r.inj r'
def Inv.tuple_inj (I:Inv X J Y H s)(h:SqT X.K H a xs)(h':SqT X.K H a ys):xs=ys:=by
 obtain⟨its,r,⟨o,e,_,n,d⟩,_⟩:=I.tuple h;obtain⟨its',r',⟨o',e',_,n',d'⟩,_⟩:=I.tuple h';rw[e]at e'; cases e'
 rw[d]at d';injection d' with d1 _
 have:its=its':=by simpa using congrArg RX d1
 subst this;exact r.inj r'
end
noncomputable abbrev Cx.wish (X:Cx)(E:Jm->Jp->Prop):Cx:={ X with xe:=E }
noncomputable abbrev Cx.nox (X:Cx):Cx:=X.wish λ_ _=>KP
def Cx.Ok.wish {X:Cx}(ok:X.Ok)(E:Jm->Jp->Prop):(X.wish E).Ok:=
 #[ok.mod,ok.kind,ok.glob,ok.blt,ok.above,ok.inj,ok.has,ok.cab,ok.hd,ok.frames,ok.stk,ok.exf,ok.bs,ok.bsz,ok.noex,ok.exfs,ok.funs,ok.frf]
def Cx.Ok.unwish {X:Cx}{E:Jm->Jp->Prop}(ok:(X.wish E).Ok):X.Ok:=
 #[ok.mod,ok.kind,ok.glob,ok.blt,ok.above,ok.inj,ok.has,ok.cab,ok.hd,ok.frames,ok.stk,ok.exf,ok.bs,ok.bsz,ok.noex,ok.exfs,ok.funs,ok.frf]
section
variable{X:Cx}{J:Jj (Ju×La)}{Y:St}{H:Hp}{s:Jp}{E:Jm->Jp->Prop}
def Inv.wish (I:Inv X J Y H s)(E:Jm->Jp->Prop):Inv (X.wish E) J Y H s:=#[I.ok.wish E,I.os,I.bare,I.base,I.loc,I.cell,I.free,I.freeC,I.pin,I.hok,I.len]
def Inv.unwish (I:Inv (X.wish E) J Y H s):Inv X J Y H s:=#[I.ok.unwish,I.os,I.bare,I.base,I.loc,I.cell,I.free,I.freeC,I.pin,I.hok,I.len]
def SP.unwish {D:Ends}{f:Flow}{s':Jp}(h:SP (X.wish E) J D f s'):SP X J D f s':=by
 cases f with
 | next=>obtain⟨Y',H',I,q⟩:=h; exact#[Y',H',I.unwish,q]
 | brk=>obtain⟨Y',H',I,q⟩:=h; exact#[Y',H',I.unwish,q]
 | cont=>obtain⟨Y',H',I,q⟩:=h; exact#[Y',H',I.unwish,q]
 | ret u=>obtain⟨v,Y',H',I,r,q⟩:=h; exact#[v,Y',H',I.unwish,r,q]
def PSs.nox {st:Jj Mb}{t:TS}(h:PSs X.nox st t):PSs X st t:=λJ s Y H D I hw=>
 Ll (h J s Y H D (I.wish _) hw) (λ_ _ q=>q.unwish) λ_ _ z=>KP.elim z
end
section
variable{X:Cx}{st:Mb}{bI:Jj Mb}{t u:TS}{e:JR}{te:TE}{pos:LN}
abbrev vC:TS:=λD Y H=>D.nx Y H
abbrev Ho (t u:TS):TS:=λD Y H=>t { D with nx:=u D } Y H
def zC:PSs X [] vC:=λ_ _ Y H _ I h=>OI #[Y,H,I,h]
def vD (h1:PS X st t)(h2:PSs X bI u):PSs X (st::bI) (Ho t u):=by
 intro J s Y H D I h;show wpAny_execs_cons (a7 (h1 J s Y H { D with nx:=u D } I h) λf s1 q=>?_)
 cases f with
 | next=>
  obtain⟨Y',H',I',q⟩:=q;exact h2 J s1 Y' H' D I' q
 | ret v=>exact q
 | brk=>exact q
 | cont=>exact q
abbrev CN:TS:=λD Y H=>D.bk Y H
abbrev Fb:TS:=λD Y H=>D.ct Y H
def zD:PS X (.Pass pos) vC:=λ_ _ Y H _ I h=>wpAny_Pass #[Y,H,I,h]
def vE:PS X (.Break pos) CN:=λ_ _ Y H _ I h=>wpAny_Break #[Y,H,I,h]
def oF:PS X (.Continue pos) Fb:=λ_ _ Y H _ I h=>wpAny_Continue #[Y,H,I,h]
def Inv.quiet {J:Jj (Ju×La)}{Y:St}{H:Hp}{s:Jp}(I:Inv X J Y H s):interactive X.env=false:=by simp[interactive,I.ok.kind]
def CO {x j pos pos'}:PS X (.Expr (.Constant (.str x) j pos) pos') vC:=λ_ s Y H _ I h=>wpAny_Expr (PQ (show SP X _ _ .next { s with toks:=s.toks+1 } from#[Y,H,I.tok _,h])) I.quiet
abbrev Fc (te:TE):TS:=λD Y H=>te Y H λ_ H1=>D.nx Y H1
def zE (he:PE X e te)(hs:swapsWith e gV pos.line X.env=pure false:=by rfl):PS X (.Expr e pos) (Fc te):=by
 intro J s Y H D I h;exact wpAny_Expr_any (a7 (he J s Y H _ I h) λv s1 #[x,H1,I1,r1,q1]=>#[Y,H1,I1,q1]) I.quiet hs
abbrev Hq (te:TE):TS:=λD Y H=>te Y H D.rt
def CP (he:PE X e te):PS X (.Return (ba e) pos) (Hq te):=by
 intro J s Y H D I h;exact wpAny_Return_some (a7 (he J s Y H _ I h) λv s1 #[x,H1,I1,r1,q1]=>#[x,Y,H1,I1,r1,q1])
abbrev Fd:TS:=λD _ H=>D.rt .non H
def zF:PS X (.Return gV pos) Fd:=λ_ _ Y H _ I h=>wpAny_Return_none #[.non,Y,H,I,rfl,h]
abbrev Hr (c:TT)(t u:TS):TS:=λD Y H=>c Y H λb H1=>if b=true then t D Y H1 else u D Y H1
def Fe {c:JR}{a b:Jj Mb}{tc:TT}(hc:PT X c tc)(ha:PSs X a t)(hb:PSs X b u):PS X (.If c a b pos) (Hr tc t u):=by
 intro J s Y H D I h;show wpAny_If (a7 (hc J s Y H _ I h) λd s1 #[H1,I1,q1]=>?_)
 cases d with
 | true=>exact ha J s1 Y H1 D I1 q1
 | false=>exact hb J s1 Y H1 D I1 q1
end
noncomputable abbrev TG:=V->St->Hp->(St->Hp->Prop)->Prop
noncomputable abbrev CQ:=Jj V->St->Hp->(St->Hp->Prop)->Prop
abbrev PG (X:Cx)(target:JR)(t:TG):Prop:=
 ∀(J:Jj (Ju×La)) (s:Jp) (Y:St) (H:Hp) (v:V) (u:Jm) (Q:St->Hp->Prop),Inv X J Y H s->RelV v u->t v Y H Q->
  wpAny (model X.prog X.w) X.A (assign target X.env u) (λ_ s'=>∃Y' H',Inv X J Y' H' s'/\Q Y' H') X.xe s
abbrev Ff (X:Cx)(ts:Jj JR)(t:CQ):Prop:=
 ∀(J:Jj (Ju×La)) (s:Jp) (Y:St) (H:Hp) (vs:Jj V) (us:Jj Jm) (Q:St->Hp->Prop),Inv X J Y H s->Vals vs us->t vs Y H Q->
  wpAny (model X.prog X.w) X.A (assignInOrder ((assignEach ts X.env).map (·.2)) us) (λ_ s'=>∃Y' H',Inv X J Y' H' s'/\Q Y' H') X.xe s
noncomputable abbrev CS:=V->V->V->Hp->(Hp->Prop)->Prop
abbrev CT (X:Cx)(t:CS):Prop:=
 ∀(J:Jj (Ju×La)) (s:Jp) (Y:St) (H:Hp) (o i v:V) (ov iv u:Jm) (Q:Hp->Prop),Inv X J Y H s->RelV o ov->RelV i iv->RelV v u->t o i v H Q->
  wpAny (model X.prog X.w) X.A (setItem ov iv u) (λ_ s'=>∃H',Inv X J Y H' s'/\Q H') X.xe s
section
variable{X:Cx}{pos:LN}
abbrev Fg (i:Jr):TG:=λv Y H Q=>Q (Y.set i (ba v)) H
def rP {i:Jr}{x:JA}(hN:X.N.Nodup)(hi:X.N[i]?=ba x)(hx:zx X.env.scope x)(hf:X.fn x=true\/X.env.scope.names.lookup x=ba .local):PG X (.Name x pos) (Fg i):=by
 intro J s Y H v u Q I r h;exact Qa (ie I hN hi hx r (λs' I'=>#[_,H,I',h]) hf)
abbrev Hs:CQ:=λvs Y H Q=>vs=[]/\Q Y H
abbrev Fh (t:TG)(u:CQ):CQ:=λvs Y H Q=>∃v r,vs=v::r/\t v Y H λY' H'=>u r Y' H' Q
def zG:Ff X [] Hs:=by
 intro J s Y H vs us Q I r h;obtain⟨e,h⟩:=h;subst e;cases r;exact Qb #[Y,H,I,h]
def vF {e:JR}{es:Jj JR}{t:TG}{u:CQ}(h1:PG X e t)(h2:Ff X es u)
  (hs:(assignEach (e::es) X.env).map (·.2)=assign e X.env::(assignEach es X.env).map (·.2):=by rfl):Ff X (e::es) (Fh t u):=by
 intro J s Y H vs us Q I r h;obtain⟨v,vr,e1,h⟩:=h;subst e1;cases r with
 | cons r rr=>
  rw[hs];show NK (a7 (h1 J s Y H _ _ _ I r h) λ_ s1 #[Y1,H1,I1,q1]=>?_)
  exact h2 J s1 Y1 H1 _ _ Q I1 rr q1
abbrev Ht (K:Jz)(n:Jr)(t:CQ):TG:=λv Y H Q=>∃a xs,v=.ref a/\SqT K H a xs/\xs.length=n/\t xs Y H Q
def CU {es:Jj JR}{k:Jr}{t:CQ}{n:Jr}(hc:X.calm=true)(h:Ff X es t)
  (hn:(assignEach es X.env).length=n:=by rfl) (hst:(assignEach es X.env).findIdx? (·.1)=gV:=by rfl):PG X (.Tuple es k pos) (Ht X.K n t):=by
 intro J s Y H v u Q I r hw;obtain⟨a,xs,e1,hq,hl,hw⟩:=hw;subst e1;cases r;obtain⟨its,rv,ht,hz⟩:=I.tuple hq;show assign_Tuple_tuple (I.ok.hd hc) ht (by simp[hn,<- hl,rv.length]) hst λh' hx=>?_
 have I1:Inv X J Y H { s with heap:=h' }:=I.kept (t':=s.toks) λb o e=>hx b o (JX (JM e)) e
 exact h J _ Y H xs _ Q I1 (by simpa using rv) hw
abbrev Hu (to ti:TE)(t:CS):TG:=λv Y H Q=>to Y H λo H1=>ti Y H1 λi H2=>t o i v H2 λH3=>Q Y H3
def CV {o i:JR}{to ti:TE}{t:CS}(ho:PE X o to)(hi:PE X i ti)(hs:CT X t)
  (ha:∀v,assign (.Subscript o i pos) X.env v=(do
   let ov <- holding [v] (eval o X.env)
   let iv <- holding [v,ov] (eval i X.env)
   standAt pos
   holding [v,ov,iv] (setItem ov iv v)
   release [v,ov,iv] []):=by intro _; rfl):PG X (.Subscript o i pos) (Hu to ti t):=by
 intro J s Y H v u Q I r h;rw[ha];show Jk (KQ (a7 (ho J s Y H _ I h) λov s1 #[x,H1,I1,r1,q1]=>?_))
 show Jk (KQ (a7 (hi J s1 Y H1 _ I1 q1) λiv s2 #[y,H2,I2,r2,q2]=>?_))
 show Jk (Nr (Jk (KQ (a7 (hs J s2 Y H2 x y v ov iv u _ I2 r1 r2 r q2) λ_ s3 #[H3,I3,q3]=>?_))))
 exact wpAny_release #[Y,H3,I3,q3]
abbrev Hv (te:TE)(g:TG):TS:=λD Y H=>te Y H λx H1=>g x Y H1 D.nx
def CW {tg e:JR}{te:TE}{g:TG}(he:PE X e te)(hg:PG X tg g)(hs:swapsWithSole [tg] e pos.line X.env=pure false:=by rfl)(hw:swappedStores [tg] e X.env=pure gV:=by rfl)
  (h1:(assignEach [tg] X.env).map (·.2)=[assign tg X.env]:=by rfl):PS X (.Assign [tg] e pos) (Hv te g):=by
 intro J s Y H D I h;show wpAny_Assign_stores (a7 (he J s Y H _ I h) λv s1 #[x,H1,I1,r1,q1]=>?_) hs hw
 rw[h1];exact a7 (hg J s1 Y H1 x v _ I1 r1 q1) λ_ s2 q=>q
abbrev Hw (i j:Jr)(ta:TA):TS:=λD Y H=>ta Y H λvs H1=>∃v w,vs=[v,w]/\D.nx ((Y.set i (ba v)).set j (ba w)) H1
def CY {i j:Jr}{x y:JA}{a b:JR}{ta:TA}{px py pt:LN}{kt k2 pt2}(hc:X.calm=true)(hN:X.N.Nodup)(hi:X.N[i]?=ba x)(hj:X.N[j]?=ba y)(hij:i≠j)
  (hx:X.env.scope.names.lookup x=ba .local) (hy:X.env.scope.names.lookup y=ba .local) (ha:PA X [a,b] ta)
  (hw:swappedStores [.Tuple [.Name x px,.Name y py] kt pt] (.Tuple [a,b] k2 pt2) X.env=pure (ba [x,y]))
  (hs:swapsWithSole [.Tuple [.Name x px,.Name y py] kt pt] (.Tuple [a,b] k2 pt2) pos.line X.env=pure false:=by rfl) :
  PS X (.Assign [.Tuple [.Name x px,.Name y py] kt pt] (.Tuple [a,b] k2 pt2) pos) (Hw i j ta):=by
 intro J s Y H D I h;rw[exec_Assign_arm];show Jk (Nr ?_);rw[hs];show Jk (Jt ?_);rw[JZ #v[]]
 show Jk (Tuple_ (a7 (ha _ J s Y H _ I h) λus s1 #[vs,H1,I1,r1,q1]=>?_))
 obtain⟨v,w,e1,q1⟩:=q1;subst e1;obtain⟨u1,u2,rfl,rv,rw'⟩ : ∃u1 u2,us=[u1,u2]/\RelV v u1/\RelV w u2:=by
  cases r1 with
  | cons p q=>
   cases q with
   | cons p' q'=>
    cases q';exact#[_,_,rfl,p,p']
 show Ku ?_ (by change 2<=sizeLine; decide)
 have I2:Inv X J Y H1 { s1 with heap:=s1.heap.push { cls:=.type "tuple",data:=.seq [u1,u2].toArray } }:=I1.kept (t':=s1.toks) λb o e=>Jn _ e
 rw[hw];show Jk (Jt ?_);change wpAny (model X.prog X.w) X.A (do rule "assign.swapped-stores"; let items <- unpackItems (.ref s1.heap.objs.size) 2 gV; assignInOrder [λv=>bindName X.env y v,λv=>bindName X.env x v] items.reverse; pure SK) _ _ _
 show Jk (Nh (Jk (unpackItems_tuple (items:=[u1,u2].toArray) (I.ok.hd hc) (QA s1.heap _) λh' hx'=>?_)))
 have I3:=I2.kept (h':=h') (t':=s1.toks) λb o e=>hx' b o (JX (JM e)) e
 change wpAny _ _ (assignInOrder [λv=>bindName X.env y v,λv=>bindName X.env x v] [u2,u1] >>= λ_=>pure SK) _ _ _
 show Jk (NK (Rg (ie I3 hN hj (.inl hy) rw' (λs2 I4=>?_) (.inr hy))))
 show NK (Rg (ie I4 hN hi (.inl hx) rv (λs3 I5=>Qb (Jt ?_)) (.inr hx)))
 rw[List.set_comm _ _ (Ne.symm hij)]at I5;exact#[_,H1,I5,q1]
abbrev CZ (c:TT)(tb:TS):TS:=λD Y H=>∃W:Jr->St->Hp->Prop,(∃m,W m Y H)/\∀m Y H,W m Y H->
 c Y H λb H1=>if b=true then ∃N:St->Hp->Prop,(∀Y' H',N Y' H'->∃m',m' < m/\W m' Y' H')/\tb { D with nx:=N,ct:=N,bk:=D.nx } Y H1 else D.nx Y H1
def vG {c:JR}{body:Jj Mb}{tc:TT}{tb:TS}(hp:Pl (model X.prog X.w) X.A X.env X.xe)(hc:PT X c tc)(hb:PSs X body tb):PS X (.While c body [] pos) (CZ tc tb):=by
 intro J s Y H D I h;obtain⟨W,⟨m0,w0⟩,turn⟩:=h;show wpAny_While (codeAny_whileLoop (λn s'=>∃Y' H',Inv X J Y' H' s'/\W n Y' H') ?_ m0 #[Y,H,I,w0])
 rintro n s1 ⟨Y1,H1,I1,w1⟩;show L4 hp (a7 (hc J s1 Y1 H1 _ I1 (turn n Y1 H1 w1)) λb s2 #[H2,I2,q2]=>?_)
 cases b with
 | true=>
  obtain⟨N,hN,q2⟩:=q2;rw[JO rfl];show L4 hp (a7 (hb J s2 Y1 H2 _ I2 q2) λf s3 q3=>?_)
  cases f with
  | next=>
   obtain⟨Y3,H3,I3,n3⟩:=q3;obtain⟨m',hm,w3⟩:=hN Y3 H3 n3;exact#[m',hm,Y3,H3,I3,w3]
  | cont=>
   obtain⟨Y3,H3,I3,n3⟩:=q3;obtain⟨m',hm,w3⟩:=hN Y3 H3 n3;exact#[m',hm,Y3,H3,I3,w3]
  | brk=>exact q3
  | ret v=>exact q3
 | false=>
  rw[JZ JP];exact OI #[Y1,H2,I2,q2]
end
structure It where
 go:Jr->Hp->Prop
 yld:Jr->Hp->V->Hp->Prop
 stop:Jr->Hp->Prop
abbrev gW (X:Cx)(J:Jj (Ju×La))(H:Hp)(b:Ju):Prop:=
 H b=gV/\b≠X.env.locals/\b∉X.fs/\(b∈X.ex\/X.s₀.heap.objs.size<=b)/\(∀x c,X.env.cells.lookup x=ba c->c≠b)/\∀p∈X.pn++J,p.1≠b
def Inv.fpOk {X:Cx}{J:Jj (Ju×La)}{Y:St}{H H':Hp}{s:Jp}{b:Ju}(I:Inv X J Y H s)(hb:s.heap.objs.size<=b)(hn:H' b=gV):gW X J H' b:=by
 show#[hn,Li (J3 I.lt hb),I.nofs hb,.inr (J8 I.sz hb),λx c e z=>?_,λp hp z=>?_]
 ·obtain⟨v,q⟩:=I.cell x c e;exact absurd (J3 q.lt (by rw[z]; exact hb)) (K4 _)
 ·exact absurd (J3 (JM (I.pin p hp).1) (by rw[z]; exact hb)) (K4 _)
structure Turn (P:J2)(w:Kf)(K:Jz)(tg:JR)(td:It)(fp:Jj Ju)(it:Ju)(tn:Jr->Kn->Prop):Prop where
 mem:it∈fp
 obj:∀i h,tn i h->∀b∈fp,∃o,h.get? b=ba o/\∀v,o.data≠.cell v
 keep:∀i h h',tn i h->(∀b∈fp,∀o,h.get? b=ba o->h'.get? b=ba o)->tn i h'
 item:∀(X:Cx),X.prog=P->X.w=w->X.K=K->X.calm=true->∀(i:Jr) (J:Jj (Ju×La)) (s:Jp) (Y:St) (H:Hp) (E:Jm->Jp->Prop),Inv X J Y H s->(∀b∈fp,gW X J H b)->tn i s.heap->td.go i H->
  wpAny (model P w) X.A (pyNext (.ref it)) (λr s1=>∃u,r=ba u/\
   wpAny (model P w) X.A (letOwnedTupleGo tg (.ref it) u) (λ_ s2=>∃x H',Inv X J Y H' s2/\RelV x u/\td.yld i H x H'/\tn (i+1) s2.heap/\∀b∈fp,H' b=gV) E s1) E s
 done:∀(X:Cx),X.prog=P->X.w=w->X.K=K->X.calm=true->∀(i:Jr) (J:Jj (Ju×La)) (s:Jp) (Y:St) (H:Hp) (E:Jm->Jp->Prop),Inv X J Y H s->(∀b∈fp,gW X J H b)->tn i s.heap->td.stop i H->
  wpAny (model P w) X.A (pyNext (.ref it)) (λr s1=>r=gV/\Inv X J Y H s1) E s
 self:∀(A:Ke) (i:Jr) (s:Jp) (Q:Jm->Jp->Prop) (E:Jm->Jp->Prop),tn i s.heap->Q (.ref it) s->wpAny (model P w) A (pyIter (.ref it)) Q E s
noncomputable abbrev TI:=St->Hp->(It->Hp->Prop)->Prop
abbrev EV (X:Cx)(J:Jj (Ju×La))(Y:St)(tg:JR)(R:It->Hp->Prop)(itv:Jm)(s2:Jp):Prop:=
 ∃(it:Ju) (fp:Jj Ju) (tn:Jr->Kn->Prop) (td:It) (H':Hp),itv=.ref it/\Inv X J Y H' s2/\Turn X.prog X.w X.K tg td fp it tn/\tn 0 s2.heap/\(∀b∈fp,gW X J H' b)/\R td H'
abbrev PI (X:Cx)(tg iter:JR)(wi:TI):Prop:=
 ∀(J:Jj (Ju×La)) (s:Jp) (Y:St) (H:Hp) (R:It->Hp->Prop),Inv X J Y H s->wi Y H R->
  wpAny (model X.prog X.w) X.A (eval iter X.env) (λv s1=>wpAny (model X.prog X.w) X.A (pyIter v) (EV X J Y tg R) X.xe s1) X.xe s
def oG {tv:SD}{A:Ke}{E:Jm->Jp->Prop}{s:Jp}{tg:JR}{it:Ju}{u:Jm}{o:La}{n:KY}{vs:Ki Jm}{Q:Sr->Jp->Prop}(ho:s.heap.get? it=ba o)(hc:o.cls=.type n)(hd:o.data=.fields vs)
    (hn:["enumerate","zip","dict_itemiterator","dict_reverseitemiterator","odict_iterator","itertools.zip_longest","itertools.pairwise"].contains n=false) (hQ:Q () s):wpAny tv A (letOwnedTupleGo tg (.ref it) u) Q E s:=by
  unfold letOwnedTupleGo;cases tg <;> first
    | exact Jt hQ
    | (cases u <;> first
        | exact Jt hQ
        | (show Jk (PR ho ?_)
           rw[hc,hd];change wpAny tv A (if (["enumerate","zip","dict_itemiterator","dict_reverseitemiterator","odict_iterator","itertools.zip_longest","itertools.pairwise"].contains n&&vs[0]?==ba (rawInt _))=true then _ else _) Q E s
           rw[JZ (by intro h; rw[hn,Bool.false_and]at h; cases h)]
           exact Jt hQ))
abbrev Hx (K:Jz)(a:Ju):It:=
 #[λi H=>∃xs x,SqL K H a xs/\xs[i]?=ba x,λi H x H'=>H'=H/\∀xs,SqL K H a xs->xs[i]?=ba x,λi H=>∃xs,SqL K H a xs/\xs.length<=i]
abbrev EW (K:Jz)(a:Ju):It:=
 #[λi H=>∃xs x,SqT K H a xs/\xs[i]?=ba x,λi H x H'=>H'=H/\∀xs,SqT K H a xs->xs[i]?=ba x,λi H=>∃xs,SqT K H a xs/\xs.length<=i]
abbrev Fi (lo:JG)(n:Jr):It:=#[λi _=>i < n,λi H x H'=>H'=H/\x=.int (lo+i),λi _=>n<=i]
def tW {P:J2}{w:Kf}{K:Jz}{tg:JR}(a it:Ju):Turn P w K tg (Hx K a) [it] it (λi h=>h.IsListIter it a i) where
 mem:=by simp
 obj:=λi h st b hb=>by
  have e:b=it:=by simpa using hb
  subst e;obtain⟨o,e,c,d⟩:=st;exact#[o,e,λv z=>by rw[d]at z; cases z]
 keep:=λi h h' st k=>st.at λo e=>k it (by simp) o e
 item:=by
  intro X hP hw hK hc i J s Y H E I hf st hg;subst hP hw hK;obtain⟨xs,x,hq,hx⟩:=hg;obtain⟨its,rv,p,hz⟩:=I.list hq;obtain⟨u,hu,ru⟩:=rv.get hx;obtain⟨f0,f1,f2,f3,f4,f5⟩:=hf it (by simp)
  show wpAny_pyNext_list_item st p.isList (x:=u) (by simpa using hu) λh' st' sb=>?_
  have I1:Inv X J Y H { s with heap:=h' }:=I.turned (t':=s.toks) (λb o hb e=>(sb.2 b hb).trans e) f0 f1 f3 f4 f5
  obtain⟨o,e,c,d⟩:=id st';exact#[u,rfl,oG (s:={ s with heap:=h' }) e c d #v[] #[x,H,I1,ru,#[rfl,λys hy=>by rw[I.list_inj hy hq]; exact hx],st',λb hb=>(hf b hb).1]]
 done:=by
  intro X hP hw hK hc i J s Y H E I hf st hg;subst hP hw hK;obtain⟨xs,hq,hx⟩:=hg;obtain⟨its,rv,p,hz⟩:=I.list hq;obtain⟨f0,f1,f2,f3,f4,f5⟩:=hf it (by simp)
  have hl:=rv.length;exact wpAny_pyNext_list_end (I.ok.hd hc) st p.isList (by simp; omega) λh' eb=>#[rfl,I.turned (t':=s.toks) (λb o hb e=>eb b o hb e) f0 f1 f3 f4 f5]
 self:=λ_ _ _ _ _ st h=>wpAny_pyIter_listiter st h
def qD {P:J2}{w:Kf}{K:Jz}{tg:JR}(a it:Ju):Turn P w K tg (EW K a) [it] it (λi h=>h.IsTupleIter it a i) where
 mem:=by simp
 obj:=λi h st b hb=>by
  have e:b=it:=by simpa using hb
  subst e;obtain⟨o,e,c,d⟩:=st;exact#[o,e,λv z=>by rw[d]at z; cases z]
 keep:=λi h h' st k=>st.at λo e=>k it (by simp) o e
 item:=by
  intro X hP hw hK hc i J s Y H E I hf st hg;subst hP hw hK;obtain⟨xs,x,hq,hx⟩:=hg;obtain⟨its,rv,p,hz⟩:=I.tuple hq;obtain⟨u,hu,ru⟩:=rv.get hx;obtain⟨f0,f1,f2,f3,f4,f5⟩:=hf it (by simp)
  show wpAny_pyNext_tuple_item st (show s.heap.IsTuple a its.toArray from p) (x:=u) (by simpa using hu) λh' st' sb=>?_
  have I1:Inv X J Y H { s with heap:=h' }:=I.turned (t':=s.toks) (λb o hb e=>(sb.2 b hb).trans e) f0 f1 f3 f4 f5
  obtain⟨o,e,c,d⟩:=id st';exact#[u,rfl,oG (s:={ s with heap:=h' }) e c d #v[] #[x,H,I1,ru,#[rfl,λys hy=>by rw[I.tuple_inj hy hq]; exact hx],st',λb hb=>(hf b hb).1]]
 done:=by
  intro X hP hw hK hc i J s Y H E I hf st hg;subst hP hw hK;obtain⟨xs,hq,hx⟩:=hg;obtain⟨its,rv,p,hz⟩:=I.tuple hq;obtain⟨f0,f1,f2,f3,f4,f5⟩:=hf it (by simp)
  have hl:=rv.length;exact wpAny_pyNext_tuple_end (I.ok.hd hc) st (show s.heap.IsTuple a its.toArray from p) (by simp; omega) λh' eb=>#[rfl,I.turned (t':=s.toks) (λb o hb e=>eb b o hb e) f0 f1 f3 f4 f5]
 self:=λ_ _ _ _ _ st h=>wpAny_pyIter_tupleiter st h
def qE {P:J2}{w:Kf}{K:Jz}{tg:JR}(it:Ju)(lo:JG)(n:Jr):Turn P w K tg (Fi lo n) [it] it (λi h=>R6 h it (lo+(i:Jr)*1) ((n:JG) - (i:Jr)) 1) where
 mem:=by simp
 obj:=λi h st b hb=>by
  have e:b=it:=by simpa using hb
  subst e;exact#[_,st,λv z=>by
   have z':Data.fields _=Data.cell v:=z;cases z']
 keep:=λi h h' st k=>k it (by simp) _ st
 item:=by
  intro X hP hw hK hc i J s Y H E I hf st hg;subst hP hw hK;obtain⟨f0,f1,f2,f3,f4,f5⟩:=hf it (by simp)
  have W:=Walks.range (prog:=X.prog) (w:=X.w) (I.ok.hd hc) it lo 1 n;show W.item i s _ _ hg st λv h' tk hv st' kk=>?_
  obtain⟨t,rfl⟩:=hv;have I1:Inv X J Y H { s with heap:=h',toks:=tk }:=I.turned (λb o hb e=>kk b o (by simpa using hb) e) f0 f1 f3 f4 f5
  show#[_,rfl,oG (s:={ s with heap:=h',toks:=tk }) (n:="range_iterator") st' rfl rfl #v[] #[.int (lo+i),H,I1,#[t,?_],#[rfl,rfl],st',λb hb=>(hf b hb).1]]
  rw[Int.mul_one]
 done:=by
  intro X hP hw hK hc i J s Y H E I hf st hg;subst hP hw hK;obtain⟨f0,f1,f2,f3,f4,f5⟩:=hf it (by simp)
  exact wpAny_pyNext_range_end (I.ok.hd hc) st (by have:n<=i:=hg; omega) λh' eb=>#[rfl,I.turned (t':=s.toks) (λb o hb e=>eb b o hb e) f0 f1 f3 f4 f5]
 self:=λ_ _ _ _ _ st h=>wpAny_pyIter_rangeiter st h
section
variable{X:Cx}{tg:JR}
def oH {J:Jj (Ju×La)}{Y:St}{H:Hp}{s:Jp}{R:It->Hp->Prop}{E:Jm->Jp->Prop}{lo hi:JG}{t u v:SL}{tk:Jr}(I:Inv X J Y H s)(h1 : -(2 ^ 62)<=lo)(h2:lo < 2 ^ 62)(h3 : -(2 ^ 62)<=hi)(h4:hi < 2 ^ 62)
  (q:R (Fi lo (hi - lo).toNat) H):wpAny (model X.prog X.w) X.A (pyIter (.ref s.heap.objs.size)) (EV X J Y tg R) E { s with heap:=s.heap.push { cls:=.type "range",data:=.fields [.int lo t,.int hi u,.int 1 v].toArray },toks:=tk }:=by
 show wpAny_pyIter_range (IsRange.new ..) (RS h1 h2 h3 h4) ?_;have I1:Inv X J Y H { s with heap:=s.heap.push { cls:=.type "range",data:=.fields [.int lo t,.int hi u,.int 1 v].toArray },toks:=tk }:=I.kept λb o e=>Jn _ e
 show#[(s.heap.push { cls:=.type "range",data:=.fields [.int lo t,.int hi u,.int 1 v].toArray }).objs.size,[(s.heap.push { cls:=.type "range",data:=.fields [.int lo t,.int hi u,.int 1 v].toArray }).objs.size],_,_,H,rfl,
  I1.kept (t':=tk) λb o e=>Jn _ e,qE _ lo (hi - lo).toNat,?_,λb hb=>?_,q]
 ·have e1:lo+((0:Jr):JG)*1=lo:=by simp
  have e2:(((hi - lo).toNat:Jr):JG) - ((0:Jr):JG)=Lm lo hi 1:=by rw[Py]; split <;> omega
  change R6 _ _ (lo+((0:Jr):JG)*1) ((((hi - lo).toNat:Jr):JG) - ((0:Jr):JG)) 1;rw[e1,e2];exact JF _ rfl
 ·have e:b=(s.heap.push { cls:=.type "range",data:=.fields [.int lo t,.int hi u,.int 1 v].toArray }).objs.size:=by simpa using hb
  subst e;exact I1.fpOk (Jy _) (I1.hok.fresh (Jy _))
abbrev Fj (ta:TA):TI:=λY H R=>ta Y H λvs H1=>∃j:JG,vs=[.int j]/\-(2 ^ 62)<=j/\j < 2 ^ 62/\R (Fi 0 j.toNat) H1
abbrev iRng2 (ta:TA):TI:=λY H R=>ta Y H λvs H1=>∃i j:JG,vs=[.int i,.int j]/\(-(2 ^ 62)<=i/\i < 2 ^ 62/\-(2 ^ 62)<=j/\j < 2 ^ 62)/\R (Fi i (j - i).toNat) H1
def tX {a:JR}{ta:TA}{p pos:LN}(hg:Gl X "range")(hm:X.mg "range" = gV)(ha:PA X [a] ta)(hs:starEach [a] X.env=[(false,eval a X.env)]:=by rfl):PI X tg (.Call (.Name "range" p) [a] [] pos) (Fj ta):=by
 intro J s Y H R I h;show SE (fO I hg hm boot_range (K9 (a7 (ha pos J s Y H _ I h) λus s1 #[vs,H1,I1,r1,q1]=>?_) hs rfl))
 obtain⟨j,e,q1,q2,q⟩:=q1;subst e;cases r1 with
 | cons r rr=>
  cases rr;obtain⟨t,rfl⟩:=r;exact RY (oH I1 ∅ ∅ q1 q2 (by simpa using q))
def tY {a b:JR}{ta:TA}{p pos:LN}(hg:Gl X "range")(hm:X.mg "range" = gV)(ha:PA X [a,b] ta)(hs:starEach [a,b] X.env=[(false,eval a X.env),(false,eval b X.env)]:=by rfl)(hs2:starEach [b] X.env=[(false,eval b X.env)]:=by rfl) :
  PI X tg (.Call (.Name "range" p) [a,b] [] pos) (iRng2 ta):=by
 intro J s Y H R I h;show SE (fO I hg hm boot_range (K9 (a7 (ha pos J s Y H _ I h) λus s1 #[vs,H1,I1,r1,q1]=>?_) (by rw[hs,hs2]) (by rw[hs2]; rfl)))
 obtain⟨i,j,e,⟨q1,q2,q3,q4⟩,q⟩:=q1;subst e;cases r1 with
 | cons r rr=>
  cases rr with
  | cons r' rr=>
   cases rr;obtain⟨t,rfl⟩:=r;obtain⟨t',rfl⟩:=r';exact call_range_2 (oH I1 q1 q2 q3 q4 q)
abbrev Hy (wi:TI)(g:TG)(tb:TS):TS:=λD Y H=>wi Y H λtd H1=>∃W:Jr->Jr->St->Hp->Prop,(∃m,W 0 m Y H1)/\∀i m Y H,W i m Y H->
 (td.stop i H/\D.nx Y H)\/(td.go i H/\∃N:St->Hp->Prop,(∀Y' H',N Y' H'->∃m',m' < m/\W (i+1) m' Y' H')/\∀x H',td.yld i H x H'->g x Y H' λY2 H2=>tb { D with nx:=N,ct:=N,bk:=D.nx } Y2 H2)
abbrev i7 (fp:Jj Ju)(h:Kn):Jj (Ju×La):=fp.filterMap λb=>(h.get? b).map λo=>(b,o)
def eV {fp:Jj Ju}{h:Kn}{b:Ju}{o:La}(hb:b∈fp)(e:h.get? b=ba o):(b,o)∈i7 fp h:=PU.mpr #[b,hb,by rw[e]; rfl]
def tZ {fp:Jj Ju}{h:Kn}{p:Ju×La}(hp:p∈i7 fp h):p.1∈fp/\h.get? p.1=ba p.2:=by
 obtain⟨b,hb,e⟩:=PU.mp hp;cases q:h.get? b with
 | none=>rw[q]at e; cases e
 | some o=>
  rw[q]at e;have e':(b,o)=p:=Kw e;subst e';exact#[hb,q]
def Inv.pinned {J:Jj (Ju×La)}{Y:St}{H:Hp}{s:Jp}{fp:Jj Ju}(I:Inv X J Y H s)(hf:∀b∈fp,gW X J H b)(ho:∀b∈fp,∃o,s.heap.get? b=ba o/\∀v,o.data≠.cell v):Inv X (J++i7 fp s.heap) Y H s:=
 I.pins_of λp hp=>(Kj.mp hp).elim (λz=>I.pin p (JY _ z)) λz=>by
  obtain⟨hb,e⟩:=tZ z;obtain⟨f0,f1,f2,_⟩:=hf p.1 hb;obtain⟨o,e',d⟩:=ho p.1 hb;rw[e]at e'; cases e'
  exact#[e,f0,f1,f2,d]
def Inv.unpinned {J pl:Jj (Ju×La)}{Y:St}{H:Hp}{s:Jp}(I:Inv X (J++pl) Y H s):Inv X J Y H s:=I.pins_of λp hp=>I.pin p (JY _ (Ky _ hp))
def C0 {iter:JR}{body:Jj Mb}{wi:TI}{g:TG}{tb:TS}{pos:LN}(hp:Pl (model X.prog X.w) X.A X.env X.xe)(hc:X.calm=true)(hi:PI X tg iter wi)(hg:PG X tg g)(hb:PSs X body tb)
  (hs:∀x,foldedSetIterable iter X.env x=pure x:=by intro _; rfl):PS X (.For tg iter body [] pos) (Hy wi g tb):=by
 intro J s Y H D I h;show wpAny_For (a7 (hi J s Y H _ I h) λv s1 h1=>a7 h1 λitv s2 h2=>?_) hs
 obtain⟨it,fp,tn,td,H2,e,I2,T,aA,f2,W,⟨m0,w0⟩,turn⟩:=h2;subst e;have stat:∀ {H':Hp},(∀b∈fp,H' b=gV)->∀b∈fp,gW X J H' b:=λhn b hb=>#[hn b hb,(f2 b hb).2]
 show codeAny_forLoop_any (λn s'=>∃i Y' H',Inv X J Y' H' s'/\tn i s'.heap/\(∀b∈fp,H' b=gV)/\W i n Y' H') ?_ m0 #[0,Y,H2,I2,aA,λb hb=>(f2 b hb).1,w0]
 rintro n s3 ⟨i,Y3,H3,I3,st3,fr3,w3⟩;rcases turn i n Y3 H3 w3 with⟨stop,qn⟩|⟨go,N,hN,step⟩
 ·show L4 hp (a7 (T.done X rfl rfl rfl hc i J s3 Y3 H3 X.xe I3 (stat fr3) st3 stop) λr s4 #[hr,I4]=>?_)
  subst hr;exact OI #[Y3,H3,I4,qn]
 ·show L4 hp (a7 (T.item X rfl rfl rfl hc i J s3 Y3 H3 X.xe I3 (stat fr3) st3 go) λr s4 #[u,hr,h4]=>?_)
  subst hr;show L4 hp (a7 h4 λ_ s5 #[x,H5,I5,r5,y5,st5,fr5]=>?_)
  have I5':=I5.pinned (stat fr5) (T.obj _ _ st5);show L4 hp (a7 (hg _ s5 Y3 H5 x u _ I5' r5 (step x H5 y5)) λ_ s6 #[Y6,H6,I6,q6]=>?_)
  show L4 hp (a7 (hb _ s6 Y6 H6 _ I6 q6) λf s7 q7=>?_)
  have again:∀ {Y7:St} {H7:Hp},Inv X (J++i7 fp s5.heap) Y7 H7 s7->N Y7 H7->∃m,m < n/\∃i Y' H',Inv X J Y' H' s7/\tn i s7.heap/\(∀b∈fp,H' b=gV)/\W i m Y' H':=λ{Y7 H7} I7 n7=>by
   obtain⟨m',hm,w7⟩:=hN Y7 H7 n7;show#[m',hm,i+1,Y7,H7,I7.unpinned,T.keep _ _ _ st5 λb hb o e=>(I7.pin (b,o) (JY _ (JY _ (eV hb e)))).1,λb hb=>?_,w7]
   obtain⟨o,e,d⟩:=T.obj _ _ st5 b hb;exact(I7.pin (b,o) (JY _ (JY _ (eV hb e)))).2.1
  cases f with
  | next=>obtain⟨Y7,H7,I7,n7⟩:=q7; exact again I7 n7
  | cont=>obtain⟨Y7,H7,I7,n7⟩:=q7; exact again I7 n7
  | brk=>obtain⟨Y7,H7,I7,q7⟩:=q7; exact#[Y7,H7,I7.unpinned,q7]
  | ret v=>obtain⟨x7,Y7,H7,I7,r7,q7⟩:=q7; exact#[x7,Y7,H7,I7.unpinned,r7,q7]
end
def for_tup {K:Jz}{a:Ju}{xs:Jj V}{g:TG}{tb:TS}{D:Ends}{Y:St}{H:Hp}(Pv:Jr->St->Hp->Prop)(h0:Pv 0 Y H)(hl:∀i Y H,i<=xs.length->Pv i Y H->SqT K H a xs)
  (hs:∀i x Y H,xs[i]?=ba x->Pv i Y H->g x Y H λY2 H2=>tb { D with nx:=Pv (i+1),ct:=Pv (i+1),bk:=D.nx } Y2 H2) (hd:∀Y H,Pv xs.length Y H->D.nx Y H) :
  ∃W:Jr->Jr->St->Hp->Prop,(∃m,W 0 m Y H)/\∀i m Y H,W i m Y H->
   ((EW K a).stop i H/\D.nx Y H)\/((EW K a).go i H/\∃N:St->Hp->Prop,(∀Y' H',N Y' H'->∃m',m' < m/\W (i+1) m' Y' H')/\∀x H',(EW K a).yld i H x H'->g x Y H' λY2 H2=>tb { D with nx:=N,ct:=N,bk:=D.nx } Y2 H2):=by
 show#[λi m Y H=>m=xs.length - i/\i<=xs.length/\Pv i Y H,#[xs.length,by simp,KW _,h0],?_]
 rintro i m Y H ⟨rfl,hi,p⟩;have q:=hl i Y H hi p
 by_cases hlt:i < xs.length
 ·show .inr #[#[xs,xs[i],q,by simp[hlt]],Pv (i+1),λY' H' p'=>#[xs.length - (i+1),∅,rfl,hlt,p'],λx H' y=>?_]
  obtain⟨e,y⟩:=y;subst e;exact hs i x Y _ (y xs q) p
 ·have e:i=xs.length:=∅
  subst e;exact .inl #[#[xs,q,Jy _],hd Y H p]
noncomputable abbrev R2:=V->V->Hp->VK->Prop
abbrev OpR (X:Cx)(f:Jm->Jm->R3 Jm)(r:R2):Prop:=
 ∀(J:Jj (Ju×La)) (s:Jp) (Y:St) (H:Hp) (x y:V) (v u:Jm) (Q:VK),Inv X J Y H s->RelV x v->RelV y u->r x y H Q->
  wpAny (model X.prog X.w) X.A (f v u) (EP X J Y Q) X.xe s
abbrev Hz (X:Cx)(f:Jm->R3 Jm)(r:V->Hp->VK->Prop):Prop:=
 ∀(J:Jj (Ju×La)) (s:Jp) (Y:St) (H:Hp) (x:V) (v:Jm) (Q:VK),Inv X J Y H s->RelV x v->r x H Q->
  wpAny (model X.prog X.w) X.A (f v) (EP X J Y Q) X.xe s
abbrev CallR (X:Cx)(f:Jm)(r:Jj V->Hp->VK->Prop):Prop:=
 ∀(J:Jj (Ju×La)) (s:Jp) (Y:St) (H:Hp) (xs:Jj V) (us:Jj Jm) (Q:VK),Inv X J Y H s->Vals xs us->r xs H Q->
  wpAny (model X.prog X.w) X.A (call f us) (EP X J Y Q) X.xe s
abbrev HA (X:Cx)(r:V->Hp->(J1->Hp->Prop)->Prop):Prop:=
 ∀(J:Jj (Ju×La)) (s:Jp) (Y:St) (H:Hp) (x:V) (v:Jm) (Q:J1->Hp->Prop),Inv X J Y H s->RelV x v->r x H Q->
  wpAny (model X.prog X.w) X.A (truthy v) (TP X J Y Q) X.xe s
abbrev He (r:R2)(ta tb:TE):TE:=λY H Q=>ta Y H λx H1=>tb Y H1 λy H2=>r x y H2 Q
abbrev IX (r:V->Hp->VK->Prop)(ta:TE):TE:=λY H Q=>ta Y H λx H1=>r x H1 Q
abbrev rI (C:JG->JG->Prop)(g:JG->JG->V):R2:=λx y H Q=>∃i j,x=.int i/\y=.int j/\C i j/\Q (g i j) H
abbrev BZ (g:JG->JG->V):R2:=λx y H Q=>∃i j,x=.int i/\y=.int j/\Q (g i j) H
abbrev rU (g:JG->V):V->Hp->VK->Prop:=λx H Q=>∃i,x=.int i/\Q (g i) H
section
variable{X:Cx}{a b c:JR}{ta tb tc:TE}{pos:LN}
def C3 (ha:PE X a ta)(hb:PE X b tb){J:Jj (Ju×La)}{s:Jp}{Y:St}{H:Hp}{R:V->V->Hp->Prop}(I:Inv X J Y H s)
  (h:ta Y H λx H1=>tb Y H1 λy H2=>R x y H2) {Q:Jm->Jp->Prop} {f:Jm->Jm->R3 Jm}
  (hf:∀v u s2 x y H2,Inv X J Y H2 s2->RelV x v->RelV y u->R x y H2->wpAny (model X.prog X.w) X.A (f v u) Q X.xe s2) :
  wpAny (model X.prog X.w) X.A (eval a X.env) (λv s₁=>wpAny (model X.prog X.w) X.A (eval b X.env) (λu s₂=>wpAny (model X.prog X.w) X.A (f v u) Q X.xe s₂) X.xe s₁) X.xe s:=by
 show a7 (ha J s Y H _ I h) λv s1 #[x,H1,I1,r1,q1]=>?_
 show a7 (hb J s1 Y H1 _ I1 q1) λu s2 #[y,H2,I2,r2,q2]=>?_
 exact hf v u s2 x y H2 I2 r1 r2 q2
def Fk {op:Qc}{r:R2}(ho:OpR X (binaryOp op) r)(ha:PE X a ta)(hb:PE X b tb):PE X (.BinOp a op b pos) (He r ta tb):=by
 intro J s Y H Q I h;exact wpAny_BinOp (C3 ha hb I h λv u s2 x y H2 I2 rx ry q=>ho J s2 Y H2 x y v u Q I2 rx ry q)
def Fn {op:UnaryOp}{r:V->Hp->VK->Prop}(ho:Hz X (unaryOp op) r)(ha:PE X a ta):PE X (.UnaryOp op a pos) (IX r ta):=by
 intro J s Y H Q I h;exact UnaryOp_ (a7 (ha J s Y H _ I h) λv s1 #[x,H1,I1,r1,q1]=>ho J s1 Y H1 x v Q I1 r1 q1)
def Hf {f:Jm->Jm->R3 Jm}{C:JG->JG->Prop}{g:JG->JG->JG}
  (rule:∀(i j:JG) (t u:SL) (s:Jp) (Q:Jm->Jp->Prop) (E:Jm->Jp->Prop),C i j->Q (.int (g i j) s.toks) { s with toks:=s.toks+1 }->wpAny (model X.prog X.w) X.A (f (.int i t) (.int j u)) Q E s) :
  OpR X f (rI C λi j=>.int (g i j)):=by
 intro J s Y H x y v u Q I rx ry h;obtain⟨i,j,rfl,rfl,hc,q⟩:=h;obtain⟨t,rfl⟩:=rx;obtain⟨t',rfl⟩:=ry;exact rule i j t t' s _ _ hc #[.int (g i j),H,I.tok _,#[_,rfl],q]
def Fo {f:Jm->Jm->R3 Jm}{g:JG->JG->JG}
  (rule:∀(i j:JG) (t u:SL) (s:Jp) (Q:Jm->Jp->Prop) (E:Jm->Jp->Prop),Q (.int (g i j) s.toks) { s with toks:=s.toks+1 }->wpAny (model X.prog X.w) X.A (f (.int i t) (.int j u)) Q E s) :
  OpR X f (BZ λi j=>.int (g i j)):=by
 intro J s Y H x y v u Q I rx ry h;obtain⟨i,j,rfl,rfl,q⟩:=h;obtain⟨t,rfl⟩:=rx;obtain⟨t',rfl⟩:=ry;exact rule i j t t' s _ _ #[.int (g i j),H,I.tok _,#[_,rfl],q]
def zH {f:Jm->Jm->R3 Jm}{g:JG->JG->J1}
  (rule:∀(i j:JG) (t u:SL) (s:Jp) (Q:Jm->Jp->Prop) (E:Jm->Jp->Prop),Q (.bool (g i j)) s->wpAny (model X.prog X.w) X.A (f (.int i t) (.int j u)) Q E s) :
  OpR X f (BZ λi j=>.bl (g i j)):=by
 intro J s Y H x y v u Q I rx ry h;obtain⟨i,j,rfl,rfl,q⟩:=h;obtain⟨t,rfl⟩:=rx;obtain⟨t',rfl⟩:=ry;exact rule i j t t' s _ _ #[.bl (g i j),H,I,rfl,q]
abbrev HB (i j:JG):Prop:=0 < j/\j < 1073741824
abbrev HC (i j:JG):Prop:=0<=j/\j<=1000000/\i.natAbs < 2 ^ 64
abbrev CMul (i j:JG):Prop:=(-(2 ^ 64) < i/\i < 2 ^ 64)\/(-(2 ^ 64) < j/\j < 2 ^ 64)
def CMul.ok {i j:JG}(h:CMul i j):IntMulOk i j:=by
 rcases h with⟨h1,h2⟩|⟨h1,h2⟩
 ·exact .of_left (RA h1 h2)
 ·exact .of_right (RA h1 h2)
def C4:OpR X (binaryOp .Add) (BZ λi j=>.int (i+j)):=Fo λ_ _ _ _ _ _ _ q=>add_int q
def C5:OpR X (binaryOp .Sub) (BZ λi j=>.int (i - j)):=Fo λ_ _ _ _ _ _ _ q=>sub_int q
def C6:OpR X (binaryOp .Mult) (rI CMul λi j=>.int (i*j)):=Hf λ_ _ _ _ _ _ _ hc q=>mul_int q hc.ok
def zI:OpR X (binaryOp .FloorDiv) (rI HB λi j=>.int (i / j)):=Hf λi j _ _ _ _ _ hc q=>by
 have h1:(0:JG) < j:=hc.1;have h2:j < 1073741824:=hc.2;exact floordiv_int ∅ (by rw[Int.fdiv_eq_ediv_of_nonneg i ∅]; exact q) (.inl (PyProof.noPylong_small ∅))
def C7:OpR X (binaryOp .Mod) (rI (λ_ j=>0 < j) λi j=>.int (i % j)):=Hf λi j _ _ _ _ _ hc q=>by
 have h1:(0:JG) < j:=hc;exact mod_int' ∅ (by rw[Int.fmod_eq_emod_of_nonneg i ∅]; exact q)
def C8:OpR X (binaryOp .Pow) (rI HC λi j=>.int (i ^ j.toNat)):=Hf λ_ _ _ _ _ _ _ hc q=>pow_int_small hc.1 hc.2.1 hc.2.2 q
def IY {f:Jm->R3 Jm}{g:JG->JG}
  (rule:∀(i:JG) (t:SL) (s:Jp) (Q:Jm->Jp->Prop) (E:Jm->Jp->Prop),Q (.int (g i) s.toks) { s with toks:=s.toks+1 }->wpAny (model X.prog X.w) X.A (f (.int i t)) Q E s) :
  Hz X f (rU λi=>.int (g i)):=by
 intro J s Y H x v Q I rx h;obtain⟨i,rfl,q⟩:=h;obtain⟨t,rfl⟩:=rx;exact rule i t s _ _ #[.int (g i),H,I.tok _,#[_,rfl],q]
def C9:Hz X (unaryOp .USub) (rU λi=>.int (-i)):=IY λ_ _ _ _ _ q=>neg_int q
def qF {J:Jj (Ju×La)}{Y:St}{H:Hp}{s:Jp}{Q:VK}{k k':J1}(I:Inv X J Y H s)(q:Q (.bl k) H)(e:k=k'):EP X J Y Q (.bool k') s:=by
 subst e;exact#[.bl k,H,I,rfl,q]
def Fp:OpR X (compareOp .Lt) (BZ λi j=>.bl (decide (i < j))):=zH λ_ _ _ _ _ _ _ q=>lt_int q
def Fq:OpR X (compareOp .LtE) (BZ λi j=>.bl (decide (i<=j))):=zH λ_ _ _ _ _ _ _ q=>le_int q
def Fs:OpR X (compareOp .Gt) (BZ λi j=>.bl (decide (j < i))):=zH λ_ _ _ _ _ _ _ q=>gt_int q
def Ft:OpR X (compareOp .GtE) (BZ λi j=>.bl (decide (j<=i))):=zH λ_ _ _ _ _ _ _ q=>ge_int q
def t4:OpR X (compareOp .In) (λx y H Q=>∃i j,x=.str i/\y=.str j/\Q (.bl (!(LI j i 0 j.length 1).isEmpty)) H):=by
 intro J s Y H x y v u Q I rx ry h;obtain⟨i,j,rfl,rfl,q⟩:=h;obtain⟨t,rfl⟩:=rx;obtain⟨t',rfl⟩:=ry;exact in_str (qF I q rfl)
def Da:OpR X (compareOp .Is) (λx y H Q=>y=.non/\Q (.bl (decide (x=.non))) H):=by
 intro J s Y H x y v u Q I rx ry h;obtain⟨rfl,q⟩:=h;cases ry;show is_none_gen (qF I q ?_);cases x <;> first
  | (cases rx; rfl)
  | (obtain⟨t,rfl⟩:=rx; rfl)
def zJ:OpR X (compareOp .IsNot) (λx y H Q=>y=.non/\Q (.bl (!decide (x=.non))) H):=by
 intro J s Y H x y v u Q I rx ry h;obtain⟨rfl,q⟩:=h;cases ry;show isnot_none_gen (qF I q ?_);cases x <;> first
  | (cases rx; rfl)
  | (obtain⟨t,rfl⟩:=rx; rfl)
def zK {op:QU}{r:R2}(ho:OpR X (compareOp op) r)(ha:PE X a ta)(hb:PE X b tb)(hm:behindInMarks op b=false):PE X (.Compare a [op] [b] pos) (He r ta tb):=by
 intro J s Y H Q I h;exact wpAny_Compare1 (C3 ha hb I h λv u s2 x y H2 I2 rx ry q=>ho J s2 Y H2 x y v u Q I2 rx ry q) hm
abbrev B0 (t:TE):TT:=λY H Q=>t Y H λx H'=>∃k,x=.bl k/\Q k H'
def zL {op:QU}{r:R2}(ho:OpR X (compareOp op) r)(ha:PE X a ta)(hb:PE X b tb)(hm:behindInMarks op b=false):PT X (.Compare a [op] [b] pos) (B0 (He r ta tb)):=by
 intro J s Y H Q I h;show wpAny_isTrue_Compare1 (a7 (ha J s Y H _ I h) λv s1 #[x,H1,I1,r1,q1]=>a7 (hb J s1 Y H1 _ I1 q1) λu s2 #[y,H2,I2,r2,q2]=>
  a7 (ho J s2 Y H2 x y v u _ I2 r1 r2 q2) λc s3 #[z,H3,I3,r3,k,e,q3]=>?_) hm
 subst e;cases r3;exact K8 #[H3,I3,q3]
abbrev qG (r r':R2)(ta tb tc:TE):TE:=λY H Q=>ta Y H λx H1=>tb Y H1 λy H2=>r x y H2 λz H3=>∃k,z=.bl k/\
 (if k=true then tc Y H3 λw' H4=>r' y w' H4 Q else Q (.bl false) H3)
def vH {op op':QU}{r r':R2}(ho:OpR X (compareOp op) r)(ho':OpR X (compareOp op') r')(ha:PE X a ta)(hb:PE X b tb)(hc:PE X c tc)
  (hm:lastMarks [op,op'] [b,c]=false:=by with_unfolding_all rfl):PE X (.Compare a [op,op'] [b,c] pos) (qG r r' ta tb tc):=by
 intro J s Y H Q I h;show Compare_chain (a7 (ha J s Y H _ I h) λv s1 #[x,H1,I1,r1,q1]=>chain_link (a7 (hb J s1 Y H1 _ I1 q1) λu s2 #[y,H2,I2,r2,q2]=>
  a7 (ho J s2 Y H2 x y v u _ I2 r1 r2 q2) λd s3 #[z,H3,I3,r3,k,e,q3]=>?_)) hm
 subst e;cases r3;show K8 ?_;cases k with
 | false=>exact ite_ff #[.bl false,H3,I3,rfl,q3]
 | true=>exact ite_tt (chain_last (a7 (hc J s3 Y H3 _ I3 q3) λw' s4 #[z',H4,I4,r4,q4]=>ho' J s4 Y H4 y z' u w' Q I4 r2 r4 q4))
def vI {op op':QU}{r r':R2}(ho:OpR X (compareOp op) r)(ho':OpR X (compareOp op') r')(ha:PE X a ta)(hb:PE X b tb)(hc:PE X c tc)
  (hm:lastMarks [op,op'] [b,c]=false:=by with_unfolding_all rfl):PT X (.Compare a [op,op'] [b,c] pos) (B0 (qG r r' ta tb tc)):=by
 intro J s Y H Q I h;show isTrue_chain (a7 (ha J s Y H _ I h) λv s1 #[x,H1,I1,r1,q1]=>test_link (a7 (hb J s1 Y H1 _ I1 q1) λu s2 #[y,H2,I2,r2,q2]=>
  a7 (ho J s2 Y H2 x y v u _ I2 r1 r2 q2) λd s3 #[z,H3,I3,r3,k,e,q3]=>?_)) hm
 subst e;cases r3;show K8 ?_;cases k with
 | false=>
  obtain⟨k',e',q'⟩:=q3;cases e';exact ite_ff #[H3,I3,q']
 | true=>
  show ite_tt (test_last (a7 (hc J s3 Y H3 _ I3 q3) λw' s4 #[z',H4,I4,r4,q4]=>a7 (ho' J s4 Y H4 y z' u w' _ I4 r2 r4 q4) λd' s5 #[z2,H5,I5,r5,k2,e2,q5]=>?_))
  subst e2;cases r5;exact K8 #[H5,I5,q5]
abbrev HD (K:Jz)(x:V)(H:Hp)(k:J1):Prop:=
 match x with
 | .non=>k=false
 | .bl b=>k=b
 | .int i=>k=(i != 0)
 | .str y=>y.length<=sizeLine/\k=((y.length:JG) != 0)
 | .byt y=>y.size<=sizeLine/\k=((y.size:JG) != 0)
 | .ref p=>(∃xs,SqL K H p xs/\k = !xs.isEmpty)\/(∃xs,SqT K H p xs/\k = !xs.isEmpty)\/∃U,H p=ba (.dK U)/\k = !U.isEmpty
 | _=>KP
def qH {κ:Type}{U:Jj (κ×V)}{vs:Jj (κ×Jm)}(r:KV U vs):(!vs.isEmpty) = !U.isEmpty:=by
 cases r <;> rfl
def jX {xs:Jj V}{its:Jj Jm}(r:Vals xs its):(!its.toArray.isEmpty) = !xs.isEmpty:=by
 cases r <;> simp
def i8:(sizeLine:Jr) < 2 ^ 63:=by rw[Kq]; decide
def Db:HA X (λx H Q=>∃k,HD X.K x H k/\Q k H):=by
 intro J s Y H x v Q I rx h;obtain⟨k,e,q⟩:=h;have hl:=i8;have hs:sizeLine=16777216:=Kq;cases x with
 | non=>
  cases rx;have e':k=false:=e;subst e';exact truthy_none #[H,I,q]
 | bl b=>
  cases rx;have e':k=b:=e;subst e';exact K8 #[H,I,q]
 | int i=>
  obtain⟨t,rfl⟩:=rx;have e':k=(i != 0):=e;subst e';exact PySem.P.truthy_int #[H,I,q]
 | str y=>
  obtain⟨t,rfl⟩:=rx;obtain⟨hy,e'⟩ : y.length<=sizeLine/\k=((y.length:JG) != 0):=e;subst e';exact PySem.P.truthy_str ∅ #[H,I.tok _,q]
 | byt y=>
  obtain⟨t,rfl⟩:=rx;obtain⟨hy,e'⟩ : y.size<=sizeLine/\k=((y.size:JG) != 0):=e;subst e';exact PySem.W.truthy_bytes ∅ #[H,I.tok _,q]
 | ref p=>
  cases rx;have e':(∃xs,SqL X.K H p xs/\k = !xs.isEmpty)\/(∃xs,SqT X.K H p xs/\k = !xs.isEmpty)\/∃U,H p=ba (.dK U)/\k = !U.isEmpty:=e;rcases e' with⟨xs,hx,e'⟩|⟨xs,hx,e'⟩|⟨U,hx,e'⟩
  ·subst e';obtain⟨its,r,pl,hz⟩:=I.list hx;have hlen:=r.length;exact wpAny_truthy_list pl.isList (by simp only[JJ]; omega) #[H,I.tok _,by rw[jX r]; exact q]
  ·subst e';obtain⟨its,r,pl,hz⟩:=I.tuple hx;have hlen:=r.length;exact truthy_tuple pl (by simp only[JJ]; omega) #[H,I.tok _,by rw[jX r]; exact q]
  ·subst e';obtain⟨hz,hS,vs,r,m⟩ : U.length<=sizeLine/\(p==sysModules)=false/\∃vs,KV U vs/\s.heap.DictOf (mN X.prog X.w) p vs:=I.hok p _ hx;have hlen:U.length=vs.length:=Oc r;exact wpAny_truthy_dict hS m ∅ #[H,I.tok _,by rw[qH r]; exact q]
 | _=>exact(show KP from e).elim
def qI:OpR X (binaryOp .Add) (λx y H Q=>∃i j,x=.str i/\y=.str j/\i.length+j.length<=sizeLine/\Q (.str (i++j)) H):=by
 intro J s Y H x y v u Q I rx ry h;obtain⟨i,j,rfl,rfl,hz,q⟩:=h;obtain⟨t,rfl⟩:=rx;obtain⟨t',rfl⟩:=ry;exact add_str (λt' tk=>#[.str (i++j),H,I.tok _,#[_,rfl],q]) hz
def jY {x:V}{us:Jj Jm}(r:Vals [x] us):∃u,us=[u]/\RelV x u:=by
 cases r with
 | cons r1 r2=>cases r2; exact#[_,rfl,r1]
def Fu {x y:V}{us:Jj Jm}(r:Vals [x,y] us):∃u w',us=[u,w']/\RelV x u/\RelV y w':=by
 cases r with
 | cons r1 r2=>
  cases r2 with
  | cons r3 r4=>cases r4; exact#[_,_,rfl,r1,r3]
def vJ:CallR X (.builtin "abs") (λxs H Q=>∃i,xs=[.int i]/\Q (.int (if i < 0 then -i else i)) H):=by
 intro J s Y H xs us Q I r h;obtain⟨i,rfl,q⟩:=h;obtain⟨u,rfl,t,rfl⟩:=jY r;exact call_abs_int λu tk=>#[.int (if i < 0 then -i else i),H,I.tok _,#[_,rfl],q]
def t8 (hc:X.calm=true):CallR X (.builtin "min") (λxs H Q=>∃i j,xs=[.int i,.int j]/\Q (.int (if j < i then j else i)) H):=by
 intro J s Y H xs us Q I r h;obtain⟨i,j,rfl,q⟩:=h;obtain⟨u,w',rfl,⟨t,rfl⟩,⟨t',rfl⟩⟩:=Fu r;show min_two_ints (I.ok.hd hc) λh' tk k=>#[_,H,I.kept k,?_,q]
 by_cases hj:j < i
 ·rw[JO hj,JO hj]; exact#[_,rfl]
 ·rw[JZ hj,JZ hj]; exact#[_,rfl]
def lD:CallR X (.type "int") (λxs H Q=>(∃i,xs=[.int i]/\Q (.int i) H)\/∃k,xs=[.bl k]/\Q (.int (if k then 1 else 0)) H):=by
 intro J s Y H xs us Q I r h;rcases h with⟨i,rfl,q⟩|⟨k,rfl,q⟩
 ·obtain⟨u,rfl,t,rfl⟩:=jY r;exact call_int_int #[.int i,H,I,#[_,rfl],q]
 ·obtain⟨u,rfl,r1⟩:=jY r;cases r1;exact call_int_bool #[.int (if k then 1 else 0),H,I.tok _,#[_,rfl],q]
abbrev HE (K:Jz)(x:V)(H:Hp)(n:Jr):Prop:=
 match x with
 | .str y=>y.length<=sizeLine/\n=y.length
 | .byt y=>y.size<=sizeLine/\n=y.size
 | .ref p=>(∃xs,SqL K H p xs/\n=xs.length)\/∃xs,SqT K H p xs/\n=xs.length
 | _=>KP
def jZ:CallR X (.builtin "len") (λxs H Q=>∃x n,xs=[x]/\HE X.K x H n/\Q (.int n) H):=by
 intro J s Y H xs us Q I r h;obtain⟨x,n,rfl,e,q⟩:=h;obtain⟨u,rfl,rx⟩:=jY r;have hl:=i8;have hs:sizeLine=16777216:=Kq;cases x with
 | str y=>
  obtain⟨t,rfl⟩:=rx;obtain⟨hy,e'⟩ : y.length<=sizeLine/\n=y.length:=e;subst e';exact len_str ∅ #[.int _,H,I.tok _,#[_,rfl],q]
 | byt y=>
  obtain⟨t,rfl⟩:=rx;obtain⟨hy,e'⟩ : y.size<=sizeLine/\n=y.size:=e;subst e';exact PySem.W.len_bytes ∅ #[.int _,H,I.tok _,#[_,rfl],q]
 | ref p=>
  cases rx;have e':(∃xs,SqL X.K H p xs/\n=xs.length)\/∃xs,SqT X.K H p xs/\n=xs.length:=e;rcases e' with⟨xs,hx,e'⟩|⟨xs,hx,e'⟩
  ·subst e';obtain⟨its,r',pl,hz⟩:=I.list hx;have hlen:=r'.length;exact Calls.call_len_list pl.isList (by simp only[JJ]; omega) #[.int xs.length,H,I.tok _,#[_,by simp only[JJ]; rw[hlen]],q]
  ·subst e';obtain⟨its,r',pl,hz⟩:=I.tuple hx;have hlen:=r'.length;exact len_tuple pl (by simp only[JJ]; omega) #[.int xs.length,H,I.tok _,#[_,by simp only[JJ]; rw[hlen]],q]
 | _=>exact(show KP from e).elim
end
structure Room (k:Jr)(A:Ke):Prop where
 hd:A.handled=gV
 dp:A.depth+3*k+5 < recursionLimit
 un:A.units+16*k+200 < cLine
def Room.deeper {k:Jr}{A:Ke}(r:Room (k+1) A)(env:P9):Room k (A.deeper env):=
 #[r.hd,by have:=r.dp; show A.depth+1+3*k+5 < _; omega,by have:=r.un; show A.units+3+16*k+200 < _; omega]
def Room.depth {k:Jr}{A:Ke}(r:Room k A):A.depth < recursionLimit:=by have:=r.dp; omega
abbrev Fv:TA:=λ_ H Q=>Q [] H
abbrev Fw (ta:TE)(tr:TA):TA:=λY H Q=>ta Y H λx H1=>tr Y H1 λxs H2=>Q (x::xs) H2
section
variable{X:Cx}{e:JR}{es:Jj JR}{te:TE}{t:TA}{pos:LN}
def vK:PA X [] Fv:=λ_ _ _ _ H Q I h=>Calls.spliced_nil #[[],H,I,.nil,h]
def mQ (ha:PE X e te)(hr:PA X es t)(hs:starEach (e::es) X.env=(false,eval e X.env)::starEach es X.env:=by rfl):PA X (e::es) (Fw te t):=by
 intro pos J s Y H Q I h;rw[hs];change wpAny _ _ (spliced ((false,eval e X.env)::backTo pos (starEach es X.env))) _ _ s;show Calls.spliced_cons (a7 (ha J s Y H _ I h) λu s1 #[x,H1,I1,r1,q1]=>?_)
 exact a7 (hr pos J s1 Y H1 _ I1 q1) λus s2 #[xs,H2,I2,r2,q2]=>#[x::xs,H2,I2,.cons r1 r2,q2]
abbrev HF (t:TA):TE:=λY H Q=>t Y H λxs H1=>xs.length<=sizeLine/\∀p,H1 p=gV->Q (.ref p) (bn H1 p (.tup xs))
abbrev HG (t:TA):TE:=λY H Q=>t Y H λxs H1=>xs.length<=sizeLine/\∀p,H1 p=gV->Q (.ref p) (bn H1 p (.lst xs))
def Dc {x1}(h:PA X es t):PE X (.Tuple es x1 pos) (HF t):=by
 intro J s Y H Q I hq;show wpAny_Tuple_spliced (a7 (h pos J s Y H _ I hq) λus s1 #[xs,H1,I1,r,z,q]=>#[by rw[<- r.length]; exact z,?_])
 have hf:H1 s1.heap.objs.size=gV:=I1.hok.fresh (Jy _);show#[.ref s1.heap.objs.size,bn H1 s1.heap.objs.size (.tup xs),I1.laid (t':=s1.toks) (λb u e=>Jn _ e) (Jy _) ?_,rfl,q _ hf]
 exact#[#[z,NoD.new _ _ _],us,r,#[_,JF _ rfl,rfl,_,rfl]]
def De (h:PA X es t):PE X (.List es pos) (HG t):=by
 intro J s Y H Q I hq;show wpAny_List_spliced (a7 (h pos J s Y H _ I hq) λus s1 #[xs,H1,I1,r,z,q]=>#[by rw[<- r.length]; exact z,?_])
 have hf:H1 s1.heap.objs.size=gV:=I1.hok.fresh (Jy _);show#[.ref s1.heap.objs.size,bn H1 s1.heap.objs.size (.lst xs),I1.laid (t':=s1.toks) (λb u e=>Jn _ e) (Jy _) ?_,rfl,q _ hf]
 exact#[z,us,0,r,JF _ rfl]
end
noncomputable abbrev Sp:=Jj V->Hp->VK->XK->Prop
noncomputable abbrev vL:=Jj P9->Hp->Jp->XK->Jm->Jp->Prop
structure Env0 (P:J2)(w:Kf)(K:Jz)(mg:JA->Jq Jm)(base:Kn)(A:Ke)(outer:Jj P9)(s:Jp)(H:Hp):Prop where
 frames:A.frames=ba outer
 mod:Mod K mg base
 bs:∀b o,base.get? b=ba o->s.heap.get? b=ba o/\H b=gV
 bsz:base.objs.size<=s.heap.objs.size
 funs:s.heap.FunFrames base outer
 frf:∀b∈qC outer,H b=gV
 hok:HOk P w H s.heap
 bare:N7 s.gens
abbrev CE (outer:Jj P9)(P:J2)(w:Kf)(H:Hp)(s:Jp)(Q:VK)(u:Jm)(s':Jp):Prop:=
 ∃v H',s'.os=s.os/\N7 s'.gens/\Un (qC outer) [] H H' s.heap s'.heap/\HOk P w H' s'.heap/\RelV v u/\Q v H'
abbrev CR (CX:vL)(outer:Jj P9)(P:J2)(w:Kf)(H:Hp)(s:Jp)(Q:VK)(E:XK)(r:QC)(s':Jp):Prop:=
 match r with
 | .ok (.ret u)=>CE outer P w H s Q u s'
 | .ok _=>KP
 | .error e=>CX outer H s E e s'
structure FnOk (P:J2)(w:Kf)(K:Jz)(mg:JA->Jq Jm)(base:Kn)(CX:vL)(k:Jr)(f:Ju)(fd:LX)(ps:Jj JA)(sp:Sp):Prop where
 len:∀vs H Q E,sp vs H Q E->vs.length=ps.length
 run:∀(A:Ke) (outer:Jj P9) (s:Jp) (H:Hp) (args:Args) (us:Jj Jm) (vs:Jj V) (Q:VK) (E:XK),Room k A->Env0 P w K mg base A outer s H->Qd s fd args (ps.zip us)->Vals vs us->sp vs H Q E->
  codeAny (model P w) A (.call (.ref f) args) (CR CX outer P w H s Q E) s
section
variable{X:Cx}{J:Jj (Ju×La)}{Y:St}{H:Hp}{s s':Jp}
def Inv.env0 (I:Inv X J Y H s):Env0 X.prog X.w X.K X.mg X.base X.A X.stack s H:=
 #[I.ok.frames,I.ok.mod,I.bs,J8 I.ok.bsz I.sz,I.stack,I.stkFree,I.hok,I.bare]
def Inv.after {Q:VK}{u:Jm}(I:Inv X J Y H s)(h:CE X.stack X.prog X.w H s Q u s'):EP X J Y Q u s':=by
 obtain⟨v,H',os,bare,un,hok,r,q⟩:=h;obtain⟨hh,g,d,t,os'⟩:=s';obtain rfl:os'=s.os:=os;exact#[v,H',I.call (h':=hh) (g':=g) (d':=d) (t':=t) (ch:=[]) un hok bare (λb z=>absurd z (by simp)),r,q]
end
abbrev vM (sp:Sp)(dvs:Jj V)(E:XK)(t:TA):TE:=λY H Q=>t Y H λvs H1=>sp (vs++dvs) H1 Q E
abbrev Binds (K:Jz)(fd:LX)(ps:Jj JA)(ds:Jj Jm):Prop:=
 ∀(s:Jp) (us:Jj Jm),K.In s.heap->(us++ds).length=ps.length->Qd s fd #[us,[]] (ps.zip (us++ds))
def Binds.all {K:Jz}{fd:LX}{ps:Jj JA}(h:∀us:Jj Jm,us.length=ps.length->bindArgs fd #[us,[]]=pure (ps.zip us)):Binds K fd ps []:=λs us _ hl=>by
 rw[Kx]at hl ⊢;exact .of_eq (h us hl)
abbrev mR (CX:vL)(X:Cx)(E:XK):Prop:=∀(J:Jj (Ju×La)) (Y:St) (H:Hp) (s:Jp) (e:Jm) (s':Jp),Inv X J Y H s->CX X.stack H s E e s'->X.xe e s'
section
variable{X:Cx}{CX:vL}{k:Jr}{f C:Ju}{fd:LX}{ps:Jj JA}{sp:Sp}{dvs:Jj V}{ds:Jj Jm}{E:XK}{x m:JA}{p pos apos:LN}{e o:JR}{es:Jj JR}{ta:TE}{t:TA}
def vN {J:Jj (Ju×La)}{Y:St}{H:Hp}{s:Jp}{Q:VK}{us:Jj Jm}{vs:Jj V}(F:FnOk X.prog X.w X.K X.mg X.base CX k f fd ps sp)(hr:Room k X.A)(hb:Binds X.K fd ps ds)(hd:Vals dvs ds)(hx:mR CX X E)
  (I:Inv X J Y H s) (r:Vals vs us) (h:sp (vs++dvs) H Q E):wpAny (model X.prog X.w) X.A (call (.ref f) us) (EP X J Y Q) X.xe s:=by
 have r2:Vals (vs++dvs) (us++ds):=r.append hd;have hl:(us++ds).length=ps.length:=by rw[<- r2.length]; exact F.len _ _ _ _ h
 show wpAny_call (M5 (F.run X.A X.stack s H #[us,[]] (us++ds) (vs++dvs) Q E hr I.env0 (hb s us I.kIn hl) r2 h) λr s' hq=>?_)
 cases r with
 | error e=>exact hx J Y H s e s' I hq
 | ok fl=>
  cases fl with
  | ret u=>exact I.after hq
  | next=>exact KP.elim hq
  | brk=>exact KP.elim hq
  | cont=>exact KP.elim hq
def zM (F:FnOk X.prog X.w X.K X.mg X.base CX k f fd ps sp)(hr:Room k X.A)(hg:Gl X x)(hm:X.mg x=ba (.ref f))(hk:K1 X.K (.ref f)=true)(hb:Binds X.K fd ps ds)(hd:Vals dvs ds)(hx:mR CX X E)
  (ha:PA X (e::es) t) (hdb:(x==("__debug__" : JA))=false:=by decide) (he:starEach (e::es) X.env=(false,eval e X.env)::starEach es X.env:=by rfl) (hpl:(backTo pos (starEach es X.env)).any (·.1)=false:=by rfl) :
  PE X (.Call (.Name x p) (e::es) [] pos) (vM sp dvs E t):=by
 intro J s Y H Q I h;show MZ (mP I hg hm ?_ hdb);show PySem.W.callWith_K (h₀:=X.base) I.ok.mod.kin hk (a7 (ha pos J s Y H _ I h) λus s1 #[vs,H1,I1,r,q]=>#[I1.kIn,?_]) he hpl
 exact vN F hr hb hd hx I1 r q
def vO (F:FnOk X.prog X.w X.K X.mg X.base CX k f fd ps sp)(hr:Room k X.A)(hg:Gl X x)(hm:X.mg x=ba (.ref f))(hk:K1 X.K (.ref f)=true)(hb:Binds X.K fd ps ds)(hd:Vals dvs ds)(hx:mR CX X E)
  (hdb:(x==("__debug__" : JA))=false:=by decide):PE X (.Call (.Name x p) [] [] pos) (vM sp dvs E Fv):=by
 intro J s Y H Q I h;show MZ (mP I hg hm ?_ hdb);exact PySem.W.callWith_K0 I.kIn hk (vN (us:=[]) F hr hb hd hx I .nil h)
end
structure FnScope (N P:Jj JA)(sc:My):Prop where
 kind:sc.kind=.function
 co:sc.isCoroutine=false
 gen:sc.isGenerator=false
 nd:N.Nodup
 pre:N.take P.length=P
 par:∀x∈P,sc.names.lookup x=ba .local\/sc.names.lookup x=ba .cell
 nofree:∀y∈sc.names,y.2≠.free
def lE {kindOf:JA->Jq Ln}{x:JA}:∀ {binds:Jj (JA×Jm)} {m:JA->Jq Jm},(∀v,(x,v)∉binds)->bindL kindOf binds m x=m x
 | [],_,_=>rfl
 | (n,v)::r,m,h=>by
  unfold bindL;rw[lE λw hw=>h w (Kd _ hw)]
  split
  ·have:x≠n:=by rintro rfl; exact h v Kr
   simp[this]
  ·rfl
def lF {kindOf:JA->Jq Ln}{x:JA}:∀ {binds:Jj (JA×Jm)} {m:JA->Jq Jm},(∀v,(x,v)∉binds)->bindC kindOf binds m x=m x
 | [],_,_=>rfl
 | (n,v)::r,m,h=>by
  unfold bindC;rw[lF λw hw=>h w (Kd _ hw)]
  split
  ·rfl
  ·have:x≠n:=by rintro rfl; exact h v Kr
   simp[this]
def lG {kindOf:JA->Jq Ln}{x:JA}{v:Jm}:∀ {P:Jj JA} {vs:Jj Jm} {i:Jr} {m:JA->Jq Jm},P.Nodup->P[i]?=ba x->vs[i]?=ba v->kindOf x=ba .local->
  bindL kindOf (P.zip vs) m x=ba v
 | [],_,_,_,_,h,_,_=>by simp at h
 | _::_,[],_,_,_,_,h,_=>by simp at h
 | p::P,w::vs,0,m,nd,h1,h2,hk=>by
  simp at h1 h2; subst h1; subst h2
  change bindL kindOf ((p,w)::P.zip vs) m p=_;unfold bindL;rw[lE λv hv=>(LM.mp nd).1 (OJ hv).1,JO hk]
  simp
 | p::P,w::vs,i+1,m,nd,h1,h2,hk=>by
  change bindL kindOf ((p,w)::P.zip vs) m x=_;unfold bindL;exact lG (i:=i) (LM.mp nd).2 (by simpa using h1) (by simpa using h2) hk
def lH {kindOf:JA->Jq Ln}{x:JA}{v:Jm}:∀ {P:Jj JA} {vs:Jj Jm} {i:Jr} {m:JA->Jq Jm},P.Nodup->P[i]?=ba x->vs[i]?=ba v->kindOf x≠ba .local->
  bindC kindOf (P.zip vs) m x=ba v
 | [],_,_,_,_,h,_,_=>by simp at h
 | _::_,[],_,_,_,_,h,_=>by simp at h
 | p::P,w::vs,0,m,nd,h1,h2,hk=>by
  simp at h1 h2; subst h1; subst h2
  change bindC kindOf ((p,w)::P.zip vs) m p=_;unfold bindC;rw[lF λv hv=>(LM.mp nd).1 (OJ hv).1,JZ hk]
  simp
 | p::P,w::vs,i+1,m,nd,h1,h2,hk=>by
  change bindC kindOf ((p,w)::P.zip vs) m x=_;unfold bindC;exact lH (i:=i) (LM.mp nd).2 (by simpa using h1) (by simpa using h2) hk
abbrev fP (N:Jj JA)(vs:Jj V):St:=vs.map ba++Kg (N.length - vs.length) gV
abbrev qJ (CX:vL)(P:J2)(w:Kf)(K:Jz)(mg:JA->Jq Jm)(base:Kn)(N:Jj JA)(qual:JA)(scope:My)(f:Ju)(cd:Jm)(A:Ke)(outer:Jj P9)(s:Jp)(H:Hp)(E:XK):Cx where
 prog:=P
 w:=w
 K:=K
 mg:=mg
 base:=base
 A:=A.deeper (envOfC qual scope s.heap.objs.size f cd)
 N:=N
 s₀:=s
 H₀:=H
 env:=envOfC qual scope s.heap.objs.size f cd
 outer:=outer
 stack:=envOfC qual scope s.heap.objs.size f cd::outer
 ex:=[]
 calm:=true
 fn:=λ_=>true
 pn:=[]
 xe:=λe s'=>wpAny (model P w) (A.deeper (envOfC qual scope s.heap.objs.size f cd)) (leaving (envOfC qual scope s.heap.objs.size f cd) e) (λ_ s''=>CX outer H s E e s'') (λe' s''=>CX outer H s E e' s'') s'
def oI {sc:My}{n:Jr}{x:JA}(h:sc.names.lookup x=ba .cell):∃c,(cellsFrom n sc.names []).lookup x=ba c:=by
 have q:=Ow sc.names n [] (.inl h);exact KF.mp q
def t9 {CX:vL}{P:J2}{w:Kf}{K:Jz}{mg:JA->Jq Jm}{base:Kn}{N ps:Jj JA}{qual:JA}{scope:My}{f:Ju}{cd:Jm}{A:Ke}{outer:Jj P9}{s s1:Jp}{H:Hp}{E:XK}{us:Jj Jm}{vs:Jj V}
  (S:FnScope N ps scope) (hd:A.handled=gV) (e0:Env0 P w K mg base A outer s H) (hl:vs.length=ps.length) (r:Vals vs us)
  (x:InCallC s s.heap.objs.size (bindL (envOfC qual scope s.heap.objs.size f cd).kindOf (ps.zip us) λ_=>gV) (cellsFrom (s.heap.objs.size+1) scope.names []) (bindC (envOfC qual scope s.heap.objs.size f cd).kindOf (ps.zip us) λ_=>gV) s1) :
  Inv (qJ CX P w K mg base N qual scope f cd A outer s H E) [] (fP N vs) H s1:=by
 have hpl:ps.length<=N.length:=by have:=congrArg O3 S.pre; rw[Ks]at this; omega
 obtain⟨h1,tk,rfl,hk⟩:=x.done;have noA:∀b:Ju,b∉(qJ CX P w K mg base N qual scope f cd A outer s H E).ex:=λb z=>absurd (show b∈([]:Jj Ju)from z) (by simp)
 show#[#[e0.mod,S.kind,rfl,rfl,Jy _,λy z c h1 h2=>?_,λy hy=>?_,λy c _ h=>?_,λ_=>hd,Around.frames_deeper e0.frames,.inr #[rfl,rfl],λb z=>absurd z (noA b),e0.bs,e0.bsz,λb _ _=>noA b,λb z=>absurd z (noA b),e0.funs,e0.frf],
  rfl,e0.bare,Un.kept hk,#[_,x.toInCall.ns,λi y v h1 h2 h3=>?_],λy c h=>#[_,x.cell y c h],e0.hok.fresh (Jy _),λy c h=>?_,λp hp=>absurd (show p∈([]:Jj (Ju×La))from hp) (by simp),e0.hok.kept hk,?_]
 ·exact name_of_addr x.apart (Mc h1) (Mc h2)
 ·have hy:scope.names.lookup y=ba .cell\/scope.names.lookup y=ba .free:=hy;rcases hy with hy|hy
  ·exact oI hy
  ·exact absurd rfl (S.nofree _ (Mc hy))
 ·exact M4 (x.above y c (Mc h))
 ·have hi:i < vs.length:=by
   unfold fP at h2
   by_cases hi:i < vs.length
   ·exact hi
   ·rw[Lp (by simpa using hi)]at h2
    rw[List.getElem?_replicate]at h2;split at h2 <;> cases h2
  have ha:vs[i]?=ba v:=by
   unfold fP at h2;rw[Kh (by simpa using hi),Jv]at h2
   cases e:vs[i]? with
   | none=>rw[e]at h2; cases h2
   | some a=>rw[e]at h2; cases h2; rfl
  obtain⟨u,hu,rv⟩:=r.get ha;have hp:ps[i]?=ba y:=by
   rw[<- S.pre,MS ∅]; exact h1
  have ndP:ps.Nodup:=by rw[<- S.pre]; exact S.nd.sublist (Qe _ _)
  show#[u,rv,?_];rcases S.par y (JD hp)with k|k
  ·exact .inl #[k,lG ndP hp hu k]
  ·obtain⟨c,e⟩:=oI (n:=s.heap.objs.size+1) k;show .inr #[.inl k,c,e,?_];have q:=x.cell y c e;rw[lH ndP hp hu (by change scope.names.lookup y≠_; rw[k]; decide)]at q
   exact q
 ·exact e0.hok.fresh (M4 (x.above y c (Mc h)))
 ·unfold fP;change _=N.length;rw[Jw,Jl,OT];omega
def Fx {CX:vL}{P:J2}{w:Kf}{K:Jz}{mg:JA->Jq Jm}{base:Kn}{k:Jr}{f:Ju}{name qual:JA}{params:Arguments}{body:Jj Mb}{scope:My}{dV kV doc pm cdv ct oc:Jm}{an od:Jq Ju}
  {osl:Ki (Jq Jm)} {N ps:Jj JA} {sp:Sp} (lk:K.lookup f=ba #[oc,od,.func (LD name qual params body scope dV kV doc pm an cdv ct),osl]) (hcd:Mj K cdv qual=true) (S:FnScope N ps scope)
  (len:∀vs H Q E,sp vs H Q E->vs.length=ps.length)
  (hbody:∀(A:Ke) (outer:Jj P9) (s:Jp) (H:Hp) (vs:Jj V) (Q:VK) (E:XK),Room k (A.deeper (envOfC qual scope s.heap.objs.size f cdv))->sp vs H Q E->
   ∃t,PSs (qJ CX P w K mg base N qual scope f cdv A outer s H E) body t/\t { nx:=λ_ H'=>Q .non H',rt:=Q } (fP N vs) H) :
  FnOk P w K mg base CX (k+1) f (LD name qual params body scope dV kV doc pm an cdv ct) ps sp:=by
 show#[len,λA outer s H args us vs Q E hr e0 hb r hsp=>?_]
 have hl:=len _ _ _ _ hsp;have KX:K.In s.heap:=e0.mod.kin.keeps λb o e=>(e0.bs b o e).1
 have lim:s.heap.NoLimit:=e0.mod.nolimit.keeps λb o e=>(e0.bs b o e).1
 have hkind:∀y∈ps.zip us,scope.names.lookup y.1=ba .local\/(scope.names.lookup y.1=ba .cell/\((cellsFrom (s.heap.objs.size+1) scope.names []).lookup y.1).isSome=true):=λ#[n,v] hy=>by
  rcases S.par n (OJ hy).1 with q|q
  ·exact .inl q
  ·exact .inr #[q,Ow _ _ _ (.inl q)]
 show codeAny_call_function hr.depth (KX _ _ lk) rfl S.co S.gen rfl (PySem.W.codeRec_of KX hcd) (hb _ _ _ _ ?_);show wpAny_newFunctionEnv_cells S.kind hkind λenv he s1 x=>?_
 subst he;show#[lim.keeps x.toInCall.keep,codeAny_func ?_];obtain⟨t,ht,hq⟩:=hbody A outer s H vs Q E (hr.deeper _) hsp;have I:Inv (qJ CX P w K mg base N qual scope f cdv A outer s H E) [] (fP N vs) H s1:=t9 S hr.hd e0 hl r x;show Ll (ht [] s1 (fP N vs) H _ I hq) (λfl s' hs=>?_) λe s' hs=>hs
 have fin:∀ {Y':St} {H':Hp} {v:V} {u:Jm},Inv (qJ CX P w K mg base N qual scope f cdv A outer s H E) [] Y' H' s'->RelV v u->Q v H'->CE outer P w H s Q u s':=
  λ{Y' H' v u} td rv q=>#[v,H',td.os,td.bare,td.base,td.hok,rv,q]
 cases fl with
 | ret u=>
  obtain⟨v,Y',H',td,rv,q⟩:=hs;exact fin td rv q
 | next=>
  obtain⟨Y',H',td,q⟩:=hs;exact fin (v:=V.non) (u:=KC) td rfl q
 | brk=>
  obtain⟨_,_,_,q⟩:=hs;exact KP.elim q
 | cont=>
  obtain⟨_,_,_,q⟩:=hs;exact KP.elim q
section
variable{X:Cx}{x:JA}{p pos:LN}{e:JR}{es:Jj JR}{t:TA}{id T:KY}{r:Jj V->Hp->VK->Prop}
abbrev II (r:Jj V->Hp->VK->Prop)(t:TA):TE:=λY H Q=>t Y H λvs H1=>r vs H1 Q
def oJ (hc:CallR X (.builtin id) r)(hg:Gl X x)(hm:X.mg x=gV)(hv:bootBuiltins x=ba (.builtin id))(ha:PA X (e::es) t)(hn:x≠"__name__":=by decide)(hdb:(x==("__debug__" : JA))=false:=by decide)
  (he:starEach (e::es) X.env=(false,eval e X.env)::starEach es X.env:=by rfl) (hpl:(backTo pos (starEach es X.env)).any (·.1)=false:=by rfl):PE X (.Call (.Name x p) (e::es) [] pos) (II r t):=by
 intro J s Y H Q I h;show MZ (fO I hg hm hv ?_ hn hdb);exact QD (a7 (ha pos J s Y H _ I h) λus s1 #[vs,H1,I1,r1,q1]=>hc J s1 Y H1 vs us Q I1 r1 q1) he hpl
def ud (hc:CallR X (.type T) r)(hg:Gl X x)(hm:X.mg x=gV)(hv:bootBuiltins x=ba (.type T))(ha:PA X (e::es) t)(hn:x≠"__name__":=by decide)(hdb:(x==("__debug__" : JA))=false:=by decide)
  (he:starEach (e::es) X.env=(false,eval e X.env)::starEach es X.env:=by rfl) (hpl:(backTo pos (starEach es X.env)).any (·.1)=false:=by rfl):PE X (.Call (.Name x p) (e::es) [] pos) (II r t):=by
 intro J s Y H Q I h;show MZ (fO I hg hm hv ?_ hn hdb);exact K9 (a7 (ha pos J s Y H _ I h) λus s1 #[vs,H1,I1,r1,q1]=>hc J s1 Y H1 vs us Q I1 r1 q1) he hpl
end
end L2
namespace HT
open PySem PyProof.Rows
section
open PySem.SeqAt
open PySem.AutoSeq1 (wpAny_loadPart')
open PySem.MeetsSeq PySem.MeetsSeq2 PySem.MeetsSeq3
end
section
variable{prog:J2}{w:Kf}{A:Ke}{E:Jm->Jp->Prop}{s:Jp}
def zN {t b:Ju}{vs ws:Jj Jm}{Q:Jm->Jp->Prop}(ht:P8 s.heap t vs.toArray)(hb:P8 s.heap b ws.toArray)(hv:vs≠[])
  (h1:ws=[]->Q (.ref t) s) (h2:ws≠[]->Q (.ref s.heap.objs.size) { s with heap:=s.heap.push { cls:=.type "tuple",data:=.seq (vs++ws).toArray } })
  (hsz:vs.length+ws.length<=sizeLine):wpAny (model prog w) A (binaryOp .Add (.ref t) (.ref b)) Q E s:=by
 obtain⟨⟨cls,dd,data,sl⟩,ho,hc,n,hd⟩:=id ht;obtain⟨⟨cls2,dd2,data2,sl2⟩,ho2,hc2,n2,hd2⟩:=id hb;simp only at hc hd hc2 hd2;subst hc hd hc2 hd2;have e:vs.toArray++ws.toArray=(vs++ws).toArray:=by simp
 by_cases hw:ws=[]
 ·exact Qf #[_,ho,rfl] #[_,ho2,rfl] Ol Pz M6 M3 (MT _ _)
   (tuple_addW1 t b vs.toArray ws.toArray n n2 dd dd2 sl sl2 (by simpa using hv) (by simp[hw])) #[ho,ho2,h1 hw]
 ·show Qf #[_,ho,rfl] #[_,ho2,rfl] Ol Pz M6 M3 (MT _ _)
   (tuple_addW2 t b vs.toArray ws.toArray n n2 dd dd2 sl sl2 (by simpa using hv) (by simpa using hw) (by rw[JJ,JJ]; exact hsz)) #[ho,ho2,?_]
  rw[e];exact h2 hw
abbrev bW (n d:Jr):Jq JG->Jr
 | none=>d
 | some v=>if v < 0 then(v+(n:JG)).toNat else min v.toNat n
def j3 (n d:Jr):bW n d gV=d:=rfl
def rQ (n d k:Jr):bW n d (ba (k:JG))=min k n:=by
 show(if (k:JG) < 0 then((k:JG)+(n:JG)).toNat else min (k:JG).toNat n)=min k n
 rw[JZ ∅,JN]
def Dg (n d:Jr)(hd:d<=n)(o:Jq JG):bW n d o<=n:=by
 cases o with
 | none=>exact hd
 | some v=>
  show(if v < 0 then(v+(n:JG)).toNat else min v.toNat n)<=n
  by_cases hv:v < 0
  ·rw[JO hv]; omega
  ·rw[JZ hv]; exact Nat.min_le_right _ _
def rR (v:JG)(n d:Jr):(if v < 0 then max (v+(n:JG)) 0 else min v (n:JG))=((bW n d (ba v):Jr):JG):=by
 show(if v < 0 then max (v+(n:JG)) 0 else min v (n:JG))=(((if v < 0 then(v+(n:JG)).toNat else min v.toNat n):Jr):JG)
 by_cases hv:v < 0
 ·simp only[JO hv]; omega
 ·simp only[JZ hv]; omega
def qK (lo hi:Jq JG)(n:Jr):ML lo hi 1 (n:JG)=(((bW n 0 lo:Jr):JG),((bW n n hi:Jr):JG)):=by
 have h1:¬ ((1:JG) < 0):=∅
 unfold ML;simp only[h1,L6];show SW ?_ ?_
 ·cases lo with
  | none=>rfl
  | some v=>exact rR v n 0
 ·cases hi with
  | none=>rfl
  | some v=>exact rR v n n
def qL (i j:Jr):L0 (i:JG) (j:JG) 1=j - i:=by
 unfold L0;have h1:(1:JG) > 0:=∅
 simp only[h1,Mf,Int.ediv_one];split <;> omega
def j4 {v:Jm}{o:Jq JG}{Q:Jq JG->Jp->Prop}(p:Nw v o)(h:Q o s):wpAny (model prog w) A (Q1 v) Q E s:=by
 cases p with
 | none=>exact Rh h
 | int i t=>exact slicePart_int h
def eO {sl:Ju}{vl vu:Jm}{lo hi:Jq JG}{n:Jr}{Q:JG×JG×Jr->Jp->Prop}(hs:s.heap.IsSliceOf sl vl vu .none)(pl:Nw vl lo)(pu:Nw vu hi)
  (h:Q (((bW n 0 lo:Jr):JG),1,bW n n hi - bW n 0 lo) s):wpAny (model prog w) A (NL (.ref sl) (pure (n:JG))) Q E s:=by
 obtain⟨os,hos,hcs,hds⟩:=id hs;unfold NL Rw;show Jk (Jk (Lb hos hds (x:=vl) rfl (Jk (Lb hos hds (x:=vu) rfl (Jk (Lb hos hds (x:=.none) rfl (Jt ?_)))))));show Jk (Rh ?_);change wpAny _ _ (if ((1:JG)==0)=true then _ else _) _ _ s
 rw[JZ #v[]]
 show Jk (j4 pl (Jk (j4 pu (Jk (Jt ?_)))));change wpAny _ _ (match ML lo hi 1 (n:JG)with|(lo,hi)=>pure (lo,(1:JG),L0 lo hi 1)) _ _ s
 rw[qK lo hi n];change wpAny _ _ (pure (((bW n 0 lo:Jr):JG),(1:JG),L0 ((bW n 0 lo:Jr):JG) ((bW n n hi:Jr):JG) 1)) _ _ s;rw[qL];exact Jt h
def vP (xs:Ki Jm)(i k:Jr):((Kb k).filterMap λ(m:Jr)=>xs[((i:JG)+(m:JG)*1).toNat]?).toArray=((xs.toList.drop i).take k).toArray:=by
 have e:(λ(m:Jr)=>xs[((i:JG)+(m:JG)*1).toNat]?)=λm=>xs[i+m]?:=by
  funext m
  have:((i:JG)+(m:JG)*1).toNat=i+m:=∅
  rw[this]
 rw[e];have:=pick_run xs i k;rw[List.filterMap_map]at this;have e2:((λx=>xs[x]?)∘λx=>i+x)=λm=>xs[i+m]?:=rfl
 rw[e2]at this;rw[this]
def ig {t sl:Ju}{items:Ki Jm}{vl vu:Jm}{lo hi:Jq JG}{Q:Jm->Jp->Prop}(ht:P8 s.heap t items)(hs:s.heap.IsSliceOf sl vl vu .none)(pl:Nw vl lo)(pu:Nw vu hi)
  (hw:¬ (bW items.size 0 lo=0/\bW items.size items.size hi=items.size))
  (h:Q (.ref s.heap.objs.size) { s with heap:=s.heap.push { cls:=.type "tuple",data:=.seq ((items.toList.drop (bW items.size 0 lo)).take (bW items.size items.size hi - bW items.size 0 lo)).toArray } })
  (hsz:items.size<=sizeLine):wpAny (model prog w) A (getItem (.ref t) (.ref sl)) Q E s:=by
 have htake:sizeOk (.seq ((items.toList.drop (bW items.size 0 lo)).take (bW items.size items.size hi - bW items.size 0 lo)).toArray):=by
  show((items.toList.drop (bW items.size 0 lo)).take (bW items.size items.size hi - bW items.size 0 lo)).toArray.size<=sizeLine;rw[JJ,Ks,LB,JQ];omega
 have hj:bW items.size items.size hi<=items.size:=Dg _ _ (Jy _) hi;obtain⟨os,hos,hcs,hds⟩:=id hs;have hTs:s.TypeIs (.ref sl) "slice":=#[os,hos,hcs];unfold getItem
 try with_reducible show KQ ?_
 first|refine Jk (Jt ?_)|skip
 show Jk (Qg ht.typeIs #v[] ?_)
 show Jk (Kt (name:=Lq "__getitem__") ht.typeIs Lx
  (KN Lx ht.typeIs Pq ?_ (PV _ _)))
 change wpAny _ _ (MC (.ref t) >>= _) _ _ s;show Jk (RB ht ?_);show Jk (NH hTs ?_);rw[JO #v[]]
 show Jk (eO hs pl pu ?_);have hno:¬ ((((bW items.size 0 lo:Jr):JG)==0&&(1:JG)==1&&(bW items.size items.size hi - bW items.size 0 lo)==items.size)=true):=by
  intro q;rw[Js,Js]at q;have q1:((bW items.size 0 lo:Jr):JG)=0:=eq_of_beq q.1.1;have q2:bW items.size items.size hi - bW items.size 0 lo=items.size:=eq_of_beq q.2;exact hw #[∅,∅]
 change wpAny _ _ (if (((bW items.size 0 lo:Jr):JG)==0&&(1:JG)==1&&(bW items.size items.size hi - bW items.size 0 lo)==items.size)=true then _ else _) _ _ s
 rw[JZ hno,vP]
 first
  | exact Jk (m:=Lg _) (Ku (Jt #[_,rfl,Jt h]) htake)
  | exact Jk (m:=Lg _) (Ku (Jk (Jt (Jt #[_,rfl,Jt h]))) htake)
  | exact Jk (Jk (m:=Lg _) (Ku (Jt (Jt #[_,rfl,Jt h])) htake))
  | exact Jk (Jk (m:=Lg _) (Ku (Jt #[_,rfl,Jt h]) htake))
end
end HT
namespace L2
open PySem PySem.Spec PyProof.Rows
noncomputable abbrev TO:=St->Hp->(Jq JG->Hp->Prop)->Prop
abbrev PO (X:Cx)(e:Jq JR)(t:TO):Prop:=
 ∀(J:Jj (Ju×La)) (s:Jp) (Y:St) (H:Hp) (Q:Jq JG->Hp->Prop),Inv X J Y H s->t Y H Q->
  wpAny (model X.prog X.w) X.A (evalPart e X.env) (λu s'=>∃o H',Inv X J Y H' s'/\Nw u o/\Q o H') X.xe s
abbrev zO:TO:=λ_ H Q=>Q gV H
abbrev Fy (t:TE):TO:=λY H Q=>t Y H λx H1=>∃i,x=.int i/\Q (ba i) H1
section
variable{X:Cx}{e:JR}{te:TE}{lo hi:Jq JR}{tl th:TO}{pos p2:LN}
def zP:PO X gV zO:=by
 intro J s Y H Q I h;rw[RC];exact Jt #[gV,H,I,.none,h]
def zQ (h:PE X e te):PO X (ba e) (Fy te):=by
 intro J s Y H Q I hw;rw[evalPart_some];show a7 (h J s Y H _ I hw) λu s1 #[x,H1,I1,r1,q1]=>?_
 obtain⟨i,rfl,q⟩:=q1;obtain⟨t,rfl⟩:=r1;exact#[ba i,H1,I1,.int i t,q]
abbrev Fz (X:Cx)(r:V->Jq JG->Jq JG->Hp->VK->Prop):Prop:=
 ∀(J:Jj (Ju×La)) (s:Jp) (Y:St) (H:Hp) (x:V) (v vl vu:Jm) (lo hi:Jq JG) (sl:Ju) (Q:VK),Inv X J Y H s->RelV x v->s.heap.IsSliceOf sl vl vu .none->Nw vl lo->Nw vu hi->r x lo hi H Q->
  ∃T id,typeLookup (.type T) "__getitem__" = pure (ba (.builtin id))/\s.TypeIs v T/\wpAny (model X.prog X.w) X.A (getItem v (.ref sl)) (EP X J Y Q) X.xe s
abbrev IZ (r:V->Jq JG->Jq JG->Hp->VK->Prop)(te:TE)(tl th:TO):TE:=λY H Q=>te Y H λx H1=>tl Y H1 λl H2=>th Y H2 λu H3=>r x l u H3 Q
def vQ {r:V->Jq JG->Jq JG->Hp->VK->Prop}(hr:Fz X r)(he:PE X e te)(hl:PO X lo tl)(hu:PO X hi th):PE X (.Subscript e (.Slice lo hi gV p2) pos) (IZ r te tl th):=by
 intro J s Y H Q I h;show Subscript_ (a7 (he J s Y H _ I h) λv s1 #[x,H1,I1,r1,q1]=>?_)
 show wpAny_Slice (a7 (hl J s1 Y H1 _ I1 q1) λvl s2 #[l,H2,I2,pl,q2]=>a7 (hu J s2 Y H2 _ I2 q2) λvu s3 #[u,H3,I3,pu,q3]=>?_)
 rw[RC];show Jt ?_;have I4:Inv X J Y H3 { s3 with heap:=s3.heap.push { cls:=.type "slice",data:=.fields [vl,vu,.none].toArray } }:=I3.kept (t':=s3.toks) λb ob q=>Jn _ q
 obtain⟨T,id,hT,ht,hg⟩:=hr J { s3 with heap:=s3.heap.push { cls:=.type "slice",data:=.fields [vl,vu,.none].toArray } } Y H3 x v vl vu l u s3.heap.objs.size Q I4 r1 (Su ..) pl pu q3
 change wpAny (model X.prog X.w) X.A (subscriptTail e (.Slice lo hi gV p2) v (.ref s3.heap.objs.size)) (EP X J Y Q) X.xe { s3 with heap:=s3.heap.push { cls:=.type "slice",data:=.fields [vl,vu,.none].toArray } }
 exact tail_any (ops:=[.ref s3.heap.objs.size,v]) ht hT hg (by with_unfolding_all rfl)
abbrev j5 (xs:Jj V)(lo hi:Jq JG):Jj V:=(xs.drop (HT.bW xs.length 0 lo)).take (HT.bW xs.length xs.length hi - HT.bW xs.length 0 lo)
def jx (xs:Jj V)(lo hi:Jq JG):(j5 xs lo hi).length<=xs.length:=by
 unfold j5;rw[Ks,LB];omega
abbrev HH (K:Jz):V->Jq JG->Jq JG->Hp->VK->Prop:=λx lo hi H Q=>∃a xs,x=.ref a/\SqT K H a xs/\
 ¬ (HT.bW xs.length 0 lo=0/\HT.bW xs.length xs.length hi=xs.length)/\∀p,H p=gV->Q (.ref p) (bn H p (.tup (j5 xs lo hi)))
def Dh:Fz X (HH X.K):=by
 intro J s Y H x v vl vu lo hi sl Q I rx hs pl pu h;obtain⟨a,xs,rfl,hx,hw,q⟩:=h;cases rx;obtain⟨its,r,ht,hz⟩:=I.tuple hx;have hlen:its.toArray.size=xs.length:=by rw[JJ]; exact r.length.symm
 show#["tuple",_,PyProof.Rows.slot_tuple_getitem.lookup,ht.typeIs,?_];show HT.ig ht hs pl pu (by rw[hlen]; exact hw) ?_ (by rw[hlen]; exact hz)
 rw[hlen];show#[.ref s.heap.objs.size,_,I.laid (t':=s.toks) (o:=.tup (j5 xs lo hi)) (λb ob q=>Jn _ q) (Jy _) ?_,rfl,q _ (I.hok.fresh (Jy _))]
 exact#[#[J8 (jx xs lo hi) hz,NoD.new _ _ _],_,(r.drop (HT.bW xs.length 0 lo)).take (HT.bW xs.length xs.length hi - HT.bW xs.length 0 lo),QA _ _]
def Vals.nil_iff {xs:Jj V}{us:Jj Jm}(r:Vals xs us):us=[]↔xs=[]:=by
 cases r with
 | nil=>simp
 | cons _ _=>simp
end
abbrev rS (n:Jr)(i:JG):Jq Jr:=if 0<=i then(if i < n then ba i.toNat else gV)else if -(n:JG)<=i then ba (i+n).toNat else gV
abbrev oK {α:Type}(xs:Jj α)(i:JG):Jq α:=(rS xs.length i).bind λj=>xs[j]?
def rT {n:Jr}{i:JG}{j:Jr}(h:rS n i=ba j):seqIndex? i n=ba j/\j < n/\-(n:JG)<=i/\i < n:=by
 unfold rS at h
 by_cases h0:0<=i
 ·rw[JO h0]at h
  by_cases h1:i < n
  ·rw[JO h1]at h;have e:i.toNat=j:=Kw h;exact#[by rw[QV h0 h1,e],∅,∅,h1]
  ·rw[JZ h1]at h; cases h
 ·rw[JZ h0]at h
  by_cases h1 : -(n:JG)<=i
  ·rw[JO h1]at h;have e:(i+n).toNat=j:=Kw h;exact#[by rw[Qh ∅ h1,e],∅,h1,∅]
  ·rw[JZ h1]at h; cases h
def mS {α:Type}{xs:Jj α}{i:JG}{v:α}(h:oK xs i=ba v):∃j,seqIndex? i xs.length=ba j/\xs[j]?=ba v/\j < xs.length/\-(xs.length:JG)<=i/\i < xs.length:=by
 unfold oK at h;cases e:rS xs.length i with
 | none=>rw[e]at h; cases h
 | some j=>
  rw[e]at h;obtain⟨h1,h2,h3,h4⟩:=rT e;exact#[j,h1,h,h2,h3,h4]
def atI_nat {α:Type}{xs:Jj α}{j:Jr}{v:α}(h:xs[j]?=ba v):oK xs (j:JG)=ba v:=by
 have hj:j < xs.length:=(JK.mp h).1;have e:rS xs.length (j:JG)=ba j:=by
  unfold rS;rw[JO ∅,JO ∅]; simp
 unfold oK; rw[e]; exact h
abbrev mT (b:JR):Prop:=∀o i,subscripted b false o i=operate [o,i] (getItem o i)
abbrev IxR (X:Cx)(r:R2):Prop:=
 ∀(value slice:JR) (J:Jj (Ju×La)) (s:Jp) (Y:St) (H:Hp) (x y:V) (v u:Jm) (Q:VK),Inv X J Y H s->RelV x v->RelV y u->r x y H Q->
  subscripted slice false v u=operate [v,u] (getItem v u)->wpAny (model X.prog X.w) X.A (subscriptTail value slice v u) (EP X J Y Q) X.xe s
abbrev MtR (X:Cx)(id:KY)(r:V->Jj V->Hp->VK->Prop):Prop:=
 ∀(J:Jj (Ju×La)) (s:Jp) (Y:St) (H:Hp) (x:V) (xs:Jj V) (v:Jm) (us:Jj Jm) (Q:VK),Inv X J Y H s->RelV x v->Vals xs us->r x xs H Q->
  wpAny (model X.prog X.w) X.A (call (.builtin id) (v::us)) (EP X J Y Q) X.xe s
section
variable{X:Cx}{a b:JR}{ta tb:TE}{pos:LN}
def FB {r:R2}(hr:IxR X r)(ha:PE X a ta)(hb:PE X b tb)(hs:mT b):PE X (.Subscript a b pos) (He r ta tb):=by
 intro J s Y H Q I h;exact Subscript_ (C3 ha hb I h λv u s2 x y H2 I2 rx ry q=>hr a b J s2 Y H2 x y v u Q I2 rx ry q (hs _ _))
abbrev HI (K:Jz):R2:=λx y H Q=>∃p xs i v,x=.ref p/\y=.int i/\SqL K H p xs/\oK xs i=ba v/\Q v H
abbrev HJ (K:Jz):R2:=λx y H Q=>∃p xs i v,x=.ref p/\y=.int i/\SqT K H p xs/\oK xs i=ba v/\Q v H
abbrev HK:R2:=λx y H Q=>∃z i c,x=.str z/\y=.int i/\z.length<=sizeLine/\oK z.cps.toList i=ba c/\Q (.str #[[c].toArray]) H
def zR:IxR X (HI X.K):=by
 intro value slice J s Y H x y v u Q I rx ry h hs;obtain⟨p,xs,i,z,rfl,rfl,hq,he,q⟩:=h;cases rx;obtain⟨t,rfl⟩:=ry;obtain⟨its,r,pl,hz⟩:=I.list hq;obtain⟨j,h1,h2,h3,h4,h5⟩:=mS he;obtain⟨w,ew,rw'⟩:=r.get h2;have hl:=r.length;have hn:=i8;have fin:EP X J Y Q w s:=#[z,H,I,rw',q]
 by_cases h0:0<=i
 ·have hj:i.toNat=j:=by
   rw[QV h0 h5]at h1;exact Kw h1
  exact item_listR pl.isList h0 ∅ (by rw[hj]; simpa using ew) fin hs
 ·have hj:(i+(its.toArray.size:JG)).toNat=j:=by
   rw[Qh ∅ h4]at h1
   rw[JJ,<- hl];exact Kw h1
  exact M7 (x:=w) pl.isList.typeIs slot_list_getitem.lookup
   (wpAny_getItem_list_neg (Q:=λr s'=>r=w/\EP X J Y Q r s') pl.isList ∅ (by rw[JJ] <;> omega) ∅ (by rw[hj]; simpa using ew) #[rfl,fin]) hs
def Di:IxR X (HJ X.K):=by
 intro value slice J s Y H x y v u Q I rx ry h hs;obtain⟨p,xs,i,z,rfl,rfl,hq,he,q⟩:=h;cases rx;obtain⟨t,rfl⟩:=ry;obtain⟨its,r,pl,hz⟩:=I.tuple hq;obtain⟨j,h1,h2,h3,h4,h5⟩:=mS he;obtain⟨w,ew,rw'⟩:=r.get h2;have hl:=r.length;have hn:=i8;have fin:EP X J Y Q w s:=#[z,H,I,rw',q];exact M7 (x:=w) pl.typeIs slot_tuple_getitem.lookup
  (getItem_tuple (j:=j) (Q:=λr s'=>r=w/\EP X J Y Q r s') pl ∅ ∅ (by rw[JJ,<- hl]; exact h1) (by simpa using ew) #[rfl,fin]) hs
def Dj:IxR X HK:=by
 intro value slice J s Y H x y v u Q I rx ry h hs;obtain⟨z,i,c,rfl,rfl,hz,he,q⟩:=h;obtain⟨t,rfl⟩:=rx;obtain⟨t',rfl⟩:=ry;obtain⟨j,h1,h2,h3,h4,h5⟩:=mS he;have hl:z.cps.toList.length=z.length:=by simp[Mp]
 rw[hl]at h1 h4 h5;have hn:=i8;exact tail_any (PX s z t) slot_str_getitem.lookup (getItem_str (c:=c) (by
  have e1:decide (i < -(2 ^ 63:JG))=false:=J4 ∅
  have e2:decide (i>=2 ^ 63)=false:=J4 ∅
  rw[e1,e2,RD]) (by rw[h1]; simpa using h2) #[.str #[[c].toArray],H,I.tok _,#[_,rfl],q]) hs
def qM (its:Jj Jm)(n j:Jr)(u:Jm):Lc (·.setIfInBounds j u) { cls:=.type "list",data:=.seq its.toArray n }={ cls:=.type "list",data:=.seq (its.set j u).toArray n }:=by
 simp[Lc]
def Inv.lst {J:Jj (Ju×La)}{Y:St}{H:Hp}{s:Jp}{p:Ju}{xs:Jj V}(I:Inv X J Y H s)(h:H p=ba (.lst xs)) :
  ∃(its:Jj Jm) (n:Jr),Vals xs its/\s.heap.get? p=ba { cls:=.type "list",data:=.seq its.toArray n }/\xs.length<=sizeLine:=by
 obtain⟨z,its,n,r,e⟩:=I.hok p _ h;exact#[its,n,r,e,z]
def Inv.lstUpd {J:Jj (Ju×La)}{Y:St}{H:Hp}{s:Jp}{p:Ju}{xs ys:Jj V}{its its':Jj Jm}{n n':Jr}{f:La->La}(I:Inv X J Y H s)(h:H p=ba (.lst xs))
  (ho:s.heap.get? p=ba { cls:=.type "list",data:=.seq its.toArray n }) (hf:f { cls:=.type "list",data:=.seq its.toArray n }={ cls:=.type "list",data:=.seq its'.toArray n' }) (r:Vals ys its') (hz:ys.length<=sizeLine) (t:Jr) :
  Inv X J Y (bn H p (.lst ys)) { s with heap:=s.heap.update p f,toks:=t }:=by
 have e:(s.heap.update p f).get? p=ba { cls:=.type "list",data:=.seq its'.toArray n' }:=by
  rw[Ly f ho (by rw[hf] <;> rfl),hf]
 show I.write (x:=p) (e:=p) (by rw[h]; trivial) (.inl rfl) (λb u hb q=>(KD _ _ (Ne.symm hb)).trans q) #[_,e] ?_
 exact#[hz,its',n',r,e]
abbrev FC:V->V->V->Hp->(Hp->Prop)->Prop:=λo i v H Q=>∃p xs k j,o=.ref p/\i=.int k/\H p=ba (.lst xs)/\rS xs.length k=ba j/\Q (bn H p (.lst (xs.set j v)))
def vR:CT X FC:=by
 intro J s Y H o i v ov iv u Q I ro ri rv h;obtain⟨p,xs,k,j,rfl,rfl,hp,hj,q⟩:=h;cases ro;obtain⟨t,rfl⟩:=ri;obtain⟨its,n,r,ho,hz⟩:=I.lst hp;obtain⟨h1,h2,h3,h4⟩:=rT hj;have hl:=r.length;have hn:=i8;have I':Inv X J Y (bn H p (.lst (xs.set j v))) { s with heap:=s.heap.update p (Lc (·.setIfInBounds j u)) }:=
  I.lstUpd hp ho (qM its n j u) (r.set rv j) (by rw[List.length_set]; exact hz) s.toks
 by_cases h0:0<=k
 ·have hk:k.toNat=j:=by
   rw[QV h0 h4]at h1;exact Kw h1
  exact PySem.W.ki_setAt ho h0 ∅ (by rw[JJ,<- hl]; exact h4) (by rw[hk]; exact#[_,I',q])
 ·have hk:(k+(its.toArray.size:JG)).toNat=j:=by
   rw[Qh ∅ h3]at h1
   rw[JJ,<- hl];exact Kw h1
  exact PySem.W.ki_setBack ho ∅ (by rw[JJ,<- hl]; exact h3) ∅ (by rw[hk]; exact#[_,I',q])
def mU (lo hi:Jq JG)(n:Jr):(sliceBounds lo hi gV n).1=((HT.bW n 0 lo:Jr):JG)/\(sliceBounds lo hi gV n).2.1=((HT.bW n n hi:Jr):JG)/\(sliceBounds lo hi gV n).2.2=1:=by
 show#[?_,?_,rfl]
 ·cases lo with
  | none=>simp[sliceBounds,HT.bW]
  | some i=>
   simp only[sliceBounds,HT.bW,Om,show(1:JG) > 0 by decide,Mf]
   by_cases h:i < 0
   ·simp only[h,Mf] <;> omega
   ·simp only[h,L6] <;> omega
 ·cases hi with
  | none=>simp[sliceBounds,HT.bW]
  | some i=>
   simp only[sliceBounds,HT.bW,Om,show(1:JG) > 0 by decide,Mf]
   by_cases h:i < 0
   ·simp only[h,Mf] <;> omega
   ·simp only[h,L6] <;> omega
def lw (its:Jj Jm)(lo hi:Jq JG):slicePick its.toArray lo hi gV=((its.drop (HT.bW its.length 0 lo)).take (HT.bW its.length its.length hi - HT.bW its.length 0 lo)).toArray:=by
 obtain⟨h1,h2,h3⟩:=mU lo hi its.toArray.size;unfold slicePick;rw[h1,h2,h3];simp only[sliceRange_one,pick_run,JJ] <;> rfl
abbrev HL (K:Jz):V->Jq JG->Jq JG->Hp->VK->Prop:=λx lo hi H Q=>∃a xs,x=.ref a/\SqL K H a xs/\∀p,H p=gV->Q (.ref p) (bn H p (.lst (j5 xs lo hi)))
def zS:Fz X (HL X.K):=by
 intro J s Y H x v vl vu lo hi sl Q I rx hs pl pu h;obtain⟨a,xs,rfl,hx,q⟩:=h;cases rx;obtain⟨its,r,ht,hz⟩:=I.list hx;have hlen:=r.length;show#["list",_,slot_list_getitem.lookup,ht.isList.typeIs,?_];show wpAny_getItem_list_slice ht.isList hs pl pu .none (by simp) ?_ (by rw[JJ] <;> omega)
 rw[lw,<- hlen];show#[.ref s.heap.objs.size,_,I.laid (t':=s.toks) (o:=.lst (j5 xs lo hi)) (λb ob q=>Jn _ q) (Jy _) ?_,rfl,q _ (I.hok.fresh (Jy _))]
 exact#[J8 (jx xs lo hi) hz,_,0,(r.drop (HT.bW xs.length 0 lo)).take (HT.bW xs.length xs.length hi - HT.bW xs.length 0 lo),JF _ rfl]
abbrev gO:V->J1
 | .non=>true
 | .bl _=>true
 | .int _=>true
 | .str _=>true
 | _=>false
abbrev zT:V->V->J1
 | .non,.non=>true
 | .bl a,.bl b=>a==b
 | .bl a,.int b=>(if a then 1 else 0)==b
 | .int a,.bl b=>a==(if b then 1 else 0)
 | .int a,.int b=>a==b
 | .str a,.str b=>a==b
 | _,_=>false
def Dk {A:Ke}{s:Jp}{y x:V}{u v:Jm}(ry:RelV y u)(rx:RelV x v)(fy:gO y=true)(fx:gO x=true):Ni A s u v (zT y x):=by
 cases y with
 | non=>
  cases ry;cases x with
  | non=>cases rx; exact SQ _
  | bl b=>cases rx; exact R7 b
  | int b=>obtain⟨t,rfl⟩:=rx; exact Sh b t
  | str b=>obtain⟨t,rfl⟩:=rx; exact Si b t
  | _=>exact absurd (show false=true from fx) JP
 | bl a=>
  cases ry;cases x with
  | non=>cases rx; exact R8 a
  | bl b=>cases rx; exact R9 a b
  | int b=>obtain⟨t,rfl⟩:=rx; exact Sj a b t
  | str b=>obtain⟨t,rfl⟩:=rx; exact Sk a b t
  | _=>exact absurd (show false=true from fx) JP
 | int a=>
  obtain⟨t',rfl⟩:=ry;cases x with
  | non=>cases rx; exact Sl a t'
  | bl b=>cases rx; exact Sn a t' b
  | int b=>obtain⟨t,rfl⟩:=rx; exact Sv a t' b t
  | str b=>obtain⟨t,rfl⟩:=rx; exact PM a t' b t
  | _=>exact absurd (show false=true from fx) JP
 | str a=>
  obtain⟨t',rfl⟩:=ry;cases x with
  | non=>cases rx; exact So a t'
  | bl b=>cases rx; exact Sq a t' b
  | int b=>obtain⟨t,rfl⟩:=rx; exact PN a t' b t
  | str b=>obtain⟨t,rfl⟩:=rx; exact Sw a t' b t
  | _=>exact absurd (show false=true from fx) JP
 | _=>exact absurd (show false=true from fy) JP
abbrev ox (x:V)(u:Jm):J1:=match u with
 | .none=>zT .non x
 | .bool b=>zT (.bl b) x
 | .int i _=>zT (.int i) x
 | .str z _=>zT (.str z) x
 | _=>false
def qN {x y:V}{u:Jm}(r:RelV y u)(f:gO y=true):ox x u=zT y x:=by
 cases y with
 | non=>cases r; rfl
 | bl b=>cases r; rfl
 | int i=>obtain⟨t,rfl⟩:=r; rfl
 | str z=>obtain⟨t,rfl⟩:=r; rfl
 | _=>exact absurd (show false=true from f) JP
def ii {x:V}:∀ {xs:Jj V} {us:Jj Jm},Vals xs us->xs.all gO=true->us.any (ox x)=xs.any λy=>zT y x
 | _,_,.nil,_=>rfl
 | y::xs,u::us,.cons r t,f=>by
  rw[Kl,Js]at f;rw[LU,LU,qN r f.1,ii t f.2]
def dM {A:Ke}{s:Jp}{x:V}{v:Jm}(rx:RelV x v)(fx:gO x=true):∀ {xs:Jj V} {us:Jj Jm},Vals xs us->xs.all gO=true->∀u∈us,Ni A s u v (ox x u)
 | _,_,.nil,_=>λu hu=>by cases hu
 | y::xs,u::us,.cons r t,f=>λu' hu=>by
  rw[Kl,Js]at f;rcases JC.mp hu with rfl|hu
  ·rw[qN r f.1]; exact Dk r rx f.1 fx
  ·exact dM rx fx t f.2 u' hu
abbrev Hg (x:V)(xs:Jj V):J1:=xs.any λy=>zT y x
abbrev HM (K:Jz)(neg:J1):R2:=λx y H Q=>∃p xs,y=.ref p/\(SqL K H p xs\/SqT K H p xs)/\gO x=true/\xs.all gO=true/\Q (.bl (if neg then !Hg x xs else Hg x xs)) H
def ue:OpR X (compareOp .In) (HM X.K false):=by
 intro J s Y H x y v u Q I rx ry h;obtain⟨p,xs,rfl,hq,fx,fs,q⟩:=h;cases ry;rcases hq with hq|hq
 ·obtain⟨its,r,pl,hz⟩:=I.list hq;show Q5 (ox x) pl.isList (λw hw=>dM rx fx r fs w (by simpa using hw)) #[.bl _,H,I,rfl,?_]
  rw[show its.toArray.any (ox x)=its.any (ox x) by simp,ii r fs]
  exact q
 ·obtain⟨its,r,pl,hz⟩:=I.tuple hq;show QE (ox x) pl (λw hw=>dM rx fx r fs w (by simpa using hw)) #[.bl _,H,I,rfl,?_]
  rw[show its.toArray.any (ox x)=its.any (ox x) by simp,ii r fs]
  exact q
def mV:OpR X (compareOp .NotIn) (HM X.K true):=by
 intro J s Y H x y v u Q I rx ry h;obtain⟨p,xs,rfl,hq,fx,fs,q⟩:=h;cases ry;rcases hq with hq|hq
 ·obtain⟨its,r,pl,hz⟩:=I.list hq;show PY (ox x) pl.isList (λw hw=>dM rx fx r fs w (by simpa using hw)) #[.bl _,H,I,rfl,?_]
  rw[show its.toArray.any (ox x)=its.any (ox x) by simp,ii r fs]
  exact q
 ·obtain⟨its,r,pl,hz⟩:=I.tuple hq;show SeqAt.notIn_tupleAt (ox x) pl (λw hw=>dM rx fx r fs w (by simpa using hw)) #[.bl _,H,I,rfl,?_]
  rw[show its.toArray.any (ox x)=its.any (ox x) by simp,ii r fs]
  exact q
def mW:CallR X (.type "list") (λxs H Q=>∃p ys,xs=[.ref p]/\(SqL X.K H p ys\/SqT X.K H p ys)/\∀l,H l=gV->Q (.ref l) (bn H l (.lst ys))):=by
 intro J s Y H xs us Q I r h;obtain⟨p,ys,rfl,hq,q⟩:=h;obtain⟨u,rfl,rx⟩:=jY r;cases rx;have fin:∀(its:Jj Jm),Vals ys its->ys.length<=sizeLine->∀(h':Kn) (c':Jr),(∀b o',s.heap.get? b=ba o'->h'.get? b=ba o')->
   h'.get? s.heap.objs.size=ba { cls:=.type "list",dict:=gV,data:=.seq its.toArray c',slots:=#[] }->EP X J Y Q (.ref s.heap.objs.size) { s with heap:=h' }:=λits r' hz h' c' kp e=>
  #[.ref s.heap.objs.size,_,I.laid (t':=s.toks) kp (Jy _) (show ObjOk X.prog X.w _ h' _ (.lst ys)from#[hz,its,c',r',e]),rfl,q _ (I.hok.fresh (Jy _))]
 rcases hq with hq|hq
 ·obtain⟨its,r',pl,hz⟩:=I.list hq;have hlen:=r'.length;obtain⟨o,ho,hc,n,hd⟩:=pl.isList;exact RE p (.inl rfl) ho hc hd (λh' c' kp e=>fin its r' hz h' c' kp e) (by simp only[JJ] <;> omega)
 ·obtain⟨its,r',pl,hz⟩:=I.tuple hq;have hlen:=r'.length;obtain⟨o,ho,hc,n,hd⟩:=pl;exact RE p (.inr rfl) ho hc hd (λh' c' kp e=>fin its r' hz h' c' kp e) (by simp only[JJ] <;> omega)
def gP:CallR X (.type "tuple") (λxs H Q=>∃p ys,xs=[.ref p]/\((SqL X.K H p ys/\∀l,H l=gV->Q (.ref l) (bn H l (.tup ys)))\/(SqT X.K H p ys/\Q (.ref p) H))):=by
 intro J s Y H xs us Q I r h;obtain⟨p,ys,rfl,h⟩:=h;obtain⟨u,rfl,rx⟩:=jY r;cases rx;rcases h with⟨hq,q⟩|⟨hq,q⟩
 ·obtain⟨its,r',pl,hz⟩:=I.list hq;have hlen:=r'.length;show call_tuple_list pl.isList (λh' kp=>?_) (by simp only[JJ] <;> omega)
  have I1:Inv X J Y H { s with heap:=h' }:=I.kept (t':=s.toks) kp
  have I2:Inv X J Y (bn H h'.objs.size (.tup ys)) { s with heap:=h'.push { cls:=.type "tuple",data:=.seq its.toArray } }:=
   I1.laid (t':=s.toks) (λb o e=>Jn _ e) (Jy _) (show ObjOk X.prog X.w _ _ _ (.tup ys)from#[#[hz,NoD.new _ _ _],its,r',QA _ _])
  exact#[.ref h'.objs.size,_,I2,rfl,q _ (I1.hok.fresh (Jy _))]
 ·obtain⟨its,r',pl,hz⟩:=I.tuple hq;exact call_tuple_same pl #[.ref p,H,I,rfl,q]
abbrev HN (K:Jz)(T:KY)(x:V)(H:Hp):Prop:=match x with
 | .str _=>T = "str"
 | .int _=>T = "int"
 | .ref p=>(T = "list"/\∃xs,SqL K H p xs)\/(T = "tuple"/\∃o,K.lookup p=ba o/\o.cls=.type "tuple"/\o.dict=gV)\/
   (T = "dict"/\((∃U,H p=ba (.dK U))\/∃U,H p=ba (.dT U)))\/(T = "set"/\∃S n,H p=ba (.set S n))
 | _=>KP
def vS {J:Jj (Ju×La)}{Y:St}{H:Hp}{s:Jp}{T:KY}{x:V}{v:Jm}(I:Inv X J Y H s)(r:RelV x v)(ty:HN X.K T x H) :
  s.TypeIs v T/\∀a,v=.ref a->∃ob,s.heap.get? a=ba ob/\ob.dict=gV:=by
 cases x with
 | str z=>
  obtain⟨t,rfl⟩:=r;cases(show T = "str" from ty)
  exact#[PX s z t,λ_ e=>nomatch e]
 | int i=>
  obtain⟨t,rfl⟩:=r;cases(show T = "int" from ty)
  exact#[Ri s i t,λ_ e=>nomatch e]
 | ref p=>
  cases r;rcases ty with⟨rfl,xs,hq⟩|⟨rfl,o,hk,hc,hd⟩|⟨rfl,hk⟩|⟨rfl,S,n,hk⟩
  ·obtain⟨its,_,pl,_⟩:=I.list hq;show#[pl.isList.typeIs,λa e=>?_]
   cases e;obtain⟨o,n,e,c,hd,_⟩:=pl;exact#[o,e,hd]
  ·show#[#[o,I.kIn p o hk,hc],λa e=>?_]
   cases e;exact#[o,I.kIn _ o hk,hd]
  ·have z:∃o,s.heap.get? p=ba o/\o.ExactDict:=by
    rcases hk with⟨U,hk⟩|⟨U,hk⟩
    ·obtain⟨_,_,_,_,o,_,_,e,ex,_⟩:=I.hok p _ hk;exact#[o,e,ex]
    ·obtain⟨_,_,_,_,o,_,_,e,ex,_⟩:=I.hok p _ hk;exact#[o,e,ex]
   obtain⟨o,e,ex⟩:=z;show#[#[o,e,ex.1],λa e2=>?_]
   cases e2;exact#[o,e,ex.2.1]
  ·obtain⟨o,_,_,_,e,ex,_⟩:=I.hok p _ hk;show#[#[o,e,ex.1],λa e2=>?_]
   cases e2;exact#[o,e,ex.2.1]
 | _=>exact KP.elim ty
variable{o e:JR}{es:Jj JR}{to:TE}{t:TA}{name:JA}{apos cpos:LN}{T id:KY}{r:V->Jj V->Hp->VK->Prop}
end
abbrev HP (X:Cx)(id:KY)(r:V->Jj V->Hp->VK->Prop):Prop:=
 ∀(J:Jj (Ju×La)) (s:Jp) (Y:St) (H:Hp) (x:V) (xs:Jj V) (v:Jm) (us:Jj Jm) (Q:VK),Inv X J Y H s->RelV x v->Vals xs us->r x xs H Q->
  wpAny (model X.prog X.w) X.A (call (.builtin id) (v::us)) (EP X J Y Q) X.xe s
def Vals.one:∀ {x:V} {us:Jj Jm},Vals [x] us->∃u,us=[u]/\RelV x u
 | _,_,.cons r .nil=>#[_,rfl,r]
def Vals.eraseIdx:∀ {xs:Jj V} {us:Jj Jm} (i:Jr),Vals xs us->Vals (xs.eraseIdx i) (us.eraseIdx i)
 | _,_,_,.nil=>.nil
 | _,_,0,.cons _ t=>t
 | _,_,i+1,.cons r t=>.cons r (Vals.eraseIdx i t)
def Vals.rep {xs:Jj V}{us:Jj Jm}(h:Vals xs us):∀k:Jr,Vals (Kg k xs).flatten (Kg k us).flatten
 | 0=>.nil
 | k+1=>by
  rw[Lf,Lf,L7,L7];exact Vals.append h (Vals.rep h k)
def lI {α:Type}:∀(l:Jj α) (i:Jr),(l.eraseIdx i).length<=l.length
 | [],_=>Jy _
 | _::_,0=>LV _
 | _::r,i+1=>Nj (lI r i)
def lJ (its:Jj Jm):∀(k:Jr) (acc:Jj Jm),
  Rj (λx1 x2=>x1++x2) acc.toArray (Kg k its.toArray)=(acc++(Kg k its).flatten).toArray
 | 0,acc=>by simp
 | k+1,acc=>by
  have e:acc.toArray++its.toArray=(acc++its).toArray:=by simp
  have e2:(acc++its)++(Kg k its).flatten=acc++(Kg (k+1) its).flatten:=by
   rw[Lf,L7,KS]
  rw[<- e2,<- lJ its k (acc++its),<- e,Lf,OL]
section
variable{X:Cx}{J:Jj (Ju×La)}{Y:St}{H:Hp}{s:Jp}{l b:Ju}{xs ys zs:Jj V}
def Inv.lset {its its':Jj Jm}{n:Jr}{f:Ki Jm->Ki Jm}{t':Jr}(I:Inv X J Y H s)(hH:H l=ba (.lst xs))
  (e:s.heap.get? l=ba { cls:=.type "list",data:=.seq its.toArray n }) (hf:f its.toArray=its'.toArray) (hv:Vals ys its') (hz:ys.length<=sizeLine) :
  Inv X J Y (bn H l (.lst ys)) { s with heap:=s.heap.update l (Lc f),toks:=t' }:=by
 have q:=QF e f;rw[hf]at q;show I.write (x:=l) (e:=l) (by rw[hH]; exact trivial) (.inl rfl) (λb' u hb hu=>(KD s.heap (Lc f) (Ne.symm hb)).trans hu) #[_,q] ?_
 exact#[hz,its',_,hv,q]
def Inv.lnew {its:Jj Jm}{t':Jr}(I:Inv X J Y H s)(hv:Vals ys its)(hz:ys.length<=sizeLine) :
  Inv X J Y (bn H s.heap.objs.size (.lst ys)) { s with heap:=s.heap.push { cls:=.type "list",data:=.seq its.toArray },toks:=t' }:=
 I.laid (λ_ _ q=>Jn _ q) (Jy _) #[hz,its,0,hv,JF _ rfl]
def Inv.fresh (I:Inv X J Y H s):H s.heap.objs.size=gV:=I.hok.fresh (Jy _)
def Inv.lstM (I:Inv X J Y H s)(hH:H l=ba (.lst xs)):xs.length<=sizeLine/\∃(its:Jj Jm) (n:Jr),Vals xs its/\xs.length=its.length/\s.heap.get? l=ba { cls:=.type "list",data:=.seq its.toArray n }:=by
 obtain⟨z,its,n,r,e⟩:=I.hok l _ hH;exact#[z,its,n,r,r.length,e]
def oM {n:Jr}(h:n<=sizeLine):L9 n=false:=by
 unfold L9;exact J4 ∅
end
section
variable{X:Cx}
abbrev zU:V->Jj V->Hp->VK->Prop:=λx vs H Q=>∃l xs y,x=.ref l/\vs=[y]/\H l=ba (.lst xs)/\xs.length < sizeLine/\Q .non (bn H l (.lst (xs++[y])))
def uf:HP X "list.append" zU:=by
 intro J s Y H x vs v us Q I rx rv h;obtain⟨l,xs,y,rfl,rfl,hH,hz,q⟩:=h;cases rx;obtain⟨u,rfl,ru⟩:=rv.one;obtain⟨z,its,n,r,hl,e⟩:=I.lstM hH;show MD F.slot_list_append #[_,e,rfl] F.entry_list_append (F.args_list_append_2 _ _) (Qi l its.toArray n u (by rw[JJ]; omega)) #[e,?_]
 show#[.non,_,I.lset (its':=its++[u]) hH e (by simp) (r.append #v[ru]) ?_,rfl,q]
 rw[Jw,Nf];omega
abbrev zV:V->Jj V->Hp->VK->Prop:=λx vs H Q=>∃l b xs zs,x=.ref l/\vs=[.ref b]/\H l=ba (.lst xs)/\H b=ba (.lst zs)/\xs.length+zs.length<=sizeLine/\Q .non (bn H l (.lst (xs++zs)))
def ug:HP X "list.extend" zV:=by
 intro J s Y H x vs v us Q I rx rv h;obtain⟨l,b,xs,zs,rfl,rfl,hH,hB,hz,q⟩:=h;cases rx;obtain⟨u,rfl,ru⟩:=rv.one;cases ru;obtain⟨z,its,n,r,hl,e⟩:=I.lstM hH;obtain⟨z2,its2,n2,r2,hl2,e2⟩:=I.lstM hB;have hsz:its.toArray.size+its2.toArray.size<=sizeLine:=by rw[JJ,JJ]; omega
 have hlong:¬ (!its.toArray.isEmpty&&L9 (its.toArray.size+its2.toArray.size))=true:=by
  rw[oM hsz,Bool.and_false];exact JP
 show MD F.slot_list_extend #[_,e,rfl] F.entry_list_extend (F.args_list_extend_2 _ _)
  (Qj l its.toArray n b its2.toArray n2 hlong (by rw[JJ]; omega) ∅) #[e,e2,?_]
 show#[.non,_,I.lset (its':=its++its2) hH e (by simp) (r.append r2) ?_,rfl,q]
 rw[Jw];omega
abbrev Dl:V->Jj V->Hp->VK->Prop:=λx vs H Q=>∃l xs i k y,x=.ref l/\vs=[.int i]/\H l=ba (.lst xs)/\-(2 ^ 63)<=i/\i < 2 ^ 63/\seqIndex? i xs.length=ba k/\xs[k]?=ba y/\Q y (bn H l (.lst (xs.eraseIdx k)))
def vT:HP X "list.pop" Dl:=by
 intro J s Y H x vs v us Q I rx rv h;obtain⟨l,xs,i,k,y,rfl,rfl,hH,h1,h2,hk,hy,q⟩:=h;cases rx;obtain⟨u,rfl,ru⟩:=rv.one;obtain⟨t,rfl⟩:=ru;obtain⟨z,its,n,r,hl,e⟩:=I.lstM hH;obtain⟨w,hw,rw'⟩:=r.get hy;show MD F.slot_list_pop #[_,e,rfl] F.entry_list_pop (F.args_list_pop_2 _ _)
  (Sc l its.toArray n i t k w (Rk h1 h2) (by rw[JJ,<- hl]; exact hk) (by rw[<- KJ]; exact hw) (by rw[JJ]; omega)) #[e,?_]
 show#[y,_,I.lset (its':=its.eraseIdx k) hH e ?_ (r.eraseIdx k) ?_,rw',q]
 ·change its.toArray.eraseIdxIfInBounds k=(its.eraseIdx k).toArray;rw[List.eraseIdxIfInBounds_toArray]
 ·have:=lI xs k;omega
abbrev HQ:R2:=λx y H Q=>∃l b xs zs,x=.ref l/\y=.ref b/\H l=ba (.lst xs)/\H b=ba (.lst zs)/\xs.length+zs.length<=sizeLine/\∀p,H p=gV->Q (.ref p) (bn H p (.lst (xs++zs)))
def Dm:OpR X (binaryOp .Add) HQ:=by
 intro J s Y H x y v u Q I rx ry h;obtain⟨l,b,xs,zs,rfl,rfl,hH,hB,hz,q⟩:=h;cases rx;cases ry;obtain⟨z,its,n,r,hl,e⟩:=I.lstM hH;obtain⟨z2,its2,n2,r2,hl2,e2⟩:=I.lstM hB;show PySem.P.add_list e e2 ?_ (by rw[JJ,JJ]; omega)
 have ea:its.toArray++its2.toArray=(its++its2).toArray:=by simp
 rw[ea];exact#[.ref _,_,I.lnew (t':=s.toks) (r.append r2) (by rw[Jw]; omega),rfl,q _ I.fresh]
abbrev HR:R2:=λx y H Q=>∃l k xs,x=.ref l/\y=.int k/\H l=ba (.lst xs)/\-(2 ^ 63)<=k/\k < 2 ^ 63/\xs.length*k.toNat<=sizeLine/\
 ∀p,H p=gV->Q (.ref p) (bn H p (.lst (Kg k.toNat xs).flatten))
def zW {α:Type}(xs:Jj α)(k:Jr):(Kg k xs).flatten.length=k*xs.length:=by
 induction k with
 | zero=>simp
 | succ k ih=>rw[Lf,L7,Jw,ih,Qk,Nat.add_comm]
def Do:OpR X (binaryOp .Mult) HR:=by
 intro J s Y H x y v u Q I rx ry h;obtain⟨l,k,xs,rfl,rfl,hH,h1,h2,hz,q⟩:=h;cases rx;obtain⟨t,rfl⟩:=ry;obtain⟨z,its,n,r,hl,e⟩:=I.lstM hH;have hlen:its.toArray.size*k.toNat<=sizeLine:=by rw[JJ,<- hl]; exact hz
 have hcap:¬ its.toArray.size*k.toNat > (2 ^ 63 - 1) / 8:=by
  have:(sizeLine:Jr)<=(2 ^ 63 - 1) / 8:=by decide
  omega
 have hfit:¬ (!Rl k)=true:=by
  rw[Rk h1 h2];exact JP
 have hlong:¬ L9 (its.toArray.size*k.toNat)=true:=by
  rw[oM hlen];exact JP
 have hnew:Rj (λx1 x2=>x1++x2) #[] (Kg (if its.toArray.isEmpty=true then 0 else k.toNat) its.toArray)=(Kg k.toNat its).flatten.toArray:=by
  have f0:∀m:Jr,Rj (λx1 x2=>x1++x2) #[] (Kg m its.toArray)=(Kg m its).flatten.toArray:=λm=>by
   have:=lJ its m [];rw[Q6]at this;exact this
  rw[f0];cases its with
  | nil=>simp
  | cons a r'=>rw[JZ (by simp)]
 show wpAny_binaryOp_repeat_ref (T:="list") (U:="int") #v[] #[_,e,rfl] (λs'=>Ri s' k t) noFill_list_mul F.fills_int_mul F.slot_int_rmul repeat_list F.slot_int_index.lookup
  (MD F.slot_int_rmul (Ri s k t) F.entry_int_rmul (F.args_int_rmul_2 _ _) (int___rmul___int_list k t l its.toArray n)
   #[e,rfl,#[_,e,rfl],MD F.slot_list_mul #[_,e,rfl] F.entry_list_mul (F.args_list_mul_2 _ _) (P7 l its.toArray n k t hfit hcap hlong) #[e,?_]])
 rw[hnew];exact#[.ref _,_,I.lnew (t':=s.toks) (r.rep k.toNat) (by rw[zW,Nat.mul_comm]; exact hz),rfl,q _ I.fresh]
end
section
variable{X:Cx}{J:Jj (Ju×La)}{Y:St}{H:Hp}{s:Jp}{a:Ju}{y v:V}{u r:Jm}{o:Jq V}{A:Ke}{E:Jm->Jp->Prop}
def Inv.big (I:Inv X J Y H s):sysModules < s.heap.objs.size:=by
 have h:mainGlobals < s.heap.objs.size:=(I.mod.glob.keeps I.bk).lt;exact Nat.lt_trans #v[] h
def mX {h':Kn}{t':Jr}{ob:HO}(I:Inv X J Y H s)(mu:E5 (H a))(hs:LC a s.heap h')(he:∃q,h'.get? a=ba q)(new:ObjOk X.prog X.w (bn H a ob) h' a ob) :
  Inv X J Y (bn H a ob) { s with heap:=h',toks:=t' }:=
 I.write (x:=a) (e:=a) mu (.inl rfl) (λb q hb z=>(hs.2 b hb).trans z) he new
end
noncomputable abbrev VV:Jj (V×V)->Jj (Jm×Jm)->Prop:=Ou λp q=>RelV p.1 q.1/\RelV p.2 q.2
end L2
namespace Att
open PySem PySem.W PySem.Calls PyProof.Rows
def jL {P:O4}{h:Kn}:∀(ns:Jj JG) (vs:Jj Jm),WellAll P h vs (ns.map WData.int)->Re vs ns:=by
 intro ns
 induction ns with
 | nil=>
  intro vs w;rw[Ox]at w;cases w;exact .nil
 | cons n ns ih=>
  intro vs w;rw[JS]at w;cases w with
  | cons a b=>
   cases a;exact .cons _ _ (ih _ b)
def uh {l:OpenLaw}{n:Jr}(hn:l.most=ba n){P:O4}{h:Kn}{args:Jj WData}{vals:Jj Jm}
  (hpre:l.row.toRowW.claim.pre args=true) (hwl:WellAll P h vals args) :
  ∃a vs ns,vals=[Km a]/\args=[WData.list (ns.map WData.int)]/\h.get? a=ba { cls:=.type "list",data:=.seq vs.toArray }/\Re vs ns/\ns.length<=n:=by
 have hsh:WShape.hasAll [] args [.list .int]=true:=(pre_splitW hpre).1;have hc:l.pre.holds [] { args:=args }=true:=(pre_splitW hpre).2;obtain⟨d,r,rfl,h1,h2⟩:=hasAllW_cons hsh;obtain rfl:=hasAllW_nil h2;obtain⟨xs,rfl,h3⟩:=hasW_list h1;obtain⟨ns,rfl⟩:=items_int h3;have hlen:ns.length<=n:=by
  unfold OpenLaw.pre at hc;have h4:(WTm.not (.lt (.lit (.int (n:JG))) (.len (.arg 0)))).holds [] { args:=[.list (ns.map .int)] }=true:=by
   have h4:=(holds_andW hc).1;rw[hn]at h4;exact h4
  have h5:=condW_of h4 (w_not (w_lt w_lit (w_len_list (w_arg rfl))));rw[Jl]at h5;show Nat.le_of_not_lt λq=>?_
  have q':(n:JG) < ((ns.length:Jr):JG):=∅
  first
   | (rw[J6 q']at h5; exact absurd h5 #v[])
   | (simp at h5; omega)
 cases hwl with
 | cons w1 w2=>
  cases w2;cases w1 with
  | list ho hall=>exact#[_,_,ns,rfl,rfl,ho,jL ns _ hall,hlen]
def uj (l:OpenLaw)(args:Jj WData):l.row.toRowW.claim.post args (.bool true) args=true:=
 postW_of (r:=l.row.toRowW) (X:=(true==true))
  (show WShape.has [] (.bool true) .bool=true by first|rfl|decide|simp[WShape.has,WShape.arms,WShape.armsAll])
  (show(WTm.eq .res (.lit (.bool true))).value [] { args:=args,res:=ba (.bool true),after:=args }=ba (.bool (true==true))from w_eq_bool (w_res rfl) w_lit) rfl
def attach_call {l:OpenLaw}{n:Jr}{q:J2}{loose:Jj JA}{XP:(JA->Jq Jm)->Kn->Prop}{YP:Kf->Kn->Prop}{d:DefRec}
  (hn:l.most=ba n) (hdf:d.params.defaults=[])
  (call:∀(w:Kf) (s₀ s₁:Jp) (mg mb:JA->Jq Jm) (fa:Ju) (o:La) (pm cd doc:Jm) (a:Ju) (vs:Jj Jm) (ns:Jj JG),
   Ground q loose [] XP w s₀ mg mb s₁.heap->YP w s₁.heap->
   s₁.heap.get? fa=ba o->o.data=.func (docDef d.name d.params d.body d.scope pm cd doc)->s₁.heap.CodeRec cd d.name->mg d.name=ba (.ref fa)->
   s₁.heap.get? a=ba { cls:=.type "list",data:=.seq vs.toArray }->Re vs ns->ns.length<=n->s₁.gens=#[]->
   codeAny (model l.prog w) callerA (.call (.ref fa) #[[.ref a],[]]) (λr s'=>r=.ok (.ret (.bool true))/\OldK s₁.heap s'.heap/\s'.os=s₁.os/\N7 s'.gens) s₁) :
  WalkO q loose XP YP l.row.toRowW d [] (λf vs=>Rm f vs):=by
 intro w s₀ s₁ mg mb G Yq fa o pm cd doc dV kV ho hd hcd hD hmg hg args vals as hpre hlay hrd hwl hlo;obtain rfl:dV=.none:=Dflts.none hD hdf;obtain rfl:kV=.none:=Dflts.noKw hD;obtain⟨a,vs,ns,rfl,rfl,hobj,hints,hlen⟩:=uh hn hpre hwl;show enter_call (M5 (call w s₀ s₁ mg mb fa o pm cd doc a vs ns G Yq ho (fd_plain hd) hcd hmg hobj hints hlen hg) λr s' hq=>?_)
 obtain⟨rfl,h2,h3,h4⟩:=hq;exact#[.inl #[.bool true,.bool true,[],rfl,λ_=>rfl,.bool true,uj l _,λ_=>#[SF,λ_ hm=>(nomatch hm)]],h2,h3,h4]
end Att
namespace L2
open PySem PySem.Spec PyProof.Rows
def lK:∀ {vs:Jj Jm} {ns:Jj JG},Re vs ns->Vals (ns.map V.int) vs
 | _,_,.nil=>.nil
 | _,_,.cons n t h=>.cons #[t,rfl] (lK h)
abbrev vU (H:Hp):Prop:=∀b,H b=gV\/∃o xs,H b=ba (.frz o (.lst xs))
def vV {P:J2}{w:Kf}{K:Jz}{mg mb:JA->Jq Jm}{CX:vL}{k:Jr}{fa a:Ju}{fd:LX}{x:JA}{sp:Sp}{s₁:Jp}{vs:Jj Jm}{ns:Jj JG}
  (KX:K.In s₁.heap) (hns:s₁.heap.Ns mainGlobals mg) (hb:s₁.heap.Ns builtinsNs mb) (hbb:∀x:JA,x≠"__name__"->mb x=bootBuiltins x) (hlim:s₁.heap.NoLimit) (hg:s₁.gens=#[])
  (ha:s₁.heap.get? a=ba { cls:=.type "list",data:=.seq vs.toArray }) (hi:Re vs ns) (hl:ns.length<=sizeLine) (hr:Room k callerA)
  (F:∀base:Kn,K.In base->base.Ns mainGlobals mg->FnOk P w K mg base CX k fa fd [x] sp) (hbind:∀(s:Jp) (u:Jm),Qd s fd #[[u],[]] [(x,u)])
  (hsp:∀H:Hp,vU H->SqL K H a (ns.map V.int)->sp [.ref a] H (λv _=>v=.bl true) λ_ _ _=>KP)
  (hCX:∀H e s',CX [] H s₁ (λ_ _ _=>KP) e s'->KP) :
  codeAny (model P w) callerA (.call (.ref fa) #[[.ref a],[]]) (λr s'=>r=.ok (.ret (.bool true))/\OldK s₁.heap s'.heap/\s'.os=s₁.os/\N7 s'.gens) s₁:=by
 have rv:=lK hi;have lenV:=hi.length;have core:∀H:Hp,vU H->SqL K H a (ns.map V.int)->HOk P w H s₁.heap->(∀b,H b≠gV->b=a)->(H a≠gV->K.lookup a=gV)->
   codeAny (model P w) callerA (.call (.ref fa) #[[.ref a],[]]) (λr s'=>r=.ok (.ret (.bool true))/\OldK s₁.heap s'.heap/\s'.os=s₁.os/\N7 s'.gens) s₁:=by
  intro H hO hS hok hA hK;have base_of:∀ {b:Ju} {o:La},s₁.heap.get? b=ba o->H b=gV->(mO s₁.heap H).get? b=ba o:=λe n=>vx e n
  have noA:∀ {b:Ju} {o:La} {es:Ki LJ} {ep:Jr},s₁.heap.get? b=ba o->o.data=.dict es ep->H b=gV:=λ{b o es ep} e d=>by
   cases q:H b with
   | none=>rfl
   | some u=>
    have e':b=a:=hA b (by rw[q]; simp)
    subst e';rw[ha]at e; cases e
    have d':Data.seq vs.toArray _=Data.dict es ep:=d;cases d'
  have nsK:∀ {b:Ju} {m:JA->Jq Jm},s₁.heap.Ns b m->(mO s₁.heap H).Ns b m:=λ{b m} #[o,es,ep,e,d,r]=>#[o,es,ep,base_of e (noA e d),d,r]
  have hKb:K.In (mO s₁.heap H):=λb o e=>base_of (KX b o e) (by
   cases q:H b with
   | none=>rfl
   | some u=>
    have e':b=a:=hA b (by rw[q]; simp)
    subst e';rw[hK (by rw[q]; simp)]at e; cases e)
  have hM:Mod K mg (mO s₁.heap H):=#[hKb,nsK hns,#[mb,nsK hb,hbb],let ⟨mc,h1,h2⟩:=hlim; #[mc,nsK h1,h2]]
  have e0:Env0 P w K mg (mO s₁.heap H) callerA [] s₁ H:=#[rfl,hM,λb o e=>zv e,Nat.le_of_eq (tU _ _),trivial,λb hb=>absurd (show b∈([]:Jj Ju)from hb) (by simp),hok,.of_eq hg]
  show M5 ((F _ hKb (nsK hns)).run callerA [] s₁ H #[[.ref a],[]] [.ref a] [.ref a] _ _ hr e0 (hbind s₁ (.ref a)) #v[rfl] (hsp H hO hS)) λr s' h=>?_
  cases r with
  | error e=>exact(hCX H e s' h).elim
  | ok fl=>
   cases fl with
   | next=>exact KP.elim h
   | brk=>exact KP.elim h
   | cont=>exact KP.elim h
   | ret u=>
    obtain⟨v,H',os,bare,un,hok',r',q⟩:=h;have q':v=.bl true:=q;subst q';obtain rfl:u=Le true:=r';show#[rfl,OldK.of_keep λb o e=>?_,os,bare]
    cases q:H b with
    | none=>exact un.keep b o e q (by intro z; exact absurd (show b∈([]:Jj Ju)from z) (by simp)) (by simp)
    | some u=>
     rcases hO b with z|⟨ob,xs,z⟩
     ·rw[q]at z; cases z
     ·have z2:=un.frzs b ob _ z;obtain⟨e1,_⟩:=hok b _ z;obtain⟨e2,_⟩:=hok' b _ z2;rw[e]at e1; cases e1
      exact e2
 cases hk:K.lookup a with
 | some o=>
  have e:=KX a o hk;rw[ha]at e;cases e;show core (λ_=>gV) (λ_=>.inl rfl) (.inr #[_,vs.toArray,_,hk,rfl,rfl,rfl,by rw[JJ,lenV]; exact hl,by simpa using rv]) (λb u z=>by have z':(gV:Jq HO)=ba u:=z; cases z') (λb z=>absurd rfl z) λz=>absurd rfl z
 | none=>
  show core (λb=>if b=a then ba (.frz { cls:=.type "list",data:=.seq vs.toArray } (.lst (ns.map V.int)))else gV) (λb=>?_) (.inl (.inr #[{ cls:=.type "list",data:=.seq vs.toArray },JO rfl])) (λb u z=>?_) (λb z=>?_) λ_=>hk
  ·by_cases hb:b=a
   ·exact .inr #[_,_,JO hb]
   ·exact .inl (JZ hb)
  ·by_cases hb:b=a
   ·have z':=(JO hb).symm.trans z;cases z';subst hb;exact#[ha,by rw[Jl]; exact hl,vs,_,rv,ha]
   ·have z':=(JZ hb).symm.trans z;cases z'
  ·by_cases hb:b=a
   ·exact hb
   ·exact absurd (JZ hb) z
def zX {l:OM}{n k:Jr}{q:J2}{loose:Jj JA}{XP:(JA->Jq Jm)->Kn->Prop}{YP:Kf->Kn->Prop}{d:DefRec}{K:O4->Jz}{CX:Kf->vL}{sp:Kf->Sp}{x:JA}
  (hn:l.most=ba n) (hn2:n<=sizeLine) (hdf:d.params.defaults=[]) (hr:Room k callerA)
  (hY:∀(w:Kf) (h:Kn),YP w h->(K w.params).In h)
  (F:∀(w:Kf) (mg:JA->Jq Jm) (fa:Ju) (h:Kn),(K w.params).In h->h.Ns mainGlobals mg->mg d.name=ba (.ref fa)->
   ∃fd:LX,(∀(s:Jp) (u:Jm),Qd s fd #[[u],[]] [(x,u)])/\
    ∀base:Kn,(K w.params).In base->base.Ns mainGlobals mg->FnOk l.prog w (K w.params) mg base (CX w) k fa fd [x] (sp w))
  (hsp:∀(w:Kf) (H:Hp) (a:Ju) (ns:Jj JG),ns.length<=n->vU H->SqL (K w.params) H a (ns.map V.int)->sp w [.ref a] H (λv _=>v=.bl true) λ_ _ _=>KP)
  (hCX:∀(w:Kf) (H:Hp) (s:Jp) (e:Jm) (s':Jp),CX w [] H s (λ_ _ _=>KP) e s'->KP) :
  RF q loose XP YP l.row.toRowW d [] (λf vs=>Rm f vs):=by
 show Att.attach_call hn hdf λw s₀ s₁ mg mb fa o pm cd doc a vs ns G Yq ho hd hcd hmg hobj hints hlen hg=>?_
 have KX:=hY w _ Yq;obtain⟨fd,hb,hF⟩:=F w mg fa _ KX G.T.g hmg;exact vV KX G.T.g G.T.b G.T.builtins G.T.nolimit hg hobj hints (J8 hlen hn2) hr hF hb (λH hO hS=>hsp w H a ns hlen hO hS) λH e s'=>hCX w H s₁ e s'
abbrev du (s:Mb):Arguments:=match s with
 | .FunctionDef _ a _ _ _ _ _ _ _ _=>a
 | _=>{ posonlyargs:=[],args:=[],vararg:=gV,kwonlyargs:=[],kw_defaults:=[],kwarg:=gV,defaults:=[] }
abbrev b7 (s:Mb):Jj Mb:=match s with
 | .FunctionDef _ _ b _ _ _ _ _ _ _=>b
 | _=>[]
abbrev aT (s:Mb):My:=match s with
 | .FunctionDef _ _ _ _ _ _ sc _ _ _=>sc
 | _=>{ kind:=.function,names:=[],isGenerator:=false,isCoroutine:=false }
noncomputable abbrev vt:vL:=λ_ _ _ _ _ _=>KP
noncomputable abbrev E0:XK:=λ_ _ _=>KP
def B1 {X:Cx}:mR vt X E0:=λ_ _ _ _ _ _ _ h=>h.elim
structure Fun (K:Jz)(x qual:JA)(st:Mb)(f:Ju)(fd:LX):Prop where
 ex:∃(oc:Jm) (od:Jq Ju) (kV doc pm:Jm) (an:Jq Ju) (cdv ct:Jm) (osl:Ki (Jq Jm)),
  fd=LD x qual (du st) (b7 st) (aT st) .none kV doc pm an cdv ct/\K.lookup f=ba #[oc,od,.func fd,osl]/\Mj K cdv qual=true
 kp:K1 K (.ref f)=true
section
variable{P:J2}{w:Kf}{K:Jz}{mg:JA->Jq Jm}{base:Kn}
def Fun.ok {x qual:JA}{st:Mb}{f:Ju}{fd:LX}{N ps:Jj JA}{k:Jr}{sp:Sp}(F:Fun K x qual st f fd)(S:FnScope N ps (aT st))(len:∀vs H Q E,sp vs H Q E->vs.length=ps.length)
  (hbody:∀(cdv:Jm) (A:Ke) (outer:Jj P9) (s:Jp) (H:Hp) (vs:Jj V) (Q:VK) (E:XK),Room k (A.deeper (envOfC qual (aT st) s.heap.objs.size f cdv))->sp vs H Q E->
   ∃t,PSs (qJ vt P w K mg base N qual (aT st) f cdv A outer s H E).nox (b7 st) t/\t { nx:=λ_ H'=>Q .non H',rt:=Q } (fP N vs) H):FnOk P w K mg base vt (k+1) f fd ps sp:=by
 obtain⟨oc,od,kV,doc,pm,an,cdv,ct,osl,rfl,lk,hcd⟩:=F.ex;show Fx lk hcd S len λA outer s H vs Q E hr hsp=>?_
 obtain⟨t,h,q⟩:=hbody cdv A outer s H vs Q E hr hsp;exact#[t,h.nox,q]
def Fun.binds {x qual:JA}{st:Mb}{f:Ju}{fd:LX}{ps:Jj JA}(F:Fun K x qual st f fd)
  (h:∀(kV doc pm:Jm) (an:Jq Ju) (cdv ct:Jm) (us:Jj Jm),us.length=ps.length->bindArgs (LD x qual (du st) (b7 st) (aT st) .none kV doc pm an cdv ct) #[us,[]]=pure (ps.zip us)):Binds K fd ps []:=by
 obtain⟨oc,od,kV,doc,pm,an,cdv,ct,osl,rfl,lk,hcd⟩:=F.ex;exact .all (h kV doc pm an cdv ct)
def vW {x qual:JA}{st:Mb}{f:Ju}{oc:Jm}{od an:Jq Ju}{osl:Ki (Jq Jm)}{kV doc pm cdv ct:Jm}(l:K.lookup f=ba #[oc,od,.func (LD x qual (du st) (b7 st) (aT st) .none kV doc pm an cdv ct),osl])
  (c:Mj K cdv qual=true) (k:K1 K (.ref f)=true):Fun K x qual st f (LD x qual (du st) (b7 st) (aT st) .none kV doc pm an cdv ct):=#[#[oc,od,kV,doc,pm,an,cdv,ct,osl,rfl,l,c],k]
end
section
variable{X:Cx}
def pv (i:Jr){x:JA}{pos:LN}(hN:X.N[i]?=ba x:=by rfl)(hv:Hd X.env.scope x)(hd:(x==("__debug__" : JA))=false:=by decide)
  (hcd:(x==("__classdict__" : JA))=false:=by decide):PE X (.Name x pos) (CG i):=vy hN hv hd hcd
end
end L2
open PySem PySem.W PyProof.Rows L2
set_option maxHeartbeats 0
namespace Mi
section
abbrev lL (i:Jr):Mb:=PySem.Challenge.pw_layworld_k06_rules_written_and_read.main.body.getD i (.Pass #[0,0,0,0])
abbrev pw:J2:=Nx
abbrev ge (P:O4)(n:JA)(t:Jr)(v:Jm):LJ:=#[PyData.keyHash P n,.str n t,v]
abbrev kd (a:Jr)(es:Jj LJ)(n:Jr):Ju×La:=(a,#[.type "dict",gV,.dict es.toArray n,#[]])
abbrev kc (a:Jr)(vs:Jj Jm):Ju×La:=(a,#[.type "code",gV,.fields vs.toArray,#[]])
abbrev kf (a:Jr)(st:Mb)(n:JA)(pm cd:Jm):Ju×La:=(a,#[.type "function",gV,.func (LD n n (du st) (b7 st) (aT st) .none .none .none pm gV cd .none),#[]])
abbrev HS (i:Jr):Jm:=if i<=7 then(.str "layworld.kinds" 257)else if i<=11 then(.str "layworld.worlds" 280)else if i<=15 then(.str "layworld.parts" 306)else if i<=34 then(.str "layworld.rules" 326)else if i<=48 then(.str "layworld.texts" 430)else(.str "law_layworld_k06_rules_written_and_read" 529)
abbrev kx (a:Jr)(b:J1)(i:Jr)(s:JA)(t:Jr)(l p:JG)(m:Jr)(R:Jz):Jz:=kc a [.str s t,.str s (t+1),.str "/claim/cut.py" (t+2),.int l 0,.int p 0,.int 0 0,.int 0 0,.int 3 0,.ref (if b then a - 5 else a - 3),.bool true,.int 181 0,.ref (if b then a - 4 else a - 2),.none,if b then .ref (a - 3)else .none,if b then .ref (a - 2)else .none,.ref (a - 1),.int m 0,.int l 0,.str "/claim/cut.py" (m+1)]::kf (a+1) (lL i) s (HS i) (.ref a)::R
abbrev kq (a:Jr)(vs:Jj Jm)(n:Jr)(R:Jz):Jz:=(a,#[.type "tuple",gV,.seq vs.toArray n,#[]])::R
abbrev B2:Jj Jm:=[(.str "marks" 332),(.str "ways" 333),(.str "bar" 334),(.str "some" 335),(.str "each" 336),(.str "not" 337),(.str "and" 338),(.str "or" 339),(.str "is" 340)]
abbrev K0 (P:O4):Jz:=kd 3 [ge P "__name__" 165 (.str "law_layworld_k06_rules_written_and_read" 529),ge P "__doc__" 166 .none,ge P "__package__" 167 .none,ge P "__loader__" 168 (.builtin "__main__.__loader__#opaque"),ge P "__spec__" 169 .none,ge P "__annotations__" 170 (.ref 6),ge P "__builtins__" 171 (.ref 4),ge P "__file__" 173 (.str "/claim/cut.py" 172),ge P "__cached__" 174 .none,ge P "LayError" 206 (.ref 24),ge P "NoRule" 231 (.ref 44),ge P "BadText" 256 (.ref 63),ge P "is_whole" 265 (.ref 72),ge P "is_tuple_of" 273 (.ref 79),ge P "is_numbers" 279 (.ref 84),ge P "is_point" 287 (.ref 89),ge P "has_point_form" 295 (.ref 96),ge P "way" 305 (.ref 103),ge P "point_over" 313 (.ref 108),ge P "least_form" 319 (.ref 113),ge P "longer_orders" 325 (.ref 118),ge P "LETTERS" 329 (.str "abcdefghijklmnopqrstuvwxyz" 328),ge P "LONGEST_NAME" 331 (.int 8 330),ge P "WORDS" 341 (.ref 119),ge P "MOST_MARKS" 343 (.int 3 342),ge P "MOST_WAYS" 345 (.int 3 344),ge P "MOST_TOGETHER" 347 (.int 6 346),ge P "look_rule" 354 (.ref 126),ge P "back" 362 (.ref 133),ge P "has_form" 368 (.ref 138),ge P "is_way" 375 (.ref 145),ge P "is_three" 381 (.ref 150),ge P "keeps_bounds" 390 (.ref 157),ge P "has_right_names" 396 (.ref 162),ge P "is_name" 402 (.ref 167),ge P "has_right_backs" 408 (.ref 172),ge P "is_right_back" 417 (.ref 179),ge P "has_right_barred" 423 (.ref 184),ge P "is_figure" 429 (.ref 189),ge P "PARTING" 433 (.str " ; " 432),ge P "BAR" 435 (.str "bar " 434),ge P "show_rule" 441 (.ref 194),ge P "way_words" 451 (.ref 201),ge P "show_world" 457 (.ref 206),ge P "point_text" 463 (.ref 211),ge P "read_rule" 473 (.ref 218),ge P "read_marks" 482 (.ref 225),ge P "read_ways" 494 (.ref 232),ge P "read_bars" 506 (.ref 239),ge P "read_bar" 516 (.ref 246),ge P "read_points" 522 (.ref 251),ge P "read_point" 528 (.ref 256),ge P "_law_flow" 537 (.ref 263),ge P "_law_pick" 547 (.ref 270),ge P "_law_shuffled" 557 (.ref 277),ge P "_law_letters" 563 (.ref 282),ge P "_law_name" 572 (.ref 289),ge P "_law_names" 585 (.ref 296),ge P "_law_between" 595 (.ref 303),ge P "_law_part" 601 (.ref 308),ge P "_law_turns" 607 (.ref 315),ge P "_law_figure" 613 (.ref 320),ge P "_law_backs" 622 (.ref 327),ge P "_law_rule_of" 628 (.ref 332),ge P "_law_free_three" 634 (.ref 337),ge P "_law_sizes" 642 (.ref 344),ge P "_law_any_rule" 654 (.ref 351),ge P "_law_laying_kind" 662 (.ref 358),ge P "_law_breaks" 678 (.ref 365),ge P "_law_numbered" 684 (.ref 370),ge P "_law_laying_rule" 705 (.ref 377),ge P "_law_rising" 711 (.ref 382),ge P "_law_free_rule" 717 (.ref 387),ge P "_law_one_way_rule" 723 (.ref 392),ge P "_law_unlaying_rule" 729 (.ref 397),ge P "_law_alike" 735 (.ref 402),ge P "_law_world_text" 741 (.ref 407),ge P "_law_rule_text" 747 (.ref 412),ge P "_law_rule" 755 (.ref 419),ge P "_law_turned_text" 765 (.ref 426),ge P "_law_holds" 775 (.ref 433),ge P "law" 785 (.ref 440)] 82::(kx 71 true 5 "is_whole" 259 15 1 263
 (kx 78 true 6 "is_tuple_of" 266 17 2 271
 (kx 83 false 7 "is_numbers" 274 19 2 277
 (kx 88 false 9 "is_point" 282 22 3 285
 (kx 95 true 10 "has_point_form" 288 27 2 293
 (kx 102 true 11 "way" 296 29 4 303
 (kx 107 false 13 "point_over" 308 34 4 311
 (kx 112 false 14 "least_form" 314 36 2 317
 (kx 117 false 15 "longer_orders" 320 46 2 323
 (kq 119 B2 0
 (kx 125 true 23 "look_rule" 348 58 1 352
 (kx 132 true 24 "back" 355 70 2 360
 (kx 137 false 25 "has_form" 363 72 1 366
 (kx 144 true 26 "is_way" 369 77 1 373
 (kx 149 false 27 "is_three" 376 79 1 379
 (kx 156 true 28 "keeps_bounds" 382 81 1 388
 (kx 161 false 29 "has_right_names" 391 85 1 394
 (kx 166 false 30 "is_name" 397 88 1 400
 (kx 171 false 31 "has_right_backs" 403 92 1 406
 (kx 178 true 32 "is_right_back" 409 94 2 415
 (kx 183 false 33 "has_right_barred" 418 99 1 421
 (kx 188 false 34 "is_figure" 424 103 2 427
 (kx 193 false 38 "show_rule" 436 110 1 439
 (kx 200 true 39 "way_words" 442 113 1 449
 (kx 205 false 40 "show_world" 452 121 2 455
 (kx 210 false 41 "point_text" 458 123 2 461
 (kx 217 true 42 "read_rule" 464 125 1 471
 (kx 224 true 43 "read_marks" 474 136 1 480
 (kx 231 true 44 "read_ways" 483 142 1 492
 (kx 238 true 45 "read_bars" 495 157 2 504
 (kx 245 true 46 "read_bar" 507 166 3 514
 (kx 250 false 47 "read_points" 517 173 3 520
 (kx 255 false 48 "read_point" 523 177 4 526
 (kx 262 true 50 "_law_flow" 531 185 1 535
 (kx 269 true 51 "_law_pick" 538 187 2 545
 (kx 276 true 52 "_law_shuffled" 548 202 2 555
 (kx 281 false 53 "_law_letters" 558 208 2 561
 (kx 288 true 54 "_law_name" 564 210 2 570
 (kx 295 true 55 "_law_names" 573 218 2 583
 (kx 302 true 56 "_law_between" 586 231 4 593
 (kx 307 false 57 "_law_part" 596 235 3 599
 (kx 314 true 58 "_law_turns" 602 241 0 605
 (kx 319 false 59 "_law_figure" 608 243 2 611
 (kx 326 true 60 "_law_backs" 614 245 2 620
 (kx 331 false 61 "_law_rule_of" 623 248 4 626
 (kx 336 false 62 "_law_free_three" 629 252 3 632
 (kx 343 true 63 "_law_sizes" 635 257 1 640
 (kx 350 true 64 "_law_any_rule" 643 260 1 652
 (kx 357 true 65 "_law_laying_kind" 655 267 1 660
 (kx 364 true 66 "_law_breaks" 663 276 5 676
 (kx 369 false 67 "_law_numbered" 679 284 3 682
 (kx 376 true 68 "_law_laying_rule" 685 299 1 703
 (kx 381 false 69 "_law_rising" 706 319 1 709
 (kx 386 false 70 "_law_free_rule" 712 325 1 715
 (kx 391 false 71 "_law_one_way_rule" 718 338 1 721
 (kx 396 false 72 "_law_unlaying_rule" 724 342 1 727
 (kx 401 false 73 "_law_alike" 730 357 2 733
 (kx 406 false 74 "_law_world_text" 736 369 2 739
 (kx 411 false 75 "_law_rule_text" 742 374 1 745
 (kx 418 true 76 "_law_rule" 748 384 1 753
 (kx 425 true 77 "_law_turned_text" 756 391 2 763
 (kx 432 true 78 "_law_holds" 766 396 2 773
 (kx 439 true 79 "law" 776 402 1 783 [])))))))))))))))))))))))))))))))))))))))))))))))))))))))))))))))
abbrev IJ:Jj Jr:=[3,71,72,78,79,83,84,88,89,95,96,102,103,107,108,112,113,117,118,119,125,126,132,133,137,138,144,145,149,150,156,157,161,162,166,167,171,172,178,179,183,184,188,189,193,194,200,201,205,206,210,211,217,218,224,225,231,232,238,239,245,246,250,251,255,256,262,263,269,270,276,277,281,282,288,289,295,296,302,303,307,308,314,315,319,320,326,327,331,332,336,337,343,344,350,351,357,358,364,365,369,370,376,377,381,382,386,387,391,392,396,397,401,402,406,407,411,412,418,419,425,426,432,433,439,440]
abbrev vq:J2:={ pw with main:={ pw.main with body:=[lL 79] } }
abbrev lo:Jj JA:=[("LayError" : JA),("NoRule" : JA),("BadText" : JA),("is_whole" : JA),("is_tuple_of" : JA),("is_numbers" : JA),("is_point" : JA),("has_point_form" : JA),("way" : JA),("point_over" : JA),("least_form" : JA),("longer_orders" : JA),("LETTERS" : JA),("LONGEST_NAME" : JA),("WORDS" : JA),("MOST_MARKS" : JA),("MOST_WAYS" : JA),("MOST_TOGETHER" : JA),("look_rule" : JA),("back" : JA),("has_form" : JA),("is_way" : JA),("is_three" : JA),("keeps_bounds" : JA),("has_right_names" : JA),("is_name" : JA),("has_right_backs" : JA),("is_right_back" : JA),("has_right_barred" : JA),("is_figure" : JA),("PARTING" : JA),("BAR" : JA),("show_rule" : JA),("way_words" : JA),("show_world" : JA),("point_text" : JA),("read_rule" : JA),("read_marks" : JA),("read_ways" : JA),("read_bars" : JA),("read_bar" : JA),("read_points" : JA),("read_point" : JA),("_law_flow" : JA),("_law_pick" : JA),("_law_shuffled" : JA),("_law_letters" : JA),("_law_name" : JA),("_law_names" : JA),("_law_between" : JA),("_law_part" : JA),("_law_turns" : JA),("_law_figure" : JA),("_law_backs" : JA),("_law_rule_of" : JA),("_law_free_three" : JA),("_law_sizes" : JA),("_law_any_rule" : JA),("_law_laying_kind" : JA),("_law_breaks" : JA),("_law_numbered" : JA),("_law_laying_rule" : JA),("_law_rising" : JA),("_law_free_rule" : JA),("_law_one_way_rule" : JA),("_law_unlaying_rule" : JA),("_law_alike" : JA),("_law_world_text" : JA),("_law_rule_text" : JA),("_law_rule" : JA),("_law_turned_text" : JA),("_law_holds" : JA)]
def eK:∀P,IJ=(K0 P).map (·.1):=λ_=>by kernel_rfl
abbrev hk:PySem.W.Hook:=PySem.W.kHook K0 IJ eK
def hl:PySem.W.LeftO pw vq lo (λs=>RZ vq [] s&&RG [] s) hk.obs hk.val 5362:=λw=>by kernel_rfl
def s0:PySem.Challenge.rw_layworld_k06_rules_written_and_read.row.wellSaid=true:=by kernel_rfl
end
end Mi
namespace Mi
open PySem PySem.Spec PyProof.Rows L2
abbrev FD (w:Kf):J1:=w.params.followText "set-order"
abbrev Ja (w:Kf)(e:JG×Jm):Prop:=∃x tk,e=(hashStr w x,.str x tk)
structure Tabs (w:Kf)(xs:Jj JA)(es:Ki (JG×Jm))(t:M8):Prop where
 el:∀e∈es.toList,Ja w e
 pm:(es.toList.map λe=>strOf e.2).Perm xs
 nd:xs.Nodup
 few:xs.length < scanBound
 fit:t.fits es.size=true
 led:t.led = !FD w
 pl:t.plain=true->es.size=0
abbrev eD (w:Kf)(xs:Jj JA)(o:La):Prop:=o.ExactSet/\∃es ep t,o.data=.set es ep t/\Tabs w xs es t
section
variable{prog:J2}{w:Kf}{A:Ke}{E:Jm->Jp->Prop}{s:Jp}{xs:Jj JA}{es:Ki (JG×Jm)}{t:M8}
def zY {x y:JA}{tk:SL}:(Mv prog w).is x (.str y tk)=true↔y=x:=by
 show(y==x)=true↔y=x;exact Rn
def Tabs.elems (h:Tabs w xs es t):ElemsOf (Mv prog w) es.toList:=λe he=>by
 obtain⟨x,tk,rfl⟩:=h.el e he;exact#[#[x,zY.mpr rfl,rfl],rfl]
def Tabs.size (h:Tabs w xs es t):es.size=xs.length:=by rw[<- h.pm.length_eq,Jl,JQ]
def Tabs.has (h:Tabs w xs es t)(x:JA):(∃e∈es.toList,(Mv prog w).is x e.2=true)↔x∈xs:=by
 rw[<- h.pm.mem_iff,JI];constructor
 ·rintro⟨e,he,q⟩;obtain⟨y,tk,rfl⟩:=h.el e he;exact#[_,he,zY.mp q]
 ·rintro⟨e,he,q⟩;obtain⟨y,tk,rfl⟩:=h.el e he;exact#[_,he,zY.mpr q]
def qO (t:M8)(es:Ki (JG×Jm))(h:JG)(x:Jm):(layNew t es h x).2.1.led=t.led:=by
 unfold layNew;split
 ·unfold Sx;dsimp only;split <;> rfl
 ·rfl
def uk (t:M8)(es:Ki (JG×Jm))(n:Jr):(relayAll t es n).2.1.led=t.led/\((relayAll t es n).2.1.plain=true->t.plain=true):=by
 unfold relayAll;split
 ·rename_i t' order h;dsimp only;split
  ·unfold SR Td at h;rw[Option.bind_eq_bind,Option.bind_eq_some_iff]at h;obtain⟨ow,_,h⟩:=h;cases h;exact#[rfl,λz=>z]
  ·exact#[rfl,λz=>by cases z]
 ·exact#[rfl,λz=>by cases z]
def rV {a:Ju}{o:La}{es1:Ki (JG×Jm)}{ep:Jr}{t1:M8}{Q:Sr->Jp->Prop}(ho:s.heap.get? a=ba o)(hex:o.ExactSet)(hd:o.data=.set es ep t)(T:Tabs w xs es1 t1)
  (h:∀h',LC a s.heap h'->h'.get? a=ba { o with data:=.set es1 (ep+1) t1 }->Q () { s with heap:=h' }):wpAny (model prog w) A (storeSet a es1 t1) Q E s:=by
 show wpAny_storeSet_of ho hd (h _ (Mg ..) ?_) (by rw[T.size]; exact fits_of_scanBound T.few)
 have:=Ly (Obj.putSet es1 t1) ho (by rw[putSet_of es1 t1 hd]; rfl)
 rw[putSet_of es1 t1 hd]at this;exact this
def zZ {a:Ju}{o:La}{x:JA}{tk:SL}{Q:J1->Jp->Prop}(ho:s.heap.get? a=ba o)(hS:eD w xs o)(hr:xs.length+1 < scanBound)
  (h:∀b h' o',LC a s.heap h'->h'.get? a=ba o'->eD w (if x∈xs then xs else xs++[x]) o'->Q b { s with heap:=h' }):wpAny (model prog w) A (setAddHashed a (.str x tk) (hashStr w x)) Q E s:=by
 obtain⟨hex,es,ep,t,hd,T⟩:=hS;have hk:(Mv prog w).is x (.str x tk)=true:=zY.mpr rfl;have hx:=T.has (prog:=prog) x;unfold setAddHashed setAddHashedIn;show KQ (Jk (wpAny_setState_of ho hd T.fit ?_));dsimp only;rw[byScan_of (knd:=Mv prog w) rfl (by rw[T.size]; exact T.few) T.elems]
 simp only[↓reduceIte];unfold setAddByScan;show Jk (Jk (Nh (Jk (wpAny_setScan_of (knd:=Mv prog w) hk ho hd T.fit T.elems ?_))));cases q:es.toList.findIdx? (λe=>(Mv prog w).is x e.2)with
 | some j=>
  obtain⟨hj,hp,_⟩:=Lo.mp q;have hm:x∈xs:=hx.mp #[_,Ko hj,hp];dsimp only;have:=h false s.heap o (Ql ..) ho (by rw[JO hm]; exact#[hex,es,ep,t,hd,T])
  exact Jt (Jt this)
 | none=>
  have hm:x∉xs:=λz=>by
   obtain⟨e,he,hp⟩:=hx.mpr z;rw[List.findIdx?_eq_none_iff.mp q e he]at hp;cases hp
  rw[JZ hm]at h;dsimp only;have lp:=layNew_perm t es (hashStr w x) (.str x tk);have lf:=layNew_fits t es (hashStr w x) (.str x tk);have ll:=qO t es (hashStr w x) (.str x tk);have hgen:∀(b:J1) {s₁:Jp} {Q':Sr->Jp->Prop},Q' () s₁->wpAny (model prog w) A (match b with|true=>rule "set.scan.the-table-gave-way"|false=>pure ()) Q' E s₁:=λb s₁ Q' hq=>by cases b <;> first|exact Jt hq|exact Nh hq
  generalize hL:layNew t es (hashStr w x) (.str x tk)=L at lp lf ll ⊢;obtain⟨es1,t1,dm,gv⟩:=L;dsimp only at lp lf ll ⊢;rw[Array.toList_push]at lp;have T1:∀p,Tabs w (xs++[x]) es1 { t1 with plain:=p }\/p=true:=λp=>by
   cases p with
   | true=>exact .inr rfl
   | false=>
    show .inl #[λe he=>?_,(lp.map λe=>strOf e.2).trans ?_,?_,by simpa using hr,RT lf,ll.trans T.led,λz=>by cases z]
    ·rcases Kj.mp (lp.mem_iff.mp he)with he|he
     ·exact T.el e he
     ·rw[JH.mp he]; exact#[x,tk,rfl]
    ·rw[J0];exact T.pm.append_right _
    ·exact KT.mpr #[T.nd,by simp,λy hy z hz e=>hm (by rw[JH.mp hz]at e; exact e ▸ hy)]
  have fin:∀(g:J1->R3 Sr),(∀(b:J1) (s₁:Jp) (Q':Sr->Jp->Prop),Q' () s₁->wpAny (model prog w) A (g b) Q' E s₁)->∀t2:M8,Tabs w (xs++[x]) es1 t2->wpAny (model prog w) A (do
    storeSet a es1 t2
    if (!dm&&t2.tooFull)=true then do
      g (relayAll t2 es1 (Mk es1.size)).2.2
      storeSet a (relayAll t2 es1 (Mk es1.size)).1 (relayAll t2 es1 (Mk es1.size)).2.1
      pure (ba true)
     else pure (ba true)) (λr s'=>wpAny (model prog w) A (match r with|some b=>pure b|none=>setAddHashedIn a (.str x tk) (hashStr w x) 99999) Q E s') E s:=λg hg t2 T2=>by
   show Jk (rV ho hex hd T2 λh1 sb1 o1=>?_)
   show wpAny_ite_split (λ_=>?_) (λ_=>Jt (Jt (h _ _ _ sb1 o1 #[hex,_,_,_,rfl,T2])))
   have rp:=relayAll_perm t2 es1 (Mk es1.size);have rf:=relayAll_fits t2 es1 (Mk es1.size);have rt:=uk t2 es1 (Mk es1.size);generalize hR:relayAll t2 es1 (Mk es1.size)=R at rp rf rt ⊢;obtain⟨es2,t3,g2⟩:=R;dsimp only at rp rf rt ⊢;have T3:Tabs w (xs++[x]) es2 t3:=#[λe he=>T2.el e (rp.mem_iff.mp he),(rp.map _).trans T2.pm,T2.nd,T2.few,rf,rt.1.trans T2.led,λz=>by
    have:=T2.pl (rt.2 z);rw[<- JQ,rp.length_eq,JQ]; exact this]
   show Jk (hg _ _ _ ?_);show Jk (rV o1 hex rfl T3 λh2 sb2 o2=>?_)
   exact Jt (Jt (h _ _ _ (sb1.trans sb2) o2 #[hex,_,_,_,rfl,T3]))
  show Jk (hgen _ ?_);split
  ·show Jk ?_;rw[hashByValue_scannable 8 rfl];show Jt ?_;exact fin _ (λb _ _ hq=>hgen b hq) _ ((T1 false).resolve_right JP)
  ·rename_i hp;show Jk (Jt ?_);have e:({ t1 with plain:=false }:M8)=t1:=by
    obtain⟨_,_,_,_,_,_,p⟩:=t1;cases p with
    | false=>rfl
    | true=>exact absurd rfl hp
   simp only[↓reduceIte];exact fin _ (λb _ _ hq=>hgen b hq) _ (e ▸ (T1 false).resolve_right JP)
end
inductive W where
 | non|bl (b:J1)|int (i:JG)|str (x:JA)|tup (xs:Jj W)|ref (i:Jr)
inductive T where
 | int (i:JG)|str (x:JA)|tup (xs:Jj T)
mutual
def T.beq:T->T->J1
 | .int i,.int j=>i==j
 | .str x,.str y=>x==y
 | .tup xs,.tup ys=>T.beqs xs ys
 | _,_=>false
def T.beqs:Jj T->Jj T->J1
 | [],[]=>true
 | x::xs,y::ys=>T.beq x y&&T.beqs xs ys
 | _,_=>false
end
mutual
theorem T.beq_iff:∀x y:T,T.beq x y=true↔x=y
 | .int i,.int j=>by simp[T.beq]
 | .str x,.str y=>by simp[T.beq]
 | .tup xs,.tup ys=>by simp[T.beq,T.beqs_iff xs ys]
 | .int _,.str _|.int _,.tup _|.str _,.int _|.str _,.tup _|.tup _,.int _|.tup _,.str _=>by simp[T.beq]
theorem T.beqs_iff:∀xs ys:Jj T,T.beqs xs ys=true↔xs=ys
 | [],[]=>by simp[T.beqs]
 | x::xs,y::ys=>by simp[T.beqs,T.beq_iff x y,T.beqs_iff xs ys]
 | [],_::_|_::_,[]=>by simp[T.beqs]
end
noncomputable instance:MB T:=λx y=>decidable_of_iff (T.beq x y=true) (T.beq_iff x y)
mutual
def T.w:T->W
 | .int i=>.int i
 | .str x=>.str x
 | .tup xs=>.tup (T.ws xs)
def T.ws:Jj T->Jj W
 | []=>[]
 | x::xs=>T.w x::T.ws xs
end
mutual
def W.t:W->Jq T
 | .int i=>ba (.int i)
 | .str x=>ba (.str x)
 | .tup xs=>(W.ts xs).map .tup
 | _=>gV
def W.ts:Jj W->Jq (Jj T)
 | []=>ba []
 | x::xs=>match W.t x,W.ts xs with
  | some y,ba ys=>ba (y::ys)
  | _,_=>gV
end
mutual
theorem W.t_w:∀ {w:W} {k:T},W.t w=ba k->k.w=w
 | .int i,_,h=>by cases h; rfl
 | .str x,_,h=>by cases h; rfl
 | .tup xs,_,h=>by
  simp only[W.t,Jo]at h;obtain⟨ks,h1,h2⟩:=h;subst h2;simp only[T.w,W.ts_w h1]
 | .non,_,h|.bl _,_,h|.ref _,_,h=>by cases h
theorem W.ts_w:∀ {ws:Jj W} {ks:Jj T},W.ts ws=ba ks->T.ws ks=ws
 | [],_,h=>by cases h; rfl
 | w::ws,_,h=>by
  simp only[W.ts]at h;split at h
  ·rename_i y ys h1 h2;cases h;simp only[T.ws,W.t_w h1,W.ts_w h2]
  ·cases h
end
mutual
theorem T.w_t:∀k:T,W.t k.w=ba k
 | .int _=>rfl
 | .str _=>rfl
 | .tup xs=>by simp only[T.w,W.t,T.ws_ts xs,Kc]
theorem T.ws_ts:∀ks:Jj T,W.ts (T.ws ks)=ba ks
 | []=>rfl
 | x::xs=>by simp only[T.ws,W.ts,T.w_t x,T.ws_ts xs]
end
mutual
def T.depth:T->Jr
 | .tup xs=>T.depths xs+1
 | _=>0
def T.depths:Jj T->Jr
 | []=>0
 | x::xs=>max (T.depth x) (T.depths xs)
end
mutual
def T.draws:T->Jr
 | .tup xs=>T.drawss xs+1
 | _=>1
def T.drawss:Jj T->Jr
 | []=>0
 | x::xs=>T.draws x+T.drawss xs
end
mutual
def oN (wd:Kf):T->JG
 | .int i=>hashInt i
 | .str x=>hashStr wd x
 | .tup xs=>reduceHash (N1 (j6 wd xs))
def j6 (wd:Kf):Jj T->Jj JG
 | []=>[]
 | x::xs=>oN wd x::j6 wd xs
end
abbrev T.isTup:T->J1
 | .tup _=>true
 | _=>false
abbrev aN:Jr:=6
inductive O where
 | lst (xs:Jj W)
 | fro (xs:Jj W)
 | sts (xs:Jj JA)
 | rng (lo hi:JG)
 | dic (U:Jj (T×W))
 | frd (U:Jj (T×W))
noncomputable abbrev aa:=Jj O
noncomputable abbrev Fm:=Jj (Jq W)
section
variable (K:Jz) (A:Jj Ju) (H:Hp)
mutual
inductive Rel:W->V->Prop
 | non:Rel .non .non
 | bl {b:J1}:Rel (.bl b) (.bl b)
 | int {i:JG}:Rel (.int i) (.int i)
 | str {x:JA}:Rel (.str x) (.str x)
 | tup {ws:Jj W} {a:Ju} {vs:Jj V}:SqT K H a vs->RelL ws vs->Rel (.tup ws) (.ref a)
 | ref {i:Jr} {a:Ju}:A[i]?=ba a->Rel (.ref i) (.ref a)
inductive RelL:Jj W->Jj V->Prop
 | nil:RelL [] []
 | cons {w:W} {v:V} {ws:Jj W} {vs:Jj V}:Rel w v->RelL ws vs->RelL (w::ws) (v::vs)
end
end
section
variable{K:Jz}{A A' A'':Jj Ju}{H H' H'':Hp}
structure Ext (K:Jz)(A:Jj Ju)(H:Hp)(A':Jj Ju)(H':Hp):Prop where
 ad:∀(i:Jr) (a:Ju),A[i]?=ba a->A'[i]?=ba a
 tp:∀(a:Ju) (vs:Jj V),SqT K H a vs->SqT K H' a vs
 fz:∀(a:Ju) (o:La) (u:HO),H a=ba (.frz o u)->H' a=ba (.frz o u)
def Ext.refl:Ext K A H A H:=#[λ_ _ h=>h,λ_ _ h=>h,λ_ _ _ h=>h]
def Ext.trans (e:Ext K A H A' H')(f:Ext K A' H' A'' H''):Ext K A H A'' H'':=#[λi a h=>f.ad i a (e.ad i a h),λa vs h=>f.tp a vs (e.tp a vs h),λa o u h=>f.fz a o u (e.fz a o u h)]
mutual
theorem Rel.mono (e:Ext K A H A' H'):∀ {w:W} {v:V},Rel K A H w v->Rel K A' H' w v
 | _,_,.non=>.non
 | _,_,.bl=>.bl
 | _,_,.int=>.int
 | _,_,.str=>.str
 | _,_,.tup h r=>.tup (e.tp _ _ h) (RelL.mono e r)
 | _,_,.ref h=>.ref (e.ad _ _ h)
theorem RelL.mono (e:Ext K A H A' H'):∀ {ws:Jj W} {vs:Jj V},RelL K A H ws vs->RelL K A' H' ws vs
 | _,_,.nil=>.nil
 | _,_,.cons r t=>.cons (Rel.mono e r) (RelL.mono e t)
end
def RelL.length:∀ {ws:Jj W} {vs:Jj V},RelL K A H ws vs->ws.length=vs.length
 | _,_,.nil=>rfl
 | _,_,.cons _ t=>by simp[RelL.length t]
def RelL.get:∀ {ws:Jj W} {vs:Jj V} {i:Jr} {w:W},RelL K A H ws vs->ws[i]?=ba w->∃v,vs[i]?=ba v/\Rel K A H w v
 | _,_,_,_,.nil,e=>by simp at e
 | _,_,0,_,.cons r _,e=>by simp at e; subst e; exact#[_,rfl,r]
 | _,_,i+1,w,.cons _ t,e=>by
  obtain⟨u,h1,h2⟩:=RelL.get (i:=i) (w:=w) t (by simpa using e)
  exact#[u,by simpa using h1,h2]
def RelL.append:∀ {xs ys:Jj W} {us ws:Jj V},RelL K A H xs us->RelL K A H ys ws->RelL K A H (xs++ys) (us++ws)
 | _,_,_,_,.nil,s=>s
 | _,_,_,_,.cons r t,s=>.cons r (RelL.append t s)
def RelL.take:∀ {xs:Jj W} {us:Jj V} (n:Jr),RelL K A H xs us->RelL K A H (xs.take n) (us.take n)
 | _,_,0,_=>.nil
 | _,_,_+1,.nil=>.nil
 | _,_,n+1,.cons r t=>.cons r (RelL.take n t)
def RelL.drop:∀ {xs:Jj W} {us:Jj V} (n:Jr),RelL K A H xs us->RelL K A H (xs.drop n) (us.drop n)
 | _,_,0,r=>r
 | _,_,_+1,.nil=>.nil
 | _,_,n+1,.cons _ t=>RelL.drop n t
def RelL.set {x:W}{u:V}(r:Rel K A H x u):∀ {xs:Jj W} {us:Jj V} (i:Jr),RelL K A H xs us->RelL K A H (xs.set i x) (us.set i u)
 | _,_,_,.nil=>.nil
 | _,_,0,.cons _ t=>.cons r t
 | _,_,i+1,.cons q t=>.cons q (RelL.set r i t)
def RelL.rep {xs:Jj W}{us:Jj V}(h:RelL K A H xs us):∀k:Jr,RelL K A H (Kg k xs).flatten (Kg k us).flatten
 | 0=>.nil
 | k+1=>by
  rw[Lf,Lf,L7,L7];exact RelL.append h (RelL.rep h k)
def RelL.eraseIdx:∀ {xs:Jj W} {us:Jj V} (i:Jr),RelL K A H xs us->RelL K A H (xs.eraseIdx i) (us.eraseIdx i)
 | _,_,_,.nil=>.nil
 | _,_,0,.cons _ t=>t
 | _,_,i+1,.cons r t=>.cons r (RelL.eraseIdx i t)
abbrev FroL (K:Jz)(H:Hp)(a:Ju)(vs:Jj V):Prop:=
 (∃o,H a=ba (.frz o (.lst vs)))\/
  ∃(o:La) (its:Ki Jm) (n:Jr),K.lookup a=ba o/\o.cls=.type "list"/\o.dict=gV/\o.data=.seq its n/\its.size<=sizeLine/\Vals vs its.toList
def FroL.sq {a:Ju}{vs:Jj V}(h:FroL K H a vs):SqL K H a vs:=by
 rcases h with⟨o,h⟩|h
 ·exact .inl (.inr #[o,h])
 ·exact .inr h
abbrev vX (wd:Kf)(x:T×Ju×Jm):LJ:=#[oN wd x.1,.ref x.2.1,x.2.2]
abbrev DicAt (wd:Kf)(a:Ju)(xs:Jj (T×Ju×Jm))(h:Kn):Prop:=
 xs.length<=sizeLine/\(a==sysModules)=false/\(xs.map (·.1)).Nodup/\∃o es ep,h.get? a=ba o/\o.ExactDict/\o.data=.dict es ep/\es.toList=xs.map (vX wd)
abbrev dN (wd:Kf)(a:Ju)(xs:Jj (T×Ju×Jm)):HO:=.ext (DicAt wd a xs)
abbrev KRel (K:Jz)(A:Jj Ju)(H:Hp):Jj (T×W)->Jj (T×Ju×Jm)->Prop:=
 Ou λ(p:T×W) (q:T×Ju×Jm)=>p.1=q.1/\p.1.isTup=true/\p.1.depth<=aN/\Rel K A H p.1.w (.ref q.2.1)/\∃v,Rel K A H p.2 v/\RelV v q.2.2
def KRel.mono (e:Ext K A H A' H'){U:Jj (T×W)}{xs:Jj (T×Ju×Jm)}(h:KRel K A H U xs):KRel K A' H' U xs:=
 Paired.mapP h λ_ _ #[h1,h2,h3,h4,v,h5,h6]=>#[h1,h2,h3,h4.mono e,v,h5.mono e,h6]
variable{wd:Kf}
abbrev ObjRel (wd:Kf)(K:Jz)(A:Jj Ju)(H:Hp)(a:Ju):O->Prop
 | .lst ws=>∃vs,H a=ba (.lst vs)/\RelL K A H ws vs
 | .fro ws=>∃vs,FroL K H a vs/\RelL K A H ws vs
 | .sts xs=>∃o φ,H a=ba (.frz o (.ext φ))/\eD wd xs o
 | .rng lo hi=>H a=ba (.rng lo hi)
 | .dic U=>∃xs,H a=ba (dN wd a xs)/\KRel K A H U xs
 | .frd U=>∃o xs,H a=ba (.frz o (dN wd a xs))/\KRel K A H U xs
abbrev O.mut:O->J1
 | .fro _=>false
 | .sts _=>false
 | .rng _ _=>false
 | .frd _=>false
 | _=>true
structure StoreOk (wd:Kf)(K:Jz)(A:Jj Ju)(H:Hp)(S:aa):Prop where
 len:A.length=S.length
 nd:∀(i j:Jr) (a:Ju) (o u:O),S[i]?=ba o->o.mut=true->S[j]?=ba u->u.mut=true->A[i]?=ba a->A[j]?=ba a->i=j
 obj:∀(i:Jr) (o:O) (a:Ju),S[i]?=ba o->A[i]?=ba a->ObjRel wd K A H a o
abbrev EnvRel (K:Jz)(A:Jj Ju)(H:Hp)(Z:Fm)(Y:L2.St):Prop:=
 Z.length=Y.length/\∀(i:Jr) (w:W),Z[i]?=ba (ba w)->∃v,Y[i]?=ba (ba v)/\Rel K A H w v
def EnvRel.mono {Z:Fm}{Y:L2.St}(e:Ext K A H A' H')(h:EnvRel K A H Z Y):EnvRel K A' H' Z Y:=
 #[h.1,λi w q=>let ⟨v,a,b⟩:=h.2 i w q; #[v,a,b.mono e]]
def EnvRel.set {Z:Fm}{Y:L2.St}{w:W}{v:V}(h:EnvRel K A H Z Y)(r:Rel K A H w v)(i:Jr):EnvRel K A H (Z.set i (ba w)) (Y.set i (ba v)):=by
 show#[by simp[h.1],λj w' q=>?_]
 rw[Lr]at q ⊢
 by_cases e:i=j
 ·subst e;rw[JO rfl]at q ⊢
  by_cases hl:i < Z.length
  ·rw[JO hl]at q;rw[JO (h.1 ▸ hl)];cases q;exact#[v,rfl,r]
  ·rw[JZ hl]at q; cases q
 ·rw[JZ e]at q ⊢;exact h.2 j w' q
abbrev Wr (H:Hp)(p:Ju):Prop:=H p=gV\/(∃xs,H p=ba (.lst xs))\/(∃φ,H p=ba (.ext φ))\/∃ks,H p=ba (.dK ks)
def Wr.lst {p:Ju}{xs:Jj V}(h:H p=ba (.lst xs)):Wr H p:=.inr (.inl #[xs,h])
def Wr.ext {p:Ju}{φ:Kn->Prop}(h:H p=ba (.ext φ)):Wr H p:=.inr (.inr (.inl #[φ,h]))
def Wr.ne_tup {p a:Ju}{xs:Jj V}(hp:Wr H p)(h:H a=ba (.tup xs)):a≠p:=by
 intro e; subst e
 rcases hp with q|⟨xs,q⟩|⟨φ,q⟩|⟨ks,q⟩ <;> (rw[h]at q; cases q)
def Wr.ne_frz {p a:Ju}{o:La}{u:HO}(hp:Wr H p)(h:H a=ba (.frz o u)):a≠p:=by
 intro e; subst e
 rcases hp with q|⟨xs,q⟩|⟨φ,q⟩|⟨ks,q⟩ <;> (rw[h]at q; cases q)
def Wr.ne_rng {p a:Ju}{lo hi:JG}(hp:Wr H p)(h:H a=ba (.rng lo hi)):a≠p:=by
 intro e; subst e
 rcases hp with q|⟨xs,q⟩|⟨φ,q⟩|⟨ks,q⟩ <;> (rw[h]at q; cases q)
def rW {p:Ju}{o:HO}(hp:Wr H p){a:Ju}{vs:Jj V}(h:SqT K H a vs):SqT K (bn H p o) a vs:=by
 rcases h with(h|⟨o',h⟩)|h
 ·exact .inl (.inl (by rw[aD (hp.ne_tup h)]; exact h))
 ·exact .inl (.inr #[o',by rw[aD (hp.ne_frz h)]; exact h])
 ·exact .inr h
def vY {p:Ju}{o:HO}(hp:Wr H p){a:Ju}{vs:Jj V}(h:FroL K H a vs):FroL K (bn H p o) a vs:=by
 rcases h with⟨o',h⟩|h
 ·exact .inl #[o',by rw[aD (hp.ne_frz h)]; exact h]
 ·exact .inr h
def bN {p:Ju}{o:HO}(hp:Wr H p):Ext K A H A (bn H p o):=#[λ_ _ h=>h,λ_ _ h=>rW hp h,λ_ _ _ h=>by rw[aD (hp.ne_frz h)]; exact h]
def dO {p:Ju}{o:HO}(hp:H p=gV):Ext K A H (A++[p]) (bn H p o):=
 #[λi a h=>by rw[Kh (JK.mp h).1]; exact h,λ_ _ h=>rW (.inl hp) h,λ_ _ _ h=>by rw[aD (Wr.ne_frz (.inl hp) h)]; exact h]
def ObjRel.keep {p a:Ju}{o:HO}{b:O}(hp:Wr H p)(hne:b.mut=true->a≠p)(e:Ext K A H A' (bn H p o))(h:ObjRel wd K A H a b):ObjRel wd K A' (bn H p o) a b:=by
 cases b with
 | lst ws=>
  obtain⟨vs,q,r⟩:=h;exact#[vs,by rw[aD (hne rfl)]; exact q,r.mono e]
 | fro ws=>
  obtain⟨vs,q,r⟩:=h;exact#[vs,vY hp q,r.mono e]
 | sts xs=>
  obtain⟨ob,φ,q,r⟩:=h;exact#[ob,φ,by rw[aD (hp.ne_frz q)]; exact q,r]
 | rng lo hi=>
  have h:H a=ba (.rng lo hi):=h;change bn H p o a=ba (.rng lo hi);rw[aD (hp.ne_rng h)];exact h
 | dic U=>
  obtain⟨xs,q,r⟩:=h;exact#[xs,by rw[aD (hne rfl)]; exact q,r.mono e]
 | frd U=>
  obtain⟨ob,xs,q,r⟩:=h;exact#[ob,xs,by rw[aD (hp.ne_frz q)]; exact q,r.mono e]
def ObjRel.there {a:Ju}{b:O}(h:ObjRel wd K A H a b)(hm:b.mut=true):H a≠gV:=by
 cases b with
 | lst ws=>obtain⟨vs,q,r⟩:=h; rw[q]; intro z; cases z
 | fro ws=>cases hm
 | sts ws=>cases hm
 | rng lo hi=>cases hm
 | dic U=>obtain⟨vs,q,r⟩:=h; rw[q]; intro z; cases z
 | frd ws=>cases hm
def ObjRel.wr {a:Ju}{b:O}(h:ObjRel wd K A H a b)(hm:b.mut=true):Wr H a:=by
 cases b with
 | lst ws=>obtain⟨vs,q,r⟩:=h; exact .lst q
 | fro ws=>cases hm
 | sts ws=>cases hm
 | rng lo hi=>cases hm
 | dic U=>obtain⟨vs,q,r⟩:=h; exact .ext q
 | frd ws=>cases hm
def StoreOk.lay {S:aa}{p:Ju}{o:HO}(h:StoreOk wd K A H S)(hp:H p=gV):StoreOk wd K A (bn H p o) S:=
 #[h.len,h.nd,λi b a e ea=>(h.obj i b a e ea).keep (.inl hp) (λhm z=>(h.obj i b a e ea).there hm (z ▸ hp)) (bN (.inl hp))]
def StoreOk.pushO {S:aa}{p:Ju}{n:O}{u:HO}(h:StoreOk wd K A H S)(hp:H p=gV)(r:ObjRel wd K (A++[p]) (bn H p u) p n):StoreOk wd K (A++[p]) (bn H p u) (S++[n]):=by
 have ex:Ext K A H (A++[p]) (bn H p u):=dO hp;have old:∀ {i:Jr} {o:O} {a:Ju},(S++[n])[i]?=ba o->(A++[p])[i]?=ba a->i < S.length->S[i]?=ba o/\A[i]?=ba a:=λ{i o a} e ea hl=>by
  rw[Kh hl]at e;rw[Kh (h.len ▸ hl)]at ea;exact#[e,ea]
 have new:∀ {i:Jr} {o:O} {a:Ju},(S++[n])[i]?=ba o->(A++[p])[i]?=ba a->¬ i < S.length->i=S.length/\o=n/\a=p:=λ{i o a} e ea hl=>by
  have hi:i=S.length:=by
   have:=(JK.mp e).1;simp at this;omega
  subst hi;simp at e;rw[<- h.len]at ea;simp at ea;exact#[rfl,e.symm,ea.symm]
 show#[by simp[h.len],λi j a o u e1 m1 e2 m2 a1 a2=>?_,λi o a e ea=>?_]
 ·by_cases hi:i < S.length <;> by_cases hj:j < S.length
  ·obtain⟨x1,y1⟩:=old e1 a1 hi;obtain⟨x2,y2⟩:=old e2 a2 hj;exact h.nd i j a o u x1 m1 x2 m2 y1 y2
  ·obtain⟨x1,y1⟩:=old e1 a1 hi;obtain⟨_,_,z⟩:=new e2 a2 hj;subst z;exact absurd hp ((h.obj i o a x1 y1).there m1)
  ·obtain⟨x2,y2⟩:=old e2 a2 hj;obtain⟨_,_,z⟩:=new e1 a1 hi;subst z;exact absurd hp ((h.obj j u a x2 y2).there m2)
  ·rw[(new e1 a1 hi).1,(new e2 a2 hj).1]
 ·by_cases hi:i < S.length
  ·obtain⟨x1,y1⟩:=old e ea hi;exact(h.obj i o a x1 y1).keep (.inl hp) (λhm z=>(h.obj i o a x1 y1).there hm (z ▸ hp)) ex
  ·obtain⟨_,rfl,rfl⟩:=new e ea hi;exact r
def StoreOk.push {S:aa}{p:Ju}{ws:Jj W}{vs:Jj V}(h:StoreOk wd K A H S)(hp:H p=gV)(r:RelL K A H ws vs):StoreOk wd K (A++[p]) (bn H p (.lst vs)) (S++[.lst ws]):=
 h.pushO hp #[vs,aI,r.mono (dO hp)]
def StoreOk.writeO {S:aa}{i:Jr}{p:Ju}{o0 n:O}{u:HO}(h:StoreOk wd K A H S)(e:S[i]?=ba o0)(m0:o0.mut=true)(ea:A[i]?=ba p)(r:ObjRel wd K A (bn H p u) p n) :
  StoreOk wd K A (bn H p u) (S.set i n)/\Ext K A H A (bn H p u):=by
 have hw:Wr H p:=(h.obj i _ p e ea).wr m0;have ex:Ext K A H A (bn H p u):=bN hw;have hl:i < S.length:=(JK.mp e).1;show#[#[by simp[h.len],λj k a o u e1 m1 e2 m2 a1 a2=>?_,λj o a e1 a1=>?_],ex]
 ·have get:∀ {j:Jr} {o:O},(S.set i n)[j]?=ba o->o.mut=true->∃o',S[j]?=ba o'/\o'.mut=true:=λ{j o} q m=>by
   rw[Lr]at q
   by_cases z:i=j
   ·subst z; exact#[_,e,m0]
   ·rw[JZ z]at q; exact#[o,q,m]
  obtain⟨o',x1,m1'⟩:=get e1 m1;obtain⟨u',x2,m2'⟩:=get e2 m2;exact h.nd j k a o' u' x1 m1' x2 m2' a1 a2
 ·rw[Lr]at e1
  by_cases z:i=j
  ·subst z;rw[JO rfl,JO hl]at e1;cases e1;rw[ea]at a1; cases a1
   exact r
  ·rw[JZ z]at e1;exact(h.obj j o a e1 a1).keep hw (λhm q=>z (h.nd i j p _ o e m0 e1 hm ea (q ▸ a1))) ex
def StoreOk.write {S:aa}{i:Jr}{p:Ju}{ws:Jj W}{us:Jj V}{ws0:Jj W}(h:StoreOk wd K A H S)(e:S[i]?=ba (.lst ws0))(ea:A[i]?=ba p)(r:RelL K A H ws us) :
  StoreOk wd K A (bn H p (.lst us)) (S.set i (.lst ws))/\Ext K A H A (bn H p (.lst us)):=
 h.writeO e rfl ea #[us,aI,r.mono (bN ((h.obj i _ p e ea).wr rfl))]
end
abbrev eW (S:aa)(i:Jr):Jq (Jj W):=match S[i]? with
 | some (.lst xs)=>ba xs
 | some (.fro xs)=>ba xs
 | _=>gV
abbrev oy (S:aa)(i:Jr):Jq (Jj W):=match S[i]? with
 | some (.lst xs)=>ba xs
 | _=>gV
abbrev j7 (S:aa)(xs:Jj W):Jq (W×aa):=if xs.length<=sizeLine then ba (.ref S.length,S++[.lst xs])else gV
abbrev qP (S:aa)(xs:Jj W):Jq (W×aa):=if xs.length<=sizeLine then ba (.tup xs,S)else gV
abbrev z5 (j:JG):J1:=decide (0 < j)&&decide (j < 1073741824)
abbrev um (i j:JG):J1:=(decide (-(2 ^ 64) < i)&&decide (i < 2 ^ 64))||(decide (-(2 ^ 64) < j)&&decide (j < 2 ^ 64))
abbrev FH (i j:JG):J1:=decide (0<=j)&&decide (j<=1000000)&&decide (i.natAbs < 2 ^ 64)
inductive BOp where|add|sub|mul|fdiv|mod|pow
 deriving MB
abbrev zq (c:JG->JG->J1)(f:JG->JG->JG)(x y:W)(S:aa):Jq (W×aa):=match x,y with
 | .int i,.int j=>if c i j then ba (.int (f i j),S)else gV
 | _,_=>gV
abbrev uq (x y:W)(S:aa):Jq (W×aa):=match x with
 | .int i=>match y with
  | .int j=>ba (.int (i+j),S)
  | _=>gV
 | .str x=>match y with
  | .str y=>if x.length+y.length<=sizeLine then ba (.str (x++y),S)else gV
  | _=>gV
 | .tup xs=>match y with
  | .tup ys=>qP S (xs++ys)
  | _=>gV
 | .ref i=>match y with
  | .ref j=>match oy S i,oy S j with
   | some xs,ba ys=>j7 S (xs++ys)
   | _,_=>gV
  | _=>gV
 | _=>gV
abbrev vZ (x y:W)(S:aa):Jq (W×aa):=match x with
 | .str x=>match y with
  | .int k=>if k < 2 ^ 24/\-(2 ^ 24)<=k/\x.length*k.toNat<=sizeLine then ba (.str (Th x k),S)else gV
  | _=>gV
 | .ref i=>match y with
  | .int k=>match oy S i with
   | some xs=>if k < 2 ^ 24/\-(2 ^ 24)<=k/\xs.length*k.toNat<=sizeLine then j7 S (Kg k.toNat xs).flatten else gV
   | none=>gV
  | _=>gV
 | x=>zq um (· * ·) x y S
abbrev fN:BOp->W->W->aa->Jq (W×aa)
 | .add,x,y,S=>uq x y S
 | .sub,x,y,S=>zq (λ_ _=>true) (· - ·) x y S
 | .mul,x,y,S=>vZ x y S
 | .fdiv,x,y,S=>zq (λ_ j=>z5 j) (· / ·) x y S
 | .mod,x,y,S=>zq (λ_ j=>decide (0 < j)) (· % ·) x y S
 | .pow,x,y,S=>zq FH (λi j=>i ^ j.toNat) x y S
abbrev BOp.py:BOp->Qc
 | .add=>.Add|.sub=>.Sub|.mul=>.Mult|.fdiv=>.FloorDiv|.mod=>.Mod|.pow=>.Pow
section
variable (X:Cx)
inductive PostE (J:Jj (Ju×La))(Y:L2.St)(A:Jj Ju)(H:Hp)(S':aa)(w:W)(u:Jm)(s':Jp):Prop
 | mk (v:V) (H':Hp) (A':Jj Ju) (i:Inv X J Y H' s') (r:RelV v u) (e:Ext X.K A H A' H') (so:StoreOk X.w X.K A' H' S') (rl:Rel X.K A' H' w v):PostE J Y A H S' w u s'
noncomputable abbrev FE:=Fm->aa->Jq (W×aa)
abbrev LOp (f:Jm->Jm->R3 Jm)(g:W->W->aa->Jq (W×aa)):Prop:=
 ∀(J:Jj (Ju×La)) (s:Jp) (Y:L2.St) (H:Hp) (A:Jj Ju) (S:aa) (x y:W) (a b:V) (u v:Jm) (w:W) (S':aa),Inv X J Y H s->StoreOk X.w X.K A H S->
  Rel X.K A H x a->RelV a u->Rel X.K A H y b->RelV b v->g x y S=ba (w,S')->wpAny (model X.prog X.w) X.A (f u v) (PostE X J Y A H S' w) X.xe s
end
section
variable{X:Cx}
def j8 {S:aa}{i:Jr}{xs:Jj W}(h:oy S i=ba xs):S[i]?=ba (.lst xs):=by
 unfold oy at h;split at h
 ·cases h; assumption
 ·cases h
def eE {A:Jj Ju}{H:Hp}{S:aa}{i:Jr}{xs:Jj W}{a:Ju}(so:StoreOk X.w X.K A H S)(h:oy S i=ba xs)(ea:A[i]?=ba a):∃vs,H a=ba (.lst vs)/\RelL X.K A H xs vs:=
 so.obj i _ a (j8 h) ea
def aU {A:Jj Ju}{H:Hp}{S:aa}{i:Jr}{xs:Jj W}{a:Ju}(so:StoreOk X.w X.K A H S)(h:eW S i=ba xs)(ea:A[i]?=ba a):∃vs,SqL X.K H a vs/\RelL X.K A H xs vs:=by
 unfold eW at h;split at h
 ·cases h;obtain⟨vs,q,r⟩:=so.obj i _ a (by assumption) ea
  exact#[vs,.of q,r]
 ·cases h;obtain⟨vs,q,r⟩:=so.obj i _ a (by assumption) ea
  exact#[vs,q.sq,r]
 ·cases h
def jN {S S':aa}{xs:Jj W}{w:W}(h:j7 S xs=ba (w,S')):xs.length<=sizeLine/\w=.ref S.length/\S'=S++[.lst xs]:=by
 unfold j7 at h;split at h
 ·cases h; exact#[by assumption,rfl,rfl]
 ·cases h
def rX {S S':aa}{xs:Jj W}{w:W}(h:qP S xs=ba (w,S')):xs.length<=sizeLine/\w=.tup xs/\S'=S:=by
 unfold qP at h;split at h
 ·cases h; exact#[by assumption,rfl,rfl]
 ·cases h
def z6 {A:Jj Ju}{H:Hp}{S:aa}{ws:Jj W}{vs:Jj V}{Q:VK}{p:Ju}(so:StoreOk X.w X.K A H S)(r:RelL X.K A H ws vs)(hp:H p=gV)
  (q:∀v H' A',Ext X.K A H A' H'->StoreOk X.w X.K A' H' (S++[.lst ws])->Rel X.K A' H' (.ref S.length) v->Q v H'):Q (.ref p) (bn H p (.lst vs)):=
 q _ _ (A++[p]) (dO hp) (so.push hp r) (.ref (by rw[<- so.len]; simp))
def z7 {A:Jj Ju}{H:Hp}{S:aa}{ws:Jj W}{vs:Jj V}{Q:VK}{p:Ju}(so:StoreOk X.w X.K A H S)(r:RelL X.K A H ws vs)(hp:H p=gV)
  (q:∀v H' A',Ext X.K A H A' H'->StoreOk X.w X.K A' H' S->Rel X.K A' H' (.tup ws) v->Q v H'):Q (.ref p) (bn H p (.tup vs)):=
 q _ _ A (bN (.inl hp)) (so.lay hp) (.tup (.of aI) (r.mono (bN (.inl hp))))
abbrev FJ (K:Jz):R2:=λx y H Q=>∃a b xs ys,x=.ref a/\y=.ref b/\SqT K H a xs/\SqT K H b ys/\xs.length+ys.length<=sizeLine/\
 (xs=[]->Q (.ref b) H)/\(ys=[]->Q (.ref a) H)/\(∀p,H p=gV->Q (.ref p) (bn H p (.tup (xs++ys))))
def z8:OpR X (binaryOp .Add) (FJ X.K):=by
 intro J s Y H x y v u Q I rx ry h;obtain⟨a,b,xs,ys,rfl,rfl,ha,hb,hz,q0,q1,q2⟩:=h;cases rx;cases ry;obtain⟨its,r1,p1,_⟩:=I.tuple ha;obtain⟨its2,r2,p2,_⟩:=I.tuple hb
 by_cases hx:xs=[]
 ·obtain⟨⟨cls,dd,data,sl⟩,ho,hc,n,hd⟩:=id p1;obtain⟨⟨cls2,dd2,data2,sl2⟩,ho2,hc2,n2,hd2⟩:=id p2;simp only at hc hd hc2 hd2;subst hc hd hc2 hd2;exact Qf #[_,ho,rfl] #[_,ho2,rfl] Ol Pz M6 M3 (MT _ _)
   (tuple_addW0 a b its.toArray its2.toArray n n2 dd dd2 sl sl2 (by simp[r1.nil_iff.mpr hx])) #[ho,ho2,#[.ref b,H,I,rfl,q0 hx]]
 ·show HT.zN p1 p2 (λz=>hx (r1.nil_iff.mp z)) (λz=>#[.ref a,H,I,rfl,q1 (r2.nil_iff.mp z)]) (λz=>?_) (by rw[<- r1.length,<- r2.length]; exact hz)
  show#[.ref s.heap.objs.size,_,I.laid (t':=s.toks) (o:=.tup (xs++ys)) (λb ob q=>Jn _ q) (Jy _) ?_,rfl,q2 _ (I.hok.fresh (Jy _))]
  exact#[#[by rw[Jw]; exact hz,NoD.new _ _ _],_,r1.append r2,QA _ _]
def RelL.nil_iff {K:Jz}{A:Jj Ju}{H:Hp}{ws:Jj W}{vs:Jj V}(r:RelL K A H ws vs):vs=[]↔ws=[]:=by
 cases r <;> simp
def qQ:OpR X (binaryOp .Mult) (λx y H Q=>∃z k,x=.str z/\y=.int k/\MulOk z k/\Q (.str (Th z k)) H):=by
 intro J s Y H x y v u Q I rx ry h;obtain⟨z,k,rfl,rfl,ok,q⟩:=h;obtain⟨t,rfl⟩:=rx;obtain⟨t',rfl⟩:=ry;exact SB.mul ok λt2 k2=>#[.str _,H,I.tok _,#[_,rfl],q]
def v6 {x:JA}{k:JG}(h1:k < 16777216)(h2 : -16777216<=k)(h3:x.length*k.toNat<=sizeLine):MulOk x k:=by
 have hs:sizeLine=16777216:=Kq;rw[hs]at h3;show#[?_,λa b=>?_,λ_ _=>?_]
 ·rw[Bool.or_eq_false_iff];exact#[J4 ∅,J4 ∅]
 ·have hk:0 < k:=∅
  have e:(x.length:JG)*k=((x.length*k.toNat:Jr):JG):=by
   rw[Int.natCast_mul,MP ∅]
  intro hgt;have h4:(2 ^ 63 - 1:JG) < (x.length:JG)*k:=(Int.ediv_lt_iff_lt_mul hk).mp hgt;rw[e]at h4;generalize x.length*k.toNat=z at h3 h4;omega
 ·unfold Rx;rw[hs];exact J4 ∅
inductive EndV (wd:Kf)(K:Jz)(A:Jj Ju)(H:Hp)(S':aa)(w:W)(v:V)(H':Hp):Prop
 | mk (A':Jj Ju) (e:Ext K A H A' H') (so:StoreOk wd K A' H' S') (r:Rel K A' H' w v):EndV wd K A H S' w v H'
def EndV.here {A:Jj Ju}{H:Hp}{S:aa}{w:W}{v:V}(so:StoreOk X.w X.K A H S)(r:Rel X.K A H w v):EndV X.w X.K A H S w v H:=#[A,.refl,so,r]
def EndV.lst {A:Jj Ju}{H:Hp}{S:aa}{ws:Jj W}{vs:Jj V}{p:Ju}(so:StoreOk X.w X.K A H S)(r:RelL X.K A H ws vs)(hp:H p=gV):EndV X.w X.K A H (S++[.lst ws]) (.ref S.length) (.ref p) (bn H p (.lst vs)):=
 z6 (Q:=EndV X.w X.K A H (S++[.lst ws]) (.ref S.length)) so r hp λv H' A' a b c=>#[A',a,b,c]
def EndV.tup {A:Jj Ju}{H:Hp}{S:aa}{ws:Jj W}{vs:Jj V}{p:Ju}(so:StoreOk X.w X.K A H S)(r:RelL X.K A H ws vs)(hp:H p=gV):EndV X.w X.K A H S (.tup ws) (.ref p) (bn H p (.tup vs)):=
 z7 (Q:=EndV X.w X.K A H S (.tup ws)) so r hp λv H' A' a b c=>#[A',a,b,c]
def EP.post {J:Jj (Ju×La)}{Y:L2.St}{A:Jj Ju}{H:Hp}{S':aa}{w:W}{u:Jm}{s':Jp}(h:EP X J Y (EndV X.w X.K A H S' w) u s'):PostE X J Y A H S' w u s':=by
 obtain⟨v,H',I',r,A',x,y,z⟩:=h;exact#[v,H',A',I',r,x,y,z]
def OpR.go {f:Jm->Jm->R3 Jm}{r:R2}(h:OpR X f r){J:Jj (Ju×La)}{Y:L2.St}{A:Jj Ju}{H:Hp}{S':aa}{w:W}{s:Jp}{a b:V}{u v:Jm}(I:Inv X J Y H s)(ru:RelV a u)(rv:RelV b v)
  (q:r a b H (EndV X.w X.K A H S' w)):wpAny (model X.prog X.w) X.A (f u v) (PostE X J Y A H S' w) X.xe s:=a7 (h J s Y H a b u v _ I ru rv q) λ_ _=>EP.post
def z9:LOp X (binaryOp .Add) (fN .add):=by
 intro J s Y H A S x y a b u v w S' I so rx ru ry rv e;cases rx with
 | int=>cases ry with
  | int=>cases e; exact OpR.go C4 I ru rv #[_,_,rfl,rfl,.here so .int]
  | _=>cases e
 | str=>cases ry with
  | str=>
   dsimp only[fN,uq]at e;split at e
   ·cases e; exact OpR.go qI I ru rv #[_,_,rfl,rfl,by assumption,.here so .str]
   ·cases e
  | _=>cases e
 | tup h1 r1=>cases ry with
  | tup h2 r2=>
   obtain⟨hl,rfl,rfl⟩:=rX (show qP S _=_ from e)
   rw[Jw,r1.length,r2.length]at hl;show OpR.go z8 I ru rv #[_,_,_,_,rfl,rfl,h1,h2,hl,λz=>?_,λz=>?_,λp hp=>.tup so (r1.append r2) hp]
   ·have z':=r1.nil_iff.mp z;subst z';exact .here so (.tup h2 r2)
   ·have z':=r2.nil_iff.mp z;subst z';rw[Kx];exact .here so (.tup h1 r1)
  | _=>cases e
 | ref h1=>cases ry with
  | ref h2=>
   dsimp only[fN,uq]at e;split at e
   ·obtain⟨hl,rfl,rfl⟩:=jN e;obtain⟨vs,q1,r1⟩:=eE so (by assumption) h1
    obtain⟨us,q2,r2⟩:=eE so (by assumption) h2
    rw[Jw,r1.length,r2.length]at hl;exact OpR.go Dm I ru rv #[_,_,_,_,rfl,rfl,q1,q2,hl,λp hp=>.lst so (r1.append r2) hp]
   ·cases e
  | _=>cases e
 | _=>cases e
def oO {f:Jm->Jm->R3 Jm}{c:JG->JG->J1}{g:JG->JG->JG}{r:R2}(h:OpR X f r)(hr:∀i j H Q,c i j=true->Q (.int (g i j)) H->r (.int i) (.int j) H Q):LOp X f (zq c g):=by
 intro J s Y H A S x y a b u v w S' I so rx ru ry rv e;cases rx with
 | int=>cases ry with
  | int=>
   unfold zq at e;dsimp only at e;split at e
   ·cases e; exact OpR.go h I ru rv (hr _ _ _ _ (by assumption) (.here so .int))
   ·cases e
  | _=>cases e
 | _=>cases e
def Aa:LOp X (binaryOp .Sub) (fN .sub):=oO C5 λ_ _ _ _ _ q=>#[_,_,rfl,rfl,q]
def Ab {i j:JG}(h:um i j=true):CMul i j:=by
 unfold um at h;rw[Lw,Js,Js,JW,JW,JW,JW]at h;exact h
def Ac:LOp X (binaryOp .Mult) (fN .mul):=by
 have hI:LOp X (binaryOp .Mult) (zq um (· * ·)):=oO C6 λ_ _ _ _ h q=>#[_,_,rfl,rfl,Ab h,q]
 intro J s Y H A S x y a b u v w S' I so rx ru ry rv e;cases x with
 | str z=>
  cases rx with
  | str=>cases ry with
   | int=>
    dsimp only[fN,vZ]at e;split at e
    ·rename_i hc;cases e; exact OpR.go qQ I ru rv #[_,_,rfl,rfl,v6 ∅ ∅ hc.2.2,.here so .str]
    ·cases e
   | _=>cases e
 | ref z=>
  cases rx with
  | ref h1=>cases ry with
   | int=>
    dsimp only[fN,vZ]at e;split at e
    ·split at e
     ·rename_i hc;obtain⟨hl,rfl,rfl⟩:=jN e;obtain⟨vs,q1,r1⟩:=eE so (by assumption) h1
      rw[r1.length]at hc;exact OpR.go Do I ru rv #[_,_,_,rfl,rfl,q1,∅,∅,hc.2.2,λp hp=>.lst so (r1.rep _) hp]
     ·cases e
    ·cases e
   | _=>cases e
 | _=>exact hI _ _ _ _ _ _ _ _ _ _ _ _ _ _ I so rx ru ry rv e
def v8:LOp X (binaryOp .FloorDiv) (fN .fdiv):=oO zI λ_ _ _ _ h q=>#[_,_,rfl,rfl,by
 unfold z5 at h;rw[Js,JW,JW]at h;exact h,q]
def Ad:LOp X (binaryOp .Mod) (fN .mod):=oO C7 λ_ _ _ _ h q=>#[_,_,rfl,rfl,J9 h,q]
def Ae:LOp X (binaryOp .Pow) (fN .pow):=oO C8 λ_ _ _ _ h q=>#[_,_,rfl,rfl,by
 unfold FH at h;rw[Js,Js,JW,JW,JW]at h;exact#[h.1.1,h.1.2,h.2],q]
def rY (o:BOp):LOp X (binaryOp o.py) (fN o):=by
 cases o
 ·exact z9
 ·exact Aa
 ·exact Ac
 ·exact v8
 ·exact Ad
 ·exact Ae
end
abbrev gX (f:W->W->Jq J1):Jj W->Jj W->Jq J1
 | [],[]=>ba true
 | [],_::_=>ba false
 | _::_,[]=>ba false
 | x::xs,y::ys=>match f x y,gX f xs ys with
  | some a,ba b=>ba (a&&b)
  | _,_=>gV
abbrev b2 (b:J1):JG:=if b then 1 else 0
abbrev i9 (S:aa):Jr->W->W->Jq J1
 | _,.non,y=>match y with
  | .non=>ba true
  | _=>gV
 | _,.bl a,y=>match y with
  | .bl b=>ba (a==b)
  | _=>gV
 | _,.int a,y=>match y with
  | .int b=>ba (a==b)
  | _=>gV
 | _,.str a,y=>match y with
  | .str b=>ba (a==b)
  | _=>gV
 | 0,_,_=>gV
 | d+1,.tup xs,y=>match y with
  | .tup ys=>gX (i9 S d) xs ys
  | _=>gV
 | d+1,.ref i,y=>match y with
  | .ref j=>match oy S i,oy S j with
   | some xs,ba ys=>if xs.length=ys.length then gX (i9 S d) xs ys else ba false
   | _,_=>gV
  | _=>gV
section
variable{X:Cx}{J:Jj (Ju×La)}{Y:L2.St}{H:Hp}{s:Jp}{A:Jj Ju}{S:aa}
abbrev RU (K:Jz)(A:Jj Ju)(H:Hp)(w:W)(u:Jm):Prop:=∃v,Rel K A H w v/\RelV v u
def rZ {ws:Jj W}{vs:Jj V}{us:Jj Jm}(r:RelL X.K A H ws vs)(q:Vals vs us):∀(j:Jr) (h1:j < ws.length) (h2:j < us.length),RU X.K A H ws[j] us[j]:=by
 induction ws generalizing vs us with
 | nil=>intro j h1; simp at h1
 | cons w ws ih=>
  cases r with
  | cons r1 rr=>
   cases q with
   | cons q1 qq=>
    intro j h1 h2;cases j with
    | zero=>exact#[_,r1,q1]
    | succ j=>exact ih rr qq j (by simpa using h1) (by simpa using h2)
def wa {ws:Jj W}{u:Jm}(I:Inv X J Y H s)(h:RU X.K A H (.tup ws) u):∃a its,u=.ref a/\P8 s.heap a its/\its.size=ws.length/\ws.length<=sizeLine/\∀(j:Jr) (h1:j < ws.length) (h2:j < its.size),RU X.K A H ws[j] its[j]:=by
 obtain⟨v,r,q⟩:=h;cases r with
 | tup sq rl=>
  obtain⟨its,rv,ht,hz⟩:=I.tuple sq;show#[_,its.toArray,q,ht,by rw[JJ,<- rv.length,rl.length],by rw[rl.length]; exact hz,λj h1 h2=>?_]
  have:=rZ rl rv j h1 (by simpa using h2)
  simpa using this
def wb {i:Jr}{ws:Jj W}{u:Jm}(I:Inv X J Y H s)(so:StoreOk X.w X.K A H S)(e:oy S i=ba ws)(h:RU X.K A H (.ref i) u):∃a its,u=.ref a/\A[i]?=ba a/\s.heap.IsList a its/\its.size=ws.length/\ws.length<=sizeLine/\∀(j:Jr) (h1:j < ws.length) (h2:j < its.size),RU X.K A H ws[j] its[j]:=by
 obtain⟨v,r,q⟩:=h;cases r with
 | ref ea=>
  obtain⟨vs,hq,rl⟩:=eE so e ea;obtain⟨its,rv,ht,hz⟩:=I.list (.of hq);show#[_,its.toArray,q,ea,ht.isList,by rw[JJ,<- rv.length,rl.length],by rw[rl.length]; exact hz,λj h1 h2=>?_]
  have:=rZ rl rv j h1 (by simpa using h2)
  simpa using this
def j9 {f:W->W->Jq J1}:∀ {xs ys:Jj W} {k:J1},gX f xs ys=ba k->∃e:Jr->J1,(∀(j:Jr) (h1:j < xs.length) (h2:j < ys.length),f xs[j] ys[j]=ba (e j))/\
  k=((Kb (min xs.length ys.length)).all e&&xs.length==ys.length)
 | [],[],k,h=>#[λ_=>true,λj h1=>by simp at h1,by cases h; rfl]
 | [],_::_,k,h=>#[λ_=>true,λj h1=>by simp at h1,by cases h; simp]
 | _::_,[],k,h=>#[λ_=>true,λj h1 h2=>by simp at h2,by cases h; simp]
 | x::xs,y::ys,k,h=>by
  dsimp only[gX]at h;split at h
  ·rename_i a b ha hb;cases h;obtain⟨e,h1,h2⟩:=j9 hb;show#[λj=>match j with|0=>a|j+1=>e j,λj hj1 hj2=>?_,?_]
   ·cases j with
    | zero=>exact ha
    | succ j=>exact h1 j (by simpa using hj1) (by simpa using hj2)
   ·subst h2;simp only[JL,Nat.add_min_add_right,Oy,Kl,Qm,Bool.and_assoc];congr 2;simp
  ·cases h
def Ag (I:Inv X J Y H s)(so:StoreOk X.w X.K A H S):∀(d:Jr) {x y:W} {v:V} {k:J1},Rel X.K A H x v->Rel X.K A H y v->i9 S d x y=ba k->k=true:=by
 intro d
 induction d with
 | zero=>
  intro x y v k rx ry e;cases rx with
  | non=>cases ry; cases e; rfl
  | bl=>cases ry; cases e; exact J5 _
  | int=>cases ry; cases e; exact J5 _
  | str=>cases ry; cases e; exact J5 _
  | tup _ _=>cases e
  | ref _=>cases e
 | succ d ih=>
  have lists:∀ {xs ys:Jj W} {vs:Jj V} {k:J1},RelL X.K A H xs vs->RelL X.K A H ys vs->gX (i9 S d) xs ys=ba k->k=true:=by
   intro xs
   induction xs with
   | nil=>
    intro ys vs k r1 r2 e;cases r1; cases r2; cases e; rfl
   | cons x xs ihx=>
    intro ys vs k r1 r2 e;cases r1 with
    | cons p1 q1=>
     cases r2 with
     | cons p2 q2=>
      dsimp only[gX]at e;split at e
      ·rename_i a b ha hb;cases e;rw[ih p1 p2 ha,ihx q1 q2 hb];rfl
      ·cases e
  intro x y v k rx ry e;cases rx with
  | non=>cases ry; cases e; rfl
  | bl=>cases ry; cases e; exact J5 _
  | int=>cases ry; cases e; exact J5 _
  | str=>cases ry; cases e; exact J5 _
  | tup h1 r1=>
   cases ry with
   | tup h2 r2=>
    rw[I.tuple_inj h1 h2]at r1;exact lists r1 r2 e
   | ref ea=>cases e
  | ref ea=>
   cases ry with
   | tup h2 r2=>cases e
   | ref eb=>
    dsimp only[i9]at e;split at e
    ·rename_i xs ys hx hy;have:=so.nd _ _ _ _ _ (j8 hx) rfl (j8 hy) rfl ea eb;subst this;rw[hx]at hy; cases hy
     rw[JO rfl]at e;obtain⟨vs,q,r⟩:=eE so hx ea;exact lists r r e
    ·cases e
def aY (A:Ke):A.in1.units=A.units+1:=rfl
noncomputable abbrev EX (B:Ke)(s:Jp)(u v:Jm)(k:J1):Prop:=SeqAt.RcAt B s u v k/\SeqAt.RcNeAt B s u v (!k)/\Ni B s u v k
open SeqAt in
def B3 (I:Inv X J Y H s)(so:StoreOk X.w X.K A H S):∀(d:Jr) (B:Ke) {x y:W} {u v:Jm} {k:J1},B.units+d < cLine->RU X.K A H x u->RU X.K A H y v->i9 S d x y=ba k->EX B s u v k:=by
 have non:∀ {B:Ke} {y:W} {u v:Jm} {k:J1} {d:Jr},RU X.K A H .non u->RU X.K A H y v->i9 S d .non y=ba k->EX B s u v k:=by
  intro B y u v k d ⟨_,rx,ra⟩ ⟨_,ry,rb⟩ e;cases rx;cases(show u=KC from ra)
  cases y with
  | non=>
   have e:ba (true)=ba k:=by cases d <;> exact e
   cases e;cases ry;cases(show v=KC from rb)
   exact#[.none_none,.none_none,.same _]
  | _=>cases d <;> cases e
 have bl:∀ {B:Ke} {b:J1} {y:W} {u v:Jm} {k:J1} {d:Jr},RU X.K A H (.bl b) u->RU X.K A H y v->i9 S d (.bl b) y=ba k->EX B s u v k:=by
  intro B b y u v k d ⟨_,rx,ra⟩ ⟨_,ry,rb⟩ e;cases rx;cases(show u=Le _ from ra)
  cases y with
  | bl c=>
   have e:ba (b==c)=ba k:=by cases d <;> exact e
   cases e;cases ry;cases(show v=Le _ from rb)
   exact#[.bool_bool _ _,.bool_bool _ _,.bool_bool _ _]
  | _=>cases d <;> cases e
 have int:∀ {B:Ke} {b:JG} {y:W} {u v:Jm} {k:J1} {d:Jr},RU X.K A H (.int b) u->RU X.K A H y v->i9 S d (.int b) y=ba k->EX B s u v k:=by
  intro B b y u v k d ⟨_,rx,ra⟩ ⟨_,ry,rb⟩ e;cases rx;obtain⟨t0,rfl⟩ : ∃t,u=Oi _ t:=ra;cases y with
  | int c=>
   have e:ba (b==c)=ba k:=by cases d <;> exact e
   cases e;cases ry;obtain⟨t,rfl⟩ : ∃t,v=Oi _ t:=rb;exact#[.int_int _ _ _ _,.int_int _ _ _ _,.int_int _ _ _ _]
  | _=>cases d <;> cases e
 have str:∀ {B:Ke} {b:JA} {y:W} {u v:Jm} {k:J1} {d:Jr},RU X.K A H (.str b) u->RU X.K A H y v->i9 S d (.str b) y=ba k->EX B s u v k:=by
  intro B b y u v k d ⟨_,rx,ra⟩ ⟨_,ry,rb⟩ e;cases rx;obtain⟨t0,rfl⟩ : ∃t,u=M2 _ t:=ra;cases y with
  | str c=>
   have e:ba (b==c)=ba k:=by cases d <;> exact e
   cases e;cases ry;obtain⟨t,rfl⟩ : ∃t,v=M2 _ t:=rb;exact#[.str_str _ _ _ _,.str_str _ _ _ _,.str_str _ _ _ _]
  | _=>cases d <;> cases e
 intro d
 induction d with
 | zero=>
  intro B x y u v k hu rx ry e;cases x with
  | non=>exact non rx ry e
  | bl b=>exact bl rx ry e
  | int b=>exact int rx ry e
  | str b=>exact str rx ry e
  | _=>cases e
 | succ d ih=>
  intro B x y u v k hu rx ry e;have hu0:B.units < cLine:=∅
  have hu1:B.in1.units+d < cLine:=by rw[aY]; omega
  have rx0:=rx;have ry0:=ry;have fin:∀ {a b:Ju},u=.ref a->v=.ref b->RcAt B s u v k->RcNeAt B s u v (!k)->EX B s u v k:=by
   intro a b ea eb h1 h2;subst ea eb;show#[h1,h2,?_]
   by_cases hab:a=b
   ·subst hab;obtain⟨v1,q1,z1⟩:=rx0;obtain⟨v2,q2,z2⟩:=ry0;have e12:v1=v2:=z1.inj z2;subst e12;have:=Ag I so (d+1) q1 q2 e;subst this;exact EqAt.same _
   ·exact EqAt.of_refs hab h1
  cases x with
  | non=>exact non rx ry e
  | bl b=>exact bl rx ry e
  | int b=>exact int rx ry e
  | str b=>exact str rx ry e
  | tup xs=>
   cases y with
   | tup ys=>
    obtain⟨a,its,rfl,ht,hs,_,hi⟩:=wa I rx;obtain⟨b,its2,rfl,ht2,hs2,_,hi2⟩:=wa I ry;obtain⟨f,h1,h2⟩:=j9 (show gX (i9 S d) xs ys=ba k from e)
    have he:∀j (h1:j < its.size) (h2:j < its2.size),EqAt B.in1 s its[j] its2[j] (f j):=λj j1 j2=>
     (ih B.in1 hu1 (hi j (hs ▸ j1) j1) (hi2 j (hs2 ▸ j2) j2) (h1 j (hs ▸ j1) (hs2 ▸ j2))).2.2
    rw[<- hs,<- hs2]at h2;subst h2;exact fin rfl rfl (RcAt.tuples ht ht2 hu0 he) (RcNeAt.tuples ht ht2 hu0 he)
   | _=>cases e
  | ref i=>
   cases y with
   | ref j=>
    dsimp only[i9]at e;split at e
    ·rename_i ws ws2 hw hw2;obtain⟨a,its,rfl,_,hl,hs,_,hi⟩:=wb I so hw rx;obtain⟨b,its2,rfl,_,hl2,hs2,_,hi2⟩:=wb I so hw2 ry;split at e
     ·rename_i hlen;obtain⟨f,h1,h2⟩:=j9 e;have he:∀j (h1:j < its.size) (h2:j < its2.size),EqAt B.in1 s its[j] its2[j] (f j):=λj j1 j2=>
       (ih B.in1 hu1 (hi j (hs ▸ j1) j1) (hi2 j (hs2 ▸ j2) j2) (h1 j (hs ▸ j1) (hs2 ▸ j2))).2.2
      have hk:k=(Kb its.size).all f:=by rw[h2,hs,hlen]; simp
      subst hk;exact fin rfl rfl (RcAt.lists hl hl2 (by rw[hs,hs2,hlen]) hu0 he) (RcNeAt.lists hl hl2 (by rw[hs,hs2,hlen]) hu0 he)
     ·rename_i hlen;cases e;have hb:(its.size != its2.size)=true:=by rw[hs,hs2]; simpa using hlen
      exact fin rfl rfl (RcAt.lists_lengths hl hl2 hb hu0) (RcNeAt.lists_lengths hl hl2 hb hu0)
    ·cases e
   | _=>cases e
end
abbrev LtAt (B:Ke)(s:Jp)(u v:Jm)(k:J1):Prop:=
 ∀(prog:J2) (w:Kf) (E:Jm->Jp->Prop) (Q:Jm->Jp->Prop),Q (.bool k) s->wpAny (model prog w) B (richCompare .Lt u v) Q E s
inductive LexR (B:Ke)(s:Jp):Jj Jm->Jj Jm->J1->Prop
 | nn:LexR B s [] [] false
 | nc {v:Jm} {vs:Jj Jm}:LexR B s [] (v::vs) true
 | cn {v:Jm} {vs:Jj Jm}:LexR B s (v::vs) [] false
 | eq {u v:Jm} {us vs:Jj Jm} {k:J1}:Ni B s u v true->LexR B s us vs k->LexR B s (u::us) (v::vs) k
 | ne {u v:Jm} {us vs:Jj Jm} {k:J1}:Ni B s u v false->LtAt B s u v k->LexR B s (u::us) (v::vs) k
section
open PySem.SeqAt
open PySem.AutoSeq1 (wpAny_loadPart')
open PySem.MeetsSeq PySem.MeetsSeq2 PySem.MeetsSeq3
def mY (l b:Ju)(items items2:Ki Jm)(n n2:Jr)(dd dd2:Jq Ju)(sl sl2:Ki (Jq Jm))(k:J1) :
  Meets (MX.«tuple.__lt__» #[[.ref l,.ref b],[]])
   (λB R s=>s.heap.get? l=ba { cls:=.type "tuple",dict:=dd,data:=.seq items n,slots:=sl }/\s.heap.get? b=ba { cls:=.type "tuple",dict:=dd2,data:=.seq items2 n2,slots:=sl2 }/\
    LexR B.in1 s items.toList items2.toList k/\R (.ok (.ret (.bool k))) s):=
 .of_wp λprog w A R s h=>by
  obtain⟨hp,g,d,tk,os⟩:=s; obtain⟨hl,hb,hx,h⟩:=h
  have f2:=RH;have z1:items.toList.length=items.size:=by simp
  have z2:items2.toList.length=items2.size:=by simp
  wp_walk using MW hl,MW hb,On _ (λbI b s'=>b.1=gV/\s'=#[hp,g,d,tk,os]/\∃(vs ws:Jj Jm),bI=vs.zip ws/\
   LexR A.in1 #[hp,g,d,tk,os] vs ws k/\vs.length+items2.size=ws.length+items.size) _
  case turn=>
   rintro⟨y,x⟩ bI b s' ⟨hb',rfl,vs,ws,hz,hlx,hlen⟩;cases hlx with
   | nn=>rw[Qn]at hz; cases hz
   | nc=>rw[Qn]at hz; cases hz
   | cn=>rw[List.zip_nil_right]at hz; cases hz
   | eq he hr=>
    rw[Mq]at hz;injection hz with hyx hrest
    injection hyx with hy hx
    subst hy hx;simp only[JL]at hlen;show Jk (he prog w _ _ ?_)
    wp_walk
    exact#[rfl,rfl,_,_,hrest,hr,∅]
   | ne he hr=>
    rw[Mq]at hz;injection hz with hyx hrest
    injection hyx with hy hx
    subst hy hx;show Jk (he prog w _ _ ?_);have hri:=hr prog w
    wp_walk using hri
    exact#[_,rfl,by simpa using h]
  case fin=>
   rintro⟨b1,b2⟩ s' ⟨hb',rfl,vs,ws,hz,hlx,hlen⟩;simp only at hb';subst hb';have hv:k=decide (items.size < items2.size):=by
    cases hlx with
    | nn=>simp only[Lj]at hlen; exact(J4 ∅).symm
    | nc=>simp only[Lj,JL]at hlen; exact(J6 ∅).symm
    | cn=>simp only[Lj,JL]at hlen; exact(J4 ∅).symm
    | eq _ _=>rw[Mq]at hz; cases hz
    | ne _ _=>rw[Mq]at hz; cases hz
   subst hv
   wp_walk
   exact#[_,rfl,by simpa [Qy]using h]
  case h=>
   exact#[rfl,rfl,items.toList,items2.toList,rfl,hx,∅]
end
def LtAt.tuples {B:Ke}{s:Jp}{l b:Ju}{items items2:Ki Jm}{k:J1}(hl:P8 s.heap l items)(hb:P8 s.heap b items2)(hu:B.units < cLine)(hx:LexR B.in1 s items.toList items2.toList k) :
  LtAt B s (.ref l) (.ref b) k:=λprog w E Q h=>by
 obtain⟨⟨cls,dd,data,sl⟩,ho,hc,n,hd⟩:=id hl;obtain⟨⟨cls2,dd2,data2,sl2⟩,ho2,hc2,n2,hd2⟩:=id hb;simp only at hc hd hc2 hd2;subst hc hd hc2 hd2;exact richCompare_meets_room (op:=.Lt) #[_,ho,rfl] #[_,ho2,rfl] PySem.F.slot_tuple_lt PySem.F.entry_tuple_lt (PySem.F.args_tuple_lt_2 _ _) (mY l b items items2 n n2 dd dd2 sl sl2 k)
  #[ho,ho2,hx,show Le k≠Value.notImplemented/\Q (.bool k) s from#[(λx=>nomatch x),h]] hu
inductive COp where|eq|ne|lt|le|gt|ge|isin|notin|is|isnot
 deriving MB
abbrev COp.py:COp->QU
 | .eq=>.Eq|.ne=>.NotEq|.lt=>.Lt|.le=>.LtE|.gt=>.Gt|.ge=>.GtE|.isin=>.In|.notin=>.NotIn|.is=>.Is|.isnot=>.IsNot
abbrev bh:W->J1
 | .non=>true
 | .bl _=>true
 | .int _=>true
 | .str _=>true
 | _=>false
abbrev qB:W->W->J1
 | .non,.non=>true
 | .bl a,.bl b=>a==b
 | .bl a,.int b=>b2 a==b
 | .int a,.bl b=>a==b2 b
 | .int a,.int b=>a==b
 | .str a,.str b=>a==b
 | _,_=>false
abbrev cq (S:aa):W->Jq (Jj W)
 | .tup xs=>ba xs
 | .ref i=>eW S i
 | _=>gV
noncomputable abbrev eX:Jr:=20
abbrev zr (x y:W)(S:aa):Jq J1:=match cq S y with
 | some ys=>if bh x&&ys.all bh then ba (ys.any λz=>qB z x)else gV
 | none=>gV
abbrev ur:W->J1
 | .non=>true
 | _=>false
abbrev wc (f:JG->JG->J1):W->W->Jq J1
 | .int i,.int j=>ba (f i j)
 | _,_=>gV
abbrev HU:W->W->Jq J1
 | .bl a,.bl b=>ba (!(a==b))
 | _,_=>gV
abbrev oP:COp->W->W->aa->Jq J1
 | .eq,x,y,S=>i9 S eX x y
 | .ne,x,y,S=>(i9 S eX x y).map (!·)
 | .lt,x,y,_=>wc (λi j=>decide (i < j)) x y
 | .le,x,y,_=>wc (λi j=>decide (i<=j)) x y
 | .gt,x,y,_=>wc (λi j=>decide (j < i)) x y
 | .ge,x,y,_=>wc (λi j=>decide (j<=i)) x y
 | .isin,x,y,S=>zr x y S
 | .notin,x,y,S=>(zr x y S).map (!·)
 | .is,x,y,_=>if ur y then ba (ur x)else gV
 | .isnot,x,y,_=>if ur y then ba (!ur x)else HU x y
abbrev cw (o:COp)(x y:W)(S:aa):Jq (W×aa):=(oP o x y S).map λk=>(.bl k,S)
section
variable{X:Cx}
def ik {J:Jj (Ju×La)}{Y:L2.St}{H:Hp}{s:Jp}{A:Jj Ju}{S:aa}{k:J1}(I:Inv X J Y H s)(so:StoreOk X.w X.K A H S):PostE X J Y A H S (.bl k) (.bool k) s:=
 #[.bl k,H,A,I,rfl,.refl,so,.bl]
def Ah {o:COp}{x y w:W}{S S':aa}(h:cw o x y S=ba (w,S')):∃k,oP o x y S=ba k/\w=.bl k/\S'=S:=by
 unfold cw at h;rw[Jo]at h;obtain⟨k,h1,h2⟩:=h;cases h2;exact#[k,h1,rfl,rfl]
def fQ {A:Jj Ju}{H:Hp}{w:W}{v:V}(r:Rel X.K A H w v)(f:bh w=true):gO v=true:=by
 cases r <;> first|rfl|cases f
def gx {A:Jj Ju}{H:Hp}:∀ {ws:Jj W} {vs:Jj V},RelL X.K A H ws vs->ws.all bh=true->vs.all gO=true
 | _,_,.nil,_=>rfl
 | _,_,.cons r t,f=>by
  rw[Kl,Js]at f ⊢;exact#[fQ r f.1,gx t f.2]
def r0 {A:Jj Ju}{H:Hp}{x y:W}{u v:V}(r:Rel X.K A H x u)(q:Rel X.K A H y v)(fx:bh x=true)(fy:bh y=true):zT u v=qB x y:=by
 cases r <;> cases q <;> first|rfl|cases fx|cases fy
def r6 {A:Jj Ju}{H:Hp}{y:W}{v:V}(q:Rel X.K A H y v)(fy:bh y=true):∀ {ws:Jj W} {vs:Jj V},RelL X.K A H ws vs->ws.all bh=true->Hg v vs=ws.any λz=>qB z y
 | _,_,.nil,_=>rfl
 | _,_,.cons r t,f=>by
  rw[Kl,Js]at f;have:=r6 q fy t f.2;unfold Hg at this ⊢;rw[LU,LU,r0 r q f.1 fy,this]
def mZ {J:Jj (Ju×La)}{Y:L2.St}{H:Hp}{s:Jp}{A:Jj Ju}{S:aa}{y:W}{b:V}{ys:Jj W}(so:StoreOk X.w X.K A H S)(r:Rel X.K A H y b)(e:cq S y=ba ys):∃p vs,b=.ref p/\(SqL X.K H p vs\/SqT X.K H p vs)/\RelL X.K A H ys vs:=by
 cases r with
 | tup h1 r1=>cases e; exact#[_,_,rfl,.inr h1,r1]
 | ref ea=>
  obtain⟨vs,h1,r1⟩:=aU so e ea;exact#[_,vs,rfl,.inl h1,r1]
 | _=>cases e
def we {neg:J1}{o:QU}(ho:OpR X (compareOp o) (HM X.K neg)){J:Jj (Ju×La)}{Y:L2.St}{H:Hp}{s:Jp}{A:Jj Ju}{S:aa}{x y:W}{a b:V}{u v:Jm}{ys:Jj W}(I:Inv X J Y H s)(so:StoreOk X.w X.K A H S)
  (rx:Rel X.K A H x a) (ru:RelV a u) (ry:Rel X.K A H y b) (rv:RelV b v) (e:cq S y=ba ys) (f:(bh x&&ys.all bh)=true) :
  wpAny (model X.prog X.w) X.A (compareOp o u v) (PostE X J Y A H S (.bl (if neg then !ys.any λz=>qB z x else ys.any λz=>qB z x))) X.xe s:=by
 obtain⟨p,vs,rfl,hq,rl⟩:=mZ (J:=J) (Y:=Y) (s:=s) so ry e;rw[Js]at f;show OpR.go ho I ru rv #[p,vs,rfl,hq,fQ rx f.1,gx rl f.2,?_];rw[r6 rx f.1 rl f.2];exact .here so .bl
def im (hu:X.A.units+eX < cLine)(o:COp):LOp X (compareOp o.py) (cw o):=by
 intro J s Y H A S x y a b u v w S' I so rx ru ry rv e;obtain⟨k,ek,e1,e2⟩:=Ah e;subst e1;subst e2;clear e
 rename aa=>S
 have twoI:∀ {f:JG->JG->J1},wc f x y=ba k->∃i j,x=.int i/\y=.int j/\k=f i j:=by
  intro f h;cases x with
  | int i=>cases y with
   | int j=>cases h; exact#[i,j,rfl,rfl,rfl]
   | _=>cases h
  | _=>cases h
 have hu1:X.A.units+1 < cLine:=by have:eX=20:=rfl; omega
 have ofSq:∀ {c:J1},zr x y S=ba c->(∃ys,cq S y=ba ys/\(bh x&&ys.all bh)=true/\c=ys.any λz=>qB z x):=by
  intro c h;unfold zr at h;split at h
  ·split at h
   ·cases h; exact#[_,by assumption,by assumption,rfl]
   ·cases h
  ·cases h
 have ofN:∀ {c:J1},(if ur y then ba c else gV)=ba k->y=.non/\k=c:=by
  intro c h;cases y with
  | non=>cases h; exact#[rfl,rfl]
  | _=>cases h
 cases o with
 | eq=>exact(B3 I so eX X.A hu #[a,rx,ru] #[b,ry,rv] ek).1 _ _ _ _ (ik I so)
 | ne=>
  obtain⟨k',h1,rfl⟩:=Jo.mp ek;exact(B3 I so eX X.A hu #[a,rx,ru] #[b,ry,rv] h1).2.1 _ _ _ _ (ik I so)
 | lt=>
  obtain⟨i,j,rfl,rfl,rfl⟩:=twoI ek;cases rx; cases ry
  exact OpR.go Fp I ru rv #[_,_,rfl,rfl,.here so .bl]
 | le=>
  obtain⟨i,j,rfl,rfl,rfl⟩:=twoI ek;cases rx; cases ry
  exact OpR.go Fq I ru rv #[_,_,rfl,rfl,.here so .bl]
 | gt=>
  obtain⟨i,j,rfl,rfl,rfl⟩:=twoI ek;cases rx; cases ry
  exact OpR.go Fs I ru rv #[_,_,rfl,rfl,.here so .bl]
 | ge=>
  obtain⟨i,j,rfl,rfl,rfl⟩:=twoI ek;cases rx; cases ry
  exact OpR.go Ft I ru rv #[_,_,rfl,rfl,.here so .bl]
 | isin=>
  obtain⟨ys,h1,h2,rfl⟩:=ofSq ek;exact we (neg:=false) ue I so rx ru ry rv h1 h2
 | notin=>
  obtain⟨c,h,rfl⟩:=Jo.mp ek;obtain⟨ys,h1,h2,rfl⟩:=ofSq h;exact we (neg:=true) mV I so rx ru ry rv h1 h2
 | is=>
  obtain⟨rfl,rfl⟩:=ofN ek;cases ry;show OpR.go Da I ru rv #[rfl,?_];cases rx <;> exact .here so .bl
 | isnot=>
  cases y with
  | non=>
   have ek:ba (!ur x)=ba k:=ek;cases ek;cases ry;show OpR.go zJ I ru rv #[rfl,?_];cases rx <;> exact .here so .bl
  | bl b'=>
   cases x with
   | bl a'=>
    have ek:ba (!(a'==b'))=ba k:=ek;cases ek;cases rx;cases ry;obtain rfl:u=Le a':=ru;obtain rfl:v=Le b':=rv;show wpAny_isNot_plain rfl ?_;have e:(!(Le a'==Le b')) = !(a'==b'):=by cases a' <;> cases b' <;> rfl
    rw[e];exact ik I so
   | _=>cases ek
  | _=>cases x <;> cases ek
end
end Mi
namespace HT
open PySem PyProof.Rows
section
variable{prog:J2}{w:Kf}{A:Ke}{E:Jm->Jp->Prop}{s:Jp}
def gJ {t sl:Ju}{items:Ki Jm}{vl vu:Jm}{lo hi:Jq JG}{Q:Jm->Jp->Prop}(ht:P8 s.heap t items)(hs:s.heap.IsSliceOf sl vl vu .none)(pl:Nw vl lo)(pu:Nw vu hi)
  (hw:bW items.size 0 lo=0/\bW items.size items.size hi=items.size) (h:Q (.ref t) s):wpAny (model prog w) A (getItem (.ref t) (.ref sl)) Q E s:=by
 obtain⟨os,hos,hcs,hds⟩:=id hs;have hTs:s.TypeIs (.ref sl) "slice":=#[os,hos,hcs];unfold getItem
 try with_reducible show KQ ?_
 first|refine Jk (Jt ?_)|skip
 show Jk (Qg ht.typeIs #v[] ?_)
 show Jk (Kt (name:=Lq "__getitem__") ht.typeIs Lx
  (KN Lx ht.typeIs Pq ?_ (PV _ _)))
 change wpAny _ _ (MC (.ref t) >>= _) _ _ s;show Jk (RB ht ?_);show Jk (NH hTs ?_);rw[JO #v[]]
 show Jk (eO hs pl pu ?_);have hyes:((((bW items.size 0 lo:Jr):JG)==0&&(1:JG)==1&&(bW items.size items.size hi - bW items.size 0 lo)==items.size)=true):=by
  rw[hw.1,hw.2];simp
 change wpAny _ _ (if (((bW items.size 0 lo:Jr):JG)==0&&(1:JG)==1&&(bW items.size items.size hi - bW items.size 0 lo)==items.size)=true then _ else _) _ _ s
 rw[JO hyes];unfold Ro;show Jk (Jk (NH ht.typeIs (Jt ?_)));rw[JO #v[]]
 exact Jk (Nh (Jk (Jt (Jt #[_,rfl,Jt h]))))
end
end HT
namespace Mi
open PySem PySem.Spec PyProof.Rows L2
abbrev ut (x y:W)(S:aa):Jq (W×aa):=match x,y with
 | .tup xs,.int i=>(oK xs i).map λw=>(w,S)
 | .ref r,.int i=>match eW S r with
  | some xs=>(oK xs i).map λw=>(w,S)
  | none=>gV
 | .str x,.int i=>if x.length<=sizeLine then(oK x.cps.toList i).map λc=>(.str #[[c].toArray],S)else gV
 | _,_=>gV
abbrev gY (xs:Jj W)(lo hi:Jq JG):Jj W:=(xs.drop (HT.bW xs.length 0 lo)).take (HT.bW xs.length xs.length hi - HT.bW xs.length 0 lo)
abbrev lM (x:W)(lo hi:Jq JG)(S:aa):Jq (W×aa):=match x with
 | .tup xs=>ba (.tup (gY xs lo hi),S)
 | .str x=>if (M9 x lo hi).length<=sizeLine then ba (.str (M9 x lo hi),S)else gV
 | .ref r=>match eW S r with
  | some xs=>ba (.ref S.length,S++[.lst (gY xs lo hi)])
  | none=>gV
 | _=>gV
abbrev uu (o i v:W)(S:aa):Jq aa:=match o,i with
 | .ref r,.int k=>match oy S r with
  | some xs=>match rS xs.length k with
   | some j=>ba (S.set r (.lst (xs.set j v)))
   | none=>gV
  | none=>gV
 | _,_=>gV
section
variable (X:Cx)
abbrev LIx (g:W->W->aa->Jq (W×aa)):Prop:=
 ∀(value slice:JR) (J:Jj (Ju×La)) (s:Jp) (Y:L2.St) (H:Hp) (A:Jj Ju) (S:aa) (x y:W) (a b:V) (u v:Jm) (w:W) (S':aa),Inv X J Y H s->StoreOk X.w X.K A H S->
  Rel X.K A H x a->RelV a u->Rel X.K A H y b->RelV b v->g x y S=ba (w,S')->subscripted slice false u v=operate [u,v] (getItem u v)->wpAny (model X.prog X.w) X.A (subscriptTail value slice u v) (PostE X J Y A H S' w) X.xe s
abbrev LSl (g:W->Jq JG->Jq JG->aa->Jq (W×aa)):Prop:=
 ∀(J:Jj (Ju×La)) (s:Jp) (Y:L2.St) (H:Hp) (A:Jj Ju) (S:aa) (x:W) (a:V) (v vl vu:Jm) (lo hi:Jq JG) (sl:Ju) (w:W) (S':aa),Inv X J Y H s->StoreOk X.w X.K A H S->
  Rel X.K A H x a->RelV a v->s.heap.IsSliceOf sl vl vu .none->Nw vl lo->Nw vu hi->g x lo hi S=ba (w,S')->
  ∃T id,typeLookup (.type T) "__getitem__" = pure (ba (.builtin id))/\s.TypeIs v T/\wpAny (model X.prog X.w) X.A (getItem v (.ref sl)) (PostE X J Y A H S' w) X.xe s
abbrev LSet (g:W->W->W->aa->Jq aa):Prop:=
 ∀(J:Jj (Ju×La)) (s:Jp) (Y:L2.St) (H:Hp) (A:Jj Ju) (S:aa) (o i x:W) (ao ai ax:V) (uo ui ux:Jm) (S':aa),Inv X J Y H s->StoreOk X.w X.K A H S->
  Rel X.K A H o ao->RelV ao uo->Rel X.K A H i ai->RelV ai ui->Rel X.K A H x ax->RelV ax ux->g o i x S=ba S'->
  wpAny (model X.prog X.w) X.A (setItem uo ui ux) (λ_ s'=>∃H' A',Inv X J Y H' s'/\Ext X.K A H A' H'/\StoreOk X.w X.K A' H' S') X.xe s
abbrev LCall (f:Jm)(g:Jj W->aa->Jq (W×aa)):Prop:=
 ∀(J:Jj (Ju×La)) (s:Jp) (Y:L2.St) (H:Hp) (A:Jj Ju) (S:aa) (xs:Jj W) (vs:Jj V) (us:Jj Jm) (w:W) (S':aa),Inv X J Y H s->StoreOk X.w X.K A H S->
  RelL X.K A H xs vs->Vals vs us->g xs S=ba (w,S')->wpAny (model X.prog X.w) X.A (call f us) (PostE X J Y A H S' w) X.xe s
abbrev io (id:KY)(g:W->Jj W->aa->Jq (W×aa)):Prop:=
 ∀(J:Jj (Ju×La)) (s:Jp) (Y:L2.St) (H:Hp) (A:Jj Ju) (S:aa) (x:W) (a:V) (u:Jm) (xs:Jj W) (vs:Jj V) (us:Jj Jm) (w:W) (S':aa),Inv X J Y H s->StoreOk X.w X.K A H S->
  Rel X.K A H x a->RelV a u->RelL X.K A H xs vs->Vals vs us->g x xs S=ba (w,S')->wpAny (model X.prog X.w) X.A (call (.builtin id) (u::us)) (PostE X J Y A H S' w) X.xe s
end
section
variable{X:Cx}{J:Jj (Ju×La)}{Y:L2.St}{H:Hp}{s:Jp}{A:Jj Ju}{S:aa}
def IxR.go {r:R2}(h:IxR X r){S':aa}{w:W}{a b:V}{u v:Jm}{value slice:JR}(I:Inv X J Y H s)(ru:RelV a u)(rv:RelV b v)(q:r a b H (EndV X.w X.K A H S' w))(hs:subscripted slice false u v=operate [u,v] (getItem u v)) :
  wpAny (model X.prog X.w) X.A (subscriptTail value slice u v) (PostE X J Y A H S' w) X.xe s:=a7 (h value slice J s Y H a b u v _ I ru rv q hs) λ_ _=>EP.post
def CallR.go {f:Jm}{r:Jj V->Hp->VK->Prop}(h:CallR X f r){S':aa}{w:W}{vs:Jj V}{us:Jj Jm}(I:Inv X J Y H s)(rv:Vals vs us)(q:r vs H (EndV X.w X.K A H S' w)) :
  wpAny (model X.prog X.w) X.A (call f us) (PostE X J Y A H S' w) X.xe s:=a7 (h J s Y H vs us _ I rv q) λ_ _=>EP.post
def MtR.go {id:KY}{r:V->Jj V->Hp->VK->Prop}(h:MtR X id r){S':aa}{w:W}{a:V}{u:Jm}{vs:Jj V}{us:Jj Jm}(I:Inv X J Y H s)(ru:RelV a u)(rv:Vals vs us)(q:r a vs H (EndV X.w X.K A H S' w)) :
  wpAny (model X.prog X.w) X.A (call (.builtin id) (u::us)) (PostE X J Y A H S' w) X.xe s:=a7 (h J s Y H a vs u us _ I ru rv q) λ_ _=>EP.post
def r8 {xs:Jj W}{vs:Jj V}{i:JG}{w:W}(r:RelL X.K A H xs vs)(e:oK xs i=ba w):∃v,oK vs i=ba v/\Rel X.K A H w v:=by
 unfold oK at e ⊢;rw[r.length]at e;cases q:rS vs.length i with
 | none=>rw[q]at e; cases e
 | some j=>
  rw[q]at e;obtain⟨v,h1,h2⟩:=r.get (show xs[j]?=ba w from e)
  exact#[v,h1,h2]
def Jb (hu:X.A.units+10 < cLine):LIx X ut:=by
 intro value slice J s Y H A S x y a b u v w S' I so rx ru ry rv e hs;cases rx with
 | tup h1 r1=>cases ry with
  | int=>
   (dsimp only[ut]at e; simp only[Jo]at e)
   obtain⟨w',e1,e2⟩:=e;cases e2;obtain⟨z,h2,r2⟩:=r8 r1 e1;exact IxR.go Di I ru rv #[_,_,_,_,rfl,rfl,h1,h2,.here so r2] hs
  | _=>cases e
 | ref ea=>cases ry with
  | int=>
   dsimp only[ut]at e;split at e
   ·rename_i ws hw;rw[Jo]at e;obtain⟨w',e1,e2⟩:=e;cases e2;obtain⟨vs,h1,r1⟩:=aU so hw ea;obtain⟨z,h2,r2⟩:=r8 r1 e1;exact IxR.go zR I ru rv #[_,_,_,_,rfl,rfl,h1,h2,.here so r2] hs
   ·cases e
  | _=>cases e
 | str=>cases ry with
  | int=>
   dsimp only[ut]at e;split at e
   ·rw[Jo]at e;obtain⟨c,e1,e2⟩:=e;cases e2;exact IxR.go Dj I ru rv #[_,_,_,rfl,rfl,by assumption,e1,.here so .str] hs
   ·cases e
  | _=>cases e
 | _=>cases ry <;> cases e
def nh {xs:Jj W}{vs:Jj V}{lo hi:Jq JG}(r:RelL X.K A H xs vs):RelL X.K A H (gY xs lo hi) (j5 vs lo hi):=by
 unfold gY j5;rw[r.length];exact(r.drop _).take _
def Ai:Fz X (λx lo hi H Q=>∃a xs,x=.ref a/\SqT X.K H a xs/\(j5 xs lo hi=xs->Q (.ref a) H)/\∀p,H p=gV->Q (.ref p) (bn H p (.tup (j5 xs lo hi)))):=by
 intro J s Y H x v vl vu lo hi sl Q I rx hs pl pu h;obtain⟨a,xs,rfl,hx,q0,q⟩:=h
 by_cases hw:(HT.bW xs.length 0 lo=0/\HT.bW xs.length xs.length hi=xs.length)
 ·cases rx;obtain⟨its,r,ht,hz⟩:=I.tuple hx;have hlen:its.toArray.size=xs.length:=by rw[JJ]; exact r.length.symm
  show#["tuple",_,PyProof.Rows.slot_tuple_getitem.lookup,ht.typeIs,?_];show HT.gJ ht hs pl pu (by rw[hlen]; exact hw) #[.ref a,H,I,rfl,q0 ?_]
  unfold j5;rw[hw.1,hw.2];simp
 ·exact Dh J s Y H (.ref a) v vl vu lo hi sl Q I rx hs pl pu #[a,xs,rfl,hx,hw,q]
def oQ {v:Jm}{o:Jq JG}(p:Nw v o):∃l:Jq (JG×SL),partValue l=v/\l.map (·.1)=o:=by
 cases p with
 | none=>exact#[gV,rfl,rfl]
 | int i t=>exact#[ba (i,t),rfl,rfl]
def Jc:LSl X lM:=by
 intro J s Y H A S x a v vl vu lo hi sl w S' I so rx rv hs pl pu e;cases rx with
 | tup h1 r1=>
  cases e;obtain⟨T,id,z1,z2,z3⟩:=Ai J s Y H _ v vl vu lo hi sl (EndV X.w X.K A H S (.tup (gY _ lo hi))) I rv hs pl pu #[_,_,rfl,h1,λq=>.here so (.tup h1 (by have:=nh (lo:=lo) (hi:=hi) r1; rw[q]at this; exact this)),λp hp=>.tup so (nh r1) hp]
  exact#[T,id,z1,z2,a7 z3 λ_ _=>EP.post]
 | @str y=>
  dsimp only[lM]at e;split at e
  rotate_left
  ·cases e
  rename_i hl;cases e;obtain⟨t,rfl⟩:=rv;obtain⟨l,rfl,rfl⟩:=oQ pl;obtain⟨u,rfl,rfl⟩:=oQ pu;show#["str",_,PyProof.Rows.slot_str_getitem.lookup,PX s y t,?_];show wpAny_getItem_str_slice (l:=l) (u:=u) (st:=gV) hs rfl ?_;unfold M9 at hl ⊢;unfold sliceMade slicePicked;dsimp only[Q7,Om];split
  ·exact#[.str _,H,A,I,#[_,rfl],.refl,so,.str]
  ·rename_i hc;rw[JZ hc]at hl;exact#[hl,.str _,H,A,I.tok _,#[_,rfl],.refl,so,.str]
 | ref ea=>
  dsimp only[lM]at e;split at e
  ·rename_i ws hw;cases e;obtain⟨vs,h1,r1⟩:=aU so hw ea;obtain⟨T,id,z1,z2,z3⟩:=zS J s Y H _ v vl vu lo hi sl (EndV X.w X.K A H (S++[.lst (gY ws lo hi)]) (.ref S.length)) I rv hs pl pu #[_,_,rfl,h1,λp hp=>.lst so (nh r1) hp]
   exact#[T,id,z1,z2,a7 z3 λ_ _=>EP.post]
  ·cases e
 | _=>cases e
def lset (hu:X.A.units+10 < cLine):LSet X uu:=by
 intro J s Y H A S o i x ao ai ax uo ui ux S' I so ro ruo ri rui rx rux e;cases ro with
 | ref ea=>cases ri with
  | int=>
   dsimp only[uu]at e;split at e
   ·rename_i ws hw;split at e
    ·rename_i j hj;cases e;obtain⟨vs,h1,r1⟩:=eE so hw ea;rw[r1.length]at hj;obtain⟨so',ex⟩:=so.write (j8 hw) ea (r1.set rx j);exact a7 (vR J s Y H _ _ _ uo ui ux (λH'=>H'=bn H _ (.lst (vs.set j ax))) I ruo rui rux #[_,_,_,_,rfl,rfl,h1,hj,rfl]) λ_ s' #[H',I',e']=>#[_,A,e' ▸ I',ex,so']
    ·cases e
   ·cases e
  | _=>cases e
 | _=>cases ri <;> cases e
abbrev ni (xs:Jj W)(S:aa):Jq (W×aa):=match xs with
 | [.tup ys]=>ba (.int ys.length,S)
 | [.str y]=>if y.length<=sizeLine then ba (.int y.length,S)else gV
 | [.ref i]=>(eW S i).map λys=>(.int ys.length,S)
 | _=>gV
def uw:LCall X (.builtin "len") ni:=by
 intro J s Y H A S xs vs us w S' I so rl rv e;cases rl with
 | nil=>cases e
 | cons r t=>
  cases t with
  | cons _ _=>cases r <;> cases e
  | nil=>
   cases r with
   | tup h1 r1=>cases e; rw[r1.length]; exact CallR.go jZ I rv #[_,_,rfl,.inr #[_,h1,rfl],.here so .int]
   | str=>
    dsimp only[ni]at e;split at e
    ·cases e; exact CallR.go jZ I rv #[_,_,rfl,#[by assumption,rfl],.here so .int]
    ·cases e
   | ref ea=>
    (dsimp only[ni]at e; simp only[Jo]at e)
    obtain⟨ws,hw,e2⟩:=e;cases e2;obtain⟨vs',h1,r1⟩:=aU so hw ea;rw[r1.length];exact CallR.go jZ I rv #[_,_,rfl,.inl #[_,h1,rfl],.here so .int]
   | _=>cases e
abbrev ip (xs:Jj W)(S:aa):Jq (W×aa):=match xs with
 | [x]=>match cq S x with
  | some ys=>ba (.ref S.length,S++[.lst ys])
  | none=>gV
 | _=>gV
def gZ:LCall X (.type "list") ip:=by
 intro J s Y H A S xs vs us w S' I so rl rv e;cases rl with
 | nil=>cases e
 | cons r t=>
  cases t with
  | cons _ _=>cases e
  | nil=>
   dsimp only[ip]at e;split at e
   ·rename_i ys hy;cases e;obtain⟨p,vs',rfl,hq,r1⟩:=mZ (J:=J) (Y:=Y) (s:=s) so r hy;exact CallR.go mW I rv #[p,vs',rfl,hq,λl hl=>.lst so r1 hl]
   ·cases e
abbrev ke (xs:Jj W)(S:aa):Jq (W×aa):=match xs with
 | [.tup ys]=>ba (.tup ys,S)
 | [.ref i]=>match eW S i with
  | some ys=>ba (.tup ys,S)
  | none=>gV
 | _=>gV
def jy:LCall X (.type "tuple") ke:=by
 intro J s Y H A S xs vs us w S' I so rl rv e;cases rl with
 | nil=>cases e
 | cons r t=>
  cases t with
  | cons _ _=>cases r <;> cases e
  | nil=>
   cases r with
   | tup h1 r1=>cases e; exact CallR.go gP I rv #[_,_,rfl,.inr #[h1,.here so (.tup h1 r1)]]
   | ref ea=>
    dsimp only[ke]at e;split at e
    ·rename_i ys hy;cases e;obtain⟨vs',h1,r1⟩:=aU so hy ea;exact CallR.go gP I rv #[_,_,rfl,.inl #[h1,λl hl=>.tup so r1 hl]]
    ·cases e
   | _=>cases e
abbrev FK (xs:Jj W)(S:aa):Jq (W×aa):=match xs with
 | [.int i]=>ba (.int (if i < 0 then -i else i),S)
 | _=>gV
def uy:LCall X (.builtin "abs") FK:=by
 intro J s Y H A S xs vs us w S' I so rl rv e;cases rl with
 | nil=>cases e
 | cons r t=>
  cases t with
  | cons _ _=>cases r <;> cases e
  | nil=>
   cases r with
   | int=>cases e; exact CallR.go vJ I rv #[_,rfl,.here so .int]
   | _=>cases e
abbrev FL (xs:Jj W)(S:aa):Jq (W×aa):=match xs with
 | [.int i]=>ba (.int i,S)
 | [.bl b]=>ba (.int (if b then 1 else 0),S)
 | _=>gV
def uz:LCall X (.type "int") FL:=by
 intro J s Y H A S xs vs us w S' I so rl rv e;cases rl with
 | nil=>cases e
 | cons r t=>
  cases t with
  | cons _ _=>cases r <;> cases e
  | nil=>
   cases r with
   | int=>cases e; exact CallR.go lD I rv (.inl #[_,rfl,.here so .int])
   | bl=>cases e; exact CallR.go lD I rv (.inr #[_,rfl,.here so .int])
   | _=>cases e
abbrev iq (x:W)(xs:Jj W)(S:aa):Jq (W×aa):=match x,xs with
 | .ref i,[y]=>match oy S i with
  | some ys=>if ys.length < sizeLine then ba (.non,S.set i (.lst (ys++[y])))else gV
  | none=>gV
 | _,_=>gV
def ja {i:Jr}{p:Ju}{ws ws0:Jj W}{us:Jj V}(so:StoreOk X.w X.K A H S)(e:oy S i=ba ws0)(ea:A[i]?=ba p)(r:RelL X.K A H ws us){w:W}{v:V}(rw':Rel X.K A H w v) :
  EndV X.w X.K A H (S.set i (.lst ws)) w v (bn H p (.lst us)):=by
 obtain⟨so',ex⟩:=so.write (j8 e) ea r;exact#[A,ex,so',rw'.mono ex]
def nj:io X "list.append" iq:=by
 intro J s Y H A S x a u xs vs us w S' I so rx ru rl rv e;cases rx with
 | ref ea=>
  cases rl with
  | nil=>cases e
  | cons r t=>
   cases t with
   | cons _ _=>cases e
   | nil=>
    dsimp only[iq]at e;split at e
    ·rename_i ys hy;split at e
     ·rename_i hl;cases e;obtain⟨vs',h1,r1⟩:=eE so hy ea;rw[r1.length]at hl;exact MtR.go uf I ru rv #[_,_,_,rfl,rfl,h1,hl,ja so hy ea (r1.append #v[r]) .non]
     ·cases e
    ·cases e
 | _=>cases e
abbrev iu (x:W)(xs:Jj W)(S:aa):Jq (W×aa):=match x,xs with
 | .ref i,[.ref j]=>match oy S i,oy S j with
  | some ys,ba zs=>if ys.length+zs.length<=sizeLine then ba (.non,S.set i (.lst (ys++zs)))else gV
  | _,_=>gV
 | _,_=>gV
def nk:io X "list.extend" iu:=by
 intro J s Y H A S x a u xs vs us w S' I so rx ru rl rv e;cases rx with
 | ref ea=>
  cases rl with
  | nil=>cases e
  | cons r t=>
   cases t with
   | cons _ _=>cases r <;> cases e
   | nil=>
    cases r with
    | ref eb=>
     dsimp only[iu]at e;split at e
     ·rename_i ys zs hy hz;split at e
      ·rename_i hl;cases e;obtain⟨vs',h1,r1⟩:=eE so hy ea;obtain⟨vs2,h2,r2⟩:=eE so hz eb;rw[r1.length,r2.length]at hl;exact MtR.go ug I ru rv #[_,_,_,_,rfl,rfl,h1,h2,hl,ja so hy ea (r1.append r2) .non]
      ·cases e
     ·cases e
    | _=>cases e
 | _=>cases e
abbrev Aj (x:W)(xs:Jj W)(S:aa):Jq (W×aa):=match x,xs with
 | .ref i,[.int k]=>match oy S i with
  | some ys=>if -(2 ^ 63)<=k/\k < 2 ^ 63 then match seqIndex? k ys.length with
   | some j=>match ys[j]? with
    | some y=>ba (y,S.set i (.lst (ys.eraseIdx j)))
    | none=>gV
   | none=>gV
   else gV
  | none=>gV
 | _,_=>gV
def uA:io X "list.pop" Aj:=by
 intro J s Y H A S x a u xs vs us w S' I so rx ru rl rv e;cases rx with
 | ref ea=>
  cases rl with
  | nil=>cases e
  | cons r t=>
   cases t with
   | cons _ _=>cases r <;> cases e
   | nil=>
    cases r with
    | int=>
     dsimp only[Aj]at e;split at e
     ·rename_i ys hy;split at e
      ·rename_i hk;split at e
       ·rename_i j hj;split at e
        ·rename_i y hyj;cases e;obtain⟨vs',h1,r1⟩:=eE so hy ea;obtain⟨v',h2,r2⟩:=r1.get hyj;rw[r1.length]at hj;exact MtR.go vT I ru rv #[_,_,_,_,_,rfl,rfl,h1,hk.1,hk.2,hj,h2,ja so hy ea (r1.eraseIdx j) r2]
        ·cases e
       ·cases e
      ·cases e
     ·cases e
    | _=>cases e
 | _=>cases e
abbrev fR:Jj W->Jq (Jj JA)
 | []=>ba []
 | .str x::xs=>(fR xs).map (x :: ·)
 | _::_=>gV
abbrev lN (x:W)(xs:Jj W)(S:aa):Jq (W×aa):=match x,xs with
 | .str x,[y]=>match cq S y with
  | some ys=>match fR ys with
   | some zs=>if (zs.map (·.length)).sum+zs.length*x.length<=16777216 then ba (.str (Qo x zs),S)else gV
   | none=>gV
  | none=>gV
 | _,_=>gV
def kh:∀ {ws:Jj W} {vs:Jj V} {us:Jj Jm} {zs:Jj JA},RelL X.K A H ws vs->Vals vs us->fR ws=ba zs->SG us zs
 | _,_,_,zs,.nil,.nil,e=>by cases e; exact .nil
 | _,_,_,zs,.cons r t,.cons q p,e=>by
  cases r with
  | str=>
   (dsimp only[fR]at e; simp only[Jo]at e)
   obtain⟨z,e1,e2⟩:=e;subst e2;obtain⟨tk,rfl⟩ : ∃t,_=M2 _ t:=q;exact .cons _ tk (kh t p e1)
  | _=>cases e
def qR:io X "str.join" lN:=by
 intro J s Y H A S x a u xs vs us w S' I so rx ru rl rv e;cases rx with
 | str=>
  cases rl with
  | nil=>cases e
  | cons r t=>
   cases t with
   | cons _ _=>cases e
   | nil=>
    simp only[lN]at e;split at e
    ·rename_i ys hy;split at e
     ·rename_i zs hz;split at e
      ·rename_i hl;cases e;obtain⟨p,vs',rfl,hq,r1⟩:=mZ (J:=J) (Y:=Y) (s:=s) so r hy;obtain⟨t0,rfl⟩ : ∃t,u=M2 _ t:=ru;obtain⟨u1,rfl,ru1⟩:=jY rv;have ru1':u1=Km p:=ru1;subst ru1';rcases hq with hq|hq
       ·obtain⟨its,rr,pl,hz'⟩:=I.list hq;exact join_list pl.isList (by simpa using kh r1 rr hz) hl λt' k=>#[.str _,H,A,I.tok _,#[_,rfl],.refl,so,.str]
       ·obtain⟨its,rr,pl,hz'⟩:=I.tuple hq;exact join_tuple pl (by simpa using kh r1 rr hz) hl λt' k=>#[.str _,H,A,I.tok _,#[_,rfl],.refl,so,.str]
      ·cases e
     ·cases e
    ·cases e
 | _=>cases e
abbrev cQ (S:aa):W->Jq J1
 | .non=>ba false
 | .bl b=>ba b
 | .int i=>ba (i != 0)
 | .str y=>if y.length<=sizeLine then ba ((y.length:JG) != 0)else gV
 | .tup xs=>ba (!xs.isEmpty)
 | .ref i=>(eW S i).map λxs=>!xs.isEmpty
def jA {ws:Jj W}{vs:Jj V}(r:RelL X.K A H ws vs):(!ws.isEmpty) = !vs.isEmpty:=by cases r <;> rfl
def HV {x:W}{a:V}{u:Jm}{k:J1}{Q:J1->Jp->Prop}(I:Inv X J Y H s)(so:StoreOk X.w X.K A H S)(rx:Rel X.K A H x a)(ru:RelV a u)(e:cQ S x=ba k)(hq:∀s',Inv X J Y H s'->Q k s') :
  wpAny (model X.prog X.w) X.A (truthy u) Q X.xe s:=by
 show a7 (Db J s Y H a u (λb H'=>b=k/\H'=H) I ru #[k,?_,rfl,rfl]) λb s' #[H',I',e1,e2]=>?_
 ·cases rx with
  | non=>cases e; rfl
  | bl=>cases e; rfl
  | int=>cases e; rfl
  | str=>
   simp only[cQ]at e;split at e
   ·cases e; exact#[by assumption,rfl]
   ·cases e
  | tup h1 r1=>cases e; exact .inr (.inl #[_,h1,jA r1])
  | ref ea=>
   simp only[cQ,Jo]at e;obtain⟨ws,hw,e2⟩:=e;subst e2;obtain⟨vs,h1,r1⟩:=aU so hw ea;exact .inl #[_,h1,jA r1]
 ·subst e1 e2;exact hq s' I'
end
abbrev nq (xs:Jj JA)(x:JA):Jj JA:=if x∈xs then xs else xs++[x]
abbrev iw (ss:Jj JA):Jj JA:=ss.foldl nq []
def uB {ss:Jj JA}{x:JA}:iw (ss++[x])=nq (iw ss) x:=by unfold iw; rw[List.foldl_append]; rfl
def wf {xs:Jj JA}{x:JA}:(nq xs x).length<=xs.length+1:=by
 unfold nq;split
 ·exact LV _
 ·simp
def wg:∀ss:Jj JA,(iw ss).length<=ss.length:=λss=>by
 unfold iw
 suffices h:∀(ss acc:Jj JA),(ss.foldl nq acc).length<=acc.length+ss.length by simpa using h ss []
 intro ss
 induction ss with
 | nil=>intro acc; simp
 | cons x ss ih=>
  intro acc;have h1:=ih (nq acc x);have h2:=wf (xs:=acc) (x:=x);simp only[OL,JL];omega
abbrev cx (w:Kf):La:={ cls:=.type "set",dict:=gV,data:=.set #[] 0 (.fresh 0 0 (!FD w)) }
def uC {w:Kf}:eD w [] (cx w):=#[#[rfl,rfl,rfl],#[],0,_,rfl,#[λe he=>by simp at he,by simp,.nil,#v[],rfl,rfl,λ_=>rfl]]
section
variable{prog:J2}{w:Kf}{A:Ke}{E:Jm->Jp->Prop}{s:Jp}{R:QC->Jp->Prop}{I:Ju}{fp wr:Jj Ju}{G:Ki O1->Ki O1->Prop}{n:Jr}{P:Jr->Jm->Prop}{St:Jr->Jp->Prop}
def wj (W:WalksS prog w A.in1 I fp wr G n P St){D:Ju}(hD:D∉fp){ss:Jj JA}(hl:ss.length=n)(hP:∀i v,P i v->∃x tk,ss[i]?=ba x/\v=.str x tk)(hb:n+1 < scanBound) :
  ∀(k i:Jr) (s:Jp) (o:La),n - i=k->i<=n->St i s->s.heap.get? D=ba o->eD w (iw (ss.take i)) o->
   (∀s' o',Moved (D::wr) G s s'->s'.heap.get? D=ba o'->eD w (iw ss) o'->R (.ok (.ret .none)) s')->codeAny (model prog w) A (.builtin "set.update.loop" #[[.ref D,.ref I],[]]) R s:=by
 have hw:D∉wr:=λz=>hD (W.sub _ z)
 have up:∀b∈wr,b∈D::wr:=λb z=>Kd _ z
 intro k
 induction k with
 | zero=>
  intro i s o hk hi st ho hS hR;obtain rfl:i=n:=∅
  show KO F.entry_set_update_loop ?_;rw[KG F.plain_set_update_loop _];change wpAny _ A.in1 (pyNext (.ref I) >>= _) _ _ s;show Jk (W.done s _ _ st λs' mv=>?_)
  exact Jt (hR s' o (mv.mono up) (mv.heap D _ hw ho) (by rw[Ls ∅]at hS; exact hS))
 | succ k ih=>
  intro i s o hk hi st ho hS hR;have hlt:i < n:=∅
  show KO F.entry_set_update_loop ?_;rw[KG F.plain_set_update_loop _];change wpAny _ A.in1 (pyNext (.ref I) >>= _) _ _ s;show Jk (W.item i s _ _ hlt st λv s1 pv st1 mv=>?_)
  obtain⟨x,tk,hx,rfl⟩:=hP i v pv;change wpAny _ A.in1 (holding [M2 x tk] (setAdd D (.str x tk)) >>= _) _ _ s1;show Jk (KQ ?_);unfold setAdd;show KQ (Jk (Oj ?_));have hlen:(iw (ss.take i)).length+1 < scanBound:=by
   have:=wg (ss.take i);rw[Ks]at this;omega
  have o1:s1.heap.get? D=ba o:=mv.heap D _ hw ho;show zZ (s:={ s1 with toks:=s1.toks+1 }) o1 hS hlen λb h' o' sb ho' hS'=>?_
  show Jt #[LW F.plain_set_update_loop _,ih (i+1) { s1 with heap:=h',toks:=s1.toks+1 } o' ∅ hlt (W.frame _ s1 _ _ st1 (LV _) λc hc u q=>?_) ho' ?_ λs2 o2 mv2 ho2 hS2=>?_]
  ·rw[sb.2 c λz=>hD (z ▸ hc)]; exact q
  ·rw[List.take_succ,hx];change eD w (iw (ss.take i++[x])) o';rw[uB];exact hS'
  ·show hR s2 o2 (Moved.trans W.gtrans ((mv.mono up).then_heap (LV _) λc u hc q=>?_) mv2) ho2 hS2
   rw[sb.2 c λz=>hc (z ▸ Kr)]
   exact q
def wm (a:Jm){Q₁:Jm->Jp->Prop}(h:Q₁ (.ref s.heap.objs.size) { s with heap:=s.heap.push (cx w) }):codeAny (model prog w) A (.call (.builtin "set.__new__") #[[.type "set",a],[]]) (wants Q₁ E) s:=by
 show ON ?_;change wpAny _ A.in1 (checkBuiltinCall "set.__new__" #[[.type "set",a],[]] >>= λ_=>again (.builtin "set.__new__" #[[.type "set",a],[]])) _ _ s
 show Jk (N8 (F.newCall_set_1 a) (Jt #[LW F.plain_set_new _,KO F.entry_set_new ?_]));rw[KG F.plain_set_new _];unfold MX.«set.__new__» Rp;have hsub:=PySem.sub_set_self;obtain⟨hp,g,d,tk,os⟩:=s;dsimp only
 wp_walk
 show wpAny_askSetting (Jt ?_);dsimp only;simp only[newObj];exact Jk (Sd (Jt (Jt h)))
set_option maxHeartbeats 4000000 in
def wn {l:Ju}{its:Ki Jm}{ss:Jj JA}{Q:Jm->Jp->Prop}(hh:A.handled=gV)(hl:s.heap.IsList l its)(hi:SG its.toList ss)(hb:ss.length+1 < scanBound)
  (h:∀h' tk o,h'.get? s.heap.objs.size=ba o->eD w (iw ss) o->(∀b u,s.heap.get? b=ba u->h'.get? b=ba u)->Q (.ref s.heap.objs.size) { s with heap:=h',toks:=tk }):wpAny (model prog w) A (call (.type "set") [.ref l]) Q E s:=by
 obtain⟨c,tl,hmro⟩:=F.called_set.mro;have hmade:=F.called_set.made;have hsub:=F.called_set.sub;have hn1:=F.called_set.notType;have hn2:=F.called_set.canCreate;have hct:=F.typeCall_set_1 (.ref l);show wpAny_call (ON ?_);change wpAny _ _ (callAny (.type "set") _) _ _ _;show Jt #[PZ _ (by decide +kernel),KO F.entry_type_call ?_]
 rw[Around.under_plain (weight_type_call_type "set" [.ref l] []) rfl]
 repeat (any_goals (first|assumption|wp_step))
 show M5 (wm (w:=w) (.ref l) (E:=E) (Q₁:=λobj s1=>obj=.ref s.heap.objs.size/\s1={ s with heap:=s.heap.push (cx w) }) #[rfl,rfl]) λr s1 hr=>?_
 match r,hr with
 | .ok (.ret obj),hr=>
  obtain⟨rfl,rfl⟩:=hr;have oS:(s.heap.push (cx w)).get? s.heap.objs.size=ba (cx w):=JF _ rfl;have tS:Shared.TypeIs { s with heap:=s.heap.push (cx w) } (.ref s.heap.objs.size) "set":=#[_,oS,rfl]
  have hli:=F.called_set.init.lookup;have hbi:=F.called_set.init.bind (.ref s.heap.objs.size)
  repeat (any_goals (first|assumption|wp_step))
  show M5 (codeAny_call_builtin (R:=wants (λr s2=>r=.none/\∃h' tk o,s2={ s with heap:=h',toks:=tk }/\h'.get? s.heap.objs.size=ba o/\eD w (iw ss) o/\∀b u,s.heap.get? b=ba u->h'.get? b=ba u) E) F.called_set.init.plain F.entry_set_init (check_set_init_1 tS ?_)) λr2 s2 hr2=>?_
  ·obtain⟨⟨oc,od,ot,osl⟩,hol,hcl,nl,hdl⟩:=id hl;simp only at hcl hdl;subst hcl hdl;have hol1:=Jn (cx w) hol;have l1:(s.heap.push (cx w)).IsList l its:=#[_,hol1,rfl,nl,rfl];have e1:=F.sub_list_set;have e2:=F.sub_list_frozenset;have e3:(L8 "list" == L8 "dict")=false:=by decide
   unfold MX.«set.__init__» noKeywords Q8;generalize hPI:pyIter=PI
   wp_walk
   subst hPI;show Mz l1 (Jk (NM ?_));have ls:l < s.heap.objs.size:=JM hol;have sz:(s.heap.push (cx w)).objs.size=s.heap.objs.size+1:=LY ..;have ne:l≠(s.heap.push (cx w)).objs.size:=by rw[sz]; exact JX (N9 ls)
   show wj ((Rq (A:=A.in1.in1.in1) (by simp[hh]) _ l ne its).toS) (D:=s.heap.objs.size) (ss:=ss) (by rw[sz]; simp only[JC,J7,Ld,QG]; exact#[JX (MH _),Li ls]) (by rw[<- hi.length,JQ]) (λi v q=>?_) (by rw[<- JQ,hi.length]; exact hb) _ 0 _ (cx w) rfl (KW _)
    #[#[_,JF _ rfl,rfl,rfl],l1.push _] (Jn _ oS) uC λs3 o3 mv ho3 hS3=>?_
   ·obtain⟨x,tk,e,hx⟩:=hi.item i v (by rw[KJ]; exact q)
    exact#[x,tk,hx,e]
   ·rw[Moved.eq_with mv];show Jt (Jt #[rfl,s3.heap,s3.toks,o3,rfl,ho3,hS3,λb u q=>?_])
    have hb:=JM q;exact mv.heap b u (by rw[sz]; simp only[JC,J7,Ld,QG]; exact#[JX hb,JX (N9 hb)]) (Jn _ (Jn _ q))
  ·match r2,hr2 with
   | .ok (.ret r),hr2=>
    obtain⟨rfl,h',tk,o,rfl,g1,g2,g3⟩:=hr2
    repeat (any_goals (first|assumption|wp_step))
    exact h h' tk o g1 g2 g3
   | .ok .next,hr2=>exact hr2.elim
   | .ok .brk,hr2=>exact hr2.elim
   | .ok .cont,hr2=>exact hr2.elim
   | .error e,hr2=>exact hr2
 | .ok .next,hr=>exact hr.elim
 | .ok .brk,hr=>exact hr.elim
 | .ok .cont,hr=>exact hr.elim
 | .error e,hr=>exact hr
end
abbrev oR:Jj W->Jq (Jj JA)
 | []=>ba []
 | .str x::ws=>(oR ws).map (x :: ·)
 | _::_=>gV
def oT:∀ {ws:Jj W} {ss:Jj JA},oR ws=ba ss->ws=ss.map .str
 | [],_,h=>by cases h; rfl
 | .str x::ws,_,h=>by
  obtain⟨ss,h1,rfl⟩:=Jo.mp h;rw[oT h1]; rfl
 | .non::_,_,h|.bl _::_,_,h|.int _::_,_,h|.tup _::_,_,h|.ref _::_,_,h=>by cases h
def lO:∀ {ss:Jj JA},oR (ss.map .str)=ba ss
 | []=>rfl
 | x::ss=>by simp only[JS,oR,lO,Kc]
abbrev FM (S:aa)(i:Jr):Jq (Jj JA):=match S[i]? with
 | some (.sts xs)=>ba xs
 | _=>gV
abbrev Ak (S:aa)(i:Jr):Jq (JG×JG):=match S[i]? with
 | some (.rng lo hi)=>ba (lo,hi)
 | _=>gV
abbrev nr (xs:Jj W)(S:aa):Jq (W×aa):=match xs with
 | [.ref i]=>match eW S i with
  | some ws=>match oR ws with
   | some ss=>if ss.length+1 < scanBound then ba (.ref S.length,S++[.sts (iw ss)])else gV
   | none=>gV
  | none=>gV
 | _=>gV
abbrev qS (xs:Jj W)(S:aa):Jq (W×aa):=match xs with
 | [.int j]=>if -(2 ^ 62)<=j/\j < 2 ^ 62 then ba (.ref S.length,S++[.rng 0 j])else gV
 | _=>gV
abbrev FN (lo:JG)(n:Jr):Jj W:=(Kb n).map λ(k:Jr)=>.int (lo+(k:JG))
abbrev lP (xs:Jj W)(S:aa):Jq (W×aa):=match xs with
 | [.ref i]=>match Ak S i with
  | some (lo,hi)=>if -(2 ^ 62)<=lo/\lo < 2 ^ 62/\-(2 ^ 62)<=hi/\hi < 2 ^ 62/\(hi - lo).toNat<=sizeLine then ba (.ref S.length,S++[.lst (FN lo (hi - lo).toNat)])else gV
  | none=>ip [.ref i] S
 | xs=>ip xs S
section
variable{X:Cx}{J:Jj (Ju×La)}{Y:L2.St}{H:Hp}{s:Jp}{A:Jj Ju}{S:aa}
def Inv.drawn (I:Inv X J Y H s)(d:SV):Inv X J Y H { s with drawn:=d }:=#[I.ok,I.os,I.bare,I.base,I.loc,I.cell,I.free,I.freeC,I.pin,I.hok,I.len]
def iy {h':Kn}{tk:Jr}{dr:SV}{D:Ju}{n:O}{u:HO}(I:Inv X J Y H s)(so:StoreOk X.w X.K A H S)(hk:∀b o,s.heap.get? b=ba o->h'.get? b=ba o)(hD:s.heap.objs.size<=D)(new:ObjOk X.prog X.w (bn H D u) h' D u)
  (r:H D=gV->ObjRel X.w X.K (A++[D]) (bn H D u) D n):PostE X J Y A H (S++[n]) (.ref S.length) (.ref D) { s with heap:=h',toks:=tk,drawn:=dr }:=by
 have hn:H D=gV:=I.hok.fresh hD;show#[.ref D,_,A++[D],Mi.Inv.drawn (I.laid (a:=D) (o:=u) (t':=tk) hk hD new) dr,rfl,dO hn,so.pushO hn (r hn),.ref ?_];rw[<- so.len]; simp
def lQ:∀ {ss:Jj JA} {vs:Jj V} {us:Jj Jm},RelL X.K A H (ss.map .str) vs->Vals vs us->SG us ss
 | [],_,_,.nil,rv=>by cases rv; exact .nil
 | x::ss,_,_,.cons r t,rv=>by
  cases rv with
  | cons ru rv=>
   cases r;obtain⟨tk,rfl⟩:=ru;exact .cons x tk (lQ t rv)
def nu:∀ {vs:Jj V} {us:Jj Jm},vs.length=us.length->(∀(i:Jr) v u,vs[i]?=ba v->us[i]?=ba u->L2.RelV v u)->Vals vs us
 | [],[],_,_=>.nil
 | v::vs,u::us,hl,h=>.cons (h 0 v u rfl rfl) (nu (by simpa using hl) λi v u a b=>h (i+1) v u (by simpa using a) (by simpa using b))
 | [],_::_,hl,_=>by cases hl
 | _::_,[],hl,_=>by cases hl
def nv {K:Jz}{lo:JG}:∀(l:Jj Jr),RelL K A H (l.map λ(k:Jr)=>W.int (lo+(k:JG))) (l.map λ(k:Jr)=>V.int (lo+(k:JG)))
 | []=>.nil
 | _::l=>.cons .int (nv l)
def jO {xs:Jj W}{vs:Jj V}{us:Jj Jm}{i:Jr}(rl:RelL X.K A H [.ref i] vs)(rv:Vals vs us):∃a,A[i]?=ba a/\us=[.ref a]:=by
 cases rl with
 | cons r t=>
  cases t;cases r with
  | @ref _ a ea=>
   cases rv with
   | cons ru rv=>
    cases rv;obtain rfl:_=Km a:=ru;exact#[a,ea,rfl]
def uD (hh:X.A.handled=gV):LCall X (.type "set") nr:=by
 intro J s Y H A S xs vs us w S' I so rl rv e;unfold nr at e;split at e
 ·rename_i i;obtain⟨a,ea,rfl⟩:=jO (xs:=[]) rl rv;split at e
  ·rename_i ws hw;split at e
   ·rename_i ss hs;split at e
    ·rename_i hb;cases e;obtain⟨vs',h1,r1⟩:=aU so hw ea;obtain⟨its,rv',p,_⟩:=I.list h1;rw[oT hs]at r1;show wn hh p.isList (by simpa using lQ r1 rv') hb λh' tk o ho hS hk=>?_
     show iy (dr:=s.drawn) (u:=.frz o (.ext λh=>h.get? s.heap.objs.size=ba o)) I so hk (Jy _) #[ho,ho,#[o,ho],λh1 h2 q k=>k _ q] λ_=>#[o,_,aI,hS]
    ·cases e
   ·cases e
  ·cases e
 ·cases e
def Dp {i:Jr}{ss:Jj JA}{a:Ju}(I:Inv X J Y H s)(so:StoreOk X.w X.K A H S)(h:FM S i=ba ss)(ea:A[i]?=ba a):∃o,s.heap.get? a=ba o/\eD X.w ss o:=by
 unfold FM at h;split at h
 ·rename_i xs hx;cases h;obtain⟨o,φ,q,r⟩:=so.obj i _ a hx ea;exact#[o,(show ObjOk X.prog X.w H s.heap a (.frz o (.ext φ))from I.hok a _ q).1,r]
 ·cases h
def oU:LCall X (.type "range") qS:=by
 intro J s Y H A S xs vs us w S' I so rl rv e;unfold qS at e;split at e
 ·rename_i j;split at e
  ·rename_i hb;cases e;cases rl with
   | cons r t=>
    cases t;cases r;cases rv with
    | cons ru rv=>
     cases rv;obtain⟨tk,rfl⟩:=ru;exact RY (iy (dr:=s.drawn) (u:=.rng 0 j) I so (λb o e=>Jn _ e) (Jy _) #[_,_,_,JF _ rfl] λ_=>aI)
  ·cases e
 ·cases e
def oV (hh:X.A.handled=gV):LCall X (.type "list") lP:=by
 intro J s Y H A S xs vs us w S' I so rl rv e;unfold lP at e;split at e
 ·rename_i i;split at e
  ·rename_i lo hi hr;split at e
   ·rename_i hb;cases e;obtain⟨a,ea,rfl⟩:=jO (xs:=[]) rl rv;obtain⟨b1,b2,b3,b4,b5⟩:=hb;have hH:H a=ba (.rng lo hi):=by
     unfold Ak at hr;split at hr
     ·rename_i hx; cases hr; exact so.obj i _ a hx ea
     ·cases hr
    obtain⟨t,u,v,ho⟩:=I.hok a _ hH;have hn:Lm lo hi 1=((hi - lo).toNat:Jr):=by rw[Py]; split <;> omega
    show call_list_range hh ho (RS b1 b2 b3 b4) hn b5 λh' tk acc c hk hD hacc=>?_
    have hv:Vals ((Kb (hi - lo).toNat).map λ(k:Jr)=>V.int (lo+(k:JG))) acc.toList:=by
     show nu (by rw[Jl,KU,JQ,hacc.1]) λi v u e1 e2=>?_
     rw[Jv,Jo]at e1;obtain⟨k,e1,rfl⟩:=e1;obtain⟨hk,rfl⟩:=JK.mp e1;obtain⟨t,rfl⟩:=hacc.2 i u (by rw[<- KJ]; exact e2)
     exact#[t,by simp]
    show iy (dr:=s.drawn) (u:=.lst ((Kb (hi - lo).toNat).map λ(k:Jr)=>V.int (lo+(k:JG)))) I so hk (Jy _) #[by simpa using b5,acc.toList,c,hv,by simpa using hD] λhn=>#[_,aI,?_]
    exact nv _
   ·cases e
  ·exact gZ J s Y H A S _ vs us w S' I so rl rv e
 ·exact gZ J s Y H A S _ vs us w S' I so rl rv e
end
mutual
inductive IsT (h:Kn):T->Jm->Prop
 | int {i:JG} {t:SL}:IsT h (.int i) (.int i t)
 | str {x:JA} {t:SL}:IsT h (.str x) (.str x t)
 | tup {ks:Jj T} {a:Ju} {o:La} {items:Ki Jm} {n:Jr}:h.get? a=ba o->o.cls=.type "tuple"->o.data=.seq items n->IsTs h ks items.toList->IsT h (.tup ks) (.ref a)
inductive IsTs (h:Kn):Jj T->Jj Jm->Prop
 | nil:IsTs h [] []
 | cons {k:T} {v:Jm} {ks:Jj T} {vs:Jj Jm}:IsT h k v->IsTs h ks vs->IsTs h (k::ks) (v::vs)
end
mutual
theorem IsT.inj {h:Kn}:∀ {x y:T} {v:Jm},IsT h x v->IsT h y v->x=y
 | _,_,_,.int,h2=>by cases h2; rfl
 | _,_,_,.str,h2=>by cases h2; rfl
 | _,_,_,.tup a1 _ d1 t1,h2=>by
  cases h2 with
  | tup a2 _ d2 t2=>
   rw[a1]at a2; cases a2
   rw[d1]at d2; cases d2
   rw[IsTs.inj t1 t2]
theorem IsTs.inj {h:Kn}:∀ {x y:Jj T} {v:Jj Jm},IsTs h x v->IsTs h y v->x=y
 | _,_,_,.nil,h2=>by cases h2; rfl
 | _,_,_,.cons a b,h2=>by
  cases h2 with
  | cons c d=>rw[IsT.inj a c,IsTs.inj b d]
end
mutual
theorem IsT.keeps {h h':Kn}{d:Ju}{o:La}{es:Ki LJ}{ep:Jr}(ho:h.get? d=ba o)(hd:o.data=.dict es ep)(hs:LC d h h'):∀ {x:T} {v:Jm},IsT h x v->IsT h' x v
 | _,_,.int=>.int
 | _,_,.str=>.str
 | _,_,.tup (a:=a) a1 c1 d1 t1=>by
  have hne:a≠d:=by
   rintro rfl;rw[a1]at ho; cases ho
   rw[d1]at hd; cases hd
  exact .tup ((hs.2 a hne).trans a1) c1 d1 (IsTs.keeps ho hd hs t1)
theorem IsTs.keeps {h h':Kn}{d:Ju}{o:La}{es:Ki LJ}{ep:Jr}(ho:h.get? d=ba o)(hd:o.data=.dict es ep)(hs:LC d h h'):∀ {x:Jj T} {v:Jj Jm},IsTs h x v->IsTs h' x v
 | _,_,.nil=>.nil
 | _,_,.cons a b=>.cons (IsT.keeps ho hd hs a) (IsTs.keeps ho hd hs b)
end
def IsTs.length {h:Kn}:∀ {x:Jj T} {v:Jj Jm},IsTs h x v->x.length=v.length
 | _,_,.nil=>rfl
 | _,_,.cons _ b=>by simp[IsTs.length b]
def IsTs.get {h:Kn}:∀ {x:Jj T} {v:Jj Jm},IsTs h x v->∀(j:Jr) (h1:j < x.length) (h2:j < v.length),IsT h x[j] v[j]
 | _,_,.cons a _,0,_,_=>a
 | _,_,.cons _ b,j+1,h1,h2=>IsTs.get b j (by simpa using h1) (by simpa using h2)
def dP:∀ {ks:Jj T} (j:Jr) (h:j < ks.length),(ks[j]).depth<=T.depths ks
 | k::ks,0,_=>by simp only[T.depths,List.getElem_cons_zero]; omega
 | k::ks,j+1,h=>by
  have:=dP (ks:=ks) j (by simpa using h)
  simp only[T.depths,List.getElem_cons_succ]; omega
section
variable{prog:J2}{w:Kf}{E:Jm->Jp->Prop}
mutual
theorem oW:∀(k:T) (v:Jm) (A:Ke) (s:Jp) (Q:JG->Jp->Prop),IsT s.heap k v->A.units+k.depth < cLine->Q (oN w k) { s with toks:=s.toks+k.draws }->wpAny (model prog w) A (pyHash v) Q E s
 | .int i,_,A,s,Q,x,_,h=>by cases x; exact Qz h
 | .str y,_,A,s,Q,x,_,h=>by cases x; exact Oj h
 | .tup ks,_,A,s,Q,x,hu,h=>by
  cases x with
  | @tup _ a o items n hg hc hd hw=>
   simp only[T.depth]at hu;show PySem.W.pyHash_slot (T:="tuple") #[_,hg,hc] F.slot_tuple_hash F.entry_tuple_hash (F.args_tuple_hash_1 _) (beq_builtin_none _) (.inr ∅) ?_
   change wpAny _ _ (MC (.ref a) >>= _) _ _ s;show Jk (wpAny_tupleItemsOf hg hd ?_);show Jk ?_;rw[<- P0];show ki ks items.toList A.in1 s #[] _ hw (by rw[aY]; omega) λb hb=>?_
   change wpAny _ _ (retInt (N1 b.toList)) _ _ _;rw[hb];show Jk (QX (Jt #[_,_,rfl,?_]))
   simpa [T.draws,PB,oN]using h
theorem ki:∀(ks:Jj T) (vs:Jj Jm) (A:Ke) (s:Jp) (b:Ki JG) (Q:Ki JG->Jp->Prop),IsTs s.heap ks vs->A.units+T.depths ks < cLine->
  (∀b',b'.toList=b.toList++j6 w ks->Q b' { s with toks:=s.toks+T.drawss ks })->
  wpAny (model prog w) A (forIn vs b λx r=>do let h <- pyHash x; pure P1; pure (Lk (r.push h))) Q E s
 | [],_,A,s,b,Q,x,_,h=>by cases x; exact Jt (h b (by simp[j6]))
 | k::ks,_,A,s,b,Q,x,hu,h=>by
  cases x with
  | cons x1 x2=>
   simp only[T.depths]at hu;rw[Ny];show Jk (Jk (oW k _ A s _ x1 ∅ ?_))
   show Jk (Jt (Jt ?_));show ki ks _ A _ _ Q x2 ∅ λb' hb=>?_
   have:=h b' (by simp[hb,j6])
   simpa [T.drawss,PB]using this
end
open SeqAt in
def uE:∀(d:Jr) (x y:T) (u v:Jm) (B:Ke) (s:Jp),x.depth<=d->IsT s.heap x u->IsT s.heap y v->B.units+d < cLine->B.units+y.depth < cLine->EqAt B s u v (decide (x=y))
 | d,.int i,y,_,_,B,s,_,h1,h2,hu,hv=>by
  cases h1;cases h2 with
  | int=>
   rename_i j t2;have:decide (T.int i=T.int j)=(i==j):=by by_cases e:i=j <;> simp[e]
   rw[this]; exact .int_int _ _ _ _
  | str=>rw[J4 (by simp)]; exact .int_str _ _ _ _
  | tup a c dd t=>rw[J4 (by simp)]; exact .int_tuple _ _ #[_,a,c,_,dd] (by simp only[T.depth]at hv; omega)
 | d,.str z,y,_,_,B,s,_,h1,h2,hu,hv=>by
  cases h1;cases h2 with
  | int=>rw[J4 (by simp)]; exact .str_int _ _ _ _
  | str=>
   rename_i z2 t2;have:decide (T.str z=T.str z2)=(z==z2):=by by_cases e:z=z2 <;> simp[e]
   rw[this]; exact .str_str _ _ _ _
  | tup a c dd t=>rw[J4 (by simp)]; exact .str_tuple _ _ #[_,a,c,_,dd] (by simp only[T.depth]at hv; omega)
 | 0,.tup ks,y,_,_,B,s,hd,h1,h2,hu,hv=>by simp[T.depth]at hd
 | d+1,.tup ks,y,_,_,B,s,hd,h1,h2,hu,hv=>by
  have h1':=h1;cases h1 with
  | @tup _ a o items n a1 c1 d1 t1=>
   have hT:s.heap.IsTuple a items:=#[_,a1,c1,_,d1];simp only[T.depth]at hd;cases h2 with
   | int=>rw[J4 (by simp)]; exact .tuple_int _ _ hT ∅
   | str=>rw[J4 (by simp)]; exact .tuple_str _ _ hT ∅
   | @tup ks2 b o2 items2 n2 a2 c2 d2 t2=>
    have hT2:s.heap.IsTuple b items2:=#[_,a2,c2,_,d2]
    by_cases hab:a=b
    ·subst hab;have:T.tup ks=T.tup ks2:=h1'.inj (.tup a2 c2 d2 t2);rw[J6 this];exact EqAt.same _
    ·show EqAt.of_refs hab ?_;simp only[T.depth]at hv;have l1:items.size=ks.length:=by rw[<- JQ,t1.length]
     have l2:items2.size=ks2.length:=by rw[<- JQ,t2.length]
     let e:Jr->J1:=λj=>if h:j < ks.length/\j < ks2.length then decide (ks[j]'h.1=ks2[j]'h.2)else true
     have he:∀j (h1:j < items.size) (h2:j < items2.size),EqAt B.in1 s items[j] items2[j] (e j):=λj j1 j2=>by
      have g1:=t1.get j (l1 ▸ j1) (by simpa using j1)
      have g2:=t2.get j (l2 ▸ j2) (by simpa using j2)
      have q1:=dP (ks:=ks) j (l1 ▸ j1);have q2:=dP (ks:=ks2) j (l2 ▸ j2);have:=uE d _ _ _ _ B.in1 s ∅ g1 g2 (by rw[aY]; omega) (by rw[aY]; omega)
      change EqAt B.in1 s items[j] items2[j] (if h:j < ks.length/\j < ks2.length then decide (ks[j]'h.1=ks2[j]'h.2)else true)
      rw[SH #[l1 ▸ j1,l2 ▸ j2]]
      simpa using this
     have:=RcAt.tuples hT hT2 ∅ he
     have hk:((Kb (min items.size items2.size)).all e&&items.size==items2.size)=decide (T.tup ks=T.tup ks2):=by
      rw[l1,l2]
      by_cases hl:ks.length=ks2.length
      ·by_cases hq:ks=ks2
       ·subst hq;simp only[Oz,J5,PC,decide_true,JV,Kz];intro j hj;show(if h:j < ks.length/\j < ks.length then decide (ks[j]'h.1=ks[j]'h.2)else true)=true
        rw[SH #[hj,hj]]; simp
       ·rw[J4 (by simpa using hq)]
        have:∃j,∃h:j < ks.length,ks[j]≠ks2[j]'(hl ▸ h):=by
         apply N2;intro hn;exact hq (Nk hl λj h1 h2=>N2 λz=>hn #[j,h1,z])
        obtain⟨j,hj,hne⟩:=this;rw[OU];apply Or.inl;rw[List.all_eq_false];show#[j,by rw[Kz,<- hl,Oz]; exact hj,?_]
        show ¬ (if h:j < ks.length/\j < ks2.length then decide (ks[j]'h.1=ks2[j]'h.2)else true)=true
        rw[SH #[hj,hl ▸ hj]]
        simpa using hne
      ·rw[J4 (by simp; intro z; exact hl (by rw[z])),OU]
       right
       simpa using hl
     rw[hk]at this;exact this
def lR {n:Jr}{v:Jm}(h:∀a,v≠.ref a):eqIsQuiet n v=pure true:=by
 cases v with
 | ref a=>exact absurd rfl (h a)
 | _=>first|rfl|simp[eqIsQuiet]|(unfold eqIsQuiet; rfl)
def r9:∀(d:Jr) (k:T) (v:Jm) (A:Ke) (s:Jp) (Q:J1->Jp->Prop),k.depth<=d->IsT s.heap k v->Q true s->wpAny (model prog w) A (eqIsQuiet d v) Q E s
 | d,.int i,_,A,s,Q,_,x,h=>by cases x; rw[lR (λa=>by simp)]; exact Jt h
 | d,.str i,_,A,s,Q,_,x,h=>by cases x; rw[lR (λa=>by simp)]; exact Jt h
 | 0,.tup ks,_,A,s,Q,hd,x,h=>by simp[T.depth]at hd
 | d+1,.tup ks,_,A,s,Q,hd,x,h=>by
  cases x with
  | @tup _ a o items n ho hc hdt hi=>
   simp only[T.depth]at hd;have hT:s.TypeIs (.ref a) "tuple":=#[_,ho,hc];unfold eqIsQuiet;show Jk (wpAny_specialOf hT F.slot_tuple_eq.lookup ?_);change wpAny _ _ (isInstance (.ref a) (.type "tuple") >>= _) _ _ s;show Jk (Nl hT isSubtype_tuple_tuple ?_);simp only[PD,KZ,L6];show Jk (Lu ho hdt ?_);show Jk ?_;change wpAny _ _ (forIn items _ _) _ _ s;rw[<- P0];show On _ (λbI r s'=>r.1=gV/\s'=s/\∃kk,IsTs s.heap kk bI/\T.depths kk<=d) _ ?_ ?_ _ _ #[rfl,rfl,ks,hi,∅]
   ·rintro v bI r s' ⟨hr,rfl,kk,hall,hdk⟩;cases hall with
    | cons q1 q2=>
     simp only[T.depths]at hdk;show Jk (r9 d _ v _ _ _ ∅ q1 ?_)
     simp only[PD,KZ,L6];exact Jt #[rfl,rfl,_,q2,∅]
   ·rintro⟨r1,r2⟩ s' ⟨hr,rfl,_⟩;simp only at hr;subst hr;exact Jt h
end
abbrev cy (prog:J2)(w:Kf):HeapKind prog w T where
 is:=λh k a=>IsT h k (.ref a)/\k.depth<=aN
 hash:=oN w
 draws:=T.draws
 room:=λA=>A.units+aN < cLine
 inj:=λhx hy=>hx.1.inj hy.1
 keeps:=λx ho hd hs=>#[x.1.keeps ho hd hs,x.2]
 pyHash:=λhu hk h=>oW _ _ _ _ _ hk.1 (by have:=hk.2; omega) h
 eqBool:=λhu hx hy h=>uE aN _ _ _ _ _ _ hx.2 hx.1 hy.1 hu (by have:=hy.2; omega) _ _ _ _ h
 quiet:=λhk h=>r9 8 _ _ _ _ _ (by have:=hk.2; unfold aN at this; omega) hk.1 h
mutual
def iA:T->J1
 | .int _=>true
 | .str _=>false
 | .tup xs=>ee xs
def ee:Jj T->J1
 | []=>true
 | x::xs=>iA x&&ee xs
end
abbrev jb (S:aa)(i:Jr):Jq (Jj (T×W)):=match S[i]? with
 | some (.dic U)=>ba U
 | some (.frd U)=>ba U
 | _=>gV
abbrev nw (S:aa)(i:Jr):Jq (Jj (T×W)):=match S[i]? with
 | some (.dic U)=>ba U
 | _=>gV
abbrev cj (U:Jj (T×W))(k:T):Jq W:=(U.find? λp=>decide (p.1=k)).map (·.2)
abbrev eF (U:Jj (T×W))(k:T)(v:W):Jj (T×W):=
 if (U.any λp=>decide (p.1=k))=true then U.map (λp=>if p.1=k then(p.1,v)else p)else U++[(k,v)]
abbrev gK (w:W):Jq T:=match W.t w with
 | some k=>if k.isTup=true/\k.depth<=aN then ba k else gV
 | none=>gV
def dI {w:W}{k:T}(h:gK w=ba k):k.w=w/\k.isTup=true/\k.depth<=aN:=by
 unfold gK at h;split at h
 ·rename_i k' hk;split at h
  ·rename_i hc;cases h;exact#[W.t_w hk,hc.1,hc.2]
  ·cases h
 ·cases h
def c9 (U:Jj (T×W))(k:T)(v:W):(eF U k v).length<=U.length+1:=by
 unfold eF;split
 ·rw[Jl]; omega
 ·rw[Jw,JL,Lj]; omega
section
variable{X:Cx}{J:Jj (Ju×La)}{Y:L2.St}{H:Hp}{s:Jp}{A:Jj Ju}{S:aa}
mutual
theorem jc (I:Inv X J Y H s):∀(k:T) {v:V} {u:Jm},Rel X.K A H k.w v->RelV v u->IsT s.heap k u
 | .int i,_,_,r,q=>by
  cases r;obtain⟨t,rfl⟩ : ∃t,_=Oi _ t:=q;exact .int
 | .str x,_,_,r,q=>by
  cases r;obtain⟨t,rfl⟩ : ∃t,_=M2 _ t:=q;exact .str
 | .tup ks,_,_,r,q=>by
  simp only[T.w]at r;cases r with
  | tup sq rl=>
   obtain⟨its,rv,⟨o,h1,h2,n,h3⟩,hz⟩:=I.tuple sq;obtain rfl:_=Km _:=q;exact .tup h1 h2 h3 (gy I ks rl (by simpa using rv))
theorem gy (I:Inv X J Y H s):∀(ks:Jj T) {vs:Jj V} {us:Jj Jm},RelL X.K A H (T.ws ks) vs->Vals vs us->IsTs s.heap ks us
 | [],_,_,r,q=>by
  simp only[T.ws]at r;cases r; cases q; exact .nil
 | k::ks,_,_,r,q=>by
  simp only[T.ws]at r;cases r with
  | cons r1 r2=>
   cases q with
   | cons q1 q2=>exact .cons (jc I k r1 q1) (gy I ks r2 q2)
end
def jd (I:Inv X J Y H s){k:T}{b:Ju}(r:Rel X.K A H k.w (.ref b))(hd:k.depth<=aN):(cy X.prog X.w).is s.heap k b:=#[jc I k r rfl,hd]
def iB {w:W}{k:T}{v:V}{u:Jm}(hk:gK w=ba k)(r:Rel X.K A H w v)(q:RelV v u):∃b,v=.ref b/\u=.ref b/\Rel X.K A H k.w (.ref b):=by
 obtain⟨h1,h2,h3⟩:=dI hk;subst h1;cases k with
 | tup ks=>
  simp only[T.w]at r;cases r with
  | tup a b=>exact#[_,rfl,q,by simp only[T.w]; exact .tup a b]
 | _=>cases h2
def KRel.is {U:Jj (T×W)}{xs:Jj (T×Ju×Jm)}(I:Inv X J Y H s)(r:KRel X.K A H U xs):∀x∈xs,(cy X.prog X.w).is s.heap x.1 x.2.1:=by
 unfold KRel at r
 induction r with
 | nil=>intro x hx; exact nomatch hx
 | @cons p q ps qs h t ih=>
  intro x hx;rcases JC.mp hx with e|hx
  ·subst e;obtain⟨h1,h2,h3,h4,_⟩:=h;rw[h1]at h3 h4;exact jd I h4 h3
  ·exact ih x hx
def KRel.length {U:Jj (T×W)}{xs:Jj (T×Ju×Jm)}(r:KRel X.K A H U xs):U.length=xs.length:=Oc r
def KRel.val {U:Jj (T×W)}{xs:Jj (T×Ju×Jm)}(r:KRel X.K A H U xs)(k:T) :
  (∀w,cj U k=ba w->∃p v,atKey xs k=ba p/\Rel X.K A H w v/\RelV v p.2)/\(cj U k=gV->atKey xs k=gV):=by
 unfold KRel at r
 induction r with
 | nil=>exact#[λw h=>(nomatch h),λ_=>rfl]
 | @cons p q ps qs h t ih=>
  obtain⟨h1,_,_,_,v,h5,h6⟩:=h
  by_cases e:p.1=k
  ·have e':q.1=k:=h1.symm.trans e;have a1:cj (p::ps) k=ba p.2:=by simp[cj,Ms,e]
   have a2:atKey (q::qs) k=ba q.2:=by simp[atKey,Ms,e']
   rw[a1,a2];exact#[λw hw=>(by cases hw; exact#[_,v,rfl,h5,h6]),λh=>nomatch h]
  ·have e':¬ q.1=k:=λz=>e (h1.trans z)
   have a1:cj (p::ps) k=cj ps k:=by simp[cj,Ms,e]
   have a2:atKey (q::qs) k=atKey qs k:=by simp[atKey,Ms,e']
   rw[a1,a2];exact ih
def KRel.repl {U:Jj (T×W)}{xs:Jj (T×Ju×Jm)}(r:KRel X.K A H U xs)(k:T){w:W}{v:V}{u:Jm}(rw':Rel X.K A H w v)(rv:RelV v u) :
  KRel X.K A H (U.map λp=>if p.1=k then(p.1,w)else p) (xs.map (putAt k u)):=by
 unfold KRel at r ⊢
 induction r with
 | nil=>exact .nil
 | @cons p q ps qs h t ih=>
  rw[JS,JS];show .cons ?_ ih;obtain⟨h1,h2,h3,h4,h5⟩:=h;unfold putAt
  by_cases e:p.1=k
  ·rw[JO e,JO (h1.symm.trans e)]; exact#[h1,h2,h3,h4,v,rw',rv]
  ·rw[JZ e,JZ (λz=>e (h1.trans z))]; exact#[h1,h2,h3,h4,h5]
def oX (k:T):∀U:Jj (T×W),(U.any λp=>decide (p.1=k))=(cj U k).isSome
 | []=>rfl
 | p::r=>by
  rw[LU]
  by_cases e:p.1=k
  ·have a1:cj (p::r) k=ba p.2:=by simp[cj,Ms,e]
   rw[a1,J6 e]; rfl
  ·have a1:cj (p::r) k=cj r k:=by simp[cj,Ms,e]
   rw[a1,J4 e,Od]; exact oX k r
def KRel.put {U:Jj (T×W)}{xs:Jj (T×Ju×Jm)}(r:KRel X.K A H U xs){k:T}{b:Ju}{w:W}{v:V}{u:Jm}(h1:k.isTup=true)(h2:k.depth<=aN)(h3:Rel X.K A H k.w (.ref b))(rw':Rel X.K A H w v)(rv:RelV v u) :
  KRel X.K A H (eF U k w) (storedH xs k b u):=by
 have e:(U.any λp=>decide (p.1=k))=(atKey xs k).isSome:=by
  rw[oX];cases q:cj U k with
  | none=>rw[(r.val k).2 q]; rfl
  | some x=>obtain⟨p,_,h,_⟩:=(r.val k).1 x q; rw[h]; rfl
 unfold eF storedH;rw[e]
 by_cases q:(atKey xs k).isSome=true
 ·rw[JO q,JO q]; exact r.repl k rw' rv
 ·rw[JZ q,JZ q]; exact Paired.snoc r #[rfl,h1,h2,h3,v,rw',rv]
def DicAt.of {h:Kn}{a:Ju}{xs:Jj (T×Ju×Jm)}(hz:xs.length<=sizeLine)(hs:(a==sysModules)=false)(d:h.DictOfH (cy X.prog X.w) a xs):DicAt X.w a xs h:=
 let ⟨o,es,ep,h1,h2,h3,h4,_,h6⟩:=d; #[hz,hs,h6,o,es,ep,h1,h2,h3,h4]
def DicAt.stay {wd:Kf}{h h':Kn}{a:Ju}{xs:Jj (T×Ju×Jm)}(d:DicAt wd a xs h)(k:∀o,h.get? a=ba o->h'.get? a=ba o):DicAt wd a xs h':=
 let ⟨h0,hs,hn,o,es,ep,h1,h2⟩:=d; #[h0,hs,hn,o,es,ep,k _ h1,h2]
def DicAt.ok {P:J2}{h:Kn}{wd:Kf}{a:Ju}{xs:Jj (T×Ju×Jm)}(d:DicAt wd a xs h):ObjOk P wd H h a (dN wd a xs):=
 #[d,let ⟨_,_,_,o,_,_,h1,_⟩:=d; #[o,h1],λ_ _ p k=>p.stay k]
def b8 {a:Ju}{xs:Jj (T×Ju×Jm)}(I:Inv X J Y H s)(e:Rd H a (dN X.w a xs)):DicAt X.w a xs s.heap:=(show ObjOk X.prog X.w H s.heap a (dN X.w a xs)from e.ok I.hok).1
def DicAt.dict {U:Jj (T×W)}{a:Ju}{xs:Jj (T×Ju×Jm)}(d:DicAt X.w a xs s.heap)(I:Inv X J Y H s)(r:KRel X.K A H U xs):s.heap.DictOfH (cy X.prog X.w) a xs:=
 let ⟨_,_,hn,o,es,ep,h1,h2,h3,h4⟩:=d; #[o,es,ep,h1,h2,h3,h4,r.is I,hn]
def fS {i:Jr}{U:Jj (T×W)}{a:Ju}(so:StoreOk X.w X.K A H S)(e:jb S i=ba U)(ea:A[i]?=ba a):∃xs,Rd H a (dN X.w a xs)/\KRel X.K A H U xs:=by
 unfold jb at e;split at e
 ·rename_i k h;cases e;obtain⟨xs,q,r⟩:=so.obj i _ a h ea;exact#[xs,.inl q,r]
 ·rename_i k h;cases e;obtain⟨o,xs,q,r⟩:=so.obj i _ a h ea;exact#[xs,.inr #[o,q],r]
 ·cases e
def iC {i:Jr}{U:Jj (T×W)}(e:nw S i=ba U):S[i]?=ba (.dic U):=by
 unfold nw at e;split at e
 ·rename_i h; cases e; exact h
 ·cases e
def sa {i:Jr}{U:Jj (T×W)}{a:Ju}(so:StoreOk X.w X.K A H S)(e:nw S i=ba U)(ea:A[i]?=ba a):∃xs,H a=ba (dN X.w a xs)/\KRel X.K A H U xs:=
 so.obj i _ a (iC e) ea
def oY {B:Ke}(hu:B.units+10 < cLine):(cy X.prog X.w).room B.in1:=by
 change B.in1.units+aN < cLine;rw[aY]; unfold aN; omega
abbrev oz (x y:W)(S:aa):Jq (W×aa):=match x,y with
 | .ref r,.tup ks=>match jb S r,gK (.tup ks)with
  | some U,ba k=>(cj U k).map λw=>(w,S)
  | _,_=>gV
 | x,y=>ut x y S
def HW (hu:X.A.units+10 < cLine):LIx X oz:=by
 intro value slice J s Y H A S x y a b u v w S' I so rx ru ry rv e hs
 by_cases hxy:∃r ks,x=.ref r/\y=.tup ks
 ·obtain⟨r,ks,rfl,rfl⟩:=hxy;simp only[oz]at e;split at e
  ·rename_i U k hk1 hk2;rw[Jo]at e;obtain⟨w',e1,e2⟩:=e;cases e2;cases rx with
   | ref ea=>
    obtain⟨xs,rd,kr⟩:=fS so hk1 ea;have d:=b8 I rd;have dd:=d.dict I kr;obtain⟨bk,rfl,rfl,rk⟩:=iB hk2 ry rv;obtain⟨p,vv,h1,h2,h3⟩:=(kr.val k).1 _ e1;obtain rfl:u=Km _:=ru;show M7 (x:=p.2) dd.typeIs slot_dict_getitem.lookup
     (wpAny_getItem_heap (Q:=λr s'=>r=p.2/\PostE X J Y A H S w r s') (oY hu) (jd I rk (dI hk2).2.2) dd h1 #[rfl,vv,H,A,I.tok _,h3,.refl,so,h2]) hs
  ·cases e
 ·have:oz x y S=ut x y S:=by
   cases x <;> cases y <;> first|rfl|exact absurd #[_,_,rfl,rfl] hxy
  rw[this]at e;exact Jb hu value slice J s Y H A S x y a b u v w S' I so rx ru ry rv e hs
abbrev iD (o i v:W)(S:aa):Jq aa:=match o,i with
 | .ref r,.tup ks=>match nw S r,gK (.tup ks)with
  | some U,ba k=>if U.length < sizeLine then ba (S.set r (.dic (eF U k v)))else gV
  | _,_=>gV
 | o,i=>uu o i v S
def FP (hu:X.A.units+10 < cLine):LSet X iD:=by
 intro J s Y H A S o i x ao ai ax uo ui ux S' I so ro ruo ri rui rx rux e
 by_cases hxy:∃r ks,o=.ref r/\i=.tup ks
 ·obtain⟨r,ks,rfl,rfl⟩:=hxy;dsimp only[iD]at e;split at e
  ·rename_i U k hk1 hk2;split at e
   ·rename_i hl;cases e;cases ro with
    | ref ea=>
     obtain⟨xs,hH,kr⟩:=sa so hk1 ea;have d:=b8 I (.inl hH);have dd:=d.dict I kr;obtain⟨bk,rfl,rfl,rk⟩:=iB hk2 ri rui;obtain⟨q1,q2,q3⟩:=dI hk2;obtain rfl:uo=Km _:=ruo;have hz:xs.length<=sizeLine:=by rw[<- kr.length]; omega
     show wpAny_setItem_heap (hsz:=hz) (oY hu) (jd I rk q3) dd λh' dd' hs=>?_
     have kr':=kr.put q2 q3 rk rx rux;have hz':(storedH xs k bk ux).length<=sizeLine:=by
      rw[<- kr'.length];have:=c9 U k x;omega
     have dn:DicAt X.w _ (storedH xs k bk ux) h':=.of hz' d.2.1 dd';obtain⟨so',ex⟩:=so.writeO (iC hk1) rfl ea (u:=dN X.w _ (storedH xs k bk ux)) (n:=.dic (eF U k x)) #[_,aI,kr'.mono (bN (.ext hH))];exact#[_,A,mX I (by rw[hH]; exact Nm) hs (let ⟨q,_,_,hq,_⟩:=dd'; #[q,hq]) dn.ok,ex,so']
   ·cases e
  ·cases e
 ·have:iD o i x S=uu o i x S:=by
   cases o <;> cases i <;> first|rfl|exact absurd #[_,_,rfl,rfl] hxy
  rw[this]at e;exact lset hu J s Y H A S o i x ao ai ax uo ui ux S' I so ro ruo ri rui rx rux e
abbrev sd (x:W)(xs:Jj W)(S:aa):Jq (W×aa):=match x,xs with
 | .ref r,[y,z]=>match jb S r,gK y with
  | some U,ba k=>ba ((cj U k).getD z,S)
  | _,_=>gV
 | _,_=>gV
def qT (hu:X.A.units+10 < cLine):io X "dict.get" sd:=by
 intro J s Y H A S x a u xs vs us w S' I so rx ru rl rv e;cases rx with
 | ref ea=>
  cases rl with
  | nil=>cases e
  | cons r1 t1=>
   cases t1 with
   | nil=>cases e
   | cons r2 t2=>
    cases t2 with
    | cons _ _=>cases e
    | nil=>
     dsimp only[sd]at e;split at e
     ·rename_i U k hk1 hk2;cases e;obtain⟨xs,rd,kr⟩:=fS so hk1 ea;have d:=b8 I rd;have dd:=d.dict I kr;cases rv with
      | cons v1 rv2=>
       cases rv2 with
       | cons v2 rv3=>
        cases rv3;obtain⟨bk,rfl,rfl,rk⟩:=iB hk2 r1 v1;obtain rfl:u=Km _:=ru;show call_meetsIn OV dd.typeIs PySem.F.entry_dict_get (PySem.F.args_dict_get_3 _ _ _) (meetsH_dict_get_default (cy X.prog X.w) _ bk d.2.1 _) #[oY hu,k,xs,jd I rk (dI hk2).2.2,dd,?_];cases q:cj U k with
        | none=>
         rw[(kr.val k).2 q];exact#[_,H,A,I.tok _,v2,.refl,so,r2]
        | some w'=>
         obtain⟨p,vv,h1,h2,h3⟩:=(kr.val k).1 _ q;rw[h1];exact#[vv,H,A,I.tok _,h3,.refl,so,h2]
     ·cases e
 | _=>cases e
abbrev EY (x:W)(i:Jr)(S:aa):Jq J1:=match W.t x,eW S i with
 | some k,ba ys=>match W.ts ys with
  | some ks=>if k.depth<=aN/\T.depths ks<=aN then ba (decide (k∈ks))else gV
  | none=>gV
 | _,_=>gV
abbrev Dq (x:W)(ys:Jj W):Jq J1:=match W.t x,W.ts ys with
 | some k,ba ks=>if k.depth<=aN/\T.depths ks<=aN then ba (decide (k∈ks))else gV
 | _,_=>gV
def ny {h:Kn}:∀ {ks:Jj T} {vs:Jj Jm},IsTs h ks vs->∀v∈vs,∃k∈ks,IsT h k v
 | _,_,.cons a b,v,hv=>by
  rcases JC.mp hv with rfl|hv
  ·exact#[_,.head _,a]
  ·obtain⟨k,hk,q⟩:=ny b v hv;exact#[k,.tail _ hk,q]
abbrev zt (h:Kn)(k:T)(v:Jm):J1:=@decide (IsT h k v) (RV _)
def qU {h:Kn}{k k':T}{v:Jm}(x:IsT h k' v):zt h k v=decide (k'=k):=by
 unfold zt
 by_cases e:k'=k
 ·subst e; simp[x]
 ·have:¬ IsT h k v:=λy=>e (x.inj y)
  simp[e,this]
def nz {h:Kn}{k:T}:∀ {ks:Jj T} {vs:Jj Jm},IsTs h ks vs->vs.any (zt h k)=decide (k∈ks)
 | _,_,.nil=>by simp
 | _,_,.cons (k:=k') a b=>by
  rw[LU,qU a,nz b]
  by_cases e:k'=k
  ·simp[e]
  ·have:¬ k=k':=λz=>e z.symm
   simp[e,this]
def kj:∀ {ks:Jj T} {k:T},k∈ks->k.depth<=T.depths ks
 | x::ks,k,h=>by
  simp only[T.depths];rcases JC.mp h with rfl|h
  ·omega
  ·have:=kj h; omega
def wp {x:W}{i:Jr}{a b:V}{u v:Jm}{c:J1}(hu:X.A.units+10 < cLine)(I:Inv X J Y H s)(so:StoreOk X.w X.K A H S)(rx:Rel X.K A H x a)(ru:RelV a u)(ry:Rel X.K A H (.ref i) b)(rv:RelV b v)(e:EY x i S=ba c) :
  ∃l its k ks,v=.ref l/\s.heap.IsList l its/\(∀y,y∈its->Ni X.A.in1 s y u (zt s.heap k y))/\its.any (zt s.heap k)=c/\c=decide (k∈(ks:Jj T)):=by
 unfold EY at e;split at e
 ·rename_i k ys h1 h2;split at e
  ·rename_i ks h3;split at e
   ·rename_i h4;cases e;cases ry with
    | ref ea=>
     obtain⟨vs,g1,g2⟩:=aU so h2 ea;obtain⟨its,rv',p,_⟩:=I.list g1;obtain rfl:v=Km _:=rv;have hT:IsTs s.heap ks its:=gy I ks ((W.ts_w h3).symm ▸ g2) rv';have hk:IsT s.heap k u:=jc I k ((W.t_w h1).symm ▸ rx) ru;show#[_,its.toArray,k,ks,rfl,p.isList,λy hy=>?_,by rw[QH]; exact nz hT,rfl]
     obtain⟨k',hk',q⟩:=ny hT y (by simpa using hy)
     rw[qU q];have:=kj hk';have kl:aN=6:=rfl;exact uE aN k' k _ _ _ _ ∅ q hk (by rw[aY]; omega) (by rw[aY]; omega)
   ·cases e
  ·cases e
 ·cases e
def Al {x:W}{ys:Jj W}{a b:V}{u v:Jm}{c:J1}(hu:X.A.units+10 < cLine)(I:Inv X J Y H s)(rx:Rel X.K A H x a)(ru:RelV a u)(ry:Rel X.K A H (.tup ys) b)(rv:RelV b v)(e:Dq x ys=ba c) :
  ∃l its k,v=.ref l/\s.heap.IsTuple l its/\(∀y,y∈its->Ni X.A.in1 s y u (zt s.heap k y))/\its.any (zt s.heap k)=c:=by
 unfold Dq at e;split at e
 ·rename_i k ks h1 h3;split at e
  ·rename_i h4;cases e;cases ry with
   | @tup _ l vs g1 g2=>
    obtain⟨its,rv',p,_⟩:=I.tuple g1;obtain rfl:v=Km _:=rv;have hT:IsTs s.heap ks its:=gy I ks ((W.ts_w h3).symm ▸ g2) rv';have hk:IsT s.heap k u:=jc I k ((W.t_w h1).symm ▸ rx) ru;show#[_,its.toArray,k,rfl,p,λy hy=>?_,by rw[QH]; exact nz hT]
    obtain⟨k',hk',q⟩:=ny hT y (by simpa using hy)
    rw[qU q];have:=kj hk';have kl:aN=6:=rfl;exact uE aN k' k _ _ _ _ ∅ q hk (by rw[aY]; omega) (by rw[aY]; omega)
  ·cases e
 ·cases e
abbrev uF (o:COp)(x y:W)(S:aa):Jq (W×aa):=match o,y with
 | .isin,.ref i=>match jb S i with
  | some U=>(gK x).map λk=>(.bl (cj U k).isSome,S)
  | none=>match x with
   | .tup xs=>(EY (.tup xs) i S).map λb=>(.bl (b),S)
   | x=>cw .isin x (.ref i) S
 | .notin,.ref i=>match jb S i with
  | some U=>(gK x).map λk=>(.bl (!(cj U k).isSome),S)
  | none=>match x with
   | .tup xs=>(EY (.tup xs) i S).map λb=>(.bl (!b),S)
   | x=>cw .notin x (.ref i) S
 | .isin,.tup ys=>match x with
  | .tup xs=>(Dq (.tup xs) ys).map λb=>(.bl b,S)
  | x=>cw .isin x (.tup ys) S
 | o,y=>cw o x y S
def wq (hu:X.A.units+eX < cLine)(o:COp):LOp X (compareOp o.py) (uF o):=by
 intro J s Y H A S x y a b u v w S' I so rx ru ry rv e;have get:∀ {i:Jr} {U:Jj (T×W)} {k:T},y=.ref i->jb S i=ba U->gK x=ba k->∃d c xs,v=.ref d/\u=.ref c/\(d==sysModules)=false/\(cy X.prog X.w).is s.heap k c/\s.heap.DictOfH (cy X.prog X.w) d xs/\(cj U k).isSome=(atKey xs k).isSome:=by
  intro i U k hy hk1 hk2;subst hy;cases ry with
  | ref ea=>
   obtain⟨xs,rd,kr⟩:=fS so hk1 ea;have d:=b8 I rd;obtain⟨bk,rfl,rfl,rk⟩:=iB hk2 rx ru;obtain rfl:v=Km _:=rv;show#[_,bk,xs,rfl,rfl,d.2.1,jd I rk (dI hk2).2.2,d.dict I kr,?_];cases q:cj U k with
   | none=>rw[(kr.val k).2 q]; rfl
   | some w'=>obtain⟨p,_,h1,_⟩:=(kr.val k).1 _ q; rw[h1]; rfl
 have old:cw o x y S=ba (w,S')->wpAny (model X.prog X.w) X.A (compareOp o.py u v) (PostE X J Y A H S' w) X.xe s:=λh=>im hu o J s Y H A S x y a b u v w S' I so rx ru ry rv h
 have hu':X.A.units+10 < cLine:=by have:eX=20:=rfl; omega
 unfold uF at e;split at e
 ·split at e
  ·rename_i U hk1;rw[Jo]at e;obtain⟨k,hk2,e2⟩:=e;cases e2;obtain⟨d,c,xs,rfl,rfl,q1,q2,q3,q4⟩:=get rfl hk1 hk2;rw[q4];exact wpAny_in_heap (oY hu') q2 q1 q3 #[.bl _,H,A,I.tok _,rfl,.refl,so,.bl]
  ·split at e
   ·rw[Jo]at e;obtain⟨c,hc,e⟩:=e;cases e;obtain⟨l,its,k,ks,rfl,p1,p2,p3,_⟩:=wp hu' I so rx ru ry rv hc;show Q5 (zt s.heap k) p1 p2 ?_;rw[p3];exact#[.bl _,H,A,I,rfl,.refl,so,.bl]
   ·exact old e
 ·split at e
  ·rename_i U hk1;rw[Jo]at e;obtain⟨k,hk2,e2⟩:=e;cases e2;obtain⟨d,c,xs,rfl,rfl,q1,q2,q3,q4⟩:=get rfl hk1 hk2;rw[q4];exact wpAny_notIn_heap (oY hu') q2 q1 q3 #[.bl _,H,A,I.tok _,rfl,.refl,so,.bl]
  ·split at e
   ·rw[Jo]at e;obtain⟨c,hc,e⟩:=e;cases e;obtain⟨l,its,k,ks,rfl,p1,p2,p3,_⟩:=wp hu' I so rx ru ry rv hc;show PY (zt s.heap k) p1 p2 ?_;rw[p3];exact#[.bl _,H,A,I,rfl,.refl,so,.bl]
   ·exact old e
 ·split at e
  ·rw[Jo]at e;obtain⟨c,hc,e⟩:=e;cases e;obtain⟨l,its,k,rfl,p1,p2,p3⟩:=Al hu' I rx ru ry rv hc;show QE (zt s.heap k) p1 p2 ?_;rw[p3];exact#[.bl _,H,A,I,rfl,.refl,so,.bl]
  ·exact old e
 ·exact old e
end
abbrev RawD (d:Ju)(es:Ki LJ)(ep:Jr)(h:Kn):Prop:=∃o,h.get? d=ba o/\o.ExactDict/\o.data=.dict es ep
def RawD.at {d:Ju}{es:Ki LJ}{ep:Jr}{h h':Kn}(x:RawD d es ep h)(e:∀o,h.get? d=ba o->h'.get? d=ba o):RawD d es ep h':=let ⟨o,ho,r⟩:=x; #[o,e _ ho,r]
def RawD.lt {d:Ju}{es:Ki LJ}{ep:Jr}{h:Kn}(x:RawD d es ep h):d < h.objs.size:=let ⟨_,ho,_⟩:=x; JM ho
def RawD.type {d:Ju}{es:Ki LJ}{ep:Jr}{s:Jp}(x:RawD d es ep s.heap):s.TypeIs (.ref d) "dict":=let ⟨o,ho,hc,_⟩:=x; #[o,ho,hc.1]
section
variable{prog:J2}{w:Kf}{A:Ke}{E:Jm->Jp->Prop}{s:Jp}{it d:Ju}{i ep:Jr}{es:Ki LJ}
def oZ {Q:Jm->Jp->Prop}(hd:(d==sysModules)=false)(hm:RawD d es ep s.heap)
  (hQ:Q (.ref s.heap.objs.size) { s with heap:=s.heap.push { cls:=.type "dict_keyiterator",data:=.fields [.ref d,.int 0 0,.int es.size 0,.int ep 0].toArray } }):wpAny (model prog w) A (pyIter (.ref d)) Q E s:=by
 have hT:=hm.type;obtain⟨o,ho,hc,hdat⟩:=id hm;show wpAny_pyIter_slot hT F.slot_dict_iter (KN F.slot_dict_iter hT F.entry_dict_iter ?_ (F.args_dict_iter_1 _));unfold MX.«dict.__iter__» Ry;show Jk (Jk (wpAny_notOrdered_dict hT ?_));change wpAny _ _ (pure (Km d)) _ _ s;show Jt ?_;change wpAny _ _ (OW d >>= _) _ _ s;unfold OW;rw[JZ (by rw[hd]; exact JP)]
 show Jk (Jt (Jk (Na ho hdat (Jk (OO ho hdat ?_)))));show Jk (Ku (Jt #[_,rfl,"dict_keyiterator",_,#[_,JF _ rfl,rfl],F.slot_dict_keyiterator_next.lookup,?_]))
 simpa [rawInt]using hQ
def o4 {Q:Jq Jm->Jp->Prop}(hit:s.heap.IsKeyIter it d i es.size ep)(hm:RawD d es ep s.heap)(hi:i < es.size)
  (hQ:∀h',h'.IsKeyIter it d (i+1) es.size ep->LC it s.heap h'->Q (ba es[i].key) { s with heap:=h' }):wpAny (model prog w) A (pyNext (.ref it)) Q E s:=by
 obtain⟨o,ho,hc,hd⟩:=id hit;obtain⟨od,hod,hcd,hdd⟩:=id hm;unfold pyNext;show Jk (MU (Kt (name:=Lq "__next__") hit.typeIs F.slot_dict_keyiterator_next
  (KN F.slot_dict_keyiterator_next hit.typeIs F.entry_dict_keyiterator_next ?_ (F.args_dict_keyiterator_next_1 _))))
 show Jk (Jt (Jk (Jk ?_)))
 first|refine Jk (LG hit.typeIs (Jt ?_))|refine Jk (Ma hit.typeIs (Jt ?_))
 show Jk (Rr ho hd ?_);have hown:Nz "dict_keyiterator" = false:=by decide
 simp only[hown,KZ,L6];change wpAny _ _ (if (Km d==KC)=true then _ else _) _ _ s
 rw[JZ (show ¬ ((Km d==KC)=true)from JP)]
 show Jk (Jt (Jk (Na hod hdd ?_)));rw[JZ (by simp)]
 show Jk (Jt (Jk (OO hod hdd ?_)));rw[JZ (by simp)]
 show Jt ?_;simp only[show ¬ ((i:JG) < 0)from by omega,L6,JN,L1 hi]
 show Jk ?_
 first|refine Jk (LG hit.typeIs (Jt ?_))|refine Jk (Ma hit.typeIs (Jt ?_))
 show Jk (OX hit.typeIs ?_);change wpAny _ _ (setField (.ref it) 1 (rawInt ((i:JG)+1)) >>= _) _ _ s;show Jk (NN ho hd (by simp) ?_)
 have hit':(s.heap.update it (RI (·.setIfInBounds 1 (rawInt ((i:JG)+1))))).IsKeyIter it d (i+1) es.size ep:=
  #[_,Ly _ ho (OY (M0 hd _)),(Qp ..).trans hc,by rw[M0 hd]; simp[rawInt]]
 show Jk (KQ ?_);show Jk (OX (s:={ s with heap:=s.heap.update it (RI (·.setIfInBounds 1 (rawInt ((i:JG)+1)))) }) hit'.typeIs ?_)
 change wpAny _ _ (pure es[i].key) _ _ _;exact Jt (Jt #[_,rfl,Jt (hQ _ hit' (Mg ..))])
def se {Q:Jq Jm->Jp->Prop}(hh:A.handled=gV)(hit:s.heap.IsKeyIter it d i es.size ep)(hm:RawD d es ep s.heap)(hge:es.size<=i)
  (hQ:∀h',O5 it s.heap h'->Q gV { s with heap:=h' }):wpAny (model prog w) A (pyNext (.ref it)) Q E s:=by
 obtain⟨o,ho,hc,hd⟩:=id hit;obtain⟨od,hod,hcd,hdd⟩:=id hm;unfold pyNext;show Jk (MU (Kt (name:=Lq "__next__") hit.typeIs F.slot_dict_keyiterator_next
  (KN F.slot_dict_keyiterator_next hit.typeIs F.entry_dict_keyiterator_next ?_ (F.args_dict_keyiterator_next_1 _))))
 show Jk (Jt (Jk (Jk ?_)))
 first|refine Jk (LG hit.typeIs (Jt ?_))|refine Jk (Ma hit.typeIs (Jt ?_))
 show Jk (Rr ho hd ?_);have hown:Nz "dict_keyiterator" = false:=by decide
 simp only[hown,KZ,L6];change wpAny _ _ (if (Km d==KC)=true then _ else _) _ _ s
 rw[JZ (show ¬ ((Km d==KC)=true)from JP)]
 show Jk (Jt (Jk (Na hod hdd ?_)));rw[JZ (by simp)]
 show Jk (Jt (Jk (OO hod hdd ?_)));rw[JZ (by simp)]
 show Jt ?_;simp only[show ¬ ((i:JG) < 0)from by omega,L6,JN,OA hge]
 show Jk ?_
 first|refine Jk (LG hit.typeIs (Jt ?_))|refine Jk (Ma hit.typeIs (Jt ?_))
 change wpAny _ _ (setField (.ref it) 0 .none >>= _) _ _ s;show Jk (NN ho hd (by simp) ?_)
 change wpAny _ _ (newExc (.type "StopIteration") [] >>= _) _ _ _;show Jk ?_;simp only[newExc,newTuple];show Jk (Ku ?_ (by size_fits))
 show Jk (m:=firstArgMember _ _) (N8 (a:=KC) (by first|rfl|(simp only[firstArgMember]; rfl)) ?_)
 show Ku ?_ (by size_fits)
 simp only[raiseNew];show Jk (RJ ?_);rw[show A.in1.handled=gV from hh]
 show Jk (Jt (Se ?_));show Jk (Nl (T:="StopIteration") (b:=true) #[_,JF _ rfl,rfl] O6 ?_);exact Jt (hQ _ (((Mg ..).extBut.push _).push _))
def uG (hh:A.handled=gV)(I d:Ju)(hne:d≠I)(es:Ki LJ)(ep:Jr) :
  SY prog w A I [I,d] [I] es.size (λi v=>∃e,es[i]?=ba e/\e.key=v) (λi h=>h.IsKeyIter I d i es.size ep/\RawD d es ep h) where
 sub:=λb hb=>by simp at hb; simp[hb]
 frame:=λ_ _ _ st hk=>#[st.1.at λo e=>hk I (by simp) o e,st.2.at λo e=>hk d (by simp) o e]
 item:=λi s Q E hi st hQ=>
  o4 st.1 st.2 hi λh' hit' hs'=>hQ _ h' s.toks #[es[i],by simp[hi],rfl] #[hit',st.2.at λo e=>(hs'.2 d hne).trans e] λb o hb e=>hs'.extBut b o (λh=>hb (by simp[h])) e
 done:=λs Q E st hQ=>se hh st.1 st.2 (Jy _) λh' he'=>hQ h' s.toks λb o hb e=>he' b o (λh=>hb (by simp[h])) e
 self:=λ_ _ _ _ st hQ=>O7 st.1 hQ
def sf (lo:(d==sysModules)=false):O8 prog w "dict" d d es.size (λi v=>∃e,es[i]?=ba e/\e.key=v) (RawD d es ep) where
 type:=λ_ hm=>hm.type
 there:=λ_ hm=>#[hm.lt,hm.lt]
 keep:=λ_ _ hm hk=>hm.at λo e=>hk d (.inl rfl) o e
 notList:=by decide
 notTuple:=by decide
 hint:=λ_ _ _ _ hm hq=>PySem.W.kdl_hint_dict hm.type hq
 iter:=λ_ _ hh hm=>#[_,_,(λ_ _ hq=>oZ lo hm hq),uG hh _ d (JX hm.lt) es ep,#[#[_,JF _ rfl,rfl,rfl],hm.at λo e=>Jn _ e]]
def wt {T:KY}{r d S:Ju}{n:Jr}{P:Jr->Jm->Prop}{OK:Kn->Prop}{R:QC->Jp->Prop}(K:O8 prog w T r d n P OK)(hh:A.handled=gV)(hok:OK s.heap)(hn:n<=sizeLine)(hSr:S≠r)(hSd:S≠d)
  (hS:s.heap.get? S=ba { cls:=.type "list",data:=.seq #[] 0 })
  (hR:∀h' tk acc' c',(∀b o,b≠S->s.heap.get? b=ba o->h'.get? b=ba o)->h'.get? S=ba { cls:=.type "list",dict:=gV,data:=.seq acc' c',slots:=#[] }->OB P acc' n->R (.ok (.ret (.ref S))) { s with heap:=h',toks:=tk }) :
  codeAny (model prog w) A (.builtin "list.__iadd__" #[[.ref S,.ref r],[]]) R s:=by
 show KO F.entry_list_iadd ?_;rw[KG F.plain_list_iadd _];change wpAny _ A.in1 (LR (.ref S) (.ref r) (.ref S)) _ _ _;exact PySem.W.kdl_extend K hh hok S hSr hSd _ 0 hS hR hn
def o5 {T:KY}{r d:Ju}{n:Jr}{P:Jr->Jm->Prop}{OK:Kn->Prop}{Q:Jj Jm->Jp->Prop}(K:O8 prog w T r d n P OK)(hh:A.handled=gV)(hok:OK s.heap)(hn:n<=sizeLine)
  (hQ:∀h' tk acc,(∀b o,s.heap.get? b=ba o->h'.get? b=ba o)->s.heap.objs.size<=h'.objs.size->OB P acc n->Q acc.toList { s with heap:=h',toks:=tk }):wpAny (model prog w) A (collect (.ref r)) Q E s:=by
 unfold collect;show Jk (NM (KO F.entry_proto_collect ?_));rw[KG F.plain_proto_collect _];change wpAny _ A.in1 (newList [] >>= λl=>again (.builtin "list.__iadd__" #[[l,.ref r],[]])) _ _ s
 show Jk (Ku ?_);have hlt:=K.there _ hok;show Jt #[LW F.plain_list_iadd _,wt (s:={ s with heap:=s.heap.push { cls:=.type "list",data:=.seq ([]:Jj Jm).toArray } }) K hh (K.keep _ _ hok λb _ o e=>Jn _ e) hn (Li hlt.1) (Li hlt.2) (JF _ rfl) λh' tk acc' c' hk hS' hacc=>?_]
 change wpAny (model prog w) A (do
   let o <- load s.heap.objs.size
   match o.data with
   | .seq xs _=>pure xs.toList
   | _=>unsupported "internal:collect") Q E { s with heap:=h',toks:=tk }
 show Jk (PR hS' ?_);exact Jt (hQ h' tk acc' (λb o e=>hk b o (JX (JM e)) (Jn _ e)) (M4 (JM hS')) hacc)
end
mutual
def eY:T->T->Jq J1
 | .int a,.int b=>ba (decide (a < b))
 | .str a,.str b=>ba (decide (a.cps.toList < b.cps.toList))
 | .tup xs,.tup ys=>cJ xs ys
 | _,_=>gV
def cJ:Jj T->Jj T->Jq J1
 | [],[]=>ba false
 | [],_::_=>ba true
 | _::_,[]=>ba false
 | x::xs,y::ys=>if x=y then cJ xs ys else eY x y
end
mutual
theorem IsT.kept {h h':Kn}(hk:∀b o,o.cls=.type "tuple"->h.get? b=ba o->h'.get? b=ba o):∀ {x:T} {v:Jm},IsT h x v->IsT h' x v
 | _,_,.int=>.int
 | _,_,.str=>.str
 | _,_,.tup a1 c1 d1 t1=>.tup (hk _ _ c1 a1) c1 d1 (IsTs.kept hk t1)
theorem IsTs.kept {h h':Kn}(hk:∀b o,o.cls=.type "tuple"->h.get? b=ba o->h'.get? b=ba o):∀ {x:Jj T} {v:Jj Jm},IsTs h x v->IsTs h' x v
 | _,_,.nil=>.nil
 | _,_,.cons a b=>.cons (IsT.kept hk a) (IsTs.kept hk b)
end
def FQ {B:Ke}{s:Jp}{d:Jr}(hu:B.units+d < cLine)(hl:∀(x y:T) (u v:Jm) (k:J1),x.depth<=d->y.depth<=d->IsT s.heap x u->IsT s.heap y v->eY x y=ba k->LtAt B s u v k) :
  ∀(xs ys:Jj T) (us vs:Jj Jm) (k:J1),T.depths xs<=d->T.depths ys<=d->IsTs s.heap xs us->IsTs s.heap ys vs->cJ xs ys=ba k->LexR B s us vs k
 | [],[],_,_,k,_,_,h1,h2,e=>by cases h1; cases h2; cases e; exact .nn
 | [],y::ys,_,_,k,_,_,h1,h2,e=>by cases h1; cases h2; cases e; exact .nc
 | x::xs,[],_,_,k,_,_,h1,h2,e=>by cases h1; cases h2; cases e; exact .cn
 | x::xs,y::ys,_,_,k,d1,d2,h1,h2,e=>by
  simp only[T.depths]at d1 d2;cases h1 with
  | cons p1 q1=>
   cases h2 with
   | cons p2 q2=>
    have he:=uE d x y _ _ B s ∅ p1 p2 hu ∅
    dsimp only[cJ]at e
    by_cases hxy:x=y
    ·rw[JO hxy]at e;rw[J6 hxy]at he;exact .eq he (FQ hu hl xs ys _ _ k ∅ ∅ q1 q2 e)
    ·rw[JZ hxy]at e;rw[J4 hxy]at he;exact .ne he (hl x y _ _ k ∅ ∅ p1 p2 e)
def Dr:∀(d:Jr) (x y:T) (u v:Jm) (B:Ke) (s:Jp) (k:J1),x.depth<=d->y.depth<=d->IsT s.heap x u->IsT s.heap y v->B.units+d < cLine->eY x y=ba k->LtAt B s u v k:=by
 intro d
 induction d with
 | zero=>
  intro x y u v B s k d1 d2 h1 h2 hu e;cases h1 with
  | int=>cases h2 with
   | int=>cases e; exact λprog w E Q h=>(Pr h:wpAny (model prog w) B (compareOp .Lt _ _) Q E s)
   | _=>cases e
  | str=>cases h2 with
   | str=>cases e; exact λprog w E Q h=>(lt_str h:wpAny (model prog w) B (compareOp .Lt _ _) Q E s)
   | _=>cases e
  | tup _ _ _ _=>simp[T.depth]at d1
 | succ d ih=>
  intro x y u v B s k d1 d2 h1 h2 hu e;cases h1 with
  | int=>cases h2 with
   | int=>cases e; exact λprog w E Q h=>(Pr h:wpAny (model prog w) B (compareOp .Lt _ _) Q E s)
   | _=>cases e
  | str=>cases h2 with
   | str=>cases e; exact λprog w E Q h=>(lt_str h:wpAny (model prog w) B (compareOp .Lt _ _) Q E s)
   | _=>cases e
  | tup a1 c1 e1 t1=>cases h2 with
   | tup a2 c2 e2 t2=>
    simp only[T.depth]at d1 d2;have hu1:B.in1.units+d < cLine:=by rw[aY]; omega
    exact LtAt.tuples #[_,a1,c1,_,e1] #[_,a2,c2,_,e2] ∅ (FQ hu1 (λx y u v k q1 q2 q3 q4 q5=>ih x y u v B.in1 s k q1 q2 q3 q4 hu1 q5) _ _ _ _ k ∅ ∅ t1 t2 e)
   | _=>cases e
section
variable{prog:J2}{w:Kf}{A:Ke}{R:QC->Jp->Prop}{I S:Ju}{fp wr:Jj Ju}{n:Jr}{P:Jr->Jm->Prop}{St:Jr->Kn->Prop}{Ok:Kn->Prop}{bt:Jr->Jr->J1}
abbrev wu (prog:J2)(w:Kf)(A:Ke)(P:Jr->Jm->Prop)(Ok:Kn->Prop)(bt:Jr->Jr->J1):Prop:=
 ∀i j vi vj (s:Jp) (Q:Jm->Jp->Prop) (E:Jm->Jp->Prop),Ok s.heap->P i vi->P j vj->Q (.bool (bt i j)) s->wpAny (model prog w) A (richCompare .Lt vi vj) Q E s
def ww (W:SY prog w A.in1 I fp wr n P St)(hcmp:wu prog w A.in1 P Ok bt)(hSf:S∉fp)(hok:∀h h',Ok h->(∀b o,b∉wr->b≠S->h.get? b=ba o->h'.get? b=ba o)->Ok h') :
  ∀(k j:Jr) (s:Jp) (vb:Jm) (c:Jr),n - (j+1)=k->j < n->St (j+1) s.heap->P (argBest bt j) vb->Ok s.heap->s.heap.get? S=ba { cls:=.type "list",dict:=gV,data:=.seq [vb,vb].toArray c,slots:=#[] }->
  (∀v h' tk,P (argBest bt (n - 1)) v->(∀b o,b∉wr->b≠S->s.heap.get? b=ba o->h'.get? b=ba o)->R (.ok (.ret v)) { s with heap:=h',toks:=tk })->
  codeAny (model prog w) A (.builtin "min.loop" #[[.ref I,.none,.ref S],[]]) R s:=by
 have hSw:S∉wr:=λh=>hSf (W.sub _ h)
 have hname:(toString "min" ++ toString ".loop" : KY) = "min.loop":=by decide
 intro k
 induction k with
 | zero=>
  intro j s vb c hk hj hst hPb hO hS hR;have hin:j+1=n:=∅
  show KO F.entry_min_loop ?_;rw[KG F.plain_min_loop _];change wpAny _ A.in1 (seqItems? (.ref S) >>= _) _ _ s;show Jk (Lu hS rfl ?_);change wpAny _ A.in1 (tryCatch (pyNext (.ref I)) _ >>= _) _ _ s;show Jk (NO (W.done s _ _ (hin ▸ hst) λh' tk hk'=>?_))
  have hS':=hk' S _ hSw hS;change wpAny _ A.in1 (updateSeq S (λ_=>#[]) >>= _) _ _ _
  show Jk (OP hS' rfl (Jk (ME (Jt ?_))));have e:j=n - 1:=∅
  exact hR vb _ tk (e ▸ hPb) λb o hbw hbS e=>(KD _ _ (Ne.symm hbS)).trans (hk' b o hbw e)
 | succ k ih=>
  intro j s vb c hk hj hst hPb hO hS hR;have hlt:j+1 < n:=∅
  show KO F.entry_min_loop ?_;rw[KG F.plain_min_loop _];change wpAny _ A.in1 (seqItems? (.ref S) >>= _) _ _ s;show Jk (Lu hS rfl ?_);change wpAny _ A.in1 (tryCatch (pyNext (.ref I)) _ >>= _) _ _ s;show Jk (NO (W.item (j+1) s _ _ hlt hst λv h' tk hP hst' hk'=>?_))
  have hS':=hk' S _ hSw hS;have hO':Ok h':=hok _ _ hO λb o hb _ e=>hk' b o hb e
  change wpAny _ A.in1 (tryCatch (holding [v,v] (richCompare .Lt v vb >>= _)) _ >>= _) _ _ _;show Jk (NO (KQ (Jk (hcmp (j+1) (argBest bt j) v vb _ _ _ hO' hP hPb ?_))));show Jk (KQ (K8 ?_));show Jk (ME (Jt ?_));cases hb:bt (j+1) (argBest bt j)with
  | true=>
   simp only[Mf];show Jk (OP hS' rfl (Jk (ME ?_)));rw[hname];show Jt #[LW F.plain_min_loop _,ih (j+1) _ v _ ∅ hlt (W.frame _ _ _ hst' λb hbf o e=>?_) (by simp only[argBest,hb,Mf]; exact hP) (hok _ _ hO' λb o _ hbS e=>(KD _ _ (Ne.symm hbS)).trans e) (Ly _ hS' rfl)
    λv' h'' tk'' hP' hk''=>?_]
   ·exact(KD _ _ (λh:S=b=>hSf (by rw[h]; exact hbf))).trans e
   ·exact hR v' h'' tk'' hP' λb o hbw hbS e=>hk'' b o hbw hbS ((KD _ _ (Ne.symm hbS)).trans (hk' b o hbw e))
  | false=>
   simp only[KZ,L6];show Jk (ME ?_);rw[hname];show Jt #[LW F.plain_min_loop _,ih (j+1) _ vb c ∅ hlt hst' (by simp only[argBest,hb,KZ,L6]; exact hPb) hO' hS' λv' h'' tk'' hP' hk''=>?_]
   exact hR v' h'' tk'' hP' λb o hbw hbS e=>hk'' b o hbw hbS (hk' b o hbw e)
def uH (W:SY prog w A.in1 I fp wr n P St)(hcmp:wu prog w A.in1 P Ok bt)(hSf:S∉fp)(hok:∀h h',Ok h->(∀b o,b∉wr->b≠S->h.get? b=ba o->h'.get? b=ba o)->Ok h')(hn:0 < n){s:Jp}{c:Jr}(hst:St 0 s.heap)(hO:Ok s.heap)
  (hS:s.heap.get? S=ba { cls:=.type "list",dict:=gV,data:=.seq #[] c,slots:=#[] })
  (hR:∀v h' tk,P (argBest bt (n - 1)) v->(∀b o,b∉wr->b≠S->s.heap.get? b=ba o->h'.get? b=ba o)->R (.ok (.ret v)) { s with heap:=h',toks:=tk }) :
  codeAny (model prog w) A (.builtin "min.loop" #[[.ref I,.none,.ref S],[]]) R s:=by
 have hSw:S∉wr:=λh=>hSf (W.sub _ h)
 have hname:(toString "min" ++ toString ".loop" : KY) = "min.loop":=by decide
 show KO F.entry_min_loop ?_;rw[KG F.plain_min_loop _];change wpAny _ A.in1 (seqItems? (.ref S) >>= _) _ _ s;show Jk (Lu hS rfl ?_);change wpAny _ A.in1 (tryCatch (pyNext (.ref I)) _ >>= _) _ _ s;show Jk (NO (W.item 0 s _ _ hn hst λv h' tk hP hst' hk'=>?_))
 have hS':=hk' S _ hSw hS;change wpAny _ A.in1 (updateSeq S (λ_=>[v,v].toArray) >>= _) _ _ _
 show Jk (OP hS' rfl ?_);rw[hname];have hO':Ok h':=hok _ _ hO λb o hb _ e=>hk' b o hb e
 show Jt #[LW F.plain_min_loop _,ww W hcmp hSf hok _ 0 _ v _ rfl hn (W.frame _ _ _ hst' λb hbf o e=>?_) hP (hok _ _ hO' λb o _ hbS e=>(KD _ _ (Ne.symm hbS)).trans e) (Ly _ hS' rfl) λv' h'' tk'' hP' hk''=>?_]
 ·exact(KD _ _ (λh:S=b=>hSf (by rw[h]; exact hbf))).trans e
 ·exact hR v' h'' tk'' hP' λb o hbw hbS e=>hk'' b o hbw hbS ((KD _ _ (Ne.symm hbS)).trans (hk' b o hbw e))
end
section
variable{prog:J2}{w:Kf}{A:Ke}{E:Jm->Jp->Prop}{s:Jp}
def wx {l:Ju}{items:Ki Jm}{bt:Jr->Jr->J1}{Q:Jm->Jp->Prop}(hh:A.handled=gV)(hl:s.heap.IsList l items)(hn:0 < items.size)
  (hcmp:wu prog w A.in1 (λi v=>items[i]?=ba v) (λh=>∀b o,s.heap.get? b=ba o->h.get? b=ba o) bt)
  (hQ:∀v h' tk,items[argBest bt (items.size - 1)]?=ba v->(∀b o,s.heap.get? b=ba o->h'.get? b=ba o)->Q v { s with heap:=h',toks:=tk }) :
  wpAny (model prog w) A (call (.builtin "min") [.ref l]) Q E s:=by
 have hname:(toString "min" ++ toString ".loop" : KY) = "min.loop":=by decide
 show call_function_tree F.kind_min F.plain_min F.entry_min (F.args_min1 _) ?_;change wpAny _ A.in1 (NI "min" ["key","default"] 0 #[[],[]] >>= _) _ _ s;show Jk (N8 (show NI "min" ["key","default"] 0 #[[],[]]=pure [gV,gV]from rfl) ?_)
 show Jk (Jt ?_);show Jk (Mz hl ?_);show Jk (Ku ?_);rw[hname];have hlt:l < s.heap.objs.size:=let ⟨_,ho,_⟩:=hl; JM ho
 have hne:l≠s.heap.objs.size:=JX hlt;have W:=Rq (prog:=prog) (w:=w) (A:=A.in1) hh s.heap.objs.size l hne items;have hsz:∀o:La,(s.heap.push o).objs.size=s.heap.objs.size+1:=λo=>by simp[Heap.push]
 show Jt #[LW F.plain_min_loop _,uH (A:=A) (Ok:=λh=>∀b o,s.heap.get? b=ba o->h.get? b=ba o) W hcmp (λhm=>?_) (λh h' ho hk b o e=>?_) hn #[?_,?_] (λb o e=>Jn _ (Jn _ e)) (JF _ rfl) λv h' tk hv hk=>?_]
 ·rcases JC.mp hm with e|hm
  ·exact absurd (show(s.heap.push _).objs.size=s.heap.objs.size from e) (by rw[hsz]; exact Nat.succ_ne_self _)
  ·have e:(s.heap.push _).objs.size=l:=JH.mp hm;rw[hsz]at e;exact absurd hlt (by rw[<- e]; exact Rs.mpr (LV _))
 ·have hb:=JM e;show hk b o (λz=>?_) (λz=>?_) (ho b o e)
  ·rw[JH.mp z]at hb; exact K4 _ hb
  ·have z':b=(s.heap.push _).objs.size:=z;rw[hsz]at z';rw[z']at hb;exact absurd hb (Rs.mpr (LV _))
 ·exact#[_,Jn _ (JF _ rfl),rfl,rfl]
 ·obtain⟨o,ho,hc⟩:=hl;exact#[o,Jn _ (Jn _ ho),hc]
 ·show hQ v h' tk hv λb o e=>hk b o (λz=>?_) (λz=>?_) (Jn _ (Jn _ e))
  ·have hb:=JM e;rw[JH.mp z]at hb; exact K4 _ hb
  ·have hb:=JM e;have z':b=(s.heap.push _).objs.size:=z;rw[hsz]at z';rw[z']at hb;exact absurd hb (Rs.mpr (LV _))
end
abbrev bO (o:COp)(x y:W)(S:aa):Jq (W×aa):=match o,y with
 | .isin,.str j=>match x with
  | .str i=>ba (.bl (!(LI j i 0 j.length 1).isEmpty),S)
  | _=>gV
 | .lt,.tup ys=>match W.t x,W.t (.tup ys)with
  | some a,ba b=>if a.depth<=aN/\b.depth<=aN then(eY a b).map λk=>(.bl k,S)else gV
  | _,_=>gV
 | .is,.bl b=>match x with
  | .bl a=>ba (.bl (a==b),S)
  | _=>gV
 | o,y=>uF o x y S
section
variable{X:Cx}
def o7 (hu:X.A.units+eX < cLine)(o:COp):LOp X (compareOp o.py) (bO o):=by
 intro J s Y H A S x y a b u v w S' I so rx ru ry rv e;unfold bO at e;split at e
 ·split at e
  ·cases e;cases rx; cases ry
   exact OpR.go t4 I ru rv #[_,_,rfl,rfl,.here so .bl]
  ·cases e
 ·split at e
  ·rename_i ys k1 k2 h1 h2;split at e
   ·rename_i hd;rw[Jo]at e;obtain⟨k,hk,e⟩:=e;cases e;have t1:=jc I k1 (by rw[W.t_w h1]; exact rx) ru
    have t2:=jc I k2 (by rw[W.t_w h2]; exact ry) rv
    exact Dr aN k1 k2 u v X.A s k hd.1 hd.2 t1 t2 (by have:eX=20:=rfl; have:aN=6:=rfl; omega) hk _ _ _ _ (ik I so)
   ·cases e
  ·cases e
 ·split at e
  ·rename_i b' _ a';cases e;cases rx;cases ry;obtain rfl:u=Le a':=ru;obtain rfl:v=Le b':=rv;show wpAny_is_plain rfl ?_;have e:(Le a'==Le b')=(a'==b'):=by cases a' <;> cases b' <;> rfl
   rw[e];exact ik I so
  ·cases e
 ·exact wq hu _ J s Y H A S x y a b u v w S' I so rx ru ry rv e
abbrev IK (x:JA):It:=#[λi _=>i < x.cps.size,λi H v H'=>H'=H/\∃c,x.cps[i]?=ba c/\v=.str #[[c].toArray],λi _=>x.cps.size<=i]
def wz {P:J2}{w:Kf}{K:Jz}{tg:JR}(x:JA)(t:SL)(it:Ju):Turn P w K tg (IK x) [it] it (λi h=>h.IsStrIter it "str_ascii_iterator" x t i) where
 mem:=by simp
 obj:=λi h st b hb=>by
  have e:b=it:=by simpa using hb
  subst e;obtain⟨o,e,c,d⟩:=st;exact#[o,e,λv z=>by rw[d]at z; cases z]
 keep:=λi h h' #[o,e,c] k=>#[o,k it (by simp) o e,c]
 item:=by
  intro X hP hw hK hc i J s Y H E I hf st hg;subst hP hw hK;obtain⟨f0,f1,f2,f3,f4,f5⟩:=hf it (by simp)
  obtain⟨c0,hx⟩ : ∃c,x.cps[i]?=ba c:=#[_,L1 hg];show wpAny_pyNext_ascii_item st hx λh' st' sb=>?_
  have I1:Inv X J Y H { s with heap:=h',toks:=s.toks+1 }:=I.turned (t':=s.toks+1) (λb o hb e=>(sb.2 b hb).trans e) f0 f1 f3 f4 f5
  obtain⟨o,e,c,d⟩:=id st';exact#[_,rfl,oG (s:={ s with heap:=h',toks:=s.toks+1 }) e c d #v[] #[.str #[[c0].toArray],H,I1,#[_,rfl],#[rfl,_,hx,rfl],st',λb hb=>(hf b hb).1]]
 done:=by
  intro X hP hw hK hc i J s Y H E I hf st hg;subst hP hw hK;obtain⟨f0,f1,f2,f3,f4,f5⟩:=hf it (by simp)
  exact wpAny_pyNext_ascii_end (I.ok.hd hc) st (OA hg) λh' eb=>#[rfl,I.turned (t':=s.toks) (λb o hb e=>eb b o hb e) f0 f1 f3 f4 f5]
 self:=λ_ _ _ _ _ st h=>wpAny_pyIter_striter_ascii st h
end
open PySem.W (KasT kas_sort kas_ask kas_cmp kas_item kas_asc kas_desc kas_tail3 kas_descPart kas_count kas_place kas_bin kas_rev)
abbrev bz {α:Type}(lt:Jr->Jr->J1):KasT α->α
 | .ret a=>a
 | .ask i j k=>bz lt (k (lt i j))
abbrev OkK {α:Type}(n:Jr)(P:α->Prop):KasT α->Prop
 | .ret a=>P a
 | .ask i j k=>i < n/\j < n/\∀b,OkK n P (k b)
def o8 {α:Type}{n:Jr}{P:α->Prop}{lt:Jr->Jr->J1}:∀(t:KasT α),OkK n P t->P (bz lt t)
 | .ret _,h=>h
 | .ask i j k,h=>o8 (k (lt i j)) (h.2.2 _)
def nA {α:Type}{n:Jr}{P:α->Prop}{lt:Jr->Jr->J1}{t:KasT α}(h:OkK n P t):P (bz lt t):=o8 t h
def OkK.bind {α β:Type}{n:Jr}{P:α->Prop}{P':β->Prop}{f:α->KasT β}:∀ {t:KasT α},OkK n P t->(∀a,P a->OkK n P' (f a))->OkK n P' (t.bind f)
 | .ret a,h,hf=>hf a h
 | .ask _ _ _,h,hf=>#[h.1,h.2.1,λb=>OkK.bind (h.2.2 b) hf]
def lS {α:Type}{n:Jr}{P:α->Prop}{lt:Jr->Jr->J1}{cmp:Jr->Jr->(J1->Jp->Prop)->Jp->Prop}{Q:α->Jp->Prop}{s:Jp}(hc:∀i j,i < n->j < n->∀C:J1->Jp->Prop,C (lt i j) s->cmp i j C s) :
  ∀ {t:KasT α},OkK n P t->Q (bz lt t) s->t.kasWp cmp Q s
 | .ret _,_,h=>h
 | .ask i j k,h,hq=>hc i j h.1 h.2.1 _ (lS hc (h.2.2 _) hq)
abbrev Pm (n:Jr)(p:Ki Jr):Prop:=p.toList.Perm (Kb n)
def Pm.size {n:Jr}{p:Ki Jr}(h:Pm n p):p.size=n:=by rw[<- JQ,h.length_eq,KU]
def Pm.lt {n:Jr}{p:Ki Jr}(h:Pm n p)(hn:0 < n)(i:Jr):p.getD i 0 < n:=by
 by_cases hi:i < p.size
 ·have e:p.getD i 0=p[i]:=by simp[OC,hi]
  rw[e];have:p[i]∈p.toList:=by simp
  exact Kz.mp (h.mem_iff.mp this)
 ·have e:p.getD i 0=0:=by simp[OC,hi]
  rw[e]; exact hn
def Pm.rev {n:Jr}{p:Ki Jr}(h:Pm n p)(i j:Jr):Pm n (kas_rev p i j):=(NP.mp (mirror_perm p i j _)).trans h
def Pm.bub {n:Jr}{p:Ki Jr}(h:Pm n p)(i j:Jr):Pm n (bubble p i j):=(NP.mp (bubble_perm p i j)).trans h
section
variable{n:Jr}(hn:0 < n)
include hn
def qV {p:Ki Jr}(h:Pm n p):∀(f m:Jr),OkK n (λ_=>Pp) (kas_asc p f m)
 | 0,_=>trivial
 | f+1,m=>#[h.lt hn _,h.lt hn _,λb=>by
  change OkK n _ (if b=true then _ else _)
  split
  ·trivial
  ·exact qV h f (m+1)]
def jP:∀(f:Jr) (p:Ki Jr) (m q:Jr),Pm n p->OkK n (λr=>Pm n r.1) (kas_desc f p m q)
 | 0,p,m,q,h=>h
 | f+1,p,m,q,h=>#[h.lt hn _,h.lt hn _,λb=>by
  change OkK n _ (if b=true then _ else _)
  split
  ·split
   ·exact jP f _ _ _ (h.rev _ _)
   ·exact jP f _ _ _ h
  ·show#[h.lt hn _,h.lt hn _,λc=>?_]
   change OkK n _ (if c=true then _ else _)
   split
   ·exact h
   ·exact jP f _ _ _ h]
def sg {p:Ki Jr}(h:Pm n p)(m k:Jr):OkK n (λr=>Pm n r.2) (kas_tail3 m k p):=by
 unfold kas_tail3;exact OkK.bind (qV hn (h.rev 0 m) _ _) λa _=>h.rev 0 m
def jB {p:Ki Jr}(h:Pm n p)(m k:Jr):OkK n (λr=>Pm n r.2) (kas_descPart m k p):=by
 unfold kas_descPart;show OkK.bind (jP hn _ _ _ _ h) λr hr=>?_
 split
 ·exact sg hn (hr.rev _ _) _ _
 ·exact sg hn hr _ _
def wD {p:Ki Jr}(h:Pm n p)(k:Jr):OkK n (λr=>Pm n r.2) (kas_count k p):=by
 unfold kas_count;show OkK.bind (qV hn h _ _) λm _=>?_
 split
 ·exact h
 ·split
  ·show#[h.lt hn _,h.lt hn _,λc=>?_]
   change OkK n _ (if c=true then _ else _)
   split
   ·exact h
   ·exact jB hn (h.rev _ _) _ _
  ·exact jB hn h _ _
def km {p:Ki Jr}(h:Pm n p)(k:Jr):∀(f l r:Jr),OkK n (λ_=>Pp) (kas_place p k f l r)
 | 0,_,_=>trivial
 | f+1,l,r=>by
  unfold kas_place;split
  ·trivial
  ·show#[h.lt hn _,h.lt hn _,λc=>?_]
   change OkK n _ (if c=true then _ else _)
   split
   ·exact km h k f _ _
   ·exact km h k f _ _
def wF:∀(f:Jr) (p:Ki Jr) (k:Jr),Pm n p->OkK n (Pm n) (kas_bin f p k)
 | 0,p,k,h=>h
 | f+1,p,k,h=>by
  unfold kas_bin;exact OkK.bind (km hn h k _ _ _) λl _=>wF f _ _ (h.bub _ _)
def jQ:OkK n (Pm n) (kas_sort n):=by
 unfold kas_sort;show OkK.bind (wD hn (by unfold Pm; simp) _) λr hr=>?_
 split
 ·exact wF hn _ _ _ hr
 ·exact hr
end
section
variable{prog:J2}{w:Kf}{A:Ke}{E:Jm->Jp->Prop}{s:Jp}{vs:Jj Jm}
abbrev d7 (lt:Jr->Jr->J1){β:Type}(d:β)(vs:Jj β):Jj β:=if vs.length < 2 then vs else(bz lt (kas_sort vs.length)).toList.map λi=>vs.getD i d
def o9 {lt:Jr->Jr->J1}{β:Type}{d:β}{vs:Jj β}:(d7 lt d vs).length=vs.length:=by
 unfold d7;split
 ·rfl
 ·rw[Jl,JQ,(nA (lt:=lt) (jQ (n:=vs.length) ∅)).size]
def uI {a:Ju}{n:Jr}{lt:Jr->Jr->J1}{κ:Oo}{P:PySem.Fin->Jp->Prop}(ho:s.heap.get? a=ba (seqObj "list" vs.toArray n))(h64:vs.length < 64)
  (hkind:2<=vs.length->∀h',(∀b o,b≠a->s.heap.get? b=ba o->h'.get? b=ba o)->∀Q:Oo->Jp->Prop,Q κ { s with heap:=h' }->wpAny (model prog w) A (keyKind' vs.toArray) Q (λ_ _=>KP) { s with heap:=h' })
  (hlt:2<=vs.length->∀h',(∀b o,b≠a->s.heap.get? b=ba o->h'.get? b=ba o)->∀i j,i < vs.length->j < vs.length->∀Q:J1->Jp->Prop,Q (lt i j) { s with heap:=h' }->
   wpAny (model prog w) A (keyLt' κ (vs.getD i KC) (vs.getD j KC)) Q (λ_ _=>KP) { s with heap:=h' })
  (h:∀h' c,(∀b o,b≠a->s.heap.get? b=ba o->h'.get? b=ba o)->h'.get? a=ba (seqObj "list" (d7 lt KC vs).toArray c)->P (.done (.ret .none)) { s with heap:=h' }) :
  wpAny (model prog w) A (MX.«list.sort» #[[.ref a],[]]) P E s:=by
 have ha:a < s.heap.objs.size:=JM ho;obtain⟨e1,ho1⟩ : ∃e1,(s.heap.update a (Lc λ_=>(#[]:Ki Jm))).get? a=ba (seqObj "list" #[] e1):=#[_,OQ ho λ_=>#[]]
 have keep:∀b o,b≠a->s.heap.get? b=ba o->(((s.heap.update a (Lc λ_=>(#[]:Ki Jm))).push (seqObj "tuple" vs.toArray 0)).push (seqObj "list" #[] 0)).get? b=ba o:=λb o hb e=>
  Jn _ (Jn _ ((MQ _ _ _ _ hb).trans e))
 have ho3:(((s.heap.update a (Lc λ_=>(#[]:Ki Jm))).push (seqObj "tuple" vs.toArray 0)).push (seqObj "list" #[] 0)).get? a=ba (seqObj "list" #[] e1):=Jn _ (Jn _ ho1)
 have fin:∀(out:Jj Jm),out.length=vs.length->out=d7 lt KC vs->P (.done (.ret .none)) { s with heap:=(((s.heap.update a (Lc λ_=>(#[]:Ki Jm))).push (seqObj "tuple" vs.toArray 0)).push (seqObj "list" #[] 0)).update a (Lc λ_=>out.toArray) }:=λout hl e=>by
  obtain⟨c2,hc2⟩ : ∃c2,((((s.heap.update a (Lc λ_=>(#[]:Ki Jm))).push (seqObj "tuple" vs.toArray 0)).push (seqObj "list" #[] 0)).update a (Lc λ_=>out.toArray)).get? a=ba (seqObj "list" out.toArray c2):=#[_,OQ ho3 λ_=>out.toArray]
  exact h _ c2 (λb o hb q=>(MQ _ _ _ _ hb).trans (keep b o hb q)) (e ▸ hc2)
 rw[list_sort_plain];show Jk (Qq ho rfl ?_);show Jk (Oe ho rfl ?_ (by rw[JJ,Kq]; omega) (KW _))
 show Jk (QY ho1 rfl ?_);show Jk (O9 ?_ (by change vs.length<=_; rw[Kq]; omega))
 show Jk (PF ?_ (KW _));show KQ ?_;change wpAny (model prog w) A _ P E { s with heap:=((s.heap.update a (Lc λ_=>(#[]:Ki Jm))).push (seqObj "tuple" vs.toArray 0)).push (seqObj "list" #[] 0) }
 dsimp only
 by_cases h2:vs.length < 2
 ·rw[JO (by rw[JJ]; exact h2),JO (by rw[JJ]; exact h2)]
  show Jk (Jt (Jk ?_));rw[StateT.run_pure];show Jt ?_;dsimp only;show Jk (QY ho3 rfl ?_);have hs:((arrOf (SortSt.mk' general' (vs.toArray.zip vs.toArray) #[] 7 gV)).map (·.2))=vs.toArray:=by
   show(vs.toArray.zip vs.toArray).map (·.2)=vs.toArray
   apply Array.toList_inj.mp;rw[Array.toList_map,Array.toList_zip];exact List.map_snd_zip (Jy _)
  rw[hs];show Jk (Oe ho3 rfl ?_ (KW _) (by rw[JJ,Kq]; omega))
  simp only[Qr,KZ,L6];exact Jt (fin vs rfl (by unfold d7; rw[JO h2]))
 ·have hn2:¬ vs.toArray.size < 2:=by rw[JJ]; exact h2
  have h2':2<=vs.length:=∅
  rw[JZ hn2,JZ hn2];show Jk (Ll (hkind h2' _ keep (λ(k:Oo) (s':Jp)=>k=κ/\s'={ s with heap:=((s.heap.update a (Lc λ_=>(#[]:Ki Jm))).push (seqObj "tuple" vs.toArray 0)).push (seqObj "list" #[] 0) }) #[rfl,rfl]) ?_ λ_ _ x=>x.elim)
  rintro _ _ ⟨rfl,rfl⟩;show Jk (Ll (PySem.W.kat_run (Q:=λst' s'=>∃p:Ki Jr,p.size=vs.length/\arrOf st'=p.map (kas_item (vs.toArray.zip vs.toArray))/\failedOf st'=gV/\p=bz lt (kas_sort vs.length)/\s'={ s with heap:=((s.heap.update a (Lc λ_=>(#[]:Ki Jm))).push (seqObj "tuple" vs.toArray 0)).push (seqObj "list" #[] 0) })
   (G:=λp s'=>p=bz lt (kas_sort vs.length)/\s'={ s with heap:=((s.heap.update a (Lc λ_=>(#[]:Ki Jm))).push (seqObj "tuple" vs.toArray 0)).push (seqObj "list" #[] 0) }) rfl h2' h64 (λp' st' s' a1 a2 a3 a4=>#[p',a1,a2,a3,a4])
   (lS (lt:=lt) (λi j hi hj C hC=>hlt h2' _ keep i j hi hj C hC) (jQ (n:=vs.length) ∅) #[rfl,rfl])) ?_ λ_ _ e=>e)
  rintro⟨⟨⟩,st'⟩ s' ⟨p,hp,har,hf,ep,rfl⟩;dsimp only;have hout:=PySem.W.kat_snds rfl har;have hsz:(p.toList.map λi=>vs.getD i KC).length=vs.length:=by rw[Jl,JQ,hp]
  rw[hout];show Jk (QY ho3 rfl ?_);show Jk (Oe ho3 rfl ?_ (KW _) (by rw[JJ,hsz,Kq]; omega))
  rw[hf];simp only[Qr,KZ,L6];exact Jt (fin _ hsz (by unfold d7; rw[JZ h2,ep]))
def uJ {x:Jm}{lt:Jr->Jr->J1}{κ:Oo}{Q:Jm->Jp->Prop}(h64:vs.length < 64)
  (hcol:∀Q':Jj Jm->Jp->Prop,(∀h' tk,(∀b o,s.heap.get? b=ba o->h'.get? b=ba o)->s.heap.objs.size<=h'.objs.size->Q' vs { s with heap:=h',toks:=tk })->wpAny (model prog w) A.in1 (collect x) Q' E s)
  (hkind:2<=vs.length->∀h' tk,(∀b o,s.heap.get? b=ba o->h'.get? b=ba o)->∀Q:Oo->Jp->Prop,Q κ { s with heap:=h',toks:=tk }->wpAny (model prog w) A.in1.in1 (keyKind' vs.toArray) Q (λ_ _=>KP) { s with heap:=h',toks:=tk })
  (hlt:2<=vs.length->∀h' tk,(∀b o,s.heap.get? b=ba o->h'.get? b=ba o)->∀i j,i < vs.length->j < vs.length->∀Q:J1->Jp->Prop,Q (lt i j) { s with heap:=h',toks:=tk }->
   wpAny (model prog w) A.in1.in1 (keyLt' κ (vs.getD i KC) (vs.getD j KC)) Q (λ_ _=>KP) { s with heap:=h',toks:=tk })
  (h:∀D h' tk c,(∀b o,s.heap.get? b=ba o->h'.get? b=ba o)->s.heap.objs.size<=D->h'.get? D=ba (seqObj "list" (d7 lt KC vs).toArray c)->Q (.ref D) { s with heap:=h',toks:=tk }) :
  wpAny (model prog w) A (call (.builtin "sorted") [x]) Q E s:=by
 show N3 kind_sorted plain_sorted entry_sorted (args_sorted1 _) ?_;unfold MX.«sorted»;show Jk (m:=checkCount "sorted" 1 1 _) (Jt ?_);show Jk (hcol _ λh1 tk1 hk1 hle=>?_)
 show Jk (PF ?_ (by rw[Kq]; omega))
 have hoL:(h1.push (seqObj "list" vs.toArray 0)).get? h1.objs.size=ba (seqObj "list" vs.toArray 0):=JF _ rfl;have kp:∀b o,s.heap.get? b=ba o->(h1.push (seqObj "list" vs.toArray 0)).get? b=ba o:=λb o e=>Jn _ (hk1 b o e)
 have hne:∀b o,s.heap.get? b=ba o->b≠h1.objs.size:=λb o e=>JX (J3 (JM e) hle)
 change wpAny _ _ _ _ _ { s with heap:=h1.push (seqObj "list" vs.toArray 0),toks:=tk1 }
 show Jk (KQ (KN slot_list_sort #[_,hoL,rfl] entry_list_sort ?_ (args_list_sort _)));show uI (s:={ s with heap:=h1.push (seqObj "list" vs.toArray 0),toks:=tk1 }) (lt:=lt) (κ:=κ) hoL h64 (λh2 h' hk Q hq=>hkind h2 h' tk1 (λb o e=>hk b o (hne b o e) (kp b o e)) Q hq)
  (λh2 h' hk i j hi hj Q hq=>hlt h2 h' tk1 (λb o e=>hk b o (hne b o e) (kp b o e)) i j hi hj Q hq) λh' c hk hD=>?_
 exact#[_,rfl,Jt #[_,rfl,h _ h' tk1 c (λb o e=>hk b o (hne b o e) (kp b o e)) hle hD]]
end
end Mi
namespace Mi
open PySem PySem.Spec PyProof.Rows L2
abbrev fJ:T->KY
 | .int _=>"int"|.str _=>"str"|.tup _=>"tuple"
abbrev bc:T->Jq T
 | .tup (x::_)=>ba x
 | _=>gV
abbrev Am (ks:Jj T):Jq Jr:=
 if ks.all (λk=>fJ k == "int")then ba 0
 else if ks.all (λk=>fJ k == "str")then ba 1
 else if ks.all (λk=>(bc k).any λf=>fJ f == "int")then ba 2
 else if ks.all (λk=>(bc k).any λf=>fJ f == "str")then ba 3
 else if ks.all (λk=>(bc k).any λf=>fJ f == "tuple")then ba 4
 else gV
abbrev wH:Jr->Oo
 | 0=>oneType'|1=>oneType'|2=>tuples' true|3=>tuples' true|_=>tuples' false
abbrev eP (ks:Jj T):J1:=ks.all λx=>ks.all λy=>(eY x y).isSome
abbrev lT (ks:Jj T)(i j:Jr):J1:=(eY (ks.getD i (.int 0)) (ks.getD j (.int 0))).getD false
def dQ {ks:Jj T}(h:eP ks=true){i j:Jr}(hi:i < ks.length)(hj:j < ks.length):eY (ks[i]) (ks[j])=ba (lT ks i j):=by
 unfold eP at h;rw[JV]at h;have h1:=h ks[i] (Ko hi);rw[JV]at h1;have h2:=h1 ks[j] (Ko hj);unfold lT;rw[show ks.getD i (.int 0)=ks[i] by simp[hi],show ks.getD j (.int 0)=ks[j] by simp[hj]]
 obtain⟨b,hb⟩:=KF.mp h2;rw[hb]; rfl
abbrev IL (c:Jr)(x y:T):Prop:=match c with|0=>fJ x = "int"/\fJ y = "int"|1=>fJ x = "str"/\fJ y = "str"|2=>∃f g,bc x=ba f/\bc y=ba g/\fJ f = "int"/\fJ g = "int"|3=>∃f g,bc x=ba f/\bc y=ba g/\fJ f = "str"/\fJ g = "str"|_=>∃f g,bc x=ba f/\bc y=ba g
section
variable{prog:J2}{w:Kf}{A:Ke}{E:Jm->Jp->Prop}{s:Jp}
def sh {h:Kn}{k:T}{v:Jm}(x:IsT h k v):RL (model prog w) h (typeOf v) (.type (fJ k)):=by
 cases x with
 | int=>exact .now
 | str=>exact .now
 | tup a c d t=>exact c ▸ ((SM a).andThen .now:RL (model prog w) h (typeOf (.ref _)) _)
def IsTs.mem {h:Kn}:∀ {ks:Jj T} {vs:Jj Jm},IsTs h ks vs->∀v∈vs,∃k∈ks,IsT h k v
 | _,_,.cons a b,v,hv=>by
  rcases JC.mp hv with rfl|hv
  ·exact#[_,.head _,a]
  ·obtain⟨k,hk,q⟩:=IsTs.mem b v hv;exact#[k,.tail _ hk,q]
def lU {h:Kn}{p:T->J1}:∀ {ks:Jj T} {vs:Jj Jm},IsTs h ks vs->ks.all (λk=>(bc k).any p)=true->∃fs,PySem.W.KatTups h vs fs/\fs.length=vs.length/\∀v∈fs,∃k,p k=true/\IsT h k v
 | _,_,.nil,_=>#[[],.nil,rfl,λv hv=>nomatch hv]
 | k::ks,_,.cons a b,hp=>by
  rw[Kl,Js]at hp;obtain⟨fs,h1,h2,h3⟩:=lU b hp.2;cases a with
  | int=>simp[bc]at hp
  | str=>simp[bc]at hp
  | @tup kk ad o items n a1 c1 d1 t1=>
   cases kk with
   | nil=>simp[bc]at hp
   | cons x xs=>
    have hx:p x=true:=by simpa [bc]using hp.1
    generalize hit:items.toList=its at t1;cases t1 with
    | @cons _ u _ us q1 q2=>
     show#[u::fs,.cons a1 c1 d1 (by rw[<- KJ,hit]; rfl) h1,by simp[h2],λv hv=>?_]
     rcases JC.mp hv with rfl|hv
     ·exact#[x,hx,q1]
     ·exact h3 v hv
def Ds {ks:Jj T}{vs:Jj Jm}{c:Jr}{Q:Oo->Jp->Prop}(h:IsTs s.heap ks vs)(h2:2<=vs.length)(hc:Am ks=ba c)(hq:Q (wH c) s):wpAny (model prog w) A (keyKind' vs.toArray) Q E s:=by
 have one:∀ty:KY,(L8 ty != L8 "tuple")=true->ks.all (λk=>fJ k==ty)=true->Q oneType' s->wpAny (model prog w) A (keyKind' vs.toArray) Q E s:=λty hty hall hq=>
  PySem.W.kas_kind (T:=.type ty) h2 (λv hv=>by
   obtain⟨k,hk,x⟩:=h.mem v hv;have:=eq_of_beq (JV.mp hall k hk);exact this ▸ sh x) hty (by simp) hq
 have tup:∀ty:KY,ks.all (λk=>(bc k).any λf=>fJ f==ty)=true->Q (tuples' (L8 ty != L8 "tuple")) s->wpAny (model prog w) A (keyKind' vs.toArray) Q E s:=λty hall hq=>by
  obtain⟨fs,h1,h3,h4⟩:=lU h hall;exact PySem.W.kat_kind (T:=.type ty) h1 ∅ (λv hv=>by
   obtain⟨k,hk,x⟩:=h4 v hv;have:=eq_of_beq hk;exact this ▸ sh x) (by simp) hq
 unfold Am at hc;split at hc
 ·cases hc; exact one "int" #v[] (by assumption) hq
 ·split at hc
  ·cases hc; exact one "str" #v[] (by assumption) hq
  ·split at hc
   ·cases hc; exact tup "int" (by assumption) hq
   ·split at hc
    ·cases hc; exact tup "str" (by assumption) hq
    ·split at hc
     ·cases hc; exact tup "tuple" (by assumption) hq
     ·cases hc
def pb {b:J1}{Q:J1->Jp->Prop}{d:Jr}(hu:A.units+d < cLine):∀(xs ys:Jj T) (us vs:Jj Jm) (i:Jr) (k:J1),T.depths xs<=d->T.depths ys<=d->IsTs s.heap xs us->IsTs s.heap ys vs->cJ xs ys=ba k->
  (b=true->i=0->∀x y,xs.head?=ba x->ys.head?=ba y->(fJ x = "int"/\fJ y = "int")\/(fJ x = "str"/\fJ y = "str"))->Q k s->PySem.W.KatLex prog w A b (decide (us.length < vs.length)) Q (us.zip vs) i s
 | [],[],_,_,i,k,_,_,h1,h2,e,hb,hq=>by cases h1; cases h2; cases e; exact OR (by simpa using hq)
 | [],y::ys,_,_,i,k,_,_,h1,h2,e,hb,hq=>by cases h1; cases h2; cases e; exact OR (by simpa using hq)
 | x::xs,[],_,_,i,k,_,_,h1,h2,e,hb,hq=>by cases h1; cases h2; cases e; exact OR (by simpa using hq)
 | x::xs,y::ys,_,_,i,k,d1,d2,h1,h2,e,hb,hq=>by
  simp only[T.depths]at d1 d2;cases h1 with
  | @cons _ u _ us p1 q1=>
   cases h2 with
   | @cons _ v _ vs p2 q2=>
    have he:=uE d x y _ _ A s ∅ p1 p2 hu ∅
    rw[Mq];show PySem.W.kat_cons (he prog w _ _ ?_);simp only[cJ]at e;have hlen:decide ((u::us).length < (v::vs).length)=decide (us.length < vs.length):=by simp
    rw[hlen]
    by_cases hxy:x=y
    ·rw[JO hxy]at e;rw[J6 hxy];exact PySem.W.kat_yes (pb hu xs ys us vs (i+1) k ∅ ∅ q1 q2 e (λ_ z=>absurd z (Nat.succ_ne_zero _)) hq)
    ·rw[JZ hxy]at e;rw[J4 hxy];show PySem.W.kat_no ?_
     by_cases hb0:b=true/\i=0
     ·obtain⟨rfl,rfl⟩:=hb0;rcases hb rfl rfl x y rfl rfl with⟨hx,hy⟩|⟨hx,hy⟩
      ·cases p1 with
       | int=>cases p2 with
        | int=>cases e; exact oneLt_int hq
        | _=>exact absurd hy (by simp[fJ])
       | _=>exact absurd hx (by simp[fJ])
      ·cases p1 with
       | str=>cases p2 with
        | str=>cases e; exact oneLt_str hq
        | _=>exact absurd hy (by simp[fJ])
       | _=>exact absurd hx (by simp[fJ])
     ·have hf:(b&&i==0)=false:=by
       cases b with
       | false=>rfl
       | true=>
        have:i≠0:=λz=>hb0 #[rfl,z]
        simpa using this
      rw[hf];exact PySem.W.kat_one _ _ ((Dr d x y _ _ A s k ∅ ∅ p1 p2 hu e) prog w _ _ hq)
def An {c d:Jr}{x y:T}{u v:Jm}{k:J1}{Q:J1->Jp->Prop}(hu:A.units+d < cLine)(d1:x.depth<=d)(d2:y.depth<=d)(h1:IsT s.heap x u)(h2:IsT s.heap y v)(e:eY x y=ba k)
  (hc:IL c x y)
  (hq:Q k s):wpAny (model prog w) A (keyLt' (wH c) u v) Q E s:=by
 have tup:∀b:J1,(∃f g,bc x=ba f/\bc y=ba g/\(b=true->(fJ f = "int"/\fJ g = "int")\/(fJ f = "str"/\fJ g = "str")))->wpAny (model prog w) A (keyLt' (tuples' b) u v) Q E s:=by
  rintro b ⟨f,g,hf,hg,hb⟩;cases h1 with
  | int=>cases hf
  | str=>cases hf
  | @tup xs a o items n a1 c1 e1 t1=>
   cases h2 with
   | int=>cases hg
   | str=>cases hg
   | @tup ys a' o' items' n' a2 c2 e2 t2=>
    simp only[T.depth]at d1 d2;show PySem.W.kat_lt a1 e1 a2 e2 ?_;have:=pb (prog:=prog) (w:=w) (b:=b) (Q:=Q) hu xs ys items.toList items'.toList 0 k ∅ ∅ t1 t2 e (λhb' _ p q hp hq'=>by
     cases xs with
     | nil=>cases hp
     | cons x0 xs=>cases ys with
      | nil=>cases hq'
      | cons y0 ys=>cases hp; cases hq'; cases hf; cases hg; exact hb hb') hq
    simpa using this
 match c,hc with
 | 0,#[hx,hy]=>
  cases h1 with
  | int=>cases h2 with
   | int=>cases e; exact PySem.W.kat_lt_int hq
   | _=>exact absurd hy (by simp[fJ])
  | _=>exact absurd hx (by simp[fJ])
 | 1,#[hx,hy]=>
  cases h1 with
  | str=>cases h2 with
   | str=>cases e; exact PySem.W.kas_lt_str hq
   | _=>exact absurd hy (by simp[fJ])
  | _=>exact absurd hx (by simp[fJ])
 | 2,#[f,g,h1',h2',h3,h4]=>exact tup true #[f,g,h1',h2',λ_=>.inl #[h3,h4]]
 | 3,#[f,g,h1',h2',h3,h4]=>exact tup true #[f,g,h1',h2',λ_=>.inr #[h3,h4]]
 | n+4,#[f,g,h1',h2']=>exact tup false #[f,g,h1',h2',λz=>nomatch z]
end
def Ao {ks:Jj T}{c:Jr}(h:Am ks=ba c){x y:T}(hx:x∈ks)(hy:y∈ks) :
  IL c x y:=by
 have one:∀ {ty:KY},ks.all (λk=>fJ k==ty)=true->fJ x=ty/\fJ y=ty:=λha=>#[eq_of_beq (JV.mp ha x hx),eq_of_beq (JV.mp ha y hy)]
 have fst:∀ {ty:KY},ks.all (λk=>(bc k).any λf=>fJ f==ty)=true->∃f g,bc x=ba f/\bc y=ba g/\fJ f=ty/\fJ g=ty:=λ{ty} ha=>by
  have h1:=JV.mp ha x hx;have h2:=JV.mp ha y hy;cases e1:bc x with
  | none=>rw[e1]at h1; cases h1
  | some f=>
   cases e2:bc y with
   | none=>rw[e2]at h2; cases h2
   | some g=>
    rw[e1]at h1; rw[e2]at h2
    exact#[f,g,rfl,rfl,eq_of_beq (by simpa using h1),eq_of_beq (by simpa using h2)]
 unfold Am at h;split at h
 ·cases h; exact one (by assumption)
 ·split at h
  ·cases h; exact one (by assumption)
  ·split at h
   ·cases h; exact fst (by assumption)
   ·split at h
    ·cases h; exact fst (by assumption)
    ·split at h
     ·cases h;obtain⟨f,g,h1,h2,_⟩:=fst (by assumption)
      exact#[f,g,h1,h2]
     ·cases h
abbrev dj (S:aa):W->Jq (Jj W)
 | .tup xs=>ba xs
 | .ref i=>match eW S i with
  | some xs=>ba xs
  | none=>(jb S i).map λU=>U.map λp=>p.1.w
 | _=>gV
abbrev dv:Jr:=8
abbrev nB (ks:Jj T):J1:=decide (ks.length < 64)&&decide (T.depths ks<=dv)&&(decide (ks.length < 2)||((Am ks).isSome&&eP ks))
abbrev iE (xs:Jj W)(S:aa):Jq (W×aa):=match xs with
 | [x]=>match dj S x with
  | some ws=>match W.ts ws with
   | some ks=>if nB ks then ba (.ref S.length,S++[.lst (d7 (lT ks) .non ws)])else gV
   | none=>gV
  | none=>gV
 | _=>gV
abbrev lV (xs:Jj W)(S:aa):Jq (W×aa):=match xs with
 | [.ref i]=>match jb S i with
  | some U=>ba (.ref S.length,S++[.lst (U.map λp=>p.1.w)])
  | none=>ip [.ref i] S
 | xs=>ip xs S
abbrev pc (xs:Jj W)(S:aa):Jq (W×aa):=match xs with
 | [.ref i]=>match jb S i with
  | some U=>ba (.int U.length,S)
  | none=>ni [.ref i] S
 | xs=>ni xs S
abbrev je (ks:Jj T):Jr:=argBest (lT ks) (ks.length - 1)
abbrev wI (xs:Jj W)(S:aa):Jq (W×aa):=match xs with
 | [.ref i]=>match eW S i with
  | some ws=>match W.ts ws with
   | some ks=>if T.depths ks<=dv/\eP ks=true then(ws[je ks]?).map λw=>(w,S)else gV
   | none=>gV
  | none=>gV
 | _=>gV
abbrev eZ:Jj W->Jq (Jj J1)
 | []=>ba []
 | .bl b::ws=>(eZ ws).map (b :: ·)
 | _::_=>gV
abbrev Ap (xs:Jj W)(S:aa):Jq (W×aa):=match xs with
 | [.ref i]=>match eW S i with
  | some ws=>(eZ ws).map λbs=>(.bl (bs.all id),S)
  | none=>gV
 | _=>gV
section
variable{X:Cx}{J:Jj (Ju×La)}{Y:L2.St}{H:Hp}{s:Jp}{A:Jj Ju}{S:aa}
def RelL.pick {K:Jz}{ws:Jj W}{vs:Jj V}(r:RelL K A H ws vs)(d:W)(d':V):∀(is:Jj Jr),(∀i∈is,i < ws.length)->RelL K A H (is.map λi=>ws.getD i d) (is.map λi=>vs.getD i d')
 | [],_=>.nil
 | i::is,h=>by
  have hi:=h i (.head _);obtain⟨v,h1,h2⟩:=r.get (JB hi);show .cons ?_ (RelL.pick r d d' is λj hj=>h j (.tail _ hj))
  have e1:ws.getD i d=ws[i]:=by simp[hi]
  have e2:vs.getD i d'=v:=by simp[h1]
  change Rel K A H (ws.getD i d) (vs.getD i d');rw[e1,e2]; exact h2
def Vals.pick {vs:Jj V}{us:Jj Jm}(r:Vals vs us)(d:V)(d':Jm):∀(is:Jj Jr),(∀i∈is,i < vs.length)->Vals (is.map λi=>vs.getD i d) (is.map λi=>us.getD i d')
 | [],_=>.nil
 | i::is,h=>by
  have hi:=h i (.head _);obtain⟨v,h1,h2⟩:=L2.Vals.get r (JB hi);show .cons ?_ (Vals.pick r d d' is λj hj=>h j (.tail _ hj))
  have e1:vs.getD i d=vs[i]:=by simp[hi]
  have e2:us.getD i d'=v:=by simp[h1]
  change L2.RelV (vs.getD i d) (us.getD i d');rw[e1,e2]; exact h2
def nC {n:Jr}{lt:Jr->Jr->J1}(hn:0 < n):∀i∈(bz lt (Ml n)).toList,i < n:=λi hi=>Kz.mp ((nA (lt:=lt) (jQ hn)).mem_iff.mp hi)
def wJ {K:Jz}{lt:Jr->Jr->J1}{ws:Jj W}{vs:Jj V}(r:RelL K A H ws vs):RelL K A H (d7 lt .non ws) (d7 lt .non vs):=by
 unfold d7;rw[r.length];split
 ·exact r
 ·exact r.pick _ _ _ λi hi=>by rw[r.length]; exact nC ∅ i hi
def uK {lt:Jr->Jr->J1}{vs:Jj V}{us:Jj Jm}(r:Vals vs us):Vals (d7 lt .non vs) (d7 lt .none us):=by
 unfold d7;rw[L2.Vals.length r];split
 ·exact r
 ·exact Vals.pick r _ _ _ λi hi=>by rw[L2.Vals.length r]; exact nC ∅ i hi
def pd {prog:J2}{w:Kf}{B:Ke}{E:Jm->Jp->Prop}{l:Ju}{vs:Jj Jm}{Q:Jj Jm->Jp->Prop}(hl:P8 s.heap l vs.toArray)(hsz:vs.length<=sizeLine)
  (h:∀h' tk,(∀b o,s.heap.get? b=ba o->h'.get? b=ba o)->s.heap.objs.size<=h'.objs.size->Q vs { s with heap:=h',toks:=tk }):wpAny (model prog w) B (collect (.ref l)) Q E s:=by
 obtain⟨o,ho,hc,n,hd⟩:=id hl;unfold collect;show Jk (NM (KO entry_proto_collect' ?_));change wpAny _ _ (do again (.builtin "list.__iadd__" #[[<- newList [],.ref l],[]])) _ _ s
 show Jk (PF (Jt #[PZ _ (by decide +kernel),KO entry_list_iadd' ?_]))
 change wpAny _ _ (LR (.ref s.heap.objs.size) (.ref l) (.ref s.heap.objs.size)) _ _ { s with heap:=s.heap.push (seqObj "list" #[] 0) }
 unfold LR;have ho':(s.heap.push (seqObj "list" #[] 0)).get? l=ba o:=Jn _ ho;show Jk (NH (T:="tuple") #[o,ho',hc] ?_);have ht:(L8 "tuple" == L8 "tuple")=true:=by rfl
 rw[JO (by rw[ht]; simp)]
 show Jk (Qq ho' hd ?_);show Jk (Qq (xs:=#[]) (n:=0) (JF _ rfl) rfl ?_);rw[JZ (by simp)]
 show Jk (Oe (xs:=#[]) (n:=0) (JF _ rfl) rfl ?_ (KW _) (by show(#[]++vs.toArray).size<=sizeLine+1; simp only[MA,JJ,Lj]; omega))
 show Jt ?_;change wpAny (model prog w) B (do
   let o <- load s.heap.objs.size
   match o.data with
   | .seq xs _=>pure xs.toList
   | _=>unsupported "internal:collect") Q E { s with heap:=(s.heap.push (seqObj "list" #[] 0)).update s.heap.objs.size (Lc (· ++ vs.toArray)) }
 show Jk (PR (OQ (JF _ rfl) _) ?_);change wpAny _ _ (pure ((#[]:Ki Jm)++vs.toArray).toList) Q E _;rw[show((#[]:Ki Jm)++vs.toArray).toList=vs by simp]
 show Jt (h _ s.toks (λb o' e=>(MQ _ _ _ _ (JX (JM e))).trans (Jn _ e)) ?_)
 rw[QI,size_push'];exact LV _
def DicAt.raw {wd:Kf}{a:Ju}{xs:Jj (T×Ju×Jm)}{h:Kn}(d:DicAt wd a xs h):∃es ep,RawD a es ep h/\es.toList=xs.map (vX wd):=
 let ⟨_,_,_,o,es,ep,h1,h2,h3,h4⟩:=d; #[es,ep,#[o,h1,h2,h3],h4]
def KRel.keysL {U:Jj (T×W)}{xs:Jj (T×Ju×Jm)}(r:KRel X.K A H U xs):RelL X.K A H (U.map λp=>p.1.w) (xs.map λq=>V.ref q.2.1):=by
 unfold KRel at r
 induction r with
 | nil=>exact .nil
 | cons h t ih=>exact .cons h.2.2.2.1 ih
def lW (xs:Jj (T×Ju×Jm)):Vals (xs.map λq=>V.ref q.2.1) (xs.map λq=>Km q.2.1):=by
 induction xs with
 | nil=>exact .nil
 | cons x xs ih=>exact .cons rfl ih
def kn {wd:Kf}{es:Ki LJ}{xs:Jj (T×Ju×Jm)}(he:es.toList=xs.map (vX wd)){acc:Ki Jm}(ha:OB (λi v=>∃e,es[i]?=ba e/\e.key=v) acc es.size):acc.toList=xs.map λq=>Km q.2.1:=by
 have hl:es.size=xs.length:=by rw[<- JQ,he,Jl]
 apply Nk
 ·rw[JQ,ha.1,Jl,hl]
 ·intro i h1 h2;rw[JQ]at h1;obtain⟨e,q1,q2⟩:=ha.2 i acc[i] (by simp[h1])
  rw[<- KJ,he,Jv]at q1;rw[Jl]at h2;rw[JB h2]at q1;simp only[Kc,JT]at q1;subst q1;rw[QJ,Array.getElem_toList];exact q2.symm
def uL {x:W}{a:V}{u:Jm}{ws:Jj W}(hh:X.A.handled=gV)(I:Inv X J Y H s)(so:StoreOk X.w X.K A H S)(rx:Rel X.K A H x a)(ru:RelV a u)(e:dj S x=ba ws):∃vs us,RelL X.K A H ws vs/\Vals vs us/\us.length<=sizeLine/\
  ∀(B:Ke) (hB:B.handled=gV) (E:Jm->Jp->Prop) (Q':Jj Jm->Jp->Prop),(∀h' tk,(∀b o,s.heap.get? b=ba o->h'.get? b=ba o)->s.heap.objs.size<=h'.objs.size->Q' us { s with heap:=h',toks:=tk })->wpAny (model X.prog X.w) B (collect u) Q' E s:=by
 cases rx with
 | tup h1 r1=>
  cases e;obtain⟨its,rv,ht,hz⟩:=I.tuple h1;obtain rfl:u=Km _:=ru;exact#[_,its,r1,rv,by rw[<- L2.Vals.length rv]; exact hz,λB hB E Q' h=>pd ht (by rw[<- L2.Vals.length rv]; exact hz) h]
 | ref ea=>
  dsimp only[dj]at e;split at e
  ·rename_i xs hx;cases e;obtain⟨vs,h1,r1⟩:=aU so hx ea;obtain⟨its,rv,p,hz⟩:=I.list h1;obtain rfl:u=Km _:=ru;show#[_,its,r1,rv,by rw[<- L2.Vals.length rv]; exact hz,λB hB E Q' h=>collect_list p.isList (h _ s.toks (λb o' e=>(MQ _ _ _ _ (JX (JM e))).trans (Jn _ e)) ?_) (by rw[<- L2.Vals.length rv]; exact hz)]
   rw[QI,size_push'];exact LV _
  ·rw[Jo]at e;obtain⟨U,hk,rfl⟩:=e;obtain⟨xs,rd,kr⟩:=fS so hk ea;have d:=b8 I rd;obtain⟨es,ep,raw,he⟩:=d.raw;obtain rfl:u=Km _:=ru;have hl:es.size=xs.length:=by rw[<- JQ,he,Jl]
   show#[_,_,kr.keysL,lW xs,by rw[Jl]; exact d.1,λB hB E Q' h=>o5 (sf d.2.1) hB raw (by rw[hl]; exact d.1) λh' tk acc hk' hle ha=>?_]
   rw[kn he ha];exact h h' tk hk' hle
 | _=>cases e
def lX {h':Kn}{tk c:Jr}{D:Ju}{ws:Jj W}{vs:Jj V}{us:Jj Jm}(I:Inv X J Y H s)(so:StoreOk X.w X.K A H S)(r:RelL X.K A H ws vs)(rv:Vals vs us)(hz:us.length<=sizeLine)(hk:∀b o,s.heap.get? b=ba o->h'.get? b=ba o)(hD:s.heap.objs.size<=D)
  (ho:h'.get? D=ba { cls:=.type "list",data:=.seq us.toArray c }):PostE X J Y A H (S++[.lst ws]) (.ref S.length) (.ref D) { s with heap:=h',toks:=tk }:=by
 have hn:H D=gV:=I.hok.fresh hD;show#[.ref D,_,A++[D],I.laid (a:=D) (o:=.lst vs) (t':=tk) hk hD #[by rw[L2.Vals.length rv]; exact hz,us,c,rv,ho],rfl,dO hn,so.push hn r,.ref ?_]
 rw[<- so.len]; simp
def nD (hh:X.A.handled=gV)(hu:X.A.units+12 < cLine):LCall X (.builtin "sorted") iE:=by
 intro J s Y H A S xs vs us w S' I so rl rv e;cases rl with
 | nil=>cases e
 | cons r t=>
  cases t with
  | cons _ _=>cases e
  | nil=>
   cases rv with
   | cons ru rv2=>
    cases rv2;dsimp only[iE]at e;split at e
    ·rename_i ws hw;split at e
     ·rename_i ks hk;split at e
      ·rename_i hok;cases e;obtain⟨vs',us',r1,rv1,hz,hcol⟩:=uL hh I so r ru hw
       (dsimp only[nB]at hok; simp only[Js,JW]at hok)
       obtain⟨⟨h64,hd⟩,hok⟩:=hok;have hws:T.ws ks=ws:=W.ts_w hk;have hT:IsTs s.heap ks us':=gy I ks (hws ▸ r1) rv1;have hl:us'.length=ks.length:=hT.length.symm;have sk:2<=us'.length->(Am ks).isSome=true/\eP ks=true:=λh2=>by
        rcases Lw _ _ ▸ hok with h|h
        ·simp only[JW]at h; omega
        ·simpa using h
       show uJ (vs:=us') (lt:=lT ks) (κ:=wH ((Am ks).getD 0)) ∅ (λQ' hQ'=>hcol X.A.in1 hh _ Q' hQ') (λh2 h' tk hk' Q hq=>?_) (λh2 h' tk hk' i j hi hj Q hq=>?_) λD h' tk c hk' hD ho=>?_
       ·obtain⟨q1,q2⟩:=sk h2;obtain⟨c,hc⟩:=KF.mp q1;rw[hc]at hq;exact Ds (s:={ s with heap:=h',toks:=tk }) (hT.kept λb o _ e=>hk' b o e) h2 hc hq
       ·obtain⟨q1,q2⟩:=sk h2;obtain⟨c,hc⟩:=KF.mp q1;rw[hc];have hi':i < ks.length:=∅
        have hj':j < ks.length:=∅
        have g:=(hT.kept (h':=h') λb o _ e=>hk' b o e)
        have e1:us'.getD i KC=us'[i]:=by simp[hi]
        have e2:us'.getD j KC=us'[j]:=by simp[hj]
        rw[e1,e2];have b1:=dP (ks:=ks) i hi';have b2:=dP (ks:=ks) j hj';exact An (s:={ s with heap:=h',toks:=tk }) (d:=dv) (c:=c) (by rw[aY,aY]; unfold dv; omega) ∅ ∅ (g.get i hi' hi) (g.get j hj' hj) (dQ q2 hi' hj') (Ao hc (Ko hi') (Ko hj')) hq
       ·exact lX I so (wJ r1) (uK rv1) (by rw[o9]; exact hz) hk' hD ho
      ·cases e
     ·cases e
    ·cases e
def pe (hh:X.A.handled=gV):LCall X (.type "list") lV:=by
 intro J s Y H A S xs vs us w S' I so rl rv e
 by_cases hd:∃i U,xs=[.ref i]/\jb S i=ba U
 ·obtain⟨i,U,rfl,hk⟩:=hd
  (dsimp only[lV]at e; simp only[hk]at e)
  cases e;cases rl with
  | cons r t=>
   cases t;cases rv with
   | cons ru rv2=>
    cases rv2;cases r with
    | ref ea=>
     obtain⟨xs,rd,kr⟩:=fS so hk ea;have d:=b8 I rd;obtain⟨es,ep,raw,he⟩:=d.raw;obtain rfl:_=Km _:=ru;have hl:es.size=xs.length:=by rw[<- JQ,he,Jl]
     show PySem.W.kdl_call (sf d.2.1) hh raw (by rw[hl]; exact d.1) λh' tk acc' c' hk' hD ha=>?_
     have ea':=kn he ha;show lX (us:=acc'.toList) I so kr.keysL (ea' ▸ lW xs) (by rw[ea',Jl]; exact d.1) hk' (Jy _) (c:=c') ?_
     simpa using hD
 ·have:lV xs S=ip xs S:=by
   unfold lV;split
   ·rename_i i;split
    ·rename_i U hk;exact absurd #[i,U,rfl,hk] hd
    ·rfl
   ·rfl
  rw[this]at e;exact gZ J s Y H A S xs vs us w S' I so rl rv e
end
open PySem.W (KasT kas_sort kas_asc kas_desc kas_tail3 kas_descPart kas_count kas_place kas_bin kas_rev)
def dJ {α β:Type}{lt:Jr->Jr->J1}{f:α->KasT β}:∀t:KasT α,bz lt (t.bind f)=bz lt (f (bz lt t))
 | .ret _=>rfl
 | .ask i j k=>dJ (k (lt i j))
structure Lin (n:Jr)(lt:Jr->Jr->J1):Prop where
 tr:∀i j k,i < n->j < n->k < n->lt i j=true->lt j k=true->lt i k=true
 as:∀i j,i < n->j < n->lt i j=true->lt j i=false
 to:∀i j,i < n->j < n->i≠j->lt j i=false->lt i j=true
abbrev gt (p:Ki Jr)(i:Jr):Jr:=p.getD i 0
def jf {p:Ki Jr}{i:Jr}:gt p i=(p[i]?).getD 0:=by unfold gt; simp[Array.getD_eq_getD_getElem?]
def Pm.inj {n:Jr}{p:Ki Jr}(h:Pm n p){i j:Jr}(hi:i < n)(hj:j < n)(hne:i≠j):gt p i≠gt p j:=by
 have nd:p.toList.Nodup:=h.nodup_iff.mpr Op;have hi':i < p.toList.length:=by rw[JQ,h.size]; exact hi
 have hj':j < p.toList.length:=by rw[JQ,h.size]; exact hj
 intro e;have e1:gt p i=p.toList[i]:=by unfold gt; simp[OC,h.size,hi]
 have e2:gt p j=p.toList[j]:=by unfold gt; simp[OC,h.size,hj]
 rw[e1,e2]at e;have pw:=MM.mp nd;rcases P2 hne with h|h
 ·exact pw i j hi' hj' h e
 ·exact pw j i hj' hi' h e.symm
abbrev Up (lt:Jr->Jr->J1)(p:Ki Jr)(m:Jr):Prop:=∀i j,i < j->j < m->lt (gt p i) (gt p j)=true
section
variable{n:Jr}{lt:Jr->Jr->J1}(L:Lin n lt)
include L
def Up.more {p:Ki Jr}{a:Jr}(hp:Pm n p)(ha:1<=a)(han:a < n)(h:Up lt p a)(hl:lt (gt p (a - 1)) (gt p a)=true):Up lt p (a+1):=by
 have hn:0 < n:=∅
 intro i j hij hj
 by_cases e:j=a
 ·subst e
  by_cases e2:i=j - 1
  ·subst e2; exact hl
  ·exact L.tr _ _ _ (hp.lt hn _) (hp.lt hn _) (hp.lt hn _) (h i (j - 1) ∅ ∅) hl
 ·exact h i j hij ∅
def qW {p:Ki Jr}(hp:Pm n p):∀(f a:Jr),1<=a->a+f=n->Up lt p a->Up lt p (bz lt (kas_asc p f a))/\a<=bz lt (kas_asc p f a)/\bz lt (kas_asc p f a)<=n/\(bz lt (kas_asc p f a) < n->lt (gt p (bz lt (kas_asc p f a))) (gt p (bz lt (kas_asc p f a) - 1))=true)
 | 0,a,h1,h2,h=>#[h,Jy _,by change a<=n; omega,λz=>by have:a < n:=z; omega]
 | f+1,a,h1,h2,h=>by
  have hn:0 < n:=∅
  have e:bz lt (kas_asc p (f+1) a)=bz lt (if lt (gt p a) (gt p (a - 1))=true then .ret a else kas_asc p f (a+1)):=rfl
  rw[e];cases c:lt (gt p a) (gt p (a - 1))with
  | true=>exact#[h,Jy _,by change a<=n; omega,λ_=>c]
  | false=>
   have l:lt (gt p (a - 1)) (gt p a)=true:=L.to _ _ (hp.lt hn (a - 1)) (hp.lt hn a) (hp.inj ∅ ∅ ∅) c
   obtain⟨q1,q2,q3,q4⟩:=qW hp f (a+1) ∅ ∅ (Up.more L hp h1 ∅ h l)
   exact#[q1,by change a<=bz lt (kas_asc p f (a+1)); omega,q3,q4]
abbrev Dn (lt:Jr->Jr->J1)(p:Ki Jr)(m:Jr):Prop:=∀i j,i < j->j < m->lt (gt p j) (gt p i)=true
def si {p:Ki Jr}(hp:Pm n p):∀(f a:Jr),1<=a->a+f=n->Dn lt p a->∃m,bz lt (kas_desc f p a 0)=(p,m,0)/\a<=m/\m<=n/\Dn lt p m
 | 0,a,h1,h2,h=>#[a,rfl,Jy _,∅,h]
 | f+1,a,h1,h2,h=>by
  have hn:0 < n:=∅
  have e:bz lt (kas_desc (f+1) p a 0)=bz lt (if lt (gt p a) (gt p (a - 1))=true then(if 0 > 0 then kas_desc f (kas_rev p (a - (0+1)) a) (a+1) 0 else kas_desc f p (a+1) 0)else .ask (gt p (a - 1)) (gt p a) λd=>if d=true then .ret (p,a,0)else kas_desc f p (a+1) (0+1)):=rfl
  rw[e];cases c:lt (gt p a) (gt p (a - 1))with
  | true=>
   obtain⟨m,q1,q2,q3,q4⟩:=si hp f (a+1) ∅ ∅ λi j hij hj=>by
    by_cases e:j=a
    ·subst e
     by_cases e2:i=j - 1
     ·subst e2; exact c
     ·exact L.tr _ _ _ (hp.lt hn _) (hp.lt hn _) (hp.lt hn _) c (h i (j - 1) ∅ ∅)
    ·exact h i j hij ∅
   exact#[m,q1,∅,q3,q4]
  | false=>
   have l:lt (gt p (a - 1)) (gt p a)=true:=L.to _ _ (hp.lt hn (a - 1)) (hp.lt hn a) (hp.inj ∅ ∅ ∅) c
   show#[a,?_,Jy _,∅,h]
   change bz lt (if lt (gt p (a - 1)) (gt p a)=true then .ret (p,a,0)else kas_desc f p (a+1) (0+1))=_
   rw[l]; rfl
omit L in
def Dt {p:Ki Jr}{m:Jr}(hp:Pm n p)(hm:m<=n)(h:Dn lt p m):Up lt (kas_rev p 0 m) m:=by
 intro i j hij hj;have g:∀k,k < m->gt (kas_rev p 0 m) k=gt p (m - 1 - k):=λk hk=>by
  rw[jf,jf];show((mirror p 0 m ((m - 0) / 2))[k]?).getD 0=_;rw[getElem?_mirror_all (by rw[hp.size]; exact hm),JO #[KW _,hk],R0]
 rw[g i ∅,g j hj]
 exact h _ _ ∅ ∅
def wK {p:Ki Jr}(hp:Pm n p)(hn:1<=n):∃m p',bz lt (kas_count n p)=(m,p')/\Pm n p'/\1<=m/\m<=n/\Up lt p' m:=by
 unfold kas_count;rw[dJ];obtain⟨q1,q2,q3,q4⟩:=qW L hp (n - 1) 1 (Jy _) ∅ λi j hij hj=>∅
 generalize bz lt (kas_asc p (n - 1) 1)=m at q1 q2 q3 q4
 by_cases hm:m=n
 ·subst hm;rw[JO (J5 _)];exact#[m,p,rfl,hp,q2,Jy _,q1]
 ·rw[JZ (by simp[hm])]
  by_cases h1:m > 1
  ·rw[JO h1];have l:=q1 0 (m - 1) ∅ ∅
   show#[m,p,?_,hp,q2,q3,q1];change bz lt (if lt (gt p 0) (gt p (m - 1))=true then .ret (m,p)else kas_descPart m n (kas_rev p 0 m))=_
   rw[l]; rfl
  ·rw[JZ h1];obtain rfl:m=1:=∅
   unfold kas_descPart;rw[dJ];have l:=q4 ∅
   obtain⟨m,e,r1,r2,r3⟩:=si L hp (n - (1+1)) (1+1) ∅ ∅ λi j hij hj=>by
    obtain rfl:j=1:=∅
    obtain rfl:i=0:=∅
    exact l
   rw[e];dsimp only;rw[JZ ∅]
   unfold kas_tail3;rw[dJ];have hp':Pm n (kas_rev p 0 m):=hp.rev 0 m;obtain⟨z1,z2,z3,z4⟩:=qW L hp' (n - m) m ∅ ∅ (Dt hp r2 r3)
   exact#[_,_,rfl,hp',∅,z3,z1]
def ko {p:Ki Jr}{k:Jr}(hp:Pm n p)(hk:k < n)(hu:Up lt p k):∀(f l r:Jr),l<=r->r<=k->r - l<=f->(∀i,i < l->lt (gt p i) (gt p k)=true)->(∀i,r<=i->i < k->lt (gt p k) (gt p i)=true)->
  ∃m,bz lt (kas_place p k f l r)=m/\m<=k/\(∀i,i < m->lt (gt p i) (gt p k)=true)/\(∀i,m<=i->i < k->lt (gt p k) (gt p i)=true)
 | 0,l,r,h1,h2,h3,ha,hb=>#[l,rfl,∅,ha,λi hi=>hb i ∅]
 | f+1,l,r,h1,h2,h3,ha,hb=>by
  have hn:0 < n:=∅
  unfold kas_place
  by_cases hge:l>=r
  ·rw[JO hge];exact#[l,rfl,∅,ha,λi hi=>hb i ∅]
  ·rw[JZ hge];change ∃m,bz lt (if lt (gt p k) (gt p ((l+r) / 2))=true then kas_place p k f l ((l+r) / 2)else kas_place p k f ((l+r) / 2+1) r)=m/\_
   cases c:lt (gt p k) (gt p ((l+r) / 2))with
   | true=>
    rw[JO rfl];show ko hp hk hu f l ((l+r) / 2) ∅ ∅ ∅ ha λi hi hik=>?_
    by_cases e:i=(l+r) / 2
    ·rw[e]; exact c
    ·exact L.tr _ _ _ (hp.lt hn _) (hp.lt hn _) (hp.lt hn _) c (hu _ _ ∅ hik)
   | false=>
    rw[JZ JP];have l':=L.to _ _ (hp.lt hn ((l+r) / 2)) (hp.lt hn k) (hp.inj ∅ ∅ ∅) c
    show ko hp hk hu f ((l+r) / 2+1) r ∅ h2 ∅ (λi hi=>?_) hb
    by_cases e:i=(l+r) / 2
    ·rw[e]; exact l'
    ·exact L.tr _ _ _ (hp.lt hn _) (hp.lt hn _) (hp.lt hn _) (hu i ((l+r) / 2) ∅ ∅) l'
def wL:∀(f:Jr) (p:Ki Jr) (k:Jr),Pm n p->k+f=n->Up lt p k->Pm n (bz lt (kas_bin f p k))/\Up lt (bz lt (kas_bin f p k)) n
 | 0,p,k,hp,h,hu=>by
  have:k=n:=∅
  exact#[hp,this ▸ hu]
 | f+1,p,k,hp,h,hu=>by
  unfold kas_bin;rw[dJ];obtain⟨m,e,h1,ha,hb⟩:=ko L hp ∅ hu k 0 k (KW _) (Jy _) ∅ (λi hi=>∅) λi h1 h2=>∅
  rw[e];show wL f _ (k+1) (hp.bub _ _) ∅ λi j hij hj=>?_
  have g:∀i,gt (bubble p k (k - m)) i=if i=m then gt p k else if m < i/\i<=k then gt p (i - 1)else gt p i:=λi=>by
   rw[jf,jf,jf,jf,getElem?_bubble (by rw[hp.size]; omega) _ ∅,show k - (k - m)=m by omega]
   split
   ·rfl
   ·split <;> rfl
  rw[g,g]
  repeat' split
  all_goals first
   | (exfalso; omega)
   | exact ha _ ∅
   | exact hb _ ∅ ∅
   | exact hu _ _ ∅ ∅
def Aq (hn:1<=n):Pm n (bz lt (kas_sort n))/\Up lt (bz lt (kas_sort n)) n:=by
 unfold kas_sort;rw[dJ];obtain⟨m,p',e,h1,h2,h3,h4⟩:=wK L (p:=(Kb n).toArray) (by unfold Pm; simp) hn
 rw[e];dsimp only
 by_cases hm:m < n
 ·rw[JO hm];have:max m 1=m:=∅
  rw[this];exact wL L _ _ _ h1 ∅ h4
 ·rw[JZ hm];have:m=n:=∅
  exact#[h1,this ▸ h4]
end
end Mi
namespace Mi
open PySem PySem.Spec PyProof.Rows L2
mutual
theorem kw:∀x y:T,iA x=true->eY x y=ba true->eY y x=ba false
 | .int a,.int b,_,h=>by
  dsimp only[eY]at h; simp only[JT,JW]at h
  dsimp only[eY]; simp only[JT,Oq]
  omega
 | .str _,_,h,_=>by cases h
 | .tup xs,.tup ys,hn,h=>nE xs ys hn h
 | .int _,.str _,_,h|.int _,.tup _,_,h|.tup _,.int _,_,h|.tup _,.str _,_,h=>by cases h
theorem nE:∀xs ys:Jj T,ee xs=true->cJ xs ys=ba true->cJ ys xs=ba false
 | [],[],_,h=>by cases h
 | [],_::_,_,_=>rfl
 | _::_,[],_,h=>by cases h
 | x::xs,y::ys,hn,h=>by
  simp only[ee,Js]at hn;dsimp only[cJ]at h ⊢
  by_cases e:x=y
  ·rw[JO e]at h;rw[JO e.symm];exact nE xs ys hn.2 h
  ·rw[JZ e]at h;rw[JZ (Ne.symm e)];exact kw x y hn.1 h
end
mutual
theorem nF:∀x y:T,iA x=true->x≠y->eY y x=ba false->eY x y=ba true
 | .int a,.int b,_,hne,h=>by
  dsimp only[eY]at h; simp only[JT,Oq]at h
  dsimp only[eY]; simp only[JT,JW]
  have:a≠b:=λe=>hne (e ▸ rfl)
  omega
 | .str _,_,h,_,_=>by cases h
 | .tup xs,.tup ys,hn,hne,h=>sj xs ys hn (λe=>hne (e ▸ rfl)) h
 | .int _,.str _,_,_,h|.int _,.tup _,_,_,h|.tup _,.int _,_,_,h|.tup _,.str _,_,_,h=>by cases h
theorem sj:∀xs ys:Jj T,ee xs=true->xs≠ys->cJ ys xs=ba false->cJ xs ys=ba true
 | [],[],_,h,_=>absurd rfl h
 | [],_::_,_,_,_=>rfl
 | _::_,[],_,_,h=>by cases h
 | x::xs,y::ys,hn,hne,h=>by
  simp only[ee,Js]at hn;dsimp only[cJ]at h ⊢
  by_cases e:x=y
  ·rw[JO e.symm]at h;rw[JO e];exact sj xs ys hn.2 (λz=>hne (by rw[e,z])) h
  ·rw[JZ (Ne.symm e)]at h;rw[JZ e];exact nF x y hn.1 e h
end
mutual
theorem qX:∀x y z:T,iA x=true->iA y=true->eY x y=ba true->eY y z=ba true->eY x z=ba true
 | .int a,.int b,.int c,_,_,h,h'=>by
  dsimp only[eY]at h h' ⊢; simp only[JT,JW]at h h' ⊢
  omega
 | .tup xs,.tup ys,.tup zs,hn,hn',h,h'=>sn xs ys zs hn hn' h h'
 | .str _,_,_,h,_,_,_=>by cases h
 | .int _,.str _,_,_,_,h,_|.int _,.tup _,_,_,_,h,_|.tup _,.int _,_,_,_,h,_|.tup _,.str _,_,_,_,h,_=>by cases h
 | .int _,.int _,.str _,_,_,_,h|.int _,.int _,.tup _,_,_,_,h|.tup _,.tup _,.int _,_,_,_,h|.tup _,.tup _,.str _,_,_,_,h=>by cases h
theorem sn:∀xs ys zs:Jj T,ee xs=true->ee ys=true->cJ xs ys=ba true->cJ ys zs=ba true->cJ xs zs=ba true
 | [],[],_,_,_,h,_=>by cases h
 | _::_,[],_,_,_,h,_=>by cases h
 | _,_::_,[],_,_,_,h=>by cases h
 | [],_::_,_::_,_,_,_,_=>rfl
 | x::xs,y::ys,z::zs,hn,hn',h,h'=>by
  simp only[ee,Js]at hn hn';dsimp only[cJ]at h h' ⊢
  by_cases e:x=y
  ·subst e;rw[JO rfl]at h
   by_cases e':x=z
   ·rw[JO e']at h' ⊢;exact sn xs ys zs hn.2 hn'.2 h h'
   ·rw[JZ e']at h' ⊢;exact h'
  ·rw[JZ e]at h
   by_cases e':y=z
   ·subst e';rw[JZ e];exact h
   ·rw[JZ e']at h';have t:=qX x y z hn.1 hn'.1 h h';have e2:x≠z:=λe2=>by
     subst e2;have:=kw x x hn.1 t;rw[t]at this; cases this
    rw[JZ e2];exact t
end
abbrev Du (ks:Jj T):Prop:=ks.Pairwise λx y=>eY x y=ba true
abbrev jC (ks:Jj T):Jj T:=d7 (lT ks) (.int 0) ks
structure Nice (ks:Jj T):Prop where
 num:∀x∈ks,iA x=true
 lt:eP ks=true
 nd:ks.Nodup
def Nice.lin {ks:Jj T}(h:Nice ks):Lin ks.length (lT ks):=by
 have nm:∀i (hi:i < ks.length),iA ks[i]=true:=λi hi=>h.num _ (Ko hi)
 show#[λi j k hi hj hk a b=>?_,λi j hi hj a=>?_,λi j hi hj hne a=>?_]
 ·have e1:=dQ h.lt hi hj;have e2:=dQ h.lt hj hk;have e3:=dQ h.lt hi hk;rw[a]at e1; rw[b]at e2
  rw[qX _ _ _ (nm i hi) (nm j hj) e1 e2]at e3;exact(Kw e3).symm
 ·have e1:=dQ h.lt hi hj;have e2:=dQ h.lt hj hi;rw[a]at e1;rw[kw _ _ (nm i hi) e1]at e2;exact(Kw e2).symm
 ·have e1:=dQ h.lt hj hi;have e2:=dQ h.lt hi hj;rw[a]at e1;have hne':ks[i]≠ks[j]:=λe=>by
   have pw:=MM.mp h.nd;rcases P2 hne with q|q
   ·exact pw i j hi hj q e
   ·exact pw j i hj hi q e.symm
  rw[nF _ _ (nm i hi) hne' e1]at e2;exact(Kw e2).symm
def iF {α:Type}{lt:Jr->Jr->J1}{d:α}{xs:Jj α}:(d7 lt d xs).Perm xs:=by
 unfold d7;split
 ·exact .refl _
 ·have p:Pm xs.length (bz lt (Ml xs.length)):=nA (jQ ∅)
  show(Te _ p).trans ?_;have:(Kb xs.length).map (λi=>xs.getD i d)=xs:=by
   apply Nk
   ·simp
   ·intro k h1 h2; simp[h2]
  rw[this]
def kz {ks:Jj T}(h:Nice ks):Du (jC ks):=by
 unfold jC d7 Du;split
 ·rename_i hl
  match ks,hl with
  | [],_=>exact .nil
  | [x],_=>simp
  | _::_::_,hl=>simp only[JL]at hl; omega
 ·rename_i hl;obtain⟨p,u⟩:=Aq h.lin ∅
  rw[MM];intro i j hi hj hij;rw[Jl,JQ,p.size]at hi hj;have hn:0 < ks.length:=∅
  have l:=u i j hij hj;have e1:=dQ h.lt (p.lt hn i) (p.lt hn j);have g:∀k (hk:k < ks.length),(bz (lT ks) (Ml ks.length)).getD k 0=(bz (lT ks) (Ml ks.length)).toList[k]'(by rw[JQ,p.size]; exact hk):=λk hk=>by simp[OC,p.size,hk]
  have l':lT ks ((bz (lT ks) (Ml ks.length)).getD i 0) ((bz (lT ks) (Ml ks.length)).getD j 0)=true:=l;rw[l']at e1;have gd:∀k (hk:k < ks.length),ks.getD k (.int 0)=ks[k]:=λk hk=>by simp[hk]
  simp only[QJ];rw[<- g i hi,<- g j hj,gd _ (p.lt hn i),gd _ (p.lt hn j)];exact e1
def pf:∀ {a b:Jj T},(∀x∈a,iA x=true)->a.Perm b->Du a->Du b->a=b
 | [],b,_,p,_,_=>(SN p)
 | x::a,[],_,p,_,_=>absurd p.length_eq (by simp)
 | x::a,y::b,hn,p,h,h'=>by
  have e:x=y:=by
   rcases JC.mp (p.mem_iff.mp (Kr))with e|e
   ·exact e
   ·rcases JC.mp (p.mem_iff.mpr (Kr))with e'|e'
    ·exact e'.symm
    ·have l1:=N4 h e';have l2:=N4 h' e;have:=kw _ _ (hn x (.head _)) l1;rw[l2]at this; cases this
  subst e;rw[pf (λz hz=>hn z (.tail _ hz)) ((List.perm_cons x).mp p) (NQ.mp h).2 (NQ.mp h').2]
def Nice.of_sub {ks us:Jj T}(h:Nice ks)(hs:∀x∈us,x∈ks)(hd:us.Nodup):Nice us:=by
 show#[λx hx=>h.num x (hs x hx),?_,hd]
 have:=h.lt;unfold eP at this ⊢;rw[JV]at this ⊢;intro x hx;have h2:=this x (hs x hx);rw[JV]at h2 ⊢;exact λy hy=>h2 y (hs y hy)
def uM {us ks:Jj T}(h:Nice ks)(p:us.Perm ks):jC us=jC ks:=by
 have hu:Nice us:=h.of_sub (λx hx=>p.mem_iff.mp hx) (p.nodup_iff.mpr h.nd)
 have pu:(jC us).Perm us:=iF;have pk:(jC ks).Perm ks:=iF;exact pf (λx hx=>hu.num x (pu.mem_iff.mp hx)) (pu.trans (p.trans pk.symm)) (kz hu) (kz h)
abbrev kA (xs:Jj W)(S:aa):Jq (W×aa):=match xs with
 | [.ref i]=>match Ak S i with
  | some (lo,hi)=>if -(2 ^ 62)<=lo/\lo < 2 ^ 62/\-(2 ^ 62)<=hi/\hi < 2 ^ 62/\(hi - lo).toNat<=sizeLine then ba (.tup (FN lo (hi - lo).toNat),S)else gV
  | none=>ke [.ref i] S
 | xs=>ke xs S
section
variable{prog:J2}{w:Kf}{A:Ke}{E:Jm->Jp->Prop}{s:Jp}
def lx {Q:Jj Jm->Jp->Prop}{r:Ju}{a b c:JG}{t u v:SL}{n:Jr}(hh:A.handled=gV)(hr:SI s.heap r a b c t u v)(hsmall:NE a b c=true)
  (hn:Lm a b c=n) (hlen:n<=2 ^ 24)
  (hQ:∀h' tk (acc:Ki Jm),(∀b o,s.heap.get? b=ba o->h'.get? b=ba o)->s.heap.objs.size<=h'.objs.size->OB (λi v=>∃t,v=.int (a+i*c) t) acc n->Q acc.toList { s with heap:=h',toks:=tk }):wpAny (model prog w) A (collect (.ref r)) Q E s:=by
 unfold collect;show Jk (NM (KO F.entry_proto_collect ?_));rw[KG F.plain_proto_collect _];change wpAny _ A.in1 (newList [] >>= λl=>again (.builtin "list.__iadd__" #[[l,.ref r],[]])) _ _ s
 show Jk (Ku ?_);show Jt #[LW F.plain_list_iadd _,KO F.entry_list_iadd ?_];rw[KG F.plain_list_iadd _];change wpAny _ A.in1 (LR (.ref s.heap.objs.size) (.ref r) (.ref s.heap.objs.size)) _ _ _;have hS:(s.heap.push { cls:=.type "list",data:=.seq ([]:Jj Jm).toArray }).get? s.heap.objs.size=ba { cls:=.type "list",data:=.seq #[] 0 }:=JF _ rfl;have fin':∀s',(∃h' tk acc c',s'={ s with heap:=h',toks:=tk }/\(∀b o,s.heap.get? b=ba o->h'.get? b=ba o)/\h'.get? s.heap.objs.size=ba { cls:=.type "list",dict:=gV,data:=.seq acc c',slots:=#[] }/\OB (λi v=>∃t,v=.int (a+i*c) t) acc n)->wpAny (model prog w) A (do
   let o <- load s.heap.objs.size
   match o.data with
   | .seq xs _=>pure xs.toList
   | _=>unsupported "internal:collect") Q E s':=by
  rintro s' ⟨h',tk,acc,c',rfl,hk,hS',hacc⟩;exact Jk (PR hS' (Jt (hQ h' tk acc hk (M4 (JM hS')) hacc)))
 show Ll (wpAny_extend_range (A:=A) (s:={ s with heap:=s.heap.push { cls:=.type "list",data:=.seq ([]:Jj Jm).toArray } }) (R:=λr s'=>r=.ok (.ret (.ref s.heap.objs.size))/\∃h' tk acc c',s'={ s with heap:=h',toks:=tk }/\(∀b o,s.heap.get? b=ba o->h'.get? b=ba o)/\h'.get? s.heap.objs.size=ba { cls:=.type "list",dict:=gV,data:=.seq acc c',slots:=#[] }/\OB (λi v=>∃t,v=.int (a+i*c) t) acc n) hh (Jn _ hr) hsmall hn hlen _ _ 0 hS λh' tk acc' c' hk hS' hacc=>#[rfl,h',tk,acc',c',rfl,λb o e=>hk b o (JX (JM e)) (Jn _ e),hS',hacc]) (λfin s' h=>?_) (λe s' h=>?_)
 ·cases fin with
  | done f=>
   obtain⟨e,h⟩:=h;cases e;exact fin' s' h
  | again c'=>exact#[h.1,M5 h.2 λr s'' hr=>by obtain⟨rfl,hr⟩:=hr; exact fin' s'' hr]
 ·exact absurd h.1 (by simp)
def jg {Q₁:Jm->Jp->Prop}{r:Ju}{a b c:JG}{t u v:SL}{n:Jr}(hh:A.handled=gV)(hr:SI s.heap r a b c t u v)(hsmall:NE a b c=true)
  (hn:Lm a b c=n) (hlen:n<=2 ^ 24)
  (h:∀(h':Kn) (tk:Jr) (acc:Ki Jm),(∀b o,s.heap.get? b=ba o->h'.get? b=ba o)->s.heap.objs.size<=h'.objs.size->OB (λi v=>∃t,v=.int (a+i*c) t) acc n->Q₁ (.ref h'.objs.size) { s with heap:=h'.push { cls:=.type "tuple",data:=.seq acc },toks:=tk }) :
  codeAny (model prog w) A (.call (.builtin "tuple.__new__") #[[.type "tuple",.ref r],[]]) (wants Q₁ E) s:=by
 show ON ?_;change wpAny _ A.in1 (do checkBuiltinCall "tuple.__new__" #[[.type "tuple",.ref r],[]]; again (.builtin "tuple.__new__" #[[.type "tuple",.ref r],[]])) _ _ s
 show Jk (N8 (F.newCall_tuple_1 _) (Jt #[LW F.plain_tuple_new _,KO F.entry_tuple_new ?_]));rw[KG F.plain_tuple_new _];have hsub:=PySem.sub_tuple_self;have hinit:=PySem.init_tuple_lookup;have hmh:=PySem.madeHere_tuple;have hTI:s.TypeIs (.ref r) "range":=#[_,hr,rfl];have hh1:A.in1.handled=gV:=by simp[hh]
 wp_walk using NH hTI,lx (A:=A.in1) hh1 hr hsmall hn hlen
 intro h' tk acc hk hle hacc;change wpAny _ _ (Lg acc.toList.toArray >>= λv=>ret v) _ _ _
 unfold Lg;show Jk (Ku ?_ (by change acc.toList.toArray.size<=sizeLine; simp only[Array.toArray_toList]; rw[hacc.1,Kq]; omega))
 show Jt ?_;have e:acc.toList.toArray=acc:=by simp
 rw[e];exact h h' tk acc hk hle hacc
def jh {Q:Jm->Jp->Prop}{r:Ju}{a b c:JG}{t u v:SL}{n:Jr}(hh:A.handled=gV)(hr:SI s.heap r a b c t u v)(hsmall:NE a b c=true)
  (hn:Lm a b c=n) (hlen:n<=2 ^ 24)
  (hQ:∀(h':Kn) (tk:Jr) (acc:Ki Jm),(∀b o,s.heap.get? b=ba o->h'.get? b=ba o)->s.heap.objs.size<=h'.objs.size->OB (λi v=>∃t,v=.int (a+i*c) t) acc n->Q (.ref h'.objs.size) { s with heap:=h'.push { cls:=.type "tuple",data:=.seq acc },toks:=tk }) :
  wpAny (model prog w) A (call (.type "tuple") [.ref r]) Q E s:=by
 show callType_codes (Q₁:=λobj s₁=>s₁.TypeIs obj "tuple"/\Q obj s₁) F.called_tuple (F.typeCall_tuple_1 _) F.entry_object_init
  (jg (by simp[hh]) hr hsmall hn hlen λh' tk acc hk hle hacc=>#[#[_,JF _ rfl,rfl],hQ h' tk acc hk hle hacc]) λobj s₁ h₁=>?_
 exact#[h₁.1,F.args_object_init_2 obj _,object_init_meets F.called_tuple.init.lookup F.called_tuple.made #v[] prog w A.in1 _ s₁ #[h₁.1,rfl,h₁.2]]
end
section
variable{X:Cx}{J:Jj (Ju×La)}{Y:L2.St}{H:Hp}{s:Jp}{A:Jj Ju}{S:aa}
def nG (hh:X.A.handled=gV):LCall X (.type "tuple") kA:=by
 intro J s Y H A S xs vs us w S' I so rl rv e;unfold kA at e;split at e
 ·rename_i i;split at e
  ·rename_i lo hi hr;split at e
   ·rename_i hb;cases e;obtain⟨a,ea,rfl⟩:=jO (xs:=[]) rl rv;obtain⟨b1,b2,b3,b4,b5⟩:=hb;have hH:H a=ba (.rng lo hi):=by
     unfold Ak at hr;split at hr
     ·rename_i hx; cases hr; exact so.obj i _ a hx ea
     ·cases hr
    obtain⟨t,u,v,ho⟩:=I.hok a _ hH;have hn:Lm lo hi 1=((hi - lo).toNat:Jr):=by rw[Py]; split <;> omega
    show jh hh ho (RS b1 b2 b3 b4) hn b5 λh' tk acc hk hle hacc=>?_
    have hv:Vals ((Kb (hi - lo).toNat).map λ(k:Jr)=>V.int (lo+(k:JG))) acc.toList:=by
     show nu (by rw[Jl,KU,JQ,hacc.1]) λi v u e1 e2=>?_
     rw[Jv,Jo]at e1;obtain⟨k,e1,rfl⟩:=e1;obtain⟨hk,rfl⟩:=JK.mp e1;obtain⟨t,rfl⟩:=hacc.2 i u (by rw[<- KJ]; exact e2)
     exact#[t,by simp]
    have hnn:H h'.objs.size=gV:=I.hok.fresh hle;show#[.ref h'.objs.size,_,A,I.laid (a:=h'.objs.size) (o:=.tup ((Kb (hi - lo).toNat).map λ(k:Jr)=>V.int (lo+(k:JG)))) (t':=tk) (λb o e=>Jn _ (hk b o e)) hle #[#[by simpa using b5,NoD.new _ _ _],acc.toList,hv,?_],rfl,bN (.inl hnn),so.lay hnn,.tup (.inl (.inl aI)) (nv _)]
    exact#[_,JF _ rfl,rfl,0,by simp]
   ·cases e
  ·exact jy J s Y H A S _ vs us w S' I so rl rv e
 ·exact jy J s Y H A S _ vs us w S' I so rl rv e
def uN (hh:X.A.handled=gV)(hu:X.A.units+12 < cLine):LCall X (.builtin "min") wI:=by
 intro J s Y H A S xs vs us w S' I so rl rv e;cases rl with
 | nil=>cases e
 | cons r t=>
  cases t with
  | cons _ _=>cases r <;> cases e
  | nil=>
   cases rv with
   | cons ru rv2=>
    cases rv2;cases r with
    | ref ea=>
     dsimp only[wI]at e;split at e
     ·rename_i ws hw;split at e
      ·rename_i ks hk;split at e
       ·rename_i hc;rw[Jo]at e;obtain⟨w',e1,e2⟩:=e;cases e2;obtain⟨vs',h1,r1⟩:=aU so hw ea;obtain⟨its,rv1,p,hz⟩:=I.list h1;obtain rfl:_=Km _:=ru;have hws:T.ws ks=ws:=W.ts_w hk;have hT:IsTs s.heap ks its:=gy I ks (hws ▸ r1) rv1;have hl:its.length=ks.length:=hT.length.symm;have hlw:ws.length=ks.length:=by rw[r1.length,L2.Vals.length rv1,hl]
        have hn:0 < ks.length:=by
         have:=(JK.mp e1).1;omega
        show wx (items:=its.toArray) (bt:=lT ks) hh p.isList (by simpa [hl]using hn) (λi j vi vj s' Q E hk' hi hj hq=>?_) λv h' tk hv hk'=>?_
        ·have hi':i < ks.length:=by
          have:=(Lv.mp hi).1
          simpa [hl]using this
         have hj':j < ks.length:=by
          have:=(Lv.mp hj).1
          simpa [hl]using this
         have g:=hT.kept (h':=s'.heap) λb o _ e=>hk' b o e
         have e1:vi=its[i]'∅:=by
          have:=(Lv.mp hi).2
          simpa using this.symm
         have e2:vj=its[j]'∅:=by
          have:=(Lv.mp hj).2
          simpa using this.symm
         subst e1 e2;have b1:=dP (ks:=ks) i hi';have b2:=dP (ks:=ks) j hj';exact Dr dv _ _ _ _ X.A.in1 s' _ ∅ ∅ (g.get i hi' ∅) (g.get j hj' ∅) (by rw[aY]; unfold dv; omega) (dQ hc.2 hi' hj') X.prog X.w _ _ hq
        ·have hv':its[je ks]?=ba v:=by
          have:its.toArray.size=ks.length:=by simpa using hl
          rw[this]at hv
          simpa [je]using hv
         obtain⟨v',q1,q2⟩:=r1.get e1;obtain⟨u',q3,q4⟩:=L2.Vals.get rv1 q1;rw[hv']at q3;cases q3;exact#[v',H,A,I.kept hk',q4,.refl,so,q2]
       ·cases e
      ·cases e
     ·cases e
    | _=>cases e
def lY:∀ {ws:Jj W} {bs:Jj J1},eZ ws=ba bs->ws=bs.map W.bl
 | [],bs,h=>by cases h; rfl
 | .bl b::ws,bs,h=>by
  (dsimp only[eZ]at h; simp only[Jo]at h)
  obtain⟨r,h1,h2⟩:=h;subst h2;rw[lY h1]; rfl
 | .non::_,_,h|.int _::_,_,h|.str _::_,_,h|.tup _::_,_,h|.ref _::_,_,h=>by cases h
def qY {bs:Jj J1}{vs:Jj V}{us:Jj Jm}(r:RelL X.K A H (bs.map W.bl) vs)(rv:Vals vs us):us=bs.map Le:=by
 induction bs generalizing vs us with
 | nil=>cases r; cases rv; rfl
 | cons b bs ih=>
  cases r with
  | cons r1 r2=>
   cases rv with
   | cons v1 v2=>
    cases r1;obtain rfl:_=Le b:=v1;rw[ih r2 v2]; rfl
def uO (bs:Jj J1):(Kb bs.length).all (λi=>bs.getD i false)=bs.all id:=by
 induction bs with
 | nil=>rfl
 | cons b bs ih=>simp[Oy,Qm,Qs]at ih ⊢; rw[ih]
def Dv {id:KY}{fb:Jj J1->J1}{g:Jj W->aa->Jq (W×aa)}(hg:∀xs S,g xs S=match xs with|[.ref i]=>(match eW S i with|some ws=>(eZ ws).map λbs=>(.bl (fb bs),S)|none=>gV)|_=>gV)
  (hcall:∀ {s:Jp} {x:Jm} {Q:Jm->Jp->Prop} {E:Jm->Jp->Prop} {bs:Jj J1},wpAny (model X.prog X.w) X.A.in1 (pyIter x) (λit s₂=>∃I fp wr P St,it=.ref I/\SY X.prog X.w X.A.in1 I fp wr bs.length P St/\St 0 s₂.heap/\TruthOf X.prog X.w X.A.in1 P (λi=>bs.getD i false)/\
   ∀h' tk,(∀b o,b∉wr->s₂.heap.get? b=ba o->h'.get? b=ba o)->Q (.bool (fb bs)) { s₂ with heap:=h',toks:=tk }) E s->wpAny (model X.prog X.w) X.A (call (.builtin id) [x]) Q E s)
  (hh:X.A.handled=gV):LCall X (.builtin id) g:=by
 intro J s Y H A S xs vs us w S' I so rl rv e;rw[hg]at e;cases rl with
 | nil=>cases e
 | cons r t=>
  cases t with
  | cons _ _=>cases r <;> cases e
  | nil=>
   cases rv with
   | cons ru rv2=>
    cases rv2;cases r with
    | @ref ri ad ea=>
     simp only at e;split at e
     ·rename_i ws hw;rw[Jo]at e;obtain⟨bs,e1,e2⟩:=e;cases e2;obtain⟨vs',h1,r1⟩:=aU so hw ea;obtain⟨its,rv1,p,hz⟩:=I.list h1;obtain rfl:_=Km _:=ru;rw[lY e1]at r1;have hits:=qY r1 rv1;show hcall (bs:=bs) ?_;show Mz p.isList ?_;have hlt:ad < s.heap.objs.size:=by obtain⟨_,ho,_⟩:=p.isList; exact JM ho
      have W:=Rq (prog:=X.prog) (w:=X.w) (A:=X.A.in1) hh s.heap.objs.size ad (JX hlt) its.toArray;have hsz:its.toArray.size=bs.length:=by rw[JJ,hits,Jl]
      rw[hsz]at W;show#[_,_,_,_,_,rfl,W,#[#[_,JF _ rfl,rfl,rfl],?_],λi v s' Q E hi hq=>?_,λh' tk hk=>?_]
      ·obtain⟨o,ho,hc⟩:=p.isList;exact#[o,Jn _ ho,hc]
      ·have hb:bs[i]?.map Le=ba v:=by rw[<- Jv,<- hits]; simpa using hi
       cases q:bs[i]? with
       | none=>rw[q]at hb; cases hb
       | some b=>
        rw[q]at hb;cases hb;have eb:bs.getD i false=b:=by simp[q]
        have hq:Q (bs.getD i false) s':=hq;rw[eb]at hq;exact K8 hq
      ·show#[.bl (fb bs),H,A,I.kept (λb o e=>hk b o (λz=>?_) (Jn _ e)),rfl,.refl,so,.bl]
       have hb:=JM e;rw[JH.mp z]at hb;exact K4 _ hb
     ·cases e
    | _=>cases e
def uP (hh:X.A.handled=gV):LCall X (.builtin "all") Ap:=
 Dv (fb:=λbs=>bs.all id) (λxs S=>rfl) (λ{s x Q E bs} h=>call_all_walk (Ll h (λit s₂ #[I,fp,wr,P,St',a,b,c,d,f]=>#[I,fp,wr,_,P,St',_,a,b,c,d,λh' tk hk=>by rw[uO]; exact f h' tk hk]) λ_ _ e=>e)) hh
end
noncomputable abbrev FA:=Fm->aa->Jq (Jj W×aa)
noncomputable abbrev FT:=Fm->aa->Jq (J1×aa)
inductive Out where
 | nx (Z:Fm)|rt (w:W)|bk (Z:Fm)|ct (Z:Fm)
noncomputable abbrev FS:=Fm->aa->Jq (Out×aa)
section
variable (X:Cx)
inductive tE (f:FE)(Y:L2.St)(H:Hp)(Q:VK):Prop
 | mk (A:Jj Ju) (Z:Fm) (S:aa) (w:W) (S':aa) (er:EnvRel X.K A H Z Y) (so:StoreOk X.w X.K A H S) (e:f Z S=ba (w,S')) (q:∀v H',EndV X.w X.K A H S' w v H'->Q v H'):tE f Y H Q
abbrev EndB (A:Jj Ju)(H:Hp)(S':aa)(k:J1):J1->Hp->Prop:=λb H'=>b=k/\∃A',Ext X.K A H A' H'/\StoreOk X.w X.K A' H' S'
inductive tT (f:FT)(Y:L2.St)(H:Hp)(Q:J1->Hp->Prop):Prop
 | mk (A:Jj Ju) (Z:Fm) (S:aa) (k:J1) (S':aa) (er:EnvRel X.K A H Z Y) (so:StoreOk X.w X.K A H S) (e:f Z S=ba (k,S')) (q:∀b H',EndB X A H S' k b H'->Q b H'):tT f Y H Q
inductive EndA (A:Jj Ju)(H:Hp)(S':aa)(ws:Jj W)(vs:Jj V)(H':Hp):Prop
 | mk (A':Jj Ju) (e:Ext X.K A H A' H') (so:StoreOk X.w X.K A' H' S') (r:RelL X.K A' H' ws vs):EndA A H S' ws vs H'
inductive tA (f:FA)(Y:L2.St)(H:Hp)(Q:Jj V->Hp->Prop):Prop
 | mk (A:Jj Ju) (Z:Fm) (S:aa) (ws:Jj W) (S':aa) (er:EnvRel X.K A H Z Y) (so:StoreOk X.w X.K A H S) (e:f Z S=ba (ws,S')) (q:∀vs H',EndA X A H S' ws vs H'->Q vs H'):tA f Y H Q
inductive EndF (A:Jj Ju)(H:Hp)(o:Out)(S':aa)(c:Fm->Out)(Y':L2.St)(H':Hp):Prop
 | mk (Z':Fm) (A':Jj Ju) (eo:o=c Z') (e:Ext X.K A H A' H') (so:StoreOk X.w X.K A' H' S') (er:EnvRel X.K A' H' Z' Y'):EndF A H o S' c Y' H'
inductive EndR (A:Jj Ju)(H:Hp)(o:Out)(S':aa)(v:V)(H':Hp):Prop
 | mk (w:W) (A':Jj Ju) (eo:o=.rt w) (e:Ext X.K A H A' H') (so:StoreOk X.w X.K A' H' S') (r:Rel X.K A' H' w v):EndR A H o S' v H'
abbrev EndS (A:Jj Ju)(H:Hp)(o:Out)(S':aa):Ends where
 nx:=EndF X A H o S' .nx
 rt:=EndR X A H o S'
 bk:=EndF X A H o S' .bk
 ct:=EndF X A H o S' .ct
structure Imp (E D:Ends):Prop where
 nx:∀Y H,E.nx Y H->D.nx Y H
 rt:∀v H,E.rt v H->D.rt v H
 bk:∀Y H,E.bk Y H->D.bk Y H
 ct:∀Y H,E.ct Y H->D.ct Y H
inductive tS (f:FS)(D:Ends)(Y:L2.St)(H:Hp):Prop
 | mk (A:Jj Ju) (Z:Fm) (S:aa) (o:Out) (S':aa) (er:EnvRel X.K A H Z Y) (so:StoreOk X.w X.K A H S) (e:f Z S=ba (o,S')) (d:Imp (EndS X A H o S') D):tS f D Y H
noncomputable abbrev GE (e:JR)(f:FE):Prop:=PE X e (tE X f)
noncomputable abbrev GT (e:JR)(f:FT):Prop:=PT X e (tT X f)
noncomputable abbrev GW (e:JR)(f:FT):Prop:=PW X e (tT X f)
noncomputable abbrev GA (es:Jj JR)(f:FA):Prop:=PA X es (tA X f)
noncomputable abbrev GS (st:Mb)(f:FS):Prop:=PS X st (tS X f)
noncomputable abbrev GSs (sts:Jj Mb)(f:FS):Prop:=PSs X sts (tS X f)
end
def Imp.trans {E D F:Ends}(a:Imp E D)(b:Imp D F):Imp E F:=#[λ_ _ h=>b.nx _ _ (a.nx _ _ h),λ_ _ h=>b.rt _ _ (a.rt _ _ h),λ_ _ h=>b.bk _ _ (a.bk _ _ h),λ_ _ h=>b.ct _ _ (a.ct _ _ h)]
section
variable{X:Cx}
def GE.of {e:JR}{t:TE}{f:FE}(h:PE X e t)(hf:∀(Y:L2.St) (H:Hp) (A:Jj Ju) (Z:Fm) (S:aa) (w:W) (S':aa),EnvRel X.K A H Z Y->StoreOk X.w X.K A H S->f Z S=ba (w,S')->∀Q:VK,(∀v H',EndV X.w X.K A H S' w v H'->Q v H')->t Y H Q):GE X e f:=
 λJ s Y H Q I #[A,Z,S,w,S',er,so,e1,hq]=>h J s Y H Q I (hf Y H A Z S w S' er so e1 Q hq)
def GT.of {e:JR}{t:TT}{f:FT}(h:PT X e t)(hf:∀(Y:L2.St) (H:Hp) (A:Jj Ju) (Z:Fm) (S:aa) (k:J1) (S':aa),EnvRel X.K A H Z Y->StoreOk X.w X.K A H S->f Z S=ba (k,S')->∀Q:J1->Hp->Prop,(∀b H',EndB X A H S' k b H'->Q b H')->t Y H Q):GT X e f:=
 λJ s Y H Q I #[A,Z,S,w,S',er,so,e1,hq]=>h J s Y H Q I (hf Y H A Z S w S' er so e1 Q hq)
def GW.of {e:JR}{t:TT}{f:FT}(h:PW X e t)(hf:∀(Y:L2.St) (H:Hp) (A:Jj Ju) (Z:Fm) (S:aa) (k:J1) (S':aa),EnvRel X.K A H Z Y->StoreOk X.w X.K A H S->f Z S=ba (k,S')->∀Q:J1->Hp->Prop,(∀b H',EndB X A H S' k b H'->Q b H')->t Y H Q):GW X e f:=
 λwh J s Y H Q I #[A,Z,S,w,S',er,so,e1,hq]=>h wh J s Y H Q I (hf Y H A Z S w S' er so e1 Q hq)
def GA.of {es:Jj JR}{t:TA}{f:FA}(h:PA X es t)(hf:∀(Y:L2.St) (H:Hp) (A:Jj Ju) (Z:Fm) (S:aa) (ws:Jj W) (S':aa),EnvRel X.K A H Z Y->StoreOk X.w X.K A H S->f Z S=ba (ws,S')->∀Q:Jj V->Hp->Prop,(∀vs H',EndA X A H S' ws vs H'->Q vs H')->t Y H Q):GA X es f:=
 λpos J s Y H Q I #[A,Z,S,w,S',er,so,e1,hq]=>h pos J s Y H Q I (hf Y H A Z S w S' er so e1 Q hq)
def GS.of {st:Mb}{t:TS}{f:FS}(h:PS X st t)(hf:∀(Y:L2.St) (H:Hp) (A:Jj Ju) (Z:Fm) (S:aa) (o:Out) (S':aa),EnvRel X.K A H Z Y->StoreOk X.w X.K A H S->f Z S=ba (o,S')->∀D:Ends,Imp (EndS X A H o S') D->t D Y H):GS X st f:=
 λJ s Y H D I #[A,Z,S,o,S',er,so,e1,hq]=>h J s Y H D I (hf Y H A Z S o S' er so e1 D hq)
def GSs.of {st:Jj Mb}{t:TS}{f:FS}(h:PSs X st t)(hf:∀(Y:L2.St) (H:Hp) (A:Jj Ju) (Z:Fm) (S:aa) (o:Out) (S':aa),EnvRel X.K A H Z Y->StoreOk X.w X.K A H S->f Z S=ba (o,S')->∀D:Ends,Imp (EndS X A H o S') D->t D Y H):GSs X st f:=
 λJ s Y H D I #[A,Z,S,o,S',er,so,e1,hq]=>h J s Y H D I (hf Y H A Z S o S' er so e1 D hq)
def EndV.after {A A1:Jj Ju}{H H1:Hp}{S':aa}{w:W}{v:V}{H':Hp}(e:Ext X.K A H A1 H1)(h:EndV X.w X.K A1 H1 S' w v H'):EndV X.w X.K A H S' w v H':=by
 obtain⟨A',x,y,z⟩:=h;exact#[A',e.trans x,y,z]
def EndB.after {A A1:Jj Ju}{H H1:Hp}{S':aa}{k b:J1}{H':Hp}(e:Ext X.K A H A1 H1)(h:EndB X A1 H1 S' k b H'):EndB X A H S' k b H':=by
 obtain⟨h1,A',x,y⟩:=h;exact#[h1,A',e.trans x,y]
def EndS.after {A A1:Jj Ju}{H H1:Hp}{S':aa}{o:Out}(e:Ext X.K A H A1 H1):Imp (EndS X A1 H1 o S') (EndS X A H o S'):=
 #[λ_ _ #[Z',A',a,b,c,d]=>#[Z',A',a,e.trans b,c,d],λ_ _ #[Z',A',a,b,c,d]=>#[Z',A',a,e.trans b,c,d],λ_ _ #[Z',A',a,b,c,d]=>#[Z',A',a,e.trans b,c,d],λ_ _ #[Z',A',a,b,c,d]=>#[Z',A',a,e.trans b,c,d]]
abbrev fC (w:W):FE:=λ_ S=>ba (w,S)
abbrev fV (i:Jr):FE:=λZ S=>match Z[i]? with
 | some (ba w)=>ba (w,S)
 | _=>gV
def nH {e:JR}{v:V}{w:W}(h:PE X e (tC v))(r:∀A H,Rel X.K A H w v):GE X e (fC w):=
 GE.of h λY H A Z S w' S' er so e Q hq=>by cases e; exact hq _ _ (.here so (r A H))
def HX {i:Jr}{e:JR}(h:PE X e (CG i)):GE X e (fV i):=GE.of h λY H A Z S w S' er so e Q hq=>by
 unfold fV at e;split at e
 ·rename_i w' hw;cases e;obtain⟨v,h1,h2⟩:=er.2 i _ hw;exact#[v,h1,hq _ _ (.here so h2)]
 ·cases e
abbrev Ar (g:W->W->aa->Jq (W×aa))(fa fb:FE):FE:=λZ S=>match fa Z S with
 | some (x,S1)=>match fb Z S1 with
  | some (y,S2)=>g x y S2
  | none=>gV
 | none=>gV
def two {fa fb:FE}{g:W->W->aa->Jq (W×aa)}{Z:Fm}{S:aa}{r:W×aa}(e:Ar g fa fb Z S=ba r):∃x S1 y S2,fa Z S=ba (x,S1)/\fb Z S1=ba (y,S2)/\g x y S2=ba r:=by
 unfold Ar at e;split at e
 ·rename_i x S1 h1;split at e
  ·rename_i y S2 h2;exact#[x,S1,y,S2,h1,h2,e]
  ·cases e
 ·cases e
def fT {fa fb:FE}{Z:Fm}{S S1 S2:aa}{x y:W}{Y:L2.St}{H:Hp}{A:Jj Ju}{R:V->V->Hp->Prop}(er:EnvRel X.K A H Z Y)(so:StoreOk X.w X.K A H S)(h1:fa Z S=ba (x,S1))(h2:fb Z S1=ba (y,S2))
  (h:∀a b H2 A2,Ext X.K A H A2 H2->StoreOk X.w X.K A2 H2 S2->Rel X.K A2 H2 x a->Rel X.K A2 H2 y b->R a b H2):tE X fa Y H λa H1=>tE X fb Y H1 λb H2=>R a b H2:=by
 show#[A,Z,S,x,S1,er,so,h1,λa H1 #[A1,e1,o1,r1]=>?_]
 show#[A1,Z,S1,y,S2,er.mono e1,o1,h2,λb H2 #[A2,e2,o2,r2]=>?_]
 exact h a b H2 A2 (e1.trans e2) o2 (r1.mono e2) r2
inductive rOp (X:Cx)(g:W->W->aa->Jq (W×aa))(a b:V)(H:Hp)(Q:VK):Prop
 | mk (A:Jj Ju) (S:aa) (x y w:W) (S':aa) (so:StoreOk X.w X.K A H S) (rx:Rel X.K A H x a) (ry:Rel X.K A H y b) (e:g x y S=ba (w,S')) (q:∀v H',EndV X.w X.K A H S' w v H'->Q v H'):rOp X g a b H Q
inductive rCall (X:Cx)(g:Jj W->aa->Jq (W×aa))(vs:Jj V)(H:Hp)(Q:VK):Prop
 | mk (A:Jj Ju) (S:aa) (ws:Jj W) (w:W) (S':aa) (so:StoreOk X.w X.K A H S) (rl:RelL X.K A H ws vs) (e:g ws S=ba (w,S')) (q:∀v H',EndV X.w X.K A H S' w v H'->Q v H'):rCall X g vs H Q
def LOp.opr {f:Jm->Jm->R3 Jm}{g:W->W->aa->Jq (W×aa)}(h:LOp X f g):OpR X f (rOp X g):=by
 intro J s Y H a b u v Q I ru rv ⟨A,S,x,y,w,S',so,rx,ry,e,hq⟩;exact a7 (h J s Y H A S x y a b u v w S' I so rx ru ry rv e) λu' s' #[v',H',A',I',r',e1,o1,z1]=>#[v',H',I',r',hq v' H' #[A',e1,o1,z1]]
def B4 {a b:JR}{op:Qc}{pos:LN}{fa fb:FE}{g:W->W->aa->Jq (W×aa)}(ho:LOp X (binaryOp op) g)(ha:GE X a fa)(hb:GE X b fb):GE X (.BinOp a op b pos) (Ar g fa fb):=
 GE.of (Fk ho.opr ha hb) λY H A Z S w S' er so e Q hq=>by
  obtain⟨x,S1,y,S2,h1,h2,h3⟩:=two e;exact fT er so h1 h2 λa b H2 A2 e2 o2 r1 r2=>#[A2,S2,x,y,w,S',o2,r1,r2,h3,λv H' z=>hq v H' (z.after e2)]
abbrev wM (fa:FE):FE:=λZ S=>match fa Z S with
 | some (.int i,S1)=>ba (.int (-i),S1)
 | _=>gV
def wQ {a:JR}{pos:LN}{fa:FE}(ha:GE X a fa):GE X (.UnaryOp .USub a pos) (wM fa):=
 GE.of (Fn C9 ha) λY H A Z S w S' er so e Q hq=>by
  unfold wM at e;split at e
  ·rename_i i S1 h1;cases e;show#[A,Z,S,_,_,er,so,h1,λv H1 #[A1,e1,o1,r1]=>?_]
   cases r1;exact#[_,rfl,hq _ _ #[A1,e1,o1,.int]]
  ·cases e
abbrev As (o:COp)(fa fb:FE):FE:=Ar (bO o) fa fb
def Dw {a b:JR}{o:COp}{pos:LN}{fa fb:FE}(hu:X.A.units+eX < cLine)(ha:GE X a fa)(hb:GE X b fb)(hm:behindInMarks o.py b=false):GE X (.Compare a [o.py] [b] pos) (As o fa fb):=
 GE.of (zK (o7 hu o).opr ha hb hm) λY H A Z S w S' er so e Q hq=>by
  obtain⟨x,S1,y,S2,h1,h2,h3⟩:=two e;exact fT er so h1 h2 λa b H2 A2 e2 o2 r1 r2=>#[A2,S2,x,y,w,S',o2,r1,r2,h3,λv H' z=>hq v H' (z.after e2)]
abbrev pg (f:FE):FT:=λZ S=>match f Z S with
 | some (.bl k,S')=>ba (k,S')
 | _=>gV
def Dx {a b:JR}{o:COp}{pos:LN}{fa fb:FE}(hu:X.A.units+eX < cLine)(ha:GE X a fa)(hb:GE X b fb)(hm:behindInMarks o.py b=false):GT X (.Compare a [o.py] [b] pos) (pg (As o fa fb)):=
 GT.of (zL (o7 hu o).opr ha hb hm) λY H A Z S k S' er so e Q hq=>by
  unfold pg at e;split at e
  ·rename_i k' S'' h0;cases e;obtain⟨x,S1,y,S2,h1,h2,h3⟩:=two h0;show fT er so h1 h2 λa b H2 A2 e2 o2 r1 r2=>#[A2,S2,x,y,_,_,o2,r1,r2,h3,λv H' #[A',z1,z2,z3]=>?_]
   cases z3;exact#[k,rfl,hq _ _ #[rfl,A',e2.trans z1,z2]]
  ·cases e
abbrev fU (o o':COp)(fa fb fc:FE):FE:=λZ S=>match fa Z S with
 | some (x,S1)=>match fb Z S1 with
  | some (y,S2)=>match oP o x y S2 with
   | some true=>match fc Z S2 with
    | some (z,S3)=>cw o' y z S3
    | none=>gV
   | some false=>ba (.bl false,S2)
   | none=>gV
  | none=>gV
 | none=>gV
def kB {o o':COp}{fa fb fc:FE}{Y:L2.St}{H:Hp}{A:Jj Ju}{Z:Fm}{S:aa}{w:W}{S':aa}(er:EnvRel X.K A H Z Y)(so:StoreOk X.w X.K A H S)(e:fU o o' fa fb fc Z S=ba (w,S'))(Q:VK)(hq:∀v H',EndV X.w X.K A H S' w v H'->Q v H') :
  qG (rOp X (cw o))
   (rOp X (cw o')) (tE X fa) (tE X fb) (tE X fc) Y H Q:=by
 unfold fU at e;split at e
 ·rename_i x S1 h1;split at e
  ·rename_i y S2 h2;show fT er so h1 h2 λa b H2 A2 e2 o2 r1 r2=>?_
   split at e
   ·rename_i hc;split at e
    ·rename_i z S3 h3;show#[A2,S2,x,y,.bl true,S2,o2,r1,r2,by simp[cw,hc],λv H3 #[A3,z1,z2,z3]=>?_]
     cases z3;show#[true,rfl,?_];rw[JO rfl];show#[A3,Z,S2,z,S3,er.mono (e2.trans z1),z2,h3,λc H4 #[A4,y1,y2,y3]=>?_]
     exact#[A4,S3,y,z,w,S',y2,(r2.mono z1).mono y1,y3,e,λv H' q=>hq v H' (q.after ((e2.trans z1).trans y1))]
    ·cases e
   ·rename_i hc;cases e;show#[A2,S',x,y,.bl false,S',o2,r1,r2,by simp[cw,hc],λv H3 #[A3,z1,z2,z3]=>?_]
    cases z3;show#[false,rfl,?_];rw[JZ JP];exact hq _ _ #[A3,e2.trans z1,z2,.bl]
   ·cases e
  ·cases e
 ·cases e
def wR {a b c:JR}{o o':COp}{pos:LN}{fa fb fc:FE}(hu:X.A.units+eX < cLine)(ha:GE X a fa)(hb:GE X b fb)(hc:GE X c fc)(hm:lastMarks [o.py,o'.py] [b,c]=false):GE X (.Compare a [o.py,o'.py] [b,c] pos) (fU o o' fa fb fc):=
 GE.of (vH (im hu o).opr (im hu o').opr ha hb hc hm) λY H A Z S w S' er so e Q hq=>kB er so e Q hq
def wW {a b c:JR}{o o':COp}{pos:LN}{fa fb fc:FE}(hu:X.A.units+eX < cLine)(ha:GE X a fa)(hb:GE X b fb)(hc:GE X c fc)(hm:lastMarks [o.py,o'.py] [b,c]=false):GT X (.Compare a [o.py,o'.py] [b,c] pos) (pg (fU o o' fa fb fc)):=
 GT.of (vI (im hu o).opr (im hu o').opr ha hb hc hm) λY H A Z S k S' er so e Q hq=>by
  unfold pg at e;split at e
  ·rename_i k' S'' h0;cases e;show kB er so h0 (λx H'=>∃k,x=.bl k/\Q k H') λv H' #[A',z1,z2,z3]=>?_
   cases z3;exact#[_,rfl,hq _ _ #[rfl,A',z1,z2]]
  ·cases e
abbrev fX (f:FE):FT:=λZ S=>match f Z S with
 | some (w,S')=>(cQ S' w).map λk=>(k,S')
 | none=>gV
def bJ {e:JR}{f:FE}(h:GE X e f)(he:∀whole,isTrue e X.env whole=(do let v <- whole; standAt e.pos; holding [v] (truthy v))):GT X e (fX f):=by
 intro J s Y H Q I ⟨A,Z,S,k,S',er,so,e1,hq⟩;unfold fX at e1;split at e1
 ·rename_i w S1 h1;rw[Jo]at e1;obtain⟨k',ek,e2⟩:=e1;cases e2;show isTrue_plain (a7 (h J s Y H (EndV X.w X.K A H _ w) I #[A,Z,S,w,_,er,so,h1,λ_ _ z=>z]) λv s1 #[x,H1,I1,r1,A1,e1,o1,z1]=>?_) (he _)
  exact HV I1 o1 z1 r1 ek λs' I'=>#[H1,I',hq _ _ #[rfl,A1,e1,o1]]
 ·cases e1
abbrev wX (f g:FT):FT:=λZ S=>match f Z S with
 | some (true,S1)=>g Z S1
 | some (false,S1)=>ba (false,S1)
 | none=>gV
abbrev FR (f g:FT):FT:=λZ S=>match f Z S with
 | some (true,S1)=>ba (true,S1)
 | some (false,S1)=>g Z S1
 | none=>gV
abbrev Au (f:FT):FT:=λZ S=>match f Z S with
 | some (k,S1)=>ba (!k,S1)
 | none=>gV
def wY {f g:FT}{Y:L2.St}{H:Hp}{A:Jj Ju}{Z:Fm}{S:aa}{k:J1}{S':aa}(er:EnvRel X.K A H Z Y)(so:StoreOk X.w X.K A H S)(e:wX f g Z S=ba (k,S'))(Q:J1->Hp->Prop)(hq:∀b H',EndB X A H S' k b H'->Q b H') :
  E6 (tT X f) (tT X g) Y H Q:=by
 unfold wX at e;split at e
 ·rename_i S1 h1;show#[A,Z,S,true,S1,er,so,h1,λb H1 #[z0,A1,z1,z2]=>?_]
  subst z0;rw[JO rfl];exact#[A1,Z,S1,k,S',er.mono z1,z2,e,λb H' q=>hq b H' (q.after z1)]
 ·rename_i S1 h1;cases e;show#[A,Z,S,false,_,er,so,h1,λb H1 #[z0,A1,z1,z2]=>?_]
  subst z0;rw[JZ JP];exact hq _ _ #[rfl,A1,z1,z2]
 ·cases e
def Av {f g:FT}{Y:L2.St}{H:Hp}{A:Jj Ju}{Z:Fm}{S:aa}{k:J1}{S':aa}(er:EnvRel X.K A H Z Y)(so:StoreOk X.w X.K A H S)(e:FR f g Z S=ba (k,S'))(Q:J1->Hp->Prop)(hq:∀b H',EndB X A H S' k b H'->Q b H') :
  IH (tT X f) (tT X g) Y H Q:=by
 unfold FR at e;split at e
 ·rename_i S1 h1;cases e;show#[A,Z,S,true,_,er,so,h1,λb H1 #[z0,A1,z1,z2]=>?_]
  subst z0;rw[JO rfl];exact hq _ _ #[rfl,A1,z1,z2]
 ·rename_i S1 h1;show#[A,Z,S,false,S1,er,so,h1,λb H1 #[z0,A1,z1,z2]=>?_]
  subst z0;rw[JZ JP];exact#[A1,Z,S1,k,S',er.mono z1,z2,e,λb H' q=>hq b H' (q.after z1)]
 ·cases e
def Aw {a:JR}{pos:LN}{f:FT}(h:GT X a f):GW X (.BoolOp .And [a] pos) f:=zA h
def Dy {a:JR}{pos:LN}{f:FT}(h:GT X a f):GW X (.BoolOp .Or [a] pos) f:=CH h
def Dz {a b:JR}{r:Jj JR}{pos:LN}{f g:FT}(h:GT X a f)(h2:GW X (.BoolOp .And (b::r) pos) g):GW X (.BoolOp .And (a::b::r) pos) (wX f g):=
 GW.of (CI h h2) λY H A Z S k S' er so e Q hq=>wY er so e Q hq
def FU {a b:JR}{r:Jj JR}{pos:LN}{f g:FT}(h:GT X a f)(h2:GW X (.BoolOp .Or (b::r) pos) g):GW X (.BoolOp .Or (a::b::r) pos) (FR f g):=
 GW.of (E7 h h2) λY H A Z S k S' er so e Q hq=>Av er so e Q hq
def DA {a:JR}{pos:LN}{f:FT}(h:GT X a f):GT X (.UnaryOp .Not a pos) (Au f):=
 GT.of (CJ h) λY H A Z S k S' er so e Q hq=>by
  unfold Au at e;split at e
  ·rename_i k1 S1 h1;cases e;show#[A,Z,S,k1,_,er,so,h1,λb H1 #[z0,A1,z1,z2]=>?_]
   subst z0;exact hq _ _ #[rfl,A1,z1,z2]
  ·cases e
abbrev sr (f g:FE):FE:=λZ S=>match f Z S with
 | some (.bl true,S1)=>g Z S1
 | some (.bl false,S1)=>ba (.bl false,S1)
 | _=>gV
abbrev Ax (f g:FE):FE:=λZ S=>match f Z S with
 | some (.bl true,S1)=>ba (.bl true,S1)
 | some (.bl false,S1)=>g Z S1
 | _=>gV
abbrev su (f:FE):FE:=λZ S=>match f Z S with
 | some (.bl k,S1)=>ba (.bl (!k),S1)
 | _=>gV
def DB {a:JR}{op:Sy}{pos:LN}{f:FE}(h:GE X a f):GE X (.BoolOp op [a] pos) f:=CK h
def DC {a b:JR}{r:Jj JR}{pos:LN}{f g:FE}(h:GE X a f)(h2:GE X (.BoolOp .And (b::r) pos) g):GE X (.BoolOp .And (a::b::r) pos) (sr f g):=
 GE.of (CL h h2) λY H A Z S w S' er so e Q hq=>by
  unfold sr at e;split at e
  ·rename_i S1 h1;show#[A,Z,S,_,S1,er,so,h1,λv H1 #[A1,z1,z2,z3]=>?_]
   cases z3;show#[true,rfl,?_];rw[JO rfl];exact#[A1,Z,S1,w,S',er.mono z1,z2,e,λb H' q=>hq b H' (q.after z1)]
  ·rename_i S1 h1;cases e;show#[A,Z,S,_,_,er,so,h1,λv H1 #[A1,z1,z2,z3]=>?_]
   cases z3;show#[false,rfl,?_];rw[JZ JP];exact hq _ _ #[A1,z1,z2,.bl]
  ·cases e
def FV {a b:JR}{r:Jj JR}{pos:LN}{f g:FE}(h:GE X a f)(h2:GE X (.BoolOp .Or (b::r) pos) g):GE X (.BoolOp .Or (a::b::r) pos) (Ax f g):=
 GE.of (Fa h h2) λY H A Z S w S' er so e Q hq=>by
  unfold Ax at e;split at e
  ·rename_i S1 h1;cases e;show#[A,Z,S,_,_,er,so,h1,λv H1 #[A1,z1,z2,z3]=>?_]
   cases z3;show#[true,rfl,?_];rw[JO rfl];exact hq _ _ #[A1,z1,z2,.bl]
  ·rename_i S1 h1;show#[A,Z,S,_,S1,er,so,h1,λv H1 #[A1,z1,z2,z3]=>?_]
   cases z3;show#[false,rfl,?_];rw[JZ JP];exact#[A1,Z,S1,w,S',er.mono z1,z2,e,λb H' q=>hq b H' (q.after z1)]
  ·cases e
def DD {a:JR}{pos:LN}{f:FE}(h:GE X a f):GE X (.UnaryOp .Not a pos) (su f):=
 GE.of (CM h) λY H A Z S w S' er so e Q hq=>by
  unfold su at e;split at e
  ·rename_i k1 S1 h1;cases e;show#[A,Z,S,_,_,er,so,h1,λb H1 #[A1,z1,z2,z3]=>?_]
   cases z3;exact#[_,rfl,hq _ _ #[A1,z1,z2,.bl]]
  ·cases e
abbrev eG:FA:=λ_ S=>ba ([],S)
abbrev bK (f:FE)(g:FA):FA:=λZ S=>match f Z S with
 | some (w,S1)=>match g Z S1 with
  | some (ws,S2)=>ba (w::ws,S2)
  | none=>gV
 | none=>gV
def w6:GA X [] eG:=GA.of vK λY H A Z S ws S' er so e Q hq=>by cases e; exact hq _ _ #[A,.refl,so,.nil]
def sv {e:JR}{es:Jj JR}{f:FE}{g:FA}(h:GE X e f)(h2:GA X es g)(hs:starEach (e::es) X.env=(false,eval e X.env)::starEach es X.env):GA X (e::es) (bK f g):=
 GA.of (mQ h h2 hs) λY H A Z S ws S' er so e Q hq=>by
  unfold bK at e;split at e
  ·rename_i w S1 h1;split at e
   ·rename_i ws2 S2 h2;cases e;show#[A,Z,S,w,S1,er,so,h1,λv H1 #[A1,z1,z2,z3]=>?_]
    show#[A1,Z,S1,ws2,_,er.mono z1,z2,h2,λvs H2 #[A2,y1,y2,y3]=>?_]
    exact hq _ _ #[A2,z1.trans y1,y2,.cons (z3.mono y1) y3]
   ·cases e
  ·cases e
abbrev w8 (f:FA):FE:=λZ S=>match f Z S with
 | some (ws,S1)=>qP S1 ws
 | none=>gV
abbrev w9 (f:FA):FE:=λZ S=>match f Z S with
 | some (ws,S1)=>j7 S1 ws
 | none=>gV
def xf {es:Jj JR}{k:Jr}{pos:LN}{f:FA}(h:GA X es f):GE X (.Tuple es k pos) (w8 f):=
 GE.of (Dc h) λY H A Z S w S' er so e Q hq=>by
  unfold w8 at e;split at e
  ·rename_i ws S1 h1;obtain⟨hl,rfl,rfl⟩:=rX e;show#[A,Z,S,ws,_,er,so,h1,λvs H1 #[A1,z1,z2,z3]=>#[by rw[<- z3.length]; exact hl,λp hp=>?_]]
   exact hq _ _ (EndV.after z1 (.tup z2 z3 hp))
  ·cases e
def xg {es:Jj JR}{pos:LN}{f:FA}(h:GA X es f):GE X (.List es pos) (w9 f):=
 GE.of (De h) λY H A Z S w S' er so e Q hq=>by
  unfold w9 at e;split at e
  ·rename_i ws S1 h1;obtain⟨hl,rfl,rfl⟩:=jN e;show#[A,Z,S,ws,_,er,so,h1,λvs H1 #[A1,z1,z2,z3]=>#[by rw[<- z3.length]; exact hl,λp hp=>?_]]
   exact hq _ _ (EndV.after z1 (.lst z2 z3 hp))
  ·cases e
abbrev jD (g:Jj W->aa->Jq (W×aa))(f:FA):FE:=λZ S=>match f Z S with
 | some (ws,S1)=>g ws S1
 | none=>gV
def LCall.callr {v:Jm}{g:Jj W->aa->Jq (W×aa)}(h:LCall X v g):CallR X v (rCall X g):=by
 intro J s Y H vs us Q I rv ⟨A,S,ws,w,S',so,rl,e,hq⟩;exact a7 (h J s Y H A S ws vs us w S' I so rl rv e) λu' s' #[v',H',A',I',r',e1,o1,z1]=>#[v',H',I',r',hq v' H' #[A',e1,o1,z1]]
def lZ {g:Jj W->aa->Jq (W×aa)}{f:FA}{Y:L2.St}{H:Hp}{A:Jj Ju}{Z:Fm}{S:aa}{w:W}{S':aa}(er:EnvRel X.K A H Z Y)(so:StoreOk X.w X.K A H S)(e:jD g f Z S=ba (w,S'))(Q:VK)(hq:∀v H',EndV X.w X.K A H S' w v H'->Q v H') :
  tA X f Y H λvs H1=>rCall X g vs H1 Q:=by
 unfold jD at e;split at e
 ·rename_i ws S1 h1;exact#[A,Z,S,ws,S1,er,so,h1,λvs H1 #[A1,z1,z2,z3]=>#[A1,S1,ws,w,S',z2,z3,e,λv H' q=>hq v H' (q.after z1)]]
 ·cases e
def ph {id:KY}{x:JA}{e:JR}{es:Jj JR}{p pos:LN}{f:FA}{g:Jj W->aa->Jq (W×aa)}(hc:LCall X (.builtin id) g)(hg:Gl X x)(hm:X.mg x=gV)(hv:bootBuiltins x=ba (.builtin id))(ha:GA X (e::es) f)
  (hn:x≠"__name__") (hdb:(x==("__debug__" : JA))=false) (hs:starEach (e::es) X.env=(false,eval e X.env)::starEach es X.env) (hpl:(backTo pos (starEach es X.env)).any (·.1)=false):GE X (.Call (.Name x p) (e::es) [] pos) (jD g f):=
 GE.of (oJ hc.callr hg hm hv ha hn hdb hs hpl) λY H A Z S w S' er so e Q hq=>lZ er so e Q hq
def po {id:KY}{x:JA}{e:JR}{es:Jj JR}{p pos:LN}{f:FA}{g:Jj W->aa->Jq (W×aa)}(hc:LCall X (.type id) g)(hg:Gl X x)(hm:X.mg x=gV)(hv:bootBuiltins x=ba (.type id))(ha:GA X (e::es) f)
  (hn:x≠"__name__") (hdb:(x==("__debug__" : JA))=false) (hs:starEach (e::es) X.env=(false,eval e X.env)::starEach es X.env) (hpl:(backTo pos (starEach es X.env)).any (·.1)=false):GE X (.Call (.Name x p) (e::es) [] pos) (jD g f):=
 GE.of (ud hc.callr hg hm hv ha hn hdb hs hpl) λY H A Z S w S' er so e Q hq=>lZ er so e Q hq
end
abbrev tyOk (T:KY)(S:aa):W->J1
 | .str _=>T == "str"
 | .tup _=>T == "tuple"
 | .ref i=>(T == "list" && (eW S i).isSome)||(T == "dict" && (jb S i).isSome)
 | _=>false
abbrev B5 (T:KY)(g:W->Jj W->aa->Jq (W×aa))(fo:FE)(f:FA):FE:=λZ S=>match fo Z S with
 | some (x,S1)=>if tyOk T S1 x then match f Z S1 with
  | some (ws,S2)=>g x ws S2
  | none=>gV
  else gV
 | none=>gV
abbrev HY (fa fb:FE):FE:=Ar oz fa fb
noncomputable abbrev FO:=Fm->aa->Jq (Jq JG×aa)
abbrev DE:FO:=λ_ S=>ba (gV,S)
abbrev sw (f:FE):FO:=λZ S=>match f Z S with
 | some (.int i,S1)=>ba (ba i,S1)
 | _=>gV
abbrev FW (fa:FE)(fl fh:FO):FE:=λZ S=>match fa Z S with
 | some (x,S1)=>match fl Z S1 with
  | some (lo,S2)=>match fh Z S2 with
   | some (hi,S3)=>lM x lo hi S3
   | none=>gV
  | none=>gV
 | none=>gV
section
variable{X:Cx}
inductive rMeth (X:Cx)(g:W->Jj W->aa->Jq (W×aa))(a:V)(vs:Jj V)(H:Hp)(Q:VK):Prop
 | mk (A:Jj Ju) (S:aa) (x:W) (ws:Jj W) (w:W) (S':aa) (so:StoreOk X.w X.K A H S) (rx:Rel X.K A H x a) (rl:RelL X.K A H ws vs) (e:g x ws S=ba (w,S')) (q:∀v H',EndV X.w X.K A H S' w v H'->Q v H'):rMeth X g a vs H Q
def DF {J:Jj (Ju×La)}{Y:L2.St}{s:Jp}{H:Hp}{a:Ju}{xs:Jj V}(I:Inv X J Y H s)(h:SqT X.K H a xs):s.TypeIs (.ref a) "tuple"/\∃o,s.heap.get? a=ba o/\o.dict=gV:=by
 rcases h with h|⟨o,its,n,hk,hc,hd,_⟩
 ·obtain⟨z,its,r,p⟩:=h.ok I.hok;exact#[p.typeIs,z.2]
 ·exact#[#[o,I.kIn a o hk,hc],o,I.kIn a o hk,hd]
def tyOk.is {J:Jj (Ju×La)}{Y:L2.St}{s:Jp}{A:Jj Ju}{H:Hp}{S:aa}{T:KY}{x:W}{a:V}{v:Jm}(I:Inv X J Y H s)(so:StoreOk X.w X.K A H S)(r:Rel X.K A H x a)(rv:RelV a v)(h:tyOk T S x=true) :
  s.TypeIs v T/\∀b,v=.ref b->∃ob,s.heap.get? b=ba ob/\ob.dict=gV:=by
 cases r with
 | str=>exact vS I rv (show HN X.K T (.str _) H from eq_of_beq h)
 | tup hq r1=>
  obtain⟨h1,h2⟩:=DF I hq;have e:=eq_of_beq (show(T == "tuple")=true from h)
  subst e;obtain rfl:v=Km _:=rv;exact#[h1,λb e=>by cases e; exact h2]
 | ref ea=>
  simp only[tyOk,Lw,Js]at h;rcases h with⟨h1,h2⟩|⟨h1,h2⟩
  ·obtain⟨xs,hx⟩:=KF.mp h2;obtain⟨vs,h3,_⟩:=aU so hx ea;exact vS I rv (show HN X.K T (.ref _) H from .inl #[eq_of_beq h1,vs,h3])
  ·obtain⟨U,hx⟩:=KF.mp h2;obtain⟨xs,rd,_⟩:=fS so hx ea;obtain⟨_,_,_,o,es,ep,q1,q2,q3,q4⟩:=b8 I rd;have e:=eq_of_beq h1;subst e;obtain rfl:v=Km _:=rv;exact#[#[o,q1,q2.1],λb e=>by cases e; exact#[o,q1,q2.2.1]]
 | _=>cases h
def iG {o e:JR}{es:Jj JR}{name:JA}{apos cpos:LN}{T id:KY}{g:W->Jj W->aa->Jq (W×aa)}{fo:FE}{f:FA}(pa:PlainAttrs T)(slot:Slot T name id)(hty:typeOf (.builtin id)=pure (.type "method_descriptor"))(hm:io X id g)
  (ho:GE X o fo) (ha:GA X (e::es) f) (hbase:attributeBase o name X.env (eval o X.env)=eval o X.env)
  (hfew:((backTo cpos (starEach (e::es) X.env)).all (λx=>!x.1)&&(backToKw cpos (keywordEach [] X.env)).all (λx=>x.1.isSome)
   && decide ((e::es).length+([]:Jj Pn).length+(if ([]:Jj Pn).isEmpty then 0 else 1) < 30))=true)
  (hline:(apos.endLine==cpos.line)=true) (hs:starEach (e::es) X.env=(false,eval e X.env)::starEach es X.env) (hplain:(backTo cpos (starEach es X.env)).any (·.1)=false) :
  GE X (.Call (.Attribute o name apos) (e::es) [] cpos) (B5 T g fo f):=by
 intro J s Y H Q I ⟨A,Z,S,w,S',er,so,e,hq⟩;unfold B5 at e;split at e
 ·rename_i x S1 h1;split at e
  ·rename_i ht;split at e
   ·rename_i ws S2 h2;show wpAny_Call_method_late hbase hfew hline rfl (a7 (ho J s Y H (EndV X.w X.K A H S1 x) I #[A,Z,S,_,_,er,so,h1,λ_ _ z=>z]) λv s1 #[a,H1,I1,r1,A1,e1,o1,z1]=>?_)
    obtain⟨t1,t2⟩:=tyOk.is I1 o1 z1 r1 ht;show#[T,id,pa,slot,hty,t1,t2,?_];have hA:=ha cpos J s1 Y H1 (EndA X A1 H1 S2 ws) I1 #[A1,Z,S1,ws,S2,er.mono e1,o1,h2,λ_ _ z=>z]
    rw[hs]at hA ⊢;show Calls.callWith_builtin (by show(false||(backTo cpos (starEach es X.env)).any (·.1))=false; rw[hplain] <;> rfl) (Calls.evalArgs_plain ?_)
    show a7 hA λus s2 #[vs,H2,I2,r2,A2,e2,o2,z2]=>?_
    show a7 (hm J s2 Y H2 A2 S2 x a v ws vs us w S' I2 o2 (z1.mono e2) r1 z2 r2 e) λu' s' #[v',H',A',I',r',e3,o3,z3]=>?_
    exact#[v',H',I',r',hq v' H' #[A',(e1.trans e2).trans e3,o3,z3]]
   ·cases e
  ·cases e
 ·cases e
def LIx.ixr {g:W->W->aa->Jq (W×aa)}(h:LIx X g):IxR X (rOp X g):=by
 intro value slice J s Y H a b u v Q I ru rv ⟨A,S,x,y,w,S',so,rx,ry,e,hq⟩ hs;exact a7 (h value slice J s Y H A S x y a b u v w S' I so rx ru ry rv e hs) λu' s' #[v',H',A',I',r',e1,o1,z1]=>#[v',H',I',r',hq v' H' #[A',e1,o1,z1]]
def FX {a b:JR}{pos:LN}{fa fb:FE}(hu:X.A.units+10 < cLine)(ha:GE X a fa)(hb:GE X b fb)(hs:mT b):GE X (.Subscript a b pos) (HY fa fb):=
 GE.of (FB (HW hu).ixr ha hb hs) λY H A Z S w S' er so e Q hq=>by
  obtain⟨x,S1,y,S2,h1,h2,h3⟩:=two e;exact fT er so h1 h2 λa b H2 A2 e2 o2 r1 r2=>#[A2,S2,x,y,w,S',o2,r1,r2,h3,λv H' z=>hq v H' (z.after e2)]
inductive tO (X:Cx)(f:FO)(Y:L2.St)(H:Hp)(Q:Jq JG->Hp->Prop):Prop
 | mk (A:Jj Ju) (Z:Fm) (S:aa) (k:Jq JG) (S':aa) (er:EnvRel X.K A H Z Y) (so:StoreOk X.w X.K A H S) (e:f Z S=ba (k,S')) (q:∀H' A',Ext X.K A H A' H'->StoreOk X.w X.K A' H' S'->Q k H'):tO X f Y H Q
noncomputable abbrev GO (X:Cx)(e:Jq JR)(f:FO):Prop:=PO X e (tO X f)
def Ay:GO X gV DE:=λJ s Y H Q I #[A,Z,S,k,S',er,so,e,hq]=>by
 cases e;exact zP J s Y H Q I (hq H A .refl so)
def Az {e:JR}{f:FE}(h:GE X e f):GO X (ba e) (sw f):=λJ s Y H Q I #[A,Z,S,k,S',er,so,e,hq]=>by
 unfold sw at e;split at e
 ·rename_i i S1 h1;cases e;show zQ h J s Y H Q I #[A,Z,S,_,_,er,so,h1,λv H1 #[A1,z1,z2,z3]=>?_]
  cases z3;exact#[i,rfl,hq H1 A1 z1 z2]
 ·cases e
inductive rSl (X:Cx)(g:W->Jq JG->Jq JG->aa->Jq (W×aa))(a:V)(lo hi:Jq JG)(H:Hp)(Q:VK):Prop
 | mk (A:Jj Ju) (S:aa) (x w:W) (S':aa) (so:StoreOk X.w X.K A H S) (rx:Rel X.K A H x a) (e:g x lo hi S=ba (w,S')) (q:∀v H',EndV X.w X.K A H S' w v H'->Q v H'):rSl X g a lo hi H Q
def LSl.slr {g:W->Jq JG->Jq JG->aa->Jq (W×aa)}(h:LSl X g):Fz X (rSl X g):=by
 intro J s Y H a v vl vu lo hi sl Q I rv hs pl pu ⟨A,S,x,w,S',so,rx,e,hq⟩;obtain⟨T,id,h1,h2,h3⟩:=h J s Y H A S x a v vl vu lo hi sl w S' I so rx rv hs pl pu e;exact#[T,id,h1,h2,a7 h3 λu' s' #[v',H',A',I',r',e1,o1,z1]=>#[v',H',I',r',hq v' H' #[A',e1,o1,z1]]]
def FY {a:JR}{lo hi:Jq JR}{p2 pos:LN}{fa:FE}{fl fh:FO}(ha:GE X a fa)(hl:GO X lo fl)(hh:GO X hi fh):GE X (.Subscript a (.Slice lo hi gV p2) pos) (FW fa fl fh):=
 GE.of (vQ Jc.slr ha hl hh) λY H A Z S w S' er so e Q hq=>by
  unfold FW at e;split at e
  ·rename_i x S1 h1;split at e
   ·rename_i l S2 h2;split at e
    ·rename_i h S3 h3;show#[A,Z,S,x,S1,er,so,h1,λv H1 #[A1,z1,z2,z3]=>?_]
     show#[A1,Z,S1,l,S2,er.mono z1,z2,h2,λH2 A2 y1 y2=>?_]
     show#[A2,Z,S2,h,S3,er.mono (z1.trans y1),y2,h3,λH3 A3 x1 x2=>?_]
     exact#[A3,S3,x,w,S',x2,(z3.mono y1).mono x1,e,λv H' q=>hq v H' (q.after ((z1.trans y1).trans x1))]
    ·cases e
   ·cases e
  ·cases e
noncomputable abbrev FF:=Jj W->aa->Jq (W×aa)
inductive spF (wd:Kf)(K:Jz)(n:Jr)(g:FF)(vs:Jj V)(H:Hp)(Q:VK)(E:XK):Prop
 | mk (A:Jj Ju) (S:aa) (ws:Jj W) (w:W) (S':aa) (so:StoreOk wd K A H S) (rl:RelL K A H ws vs) (hl:ws.length=n) (e:g ws S=ba (w,S')) (q:∀v H',EndV wd K A H S' w v H'->Q v H'):spF wd K n g vs H Q E
abbrev pr (n:Jr)(g:FF)(f:FA):FE:=λZ S=>match f Z S with
 | some (ws,S1)=>if ws.length=n then g ws S1 else gV
 | none=>gV
def pA {n:Jr}{g:FF}{f:FA}{Y:L2.St}{H:Hp}{A:Jj Ju}{Z:Fm}{S:aa}{w:W}{S':aa}{E:XK}(er:EnvRel X.K A H Z Y)(so:StoreOk X.w X.K A H S)(e:pr n g f Z S=ba (w,S'))(Q:VK)(hq:∀v H',EndV X.w X.K A H S' w v H'->Q v H') :
  vM (spF X.w X.K n g) [] E (tA X f) Y H Q:=by
 unfold pr at e;split at e
 ·rename_i ws S1 h1;split at e
  ·rename_i hl;show#[A,Z,S,ws,S1,er,so,h1,λvs H1 #[A1,z1,z2,z3]=>?_]
   change spF X.w X.K n g (vs++[]) H1 Q E;rw[Kx];exact#[A1,S1,ws,w,S',z2,z3,hl,e,λv H' q=>hq v H' (q.after z1)]
  ·cases e
 ·cases e
def DH {k n:Jr}{fa:Ju}{fd:LX}{ps:Jj JA}{g:FF}{x:JA}{e:JR}{es:Jj JR}{p pos:LN}{f:FA}(F:FnOk X.prog X.w X.K X.mg X.base vt k fa fd ps (spF X.w X.K n g))(hr:Room k X.A)(hg:Gl X x)(hm:X.mg x=ba (.ref fa))(hk:K1 X.K (.ref fa)=true)
  (hb:Binds X.K fd ps []) (ha:GA X (e::es) f) (hdb:(x==("__debug__" : JA))=false) (he:starEach (e::es) X.env=(false,eval e X.env)::starEach es X.env) (hpl:(backTo pos (starEach es X.env)).any (·.1)=false) :
  GE X (.Call (.Name x p) (e::es) [] pos) (pr n g f):=
 GE.of (zM F hr hg hm hk hb .nil B1 ha hdb he hpl) λY H A Z S w S' er so e Q hq=>pA er so e Q hq
def AA {k n:Jr}{fa:Ju}{fd:LX}{ps:Jj JA}{g:FF}{x:JA}{p pos:LN}(F:FnOk X.prog X.w X.K X.mg X.base vt k fa fd ps (spF X.w X.K n g))(hr:Room k X.A)(hg:Gl X x)(hm:X.mg x=ba (.ref fa))(hk:K1 X.K (.ref fa)=true)
  (hb:Binds X.K fd ps []) (hdb:(x==("__debug__" : JA))=false):GE X (.Call (.Name x p) [] [] pos) (pr n g eG):=
 GE.of (vO F hr hg hm hk hb .nil B1 hdb) λY H A Z S w S' er so e Q hq=>by
  obtain⟨A1,S1,ws,w1,S1',a1,a2,a3,a4,a5⟩:=pA (f:=eG) (E:=E0) er so e Q hq |> λ#[A,Z,S,ws,S',b1,b2,b3,b4]=>b4 [] H (by cases b3; exact#[A,.refl,b2,.nil])
  exact#[A1,S1,ws,w1,S1',a1,a2,a3,a4,a5]
def AB:GSs X [] (λZ S=>ba (.nx Z,S)):=GSs.of zC λY H A Z S o S' er so e D hd=>by cases e; exact hd.nx _ _ #[Z,A,rfl,.refl,so,er]
abbrev AC (f g:FS):FS:=λZ S=>match f Z S with
 | some (.nx Z',S1)=>g Z' S1
 | some (.rt w,S1)=>ba (.rt w,S1)
 | some (.bk Z',S1)=>ba (.bk Z',S1)
 | some (.ct Z',S1)=>ba (.ct Z',S1)
 | none=>gV
def xh {st:Mb}{sts:Jj Mb}{f g:FS}(h:GS X st f)(h2:GSs X sts g):GSs X (st::sts) (AC f g):=GSs.of (vD h h2) λY H A Z S o S' er so e D hd=>by
 unfold AC at e;split at e
 ·rename_i Z1 S1 h1;show#[A,Z,S,_,_,er,so,h1,#[λY' H' #[Z',A',e1,e2,e3,e4]=>?_,λv H' #[w,A',e1,_,_,_]=>(by cases e1),λv H' #[w,A',e1,_,_,_]=>(by cases e1),λv H' #[w,A',e1,_,_,_]=>(by cases e1)]]
  cases e1;exact#[A',_,S1,o,S',e4,e3,e,(EndS.after e2).trans hd]
 ·rename_i w S1 h1;cases e;exact#[A,Z,S,_,_,er,so,h1,#[λY' H' #[w,A',e1,_,_,_]=>(by cases e1),hd.rt,hd.bk,hd.ct]]
 ·rename_i w S1 h1;cases e;exact#[A,Z,S,_,_,er,so,h1,#[λY' H' #[w,A',e1,_,_,_]=>(by cases e1),hd.rt,hd.bk,hd.ct]]
 ·rename_i w S1 h1;cases e;exact#[A,Z,S,_,_,er,so,h1,#[λY' H' #[w,A',e1,_,_,_]=>(by cases e1),hd.rt,hd.bk,hd.ct]]
 ·cases e
abbrev AD (f:FE):FS:=λZ S=>match f Z S with
 | some (_,S1)=>ba (.nx Z,S1)
 | none=>gV
def FZ {e:JR}{pos:LN}{f:FE}(h:GE X e f)(hs:swapsWith e gV pos.line X.env=pure false):GS X (.Expr e pos) (AD f):=GS.of (zE h hs) λY H A Z S o S' er so e D hd=>by
 unfold AD at e;split at e
 ·rename_i w S1 h1;cases e;exact#[A,Z,S,w,_,er,so,h1,λv H1 #[A1,z1,z2,z3]=>hd.nx _ _ #[Z,A1,rfl,z1,z2,er.mono z1]]
 ·cases e
abbrev xi:FS:=λZ S=>ba (.nx Z,S)
def DI {x:JA}{j:Jr}{pos pos':LN}:GS X (.Expr (.Constant (.str x) j pos) pos') xi:=GS.of CO λY H A Z S o S' er so e D hd=>by cases e; exact hd.nx _ _ #[Z,A,rfl,.refl,so,er]
def AE {pos:LN}:GS X (.Pass pos) xi:=GS.of zD λY H A Z S o S' er so e D hd=>by cases e; exact hd.nx _ _ #[Z,A,rfl,.refl,so,er]
def xj {pos:LN}:GS X (.Break pos) (λZ S=>ba (.bk Z,S)):=GS.of vE λY H A Z S o S' er so e D hd=>by cases e; exact hd.bk _ _ #[Z,A,rfl,.refl,so,er]
def AF {pos:LN}:GS X (.Continue pos) (λZ S=>ba (.ct Z,S)):=GS.of oF λY H A Z S o S' er so e D hd=>by cases e; exact hd.ct _ _ #[Z,A,rfl,.refl,so,er]
abbrev AG (f:FE):FS:=λZ S=>match f Z S with
 | some (w,S1)=>ba (.rt w,S1)
 | none=>gV
def DJ {e:JR}{pos:LN}{f:FE}(h:GE X e f):GS X (.Return (ba e) pos) (AG f):=GS.of (CP h) λY H A Z S o S' er so e D hd=>by
 unfold AG at e;split at e
 ·rename_i w S1 h1;cases e;exact#[A,Z,S,w,_,er,so,h1,λv H1 #[A1,z1,z2,z3]=>hd.rt _ _ #[w,A1,rfl,z1,z2,z3]]
 ·cases e
def AH {pos:LN}:GS X (.Return gV pos) (λZ S=>ba (.rt .non,S)):=GS.of zF λY H A Z S o S' er so e D hd=>by cases e; exact hd.rt _ _ #[_,A,rfl,.refl,so,.non]
abbrev AI (c:FT)(f g:FS):FS:=λZ S=>match c Z S with
 | some (true,S1)=>f Z S1
 | some (false,S1)=>g Z S1
 | none=>gV
def F0 {c:JR}{a b:Jj Mb}{pos:LN}{fc:FT}{f g:FS}(hc:GT X c fc)(ha:GSs X a f)(hb:GSs X b g):GS X (.If c a b pos) (AI fc f g):=GS.of (Fe hc ha hb) λY H A Z S o S' er so e D hd=>by
 unfold AI at e;split at e
 ·rename_i S1 h1;show#[A,Z,S,_,S1,er,so,h1,λb H1 #[z0,A1,z1,z2]=>?_]
  subst z0;rw[JO rfl];exact#[A1,Z,S1,o,S',er.mono z1,z2,e,(EndS.after z1).trans hd]
 ·rename_i S1 h1;show#[A,Z,S,_,S1,er,so,h1,λb H1 #[z0,A1,z1,z2]=>?_]
  subst z0;rw[JZ JP];exact#[A1,Z,S1,o,S',er.mono z1,z2,e,(EndS.after z1).trans hd]
 ·cases e
noncomputable abbrev FG:=W->Fm->aa->Jq (Fm×aa)
inductive tG (X:Cx)(f:FG)(v:V)(Y:L2.St)(H:Hp)(Q:L2.St->Hp->Prop):Prop
 | mk (A:Jj Ju) (Z:Fm) (S:aa) (w:W) (Z':Fm) (S':aa) (er:EnvRel X.K A H Z Y) (so:StoreOk X.w X.K A H S) (r:Rel X.K A H w v) (e:f w Z S=ba (Z',S')) (q:∀Y' H' A',Ext X.K A H A' H'->StoreOk X.w X.K A' H' S'->EnvRel X.K A' H' Z' Y'->Q Y' H'):tG X f v Y H Q
noncomputable abbrev GG (X:Cx)(tg:JR)(f:FG):Prop:=PG X tg (tG X f)
abbrev B6 (i:Jr):FG:=λw Z S=>ba (Z.set i (ba w),S)
def sx {i:Jr}{x:JA}{pos:LN}(hN:X.N.Nodup)(hi:X.N[i]?=ba x)(hx:zx X.env.scope x)(hf:X.fn x=true\/X.env.scope.names.lookup x=ba .local):GG X (.Name x pos) (B6 i):=by
 intro J s Y H v u Q I r ⟨A,Z,S,w,Z',S',er,so,rw',e,hq⟩;cases e;exact rP hN hi hx hf J s Y H v u Q I r (hq _ _ A .refl so (er.set rw' i))
abbrev dR:Jj Jr->Jj W->Fm->Jq Fm
 | [],[],Z=>ba Z
 | i::is,w::ws,Z=>dR is ws (Z.set i (ba w))
 | _,_,_=>gV
abbrev EZ (is:Jj Jr):FG:=λw Z S=>match w with
 | .tup ws=>(dR is ws Z).map λZ'=>(Z',S)
 | _=>gV
def uQ:∀ {ts:Jj JR} {is:Jj Jr},(∀x∈ts,∃y p,x=.Name y p)->Ou (λ(t:JR) (i:Jr)=>∃x p,t=Po x p/\X.N[i]?=ba x/\zx X.env.scope x/\(X.fn x=true\/X.env.scope.names.lookup x=ba .local)) ts is->X.N.Nodup->
  Ff X ts (λvs Y H Q=>∃A Z ws Z' S,EnvRel X.K A H Z Y/\StoreOk X.w X.K A H S/\RelL X.K A H ws vs/\dR is ws Z=ba Z'/\∀Y',EnvRel X.K A H Z' Y'->Q Y' H):=by
 intro ts
 induction ts with
 | nil=>
  intro is _ h hN;cases h;intro J s Y H vs us Q I r ⟨A,Z,ws,Z',S,er,so,rl,e,hq⟩;cases rl with
  | nil=>cases e; exact zG J s Y H [] us Q I r #[rfl,hq _ er]
  | cons _ _=>cases e
 | cons t ts ih=>
  intro is hs h hN;cases h with
  | cons h1 h2=>
   obtain⟨x,p,rfl,hi,hl,hf⟩:=h1;have:=ih (λy hy=>hs y (Kd _ hy)) h2 hN
   intro J s Y H vs us Q I r ⟨A,Z,ws,Z',S,er,so,rl,e,hq⟩;cases rl with
   | nil=>cases e
   | cons r1 r2=>
    show vF (rP hN hi hl hf) this rfl J s Y H _ us Q I r #[_,_,rfl,?_];exact#[A,_,_,Z',S,er.set r1 _,so,r2,e,hq]
def DK {ts:Jj JR}{is:Jj Jr}{k:Jr}{pos:LN}(hc:X.calm=true)(hs:∀x∈ts,∃y p,x=.Name y p)(h:Ou (λ(t:JR) (i:Jr)=>∃x p,t=Po x p/\X.N[i]?=ba x/\zx X.env.scope x/\(X.fn x=true\/X.env.scope.names.lookup x=ba .local)) ts is)(hN:X.N.Nodup)
  (hn:(assignEach ts X.env).length=ts.length) (hst:(assignEach ts X.env).findIdx? (·.1)=gV):GG X (.Tuple ts k pos) (EZ is):=by
 intro J s Y H v u Q I r ⟨A,Z,S,w,Z',S',er,so,rw',e,hq⟩;unfold EZ at e;split at e
 ·rw[Jo]at e;obtain⟨Z1,e1,e2⟩:=e;cases e2;cases rw' with
  | tup h1 r1=>
   have hl:∀(is:Jj Jr) (ws:Jj W) (Z Z':Fm),dR is ws Z=ba Z'->is.length=ws.length:=by
    intro is
    induction is with
    | nil=>intro ws Z Z' e; cases ws <;> first|rfl|cases e
    | cons i is ih=>intro ws Z Z' e; cases ws <;> first|cases e|(simp; exact ih _ _ _ e)
   exact CU hc (uQ hs h hN) hn hst J s Y H _ u Q I r #[_,_,rfl,h1,by rw[<- r1.length,<- hl _ _ _ _ e1,<- Oc h],A,Z,_,_,_,er,so,r1,e1,λY' z=>hq _ _ A .refl so z]
 ·cases e
abbrev AJ (fo fi:FE):FG:=λw Z S=>match fo Z S with
 | some (o,S1)=>match fi Z S1 with
  | some (i,S2)=>match iD o i w S2 with
   | some S3=>ba (Z,S3)
   | none=>gV
  | none=>gV
 | none=>gV
inductive rSet (X:Cx)(g:W->W->W->aa->Jq aa)(ao ai av:V)(H:Hp)(Q:Hp->Prop):Prop
 | mk (A:Jj Ju) (S:aa) (o i w:W) (S':aa) (so:StoreOk X.w X.K A H S) (r1:Rel X.K A H o ao) (r2:Rel X.K A H i ai) (r3:Rel X.K A H w av) (e:g o i w S=ba S') (q:∀H' A',Ext X.K A H A' H'->StoreOk X.w X.K A' H' S'->Q H'):rSet X g ao ai av H Q
def LSet.pset {g:W->W->W->aa->Jq aa}(h:LSet X g):CT X (rSet X g):=by
 intro J s Y H ao ai av uo ui uv Q I ro ri rv ⟨A,S,o,i,w,S',so,r1,r2,r3,e,hq⟩;exact a7 (h J s Y H A S o i w ao ai av uo ui uv S' I so r1 ro r2 ri r3 rv e) λ_ s' #[H',A',I',e1,o1]=>#[H',I',hq H' A' e1 o1]
def DL {o i:JR}{pos:LN}{fo fi:FE}(hu:X.A.units+10 < cLine)(ho:GE X o fo)(hi:GE X i fi)(ha:∀v,assign (.Subscript o i pos) X.env v=(do
   let ov <- holding [v] (eval o X.env)
   let iv <- holding [v,ov] (eval i X.env)
   standAt pos
   holding [v,ov,iv] (setItem ov iv v)
   release [v,ov,iv] [])):GG X (.Subscript o i pos) (AJ fo fi):=by
 intro J s Y H v u Q I r ⟨A,Z,S,w,Z',S',er,so,rw',e,hq⟩;unfold AJ at e;split at e
 ·rename_i o' S1 h1;split at e
  ·rename_i i' S2 h2;split at e
   ·rename_i S3 h3;cases e;show CV ho hi (FP hu).pset ha J s Y H v u Q I r ?_;show#[A,Z,S,o',S1,er,so,h1,λa H1 #[A1,e1,o1,r1]=>?_]
    show#[A1,Z,S1,i',S2,er.mono e1,o1,h2,λb H2 #[A2,e2,o2,r2]=>?_]
    exact#[A2,S2,o',i',w,_,o2,r1.mono e2,r2,rw'.mono (e1.trans e2),h3,λH' A' z1 z2=>hq Y H' A' ((e1.trans e2).trans z1) z2 (er.mono ((e1.trans e2).trans z1))]
   ·cases e
  ·cases e
 ·cases e
abbrev kC (f:FE)(g:FG):FS:=λZ S=>match f Z S with
 | some (w,S1)=>match g w Z S1 with
  | some (Z',S2)=>ba (.nx Z',S2)
  | none=>gV
 | none=>gV
def qZ {tg e:JR}{pos:LN}{f:FE}{g:FG}(h:GE X e f)(hg:GG X tg g)(hs:swapsWithSole [tg] e pos.line X.env=pure false)(hw:swappedStores [tg] e X.env=pure gV)(h1:(assignEach [tg] X.env).map (·.2)=[assign tg X.env]) :
  GS X (.Assign [tg] e pos) (kC f g):=GS.of (CW h hg hs hw h1) λY H A Z S o S' er so e D hd=>by
 unfold kC at e;split at e
 ·rename_i w S1 h1;split at e
  ·rename_i Z1 S2 h2;cases e;show#[A,Z,S,w,S1,er,so,h1,λv H1 #[A1,z1,z2,z3]=>?_]
   exact#[A1,Z,S1,w,Z1,_,er.mono z1,z2,z3,h2,λY' H' A' y1 y2 y3=>hd.nx _ _ #[Z1,A',rfl,z1.trans y1,y2,y3]]
  ·cases e
 ·cases e
abbrev AK (i j:Jr)(f:FA):FS:=λZ S=>match f Z S with
 | some ([x,y],S1)=>ba (.nx ((Z.set i (ba x)).set j (ba y)),S1)
 | _=>gV
def DM {i j:Jr}{x y:JA}{a b:JR}{f:FA}{px py pt pos:LN}{kt k2:Jr}{pt2:LN}(hc:X.calm=true)(hN:X.N.Nodup)(hi:X.N[i]?=ba x)(hj:X.N[j]?=ba y)(hij:i≠j)
  (hx:X.env.scope.names.lookup x=ba .local) (hy:X.env.scope.names.lookup y=ba .local) (ha:GA X [a,b] f)
  (hw:swappedStores [.Tuple [.Name x px,.Name y py] kt pt] (.Tuple [a,b] k2 pt2) X.env=pure (ba [x,y]))
  (hs:swapsWithSole [.Tuple [.Name x px,.Name y py] kt pt] (.Tuple [a,b] k2 pt2) pos.line X.env=pure false) :
  GS X (.Assign [.Tuple [.Name x px,.Name y py] kt pt] (.Tuple [a,b] k2 pt2) pos) (AK i j f):=GS.of (CY hc hN hi hj hij hx hy ha hw hs) λY H A Z S o S' er so e D hd=>by
 unfold AK at e;split at e
 ·rename_i x y S1 h1;cases e;show#[A,Z,S,_,_,er,so,h1,λvs H1 #[A1,z1,z2,z3]=>?_]
  cases z3 with
  | cons r1 t=>
   cases t with
   | cons r2 t=>
    cases t;exact#[_,_,rfl,hd.nx _ _ #[_,A1,rfl,z1,z2,((er.mono z1).set r1 i).set r2 j]]
 ·cases e
abbrev nI (c:FT)(b:FS):Jr->FS
 | 0,_,_=>gV
 | n+1,Z,S=>match c Z S with
  | some (true,S1)=>match b Z S1 with
   | some (.nx Z',S2)=>nI c b n Z' S2
   | some (.ct Z',S2)=>nI c b n Z' S2
   | some (.bk Z',S2)=>ba (.nx Z',S2)
   | some (.rt w,S2)=>ba (.rt w,S2)
   | none=>gV
  | some (false,S1)=>ba (.nx Z,S1)
  | none=>gV
def xk {c:JR}{body:Jj Mb}{pos:LN}{fc:FT}{fb:FS}(n:Jr)(hp:Pl (model X.prog X.w) X.A X.env X.xe)(hc:GT X c fc)(hb:GSs X body fb):GS X (.While c body [] pos) (nI fc fb n):=GS.of (vG hp hc hb) λY H A Z S o S' er so e D hd=>by
 show#[λm Y1 H1=>∃A1 Z1 S1,Ext X.K A H A1 H1/\EnvRel X.K A1 H1 Z1 Y1/\StoreOk X.w X.K A1 H1 S1/\nI fc fb m Z1 S1=ba (o,S'),#[n,A,Z,S,.refl,er,so,e],?_]
 rintro m Y1 H1 ⟨A1,Z1,S1,e1,er1,so1,w1⟩;cases m with
 | zero=>cases w1
 | succ m=>
  dsimp only[nI]at w1;split at w1
  ·rename_i S2 h1;show#[A1,Z1,S1,_,S2,er1,so1,h1,λb H2 #[z0,A2,z1,z2]=>?_]
   subst z0;rw[JO rfl];show#[λY3 H3=>∃A3 Z3 S3,Ext X.K A H A3 H3/\EnvRel X.K A3 H3 Z3 Y3/\StoreOk X.w X.K A3 H3 S3/\nI fc fb m Z3 S3=ba (o,S'),λY' H' h=>#[m,MH _,h],?_]
   split at w1
   ·rename_i Z3 S3 h3;show#[A2,Z1,S2,_,S3,er1.mono z1,z2,h3,#[λY' H' #[Z',A',y0,y1,y2,y3]=>?_,λv H' #[w,A',y0,_,_,_]=>(by cases y0),λv H' #[w,A',y0,_,_,_]=>(by cases y0),λv H' #[w,A',y0,_,_,_]=>(by cases y0)]]
    cases y0;exact#[A',_,S3,(e1.trans z1).trans y1,y3,y2,w1]
   ·rename_i Z3 S3 h3;show#[A2,Z1,S2,_,S3,er1.mono z1,z2,h3,#[λv H' #[w,A',y0,_,_,_]=>(by cases y0),λv H' #[w,A',y0,_,_,_]=>(by cases y0),λv H' #[w,A',y0,_,_,_]=>(by cases y0),λY' H' #[Z',A',y0,y1,y2,y3]=>?_]]
    cases y0;exact#[A',_,S3,(e1.trans z1).trans y1,y3,y2,w1]
   ·rename_i Z3 S3 h3;cases w1;show#[A2,Z1,S2,_,_,er1.mono z1,z2,h3,#[λv H' #[w,A',y0,_,_,_]=>(by cases y0),λv H' #[w,A',y0,_,_,_]=>(by cases y0),λY' H' #[Z',A',y0,y1,y2,y3]=>?_,λv H' #[w,A',y0,_,_,_]=>(by cases y0)]]
    cases y0;exact hd.nx _ _ #[_,A',rfl,(e1.trans z1).trans y1,y2,y3]
   ·rename_i w3 S3 h3;cases w1;show#[A2,Z1,S2,_,_,er1.mono z1,z2,h3,#[λv H' #[w,A',y0,_,_,_]=>(by cases y0),λv H' #[w,A',y0,y1,y2,y3]=>?_,λv H' #[w,A',y0,_,_,_]=>(by cases y0),λv H' #[w,A',y0,_,_,_]=>(by cases y0)]]
    cases y0;exact hd.rt _ _ #[_,A',rfl,(e1.trans z1).trans y1,y2,y3]
   ·cases w1
  ·rename_i S2 h1;cases w1;show#[A1,Z1,S1,_,_,er1,so1,h1,λb H2 #[z0,A2,z1,z2]=>?_]
   subst z0;rw[JZ JP];exact hd.nx _ _ #[_,A2,rfl,e1.trans z1,z2,er1.mono z1]
  ·cases w1
end
inductive MI where
 | its (ws:Jj W)
 | live (r:Jr)
 | zl (r q:Jr)
 | el (r:Jr)
abbrev iH (xs ys:Jj W):Jj W:=Jx (λx y=>.tup [x,y]) xs ys
abbrev MI.at (S:aa)(i:Jr):MI->Jq (Jq W)
 | .its ws=>ba ws[i]?
 | .live r=>match eW S r with
  | some xs=>ba xs[i]?
  | none=>gV
 | .zl r q=>match eW S r,eW S q with
  | some xs,ba ys=>ba (iH xs ys)[i]?
  | _,_=>gV
 | .el r=>match eW S r with
  | some xs=>ba (xs[i]?.map λx=>.tup [.int (i:Jr),x])
  | none=>gV
abbrev MI.len (S:aa):MI->Jq Jr
 | .its ws=>ba ws.length
 | .live r=>(eW S r).map (·.length)
 | .zl r q=>match eW S r,eW S q with
  | some xs,ba ys=>ba (iH xs ys).length
  | _,_=>gV
 | .el r=>(eW S r).map (·.length)
noncomputable abbrev FI:=Fm->aa->Jq (MI×aa)
structure MIt (wd:Kf)(K:Jz)(mi:MI)(td:It)(A0:Jj Ju)(H0:Hp):Prop where
 go:∀A H S i w,Ext K A0 H0 A H->StoreOk wd K A H S->mi.at S i=ba (ba w)->td.go i H/\∀x H',td.yld i H x H'->Ext K A H A H'/\StoreOk wd K A H' S/\Rel K A H' w x
 stop:∀A H S i,Ext K A0 H0 A H->StoreOk wd K A H S->mi.at S i=ba gV->td.stop i H
inductive tI (X:Cx)(f:FI)(Y:L2.St)(H:Hp)(R:It->Hp->Prop):Prop
 | mk (A:Jj Ju) (Z:Fm) (S:aa) (mi:MI) (S':aa) (er:EnvRel X.K A H Z Y) (so:StoreOk X.w X.K A H S) (e:f Z S=ba (mi,S')) (q:∀td H' A',Ext X.K A H A' H'->StoreOk X.w X.K A' H' S'->MIt X.w X.K mi td A' H'->R td H'):tI X f Y H R
noncomputable abbrev GI (X:Cx)(tg iter:JR)(f:FI):Prop:=PI X tg iter (tI X f)
abbrev AL (f:FE):FI:=λZ S=>match f Z S with
 | some (.tup ws,S1)=>ba (.its ws,S1)
 | some (.ref r,S1)=>match eW S1 r with
  | some _=>ba (.live r,S1)
  | none=>gV
 | _=>gV
abbrev cK (lo:JG)(n:Jr):Jj W:=(Kb n).map λ(k:Jr)=>.int (lo+(k:JG))
abbrev q8 (f:FA):FI:=λZ S=>match f Z S with
 | some ([.int j],S1)=>if -(2 ^ 62)<=j/\j < 2 ^ 62 then ba (.its (cK 0 j.toNat),S1)else gV
 | _=>gV
abbrev iRng2 (f:FA):FI:=λZ S=>match f Z S with
 | some ([.int i,.int j],S1)=>if -(2 ^ 62)<=i/\i < 2 ^ 62/\-(2 ^ 62)<=j/\j < 2 ^ 62 then ba (.its (cK i (j - i).toNat),S1)else gV
 | _=>gV
abbrev fY (mi:MI)(g:FG)(b:FS):Jr->Jr->FS
 | 0,i,Z,S=>match mi.at S i with
  | some gV=>ba (.nx Z,S)
  | _=>gV
 | n+1,i,Z,S=>match mi.at S i with
  | some (ba w)=>match g w Z S with
   | some (Z1,S1)=>match b Z1 S1 with
    | some (.nx Z2,S2)=>fY mi g b n (i+1) Z2 S2
    | some (.ct Z2,S2)=>fY mi g b n (i+1) Z2 S2
    | some (.bk Z2,S2)=>ba (.nx Z2,S2)
    | some (.rt w,S2)=>ba (.rt w,S2)
    | none=>gV
   | none=>gV
  | _=>gV
abbrev xl (fi:FI)(g:FG)(b:FS):FS:=λZ S=>match fi Z S with
 | some (mi,S1)=>match mi.len S1 with
  | some n=>fY mi g b n 0 Z S1
  | none=>gV
 | none=>gV
section
variable{X:Cx}
def AM {A:Jj Ju}{H:Hp}{ws:Jj W}{a:Ju}{vs:Jj V}(h:SqT X.K H a vs)(r:RelL X.K A H ws vs):MIt X.w X.K (.its ws) (EW X.K a) A H:=by
 show#[λA' H' S i w e so hi=>?_,λA' H' S i e so hi=>?_]
 ·simp only[MI.at,JT]at hi;obtain⟨v,h1,h2⟩:=(r.mono e).get hi;show#[#[vs,v,e.tp _ _ h,h1],λx H2 #[z1,z2]=>?_]
  subst z1;have:=z2 vs (e.tp _ _ h);rw[h1]at this; cases this
  exact#[.refl,so,h2]
 ·simp only[MI.at,JT]at hi;show#[vs,e.tp _ _ h,?_];rw[<- r.length];exact KM.mp hi
def AN {A:Jj Ju}{H:Hp}{r:Jr}{a:Ju}(ea:A[r]?=ba a):MIt X.w X.K (.live r) (Hx X.K a) A H:=by
 show#[λA' H' S i w e so hi=>?_,λA' H' S i e so hi=>?_]
 ·simp only[MI.at]at hi;split at hi
  ·rename_i xs hx;simp only[JT]at hi;obtain⟨vs,h1,r1⟩:=aU so hx (e.ad _ _ ea);obtain⟨v,h2,h3⟩:=r1.get hi;show#[#[vs,v,h1,h2],λx H2 #[z1,z2]=>?_]
   subst z1;have:=z2 vs h1;rw[h2]at this; cases this
   exact#[.refl,so,h3]
  ·cases hi
 ·simp only[MI.at]at hi;split at hi
  ·rename_i xs hx;simp only[JT]at hi;obtain⟨vs,h1,r1⟩:=aU so hx (e.ad _ _ ea);show#[vs,h1,?_];rw[<- r1.length];exact KM.mp hi
  ·cases hi
def dS {lo:JG}{n i:Jr}:(cK lo n)[i]?=if i < n then ba (.int (lo+i))else gV:=by
 unfold cK;rw[Jv]
 by_cases h:i < n
 ·rw[JO h,MR h]; rfl
 ·rw[JZ h,KM.mpr (by simp; omega)]; rfl
def sy {A:Jj Ju}{H:Hp}{lo:JG}{n:Jr}:MIt X.w X.K (.its (cK lo n)) (Fi lo n) A H:=by
 show#[λA' H' S i w e so hi=>?_,λA' H' S i e so hi=>?_]
 ·simp only[MI.at,JT]at hi;rw[dS]at hi;split at hi
  ·cases hi;show#[by assumption,λx H2 #[z1,z2]=>?_]
   subst z1 z2;exact#[.refl,so,.int]
  ·cases hi
 ·simp only[MI.at,JT]at hi;rw[dS]at hi;split at hi
  ·cases hi
  ·change n<=i;omega
def pB {tg:JR}{J:Jj (Ju×La)}{Y:L2.St}{H1:Hp}{s1:Jp}{R:It->Hp->Prop}{a:Ju}{xs:Jj V}{v:Jm}(I1:Inv X J Y H1 s1)(r1:RelV (.ref a) v)(hq:SqL X.K H1 a xs)(q:R (Hx X.K a) H1) :
  wpAny (model X.prog X.w) X.A (pyIter v) (EV X J Y tg R) X.xe s1:=by
 cases r1;obtain⟨its,rv,p,hz⟩:=I1.list hq;show Mz p.isList ?_;show#[s1.heap.objs.size,[s1.heap.objs.size],_,_,H1,rfl,I1.kept (t':=s1.toks) λb o e=>Jn _ e,tW a _,#[_,JF _ rfl,rfl,rfl],λb hb=>?_,q]
 have e:b=s1.heap.objs.size:=by simpa using hb
 subst e;exact I1.fpOk (Jy _) (I1.hok.fresh (Jy _))
def q9 {tg:JR}{J:Jj (Ju×La)}{Y:L2.St}{H1:Hp}{s1:Jp}{R:It->Hp->Prop}{a:Ju}{xs:Jj V}{v:Jm}(I1:Inv X J Y H1 s1)(r1:RelV (.ref a) v)(hq:SqT X.K H1 a xs)(q:R (EW X.K a) H1) :
  wpAny (model X.prog X.w) X.A (pyIter v) (EV X J Y tg R) X.xe s1:=by
 cases r1;obtain⟨its,rv,p,hz⟩:=I1.tuple hq;show P3 (show s1.heap.IsTuple a its.toArray from p) ?_
 show#[s1.heap.objs.size,[s1.heap.objs.size],_,_,H1,rfl,I1.kept (t':=s1.toks) λb o e=>Jn _ e,qD a _,#[_,JF _ rfl,rfl,rfl],λb hb=>?_,q]
 have e:b=s1.heap.objs.size:=by simpa using hb
 subst e;exact I1.fpOk (Jy _) (I1.hok.fresh (Jy _))
def AO {tg a:JR}{f:FA}{p pos:LN}(hg:Gl X "range")(hm:X.mg "range" = gV)(ha:GA X [a] f)(hs:starEach [a] X.env=[(false,eval a X.env)]):GI X tg (.Call (.Name "range" p) [a] [] pos) (q8 f):=by
 intro J s Y H R I ⟨A,Z,S,mi,S',er,so,e,hq⟩;unfold q8 at e;split at e
 ·rename_i j S1 h1;split at e
  ·rename_i hj;cases e;show tX hg hm ha hs J s Y H R I #[A,Z,S,_,_,er,so,h1,λvs H1 #[A1,z1,z2,z3]=>?_]
   cases z3 with
   | cons r1 t=>
    cases t;cases r1;exact#[j,rfl,hj.1,hj.2,hq _ _ A1 z1 z2 sy]
  ·cases e
 ·cases e
def AQ {tg a b:JR}{f:FA}{p pos:LN}(hg:Gl X "range")(hm:X.mg "range" = gV)(ha:GA X [a,b] f)(hs:starEach [a,b] X.env=[(false,eval a X.env),(false,eval b X.env)])(hs2:starEach [b] X.env=[(false,eval b X.env)]):GI X tg (.Call (.Name "range" p) [a,b] [] pos) (iRng2 f):=by
 intro J s Y H R I ⟨A,Z,S,mi,S',er,so,e,hq⟩;unfold iRng2 at e;split at e
 ·rename_i i j S1 h1;split at e
  ·rename_i hj;cases e;show tY hg hm ha hs hs2 J s Y H R I #[A,Z,S,_,_,er,so,h1,λvs H1 #[A1,z1,z2,z3]=>?_]
   cases z3 with
   | cons r1 t=>
    cases t with
    | cons r2 t=>
     cases t;cases r1;cases r2;exact#[i,j,rfl,hj,hq _ _ A1 z1 z2 sy]
  ·cases e
 ·cases e
def DN {tg l:JR}{f:FE}(h:GE X l f):GI X tg l (AL f):=by
 intro J s Y H R I ⟨A,Z,S,mi,S',er,so,e,hq⟩;unfold AL at e;split at e
 ·rename_i ws S1 h1;cases e;show a7 (h J s Y H (EndV X.w X.K A H _ (.tup ws)) I #[A,Z,S,_,_,er,so,h1,λ_ _ z=>z]) λv s1 #[x,H1,I1,r1,A1,e1,o1,z1]=>?_
  cases z1 with
  | tup hq1 rl=>
   show q9 I1 r1 hq1 (hq _ _ A1 e1 o1 (AM hq1 rl))
 ·rename_i r S1 h1;split at e
  ·rename_i ys hy;cases e;show a7 (h J s Y H (EndV X.w X.K A H _ (.ref r)) I #[A,Z,S,_,_,er,so,h1,λ_ _ z=>z]) λv s1 #[x,H1,I1,r1,A1,e1,o1,z1]=>?_
   cases z1 with
   | ref ea=>
    obtain⟨vs,hl,_⟩:=aU o1 hy ea;exact pB I1 r1 hl (hq _ _ A1 e1 o1 (AN ea))
  ·cases e
 ·cases e
def DO {tg iter:JR}{body:Jj Mb}{pos:LN}{fi:FI}{g:FG}{fb:FS}(hp:Pl (model X.prog X.w) X.A X.env X.xe)(hc:X.calm=true)(hi:GI X tg iter fi)(hg:GG X tg g)(hb:GSs X body fb)
  (hs:∀x,foldedSetIterable iter X.env x=pure x):GS X (.For tg iter body [] pos) (xl fi g fb):=GS.of (C0 hp hc hi hg hb hs) λY H A Z S o S' er so e D hd=>by
 unfold xl at e;split at e
 ·rename_i mi S1 h1;split at e
  ·rename_i n hn;show#[A,Z,S,mi,S1,er,so,h1,λtd H1 A1 z1 z2 mit=>?_]
   show#[λi m Y2 H2=>∃A2 Z2 S2,Ext X.K A1 H1 A2 H2/\EnvRel X.K A2 H2 Z2 Y2/\StoreOk X.w X.K A2 H2 S2/\fY mi g fb m i Z2 S2=ba (o,S'),#[n,A1,Z,S1,.refl,er.mono z1,z2,e],?_]
   rintro i m Y2 H2 ⟨A2,Z2,S2,e2,er2,so2,w2⟩;cases m with
   | zero=>
    dsimp only[fY]at w2;split at w2
    ·rename_i hs;cases w2;exact .inl #[mit.stop A2 H2 _ i e2 so2 hs,hd.nx _ _ #[_,A2,rfl,z1.trans e2,so2,er2]]
    ·cases w2
   | succ m=>
    dsimp only[fY]at w2;split at w2
    ·rename_i w hw;obtain⟨go,yl⟩:=mit.go A2 H2 S2 i w e2 so2 hw;show .inr #[go,λY3 H3=>∃A3 Z3 S3,Ext X.K A1 H1 A3 H3/\EnvRel X.K A3 H3 Z3 Y3/\StoreOk X.w X.K A3 H3 S3/\fY mi g fb m (i+1) Z3 S3=ba (o,S'),λY' H' h=>#[m,MH _,h],λx H3 hy=>?_]
     obtain⟨x1,x2,x3⟩:=yl x H3 hy;split at w2
     ·rename_i Z3 S3 h3;show#[A2,Z2,S2,w,Z3,S3,er2.mono x1,x2,x3,h3,λY4 H4 A4 y1 y2 y3=>?_]
      have ex:Ext X.K A1 H1 A4 H4:=(e2.trans x1).trans y1;split at w2
      ·rename_i Z5 S5 h5;show#[A4,Z3,S3,_,S5,y3,y2,h5,#[λY' H' #[Z',A',u0,u1,u2,u3]=>?_,λv H' #[w,A',y0,_,_,_]=>(by cases y0),λv H' #[w,A',y0,_,_,_]=>(by cases y0),λv H' #[w,A',y0,_,_,_]=>(by cases y0)]]
       cases u0;exact#[A',_,S5,ex.trans u1,u3,u2,w2]
      ·rename_i Z5 S5 h5;show#[A4,Z3,S3,_,S5,y3,y2,h5,#[λv H' #[w,A',y0,_,_,_]=>(by cases y0),λv H' #[w,A',y0,_,_,_]=>(by cases y0),λv H' #[w,A',y0,_,_,_]=>(by cases y0),λY' H' #[Z',A',u0,u1,u2,u3]=>?_]]
       cases u0;exact#[A',_,S5,ex.trans u1,u3,u2,w2]
      ·rename_i Z5 S5 h5;cases w2;show#[A4,Z3,S3,_,_,y3,y2,h5,#[λv H' #[w,A',y0,_,_,_]=>(by cases y0),λv H' #[w,A',y0,_,_,_]=>(by cases y0),λY' H' #[Z',A',u0,u1,u2,u3]=>?_,λv H' #[w,A',y0,_,_,_]=>(by cases y0)]]
       cases u0;exact hd.nx _ _ #[_,A',rfl,(z1.trans ex).trans u1,u2,u3]
      ·rename_i w5 S5 h5;cases w2;show#[A4,Z3,S3,_,_,y3,y2,h5,#[λv H' #[w,A',y0,_,_,_]=>(by cases y0),λv H' #[w,A',u0,u1,u2,u3]=>?_,λv H' #[w,A',y0,_,_,_]=>(by cases y0),λv H' #[w,A',y0,_,_,_]=>(by cases y0)]]
       cases u0;exact hd.rt _ _ #[_,A',rfl,(z1.trans ex).trans u1,u2,u3]
      ·cases w2
     ·cases w2
    ·cases w2
  ·cases e
 ·cases e
end
section
variable{prog:J2}{w:Kf}{B:Ke}{E:Jm->Jp->Prop}{s:Jp}
def AR {d:Ju}{es:Ki LJ}{ep:Jr}{Q:Jm->Jp->Prop}(hd:(d==sysModules)=false)(hm:RawD d es ep s.heap)(hfit:(es.size:JG) < 2 ^ 63)
  (h:Q (.int es.size (s.toks+1)) { s with toks:=s.toks+1+1 }):wpAny (model prog w) B (call (.builtin "len") [.ref d]) Q E s:=by
 have hT:=hm.type;obtain⟨o,ho,hc,hdat⟩:=id hm;show N3 kind_len plain_len entry_len (args_len1 _) ?_;unfold MX.«len»;show Jk (m:=oneArg "len" _) (Jt ?_);show Jk (m:=callSpecial? (.ref d) (Lq "__len__")) (Kt (name:=Lq "__len__") hT F.slot_dict_len (KN F.slot_dict_len hT F.entry_dict_len ?_ (F.args_dict_len_1 _)));change wpAny _ _ (dictSize d >>= _) _ _ s;unfold dictSize;show Jk (Jk (Na ho hdat (Jt ?_)));change wpAny _ _ (Rz d >>= _) _ _ s;show Jk (wpAny_pendingCount_other hd ?_);show wpAny_ret_mkInt ?_;rw[Nat.add_zero];change wpAny _ _ _ _ _ { s with toks:=s.toks+1 }
 show Jk (KQ (Jt ?_));show Jk (ME ?_);change wpAny _ _ (if ((es.size:Jr):JG) < 0 then _ else _) _ _ _
 rw[JZ ∅]
 change wpAny _ _ (if ((es.size:Jr):JG)>=2 ^ 63 then _ else _) _ _ _
 rw[JZ ∅]
 exact Jk (QX (Jt #[_,rfl,h]))
end
section
variable{X:Cx}{J:Jj (Ju×La)}{Y:L2.St}{H:Hp}{s:Jp}{A:Jj Ju}{S:aa}
def rc:LCall X (.builtin "len") pc:=by
 intro J s Y H A S xs vs us w S' I so rl rv e
 by_cases hd:∃i U,xs=[.ref i]/\jb S i=ba U
 ·obtain⟨i,U,rfl,hk⟩:=hd
  (dsimp only[pc]at e; simp only[hk]at e)
  cases e;cases rl with
  | cons r t=>
   cases t;cases rv with
   | cons ru rv2=>
    cases rv2;cases r with
    | ref ea=>
     obtain⟨xs,rd,kr⟩:=fS so hk ea;have d:=b8 I rd;obtain⟨es,ep,raw,he⟩:=d.raw;obtain rfl:_=Km _:=ru;have hl:es.size=xs.length:=by rw[<- JQ,he,Jl]
     have hz:=d.1;have hs:sizeLine=16777216:=Kq;show AR d.2.1 raw ∅ #[.int U.length,H,A,I.tok _,#[_,by rw[kr.length,hl]],.refl,so,.int]
 ·have:pc xs S=ni xs S:=by
   unfold pc;split
   ·rename_i i;split
    ·rename_i U hk;exact absurd #[i,U,rfl,hk] hd
    ·rfl
   ·rfl
  rw[this]at e;exact uw J s Y H A S xs vs us w S' I so rl rv e
abbrev IM (S:aa):W->Jq KY
 | .non=>ba "NoneType"|.bl _=>ba "bool"|.int _=>ba "int"|.str _=>ba "str"|.tup _=>ba "tuple"
 | .ref i=>match eW S i with
  | some _=>ba "list"
  | none=>(jb S i).map λ_=>"dict"
abbrev sA:Jj KY:=["bool","int","str","tuple","list","dict"]
abbrev oA (S:aa)(x:W)(c:KY):Jq J1:=match IM S x with
 | some t=>if sA.contains c then ba (t==c||(t == "bool" && c == "int"))else gV
 | none=>gV
def g6 {K:Jz}{t c:KY}(ht:t∈["NoneType","bool","int","str","tuple","list","dict"])(hc:c∈sA):PySem.W.kitOne K (.type t) (.type c)=ba (t==c||(t == "bool" && c == "int")):=by
 simp only[sA,JC,J7,Ld]at ht hc;rcases ht with rfl|rfl|rfl|rfl|rfl|rfl|rfl <;> rcases hc with rfl|rfl|rfl|rfl|rfl|rfl <;> rfl
def xm:CallR X (.builtin "isinstance") (λvs H Q=>∃A S x v c b,vs=[v,.ty c]/\StoreOk X.w X.K A H S/\Rel X.K A H x v/\oA S x c=ba b/\Q (.bl b) H):=by
 intro J s Y H vs us Q I rv ⟨A,S,x,v,c,b,e1,so,rx,e2,hq⟩;subst e1;cases rv with
 | cons r1 rv2=>cases rv2 with
  | cons r2 rv3=>
   cases rv3;obtain rfl:_=L8 c:=r2;unfold oA at e2;split at e2
   ·rename_i t ht;split at e2
    ·rename_i hc;cases e2;have hc':c∈sA:=by simpa using hc
     have fin:∀tk,EP X J Y Q (.bool (t==c||(t == "bool" && c == "int"))) { s with toks:=tk }:=λtk=>#[.bl _,H,I.tok _,rfl,hq]
     cases rx with
     | non=>cases ht; cases(show _=KC from r1); exact L5 PySem.W.kitx_none I.kIn Nm (g6 (by simp) hc') (λz=>nomatch z) fin
     | bl=>cases ht; cases(show _=Le _ from r1); exact L5 PySem.W.kitx_bool I.kIn Nm (g6 (by simp) hc') (λz=>nomatch z) fin
     | int=>cases ht; obtain⟨t',q⟩:=(show ∃t,_=Oi _ t from r1); cases q; exact L5 PySem.W.kitx_int I.kIn Nm (g6 (by simp) hc') (λz=>nomatch z) fin
     | str=>cases ht; obtain⟨t',q⟩:=(show ∃t,_=M2 _ t from r1); cases q; exact L5 PySem.W.kitx_str I.kIn Nm (g6 (by simp) hc') (λz=>nomatch z) fin
     | tup h1 r1'=>
      cases ht;obtain⟨its,rv,⟨o,q1,q2,_⟩,hz⟩:=I.tuple h1;cases(show _=Km _ from r1)
      exact L5 PySem.W.kitx_tuple I.kIn #[o,q1,q2] (g6 (by simp) hc') (λz=>nomatch z) fin
     | ref ea=>
      cases(show _=Km _ from r1)
      dsimp only[IM]at ht;split at ht
      ·rename_i ws hw;cases ht;obtain⟨vs,h1,_⟩:=aU so hw ea;obtain⟨its,rv,p,hz⟩:=I.list h1;obtain⟨o,q1,q2,_⟩:=p.isList;exact L5 PySem.W.kitx_list I.kIn #[o,q1,q2] (g6 (by simp) hc') (λz=>nomatch z) fin
      ·rw[Jo]at ht;obtain⟨U,hk,rfl⟩:=ht;obtain⟨xs,rd,kr⟩:=fS so hk ea;obtain⟨es,ep,⟨o,q1,q2,_⟩,he⟩:=(b8 I rd).raw;exact L5 PySem.W.kitx_dict I.kIn #[o,q1,q2.1] (g6 (by simp) hc') (λz=>nomatch z) fin
    ·cases e2
   ·cases e2
abbrev xn (c:KY)(f:FE):FE:=λZ S=>match f Z S with
 | some (x,S1)=>(oA S1 x c).map λb=>(.bl b,S1)
 | none=>gV
def DP {cn:JA}{c:KY}{e:JR}{p p2 pos:LN}{f:FE}(hg:Gl X "isinstance")(hm:X.mg "isinstance" = gV)(hg2:Gl X cn)(hm2:X.mg cn=gV)(hv2:bootBuiltins cn=ba (.type c))(hn2:cn≠"__name__")(hd2:(cn==("__debug__" : JA))=false)
  (he:GE X e f) (hs:starEach [e,.Name cn p2] X.env=(false,eval e X.env)::starEach [.Name cn p2] X.env):GE X (.Call (.Name "isinstance" p) [e,.Name cn p2] [] pos) (xn c f):=
 GE.of (oJ (xm) hg hm rfl (mQ he (mQ (zz (v:=.ty c) hg2 hm2 hv2 rfl hn2 hd2) vK) hs) #v[] #v[] hs rfl) λY H A Z S w S' er so e Q hq=>by
  unfold xn at e;split at e
  ·rename_i x1 S1 h1;rw[Jo]at e;obtain⟨b,e1,e2⟩:=e;cases e2;exact#[A,Z,S,x1,_,er,so,h1,λv H1 #[A1,z1,z2,z3]=>#[A1,_,x1,v,c,b,rfl,z2,z3,e1,hq _ _ #[A1,z1,z2,.bl]]]
  ·cases e
end
abbrev dk:Jj (T×W)->Jj W->Jq (Jj (T×W))
 | U,[]=>ba U
 | U,k::v::ws=>match gK k with
  | some t=>dk (eF U t v) ws
  | none=>gV
 | _,[_]=>gV
abbrev B7:FE:=λ_ S=>ba (.ref S.length,S++[.dic []])
abbrev pE (f:FA):FE:=λZ S=>match f Z (S++[.dic []])with
 | some (ws,S1)=>match S1[S.length]? with
  | some (.dic [])=>match dk [] ws with
   | some U=>ba (.ref S.length,S1.set S.length (.dic U))
   | none=>gV
  | _=>gV
 | none=>gV
section
variable (K:Jz) (A:Jj Ju) (H:Hp)
inductive RelP:Jj W->Jj (V×V)->Prop
 | nil:RelP [] []
 | cons {k v:W} {a b:V} {ws:Jj W} {ps:Jj (V×V)}:Rel K A H k a->Rel K A H v b->RelP ws ps->RelP (k::v::ws) ((a,b)::ps)
end
def RelP.mono {K:Jz}{A A':Jj Ju}{H H':Hp}(e:Ext K A H A' H'){ws:Jj W}{ps:Jj (V×V)}(h:RelP K A H ws ps):RelP K A' H' ws ps:=by
 induction h with
 | nil=>exact .nil
 | cons a b c ih=>exact .cons (a.mono e) (b.mono e) ih
section
variable{X:Cx}{J:Jj (Ju×La)}{Y:L2.St}{H:Hp}{s:Jp}{A:Jj Ju}{S:aa}
abbrev HZ (X:Cx)(A:Jj Ju)(H:Hp)(S':aa)(ws:Jj W):Jj (V×V)->Hp->Prop:=λps H'=>∃A',Ext X.K A H A' H'/\StoreOk X.w X.K A' H' S'/\RelP X.K A' H' ws ps
abbrev F1 (X:Cx)(pos:LN)(keys:Jj (Jq JR))(values:Jj JR)(f:FA):Prop:=
 ∀(J:Jj (Ju×La)) (s:Jp) (Y:L2.St) (H:Hp) (A:Jj Ju) (Z:Fm) (S:aa) (ws:Jj W) (S':aa),Inv X J Y H s->EnvRel X.K A H Z Y->StoreOk X.w X.K A H S->f Z S=ba (ws,S')->
  wpAny (model X.prog X.w) X.A (evalPairs (pairTrees keys values X.env pos)) (λvs s'=>∃ps H',Inv X J Y H' s'/\VV ps vs/\HZ X A H S' ws ps H') X.xe s
def AS {pos:LN}:F1 X pos [] [] eG:=λJ s Y H A Z S ws S' I er so e=>by
 cases e;exact pairTrees_nil_walk #[[],H,I,.nil,A,.refl,so,.nil]
def xo {pos:LN}{k v:JR}{ks:Jj (Jq JR)}{vs:Jj JR}{fk fv:FE}{f:FA}(hk:GE X k fk)(hv:GE X v fv)(hr:F1 X pos ks vs f):F1 X pos (ba k::ks) (v::vs) (bK fk (bK fv f)):=λJ s Y H A Z S ws S' I er so e=>by
 unfold bK at e;split at e
 ·rename_i w1 S1 h1;split at e
  ·rename_i w2 S2 h2;cases e;split at h2
   ·rename_i w3 S3 h3;split at h2
    ·rename_i w4 S4 h4;cases h2;show pairTrees_cons_walk (a7 (hk J s Y H (EndV X.w X.K A H S1 w1) I #[A,Z,S,_,_,er,so,h1,λ_ _ z=>z]) λu s1 #[x,H1,I1,r1,A1,e1,o1,z1]=>
      a7 (hv J s1 Y H1 (EndV X.w X.K A1 H1 S3 w3) I1 #[A1,Z,S1,_,_,er.mono e1,o1,h3,λ_ _ z=>z]) λu2 s2 #[x2,H2,I2,r2,A2,e2,o2,z2]=>
      a7 (hr J s2 Y H2 A2 Z S3 _ _ I2 (er.mono (e1.trans e2)) o2 h4) λvs' s3 #[ps,H3,I3,rel,A3,e3,o3,z3]=>?_)
     exact#[(x,x2)::ps,H3,I3,.cons #[r1,r2] rel,A3,e1.trans (e2.trans e3),o3,.cons (z1.mono (e2.trans e3)) (z2.mono e3) z3]
    ·cases h2
   ·cases h2
  ·cases e
 ·cases e
def l4 {r:Jr}{d:Ju}{E:Jm->Jp->Prop}(hu:X.A.units+10 < cLine):∀(vs:Jj (Jm×Jm)) (ps:Jj (V×V)) (ws:Jj W) (U U':Jj (T×W)) (s:Jp) (H:Hp) (S:aa) (Q:PUnit->Jp->Prop),
  Inv X J Y H s->StoreOk X.w X.K A H S->nw S r=ba U->A[r]?=ba d->RelP X.K A H ws ps->VV ps vs->dk U ws=ba U'->U.length+vs.length<=30->
  (∀s' H',Inv X J Y H' s'->Ext X.K A H A H'->StoreOk X.w X.K A H' (S.set r (.dic U'))->Q P1 s')->
  wpAny (model X.prog X.w) X.A (forIn vs P1 λ(x:Jm×Jm) (_:PUnit)=>(do dictSet d x.1 x.2; pure (Lk P1):R3 (ForInStep PUnit))) Q E s
 | [],_,_,U,U',s,H,S,Q,I,so,hr,ea,rp,vv,e,hl,hq=>by
  cases vv;cases rp;cases e;rw[Pa];show Jt (hq s H I .refl ?_);have hS:=iC hr;have:S.set r (.dic U)=S:=by
   apply Oa;intro j;rw[Lr];split
   ·rename_i e; subst e
    split
    ·exact hS.symm
    ·rename_i h; exact absurd (JK.mp hS).1 h
   ·rfl
  rw[this]; exact so
 | (ku,vu)::vs,_,_,U,U',s,H,S,Q,I,so,hr,ea,rp,vv,e,hl,hq=>by
  cases vv with
  | cons hv vv2=>
   cases rp with
   | @cons wk wv va vb ws2 ps2 rk rv' rp2=>
    dsimp only[dk]at e;split at e
    ·rename_i t ht;rw[Ny];obtain⟨xs,hH,kr⟩:=sa so hr ea;have dd0:=b8 I (.inl hH);have dd:=dd0.dict I kr;obtain⟨bk,e1,e2,rkk⟩:=iB ht rk hv.1;have e2:ku=Km bk:=e2;subst e2;obtain⟨q1,q2,q3⟩:=dI ht;rw[JL]at hl;have hz:xs.length<=sizeLine:=dd0.1;show Jk (Jk (wpAny_dictSet_heap (hsz:=hz) (show X.A.units+aN < cLine by unfold aN; omega) (jd I rkk q3) dd λh' dd' hs=>Jt ?_))
     have kr':=kr.put q2 q3 rkk rv' hv.2;have hz':(storedH xs t bk vu).length<=sizeLine:=by
      rw[<- kr'.length];have h2:=c9 U t wv;rw[Kq];omega
     have dn:DicAt X.w d (storedH xs t bk vu) h':=.of hz' dd0.2.1 dd';obtain⟨so',ex⟩:=so.writeO (iC hr) rfl ea (u:=dN X.w d (storedH xs t bk vu)) (n:=.dic (eF U t wv)) #[_,aI,kr'.mono (bN (.ext hH))];have I':Inv X J Y (bn H d (dN X.w d (storedH xs t bk vu))) { s with heap:=h',toks:=s.toks+(cy X.prog X.w).draws t }:=mX I (by rw[hH]; exact Nm) hs (let ⟨q,_,_,hq,_⟩:=dd'; #[q,hq]) dn.ok
     have hl':(S.set r (.dic (eF U t wv)))[r]?=ba (.dic (eF U t wv)):=by
      rw[Lr,JO rfl,JO (JK.mp (iC hr)).1]
     show l4 hu vs _ _ (eF U t wv) U' _ _ _ Q I' so' (by unfold nw; rw[hl']) ea (rp2.mono ex) vv2 e (by have:=c9 U t wv; omega) λs' H' I2 ex2 so2=>?_
     rw[List.set_set]at so2;exact hq s' H' I2 (ex.trans ex2) so2
    ·cases e
def AT {pos:LN}:GE X (.Dict [] [] pos) B7:=λJ s Y H Q I #[A,Z,S,w,S',er,so,e,hq]=>by
 cases e;have hn:=I.hok.fresh (Jy s.heap.objs.size);have dn:DicAt X.w s.heap.objs.size [] (s.heap.push { cls:=.type "dict",data:=.dict #[] }):=#[KW _,LO.mpr (Ne.symm (JX I.big)),Pb,_,#[],0,JF _ rfl,#[rfl,rfl,rfl],rfl,rfl];show wpAny_Dict_empty #[.ref s.heap.objs.size,_,I.laid (a:=s.heap.objs.size) (o:=dN X.w s.heap.objs.size []) (t':=s.toks) (λ_ _ q=>Jn _ q) (Jy _) dn.ok,rfl,hq _ _ #[A++[s.heap.objs.size],dO hn,so.pushO hn #[[],aI,.nil],.ref ?_]]
 rw[<- so.len]; simp
def AU {pos:LN}{keys:Jj (Jq JR)}{values:Jj JR}{f:FA}(hu:X.A.units+10 < cLine)(h:F1 X pos keys values f)(hall:keys.all (·.isSome)=true)(hl:keys.length=values.length)(h0:keys≠[])(h15:keys.length<=15):GE X (.Dict keys values pos) (pE f):=by
 intro J s Y H Q I ⟨A,Z,S,w,S',er,so,e,hq⟩;unfold pE at e;split at e
 ·rename_i ws S1 h1;split at e
  ·rename_i hS1;split at e
   ·rename_i U hp;cases e;have hn:=I.hok.fresh (Jy s.heap.objs.size);have dn:DicAt X.w s.heap.objs.size [] (s.heap.push { cls:=.type "dict",data:=.dict #[] }):=#[KW _,LO.mpr (Ne.symm (JX I.big)),Pb,_,#[],0,JF _ rfl,#[rfl,rfl,rfl],rfl,rfl];have I1:=I.laid (a:=s.heap.objs.size) (o:=dN X.w s.heap.objs.size []) (h':=s.heap.push { cls:=.type "dict",data:=.dict #[] }) (t':=s.toks) (λ_ _ q=>Jn _ q) (Jy _) dn.ok
    have ex0:Ext X.K A H (A++[s.heap.objs.size]) (bn H s.heap.objs.size (dN X.w s.heap.objs.size [])):=dO hn;have so0:StoreOk X.w X.K (A++[s.heap.objs.size]) (bn H s.heap.objs.size (dN X.w s.heap.objs.size [])) (S++[.dic []]):=so.pushO hn #[[],aI,.nil];have hlen:=pairTrees_length keys values X.env pos hall hl;have hne:pairTrees keys values X.env pos≠[]:=λhe=>by
     rw[he]at hlen;exact h0 (Mm.mp hlen.symm)
    rw[arm_eval_Dict,zip_pairTrees keys values X.env pos hall hl,dictDisplay_pairs _ hne ∅]
    show Jk (Nr (Jk ?_));unfold subDict;show Jk (Sd ?_);show Jk (KQ ?_);rw[JO ∅]
    show Jk (Ll (wpAny_evalPairs_len (h J _ Y _ _ Z _ _ _ I1 (er.mono ex0) so0 h1)) (λvs s₁ h₁=>?_) λ_ _ e=>e)
    obtain⟨hvl,ps,H2,I2,vv,A2,ex2,so2,rp⟩:=h₁;show KQ ?_;have ea:A2[S.length]?=ba s.heap.objs.size:=ex2.ad _ _ (by rw[<- so.len]; simp)
    show Jk (l4 hu vs ps ws [] U s₁ H2 S1 _ I2 so2 (by unfold nw; rw[hS1]) ea rp vv hp (by rw[Lj]; omega) λs' H' I3 ex3 so3=>?_)
    exact Jt (Jt (Jt #[.ref s.heap.objs.size,H',I3,rfl,hq _ _ #[A2,ex0.trans (ex2.trans ex3),so3,.ref ea]]))
   ·cases e
  ·cases e
 ·cases e
end
abbrev IN (wd:Kf)(a:Ju)(o:La)(xs:Jj (T×Ju×Jm)):It:=
 #[λi H=>H a=ba (.frz o (dN wd a xs))/\i < xs.length,λi H x H'=>H'=H/\∃q,xs[i]?=ba q/\x=.ref q.2.1,λi H=>H a=ba (.frz o (dN wd a xs))/\xs.length<=i]
def uR {P:J2}{w:Kf}{K:Jz}{tg:JR}(a it:Ju){o:La}{es:Ki LJ}{ep:Jr}{xs:Jj (T×Ju×Jm)}(hx:o.ExactDict)(hd:o.data=.dict es ep)(he:es.toList=xs.map (vX w)) :
  Turn P w K tg (IN w a o xs) [it] it (λi h=>h.IsKeyIter it a i es.size ep) where
 mem:=by simp
 obj:=λi h st b hb=>by
  have e:b=it:=by simpa using hb
  subst e;obtain⟨o,e,c,d⟩:=st;exact#[o,e,λv z=>by rw[d]at z; cases z]
 keep:=λi h h' st k=>st.at λo e=>k it (by simp) o e
 item:=by
  intro X hP hw hK hc i J s Y H E I hf st hg;subst hP hw hK;obtain⟨hH,hi⟩:=hg;have ho:s.heap.get? a=ba o:=(show ObjOk X.prog X.w H s.heap a (.frz o (dN X.w a xs))from I.hok a _ hH).1
  have hl:es.size=xs.length:=by rw[<- JQ,he,Jl]
  have hi':i < es.size:=∅
  obtain⟨f0,f1,f2,f3,f4,f5⟩:=hf it (by simp)
  have hk:es[i].key=.ref (xs[i]).2.1:=by
   have:es.toList[i]?=ba (vX X.w xs[i]):=by rw[he,Jv,JB hi]; rfl
   rw[KJ,L1 hi']at this;have:=Kw this;rw[this]; rfl
  show o4 st #[o,ho,hx,hd] hi' λh' st' sb=>?_
  have I1:Inv X J Y H { s with heap:=h' }:=I.turned (t':=s.toks) (λb o hb e=>(sb.2 b hb).trans e) f0 f1 f3 f4 f5
  obtain⟨o',e,c,d⟩:=id st';exact#[_,rfl,oG (s:={ s with heap:=h' }) e c d #v[] #[.ref (xs[i]).2.1,H,I1,hk,#[rfl,xs[i],JB hi,rfl],st',λb hb=>(hf b hb).1]]
 done:=by
  intro X hP hw hK hc i J s Y H E I hf st hg;subst hP hw hK;obtain⟨hH,hi⟩:=hg;have ho:s.heap.get? a=ba o:=(show ObjOk X.prog X.w H s.heap a (.frz o (dN X.w a xs))from I.hok a _ hH).1
  have hl:es.size=xs.length:=by rw[<- JQ,he,Jl]
  obtain⟨f0,f1,f2,f3,f4,f5⟩:=hf it (by simp)
  exact se (I.ok.hd hc) st #[o,ho,hx,hd] ∅ λh' eb=>#[rfl,I.turned (t':=s.toks) (λb o hb e=>eb b o hb e) f0 f1 f3 f4 f5]
 self:=λ_ _ _ _ _ st h=>O7 st h
abbrev da (f:FE):FI:=λZ S=>match f Z S with
 | some (.tup ws,S1)=>ba (.its ws,S1)
 | some (.str x,S1)=>if (x.cps.all λc=>decide (c < 128))=true then ba (.its (x.cps.toList.map λc=>.str #[[c].toArray]),S1)else gV
 | some (.ref r,S1)=>match eW S1 r with
  | some _=>ba (.live r,S1)
  | none=>match jb S1 r with
   | some U=>ba (.its (U.map λp=>p.1.w),S1.set r (.frd U))
   | none=>gV
 | _=>gV
section
variable{X:Cx}{J:Jj (Ju×La)}{Y:L2.St}{H:Hp}{s:Jp}{A:Jj Ju}{S:aa}
def xp {a:Ju}{o:La}{U:Jj (T×W)}{xs:Jj (T×Ju×Jm)}(hH:H a=ba (.frz o (dN X.w a xs)))(kr:KRel X.K A H U xs):MIt X.w X.K (.its (U.map λp=>p.1.w)) (IN X.w a o xs) A H:=by
 show#[λA' H' S i w e so hi=>?_,λA' H' S i e so hi=>?_]
 ·simp only[MI.at,JT]at hi;obtain⟨v,h1,h2⟩:=((kr.mono e).keysL).get hi;rw[Jv,Jo]at h1;obtain⟨q,q1,q2⟩:=h1;show#[#[e.fz _ _ _ hH,(JK.mp q1).1],λx H2 #[z1,q',z2,z3]=>?_]
  subst z1 z3;rw[q1]at z2; cases z2
  exact#[.refl,so,by rw[q2]; exact h2]
 ·simp only[MI.at,JT]at hi;show#[e.fz _ _ _ hH,?_];have:=KM.mp hi;rw[Jl,kr.length]at this;exact this
def AV {x:JA}:MIt X.w X.K (.its (x.cps.toList.map λc=>.str #[[c].toArray])) (IK x) A H:=by
 show#[λA' H' S i w e so hi=>?_,λA' H' S i e so hi=>?_]
 ·simp only[MI.at,JT]at hi;rw[Jv,Jo]at hi;obtain⟨c,hc,rfl⟩:=hi;rw[KJ]at hc;show#[(Lv.mp hc).1,λv H2 #[z1,c',z2,z3]=>?_]
  subst z1 z3;rw[hc]at z2; cases z2
  exact#[.refl,so,.str]
 ·simp only[MI.at,JT]at hi;rw[Jv,OD,KJ]at hi;exact Array.getElem?_eq_none_iff.mp hi
def AW {tg l:JR}{f:FE}(h:GE X l f):GI X tg l (da f):=by
 intro J s Y H R I ⟨A,Z,S,mi,S',er,so,e,hq⟩
 by_cases hs:∃x S1,f Z S=ba (.str x,S1)
 ·obtain⟨x,S1,h1⟩:=hs;simp only[da,h1]at e;split at e
  ·rename_i ha;cases e;show a7 (h J s Y H (EndV X.w X.K A H _ (.str x)) I #[A,Z,S,_,_,er,so,h1,λ_ _ z=>z]) λv s1 #[x',H1,I1,r1,A1,e1,o1,z1]=>?_
   cases z1;obtain⟨tk,rfl⟩:=r1;show P4 ha ?_;show#[s1.heap.objs.size,[s1.heap.objs.size],_,_,H1,rfl,I1.kept (t':=s1.toks) λb o e=>Jn _ e,wz x tk _,#[_,JF _ rfl,rfl,rfl],λb hb=>?_,hq _ _ A1 e1 o1 AV]
   have e:b=s1.heap.objs.size:=by simpa using hb
   subst e;exact I1.fpOk (Jy _) (I1.hok.fresh (Jy _))
  ·cases e
 by_cases hd:∃r S1 U,f Z S=ba (.ref r,S1)/\eW S1 r=gV/\jb S1 r=ba U
 ·obtain⟨r,S1,U,h1,h2,h3⟩:=hd;simp only[da,h1,h2,h3]at e;cases e;show a7 (h J s Y H (EndV X.w X.K A H S1 (.ref r)) I #[A,Z,S,_,_,er,so,h1,λ_ _ z=>z]) λv s1 #[x,H1,I1,r1,A1,e1,o1,z1]=>?_
  cases z1 with
  | @ref _ a ea=>
   obtain rfl:v=Km a:=r1;have fz:∃o xs H2,Inv X J Y H2 s1/\Ext X.K A1 H1 A1 H2/\StoreOk X.w X.K A1 H2 (S1.set r (.frd U))/\H2 a=ba (.frz o (dN X.w a xs))/\KRel X.K A1 H2 U xs:=by
    unfold jb at h3;split at h3
    ·rename_i k hk;cases h3;obtain⟨xs,hH,kr⟩:=o1.obj r _ a hk ea;have d:=b8 I1 (.inl hH);obtain⟨_,_,_,o,es,ep,q1,q2,q3,q4⟩:=id d;obtain⟨so',ex⟩:=o1.writeO hk rfl ea (u:=.frz o (dN X.w a xs)) (n:=.frd U) #[o,xs,aI,kr.mono (bN (.ext hH))];exact#[o,xs,_,mX (h':=s1.heap) (t':=s1.toks) (ob:=.frz o (dN X.w a xs)) I1 (by rw[hH]; exact Nm) (Ql _ _) #[o,q1] #[q1,d.ok],ex,so',aI,kr.mono ex]
    ·rename_i k hk;cases h3;obtain⟨o,xs,hH,kr⟩:=o1.obj r _ a hk ea;have:S1.set r (.frd U)=S1:=by
      apply Oa;intro j;rw[Lr];split
      ·rename_i e; subst e
       split
       ·exact hk.symm
       ·rename_i h; exact absurd (JK.mp hk).1 h
      ·rfl
     rw[this];exact#[o,xs,H1,I1,.refl,o1,hH,kr]
    ·cases h3
   obtain⟨o,xs,H2,I2,ex,so2,hH,kr⟩:=fz;have d:=b8 I2 (.inr #[o,hH]);have ho:s1.heap.get? a=ba o:=(show ObjOk X.prog X.w H2 s1.heap a (.frz o (dN X.w a xs))from I2.hok a _ hH).1
   obtain⟨_,hsm,_,o',es,ep,q1,q2,q3,q4⟩:=id d;rw[ho]at q1;cases q1;show oZ hsm #[o,ho,q2,q3] ?_;show#[s1.heap.objs.size,[s1.heap.objs.size],_,_,H2,rfl,I2.kept (t':=s1.toks) λb o e=>Jn _ e,uR a _ q2 q3 q4,#[_,JF _ rfl,rfl,rfl],λb hb=>?_,hq _ _ A1 (e1.trans ex) so2 (xp hH kr)]
   have e:b=s1.heap.objs.size:=by simpa using hb
   subst e;exact I2.fpOk (Jy _) (I2.hok.fresh (Jy _))
 ·have:da f Z S=AL f Z S:=by
   unfold da AL;cases hf:f Z S with
   | none=>rfl
   | some p=>
    obtain⟨w,S1⟩:=p;cases w with
    | ref r=>
     cases h2:eW S1 r with
     | some _=>simp only[h2]
     | none=>
      cases h3:jb S1 r with
      | none=>simp only[h2,h3]
      | some U=>exact absurd #[r,S1,U,hf,h2,h3] hd
    | str x=>exact absurd #[x,S1,hf] hs
    | _=>rfl
  rw[this]at e;exact DN h J s Y H R I #[A,Z,S,mi,S',er,so,e,hq]
end
abbrev AX (xs:Jj W)(S:aa):Jq (W×aa):=match xs with
 | [.ref i]=>match FM S i with
  | some ss=>ba (.int ss.length,S)
  | none=>gV
 | _=>gV
section
variable{X:Cx}
def re:LCall X (.builtin "len") AX:=by
 intro J s Y H A S xs vs us w S' I so rl rv e;unfold AX at e;split at e
 ·rename_i i;obtain⟨a,ea,rfl⟩:=jO (xs:=[]) rl rv;split at e
  ·rename_i ss hs;cases e;obtain⟨o,ho,hex,es,ep,t,hd,tb⟩:=Dp I so hs ea;have hz:es.size=ss.length:=by
    have:=tb.pm.length_eq
    rwa [Jl,JQ]at this
   have hf:=tb.few;exact call_len_set ho hex hd tb.fit (by rw[hz]; have h2:scanBound<=2 ^ 40:=#v[]; omega) #[.int ss.length,H,A,I.tok _,#[_,by rw[hz]],.refl,so,.int]
  ·cases e
 ·cases e
end
abbrev nJ (x:W)(xs:Jj W)(S:aa):Jq (W×aa):=match x,xs with
 | .str x,[.str y]=>if (y.length==0)=false/\x.length+2<=sizeLine then ba (.ref S.length,S++[.lst ((K5 x y).map .str)])else gV
 | _,_=>gV
def uS (x y:JA):(K5 x y).length<=x.length+2:=by
 unfold K5;split
 ·exact Q9 1 (x.length+1)
 ·split
  ·exact Q9 1 (x.length+1)
  ·rw[length_partsBetween];have:=StrLaws.occ_length_le x y 0 x.length (x.length+1);omega
def l7:∀(zs:Jj JA) (t:Jr),Vals (zs.map V.str) (strsFrom t zs)
 | [],_=>.nil
 | _::zs,t=>.cons #[_,rfl] (l7 zs _)
section
variable{X:Cx}{J:Jj (Ju×La)}{Y:L2.St}{H:Hp}{s:Jp}{A:Jj Ju}{S:aa}
def sB:∀zs:Jj JA,RelL X.K A H (zs.map W.str) (zs.map V.str)
 | []=>.nil
 | _::zs=>.cons .str (sB zs)
def uT {zs:Jj JA}{its:Jj Jm}{tk:Jr}(I:Inv X J Y H s)(so:StoreOk X.w X.K A H S)(hl:zs.length<=sizeLine)(rv:Vals (zs.map V.str) its) :
  PostE X J Y A H (S++[.lst (zs.map .str)]) (.ref S.length) (.ref s.heap.objs.size) { s with heap:=s.heap.push { cls:=.type "list",data:=.seq its.toArray },toks:=tk }:=
 iy (dr:=s.drawn) (u:=.lst (zs.map V.str)) I so (λb o e=>Jn _ e) (Jy _) #[by rw[Jl]; exact hl,its,0,rv,JF _ rfl] λhn=>#[zs.map V.str,aI,sB zs]
def pG:io X "str.split" nJ:=by
 intro J s Y H A S x a u xs vs us w S' I so rx ru rl rv e;unfold nJ at e;split at e
 ·rename_i x y;split at e
  ·rename_i hc;cases e;cases rx;obtain⟨t,rfl⟩:=ru;cases rl with
   | cons r1 r2=>
    cases r2;cases r1;cases rv with
    | cons q1 q2=>
     cases q2;obtain⟨t2,rfl⟩:=q1;have few:=uS x y;have fin:∀(its:Jj Jm) (tk:Jr),Vals ((K5 x y).map V.str) its->PostE X J Y A H (S++[.lst ((K5 x y).map .str)]) (.ref S.length) (.ref s.heap.objs.size) { s with heap:=s.heap.push { cls:=.type "list",data:=.seq its.toArray },toks:=tk }:=λits tk rv=>uT I so ∅ rv
     have go:∀ {Sp:LL},Meets (MX.«str.split» #[[.str x t,.str y t2],[]]) Sp->Sp X.A (wants (PostE X J Y A H (S++[.lst ((K5 x y).map .str)]) (.ref S.length)) X.xe) s->wpAny (model X.prog X.w) X.A (call (.builtin "str.split") [.str x t,.str y t2]) (PostE X J Y A H (S++[.lst ((K5 x y).map .str)]) (.ref S.length)) X.xe s:=λm h=>MD F.slot_str_split (PX s x t) F.entry_str_split (F.args_str_split_2 _ _) m h
     cases h1:(decide (x.length < y.length)||decide (LP x < LP y))with
     | true=>
      have es:K5 x y=[x]:=by unfold K5; rw[JO h1]
      exact go (meets_str_split_cannot_occur x y t t2 h1) (fin [.str x t] s.toks (by rw[es]; exact .cons #[_,rfl] .nil))
     | false=>
      cases h2:(LI x y 0 x.length (x.length+1)).isEmpty with
      | true=>
       have es:K5 x y=[x]:=by unfold K5; rw[JZ (by rw[h1]; exact JP),JO h2]
       exact go (meets_str_split_not_found x y t t2 h1 hc.1 h2) (fin [.str x t] s.toks (by rw[es]; exact .cons #[_,rfl] .nil))
      | false=>
       have es:K5 x y=RM x (LI x y 0 x.length (x.length+1)) y.length:=by unfold K5; rw[JZ (by rw[h1]; exact JP),JZ (by rw[h2]; exact JP)]
       show go (meets_str_split_sep x y t t2 h1 hc.1 h2 ∅ (by rw[<- es]; omega)) ?_
       rw[<- es];exact fin _ _ (l7 _ _)
  ·cases e
 ·cases e
abbrev iI (x:W)(xs:Jj W)(S:aa):Jq (W×aa):=match x,xs with
 | .str x,[.str y]=>ba (.bl (NR x y),S)
 | _,_=>gV
def nK:io X "str.startswith" iI:=by
 intro J s Y H A S x a u xs vs us w S' I so rx ru rl rv e;unfold iI at e;split at e
 ·rename_i x y;cases e;cases rx;obtain⟨t,rfl⟩:=ru;cases rl with
  | cons r1 r2=>
   cases r2;cases r1;cases rv with
   | cons q1 q2=>
    cases q2;obtain⟨t2,rfl⟩:=q1;exact SC.startswith #[.bl _,H,A,I,rfl,.refl,so,.bl]
 ·cases e
abbrev xq (xs:Jj W)(S:aa):Jq (W×aa):=match xs with
 | [.int i,.int j]=>ba (.int (if j < i then j else i),S)
 | _=>gV
def rg (hc:X.calm=true):LCall X (.builtin "min") xq:=by
 intro J s Y H A S xs vs us w S' I so rl rv e;unfold xq at e;split at e
 ·rename_i i j;cases e;cases rl with
  | cons r1 r2=>cases r2 with
   | cons r3 r4=>
    cases r4; cases r1; cases r3
    exact CallR.go (t8 hc) I rv #[i,j,rfl,.here so .int]
 ·cases e
end
def ji {tv:SD}{A:Ke}{E:Jm->Jp->Prop}{s:Jp}{β:Type}{m:Jr}(f:Jr->β->R3 (ForInStep β))(I:Jr->β->Jp->Prop)(Q:β->Jp->Prop)
  (turn:∀i b s,i < m->I i b s->wpAny tv A (f i b) (λr s'=>match r with|.yield b'=>I (i+1) b' s'|.done b'=>Q b' s') E s)
  (fin:∀b s,I m b s->Q b s) (b:β) (h:I 0 b s):wpAny tv A (forIn [0:m] b f) Q E s:=by
 rw[Pc];simp only[R4,Qt,Nat.add_sub_cancel,Nat.div_one];show On _ (λbI b s'=>∃i,i<=m/\bI=Sf i (m - i)/\I i b s') _ ?_ ?_ _ _ #[0,KW _,by simp,h]
 ·rintro x bI b s' ⟨i,hi,hr,hI⟩;have hlt:i < m:=by
   rcases Qu i m with h|h
   ·exact h
   ·rw[Nat.sub_eq_zero_of_le h]at hr; simp at hr
  obtain⟨rfl,hrest⟩ : x=i/\bI=Sf (i+1) (m - (i+1)):=by
   have e:m - i=(m - (i+1))+1:=∅
   rw[e,QK]at hr;injection hr with h1 h2
   exact#[h1,h2]
  show Ll (turn x b s' hlt hI) (λr s2 hr2=>?_) λ_ _ e=>e
  cases r with
  | yield b'=>exact#[x+1,hlt,hrest,hr2]
  | done b'=>exact hr2
 ·rintro b s' ⟨i,hi,hr,hI⟩;have:i=m:=by
   rcases Qu i m with h|h
   ·have e:m - i=(m - (i+1))+1:=∅
    rw[e,QK]at hr; cases hr
   ·omega
  exact fin b s' (this ▸ hI)
open SeqAt in
def ly (l:Ju)(items:Ki Jm)(n:Jr)(dd:Jq Ju)(sl:Ki (Jq Jm))(x:Jm)(e:Jm->J1)(j:Jr)(hj:j < items.size)
  (hit:e items[j]=true) (hno:∀m (hm:m < items.size),m < j->e items[m]=false) :
  Meets (MX.«tuple.index» #[[.ref l,x],[]])
   (λA R s=>s.heap.get? l=ba { cls:=.type "tuple",dict:=dd,data:=.seq items n,slots:=sl }/\(∀y,y∈items->EqAt A.in1 s y x (e y))/\R (.ok (.ret (.int j s.toks))) { s with toks:=s.toks+1 }):=
 .of_wp λprog w A R s h=>by
  obtain⟨hp,g,d,tk,os⟩:=s; obtain⟨hl,he,h⟩:=h
  wp_walk using MW hl,ji _ (λi b s'=>b.1=gV/\s'=#[hp,g,d,tk,os]/\i<=j) _
  case turn=>
   rintro i b s' hi ⟨hb,rfl,hij⟩;have hi2:i < items.size:=∅
   rw[L1 hi2];show Jk (he _ (Array.getElem_mem hi2) prog w _ _ ?_)
   by_cases ej:i=j
   ·subst ej;rw[hit]
    wp_walk
    exact#[_,rfl,h]
   ·rw[hno i hi2 ∅]
    wp_walk
    exact#[rfl,rfl,∅]
  case fin=>
   rintro b s' ⟨hb,rfl,hij⟩;rw[Oz]at hij;omega
  case h=>exact#[rfl,rfl,KW _]
abbrev eH (w x:W)(S:aa):Jq (W×aa):=match cq S w with
 | some ys=>if (bh x&&ys.all bh)&&decide (ys.length<=1000000)then(ys.findIdx? λz=>qB z x).map λj=>(.int (j:Jr),S)else gV
 | none=>gV
abbrev DQ (w:W)(xs:Jj W)(S:aa):Jq (W×aa):=match xs with
 | [x]=>eH w x S
 | _=>gV
section
variable{X:Cx}
def iJ {A:Jj Ju}{H:Hp}{x:W}{v:V}(rx:Rel X.K A H x v)(fx:bh x=true):∀ {ws:Jj W} {vs:Jj V} {us:Jj Jm},RelL X.K A H ws vs->Vals vs us->ws.all bh=true->∀(j:Jr) (h:j < us.length) (h':j < ws.length),ox v us[j]=qB ws[j] x
 | _,_,_,.nil,.nil,_,j,h,_=>absurd h (Nat.not_lt_zero _)
 | _,_,_,.cons r t,.cons q p,f,j,h,h'=>by
  rw[Kl,Js]at f;cases j with
  | zero=>exact(qN q (fQ r f.1)).trans (r0 r rx f.1 fx)
  | succ j=>exact iJ rx fx t p f.2 j (OE h) (OE h')
def jE (id:KY)(hid:(id = "tuple.index")\/(id = "list.index")):io X id (λw xs S=>match w with|.tup _=>if id = "tuple.index" then DQ w xs S else gV|.ref _=>if id = "list.index" then DQ w xs S else gV|_=>gV):=by
 intro J s Y H A S x a u xs vs us w S' I so rx ru rl rv ek;have key:DQ x xs S=ba (w,S')->∃(b:V) (y:W) (v:Jm) (ys:Jj W) (j:Jr),vs=[b]/\us=[v]/\xs=[y]/\Rel X.K A H y b/\RelV b v/\bh y=true/\ys.all bh=true/\ys.length<=1000000/\cq S x=ba ys/\(ys.findIdx? λz=>qB z y)=ba j/\w=.int (j:Jr)/\S'=S:=λe=>by
  clear ek
  match xs,rl,e with
  | [],_,e=>cases e
  | _::_::_,_,e=>cases e
  | [y],rl,e=>
   replace e:eH x y S=ba (w,S'):=e;unfold eH at e;split at e
   ·rename_i ys hy;split at e
    ·rename_i hf;rw[Jo]at e;obtain⟨j,hj,e⟩:=e;cases e;rw[Js,Js,JW]at hf;cases rl with
     | cons r t=>cases t; cases rv with
      | cons q p=>cases p; exact#[_,y,_,ys,j,rfl,rfl,rfl,r,q,hf.1.1,hf.1.2,hf.2,hy,hj,rfl,rfl]
    ·cases e
   ·cases e
 have e:=ek;clear ek;cases rx with
 | tup hq r1=>
  dsimp only at e;split at e
  ·rename_i hi;subst hi;obtain⟨b,y,v,ys,j,rfl,rfl,rfl,ry,rb,fy,fs,hl0,hs,hj,rfl,rfl⟩:=key e;cases hs;cases ru;obtain⟨its,r2,⟨⟨cls,dd,data,sl⟩,eo,hc,n,hd⟩,hz⟩:=I.tuple hq;dsimp only at hc hd;subst hc hd;have hl:its.length=_:=r2.length.symm.trans r1.length.symm;obtain⟨hj1,hj2,hj3⟩:=Lo.mp hj;show MD Of #[_,eo,rfl] PySem.F.entry_tuple_index (PySem.F.args_tuple_index_2 _ _) (ly _ its.toArray n dd sl v (ox b) j (by rw[JJ,hl]; exact hj1) ?_ λm hm h=>?_) #[eo,λz hz=>dM rb (fQ ry fy) r2 (gx r1 fs) z (by simpa using hz),#[.int _,H,A,I.tok _,#[_,rfl],.refl,so,.int]]
   ·exact(iJ ry fy r1 r2 fs j (by rw[hl]; exact hj1) hj1).trans hj2
   ·have hm':m < its.length:=by simpa using hm
    exact(iJ ry fy r1 r2 fs m hm' (by rw[<- hl]; exact hm')).trans (by simpa using hj3 m h)
  ·cases e
 | ref ea=>
  dsimp only at e;split at e
  ·rename_i hi;subst hi;obtain⟨b,y,v,ys,j,rfl,rfl,rfl,ry,rb,fy,fs,hl0,hs,hj,rfl,rfl⟩:=key e;obtain⟨ws',hq,r1⟩:=aU so hs ea;cases ru;obtain⟨its,r2,p,hz⟩:=I.list hq;obtain⟨⟨cls,dd,data,sl⟩,n,eo,hc,hdn,hd⟩:=p;dsimp only at hc hd hdn;subst hc hd hdn;have hl:its.length=ys.length:=r2.length.symm.trans r1.length.symm;obtain⟨hj1,hj2,hj3⟩:=Lo.mp hj;show MD Os #[_,eo,rfl] PySem.F.entry_list_index (PySem.F.args_list_index_2 _ _) (SeqAt.list_indexAt _ its.toArray n gV sl v (ox b) j (by rw[JJ,hl]; exact hj1) ∅ ?_ λm hm h=>?_) #[eo,λz hz=>dM rb (fQ ry fy) r2 (gx r1 fs) z (by simpa using hz),#[.int _,H,A,I.tok _,#[_,rfl],.refl,so,.int]]
   ·exact(iJ ry fy r1 r2 fs j (by rw[hl]; exact hj1) hj1).trans hj2
   ·have hm':m < its.length:=by simpa using hm
    exact(iJ ry fy r1 r2 fs m hm' (by rw[<- hl]; exact hm')).trans (by simpa using hj3 m h)
  ·cases e
 | _=>cases e
end
abbrev bo (mi:MI)(g:FG)(c:FT)(f:FE):Jr->Jr->Fm->aa->Jq (Jj W×aa)
 | 0,i,_,S=>match mi.at S i with
  | some gV=>ba ([],S)
  | _=>gV
 | n+1,i,Z,S=>match mi.at S i with
  | some (ba w)=>match g w Z S with
   | some (Z1,S1)=>match c Z1 S1 with
    | some (true,S2)=>match f Z1 S2 with
     | some (y,S3)=>match bo mi g c f n (i+1) Z1 S3 with
      | some (ys,S4)=>ba (y::ys,S4)
      | none=>gV
     | none=>gV
    | some (false,S2)=>bo mi g c f n (i+1) Z1 S2
    | none=>gV
   | none=>gV
  | _=>gV
abbrev cL (cap:Jj (Jq Jr))(Z:Fm):Fm:=cap.map λo=>match o with
 | some j=>(Z[j]?).join
 | none=>gV
abbrev kD (fi:FI)(g:FG)(c:FT)(f:FE)(cap:Jj (Jq Jr)):FE:=λZ S=>match fi Z S with
 | some (mi,S1)=>match mi.len S1 with
  | some n=>match bo mi g c f n 0 (cL cap Z) S1 with
   | some (ys,S2)=>j7 S2 ys
   | none=>gV
  | none=>gV
 | none=>gV
abbrev B8:FT:=λ_ S=>ba (true,S)
abbrev lu (X:Cx)(scope:My)(cl:Jj (JA×Ju))(C:Ju)(N:Jj JA)(s0:Jp)(H0:Hp)(ex:Jj Ju):Cx:=
 { X with env:=compEnvC scope cl C X.env,N:=N,s₀:=s0,H₀:=H0,outer:=X.stack,stack:=X.stack,ex:=ex,fn:=λ_=>false,pn:=[],xe:=λ_ _=>KP }
structure CompOk (X:Cx)(scope:My)(cl:Jj (JA×Ju))(N:Jj JA)(cap:Jj (Jq Jr)):Prop where
 clos:closureFor scope X.env=pure cl
 kind:scope.kind=.function
 names:∀y∈scope.names,y.2=.local->scope.names.lookup y.1=ba .local
 nocell:∀y∈scope.names,y.2≠.cell
 sub:∀x c,cl.lookup x=ba c->X.env.cells.lookup x=ba c
 has:∀x,((relabel scope X.env).names.lookup x=ba .cell\/(relabel scope X.env).names.lookup x=ba .free)->∃c,cl.lookup x=ba c
 len:cap.length=N.length
 cap:∀(i j:Jr) (x:JA),cap[i]?=ba (ba j)->N[i]?=ba x->X.N[j]?=ba x/\(X.env.kindOf x=ba .cell\/X.env.kindOf x=ba .free)/\((relabel scope X.env).names.lookup x=ba .cell\/(relabel scope X.env).names.lookup x=ba .free)
def gL {prog:J2}{w:Kf}{A:Ke}{R:QC->Jp->Prop}{s:Jp}{elt target iter:JR}{ifs:Jj JR}{scope:My}{pos:LN}{it acc:Jm}{env:P9}(I:Jr->Jp->Prop)
    (turn:∀n s,I n s->wpAny (model prog w) A (pyNext it) (λr s₁=>match r with
      | none=>R (.ok .next) s₁
      | some v=>wpAny (model prog w) A (letOwnedTupleGo target it v) (λ_ s₁=>wpAny (model prog w) A (assign target env v) (λ_ s₂=>
          wpAny (model prog w) A (forIn ifs true λc r=>if r=true then do let ok <- isTrue c env (eval c env); pure (Lk ok)else pure (Lk r)) (λok s₃=>
            if ok=true then wpAny (model prog w) A (eval elt env) (λx s₄=>
              wpAny (model prog w) A (call (.builtin "list.append") [acc,x]) (λ_ s₅=>∃m,m < n/\I m s₅) (λ_ _=>KP) s₄) (λ_ _=>KP) s₃
            else ∃m,m < n/\I m s₃) (λ_ _=>KP) s₂) (λ_ _=>KP) s₁) (λ_ _=>KP) s₁) (λ_ _=>KP) s)
    (n:Jr) (h:I n s) :
    codeAny (model prog w) A (.compLoop (.ListComp elt [#[target,iter,ifs,0]] scope pos) 0 it acc env) R s:=by
  show codeAny_loop rfl I (λn s hI=>?_) n h
  change wpAny _ A ((compTurn (.ListComp elt [#[target,iter,ifs,0]] scope pos) 0 it acc env).onRaise (λx=>do noteFrame x env; theTreesLotGoes x)) _ _ s
  show wpAny_noted ?_;rw[compTurn_list];show Jk (Nr (Jk (Ll (turn n s hI) (λr s₁ h₁=>?_) λ_ _ h'=>h'.elim)))
  cases r with
  | none=>exact Jt h₁
  | some v=>
    show Jk (Ll h₁ (λ_ s₁ h₁=>?_) λ_ _ h'=>h'.elim)
    show Jk (Ll h₁ (λ_ s₂ h₂=>Jk (Ll h₂ (λok s₃ h₃=>?_) λ_ _ h'=>h'.elim)) λ_ _ h'=>h'.elim)
    cases ok with
    | false=>exact Jt #[rfl,h₃]
    | true=>
      exact Jk (Jk (Ll h₃ (λx s₄ h₄=>Jk (Ll h₄ (λ_ s₅ h₅=>Jt (Jt #[rfl,h₅])) λ_ _ h'=>h'.elim)) λ_ _ h'=>h'.elim))
section
variable{X:Cx}{J:Jj (Ju×La)}{Y:L2.St}{H:Hp}{s:Jp}
def Inv.adopt {D:Ju}{o:HO}(I:Inv X J Y H s)(hn:H D=gV)(h1:D∈X.ex\/X.s₀.heap.objs.size<=D)(hL:D≠X.env.locals)(h2:∀x c,X.env.cells.lookup x=ba c->c≠D)(h3:∀p∈X.pn++J,p.1≠D)
  (new:ObjOk X.prog X.w (bn H D o) s.heap D o):Inv X J Y (bn H D o) s:=by
 have nit:∀b u,H b=ba u->b≠D:=λb u e z=>by rw[z,hn]at e; cases e
 have key:Inv X J Y (bn H D o) { s with heap:=s.heap,gens:=s.gens,drawn:=s.drawn,toks:=s.toks }:=by
  show I.step (g':=s.gens) (d':=s.drawn) (t':=s.toks) (h':=s.heap) (ch:=[D]) (λb hb=>?_) (λb o _ _ hc e _=>e) (λb o _ _ hc e _=>#[o.slots,e]) (λb o hc e n=>?_)
   (λb o hc e=>#[o,e]) (λb xs e=>?_) (λb o xs e=>?_) (λb ps e=>#[#[],?_]) (λm hm=>hm) (λb u e=>?_) I.bare
  ·have e:b=D:=by simpa using hb
   subst e;exact#[h1,hL,h2,h3]
  ·rw[aD (λz=>hc (by simp[z]))]; exact n
  ·rw[aD (nit b _ e)]; exact e
  ·rw[aD (nit b _ e)]; exact e
  ·rw[aD (nit b _ e),e]; simp
  ·by_cases hb:b=D
   ·subst hb; rw[aI]at e; cases e; exact new
   ·rw[aD hb]at e;show(I.hok b u e).stay (λc v hc q=>q) (λc q=>?_) λc xs q=>?_
    ·rw[aD (nit c _ q)]; exact q
    ·rw[aD (nit c _ q)]; exact q
 exact key
def DR {scope:My}{cl:Jj (JA×Ju)}{N:Jj JA}{cap:Jj (Jq Jr)}{C:Ju}{s0:Jp}{ex:Jj Ju}(I:Inv X J Y H s)(ck:CompOk X scope cl N cap)(hs:s.heap.objs.size<=s0.heap.objs.size)(hC:s0.heap.objs.size<=C)
  (hk:∀b o,s.heap.get? b=ba o->s0.heap.get? b=ba o) (hex:∀b∈ex,(b≠C)/\(∀x c,X.env.cells.lookup x=ba c->c≠b)/\(∀o,X.base.get? b≠ba o)/\b∉qC X.stack) :
  (lu X scope cl C N s0 H ex).Ok where
 mod:=I.ok.mod
 kind:=ck.kind
 glob:=I.ok.glob
 blt:=I.ok.blt
 above:=hC
 inj:=λx y c h1 h2=>I.ok.inj x y c (ck.sub x c h1) (ck.sub y c h2)
 has:=λx h=>ck.has x h
 cab:=λx c h=>by cases h
 hd:=I.ok.hd
 frames:=I.ok.frames
 stk:=.inl rfl
 exf:=λb hb=>#[(hex b hb).1,λx c h=>(hex b hb).2.1 x c (ck.sub x c h)]
 bs:=λb o e=>#[hk b o (I.bk b o e),(I.bs b o e).2]
 bsz:=J8 (J8 I.ok.bsz I.sz) hs
 noex:=λb o e hb=>(hex b hb).2.2.1 o e
 exfs:=λb hb=>(hex b hb).2.2.2
 funs:=I.stack.of_keeps λb o e _=>#[o,hk b o e,rfl]
 frf:=I.stkFree
structure BlockOk (X:Cx)(scope:My)(cl:Jj (JA×Ju))(N:Jj JA)(tg elt:JR)(ifs:Jj JR)(g:FG)(c:FT)(f:FE):Prop where
 tgt:∀C s0 H0 ex,GG (lu X scope cl C N s0 H0 ex) tg g
 tst:∀C s0 H0 ex J s Y H Q,Inv (lu X scope cl C N s0 H0 ex) J Y H s->tT (lu X scope cl C N s0 H0 ex) c Y H Q->
  wpAny (model X.prog X.w) X.A (forIn ifs true λc r=>if r=true then do let ok <- isTrue c (compEnvC scope cl C X.env) (eval c (compEnvC scope cl C X.env)); pure (Lk ok)else pure (Lk r)) (TP (lu X scope cl C N s0 H0 ex) J Y Q) (λ_ _=>KP) s
 elt:∀C s0 H0 ex,GE (lu X scope cl C N s0 H0 ex) elt f
def nL {prog:J2}{w:Kf}{B:Ke}{s:Jp}{E:Jm->Jp->Prop}{Q:Jm->Jp->Prop}{D:Ju}{its:Jj Jm}{n:Jr}{u:Jm}(e:s.heap.get? D=ba { cls:=.type "list",data:=.seq its.toArray n })(hz:its.length < sizeLine)
  (h:∀h' n',h'.get? D=ba { cls:=.type "list",data:=.seq (its++[u]).toArray n' }->(∀b o,b≠D->s.heap.get? b=ba o->h'.get? b=ba o)->Q .none { s with heap:=h' }) :
  wpAny (model prog w) B (call (.builtin "list.append") [.ref D,u]) Q E s:=by
 show MD F.slot_list_append #[_,e,rfl] F.entry_list_append (F.args_list_append_2 _ _) (Qi D its.toArray n u (by rw[JJ]; omega)) #[e,?_]
 have q:=QF e (λa=>a.push u)
 have e2:its.toArray.push u=(its++[u]).toArray:=by simp
 rw[e2]at q;exact h _ _ q (λb o hb ho=>(KD s.heap (Lc λa=>a.push u) (Ne.symm hb)).trans ho)
def l9 {scope:My}{cl:Jj (JA×Ju)}{N:Jj JA}{cap:Jj (Jq Jr)}{tg elt iter:JR}{ifs:Jj JR}{g:FG}{c:FT}{f:FE}{pos:LN}{A:Jj Ju}{Z:Fm}{S S':aa}{mi:MI}{n:Jr}{ws:Jj W}{E:Jm->Jp->Prop}
  {it:Ju} {fp:Jj Ju} {tn:Jr->Kn->Prop} {td:It} {RR:Jm->Ju->QC->Jp->Prop}
  (I:Inv X J Y H s) (hc:X.calm=true) (er:EnvRel X.K A H Z Y) (so:StoreOk X.w X.K A H S) (ck:CompOk X scope cl N cap) (bk:BlockOk X scope cl N tg elt ifs g c f)
  (T:Turn X.prog X.w X.K tg td fp it tn) (t0:tn 0 s.heap) (hfp:∀b∈fp,gW X J H b) (mit:MIt X.w X.K mi td A H) (e:bo mi g c f n 0 (cL cap Z) S=ba (ws,S')) (hz:ws.length<=sizeLine)
  (fin:∀D C s' H' A' vs m,s'.heap.Ns C m->H' D=gV->D≠C->C≠X.env.locals->C∉X.fs->H' C=gV->X.s₀.heap.objs.size<=C->(∀x c,X.env.cells.lookup x=ba c->c≠C)->(∀p∈X.pn++J,p.1≠C)->
   Inv X J Y (bn H' D (.lst vs)) s'->Ext X.K A H A' H'->StoreOk X.w X.K A' H' S'->RelL X.K A' H' ws vs->RR (.ref D) C (.ok .next) s') :
  wpAny (model X.prog X.w) X.A (newList []) (λacc s₃=>wpAny (model X.prog X.w) X.A (newFunctionEnv scope X.env.globals cl [] X.env.qual gV .none (ba X.env)) (λcenv s₄=>
   codeAny (model X.prog X.w) X.A (.compStart (.ListComp elt [#[tg,iter,ifs,0]] scope pos) 0 (.ref it) acc { cenv with scope:=relabel scope X.env }) (RR acc cenv.locals) s₄) E s₃) E s:=by
 show Ku (wpAny_newFunctionEnv ck.nocell (by intro y hy; simp at hy) (λh₁ hns₁ hsb₁=>?_) ck.kind)
 dsimp only at hns₁ hsb₁ ⊢;generalize hH2:s.heap.push { cls:=.type "list",dict:=gV,data:=.seq ([]:Jj Jm).toArray }=h2 at hns₁ hsb₁ ⊢;have hCs:h2.objs.size=s.heap.objs.size+1:=by rw[<- hH2,LY]
 have k2:∀b o,s.heap.get? b=ba o->h2.get? b=ba o:=λb o z=>hH2 ▸ Jn _ z
 have lt2:∀b o,h2.get? b=ba o->b < h2.objs.size:=λb o z=>JM z
 have k1:∀b o,h2.get? b=ba o->h₁.get? b=ba o:=λb o z=>hsb₁.extBut b o (JX (lt2 b o z)) (Jn _ z)
 have hD2:h2.get? s.heap.objs.size=ba { cls:=.type "list",data:=.seq ([]:Jj Jm).toArray }:=hH2 ▸ JF _ rfl;have hDC:s.heap.objs.size≠h2.objs.size:=by rw[hCs]; omega
 have fresh:∀a,s.heap.objs.size<=a->H a=gV:=λa ha=>I.hok.fresh ha
 have cellLt:∀x c,X.env.cells.lookup x=ba c->c < s.heap.objs.size:=λx c z=>let ⟨_,q⟩:=I.cell x c z; q.lt
 have fpLt:∀b∈fp,b < s.heap.objs.size:=λb hb=>let ⟨_,q,_⟩:=T.obj 0 s.heap t0 b hb; JM q
 have stkLt:∀b∈qC X.stack,b < s.heap.objs.size:=λb hb=>let ⟨_,o,q,_⟩:=I.stack.mem hb; JM q
 have baseLt:∀b o,X.base.get? b=ba o->b < s.heap.objs.size:=λb o z=>JM (I.bk b o z)
 have fpStk:∀b∈fp,b∉qC X.stack:=λb hb z=>by
  rcases JC.mp (I.stkSub b z)with q|q
  ·exact(hfp b hb).2.1 q
  ·exact(hfp b hb).2.2.1 q
 have fpBase:∀b∈fp,∀o,X.base.get? b≠ba o:=λb hb o z=>by
  rcases(hfp b hb).2.2.2.1 with q|q
  ·exact I.ok.noex b o z q
  ·exact absurd (J3 (JM (I.ok.bs b o z).1) q) (K4 _)
 have ltC:∀ {b:Ju},b < s.heap.objs.size->b≠h2.objs.size:=λhb=>by rw[hCs]; exact JX (N9 hb)
 let s3:Jp:={ s with heap:=h2 }
 have ok':(lu X scope cl h2.objs.size N s3 H (fp++[s.heap.objs.size])).Ok:=by
  show DR I ck (show s.heap.objs.size<=h2.objs.size by rw[hCs]; omega) (Jy _) k2 λb hb=>?_
  rcases Kj.mp hb with hb|hb
  ·exact#[ltC (fpLt b hb),(hfp b hb).2.2.2.2.1,fpBase b hb,fpStk b hb]
  ·have eb:b=s.heap.objs.size:=by simpa using hb
   subst eb;exact#[hDC,λx c z=>JX (cellLt x c z),λo z=>K4 _ (baseLt _ o z),λz=>K4 _ (stkLt _ z)]
 obtain⟨m0,hn0,hl0⟩:=I.loc;have I0:Inv (lu X scope cl h2.objs.size N s3 H (fp++[s.heap.objs.size])) [] (cap.map λo=>match o with|some j=>(Y[j]?).join|none=>gV) H { s3 with heap:=h₁,toks:=s3.toks+([]:Jj (JA×Jm)).length }:=by
  show#[ok',rfl,I.bare,Un.kept k1,#[_,hns₁,λi x v e1 e2 e3=>?_],λx cc z=>?_,fresh _ (show s.heap.objs.size<=h2.objs.size by rw[hCs]; exact LV _),λx cc z=>I.freeC x cc (ck.sub x cc z),λp hp=>absurd hp (by simp[lu]),(I.hok.kept k2).kept k1,by rw[Jl]; exact ck.len]
  ·rw[Jv]at e2;cases q:cap[i]? with
   | none=>rw[q]at e2; cases e2
   | some oj=>
    rw[q]at e2;cases oj with
    | none=>cases e2
    | some j=>
     obtain⟨z1,z2,z3⟩:=ck.cap i j x q e1;have e2':(Y[j]?).join=ba v:=by simpa using e2
     have e2'':Y[j]?=ba (ba v):=by
      cases r:Y[j]? with
      | none=>rw[r]at e2'; cases e2'
      | some y=>rw[r]at e2'; exact congrArg ba e2'
     obtain⟨u,ru,lk⟩:=hl0 j x v z1 e2'' (by
      rcases z2 with z|z
      ·exact .inr (.inl z)
      ·exact .inr (.inr z))
     show#[u,ru,?_];rcases lk with⟨zk,_⟩|⟨_,cc,zc,zi⟩
     ·rcases z2 with z|z <;> (rw[zk]at z; cases z)
     ·obtain⟨c2,hc2⟩:=ck.has x z3;have:=ck.sub x c2 hc2;rw[zc]at this; cases this
      show .inr #[z3,cc,hc2,?_];obtain⟨o,ho,hd⟩:=zi;exact#[o,k1 _ _ (k2 _ _ ho),hd]
  ·obtain⟨v,o,ho,hd⟩:=I.cell x cc (ck.sub x cc z);exact#[v,o,k1 _ _ (k2 _ _ ho),hd]
 have er0:EnvRel X.K A H (cL cap Z) (cap.map λo=>match o with|some j=>(Y[j]?).join|none=>gV):=by
  show#[by simp[cL],λi w q=>?_]
  unfold cL at q;rw[Jv]at q ⊢;cases r:cap[i]? with
  | none=>rw[r]at q; cases q
  | some oj=>
   rw[r]at q;cases oj with
   | none=>cases q
   | some j=>
    have q':(Z[j]?).join=ba w:=by simpa using q
    have q'':Z[j]?=ba (ba w):=by
     cases z:Z[j]? with
     | none=>rw[z]at q'; cases q'
     | some y=>rw[z]at q'; exact congrArg ba q'
    obtain⟨v,z1,z2⟩:=er.2 j w q'';exact#[v,by simp[z1],z2]
 have t1:tn 0 h₁:=T.keep 0 s.heap h₁ t0 λb hb o z=>k1 b o (k2 b o z)
 have fpOk':∀ {H':Hp} {pp:Jj (Ju×La)},(∀b∈fp,H' b=gV)->(∀p∈pp,p.1=s.heap.objs.size)->∀b∈fp,gW (lu X scope cl h2.objs.size N s3 H (fp++[s.heap.objs.size])) pp H' b:=λhn hp b hb=>
  #[hn b hb,ltC (fpLt b hb),fpStk b hb,.inl (Ky _ hb),λx cc z=>(hfp b hb).2.2.2.2.1 x cc (ck.sub x cc z),λp hpp=>by
   rw[hp p (by simpa [lu]using hpp)]
   exact(JX (fpLt b hb)).symm]
 have DinEx:s.heap.objs.size∈fp++[s.heap.objs.size]:=JY _ (by simp)
 have cellD:∀x c,cl.lookup x=ba c->c≠s.heap.objs.size:=λx cc z=>JX (cellLt x cc (ck.sub x cc z))
 have fpD:∀b∈fp,b≠s.heap.objs.size:=λb hb=>JX (fpLt b hb)
 have theEnd:∀s' Y' H' A' vs its nn,Inv (lu X scope cl h2.objs.size N s3 H (fp++[s.heap.objs.size])) [] Y' H' s'->s'.heap.get? s.heap.objs.size=ba { cls:=.type "list",data:=.seq its nn }->∀(hits:∃l:Jj Jm,its=l.toArray/\Vals vs l),H' s.heap.objs.size=gV->Ext X.K A H A' H'->StoreOk X.w X.K A' H' S'->RelL X.K A' H' ws vs->
   RR (.ref s.heap.objs.size) h2.objs.size (.ok .next) s':=by
  intro s' Y' H' A' vs its nn I' hD hits hDn ex so' rl;obtain⟨l,rfl,rv⟩:=hits;obtain⟨m,hn,_⟩:=id I'.loc;have un:Un (qC X.stack) (fp++[s.heap.objs.size]) H H' s.heap s'.heap:=(Un.kept k2).trans I'.base;have hch:∀b∈fp++[s.heap.objs.size],(b∈X.ex\/X.s₀.heap.objs.size<=b)/\b≠X.env.locals/\(∀x c,X.env.cells.lookup x=ba c->c≠b)/\∀p∈X.pn++J,p.1≠b:=λb hb=>by
   rcases Kj.mp hb with hb|hb
   ·exact#[(hfp b hb).2.2.2.1,(hfp b hb).2.1,(hfp b hb).2.2.2.2.1,(hfp b hb).2.2.2.2.2]
   ·have eb:b=s.heap.objs.size:=by simpa using hb
    subst eb;exact#[.inr I.sz,(JX I.lt).symm,λx cc z=>JX (cellLt x cc z),λp hp=>JX (JM (I.pin p hp).1)]
  have I2:Inv X J Y H' s':=I.call' (show s'.os=s.os from I'.os) un I'.hok I'.bare hch
  have I3:Inv X J Y (bn H' s.heap.objs.size (.lst vs)) s':=Inv.adopt I2 hDn (hch _ DinEx).1 (hch _ DinEx).2.1 (hch _ DinEx).2.2.1 (hch _ DinEx).2.2.2 #[by rw[<- rl.length]; exact hz,l,nn,rv,hD]
  have hCle:s.heap.objs.size<=h2.objs.size:=by rw[hCs]; exact LV _
  exact fin _ _ s' H' A' vs m hn hDn hDC (Li (J3 I.lt hCle)) (I.nofs hCle) I'.free (J8 I.sz hCle) (λx cc z=>JX (J3 (cellLt x cc z) hCle))
   (λp hp=>JX (J3 (JM (I.pin p hp).1) hCle)) I3 ex so' rl
 have loop:∀s4:Jp,s4={ s3 with heap:=h₁,toks:=s3.toks+([]:Jj (JA×Jm)).length }->
   codeAny (model X.prog X.w) X.A (.compLoop (.ListComp elt [#[tg,iter,ifs,0]] scope pos) 0 (.ref it) (.ref s.heap.objs.size) (compEnvC scope cl h2.objs.size X.env)) (RR (.ref s.heap.objs.size) h2.objs.size) s4:=by
  rintro s4 rfl;show gL (λk s5=>∃i Y5 H5 A5 Z5 S5 done its nn vs ys,Inv (lu X scope cl h2.objs.size N s3 H (fp++[s.heap.objs.size])) [] Y5 H5 s5/\tn i s5.heap/\(∀b∈fp,H5 b=gV)/\s5.heap.get? s.heap.objs.size=ba { cls:=.type "list",data:=.seq (its:Jj Jm).toArray nn }/\H5 s.heap.objs.size=gV/\Vals vs its/\
   Ext X.K A H A5 H5/\EnvRel X.K A5 H5 Z5 Y5/\StoreOk X.w X.K A5 H5 S5/\RelL X.K A5 H5 done vs/\ws=done++ys/\bo mi g c f k i Z5 S5=ba (ys,S')) ?_ n
   #[0,_,H,A,_,S,[],[],0,[],ws,I0,t1,λb hb=>(hfp b hb).1,k1 _ _ hD2,fresh _ (Jy _),.nil,.refl,er0,so,.nil,rfl,e]
  rintro k s5 ⟨i,Y5,H5,A5,Z5,S5,done,its,nn,vs,ys,I5,t5,f5,d5,n5,v5,e5,er5,so5,rl5,hw5,w5⟩;have pinD:Inv (lu X scope cl h2.objs.size N s3 H (fp++[s.heap.objs.size])) [(s.heap.objs.size,{ cls:=.type "list",data:=.seq its.toArray nn })] Y5 H5 s5:=I5.pins_of λp hp=>by
   have hp':p=(s.heap.objs.size,{ cls:=.type "list",data:=.seq its.toArray nn }):=by simpa using hp
   subst hp';exact#[d5,n5,hDC,λz=>K4 _ (stkLt _ z),λv z=>by cases z]
  have oneD:∀p∈[(s.heap.objs.size,({ cls:=.type "list",data:=.seq its.toArray nn }:La))],p.1=s.heap.objs.size:=λp hp=>by
   have hp':p=(s.heap.objs.size,{ cls:=.type "list",data:=.seq its.toArray nn }):=by simpa using hp
   rw[hp']
  cases k with
  | zero=>
   dsimp only[bo]at w5;split at w5
   ·rename_i hst;cases w5;rw[Kx]at hw5;subst hw5;show a7 (T.done (lu X scope cl h2.objs.size N s3 H (fp++[s.heap.objs.size])) rfl rfl rfl hc i _ s5 Y5 H5 _ pinD (fpOk' f5 oneD) t5 (mit.stop A5 H5 _ i e5 so5 hst)) λr s6 #[hr,I6]=>?_
    subst hr;have p6:=I6.pin _ (JY _ (JH.mpr rfl));exact theEnd s6 Y5 H5 A5 vs _ nn (I6.pins_of λp hp=>absurd hp (by simp)) p6.1 #[its,rfl,v5] n5 e5 so5 rl5
   ·cases w5
  | succ k=>
   dsimp only[bo]at w5;split at w5
   ·rename_i w hw;obtain⟨go,yl⟩:=mit.go A5 H5 S5 i w e5 so5 hw;show a7 (T.item (lu X scope cl h2.objs.size N s3 H (fp++[s.heap.objs.size])) rfl rfl rfl hc i _ s5 Y5 H5 _ pinD (fpOk' f5 oneD) t5 go) λr s6 #[u,hr,h6]=>?_
    subst hr;show a7 h6 λ_ s7 #[x,H7,I7,r7,y7,t7,f7]=>?_
    obtain⟨x1,x2,x3⟩:=yl x H7 y7;have I7':=I7.pinned (fpOk' f7 oneD) (T.obj _ _ t7);split at w5
    ·rename_i Z8 S8 h8;show a7 (bk.tgt _ _ _ _ _ s7 Y5 H7 x u (λY' H'=>∃A',Ext X.K A5 H5 A' H'/\StoreOk X.w X.K A' H' S8/\EnvRel X.K A' H' Z8 Y') I7' r7 #[A5,Z5,S5,w,Z8,S8,er5.mono x1,x2,x3,h8,λY' H' A' q1 q2 q3=>#[A',x1.trans q1,q2,q3]]) λ_ s8 #[Y8,H8,I8,A8,e58,so8,er8]=>?_
     have e8:Ext X.K A H A8 H8:=e5.trans e58;have pD:∀ {Y':L2.St} {H':Hp} {s':Jp},Inv (lu X scope cl h2.objs.size N s3 H (fp++[s.heap.objs.size])) ([(s.heap.objs.size,{ cls:=.type "list",data:=.seq its.toArray nn })]++i7 fp s7.heap) Y' H' s'->s'.heap.get? s.heap.objs.size=ba { cls:=.type "list",data:=.seq its.toArray nn }/\H' s.heap.objs.size=gV:=λI'=>
      let q:=I'.pin _ (JY _ (Ky _ (JH.mpr rfl)))
      #[q.1,q.2.1]
     have pF:∀ {Y':L2.St} {H':Hp} {s':Jp},Inv (lu X scope cl h2.objs.size N s3 H (fp++[s.heap.objs.size])) ([(s.heap.objs.size,{ cls:=.type "list",data:=.seq its.toArray nn })]++i7 fp s7.heap) Y' H' s'->(∀b∈fp,H' b=gV)/\∀b∈fp,∀o,s7.heap.get? b=ba o->s'.heap.get? b=ba o:=λI'=>
      #[λb hb=>by
       obtain⟨o,eo,_⟩:=T.obj _ _ t7 b hb;exact(I'.pin (b,o) (JY _ (JY _ (eV hb eo)))).2.1,
       λb hb o eo=>(I'.pin (b,o) (JY _ (JY _ (eV hb eo)))).1]
     split at w5
     ·rename_i S9 h9;show a7 (bk.tst _ _ _ _ _ s8 Y8 H8 (λb H'=>b=true/\∃A',Ext X.K A8 H8 A' H'/\StoreOk X.w X.K A' H' S9) I8 #[A8,Z8,S8,true,S9,er8,so8,h9,λb H' #[z0,A',z1,z2]=>#[z0,A',z1,z2]]) λb s9 #[H9,I9,z0,A9,e9,so9]=>?_
      subst z0;rw[JO rfl];split at w5
      ·rename_i y S10 h10;split at w5
       ·rename_i ys' S4 h11;cases w5;show a7 (bk.elt _ _ _ _ _ s9 Y8 H9 (EndV X.w X.K A9 H9 S10 y) I9 #[A9,Z8,S9,y,S10,er8.mono e9,so9,h10,λ_ _ z=>z]) λu10 s10 #[v10,H10,I10,r10,A10,e10,so10,rl10]=>?_
        obtain⟨d10,n10⟩:=pD I10;obtain⟨f10,k10⟩:=pF I10;have hlen:its.length < sizeLine:=by
         have l1:=v5.length;have l2:=rl5.length;rw[hw5,Jw,JL]at hz;omega
        show nL d10 hlen λh' n' hd' hk'=>?_
        have Ib:Inv (lu X scope cl h2.objs.size N s3 H (fp++[s.heap.objs.size])) [] Y8 H10 { s10 with heap:=h' }:=by
         have Ia:Inv (lu X scope cl h2.objs.size N s3 H (fp++[s.heap.objs.size])) [] Y8 H10 s10:=I10.pins_of λp hp=>absurd hp (by simp)
         exact Ia.turned (t':=s10.toks) (it:=s.heap.objs.size) hk' n10 hDC (.inl DinEx) cellD (λp hp=>absurd hp (by simp[lu]))
        show#[k,MH k,i+1,Y8,H10,A10,Z8,S10,done++[y],its++[u10],n',vs++[v10],ys',Ib,?_,f10,hd',n10,v5.append #v[r10],(e8.trans e9).trans e10,(er8.mono e9).mono e10,so10,?_,?_,h11]
        ·exact T.keep (i+1) s7.heap h' t7 λb hb o eo=>hk' b o (fpD b hb) (k10 b hb o eo)
        ·exact(rl5.mono ((e58.trans e9).trans e10)).append #v[rl10]
        ·rw[hw5,KS]; rfl
       ·cases w5
      ·cases w5
     ·rename_i S9 h9;show a7 (bk.tst _ _ _ _ _ s8 Y8 H8 (λb H'=>b=false/\∃A',Ext X.K A8 H8 A' H'/\StoreOk X.w X.K A' H' S9) I8 #[A8,Z8,S8,false,S9,er8,so8,h9,λb H' #[z0,A',z1,z2]=>#[z0,A',z1,z2]]) λb s9 #[H9,I9,z0,A9,e9,so9]=>?_
      subst z0;rw[JZ JP];obtain⟨d9,n9⟩:=pD I9;obtain⟨f9,k9⟩:=pF I9;show#[k,MH k,i+1,Y8,H9,A9,Z8,S9,done,its,nn,vs,ys,I9.pins_of λp hp=>absurd hp (by simp),T.keep (i+1) s7.heap _ t7 k9,f9,d9,n9,v5,e8.trans e9,er8.mono e9,so9,rl5.mono (e58.trans e9),hw5,w5]
     ·cases w5
    ·cases w5
   ·cases w5
 exact codeAny_compStart_list (loop _ rfl) (T.self X.A 0 _ _ _ t1 (loop _ rfl))
def pH {fi:FI}{g:FG}{c:FT}{f:FE}{cap:Jj (Jq Jr)}{Z:Fm}{S:aa}{w:W}{S':aa}(e:kD fi g c f cap Z S=ba (w,S')) :
  ∃mi S1 n ys S2,fi Z S=ba (mi,S1)/\mi.len S1=ba n/\bo mi g c f n 0 (cL cap Z) S1=ba (ys,S2)/\ys.length<=sizeLine/\w=.ref S2.length/\S'=S2++[.lst ys]:=by
 unfold kD at e;split at e
 ·rename_i mi S1 h1;split at e
  ·rename_i n h2;split at e
   ·rename_i ys S2 h3;obtain⟨h4,h5,h6⟩:=jN e;exact#[mi,S1,n,ys,S2,h1,h2,h3,h4,h5,h6]
   ·cases e
  ·cases e
 ·cases e
def AY {scope:My}{N:Jj JA}{cap:Jj (Jq Jr)}{tg elt iter:JR}{ifs:Jj JR}{fi:FI}{g:FG}{c:FT}{f:FE}{pos:LN}(hc:X.calm=true)(hi:GI X tg iter fi)(hck:X.Ok->∃cl,CompOk X scope cl N cap/\BlockOk X scope cl N tg elt ifs g c f)
  (hs:∀x,foldedSetIterable iter X.env x=pure x):GE X (.ListComp elt [#[tg,iter,ifs,0]] scope pos) (kD fi g c f cap):=by
 intro J s Y H Q I ⟨A,Z,S,w,S',er,so,e,hq⟩;obtain⟨mi,S1,n,ys,S2,h1,h2,h3,h4,rfl,rfl⟩:=pH e;obtain⟨cl,ck,bk⟩:=hck I.ok;rw[eval_ListComp];show Og (use:=gV) rfl hs ck.clos ck.kind ck.names (a7 (hi J s Y H (λtd H'=>∃A',Ext X.K A H A' H'/\StoreOk X.w X.K A' H' S1/\MIt X.w X.K mi td A' H') I #[A,Z,S,mi,S1,er,so,h1,λtd H' A' z1 z2 z3=>#[A',z1,z2,z3]]) λv s1 q1=>a7 q1 λitv s2 q2=>?_)
 obtain⟨it,fp,tn,td,H2,rfl,I2,T,t0,hfp,A2,e2,so2,mit⟩:=q2;show l9 (RR:=λacc C=>compPost (model X.prog X.w) X.A X.xe gV (EP X J Y Q) acc C) I2 hc (er.mono e2) so2 ck bk T t0 hfp mit h3 h4 ?_
 intro D C s' H' A' vs m hn hDn hDC hCL hCf hCn hCs hCc hCp I3 ex so3 rl;show#[m,hn,λh' hs'=>?_]
 have I4:Inv X J Y (bn H' D (.lst vs)) { s' with heap:=h' }:=I3.turned (t':=s'.toks) (it:=C) (λb o hb eo=>hs'.extBut b o hb eo) (by rw[aD (Ne.symm hDC)]; exact hCn) hCL (.inr hCs) hCc hCp
 exact#[.ref D,_,I4,rfl,hq _ _ (EndV.after (e2.trans ex) (.lst so3 rl hDn))]
def rh {scope:My}{N:Jj JA}{cap:Jj (Jq Jr)}{tg elt iter:JR}{ifs:Jj JR}{fi:FI}{g:FG}{c:FT}{f:FE}{pos py spos:LN}{y:JA}{i:Jr}(hc:X.calm=true)(hi:GI X tg iter fi)(hck:X.Ok->∃cl,CompOk X scope cl N cap/\BlockOk X scope cl N tg elt ifs g c f)
  (hs:∀x,foldedSetIterable iter X.env x=pure x) (hsw:swapsWith (.ListComp elt [#[tg,iter,ifs,0]] scope pos) (ba (.Name y py)) spos.line X.env=pure true) (hN:X.N.Nodup) (hy:X.N[i]?=ba y) (hl:X.env.scope.names.lookup y=ba .local) :
  GS X (.Assign [.Name y py] (.ListComp elt [#[tg,iter,ifs,0]] scope pos) spos) (kC (kD fi g c f cap) (B6 i)):=by
 intro J s Y H Dd I ⟨A,Z,S,o,S',er,so,e,hd⟩;unfold kC at e;split at e
 ·rename_i w S0 h0;simp only[B6]at e;cases e;obtain⟨mi,S1,n,ys,S2,h1,h2,h3,h4,rfl,rfl⟩:=pH h0;obtain⟨cl,ck,bk⟩:=hck I.ok;rw[exec_Assign_Name_used _ _ _ _ hsw];show Jk (Nr (Jk ?_));change wpAny _ X.A (do let _ <- comprehension (.ListComp elt [⟨tg,iter,ifs,0⟩] scope pos) scope X.env _ (newList []) false (eval iter X.env) (ba (assign (.Name y py) X.env))) _ _ s
  show Jk (Ll (Og (use:=ba (assign (.Name y py) X.env)) (Q:=λ_ s'=>SP X J Dd .next s') rfl hs ck.clos ck.kind ck.names
   (a7 (hi J s Y H (λtd H'=>∃A',Ext X.K A H A' H'/\StoreOk X.w X.K A' H' S1/\MIt X.w X.K mi td A' H') I #[A,Z,S,mi,S1,er,so,h1,λtd H' A' z1 z2 z3=>#[A',z1,z2,z3]]) λv s1 q1=>a7 q1 λitv s2 q2=>?_)) (λ_ s' hq=>Jt (Jt hq)) λ_ _ e=>e)
  obtain⟨it,fp,tn,td,H2,rfl,I2,T,t0,hfp,A2,e2,so2,mit⟩:=q2;show l9 (RR:=λacc C=>compPost (model X.prog X.w) X.A X.xe (ba (assign (.Name y py) X.env)) (λ_ s'=>SP X J Dd .next s') acc C) I2 hc (er.mono e2) so2 ck bk T t0 hfp mit h3 h4 ?_
  intro D C s' H' A' vs m hn hDn hDC hCL hCf hCn hCs hCc hCp I3 ex so3 rl;obtain⟨oC,esC,epC,hoC,hdC,hrC⟩:=id hn;have I3':Inv X (J++[(C,oC)]) Y (bn H' D (.lst vs)) s':=I3.pins_of λp hp=>by
   rcases Kj.mp hp with hp|hp
   ·exact I3.pin p (JY _ hp)
   ·have hp':p=(C,oC):=by simpa using hp
    subst hp';exact#[hoC,by rw[aD (Ne.symm hDC)]; exact hCn,hCL,hCf,λv z=>by rw[hdC]at z; cases z]
  change wpAny _ X.A (assign (.Name y py) X.env (.ref D)) _ _ _;show Qa (ie I3' hN hy (.inl hl) (v:=.ref D) rfl (λs4 I4=>?_) (.inr hl))
  have pC:=I4.pin (C,oC) (JY _ (JY _ (JH.mpr rfl)));show#[m,#[oC,esC,epC,pC.1,hdC,hrC],λh' hs'=>?_]
  have I5:Inv X J (Y.set i (ba (.ref D))) (bn H' D (.lst vs)) s4:=I4.pins_of λp hp=>I4.pin p (JY _ (Ky _ hp))
  have I6:Inv X J (Y.set i (ba (.ref D))) (bn H' D (.lst vs)) { s4 with heap:=h' }:=I5.turned (t':=s4.toks) (it:=C) (λb o hb eo=>hs'.extBut b o hb eo) (by rw[aD (Ne.symm hDC)]; exact hCn) hCL (.inr hCs) hCc hCp
  obtain⟨Af,f1,f2,f3⟩:=EndV.after (e2.trans ex) (EndV.lst so3 rl hDn);exact#[_,_,I6,hd.nx _ _ #[_,Af,rfl,f1,f2,(er.mono f1).set f3 i]]
 ·cases e
end
open PySem.Builtin.SmallTypes (nextOf)
structure Zap (z p q i j:Ju):Prop where
 pz:p≠z
 qz:q≠z
 iz:i≠z
 jz:j≠z
 pq:p≠q
 pi:p≠i
 pj:p≠j
 qi:q≠i
 qj:q≠j
 ij:i≠j
section
variable{prog:J2}{w:Kf}
structure Zit (prog:J2)(w:Kf)(it:Ju)(T:Jr->Kn->Prop)(C:Kn->Prop)(i:Jr)(Uq:Jq (Jm->Prop)):Prop where
 keep:∀j h h',T j h->(∀o,h.get? it=ba o->h'.get? it=ba o)->T j h'
 next:∀V,Uq=ba V->∀(B:Ke) (s:Jp) (Q:Jm->Jp->Prop) (E:Jm->Jp->Prop),T i s.heap->C s.heap->(∀u h' tk,V u->T (i+1) h'->LC it s.heap h'->Q u { s with heap:=h',toks:=tk })->wpAny (model prog w) B (nextOf (.ref it)) Q E s
 stop:Uq=gV->∀(B:Ke) (s:Jp) (Q:Jm->Jp->Prop) (E:Jm->Jp->Prop),B.handled=gV->T i s.heap->C s.heap->(∀h' e,O5 it s.heap h'->(∃o,h'.get? e=ba o/\o.cls=.type "StopIteration")->E (.ref e) { s with heap:=h' })->wpAny (model prog w) B (nextOf (.ref it)) Q E s
variable{B:Ke}{E:Jm->Jp->Prop}{s:Jp}{z p q i1 i2:Ju}{T1 T2:Jr->Kn->Prop}{C1 C2:Kn->Prop}{i:Jr}{a b:Jm}
abbrev Zc (z q i1 i2:Ju)(C:Kn->Prop):Prop:=∀h h',C h->(∀c o,c≠z->c≠q->c≠i1->c≠i2->h.get? c=ba o->h'.get? c=ba o)->C h'
def kE {U1 U2:Jq (Jm->Prop)}{Q:Jm->Jp->Prop}(D:Zap z p q i1 i2)(Zz:Zit prog w i1 T1 C1 i U1)(Z2':∀V1,U1=ba V1->Zit prog w i2 T2 C2 i U2)(k1:Zc z q i1 i2 C1)(k2:Zc z q i1 i2 C2)(hh:B.handled=gV)
  (hz:PH s.heap z p q .none) (hp:Nn s.heap p (.ref i1) (.ref i2)) (hq:Nn s.heap q a b) (t1:T1 i s.heap) (t2:T2 i s.heap) (c1:C1 s.heap) (c2:C2 s.heap)
  (hI:∀V1 V2,U1=ba V1->U2=ba V2->∀u v h' tk,V1 u->V2 v->PH h' z p q (rawInt s.heap.objs.size)->Nn h' q u v->T1 (i+1) h'->T2 (i+1) h'->Nn h' s.heap.objs.size u v->
   (∀c o,c≠z->c≠q->c≠i1->c≠i2->s.heap.get? c=ba o->h'.get? c=ba o)->Q (.ref s.heap.objs.size) { s with heap:=h',toks:=tk })
  (hE:U1=gV\/U2=gV->∀h' tk e,(∀c o,c≠z->c≠q->c≠i1->c≠i2->s.heap.get? c=ba o->h'.get? c=ba o)->(∃o,h'.get? e=ba o/\o.cls=.type "StopIteration")->E (.ref e) { s with heap:=h',toks:=tk }) :
  wpAny (model prog w) B (MX.«zip.__next__» #[[.ref z],[]]) (λfin s'=>∃v,fin=.done (.ret v)/\Q v s') E s:=by
 change wpAny _ _ (field (.ref z) 2 >>= _) _ _ s;show Jk (Lb hz rfl (x:=.bool false) rfl ?_);change wpAny _ _ (field (.ref z) 3 >>= _) _ _ s;show Jk (Lb hz rfl (x:=.ref p) rfl (Jk (Lu hp rfl ?_)));change wpAny _ _ (Lh (.ref z) >>= _) _ _ s;unfold Lh;show Jk (Jk (Lb hz rfl (x:=.none) rfl (Jt ?_)));simp only[Mf];show Jk (Nh (Jk (Lb hz rfl (x:=.ref q) rfl ?_)));show Jk (Mr hz (by simp) λg1 zz1 s1=>?_)
 replace zz1:PH g1 z p q .ellipsis:=zz1;show Jk ?_;simp only[List.zipIdx_cons,List.zipIdx_nil,Ny,Pa];show Jk (Jk (RN ?_));change wpAny _ _ (nextOf (.ref i1) >>= _) _ _ _;have up1:∀c o,c≠z->s.heap.get? c=ba o->g1.get? c=ba o:=λc o hc e=>s1.extBut c o hc e
 have t1':T1 i g1:=Zz.keep _ _ _ t1 λo e=>up1 _ _ D.iz e
 have c1':C1 g1:=k1 _ _ c1 λc o hc _ _ _ e=>up1 c o hc e
 have fin:∀(g:Kn) (tk:Jr) (it e:Ju),(it=i1\/it=i2)->U1=gV\/U2=gV->PH g z p q .ellipsis->(∀c o,c≠z->c≠q->c≠i1->c≠i2->s.heap.get? c=ba o->g.get? c=ba o)->(∃o,g.get? e=ba o/\o.cls=.type "StopIteration")->
   wpAny (model prog w) B (setField (.ref z) 0 .none) (λ_ s''=>E (.ref e) s'') E { s with heap:=g,toks:=tk }:=λg tk it e _ hu gz kg #[oe,he,hc]=>by
  have ne:e≠z:=λx=>by subst x; rw[gz]at he; cases he; simp at hc
  exact Mr gz (by simp) λg' _ sb=>hE hu g' tk e (λc o a1 a2 a3 a4 x=>sb.extBut _ _ a1 (kg c o a1 a2 a3 a4 x)) #[oe,sb.extBut _ _ ne he,hc]
 cases hu1:U1 with
 | none=>
  show Jk (Zz.stop hu1 _ _ _ _ hh t1' c1' λg2 e eb he=>?_)
  exact fin g2 s.toks i1 e (.inl rfl) (.inl hu1) (eb _ _ D.iz.symm zz1) (λc o a1 _ a3 _ x=>eb _ _ a3 (up1 c o a1 x)) he
 | some V1=>
  have Zq:=Z2' V1 hu1;show Jk (Zz.next V1 hu1 _ _ _ _ t1' c1' λu g2 tk2 hu t12 s2=>Jt ?_)
  have q2:Nn g2 q a b:=s2.extBut _ _ D.qi (up1 _ _ D.qz hq);show Jk (Lu q2 rfl (Jk (Pd q2 λg3 q3 s3=>?_)))
  replace q3:Nn g3 q u b:=q3;show Jk (ME (Jt ?_));show Jk (Jk (RN ?_));change wpAny _ _ (nextOf (.ref i2) >>= _) _ _ _;have up3:∀c o,c≠z->c≠q->c≠i1->s.heap.get? c=ba o->g3.get? c=ba o:=λc o a1 a2 a3 x=>s3.extBut _ _ a2 (s2.extBut _ _ a3 (up1 c o a1 x))
  have zz3:PH g3 z p q .ellipsis:=s3.extBut _ _ D.qz.symm (s2.extBut _ _ D.iz.symm zz1);have t2':T2 i g3:=Zq.keep _ _ _ t2 λo e=>up3 _ _ D.jz D.qj.symm D.ij.symm e
  have c2':C2 g3:=k2 _ _ c2 λc o a1 a2 a3 _ e=>up3 c o a1 a2 a3 e
  cases hu2:U2 with
  | none=>
   show Jk (Zq.stop hu2 _ _ _ _ hh t2' c2' λg4 e eb he=>?_)
   exact fin g4 tk2 i2 e (.inr rfl) (.inr hu2) (eb _ _ D.jz.symm zz3) (λc o a1 a2 a3 a4 x=>eb _ _ a4 (up3 c o a1 a2 a3 x)) he
  | some V2=>
   show Jk (Zq.next V2 hu2 _ _ _ _ t2' c2' λv g4 tk4 hv t24 s4=>Jt ?_)
   have q4:Nn g4 q u b:=s4.extBut _ _ D.qj q3;show Jk (Lu q4 rfl (Jk (Pd q4 λg5 q5 s5=>?_)))
   replace q5:Nn g5 q u v:=q5;show Jk (ME (Jt (Jt ?_)));show Jk (Lu q5 rfl (Jk (O9 ?_)));have sz:g5.objs.size=s.heap.objs.size:=by rw[s5.1,s4.1,s3.1,s2.1,s1.1]
   have zz5:PH g5 z p q .ellipsis:=s5.extBut _ _ D.qz.symm (s4.extBut _ _ D.jz.symm zz3);have t15:T1 (i+1) g5:=Zz.keep _ _ _ t12 λo e=>s5.extBut _ _ D.qi.symm (s4.extBut _ _ D.ij (s3.extBut _ _ D.qi.symm e))
   have t25:T2 (i+1) g5:=Zq.keep _ _ _ t24 λo e=>s5.extBut _ _ D.qj.symm e
   have zlt:z < g5.objs.size:=JM zz5;change wpAny _ _ (LQ (.ref z) (.ref g5.objs.size) >>= _) _ _ _;show Jk ?_;unfold LQ;have zz6:PH (g5.push { cls:=.type "tuple",data:=.seq [u,v].toArray }) z p q .ellipsis:=Jn _ zz5;show Jk (Mr zz6 (by simp) λg7 zz7 s7=>?_)
   replace zz7:PH g7 z p q (rawInt g5.objs.size):=zz7;show Mr zz7 (by simp) λg8 zz8 s8=>?_
   replace zz8:PH g8 z p q (rawInt g5.objs.size):=zz8;have up8:∀c o,c≠z->g5.get? c=ba o->g8.get? c=ba o:=λc o hc e=>s8.extBut _ _ hc (s7.extBut _ _ hc (Jn _ e))
   have n8:Nn g8 g5.objs.size u v:=s8.extBut _ _ (Li zlt) (s7.extBut _ _ (Li zlt) (JF _ rfl));rw[sz]at zz8 n8;show Jt #[_,rfl,?_];change Q (.ref g5.objs.size) _;rw[sz];exact hI V1 V2 hu1 hu2 u v g8 tk4 hu hv zz8 (up8 _ _ D.qz q5) (Zz.keep _ _ _ t15 λo e=>up8 _ _ D.iz e) (Zq.keep _ _ _ t25 λo e=>up8 _ _ D.jz e) n8 λc o a1 a2 a3 a4 e=>up8 c o a1 (s5.extBut _ _ a2 (s4.extBut _ _ a4 (up3 c o a1 a2 a3 e)))
end
end Mi
namespace Mi
open PySem PySem.Spec PyProof.Rows L2
open PySem.Builtin.SmallTypes (nextOf)
abbrev dU (prog:J2)(w:Kf)(v:Jm)(o:La)(C:Kn->Prop):Prop:=∀(B:Ke) (s:Jp) (Q:Jm->Jp->Prop) (E:Jm->Jp->Prop),C s.heap->Q (.ref s.heap.objs.size) { s with heap:=s.heap.push o }->wpAny (model prog w) B (pyIter v) Q E s
abbrev F2 (h:Kn)(o1 o2:La):Kn:=(h.push o1).push o2
abbrev F3 (h:Kn)(o1 o2:La):Kn:=(F2 h o1 o2).push { cls:=.type "tuple",data:=.seq [.ref h.objs.size,.ref (h.push o1).objs.size].toArray }
abbrev F4 (h:Kn)(o1 o2:La):Kn:=(F3 h o1 o2).push { cls:=.type "tuple",data:=.seq [.none,.none].toArray }
abbrev B9 (h:Kn)(o1 o2:La):Kn:=(F4 h o1 o2).push { cls:=.type "zip",data:=.fields [.none,.bool false,.bool false,.ref (F2 h o1 o2).objs.size,.ref (F3 h o1 o2).objs.size].toArray }
section
variable{prog:J2}{w:Kf}{B:Ke}{E:Jm->Jp->Prop}{s:Jp}{v1 v2:Jm}{o1 o2:La}{C1 C2:Kn->Prop}
def rj (h1:dU prog w v1 o1 C1)(h2:dU prog w v2 o2 C2)(k2:∀h o,C2 h->C2 (h.push o)) :
  MeetsIn prog w (MX.«zip.__new__» #[[.type "zip",v1,v2],[]]) (λ_ R s=>C1 s.heap/\C2 s.heap/\R (.ok (.ret (.ref (F4 s.heap o1 o2).objs.size))) { s with heap:=B9 s.heap o1 o2 }):=
 .of_wp λA R s h=>by
  obtain⟨hp,g,d,tk,os⟩:=s;obtain⟨c1,c2,h⟩:=h;have hsub:=sub_zip;have d1:∀(B:Ke) (Q:Jm->Jp->Prop) (E:Jm->Jp->Prop),Q (.ref hp.objs.size) #[hp.push o1,g,d,tk,os]->wpAny (model prog w) B (pyIter v1) Q E #[hp,g,d,tk,os]:=λB Q E q=>h1 B #[hp,g,d,tk,os] Q E c1 q
  have d2:∀(B:Ke) (Q:Jm->Jp->Prop) (E:Jm->Jp->Prop),Q (.ref (hp.push o1).objs.size) #[(hp.push o1).push o2,g,d,tk,os]->wpAny (model prog w) B (pyIter v2) Q E #[hp.push o1,g,d,tk,os]:=λB Q E q=>h2 B #[hp.push o1,g,d,tk,os] Q E (k2 _ _ c2) q
  wp_walk using d1 _ _ _,d2 _ _ _
  exact#[_,rfl,h]
def xr {Q:Jm->Jp->Prop}(h1:dU prog w v1 o1 C1)(h2:dU prog w v2 o2 C2)(k2:∀h o,C2 h->C2 (h.push o))(c1:C1 s.heap)(c2:C2 s.heap)(n1:o1.isFreed=false)(n2:o2.isFreed=false)
  (h:∀h',PH h' (s.heap.objs.size+4) (s.heap.objs.size+2) (s.heap.objs.size+3) .none->Nn h' (s.heap.objs.size+2) (.ref s.heap.objs.size) (.ref (s.heap.objs.size+1))->Nn h' (s.heap.objs.size+3) .none .none->
   h'.get? s.heap.objs.size=ba o1->h'.get? (s.heap.objs.size+1)=ba o2->h'.objs.size=s.heap.objs.size+5->(∀c o,s.heap.get? c=ba o->h'.get? c=ba o)->Q (.ref (s.heap.objs.size+4)) { s with heap:=h' }) :
  wpAny (model prog w) B (call (.type "zip") [v1,v2]) Q E s:=by
 show Rt F.called_zip #v[] (F.typeCall_zip_2 _ _) (F.newCall_zip_2 _ _) (λobj=>F.args_object_init_3 obj _ _) F.entry_zip_new (rj h1 h2 k2) #[c1,c2,?_]
 have e1:(s.heap.push o1).objs.size=s.heap.objs.size+1:=LY ..;have e2:(F2 s.heap o1 o2).objs.size=s.heap.objs.size+2:=by unfold F2; rw[LY,e1]
 have e3:(F3 s.heap o1 o2).objs.size=s.heap.objs.size+3:=by unfold F3; rw[LY,e2]
 have e4:(F4 s.heap o1 o2).objs.size=s.heap.objs.size+4:=by unfold F4; rw[LY,e3]
 have e5:(B9 s.heap o1 o2).objs.size=s.heap.objs.size+5:=by unfold B9; rw[LY,e4]
 have g5:(B9 s.heap o1 o2).get? (F4 s.heap o1 o2).objs.size=ba _:=JF _ rfl;have g4:(B9 s.heap o1 o2).get? (F3 s.heap o1 o2).objs.size=ba _:=Jn _ (JF _ rfl);have g3:(B9 s.heap o1 o2).get? (F2 s.heap o1 o2).objs.size=ba _:=Jn _ (Jn _ (JF _ rfl));have g2:(B9 s.heap o1 o2).get? (s.heap.push o1).objs.size=ba o2:=Jn _ (Jn _ (Jn _ (JF _ n2)));have g1:(B9 s.heap o1 o2).get? s.heap.objs.size=ba o1:=Jn _ (Jn _ (Jn _ (Jn _ (JF _ n1))));rw[e2,e3,e4]at g5;rw[e1,e2]at g3;rw[e3]at g4;rw[e1]at g2;change _/\_;rw[e4];exact#[#[_,g5,rfl],h _ g5 g3 g4 g1 g2 e5 λc o x=>Jn _ (Jn _ (Jn _ (Jn _ (Jn _ x))))]
end
end Mi
namespace Mi
open PySem PySem.Spec PyProof.Rows L2
open PySem.Builtin.SmallTypes (nextOf)
section
variable{prog:J2}{w:Kf}{A:Ke}{E:Jm->Jp->Prop}{s:Jp}
def F5 {it t:Ju}{i:Jr}{items:Ki Jm}{x:Jm}{Q:Jm->Jp->Prop}(hit:s.heap.IsTupleIter it t i)(ht:s.heap.IsTuple t items)(hx:items[i]?=ba x)
  (hQ:∀h',h'.IsTupleIter it t (i+1)->LC it s.heap h'->Q x { s with heap:=h' }):wpAny (model prog w) A (nextOf (.ref it)) Q E s:=by
 obtain⟨o,ho,hc,hd⟩:=id hit;obtain⟨ot,hot,_,nt,hdt⟩:=ht;unfold N5;show Jk (Kt (name:=Lq "__next__") hit.typeIs F.slot_tuple_iterator_next (KN F.slot_tuple_iterator_next hit.typeIs F.entry_tuple_iterator_next ?_ (F.args_tuple_iterator_next_1 _)));change wpAny _ _ (field (.ref it) 0 >>= _) _ _ s;show Jk (Lb ho hd (x:=.ref t) rfl ?_);change wpAny _ _ (if (Km t==KC)=true then _ else _) _ _ s
 rw[JZ (show ¬ ((Km t==KC)=true)from JP)]
 change wpAny _ _ (field (.ref it) 1 >>= _) _ _ s;show Jk (Lb ho hd (x:=.int i 0) rfl (Jk (Lu hot hdt ?_)));simp only[JN,hx];show Jk (NN ho hd (by simp) (Jt #[x,rfl,Jt (hQ _ #[_,Ly _ ho (OY (M0 hd _)),(Qp ..).trans hc,?_] (Mg ..))]))
 rw[M0 hd]; simp[rawInt]
def F6 {it t:Ju}{i:Jr}{items:Ki Jm}{Q:Jm->Jp->Prop}(hh:A.handled=gV)(hit:s.heap.IsTupleIter it t i)(ht:s.heap.IsTuple t items)(hx:items[i]?=gV)
  (hE:∀h' e,O5 it s.heap h'->(∃o,h'.get? e=ba o/\o.cls=.type "StopIteration")->E (.ref e) { s with heap:=h' }):wpAny (model prog w) A (nextOf (.ref it)) Q E s:=by
 obtain⟨o,ho,hc,hd⟩:=id hit;obtain⟨ot,hot,_,nt,hdt⟩:=ht;unfold N5;show Jk (Kt (name:=Lq "__next__") hit.typeIs F.slot_tuple_iterator_next (KN F.slot_tuple_iterator_next hit.typeIs F.entry_tuple_iterator_next ?_ (F.args_tuple_iterator_next_1 _)));change wpAny _ _ (field (.ref it) 0 >>= _) _ _ s;show Jk (Lb ho hd (x:=.ref t) rfl ?_);change wpAny _ _ (if (Km t==KC)=true then _ else _) _ _ s
 rw[JZ (show ¬ ((Km t==KC)=true)from JP)]
 change wpAny _ _ (field (.ref it) 1 >>= _) _ _ s;show Jk (Lb ho hd (x:=.int i 0) rfl (Jk (Lu hot hdt ?_)));simp only[JN,hx];show Jk (Nh (Jk (NN ho hd (by simp) ?_)))
 change wpAny _ _ (newExc (.type "StopIteration") [] >>= _) _ _ _;show Jk ?_;simp only[newExc,newTuple];show Jk (Ku ?_ (by size_fits))
 show Jk (m:=firstArgMember _ _) (N8 (a:=KC) (by first|rfl|(simp only[firstArgMember]; rfl)) (Ku ?_ (by size_fits)))
 simp only[raiseNew];show Jk (RJ ?_)
 first|rw[show A.in1.handled=gV from hh]|rw[hh]
 exact Jk (Jt (Se (hE _ _ (((Mg ..).extBut.push _).push _) #[_,JF _ rfl,rfl])))
end
inductive Zs where|tup (a:Ju)|lst (a:Ju)|txt (x:JA)
abbrev Zs.T (it:Ju):Zs->Jr->Kn->Prop
 | .tup a,i,h=>h.IsTupleIter it a i
 | .lst a,i,h=>h.IsListIter it a i
 | .txt x,i,h=>∃t,h.IsStrIter it "str_ascii_iterator" x t i\/h.IsStrIter it "str_iterator" x t i
abbrev Zs.at (K:Jz)(H:Hp)(i:Jr)(v:V):Zs->Prop
 | .tup a=>∃xs,SqT K H a xs/\xs[i]?=ba v
 | .lst a=>∃xs,SqL K H a xs/\xs[i]?=ba v
 | .txt x=>∃c,x.cps[i]?=ba c/\v=.str #[[c].toArray]
abbrev Zs.out (K:Jz)(H:Hp)(i:Jr):Zs->Prop
 | .tup a=>∃xs,SqT K H a xs/\xs.length<=i
 | .lst a=>∃xs,SqL K H a xs/\xs.length<=i
 | .txt x=>x.cps.size<=i
def Zs.keep {S:Zs}{it:Ju}{j:Jr}{h h':Kn}(t:S.T it j h)(k:∀o,h.get? it=ba o->h'.get? it=ba o):S.T it j h':=by
 cases S with
 | tup a=>exact t.at k
 | lst a=>exact t.at k
 | txt x=>
  obtain⟨tk,t⟩:=t;exact#[tk,t.imp (λ#[o,e,r]=>#[o,k _ e,r]) λ#[o,e,r]=>#[o,k _ e,r]]
section
variable{X:Cx}{J:Jj (Ju×La)}{Y:L2.St}{H:Hp}{s:Jp}
def xt (I:Inv X J Y H s){a b:Ju}{o:La}(h:X.K.lookup a=ba o)(f:gW X J H b):a≠b:=λz=>by
 subst z;have hb:=I.ok.mod.kin a o h;rcases f.2.2.2.1 with q|q
 ·exact I.ok.noex a o hb q
 ·exact absurd (J3 (JM (I.ok.bs a o hb).1) q) (K4 _)
end
end Mi
namespace Mi
open PySem PySem.Spec PyProof.Rows L2
open PySem.Builtin.SmallTypes (nextOf)
section
variable{X:Cx}{J:Jj (Ju×La)}{Y:L2.St}{H:Hp}{s:Jp}{h':Kn}
def xu {a b:Ju}{u:HO}(h:Rd H a u)(f:H b=gV):a≠b:=λz=>by
 subst z;rcases h with h|⟨o,h⟩ <;> (rw[f]at h; cases h)
def Inv.turnedL {t':Jr}{ch:Jj Ju}(I:Inv X J Y H s)(k:∀b o,b∉ch->s.heap.get? b=ba o->h'.get? b=ba o)(hf:∀b∈ch,gW X J H b):Inv X J Y H { s with heap:=h',toks:=t' }:=by
 have nit:∀b u,H b=ba u->b∉ch:=λb u e z=>by have:=(hf b z).1; rw[e]at this; cases this
 show I.step (g':=s.gens) (d':=s.drawn) (ch:=ch) (λb hb=>?_) (λb o _ _ hc e _=>k b o hc e) (λb o _ _ hc e _=>#[o.slots,k b o hc e]) (λ_ _ _ _ n=>n) (λb o hc e=>#[o,k b o hc e]) (λ_ _ e=>e) (λ_ _ _ e=>e) (λb ps e=>#[#[],by rw[e]; simp]) (λm hm=>?_) (λb u e=>?_) I.bare
 ·obtain⟨_,f1,_,f3,f4,f5⟩:=hf b hb;exact#[f3,f1,f4,f5]
 ·obtain⟨o,es,ep,ho,r⟩:=hm;exact#[o,es,ep,k _ o (λz=>(hf _ z).2.1 rfl) ho,r]
 ·show(I.hok b u e).stay (λc v hc q=>k c v ?_ q) (λ_ q=>q) λ_ _ q=>q
  rcases hc with z|z
  ·rw[z]; exact nit b u e
  ·exact nit c _ z
def Zs.zit {S:Zs}{it z q i1 i2:Ju}{i:Jr}{Uq:Jq V}(I:Inv X J Y H s)(hf:∀b∈[z,q,i1,i2],gW X J H b)(g:match Uq with|some v=>S.at X.K H i v|none=>S.out X.K H i) :
  ∃C,Zit X.prog X.w it (S.T it) C i (Uq.map λv u=>RelV v u)/\C s.heap/\Zc z q i1 i2 C:=by
 have zc:∀(a:Ju) (P:Kn->Prop),(∀h h',P h->(∀o,h.get? a=ba o->h'.get? a=ba o)->P h')->(∀b∈[z,q,i1,i2],a≠b)->Zc z q i1 i2 P:=λa P hP hn h h' p k=>
  hP h h' p λo e=>k a o (hn z (by simp)) (hn q (by simp)) (hn i1 (by simp)) (hn i2 (by simp)) e
 have sep:∀ {a:Ju} {u:HO} {o:La} {b:Ju},(Rd H a u\/X.K.lookup a=ba o)->b∈[z,q,i1,i2]->a≠b:=λh hb=>h.elim (λr=>xu r (hf _ hb).1) λr=>xt I r (hf _ hb)
 cases S with
 | tup a=>
  obtain⟨xs,hq,hx⟩ : ∃xs,SqT X.K H a xs/\(match Uq with|some v=>xs[i]?=ba v|none=>xs.length<=i):=by
   cases Uq <;> exact g
  obtain⟨its,rv,p,_⟩:=I.tuple hq;have hne:∀b∈[z,q,i1,i2],a≠b:=λb hb=>by
   rcases hq with r|⟨o,_,_,r,_⟩
   ·exact xu r (hf b hb).1
   ·exact xt I r (hf b hb)
  show#[λh=>h.IsTuple a its.toArray,#[λj h h' t k=>Zs.keep (S:=.tup a) t k,λV hV B s2 Q E t c hQ=>?_,λhU B s2 Q E hh t c hE=>?_],p,zc a _ (λh h' #[o,e,r] k=>#[o,k _ e,r]) hne]
  ·cases Uq with
   | none=>cases hV
   | some v=>
    cases hV;obtain⟨u,hu,ru⟩:=rv.get hx;exact F5 t c (x:=u) (by simpa using hu) λh' t' sb=>hQ u h' s2.toks ru t' sb
  ·cases Uq with
   | some v=>cases hU
   | none=>
    have:=L2.Vals.length rv;have hx':xs.length<=i:=hx;exact F6 hh t c (by simp; omega) hE
 | lst a=>
  obtain⟨xs,hq,hx⟩ : ∃xs,SqL X.K H a xs/\(match Uq with|some v=>xs[i]?=ba v|none=>xs.length<=i):=by
   cases Uq <;> exact g
  obtain⟨its,rv,p,_⟩:=I.list hq;have hne:∀b∈[z,q,i1,i2],a≠b:=λb hb=>by
   rcases hq with r|⟨o,_,_,r,_⟩
   ·exact xu r (hf b hb).1
   ·exact xt I r (hf b hb)
  show#[λh=>h.IsList a its.toArray,#[λj h h' t k=>Zs.keep (S:=.lst a) t k,λV hV B s2 Q E t c hQ=>?_,λhU B s2 Q E hh t c hE=>?_],p.isList,zc a _ (λh h' #[o,e,r] k=>#[o,k _ e,r]) hne]
  ·cases Uq with
   | none=>cases hV
   | some v=>
    cases hV;obtain⟨u,hu,ru⟩:=rv.get hx;exact wpAny_nextOf_list_item t c (x:=u) (by simpa using hu) λh' t' sb=>hQ u h' s2.toks ru t' sb
  ·cases Uq with
   | some v=>cases hU
   | none=>
    have:=L2.Vals.length rv;have hx':xs.length<=i:=hx;exact wpAny_nextOf_list_end hh t c (by simp; omega) hE
 | txt x=>
  show#[λ_=>Pp,#[λj h h' t k=>Zs.keep (S:=.txt x) t k,λV hV B s2 Q E t _ hQ=>?_,λhU B s2 Q E hh t _ hE=>?_],trivial,λ_ _ _ _=>trivial]
  ·cases Uq with
   | none=>cases hV
   | some v=>
    cases hV;obtain⟨c,hc,rfl⟩ : ∃c,x.cps[i]?=ba c/\v=.str #[[c].toArray]:=g;obtain⟨tk,t|t⟩:=t
    ·exact wpAny_nextOf_ascii_item t hc λh' t' sb=>hQ _ h' _ #[_,rfl] #[tk,.inl t'] sb
    ·exact wpAny_nextOf_wide_item t hc λh' t' sb=>hQ _ h' _ #[_,rfl] #[tk,.inr t'] sb
  ·cases Uq with
   | some v=>cases hU
   | none=>
    have hx:x.cps[i]?=gV:=by simpa using(show x.cps.size<=i from g)
    obtain⟨tk,t|t⟩:=t
    ·exact wpAny_nextOf_ascii_end hh t hx hE
    ·exact wpAny_nextOf_wide_end hh t hx hE
end
abbrev Zs.is (K:Jz)(H:Hp)(i:Jr)(v:V):Zs->Prop
 | .tup a=>∀xs,SqT K H a xs->xs[i]?=ba v
 | .lst a=>∀xs,SqL K H a xs->xs[i]?=ba v
 | .txt x=>∃c,x.cps[i]?=ba c/\v=.str #[[c].toArray]
def Zs.at_is {S:Zs}{X:Cx}{J:Jj (Ju×La)}{Y:L2.St}{H:Hp}{s:Jp}{i:Jr}{v:V}(I:Inv X J Y H s)(h:S.at X.K H i v):S.is X.K H i v:=by
 cases S with
 | tup a=>obtain⟨xs,hq,hx⟩:=h; exact λys hy=>by rw[I.tuple_inj hy hq]; exact hx
 | lst a=>obtain⟨xs,hq,hx⟩:=h; exact λys hy=>by rw[I.list_inj hy hq]; exact hx
 | txt x=>exact h
abbrev Hh (K:Jz)(S1 S2:Zs):It:=
 #[λi H=>∃x y,S1.at K H i x/\S2.at K H i y,λi H v H'=>∃p x y,S1.is K H i x/\S2.is K H i y/\v=.ref p/\H p=gV/\H'=bn H p (.tup [x,y]),λi H=>S1.out K H i\/(∃x,S1.at K H i x)/\S2.out K H i]
def xv {P:J2}{w:Kf}{K:Jz}{els:Jj JR}{k0:Jr}{tp:LN}{S1 S2:Zs}{z p q i1 i2:Ju}(D:Zap z p q i1 i2) :
  Turn P w K (.Tuple els k0 tp) (Hh K S1 S2) [z,p,q,i1,i2] z (λi h=>PH h z p q .none/\Nn h p (.ref i1) (.ref i2)/\(∃a b,Nn h q a b)/\S1.T i1 i h/\S2.T i2 i h) where
 mem:=by simp
 obj:=λi h #[a,b,#[u,v,c],d,e] b' hb=>by
  have it:∀ {S:Zs} {it:Ju},S.T it i h->∃o,h.get? it=ba o/\∀v,o.data≠.cell v:=λ{S it} t=>by
   cases S with
   | tup a=>obtain⟨o,e,_,d⟩:=t; exact#[o,e,λv z=>by rw[d]at z; cases z]
   | lst a=>obtain⟨o,e,_,d⟩:=t; exact#[o,e,λv z=>by rw[d]at z; cases z]
   | txt x=>obtain⟨tk,⟨o,e,_,d⟩|⟨o,e,_,d⟩⟩:=t <;> exact#[o,e,λv z=>by rw[d]at z; cases z]
  simp only[JC,J7,Ld]at hb;rcases hb with rfl|rfl|rfl|rfl|rfl
  ·exact#[_,a,λv z=>by cases z]
  ·exact#[_,b,λv z=>by cases z]
  ·exact#[_,c,λv z=>by cases z]
  ·exact it d
  ·exact it e
 keep:=λi h h' #[a,b,#[u,v,c],d,e] k=>#[k z (by simp) _ a,k p (by simp) _ b,#[u,v,k q (by simp) _ c],Zs.keep d (k i1 (by simp)),Zs.keep e (k i2 (by simp))]
 item:=by
  intro X hP hw hK hc i J s Y H E I hf st hg;subst hP hw hK;obtain⟨x,y,g1,g2⟩:=hg;obtain⟨a,b,⟨u,v,c⟩,d,e⟩:=st;have hf4:∀b∈[z,q,i1,i2],gW X J H b:=λb hb=>hf b (by simp only[JC,J7,Ld]at hb ⊢; rcases hb with h|h|h|h <;> simp[h])
  obtain⟨C1,Zz,c1,k1⟩:=Zs.zit (it:=i1) (Uq:=ba x) I hf4 g1;obtain⟨C2,Zq,c2,k2⟩:=Zs.zit (it:=i2) (Uq:=ba y) I hf4 g2;have hT:s.TypeIs (.ref z) "zip":=#[_,a,rfl];unfold pyNext;show Jk (MU (Kt (name:=Lq "__next__") hT F.slot_zip_next (KN F.slot_zip_next hT F.entry_zip_next ?_ (F.args_zip_next_1 _))));show kE D Zz (λ_ _=>Zq) k1 k2 (I.ok.hd hc) a b c d e c1 c2 (λV1 V2 e1 e2 u1 u2 g tk r1 r2 zg qg t1 t2 ng kp=>?_) (λz=>by rcases z with z|z <;> cases z)
  cases e1;cases e2;show Jt #[_,rfl,?_];show wpAny_letOwnedTupleGo_zip (s:={ s with heap:=g,toks:=tk }) zg λg' zg' sb=>?_
  have N0:H s.heap.objs.size=gV:=I.hok.fresh (Jy _);have lt:∀ {b:Ju},b∈[z,p,q,i1,i2]->s.heap.objs.size≠b:=λ{b} hb=>by
   have:∃o,s.heap.get? b=ba o:=by
    have it:∀ {S:Zs} {it:Ju},S.T it i s.heap->∃o,s.heap.get? it=ba o:=λ{S it} t=>by
     cases S with
     | tup a=>obtain⟨o,e,_⟩:=t; exact#[o,e]
     | lst a=>obtain⟨o,e,_⟩:=t; exact#[o,e]
     | txt x=>obtain⟨tk,⟨o,e,_⟩|⟨o,e,_⟩⟩:=t <;> exact#[o,e]
    simp only[JC,J7,Ld]at hb;rcases hb with rfl|rfl|rfl|rfl|rfl
    ·exact#[_,a]
    ·exact#[_,b]
    ·exact#[_,c]
    ·exact it d
    ·exact it e
   obtain⟨o,e⟩:=this;exact Li (JM e)
  have up:∀b o,b∉[z,q,i1,i2]->s.heap.get? b=ba o->g'.get? b=ba o:=λb o hb e=>by
   simp only[JC,J7,Ld,QG]at hb;exact sb.extBut _ _ hb.1 (kp b o hb.1 hb.2.1 hb.2.2.1 hb.2.2.2 e)
  have I1:Inv X J Y H { s with heap:=g',toks:=tk }:=Mi.Inv.turnedL I up hf4
  have ng':Nn g' s.heap.objs.size u1 u2:=sb.extBut _ _ (lt (by simp)) ng
  have I2:Inv X J Y (bn H s.heap.objs.size (.tup [x,y])) { s with heap:=g',toks:=tk }:=by
   show Mi.Inv.adopt I1 N0 (.inr I.sz) (Li I.lt) (λw c e=>?_) (λp hp=>?_) #[#[by change 2<=sizeLine; decide,#[_,ng',rfl]],[u1,u2],.cons r1 #v[r2],#[_,ng',rfl,0,rfl]]
   ·obtain⟨v,q⟩:=I.cell w c e;exact JX q.lt
   ·exact JX (JM (I.pin p hp).1)
  show#[.ref s.heap.objs.size,_,I2,rfl,#[s.heap.objs.size,x,y,Zs.at_is I g1,Zs.at_is I g2,rfl,N0,rfl],#[zg',up p _ ?_ b,#[u1,u2,sb.extBut _ _ D.qz qg],Zs.keep t1 λo e=>sb.extBut _ _ D.iz e,Zs.keep t2 λo e=>sb.extBut _ _ D.jz e],λb hb=>?_]
  ·simp only[JC,J7,Ld,QG];exact#[D.pz,D.pq,D.pi,D.pj]
  ·rw[aD (Ne.symm (lt hb))];exact(hf b hb).1
 done:=by
  intro X hP hw hK hc i J s Y H E I hf st hg;subst hP hw hK;obtain⟨a,b,⟨u,v,c⟩,d,e⟩:=st;have hf4:∀b∈[z,q,i1,i2],gW X J H b:=λb hb=>hf b (by simp only[JC,J7,Ld]at hb ⊢; rcases hb with h|h|h|h <;> simp[h])
  have hT:s.TypeIs (.ref z) "zip":=#[_,a,rfl];unfold pyNext;show Jk (MU (Kt (name:=Lq "__next__") hT F.slot_zip_next (KN F.slot_zip_next hT F.entry_zip_next ?_ (F.args_zip_next_1 _))));have ends:∀h' tk e,(∀c o,c≠z->c≠q->c≠i1->c≠i2->s.heap.get? c=ba o->h'.get? c=ba o)->(∃o,h'.get? e=ba o/\o.cls=.type "StopIteration")->
    wpAny (model X.prog X.w) X.A (do if <- isInstance (.ref e) (.type "StopIteration")then pure (gV:Jq Jm)else throw (.ref e)) (λr s1=>r=gV/\Inv X J Y H s1) E { s with heap:=h',toks:=tk }:=λh' tk e k #[o,ho,hc]=>
   Jk (Nl (T:="StopIteration") (b:=true) #[o,ho,hc] O6 (Jt #[rfl,Mi.Inv.turnedL I (λb o hb e=>by
    simp only[JC,J7,Ld,QG]at hb;exact k b o hb.1 hb.2.1 hb.2.2.1 hb.2.2.2 e) hf4]))
  rcases hg with g1|⟨⟨x,g1⟩,g2⟩
  ·obtain⟨C1,Zz,c1,k1⟩:=Zs.zit (it:=i1) (Uq:=gV) I hf4 g1;exact kE (U2:=gV) D Zz (λV1 e1=>by cases e1) k1 (C2:=λ_=>Pp) (λ_ _ _ _=>trivial) (I.ok.hd hc) a b c d e c1 trivial (λV1 V2 e1 _=>by cases e1) λ_ h' tk e k he=>ends h' tk e k he
  ·obtain⟨C1,Zz,c1,k1⟩:=Zs.zit (it:=i1) (Uq:=ba x) I hf4 g1;obtain⟨C2,Zq,c2,k2⟩:=Zs.zit (it:=i2) (Uq:=gV) I hf4 g2;exact kE D Zz (λ_ _=>Zq) k1 k2 (I.ok.hd hc) a b c d e c1 c2 (λV1 V2 _ e2=>by cases e2) λ_ h' tk e k he=>ends h' tk e k he
 self:=λ_ _ _ _ _ st h=>QL st.1 h
end Mi
namespace Mi
open PySem PySem.Spec PyProof.Rows L2
abbrev zu:W->Jq (Jj W)
 | .tup xs=>ba xs
 | .str x=>ba (x.cps.toList.map λc=>.str #[[c].toArray])
 | _=>gV
abbrev xx (f:FA):FI:=λZ S=>match f Z S with
 | some ([x,y],S1)=>match zu x,zu y with
  | some xs,ba ys=>ba (.its (iH xs ys),S1)
  | _,_=>match x,y with
   | .ref r,.ref q=>match eW S1 r,eW S1 q with
    | some _,ba _=>ba (.zl r q,S1)
    | _,_=>gV
   | _,_=>gV
 | _=>gV
section
variable{X:Cx}{J:Jj (Ju×La)}{Y:L2.St}{H:Hp}{s:Jp}{A:Jj Ju}
abbrev ZRel (K:Jz)(A:Jj Ju)(H:Hp)(xs:Jj W):Zs->Prop
 | .tup a=>∃vs,SqT K H a vs/\RelL K A H xs vs
 | .lst a=>KP
 | .txt x=>xs=x.cps.toList.map λc=>.str #[[c].toArray]
def ZRel.mono {K:Jz}{A A':Jj Ju}{H H':Hp}{xs:Jj W}{S:Zs}(e:Ext K A H A' H')(h:ZRel K A H xs S):ZRel K A' H' xs S:=by
 cases S with
 | tup a=>obtain⟨vs,h1,h2⟩:=h; exact#[vs,e.tp _ _ h1,h2.mono e]
 | lst a=>exact h
 | txt x=>exact h
def ZRel.at {K:Jz}{xs:Jj W}{S:Zs}{i:Jr}{w:W}(h:ZRel K A H xs S)(hi:xs[i]?=ba w):∃v,S.at K H i v/\Rel K A H w v:=by
 cases S with
 | tup a=>obtain⟨vs,h1,h2⟩:=h; obtain⟨v,h3,h4⟩:=h2.get hi; exact#[v,#[vs,h1,h3],h4]
 | lst a=>exact h.elim
 | txt x=>
  have h:xs=x.cps.toList.map λc=>.str #[[c].toArray]:=h
  subst h;rw[Jv,Jo]at hi;obtain⟨c,hc,rfl⟩:=hi;exact#[.str #[[c].toArray],#[c,by rw[<- KJ]; exact hc,rfl],.str]
def ZRel.is {K:Jz}{xs:Jj W}{S:Zs}{i:Jr}{w:W}{v:V}(h:ZRel K A H xs S)(hi:xs[i]?=ba w)(z:S.is K H i v):Rel K A H w v:=by
 obtain⟨v',h1,h2⟩:=h.at hi;cases S with
 | tup a=>
  obtain⟨vs,q,e⟩:=h1;have:=z vs q;rw[e]at this; cases this
  exact h2
 | lst a=>exact h.elim
 | txt x=>
  obtain⟨c,e,rfl⟩:=h1;obtain⟨c',e',rfl⟩:=z;rw[e]at e'; cases e'
  exact h2
def ZRel.out {K:Jz}{xs:Jj W}{S:Zs}{i:Jr}(h:ZRel K A H xs S)(hi:xs.length<=i):S.out K H i:=by
 cases S with
 | tup a=>obtain⟨vs,h1,h2⟩:=h; exact#[vs,h1,by rw[<- h2.length]; exact hi]
 | lst a=>exact h.elim
 | txt x=>
  have h:xs=x.cps.toList.map λc=>.str #[[c].toArray]:=h
  subst h;change x.cps.size<=i
  simpa using hi
def pI {xs ys:Jj W}{i:Jr}{w:W}(h:(iH xs ys)[i]?=ba w):∃x y,xs[i]?=ba x/\ys[i]?=ba y/\w=.tup [x,y]:=by
 unfold iH at h;rw[Lz]at h;split at h
 ·rename_i x y e1 e2;cases h;exact#[x,y,e1,e2,rfl]
 ·cases h
def AZ {S1 S2:Zs}{xs ys:Jj W}(z1:ZRel X.K A H xs S1)(z2:ZRel X.K A H ys S2):MIt X.w X.K (.its (iH xs ys)) (Hh X.K S1 S2) A H:=by
 show#[λA' H' S i w e so hi=>?_,λA' H' S i e so hi=>?_]
 ·simp only[MI.at,JT]at hi;obtain⟨x,y,e1,e2,rfl⟩:=pI hi;obtain⟨v,g1,r1⟩:=(z1.mono e).at e1;obtain⟨u,g2,r2⟩:=(z2.mono e).at e2;show#[#[v,u,g1,g2],λp H2 #[a,v',u',q1,q2,hp,hn,hH]=>?_]
  subst hp hH;have ex:Ext X.K A' H' A' (bn H' a (.tup [v',u'])):=bN (.inl hn);exact#[ex,so.lay hn,.tup (.of aI) #v[((z1.mono e).is e1 q1).mono ex,((z2.mono e).is e2 q2).mono ex]]
 ·simp only[MI.at,JT,KM,iH,KA]at hi
  by_cases h1:xs.length<=i
  ·exact .inl ((z1.mono e).out h1)
  ·have hx:i < xs.length:=∅
   obtain⟨v,g1,_⟩:=(z1.mono e).at (JB hx);exact .inr #[#[v,g1],(z2.mono e).out ∅]
def xy {r q:Jr}{a b:Ju}(ea:A[r]?=ba a)(eb:A[q]?=ba b):MIt X.w X.K (.zl r q) (Hh X.K (.lst a) (.lst b)) A H:=by
 show#[λA' H' S i w e so hi=>?_,λA' H' S i e so hi=>?_]
 ·simp only[MI.at]at hi;split at hi
  ·rename_i xs ys hx hy;simp only[JT]at hi;obtain⟨x,y,e1,e2,rfl⟩:=pI hi;obtain⟨vs,h1,r1⟩:=aU so hx (e.ad _ _ ea);obtain⟨us,h2,r2⟩:=aU so hy (e.ad _ _ eb);obtain⟨v,g1,q1⟩:=r1.get e1;obtain⟨u,g2,q2⟩:=r2.get e2;show#[#[v,u,#[vs,h1,g1],#[us,h2,g2]],λp H2 #[c,v',u',z1,z2,hp,hn,hH]=>?_]
   subst hp hH;have t1:=z1 vs h1;rw[g1]at t1; cases t1
   have t2:=z2 us h2;rw[g2]at t2; cases t2
   have ex:Ext X.K A' H' A' (bn H' c (.tup [v,u])):=bN (.inl hn);exact#[ex,so.lay hn,.tup (.of aI) #v[q1.mono ex,q2.mono ex]]
  ·cases hi
 ·simp only[MI.at]at hi;split at hi
  ·rename_i xs ys hx hy;simp only[JT,KM,iH,KA]at hi;obtain⟨vs,h1,r1⟩:=aU so hx (e.ad _ _ ea);obtain⟨us,h2,r2⟩:=aU so hy (e.ad _ _ eb)
   by_cases hl:xs.length<=i
   ·exact .inl #[vs,h1,by rw[<- r1.length]; exact hl]
   ·have hx':i < xs.length:=∅
    obtain⟨v,g1,_⟩:=r1.get (JB hx');exact .inr #[#[v,vs,h1,g1],us,h2,by rw[<- r2.length]; omega]
  ·cases hi
def nM {x:W}{v:V}{u:Jm}{xs:Jj W}(I:Inv X J Y H s)(r:Rel X.K A H x v)(ru:RelV v u)(e:zu x=ba xs) :
  ∃(S:Zs) (o:La) (C:Kn->Prop),ZRel X.K A H xs S/\dU X.prog X.w u o C/\C s.heap/\(∀h o,C h->C (h.push o))/\o.isFreed=false/\∀it h,h.get? it=ba o->S.T it 0 h:=by
 cases r with
 | @tup ws a vs hq rl=>
  cases e;obtain⟨its,rv,p,_⟩:=I.tuple hq;obtain rfl:u=Km a:=ru;exact#[.tup a,{ cls:=.type "tuple_iterator",data:=.fields [.ref a,.int 0 0].toArray },λh=>h.IsTuple a its.toArray,#[vs,hq,rl],λB s Q E c hQ=>P3 c hQ,p,λh o #[ot,e,r]=>#[ot,Jn _ e,r],rfl,λit h e=>#[_,e,rfl,rfl]]
 | @str x=>
  cases e;obtain⟨t,rfl⟩:=ru;cases ha:x.cps.all (· < 128)with
  | false=>exact#[.txt x,{ cls:=.type "str_iterator",data:=.fields [.str x t,.int 0 0].toArray },λ_=>Pp,rfl,λB s Q E _ hQ=>wpAny_pyIter_wide ha hQ,trivial,λ_ _ _=>trivial,rfl,λit h e=>#[t,.inr #[_,e,rfl,rfl]]]
  | true=>exact#[.txt x,{ cls:=.type "str_ascii_iterator",data:=.fields [.str x t,.int 0 0].toArray },λ_=>Pp,rfl,λB s Q E _ hQ=>P4 ha hQ,trivial,λ_ _ _=>trivial,rfl,λit h e=>#[t,.inl #[_,e,rfl,rfl]]]
 | _=>cases e
def xz:bootBuiltins "zip" = ba (.type "zip"):=rfl
def nN {a:Ju}{xs:Jj V}{u:Jm}(I:Inv X J Y H s)(ru:RelV (.ref a) u)(hq:SqL X.K H a xs) :
  ∃(o:La) (C:Kn->Prop),dU X.prog X.w u o C/\C s.heap/\(∀h o,C h->C (h.push o))/\o.isFreed=false/\∀it h,h.get? it=ba o->(Zs.lst a).T it 0 h:=by
 obtain⟨its,rv,p,_⟩:=I.list hq;obtain rfl:u=Km a:=ru;exact#[{ cls:=.type "list_iterator",data:=.fields [.ref a,.int 0 0].toArray },λh=>h.IsList a its.toArray,λB s Q E c hQ=>Mz c hQ,p.isList,λh o #[ot,e,r]=>#[ot,Jn _ e,r],rfl,λit h e=>#[_,e,rfl,rfl]]
def DS {els:Jj JR}{k0:Jr}{tp:LN}{a b:JR}{f:FA}{p pos:LN}(hg:Gl X "zip")(hm:X.mg "zip" = gV)(ha:GA X [a,b] f)(hs:starEach [a,b] X.env=[(false,eval a X.env),(false,eval b X.env)])(hs2:starEach [b] X.env=[(false,eval b X.env)]) :
  GI X (.Tuple els k0 tp) (.Call (.Name "zip" p) [a,b] [] pos) (xx f):=by
 intro J s Y H R I ⟨A,Z,S,mi,S',er,so,e,hq⟩;have fin:∀ {s1:Jp} {H1:Hp} {u v:Jm} {Sa Sb:Zs} {oa ob:La} {Ca Cb:Kn->Prop},Inv X J Y H1 s1->dU X.prog X.w u oa Ca->Ca s1.heap->oa.isFreed=false->(∀it h,h.get? it=ba oa->Sa.T it 0 h)->dU X.prog X.w v ob Cb->Cb s1.heap->(∀h o,Cb h->Cb (h.push o))->ob.isFreed=false->(∀it h,h.get? it=ba ob->Sb.T it 0 h)->R (Hh X.K Sa Sb) H1->
   wpAny (model X.prog X.w) X.A (call (.type "zip") [u,v]) (λv s=>wpAny (model X.prog X.w) X.A (pyIter v) (EV X J Y (.Tuple els k0 tp) R) X.xe s) X.xe s1:=λ{s1 H1 u v Sa Sb oa ob Ca Cb} I1 ia ca na ta ib cb kb nb tb hR=>by
  show xr ia ib kb ca cb na nb λh' hz hp hq' g1 g2 hsz kp=>?_
  have I2:Inv X J Y H1 { s1 with heap:=h' }:=I1.kept (t':=s1.toks) kp
  show QL (s:={ s1 with heap:=h' }) hz ?_
  have D:Zap (s1.heap.objs.size+4) (s1.heap.objs.size+2) (s1.heap.objs.size+3) s1.heap.objs.size (s1.heap.objs.size+1):=by constructor <;> (intro z; simp at z)
  show#[s1.heap.objs.size+4,_,_,_,H1,rfl,I2,xv (S1:=Sa) (S2:=Sb) D,#[hz,hp,#[_,_,hq'],ta _ _ g1,tb _ _ g2],λb hb=>?_,hR]
  have hb':s1.heap.objs.size<=b:=by
   simp only[JC,J7,Ld]at hb;rcases hb with rfl|rfl|rfl|rfl|rfl
   ·exact MJ _ _
   ·exact MJ _ _
   ·exact MJ _ _
   ·exact Jy _
   ·exact MJ _ _
  exact I1.fpOk hb' (I1.hok.fresh hb')
 unfold xx at e;split at e
 ·rename_i x y S1 h1;show SE (fO I hg hm xz (K9 (a7 (ha pos J s Y H _ I #[A,Z,S,_,_,er,so,h1,λ_ _ z=>z]) λus s1 #[vs,H1,I1,r1,A1,z1,z2,z3]=>?_) (by rw[hs,hs2]) (by rw[hs2]; rfl)))
  cases z3 with
  | cons ra t=>
   cases t with
   | cons rb t=>
    cases t;cases r1 with
    | cons ua t=>
     cases t with
     | cons ub t=>
      cases t;split at e
      ·rename_i xs ys e1 e2;cases e;obtain⟨Sa,oa,Ca,za,ia,ca,ka,na,ta⟩:=nM I1 ra ua e1;obtain⟨Sb,ob,Cb,zb,ib,cb,kb,nb,tb⟩:=nM I1 rb ub e2;exact fin I1 ia ca na ta ib cb kb nb tb (hq _ _ A1 z1 z2 (AZ za zb))
      ·split at e
       ·rename_i r q;split at e
        ·rename_i xs ys hx hy;cases e;cases ra with
         | @ref _ a ea=>
          cases rb with
          | @ref _ b eb=>
           obtain⟨va,q1,_⟩:=aU z2 hx ea;obtain⟨vb,q2,_⟩:=aU z2 hy eb;obtain⟨oa,Ca,ia,ca,ka,na,ta⟩:=nN I1 ua q1;obtain⟨ob,Cb,ib,cb,kb,nb,tb⟩:=nN I1 ub q2;exact fin I1 ia ca na ta ib cb kb nb tb (hq _ _ A1 z1 z2 (xy ea eb))
        ·cases e
       ·cases e
 ·cases e
end
open PySem.Builtin.SmallTypes (nextOf)
section
variable{prog:J2}{w:Kf}{B:Ke}{E:Jm->Jp->Prop}{s:Jp}{e it:Ju}{T:Jr->Kn->Prop}{C:Kn->Prop}{i:Jr}{old:Jm}
structure EnAt (h0 h:Kn)(e it:Ju)(fs:Ki Jm)(T:Kn->Prop):Prop where
 here:h.get? e=ba { cls:=.type "enumerate",dict:=gV,data:=.fields fs,slots:=#[] }
 turn:T h
 kept:∀b o,b≠e->b≠it->h0.get? b=ba o->h.get? b=ba o
def EnAt.put {h0:Kn}{fs:Ki Jm}{T:Kn->Prop}{k:Jr}{v:Jm}{Q:Sr->Jp->Prop}(x:EnAt h0 s.heap e it fs T)(hne:e≠it)(kT:∀h h',T h->(∀o,h.get? it=ba o->h'.get? it=ba o)->T h')(hk:k < fs.size)
  (q:∀h',EnAt h0 h' e it (fs.setIfInBounds k v) T->LC e s.heap h'->Q () { s with heap:=h' }):wpAny (model prog w) B (setField (.ref e) k v) Q E s:=
 Mr x.here hk λh' y sb=>q h' #[y,kT _ _ x.turn λo z=>sb.extBut _ _ (Ne.symm hne) z,λb o h1 h2 z=>sb.extBut b o h1 (x.kept b o h1 h2 z)] sb
def ma {Uq:Jq (Jm->Prop)}{Q:Jm->Jp->Prop}(Zx:Zit prog w it T C i Uq)(hh:B.handled=gV)(he:Sz s.heap e it (i:JG) old)(t:T i s.heap)(c:C s.heap)(hne:e≠it)
  (hI:∀V,Uq=ba V->∀u h' tk tk0,V u->IsEnumOut h' e it ((i:JG)+1) u s.heap.objs.size->T (i+1) h'->h'.get? s.heap.objs.size=ba { cls:=.type "tuple",data:=.seq [.int i tk0,u].toArray }->
   (∀b o,b≠e->b≠it->s.heap.get? b=ba o->h'.get? b=ba o)->Q (.ref s.heap.objs.size) { s with heap:=h',toks:=tk })
  (hE:Uq=gV->∀h' x,O5 it s.heap h'->(∃o,h'.get? x=ba o/\o.cls=.type "StopIteration")->E (.ref x) { s with heap:=h' }) :
  wpAny (model prog w) B (MX.«enumerate.__next__» #[[.ref e],[]]) (λfin s'=>∃v,fin=.done (.ret v)/\Q v s') E s:=by
 obtain⟨hp,g,d,tk,os⟩:=s;change wpAny _ _ (field (.ref e) 2 >>= _) _ _ _;show Jk (Lb he rfl (x:=.ref it) rfl (Jk ?_));cases Uq with
 | none=>exact Zx.stop rfl _ _ _ _ hh t c λh' x a b=>hE rfl h' x a b
 | some V=>
  show Zx.next V rfl _ _ _ _ t c λu ha tka hu ta sba=>?_
  have kT:=Zx.keep (i+1);have xa:EnAt hp ha e it [.none,.bool false,.ref it,rawInt i,.none,old].toArray (T (i+1)):=#[(sba.2 e hne).trans he,ta,λb o _ h2 z=>sba.extBut b o h2 z]
  have za:ha.objs.size=hp.objs.size:=sba.1;clear sba ta;change wpAny _ _ (field (.ref e) 3 >>= _) _ _ #[ha,g,d,tka,os];show Jk (Lb xa.here rfl (x:=rawInt i) rfl ?_);change wpAny _ _ (field (.ref e) 4 >>= _) _ _ #[ha,g,d,tka,os];show Jk (Lb xa.here rfl (x:=.none) rfl ?_);change wpAny _ _ (mkInt i >>= _) _ _ #[ha,g,d,tka,os];show Jk (QX (Jk (xa.put (s:=#[ha,g,d,tka+1,os]) hne kT (by simp) λhb xb sb1=>Jk (xb.put (s:=#[hb,g,d,tka+1,os]) hne kT (by simp) λhc xc sb2=>Jk (O9 ?_)))))
  have zc:hc.objs.size=hp.objs.size:=by rw[sb2.1,<- za]; exact sb1.1
  have hel:hp.objs.size≠e:=Li (JM he);have new:=JF hc (o:={ cls:=.type "tuple",data:=.seq [.int i tka,u].toArray }) rfl;have xd:EnAt hp (hc.push { cls:=.type "tuple",data:=.seq [.int i tka,u].toArray }) e it [.none,.bool false,.ref it,rawInt ((i:JG)+1),.none,old].toArray (T (i+1)):=#[Jn _ xc.here,kT _ _ xc.turn λo z=>Jn _ z,λb o h1 h2 z=>Jn _ (xc.kept b o h1 h2 z)]
  rw[zc]at new;change wpAny _ _ (Lh (.ref e) >>= _) _ _ #[hc.push _,g,d,tka+1,os];rw[zc];generalize hc.push { cls:=.type "tuple",data:=.seq [.int i tka,u].toArray }=hd at new xd ⊢;clear zc sb2 xc sb1 xb hb xa za;show Jk ?_;unfold Lh;show Jk (Lb xd.here rfl (x:=.none) rfl (Jt ?_));simp only[Mf];show Jk (Nh (Jk (Lb xd.here rfl (x:=old) rfl (Jk (xd.put (s:=#[hd,g,d,tka+1,os]) hne kT (by simp) λh1 x1 s1=>Jk ?_)))))
  unfold LQ;show Jk (x1.put (s:=#[h1,g,d,tka+1,os]) hne kT (by simp) λh2 x2 s2=>x2.put (s:=#[h2,g,d,tka+1,os]) hne kT (by simp) λh3 x3 s3=>Jk (ME (Jt #[_,rfl,hI V rfl u h3 (tka+1) tka hu x3.here x3.turn ?_ x3.kept])))
  exact s3.extBut _ _ hel (s2.extBut _ _ hel (s1.extBut _ _ hel new))
variable{v:Jm}{o:La}
def pJ (h1:dU prog w v o C) :
  MeetsIn prog w (MX.«enumerate.__new__» #[[.type "enumerate",v],[]]) (λ_ R s=>C s.heap/\R (.ok (.ret (.ref (s.heap.push o).objs.size))) { s with heap:=(s.heap.push o).push { cls:=.type "enumerate",data:=.fields [.none,.bool false,.ref s.heap.objs.size,rawInt 0,.none,.none].toArray } }):=
 .of_wp λA R s h=>by
  obtain⟨hp,g,d,tk,os⟩:=s;obtain⟨c,h⟩:=h;have hsub:=sub_enumerate;have d1:∀(B:Ke) (Q:Jm->Jp->Prop) (E:Jm->Jp->Prop),Q (.ref hp.objs.size) #[hp.push o,g,d,tk,os]->wpAny (model prog w) B (pyIter v) Q E #[hp,g,d,tk,os]:=λB Q E q=>h1 B #[hp,g,d,tk,os] Q E c q
  wp_walk
  show wpAny_stack_any λst=>Jt ?_
  split
  ·rename_i c _ _ _ _ _;cases(c==L8 "enumerate")
   ·wp_walk using d1 _ _ _
    exact#[_,rfl,h]
   ·wp_walk using d1 _ _ _
    exact#[_,rfl,h]
  ·wp_walk using d1 _ _ _
   exact#[_,rfl,h]
def uU {Q:Jm->Jp->Prop}(h1:dU prog w v o C)(c:C s.heap)(n1:o.isFreed=false)
  (h:∀h',Sz h' (s.heap.objs.size+1) s.heap.objs.size 0 .none->h'.get? s.heap.objs.size=ba o->(∀b o,s.heap.get? b=ba o->h'.get? b=ba o)->Q (.ref (s.heap.objs.size+1)) { s with heap:=h' }) :
  wpAny (model prog w) B (call (.type "enumerate") [v]) Q E s:=by
 show Rt F.called_enumerate #v[] (F.typeCall_enumerate_1 _) (F.newCall_enumerate_1 _) (λobj=>F.args_object_init_2 obj _) F.entry_enumerate_new (pJ h1) #[c,?_]
 have hz:(s.heap.push o).objs.size=s.heap.objs.size+1:=LY ..;change _/\_;rw[hz];have he:Sz ((s.heap.push o).push { cls:=.type "enumerate",data:=.fields [.none,.bool false,.ref s.heap.objs.size,rawInt 0,.none,.none].toArray }) (s.heap.objs.size+1) s.heap.objs.size 0 .none:=by
  have:=JF (s.heap.push o) (o:={ cls:=.type "enumerate",data:=.fields [.none,.bool false,.ref s.heap.objs.size,rawInt 0,.none,.none].toArray }) rfl;rw[hz]at this; exact this
 exact#[#[_,he,rfl],h _ he (Jn _ (JF _ n1)) λb o x=>Jn _ (Jn _ x)]
end
abbrev Hi (K:Jz)(S1:Zs):It:=
 #[λi H=>∃x,S1.at K H i x,λi H v H'=>∃p x,S1.is K H i x/\v=.ref p/\H p=gV/\H'=bn H p (.tup [.int i,x]),λi H=>S1.out K H i]
def uV {P:J2}{w:Kf}{K:Jz}{els:Jj JR}{k0:Jr}{tp:LN}{S1:Zs}{z i1:Ju}(D:z≠i1) :
  Turn P w K (.Tuple els k0 tp) (Hi K S1) [z,i1] z (λi h=>(∃old,Sz h z i1 i old)/\S1.T i1 i h) where
 mem:=by simp
 obj:=λi h #[#[old,a],d] b' hb=>by
  have it:∀ {S:Zs} {it:Ju},S.T it i h->∃o,h.get? it=ba o/\∀v,o.data≠.cell v:=λ{S it} t=>by
   cases S with
   | tup a=>obtain⟨o,e,_,d⟩:=t; exact#[o,e,λv z=>by rw[d]at z; cases z]
   | lst a=>obtain⟨o,e,_,d⟩:=t; exact#[o,e,λv z=>by rw[d]at z; cases z]
   | txt x=>obtain⟨tk,⟨o,e,_,d⟩|⟨o,e,_,d⟩⟩:=t <;> exact#[o,e,λv z=>by rw[d]at z; cases z]
  simp only[JC,J7,Ld]at hb;rcases hb with rfl|rfl
  ·exact#[_,a,λv z=>by cases z]
  ·exact it d
 keep:=λi h h' #[#[old,a],d] k=>#[#[old,k z (by simp) _ a],Zs.keep d (k i1 (by simp))]
 item:=by
  intro X hP hw hK hc i J s Y H E I hf st hg;subst hP hw hK;obtain⟨x,g1⟩:=hg;obtain⟨⟨old,a⟩,d⟩:=st;have hf4:∀b∈[z,z,i1,i1],gW X J H b:=λb hb=>hf b (by simp only[JC,J7,Ld]at hb ⊢; rcases hb with h|h|h|h <;> simp[h])
  obtain⟨C1,Zz,c1,k1⟩:=Zs.zit (it:=i1) (Uq:=ba x) I hf4 g1;have hT:s.TypeIs (.ref z) "enumerate":=#[_,a,rfl];unfold pyNext;show Jk (MU (Kt (name:=Lq "__next__") hT F.slot_enumerate_next (KN F.slot_enumerate_next hT F.entry_enumerate_next ?_ (F.args_enumerate_next_1 _))));show ma Zz (I.ok.hd hc) a d c1 D (λV e1 u g tk tk0 r1 zg t1 ng kp=>?_) (λz=>by cases z)
  cases e1;show Jt #[_,rfl,?_];show wpAny_letOwnedTupleGo_enum (s:={ s with heap:=g,toks:=tk }) zg λg' zg' sb=>?_
  have N0:H s.heap.objs.size=gV:=I.hok.fresh (Jy _);have lt:∀ {b:Ju},b∈[z,i1]->s.heap.objs.size≠b:=λ{b} hb=>by
   have:∃o,s.heap.get? b=ba o:=by
    have it:∀ {S:Zs} {it:Ju},S.T it i s.heap->∃o,s.heap.get? it=ba o:=λ{S it} t=>by
     cases S with
     | tup a=>obtain⟨o,e,_⟩:=t; exact#[o,e]
     | lst a=>obtain⟨o,e,_⟩:=t; exact#[o,e]
     | txt x=>obtain⟨tk,⟨o,e,_⟩|⟨o,e,_⟩⟩:=t <;> exact#[o,e]
    simp only[JC,J7,Ld]at hb;rcases hb with rfl|rfl
    ·exact#[_,a]
    ·exact it d
   obtain⟨o,e⟩:=this;exact Li (JM e)
  have up:∀b o,b∉[z,i1]->s.heap.get? b=ba o->g'.get? b=ba o:=λb o hb e=>by
   simp only[JC,J7,Ld,QG]at hb;exact sb.extBut _ _ hb.1 (kp b o hb.1 hb.2 e)
  have I1:Inv X J Y H { s with heap:=g',toks:=tk }:=Mi.Inv.turnedL I up hf
  have ng':g'.get? s.heap.objs.size=ba { cls:=.type "tuple",data:=.seq [.int i tk0,u].toArray }:=sb.extBut _ _ (lt (by simp)) ng
  have I2:Inv X J Y (bn H s.heap.objs.size (.tup [.int i,x])) { s with heap:=g',toks:=tk }:=by
   show Mi.Inv.adopt I1 N0 (.inr I.sz) (Li I.lt) (λw c e=>?_) (λp hp=>?_) #[#[by change 2<=sizeLine; decide,#[_,ng',rfl]],[.int i tk0,u],.cons #[_,rfl] #v[r1],#[_,ng',rfl,0,rfl]]
   ·obtain⟨v,q⟩:=I.cell w c e;exact JX q.lt
   ·exact JX (JM (I.pin p hp).1)
  show#[.ref s.heap.objs.size,_,I2,rfl,#[s.heap.objs.size,x,Zs.at_is I g1,rfl,N0,rfl],#[#[_,zg'],Zs.keep t1 λo e=>sb.extBut _ _ (Ne.symm D) e],λb hb=>?_]
  rw[aD (Ne.symm (lt hb))];exact(hf b hb).1
 done:=by
  intro X hP hw hK hc i J s Y H E I hf st hg;subst hP hw hK;obtain⟨⟨old,a⟩,d⟩:=st;have hf4:∀b∈[z,z,i1,i1],gW X J H b:=λb hb=>hf b (by simp only[JC,J7,Ld]at hb ⊢; rcases hb with h|h|h|h <;> simp[h])
  obtain⟨C1,Zz,c1,k1⟩:=Zs.zit (it:=i1) (Uq:=gV) I hf4 hg;have hT:s.TypeIs (.ref z) "enumerate":=#[_,a,rfl];unfold pyNext;show Jk (MU (Kt (name:=Lq "__next__") hT F.slot_enumerate_next (KN F.slot_enumerate_next hT F.entry_enumerate_next ?_ (F.args_enumerate_next_1 _))));show ma Zz (I.ok.hd hc) a d c1 D (λV e1=>by cases e1) λ_ h' e k #[o,ho,hc]=>?_
  exact Jk (Nl (T:="StopIteration") (b:=true) #[o,ho,hc] O6 (Jt #[rfl,Mi.Inv.turnedL (t':=s.toks) I (λb o hb e=>by
    simp only[JC,J7,Ld,QG]at hb;exact k b o hb.2 e) hf]))
 self:=λ_ _ _ _ _ st h=>by obtain⟨⟨old,a⟩,_⟩:=st; exact Qv a h
abbrev fZ (xs:Jj W):Jj W:=xs.zipIdx.map λp=>.tup [.int (p.2:Jr),p.1]
def xA {xs:Jj W}{i:Jr}{w:W}(h:(fZ xs)[i]?=ba w):∃x,xs[i]?=ba x/\w=.tup [.int i,x]:=by
 unfold fZ at h;rw[Jv,MF,Ru,Jo]at h;obtain⟨x,h1,rfl⟩:=h;exact#[x,h1,by simp]
abbrev rm (f:FA):FI:=λZ S=>match f Z S with
 | some ([x],S1)=>match zu x with
  | some xs=>ba (.its (fZ xs),S1)
  | none=>match x with
   | .ref r=>match eW S1 r with
    | some _=>ba (.el r,S1)
    | none=>gV
   | _=>gV
 | _=>gV
section
variable{X:Cx}{J:Jj (Ju×La)}{Y:L2.St}{H:Hp}{s:Jp}{A:Jj Ju}
def xB {S1:Zs}{xs:Jj W}(z1:ZRel X.K A H xs S1):MIt X.w X.K (.its (fZ xs)) (Hi X.K S1) A H:=by
 show#[λA' H' S i w e so hi=>?_,λA' H' S i e so hi=>?_]
 ·simp only[MI.at,JT]at hi;obtain⟨x,e1,rfl⟩:=xA hi;obtain⟨v,g1,r1⟩:=(z1.mono e).at e1;show#[#[v,g1],λp H2 #[a,v',q1,hp,hn,hH]=>?_]
  subst hp hH;have ex:Ext X.K A' H' A' (bn H' a (.tup [.int i,v'])):=bN (.inl hn);exact#[ex,so.lay hn,.tup (.of aI) #v[.int,((z1.mono e).is e1 q1).mono ex]]
 ·simp only[MI.at,JT,KM,fZ,Jl,M1]at hi;exact(z1.mono e).out hi
def uW {r:Jr}{a:Ju}(ea:A[r]?=ba a):MIt X.w X.K (.el r) (Hi X.K (.lst a)) A H:=by
 show#[λA' H' S i w e so hi=>?_,λA' H' S i e so hi=>?_]
 ·simp only[MI.at]at hi;split at hi
  ·rename_i xs hx;simp only[JT,Jo]at hi;obtain⟨x,e1,rfl⟩:=hi;obtain⟨vs,h1,r1⟩:=aU so hx (e.ad _ _ ea);obtain⟨v,g1,q1⟩:=r1.get e1;show#[#[v,vs,h1,g1],λp H2 #[c,v',z1,hp,hn,hH]=>?_]
   subst hp hH;have t1:=z1 vs h1;rw[g1]at t1; cases t1
   have ex:Ext X.K A' H' A' (bn H' c (.tup [.int i,v])):=bN (.inl hn);exact#[ex,so.lay hn,.tup (.of aI) #v[.int,q1.mono ex]]
  ·cases hi
 ·simp only[MI.at]at hi;split at hi
  ·rename_i xs hx;simp only[JT,OD,KM]at hi;obtain⟨vs,h1,r1⟩:=aU so hx (e.ad _ _ ea);exact#[vs,h1,by rw[<- r1.length]; exact hi]
  ·cases hi
def md:bootBuiltins "enumerate" = ba (.type "enumerate"):=rfl
def A6 {els:Jj JR}{k0:Jr}{tp:LN}{a:JR}{f:FA}{p pos:LN}(hg:Gl X "enumerate")(hm:X.mg "enumerate" = gV)(ha:GA X [a] f)(hs:starEach [a] X.env=[(false,eval a X.env)]) :
  GI X (.Tuple els k0 tp) (.Call (.Name "enumerate" p) [a] [] pos) (rm f):=by
 intro J s Y H R I ⟨A,Z,S,mi,S',er,so,e,hq⟩;unfold rm at e;split at e
 ·rename_i x S1 h1;have fin:∀ {s1:Jp} {H1:Hp} {u:Jm} {Sa:Zs} {oa:La} {Ca:Kn->Prop},Inv X J Y H1 s1->dU X.prog X.w u oa Ca->Ca s1.heap->oa.isFreed=false->(∀it h,h.get? it=ba oa->Sa.T it 0 h)->R (Hi X.K Sa) H1->
    wpAny (model X.prog X.w) X.A (call (.type "enumerate") [u]) (λv s=>wpAny (model X.prog X.w) X.A (pyIter v) (EV X J Y (.Tuple els k0 tp) R) X.xe s) X.xe s1:=λ{s1 H1 u Sa oa Ca} I1 ia ca na ta hR=>by
   show uU ia ca na λh' hz g1 kp=>?_
   have I2:Inv X J Y H1 { s1 with heap:=h' }:=I1.kept (t':=s1.toks) kp
   show Qv (s:={ s1 with heap:=h' }) hz ?_
   show#[s1.heap.objs.size+1,_,_,_,H1,rfl,I2,uV (S1:=Sa) (i1:=s1.heap.objs.size) (by simp),#[#[_,hz],ta _ _ g1],λb hb=>?_,hR]
   have hb':s1.heap.objs.size<=b:=by
    simp only[JC,J7,Ld]at hb;rcases hb with rfl|rfl
    ·exact MJ _ _
    ·exact Jy _
   exact I1.fpOk hb' (I1.hok.fresh hb')
  split at e
  ·rename_i xs e1;cases e;show SE (fO I hg hm md (K9 (a7 (ha pos J s Y H _ I #[A,Z,S,_,_,er,so,h1,λ_ _ z=>z]) λus s1 #[vs,H1,I1,r1,A1,z1,z2,z3]=>?_) (by rw[hs]; rfl) (by rfl)))
   cases z3 with
   | cons ra t=>
    cases t;cases r1 with
    | cons ua t=>
     cases t;obtain⟨Sa,oa,Ca,za,ia,ca,ka,na,ta⟩:=nM I1 ra ua e1;exact fin I1 ia ca na ta (hq _ _ A1 z1 z2 (xB za))
  ·split at e
   ·rename_i r;split at e
    ·rename_i xs hx;cases e;show SE (fO I hg hm md (K9 (a7 (ha pos J s Y H _ I #[A,Z,S,_,_,er,so,h1,λ_ _ z=>z]) λus s1 #[vs,H1,I1,r1,A1,z1,z2,z3]=>?_) (by rw[hs]; rfl) (by rfl)))
     cases z3 with
     | cons ra t=>
      cases t;cases r1 with
      | cons ua t=>
       cases t;cases ra with
       | ref ea=>
        obtain⟨vs,h2,r2⟩:=aU z2 hx ea;obtain⟨oa,Ca,ia,ca,ka,na,ta⟩:=nN I1 ua h2;exact fin (Sa:=.lst _) I1 ia ca na ta (hq _ _ A1 z1 z2 (uW ea))
    ·cases e
   ·cases e
 ·cases e
end
end Mi
namespace Mi
open PySem PySem.Spec PyProof.Rows L2
abbrev xC (X:Cx)(x:JA)(w:W):Prop:=∃v u,X.mg x=ba u/\RelV v u/\∀A H,Rel X.K A H w v
section
variable{X:Cx}
def DT {x:JA}{w:W}{pos:LN}(hg:Gl X x)(hd:(x==("__debug__" : JA))=false)(h:xC X x w):GE X (.Name x pos) (fC w):=by
 obtain⟨v,u,hm,r,rel⟩:=h;exact nH (zy hg hm r hd) rel
end
abbrev vw (g1 g2:Jj W->aa->Jq (W×aa))(xs:Jj W)(S:aa):Jq (W×aa):=match g1 xs S with
 | some r=>ba r
 | none=>g2 xs S
def kF {X:Cx}{f:Jm}{g1 g2:Jj W->aa->Jq (W×aa)}(h1:LCall X f g1)(h2:LCall X f g2):LCall X f (vw g1 g2):=by
 intro J s Y H A S xs vs us w S' I so rl rv e;unfold vw at e;split at e
 ·rename_i r hr;cases e;exact h1 J s Y H A S xs vs us w S' I so rl rv hr
 ·exact h2 J s Y H A S xs vs us w S' I so rl rv e
abbrev xD (fo fa:FE):FE:=λZ S=>match fo Z S with
 | some (x,S1)=>if (tyOk "tuple" S1 x||tyOk "list" S1 x)=true then match fa Z S1 with
  | some (y,S2)=>eH x y S2
  | none=>gV
  else gV
 | none=>gV
inductive Bi where|len|list|tuple|int|set|sorted|range|abs|all|min
 deriving MB
abbrev Bi.fn:Bi->Jj W->aa->Jq (W×aa)
 | .len=>vw pc AX|.list=>vw lP lV|.tuple=>kA|.int=>FL|.set=>nr|.sorted=>iE|.range=>qS|.abs=>FK|.all=>Ap|.min=>vw wI xq
abbrev Bi.name:Bi->JA
 | .len=>"len"|.list=>"list"|.tuple=>"tuple"|.int=>"int"|.set=>"set"|.sorted=>"sorted"|.range=>"range"|.abs=>"abs"|.all=>"all"|.min=>"min"
inductive Me where|append|extend|join|pop|get|split|starts
 deriving MB
abbrev Me.fn:Me->W->Jj W->aa->Jq (W×aa)
 | .append=>iq|.extend=>iu|.join=>lN|.pop=>Aj|.get=>sd|.split=>nJ|.starts=>iI
abbrev Me.name:Me->JA
 | .append=>"append"|.extend=>"extend"|.join=>"join"|.pop=>"pop"|.get=>"get"|.split=>"split"|.starts=>"startswith"
abbrev Me.ty:Me->KY
 | .append=>"list"|.extend=>"list"|.join=>"str"|.pop=>"list"|.get=>"dict"|.split=>"str"|.starts=>"str"
inductive Tg where
 | nm (i:Jr)|tp (is:Jj Jr)
set_option genSizeOf false in
set_option genInjectivity false in
mutual
inductive E where
 | c (w:W)|v (i:Jr)
 | op (o:BOp) (a b:E)
 | cmp (o:COp) (a b:E)
 | and (a b:E)|or (a b:E)|not (a:E)
 | own (f:JA) (n:Jr) (es:Es)|bi (b:Bi) (es:Es)|me (m:Me) (o:E) (es:Es)
 | idx (o a:E)|ix (a b:E)|sl (a:E) (lo hi:Ep)|tup (es:Es)|lst (es:Es)
 | isi (c:KY) (a:E)
 | neg (a:E)|dnew|disp (es:Es)|chn (o o':COp) (a b d:E)
 | comp (elt:E) (tg:Tg) (it:Ie) (cs:Es) (cap:Jj (Jq Jr))
inductive Es where
 | nil|cons (e:E) (es:Es)
inductive Ep where
 | no|yes (e:E)
inductive Ie where
 | seq (e:E)|rng (es:Es)|zip (es:Es)|rng2 (es:Es)|enu (es:Es)
end
set_option genSizeOf false in
set_option genInjectivity false in
mutual
inductive Sm where
 | set (i:Jr) (e:E)|asg (is:Jj Jr) (e:E)|par (i j:Jr) (es:Es)|put (o k e:E)
 | ex (e:E)|ret (e:E)|retN|pass|brk|cont|bad
 | ite (t:E) (a b:Ss)|whl (t:E) (b:Ss)|loop (tg:Tg) (it:Ie) (b:Ss)
inductive Ss where
 | nil|cons (s:Sm) (ss:Ss)
end
abbrev gA:Tg->FG
 | .nm i=>B6 i
 | .tp is=>EZ is
section
variable (M:JA->FF)
mutual
def ay:E->FE
 | .c w=>fC w
 | .v i=>fV i
 | .op o a b=>Ar (fN o) (ay a) (ay b)
 | .cmp o a b=>As o (ay a) (ay b)
 | .and a b=>sr (ay a) (ay b)
 | .or a b=>Ax (ay a) (ay b)
 | .not a=>su (ay a)
 | .own f n es=>pr n (M f) (cr es)
 | .bi b es=>jD b.fn (cr es)
 | .me m o es=>B5 m.ty m.fn (ay o) (cr es)
 | .ix a b=>HY (ay a) (ay b)
 | .idx o a=>xD (ay o) (ay a)
 | .sl a lo hi=>FW (ay a) (sC lo) (sC hi)
 | .tup es=>w8 (cr es)
 | .lst es=>w9 (cr es)
 | .isi c a=>xn c (ay a)
 | .neg a=>wM (ay a)
 | .dnew=>B7
 | .disp es=>pE (cr es)
 | .chn o o' a b d=>fU o o' (ay a) (ay b) (ay d)
 | .comp elt tg it cs cap=>kD (gb it) (gA tg) (A7 cs) (ay elt) cap
def cM:E->FT
 | .cmp o a b=>pg (As o (ay a) (ay b))
 | .and a b=>wX (cM a) (cM b)
 | .or a b=>FR (cM a) (cM b)
 | .not a=>Au (cM a)
 | .c w=>fX (fC w)
 | .v i=>fX (fV i)
 | .op o a b=>fX (Ar (fN o) (ay a) (ay b))
 | .own f n es=>fX (pr n (M f) (cr es))
 | .bi b es=>fX (jD b.fn (cr es))
 | .me m o es=>fX (B5 m.ty m.fn (ay o) (cr es))
 | .ix a b=>fX (HY (ay a) (ay b))
 | .idx o a=>fX (xD (ay o) (ay a))
 | .sl a lo hi=>fX (FW (ay a) (sC lo) (sC hi))
 | .tup es=>fX (w8 (cr es))
 | .lst es=>fX (w9 (cr es))
 | .isi c a=>fX (xn c (ay a))
 | .neg a=>fX (wM (ay a))
 | .dnew=>λ_ _=>gV
 | .disp _=>λ_ _=>gV
 | .chn o o' a b d=>pg (fU o o' (ay a) (ay b) (ay d))
 | .comp _ _ _ _ _=>λ_ _=>gV
def cr:Es->FA
 | .nil=>eG
 | .cons e es=>bK (ay e) (cr es)
def A7:Es->FT
 | .nil=>B8
 | .cons e .nil=>cM e
 | .cons _ (.cons _ _)=>λ_ _=>gV
def sC:Ep->FO
 | .no=>DE
 | .yes e=>sw (ay e)
def gb:Ie->FI
 | .seq e=>da (ay e)
 | .rng es=>q8 (cr es)
 | .zip es=>xx (cr es)
 | .rng2 es=>iRng2 (cr es)
 | .enu es=>rm (cr es)
end
variable (fuel:Jr)
mutual
def fK:Sm->FS
 | .set i e=>kC (ay M e) (B6 i)
 | .asg is e=>kC (ay M e) (EZ is)
 | .par i j es=>AK i j (cr M es)
 | .put o k e=>kC (ay M e) (AJ (ay M o) (ay M k))
 | .ex e=>AD (ay M e)
 | .ret e=>AG (ay M e)
 | .retN=>λ_ S=>ba (.rt .non,S)
 | .pass=>xi
 | .brk=>λZ S=>ba (.bk Z,S)
 | .cont=>λZ S=>ba (.ct Z,S)
 | .bad=>λ_ _=>gV
 | .ite t a b=>AI (cM M t) (gf a) (gf b)
 | .whl t b=>nI (cM M t) (gf b) fuel
 | .loop tg it b=>xl (gb M it) (gA tg) (gf b)
def gf:Ss->FS
 | .nil=>λZ S=>ba (.nx Z,S)
 | .cons s ss=>AC (fK s) (gf ss)
end
end
structure Gam where
 sc:Jj (JA×Ln)
 N:Jj JA
 fns:Jj (JA×Jr)
 blt:Jj JA
 dfn:J1
 cst:Jj (JA×W)
abbrev DU:Jq Ln->J1
 | some .local=>true|some .cell=>true|some .free=>true|_=>false
abbrev Ba:Jq Ln->J1
 | some .cell=>true|some .free=>true|_=>false
abbrev gg (names outer:Jj (JA×Ln)):Jj (JA×Ln):=names.map λ(n,k)=>if (k==.free&&outer.lookup n==ba .cell)then(n,.cell)else(n,k)
abbrev slot (Γ:Gam)(x:JA):Jq Jr:=if DU (Γ.sc.lookup x) && !(x==("__debug__" : JA)) && !(x==("__classdict__" : JA))then Γ.N.findIdx? (· == x)else gV
abbrev sD:Qc->Jq BOp
 | .Add=>ba .add|.Sub=>ba .sub|.Mult=>ba .mul|.FloorDiv=>ba .fdiv|.Mod=>ba .mod|.Pow=>ba .pow|_=>gV
abbrev jF:QU->Jq COp
 | .Eq=>ba .eq|.NotEq=>ba .ne|.Lt=>ba .lt|.LtE=>ba .le|.Gt=>ba .gt|.GtE=>ba .ge|.In=>ba .isin|.NotIn=>ba .notin|.Is=>ba .is|.IsNot=>ba .isnot
abbrev Bb (x:JA):Jq Bi:=[Bi.len,.list,.tuple,.int,.set,.sorted,.range,.abs,.all,.min].find? λb=>b.name==x
abbrev Bc (x:JA):Jq Me:=[Me.append,.extend,.join,.pop,.get,.split,.starts].find? λb=>b.name==x
abbrev F7 (Γ:Gam)(x:JA):J1:=Γ.sc.lookup x==ba .globalImplicit && !(x==("__debug__" : JA))
abbrev xE (x:JA):Jq KY:=if x==("bool" : JA)then ba "bool" else if x==("int" : JA)then ba "int" else if x==("str" : JA)then ba "str" else if x==("tuple" : JA)then ba "tuple" else if x==("list" : JA)then ba "list" else if x==("dict" : JA)then ba "dict" else gV
abbrev sE:Jj (Jq JR)->Jj JR->Jj JR
 | some k::ks,v::vs=>k::v::sE ks vs
 | _,_=>[]
abbrev Bd (Γ:Gam)(f:JR->Jq E):Jj JR->Jq E
 | [a,.Name c _]=>if F7 Γ c&&Γ.blt.contains c then match xE c,f a with
  | some cs,ba a'=>ba (.isi cs a')
  | _,_=>gV
  else gV
 | _=>gV
abbrev cR:JR->J1
 | .Name _ _=>true|.Constant _ _ _=>true|.Call _ (_::_) _ _=>true|.Subscript _ _ _=>true|_=>false
abbrev jj (Γ:Gam)(x:JA):J1:=Γ.sc.lookup x==ba .globalImplicit && !(x==("__debug__" : JA))
abbrev cU (Γ:Gam)(x:JA):Jq Jr:=if (Γ.sc.lookup x==ba .local)||(Γ.dfn&&Γ.sc.lookup x==ba .cell)then Γ.N.findIdx? (· == x)else gV
abbrev cA (f:JR->Jq E)(es:Jj JR):Jq Es:=es.foldr (λe acc=>match f e,acc with|some e',ba es'=>ba (.cons e' es')|_,_=>gV) (ba .nil)
abbrev cB (f:JR->Jq E)(op:Sy):Jj JR->Jq E
 | []=>gV
 | [a]=>f a
 | a::b::bI=>match f a,cB f op (b::bI)with
  | some a',ba b'=>ba (match op with|.And=>.and a' b'|.Or=>.or a' b')
  | _,_=>gV
abbrev cP (f:JR->Jq E):Jq JR->Jq Ep
 | none=>ba .no
 | some e=>(f e).map .yes
abbrev isTup:JR->J1
 | .Tuple _ _ _=>true
 | _=>false
abbrev cI (Γ:Gam)(f:JR->Jq E)(tg:JR):JR->Jq Ie
 | .Call (.Name x p) [a] [] q=>if x==("range" : JA)&&jj Γ x&&Γ.blt.contains x then(cA f [a]).map .rng else if x==("enumerate" : JA)&&jj Γ x&&Γ.blt.contains x&&isTup tg then(cA f [a]).map .enu else(f (.Call (.Name x p) [a] [] q)).map .seq
 | .Call (.Name x p) [a,b] [] q=>if x==("zip" : JA)&&jj Γ x&&Γ.blt.contains x&&isTup tg then(cA f [a,b]).map .zip else if x==("range" : JA)&&jj Γ x&&Γ.blt.contains x then(cA f [a,b]).map .rng2 else(f (.Call (.Name x p) [a,b] [] q)).map .seq
 | e=>(f e).map .seq
abbrev E1 (Γ:Gam):Jj JR->Jq (Jj Jr)
 | []=>ba []
 | .Name x _::ts=>match cU Γ x,E1 Γ ts with
  | some i,ba is=>ba (i::is)
  | _,_=>gV
 | _::_=>gV
abbrev cT (Γ:Gam):JR->Jq Tg
 | .Name x _=>(cU Γ x).map .nm
 | .Tuple ts _ _=>(E1 Γ ts).map .tp
 | _=>gV
abbrev gQ (names:Jj (JA×Ln)):Jj JA:=(names.filter λp=>p.2==.local||p.2==.free).map (·.1)
abbrev gB (Γ:Gam)(names:Jj (JA×Ln)):Jj (Jq Jr):=(gQ names).map λx=>if names.lookup x==ba .local then gV else Γ.N.findIdx? (· == x)
abbrev xF (Γ:Gam)(scope:My):J1:=
 (scope.kind==.function)&&scope.names.all (λy=>!(y.2==.local)||scope.names.lookup y.1==ba .local)&&scope.names.all (λy=>!(y.2==.cell)) &&
 scope.names.all (λy=>!(y.2==.free)||(Ba (Γ.sc.lookup y.1)&&scope.names.lookup y.1==ba .free&&(Γ.N.findIdx? (· == y.1)).isSome))&&decide (gQ scope.names).Nodup
abbrev gR (Γ:Gam)(scope:My):Gam:={ Γ with sc:=gg scope.names Γ.sc,N:=gQ scope.names,dfn:=false }
abbrev xG (f:JR->Jq E)(keys:Jj (Jq JR))(values:Jj JR):Jq E:=
 if keys.isEmpty&&values.isEmpty then ba .dnew
 else if keys.all (·.isSome)&&decide (keys.length=values.length)&&decide (keys.length<=15)then(cA f (sE keys values)).map .disp else gV
abbrev cE:Jr->Gam->JR->Jq E
 | 0,_,_=>gV
 | n+1,Γ,e=>match e with
  | .Constant (.int i) _ _=>ba (.c (.int i))
  | .Constant (.str x) _ _=>ba (.c (.str x))
  | .Constant (.bool b) _ _=>ba (.c (.bl b))
  | .Constant .none _ _=>ba (.c .non)
  | .Name x _=>match slot Γ x with
   | some i=>ba (.v i)
   | none=>if jj Γ x then(Γ.cst.lookup x).map .c else gV
  | .BinOp a op b _=>match sD op,cE n Γ a,cE n Γ b with
   | some o,ba a',ba b'=>ba (.op o a' b')
   | _,_,_=>gV
  | .UnaryOp .Not a _=>(cE n Γ a).map .not
  | .UnaryOp .USub a _=>(cE n Γ a).map .neg
  | .BoolOp op vs _=>cB (cE n Γ) op vs
  | .Compare a [op] [b] _=>match jF op,cE n Γ a,cE n Γ b with
   | some o,ba a',ba b'=>ba (.cmp o a' b')
   | _,_,_=>gV
  | .Compare a [op,op'] [b,d] _=>match jF op,jF op',cE n Γ a,cE n Γ b,cE n Γ d with
   | some o,ba o',ba a',ba b',ba d'=>ba (.chn o o' a' b' d')
   | _,_,_,_,_=>gV
  | .Call (.Name f _) args [] _=>if jj Γ f then match Γ.fns.lookup f with
    | some k=>(cA (cE n Γ) args).map (.own f k)
    | none=>if f==("isinstance" : JA)then(if Γ.blt.contains f then Bd Γ (cE n Γ) args else gV)else match Bb f,args with
     | some b,a::as=>if Γ.blt.contains f then(cA (cE n Γ) (a::as)).map (.bi b)else gV
     | _,_=>gV
   else gV
  | .Call (.Attribute o m apos) (a::as) [] cpos=>if (m==("index" : JA))=true then match cE n Γ o,cE n Γ a with
   | some o',ba a'=>if cR o&&(apos.endLine==cpos.line)&&as.isEmpty then ba (.idx o' a')else gV
   | _,_=>gV
   else match Bc m,cE n Γ o,cA (cE n Γ) (a::as)with
   | some m',ba o',ba es=>if cR o&&(apos.endLine==cpos.line)&&decide ((a::as).length < 29)then ba (.me m' o' es)else gV
   | _,_,_=>gV
  | .Subscript a (.Slice lo hi gV _) _=>match cE n Γ a,cP (cE n Γ) lo,cP (cE n Γ) hi with
   | some a',ba lo',ba hi'=>ba (.sl a' lo' hi')
   | _,_,_=>gV
  | .Subscript a b _=>match cE n Γ a,cE n Γ b with
   | some a',ba b'=>ba (.ix a' b')
   | _,_=>gV
  | .Tuple es _ _=>(cA (cE n Γ) es).map .tup
  | .List es _=>(cA (cE n Γ) es).map .lst
  | .Dict keys values _=>xG (cE n Γ) keys values
  | .ListComp elt [#[tg,iter,ifs,asy]] scope _=>if (asy==0)&&(xF Γ scope&&decide (ifs.length<=1))then
    match cI Γ (cE n Γ) tg iter,cT (gR Γ scope) tg,cA (cE n (gR Γ scope)) ifs,cE n (gR Γ scope) elt with
    | some it,ba t,ba cs,ba el=>ba (.comp el t it cs (gB Γ scope.names))
    | _,_,_,_=>gV
   else gV
  | _=>gV
structure CtxOk (M:JA->FF)(X:Cx)(Γ:Gam):Prop where
 names:X.env.scope.names=Γ.sc
 kind:X.env.scope.kind=.function
 N:X.N=Γ.N
 nd:Γ.N.Nodup
 calm:X.calm=true
 xe:X.xe=λ_ _=>KP
 un:X.A.units+eX < cLine
 dfn:Γ.dfn=true->∀x,X.fn x=true
 blt:∀x∈Γ.blt,X.mg x=gV
 cst:∀x w,Γ.cst.lookup x=ba w->xC X x w
 fns:∀f n,Γ.fns.lookup f=ba n->∃k fa fd ps,FnOk X.prog X.w X.K X.mg X.base vt k fa fd ps (spF X.w X.K n (M f))/\Room k X.A/\X.mg f=ba (.ref fa)/\K1 X.K (.ref fa)=true/\Binds X.K fd ps []
def aG {α:Type}{x:α}{P:Prop}(h:(gV:Jq α)=ba x):P:=nomatch h
abbrev fe:JR->J1
 | .Starred _ _=>false
 | _=>true
def aq {e:JR}{es:Jj JR}{env:P9}(h:fe e=true):starEach (e::es) env=(false,eval e env)::starEach es env:=by
 cases e <;> first|rfl|cases h
def aO {env:P9}{pos:LN}:∀ {es:Jj JR},es.all fe=true->(backTo pos (starEach es env)).any (·.1)=false
 | [],_=>rfl
 | e::es,h=>by
  rw[Kl,Js]at h;rw[aq h.1];show(false||(backTo pos (starEach es env)).any (·.1))=false
  rw[aO h.2];rfl
def kG {env:P9}{pos:LN}:∀ {es:Jj JR},es.all fe=true->(backTo pos (starEach es env)).all (λx=>!x.1)=true
 | [],_=>rfl
 | e::es,h=>by
  rw[Kl,Js]at h;rw[aq h.1];show(true&&(backTo pos (starEach es env)).all (λx=>!x.1))=true
  rw[kG h.2];rfl
def gC {n:Jr}{Γ:Gam}{e:JR}{e':E}(h:cE n Γ e=ba e'):fe e=true:=by
 cases n with
 | zero=>cases h
 | succ n=>cases e <;> first|rfl|(exact aG h)
def iK {f:JR->Jq E}{e:JR}{es:Jj JR}{r:Es}(h:cA f (e::es)=ba r):∃e' es',f e=ba e'/\cA f es=ba es'/\r=.cons e' es':=by
 simp only[cA,Ra]at h;split at h
 ·rename_i e' es' h1 h2;cases h;exact#[e',es',h1,h2,rfl]
 ·cases h
def bP {n:Jr}{Γ:Gam}:∀ {es:Jj JR} {r:Es},cA (cE n Γ) es=ba r->es.all fe=true
 | [],_,_=>rfl
 | e::es,r,h=>by
  obtain⟨e',es',h1,h2,_⟩:=iK h;rw[Kl,gC h1,bP h2];rfl
def dc {N:Jj JA}{x:JA}{i:Jr}(h:N.findIdx? (· == x)=ba i):N[i]?=ba x:=by
 obtain⟨hl,h1,_⟩:=Lo.mp h;rw[JB hl];exact congrArg ba (eq_of_beq h1)
section
variable{M:JA->FF}{X:Cx}{Γ:Gam}
def nO {e:JR}:GT X e (λ_ _=>gV):=λJ s Y H Q I #[A,Z,S,k,S',er,so,e1,hq]=>by cases e1
def xH {x:JA}(h:DU (X.env.scope.names.lookup x)=true):Hd X.env.scope x:=by
 unfold DU at h;split at h
 ·exact .inl (by assumption)
 ·exact .inr (.inl (by assumption))
 ·exact .inr (.inr (by assumption))
 ·cases h
def xI (K:CtxOk M X Γ){x:JA}{pos:LN}{i:Jr}(h:slot Γ x=ba i):GE X (.Name x pos) (fV i):=by
 unfold slot at h;split at h
 ·rename_i hc;rw[Js,Js]at hc;obtain⟨⟨h1,h2⟩,h3⟩:=hc;show HX (vy (by rw[K.N]; exact dc h) (xH (by rw[K.names]; exact h1)) (by simpa using h2) (by simpa using h3))
 ·cases h
def iL (K:CtxOk M X Γ){x:JA}(h:jj Γ x=true):Gl X x/\(x==("__debug__" : JA))=false:=by
 unfold jj at h;rw[Js]at h;show#[?_,by simpa using h.2]
 change X.env.scope.names.lookup x=_;rw[K.names];exact eq_of_beq h.1
def kH {o:QU}{c:COp}(h:jF o=ba c):c.py=o:=by
 cases o <;> (simp only[jF,JT]at h; subst h; rfl)
def xJ {o:Qc}{c:BOp}(h:sD o=ba c):c.py=o:=by
 cases o <;> simp only[sD,JT]at h <;> first|(subst h; rfl)|cases h
def uX {x:JA}{b:Bi}(h:Bb x=ba b):b.name=x:=by
 have:=OS h;exact eq_of_beq this
def uY {x:JA}{b:Me}(h:Bc x=ba b):b.name=x:=by
 have:=OS h;exact eq_of_beq this
def cV {n:Jr}(ih:∀ {e:JR} {e':E},cE n Γ e=ba e'->GE X e (ay M e')):∀ {es:Jj JR} {r:Es},cA (cE n Γ) es=ba r->GA X es (cr M r)
 | [],r,h=>by cases h; exact w6
 | e::es,r,h=>by
  obtain⟨e',es',h1,h2,rfl⟩:=iK h;exact sv (ih h1) (cV ih h2) (aq (gC h1))
def F8 (K:CtxOk M X Γ){n:Jr}{f:JA}{p pos:LN}{args:Jj JR}{k:Jr}{r:Es}(hg:jj Γ f=true)(hf:Γ.fns.lookup f=ba k)(ha:cA (cE n Γ) args=ba r)(h:GA X args (cr M r)):GE X (.Call (.Name f p) args [] pos) (pr k (M f) (cr M r)):=by
 obtain⟨d,fa,fd,ps,F,hr,hm,hk,hb⟩:=K.fns f k hf;obtain⟨g1,g2⟩:=iL K hg;cases args with
 | nil=>cases ha; exact AA F hr g1 hm hk hb g2
 | cons a as=>
  have ns:=bP ha;rw[Kl,Js]at ns;exact DH F hr g1 hm hk hb h g2 (aq ns.1) (aO ns.2)
def Ic (K:CtxOk M X Γ){n:Jr}{f:JA}{p pos:LN}{a:JR}{as:Jj JR}{b:Bi}{r:Es}(hg:jj Γ f=true)(hb:Bb f=ba b)(hc:Γ.blt.contains f=true)(ha:cA (cE n Γ) (a::as)=ba r)(h:GA X (a::as) (cr M r)):GE X (.Call (.Name f p) (a::as) [] pos) (jD b.fn (cr M r)):=by
 obtain⟨g1,g2⟩:=iL K hg;have hm:X.mg f=gV:=K.blt f (by simpa using hc)
 have ns:=bP ha;rw[Kl,Js]at ns;have e:=uX hb;subst e;have hu:X.A.units+12 < cLine:=by have:=K.un; have:eX=20:=rfl; omega
 have calm:∀ {f:Jm} {g:Jj W->aa->Jq (W×aa)},(X.A.handled=gV->LCall X f g)->LCall X f g:=λh J s Y H A S xs vs us w S' I=>h (I.ok.hd K.calm) J s Y H A S xs vs us w S' I
 cases b with
 | len=>exact ph (kF rc re) g1 hm PySem.boot_len h #v[] g2 (aq ns.1) (aO ns.2)
 | list=>exact po (calm λhh=>kF (oV hh) (pe hh)) g1 hm rfl h #v[] g2 (aq ns.1) (aO ns.2)
 | tuple=>exact po (calm nG) g1 hm rfl h #v[] g2 (aq ns.1) (aO ns.2)
 | int=>exact po uz g1 hm rfl h #v[] g2 (aq ns.1) (aO ns.2)
 | set=>exact po (calm uD) g1 hm rfl h #v[] g2 (aq ns.1) (aO ns.2)
 | sorted=>exact ph (calm λhh=>nD hh hu) g1 hm rfl h #v[] g2 (aq ns.1) (aO ns.2)
 | range=>exact po oU g1 hm rfl h #v[] g2 (aq ns.1) (aO ns.2)
 | abs=>exact ph uy g1 hm rfl h #v[] g2 (aq ns.1) (aO ns.2)
 | all=>exact ph (calm uP) g1 hm rfl h #v[] g2 (aq ns.1) (aO ns.2)
 | min=>exact ph (calm λhh=>kF (uN hh hu) (rg K.calm)) g1 hm rfl h #v[] g2 (aq ns.1) (aO ns.2)
def xK {x:JA}{c:KY}(h:xE x=ba c):bootBuiltins x=ba (.type c)/\x≠"__name__":=by
 unfold xE at h;split at h
 ·rename_i e; cases h; rw[eq_of_beq e]; exact#[rfl,#v[]]
 ·split at h
  ·rename_i e; cases h; rw[eq_of_beq e]; exact#[rfl,#v[]]
  ·split at h
   ·rename_i e; cases h; rw[eq_of_beq e]; exact#[rfl,#v[]]
   ·split at h
    ·rename_i e; cases h; rw[eq_of_beq e]; exact#[rfl,#v[]]
    ·split at h
     ·rename_i e; cases h; rw[eq_of_beq e]; exact#[rfl,#v[]]
     ·split at h
      ·rename_i e; cases h; rw[eq_of_beq e]; exact#[rfl,#v[]]
      ·cases h
def F9 (K:CtxOk M X Γ){n:Jr}{f:JA}{p pos:LN}{args:Jj JR}{r:E}(hg:jj Γ f=true)(hb:(f==("isinstance" : JA))=true)(hc:Γ.blt.contains f=true)(ih:∀ {e:JR} {e':E},cE n Γ e=ba e'->GE X e (ay M e'))(h:Bd Γ (cE n Γ) args=ba r) :
  GE X (.Call (.Name f p) args [] pos) (ay M r)/\∃a c,r=.isi c a:=by
 obtain⟨g1,g2⟩:=iL K hg;have hm:X.mg f=gV:=K.blt f (by simpa using hc)
 have e:=eq_of_beq hb;subst e;unfold Bd at h;split at h
 ·rename_i a c q;split at h
  ·rename_i hcc;rw[Js]at hcc;obtain⟨g3,g4⟩:=iL K (x:=c) hcc.1;have hm2:X.mg c=gV:=K.blt c (by simpa using hcc.2)
   split at h
   ·rename_i cs a' h1 h2;cases h;obtain⟨b1,b2⟩:=xK h1;exact#[DP g1 hm g3 hm2 b1 b2 g4 (ih h2) (aq (gC h2)),a',cs,rfl]
   ·cases h
  ·cases h
 ·cases h
def bQ {o:JR}{name:JA}{env:P9}(h:cR o=true):attributeBase o name env (eval o env)=eval o env:=by
 cases o with
 | Call f args kws p=>
  cases args with
  | nil=>cases h
  | cons a as=>cases f <;> rfl
 | _=>first|rfl|cases h
def sF {n:Jr}{pos:LN}(ih:∀ {e:JR} {e':E},cE n Γ e=ba e'->GE X e (ay M e')):∀(keys:Jj (Jq JR)) (values:Jj JR) {r:Es},keys.all (·.isSome)=true->keys.length=values.length->cA (cE n Γ) (sE keys values)=ba r->F1 X pos keys values (cr M r)
 | [],[],r,_,_,h=>by cases h; exact AS
 | [],_::_,r,_,hl,_=>by cases hl
 | _::_,[],r,_,hl,_=>by cases hl
 | none::_,_::_,r,ha,_,_=>by cases ha
 | some k::ks,v::vs,r,ha,hl,h=>by
  dsimp only[sE]at h;obtain⟨e1,es1,h1,h2,rfl⟩:=iK h;obtain⟨e2,es2,h3,h4,rfl⟩:=iK h2;rw[Kl,Js]at ha;exact xo (ih h1) (ih h3) (sF ih ks vs ha.2 (by simpa using hl) h4)
def Ig (K:CtxOk M X Γ){n:Jr}{m:JA}{apos cpos:LN}{o a:JR}{as:Jj JR}{b:Me}{o':E}{r:Es}(hm:Bc m=ba b)(hr:cR o=true)(hl:(apos.endLine==cpos.line)=true)(hn:(a::as).length < 29)(ho:GE X o (ay M o'))(ha:cA (cE n Γ) (a::as)=ba r)(h:GA X (a::as) (cr M r)) :
  GE X (.Call (.Attribute o m apos) (a::as) [] cpos) (B5 b.ty b.fn (ay M o') (cr M r)):=by
 have ns:=bP ha;have ns':=ns;rw[Kl,Js]at ns;have few:((backTo cpos (starEach (a::as) X.env)).all (λx=>!x.1)&&(backToKw cpos (keywordEach [] X.env)).all (λx=>x.1.isSome)&&decide ((a::as).length+([]:Jj Pn).length+(if ([]:Jj Pn).isEmpty then 0 else 1) < 30))=true:=by
  rw[kG ns',Nt,Js];exact#[rfl,J6 (by simp only[Lj,List.isEmpty_nil,Mf]; omega)]
 have e:=uY hm;subst e;cases b with
 | append=>exact iG Mn PySem.F.slot_list_append PySem.F.type_list_append nj ho h (bQ hr) few hl (aq ns.1) (aO ns.2)
 | extend=>exact iG Mn PySem.F.slot_list_extend PySem.F.type_list_extend nk ho h (bQ hr) few hl (aq ns.1) (aO ns.2)
 | join=>exact iG Nb PySem.F.slot_str_join PySem.F.type_str_join qR ho h (bQ hr) few hl (aq ns.1) (aO ns.2)
 | pop=>exact iG Mn PySem.F.slot_list_pop PySem.F.type_list_pop uA ho h (bQ hr) few hl (aq ns.1) (aO ns.2)
 | get=>exact iG PySem.F.plainAttrs_dict OV PySem.F.type_dict_get (qT (by have:=K.un; have:eX=20:=rfl; omega)) ho h (bQ hr) few hl (aq ns.1) (aO ns.2)
 | starts=>exact iG Nb PySem.F.slot_str_startswith PySem.F.type_str_startswith nK ho h (bQ hr) few hl (aq ns.1) (aO ns.2)
 | split=>exact iG Nb PySem.F.slot_str_split PySem.F.type_str_split pG ho h (bQ hr) few hl (aq ns.1) (aO ns.2)
def Ga {apos cpos:LN}{o a:JR}{fo fa:FE}(hr:cR o=true)(hl:(apos.endLine==cpos.line)=true)(ho:GE X o fo)(hn:fe a=true)(ha:GE X a fa) :
  GE X (.Call (.Attribute o "index" apos) [a] [] cpos) (xD fo fa):=by
 have ns':[a].all fe=true:=by rw[Kl,hn]; rfl
 have few:((backTo cpos (starEach [a] X.env)).all (λx=>!x.1)&&(backToKw cpos (keywordEach [] X.env)).all (λx=>x.1.isSome)&&decide ([a].length+([]:Jj Pn).length+(if ([]:Jj Pn).isEmpty then 0 else 1) < 30))=true:=by
  rw[kG ns',Nt,Js];exact#[rfl,rfl]
 have ga:GA X [a] (bK fa eG):=sv ha w6 (aq hn);intro J s Y H Q I ⟨A,Z,S,w,S',er,so,e,hq⟩;unfold xD at e;split at e
 ·rename_i x S1 h1;split at e
  ·rename_i ht;split at e
   ·rename_i y S2 h2;have hf:bK fa eG Z S1=ba ([y],S2):=by simp only[bK,eG,h2]
    cases x with
    | tup ys=>
     show iG PySem.F.plainAttrs_tuple Of PySem.F.type_tuple_index (jE "tuple.index" (.inl rfl)) ho ga (bQ hr) few hl (aq hn) rfl J s Y H Q I #[A,Z,S,w,S',er,so,?_,hq];unfold B5;rw[h1];dsimp only;rw[JO (show tyOk "tuple" S1 (.tup ys)=true from rfl),hf]
     exact e
    | ref i=>
     have ht:tyOk "list" S1 (.ref i)=true:=by simpa [tyOk]using ht
     show iG Mn Os PySem.F.type_list_index (jE "list.index" (.inr rfl)) ho ga (bQ hr) few hl (aq hn) rfl J s Y H Q I #[A,Z,S,w,S',er,so,?_,hq];unfold B5;rw[h1];dsimp only;rw[JO ht,hf];exact e
    | _=>cases e
   ·cases e
  ·cases e
 ·cases e
def iM {n:Jr}{Γ:Gam}{e:JR}{e':E}{op:QU}(h:cE n Γ e=ba e'):behindInMarks op e=false:=by
 cases n with
 | zero=>cases h
 | succ n=>cases e <;> first|rfl|(exact aG h)
def rn {n:Jr}{Γ:Gam}{e:JR}{e':E}(h:cE n Γ e=ba e'):mT e:=by
 cases n with
 | zero=>cases h
 | succ n=>cases e <;> first|(intro o i; rfl)|(exact aG h)
def nP {n:Jr}{Γ:Gam}{f:JR->Jq E}{e:JR}{i:Ie}{env:P9}{tg:JR}(hf:∀el k p,f (.Set el k p)=gV)(h:cI Γ f tg e=ba i):∀x,foldedSetIterable e env x=pure x:=by
 intro x;cases e <;> first|rfl|(simp[cI,hf]at h)
def nQ {n:Jr}{op:Sy}{pos:LN}(ih:∀ {e:JR} {e':E},cE n Γ e=ba e'->GE X e (ay M e')):∀ {vs:Jj JR} {r:E},cB (cE n Γ) op vs=ba r->GE X (.BoolOp op vs pos) (ay M r)
 | [],r,h=>by cases h
 | [a],r,h=>DB (ih h)
 | a::b::bI,r,h=>by
  simp only[cB]at h;split at h
  ·rename_i a' b' h1 h2;cases h;cases op with
   | And=>exact DC (ih h1) (nQ ih h2)
   | Or=>exact FV (ih h1) (nQ ih h2)
  ·cases h
def nR {n:Jr}{op:Sy}{pos:LN}(ih:∀ {e:JR} {e':E},cE n Γ e=ba e'->GT X e (cM M e')):∀ {vs:Jj JR} {r:E},cB (cE n Γ) op vs=ba r->GW X (.BoolOp op vs pos) (cM M r)
 | [],r,h=>by cases h
 | [a],r,h=>by
  cases op with
  | And=>exact Aw (ih h)
  | Or=>exact Dy (ih h)
 | a::b::bI,r,h=>by
  simp only[cB]at h;split at h
  ·rename_i a' b' h1 h2;cases h;cases op with
   | And=>exact Dz (ih h1) (nR ih h2)
   | Or=>exact FU (ih h1) (nR ih h2)
  ·cases h
def xL {n:Jr}(ih:∀ {e:JR} {e':E},cE n Γ e=ba e'->GE X e (ay M e')){o:Jq JR}{p:Ep}(h:cP (cE n Γ) o=ba p):GO X o (sC M p):=by
 cases o with
 | none=>cases h; exact Ay
 | some e=>
  simp only[cP,Jo]at h;obtain⟨e',h1,rfl⟩:=h;exact Az (ih h1)
def rq (K:CtxOk M X Γ){n:Jr}(ih:∀ {e:JR} {e':E},cE n Γ e=ba e'->GE X e (ay M e')){tg e:JR}{i:Ie}(h:cI Γ (cE n Γ) tg e=ba i):GI X tg e (gb M i):=by
 have gen:(cE n Γ e).map Ie.seq=ba i->GI X tg e (gb M i):=λh=>by
  rw[Jo]at h;obtain⟨e',h1,rfl⟩:=h;exact AW (ih h1)
 unfold cI at h;split at h
 ·rename_i x p a pos;split at h
  ·rename_i hc;rw[Js,Js]at hc;obtain⟨⟨h1,h2⟩,h3⟩:=hc;have hx:=eq_of_beq h1;subst hx;rw[Jo]at h;obtain⟨r,hr,rfl⟩:=h;have ns:=bP hr;rw[Kl,Js]at ns;exact AO (iL K h2).1 (K.blt _ (by simpa using h3)) (cV ih hr) (aq ns.1)
  ·split at h
   ·rename_i hc;rw[Js,Js,Js]at hc;obtain⟨⟨⟨h1,h2⟩,h3⟩,h4⟩:=hc;have hx:=eq_of_beq h1;subst hx;rw[Jo]at h;obtain⟨r,hr,rfl⟩:=h;have ns:=bP hr;rw[Kl,Js]at ns;cases tg with
    | Tuple els k0 tp=>exact A6 (iL K h2).1 (K.blt _ (by simpa using h3)) (cV ih hr) (aq ns.1)
    | _=>cases h4
   ·exact gen h
 ·rename_i x p a b pos;split at h
  ·rename_i hc;rw[Js,Js,Js]at hc;obtain⟨⟨⟨h1,h2⟩,h3⟩,h4⟩:=hc;have hx:=eq_of_beq h1;subst hx;rw[Jo]at h;obtain⟨r,hr,rfl⟩:=h;have ns:=bP hr;rw[Kl,Kl,Js,Js]at ns;cases tg with
   | Tuple els k0 tp=>exact DS (iL K h2).1 (K.blt _ (by simpa using h3)) (cV ih hr) (by rw[aq ns.1,aq ns.2.1]; rfl) (aq ns.2.1)
   | _=>cases h4
  ·split at h
   ·rename_i hc;rw[Js,Js]at hc;obtain⟨⟨h1,h2⟩,h3⟩:=hc;have hx:=eq_of_beq h1;subst hx;rw[Jo]at h;obtain⟨r,hr,rfl⟩:=h;have ns:=bP hr;rw[Kl,Kl,Js,Js]at ns;exact AQ (iL K h2).1 (K.blt _ (by simpa using h3)) (cV ih hr) (by rw[aq ns.1,aq ns.2.1]; rfl) (aq ns.2.1)
   ·exact gen h
 ·exact gen h
def nS (K:CtxOk M X Γ){x:JA}{i:Jr}(h:cU Γ x=ba i):X.N[i]?=ba x/\zx X.env.scope x/\(X.fn x=true\/X.env.scope.names.lookup x=ba .local):=by
 unfold cU at h;split at h
 ·rename_i hc;show#[by rw[K.N]; exact dc h,?_]
  unfold L2.zx;rw[K.names];rw[Lw,Js]at hc;rcases hc with hc|⟨hd,hc⟩
  ·have:=eq_of_beq hc;exact#[.inl this,.inr this]
  ·exact#[.inr (eq_of_beq hc),.inl (K.dfn hd x)]
 ·cases h
def pK (K:CtxOk M X Γ):∀ {ts:Jj JR} {is:Jj Jr},E1 Γ ts=ba is->(∀x∈ts,∃y p,x=Po y p)/\Ou (λ(t:JR) (i:Jr)=>∃x p,t=Po x p/\X.N[i]?=ba x/\zx X.env.scope x/\(X.fn x=true\/X.env.scope.names.lookup x=ba .local)) ts is
 | [],is,h=>by cases h; exact#[λx hx=>by simp at hx,.nil]
 | t::ts,is,h=>by
  cases t with
  | Name x p=>
   dsimp only[E1]at h;split at h
   ·rename_i i is' h1 h2;cases h;obtain⟨a,b⟩:=pK K h2;exact#[λy hy=>(JC.mp hy).elim (λe=>#[x,p,e]) (a y),.cons #[x,p,rfl,nS K h1] b]
   ·cases h
  | _=>cases h
def g9 {env:P9}:∀ {ts:Jj JR},(∀x∈ts,∃y p,x=Po y p)->(assignEach ts env).length=ts.length/\(assignEach ts env).findIdx? (·.1)=gV
 | [],_=>#[rfl,rfl]
 | t::ts,h=>by
  obtain⟨y,p,rfl⟩:=h t Kr;obtain⟨a,b⟩:=g9 (env:=env) λx hx=>h x (Kd _ hx)
  show#[by show(assignEach ts env).length+1=ts.length+1; rw[a],?_]
  change List.findIdx? (·.1) ((false,assign (.Name y p) env)::assignEach ts env)=gV
  rw[NS,b];rfl
def sG (K:CtxOk M X Γ){tg:JR}{t:Tg}(h:cT Γ tg=ba t):GG X tg (gA t):=by
 have hN:X.N.Nodup:=by rw[K.N]; exact K.nd
 cases tg with
 | Name x p=>
  dsimp only[cT]at h; simp only[Jo]at h
  obtain⟨i,h1,rfl⟩:=h;obtain⟨a,b,c⟩:=nS K h1;exact sx hN a b c
 | Tuple ts k p=>
  dsimp only[cT]at h; simp only[Jo]at h
  obtain⟨is,h1,rfl⟩:=h;obtain⟨a,b⟩:=pK K h1;exact DK K.calm a b hN (g9 a).1 (g9 a).2
 | _=>cases h
end
abbrev eI (env:P9):Jj (JA×Ln)->Jj (JA×Ju)->Jj (JA×Ju)
 | [],cs=>cs
 | (n,k)::r,cs=>eI env r (if k==.free then(n,(env.cells.lookup n).getD 0)::cs else cs)
def jk {env:P9}:∀(names:Jj (JA×Ln)) (cs:Jj (JA×Ju)),(∀y∈names,y.2=.free->(env.cells.lookup y.1).isSome=true)->
  (forIn names cs λx r=>match x with|(name,kind)=>if (kind==MV)=true then do let a <- cellOf env name; pure (Lk ((name,a)::r))else pure (Lk r):R3 (Jj (JA×Ju)))=pure (eI env names cs)
 | [],cs,_=>by rw[Pa]; rfl
 | (n,k)::r,cs,h=>by
  rw[Ny];have hr:=λy hy=>h y (Kd _ hy)
  by_cases hk:(k==MV)=true
  ·obtain⟨c,hc⟩:=KF.mp (h (n,k) Kr (eq_of_beq hk));have e1:cellOf env n=pure c:=by unfold cellOf; rw[hc]
   simp only[hk,Mf,e1,pure_bind];rw[jk r _ hr];simp only[eI,hk,Mf,hc,QM]
  ·have hk':(k==MV)=false:=by simpa using hk
   simp only[hk',KZ,L6,pure_bind];rw[jk r _ hr];simp only[eI,hk',KZ,L6]
def jM {scope:My}{env:P9}(h:∀y∈scope.names,y.2=.free->(env.cells.lookup y.1).isSome=true):closureFor scope env=pure (eI env scope.names []):=by
 have:=jk scope.names [] h;unfold closureFor;simp only[this,pure_bind]
def kI {env:P9}:∀(names:Jj (JA×Ln)) (cs:Jj (JA×Ju)),(∀y∈names,y.2=.free->(env.cells.lookup y.1).isSome=true)->(∀x c,cs.lookup x=ba c->env.cells.lookup x=ba c)->
  ∀x c,(eI env names cs).lookup x=ba c->env.cells.lookup x=ba c
 | [],cs,_,h,x,c,e=>h x c e
 | (n,k)::r,cs,hn,h,x,c,e=>by
  show kI r _ (λy hy=>hn y (Kd _ hy)) (λx c e=>?_) x c e
  split at e
  ·rename_i hk;rw[K6]at e;split at e
   ·rename_i hx;cases e;have:=eq_of_beq hx;subst this;obtain⟨c,hc⟩:=KF.mp (hn (x,k) Kr (eq_of_beq hk));rw[hc]; rfl
   ·exact h x c e
  ·exact h x c e
def jG {env:P9}{x:JA}:∀(names:Jj (JA×Ln)) (cs:Jj (JA×Ju)),(∃c,cs.lookup x=ba c)->∃c,(eI env names cs).lookup x=ba c
 | [],cs,h=>h
 | (n,k)::r,cs,h=>by
  show jG r _ ?_;split
  ·rw[K6];split
   ·exact#[_,rfl]
   ·exact h
  ·exact h
def kJ {env:P9}{x:JA}:∀(names:Jj (JA×Ln)) (cs:Jj (JA×Ju)),(x,MV)∈names->∃c,(eI env names cs).lookup x=ba c
 | [],cs,h=>by simp at h
 | (n,k)::r,cs,h=>by
  rcases JC.mp h with e|h
  ·cases e;show jG r _ ?_;simp[K6]
  ·exact kJ r _ h
def kK {x:JA}{k:Ln}:∀ {l:Jj (JA×Ln)},l.lookup x=ba k->(x,k)∈l
 | [],h=>by simp at h
 | (n,j)::r,h=>by
  rw[K6]at h;split at h
  ·rename_i hx;cases h;have:=eq_of_beq hx;subst this;exact Kr
  ·exact Kd _ (kK h)
def eJ {X:Cx}{M:JA->FF}{Γ:Gam}(K:CtxOk M X Γ)(scope:My):(relabel scope X.env).names=gg scope.names Γ.sc:=by
 unfold relabel gg OF;rw[K.kind,K.names];show K7 λ#[n,k] _=>?_
 have e:(P5==P5)=true:=rfl;simp only[e,PC]
def dW {outer:Jj (JA×Ln)}{x:JA}:∀ {names:Jj (JA×Ln)},(gg names outer).lookup x=(names.lookup x).map λk=>if (k==.free&&outer.lookup x==ba .cell)then .cell else k
 | []=>rfl
 | (n,k)::r=>by
  have ih:=dW (outer:=outer) (x:=x) (names:=r);change List.lookup x ((if (k==MV&&outer.lookup n==ba .cell)=true then(n,Tf)else(n,k))::gg r outer)=_
  cases hx:x==n with
  | true=>
   have:=eq_of_beq hx;subst this;simp only[K6,J5,Kc];split <;> simp[K6]
  | false=>
   simp only[K6,hx];split <;> (simp only[K6,hx]; exact ih)
section
variable{M:JA->FF}{X:Cx}{Γ:Gam}
structure ScOk (Γ:Gam)(scope:My):Prop where
 kind:scope.kind=.function
 names:∀y∈scope.names,y.2=.local->scope.names.lookup y.1=ba .local
 nocell:∀y∈scope.names,y.2≠.cell
 free:∀y∈scope.names,y.2=.free->Ba (Γ.sc.lookup y.1)=true/\scope.names.lookup y.1=ba .free/\(Γ.N.findIdx? (· == y.1)).isSome=true
 nd:(gQ scope.names).Nodup
def sH {scope:My}(h:xF Γ scope=true):ScOk Γ scope:=by
 unfold xF at h;rw[Js,Js,Js,Js]at h;obtain⟨⟨⟨⟨h1,h2⟩,h3⟩,h4⟩,h5⟩:=h;show#[eq_of_beq h1,λy hy e=>?_,λy hy e=>?_,λy hy e=>?_,J9 h5]
 ·have:=JV.mp h2 y hy;rw[e]at this
  simpa using this
 ·have:=JV.mp h3 y hy;rw[e]at this;simp at this
 ·have:=JV.mp h4 y hy;rw[e]at this;simp only[J5,PD,Od,Js]at this;exact#[this.1.1,eq_of_beq this.1.2,this.2]
def sI {o:Jq Ln}(h:Ba o=true):o=ba .cell\/o=ba .free:=by
 unfold Ba at h;split at h
 ·exact .inl rfl
 ·exact .inr rfl
 ·cases h
def mf (K:CtxOk M X Γ)(ok:X.Ok){scope:My}(sc:ScOk Γ scope):CompOk X scope (eI X.env scope.names []) (gQ scope.names) (gB Γ scope.names):=by
 have cells:∀y∈scope.names,y.2=.free->(X.env.cells.lookup y.1).isSome=true:=λy hy e=>by
  have hk:=sI (sc.free y hy e).1;obtain⟨c,hc⟩:=ok.has y.1 (by unfold OF; rw[K.names]; exact hk)
  rw[hc]; rfl
 have relab:∀x,((relabel scope X.env).names.lookup x=ba .cell\/(relabel scope X.env).names.lookup x=ba .free)->(x,MV)∈scope.names:=λx h=>by
  rw[eJ K,dW]at h;cases q:scope.names.lookup x with
  | none=>rw[q]at h; rcases h with h|h <;> cases h
  | some k=>
   rw[q]at h;have hm:=kK q;cases k with
   | free=>exact hm
   | cell=>exact absurd rfl (sc.nocell _ hm)
   | _=>rcases h with h|h <;> simp at h
 show#[jM cells,sc.kind,sc.names,sc.nocell,kI _ _ cells (λx c e=>by cases e),λx h=>kJ _ _ (relab x h),by simp[gB],λi j x hi hx=>?_]
 unfold gB at hi;rw[Jv,hx]at hi;simp only[Kc,JT]at hi;split at hi
 ·cases hi
 ·rename_i hl;have hx2:x∈gQ scope.names:=JD hx;unfold gQ at hx2;obtain⟨⟨x',k⟩,hf,e⟩:=JI.mp hx2;obtain⟨hm,hk⟩:=L3.mp hf;have e':x'=x:=e;subst e';have hkf:k=.free:=by
   simp only[Lw]at hk;rcases hk with hk|hk
   ·have:k=.local:=eq_of_beq hk;subst this;have:=sc.names (x',.local) hm rfl;rw[this]at hl;simp at hl
   ·exact eq_of_beq hk
  subst hkf;obtain⟨f1,f2,f3⟩:=sc.free _ hm rfl;show#[by rw[K.N]; exact dc hi,by unfold OF; rw[K.names]; exact sI f1,?_]
  rw[eJ K,dW,f2];simp only[Kc,JT,J5,Nt];split
  ·exact .inl rfl
  ·exact .inr rfl
def eQ (K:CtxOk M X Γ){scope:My}(sc:ScOk Γ scope)(C:Ju)(s0:Jp)(H0:Hp)(ex:Jj Ju):CtxOk M (lu X scope (eI X.env scope.names []) C (gQ scope.names) s0 H0 ex) (gR Γ scope) where
 names:=eJ K scope
 kind:=sc.kind
 N:=rfl
 nd:=sc.nd
 calm:=K.calm
 xe:=rfl
 un:=K.un
 dfn:=λh=>by cases h
 blt:=K.blt
 cst:=K.cst
 fns:=K.fns
def pL {cs:Es}{n:Jr}{ifs:Jj JR}{Γ:Gam}(hl:ifs.length<=1)(hc:cA (cE n Γ) ifs=ba cs){Yq:Cx}(ih:∀ {e:JR} {e':E},cE n Γ e=ba e'->GT Yq e (cM M e'))(hx:Yq.xe=λ_ _=>KP) :
  ∀J s Y H Q,Inv Yq J Y H s->tT Yq (A7 M cs) Y H Q->
  wpAny (model Yq.prog Yq.w) Yq.A (forIn ifs true λc r=>if r=true then do let ok <- isTrue c Yq.env (eval c Yq.env); pure (Lk ok)else pure (Lk r)) (TP Yq J Y Q) (λ_ _=>KP) s:=by
 intro J s Y H Q I h
 match ifs,hl,hc with
 | [],_,hc=>
  cases hc;obtain⟨A,Z,S,k,S',er,so,e,hq⟩:=h;cases e;exact wpAny_tests_nil #[H,I,hq _ _ #[rfl,A,.refl,so]]
 | [c],_,hc=>
  obtain⟨e',es',h1,h2,rfl⟩:=iK hc;cases h2;have:=ih h1 J s Y H Q I h;rw[hx]at this;exact wpAny_tests_one this
def bA:∀(n:Jr) {Γ:Gam} {X:Cx} {e:JR} {e':E},CtxOk M X Γ->cE n Γ e=ba e'->GE X e (ay M e')/\GT X e (cM M e'):=by
 intro n
 induction n with
 | zero=>intro Γ X e e' K h; cases h
 | succ n ih=>
  intro Γ X e e' K h;have ihE:∀ {e:JR} {e':E},cE n Γ e=ba e'->GE X e (ay M e'):=λq=>(ih K q).1
  have ihT:∀ {e:JR} {e':E},cE n Γ e=ba e'->GT X e (cM M e'):=λq=>(ih K q).2
  have hu10:X.A.units+10 < cLine:=by have:=K.un; have:eX=20:=rfl; omega
  cases e with
  | Constant c k p=>
   cases c <;> cases h
   all_goals first
    | exact#[nH vA (λ_ _=>.non),bJ (nH vA (λ_ _=>.non)) λ_=>rfl]
    | exact#[nH BY (λ_ _=>.bl),bJ (nH BY (λ_ _=>.bl)) λ_=>rfl]
    | exact#[nH vz (λ_ _=>.int),bJ (nH vz (λ_ _=>.int)) λ_=>rfl]
    | exact#[nH vB (λ_ _=>.str),bJ (nH vB (λ_ _=>.str)) λ_=>rfl]
  | Name x p=>
   replace h:(match slot Γ x with|some i=>ba (E.v i)|none=>if jj Γ x then(Γ.cst.lookup x).map E.c else gV)=ba e':=h
   split at h
   ·rename_i i h1;cases h;exact#[xI K h1,bJ (xI K h1) λ_=>rfl]
   ·split at h
    ·rename_i hg;rw[Jo]at h;obtain⟨w,h1,rfl⟩:=h;obtain⟨g1,g2⟩:=iL K hg;have g:=DT (pos:=p) g1 g2 (K.cst x w h1);exact#[g,bJ g λ_=>rfl]
    ·cases h
  | BinOp a op b p=>
   replace h:(match sD op,cE n Γ a,cE n Γ b with|some o,ba a',ba b'=>ba (E.op o a' b')|_,_,_=>gV)=ba e':=h
   split at h
   ·rename_i o a' b' h1 h2 h3;cases h;have e:=xJ h1;subst e;exact#[B4 (rY o) (ihE h2) (ihE h3),bJ (B4 (rY o) (ihE h2) (ihE h3)) λ_=>rfl]
   ·cases h
  | UnaryOp op a p=>
   cases op with
   | Not=>
    replace h:(cE n Γ a).map E.not=ba e':=h;rw[Jo]at h;obtain⟨a',h1,rfl⟩:=h;exact#[DD (ihE h1),DA (ihT h1)]
   | USub=>
    replace h:(cE n Γ a).map E.neg=ba e':=h;rw[Jo]at h;obtain⟨a',h1,rfl⟩:=h;exact#[wQ (ihE h1),bJ (wQ (ihE h1)) λ_=>rfl]
   | _=>exact aG h
  | BoolOp op vs p=>
   replace h:cB (cE n Γ) op vs=ba e':=h;exact#[nQ ihE h,(nR ihT h).pt]
  | Compare a ops cs p=>
   match ops,cs,h with
   | [op],[b],h=>
    replace h:(match jF op,cE n Γ a,cE n Γ b with|some o,ba a',ba b'=>ba (E.cmp o a' b')|_,_,_=>gV)=ba e':=h
    split at h
    ·rename_i o a' b' h1 h2 h3;cases h;have e:=kH h1;subst e;exact#[Dw K.un (ihE h2) (ihE h3) (iM h3),Dx K.un (ihE h2) (ihE h3) (iM h3)]
    ·cases h
   | [],_,h=>exact aG h
   | [_],[],h=>exact aG h
   | [_],_::_::_,h=>exact aG h
   | [op,op'],[b,d],h=>
    replace h:(match jF op,jF op',cE n Γ a,cE n Γ b,cE n Γ d with|some o,ba o',ba a',ba b',ba d'=>ba (E.chn o o' a' b' d')|_,_,_,_,_=>gV)=ba e':=h
    split at h
    ·rename_i o o' a' b' d' h1 h2 h3 h4 h5;cases h;have e:=kH h1;subst e;have e:=kH h2;subst e;exact#[wR K.un (ihE h3) (ihE h4) (ihE h5) (iM h5),wW K.un (ihE h3) (ihE h4) (ihE h5) (iM h5)]
    ·cases h
   | [_,_],[],h=>exact aG h
   | [_,_],[_],h=>exact aG h
   | [_,_],_::_::_::_,h=>exact aG h
   | _::_::_::_,_,h=>exact aG h
  | Call f args kws p=>
   cases kws with
   | cons _ _=>cases f <;> first|(exact aG h)|(cases args <;> (exact aG h))
   | nil=>
    cases f with
    | Name x q=>
     replace h:(if jj Γ x then match Γ.fns.lookup x with|some k=>(cA (cE n Γ) args).map (E.own x k)|none=>if x==("isinstance" : JA)then(if Γ.blt.contains x then Bd Γ (cE n Γ) args else gV)else match (generalizing:=false) Bb x,args with|some b,a::as=>if Γ.blt.contains x then(cA (cE n Γ) (a::as)).map (E.bi b)else gV|_,_=>gV else gV)=ba e':=h
     split at h
     ·rename_i hg;split at h
      ·rename_i k hk;rw[Jo]at h;obtain⟨r,hr,rfl⟩:=h;have g:=F8 (pos:=p) (p:=q) K hg hk hr (cV ihE hr);exact#[g,bJ g λ_=>rfl]
      ·split at h
       ·rename_i his;split at h
        ·rename_i hc;obtain⟨g,a',c',rfl⟩:=F9 (pos:=p) (p:=q) K hg his hc ihE h;exact#[g,bJ g λ_=>rfl]
        ·cases h
       ·split at h
        ·rename_i bb a as hb;split at h
         ·rename_i hc;rw[Jo]at h;obtain⟨r,hr,rfl⟩:=h;have g:=Ic (pos:=p) (p:=q) K hg hb hc hr (cV ihE hr);exact#[g,bJ g λ_=>rfl]
         ·cases h
        ·cases h
     ·cases h
    | Attribute o m q=>
     cases args with
     | nil=>exact aG h
     | cons a as=>
      replace h:(if (m==("index" : JA))=true then match cE n Γ o,cE n Γ a with|some o',ba a'=>if cR o&&(q.endLine==p.line)&&as.isEmpty then ba (E.idx o' a')else gV|_,_=>gV else match Bc m,cE n Γ o,cA (cE n Γ) (a::as)with|some m',ba o',ba es=>if cR o&&(q.endLine==p.line)&&decide ((a::as).length < 29)then ba (E.me m' o' es)else gV|_,_,_=>gV)=ba e':=h
      by_cases hm:(m==("index" : JA))=true
      ·rw[JO hm]at h;have hme:=eq_of_beq hm;subst hme;split at h
       ·rename_i o' a' h1 h2;split at h
        ·rename_i hc;rw[Js,Js]at hc;have h0:as=[]:=No.mp hc.2;subst h0;cases h;have g:=Ga (cpos:=p) (apos:=q) hc.1.1 hc.1.2 (ihE h1) (gC h2) (ihE h2);exact#[g,bJ g λ_=>rfl]
        ·cases h
       ·cases h
      rw[JZ hm]at h;split at h
      ·rename_i m' o' es h1 h2 h3;split at h
       ·rename_i hc;rw[Js,Js,JW]at hc;cases h;have g:=Ig K (cpos:=p) (apos:=q) h1 hc.1.1 hc.1.2 hc.2 (ihE h2) h3 (cV ihE h3);exact#[g,bJ g λ_=>rfl]
       ·cases h
      ·cases h
    | _=>exact aG h
  | Subscript a b p=>
   have plain:(match cE n Γ a,cE n Γ b with|some a',ba b'=>ba (E.ix a' b')|_,_=>gV)=ba e'->GE X (.Subscript a b p) (ay M e')/\GT X (.Subscript a b p) (cM M e'):=λh=>by
    split at h
    ·rename_i a' b' h1 h2;cases h;have g:=FX (pos:=p) hu10 (ihE h1) (ihE h2) (rn h2);exact#[g,bJ g λ_=>rfl]
    ·cases h
   cases b with
   | Slice lo hi st q=>
    cases st with
    | none=>
     replace h:(match cE n Γ a,cP (cE n Γ) lo,cP (cE n Γ) hi with|some a',ba lo',ba hi'=>ba (E.sl a' lo' hi')|_,_,_=>gV)=ba e':=h
     split at h
     ·rename_i a' lo' hi' h1 h2 h3;cases h;have g:=FY (pos:=p) (p2:=q) (ihE h1) (xL ihE h2) (xL ihE h3);exact#[g,bJ g λ_=>rfl]
     ·cases h
    | some z=>exact plain h
   | _=>exact plain h
  | Tuple es k p=>
   replace h:(cA (cE n Γ) es).map E.tup=ba e':=h;rw[Jo]at h;obtain⟨r,h1,rfl⟩:=h;exact#[xf (cV ihE h1),bJ (xf (cV ihE h1)) λ_=>rfl]
  | List es p=>
   replace h:(cA (cE n Γ) es).map E.lst=ba e':=h;rw[Jo]at h;obtain⟨r,h1,rfl⟩:=h;exact#[xg (cV ihE h1),bJ (xg (cV ihE h1)) λ_=>rfl]
  | Dict keys values p=>
   replace h:xG (cE n Γ) keys values=ba e':=h;unfold xG at h;split at h
   ·rename_i hc;cases h;rw[Js]at hc;have k0:keys=[]:=No.mp hc.1;have v0:values=[]:=No.mp hc.2;subst k0 v0;exact#[AT,nO]
   ·rename_i hc0;split at h
    ·rename_i hc;rw[Js,Js,JW,JW]at hc;rw[Jo]at h;obtain⟨r,hr,rfl⟩:=h;have h0:keys≠[]:=λz=>by
      subst z;have v0:values=[]:=Mm.mp hc.1.2.symm;subst v0;exact hc0 rfl
     exact#[AU (pos:=p) hu10 (sF ihE keys values hc.1.1 hc.1.2 hr) hc.1.1 hc.1.2 h0 hc.2,nO]
    ·cases h
  | ListComp elt gens scope p=>
   match gens,h with
   | [#[tg,iter,ifs,asy]],h=>
    replace h:(if (asy==0)&&(xF Γ scope&&decide (ifs.length<=1))then match cI Γ (cE n Γ) tg iter,cT (gR Γ scope) tg,cA (cE n (gR Γ scope)) ifs,cE n (gR Γ scope) elt with|some it,ba t,ba cs,ba el=>ba (E.comp el t it cs (gB Γ scope.names))|_,_,_,_=>gV else gV)=ba e':=h
    split at h
    ·rename_i hc;rw[Js,Js,JW]at hc;have e0:asy=0:=eq_of_beq hc.1;subst e0;replace hc:=hc.2;split at h
     ·rename_i it t cs el h1 h2 h3 h4;cases h;have sc:=sH hc.1;show#[AY K.calm (rq K ihE h1) (λok=>#[_,mf K ok sc,?_]) (nP (n:=n) (λel k p=>by cases n <;> rfl) h1),nO]
      show#[λC s0 H0 ex=>sG (eQ K sc C s0 H0 ex) h2,λC s0 H0 ex J s Y H Q I q=>?_,λC s0 H0 ex=>(ih (eQ K sc C s0 H0 ex) h4).1]
      exact pL hc.2 h3 (λz=>(ih (eQ K sc C s0 H0 ex) z).2) rfl J s Y H Q I q
     ·cases h
    ·cases h
   | [],h=>exact aG h
   | #[_,_,_,_]::_::_,h=>exact aG h
  | _=>exact aG h
end
noncomputable abbrev bB:Jr:=30
abbrev Cc:JR->J1
 | .Constant (.str _) _ _=>true
 | _=>false
abbrev jm:JR->J1
 | .ListComp _ _ _ _=>true
 | _=>false
abbrev sJ:JR->J1
 | .Slice _ _ _ _=>true
 | _=>false
abbrev sK (f:Mb->Jq Sm)(ss:Jj Mb):Jq Ss:=ss.foldr (λs acc=>match f s,acc with|some s',ba ss'=>ba (.cons s' ss')|_,_=>gV) (ba .nil)
abbrev DV (Γ:Gam):Jj JR->JR->Jq Sm
 | [.Name x px,.Name y py],.Tuple [a,b] _ _=>match Γ.N.findIdx? (· == x),Γ.N.findIdx? (· == y),cA (cE bB Γ) [a,b]with
  | some i,ba j,ba es=>if !(i==j)&&(Γ.sc.lookup x==ba .local)&&(Γ.sc.lookup y==ba .local)&&(py.line==px.line) && !([a,b].all (foldedForSure 8)) && !([a,b].all (constantsAlone 8))then ba (.par i j es)else gV
  | _,_,_=>gV
 | _,_=>gV
abbrev cS:Jr->Gam->Mb->Jq Sm
 | 0,_,_=>gV
 | n+1,Γ,st=>match st with
  | .Assign [.Name x _] e _=>match cU Γ x,cE bB Γ e with
   | some i,ba e'=>ba (.set i e')
   | _,_=>gV
  | .Assign [.Tuple ts _ _] e _=>if isTup e then DV Γ ts e else if jm e then gV else match E1 Γ ts,cE bB Γ e with
   | some is,ba e'=>ba (.asg is e')
   | _,_=>gV
  | .Assign [.Subscript o k _] e _=>if sJ k then gV else match cE bB Γ o,cE bB Γ k,cE bB Γ e with
   | some o',ba k',ba e'=>ba (.put o' k' e')
   | _,_,_=>gV
  | .Expr e _=>if Cc e then ba .pass else if jm e then gV else(cE bB Γ e).map .ex
  | .Return (ba e) _=>(cE bB Γ e).map .ret
  | .Return gV _=>ba .retN
  | .Pass _=>ba .pass
  | .Raise _ _ _=>ba .bad
  | .Break _=>ba .brk
  | .Continue _=>ba .cont
  | .If t a b _=>match cE bB Γ t,sK (cS n Γ) a,sK (cS n Γ) b with
   | some t',ba a',ba b'=>ba (.ite t' a' b')
   | _,_,_=>gV
  | .While t b [] _=>match cE bB Γ t,sK (cS n Γ) b with
   | some t',ba b'=>ba (.whl t' b')
   | _,_=>gV
  | .For tg it b [] _=>match cT Γ tg,cI Γ (cE bB Γ) tg it,sK (cS n Γ) b with
   | some t,ba i,ba b'=>ba (.loop t i b')
   | _,_,_=>gV
  | _=>gV
section
variable{M:JA->FF}{X:Cx}{Γ:Gam}{fuel:Jr}
def xM {f:Mb->Jq Sm}{s:Mb}{ss:Jj Mb}{r:Ss}(h:sK f (s::ss)=ba r):∃s' ss',f s=ba s'/\sK f ss=ba ss'/\r=.cons s' ss':=by
 simp only[sK,Ra]at h;split at h
 ·rename_i e' es' h1 h2;cases h;exact#[e',es',h1,h2,rfl]
 ·cases h
def gD {n:Jr}(ih:∀ {st:Mb} {s':Sm},cS n Γ st=ba s'->GS X st (fK M fuel s')):∀ {ss:Jj Mb} {r:Ss},sK (cS n Γ) ss=ba r->GSs X ss (gf M fuel r)
 | [],r,h=>by cases h; exact AB
 | s::ss,r,h=>by
  obtain⟨s',ss',h1,h2,rfl⟩:=xM h;exact xh (ih h1) (gD ih h2)
def kL {e:JR}{t:Jq JR}{l:Jr}{env:P9}(h:jm e=false)(n:Jr){Γ:Gam}{e':E}(hc:cE n Γ e=ba e'):swapsWith e t l env=pure false:=by
 cases n with
 | zero=>cases hc
 | succ n=>cases e <;> first|(exfalso; exact aG hc)|rfl|cases h
def rs (K:CtxOk M X Γ){n:Jr}{elt:JR}{gens:Jj Comprehension}{scope:My}{p:LN}{e':E}(h:cE (n+1) Γ (.ListComp elt gens scope p)=ba e') :
  ∃tg iter ifs fi g c f cap,gens=[#[tg,iter,ifs,0]]/\ay M e'=kD fi g c f cap/\GI X tg iter fi/\(X.Ok->∃cl,CompOk X scope cl (gQ scope.names) cap/\BlockOk X scope cl (gQ scope.names) tg elt ifs g c f)/\∀x,foldedSetIterable iter X.env x=pure x:=by
 match gens,h with
 | [#[tg,iter,ifs,asy]],h=>
  replace h:(if (asy==0)&&(xF Γ scope&&decide (ifs.length<=1))then match cI Γ (cE n Γ) tg iter,cT (gR Γ scope) tg,cA (cE n (gR Γ scope)) ifs,cE n (gR Γ scope) elt with|some it,ba t,ba cs,ba el=>ba (E.comp el t it cs (gB Γ scope.names))|_,_,_,_=>gV else gV)=ba e':=h
  split at h
  ·rename_i hc;rw[Js,Js,JW]at hc;have e0:asy=0:=eq_of_beq hc.1;subst e0;replace hc:=hc.2;split at h
   ·rename_i it t cs el h1 h2 h3 h4;cases h;have sc:=sH hc.1;show#[tg,iter,ifs,_,_,_,_,_,rfl,rfl,rq K (λz=>(bA n K z).1) h1,λok=>#[_,mf K ok sc,?_],nP (n:=n) (λel k p=>by cases n <;> rfl) h1]
    show#[λC s0 H0 ex=>sG (eQ K sc C s0 H0 ex) h2,λC s0 H0 ex J s Y H Q I q=>?_,λC s0 H0 ex=>(bA n (eQ K sc C s0 H0 ex) h4).1]
    exact pL hc.2 h3 (λz=>(bA n (eQ K sc C s0 H0 ex) z).2) rfl J s Y H Q I q
   ·cases h
  ·cases h
 | [],h=>exact aG h
 | #[_,_,_,_]::_::_,h=>exact aG h
def Gb (K:CtxOk M X Γ){x:JA}{px pos:LN}{e:JR}{i:Jr}{e':E}(hi:cU Γ x=ba i)(he:cE bB Γ e=ba e'):GS X (.Assign [.Name x px] e pos) (kC (ay M e') (B6 i)):=by
 obtain⟨a,b,c⟩:=nS K hi;have hN:X.N.Nodup:=by rw[K.N]; exact K.nd
 have plain:swapsWith e (ba (.Name x px)) pos.line X.env=pure false->GS X (.Assign [.Name x px] e pos) (kC (ay M e') (B6 i)):=λhs=>qZ (bA _ K he).1 (sx hN a b c) hs (by cases e <;> rfl) rfl
 cases hc:jm e with
 | false=>exact plain (kL hc _ he)
 | true=>
  cases e with
  | ListComp elt gens scope p=>
   cases hsw:(X.env.blockKind==.function&&X.env.kindOf x==ba .local&&px.line==p.line && !(scope.names.any λ(n,k)=>n==x&&(k==.local||k==.cell)))with
   | false=>
    show plain ?_;show(pure (X.env.blockKind==.function&&X.env.kindOf x==ba .local&&px.line==p.line && !(scope.names.any λ(n,k)=>n==x&&(k==.local||k==.cell))):R3 J1)=pure false
    rw[hsw]
   | true=>
    have hsw':swapsWith (.ListComp elt gens scope p) (ba (.Name x px)) pos.line X.env=pure true:=by
     show(pure (X.env.blockKind==.function&&X.env.kindOf x==ba .local&&px.line==p.line && !(scope.names.any λ(n,k)=>n==x&&(k==.local||k==.cell))):R3 J1)=pure true
     rw[hsw]
    rw[Js,Js,Js]at hsw;have hl:X.env.scope.names.lookup x=ba .local:=eq_of_beq hsw.1.1.2;obtain⟨tg,iter,ifs,fi,g,c',f,cap,rfl,e2,gi,hck,hs⟩:=rs K he;rw[e2];exact rh K.calm gi hck hs hsw' hN a hl
  | _=>cases hc
def pM (K:CtxOk M X Γ){x y:JA}{px py pt pt2:LN}{kt k2:Jr}{a b:JR}(hxy:x≠y)(hx:Γ.sc.lookup x=ba .local)(hy:Γ.sc.lookup y=ba .local)(hl:(py.line==px.line)=true)(h1:[a,b].all (foldedForSure 8)=false)(h2:[a,b].all (constantsAlone 8)=false)(hs:fe a=true)(hs2:fe b=true) :
  swappedStores [.Tuple [.Name x px,.Name y py] kt pt] (.Tuple [a,b] k2 pt2) X.env=pure (ba [x,y]):=by
 have kx:(X.env.kindOf x==ba .local)=true:=by unfold OF; rw[K.names,hx]; rfl
 have ky:(X.env.kindOf y==ba .local)=true:=by unfold OF; rw[K.names,hy]; rfl
 have bk:(X.env.blockKind != .function)=false:=by
  unfold Env.blockKind;rw[K.kind];rfl
 have hp:(px.line==px.line)=true:=by simp
 have ed:([x,y].eraseDups.length != [x,y].length)=false:=by
  have:(y==x)=false:=by simpa using Ne.symm hxy
  simp[Ps,this]
 have kx':X.env.kindOf x=ba .local:=eq_of_beq kx;have ky':X.env.kindOf y=ba .local:=eq_of_beq ky;have hl':py.line=px.line:=eq_of_beq hl;have bk':X.env.blockKind=.function:=by simpa using bk
 have yx:(y==x)=false:=by simpa using Ne.symm hxy
 have h1':(foldedForSure 8 a&&foldedForSure 8 b)=false:=by simpa using h1
 have h2':(constantsAlone 8 a&&constantsAlone 8 b)=false:=by simpa using h2
 unfold swappedStores;simp only[LU,List.any_nil,RD,MO,List.filterMap_nil,kx',ky',bk',List.head?_cons,Kc,QM,JL,Lj,Kl,List.all_nil,PC,h1',h2'];show Eq.trans (JZ ?_) (Eq.trans (JZ ?_) ?_)
 ·decide
 ·rw[Lw];rintro(hh|hh)
  ·clear h1 h2 h1' h2';cases a <;> first|(cases hh; done)|(cases hs; done)
  ·clear h1 h2 h1' h2';cases b <;> first|(cases hh; done)|(cases hs2; done)
 ·dsimp only[Expr.pos]; simp[hl',yx,Ps]
def Be (fuel:Jr)(K:CtxOk M X Γ):∀(n:Jr) {st:Mb} {s':Sm},cS n Γ st=ba s'->GS X st (fK M fuel s'):=by
 have hN:X.N.Nodup:=by rw[K.N]; exact K.nd
 have own:Pl (model X.prog X.w) X.A X.env X.xe:=by rw[K.xe]; exact SS
 intro n
 induction n with
 | zero=>intro st s' h; cases h
 | succ n ih=>
  intro st s' h;cases st with
  | Expr e p=>
   replace h:(if Cc e then ba Sm.pass else if jm e then gV else(cE bB Γ e).map Sm.ex)=ba s':=h
   split at h
   ·rename_i hd;cases h;cases e with
    | Constant c k q=>
     cases c with
     | str x=>exact DI
     | _=>cases hd
    | _=>cases hd
   ·split at h
    ·cases h
    ·rename_i hd hc;rw[Jo]at h;obtain⟨e',h1,rfl⟩:=h;exact FZ (bA _ K h1).1 (kL (by simpa using hc) _ h1)
  | Return o p=>
   cases o with
   | none=>cases h; exact AH
   | some e=>
    replace h:(cE bB Γ e).map Sm.ret=ba s':=h;rw[Jo]at h;obtain⟨e',h1,rfl⟩:=h;exact DJ (bA _ K h1).1
  | Pass p=>cases h; exact AE
  | Raise exc cause pos=>cases h; exact λJ s D Y H I #[A,Z,S,o,S',er,so,e,hq]=>nomatch e
  | Break p=>cases h; exact xj
  | Continue p=>cases h; exact AF
  | If t a b p=>
   replace h:(match cE bB Γ t,sK (cS n Γ) a,sK (cS n Γ) b with|some t',ba a',ba b'=>ba (Sm.ite t' a' b')|_,_,_=>gV)=ba s':=h
   split at h
   ·rename_i t' a' b' h1 h2 h3;cases h;exact F0 (bA _ K h1).2 (gD ih h2) (gD ih h3)
   ·cases h
  | While t b o p=>
   cases o with
   | cons _ _=>exact aG h
   | nil=>
    replace h:(match cE bB Γ t,sK (cS n Γ) b with|some t',ba b'=>ba (Sm.whl t' b')|_,_=>gV)=ba s':=h
    split at h
    ·rename_i t' b' h1 h2;cases h;exact xk fuel own (bA _ K h1).2 (gD ih h2)
    ·cases h
  | For tg it b o p=>
   cases o with
   | cons _ _=>exact aG h
   | nil=>
    replace h:(match cT Γ tg,cI Γ (cE bB Γ) tg it,sK (cS n Γ) b with|some t,ba i,ba b'=>ba (Sm.loop t i b')|_,_,_=>gV)=ba s':=h
    split at h
    ·rename_i t i b' h1 h2 h3;cases h;exact DO own K.calm (rq K (λz=>(bA _ K z).1) h2) (sG K h1) (gD ih h3) (nP (n:=bB) (λel k p=>rfl) h2)
    ·cases h
  | Assign ts e p=>
   match ts,h with
   | [],h=>exact aG h
   | a::_::_,h=>cases a <;> exact aG h
   | [t],h=>
    cases t with
    | Name x px=>
     replace h:(match cU Γ x,cE bB Γ e with|some i,ba e'=>ba (Sm.set i e')|_,_=>gV)=ba s':=h
     split at h
     ·rename_i i e' h1 h2;cases h;exact Gb K h1 h2
     ·cases h
    | Subscript o k q=>
     replace h:(if sJ k then gV else match cE bB Γ o,cE bB Γ k,cE bB Γ e with|some o',ba k',ba e'=>ba (Sm.put o' k' e')|_,_,_=>gV)=ba s':=h
     split at h
     ·cases h
     ·rename_i hc;split at h
      ·rename_i o' k' e' h1 h2 h3;cases h;show qZ (bA _ K h3).1 (DL (by have:=K.un; have:eX=20:=rfl; omega) (bA _ K h1).1 (bA _ K h2).1 ?_) (by cases e <;> rfl) (by cases e <;> rfl) rfl
       intro v;cases k <;> first|rfl|exact absurd rfl hc
      ·cases h
    | Tuple ts' k q=>
     have par:∀ {x y:JA} {px py:LN} {a b:PySem.Expr} {k2:Jr} {q2:LN},(match Γ.N.findIdx? (· == x),Γ.N.findIdx? (· == y),cA (cE bB Γ) [a,b]with
       | some i,ba j,ba es=>if !(i==j)&&(Γ.sc.lookup x==ba .local)&&(Γ.sc.lookup y==ba .local)&&(py.line==px.line) && !([a,b].all (foldedForSure 8)) && !([a,b].all (constantsAlone 8))then ba (Sm.par i j es)else gV
       | _,_,_=>gV)=ba s'->GS X (.Assign [.Tuple [.Name x px,.Name y py] k q] (.Tuple [a,b] k2 q2) p) (fK M fuel s'):=λ{x y px py a b k2 q2} h=>by
      split at h
      ·rename_i i j es h1 h2 h3;split at h
       ·rename_i hc;cases h;rw[Js,Js,Js,Js,Js]at hc;obtain⟨⟨⟨⟨⟨c1,c2⟩,c3⟩,c4⟩,c5⟩,c6⟩:=hc;have hij:i≠j:=by simpa using c1
        have ns:=bP h3;rw[Kl,Kl,Js,Js]at ns;have hi:X.N[i]?=ba x:=by rw[K.N]; exact dc h1
        have hj:X.N[j]?=ba y:=by rw[K.N]; exact dc h2
        show DM K.calm hN hi hj hij (by rw[K.names]; exact eq_of_beq c2) (by rw[K.names]; exact eq_of_beq c3) (cV (λz=>(bA _ K z).1) h3) (pM K ?_ (eq_of_beq c2) (eq_of_beq c3) c4 (by rw[<- Qw]; exact c5) (by rw[<- Qw]; exact c6) ns.1 ns.2.1) rfl
        rintro rfl;rw[h1]at h2;cases h2;exact hij rfl
       ·cases h
      ·cases h
     replace h:(if isTup e then DV Γ ts' e else if jm e then gV else match E1 Γ ts',cE bB Γ e with|some is,ba e'=>ba (Sm.asg is e')|_,_=>gV)=ba s':=h
     split at h
     ·unfold DV at h;split at h
      ·exact par h
      ·cases h
     ·split at h
      ·cases h
      ·rename_i hc1 hc2;split at h
       ·rename_i is e' h1 h2;cases h;show qZ (bA _ K h2).1 (sG (tg:=.Tuple ts' k q) (t:=.tp is) K (by(dsimp only[cT]; simp[h1]))) (kL (t:=ba (.Tuple ts' k q)) (l:=p.line) (env:=X.env) (by simpa using hc2) _ h2) ?_ rfl
        cases e <;> first|rfl|exact absurd rfl hc1
       ·cases h
    | _=>exact aG h
  | _=>exact aG h
end
structure Df where
 ps:Jj JA
 N:Jj JA
 body:Ss
abbrev ff (N:Jj JA)(ws:Jj W):Fm:=ws.map ba++Kg (N.length - ws.length) gV
abbrev al (defs:Jj (JA×Df))(fuel:Jr):Jr->JA->FF
 | 0,_,_,_=>gV
 | d+1,f,ws,S=>match defs.lookup f with
  | some df=>if ws.length=df.ps.length then match gf (al defs fuel d) fuel df.body (ff df.N ws) S with
    | some (.rt w,S')=>ba (w,S')
    | some (.nx _,S')=>ba (.non,S')
    | _=>gV
   else gV
  | none=>gV
structure Md where
 fns:Jj (JA×Jr)
 blt:Jj JA
 cst:Jj (JA×W)
abbrev xN (tv:Md)(st:Mb)(N:Jj JA):Gam:={ sc:=(aT st).names,N:=N,fns:=tv.fns,blt:=tv.blt,dfn:=true,cst:=tv.cst }
abbrev Gc (tv:Md)(st:Mb)(df:Df):Prop:=sK (cS 20 (xN tv st df.N)) (b7 st)=ba df.body
def mh {K:Jz}{A:Jj Ju}{H:Hp}{ws:Jj W}{vs:Jj V}{N:Jj JA}(r:RelL K A H ws vs):EnvRel K A H (ff N ws) (fP N vs):=by
 show#[by simp[ff,L2.fP,r.length],λi w h=>?_]
 unfold ff at h;unfold L2.fP
 by_cases hi:i < ws.length
 ·rw[Kh (by simpa using hi),Jv]at h
  rw[Kh (by rw[Jl,<- r.length]; exact hi),Jv]
  cases q:ws[i]? with
  | none=>rw[q]at h; cases h
  | some w'=>
   rw[q]at h;simp only[Kc,JT]at h;subst h;obtain⟨v,h1,h2⟩:=r.get q;exact#[v,by rw[h1]; rfl,h2]
 ·rw[Lp (by simpa using hi)]at h
  have:=JD h;simp at this
section
variable{P:J2}{w:Kf}{K:Jz}{mg:JA->Jq Jm}{base:Kn}
abbrev Cd (P:J2)(w:Kf)(K:Jz)(mg:JA->Jq Jm)(base:Kn)(tv:Md)(defs:Jj (JA×Df))(fuel d:Jr):Prop:=
 ∀f n,tv.fns.lookup f=ba n->∃fa fd ps,FnOk P w K mg base vt d fa fd ps (spF w K n (al defs fuel d f))/\mg f=ba (.ref fa)/\K1 K (.ref fa)=true/\Binds K fd ps []
structure MdOk (w:Kf)(K:Jz)(mg:JA->Jq Jm)(tv:Md):Prop where
 blt:∀y∈tv.blt,mg y=gV
 cst:∀X:Cx,X.w=w->X.K=K->X.mg=mg->∀x w,tv.cst.lookup x=ba w->xC X x w
def Ce {tv:Md}{defs:Jj (JA×Df)}{fuel d:Jr}{x qual:JA}{st:Mb}{f:Ju}{fd:LX}{df:Df}(F:Fun K x qual st f fd)(S:FnScope df.N df.ps (aT st))(hd:defs.lookup x=ba df)(hc:Gc tv st df)
  (hb:MdOk w K mg tv) (prev:Cd P w K mg base tv defs fuel d):FnOk P w K mg base vt (d+1) f fd df.ps (spF w K df.ps.length (al defs fuel (d+1) x)):=by
 show F.ok S (λvs H Q E h=>?_) (λcdv A outer s H vs Q E hr h=>?_)
 ·obtain⟨A,S,ws,w',S',_,rl,hl,_⟩:=h;rw[<- rl.length]; exact hl
 ·obtain⟨A',St,ws,w',S',so,rl,hl,e,hq⟩:=h;have K':CtxOk (al defs fuel d) (qJ vt P w K mg base df.N qual (aT st) f cdv A outer s H E).nox (xN tv st df.N):=by
   show#[rfl,S.kind,rfl,S.nd,rfl,rfl,?_,λ_ _=>rfl,hb.blt,hb.cst _ rfl rfl rfl,λg n hg=>?_]
   ·have:=hr.un;show(A.deeper _).units+20 < cLine;omega
   ·obtain⟨fa,fd',ps',h1,h2,h3,h4⟩:=prev g n hg;exact#[d,fa,fd',ps',h1,hr,h2,h3,h4]
  show#[tS _ (gf (al defs fuel d) fuel df.body),gD (λz=>Be fuel K' 20 z) hc,?_]
  (dsimp only[al]at e; simp only[hd]at e)
  rw[JO hl]at e;split at e
  ·rename_i w1 S1 h1;cases e;show#[A',ff df.N ws,St,_,_,mh rl,so,h1,#[λY' H' #[_,_,z,_,_,_]=>(by cases z),λv H' #[w2,A2,z0,z1,z2,z3]=>?_,λY' H' #[_,_,z,_,_,_]=>(by cases z),λY' H' #[_,_,z,_,_,_]=>(by cases z)]]
   cases z0;exact hq v H' #[A2,z1,z2,z3]
  ·rename_i Z1 S1 h1;cases e;show#[A',ff df.N ws,St,_,_,mh rl,so,h1,#[λY' H' #[w2,A2,z0,z1,z2,z3]=>?_,λY' H' #[_,_,z,_,_,_]=>(by cases z),λY' H' #[_,_,z,_,_,_]=>(by cases z),λY' H' #[_,_,z,_,_,_]=>(by cases z)]]
   exact hq _ H' #[A2,z1,z2,.non]
  ·cases e
def uZ {H:Hp}{a:Ju}{ns:Jj JG}(hO:vU H)(hS:SqL K H a (ns.map V.int)):StoreOk w K [a] H [.fro (ns.map W.int)]/\RelL K [a] H [.ref 0] [.ref a]:=by
 have rl:∀ns:Jj JG,RelL K [a] H (ns.map W.int) (ns.map V.int):=by
  intro ns
  induction ns with
  | nil=>exact .nil
  | cons n ns ih=>exact .cons .int ih
 have fr:FroL K H a (ns.map V.int):=by
  rcases hS with(h|⟨o,h⟩)|h
  ·rcases hO a with z|⟨o,xs,z⟩ <;> (rw[z]at h; cases h)
  ·exact .inl #[o,h]
  ·exact .inr h
 show#[#[rfl,λi j b o u e1 m1 e2 m2 _ _=>?_,λi o b e1 e2=>?_],.cons (.ref rfl) .nil]
 ·cases i with
  | zero=>simp at e1; subst e1; cases m1
  | succ i=>simp at e1
 ·cases i with
  | zero=>
   simp at e1 e2;subst e1 e2;exact#[_,fr,rl ns]
  | succ i=>simp at e1
def DW {g:FF}{H:Hp}{a:Ju}{ns:Jj JG}(h:∃S',g [.ref 0] [.fro (ns.map W.int)]=ba (.bl true,S'))(hO:vU H)(hS:SqL K H a (ns.map V.int)):spF w K 1 g [.ref a] H (λv _=>v=.bl true) λ_ _ _=>KP:=by
 obtain⟨S',e⟩:=h;obtain⟨so,rl⟩:=uZ hO hS;exact#[[a],_,_,_,S',so,rl,rfl,e,λv H' #[A',z1,z2,z3]=>by cases z3; rfl]
end
abbrev Wp {α:Type}(o:Jq α)(Q:α->Prop):Prop:=∃a,o=ba a/\Q a
def ae {α:Type}{a:α}{Q:α->Prop}:Wp (ba a) Q↔Q a:=#[λ#[b,e,h]=>(by cases e; exact h),λh=>#[a,rfl,h]]
def af {α:Type}{Q:α->Prop}:Wp (gV:Jq α) Q↔KP:=#[λ#[b,e,h]=>(by cases e),λh=>h.elim]
def Wp.mono {α:Type}{o:Jq α}{Q Q':α->Prop}(h:Wp o Q)(k:∀a,Q a->Q' a):Wp o Q':=let ⟨a,e,q⟩:=h; #[a,e,k a q]
section
variable{M:JA->FF}{fuel:Jr}{Z:Fm}{S:aa}
noncomputable abbrev QW:=W×aa->Prop
def Jd {w:W}{Q:QW}:Wp (ay M (.c w) Z S) Q↔Q (w,S):=by(dsimp only[ay]; simp[fC,ae,af])
def IP {i:Jr}{Q:QW}:Wp (ay M (.v i) Z S) Q↔∃w,Z[i]?=ba (ba w)/\Q (w,S):=by
 (dsimp only[ay]; simp only[fV])
 rcases h:Z[i]? with _|_|w <;> simp[ae,af]
def xO {g:W->W->aa->Jq (W×aa)}{a b:FE}{Q:QW}:Wp (Ar g a b Z S) Q↔Wp (a Z S) λp=>Wp (b Z p.2) λq=>Wp (g p.1 q.1 q.2) Q:=by
 unfold Ar;rcases h:a Z S with _|⟨x,S1⟩
 ·simp[ae,af]
 ·rcases h2:b Z S1 with _|⟨y,S2⟩ <;> simp[ae,af,h2]
def Ih {o:BOp}{a b:E}{Q:QW}:Wp (ay M (.op o a b) Z S) Q↔Wp (ay M a Z S) λp=>Wp (ay M b Z p.2) λq=>Wp (fN o p.1 q.1 q.2) Q:=by dsimp only[ay]; exact xO
def Cf {o:COp}{a b:E}{Q:QW}:Wp (ay M (.cmp o a b) Z S) Q↔Wp (ay M a Z S) λp=>Wp (ay M b Z p.2) λq=>Wp (bO o p.1 q.1 q.2) Q:=by dsimp only[ay]; exact xO
def Ii {o a:E}{Q:QW}(h:Wp (ay M o Z S) λp=>(tyOk "tuple" p.2 p.1||tyOk "list" p.2 p.1)=true/\Wp (ay M a Z p.2) λq=>Wp (eH p.1 q.1 q.2) Q):Wp (ay M (.idx o a) Z S) Q:=by
 obtain⟨⟨x,S1⟩,e1,ht,⟨y,S2⟩,e2,r,e3,q⟩:=h;show#[r,?_,q];dsimp only[ay,xD];dsimp only at ht e2 e3;simp only[e1];rw[JO ht];simp only[e2,e3]
def Ij {a b:E}{Q:QW}:Wp (ay M (.ix a b) Z S) Q↔Wp (ay M a Z S) λp=>Wp (ay M b Z p.2) λq=>Wp (oz p.1 q.1 q.2) Q:=by dsimp only[ay]; exact xO
def Gd {a b:E}{Q:QW}:Wp (ay M (.and a b) Z S) Q↔Wp (ay M a Z S) λp=>∃k,p.1=.bl k/\(k=true->Wp (ay M b Z p.2) Q)/\(k=false->Q (.bl false,p.2)):=by
 (dsimp only[ay]; dsimp only[sr])
 rcases h:ay M a Z S with _|⟨x,S1⟩
 ·simp[ae,af]
 ·cases x <;> simp[ae,af]
  rename_i b; cases b <;> simp[ae,af]
def Ik {a b:E}{Q:QW}:Wp (ay M (.or a b) Z S) Q↔Wp (ay M a Z S) λp=>∃k,p.1=.bl k/\(k=true->Q (.bl true,p.2))/\(k=false->Wp (ay M b Z p.2) Q):=by
 (dsimp only[ay]; dsimp only[Ax])
 rcases h:ay M a Z S with _|⟨x,S1⟩
 ·simp[ae,af]
 ·cases x <;> simp[ae,af]
  rename_i b; cases b <;> simp[ae,af]
def Ge {a:E}{Q:QW}:Wp (ay M (.not a) Z S) Q↔Wp (ay M a Z S) λp=>∃k,p.1=.bl k/\Q (.bl (!k),p.2):=by
 (dsimp only[ay]; dsimp only[su])
 rcases h:ay M a Z S with _|⟨x,S1⟩
 ·simp[ae,af]
 ·cases x <;> simp[ae,af]
  rename_i k; cases k <;> simp
def Cg {f:JA}{n:Jr}{es:Es}{Q:QW}:Wp (ay M (.own f n es) Z S) Q↔Wp (cr M es Z S) λp=>p.1.length=n/\Wp (M f p.1 p.2) Q:=by
 (dsimp only[ay]; dsimp only[pr])
 rcases h:cr M es Z S with _|⟨x,S1⟩
 ·simp[ae,af]
 ·by_cases hl:x.length=n <;> simp[ae,af,hl]
def Gf {b:Bi}{es:Es}{Q:QW}:Wp (ay M (.bi b es) Z S) Q↔Wp (cr M es Z S) λp=>Wp (b.fn p.1 p.2) Q:=by
 (dsimp only[ay]; dsimp only[jD])
 rcases h:cr M es Z S with _|⟨x,S1⟩ <;> simp[ae,af]
def Il {m:Me}{o:E}{es:Es}{Q:QW}:Wp (ay M (.me m o es) Z S) Q↔Wp (ay M o Z S) λp=>tyOk m.ty p.2 p.1=true/\Wp (cr M es Z p.2) λq=>Wp (m.fn p.1 q.1 q.2) Q:=by
 (dsimp only[ay]; dsimp only[B5])
 rcases h:ay M o Z S with _|⟨x,S1⟩
 ·simp[ae,af]
 ·by_cases ht:tyOk m.ty S1 x=true
  ·rcases h2:cr M es Z S1 with _|⟨y,S2⟩ <;> simp[ae,af,ht,h2]
  ·simp[ae,af,ht]
def Im {a:E}{lo hi:Ep}{Q:QW}:Wp (ay M (.sl a lo hi) Z S) Q↔Wp (ay M a Z S) λp=>Wp (sC M lo Z p.2) λq=>Wp (sC M hi Z q.2) λr=>Wp (lM p.1 q.1 r.1 r.2) Q:=by
 (dsimp only[ay]; dsimp only[FW])
 rcases h:ay M a Z S with _|⟨x,S1⟩
 ·simp[ae,af]
 ·rcases h2:sC M lo Z S1 with _|⟨y,S2⟩
  ·simp[ae,af,h2]
  ·rcases h3:sC M hi Z S2 with _|⟨z,S3⟩ <;> simp[ae,af,h2,h3]
def Io {Q:Jq JG×aa->Prop}:Wp (sC M .no Z S) Q↔Q (gV,S):=by(dsimp only[sC]; simp[DE,ae,af])
def Gg {a:E}{Q:Jq JG×aa->Prop}:Wp (sC M (.yes a) Z S) Q↔Wp (ay M a Z S) λp=>∃i,p.1=.int i/\Q (ba i,p.2):=by
 (dsimp only[sC]; simp only[sw])
 rcases h:ay M a Z S with _|⟨x,S1⟩
 ·simp[ae,af]
 ·cases x <;> simp[ae,af]
def Gh {es:Es}{Q:QW}:Wp (ay M (.tup es) Z S) Q↔Wp (cr M es Z S) λp=>p.1.length<=sizeLine/\Q (.tup p.1,p.2):=by
 (dsimp only[ay]; (dsimp only[w8]; simp only[qP]))
 rcases h:cr M es Z S with _|⟨x,S1⟩
 ·simp[ae,af]
 ·by_cases hl:x.length<=sizeLine <;> simp[ae,af,hl]
def Gi {es:Es}{Q:QW}:Wp (ay M (.lst es) Z S) Q↔Wp (cr M es Z S) λp=>p.1.length<=sizeLine/\Q (.ref p.2.length,p.2++[.lst p.1]):=by
 (dsimp only[ay]; (dsimp only[w9]; simp only[j7]))
 rcases h:cr M es Z S with _|⟨x,S1⟩
 ·simp[ae,af]
 ·by_cases hl:x.length<=sizeLine <;> simp[ae,af,hl]
def Ch {c:KY}{a:E}{Q:QW}:Wp (ay M (.isi c a) Z S) Q↔Wp (ay M a Z S) λp=>∃k,oA p.2 p.1 c=ba k/\Q (.bl k,p.2):=by
 (dsimp only[ay]; simp only[xn])
 rcases h:ay M a Z S with _|⟨x,S1⟩
 ·simp[ae,af]
 ·cases h2:oA S1 x c <;> simp[ae,af,h2]
  rename_i k; cases k <;> simp
def Gj {a:E}{Q:QW}:Wp (ay M (.neg a) Z S) Q↔Wp (ay M a Z S) λp=>∃i,p.1=.int i/\Q (.int (-i),p.2):=by
 (dsimp only[ay]; simp only[wM])
 rcases h:ay M a Z S with _|⟨x,S1⟩
 ·simp[ae,af]
 ·cases x <;> simp[ae,af]
def DX {es:Es}{Q:QW}:Wp (ay M (.disp es) Z S) Q↔Wp (cr M es Z (S++[.dic []])) λp=>p.2[S.length]?=ba (.dic [])/\∃U,dk [] p.1=ba U/\Q (.ref S.length,p.2.set S.length (.dic U)):=by
 have e:ay M (.disp es) Z S=pE (cr M es) Z S:=by dsimp only[ay]
 rw[e];unfold pE;cases cr M es Z (S++[.dic []])with
 | none=>simp[af]
 | some p=>
  obtain⟨x,S1⟩:=p;simp only[ae];cases h2:S1[S.length]? with
  | none=>simp[af]
  | some o=>
   cases o with
   | lst _=>simp[af]
   | fro _=>simp[af]
   | frd _=>simp[af]
   | sts _=>simp[af]
   | rng _ _=>simp[af]
   | dic U=>
    cases U with
    | nil=>cases h3:dk [] x <;> simp[ae,af]
    | cons a b=>simp[af]
def Ci {o o':COp}{a b d:E}{Q:QW}(h:Wp (ay M a Z S) λp=>Wp (ay M b Z p.2) λq=>∃k,oP o p.1 q.1 q.2=ba k/\(k=true->Wp (ay M d Z q.2) λr=>Wp (cw o' q.1 r.1 r.2) Q)/\(k=false->Q (.bl false,q.2))):Wp (ay M (.chn o o' a b d) Z S) Q:=by
 obtain⟨⟨x,S1⟩,e1,⟨y,S2⟩,e2,k,e3,h1,h2⟩:=h;have e:ay M (.chn o o' a b d) Z S=fU o o' (ay M a) (ay M b) (ay M d) Z S:=by dsimp only[ay]
 rw[e];unfold fU;rw[e1];dsimp only;rw[e2];dsimp only;rw[e3];cases k with
 | false=>exact#[_,rfl,h2 rfl]
 | true=>
  obtain⟨⟨z,S3⟩,e4,⟨r,e5,q⟩⟩:=h1 rfl;dsimp only;rw[e4];exact#[_,e5,q]
def Gk {Q:Jj W×aa->Prop}:Wp (cr M .nil Z S) Q↔Q ([],S):=by(dsimp only[cr]; (dsimp only[eG]; simp[ae,af]))
def DY {e:E}{es:Es}{Q:Jj W×aa->Prop}:Wp (cr M (.cons e es) Z S) Q↔Wp (ay M e Z S) λp=>Wp (cr M es Z p.2) λq=>Q (p.1::q.1,q.2):=by
 (dsimp only[cr]; dsimp only[bK])
 rcases h:ay M e Z S with _|⟨x,S1⟩
 ·simp[ae,af]
 ·rcases h2:cr M es Z S1 with _|⟨y,S2⟩ <;> simp[ae,af,h2]
noncomputable abbrev QB:=J1×aa->Prop
def Cj {f:FE}{Q:QB}:Wp (pg f Z S) Q↔Wp (f Z S) λp=>∃k,p.1=.bl k/\Q (k,p.2):=by
 unfold pg;rcases h:f Z S with _|⟨x,S1⟩
 ·simp[ae,af]
 ·cases x <;> simp[ae,af]
  rename_i k; cases k <;> simp
def sL {f:FE}{Q:QB}:Wp (fX f Z S) Q↔Wp (f Z S) λp=>∃k,cQ p.2 p.1=ba k/\Q (k,p.2):=by
 unfold fX;rcases h:f Z S with _|⟨x,S1⟩
 ·simp[ae,af]
 ·cases h2:cQ S1 x <;> simp[ae,af,h2]
  rename_i k; cases k <;> simp
def Gm {o:COp}{a b:E}{Q:QB}:Wp (cM M (.cmp o a b) Z S) Q↔Wp (ay M (.cmp o a b) Z S) λp=>∃k,p.1=.bl k/\Q (k,p.2):=by dsimp only[cM,ay]; exact Cj
def Gn {o o':COp}{a b d:E}{Q:QB}:Wp (cM M (.chn o o' a b d) Z S) Q↔Wp (ay M (.chn o o' a b d) Z S) λp=>∃k,p.1=.bl k/\Q (k,p.2):=by dsimp only[cM,ay]; exact Cj
def Go {a b:E}{Q:QB}:Wp (cM M (.and a b) Z S) Q↔Wp (cM M a Z S) λp=>(p.1=true->Wp (cM M b Z p.2) Q)/\(p.1=false->Q (false,p.2)):=by
 (dsimp only[cM]; simp only[wX])
 rcases h:cM M a Z S with _|⟨x,S1⟩
 ·simp[ae,af]
 ·cases x <;> simp[ae,af]
def Ip {a b:E}{Q:QB}:Wp (cM M (.or a b) Z S) Q↔Wp (cM M a Z S) λp=>(p.1=true->Q (true,p.2))/\(p.1=false->Wp (cM M b Z p.2) Q):=by
 (dsimp only[cM]; simp only[FR])
 rcases h:cM M a Z S with _|⟨x,S1⟩
 ·simp[ae,af]
 ·cases x <;> simp[ae,af]
def Gp {a:E}{Q:QB}:Wp (cM M (.not a) Z S) Q↔Wp (cM M a Z S) λp=>Q (!p.1,p.2):=by
 (dsimp only[cM]; simp only[Au])
 rcases h:cM M a Z S with _|⟨x,S1⟩ <;> simp[ae,af]
def Je {i:Jr}{Q:QB}:Wp (cM M (.v i) Z S) Q↔Wp (ay M (.v i) Z S) λp=>∃k,cQ p.2 p.1=ba k/\Q (k,p.2):=by dsimp only[cM,ay]; exact sL
def Gq {f:JA}{n:Jr}{es:Es}{Q:QB}:Wp (cM M (.own f n es) Z S) Q↔Wp (ay M (.own f n es) Z S) λp=>∃k,cQ p.2 p.1=ba k/\Q (k,p.2):=by dsimp only[cM,ay]; exact sL
def Iq {b:Bi}{es:Es}{Q:QB}:Wp (cM M (.bi b es) Z S) Q↔Wp (ay M (.bi b es) Z S) λp=>∃k,cQ p.2 p.1=ba k/\Q (k,p.2):=by dsimp only[cM,ay]; exact sL
def Gr {c:KY}{a:E}{Q:QB}:Wp (cM M (.isi c a) Z S) Q↔Wp (ay M (.isi c a) Z S) λp=>∃k,cQ p.2 p.1=ba k/\Q (k,p.2):=by dsimp only[cM,ay]; exact sL
noncomputable abbrev QO:=Out×aa->Prop
def Gs {Q:QO}:Wp (gf M fuel .nil Z S) Q↔Q (.nx Z,S):=by(dsimp only[gf]; simp[ae,af])
def DZ {s:Sm}{ss:Ss}{Q:QO}:Wp (gf M fuel (.cons s ss) Z S) Q↔Wp (fK M fuel s Z S) λp=>(∀Z',p.1=.nx Z'->Wp (gf M fuel ss Z' p.2) Q)/\((∀Z',p.1≠.nx Z')->Q p):=by
 (dsimp only[gf]; simp only[AC])
 rcases h:fK M fuel s Z S with _|⟨o,S1⟩
 ·simp[ae,af]
 ·cases o <;> simp[ae,af]
def xP {f:FE}{g:FG}{Q:QO}:Wp (kC f g Z S) Q↔Wp (f Z S) λp=>Wp (g p.1 Z p.2) λq=>Q (.nx q.1,q.2):=by
 unfold kC;rcases h:f Z S with _|⟨x,S1⟩
 ·simp[ae,af]
 ·rcases h2:g x Z S1 with _|⟨y,S2⟩ <;> simp[ae,af,h2]
def D0 {i:Jr}{e:E}{Q:QO}:Wp (fK M fuel (.set i e) Z S) Q↔Wp (ay M e Z S) λp=>Q (.nx (Z.set i (ba p.1)),p.2):=by
 dsimp only[fK]; rw[xP]; simp[B6,ae,af]
def D1 {is:Jj Jr}{e:E}{Q:QO}:Wp (fK M fuel (.asg is e) Z S) Q↔Wp (ay M e Z S) λp=>∃ws Z',p.1=.tup ws/\dR is ws Z=ba Z'/\Q (.nx Z',p.2):=by
 dsimp only[fK]; rw[xP]
 constructor
 ·show λh=>h.mono λp hp=>?_
  obtain⟨w,S1⟩:=p;obtain⟨q,h1,h2⟩:=hp;cases w with
  | tup ws=>
   simp only[EZ,Jo]at h1;obtain⟨Z',h3,rfl⟩:=h1;exact#[ws,Z',rfl,h3,h2]
  | _=>cases h1
 ·show λh=>h.mono λp hp=>?_
  obtain⟨w,S1⟩:=p;obtain⟨ws,Z',h0,h1,h2⟩:=hp;subst h0;exact#[(Z',S1),by simp[EZ,h1],h2]
def D2 {i j:Jr}{es:Es}{Q:QO}:Wp (fK M fuel (.par i j es) Z S) Q↔Wp (cr M es Z S) λp=>∃x y,p.1=[x,y]/\Q (.nx ((Z.set i (ba x)).set j (ba y)),p.2):=by
 (dsimp only[fK]; dsimp only[AK])
 rcases h:cr M es Z S with _|⟨x,S1⟩
 ·simp[af]
 ·match x with
  | []=>simp[ae,af]
  | [_]=>simp[ae,af]
  | [a,b]=>
   simp only[ae];exact#[λh=>#[a,b,rfl,h],λ#[x,y,e,h]=>by cases e; exact h]
  | _::_::_::_=>simp[ae,af]
def D3 {o k e:E}{Q:QO}:Wp (fK M fuel (.put o k e) Z S) Q↔Wp (ay M e Z S) λp=>Wp (ay M o Z p.2) λq=>Wp (ay M k Z q.2) λr=>∃S',iD q.1 r.1 p.1 r.2=ba S'/\Q (.nx Z,S'):=by
 dsimp only[fK]; rw[xP]
 rcases h:ay M e Z S with _|⟨x,S1⟩
 ·simp[ae,af]
 ·simp only[ae];unfold AJ;rcases h2:ay M o Z S1 with _|⟨y,S2⟩
  ·simp[ae,af]
  ·rcases h3:ay M k Z S2 with _|⟨z,S3⟩
   ·simp[ae,af,h3]
   ·cases h4:iD y z x S3 <;> simp[ae,af,h3,h4]
def Gu {e:E}{Q:QO}:Wp (fK M fuel (.ex e) Z S) Q↔Wp (ay M e Z S) λp=>Q (.nx Z,p.2):=by
 (dsimp only[fK]; simp only[AD])
 rcases h:ay M e Z S with _|⟨x,S1⟩ <;> simp[ae,af]
def D4 {e:E}{Q:QO}:Wp (fK M fuel (.ret e) Z S) Q↔Wp (ay M e Z S) λp=>Q (.rt p.1,p.2):=by
 (dsimp only[fK]; simp only[AG])
 rcases h:ay M e Z S with _|⟨x,S1⟩ <;> simp[ae,af]
def D5 {t:E}{a b:Ss}{Q:QO}:Wp (fK M fuel (.ite t a b) Z S) Q↔Wp (cM M t Z S) λp=>(p.1=true->Wp (gf M fuel a Z p.2) Q)/\(p.1=false->Wp (gf M fuel b Z p.2) Q):=by
 (dsimp only[fK]; simp only[AI])
 rcases h:cM M t Z S with _|⟨x,S1⟩
 ·simp[ae,af]
 ·cases x <;> simp[ae,af]
abbrev xQ (I:Fm->aa->Prop)(Q:QO)(o:Out×aa):Prop:=match o.1 with
 | .nx Z'=>I Z' o.2
 | .ct Z'=>I Z' o.2
 | .bk Z'=>Q (.nx Z',o.2)
 | .rt w=>Q (.rt w,o.2)
def jn {mi:MI}{g:FG}{b:FS}{xs:Jj W}{Q:QO}(I:Jr->Fm->aa->Prop)(hat:∀i Z S,I i Z S->mi.at S i=ba xs[i]?)
  (hstep:∀i w Z S,xs[i]?=ba w->I i Z S->Wp (g w Z S) λq=>Wp (b q.1 q.2) (xQ (I (i+1)) Q)) (hend:∀Z S,I xs.length Z S->Q (.nx Z,S)):∀(n i:Jr) (Z:Fm) (S:aa),i+n=xs.length->I i Z S->Wp (fY mi g b n i Z S) Q
 | 0,i,Z,S,hl,hI=>by
  have e:mi.at S i=ba gV:=by rw[hat i Z S hI,OZ ∅]
  simp only[fY,e];have hi:i=xs.length:=∅
  exact ae.mpr (hend Z S (hi ▸ hI))
 | n+1,i,Z,S,hl,hI=>by
  have hi:i < xs.length:=∅
  have e:mi.at S i=ba (ba xs[i]):=by rw[hat i Z S hI,JB hi]
  obtain⟨⟨Z1,S1⟩,h1,⟨o,S2⟩,h2,h3⟩:=hstep i xs[i] Z S (JB hi) hI;simp only[fY,e,h1,h2];cases o with
  | nx Z2=>exact jn I hat hstep hend n (i+1) Z2 S2 ∅ h3
  | ct Z2=>exact jn I hat hstep hend n (i+1) Z2 S2 ∅ h3
  | bk Z2=>exact ae.mpr h3
  | rt w=>exact ae.mpr h3
def Gv {fi:FI}{g:FG}{b:FS}{Q:QO}:Wp (xl fi g b Z S) Q↔Wp (fi Z S) λp=>∃n,p.1.len p.2=ba n/\Wp (fY p.1 g b n 0 Z p.2) Q:=by
 unfold xl;rcases h:fi Z S with _|⟨mi,S1⟩
 ·simp[af]
 ·cases h2:mi.len S1 <;> simp[ae,af,h2]
def dw {mi:MI}{g:FG}{c:FT}{f:FE}{xs:Jj W}{Q:Jj W×aa->Prop}(I:Jr->Jj W->Fm->aa->Prop)(hat:∀i ys Z S,I i ys Z S->mi.at S i=ba xs[i]?)
  (hstep:∀i w ys Z S,xs[i]?=ba w->I i ys Z S->Wp (g w Z S) λq=>Wp (c q.1 q.2) λk=>(k.1=true->Wp (f q.1 k.2) λy=>I (i+1) (ys++[y.1]) q.1 y.2)/\(k.1=false->I (i+1) ys q.1 k.2))
  (hend:∀ys Z S,I xs.length ys Z S->Q (ys,S)):∀(n i:Jr) (ys:Jj W) (Z:Fm) (S:aa),i+n=xs.length->I i ys Z S->Wp (bo mi g c f n i Z S) λp=>Q (ys++p.1,p.2)
 | 0,i,ys,Z,S,hl,hI=>by
  have e:mi.at S i=ba gV:=by rw[hat i ys Z S hI,OZ ∅]
  simp only[bo,e];show ae.mpr ?_;have:i=xs.length:=∅
  simpa using hend ys Z S (this ▸ hI)
 | n+1,i,ys,Z,S,hl,hI=>by
  have hi:i < xs.length:=∅
  have e:mi.at S i=ba (ba xs[i]):=by rw[hat i ys Z S hI,JB hi]
  obtain⟨⟨Z1,S1⟩,h1,⟨k,S2⟩,h2,h3,h4⟩:=hstep i xs[i] ys Z S (JB hi) hI;simp only[bo,e,h1,h2];cases k with
  | true=>
   obtain⟨⟨y,S3⟩,h5,h6⟩:=h3 rfl;simp only[h5];obtain⟨⟨zs,S4⟩,h7,h8⟩:=dw I hat hstep hend n (i+1) (ys++[y]) Z1 S3 ∅ h6
   simp only[h7];exact ae.mpr (by simpa using h8)
  | false=>exact dw I hat hstep hend n (i+1) ys Z1 S2 ∅ (h4 rfl)
def xR {elt:E}{tg:Tg}{it:Ie}{cs:Es}{cap:Jj (Jq Jr)}{Q:QW}:Wp (ay M (.comp elt tg it cs cap) Z S) Q↔Wp (gb M it Z S) λp=>∃n,p.1.len p.2=ba n/\Wp (bo p.1 (gA tg) (A7 M cs) (ay M elt) n 0 (cL cap Z) p.2) λq=>q.1.length<=sizeLine/\Q (.ref q.2.length,q.2++[.lst q.1]):=by
 (dsimp only[ay]; simp only[kD,j7])
 rcases h:gb M it Z S with _|⟨mi,S1⟩
 ·simp[af]
 ·rcases h2:mi.len S1 with _|n
  ·simp[ae,af,h2]
  ·rcases h3:bo mi (gA tg) (A7 M cs) (ay M elt) n 0 (cL cap Z) S1 with _|⟨ys,S2⟩
   ·simp[ae,af,h2,h3]
   ·by_cases hl:ys.length<=sizeLine <;> simp[ae,af,h2,h3,hl]
def Gw {Q:QB}:Wp (A7 M .nil Z S) Q↔Q (true,S):=by(dsimp only[A7]; simp[B8,ae])
def Gx {e:E}{Q:QB}:Wp (A7 M #v[e] Z S) Q↔Wp (cM M e Z S) Q:=by dsimp only[A7]; exact Iff.rfl
def kM {c:FT}{b:FS}{Q:QO}(I:Jr->Fm->aa->Prop)(hstep:∀m Z S,I m Z S->Wp (c Z S) λk=>(k.1=true->∃m',m=m'+1/\Wp (b Z k.2) (xQ (I m') Q))/\(k.1=false->Q (.nx Z,k.2))) :
  ∀(n m:Jr) (Z:Fm) (S:aa),m < n->I m Z S->Wp (nI c b n Z S) Q
 | 0,m,Z,S,h,_=>∅
 | n+1,m,Z,S,h,hI=>by
  obtain⟨⟨k,S1⟩,h1,h2,h3⟩:=hstep m Z S hI;simp only[nI,h1];cases k with
  | false=>exact ae.mpr (h3 rfl)
  | true=>
   obtain⟨m',rfl,⟨o,S2⟩,h5,h6⟩:=h2 rfl;simp only[h5];cases o with
   | nx Z2=>exact kM I hstep n m' Z2 S2 ∅ h6
   | ct Z2=>exact kM I hstep n m' Z2 S2 ∅ h6
   | bk Z2=>exact ae.mpr h6
   | rt w=>exact ae.mpr h6
def u4 {defs:Jj (JA×Df)}{d:Jr}{f:JA}{ws:Jj W}{df:Df}{Q:QW}(h:defs.lookup f=ba df)(hl:ws.length=df.ps.length)
  (hb:Wp (gf (al defs fuel d) fuel df.body (ff df.N ws) S) λp=>match p.1 with|.rt w=>Q (w,p.2)|.nx _=>Q (.non,p.2)|_=>KP):Wp (al defs fuel (d+1) f ws S) Q:=by
 obtain⟨⟨o,S1⟩,h1,h2⟩:=hb;simp only[al,h,JO hl,h1];cases o with
 | rt w=>exact ae.mpr h2
 | nx Z=>exact ae.mpr h2
 | bk _=>exact h2.elim
 | ct _=>exact h2.elim
end
section
variable{S:aa}{Q:QW}
def cu {a b:JG}:fN .add (.int a) (.int b) S=ba (.int (a+b),S):=rfl
def sM {a b:JG}:fN .sub (.int a) (.int b) S=ba (.int (a - b),S):=rfl
def nT {c:JG->JG->J1}{f:JG->JG->JG}{i j:JG}(h:c i j=true):zq c f (.int i) (.int j) S=ba (.int (f i j),S):=by
 unfold zq;dsimp only;rw[JO h]
def pN {a b:JG}(h : -(2 ^ 64) < b)(h2:b < 2 ^ 64):fN .mul (.int a) (.int b) S=ba (.int (a*b),S):=nT (c:=um) (f:=(· * ·)) (by
 unfold um;simp only[Lw,Js,JW];exact .inr #[h,h2])
def kN {a b:JG}(h:0 < b):fN .mod (.int a) (.int b) S=ba (.int (a % b),S):=nT (c:=λ_ j=>decide (0 < j)) (f:=(· % ·)) (J6 h)
def kO {a b:JG}(h:0 < b)(h2:b < 1073741824):fN .fdiv (.int a) (.int b) S=ba (.int (a / b),S):=nT (c:=λ_ j=>z5 j) (f:=(· / ·)) (by
 unfold z5;simp only[Js,JW];exact#[h,h2])
def D6:fN .pow (.int 10) (.int 18) S=ba (.int 1000000000000000000,S):=rfl
def eL {x y:JA}(h:x.length+y.length<=sizeLine):fN .add (.str x) (.str y) S=ba (.str (x++y),S):=by simp only[fN,uq]; rw[JO h]
def rz {xs ys:Jj W}(h:(xs++ys).length<=sizeLine):fN .add (.tup xs) (.tup ys) S=ba (.tup (xs++ys),S):=by simp only[fN,uq,qP]; rw[JO h]
def gh {i j:Jr}{xs ys:Jj W}(h1:S[i]?=ba (.lst xs))(h2:S[j]?=ba (.lst ys))(h:(xs++ys).length<=sizeLine):fN .add (.ref i) (.ref j) S=ba (.ref S.length,S++[.lst (xs++ys)]):=by
 simp only[fN,uq,oy,h1,h2,j7]; rw[JO h]
def dX {a b:JG}:bO .eq (.int a) (.int b) S=ba (.bl (a==b),S):=rfl
def D7 {a b:JG}:bO .ne (.int a) (.int b) S=ba (.bl (!(a==b)),S):=rfl
def D8 {a b:JG}:bO .lt (.int a) (.int b) S=ba (.bl (decide (a < b)),S):=rfl
def Ir {a b:JG}:bO .le (.int a) (.int b) S=ba (.bl (decide (a<=b)),S):=rfl
def xS {a b:JG}:bO .gt (.int a) (.int b) S=ba (.bl (decide (a > b)),S):=rfl
def Gy {a b:JG}:bO .ge (.int a) (.int b) S=ba (.bl (decide (a>=b)),S):=rfl
def xT {a b:JA}:bO .eq (.str a) (.str b) S=ba (.bl (a==b),S):=rfl
def xU {a b:JA}:bO .ne (.str a) (.str b) S=ba (.bl (!(a==b)),S):=rfl
def ap {r:Jr}{xs:Jj W}(h:S[r]?=ba (.lst xs)):eW S r=ba xs:=by simp[eW,h]
def Bf {r:Jr}{xs:Jj W}(h:S[r]?=ba (.fro xs)):eW S r=ba xs:=by simp[eW,h]
def b9 {r:Jr}{xs:Jj W}(h:S[r]?=ba (.lst xs)):oy S r=ba xs:=by simp[oy,h]
def jR {r:Jr}{xs:Jj W}(h:S[r]?=ba (.lst xs)):jb S r=gV:=by simp[jb,h]
def cW {r:Jr}{U:Jj (T×W)}(h:S[r]?=ba (.dic U)):jb S r=ba U:=by simp[jb,h]
def nU {r:Jr}{U:Jj (T×W)}(h:S[r]?=ba (.dic U)):eW S r=gV:=by simp[eW,h]
def Bg {r:Jr}{U:Jj (T×W)}(h:S[r]?=ba (.frd U)):jb S r=ba U:=by simp[jb,h]
def atI_nat {α:Type}{xs:Jj α}{j:Jr}{w:α}(h:xs[j]?=ba w):oK xs (j:JG)=ba w:=by
 have hl:=(JK.mp h).1;unfold oK rS;rw[JO (JU j),JO (by exact_mod_cast hl)]
 simpa using h
def nV {α:Type}{xs:Jj α}{i:JG}{w:α}(h0:0<=i)(h:xs[i.toNat]?=ba w):oK xs i=ba w:=by
 have:=atI_nat h
 rwa [MP h0]at this
def xV {r:Jr}{xs:Jj W}{i:JG}{w:W}(h:S[r]?=ba (.lst xs))(h0:0<=i)(hw:xs[i.toNat]?=ba w):oz (.ref r) (.int i) S=ba (w,S):=by
 change ut (.ref r) (.int i) S=_;simp[ut,ap h,nV h0 hw]
def Gz {xs:Jj W}{i:JG}{w:W}(h0:0<=i)(hw:xs[i.toNat]?=ba w):oz (.tup xs) (.int i) S=ba (w,S):=by
 change ut (.tup xs) (.int i) S=_;simp[ut,nV h0 hw]
def Ck {x:JA}{i:JG}{c:Jr}(hz:x.length<=sizeLine)(h0:0<=i)(hw:x.cps.toList[i.toNat]?=ba c):oz (.str x) (.int i) S=ba (.str #[[c].toArray],S):=by
 change ut (.str x) (.int i) S=_;simp[ut,hz,nV h0 hw]
def Cm {r:Jr}{xs:Jj W}{i:JG}{w:W}(h:S[r]?=ba (.lst xs))(h0:0<=i)(hi:i.toNat < xs.length):iD (.ref r) (.int i) w S=ba (S.set r (.lst (xs.set i.toNat w))):=by
 change uu (.ref r) (.int i) w S=_;have:rS xs.length i=ba i.toNat:=by
  unfold rS;rw[JO h0,JO ∅]
 simp[uu,b9 h,this]
def Cn {r:Jr}{xs:Jj W}(h:S[r]?=ba (.lst xs)):Bi.len.fn [.ref r] S=ba (.int xs.length,S):=by
 (dsimp only[Bi.fn,vw,pc,ni]; simp[jR h,ap h])
def sN {r:Jr}{xs:Jj W}{y:W}(h:S[r]?=ba (.lst xs))(hl:xs.length < sizeLine):iq (.ref r) [y] S=ba (.non,S.set r (.lst (xs++[y]))):=by
 simp[iq,b9 h,hl]
def GB {r:Jr}{xs:Jj W}(h:S[r]?=ba (.lst xs)):kA [.ref r] S=ba (.tup xs,S):=by
 (dsimp only[kA,ke]; simp[Ak,h,ap h])
def bv {r:Jr}{xs:Jj W}(h:S[r]?=ba (.lst xs)):tyOk "list" S (.ref r)=true:=by simp[tyOk,ap h]
def aX {r:Jr}{o o':O}(h:S[r]?=ba o):(S.set r o')[r]?=ba o':=by
 rw[Lr,JO rfl,JO (JK.mp h).1]
def bj {r j:Jr}{o':O}(h:r≠j):(S.set r o')[j]?=S[j]?:=by rw[Lr,JZ h]
def ac {o:O}:(S++[o])[S.length]?=ba o:=by simp
def aj {j:Jr}{o u:O}(h:S[j]?=ba o):(S++[u])[j]?=ba o:=by rw[Kh (JK.mp h).1]; exact h
def dq {j:Jr}{o:O}(h:S[j]?=ba o):j < S.length:=(JK.mp h).1
structure Kp (r:Jr)(S S':aa):Prop where
 get:∀j o,j≠r->S[j]?=ba o->S'[j]?=ba o
 len:S.length<=S'.length
def Kp.refl {r:Jr}{S:aa}:Kp r S S:=#[λ_ _ _ h=>h,Jy _]
def Kp.trans {r:Jr}{S S' S'':aa}(a:Kp r S S')(b:Kp r S' S''):Kp r S S'':=#[λj o n h=>b.get j o n (a.get j o n h),J8 a.len b.len]
def Kp.set {r:Jr}{S:aa}{o:O}:Kp r S (S.set r o):=#[λj u n h=>by rw[bj (Ne.symm n)]; exact h,by simp]
def Kp.push {r:Jr}{S:aa}{o:O}:Kp r S (S++[o]):=#[λj u n h=>aj h,by simp]
def Kp.late {r t:Jr}{S0 S:aa}{o:O}(a:Kp r S0 S)(h:S0.length<=t):Kp r S0 (S.set t o):=
 #[λj u n e=>by
  have:=dq e;rw[bj ∅]; exact a.get j u n e,by simpa using a.len]
end
abbrev wO {α:Type}(o:Jq α)(Q:α->Prop):Prop:=match o with
 | some a=>Q a
 | none=>KP
def br {α:Type}{o:Jq α}{Q:α->Prop}(h:wO o Q):Wp o Q:=by
 cases o with
 | none=>exact h.elim
 | some a=>exact#[a,rfl,h]
def GC {α:Type}{o:Jq α}{Q:α->Prop}(h:Wp o Q):wO o Q:=by
 obtain⟨a,rfl,q⟩:=h;exact q
def ab {α:Type}{o:Jq α}{a:α}{Q:α->Prop}(e:o=ba a)(h:Q a):wO o Q:=by subst e; exact h
abbrev wB:W->(J1->Prop)->Prop
 | .bl k,Q=>Q k
 | _,_=>KP
abbrev wN:W->(JG->Prop)->Prop
 | .int k,Q=>Q k
 | _,_=>KP
abbrev wU:W->(Jj W->Prop)->Prop
 | .tup k,Q=>Q k
 | _,_=>KP
def pO {w:W}{Q:J1->Prop}(h:wB w Q):∃k,w=.bl k/\Q k:=by cases w <;> first|exact h.elim|exact#[_,rfl,h]
def Co {w:W}{Q:JG->Prop}(h:wN w Q):∃k,w=.int k/\Q k:=by cases w <;> first|exact h.elim|exact#[_,rfl,h]
def GD {w:W}{Q:Jj W->Prop}(h:wU w Q):∃k,w=.tup k/\Q k:=by cases w <;> first|exact h.elim|exact#[_,rfl,h]
abbrev w2:Jj W->(W->W->Prop)->Prop
 | [x,y],Q=>Q x y
 | _,_=>KP
def GF {xs:Jj W}{Q:W->W->Prop}(h:w2 xs Q):∃x y,xs=[x,y]/\Q x y:=by
 match xs,h with
 | [x,y],h=>exact#[x,y,rfl,h]
abbrev wG:Jq W->(W->Prop)->Prop
 | some w,Q=>Q w
 | none,_=>KP
abbrev wV:Fm->Jr->(W->Prop)->Prop
 | [],_,_=>KP
 | o::_,0,Q=>wG o Q
 | _::Z,n+1,Q=>wV Z n Q
def xW {Q:W->Prop}:∀ {Z:Fm} {i:Jr},wV Z i Q->∃w,Z[i]?=ba (ba w)/\Q w
 | [],i,h=>h.elim
 | some w::Z,0,h=>#[w,rfl,h]
 | none::Z,0,h=>h.elim
 | x::Z,n+1,h=>by
  obtain⟨w,e2,q⟩:=xW (Z:=Z) (i:=n) h;exact#[w,e2,q]
abbrev aE (M:JA->FF)(f:JA)(n:Jr)(ws:Jj W)(S:aa):Jq (W×aa):=if ws.length=n then M f ws S else gV
section
variable (M:JA->FF) (fuel:Jr)
mutual
def wE:E->Fm->aa->QW->Prop
 | .c w,_,S,Q=>Q (w,S)
 | .v i,Z,S,Q=>wV Z i λw=>Q (w,S)
 | .op o a b,Z,S,Q=>wE a Z S λp=>wE b Z p.2 λq=>wO (fN o p.1 q.1 q.2) Q
 | .cmp o a b,Z,S,Q=>wE a Z S λp=>wE b Z p.2 λq=>wO (bO o p.1 q.1 q.2) Q
 | .and a b,Z,S,Q=>wE a Z S λp=>wB p.1 λk=>(k=true->wE b Z p.2 Q)/\(k=false->Q (.bl false,p.2))
 | .or a b,Z,S,Q=>wE a Z S λp=>wB p.1 λk=>(k=true->Q (.bl true,p.2))/\(k=false->wE b Z p.2 Q)
 | .not a,Z,S,Q=>wE a Z S λp=>wB p.1 λk=>Q (.bl (!k),p.2)
 | .own f n es,Z,S,Q=>wA es Z S λp=>wO (aE M f n p.1 p.2) Q
 | .bi b es,Z,S,Q=>wA es Z S λp=>wO (b.fn p.1 p.2) Q
 | .me m o es,Z,S,Q=>wE o Z S λp=>tyOk m.ty p.2 p.1=true/\wA es Z p.2 λq=>wO (m.fn p.1 q.1 q.2) Q
 | .ix a b,Z,S,Q=>wE a Z S λp=>wE b Z p.2 λq=>wO (oz p.1 q.1 q.2) Q
 | .idx o a,Z,S,Q=>wE o Z S λp=>(tyOk "tuple" p.2 p.1||tyOk "list" p.2 p.1)=true/\wE a Z p.2 λq=>wO (eH p.1 q.1 q.2) Q
 | .sl a lo hi,Z,S,Q=>wE a Z S λp=>wP lo Z p.2 λq=>wP hi Z q.2 λr=>wO (lM p.1 q.1 r.1 r.2) Q
 | .tup es,Z,S,Q=>wA es Z S λp=>Q (.tup p.1,p.2)
 | .lst es,Z,S,Q=>wA es Z S λp=>Q (.ref p.2.length,p.2++[.lst p.1])
 | .isi c a,Z,S,Q=>wE a Z S λp=>wO (oA p.2 p.1 c) λk=>Q (.bl k,p.2)
 | .neg a,Z,S,Q=>wE a Z S λp=>wN p.1 λi=>Q (.int (-i),p.2)
 | .dnew,_,S,Q=>Q (.ref S.length,S++[.dic []])
 | .disp es,Z,S,Q=>wA es Z (S++[.dic []]) λp=>p.2[S.length]?=ba (.dic [])/\wO (dk [] p.1) λU=>Q (.ref S.length,p.2.set S.length (.dic U))
 | .chn o o' a b d,Z,S,Q=>wE a Z S λp=>wE b Z p.2 λq=>wO (oP o p.1 q.1 q.2) λk=>(k=true->wE d Z q.2 λr=>wO (cw o' q.1 r.1 r.2) Q)/\(k=false->Q (.bl false,q.2))
 | .comp elt tg it cs cap,Z,S,Q=>Wp (ay M (.comp elt tg it cs cap) Z S) Q
def wT:E->Fm->aa->QB->Prop
 | .cmp o a b,Z,S,Q=>wE a Z S λp=>wE b Z p.2 λq=>wO (bO o p.1 q.1 q.2) λr=>wB r.1 λk=>Q (k,r.2)
 | .and a b,Z,S,Q=>wT a Z S λp=>(p.1=true->wT b Z p.2 Q)/\(p.1=false->Q (false,p.2))
 | .or a b,Z,S,Q=>wT a Z S λp=>(p.1=true->Q (true,p.2))/\(p.1=false->wT b Z p.2 Q)
 | .not a,Z,S,Q=>wT a Z S λp=>Q (!p.1,p.2)
 | .isi c a,Z,S,Q=>wE a Z S λp=>wO (oA p.2 p.1 c) λk=>Q (k,p.2)
 | .c w,Z,S,Q=>Wp (cM M (.c w) Z S) Q
 | .v i,Z,S,Q=>wV Z i λw=>wO (cQ S w) λk=>Q (k,S)
 | .op o a b,Z,S,Q=>Wp (cM M (.op o a b) Z S) Q
 | .own f n es,Z,S,Q=>wA es Z S λp=>wO (aE M f n p.1 p.2) λq=>wO (cQ q.2 q.1) λk=>Q (k,q.2)
 | .bi b es,Z,S,Q=>wA es Z S λp=>wO (b.fn p.1 p.2) λq=>wO (cQ q.2 q.1) λk=>Q (k,q.2)
 | .me m o es,Z,S,Q=>Wp (cM M (.me m o es) Z S) Q
 | .ix a b,Z,S,Q=>Wp (cM M (.ix a b) Z S) Q
 | .idx a b,Z,S,Q=>Wp (cM M (.idx a b) Z S) Q
 | .sl a lo hi,Z,S,Q=>Wp (cM M (.sl a lo hi) Z S) Q
 | .tup es,Z,S,Q=>Wp (cM M (.tup es) Z S) Q
 | .lst es,Z,S,Q=>Wp (cM M (.lst es) Z S) Q
 | .neg a,Z,S,Q=>Wp (cM M (.neg a) Z S) Q
 | .dnew,Z,S,Q=>Wp (cM M .dnew Z S) Q
 | .disp es,Z,S,Q=>Wp (cM M (.disp es) Z S) Q
 | .chn o o' a b d,Z,S,Q=>wE a Z S λp=>wE b Z p.2 λq=>wO (oP o p.1 q.1 q.2) λk=>(k=true->wE d Z q.2 λr=>wO (cw o' q.1 r.1 r.2) λs=>wB s.1 λc=>Q (c,s.2))/\(k=false->Q (false,q.2))
 | .comp elt tg it cs cap,Z,S,Q=>Wp (cM M (.comp elt tg it cs cap) Z S) Q
def wA:Es->Fm->aa->(Jj W×aa->Prop)->Prop
 | .nil,_,S,Q=>Q ([],S)
 | .cons e es,Z,S,Q=>wE e Z S λp=>wA es Z p.2 λq=>Q (p.1::q.1,q.2)
def wP:Ep->Fm->aa->(Jq JG×aa->Prop)->Prop
 | .no,_,S,Q=>Q (gV,S)
 | .yes a,Z,S,Q=>wE a Z S λp=>wN p.1 λi=>Q (ba i,p.2)
end
abbrev oB (K:Fm->aa->Prop)(Q:QO)(p:Out×aa):Prop:=match p.1 with
 | .nx Z=>K Z p.2
 | o=>Q (o,p.2)
mutual
def wS:Sm->Fm->aa->(Fm->aa->Prop)->QO->Prop
 | .set i e,Z,S,K,_=>wE M e Z S λp=>K (Z.set i (ba p.1)) p.2
 | .asg is e,Z,S,K,_=>wE M e Z S λp=>wU p.1 λws=>wO (dR is ws Z) λZ'=>K Z' p.2
 | .par i j es,Z,S,K,_=>wA M es Z S λp=>w2 p.1 λx y=>K ((Z.set i (ba x)).set j (ba y)) p.2
 | .put o k e,Z,S,K,_=>wE M e Z S λp=>wE M o Z p.2 λq=>wE M k Z q.2 λr=>wO (iD q.1 r.1 p.1 r.2) λS'=>K Z S'
 | .ex e,Z,S,K,_=>wE M e Z S λp=>K Z p.2
 | .ret e,Z,S,_,Q=>wE M e Z S λp=>Q (.rt p.1,p.2)
 | .retN,_,S,_,Q=>Q (.rt .non,S)
 | .pass,Z,S,K,_=>K Z S
 | .brk,Z,S,_,Q=>Q (.bk Z,S)
 | .cont,Z,S,_,Q=>Q (.ct Z,S)
 | .bad,_,_,_,_=>KP
 | .ite t a b,Z,S,K,Q=>wT M t Z S λp=>∀Q':QO,(∀Z' S',K Z' S'->Q' (.nx Z',S'))->(∀o S',(∀Z',o≠.nx Z')->Q (o,S')->Q' (o,S'))->(p.1=true->Bh a Z p.2 Q')/\(p.1=false->Bh b Z p.2 Q')
 | .whl t b,Z,S,K,Q=>Wp (fK M fuel (.whl t b) Z S) (oB K Q)
 | .loop tg it b,Z,S,K,Q=>Wp (fK M fuel (.loop tg it b) Z S) (oB K Q)
def Bh:Ss->Fm->aa->QO->Prop
 | .nil,Z,S,Q=>Q (.nx Z,S)
 | .cons s ss,Z,S,Q=>wS s Z S (λZ' S'=>Bh ss Z' S' Q) Q
end
end
abbrev Hj:Es->Jr
 | .nil=>0
 | .cons _ es=>Hj es+1
mutual
def bV:E->J1
 | .c _|.v _|.comp _ _ _ _ _|.dnew=>true
 | .op _ a b|.cmp _ a b|.and a b|.or a b|.ix a b|.idx a b=>bV a&&bV b
 | .chn _ _ a b c=>bV a&&bV b&&bV c
 | .neg a|.not a|.isi _ a=>bV a
 | .own _ n es=>Hj es==n&&oD es
 | .bi _ es|.disp es=>oD es
 | .me _ o es=>bV o&&oD es
 | .sl a lo hi=>bV a&&Iu lo&&Iu hi
 | .tup es|.lst es=>decide (Hj es<=1000)&&oD es
def oD:Es->J1
 | .nil=>true
 | .cons e es=>bV e&&oD es
def Iu:Ep->J1
 | .no=>true
 | .yes e=>bV e
end
mutual
def IQ:Sm->J1
 | .set _ e|.asg _ e|.ex e|.ret e=>bV e
 | .put o k e=>bV o&&bV k&&bV e
 | .par _ _ es=>oD es
 | .ite t a b=>bV t&&fL a&&fL b
 | _=>true
def fL:Ss->J1
 | .nil=>true
 | .cons s ss=>IQ s&&fL ss
end
section
variable{M:JA->FF}{fuel:Jr}
def iN:∀ {es:Es} {Z:Fm} {S S':aa} {ws:Jj W},cr M es Z S=ba (ws,S')->ws.length=Hj es
 | .nil,Z,S,S',ws,h=>by dsimp only[cr]at h; cases h; rfl
 | .cons e es,Z,S,S',ws,h=>by
  dsimp only[cr]at h;unfold bK at h;split at h
  ·split at h
   ·rename_i h2; cases h; rw[JL,iN h2]; rfl
   ·cases h
  ·cases h
def xX {n:Jr}(h:decide (n<=1000)=true):n<=sizeLine:=J8 (J9 h) (by rw[Kq]; decide)
def bY {a b:J1}(h:(a&&b)=true):a=true:=by cases a <;> first|rfl|cases h
def de {a b:J1}(h:(a&&b)=true):b=true:=by cases a <;> first|exact h|cases h
mutual
theorem aQ:∀(e:E) {Z:Fm} {S:aa} {Q:QW},bV e=true->wE M e Z S Q->Wp (ay M e Z S) Q
 | .c w,Z,S,Q,k,h=>Jd.mpr h
 | .v i,Z,S,Q,k,h=>IP.mpr (xW h)
 | .op o a b,Z,S,Q,k,h=>Ih.mpr ((aQ a (bY k) h).mono λp hp=>(aQ b (de k) hp).mono λq hq=>br hq)
 | .cmp o a b,Z,S,Q,k,h=>Cf.mpr ((aQ a (bY k) h).mono λp hp=>(aQ b (de k) hp).mono λq hq=>br hq)
 | .and a b,Z,S,Q,k,h=>Gd.mpr ((aQ a (bY k) h).mono λp hp=>let ⟨c,e,h1,h2⟩:=pO hp; #[c,e,λz=>aQ b (de k) (h1 z),h2])
 | .or a b,Z,S,Q,k,h=>Ik.mpr ((aQ a (bY k) h).mono λp hp=>let ⟨c,e,h1,h2⟩:=pO hp; #[c,e,h1,λz=>aQ b (de k) (h2 z)])
 | .not a,Z,S,Q,k,h=>Ge.mpr ((aQ a k h).mono λp hp=>pO hp)
 | .own f n es,Z,S,Q,k,h=>Cg.mpr (by
   obtain⟨⟨ws,S1⟩,e,hq⟩:=gS es (de k) h;have hl:ws.length=n:=(iN e).trans (eq_of_beq (bY k));simp only[aE,JO hl]at hq;exact#[_,e,hl,br hq])
 | .bi b es,Z,S,Q,k,h=>Gf.mpr ((gS es k h).mono λp hp=>br hp)
 | .me m o es,Z,S,Q,k,h=>Il.mpr ((aQ o (bY k) h).mono λp hp=>#[hp.1,(gS es (de k) hp.2).mono λq hq=>br hq])
 | .idx o a,Z,S,Q,k,h=>Ii ((aQ o (bY k) h).mono λp hp=>#[hp.1,(aQ a (de k) hp.2).mono λq hq=>br hq])
 | .ix a b,Z,S,Q,k,h=>Ij.mpr ((aQ a (bY k) h).mono λp hp=>(aQ b (de k) hp).mono λq hq=>br hq)
 | .sl a lo hi,Z,S,Q,k,h=>Im.mpr ((aQ a (bY (bY k)) h).mono λp hp=>(Cp lo (de (bY k)) hp).mono λq hq=>(Cp hi (de k) hq).mono λr hr=>br hr)
 | .tup es,Z,S,Q,k,h=>Gh.mpr (by
   obtain⟨⟨ws,S1⟩,e,hq⟩:=gS es (de k) h;exact#[_,e,by rw[iN e]; exact xX (bY k),hq])
 | .lst es,Z,S,Q,k,h=>Gi.mpr (by
   obtain⟨⟨ws,S1⟩,e,hq⟩:=gS es (de k) h;exact#[_,e,by rw[iN e]; exact xX (bY k),hq])
 | .isi c a,Z,S,Q,k,h=>Ch.mpr ((aQ a k h).mono λp hp=>br hp)
 | .neg a,Z,S,Q,k,h=>Gj.mpr ((aQ a k h).mono λp hp=>Co hp)
 | .dnew,Z,S,Q,k,h=>#[_,rfl,h]
 | .disp es,Z,S,Q,k,h=>DX.mpr ((gS es k h).mono λp hp=>#[hp.1,let ⟨U,e,q⟩:=br hp.2; #[U,e,q]])
 | .chn o o' a b d,Z,S,Q,k,h=>Ci ((aQ a (bY (bY k)) h).mono λp hp=>(aQ b (de (bY k)) hp).mono λq hq=>let ⟨c,e,h1,h2⟩:=br hq; #[c,e,λz=>(aQ d (de k) (h1 z)).mono λr hr=>br hr,h2])
 | .comp elt tg it cs cap,Z,S,Q,k,h=>h
theorem gS:∀(es:Es) {Z:Fm} {S:aa} {Q:Jj W×aa->Prop},oD es=true->wA M es Z S Q->Wp (cr M es Z S) Q
 | .nil,Z,S,Q,k,h=>Gk.mpr h
 | .cons e es,Z,S,Q,k,h=>DY.mpr ((aQ e (bY k) h).mono λp hp=>gS es (de k) hp)
theorem Cp:∀(e:Ep) {Z:Fm} {S:aa} {Q:Jq JG×aa->Prop},Iu e=true->wP M e Z S Q->Wp (sC M e Z S) Q
 | .no,Z,S,Q,k,h=>Io.mpr h
 | .yes a,Z,S,Q,k,h=>Gg.mpr ((aQ a k h).mono λp hp=>Co hp)
theorem jH:∀(e:E) {Z:Fm} {S:aa} {Q:QB},bV e=true->wT M e Z S Q->Wp (cM M e Z S) Q
 | .cmp o a b,Z,S,Q,k,h=>Gm.mpr (Cf.mpr ((aQ a (bY k) h).mono λp hp=>(aQ b (de k) hp).mono λq hq=>(br hq).mono λr hr=>pO hr))
 | .and a b,Z,S,Q,k,h=>Go.mpr ((jH a (bY k) h).mono λp hp=>#[λz=>jH b (de k) (hp.1 z),hp.2])
 | .or a b,Z,S,Q,k,h=>Ip.mpr ((jH a (bY k) h).mono λp hp=>#[hp.1,λz=>jH b (de k) (hp.2 z)])
 | .not a,Z,S,Q,k,h=>Gp.mpr (jH a k h)
 | .isi c a,Z,S,Q,k,h=>Gr.mpr (Ch.mpr ((aQ a k h).mono λp hp=>let ⟨b,e,q⟩:=br hp; #[b,e,b,rfl,q]))
 | .v i,Z,S,Q,k,h=>Je.mpr (IP.mpr (let ⟨w,e,q⟩:=xW h; #[w,e,br q]))
 | .own f n es,Z,S,Q,k,h=>Gq.mpr (Cg.mpr (by
   obtain⟨⟨ws,S1⟩,e,hq⟩:=gS es (de k) h;have hl:ws.length=n:=(iN e).trans (eq_of_beq (bY k));simp only[aE,JO hl]at hq;exact#[_,e,hl,(br hq).mono λq hq=>br hq]))
 | .c w,Z,S,Q,k,h=>h
 | .op o a b,Z,S,Q,k,h=>h
 | .bi b es,Z,S,Q,k,h=>Iq.mpr (Gf.mpr ((gS es k h).mono λp hp=>(br hp).mono λq hq=>br hq))
 | .me m o es,Z,S,Q,k,h=>h
 | .ix a b,Z,S,Q,k,h=>h
 | .idx a b,Z,S,Q,k,h=>h
 | .sl a lo hi,Z,S,Q,k,h=>h
 | .tup es,Z,S,Q,k,h=>h
 | .lst es,Z,S,Q,k,h=>h
 | .neg a,Z,S,Q,k,h=>h
 | .dnew,Z,S,Q,k,h=>h
 | .disp es,Z,S,Q,k,h=>h
 | .chn o o' a b d,Z,S,Q,k,h=>Gn.mpr (Ci ((aQ a (bY (bY k)) h).mono λp hp=>(aQ b (de (bY k)) hp).mono λq hq=>let ⟨c,e,h1,h2⟩:=br hq; #[c,e,λz=>(aQ d (de k) (h1 z)).mono λr hr=>(br hr).mono λs hs=>pO hs,λz=>#[false,rfl,h2 z]]))
 | .comp elt tg it cs cap,Z,S,Q,k,h=>h
end
mutual
theorem GH:∀(s:Sm) {Z:Fm} {S:aa} {K:Fm->aa->Prop} {Q:QO},IQ s=true->wS M fuel s Z S K Q->Wp (fK M fuel s Z S) (oB K Q)
 | .set i e,Z,S,K,Q,k,h=>D0.mpr (aQ e k h)
 | .asg is e,Z,S,K,Q,k,h=>D1.mpr ((aQ e k h).mono λp hp=>let ⟨ws,e1,h1⟩:=GD hp; let ⟨Z',e2,h2⟩:=br h1; #[ws,Z',e1,e2,h2])
 | .par i j es,Z,S,K,Q,k,h=>D2.mpr ((gS es k h).mono λp hp=>GF hp)
 | .put o i e,Z,S,K,Q,k,h=>D3.mpr ((aQ e (de k) h).mono λp hp=>(aQ o (bY (bY k)) hp).mono λq hq=>(aQ i (de (bY k)) hq).mono λr hr=>br hr)
 | .ex e,Z,S,K,Q,k,h=>Gu.mpr (aQ e k h)
 | .ret e,Z,S,K,Q,k,h=>D4.mpr (aQ e k h)
 | .retN,Z,S,K,Q,k,h=>#[_,rfl,h]
 | .pass,Z,S,K,Q,k,h=>#[_,rfl,h]
 | .brk,Z,S,K,Q,k,h=>#[_,rfl,h]
 | .cont,Z,S,K,Q,k,h=>#[_,rfl,h]
 | .bad,Z,S,K,Q,k,h=>h.elim
 | .ite t a b,Z,S,K,Q,k,h=>D5.mpr ((jH t (bY (bY k)) h).mono λp hp=>by
   obtain⟨h1,h2⟩:=hp (oB K Q) (λZ' S' z=>z) (λo S' hn z=>by cases o <;> first|exact z|exact absurd rfl (hn _))
   exact#[λz=>jo a (de (bY k)) (h1 z),λz=>jo b (de k) (h2 z)])
 | .whl t b,Z,S,K,Q,k,h=>h
 | .loop tg it b,Z,S,K,Q,k,h=>h
theorem jo:∀(ss:Ss) {Z:Fm} {S:aa} {Q:QO},fL ss=true->Bh M fuel ss Z S Q->Wp (gf M fuel ss Z S) Q
 | .nil,Z,S,Q,k,h=>Gs.mpr h
 | .cons s ss,Z,S,Q,k,h=>DZ.mpr ((GH s (bY k) h).mono λp hp=>by
   obtain⟨o,S1⟩:=p;cases o with
   | nx Z'=>exact#[λZ2 e=>by cases e; exact jo ss (de k) hp,λz=>absurd rfl (z Z')]
   | _=>exact#[λZ2 e=>(by cases e),λ_=>hp])
end
structure wZ (M:JA->FF)(fuel:Jr)(ss:Ss)(Z:Fm)(S:aa)(Q:QO):Prop where
 out:Bh M fuel ss Z S Q
def GJ {ss:Ss}{Z:Fm}{S:aa}{Q:QO}:Bh M fuel ss Z S Q=wZ M fuel ss Z S Q:=propext #[λh=>#[h],λh=>h.out]
def D9 {defs:Jj (JA×Df)}{d:Jr}{f:JA}{n:Jr}{ws:Jj W}{df:Df}{S:aa}{Q:QW}(h:defs.lookup f=ba df)(hn:ws.length=n)(hl:ws.length=df.ps.length)(ok:fL df.body=true)
  (hb:∀Q':QO,(∀w S',Q (w,S')->Q' (.rt w,S'))->wZ (al defs fuel d) fuel df.body (ff df.N ws) S Q'):wO (aE (al defs fuel (d+1)) f n ws S) Q:=by
 unfold aE;rw[JO hn];exact GC (u4 h hl ((jo _ ok (hb (λp=>match p.1 with|.rt w=>Q (w,p.2)|_=>KP) λw S' q=>q).out).mono λp hp=>by
  obtain⟨o,S1⟩:=p;cases o <;> first|exact hp|exact hp.elim))
end
section
variable{M:JA->FF}{fuel:Jr}{Z:Fm}{S:aa}{K:Fm->aa->Prop}{Q:QO}
abbrev sO (M:JA->FF)(fuel:Jr)(b:Ss)(Z:Fm)(S:aa)(I:Fm->aa->Prop)(Q:QO):Prop:=∀Q':QO,(∀Z' S',I Z' S'->Q' (.nx Z',S'))->(∀w S',Q (.rt w,S')->Q' (.rt w,S'))->wZ M fuel b Z S Q'
def fg {tg:Tg}{it:Ie}{b:Ss}{mi:MI}{S1:aa}{xs:Jj W}(I:Jr->Fm->aa->Prop)(ok:fL b=true)(hi:gb M it Z S=ba (mi,S1))(hat:∀i Z S,I i Z S->mi.at S i=ba xs[i]?)(hl:mi.len S1=ba xs.length)(h0:I 0 Z S1)
  (hstep:∀(i:Jr) (w:W) (Z:Fm) (S:aa),xs[i]?=ba w->I i Z S->wO (gA tg w Z S) λq=>sO M fuel b q.1 q.2 (I (i+1)) Q) (hend:∀Z S,I xs.length Z S->K Z S):Wp (fK M fuel (.loop tg it b) Z S) (oB K Q):=by
 rw[fK,Gv];show#[_,hi,xs.length,hl,?_];show jn (Q:=oB K Q) I hat (λi w Z S h1 h2=>?_) (λZ S h=>hend Z S h) _ 0 Z S1 ∅ h0
 exact(br (hstep i w Z S h1 h2)).mono λq hq=>jo b ok (wZ.out (hq _ (λ_ _ h=>h) λ_ _ h=>h))
def aR {e:E}{Q:QW}(ok:bV e=true)(h:wE M e Z S Q):∃w S',ay M e Z S=ba (w,S')/\Q (w,S'):=let ⟨⟨w,S'⟩,a,b⟩:=aQ e ok h; #[w,S',a,b]
def iO {i0:Jr}{e:E}{b:Ss}(j:JG)(I:Jr->Fm->aa->Prop)(oe:bV e=true)(ok:fL b=true)(hj : -(2 ^ 62)<=j/\j < 2 ^ 62)(he:wE M e Z S λp=>p.1=.int j/\I 0 Z p.2)
  (hstep:∀(i:Jr) (Z:Fm) (S:aa),(i:JG) < j->I i Z S->sO M fuel b (Z.set i0 (ba (.int i))) S (I (i+1)) Q) (hend:∀Z S,I j.toNat Z S->K Z S):Wp (fK M fuel (.loop (.nm i0) (.rng #v[e]) b) Z S) (oB K Q):=by
 obtain⟨w,S1,e1,rfl,h0⟩:=aR oe he;have hl:(cK 0 j.toNat).length=j.toNat:=by simp[cK]
 show fg (mi:=.its (cK 0 j.toNat)) (S1:=S1) (xs:=cK 0 j.toNat) I ok ?_ (λ_ _ _ _=>rfl) rfl h0 (λi w Z S hw hI=>?_) λZ S hI=>hend Z S (hl ▸ hI)
 ·simp only[gb,cr,bK,eG,q8,e1];rw[JO hj]
 ·rw[dS]at hw;split at hw
  ·rename_i hk;cases hw;rw[OG];exact hstep i Z S ∅ hI
  ·cases hw
def for_tup {tg:Tg}{e:E}{b:Ss}(xs:Jj W)(I:Jr->Fm->aa->Prop)(oe:bV e=true)(ok:fL b=true)(he:wE M e Z S λp=>p.1=.tup xs/\I 0 Z p.2)
  (hstep:∀(i:Jr) (w:W) (Z:Fm) (S:aa),xs[i]?=ba w->I i Z S->wO (gA tg w Z S) λq=>sO M fuel b q.1 q.2 (I (i+1)) Q) (hend:∀Z S,I xs.length Z S->K Z S):Wp (fK M fuel (.loop tg (.seq e) b) Z S) (oB K Q):=by
 obtain⟨w,S1,e1,rfl,h0⟩:=aR oe he;exact fg (mi:=.its xs) (S1:=S1) I ok (by simp only[gb,da,e1]) (λ_ _ _ _=>rfl) rfl h0 hstep hend
def Bj {tg:Tg}{e:E}{b:Ss}(t:Jr)(xs:Jj W)(I:Jr->Fm->aa->Prop)(oe:bV e=true)(ok:fL b=true)(he:wE M e Z S λp=>p.1=.ref t/\I 0 Z p.2)(hat:∀i Z S,I i Z S->S[t]?=ba (.lst xs))
  (hstep:∀(i:Jr) (w:W) (Z:Fm) (S:aa),xs[i]?=ba w->I i Z S->wO (gA tg w Z S) λq=>sO M fuel b q.1 q.2 (I (i+1)) Q) (hend:∀Z S,I xs.length Z S->K Z S):Wp (fK M fuel (.loop tg (.seq e) b) Z S) (oB K Q):=by
 obtain⟨w,S1,e1,rfl,h0⟩:=aR oe he;exact fg (mi:=.live t) (S1:=S1) I ok (by simp only[gb,da,e1,ap (hat _ _ _ h0)]) (λi Z S h=>by simp only[MI.at,ap (hat _ _ _ h)]) (by simp only[MI.len,ap (hat _ _ _ h0),Kc]) h0 hstep hend
def xY {t:E}{b:Ss}(I:Jr->Fm->aa->Prop)(m:Jr)(ot:bV t=true)(ok:fL b=true)(hm:m < fuel)(h0:I m Z S)
  (hstep:∀m Z S,I m Z S->wT M t Z S λk=>(k.1=true->∃m',m=m'+1/\sO M fuel b Z k.2 (I m') Q)/\(k.1=false->K Z k.2)):Wp (fK M fuel (.whl t b) Z S) (oB K Q):=by
 rw[fK];show kM (Q:=oB K Q) I (λm Z S hI=>(jH t ot (hstep m Z S hI)).mono λk hk=>#[λz=>?_,λz=>hk.2 z]) fuel m Z S hm h0
 obtain⟨m',e,h⟩:=hk.1 z;exact#[m',e,jo b ok (wZ.out (h _ (λ_ _ h=>h) λ_ _ h=>h))]
abbrev wC (M:JA->FF):Es->Fm->aa->QB->Prop
 | .nil,_,S,Q=>Q (true,S)
 | .cons e .nil,Z,S,Q=>wT M e Z S Q
 | .cons _ (.cons _ _),_,_,_=>KP
def Cq {cs:Es}{Q:QB}(ok:oD cs=true)(h:wC M cs Z S Q):Wp (A7 M cs Z S) Q:=by
 match cs,h,ok with
 | .nil,h,_=>exact Gw.mpr h
 | .cons e .nil,h,ok=>exact Gx.mpr (jH e (bY ok) h)
abbrev gM (M:JA->FF)(elt:E)(cs:Es)(Z:Fm)(S:aa)(G:W->Fm->aa->Prop)(N:Fm->aa->Prop):Prop:=wC M cs Z S λk=>(k.1=true->wE M elt Z k.2 λy=>G y.1 Z y.2)/\(k.1=false->N Z k.2)
def nW {elt:E}{tg:Tg}{it:Ie}{cs:Es}{cap:Jj (Jq Jr)}{mi:MI}{S1:aa}{xs:Jj W}{Q:QW}(I:Jr->Jj W->Fm->aa->Prop)(oe:bV elt=true)(oc:oD cs=true)(hi:gb M it Z S=ba (mi,S1))(hat:∀i ys Z S,I i ys Z S->mi.at S i=ba xs[i]?)(hl:mi.len S1=ba xs.length)(h0:I 0 [] (cL cap Z) S1)
  (hstep:∀(i:Jr) (w:W) (ys:Jj W) (Z:Fm) (S:aa),xs[i]?=ba w->I i ys Z S->wO (gA tg w Z S) λq=>gM M elt cs q.1 q.2 (λy=>I (i+1) (ys++[y])) (I (i+1) ys))
  (hend:∀ys Z S,I xs.length ys Z S->ys.length<=sizeLine/\Q (.ref S.length,S++[.lst ys])):Wp (ay M (.comp elt tg it cs cap) Z S) Q:=by
 rw[xR];show#[_,hi,xs.length,hl,?_];show(dw (xs:=xs) (Q:=λq=>q.1.length<=sizeLine/\Q (.ref q.2.length,q.2++[.lst q.1])) I hat (λi w ys Z S h1 h2=>?_) hend xs.length 0 [] _ S1 ∅ h0).mono λq hq=>by simpa using hq
 exact(br (hstep i w ys Z S h1 h2)).mono λq hq=>(Cq oc hq).mono λk hk=>#[λz=>aQ elt oe (hk.1 z),hk.2]
def dy {elt e:E}{i0:Jr}{cs:Es}{cap:Jj (Jq Jr)}{Q:QW}(j:JG)(I:Jr->Jj W->Fm->aa->Prop)(oi:bV e=true)(oe:bV elt=true)(oc:oD cs=true)(hj : -(2 ^ 62)<=j/\j < 2 ^ 62)(he:wE M e Z S λp=>p.1=.int j/\I 0 [] (cL cap Z) p.2)
  (hstep:∀(i:Jr) (ys:Jj W) (Z:Fm) (S:aa),(i:JG) < j->I i ys Z S->gM M elt cs (Z.set i0 (ba (.int i))) S (λy=>I (i+1) (ys++[y])) (I (i+1) ys))
  (hend:∀ys Z S,I j.toNat ys Z S->ys.length<=sizeLine/\Q (.ref S.length,S++[.lst ys])):Wp (ay M (.comp elt (.nm i0) (.rng #v[e]) cs cap) Z S) Q:=by
 obtain⟨w,S1,e1,rfl,h0⟩:=aR oi he;have hl:(cK 0 j.toNat).length=j.toNat:=by simp[cK]
 show nW (mi:=.its (cK 0 j.toNat)) (S1:=S1) (xs:=cK 0 j.toNat) I oe oc ?_ (λ_ _ _ _ _=>rfl) rfl h0 (λi w ys Z S hw hI=>?_) λys Z S hI=>hend ys Z S (hl ▸ hI)
 ·simp only[gb,cr,bK,eG,q8,e1];rw[JO hj]
 ·rw[dS]at hw;split at hw
  ·rename_i hk;cases hw;rw[OG];exact hstep i ys Z S ∅ hI
  ·cases hw
def sP {elt e:E}{tg:Tg}{cs:Es}{cap:Jj (Jq Jr)}{Q:QW}(xs:Jj W)(I:Jr->Jj W->Fm->aa->Prop)(oi:bV e=true)(oe:bV elt=true)(oc:oD cs=true)(he:wE M e Z S λp=>p.1=.tup xs/\I 0 [] (cL cap Z) p.2)
  (hstep:∀(i:Jr) (w:W) (ys:Jj W) (Z:Fm) (S:aa),xs[i]?=ba w->I i ys Z S->wO (gA tg w Z S) λq=>gM M elt cs q.1 q.2 (λy=>I (i+1) (ys++[y])) (I (i+1) ys))
  (hend:∀ys Z S,I xs.length ys Z S->ys.length<=sizeLine/\Q (.ref S.length,S++[.lst ys])):Wp (ay M (.comp elt tg (.seq e) cs cap) Z S) Q:=by
 obtain⟨w,S1,e1,rfl,h0⟩:=aR oi he;exact nW (mi:=.its xs) (S1:=S1) I oe oc (by simp only[gb,da,e1]) (λ_ _ _ _ _=>rfl) rfl h0 hstep hend
def sQ {elt e:E}{tg:Tg}{cs:Es}{cap:Jj (Jq Jr)}{Q:QW}(t:Jr)(xs:Jj W)(I:Jr->Jj W->Fm->aa->Prop)(oi:bV e=true)(oe:bV elt=true)(oc:oD cs=true)(he:wE M e Z S λp=>p.1=.ref t/\I 0 [] (cL cap Z) p.2)(hat:∀i ys Z S,I i ys Z S->S[t]?=ba (.lst xs))
  (hstep:∀(i:Jr) (w:W) (ys:Jj W) (Z:Fm) (S:aa),xs[i]?=ba w->I i ys Z S->wO (gA tg w Z S) λq=>gM M elt cs q.1 q.2 (λy=>I (i+1) (ys++[y])) (I (i+1) ys))
  (hend:∀ys Z S,I xs.length ys Z S->ys.length<=sizeLine/\Q (.ref S.length,S++[.lst ys])):Wp (ay M (.comp elt tg (.seq e) cs cap) Z S) Q:=by
 obtain⟨w,S1,e1,rfl,h0⟩:=aR oi he;exact nW (mi:=.live t) (S1:=S1) I oe oc (by simp only[gb,da,e1,ap (hat _ _ _ _ h0)]) (λi ys Z S h=>by simp only[MI.at,ap (hat _ _ _ _ h)]) (by simp only[MI.len,ap (hat _ _ _ _ h0),Kc]) h0 hstep hend
def st {s:Sm}{ss:Ss}(h:wS M fuel s Z S (λZ' S'=>wZ M fuel ss Z' S' Q) Q):wZ M fuel (.cons s ss) Z S Q:=#[by
 dsimp only[Bh];simp only[GJ];exact h]
def a9 (h:Q (.nx Z,S)):wZ M fuel .nil Z S Q:=#[h]
def ah {t:J1}{a b:Ss}{Q Q0:QO}{K:Fm->aa->Prop}(ha:t=true->∀Q':QO,(∀Z' S',K Z' S'->Q' (.nx Z',S'))->(∀w S',Q (.rt w,S')->Q' (.rt w,S'))->wZ M fuel a Z S Q')(hb:t=false->∀Q':QO,(∀Z' S',K Z' S'->Q' (.nx Z',S'))->(∀w S',Q (.rt w,S')->Q' (.rt w,S'))->wZ M fuel b Z S Q') :
  ∀Q':QO,(∀Z' S',K Z' S'->Q' (.nx Z',S'))->(∀o S',(∀Z',o≠.nx Z')->Q (o,S')->Q' (o,S'))->(t=true->Bh M fuel a Z S Q')/\(t=false->Bh M fuel b Z S Q'):=
 λQ' h1 h2=>#[λe=>(ha e Q' h1 λw S'=>h2 (.rt w) S' (λ_ z=>nomatch z)).out,λe=>(hb e Q' h1 λw S'=>h2 (.rt w) S' (λ_ z=>nomatch z)).out]
end
abbrev dY:Ss:=
 #v[.ret (.lst #v[.bi .list #v[.v 0],.c (.int 0),.c (.int 0),.c (.int 1),.c (.int 0)])]
abbrev cm:Ss:=
 #v[.ite (.and (.cmp .eq (.ix (.v 0) (.c (.int 2))) (.c (.int 0))) (.cmp .lt (.ix (.v 0) (.c (.int 1))) (.bi .len #v[.ix (.v 0) (.c (.int 0))]))) #v[.set 2 (.ix (.ix (.v 0) (.c (.int 0))) (.ix (.v 0) (.c (.int 1)))),.put (.v 0) (.c (.int 1)) (.op .add (.ix (.v 0) (.c (.int 1))) (.c (.int 1))),.ite (.cmp .ge (.v 2) (.op .pow (.c (.int 10)) (.c (.int 18)))) #v[.put (.v 0) (.c (.int 2)) (.v 2)] #v[.put (.v 0) (.c (.int 3)) (.op .mod (.op .add (.op .add (.op .mul (.ix (.v 0) (.c (.int 3))) (.c (.int 40013))) (.op .mod (.v 2) (.c (.int 1000003)))) (.c (.int 1))) (.c (.int 2147483647)))]] .nil,.ite (.cmp .gt (.ix (.v 0) (.c (.int 2))) (.c (.int 0))) #v[.set 3 (.op .mod (.ix (.v 0) (.c (.int 2))) (.v 1)),.put (.v 0) (.c (.int 2)) (.op .fdiv (.ix (.v 0) (.c (.int 2))) (.v 1)),.ret (.v 3)] .nil,.put (.v 0) (.c (.int 4)) (.op .add (.ix (.v 0) (.c (.int 4))) (.c (.int 1))),.put (.v 0) (.c (.int 3)) (.op .mod (.op .add (.op .add (.op .mul (.ix (.v 0) (.c (.int 3))) (.c (.int 48271))) (.c (.int 12820163))) (.ix (.v 0) (.c (.int 4)))) (.c (.int 2147483647))),.ret (.op .mod (.op .fdiv (.op .mod (.op .mul (.op .add (.op .mod (.ix (.v 0) (.c (.int 3))) (.c (.int 65521))) (.c (.int 1))) (.op .add (.op .fdiv (.ix (.v 0) (.c (.int 3))) (.c (.int 65521))) (.c (.int 7919)))) (.c (.int 1000003))) (.c (.int 7))) (.v 1))]
abbrev cX:Ss:=
 #v[.ret (.me .join (.c (.str "")) #v[.comp (.ix (.c (.str "abcdefghijklmnopqrstuvwxyz")) (.own "_law_pick" 2 #v[.v 2,.c (.int 26)])) (.nm 1) (.rng #v[.v 1]) .nil [gV,gV,ba 0]])]
abbrev fj:Ss:=
 #v[.ite (.cmp .ne (.v 1) (.c (.str ""))) #v[.ret (.op .add (.v 1) (.own "_law_letters" 2 #v[.v 0,.op .add (.c (.int 1)) (.own "_law_pick" 2 #v[.v 0,.c (.int 2)])]))] .nil,.ite (.cmp .eq (.own "_law_pick" 2 #v[.v 0,.c (.int 6)]) (.c (.int 0))) #v[.set 2 (.lst #v[.c (.str "markss"),.c (.str "mark"),.c (.str "way"),.c (.str "wayss"),.c (.str "bars"),.c (.str "ba"),.c (.str "somex")]),.set 2 (.op .add (.v 2) (.lst #v[.c (.str "eachx"),.c (.str "note"),.c (.str "no"),.c (.str "ands"),.c (.str "ors"),.c (.str "o"),.c (.str "iss")])),.ret (.ix (.v 2) (.own "_law_pick" 2 #v[.v 0,.c (.int 14)]))] .nil,.ret (.own "_law_letters" 2 #v[.v 0,.op .add (.c (.int 1)) (.own "_law_pick" 2 #v[.v 0,.c (.int 8)])])]
abbrev cv:Ss:=
 #v[.set 2 (.c (.str "")),.ite (.cmp .eq (.own "_law_pick" 2 #v[.v 0,.c (.int 3)]) (.c (.int 0))) #v[.set 2 (.own "_law_letters" 2 #v[.v 0,.op .add (.c (.int 1)) (.own "_law_pick" 2 #v[.v 0,.c (.int 6)])])] .nil,.set 3 (.lst #v[.c (.str "marks"),.c (.str "ways"),.c (.str "bar"),.c (.str "some"),.c (.str "each"),.c (.str "not"),.c (.str "and"),.c (.str "or"),.c (.str "is")]),.loop (.nm 4) (.rng #v[.v 1]) #v[.set 5 (.own "_law_name" 2 #v[.v 0,.v 2]),.set 6 (.c (.int 0)),.whl (.cmp .isin (.v 5) (.v 3)) #v[.set 5 (.op .mul (.ix (.c (.str "abcdefghijklmnopqrstuvwxyz")) (.op .mod (.v 6) (.c (.int 26)))) (.op .add (.c (.int 1)) (.op .fdiv (.v 6) (.c (.int 26))))),.set 6 (.op .add (.v 6) (.c (.int 1)))],.ex (.me .append (.v 3) #v[.v 5])],.ret (.bi .tuple #v[.sl (.v 3) (.yes (.c (.int 9))) .no])]
abbrev cY:Ss:=
 #v[.ite (.cmp .lt (.v 3) (.v 2)) #v[.ret (.ix (.ix (.ix (.v 1) (.v 2)) (.c (.int 1))) (.v 3))] .nil,.ret (.ix (.ix (.ix (.v 0) (.c (.int 1))) (.ix (.ix (.ix (.v 1) (.v 3)) (.c (.int 1))) (.v 2))) (.c (.int 1)))]
abbrev fm:Ss:=
 #v[.set 3 (.lst .nil),.loop (.nm 4) (.rng #v[.bi .len #v[.v 2]]) #v[.set 5 (.ix (.v 2) (.v 4)),.ex (.me .append (.v 3) #v[.tup #v[.ix (.ix (.v 1) (.v 5)) (.c (.int 0)),.bi .tuple #v[.comp (.own "_law_between" 4 #v[.v 3,.v 4,.v 2,.v 1]) (.nm 1) (.seq (.sl (.v 2) .no (.yes (.v 4)))) .nil [gV,gV,ba 5,ba 0,ba 1]]]])],.ret (.bi .tuple #v[.v 3])]
abbrev gk:Ss:=
 #v[.ret (.lst #v[.tup #v[.c (.int 0),.c (.int 1),.c (.int 2)],.tup #v[.c (.int 0),.c (.int 2),.c (.int 1)],.tup #v[.c (.int 1),.c (.int 0),.c (.int 2)],.tup #v[.c (.int 1),.c (.int 2),.c (.int 0)],.tup #v[.c (.int 2),.c (.int 0),.c (.int 1)],.tup #v[.c (.int 2),.c (.int 1),.c (.int 0)]])]
abbrev dz:Ss:=
 #v[.ret (.bi .min #v[.comp (.own "_law_part" 3 #v[.v 2,.v 3,.v 1]) (.nm 1) (.seq (.own "_law_turns" 0 .nil)) .nil [gV,gV,ba 0,ba 1]])]
abbrev eg:Ss:=
 #v[.set 2 (.ix (.lst #v[.lst #v[.tup #v[.c (.int 0)]],.lst #v[.tup #v[.c (.int 0),.c (.int 1)],.tup #v[.c (.int 1),.c (.int 0)]],.lst #v[.tup #v[.c (.int 0),.c (.int 1),.c (.int 2)],.tup #v[.c (.int 1),.c (.int 0),.c (.int 2)],.tup #v[.c (.int 0),.c (.int 2),.c (.int 1)]]]) (.op .sub (.v 1) (.c (.int 1)))),.ret (.ix (.v 2) (.own "_law_pick" 2 #v[.v 0,.bi .len #v[.v 2]]))]
abbrev cZ:Ss:=
 #v[.set 4 (.own "_law_names" 2 #v[.v 0,.op .add (.v 1) (.bi .len #v[.v 2])]),.set 5 (.bi .tuple #v[.comp (.tup #v[.ix (.v 4) (.op .add (.v 3) (.v 1)),.ix (.v 2) (.v 1)]) (.nm 1) (.rng #v[.bi .len #v[.v 2]]) .nil [gV,gV,ba 2,ba 1,ba 4]]),.ret (.tup #v[.sl (.v 4) .no (.yes (.v 1)),.v 5,.bi .tuple #v[.bi .sorted #v[.v 3]]])]
abbrev bR:Ss:=
 #v[.set 3 (.lst .nil),.loop (.nm 4) (.rng #v[.c (.int 3)]) #v[.ex (.me .append (.v 3) #v[.tup #v[.own "_law_pick" 2 #v[.v 0,.v 1],.bi .tuple #v[.comp (.own "_law_pick" 2 #v[.v 2,.v 3]) (.nm 1) (.rng #v[.v 4]) .nil [gV,gV,ba 0,ba 2]]]])],.ret (.bi .tuple #v[.v 3])]
abbrev eh:Ss:=
 #v[.set 1 (.lst #v[.tup #v[.c (.int 1),.c (.int 1)],.tup #v[.c (.int 2),.c (.int 1)],.tup #v[.c (.int 3),.c (.int 1)],.tup #v[.c (.int 1),.c (.int 2)],.tup #v[.c (.int 1),.c (.int 2)],.tup #v[.c (.int 2),.c (.int 2)],.tup #v[.c (.int 2),.c (.int 2)],.tup #v[.c (.int 3),.c (.int 2)],.tup #v[.c (.int 1),.c (.int 3)],.tup #v[.c (.int 1),.c (.int 3)],.tup #v[.c (.int 2),.c (.int 3)]]),.ret (.ix (.v 1) (.own "_law_pick" 2 #v[.v 0,.c (.int 11)]))]
abbrev cz:Ss:=
 #v[.asg [1,2] (.own "_law_sizes" 1 #v[.v 0]),.set 3 (.own "_law_rule_of" 4 #v[.v 0,.v 1,.own "_law_backs" 2 #v[.v 0,.v 2],.tup .nil]),.set 4 .dnew,.loop (.nm 5) (.rng #v[.own "_law_pick" 2 #v[.v 0,.c (.int 9)]]) #v[.put (.v 4) (.own "_law_figure" 2 #v[.v 3,.own "_law_free_three" 3 #v[.v 0,.v 1,.v 2]]) (.c (.bl true))],.ret (.tup #v[.ix (.v 3) (.c (.int 0)),.ix (.v 3) (.c (.int 1)),.bi .tuple #v[.bi .sorted #v[.v 4]]])]
abbrev bC:Ss:=
 #v[.set 1 (.lst #v[.tup #v[.tup #v[.c (.int 1),.c (.int 0)],.disp #v[.tup #v[.c (.int 0),.c (.int 0)],.lst #v[.c (.int 0)]],.c (.int 3)],.tup #v[.tup #v[.c (.int 0),.c (.int 2),.c (.int 1)],.disp #v[.tup #v[.c (.int 1),.c (.int 1)],.lst #v[.c (.int 1)]],.c (.int 2)],.tup #v[.tup #v[.c (.int 0),.c (.int 1)],.disp #v[.tup #v[.c (.int 1),.c (.int 1)],.lst #v[.c (.int 1)]],.c (.int 3)]]),.ex (.me .append (.v 1) #v[.tup #v[.tup #v[.c (.int 0),.c (.int 1)],.disp #v[.tup #v[.c (.int 1),.c (.int 1)],.lst #v[.c (.int 1)],.tup #v[.c (.int 0),.c (.int 0)],.lst #v[.c (.int 1)]],.c (.int 3)]]),.ex (.me .append (.v 1) #v[.tup #v[.tup #v[.c (.int 0),.c (.int 1)],.disp #v[.tup #v[.c (.int 1),.c (.int 1)],.lst .nil],.c (.int 1)]]),.ex (.me .append (.v 1) #v[.tup #v[.tup #v[.c (.int 0),.c (.int 2),.c (.int 1)],.disp #v[.tup #v[.c (.int 0),.c (.int 0)],.lst #v[.c (.int 0)],.tup #v[.c (.int 0),.c (.int 1)],.lst #v[.c (.int 1)],.tup #v[.c (.int 1),.c (.int 0)],.lst #v[.c (.int 1)],.tup #v[.c (.int 1),.c (.int 1)],.lst #v[.c (.int 1)]],.c (.int 2)]]),.ex (.me .append (.v 1) #v[.tup #v[.tup #v[.c (.int 1),.c (.int 0)],.dnew,.c (.int 3)]]),.ex (.me .append (.v 1) #v[.tup #v[.tup #v[.c (.int 0),.c (.int 1),.c (.int 2)],.disp #v[.tup #v[.c (.int 2),.c (.int 2)],.lst #v[.c (.int 2)],.tup #v[.c (.int 1),.c (.int 2)],.lst #v[.c (.int 1)],.tup #v[.c (.int 2),.c (.int 1)],.lst #v[.c (.int 1)],.tup #v[.c (.int 1),.c (.int 1)],.lst #v[.c (.int 1),.c (.int 2)]],.c (.int 2)]]),.ex (.me .append (.v 1) #v[.tup #v[.tup #v[.c (.int 0),.c (.int 1),.c (.int 2)],.disp #v[.tup #v[.c (.int 0),.c (.int 0)],.lst #v[.c (.int 0),.c (.int 1)]],.c (.int 2)]]),.ret (.ix (.v 1) (.own "_law_pick" 2 #v[.v 0,.c (.int 9)]))]
abbrev dA:Ss:=
 #v[.set 5 (.disp #v[.tup #v[.c (.int 1),.c (.int 0)],.v 2,.tup #v[.c (.int 2),.c (.int 0)],.v 3,.tup #v[.c (.int 2),.c (.int 1)],.v 4]),.loop (.nm 6) (.seq (.bi .list #v[.v 5])) #v[.put (.v 5) (.tup #v[.ix (.v 6) (.c (.int 1)),.ix (.v 6) (.c (.int 0))]) (.ix (.v 0) (.ix (.v 5) (.v 6)))],.loop (.tp [7,8,9]) (.seq (.own "_law_turns" 0 .nil)) #v[.ite (.cmp .notin (.ix (.v 5) (.tup #v[.v 7,.v 9])) (.me .get (.v 1) #v[.tup #v[.ix (.v 5) (.tup #v[.v 7,.v 8]),.ix (.v 5) (.tup #v[.v 8,.v 9])],.lst #v[.ix (.v 5) (.tup #v[.v 7,.v 9])]])) #v[.ret (.c (.bl true))] .nil],.ret (.c (.bl false))]
abbrev aZ:Ss:=
 #v[.set 3 (.bi .len #v[.v 1]),.set 4 (.lst #v[.lst #v[.tup #v[.c (.int 0)]],.lst #v[.tup #v[.c (.int 0),.c (.int 1)],.tup #v[.c (.int 1),.c (.int 0)]]]),.ex (.me .append (.v 4) #v[.lst #v[.tup #v[.c (.int 0),.c (.int 1),.c (.int 2)],.tup #v[.c (.int 0),.c (.int 2),.c (.int 1)],.tup #v[.c (.int 2),.c (.int 0),.c (.int 1)],.tup #v[.c (.int 2),.c (.int 1),.c (.int 0)]]]),.set 5 (.ix (.v 4) (.op .sub (.v 3) (.c (.int 1)))),.ite (.cmp .eq (.v 1) (.tup #v[.c (.int 0),.c (.int 1),.c (.int 2)])) #v[.set 5 (.own "_law_turns" 0 .nil)] .nil,.set 6 (.ix (.v 5) (.own "_law_pick" 2 #v[.v 0,.bi .len #v[.v 5]])),.set 7 (.op .mul (.lst #v[.c (.int 0)]) (.v 3)),.loop (.nm 8) (.rng #v[.v 3]) #v[.put (.v 7) (.ix (.v 6) (.v 8)) (.ix (.v 6) (.ix (.v 1) (.v 8)))],.set 9 .dnew,.loop (.tp [10,11]) (.seq (.v 2)) #v[.put (.v 9) (.tup #v[.ix (.v 6) (.v 10),.ix (.v 6) (.v 11)]) (.comp (.ix (.v 2) (.v 1)) (.nm 1) (.seq (.ix (.v 2) (.tup #v[.v 10,.v 11]))) .nil [gV,gV,ba 6])],.ret (.tup #v[.bi .tuple #v[.v 7],.v 9])]
abbrev bD:Ss:=
 #v[.set 1 (.own "_law_pick" 2 #v[.v 0,.c (.int 7)]),.ite (.cmp .eq (.v 1) (.c (.int 0))) #v[.ret (.own "_law_free_rule" 1 #v[.v 0])] .nil,.ite (.cmp .eq (.v 1) (.c (.int 1))) #v[.ret (.own "_law_one_way_rule" 1 #v[.v 0])] .nil,.asg [2,3,4] (.own "_law_laying_kind" 1 #v[.v 0]),.set 5 (.op .add (.c (.int 1)) (.own "_law_pick" 2 #v[.v 0,.v 4])),.asg [2,3] (.own "_law_numbered" 3 #v[.v 0,.v 2,.v 3]),.set 6 (.own "_law_rule_of" 4 #v[.v 0,.v 5,.v 2,.tup .nil]),.set 7 .dnew,.set 8 (.bi .len #v[.v 2]),.loop (.nm 9) (.rng #v[.op .mul (.op .mul (.v 8) (.v 8)) (.v 8)]) #v[.par 10 11 #v[.op .mod (.v 9) (.v 8),.op .mod (.op .fdiv (.v 9) (.v 8)) (.v 8)],.set 12 (.op .fdiv (.op .fdiv (.v 9) (.v 8)) (.v 8)),.ite (.own "_law_breaks" 5 #v[.v 2,.v 3,.v 10,.v 11,.v 12]) #v[.loop (.nm 13) (.seq (.own "_law_rising" 1 #v[.v 5])) #v[.set 14 (.tup #v[.tup #v[.ix (.v 13) (.c (.int 0)),.tup .nil],.tup #v[.ix (.v 13) (.c (.int 1)),.tup #v[.v 10]]]),.put (.v 7) (.own "_law_figure" 2 #v[.v 6,.op .add (.v 14) (.tup #v[.tup #v[.ix (.v 13) (.c (.int 2)),.tup #v[.v 11,.v 12]]])]) (.c (.bl true))]] .nil],.ret (.tup #v[.ix (.v 6) (.c (.int 0)),.ix (.v 6) (.c (.int 1)),.bi .tuple #v[.bi .sorted #v[.v 7]]])]
abbrev dB:Ss:=
 #v[.set 1 (.lst .nil),.loop (.nm 2) (.rng #v[.v 0]) #v[.loop (.nm 3) (.rng2 #v[.v 2,.v 0]) #v[.set 1 (.op .add (.v 1) (.comp (.tup #v[.v 2,.v 3,.v 1]) (.nm 1) (.rng2 #v[.v 3,.v 0]) .nil [gV,gV,ba 2,ba 3]))]],.ret (.v 1)]
abbrev ce:Ss:=
 #v[.asg [1,2] (.own "_law_sizes" 1 #v[.v 0]),.set 3 (.own "_law_rule_of" 4 #v[.v 0,.v 1,.own "_law_backs" 2 #v[.v 0,.v 2],.tup .nil]),.set 5 (.comp (.v 1) (.nm 1) (.rng #v[.v 2]) #v[.cmp .eq (.ix (.ix (.ix (.v 2) (.c (.int 1))) (.v 1)) (.c (.int 1))) (.v 1)] [gV,gV,ba 3]),.ite (.or (.cmp .eq (.v 5) (.lst .nil)) (.cmp .eq (.v 2) (.c (.int 1)))) #v[.ret (.v 3)] .nil,.set 6 (.ix (.v 5) (.own "_law_pick" 2 #v[.v 0,.bi .len #v[.v 5]])),.set 7 .dnew,.loop (.nm 4) (.rng #v[.own "_law_pick" 2 #v[.v 0,.c (.int 9)]]) #v[.set 8 (.own "_law_free_three" 3 #v[.v 0,.v 1,.v 2]),.ite (.and (.cmp .ne (.ix (.ix (.ix (.v 8) (.c (.int 1))) (.c (.int 1))) (.c (.int 0))) (.v 6)) (.cmp .notin (.v 6) (.ix (.ix (.v 8) (.c (.int 2))) (.c (.int 1))))) #v[.put (.v 7) (.own "_law_figure" 2 #v[.v 3,.v 8]) (.c (.bl true))] .nil],.ret (.tup #v[.ix (.v 3) (.c (.int 0)),.ix (.v 3) (.c (.int 1)),.bi .tuple #v[.bi .sorted #v[.v 7]]])]
abbrev bw:Ss:=
 #v[.set 1 (.op .add (.c (.int 1)) (.own "_law_pick" 2 #v[.v 0,.c (.int 3)])),.set 2 (.comp (.tup #v[.tup #v[.v 1,.tup .nil],.tup #v[.v 1,.tup #v[.c (.int 0)]],.tup #v[.v 1,.tup #v[.c (.int 0),.c (.int 0)]]]) (.nm 1) (.rng #v[.v 1]) #v[.cmp .eq (.own "_law_pick" 2 #v[.v 2,.c (.int 2)]) (.c (.int 0))] [gV,gV,ba 0]),.ret (.own "_law_rule_of" 4 #v[.v 0,.v 1,.tup #v[.c (.int 0)],.v 2])]
abbrev aP:Ss:=
 #v[.set 1 (.own "_law_pick" 2 #v[.v 0,.c (.int 3)]),.ite (.cmp .eq (.v 1) (.c (.int 0))) #v[.ret (.own "_law_rule_of" 4 #v[.v 0,.c (.int 1),.tup #v[.c (.int 0),.c (.int 1)],.comp (.tup #v[.tup #v[.c (.int 0),.tup .nil],.tup #v[.c (.int 0),.tup #v[.v 1]],.tup #v[.c (.int 0),.tup #v[.v 1,.v 1]]]) (.nm 1) (.rng #v[.c (.int 2)]) .nil [gV,gV]])] .nil,.ite (.cmp .eq (.v 1) (.c (.int 1))) #v[.set 2 (.own "_law_rule_of" 4 #v[.v 0,.c (.int 2),.tup #v[.c (.int 0),.c (.int 1)],.tup .nil]),.set 3 .dnew,.loop (.nm 4) (.seq (.own "_law_rising" 1 #v[.c (.int 2)])) #v[.loop (.tp [5,6,7]) (.seq (.lst #v[.tup #v[.c (.int 1),.c (.int 1),.c (.int 0)],.tup #v[.c (.int 1),.c (.int 1),.c (.int 1)],.tup #v[.c (.int 1),.c (.int 0),.c (.int 1)],.tup #v[.c (.int 0),.c (.int 1),.c (.int 1)]])) #v[.set 8 (.tup #v[.tup #v[.ix (.v 4) (.c (.int 0)),.tup .nil],.tup #v[.ix (.v 4) (.c (.int 1)),.tup #v[.v 5]]]),.put (.v 3) (.own "_law_figure" 2 #v[.v 2,.op .add (.v 8) (.tup #v[.tup #v[.ix (.v 4) (.c (.int 2)),.tup #v[.v 6,.v 7]]])]) (.c (.bl true))]],.ret (.tup #v[.ix (.v 2) (.c (.int 0)),.ix (.v 2) (.c (.int 1)),.bi .tuple #v[.bi .sorted #v[.v 3]]])] .nil,.set 9 (.op .add (.c (.int 2)) (.own "_law_pick" 2 #v[.v 0,.c (.int 2)])),.set 3 (.comp (.tup #v[.tup #v[.c (.int 0),.tup .nil],.tup #v[.v 1,.tup #v[.c (.int 0)]],.tup #v[.op .sub (.v 2) (.c (.int 1)),.tup #v[.c (.int 0),.c (.int 0)]]]) (.nm 1) (.rng #v[.v 9]) .nil [gV,gV,ba 9]),.ret (.own "_law_rule_of" 4 #v[.v 0,.v 9,.tup #v[.c (.int 0)],.sl (.v 3) .no (.yes (.op .add (.c (.int 1)) (.own "_law_pick" 2 #v[.v 0,.v 9])))])]
abbrev bL:Ss:=
 #v[.ite (.cmp .is (.v 1) (.c .non)) #v[.ret (.cmp .is (.v 0) (.c .non))] .nil,.ite (.or (.isi "bool" (.v 1)) (.isi "bool" (.v 0))) #v[.ret (.and (.isi "bool" (.v 1)) (.and (.isi "bool" (.v 0)) (.cmp .eq (.v 0) (.v 1))))] .nil,.ite (.isi "int" (.v 1)) #v[.ret (.and (.isi "int" (.v 0)) (.cmp .eq (.v 0) (.v 1)))] .nil,.ite (.isi "str" (.v 1)) #v[.ret (.and (.isi "str" (.v 0)) (.cmp .eq (.v 0) (.v 1)))] .nil,.ite (.or (.cmp .ne (.isi "tuple" (.v 1)) (.isi "tuple" (.v 0))) (.cmp .ne (.isi "list" (.v 1)) (.isi "list" (.v 0)))) #v[.ret (.c (.bl false))] .nil,.ret (.and (.cmp .eq (.bi .len #v[.v 0]) (.bi .len #v[.v 1])) (.bi .all #v[.comp (.own "_law_alike" 2 #v[.ix (.v 3) (.v 1),.ix (.v 2) (.v 1)]) (.nm 1) (.rng #v[.bi .len #v[.v 1]]) .nil [gV,gV,ba 1,ba 0]]))]
abbrev dZ:Ss:=
 #v[.set 1 (.own "_law_pick" 2 #v[.v 0,.c (.int 4)]),.ite (.cmp .eq (.v 1) (.c (.int 0))) #v[.ret (.own "_law_laying_rule" 1 #v[.v 0])] .nil,.ite (.cmp .eq (.v 1) (.c (.int 1))) #v[.ret (.own "_law_unlaying_rule" 1 #v[.v 0])] .nil,.ret (.own "_law_any_rule" 1 #v[.v 0])]
abbrev Is (defs:Jj (JA×Df))(f:JA)(np nn:Jr)(b:Ss):Prop:=∃df:Df,defs.lookup f=ba df/\df.ps.length=np/\df.N.length=nn/\df.body=b
def am {defs:Jj (JA×Df)}{fuel d:Jr}{f:JA}{np nn:Jr}{b:Ss}{ws:Jj W}{S:aa}{Q:QW}(h:Is defs f np nn b)(hl:ws.length=np)(ok:fL b=true)
  (hb:∀Q':QO,(∀w S',Q (w,S')->Q' (.rt w,S'))->wZ (al defs fuel d) fuel b (ws.map ba++Kg (nn - np) gV) S Q'):wO (aE (al defs fuel (d+1)) f np ws S) Q:=by
 obtain⟨df,h1,h2,h3,h4⟩:=h;subst h4;show D9 h1 hl (hl.trans h2.symm) ok λQ' hR=>?_
 have:=hb Q' hR;unfold ff;rw[h3,hl];exact this
structure Gen (defs:Jj (JA×Df)):Prop where
 pick:Is defs ("_law_pick" : JA) 2 4 cm
 letters:Is defs ("_law_letters" : JA) 2 2 cX
 name:Is defs ("_law_name" : JA) 2 3 fj
 names:Is defs ("_law_names" : JA) 2 7 cv
 between:Is defs ("_law_between" : JA) 4 4 cY
 part:Is defs ("_law_part" : JA) 3 6 fm
 turns:Is defs ("_law_turns" : JA) 0 0 gk
 figure:Is defs ("_law_figure" : JA) 2 2 dz
 backs:Is defs ("_law_backs" : JA) 2 3 eg
 rule_of:Is defs ("_law_rule_of" : JA) 4 6 cZ
 free_three:Is defs ("_law_free_three" : JA) 3 5 bR
 sizes:Is defs ("_law_sizes" : JA) 1 2 eh
 any_rule:Is defs ("_law_any_rule" : JA) 1 6 cz
 laying_kind:Is defs ("_law_laying_kind" : JA) 1 2 bC
 breaks:Is defs ("_law_breaks" : JA) 5 10 dA
 numbered:Is defs ("_law_numbered" : JA) 3 12 aZ
 laying_rule:Is defs ("_law_laying_rule" : JA) 1 15 bD
 rising:Is defs ("_law_rising" : JA) 1 4 dB
 free_rule:Is defs ("_law_free_rule" : JA) 1 9 ce
 one_way_rule:Is defs ("_law_one_way_rule" : JA) 1 3 bw
structure FlA (S:aa)(r q:Jr)(ns:Jj JG)(i c x n:JG):Prop where
 at_r:S[r]?=ba (.lst [.ref q,.int i,.int c,.int x,.int n])
 at_q:S[q]?=ba (.lst (ns.map W.int))
 lt:q < r
 i0:0<=i
 c0:0<=c
 x0:0<=x
 x1:x < 2147483647
def FlA.ne {S:aa}{r q:Jr}{ns:Jj JG}{i c x n:JG}(h:FlA S r q ns i c x n):q≠r:=JX h.lt
abbrev Fl (S:aa)(r:Jr):Prop:=∃(q:Jr) (ns:Jj JG) (i c x n:JG),FlA S r q ns i c x n
def FlA.put {S:aa}{r q:Jr}{ns:Jj JG}{i c x n i' c' x' n':JG}(h:FlA S r q ns i c x n)(h1:0<=i')(h2:0<=c')(h3:0<=x')(h4:x' < 2147483647):FlA (S.set r (.lst [.ref q,.int i',.int c',.int x',.int n'])) r q ns i' c' x' n':=
 #[aX h.at_r,by rw[bj (Ne.symm h.ne)]; exact h.at_q,h.lt,h1,h2,h3,h4]
def Fl.keep {S S':aa}{r:Jr}(h:Fl S r)(h1:S'[r]?=S[r]?)(k:Kp r S S'):Fl S' r:=
 let ⟨q,ns,i,c,x,n,f⟩:=h; #[q,ns,i,c,x,n,by rw[h1]; exact f.at_r,k.get _ _ f.ne f.at_q,f.lt,f.i0,f.c0,f.x0,f.x1]
def Fl.lt {S:aa}{r:Jr}(h:Fl S r):r < S.length:=let ⟨_,_,_,_,_,_,f⟩:=h; dq f.at_r
structure Ka (S S':aa):Prop where
 get:∀(j:Jr) (o:O),S[j]?=ba o->S'[j]?=ba o
 len:S.length<=S'.length
def Ka.refl {S:aa}:Ka S S:=#[λ_ _ h=>h,Jy _]
def Ka.trans {S S' S'':aa}(a:Ka S S')(b:Ka S' S''):Ka S S'':=#[λj o h=>b.get j o (a.get j o h),J8 a.len b.len]
def Ka.push {S:aa}{o:O}:Ka S (S++[o]):=#[λj u h=>aj h,by simp]
def Ka.late {t:Jr}{S0 S:aa}{o:O}(a:Ka S0 S)(h:S0.length<=t):Ka S0 (S.set t o):=
 #[λj u e=>by have:=dq e; rw[bj ∅]; exact a.get j u e,by simpa using a.len]
def Ka.kp {S S':aa}(a:Ka S S')(r:Jr):Kp r S S':=#[λj o _ h=>a.get j o h,a.len]
def Fl.ka {S S':aa}{r:Jr}(h:Fl S r)(k:Ka S S'):Fl S' r:=h.keep (by obtain⟨q,ns,i,c,x,n,f⟩:=h; rw[k.get _ _ f.at_r,f.at_r]) (k.kp r)
def Fl.own {S:aa}{r t:Jr}{o:O}(h:Fl S r)(ht:r < t):Fl (S.set t o) r:=by
 obtain⟨q,ns,i,c,x,n,f⟩:=h;have:=f.lt;exact#[q,ns,i,c,x,n,by rw[bj ∅]; exact f.at_r,by rw[bj ∅]; exact f.at_q,f.lt,f.i0,f.c0,f.x0,f.x1]
def d8 {S:aa}{r:Jr}{xs:Jj W}{i:Jr}{w:W}{Q:QW}(h:S[r]?=ba (.lst xs))(hw:xs[i]?=ba w)(q:Q (w,S)):wO (oz (.ref r) (.int (i:JG)) S) Q:=ab (xV h (JU i) (by rw[JN]; exact hw)) q
def mj {S:aa}{r:Jr}{xs:Jj W}{i:Jr}{w:W}{Q:aa->Prop}(h:S[r]?=ba (.lst xs))(hi:Ti (i+1) xs.length=true)(q:Q (S.set r (.lst (xs.set i w)))):wO (iD (.ref r) (.int (i:JG)) w S) Q:=ab (Cm h (JU i) (by rw[JN]; exact LA hi)) (by rw[JN]; exact q)
section
variable{defs:Jj (JA×Df)}{fuel d:Jr}{S:aa}{r:Jr}{Q:QW}
def aV (hd:Is defs ("_law_pick" : JA) 2 4 cm){m:JG}(hf:Fl S r)(h0:0 < m)(h1:m < 1073741824)(k:∀v S',0<=v->v < m->Fl S' r->Kp r S S'->Q (.int v,S')) :
  wO (aE (al defs fuel (d+1)) "_law_pick" 2 [.ref r,.int m] S) Q:=by
 obtain⟨q,ns,i,c,x,n,f⟩:=hf;show am hd rfl rfl λQ' hR=>?_
 replace k:∀v S',0<=v->v < m->Fl S' r->Kp r S S'->Q' (.rt (.int v),S'):=λv S' a b c e=>hR _ _ (k v S' a b c e)
 clear hR;change wZ _ _ cm [ba (.ref r),ba (.int m),gV,gV] S Q';have bI:∀(S1:aa) (w2:Jq W) (i1 c1 x1 n1:JG),FlA S1 r q ns i1 c1 x1 n1->Kp r S S1->wZ (al defs fuel d) fuel (match cm with|.cons _ ss=>ss|.nil=>.nil) [ba (.ref r),ba (.int m),w2,gV] S1 Q':=by
  intro S1 w2 i1 c1 x1 n1 f1 k1;dsimp only[cm];show st ?_;dsimp only[wS,wT,wE,wV,wG];show d8 (i:=2) f1.at_r rfl ?_;dsimp only[xS,wO,wB];show ah (Q0:=Q') (λhg Q2 hn hr=>?_) (λhg Q2 hn hr=>?_)
  ·clear hn;show st ?_;dsimp only[wS,wE,wV,wG];show d8 (i:=2) f1.at_r rfl (ab (kN h0) ?_);show st ?_;dsimp only[wS,wE,wV,wG,JE];show d8 (i:=2) f1.at_r rfl (ab (kO h0 h1) (mj (i:=2) f1.at_r rfl ?_));show st ?_;dsimp only[wS,wE,wV,wG,JE];exact hr _ _ (k _ _ (Mt _ ∅) (LZ _ h0) #[q,ns,i1,c1 / m,x1,n1,f1.put f1.i0 (Rb f1.c0 ∅) f1.x0 f1.x1] (k1.trans .set))
  ·show a9 (hn _ _ ?_);clear hn hr;have f2:FlA (S1.set r (.lst [.ref q,.int i1,.int c1,.int x1,.int (n1+1)])) r q ns i1 c1 x1 (n1+1):=f1.put f1.i0 f1.c0 f1.x0 f1.x1;show st ?_;dsimp only[wS,wE,wV,wG];show d8 (i:=4) f1.at_r rfl ?_;dsimp only[cu,wO];show mj (i:=4) f1.at_r rfl ?_;show st ?_;dsimp only[wS,wE,wV,wG,JE];show d8 (i:=3) f2.at_r rfl (ab (pN #v[] #v[]) ?_)
   dsimp only[cu,wO];show d8 (i:=4) f2.at_r rfl ?_;dsimp only[cu,wO];show(mj (i:=3) f2.at_r rfl ?_);have f3:FlA ((S1.set r (.lst [.ref q,.int i1,.int c1,.int x1,.int (n1+1)])).set r (.lst [.ref q,.int i1,.int c1,.int ((x1*48271+12820163+(n1+1)) % 2147483647),.int (n1+1)])) r q ns i1 c1 ((x1*48271+12820163+(n1+1)) % 2147483647) (n1+1):=f2.put f1.i0 f1.c0 (Mt _ #v[]) (LZ _ #v[])
   dsimp only[JE];generalize(x1*48271+12820163+(n1+1)) % 2147483647=y at f3 ⊢;have b1:y / 65521+7919 < 2 ^ 64:=by
    have:=f3.x1;have:=Int.ediv_le_self 65521 f3.x0;omega
   have b2 : -(2 ^ 64) < y / 65521+7919:=by
    have:=Rb f3.x0 (show(0:JG)<=65521 by decide)
    omega
   show st ?_;dsimp only[wS,wE,wV,wG,JE];show d8 (i:=3) f3.at_r rfl (ab (kN #v[]) ?_)
   dsimp only[cu,wO];show d8 (i:=3) f3.at_r rfl ?_;dsimp only[cu,wO];show ab (pN b2 b1) ?_;show ab (kN h0) ?_;exact k _ _ (Mt _ ∅) (LZ _ h0) #[q,ns,_,_,_,_,f3] (k1.trans (Kp.set.trans .set))
 dsimp only[cm]at bI ⊢;show st ?_;dsimp only[wS,wT,wE,wV,wG,wA];show d8 (i:=2) f.at_r rfl ?_;dsimp only[dX,wO,wB];have skip:∀Q2:QO,(∀Z' S',wZ (al defs fuel d) fuel _ Z' S' Q'->Q2 (.nx Z',S'))->Q2 (.nx [ba (.ref r),ba (.int m),gV,gV],S):=λQ2 hn=>hn _ _ (bI S gV i c x n f .refl)
 show#[λ_=>?_,λ_ Q2 hn hr=>#[λz=>(by cases z),λ_=>(a9 (skip Q2 hn)).out]]
 show d8 (i:=1) f.at_r rfl (d8 (i:=0) f.at_r rfl (ab (Cn f.at_q) ?_));dsimp only[D8,wO,wB];show ah (Q0:=Q') (λhl Q2 hn _=>?_) (λhg Q2 hn hr=>a9 (skip Q2 hn))
 clear skip;have hl':i.toNat < ns.length:=by
  have:=J9 hl;rw[Jl]at this;have:=f.i0;omega
 have hcell:(ns.map W.int)[i.toNat]?=ba (.int ns[i.toNat]):=by simp[hl']
 generalize ns[i.toNat]=cell at hcell;have f1:FlA (S.set r (.lst [.ref q,.int (i+1),.int c,.int x,.int n])) r q ns (i+1) c x n:=f.put (by have:=f.i0; omega) f.c0 f.x0 f.x1
 show st ?_;dsimp only[wS,wE,wV,wG];show d8 (i:=0) f.at_r rfl (d8 (i:=1) f.at_r rfl (ab (xV f.at_q f.i0 hcell) ?_));show st ?_;dsimp only[wS,wE,wV,wG,JE];show d8 (i:=1) f.at_r rfl ?_;dsimp only[cu,wO];show mj (i:=1) f.at_r rfl ?_;show st ?_;dsimp only[wS,wT,wE,wV,wG,D6,Gy,wO,wB];show ah (Q0:=Q') (λhg Q3 hn3 _=>?_) (λhg Q3 hn3 _=>?_)
 ·show st ?_;dsimp only[wS,wE,wV,wG];show mj (i:=2) f1.at_r rfl (a9 (hn3 _ _ (a9 (hn _ _ ?_))));exact bI _ _ (i+1) cell x n (f1.put f1.i0 (by have:=J9 hg; omega) f.x0 f.x1) (Kp.set.trans .set)
 ·show st ?_;dsimp only[wS,wE,wV,wG];show d8 (i:=3) f1.at_r rfl (ab (pN #v[] #v[]) (ab (kN #v[]) ?_))
  dsimp only[cu,wO];show mj (i:=3) f1.at_r rfl (a9 (hn3 _ _ (a9 (hn _ _ ?_))));exact bI _ _ (i+1) c _ n (f1.put f1.i0 f.c0 (Mt _ #v[]) (LZ _ #v[])) (Kp.set.trans .set)
end
abbrev dr:Jr->Ss->Ss
 | 0,ss=>ss
 | n+1,.cons _ ss=>dr n ss
 | _,.nil=>.nil
def aC {α:Type}{a:α}{Q:α->Prop}:wO (ba a) Q=Q a:=rfl
def aA {M:JA->FF}{fuel:Jr}{Z:Fm}{S:aa}{Q:QO}{s:Sm}{ss:Ss}(h:∀K:Fm->aa->Prop,(∀Z' S',wZ M fuel ss Z' S' Q->K Z' S')->wS M fuel s Z S K Q):wZ M fuel (.cons s ss) Z S Q:=st (h _ λ_ _ h=>h)
def GK {M:JA->FF}{fuel:Jr}{Z:Fm}{S:aa}{i:Jr}{e:E}{K:Fm->aa->Prop}{Q:QO}(h:wE M e Z S λp=>K (Z.set i (ba p.1)) p.2):wS M fuel (.set i e) Z S K Q:=h
def d0 {n:Jr}(h:Ti n 1000=true):n<=sizeLine:=J8 (LA h) (by rw[Kq]; decide)
def few {n:Jr}(h:n<=1000):n<=sizeLine:=J8 h (by rw[Kq]; decide)
def d3 {S:aa}{r:Jr}{xs:Jj W}{i:JG}{w:W}{Q:QW}(h:S[r]?=ba (.lst xs))(h0:0<=i)(hw:xs[i.toNat]?=ba w)(q:Q (w,S)):wO (oz (.ref r) (.int i) S) Q:=ab (xV h h0 hw) q
def ag {S:aa}{xs:Jj W}{i:JG}{w:W}{Q:QW}(h0:0<=i)(hw:xs[i.toNat]?=ba w)(q:Q (w,S)):wO (oz (.tup xs) (.int i) S) Q:=ab (Gz h0 hw) q
def eR {S:aa}{r:Jr}{xs:Jj W}{y:W}{Q:QW}(h:S[r]?=ba (.lst xs))(hl:xs.length < 1000)(q:Q (.non,S.set r (.lst (xs++[y])))):wO (Me.append.fn (.ref r) [y] S) Q:=ab (sN h (J3 hl (d0 rfl))) q
def gm {S:aa}{r:Jr}{xs:Jj W}{Q:QW}(h:S[r]?=ba (.lst xs))(q:Q (.int xs.length,S)):wO (Bi.len.fn [.ref r] S) Q:=ab (Cn h) q
def bp {S:aa}{xs:Jj W}{Q:QW}(q:Q (.int xs.length,S)):wO (Bi.len.fn [.tup xs] S) Q:=q
def dt {S:aa}{r:Jr}{xs:Jj W}{Q:QW}(h:S[r]?=ba (.lst xs))(q:Q (.tup xs,S)):wO (Bi.tuple.fn [.ref r] S) Q:=ab (GB h) q
section
variable{M:JA->FF}{fuel:Jr}{Z:Fm}{S S1:aa}{K:Fm->aa->Prop}
def cO {t:E}{a:Ss}{Q:QO}(ht:∀Q:QB,Q (false,S1)->wT M t Z S Q)(h:K Z S1):wS M fuel (.ite t a .nil) Z S K Q:=by
 dsimp only[wS];exact ht _ λQ' h1 h2=>#[λz=>(by cases z),λ_=>(a9 (h1 _ _ h)).out]
def kP {t:E}{a b:Ss}{Q:QO}(ht:∀Q:QB,Q (true,S1)->wT M t Z S Q)(h:∀Q':QO,(∀Z' S',K Z' S'->Q' (.nx Z',S'))->(∀w S',Q (.rt w,S')->Q' (.rt w,S'))->wZ M fuel a Z S1 Q'):wS M fuel (.ite t a b) Z S K Q:=by
 dsimp only[wS];exact ht _ λQ' h1 h2=>#[λ_=>(h Q' h1 λw S' q=>h2 (.rt w) S' (λ_ z=>nomatch z) q).out,λz=>(by cases z)]
end
def xZ:∀k:Fin 26,("abcdefghijklmnopqrstuvwxyz" : JA).cps.toList[k.val]?=ba (97+k.val):=by decide
def sR:("abcdefghijklmnopqrstuvwxyz" : JA).length<=sizeLine:=by decide
def kQ:∀cs:Jj Jr,fR (cs.map λc=>W.str #[[c].toArray])=ba (cs.map λc=>(#[[c].toArray] : JA))
 | []=>rfl
 | c::cs=>by simp[fR,kQ cs]
def mo:∀cs:Jj Jr,((cs.map λc=>(#[[c].toArray] : JA)).map (·.length)).sum=cs.length
 | []=>rfl
 | c::cs=>by
  have:=mo cs;simp only[JS,RO,JL];rw[this];change 1+cs.length=_;omega
def fq (a b:JA):(a++b).cps.toList=a.cps.toList++b.cps.toList:=NF
def kR:∀cs:Jj Jr,(SZ "" (cs.map λc=>(#[[c].toArray] : JA))).cps.toList=cs
 | []=>rfl
 | [c]=>rfl
 | c::d::cs=>by
  have ih:=kR (d::cs);show(((#[[c].toArray] : JA)++("" : JA)++SZ "" ((d::cs).map λc=>(#[[c].toArray] : JA))).cps).toList=_
  rw[fq,fq,ih];rfl
def pP (cs:Jj Jr):(Qo "" (cs.map λc=>(#[[c].toArray] : JA))).cps.toList=cs:=by
 show(SJ "" _).cps.toList=_;rw[Ng];exact kR cs
abbrev sS (y:JA):Prop:=∀c∈y.cps.toList,97<=c/\c<=122
abbrev Name (y:JA):Prop:=1<=y.cps.toList.length/\y.cps.toList.length<=8/\sS y
def cf (y:JA):y.length=y.cps.toList.length:=by simp[Mp]
abbrev ya:Jj JA:=["markss","mark","way","wayss","bars","ba","somex","eachx","note","no","ands","ors","o","iss"]
def u5:∀y∈ya,Name y:=by
 have h:ya.all (λy=>decide (1<=y.cps.toList.length/\y.cps.toList.length<=8)&&y.cps.toList.all λc=>decide (97<=c/\c<=122))=true:=by decide
 intro y hy;have:=JV.mp h y hy;rw[Js]at this;obtain⟨a,b⟩:=this;exact#[(J9 a).1,(J9 a).2,λc hc=>J9 (JV.mp b c hc)]
def kS {α:Type}{f:α->W}{xs:Jj α}{i:Jr}(h:i < xs.length):∃x∈xs,(xs.map f)[i]?=ba (f x):=#[xs[i],Ko _,by rw[Jv,JB h]; rfl]
section
variable{defs:Jj (JA×Df)}{fuel d:Jr}{S:aa}{r:Jr}{Q:QW}
def jp (G:Gen defs){m:JG}(hf:Fl S r)(h0:0<=m)(h1:m<=1000)(k:∀y S',y.cps.toList.length=m.toNat->sS y->Fl S' r->Kp r S S'->Q (.str y,S')) :
  wO (aE (al defs fuel (d+2)) "_law_letters" 2 [.ref r,.int m] S) Q:=by
 show am G.letters rfl rfl λQ' hR=>?_
 change wZ _ _ cX [ba (.ref r),ba (.int m)] S Q';dsimp only[cX];show st ?_;dsimp only[wS,wE,wA];show#[rfl,dy m (λi ys Z S'=>(∃a,Z=[gV,a,ba (.ref r)])/\Fl S' r/\Kp r S S'/\∃cs:Jj Jr,ys=cs.map (λc=>W.str #[[c].toArray])/\cs.length=i/\∀c∈cs,97<=c/\c<=122) rfl rfl rfl #[∅,∅] #[rfl,#[gV,rfl],hf,.refl,[],rfl,rfl,λ_ h=>nomatch h] ?_ ?_]
 ·rintro i ys Z S1 hi ⟨⟨a,rfl⟩,f1,k1,cs,rfl,hl,hc⟩;dsimp only[gM,wC,wE,wA,wV,wG,JE];show#[λ_=>aV (d:=d) G.pick f1 #v[] #v[] λv S2 h2 h3 f2 k2=>?_,λz=>by cases z]
  have ha:=xZ #[v.toNat,∅]
  show ab (Ck sR h2 ha) #[#[_,rfl],f2,k1.trans k2,cs++[97+v.toNat],by simp,by simp[hl],λc hx=>?_]
  rcases Kj.mp hx with h|h
  ·exact hc c h
  ·rw[JH.mp h]; omega
 ·rintro ys Z S1 ⟨_,f1,k1,cs,rfl,hl,hc⟩;show#[by rw[Jl,hl,Kq]; omega,?_]
  have hz:((cs.map λc=>(#[[c].toArray] : JA)).map (·.length)).sum+(cs.map λc=>(#[[c].toArray] : JA)).length*("" : JA).length<=16777216:=by
   rw[mo,show("" : JA).length=0 from rfl,Nat.mul_zero]
   omega
  show ab (a:=(.str (Qo "" (cs.map λc=>(#[[c].toArray] : JA))),S1++[.lst (cs.map λc=>W.str #[[c].toArray])])) ?_ (hR _ _ (k _ _ (by rw[pP,hl]) (λc h=>hc c (by rw[pP]at h; exact h)) (f1.ka .push) (k1.trans .push)))
  simp only[Me.fn,lN,cq,ap ac,kQ];rw[JO hz]
def Ea (G:Gen defs){y:JA}(hf:Fl S r)(h0:y.cps.toList.length<=6)(h1:sS y)(k:∀z S',Name z->Fl S' r->Kp r S S'->Q (.str z,S')) :
  wO (aE (al defs fuel (d+3)) "_law_name" 2 [.ref r,.str y] S) Q:=by
 show am G.name rfl rfl λQ' hR=>?_
 replace k:∀z S',Name z->Fl S' r->Kp r S S'->Q' (.rt (.str z),S'):=λz S' a b c=>hR _ _ (k z S' a b c)
 clear hR;change wZ _ _ fj [ba (.ref r),ba (.str y),gV] S Q';dsimp only[fj];nofun
 dsimp only[wS,wT,wE,wV,wG,xU,wO,wB];show ah (Q0:=Q') (λ_ Q2 _ hr=>?_) (λ_ Q2 hn _=>?_)
 ·show st ?_;left;show aV (d:=d+1) G.pick hf #v[] #v[] λv S1 v0 v1 f1 k1=>?_
  dsimp only[cu,wO];show jp (d:=d) G f1 ∅ ∅ λz S2 hz hs f2 k2=>?_
  have hl:(y++z).cps.toList.length=y.cps.toList.length+z.cps.toList.length:=by rw[fq,Jw]
  show ab (eL (by rw[cf,cf,Kq]; omega)) (hr _ _ (k _ _ #[∅,∅,λc hc=>?_] f2 (k1.trans k2)))
  rw[fq]at hc;exact(Kj.mp hc).elim (h1 c) (hs c)
 ·show a9 (hn _ _ (hK _ _ ?_));clear hn hK;nofun
  dsimp only[wS,wT,wE,wA,wV,wG];show aV (d:=d+1) G.pick hf #v[] #v[] λv S1 v0 v1 f1 k1=>?_
  dsimp only[dX,wO,wB];show ah (Q0:=Q') (λ_ Q2 _ hr=>?_) (λ_ Q2 hn _=>?_)
  ·show st ?_;left;show st ?_;left;show ab (gh (i:=S1.length) (j:=(S1++[_]).length) (aj ac) ac (d0 rfl)) ?_;dsimp only;show st ?_;left;show aV (d:=d+1) G.pick (((f1.ka .push).ka .push).ka .push) #v[] #v[] λv S2 v0 v1 f2 k2=>?_
   have e:=k2.get _ _ (by have:=f1.lt; simp only[Jw]; omega) ac
   obtain⟨z,hz,ez⟩:=kS (f:=W.str) (xs:=ya) (i:=v.toNat) (by change v.toNat < 14; omega)
   exact d3 e v0 ez (hr _ _ (k _ _ (u5 z hz) f2 (k1.trans (Kp.push.trans (Kp.push.trans (Kp.push.trans k2))))))
  ·show a9 (hn _ _ (hK _ _ ?_));clear hn hK;show st ?_;left;show aV (d:=d+1) G.pick f1 #v[] #v[] λv S2 v0 v1 f2 k2=>?_
   dsimp only[cu,wO];exact jp (d:=d) G f2 ∅ ∅ λz S3 hz hs f3 k3=>k _ _ #[∅,∅,hs] f3 (k1.trans (k2.trans k3))
end
def gq {α:Type}[MB α]:∀(l m:Jj α),l.Nodup->(∀x∈l,x∈m)->l.length<=m.length
 | [],_,_,_=>KW _
 | x::l,m,hn,hs=>by
  rw[LM]at hn;have hx:x∈m:=hs x (.head _);have h1:=gq l (m.erase x) hn.2 λy hy=>(List.mem_erase_of_ne (λ(e:y=x)=>hn.1 (by rw[<- e]; exact hy))).mpr (hs y (.tail _ hy))
  rw[List.length_erase_of_mem hx]at h1;have:=List.length_pos_of_mem hx;rw[JL]; omega
abbrev lz (k:Jr):JA:=#[[97+k].toArray]
def yb {a b:Jr}(h:lz a=lz b):a=b:=by
 unfold lz at h;injection h with h
 injection h with h
 injection h with h
 omega
def pQ (s:Jr):((Kb s).map lz).Nodup:=by
 unfold Rv;rw[LK];exact List.nodup_range.imp λh e=>h (yb e)
def u6 {k:Jr}(h:k < 26):Name (lz k):=#[Jy 1,(by decide:1<=8),λc hc=>by
 cases JH.mp (show c∈[97+k]from hc)
 omega]
abbrev eM:Jj JA:=["marks","ways","bar","some","each","not","and","or","is"]
def iP (zs:Jj JA):(zs.map W.str).all bh=true:=by
 rw[JV];intro x hx;obtain⟨z,_,rfl⟩:=JI.mp hx;rfl
def sT (zs:Jj JA)(y:JA):((zs.map W.str).any λz=>qB z (.str y))=decide (y∈zs):=by
 induction zs with
 | nil=>rfl
 | cons z zs ih=>
  rw[JS,LU,ih];show((z==y)||_)=_
  by_cases h:z=y
  ·subst h; simp
  ·have:(z==y)=false:=by simpa using h
   rw[this,Od];have h2:(y∈z::zs)=(y∈zs):=by simp[Ne.symm h]
   simp only[h2]
def mq {S:aa}{t:Jr}{zs:Jj JA}{y:JA}(h:S[t]?=ba (.lst (zs.map W.str))):bO .isin (.str y) (.ref t) S=ba (.bl (decide (y∈zs)),S):=by
 (dsimp only[bO,uF,cw,oP,zr,cq]; simp only[jR h,ap h])
 rw[JO (by rw[iP]; rfl),sT]
 rfl
def Eb {S:aa}{k:Jr}:fN .mul (.str #[[k].toArray]) (.int 1) S=ba (.str #[[k].toArray],S):=by
 dsimp only[fN,vZ];rw[JO #[#v[],#v[],by change 1*1<=sizeLine; rw[Kq]; decide]]
 rfl
def kU {xs:Jj W}{k:Jr}:gY xs gV (ba (k:JG))=xs.take k:=by
 unfold gY;rw[HT.j3,HT.rQ,NT,Qt]
 by_cases h:k<=xs.length
 ·rw[Rc h]
 ·rw[QN ∅,Ls (Jy _),Ls ∅]
def kW {xs:Jj W}{k:Jr}:gY xs (ba (k:JG)) gV=xs.drop k:=by
 unfold gY;rw[HT.j3,HT.rQ]
 by_cases h:k<=xs.length
 ·rw[Rc h,Ls (by rw[LB]; exact Jy _)]
 ·rw[QN ∅,OH (Jy _),OH ∅]; exact List.take_nil
section
variable{defs:Jj (JA×Df)}{fuel d:Jr}{S:aa}{r:Jr}{Q:QW}
def Bk {M:JA->FF}{m z w:W}{t:Jr}{y:JA}{zs:Jj JA}{K:Fm->aa->Prop}{Q:QO}(hfu:20 < fuel)(hy:Name y)(e:S[t]?=ba (.lst (zs.map W.str)))(hl:zs.length<=15)
  (k:∀y s,Name y->y∉zs->K [ba (.ref r),ba m,ba z,ba (.ref t),ba w,ba (.str y),ba s] S) :
  wS M fuel (.whl (.cmp .isin (.v 5) (.v 3)) #v[.set 5 (.op .mul (.ix (.c (.str "abcdefghijklmnopqrstuvwxyz")) (.op .mod (.v 6) (.c (.int 26)))) (.op .add (.c (.int 1)) (.op .fdiv (.v 6) (.c (.int 26))))),.set 6 (.op .add (.v 6) (.c (.int 1)))])
   [ba (.ref r),ba m,ba z,ba (.ref t),ba w,ba (.str y),ba (.int 0)] S K Q:=by
 dsimp only[wS];show xY (λmm Z S'=>∃(s:Jr) (y:JA),Z=[ba (.ref r),ba m,ba z,ba (.ref t),ba w,ba (.str y),ba (.int s)]/\S'=S/\mm+s=18/\s<=16/\Name y/\(0 < s->y=lz (s - 1))/\∀k,k+1 < s->lz k∈zs) 18 rfl rfl ∅ #[0,y,rfl,rfl,rfl,∅,hy,λh=>absurd h ∅,λk h=>absurd h ∅] ?_
 rintro mm Z S' ⟨s,y',rfl,rfl,hm,hs,hy',hc1,hc2⟩;dsimp only[wT,wE,wV,wG];show ab (mq e) #[λhin=>?_,λhout=>k _ _ hy' (Kv hout)]
 have all:∀k,k < s->lz k∈zs:=λk hk=>by
  by_cases h:k+1 < s
  ·exact hc2 k h
  ·have e:k=s - 1:=∅
   rw[e,<- hc1 ∅]; exact J9 hin
 have hs15:s<=15:=by
  have h7:=gq ((Kb s).map lz) zs (pQ s) λx hx=>by
   obtain⟨k,hk,rfl⟩:=JI.mp hx;exact all k (Kz.mp hk)
  rw[Jl,KU]at h7;omega
 show#[mm - 1,∅,λQ2 hn _=>?_]
 have em:((s:JG) % 26)=s:=Int.emod_eq_of_lt ∅ ∅
 have ed:((s:JG) / 26)=0:=Int.ediv_eq_zero_of_lt ∅ ∅
 show st ?_;dsimp only[wS,wE,wV,wG,JE];show ab (kN #v[]) ?_
 rw[em];show ab (Ck (i:=(s:JG)) sR (JU s) (xZ #[s,∅])) ?_
 have e2:fN .fdiv (.int s) (.int 26) S'=ba (.int 0,S'):=by rw[kO ∅ ∅,ed]
 dsimp only;rw[e2];dsimp only[cu,aC];rw[show(1:JG)+0=1 from rfl]
 show ab Eb ?_;show st ?_;dsimp only[wS,wE,wV,wG,JE,cu,aC];exact a9 (hn _ _ #[s+1,lz s,rfl,rfl,∅,∅,u6 ∅,λ_=>rfl,λk hk=>all k ∅])
def Bl (hfu:20 < fuel)(G:Gen defs){m:Jr}(hf:Fl S r)(h1:m<=6)(k:∀(ys:Jj JA) S',ys.length=m->(∀y∈ys,Name y)->(eM++ys).Nodup->Fl S' r->Kp r S S'->Q (.tup (ys.map W.str),S')) :
  wO (aE (al defs fuel (d+4)) "_law_names" 2 [.ref r,.int m] S) Q:=by
 show am G.names rfl rfl λQ' hR=>?_
 replace k:∀(ys:Jj JA) S',ys.length=m->(∀y∈ys,Name y)->(eM++ys).Nodup->Fl S' r->Kp r S S'->Q' (.rt (.tup (ys.map W.str)),S'):=λz S' a b c e f=>hR _ _ (k z S' a b c e f)
 clear hR;change wZ _ _ cv [ba (.ref r),ba (.int m),gV,gV,gV,gV,gV] S Q';have bI:∀(z:JA) (S2:aa),z.cps.toList.length<=6->sS z->Fl S2 r->Kp r S S2->wZ (al defs fuel (d+3)) fuel (dr 2 cv) [ba (.ref r),ba (.int m),ba (.str z),gV,gV,gV,gV] S2 Q':=by
  intro z S2 hz1 hz2 f2 k2;dsimp only[dr,cv];have hrt:=f2.lt;have hSt:=k2.len;show st ?_;left;nofun
  show iO (m:JG) (λi Z S'=>∃a4 a5 a6 ys,Z=[ba (.ref r),ba (.int m),ba (.str z),ba (.ref S2.length),a4,a5,a6]/\S'[S2.length]?=ba (.lst ((eM++ys).map W.str))/\ys.length=i/\(∀y∈ys,Name y)/\(eM++ys).Nodup/\Fl S' r/\Kp r S S') rfl rfl ∅ ?_ ?_ ?_
  ·dsimp only[wE,wV,wG];exact#[rfl,gV,gV,gV,[],rfl,ac,rfl,λ_ h=>(nomatch h),#v[],f2.ka .push,k2.trans .push]
  ·rintro i Z S3 hi ⟨a4,a5,a6,ys,rfl,e3,hy1,hy2,hy3,f3,k3⟩ Q2 hn _;clear hK;show st ?_;left;show Ea (d:=d) G f3 hz1 hz2 λy S4 hy f4 k4=>?_
   have e4:=k4.get _ _ ∅ e3
   show st ?_;left;show st (Bk hfu hy e4 (by rw[Jw,hy1]; show 9+i<=15; omega) λy' s hy' hnot=>?_)
   show st ?_;left;show#[bv e4,eR e4 (by rw[Jl,Jw,hy1]; show 9+i < 1000; omega) ?_]
   show a9 (hn _ _ #[_,_,_,ys++[y'],rfl,?_,by rw[Jw,hy1]; rfl,λx hx=>?_,?_,f4.own hrt,(k3.trans k4).late hSt])
   ·rw[aX e4,<- KS,J0 (l₁:=eM++ys)]; rfl
   ·rcases Kj.mp hx with h|h
    ·exact hy2 x h
    ·rw[JH.mp h]; exact hy'
   ·rw[<- KS,KT];show#[hy3,by simp,λa ha b hb e=>?_]
    rw[JH.mp hb]at e;exact hnot (e ▸ ha)
  ·rintro Z S3 ⟨a4,a5,a6,ys,rfl,e3,hy1,hy2,hy3,f3,k3⟩;show hK _ _ (st ?_);dsimp only[wS,wE,wA,wV,wG,wP,wN];have hs:lM (.ref S2.length) (ba 9) gV S3=ba (.ref S3.length,S3++[.lst (ys.map W.str)]):=by
    have:gY ((eM++ys).map W.str) (ba ((9:Jr):JG)) gV=ys.map W.str:=by
     rw[kW,J0];exact MY rfl
    simp only[lM,ap e3];rw[show(ba 9:Jq JG)=ba ((9:Jr):JG)from rfl,this]
   show ab hs (dt ac (k _ _ ?_ hy2 hy3 (f3.ka .push) (k3.trans .push)));rw[hy1]; exact JN m
 dsimp only[cv];show st ?_;dsimp only[wS,wE,JE];nofun
 dsimp only[wS,wT,wE,wA,wV,wG];show aV (d:=d+2) G.pick hf #v[] #v[] λv S1 v0 v1 f1 k1=>?_
 dsimp only[dX,wO,wB];show ah (Q0:=Q') (λ_ Q2 hn _=>?_) (λ_ Q2 hn _=>?_)
 ·show st ?_;left;show aV (d:=d+2) G.pick f1 #v[] #v[] λv S2 v0 v1 f2 k2=>?_
  dsimp only[cu,wO];exact jp (d:=d+1) G f2 ∅ ∅ λz S3 hz hs f3 k3=>a9 (hn _ _ (hK _ _ (bI z S3 ∅ hs f3 (k1.trans (k2.trans k3)))))
 ·exact a9 (hn _ _ (hK _ _ (bI "" S1 #v[] (λc hc=>nomatch hc) f1 k1)))
end
noncomputable abbrev Pt:=JG×Jj JG
noncomputable abbrev Wd:=Jj Pt
abbrev bU (p:Pt):W:=.tup [.int p.1,.tup (p.2.map W.int)]
abbrev aK (u:Wd):W:=.tup (u.map bU)
abbrev gN (p:Pt):T:=.tup [.int p.1,.tup (p.2.map T.int)]
abbrev bX (u:Wd):T:=.tup (u.map gN)
def sU:∀xs:Jj JG,T.ws (xs.map T.int)=xs.map W.int
 | []=>rfl
 | x::xs=>by simp[T.ws,T.w,sU xs]
def GL (p:Pt):(gN p).w=bU p:=by simp[gN,bU,T.w,T.ws,sU]
def rA:∀u:Wd,T.ws (u.map gN)=u.map bU
 | []=>rfl
 | p::u=>by simp[T.ws,GL,rA u]
def yc (u:Wd):(bX u).w=aK u:=by simp[bX,aK,T.w,rA]
def sV (u:Wd):W.t (aK u)=ba (bX u):=by rw[<- yc]; exact T.w_t _
def yd:∀us:Jj Wd,T.ws (us.map bX)=us.map aK
 | []=>rfl
 | u::us=>by simp[T.ws,yc,yd us]
def ye (us:Jj Wd):W.ts (us.map aK)=ba (us.map bX):=by rw[<- yd]; exact T.ws_ts _
def kX:∀xs:Jj JG,T.depths (xs.map T.int)=0
 | []=>rfl
 | x::xs=>by simp[T.depths,T.depth,kX xs]
def yf (p:Pt):(gN p).depth=2:=by simp[gN,T.depth,T.depths,kX]
def jq:∀u:Wd,T.depths (u.map gN)<=2
 | []=>by simp[T.depths]
 | p::u=>by
  have:=jq u;simp only[JS,T.depths,yf]; omega
def gr (u:Wd):(bX u).depth<=3:=by
 have:=jq u;simp only[bX,T.depth]; omega
def gE:∀us:Jj Wd,T.depths (us.map bX)<=3
 | []=>by simp[T.depths]
 | u::us=>by
  have:=gE us;have:=gr u;simp only[JS,T.depths]; omega
def Ec (u:Wd):gK (aK u)=ba (bX u):=by
 unfold gK;rw[sV];show(if (bX u).isTup=true/\(bX u).depth<=aN then _ else _)=_
 rw[JO #[rfl,by have:=gr u; unfold aN; omega]]
mutual
def pR:T->T->J1
 | .int _,.int _=>true
 | .str _,.str _=>true
 | .tup xs,.tup ys=>iQ xs ys
 | _,_=>false
def iQ:Jj T->Jj T->J1
 | [],_=>true
 | _,[]=>true
 | x::xs,y::ys=>pR x y&&iQ xs ys
end
mutual
theorem rB:∀x y:T,pR x y=true->(eY x y).isSome=true
 | .int _,.int _,_=>rfl
 | .str _,.str _,_=>rfl
 | .tup xs,.tup ys,h=>by
  dsimp only[pR]at h;dsimp only[eY];exact sW xs ys h
 | .int _,.str _,h|.int _,.tup _,h|.str _,.int _,h|.str _,.tup _,h|.tup _,.int _,h|.tup _,.str _,h=>by cases h
theorem sW:∀xs ys:Jj T,iQ xs ys=true->(cJ xs ys).isSome=true
 | [],[],_=>rfl
 | [],_::_,_=>rfl
 | _::_,[],_=>rfl
 | x::xs,y::ys,h=>by
  dsimp only[iQ]at h; simp only[Js]at h
  dsimp only[cJ];split
  ·exact sW xs ys h.2
  ·exact rB x y h.1
end
def pS:∀xs ys:Jj JG,iQ (xs.map T.int) (ys.map T.int)=true
 | [],_=>rfl
 | _::_,[]=>rfl
 | x::xs,y::ys=>by dsimp only[Ta,iQ,pR]; simp[pS xs ys]
def yg (p q:Pt):pR (gN p) (gN q)=true:=by dsimp only[gN,pR,iQ]; simp[pS]
def sX:∀u v:Wd,iQ (u.map gN) (v.map gN)=true
 | [],_=>rfl
 | _::_,[]=>rfl
 | p::u,q::v=>by dsimp only[Ta,iQ]; simp[yg,sX u v]
def Ed (u v:Wd):pR (bX u) (bX v)=true:=by dsimp only[bX,pR]; exact sX _ _
def eS (us:Jj Wd):eP (us.map bX)=true:=by
 unfold eP;rw[JV];intro x hx;obtain⟨u,_,rfl⟩:=JI.mp hx;rw[JV];intro y hy;obtain⟨v,_,rfl⟩:=JI.mp hy;exact rB _ _ (Ed u v)
def Ee (us:Jj Wd)(h:∀u∈us,u≠[]):(Am (us.map bX)).isSome=true:=by
 unfold Am;split
 ·rfl
 ·split
  ·rfl
  ·split
   ·rfl
   ·split
    ·rfl
    ·split
     ·rfl
     ·rename_i h5;exfalso;apply h5;rw[JV];intro x hx;obtain⟨u,hu,rfl⟩:=JI.mp hx;cases u with
      | nil=>exact absurd rfl (h [] hu)
      | cons p u=>rfl
abbrev cN (bs:Jj JG)(u:Wd)(i j:Jr):JG:=if j < i then((u.getD i (0,[])).2).getD j 0 else bs.getD (((u.getD j (0,[])).2).getD i 0).toNat 0
abbrev aw (bs:Jj JG)(u:Wd)(ps:Jj Jr):Wd:=(Kb ps.length).map λk=>((u.getD (ps.getD k 0) (0,[])).1,(ps.take k).map λj=>cN bs u (ps.getD k 0) j)
abbrev az:Jj (Jj Jr):=[[0,1,2],[0,2,1],[1,0,2],[1,2,0],[2,0,1],[2,1,0]]
abbrev hG (bs:Jj JG)(u:Wd):Wd:=(az.map (aw bs u)).getD (je ((az.map (aw bs u)).map bX)) []
abbrev ar (n:JA)(b:JG):W:=.tup [.str n,.int b]
structure GoodW (a n:Jr)(u:Wd):Prop where
 mark:∀(k:Jr) (p:Pt),u[k]?=ba p->0<=p.1/\p.1 < a
 len:∀(k:Jr) (p:Pt),u[k]?=ba p->p.2.length=k
 way:∀(k:Jr) (p:Pt),u[k]?=ba p->∀w∈p.2,0<=w/\w < n
abbrev GoodB (bs:Jj JG):Prop:=bs=[0]\/bs=[0,1]\/bs=[1,0]\/bs=[0,1,2]\/bs=[1,0,2]\/bs=[0,2,1]
def GoodB.rng {bs:Jj JG}(h:GoodB bs):∀k:Jr,k < bs.length->∃b:JG,bs[k]?=ba b/\0<=b/\b < bs.length:=by
 rcases h with rfl|rfl|rfl|rfl|rfl|rfl <;> intro k hk
 ·match k,hk with
  | 0,_=>exact#[0,rfl,#v[],#v[]]
 ·match k,hk with
  | 0,_=>exact#[0,rfl,#v[],#v[]]
  | 1,_=>exact#[1,rfl,#v[],#v[]]
 ·match k,hk with
  | 0,_=>exact#[1,rfl,#v[],#v[]]
  | 1,_=>exact#[0,rfl,#v[],#v[]]
 ·match k,hk with
  | 0,_=>exact#[0,rfl,#v[],#v[]]
  | 1,_=>exact#[1,rfl,#v[],#v[]]
  | 2,_=>exact#[2,rfl,#v[],#v[]]
 ·match k,hk with
  | 0,_=>exact#[1,rfl,#v[],#v[]]
  | 1,_=>exact#[0,rfl,#v[],#v[]]
  | 2,_=>exact#[2,rfl,#v[],#v[]]
 ·match k,hk with
  | 0,_=>exact#[0,rfl,#v[],#v[]]
  | 1,_=>exact#[2,rfl,#v[],#v[]]
  | 2,_=>exact#[1,rfl,#v[],#v[]]
def getD_some {α:Type}{xs:Jj α}{i:Jr}{x d:α}(h:xs[i]?=ba x):xs.getD i d=x:=by simp[h]
def au {α:Type}{xs:Jj α}{i:Jr}{d:α}(h:i < xs.length):xs[i]?=ba (xs.getD i d):=by simp[h]
def nX {ns:Jj JA}{bs:Jj JG}{k:Jr}{n:JA}{b:JG}(h1:ns[k]?=ba n)(h2:bs[k]?=ba b):(Jx ar ns bs)[k]?=ba (ar n b):=by
 rw[Lz,h1,h2]
abbrev aB (ps:Jj Jr):Jj W:=ps.map λ(p:Jr)=>W.int (p:JG)
def nY {ps:Jj Jr}{k p:Jr}(h:ps[k]?=ba p):(aB ps)[k]?=ba (.int p):=by simp[aB,h]
def bq (bs:Jj JG)(u:Wd)(ps:Jj Jr):(aw bs u ps).length=ps.length:=by unfold aw; rw[Jl,KU]
def mr {u:Wd}{i:Jr}(hi:i < u.length):(u.map bU)[((i:Jr):JG).toNat]?=ba (bU (u.getD i (0,[]))):=by
 rw[JN,Jv,au hi]; rfl
section
variable{defs:Jj (JA×Df)}{fuel d:Jr}{S:aa}{r:Jr}{Q:QW}
def yh {M:JA->FF}{m0 b0:W}{ns:Jj JA}{bs:Jj JG}{a:Jr}{u:Wd}{i j:Jr}{Q:QO}(hb:GoodB bs)(hl:ns.length=bs.length)(hu:GoodW a bs.length u)(hi:i < u.length)(hj:j < u.length)(hij:i≠j)(k:Q (.rt (.int (cN bs u i j)),S)) :
  wZ M fuel cY [ba (.tup [m0,.tup (Jx ar ns bs),b0]),ba (aK u),ba (.int i),ba (.int j)] S Q:=by
 have hpi:=au (d:=(0,[])) hi;have hpj:=au (d:=(0,[])) hj;unfold cN at k;dsimp only[cY];nofun
 dsimp only[wS,wT,wE,wV,wG,D8,wO,wB,aK];show ah (Q0:=Q) (λh Q2 _ hr=>?_) (λh Q2 hn _=>?_)
 ·have hji:j < i:=by have:=J9 h; omega
  rw[JO hji]at k;have hw:j < (u.getD i (0,[])).2.length:=by rw[hu.len i _ hpi]; exact hji
  show st ?_;dsimp only[wS,wE,wV,wG];show ag (JU i) (mr hi) (ag #v[] rfl (ag (JU j) ?_ (hr _ _ k)))
  rw[JN,Jv,au (d:=0) hw]; rfl
 ·have hji:¬ j < i:=by have:=Kv h; omega
  rw[JZ hji]at k;show a9 (hn _ _ (hK _ _ ?_));clear hn hK;have hw:i < (u.getD j (0,[])).2.length:=by rw[hu.len j _ hpj]; omega
  have hg:=au (d:=0) hw;obtain⟨g1,g2⟩:=hu.way j _ hpj _ (JD hg);obtain⟨b,hb1,hb2,hb3⟩:=hb.rng ((u.getD j (0,[])).2.getD i 0).toNat ∅
  have hn:((u.getD j (0,[])).2.getD i 0).toNat < ns.length:=∅
  rw[getD_some hb1]at k;show st ?_;dsimp only[wS,wE,wV,wG];show ag #v[] rfl (ag (JU j) (mr hj) (ag #v[] rfl (ag (JU i) ?_ (ag g1 (nX (JB hn) hb1) (ag #v[] rfl k)))))
  rw[JN,Jv,hg]; rfl
def u7 (G:Gen defs){m0 b0:W}{ns:Jj JA}{bs:Jj JG}{a:Jr}{u:Wd}{i j:Jr}(hb:GoodB bs)(hl:ns.length=bs.length)(hu:GoodW a bs.length u)(hi:i < u.length)(hj:j < u.length)(hij:i≠j)(k:Q (.int (cN bs u i j),S)) :
  wO (aE (al defs fuel (d+1)) "_law_between" 4 [.tup [m0,.tup (Jx ar ns bs),b0],aK u,.int i,.int j] S) Q:=
 am G.between rfl rfl λQ' hR=>yh hb hl hu hi hj hij (hR _ _ k)
def yi (G:Gen defs){m0 b0:W}{ns:Jj JA}{bs:Jj JG}{a:Jr}{u:Wd}{ps:Jj Jr}(hb:GoodB bs)(hl:ns.length=bs.length)(hu:GoodW a bs.length u)(hps:∀p∈ps,p < u.length)(hnd:ps.Nodup)(hsz:ps.length < 1000)(k:∀S',Ka S S'->Q (aK (aw bs u ps),S')) :
  wO (aE (al defs fuel (d+2)) "_law_part" 3 [.tup [m0,.tup (Jx ar ns bs),b0],aK u,.tup (aB ps)] S) Q:=by
 show am G.part rfl rfl λQ' hR=>?_
 replace k:∀S',Ka S S'->Q' (.rt (aK (aw bs u ps)),S'):=λS' a=>hR _ _ (k S' a)
 clear hR;change wZ _ _ fm [ba (.tup [m0,.tup (Jx ar ns bs),b0]),ba (aK u),ba (.tup (aB ps)),gV,gV,gV] S Q';generalize hR0:W.tup [m0,.tup (Jx ar ns bs),b0]=R;dsimp only[fm];show st ?_;dsimp only[wS,wE,wA,JE];nofun
 have nl:(aB ps).length=ps.length:=Jl ..;show iO (ps.length:JG) (λk Z S'=>∃a4 a5,Z=[ba R,ba (aK u),ba (.tup (aB ps)),ba (.ref S.length),a4,a5]/\S'[S.length]?=ba (.lst (((aw bs u ps).take k).map bU))/\Ka S S') rfl rfl ∅ ?_ ?_ ?_
 ·dsimp only[wE,wA,wV,wG];show bp ?_;rw[nl];exact#[rfl,gV,gV,rfl,ac,.push]
 ·rintro i Z S1 hi ⟨a4,a5,rfl,e1,k1⟩ Q2 hn _;clear hK;have hi':i < ps.length:=∅
  have hp:ps[i]?=ba ps[i]:=JB hi';have hpu:ps[i] < u.length:=hps _ (Ko hi');show st ?_;dsimp only[wS,wE,wV,wG,JE];show ag (JU i) (by rw[JN]; exact nY hp) ?_
  show st ?_;left;show#[bv e1,ag (JU _) (mr hpu) (ag #v[] rfl ?_)]
  show sP (aB (ps.take i)) (λj ys Z2 S2=>(∃a1,Z2=[gV,a1,ba (.int ps[i]),ba R,ba (aK u)])/\ys=((ps.take i).take j).map (λq=>W.int (cN bs u ps[i] q))/\Ka S1 S2) rfl rfl rfl ?_ ?_ ?_
  ·dsimp only[wE,wP,wV,wG,wN];show ab (a:=(.tup (aB (ps.take i)),S1)) ?_ #[rfl,#[gV,rfl],rfl,.refl];simp only[lM,kU];unfold aB;rw[Oh]
  ·rintro j w ys Z2 S2 hw ⟨⟨a1,rfl⟩,rfl,k2⟩;have hjl:j < (ps.take i).length:=by
    have:=(JK.mp hw).1;unfold aB at this
    rwa [Jl]at this
   have hq:(ps.take i)[j]?=ba (ps.take i)[j]:=JB hjl;cases(nY hq).symm.trans hw;have hj:j < i:=by rw[Ks]at hjl; omega
   have eq:(ps.take i)[j]=ps[j]'∅:=Ob
   generalize(ps.take i)[j]=q at hq eq ⊢;show ab (show gA (.nm 1) (.int (q:JG)) [gV,a1,ba (.int ps[i]),ba R,ba (aK u)] S2=ba ([gV,ba (.int (q:JG)),ba (.int ps[i]),ba R,ba (aK u)],S2)from rfl) ?_
   dsimp only[gM,wC,wE,wA,wV,wG];subst hR0;show#[λ_=>u7 (d:=d) G hb hl hu hpu (by rw[eq]; exact hps _ (Ko _)) ?_ #[#[_,rfl],?_,k2],λz=>by cases z]
   ·rw[eq];intro h;have:=(Mh hnd).mp h;omega
   ·rw[KH,hq];simp
  ·rintro ys Z2 S2 ⟨_,rfl,k2⟩;rw[show(aB (ps.take i)).length=(ps.take i).length from Jl ..,KR]
   show#[few (by rw[Jl,Ks]; omega),dt ac ?_]
   have e2:=aj (u:=O.lst ((ps.take i).map λq=>W.int (cN bs u ps[i] q))) (k2.get _ _ e1)
   show eR e2 (by rw[Jl,Ks]; omega) (a9 (hn _ _ #[_,_,rfl,?_,((k1.trans k2).trans .push).late (Jy _)]))
   rw[aX e2];have ep:(aw bs u ps)[i]?=ba ((u.getD ps[i] (0,[])).1,(ps.take i).map λq=>cN bs u ps[i] q):=by
    unfold aw;rw[Jv,MR hi',Kc,getD_some hp]
   rw[KH,ep];simp[bU,Qs]
 ·rintro Z S1 ⟨a4,a5,rfl,e1,k1⟩;rw[JN,<- bq bs u ps,KR]at e1;show hK _ _ (st ?_);left;exact dt e1 (k _ k1)
def jS (G:Gen defs)(k:Q (.ref S.length,S++[.lst (az.map λt=>W.tup (aB t))])):wO (aE (al defs fuel (d+1)) "_law_turns" 0 [] S) Q:=by
 show am G.turns rfl rfl λQ' hR=>?_
 dsimp only[gk];show st ?_;dsimp only[wS,wE,wA];exact hR _ _ k
def d4 (bt:Jr->Jr->J1):∀n:Jr,argBest bt n<=n
 | 0=>Jy _
 | n+1=>by have:=d4 bt n; simp only[argBest]; split <;> omega
def iR (G:Gen defs){m0 b0:W}{ns:Jj JA}{bs:Jj JG}{a:Jr}{u:Wd}(hb:GoodB bs)(hl:ns.length=bs.length)(hu:GoodW a bs.length u)(h3:u.length=3)(k:∀S',Ka S S'->Q (aK (hG bs u),S')) :
  wO (aE (al defs fuel (d+3)) "_law_figure" 2 [.tup [m0,.tup (Jx ar ns bs),b0],aK u] S) Q:=by
 show am G.figure rfl rfl λQ' hR=>?_
 replace k:∀S',Ka S S'->Q' (.rt (aK (hG bs u)),S'):=λS' a=>hR _ _ (k S' a)
 clear hR;change wZ _ _ dz [ba (.tup [m0,.tup (Jx ar ns bs),b0]),ba (aK u)] S Q';generalize hR0:W.tup [m0,.tup (Jx ar ns bs),b0]=R;dsimp only[dz];show st ?_;dsimp only[wS,wE,wA];show sQ S.length (az.map λt=>W.tup (aB t)) (λi ys Z2 S2=>(∃a1,Z2=[gV,a1,ba R,ba (aK u)])/\ys=((az.take i).map λt=>aK (aw bs u t))/\Ka (S++[.lst (az.map λt=>W.tup (aB t))]) S2) rfl rfl rfl ?_ ?_ ?_ ?_
 ·dsimp only[wE,wA];exact jS (d:=d+1) G #[rfl,#[gV,rfl],rfl,.refl]
 ·rintro i ys Z2 S2 ⟨_,_,k2⟩;exact k2.get _ _ ac
 ·rintro i w ys Z2 S2 hw ⟨⟨a1,rfl⟩,rfl,k2⟩;rw[Jv,Jo]at hw;obtain⟨t,ht,rfl⟩:=hw;have ht3:(∀p∈t,p < 3)/\t.Nodup/\t.length < 1000:=by
   have:∀t∈az,(∀p∈t,p < 3)/\t.Nodup/\t.length < 1000:=by decide
   exact this t (JD ht)
  show ab (show gA (.nm 1) (.tup (aB t)) [gV,a1,ba R,ba (aK u)] S2=ba ([gV,ba (.tup (aB t)),ba R,ba (aK u)],S2)from rfl) ?_
  dsimp only[gM,wC,wE,wA,wV,wG];subst hR0;show#[λ_=>yi (d:=d) G hb hl hu (λp hp=>by rw[h3]; exact ht3.1 p hp) ht3.2.1 ht3.2.2 λS3 k3=>#[#[_,rfl],?_,k2.trans k3],λz=>by cases z]
  rw[KH,ht];simp
 ·rintro ys Z2 S2 ⟨_,rfl,k2⟩;have e:((az.take (az.map λt=>W.tup (aB t)).length).map λt=>aK (aw bs u t))=(az.map (aw bs u)).map aK:=by
   rw[Jl,KR,KL]; rfl
  rw[e];show#[d0 rfl,ab (a:=(aK (hG bs u),S2++[.lst ((az.map (aw bs u)).map aK)])) ?_ (k _ ((Ka.push.trans k2).trans .push))]
  (dsimp only[Bi.fn,vw,wI]; simp only[ap ac,ye])
  rw[JO #[by have:=gE (az.map (aw bs u)); unfold dv; omega,eS _]]
  unfold hG;have hlt:je ((az.map (aw bs u)).map bX) < (az.map (aw bs u)).length:=Nat.lt_of_le_of_lt (d4 _ _) (by decide:5 < 6)
  rw[Jv,au (d:=[]) hlt];rfl
end
abbrev ak (xs:Jj JG):Jj W:=xs.map W.int
abbrev bf (us:Jj Wd):Jj Wd:=d7 (lT (us.map bX)) [] us
def pT {α β:Type}{lt:Jr->Jr->J1}{d:α}{d':β}{f:α->β}{us:Jj α}:d7 lt d' (us.map f)=(d7 lt d us).map f:=by
 unfold d7;rw[Jl];split
 ·rfl
 ·rw[KL];show K7 λi hi=>?_
  have hl:i < us.length:=nC ∅ i hi
  simp[hl]
def rC {S:aa}{x:W}{us:Jj Wd}(h:dj S x=ba (us.map aK))(h64:us.length < 64)(hne:∀u∈us,u≠[]):iE [x] S=ba (.ref S.length,S++[.lst ((bf us).map aK)]):=by
 have ok:nB (us.map bX)=true:=by
  unfold nB;simp only[Js,Lw,JW,Jl];exact#[#[h64,by have:=gE us; unfold dv; omega],.inr #[Ee us hne,eS us]]
 simp only[iE,h,ye];rw[JO ok,pT (d:=[])];rfl
abbrev aS (ms ns:Jj JA)(bs:Jj JG)(us:Jj Wd):W:=.tup [.tup (ms.map W.str),.tup (Jx ar ns bs),.tup (us.map aK)]
structure GoodN (ms ns:Jj JA):Prop where
 name:∀y∈ms++ns,Name y
 nd:(eM++(ms++ns)).Nodup
def GoodW.nil {a n:Jr}:GoodW a n []:=#[λk p h=>(by simp at h),λk p h=>(by simp at h),λk p h=>(by simp at h)]
def GoodW.snoc {a n:Jr}{u:Wd}{m:JG}{ws:Jj JG}(h:GoodW a n u)(h1:0<=m/\m < a)(h2:ws.length=u.length)(h3:∀w∈ws,0<=w/\w < (n:JG)):GoodW a n (u++[(m,ws)]):=by
 have key:∀(k:Jr) (p:Pt),(u++[(m,ws)])[k]?=ba p->u[k]?=ba p\/(k=u.length/\p=(m,ws)):=λk p e=>by
  rcases Qu k u.length with hk|hk
  ·rw[Kh hk]at e; exact .inl e
  ·rw[Lp hk]at e;have:k - u.length=0:=by
    have:=(JK.mp e).1;simp at this; omega
   rw[this]at e;cases e;exact .inr #[∅,rfl]
 show#[λk p e=>?_,λk p e=>?_,λk p e=>?_] <;> rcases key k p e with e|⟨rfl,rfl⟩
 ·exact h.mark k p e
 ·exact h1
 ·exact h.len k p e
 ·exact h2
 ·exact h.way k p e
 ·exact h3
def GoodB.inv {bs:Jj JG}(h:GoodB bs):∀k:Jr,k < bs.length->bs.getD (bs.getD k 0).toNat 0=k:=by
 rcases h with rfl|rfl|rfl|rfl|rfl|rfl <;> decide
def GoodB.at {bs:Jj JG}(h:GoodB bs){x:JG}(h0:0<=x)(h1:x < bs.length):bs[x.toNat]?=ba (bs.getD x.toNat 0)/\0<=bs.getD x.toNat 0/\bs.getD x.toNat 0 < bs.length:=by
 obtain⟨b,h2,h3⟩:=h.rng x.toNat ∅
 rw[getD_some h2];exact#[h2,h3]
def rD {S:aa}{x:W}{us:Jj Wd}{Q:QW}(h:dj S x=ba (us.map aK))(h64:us.length < 64)(hne:∀u∈us,u≠[])(q:Q (.ref S.length,S++[.lst ((bf us).map aK)])):wO (Bi.sorted.fn [x] S) Q:=by
 show ab ?_ q;exact rC h h64 hne
abbrev yj:Jj (Jr×Jr):=[(1,1),(2,1),(3,1),(1,2),(1,2),(2,2),(2,2),(3,2),(1,3),(1,3),(2,3)]
def yk:∀p∈yj,1<=p.1/\p.1<=3/\1<=p.2/\p.2<=3/\p.1*p.2<=6:=by decide
abbrev kY:Jr->Jj (Jj JG)
 | 1=>[[0]]
 | 2=>[[0,1],[1,0]]
 | _=>[[0,1,2],[1,0,2],[0,2,1]]
def ym:∀n:Jr,1<=n->n<=3->(∀b∈kY n,GoodB b/\b.length=n)/\0 < (kY n).length/\(kY n).length<=3
 | 1,_,_=>#[λb h=>by cases JH.mp h; exact#[.inl rfl,rfl],#v[],#v[]]
 | 2,_,_=>#[λb h=>by
   rcases JC.mp h with rfl|h
   ·exact#[.inr (.inl rfl),rfl]
   ·cases JH.mp h; exact#[.inr (.inr (.inl rfl)),rfl],#v[],#v[]]
 | 3,_,_=>#[λb h=>by
   rcases JC.mp h with rfl|h
   ·exact#[.inr (.inr (.inr (.inl rfl))),rfl]
   ·rcases JC.mp h with rfl|h
    ·exact#[.inr (.inr (.inr (.inr (.inl rfl)))),rfl]
    ·cases JH.mp h; exact#[.inr (.inr (.inr (.inr (.inr rfl)))),rfl],#v[],#v[]]
 | 0,h,_=>absurd h #v[]
 | n+4,_,h=>absurd h ∅
section
variable{defs:Jj (JA×Df)}{fuel d:Jr}{S:aa}{r:Jr}{Q:QW}
def sY (G:Gen defs)(hf:Fl S r)(k:∀(a n:Jr) S',1<=a->a<=3->1<=n->n<=3->a*n<=6->Fl S' r->Kp r S S'->Q (.tup [.int a,.int n],S')) :
  wO (aE (al defs fuel (d+2)) "_law_sizes" 1 [.ref r] S) Q:=by
 show am G.sizes rfl rfl λQ' hR=>?_
 change wZ _ _ eh [ba (.ref r),gV] S Q';dsimp only[eh];show st ?_;dsimp only[wS,wE,wA,JE];show st ?_;left;show aV (d:=d) G.pick (hf.ka .push) #v[] #v[] λv S1 v0 v1 f1 k1=>?_
 have e:=k1.get _ _ (Li hf.lt) ac;obtain⟨p,hp,ep⟩:=kS (f:=λp:Jr×Jr=>W.tup [.int p.1,.int p.2]) (xs:=yj) (i:=v.toNat) (by change v.toNat < 11; omega)
 obtain⟨a1,a3,n1,n3,an⟩:=yk p hp;exact d3 e v0 ep (hR _ _ (k _ _ _ a1 a3 n1 n3 an f1 (Kp.push.trans k1)))
def sZ (G:Gen defs){n:Jr}(hf:Fl S r)(h1:1<=n)(h3:n<=3)(k:∀(bs:Jj JG) S',GoodB bs->bs.length=n->Fl S' r->Kp r S S'->Q (.tup (ak bs),S')) :
  wO (aE (al defs fuel (d+2)) "_law_backs" 2 [.ref r,.int n] S) Q:=by
 show am G.backs rfl rfl λQ' hR=>?_
 replace k:∀(bs:Jj JG) S',GoodB bs->bs.length=n->Fl S' r->Kp r S S'->Q' (.rt (.tup (ak bs)),S'):=λz S' a b c e=>hR _ _ (k z S' a b c e)
 clear hR;change wZ _ _ eg [ba (.ref r),ba (.int n),gV] S Q';dsimp only[eg];nofun
 left;dsimp only[sM,aC];obtain⟨hg,g0,g3⟩:=ym n h1 h3;have fin:∀(t:Jr) (S1:aa),S.length<=t->S1[t]?=ba (.lst ((kY n).map λb=>.tup (ak b)))->Ka S S1->K [ba (.ref r),ba (.int n),ba (.ref t)] S1:=by
  intro t S1 ht et ka;show hK _ _ (st ?_);left;show gm et ?_;rw[Jl];show aV (d:=d) G.pick (hf.ka ka) ∅ ∅ λv S2 v0 v1 f2 k2=>?_
  have e2:=k2.get _ _ (by have:=hf.lt; omega) et
  obtain⟨b,hb,eb⟩:=kS (f:=λb:Jj JG=>W.tup (ak b)) (xs:=kY n) (i:=v.toNat) ∅
  exact d3 e2 v0 eb (k b S2 (hg b hb).1 (hg b hb).2 f2 ((ka.kp r).trans k2))
 clear hK g0 g3 hg;rcases(show n=1\/n=2\/n=3 by omega)with rfl|rfl|rfl
 ·exact d8 (i:=0) ac rfl (fin _ _ (Jy _) (aj (aj (aj ac))) (Ka.push.trans (Ka.push.trans (Ka.push.trans .push))))
 ·exact d8 (i:=1) ac rfl (fin _ _ (by simp) (aj (aj ac)) (Ka.push.trans (Ka.push.trans (Ka.push.trans .push))))
 ·exact d8 (i:=2) ac rfl (fin _ _ (by simp only[Jw]; omega) (aj ac) (Ka.push.trans (Ka.push.trans (Ka.push.trans .push))))
def gF (hfu:20 < fuel)(G:Gen defs){a:Jr}{bs:Jj JG}{x:W}{us:Jj Wd}(hf:Fl S r)(ha:a<=3)(hb:bs.length<=3)(hx:∀S',Kp r S S'->dj S' x=ba (us.map aK))(h64:us.length < 64)(hne:∀u∈us,u≠[])
  (k:∀(ms ns:Jj JA) S',ms.length=a->ns.length=bs.length->GoodN ms ns->Fl S' r->Kp r S S'->Q (aS ms ns bs (bf us),S')) :
  wO (aE (al defs fuel (d+5)) "_law_rule_of" 4 [.ref r,.int a,.tup (ak bs),x] S) Q:=by
 show am G.rule_of rfl rfl λQ' hR=>?_
 replace k:∀(ms ns:Jj JA) S',ms.length=a->ns.length=bs.length->GoodN ms ns->Fl S' r->Kp r S S'->Q' (.rt (aS ms ns bs (bf us)),S'):=λz y S' a b c e f=>hR _ _ (k z y S' a b c e f)
 clear hR;change wZ _ _ cZ [ba (.ref r),ba (.int a),ba (.tup (ak bs)),ba x,gV,gV] S Q';have hbl:(ak bs).length=bs.length:=Jl ..;dsimp only[cZ];nofun
 left;show bp ?_;rw[hbl];dsimp only[cu,aC];show Bl (d:=d) (m:=a+bs.length) hfu G hf ∅ λys S1 q2 q3 q4 f1 k1=>hK _ _ ?_
 clear hK K;have hzl:(Jx ar (ys.drop a) bs).length=bs.length:=by
  rw[KA,LB]; omega
 nofun
 dsimp only[wS,wE,wA,JE];show dy (bs.length:JG) (λk zs Z2 S2=>(∃a1,Z2=[gV,a1,ba (.tup (ak bs)),ba (.int a),ba (.tup (ys.map W.str))])/\zs=((Jx ar (ys.drop a) bs).take k)/\S2=S1) rfl rfl rfl ∅ ?_ ?_ ?_
 ·dsimp only[wE,wA,wV,wG];show bp ?_;rw[hbl];exact#[rfl,#[gV,rfl],rfl,rfl]
 ·rintro i zs Z2 S2 hi ⟨⟨a1,rfl⟩,rfl,rfl⟩;clear hK;have hi':i < bs.length:=∅
  have h1:a+i < ys.length:=∅
  dsimp only[gM,wC,wE,wA,wV,wG,JE,cu,aC];show#[λ_=>ag ∅ (w:=.str ys[a+i]) ?_ (ag ∅ (w:=.int bs[i]) ?_ #[#[_,rfl],?_,rfl]),λz=>by cases z]
  ·rw[show((a:JG)+(i:JG)).toNat=a+i by omega,Jv,JB h1]; rfl
  ·unfold ak;rw[JN,Jv,JB hi']; rfl
  ·have ez:(Jx ar (ys.drop a) bs)[i]?=ba (ar ys[a+i] bs[i]):=nX (by rw[P6]; exact JB h1) (JB hi')
   rw[KH,ez];rfl
 ·rintro zs Z2 S2 ⟨_,rfl,rfl⟩;rw[JN,<- hzl,KR];show#[few ∅,dt ac (hK _ _ ?_)]
  clear hK K;show st ?_;dsimp only[wS,wE,wA,wP,wV,wG,wN];have hs:lM (.tup (ys.map W.str)) gV (ba (a:JG)) (S2++[O.lst (Jx ar (ys.drop a) bs)])=ba (.tup ((ys.take a).map W.str),S2++[O.lst (Jx ar (ys.drop a) bs)]):=by
   simp only[lM,kU];rw[Oh]
  show ab hs (rD (hx _ (k1.trans .push)) h64 hne (dt ac ?_));show k (ys.take a) (ys.drop a) _ ?_ ?_ #[?_,?_] ((f1.ka .push).ka .push) (k1.trans (Kp.push.trans .push))
  ·rw[Ks]; omega
  ·rw[LB]; omega
  ·rw[Mw]; exact q3
  ·rw[Mw]; exact q4
def ft (hfu:20 < fuel)(G:Gen defs){a:Jr}{bs:Jj JG}(hf:Fl S r)(ha:a<=3)(hb:bs.length<=3)
  (k:∀(ms ns:Jj JA) S',ms.length=a->ns.length=bs.length->GoodN ms ns->Fl S' r->Kp r S S'->Q (aS ms ns bs [],S')) :
  wO (aE (al defs fuel (d+5)) "_law_rule_of" 4 [.ref r,.int a,.tup (ak bs),.tup []] S) Q:=
 gF hfu G hf ha hb (us:=[]) (λ_ _=>rfl) #v[] (λ_ h=>nomatch h) k
def draws {M:JA->FF}{Z:Fm}{elt e:E}{cap:Jj (Jq Jr)}{n i:Jr}{R:Fm}(oe:bV elt=true)(oi:bV e=true)(h1:i<=1000)(hc:cL cap Z=gV::gV::R)(hf:Fl S r)(he:∀Q:QW,Q (.int i,S)->wE M e Z S Q)
  (hp:∀(a:Jq W) (S1:aa) (Q:QW),Fl S1 r->(∀v S',0<=v->v < (n:JG)->Fl S' r->Kp r S1 S'->Q (.int v,S'))->wE M elt (gV::a::R) S1 Q)
  (k:∀(vs:Jj JG) S',vs.length=i->(∀w∈vs,0<=w/\w < (n:JG))->Fl S' r->Kp r S S'->Q (.ref S'.length,S'++[.lst (ak vs)])) :
  Wp (ay M (.comp elt (.nm 1) (.rng #v[e]) .nil cap) Z S) Q:=by
 show dy (i:JG) (λj ys Z2 S3=>(∃a1,Z2=gV::a1::R)/\(∃vs:Jj JG,ys=ak vs/\vs.length=j/\∀w∈vs,0<=w/\w < (n:JG))/\Fl S3 r/\Kp r S S3) oi oe rfl ∅ (he _ #[rfl,#[gV,hc],#[[],rfl,rfl,λ_ h=>nomatch h],hf,.refl]) ?_ ?_
 ·rintro j ys Z2 S3 hj ⟨⟨a1,rfl⟩,⟨vs,rfl,hvl,hv⟩,f3,k3⟩;show#[λ_=>hp _ _ _ f3 λv S4 v0 v1 f4 k4=>#[#[_,rfl],#[vs++[v],(J0 (l₁:=vs) (l₂:=[v])).symm,by rw[Jw,hvl]; rfl,λw hw=>?_],f4,k3.trans k4],λz=>by cases z]
  rcases Kj.mp hw with h|h
  ·exact hv w h
  ·rw[JH.mp h]; exact#[v0,v1]
 ·rintro ys Z2 S3 ⟨_,⟨vs,rfl,hvl,hv⟩,f3,k3⟩;rw[JN]at hvl;exact#[few (by rw[show(ak vs).length=vs.length from Jl ..]; omega),k vs S3 hvl hv f3 k3]
def iS (G:Gen defs){a n:Jr}(hf:Fl S r)(ha:0 < a)(ha3:a<=3)(hn:0 < n)(hn3:n<=3)(k:∀(u:Wd) S',u.length=3->GoodW a n u->Fl S' r->Kp r S S'->Q (aK u,S')) :
  wO (aE (al defs fuel (d+2)) "_law_free_three" 3 [.ref r,.int a,.int n] S) Q:=by
 show am G.free_three rfl rfl λQ' hR=>?_
 replace k:∀(u:Wd) S',u.length=3->GoodW a n u->Fl S' r->Kp r S S'->Q' (.rt (aK u),S'):=λz S' a b c e=>hR _ _ (k z S' a b c e)
 clear hR;change wZ _ _ bR [ba (.ref r),ba (.int a),ba (.int n),gV,gV] S Q';dsimp only[bR];have hrt:=hf.lt;show st ?_;dsimp only[wS,wE,wA,JE];nofun
 show iO 3 (λk Z S'=>∃a4 u,Z=[ba (.ref r),ba (.int a),ba (.int n),ba (.ref S.length),a4]/\S'[S.length]?=ba (.lst (u.map bU))/\u.length=k/\GoodW a n u/\Fl S' r/\Kp r S S') rfl rfl #v[] #[rfl,gV,[],rfl,ac,rfl,.nil,hf.ka .push,.push] ?_ ?_
 ·rintro i Z S1 hi ⟨a4,u,rfl,e1,hul,hu,f1,k1⟩ Q2 hn' _;clear hK;show st ?_;left;show#[bv e1,aV (d:=d) G.pick f1 ∅ ∅ λv S2 v0 v1 f2 k2=>?_]
  have e2:=k2.get _ _ ∅ e1
  show draws (n:=n) (i:=i) (R:=[ba (.ref r),ba (.int n)]) rfl rfl ∅ rfl f2 (λQ q=>q) (λa S1 Q f q=>aV (d:=d) G.pick f ∅ ∅ q) λvs S3 hvl hv f3 k3=>?_
  have e3:=aj (u:=O.lst (ak vs)) (k3.get _ _ ∅ e2)
  show dt ac (eR e3 (by rw[Jl]; omega) (a9 (hn' _ _ #[_,u++[(v,vs)],rfl,?_,by rw[Jw,hul]; rfl,hu.snoc #[v0,v1] (hvl.trans hul.symm) hv,(f3.ka .push).own hrt,(k1.trans (k2.trans (k3.trans .push))).late (Jy _)])))
  rw[aX e3,J0]; rfl
 ·rintro Z S1 ⟨a4,u,rfl,e1,hul,hu,f1,k1⟩;show hK _ _ (st ?_);left;exact dt e1 (k u _ hul hu f1 k1)
end
abbrev ec (n:Jr):Jj JG:=(Kb n).map λ(k:Jr)=>(k:JG)
abbrev pU (a n:Jr):Jj Wd:=(ec a).flatMap λm0=>(ec a).flatMap λm1=>(ec a).flatMap λm2=>(ec n).flatMap λw1=>(ec n).flatMap λw2=>(ec n).map λw3=>[(m0,[]),(m1,[w1]),(m2,[w2,w3])]
abbrev aM (a:Jr)(bs:Jj JG):Jj Wd:=((pU a bs.length).map (hG bs)).eraseDups
def cC {n:Jr}{x:JG}(h0:0<=x)(h1:x < n):x∈ec n:=JI.mpr #[x.toNat,Kz.mpr ∅,∅]
def u8 {a n:Jr}{u:Wd}(h:GoodW a n u)(h3:u.length=3):u∈pU a n:=by
 match u,h3 with
 | [(m0,w0),(m1,w1),(m2,w2)],_=>
  have l0:=h.len 0 _ rfl;have l1:=h.len 1 _ rfl;have l2:=h.len 2 _ rfl;simp only at l0 l1 l2
  match w0,l0 with
  | [],_=>
   match w1,l1 with
   | [x],_=>
    match w2,l2 with
    | [y,z],_=>
     have a0:=h.mark 0 _ rfl;have a1:=h.mark 1 _ rfl;have a2:=h.mark 2 _ rfl;have b1:=h.way 1 _ rfl x (by simp)
     have b2:=h.way 2 _ rfl y (by simp)
     have b3:=h.way 2 _ rfl z (by simp)
     unfold pU;simp only[Np,JI];exact#[m0,cC a0.1 a0.2,m1,cC a1.1 a1.2,m2,cC a2.1 a2.2,x,cC b1.1 b1.2,y,cC b2.1 b2.2,z,cC b3.1 b3.2,rfl]
def Bm {a:Jr}{bs:Jj JG}{u:Wd}(h:GoodW a bs.length u)(h3:u.length=3):hG bs u∈aM a bs:=by
 unfold aM;rw[NU];exact JI.mpr #[u,u8 h h3,rfl]
structure SizeOk (a:Jr)(bs:Jj JG):Prop where
 pos:0 < a
 good:GoodB bs
 most:a*bs.length<=6
 a3:a<=3
def SizeOk.n3 {a:Jr}{bs:Jj JG}(h:SizeOk a bs):0 < bs.length/\bs.length<=3:=by
 rcases h.good with rfl|rfl|rfl|rfl|rfl|rfl <;> decide
def Iv:(aM 1 [0]).length < 64/\(aM 2 [0]).length < 64/\(aM 3 [0]).length < 64:=by decide +kernel
def Hk:(aM 1 [0,1]).length < 64/\(aM 2 [0,1]).length < 64/\(aM 1 [1,0]).length < 64/\(aM 2 [1,0]).length < 64:=by decide +kernel
def Iw:(aM 1 [0,1,2]).length < 64/\(aM 1 [1,0,2]).length < 64/\(aM 1 [0,2,1]).length < 64:=by decide +kernel
def Ix:(aM 3 [0,1]).length < 64:=by decide +kernel
def Iy:(aM 3 [1,0]).length < 64:=by decide +kernel
def Iz:(aM 2 [0,1,2]).length < 64:=by decide +kernel
def IA:(aM 2 [1,0,2]).length < 64:=by decide +kernel
def IB:(aM 2 [0,2,1]).length < 64:=by decide +kernel
def jT {a:Jr}{bs:Jj JG}(h:SizeOk a bs):(aM a bs).length < 64:=by
 obtain⟨h0,hb,hm,h3⟩:=h;have ha:a=1\/a=2\/a=3:=∅
 rcases hb with rfl|rfl|rfl|rfl|rfl|rfl <;> rcases ha with rfl|rfl|rfl
 ·exact Iv.1
 ·exact Iv.2.1
 ·exact Iv.2.2
 ·exact Hk.1
 ·exact Hk.2.1
 ·exact Ix
 ·exact Hk.2.2.1
 ·exact Hk.2.2.2
 ·exact Iy
 ·exact Iw.1
 ·exact Iz
 ·simp at hm
 ·exact Iw.2.1
 ·exact IA
 ·simp at hm
 ·exact Iw.2.2
 ·exact IB
 ·simp at hm
def yn (bs:Jj JG)(u:Wd):∃t∈az,hG bs u=aw bs u t:=by
 have h7:(az.map (aw bs u)).length=6:=by rw[Jl]; rfl
 have h8:((az.map (aw bs u)).map bX).length=6:=by rw[Jl,h7]
 have hlt:je ((az.map (aw bs u)).map bX) < (az.map (aw bs u)).length:=by
  unfold je;have h6:=d4 (lT ((az.map (aw bs u)).map bX)) (((az.map (aw bs u)).map bX).length - 1);rw[h7]; omega
 unfold hG;rw[getD_some (JB hlt)];obtain⟨t,ht,e⟩:=JI.mp (Ko hlt);exact#[t,ht,e.symm]
def Bn (bs:Jj JG)(u:Wd):hG bs u≠[]:=by
 obtain⟨t,ht,e⟩:=yn bs u;rw[e];have:∀t∈az,t≠[]:=by decide
 have h:=this t ht;intro z;have hl:(aw bs u t).length=t.length:=by simp[aw]
 rw[z]at hl;exact h (Mm.mp hl.symm)
def pV:∀ {xs ys:Jj JG},xs.map T.int=ys.map T.int->xs=ys
 | [],[],_=>rfl
 | [],_::_,h=>by cases h
 | _::_,[],h=>by cases h
 | x::xs,y::ys,h=>by
  rw[JS,JS]at h;injection h with h1 h2
  injection h1 with h1
  rw[h1,pV h2]
def Bo {p q:Pt}(h:gN p=gN q):p=q:=by
 unfold gN at h;injection h with h
 injection h with h1 h2
 injection h1 with h1
 injection h2 with h2 _
 injection h2 with h2
 exact SW h1 (pV h2)
def fu {u v:Wd}(h:bX u=bX v):u=v:=by
 unfold bX at h;injection h with h
 have inj:∀ {u v:Wd},u.map gN=v.map gN->u=v:=by
  intro u
  induction u with
  | nil=>intro v h; cases v with
   | nil=>rfl
   | cons _ _=>cases h
  | cons p u ih=>intro v h; cases v with
   | nil=>cases h
   | cons q v=>
    rw[JS,JS]at h;injection h with h1 h2
    rw[Bo h1,ih h2]
 exact inj h
def mw {U:Jj (T×W)}{k:T}{v:W}:(eF U k v).map (·.1)=if k∈U.map (·.1)then U.map (·.1)else U.map (·.1)++[k]:=by
 have hany:(U.any λp=>decide (p.1=k))=decide (k∈U.map (·.1)):=by
  induction U with
  | nil=>rfl
  | cons p U ih=>
   rw[LU,ih,JS]
   by_cases e:p.1=k
   ·subst e; simp
   ·rw[J4 e,Od];have:(k∈p.1::U.map (·.1))=(k∈U.map (·.1)):=by simp[Ne.symm e]
    simp only[this]
 unfold eF;rw[hany]
 by_cases h:k∈U.map (·.1)
 ·rw[JO h,JO (J6 h),KL];show K7 λp _=>?_
  show(if p.1=k then(p.1,v)else p).1=p.1
  split <;> rfl
 ·rw[JZ h,JZ (by simpa using h),J0]
  rfl
structure FigD (L:Jj Wd)(U:Jj (T×W))(fs:Jj Wd):Prop where
 keys:U.map (·.1)=fs.map bX
 nd:fs.Nodup
 mem:∀f∈fs,f∈L
def FigD.nil {L:Jj Wd}:FigD L [] []:=#[rfl,Pb,λ_ h=>nomatch h]
def FigD.len {L:Jj Wd}{U:Jj (T×W)}{fs:Jj Wd}(h:FigD L U fs):U.length=fs.length/\fs.length<=L.length:=by
 have:=congrArg O3 h.keys;rw[Jl,Jl]at this;exact#[this,gq fs L h.nd h.mem]
def FigD.put {L:Jj Wd}{U:Jj (T×W)}{fs:Jj Wd}{f:Wd}{v:W}(h:FigD L U fs)(hf:f∈L):∃fs',FigD L (eF U (bX f) v) fs':=by
 by_cases hm:f∈fs
 ·show#[fs,?_,h.nd,h.mem];rw[mw,JO (by rw[h.keys]; exact JI.mpr #[f,hm,rfl]),h.keys]
 ·show#[fs++[f],?_,?_,λg hg=>?_]
  ·rw[mw,JZ,h.keys,J0]
   ·rfl
   ·rw[h.keys];intro z;obtain⟨g,hg,e⟩:=JI.mp z;exact hm (fu e ▸ hg)
  ·rw[KT];show#[h.nd,by simp,λa ha b hb e=>?_]
   rw[JH.mp hb]at e;exact hm (e ▸ ha)
  ·rcases Kj.mp hg with h'|h'
   ·exact h.mem g h'
   ·rw[JH.mp h']; exact hf
def FigD.items {S:aa}{t:Jr}{L:Jj Wd}{U:Jj (T×W)}{fs:Jj Wd}(h:FigD L U fs)(e:S[t]?=ba (.dic U)):dj S (.ref t)=ba (fs.map aK):=by
 simp only[dj,nU e,cW e,Kc];congr 1;have:(U.map (·.1)).map T.w=(fs.map bX).map T.w:=by rw[h.keys]
 rw[KL,KL]at this
 calc U.map (λp=>p.1.w)=U.map (T.w∘λx=>x.1):=rfl
  _=fs.map (T.w∘bX):=this
  _=fs.map aK:=by
   show K7 λf _=>?_
   exact yc f
def pW {a:Jr}{bs:Jj JG}{f:Wd}(h:f∈aM a bs):f≠[]:=by
 unfold aM at h;rw[NU]at h;obtain⟨u,_,rfl⟩:=JI.mp h;exact Bn bs u
def GM {S:aa}{t:Jr}{U:Jj (T×W)}{u:Wd}{v:W}(h:S[t]?=ba (.dic U))(hl:U.length < sizeLine):iD (.ref t) (aK u) v S=ba (S.set t (.dic (eF U (bX u) v))):=by
 have hk:=Ec u;unfold aK at hk ⊢
 (dsimp only[iD,nw]; simp only[h,hk])
 rw[JO hl]
structure RuleAt (a:Jr)(bs:Jj JG)(ms ns:Jj JA)(gs:Jj Wd):Prop where
 size:SizeOk a bs
 ml:ms.length=a
 nl:ns.length=bs.length
 nm:GoodN ms ns
 nd:gs.Nodup
 mem:∀g∈gs,g∈aM a bs
abbrev cD (w:W):Prop:=∃a bs ms ns gs,w=aS ms ns bs (bf gs)/\RuleAt a bs ms ns gs
section
variable{M:JA->FF}{fuel:Jr}{Z:Fm}{S:aa}{K:Fm->aa->Prop}{Q:QO}
def iT {i0:Jr}{e:E}{b:Ss}(oe:bV e=true)(ok:fL b=true)(he:wE M e Z S λp=>∃(j:JG) (I:Jr->Fm->aa->Prop),p.1=.int j/\(-(2 ^ 62)<=j/\j < 2 ^ 62)/\I 0 Z p.2/\
  (∀(i:Jr) (Z:Fm) (S:aa),(i:JG) < j->I i Z S->sO M fuel b (Z.set i0 (ba (.int i))) S (I (i+1)) Q)/\∀Z S,I j.toNat Z S->K Z S):Wp (fK M fuel (.loop (.nm i0) (.rng #v[e]) b) Z S) (oB K Q):=by
 obtain⟨w,S1,e1,j,I,rfl,hj,h0,hs,hend⟩:=aR oe he;have hl:(cK 0 j.toNat).length=j.toNat:=by simp[cK]
 show fg (mi:=.its (cK 0 j.toNat)) (S1:=S1) (xs:=cK 0 j.toNat) I ok ?_ (λ_ _ _ _=>rfl) rfl h0 (λi w Z S hw hI=>?_) λZ S hI=>hend Z S (hl ▸ hI)
 ·(dsimp only[gb,cr,bK,eG,q8]; simp only[e1])
  rw[JO hj]
 ·rw[dS]at hw;split at hw
  ·rename_i hk;cases hw;rw[OG];exact hs i Z S ∅ hI
  ·cases hw
def d6 {tg:Tg}{e:E}{b:Ss}(oe:bV e=true)(ok:fL b=true)(he:wE M e Z S λp=>∃(t:Jr) (xs:Jj W) (I:Jr->Fm->aa->Prop),p.1=.ref t/\I 0 Z p.2/\(∀i Z S,I i Z S->S[t]?=ba (.lst xs))/\
  (∀(i:Jr) (w:W) (Z:Fm) (S:aa),xs[i]?=ba w->I i Z S->wO (gA tg w Z S) λq=>sO M fuel b q.1 q.2 (I (i+1)) Q)/\∀Z S,I xs.length Z S->K Z S):Wp (fK M fuel (.loop tg (.seq e) b) Z S) (oB K Q):=by
 obtain⟨w,S1,e1,t,xs,I,rfl,h0,hat,hs,hend⟩:=aR oe he;exact fg (mi:=.live t) (S1:=S1) I ok (by simp only[gb,da,e1,ap (hat _ _ _ h0)]) (λi Z S h=>by simp only[MI.at,ap (hat _ _ _ h)]) (by simp only[MI.len,ap (hat _ _ _ h0),Kc]) h0 hs hend
end
section
variable{defs:Jj (JA×Df)}{fuel d:Jr}{S:aa}{r:Jr}{Q:QW}
def tf {q:Jr}{a:Jr}{bs:Jj JG}{ms ns:Jj JA}{fs0:Jj Wd}{U:Jj (T×W)}{fs:Jj Wd}(h3:S[q]?=ba (.dic U))(h4:FigD (aM a bs) U fs)(hs:SizeOk a bs)(hml:ms.length=a)(hnl:ns.length=bs.length)(hnm:GoodN ms ns)(k:∀w S',cD w->Ka S S'->Q (w,S')) :
  wO (oz (aS ms ns bs fs0) (.int 0) S) λp=>wO (oz (aS ms ns bs fs0) (.int 1) p.2) λq'=>wO (Bi.sorted.fn [.ref q] q'.2) λs=>wO (Bi.tuple.fn [s.1] s.2) λz=>Q (.tup [p.1,q'.1,z.1],z.2):=by
 show ag #v[] rfl (ag #v[] rfl ?_)
 have hl:=h4.len;exact rD (h4.items h3) (by have:=jT hs; omega) (λf hf=>pW (h4.mem f hf)) (dt ac (k _ _ #[a,bs,ms,ns,fs,rfl,hs,hml,hnl,hnm,h4.nd,h4.mem] .push))
def tj {q:Jr}{a:Jr}{bs:Jj JG}{u:Wd}{U:Jj (T×W)}{fs:Jj Wd}{Q:aa->Prop}(h3:S[q]?=ba (.dic U))(h4:FigD (aM a bs) U fs)(hs:SizeOk a bs)(hu:GoodW a bs.length u)(hu3:u.length=3)
  (k:∀o,(∃U fs,(S.set q o)[q]?=ba (.dic U)/\FigD (aM a bs) U fs)->Q (S.set q o)):wO (iD (.ref q) (aK (hG bs u)) (.bl true) S) Q:=by
 have hl:=h4.len;have:=jT hs;obtain⟨fs',h5⟩:=h4.put (v:=.bl true) (Bm hu hu3);exact ab (GM h3 (by rw[Kq]; omega)) (k _ #[_,fs',aX h3,h5])
def rE (hfu:20 < fuel)(G:Gen defs)(hf:Fl S r)(k:∀w S',cD w->Fl S' r->Kp r S S'->Q (w,S')):wO (aE (al defs fuel (d+6)) "_law_any_rule" 1 [.ref r] S) Q:=by
 show am G.any_rule rfl rfl λQ' hR=>?_
 replace k:∀w S',cD w->Fl S' r->Kp r S S'->Q' (.rt w,S'):=λz S' a b c=>hR _ _ (k z S' a b c)
 clear hR;change wZ _ _ cz [ba (.ref r),gV,gV,gV,gV,gV] S Q';dsimp only[cz];nofun
 left;show sY (d:=d+3) G hf λa n S1 a1 a3 n1 n3 an f1 k1=>?_
 dsimp only[wU];show ab (show dR [1,2] [.int a,.int n] [ba (.ref r),gV,gV,gV,gV,gV]=ba [ba (.ref r),ba (.int a),ba (.int n),gV,gV,gV]from rfl) (hK _ _ ?_)
 clear hK K;nofun
 left;show sZ (d:=d+3) G f1 n1 n3 λbs S2 hb hbl f2 k2=>?_
 have hsz:SizeOk a bs:=#[∅,hb,by rw[hbl]; exact an,a3]
 show ft (d:=d) hfu G f2 a3 ∅ λms ns S3 hml hnl hnm f3 k3=>hK _ _ ?_
 clear hK K;have hrt:=f3.lt;replace k3:Kp r S S3:=k1.trans (k2.trans k3);clear k1 k2 f1 f2;show st ?_;dsimp only[wS,wE,JE];nofun
 show iT rfl rfl ?_;dsimp only[wE,wA,wV,wG];show aV (d:=d+4) G.pick (f3.ka .push) #v[] #v[] λv S4 v0 v9 f4 k4=>?_
 show#[v,λk Z S'=>(∃a5,Z=[ba (.ref r),ba (.int a),ba (.int n),ba (aS ms ns bs []),ba (.ref S3.length),a5])/\(∃U fs,S'[S3.length]?=ba (.dic U)/\FigD (aM a bs) U fs)/\Fl S' r/\Kp r S S',rfl,∅,#[#[gV,rfl],#[[],[],k4.get _ _ ∅ ac,.nil],f4,(k3.trans .push).trans k4],?_,?_]
 ·rintro i Z S5 hi ⟨⟨a5,rfl⟩,⟨U,fs,e5,hd⟩,f5,k5⟩ Q2 hn _;clear hK;show st ?_;left;show iS (d:=d+3) G f5 ∅ a3 ∅ n3 λu S6 hu3 hu f6 k6=>?_
  have hu:GoodW a bs.length u:=hbl.symm ▸ hu;show iR (d:=d+2) G hb hnl hu hu3 λS7 k7=>?_
  have e7:=k7.get _ _ (k6.get _ _ ∅ e5)
  exact tj e7 hd hsz hu hu3 λo ho=>a9 (hn _ _ #[#[_,rfl],ho,(f6.ka k7).own hrt,((k5.trans k6).trans (k7.kp r)).late k3.len])
 ·rintro Z S5 ⟨⟨a5,rfl⟩,⟨U,fs,e5,hd⟩,f5,k5⟩;show hK _ _ (st ?_);left;exact tf (Q:=λp=>Q' (.rt p.1,p.2)) e5 hd hsz hml hnl hnm λw S6 hw k6=>k w S6 hw (f5.ka k6) (k5.trans (k6.kp r))
end
abbrev eN (t:JG×JG×JG):W:=.tup [.int t.1,.int t.2.1,.int t.2.2]
abbrev mx (a:Jr)(t:JG×JG×JG):Prop:=(0<=t.1/\t.1 < a)/\(0<=t.2.1/\t.2.1 < a)/\(0<=t.2.2/\t.2.2 < a)
abbrev yo (k:JG):Wd:=[(k,[]),(k,[0]),(k,[0,0])]
def IC:∀k∈ec 1,yo k∈aM 1 [0]:=by decide +kernel
def ID:∀k∈ec 2,yo k∈aM 2 [0]:=by decide +kernel
def IE:∀k∈ec 3,yo k∈aM 3 [0]:=by decide +kernel
def Bp {a:Jr}{k:JG}(h0:1<=a)(h3:a<=3)(hk:0<=k)(hk2:k < a):yo k∈aM a [0]:=by
 have ha:a=1\/a=2\/a=3:=∅
 rcases ha with rfl|rfl|rfl
 ·exact IC k (cC hk hk2)
 ·exact ID k (cC hk hk2)
 ·exact IE k (cC hk hk2)
def Bq {a b:JG}(h:yo a=yo b):a=b:=by
 unfold yo at h;injection h with h1 h2
 injection h1
def iU:GoodB [0]:=.inl rfl
def GN {S:aa}{i j:Jr}{xs:Jj W}(h1:S[i]?=ba (.lst xs))(h2:S[j]?=ba (.lst [])):bO .eq (.ref i) (.ref j) S=ba (.bl xs.isEmpty,S):=by
 show(i9 S (19+1) (.ref i) (.ref j)).map _=_
 (dsimp only[i9]; simp only[b9 h1,b9 h2])
 cases xs with
 | nil=>rfl
 | cons x xs=>rfl
def Br {S:aa}{f:JG}{ws:Jj JG}:∃b,bO .notin (.int f) (.tup (ak ws)) S=ba (.bl b,S):=by
 have hf:(bh (.int f)&&(ak ws).all bh)=true:=by
  (dsimp only[bh]; simp only[Nt,JV])
  intro x hx;obtain⟨z,_,rfl⟩:=JI.mp hx;rfl
 show#[!(ak ws).any λz=>qB z (.int f),?_]
 change cw .notin (.int f) (.tup (ak ws)) S=_
 (dsimp only[cw,oP,zr,cq]; simp only[hf,Mf,Kc])
section
variable{M:JA->FF}{fuel:Jr}{Z:Fm}{S:aa}{K:Fm->aa->Prop}{Q:QO}
def yp {i0:Jr}{a b:E}{bd:Ss}(i j:JG)(I:Jr->Fm->aa->Prop)(oa:bV a=true)(ob:bV b=true)(ok:fL bd=true)(hj : -(2 ^ 62)<=i/\i < 2 ^ 62/\-(2 ^ 62)<=j/\j < 2 ^ 62)(he:wE M a Z S λp=>p.1=.int i/\wE M b Z p.2 λq=>q.1=.int j/\I 0 Z q.2)
  (hstep:∀(k:Jr) (Z:Fm) (S:aa),(k:JG) < j - i->I k Z S->sO M fuel bd (Z.set i0 (ba (.int (i+k)))) S (I (k+1)) Q) (hend:∀Z S,I (j - i).toNat Z S->K Z S):Wp (fK M fuel (.loop (.nm i0) (.rng2 #v[a,b]) bd) Z S) (oB K Q):=by
 obtain⟨w,S1,e1,rfl,h1⟩:=aR oa he;obtain⟨w,S2,e2,rfl,h0⟩:=aR ob h1;have hl:(cK i (j - i).toNat).length=(j - i).toNat:=by simp[cK]
 show fg (mi:=.its (cK i (j - i).toNat)) (S1:=S2) (xs:=cK i (j - i).toNat) I ok ?_ (λ_ _ _ _=>rfl) rfl h0 (λk w Z S hw hI=>?_) λZ S hI=>hend Z S (hl ▸ hI)
 ·simp only[gb,cr,bK,eG,iRng2,e1,e2];rw[JO hj]
 ·rw[dS]at hw;split at hw
  ·rename_i hk;cases hw;exact hstep k Z S ∅ hI
  ·cases hw
def yq {elt a b:E}{i0:Jr}{cs:Es}{cap:Jj (Jq Jr)}{Q:QW}(i j:JG)(I:Jr->Jj W->Fm->aa->Prop)(oa:bV a=true)(ob:bV b=true)(oe:bV elt=true)(oc:oD cs=true)(hj : -(2 ^ 62)<=i/\i < 2 ^ 62/\-(2 ^ 62)<=j/\j < 2 ^ 62)(he:wE M a Z S λp=>p.1=.int i/\wE M b Z p.2 λq=>q.1=.int j/\I 0 [] (cL cap Z) q.2)
  (hstep:∀(k:Jr) (ys:Jj W) (Z:Fm) (S:aa),(k:JG) < j - i->I k ys Z S->gM M elt cs (Z.set i0 (ba (.int (i+k)))) S (λy=>I (k+1) (ys++[y])) (I (k+1) ys))
  (hend:∀ys Z S,I (j - i).toNat ys Z S->ys.length<=sizeLine/\Q (.ref S.length,S++[.lst ys])):Wp (ay M (.comp elt (.nm i0) (.rng2 #v[a,b]) cs cap) Z S) Q:=by
 obtain⟨w,S1,e1,rfl,h1⟩:=aR oa he;obtain⟨w,S2,e2,rfl,h0⟩:=aR ob h1;have hl:(cK i (j - i).toNat).length=(j - i).toNat:=by simp[cK]
 show nW (mi:=.its (cK i (j - i).toNat)) (S1:=S2) (xs:=cK i (j - i).toNat) I oe oc ?_ (λ_ _ _ _ _=>rfl) rfl h0 (λk w ys Z S hw hI=>?_) λys Z S hI=>hend ys Z S (hl ▸ hI)
 ·simp only[gb,cr,bK,eG,iRng2,e1,e2];rw[JO hj]
 ·rw[dS]at hw;split at hw
  ·rename_i hk;cases hw;exact hstep k ys Z S ∅ hI
  ·cases hw
end
section
variable{defs:Jj (JA×Df)}{fuel d:Jr}{S:aa}{r:Jr}{Q:QW}
def yr (G:Gen defs){a:Jr}(ha:a<=3)(k:∀(q:Jr) (ts:Jj (JG×JG×JG)) (S':aa),S'[q]?=ba (.lst (ts.map eN))->(∀t∈ts,mx a t)->ts.length<=27->S.length<=q->Ka S S'->Q (.ref q,S')) :
  wO (aE (al defs fuel (d+1)) "_law_rising" 1 [.int a] S) Q:=by
 show am G.rising rfl rfl λQ' hR=>?_
 replace k:∀(q:Jr) (ts:Jj (JG×JG×JG)) (S':aa),S'[q]?=ba (.lst (ts.map eN))->(∀t∈ts,mx a t)->ts.length<=27->S.length<=q->Ka S S'->Q' (.rt (.ref q),S'):=λq ts S' a b l c e=>hR _ _ (k q ts S' a b l c e)
 clear hR;change wZ _ _ dB [ba (.int a),gV,gV,gV] S Q';dsimp only[dB];show st ?_;dsimp only[wS,wE,wA,JE];nofun
 show iO (a:JG) (λi Z S'=>∃(q:Jr) (ts:Jj (JG×JG×JG)) (a2 a3:Jq W),Z=[ba (.int a),ba (.ref q),a2,a3]/\S'[q]?=ba (.lst (ts.map eN))/\(∀t∈ts,mx a t)/\S.length<=q/\ts.length<=9*i/\Ka S S') rfl rfl ∅ #[rfl,_,[],_,_,rfl,ac,λ_ h=>(nomatch h),Jy _,KW _,.push] ?_ ?_
 ·rintro i Z S1 hi ⟨q,ts,a2,a3,rfl,e1,ht,hq,hl,k1⟩ Q2 hn _;clear hK k;nofun
  show yp (i:JG) (a:JG) (λj Z S'=>∃(q:Jr) (ts:Jj (JG×JG×JG)) (a3:Jq W),Z=[ba (.int a),ba (.ref q),ba (.int i),a3]/\S'[q]?=ba (.lst (ts.map eN))/\(∀t∈ts,mx a t)/\S.length<=q/\ts.length<=9*i+3*j/\Ka S S') rfl rfl rfl ∅ #[rfl,rfl,q,ts,a3,rfl,e1,ht,hq,∅,k1] ?_ ?_
  ·rintro j Z S2 hj ⟨q,ts,a3,rfl,e2,ht,hq,hl,k2⟩ Q3 hn3 _;clear hK hn;show st ?_;dsimp only[wS,wE,wV,wG,JE];show yq ((i:JG)+j) (a:JG) (λm ys Z2 S3=>(∃a1,Z2=[gV,a1,ba (.int i),ba (.int ((i:JG)+j))])/\(∃us:Jj (JG×JG×JG),ys=us.map eN/\us.length=m/\∀t∈us,mx a t)/\S3=S2) rfl rfl rfl rfl ∅ #[rfl,rfl,#[gV,rfl],#[[],rfl,rfl,λ_ h=>nomatch h],rfl] ?_ ?_
   ·rintro m ys Z2 S3 hm ⟨⟨a1,rfl⟩,⟨us,rfl,hul,hu⟩,rfl⟩;show#[λ_=>#[#[_,rfl],#[us++[((i:JG),(i:JG)+j,(i:JG)+j+m)],by rw[J0]; rfl,by rw[Jw,hul]; rfl,λt h=>?_],rfl],λz=>by cases z]
    rcases Kj.mp h with h|h
    ·exact hu t h
    ·rw[JH.mp h];exact#[#[∅,∅],#[by dsimp only; omega,by dsimp only; omega],#[by dsimp only; omega,by dsimp only; omega]]
   ·rintro ys Z2 S3 ⟨_,⟨us,rfl,hul,hu⟩,rfl⟩;show#[few (by rw[Jl]; omega),ab (gh (aj e2) ac ?_) (a9 (hn3 _ _ #[_,ts++us,_,rfl,?_,λt h=>(Kj.mp h).elim (ht t) (hu t),?_,?_,k2.trans (Ka.push.trans .push)]))]
    ·show few ?_;rw[Jw,Jl,Jl];omega
    ·rw[J0]; exact ac
    ·have:=k2.len;simp only[Jw]; omega
    ·rw[Jw]; omega
  ·rintro Z S2 ⟨q,ts,a3,rfl,e2,ht,hq,hl,k2⟩;exact hK _ _ (a9 (hn _ _ #[q,ts,_,_,rfl,e2,ht,hq,∅,k2]))
 ·rintro Z S1 ⟨q,ts,a2,a3,rfl,e1,ht,hq,hl,k1⟩;show hK _ _ (st ?_);exact k q ts S1 e1 ht ∅ hq k1
def pX (G:Gen defs){a:Jr}(ha:a<=3)(k:∀(q:Jr) (ts:Jj (JG×JG×JG)) (S':aa),S'[q]?=ba (.lst (ts.map eN))->(∀t∈ts,mx a t)->S.length<=q->Ka S S'->Q (.ref q,S')) :
  wO (aE (al defs fuel (d+1)) "_law_rising" 1 [.int a] S) Q:=yr G ha λq ts S' a b _ c e=>k q ts S' a b c e
def u9 (hfu:20 < fuel)(G:Gen defs)(hf:Fl S r)(k:∀w S',cD w->Fl S' r->Kp r S S'->Q (w,S')):wO (aE (al defs fuel (d+6)) "_law_one_way_rule" 1 [.ref r] S) Q:=by
 show am G.one_way_rule rfl rfl λQ' hR=>?_
 replace k:∀w S',cD w->Fl S' r->Kp r S S'->Q' (.rt w,S'):=λz S' a b c=>hR _ _ (k z S' a b c)
 clear hR;change wZ _ _ bw [ba (.ref r),gV,gV] S Q';dsimp only[bw];nofun
 left;show aV (d:=d+4) G.pick hf #v[] #v[] λv S1 v0 v3 f1 k1=>?_
 dsimp only[cu,aC];obtain⟨a,ea⟩ : ∃a:Jr,1+v=a:=#[(1+v).toNat,∅]
 rw[ea];show hK _ _ ?_;clear hK K;nofun
 dsimp only[wS,wE,JE];show dy (a:JG) (λk zs Z2 S2=>(∃a1,Z2=[gV,a1,ba (.ref r)])/\(∃ks:Jj JG,zs=(ks.map yo).map aK/\ks.Pairwise (·≠·)/\ks.length<=k/\∀x∈ks,0<=x/\x < k)/\Fl S2 r/\Kp r S1 S2) rfl rfl rfl ∅ #[rfl,#[gV,rfl],#[[],rfl,.nil,Jy _,λ_ h=>(nomatch h)],f1,.refl] ?_ ?_
 ·rintro i zs Z2 S2 hi ⟨⟨a1,rfl⟩,⟨ks,rfl,hkp,hkl,hks⟩,f2,k2⟩;clear hK k;dsimp only[gM,wC,wT,wE,wA,wV,wG,JE];show aV (d:=d+4) G.pick f2 #v[] #v[] λv S3 _ _ f3 k3=>?_
  dsimp only[dX,aC,wB];show#[λ_=>#[#[_,rfl],#[ks++[(i:JG)],by simp[yo,aK,bU],?_,by rw[Jw]; exact Nj hkl,λx hx=>?_],f3,k2.trans k3],λ_=>#[#[_,rfl],#[ks,rfl,hkp,∅,λx hx=>#[(hks x hx).1,by have:=(hks x hx).2; omega]],f3,k2.trans k3]]
  ·rw[List.pairwise_append];show#[hkp,by simp,λx hx y hy e=>?_]
   have:=(hks x hx).2;rw[JH.mp hy]at e;omega
  ·rcases Kj.mp hx with h|h
   ·exact#[(hks x h).1,by have:=(hks x h).2; omega]
   ·rw[JH.mp h]; omega
 ·rintro zs Z2 S2 ⟨_,⟨ks,rfl,hkp,hkl,hks⟩,f2,k2⟩;rw[JN]at hkl hks;show#[few (by rw[Jl,Jl]; omega),hK _ _ (st ?_)]
  clear hK K;left;have hlt:=f2.lt;show gF (d:=d) (a:=a) (bs:=[0]) (us:=ks.map yo) hfu G (f2.ka .push) ∅ #v[] (λS' kk=>?_) (by rw[Jl]; omega) (λu hu=>by obtain⟨x,_,rfl⟩:=JI.mp hu; exact QP _ _) λms ns S3 hml hnl hnm f3 k3=>?_
  ·simp only[dj,ap (kk.get _ _ ∅ ac)]
  show k _ _ #[a,[0],ms,ns,ks.map yo,rfl,#[#[∅,iU,by simp; omega,∅],hml,hnl,hnm,?_,λg hg=>?_]] f3 (k1.trans (k2.trans (Kp.push.trans k3)))
  ·unfold Rv;rw[LK];exact hkp.imp λh e=>h (Bq e)
  ·obtain⟨x,hx,rfl⟩:=JI.mp hg;exact Bp ∅ ∅ (hks x hx).1 (hks x hx).2
def pY (hfu:20 < fuel)(G:Gen defs)(hf:Fl S r)(k:∀w S',cD w->Fl S' r->Kp r S S'->Q (w,S')):wO (aE (al defs fuel (d+6)) "_law_free_rule" 1 [.ref r] S) Q:=by
 show am G.free_rule rfl rfl λQ' hR=>?_
 replace k:∀w S',cD w->Fl S' r->Kp r S S'->Q' (.rt w,S'):=λz S' a b c=>hR _ _ (k z S' a b c)
 clear hR;change wZ _ _ ce [ba (.ref r),gV,gV,gV,gV,gV,gV,gV,gV] S Q';dsimp only[ce];nofun
 left;show sY (d:=d+3) G hf λa n S1 a1 a3 n1 n3 an f1 k1=>?_
 dsimp only[wU];show ab (show dR [1,2] [.int a,.int n] [ba (.ref r),gV,gV,gV,gV,gV,gV,gV,gV]=ba [ba (.ref r),ba (.int a),ba (.int n),gV,gV,gV,gV,gV,gV]from rfl) (hK _ _ ?_)
 clear hK K;nofun
 left;show sZ (d:=d+3) G f1 n1 n3 λbs S2 hb hbl f2 k2=>?_
 have hsz:SizeOk a bs:=#[∅,hb,by rw[hbl]; exact an,a3]
 show ft (d:=d) hfu G f2 a3 ∅ λms ns S3 hml hnl hnm f3 k3=>hK _ _ ?_
 clear hK K;have hrt:=f3.lt;replace k3:Kp r S S3:=k1.trans (k2.trans k3);clear k1 k2 f1 f2;nofun
 dsimp only[wS,wE,JE];show dy (n:JG) (λi zs Z2 S2=>(∃a1,Z2=[gV,a1,ba (aS ms ns bs [])])/\(∃ks:Jj JG,zs=ak ks/\ks.length<=i)/\S2=S3) rfl rfl rfl ∅ #[rfl,#[gV,rfl],#[[],rfl,Jy _],rfl] ?_ ?_
 ·rintro i zs Z2 S2 hi ⟨⟨a1,rfl⟩,⟨ks,rfl,hkl⟩,rfl⟩;clear hK k;have hi':i < bs.length:=∅
  dsimp only[gM,wC,wT,wE,wA,wV,wG,JE];show ag #v[] rfl (ag (JU i) (by rw[JN]; exact nX (JB ∅) (JB hi')) (ag #v[] rfl ?_))
  dsimp only[dX,aC,wB];exact#[λ_=>#[#[_,rfl],#[ks++[(i:JG)],by unfold ak; rw[J0]; rfl,by rw[Jw]; exact Nj hkl],rfl],λ_=>#[#[_,rfl],#[ks,rfl,∅],rfl]]
 ·rintro zs Z2 S2 ⟨_,⟨ks,rfl,hkl⟩,rfl⟩;rw[JN]at hkl;have il:(ak ks).length=ks.length:=Jl ..;show#[few ∅,hK _ _ ?_]
  clear hK K;nofun
  dsimp only[wS,wT,wE,wA,wV,wG,JE];show ab (GN (aj ac) ac) ?_;dsimp only[wB];have f4:=(f3.ka (Ka.push (o:=O.lst (ak ks)))).ka (Ka.push (o:=O.lst []));have k4:=k3.trans ((Kp.push (o:=O.lst (ak ks))).trans (Kp.push (o:=O.lst [])));have e4:=aj (u:=O.lst []) (ac (S:=S2) (o:=O.lst (ak ks)));have hl4:S2.length < (S2++[O.lst (ak ks)]++[O.lst []]).length:=by simp
  generalize hS4:S2++[O.lst (ak ks)]++[O.lst []]=S4 at f4 k4 e4 hl4;clear hS4;have ret:∀Q2:QO,(∀w S',Q' (.rt w,S')->Q2 (.rt w,S'))->wZ (al defs fuel (d+5)) fuel #v[.ret (.v 3)] [ba (.ref r),ba (.int a),ba (.int n),ba (aS ms ns bs []),gV,ba (.ref S2.length),gV,gV,gV] S4 Q2:=λQ2 hr=>st (hr _ _ (k _ _ #[a,bs,ms,ns,[],rfl,hsz,hml,hnl,hnm,.nil,λ_ h=>(nomatch h)] f4 k4))
  show#[λ_=>ah (Q0:=Q') (λ_ Q2 _ hr=>ret Q2 hr) (λz=>by cases z),λhne=>?_]
  dsimp only[dX,aC,wB];show ah (Q0:=Q') (λ_ Q2 _ hr=>ret Q2 hr) (λ_ Q2 hn _=>a9 (hn _ _ (hK _ _ ?_)))
  clear hK ret hn;have hk0:0 < ks.length:=by
   cases ks with
   | nil=>cases hne
   | cons x ks=>exact R1 _
  nofun
  left;show gm e4 ?_;rw[il];show aV (d:=d+4) G.pick f4 ∅ ∅ λv S5 v0 v1 f5 k5=>?_
  have e5:=k5.get _ _ ∅ e4
  obtain⟨x,_,ex⟩:=kS (f:=W.int) (xs:=ks) (i:=v.toNat) ∅
  show d3 e5 v0 ex (hK _ _ ?_);clear hK K;replace k5:Kp r S S5:=k4.trans k5;have hrt5:=f5.lt;show st ?_;dsimp only[wS,wE,JE];nofun
  show iT rfl rfl ?_;dsimp only[wE,wA,wV,wG];show aV (d:=d+4) G.pick (f5.ka .push) #v[] #v[] λv S6 v0 v9 f6 k6=>?_
  show#[v,λ_ Z S'=>(∃a4 a8,Z=[ba (.ref r),ba (.int a),ba (.int n),ba (aS ms ns bs []),a4,ba (.ref S2.length),ba (.int x),ba (.ref S5.length),a8])/\(∃U fs,S'[S5.length]?=ba (.dic U)/\FigD (aM a bs) U fs)/\Fl S' r/\Kp r S S',rfl,∅,#[#[gV,gV,rfl],#[[],[],k6.get _ _ ∅ ac,.nil],f6,(k5.trans .push).trans k6],?_,?_]
  ·rintro i Z S7 hi ⟨⟨a4,a8,rfl⟩,⟨U,fs,e7,hd⟩,f7,k7⟩ Q2 hn _;clear hK k;show st ?_;left;show iS (d:=d+3) G f7 ∅ a3 ∅ n3 λu S8 hu3 hu f8 k8=>?_
   have hu:GoodW a bs.length u:=hbl.symm ▸ hu;have e8:=k8.get _ _ ∅ e7
   obtain⟨p0,p1,p2,rfl⟩ : ∃p0 p1 p2,u=[p0,p1,p2]:=by
    match u,hu3 with
    | [p0,p1,p2],_=>exact#[p0,p1,p2,rfl]
   have l1:=hu.len 1 p1 rfl;obtain⟨m1,ws1⟩:=p1;obtain⟨w1,rfl⟩ : ∃w1,ws1=[w1]:=by
    match ws1,l1 with
    | [w1],_=>exact#[w1,rfl]
   obtain⟨b,hb2⟩:=Br (S:=S8) (f:=x) (ws:=p2.2);have kk:=k7.trans k8;nofun
   dsimp only[wS,wT,wE,wA,wV,wG];show ag #v[] rfl (ag #v[] rfl (ag #v[] rfl ?_))
   dsimp only[D7,aC,wB];have skip:K [ba (.ref r),ba (.int a),ba (.int n),ba (aS ms ns bs []),ba (.int i),ba (.ref S2.length),ba (.int x),ba (.ref S5.length),ba (aK [p0,(m1,[w1]),p2])] S8:=hK _ _ (a9 (hn _ _ #[#[_,_,rfl],#[U,fs,e8,hd],f8,kk]));show#[λ_=>?_,λ_=>ah (Q0:=Q2) (λz=>by cases z) λ_ Q3 hn3 _=>a9 (hn3 _ _ skip)]
   show ag #v[] rfl (ag #v[] rfl (ab hb2 ?_))
   dsimp only[wB];show ah (Q0:=Q2) (λ_ Q3 hn3 _=>?_) λ_ Q3 hn3 _=>a9 (hn3 _ _ skip)
   clear skip;show st ?_;left;show iR (d:=d+2) G hb hnl hu hu3 λS9 k9=>?_
   exact tj (k9.get _ _ e8) hd hsz hu hu3 λo ho=>a9 (hn3 _ _ (hK _ _ (a9 (hn _ _ #[#[_,_,rfl],ho,(f8.ka k9).own hrt5,(kk.trans (k9.kp r)).late k5.len]))))
  ·rintro Z S7 ⟨⟨a4,a8,rfl⟩,⟨U,fs,e7,hd⟩,f7,k7⟩;show hK _ _ (st ?_);left;exact tf (Q:=λp=>Q' (.rt p.1,p.2)) e7 hd hsz hml hnl hnm λw S8 hw k8=>k w S8 hw (f7.ka k8) (k7.trans (k8.kp r))
end
abbrev bu (u v:JG):T:=.tup [.int u,.int v]
abbrev dg (u v:JG):W:=.tup [.int u,.int v]
def iV {u v:JG}:gK (dg u v)=ba (bu u v):=rfl
def yt {U:Jj (T×W)}{k:T}{v:W}{p:T×W}(h:p∈eF U k v):p∈U\/p=(k,v):=by
 unfold eF at h;split at h
 ·obtain⟨q,hq,rfl⟩:=JI.mp h;split
  ·rename_i e; exact .inr (by rw[e])
  ·exact .inl hq
 ·rcases Kj.mp h with h|h
  ·exact .inl h
  ·exact .inr (JH.mp h)
def pZ {U:Jj (T×W)}{k:T}{v:W}(h:cj U k=ba v):(k,v)∈U:=by
 unfold cj at h;rw[Jo]at h;obtain⟨p,h1,rfl⟩:=h;have:=OS h1;rw[<- J9 this];exact List.mem_of_find?_eq_some h1
def Bs {U:Jj (T×W)}{p:T×W}(h:p∈U):∃v,cj U p.1=ba v:=by
 unfold cj;cases e:U.find? λq=>decide (q.1=p.1)with
 | some q=>exact#[q.2,rfl]
 | none=>exact absurd (List.find?_eq_none.mp e p h) (by simp)
abbrev MustE (S:aa)(n b:Jr)(U:Jj (T×W)):Prop:=∀p∈U,∃(u v:JG) (l:Jr) (ws:Jj JG),p=(bu u v,W.ref l)/\(0<=u/\u < n)/\(0<=v/\v < n)/\b<=l/\S[l]?=ba (.lst (ak ws))/\ws.length<=3/\∀w∈ws,0<=w/\w < (n:JG)
def MustE.mono {S S':aa}{n b:Jr}{U:Jj (T×W)}(h:MustE S n b U)(k:∀(l:Jr) (ws:Jj JG),b<=l->S[l]?=ba (.lst (ak ws))->S'[l]?=ba (.lst (ak ws))):MustE S' n b U:=λp hp=>
 let ⟨u,v,l,ws,h1,h2,h3,h4,h5,h6⟩:=h p hp
 #[u,v,l,ws,h1,h2,h3,h4,k l ws h4 h5,h6]
def MustE.ka {S S':aa}{n b:Jr}{U:Jj (T×W)}(h:MustE S n b U)(k:Ka S S'):MustE S' n b U:=h.mono λl ws _ e=>k.get _ _ e
def MustE.kp {S S':aa}{n b r:Jr}{U:Jj (T×W)}(h:MustE S n b U)(hr:r < b)(k:Kp r S S'):MustE S' n b U:=h.mono λl ws hl e=>k.get _ _ ∅ e
def MustE.set {S:aa}{n b t:Jr}{U k:Jj (T×W)}{o:O}(h:MustE S n b U)(ht:S[t]?=ba (.dic k)):MustE (S.set t o) n b U:=h.mono λl ws hl e=>by
 rw[bj (by rintro rfl; rw[ht]at e; cases e)]; exact e
def MustE.put {S:aa}{n b:Jr}{U:Jj (T×W)}{u v:JG}{l:Jr}{ws:Jj JG}(h:MustE S n b U)(h2:0<=u/\u < n)(h3:0<=v/\v < n)(h4:b<=l)(h5:S[l]?=ba (.lst (ak ws)))(h6:ws.length<=3)(h7:∀w∈ws,0<=w/\w < (n:JG)):MustE S n b (eF U (bu u v) (.ref l)):=λp hp=>by
 rcases yt hp with hp|rfl
 ·exact h p hp
 ·exact#[u,v,l,ws,rfl,h2,h3,h4,h5,h6,h7]
noncomputable abbrev Bt:=JG×JG×Jj JG
abbrev p4 (ws:Jj JG):Es:=ws.foldr (λw es=>.cons (.c (.int w)) es) .nil
abbrev tm:Jj Bt->Es
 | []=>.nil
 | e::L=>.cons (.tup #v[.c (.int e.1),.c (.int e.2.1)]) (.cons (.lst (p4 e.2.2)) (tm L))
abbrev vc:Jj Bt->Jr->Jj W
 | [],_=>[]
 | e::L,s=>dg e.1 e.2.1::.ref s::vc L (s+1)
abbrev vd (L:Jj Bt):aa:=L.map λe=>O.lst (ak e.2.2)
abbrev tq (n:Jr)(e:Bt):J1:=decide ((0<=e.1/\e.1 < n)/\(0<=e.2.1/\e.2.1 < n)/\e.2.2.length<=3)&&e.2.2.all λw=>decide (0<=w/\w < (n:JG))
section
variable{M:JA->FF}{Z:Fm}
def rF {S:aa}:∀ {ws:Jj JG} {Q:Jj W×aa->Prop},Q (ak ws,S)->wA M (p4 ws) Z S Q
 | [],Q,q=>by change wA M .nil Z S Q; exact q
 | w::ws,Q,q=>by change wA M (.cons (.c (.int w)) (p4 ws)) Z S Q; dsimp only[wA,wE]; exact rF q
def yu:∀ {L:Jj Bt} {S:aa} {Q:Jj W×aa->Prop},Q (vc L S.length,S++vd L)->wA M (tm L) Z S Q
 | [],S,Q,q=>by
  change wA M .nil Z S Q;dsimp only[wA]
  rwa [show S++vd []=S from Kx S]at q
 | e::L,S,Q,q=>by
  change wA M (.cons (.tup #v[.c (.int e.1),.c (.int e.2.1)]) (.cons (.lst (p4 e.2.2)) (tm L))) Z S Q;dsimp only[wA,wE];show rF (yu ?_);rw[Jw,KS];exact q
end
def my {S:aa}{n b:Jr}:∀(L:Jj Bt) (s:Jr) (U:Jj (T×W)),MustE S n b U->b<=s->(∀e∈L,tq n e=true)->(∀i e,L[i]?=ba e->S[s+i]?=ba (.lst (ak e.2.2)))->∃U',dk U (vc L s)=ba U'/\MustE S n b U'/\U'.length<=U.length+L.length
 | [],s,U,hm,hb,hL,hS=>#[U,by simp[vc,dk],hm,by simp]
 | e::L,s,U,hm,hb,hL,hS=>by
  have h1:=hL e (by simp)
  unfold tq at h1;rw[Js,JV]at h1;obtain⟨h2,h3,h4⟩:=J9 h1.1;obtain⟨U',k1,k2,k3⟩:=my L (s+1) (eF U (bu e.1 e.2.1) (.ref s)) (hm.put h2 h3 hb (by have:=hS 0 e rfl; simpa using this) h4 (λw hw=>J9 (h1.2 w hw))) ∅ (λx hx=>hL x (by simp[hx])) (λi x hx=>by have:=hS (i+1) x (by simpa using hx); rw[show s+1+i=s+(i+1) by omega]; exact this)
  show#[U',?_,k2,?_]
  ·simp only[vc,dk,iV]; exact k1
  ·have:=c9 U (bu e.1 e.2.1) (.ref s);rw[JL]; omega
abbrev KB:Jj (Jj JG):=[[1,0],[0,2,1],[0,1],[0,1,2]]
abbrev KindOk (S:aa)(b:Jr)(w:W):Prop:=∃(bs:Jj JG) (q:Jr) (U:Jj (T×W)) (most:JG),w=.tup [.tup (ak bs),.ref q,.int most]/\bs∈KB/\1<=most/\most<=3/\most*bs.length<=6/\S[q]?=ba (.dic U)/\b<=q/\U.length<=4/\MustE S bs.length b U
def KindOk.mono {S S':aa}{b:Jr}{w:W}(h:KindOk S b w)(k1:∀(l:Jr) (ws:Jj JG),b<=l->S[l]?=ba (.lst (ak ws))->S'[l]?=ba (.lst (ak ws)))(k2:∀(l:Jr) (U:Jj (T×W)),b<=l->S[l]?=ba (.dic U)->S'[l]?=ba (.dic U)):KindOk S' b w:=
 let ⟨bs,q,U,most,h1,h2,h3,h4,h5,h6,h7,h8,h9⟩:=h
 #[bs,q,U,most,h1,h2,h3,h4,h5,k2 _ _ h7 h6,h7,h8,h9.mono k1]
def KindOk.ka {S S':aa}{b:Jr}{w:W}(h:KindOk S b w)(k:Ka S S'):KindOk S' b w:=h.mono (λl ws _ e=>k.get _ _ e) (λl ws _ e=>k.get _ _ e)
abbrev yv (bs:Jj JG)(L:Jj Bt)(most:JG):E:=.tup #v[.tup (p4 bs),.disp (tm L),.c (.int most)]
section
variable{M:JA->FF}{Z:Fm}{S:aa}
def nZ (bs:Jj JG)(L:Jj Bt)(most:JG){b:Jr}{Q:QW}(hb:b<=S.length)(h1:bs∈KB)(h2:1<=most/\most<=3/\most*bs.length<=6)(hL:∀e∈L,tq bs.length e=true)(h4:L.length<=4)(k:∀w S',KindOk S' b w->Ka S S'->Q (w,S')) :
  wE M (yv bs L most) Z S Q:=by
 unfold yv;dsimp only[wE,wA];show rF (yu ?_);obtain⟨U,k1,k2,k3⟩:=my (S:=S++[O.dic []]++vd L) (n:=bs.length) (b:=b) L (S.length+1) [] (λ_ h=>nomatch h) ∅ hL (λi e he=>by
  rw[Lp (by simp),show S.length+1+i - (S++[O.dic []]).length=i by simp]
  simp[vd,he])
 have hat:(S++[O.dic []]++vd L)[S.length]?=ba (.dic []):=by
  rw[Kh (by simp)]; exact ac
 show#[hat,ab (show dk [] (vc L (S++[O.dic []]).length)=ba U by rw[Jw]; exact k1) (k _ _ #[bs,S.length,U,most,rfl,h1,h2.1,h2.2.1,h2.2.2,aX hat,hb,?_,k2.set hat] #[λj o h=>?_,by simp])]
 ·simp only[Lj]at k3; omega
 ·have:j < S.length:=dq h;show((S++[O.dic []]++vd L).set S.length (O.dic U))[j]?=ba o;rw[bj ∅,Kh (by simp; omega)]
  exact aj h
structure Menu (S0 S:aa)(r t m:Jr):Prop where
 at_t:∃xs:Jj W,S[t]?=ba (.lst xs)/\xs.length=m/\∀x∈xs,KindOk S S0.length x
 pos:0 < m
 few:m<=9
 fl:Fl S r
 kp:Kp r S0 S
 lt:S0.length<=t
 rlt:r < S0.length
def p7 {S0 S S':aa}{r t m:Jr}{w:W}(h:Menu S0 S r t m)(hw:KindOk S' S0.length w)(k:Ka S S')(hm:m < 9):∃xs,S'[t]?=ba (.lst xs)/\xs.length < sizeLine/\Menu S0 (S'.set t (.lst (xs++[w]))) r t (m+1):=by
 obtain⟨⟨xs,h1,h2,h3⟩,hp,hf,fl,kp,lt,rlt⟩:=h;have e:S'[t]?=ba (.lst xs):=k.get _ _ h1;have stay:∀x,KindOk S' S0.length x->KindOk (S'.set t (.lst (xs++[w]))) S0.length x:=λx hx=>hx.mono (λl ws hl el=>by
  by_cases hlt:t=l
  ·exfalso;subst hlt;rw[e]at el;injection el with el
   injection el with el
   match xs,h2,h3 with
   | [],h2,_=>simp at h2; omega
   | x::xs,_,h3=>
    obtain⟨bs,q,U,most,hx,_⟩:=h3 x (by simp)
    subst hx
    match ws with
    | []=>simp[ak]at el
    | w::ws=>simp[ak]at el
  ·rw[bj hlt]; exact el) (λl U hl el=>by
  rw[bj (by rintro rfl; rw[e]at el; cases el)]; exact el)
 show#[xs,e,(by rw[Kq]; omega),#[xs++[w],aX e,by simp; omega,λx hx=>?_],∅,∅,(fl.ka k).own ∅,(kp.trans (k.kp r)).late lt,lt,rlt]
 rcases Kj.mp hx with hx|hx
 ·exact stay x ((h3 x hx).ka k)
 ·rw[JH.mp hx]; exact stay w hw
def p8 (bs:Jj JG)(L:Jj Bt)(most:JG){fuel:Jr}{S0:aa}{r t m:Jr}{x0:Jq W}{K:Fm->aa->Prop}{Q:QO}(h:Menu S0 S r t m)(hm:m < 9)(h1:bs∈KB)(h2:1<=most/\most<=3/\most*bs.length<=6)(hL:∀e∈L,tq bs.length e=true)(h4:L.length<=4)(k:∀S',Menu S0 S' r t (m+1)->K [x0,ba (.ref t)] S') :
  wS M fuel (.ex (.me .append (.v 1) #v[yv bs L most])) [x0,ba (.ref t)] S K Q:=by
 left;obtain⟨xs,e1,e2,e3⟩:=h.at_t;show#[bv e1,nZ bs L most (J8 h.lt (M4 (dq e1))) h1 h2 hL h4 λw S' k1 k2=>?_]
 obtain⟨xs',f1,f2,f3⟩:=p7 h k1 k2 hm;exact ab (sN f1 f2) (k _ f3)
def lA {defs:Jj (JA×Df)}{fuel d:Jr}{r:Jr}{Q:QW}(G:Gen defs)(hf:Fl S r)(k:∀w S',KindOk S' S.length w->Fl S' r->Kp r S S'->Q (w,S')):wO (aE (al defs fuel (d+2)) "_law_laying_kind" 1 [.ref r] S) Q:=by
 show am G.laying_kind rfl rfl λQ' hR=>?_
 replace k:∀w S',KindOk S' S.length w->Fl S' r->Kp r S S'->Q' (.rt w,S'):=λz S' a b c=>hR _ _ (k z S' a b c)
 clear hR;change wZ _ _ bC [ba (.ref r),gV] S Q';have hrt:=hf.lt;unfold bC;nofun
 show GK ?_;change wA _ _ _ _ _; change wE _ _ _ _ _
 show nZ [1,0] [(0,0,[0])] 3 (b:=S.length) (Jy _) #v[] #v[] #v[] #v[] λw1 S1 k1 a1=>?_
 change wE _ _ _ _ _;show nZ [0,2,1] [(1,1,[1])] 2 (b:=S.length) a1.len #v[] #v[] #v[] #v[] λw2 S2 k2 a2=>?_
 have a12:=a1.trans a2;change wE _ _ _ _ _;show nZ [0,1] [(1,1,[1])] 3 (b:=S.length) a12.len #v[] #v[] #v[] #v[] λw3 S3 k3 a3=>?_
 have a13:=a12.trans a3;dsimp only[wA];show hK _ _ ?_;clear hK K;have m3:Menu S (S3++[O.lst [w1,w2,w3]]) r S3.length 3:=by
  show#[#[[w1,w2,w3],ac,rfl,λx hx=>?_],#v[],#v[],(hf.ka a13).ka .push,(a13.trans .push).kp r,a13.len,hrt]
  rcases JC.mp hx with rfl|hx
  ·exact(k1.ka (a2.trans a3)).ka .push
  ·rcases JC.mp hx with rfl|hx
   ·exact(k2.ka a3).ka .push
   ·rw[JH.mp hx];exact k3.ka .push
 dsimp only[JE];clear k1 k2 k3 a1 a2 a3 a12 a13;generalize S3.length=t at m3;generalize S3++[O.lst [w1,w2,w3]]=S3' at m3;show aA λK hK=>p8 [0,1] [(1,1,[1]),(0,0,[1])] 3 m3 #v[] #v[] #v[] #v[] #v[] λS4 m4=>hK _ _ ?_
 show aA λK hK=>p8 [0,1] [(1,1,[])] 1 m4 #v[] #v[] #v[] #v[] #v[] λS5 m5=>hK _ _ ?_
 show aA λK hK=>p8 [0,2,1] [(0,0,[0]),(0,1,[1]),(1,0,[1]),(1,1,[1])] 2 m5 #v[] #v[] #v[] #v[] #v[] λS6 m6=>hK _ _ ?_
 nofun
 left;obtain⟨xs,e1,e2,e3⟩:=m6.at_t;obtain⟨xs',f1,f2,m7⟩:=p7 (S':=S6++[O.dic []]) (w:=.tup [.tup (ak [1,0]),.ref S6.length,.int 3]) m6 #[[1,0],S6.length,[],3,rfl,#v[],#v[],#v[],#v[],ac,m6.kp.len,#v[],λ_ h=>(nomatch h)] .push #v[]
 show#[bv e1,ab (sN f1 f2) (hK _ _ ?_)];show aA λK hK=>p8 [0,1,2] [(2,2,[2]),(1,2,[1]),(2,1,[1]),(1,1,[1,2])] 2 m7 #v[] #v[] #v[] #v[] #v[] λS8 m8=>hK _ _ ?_
 show aA λK hK=>p8 [0,1,2] [(0,0,[0,1])] 2 m8 #v[] #v[] #v[] #v[] #v[] λS9 m9=>hK _ _ ?_
 show st ?_;left;show aV (d:=d) G.pick m9.fl #v[] #v[] λv S10 v0 v9 f10 k10=>?_
 obtain⟨xs,g1,g2,g3⟩:=m9.at_t;have hlt:=m9.lt;have hv:v.toNat < xs.length:=∅
 exact d3 (k10.get _ _ ∅ g1) v0 (JB hv) (k _ _ ((g3 _ (Ko hv)).mono (λl ws hl e=>k10.get _ _ ∅ e) (λl ws hl e=>k10.get _ _ ∅ e)) f10 (m9.kp.trans k10))
end
abbrev p9 (bs:Jj JG):Jj (Jj JG):=if bs=[0,1,2]then[[0,1,2],[0,2,1],[1,0,2],[1,2,0],[2,0,1],[2,1,0]]else if bs.length=2 then[[0,1],[1,0]]else[[0,1,2],[0,2,1],[2,0,1],[2,1,0]]
abbrev gT (bs nm:Jj JG):Jr->Jj JG
 | 0=>Kg bs.length 0
 | k+1=>(gT bs nm k).set (nm.getD k 0).toNat (nm.getD (bs.getD k 0).toNat 0)
def jr (bs nm:Jj JG):∀k,(gT bs nm k).length=bs.length
 | 0=>by simp[gT]
 | k+1=>by simp[gT,jr bs nm k]
def Bu:∀bs∈KB,∀nm∈p9 bs,nm.length=bs.length/\(∀x∈nm,0<=x/\x < (bs.length:JG))/\(∀x∈bs,0<=x/\x < (bs.length:JG))/\GoodB (gT bs nm bs.length):=by
 unfold GoodB;decide +kernel
def yw:∀bs∈KB,(bs.length=2\/bs.length=3)/\0 < (p9 bs).length/\(p9 bs).length < 10:=by decide
section
variable{M:JA->FF}{fuel:Jr}{Z:Fm}{S:aa}{K:Fm->aa->Prop}{Q:QO}
def Bv {tg:Tg}{e:E}{b:Ss}(r:Jr)(U:Jj (T×W))(I:Jr->Fm->aa->Prop)(oe:bV e=true)(ok:fL b=true)(he:wE M e Z S λp=>p.1=.ref r/\p.2[r]?=ba (.dic U)/\I 0 Z (p.2.set r (.frd U)))
  (hstep:∀(i:Jr) (p:T×W) (Z:Fm) (S:aa),U[i]?=ba p->I i Z S->wO (gA tg p.1.w Z S) λq=>sO M fuel b q.1 q.2 (I (i+1)) Q) (hend:∀Z S,I U.length Z S->K Z S):Wp (fK M fuel (.loop tg (.seq e) b) Z S) (oB K Q):=by
 obtain⟨w,S1,e1,rfl,e2,h0⟩:=aR oe he;show fg (mi:=.its (U.map λp=>p.1.w)) (S1:=S1.set r (.frd U)) (xs:=U.map λp=>p.1.w) I ok (by simp only[gb,da,e1,nU e2,cW e2]) (λ_ _ _ _=>rfl) rfl h0 (λi w Z S hw hI=>?_) λZ S hI=>hend Z S (by rwa [Jl]at hI)
 rw[Jv,Jo]at hw;obtain⟨p,hp,rfl⟩:=hw;exact hstep i p Z S hp hI
end
section
variable{defs:Jj (JA×Df)}{fuel d:Jr}{S:aa}{r:Jr}{Q:QW}
def GP {i n:Jr}{x:W}(h:S[i]?=ba (.lst [x]))(hn:n<=1000)(q:Q (.ref S.length,S++[.lst (Kg n x)])):wO (fN .mul (.ref i) (.int (n:JG)) S) Q:=by
 show ab ?_ q;have:n<=sizeLine:=few hn;simp only[fN,vZ,b9 h];rw[JO #[∅,∅,by simpa using this]]
 unfold j7;simp[this]
def mz {q:Jr}{U:Jj (T×W)}{u v:JG}{w:W}(h:jb S q=ba U)(hg:cj U (bu u v)=ba w):oz (.ref q) (.tup [.int u,.int v]) S=ba (w,S):=by
 have hk:gK (.tup [.int u,.int v])=ba (bu u v):=iV;simp only[oz,h,hk,hg,Kc]
def yy {q:Jr}{U:Jj (T×W)}{u v:JG}{w:W}(h:S[q]?=ba (.dic U))(hl:U.length < sizeLine):iD (.ref q) (.tup [.int u,.int v]) w S=ba (S.set q (.dic (eF U (bu u v) w))):=by
 have hk:gK (.tup [.int u,.int v])=ba (bu u v):=iV;simp only[iD,nw,h,hk];rw[JO hl]
def js {xs:Jj JG}{x:JG}(h0:0<=x)(h1:x.toNat < xs.length):(ak xs)[x.toNat]?=ba (.int (xs.getD x.toNat 0)):=by
 unfold ak;rw[Jv,au (d:=0) h1]; rfl
def gw {xs:Jj JG}{i:Jr}(h:i < xs.length):xs.getD i 0∈xs:=JD (au (d:=0) h)
def lB (G:Gen defs){Q:QO}{bs:Jj JG}{x0 x2:Jq W}(hb:bs∈KB)
  (hk:∀(m s:Jr) (S':aa),Ka S S'->S'[s]?=ba (.lst ((p9 bs).map λnm=>W.tup (ak nm)))->S.length<=s->wZ (al defs fuel (d+1)) fuel (dr 5 aZ) [x0,ba (.tup (ak bs)),x2,ba (.int bs.length),ba (.ref m),ba (.ref s),gV,gV,gV,gV,gV,gV] S' Q) :
  wZ (al defs fuel (d+1)) fuel aZ [x0,ba (.tup (ak bs)),x2,gV,gV,gV,gV,gV,gV,gV,gV,gV] S Q:=by
 generalize hd5:dr 5 aZ=bI at hk;unfold aZ at hd5 ⊢;dsimp only[dr]at hd5;rw[hd5];clear hd5;nofun
 left;show bp ?_;rw[show(ak bs).length=bs.length from Jl ..]
 show hK _ _ ?_;clear hK K;nofun
 left;have hm:(((S++[O.lst [.tup [.int 0]]])++[O.lst [.tup [.int 0,.int 1],.tup [.int 1,.int 0]]])++[O.lst [.ref S.length,.ref (S++[O.lst [.tup [.int 0]]]).length]])[((S++[O.lst [.tup [.int 0]]])++[O.lst [.tup [.int 0,.int 1],.tup [.int 1,.int 0]]]).length]?=ba (.lst [.ref S.length,.ref (S++[O.lst [.tup [.int 0]]]).length]):=ac;show hK _ _ ?_;clear hK K;generalize hS1:S++[O.lst [.tup [.int 0]]]=S1 at hm ⊢;generalize hS2:S1++[O.lst [.tup [.int 0,.int 1],.tup [.int 1,.int 0]]]=S2 at hm ⊢;generalize hS3:S2++[O.lst [.ref S.length,.ref S1.length]]=S3 at hm ⊢;have l1:S1.length=S.length+1:=by rw[<- hS1]; simp
 have l2:S2.length=S1.length+1:=by rw[<- hS2]; simp
 have l3:S3.length=S2.length+1:=by rw[<- hS3]; simp
 have kS2:Ka S S2:=by rw[<- hS2,<- hS1]; exact Ka.push.trans .push
 nofun
 left;show#[bv hm,eR (aj hm) (by decide:2 < 1000) (hK _ _ ?_)]
 clear hK K;generalize hS5:(S3++[O.lst [.tup [.int 0,.int 1,.int 2],.tup [.int 0,.int 2,.int 1],.tup [.int 2,.int 0,.int 1],.tup [.int 2,.int 1,.int 0]]]).set S2.length (.lst ([.ref S.length,.ref S1.length]++[.ref S3.length]))=S5;have k5:Ka S S5:=by
  rw[<- hS5,<- hS3];exact Ka.late (kS2.trans (Ka.push.trans .push)) ∅
 have m5:S5[S2.length]?=ba (.lst [.ref S.length,.ref S1.length,.ref S3.length]):=by
  rw[<- hS5]; exact aX (aj hm)
 have p5:S5[S1.length]?=ba (.lst [.tup [.int 0,.int 1],.tup [.int 1,.int 0]]):=by
  rw[<- hS5,bj ∅,<- hS3,<- hS2]
  exact aj (aj ac)
 have t5:S5[S3.length]?=ba (.lst [.tup [.int 0,.int 1,.int 2],.tup [.int 0,.int 2,.int 1],.tup [.int 2,.int 0,.int 1],.tup [.int 2,.int 1,.int 0]]):=by
  rw[<- hS5,bj ∅]
  exact ac
 have h1:S.length<=S1.length:=∅
 have h3:S.length<=S3.length:=∅
 clear hS1 hS2 hS3 hS5 hm l1 l2 l3 kS2;nofun
 dsimp only[wS,wE,wA,wV,wG,JE,sM,aC];have hb':bs=[1,0]\/bs=[0,2,1]\/bs=[0,1]\/bs=[0,1,2]:=by simpa [KB]using hb
 rcases hb' with rfl|rfl|rfl|rfl
 ·show d8 (i:=1) m5 rfl (hK _ _ (aA λK hK=>cO (λQ q=>q) (hK _ _ (hk _ _ _ k5 p5 h1))))
 ·show d8 (i:=2) m5 rfl (hK _ _ (aA λK hK=>cO (λQ q=>q) (hK _ _ (hk _ _ _ k5 t5 h3))))
 ·show d8 (i:=1) m5 rfl (hK _ _ (aA λK hK=>cO (λQ q=>q) (hK _ _ (hk _ _ _ k5 p5 h1))))
 ·show d8 (i:=2) m5 rfl (hK _ _ (aA λK hK=>kP (λQ q=>q) λQ2 hn _=>?_))
  show st ?_;left;exact jS (d:=d) G (a9 (hn _ _ (hK _ _ (hk _ _ _ (k5.trans .push) ac k5.len))))
def rG (G:Gen defs){S0:aa}{bs:Jj JG}{q:Jr}{U:Jj (T×W)}(hb:bs∈KB)(hf:Fl S r)(hr:r < S0.length)(kp:Kp r S0 S)(hq:S[q]?=ba (.dic U))(hq0:S0.length<=q)(h4:U.length<=4)(hm:MustE S bs.length S0.length U)
  (k:∀(bs':Jj JG) (q':Jr) (U':Jj (T×W)) S',GoodB bs'->bs'.length=bs.length->S'[q']?=ba (.dic U')->S0.length<=q'->MustE S' bs.length S0.length U'->Fl S' r->Kp r S0 S'->Q (.tup [.tup (ak bs'),.ref q'],S')) :
  wO (aE (al defs fuel (d+2)) "_law_numbered" 3 [.ref r,.tup (ak bs),.ref q] S) Q:=by
 show am G.numbered rfl rfl λQ' hR=>?_
 replace k:∀(bs':Jj JG) (q':Jr) (U':Jj (T×W)) S',GoodB bs'->bs'.length=bs.length->S'[q']?=ba (.dic U')->S0.length<=q'->MustE S' bs.length S0.length U'->Fl S' r->Kp r S0 S'->Q' (.rt (.tup [.tup (ak bs'),.ref q']),S'):=λa b c e f g h i j l m=>hR _ _ (k a b c e f g h i j l m)
 clear hR;show lB (d:=d) G hb ?_;intro m s S1 k1 e1 hs;dsimp only[dr,aZ];have hrt:=hf.lt;obtain⟨hb1,hb2,hb3⟩:=yw bs hb;nofun
 left;show gm e1 ?_;rw[Jl];show aV (d:=d) G.pick (hf.ka k1) ∅ ∅ λv S2 v0 v1 f2 k2=>?_
 obtain⟨nm,hnmm,enm⟩:=kS (f:=λnm=>W.tup (ak nm)) (xs:=p9 bs) (i:=v.toNat) ∅
 obtain⟨n1,n2,n3,n4⟩:=Bu bs hb nm hnmm;show d3 (k2.get _ _ ∅ e1) v0 enm (hK _ _ ?_)
 clear hK K;nofun
 left;show GP ac ∅ (hK _ _ ?_)
 clear hK K;generalize hS4:S2++[O.lst [.int 0]]=S4;have k24:Ka S2 S4:=hS4 ▸ .push;have f4:Fl S4 r:=f2.ka k24;have kp4:Kp r S0 S4:=(kp.trans (k1.kp r)).trans (k2.trans (k24.kp r));have q4:S4[q]?=ba (.dic U):=k24.get _ _ (k2.get _ _ ∅ (k1.get _ _ hq))
 have m4:MustE S4 bs.length S0.length U:=((hm.ka k1).kp hr k2).ka k24;clear hS4 k24 hm hq f2 k2 k1 e1 enm hf;nofun
 show iO (bs.length:JG) (λk Z S'=>(∃x8,Z=[ba (.ref r),ba (.tup (ak bs)),ba (.ref q),ba (.int bs.length),ba (.ref m),ba (.ref s),ba (.tup (ak nm)),ba (.ref S4.length),x8,gV,gV,gV])/\S'[S4.length]?=ba (.lst (ak (gT bs nm k)))/\Ka S4 S') rfl rfl ∅ #[rfl,#[_,rfl],?_,.push] ?_ ?_
 ·rw[ac]; simp[gT,ak]
 ·rintro i Z S5 hi ⟨⟨x8,rfl⟩,e5,k5⟩ Q2 hn _;clear hK k;have hi':i < bs.length:=∅
  have hi1:i < nm.length:=∅
  have c:=n3 _ (gw hi');have c2:=n2 _ (gw hi1);show st ?_;left;show ag (JU i) (js (JU i) hi') (ag c.1 (js c.1 (by rw[JN]; omega)) (ag (JU i) (js (JU i) hi1) ?_))
  rw[JN];show ab (Cm e5 c2.1 (by rw[show(ak (gT bs nm i)).length=_ from Jl ..,jr]; omega)) (a9 (hn _ _ #[#[_,rfl],?_,k5.late (Jy _)]))
  rw[aX e5];unfold ak;rw[gT,List.map_set]
 ·rintro Z S5 ⟨⟨x8,rfl⟩,e5,k5⟩;rw[JN]at e5;show hK _ _ (st ?_);clear hK K;dsimp only[wS,wE,JE];have f5:Fl S5 r:=f4.ka k5;have q5:S5[q]?=ba (.dic U):=k5.get _ _ q4;have m5:MustE S5 bs.length S0.length U:=m4.ka k5;have kp5:Kp r S0 S5:=kp4.trans (k5.kp r);have hq5:=dq q5;have ht5:=dq e5;have hqt:q≠S4.length:=by rintro rfl; rw[e5]at q5; cases q5
  have hn9:(bs.length:JG)<=3:=∅
  have hr5:=f5.lt;clear k5 m4 q4 f4;nofun
  show Bv q U (λk Z S'=>(∃x10 x11,Z=[ba (.ref r),ba (.tup (ak bs)),ba (.ref q),ba (.int bs.length),ba (.ref m),ba (.ref s),ba (.tup (ak nm)),ba (.ref S4.length),x8,ba (.ref S5.length),x10,x11])/\S'[q]?=ba (.frd U)/\MustE S' bs.length S0.length U/\S'[S4.length]?=ba (.lst (ak (gT bs nm bs.length)))/\(∃U',S'[S5.length]?=ba (.dic U')/\U'.length<=k/\MustE S' bs.length S0.length U')/\Fl S' r/\Kp r S0 S') rfl rfl #[rfl,aj q5,#[gV,gV,rfl],aX (aj q5),(m5.ka .push).set (aj q5),?_,#[[],?_,Jy _,λ_ h=>(nomatch h)],(f5.ka .push).own ∅,(kp5.trans .push).late hq0] ?_ ?_
  ·rw[bj hqt]; exact aj e5
  ·rw[bj ∅]; exact ac
  ·rintro i p Z S6 hp ⟨⟨x10,x11,rfl⟩,q6,m6,t6,⟨U',o6,l6,mm6⟩,f6,kp6⟩;clear hK k;have hpm:=JD hp;have hil:=(JK.mp hp).1;obtain⟨u,v',l,ws,rfl,hu,hv',hl,hws,hl3,hw3⟩:=m6 p hpm;obtain⟨g,hg⟩:=Bs hpm;obtain⟨u2,v2,l2,ws2,he2,_,_,hl2,hws2,hl32,hw32⟩:=m6 _ (pZ hg);injection he2 with _ he2
   subst he2;have hul:u.toNat < nm.length:=∅
   have hvl:v'.toNat < nm.length:=∅
   show ab (show gA (.tp [10,11]) (bu u v',W.ref l).1.w [ba (.ref r),ba (.tup (ak bs)),ba (.ref q),ba (.int bs.length),ba (.ref m),ba (.ref s),ba (.tup (ak nm)),ba (.ref S4.length),x8,ba (.ref S5.length),x10,x11] S6=ba ([ba (.ref r),ba (.tup (ak bs)),ba (.ref q),ba (.int bs.length),ba (.ref m),ba (.ref s),ba (.tup (ak nm)),ba (.ref S4.length),x8,ba (.ref S5.length),ba (.int u),ba (.int v')],S6)from rfl) λQ2 hn _=>?_
   show st ?_;left;show sQ l2 (ak ws2) (λi zs Z2 S7=>(∃a1,Z2=[gV,a1,ba (.tup (ak nm))])/\zs=ak ((ws2.take i).map λw=>nm.getD w.toNat 0)/\S7=S6) rfl rfl rfl ?_ ?_ ?_ ?_
   ·dsimp only[wE,wA,wV,wG];exact ab (mz (Bg q6) hg) #[rfl,#[_,rfl],rfl,rfl]
   ·rintro i zs Z2 S7 ⟨_,_,rfl⟩;exact hws2
   ·rintro i w zs Z2 S7 hw ⟨⟨a1,rfl⟩,rfl,rfl⟩;unfold ak at hw;rw[Jv,Jo]at hw;obtain⟨x,hx,rfl⟩:=hw;obtain⟨x0,x1⟩:=hw32 x (JD hx);have hxl:x.toNat < nm.length:=∅
    show ab (show gA (.nm 1) (.int x) [gV,a1,ba (.tup (ak nm))] S7=ba ([gV,ba (.int x),ba (.tup (ak nm))],S7)from rfl) ?_
    dsimp only[gM,wC,wE,wA,wV,wG];show#[λ_=>ag x0 (js x0 hxl) #[#[_,rfl],?_,rfl],λz=>by cases z]
    rw[KH,hx];simp[ak]
   ·rintro zs Z2 S7 ⟨_,rfl,rfl⟩;rw[show(ak ws2).length=ws2.length from Jl ..,KR]
    show#[few (by simp[ak]; omega),ag hu.1 (js hu.1 hul) (ag hv'.1 (js hv'.1 hvl) ?_)]
    show ab (yy (aj o6) (by rw[Kq]; omega)) (a9 (hn _ _ #[#[_,_,rfl],?_,(m6.ka .push).set (aj o6),?_,#[_,aX (aj o6),?_,?_],(f6.ka .push).own ∅,(kp6.trans .push).late kp5.len]))
    ·rw[bj ∅]; exact aj q6
    ·rw[bj ∅]; exact aj t6
    ·exact J8 (c9 ..) (Nj l6)
    ·show((mm6.ka .push).put (n2 _ (gw hul)) (n2 _ (gw hvl)) kp6.len ac (by simp; omega) ?_).set (aj o6)
     intro w hw;obtain⟨x,hx,rfl⟩:=JI.mp hw;obtain⟨x0,x1⟩:=hw32 x hx;exact n2 _ (gw ∅)
  ·rintro Z S6 ⟨⟨x10,x11,rfl⟩,q6,m6,t6,⟨U',o6,l6,mm6⟩,f6,kp6⟩;show hK _ _ (st ?_);left;exact dt t6 (k _ _ U' _ n4 (jr _ _ _) o6 kp5.len mm6 f6 kp6)
end
abbrev ve (x y z:JG):Jj (T×W):=[(bu 1 0,.int x),(bu 2 0,.int y),(bu 2 1,.int z)]
abbrev Bw (x y z a b c:JG):Jr->Jj (T×W)
 | 0=>ve x y z
 | 1=>ve x y z++[(bu 0 1,.int a)]
 | 2=>ve x y z++[(bu 0 1,.int a),(bu 0 2,.int b)]
 | _=>ve x y z++[(bu 0 1,.int a),(bu 0 2,.int b),(bu 1 2,.int c)]
def Ef {n x y z a b c:JG}(hx:0<=x/\x < n)(hy:0<=y/\y < n)(hz:0<=z/\z < n)(ha:0<=a/\a < n)(hb:0<=b/\b < n)(hc:0<=c/\c < n):∀i j:Jr,i < 3->j < 3->i≠j->∃p:JG,cj (Bw x y z a b c 3) (bu i j)=ba (.int p)/\0<=p/\p < n:=by
 intro i j hi hj hij
 match i,j,hi,hj,hij with
 | 0,0,_,_,h=>exact absurd rfl h
 | 0,1,_,_,_=>exact#[a,by rfl,ha]
 | 0,2,_,_,_=>exact#[b,by rfl,hb]
 | 1,0,_,_,_=>exact#[x,by rfl,hx]
 | 1,1,_,_,h=>exact absurd rfl h
 | 1,2,_,_,_=>exact#[c,by rfl,hc]
 | 2,0,_,_,_=>exact#[y,by rfl,hy]
 | 2,1,_,_,_=>exact#[z,by rfl,hz]
 | 2,2,_,_,h=>exact absurd rfl h
def qa:∀t∈az,t.length=3/\t.getD 0 0 < 3/\t.getD 1 0 < 3/\t.getD 2 0 < 3/\t.getD 0 0≠t.getD 1 0/\t.getD 1 0≠t.getD 2 0/\t.getD 0 0≠t.getD 2 0:=by decide
def yz {t:Jj Jr}(h:t∈az):∃i j k:Jr,t=[i,j,k]/\i < 3/\j < 3/\k < 3/\i≠j/\j≠k/\i≠k:=by
 obtain⟨h1,h2⟩:=qa t h
 match t,h1,h2 with
 | [i,j,k],_,h2=>exact#[i,j,k,rfl,h2]
section
variable{defs:Jj (JA×Df)}{fuel d:Jr}{S:aa}{r:Jr}{Q:QW}
def yA {l:Jr}{f:JG}{ws:Jj JG}(h:S[l]?=ba (.lst (ak ws))):∃b,bO .notin (.int f) (.ref l) S=ba (.bl b,S):=by
 have hf:(bh (.int f)&&(ak ws).all bh)=true:=by
  (dsimp only[bh]; simp only[Nt,JV])
  intro x hx;obtain⟨z,_,rfl⟩:=JI.mp hx;rfl
 show#[!(ak ws).any λz=>qB z (.int f),?_]
 (dsimp only[bO,uF,cw,oP,zr,cq]; simp only[jR h,ap h,hf,Mf,Kc])
def Eg {q:Jr}{U:Jj (T×W)}(h:S[q]?=ba (.dic U)):tyOk "dict" S (.ref q)=true:=by simp[tyOk,cW h]
def Bx {q:Jr}{U:Jj (T×W)}(h:S[q]?=ba (.dic U))(k:Q (.ref S.length,S++[.lst (U.map λp=>p.1.w)])):wO (Bi.list.fn [.ref q] S) Q:=by
 show ab ?_ k;have h1:Ak S q=gV:=by simp[Ak,h]
 have h2:lP [.ref q] S=gV:=by(dsimp only[lP,ip,cq]; simp[h1,nU h])
 simp only[Bi.fn,vw,h2,lV,cW h]
def yB (G:Gen defs){bs:Jj JG}{q b0:Jr}{U:Jj (T×W)}{x y z:JG}(hb:GoodB bs)(hx:0<=x/\x < bs.length)(hy:0<=y/\y < bs.length)(hz:0<=z/\z < bs.length)(hq:S[q]?=ba (.dic U))(hm:MustE S bs.length b0 U)
  (k:∀b S',Ka S S'->Q (.bl b,S')):wO (aE (al defs fuel (d+2)) "_law_breaks" 5 [.tup (ak bs),.ref q,.int x,.int y,.int z] S) Q:=by
 show am G.breaks rfl rfl λQ' hR=>?_
 replace k:∀b S',Ka S S'->Q' (.rt (.bl b),S'):=λa b c=>hR _ _ (k a b c)
 clear hR;change wZ _ _ dA [ba (.tup (ak bs)),ba (.ref q),ba (.int x),ba (.int y),ba (.int z),gV,gV,gV,gV,gV] S Q';obtain⟨a,ha1,ha⟩:=hb.rng x.toNat ∅
 obtain⟨b,hb1,hb2⟩:=hb.rng y.toNat ∅
 obtain⟨c,hc1,hc⟩:=hb.rng z.toNat ∅
 have hqt:=dq hq;unfold dA;nofun
 left;show#[ac,ab (show dk [] [.tup [.int 1,.int 0],.int x,.tup [.int 2,.int 0],.int y,.tup [.int 2,.int 1],.int z]=ba (ve x y z)from rfl) (hK _ _ ?_)]
 clear hK K;have e1:((S++[O.dic []]).set S.length (.dic (ve x y z)))[S.length]?=ba (.dic (ve x y z)):=aX ac;have k1:Ka S ((S++[O.dic []]).set S.length (.dic (ve x y z))):=Ka.push.late (Jy _);have l1:((S++[O.dic []]).set S.length (.dic (ve x y z))).length=S.length+1:=by simp
 generalize(S++[O.dic []]).set S.length (.dic (ve x y z))=S1 at e1 k1 l1 ⊢;nofun
 show d6 rfl rfl ?_;dsimp only[wE,wA,wV,wG];show Bx e1 #[S1.length,[dg 1 0,dg 2 0,dg 2 1],(λk Z S'=>(∃x6,Z=[ba (.tup (ak bs)),ba (.ref q),ba (.int x),ba (.int y),ba (.int z),ba (.ref S.length),x6,gV,gV,gV])/\S'[S.length]?=ba (.dic (Bw x y z a b c k))/\S'[S1.length]?=ba (.lst [dg 1 0,dg 2 0,dg 2 1])/\Ka S S'),rfl,#[#[_,rfl],aj e1,ac,k1.trans .push],λi Z S' h=>h.2.2.1,?_,?_]
 ·have step:∀(u v f g:JG) (kv kv':Jj (T×W)) (S':aa) (i:Jr),cj kv (bu u v)=ba (.int f)->0<=f->bs[f.toNat]?=ba g->kv.length < 10->eF kv (bu v u) (.int g)=kv'->Bw x y z a b c (i+1)=kv'->∀x6:Jq W,S'[S.length]?=ba (.dic kv)->S'[S1.length]?=ba (.lst [dg 1 0,dg 2 0,dg 2 1])->Ka S S'->
    wO (gA (.nm 6) (dg u v) [ba (.tup (ak bs)),ba (.ref q),ba (.int x),ba (.int y),ba (.int z),ba (.ref S.length),x6,gV,gV,gV] S') λp=>sO (al defs fuel (d+1)) fuel #v[.put (.v 5) (.tup #v[.ix (.v 6) (.c (.int 1)),.ix (.v 6) (.c (.int 0))]) (.ix (.v 0) (.ix (.v 5) (.v 6)))] p.1 p.2 (λZ S'=>(∃x6,Z=[ba (.tup (ak bs)),ba (.ref q),ba (.int x),ba (.int y),ba (.int z),ba (.ref S.length),x6,gV,gV,gV])/\S'[S.length]?=ba (.dic (Bw x y z a b c (i+1)))/\S'[S1.length]?=ba (.lst [dg 1 0,dg 2 0,dg 2 1])/\Ka S S') Q':=by
   clear hK k;intro u v f g kv kv' S' i h1 h2 h3 h4 h5 h6 x6 e e' k;show ab (show gA (.nm 6) (dg u v) [ba (.tup (ak bs)),ba (.ref q),ba (.int x),ba (.int y),ba (.int z),ba (.ref S.length),x6,gV,gV,gV] S'=ba ([ba (.tup (ak bs)),ba (.ref q),ba (.int x),ba (.int y),ba (.int z),ba (.ref S.length),ba (dg u v),gV,gV,gV],S')from rfl) λQ2 hn _=>?_
   show st ?_;left;show ab (mz (cW e) h1) (ag h2 (w:=.int g) (by unfold ak; rw[Jv,h3]; rfl) (ag #v[] rfl (ag #v[] rfl ?_)))
   show ab (yy e (by rw[Kq]; omega)) (a9 (hn _ _ #[#[_,rfl],?_,?_,k.late (Jy _)]))
   ·rw[aX e,h5,h6]
   ·rw[bj ∅]; exact e'
  rintro i w Z S2 hw ⟨⟨x6,rfl⟩,e2,l2,k2⟩
  match i,hw,e2 with
  | 0,hw,e2=>cases hw; exact step 1 0 x a _ _ S2 0 (by rfl) hx.1 ha1 (by simp[Bw,ve]) (by rfl) (by rfl) x6 e2 l2 k2
  | 1,hw,e2=>cases hw; exact step 2 0 y b _ _ S2 1 (by rfl) hy.1 hb1 (by simp[Bw,ve]) (by rfl) (by rfl) x6 e2 l2 k2
  | 2,hw,e2=>cases hw; exact step 2 1 z c _ _ S2 2 (by rfl) hz.1 hc1 (by simp[Bw,ve]) (by rfl) (by rfl) x6 e2 l2 k2
  | n+3,hw,_=>simp at hw
 ·rintro Z S2 ⟨⟨x6,rfl⟩,e2,l2,k2⟩;have hv:=Ef hx hy hz ha hb2 hc;have e2:S2[S.length]?=ba (.dic (Bw x y z a b c 3)):=e2;show hK _ _ ?_;clear hK K;have hlt2:=dq e2;nofun
  show d6 rfl rfl ?_;dsimp only[wE,wA,wV,wG];show jS (d:=d) G #[S2.length,az.map (λt=>W.tup (aB t)),(λk Z S'=>(∃x7 x8 x9,Z=[ba (.tup (ak bs)),ba (.ref q),ba (.int x),ba (.int y),ba (.int z),ba (.ref S.length),x6,x7,x8,x9])/\S'[S.length]?=ba (.dic (Bw x y z a b c 3))/\S'[S2.length]?=ba (.lst (az.map (λt=>W.tup (aB t))))/\Ka S S'),rfl,#[#[_,_,_,rfl],aj e2,ac,k2.trans .push],λi Z S' h=>h.2.2.1,?_,?_]
  ·rintro i w Z S3 hw ⟨⟨x7,x8,x9,rfl⟩,e3,l3,k3⟩;clear hK;rw[Jv,Jo]at hw;obtain⟨t,ht,rfl⟩:=hw;obtain⟨i1,j1,h1,rfl,hi1,hj1,hh1,n1,n2,n3⟩:=yz (JD ht);obtain⟨p1,g1,r1⟩:=hv i1 j1 hi1 hj1 n1;obtain⟨p2,g2,r2⟩:=hv j1 h1 hj1 hh1 n2;obtain⟨p3,g3,r3⟩:=hv i1 h1 hi1 hh1 n3;have q3:=k3.get _ _ hq;show ab (show gA (.tp [7,8,9]) (W.tup (aB [i1,j1,h1])) [ba (.tup (ak bs)),ba (.ref q),ba (.int x),ba (.int y),ba (.int z),ba (.ref S.length),x6,x7,x8,x9] S3=ba ([ba (.tup (ak bs)),ba (.ref q),ba (.int x),ba (.int y),ba (.int z),ba (.ref S.length),x6,ba (.int i1),ba (.int j1),ba (.int h1)],S3)from rfl) λQ2 hn hr=>?_
   nofun
   dsimp only[wS,wT,wE,wA,wV,wG];show ab (mz (cW e3) g3) #[Eg q3,ab (mz (cW e3) g1) (ab (mz (cW e3) g2) (ab (mz (cW e3) g3) ?_))];have hget:Me.get.fn (.ref q) [.tup [.int p1,.int p2],.ref S3.length] (S3++[O.lst [.int p3]])=ba ((cj U (bu p1 p2)).getD (.ref S3.length),S3++[O.lst [.int p3]]):=by
    have hk:gK (.tup [.int p1,.int p2])=ba (bu p1 p2):=iV
    (dsimp only[Me.fn,sd]; simp only[cW (aj q3),hk])
   show ab hget ?_;have hres:∃(l:Jr) (ws:Jj JG),(cj U (bu p1 p2)).getD (.ref S3.length)=.ref l/\(S3++[O.lst [.int p3]])[l]?=ba (.lst (ak ws)):=by
    cases hg:cj U (bu p1 p2)with
    | none=>exact#[S3.length,[p3],rfl,ac]
    | some g=>
     obtain⟨u,v,l,ws,he,_,_,_,hl,_⟩:=(hm.ka k3) _ (pZ hg);injection he with _ he
     subst he;exact#[l,ws,rfl,aj hl]
   obtain⟨l,ws,hl1,hl2⟩:=hres;dsimp only;rw[hl1];obtain⟨kb,hkb⟩:=yA (f:=p3) hl2;show ab hkb ?_;dsimp only[wB];show ah (Q0:=Q2) (λ_ Q3 _ hr3=>st (hr3 _ _ (hr _ _ (k _ _ (k3.trans .push))))) λ_ Q3 hn3 _=>a9 (hn3 _ _ (hK _ _ (a9 (hn _ _ #[#[_,_,_,rfl],aj e3,aj l3,k3.trans .push]))))
  ·rintro Z S3 ⟨⟨x7,x8,x9,rfl⟩,e3,l3,k3⟩;exact hK _ _ (st (k _ _ k3))
end
abbrev E2 (k:JG):Wd:=[(0,[]),(0,[k]),(0,[k,k])]
def By:∀g∈[E2 0,E2 1],g∈aM 1 [0,1]:=by decide +kernel
abbrev yC (a k:JG):Wd:=[(0,[]),(k,[0]),(a - 1,[0,0])]
def yD:∀k∈ec 2,yC 2 k∈aM 2 [0]:=by decide +kernel
def yE:∀k∈ec 3,yC 3 k∈aM 3 [0]:=by decide +kernel
def Bz {a x y:JG}(h:yC a x=yC a y):x=y:=by
 unfold yC at h;injection h with _ h
 injection h with h _
 injection h
def Cr {a n:Jr}{m0 m1 m2 x y z:JG}(h0:0<=m0/\m0 < a)(h1:0<=m1/\m1 < a)(h2:0<=m2/\m2 < a)(hx:0<=x/\x < n)(hy:0<=y/\y < n)(hz:0<=z/\z < n):GoodW a n [(m0,[]),(m1,[x]),(m2,[y,z])]:=by
 show#[λk p h=>?_,λk p h=>?_,λk p h=>?_] <;> match k,h with
 | 0,h=>cases h; first|exact h0|rfl|(intro w hw; cases hw)
 | 1,h=>cases h; first|exact h1|rfl|(intro w hw; rw[JH.mp hw]; exact hx)
 | 2,h=>cases h; first|exact h2|rfl|(intro w hw; rcases JC.mp hw with e|hw <;> first|exact e ▸ hy|(rw[JH.mp hw]; exact hz))
 | n+3,h=>simp at h
def Eh {M:JA->FF}{Z:Fm}{S:aa}{i n:Jr}{Q:QW}(hv:∀Q:W->Prop,Q (.int n)->wV Z i Q)(hn:n<=3)(k:∀j:JG,0<=j->j<=27->j=(n:JG)*n*n->Q (.int j,S)):wE M (.op .mul (.op .mul (.v i) (.v i)) (.v i)) Z S Q:=by
 have b1 : -(2 ^ 64) < (n:JG):=∅
 have b2:(n:JG) < 2 ^ 64:=∅
 have hc:(n:JG)*n*n<=27/\0<=(n:JG)*n*n:=by rcases(show n=0\/n=1\/n=2\/n=3 by omega)with h|h|h|h <;> rw[h] <;> decide
 dsimp only[wE];have em:∀m:JG,fN .mul (.int m) (.int n) S=ba (.int (m*n),S):=λm=>pN b1 b2
 generalize fN .mul=B at em ⊢;show hv _ ?_;show hv _ ?_;show ab (em _) ?_;show hv _ ?_;show ab (em _) ?_;have:=k _ hc.2 hc.1 rfl;exact this
def yF {M:JA->FF}{fuel:Jr}{Z:Fm}{S:aa}{K:Fm->aa->Prop}{Q:QO}{i0 i n:Jr}{b:Ss}(hv:∀Q:W->Prop,Q (.int n)->wV Z i Q)(hn:n<=3)(ok:fL b=true)
  (h:∀j:JG,0<=j->j<=27->j=(n:JG)*n*n->∃I:Jr->Fm->aa->Prop,I 0 Z S/\(∀(i:Jr) (Z:Fm) (S:aa),(i:JG) < j->I i Z S->sO M fuel b (Z.set i0 (ba (.int i))) S (I (i+1)) Q)/\∀Z S,I j.toNat Z S->K Z S) :
  Wp (fK M fuel (.loop (.nm i0) (.rng #v[.op .mul (.op .mul (.v i) (.v i)) (.v i)]) b) Z S) (oB K Q):=
 have hw:=Eh (M:=M) (S:=S) (Q:=λp=>∃(j:JG) (I:Jr->Fm->aa->Prop),p.1=.int j/\(-(2 ^ 62)<=j/\j < 2 ^ 62)/\I 0 Z p.2/\(∀(i:Jr) (Z:Fm) (S:aa),(i:JG) < j->I i Z S->sO M fuel b (Z.set i0 (ba (.int i))) S (I (i+1)) Q)/\∀Z S,I j.toNat Z S->K Z S) hv hn λj j0 j27 e=>let ⟨I,h0,h1,h2⟩:=h j j0 j27 e; #[j,I,rfl,∅,h0,h1,h2]
 iT rfl ok hw
section
variable{defs:Jj (JA×Df)}{fuel d:Jr}{S:aa}{r:Jr}{Q:QW}
def yG (hfu:20 < fuel)(G:Gen defs)(hf:Fl S r)(k:∀w S',cD w->Fl S' r->Kp r S S'->Q (w,S')):wO (aE (al defs fuel (d+7)) "_law_laying_rule" 1 [.ref r] S) Q:=by
 show am G.laying_rule rfl rfl λQ' hR=>?_
 replace k:∀w S',cD w->Fl S' r->Kp r S S'->Q' (.rt w,S'):=λz S' a b c=>hR _ _ (k z S' a b c)
 clear hR;change wZ _ _ bD [ba (.ref r),gV,gV,gV,gV,gV,gV,gV,gV,gV,gV,gV,gV,gV,gV] S Q';unfold bD;nofun
 left;show aV (d:=d+5) G.pick hf #v[] #v[] λv S1 v0 v7 f1 k1=>hK _ _ ?_
 clear hK K;nofun
 dsimp only[wS,wT,wE,wV,wG,dX,aC,wB];show ah (Q0:=Q') (λ_ Q2 _ hr=>?_) (λ_ Q2 hn _=>a9 (hn _ _ (hK _ _ ?_)))
 ·show st ?_;left;exact pY (d:=d) hfu G f1 λw S2 a b c=>hr _ _ (k w S2 a b (k1.trans c))
 clear hK K hn;nofun
 dsimp only[wS,wT,wE,wV,wG,dX,aC,wB];show ah (Q0:=Q') (λ_ Q2 _ hr=>?_) (λ_ Q2 hn _=>a9 (hn _ _ (hK _ _ ?_)))
 ·show st ?_;left;exact u9 (d:=d) hfu G f1 λw S2 a b c=>hr _ _ (k w S2 a b (k1.trans c))
 clear hK K hn;have hr1:=f1.lt;nofun
 left;show lA (d:=d+4) G f1 λw2 S2 hw2 f2 k2=>?_
 obtain⟨bs0,q0,U0,most,rfl,hbs0,m1,m3,m6,hq0,hq0l,h40,hm0⟩:=hw2;dsimp only[wU];show ab (show dR [2,3,4] [.tup (ak bs0),.ref q0,.int most] [ba (.ref r),ba (.int v),gV,gV,gV,gV,gV,gV,gV,gV,gV,gV,gV,gV,gV]=ba [ba (.ref r),ba (.int v),ba (.tup (ak bs0)),ba (.ref q0),ba (.int most),gV,gV,gV,gV,gV,gV,gV,gV,gV,gV]from rfl) (hK _ _ ?_)
 clear hK K;nofun
 left;show aV (d:=d+5) G.pick f2 ∅ ∅ λv3 S3 v30 v3m f3 k3=>?_
 dsimp only[cu,aC];obtain⟨a,ea⟩ : ∃a:Jr,1+v3=a:=#[(1+v3).toNat,∅]
 rw[ea];show hK _ _ ?_;clear hK K;nofun
 left;show rG (d:=d+4) G (S0:=S1) hbs0 f3 hr1 (k2.trans k3) (k3.get _ _ ∅ hq0) hq0l h40 (hm0.kp hr1 k3) λbs q U S4 hb hbl hq hql hm f4 k4=>?_
 dsimp only[wU];show ab (show dR [2,3] [.tup (ak bs),.ref q] [ba (.ref r),ba (.int v),ba (.tup (ak bs0)),ba (.ref q0),ba (.int most),ba (.int a),gV,gV,gV,gV,gV,gV,gV,gV,gV]=ba [ba (.ref r),ba (.int v),ba (.tup (ak bs)),ba (.ref q),ba (.int most),ba (.int a),gV,gV,gV,gV,gV,gV,gV,gV,gV]from rfl) (hK _ _ ?_)
 clear hK K;rw[<- hbl]at hm m6;have hn:bs.length=2\/bs.length=3:=by rw[hbl]; exact(yw bs0 hbs0).1
 have hsz:SizeOk a bs:=#[∅,hb,by
  have h1:(a:JG)*bs.length<=most*bs.length:=Int.mul_le_mul_of_nonneg_right ∅ ∅
  exact_mod_cast Int.le_trans h1 m6,∅]
 clear m6 hm0 hq0 hq0l h40 hbl hbs0 k2 k3 f2 f3;nofun
 left;show ft (d:=d+1) hfu G f4 ∅ ∅ λms ns S5 hml hnl hnm f5 k5=>hK _ _ ?_
 clear hK K;have kk:Kp r S S5:=k1.trans (k4.trans k5);have hrt:=f5.lt;have hq5:S5[q]?=ba (.dic U):=k5.get _ _ ∅ hq
 have hm5:MustE S5 bs.length S1.length U:=hm.kp hr1 k5;have hqn:q < S5.length:=dq hq5;clear k1 k4 k5 f4 hm hq hql f1;show st ?_;dsimp only[wS,wE,JE];nofun
 left;show bp ?_;rw[show(ak bs).length=bs.length from Jl ..]
 show hK _ _ ?_;clear hK K;nofun
 show yF (n:=bs.length) (λQ q=>q) ∅ rfl λj j0 j27 hj=>?_
 show#[(λ_ Z S'=>(∃x9 x10 x11 x12 x13 x14,Z=[ba (.ref r),ba (.int v),ba (.tup (ak bs)),ba (.ref q),ba (.int most),ba (.int a),ba (aS ms ns bs []),ba (.ref S5.length),ba (.int bs.length),x9,x10,x11,x12,x13,x14])/\(∃U fs,S'[S5.length]?=ba (.dic U)/\FigD (aM a bs) U fs)/\S'[q]?=ba (.dic U)/\MustE S' bs.length S1.length U/\Fl S' r/\Kp r S S'),#[#[_,_,_,_,_,_,rfl],#[[],[],ac,.nil],aj hq5,hm5.ka .push,f5.ka .push,kk.trans .push],?_,?_]
 ·rintro i Z S6 hi ⟨⟨x9,x10,x11,x12,x13,x14,rfl⟩,⟨kvd,fs,e6,hd⟩,hq6,hm6,f6,k6⟩ Q2 hn2 _;clear hK k;have hnp:(0:JG) < bs.length:=∅
  have hnb:(bs.length:JG) < 1073741824:=∅
  have y1:0<=(i:JG) % bs.length/\(i:JG) % bs.length < bs.length:=#[Mt _ ∅,LZ _ hnp]
  have y2:0<=(i:JG) / bs.length % bs.length/\(i:JG) / bs.length % bs.length < bs.length:=#[Mt _ ∅,LZ _ hnp]
  have y3:0<=(i:JG) / bs.length / bs.length/\(i:JG) / bs.length / bs.length < bs.length:=by
   rcases hn with h|h <;> rw[h]at hj ⊢ <;> omega
  nofun
  left;show ab (kN hnp) (ab (kO hnp hnb) (ab (kN hnp) ?_));dsimp only[w2];show hK _ _ ?_;clear hK K;nofun
  left;show ab (kO hnp hnb) (ab (kO hnp hnb) (hK _ _ ?_));clear hK K;dsimp only;generalize(i:JG) % bs.length=z1 at y1 ⊢;generalize(i:JG) / bs.length % bs.length=z2 at y2 ⊢;generalize(i:JG) / bs.length / bs.length=z3 at y3 ⊢;nofun
  dsimp only[wS,wT,wA,wE,wV,wG];show yB (d:=d+4) G hb y1 y2 y3 hq6 hm6 λb S7 k7=>?_
  dsimp only[cQ,aC];show ah (Q0:=Q2) (λ_ Q3 hn3 _=>?_) (λ_ Q3 hn3 _=>a9 (hn3 _ _ (hK _ _ (a9 (hn2 _ _ #[#[_,_,_,_,_,_,rfl],#[kvd,fs,k7.get _ _ e6,hd],k7.get _ _ hq6,hm6.ka k7,f6.ka k7,k6.trans (k7.kp r)])))))
  show aA λK3 hK3=>?_
  show d6 rfl rfl ?_;dsimp only[wE,wA,wV,wG];have h56:S5.length < S6.length:=dq e6;have h67:=k7.len;show pX (d:=d+5) G (a:=a) ∅ λt ts S8 e8 ht ht7 k8=>?_
  show#[t,ts.map eN,(λ_ Z S'=>(∃x9 x13 x14,Z=[ba (.ref r),ba (.int v),ba (.tup (ak bs)),ba (.ref q),ba (.int most),ba (.int a),ba (aS ms ns bs []),ba (.ref S5.length),ba (.int bs.length),x9,ba (.int z1),ba (.int z2),ba (.int z3),x13,x14])/\(∃U fs,S'[S5.length]?=ba (.dic U)/\FigD (aM a bs) U fs)/\S'[q]?=ba (.dic U)/\MustE S' bs.length S1.length U/\S'[t]?=ba (.lst (ts.map eN))/\Fl S' r/\Kp r S S'),rfl,#[#[_,_,_,rfl],#[kvd,fs,k8.get _ _ (k7.get _ _ e6),hd],k8.get _ _ (k7.get _ _ hq6),(hm6.ka k7).ka k8,e8,(f6.ka k7).ka k8,k6.trans ((k7.trans k8).kp r)],λi Z S' h=>h.2.2.2.2.1,?_,?_]
  ·rintro j w Z S9 hw ⟨⟨x9,x13,x14,rfl⟩,⟨kvd,fs,e9,hd⟩,hq9,hm9,ht9,f9,k9⟩;clear hK3 hn3 hK hn2;rw[Jv,Jo]at hw;obtain⟨⟨tr1,tr2,tr3⟩,htr,rfl⟩:=hw;obtain⟨t1,t2,t3⟩:=ht _ (JD htr);show ab (show gA (.nm 13) (eN (tr1,tr2,tr3)) [ba (.ref r),ba (.int v),ba (.tup (ak bs)),ba (.ref q),ba (.int most),ba (.int a),ba (aS ms ns bs []),ba (.ref S5.length),ba (.int bs.length),x9,ba (.int z1),ba (.int z2),ba (.int z3),x13,x14] S9=ba ([ba (.ref r),ba (.int v),ba (.tup (ak bs)),ba (.ref q),ba (.int most),ba (.int a),ba (aS ms ns bs []),ba (.ref S5.length),ba (.int bs.length),x9,ba (.int z1),ba (.int z2),ba (.int z3),ba (eN (tr1,tr2,tr3)),x14],S9)from rfl) λQ4 hn4 _=>?_
   have hu:GoodW a bs.length [(tr1,[]),(tr2,[z1]),(tr3,[z2,z3])]:=Cr t1 t2 t3 y1 y2 y3;nofun
   left;show ag #v[] rfl (ag #v[] rfl (hK _ _ ?_))
   clear hK K;show st ?_;left;show ag #v[] rfl (ab (rz (d0 rfl)) ?_)
   show iR (d:=d+3) (m0:=.tup (ms.map W.str)) (b0:=.tup []) (u:=[(tr1,[]),(tr2,[z1]),(tr3,[z2,z3])]) G hb hnl hu rfl λS10 k10=>?_
   have e10:=k10.get _ _ e9;exact tj e10 hd hsz hu rfl λo ho=>a9 (hn4 _ _ #[#[_,_,_,rfl],ho,by rw[bj ∅]; exact k10.get _ _ hq9,(hm9.ka k10).set e10,by rw[bj ∅]; exact k10.get _ _ ht9,(f9.ka k10).own hrt,(k9.trans (k10.kp r)).late kk.len])
  ·rintro Z S9 ⟨⟨x9,x13,x14,rfl⟩,hdd,hq9,hm9,ht9,f9,k9⟩;exact hK3 _ _ (a9 (hn3 _ _ (hK _ _ (a9 (hn2 _ _ #[#[_,_,_,_,_,_,rfl],hdd,hq9,hm9,f9,k9])))))
 ·rintro Z S6 ⟨⟨x9,x10,x11,x12,x13,x14,rfl⟩,⟨kvd,fs,e6,hd⟩,hq6,hm6,f6,k6⟩;show hK _ _ (st ?_);left;exact tf (Q:=λp=>Q' (.rt p.1,p.2)) e6 hd hsz hml hnl hnm λw S8 hw k8=>k w S8 hw (f6.ka k8) (k6.trans (k8.kp r))
def rH (hfu:20 < fuel)(G:Gen defs)(hun:Is defs ("_law_unlaying_rule" : JA) 1 10 aP)(hf:Fl S r)(k:∀w S',cD w->Fl S' r->Kp r S S'->Q (w,S')):wO (aE (al defs fuel (d+6)) "_law_unlaying_rule" 1 [.ref r] S) Q:=by
 show am hun rfl rfl λQ' hR=>?_
 replace k:∀w S',cD w->Fl S' r->Kp r S S'->Q' (.rt w,S'):=λz S' a b c=>hR _ _ (k z S' a b c)
 clear hR;change wZ _ _ aP [ba (.ref r),gV,gV,gV,gV,gV,gV,gV,gV,gV] S Q';unfold aP;nofun
 left;show aV (d:=d+4) G.pick hf #v[] #v[] λv S1 v0 v7 f1 k1=>hK _ _ ?_
 clear hK K;have hlt:=f1.lt;nofun
 dsimp only[wS,wT,wE,wV,wG,dX,aC,wB];show ah (Q0:=Q') (λ_ Q2 _ hr=>?_) (λ_ Q2 hn _=>a9 (hn _ _ (hK _ _ ?_)))
 ·
  show st ?_;left;show dy 2 (λi zs Z2 S2=>(∃a1,Z2=[gV,a1])/\zs=([E2 0,E2 1].take i).map aK/\S2=S1) rfl rfl rfl #v[] #[rfl,#[gV,rfl],rfl,rfl] ?_ ?_
  ·rintro i zs Z2 S2 hi ⟨⟨a1,rfl⟩,rfl,rfl⟩;clear k hr hK;dsimp only[gM,wC,wE,wA,wV,wG,JE];show#[λ_=>#[#[_,rfl],?_,rfl],λz=>by cases z]
   rcases(show i=0\/i=1 by omega)with h|h
   ·subst h; rfl
   ·subst h; rfl
  ·rintro zs Z2 S2 ⟨_,rfl,rfl⟩;show#[d0 rfl,?_];show gF (d:=d) (a:=1) (bs:=[0,1]) (us:=[E2 0,E2 1]) hfu G (f1.ka .push) #v[] #v[] (λS' kk=>?_) #v[] #v[] λms ns S3 hml hnl hnm f3 k3=>?_
   ·simp only[dj,ap (kk.get _ _ ∅ ac)]; rfl
   exact hr _ _ (k _ _ #[1,[0,1],ms,ns,_,rfl,#[#[#v[],.inr (.inl rfl),#v[],#v[]],hml,hnl,hnm,#v[],By]] f3 (k1.trans (Kp.push.trans k3)))
 clear hK K hn;nofun
 dsimp only[wS,wT,wE,wV,wG,dX,aC,wB];show ah (Q0:=Q') (λ_ Q2 _ hr=>?_) (λ_ Q2 hn _=>a9 (hn _ _ (hK _ _ ?_)))
 ·
  clear hK;nofun
  left;show ft (d:=d) (a:=2) (bs:=[0,1]) hfu G f1 #v[] #v[] λms ns S3 hml hnl hnm f3 k3=>hK _ _ ?_
  clear hK K;have hsz:SizeOk 2 [0,1]:=#[#v[],.inr (.inl rfl),#v[],#v[]]
  have hrt:=f3.lt;have kk:Kp r S S3:=k1.trans k3;show st ?_;dsimp only[wS,wE,JE];nofun
  show d6 rfl rfl ?_;dsimp only[wE,wA,wV,wG];show pX (d:=d+4) G (a:=2) #v[] λq ts S4 e4 ht hq k4=>?_
  have hq':S3.length < q:=by simp only[Jw,JL,Lj]at hq; omega
  show#[q,ts.map eN,(λ_ Z S'=>(∃x4 x5 x6 x7 x8 x9,Z=[ba (.ref r),ba (.int v),ba (aS ms ns [0,1] []),ba (.ref S3.length),x4,x5,x6,x7,x8,x9])/\(∃U fs,S'[S3.length]?=ba (.dic U)/\FigD (aM 2 [0,1]) U fs)/\S'[q]?=ba (.lst (ts.map eN))/\Fl S' r/\Kp r S S'),rfl,#[#[_,_,_,_,_,_,rfl],#[[],[],k4.get _ _ ac,.nil],e4,(f3.ka .push).ka k4,(kk.trans .push).trans (k4.kp r)],λi Z S' h=>h.2.2.1,?_,?_]
  ·rintro i w Z S5 hw ⟨⟨x4,x5,x6,x7,x8,x9,rfl⟩,⟨U,fs,e5,hd⟩,hq5,f5,k5⟩;clear hK;rw[Jv,Jo]at hw;obtain⟨⟨tr1,tr2,tr3⟩,htt,rfl⟩:=hw;obtain⟨t1,t2,t3⟩:=ht _ (JD htt);have h53:S3.length < S5.length:=dq e5;have hq5l:q < S5.length:=dq hq5;show ab (show gA (.nm 4) (eN (tr1,tr2,tr3)) [ba (.ref r),ba (.int v),ba (aS ms ns [0,1] []),ba (.ref S3.length),x4,x5,x6,x7,x8,x9] S5=ba ([ba (.ref r),ba (.int v),ba (aS ms ns [0,1] []),ba (.ref S3.length),ba (eN (tr1,tr2,tr3)),x5,x6,x7,x8,x9],S5)from rfl) λQ3 hn3 _=>?_
   nofun
   show d6 rfl rfl ?_;dsimp only[wE,wA,wV,wG];show#[S5.length,[(1,1,0),(1,1,1),(1,0,1),(0,1,1)].map eN,(λ_ Z S'=>(∃x5 x6 x7 x8 x9,Z=[ba (.ref r),ba (.int v),ba (aS ms ns [0,1] []),ba (.ref S3.length),ba (eN (tr1,tr2,tr3)),x5,x6,x7,x8,x9])/\(∃U fs,S'[S3.length]?=ba (.dic U)/\FigD (aM 2 [0,1]) U fs)/\S'[q]?=ba (.lst (ts.map eN))/\S'[S5.length]?=ba (.lst ([(1,1,0),(1,1,1),(1,0,1),(0,1,1)].map eN))/\Fl S' r/\Kp r S S'),rfl,#[#[_,_,_,_,_,rfl],#[U,fs,aj e5,hd],aj hq5,ac,f5.ka .push,k5.trans .push],λi Z S' h=>h.2.2.2.1,?_,?_]
   ·rintro i w Z S6 hw ⟨⟨x5,x6,x7,x8,x9,rfl⟩,⟨U,fs,e6,hd⟩,hq6,hl6,f6,k6⟩;clear hK hn3;rw[Jv,Jo]at hw;obtain⟨⟨y1,y2,y3⟩,hy,rfl⟩:=hw;have hy':(0<=y1/\y1 < 2)/\(0<=y2/\y2 < 2)/\(0<=y3/\y3 < 2):=by
     have:∀p∈([(1,1,0),(1,1,1),(1,0,1),(0,1,1)]:Jj (JG×JG×JG)),(0<=p.1/\p.1 < 2)/\(0<=p.2.1/\p.2.1 < 2)/\(0<=p.2.2/\p.2.2 < 2):=by decide
     exact this _ (JD hy)
    show ab (show gA (.tp [5,6,7]) (eN (y1,y2,y3)) [ba (.ref r),ba (.int v),ba (aS ms ns [0,1] []),ba (.ref S3.length),ba (eN (tr1,tr2,tr3)),x5,x6,x7,x8,x9] S6=ba ([ba (.ref r),ba (.int v),ba (aS ms ns [0,1] []),ba (.ref S3.length),ba (eN (tr1,tr2,tr3)),ba (.int y1),ba (.int y2),ba (.int y3),x8,x9],S6)from rfl) λQ4 hn4 _=>?_
    nofun
    left;show ag #v[] rfl (ag #v[] rfl (hK _ _ ?_))
    clear hK K;have hu:GoodW 2 2 [(tr1,[]),(tr2,[y1]),(tr3,[y2,y3])]:=Cr t1 t2 t3 hy'.1 hy'.2.1 hy'.2.2;show st ?_;left;show ag #v[] rfl (ab (rz (d0 rfl)) ?_)
    show iR (d:=d+2) (m0:=.tup (ms.map W.str)) (b0:=.tup []) (bs:=[0,1]) (u:=[(tr1,[]),(tr2,[y1]),(tr3,[y2,y3])]) G (.inr (.inl rfl)) hnl hu rfl λS7 k7=>?_
    have e7:=k7.get _ _ e6;exact tj e7 hd hsz hu rfl λo ho=>a9 (hn4 _ _ #[#[_,_,_,_,_,rfl],ho,by rw[bj ∅]; exact k7.get _ _ hq6,by rw[bj ∅]; exact k7.get _ _ hl6,(f6.ka k7).own hrt,(k6.trans (k7.kp r)).late kk.len])
   ·rintro Z S6 ⟨⟨x5,x6,x7,x8,x9,rfl⟩,hdd,hq6,hl6,f6,k6⟩;exact hK _ _ (a9 (hn3 _ _ #[#[_,_,_,_,_,_,rfl],hdd,hq6,f6,k6]))
  ·rintro Z S5 ⟨⟨x4,x5,x6,x7,x8,x9,rfl⟩,⟨U,fs,e5,hd⟩,hq5,f5,k5⟩;show hK _ _ (st ?_);left;exact tf (Q:=λp=>Q2 (.rt p.1,p.2)) e5 hd hsz hml hnl hnm λw S8 hw k8=>hr _ _ (k w S8 hw (f5.ka k8) (k5.trans (k8.kp r)))
 clear hK K hn;nofun
 left;show aV (d:=d+4) G.pick f1 #v[] #v[] λv2 S2 v20 v22 f2 k2=>?_
 dsimp only[cu,aC];obtain⟨a,ea⟩ : ∃a:Jr,2+v2=a:=#[(2+v2).toNat,∅]
 rw[ea];have ha:a=2\/a=3:=∅
 show hK _ _ ?_;clear hK K;nofun
 dsimp only[wS,wE,JE];show dy (a:JG) (λi zs Z2 S3=>(∃a1,Z2=[gV,a1,ba (.int a)])/\zs=((ec i).map (yC a)).map aK/\S3=S2) rfl rfl rfl ∅ #[rfl,#[gV,rfl],rfl,rfl] ?_ ?_
 ·rintro i zs Z2 S3 hi ⟨⟨a1,rfl⟩,rfl,rfl⟩;dsimp only[gM,wC,wE,wA,wV,wG,JE,sM,aC];show#[λ_=>#[#[_,rfl],?_,rfl],λz=>by cases z]
  simp[ec,Mu,yC,aK,bU]
 ·rintro zs Z2 S3 ⟨_,rfl,rfl⟩;rw[JN];have hul:(ec a).length=a:=by simp[ec]
  show#[few (by rw[Jl,Jl,hul]; omega),hK _ _ (st ?_)]
  clear hK K;dsimp only[wS,wE,wA,wP,wV,wG];show aV (d:=d+4) G.pick (f2.ka .push) ∅ ∅ λv4 S4 v40 v4a f4 k4=>?_
  dsimp only[cu,aC,wN];obtain⟨mm,em⟩ : ∃mm:Jr,1+v4=mm:=#[(1+v4).toNat,∅]
  rw[em];have hlt2:=f2.lt;have e4:S4[S3.length]?=ba (.lst (((ec a).map (yC a)).map aK)):=k4.get _ _ ∅ ac
  have hsl:lM (.ref S3.length) gV (ba (mm:JG)) S4=ba (.ref S4.length,S4++[.lst ((((ec a).map (yC a)).take mm).map aK)]):=by
   simp only[lM,ap e4,kU,Oh]
  show ab hsl ?_;have hlt4:=f4.lt;have hmem:∀g∈((ec a).map (yC a)).take mm,g∈aM a [0]:=λg hg=>by
   obtain⟨x,hx,rfl⟩:=JI.mp (Nu hg);rcases ha with rfl|rfl
   ·exact yD x hx
   ·exact yE x hx
  show gF (d:=d) (a:=a) (bs:=[0]) (us:=((ec a).map (yC a)).take mm) hfu G (f4.ka .push) ∅ #v[] (λS' kk=>?_) (by rw[Ks,Jl,hul]; omega) (λu hu=>pW (hmem u hu)) λms ns S5 hml hnl hnm f5 k5=>?_
  ·simp only[dj,ap (kk.get _ _ ∅ ac)]
  show k _ _ #[a,[0],ms,ns,_,rfl,#[#[∅,iU,by simp; omega,∅],hml,hnl,hnm,?_,hmem]] f5 (k1.trans (k2.trans (Kp.push.trans (k4.trans (Kp.push.trans k5)))))
  show SA (Qe _ _) ?_;unfold Rv ec;rw[LK,LK];exact(Op (n:=a)).imp λh e=>h (by have:=Bz e; omega)
def yH (hfu:20 < fuel)(G:Gen defs)(hun:Is defs ("_law_unlaying_rule" : JA) 1 10 aP)(hg:Is defs ("_law_rule" : JA) 1 2 dZ)(hf:Fl S r)(k:∀w S',cD w->Fl S' r->Kp r S S'->Q (w,S')):wO (aE (al defs fuel (d+8)) "_law_rule" 1 [.ref r] S) Q:=by
 show am hg rfl rfl λQ' hR=>?_
 replace k:∀w S',cD w->Fl S' r->Kp r S S'->Q' (.rt w,S'):=λz S' a b c=>hR _ _ (k z S' a b c)
 clear hR;change wZ _ _ dZ [ba (.ref r),gV] S Q';dsimp only[dZ];nofun
 left;show aV (d:=d+6) G.pick hf #v[] #v[] λv S1 v0 v7 f1 k1=>hK _ _ ?_
 clear hK K;nofun
 dsimp only[wS,wT,wE,wV,wG,dX,aC,wB];show ah (Q0:=Q') (λ_ Q2 _ hr=>?_) (λ_ Q2 hn _=>a9 (hn _ _ (hK _ _ ?_)))
 ·show st ?_;left;exact yG (d:=d) hfu G f1 λw S2 a b c=>hr _ _ (k w S2 a b (k1.trans c))
 clear hK K hn;nofun
 dsimp only[wS,wT,wE,wV,wG,dX,aC,wB];show ah (Q0:=Q') (λ_ Q2 _ hr=>?_) (λ_ Q2 hn _=>a9 (hn _ _ (hK _ _ ?_)))
 ·show st ?_;left;exact rH (d:=d+1) hfu G hun f1 λw S2 a b c=>hr _ _ (k w S2 a b (k1.trans c))
 show st ?_;left;exact rE (d:=d+1) hfu G f1 λw S2 a b c=>k w S2 a b (k1.trans c)
end
abbrev Tr:Jr->W->Prop
 | _,.int _=>Pp
 | _,.str _=>Pp
 | _,.non=>Pp
 | n+1,.tup xs=>xs.length<=1000/\∀x∈xs,Tr n x
 | _,_=>KP
def mB:∀n:Jr,eZ (Kg n (.bl true))=ba (Kg n true)
 | 0=>rfl
 | n+1=>by rw[Lf,eZ,mB n]; rfl
def BA (n:Jr):(Kg n true).all id=true:=by
 rw[JV];intro x hx;rw[(List.mem_replicate.mp hx).2]; rfl
section
variable{defs:Jj (JA×Df)}{fuel:Jr}
def n0 (hg:Is defs ("_law_alike" : JA) 2 2 bL):∀(n d:Jr) (w:W) (S:aa) (Q:QW),Tr n w->(∀S',Ka S S'->Q (.bl true,S'))->wO (aE (al defs fuel (d+n+1)) "_law_alike" 2 [w,w] S) Q:=by
 intro n
 induction n with
 | zero=>
  intro d w S Q hw k;show am hg rfl rfl λQ' hR=>?_
  replace k:=hR _ _ (k S .refl);clear hR;change wZ _ _ bL [ba w,ba w] S Q';dsimp only[bL];cases w with
  | int x=>
   show aA λK hK=>cO (λQ q=>q) (hK _ _ ?_)
   show aA λK hK=>cO (λQ q=>#[λz=>(by cases z),λ_=>q]) (hK _ _ ?_)
   show aA λK hK=>kP (λQ q=>q) λQ2 _ hr=>st ?_
   dsimp only[wS,wE,wV,wG];show ab (show oA S (.int x) "int" = ba true from rfl) #[λ_=>?_,λz=>by cases z]
   dsimp only[dX,aC];rw[J5];exact hr _ _ k
  | str x=>
   show aA λK hK=>cO (λQ q=>q) (hK _ _ ?_)
   show aA λK hK=>cO (λQ q=>#[λz=>(by cases z),λ_=>q]) (hK _ _ ?_)
   show aA λK hK=>cO (λQ q=>q) (hK _ _ ?_)
   show aA λK hK=>kP (λQ q=>q) λQ2 _ hr=>st ?_
   dsimp only[wS,wE,wV,wG];show ab (show oA S (.str x) "str" = ba true from rfl) #[λ_=>?_,λz=>by cases z]
   dsimp only[xT,aC];rw[J5];exact hr _ _ k
  | non=>
   show aA λK hK=>kP (λQ q=>q) λQ2 _ hr=>st ?_
   dsimp only[wS,wE,wV,wG];exact ab (show bO .is .non .non S=ba (.bl true,S)from rfl) (hr _ _ k)
  | _=>exact hw.elim
 | succ n ih=>
  intro d w S Q hw k;show am hg rfl rfl λQ' hR=>?_
  replace k:∀S',Ka S S'->Q' (.rt (.bl true),S'):=λS' a=>hR _ _ (k S' a)
  clear hR;change wZ _ _ bL [ba w,ba w] S Q';dsimp only[bL];cases w with
  | int x=>
   show aA λK hK=>cO (λQ q=>q) (hK _ _ ?_)
   show aA λK hK=>cO (λQ q=>#[λz=>(by cases z),λ_=>q]) (hK _ _ ?_)
   show aA λK hK=>kP (λQ q=>q) λQ2 _ hr=>st ?_
   dsimp only[wS,wE,wV,wG];show ab (show oA S (.int x) "int" = ba true from rfl) #[λ_=>?_,λz=>by cases z]
   dsimp only[dX,aC];rw[J5];exact hr _ _ (k _ .refl)
  | str x=>
   show aA λK hK=>cO (λQ q=>q) (hK _ _ ?_)
   show aA λK hK=>cO (λQ q=>#[λz=>(by cases z),λ_=>q]) (hK _ _ ?_)
   show aA λK hK=>cO (λQ q=>q) (hK _ _ ?_)
   show aA λK hK=>kP (λQ q=>q) λQ2 _ hr=>st ?_
   dsimp only[wS,wE,wV,wG];show ab (show oA S (.str x) "str" = ba true from rfl) #[λ_=>?_,λz=>by cases z]
   dsimp only[xT,aC];rw[J5];exact hr _ _ (k _ .refl)
  | tup xs=>
   obtain⟨hl,hx⟩:=hw;show aA λK hK=>cO (λQ q=>q) (hK _ _ ?_)
   show aA λK hK=>cO (λQ q=>#[λz=>(by cases z),λ_=>q]) (hK _ _ ?_)
   show aA λK hK=>cO (λQ q=>q) (hK _ _ ?_)
   show aA λK hK=>cO (λQ q=>q) (hK _ _ ?_)
   show aA λK hK=>cO (λQ q=>#[λz=>(by cases z),λ_=>q]) (hK _ _ ?_)
   show st ?_;left;show bp (bp ?_);dsimp only[dX,aC,wB];rw[J5];show#[λ_=>?_,λz=>by cases z]
   show dy (xs.length:JG) (λi ys Z2 S2=>(∃a1,Z2=[gV,a1,ba (.tup xs),ba (.tup xs)])/\ys=Kg i (.bl true)/\Ka S S2) rfl rfl rfl ∅ ?_ ?_ ?_
   ·dsimp only[wE,wA,wV,wG];exact bp #[rfl,#[gV,rfl],rfl,.refl]
   ·rintro i ys Z2 S2 hi ⟨⟨a1,rfl⟩,rfl,k2⟩;have hi':i < xs.length:=∅
    dsimp only[gM,wC,wE,wA,wV,wG,JE];show#[λ_=>ag (JU i) (by rw[JN]; exact JB hi') (ag (JU i) (by rw[JN]; exact JB hi') (ih d _ _ _ (hx _ (Ko hi')) λS3 k3=>#[#[_,rfl],?_,k2.trans k3])),λz=>by cases z]
    rw[List.replicate_succ']
   ·rintro ys Z2 S2 ⟨_,rfl,k2⟩;rw[JN];show#[few (by rw[OT]; exact hl),ab (a:=(.bl true,S2++[.lst (Kg xs.length (.bl true))])) ?_ (k _ (k2.trans .push))]
    (dsimp only[Bi.fn,Ap]; simp only[ap ac,mB,Kc,BA])
  | non=>
   show aA λK hK=>kP (λQ q=>q) λQ2 _ hr=>st ?_
   dsimp only[wS,wE,wV,wG];exact ab (show bO .is .non .non S=ba (.bl true,S)from rfl) (hr _ _ (k _ .refl))
  | _=>exact hw.elim
end
abbrev tt:Ss:=
 #v[.ite (.cmp .gt (.v 2) (.v 3)) #v[.ret (.ix (.ix (.ix (.v 1) (.v 2)) (.c (.int 1))) (.v 3))] .nil,.ret (.ix (.ix (.ix (.v 0) (.c (.int 1))) (.ix (.ix (.ix (.v 1) (.v 3)) (.c (.int 1))) (.v 2))) (.c (.int 1)))]
abbrev dC:Ss:=
 #v[.ret (.tup #v[.ix (.ix (.v 1) (.v 3)) (.c (.int 0)),.bi .tuple #v[.comp (.own "way" 4 #v[.v 3,.v 4,.v 2,.v 1]) (.nm 1) (.seq (.v 2)) .nil [gV,gV,ba 3,ba 0,ba 1]]])]
section
variable{defs:Jj (JA×Df)}{fuel d:Jr}{S:aa}{r:Jr}{Q:QW}
def yI {M:JA->FF}{m0 b0:W}{ns:Jj JA}{bs:Jj JG}{a:Jr}{u:Wd}{i j:Jr}{Q:QO}(hb:GoodB bs)(hl:ns.length=bs.length)(hu:GoodW a bs.length u)(hi:i < u.length)(hj:j < u.length)(hij:i≠j)(k:Q (.rt (.int (cN bs u i j)),S)) :
  wZ M fuel tt [ba (.tup [m0,.tup (Jx ar ns bs),b0]),ba (aK u),ba (.int i),ba (.int j)] S Q:=by
 have hpi:=au (d:=(0,[])) hi;have hpj:=au (d:=(0,[])) hj;unfold cN at k;dsimp only[tt];nofun
 dsimp only[wS,wT,wE,wV,wG,xS,wO,wB,aK];show ah (Q0:=Q) (λh Q2 _ hr=>?_) (λh Q2 hn _=>?_)
 ·have hji:j < i:=by have:=J9 h; omega
  rw[JO hji]at k;have hw:j < (u.getD i (0,[])).2.length:=by rw[hu.len i _ hpi]; exact hji
  show st ?_;dsimp only[wS,wE,wV,wG];show ag (JU i) (mr hi) (ag #v[] rfl (ag (JU j) ?_ (hr _ _ k)))
  rw[JN,Jv,au (d:=0) hw]; rfl
 ·have hji:¬ j < i:=by have:=Kv h; omega
  rw[JZ hji]at k;show a9 (hn _ _ (hK _ _ ?_));clear hn hK;have hw:i < (u.getD j (0,[])).2.length:=by rw[hu.len j _ hpj]; omega
  have hg:=au (d:=0) hw;obtain⟨g1,g2⟩:=hu.way j _ hpj _ (JD hg);obtain⟨b,hb1,hb2,hb3⟩:=hb.rng ((u.getD j (0,[])).2.getD i 0).toNat ∅
  have hn:((u.getD j (0,[])).2.getD i 0).toNat < ns.length:=∅
  rw[getD_some hb1]at k;show st ?_;dsimp only[wS,wE,wV,wG];show ag #v[] rfl (ag (JU j) (mr hj) (ag #v[] rfl (ag (JU i) ?_ (ag g1 (nX (JB hn) hb1) (ag #v[] rfl k)))))
  rw[JN,Jv,hg]; rfl
structure Parts (defs:Jj (JA×Df)):Prop where
 way:Is defs ("way" : JA) 4 4 tt
 over:Is defs ("point_over" : JA) 4 4 dC
def GQ (P:Parts defs){m0 b0:W}{ns:Jj JA}{bs:Jj JG}{a:Jr}{u:Wd}{i j:Jr}(hb:GoodB bs)(hl:ns.length=bs.length)(hu:GoodW a bs.length u)(hi:i < u.length)(hj:j < u.length)(hij:i≠j)(k:Q (.int (cN bs u i j),S)) :
  wO (aE (al defs fuel (d+1)) "way" 4 [.tup [m0,.tup (Jx ar ns bs),b0],aK u,.int i,.int j] S) Q:=
 am P.way rfl rfl λQ' hR=>yI hb hl hu hi hj hij (hR _ _ k)
def Ei (P:Parts defs){m0 b0:W}{ns:Jj JA}{bs:Jj JG}{a:Jr}{u:Wd}{ps:Jj Jr}{i:Jr}(hb:GoodB bs)(hl:ns.length=bs.length)(hu:GoodW a bs.length u)(hps:∀p∈ps,p < u.length/\i≠p)(hi:i < u.length)(hsz:ps.length<=1000)(k:∀S',Ka S S'->Q (bU ((u.getD i (0,[])).1,ps.map λq=>cN bs u i q),S')) :
  wO (aE (al defs fuel (d+2)) "point_over" 4 [.tup [m0,.tup (Jx ar ns bs),b0],aK u,.tup (aB ps),.int i] S) Q:=by
 show am P.over rfl rfl λQ' hR=>?_
 replace k:∀S',Ka S S'->Q' (.rt (bU ((u.getD i (0,[])).1,ps.map λq=>cN bs u i q)),S'):=λS' a=>hR _ _ (k S' a)
 clear hR;change wZ _ _ dC [ba (.tup [m0,.tup (Jx ar ns bs),b0]),ba (aK u),ba (.tup (aB ps)),ba (.int i)] S Q';generalize hR0:W.tup [m0,.tup (Jx ar ns bs),b0]=R;dsimp only[dC];show st ?_;left;show ag (JU i) (mr hi) (ag #v[] rfl ?_)
 show sP (aB ps) (λj ys Z2 S2=>(∃a1,Z2=[gV,a1,ba (.int i),ba R,ba (aK u)])/\ys=(ps.take j).map (λq=>W.int (cN bs u i q))/\Ka S S2) rfl rfl rfl #[rfl,#[gV,rfl],rfl,.refl] ?_ ?_
 ·rintro j w ys Z2 S2 hw ⟨⟨a1,rfl⟩,rfl,k2⟩;unfold aB at hw;rw[Jv,Jo]at hw;obtain⟨q,hq,rfl⟩:=hw;obtain⟨hqu,hqi⟩:=hps q (JD hq);show ab (show gA (.nm 1) (.int (q:JG)) [gV,a1,ba (.int i),ba R,ba (aK u)] S2=ba ([gV,ba (.int (q:JG)),ba (.int i),ba R,ba (aK u)],S2)from rfl) ?_
  dsimp only[gM,wC,wE,wA,wV,wG];subst hR0;show#[λ_=>GQ (d:=d) P hb hl hu hi hqu hqi #[#[_,rfl],?_,k2],λz=>by cases z]
  rw[KH,hq];simp
 ·rintro ys Z2 S2 ⟨_,rfl,k2⟩;rw[show(aB ps).length=ps.length from Jl ..,KR]
  show#[few (by rw[Jl]; exact hsz),dt ac ?_]
  have:=k _ (k2.trans (Ka.push (o:=O.lst (ps.map λq=>W.int (cN bs u i q)))))
  unfold bU at this;rw[KL]at this;exact this
end
section
variable{S:aa}{Q:QW}
def GR {t:Jr}{xs:Jj W}{v:JG}{w:W}(h:S[t]?=ba (.lst xs))(h0:0<=v)(hw:xs[v.toNat]?=ba w)(hl:xs.length<=1000)(q:Q (w,S.set t (.lst (xs.eraseIdx v.toNat)))):wO (Me.pop.fn (.ref t) [.int v] S) Q:=by
 show ab ?_ q;have hv:=(JK.mp hw).1;have hs:seqIndex? v xs.length=ba v.toNat:=by
  unfold seqIndex?;rw[JZ (show ¬ v < 0 by omega)]
  exact JO (by rw[Js]; exact#[J6 h0,J6 ∅])
 (dsimp only[Me.fn,Aj]; simp only[b9 h])
 rw[JO #[∅,∅]]
 simp only[hs,hw]
end
def GU {M:JA->FF}{Z:Fm}{S:aa}{a b:E}{x y:JG}{Q:QW}(ha:∀Q:QW,Q (.int x,S)->wE M a Z S Q)(hb:∀Q:QW,Q (.int y,S)->wE M b Z S Q)(h1 : -(2 ^ 64) < y)(h2:y < 2 ^ 64)(q:Q (.int (x*y),S)):wE M (.op .mul a b) Z S Q:=by
 have em:fN .mul (.int x) (.int y) S=ba (.int (x*y),S):=pN h1 h2;dsimp only[wE];show ha _ ?_;show hb _ ?_;dsimp only;rw[em];exact q
section
variable{defs:Jj (JA×Df)}{fuel d:Jr}{S:aa}{r:Jr}{Q:QW}
def GV {t l:Jr}{xs ys:Jj W}(h:S[t]?=ba (.lst xs))(h2:S[l]?=ba (.lst ys))(hl:xs.length+ys.length<=1000)(q:Q (.non,S.set t (.lst (xs++ys)))):wO (Me.extend.fn (.ref t) [.ref l] S) Q:=by
 show ab ?_ q
 (dsimp only[Me.fn,iu]; simp only[b9 h,b9 h2])
 rw[JO (few hl)]
end
abbrev mC (bs:Jj JG)(v:Wd)(ps:Jj Jr)(i:Jr):Pt:=((v.getD i (0,[])).1,ps.map λq=>cN bs v i q)
abbrev aF (n:Jr)(os:Jj (Jj Jr)):Jj (Jj Jr):=os.flatMap λo=>((Kb n).filter λp=>decide (p∉o)).map λp=>o++[p]
def jt (bs:Jj JG)(v:Wd)(o:Jj Jr)(p:Jr):aw bs v (o++[p])=aw bs v o++[mC bs v o p]:=by
 unfold aw mC;rw[Jw,Nf,Mu,J0];congr 1
 ·show K7 λk hk=>?_
  have hk:=Kz.mp hk;rw[show(o++[p]).getD k 0=o.getD k 0 by simp[Kh hk],List.take_append_of_le_length ∅]
 ·simp
def iW {n:Jr}:∀os:Jj (Jj Jr),(aF n os).length<=os.length*n
 | []=>by simp[aF]
 | o::os=>by
  have ih:=iW (n:=n) os;unfold aF at ih ⊢;rw[Nc,Jw,Jl,JL,Qk];have:=Mx (λp=>decide (p∉o)) (Kb n)
  rw[KU]at this;omega
def vf {n:Jr}{os:Jj (Jj Jr)}{i:Jr}:(aF n (os.take i)).length<=os.length*n:=by
 show J8 (iW _) (Nv _ ?_);rw[Ks]; omega
def mD {S:aa}{d:Jr}:∀xs ys:Jj JG,gX (i9 S d) (xs.map W.int) (ys.map W.int)=ba (decide (xs=ys))
 | [],[]=>rfl
 | [],_::_=>rfl
 | _::_,[]=>rfl
 | x::xs,y::ys=>by
  have e:i9 S d (.int x) (.int y)=ba (x==y):=by cases d <;> rfl
  simp only[JS,gX,e,mD xs ys]
  by_cases h:x=y
  ·subst h; by_cases h2:xs=ys <;> simp[h2]
  ·have h':(x==y)=false:=by simpa using h
   simp[h,h']
def yJ {S:aa}{d:Jr}(p q:Pt):i9 S (d+2) (bU p) (bU q)=ba (decide (p=q)):=by
 obtain⟨m,ws⟩:=p;obtain⟨m',ws'⟩:=q;change gX (i9 S (d+1)) [.int m,.tup (ws.map W.int)] [.int m',.tup (ws'.map W.int)]=_;have e:i9 S (d+1) (.int m) (.int m')=ba (m==m'):=rfl;have e2:i9 S (d+1) (.tup (ws.map W.int)) (.tup (ws'.map W.int))=ba (decide (ws=ws')):=mD ws ws';simp only[gX,e,e2]
 by_cases h:m=m'
 ·subst h; by_cases h2:ws=ws' <;> simp[h2]
 ·have h':(m==m')=false:=by simpa using h
  simp[h,h']
def qb {S:aa}{d:Jr}:∀u v:Wd,gX (i9 S (d+2)) (u.map bU) (v.map bU)=ba (decide (u=v))
 | [],[]=>rfl
 | [],_::_=>rfl
 | _::_,[]=>rfl
 | x::xs,y::ys=>by
  simp only[JS,gX,yJ,qb xs ys]
  by_cases h:x=y
  ·subst h; by_cases h2:xs=ys <;> simp[h2]
  ·simp[h]
def GX {S:aa}{p q:Pt}:bO .eq (bU p) (bU q) S=ba (.bl (decide (p=q)),S):=by
 show(i9 S (18+2) (bU p) (bU q)).map _=_;rw[yJ]; rfl
def Ej {S:aa}{u v:Wd}:bO .eq (aK u) (aK v) S=ba (.bl (decide (u=v)),S):=by
 show(gX (i9 S (17+2)) (u.map bU) (v.map bU)).map _=_;rw[qb]; rfl
def qc {p:Jr}:∀ps:Jj Jr,((aB ps).any λz=>qB z (.int p))=decide (p∈ps)
 | []=>rfl
 | q::ps=>by
  show((q:JG)==(p:JG)||(aB ps).any _)=_
  rw[qc ps]
  by_cases h:q=p
  ·subst h; simp
  ·have h1:((q:JG)==(p:JG))=false:=by simp; omega
   have h2:¬ p=q:=λe=>h e.symm
   rw[h1]; simp[h2]
def vg (ps:Jj Jr):(aB ps).all bh=true:=by
 rw[JV];intro x hx;obtain⟨p,_,rfl⟩:=JI.mp hx;rfl
def yK {S:aa}{p:Jr}{ps:Jj Jr}:bO .notin (.int p) (.tup (aB ps)) S=ba (.bl (decide (p∉ps)),S):=by
 change cw .notin (.int p) (.tup (aB ps)) S=_;have hf:(bh (.int p)&&(aB ps).all bh)=true:=by rw[vg]; rfl
 simp only[cw,oP,zr,cq,hf,Mf,Kc,qc];congr 3
 by_cases h:p∈ps <;> simp[h]
def yL {xs:Jj W}:gY xs gV (ba (-1))=xs.dropLast:=by
 unfold gY;rw[HT.j3,NT,Qt,List.dropLast_eq_take];congr 1;show(if (-1:JG) < 0 then((-1:JG)+(xs.length:JG)).toNat else min (-1:JG).toNat xs.length)=_
 rw[JO #v[]]; omega
def vh (ps:Jj Jr):(aB ps).dropLast=aB ps.dropLast:=by unfold aB; rw[List.map_dropLast]
def BB {S:aa}{ps:Jj Jr}(h:ps≠[]):oz (.tup (aB ps)) (.int (-1)) S=ba (.int (ps.getLastD 0:Jr),S):=by
 have hl:(aB ps).length=ps.length:=Jl ..;have hp:0 < ps.length:=Pu.mpr h;have hs:rS (aB ps).length (-1)=ba (ps.length - 1):=by
  rw[hl];unfold rS;rw[JZ #v[]]
  exact(JO ∅).trans (by congr 1; omega)
 have hg:(aB ps)[ps.length - 1]?=ba (.int (ps.getLastD 0:Jr)):=by
  show nY ?_;rw[List.getLastD_eq_getLast?,List.getLast?_eq_getElem?];have:ps.length - 1 < ps.length:=∅
  simp[this]
 (dsimp only[oz,ut,oK]; simp only[hs,hg,Option.bind_some,Kc])
abbrev aJ:Ss:=
 #v[.set 2 (.lst .nil),.loop (.nm 3) (.seq (.v 0)) #v[.ex (.me .extend (.v 2) #v[.comp (.op .add (.v 2) (.tup #v[.v 1])) (.nm 1) (.rng #v[.v 1]) #v[.cmp .notin (.v 1) (.v 2)] [gV,gV,ba 3]])],.ret (.v 2)]
abbrev dh (os:Jj (Jj Jr)):Jj W:=os.map λo=>.tup (aB o)
section
variable{defs:Jj (JA×Df)}{fuel d:Jr}{S:aa}{Q:QW}
def Ek {t l:Jr}{xs ys:Jj W}(h:S[t]?=ba (.lst xs))(h2:S[l]?=ba (.lst ys))(hl:xs.length+ys.length<=1000000)(q:Q (.non,S.set t (.lst (xs++ys)))):wO (Me.extend.fn (.ref t) [.ref l] S) Q:=by
 show ab ?_ q;simp only[Me.fn,iu,b9 h,b9 h2];rw[JO (by rw[Kq]; omega)]
def fw {n:Jr}(h:n<=1000000):n<=sizeLine:=by rw[Kq]; omega
def yM (hg:Is defs ("longer_orders" : JA) 2 4 aJ){n l:Jr}{os:Jj (Jj Jr)}(e:S[l]?=ba (.lst (dh os)))(hn:n<=100)(hol:∀o∈os,o.length<=100)(hos:os.length*n<=100000)
  (k:∀(q:Jr) (S':aa),S'[q]?=ba (.lst (dh (aF n os)))->S.length<=q->Ka S S'->Q (.ref q,S')) :
  wO (aE (al defs fuel (d+1)) "longer_orders" 2 [.ref l,.int n] S) Q:=by
 show am hg rfl rfl λQ' hR=>?_
 replace k:∀(q:Jr) (S':aa),S'[q]?=ba (.lst (dh (aF n os)))->S.length<=q->Ka S S'->Q' (.rt (.ref q),S'):=λa b c e f=>hR _ _ (k a b c e f)
 clear hR;change wZ _ _ aJ [ba (.ref l),ba (.int n),gV,gV] S Q';have hlS:=dq e;dsimp only[aJ];show st ?_;dsimp only[wS,wE,wA,JE];nofun
 show Bj l (dh os) (λi Z S'=>(∃a3,Z=[ba (.ref l),ba (.int n),ba (.ref S.length),a3])/\S'[l]?=ba (.lst (dh os))/\S'[S.length]?=ba (.lst (dh (aF n (os.take i))))/\Ka S S') rfl rfl #[rfl,#[gV,rfl],aj e,ac,.push] (λi Z S' h=>h.2.1) ?_ ?_
 ·rintro i w Z S1 hw ⟨⟨a3,rfl⟩,e0,e1,k1⟩;clear hK k;unfold dh at hw;rw[Jv,Jo]at hw;obtain⟨o,ho,rfl⟩:=hw;have hol:=hol o (JD ho);show ab (show gA (.nm 3) (.tup (aB o)) [ba (.ref l),ba (.int n),ba (.ref S.length),a3] S1=ba ([ba (.ref l),ba (.int n),ba (.ref S.length),ba (.tup (aB o))],S1)from rfl) ?_
  intro Q2 hn _;show st ?_;left;show#[bv e1,?_];show dy (n:JG) (λj ys Z2 S2=>(∃a1,Z2=[gV,a1,ba (.tup (aB o))])/\ys=dh (((Kb j).filter λp=>decide (p∉o)).map λp=>o++[p])/\S2=S1) rfl rfl rfl ∅ #[rfl,#[gV,rfl],rfl,rfl] ?_ ?_
  ·rintro j ys Z2 S2 hj ⟨⟨a1,rfl⟩,rfl,rfl⟩;dsimp only[gM,wC,wE,wA,wV,wG,JE];show ab yK ?_;dsimp only[wB];have er:(Kb (j+1)).filter (λp=>decide (p∉o))=(Kb j).filter (λp=>decide (p∉o))++(if j∉o then[j]else[]):=by
    rw[Mu,NV];congr 1
    by_cases h:j∈o <;> simp[h]
   show#[λh=>?_,λh=>#[#[_,rfl],?_,rfl]]
   ·have h:j∉o:=J9 h;show ab (rz (fw (by rw[Jw,show(aB o).length=o.length from Jl ..]; show _+1<=_; omega))) #[#[_,rfl],?_,rfl]
    rw[er,JO h,J0];unfold dh;rw[J0];simp[aB]
   ·have h:¬ j∉o:=Kv h;rw[er,JZ h,Kx]
  ·rintro ys Z2 S2 ⟨_,rfl,rfl⟩;rw[JN];have hlen:(dh (((Kb n).filter λp=>decide (p∉o)).map λp=>o++[p])).length<=n:=by
    unfold dh;rw[Jl,Jl];exact J8 (Mx _ _) (by rw[KU]; exact Jy _)
   have e1':=aj (u:=O.lst (dh (((Kb n).filter λp=>decide (p∉o)).map λp=>o++[p]))) e1
   have hlt:=vf (n:=n) (os:=os) (i:=i);have hlw:(dh (aF n (os.take i))).length=(aF n (os.take i)).length:=Jl ..;show#[fw ∅,Ek e1' ac ∅ (a9 (hn _ _ #[#[_,rfl],?_,?_,(k1.trans .push).late (Jy _)]))]
   ·rw[bj ∅]; exact aj e0
   ·rw[aX e1'];unfold aF dh;rw[KH,ho];simp
 ·rintro Z S1 ⟨⟨a3,rfl⟩,e0,e1,k1⟩;rw[show(dh os).length=os.length from Jl ..,KR]at e1
  exact hK _ _ (st (k _ _ e1 (Jy _) k1))
def El {t:Jr}{xs:Jj W}{y:W}(h:S[t]?=ba (.lst xs))(hl:xs.length < 1000000)(q:Q (.non,S.set t (.lst (xs++[y])))):wO (Me.append.fn (.ref t) [y] S) Q:=ab (sN h (by rw[Kq]; omega)) q
end
def qd:∀ {us vs:Jj Wd},us.map bX=vs.map bX->us=vs
 | [],[],_=>rfl
 | [],_::_,h=>by cases h
 | _::_,[],h=>by cases h
 | x::xs,y::ys,h=>by
  simp only[JS,SU]at h;rw[fu h.1,qd h.2]
def qe:∀xs:Jj JG,ee (xs.map T.int)=true
 | []=>rfl
 | _::xs=>qe xs
def jU:∀u:Wd,ee (u.map gN)=true
 | []=>rfl
 | p::u=>by
  simp only[JS,ee,Js];show#[?_,jU u];simp[gN,iA,ee,qe]
def kZ (u:Wd):iA (bX u)=true:=jU u
def qf {us:Jj Wd}(h:us.Nodup):Nice (us.map bX):=by
 show#[λx hx=>?_,eS us,?_]
 ·obtain⟨u,_,rfl⟩:=JI.mp hx;exact kZ u
 ·rw[MG,LK];exact h.imp λhne e=>hne (fu e)
def ju {us:Jj Wd}:(bf us).map bX=jC (us.map bX):=by
 unfold bf jC;rw[pT (d:=[])]
section
variable{M:JA->FF}{Z:Fm}{S:aa}
def n6 {α:Type}{elt:E}{tg:Tg}{it:Ie}{cs:Es}{cap:Jj (Jq Jr)}{mi:MI}{S1:aa}{Q:QW}(L:Jj α)(f:α->W)(p:α->J1)(g:α->W)(td:Fm->Prop)(fr:α->Fm)(hJ:∀x Z S,td Z->gA tg (f x) Z S=ba (fr x,S)/\td (fr x))(oe:bV elt=true)(oc:oD cs=true)(hc:td (cL cap Z))(hl:L.length<=1000000)(hi:gb M it Z S=ba (mi,S1))(k1:Ka S S1)(hat:∀i S',Ka S1 S'->mi.at S' i=ba (L.map f)[i]?)(hn:mi.len S1=ba (L.map f).length)
  (hstep:∀x∈L,∀S',Ka S S'->gM M elt cs (fr x) S' (λy _ S2=>p x=true/\y=g x/\Ka S' S2) (λ_ S2=>p x=false/\Ka S' S2))
  (k:∀S',Ka S S'->Q (.ref S'.length,S'++[.lst ((L.filter p).map g)])):Wp (ay M (.comp elt tg it cs cap) Z S) Q:=by
 rw[xR];show#[_,hi,_,hn,?_];show(dw (xs:=L.map f) (Q:=λq=>q.1.length<=sizeLine/\Q (.ref q.2.length,q.2++[.lst q.1])) (λi ys Z' S'=>td Z'/\ys=((L.take i).filter p).map g/\Ka S1 S') (λi ys Z' S' h=>hat i S' h.2.2) (λi w ys Z' S' hw h=>?_) (λys Z' S' h=>?_) (L.map f).length 0 [] _ S1 ∅ #[hc,rfl,.refl]).mono λq hq=>by simpa using hq
 ·obtain⟨hj,rfl,k2⟩:=h;rw[Jv,Jo]at hw;obtain⟨x,hx,rfl⟩:=hw;obtain⟨h1,h2⟩:=hJ x Z' S' hj;show#[_,h1,?_];show(Cq oc (hstep x (JD hx) S' (k1.trans k2))).mono λc hc=>#[λz=>(aQ elt oe (hc.1 z)).mono λy hy=>#[h2,?_,k2.trans hy.2.2],λz=>#[h2,?_,k2.trans (hc.2 z).2]]
  ·rw[KH,hx,NV,show(RP (ba x)).filter p=[x]from List.filter_cons_of_pos hy.1,J0,hy.2.1]; rfl
  ·rw[KH,hx,NV,show(RP (ba x)).filter p=[]from List.filter_cons_of_neg (by rw[(hc.2 z).1]; exact JP),Kx]
 ·obtain⟨_,rfl,k2⟩:=h;dsimp only;rw[show(L.map f).length=L.length from Jl ..,KR]
  show#[fw ?_,k S' (k1.trans k2)];rw[Jl];exact J8 (Mx _ _) hl
def yN {α:Type}{elt:E}{it:Ie}{cs:Es}{cap:Jj (Jq Jr)}{mi:MI}{S1:aa}{Q:QW}(L:Jj α)(f:α->W)(p:α->J1)(g:α->W)(R:Fm)(oe:bV elt=true)(oc:oD cs=true)(hc:cL cap Z=gV::gV::R)(hl:L.length<=1000000)(hi:gb M it Z S=ba (mi,S1))(k1:Ka S S1)(hat:∀i S',Ka S1 S'->mi.at S' i=ba (L.map f)[i]?)(hn:mi.len S1=ba (L.map f).length)
  (hstep:∀x∈L,∀S',Ka S S'->gM M elt cs (gV::ba (f x)::R) S' (λy _ S2=>p x=true/\y=g x/\Ka S' S2) (λ_ S2=>p x=false/\Ka S' S2))
  (k:∀S',Ka S S'->Q (.ref S'.length,S'++[.lst ((L.filter p).map g)])):Wp (ay M (.comp elt (.nm 1) it cs cap) Z S) Q:=
 n6 L f p g (λZ=>∃a,Z=gV::a::R) (λx=>gV::ba (f x)::R) (λ_ _ _ h=>let ⟨_,e⟩:=h; e ▸ #[rfl,_,rfl]) oe oc #[_,hc] hl hi k1 hat hn hstep k
def yO {α:Type}{elt e:E}{cs:Es}{cap:Jj (Jq Jr)}{Q:QW}(L:Jj α)(f:α->W)(p:α->J1)(g:α->W)(R:Fm)(oi:bV e=true)(oe:bV elt=true)(oc:oD cs=true)(hc:cL cap Z=gV::gV::R)(hl:L.length<=1000000)
  (he:wE M e Z S λq=>∃t,q.1=.ref t/\q.2[t]?=ba (.lst (L.map f))/\Ka S q.2)
  (hstep:∀x∈L,∀S',Ka S S'->gM M elt cs (gV::ba (f x)::R) S' (λy _ S2=>p x=true/\y=g x/\Ka S' S2) (λ_ S2=>p x=false/\Ka S' S2))
  (k:∀S',Ka S S'->Q (.ref S'.length,S'++[.lst ((L.filter p).map g)])):Wp (ay M (.comp elt (.nm 1) (.seq e) cs cap) Z S) Q:=by
 obtain⟨w,S1,e1,t,rfl,ht,k1⟩:=aR oi he;exact yN (mi:=.live t) L f p g R oe oc hc hl (by simp only[gb,da,e1,ap ht]) k1 (λi S' h=>by simp only[MI.at,ap (h.get _ _ ht)]) (by simp only[MI.len,ap ht,Kc]) hstep k
def jv {α:Type}{elt e:E}{cs:Es}{cap:Jj (Jq Jr)}{Q:QW}(L:Jj α)(f:α->W)(p:α->J1)(g:α->W)(R:Fm)(oi:bV e=true)(oe:bV elt=true)(oc:oD cs=true)(hc:cL cap Z=gV::gV::R)(hl:L.length<=1000000)
  (he:wE M e Z S λq=>q.1=.tup (L.map f)/\Ka S q.2)
  (hstep:∀x∈L,∀S',Ka S S'->gM M elt cs (gV::ba (f x)::R) S' (λy _ S2=>p x=true/\y=g x/\Ka S' S2) (λ_ S2=>p x=false/\Ka S' S2))
  (k:∀S',Ka S S'->Q (.ref S'.length,S'++[.lst ((L.filter p).map g)])):Wp (ay M (.comp elt (.nm 1) (.seq e) cs cap) Z S) Q:=by
 obtain⟨w,S1,e1,rfl,k1⟩:=aR oi he;exact yN (mi:=.its (L.map f)) L f p g R oe oc hc hl (by simp only[gb,da,e1]) k1 (λ_ _ _=>rfl) rfl hstep k
def qh (n:Jr):cK 0 n=(Kb n).map λi=>W.int (i:Jr):=by
 unfold cK;show K7 λi _=>?_
 rw[OG]
def bZ {α:Type}(L:Jj α):L.filter (λ_=>true)=L:=List.filter_eq_self.mpr λ_ _=>rfl
end
def Em {bs:Jj JG}{a:Jr}{v:Wd}{i j:Jr}(hb:GoodB bs)(hv:GoodW a bs.length v)(hi:i < v.length)(hj:j < v.length)(hij:i≠j):0<=cN bs v i j/\cN bs v i j < (bs.length:JG):=by
 unfold cN
 by_cases h:j < i
 ·rw[JO h];have hp:=au (d:=(0,[])) hi;have hw:j < (v.getD i (0,[])).2.length:=by rw[hv.len i _ hp]; exact h
  exact hv.way i _ hp _ (JD (au (d:=0) hw))
 ·rw[JZ h];have hp:=au (d:=(0,[])) hj;have hw:i < (v.getD j (0,[])).2.length:=by rw[hv.len j _ hp]; omega
  obtain⟨g1,g2⟩:=hv.way j _ hp _ (JD (au (d:=0) hw));exact(hb.at g1 g2).2
def mE {bs:Jj JG}{a:Jr}{v:Wd}{ps:Jj Jr}(hb:GoodB bs)(hv:GoodW a bs.length v)(hps:∀p∈ps,p < v.length)(hnd:ps.Nodup):GoodW a bs.length (aw bs v ps):=by
 have at':∀(k:Jr) (q:Pt),(aw bs v ps)[k]?=ba q->∃hk:k < ps.length,q=((v.getD ps[k] (0,[])).1,(ps.take k).map λj=>cN bs v ps[k] j):=λk q e=>by
  have hk:k < ps.length:=by
   have:=(JK.mp e).1;rw[bq]at this; exact this
  show#[hk,?_];unfold aw at e;rw[Jv,MR hk,Kc,show ps.getD k 0=ps[k] by simp[hk]]at e
  exact(Kw e).symm
 show#[λk q e=>?_,λk q e=>?_,λk q e=>?_]
 ·obtain⟨hk,rfl⟩:=at' k q e;have:=hv.mark _ _ (au (d:=(0,[])) (hps _ (Ko hk)));exact this
 ·obtain⟨hk,rfl⟩:=at' k q e;dsimp only;rw[Jl,Ks]; omega
 ·obtain⟨hk,rfl⟩:=at' k q e;intro w hw;obtain⟨j,hj,rfl⟩:=JI.mp hw;have hjm:=Nu hj;show Em hb hv (hps _ (Ko hk)) (hps _ hjm) λe=>?_
  obtain⟨m,hm,e2⟩:=LH.mp hj;rw[Ks]at hm;rw[Ob]at e2;have:=(Mh hnd).mp (e.trans e2.symm);omega
section
variable{defs:Jj (JA×Df)}{fuel d:Jr}{S:aa}{Q:QW}
def En (hd:Is defs ("_law_flow" : JA) 1 1 dY){ns:Jj JG}{u:Jr}(hu:S[u]?=ba (.fro (ns.map W.int)))(k:∀r S',Ka S S'->Fl S' r->Q (.ref r,S')) :
  wO (aE (al defs fuel (d+1)) "_law_flow" 1 [.ref u] S) Q:=by
 show am hd rfl rfl λQ' hR=>?_
 change wZ _ _ dY [ba (.ref u)] S Q';dsimp only[dY];show st ?_;left;have e:Bi.list.fn [.ref u] S=ba (.ref S.length,S++[.lst (ns.map W.int)]):=by
  have h1:Ak S u=gV:=by simp[Ak,hu]
  simp only[Bi.fn,vw,lP,h1,ip,cq,Bf hu]
 show ab e (hR _ _ (k _ _ (Ka.push.trans .push) #[S.length,ns,0,0,1,0,?_,?_,?_,#v[],#v[],#v[],#v[]]))
 ·exact ac
 ·exact aj ac
 ·simp
end
def jI {bt:Jr->Jr->J1}{N:Jr}(ir:∀i < N,bt i i=false)(tr:∀i j k,i < N->j < N->k < N->bt i j=true->bt j k=true->bt i k=true):∀n,n < N->∀j≤n,bt j (argBest bt n)=false
 | 0,hn,j,hj=>by
  obtain rfl:j=0:=∅
  exact ir 0 hn
 | n+1,hn,j,hj=>by
  have ih:=jI ir tr n ∅
  have hb:=d4 bt n;simp only[argBest];cases c:bt (n+1) (argBest bt n)with
  | true=>
   rw[JO rfl]
   by_cases e:j=n+1
   ·subst e; exact ir _ hn
   ·cases c2:bt j (n+1)with
    | false=>rfl
    | true=>
     have:=tr j (n+1) (argBest bt n) ∅ hn ∅ c2 c
     rw[ih j ∅]at this; cases this
  | false=>
   rw[JZ (by exact JP)]
   by_cases e:j=n+1
   ·subst e; exact c
   ·exact ih j ∅
def qk {ks:Jj T}(hn:∀x∈ks,iA x=true)(hl:eP ks=true)(hne:ks≠[]):∃x,ks[je ks]?=ba x/\x∈ks/\∀y∈ks,eY y x=ba false:=by
 have hp:0 < ks.length:=Pu.mpr hne;have hm:je ks < ks.length:=by
  unfold je;have:=d4 (lT ks) (ks.length - 1);omega
 have ltk:∀i j (hi:i < ks.length) (hj:j < ks.length),eY ks[i] ks[j]=ba (lT ks i j):=λi j hi hj=>dQ hl hi hj
 have ir:∀i < ks.length,lT ks i i=false:=λi hi=>by
  cases c:lT ks i i with
  | false=>rfl
  | true=>
   have e:=ltk i i hi hi;rw[c]at e;have:=kw _ _ (hn _ (Ko hi)) e;rw[e]at this; cases this
 have mn:=jI (bt:=lT ks) (N:=ks.length) ir (λi j k hi hj hk h1 h2=>by
  have e1:=ltk i j hi hj;have e2:=ltk j k hj hk;rw[h1]at e1;rw[h2]at e2;have:=qX _ _ _ (hn _ (Ko hi)) (hn _ (Ko hj)) e1 e2;rw[ltk i k hi hk]at this;exact Kw this) (ks.length - 1) ∅
 show#[ks[je ks],JB hm,Ko hm,λy hy=>?_]
 obtain⟨j,hj,rfl⟩:=LH.mp hy;rw[ltk j _ hj hm];congr 1;exact mn j ∅
def tu {x y:T}(hx:iA x=true)(h1:eY x y=ba false)(h2:eY y x=ba false):x=y:=by
 by_cases e:x=y
 ·exact e
 ·rw[nF x y hx e h2]at h1; cases h1
def ql:∀ {xs ys as bs:Jj T},xs.length=ys.length->cJ xs ys=ba true->cJ (xs++as) (ys++bs)=ba true
 | [],[],_,_,_,h=>by cases h
 | x::xs,y::ys,as,bs,hl,h=>by
  simp only[Nq,cJ]at h ⊢
  by_cases e:x=y
  ·rw[JO e]at h ⊢;exact ql (by simpa using hl) h
  ·rw[JZ e]at h ⊢;exact h
 | [],_::_,_,_,hl,_=>by simp at hl
 | _::_,[],_,_,hl,_=>by simp at hl
def qm {as bs:Jj T}:∀xs:Jj T,cJ (xs++as) (xs++bs)=cJ as bs
 | []=>rfl
 | x::xs=>by
  simp only[Nq,cJ,Mf];exact qm xs
def Eo {x y:T}(hx:iA x=true)(h:cJ [x] [y]=ba true):eY x y=ba true:=by
 simp only[cJ]at h;split at h
 ·cases h
 ·exact h
structure Ord (n:Jr)(o:Jj Jr):Prop where
 nd:o.Nodup
 lt:∀p∈o,p < n
abbrev rJ:Jr->Jj (Jj Jr)
 | 0=>[[]]
 | k+1=>(rJ k).flatMap λo=>(Kb (k+1)).map λi=>o.take i++[k]++o.drop i
def og:∀ {n:Jr} {o:Jj Jr},o∈rJ n↔Ord n o/\o.length=n
 | 0,o=>by
  rw[rJ,JH];exact#[λh=>by subst h; exact#[#[.nil,λp hp=>nomatch hp],rfl],λh=>Mo h.2]
 | n+1,o=>by
  rw[rJ,Np];constructor
  ·rintro⟨o',h1,h2⟩;obtain⟨i,hi,rfl⟩:=JI.mp h2;obtain⟨⟨nd,lt⟩,hl⟩:=og.mp h1;have hi:=Kz.mp hi;have hp:(o'.take i++[n]++o'.drop i).Perm (n::o'):=by
    have e:o'.take i++[n]++o'.drop i=o'.take i++n::o'.drop i:=by simp
    rw[e];show QQ.trans ?_;rw[Mw]
   show#[#[hp.nodup_iff.mpr (LM.mpr #[λz=>absurd (lt _ z) (K4 _),nd]),λp hpm=>?_],by rw[hp.length_eq,JL,hl]]
   rcases JC.mp (hp.mem_iff.mp hpm)with z|z
   ·omega
   ·have:=lt p z; omega
  ·rintro⟨⟨nd,lt⟩,hl⟩;have hm:n∈o:=by
    by_cases z:n∈o
    ·exact z
    ·have h1:=gq o (Kb n) nd λp hp=>Kz.mpr (by
      have:=lt p hp;have:p≠n:=λe=>z (e ▸ hp)
      omega)
     rw[KU]at h1;omega
   obtain⟨a,b,rfl⟩:=List.append_of_mem hm;have hp:(a++n::b).Perm (n::(a++b)):=QQ;have nd2:=hp.nodup_iff.mp nd;obtain⟨nn,nd3⟩:=LM.mp nd2;show#[a++b,og.mpr #[#[nd3,λp hpm=>?_],?_],JI.mpr #[a.length,Kz.mpr ?_,?_]]
   ·have h1:=lt p (hp.mem_iff.mpr (Kd _ hpm));have:p≠n:=λe=>nn (e ▸ hpm)
    omega
   ·have:=hp.length_eq;rw[hl,JL]at this;omega
   ·rw[Jw,JL]at hl;omega
   ·rw[NA,MY] <;> simp
abbrev aW (bs:Jj JG)(u:Wd)(o:Jj Jr):Pt:=mC bs u o.dropLast (o.getLastD 0)
abbrev b6 (ps:Jj Pt):Pt:=ps.getD (je (ps.map gN)) (0,[])
abbrev ei (bs:Jj JG)(u:Wd):Jr->Jj (Jj Jr)
 | 0=>[[]]
 | k+1=>(aF u.length (ei bs u k)).filter λo=>decide (aW bs u o=b6 ((aF u.length (ei bs u k)).map (aW bs u)))
abbrev mF (bs:Jj JG)(u:Wd):Jr->Wd
 | 0=>[]
 | k+1=>mF bs u k++[b6 ((aF u.length (ei bs u k)).map (aW bs u))]
def yP (p:Pt):iA (gN p)=true:=by
 have:=jU [p]
 simpa [ee]using this
def mG (ps:Jj Pt):eP (ps.map gN)=true:=by
 unfold eP;rw[JV];intro x hx;rw[JV];intro y hy;obtain⟨p,_,rfl⟩:=JI.mp hx;obtain⟨q,_,rfl⟩:=JI.mp hy;exact rB _ _ (yg p q)
def mH {ps:Jj Pt}(h:ps≠[]):ps[je (ps.map gN)]?=ba (b6 ps)/\b6 ps∈ps/\∀y∈ps,eY (gN y) (gN (b6 ps))=ba false:=by
 obtain⟨x,h1,h2,h3⟩:=qk (ks:=ps.map gN) (λx hx=>by obtain⟨p,_,rfl⟩:=JI.mp hx; exact yP p) (mG ps) (by simpa using h)
 rw[Jv,Jo]at h1;obtain⟨p,hp,rfl⟩:=h1;have e:b6 ps=p:=by unfold b6; rw[KI,hp]; rfl
 rw[e];exact#[hp,JD hp,λy hy=>h3 _ (JI.mpr #[y,hy,rfl])]
def eT {n:Jr}{os:Jj (Jj Jr)}{o':Jj Jr}:o'∈aF n os↔∃o∈os,∃p,p < n/\p∉o/\o'=o++[p]:=by
 unfold aF;rw[Np];constructor
 ·rintro⟨o,ho,h⟩;obtain⟨p,hp,rfl⟩:=JI.mp h;obtain⟨h1,h2⟩:=L3.mp hp;exact#[o,ho,p,Kz.mp h1,J9 h2,rfl]
 ·rintro⟨o,ho,p,h1,h2,rfl⟩;exact#[o,ho,JI.mpr #[p,L3.mpr #[Kz.mpr h1,J6 h2],rfl]]
def gG {bs:Jj JG}{u:Wd}{o:Jj Jr}{p:Jr}:aW bs u (o++[p])=mC bs u o p:=by
 unfold aW;rw[Pe,Pf]
def iX {n:Jr}{o:Jj Jr}{p:Jr}:Ord n (o++[p])↔Ord n o/\p < n/\p∉o:=by
 constructor
 ·rintro⟨nd,lt⟩;rw[KT]at nd;exact#[#[nd.1,λq hq=>lt q (Ky _ hq)],lt p (by simp),λz=>nd.2.2 p z p (by simp) rfl]
 ·rintro⟨⟨nd,lt⟩,h1,h2⟩;show#[KT.mpr #[nd,by simp,λa ha b hb e=>?_],λq hq=>?_]
  ·rw[JH.mp hb]at e;exact h2 (e ▸ ha)
  ·rcases Kj.mp hq with z|z
   ·exact lt q z
   ·rw[JH.mp z]; exact h1
def qo {n:Jr}{o:Jj Jr}(h:Ord n o)(hl:o.length < n):∃p,p < n/\p∉o:=by
 by_cases z:∃p,p < n/\p∉o
 ·exact z
 ·have h1:=gq (Kb n) o Op λp hp=>by
   by_cases z2:p∈o
   ·exact z2
   ·exact absurd #[p,Kz.mp hp,z2] z
  rw[KU]at h1;omega
def GY (u v:Wd):(eY (bX u) (bX v)).isSome=true:=by
 have:=eS [u,v];unfold eP at this;rw[JV]at this;have:=this (bX u) (by simp)
 rw[JV]at this;exact this (bX v) (by simp)
def Er {u v:Wd}(h:eY (bX u) (bX v)≠ba true):eY (bX u) (bX v)=ba false:=by
 obtain⟨b,hb⟩:=KF.mp (GY u v);cases b with
 | false=>exact hb
 | true=>exact absurd hb h
structure GrOk (bs:Jj JG)(u:Wd)(k:Jr):Prop where
 mem:∀o,o∈ei bs u k↔Ord u.length o/\o.length=k/\aw bs u o=mF bs u k
 least:∀o,Ord u.length o->o.length=k->eY (bX (aw bs u o)) (bX (mF bs u k))=ba false
 ne:ei bs u k≠[]
 len:(mF bs u k).length=k
def tz {k:Jr}{o:Jj Jr}(h:o.length=k+1):∃o' p,o=o'++[p]/\o'.length=k:=by
 have hne:o≠[]:=λz=>by rw[z]at h; cases h
 exact#[o.dropLast,o.getLast hne,(List.dropLast_concat_getLast hne).symm,by rw[List.length_dropLast]; omega]
def la {bs:Jj JG}{u:Wd}:∀k,k<=u.length->GrOk bs u k
 | 0,_=>by
  show#[λo=>?_,λo _ hl=>?_,QP _ _,rfl]
  ·rw[ei,JH];exact#[λh=>by subst h; exact#[#[.nil,λp hp=>nomatch hp],rfl,rfl],λh=>Mo h.2.1]
  ·rw[Mo hl]; rfl
 | k+1,hk=>by
  have ih:=la (bs:=bs) (u:=u) k ∅
  have lne:aF u.length (ei bs u k)≠[]:=by
   obtain⟨o,ho⟩:=MN _ ih.ne;obtain⟨h1,h2,_⟩:=(ih.mem o).mp ho;obtain⟨p,hp,hpo⟩:=qo h1 ∅
   exact NW (eT.mpr #[o,ho,p,hp,hpo,rfl])
  obtain⟨_,b2,b3⟩:=mH (ps:=(aF u.length (ei bs u k)).map (aW bs u)) (by simpa using lne)
  have ef:mF bs u (k+1)=mF bs u k++[b6 ((aF u.length (ei bs u k)).map (aW bs u))]:=rfl;have eo:ei bs u (k+1)=(aF u.length (ei bs u k)).filter λo=>decide (aW bs u o=b6 ((aF u.length (ei bs u k)).map (aW bs u))):=rfl
  generalize b6 ((aF u.length (ei bs u k)).map (aW bs u))=best at b2 b3 ef eo;show#[λo=>?_,λo hO hl=>?_,?_,by rw[ef,Jw,ih.len]; rfl]
  ·rw[eo,L3,ef];constructor
   ·rintro⟨h1,h2⟩;obtain⟨o,ho,p,hp,hpo,rfl⟩:=eT.mp h1;obtain⟨g1,g2,g3⟩:=(ih.mem o).mp ho;have h2:=J9 h2;rw[gG]at h2;exact#[iX.mpr #[g1,hp,hpo],by rw[Jw,g2]; rfl,by rw[jt,g3,h2]]
   ·rintro⟨h1,h2,h3⟩;obtain⟨o,p,rfl,hl⟩:=tz h2;obtain⟨g1,g2,g3⟩:=iX.mp h1;rw[jt]at h3;obtain⟨e1,e2⟩:=List.append_inj h3 (by rw[bq,ih.len,hl])
    show#[eT.mpr #[o,(ih.mem o).mpr #[g1,hl,e1],p,g2,g3,rfl],J6 ?_];rw[gG];exact List.singleton_inj.mp e2
  ·obtain⟨o,p,rfl,hl'⟩:=tz hl;clear hl;have hl:=hl';obtain⟨g1,g2,g3⟩:=iX.mp hO;show Er λz=>?_
   rw[jt,ef]at z;have z:cJ ((aw bs u o++[mC bs u o p]).map gN) ((mF bs u k++[best]).map gN)=ba true:=z;rw[J0,J0]at z
   by_cases e:aw bs u o=mF bs u k
   ·rw[e,qm]at z;have:=Eo (yP _) z;rw[b3 _ (JI.mpr #[o++[p],eT.mpr #[o,(ih.mem o).mpr #[g1,hl,e],p,g2,g3,rfl],gG])]at this;cases this
   ·have h1:=nF (bX (mF bs u k)) (bX (aw bs u o)) (kZ _) (λh=>e (fu h).symm) (ih.least o g1 hl)
    have h1:cJ ((mF bs u k).map gN) ((aw bs u o).map gN)=ba true:=h1;have h2:=ql (as:=[best].map gN) (bs:=[mC bs u o p].map gN) (by rw[Jl,Jl,bq,ih.len,hl]) h1
    have h3:=nE _ _ (by rw[<- J0]; exact jU _) h2
    rw[z]at h3; cases h3
  ·obtain⟨o,ho,e⟩:=JI.mp b2;rw[eo];exact NW (L3.mpr #[ho,J6 e])
abbrev aL (bs:Jj JG)(u:Wd):Wd:=mF bs u u.length
def iY {bs:Jj JG}{u:Wd}:∃o,Ord u.length o/\o.length=u.length/\aw bs u o=aL bs u:=by
 have h:=la (bs:=bs) (u:=u) u.length (Jy _);obtain⟨o,ho⟩:=MN _ h.ne;exact#[o,(h.mem o).mp ho]
def gH {bs:Jj JG}{u:Wd}{o:Jj Jr}{i:Jr}(hi:i < o.length):(aw bs u o).getD i (0,[])=((u.getD (o.getD i 0) (0,[])).1,(o.take i).map λj=>cN bs u (o.getD i 0) j):=by
 unfold aw;rw[KI,Jv,MR hi]; rfl
def qp {bs:Jj JG}{u:Wd}{o:Jj Jr}{i j:Jr}(hi:i < o.length)(hj:j < i):((aw bs u o).getD i (0,[])).2.getD j 0=cN bs u (o.getD i 0) (o.getD j 0):=by
 rw[gH hi];dsimp only;rw[KI,Jv,MS hj,au (d:=0) (show j < o.length by omega)]; rfl
def yQ {bs:Jj JG}{a:Jr}{u:Wd}{o:Jj Jr}{i j:Jr}(hb:GoodB bs)(hu:GoodW a bs.length u)(hO:Ord u.length o)(hi:i < o.length)(hj:j < o.length)(hij:i≠j):cN bs (aw bs u o) i j=cN bs u (o.getD i 0) (o.getD j 0):=by
 have gi:=au (d:=0) hi;have gj:=au (d:=0) hj;have li:=hO.lt _ (JD gi);have lj:=hO.lt _ (JD gj);have ne:o.getD i 0≠o.getD j 0:=λe=>by
  have h1:o[i]=o.getD i 0:=by simp[hi]
  have h2:o[j]=o.getD j 0:=by simp[hj]
  exact hij ((Mh hO.nd).mp (by rw[h1,h2,e]))
 by_cases h:j < i
 ·have:cN bs (aw bs u o) i j=((aw bs u o).getD i (0,[])).2.getD j 0:=by unfold cN; rw[JO h]
  rw[this,qp hi h]
 ·have:cN bs (aw bs u o) i j=bs.getD (((aw bs u o).getD j (0,[])).2.getD i 0).toNat 0:=by unfold cN; rw[JZ h]
  rw[this,qp hj ∅]
  generalize o.getD i 0=x at *
  generalize o.getD j 0=y at *
  unfold cN
  by_cases h2:x < y
  ·rw[JO h2,JZ ∅]
  ·rw[JZ h2,JO ∅]
   have hp:=au (d:=(0,[])) li;have hw:y < (u.getD x (0,[])).2.length:=by rw[hu.len x _ hp]; omega
   obtain⟨w0,w1⟩:=hu.way x _ hp _ (JD (au (d:=0) hw));have:=hb.inv ((u.getD x (0,[])).2.getD y 0).toNat ∅
   rw[this]; omega
def mI {bs:Jj JG}{a:Jr}{u:Wd}{o p:Jj Jr}(hb:GoodB bs)(hu:GoodW a bs.length u)(hO:Ord u.length o)(hP:Ord o.length p):aw bs (aw bs u o) p=aw bs u (p.map λi=>o.getD i 0):=by
 show Nk (by rw[bq,bq,Jl]) λk h1 h2=>?_
 rw[bq]at h1;have e1:=gH (bs:=bs) (u:=aw bs u o) (o:=p) h1;have e2:=gH (bs:=bs) (u:=u) (o:=p.map λi=>o.getD i 0) (i:=k) (by rw[Jl]; exact h1)
 have hk:p.getD k 0 < o.length:=hP.lt _ (JD (au (d:=0) h1));have ek:(p.map λi=>o.getD i 0).getD k 0=o.getD (p.getD k 0) 0:=by
  rw[KI,Jv,au (d:=0) h1]; rfl
 rw[ek]at e2;rw[gH hk]at e1;have f:∀(v:Wd) (hv:k < v.length),v[k]=v.getD k (0,[]):=λv hv=>by simp[hv]
 rw[f _ (by rw[bq]; exact h1),f _ h2,e1,e2]
 congr 1;rw[<- Oh,KL];show K7 λj hj=>?_
 obtain⟨m,hm,rfl⟩:=LH.mp hj;rw[Ks]at hm;rw[Ob];have hpm:p[m]=p.getD m 0:=by simp[show m < p.length by omega]
 rw[hpm];show yQ hb hu hO hk (hP.lt _ (JD (au (d:=0) (show m < p.length by omega)))) λe=>?_
 have h3:p[k]=p.getD k 0:=by simp[h1]
 have:=(Mh hP.nd).mp (h3.trans (e.trans hpm.symm));omega
def jV {n:Jr}{o:Jj Jr}(h:Ord n o)(hl:o.length=n){p:Jr}(hp:p < n):p∈o:=by
 by_cases z:p∈o
 ·exact z
 ·have:=(iX (n:=n) (o:=o) (p:=p)).mpr #[h,hp,z];have h1:=gq (o++[p]) (Kb n) this.nd λq hq=>Kz.mpr (this.lt q hq)
  rw[Jw,KU,Nf]at h1;omega
def yR {n:Jr}{o p:Jj Jr}(h:Ord n o)(hp:Ord o.length p):Ord n (p.map λi=>o.getD i 0):=by
 have g:∀i,i < o.length->o[i]?=ba (o.getD i 0):=λi hi=>au hi
 show#[?_,λq hq=>?_]
 ·rw[MG,LK];show hp.nd.imp_of_mem λ{a b} ha hb hab e=>hab ?_
  have h1:=hp.lt a ha;have h2:=hp.lt b hb;have e1:o[a]=o.getD a 0:=by simp[h1]
  have e2:o[b]=o.getD b 0:=by simp[h2]
  exact(Mh h.nd).mp (by rw[e1,e2,e])
 ·obtain⟨i,hi,rfl⟩:=JI.mp hq;exact h.lt _ (JD (g i (hp.lt i hi)))
def lb {bs:Jj JG}{a:Jr}{u:Wd}{o:Jj Jr}(hb:GoodB bs)(hu:GoodW a bs.length u)(hO:Ord u.length o)(hl:o.length=u.length):aL bs (aw bs u o)=aL bs u:=by
 have pl:(aw bs u o).length=u.length:=by rw[bq,hl]
 obtain⟨p,p1,p2,p3⟩:=iY (bs:=bs) (u:=aw bs u o);obtain⟨q,q1,q2,q3⟩:=iY (bs:=bs) (u:=u);rw[pl]at p1 p2;have m1:=λo h1 h2=>(la (bs:=bs) (u:=u) _ (Jy _)).least o h1 h2
 have m2:=λo2 h1 h2=>(la (bs:=bs) (u:=aw bs u o) _ (Jy _)).least o2 h1 h2
 show fu (tu (kZ _) ?_ ?_)
 ·rw[<- p3,mI hb hu hO (by rw[hl]; exact p1)]
  exact m1 _ (yR hO (by rw[hl]; exact p1)) (by rw[Jl,p2])
 ·have e:q=(q.map λx=>o.idxOf x).map λi=>o.getD i 0:=by
   rw[KL]
   conv=>lhs; rw[<- Sg q]
   show K7 λx hx=>?_
   have hm:=jV hO hl (q1.lt x hx);have hlt:=LS hm;change x=o.getD (o.idxOf x) 0;rw[KI,JB hlt,NX]; rfl
  have hQ:Ord o.length (q.map λx=>o.idxOf x):=by
   show#[?_,λi hi=>?_]
   ·rw[MG,LK];show q1.nd.imp_of_mem λ{x y} hx hy hxy e=>hxy ?_
    have h1:=LS (jV hO hl (q1.lt x hx));have h2:=LS (jV hO hl (q1.lt y hy));have e1:=NX h1;have e2:=NX h2;rw[<- e1,<- e2];congr 1
   ·obtain⟨x,hx,rfl⟩:=JI.mp hi;exact LS (jV hO hl (q1.lt x hx))
  rw[<- q3,e,<- mI hb hu hO hQ];exact m2 _ (by rw[pl,<- hl]; exact hQ) (by rw[Jl,pl,q2])
section
variable{M:JA->FF}{Z:Fm}{S:aa}
def Et {α:Type}{elt a b:E}{cs:Es}{cap:Jj (Jq Jr)}{Q:QW}(L:Jj α)(f g:α->W)(p:α->J1)(h:α->W)(R:Fm)(oa:bV a=true)(ob:bV b=true)(oe:bV elt=true)(oc:oD cs=true)(hc:cL cap Z=gV::gV::gV::R)(hl:L.length<=1000000)
  (he:wE M a Z S λq=>wE M b Z q.2 λq2=>∃r t,q.1=.ref r/\q2.1=.ref t/\q2.2[r]?=ba (.lst (L.map f))/\q2.2[t]?=ba (.lst (L.map g))/\Ka S q2.2)
  (hstep:∀x∈L,∀S',Ka S S'->gM M elt cs (gV::ba (f x)::ba (g x)::R) S' (λy _ S2=>p x=true/\y=h x/\Ka S' S2) (λ_ S2=>p x=false/\Ka S' S2))
  (k:∀S',Ka S S'->Q (.ref S'.length,S'++[.lst ((L.filter p).map h)])):Wp (ay M (.comp elt (.tp [1,2]) (.zip #v[a,b]) cs cap) Z S) Q:=by
 obtain⟨w,S0,e1,h1⟩:=aR oa he;obtain⟨w2,S1,e2,r,t,rfl,rfl,hr,ht,k1⟩:=aR ob h1;have hr:=hr;have hz:iH (L.map f) (L.map g)=L.map λx=>W.tup [f x,g x]:=by
  unfold iH;rw[QR,List.zipWith_self]
 have hi:gb M (.zip #v[a,b]) Z S=ba (.zl r t,S1):=by
  dsimp only at hr ht;simp only[gb,cr,bK,eG,xx,e1,e2,zu,ap hr,ap ht]
 dsimp only at hr ht k1;exact n6 L (λx=>W.tup [f x,g x]) p h (λZ=>∃a b,Z=gV::a::b::R) (λx=>gV::ba (f x)::ba (g x)::R) (λ_ _ _ h=>let ⟨_,_,e⟩:=h; e ▸ #[rfl,_,_,rfl]) oe oc #[_,_,hc] hl hi k1 (λi S' h=>by simp only[MI.at,ap (h.get _ _ hr),ap (h.get _ _ ht),hz]) (by simp only[MI.len,ap hr,ap ht,hz]) hstep k
end
def Eu (L:Jj Pt):W.ts (L.map bU)=ba (L.map gN):=by rw[<- rA]; exact T.ws_ts _
abbrev bg:Ss:=
 #v[.set 2 (.lst .nil),.set 3 (.lst #v[.tup .nil]),.whl (.cmp .lt (.bi .len #v[.v 2]) (.bi .len #v[.v 1])) #v[.set 4 (.own "longer_orders" 2 #v[.v 3,.bi .len #v[.v 1]]),.set 5 (.comp (.own "point_over" 4 #v[.v 2,.v 3,.sl (.v 1) .no (.yes (.neg (.c (.int 1)))),.ix (.v 1) (.neg (.c (.int 1)))]) (.nm 1) (.seq (.v 4)) .nil [gV,gV,ba 0,ba 1]),.set 6 (.bi .min #v[.v 5]),.ex (.me .append (.v 2) #v[.v 6]),.set 3 (.comp (.v 1) (.tp [1,2]) (.zip #v[.v 4,.v 5]) #v[.cmp .eq (.v 2) (.v 3)] [gV,gV,gV,ba 6])],.ret (.bi .tuple #v[.v 2])]
section
variable{defs:Jj (JA×Df)}{fuel d:Jr}{S:aa}{Q:QW}
def Ev {l:Jr}{ps:Jj Pt}(h:S[l]?=ba (.lst (ps.map bU)))(hne:ps≠[])(q:Q (bU (b6 ps),S)):wO (Bi.min.fn [.ref l] S) Q:=by
 show ab ?_ q;simp only[Bi.fn,vw,wI,ap h,Eu];rw[JO #[by have:=jq ps; unfold dv; omega,mG _],Jv,(mH hne).1]; rfl
def tB {bs:Jj JG}{u:Wd}:∀k,(ei bs u k).length<=u.length ^ k
 | 0=>Jy _
 | k+1=>by
  have h1:=Mx (λo=>decide (aW bs u o=b6 ((aF u.length (ei bs u k)).map (aW bs u)))) (aF u.length (ei bs u k))
  have h2:=iW (n:=u.length) (ei bs u k);have h3:=Nv u.length (tB (bs:=bs) (u:=u) k);rw[Nat.pow_succ];exact J8 h1 (J8 h2 h3)
def iZ (hfu:20 < fuel)(P:Parts defs)(hlo:Is defs ("longer_orders" : JA) 2 4 aJ)(hg:Is defs ("least_form" : JA) 2 7 bg){m0 b0:W}{ns:Jj JA}{bs:Jj JG}{a:Jr}{u:Wd}(hb:GoodB bs)(hnl:ns.length=bs.length)(hu:GoodW a bs.length u)(hu6:u.length<=6)
  (kk:∀S',Ka S S'->Q (aK (aL bs u),S')) :
  wO (aE (al defs fuel (d+3)) "least_form" 2 [.tup [m0,.tup (Jx ar ns bs),b0],aK u] S) Q:=by
 show am hg rfl rfl λQ' hR=>?_
 replace kk:∀S',Ka S S'->Q' (.rt (aK (aL bs u)),S'):=λS' a=>hR _ _ (kk S' a)
 clear hR;change wZ _ _ bg [ba (.tup [m0,.tup (Jx ar ns bs),b0]),ba (aK u),gV,gV,gV,gV,gV] S Q';generalize hR0:W.tup [m0,.tup (Jx ar ns bs),b0]=R;have ul:(u.map bU).length=u.length:=Jl ..;dsimp only[bg];show st ?_;dsimp only[wS,wE,wA,JE];show st ?_;dsimp only[wS,wE,wA,JE];nofun
 show xY (λm Z S'=>∃(k q:Jr) (a4 a5 a6:Jq W),k+m=u.length/\Z=[ba R,ba (aK u),ba (.ref S.length),ba (.ref q),a4,a5,a6]/\S'[S.length]?=ba (.lst ((mF bs u k).map bU))/\S'[q]?=ba (.lst (dh (ei bs u k)))/\Ka S S') u.length rfl rfl ∅ #[0,(S++[O.lst []]).length,gV,gV,gV,∅,rfl,aj ac,ac,Ka.push.trans .push] ?_
 rintro m Z S1 ⟨k,q,a4,a5,a6,hkm,rfl,e1,e2,k1⟩;have ok:=la (bs:=bs) (u:=u) k ∅
 have hl1:=dq e1;dsimp only[wT,wE,wA,wV,wG];show gm e1 (bp ?_);rw[ul,Jl,ok.len];dsimp only[D8,aC,wB];show#[λh=>?_,λh=>?_]
 ·have h:(k:JG) < u.length:=J9 h;have hkn:k < u.length:=∅
  show#[m - 1,∅,λQ2 hn _=>?_]
  clear hK kk;have hgl:(ei bs u k).length<=7776:=J8 (tB k) (J8 (Nat.pow_le_pow_left hu6 k) (Nat.pow_le_pow_right (n:=6) #v[] (show k<=5 by omega)))
  have hmul:(ei bs u k).length*u.length<=46656:=Nat.mul_le_mul hgl hu6;have hll:(aF u.length (ei bs u k)).length<=46656:=J8 (iW _) hmul;show st ?_;left;show bp ?_;rw[ul];show yM (d:=d+1) hlo e2 ∅ (λo ho=>by have:=((ok.mem o).mp ho).2.1; omega) ∅ λl S2 e3 hl k2=>?_
  have hl:S1.length<=l:=hl;have lne:aF u.length (ei bs u k)≠[]:=by
   obtain⟨o,ho⟩:=MN _ ok.ne;obtain⟨h1,h2,_⟩:=(ok.mem o).mp ho;obtain⟨p,hp,hpo⟩:=qo h1 ∅
   exact NW (eT.mpr #[o,ho,p,hp,hpo,rfl])
  show st ?_;dsimp only[wS,wE,JE];show yO (aF u.length (ei bs u k)) (λo=>.tup (aB o)) (λ_=>true) (λo=>bU (aW bs u o)) [ba R,ba (aK u)] rfl rfl rfl rfl ∅ #[l,rfl,e3,.refl] (λo ho S3 k3=>?_) λS3 k3=>?_
  ·obtain⟨o,ho',p,hp,hpo,rfl⟩:=eT.mp ho;obtain⟨⟨o1,o2⟩,o3,_⟩:=(ok.mem o).mp ho';dsimp only[gM,wC,wE,wA,wP,wV,wG,wN];show#[λ_=>?_,λz=>by cases z]
   show ab (show lM (.tup (aB (o++[p]))) gV (ba (-1)) S3=ba (.tup (aB o),S3) by simp only[lM,yL,vh,Pe]) ?_
   dsimp only;show ab (BB (by simp)) ?_
   dsimp only;subst hR0;rw[Pf,gG];exact Ei (d:=d) P hb hnl hu (λx hx=>#[o2 x hx,λe=>hpo (e ▸ hx)]) hp ∅ λS4 k4=>#[rfl,rfl,k4]
  rw[bZ];have em:(aF u.length (ei bs u k)).map (λo=>bU (aW bs u o))=((aF u.length (ei bs u k)).map (aW bs u)).map bU:=by rw[KL]; rfl
  rw[em];have e4:(S3++[O.lst (((aF u.length (ei bs u k)).map (aW bs u)).map bU)])[S3.length]?=ba (.lst (((aF u.length (ei bs u k)).map (aW bs u)).map bU)):=ac;have e3':=aj (u:=O.lst (((aF u.length (ei bs u k)).map (aW bs u)).map bU)) (k3.get _ _ e3);have e1':=aj (u:=O.lst (((aF u.length (ei bs u k)).map (aW bs u)).map bU)) (k3.get _ _ (k2.get _ _ e1));have ls3:S.length < S3.length:=J3 hl1 (J8 k2.len k3.len);have k4:Ka S (S3++[O.lst (((aF u.length (ei bs u k)).map (aW bs u)).map bU)]):=((k1.trans k2).trans k3).trans .push;generalize S3++[O.lst (((aF u.length (ei bs u k)).map (aW bs u)).map bU)]=S4 at e4 e3' e1' k4;generalize hl5:S3.length=l5 at e4 ls3;clear e2 e3 k3 k2 hl5;show st ?_;left;show Ev e4 (by simpa using lne) ?_
  show st ?_;left;show#[bv e1',El e1' (by rw[Jl,ok.len]; omega) ?_]
  have s1:=aX (o':=O.lst ((mF bs u k).map bU++[bU (b6 ((aF u.length (ei bs u k)).map (aW bs u)))])) e1';have s3:(S4.set S.length (O.lst ((mF bs u k).map bU++[bU (b6 ((aF u.length (ei bs u k)).map (aW bs u)))])))[l]?=ba (.lst (dh (aF u.length (ei bs u k)))):=by rw[bj ∅]; exact e3'
  have s4:(S4.set S.length (O.lst ((mF bs u k).map bU++[bU (b6 ((aF u.length (ei bs u k)).map (aW bs u)))])))[l5]?=ba (.lst (((aF u.length (ei bs u k)).map (aW bs u)).map bU)):=by rw[bj ∅]; exact e4
  have k5:=k4.late (o:=O.lst ((mF bs u k).map bU++[bU (b6 ((aF u.length (ei bs u k)).map (aW bs u)))])) (Jy S.length);generalize S4.set S.length (O.lst ((mF bs u k).map bU++[bU (b6 ((aF u.length (ei bs u k)).map (aW bs u)))]))=S5 at s1 s3 s4 k5;show st ?_;dsimp only[wS,wE,JE];show Et (aF u.length (ei bs u k)) (λo=>.tup (aB o)) (λo=>bU (aW bs u o)) (λo=>decide (aW bs u o=b6 ((aF u.length (ei bs u k)).map (aW bs u)))) (λo=>.tup (aB o)) [ba (bU (b6 ((aF u.length (ei bs u k)).map (aW bs u))))] rfl rfl rfl rfl rfl ∅ #[l,l5,rfl,rfl,s3,by rw[em]; exact s4,.refl] (λo ho S6 k6=>?_) λS6 k6=>?_
  ·dsimp only[gM,wC,wT,wE,wV,wG];show ab GX ?_;dsimp only[wB];exact#[λz=>#[z,rfl,.refl],λz=>#[z,.refl]]
  ·show a9 (hn _ _ #[k+1,S6.length,_,_,_,∅,rfl,?_,ac,(k5.trans k6).trans .push])
   have:=aj (u:=O.lst (((aF u.length (ei bs u k)).filter λo=>decide (aW bs u o=b6 ((aF u.length (ei bs u k)).map (aW bs u)))).map λo=>W.tup (aB o))) (k6.get _ _ s1)
   rw[this,show mF bs u (k+1)=mF bs u k++[b6 ((aF u.length (ei bs u k)).map (aW bs u))]from rfl,J0]; rfl
 ·have h:¬ (k:JG) < u.length:=Kv h;obtain rfl:k=u.length:=∅
  show hK _ _ (st ?_);left;exact dt e1 (kk _ k1)
end
def qr {S:aa}{zs:Jj JA}{y:JA}:bO .isin (.str y) (.tup (zs.map W.str)) S=ba (.bl (decide (y∈zs)),S):=by
 show(zr (.str y) (.tup (zs.map W.str)) S).map (λk=>(W.bl k,S))=_
 simp only[zr,cq];rw[JO (by rw[iP]; rfl),sT]
 rfl
def lc {α:Type}:∀L:Jj α,eZ (L.map λ_=>W.bl true)=ba (L.map λ_=>true)
 | []=>rfl
 | _::L=>by rw[JS,eZ,lc L]; rfl
section
variable{M:JA->FF}{Z:Fm}{S:aa}
def mJ {α:Type}{elt:E}{tg:Tg}{it:Ie}{cap:Jj (Jq Jr)}{mi:MI}{S1:aa}{Q:QW}(L:Jj α)(f:α->W)(td:Fm->Prop)(fr:α->Fm)(hJ:∀x Z S,td Z->gA tg (f x) Z S=ba (fr x,S)/\td (fr x))(oe:bV elt=true)(hc:td (cL cap Z))(hl:L.length<=1000000)(hi:gb M it Z S=ba (mi,S1))(k1:Ka S S1)(hat:∀i S',Ka S1 S'->mi.at S' i=ba (L.map f)[i]?)(hn:mi.len S1=ba (L.map f).length)
  (hstep:∀x∈L,∀S',Ka S S'->wE M elt (fr x) S' λy=>true=true/\y.1=.bl true/\Ka S' y.2)
  (k:∀S',Ka S S'->Q (.bl true,S')):wE M (.bi .all #v[.comp elt tg it .nil cap]) Z S Q:=by
 dsimp only[wE,wA];show n6 L f (λ_=>true) (λ_=>.bl true) td fr hJ oe rfl hc hl hi k1 hat hn (λx hx S' k'=>?_) λS' k'=>?_
 ·dsimp only[gM,wC];exact#[λ_=>hstep x hx S' k',λz=>by cases z]
 ·rw[bZ];show ab (a:=(.bl true,S'++[.lst (L.map λ_=>W.bl true)])) ?_ (k _ (k'.trans .push))
  dsimp only[Bi.fn,Ap];simp only[ap (ac (S:=S') (o:=.lst (L.map λ_=>W.bl true))),lc,Kc]
  have:(L.map λ_=>true).all id=true:=by rw[Qm]; exact JV.mpr λ_ _=>rfl
  rw[this]
def lg {α:Type}{elt e:E}{cap:Jj (Jq Jr)}{Q:QW}(L:Jj α)(f:α->W)(R:Fm)(oi:bV e=true)(oe:bV elt=true)(hc:cL cap Z=gV::gV::R)(hl:L.length<=1000000)
  (he:wE M e Z S λq=>q.1=.tup (L.map f)/\Ka S q.2)
  (hstep:∀x∈L,∀S',Ka S S'->wE M elt (gV::ba (f x)::R) S' λy=>true=true/\y.1=.bl true/\Ka S' y.2)
  (k:∀S',Ka S S'->Q (.bl true,S')):wE M (.bi .all #v[.comp elt (.nm 1) (.seq e) .nil cap]) Z S Q:=by
 obtain⟨w,S1,e1,rfl,k1⟩:=aR oi he;exact mJ (mi:=.its (L.map f)) L f (λZ=>∃a,Z=gV::a::R) (λx=>gV::ba (f x)::R) (λ_ _ _ h=>let ⟨_,e⟩:=h; e ▸ #[rfl,_,rfl]) oe #[_,hc] hl (by simp only[gb,da,e1]) k1 (λ_ _ _=>rfl) rfl hstep k
def Cs {α:Type}{elt e:E}{cap:Jj (Jq Jr)}{Q:QW}(L:Jj α)(f:α->W)(R:Fm)(oi:bV e=true)(oe:bV elt=true)(hc:cL cap Z=gV::gV::R)(hl:L.length<=1000000)
  (he:wE M e Z S λq=>∃t,q.1=.ref t/\q.2[t]?=ba (.lst (L.map f))/\Ka S q.2)
  (hstep:∀x∈L,∀S',Ka S S'->wE M elt (gV::ba (f x)::R) S' λy=>true=true/\y.1=.bl true/\Ka S' y.2)
  (k:∀S',Ka S S'->Q (.bl true,S')):wE M (.bi .all #v[.comp elt (.nm 1) (.seq e) .nil cap]) Z S Q:=by
 obtain⟨w,S1,e1,t,rfl,ht,k1⟩:=aR oi he;exact mJ (mi:=.live t) L f (λZ=>∃a,Z=gV::a::R) (λx=>gV::ba (f x)::R) (λ_ _ _ h=>let ⟨_,e⟩:=h; e ▸ #[rfl,_,rfl]) oe #[_,hc] hl (by simp only[gb,da,e1,ap ht]) k1 (λi S' h=>by simp only[MI.at,ap (h.get _ _ ht)]) (by simp only[MI.len,ap ht,Kc]) hstep k
def GZ {elt e:E}{cap:Jj (Jq Jr)}{Q:QW}(x:JA)(R:Fm)(oi:bV e=true)(oe:bV elt=true)(hc:cL cap Z=gV::gV::R)(hl:x.cps.toList.length<=1000000)(ha:(x.cps.all λc=>decide (c < 128))=true)
  (he:wE M e Z S λq=>q.1=.str x/\Ka S q.2)
  (hstep:∀c∈x.cps.toList,∀S',Ka S S'->wE M elt (gV::ba (.str #[[c].toArray])::R) S' λy=>true=true/\y.1=.bl true/\Ka S' y.2)
  (k:∀S',Ka S S'->Q (.bl true,S')):wE M (.bi .all #v[.comp elt (.nm 1) (.seq e) .nil cap]) Z S Q:=by
 obtain⟨w,S1,e1,rfl,k1⟩:=aR oi he;exact mJ (mi:=.its (x.cps.toList.map λc=>W.str #[[c].toArray])) x.cps.toList (λc=>W.str #[[c].toArray]) (λZ=>∃a,Z=gV::a::R) (λc=>gV::ba (.str #[[c].toArray])::R) (λ_ _ _ h=>let ⟨_,e⟩:=h; e ▸ #[rfl,_,rfl]) oe #[_,hc] hl (by simp only[gb,da,e1,ha,Mf]) k1 (λ_ _ _=>rfl) rfl hstep k
def G0 {elt e:E}{cap:Jj (Jq Jr)}{Q:QW}(n:Jr)(R:Fm)(oi:bV e=true)(oe:bV elt=true)(hc:cL cap Z=gV::gV::R)(hl:n<=1000000)
  (he:wE M e Z S λq=>q.1=.int n/\Ka S q.2)
  (hstep:∀x < n,∀S',Ka S S'->wE M elt (gV::ba (.int (x:Jr))::R) S' λy=>true=true/\y.1=.bl true/\Ka S' y.2)
  (k:∀S',Ka S S'->Q (.bl true,S')):wE M (.bi .all #v[.comp elt (.nm 1) (.rng #v[e]) .nil cap]) Z S Q:=by
 obtain⟨w,S1,e1,rfl,k1⟩:=aR oi he;show mJ (mi:=.its (cK 0 n)) (Kb n) (λi=>W.int (i:Jr)) (λZ=>∃a,Z=gV::a::R) (λx=>gV::ba (.int (x:Jr))::R) (λ_ _ _ h=>let ⟨_,e⟩:=h; e ▸ #[rfl,_,rfl]) oe #[_,hc] (by rw[KU]; exact hl) ?_ k1 (λi S' _=>by rw[<- qh]; rfl) (by rw[<- qh]; rfl) (λx hx=>hstep x (Kz.mp hx)) k
 simp only[gb,cr,bK,eG,q8,e1];rw[JO #[∅,∅]]; rfl
def Ct {α:Type}{elt e:E}{cap:Jj (Jq Jr)}{Q:QW}(L:Jj α)(f:α->W)(R:Fm)(oi:bV e=true)(oe:bV elt=true)(hc:cL cap Z=gV::gV::gV::R)(hl:L.length<=1000000)
  (he:wE M e Z S λq=>q.1=.tup (L.map f)/\Ka S q.2)
  (hstep:∀(i:Jr) (x:α),L[i]?=ba x->∀S',Ka S S'->wE M elt (gV::ba (.int (i:Jr))::ba (f x)::R) S' λy=>true=true/\y.1=.bl true/\Ka S' y.2)
  (k:∀S',Ka S S'->Q (.bl true,S')):wE M (.bi .all #v[.comp elt (.tp [1,2]) (.enu #v[e]) .nil cap]) Z S Q:=by
 obtain⟨w,S1,e1,rfl,k1⟩:=aR oi he;have hz:L.zipIdx.map (λp=>W.tup [.int (p.2:Jr),f p.1])=fZ (L.map f):=by
  unfold fZ;rw[List.zipIdx_map,KL]; rfl
 show mJ (mi:=.its (fZ (L.map f))) L.zipIdx (λp=>W.tup [.int (p.2:Jr),f p.1]) (λZ=>∃a b,Z=gV::a::b::R) (λp=>gV::ba (.int (p.2:Jr))::ba (f p.1)::R) (λ_ _ _ h=>let ⟨_,_,e⟩:=h; e ▸ #[rfl,_,_,rfl]) oe #[_,_,hc] (by rw[M1]; exact hl) (by simp only[gb,cr,bK,eG,rm,e1,zu]) k1 (λi S' _=>by rw[hz]; rfl) (by rw[hz]; rfl) (λp hp=>hstep p.2 p.1 ?_) k
 exact(NB.mp hp)
def G1 {α:Type}{elt a b:E}{cap:Jj (Jq Jr)}{Q:QW}(L:Jj α)(f g:α->W)(R:Fm)(oa:bV a=true)(ob:bV b=true)(oe:bV elt=true)(hc:cL cap Z=gV::gV::gV::R)(hl:L.length<=1000000)(xs ys:Jj W)(hx:iH xs ys=L.map λx=>W.tup [f x,g x])
  (he:wE M a Z S λq=>wE M b Z q.2 λq2=>q.1=.tup xs/\q2.1=.tup ys/\Ka S q2.2)
  (hstep:∀x∈L,∀S',Ka S S'->wE M elt (gV::ba (f x)::ba (g x)::R) S' λy=>true=true/\y.1=.bl true/\Ka S' y.2)
  (k:∀S',Ka S S'->Q (.bl true,S')):wE M (.bi .all #v[.comp elt (.tp [1,2]) (.zip #v[a,b]) .nil cap]) Z S Q:=by
 obtain⟨w,S0,e1,h1⟩:=aR oa he;obtain⟨w2,S1,e2,rfl,rfl,k1⟩:=aR ob h1;exact mJ (mi:=.its (iH xs ys)) L (λx=>W.tup [f x,g x]) (λZ=>∃a b,Z=gV::a::b::R) (λx=>gV::ba (f x)::ba (g x)::R) (λ_ _ _ h=>let ⟨_,_,e⟩:=h; e ▸ #[rfl,_,_,rfl]) oe #[_,_,hc] hl (by simp only[gb,cr,bK,eG,xx,e1,e2,zu]) k1 (λi S' _=>by rw[<- hx]; rfl) (by rw[<- hx]; rfl) hstep k
end
abbrev jl (y:Jj Jr):Jj (Jj Jr)->Jj Jr
 | []=>[]
 | [p]=>p
 | p::q::r=>p++(y++jl y (q::r))
def oh {x y:JA}(h:x.cps.toList=y.cps.toList):x=y:=by
 obtain⟨⟨x⟩⟩:=x;obtain⟨⟨y⟩⟩:=y;cases h; rfl
def cF (y:JA):∀P:Jj JA,(y.join P).cps.toList=jl y.cps.toList (P.map λp=>p.cps.toList)
 | []=>rfl
 | [p]=>rfl
 | p::q::r=>by
  rw[PJ y p (q::r) (by intro z; cases z)]
  show((p.cps++y.cps)++(y.join (q::r)).cps).toList=p.cps.toList++(y.cps.toList++jl y.cps.toList ((q::r).map λp=>p.cps.toList))
  rw[<- cF y (q::r)];simp
def ol {x y:JA}{k:Jr}:NY x y x.length k↔k+y.cps.toList.length<=x.cps.toList.length/\(x.cps.toList.drop k).take y.cps.toList.length=y.cps.toList:=by
 unfold NY;rw[QS];have e1:y.length=y.cps.toList.length:=by simp[Mp]
 have e2:x.length=x.cps.toList.length:=by simp[Mp]
 rw[e1,e2,Rn]
def qt {x y:JA}{pre post:Jj Jr}{c:Jr}(hy:y.cps.toList=pre++c::post)(hp:c∉pre):∀(P:Jj JA) (a:Jr) (cuts:Jj Jr) (f:Jr),P≠[]->(∀p∈P,c∉p.cps.toList)->a<=x.cps.toList.length->x.cps.toList.drop a=jl y.cps.toList (P.map λp=>p.cps.toList)->
  StrLaws.ChainG x y x.length a cuts f->(∀k,f<=k->¬ NY x y x.length k)->StrLaws.partsFrom x y.length a cuts=P
 | [],_,_,_,h,_,_,_,_,_=>absurd rfl h
 | [p],a,cuts,f,_,hc,ha,hx,ch,hf=>by
  have e2:x.length=x.cps.toList.length:=by simp[Mp]
  replace hx:x.cps.toList.drop a=p.cps.toList:=hx;have no:∀k,a<=k->¬ NY x y x.length k:=λk hk z=>by
   obtain⟨z1,z2⟩:=ol.mp z;have hm:c∈(x.cps.toList.drop k).take y.cps.toList.length:=by rw[z2,hy]; simp
   have hm2:=Nu hm;have e:x.cps.toList.drop k=(x.cps.toList.drop a).drop (k - a):=by rw[NZ]; congr 1; omega
   rw[e,hx]at hm2;exact hc p (by simp) (Pg hm2)
  cases cuts with
  | cons b r=>rw[StrLaws.ChainG.eq_2]at ch; exact absurd ch.2.1 (no b ch.1)
  | nil=>
   rw[StrLaws.partsFrom.eq_1];congr 1;show oh ?_;rw[O0,hx,Ls];rw[<- hx,LB]; omega
 | p::q::r,a,cuts,f,_,hc,ha,hx,ch,hf=>by
  have e1:y.length=y.cps.toList.length:=by simp[Mp]
  have e2:x.length=x.cps.toList.length:=by simp[Mp]
  replace hx:x.cps.toList.drop a=p.cps.toList++(y.cps.toList++jl y.cps.toList ((q::r).map λp=>p.cps.toList)):=hx
  have hlen:x.cps.toList.length - a=p.cps.toList.length+(y.cps.toList.length+(jl y.cps.toList ((q::r).map λp=>p.cps.toList)).length):=by rw[<- LB,hx,Jw,Jw]
  have db:x.cps.toList.drop (a+p.cps.toList.length)=y.cps.toList++jl y.cps.toList ((q::r).map λp=>p.cps.toList):=by
   rw[<- NZ,hx,MY]; rfl
  have yes:NY x y x.length (a+p.cps.toList.length):=ol.mpr #[∅,by rw[db,NA]; rfl]
  have no:∀k,a<=k->k < a+p.cps.toList.length->¬ NY x y x.length k:=λk hk hk2 z=>by
   obtain⟨z1,z2⟩:=ol.mp z;have e:x.cps.toList.drop k=(x.cps.toList.drop a).drop (k - a):=by rw[NZ]; congr 1; omega
   have g:((x.cps.toList.drop k).take y.cps.toList.length)[pre.length]?=ba c:=by rw[z2,hy]; simp
   rw[MS (by rw[hy,Jw,JL]; omega),e,hx,List.drop_append_of_le_length ∅]at g
   by_cases h:pre.length < (p.cps.toList.drop (k - a)).length
   ·rw[Kh h]at g;exact hc p (by simp) (Pg (JD g))
   ·rw[Lp ∅]at g
    have hd:(p.cps.toList.drop (k - a)).length=p.cps.toList.length - (k - a):=LB;rw[hy,KS,Kh ∅]at g
    exact hp (JD g)
  cases cuts with
  | nil=>
   rw[StrLaws.ChainG.eq_1]at ch;subst ch;exact absurd yes (hf _ ∅)
  | cons b cs=>
   rw[StrLaws.ChainG.eq_2]at ch;obtain⟨h1,h2,h3,h4⟩:=ch;have hb:b=a+p.cps.toList.length:=by
    rcases Nat.lt_trichotomy b (a+p.cps.toList.length)with h|h|h
    ·exact absurd h2 (no b h1 h)
    ·exact h
    ·exact absurd yes (h3 _ ∅ h)
   subst hb;rw[StrLaws.partsFrom.eq_2];have ih:=qt hy hp (q::r) (a+p.cps.toList.length+y.length) cs f (by simp) (λz hz=>hc z (Kd _ hz)) ∅ (by rw[e1,<- NZ,db,MY]; rfl) h4 hf
   rw[ih];congr 1;show oh ?_;rw[O0,hx,Nat.add_sub_cancel_left,NA]; rfl
def cp {y:JA}{pre post:Jj Jr}{c:Jr}(hy:y.cps.toList=pre++c::post)(hp:c∉pre)(hk:(y.cps.all λx=>decide (x < 256))=true){P:Jj JA}(hP:P≠[])(hc:∀p∈P,c∉p.cps.toList):K5 (y.join P) y=P:=by
 have e1:y.length=y.cps.toList.length:=by simp[Mp]
 obtain⟨f,ch,hf⟩:=StrLaws.occ_tight (y.join P) y (by rw[e1,hy,Jw,JL]; omega)
 have key:=qt hy hp P 0 _ f hP hc (KW _) (by rw[NT,cF]) ch hf
 unfold K5;split
 ·rename_i h
  match P,hP with
  | [p],_=>rfl
  | p::q::r,_=>
   exfalso;have k1:LP y=1:=by unfold LP; rw[JO hk]
   have k2:1<=LP (y.join (p::q::r)):=by unfold LP; split <;> (try split) <;> decide
   have l:y.length<=(y.join (p::q::r)).length:=by
    have e2:(y.join (p::q::r)).length=(y.join (p::q::r)).cps.toList.length:=by simp[Mp]
    rw[e1,e2,cF];simp only[JS,jl,Jw];omega
   simp only[Lw,JW]at h;omega
 ·split
  ·rename_i h;rw[No]at h;rw[h,StrLaws.partsFrom.eq_1,StrLaws.sub_whole]at key;exact key
  ·rw[StrLaws.partsBetween_eq]; exact key
abbrev fM (ms ns:Jj JA)(p:Pt):Jj JA:=ms.getD p.1.toNat "" :: p.2.map λw=>ns.getD w.toNat ""
abbrev jJ (ms ns:Jj JA)(p:Pt):JA:=(" " : JA).join (fM ms ns p)
abbrev mK (ms ns:Jj JA)(u:Wd):JA:=(" ; " : JA).join (u.map (jJ ms ns))
structure PtOk (a n:Jr)(p:Pt):Prop where
 mark:0<=p.1/\p.1 < a
 way:∀w∈p.2,0<=w/\w < (n:JG)
def GoodW.pt {a n:Jr}{u:Wd}(h:GoodW a n u){p:Pt}(hp:p∈u):PtOk a n p:=by
 obtain⟨k,hk,e⟩:=LH.mp hp;have e':u[k]?=ba p:=by rw[JB hk,e]
 exact#[h.mark k p e',h.way k p e']
section
variable{ms ns:Jj JA}{a n:Jr}{p:Pt}
def yS (hm:ms.length=a)(hn:ns.length=n)(hg:GoodN ms ns)(hp:PtOk a n p):∀z∈fM ms ns p,Name z:=by
 intro z hz;rcases JC.mp hz with e|hz
 ·subst e;have hl:p.1.toNat < ms.length:=by have:=hp.mark; omega
  exact hg.name _ (Ky _ (JD (au (d:=("" : JA)) hl)))
 ·obtain⟨w,hw,rfl⟩:=JI.mp hz;have hl:w.toNat < ns.length:=by have:=hp.way w hw; omega
  exact hg.name _ (JY _ (JD (au (d:=("" : JA)) hl)))
def hW {y:Jj Jr}{c:Jr}:∀ {P:Jj (Jj Jr)},c∈jl y P->c∈y\/∃p∈P,c∈p
 | [],h=>nomatch h
 | [p],h=>.inr #[p,by simp,h]
 | p::q::r,h=>by
  rcases Kj.mp (show c∈p++(y++jl y (q::r))from h)with h|h
  ·exact .inr #[p,by simp,h]
  ·rcases Kj.mp h with h|h
   ·exact .inl h
   ·rcases hW (P:=q::r) h with h|⟨z,hz,h⟩
    ·exact .inl h
    ·exact .inr #[z,Kd _ hz,h]
def hX {k:Jr}:∀ {P:Jj JA},(∀z∈P,z.length<=k)->(P.map (·.length)).sum<=P.length*k
 | [],_=>by simp
 | p::P,h=>by
  have h1:=h p (by simp)
  have h2:=hX (P:=P) λz hz=>h z (Kd _ hz)
  rw[JS,RO,JL,Qk]; omega
def tD (hz:∀z∈fM ms ns p,Name z):(jJ ms ns p).length<=(p.2.length+1)*9:=by
 have h1:=Nd " " (fM ms ns p);have h2:=hX (P:=fM ms ns p) (k:=8) λz h=>by rw[cf]; exact(hz z h).2.1
 have h3:(fM ms ns p).length=p.2.length+1:=by unfold fM; rw[JL,Jl]
 have h4:(" " : JA).length=1:=by decide
 unfold jJ;rw[h3]at h1 h2;rw[h4]at h1;omega
def vk (hz:∀z∈fM ms ns p,Name z):K5 (jJ ms ns p) " " = fM ms ns p:=
 cp (pre:=[]) (c:=32) (post:=[]) #v[] (by simp) (by decide +kernel) (by unfold fM; simp) λz h c=>by
  have:=(hz z h).2.2 32 c;omega
def yT (hz:∀z∈fM ms ns p,Name z):59∉(jJ ms ns p).cps.toList:=λh=>by
 unfold jJ at h;rw[cF]at h;rcases hW h with h|⟨q,hq,h⟩
 ·exact absurd h #v[]
 ·obtain⟨z,h1,rfl⟩:=JI.mp hq;have:=(hz z h1).2.2 59 h;omega
def Cu {y p:Jj Jr}{P:Jj (Jj Jr)}(h:p≠[]):jl y (p::P)≠[]:=by
 cases P with
 | nil=>exact h
 | cons q r=>exact λz=>h (List.append_eq_nil_iff.mp z).1
def Ew (hz:∀z∈fM ms ns p,Name z):(jJ ms ns p).cps.toList≠[]:=by
 unfold jJ;rw[cF];show Cu λh=>?_
 have h:(ms.getD p.1.toNat ("" : JA)).cps.toList=[]:=h;have:=(hz _ (Kr ..)).1;rw[h]at this; simp at this
def vm {u:Wd}(h0:u≠[])(hz:∀p∈u,∀z∈fM ms ns p,Name z):K5 (mK ms ns u) " ; " = u.map (jJ ms ns):=
 cp (pre:=[32]) (c:=59) (post:=[32]) #v[] #v[] (by decide +kernel) (by simpa using h0) λz h=>by
  obtain⟨p,hp,rfl⟩:=JI.mp h;exact yT (hz p hp)
def Ex {u:Wd}(h0:u≠[])(hz:∀p∈u,∀z∈fM ms ns p,Name z):(mK ms ns u==("" : JA))=false:=by
 rw[LO];intro h;cases u with
 | nil=>exact h0 rfl
 | cons p u=>
  have h1:(mK ms ns (p::u)).cps.toList≠[]:=by
   unfold mK;rw[cF];exact Cu (Ew (hz p (by simp)))
  rw[h]at h1;exact h1 #v[]
def fA {u:Wd}{k:Jr}(hz:∀p∈u,(jJ ms ns p).length<=k):(mK ms ns u).length<=u.length*(k+3):=by
 have h1:=Nd " ; " (u.map (jJ ms ns))
 have h2:=hX (P:=u.map (jJ ms ns)) (k:=k) λz h=>by
  obtain⟨p,hp,rfl⟩:=JI.mp h;exact hz p hp
 have h4:(" ; " : JA).length=3:=by decide
 unfold mK;rw[Jl]at h1 h2;rw[h4]at h1;rw[QZ]; omega
end
def hZ:∀zs:Jj JA,fR (zs.map W.str)=ba zs
 | []=>rfl
 | z::zs=>by rw[JS,fR,hZ zs]; rfl
def fB {S:aa}{l:Jr}{x:JA}{zs:Jj JA}{Q:QW}(h:S[l]?=ba (.lst (zs.map W.str)))(hl:(zs.map (·.length)).sum+zs.length*x.length<=16777216)(q:Q (.str (x.join zs),S)):wO (Me.join.fn (.str x) [.ref l] S) Q:=by
 show ab (a:=(.str (x.join zs),S)) ?_ q;dsimp only[Me.fn,lN,cq];simp only[ap h,hZ];rw[JO hl];unfold Qo;rw[Ng]
def rK:∀ {zs:Jj JA} {k:Jr} {z:JA},zs.Nodup->zs[k]?=ba z->(zs.map W.str).findIdx? (λw=>qB w (.str z))=ba k
 | [],_,_,_,h=>by simp at h
 | x::zs,0,z,hn,h=>by
  cases h;rw[JS,NS];have:qB (W.str x) (W.str x)=true:=J5 x;rw[this]; rfl
 | x::zs,k+1,z,hn,h=>by
  rw[LM]at hn;rw[JS,NS];have h:zs[k]?=ba z:=by simpa using h
  have:qB (W.str x) (W.str z)=false:=by
   show(x==z)=false;rw[LO];intro e;exact hn.1 (e ▸ JD h)
  rw[this,rK hn.2 h]; rfl
def Ey {S:aa}{zs:Jj JA}{k:Jr}{z:JA}{Q:QW}(hn:zs.Nodup)(hl:zs.length<=1000)(h:zs[k]?=ba z)(q:Q (.int (k:Jr),S)):wO (eH (.tup (zs.map W.str)) (.str z) S) Q:=by
 show ab (a:=(.int (k:Jr),S)) ?_ q;dsimp only[eH,cq];rw[JO (by rw[iP,J6 (by rw[Jl]; omega)]; rfl),rK hn h]; rfl
def Ez {S:aa}{l:Jr}{zs:Jj JA}{k:Jr}{z:JA}{Q:QW}(e:S[l]?=ba (.lst (zs.map W.str)))(hn:zs.Nodup)(hl:zs.length<=1000)(h:zs[k]?=ba z)(q:Q (.int (k:Jr),S)):wO (eH (.ref l) (.str z) S) Q:=by
 show ab (a:=(.int (k:Jr),S)) ?_ q;dsimp only[eH,cq];simp only[ap e];rw[JO (by rw[iP,J6 (by rw[Jl]; omega)]; rfl),rK hn h]; rfl
def fD {S:aa}{x y:JA}{zs:Jj JA}{Q:QW}(hy:(y.length==0)=false)(hl:x.length<=1000000)(e:K5 x y=zs)(q:Q (.ref S.length,S++[.lst (zs.map W.str)])):wO (Me.split.fn (.str x) [.str y] S) Q:=by
 show ab (a:=(.ref S.length,S++[.lst (zs.map W.str)])) ?_ q;dsimp only[Me.fn,nJ];rw[JO #[hy,by rw[Kq]; omega],e]
inductive WY where|one (y:JA)|two (y z:JA)
abbrev WY.s:WY->JA
 | .one y=>y
 | .two y z=>("/" : JA).join [y,z]
abbrev WY.n:WY->Jr
 | .one _=>1
 | .two _ _=>2
abbrev WY.ok:WY->Prop
 | .one y=>Name y
 | .two y z=>Name y/\Name z
abbrev WY.ways (k:Jr):WY->Jj W
 | .one y=>[ar y k]
 | .two y z=>[ar y (k+1),ar z k]
abbrev di (k:Jr):Jj WY->Jj W
 | []=>[]
 | x::xs=>x.ways k++di (k+x.n) xs
abbrev lC (ns:Jj JA)(bs:Jj JG):Jj WY:=
 if bs=[0]then[.one (ns.getD 0 "")]
 else if bs=[0,1]then[.one (ns.getD 0 ""),.one (ns.getD 1 "")]
 else if bs=[1,0]then[.two (ns.getD 0 "") (ns.getD 1 "")]
 else if bs=[0,1,2]then[.one (ns.getD 0 ""),.one (ns.getD 1 ""),.one (ns.getD 2 "")]
 else if bs=[1,0,2]then[.two (ns.getD 0 "") (ns.getD 1 ""),.one (ns.getD 2 "")]
 else[.one (ns.getD 0 ""),.two (ns.getD 1 "") (ns.getD 2 "")]
def BC {ns:Jj JA}{bs:Jj JG}(hb:GoodB bs)(hn:ns.length=bs.length):di 0 (lC ns bs)=Jx ar ns bs:=by
 rcases hb with rfl|rfl|rfl|rfl|rfl|rfl
 ·match ns,hn with
  | [a],_=>rfl
 ·match ns,hn with
  | [a,b],_=>rfl
 ·match ns,hn with
  | [a,b],_=>rfl
 ·match ns,hn with
  | [a,b,c],_=>rfl
 ·match ns,hn with
  | [a,b,c],_=>rfl
 ·match ns,hn with
  | [a,b,c],_=>rfl
def Cv {ns:Jj JA}{bs:Jj JG}(hb:GoodB bs)(hn:ns.length=bs.length)(hz:∀y∈ns,Name y):(∀x∈lC ns bs,x.ok)/\(lC ns bs).length<=3:=by
 rcases hb with rfl|rfl|rfl|rfl|rfl|rfl
 ·match ns,hn with
  | [a],_=>exact#[λx hx=>by cases JH.mp hx; exact hz a (by simp),by change 1<=3; decide]
 ·match ns,hn with
  | [a,b],_=>exact#[λx hx=>by
    rcases JC.mp hx with rfl|hx
    ·exact hz a (by simp)
    ·cases JH.mp hx; exact hz b (by simp),by change 2<=3; decide]
 ·match ns,hn with
  | [a,b],_=>exact#[λx hx=>by cases JH.mp hx; exact#[hz a (by simp),hz b (by simp)],by change 1<=3; decide]
 ·match ns,hn with
  | [a,b,c],_=>exact#[λx hx=>by
    rcases JC.mp hx with rfl|hx
    ·exact hz a (by simp)
    ·rcases JC.mp hx with rfl|hx
     ·exact hz b (by simp)
     ·cases JH.mp hx; exact hz c (by simp),by change 3<=3; decide]
 ·match ns,hn with
  | [a,b,c],_=>exact#[λx hx=>by
    rcases JC.mp hx with rfl|hx
    ·exact#[hz a (by simp),hz b (by simp)]
    ·cases JH.mp hx; exact hz c (by simp),by change 2<=3; decide]
 ·match ns,hn with
  | [a,b,c],_=>exact#[λx hx=>by
    rcases JC.mp hx with rfl|hx
    ·exact hz a (by simp)
    ·cases JH.mp hx; exact#[hz b (by simp),hz c (by simp)],by change 2<=3; decide]
def tF {x:WY}(h:x.ok):∀c∈x.s.cps.toList,(97<=c/\c<=122)\/c=47:=λc hc=>by
 cases x with
 | one y=>exact .inl (h.2.2 c hc)
 | two y z=>
  have hc:c∈(("/" : JA).join [y,z]).cps.toList:=hc;rw[cF]at hc;rcases hW hc with hc|⟨p,hp,hc⟩
  ·right;have:c∈[47]:=hc;exact JH.mp this
  ·simp only[JS,Ox,JC,J7,Ld]at hp;rcases hp with rfl|rfl
   ·exact .inl (h.1.2.2 c hc)
   ·exact .inl (h.2.2.2 c hc)
def yU {x:WY}(h:x.ok):K5 x.s "/" = (match x with|.one y=>[y]|.two y z=>[y,z]):=by
 cases x with
 | one y=>
  show cp (y:="/") (P:=[y]) (pre:=[]) (c:=47) (post:=[]) #v[] (by simp) (by decide +kernel) (by simp) λz hz c=>?_
  rw[JH.mp hz]at c;have:=h.2.2 47 c;omega
 | two y z=>
  show cp (y:="/") (P:=[y,z]) (pre:=[]) (c:=47) (post:=[]) #v[] (by simp) (by decide +kernel) (by simp) λw hw c=>?_
  ·rcases JC.mp hw with rfl|hw
   ·have:=h.1.2.2 47 c;omega
   ·rw[JH.mp hw]at c;have:=h.2.2.2 47 c;omega
abbrev aH (ms:Jj JA):JA:=(" " : JA).join (("marks" : JA)::ms)
abbrev bm (ns:Jj JA)(bs:Jj JG):JA:=(" " : JA).join (("ways" : JA)::(lC ns bs).map WY.s)
abbrev bH (ms ns:Jj JA)(u:Wd):JA:=("bar " : JA)++mK ms ns u
abbrev gU (ms ns:Jj JA)(bs:Jj JG)(us:Jj Wd):JA:=("\n" : JA).join (aH ms::bm ns bs::us.map (bH ms ns))
def qu {ms:Jj JA}(h:∀y∈ms,Name y):K5 (aH ms) " " = ("marks" : JA)::ms:=
 cp (pre:=[]) (c:=32) (post:=[]) #v[] (by simp) (by decide +kernel) (by simp) λz hz c=>by
  rcases JC.mp hz with rfl|hz
  ·exact absurd c #v[]
  ·have:=(h z hz).2.2 32 c;omega
def vn {ms ns:Jj JA}{u:Wd}(hz:∀p∈u,∀z∈fM ms ns p,Name z):10∉(mK ms ns u).cps.toList:=λh=>by
 unfold mK at h;rw[cF]at h;rcases hW h with h|⟨q,hq,h⟩
 ·exact absurd h #v[]
 ·obtain⟨z,h1,rfl⟩:=JI.mp hq;obtain⟨p,hp,rfl⟩:=JI.mp h1;unfold jJ at h;rw[cF]at h;rcases hW h with h|⟨q,hq,h⟩
  ·exact absurd h #v[]
  ·obtain⟨z,h1,rfl⟩:=JI.mp hq;have:=(hz p hp z h1).2.2 10 h;omega
def lh {ms ns:Jj JA}{bs:Jj JG}{us:Jj Wd}(hm:∀y∈ms,Name y)(hw:∀x∈lC ns bs,x.ok)(hz:∀u∈us,∀p∈u,∀z∈fM ms ns p,Name z):K5 (gU ms ns bs us) "\n" = aH ms::bm ns bs::us.map (bH ms ns):=
 cp (pre:=[]) (c:=10) (post:=[]) #v[] (by simp) (by decide +kernel) (by simp) λz h c=>by
  rcases JC.mp h with rfl|h
  ·unfold aH at c;rw[cF]at c;rcases hW c with c|⟨q,hq,c⟩
   ·exact absurd c #v[]
   ·obtain⟨z,h1,rfl⟩:=JI.mp hq;rcases JC.mp h1 with rfl|h1
    ·exact absurd c #v[]
    ·have:=(hm z h1).2.2 10 c;omega
  ·rcases JC.mp h with rfl|h
   ·unfold bm at c;rw[cF]at c;rcases hW c with c|⟨q,hq,c⟩
    ·exact absurd c #v[]
    ·obtain⟨z,h1,rfl⟩:=JI.mp hq;rcases JC.mp h1 with rfl|h1
     ·exact absurd c #v[]
     ·obtain⟨x,hx,rfl⟩:=JI.mp h1;have:=tF (hw x hx) 10 c;omega
   ·obtain⟨u,hu,rfl⟩:=JI.mp h;have c:10∈(("bar " : JA).cps++(mK ms ns u).cps).toList:=c;rw[NF]at c;rcases Kj.mp c with c|c
    ·exact absurd c #v[]
    ·exact vn (hz u hu) c
def BE {x:JA}:M9 (("bar " : JA)++x) (ba 4) gV=x/\NR (("bar " : JA)++x) "bar " = true:=by
 have e:(("bar " : JA)++x).cps.toList=[98,97,114,32]++x.cps.toList:=by
  show(("bar " : JA).cps++x.cps).toList=_;rw[NF]; rfl
 constructor
 ·rw[StrLaws.sliceText_from (by rw[e,Jw]; show(0:JG)<=4/\(4:JG)<=((4+x.cps.toList.length:Jr):JG); omega)]
  show oh ?_;rw[List.toList_toArray,e];have h1:([98,97,114,32]++x.cps.toList).drop (Int.toNat 4)=x.cps.toList:=MY rfl;rw[h1,Ls];rw[Jw]; show x.cps.toList.length<=(((4+x.cps.toList.length:Jr):JG) - 4).toNat; omega
 ·unfold NR;rw[QS,NT,e,Js,JW,Rn];have l:(("bar " : JA)++x).length=(("bar " : JA)++x).cps.toList.length:=by simp[Mp]
  show#[?_,NA rfl];rw[l,e,Jw];change 0+4<=4+x.cps.toList.length; omega
abbrev dD:Ss:=
 #v[.ret (.me .join (.c (.str " ")) #v[.op .add (.lst #v[.ix (.ix (.v 0) (.c (.int 0))) (.ix (.v 1) (.c (.int 0)))]) (.comp (.ix (.ix (.ix (.v 2) (.c (.int 1))) (.v 1)) (.c (.int 0))) (.nm 1) (.seq (.ix (.v 1) (.c (.int 1)))) .nil [gV,gV,ba 0])])]
abbrev dE:Ss:=
 #v[.ret (.me .join (.c (.str " ; ")) #v[.comp (.own "point_text" 2 #v[.v 2,.v 1]) (.nm 1) (.seq (.v 1)) .nil [gV,gV,ba 0]])]
abbrev dF:Ss:=
 #v[.set 4 (.me .split (.v 1) #v[.c (.str " ")]),.set 5 (.comp (.ix (.v 1) (.c (.int 0))) (.nm 1) (.seq (.ix (.v 0) (.c (.int 1)))) .nil [gV,gV]),.set 6 (.and (.cmp .isin (.ix (.v 4) (.c (.int 0))) (.ix (.v 0) (.c (.int 0)))) (.bi .all #v[.comp (.cmp .isin (.v 1) (.v 2)) (.nm 1) (.seq (.sl (.v 4) (.yes (.c (.int 1))) .no)) .nil [gV,gV,ba 5]])),.ite (.or (.not (.v 6)) (.cmp .ne (.bi .len #v[.v 4]) (.op .add (.v 2) (.c (.int 1))))) #v[.bad] .nil,.ret (.tup #v[.idx (.ix (.v 0) (.c (.int 0))) (.ix (.v 4) (.c (.int 0))),.bi .tuple #v[.comp (.idx (.v 2) (.v 1)) (.nm 1) (.seq (.sl (.v 4) (.yes (.c (.int 1))) .no)) .nil [gV,gV,ba 5]]])]
abbrev c7:Ss:=
 #v[.ite (.cmp .eq (.v 1) (.c (.str ""))) #v[.ret (.tup .nil)] .nil,.ret (.bi .tuple #v[.comp (.own "read_point" 4 #v[.v 4,.v 2,.v 1,.v 3]) (.tp [1,2]) (.enu #v[.me .split (.v 1) #v[.c (.str " ; ")]]) .nil [gV,gV,gV,ba 2,ba 0]])]
abbrev bS:Ss:=
 #v[.set 2 (.lst .nil),.loop (.tp [3,4]) (.seq (.v 1)) #v[.ex (.me .append (.v 2) #v[.me .join (.c (.str " ")) #v[.op .add (.lst #v[.ix (.ix (.v 0) (.c (.int 0))) (.v 3)]) (.comp (.ix (.ix (.ix (.v 2) (.c (.int 1))) (.v 1)) (.c (.int 0))) (.nm 1) (.seq (.v 4)) .nil [gV,gV,ba 0])]])],.ret (.me .join (.c (.str " ; ")) #v[.v 2])]
structure Txs (defs:Jj (JA×Df)):Prop where
 ptext:Is defs ("point_text" : JA) 2 2 dD
 showw:Is defs ("show_world" : JA) 2 2 dE
 rpoint:Is defs ("read_point" : JA) 4 7 dF
 rpoints:Is defs ("read_points" : JA) 3 3 c7
 wtext:Is defs ("_law_world_text" : JA) 2 5 bS
def rL {ns:Jj JA}{bs:Jj JG}{k:Jr}(hn:ns.length=bs.length)(h:k < ns.length):∃b,(Jx ar ns bs)[k]?=ba (ar (ns.getD k "") b):=by
 show#[bs[k]'∅,?_]
 rw[Lz,au (d:=("" : JA)) h,JB ∅]
section
variable{M:JA->FF}{Z:Fm}{S:aa}
def EA {α:Type}{elt e:E}{cap:Jj (Jq Jr)}{Q:QW}(L:Jj α)(f:α->W)(h:α->W)(R:Fm)(oi:bV e=true)(oe:bV elt=true)(hc:cL cap Z=gV::gV::gV::R)(hl:L.length<=1000000)
  (he:wE M e Z S λq=>∃t,q.1=.ref t/\q.2[t]?=ba (.lst (L.map f))/\Ka S q.2)
  (hstep:∀(i:Jr) (x:α),L[i]?=ba x->∀S',Ka S S'->wE M elt (gV::ba (.int (i:Jr))::ba (f x)::R) S' λy=>true=true/\y.1=h x/\Ka S' y.2)
  (k:∀S',Ka S S'->Q (.ref S'.length,S'++[.lst (L.map h)])):Wp (ay M (.comp elt (.tp [1,2]) (.enu #v[e]) .nil cap) Z S) Q:=by
 obtain⟨w,S1,e1,t,rfl,ht,k1⟩:=aR oi he;dsimp only at ht k1;have hz:∀i,(L.zipIdx.map λp=>W.tup [.int (p.2:Jr),f p.1])[i]?=((L.map f)[i]?).map λx=>W.tup [.int (i:Jr),x]:=λi=>by
  rw[Jv,MF,Jv];cases L[i]? with
  | none=>rfl
  | some x=>simp
 show n6 (mi:=.el t) L.zipIdx (λp=>W.tup [.int (p.2:Jr),f p.1]) (λ_=>true) (λp=>h p.1) (λZ=>∃a b,Z=gV::a::b::R) (λp=>gV::ba (.int (p.2:Jr))::ba (f p.1)::R) (λ_ _ _ h=>let ⟨_,_,e⟩:=h; e ▸ #[rfl,_,_,rfl]) oe rfl #[_,_,hc] (by rw[M1]; exact hl) (by simp only[gb,cr,bK,eG,rm,e1,zu,ap ht]) k1 (λi S' h=>by simp only[MI.at,ap (h.get _ _ ht),hz]) (by simp only[MI.len,ap ht,Kc,Jl,M1]) (λp hp S' k'=>?_) λS' k'=>?_
 ·dsimp only[gM,wC];exact#[λ_=>hstep p.2 p.1 (NB.mp hp) S' k',λz=>by cases z]
 ·have:(L.zipIdx.filter λ_=>true).map (λp=>h p.1)=L.map h:=by
   rw[bZ];apply Oa;intro i;rw[Jv,MF,Jv];cases L[i]? with
   | none=>rfl
   | some x=>rfl
  rw[this];exact k S' k'
def tH {m0 b0:W}{ns:Jj JA}{bs:Jj JG}{n:Jr}{to:Jj JG}{e:E}{cap:Jj (Jq Jr)}{Q:QW}(hn:ns.length=bs.length)(hw:∀w∈to,0<=w/\w < (ns.length:JG))(hl:to.length<=1000)(oi:bV e=true)(hc:cL cap Z=[gV,gV,ba (.tup [m0,.tup (Jx ar ns bs),b0])])(he:wE M e Z S λq=>q.1=.tup (to.map W.int)/\Ka S q.2)
  (k:∀S',Ka S S'->Q (.ref S'.length,S'++[.lst ((to.map λw=>ns.getD w.toNat "").map W.str)])):Wp (ay M (.comp (.ix (.ix (.ix (.v 2) (.c (.int 1))) (.v 1)) (.c (.int 0))) (.nm 1) (.seq e) .nil cap) Z S) Q:=by
 show jv to W.int (λ_=>true) (λw=>W.str (ns.getD w.toNat "")) [ba (.tup [m0,.tup (Jx ar ns bs),b0])] oi rfl rfl hc ∅ he (λw hw2 S' _=>?_) λS' k'=>?_
 ·obtain⟨w0,w1⟩:=hw w hw2;obtain⟨b,hb⟩:=rL (k:=w.toNat) hn ∅
  dsimp only[gM,wC,wE,wV,wG];exact#[λ_=>ag #v[] rfl (ag w0 hb (ag #v[] rfl #[rfl,rfl,.refl])),λz=>by cases z]
 ·rw[bZ,show(to.map λw=>W.str (ns.getD w.toNat ""))=(to.map λw=>ns.getD w.toNat "").map W.str by rw[KL]; rfl]
  exact k S' k'
end
section
variable{defs:Jj (JA×Df)}{fuel d:Jr}{S:aa}{Q:QW}
def BF {ms ns:Jj JA}{p:Pt}(hz:∀z∈fM ms ns p,Name z)(hl:p.2.length<=1000):((fM ms ns p).map (·.length)).sum+(fM ms ns p).length*(" " : JA).length<=16777216:=by
 have h2:=hX (P:=fM ms ns p) (k:=8) λz h=>by rw[cf]; exact(hz z h).2.1
 have h3:(fM ms ns p).length=p.2.length+1:=by unfold fM; rw[JL,Jl]
 have h4:(" " : JA).length=1:=by decide
 rw[h3]at h2 ⊢;rw[h4]; omega
def tJ {M:JA->FF}{Z:Fm}{a b:E}{ms ns:Jj JA}{p:Pt}{Q:QW}(hz:∀z∈fM ms ns p,Name z)(hl:p.2.length<=1000)
  (ha:∀Q:QW,(∀S',Ka S S'->Q (.str (ms.getD p.1.toNat ""),S'))->wE M a Z S Q) (hb:∀(S1:aa) (Q:QW),Ka S S1->(∀S',Ka S1 S'->Q (.ref S'.length,S'++[.lst ((p.2.map λw=>ns.getD w.toNat "").map W.str)]))->wE M b Z S1 Q)
  (k:∀S',Ka S S'->Q (.str (jJ ms ns p),S')):wE M (.me .join (.c (.str " ")) #v[.op .add (.lst #v[a]) b]) Z S Q:=by
 show#[rfl,?_];change wE M a Z S λp1=>wE M b Z (p1.2++[.lst [p1.1]]) λq=>wO (fN .add (.ref p1.2.length) q.1 q.2) λr=>wO (Me.join.fn (.str " ") [r.1] r.2) Q
 show ha _ λS1 k1=>?_
 show hb _ _ (k1.trans .push) λS2 k2=>?_
 dsimp only;have e1:S2[S1.length]?=ba (.lst [.str (ms.getD p.1.toNat "")]):=k2.get _ _ ac;show ab (gh (aj e1) ac (fw (by rw[Jw,Jl,Jl]; show 1+_<=_; omega))) ?_
 show fB (zs:=fM ms ns p) ac (BF hz hl) (k _ (((k1.trans .push).trans k2).trans (Ka.push.trans .push)))
def BG (L:Txs defs){b0:W}{ms ns:Jj JA}{bs:Jj JG}{a:Jr}{p:Pt}(hm:ms.length=a)(hn:ns.length=bs.length)(hp:PtOk a bs.length p)(hz:∀z∈fM ms ns p,Name z)(hl:p.2.length<=1000)(k:∀S',Ka S S'->Q (.str (jJ ms ns p),S')) :
  wO (aE (al defs fuel (d+1)) "point_text" 2 [.tup [.tup (ms.map W.str),.tup (Jx ar ns bs),b0],bU p] S) Q:=by
 show am L.ptext rfl rfl λQ' hR=>?_
 change wZ _ _ dD [ba (.tup [.tup (ms.map W.str),.tup (Jx ar ns bs),b0]),ba (bU p)] S Q';dsimp only[dD];show st ?_;dsimp only[wS];have hm1:=hp.mark;show tJ hz hl (λQ q=>?_) (λS1 Q k1 q=>?_) λS' k'=>hR _ _ (k S' k')
 ·dsimp only[wE,wV,wG,bU];exact ag #v[] rfl (ag #v[] rfl (ag hm1.1 (by rw[Jv,au (d:=("" : JA)) ∅]; rfl) (q _ .refl)))
 ·exact tH (n:=bs.length) hn (λw hw=>by rw[hn]; exact hp.way w hw) hl rfl rfl (by dsimp only[wE,wV,wG,bU]; exact ag #v[] rfl #[rfl,.refl]) q
structure RW (a:Jr)(bs:Jj JG)(ms ns:Jj JA)(u:Wd):Prop where
 ml:ms.length=a
 nl:ns.length=bs.length
 nm:GoodN ms ns
 gu:GoodW a bs.length u
 few:u.length<=24
def RW.name {a:Jr}{bs:Jj JG}{ms ns:Jj JA}{u:Wd}(h:RW a bs ms ns u){p:Pt}(hp:p∈u):∀z∈fM ms ns p,Name z:=yS h.ml h.nl h.nm (h.gu.pt hp)
def RW.ln {a:Jr}{bs:Jj JG}{ms ns:Jj JA}{u:Wd}(h:RW a bs ms ns u){p:Pt}(hp:p∈u):p.2.length < 24:=by
 obtain⟨k,hk,e⟩:=LH.mp hp;have:=h.gu.len k p (by rw[JB hk,e])
 have:=h.few;omega
def RW.sl {a:Jr}{bs:Jj JG}{ms ns:Jj JA}{u:Wd}(h:RW a bs ms ns u){p:Pt}(hp:p∈u):(jJ ms ns p).length<=216:=by
 have h1:=tD (h.name hp);have h2:=h.ln hp;omega
def RW.sum {a:Jr}{bs:Jj JG}{ms ns:Jj JA}{u:Wd}(h:RW a bs ms ns u):((u.map (jJ ms ns)).map (·.length)).sum+(u.map (jJ ms ns)).length*(" ; " : JA).length<=16777216:=by
 have h2:=hX (P:=u.map (jJ ms ns)) (k:=216) λz hz=>by
  obtain⟨p,hp,rfl⟩:=JI.mp hz;exact h.sl hp
 have h4:(" ; " : JA).length=3:=by decide
 have:=h.few;rw[Jl]at h2 ⊢;rw[h4]; omega
def EB (L:Txs defs){b0:W}{ms ns:Jj JA}{bs:Jj JG}{a:Jr}{u:Wd}(h:RW a bs ms ns u)(k:∀S',Ka S S'->Q (.str (mK ms ns u),S')) :
  wO (aE (al defs fuel (d+2)) "show_world" 2 [.tup [.tup (ms.map W.str),.tup (Jx ar ns bs),b0],aK u] S) Q:=by
 show am L.showw rfl rfl λQ' hR=>?_
 change wZ _ _ dE [ba (.tup [.tup (ms.map W.str),.tup (Jx ar ns bs),b0]),ba (aK u)] S Q';dsimp only[dE];have few:=h.few;show st ?_;dsimp only[wS];show#[rfl,?_];show jv u bU (λ_=>true) (λp=>W.str (jJ ms ns p)) [ba (.tup [.tup (ms.map W.str),.tup (Jx ar ns bs),b0])] rfl rfl rfl rfl ∅ #[rfl,.refl] (λp hp S' _=>?_) λS' k'=>?_
 ·dsimp only[gM,wC,wE,wA,wV,wG];exact#[λ_=>BG (d:=d) L h.ml h.nl (h.gu.pt hp) (h.name hp) (by have:=h.ln hp; omega) λS2 k2=>#[rfl,rfl,k2],λz=>by cases z]
 ·rw[bZ,show(u.map λp=>W.str (jJ ms ns p))=(u.map (jJ ms ns)).map W.str by rw[KL]; rfl]
  exact fB ac h.sum (hR _ _ (k _ (k'.trans .push)))
def tK (L:Txs defs){b0:W}{ms ns:Jj JA}{bs:Jj JG}{a:Jr}{u:Wd}(h:RW a bs ms ns u)(k:∀S',Ka S S'->Q (.str (mK ms ns u),S')) :
  wO (aE (al defs fuel (d+1)) "_law_world_text" 2 [.tup [.tup (ms.map W.str),.tup (Jx ar ns bs),b0],aK u] S) Q:=by
 show am L.wtext rfl rfl λQ' hR=>?_
 change wZ _ _ bS [ba (.tup [.tup (ms.map W.str),.tup (Jx ar ns bs),b0]),ba (aK u),gV,gV,gV] S Q';dsimp only[bS];have few:=h.few;generalize hRR:W.tup [.tup (ms.map W.str),.tup (Jx ar ns bs),b0]=RR;show st ?_;dsimp only[wS,wE,wA,JE];nofun
 show for_tup (u.map bU) (λi Z S'=>(∃x3 x4,Z=[ba RR,ba (aK u),ba (.ref S.length),x3,x4])/\S'[S.length]?=ba (.lst (((u.take i).map (jJ ms ns)).map W.str))/\Ka S S') rfl rfl #[rfl,#[_,_,rfl],ac,.push] ?_ ?_
 ·rintro i w Z S1 hw ⟨⟨x3,x4,rfl⟩,e1,k1⟩;rw[Jv,Jo]at hw;obtain⟨p,hpi,rfl⟩:=hw;have hp:=JD hpi;have hm1:=(h.gu.pt hp).mark;have hml:=h.ml;show ab (show gA (.tp [3,4]) (bU p) [ba RR,ba (aK u),ba (.ref S.length),x3,x4] S1=ba ([ba RR,ba (aK u),ba (.ref S.length),ba (.int p.1),ba (.tup (p.2.map W.int))],S1)from rfl) λQ2 hn2 _=>?_
  clear hK;show st ?_;dsimp only[wS];show#[bv e1,?_];show tJ (h.name hp) (by have:=h.ln hp; omega) (λQ q=>?_) (λS2 Q k2 q=>?_) λS2 k2=>?_
  ·dsimp only[wE,wV,wG];subst hRR;exact ag #v[] rfl (ag hm1.1 (by rw[Jv,au (d:=("" : JA)) ∅]; rfl) (q _ .refl))
  ·subst hRR;exact tH (n:=bs.length) h.nl (λw hw=>by rw[h.nl]; exact(h.gu.pt hp).way w hw) (by have:=h.ln hp; omega) rfl rfl #[rfl,.refl] q
  ·have e2:=k2.get _ _ e1;show eR e2 (by rw[Jl,Jl,Ks]; omega) (a9 (hn2 _ _ #[#[_,_,rfl],?_,(k1.trans k2).late (Jy _)]))
   rw[aX e2,KH,hpi,J0,J0]; rfl
 ·rintro Z S1 ⟨⟨x3,x4,rfl⟩,e1,k1⟩;rw[Jl,KR]at e1;show hK _ _ (st ?_);left;exact#[rfl,fB e1 h.sum (hR _ _ (k _ k1))]
def om {S:aa}{l:Jr}{xs:Jj W}(h:S[l]?=ba (.lst xs))(hl:xs.length<=1000):lM (.ref l) (ba 1) gV S=ba (.ref S.length,S++[.lst (xs.drop 1)]):=by
 have:gY xs (ba ((1:Jr):JG)) gV=xs.drop 1:=kW;simp only[lM,ap h,j7];rw[show(ba (1:JG))=ba ((1:Jr):JG)from rfl,this]
def yV (L:Txs defs){b0:W}{ms ns:Jj JA}{bs:Jj JG}{a:Jr}{p:Pt}{i:Jr}{row:W}(hm:ms.length=a)(ha3:a<=3)(hb3:bs.length<=3)(hn:ns.length=bs.length)(hg:GoodN ms ns)(hp:PtOk a bs.length p)(hz:∀z∈fM ms ns p,Name z)(hpi:p.2.length=i)(hl:i < 24)(k:∀S',Ka S S'->Q (bU p,S')) :
  wO (aE (al defs fuel (d+1)) "read_point" 4 [.tup [.tup (ms.map W.str),.tup (Jx ar ns bs),b0],.str (jJ ms ns p),.int i,row] S) Q:=by
 have nd:=KT.mp (KT.mp hg.nd).2.1;have hm1:=hp.mark;have hlen:=tD hz;have x0:ms[p.1.toNat]?=ba (ms.getD p.1.toNat ""):=au (d:=("" : JA)) ∅
 have xw:∀w∈p.2,ns[w.toNat]?=ba (ns.getD w.toNat ""):=λw hw=>au (d:=("" : JA)) (by have:=hp.way w hw; omega)
 have hzz:Jx ar ns bs=(ns.zip bs).map λp=>ar p.1 p.2:=by rw[Qx,MK]
 have hz1:(ns.zip bs).map (λp=>W.str p.1)=ns.map W.str:=by
  rw[show(λp:JA×JG=>W.str p.1)=W.str∘Tb from rfl,<- KL,QT ∅]
 show am L.rpoint rfl rfl λQ' hR=>?_
 change wZ _ _ dF [ba (.tup [.tup (ms.map W.str),.tup (Jx ar ns bs),b0]),ba (.str (jJ ms ns p)),ba (.int i),ba row,gV,gV,gV] S Q';dsimp only[dF];nofun
 left;show#[rfl,fD #v[] ∅ (vk hz) (hK _ _ ?_)]
 clear hK K;have e1:(S++[O.lst ((fM ms ns p).map W.str)])[S.length]?=ba (.lst ((fM ms ns p).map W.str)):=ac;have k1:Ka S (S++[O.lst ((fM ms ns p).map W.str)]):=.push;generalize S++[O.lst ((fM ms ns p).map W.str)]=S1 at e1 k1 ⊢;generalize S.length=t at e1 ⊢;nofun
 dsimp only[wS,JE];show jv (ns.zip bs) (λp=>ar p.1 p.2) (λ_=>true) (λp=>W.str p.1) [] rfl rfl rfl rfl (by rw[NC]; omega) (by dsimp only[wE,wV,wG]; exact ag #v[] rfl #[congrArg W.tup hzz,.refl]) (λp _ S' _=>?_) λS2 k2=>hK _ _ ?_
 ·dsimp only[gM,wC,wE,wA,wV,wG,ar];exact#[λ_=>ag #v[] rfl #[rfl,rfl,.refl],λz=>by cases z]
 rw[bZ,hz1];dsimp only;clear hK K;have e2:(S2++[O.lst (ns.map W.str)])[S2.length]?=ba (.lst (ns.map W.str)):=ac;have e1':(S2++[O.lst (ns.map W.str)])[t]?=ba (.lst ((fM ms ns p).map W.str)):=aj (k2.get _ _ e1);have k3:Ka S (S2++[O.lst (ns.map W.str)]):=k1.trans (k2.trans .push);generalize S2++[O.lst (ns.map W.str)]=S3 at e2 e1' k3 ⊢;generalize S2.length=l at e2 ⊢;clear e1 k1 k2;have pl:(fM ms ns p).length=i+1:=by unfold fM; rw[JL,Jl,hpi]
 have hd:((fM ms ns p).map W.str).drop 1=p.2.map λw=>W.str (ns.getD w.toNat ""):=by unfold fM; rw[JS,PK,Ph,KL]; rfl
 have s1:∀S',Ka S3 S'->lM (.ref t) (ba 1) gV S'=ba (.ref S'.length,S'++[.lst (p.2.map λw=>W.str (ns.getD w.toNat ""))]):=λS' k'=>by
  rw[om (k'.get _ _ e1') (by rw[Jl,pl]; omega),hd]
 nofun
 dsimp only[wS,JE];change wE _ _ _ S3 λp=>wB p.1 λk=>(k=true->wE _ _ _ p.2 _)/\(k=false->_)
 dsimp only[wE,wV,wG];show d3 e1' #v[] rfl (ag #v[] rfl (ab qr ?_))
 rw[J6 (JD x0)];show#[λ_=>?_,λz=>by cases z]
 show Cs p.2 (λw=>W.str (ns.getD w.toNat "")) [ba (.ref l)] rfl rfl rfl ∅ (by dsimp only[wE,wP,wV,wG,wN]; exact ab (s1 S3 .refl) #[_,rfl,ac,.push]) (λw hw S' k'=>?_) λS4 k4=>hK _ _ ?_
 ·dsimp only[wE,wV,wG];show ab (mq (k'.get _ _ e2)) #[rfl,?_,.refl];rw[J6 (JD (xw w hw))]
 clear hK K;nofun
 dsimp only[wS,wT,wE,wA,wV,wG];show ab (show cQ S4 (.bl true)=ba true from rfl) #[λz=>(by cases z),λ_=>?_]
 show gm (k4.get _ _ e1') ?_;dsimp only[cu,aC];show ab D7 ?_;rw[Jl,pl,show((i+1:Jr):JG)=(i:JG)+1 from rfl,J5]
 dsimp only[wB];show ah (Q0:=Q') (λz=>by cases z) (λ_ Q2 hn2 _=>a9 (hn2 _ _ (hK _ _ ?_)))
 clear hn2 hK K;show st ?_;left;show ag #v[] rfl #[rfl,d3 (k4.get _ _ e1') #v[] rfl (Ey nd.1 ∅ x0 ?_)]
 show yO p.2 (λw=>W.str (ns.getD w.toNat "")) (λ_=>true) (λw=>W.int w) [ba (.ref l)] rfl rfl rfl rfl ∅ (by dsimp only[wE,wP,wV,wG,wN]; exact ab (s1 S4 k4) #[_,rfl,ac,.push]) (λw hw S' k'=>?_) λS5 k5=>?_
 ·dsimp only[gM,wC,wE,wV,wG];have el:=k'.get _ _ (k4.get _ _ e2);show#[λ_=>#[by simp[tyOk,ap el],Ez el nd.2.1 ∅ (xw w hw) #[rfl,?_,.refl]],λz=>by cases z]
  have:=(hp.way w hw).1;change W.int ((w.toNat:Jr):JG)=W.int w;rw[MP this]
 rw[bZ];show dt ac ?_;dsimp only;rw[MP hm1.1];exact hR _ _ (k _ (k3.trans (k4.trans (k5.trans .push))))
end
abbrev fE:Ss:=
 #v[.ret (.and (.isi "int" (.v 0)) (.not (.isi "bool" (.v 0))))]
abbrev c8:Ss:=
 #v[.ret (.and (.isi "tuple" (.v 0)) (.cmp .eq (.bi .len #v[.v 0]) (.v 1)))]
abbrev dG:Ss:=
 #v[.ret (.and (.own "is_tuple_of" 2 #v[.v 0,.v 1]) (.bi .all #v[.comp (.own "is_whole" 1 #v[.v 1]) (.nm 1) (.seq (.v 0)) .nil [gV,gV]]))]
abbrev fF:Ss:=
 #v[.ite (.not (.own "has_point_form" 2 #v[.v 1,.v 2])) #v[.ret (.c (.bl false))] .nil,.set 3 (.chn .le .lt (.c (.int 0)) (.ix (.v 1) (.c (.int 0))) (.bi .len #v[.ix (.v 0) (.c (.int 0))])),.ret (.and (.v 3) (.bi .all #v[.comp (.chn .le .lt (.c (.int 0)) (.v 1) (.bi .len #v[.ix (.v 2) (.c (.int 1))])) (.nm 1) (.seq (.ix (.v 1) (.c (.int 1)))) .nil [gV,gV,ba 0]]))]
abbrev bT:Ss:=
 #v[.ret (.and (.own "is_tuple_of" 2 #v[.v 0,.c (.int 2)]) (.and (.own "is_whole" 1 #v[.ix (.v 0) (.c (.int 0))]) (.own "is_numbers" 2 #v[.ix (.v 0) (.c (.int 1)),.v 1])))]
abbrev on:Ss:=
 #v[.ret (.ix (.ix (.ix (.v 0) (.c (.int 1))) (.v 1)) (.c (.int 1)))]
abbrev fG:Ss:=
 #v[.ite (.or (.not (.own "is_tuple_of" 2 #v[.v 0,.c (.int 3)])) (.not (.bi .all #v[.comp (.isi "tuple" (.v 1)) (.nm 1) (.seq (.v 0)) .nil [gV,gV]]))) #v[.ret (.c (.bl false))] .nil,.set 1 (.bi .all #v[.comp (.isi "str" (.v 1)) (.nm 1) (.seq (.ix (.v 0) (.c (.int 0)))) .nil [gV,gV]]),.ret (.and (.v 1) (.and (.bi .all #v[.comp (.own "is_way" 1 #v[.v 1]) (.nm 1) (.seq (.ix (.v 0) (.c (.int 1)))) .nil [gV,gV]]) (.bi .all #v[.comp (.own "is_three" 1 #v[.v 1]) (.nm 1) (.seq (.ix (.v 0) (.c (.int 2)))) .nil [gV,gV]])))]
abbrev i3:Ss:=
 #v[.ret (.and (.own "is_tuple_of" 2 #v[.v 0,.c (.int 2)]) (.and (.isi "str" (.ix (.v 0) (.c (.int 0)))) (.own "is_whole" 1 #v[.ix (.v 0) (.c (.int 1))])))]
abbrev fH:Ss:=
 #v[.ret (.and (.own "is_tuple_of" 2 #v[.v 0,.c (.int 3)]) (.bi .all #v[.comp (.own "has_point_form" 2 #v[.v 2,.v 1]) (.tp [1,2]) (.enu #v[.v 0]) .nil [gV,gV,gV]]))]
abbrev cG:Ss:=
 #v[.set 1 (.bi .len #v[.ix (.v 0) (.c (.int 0))]),.set 2 (.bi .len #v[.ix (.v 0) (.c (.int 1))]),.ret (.and (.chn .le .le (.c (.int 1)) (.v 1) (.c (.int 3))) (.and (.chn .le .le (.c (.int 1)) (.v 2) (.c (.int 3))) (.cmp .le (.op .mul (.v 1) (.v 2)) (.c (.int 6)))))]
abbrev bE:Ss:=
 #v[.set 1 (.op .add (.bi .list #v[.ix (.v 0) (.c (.int 0))]) (.comp (.ix (.v 1) (.c (.int 0))) (.nm 1) (.seq (.ix (.v 0) (.c (.int 1)))) .nil [gV,gV])),.ret (.and (.bi .all #v[.comp (.own "is_name" 1 #v[.v 1]) (.nm 1) (.seq (.v 1)) .nil [gV,gV]]) (.cmp .eq (.bi .len #v[.bi .set #v[.v 1]]) (.bi .len #v[.v 1])))]
abbrev gI:Ss:=
 #v[.ite (.or (.cmp .isin (.v 0) (.c (.tup (eM.map W.str)))) (.not (.chn .le .le (.c (.int 1)) (.bi .len #v[.v 0]) (.c (.int 8))))) #v[.ret (.c (.bl false))] .nil,.ret (.bi .all #v[.comp (.cmp .isin (.v 1) (.c (.str "abcdefghijklmnopqrstuvwxyz"))) (.nm 1) (.seq (.v 0)) .nil [gV,gV]])]
abbrev bF:Ss:=
 #v[.ret (.bi .all #v[.comp (.own "is_right_back" 2 #v[.v 2,.v 1]) (.nm 1) (.rng #v[.bi .len #v[.ix (.v 0) (.c (.int 1))]]) .nil [gV,gV,ba 0]])]
abbrev cg:Ss:=
 #v[.set 2 (.own "back" 2 #v[.v 0,.v 1]),.ite (.not (.chn .le .lt (.c (.int 0)) (.v 2) (.bi .len #v[.ix (.v 0) (.c (.int 1))]))) #v[.ret (.c (.bl false))] .nil,.ret (.and (.cmp .le (.bi .abs #v[.op .sub (.v 2) (.v 1)]) (.c (.int 1))) (.cmp .eq (.own "back" 2 #v[.v 0,.v 2]) (.v 1)))]
abbrev bx:Ss:=
 #v[.set 1 (.ix (.v 0) (.c (.int 2))),.set 2 (.bi .all #v[.comp (.cmp .lt (.v 1) (.v 2)) (.tp [1,2]) (.zip #v[.v 1,.sl (.v 1) (.yes (.c (.int 1))) .no]) .nil [gV,gV,gV]]),.ret (.and (.v 2) (.bi .all #v[.comp (.own "is_figure" 2 #v[.v 2,.v 1]) (.nm 1) (.seq (.v 1)) .nil [gV,gV,ba 0]]))]
abbrev en:Ss:=
 #v[.ite (.not (.bi .all #v[.comp (.own "is_point" 3 #v[.v 3,.v 2,.v 1]) (.tp [1,2]) (.enu #v[.v 1]) .nil [gV,gV,gV,ba 0]])) #v[.ret (.c (.bl false))] .nil,.ret (.cmp .eq (.own "least_form" 2 #v[.v 0,.v 1]) (.v 1))]
abbrev eu:Ss:=
 #v[.ite (.not (.own "has_form" 1 #v[.v 0])) #v[.bad] .nil,.ite (.not (.own "keeps_bounds" 1 #v[.v 0])) #v[.bad] .nil,.ite (.not (.own "has_right_names" 1 #v[.v 0])) #v[.bad] .nil,.ite (.not (.own "has_right_backs" 1 #v[.v 0])) #v[.bad] .nil,.ite (.not (.own "has_right_barred" 1 #v[.v 0])) #v[.bad] .nil,.ret (.c (.bl true))]
structure Look (defs:Jj (JA×Df)):Prop where
 whole:Is defs ("is_whole" : JA) 1 1 fE
 tupof:Is defs ("is_tuple_of" : JA) 2 2 c8
 nums:Is defs ("is_numbers" : JA) 2 2 dG
 point:Is defs ("is_point" : JA) 3 4 fF
 pform:Is defs ("has_point_form" : JA) 2 2 bT
 back:Is defs ("back" : JA) 2 2 on
 form:Is defs ("has_form" : JA) 1 2 fG
 way:Is defs ("is_way" : JA) 1 1 i3
 three:Is defs ("is_three" : JA) 1 1 fH
 bounds:Is defs ("keeps_bounds" : JA) 1 3 cG
 names:Is defs ("has_right_names" : JA) 1 2 bE
 name:Is defs ("is_name" : JA) 1 1 gI
 backs:Is defs ("has_right_backs" : JA) 1 1 bF
 isback:Is defs ("is_right_back" : JA) 2 3 cg
 barred:Is defs ("has_right_barred" : JA) 1 3 bx
 fig:Is defs ("is_figure" : JA) 2 2 en
 look:Is defs ("look_rule" : JA) 1 1 eu
section
variable{defs:Jj (JA×Df)}{fuel d:Jr}{S:aa}{Q:QW}
def oo (L:Look defs){x:JG}(k:Q (.bl true,S)):wO (aE (al defs fuel (d+1)) "is_whole" 1 [.int x] S) Q:=by
 show am L.whole rfl rfl λQ' hR=>?_
 change wZ _ _ fE [ba (.int x)] S Q';dsimp only[fE];show st ?_;dsimp only[wS,wE,wV,wG];show ab (show oA S (.int x) "int" = ba true from rfl) #[λ_=>?_,λz=>by cases z]
 exact ab (show oA S (.int x) "bool" = ba false from rfl) (hR _ _ k)
def i4 (L:Look defs){xs:Jj W}{n:Jr}(h:xs.length=n)(k:Q (.bl true,S)):wO (aE (al defs fuel (d+1)) "is_tuple_of" 2 [.tup xs,.int n] S) Q:=by
 show am L.tupof rfl rfl λQ' hR=>?_
 change wZ _ _ c8 [ba (.tup xs),ba (.int n)] S Q';dsimp only[c8];show st ?_;left;show ab (show oA S (.tup xs) "tuple" = ba true from rfl) #[λ_=>?_,λz=>by cases z]
 show bp (ab dX ?_);rw[h,J5];exact hR _ _ k
def EC (L:Look defs){ws:Jj JG}{n:Jr}(h:ws.length=n)(hl:n<=1000)(k:∀S',Ka S S'->Q (.bl true,S')):wO (aE (al defs fuel (d+2)) "is_numbers" 2 [.tup (ws.map W.int),.int n] S) Q:=by
 show am L.nums rfl rfl λQ' hR=>?_
 change wZ _ _ dG [ba (.tup (ws.map W.int)),ba (.int n)] S Q';dsimp only[dG];show st ?_;left;show i4 (d:=d) L (by rw[Jl]; exact h) #[λ_=>?_,λz=>by cases z]
 show lg ws W.int [] rfl rfl rfl ∅ #[rfl,.refl] (λx _ S' _=>?_) λS' k'=>hR _ _ (k S' k')
 dsimp only[wE,wA,wV,wG];exact oo (d:=d) L #[rfl,rfl,.refl]
def tL (L:Look defs){p:Pt}{n:Jr}(h:p.2.length=n)(hl:n<=1000)(k:∀S',Ka S S'->Q (.bl true,S')):wO (aE (al defs fuel (d+3)) "has_point_form" 2 [bU p,.int n] S) Q:=by
 show am L.pform rfl rfl λQ' hR=>?_
 change wZ _ _ bT [ba (bU p),ba (.int n)] S Q';dsimp only[bT,bU];show st ?_;left;show i4 (d:=d+1) (n:=2) L rfl #[λ_=>?_,λz=>by cases z]
 show ag #v[] rfl (oo (d:=d+1) L #[λ_=>?_,λz=>by cases z])
 exact ag #v[] rfl (EC (d:=d) L h hl λS' k'=>hR _ _ (k S' k'))
def BH (L:Look defs){b0:W}{xs ys:Jj W}{a n j:Jr}{p:Pt}(ha:xs.length=a)(hn:ys.length=n)(h:p.2.length=j)(hl:j<=1000)(hm:0<=p.1/\p.1 < a)(hw:∀w∈p.2,0<=w/\w < (n:JG))(k:∀S',Ka S S'->Q (.bl true,S')) :
  wO (aE (al defs fuel (d+4)) "is_point" 3 [.tup [.tup xs,.tup ys,b0],bU p,.int j] S) Q:=by
 show am L.point rfl rfl λQ' hR=>?_
 change wZ _ _ fF [ba (.tup [.tup xs,.tup ys,b0]),ba (bU p),ba (.int j),gV] S Q';dsimp only[fF];nofun
 dsimp only[wS,wT,wE,wA,wV,wG];show tL (d:=d) L h hl λS1 k1=>?_
 show ab (show cQ S1 (.bl true)=ba true from rfl) ?_
 show ah (Q0:=Q') (λz=>by cases z) (λ_ Q2 hn2 _=>a9 (hn2 _ _ (hK _ _ ?_)))
 clear hn2 hK K;nofun
 dsimp only[wS,wE,wA,wV,wG,JE,bU];show ag #v[] rfl ?_
 dsimp only;show ab (show oP .le (.int 0) (.int p.1) S1=ba (decide ((0:JG)<=p.1))from rfl) #[λ_=>?_,λz=>absurd hm.1 (Kv z)]
 show ag #v[] rfl (bp ?_)
 show ab (show cw .lt (.int p.1) (.int (xs.length:Jr)) S1=ba (.bl (decide (p.1 < (xs.length:JG))),S1)from rfl) (hK _ _ ?_)
 rw[ha,J6 hm.2];clear hK K;show st ?_;dsimp only[wS,wE,wV,wG];show#[λ_=>?_,λz=>by cases z]
 show lg p.2 W.int [ba (.tup [.tup xs,.tup ys,b0])] rfl rfl rfl ∅ (by dsimp only[wE,wV,wG]; exact ag #v[] rfl #[rfl,.refl]) (λx hx S' _=>?_) λS' k'=>hR _ _ (k S' (k1.trans k'))
 obtain⟨h0,h1⟩:=hw x hx;dsimp only[wE,wA,wV,wG];show ab (show oP .le (.int 0) (.int x) S'=ba (decide ((0:JG)<=x))from rfl) #[λ_=>?_,λz=>absurd h0 (Kv z)]
 show ag #v[] rfl (bp ?_)
 show ab (show cw .lt (.int x) (.int (ys.length:Jr)) S'=ba (.bl (decide (x < (ys.length:JG))),S')from rfl) #[rfl,?_,.refl]
 rw[hn,J6 h1]
def BI (L:Look defs){y:JA}{b:JG}(k:Q (.bl true,S)):wO (aE (al defs fuel (d+2)) "is_way" 1 [ar y b] S) Q:=by
 show am L.way rfl rfl λQ' hR=>?_
 change wZ _ _ i3 [ba (ar y b)] S Q';dsimp only[i3,ar];show st ?_;left;show i4 (d:=d) (n:=2) L rfl #[λ_=>?_,λz=>by cases z]
 show ag #v[] rfl (ab (show oA S (.str y) "str" = ba true from rfl) #[λ_=>?_,λz=>by cases z])
 exact ag #v[] rfl (oo (d:=d) L (hR _ _ k))
def BJ (L:Look defs){u:Wd}(h3:u.length=3)(hu:∀(k:Jr) (p:Pt),u[k]?=ba p->p.2.length=k)(k:∀S',Ka S S'->Q (.bl true,S')):wO (aE (al defs fuel (d+4)) "is_three" 1 [aK u] S) Q:=by
 show am L.three rfl rfl λQ' hR=>?_
 change wZ _ _ fH [ba (aK u)] S Q';dsimp only[fH,aK];show st ?_;left;show i4 (d:=d+2) (n:=3) L (by rw[Jl]; exact h3) #[λ_=>?_,λz=>by cases z]
 show Ct u bU [] rfl rfl rfl ∅ #[rfl,.refl] (λi p hp S' _=>?_) λS' k'=>hR _ _ (k S' k')
 dsimp only[wE,wA,wV,wG];have:=(JK.mp hp).1;exact tL (d:=d) L (hu i p hp) ∅ λS2 k2=>#[rfl,rfl,k2]
def ED (L:Look defs){ms ns:Jj JA}{bs:Jj JG}{us:Jj Wd}(hm:ms.length<=1000)(hn:ns.length=bs.length)(hb:bs.length<=1000)(hus:us.length<=1000)(hu:∀u∈us,u.length=3/\∀(k:Jr) (p:Pt),u[k]?=ba p->p.2.length=k)(k:∀S',Ka S S'->Q (.bl true,S')) :
  wO (aE (al defs fuel (d+5)) "has_form" 1 [aS ms ns bs us] S) Q:=by
 show am L.form rfl rfl λQ' hR=>?_
 change wZ _ _ fG [ba (aS ms ns bs us),gV] S Q';dsimp only[fG];nofun
 dsimp only[wS,wT,wA];dsimp only[wE,wV,wG,aS];show i4 (d:=d+3) (n:=3) L rfl ?_;show ab (show cQ S (.bl true)=ba true from rfl) #[λz=>(by cases z),λ_=>?_]
 show lg [W.tup (ms.map W.str),.tup (Jx ar ns bs),.tup (us.map aK)] id [] rfl rfl rfl (by change 3<=1000000; decide) #[rfl,.refl] (λx hx S' _=>?_) λS1 k1=>?_
 ·dsimp only[wE,wV,wG];have:∃xs,x=W.tup xs:=by
   simp only[JC,J7,Ld]at hx;rcases hx with rfl|rfl|rfl <;> exact#[_,rfl]
  obtain⟨xs,rfl⟩:=this;exact ab (show oA S' (.tup xs) "tuple" = ba true from rfl) #[rfl,rfl,.refl]
 show ab (show cQ S1 (.bl true)=ba true from rfl) ?_
 show ah (Q0:=Q') (λz=>by cases z) (λ_ Q2 hn2 _=>a9 (hn2 _ _ (hK _ _ ?_)))
 clear hn2 hK K;nofun
 dsimp only[wS,JE];show lg ms W.str [] rfl rfl rfl ∅ (by dsimp only[wE,wV,wG]; exact ag #v[] rfl #[rfl,.refl]) (λx _ S' _=>?_) λS2 k2=>hK _ _ ?_
 ·dsimp only[wE,wV,wG];exact ab (show oA S' (.str x) "str" = ba true from rfl) #[rfl,rfl,.refl]
 clear hK K;show st ?_;dsimp only[wS];have hz:Jx ar ns bs=(ns.zip bs).map λp=>ar p.1 p.2:=by rw[Qx,MK]
 change wB (.bl true) λk=>(k=true->wE _ _ _ S2 _)/\(k=false->_)
 show#[λ_=>?_,λz=>by cases z]
 change wE _ _ _ S2 λp=>wB p.1 λk=>(k=true->wE _ _ _ p.2 _)/\(k=false->_)
 show lg (ns.zip bs) (λp=>ar p.1 p.2) [] rfl rfl rfl (by rw[NC]; omega) (by dsimp only[wE,wV,wG]; exact ag #v[] rfl #[congrArg W.tup hz,.refl]) (λx _ S' _=>?_) λS3 k3=>#[λ_=>?_,λz=>by cases z]
 ·dsimp only[wE,wA,wV,wG];exact BI (d:=d+2) L #[rfl,rfl,.refl]
 show lg us aK [] rfl rfl rfl ∅ (by dsimp only[wE,wV,wG]; exact ag #v[] rfl #[rfl,.refl]) (λx hx S' _=>?_) λS4 k4=>hR _ _ (k _ (k1.trans (k2.trans (k3.trans k4))))
 dsimp only[wE,wA,wV,wG];obtain⟨h3,hp⟩:=hu x hx;exact BJ (d:=d) L h3 hp λS2 k2=>#[rfl,rfl,k2]
end
def EE:∀k:Fin 26,(LI "abcdefghijklmnopqrstuvwxyz" #[[97+k.val].toArray] 0 ("abcdefghijklmnopqrstuvwxyz" : JA).length 1).isEmpty=false:=by decide +kernel
def BK {S:aa}{c:Jr}(h:97<=c/\c<=122):bO .isin (.str #[[c].toArray]) (.str "abcdefghijklmnopqrstuvwxyz") S=ba (.bl true,S):=by
 have e:=EE #[c - 97,∅]
 have e2:97+(c - 97)=c:=∅
 simp only[e2]at e;change ba (W.bl (!_),S)=_;rw[e]; rfl
def yW:∀(ss acc:Jj JA),(acc++ss).Nodup->ss.foldl nq acc=acc++ss
 | [],acc,_=>by rw[Kx]; rfl
 | x::ss,acc,h=>by
  have e:nq acc x=acc++[x]:=by
   unfold nq;rw[JZ];intro z;rw[KT]at h;exact h.2.2 x z x Kr rfl
  rw[OL,e,yW ss _ (by rw[KS]; exact h),KS]; rfl
def EF {S:aa}{i:Jr}{ss:Jj JA}{Q:QW}(h:S[i]?=ba (.lst (ss.map W.str)))(hn:ss.Nodup)(hl:ss.length<=100)(q:Q (.ref S.length,S++[.sts ss])):wO (Bi.set.fn [.ref i] S) Q:=by
 show ab (a:=(.ref S.length,S++[.sts ss])) ?_ q;dsimp only[Bi.fn,nr];simp only[ap h,lO];rw[JO (by unfold scanBound; omega)]
 have:iw ss=ss:=by unfold iw; rw[yW ss [] (by rw[Q6]; exact hn)]; rfl
 rw[this]
def EG {S:aa}{i:Jr}{ss:Jj JA}{Q:QW}(h:S[i]?=ba (.sts ss))(q:Q (.int ss.length,S)):wO (Bi.len.fn [.ref i] S) Q:=by
 show ab (a:=(.int ss.length,S)) ?_ q;have h1:jb S i=gV:=by simp[jb,h]
 have h2:eW S i=gV:=by simp[eW,h]
 have h3:FM S i=ba ss:=by simp[FM,h]
 dsimp only[Bi.fn,vw,pc,ni,AX];simp only[h1,h2,h3,Q7]
def yX {S:aa}{y:JA}{Q:QW}(h:y.length<=1000)(q:Q (.int y.length,S)):wO (Bi.len.fn [.str y] S) Q:=by
 show ab (a:=(.int y.length,S)) ?_ q;dsimp only[Bi.fn,vw,pc,ni];rw[JO (J8 h (by rw[Kq]; decide))]
section
variable{M:JA->FF}{Z:Fm}{S:aa}{Q:QW}
def Cw {a b:E}(ha:∀Q:QW,Q (.bl true,S)->wE M a Z S Q)(hb:wE M b Z S Q):wE M (.and a b) Z S Q:=by
 change wE M a Z S λp=>wB p.1 λk=>(k=true->wE M b Z p.2 Q)/\(k=false->Q (.bl false,p.2))
 exact ha _ #[λ_=>hb,λz=>by cases z]
def G2 {i:Jr}{m:JG}(h1:1<=m)(h2:m<=3)(hv:∀Q:QW,Q (.int m,S)->wE M (.v i) Z S Q)(q:Q (.bl true,S)):wE M (.chn .le .le (.c (.int 1)) (.v i) (.c (.int 3))) Z S Q:=by
 change wE M (.v i) Z S λq=>wO (oP .le (.int 1) q.1 q.2) λk=>(k=true->wO (cw .le q.1 (.int 3) q.2) Q)/\(k=false->Q (.bl false,q.2))
 show hv _ ?_;dsimp only;show ab (show oP .le (.int 1) (.int m) S=ba (decide (1<=m))from rfl) #[λ_=>?_,λz=>absurd h1 (Kv z)]
 show ab (show cw .le (.int m) (.int 3) S=ba (.bl (decide (m<=3)),S)from rfl) ?_
 rw[J6 h2];exact q
def G3 {r:Jq W}{x y:JG}(h1 : -(2 ^ 64) < y)(h2:y < 2 ^ 64)(h:x*y<=6)(q:Q (.bl true,S)):wE M (.cmp .le (.op .mul (.v 1) (.v 2)) (.c (.int 6))) [r,ba (.int x),ba (.int y)] S Q:=by
 change wE M (.op .mul (.v 1) (.v 2)) [r,ba (.int x),ba (.int y)] S λp=>wO (bO .le p.1 (.int 6) p.2) Q
 show GU (x:=x) (y:=y) (λQ q=>q) (λQ q=>q) h1 h2 ?_
 dsimp only;generalize x*y=z at h;show ab (show bO .le (.int z) (.int 6) S=ba (.bl (decide (z<=6)),S)from rfl) ?_
 rw[J6 h];exact q
end
section
variable{defs:Jj (JA×Df)}{fuel d:Jr}{S:aa}{Q:QW}
def yY (L:Look defs){y:JA}(hy:Name y)(ht:y∉eM)(k:∀S',Ka S S'->Q (.bl true,S')):wO (aE (al defs fuel (d+1)) "is_name" 1 [.str y] S) Q:=by
 show am L.name rfl rfl λQ' hR=>?_
 obtain⟨l1,l8,sm⟩:=hy;have hl:=cf y;change wZ _ _ gI [ba (.str y)] S Q';dsimp only[gI];nofun
 dsimp only[wS,wT,wE,wA,wV,wG];show ab qr ?_;rw[J4 ht];dsimp only[wB];show#[λz=>(by cases z),λ_=>?_]
 show yX ∅ ?_
 show ab (show oP .le (.int 1) (.int (y.length:Jr)) S=ba (decide ((1:JG)<=(y.length:Jr)))from rfl) #[λ_=>?_,λz=>absurd (show(1:JG)<=(y.length:Jr) by omega) (Kv z)]
 show ab (show cw .le (.int (y.length:Jr)) (.int 8) S=ba (.bl (decide (((y.length:Jr):JG)<=8)),S)from rfl) ?_
 rw[J6 (show((y.length:Jr):JG)<=8 by omega)]
 dsimp only[wB];show ah (Q0:=Q') (λz=>by cases z) (λ_ Q2 hn2 _=>a9 (hn2 _ _ (hK _ _ ?_)))
 clear hn2 hK K;show st ?_;dsimp only[wS];show GZ y [] rfl rfl rfl ∅ ?_ #[rfl,.refl] (λc hc S' _=>?_) λS' k'=>hR _ _ (k S' k')
 ·rw[Array.all_eq_true'];intro c hc;have:=sm c (by simpa using hc)
  exact J6 ∅
 ·dsimp only[wE,wV,wG];exact ab (BK (sm c hc)) #[rfl,rfl,.refl]
def ic (L:Look defs){ms ns:Jj JA}{bs:Jj JG}{b0:W}(hn:ns.length=bs.length)(hl:(ms++ns).length<=100)(hg:GoodN ms ns)(k:∀S',Ka S S'->Q (.bl true,S')) :
  wO (aE (al defs fuel (d+2)) "has_right_names" 1 [.tup [.tup (ms.map W.str),.tup (Jx ar ns bs),b0]] S) Q:=by
 show am L.names rfl rfl λQ' hR=>?_
 change wZ _ _ bE [ba (.tup [.tup (ms.map W.str),.tup (Jx ar ns bs),b0]),gV] S Q';dsimp only[bE];have hz:Jx ar ns bs=(ns.zip bs).map λp=>ar p.1 p.2:=by rw[Qx,MK]
 have hz1:(ns.zip bs).map (λp=>W.str p.1)=ns.map W.str:=by
  rw[show(λp:JA×JG=>W.str p.1)=W.str∘Tb from rfl,<- KL,QT ∅]
 rw[Jw]at hl;nofun
 left;show ag #v[] rfl ?_
 show ab (show Bi.list.fn [.tup (ms.map W.str)] S=ba (.ref S.length,S++[.lst (ms.map W.str)])from rfl) ?_
 show jv (ns.zip bs) (λp=>ar p.1 p.2) (λ_=>true) (λp=>W.str p.1) [] rfl rfl rfl rfl (by rw[NC]; omega) (by dsimp only[wE,wV,wG]; exact ag #v[] rfl #[congrArg W.tup hz,.refl]) (λp _ S' _=>?_) λS1 k1=>?_
 ·dsimp only[gM,wC,wE,wA,wV,wG,ar];exact#[λ_=>ag #v[] rfl #[rfl,rfl,.refl],λz=>by cases z]
 rw[bZ,hz1];dsimp only;show ab (gh (aj (k1.get _ _ ac)) ac (fw (by rw[Jw,Jl,Jl]; omega))) ?_
 rw[<- J0];show hK _ _ ?_;have e2:(S1++[O.lst (ns.map W.str)]++[O.lst ((ms++ns).map W.str)])[(S1++[O.lst (ns.map W.str)]).length]?=ba (.lst ((ms++ns).map W.str)):=ac;have k2:Ka S (S1++[O.lst (ns.map W.str)]++[O.lst ((ms++ns).map W.str)]):=(Ka.push.trans k1).trans (Ka.push.trans .push);generalize S1++[O.lst (ns.map W.str)]++[O.lst ((ms++ns).map W.str)]=S2 at e2 k2 ⊢;generalize(S1++[O.lst (ns.map W.str)]).length=t at e2 ⊢;clear hK K k1;have nd:=(KT.mp hg.nd);show st ?_;dsimp only[wS];change wE _ _ _ S2 λp=>wB p.1 λk=>(k=true->wE _ _ _ p.2 _)/\(k=false->_)
 show Cs (ms++ns) W.str [] rfl rfl rfl (by rw[Jw]; omega) #[t,rfl,e2,.refl] (λy hy S' _=>?_) λS3 k3=>#[λ_=>?_,λz=>by cases z]
 ·dsimp only[wE,wA,wV,wG];exact yY (d:=d) L (hg.name y hy) (λz=>nd.2.2 y z y hy rfl) λS2 k2=>#[rfl,rfl,k2]
 dsimp only[wE,wA,wV,wG];have e3:=k3.get _ _ e2;show EF e3 nd.2.1 (by rw[Jw]; omega) ?_
 show EG ac (gm (aj e3) (ab dX ?_));rw[Jl,J5];exact hR _ _ (k _ (k2.trans (k3.trans .push)))
def qv (L:Look defs){xs ys:Jj W}{b0:W}{a n:Jr}(ha:xs.length=a)(hn:ys.length=n)(a1:1<=a)(a3:a<=3)(n1:1<=n)(n3:n<=3)(h6:a*n<=6)(k:Q (.bl true,S)):wO (aE (al defs fuel (d+1)) "keeps_bounds" 1 [.tup [.tup xs,.tup ys,b0]] S) Q:=by
 show am L.bounds rfl rfl λQ' hR=>?_
 change wZ _ _ cG [ba (.tup [.tup xs,.tup ys,b0]),gV,gV] S Q';dsimp only[cG];nofun
 left;show ag #v[] rfl (bp (hK _ _ ?_))
 rw[ha];clear hK K;nofun
 left;show ag #v[] rfl (bp (hK _ _ ?_))
 rw[hn];clear hK K;have hm:((a:Jr):JG)*(n:Jr)<=6:=by exact_mod_cast h6
 replace k:=hR _ _ k;clear hR ha hn;have a1':(1:JG)<=(a:Jr):=∅
 have a3':((a:Jr):JG)<=3:=∅
 have n1':(1:JG)<=(n:Jr):=∅
 have n3':((n:Jr):JG)<=3:=∅
 generalize((a:Jr):JG)=x at a1' a3' hm ⊢;generalize((n:Jr):JG)=y at n1' n3' hm ⊢;show st ?_;dsimp only[wS];exact Cw (λQ q=>G2 a1' a3' (λQ q=>q) q) (Cw (λQ q=>G2 n1' n3' (λQ q=>q) q) (G3 ∅ ∅ hm k))
end
def jw {t:Jj Jr}:t∈az↔Ord 3 t/\t.length=3:=by
 rw[show(t∈az)↔t∈rJ 3 by
  constructor
  ·intro h; exact(by decide:∀x∈az,x∈rJ 3) t h
  ·intro h; exact(by decide:∀x∈rJ 3,x∈az) t h]
 exact og
def EH {bs:Jj JG}{u:Wd}:∃t∈az,hG bs u=aw bs u t/\∀s∈az,eY (bX (aw bs u s)) (bX (hG bs u))=ba false:=by
 obtain⟨x,h1,h2,h3⟩:=qk (ks:=(az.map (aw bs u)).map bX) (λx hx=>by obtain⟨p,_,rfl⟩:=JI.mp hx; exact kZ p) (eS _) (by simp[az])
 rw[Jv,Jo]at h1;obtain⟨v,hv,rfl⟩:=h1;have e:hG bs u=v:=by unfold hG; rw[KI,hv]; rfl
 rw[e];obtain⟨t,ht,rfl⟩:=JI.mp (JD hv);exact#[t,ht,rfl,λs hs=>h3 _ (JI.mpr #[_,JI.mpr #[s,hs,rfl],rfl])]
def vo {bs:Jj JG}{u:Wd}(h:u.length=3):hG bs u=aL bs u:=by
 obtain⟨t,ht,e,mn⟩:=EH (bs:=bs) (u:=u);obtain⟨o,h1,h2,h3⟩:=iY (bs:=bs) (u:=u);have hl:∀t∈az,eY (bX (aw bs u t)) (bX (aL bs u))=ba false:=λt ht=>by
  obtain⟨g1,g2⟩:=jw.mp ht;rw[<- h]at g1 g2;exact(la (bs:=bs) (u:=u) u.length (Jy _)).least t g1 g2
 show fu (tu (kZ _) ?_ ?_)
 ·rw[e]; exact hl t ht
 ·rw[<- h3];rw[h]at h1 h2;exact mn o (jw.mpr #[h1,h2])
def eU {n:Jr}{x:JG}(h:x∈ec n):0<=x/\x < n:=by
 obtain⟨k,hk,rfl⟩:=JI.mp h;have:=Kz.mp hk;omega
def rM {a n:Jr}{u:Wd}(h:u∈pU a n):GoodW a n u/\u.length=3:=by
 unfold pU at h;simp only[Np,JI]at h;obtain⟨m0,h0,m1,h1,m2,h2,w1,g1,w2,g2,w3,g3,rfl⟩:=h;show#[?_,rfl];have s1:GoodW a n ([]++[(m0,[])]):=GoodW.nil.snoc (eU h0) rfl (λw hw=>nomatch hw)
 have s2:GoodW a n ([(m0,[])]++[(m1,[w1])]):=s1.snoc (eU h1) rfl (λw hw=>by rw[JH.mp hw]; exact eU g1)
 exact s2.snoc (eU h2) rfl (λw hw=>by
  simp only[JC,J7,Ld]at hw;rcases hw with rfl|rfl
  ·exact eU g2
  ·exact eU g3)
def yZ {a:Jr}{bs:Jj JG}{g:Wd}(hb:GoodB bs)(h:g∈aM a bs):GoodW a bs.length g/\g.length=3/\aL bs g=g:=by
 unfold aM at h;rw[NU]at h;obtain⟨u,hu,rfl⟩:=JI.mp h;obtain⟨gu,u3⟩:=rM hu;rw[vo u3];obtain⟨o,h1,h2,h3⟩:=iY (bs:=bs) (u:=u);rw[<- h3];exact#[mE hb gu h1.lt h1.nd,by rw[bq,h2,u3],by rw[lb hb gu h1 h2,h3]]
def lm {bs:Jj JG}(hb:GoodB bs):∀k < bs.length,∃b:Jr,bs[k]?=ba (b:JG)/\b < bs.length/\bs[b]?=ba (k:JG)/\-1<=(b:JG) - k/\(b:JG) - k<=1:=by
 have all:∀(l:Jj Jr),l.length<=3->(∀k < l.length,l.getD k 0 < l.length/\l.getD (l.getD k 0) 0=k/\l.getD k 0<=k+1/\k<=l.getD k 0+1)->∀k < (l.map λ(x:Jr)=>(x:JG)).length,∃b:Jr,(l.map λ(x:Jr)=>(x:JG))[k]?=ba (b:JG)/\b < (l.map λ(x:Jr)=>(x:JG)).length/\(l.map λ(x:Jr)=>(x:JG))[b]?=ba (k:JG)/\-1<=(b:JG) - k/\(b:JG) - k<=1:=λl _ h k hk=>by
  rw[Jl]at hk ⊢;obtain⟨h1,h2,h3,h4⟩:=h k hk;show#[l.getD k 0,?_,h1,?_,∅,∅]
  ·rw[Jv,au (d:=0) hk]; rfl
  ·rw[Jv,au (d:=0) h1,h2]; rfl
 rcases hb with rfl|rfl|rfl|rfl|rfl|rfl
 ·exact all [0] #v[] #v[]
 ·exact all [0,1] #v[] #v[]
 ·exact all [1,0] #v[] #v[]
 ·exact all [0,1,2] #v[] #v[]
 ·exact all [1,0,2] #v[] #v[]
 ·exact all [0,2,1] #v[] #v[]
def EI {ns:Jj JA}{bs:Jj JG}{k:Jr}{b:JG}(hn:ns.length=bs.length)(h:bs[k]?=ba b):∃y,(Jx ar ns bs)[k]?=ba (ar y b):=by
 have hk:=(JK.mp h).1;show#[ns[k]'∅,?_]
 rw[Lz,h,JB ∅]
section
variable{defs:Jj (JA×Df)}{fuel d:Jr}{S:aa}{Q:QW}
def y4 (L:Look defs){m0 b0:W}{ns:Jj JA}{bs:Jj JG}{k:Jr}{b:JG}(hn:ns.length=bs.length)(h:bs[k]?=ba b)(q:Q (.int b,S)):wO (aE (al defs fuel (d+1)) "back" 2 [.tup [m0,.tup (Jx ar ns bs),b0],.int (k:Jr)] S) Q:=by
 show am L.back rfl rfl λQ' hR=>?_
 change wZ _ _ on [ba (.tup [m0,.tup (Jx ar ns bs),b0]),ba (.int (k:Jr))] S Q';obtain⟨y,hy⟩:=EI hn h;dsimp only[on];show st ?_;dsimp only[wS,wE,wV,wG];exact ag #v[] rfl (ag (JU k) (by rw[JN]; exact hy) (ag #v[] rfl (hR _ _ q)))
def y6 (L:Look defs){m0 b0:W}{ns:Jj JA}{bs:Jj JG}{k:Jr}(hb:GoodB bs)(hn:ns.length=bs.length)(hk:k < bs.length)(q:Q (.bl true,S)):wO (aE (al defs fuel (d+2)) "is_right_back" 2 [.tup [m0,.tup (Jx ar ns bs),b0],.int (k:Jr)] S) Q:=by
 obtain⟨b,h1,h2,h3,h4,h5⟩:=lm hb k hk;have zl:(Jx ar ns bs).length=bs.length:=by rw[KA,hn]; omega
 show am L.isback rfl rfl λQ' hR=>?_
 replace q:=hR _ _ q;clear hR;change wZ _ _ cg [ba (.tup [m0,.tup (Jx ar ns bs),b0]),ba (.int (k:Jr)),gV] S Q';dsimp only[cg];nofun
 left;show y4 (d:=d) L hn h1 (hK _ _ ?_);clear hK K;nofun
 dsimp only[wS,wT,wE,wA,wV,wG];show ab (show oP .le (.int 0) (.int (b:Jr)) S=ba (decide ((0:JG)<=(b:Jr)))from rfl) #[λ_=>?_,λz=>absurd (JU b) (Kv z)]
 show ag #v[] rfl (bp ?_)
 show ab (show cw .lt (.int (b:Jr)) (.int ((Jx ar ns bs).length:Jr)) S=ba (.bl (decide (((b:Jr):JG) < ((Jx ar ns bs).length:Jr))),S)from rfl) ?_
 rw[zl,J6 (show((b:Jr):JG) < (bs.length:Jr) by omega)]
 dsimp only[wB];show ah (Q0:=Q') (λz=>by cases z) (λ_ Q2 hn2 _=>a9 (hn2 _ _ (hK _ _ ?_)))
 clear hn2 hK K;show st ?_;dsimp only[wS,wE,wA,wV,wG,sM,aC];show ab (show Bi.abs.fn [.int (((b:Jr):JG) - (k:Jr))] S=ba (.int (if ((b:Jr):JG) - (k:Jr) < 0 then -(((b:Jr):JG) - (k:Jr))else((b:Jr):JG) - (k:Jr)),S)from rfl) ?_
 show ab Ir ?_;rw[J6 (show(if ((b:Jr):JG) - (k:Jr) < 0 then -(((b:Jr):JG) - (k:Jr))else((b:Jr):JG) - (k:Jr))<=1 by split <;> omega)]
 dsimp only[wB];show#[λ_=>?_,λz=>by cases z]
 show y4 (d:=d) L hn h3 (ab dX ?_);rw[J5];exact q
def y8 (L:Look defs){m0 b0:W}{ns:Jj JA}{bs:Jj JG}(hb:GoodB bs)(hn:ns.length=bs.length)(h3:bs.length<=3)(k:∀S',Ka S S'->Q (.bl true,S')):wO (aE (al defs fuel (d+3)) "has_right_backs" 1 [.tup [m0,.tup (Jx ar ns bs),b0]] S) Q:=by
 have zl:(Jx ar ns bs).length=bs.length:=by rw[KA,hn]; omega
 show am L.backs rfl rfl λQ' hR=>?_
 change wZ _ _ bF [ba (.tup [m0,.tup (Jx ar ns bs),b0])] S Q';dsimp only[bF];show st ?_;dsimp only[wS];show G0 bs.length [ba (.tup [m0,.tup (Jx ar ns bs),b0])] rfl rfl rfl ∅ (by dsimp only[wE,wA,wV,wG]; exact ag #v[] rfl (bp #[by rw[zl],.refl])) (λx hx S' _=>?_) λS' k'=>hR _ _ (k S' k')
 dsimp only[wE,wA,wV,wG];exact y6 (d:=d) L hb hn hx #[rfl,rfl,.refl]
def BL (hfu:20 < fuel)(L:Look defs)(P:Parts defs)(hlo:Is defs ("longer_orders" : JA) 2 4 aJ)(hg:Is defs ("least_form" : JA) 2 7 bg){xs:Jj W}{b0:W}{ns:Jj JA}{bs:Jj JG}{a:Jr}{g:Wd}(hb:GoodB bs)(ha:xs.length=a)(hn:ns.length=bs.length)(gu:GoodW a bs.length g)(g3:g.length=3)(gl:aL bs g=g)(k:∀S',Ka S S'->Q (.bl true,S')) :
  wO (aE (al defs fuel (d+5)) "is_figure" 2 [.tup [.tup xs,.tup (Jx ar ns bs),b0],aK g] S) Q:=by
 have zl:(Jx ar ns bs).length=bs.length:=by rw[KA,hn]; omega
 show am L.fig rfl rfl λQ' hR=>?_
 change wZ _ _ en [ba (.tup [.tup xs,.tup (Jx ar ns bs),b0]),ba (aK g)] S Q';dsimp only[en];nofun
 dsimp only[wS,wT,wA];show Ct g bU [ba (.tup [.tup xs,.tup (Jx ar ns bs),b0])] rfl rfl rfl ∅ #[rfl,.refl] (λi p hp S' _=>?_) λS1 k1=>?_
 ·dsimp only[wE,wA,wV,wG];have hi:=(JK.mp hp).1;exact BH (d:=d) L ha zl (gu.len i p hp) ∅ (gu.mark i p hp) (gu.way i p hp) λS2 k2=>#[rfl,rfl,k2]
 show ab (show cQ S1 (.bl true)=ba true from rfl) ?_
 show ah (Q0:=Q') (λz=>by cases z) (λ_ Q2 hn2 _=>a9 (hn2 _ _ (hK _ _ ?_)))
 clear hn2 hK K;show st ?_;left;show iZ (d:=d+1) hfu P hlo hg hb hn gu ∅ λS2 k2=>?_
 show ab Ej ?_;rw[gl,J6 rfl];exact hR _ _ (k _ (k1.trans k2))
def EJ {S:aa}{u v:Wd}(h:eY (bX u) (bX v)=ba true):bO .lt (aK u) (aK v) S=ba (.bl true,S):=by
 show(match W.t (aK u),W.t (aK v)with|some a,ba b=>if a.depth<=aN/\b.depth<=aN then(eY a b).map λk=>(W.bl k,S)else gV|_,_=>gV)=_
 rw[sV,sV];dsimp only;rw[JO #[J8 (gr u) #v[],J8 (gr v) #v[]],h]; rfl
end
def qw:∀ {us:Jj Wd},Du (us.map bX)->∀p∈us.zip (us.drop 1),eY (bX p.1) (bX p.2)=ba true
 | [],_,p,hp=>nomatch hp
 | [_],_,p,hp=>nomatch hp
 | x::y::us,h,p,hp=>by
  have h:List.Pairwise (λx y=>eY x y=ba true) (bX x::bX y::us.map bX):=h
  have hp:p∈(x,y)::(y::us).zip ((y::us).drop 1):=hp;rw[NQ]at h;rcases JC.mp hp with e|hp
  ·subst e; exact h.1 _ Kr
  ·exact qw (us:=y::us) h.2 p hp
section
variable{defs:Jj (JA×Df)}{fuel d:Jr}{S:aa}{Q:QW}
def y9 (hfu:20 < fuel)(L:Look defs)(P:Parts defs)(hlo:Is defs ("longer_orders" : JA) 2 4 aJ)(hg:Is defs ("least_form" : JA) 2 7 bg){xs:Jj W}{ns:Jj JA}{bs:Jj JG}{a:Jr}{us:Jj Wd}(hb:GoodB bs)(ha:xs.length=a)(hn:ns.length=bs.length)(hu:∀g∈us,GoodW a bs.length g/\g.length=3/\aL bs g=g)(hl:us.length<=1000)(hs:Du (us.map bX))(k:∀S',Ka S S'->Q (.bl true,S')) :
  wO (aE (al defs fuel (d+6)) "has_right_barred" 1 [.tup [.tup xs,.tup (Jx ar ns bs),.tup (us.map aK)]] S) Q:=by
 show am L.barred rfl rfl λQ' hR=>?_
 change wZ _ _ bx [ba (.tup [.tup xs,.tup (Jx ar ns bs),.tup (us.map aK)]),gV,gV] S Q';dsimp only[bx];nofun
 left;show ag #v[] rfl (hK _ _ ?_)
 clear hK K;nofun
 dsimp only[wS,JE];have hz:iH (us.map aK) ((us.map aK).drop 1)=(us.zip (us.drop 1)).map λp=>W.tup [aK p.1,aK p.2]:=by
  unfold iH;rw[<- List.map_drop,QR,Qx,MK]
 show G1 (us.zip (us.drop 1)) (λp=>aK p.1) (λp=>aK p.2) [] rfl rfl rfl rfl (by rw[NC]; omega) _ _ hz ?_ (λp hp S' _=>?_) λS1 k1=>hK _ _ ?_
 ·dsimp only[wE,wP,wV,wG,wN];show ab (a:=(.tup ((us.map aK).drop 1),S)) ?_ #[rfl,rfl,.refl];change ba (W.tup (gY (us.map aK) (ba ((1:Jr):JG)) gV),S)=_;rw[kW]
 ·dsimp only[wE,wV,wG];exact ab (EJ (qw hs p hp)) #[rfl,rfl,.refl]
 clear hK K;show st ?_;dsimp only[wS];change wB (.bl true) λk=>(k=true->wE _ _ _ S1 _)/\(k=false->_)
 show#[λ_=>?_,λz=>by cases z]
 show lg us aK [ba (.tup [.tup xs,.tup (Jx ar ns bs),.tup (us.map aK)])] rfl rfl rfl ∅ #[rfl,.refl] (λg hgm S' _=>?_) λS2 k2=>hR _ _ (k _ (k1.trans k2))
 dsimp only[wE,wA,wV,wG];obtain⟨h1,h2,h3⟩:=hu g hgm;exact BL (d:=d) hfu L P hlo hg hb ha hn h1 h2 h3 λS3 k3=>#[rfl,rfl,k3]
def i5 {M:JA->FF}{Z:Fm}{S:aa}{b:Ss}{Q':QO}{t:E}(h:∀Q:QW,(∀S',Ka S S'->Q (.bl true,S'))->wE M t Z S Q)(ht:∀Q:QB,wE M t Z S (λp=>wO (cQ p.2 p.1) λk=>Q (k,p.2))->wT M t Z S Q)(k:∀S',Ka S S'->wZ M fuel b Z S' Q'):wZ M fuel (.cons (.ite (.not t) #v[.bad] .nil) b) Z S Q':=by
 nofun
 dsimp only[wS,wT];show ht _ (h _ λS1 k1=>?_)
 show ab (show cQ S1 (.bl true)=ba true from rfl) ?_
 exact ah (Q0:=Q') (λz=>by cases z) (λ_ Q2 hn2 _=>a9 (hn2 _ _ (hK _ _ (k S1 k1))))
def EK (hfu:20 < fuel)(L:Look defs)(P:Parts defs)(hlo:Is defs ("longer_orders" : JA) 2 4 aJ)(hg:Is defs ("least_form" : JA) 2 7 bg){a:Jr}{bs:Jj JG}{ms ns:Jj JA}{gs:Jj Wd}(hr:RuleAt a bs ms ns gs)(k:∀S',Ka S S'->Q (.bl true,S')) :
  wO (aE (al defs fuel (d+7)) "look_rule" 1 [aS ms ns bs (bf gs)] S) Q:=by
 have hb:=hr.size.good;obtain⟨n1,n3⟩:=hr.size.n3;have hml:=hr.ml;have hnl:=hr.nl;have a1:=hr.size.pos;have a3:=hr.size.a3;have pm:(bf gs).Perm gs:=iF;have hu:∀g∈bf gs,GoodW a bs.length g/\g.length=3/\aL bs g=g:=λg h=>yZ hb (hr.mem g (pm.mem_iff.mp h))
 have hl:(bf gs).length<=1000:=by
  have h1:=gq gs _ hr.nd hr.mem;have h2:=jT hr.size;rw[pm.length_eq]; omega
 have hs:Du ((bf gs).map bX):=by rw[ju]; exact kz (qf hr.nd)
 have zl:(Jx ar ns bs).length=bs.length:=by rw[KA,hnl]; omega
 have mml:(ms.map W.str).length=a:=by rw[Jl]; exact hml
 generalize bf gs=us at hu hl hs ⊢;show am L.look rfl rfl λQ' hR=>?_
 change wZ _ _ eu [ba (aS ms ns bs us)] S Q';dsimp only[eu];show i5 (λQ q=>?_) (λQ q=>q) λS1 k1=>?_
 ·dsimp only[wE,wA,wV,wG];exact ED (d:=d+1) L ∅ hnl ∅ hl (λu h=>#[(hu u h).2.1,(hu u h).1.len]) q
 show i5 (λQ q=>?_) (λQ q=>q) λS2 k2=>?_
 ·dsimp only[wE,wA,wV,wG,aS];exact qv (d:=d+5) L mml zl a1 a3 n1 n3 hr.size.most (q _ .refl)
 show i5 (λQ q=>?_) (λQ q=>q) λS3 k3=>?_
 ·dsimp only[wE,wA,wV,wG,aS];exact ic (d:=d+4) L hnl (by rw[Jw]; omega) hr.nm q
 show i5 (λQ q=>?_) (λQ q=>q) λS4 k4=>?_
 ·dsimp only[wE,wA,wV,wG,aS];exact y8 (d:=d+3) L hb hnl n3 q
 show i5 (λQ q=>?_) (λQ q=>q) λS5 k5=>?_
 ·dsimp only[wE,wA,wV,wG,aS];exact y9 (d:=d) hfu L P hlo hg hb mml hnl hu hl hs q
 show st ?_;dsimp only[wS,wE];exact hR _ _ (k _ (k1.trans (k2.trans (k3.trans (k4.trans k5)))))
end
abbrev ev:Ss:=
 #v[.set 1 (.lst .nil),.loop (.tp [2,3]) (.enu #v[.ix (.v 0) (.c (.int 1))]) #v[.ite (.cmp .eq (.ix (.v 3) (.c (.int 1))) (.v 2)) #v[.ex (.me .append (.v 1) #v[.ix (.v 3) (.c (.int 0))])] .nil,.ite (.cmp .gt (.ix (.v 3) (.c (.int 1))) (.v 2)) #v[.ex (.me .append (.v 1) #v[.op .add (.op .add (.ix (.v 3) (.c (.int 0))) (.c (.str "/"))) (.ix (.ix (.ix (.v 0) (.c (.int 1))) (.ix (.v 3) (.c (.int 1)))) (.c (.int 0)))])] .nil],.ret (.v 1)]
abbrev ey:Ss:=
 #v[.set 1 (.lst #v[.me .join (.c (.str " ")) #v[.op .add (.lst #v[.c (.str "marks")]) (.bi .list #v[.ix (.v 0) (.c (.int 0))])],.me .join (.c (.str " ")) #v[.op .add (.lst #v[.c (.str "ways")]) (.own "way_words" 1 #v[.v 0])]]),.ret (.me .join (.c (.str "\n")) #v[.op .add (.v 1) (.comp (.op .add (.c (.str "bar ")) (.own "show_world" 2 #v[.v 2,.v 1])) (.nm 1) (.seq (.ix (.v 0) (.c (.int 2)))) .nil [gV,gV,ba 0])])]
abbrev dH:Ss:=
 #v[.set 1 (.me .split (.v 0) #v[.c (.str " ")]),.set 2 (.bi .tuple #v[.sl (.v 1) (.yes (.c (.int 1))) .no]),.ite (.or (.cmp .ne (.ix (.v 1) (.c (.int 0))) (.c (.str "marks"))) (.or (.not (.chn .le .le (.c (.int 1)) (.bi .len #v[.v 2]) (.c (.int 3)))) (.not (.own "has_right_names" 1 #v[.tup #v[.v 2,.tup .nil,.tup .nil]])))) #v[.bad] .nil,.ret (.v 2)]
abbrev eA:Ss:=
 #v[.set 1 (.me .split (.v 0) #v[.c (.str " ")]),.ite (.cmp .ne (.ix (.v 1) (.c (.int 0))) (.c (.str "ways"))) #v[.bad] .nil,.set 2 (.lst .nil),.loop (.nm 3) (.seq (.sl (.v 1) (.yes (.c (.int 1))) .no)) #v[.set 4 (.me .split (.v 3) #v[.c (.str "/")]),.set 5 (.bi .len #v[.v 2]),.ite (.cmp .eq (.bi .len #v[.v 4]) (.c (.int 1))) #v[.ex (.me .append (.v 2) #v[.tup #v[.v 3,.v 5]])] #v[.ite (.cmp .eq (.bi .len #v[.v 4]) (.c (.int 2))) #v[.ex (.me .extend (.v 2) #v[.lst #v[.tup #v[.ix (.v 4) (.c (.int 0)),.op .add (.v 5) (.c (.int 1))],.tup #v[.ix (.v 4) (.c (.int 1)),.v 5]]])] #v[.bad]]],.ret (.bi .tuple #v[.v 2])]
abbrev fI:Ss:=
 #v[.ite (.not (.me .starts (.v 1) #v[.c (.str "bar ")])) #v[.bad] .nil,.set 3 (.own "read_points" 3 #v[.v 0,.sl (.v 1) (.yes (.bi .len #v[.c (.str "bar ")])) .no,.v 2]),.ite (.cmp .ne (.bi .len #v[.v 3]) (.c (.int 3))) #v[.bad] .nil,.ret (.own "least_form" 2 #v[.v 0,.v 3])]
abbrev eB:Ss:=
 #v[.set 2 (.lst .nil),.loop (.tp [3,4]) (.enu #v[.v 1]) #v[.ite (.cmp .ge (.v 3) (.c (.int 2))) #v[.set 5 (.own "read_bar" 3 #v[.v 0,.v 4,.v 3]),.ite (.cmp .isin (.v 5) (.v 2)) #v[.bad] .nil,.ex (.me .append (.v 2) #v[.v 5])] .nil],.ret (.v 2)]
abbrev eC:Ss:=
 #v[.ite (.not (.isi "str" (.v 0))) #v[.bad] .nil,.set 1 (.me .split (.v 0) #v[.c (.str "\n")]),.set 2 (.own "read_marks" 1 #v[.ix (.v 1) (.c (.int 0))]),.ite (.cmp .eq (.bi .len #v[.v 1]) (.c (.int 1))) #v[.bad] .nil,.set 3 (.tup #v[.v 2,.own "read_ways" 1 #v[.ix (.v 1) (.c (.int 1))],.tup .nil]),.ite (.or (.not (.own "keeps_bounds" 1 #v[.v 3])) (.not (.own "has_right_names" 1 #v[.v 3]))) #v[.bad] .nil,.ret (.tup #v[.ix (.v 3) (.c (.int 0)),.ix (.v 3) (.c (.int 1)),.bi .tuple #v[.bi .sorted #v[.own "read_bars" 2 #v[.v 3,.v 1]]]])]
structure Rts (defs:Jj (JA×Df)):Prop where
 txs:Txs defs
 look:Look defs
 parts:Parts defs
 longer:Is defs ("longer_orders" : JA) 2 4 aJ
 least:Is defs ("least_form" : JA) 2 7 bg
 rmarks:Is defs ("read_marks" : JA) 1 3 dH
 rways:Is defs ("read_ways" : JA) 1 6 eA
 rbar:Is defs ("read_bar" : JA) 3 4 fI
 rbars:Is defs ("read_bars" : JA) 2 6 eB
 rrule:Is defs ("read_rule" : JA) 1 4 eC
section
variable{defs:Jj (JA×Df)}{fuel d:Jr}{S:aa}{Q:QW}
def bM {y:JA}{P:Jj JA}{k m:Jr}(h:∀z∈P,z.length<=k)(hy:y.length<=m):(y.join P).length<=P.length*(k+m):=by
 have h1:=Nd y P;have h2:=hX h;have h3:P.length*y.length<=P.length*m:=Pw _ hy;rw[QZ]; omega
def oq {x:WY}(h:x.ok):x.s.length<=18:=by
 cases x with
 | one y=>show y.length<=18; rw[cf]; have:=h.2.1; omega
 | two y z=>
  have:=bM (y:="/") (P:=[y,z]) (k:=8) (m:=1) (λw hw=>by
   rcases JC.mp hw with rfl|hw
   ·rw[cf]; exact h.1.2.1
   ·rw[JH.mp hw,cf]; exact h.2.2.1) #v[]
  exact this
def zd (L:Rts defs){ms:Jj JA}(hl:1<=ms.length/\ms.length<=3)(hg:GoodN ms [])(k:∀S',Ka S S'->Q (.tup (ms.map W.str),S')) :
  wO (aE (al defs fuel (d+3)) "read_marks" 1 [.str (aH ms)] S) Q:=by
 have hz:∀y∈ms,Name y:=λy hy=>hg.name y (Ky _ hy)
 have hlen:(aH ms).length<=40:=by
  have:=bM (y:=" ") (P:=("marks" : JA)::ms) (k:=8) (m:=1) (λw hw=>by
   rcases JC.mp hw with rfl|hw
   ·decide
   ·rw[cf]; exact(hz w hw).2.1) #v[]
  rw[JL]at this;have h2:(aH ms).length<=(ms.length+1)*9:=this;omega
 show am L.rmarks rfl rfl λQ' hR=>?_
 change wZ _ _ dH [ba (.str (aH ms)),gV,gV] S Q';dsimp only[dH];nofun
 left;show#[rfl,fD #v[] ∅ (qu hz) (hK _ _ ?_)]
 clear hK K;nofun
 dsimp only[wS,wE,wA,wP,wV,wG,wN,JE];show ab (om ac (by rw[Jl,JL]; omega)) ?_
 show dt ac (hK _ _ ?_);rw[JS,PK,Ph];clear hK K;have e1:(S++[O.lst (W.str "marks" :: ms.map W.str)]++[O.lst (ms.map W.str)])[S.length]?=ba (.lst (W.str "marks" :: ms.map W.str)):=aj ac;have k1:Ka S (S++[O.lst (W.str "marks" :: ms.map W.str)]++[O.lst (ms.map W.str)]):=Ka.push.trans .push;generalize S++[O.lst (W.str "marks" :: ms.map W.str)]++[O.lst (ms.map W.str)]=S1 at e1 k1 ⊢;generalize S.length=t at e1 ⊢;nofun
 dsimp only[wS,wT,wE,wA,wV,wG];show d3 e1 #v[] rfl (ab xU ?_)
 rw[J5];dsimp only[wB];show#[λz=>(by cases z),λ_=>?_]
 show bp ?_;rw[Jl];show ab (show oP .le (.int 1) (.int (ms.length:Jr)) S1=ba (decide ((1:JG)<=(ms.length:Jr)))from rfl) #[λ_=>?_,λz=>absurd (show(1:JG)<=(ms.length:Jr) by omega) (Kv z)]
 show ab (show cw .le (.int (ms.length:Jr)) (.int 3) S1=ba (.bl (decide (((ms.length:Jr):JG)<=3)),S1)from rfl) ?_
 rw[J6 (show((ms.length:Jr):JG)<=3 by omega)]
 dsimp only[wB];show#[λz=>(by cases z),λ_=>?_]
 show ic (d:=d) (ns:=[]) (bs:=[]) L.look rfl (by rw[Kx]; omega) hg λS2 k2=>?_
 show ab (show cQ S2 (.bl true)=ba true from rfl) ?_
 show ah (Q0:=Q') (λz=>by cases z) (λ_ Q2 hn2 _=>a9 (hn2 _ _ (hK _ _ ?_)))
 clear hn2 hK K;show st ?_;dsimp only[wS,wE,wV,wG];exact hR _ _ (k _ (k1.trans k2))
def mL:∀(xs:Jj WY) (k:Jr) (x:WY),di k (xs++[x])=di k xs++x.ways (k+(di k xs).length)
 | [],k,x=>by simp[di]
 | y::ys,k,x=>by
  have hl:(y.ways k).length=y.n:=by cases y <;> rfl
  change y.ways k++di (k+y.n) (ys++[x])=(y.ways k++di (k+y.n) ys)++x.ways (k+(y.ways k++di (k+y.n) ys).length);rw[mL ys (k+y.n) x,KS,Jw,hl,PB]
def qx:∀(xs:Jj WY) (k:Jr),(di k xs).length<=2*xs.length
 | [],_=>Jy _
 | y::ys,k=>by
  have hl:(y.ways k).length<=2:=by cases y <;> simp[WY.ways]
  have:=qx ys (k+y.n);show(y.ways k++di (k+y.n) ys).length<=_;rw[Jw,JL]; omega
def BM (L:Rts defs){xs:Jj WY}(hl:xs.length<=3)(hx:∀x∈xs,x.ok)(k:∀S',Ka S S'->Q (.tup (di 0 xs),S')) :
  wO (aE (al defs fuel (d+1)) "read_ways" 1 [.str ((" " : JA).join (("ways" : JA)::xs.map WY.s))] S) Q:=by
 have hsp:K5 ((" " : JA).join (("ways" : JA)::xs.map WY.s)) " " = ("ways" : JA)::xs.map WY.s:=
  cp (pre:=[]) (c:=32) (post:=[]) #v[] (by simp) (by decide +kernel) (by simp) λz hz c=>by
   rcases JC.mp hz with rfl|hz
   ·exact absurd c #v[]
   ·obtain⟨x,h1,rfl⟩:=JI.mp hz;have:=tF (hx x h1) 32 c;omega
 have hlen:((" " : JA).join (("ways" : JA)::xs.map WY.s)).length<=100:=by
  have:=bM (y:=" ") (P:=("ways" : JA)::xs.map WY.s) (k:=18) (m:=1) (λw hw=>by
   rcases JC.mp hw with rfl|hw
   ·decide
   ·obtain⟨x,h1,rfl⟩:=JI.mp hw;exact oq (hx x h1)) #v[]
  rw[JL,Jl]at this;omega
 show am L.rways rfl rfl λQ' hR=>?_
 generalize(" " : JA).join (("ways" : JA)::xs.map WY.s)=tx at hsp hlen ⊢;change wZ _ _ eA [ba (.str tx),gV,gV,gV,gV,gV] S Q';dsimp only[eA];nofun
 left;show#[rfl,fD #v[] ∅ hsp (hK _ _ ?_)]
 clear hK K;rw[JS];have e1:(S++[O.lst (W.str "ways" :: (xs.map WY.s).map W.str)])[S.length]?=ba (.lst (W.str "ways" :: (xs.map WY.s).map W.str)):=ac;have k1:Ka S (S++[O.lst (W.str "ways" :: (xs.map WY.s).map W.str)]):=.push;generalize S++[O.lst (W.str "ways" :: (xs.map WY.s).map W.str)]=S1 at e1 k1 ⊢;generalize S.length=t at e1 ⊢;nofun
 dsimp only[wS,wT,wE,wA,wV,wG];show d3 e1 #v[] rfl (ab xU ?_)
 rw[J5];dsimp only[wB];show ah (Q0:=Q') (λz=>by cases z) (λ_ Q2 hn2 _=>a9 (hn2 _ _ (hK _ _ ?_)))
 clear hn2 hK K;show st ?_;dsimp only[wS,wE,wA,JE];nofun
 show d6 rfl rfl ?_;dsimp only[wE,wP,wV,wG,wN];show ab (om (aj e1) (by rw[JL,Jl,Jl]; omega)) ?_
 rw[PK,Ph];have hS:(S1++[O.lst []]).length=S1.length+1:=by simp
 show#[_,(xs.map WY.s).map W.str,λi Z S'=>(∃x3 x4 x5,Z=[ba (.str tx),ba (.ref t),ba (.ref S1.length),x3,x4,x5])/\S'[S1.length]?=ba (.lst (di 0 (xs.take i)))/\S'[(S1++[O.lst []]).length]?=ba (.lst ((xs.map WY.s).map W.str))/\Ka S1 S',rfl,#[#[_,_,_,rfl],aj ac,ac,Ka.push.trans .push],λi Z S' h=>h.2.2.1,?_,?_]
 ·rintro i w Z S2 hw ⟨⟨x3,x4,x5,rfl⟩,e2,e3,k2⟩;rw[Jv,Jv,Ru,Jo]at hw;obtain⟨x,hxi,rfl⟩:=hw;have hok:=hx x (JD hxi);have hwl:=qx (xs.take i) 0;have htl:(xs.take i).length<=3:=by rw[Ks]; omega
  have hne:(S1++[O.lst []]).length≠S1.length:=∅
  show ab (show gA (.nm 3) (W.str x.s) [ba (.str tx),ba (.ref t),ba (.ref S1.length),x3,x4,x5] S2=ba ([ba (.str tx),ba (.ref t),ba (.ref S1.length),ba (.str x.s),x4,x5],S2)from rfl) λQ2 hn2 _=>?_
  clear hK;have fin:∀(S3:aa) (x4':Jq W),Ka S2 S3->S3[S1.length]?=ba (.lst (di 0 (xs.take i)))->∀(o:O),o=.lst (di 0 (xs.take i)++x.ways (di 0 (xs.take i)).length)->Q2 (.nx [ba (.str tx),ba (.ref t),ba (.ref S1.length),ba (.str x.s),x4',ba (.int ((di 0 (xs.take i)).length:Jr))],S3.set S1.length o):=λS3 x4' k3 e4 o ho=>by
   show hn2 _ _ #[#[_,_,_,rfl],?_,?_,(k2.trans k3).late (Jy _)]
   ·rw[aX e4,ho,KH,hxi,Option.toList_some,mL,R0]
   ·rw[bj (Ne.symm hne)]; exact k3.get _ _ e3
  clear hn2;nofun
  left;show#[rfl,fD #v[] (by have:=oq hok; omega) (yU hok) (hK _ _ ?_)]
  clear hK K;nofun
  left;show gm (aj e2) (hK _ _ ?_);clear hK K;nofun
  dsimp only[wS,wT,wE,wA,wV,wG];show gm ac (ab dX ?_);rw[Jl];cases x with
  | one y=>
   show ah (Q0:=Q2) (λ_ Q3 hn3 _=>?_) (λz=>by cases z)
   show st ?_;left;show#[bv (aj e2),eR (aj e2) ∅ (a9 (hn3 _ _ (hK _ _ (a9 (fin _ _ .push (aj e2) _ rfl)))))]
  | two y z=>
   show ah (Q0:=Q2) (λz=>by cases z) (λ_ Q3 hn3 _=>?_)
   show aA λK2 hK2=>?_
   dsimp only[wS,wT,wE,wA,wV,wG];show gm ac (ab dX ?_);show ah (Q0:=Q3) (λ_ Q4 hn4 _=>?_) (λz=>by cases z)
   show st ?_;left;show#[bv (aj e2),d3 ac #v[] rfl ?_]
   dsimp only[cu,aC];show d3 ac #v[] rfl ?_
   show GV (aj (aj e2)) ac (by change _+2<=1000; omega) (a9 (hn4 _ _ (hK2 _ _ (a9 (hn3 _ _ (hK _ _ (a9 (fin _ _ (Ka.push.trans .push) (aj (aj e2)) _ rfl))))))))
 ·rintro Z S2 ⟨⟨x3,x4,x5,rfl⟩,e2,e3,k2⟩;rw[Jl,Jl,KR]at e2;show hK _ _ (st ?_);left;exact dt e2 (hR _ _ (k _ (k1.trans k2)))
def vp (L:Txs defs){b0:W}{ms ns:Jj JA}{bs:Jj JG}{a:Jr}{u:Wd}{row:W}(h:RW a bs ms ns u)(h0:u≠[])(ha3:a<=3)(hb3:bs.length<=3)(k:∀S',Ka S S'->Q (aK u,S')) :
  wO (aE (al defs fuel (d+2)) "read_points" 3 [.tup [.tup (ms.map W.str),.tup (Jx ar ns bs),b0],.str (mK ms ns u),row] S) Q:=by
 have few:=h.few;have hwl:=fA (ms:=ms) (ns:=ns) (u:=u) (k:=216) λp hp=>h.sl hp
 show am L.rpoints rfl rfl λQ2 hR2=>?_
 change wZ _ _ c7 [ba (.tup [.tup (ms.map W.str),.tup (Jx ar ns bs),b0]),ba (.str (mK ms ns u)),ba row] S Q2;dsimp only[c7];nofun
 dsimp only[wS,wT,wE,wA,wV,wG];show ab xT ?_;dsimp only[wB];show ah (Q0:=Q2) (λz=>absurd z (by rw[Ex h0 λp hp=>h.name hp]; exact JP)) (λ_ Q3 hn3 _=>a9 (hn3 _ _ (hK _ _ ?_)))
 clear hn3 hK K;show st ?_;dsimp only[wS,wE,wA];show EA u (λp=>W.str (jJ ms ns p)) bU [ba row,ba (.tup [.tup (ms.map W.str),.tup (Jx ar ns bs),b0])] rfl rfl rfl ∅ ?_ (λi p hpi S' k'=>?_) λS' k'=>dt ac (hR2 _ _ (k _ (k'.trans .push)))
 ·dsimp only[wE,wA,wV,wG];show#[rfl,fD #v[] ∅ (vm h0 λp hp=>h.name hp) #[_,rfl,?_,.push]]
  rw[KL]; exact ac
 ·dsimp only[wE,wA,wV,wG];have hp:=JD hpi;have hi:=h.gu.len i p hpi;exact yV (d:=d) L h.ml ha3 hb3 h.nl h.nm (h.gu.pt hp) (h.name hp) hi (by have:=h.ln hp; omega) λS2 k2=>#[rfl,rfl,k2]
def EM (hfu:20 < fuel)(L:Rts defs){b0:W}{ms ns:Jj JA}{bs:Jj JG}{a:Jr}{u:Wd}{n:W}(hb:GoodB bs)(h:RW a bs ms ns u)(h3:u.length=3)(ha3:a<=3)(hb3:bs.length<=3)(k:∀S',Ka S S'->Q (aK (aL bs u),S')) :
  wO (aE (al defs fuel (d+4)) "read_bar" 3 [.tup [.tup (ms.map W.str),.tup (Jx ar ns bs),b0],.str (bH ms ns u),n] S) Q:=by
 have h0:u≠[]:=λz=>by rw[z]at h3; cases h3
 have hwl:=fA (ms:=ms) (ns:=ns) (u:=u) (k:=216) λp hp=>h.sl hp
 obtain⟨c1,c2⟩:=BE (x:=mK ms ns u);show am L.rbar rfl rfl λQ' hR=>?_
 change wZ _ _ fI [ba (.tup [.tup (ms.map W.str),.tup (Jx ar ns bs),b0]),ba (.str (bH ms ns u)),ba n,gV] S Q';dsimp only[fI];nofun
 have e1:cM (al defs fuel (d+3)) (.me .starts (.v 1) #v[.c (.str "bar ")]) [ba (.tup [.tup (ms.map W.str),.tup (Jx ar ns bs),b0]),ba (.str (bH ms ns u)),ba n,gV] S=ba (true,S):=by
  have c2:NR (bH ms ns u) "bar " = true:=c2;show(match iI (.str (bH ms ns u)) [.str "bar "] S with|some (w,S')=>(cQ S' w).map λk=>(k,S')|none=>gV)=_
  simp only[iI,c2];rfl
 dsimp only[wS];show#[_,e1,?_];show ah (Q0:=Q') (λz=>by cases z) (λ_ Q2 hn2 _=>a9 (hn2 _ _ (hK _ _ ?_)))
 clear hn2 hK K;nofun
 dsimp only[wS,wE,wA,wP,wV,wG,JE];show yX #v[] ?_
 dsimp only[wN];have c1:lM (.str (bH ms ns u)) (ba (("bar " : JA).length:Jr)) gV S=ba (.str (mK ms ns u),S):=by
  have:(ba ((("bar " : JA).length:Jr):JG))=ba 4:=by decide
  rw[this];dsimp only[lM];unfold bH;rw[c1,JO (fw ∅)]
 show ab c1 ?_;show vp (d:=d+1) L.txs h h0 ha3 hb3 λS1 k1=>hK _ _ ?_
 clear hK K;nofun
 dsimp only[wS,wT,wE,wA,wV,wG,aK];show bp (ab D7 ?_);rw[Jl,h3];show ah (Q0:=Q') (λz=>by cases z) (λ_ Q2 hn2 _=>a9 (hn2 _ _ (hK _ _ ?_)))
 clear hn2 hK K;show st ?_;left;exact iZ (d:=d) hfu L.parts L.longer L.least hb h.nl h.gu ∅ λS2 k2=>hR _ _ (k _ (k1.trans k2))
end
section
variable{M:JA->FF}{fuel:Jr}{Z:Fm}{S:aa}{K:Fm->aa->Prop}{Q:QO}
def rN (xs:Jj W)(i:Jr):(fZ xs)[i]?=xs[i]?.map λx=>W.tup [.int (i:Jr),x]:=by
 unfold fZ;rw[Jv,MF];cases xs[i]? with
 | none=>rfl
 | some x=>simp
def EN {tg:Tg}{e:E}{b:Ss}(oe:bV e=true)(ok:fL b=true)(he:wE M e Z S λp=>∃(t:Jr) (xs:Jj W) (I:Jr->Fm->aa->Prop),p.1=.ref t/\I 0 Z p.2/\(∀i Z S,I i Z S->S[t]?=ba (.lst xs))/\
  (∀(i:Jr) (w:W) (Z:Fm) (S:aa),xs[i]?=ba w->I i Z S->wO (gA tg (.tup [.int (i:Jr),w]) Z S) λq=>sO M fuel b q.1 q.2 (I (i+1)) Q)/\∀Z S,I xs.length Z S->K Z S):Wp (fK M fuel (.loop tg (.enu #v[e]) b) Z S) (oB K Q):=by
 obtain⟨w,S1,e1,t,xs,I,rfl,h0,hat,hs,hend⟩:=aR oe he;have hl:(fZ xs).length=xs.length:=by simp[fZ]
 show fg (mi:=.el t) (S1:=S1) (xs:=fZ xs) I ok (by simp only[gb,cr,bK,eG,rm,e1,zu,ap (hat _ _ _ h0)]) (λi Z S h=>by simp only[MI.at,ap (hat _ _ _ h),rN]) (by simp only[MI.len,ap (hat _ _ _ h0),Kc,hl]) h0 (λi w Z S hw hI=>?_) λZ S hI=>hend Z S (hl ▸ hI)
 rw[rN,Jo]at hw;obtain⟨x,hx,rfl⟩:=hw;exact hs i x Z S hx hI
def EO {tg:Tg}{e:E}{b:Ss}(xs:Jj W)(I:Jr->Fm->aa->Prop)(oe:bV e=true)(ok:fL b=true)(he:wE M e Z S λp=>p.1=.tup xs/\I 0 Z p.2)
  (hs:∀(i:Jr) (w:W) (Z:Fm) (S:aa),xs[i]?=ba w->I i Z S->wO (gA tg (.tup [.int (i:Jr),w]) Z S) λq=>sO M fuel b q.1 q.2 (I (i+1)) Q) (hend:∀Z S,I xs.length Z S->K Z S):Wp (fK M fuel (.loop tg (.enu #v[e]) b) Z S) (oB K Q):=by
 obtain⟨w,S1,e1,rfl,h0⟩:=aR oe he;have hl:(fZ xs).length=xs.length:=by simp[fZ]
 show fg (mi:=.its (fZ xs)) (S1:=S1) (xs:=fZ xs) I ok (by simp only[gb,cr,bK,eG,rm,e1,zu]) (λ_ _ _ _=>rfl) rfl h0 (λi w Z S hw hI=>?_) λZ S hI=>hend Z S (hl ▸ hI)
 rw[rN,Jo]at hw;obtain⟨x,hx,rfl⟩:=hw;exact hs i x Z S hx hI
end
def EQ {S:aa}{i:Jr}{u:Wd}{L:Jj Wd}(h:S[i]?=ba (.lst (L.map aK))):bO .isin (aK u) (.ref i) S=ba (.bl (decide (u∈L)),S):=by
 have e:EY (aK u) i S=ba (decide (u∈L)):=by
  unfold EY;rw[sV,ap h];dsimp only;rw[ye];dsimp only;rw[JO #[J8 (gr u) #v[],J8 (gE L) #v[]]]
  congr 1;rw[Bool.eq_iff_iff,JW,JW,JI];exact#[λ#[x,hx,e]=>fu e ▸ hx,λh=>#[u,h,rfl]]
 unfold aK at e ⊢;simp only[bO,uF,jR h,e];rfl
def tM {us gs:Jj Wd}(h:us.Perm gs)(nd:gs.Nodup):bf us=bf gs:=by
 apply qd;rw[ju,ju];exact uM (qf nd) (h.map bX)
section
variable{defs:Jj (JA×Df)}{fuel d:Jr}{S:aa}{Q:QW}
def BN (hfu:20 < fuel)(L:Rts defs){b0:W}{ms ns:Jj JA}{bs:Jj JG}{a t:Jr}{x y:W}{vs:Jj Wd}(hb:GoodB bs)(h:∀v∈vs,RW a bs ms ns v/\v.length=3)(hl:vs.length<=100)(nd:(vs.map (aL bs)).Nodup)(ha3:a<=3)(hb3:bs.length<=3)(et:S[t]?=ba (.lst (x::y::vs.map λv=>W.str (bH ms ns v))))(k:∀q S',S'[q]?=ba (.lst ((vs.map (aL bs)).map aK))->Ka S S'->Q (.ref q,S')) :
  wO (aE (al defs fuel (d+5)) "read_bars" 2 [.tup [.tup (ms.map W.str),.tup (Jx ar ns bs),b0],.ref t] S) Q:=by
 show am L.rbars rfl rfl λQ' hR=>?_
 generalize hRR:W.tup [.tup (ms.map W.str),.tup (Jx ar ns bs),b0]=RR;change wZ _ _ eB [ba RR,ba (.ref t),gV,gV,gV,gV] S Q';dsimp only[eB];show st ?_;dsimp only[wS,wE,wA,JE];nofun
 show EN rfl rfl ?_;dsimp only[wE,wV,wG];have tlt:=dq et;show#[t,_,λi Z S'=>(∃x3 x4 x5,Z=[ba RR,ba (.ref t),ba (.ref S.length),x3,x4,x5])/\S'[S.length]?=ba (.lst (((vs.take (i - 2)).map (aL bs)).map aK))/\Ka S S',rfl,#[#[_,_,_,rfl],ac,.push],λi Z S' h=>h.2.2.get _ _ et,?_,?_]
 ·rintro i w Z S1 hw ⟨⟨x3,x4,x5,rfl⟩,e1,k1⟩;show ab (show gA (.tp [3,4]) (W.tup [.int (i:Jr),w]) [ba RR,ba (.ref t),ba (.ref S.length),x3,x4,x5] S1=ba ([ba RR,ba (.ref t),ba (.ref S.length),ba (.int (i:Jr)),ba w,x5],S1)from rfl) λQ2 hn2 _=>?_
  clear hK;nofun
  dsimp only[wS,wT,wE,wV,wG];show ab Gy ?_;dsimp only[wB]
  by_cases h2:i < 2
  ·show ah (Q0:=Q2) (λz=>absurd (J9 z) ∅) (λ_ Q3 hn3 _=>a9 (hn3 _ _ (hK _ _ (a9 (hn2 _ _ #[#[_,_,_,rfl],?_,k1])))))
   rw[show i+1 - 2=i - 2 by omega]; exact e1
  ·obtain⟨j,rfl⟩ : ∃j,i=j+2:=#[i - 2,∅]
   have hw:(vs.map λv=>W.str (bH ms ns v))[j]?=ba w:=by simpa using hw
   rw[Jv,Jo]at hw;obtain⟨v,hv,rfl⟩:=hw;obtain⟨hrw,h3⟩:=h v (JD hv);have ej:j+2 - 2=j:=∅
   rw[ej]at e1;show ah (Q0:=Q2) (λ_ Q3 hn3 _=>?_) (λz=>absurd (show((j+2:Jr):JG)>=2 by omega) (Kv z))
   show aA λK2 hK2=>?_
   left;subst hRR;show EM (d:=d) hfu L hb hrw h3 ha3 hb3 λS2 k2=>hK2 _ _ ?_
   clear hK2 K2;have e2:=k2.get _ _ e1;have hni:aL bs v∉(vs.take j).map (aL bs):=λz=>by
    have hs:vs.map (aL bs)=(vs.take j).map (aL bs)++(vs.drop j).map (aL bs):=by rw[<- J0,Mw]
    rw[hs,KT]at nd;have hd:v∈vs.drop j:=by
     rw[List.mem_iff_getElem?];exact#[0,by rw[P6]; exact hv]
    exact nd.2.2 _ z _ (Px hd) rfl
   show aA λK2 hK2=>?_
   dsimp only[wS,wT,wE,wV,wG];show ab (EQ e2) ?_;rw[J4 hni];dsimp only[wB];show ah (Q0:=Q3) (λz=>by cases z) (λ_ Q4 hn4 _=>a9 (hn4 _ _ (hK2 _ _ ?_)))
   clear hn4 hK2 K2;show st ?_;left;show#[bv e2,eR e2 (by rw[Jl,Jl,Ks]; omega) (a9 (hn3 _ _ (hK _ _ (a9 (hn2 _ _ #[#[_,_,_,rfl],?_,(k1.trans k2).late (Jy _)])))))]
   rw[aX e2,show j+2+1 - 2=j+1 by omega,KH,hv,J0,J0]; rfl
 ·rintro Z S1 ⟨⟨x3,x4,x5,rfl⟩,e1,k1⟩;rw[show(x::y::vs.map λv=>W.str (bH ms ns v)).length - 2=vs.length by simp,KR]at e1
  show hK _ _ (st ?_);dsimp only[wS,wE,wV,wG];exact hR _ _ (k _ _ e1 k1)
def tN (hfu:20 < fuel)(L:Rts defs){ms ns:Jj JA}{bs:Jj JG}{a:Jr}{vs:Jj Wd}(hs:SizeOk a bs)(hml:ms.length=a)(hnl:ns.length=bs.length)(hg:GoodN ms ns)(h:∀v∈vs,GoodW a bs.length v/\v.length=3)(hl:vs.length < 64)(nd:(vs.map (aL bs)).Nodup)(k:∀S',Ka S S'->Q (aS ms ns bs (bf (vs.map (aL bs))),S')) :
  wO (aE (al defs fuel (d+6)) "read_rule" 1 [.str (gU ms ns bs vs)] S) Q:=by
 have hb:=hs.good;obtain⟨n1,n3⟩:=hs.n3;have a3:=hs.a3;have a1:=hs.pos;have hm:∀y∈ms,Name y:=λy hy=>hg.name y (Ky _ hy)
 have hn:∀y∈ns,Name y:=λy hy=>hg.name y (JY _ hy)
 obtain⟨wo,wl⟩:=Cv hb hnl hn;have hrw:∀v∈vs,RW a bs ms ns v/\v.length=3:=λv hv=>#[#[hml,hnl,hg,(h v hv).1,by have:=(h v hv).2; omega],(h v hv).2]
 have hz:∀u∈vs,∀p∈u,∀z∈fM ms ns p,Name z:=λu hu p hp=>(hrw u hu).1.name hp
 have hgm:GoodN ms []:=#[λy hy=>hg.name y (Ky _ (by rwa [Kx]at hy)),by
  have:=hg.nd;rw[<- KS,KT]at this;rw[Kx]; exact this.1]
 have hsp:=lh hm wo hz;have hlen:(gU ms ns bs vs).length<=200000:=by
  have h1:=bM (y:="\n") (P:=aH ms::bm ns bs::vs.map (bH ms ns)) (k:=1000) (m:=1) (λz hz'=>by
   rcases JC.mp hz' with rfl|hz'
   ·have:=bM (y:=" ") (P:=("marks" : JA)::ms) (k:=8) (m:=1) (λw hw=>by
     rcases JC.mp hw with rfl|hw
     ·decide
     ·rw[cf]; exact(hm w hw).2.1) #v[]
    have h2:(aH ms).length<=(ms.length+1)*9:=this;omega
   ·rcases JC.mp hz' with rfl|hz'
    ·have:=bM (y:=" ") (P:=("ways" : JA)::(lC ns bs).map WY.s) (k:=18) (m:=1) (λw hw=>by
      rcases JC.mp hw with rfl|hw
      ·decide
      ·obtain⟨x,h1,rfl⟩:=JI.mp hw;exact oq (wo x h1)) #v[]
     rw[JL,Jl]at this;have h2:(bm ns bs).length<=((lC ns bs).length+1)*19:=this;omega
    ·obtain⟨v,hv,rfl⟩:=JI.mp hz';have h1:=fA (ms:=ms) (ns:=ns) (u:=v) (k:=216) λp hp=>(hrw v hv).1.sl hp
     have h3:=(hrw v hv).2;have h4:(bH ms ns v).length=4+(mK ms ns v).length:=by
      unfold bH;show(("bar " : JA).cps++(mK ms ns v).cps).size=_;rw[MA]; rfl
     omega) #v[]
  rw[JL,JL,Jl]at h1;have h2:(gU ms ns bs vs).length<=(vs.length+1+1)*1001:=h1;omega
 show am L.rrule rfl rfl λQ' hR=>?_
 generalize gU ms ns bs vs=tx at hsp hlen ⊢;change wZ _ _ eC [ba (.str tx),gV,gV,gV] S Q';dsimp only[eC];nofun
 dsimp only[wS,wT,wE,wA,wV,wG];show ab (show oA S (.str tx) "str" = ba true from rfl) ?_
 show ah (Q0:=Q') (λz=>by cases z) (λ_ Q2 hn2 _=>a9 (hn2 _ _ (hK _ _ ?_)))
 clear hn2 hK K;nofun
 left;show#[rfl,fD #v[] ∅ hsp (hK _ _ ?_)]
 clear hK K;rw[JS,JS,KL];have e1:(S++[O.lst (W.str (aH ms)::W.str (bm ns bs)::vs.map (W.str∘bH ms ns))])[S.length]?=ba (.lst (W.str (aH ms)::W.str (bm ns bs)::vs.map (W.str∘bH ms ns))):=ac;have k1:Ka S (S++[O.lst (W.str (aH ms)::W.str (bm ns bs)::vs.map (W.str∘bH ms ns))]):=.push;generalize S++[O.lst (W.str (aH ms)::W.str (bm ns bs)::vs.map (W.str∘bH ms ns))]=S1 at e1 k1 ⊢;generalize S.length=t at e1 ⊢;nofun
 left;show d3 e1 #v[] rfl (zd (d:=d+2) L ∅ hgm λS2 k2=>hK _ _ ?_)
 clear hK K;nofun
 dsimp only[wS,wT,wE,wA,wV,wG];show gm (k2.get _ _ e1) (ab dX ?_);have hne:((((W.str (aH ms)::W.str (bm ns bs)::vs.map (W.str∘bH ms ns)).length:Jr):JG)==1)=false:=by
  rw[LO,JL,JL]; omega
 rw[hne];dsimp only[wB];show ah (Q0:=Q') (λz=>by cases z) (λ_ Q2 hn2 _=>a9 (hn2 _ _ (hK _ _ ?_)))
 clear hn2 hK K;nofun
 left;show d3 (k2.get _ _ e1) #v[] rfl (BM (d:=d+4) L wl wo λS3 k3=>hK _ _ ?_)
 clear hK K;rw[BC hb hnl];have zl:(Jx ar ns bs).length=bs.length:=by rw[KA,hnl]; omega
 have mml:(ms.map W.str).length=a:=by rw[Jl]; exact hml
 nofun
 dsimp only[wS,wT,wE,wA,wV,wG];show qv (d:=d+4) L.look mml zl a1 a3 n1 n3 hs.most ?_;show ab (show cQ S3 (.bl true)=ba true from rfl) #[λz=>(by cases z),λ_=>?_]
 dsimp only;show ic (d:=d+3) L.look hnl (by rw[Jw]; omega) hg λS4 k4=>?_
 show ab (show cQ S4 (.bl true)=ba true from rfl) ?_
 show ah (Q0:=Q') (λz=>by cases z) (λ_ Q2 hn2 _=>a9 (hn2 _ _ (hK _ _ ?_)))
 clear hn2 hK K;show st ?_;left;show ag #v[] rfl (ag #v[] rfl ?_)
 show BN (d:=d) hfu L hb hrw ∅ nd a3 n3 (k4.get _ _ (k3.get _ _ (k2.get _ _ e1))) λq S5 e5 k5=>?_
 show rD (us:=vs.map (aL bs)) (by simp only[dj,ap e5]) (by rw[Jl]; exact hl) (λf hf=>?_) (dt ac (hR _ _ (k _ (k1.trans (k2.trans (k3.trans (k4.trans (k5.trans .push))))))))
 obtain⟨v,hv,rfl⟩:=JI.mp hf;intro z;have:=(la (bs:=bs) (u:=v) v.length (Jy _)).len;rw[show mF bs v v.length=aL bs v from rfl,z,(h v hv).2]at this
 cases this
end
abbrev cH:Ss:=
 #v[.set 2 (.bi .list #v[.v 1]),.set 3 (.lst .nil),.whl (.cmp .ne (.v 2) (.lst .nil)) #v[.ex (.me .append (.v 3) #v[.me .pop (.v 2) #v[.own "_law_pick" 2 #v[.v 0,.bi .len #v[.v 2]]]])],.ret (.v 3)]
abbrev ci:Ss:=
 #v[.set 1 (.lst .nil),.loop (.nm 2) (.rng #v[.bi .len #v[.ix (.v 0) (.c (.int 1))]]) #v[.asg [3,4] (.ix (.ix (.v 0) (.c (.int 1))) (.v 2)),.ite (.cmp .eq (.v 4) (.v 2)) #v[.ex (.me .append (.v 1) #v[.v 3])] #v[.ite (.cmp .gt (.v 4) (.v 2)) #v[.ex (.me .append (.v 1) #v[.op .add (.op .add (.v 3) (.c (.str "/"))) (.ix (.ix (.ix (.v 0) (.c (.int 1))) (.v 4)) (.c (.int 0)))])] .nil]],.set 5 (.lst #v[.op .add (.c (.str "marks ")) (.me .join (.c (.str " ")) #v[.ix (.v 0) (.c (.int 0))]),.op .add (.c (.str "ways ")) (.me .join (.c (.str " ")) #v[.v 1])]),.ret (.me .join (.c (.str "\n")) #v[.op .add (.v 5) (.comp (.op .add (.c (.str "bar ")) (.own "_law_world_text" 2 #v[.v 2,.v 1])) (.nm 1) (.seq (.ix (.v 0) (.c (.int 2)))) .nil [gV,gV,ba 0])])]
abbrev bG:Ss:=
 #v[.set 2 (.me .split (.own "_law_rule_text" 1 #v[.tup #v[.ix (.v 1) (.c (.int 0)),.ix (.v 1) (.c (.int 1)),.tup .nil]]) #v[.c (.str "\n")]),.loop (.nm 3) (.seq (.own "_law_shuffled" 2 #v[.v 0,.ix (.v 1) (.c (.int 2))])) #v[.ex (.me .append (.v 2) #v[.op .add (.c (.str "bar ")) (.own "_law_world_text" 2 #v[.v 1,.own "_law_part" 3 #v[.v 1,.v 3,.ix (.own "_law_turns" 0 .nil) (.own "_law_pick" 2 #v[.v 0,.c (.int 6)])]])])],.ret (.me .join (.c (.str "\n")) #v[.v 2])]
abbrev i6:Ss:=
 #v[.set 2 (.own "_law_rule_text" 1 #v[.v 1]),.ite (.or (.not (.own "_law_alike" 2 #v[.own "show_rule" 1 #v[.v 1],.v 2])) (.not (.own "_law_alike" 2 #v[.own "read_rule" 1 #v[.v 2],.v 1]))) #v[.ret (.c (.bl false))] .nil,.set 3 (.own "read_rule" 1 #v[.own "_law_turned_text" 2 #v[.v 0,.v 1]]),.ret (.and (.own "_law_alike" 2 #v[.v 3,.v 1]) (.cmp .is (.own "look_rule" 1 #v[.v 3]) (.c (.bl true))))]
abbrev jW:Ss:=
 #v[.set 1 (.own "_law_flow" 1 #v[.v 0]),.set 2 (.own "_law_rule" 1 #v[.v 1]),.set 3 (.own "_law_rule" 1 #v[.v 1]),.ret (.and (.own "_law_holds" 2 #v[.v 1,.v 2]) (.and (.own "_law_holds" 2 #v[.v 1,.v 3]) (.own "_law_holds" 2 #v[.v 1,.v 2])))]
structure Lw06 (defs:Jj (JA×Df)):Prop where
 gen:Gen defs
 rts:Rts defs
 words:Is defs ("way_words" : JA) 1 4 ev
 showr:Is defs ("show_rule" : JA) 1 2 ey
 flow:Is defs ("_law_flow" : JA) 1 1 dY
 unlay:Is defs ("_law_unlaying_rule" : JA) 1 10 aP
 rule:Is defs ("_law_rule" : JA) 1 2 dZ
 alike:Is defs ("_law_alike" : JA) 2 2 bL
 shuf:Is defs ("_law_shuffled" : JA) 2 4 cH
 rtext:Is defs ("_law_rule_text" : JA) 1 6 ci
 ttext:Is defs ("_law_turned_text" : JA) 2 4 bG
 holds:Is defs ("_law_holds" : JA) 2 4 i6
 law:Is defs ("law" : JA) 1 4 jW
abbrev fW (ns:Jj JA)(bs:Jj JG)(k:Jr):Jj JA:=if bs.getD k 0=(k:JG)then[ns.getD k ""]else if bs.getD k 0 > (k:JG)then[ns.getD k "" ++ ("/" : JA)++ns.getD (bs.getD k 0).toNat ""]else[]
def Cy {ns:Jj JA}{bs:Jj JG}(hb:GoodB bs):(Kb bs.length).flatMap (fW ns bs)=(lC ns bs).map WY.s:=by
 rcases hb with rfl|rfl|rfl|rfl|rfl|rfl <;> rfl
def ER {ns:Jj JA}{bs:Jj JG}{k:Jr}:(fW ns bs k).length<=1:=by
 unfold fW;split
 ·exact Jy 1
 ·split
  ·exact Jy 1
  ·exact KW _
def ou {ns:Jj JA}{bs:Jj JG}:∀i,((Kb i).flatMap (fW ns bs)).length<=i
 | 0=>Jy _
 | i+1=>by
  rw[Mu,NG,Jw];have h1:=ou (ns:=ns) (bs:=bs) i;have h2:=ER (ns:=ns) (bs:=bs) (k:=i);simp only[Nc,Ot,Kx];omega
def BO {S:aa}{x:JA}{zs:Jj JA}{Q:QW}(hl:(zs.map (·.length)).sum+zs.length*x.length<=16777216)(q:Q (.str (x.join zs),S)):wO (Me.join.fn (.str x) [.tup (zs.map W.str)] S) Q:=by
 show ab (a:=(.str (x.join zs),S)) ?_ q;dsimp only[Me.fn,lN,cq];simp only[hZ];rw[JO hl];unfold Qo;rw[Ng]
def qy {P:Jj JA}{x:JA}{k m n:Jr}(h:∀z∈P,z.length<=k)(hx:x.length<=m)(hl:P.length<=n)(hn:n*(k+m)<=16777216):(P.map (·.length)).sum+P.length*x.length<=16777216:=by
 have h1:=hX h;have h2:P.length*x.length<=P.length*m:=Pw _ hx;have h3:P.length*(k+m)<=n*(k+m):=Nv _ hl;rw[QZ]at h3;omega
section
variable{defs:Jj (JA×Df)}{fuel d:Jr}{S:aa}{Q:QW}{r:Jr}
structure RK (a:Jr)(bs:Jj JG)(ms ns:Jj JA):Prop where
 size:SizeOk a bs
 ml:ms.length=a
 nl:ns.length=bs.length
 nm:GoodN ms ns
def RK.name {a:Jr}{bs:Jj JG}{ms ns:Jj JA}(h:RK a bs ms ns){k:Jr}(hk:k < ns.length):(ns.getD k ("" : JA)).length<=8:=by
 rw[cf];exact(h.nm.name _ (JY _ (JD (au (d:=("" : JA)) hk)))).2.1
def RK.wy {a:Jr}{bs:Jj JG}{ms ns:Jj JA}(h:RK a bs ms ns):(∀x∈lC ns bs,x.ok)/\(lC ns bs).length<=3:=Cv h.size.good h.nl λy hy=>h.nm.name y (JY _ hy)
def ze (L:Lw06 defs){b0:W}{a:Jr}{bs:Jj JG}{ms ns:Jj JA}(h:RK a bs ms ns)(k:∀q S',S'[q]?=ba (.lst (((lC ns bs).map WY.s).map W.str))->Ka S S'->Q (.ref q,S')) :
  wO (aE (al defs fuel (d+1)) "way_words" 1 [.tup [.tup (ms.map W.str),.tup (Jx ar ns bs),b0]] S) Q:=by
 have hb:=h.size.good;obtain⟨n1,n3⟩:=h.size.n3;have hnl:=h.nl;show am L.words rfl rfl λQ' hR=>?_
 change wZ _ _ ev [ba (.tup [.tup (ms.map W.str),.tup (Jx ar ns bs),b0]),gV,gV,gV] S Q';dsimp only[ev];show st ?_;dsimp only[wS,wE,wA,JE];nofun
 show EO (Jx ar ns bs) (λi Z S'=>(∃x2 x3,Z=[ba (.tup [.tup (ms.map W.str),.tup (Jx ar ns bs),b0]),ba (.ref S.length),x2,x3])/\S'[S.length]?=ba (.lst (((Kb i).flatMap (fW ns bs)).map W.str))/\Ka S S') rfl rfl (by dsimp only[wE,wV,wG]; exact ag #v[] rfl #[rfl,#[_,_,rfl],ac,.push]) ?_ ?_
 ·rintro i w Z S1 hw ⟨⟨x2,x3,rfl⟩,e1,k1⟩;have hi:i < bs.length:=by have:=(JK.mp hw).1; rw[KA]at this; omega
  obtain⟨b,hbi,hb2,_⟩:=lm hb i hi;have ebi:bs.getD i 0=(b:JG):=by rw[KI,hbi]; rfl
  have ew:w=ar (ns.getD i ("" : JA)) (b:JG):=by
   rw[Lz,au (d:=("" : JA)) (show i < ns.length by omega),hbi]at hw
   exact(Kw hw).symm
  subst ew;obtain⟨b',hzb⟩:=rL (k:=b) hnl ∅
  have fl:=ou (ns:=ns) (bs:=bs) i;have ef:((Kb (i+1)).flatMap (fW ns bs)).map W.str=((Kb i).flatMap (fW ns bs)).map W.str++(fW ns bs i).map W.str:=by
   rw[Mu,NG,J0];simp only[Nc,Ot,Kx]
  show ab (show gA (.tp [2,3]) (W.tup [.int (i:Jr),ar (ns.getD i ("" : JA)) (b:JG)]) [ba (.tup [.tup (ms.map W.str),.tup (Jx ar ns bs),b0]),ba (.ref S.length),x2,x3] S1=ba ([ba (.tup [.tup (ms.map W.str),.tup (Jx ar ns bs),b0]),ba (.ref S.length),ba (.int (i:Jr)),ba (ar (ns.getD i ("" : JA)) (b:JG))],S1)from rfl) λQ2 hn2 _=>?_
  clear hK;nofun
  dsimp only[wS,wT,wE,wA,wV,wG,ar];show ag #v[] rfl (ab dX ?_)
  dsimp only[wB];have gt:∀S2:aa,wZ (al defs fuel d) fuel #v[.ite (.cmp .gt (.ix (.v 3) (.c (.int 1))) (.v 2)) #v[.ex (.me .append (.v 1) #v[.op .add (.op .add (.ix (.v 3) (.c (.int 0))) (.c (.str "/"))) (.ix (.ix (.ix (.v 0) (.c (.int 1))) (.ix (.v 3) (.c (.int 1)))) (.c (.int 0)))])] .nil] [ba (.tup [.tup (ms.map W.str),.tup (Jx ar ns bs),b0]),ba (.ref S.length),ba (.int (i:Jr)),ba (.tup [.str (ns.getD i ("" : JA)),.int (b:JG)])] S2 Q2\/Pp:=λ_=>.inr trivial
  clear gt
  by_cases he:(b:JG)=(i:JG)
  ·have hfw:fW ns bs i=[ns.getD i ("" : JA)]:=by unfold fW; rw[ebi,JO he]
   show ah (Q0:=Q2) (λ_ Q3 hn3 _=>?_) (λz=>absurd z (by rw[he,J5]; decide))
   show st ?_;left;show#[bv e1,ag #v[] rfl (eR e1 (by rw[Jl]; omega) (a9 (hn3 _ _ (hK _ _ ?_))))]
   clear hn3 hK K;nofun
   dsimp only[wS,wT,wE,wA,wV,wG];show ag #v[] rfl (ab xS ?_)
   dsimp only[wB];show ah (Q0:=Q2) (λz=>absurd (J9 z) ∅) (λ_ Q3 hn3 _=>a9 (hn3 _ _ (hK _ _ (a9 (hn2 _ _ #[#[_,_,rfl],?_,k1.late (Jy _)])))))
   rw[aX e1,ef,hfw]; rfl
  ·show ah (Q0:=Q2) (λz=>absurd (eq_of_beq z) he) (λ_ Q3 hn3 _=>a9 (hn3 _ _ (hK _ _ ?_)))
   clear hn3 hK K;nofun
   dsimp only[wS,wT,wE,wA,wV,wG];show ag #v[] rfl (ab xS ?_)
   dsimp only[wB]
   by_cases hg:(b:JG) > (i:JG)
   ·have hfw:fW ns bs i=[ns.getD i ("" : JA)++("/" : JA)++ns.getD b ("" : JA)]:=by unfold fW; rw[ebi,JZ he,JO hg,JN]
    have l1:=h.name (k:=i) ∅
    have l2:=h.name (k:=b) ∅
    have l3:(ns.getD i ("" : JA)++("/" : JA)).length=(ns.getD i ("" : JA)).length+1:=by
     show((ns.getD i ("" : JA)).cps++("/" : JA).cps).size=_;rw[MA]; rfl
    show ah (Q0:=Q2) (λ_ Q3 hn3 _=>?_) (λz=>absurd hg (Kv z))
    show st ?_;left;show#[bv e1,ag #v[] rfl (ab (eL (fw (by have l0:("/" : JA).length=1:=#v[]; omega))) ?_)]
    dsimp only;show ag #v[] rfl (ag #v[] rfl (ag (JU b) (by rw[JN]; exact hzb) (ag #v[] rfl (ab (eL (fw ∅)) ?_))))
    dsimp only;show eR e1 (by rw[Jl]; omega) (a9 (hn3 _ _ (hK _ _ (a9 (hn2 _ _ #[#[_,_,rfl],?_,k1.late (Jy _)])))))
    rw[aX e1,ef,hfw]; rfl
   ·have hfw:fW ns bs i=[]:=by unfold fW; rw[ebi,JZ he,JZ hg]
    show ah (Q0:=Q2) (λz=>absurd (J9 z) hg) (λ_ Q3 hn3 _=>a9 (hn3 _ _ (hK _ _ (a9 (hn2 _ _ #[#[_,_,rfl],?_,k1])))))
    rw[ef,hfw,Ox,Kx]; exact e1
 ·rintro Z S1 ⟨⟨x2,x3,rfl⟩,e1,k1⟩;rw[KA,hnl,Oz,Cy hb]at e1;show hK _ _ (st ?_);dsimp only[wS,wE,wV,wG];exact hR _ _ (k _ _ e1 k1)
end
def zf {ms:Jj JA}(h:ms≠[]):("marks " : JA)++(" " : JA).join ms=aH ms:=by
 unfold aH;rw[PJ (" " : JA) ("marks" : JA) ms h];rfl
def BP {ns:Jj JA}{bs:Jj JG}(h:(lC ns bs).map WY.s≠[]):("ways " : JA)++(" " : JA).join ((lC ns bs).map WY.s)=bm ns bs:=by
 unfold bm;rw[PJ (" " : JA) ("ways" : JA) _ h];rfl
def G4 {ns:Jj JA}{bs:Jj JG}:(lC ns bs).map WY.s≠[]:=by
 unfold lC;split
 ·simp
 ·split
  ·simp
  ·split
   ·simp
   ·split
    ·simp
    ·split <;> simp
def G5 {S:aa}{i j:Jr}{xs:Jj W}(h1:S[i]?=ba (.lst xs))(h2:S[j]?=ba (.lst [])):bO .ne (.ref i) (.ref j) S=ba (.bl (!xs.isEmpty),S):=by
 show((i9 S (19+1) (.ref i) (.ref j)).map (!·)).map _=_
 (dsimp only[i9]; simp only[b9 h1,b9 h2])
 cases xs with
 | nil=>rfl
 | cons x xs=>rfl
def tP {α β:Type}{f:α->β}:∀(l:Jj α) (i:Jr),(l.map f).eraseIdx i=(l.eraseIdx i).map f
 | [],_=>rfl
 | _::_,0=>rfl
 | x::l,i+1=>congrArg (f x :: ·) (tP l i)
def lq {α:Type}:∀ {l:Jj α} {i:Jr} (h:i < l.length),l.Perm (l[i]::l.eraseIdx i)
 | [],_,h=>nomatch h
 | x::l,0,_=>.refl _
 | x::l,i+1,h=>by
  have h':i < l.length:=by simpa using h
  show(x::l).Perm (l[i]::x::l.eraseIdx i);exact(Tc x (lq h')).trans (.swap ..)
section
variable{defs:Jj (JA×Df)}{fuel d:Jr}{S:aa}{Q:QW}{r:Jr}
def RK.rw {a:Jr}{bs:Jj JG}{ms ns:Jj JA}{u:Wd}(h:RK a bs ms ns)(hu:GoodW a bs.length u/\u.length=3):RW a bs ms ns u:=#[h.ml,h.nl,h.nm,hu.1,∅]
def RK.mlen {a:Jr}{bs:Jj JG}{ms ns:Jj JA}(h:RK a bs ms ns):∀z∈("marks" : JA)::ms,z.length<=18:=λz hz=>by
 rcases JC.mp hz with rfl|hz
 ·decide
 ·rw[cf];have:=(h.nm.name z (Ky _ hz)).2.1;omega
def RK.wlen {a:Jr}{bs:Jj JG}{ms ns:Jj JA}(h:RK a bs ms ns):∀z∈("ways" : JA)::(lC ns bs).map WY.s,z.length<=18:=λz hz=>by
 rcases JC.mp hz with rfl|hz
 ·decide
 ·obtain⟨x,h1,rfl⟩:=JI.mp hz;exact oq (h.wy.1 x h1)
def RK.rows {a:Jr}{bs:Jj JG}{ms ns:Jj JA}{us:Jj Wd}(h:RK a bs ms ns)(hu:∀u∈us,GoodW a bs.length u/\u.length=3):∀z∈aH ms::bm ns bs::us.map (bH ms ns),z.length<=1000:=λz hz'=>by
 have a3:=h.size.a3;have hml:=h.ml;rcases JC.mp hz' with rfl|hz'
 ·have h2:(aH ms).length<=(ms.length+1)*19:=bM (y:=" ") (m:=1) h.mlen #v[]
  omega
 ·rcases JC.mp hz' with rfl|hz'
  ·have h2:=bM (y:=" ") (m:=1) h.wlen #v[]
   rw[JL,Jl]at h2;have h3:(bm ns bs).length<=((lC ns bs).length+1)*19:=h2;have:=h.wy.2;omega
  ·obtain⟨v,hv,rfl⟩:=JI.mp hz';have h1:=fA (ms:=ms) (ns:=ns) (u:=v) (k:=216) λp hp=>(h.rw (hu v hv)).sl hp
   have h3:=(hu v hv).2;have h4:(bH ms ns v).length=4+(mK ms ns v).length:=by
    unfold bH;show(("bar " : JA).cps++(mK ms ns v).cps).size=_;rw[MA]; rfl
   omega
def RK.sum {a:Jr}{bs:Jj JG}{ms ns:Jj JA}{us:Jj Wd}(h:RK a bs ms ns)(hu:∀u∈us,GoodW a bs.length u/\u.length=3)(hl:us.length<=100):((aH ms::bm ns bs::us.map (bH ms ns)).map (·.length)).sum+(aH ms::bm ns bs::us.map (bH ms ns)).length*("\n" : JA).length<=16777216:=
 qy (h.rows hu) (m:=1) #v[] (n:=200) (by rw[JL,JL,Jl]; omega) #v[]
def BQ (L:Lw06 defs){a:Jr}{bs:Jj JG}{ms ns:Jj JA}{us:Jj Wd}(h:RK a bs ms ns)(hu:∀u∈us,GoodW a bs.length u/\u.length=3)(hl:us.length<=100)(k:∀S',Ka S S'->Q (.str (gU ms ns bs us),S')) :
  wO (aE (al defs fuel (d+3)) "show_rule" 1 [aS ms ns bs us] S) Q:=by
 have a3:=h.size.a3;have hml:=h.ml;have wl:=h.wy.2;show am L.showr rfl rfl λQ' hR=>?_
 change wZ _ _ ey [ba (aS ms ns bs us),gV] S Q';dsimp only[ey];nofun
 dsimp only[wS,wE,wA,wV,wG,JE,aS];show#[rfl,ag #v[] rfl ?_]
 show ab (show Bi.list.fn [.tup (ms.map W.str)] (S++[.lst [.str "marks"]])=ba (.ref (S++[O.lst [.str "marks"]]).length,S++[.lst [.str "marks"]]++[.lst (ms.map W.str)])from rfl) ?_
 show ab (gh (aj ac) ac (fw (by rw[Jw,Jl]; show 1+_<=_; omega))) ?_
 show fB (zs:=("marks" : JA)::ms) ac (qy h.mlen (m:=1) #v[] (n:=10) (by rw[JL]; omega) #v[]) ?_
 show#[rfl,?_];show ze (d:=d+1) L h λq S1 e1 k1=>?_
 show ab (gh (k1.get _ _ ac) e1 (fw (by rw[Jw,Jl,Jl]; show 1+_<=_; omega))) ?_
 show fB (zs:=("ways" : JA)::(lC ns bs).map WY.s) ac (qy h.wlen (m:=1) #v[] (n:=10) (by rw[JL,Jl]; omega) #v[]) (hK _ _ ?_)
 clear hK K;have k2:Ka S (S1++[O.lst ([W.str "ways"]++((lC ns bs).map WY.s).map W.str)]):=(Ka.push.trans (Ka.push.trans (Ka.push.trans .push))).trans (k1.trans .push);generalize S1++[O.lst ([W.str "ways"]++((lC ns bs).map WY.s).map W.str)]=S2 at k2 ⊢;show st ?_;left;show#[rfl,?_];show jv us aK (λ_=>true) (λu=>W.str (bH ms ns u)) [ba (.tup [.tup (ms.map W.str),.tup (Jx ar ns bs),.tup (us.map aK)])] rfl rfl rfl rfl ∅ (by dsimp only[wE,wV,wG]; exact ag #v[] rfl #[rfl,.refl]) (λu hum S' _=>?_) λS3 k3=>?_
 ·dsimp only[gM,wC,wE,wA,wV,wG];show#[λ_=>EB (d:=d) L.rts.txs (h.rw (hu u hum)) λS4 k4=>?_,λz=>by cases z]
  have hln:=h.rows hu (bH ms ns u) (by simp only[JC]; exact .inr (.inr (Px hum)))
  have h1:=fA (ms:=ms) (ns:=ns) (u:=u) (k:=216) λp hp=>(h.rw (hu u hum)).sl hp
  have h3:=(hu u hum).2;have h4:("bar " : JA).length=4:=by decide
  exact ab (eL (fw ∅)) #[rfl,rfl,k4]
 ·rw[bZ];show ab (gh (aj (k3.get _ _ ac)) ac (fw (by rw[Jw,Jl]; show 2+_<=_; omega))) ?_
  show fB (zs:=aH ms::bm ns bs::us.map (bH ms ns)) ?_ (h.sum hu hl) (hR _ _ (k _ (k2.trans (Ka.push.trans (k3.trans (Ka.push.trans .push))))));rw[JS,JS,KL];exact ac
def ES (hfu:200<=fuel)(L:Lw06 defs){us:Jj Wd}(hl:us.length<=100)(hf:Fl S r)(k:∀(q:Jr) (vs:Jj Wd) (S':aa),S'[q]?=ba (.lst (vs.map aK))->vs.Perm us->Fl S' r->q≠r->Kp r S S'->Q (.ref q,S')) :
  wO (aE (al defs fuel (d+2)) "_law_shuffled" 2 [.ref r,.tup (us.map aK)] S) Q:=by
 have G:=L.gen;have hrt:=hf.lt;show am L.shuf rfl rfl λQ' hR=>?_
 change wZ _ _ cH [ba (.ref r),ba (.tup (us.map aK)),gV,gV] S Q';dsimp only[cH];nofun
 left;show ab (show Bi.list.fn [.tup (us.map aK)] S=ba (.ref S.length,S++[.lst (us.map aK)])from rfl) (hK _ _ ?_)
 clear hK K;show st ?_;dsimp only[wS,wE,wA,JE];nofun
 have hS:(S++[O.lst (us.map aK)]).length=S.length+1:=by simp
 show xY (λm Z S'=>Z=[ba (.ref r),ba (.tup (us.map aK)),ba (.ref S.length),ba (.ref (S.length+1))]/\∃ls ps:Jj Wd,S'[S.length]?=ba (.lst (ls.map aK))/\S'[S.length+1]?=ba (.lst (ps.map aK))/\(ps++ls).Perm us/\ls.length=m/\Fl S' r/\Kp r S S') us.length rfl rfl ∅ #[by rw[hS],us,[],aj ac,by rw[<- hS]; exact ac,.refl _,rfl,(hf.ka .push).ka .push,Kp.push.trans .push] ?_
 rintro m Z S2 ⟨rfl,ls,ps,e2,e3,pm,hm,f2,k2⟩;dsimp only[wT,wE,wA,wV,wG];show ab (G5 (aj e2) ac) ?_;dsimp only[wB];show#[λhne=>?_,λhe=>?_]
 ·have hpos:0 < ls.length:=by
   cases ls with
   | nil=>cases hne
   | cons x xs=>exact R1 _
  show#[m - 1,∅,λQ2 hn _=>?_]
  clear hK k;have e2:=aj (u:=O.lst []) e2;have e3:=aj (u:=O.lst []) e3;have f2:=f2.ka (.push (o:=O.lst []));have k2:=k2.trans (.push (o:=O.lst []));generalize S2++[O.lst []]=S2 at e2 e3 f2 k2 ⊢;have hll:ls.length<=100:=by have:=pm.length_eq; rw[Jw]at this; omega
  have hpl:ps.length<=100:=by have:=pm.length_eq; rw[Jw]at this; omega
  show st ?_;left;show#[bv e3,bv e2,gm e2 ?_];rw[Jl];show aV (d:=d) G.pick f2 ∅ ∅ λv S3 v0 v1 f3 k3=>?_
  have e2':=k3.get _ _ ∅ e2
  have e3':=k3.get _ _ ∅ e3
  have hv:v.toNat < ls.length:=∅
  show GR e2' v0 (by rw[Jv,JB hv]; rfl) (by rw[Jl]; omega) ?_
  have e3s:(S3.set S.length (.lst ((ls.map aK).eraseIdx v.toNat)))[S.length+1]?=ba (.lst (ps.map aK)):=by rw[bj ∅]; exact e3'
  show eR e3s (by rw[Jl]; omega) (a9 (hn _ _ #[rfl,ls.eraseIdx v.toNat,ps++[ls[v.toNat]],?_,?_,?_,?_,(f3.own ∅).own ∅,((k2.trans k3).late (Jy _)).late ∅]))
  ·rw[bj ∅,aX e2']
   congr 2;exact tP ls v.toNat
  ·rw[aX e3s,J0]; rfl
  ·show List.Perm.trans ?_ pm;rw[KS];show R5 _ ?_;exact(lq hv).symm
  ·rw[List.length_eraseIdx_of_lt hv]; omega
 ·have h0:ls=[]:=by
   cases ls with
   | nil=>rfl
   | cons x xs=>cases he
  subst h0;rw[Kx]at pm;show hK _ _ (st ?_);dsimp only[wS,wE,wV,wG];exact hR _ _ (k _ ps _ (aj e3) pm (f2.ka .push) ∅ (k2.trans .push))
def tQ (L:Lw06 defs){a:Jr}{bs:Jj JG}{ms ns:Jj JA}{us:Jj Wd}(h:RK a bs ms ns)(hu:∀u∈us,GoodW a bs.length u/\u.length=3)(hl:us.length<=100)(k:∀S',Ka S S'->Q (.str (gU ms ns bs us),S')) :
  wO (aE (al defs fuel (d+2)) "_law_rule_text" 1 [.tup [.tup (ms.map W.str),.tup (Jx ar ns bs),.tup (us.map aK)]] S) Q:=by
 have a3:=h.size.a3;have a1:=h.size.pos;have hml:=h.ml;have hnl:=h.nl;have wl:=h.wy.2;have hb:=h.size.good;obtain⟨n1,n3⟩:=h.size.n3;have zl:(Jx ar ns bs).length=bs.length:=by rw[KA,hnl]; omega
 show am L.rtext rfl rfl λQ' hR=>?_
 generalize hRR:W.tup [.tup (ms.map W.str),.tup (Jx ar ns bs),.tup (us.map aK)]=RR;change wZ _ _ ci [ba RR,gV,gV,gV,gV,gV] S Q';dsimp only[ci];show st ?_;dsimp only[wS,wE,wA,JE];nofun
 show iT rfl rfl ?_;dsimp only[wE,wA,wV,wG];show hRR ▸ ag #v[] rfl (bp ?_)
 rw[zl,hRR];show#[(bs.length:Jr),λi Z S'=>(∃x2 x3 x4,Z=[ba RR,ba (.ref S.length),x2,x3,x4,gV])/\S'[S.length]?=ba (.lst (((Kb i).flatMap (fW ns bs)).map W.str))/\Ka S S',rfl,∅,#[#[_,_,_,rfl],ac,.push],?_,?_]
 ·rintro i Z S1 hi ⟨⟨x2,x3,x4,rfl⟩,e1,k1⟩ Q2 hn2 _;have hi:i < bs.length:=∅
  obtain⟨b,hbi,hb2,_⟩:=lm hb i hi;have ebi:bs.getD i 0=(b:JG):=by rw[KI,hbi]; rfl
  have hwi:(Jx ar ns bs)[i]?=ba (ar (ns.getD i ("" : JA)) (b:JG)):=by
   rw[Lz,au (d:=("" : JA)) (show i < ns.length by omega),hbi]
  obtain⟨b',hzb⟩:=rL (k:=b) hnl ∅
  have fl:=ou (ns:=ns) (bs:=bs) i;have ef:((Kb (i+1)).flatMap (fW ns bs)).map W.str=((Kb i).flatMap (fW ns bs)).map W.str++(fW ns bs i).map W.str:=by
   rw[Mu,NG,J0];simp only[Nc,Ot,Kx]
  clear hK;nofun
  dsimp only[wS,wE,wV,wG,JE];show hRR ▸ ag #v[] rfl (ag (JU i) (by rw[JN]; exact hwi) ?_)
  dsimp only[ar,wU];rw[hRR];show ab (show dR [3,4] [.str (ns.getD i ("" : JA)),.int (b:JG)] [ba RR,ba (.ref S.length),ba (.int (i:Jr)),x3,x4,gV]=ba [ba RR,ba (.ref S.length),ba (.int (i:Jr)),ba (.str (ns.getD i ("" : JA))),ba (.int (b:JG)),gV]from rfl) (hK _ _ ?_)
  clear hK K;nofun
  dsimp only[wS,wT,wE,wA,wV,wG];show ab dX ?_;dsimp only[wB]
  by_cases he:(b:JG)=(i:JG)
  ·have hfw:fW ns bs i=[ns.getD i ("" : JA)]:=by unfold fW; rw[ebi,JO he]
   show ah (Q0:=Q2) (λ_ Q3 hn3 _=>?_) (λz=>absurd z (by rw[he,J5]; decide))
   show st ?_;left;show#[bv e1,eR e1 (by rw[Jl]; omega) (a9 (hn3 _ _ (hK _ _ (a9 (hn2 _ _ #[#[_,_,_,rfl],?_,k1.late (Jy _)])))))]
   rw[aX e1,ef,hfw]; rfl
  ·show ah (Q0:=Q2) (λz=>absurd (eq_of_beq z) he) (λ_ Q3 hn3 _=>?_)
   show aA λK2 hK2=>?_
   dsimp only[wS,wT,wE,wA,wV,wG];show ab xS ?_;dsimp only[wB]
   by_cases hg:(b:JG) > (i:JG)
   ·have hfw:fW ns bs i=[ns.getD i ("" : JA)++("/" : JA)++ns.getD b ("" : JA)]:=by unfold fW; rw[ebi,JZ he,JO hg,JN]
    have l1:=h.name (k:=i) ∅
    have l2:=h.name (k:=b) ∅
    have l0:("/" : JA).length=1:=by decide
    have l3:(ns.getD i ("" : JA)++("/" : JA)).length=(ns.getD i ("" : JA)).length+1:=by
     show((ns.getD i ("" : JA)).cps++("/" : JA).cps).size=_;rw[MA]; rfl
    show ah (Q0:=Q3) (λ_ Q4 hn4 _=>?_) (λz=>absurd hg (Kv z))
    show st ?_;left;show#[bv e1,ab (eL (fw ∅)) ?_]
    dsimp only;show hRR ▸ ag #v[] rfl (ag (JU b) (by rw[JN]; exact hzb) (ag #v[] rfl (ab (eL (fw ∅)) ?_)))
    dsimp only;show eR e1 (by rw[Jl]; omega) (a9 (hn4 _ _ (hK2 _ _ (a9 (hn3 _ _ (hK _ _ (a9 (hn2 _ _ #[#[_,_,_,by rw[hRR]],?_,k1.late (Jy _)]))))))))
    rw[aX e1,ef,hfw]; rfl
   ·have hfw:fW ns bs i=[]:=by unfold fW; rw[ebi,JZ he,JZ hg]
    show ah (Q0:=Q3) (λz=>absurd (J9 z) hg) (λ_ Q4 hn4 _=>a9 (hn4 _ _ (hK2 _ _ (a9 (hn3 _ _ (hK _ _ (a9 (hn2 _ _ #[#[_,_,_,rfl],?_,k1]))))))))
    rw[ef,hfw,Ox,Kx]; exact e1
 ·rintro Z S1 ⟨⟨x2,x3,x4,rfl⟩,e1,k1⟩;rw[JN,Cy hb]at e1;show hK _ _ ?_;clear hK K;have msl:∀z∈ms,z.length<=18:=λz hz=>h.mlen z (Kd _ hz)
  have wsl:∀z∈(lC ns bs).map WY.s,z.length<=18:=λz hz=>h.wlen z (Kd _ hz)
  have j1:=bM (y:=" ") (m:=1) msl #v[]
  have j2:=bM (y:=" ") (m:=1) wsl #v[]
  rw[Jl]at j2;have l1:("marks " : JA).length=6:=by decide
  have l2:("ways " : JA).length=5:=by decide
  have hms:ms≠[]:=λz=>by rw[z]at hml; simp at hml; omega
  nofun
  left;show#[rfl,hRR ▸ ag #v[] rfl ?_]
  show BO (qy msl (m:=1) #v[] (n:=10) ∅ #v[]) (ab (eL (fw ∅)) ?_)
  show#[rfl,fB e1 (qy wsl (m:=1) #v[] (n:=10) (by rw[Jl]; omega) #v[]) (ab (eL (fw ∅)) (hK _ _ ?_))]
  rw[zf hms,BP G4];clear hK K;have e2:(S1++[O.lst [W.str (aH ms),W.str (bm ns bs)]])[S1.length]?=ba (.lst [W.str (aH ms),W.str (bm ns bs)]):=ac;have k2:Ka S (S1++[O.lst [W.str (aH ms),W.str (bm ns bs)]]):=k1.trans .push;generalize S1++[O.lst [W.str (aH ms),W.str (bm ns bs)]]=S2 at e2 k2 ⊢;generalize S1.length=t at e2 ⊢;show st ?_;left;show#[rfl,?_];show jv us aK (λ_=>true) (λu=>W.str (bH ms ns u)) [ba RR] rfl rfl rfl (by rw[hRR]; rfl) ∅ (by dsimp only[wE,wV,wG]; exact ag #v[] rfl #[rfl,.refl]) (λu hum S' _=>?_) λS3 k3=>?_
  ·dsimp only[gM,wC,wE,wA,wV,wG];subst hRR;show#[λ_=>tK (d:=d) L.rts.txs (h.rw (hu u hum)) λS4 k4=>?_,λz=>by cases z]
   have h1:=fA (ms:=ms) (ns:=ns) (u:=u) (k:=216) λp hp=>(h.rw (hu u hum)).sl hp
   have h3:=(hu u hum).2;have h4:("bar " : JA).length=4:=by decide
   exact ab (eL (fw ∅)) #[rfl,rfl,k4]
  ·rw[bZ];show ab (gh (aj (k3.get _ _ e2)) ac (fw (by rw[Jw,Jl]; show 2+_<=_; omega))) ?_
   show fB (zs:=aH ms::bm ns bs::us.map (bH ms ns)) ?_ (h.sum hu hl) (hR _ _ (k _ (k2.trans (k3.trans (Ka.push.trans .push)))));rw[JS,JS,KL];exact ac
def BR (hfu:200<=fuel)(L:Lw06 defs){a:Jr}{bs:Jj JG}{ms ns:Jj JA}{us:Jj Wd}(h:RK a bs ms ns)(hu:∀u∈us,GoodW a bs.length u/\u.length=3/\aL bs u=u)(hl:us.length<=100)(hf:Fl S r)(k:∀(ws:Jj Wd) S',(∀w∈ws,GoodW a bs.length w/\w.length=3)->(ws.map (aL bs)).Perm us->Fl S' r->Q (.str (gU ms ns bs ws),S')) :
  wO (aE (al defs fuel (d+3)) "_law_turned_text" 2 [.ref r,.tup [.tup (ms.map W.str),.tup (Jx ar ns bs),.tup (us.map aK)]] S) Q:=by
 have G:=L.gen;have hb:=h.size.good;have hm:∀y∈ms,Name y:=λy hy=>h.nm.name y (Ky _ hy)
 have h0:∀u∈([]:Jj Wd),GoodW a bs.length u/\u.length=3:=λ_ z=>nomatch z
 have hsp:=lh (us:=[]) hm h.wy.1 (λ_ z=>nomatch z)
 have hlen:(gU ms ns bs []).length<=10000:=by
  have h1:(gU ms ns bs []).length<=2*1001:=bM (y:="\n") (m:=1) (h.rows h0) #v[]
  omega
 show am L.ttext rfl rfl λQ' hR=>?_
 generalize hRR:W.tup [.tup (ms.map W.str),.tup (Jx ar ns bs),.tup (us.map aK)]=RR;change wZ _ _ bG [ba (.ref r),ba RR,gV,gV] S Q';dsimp only[bG];nofun
 left;show hRR ▸ ag #v[] rfl (ag #v[] rfl ?_)
 show tQ (d:=d) (us:=[]) L h h0 (KW _) λS1 k1=>?_
 replace k1:Ka S S1:=k1;show#[rfl,fD #v[] ∅ hsp (hK _ _ ?_)]
 rw[hRR];clear hK K;have f1:=(hf.ka k1).ka (.push (o:=O.lst ((aH ms::bm ns bs::([]:Jj Wd).map (bH ms ns)).map W.str)));have e1:(S1++[O.lst ((aH ms::bm ns bs::([]:Jj Wd).map (bH ms ns)).map W.str)])[S1.length]?=ba (.lst ((aH ms::bm ns bs::([]:Jj Wd).map (bH ms ns)).map W.str)):=ac;generalize S1++[O.lst ((aH ms::bm ns bs::([]:Jj Wd).map (bH ms ns)).map W.str)]=S2 at f1 e1 ⊢;have hrs:r < S1.length:=by have:=hf.lt; have:=k1.len; omega
 generalize S1.length=t at e1 hrs ⊢;have tne:t≠r:=∅
 nofun
 show d6 rfl rfl ?_;dsimp only[wE,wA,wV,wG];show hRR ▸ ag #v[] rfl ?_
 show ES (d:=d) hfu L hl f1 λq vs S3 e3 pm f3 qne k3=>?_
 rw[hRR];have hvl:vs.length<=100:=by rw[pm.length_eq]; exact hl
 show#[q,vs.map aK,λi Z S'=>(∃x3,Z=[ba (.ref r),ba RR,ba (.ref t),x3])/\(∃ws:Jj Wd,S'[t]?=ba (.lst ((aH ms::bm ns bs::ws.map (bH ms ns)).map W.str))/\(∀w∈ws,GoodW a bs.length w/\w.length=3)/\ws.map (aL bs)=vs.take i)/\S'[q]?=ba (.lst (vs.map aK))/\Fl S' r,rfl,#[#[_,rfl],#[[],k3.get _ _ tne e1,h0,rfl],e3,f3],λi Z S' h=>h.2.2.1,?_,?_]
 ·rintro i w Z S4 hw ⟨⟨x3,rfl⟩,⟨ws,e4,hws,hwt⟩,e5,f4⟩;rw[Jv,Jo]at hw;obtain⟨v,hv,rfl⟩:=hw;obtain⟨gv,v3,lv⟩:=hu v (pm.mem_iff.mp (JD hv));have hwl:ws.length<=100:=by
   have:=congrArg O3 hwt;rw[Jl,Ks]at this;omega
  show ab (show gA (.nm 3) (aK v) [ba (.ref r),ba RR,ba (.ref t),x3] S4=ba ([ba (.ref r),ba RR,ba (.ref t),ba (aK v)],S4)from rfl) λQ2 hn2 _=>?_
  clear hK;show st ?_;left;show#[bv e4,jS (d:=d+1) G ?_];show aV (d:=d+1) G.pick (f4.ka .push) #v[] #v[] λp S5 p0 p6 f5 k5=>?_
  have rl4:=f4.lt;have e6:=k5.get _ _ ∅ (ac (S:=S4) (o:=O.lst (az.map λt=>W.tup (aB t))))
  have e4':=k5.get _ _ tne (aj (u:=O.lst (az.map λt=>W.tup (aB t))) e4)
  have e5':=k5.get _ _ qne (aj (u:=O.lst (az.map λt=>W.tup (aB t))) e5)
  have hp6:p.toNat < az.length:=by change p.toNat < 6; omega
  obtain⟨tn,htn⟩ : ∃tn,az[p.toNat]?=ba tn:=#[_,JB hp6];obtain⟨hO,hOl⟩:=jw.mp (JD htn);rw[<- v3]at hO hOl;show d3 e6 p0 (by rw[Jv,htn]; rfl) ?_
  subst hRR;show yi (d:=d) G hb h.nl gv hO.lt hO.nd ∅ λS6 k6=>?_
  have gp:=mE hb gv hO.lt hO.nd;have lp:(aw bs v tn).length=3:=by rw[bq,hOl,v3]
  have ll:aL bs (aw bs v tn)=v:=by rw[lb hb gv hO hOl,lv]
  generalize aw bs v tn=x at gp lp ll ⊢;show tK (d:=d+1) L.rts.txs (h.rw #[gp,lp]) λS7 k7=>?_
  have h1:=fA (ms:=ms) (ns:=ns) (u:=x) (k:=216) λp hp=>(h.rw #[gp,lp]).sl hp
  have h4:("bar " : JA).length=4:=by decide
  show ab (eL (fw ∅)) ?_
  have e8:=k7.get _ _ (k6.get _ _ e4');have f7:=(f5.ka k6).ka k7;show eR e8 (by rw[Jl,JL,JL,Jl]; omega) (a9 (hn2 _ _ #[#[_,rfl],#[ws++[x],?_,λw hw=>?_,?_],?_,f7.own hrs]))
  ·rw[aX e8,J0,<- Nq,<- Nq,J0]; rfl
  ·rcases Kj.mp hw with hw|hw
   ·exact hws w hw
   ·rw[JH.mp hw]; exact#[gp,lp]
  ·rw[J0,hwt,KH,hv,JS,ll]; rfl
  ·rw[bj ?_]
   ·exact k7.get _ _ (k6.get _ _ e5')
   ·intro z;subst z;rw[e4]at e5;have:(aH ms::bm ns bs::ws.map (bH ms ns)).map W.str=vs.map aK:=by injection (Kw e5)
    rw[JS]at this;cases vs with
    | nil=>cases this
    | cons y ys=>rw[JS]at this; injection this with z1 _; cases z1
 ·rintro Z S4 ⟨⟨x3,rfl⟩,⟨ws,e4,hws,hwt⟩,e5,f4⟩;rw[Jl,KR]at hwt;have hwl:ws.length<=100:=by
   have:=congrArg O3 hwt;rw[Jl]at this;omega
  show hK _ _ (st ?_);left;exact#[rfl,fB e4 (h.sum hws hwl) (hR _ _ (k ws _ hws (hwt ▸ pm) f4))]
def BS {ms ns:Jj JA}{bs:Jj JG}{a:Jr}{us:Jj Wd}(hm:ms.length<=1000)(hb:bs.length<=1000)(hu:∀u∈us,GoodW a bs.length u/\u.length=3)(hl:us.length<=1000):Tr 5 (aS ms ns bs us):=by
 show#[LA rfl,λx hx=>?_]
 simp only[JC,J7,Ld]at hx;rcases hx with rfl|rfl|rfl
 ·show#[by rw[Jl]; exact hm,λy hy=>?_]
  obtain⟨z,_,rfl⟩:=JI.mp hy;trivial
 ·show#[by rw[KA]; omega,λy hy=>?_]
  rw[show Jx ar ns bs=(ns.zip bs).map λp=>ar p.1 p.2 by rw[Qx,MK]]at hy
  obtain⟨z,_,rfl⟩:=JI.mp hy;show#[LA rfl,λw hw=>?_]
  simp only[JC,J7,Ld]at hw;rcases hw with rfl|rfl <;> trivial
 ·show#[by rw[Jl]; exact hl,λy hy=>?_]
  obtain⟨u,h1,rfl⟩:=JI.mp hy;obtain⟨gu,u3⟩:=hu u h1;show#[by rw[Jl]; omega,λx hx=>?_]
  obtain⟨p,hp,rfl⟩:=JI.mp hx;obtain⟨j,hj,e⟩:=LH.mp hp;have hpl:=gu.len j p (by rw[JB hj,e])
  show#[LA rfl,λy hy=>?_]
  simp only[JC,J7,Ld]at hy;rcases hy with rfl|rfl
  ·trivial
  ·show#[by rw[Jl]; omega,λz hz=>?_]
   obtain⟨w,_,rfl⟩:=JI.mp hz;trivial
def rO (hfu:200<=fuel)(L:Lw06 defs){w:W}(hw:cD w)(hf:Fl S r)(k:∀S',Fl S' r->Q (.bl true,S')):wO (aE (al defs fuel (d+8)) "_law_holds" 2 [.ref r,w] S) Q:=by
 obtain⟨a,bs,ms,ns,gs,rfl,hr⟩:=hw;have hb:=hr.size.good;obtain⟨n1,n3⟩:=hr.size.n3;have a3:=hr.size.a3;have hml:=hr.ml;have hnl:=hr.nl;have rk:RK a bs ms ns:=#[hr.size,hr.ml,hr.nl,hr.nm];have pm:(bf gs).Perm gs:=iF;have hu:∀g∈bf gs,GoodW a bs.length g/\g.length=3/\aL bs g=g:=λg h=>yZ hb (hr.mem g (pm.mem_iff.mp h))
 have hl:(bf gs).length < 64:=by
  have h1:=gq gs _ hr.nd hr.mem;have h2:=jT hr.size;rw[pm.length_eq]; omega
 have und:(bf gs).Nodup:=pm.nodup_iff.mpr hr.nd;have hu2:∀g∈bf gs,GoodW a bs.length g/\g.length=3:=λg h=>#[(hu g h).1,(hu g h).2.1]
 have em:(bf gs).map (aL bs)=bf gs:=by
  conv=>rhs; rw[<- Sg (bf gs)]
  exact K7 λg h=>(hu g h).2.2
 have es:bf (bf gs)=bf gs:=tM pm hr.nd;have tr:=BS (ms:=ms) (ns:=ns) (bs:=bs) (us:=bf gs) ∅ ∅ hu2 ∅
 show am L.holds rfl rfl λQ' hR=>?_
 change wZ _ _ i6 [ba (.ref r),ba (aS ms ns bs (bf gs)),gV,gV] S Q';dsimp only[i6];nofun
 left;show tQ (d:=d+5) L rk hu2 ∅ λS1 k1=>hK _ _ ?_
 clear hK K;nofun
 dsimp only[wS,wT,wE,wA,wV,wG];show BQ (d:=d+4) L rk hu2 ∅ λS2 k2=>?_
 show n0 L.alike 0 (d+6) _ _ _ trivial λS3 k3=>?_
 show ab (show cQ S3 (.bl true)=ba true from rfl) #[λz=>(by cases z),λ_=>?_]
 dsimp only;show tN (d:=d+1) ∅ L.rts hr.size hml hnl hr.nm hu2 hl (by rw[em]; exact und) λS4 k4=>?_
 rw[em,es];show n0 L.alike 5 (d+1) _ _ _ tr λS5 k5=>?_
 show ab (show cQ S5 (.bl true)=ba true from rfl) ?_
 show ah (Q0:=Q') (λz=>by cases z) (λ_ Q2 hn2 _=>a9 (hn2 _ _ (hK _ _ ?_)))
 clear hn2 hK K;have f5:=((((hf.ka k1).ka k2).ka k3).ka k4).ka k5;nofun
 left;show BR (d:=d+4) hfu L rk hu ∅ f5 λws S6 hws hpm f6=>?_
 have hwl:ws.length < 64:=by have:=hpm.length_eq; rw[Jl]at this; omega
 show tN (d:=d+1) ∅ L.rts hr.size hml hnl hr.nm hws hwl (hpm.nodup_iff.mpr und) λS7 k7=>hK _ _ ?_
 rw[tM (hpm.trans pm) hr.nd];clear hK K;show st ?_;left;show n0 L.alike 5 (d+1) _ _ _ tr λS8 k8=>#[λ_=>?_,λz=>by cases z]
 show EK (d:=d) ∅ L.rts.look L.rts.parts L.rts.longer L.rts.least hr λS9 k9=>?_
 exact ab (show bO .is (.bl true) (.bl true) S9=ba (.bl true,S9)from rfl) (hR _ _ (k _ (((f6.ka k7).ka k8).ka k9)))
end
def zh {defs:Jj (JA×Df)}{fuel d:Jr}(hfu:200<=fuel)(L:Lw06 defs){zs:Jj JG}:∃S',al defs fuel (d+9) "law" [.ref 0] [.fro (zs.map W.int)]=ba (.bl true,S'):=by
 suffices h:wO (aE (al defs fuel (d+9)) "law" 1 [.ref 0] [.fro (zs.map W.int)]) (λp=>p.1=.bl true) by
  obtain⟨⟨v,S'⟩,e,q⟩:=br h;cases(show v=.bl true from q)
  exact#[S',e]
 have G:=L.gen;show am L.law rfl rfl λQ' hR=>?_
 change wZ _ _ jW [ba (.ref 0),gV,gV,gV] [.fro (zs.map W.int)] Q';dsimp only[jW];nofun
 left;show En (d:=d+7) L.flow (ns:=zs) rfl λr S1 _ f1=>hK _ _ ?_
 clear hK K;nofun
 left;show yH (d:=d) ∅ G L.unlay L.rule f1 λw S2 hw f2 _=>hK _ _ ?_
 clear hK K f1;nofun
 left;show yH (d:=d) ∅ G L.unlay L.rule f2 λv S3 hv f3 _=>hK _ _ ?_
 clear hK K f2;show st ?_;left;show rO (d:=d) hfu L hw f3 λS4 f4=>#[λ_=>?_,λz=>by cases z]
 show rO (d:=d) hfu L hv f4 λS5 f5=>#[λ_=>?_,λz=>by cases z]
 exact rO (d:=d) hfu L hw f5 λS6 _=>hR _ _ rfl
abbrev Cz:Df:=#[["_law_script"],["_law_script","_law_flow_here","_law_one","_law_other"],jW]
noncomputable abbrev Tw:=JA×Jr×Df×Jr
noncomputable abbrev tw (x:JA)(i:Jr)(d:Df)(a:Jr):Tw:=(x,i,d,a)
abbrev TL:Jj Tw:=[tw "is_whole" 5 #[["thing"],["thing"],fE] 72,tw "is_tuple_of" 6 #[["thing","size"],["thing","size"],c8] 79,tw "is_numbers" 7 #[["thing","size"],["thing","size"],dG] 84,tw "is_point" 9 #[["rule","thing","ahead"],["rule","thing","ahead","mark_there"],fF] 89,tw "has_point_form" 10 #[["thing","ahead"],["thing","ahead"],bT] 96,tw "way" 11 #[["rule","world","i","j"],["rule","world","i","j"],tt] 103,tw "point_over" 13 #[["rule","world","ahead","point"],["rule","world","ahead","point"],dC] 108,tw "least_form" 14 #[["rule","world"],["rule","world","form","orders","longer","lasts","least"],bg] 113,tw "longer_orders" 15 #[["orders","size"],["orders","size","longer","order"],aJ] 118,tw "look_rule" 23 #[["thing"],["thing"],eu] 126,tw "back" 24 #[["rule","way"],["rule","way"],on] 133,tw "has_form" 25 #[["thing"],["thing","texts"],fG] 138,tw "is_way" 26 #[["thing"],["thing"],i3] 145,tw "is_three" 27 #[["thing"],["thing"],fH] 150,tw "keeps_bounds" 28 #[["rule"],["rule","marks","ways"],cG] 157,tw "has_right_names" 29 #[["rule"],["rule","names"],bE] 162,tw "is_name" 30 #[["text"],["text"],gI] 167,tw "has_right_backs" 31 #[["rule"],["rule"],bF] 172,tw "is_right_back" 32 #[["rule","number"],["rule","number","other"],cg] 179,tw "has_right_barred" 33 #[["rule"],["rule","barred","rising"],bx] 184,tw "is_figure" 34 #[["rule","three"],["rule","three"],en] 189,tw "show_rule" 38 #[["rule"],["rule","rows"],ey] 194,tw "way_words" 39 #[["rule"],["rule","words","number","pair"],ev] 201,tw "show_world" 40 #[["rule","world"],["rule","world"],dE] 206,tw "point_text" 41 #[["rule","point"],["rule","point"],dD] 211,tw "read_rule" 42 #[["text"],["text","rows","marks","rule"],eC] 218,tw "read_marks" 43 #[["row"],["row","words","marks"],dH] 225,tw "read_ways" 44 #[["row"],["row","words","ways","word","names","first"],eA] 232,tw "read_bars" 45 #[["rule","rows"],["rule","rows","barred","number","row","figure"],eB] 239,tw "read_bar" 46 #[["rule","row","number"],["rule","row","number","three"],fI] 246,tw "read_points" 47 #[["rule","text","row"],["rule","text","row"],c7] 251,tw "read_point" 48 #[["rule","text","ahead","row"],["rule","text","ahead","row","words","names","there"],dF] 256,tw "_law_flow" 50 #[["_law_script"],["_law_script"],dY] 263,tw "_law_pick" 51 #[["_law_flow_here","_law_many"],["_law_flow_here","_law_many","_law_cell","_law_digit"],cm] 270,tw "_law_shuffled" 52 #[["_law_flow_here","_law_things"],["_law_flow_here","_law_things","_law_left","_law_told"],cH] 277,tw "_law_letters" 53 #[["_law_flow_here","_law_many"],["_law_flow_here","_law_many"],cX] 282,tw "_law_name" 54 #[["_law_flow_here","_law_stem"],["_law_flow_here","_law_stem","_law_near"],fj] 289,tw "_law_names" 55 #[["_law_flow_here","_law_many"],["_law_flow_here","_law_many","_law_stem","_law_names_here","_law_k","_law_name_here","_law_spare"],cv] 296,tw "_law_between" 56 #[["_law_rule_here","_law_world","_law_i","_law_j"],["_law_rule_here","_law_world","_law_i","_law_j"],cY] 303,tw "_law_part" 57 #[["_law_rule_here","_law_world","_law_points"],["_law_rule_here","_law_world","_law_points","_law_told","_law_k","_law_i"],fm] 308,tw "_law_turns" 58 #[[],[],gk] 315,tw "_law_figure" 59 #[["_law_rule_here","_law_three"],["_law_rule_here","_law_three"],dz] 320,tw "_law_backs" 60 #[["_law_flow_here","_law_many"],["_law_flow_here","_law_many","_law_menu"],eg] 327,tw "_law_rule_of" 61 #[["_law_flow_here","_law_marks","_law_backs_here","_law_barred"],["_law_flow_here","_law_marks","_law_backs_here","_law_barred","_law_names_here","_law_ways"],cZ] 332,tw "_law_free_three" 62 #[["_law_flow_here","_law_marks","_law_ways"],["_law_flow_here","_law_marks","_law_ways","_law_told","_law_k"],bR] 337,tw "_law_sizes" 63 #[["_law_flow_here"],["_law_flow_here","_law_menu"],eh] 344,tw "_law_any_rule" 64 #[["_law_flow_here"],["_law_flow_here","_law_marks","_law_ways","_law_rule_here","_law_barred","_law_k"],cz] 351,tw "_law_laying_kind" 65 #[["_law_flow_here"],["_law_flow_here","_law_menu"],bC] 358,tw "_law_breaks" 66 #[["_law_backs_here","_law_must","_law_to_one","_law_to_two","_law_between_here"],["_law_backs_here","_law_must","_law_to_one","_law_to_two","_law_between_here","_law_to","_law_pair","_law_x","_law_y","_law_z"],dA] 365,tw "_law_numbered" 67 #[["_law_flow_here","_law_backs_here","_law_must"],["_law_flow_here","_law_backs_here","_law_must","_law_many","_law_menu","_law_some","_law_numbers","_law_told","_law_k","_law_other","_law_u","_law_v"],aZ] 370,tw "_law_laying_rule" 68 #[["_law_flow_here"],["_law_flow_here","_law_form","_law_backs_here","_law_must","_law_most","_law_marks","_law_rule_here","_law_barred","_law_many","_law_at","_law_one","_law_two","_law_between_here","_law_some","_law_first"],bD] 377,tw "_law_rising" 69 #[["_law_marks"],["_law_marks","_law_told","_law_i","_law_j"],dB] 382,tw "_law_free_rule" 70 #[["_law_flow_here"],["_law_flow_here","_law_marks","_law_ways","_law_rule_here","_law_k","_law_own","_law_free","_law_barred","_law_three"],ce] 387,tw "_law_one_way_rule" 71 #[["_law_flow_here"],["_law_flow_here","_law_marks","_law_barred"],bw] 392,tw "_law_unlaying_rule" 72 #[["_law_flow_here"],["_law_flow_here","_law_form","_law_rule_here","_law_barred","_law_some","_law_one","_law_two","_law_between_here","_law_first","_law_marks"],aP] 397,tw "_law_alike" 73 #[["_law_found","_law_due"],["_law_found","_law_due"],bL] 402,tw "_law_world_text" 74 #[["_law_rule_here","_law_world"],["_law_rule_here","_law_world","_law_points","_law_mark","_law_to"],bS] 407,tw "_law_rule_text" 75 #[["_law_rule_here"],["_law_rule_here","_law_words","_law_k","_law_name_here","_law_there","_law_lines"],ci] 412,tw "_law_rule" 76 #[["_law_flow_here"],["_law_flow_here","_law_form"],dZ] 419,tw "_law_turned_text" 77 #[["_law_flow_here","_law_rule_here"],["_law_flow_here","_law_rule_here","_law_lines","_law_three"],bG] 426,tw "_law_holds" 78 #[["_law_flow_here","_law_rule_here"],["_law_flow_here","_law_rule_here","_law_due","_law_found"],i6] 433,tw "law" 79 Cz 440]
abbrev jK:Jj (JA×Df):=TL.map λp=>(p.1,p.2.2.1)
abbrev IF:Jj (JA×Jr):=TL.map λp=>(p.1,p.2.2.1.ps.length)
abbrev BU:Jj JA:=["range","len","list","tuple","int","set","sorted","isinstance","bool","str","all","min","zip","enumerate","abs"]
abbrev BV:Jj (JA×W):=[("LETTERS",.str "abcdefghijklmnopqrstuvwxyz"),("LONGEST_NAME",.int 8),("WORDS",.tup (eM.map W.str)),("MOST_MARKS",.int 3),("MOST_WAYS",.int 3),("MOST_TOGETHER",.int 6),("PARTING",.str " ; "),("BAR",.str "bar ")]
abbrev E3:Md:=#[IF,BU,BV]
abbrev BD (x:JA)(st:Mb)(df:Df):Prop:=∀(kV doc pm:Jm) (an:Jq Ju) (cdv ct:Jm) (us:Jj Jm),us.length=df.ps.length->bindArgs (LD x x (du st) (b7 st) (aT st) .none kV doc pm an cdv ct) #[us,[]]=pure (df.ps.zip us)
def IR {us:Jj Jm}(h:us.length=0):us=[]:=Mm.mp h
def uc {us:Jj Jm}{n:Jr}(h:us.length=n+1):∃a t,us=a::t/\t.length=n:=by
 cases us with
 | nil=>cases h
 | cons a t=>exact#[a,t,rfl,Tj h]
def IS {us:Jj Jm}(h:us.length=1):∃a,us=[a]:=by obtain⟨a,t,rfl,g⟩:=uc h; cases IR g; exact#[a,rfl]
def IT {us:Jj Jm}(h:us.length=2):∃a b,us=[a,b]:=by obtain⟨a,t,rfl,g⟩:=uc h; obtain⟨b,rfl⟩:=IS g; exact#[a,b,rfl]
def IU {us:Jj Jm}(h:us.length=3):∃a b c,us=[a,b,c]:=by obtain⟨a,t,rfl,g⟩:=uc h; obtain⟨b,c,rfl⟩:=IT g; exact#[a,b,c,rfl]
def IV {us:Jj Jm}(h:us.length=4):∃a b c d,us=[a,b,c,d]:=by obtain⟨a,t,rfl,g⟩:=uc h; obtain⟨b,c,d,rfl⟩:=IU g; exact#[a,b,c,d,rfl]
def IW {us:Jj Jm}(h:us.length=5):∃a b c d e,us=[a,b,c,d,e]:=by obtain⟨a,t,rfl,g⟩:=uc h; obtain⟨b,c,d,e,rfl⟩:=IV g; exact#[a,b,c,d,e,rfl]
def Jf {us:Jj Jm}(h:us.length=6):∃a b c d e f,us=[a,b,c,d,e,f]:=by obtain⟨a,t,rfl,g⟩:=uc h; obtain⟨b,c,d,e,f,rfl⟩:=IW g; exact#[a,b,c,d,e,f,rfl]
abbrev DG (p:Tw):Prop:=Gc E3 (lL p.2.1) p.2.2.1/\FnScope p.2.2.1.N p.2.2.1.ps (aT (lL p.2.1))/\BD p.1 (lL p.2.1) p.2.2.1
def gc {α:Type}{F:α->Prop}{p:α}{L:Jj α}(a:F p)(b:∀q∈L,F q):∀q∈p::L,F q:=List.forall_mem_cons.mpr #[a,b]
def gn {α:Type}{F:α->Prop}:∀q∈([]:Jj α),F q:=λ_ h=>nomatch h
def Jg {p:Tw}(a:sK (cS 20 (xN E3 (lL p.2.1) p.2.2.1.N)) (b7 (lL p.2.1))=ba p.2.2.1.body)(b:FnScope p.2.2.1.N p.2.2.1.ps (aT (lL p.2.1)))(c:BD p.1 (lL p.2.1) p.2.2.1):DG p:=#[a,b,c]
set_option maxHeartbeats 0 in
def CA:∀p∈TL,DG p:=by
 unfold TL
 repeat show gc (Jg (by kernel_rfl) #[rfl,rfl,rfl,by decide +kernel,rfl,by decide +kernel,by decide +kernel] λ_ _ _ _ _ _ us h=>by
  first
   | (obtain⟨a,rfl⟩:=IS h; rfl)
   | (obtain⟨a,b,rfl⟩:=IT h; rfl)
   | (obtain⟨a,b,c,rfl⟩:=IU h; rfl)
   | (obtain⟨a,b,c,d,rfl⟩:=IV h; rfl)
   | (obtain⟨a,b,c,d,e,rfl⟩:=IW h; rfl)
   | (obtain⟨a,b,c,d,e,f,rfl⟩:=Jf h; rfl)
   | (obtain rfl:=IR h; rfl)) ?_
 exact gn
def Jh {f:JA}{m n:Jr}{b:Ss}(h:((jK.lookup f).map λd=>(d.ps.length,d.N.length,d.body))=ba (m,n,b)):Is jK f m n b:=by
 rw[Jo]at h;obtain⟨d,h1,h2⟩:=h;rw[RQ,RQ]at h2;exact#[d,h1,h2.1,h2.2.1,h2.2.2]
set_option maxHeartbeats 0 in
def G6:Lw06 jK:=by
 repeat' first
  | exact Jh (by kernel_rfl)
  | constructor
def lr:∀(L:Jj Tw) (x:JA) (n:Jr),(L.map λp=>(p.1,p.2.2.1.ps.length)).lookup x=ba n->∃p∈L,p.1=x/\p.2.2.1.ps.length=n/\(L.map λp=>(p.1,p.2.2.1)).lookup x=ba p.2.2.1
 | [],x,n,h=>by cases h
 | p::L,x,n,h=>by
  rw[JS,K6]at h;rw[JS,K6];cases e:x==p.1 with
  | true=>
   rw[e]at h;cases h;exact#[p,Kr ..,(eq_of_beq e).symm,rfl,rfl]
  | false=>
   rw[e]at h;obtain⟨q,h1,h2,h3,h4⟩:=lr L x n h;exact#[q,Kd _ h1,h2,h3,h4]
section
variable{P:J2}{w:Kf}{K:Jz}{mg:JA->Jq Jm}{base:Kn}
abbrev zj (K:Jz)(mg:JA->Jq Jm)(x:JA)(st:Mb)(df:Df):Prop:=∃(f:Ju) (fd:LX),Fun K x x st f fd/\mg x=ba (.ref f)/\K1 K (.ref f)=true/\Binds K fd df.ps []
def ET {h:Kn}{x:JA}{st:Mb}{df:Df}{f:Ju}{oc:Jm}{od an:Jq Ju}{osl:Ki (Jq Jm)}{kV doc pm cdv ct:Jm}(X:K.In h)(G:h.Ns mainGlobals mg)
  (b:BD x st df)
  (a:LF K mainGlobals x=ba (ba (.ref f))) (l:K.lookup f=ba #[oc,od,.func (LD x x (du st) (b7 st) (aT st) .none kV doc pm an cdv ct),osl]) (c:Mj K cdv x=true) (k:K1 K (.ref f)=true):zj K mg x st df:=
 have F:=vW (st:=st) l c k
 #[f,_,F,PL X G a,k,F.binds b]
def zm {fuel:Jr}(hb:MdOk w K mg E3)(D:∀p∈TL,zj K mg p.1 (lL p.2.1) p.2.2.1):∀d,Cd P w K mg base E3 jK fuel d
 | 0=>λf n h=>by
  obtain⟨p,h1,rfl,h2,h3⟩:=lr TL f n h;obtain⟨fa,fd,F,m,kp,b⟩:=D p h1;show#[fa,fd,p.2.2.1.ps,#[λvs H Q E z=>?_,λA outer s H args us vs Q E hr he hbd hv z=>?_],m,kp,b]
  all_goals
   obtain⟨_,_,_,_,_,_,_,_,z,_⟩:=z;cases z
 | d+1=>λf n h=>by
  obtain⟨p,h1,rfl,h2,h3⟩:=lr TL f n h;obtain⟨g1,g2,_⟩:=CA p h1;obtain⟨fa,fd,F,m,kp,b⟩:=D p h1;show#[fa,fd,p.2.2.1.ps,?_,m,kp,b];rw[<- h2];exact Ce F g2 h3 g1 hb (zm hb D d)
abbrev CE (K:Jz)(p:JA×W):Prop:=∃v u,LF K mainGlobals p.1=ba (ba u)/\RelV v u/\∀A H,Rel K A H p.2 v
def zn {x:JA}{w:W}:∀ {l:Jj (JA×W)},l.lookup x=ba w->(x,w)∈l
 | [],h=>nomatch h
 | (y,v)::l,h=>by
  rw[K6]at h;split at h
  ·rename_i e;cases h;have:=eq_of_beq e;subst this;exact Kr
  ·exact Kd _ (zn h)
def BW {u:Jm}{z:JA}(h:L2.zB u=ba (V.str z)):RelV (.str z) u:=by
 cases u with
 | str x t=>cases h; exact#[_,rfl]
 | _=>cases h
def qA:∀ {us:Jj Jm} {zs:Jj JA},us.map L2.zB=zs.map (λz=>ba (V.str z))->Vals (zs.map V.str) us
 | [],[],_=>.nil
 | [],_::_,h=>by cases h
 | _::_,[],h=>by cases h
 | u::us,z::zs,h=>by
  rw[JS,JS]at h;injection h with h1 h2
  exact .cons (BW h1) (qA h2)
def zo {A:Jj Ju}{H:Hp}:∀zs:Jj JA,RelL K A H (zs.map W.str) (zs.map V.str)
 | []=>.nil
 | _::zs=>.cons .str (zo zs)
def G7 {x:JA}{zs:Jj JA}{a:Ju}{its:Ki Jm}{n:Jr}(e:LF K mainGlobals x=ba (ba (.ref a)))(l:K.lookup a=ba #[.type "tuple",gV,.seq its n,#[]])(hz:its.size<=1000)(hv:its.toList.map L2.zB=zs.map (λz=>ba (V.str z))):CE K (x,.tup (zs.map W.str)):=
 #[.ref a,.ref a,e,rfl,λA H=>.tup (.inr #[_,its,n,l,rfl,rfl,rfl,J8 hz (d0 rfl),qA hv]) (zo zs)]
def zp {x:JA}{z:JA}{t:Jr}(e:LF K mainGlobals x=ba (ba (.str z t))):CE K (x,.str z):=#[.str z,_,e,#[_,rfl],λ_ _=>.str]
def tR {x:JA}{z:JG}{t:Jr}(e:LF K mainGlobals x=ba (ba (.int z t))):CE K (x,.int z):=#[.int z,_,e,#[_,rfl],λ_ _=>.int]
def G8 {h:Kn}(X:K.In h)(G:h.Ns mainGlobals mg)(z:∀y∈BU,LF K mainGlobals y=ba gV)(c:∀p∈BV,CE K p):MdOk w K mg E3:=#[λy hy=>PySem.W.mg_none_of X G (z y hy),λYq h1 h2 h3 x v h=>by
 subst h2 h3;obtain⟨v',u,e,r,q⟩:=c _ (zn h);exact#[v',u,PL X G e,r,q]]
end
def EU {l:OM}{w:Kf}{K:Jz}{h:Kn}{mg:JA->Jq Jm}{fa f:Ju}(X:K.In h)(G:h.Ns mainGlobals mg)(hfa:mg "law" = ba (.ref fa))(hb:MdOk w K mg E3)(D:∀p∈TL,zj K mg p.1 (lL p.2.1) p.2.2.1)
  {oc:Jm} {od an:Jq Ju} {osl:Ki (Jq Jm)} {kV doc pm cdv ct:Jm} (a:LF K mainGlobals "law" = ba (ba (.ref f))) (l':K.lookup f=ba #[oc,od,.func (LD "law" "law" (du (lL 79)) (b7 (lL 79)) (aT (lL 79)) .none kV doc pm an cdv ct),osl]) (c:Mj K cdv "law" = true) (k:K1 K (.ref f)=true) :
  ∃fd:LX,(∀(s:Jp) (v:Jm),Qd s fd #[[v],[]] [("_law_script",v)])/\∀base:Kn,K.In base->base.Ns mainGlobals mg->FnOk l.prog w K mg base vt 9 fa fd ["_law_script"] (spF w K 1 (al jK 200 9 "law")):=by
 have e:=hfa.symm.trans (PL X G a);cases e;have F:=vW (st:=lL 79) l' c k;exact#[LD "law" "law" (du (lL 79)) (b7 (lL 79)) (aT (lL 79)) .none kV doc pm an cdv ct,λs v=>.of_eq rfl,λbase _ _=>Ce (df:=Cz) F #[rfl,rfl,rfl,by decide +kernel,rfl,by decide +kernel,by decide +kernel] (by rfl) (by rfl) hb (zm hb D 8)]
def IG {l:OM}{q:J2}{loose:Jj JA}{XP:(JA->Jq Jm)->Kn->Prop}{YP:Kf->Kn->Prop}{d:DefRec}{K:O4->Jz}(hn:l.most=ba 63)(hdf:d.params.defaults=[])
  (hY:∀(w:Kf) (h:Kn),YP w h->(K w.params).In h)
  (F:∀(w:Kf) (mg:JA->Jq Jm) (fa:Ju) (h:Kn),(K w.params).In h->h.Ns mainGlobals mg->mg d.name=ba (.ref fa)->
   ∃fd:LX,(∀(s:Jp) (u:Jm),Qd s fd #[[u],[]] [("_law_script",u)])/\∀base:Kn,(K w.params).In base->base.Ns mainGlobals mg->FnOk l.prog w (K w.params) mg base vt 9 fa fd ["_law_script"] (spF w (K w.params) 1 (al jK 200 9 "law"))) :
  RF q loose XP YP l.row.toRowW d [] (λf vs=>Rm f vs):=
 L2.zX (n:=63) (k:=9) (x:="_law_script") (CX:=λ_=>vt) (sp:=λw=>spF w (K w.params) 1 (al jK 200 9 "law")) hn #v[] hdf #[rfl,#v[],#v[]] hY F
  (λw H a ns hl hO hS=>DW (zh (defs:=jK) (fuel:=200) (d:=0) #v[] G6) hO hS) λ_ _ _ _ _ z=>z
end Mi
open PySem PySem.W PyProof.Rows L2
namespace Mi
section
abbrev EL (K:Jz)(p:Tw):Prop:=LF K mainGlobals p.1=ba (ba (.ref p.2.2.2))/\K.lookup p.2.2.2=ba (kf p.2.2.2 (lL p.2.1) p.1 (HS p.2.1) (.ref (p.2.2.2 - 1))).2/\Mj K (.ref (p.2.2.2 - 1)) p.1=true/\K1 K (.ref p.2.2.2)=true
def Ji {K:Jz}{p:Tw}(e:LF K mainGlobals p.1=ba (ba (.ref p.2.2.2)))(l:K.lookup p.2.2.2=ba (kf p.2.2.2 (lL p.2.1) p.1 (HS p.2.1) (.ref (p.2.2.2 - 1))).2)(c:Mj K (.ref (p.2.2.2 - 1)) p.1=true)(k:K1 K (.ref p.2.2.2)=true):EL K p:=#[e,l,c,k]
def G9 (P:O4):∀p∈TL,EL (K0 P) p:=by
 unfold TL
 repeat show gc (Ji (by kernel_rfl) (by kernel_rfl) (by kernel_rfl) (by kernel_rfl)) ?_
 exact gn
def Ha (P:O4):∀y∈BU,LF (K0 P) mainGlobals y=ba gV:=by
 unfold BU
 repeat show gc (F:=λy=>LF (K0 P) mainGlobals y=ba gV) (by kernel_rfl) ?_
 exact gn
def Hb (P:O4):∀p∈BV,CE (K0 P) p:=by
 unfold BV;show gc (zp (t:=328) (by kernel_rfl)) ?_
 show gc (tR (t:=330) (by kernel_rfl)) ?_
 show gc (G7 (a:=119) (its:=B2.toArray) (n:=0) (by kernel_rfl) (by kernel_rfl) (LA rfl) rfl) ?_
 show gc (tR (t:=342) (by kernel_rfl)) ?_
 show gc (tR (t:=344) (by kernel_rfl)) ?_
 show gc (tR (t:=346) (by kernel_rfl)) ?_
 show gc (zp (t:=432) (by kernel_rfl)) ?_
 show gc (zp (t:=434) (by kernel_rfl)) ?_
 exact gn
end
end Mi
end
end ZZ.Lean
open ZZ.Lean
theorem PySem.Challenge.cw_layworld_k06_rules_written_and_read_holds : PySem.Challenge.rw_layworld_k06_rules_written_and_read.Holds := by
 w_on
 show PySem.W.holds_law (Kk (Kk (Kk (Kk (Kk (Kk (Kk (Kk (Kk (Kk (Kk (Kk (Kk (Kk (Kk (Kk (Kk (Kk (Mi.s0) (by kernel_rfl)) (by kernel_rfl)) (by kernel_rfl)) (by kernel_rfl)) (by kernel_rfl)) (by kernel_rfl)) (by kernel_rfl)) (by kernel_rfl)) (by kernel_rfl)) (by kernel_rfl)) (by kernel_rfl)) (by kernel_rfl)) (by kernel_rfl)) (by kernel_rfl)) (by kernel_rfl)) (by kernel_rfl)) (by kernel_rfl)) (by kernel_rfl)) (λsaid=>?_)
 show PySem.W.holds_open (q:=Mi.vq) (loose:=Mi.lo) (Xt:=λs=>RZ Mi.vq [] s&&RG [] s) (XP:=PySem.W.XL Mi.vq []) (Yf:=Mi.hk.obs) (Ya:=Mi.hk.val) (YP:=Mi.hk.says) (N:=5362) Mi.hl Mi.hk.of Mi.hk.keeps (λs e=>PySem.W.xl_of s (Pi.mp e).1) SO (by rfl) (by rfl) (by rfl) (λs e=>PySem.W.recFacts_of (Pi.mp e).2) (by rfl) said (by decide +kernel) #[rfl,rfl,rfl,rfl,rfl,by decide +kernel] ?hw ?hc
 case hw=>w_witness2
 case hc=>
 show Mi.IG (l:=ND) (K:=Mi.K0) rfl rfl (λw h Yq=>PySem.W.kIn_of Yq) ?F
 case F=>
  intro w mg fa h KX G hmg;exact Mi.EU KX G hmg (Mi.G8 KX G (Mi.Ha w.params) (Mi.Hb w.params)) (λp hp=>let ⟨e,l,c,k⟩:=Mi.G9 w.params p hp; Mi.ET KX G (Mi.CA p hp).2.2 e l c k)
   (f:=440) (oc:=.type "function") (od:=gV) (an:=gV) (osl:=#[]) (kV:=.none) (doc:=.none) (pm:=(.str "law_layworld_k06_rules_written_and_read" 529)) (cdv:=.ref 439) (ct:=.none) (by kernel_rfl) (by kernel_rfl) (by kernel_rfl) (by kernel_rfl)
