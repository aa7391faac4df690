import PyProof.Rows.All
import Wide.All
import OpenK.AllK
import Wide.FinOn
import Lean
import PyProof.EqAt
import PyProof.EqKinds
import PyProof.TupleCall
import KE.KDictList
import PyProof.SetKind
import PyProof.IsRules
import KE.KSortTup
import PyProof.Rows.SetFrom
import PyProof.ZipIter
import PyProof.Draws
import PyProof.EnumMake
import PyProof.WalksEnum
import PySem.Challenge.RW_layworld_k21_whole_like_by_least_forms
noncomputable section
open Option renaming some->ba,none->gV
set_option hygiene false
local macro_rules|`(abbrev $i:declId $s:optDeclSig $v:declVal)=>`(noncomputable def $i:declId $s:optDeclSig $v:declVal)|`(def $i:declId $b* :$t $v:declVal)=>`(theorem $i:declId $b* :$t $v:declVal)|`(tactic|omega)=>`(tactic|first|lia|omega (config:={}))|`(tactic|left)=>`(tactic|dsimp only[wS,wE,wA,wV,wG,List.set])|`(tactic|nofun)=>`(tactic|refine aH λK hK=>?_)
local macro_rules|`(#v[])=>`((by decide))|`(#v[$x:term])=>`(.cons $x .nil)|`(#v[$x:term,$y:term,*])=>`(.cons $x #v[$y,*])
local macro_rules|`(#[$x:term])=>`(⟨$x⟩)|`(#[$x:term,$y:term,*])=>`(⟨$x,$y,*⟩)
local macro_rules|`(∅)=>`((by omega))
open _root_ renaming List->HN,Option->HY,Nat->HZ,Int->Ip,decide_eq_true_eq->Ix,if_pos->IF,Array->IM,Bool->IN,if_neg->IP,decide_eq_false->IX,of_decide_eq_true->Je,beq_self_eq_true->Jm,decide_eq_true->JG,if_false->JK,False->JR,String->JX,if_true->Kd,or_false->Kf,of_decide_eq_false->Kt,DecidableEq->LM,beq_eq_false_iff_ne->L9,decide_eq_false_iff_not->Ms,not_or->Os,True->OX,bne_self_eq_false->Py,decide_true->Qc,beq_iff_eq->QC,decide_false->Rg,dif_pos->RQ,Unit->R9
open PySem renaming wpAny_bind->HP,Value->HS,Shared->HV,wpAny_pure->HW,Addr->Ic,Str->IH,Expr->IJ,Program->IZ,Around->Jd,World->Jg,wpAny_newObj_type->Ji,Heap->Jk,sizeLine_eq->Jq,wpAny_callSpecial?_slot->Jt,wpAny_call_entry->Jx,codeAny_builtin->JA,wpAny_holding->JB,SetTable->JH,wpAny_setState_of->JP,wpAny_seqItems->J1,Obj->Kb,wpAny_field->Ke,wpAny_mono->Ks,NameKind->Kx,plainId_quiet->Kz,wpAny_typeNameOfWhole_keyiter->KM,wpAny_truthy_bool->KO,DictEntry->KP,Spec->KU,Pos->KW,FuncData->KY,wpAny_setField_rec->K1,wpAny_passesOwn->K9,Builtin->Lg,wpAny_typeNameOf_keyiter->Lk,Stmt->Lm,mem_of_lookup->Ln,wpAny_askSetting->Ls,wpAny_isInstance->Lu,codeAny_mono->LA,wpAny_typeOf->LB,wpAny_ite_split->LD,wpAny_attempt->LH,Scope->LJ,wpAny_pyIter_list->LK,wpAny_runValue->LQ,wpAny_letGo->LV,wpAny_forIn_list->L1,wpAny_updateSeq->Ml,wpAny_Call_Name_kw->Mm,wpAny_of_eq->Mr,wpAny_dictEntries->MB,IsPair->ML,wpAny_standAt->MM,wpAny_loadPart'->MW,codeAny_of_tree->MX,wpAny_setEntries_of->M2,wpAny_rule->Na,IsPart->Nc,call_meets->Nf,isSubtype_stop->Nh,wpAny_fieldsOf->Ni,wpAny_newTuple->Nj,wpAny_setField->No,wpAny_tryCatch->Np,wpAny_pyIter_tuple->Nt,wpAny_pyIter_slot->ND,wpAny_newList->NM,wpAny_comprehension_free->NN,noFill_tuple_add->NP,Paired->NS,wpAny_load->NU,ItemsOf->NY,wpAny_execs_nil->N2,wpAny_specialOf->N6,wpAny_dictEpoch->N7,builtinLookup_eq_fast->Oc,wpAny_isSame_ref_self->Oe,weight_type_call_type->Of,wpAny_isOneOf_keyiter->Oi,GenState->On,codeAny_call_builtin->Oq,wpAny_pyIter_keyiter->Ov,wpAny_updateSeq_pair->Oz,PassesOwn->OF,rangeSize_one->OP,seq_tuple_add->OQ,wpAny_handled->OS,IsZip->OU,Params->O2,sub_set_self->O3,Env->Pd,wpAny_assign_Name->Pe,Operator->Pg,BindsTo->Ph,concat_meets->Pi,wpAny_sequenceKey->Pj,seqIndex_neg->Pk,list_append->Pl,wpAny_setEpoch_of->Pr,wpAny_pyIter_enum->PC,wpAny_pyHash_int->PH,wpAny_pyHash_str->PJ,Result->PL,check_set_init_1->PV,wpAny_pyIter_zip->P1,seqIndex_of->P8,wpAny_throw->P9,Walks->Qa,wpAny_mkInt->Qb,typeLookup_type->Qh,Keyword->Qm,wpAny_Name->Qn,wpAny_bindName->Qo,wpAny_call->Qp,typeIs_int->Qr,fitsIndex_both->Qt,call->Qv,isSubtype_type->Qy,entryFor_alias->Qz,callType_newIn->QG,intBits_le_64->QL,evalPart_none->QN,call_list_seq->QP,wpAny_onRaise->Q1,small_one->Q9,CmpOp->Ra,call_range_1->Re,IsRangeIter->Rn,wpAny_alloc->Ru,Sem->Ry,BoolOp->RM,IsEnum->RN,IsRange->RS,Fin->RY,Drawn->R7,Model->R8,Tok->So
open List renaming length_map->HQ,getElem?_eq_getElem->Ig,getElem?_map->Ii,mem_singleton->Ik,getElem?_eq_some_iff->Il,length_append->Io,set->Iq,mem_of_getElem?->Ir,size_toArray->Iu,mem_map->Iy,zipWith->Iz,mem_cons->IC,range->ID,all_eq_true->IG,map_append->II,mem_range->IR,take_add_one->IS,mem_append_right->IU,length_range->IV,mem_append->IY,not_mem_nil->Jc,getElem_mem->Jh,replicate->Jj,take_length->Jp,getElem?_append_left->Jr,getElem?_eq_none_iff->Js,length_cons->Ju,all_cons->Jw,map_cons->JC,mem_cons_of_mem->JD,length_take->JE,mem_filter->JI,mem_cons_self->JJ,getD_eq_getElem?_getD->JL,map_congr_left->JM,mem_append_left->JN,append_assoc->JO,map_map->JQ,append_nil->JT,nodup_iff_pairwise_ne->JV,mem_iff_getElem->JW,length_filter_le->J7,nodup_append->J9,length_eq_zero_iff->Kc,lookup_cons->Kh,replicate_succ->Ki,getElem?_set->Kj,length_singleton->Kk,filter_append->Ku,getElem_inj->Kv,getElem?_range->KC,length_nil->KD,mem_of_mem_take->KL,pairwise_map->KQ,idxOf_lt_length_of_mem->KS,any_cons->KT,getElem?_append_right->KZ,getElem_idxOf->K5,map_singleton->K6,exists_mem_of_ne_nil->K8,nodup_cons->La,range_succ->Ld,flatten_cons->Le,getElem_take->Lh,pairwise_append->Li,idxOf_lt_length_iff->Ll,length_zipWith->Lp,ext_getElem->Lv,foldlM_cons->Lx,mem_flatMap->Lz,zip_cons_cons->LC,find?_cons->LF,dropLast_concat_getLast->LG,getElem?_eq_none->LI,flatMap_cons->LL,length_eraseIdx_of_lt->LP,mem_of_mem_drop->LU,length_drop->LZ,pairwise_iff_getElem->L7,getLastD_eq_getLast?->L8,filterMap_cons->Ma,mem_map_of_mem->Mf,filter_cons_of_pos->Mu,filter_cons_of_neg->Mv,drop_of_length_le->MA,take_of_length_le->MC,nodup_range->MK,map_take->MO,dropLast_concat->MS,getLast?_eq_some_getLast->MT,length_dropLast->MU,eq_nil_of_length_eq_zero->MV,forIn_cons->MY,mem_filterMap->Nb,pairwise_cons->Nr,ne_nil_of_mem->Nv,extract_eq_take_drop->Nx,rel_of_pairwise_cons->Ny,ext_getElem?->NE,getElem?_take_of_lt->NI,getElem?_set_self->NT,range_succ_eq_map->NW,of_mem_zip->N3,find?_some->Oa,length_replicate->Ob,getElem?_zipWith->Ol,take_append_drop->Om,getElem?_set_ne->Oo,drop_zero->Ot,forIn_nil->Ox,nodup_nil->Oy,getLastD_concat->OB,eraseDups_cons->OM,flatMap_append->ON,length_pos_iff->OO,mem_eraseDups->Pa,zip_nil_left->Pp,any_toArray->PX,map_snd_zip->PY,getElem_map->P0,isEmpty_iff->P3,cons_ne_nil->P5,cons_append->P7,length_set->Qf,foldr_cons->Qk,foldl->Qs,all_map->Rf,extract->Rk,length->Ro,map->Rv,map_id->Rx,Nodup->RO
open PySem.Heap renaming get?_push_of_some->HR,get?_push_size->Im,lt_size->Iv,get?_update_other->Jl,size_push->J2,get?_update_self->J6,SameBut->Kn,get?_update_ne->Mb,ExtBut->Ou,size_update->PZ
open Option renaming map_eq_some_iff->HU,map_some->Ja,isSome_iff_exists->Jv,toList->Mk,map_eq_none_iff->My,getD_none->PN,getD_some->P2,bind_some->P6,map_map->QA
open Bool renaming and_eq_true->HX,false_ne_true->IE,false_eq_true->IK,or_eq_true->Kq,not_true->KJ,and_true->Mh,true_and->MN,and_false->Ng,not_eq_true'->NF,false_or->NK,and_eq_false_iff->Od,not_false->Op,and_eq_true_iff->OC,or_false->OR
open Nat renaming le_refl->Ih,ne_of_lt->IA,le_trans->IL,lt_of_lt_of_le->IQ,zero_le->JS,ne_of_gt->JY,lt_irrefl->J3,lt_succ_self->J4,lt_succ_of_lt->KA,le_add_right->KH,div_lt_of_lt_mul->KN,le_succ->Lf,pow_le_pow_right->LW,mul_le_mul_right->LX,le_of_lt->LY,mul_comm->L0,pow_le_pow_left->Mc,le_of_ble_eq_true->ME,succ_le_succ->MH,eq_zero_or_pos->Nu,mod_lt->NX,mul_zero->N1,mul_le_mul->OA,not_lt->O5,lt_or_gt_of_ne->O7,lt_of_le_of_lt->O9,succ_mul->Po,min_self->Ps,pow_succ->PD,le_of_not_lt->PR,succ_ne_zero->PU,min_eq_right->P4,min_eq_left->Ql,add_assoc->QU,sub_zero->Rl,ble->Sr
open PySem.W renaming Frag->Ij,look_both->Jo,keepIn->J0,fnOf->KI,kia_one->Lb,codeIn->Lq,kas_sort->Ly,nsIn->L3,methodObj->NA,cellsFrom_some->NV,OpenLaw->N4,kat_nil->N9,KdlSrc->Ow,WalkO->QQ,Looks->QZ,mg_of->Q7,recOk->Q8,xlAt->Rm
open Array renaming length_toList->Iw,getElem?_toList->JF,size_map->JU,getElem?_eq_some_iff->Kg,getElem?_eq_getElem->KG,map->Lw,mem_toList_iff->LR,toList_extract->LS,getD->Mn,forIn_toList->Mo,mem_of_getElem?->MD,getElem_toList->MR,toList_append->M3,getElem?_map->Nl,perm_iff_toList_perm->Nq,toList_push->NC,toList_map->NR,append_assoc->OY,filterMap->Qi,map_map->QV,toList->Rc
open Int renaming toNat_natCast->IB,natCast_nonneg->IT,emod_lt_of_pos->K4,emod_nonneg->Lc,ediv_nonneg->M1,zero_add->M7,natCast_mul->N5,toNat_of_nonneg->OJ
open Option.some renaming injEq->IW,inj->Jz
open PySem.Value renaming ref->Jb,none->Jn,type->J5,bool->LN,str->MF,int->NO
open PySem.SetTable renaming insertAt->Jf,below->Lr,grown->Mz,Probe->Nk,sizeAbove->Nm,layClean->Pz,fits->QS,sameMemory->RH,relaid->R4,laid->Sj
open PySem.Around renaming under_plainId->Jy,under_plain->O6
open PySem.Obj renaming mapSeq->JZ,data_mapFields->Mp,isFreed_of_fields->Oj,cls_mapFields->Pw,mapFields->QY
open PySem.Builtin.List renaming listExtendWith->J8,listTooLong->Lj,listLengthHint->M5,listSameRef->NJ,listFitsIndex->Qu
open PySem.Builtin.Tuple renaming tupleExact->Kl,tupleItemsOf->LO,tupleHashOf->L5,tupleCompareSizes->PF,tupleIsExact->Qw
open PySem.Builtin.SmallTypes renaming ownedTupleIsFree->Km,ownedTupleHandOut->KR,nextOf->Nz
open PySem.Str renaming ofString->Ko,length->RJ,join->Sh
open ForInStep renaming yield->Kr
open PySem.Builtin.Range renaming rangeSize->Kw,small->M4
open PyProof.Rows renaming callWith_type1->Ky,slot_tuple_getitem->KF,subscriptTail_builtinR->Mx,assignInOrder_cons->M9,AllBare->NB,listUpdate_at->NL,SortKind->NQ,get?_update_seq->N8,IntsAre->OG,entry_tuple_getitem->OI,lt_int->OL,args_tuple_getitem->O0,IsTup->Pc,assignInOrder_nil->Pf,listItems_at->Px,callWith_builtin1->PM,seqEpoch_at->Qd,entry_list_sort->Qj,slicePart_none->Qq,slot_list_sort->QE,args_list_sort->QF,tupleItemsOf_->QM,plain_sorted->Rh,entry_sorted->Ri,args_sorted1->Rj,kind_sorted->Rw,Call_->Sc
open PySem.Builtin.Slice renaming slicePlaces->K7,sliceAdjust->L4,sliceApplied->Nd,slicePartIndex->Qe,sliceFields->QH
open PySem.Heap.SameBut renaming update->Lo,refl->Pu
open PySem.Calls renaming call_function_entry->L6,Name_function_global->M8,Constant_str->OZ
open PySem.F renaming args_tuple_add_2->Mg,entry_tuple_add->Mq,plainAttrs_list->Mt,slot_tuple_add->Mw,slot_dict_get->Og
open PySem.NameKind renaming free->Mj,cell->Sk
open PySem.SeqAt renaming EqAt->MG,notIn_listAt->O1,in_tupleAt->PP,in_listAt->Qg
open True renaming intro->MJ
open PySem.Challenge renaming pw_layworld_k21_whole_like_by_least_forms->MP,rw_layworld_k21_whole_like_by_least_forms->MQ
open PySem.Builtin.Frozenset renaming updateFrom->MZ,newClass->Qx,sizeOf->QT
open PySem.Builtin.Dict_items renaming ownsTuple->M0
open PySem.Builtin.Builtins renaming bindParams->M6
open PySem.Code renaming quiet_builtin->Nn
open Classical renaming byContradiction->Nw,propDecidable->Rb
open PySem.SetTable.probe renaming go->NG
open PySem.Paired renaming length->NH
open PySem.Env renaming kindOf->NZ
open PySem.Builtin.Dict renaming showsAll->Oh,dictSlotNone->QJ,pendingCount->QK
open Sum renaming inl->OD,inr->OE
open PySem.Expr renaming Name->OH
open PySem.Moved renaming eq_with->OT
open PySem.SeqAt.EqAt renaming int_str->OV,str_int->OW,none_bool->Rp,bool_none->Rq,bool_bool->Rr,none_int->Rz,none_str->RA,bool_int->RB,bool_str->RC,int_none->RD,int_bool->RE,str_none->RF,str_bool->RG,int_int->RK,str_str->RL,same->R3
open PUnit renaming unit->O4
open PySem.ScopeKind renaming function->O8
open PySem.AutoListH renaming list___mul___list_int_3->Pb
open PySem.AutoSeq1 renaming list_extend_list_list_0->Pn,sub_tuple_tuple->QR
open PySem.SetTable.below renaming go->Pq
open Function renaming comp_def->PB,comp->Sl
open PyProof.Rows.IsTup renaming new->PK
open PySem.IsL renaming update->PQ
open PySem.Walks renaming list->QD
open PySem.Builtin.Str renaming tooLong->QI,glued->RT
open PySem.Shared renaming TypeIs->QX
open List.Pairwise renaming imp_of_mem->Q5,nil->RP,imp->RW
open Prod.mk renaming injEq->Q6
open PySem.MeetsSeq renaming list_pop_at->Rs
open PySem.Txt renaming join->Rt,mul->Sq
open PySem.Heap.IsSliceOf renaming new->RI
open List.Sublist renaming refl->RV
open PySem.Flow renaming next->RX
open PySem.W.Looks renaming ld->RZ
open List.Perm renaming nil_eq->R0,swap->Sg,map->Si
open PySem.W.XL renaming keeps->R1
open PySem.PassesOwn renaming never->R5
open List.cons renaming injEq->R6
open Prod renaming ext->Sd
open Or renaming inr->Se
open Int.ofNat renaming inj->Sn
set_option genSizeOf false
namespace ZZ.Lean
set_option Elab.async false
set_option linter.all false
set_option maxRecDepth 100000
namespace L2
open PySem PySem.Spec PyProof.Rows
noncomputable abbrev mj:=Sum Ip IH
abbrev Bf:mj->HS->IN
 | .inl k,v=>Value.isInt k v
 | .inr x,v=>Value.isStrOf x v
abbrev F0 (w:Jg):mj->Ip
 | .inl k=>hashInt k
 | .inr x=>hashStr w x
def be:∀ {k:mj} {v:HS},Bf k v=true->(∃i t,k=OD i/\v=NO i t)\/(∃x t,k=OE x/\v=MF x t)
 | .inl i,v,h=>by
  obtain⟨t,e⟩:=Value.isInt_shape (k:=i) (v:=v) h;exact .inl #[i,t,rfl,e]
 | .inr x,v,h=>by
  obtain⟨t,e⟩:=Value.isStrOf_shape (x:=x) (v:=v) h;exact .inr #[x,t,rfl,e]
def BK (a b:Ip):decide ((OD a:mj)=OD b)=(a==b):=by
 by_cases e:a=b
 ·subst e; simp
 ·have h:¬ (OD a:mj)=OD b:=λq=>e (Sum.inl.inj q)
  rw[IX h];exact(L9.mpr e).symm
def BL (a b:IH):decide ((OE a:mj)=OE b)=decide (a=b):=by
 by_cases e:a=b
 ·subst e; simp
 ·have h:¬ (OE a:mj)=OE b:=λq=>e (Sum.inr.inj q)
  rw[IX h,IX e]
def BM (a:Ip)(b:IH):decide ((OD a:mj)=OE b)=false:=IX (λq=>nomatch q)
def BN (a:IH)(b:Ip):decide ((OE a:mj)=OD b)=false:=IX (λq=>nomatch q)
abbrev mo (prog:IZ)(w:Jg):PySem.KeyKind prog w mj where
 is:=Bf
 hash:=F0 w
 inj:=λv a b ha hb=>by
  rcases be ha with⟨i,t,rfl,rfl⟩|⟨x,t,rfl,rfl⟩
  ·rcases be hb with⟨j,u,rfl,e⟩|⟨y,u,rfl,e⟩
   ·injection e with e1 _; rw[e1]
   ·exact nomatch e
  ·rcases be hb with⟨j,u,rfl,e⟩|⟨y,u,rfl,e⟩
   ·exact nomatch e
   ·injection e with e1 _; rw[e1]
 byValue:=λk v h=>by
  rcases be h with⟨i,t,rfl,rfl⟩|⟨x,t,rfl,rfl⟩ <;> rfl
 pyHash:=λhv h=>by
  rcases be hv with⟨i,t,rfl,rfl⟩|⟨x,t,rfl,rfl⟩
  ·exact PH h
  ·exact PJ h
 eqBool:=λhu hv h=>by
  rcases be hu with⟨i,t,rfl,rfl⟩|⟨x,t,rfl,rfl⟩
  ·rcases be hv with⟨j,u,rfl,rfl⟩|⟨y,u,rfl,rfl⟩
   ·rw[BK]at h; exact wpAny_eqBool_int h
   ·rw[BM]at h; exact OV i t y u _ _ _ _ h
  ·rcases be hv with⟨j,u,rfl,rfl⟩|⟨y,u,rfl,rfl⟩
   ·rw[BN]at h; exact OW x t j u _ _ _ _ h
   ·rw[BL]at h; exact wpAny_eqBool_str h
 «strs»:=λk x t v h=>by
  rcases be h with⟨i,u,rfl,e⟩|⟨y,u,rfl,e⟩
  ·exact nomatch e
  ·injection e with e1 _
   subst e1;cases v <;> rfl
inductive V where
 | non|bl (b:IN)|int (i:Ip)|str (x:IH)|byt (b:IM UInt8)|flt (b:UInt64)|ref (a:Ic)|ty (n:JX)
 deriving LM
abbrev RelV:V->HS->Prop
 | .non,u=>u=Jn
 | .bl b,u=>u=LN b
 | .int i,u=>∃t,u=NO i t
 | .str x,u=>∃t,u=MF x t
 | .byt b,u=>∃t,u=Value.bytes b t
 | .flt b,u=>∃t,u=Value.float b t
 | .ref a,u=>u=Jb a
 | .ty n,u=>u=J5 n
noncomputable abbrev Vals:HN V->HN HS->Prop:=NS RelV
def Vals.length {xs:HN V}{us:HN HS}(r:Vals xs us):xs.length=us.length:=NH r
def Vals.get:∀ {xs:HN V} {us:HN HS} {i:HZ} {x:V},Vals xs us->xs[i]?=ba x->∃u,us[i]?=ba u/\RelV x u
 | _,_,_,_,.nil,e=>by simp at e
 | _,_,0,_,.cons r _,e=>by simp at e; subst e; exact#[_,rfl,r]
 | _,_,i+1,x,.cons _ t,e=>by
  obtain⟨u,h1,h2⟩:=Vals.get (i:=i) (x:=x) t (by simpa using e)
  exact#[u,by simpa using h1,h2]
def Vals.set {x:V}{u:HS}(r:RelV x u):∀ {xs:HN V} {us:HN HS} (i:HZ),Vals xs us->Vals (xs.set i x) (us.set i u)
 | _,_,_,.nil=>.nil
 | _,_,0,.cons _ t=>.cons r t
 | _,_,i+1,.cons q t=>.cons q (Vals.set r i t)
def Vals.append:∀ {xs ys:HN V} {us ws:HN HS},Vals xs us->Vals ys ws->Vals (xs++ys) (us++ws)
 | _,_,_,_,.nil,s=>s
 | _,_,_,_,.cons r t,s=>.cons r (Vals.append t s)
def Vals.take:∀ {xs:HN V} {us:HN HS} (n:HZ),Vals xs us->Vals (xs.take n) (us.take n)
 | _,_,0,_=>.nil
 | _,_,_+1,.nil=>.nil
 | _,_,n+1,.cons r t=>.cons r (Vals.take n t)
def Vals.drop:∀ {xs:HN V} {us:HN HS} (n:HZ),Vals xs us->Vals (xs.drop n) (us.drop n)
 | _,_,0,r=>r
 | _,_,_+1,.nil=>.nil
 | _,_,n+1,.cons _ t=>Vals.drop n t
abbrev DT:HY V->HY HS->Prop
 | some v,ba u=>RelV v u
 | none,gV=>OX
 | _,_=>JR
abbrev KV {κ:Type}:HN (κ×V)->HN (κ×HS)->Prop:=NS λ(p:κ×V) (q:κ×HS)=>p.1=q.1/\RelV p.2 q.2
abbrev kV:mj->V
 | .inl i=>.int i
 | .inr x=>.str x
inductive HO where
 | lst (xs:HN V)
 | tup (xs:HN V)
 | dK (U:HN (mj×V))|dT (U:HN (HN mj×V))
 | set (S:Ip->IN) (n:HZ)
 | ins (C dx:Ic) (fs:HN (IH×V))
 | own (x:Ic)
 | xd (fs:HN (IH×V))
 | met (f x:Ic)
 | rng (lo hi:Ip)
 | frz (o:Kb) (u:HO)
 | tbl (ps:IM HS)
 | ext (φ:Jk->Prop)
noncomputable abbrev Hp:=Ic->HY HO
abbrev bh (H:Hp)(a:Ic)(o:HO):Hp:=λb=>if b=a then ba o else H b
def aF {H:Hp}{a:Ic}{o:HO}:bh H a o a=ba o:=by unfold bh; rw[IF rfl]
def aB {H:Hp}{a b:Ic}{o:HO}(h:b≠a):bh H a o b=H b:=by unfold bh; rw[IP h]
def dD {H:Hp}{a b:Ic}{o:HO}(h:H a=ba o)(h':H b=gV):a≠b:=by
 intro e; subst e; rw[h]at h'; cases h'
section
variable (P:IZ) (w:Jg)
abbrev ObjOk (H:Hp)(h:Jk)(a:Ic):HO->Prop
 | .lst xs=>xs.length<=sizeLine/\∃(its:HN HS) (n:HZ),Vals xs its/\h.get? a=ba { cls:=.type "list",data:=.seq its.toArray n }
 | .tup xs=>xs.length<=sizeLine/\∃its:HN HS,Vals xs its/\Pc h a its.toArray
 | .dK U=>U.length<=sizeLine/\(a==sysModules)=false/\∃vs,KV U vs/\h.DictOf (mo P w) a vs
 | .dT U=>U.length<=sizeLine/\(a==sysModules)=false/\∃xs:HN (HN mj×Ic×HS),
   NS (λ(p:HN mj×V) (q:HN mj×Ic×HS)=>p.1=q.1/\H q.2.1=ba (.tup (p.1.map kV))/\RelV p.2 q.2.2) U xs/\
   ∃o es ep,h.get? a=ba o/\o.ExactDict/\o.data=.dict es ep/\es.toList=xs.map (entryOfKey (tupleKind (mo P w)))/\(xs.map (·.1)).Nodup
 | .set S n=>h.SetOf (intKind P w) a S n
 | .ins C dx fs=>H dx=ba (.own a)/\fs.length<=1000/\dx≠a/\h.get? a=ba (PySem.W.instObj C dx)/\
   ∃mA,h.Ns1 dx mA/\(∀f,DT (fs.lookup f) (mA f))/\PySem.Within mA (fs.map (·.1))
 | .own _=>∃o,h.get? a=ba o
 | .xd fs=>∃mA,h.Ns1 a mA/\∀f,DT (fs.lookup f) (mA f)
 | .rng lo hi=>∃t u v,h.get? a=ba { cls:=.type "range",data:=.fields [.int lo t,.int hi u,.int 1 v].toArray }
 | .frz o u=>h.get? a=ba o/\ObjOk H h a u
 | .tbl ps=>h.get? a=ba { cls:=.none,data:=.fields ps }
 | .met f x=>h.get? a=ba (NA (.ref f) (.ref x))
 | .ext φ=>φ h/\(∃o,h.get? a=ba o)/\∀h1 h2:Jk,φ h1->(∀o,h1.get? a=ba o->h2.get? a=ba o)->φ h2
abbrev HOk (H:Hp)(h:Jk):Prop:=∀a o,H a=ba o->ObjOk P w H h a o
end
section
variable{P:IZ}{w:Jg}{H H':Hp}{h h':Jk}{a:Ic}{o:HO}
def ObjOk.lt (x:ObjOk P w H h a o):a < h.objs.size:=by
 cases o with
 | lst xs=>obtain⟨_,_,_,_,e⟩:=x; exact Iv e
 | tup xs=>obtain⟨_,_,_,p⟩:=x; exact p.lt
 | dK U=>obtain⟨_,_,_,_,o,_,_,e,_⟩:=x; exact Iv e
 | dT U=>obtain⟨_,_,_,_,o,_,_,e,_⟩:=x; exact Iv e
 | set S n=>obtain⟨o,_,_,_,e,_⟩:=x; exact Iv e
 | ins C dx fs=>obtain⟨_,_,_,e,_⟩:=x; exact Iv e
 | own y=>obtain⟨_,e⟩:=x; exact Iv e
 | xd fs=>obtain⟨_,⟨_,_,_,e,_⟩,_⟩:=x; exact Iv e
 | rng lo hi=>obtain⟨_,_,_,e⟩:=x; exact Iv e
 | frz ob u=>obtain⟨e,_⟩:=x; exact Iv e
 | tbl ps=>exact Iv (show h.get? a=ba _ from x)
 | met f y=>exact Iv (show h.get? a=ba _ from x)
 | ext φ=>obtain⟨_,⟨_,e⟩,_⟩:=x; exact Iv e
def Paired.mapP {α β:Type}{F G:α->β->Prop}:∀ {l₁:HN α} {l₂:HN β},NS F l₁ l₂->(∀a b,F a b->G a b)->NS G l₁ l₂
 | _,_,.nil,_=>.nil
 | _,_,.cons r t,f=>.cons (f _ _ r) (Paired.mapP t f)
def ObjOk.stay (x:ObjOk P w H h a o)(k:∀b u,(b=a\/H b=ba (.own a))->h.get? b=ba u->h'.get? b=ba u)
  (ho:∀b,H b=ba (.own a)->H' b=ba (.own a)) (ht:∀b xs,H b=ba (.tup xs)->H' b=ba (.tup xs)):ObjOk P w H' h' a o:=by
 induction o with
 | lst xs=>obtain⟨z,its,n,r,e⟩:=x; exact#[z,its,n,r,k _ _ (.inl rfl) e]
 | tup xs=>obtain⟨z,its,r,ob,e,c⟩:=x; exact#[z,its,r,ob,k _ _ (.inl rfl) e,c]
 | dK U=>obtain⟨z,y,vs,r,ob,es,ep,e,c⟩:=x; exact#[z,y,vs,r,ob,es,ep,k _ _ (.inl rfl) e,c]
 | dT U=>
  obtain⟨z,y,xs,r,ob,es,ep,e,c⟩:=x;exact#[z,y,xs,Paired.mapP r λp q z=>#[z.1,ht _ _ z.2.1,z.2.2],ob,es,ep,k _ _ (.inl rfl) e,c]
 | set S n=>obtain⟨ob,es,ep,t,e,c⟩:=x; exact#[ob,es,ep,t,k _ _ (.inl rfl) e,c]
 | ins C dx fs=>
  obtain⟨d,z,ne,e,mA,⟨od,es,ep,e2,c⟩,r⟩:=x;exact#[ho _ d,z,ne,k _ _ (.inl rfl) e,mA,#[od,es,ep,k _ _ (.inr d) e2,c],r]
 | own y=>obtain⟨ob,e⟩:=x; exact#[ob,k _ _ (.inl rfl) e]
 | xd fs=>obtain⟨mA,⟨od,es,ep,e,c⟩,r⟩:=x; exact#[mA,#[od,es,ep,k _ _ (.inl rfl) e,c],r]
 | rng lo hi=>obtain⟨t,u,v,e⟩:=x; exact#[t,u,v,k _ _ (.inl rfl) e]
 | frz ob u ih=>obtain⟨e,q⟩:=x; exact#[k _ _ (.inl rfl) e,ih q]
 | tbl ps=>
  have e:h.get? a=ba { cls:=.none,data:=.fields ps }:=x;show h'.get? a=ba { cls:=.none,data:=.fields ps };exact k a _ (.inl rfl) e
 | met f y=>
  have e:h.get? a=ba (NA (.ref f) (.ref y)):=x;show h'.get? a=ba (NA (.ref f) (.ref y));exact k a _ (.inl rfl) e
 | ext φ=>obtain⟨p,⟨o,e⟩,st⟩:=x; exact#[st _ _ p λo q=>k _ _ (.inl rfl) q,#[o,k _ _ (.inl rfl) e],st]
def HOk.lt (x:HOk P w H h)(e:H a=ba o):a < h.objs.size:=(x a o e).lt
def HOk.fresh (x:HOk P w H h)(e:h.objs.size<=a):H a=gV:=by
 cases q:H a with
 | none=>rfl
 | some u=>exact absurd (IQ (x.lt q) e) (J3 _)
def HOk.kept (x:HOk P w H h)(k:∀b u,h.get? b=ba u->h'.get? b=ba u):HOk P w H h':=λa o e=>
 (x a o e).stay (λb u _ q=>k b u q) (λ_ q=>q) λ_ _ q=>q
def HOk.laid (x:HOk P w H h)(k:∀b u,h.get? b=ba u->h'.get? b=ba u)(hp:h.objs.size<=a)(new:ObjOk P w (bh H a o) h' a o):HOk P w (bh H a o) h':=λb u e=>by
 have hn:=x.fresh hp
 by_cases hb:b=a
 ·subst hb; rw[aF]at e; cases e; exact new
 ·rw[aB hb]at e;exact(x b u e).stay (λc v _ q=>k c v q) (λc q=>by rw[aB (dD q hn)]; exact q) λc xs q=>by rw[aB (dD q hn)]; exact q
end
abbrev Rd (H:Hp)(a:Ic)(u:HO):Prop:=H a=ba u\/∃o,H a=ba (.frz o u)
def Rd.ok {P:IZ}{w:Jg}{H:Hp}{h:Jk}{a:Ic}{u:HO}(r:Rd H a u)(x:HOk P w H h):ObjOk P w H h a u:=by
 rcases r with r|⟨o,r⟩
 ·exact x a u r
 ·obtain⟨_,q⟩:=x a _ r;exact q
abbrev DU:HY HO->Prop
 | some (.lst _)=>OX
 | some (.dK _)=>OX
 | some (.dT _)=>OX
 | some (.set _ _)=>OX
 | some (.ins _ _ _)=>OX
 | some (.ext _)=>OX
 | _=>JR
section
variable{P:IZ}{w:Jg}{H:Hp}{h h':Jk}{x e:Ic}{o':HO}
def HOk.write (ok:HOk P w H h)(mu:DU (H x))(he:e=x\/H e=ba (.own x))(k:∀b u,b≠e->h.get? b=ba u->h'.get? b=ba u)(heo:∃u,h'.get? e=ba u)
  (new:ObjOk P w (bh H x o') h' x o'):HOk P w (bh H x o') h':=λb u q=>by
 have nown:∀c y,H c=ba (.own y)->c≠x:=λc y r z=>by subst z; rw[r]at mu; exact mu
 have ntup:∀c xs,H c=ba (.tup xs)->c≠x:=λc xs r z=>by subst z; rw[r]at mu; exact mu
 by_cases hb:b=x
 ·subst hb; rw[aF]at q; cases q; exact new
 ·rw[aB hb]at q
  by_cases hbe:b=e
  ·have q':H b=ba (.own x):=by
    rcases he with z|z
    ·exact absurd (hbe.trans z) hb
    ·rw[hbe]; exact z
   rw[q]at q'; cases q'
   obtain⟨v,hv⟩:=heo;exact#[v,by rw[hbe]; exact hv]
  ·refine(ok b u q).stay (λc v hc r=>k c v ?_ r) (λc r=>by rw[aB (nown c b r)]; exact r) λc xs r=>by rw[aB (ntup c xs r)]; exact r
   rcases hc with rfl|hc
   ·exact hbe
   ·rintro rfl;rcases he with z|z
    ·exact nown c b hc z
    ·rw[hc]at z; cases z; exact hb rfl
end
structure Un (fs ex:HN Ic)(H H':Hp)(h h':Jk):Prop where
 keep:∀b o,h.get? b=ba o->H b=gV->b∉fs->b∉ex->h'.get? b=ba o
 slot:∀b o,h.get? b=ba o->H b=gV->b∈fs->b∉ex->∃sl,h'.get? b=ba { o with slots:=sl }
 free:∀b o,h.get? b=ba o->H b=gV->b∉ex->H' b=gV
 there:∀b o,h.get? b=ba o->b∉ex->∃o',h'.get? b=ba o'
 tups:∀b xs,H b=ba (.tup xs)->H' b=ba (.tup xs)
 frzs:∀b o u,H b=ba (.frz o u)->H' b=ba (.frz o u)
 tbls:∀b ps,H b=ba (.tbl ps)->∃more,H' b=ba (.tbl (ps++more))
section
variable{fs fs' ex ex':HN Ic}{H H1 H2:Hp}{h h1 h2 h':Jk}{a x e:Ic}{o:HO}
def Un.any (u:Un fs ex H H1 h h1){b:Ic}{ob:Kb}(q:h.get? b=ba ob)(n:H b=gV)(hx:b∉ex):∃sl,h1.get? b=ba { ob with slots:=sl }:=by
 by_cases hb:b∈fs
 ·exact u.slot b ob q n hb hx
 ·exact#[ob.slots,u.keep b ob q n hb hx]
def Un.trans (a:Un fs ex H H1 h h1)(b:Un fs ex H1 H2 h1 h2):Un fs ex H H2 h h2 where
 keep:=λc ob q n hc hx=>b.keep c ob (a.keep c ob q n hc hx) (a.free c ob q n hx) hc hx
 slot:=λc ob q n hc hx=>by
  obtain⟨sl,e1⟩:=a.slot c ob q n hc hx;obtain⟨sl',e2⟩:=b.slot c _ e1 (a.free c ob q n hx) hc hx;exact#[sl',e2]
 free:=λc ob q n hx=>by
  obtain⟨o',e1⟩:=a.there c ob q hx;exact b.free c o' e1 (a.free c ob q n hx) hx
 there:=λc ob q hx=>by
  obtain⟨o',e1⟩:=a.there c ob q hx;exact b.there c o' e1 hx
 tups:=λc xs q=>b.tups c xs (a.tups c xs q)
 frzs:=λc ob xs q=>b.frzs c ob xs (a.frzs c ob xs q)
 tbls:=λc ps q=>by
  obtain⟨m1,e1⟩:=a.tbls c ps q;obtain⟨m2,e2⟩:=b.tbls c _ e1;exact#[m1++m2,by rw[e2,OY]]
def Un.kept (k:∀b u,h.get? b=ba u->h'.get? b=ba u):Un fs ex H H h h':=
 #[λb ob q _ _ _=>k b ob q,λb ob q _ _ _=>#[ob.slots,k b ob q],λ_ _ _ n _=>n,λb ob q _=>#[ob,k b ob q],λ_ _ q=>q,λ_ _ _ q=>q,λ_ ps q=>#[#[],by rw[q]; simp]]
def Un.refl:Un fs ex H H h h:=Un.kept λ_ _ q=>q
def Un.laid (k:∀b u,h.get? b=ba u->h'.get? b=ba u)(hp:h.objs.size<=a)(hn:H a=gV):Un fs ex H (bh H a o) h h' where
 keep:=λb u q _ _ _=>k b u q
 slot:=λb u q _ _ _=>#[u.slots,k b u q]
 free:=λb u q n _=>by rw[aB (IA (IQ (Iv q) hp))]; exact n
 there:=λb u q _=>#[u,k b u q]
 tups:=λb xs q=>by rw[aB (dD q hn)]; exact q
 frzs:=λb u xs q=>by rw[aB (dD q hn)]; exact q
 tbls:=λb ps q=>#[#[],by rw[aB (dD q hn),q]; simp]
def Un.write (mu:DU (H x))(he:e=x\/H e=ba (.own x))(k:∀b u,b≠e->h.get? b=ba u->h'.get? b=ba u)(heo:∃u,h'.get? e=ba u):Un fs ex H (bh H x o) h h':=by
 have hx:∀b,H b=gV->b≠x:=λb n z=>by subst z; rw[n]at mu; exact mu
 have hb:∀b,H b=gV->b≠e:=λb n z=>by
  subst z;rcases he with r|r
  ·exact hx b n r
  ·rw[n]at r; cases r
 have hm:∀b u,H b=ba u->¬ DU (ba u)->b≠x:=λb u q nm z=>by subst z; rw[q]at mu; exact nm mu
 refine#[λb u q n _ _=>k b u (hb b n) q,λb u q n _ _=>#[u.slots,k b u (hb b n) q],λb u q n _=>by rw[aB (hx b n)]; exact n,λb u q _=>?_,
  λb xs q=>by rw[aB (hm b _ q λz=>z)]; exact q,λb u xs q=>by rw[aB (hm b _ q λz=>z)]; exact q,λb ps q=>#[#[],by rw[aB (hm b _ q λz=>z),q]; simp]]
 by_cases hbe:b=e
 ·subst hbe; exact heo
 ·exact#[u,k b u hbe q]
end
abbrev FL (h:Jk)(H:Hp):HN Ic:=(ID h.objs.size).filter λa=>(H a).isSome
abbrev mq (h:Jk)(H:Hp):Jk:=PySem.W.hideAll h (FL h H)
def tD (h:Jk)(H:Hp):(mq h H).objs.size=h.objs.size:=PySem.W.hideAll_size _ _
def u8 {h:Jk}{H:Hp}{b:Ic}{o:Kb}(e:h.get? b=ba o)(n:H b=gV):(mq h H).get? b=ba o:=
 PySem.W.hideAll_get _ e λhm=>by
  have q:(H b).isSome=true:=(JI.mp hm).2;rw[n]at q; simp at q
def yM {h:Jk}{H:Hp}{b:Ic}{o:Kb}(e:(mq h H).get? b=ba o):h.get? b=ba o/\H b=gV:=by
 have e':h.get? b=ba o:=PySem.W.of_hideAll (FL h H) e;refine#[e',?_];cases q:H b with
 | none=>rfl
 | some x=>
  have hm:b∈FL h H:=JI.mpr #[IR.mpr (Iv e'),by simp[q]]
  have z:(mq h H).get? b=gV:=PySem.W.hideAll_none (FL h H) hm;rw[z]at e; cases e
abbrev yN (g h:Jk)(L:Ic):HN (Ic×Kb):=(ID h.objs.size).filterMap λa=>if a=L\/(g.get? a).isSome=true then gV else(h.get? a).map λo=>(a,o)
abbrev bj (g h:Jk)(L d:Ic):HN (Ic×Kb):=(yN g h L).filter λp=>decide (p.1≠d)
structure Mod (K:Ij)(mg:IH->HY HS)(base:Jk):Prop where
 kin:K.In base
 glob:base.Ns mainGlobals mg
 blt:∃mb,base.Ns builtinsNs mb/\∀x:IH,x≠"__name__"->mb x=bootBuiltins x
 nolimit:base.NoLimit
structure Cx where
 prog:IZ
 w:Jg
 K:Ij
 mg:IH->HY HS
 base:Jk
 A:Jd
 N:HN IH
 s₀:HV
 H₀:Hp
 env:Pd
 outer:HN Pd
 stack:HN Pd
 ex:HN Ic
 fn:IH->IN
 calm:IN
 pn:HN (Ic×Kb)
 xe:HS->HV->Prop
abbrev qp (l:HN Pd):HN Ic:=l.filterMap (·.frame)
noncomputable abbrev Cx.fs (X:Cx):HN Ic:=qp X.outer
abbrev FM (sc:LJ)(x:IH):Prop:=sc.names.lookup x=ba .local\/sc.names.lookup x=ba .cell\/sc.names.lookup x=ba .free
abbrev yO (sc:LJ)(x:IH):Prop:=sc.names.lookup x=ba .local\/sc.names.lookup x=ba .cell
abbrev F1 (env:Pd)(h:Jk)(m:IH->HY HS)(x:IH)(u:HS):Prop:=
 (env.kindOf x=ba .local/\m x=ba u)\/((env.kindOf x=ba .cell\/env.kindOf x=ba .free)/\∃c,env.cells.lookup x=ba c/\h.IsCell c (ba u))
structure Cx.Ok (X:Cx):Prop where
 mod:Mod X.K X.mg X.base
 kind:X.env.scope.kind=.function
 glob:X.env.globals=mainGlobals
 blt:X.env.builtins=builtinsNs
 above:X.s₀.heap.objs.size<=X.env.locals
 inj:∀x y c,X.env.cells.lookup x=ba c->X.env.cells.lookup y=ba c->x=y
 has:∀x,(X.env.kindOf x=ba .cell\/X.env.kindOf x=ba .free)->∃c,X.env.cells.lookup x=ba c
 cab:∀x c,X.fn x=true->X.env.cells.lookup x=ba c->X.s₀.heap.objs.size<=c
 hd:X.calm=true->X.A.handled=gV
 frames:X.A.frames=ba X.stack
 stk:X.stack=X.outer\/(X.stack=X.env::X.outer/\X.env.frame=ba X.env.locals)
 exf:∀b∈X.ex,b≠X.env.locals/\∀x c,X.env.cells.lookup x=ba c->c≠b
 bs:∀b o,X.base.get? b=ba o->X.s₀.heap.get? b=ba o/\X.H₀ b=gV
 bsz:X.base.objs.size<=X.s₀.heap.objs.size
 noex:∀b o,X.base.get? b=ba o->b∉X.ex
 exfs:∀b∈X.ex,b∉X.fs
 funs:X.s₀.heap.FunFrames X.base X.outer
 frf:∀b∈X.fs,X.H₀ b=gV
structure Inv (X:Cx)(J:HN (Ic×Kb))(Y:HN (HY V))(H:Hp)(s:HV):Prop where
 ok:X.Ok
 os:s.os=X.s₀.os
 bare:NB s.gens
 base:Un X.fs X.ex X.H₀ H X.s₀.heap s.heap
 loc:∃m,s.heap.Ns X.env.locals m/\∀(i:HZ) (x:IH) (v:V),X.N[i]?=ba x->Y[i]?=ba (ba v)->FM X.env.scope x->∃u,RelV v u/\F1 X.env s.heap m x u
 cell:∀x c,X.env.cells.lookup x=ba c->∃v,s.heap.IsCell c v
 free:H X.env.locals=gV
 freeC:∀x c,X.env.cells.lookup x=ba c->H c=gV
 pin:∀p∈X.pn++J,s.heap.get? p.1=ba p.2/\H p.1=gV/\p.1≠X.env.locals/\p.1∉X.fs/\∀v,p.2.data≠.cell v
 hok:HOk X.prog X.w H s.heap
 len:Y.length=X.N.length
section
variable{X:Cx}{J:HN (Ic×Kb)}{Y:HN (HY V)}{H H':Hp}{s:HV}{h':Jk}
def Cx.Ok.nofr (ok:X.Ok){b:Ic}{o:Kb}(e:X.base.get? b=ba o):b∉X.fs:=λhb=>by
 have:=(ok.funs.mem hb).1;rw[e]at this; cases this
def Inv.bs (I:Inv X J Y H s):∀b o,X.base.get? b=ba o->s.heap.get? b=ba o/\H b=gV:=λb o e=>
 #[I.base.keep b o (I.ok.bs b o e).1 (I.ok.bs b o e).2 (I.ok.nofr e) (I.ok.noex b o e),I.base.free b o (I.ok.bs b o e).1 (I.ok.bs b o e).2 (I.ok.noex b o e)]
def Inv.bk (I:Inv X J Y H s):∀b o,X.base.get? b=ba o->s.heap.get? b=ba o:=λb o e=>(I.bs b o e).1
def Inv.mod (I:Inv X J Y H s):Mod X.K X.mg X.base:=I.ok.mod
def Inv.kIn (I:Inv X J Y H s):X.K.In s.heap:=I.ok.mod.kin.keeps I.bk
def Inv.lt (I:Inv X J Y H s):X.env.locals < s.heap.objs.size:=let ⟨_,hn,_⟩:=I.loc; hn.lt
def Inv.sz (I:Inv X J Y H s):X.s₀.heap.objs.size<=s.heap.objs.size:=IL I.ok.above (LY I.lt)
def Inv.nofs (I:Inv X J Y H s){a:Ic}(h:s.heap.objs.size<=a):a∉X.fs:=λhb=>by
 obtain⟨_,o,ho,_⟩:=I.ok.funs.mem hb;exact absurd (IQ (Iv ho) (IL I.sz h)) (J3 _)
def Inv.cne (I:Inv X J Y H s):∀x c,X.env.cells.lookup x=ba c->c≠X.env.locals:=λx c e z=>by
 obtain⟨v,o,ho,hd⟩:=I.cell x c e;obtain⟨m,⟨o',es,ep,ho',hd',_⟩,_⟩:=I.loc;rw[z,ho']at ho; cases ho; rw[hd']at hd; cases hd
def Inv.funs (I:Inv X J Y H s):s.heap.FunFrames X.base X.outer:=by
 have all:∀(l:HN Pd),(∀b∈qp l,b∈X.fs)->X.s₀.heap.FunFrames X.base l->s.heap.FunFrames X.base l:=by
  intro l
  induction l with
  | nil=>intro _ _; trivial
  | cons env r ih=>
   intro hs hl;obtain⟨hk,⟨L,o,hf,hn,ho,hd⟩,hr⟩:=hl;have hL:L∈X.fs:=hs L (by unfold qp; rw[Ma,hf]; exact JJ)
   obtain⟨sl,e⟩:=I.base.slot L o ho (I.ok.frf L hL) hL λz=>I.ok.exfs L z hL
   exact#[hk,#[L,_,hf,hn,e,hd],ih (λb hb=>hs b (by unfold qp; rw[Ma,hf]; exact JD _ hb)) hr]
 exact all X.outer (λ_ hb=>hb) I.ok.funs
def Inv.stack (I:Inv X J Y H s):s.heap.FunFrames X.base X.stack:=by
 rcases I.ok.stk with e|⟨e,hf⟩
 ·rw[e]; exact I.funs
 ·rw[e];obtain⟨m,hn,_⟩:=I.loc;refine .cons (by rw[I.ok.kind]; decide) hf hn ?_ I.funs
  exact Heap.get?_none_of_le (IL I.ok.bsz I.ok.above)
def Inv.stkSub (I:Inv X J Y H s):∀b∈qp X.stack,b∈X.env.locals::X.fs:=λb hb=>by
 rcases I.ok.stk with e|⟨e,hf⟩
 ·rw[e]at hb; exact JD _ hb
 ·rw[e]at hb;unfold qp at hb;rw[Ma,hf]at hb;exact hb
def Inv.stkFree (I:Inv X J Y H s):∀b∈qp X.stack,H b=gV:=λb hb=>by
 rcases IC.mp (I.stkSub b hb)with e|hb
 ·rw[e]; exact I.free
 ·obtain⟨_,o,ho,_⟩:=I.ok.funs.mem hb;exact I.base.free b o ho (I.ok.frf b hb) λz=>I.ok.exfs b z hb
def Inv.step {g':IM On}{t':HZ}{d':R7}{ch:HN Ic}(I:Inv X J Y H s)
  (hch:∀b∈ch,(b∈X.ex\/X.s₀.heap.objs.size<=b)/\b≠X.env.locals/\(∀x c,X.env.cells.lookup x=ba c->c≠b)/\∀p∈X.pn++J,p.1≠b)
  (keep:∀b o,b≠X.env.locals->b∉X.fs->b∉ch->s.heap.get? b=ba o->H b=gV->h'.get? b=ba o)
  (slot:∀b o,b≠X.env.locals->b∈X.fs->b∉ch->s.heap.get? b=ba o->H b=gV->∃sl,h'.get? b=ba { o with slots:=sl }) (free:∀b o,b∉ch->s.heap.get? b=ba o->H b=gV->H' b=gV)
  (there:∀b o,b∉ch->s.heap.get? b=ba o->∃o',h'.get? b=ba o')
  (tups:∀b xs,H b=ba (.tup xs)->H' b=ba (.tup xs)) (frzs:∀b o u,H b=ba (.frz o u)->H' b=ba (.frz o u)) (tbls:∀b ps,H b=ba (.tbl ps)->∃more,H' b=ba (.tbl (ps++more)))
  (ns:∀m,s.heap.Ns X.env.locals m->h'.Ns X.env.locals m) (hok:HOk X.prog X.w H' h') (hg:NB g') :
  Inv X J Y H' { s with heap:=h',gens:=g',drawn:=d',toks:=t' }:=by
 have neL:∀b o,X.s₀.heap.get? b=ba o->b≠X.env.locals:=λb o e=>IA (IQ (Iv e) I.ok.above)
 have neC:∀b o,X.s₀.heap.get? b=ba o->b∉X.ex->b∉ch:=λb o e hx hb=>by
  rcases(hch b hb).1 with z|z
  ·exact hx z
  ·exact absurd (IQ (Iv e) z) (J3 _)
 have cellK:∀x c,X.env.cells.lookup x=ba c->∀v,s.heap.IsCell c v->h'.IsCell c v:=λx c e v #[o,ho,hd]=>by
  have nch:c∉ch:=λz=>(hch c z).2.2.1 x c e rfl
  by_cases hc:c∈X.fs
  ·obtain⟨sl,q⟩:=slot c o (I.cne x c e) hc nch ho (I.freeC x c e);exact#[_,q,hd]
  ·exact#[o,keep c o (I.cne x c e) hc nch ho (I.freeC x c e),hd]
 refine#[I.ok,I.os,hg,#[λb o e n hb hx=>?_,λb o e n hb hx=>?_,λb o e n hx=>?_,λb o e hx=>?_,λb xs e=>tups b xs (I.base.tups b xs e),λb o xs e=>frzs b o xs (I.base.frzs b o xs e),λb ps e=>?_],?_,λx c e=>?_,?_,λx c e=>?_,λp hp=>?_,hok,I.len]
 ·exact keep b o (neL b o e) hb (neC b o e hx) (I.base.keep b o e n hb hx) (I.base.free b o e n hx)
 ·obtain⟨sl,e1⟩:=I.base.slot b o e n hb hx;obtain⟨sl',e2⟩:=slot b _ (neL b o e) hb (neC b o e hx) e1 (I.base.free b o e n hx);exact#[sl',e2]
 ·obtain⟨o',e1⟩:=I.base.there b o e hx;exact free b o' (neC b o e hx) e1 (I.base.free b o e n hx)
 ·obtain⟨o',e1⟩:=I.base.there b o e hx;exact there b o' (neC b o e hx) e1
 ·obtain⟨m1,e1⟩:=I.base.tbls b ps e;obtain⟨m2,e2⟩:=tbls b _ e1;exact#[m1++m2,by rw[e2,OY]]
 ·obtain⟨m,hn,hl⟩:=I.loc;refine#[m,ns m hn,λi x v e1 e2 e3=>?_]
  obtain⟨u,r,l⟩:=hl i x v e1 e2 e3;refine#[u,r,?_];rcases l with l|⟨k,c,e,z⟩
  ·exact .inl l
  ·exact .inr #[k,c,e,cellK x c e _ z]
 ·obtain⟨v,z⟩:=I.cell x c e;exact#[v,cellK x c e v z]
 ·obtain⟨m,⟨o,_,_,ho,_⟩,_⟩:=I.loc;exact free _ o (λz=>(hch _ z).2.1 rfl) ho I.free
 ·obtain⟨v,o,ho,hd⟩:=I.cell x c e;exact free c o (λz=>(hch c z).2.2.1 x c e rfl) ho (I.freeC x c e)
 ·obtain⟨e,n,ne,nf,d⟩:=I.pin p hp;have nch:p.1∉ch:=λz=>(hch p.1 z).2.2.2 p hp rfl
  exact#[keep p.1 p.2 ne nf nch e n,free p.1 p.2 nch e n,ne,nf,d]
def Inv.un {t':HZ}(I:Inv X J Y H s)(u:Un X.fs [] H H' s.heap h')(hok:HOk X.prog X.w H' h'):Inv X J Y H' { s with heap:=h',toks:=t' }:=by
 obtain⟨m,⟨o,es,ep,ho,r⟩,_⟩:=id I.loc;obtain⟨sl,hL⟩:=u.any ho I.free (by simp)
 exact I.step (g':=s.gens) (d':=s.drawn) (ch:=[]) (λ_ z=>nomatch z) (λb o _ hb _ e n=>u.keep b o e n hb (by simp)) (λb o _ hb _ e n=>u.slot b o e n hb (by simp)) (λb o _ e n=>u.free b o e n (by simp)) (λb o _ e=>u.there b o e (by simp)) u.tups u.frzs u.tbls (λm' hm=>by
  obtain⟨o',es',ep',ho',r'⟩:=hm;rw[ho]at ho'; cases ho'
  exact#[_,es',ep',hL,r']) hok I.bare
def Inv.call {g':IM On}{t':HZ}{d':R7}{ch:HN Ic}(I:Inv X J Y H s)(u:Un (qp X.stack) ch H H' s.heap h')(hok:HOk X.prog X.w H' h')(hg:NB g')
  (hch:∀b∈ch,(b∈X.ex\/X.s₀.heap.objs.size<=b)/\b≠X.env.locals/\(∀x c,X.env.cells.lookup x=ba c->c≠b)/\∀p∈X.pn++J,p.1≠b) :
  Inv X J Y H' { s with heap:=h',gens:=g',drawn:=d',toks:=t' }:=by
 obtain⟨m,⟨o,es,ep,ho,r⟩,_⟩:=id I.loc;obtain⟨sl,hL⟩:=u.any ho I.free λz=>(hch _ z).2.1 rfl
 exact I.step (ch:=ch) hch (λb o hL hb hc e n=>u.keep b o e n (λz=>(IC.mp (I.stkSub b z)).elim hL hb) hc) (λb o _ _ hc e n=>u.any e n hc) (λb o hc e n=>u.free b o e n hc) (λb o hc e=>u.there b o e hc) u.tups u.frzs u.tbls (λm' hm=>by
  obtain⟨o',es',ep',ho',r'⟩:=hm;rw[ho]at ho'; cases ho'
  exact#[_,es',ep',hL,r']) hok hg
def Inv.turned {t':HZ}{it:Ic}(I:Inv X J Y H s)(k:∀b o,b≠it->s.heap.get? b=ba o->h'.get? b=ba o)(hn:H it=gV)(hL:it≠X.env.locals)
  (h1:it∈X.ex\/X.s₀.heap.objs.size<=it) (h2:∀x c,X.env.cells.lookup x=ba c->c≠it) (h3:∀p∈X.pn++J,p.1≠it):Inv X J Y H { s with heap:=h',toks:=t' }:=by
 have nit:∀b u,H b=ba u->b≠it:=λb u e z=>by rw[z,hn]at e; cases e
 refine I.step (g':=s.gens) (d':=s.drawn) (ch:=[it]) (λb hb=>?_) (λb o _ _ hc e _=>k b o (λz=>hc (by simp[z])) e) (λb o _ _ hc e _=>#[o.slots,k b o (λz=>hc (by simp[z])) e]) (λ_ _ _ _ n=>n)
  (λb o hc e=>#[o,k b o (λz=>hc (by simp[z])) e]) (λ_ _ e=>e) (λ_ _ _ e=>e) (λb ps e=>#[#[],by rw[e]; simp]) (λm hm=>?_) (λb u e=>?_) I.bare
 ·have e:b=it:=by simpa using hb
  subst e;exact#[h1,hL,h2,h3]
 ·obtain⟨o,es,ep,ho,r⟩:=hm;exact#[o,es,ep,k _ o (Ne.symm hL) ho,r]
 ·refine(I.hok b u e).stay (λc v hc q=>k c v ?_ q) (λ_ q=>q) λ_ _ q=>q
  rcases hc with z|z
  ·rw[z]; exact nit b u e
  ·exact nit c _ z
def Inv.tok (I:Inv X J Y H s)(t:HZ):Inv X J Y H { s with toks:=t }:=I.un (h':=s.heap) (t':=t) Un.refl I.hok
def Inv.kept {t':HZ}(I:Inv X J Y H s)(k:∀b u,s.heap.get? b=ba u->h'.get? b=ba u):Inv X J Y H { s with heap:=h',toks:=t' }:=I.un (Un.kept k) (I.hok.kept k)
def Inv.laid {a:Ic}{o:HO}{t':HZ}(I:Inv X J Y H s)(k:∀b u,s.heap.get? b=ba u->h'.get? b=ba u)(hp:s.heap.objs.size<=a)(new:ObjOk X.prog X.w (bh H a o) h' a o) :
  Inv X J Y (bh H a o) { s with heap:=h',toks:=t' }:=I.un (Un.laid k hp (I.hok.fresh hp)) (I.hok.laid k hp new)
def Inv.write {x e:Ic}{o:HO}{t':HZ}(I:Inv X J Y H s)(mu:DU (H x))(he:e=x\/H e=ba (.own x))(k:∀b u,b≠e->s.heap.get? b=ba u->h'.get? b=ba u)(heo:∃u,h'.get? e=ba u)
  (new:ObjOk X.prog X.w (bh H x o) h' x o):Inv X J Y (bh H x o) { s with heap:=h',toks:=t' }:=I.un (Un.write mu he k heo) (I.hok.write mu he k heo new)
def Inv.pins_of {J':HN (Ic×Kb)}(I:Inv X J Y H s)(h:∀p∈J',s.heap.get? p.1=ba p.2/\H p.1=gV/\p.1≠X.env.locals/\p.1∉X.fs/\∀v,p.2.data≠.cell v):Inv X J' Y H s:=
 #[I.ok,I.os,I.bare,I.base,I.loc,I.cell,I.free,I.freeC,λp hp=>(IY.mp hp).elim (λz=>I.pin p (JN _ z)) (h p),I.hok,I.len]
def nQ {N:HN IH}(hN:N.Nodup){i j:HZ}{x:IH}(a:N[i]?=ba x)(b:N[j]?=ba x):i=j:=by
 obtain⟨h1,e1⟩:=Il.mp a;obtain⟨h2,e2⟩:=Il.mp b;exact(Kv hN).mp (e1.trans e2.symm)
def tF {tx:R8}{A:Jd}{E:HS->HV->Prop}{i:HZ}{x:IH}{v:V}{u:HS}{Q:R9->HV->Prop}(I:Inv X J Y H s)(hN:X.N.Nodup)(hi:X.N[i]?=ba x)(hx:yO X.env.scope x)(r:RelV v u)
  (h:∀s',Inv X J (Y.set i (ba v)) H s'->(∃a,Kn a s.heap s'.heap/\(a=X.env.locals\/X.env.cells.lookup x=ba a))->Q () s') (hf:X.fn x=true\/X.env.scope.names.lookup x=ba .local):wpAny tx A (storeName X.env x u) Q E s:=by
 obtain⟨m,hn,hl⟩:=id I.loc;have hcls:(X.env.scope.kind==.class||(X.env.scope.kind==.module&&X.env.locals != X.env.globals))=false:=by rw[I.ok.kind]; rfl
 have hiσ:i < Y.length:=by rw[I.len]; exact(Il.mp hi).1
 have cne:=I.cne;have tracked:∀ {a:Ic} {h':Jk},(∃o,s.heap.get? a=ba o/\H a=gV)->Kn a s.heap h'->HOk X.prog X.w H h':=λ{a h'} ha hs b ob e=>by
  obtain⟨_,_,hfree⟩:=ha;refine(I.hok b ob e).stay (λc w' hc q=>(hs.2 c ?_).trans q) (λ_ q=>q) λ_ _ q=>q
  rintro rfl;rcases hc with rfl|hc
  ·rw[hfree]at e; cases e
  ·rw[hfree]at hc; cases hc
 rcases hx with hk|hk
 ·refine wpAny_storeName_local hk hn (λh' hn' hs=>?_) hcls
  obtain⟨oL,_,_,hoL,_⟩:=id hn;refine h _ #[I.ok,I.os,I.bare,#[λb o e n hb hx=>?_,λb o e n hb hx=>?_,I.base.free,λb o e hx=>?_,I.base.tups,I.base.frzs,I.base.tbls],#[_,hn',λj y v' e1 e2 e3=>?_],λy c e=>?_,I.free,I.freeC,λp hp=>?_,tracked #[oL,hoL,I.free] hs,by simpa using I.len] #[_,hs,.inl rfl]
  ·exact(hs.2 b (IA (IQ (Iv e) I.ok.above))).trans (I.base.keep b o e n hb hx)
  ·obtain⟨sl,e1⟩:=I.base.slot b o e n hb hx;exact#[sl,(hs.2 b (IA (IQ (Iv e) I.ok.above))).trans e1]
  ·obtain⟨o',e1⟩:=I.base.there b o e hx;exact#[o',(hs.2 b (IA (IQ (Iv e) I.ok.above))).trans e1]
  ·by_cases hj:j=i
   ·subst hj;rw[hi]at e1; cases e1
    rw[NT hiσ]at e2;cases e2;exact#[u,r,.inl #[hk,by simp]]
   ·rw[Oo (Ne.symm hj)]at e2;obtain⟨u',r',q⟩:=hl j y v' e1 e2 e3;refine#[u',r',?_];rcases q with⟨k,e⟩|⟨k,c,e,z⟩
    ·refine .inl #[k,?_];have:y≠x:=λe=>hj (nQ hN e1 (e ▸ hi))
     simp[this,e]
    ·exact .inr #[k,c,e,z.sameBut hs (cne y c e)]
  ·obtain⟨w',z⟩:=I.cell y c e;exact#[w',z.sameBut hs (cne y c e)]
  ·obtain⟨e,n,ne,nf,d⟩:=I.pin p hp;exact#[(hs.2 p.1 ne).trans e,n,ne,nf,d]
 ·have hfn:X.fn x=true:=by
   rcases hf with z|z
   ·exact z
   ·rw[z]at hk; cases hk
  obtain⟨c,hc⟩:=I.ok.has x (.inl hk);obtain⟨w',z⟩:=I.cell x c hc;refine wpAny_storeName_cell I.ok.kind hk hc z (λh' hc' hs=>?_)
  obtain⟨oc,hoc,hocd⟩:=id z;refine h { s with heap:=h' } #[I.ok,I.os,I.bare,#[λb o e n hb hx=>?_,λb o e n hb hx=>?_,I.base.free,λb o e hx=>?_,I.base.tups,I.base.frzs,I.base.tbls],#[m,hn.sameBut hs (Ne.symm (cne x c hc)),λj y v' e1 e2 e3=>?_],λy c' e=>?_,I.free,I.freeC,λp hp=>?_,tracked #[oc,hoc,I.freeC x c hc] hs,by simpa using I.len] #[c,hs,.inr hc]
  ·exact(hs.2 b (IA (IQ (Iv e) (I.ok.cab x c hfn hc)))).trans (I.base.keep b o e n hb hx)
  ·obtain⟨sl,e1⟩:=I.base.slot b o e n hb hx;exact#[sl,(hs.2 b (IA (IQ (Iv e) (I.ok.cab x c hfn hc)))).trans e1]
  ·obtain⟨o',e1⟩:=I.base.there b o e hx;exact#[o',(hs.2 b (IA (IQ (Iv e) (I.ok.cab x c hfn hc)))).trans e1]
  ·by_cases hj:j=i
   ·subst hj;rw[hi]at e1; cases e1
    rw[NT hiσ]at e2;cases e2;exact#[u,r,.inr #[.inl hk,c,hc,hc']]
   ·rw[Oo (Ne.symm hj)]at e2;obtain⟨u',r',q⟩:=hl j y v' e1 e2 e3;refine#[u',r',?_];rcases q with q|⟨k,c',e,z'⟩
    ·exact .inl q
    ·refine .inr #[k,c',e,z'.sameBut hs ?_];rintro rfl;exact hj (nQ hN e1 (I.ok.inj _ _ _ e hc ▸ hi))
  ·by_cases hcc:c'=c
   ·subst hcc; exact#[_,hc']
   ·obtain⟨w2,z2⟩:=I.cell y c' e;exact#[w2,z2.sameBut hs hcc]
  ·obtain⟨e,n,ne,nf,d⟩:=I.pin p hp;refine#[(hs.2 p.1 ?_).trans e,n,ne,nf,d];intro q;rw[q,hoc]at e;have q':oc=p.2:=Jz e;exact d w' (by rw[<- q']; exact hocd)
def gJ {tx:R8}{A:Jd}{E:HS->HV->Prop}{i:HZ}{x:IH}{v:V}{u:HS}{Q:R9->HV->Prop}(I:Inv X J Y H s)(hN:X.N.Nodup)(hi:X.N[i]?=ba x)(hx:yO X.env.scope x)(r:RelV v u)
  (h:∀s',Inv X J (Y.set i (ba v)) H s'->Q () s') (hf:X.fn x=true\/X.env.scope.names.lookup x=ba .local):wpAny tx A (storeName X.env x u) Q E s:=
 tF I hN hi hx r (λs' I' _=>h s' I') hf
def Inv.call' {s':HV}{ch:HN Ic}(I:Inv X J Y H s)(ho:s'.os=s.os)(u:Un (qp X.stack) ch H H' s.heap s'.heap)(hok:HOk X.prog X.w H' s'.heap)(hg:NB s'.gens)
  (hch:∀b∈ch,(b∈X.ex\/X.s₀.heap.objs.size<=b)/\b≠X.env.locals/\(∀x c,X.env.cells.lookup x=ba c->c≠b)/\∀p∈X.pn++J,p.1≠b):Inv X J Y H' s':=by
 obtain⟨h',g',d',t',o'⟩:=s';have e:o'=s.os:=ho;subst e;exact I.call (g':=g') (t':=t') (d':=d') u hok hg hch
end
noncomputable abbrev XK:=HS->HY Ic->Hp->Prop
noncomputable abbrev St:=HN (HY V)
noncomputable abbrev VK:=V->Hp->Prop
noncomputable abbrev TE:=St->Hp->VK->Prop
noncomputable abbrev TT:=St->Hp->(IN->Hp->Prop)->Prop
noncomputable abbrev TA:=St->Hp->(HN V->Hp->Prop)->Prop
structure Ends where
 nx:St->Hp->Prop
 rt:VK
 bk:St->Hp->Prop:=λ_ _=>JR
 ct:St->Hp->Prop:=λ_ _=>JR
noncomputable abbrev TS:=Ends->St->Hp->Prop
abbrev EP (X:Cx)(J:HN (Ic×Kb))(Y:St)(Q:VK)(u:HS)(s':HV):Prop:=∃v H',Inv X J Y H' s'/\RelV v u/\Q v H'
abbrev TP (X:Cx)(J:HN (Ic×Kb))(Y:St)(Q:IN->Hp->Prop)(b:IN)(s':HV):Prop:=∃H',Inv X J Y H' s'/\Q b H'
abbrev AP (X:Cx)(J:HN (Ic×Kb))(Y:St)(Q:HN V->Hp->Prop)(us:HN HS)(s':HV):Prop:=∃vs H',Inv X J Y H' s'/\Vals vs us/\Q vs H'
abbrev SP (X:Cx)(J:HN (Ic×Kb))(D:Ends)(f:Flow)(s':HV):Prop:=
 match f with
 | .next=>∃Y' H',Inv X J Y' H' s'/\D.nx Y' H'
 | .brk=>∃Y' H',Inv X J Y' H' s'/\D.bk Y' H'
 | .cont=>∃Y' H',Inv X J Y' H' s'/\D.ct Y' H'
 | .ret u=>∃v Y' H',Inv X J Y' H' s'/\RelV v u/\D.rt v H'
abbrev PE (X:Cx)(e:IJ)(t:TE):Prop:=
 ∀(J:HN (Ic×Kb)) (s:HV) (Y:St) (H:Hp) (Q:VK),Inv X J Y H s->t Y H Q->wpAny (model X.prog X.w) X.A (eval e X.env) (EP X J Y Q) X.xe s
abbrev PT (X:Cx)(e:IJ)(t:TT):Prop:=
 ∀(J:HN (Ic×Kb)) (s:HV) (Y:St) (H:Hp) (Q:IN->Hp->Prop),Inv X J Y H s->t Y H Q->wpAny (model X.prog X.w) X.A (isTrue e X.env (eval e X.env)) (TP X J Y Q) X.xe s
abbrev PW (X:Cx)(e:IJ)(t:TT):Prop:=
 ∀(whole:Ry HS) (J:HN (Ic×Kb)) (s:HV) (Y:St) (H:Hp) (Q:IN->Hp->Prop),Inv X J Y H s->t Y H Q->wpAny (model X.prog X.w) X.A (isTrue e X.env whole) (TP X J Y Q) X.xe s
def PW.pt {X:Cx}{e:IJ}{t:TT}(h:PW X e t):PT X e t:=h _
abbrev PA (X:Cx)(es:HN IJ)(t:TA):Prop:=
 ∀(pos:KW) (J:HN (Ic×Kb)) (s:HV) (Y:St) (H:Hp) (Q:HN V->Hp->Prop),Inv X J Y H s->t Y H Q->wpAny (model X.prog X.w) X.A (spliced (backTo pos (starEach es X.env))) (AP X J Y Q) X.xe s
abbrev PS (X:Cx)(st:Lm)(t:TS):Prop:=
 ∀(J:HN (Ic×Kb)) (s:HV) (Y:St) (H:Hp) (D:Ends),Inv X J Y H s->t D Y H->wpAny (model X.prog X.w) X.A (exec st X.env) (SP X J D) X.xe s
abbrev PSs (X:Cx)(st:HN Lm)(t:TS):Prop:=
 ∀(J:HN (Ic×Kb)) (s:HV) (Y:St) (H:Hp) (D:Ends),Inv X J Y H s->t D Y H->wpAny (model X.prog X.w) X.A (execs st X.env) (SP X J D) X.xe s
def bm {α:Type}{t:Ry α}{Q Q':α->HV->Prop}{tx:R8}{A:Jd}{E:HS->HV->Prop}{s:HV}(h:wpAny tx A t Q E s)(hQ:∀a s,Q a s->Q' a s):wpAny tx A t Q' E s:=Ks h hQ λ_ _ x=>x
section
variable{X:Cx}
abbrev BO (i:HZ):TE:=λY H Q=>∃v,Y[i]?=ba (ba v)/\Q v H
abbrev tC (v:V):TE:=λ_ H Q=>Q v H
def u9 {i:HZ}{x:IH}{pos:KW}(hN:X.N[i]?=ba x)(hv:FM X.env.scope x)(hd:(x==("__debug__" : IH))=false:=by decide)(hcd:(x==("__classdict__" : IH))=false:=by decide):PE X (.Name x pos) (BO i):=by
 intro J s Y H Q I h;obtain⟨v,e,h⟩:=h;obtain⟨m,hn,hl⟩:=I.loc;obtain⟨u,r,l⟩:=hl i x v hN e hv;have fin:EP X J Y Q u s:=#[v,H,I,r,h];rcases l with⟨hk,hm⟩|⟨hk,c,hc,hcell⟩
 ·exact Qn (wpAny_loadName_local I.ok.kind hk hn hm fin) hd
 ·rcases hk with hk|hk
  ·exact Qn (wpAny_loadName_cell I.ok.kind hk hc hcell fin) hd
  ·exact Qn (wpAny_loadName_free I.ok.kind hk hc hcell fin hcd) hd
def vc {i j pos}:PE X (.Constant (.int i) j pos) (tC (.int i)):=λ_ _ _ H _ I h=>wpAny_Constant_int #[.int i,H,I.tok _,#[_,rfl],h]
def Bg {b j pos}:PE X (.Constant (.bool b) j pos) (tC (.bl b)):=λ_ _ _ H _ I h=>Constant_bool #[.bl b,H,I,rfl,h]
def vd {j pos}:PE X (.Constant .none j pos) (tC .non):=λ_ _ _ H _ I h=>Constant_none #[.non,H,I,rfl,h]
def ve {x j pos}:PE X (.Constant (.str x) j pos) (tC (.str x)):=λ_ _ _ H _ I h=>OZ #[.str x,H,I.tok _,#[_,rfl],h]
abbrev Gl (X:Cx)(x:IH):Prop:=X.env.kindOf x=ba .globalImplicit
def rK {E:HS->HV->Prop}{J:HN (Ic×Kb)}{s:HV}{Y:St}{H:Hp}{x:IH}{u:HS}{pos:KW}{Q:HS->HV->Prop}(I:Inv X J Y H s)(hg:Gl X x)(hm:X.mg x=ba u)(h:Q u s)
  (hd:(x==("__debug__" : IH))=false:=by decide):wpAny (model X.prog X.w) X.A (eval (.Name x pos) X.env) Q E s:=
 M8 I.ok.kind hg (Calls.loadGlobal_global (by rw[I.ok.glob]; exact I.mod.glob.keeps I.bk) hm h) hd
def gp {E:HS->HV->Prop}{J:HN (Ic×Kb)}{s:HV}{Y:St}{H:Hp}{x:IH}{u:HS}{pos:KW}{Q:HS->HV->Prop}(I:Inv X J Y H s)(hg:Gl X x)(hm:X.mg x=gV)(hv:bootBuiltins x=ba u)(h:Q u s)
  (hn:x≠"__name__":=by decide) (hd:(x==("__debug__" : IH))=false:=by decide):wpAny (model X.prog X.w) X.A (eval (.Name x pos) X.env) Q E s:=by
 obtain⟨mb,h1,h2⟩:=I.mod.blt;exact M8 I.ok.kind hg (Calls.loadGlobal_builtin (by rw[I.ok.glob]; exact I.mod.glob.keeps I.bk) hm (by rw[I.ok.blt]; exact h1.keeps I.bk) ((h2 x hn).trans hv) h) hd
def yP {x:IH}{v:V}{u:HS}{pos:KW}(hg:Gl X x)(hm:X.mg x=gV)(hv:bootBuiltins x=ba u)(r:RelV v u)(hn:x≠"__name__":=by decide)(hd:(x==("__debug__" : IH))=false:=by decide):PE X (.Name x pos) (tC v):=
 λ_ _ _ H _ I h=>gp I hg hm hv #[v,H,I,r,h] hn hd
variable{a b:IJ}{ta tb:TE}{pos:KW}
variable{tA tB':TT}{bj:HN IJ}
abbrev DV (t u:TT):TT:=λY H Q=>t Y H λc H1=>if c=true then u Y H1 Q else Q false H1
abbrev Hm (t u:TT):TT:=λY H Q=>t Y H λc H1=>if c=true then Q true H1 else u Y H1 Q
abbrev F2 (t:TT):TT:=λY H Q=>t Y H λc H1=>Q (!c) H1
def yQ (ha:PT X a tA):PW X (.BoolOp .And [a] pos) tA:=by
 intro wh J s Y H Q I h;refine isTrue_and (bm (ha J s Y H Q I h) λc s1 e=>?_)
 cases c with
 | true=>exact isTrue_and_nil e
 | false=>exact e
def BP (ha:PT X a tA):PW X (.BoolOp .Or [a] pos) tA:=by
 intro wh J s Y H Q I h;refine isTrue_or (bm (ha J s Y H Q I h) λc s1 e=>?_)
 cases c with
 | false=>exact isTrue_or_nil e
 | true=>exact e
def BQ (ha:PT X a tA)(hb:PW X (.BoolOp .And (b::bj) pos) tB'):PW X (.BoolOp .And (a::b::bj) pos) (DV tA tB'):=by
 intro wh J s Y H Q I h;refine isTrue_and (bm (ha J s Y H _ I h) λc s1 #[H1,I1,q1]=>?_)
 cases c with
 | true=>exact hb wh J s1 Y H1 Q I1 q1
 | false=>exact#[H1,I1,q1]
def DW (ha:PT X a tA)(hb:PW X (.BoolOp .Or (b::bj) pos) tB'):PW X (.BoolOp .Or (a::b::bj) pos) (Hm tA tB'):=by
 intro wh J s Y H Q I h;refine isTrue_or (bm (ha J s Y H _ I h) λc s1 #[H1,I1,q1]=>?_)
 cases c with
 | true=>exact#[H1,I1,q1]
 | false=>exact hb wh J s1 Y H1 Q I1 q1
def BR (ha:PT X a tA):PT X (.UnaryOp .Not a pos) (F2 tA):=by
 intro J s Y H Q I h;exact isTrue_not (ha J s Y H (λc H1=>Q (!c) H1) I h)
abbrev DX (ta tb:TE):TE:=λY H Q=>ta Y H λx H1=>∃c,x=.bl c/\if c=true then tb Y H1 Q else Q (.bl false) H1
abbrev F3 (ta tb:TE):TE:=λY H Q=>ta Y H λx H1=>∃c,x=.bl c/\if c=true then Q (.bl true) H1 else tb Y H1 Q
abbrev DY (ta:TE):TE:=λY H Q=>ta Y H λx H1=>∃c,x=.bl c/\Q (.bl (!c)) H1
def BS {op}{t:TE}(h:PE X a t):PE X (.BoolOp op [a] pos) t:=λJ s Y H Q I hw=>BoolOp_one (h J s Y H Q I hw)
def BU (ha:PE X a ta)(hb:PE X (.BoolOp .And (b::bj) pos) tb):PE X (.BoolOp .And (a::b::bj) pos) (DX ta tb):=by
 intro J s Y H Q I h;refine BoolOp_and (bm (ha J s Y H _ I h) λv s1 #[x,H1,I1,r1,q1]=>?_)
 obtain⟨c,rfl,q1⟩:=q1;cases r1;refine KO ?_;cases c with
 | true=>exact hb J s1 Y H1 Q I1 q1
 | false=>exact#[.bl false,H1,I1,rfl,q1]
def DZ (ha:PE X a ta)(hb:PE X (.BoolOp .Or (b::bj) pos) tb):PE X (.BoolOp .Or (a::b::bj) pos) (F3 ta tb):=by
 intro J s Y H Q I h;refine BoolOp_or (bm (ha J s Y H _ I h) λv s1 #[x,H1,I1,r1,q1]=>?_)
 obtain⟨c,rfl,q1⟩:=q1;cases r1;refine KO ?_;cases c with
 | false=>exact hb J s1 Y H1 Q I1 q1
 | true=>exact#[.bl true,H1,I1,rfl,q1]
def BV (ha:PE X a ta):PE X (.UnaryOp .Not a pos) (DY ta):=by
 intro J s Y H Q I h;refine UnaryOp_ (bm (ha J s Y H _ I h) λv s1 #[x,H1,I1,r1,q1]=>?_)
 obtain⟨c,rfl,q1⟩:=q1;cases r1;exact not_of (KO #[.bl (!c),H1,I1,rfl,q1])
abbrev Hw (t:TT)(ta tb:TE):TE:=λY H Q=>t Y H λc H1=>if c=true then ta Y H1 Q else tb Y H1 Q
def vf {c:IJ}(hc:PT X c tA)(ha:PE X a ta)(hb:PE X b tb):PE X (.IfExp c a b pos) (Hw tA ta tb):=by
 intro J s Y H Q I h;refine wpAny_IfExp (bm (hc J s Y H _ I h) λd s1 #[H1,I1,q1]=>?_)
 cases d with
 | true=>exact ha J s1 Y H1 Q I1 q1
 | false=>exact hb J s1 Y H1 Q I1 q1
end
abbrev SqL (K:Ij)(H:Hp)(a:Ic)(xs:HN V):Prop:=
 Rd H a (.lst xs)\/
  ∃(o:Kb) (its:IM HS) (n:HZ),K.lookup a=ba o/\o.cls=.type "list"/\o.dict=gV/\o.data=.seq its n/\its.size<=sizeLine/\Vals xs its.toList
abbrev SqT (K:Ij)(H:Hp)(a:Ic)(xs:HN V):Prop:=
 Rd H a (.tup xs)\/
  ∃(o:Kb) (its:IM HS) (n:HZ),K.lookup a=ba o/\o.cls=.type "tuple"/\o.data=.seq its n/\its.size<=sizeLine/\Vals xs its.toList
abbrev F4:HS->HY V
 | .none=>ba .non
 | .bool b=>ba (.bl b)
 | .int i _=>ba (.int i)
 | .str x _=>ba (.str x)
 | .bytes b _=>ba (.byt b)
 | .float b _=>ba (.flt b)
 | .ref a=>ba (.ref a)
 | .type n=>ba (.ty n)
 | _=>gV
def RelV.abs {x:V}{u:HS}(r:RelV x u):F4 u=ba x:=by
 cases x with
 | non=>cases r; rfl
 | bl _=>cases r; rfl
 | int _=>obtain⟨t,rfl⟩:=r; rfl
 | str _=>obtain⟨t,rfl⟩:=r; rfl
 | byt _=>obtain⟨t,rfl⟩:=r; rfl
 | flt _=>obtain⟨t,rfl⟩:=r; rfl
 | ref _=>cases r; rfl
 | ty _=>cases r; rfl
def RelV.inj {x y:V}{u:HS}(r:RelV x u)(q:RelV y u):x=y:=Jz (r.abs.symm.trans q.abs)
def Vals.inj:∀ {xs ys:HN V} {us:HN HS},Vals xs us->Vals ys us->xs=ys
 | _,_,_,.nil,.nil=>rfl
 | _,_,_,.cons r t,.cons r' t'=>by rw[r.inj r',Vals.inj t t']
section
variable{X:Cx}{J:HN (Ic×Kb)}{Y:St}{H:Hp}{s:HV}{a:Ic}{xs ys:HN V}
def SqL.of {K:Ij}(h:H a=ba (.lst xs)):SqL K H a xs:=.inl (.inl h)
def SqT.of {K:Ij}(h:H a=ba (.tup xs)):SqT K H a xs:=.inl (.inl h)
def Inv.list (I:Inv X J Y H s)(h:SqL X.K H a xs):∃its:HN HS,Vals xs its/\PlainL s.heap a its.toArray/\xs.length<=sizeLine:=by
 rcases h with h|⟨o,its,n,hk,hc,hd,hs,hz,r⟩
 ·obtain⟨z,its,n,r,e⟩:=h.ok I.hok;exact#[its,r,#[_,n,e,rfl,rfl,rfl],z]
 ·refine#[its.toList,r,#[o,n,I.kIn a o hk,hc,hd,by simpa using hs],?_]
  have e:=r.length;simp only[Iw]at e;omega
def Inv.tuple (I:Inv X J Y H s)(h:SqT X.K H a xs):∃its:HN HS,Vals xs its/\Pc s.heap a its.toArray/\xs.length<=sizeLine:=by
 rcases h with h|⟨o,its,n,hk,hc,hs,hz,r⟩
 ·obtain⟨z,its,r,p⟩:=h.ok I.hok;exact#[its,r,p,z]
 ·refine#[its.toList,r,#[o,I.kIn a o hk,hc,n,by simpa using hs],?_]
  have e:=r.length;simp only[Iw]at e;omega
def Inv.list_inj (I:Inv X J Y H s)(h:SqL X.K H a xs)(h':SqL X.K H a ys):xs=ys:=by
 obtain⟨its,r,⟨o,n,e,_,_,d⟩,_⟩:=I.list h;obtain⟨its',r',⟨o',n',e',_,_,d'⟩,_⟩:=I.list h';rw[e]at e'; cases e'
 rw[d]at d';injection d' with d1 _
 have:its=its':=by simpa using congrArg Rc d1
 subst this;exact r.inj r'
def Inv.tuple_inj (I:Inv X J Y H s)(h:SqT X.K H a xs)(h':SqT X.K H a ys):xs=ys:=by
 obtain⟨its,r,⟨o,e,_,n,d⟩,_⟩:=I.tuple h;obtain⟨its',r',⟨o',e',_,n',d'⟩,_⟩:=I.tuple h';rw[e]at e'; cases e'
 rw[d]at d';injection d' with d1 _
 have:its=its':=by simpa using congrArg Rc d1
 subst this;exact r.inj r'
end
noncomputable abbrev Cx.wish (X:Cx)(E:HS->HV->Prop):Cx:={ X with xe:=E }
noncomputable abbrev Cx.nox (X:Cx):Cx:=X.wish λ_ _=>JR
def Cx.Ok.wish {X:Cx}(ok:X.Ok)(E:HS->HV->Prop):(X.wish E).Ok:=
 #[ok.mod,ok.kind,ok.glob,ok.blt,ok.above,ok.inj,ok.has,ok.cab,ok.hd,ok.frames,ok.stk,ok.exf,ok.bs,ok.bsz,ok.noex,ok.exfs,ok.funs,ok.frf]
def Cx.Ok.unwish {X:Cx}{E:HS->HV->Prop}(ok:(X.wish E).Ok):X.Ok:=
 #[ok.mod,ok.kind,ok.glob,ok.blt,ok.above,ok.inj,ok.has,ok.cab,ok.hd,ok.frames,ok.stk,ok.exf,ok.bs,ok.bsz,ok.noex,ok.exfs,ok.funs,ok.frf]
section
variable{X:Cx}{J:HN (Ic×Kb)}{Y:St}{H:Hp}{s:HV}{E:HS->HV->Prop}
def Inv.wish (I:Inv X J Y H s)(E:HS->HV->Prop):Inv (X.wish E) J Y H s:=#[I.ok.wish E,I.os,I.bare,I.base,I.loc,I.cell,I.free,I.freeC,I.pin,I.hok,I.len]
def Inv.unwish (I:Inv (X.wish E) J Y H s):Inv X J Y H s:=#[I.ok.unwish,I.os,I.bare,I.base,I.loc,I.cell,I.free,I.freeC,I.pin,I.hok,I.len]
def SP.unwish {D:Ends}{f:Flow}{s':HV}(h:SP (X.wish E) J D f s'):SP X J D f s':=by
 cases f with
 | next=>obtain⟨Y',H',I,q⟩:=h; exact#[Y',H',I.unwish,q]
 | brk=>obtain⟨Y',H',I,q⟩:=h; exact#[Y',H',I.unwish,q]
 | cont=>obtain⟨Y',H',I,q⟩:=h; exact#[Y',H',I.unwish,q]
 | ret u=>obtain⟨v,Y',H',I,r,q⟩:=h; exact#[v,Y',H',I.unwish,r,q]
def PSs.nox {st:HN Lm}{t:TS}(h:PSs X.nox st t):PSs X st t:=λJ s Y H D I hw=>
 Ks (h J s Y H D (I.wish _) hw) (λ_ _ q=>q.unwish) λ_ _ z=>JR.elim z
end
section
variable{X:Cx}{st:Lm}{bj:HN Lm}{t u:TS}{e:IJ}{te:TE}{pos:KW}
abbrev vg:TS:=λD Y H=>D.nx Y H
abbrev F5 (t u:TS):TS:=λD Y H=>t { D with nx:=u D } Y H
def yR:PSs X [] vg:=λ_ _ Y H _ I h=>N2 #[Y,H,I,h]
def vh (h1:PS X st t)(h2:PSs X bj u):PSs X (st::bj) (F5 t u):=by
 intro J s Y H D I h;refine wpAny_execs_cons (bm (h1 J s Y H { D with nx:=u D } I h) λf s1 q=>?_)
 cases f with
 | next=>
  obtain⟨Y',H',I',q⟩:=q;exact h2 J s1 Y' H' D I' q
 | ret v=>exact q
 | brk=>exact q
 | cont=>exact q
def yS:PS X (.Pass pos) vg:=λ_ _ Y H _ I h=>wpAny_Pass #[Y,H,I,h]
def Inv.quiet {J:HN (Ic×Kb)}{Y:St}{H:Hp}{s:HV}(I:Inv X J Y H s):interactive X.env=false:=by simp[interactive,I.ok.kind]
def BW {x j pos pos'}:PS X (.Expr (.Constant (.str x) j pos) pos') vg:=λ_ s Y H _ I h=>wpAny_Expr (OZ (show SP X _ _ .next { s with toks:=s.toks+1 } from#[Y,H,I.tok _,h])) I.quiet
abbrev D0 (te:TE):TS:=λD Y H=>te Y H λ_ H1=>D.nx Y H1
def yT (he:PE X e te)(hs:swapsWith e gV pos.line X.env=pure false:=by rfl):PS X (.Expr e pos) (D0 te):=by
 intro J s Y H D I h;exact wpAny_Expr_any (bm (he J s Y H _ I h) λv s1 #[x,H1,I1,r1,q1]=>#[Y,H1,I1,q1]) I.quiet hs
abbrev F6 (te:TE):TS:=λD Y H=>te Y H D.rt
def BX (he:PE X e te):PS X (.Return (ba e) pos) (F6 te):=by
 intro J s Y H D I h;exact wpAny_Return_some (bm (he J s Y H _ I h) λv s1 #[x,H1,I1,r1,q1]=>#[x,Y,H1,I1,r1,q1])
abbrev F7 (c:TT)(t u:TS):TS:=λD Y H=>c Y H λb H1=>if b=true then t D Y H1 else u D Y H1
def D1 {c:IJ}{a b:HN Lm}{tc:TT}(hc:PT X c tc)(ha:PSs X a t)(hb:PSs X b u):PS X (.If c a b pos) (F7 tc t u):=by
 intro J s Y H D I h;refine wpAny_If (bm (hc J s Y H _ I h) λd s1 #[H1,I1,q1]=>?_)
 cases d with
 | true=>exact ha J s1 Y H1 D I1 q1
 | false=>exact hb J s1 Y H1 D I1 q1
end
noncomputable abbrev TG:=V->St->Hp->(St->Hp->Prop)->Prop
noncomputable abbrev BY:=HN V->St->Hp->(St->Hp->Prop)->Prop
abbrev PG (X:Cx)(target:IJ)(t:TG):Prop:=
 ∀(J:HN (Ic×Kb)) (s:HV) (Y:St) (H:Hp) (v:V) (u:HS) (Q:St->Hp->Prop),Inv X J Y H s->RelV v u->t v Y H Q->
  wpAny (model X.prog X.w) X.A (assign target X.env u) (λ_ s'=>∃Y' H',Inv X J Y' H' s'/\Q Y' H') X.xe s
abbrev D2 (X:Cx)(ts:HN IJ)(t:BY):Prop:=
 ∀(J:HN (Ic×Kb)) (s:HV) (Y:St) (H:Hp) (vs:HN V) (us:HN HS) (Q:St->Hp->Prop),Inv X J Y H s->Vals vs us->t vs Y H Q->
  wpAny (model X.prog X.w) X.A (assignInOrder ((assignEach ts X.env).map (·.2)) us) (λ_ s'=>∃Y' H',Inv X J Y' H' s'/\Q Y' H') X.xe s
noncomputable abbrev BZ:=V->V->V->Hp->(Hp->Prop)->Prop
abbrev B0 (X:Cx)(t:BZ):Prop:=
 ∀(J:HN (Ic×Kb)) (s:HV) (Y:St) (H:Hp) (o i v:V) (ov iv u:HS) (Q:Hp->Prop),Inv X J Y H s->RelV o ov->RelV i iv->RelV v u->t o i v H Q->
  wpAny (model X.prog X.w) X.A (setItem ov iv u) (λ_ s'=>∃H',Inv X J Y H' s'/\Q H') X.xe s
section
variable{X:Cx}{pos:KW}
abbrev D3 (i:HZ):TG:=λv Y H Q=>Q (Y.set i (ba v)) H
def rL {i:HZ}{x:IH}(hN:X.N.Nodup)(hi:X.N[i]?=ba x)(hx:yO X.env.scope x)(hf:X.fn x=true\/X.env.scope.names.lookup x=ba .local):PG X (.Name x pos) (D3 i):=by
 intro J s Y H v u Q I r h;exact Pe (gJ I hN hi hx r (λs' I'=>#[_,H,I',h]) hf)
abbrev F8:BY:=λvs Y H Q=>vs=[]/\Q Y H
abbrev D4 (t:TG)(u:BY):BY:=λvs Y H Q=>∃v r,vs=v::r/\t v Y H λY' H'=>u r Y' H' Q
def yU:D2 X [] F8:=by
 intro J s Y H vs us Q I r h;obtain⟨e,h⟩:=h;subst e;cases r;exact Pf #[Y,H,I,h]
def vk {e:IJ}{es:HN IJ}{t:TG}{u:BY}(h1:PG X e t)(h2:D2 X es u)
  (hs:(assignEach (e::es) X.env).map (·.2)=assign e X.env::(assignEach es X.env).map (·.2):=by rfl):D2 X (e::es) (D4 t u):=by
 intro J s Y H vs us Q I r h;obtain⟨v,vr,e1,h⟩:=h;subst e1;cases r with
 | cons r rr=>
  rw[hs];refine M9 (bm (h1 J s Y H _ _ _ I r h) λ_ s1 #[Y1,H1,I1,q1]=>?_)
  exact h2 J s1 Y1 H1 _ _ Q I1 rr q1
abbrev F9 (K:Ij)(n:HZ)(t:BY):TG:=λv Y H Q=>∃a xs,v=.ref a/\SqT K H a xs/\xs.length=n/\t xs Y H Q
def B1 {es:HN IJ}{k:HZ}{t:BY}{n:HZ}(hc:X.calm=true)(h:D2 X es t)
  (hn:(assignEach es X.env).length=n:=by rfl) (hst:(assignEach es X.env).findIdx? (·.1)=gV:=by rfl):PG X (.Tuple es k pos) (F9 X.K n t):=by
 intro J s Y H v u Q I r hw;obtain⟨a,xs,e1,hq,hl,hw⟩:=hw;subst e1;cases r;obtain⟨its,rv,ht,hz⟩:=I.tuple hq;refine assign_Tuple_tuple (I.ok.hd hc) ht (by simp[hn,<- hl,rv.length]) hst λh' hx=>?_
 have I1:Inv X J Y H { s with heap:=h' }:=I.kept (t':=s.toks) λb o e=>hx b o (IA (Iv e)) e
 exact h J _ Y H xs _ Q I1 (by simpa using rv) hw
abbrev Ga (to ti:TE)(t:BZ):TG:=λv Y H Q=>to Y H λo H1=>ti Y H1 λi H2=>t o i v H2 λH3=>Q Y H3
def B2 {o i:IJ}{to ti:TE}{t:BZ}(ho:PE X o to)(hi:PE X i ti)(hs:B0 X t)
  (ha:∀v,assign (.Subscript o i pos) X.env v=(do
   let ov <- holding [v] (eval o X.env)
   let iv <- holding [v,ov] (eval i X.env)
   standAt pos
   holding [v,ov,iv] (setItem ov iv v)
   release [v,ov,iv] []):=by intro _; rfl):PG X (.Subscript o i pos) (Ga to ti t):=by
 intro J s Y H v u Q I r h;rw[ha];refine HP (JB (bm (ho J s Y H _ I h) λov s1 #[x,H1,I1,r1,q1]=>?_))
 refine HP (JB (bm (hi J s1 Y H1 _ I1 q1) λiv s2 #[y,H2,I2,r2,q2]=>?_))
 refine HP (MM (HP (JB (bm (hs J s2 Y H2 x y v ov iv u _ I2 r1 r2 r q2) λ_ s3 #[H3,I3,q3]=>?_))))
 exact wpAny_release #[Y,H3,I3,q3]
abbrev Gb (te:TE)(g:TG):TS:=λD Y H=>te Y H λx H1=>g x Y H1 D.nx
def B3 {tg e:IJ}{te:TE}{g:TG}(he:PE X e te)(hg:PG X tg g)(hs:swapsWithSole [tg] e pos.line X.env=pure false:=by rfl)(hw:swappedStores [tg] e X.env=pure gV:=by rfl)
  (h1:(assignEach [tg] X.env).map (·.2)=[assign tg X.env]:=by rfl):PS X (.Assign [tg] e pos) (Gb te g):=by
 intro J s Y H D I h;refine wpAny_Assign_stores (bm (he J s Y H _ I h) λv s1 #[x,H1,I1,r1,q1]=>?_) hs hw
 rw[h1];exact bm (hg J s1 Y H1 x v _ I1 r1 q1) λ_ s2 q=>q
abbrev Gc (i j:HZ)(ta:TA):TS:=λD Y H=>ta Y H λvs H1=>∃v w,vs=[v,w]/\D.nx ((Y.set i (ba v)).set j (ba w)) H1
def B4 {i j:HZ}{x y:IH}{a b:IJ}{ta:TA}{px py pt:KW}{kt k2 pt2}(hc:X.calm=true)(hN:X.N.Nodup)(hi:X.N[i]?=ba x)(hj:X.N[j]?=ba y)(hij:i≠j)
  (hx:X.env.scope.names.lookup x=ba .local) (hy:X.env.scope.names.lookup y=ba .local) (ha:PA X [a,b] ta)
  (hw:swappedStores [.Tuple [.Name x px,.Name y py] kt pt] (.Tuple [a,b] k2 pt2) X.env=pure (ba [x,y]))
  (hs:swapsWithSole [.Tuple [.Name x px,.Name y py] kt pt] (.Tuple [a,b] k2 pt2) pos.line X.env=pure false:=by rfl) :
  PS X (.Assign [.Tuple [.Name x px,.Name y py] kt pt] (.Tuple [a,b] k2 pt2) pos) (Gc i j ta):=by
 intro J s Y H D I h;rw[exec_Assign_arm];refine HP (MM ?_);rw[hs];refine HP (HW ?_);rw[IP #v[]]
 refine HP (Tuple_ (bm (ha _ J s Y H _ I h) λus s1 #[vs,H1,I1,r1,q1]=>?_))
 obtain⟨v,w,e1,q1⟩:=q1;subst e1;obtain⟨u1,u2,rfl,rv,rw'⟩ : ∃u1 u2,us=[u1,u2]/\RelV v u1/\RelV w u2:=by
  cases r1 with
  | cons p q=>
   cases q with
   | cons p' q'=>
    cases q';exact#[_,_,rfl,p,p']
 refine Ji ?_ (by show 2<=sizeLine; decide)
 have I2:Inv X J Y H1 { s1 with heap:=s1.heap.push { cls:=.type "tuple",data:=.seq [u1,u2].toArray } }:=I1.kept (t':=s1.toks) λb o e=>HR _ e
 rw[hw];refine HP (HW ?_);show wpAny (model X.prog X.w) X.A (do rule "assign.swapped-stores"; let items <- unpackItems (.ref s1.heap.objs.size) 2 gV; assignInOrder [λv=>bindName X.env y v,λv=>bindName X.env x v] items.reverse; pure RX) _ _ _
 refine HP (Na (HP (unpackItems_tuple (items:=[u1,u2].toArray) (I.ok.hd hc) (PK s1.heap _) λh' hx'=>?_)))
 have I3:=I2.kept (h':=h') (t':=s1.toks) λb o e=>hx' b o (IA (Iv e)) e
 show wpAny _ _ (assignInOrder [λv=>bindName X.env y v,λv=>bindName X.env x v] [u2,u1] >>= λ_=>pure RX) _ _ _
 refine HP (M9 (Qo (gJ I3 hN hj (.inl hy) rw' (λs2 I4=>?_) (.inr hy))))
 refine M9 (Qo (gJ I4 hN hi (.inl hx) rv (λs3 I5=>Pf (HW ?_)) (.inr hx)))
 rw[List.set_comm _ _ (Ne.symm hij)]at I5;exact#[_,H1,I5,q1]
end
section
variable{X:Cx}{pos:KW}
abbrev B5 (c:TT)(tb:TS):TS:=λD Y H=>∃W:HZ->St->Hp->Prop,(∃m,W m Y H)/\∀m Y H,W m Y H->
 c Y H λb H1=>if b=true then ∃N:St->Hp->Prop,(∀Y' H',N Y' H'->∃m',m' < m/\W m' Y' H')/\tb { D with nx:=N,ct:=N,bk:=D.nx } Y H1 else D.nx Y H1
def vm {c:IJ}{body:HN Lm}{tc:TT}{tb:TS}(hp:OF (model X.prog X.w) X.A X.env X.xe)(hc:PT X c tc)(hb:PSs X body tb):PS X (.While c body [] pos) (B5 tc tb):=by
 intro J s Y H D I h;obtain⟨W,⟨m0,w0⟩,turn⟩:=h;refine wpAny_While (codeAny_whileLoop (λn s'=>∃Y' H',Inv X J Y' H' s'/\W n Y' H') ?_ m0 #[Y,H,I,w0])
 rintro n s1 ⟨Y1,H1,I1,w1⟩;refine K9 hp (bm (hc J s1 Y1 H1 _ I1 (turn n Y1 H1 w1)) λb s2 #[H2,I2,q2]=>?_)
 cases b with
 | true=>
  obtain⟨N,hN,q2⟩:=q2;rw[IF rfl];refine K9 hp (bm (hb J s2 Y1 H2 _ I2 q2) λf s3 q3=>?_)
  cases f with
  | next=>
   obtain⟨Y3,H3,I3,n3⟩:=q3;obtain⟨m',hm,w3⟩:=hN Y3 H3 n3;exact#[m',hm,Y3,H3,I3,w3]
  | cont=>
   obtain⟨Y3,H3,I3,n3⟩:=q3;obtain⟨m',hm,w3⟩:=hN Y3 H3 n3;exact#[m',hm,Y3,H3,I3,w3]
  | brk=>exact q3
  | ret v=>exact q3
 | false=>
  rw[IP IE];exact N2 #[Y1,H2,I2,q2]
end
structure It where
 go:HZ->Hp->Prop
 yld:HZ->Hp->V->Hp->Prop
 stop:HZ->Hp->Prop
abbrev gq (X:Cx)(J:HN (Ic×Kb))(H:Hp)(b:Ic):Prop:=
 H b=gV/\b≠X.env.locals/\b∉X.fs/\(b∈X.ex\/X.s₀.heap.objs.size<=b)/\(∀x c,X.env.cells.lookup x=ba c->c≠b)/\∀p∈X.pn++J,p.1≠b
def Inv.fpOk {X:Cx}{J:HN (Ic×Kb)}{Y:St}{H H':Hp}{s:HV}{b:Ic}(I:Inv X J Y H s)(hb:s.heap.objs.size<=b)(hn:H' b=gV):gq X J H' b:=by
 refine#[hn,JY (IQ I.lt hb),I.nofs hb,.inr (IL I.sz hb),λx c e z=>?_,λp hp z=>?_]
 ·obtain⟨v,q⟩:=I.cell x c e;exact absurd (IQ q.lt (by rw[z]; exact hb)) (J3 _)
 ·exact absurd (IQ (Iv (I.pin p hp).1) (by rw[z]; exact hb)) (J3 _)
structure Turn (P:IZ)(w:Jg)(K:Ij)(tg:IJ)(td:It)(fp:HN Ic)(it:Ic)(tn:HZ->Jk->Prop):Prop where
 mem:it∈fp
 obj:∀i h,tn i h->∀b∈fp,∃o,h.get? b=ba o/\∀v,o.data≠.cell v
 keep:∀i h h',tn i h->(∀b∈fp,∀o,h.get? b=ba o->h'.get? b=ba o)->tn i h'
 item:∀(X:Cx),X.prog=P->X.w=w->X.K=K->X.calm=true->∀(i:HZ) (J:HN (Ic×Kb)) (s:HV) (Y:St) (H:Hp) (E:HS->HV->Prop),Inv X J Y H s->(∀b∈fp,gq X J H b)->tn i s.heap->td.go i H->
  wpAny (model P w) X.A (pyNext (.ref it)) (λr s1=>∃u,r=ba u/\
   wpAny (model P w) X.A (letOwnedTupleGo tg (.ref it) u) (λ_ s2=>∃x H',Inv X J Y H' s2/\RelV x u/\td.yld i H x H'/\tn (i+1) s2.heap/\∀b∈fp,H' b=gV) E s1) E s
 done:∀(X:Cx),X.prog=P->X.w=w->X.K=K->X.calm=true->∀(i:HZ) (J:HN (Ic×Kb)) (s:HV) (Y:St) (H:Hp) (E:HS->HV->Prop),Inv X J Y H s->(∀b∈fp,gq X J H b)->tn i s.heap->td.stop i H->
  wpAny (model P w) X.A (pyNext (.ref it)) (λr s1=>r=gV/\Inv X J Y H s1) E s
 self:∀(A:Jd) (i:HZ) (s:HV) (Q:HS->HV->Prop) (E:HS->HV->Prop),tn i s.heap->Q (.ref it) s->wpAny (model P w) A (pyIter (.ref it)) Q E s
noncomputable abbrev TI:=St->Hp->(It->Hp->Prop)->Prop
abbrev D5 (X:Cx)(J:HN (Ic×Kb))(Y:St)(tg:IJ)(R:It->Hp->Prop)(itv:HS)(s2:HV):Prop:=
 ∃(it:Ic) (fp:HN Ic) (tn:HZ->Jk->Prop) (td:It) (H':Hp),itv=.ref it/\Inv X J Y H' s2/\Turn X.prog X.w X.K tg td fp it tn/\tn 0 s2.heap/\(∀b∈fp,gq X J H' b)/\R td H'
abbrev PI (X:Cx)(tg iter:IJ)(wi:TI):Prop:=
 ∀(J:HN (Ic×Kb)) (s:HV) (Y:St) (H:Hp) (R:It->Hp->Prop),Inv X J Y H s->wi Y H R->
  wpAny (model X.prog X.w) X.A (eval iter X.env) (λv s1=>wpAny (model X.prog X.w) X.A (pyIter v) (D5 X J Y tg R) X.xe s1) X.xe s
def rM {tx:R8}{A:Jd}{E:HS->HV->Prop}{s:HV}{tg:IJ}{it:Ic}{u:HS}{o:Kb}{n:JX}{vs:IM HS}{Q:R9->HV->Prop}(ho:s.heap.get? it=ba o)(hc:o.cls=.type n)(hd:o.data=.fields vs)
    (hn:["enumerate","zip","dict_itemiterator","dict_reverseitemiterator","odict_iterator","itertools.zip_longest","itertools.pairwise"].contains n=false) (hQ:Q () s):wpAny tx A (letOwnedTupleGo tg (.ref it) u) Q E s:=by
  unfold letOwnedTupleGo;cases tg <;> first
    | exact HW hQ
    | (cases u <;> first
        | exact HW hQ
        | (refine HP (NU ho ?_)
           rw[hc,hd];show wpAny tx A (if (["enumerate","zip","dict_itemiterator","dict_reverseitemiterator","odict_iterator","itertools.zip_longest","itertools.pairwise"].contains n&&vs[0]?==ba (rawInt _))=true then _ else _) Q E s
           rw[IP (by intro h; rw[hn,Bool.false_and]at h; cases h)]
           exact HW hQ))
abbrev Gd (K:Ij)(a:Ic):It:=
 #[λi H=>∃xs x,SqL K H a xs/\xs[i]?=ba x,λi H x H'=>H'=H/\∀xs,SqL K H a xs->xs[i]?=ba x,λi H=>∃xs,SqL K H a xs/\xs.length<=i]
abbrev DM (K:Ij)(a:Ic):It:=
 #[λi H=>∃xs x,SqT K H a xs/\xs[i]?=ba x,λi H x H'=>H'=H/\∀xs,SqT K H a xs->xs[i]?=ba x,λi H=>∃xs,SqT K H a xs/\xs.length<=i]
abbrev D6 (lo:Ip)(n:HZ):It:=#[λi _=>i < n,λi H x H'=>H'=H/\x=.int (lo+i),λi _=>n<=i]
def tH {P:IZ}{w:Jg}{K:Ij}{tg:IJ}(a it:Ic):Turn P w K tg (Gd K a) [it] it (λi h=>h.IsListIter it a i) where
 mem:=by simp
 obj:=λi h st b hb=>by
  have e:b=it:=by simpa using hb
  subst e;obtain⟨o,e,c,d⟩:=st;exact#[o,e,λv z=>by rw[d]at z; cases z]
 keep:=λi h h' st k=>st.at λo e=>k it (by simp) o e
 item:=by
  intro X hP hw hK hc i J s Y H E I hf st hg;subst hP hw hK;obtain⟨xs,x,hq,hx⟩:=hg;obtain⟨its,rv,p,hz⟩:=I.list hq;obtain⟨u,hu,ru⟩:=rv.get hx;obtain⟨f0,f1,f2,f3,f4,f5⟩:=hf it (by simp)
  refine wpAny_pyNext_list_item st p.isList (x:=u) (by simpa using hu) λh' st' sb=>?_
  have I1:Inv X J Y H { s with heap:=h' }:=I.turned (t':=s.toks) (λb o hb e=>(sb.2 b hb).trans e) f0 f1 f3 f4 f5
  obtain⟨o,e,c,d⟩:=id st';exact#[u,rfl,rM (s:={ s with heap:=h' }) e c d #v[] #[x,H,I1,ru,#[rfl,λys hy=>by rw[I.list_inj hy hq]; exact hx],st',λb hb=>(hf b hb).1]]
 done:=by
  intro X hP hw hK hc i J s Y H E I hf st hg;subst hP hw hK;obtain⟨xs,hq,hx⟩:=hg;obtain⟨its,rv,p,hz⟩:=I.list hq;obtain⟨f0,f1,f2,f3,f4,f5⟩:=hf it (by simp)
  have hl:=rv.length;exact wpAny_pyNext_list_end (I.ok.hd hc) st p.isList (by simp; omega) λh' eb=>#[rfl,I.turned (t':=s.toks) (λb o hb e=>eb b o hb e) f0 f1 f3 f4 f5]
 self:=λ_ _ _ _ _ st h=>wpAny_pyIter_listiter st h
def qr {P:IZ}{w:Jg}{K:Ij}{tg:IJ}(a it:Ic):Turn P w K tg (DM K a) [it] it (λi h=>h.IsTupleIter it a i) where
 mem:=by simp
 obj:=λi h st b hb=>by
  have e:b=it:=by simpa using hb
  subst e;obtain⟨o,e,c,d⟩:=st;exact#[o,e,λv z=>by rw[d]at z; cases z]
 keep:=λi h h' st k=>st.at λo e=>k it (by simp) o e
 item:=by
  intro X hP hw hK hc i J s Y H E I hf st hg;subst hP hw hK;obtain⟨xs,x,hq,hx⟩:=hg;obtain⟨its,rv,p,hz⟩:=I.tuple hq;obtain⟨u,hu,ru⟩:=rv.get hx;obtain⟨f0,f1,f2,f3,f4,f5⟩:=hf it (by simp)
  refine wpAny_pyNext_tuple_item st (show s.heap.IsTuple a its.toArray from p) (x:=u) (by simpa using hu) λh' st' sb=>?_
  have I1:Inv X J Y H { s with heap:=h' }:=I.turned (t':=s.toks) (λb o hb e=>(sb.2 b hb).trans e) f0 f1 f3 f4 f5
  obtain⟨o,e,c,d⟩:=id st';exact#[u,rfl,rM (s:={ s with heap:=h' }) e c d #v[] #[x,H,I1,ru,#[rfl,λys hy=>by rw[I.tuple_inj hy hq]; exact hx],st',λb hb=>(hf b hb).1]]
 done:=by
  intro X hP hw hK hc i J s Y H E I hf st hg;subst hP hw hK;obtain⟨xs,hq,hx⟩:=hg;obtain⟨its,rv,p,hz⟩:=I.tuple hq;obtain⟨f0,f1,f2,f3,f4,f5⟩:=hf it (by simp)
  have hl:=rv.length;exact wpAny_pyNext_tuple_end (I.ok.hd hc) st (show s.heap.IsTuple a its.toArray from p) (by simp; omega) λh' eb=>#[rfl,I.turned (t':=s.toks) (λb o hb e=>eb b o hb e) f0 f1 f3 f4 f5]
 self:=λ_ _ _ _ _ st h=>wpAny_pyIter_tupleiter st h
def qt {P:IZ}{w:Jg}{K:Ij}{tg:IJ}(it:Ic)(lo:Ip)(n:HZ):Turn P w K tg (D6 lo n) [it] it (λi h=>Rn h it (lo+(i:HZ)*1) ((n:Ip) - (i:HZ)) 1) where
 mem:=by simp
 obj:=λi h st b hb=>by
  have e:b=it:=by simpa using hb
  subst e;exact#[_,st,λv z=>by
   have z':Data.fields _=Data.cell v:=z;cases z']
 keep:=λi h h' st k=>k it (by simp) _ st
 item:=by
  intro X hP hw hK hc i J s Y H E I hf st hg;subst hP hw hK;obtain⟨f0,f1,f2,f3,f4,f5⟩:=hf it (by simp)
  have W:=Walks.range (prog:=X.prog) (w:=X.w) (I.ok.hd hc) it lo 1 n;refine W.item i s _ _ hg st λv h' tk hv st' kk=>?_
  obtain⟨t,rfl⟩:=hv;have I1:Inv X J Y H { s with heap:=h',toks:=tk }:=I.turned (λb o hb e=>kk b o (by simpa using hb) e) f0 f1 f3 f4 f5
  refine#[_,rfl,rM (s:={ s with heap:=h',toks:=tk }) (n:="range_iterator") st' rfl rfl #v[] #[.int (lo+i),H,I1,#[t,?_],#[rfl,rfl],st',λb hb=>(hf b hb).1]]
  rw[Int.mul_one]
 done:=by
  intro X hP hw hK hc i J s Y H E I hf st hg;subst hP hw hK;obtain⟨f0,f1,f2,f3,f4,f5⟩:=hf it (by simp)
  exact wpAny_pyNext_range_end (I.ok.hd hc) st (by have:n<=i:=hg; omega) λh' eb=>#[rfl,I.turned (t':=s.toks) (λb o hb e=>eb b o hb e) f0 f1 f3 f4 f5]
 self:=λ_ _ _ _ _ st h=>wpAny_pyIter_rangeiter st h
section
variable{X:Cx}{tg:IJ}
def nR {J:HN (Ic×Kb)}{Y:St}{H:Hp}{s:HV}{R:It->Hp->Prop}{E:HS->HV->Prop}{lo hi:Ip}{t u v:So}{tk:HZ}(I:Inv X J Y H s)(h1 : -(2 ^ 62)<=lo)(h2:lo < 2 ^ 62)(h3 : -(2 ^ 62)<=hi)(h4:hi < 2 ^ 62)
  (q:R (D6 lo (hi - lo).toNat) H):wpAny (model X.prog X.w) X.A (pyIter (.ref s.heap.objs.size)) (D5 X J Y tg R) E { s with heap:=s.heap.push { cls:=.type "range",data:=.fields [.int lo t,.int hi u,.int 1 v].toArray },toks:=tk }:=by
 refine wpAny_pyIter_range (IsRange.new ..) (Q9 h1 h2 h3 h4) ?_;have I1:Inv X J Y H { s with heap:=s.heap.push { cls:=.type "range",data:=.fields [.int lo t,.int hi u,.int 1 v].toArray },toks:=tk }:=I.kept λb o e=>HR _ e
 refine#[(s.heap.push { cls:=.type "range",data:=.fields [.int lo t,.int hi u,.int 1 v].toArray }).objs.size,[(s.heap.push { cls:=.type "range",data:=.fields [.int lo t,.int hi u,.int 1 v].toArray }).objs.size],_,_,H,rfl,
  I1.kept (t':=tk) λb o e=>HR _ e,qt _ lo (hi - lo).toNat,?_,λb hb=>?_,q]
 ·have e1:lo+((0:HZ):Ip)*1=lo:=by simp
  have e2:(((hi - lo).toNat:HZ):Ip) - ((0:HZ):Ip)=Kw lo hi 1:=by rw[OP]; split <;> omega
  show Rn _ _ (lo+((0:HZ):Ip)*1) ((((hi - lo).toNat:HZ):Ip) - ((0:HZ):Ip)) 1;rw[e1,e2];exact Im _ rfl
 ·have e:b=(s.heap.push { cls:=.type "range",data:=.fields [.int lo t,.int hi u,.int 1 v].toArray }).objs.size:=by simpa using hb
  subst e;exact I1.fpOk (Ih _) (I1.hok.fresh (Ih _))
abbrev D7 (ta:TA):TI:=λY H R=>ta Y H λvs H1=>∃j:Ip,vs=[.int j]/\-(2 ^ 62)<=j/\j < 2 ^ 62/\R (D6 0 j.toNat) H1
abbrev iRng2 (ta:TA):TI:=λY H R=>ta Y H λvs H1=>∃i j:Ip,vs=[.int i,.int j]/\(-(2 ^ 62)<=i/\i < 2 ^ 62/\-(2 ^ 62)<=j/\j < 2 ^ 62)/\R (D6 i (j - i).toNat) H1
def tJ {a:IJ}{ta:TA}{p pos:KW}(hg:Gl X "range")(hm:X.mg "range" = gV)(ha:PA X [a] ta)(hs:starEach [a] X.env=[(false,eval a X.env)]:=by rfl):PI X tg (.Call (.Name "range" p) [a] [] pos) (D7 ta):=by
 intro J s Y H R I h;refine Sc (gp I hg hm boot_range (Ky (bm (ha pos J s Y H _ I h) λus s1 #[vs,H1,I1,r1,q1]=>?_) hs rfl))
 obtain⟨j,e,q1,q2,q⟩:=q1;subst e;cases r1 with
 | cons r rr=>
  cases rr;obtain⟨t,rfl⟩:=r;exact Re (nR I1 ∅ ∅ q1 q2 (by simpa using q))
def tK {a b:IJ}{ta:TA}{p pos:KW}(hg:Gl X "range")(hm:X.mg "range" = gV)(ha:PA X [a,b] ta)(hs:starEach [a,b] X.env=[(false,eval a X.env),(false,eval b X.env)]:=by rfl)(hs2:starEach [b] X.env=[(false,eval b X.env)]:=by rfl) :
  PI X tg (.Call (.Name "range" p) [a,b] [] pos) (iRng2 ta):=by
 intro J s Y H R I h;refine Sc (gp I hg hm boot_range (Ky (bm (ha pos J s Y H _ I h) λus s1 #[vs,H1,I1,r1,q1]=>?_) (by rw[hs,hs2]) (by rw[hs2]; rfl)))
 obtain⟨i,j,e,⟨q1,q2,q3,q4⟩,q⟩:=q1;subst e;cases r1 with
 | cons r rr=>
  cases rr with
  | cons r' rr=>
   cases rr;obtain⟨t,rfl⟩:=r;obtain⟨t',rfl⟩:=r';exact call_range_2 (nR I1 q1 q2 q3 q4 q)
abbrev Ge (wi:TI)(g:TG)(tb:TS):TS:=λD Y H=>wi Y H λtd H1=>∃W:HZ->HZ->St->Hp->Prop,(∃m,W 0 m Y H1)/\∀i m Y H,W i m Y H->
 (td.stop i H/\D.nx Y H)\/(td.go i H/\∃N:St->Hp->Prop,(∀Y' H',N Y' H'->∃m',m' < m/\W (i+1) m' Y' H')/\∀x H',td.yld i H x H'->g x Y H' λY2 H2=>tb { D with nx:=N,ct:=N,bk:=D.nx } Y2 H2)
abbrev iF (fp:HN Ic)(h:Jk):HN (Ic×Kb):=fp.filterMap λb=>(h.get? b).map λo=>(b,o)
def eH {fp:HN Ic}{h:Jk}{b:Ic}{o:Kb}(hb:b∈fp)(e:h.get? b=ba o):(b,o)∈iF fp h:=Nb.mpr #[b,hb,by rw[e]; rfl]
def tL {fp:HN Ic}{h:Jk}{p:Ic×Kb}(hp:p∈iF fp h):p.1∈fp/\h.get? p.1=ba p.2:=by
 obtain⟨b,hb,e⟩:=Nb.mp hp;cases q:h.get? b with
 | none=>rw[q]at e; cases e
 | some o=>
  rw[q]at e;have e':(b,o)=p:=Jz e;subst e';exact#[hb,q]
def Inv.pinned {J:HN (Ic×Kb)}{Y:St}{H:Hp}{s:HV}{fp:HN Ic}(I:Inv X J Y H s)(hf:∀b∈fp,gq X J H b)(ho:∀b∈fp,∃o,s.heap.get? b=ba o/\∀v,o.data≠.cell v):Inv X (J++iF fp s.heap) Y H s:=
 I.pins_of λp hp=>(IY.mp hp).elim (λz=>I.pin p (IU _ z)) λz=>by
  obtain⟨hb,e⟩:=tL z;obtain⟨f0,f1,f2,_⟩:=hf p.1 hb;obtain⟨o,e',d⟩:=ho p.1 hb;rw[e]at e'; cases e'
  exact#[e,f0,f1,f2,d]
def Inv.unpinned {J pl:HN (Ic×Kb)}{Y:St}{H:Hp}{s:HV}(I:Inv X (J++pl) Y H s):Inv X J Y H s:=I.pins_of λp hp=>I.pin p (IU _ (JN _ hp))
def B6 {iter:IJ}{body:HN Lm}{wi:TI}{g:TG}{tb:TS}{pos:KW}(hp:OF (model X.prog X.w) X.A X.env X.xe)(hc:X.calm=true)(hi:PI X tg iter wi)(hg:PG X tg g)(hb:PSs X body tb)
  (hs:∀x,foldedSetIterable iter X.env x=pure x:=by intro _; rfl):PS X (.For tg iter body [] pos) (Ge wi g tb):=by
 intro J s Y H D I h;refine wpAny_For (bm (hi J s Y H _ I h) λv s1 h1=>bm h1 λitv s2 h2=>?_) hs
 obtain⟨it,fp,tn,td,H2,e,I2,T,aH,f2,W,⟨m0,w0⟩,turn⟩:=h2;subst e;have stat:∀ {H':Hp},(∀b∈fp,H' b=gV)->∀b∈fp,gq X J H' b:=λhn b hb=>#[hn b hb,(f2 b hb).2]
 refine codeAny_forLoop_any (λn s'=>∃i Y' H',Inv X J Y' H' s'/\tn i s'.heap/\(∀b∈fp,H' b=gV)/\W i n Y' H') ?_ m0 #[0,Y,H2,I2,aH,λb hb=>(f2 b hb).1,w0]
 rintro n s3 ⟨i,Y3,H3,I3,st3,fr3,w3⟩;rcases turn i n Y3 H3 w3 with⟨stop,qn⟩|⟨go,N,hN,step⟩
 ·refine K9 hp (bm (T.done X rfl rfl rfl hc i J s3 Y3 H3 X.xe I3 (stat fr3) st3 stop) λr s4 #[hr,I4]=>?_)
  subst hr;exact N2 #[Y3,H3,I4,qn]
 ·refine K9 hp (bm (T.item X rfl rfl rfl hc i J s3 Y3 H3 X.xe I3 (stat fr3) st3 go) λr s4 #[u,hr,h4]=>?_)
  subst hr;refine K9 hp (bm h4 λ_ s5 #[x,H5,I5,r5,y5,st5,fr5]=>?_)
  have I5':=I5.pinned (stat fr5) (T.obj _ _ st5);refine K9 hp (bm (hg _ s5 Y3 H5 x u _ I5' r5 (step x H5 y5)) λ_ s6 #[Y6,H6,I6,q6]=>?_)
  refine K9 hp (bm (hb _ s6 Y6 H6 _ I6 q6) λf s7 q7=>?_)
  have again:∀ {Y7:St} {H7:Hp},Inv X (J++iF fp s5.heap) Y7 H7 s7->N Y7 H7->∃m,m < n/\∃i Y' H',Inv X J Y' H' s7/\tn i s7.heap/\(∀b∈fp,H' b=gV)/\W i m Y' H':=λ{Y7 H7} I7 n7=>by
   obtain⟨m',hm,w7⟩:=hN Y7 H7 n7;refine#[m',hm,i+1,Y7,H7,I7.unpinned,T.keep _ _ _ st5 λb hb o e=>(I7.pin (b,o) (IU _ (IU _ (eH hb e)))).1,λb hb=>?_,w7]
   obtain⟨o,e,d⟩:=T.obj _ _ st5 b hb;exact(I7.pin (b,o) (IU _ (IU _ (eH hb e)))).2.1
  cases f with
  | next=>obtain⟨Y7,H7,I7,n7⟩:=q7; exact again I7 n7
  | cont=>obtain⟨Y7,H7,I7,n7⟩:=q7; exact again I7 n7
  | brk=>obtain⟨Y7,H7,I7,q7⟩:=q7; exact#[Y7,H7,I7.unpinned,q7]
  | ret v=>obtain⟨x7,Y7,H7,I7,r7,q7⟩:=q7; exact#[x7,Y7,H7,I7.unpinned,r7,q7]
end
def for_tup {K:Ij}{a:Ic}{xs:HN V}{g:TG}{tb:TS}{D:Ends}{Y:St}{H:Hp}(Pv:HZ->St->Hp->Prop)(h0:Pv 0 Y H)(hl:∀i Y H,i<=xs.length->Pv i Y H->SqT K H a xs)
  (hs:∀i x Y H,xs[i]?=ba x->Pv i Y H->g x Y H λY2 H2=>tb { D with nx:=Pv (i+1),ct:=Pv (i+1),bk:=D.nx } Y2 H2) (hd:∀Y H,Pv xs.length Y H->D.nx Y H) :
  ∃W:HZ->HZ->St->Hp->Prop,(∃m,W 0 m Y H)/\∀i m Y H,W i m Y H->
   ((DM K a).stop i H/\D.nx Y H)\/((DM K a).go i H/\∃N:St->Hp->Prop,(∀Y' H',N Y' H'->∃m',m' < m/\W (i+1) m' Y' H')/\∀x H',(DM K a).yld i H x H'->g x Y H' λY2 H2=>tb { D with nx:=N,ct:=N,bk:=D.nx } Y2 H2):=by
 refine#[λi m Y H=>m=xs.length - i/\i<=xs.length/\Pv i Y H,#[xs.length,by simp,JS _,h0],?_]
 rintro i m Y H ⟨rfl,hi,p⟩;have q:=hl i Y H hi p
 by_cases hlt:i < xs.length
 ·refine .inr #[#[xs,xs[i],q,by simp[hlt]],Pv (i+1),λY' H' p'=>#[xs.length - (i+1),∅,rfl,hlt,p'],λx H' y=>?_]
  obtain⟨e,y⟩:=y;subst e;exact hs i x Y _ (y xs q) p
 ·have e:i=xs.length:=∅
  subst e;exact .inl #[#[xs,q,Ih _],hd Y H p]
noncomputable abbrev R2:=V->V->Hp->VK->Prop
abbrev OpR (X:Cx)(f:HS->HS->Ry HS)(r:R2):Prop:=
 ∀(J:HN (Ic×Kb)) (s:HV) (Y:St) (H:Hp) (x y:V) (v u:HS) (Q:VK),Inv X J Y H s->RelV x v->RelV y u->r x y H Q->
  wpAny (model X.prog X.w) X.A (f v u) (EP X J Y Q) X.xe s
abbrev Gf (X:Cx)(f:HS->Ry HS)(r:V->Hp->VK->Prop):Prop:=
 ∀(J:HN (Ic×Kb)) (s:HV) (Y:St) (H:Hp) (x:V) (v:HS) (Q:VK),Inv X J Y H s->RelV x v->r x H Q->
  wpAny (model X.prog X.w) X.A (f v) (EP X J Y Q) X.xe s
abbrev CallR (X:Cx)(f:HS)(r:HN V->Hp->VK->Prop):Prop:=
 ∀(J:HN (Ic×Kb)) (s:HV) (Y:St) (H:Hp) (xs:HN V) (us:HN HS) (Q:VK),Inv X J Y H s->Vals xs us->r xs H Q->
  wpAny (model X.prog X.w) X.A (call f us) (EP X J Y Q) X.xe s
abbrev Gg (X:Cx)(r:V->Hp->(IN->Hp->Prop)->Prop):Prop:=
 ∀(J:HN (Ic×Kb)) (s:HV) (Y:St) (H:Hp) (x:V) (v:HS) (Q:IN->Hp->Prop),Inv X J Y H s->RelV x v->r x H Q->
  wpAny (model X.prog X.w) X.A (truthy v) (TP X J Y Q) X.xe s
abbrev FN (r:R2)(ta tb:TE):TE:=λY H Q=>ta Y H λx H1=>tb Y H1 λy H2=>r x y H2 Q
abbrev Hx (r:V->Hp->VK->Prop)(ta:TE):TE:=λY H Q=>ta Y H λx H1=>r x H1 Q
abbrev rI (C:Ip->Ip->Prop)(g:Ip->Ip->V):R2:=λx y H Q=>∃i j,x=.int i/\y=.int j/\C i j/\Q (g i j) H
abbrev Bh (g:Ip->Ip->V):R2:=λx y H Q=>∃i j,x=.int i/\y=.int j/\Q (g i j) H
abbrev rU (g:Ip->V):V->Hp->VK->Prop:=λx H Q=>∃i,x=.int i/\Q (g i) H
section
variable{X:Cx}{a b c:IJ}{ta tb tc:TE}{pos:KW}
def B7 (ha:PE X a ta)(hb:PE X b tb){J:HN (Ic×Kb)}{s:HV}{Y:St}{H:Hp}{R:V->V->Hp->Prop}(I:Inv X J Y H s)
  (h:ta Y H λx H1=>tb Y H1 λy H2=>R x y H2) {Q:HS->HV->Prop} {f:HS->HS->Ry HS}
  (hf:∀v u s2 x y H2,Inv X J Y H2 s2->RelV x v->RelV y u->R x y H2->wpAny (model X.prog X.w) X.A (f v u) Q X.xe s2) :
  wpAny (model X.prog X.w) X.A (eval a X.env) (λv s₁=>wpAny (model X.prog X.w) X.A (eval b X.env) (λu s₂=>wpAny (model X.prog X.w) X.A (f v u) Q X.xe s₂) X.xe s₁) X.xe s:=by
 refine bm (ha J s Y H _ I h) λv s1 #[x,H1,I1,r1,q1]=>?_
 refine bm (hb J s1 Y H1 _ I1 q1) λu s2 #[y,H2,I2,r2,q2]=>?_
 exact hf v u s2 x y H2 I2 r1 r2 q2
def D8 {op:Pg}{r:R2}(ho:OpR X (binaryOp op) r)(ha:PE X a ta)(hb:PE X b tb):PE X (.BinOp a op b pos) (FN r ta tb):=by
 intro J s Y H Q I h;exact wpAny_BinOp (B7 ha hb I h λv u s2 x y H2 I2 rx ry q=>ho J s2 Y H2 x y v u Q I2 rx ry q)
def D9 {op:UnaryOp}{r:V->Hp->VK->Prop}(ho:Gf X (unaryOp op) r)(ha:PE X a ta):PE X (.UnaryOp op a pos) (Hx r ta):=by
 intro J s Y H Q I h;exact UnaryOp_ (bm (ha J s Y H _ I h) λv s1 #[x,H1,I1,r1,q1]=>ho J s1 Y H1 x v Q I1 r1 q1)
def FP {f:HS->HS->Ry HS}{C:Ip->Ip->Prop}{g:Ip->Ip->Ip}
  (rule:∀(i j:Ip) (t u:So) (s:HV) (Q:HS->HV->Prop) (E:HS->HV->Prop),C i j->Q (.int (g i j) s.toks) { s with toks:=s.toks+1 }->wpAny (model X.prog X.w) X.A (f (.int i t) (.int j u)) Q E s) :
  OpR X f (rI C λi j=>.int (g i j)):=by
 intro J s Y H x y v u Q I rx ry h;obtain⟨i,j,rfl,rfl,hc,q⟩:=h;obtain⟨t,rfl⟩:=rx;obtain⟨t',rfl⟩:=ry;exact rule i j t t' s _ _ hc #[.int (g i j),H,I.tok _,#[_,rfl],q]
def Ea {f:HS->HS->Ry HS}{g:Ip->Ip->Ip}
  (rule:∀(i j:Ip) (t u:So) (s:HV) (Q:HS->HV->Prop) (E:HS->HV->Prop),Q (.int (g i j) s.toks) { s with toks:=s.toks+1 }->wpAny (model X.prog X.w) X.A (f (.int i t) (.int j u)) Q E s) :
  OpR X f (Bh λi j=>.int (g i j)):=by
 intro J s Y H x y v u Q I rx ry h;obtain⟨i,j,rfl,rfl,q⟩:=h;obtain⟨t,rfl⟩:=rx;obtain⟨t',rfl⟩:=ry;exact rule i j t t' s _ _ #[.int (g i j),H,I.tok _,#[_,rfl],q]
def yV {f:HS->HS->Ry HS}{g:Ip->Ip->IN}
  (rule:∀(i j:Ip) (t u:So) (s:HV) (Q:HS->HV->Prop) (E:HS->HV->Prop),Q (.bool (g i j)) s->wpAny (model X.prog X.w) X.A (f (.int i t) (.int j u)) Q E s) :
  OpR X f (Bh λi j=>.bl (g i j)):=by
 intro J s Y H x y v u Q I rx ry h;obtain⟨i,j,rfl,rfl,q⟩:=h;obtain⟨t,rfl⟩:=rx;obtain⟨t',rfl⟩:=ry;exact rule i j t t' s _ _ #[.bl (g i j),H,I,rfl,q]
abbrev Gh (i j:Ip):Prop:=0 < j/\j < 1073741824
abbrev Gi (i j:Ip):Prop:=0<=j/\j<=1000000/\i.natAbs < 2 ^ 64
abbrev CMul (i j:Ip):Prop:=(-(2 ^ 64) < i/\i < 2 ^ 64)\/(-(2 ^ 64) < j/\j < 2 ^ 64)
def CMul.ok {i j:Ip}(h:CMul i j):IntMulOk i j:=by
 rcases h with⟨h1,h2⟩|⟨h1,h2⟩
 ·exact .of_left (QL h1 h2)
 ·exact .of_right (QL h1 h2)
def B8:OpR X (binaryOp .Add) (Bh λi j=>.int (i+j)):=Ea λ_ _ _ _ _ _ _ q=>add_int q
def B9:OpR X (binaryOp .Sub) (Bh λi j=>.int (i - j)):=Ea λ_ _ _ _ _ _ _ q=>sub_int q
def Cc:OpR X (binaryOp .Mult) (rI CMul λi j=>.int (i*j)):=FP λ_ _ _ _ _ _ _ hc q=>mul_int q hc.ok
def yW:OpR X (binaryOp .FloorDiv) (rI Gh λi j=>.int (i / j)):=FP λi j _ _ _ _ _ hc q=>by
 have h1:(0:Ip) < j:=hc.1;have h2:j < 1073741824:=hc.2;exact floordiv_int ∅ (by rw[Int.fdiv_eq_ediv_of_nonneg i ∅]; exact q) (.inl (PyProof.noPylong_small ∅))
def Cd:OpR X (binaryOp .Mod) (rI (λ_ j=>0 < j) λi j=>.int (i % j)):=FP λi j _ _ _ _ _ hc q=>by
 have h1:(0:Ip) < j:=hc;exact mod_int' ∅ (by rw[Int.fmod_eq_emod_of_nonneg i ∅]; exact q)
def Ce:OpR X (binaryOp .Pow) (rI Gi λi j=>.int (i ^ j.toNat)):=FP λ_ _ _ _ _ _ _ hc q=>pow_int_small hc.1 hc.2.1 hc.2.2 q
def Hy {f:HS->Ry HS}{g:Ip->Ip}
  (rule:∀(i:Ip) (t:So) (s:HV) (Q:HS->HV->Prop) (E:HS->HV->Prop),Q (.int (g i) s.toks) { s with toks:=s.toks+1 }->wpAny (model X.prog X.w) X.A (f (.int i t)) Q E s) :
  Gf X f (rU λi=>.int (g i)):=by
 intro J s Y H x v Q I rx h;obtain⟨i,rfl,q⟩:=h;obtain⟨t,rfl⟩:=rx;exact rule i t s _ _ #[.int (g i),H,I.tok _,#[_,rfl],q]
def Cf:Gf X (unaryOp .USub) (rU λi=>.int (-i)):=Hy λ_ _ _ _ _ q=>neg_int q
end
section
variable{X:Cx}{a b c:IJ}{ta tb tc:TE}{pos:KW}
def vn {J:HN (Ic×Kb)}{Y:St}{H:Hp}{s:HV}{Q:VK}{k k':IN}(I:Inv X J Y H s)(q:Q (.bl k) H)(e:k=k'):EP X J Y Q (.bool k') s:=by
 subst e;exact#[.bl k,H,I,rfl,q]
def Eb:OpR X (compareOp .Lt) (Bh λi j=>.bl (decide (i < j))):=yV λ_ _ _ _ _ _ _ q=>lt_int q
def Ec:OpR X (compareOp .LtE) (Bh λi j=>.bl (decide (i<=j))):=yV λ_ _ _ _ _ _ _ q=>le_int q
def Ed:OpR X (compareOp .Gt) (Bh λi j=>.bl (decide (j < i))):=yV λ_ _ _ _ _ _ _ q=>gt_int q
def Ee:OpR X (compareOp .GtE) (Bh λi j=>.bl (decide (j<=i))):=yV λ_ _ _ _ _ _ _ q=>ge_int q
def Cg:OpR X (compareOp .Is) (λx y H Q=>y=.non/\Q (.bl (decide (x=.non))) H):=by
 intro J s Y H x y v u Q I rx ry h;obtain⟨rfl,q⟩:=h;cases ry;refine is_none_gen (vn I q ?_);cases x <;> first
  | (cases rx; rfl)
  | (obtain⟨t,rfl⟩:=rx; rfl)
def yX:OpR X (compareOp .IsNot) (λx y H Q=>y=.non/\Q (.bl (!decide (x=.non))) H):=by
 intro J s Y H x y v u Q I rx ry h;obtain⟨rfl,q⟩:=h;cases ry;refine isnot_none_gen (vn I q ?_);cases x <;> first
  | (cases rx; rfl)
  | (obtain⟨t,rfl⟩:=rx; rfl)
def yY {op:Ra}{r:R2}(ho:OpR X (compareOp op) r)(ha:PE X a ta)(hb:PE X b tb)(hm:behindInMarks op b=false):PE X (.Compare a [op] [b] pos) (FN r ta tb):=by
 intro J s Y H Q I h;exact wpAny_Compare1 (B7 ha hb I h λv u s2 x y H2 I2 rx ry q=>ho J s2 Y H2 x y v u Q I2 rx ry q) hm
abbrev Ef (t:TE):TT:=λY H Q=>t Y H λx H'=>∃k,x=.bl k/\Q k H'
def yZ {op:Ra}{r:R2}(ho:OpR X (compareOp op) r)(ha:PE X a ta)(hb:PE X b tb)(hm:behindInMarks op b=false):PT X (.Compare a [op] [b] pos) (Ef (FN r ta tb)):=by
 intro J s Y H Q I h;refine wpAny_isTrue_Compare1 (bm (ha J s Y H _ I h) λv s1 #[x,H1,I1,r1,q1]=>bm (hb J s1 Y H1 _ I1 q1) λu s2 #[y,H2,I2,r2,q2]=>
  bm (ho J s2 Y H2 x y v u _ I2 r1 r2 q2) λc s3 #[z,H3,I3,r3,k,e,q3]=>?_) hm
 subst e;cases r3;exact KO #[H3,I3,q3]
abbrev Gj (K:Ij)(x:V)(H:Hp)(k:IN):Prop:=
 match x with
 | .non=>k=false
 | .bl b=>k=b
 | .int i=>k=(i != 0)
 | .str y=>y.length<=sizeLine/\k=((y.length:Ip) != 0)
 | .byt y=>y.size<=sizeLine/\k=((y.size:Ip) != 0)
 | .ref p=>(∃xs,SqL K H p xs/\k = !xs.isEmpty)\/(∃xs,SqT K H p xs/\k = !xs.isEmpty)\/∃U,H p=ba (.dK U)/\k = !U.isEmpty
 | _=>JR
def qu {κ:Type}{U:HN (κ×V)}{vs:HN (κ×HS)}(r:KV U vs):(!vs.isEmpty) = !U.isEmpty:=by
 cases r <;> rfl
def jC {xs:HN V}{its:HN HS}(r:Vals xs its):(!its.toArray.isEmpty) = !xs.isEmpty:=by
 cases r <;> simp
def iG:(sizeLine:HZ) < 2 ^ 63:=by rw[Jq]; decide
def Ch:Gg X (λx H Q=>∃k,Gj X.K x H k/\Q k H):=by
 intro J s Y H x v Q I rx h;obtain⟨k,e,q⟩:=h;have hl:=iG;have hs:sizeLine=16777216:=Jq;cases x with
 | non=>
  cases rx;have e':k=false:=e;subst e';exact truthy_none #[H,I,q]
 | bl b=>
  cases rx;have e':k=b:=e;subst e';exact KO #[H,I,q]
 | int i=>
  obtain⟨t,rfl⟩:=rx;have e':k=(i != 0):=e;subst e';exact PySem.P.truthy_int #[H,I,q]
 | str y=>
  obtain⟨t,rfl⟩:=rx;obtain⟨hy,e'⟩ : y.length<=sizeLine/\k=((y.length:Ip) != 0):=e;subst e';exact PySem.P.truthy_str ∅ #[H,I.tok _,q]
 | byt y=>
  obtain⟨t,rfl⟩:=rx;obtain⟨hy,e'⟩ : y.size<=sizeLine/\k=((y.size:Ip) != 0):=e;subst e';exact PySem.W.truthy_bytes ∅ #[H,I.tok _,q]
 | ref p=>
  cases rx;have e':(∃xs,SqL X.K H p xs/\k = !xs.isEmpty)\/(∃xs,SqT X.K H p xs/\k = !xs.isEmpty)\/∃U,H p=ba (.dK U)/\k = !U.isEmpty:=e;rcases e' with⟨xs,hx,e'⟩|⟨xs,hx,e'⟩|⟨U,hx,e'⟩
  ·subst e';obtain⟨its,r,pl,hz⟩:=I.list hx;have hlen:=r.length;exact wpAny_truthy_list pl.isList (by simp only[Iu]; omega) #[H,I.tok _,by rw[jC r]; exact q]
  ·subst e';obtain⟨its,r,pl,hz⟩:=I.tuple hx;have hlen:=r.length;exact truthy_tuple pl (by simp only[Iu]; omega) #[H,I.tok _,by rw[jC r]; exact q]
  ·subst e';obtain⟨hz,hS,vs,r,m⟩ : U.length<=sizeLine/\(p==sysModules)=false/\∃vs,KV U vs/\s.heap.DictOf (mo X.prog X.w) p vs:=I.hok p _ hx;have hlen:U.length=vs.length:=NH r;exact wpAny_truthy_dict hS m ∅ #[H,I.tok _,by rw[qu r]; exact q]
 | _=>exact(show JR from e).elim
def qv:OpR X (binaryOp .Add) (λx y H Q=>∃i j,x=.str i/\y=.str j/\i.length+j.length<=sizeLine/\Q (.str (i++j)) H):=by
 intro J s Y H x y v u Q I rx ry h;obtain⟨i,j,rfl,rfl,hz,q⟩:=h;obtain⟨t,rfl⟩:=rx;obtain⟨t',rfl⟩:=ry;exact add_str (λt' tk=>#[.str (i++j),H,I.tok _,#[_,rfl],q]) hz
def kX {x:V}{us:HN HS}(r:Vals [x] us):∃u,us=[u]/\RelV x u:=by
 cases r with
 | cons r1 r2=>cases r2; exact#[_,rfl,r1]
def kY:CallR X (.type "int") (λxs H Q=>(∃i,xs=[.int i]/\Q (.int i) H)\/∃k,xs=[.bl k]/\Q (.int (if k then 1 else 0)) H):=by
 intro J s Y H xs us Q I r h;rcases h with⟨i,rfl,q⟩|⟨k,rfl,q⟩
 ·obtain⟨u,rfl,t,rfl⟩:=kX r;exact call_int_int #[.int i,H,I,#[_,rfl],q]
 ·obtain⟨u,rfl,r1⟩:=kX r;cases r1;exact call_int_bool #[.int (if k then 1 else 0),H,I.tok _,#[_,rfl],q]
abbrev Gk (K:Ij)(x:V)(H:Hp)(n:HZ):Prop:=
 match x with
 | .str y=>y.length<=sizeLine/\n=y.length
 | .byt y=>y.size<=sizeLine/\n=y.size
 | .ref p=>(∃xs,SqL K H p xs/\n=xs.length)\/∃xs,SqT K H p xs/\n=xs.length
 | _=>JR
def jD:CallR X (.builtin "len") (λxs H Q=>∃x n,xs=[x]/\Gk X.K x H n/\Q (.int n) H):=by
 intro J s Y H xs us Q I r h;obtain⟨x,n,rfl,e,q⟩:=h;obtain⟨u,rfl,rx⟩:=kX r;have hl:=iG;have hs:sizeLine=16777216:=Jq;cases x with
 | str y=>
  obtain⟨t,rfl⟩:=rx;obtain⟨hy,e'⟩ : y.length<=sizeLine/\n=y.length:=e;subst e';exact len_str ∅ #[.int _,H,I.tok _,#[_,rfl],q]
 | byt y=>
  obtain⟨t,rfl⟩:=rx;obtain⟨hy,e'⟩ : y.size<=sizeLine/\n=y.size:=e;subst e';exact PySem.W.len_bytes ∅ #[.int _,H,I.tok _,#[_,rfl],q]
 | ref p=>
  cases rx;have e':(∃xs,SqL X.K H p xs/\n=xs.length)\/∃xs,SqT X.K H p xs/\n=xs.length:=e;rcases e' with⟨xs,hx,e'⟩|⟨xs,hx,e'⟩
  ·subst e';obtain⟨its,r',pl,hz⟩:=I.list hx;have hlen:=r'.length;exact Calls.call_len_list pl.isList (by simp only[Iu]; omega) #[.int xs.length,H,I.tok _,#[_,by simp only[Iu]; rw[hlen]],q]
  ·subst e';obtain⟨its,r',pl,hz⟩:=I.tuple hx;have hlen:=r'.length;exact len_tuple pl (by simp only[Iu]; omega) #[.int xs.length,H,I.tok _,#[_,by simp only[Iu]; rw[hlen]],q]
 | _=>exact(show JR from e).elim
end
structure Room (k:HZ)(A:Jd):Prop where
 hd:A.handled=gV
 dp:A.depth+3*k+5 < recursionLimit
 un:A.units+16*k+200 < cLine
def Room.deeper {k:HZ}{A:Jd}(r:Room (k+1) A)(env:Pd):Room k (A.deeper env):=
 #[r.hd,by have:=r.dp; show A.depth+1+3*k+5 < _; omega,by have:=r.un; show A.units+3+16*k+200 < _; omega]
def Room.depth {k:HZ}{A:Jd}(r:Room k A):A.depth < recursionLimit:=by have:=r.dp; omega
abbrev Eg:TA:=λ_ H Q=>Q [] H
abbrev Eh (ta:TE)(tr:TA):TA:=λY H Q=>ta Y H λx H1=>tr Y H1 λxs H2=>Q (x::xs) H2
section
variable{X:Cx}{e:IJ}{es:HN IJ}{te:TE}{t:TA}{pos:KW}
def vo:PA X [] Eg:=λ_ _ _ _ H Q I h=>Calls.spliced_nil #[[],H,I,.nil,h]
def mr (ha:PE X e te)(hr:PA X es t)(hs:starEach (e::es) X.env=(false,eval e X.env)::starEach es X.env:=by rfl):PA X (e::es) (Eh te t):=by
 intro pos J s Y H Q I h;rw[hs];show wpAny _ _ (spliced ((false,eval e X.env)::backTo pos (starEach es X.env))) _ _ s;refine Calls.spliced_cons (bm (ha J s Y H _ I h) λu s1 #[x,H1,I1,r1,q1]=>?_)
 exact bm (hr pos J s1 Y H1 _ I1 q1) λus s2 #[xs,H2,I2,r2,q2]=>#[x::xs,H2,I2,.cons r1 r2,q2]
abbrev Gm (t:TA):TE:=λY H Q=>t Y H λxs H1=>xs.length<=sizeLine/\∀p,H1 p=gV->Q (.ref p) (bh H1 p (.tup xs))
abbrev Gn (t:TA):TE:=λY H Q=>t Y H λxs H1=>xs.length<=sizeLine/\∀p,H1 p=gV->Q (.ref p) (bh H1 p (.lst xs))
def Ci {x1}(h:PA X es t):PE X (.Tuple es x1 pos) (Gm t):=by
 intro J s Y H Q I hq;refine wpAny_Tuple_spliced (bm (h pos J s Y H _ I hq) λus s1 #[xs,H1,I1,r,z,q]=>#[by rw[<- r.length]; exact z,?_])
 have hf:H1 s1.heap.objs.size=gV:=I1.hok.fresh (Ih _);refine#[.ref s1.heap.objs.size,bh H1 s1.heap.objs.size (.tup xs),I1.laid (t':=s1.toks) (λb u e=>HR _ e) (Ih _) ?_,rfl,q _ hf]
 exact#[z,us,r,#[_,Im _ rfl,rfl,_,rfl]]
def Cj (h:PA X es t):PE X (.List es pos) (Gn t):=by
 intro J s Y H Q I hq;refine wpAny_List_spliced (bm (h pos J s Y H _ I hq) λus s1 #[xs,H1,I1,r,z,q]=>#[by rw[<- r.length]; exact z,?_])
 have hf:H1 s1.heap.objs.size=gV:=I1.hok.fresh (Ih _);refine#[.ref s1.heap.objs.size,bh H1 s1.heap.objs.size (.lst xs),I1.laid (t':=s1.toks) (λb u e=>HR _ e) (Ih _) ?_,rfl,q _ hf]
 exact#[z,us,0,r,Im _ rfl]
end
noncomputable abbrev Sp:=HN V->Hp->VK->XK->Prop
noncomputable abbrev vp:=HN Pd->Hp->HV->XK->HS->HV->Prop
structure Env0 (P:IZ)(w:Jg)(K:Ij)(mg:IH->HY HS)(base:Jk)(A:Jd)(outer:HN Pd)(s:HV)(H:Hp):Prop where
 frames:A.frames=ba outer
 mod:Mod K mg base
 bs:∀b o,base.get? b=ba o->s.heap.get? b=ba o/\H b=gV
 bsz:base.objs.size<=s.heap.objs.size
 funs:s.heap.FunFrames base outer
 frf:∀b∈qp outer,H b=gV
 hok:HOk P w H s.heap
 bare:NB s.gens
abbrev CE (outer:HN Pd)(P:IZ)(w:Jg)(H:Hp)(s:HV)(Q:VK)(u:HS)(s':HV):Prop:=
 ∃v H',s'.os=s.os/\NB s'.gens/\Un (qp outer) [] H H' s.heap s'.heap/\HOk P w H' s'.heap/\RelV v u/\Q v H'
abbrev CR (CX:vp)(outer:HN Pd)(P:IZ)(w:Jg)(H:Hp)(s:HV)(Q:VK)(E:XK)(r:PL)(s':HV):Prop:=
 match r with
 | .ok (.ret u)=>CE outer P w H s Q u s'
 | .ok _=>JR
 | .error e=>CX outer H s E e s'
structure FnOk (P:IZ)(w:Jg)(K:Ij)(mg:IH->HY HS)(base:Jk)(CX:vp)(k:HZ)(f:Ic)(fd:KY)(ps:HN IH)(sp:Sp):Prop where
 len:∀vs H Q E,sp vs H Q E->vs.length=ps.length
 run:∀(A:Jd) (outer:HN Pd) (s:HV) (H:Hp) (args:Args) (us:HN HS) (vs:HN V) (Q:VK) (E:XK),Room k A->Env0 P w K mg base A outer s H->Ph s fd args (ps.zip us)->Vals vs us->sp vs H Q E->
  codeAny (model P w) A (.call (.ref f) args) (CR CX outer P w H s Q E) s
section
variable{X:Cx}{J:HN (Ic×Kb)}{Y:St}{H:Hp}{s s':HV}
def Inv.env0 (I:Inv X J Y H s):Env0 X.prog X.w X.K X.mg X.base X.A X.stack s H:=
 #[I.ok.frames,I.ok.mod,I.bs,IL I.ok.bsz I.sz,I.stack,I.stkFree,I.hok,I.bare]
def Inv.after {Q:VK}{u:HS}(I:Inv X J Y H s)(h:CE X.stack X.prog X.w H s Q u s'):EP X J Y Q u s':=by
 obtain⟨v,H',os,bare,un,hok,r,q⟩:=h;obtain⟨hh,g,d,t,os'⟩:=s';obtain rfl:os'=s.os:=os;exact#[v,H',I.call (h':=hh) (g':=g) (d':=d) (t':=t) (ch:=[]) un hok bare (λb z=>absurd z (by simp)),r,q]
end
abbrev vt (sp:Sp)(dvs:HN V)(E:XK)(t:TA):TE:=λY H Q=>t Y H λvs H1=>sp (vs++dvs) H1 Q E
abbrev Binds (K:Ij)(fd:KY)(ps:HN IH)(ds:HN HS):Prop:=
 ∀(s:HV) (us:HN HS),K.In s.heap->(us++ds).length=ps.length->Ph s fd #[us,[]] (ps.zip (us++ds))
def Binds.all {K:Ij}{fd:KY}{ps:HN IH}(h:∀us:HN HS,us.length=ps.length->bindArgs fd #[us,[]]=pure (ps.zip us)):Binds K fd ps []:=λs us _ hl=>by
 rw[JT]at hl ⊢;exact .of_eq (h us hl)
abbrev mw (CX:vp)(X:Cx)(E:XK):Prop:=∀(J:HN (Ic×Kb)) (Y:St) (H:Hp) (s:HV) (e:HS) (s':HV),Inv X J Y H s->CX X.stack H s E e s'->X.xe e s'
section
variable{X:Cx}{CX:vp}{k:HZ}{f C:Ic}{fd:KY}{ps:HN IH}{sp:Sp}{dvs:HN V}{ds:HN HS}{E:XK}{x m:IH}{p pos apos:KW}{e o:IJ}{es:HN IJ}{ta:TE}{t:TA}
def vw {J:HN (Ic×Kb)}{Y:St}{H:Hp}{s:HV}{Q:VK}{us:HN HS}{vs:HN V}(F:FnOk X.prog X.w X.K X.mg X.base CX k f fd ps sp)(hr:Room k X.A)(hb:Binds X.K fd ps ds)(hd:Vals dvs ds)(hx:mw CX X E)
  (I:Inv X J Y H s) (r:Vals vs us) (h:sp (vs++dvs) H Q E):wpAny (model X.prog X.w) X.A (call (.ref f) us) (EP X J Y Q) X.xe s:=by
 have r2:Vals (vs++dvs) (us++ds):=r.append hd;have hl:(us++ds).length=ps.length:=by rw[<- r2.length]; exact F.len _ _ _ _ h
 refine Qp (LA (F.run X.A X.stack s H #[us,[]] (us++ds) (vs++dvs) Q E hr I.env0 (hb s us I.kIn hl) r2 h) λr s' hq=>?_)
 cases r with
 | error e=>exact hx J Y H s e s' I hq
 | ok fl=>
  cases fl with
  | ret u=>exact I.after hq
  | next=>exact JR.elim hq
  | brk=>exact JR.elim hq
  | cont=>exact JR.elim hq
def y4 (F:FnOk X.prog X.w X.K X.mg X.base CX k f fd ps sp)(hr:Room k X.A)(hg:Gl X x)(hm:X.mg x=ba (.ref f))(hk:J0 X.K (.ref f)=true)(hb:Binds X.K fd ps ds)(hd:Vals dvs ds)(hx:mw CX X E)
  (ha:PA X (e::es) t) (hdb:(x==("__debug__" : IH))=false:=by decide) (he:starEach (e::es) X.env=(false,eval e X.env)::starEach es X.env:=by rfl) (hpl:(backTo pos (starEach es X.env)).any (·.1)=false:=by rfl) :
  PE X (.Call (.Name x p) (e::es) [] pos) (vt sp dvs E t):=by
 intro J s Y H Q I h;refine Mm (rK I hg hm ?_ hdb);refine PySem.W.callWith_K (h₀:=X.base) I.ok.mod.kin hk (bm (ha pos J s Y H _ I h) λus s1 #[vs,H1,I1,r,q]=>#[I1.kIn,?_]) he hpl
 exact vw F hr hb hd hx I1 r q
def vx (F:FnOk X.prog X.w X.K X.mg X.base CX k f fd ps sp)(hr:Room k X.A)(hg:Gl X x)(hm:X.mg x=ba (.ref f))(hk:J0 X.K (.ref f)=true)(hb:Binds X.K fd ps ds)(hd:Vals dvs ds)(hx:mw CX X E)
  (hdb:(x==("__debug__" : IH))=false:=by decide):PE X (.Call (.Name x p) [] [] pos) (vt sp dvs E Eg):=by
 intro J s Y H Q I h;refine Mm (rK I hg hm ?_ hdb);exact PySem.W.callWith_K0 I.kIn hk (vw (us:=[]) F hr hb hd hx I .nil h)
end
structure FnScope (N P:HN IH)(sc:LJ):Prop where
 kind:sc.kind=.function
 co:sc.isCoroutine=false
 gen:sc.isGenerator=false
 nd:N.Nodup
 pre:N.take P.length=P
 par:∀x∈P,sc.names.lookup x=ba .local\/sc.names.lookup x=ba .cell
 nofree:∀y∈sc.names,y.2≠.free
def kZ {kindOf:IH->HY Kx}{x:IH}:∀ {binds:HN (IH×HS)} {m:IH->HY HS},(∀v,(x,v)∉binds)->bindL kindOf binds m x=m x
 | [],_,_=>rfl
 | (n,v)::r,m,h=>by
  unfold bindL;rw[kZ λw hw=>h w (JD _ hw)]
  split
  ·have:x≠n:=by rintro rfl; exact h v JJ
   simp[this]
  ·rfl
def la {kindOf:IH->HY Kx}{x:IH}:∀ {binds:HN (IH×HS)} {m:IH->HY HS},(∀v,(x,v)∉binds)->bindC kindOf binds m x=m x
 | [],_,_=>rfl
 | (n,v)::r,m,h=>by
  unfold bindC;rw[la λw hw=>h w (JD _ hw)]
  split
  ·rfl
  ·have:x≠n:=by rintro rfl; exact h v JJ
   simp[this]
def lb {kindOf:IH->HY Kx}{x:IH}{v:HS}:∀ {P:HN IH} {vs:HN HS} {i:HZ} {m:IH->HY HS},P.Nodup->P[i]?=ba x->vs[i]?=ba v->kindOf x=ba .local->
  bindL kindOf (P.zip vs) m x=ba v
 | [],_,_,_,_,h,_,_=>by simp at h
 | _::_,[],_,_,_,_,h,_=>by simp at h
 | p::P,w::vs,0,m,nd,h1,h2,hk=>by
  simp at h1 h2; subst h1; subst h2
  show bindL kindOf ((p,w)::P.zip vs) m p=_;unfold bindL;rw[kZ λv hv=>(La.mp nd).1 (N3 hv).1,IF hk]
  simp
 | p::P,w::vs,i+1,m,nd,h1,h2,hk=>by
  show bindL kindOf ((p,w)::P.zip vs) m x=_;unfold bindL;exact lb (i:=i) (La.mp nd).2 (by simpa using h1) (by simpa using h2) hk
def lc {kindOf:IH->HY Kx}{x:IH}{v:HS}:∀ {P:HN IH} {vs:HN HS} {i:HZ} {m:IH->HY HS},P.Nodup->P[i]?=ba x->vs[i]?=ba v->kindOf x≠ba .local->
  bindC kindOf (P.zip vs) m x=ba v
 | [],_,_,_,_,h,_,_=>by simp at h
 | _::_,[],_,_,_,_,h,_=>by simp at h
 | p::P,w::vs,0,m,nd,h1,h2,hk=>by
  simp at h1 h2; subst h1; subst h2
  show bindC kindOf ((p,w)::P.zip vs) m p=_;unfold bindC;rw[la λv hv=>(La.mp nd).1 (N3 hv).1,IP hk]
  simp
 | p::P,w::vs,i+1,m,nd,h1,h2,hk=>by
  show bindC kindOf ((p,w)::P.zip vs) m x=_;unfold bindC;exact lc (i:=i) (La.mp nd).2 (by simpa using h1) (by simpa using h2) hk
abbrev fe (N:HN IH)(vs:HN V):St:=vs.map ba++Jj (N.length - vs.length) gV
abbrev qw (CX:vp)(P:IZ)(w:Jg)(K:Ij)(mg:IH->HY HS)(base:Jk)(N:HN IH)(qual:IH)(scope:LJ)(f:Ic)(cd:HS)(A:Jd)(outer:HN Pd)(s:HV)(H:Hp)(E:XK):Cx where
 prog:=P
 w:=w
 K:=K
 mg:=mg
 base:=base
 A:=A.deeper (envOfC qual scope s.heap.objs.size f cd)
 N:=N
 s₀:=s
 H₀:=H
 env:=envOfC qual scope s.heap.objs.size f cd
 outer:=outer
 stack:=envOfC qual scope s.heap.objs.size f cd::outer
 ex:=[]
 calm:=true
 fn:=λ_=>true
 pn:=[]
 xe:=λe s'=>wpAny (model P w) (A.deeper (envOfC qual scope s.heap.objs.size f cd)) (leaving (envOfC qual scope s.heap.objs.size f cd) e) (λ_ s''=>CX outer H s E e s'') (λe' s''=>CX outer H s E e' s'') s'
def nS {sc:LJ}{n:HZ}{x:IH}(h:sc.names.lookup x=ba .cell):∃c,(cellsFrom n sc.names []).lookup x=ba c:=by
 have q:=NV sc.names n [] (.inl h);exact Jv.mp q
def tM {CX:vp}{P:IZ}{w:Jg}{K:Ij}{mg:IH->HY HS}{base:Jk}{N ps:HN IH}{qual:IH}{scope:LJ}{f:Ic}{cd:HS}{A:Jd}{outer:HN Pd}{s s1:HV}{H:Hp}{E:XK}{us:HN HS}{vs:HN V}
  (S:FnScope N ps scope) (hd:A.handled=gV) (e0:Env0 P w K mg base A outer s H) (hl:vs.length=ps.length) (r:Vals vs us)
  (x:InCallC s s.heap.objs.size (bindL (envOfC qual scope s.heap.objs.size f cd).kindOf (ps.zip us) λ_=>gV) (cellsFrom (s.heap.objs.size+1) scope.names []) (bindC (envOfC qual scope s.heap.objs.size f cd).kindOf (ps.zip us) λ_=>gV) s1) :
  Inv (qw CX P w K mg base N qual scope f cd A outer s H E) [] (fe N vs) H s1:=by
 have hpl:ps.length<=N.length:=by have:=congrArg Ro S.pre; rw[JE]at this; omega
 obtain⟨h1,tk,rfl,hk⟩:=x.done;have noA:∀b:Ic,b∉(qw CX P w K mg base N qual scope f cd A outer s H E).ex:=λb z=>absurd (show b∈([]:HN Ic)from z) (by simp)
 refine#[#[e0.mod,S.kind,rfl,rfl,Ih _,λy z c h1 h2=>?_,λy hy=>?_,λy c _ h=>?_,λ_=>hd,Around.frames_deeper e0.frames,.inr #[rfl,rfl],λb z=>absurd z (noA b),e0.bs,e0.bsz,λb _ _=>noA b,λb z=>absurd z (noA b),e0.funs,e0.frf],
  rfl,e0.bare,Un.kept hk,#[_,x.toInCall.ns,λi y v h1 h2 h3=>?_],λy c h=>#[_,x.cell y c h],e0.hok.fresh (Ih _),λy c h=>?_,λp hp=>absurd (show p∈([]:HN (Ic×Kb))from hp) (by simp),e0.hok.kept hk,?_]
 ·exact name_of_addr x.apart (Ln h1) (Ln h2)
 ·have hy:scope.names.lookup y=ba .cell\/scope.names.lookup y=ba .free:=hy;rcases hy with hy|hy
  ·exact nS hy
  ·exact absurd rfl (S.nofree _ (Ln hy))
 ·exact LY (x.above y c (Ln h))
 ·have hi:i < vs.length:=by
   unfold fe at h2
   by_cases hi:i < vs.length
   ·exact hi
   ·rw[KZ (by simpa using hi)]at h2
    rw[List.getElem?_replicate]at h2;split at h2 <;> cases h2
  have ha:vs[i]?=ba v:=by
   unfold fe at h2;rw[Jr (by simpa using hi),Ii]at h2
   cases e:vs[i]? with
   | none=>rw[e]at h2; cases h2
   | some a=>rw[e]at h2; cases h2; rfl
  obtain⟨u,hu,rv⟩:=r.get ha;have hp:ps[i]?=ba y:=by
   rw[<- S.pre,NI ∅]; exact h1
  have ndP:ps.Nodup:=by rw[<- S.pre]; exact S.nd.sublist (List.take_sublist _ _)
  refine#[u,rv,?_];rcases S.par y (Ir hp)with k|k
  ·exact .inl #[k,lb ndP hp hu k]
  ·obtain⟨c,e⟩:=nS (n:=s.heap.objs.size+1) k;refine .inr #[.inl k,c,e,?_];have q:=x.cell y c e;rw[lc ndP hp hu (by show scope.names.lookup y≠_; rw[k]; decide)]at q
   exact q
 ·exact e0.hok.fresh (LY (x.above y c (Ln h)))
 ·unfold fe;show _=N.length;rw[Io,HQ,Ob];omega
def Ei {CX:vp}{P:IZ}{w:Jg}{K:Ij}{mg:IH->HY HS}{base:Jk}{k:HZ}{f:Ic}{name qual:IH}{params:Arguments}{body:HN Lm}{scope:LJ}{dV kV doc pm cdv ct oc:HS}{an od:HY Ic}
  {osl:IM (HY HS)} {N ps:HN IH} {sp:Sp} (lk:K.lookup f=ba #[oc,od,.func (KI name qual params body scope dV kV doc pm an cdv ct),osl]) (hcd:Lq K cdv qual=true) (S:FnScope N ps scope)
  (len:∀vs H Q E,sp vs H Q E->vs.length=ps.length)
  (hbody:∀(A:Jd) (outer:HN Pd) (s:HV) (H:Hp) (vs:HN V) (Q:VK) (E:XK),Room k (A.deeper (envOfC qual scope s.heap.objs.size f cdv))->sp vs H Q E->
   ∃t,PSs (qw CX P w K mg base N qual scope f cdv A outer s H E) body t/\t { nx:=λ_ H'=>Q .non H',rt:=Q } (fe N vs) H) :
  FnOk P w K mg base CX (k+1) f (KI name qual params body scope dV kV doc pm an cdv ct) ps sp:=by
 refine#[len,λA outer s H args us vs Q E hr e0 hb r hsp=>?_]
 have hl:=len _ _ _ _ hsp;have KX:K.In s.heap:=e0.mod.kin.keeps λb o e=>(e0.bs b o e).1
 have lim:s.heap.NoLimit:=e0.mod.nolimit.keeps λb o e=>(e0.bs b o e).1
 have hkind:∀y∈ps.zip us,scope.names.lookup y.1=ba .local\/(scope.names.lookup y.1=ba .cell/\((cellsFrom (s.heap.objs.size+1) scope.names []).lookup y.1).isSome=true):=λ#[n,v] hy=>by
  rcases S.par n (N3 hy).1 with q|q
  ·exact .inl q
  ·exact .inr #[q,NV _ _ _ (.inl q)]
 refine codeAny_call_function hr.depth (KX _ _ lk) rfl S.co S.gen rfl (PySem.W.codeRec_of KX hcd) (hb _ _ _ _ ?_);refine wpAny_newFunctionEnv_cells S.kind hkind λenv he s1 x=>?_
 subst he;refine#[lim.keeps x.toInCall.keep,codeAny_func ?_];obtain⟨t,ht,hq⟩:=hbody A outer s H vs Q E (hr.deeper _) hsp;have I:Inv (qw CX P w K mg base N qual scope f cdv A outer s H E) [] (fe N vs) H s1:=tM S hr.hd e0 hl r x;refine Ks (ht [] s1 (fe N vs) H _ I hq) (λfl s' hs=>?_) λe s' hs=>hs
 have fin:∀ {Y':St} {H':Hp} {v:V} {u:HS},Inv (qw CX P w K mg base N qual scope f cdv A outer s H E) [] Y' H' s'->RelV v u->Q v H'->CE outer P w H s Q u s':=
  λ{Y' H' v u} td rv q=>#[v,H',td.os,td.bare,td.base,td.hok,rv,q]
 cases fl with
 | ret u=>
  obtain⟨v,Y',H',td,rv,q⟩:=hs;exact fin td rv q
 | next=>
  obtain⟨Y',H',td,q⟩:=hs;exact fin (v:=V.non) (u:=Jn) td rfl q
 | brk=>
  obtain⟨_,_,_,q⟩:=hs;exact JR.elim q
 | cont=>
  obtain⟨_,_,_,q⟩:=hs;exact JR.elim q
section
variable{X:Cx}{x:IH}{p pos:KW}{e:IJ}{es:HN IJ}{t:TA}{id T:JX}{r:HN V->Hp->VK->Prop}
abbrev Hn (r:HN V->Hp->VK->Prop)(t:TA):TE:=λY H Q=>t Y H λvs H1=>r vs H1 Q
def nT (hc:CallR X (.builtin id) r)(hg:Gl X x)(hm:X.mg x=gV)(hv:bootBuiltins x=ba (.builtin id))(ha:PA X (e::es) t)(hn:x≠"__name__":=by decide)(hdb:(x==("__debug__" : IH))=false:=by decide)
  (he:starEach (e::es) X.env=(false,eval e X.env)::starEach es X.env:=by rfl) (hpl:(backTo pos (starEach es X.env)).any (·.1)=false:=by rfl):PE X (.Call (.Name x p) (e::es) [] pos) (Hn r t):=by
 intro J s Y H Q I h;refine Mm (gp I hg hm hv ?_ hn hdb);exact PM (bm (ha pos J s Y H _ I h) λus s1 #[vs,H1,I1,r1,q1]=>hc J s1 Y H1 vs us Q I1 r1 q1) he hpl
def tN (hc:CallR X (.type T) r)(hg:Gl X x)(hm:X.mg x=gV)(hv:bootBuiltins x=ba (.type T))(ha:PA X (e::es) t)(hn:x≠"__name__":=by decide)(hdb:(x==("__debug__" : IH))=false:=by decide)
  (he:starEach (e::es) X.env=(false,eval e X.env)::starEach es X.env:=by rfl) (hpl:(backTo pos (starEach es X.env)).any (·.1)=false:=by rfl):PE X (.Call (.Name x p) (e::es) [] pos) (Hn r t):=by
 intro J s Y H Q I h;refine Mm (gp I hg hm hv ?_ hn hdb);exact Ky (bm (ha pos J s Y H _ I h) λus s1 #[vs,H1,I1,r1,q1]=>hc J s1 Y H1 vs us Q I1 r1 q1) he hpl
end
end L2
namespace HT
open PySem PyProof.Rows
section
open PySem.SeqAt
open PySem.AutoSeq1 (wpAny_loadPart')
open PySem.MeetsSeq PySem.MeetsSeq2 PySem.MeetsSeq3
end
section
variable{prog:IZ}{w:Jg}{A:Jd}{E:HS->HV->Prop}{s:HV}
def y6 {t b:Ic}{vs ws:HN HS}{Q:HS->HV->Prop}(ht:Pc s.heap t vs.toArray)(hb:Pc s.heap b ws.toArray)(hv:vs≠[])
  (h1:ws=[]->Q (.ref t) s) (h2:ws≠[]->Q (.ref s.heap.objs.size) { s with heap:=s.heap.push { cls:=.type "tuple",data:=.seq (vs++ws).toArray } })
  (hsz:vs.length+ws.length<=sizeLine):wpAny (model prog w) A (binaryOp .Add (.ref t) (.ref b)) Q E s:=by
 obtain⟨⟨cls,dd,data,sl⟩,ho,hc,n,hd⟩:=id ht;obtain⟨⟨cls2,dd2,data2,sl2⟩,ho2,hc2,n2,hd2⟩:=id hb;simp only at hc hd hc2 hd2;subst hc hd hc2 hd2;have e:vs.toArray++ws.toArray=(vs++ws).toArray:=by simp
 by_cases hw:ws=[]
 ·exact Pi #[_,ho,rfl] #[_,ho2,rfl] NP OQ Mw Mq (Mg _ _)
   (tuple_addW1 t b vs.toArray ws.toArray n n2 dd dd2 sl sl2 (by simpa using hv) (by simp[hw])) #[ho,ho2,h1 hw]
 ·refine Pi #[_,ho,rfl] #[_,ho2,rfl] NP OQ Mw Mq (Mg _ _)
   (tuple_addW2 t b vs.toArray ws.toArray n n2 dd dd2 sl sl2 (by simpa using hv) (by simpa using hw) (by rw[Iu,Iu]; exact hsz)) #[ho,ho2,?_]
  rw[e];exact h2 hw
abbrev bR (n d:HZ):HY Ip->HZ
 | none=>d
 | some v=>if v < 0 then(v+(n:Ip)).toNat else min v.toNat n
def jE (n d:HZ):bR n d gV=d:=rfl
def rN (n d k:HZ):bR n d (ba (k:Ip))=min k n:=by
 show(if (k:Ip) < 0 then((k:Ip)+(n:Ip)).toNat else min (k:Ip).toNat n)=min k n
 rw[IP ∅,IB]
def Ck (n d:HZ)(hd:d<=n)(o:HY Ip):bR n d o<=n:=by
 cases o with
 | none=>exact hd
 | some v=>
  show(if v < 0 then(v+(n:Ip)).toNat else min v.toNat n)<=n
  by_cases hv:v < 0
  ·rw[IF hv]; omega
  ·rw[IP hv]; exact Nat.min_le_right _ _
def rO (v:Ip)(n d:HZ):(if v < 0 then max (v+(n:Ip)) 0 else min v (n:Ip))=((bR n d (ba v):HZ):Ip):=by
 show(if v < 0 then max (v+(n:Ip)) 0 else min v (n:Ip))=(((if v < 0 then(v+(n:Ip)).toNat else min v.toNat n):HZ):Ip)
 by_cases hv:v < 0
 ·simp only[IF hv]; omega
 ·simp only[IP hv]; omega
def qx (lo hi:HY Ip)(n:HZ):L4 lo hi 1 (n:Ip)=(((bR n 0 lo:HZ):Ip),((bR n n hi:HZ):Ip)):=by
 have h1:¬ ((1:Ip) < 0):=∅
 unfold L4;simp only[h1,JK];refine Sd ?_ ?_
 ·cases lo with
  | none=>rfl
  | some v=>exact rO v n 0
 ·cases hi with
  | none=>rfl
  | some v=>exact rO v n n
def qA (i j:HZ):K7 (i:Ip) (j:Ip) 1=j - i:=by
 unfold K7;have h1:(1:Ip) > 0:=∅
 simp only[h1,Kd,Int.ediv_one];split <;> omega
def jF {v:HS}{o:HY Ip}{Q:HY Ip->HV->Prop}(p:Nc v o)(h:Q o s):wpAny (model prog w) A (Qe v) Q E s:=by
 cases p with
 | none=>exact Qq h
 | int i t=>exact slicePart_int h
def ey {sl:Ic}{vl vu:HS}{lo hi:HY Ip}{n:HZ}{Q:Ip×Ip×HZ->HV->Prop}(hs:s.heap.IsSliceOf sl vl vu .none)(pl:Nc vl lo)(pu:Nc vu hi)
  (h:Q (((bR n 0 lo:HZ):Ip),1,bR n n hi - bR n 0 lo) s):wpAny (model prog w) A (Nd (.ref sl) (pure (n:Ip))) Q E s:=by
 obtain⟨os,hos,hcs,hds⟩:=id hs;unfold Nd QH;refine HP (HP (Ke hos hds (x:=vl) rfl (HP (Ke hos hds (x:=vu) rfl (HP (Ke hos hds (x:=.none) rfl (HW ?_)))))));refine HP (Qq ?_);show wpAny _ _ (if ((1:Ip)==0)=true then _ else _) _ _ s
 rw[IP #v[]]
 refine HP (jF pl (HP (jF pu (HP (HW ?_)))));show wpAny _ _ (match L4 lo hi 1 (n:Ip)with|(lo,hi)=>pure (lo,(1:Ip),K7 lo hi 1)) _ _ s
 rw[qx lo hi n];show wpAny _ _ (pure (((bR n 0 lo:HZ):Ip),(1:Ip),K7 ((bR n 0 lo:HZ):Ip) ((bR n n hi:HZ):Ip) 1)) _ _ s;rw[qA];exact HW h
def vy (xs:IM HS)(i k:HZ):((ID k).filterMap λ(m:HZ)=>xs[((i:Ip)+(m:Ip)*1).toNat]?).toArray=((xs.toList.drop i).take k).toArray:=by
 have e:(λ(m:HZ)=>xs[((i:Ip)+(m:Ip)*1).toNat]?)=λm=>xs[i+m]?:=by
  funext m
  have:((i:Ip)+(m:Ip)*1).toNat=i+m:=∅
  rw[this]
 rw[e];have:=pick_run xs i k;rw[List.filterMap_map]at this;have e2:((λx=>xs[x]?)∘λx=>i+x)=λm=>xs[i+m]?:=rfl
 rw[e2]at this;rw[this]
def gK {t sl:Ic}{items:IM HS}{vl vu:HS}{lo hi:HY Ip}{Q:HS->HV->Prop}(ht:Pc s.heap t items)(hs:s.heap.IsSliceOf sl vl vu .none)(pl:Nc vl lo)(pu:Nc vu hi)
  (hw:¬ (bR items.size 0 lo=0/\bR items.size items.size hi=items.size))
  (h:Q (.ref s.heap.objs.size) { s with heap:=s.heap.push { cls:=.type "tuple",data:=.seq ((items.toList.drop (bR items.size 0 lo)).take (bR items.size items.size hi - bR items.size 0 lo)).toArray } })
  (hsz:items.size<=sizeLine):wpAny (model prog w) A (getItem (.ref t) (.ref sl)) Q E s:=by
 have htake:sizeOk (.seq ((items.toList.drop (bR items.size 0 lo)).take (bR items.size items.size hi - bR items.size 0 lo)).toArray):=by
  show((items.toList.drop (bR items.size 0 lo)).take (bR items.size items.size hi - bR items.size 0 lo)).toArray.size<=sizeLine;rw[Iu,JE,LZ,Iw];omega
 have hj:bR items.size items.size hi<=items.size:=Ck _ _ (Ih _) hi;obtain⟨os,hos,hcs,hds⟩:=id hs;have hTs:s.TypeIs (.ref sl) "slice":=#[os,hos,hcs];unfold getItem
 try with_reducible refine JB ?_
 first|refine HP (HW ?_)|skip
 refine HP (Pj ht.typeIs #v[] ?_)
 refine HP (Jt (name:=Ko "__getitem__") ht.typeIs KF
  (Jx KF ht.typeIs OI ?_ (O0 _ _)))
 show wpAny _ _ (LO (.ref t) >>= _) _ _ s;refine HP (QM ht ?_);refine HP (LB hTs ?_);rw[IF #v[]]
 refine HP (ey hs pl pu ?_);have hno:¬ ((((bR items.size 0 lo:HZ):Ip)==0&&(1:Ip)==1&&(bR items.size items.size hi - bR items.size 0 lo)==items.size)=true):=by
  intro q;rw[HX,HX]at q;have q1:((bR items.size 0 lo:HZ):Ip)=0:=eq_of_beq q.1.1;have q2:bR items.size items.size hi - bR items.size 0 lo=items.size:=eq_of_beq q.2;exact hw #[∅,∅]
 show wpAny _ _ (if (((bR items.size 0 lo:HZ):Ip)==0&&(1:Ip)==1&&(bR items.size items.size hi - bR items.size 0 lo)==items.size)=true then _ else _) _ _ s
 rw[IP hno,vy]
 first
  | exact HP (m:=Kl _) (Ji (HW #[_,rfl,HW h]) htake)
  | exact HP (m:=Kl _) (Ji (HP (HW (HW #[_,rfl,HW h]))) htake)
  | exact HP (HP (m:=Kl _) (Ji (HW (HW #[_,rfl,HW h])) htake))
  | exact HP (HP (m:=Kl _) (Ji (HW #[_,rfl,HW h]) htake))
end
end HT
namespace L2
open PySem PySem.Spec PyProof.Rows
noncomputable abbrev TO:=St->Hp->(HY Ip->Hp->Prop)->Prop
abbrev PO (X:Cx)(e:HY IJ)(t:TO):Prop:=
 ∀(J:HN (Ic×Kb)) (s:HV) (Y:St) (H:Hp) (Q:HY Ip->Hp->Prop),Inv X J Y H s->t Y H Q->
  wpAny (model X.prog X.w) X.A (evalPart e X.env) (λu s'=>∃o H',Inv X J Y H' s'/\Nc u o/\Q o H') X.xe s
abbrev y8:TO:=λ_ H Q=>Q gV H
abbrev Ej (t:TE):TO:=λY H Q=>t Y H λx H1=>∃i,x=.int i/\Q (ba i) H1
section
variable{X:Cx}{e:IJ}{te:TE}{lo hi:HY IJ}{tl th:TO}{pos p2:KW}
def y9:PO X gV y8:=by
 intro J s Y H Q I h;rw[QN];exact HW #[gV,H,I,.none,h]
def zd (h:PE X e te):PO X (ba e) (Ej te):=by
 intro J s Y H Q I hw;rw[evalPart_some];refine bm (h J s Y H _ I hw) λu s1 #[x,H1,I1,r1,q1]=>?_
 obtain⟨i,rfl,q⟩:=q1;obtain⟨t,rfl⟩:=r1;exact#[ba i,H1,I1,.int i t,q]
abbrev Ek (X:Cx)(r:V->HY Ip->HY Ip->Hp->VK->Prop):Prop:=
 ∀(J:HN (Ic×Kb)) (s:HV) (Y:St) (H:Hp) (x:V) (v vl vu:HS) (lo hi:HY Ip) (sl:Ic) (Q:VK),Inv X J Y H s->RelV x v->s.heap.IsSliceOf sl vl vu .none->Nc vl lo->Nc vu hi->r x lo hi H Q->
  ∃T id,typeLookup (.type T) "__getitem__" = pure (ba (.builtin id))/\s.TypeIs v T/\wpAny (model X.prog X.w) X.A (getItem v (.ref sl)) (EP X J Y Q) X.xe s
abbrev Hz (r:V->HY Ip->HY Ip->Hp->VK->Prop)(te:TE)(tl th:TO):TE:=λY H Q=>te Y H λx H1=>tl Y H1 λl H2=>th Y H2 λu H3=>r x l u H3 Q
def vz {r:V->HY Ip->HY Ip->Hp->VK->Prop}(hr:Ek X r)(he:PE X e te)(hl:PO X lo tl)(hu:PO X hi th):PE X (.Subscript e (.Slice lo hi gV p2) pos) (Hz r te tl th):=by
 intro J s Y H Q I h;refine Subscript_ (bm (he J s Y H _ I h) λv s1 #[x,H1,I1,r1,q1]=>?_)
 refine wpAny_Slice (bm (hl J s1 Y H1 _ I1 q1) λvl s2 #[l,H2,I2,pl,q2]=>bm (hu J s2 Y H2 _ I2 q2) λvu s3 #[u,H3,I3,pu,q3]=>?_)
 rw[QN];refine HW ?_;have I4:Inv X J Y H3 { s3 with heap:=s3.heap.push { cls:=.type "slice",data:=.fields [vl,vu,.none].toArray } }:=I3.kept (t':=s3.toks) λb ob q=>HR _ q
 obtain⟨T,id,hT,ht,hg⟩:=hr J { s3 with heap:=s3.heap.push { cls:=.type "slice",data:=.fields [vl,vu,.none].toArray } } Y H3 x v vl vu l u s3.heap.objs.size Q I4 r1 (RI ..) pl pu q3
 show wpAny (model X.prog X.w) X.A (subscriptTail e (.Slice lo hi gV p2) v (.ref s3.heap.objs.size)) (EP X J Y Q) X.xe { s3 with heap:=s3.heap.push { cls:=.type "slice",data:=.fields [vl,vu,.none].toArray } }
 exact tail_any (ops:=[.ref s3.heap.objs.size,v]) ht hT hg (by with_unfolding_all rfl)
abbrev jG (xs:HN V)(lo hi:HY Ip):HN V:=(xs.drop (HT.bR xs.length 0 lo)).take (HT.bR xs.length xs.length hi - HT.bR xs.length 0 lo)
def i7 (xs:HN V)(lo hi:HY Ip):(jG xs lo hi).length<=xs.length:=by
 unfold jG;rw[JE,LZ];omega
abbrev Go (K:Ij):V->HY Ip->HY Ip->Hp->VK->Prop:=λx lo hi H Q=>∃a xs,x=.ref a/\SqT K H a xs/\
 ¬ (HT.bR xs.length 0 lo=0/\HT.bR xs.length xs.length hi=xs.length)/\∀p,H p=gV->Q (.ref p) (bh H p (.tup (jG xs lo hi)))
def Cm:Ek X (Go X.K):=by
 intro J s Y H x v vl vu lo hi sl Q I rx hs pl pu h;obtain⟨a,xs,rfl,hx,hw,q⟩:=h;cases rx;obtain⟨its,r,ht,hz⟩:=I.tuple hx;have hlen:its.toArray.size=xs.length:=by rw[Iu]; exact r.length.symm
 refine#["tuple",_,PyProof.Rows.slot_tuple_getitem.lookup,ht.typeIs,?_];refine HT.gK ht hs pl pu (by rw[hlen]; exact hw) ?_ (by rw[hlen]; exact hz)
 rw[hlen];refine#[.ref s.heap.objs.size,_,I.laid (t':=s.toks) (o:=.tup (jG xs lo hi)) (λb ob q=>HR _ q) (Ih _) ?_,rfl,q _ (I.hok.fresh (Ih _))]
 exact#[IL (i7 xs lo hi) hz,_,(r.drop (HT.bR xs.length 0 lo)).take (HT.bR xs.length xs.length hi - HT.bR xs.length 0 lo),PK _ _]
def Vals.nil_iff {xs:HN V}{us:HN HS}(r:Vals xs us):us=[]↔xs=[]:=by
 cases r with
 | nil=>simp
 | cons _ _=>simp
end
abbrev qm (n:HZ)(i:Ip):HY HZ:=if 0<=i then(if i < n then ba i.toNat else gV)else if -(n:Ip)<=i then ba (i+n).toNat else gV
abbrev nN {α:Type}(xs:HN α)(i:Ip):HY α:=(qm xs.length i).bind λj=>xs[j]?
def rP {n:HZ}{i:Ip}{j:HZ}(h:qm n i=ba j):seqIndex? i n=ba j/\j < n/\-(n:Ip)<=i/\i < n:=by
 unfold qm at h
 by_cases h0:0<=i
 ·rw[IF h0]at h
  by_cases h1:i < n
  ·rw[IF h1]at h;have e:i.toNat=j:=Jz h;exact#[by rw[P8 h0 h1,e],∅,∅,h1]
  ·rw[IP h1]at h; cases h
 ·rw[IP h0]at h
  by_cases h1 : -(n:Ip)<=i
  ·rw[IF h1]at h;have e:(i+n).toNat=j:=Jz h;exact#[by rw[Pk ∅ h1,e],∅,h1,∅]
  ·rw[IP h1]at h; cases h
def mx {α:Type}{xs:HN α}{i:Ip}{v:α}(h:nN xs i=ba v):∃j,seqIndex? i xs.length=ba j/\xs[j]?=ba v/\j < xs.length/\-(xs.length:Ip)<=i/\i < xs.length:=by
 unfold nN at h;cases e:qm xs.length i with
 | none=>rw[e]at h; cases h
 | some j=>
  rw[e]at h;obtain⟨h1,h2,h3,h4⟩:=rP e;exact#[j,h1,h,h2,h3,h4]
def atI_nat {α:Type}{xs:HN α}{j:HZ}{v:α}(h:xs[j]?=ba v):nN xs (j:Ip)=ba v:=by
 have hj:j < xs.length:=(Il.mp h).1;have e:qm xs.length (j:Ip)=ba j:=by
  unfold qm;rw[IF ∅,IF ∅]; simp
 unfold nN; rw[e]; exact h
abbrev my (b:IJ):Prop:=∀o i,subscripted b false o i=operate [o,i] (getItem o i)
abbrev IxR (X:Cx)(r:R2):Prop:=
 ∀(value slice:IJ) (J:HN (Ic×Kb)) (s:HV) (Y:St) (H:Hp) (x y:V) (v u:HS) (Q:VK),Inv X J Y H s->RelV x v->RelV y u->r x y H Q->
  subscripted slice false v u=operate [v,u] (getItem v u)->wpAny (model X.prog X.w) X.A (subscriptTail value slice v u) (EP X J Y Q) X.xe s
abbrev MtR (X:Cx)(id:JX)(r:V->HN V->Hp->VK->Prop):Prop:=
 ∀(J:HN (Ic×Kb)) (s:HV) (Y:St) (H:Hp) (x:V) (xs:HN V) (v:HS) (us:HN HS) (Q:VK),Inv X J Y H s->RelV x v->Vals xs us->r x xs H Q->
  wpAny (model X.prog X.w) X.A (call (.builtin id) (v::us)) (EP X J Y Q) X.xe s
section
variable{X:Cx}{a b:IJ}{ta tb:TE}{pos:KW}
def El {r:R2}(hr:IxR X r)(ha:PE X a ta)(hb:PE X b tb)(hs:my b):PE X (.Subscript a b pos) (FN r ta tb):=by
 intro J s Y H Q I h;exact Subscript_ (B7 ha hb I h λv u s2 x y H2 I2 rx ry q=>hr a b J s2 Y H2 x y v u Q I2 rx ry q (hs _ _))
abbrev Gp (K:Ij):R2:=λx y H Q=>∃p xs i v,x=.ref p/\y=.int i/\SqL K H p xs/\nN xs i=ba v/\Q v H
abbrev Gq (K:Ij):R2:=λx y H Q=>∃p xs i v,x=.ref p/\y=.int i/\SqT K H p xs/\nN xs i=ba v/\Q v H
abbrev Gr:R2:=λx y H Q=>∃z i c,x=.str z/\y=.int i/\z.length<=sizeLine/\nN z.cps.toList i=ba c/\Q (.str #[[c].toArray]) H
def ze:IxR X (Gp X.K):=by
 intro value slice J s Y H x y v u Q I rx ry h hs;obtain⟨p,xs,i,z,rfl,rfl,hq,he,q⟩:=h;cases rx;obtain⟨t,rfl⟩:=ry;obtain⟨its,r,pl,hz⟩:=I.list hq;obtain⟨j,h1,h2,h3,h4,h5⟩:=mx he;obtain⟨w,ew,rw'⟩:=r.get h2;have hl:=r.length;have hn:=iG;have fin:EP X J Y Q w s:=#[z,H,I,rw',q]
 by_cases h0:0<=i
 ·have hj:i.toNat=j:=by
   rw[P8 h0 h5]at h1;exact Jz h1
  exact item_listR pl.isList h0 ∅ (by rw[hj]; simpa using ew) fin hs
 ·have hj:(i+(its.toArray.size:Ip)).toNat=j:=by
   rw[Pk ∅ h4]at h1
   rw[Iu,<- hl];exact Jz h1
  exact Mx (x:=w) pl.isList.typeIs slot_list_getitem.lookup
   (wpAny_getItem_list_neg (Q:=λr s'=>r=w/\EP X J Y Q r s') pl.isList ∅ (by rw[Iu] <;> omega) ∅ (by rw[hj]; simpa using ew) #[rfl,fin]) hs
def Cn:IxR X (Gq X.K):=by
 intro value slice J s Y H x y v u Q I rx ry h hs;obtain⟨p,xs,i,z,rfl,rfl,hq,he,q⟩:=h;cases rx;obtain⟨t,rfl⟩:=ry;obtain⟨its,r,pl,hz⟩:=I.tuple hq;obtain⟨j,h1,h2,h3,h4,h5⟩:=mx he;obtain⟨w,ew,rw'⟩:=r.get h2;have hl:=r.length;have hn:=iG;have fin:EP X J Y Q w s:=#[z,H,I,rw',q];exact Mx (x:=w) pl.typeIs slot_tuple_getitem.lookup
  (getItem_tuple (j:=j) (Q:=λr s'=>r=w/\EP X J Y Q r s') pl ∅ ∅ (by rw[Iu,<- hl]; exact h1) (by simpa using ew) #[rfl,fin]) hs
def Co:IxR X Gr:=by
 intro value slice J s Y H x y v u Q I rx ry h hs;obtain⟨z,i,c,rfl,rfl,hz,he,q⟩:=h;obtain⟨t,rfl⟩:=rx;obtain⟨t',rfl⟩:=ry;obtain⟨j,h1,h2,h3,h4,h5⟩:=mx he;have hl:z.cps.toList.length=z.length:=by simp[RJ]
 rw[hl]at h1 h4 h5;have hn:=iG;exact tail_any (typeIs_str s z t) slot_str_getitem.lookup (getItem_str (c:=c) (by
  have e1:decide (i < -(2 ^ 63:Ip))=false:=IX ∅
  have e2:decide (i>=2 ^ 63)=false:=IX ∅
  rw[e1,e2,OR]) (by rw[h1]; simpa using h2) #[.str #[[c].toArray],H,I.tok _,#[_,rfl],q]) hs
def qB (its:HN HS)(n j:HZ)(u:HS):JZ (·.setIfInBounds j u) { cls:=.type "list",data:=.seq its.toArray n }={ cls:=.type "list",data:=.seq (its.set j u).toArray n }:=by
 simp[JZ]
def Inv.lst {J:HN (Ic×Kb)}{Y:St}{H:Hp}{s:HV}{p:Ic}{xs:HN V}(I:Inv X J Y H s)(h:H p=ba (.lst xs)) :
  ∃(its:HN HS) (n:HZ),Vals xs its/\s.heap.get? p=ba { cls:=.type "list",data:=.seq its.toArray n }/\xs.length<=sizeLine:=by
 obtain⟨z,its,n,r,e⟩:=I.hok p _ h;exact#[its,n,r,e,z]
def Inv.lstUpd {J:HN (Ic×Kb)}{Y:St}{H:Hp}{s:HV}{p:Ic}{xs ys:HN V}{its its':HN HS}{n n':HZ}{f:Kb->Kb}(I:Inv X J Y H s)(h:H p=ba (.lst xs))
  (ho:s.heap.get? p=ba { cls:=.type "list",data:=.seq its.toArray n }) (hf:f { cls:=.type "list",data:=.seq its.toArray n }={ cls:=.type "list",data:=.seq its'.toArray n' }) (r:Vals ys its') (hz:ys.length<=sizeLine) (t:HZ) :
  Inv X J Y (bh H p (.lst ys)) { s with heap:=s.heap.update p f,toks:=t }:=by
 have e:(s.heap.update p f).get? p=ba { cls:=.type "list",data:=.seq its'.toArray n' }:=by
  rw[J6 f ho (by rw[hf] <;> rfl),hf]
 refine I.write (x:=p) (e:=p) (by rw[h]; trivial) (.inl rfl) (λb u hb q=>(Jl _ _ (Ne.symm hb)).trans q) #[_,e] ?_
 exact#[hz,its',n',r,e]
abbrev Em:V->V->V->Hp->(Hp->Prop)->Prop:=λo i v H Q=>∃p xs k j,o=.ref p/\i=.int k/\H p=ba (.lst xs)/\qm xs.length k=ba j/\Q (bh H p (.lst (xs.set j v)))
def vA:B0 X Em:=by
 intro J s Y H o i v ov iv u Q I ro ri rv h;obtain⟨p,xs,k,j,rfl,rfl,hp,hj,q⟩:=h;cases ro;obtain⟨t,rfl⟩:=ri;obtain⟨its,n,r,ho,hz⟩:=I.lst hp;obtain⟨h1,h2,h3,h4⟩:=rP hj;have hl:=r.length;have hn:=iG;have I':Inv X J Y (bh H p (.lst (xs.set j v))) { s with heap:=s.heap.update p (JZ (·.setIfInBounds j u)) }:=
  I.lstUpd hp ho (qB its n j u) (r.set rv j) (by rw[Qf]; exact hz) s.toks
 by_cases h0:0<=k
 ·have hk:k.toNat=j:=by
   rw[P8 h0 h4]at h1;exact Jz h1
  exact PySem.W.ki_setAt ho h0 ∅ (by rw[Iu,<- hl]; exact h4) (by rw[hk]; exact#[_,I',q])
 ·have hk:(k+(its.toArray.size:Ip)).toNat=j:=by
   rw[Pk ∅ h3]at h1
   rw[Iu,<- hl];exact Jz h1
  exact PySem.W.ki_setBack ho ∅ (by rw[Iu,<- hl]; exact h3) ∅ (by rw[hk]; exact#[_,I',q])
def mz (lo hi:HY Ip)(n:HZ):(sliceBounds lo hi gV n).1=((HT.bR n 0 lo:HZ):Ip)/\(sliceBounds lo hi gV n).2.1=((HT.bR n n hi:HZ):Ip)/\(sliceBounds lo hi gV n).2.2=1:=by
 refine#[?_,?_,rfl]
 ·cases lo with
  | none=>simp[sliceBounds,HT.bR]
  | some i=>
   simp only[sliceBounds,HT.bR,PN,show(1:Ip) > 0 by decide,Kd]
   by_cases h:i < 0
   ·simp only[h,Kd] <;> omega
   ·simp only[h,JK] <;> omega
 ·cases hi with
  | none=>simp[sliceBounds,HT.bR]
  | some i=>
   simp only[sliceBounds,HT.bR,PN,show(1:Ip) > 0 by decide,Kd]
   by_cases h:i < 0
   ·simp only[h,Kd] <;> omega
   ·simp only[h,JK] <;> omega
def kN (its:HN HS)(lo hi:HY Ip):slicePick its.toArray lo hi gV=((its.drop (HT.bR its.length 0 lo)).take (HT.bR its.length its.length hi - HT.bR its.length 0 lo)).toArray:=by
 obtain⟨h1,h2,h3⟩:=mz lo hi its.toArray.size;unfold slicePick;rw[h1,h2,h3];simp only[sliceRange_one,pick_run,Iu] <;> rfl
abbrev Gs (K:Ij):V->HY Ip->HY Ip->Hp->VK->Prop:=λx lo hi H Q=>∃a xs,x=.ref a/\SqL K H a xs/\∀p,H p=gV->Q (.ref p) (bh H p (.lst (jG xs lo hi)))
def zf:Ek X (Gs X.K):=by
 intro J s Y H x v vl vu lo hi sl Q I rx hs pl pu h;obtain⟨a,xs,rfl,hx,q⟩:=h;cases rx;obtain⟨its,r,ht,hz⟩:=I.list hx;have hlen:=r.length;refine#["list",_,slot_list_getitem.lookup,ht.isList.typeIs,?_];refine wpAny_getItem_list_slice ht.isList hs pl pu .none (by simp) ?_ (by rw[Iu] <;> omega)
 rw[kN,<- hlen];refine#[.ref s.heap.objs.size,_,I.laid (t':=s.toks) (o:=.lst (jG xs lo hi)) (λb ob q=>HR _ q) (Ih _) ?_,rfl,q _ (I.hok.fresh (Ih _))]
 exact#[IL (i7 xs lo hi) hz,_,0,(r.drop (HT.bR xs.length 0 lo)).take (HT.bR xs.length xs.length hi - HT.bR xs.length 0 lo),Im _ rfl]
abbrev gb:V->IN
 | .non=>true
 | .bl _=>true
 | .int _=>true
 | .str _=>true
 | _=>false
abbrev zh:V->V->IN
 | .non,.non=>true
 | .bl a,.bl b=>a==b
 | .bl a,.int b=>(if a then 1 else 0)==b
 | .int a,.bl b=>a==(if b then 1 else 0)
 | .int a,.int b=>a==b
 | .str a,.str b=>a==b
 | _,_=>false
def Cp {A:Jd}{s:HV}{y x:V}{u v:HS}(ry:RelV y u)(rx:RelV x v)(fy:gb y=true)(fx:gb x=true):MG A s u v (zh y x):=by
 cases y with
 | non=>
  cases ry;cases x with
  | non=>cases rx; exact R3 _
  | bl b=>cases rx; exact Rp b
  | int b=>obtain⟨t,rfl⟩:=rx; exact Rz b t
  | str b=>obtain⟨t,rfl⟩:=rx; exact RA b t
  | _=>exact absurd (show false=true from fx) IE
 | bl a=>
  cases ry;cases x with
  | non=>cases rx; exact Rq a
  | bl b=>cases rx; exact Rr a b
  | int b=>obtain⟨t,rfl⟩:=rx; exact RB a b t
  | str b=>obtain⟨t,rfl⟩:=rx; exact RC a b t
  | _=>exact absurd (show false=true from fx) IE
 | int a=>
  obtain⟨t',rfl⟩:=ry;cases x with
  | non=>cases rx; exact RD a t'
  | bl b=>cases rx; exact RE a t' b
  | int b=>obtain⟨t,rfl⟩:=rx; exact RK a t' b t
  | str b=>obtain⟨t,rfl⟩:=rx; exact OV a t' b t
  | _=>exact absurd (show false=true from fx) IE
 | str a=>
  obtain⟨t',rfl⟩:=ry;cases x with
  | non=>cases rx; exact RF a t'
  | bl b=>cases rx; exact RG a t' b
  | int b=>obtain⟨t,rfl⟩:=rx; exact OW a t' b t
  | str b=>obtain⟨t,rfl⟩:=rx; exact RL a t' b t
  | _=>exact absurd (show false=true from fx) IE
 | _=>exact absurd (show false=true from fy) IE
abbrev qC (x:V)(u:HS):IN:=match u with
 | .none=>zh .non x
 | .bool b=>zh (.bl b) x
 | .int i _=>zh (.int i) x
 | .str z _=>zh (.str z) x
 | _=>false
def vB {x y:V}{u:HS}(r:RelV y u)(f:gb y=true):qC x u=zh y x:=by
 cases y with
 | non=>cases r; rfl
 | bl b=>cases r; rfl
 | int i=>obtain⟨t,rfl⟩:=r; rfl
 | str z=>obtain⟨t,rfl⟩:=r; rfl
 | _=>exact absurd (show false=true from f) IE
def gL {x:V}:∀ {xs:HN V} {us:HN HS},Vals xs us->xs.all gb=true->us.any (qC x)=xs.any λy=>zh y x
 | _,_,.nil,_=>rfl
 | y::xs,u::us,.cons r t,f=>by
  rw[Jw,HX]at f;rw[KT,KT,vB r f.1,gL t f.2]
def ff {A:Jd}{s:HV}{x:V}{v:HS}(rx:RelV x v)(fx:gb x=true):∀ {xs:HN V} {us:HN HS},Vals xs us->xs.all gb=true->∀u∈us,MG A s u v (qC x u)
 | _,_,.nil,_=>λu hu=>by cases hu
 | y::xs,u::us,.cons r t,f=>λu' hu=>by
  rw[Jw,HX]at f;rcases IC.mp hu with rfl|hu
  ·rw[vB r f.1]; exact Cp r rx f.1 fx
  ·exact ff rx fx t f.2 u' hu
abbrev FQ (x:V)(xs:HN V):IN:=xs.any λy=>zh y x
abbrev Gu (K:Ij)(neg:IN):R2:=λx y H Q=>∃p xs,y=.ref p/\(SqL K H p xs\/SqT K H p xs)/\gb x=true/\xs.all gb=true/\Q (.bl (if neg then !FQ x xs else FQ x xs)) H
def tP:OpR X (compareOp .In) (Gu X.K false):=by
 intro J s Y H x y v u Q I rx ry h;obtain⟨p,xs,rfl,hq,fx,fs,q⟩:=h;cases ry;rcases hq with hq|hq
 ·obtain⟨its,r,pl,hz⟩:=I.list hq;refine Qg (qC x) pl.isList (λw hw=>ff rx fx r fs w (by simpa using hw)) #[.bl _,H,I,rfl,?_]
  rw[show its.toArray.any (qC x)=its.any (qC x) by simp,gL r fs]
  exact q
 ·obtain⟨its,r,pl,hz⟩:=I.tuple hq;refine PP (qC x) pl (λw hw=>ff rx fx r fs w (by simpa using hw)) #[.bl _,H,I,rfl,?_]
  rw[show its.toArray.any (qC x)=its.any (qC x) by simp,gL r fs]
  exact q
def mB:OpR X (compareOp .NotIn) (Gu X.K true):=by
 intro J s Y H x y v u Q I rx ry h;obtain⟨p,xs,rfl,hq,fx,fs,q⟩:=h;cases ry;rcases hq with hq|hq
 ·obtain⟨its,r,pl,hz⟩:=I.list hq;refine O1 (qC x) pl.isList (λw hw=>ff rx fx r fs w (by simpa using hw)) #[.bl _,H,I,rfl,?_]
  rw[show its.toArray.any (qC x)=its.any (qC x) by simp,gL r fs]
  exact q
 ·obtain⟨its,r,pl,hz⟩:=I.tuple hq;refine SeqAt.notIn_tupleAt (qC x) pl (λw hw=>ff rx fx r fs w (by simpa using hw)) #[.bl _,H,I,rfl,?_]
  rw[show its.toArray.any (qC x)=its.any (qC x) by simp,gL r fs]
  exact q
def mC:CallR X (.type "list") (λxs H Q=>∃p ys,xs=[.ref p]/\(SqL X.K H p ys\/SqT X.K H p ys)/\∀l,H l=gV->Q (.ref l) (bh H l (.lst ys))):=by
 intro J s Y H xs us Q I r h;obtain⟨p,ys,rfl,hq,q⟩:=h;obtain⟨u,rfl,rx⟩:=kX r;cases rx;have fin:∀(its:HN HS),Vals ys its->ys.length<=sizeLine->∀(h':Jk) (c':HZ),(∀b o',s.heap.get? b=ba o'->h'.get? b=ba o')->
   h'.get? s.heap.objs.size=ba { cls:=.type "list",dict:=gV,data:=.seq its.toArray c',slots:=#[] }->EP X J Y Q (.ref s.heap.objs.size) { s with heap:=h' }:=λits r' hz h' c' kp e=>
  #[.ref s.heap.objs.size,_,I.laid (t':=s.toks) kp (Ih _) (show ObjOk X.prog X.w _ h' _ (.lst ys)from#[hz,its,c',r',e]),rfl,q _ (I.hok.fresh (Ih _))]
 rcases hq with hq|hq
 ·obtain⟨its,r',pl,hz⟩:=I.list hq;have hlen:=r'.length;obtain⟨o,ho,hc,n,hd⟩:=pl.isList;exact QP p (.inl rfl) ho hc hd (λh' c' kp e=>fin its r' hz h' c' kp e) (by simp only[Iu] <;> omega)
 ·obtain⟨its,r',pl,hz⟩:=I.tuple hq;have hlen:=r'.length;obtain⟨o,ho,hc,n,hd⟩:=pl;exact QP p (.inr rfl) ho hc hd (λh' c' kp e=>fin its r' hz h' c' kp e) (by simp only[Iu] <;> omega)
def gf:CallR X (.type "tuple") (λxs H Q=>∃p ys,xs=[.ref p]/\((SqL X.K H p ys/\∀l,H l=gV->Q (.ref l) (bh H l (.tup ys)))\/(SqT X.K H p ys/\Q (.ref p) H))):=by
 intro J s Y H xs us Q I r h;obtain⟨p,ys,rfl,h⟩:=h;obtain⟨u,rfl,rx⟩:=kX r;cases rx;rcases h with⟨hq,q⟩|⟨hq,q⟩
 ·obtain⟨its,r',pl,hz⟩:=I.list hq;have hlen:=r'.length;refine call_tuple_list pl.isList (λh' kp=>?_) (by simp only[Iu] <;> omega)
  have I1:Inv X J Y H { s with heap:=h' }:=I.kept (t':=s.toks) kp
  have I2:Inv X J Y (bh H h'.objs.size (.tup ys)) { s with heap:=h'.push { cls:=.type "tuple",data:=.seq its.toArray } }:=
   I1.laid (t':=s.toks) (λb o e=>HR _ e) (Ih _) (show ObjOk X.prog X.w _ _ _ (.tup ys)from#[hz,its,r',PK _ _])
  exact#[.ref h'.objs.size,_,I2,rfl,q _ (I1.hok.fresh (Ih _))]
 ·obtain⟨its,r',pl,hz⟩:=I.tuple hq;exact call_tuple_same pl #[.ref p,H,I,rfl,q]
abbrev Gv (K:Ij)(T:JX)(x:V)(H:Hp):Prop:=match x with
 | .str _=>T = "str"
 | .int _=>T = "int"
 | .ref p=>(T = "list"/\∃xs,SqL K H p xs)\/(T = "tuple"/\∃o,K.lookup p=ba o/\o.cls=.type "tuple"/\o.dict=gV)\/
   (T = "dict"/\((∃U,H p=ba (.dK U))\/∃U,H p=ba (.dT U)))\/(T = "set"/\∃S n,H p=ba (.set S n))
 | _=>JR
def vC {J:HN (Ic×Kb)}{Y:St}{H:Hp}{s:HV}{T:JX}{x:V}{v:HS}(I:Inv X J Y H s)(r:RelV x v)(ty:Gv X.K T x H) :
  s.TypeIs v T/\∀a,v=.ref a->∃ob,s.heap.get? a=ba ob/\ob.dict=gV:=by
 cases x with
 | str z=>
  obtain⟨t,rfl⟩:=r;cases(show T = "str" from ty)
  exact#[typeIs_str s z t,λ_ e=>nomatch e]
 | int i=>
  obtain⟨t,rfl⟩:=r;cases(show T = "int" from ty)
  exact#[Qr s i t,λ_ e=>nomatch e]
 | ref p=>
  cases r;rcases ty with⟨rfl,xs,hq⟩|⟨rfl,o,hk,hc,hd⟩|⟨rfl,hk⟩|⟨rfl,S,n,hk⟩
  ·obtain⟨its,_,pl,_⟩:=I.list hq;refine#[pl.isList.typeIs,λa e=>?_]
   cases e;obtain⟨o,n,e,c,hd,_⟩:=pl;exact#[o,e,hd]
  ·refine#[#[o,I.kIn p o hk,hc],λa e=>?_]
   cases e;exact#[o,I.kIn _ o hk,hd]
  ·have z:∃o,s.heap.get? p=ba o/\o.ExactDict:=by
    rcases hk with⟨U,hk⟩|⟨U,hk⟩
    ·obtain⟨_,_,_,_,o,_,_,e,ex,_⟩:=I.hok p _ hk;exact#[o,e,ex]
    ·obtain⟨_,_,_,_,o,_,_,e,ex,_⟩:=I.hok p _ hk;exact#[o,e,ex]
   obtain⟨o,e,ex⟩:=z;refine#[#[o,e,ex.1],λa e2=>?_]
   cases e2;exact#[o,e,ex.2.1]
  ·obtain⟨o,_,_,_,e,ex,_⟩:=I.hok p _ hk;refine#[#[o,e,ex.1],λa e2=>?_]
   cases e2;exact#[o,e,ex.2.1]
 | _=>exact JR.elim ty
variable{o e:IJ}{es:HN IJ}{to:TE}{t:TA}{name:IH}{apos cpos:KW}{T id:JX}{r:V->HN V->Hp->VK->Prop}
end
abbrev Gw (X:Cx)(id:JX)(r:V->HN V->Hp->VK->Prop):Prop:=
 ∀(J:HN (Ic×Kb)) (s:HV) (Y:St) (H:Hp) (x:V) (xs:HN V) (v:HS) (us:HN HS) (Q:VK),Inv X J Y H s->RelV x v->Vals xs us->r x xs H Q->
  wpAny (model X.prog X.w) X.A (call (.builtin id) (v::us)) (EP X J Y Q) X.xe s
def Vals.one:∀ {x:V} {us:HN HS},Vals [x] us->∃u,us=[u]/\RelV x u
 | _,_,.cons r .nil=>#[_,rfl,r]
def Vals.eraseIdx:∀ {xs:HN V} {us:HN HS} (i:HZ),Vals xs us->Vals (xs.eraseIdx i) (us.eraseIdx i)
 | _,_,_,.nil=>.nil
 | _,_,0,.cons _ t=>t
 | _,_,i+1,.cons r t=>.cons r (Vals.eraseIdx i t)
def Vals.rep {xs:HN V}{us:HN HS}(h:Vals xs us):∀k:HZ,Vals (Jj k xs).flatten (Jj k us).flatten
 | 0=>.nil
 | k+1=>by
  rw[Ki,Ki,Le,Le];exact Vals.append h (Vals.rep h k)
def lf {α:Type}:∀(l:HN α) (i:HZ),(l.eraseIdx i).length<=l.length
 | [],_=>Ih _
 | _::_,0=>Lf _
 | _::r,i+1=>MH (lf r i)
def lg (its:HN HS):∀(k:HZ) (acc:HN HS),
  Qs (λx1 x2=>x1++x2) acc.toArray (Jj k its.toArray)=(acc++(Jj k its).flatten).toArray
 | 0,acc=>by simp
 | k+1,acc=>by
  have e:acc.toArray++its.toArray=(acc++its).toArray:=by simp
  have e2:(acc++its)++(Jj k its).flatten=acc++(Jj (k+1) its).flatten:=by
   rw[Ki,Le,JO]
  rw[<- e2,<- lg its k (acc++its),<- e,Ki,List.foldl_cons]
section
variable{X:Cx}{J:HN (Ic×Kb)}{Y:St}{H:Hp}{s:HV}{l b:Ic}{xs ys zs:HN V}
def Inv.lset {its its':HN HS}{n:HZ}{f:IM HS->IM HS}{t':HZ}(I:Inv X J Y H s)(hH:H l=ba (.lst xs))
  (e:s.heap.get? l=ba { cls:=.type "list",data:=.seq its.toArray n }) (hf:f its.toArray=its'.toArray) (hv:Vals ys its') (hz:ys.length<=sizeLine) :
  Inv X J Y (bh H l (.lst ys)) { s with heap:=s.heap.update l (JZ f),toks:=t' }:=by
 have q:=PQ e f;rw[hf]at q;refine I.write (x:=l) (e:=l) (by rw[hH]; exact trivial) (.inl rfl) (λb' u hb hu=>(Jl s.heap (JZ f) (Ne.symm hb)).trans hu) #[_,q] ?_
 exact#[hz,its',_,hv,q]
def Inv.lnew {its:HN HS}{t':HZ}(I:Inv X J Y H s)(hv:Vals ys its)(hz:ys.length<=sizeLine) :
  Inv X J Y (bh H s.heap.objs.size (.lst ys)) { s with heap:=s.heap.push { cls:=.type "list",data:=.seq its.toArray },toks:=t' }:=
 I.laid (λ_ _ q=>HR _ q) (Ih _) #[hz,its,0,hv,Im _ rfl]
def Inv.fresh (I:Inv X J Y H s):H s.heap.objs.size=gV:=I.hok.fresh (Ih _)
def Inv.lstM (I:Inv X J Y H s)(hH:H l=ba (.lst xs)):xs.length<=sizeLine/\∃(its:HN HS) (n:HZ),Vals xs its/\xs.length=its.length/\s.heap.get? l=ba { cls:=.type "list",data:=.seq its.toArray n }:=by
 obtain⟨z,its,n,r,e⟩:=I.hok l _ hH;exact#[z,its,n,r,r.length,e]
def nU {n:HZ}(h:n<=sizeLine):Lj n=false:=by
 unfold Lj;exact IX ∅
end
section
variable{X:Cx}
abbrev zj:V->HN V->Hp->VK->Prop:=λx vs H Q=>∃l xs y,x=.ref l/\vs=[y]/\H l=ba (.lst xs)/\xs.length < sizeLine/\Q .non (bh H l (.lst (xs++[y])))
def tQ:Gw X "list.append" zj:=by
 intro J s Y H x vs v us Q I rx rv h;obtain⟨l,xs,y,rfl,rfl,hH,hz,q⟩:=h;cases rx;obtain⟨u,rfl,ru⟩:=rv.one;obtain⟨z,its,n,r,hl,e⟩:=I.lstM hH;refine Nf F.slot_list_append #[_,e,rfl] F.entry_list_append (F.args_list_append_2 _ _) (Pl l its.toArray n u (by rw[Iu]; omega)) #[e,?_]
 refine#[.non,_,I.lset (its':=its++[u]) hH e (by simp) (r.append #v[ru]) ?_,rfl,q]
 rw[Io,Kk];omega
abbrev zm:V->HN V->Hp->VK->Prop:=λx vs H Q=>∃l b xs zs,x=.ref l/\vs=[.ref b]/\H l=ba (.lst xs)/\H b=ba (.lst zs)/\xs.length+zs.length<=sizeLine/\Q .non (bh H l (.lst (xs++zs)))
def tR:Gw X "list.extend" zm:=by
 intro J s Y H x vs v us Q I rx rv h;obtain⟨l,b,xs,zs,rfl,rfl,hH,hB,hz,q⟩:=h;cases rx;obtain⟨u,rfl,ru⟩:=rv.one;cases ru;obtain⟨z,its,n,r,hl,e⟩:=I.lstM hH;obtain⟨z2,its2,n2,r2,hl2,e2⟩:=I.lstM hB;have hsz:its.toArray.size+its2.toArray.size<=sizeLine:=by rw[Iu,Iu]; omega
 have hlong:¬ (!its.toArray.isEmpty&&Lj (its.toArray.size+its2.toArray.size))=true:=by
  rw[nU hsz,Ng];exact IE
 refine Nf F.slot_list_extend #[_,e,rfl] F.entry_list_extend (F.args_list_extend_2 _ _)
  (Pn l its.toArray n b its2.toArray n2 hlong (by rw[Iu]; omega) ∅) #[e,e2,?_]
 refine#[.non,_,I.lset (its':=its++its2) hH e (by simp) (r.append r2) ?_,rfl,q]
 rw[Io];omega
abbrev Cq:V->HN V->Hp->VK->Prop:=λx vs H Q=>∃l xs i k y,x=.ref l/\vs=[.int i]/\H l=ba (.lst xs)/\-(2 ^ 63)<=i/\i < 2 ^ 63/\seqIndex? i xs.length=ba k/\xs[k]?=ba y/\Q y (bh H l (.lst (xs.eraseIdx k)))
def vD:Gw X "list.pop" Cq:=by
 intro J s Y H x vs v us Q I rx rv h;obtain⟨l,xs,i,k,y,rfl,rfl,hH,h1,h2,hk,hy,q⟩:=h;cases rx;obtain⟨u,rfl,ru⟩:=rv.one;obtain⟨t,rfl⟩:=ru;obtain⟨z,its,n,r,hl,e⟩:=I.lstM hH;obtain⟨w,hw,rw'⟩:=r.get hy;refine Nf F.slot_list_pop #[_,e,rfl] F.entry_list_pop (F.args_list_pop_2 _ _)
  (Rs l its.toArray n i t k w (Qt h1 h2) (by rw[Iu,<- hl]; exact hk) (by rw[<- JF]; exact hw) (by rw[Iu]; omega)) #[e,?_]
 refine#[y,_,I.lset (its':=its.eraseIdx k) hH e ?_ (r.eraseIdx k) ?_,rw',q]
 ·show its.toArray.eraseIdxIfInBounds k=(its.eraseIdx k).toArray;rw[List.eraseIdxIfInBounds_toArray]
 ·have:=lf xs k;omega
abbrev Gx:R2:=λx y H Q=>∃l b xs zs,x=.ref l/\y=.ref b/\H l=ba (.lst xs)/\H b=ba (.lst zs)/\xs.length+zs.length<=sizeLine/\∀p,H p=gV->Q (.ref p) (bh H p (.lst (xs++zs)))
def Cr:OpR X (binaryOp .Add) Gx:=by
 intro J s Y H x y v u Q I rx ry h;obtain⟨l,b,xs,zs,rfl,rfl,hH,hB,hz,q⟩:=h;cases rx;cases ry;obtain⟨z,its,n,r,hl,e⟩:=I.lstM hH;obtain⟨z2,its2,n2,r2,hl2,e2⟩:=I.lstM hB;refine PySem.P.add_list e e2 ?_ (by rw[Iu,Iu]; omega)
 have ea:its.toArray++its2.toArray=(its++its2).toArray:=by simp
 rw[ea];exact#[.ref _,_,I.lnew (t':=s.toks) (r.append r2) (by rw[Io]; omega),rfl,q _ I.fresh]
abbrev Gy:R2:=λx y H Q=>∃l k xs,x=.ref l/\y=.int k/\H l=ba (.lst xs)/\-(2 ^ 63)<=k/\k < 2 ^ 63/\xs.length*k.toNat<=sizeLine/\
 ∀p,H p=gV->Q (.ref p) (bh H p (.lst (Jj k.toNat xs).flatten))
def zn {α:Type}(xs:HN α)(k:HZ):(Jj k xs).flatten.length=k*xs.length:=by
 induction k with
 | zero=>simp
 | succ k ih=>rw[Ki,Le,Io,ih,Po,Nat.add_comm]
def Cs:OpR X (binaryOp .Mult) Gy:=by
 intro J s Y H x y v u Q I rx ry h;obtain⟨l,k,xs,rfl,rfl,hH,h1,h2,hz,q⟩:=h;cases rx;obtain⟨t,rfl⟩:=ry;obtain⟨z,its,n,r,hl,e⟩:=I.lstM hH;have hlen:its.toArray.size*k.toNat<=sizeLine:=by rw[Iu,<- hl]; exact hz
 have hcap:¬ its.toArray.size*k.toNat > (2 ^ 63 - 1) / 8:=by
  have:(sizeLine:HZ)<=(2 ^ 63 - 1) / 8:=by decide
  omega
 have hfit:¬ (!Qu k)=true:=by
  rw[Qt h1 h2];exact IE
 have hlong:¬ Lj (its.toArray.size*k.toNat)=true:=by
  rw[nU hlen];exact IE
 have hnew:Qs (λx1 x2=>x1++x2) #[] (Jj (if its.toArray.isEmpty=true then 0 else k.toNat) its.toArray)=(Jj k.toNat its).flatten.toArray:=by
  have f0:∀m:HZ,Qs (λx1 x2=>x1++x2) #[] (Jj m its.toArray)=(Jj m its).flatten.toArray:=λm=>by
   have:=lg its m [];rw[List.nil_append]at this;exact this
  rw[f0];cases its with
  | nil=>simp
  | cons a r'=>rw[IP (by simp)]
 refine wpAny_binaryOp_repeat_ref (T:="list") (U:="int") #v[] #[_,e,rfl] (λs'=>Qr s' k t) noFill_list_mul F.fills_int_mul F.slot_int_rmul repeat_list F.slot_int_index.lookup
  (Nf F.slot_int_rmul (Qr s k t) F.entry_int_rmul (F.args_int_rmul_2 _ _) (int___rmul___int_list k t l its.toArray n)
   #[e,rfl,#[_,e,rfl],Nf F.slot_list_mul #[_,e,rfl] F.entry_list_mul (F.args_list_mul_2 _ _) (Pb l its.toArray n k t hfit hcap hlong) #[e,?_]])
 rw[hnew];exact#[.ref _,_,I.lnew (t':=s.toks) (r.rep k.toNat) (by rw[zn,L0]; exact hz),rfl,q _ I.fresh]
end
section
variable{X:Cx}{J:HN (Ic×Kb)}{Y:St}{H:Hp}{s:HV}{a:Ic}{y v:V}{u r:HS}{o:HY V}{A:Jd}{E:HS->HV->Prop}
def Inv.big (I:Inv X J Y H s):sysModules < s.heap.objs.size:=by
 have h:mainGlobals < s.heap.objs.size:=(I.mod.glob.keeps I.bk).lt;exact Nat.lt_trans #v[] h
def mD {h':Jk}{t':HZ}{ob:HO}(I:Inv X J Y H s)(mu:DU (H a))(hs:Kn a s.heap h')(he:∃q,h'.get? a=ba q)(new:ObjOk X.prog X.w (bh H a ob) h' a ob) :
  Inv X J Y (bh H a ob) { s with heap:=h',toks:=t' }:=
 I.write (x:=a) (e:=a) mu (.inl rfl) (λb q hb z=>(hs.2 b hb).trans z) he new
end
noncomputable abbrev VV:HN (V×V)->HN (HS×HS)->Prop:=NS λp q=>RelV p.1 q.1/\RelV p.2 q.2
end L2
namespace Att
open PySem PySem.W PySem.Calls PyProof.Rows
def jm {P:O2}{h:Jk}:∀(ns:HN Ip) (vs:HN HS),WellAll P h vs (ns.map WData.int)->OG vs ns:=by
 intro ns
 induction ns with
 | nil=>
  intro vs w;rw[List.map_nil]at w;cases w;exact .nil
 | cons n ns ih=>
  intro vs w;rw[JC]at w;cases w with
  | cons a b=>
   cases a;exact .cons _ _ (ih _ b)
def tU {l:OpenLaw}{n:HZ}(hn:l.most=ba n){P:O2}{h:Jk}{args:HN WData}{vals:HN HS}
  (hpre:l.row.toRowW.claim.pre args=true) (hwl:WellAll P h vals args) :
  ∃a vs ns,vals=[Jb a]/\args=[WData.list (ns.map WData.int)]/\h.get? a=ba { cls:=.type "list",data:=.seq vs.toArray }/\OG vs ns/\ns.length<=n:=by
 have hsh:WShape.hasAll [] args [.list .int]=true:=(pre_splitW hpre).1;have hc:l.pre.holds [] { args:=args }=true:=(pre_splitW hpre).2;obtain⟨d,r,rfl,h1,h2⟩:=hasAllW_cons hsh;obtain rfl:=hasAllW_nil h2;obtain⟨xs,rfl,h3⟩:=hasW_list h1;obtain⟨ns,rfl⟩:=items_int h3;have hlen:ns.length<=n:=by
  unfold OpenLaw.pre at hc;have h4:(WTm.not (.lt (.lit (.int (n:Ip))) (.len (.arg 0)))).holds [] { args:=[.list (ns.map .int)] }=true:=by
   have h4:=(holds_andW hc).1;rw[hn]at h4;exact h4
  have h5:=condW_of h4 (w_not (w_lt w_lit (w_len_list (w_arg rfl))));rw[HQ]at h5;refine PR λq=>?_
  have q':(n:Ip) < ((ns.length:HZ):Ip):=∅
  first
   | (rw[JG q']at h5; exact absurd h5 #v[])
   | (simp at h5; omega)
 cases hwl with
 | cons w1 w2=>
  cases w2;cases w1 with
  | list ho hall=>exact#[_,_,ns,rfl,rfl,ho,jm ns _ hall,hlen]
def tV (l:OpenLaw)(args:HN WData):l.row.toRowW.claim.post args (.bool true) args=true:=
 postW_of (r:=l.row.toRowW) (X:=(true==true))
  (show WShape.has [] (.bool true) .bool=true by first|rfl|decide|simp[WShape.has,WShape.arms,WShape.armsAll])
  (show(WTm.eq .res (.lit (.bool true))).value [] { args:=args,res:=ba (.bool true),after:=args }=ba (.bool (true==true))from w_eq_bool (w_res rfl) w_lit) rfl
def attach_call {l:OpenLaw}{n:HZ}{q:IZ}{loose:HN IH}{XP:(IH->HY HS)->Jk->Prop}{YP:Jg->Jk->Prop}{d:DefRec}
  (hn:l.most=ba n) (hdf:d.params.defaults=[])
  (call:∀(w:Jg) (s₀ s₁:HV) (mg mb:IH->HY HS) (fa:Ic) (o:Kb) (pm cd doc:HS) (a:Ic) (vs:HN HS) (ns:HN Ip),
   Ground q loose [] XP w s₀ mg mb s₁.heap->YP w s₁.heap->
   s₁.heap.get? fa=ba o->o.data=.func (docDef d.name d.params d.body d.scope pm cd doc)->s₁.heap.CodeRec cd d.name->mg d.name=ba (.ref fa)->
   s₁.heap.get? a=ba { cls:=.type "list",data:=.seq vs.toArray }->OG vs ns->ns.length<=n->s₁.gens=#[]->
   codeAny (model l.prog w) callerA (.call (.ref fa) #[[.ref a],[]]) (λr s'=>r=.ok (.ret (.bool true))/\OldK s₁.heap s'.heap/\s'.os=s₁.os/\NB s'.gens) s₁) :
  WalkO q loose XP YP l.row.toRowW d [] (λf vs=>Qv f vs):=by
 intro w s₀ s₁ mg mb G Yq fa o pm cd doc dV kV ho hd hcd hD hmg hg args vals as hpre hlay hrd hwl hlo;obtain rfl:dV=.none:=Dflts.none hD hdf;obtain rfl:kV=.none:=Dflts.noKw hD;obtain⟨a,vs,ns,rfl,rfl,hobj,hints,hlen⟩:=tU hn hpre hwl;refine enter_call (LA (call w s₀ s₁ mg mb fa o pm cd doc a vs ns G Yq ho (fd_plain hd) hcd hmg hobj hints hlen hg) λr s' hq=>?_)
 obtain⟨rfl,h2,h3,h4⟩:=hq;exact#[.inl #[.bool true,.bool true,[],rfl,λ_=>rfl,.bool true,tV l _,λ_=>#[RP,λ_ hm=>(nomatch hm)]],h2,h3,h4]
end Att
namespace L2
open PySem PySem.Spec PyProof.Rows
def lh:∀ {vs:HN HS} {ns:HN Ip},OG vs ns->Vals (ns.map V.int) vs
 | _,_,.nil=>.nil
 | _,_,.cons n t h=>.cons #[t,rfl] (lh h)
abbrev vE (H:Hp):Prop:=∀b,H b=gV\/∃o xs,H b=ba (.frz o (.lst xs))
def vF {P:IZ}{w:Jg}{K:Ij}{mg mb:IH->HY HS}{CX:vp}{k:HZ}{fa a:Ic}{fd:KY}{x:IH}{sp:Sp}{s₁:HV}{vs:HN HS}{ns:HN Ip}
  (KX:K.In s₁.heap) (hns:s₁.heap.Ns mainGlobals mg) (hb:s₁.heap.Ns builtinsNs mb) (hbb:∀x:IH,x≠"__name__"->mb x=bootBuiltins x) (hlim:s₁.heap.NoLimit) (hg:s₁.gens=#[])
  (ha:s₁.heap.get? a=ba { cls:=.type "list",data:=.seq vs.toArray }) (hi:OG vs ns) (hl:ns.length<=sizeLine) (hr:Room k callerA)
  (F:∀base:Jk,K.In base->base.Ns mainGlobals mg->FnOk P w K mg base CX k fa fd [x] sp) (hbind:∀(s:HV) (u:HS),Ph s fd #[[u],[]] [(x,u)])
  (hsp:∀H:Hp,vE H->SqL K H a (ns.map V.int)->sp [.ref a] H (λv _=>v=.bl true) λ_ _ _=>JR)
  (hCX:∀H e s',CX [] H s₁ (λ_ _ _=>JR) e s'->JR) :
  codeAny (model P w) callerA (.call (.ref fa) #[[.ref a],[]]) (λr s'=>r=.ok (.ret (.bool true))/\OldK s₁.heap s'.heap/\s'.os=s₁.os/\NB s'.gens) s₁:=by
 have rv:=lh hi;have lenV:=hi.length;have core:∀H:Hp,vE H->SqL K H a (ns.map V.int)->HOk P w H s₁.heap->(∀b,H b≠gV->b=a)->(H a≠gV->K.lookup a=gV)->
   codeAny (model P w) callerA (.call (.ref fa) #[[.ref a],[]]) (λr s'=>r=.ok (.ret (.bool true))/\OldK s₁.heap s'.heap/\s'.os=s₁.os/\NB s'.gens) s₁:=by
  intro H hO hS hok hA hK;have base_of:∀ {b:Ic} {o:Kb},s₁.heap.get? b=ba o->H b=gV->(mq s₁.heap H).get? b=ba o:=λe n=>u8 e n
  have noA:∀ {b:Ic} {o:Kb} {es:IM KP} {ep:HZ},s₁.heap.get? b=ba o->o.data=.dict es ep->H b=gV:=λ{b o es ep} e d=>by
   cases q:H b with
   | none=>rfl
   | some u=>
    have e':b=a:=hA b (by rw[q]; simp)
    subst e';rw[ha]at e; cases e
    have d':Data.seq vs.toArray _=Data.dict es ep:=d;cases d'
  have nsK:∀ {b:Ic} {m:IH->HY HS},s₁.heap.Ns b m->(mq s₁.heap H).Ns b m:=λ{b m} #[o,es,ep,e,d,r]=>#[o,es,ep,base_of e (noA e d),d,r]
  have hKb:K.In (mq s₁.heap H):=λb o e=>base_of (KX b o e) (by
   cases q:H b with
   | none=>rfl
   | some u=>
    have e':b=a:=hA b (by rw[q]; simp)
    subst e';rw[hK (by rw[q]; simp)]at e; cases e)
  have hM:Mod K mg (mq s₁.heap H):=#[hKb,nsK hns,#[mb,nsK hb,hbb],let ⟨mc,h1,h2⟩:=hlim; #[mc,nsK h1,h2]]
  have e0:Env0 P w K mg (mq s₁.heap H) callerA [] s₁ H:=#[rfl,hM,λb o e=>yM e,Nat.le_of_eq (tD _ _),trivial,λb hb=>absurd (show b∈([]:HN Ic)from hb) (by simp),hok,.of_eq hg]
  refine LA ((F _ hKb (nsK hns)).run callerA [] s₁ H #[[.ref a],[]] [.ref a] [.ref a] _ _ hr e0 (hbind s₁ (.ref a)) #v[rfl] (hsp H hO hS)) λr s' h=>?_
  cases r with
  | error e=>exact(hCX H e s' h).elim
  | ok fl=>
   cases fl with
   | next=>exact JR.elim h
   | brk=>exact JR.elim h
   | cont=>exact JR.elim h
   | ret u=>
    obtain⟨v,H',os,bare,un,hok',r',q⟩:=h;have q':v=.bl true:=q;subst q';obtain rfl:u=LN true:=r';refine#[rfl,OldK.of_keep λb o e=>?_,os,bare]
    cases q:H b with
    | none=>exact un.keep b o e q (by intro z; exact absurd (show b∈([]:HN Ic)from z) (by simp)) (by simp)
    | some u=>
     rcases hO b with z|⟨ob,xs,z⟩
     ·rw[q]at z; cases z
     ·have z2:=un.frzs b ob _ z;obtain⟨e1,_⟩:=hok b _ z;obtain⟨e2,_⟩:=hok' b _ z2;rw[e]at e1; cases e1
      exact e2
 cases hk:K.lookup a with
 | some o=>
  have e:=KX a o hk;rw[ha]at e;cases e;refine core (λ_=>gV) (λ_=>.inl rfl) (.inr #[_,vs.toArray,_,hk,rfl,rfl,rfl,by rw[Iu,lenV]; exact hl,by simpa using rv]) (λb u z=>by have z':(gV:HY HO)=ba u:=z; cases z') (λb z=>absurd rfl z) λz=>absurd rfl z
 | none=>
  refine core (λb=>if b=a then ba (.frz { cls:=.type "list",data:=.seq vs.toArray } (.lst (ns.map V.int)))else gV) (λb=>?_) (.inl (.inr #[{ cls:=.type "list",data:=.seq vs.toArray },IF rfl])) (λb u z=>?_) (λb z=>?_) λ_=>hk
  ·by_cases hb:b=a
   ·exact .inr #[_,_,IF hb]
   ·exact .inl (IP hb)
  ·by_cases hb:b=a
   ·have z':=(IF hb).symm.trans z;cases z';subst hb;exact#[ha,by rw[HQ]; exact hl,vs,_,rv,ha]
   ·have z':=(IP hb).symm.trans z;cases z'
  ·by_cases hb:b=a
   ·exact hb
   ·exact absurd (IP hb) z
def zo {l:N4}{n k:HZ}{q:IZ}{loose:HN IH}{XP:(IH->HY HS)->Jk->Prop}{YP:Jg->Jk->Prop}{d:DefRec}{K:O2->Ij}{CX:Jg->vp}{sp:Jg->Sp}{x:IH}
  (hn:l.most=ba n) (hn2:n<=sizeLine) (hdf:d.params.defaults=[]) (hr:Room k callerA)
  (hY:∀(w:Jg) (h:Jk),YP w h->(K w.params).In h)
  (F:∀(w:Jg) (mg:IH->HY HS) (fa:Ic) (h:Jk),(K w.params).In h->h.Ns mainGlobals mg->mg d.name=ba (.ref fa)->
   ∃fd:KY,(∀(s:HV) (u:HS),Ph s fd #[[u],[]] [(x,u)])/\
    ∀base:Jk,(K w.params).In base->base.Ns mainGlobals mg->FnOk l.prog w (K w.params) mg base (CX w) k fa fd [x] (sp w))
  (hsp:∀(w:Jg) (H:Hp) (a:Ic) (ns:HN Ip),ns.length<=n->vE H->SqL (K w.params) H a (ns.map V.int)->sp w [.ref a] H (λv _=>v=.bl true) λ_ _ _=>JR)
  (hCX:∀(w:Jg) (H:Hp) (s:HV) (e:HS) (s':HV),CX w [] H s (λ_ _ _=>JR) e s'->JR) :
  QQ q loose XP YP l.row.toRowW d [] (λf vs=>Qv f vs):=by
 refine Att.attach_call hn hdf λw s₀ s₁ mg mb fa o pm cd doc a vs ns G Yq ho hd hcd hmg hobj hints hlen hg=>?_
 have KX:=hY w _ Yq;obtain⟨fd,hb,hF⟩:=F w mg fa _ KX G.T.g hmg;exact vF KX G.T.g G.T.b G.T.builtins G.T.nolimit hg hobj hints (IL hlen hn2) hr hF hb (λH hO hS=>hsp w H a ns hlen hO hS) λH e s'=>hCX w H s₁ e s'
abbrev dt (s:Lm):Arguments:=match s with
 | .FunctionDef _ a _ _ _ _ _ _ _ _=>a
 | _=>{ posonlyargs:=[],args:=[],vararg:=gV,kwonlyargs:=[],kw_defaults:=[],kwarg:=gV,defaults:=[] }
abbrev bW (s:Lm):HN Lm:=match s with
 | .FunctionDef _ _ b _ _ _ _ _ _ _=>b
 | _=>[]
abbrev aL (s:Lm):LJ:=match s with
 | .FunctionDef _ _ _ _ _ _ sc _ _ _=>sc
 | _=>{ kind:=.function,names:=[],isGenerator:=false,isCoroutine:=false }
noncomputable abbrev u6:vp:=λ_ _ _ _ _ _=>JR
noncomputable abbrev E0:XK:=λ_ _ _=>JR
def Bj {X:Cx}:mw u6 X E0:=λ_ _ _ _ _ _ _ h=>h.elim
structure Fun (K:Ij)(x qual:IH)(st:Lm)(f:Ic)(fd:KY):Prop where
 ex:∃(oc:HS) (od:HY Ic) (kV doc pm:HS) (an:HY Ic) (cdv ct:HS) (osl:IM (HY HS)),
  fd=KI x qual (dt st) (bW st) (aL st) .none kV doc pm an cdv ct/\K.lookup f=ba #[oc,od,.func fd,osl]/\Lq K cdv qual=true
 kp:J0 K (.ref f)=true
section
variable{P:IZ}{w:Jg}{K:Ij}{mg:IH->HY HS}{base:Jk}
def Fun.ok {x qual:IH}{st:Lm}{f:Ic}{fd:KY}{N ps:HN IH}{k:HZ}{sp:Sp}(F:Fun K x qual st f fd)(S:FnScope N ps (aL st))(len:∀vs H Q E,sp vs H Q E->vs.length=ps.length)
  (hbody:∀(cdv:HS) (A:Jd) (outer:HN Pd) (s:HV) (H:Hp) (vs:HN V) (Q:VK) (E:XK),Room k (A.deeper (envOfC qual (aL st) s.heap.objs.size f cdv))->sp vs H Q E->
   ∃t,PSs (qw u6 P w K mg base N qual (aL st) f cdv A outer s H E).nox (bW st) t/\t { nx:=λ_ H'=>Q .non H',rt:=Q } (fe N vs) H):FnOk P w K mg base u6 (k+1) f fd ps sp:=by
 obtain⟨oc,od,kV,doc,pm,an,cdv,ct,osl,rfl,lk,hcd⟩:=F.ex;refine Ei lk hcd S len λA outer s H vs Q E hr hsp=>?_
 obtain⟨t,h,q⟩:=hbody cdv A outer s H vs Q E hr hsp;exact#[t,h.nox,q]
def Fun.binds {x qual:IH}{st:Lm}{f:Ic}{fd:KY}{ps:HN IH}(F:Fun K x qual st f fd)
  (h:∀(kV doc pm:HS) (an:HY Ic) (cdv ct:HS) (us:HN HS),us.length=ps.length->bindArgs (KI x qual (dt st) (bW st) (aL st) .none kV doc pm an cdv ct) #[us,[]]=pure (ps.zip us)):Binds K fd ps []:=by
 obtain⟨oc,od,kV,doc,pm,an,cdv,ct,osl,rfl,lk,hcd⟩:=F.ex;exact .all (h kV doc pm an cdv ct)
def vG {x qual:IH}{st:Lm}{f:Ic}{oc:HS}{od an:HY Ic}{osl:IM (HY HS)}{kV doc pm cdv ct:HS}(l:K.lookup f=ba #[oc,od,.func (KI x qual (dt st) (bW st) (aL st) .none kV doc pm an cdv ct),osl])
  (c:Lq K cdv qual=true) (k:J0 K (.ref f)=true):Fun K x qual st f (KI x qual (dt st) (bW st) (aL st) .none kV doc pm an cdv ct):=#[#[oc,od,kV,doc,pm,an,cdv,ct,osl,rfl,l,c],k]
end
section
variable{X:Cx}
def pv (i:HZ){x:IH}{pos:KW}(hN:X.N[i]?=ba x:=by rfl)(hv:FM X.env.scope x)(hd:(x==("__debug__" : IH))=false:=by decide)
  (hcd:(x==("__classdict__" : IH))=false:=by decide):PE X (.Name x pos) (BO i):=u9 hN hv hd hcd
end
end L2
namespace Mi
open PySem PySem.Spec PyProof.Rows L2
abbrev eJ (t:JH)(n:HZ):IN:=decide (Lr t.place 0=0)&&(ID n).all λi=>decide (Lr t.place (t.place.getD i 0+1)=i+1)
abbrev d8 (w:Jg):IN:=w.params.followText "set-order"
inductive W where
 | non|bl (b:IN)|int (i:Ip)|str (x:IH)|tup (xs:HN W)|ref (i:HZ)
inductive T where
 | int (i:Ip)|str (x:IH)|tup (xs:HN T)
mutual
noncomputable def T.beq:T->T->IN
 | .int i,.int j=>i==j
 | .str x,.str y=>x==y
 | .tup xs,.tup ys=>T.beqs xs ys
 | _,_=>false
noncomputable def T.beqs:HN T->HN T->IN
 | [],[]=>true
 | x::xs,y::ys=>T.beq x y&&T.beqs xs ys
 | _,_=>false
end
mutual
theorem T.beq_iff:∀x y:T,T.beq x y=true↔x=y
 | .int i,.int j=>by simp[T.beq]
 | .str x,.str y=>by simp[T.beq]
 | .tup xs,.tup ys=>by simp[T.beq,T.beqs_iff xs ys]
 | .int _,.str _|.int _,.tup _|.str _,.int _|.str _,.tup _|.tup _,.int _|.tup _,.str _=>by simp[T.beq]
theorem T.beqs_iff:∀xs ys:HN T,T.beqs xs ys=true↔xs=ys
 | [],[]=>by simp[T.beqs]
 | x::xs,y::ys=>by simp[T.beqs,T.beq_iff x y,T.beqs_iff xs ys]
 | [],_::_|_::_,[]=>by simp[T.beqs]
end
noncomputable instance:LM T:=λx y=>decidable_of_iff (T.beq x y=true) (T.beq_iff x y)
mutual
noncomputable def T.w:T->W
 | .int i=>.int i
 | .str x=>.str x
 | .tup xs=>.tup (T.ws xs)
noncomputable def T.ws:HN T->HN W
 | []=>[]
 | x::xs=>T.w x::T.ws xs
end
mutual
noncomputable def W.t:W->HY T
 | .int i=>ba (.int i)
 | .str x=>ba (.str x)
 | .tup xs=>(W.ts xs).map .tup
 | _=>gV
noncomputable def W.ts:HN W->HY (HN T)
 | []=>ba []
 | x::xs=>match W.t x,W.ts xs with
  | some y,ba ys=>ba (y::ys)
  | _,_=>gV
end
mutual
theorem W.t_w:∀ {w:W} {k:T},W.t w=ba k->k.w=w
 | .int i,_,h=>by cases h; rfl
 | .str x,_,h=>by cases h; rfl
 | .tup xs,_,h=>by
  simp only[W.t,HU]at h;obtain⟨ks,h1,h2⟩:=h;subst h2;simp only[T.w,W.ts_w h1]
 | .non,_,h|.bl _,_,h|.ref _,_,h=>by cases h
theorem W.ts_w:∀ {ws:HN W} {ks:HN T},W.ts ws=ba ks->T.ws ks=ws
 | [],_,h=>by cases h; rfl
 | w::ws,_,h=>by
  simp only[W.ts]at h;split at h
  ·rename_i y ys h1 h2;cases h;simp only[T.ws,W.t_w h1,W.ts_w h2]
  ·cases h
end
mutual
theorem T.w_t:∀k:T,W.t k.w=ba k
 | .int _=>rfl
 | .str _=>rfl
 | .tup xs=>by simp only[T.w,W.t,T.ws_ts xs,Ja]
theorem T.ws_ts:∀ks:HN T,W.ts (T.ws ks)=ba ks
 | []=>rfl
 | x::xs=>by simp only[T.ws,W.ts,T.w_t x,T.ws_ts xs]
end
mutual
noncomputable def T.depth:T->HZ
 | .tup xs=>T.depths xs+1
 | _=>0
noncomputable def T.depths:HN T->HZ
 | []=>0
 | x::xs=>max (T.depth x) (T.depths xs)
end
mutual
noncomputable def T.draws:T->HZ
 | .tup xs=>T.drawss xs+1
 | _=>1
noncomputable def T.drawss:HN T->HZ
 | []=>0
 | x::xs=>T.draws x+T.drawss xs
end
mutual
noncomputable def dQ (wd:Jg):T->Ip
 | .int i=>hashInt i
 | .str x=>hashStr wd x
 | .tup xs=>reduceHash (L5 (gr wd xs))
noncomputable def gr (wd:Jg):HN T->HN Ip
 | []=>[]
 | x::xs=>dQ wd x::gr wd xs
end
abbrev T.isTup:T->IN
 | .tup _=>true
 | _=>false
abbrev au:HZ:=6
inductive O where
 | lst (xs:HN W)
 | fro (xs:HN W)
 | stt (ks:HN T)
 | sti (n:HZ)
 | rng (lo hi:Ip)
 | dic (U:HN (T×W))
 | frd (U:HN (T×W))
noncomputable abbrev aa:=HN O
noncomputable abbrev Fm:=HN (HY W)
section
variable (K:Ij) (A:HN Ic) (H:Hp)
mutual
inductive Rel:W->V->Prop
 | non:Rel .non .non
 | bl {b:IN}:Rel (.bl b) (.bl b)
 | int {i:Ip}:Rel (.int i) (.int i)
 | str {x:IH}:Rel (.str x) (.str x)
 | tup {ws:HN W} {a:Ic} {vs:HN V}:SqT K H a vs->RelL ws vs->Rel (.tup ws) (.ref a)
 | ref {i:HZ} {a:Ic}:A[i]?=ba a->Rel (.ref i) (.ref a)
inductive RelL:HN W->HN V->Prop
 | nil:RelL [] []
 | cons {w:W} {v:V} {ws:HN W} {vs:HN V}:Rel w v->RelL ws vs->RelL (w::ws) (v::vs)
end
end
section
variable{K:Ij}{A A' A'':HN Ic}{H H' H'':Hp}
structure Ext (K:Ij)(A:HN Ic)(H:Hp)(A':HN Ic)(H':Hp):Prop where
 ad:∀(i:HZ) (a:Ic),A[i]?=ba a->A'[i]?=ba a
 tp:∀(a:Ic) (vs:HN V),SqT K H a vs->SqT K H' a vs
 fz:∀(a:Ic) (o:Kb) (u:HO),H a=ba (.frz o u)->H' a=ba (.frz o u)
def Ext.refl:Ext K A H A H:=#[λ_ _ h=>h,λ_ _ h=>h,λ_ _ _ h=>h]
def Ext.trans (e:Ext K A H A' H')(f:Ext K A' H' A'' H''):Ext K A H A'' H'':=#[λi a h=>f.ad i a (e.ad i a h),λa vs h=>f.tp a vs (e.tp a vs h),λa o u h=>f.fz a o u (e.fz a o u h)]
mutual
theorem Rel.mono (e:Ext K A H A' H'):∀ {w:W} {v:V},Rel K A H w v->Rel K A' H' w v
 | _,_,.non=>.non
 | _,_,.bl=>.bl
 | _,_,.int=>.int
 | _,_,.str=>.str
 | _,_,.tup h r=>.tup (e.tp _ _ h) (RelL.mono e r)
 | _,_,.ref h=>.ref (e.ad _ _ h)
theorem RelL.mono (e:Ext K A H A' H'):∀ {ws:HN W} {vs:HN V},RelL K A H ws vs->RelL K A' H' ws vs
 | _,_,.nil=>.nil
 | _,_,.cons r t=>.cons (Rel.mono e r) (RelL.mono e t)
end
def RelL.length:∀ {ws:HN W} {vs:HN V},RelL K A H ws vs->ws.length=vs.length
 | _,_,.nil=>rfl
 | _,_,.cons _ t=>by simp[RelL.length t]
def RelL.get:∀ {ws:HN W} {vs:HN V} {i:HZ} {w:W},RelL K A H ws vs->ws[i]?=ba w->∃v,vs[i]?=ba v/\Rel K A H w v
 | _,_,_,_,.nil,e=>by simp at e
 | _,_,0,_,.cons r _,e=>by simp at e; subst e; exact#[_,rfl,r]
 | _,_,i+1,w,.cons _ t,e=>by
  obtain⟨u,h1,h2⟩:=RelL.get (i:=i) (w:=w) t (by simpa using e)
  exact#[u,by simpa using h1,h2]
def RelL.append:∀ {xs ys:HN W} {us ws:HN V},RelL K A H xs us->RelL K A H ys ws->RelL K A H (xs++ys) (us++ws)
 | _,_,_,_,.nil,s=>s
 | _,_,_,_,.cons r t,s=>.cons r (RelL.append t s)
def RelL.take:∀ {xs:HN W} {us:HN V} (n:HZ),RelL K A H xs us->RelL K A H (xs.take n) (us.take n)
 | _,_,0,_=>.nil
 | _,_,_+1,.nil=>.nil
 | _,_,n+1,.cons r t=>.cons r (RelL.take n t)
def RelL.drop:∀ {xs:HN W} {us:HN V} (n:HZ),RelL K A H xs us->RelL K A H (xs.drop n) (us.drop n)
 | _,_,0,r=>r
 | _,_,_+1,.nil=>.nil
 | _,_,n+1,.cons _ t=>RelL.drop n t
def RelL.set {x:W}{u:V}(r:Rel K A H x u):∀ {xs:HN W} {us:HN V} (i:HZ),RelL K A H xs us->RelL K A H (xs.set i x) (us.set i u)
 | _,_,_,.nil=>.nil
 | _,_,0,.cons _ t=>.cons r t
 | _,_,i+1,.cons q t=>.cons q (RelL.set r i t)
def RelL.rep {xs:HN W}{us:HN V}(h:RelL K A H xs us):∀k:HZ,RelL K A H (Jj k xs).flatten (Jj k us).flatten
 | 0=>.nil
 | k+1=>by
  rw[Ki,Ki,Le,Le];exact RelL.append h (RelL.rep h k)
def RelL.eraseIdx:∀ {xs:HN W} {us:HN V} (i:HZ),RelL K A H xs us->RelL K A H (xs.eraseIdx i) (us.eraseIdx i)
 | _,_,_,.nil=>.nil
 | _,_,0,.cons _ t=>t
 | _,_,i+1,.cons r t=>.cons r (RelL.eraseIdx i t)
abbrev FroL (K:Ij)(H:Hp)(a:Ic)(vs:HN V):Prop:=
 (∃o,H a=ba (.frz o (.lst vs)))\/
  ∃(o:Kb) (its:IM HS) (n:HZ),K.lookup a=ba o/\o.cls=.type "list"/\o.dict=gV/\o.data=.seq its n/\its.size<=sizeLine/\Vals vs its.toList
def FroL.sq {a:Ic}{vs:HN V}(h:FroL K H a vs):SqL K H a vs:=by
 rcases h with⟨o,h⟩|h
 ·exact .inl (.inr #[o,h])
 ·exact .inr h
abbrev vH (wd:Jg)(x:T×Ic×HS):KP:=#[dQ wd x.1,.ref x.2.1,x.2.2]
abbrev DicAt (wd:Jg)(a:Ic)(xs:HN (T×Ic×HS))(h:Jk):Prop:=
 xs.length<=sizeLine/\(a==sysModules)=false/\(xs.map (·.1)).Nodup/\∃o es ep,h.get? a=ba o/\o.ExactDict/\o.data=.dict es ep/\es.toList=xs.map (vH wd)
abbrev dE (wd:Jg)(a:Ic)(xs:HN (T×Ic×HS)):HO:=.ext (DicAt wd a xs)
abbrev KRel (K:Ij)(A:HN Ic)(H:Hp):HN (T×W)->HN (T×Ic×HS)->Prop:=
 NS λ(p:T×W) (q:T×Ic×HS)=>p.1=q.1/\p.1.isTup=true/\p.1.depth<=au/\Rel K A H p.1.w (.ref q.2.1)/\∃v,Rel K A H p.2 v/\RelV v q.2.2
def KRel.mono (e:Ext K A H A' H'){U:HN (T×W)}{xs:HN (T×Ic×HS)}(h:KRel K A H U xs):KRel K A' H' U xs:=
 Paired.mapP h λ_ _ #[h1,h2,h3,h4,v,h5,h6]=>#[h1,h2,h3,h4.mono e,v,h5.mono e,h6]
variable{wd:Jg}
abbrev zp (wd:Jg)(as:HN Ic)(o:Kb):Prop:=o.ExactSet/\∃es ep t,o.data=.set es ep t/\es.size<=sizeLine/\t.fits es.size=true/\t.led=(!d8 wd)/\(t.plain=true->es.size=0\/eJ t es.size=true)/\es.toList.map (·.2)=as.map Jb
abbrev Ct (n:HZ)(o:Kb):Prop:=o.ExactSet/\∃es ep t,o.data=.set es ep t/\es.size=n/\t.fits es.size=true
abbrev ObjRel (wd:Jg)(K:Ij)(A:HN Ic)(H:Hp)(a:Ic):O->Prop
 | .lst ws=>∃vs,H a=ba (.lst vs)/\RelL K A H ws vs
 | .fro ws=>∃vs,FroL K H a vs/\RelL K A H ws vs
 | .stt ks=>∃o φ as,H a=ba (.frz o (.ext φ))/\zp wd as o/\RelL K A H (T.ws ks) (as.map V.ref)
 | .sti n=>∃o φ,H a=ba (.frz o (.ext φ))/\Ct n o
 | .rng lo hi=>H a=ba (.rng lo hi)
 | .dic U=>∃xs,H a=ba (dE wd a xs)/\KRel K A H U xs
 | .frd U=>∃o xs,H a=ba (.frz o (dE wd a xs))/\KRel K A H U xs
abbrev O.mut:O->IN
 | .fro _=>false
 | .stt _=>false
 | .sti _=>false
 | .rng _ _=>false
 | .frd _=>false
 | _=>true
structure StoreOk (wd:Jg)(K:Ij)(A:HN Ic)(H:Hp)(S:aa):Prop where
 len:A.length=S.length
 nd:∀(i j:HZ) (a:Ic) (o u:O),S[i]?=ba o->o.mut=true->S[j]?=ba u->u.mut=true->A[i]?=ba a->A[j]?=ba a->i=j
 obj:∀(i:HZ) (o:O) (a:Ic),S[i]?=ba o->A[i]?=ba a->ObjRel wd K A H a o
abbrev EnvRel (K:Ij)(A:HN Ic)(H:Hp)(Z:Fm)(Y:L2.St):Prop:=
 Z.length=Y.length/\∀(i:HZ) (w:W),Z[i]?=ba (ba w)->∃v,Y[i]?=ba (ba v)/\Rel K A H w v
def EnvRel.mono {Z:Fm}{Y:L2.St}(e:Ext K A H A' H')(h:EnvRel K A H Z Y):EnvRel K A' H' Z Y:=
 #[h.1,λi w q=>let ⟨v,a,b⟩:=h.2 i w q; #[v,a,b.mono e]]
def EnvRel.set {Z:Fm}{Y:L2.St}{w:W}{v:V}(h:EnvRel K A H Z Y)(r:Rel K A H w v)(i:HZ):EnvRel K A H (Z.set i (ba w)) (Y.set i (ba v)):=by
 refine#[by simp[h.1],λj w' q=>?_]
 rw[Kj]at q ⊢
 by_cases e:i=j
 ·subst e;rw[IF rfl]at q ⊢
  by_cases hl:i < Z.length
  ·rw[IF hl]at q;rw[IF (h.1 ▸ hl)];cases q;exact#[v,rfl,r]
  ·rw[IP hl]at q; cases q
 ·rw[IP e]at q ⊢;exact h.2 j w' q
abbrev Wr (H:Hp)(p:Ic):Prop:=H p=gV\/(∃xs,H p=ba (.lst xs))\/(∃φ,H p=ba (.ext φ))\/∃ks,H p=ba (.dK ks)
def Wr.lst {p:Ic}{xs:HN V}(h:H p=ba (.lst xs)):Wr H p:=.inr (.inl #[xs,h])
def Wr.ext {p:Ic}{φ:Jk->Prop}(h:H p=ba (.ext φ)):Wr H p:=.inr (.inr (.inl #[φ,h]))
def Wr.ne_tup {p a:Ic}{xs:HN V}(hp:Wr H p)(h:H a=ba (.tup xs)):a≠p:=by
 intro e; subst e
 rcases hp with q|⟨xs,q⟩|⟨φ,q⟩|⟨ks,q⟩ <;> (rw[h]at q; cases q)
def Wr.ne_frz {p a:Ic}{o:Kb}{u:HO}(hp:Wr H p)(h:H a=ba (.frz o u)):a≠p:=by
 intro e; subst e
 rcases hp with q|⟨xs,q⟩|⟨φ,q⟩|⟨ks,q⟩ <;> (rw[h]at q; cases q)
def Wr.ne_rng {p a:Ic}{lo hi:Ip}(hp:Wr H p)(h:H a=ba (.rng lo hi)):a≠p:=by
 intro e; subst e
 rcases hp with q|⟨xs,q⟩|⟨φ,q⟩|⟨ks,q⟩ <;> (rw[h]at q; cases q)
def rQ {p:Ic}{o:HO}(hp:Wr H p){a:Ic}{vs:HN V}(h:SqT K H a vs):SqT K (bh H p o) a vs:=by
 rcases h with(h|⟨o',h⟩)|h
 ·exact .inl (.inl (by rw[aB (hp.ne_tup h)]; exact h))
 ·exact .inl (.inr #[o',by rw[aB (hp.ne_frz h)]; exact h])
 ·exact .inr h
def vI {p:Ic}{o:HO}(hp:Wr H p){a:Ic}{vs:HN V}(h:FroL K H a vs):FroL K (bh H p o) a vs:=by
 rcases h with⟨o',h⟩|h
 ·exact .inl #[o',by rw[aB (hp.ne_frz h)]; exact h]
 ·exact .inr h
def bX {p:Ic}{o:HO}(hp:Wr H p):Ext K A H A (bh H p o):=#[λ_ _ h=>h,λ_ _ h=>rQ hp h,λ_ _ _ h=>by rw[aB (hp.ne_frz h)]; exact h]
def cp {p:Ic}{o:HO}(hp:H p=gV):Ext K A H (A++[p]) (bh H p o):=
 #[λi a h=>by rw[Jr (Il.mp h).1]; exact h,λ_ _ h=>rQ (.inl hp) h,λ_ _ _ h=>by rw[aB (Wr.ne_frz (.inl hp) h)]; exact h]
def ObjRel.keep {p a:Ic}{o:HO}{b:O}(hp:Wr H p)(hne:b.mut=true->a≠p)(e:Ext K A H A' (bh H p o))(h:ObjRel wd K A H a b):ObjRel wd K A' (bh H p o) a b:=by
 cases b with
 | lst ws=>
  obtain⟨vs,q,r⟩:=h;exact#[vs,by rw[aB (hne rfl)]; exact q,r.mono e]
 | fro ws=>
  obtain⟨vs,q,r⟩:=h;exact#[vs,vI hp q,r.mono e]
 | stt ks=>
  obtain⟨ob,φ,as,q,r1,r2⟩:=h;exact#[ob,φ,as,by rw[aB (hp.ne_frz q)]; exact q,r1,r2.mono e]
 | sti n=>
  obtain⟨ob,φ,q,r1⟩:=h;exact#[ob,φ,by rw[aB (hp.ne_frz q)]; exact q,r1]
 | rng lo hi=>
  have h:H a=ba (.rng lo hi):=h;show bh H p o a=ba (.rng lo hi);rw[aB (hp.ne_rng h)];exact h
 | dic U=>
  obtain⟨xs,q,r⟩:=h;exact#[xs,by rw[aB (hne rfl)]; exact q,r.mono e]
 | frd U=>
  obtain⟨ob,xs,q,r⟩:=h;exact#[ob,xs,by rw[aB (hp.ne_frz q)]; exact q,r.mono e]
def ObjRel.there {a:Ic}{b:O}(h:ObjRel wd K A H a b)(hm:b.mut=true):H a≠gV:=by
 cases b with
 | lst ws=>obtain⟨vs,q,r⟩:=h; rw[q]; intro z; cases z
 | fro ws=>cases hm
 | stt ws=>cases hm
 | sti _=>cases hm
 | rng lo hi=>cases hm
 | dic U=>obtain⟨vs,q,r⟩:=h; rw[q]; intro z; cases z
 | frd ws=>cases hm
def ObjRel.wr {a:Ic}{b:O}(h:ObjRel wd K A H a b)(hm:b.mut=true):Wr H a:=by
 cases b with
 | lst ws=>obtain⟨vs,q,r⟩:=h; exact .lst q
 | fro ws=>cases hm
 | stt ws=>cases hm
 | sti _=>cases hm
 | rng lo hi=>cases hm
 | dic U=>obtain⟨vs,q,r⟩:=h; exact .ext q
 | frd ws=>cases hm
def StoreOk.lay {S:aa}{p:Ic}{o:HO}(h:StoreOk wd K A H S)(hp:H p=gV):StoreOk wd K A (bh H p o) S:=
 #[h.len,h.nd,λi b a e ea=>(h.obj i b a e ea).keep (.inl hp) (λhm z=>(h.obj i b a e ea).there hm (z ▸ hp)) (bX (.inl hp))]
def StoreOk.pushO {S:aa}{p:Ic}{n:O}{u:HO}(h:StoreOk wd K A H S)(hp:H p=gV)(r:ObjRel wd K (A++[p]) (bh H p u) p n):StoreOk wd K (A++[p]) (bh H p u) (S++[n]):=by
 have ex:Ext K A H (A++[p]) (bh H p u):=cp hp;have old:∀ {i:HZ} {o:O} {a:Ic},(S++[n])[i]?=ba o->(A++[p])[i]?=ba a->i < S.length->S[i]?=ba o/\A[i]?=ba a:=λ{i o a} e ea hl=>by
  rw[Jr hl]at e;rw[Jr (h.len ▸ hl)]at ea;exact#[e,ea]
 have new:∀ {i:HZ} {o:O} {a:Ic},(S++[n])[i]?=ba o->(A++[p])[i]?=ba a->¬ i < S.length->i=S.length/\o=n/\a=p:=λ{i o a} e ea hl=>by
  have hi:i=S.length:=by
   have:=(Il.mp e).1;simp at this;omega
  subst hi;simp at e;rw[<- h.len]at ea;simp at ea;exact#[rfl,e.symm,ea.symm]
 refine#[by simp[h.len],λi j a o u e1 m1 e2 m2 a1 a2=>?_,λi o a e ea=>?_]
 ·by_cases hi:i < S.length <;> by_cases hj:j < S.length
  ·obtain⟨x1,y1⟩:=old e1 a1 hi;obtain⟨x2,y2⟩:=old e2 a2 hj;exact h.nd i j a o u x1 m1 x2 m2 y1 y2
  ·obtain⟨x1,y1⟩:=old e1 a1 hi;obtain⟨_,_,z⟩:=new e2 a2 hj;subst z;exact absurd hp ((h.obj i o a x1 y1).there m1)
  ·obtain⟨x2,y2⟩:=old e2 a2 hj;obtain⟨_,_,z⟩:=new e1 a1 hi;subst z;exact absurd hp ((h.obj j u a x2 y2).there m2)
  ·rw[(new e1 a1 hi).1,(new e2 a2 hj).1]
 ·by_cases hi:i < S.length
  ·obtain⟨x1,y1⟩:=old e ea hi;exact(h.obj i o a x1 y1).keep (.inl hp) (λhm z=>(h.obj i o a x1 y1).there hm (z ▸ hp)) ex
  ·obtain⟨_,rfl,rfl⟩:=new e ea hi;exact r
def StoreOk.push {S:aa}{p:Ic}{ws:HN W}{vs:HN V}(h:StoreOk wd K A H S)(hp:H p=gV)(r:RelL K A H ws vs):StoreOk wd K (A++[p]) (bh H p (.lst vs)) (S++[.lst ws]):=
 h.pushO hp #[vs,aF,r.mono (cp hp)]
def StoreOk.writeO {S:aa}{i:HZ}{p:Ic}{o0 n:O}{u:HO}(h:StoreOk wd K A H S)(e:S[i]?=ba o0)(m0:o0.mut=true)(ea:A[i]?=ba p)(r:ObjRel wd K A (bh H p u) p n) :
  StoreOk wd K A (bh H p u) (S.set i n)/\Ext K A H A (bh H p u):=by
 have hw:Wr H p:=(h.obj i _ p e ea).wr m0;have ex:Ext K A H A (bh H p u):=bX hw;have hl:i < S.length:=(Il.mp e).1;refine#[#[by simp[h.len],λj k a o u e1 m1 e2 m2 a1 a2=>?_,λj o a e1 a1=>?_],ex]
 ·have get:∀ {j:HZ} {o:O},(S.set i n)[j]?=ba o->o.mut=true->∃o',S[j]?=ba o'/\o'.mut=true:=λ{j o} q m=>by
   rw[Kj]at q
   by_cases z:i=j
   ·subst z; exact#[_,e,m0]
   ·rw[IP z]at q; exact#[o,q,m]
  obtain⟨o',x1,m1'⟩:=get e1 m1;obtain⟨u',x2,m2'⟩:=get e2 m2;exact h.nd j k a o' u' x1 m1' x2 m2' a1 a2
 ·rw[Kj]at e1
  by_cases z:i=j
  ·subst z;rw[IF rfl,IF hl]at e1;cases e1;rw[ea]at a1; cases a1
   exact r
  ·rw[IP z]at e1;exact(h.obj j o a e1 a1).keep hw (λhm q=>z (h.nd i j p _ o e m0 e1 hm ea (q ▸ a1))) ex
def StoreOk.write {S:aa}{i:HZ}{p:Ic}{ws:HN W}{us:HN V}{ws0:HN W}(h:StoreOk wd K A H S)(e:S[i]?=ba (.lst ws0))(ea:A[i]?=ba p)(r:RelL K A H ws us) :
  StoreOk wd K A (bh H p (.lst us)) (S.set i (.lst ws))/\Ext K A H A (bh H p (.lst us)):=
 h.writeO e rfl ea #[us,aF,r.mono (bX ((h.obj i _ p e ea).wr rfl))]
end
abbrev eY (S:aa)(i:HZ):HY (HN W):=match S[i]? with
 | some (.lst xs)=>ba xs
 | some (.fro xs)=>ba xs
 | _=>gV
abbrev nO (S:aa)(i:HZ):HY (HN W):=match S[i]? with
 | some (.lst xs)=>ba xs
 | _=>gV
abbrev kO (S:aa)(xs:HN W):HY (W×aa):=if xs.length<=sizeLine then ba (.ref S.length,S++[.lst xs])else gV
abbrev qD (S:aa)(xs:HN W):HY (W×aa):=if xs.length<=sizeLine then ba (.tup xs,S)else gV
abbrev zq (j:Ip):IN:=decide (0 < j)&&decide (j < 1073741824)
abbrev tW (i j:Ip):IN:=(decide (-(2 ^ 64) < i)&&decide (i < 2 ^ 64))||(decide (-(2 ^ 64) < j)&&decide (j < 2 ^ 64))
abbrev En (i j:Ip):IN:=decide (0<=j)&&decide (j<=1000000)&&decide (i.natAbs < 2 ^ 64)
inductive BOp where|add|sub|mul|fdiv|mod|pow
 deriving LM
abbrev yJ (c:Ip->Ip->IN)(f:Ip->Ip->Ip)(x y:W)(S:aa):HY (W×aa):=match x,y with
 | .int i,.int j=>if c i j then ba (.int (f i j),S)else gV
 | _,_=>gV
abbrev tX (x y:W)(S:aa):HY (W×aa):=match x with
 | .int i=>match y with
  | .int j=>ba (.int (i+j),S)
  | _=>gV
 | .str x=>match y with
  | .str y=>if x.length+y.length<=sizeLine then ba (.str (x++y),S)else gV
  | _=>gV
 | .tup xs=>match y with
  | .tup ys=>qD S (xs++ys)
  | _=>gV
 | .ref i=>match y with
  | .ref j=>match nO S i,nO S j with
   | some xs,ba ys=>kO S (xs++ys)
   | _,_=>gV
  | _=>gV
 | _=>gV
abbrev vJ (x y:W)(S:aa):HY (W×aa):=match x with
 | .str x=>match y with
  | .int k=>if k < 2 ^ 24/\-(2 ^ 24)<=k/\x.length*k.toNat<=sizeLine then ba (.str (Sq x k),S)else gV
  | _=>gV
 | .ref i=>match y with
  | .int k=>match nO S i with
   | some xs=>if k < 2 ^ 24/\-(2 ^ 24)<=k/\xs.length*k.toNat<=sizeLine then kO S (Jj k.toNat xs).flatten else gV
   | none=>gV
  | _=>gV
 | x=>yJ tW (· * ·) x y S
abbrev eS:BOp->W->W->aa->HY (W×aa)
 | .add,x,y,S=>tX x y S
 | .sub,x,y,S=>yJ (λ_ _=>true) (· - ·) x y S
 | .mul,x,y,S=>vJ x y S
 | .fdiv,x,y,S=>yJ (λ_ j=>zq j) (· / ·) x y S
 | .mod,x,y,S=>yJ (λ_ j=>decide (0 < j)) (· % ·) x y S
 | .pow,x,y,S=>yJ En (λi j=>i ^ j.toNat) x y S
abbrev BOp.py:BOp->Pg
 | .add=>.Add|.sub=>.Sub|.mul=>.Mult|.fdiv=>.FloorDiv|.mod=>.Mod|.pow=>.Pow
section
variable (X:Cx)
abbrev di (J:HN (Ic×Kb))(Y:L2.St)(A:HN Ic)(H:Hp)(S':aa)(w:W)(u:HS)(s':HV):Prop:=
 ∃v H' A',Inv X J Y H' s'/\RelV v u/\Ext X.K A H A' H'/\StoreOk X.w X.K A' H' S'/\Rel X.K A' H' w v
noncomputable abbrev FE:=Fm->aa->HY (W×aa)
abbrev LOp (f:HS->HS->Ry HS)(g:W->W->aa->HY (W×aa)):Prop:=
 ∀(J:HN (Ic×Kb)) (s:HV) (Y:L2.St) (H:Hp) (A:HN Ic) (S:aa) (x y:W) (a b:V) (u v:HS) (w:W) (S':aa),Inv X J Y H s->StoreOk X.w X.K A H S->
  Rel X.K A H x a->RelV a u->Rel X.K A H y b->RelV b v->g x y S=ba (w,S')->wpAny (model X.prog X.w) X.A (f u v) (di X J Y A H S' w) X.xe s
end
section
variable{X:Cx}
def jH {S:aa}{i:HZ}{xs:HN W}(h:nO S i=ba xs):S[i]?=ba (.lst xs):=by
 unfold nO at h;split at h
 ·cases h; assumption
 ·cases h
def ee {A:HN Ic}{H:Hp}{S:aa}{i:HZ}{xs:HN W}{a:Ic}(so:StoreOk X.w X.K A H S)(h:nO S i=ba xs)(ea:A[i]?=ba a):∃vs,H a=ba (.lst vs)/\RelL X.K A H xs vs:=
 so.obj i _ a (jH h) ea
def aZ {A:HN Ic}{H:Hp}{S:aa}{i:HZ}{xs:HN W}{a:Ic}(so:StoreOk X.w X.K A H S)(h:eY S i=ba xs)(ea:A[i]?=ba a):∃vs,SqL X.K H a vs/\RelL X.K A H xs vs:=by
 unfold eY at h;split at h
 ·cases h;obtain⟨vs,q,r⟩:=so.obj i _ a (by assumption) ea
  exact#[vs,.of q,r]
 ·cases h;obtain⟨vs,q,r⟩:=so.obj i _ a (by assumption) ea
  exact#[vs,q.sq,r]
 ·cases h
def jp {S S':aa}{xs:HN W}{w:W}(h:kO S xs=ba (w,S')):xs.length<=sizeLine/\w=.ref S.length/\S'=S++[.lst xs]:=by
 unfold kO at h;split at h
 ·cases h; exact#[by assumption,rfl,rfl]
 ·cases h
def rR {S S':aa}{xs:HN W}{w:W}(h:qD S xs=ba (w,S')):xs.length<=sizeLine/\w=.tup xs/\S'=S:=by
 unfold qD at h;split at h
 ·cases h; exact#[by assumption,rfl,rfl]
 ·cases h
def zr {A:HN Ic}{H:Hp}{S:aa}{ws:HN W}{vs:HN V}{Q:VK}{p:Ic}(so:StoreOk X.w X.K A H S)(r:RelL X.K A H ws vs)(hp:H p=gV)
  (q:∀v H' A',Ext X.K A H A' H'->StoreOk X.w X.K A' H' (S++[.lst ws])->Rel X.K A' H' (.ref S.length) v->Q v H'):Q (.ref p) (bh H p (.lst vs)):=
 q _ _ (A++[p]) (cp hp) (so.push hp r) (.ref (by rw[<- so.len]; simp))
def zt {A:HN Ic}{H:Hp}{S:aa}{ws:HN W}{vs:HN V}{Q:VK}{p:Ic}(so:StoreOk X.w X.K A H S)(r:RelL X.K A H ws vs)(hp:H p=gV)
  (q:∀v H' A',Ext X.K A H A' H'->StoreOk X.w X.K A' H' S->Rel X.K A' H' (.tup ws) v->Q v H'):Q (.ref p) (bh H p (.tup vs)):=
 q _ _ A (bX (.inl hp)) (so.lay hp) (.tup (.of aF) (r.mono (bX (.inl hp))))
abbrev Eo (K:Ij):R2:=λx y H Q=>∃a b xs ys,x=.ref a/\y=.ref b/\SqT K H a xs/\SqT K H b ys/\xs.length+ys.length<=sizeLine/\
 (xs=[]->Q (.ref b) H)/\(ys=[]->Q (.ref a) H)/\(∀p,H p=gV->Q (.ref p) (bh H p (.tup (xs++ys))))
def zu:OpR X (binaryOp .Add) (Eo X.K):=by
 intro J s Y H x y v u Q I rx ry h;obtain⟨a,b,xs,ys,rfl,rfl,ha,hb,hz,q0,q1,q2⟩:=h;cases rx;cases ry;obtain⟨its,r1,p1,_⟩:=I.tuple ha;obtain⟨its2,r2,p2,_⟩:=I.tuple hb
 by_cases hx:xs=[]
 ·obtain⟨⟨cls,dd,data,sl⟩,ho,hc,n,hd⟩:=id p1;obtain⟨⟨cls2,dd2,data2,sl2⟩,ho2,hc2,n2,hd2⟩:=id p2;simp only at hc hd hc2 hd2;subst hc hd hc2 hd2;exact Pi #[_,ho,rfl] #[_,ho2,rfl] NP OQ Mw Mq (Mg _ _)
   (tuple_addW0 a b its.toArray its2.toArray n n2 dd dd2 sl sl2 (by simp[r1.nil_iff.mpr hx])) #[ho,ho2,#[.ref b,H,I,rfl,q0 hx]]
 ·refine HT.y6 p1 p2 (λz=>hx (r1.nil_iff.mp z)) (λz=>#[.ref a,H,I,rfl,q1 (r2.nil_iff.mp z)]) (λz=>?_) (by rw[<- r1.length,<- r2.length]; exact hz)
  refine#[.ref s.heap.objs.size,_,I.laid (t':=s.toks) (o:=.tup (xs++ys)) (λb ob q=>HR _ q) (Ih _) ?_,rfl,q2 _ (I.hok.fresh (Ih _))]
  exact#[by rw[Io]; exact hz,_,r1.append r2,PK _ _]
def RelL.nil_iff {K:Ij}{A:HN Ic}{H:Hp}{ws:HN W}{vs:HN V}(r:RelL K A H ws vs):vs=[]↔ws=[]:=by
 cases r <;> simp
def qE:OpR X (binaryOp .Mult) (λx y H Q=>∃z k,x=.str z/\y=.int k/\MulOk z k/\Q (.str (Sq z k)) H):=by
 intro J s Y H x y v u Q I rx ry h;obtain⟨z,k,rfl,rfl,ok,q⟩:=h;obtain⟨t,rfl⟩:=rx;obtain⟨t',rfl⟩:=ry;exact SB.mul ok λt2 k2=>#[.str _,H,I.tok _,#[_,rfl],q]
def vK {x:IH}{k:Ip}(h1:k < 16777216)(h2 : -16777216<=k)(h3:x.length*k.toNat<=sizeLine):MulOk x k:=by
 have hs:sizeLine=16777216:=Jq;rw[hs]at h3;refine#[?_,λa b=>?_,λ_ _=>?_]
 ·rw[Bool.or_eq_false_iff];exact#[IX ∅,IX ∅]
 ·have hk:0 < k:=∅
  have e:(x.length:Ip)*k=((x.length*k.toNat:HZ):Ip):=by
   rw[N5,OJ ∅]
  intro hgt;have h4:(2 ^ 63 - 1:Ip) < (x.length:Ip)*k:=(Int.ediv_lt_iff_lt_mul hk).mp hgt;rw[e]at h4;generalize x.length*k.toNat=z at h3 h4;omega
 ·unfold QI;rw[hs];exact IX ∅
abbrev EndV (wd:Jg)(K:Ij)(A:HN Ic)(H:Hp)(S':aa)(w:W):VK:=λv H'=>∃A',Ext K A H A' H'/\StoreOk wd K A' H' S'/\Rel K A' H' w v
def EndV.here {A:HN Ic}{H:Hp}{S:aa}{w:W}{v:V}(so:StoreOk X.w X.K A H S)(r:Rel X.K A H w v):EndV X.w X.K A H S w v H:=#[A,.refl,so,r]
def EndV.lst {A:HN Ic}{H:Hp}{S:aa}{ws:HN W}{vs:HN V}{p:Ic}(so:StoreOk X.w X.K A H S)(r:RelL X.K A H ws vs)(hp:H p=gV):EndV X.w X.K A H (S++[.lst ws]) (.ref S.length) (.ref p) (bh H p (.lst vs)):=
 zr (Q:=EndV X.w X.K A H (S++[.lst ws]) (.ref S.length)) so r hp λv H' A' a b c=>#[A',a,b,c]
def EndV.tup {A:HN Ic}{H:Hp}{S:aa}{ws:HN W}{vs:HN V}{p:Ic}(so:StoreOk X.w X.K A H S)(r:RelL X.K A H ws vs)(hp:H p=gV):EndV X.w X.K A H S (.tup ws) (.ref p) (bh H p (.tup vs)):=
 zt (Q:=EndV X.w X.K A H S (.tup ws)) so r hp λv H' A' a b c=>#[A',a,b,c]
def EP.post {J:HN (Ic×Kb)}{Y:L2.St}{A:HN Ic}{H:Hp}{S':aa}{w:W}{u:HS}{s':HV}(h:EP X J Y (EndV X.w X.K A H S' w) u s'):di X J Y A H S' w u s':=by
 obtain⟨v,H',I',r,A',x,y,z⟩:=h;exact#[v,H',A',I',r,x,y,z]
def OpR.go {f:HS->HS->Ry HS}{r:R2}(h:OpR X f r){J:HN (Ic×Kb)}{Y:L2.St}{A:HN Ic}{H:Hp}{S':aa}{w:W}{s:HV}{a b:V}{u v:HS}(I:Inv X J Y H s)(ru:RelV a u)(rv:RelV b v)
  (q:r a b H (EndV X.w X.K A H S' w)):wpAny (model X.prog X.w) X.A (f u v) (di X J Y A H S' w) X.xe s:=bm (h J s Y H a b u v _ I ru rv q) λ_ _=>EP.post
def zv:LOp X (binaryOp .Add) (eS .add):=by
 intro J s Y H A S x y a b u v w S' I so rx ru ry rv e;cases rx with
 | int=>cases ry with
  | int=>cases e; exact OpR.go B8 I ru rv #[_,_,rfl,rfl,.here so .int]
  | _=>cases e
 | str=>cases ry with
  | str=>
   dsimp only[eS,tX]at e;split at e
   ·cases e; exact OpR.go qv I ru rv #[_,_,rfl,rfl,by assumption,.here so .str]
   ·cases e
  | _=>cases e
 | tup h1 r1=>cases ry with
  | tup h2 r2=>
   obtain⟨hl,rfl,rfl⟩:=rR (show qD S _=_ from e)
   rw[Io,r1.length,r2.length]at hl;refine OpR.go zu I ru rv #[_,_,_,_,rfl,rfl,h1,h2,hl,λz=>?_,λz=>?_,λp hp=>.tup so (r1.append r2) hp]
   ·have z':=r1.nil_iff.mp z;subst z';exact .here so (.tup h2 r2)
   ·have z':=r2.nil_iff.mp z;subst z';rw[JT];exact .here so (.tup h1 r1)
  | _=>cases e
 | ref h1=>cases ry with
  | ref h2=>
   dsimp only[eS,tX]at e;split at e
   ·obtain⟨hl,rfl,rfl⟩:=jp e;obtain⟨vs,q1,r1⟩:=ee so (by assumption) h1
    obtain⟨us,q2,r2⟩:=ee so (by assumption) h2
    rw[Io,r1.length,r2.length]at hl;exact OpR.go Cr I ru rv #[_,_,_,_,rfl,rfl,q1,q2,hl,λp hp=>.lst so (r1.append r2) hp]
   ·cases e
  | _=>cases e
 | _=>cases e
def nV {f:HS->HS->Ry HS}{c:Ip->Ip->IN}{g:Ip->Ip->Ip}{r:R2}(h:OpR X f r)(hr:∀i j H Q,c i j=true->Q (.int (g i j)) H->r (.int i) (.int j) H Q):LOp X f (yJ c g):=by
 intro J s Y H A S x y a b u v w S' I so rx ru ry rv e;cases rx with
 | int=>cases ry with
  | int=>
   unfold yJ at e;dsimp only at e;split at e
   ·cases e; exact OpR.go h I ru rv (hr _ _ _ _ (by assumption) (.here so .int))
   ·cases e
  | _=>cases e
 | _=>cases e
def zw:LOp X (binaryOp .Sub) (eS .sub):=nV B9 λ_ _ _ _ _ q=>#[_,_,rfl,rfl,q]
def zx {i j:Ip}(h:tW i j=true):CMul i j:=by
 unfold tW at h;rw[Kq,HX,HX,Ix,Ix,Ix,Ix]at h;exact h
def zy:LOp X (binaryOp .Mult) (eS .mul):=by
 have hI:LOp X (binaryOp .Mult) (yJ tW (· * ·)):=nV Cc λ_ _ _ _ h q=>#[_,_,rfl,rfl,zx h,q]
 intro J s Y H A S x y a b u v w S' I so rx ru ry rv e;cases x with
 | str z=>
  cases rx with
  | str=>cases ry with
   | int=>
    dsimp only[eS,vJ]at e;split at e
    ·rename_i hc;cases e; exact OpR.go qE I ru rv #[_,_,rfl,rfl,vK ∅ ∅ hc.2.2,.here so .str]
    ·cases e
   | _=>cases e
 | ref z=>
  cases rx with
  | ref h1=>cases ry with
   | int=>
    dsimp only[eS,vJ]at e;split at e
    ·split at e
     ·rename_i hc;obtain⟨hl,rfl,rfl⟩:=jp e;obtain⟨vs,q1,r1⟩:=ee so (by assumption) h1
      rw[r1.length]at hc;exact OpR.go Cs I ru rv #[_,_,_,rfl,rfl,q1,∅,∅,hc.2.2,λp hp=>.lst so (r1.rep _) hp]
     ·cases e
    ·cases e
   | _=>cases e
 | _=>exact hI _ _ _ _ _ _ _ _ _ _ _ _ _ _ I so rx ru ry rv e
def vL:LOp X (binaryOp .FloorDiv) (eS .fdiv):=nV yW λ_ _ _ _ h q=>#[_,_,rfl,rfl,by
 unfold zq at h;rw[HX,Ix,Ix]at h;exact h,q]
def zz:LOp X (binaryOp .Mod) (eS .mod):=nV Cd λ_ _ _ _ h q=>#[_,_,rfl,rfl,Je h,q]
def zA:LOp X (binaryOp .Pow) (eS .pow):=nV Ce λ_ _ _ _ h q=>#[_,_,rfl,rfl,by
 unfold En at h;rw[HX,HX,Ix,Ix,Ix]at h;exact#[h.1.1,h.1.2,h.2],q]
def rS (o:BOp):LOp X (binaryOp o.py) (eS o):=by
 cases o
 ·exact zv
 ·exact zw
 ·exact zy
 ·exact vL
 ·exact zz
 ·exact zA
end
abbrev gv (f:W->W->HY IN):HN W->HN W->HY IN
 | [],[]=>ba true
 | [],_::_=>ba false
 | _::_,[]=>ba false
 | x::xs,y::ys=>match f x y,gv f xs ys with
  | some a,ba b=>ba (a&&b)
  | _,_=>gV
abbrev b2 (b:IN):Ip:=if b then 1 else 0
abbrev iH (S:aa):HZ->W->W->HY IN
 | _,.non,y=>match y with
  | .non=>ba true
  | _=>gV
 | _,.bl a,y=>match y with
  | .bl b=>ba (a==b)
  | _=>gV
 | _,.int a,y=>match y with
  | .int b=>ba (a==b)
  | _=>gV
 | _,.str a,y=>match y with
  | .str b=>ba (a==b)
  | _=>gV
 | 0,_,_=>gV
 | d+1,.tup xs,y=>match y with
  | .tup ys=>gv (iH S d) xs ys
  | _=>gV
 | d+1,.ref i,y=>match y with
  | .ref j=>match nO S i,nO S j with
   | some xs,ba ys=>if xs.length=ys.length then gv (iH S d) xs ys else ba false
   | _,_=>gV
  | _=>gV
section
variable{X:Cx}{J:HN (Ic×Kb)}{Y:L2.St}{H:Hp}{s:HV}{A:HN Ic}{S:aa}
abbrev RU (K:Ij)(A:HN Ic)(H:Hp)(w:W)(u:HS):Prop:=∃v,Rel K A H w v/\RelV v u
def rT {ws:HN W}{vs:HN V}{us:HN HS}(r:RelL X.K A H ws vs)(q:Vals vs us):∀(j:HZ) (h1:j < ws.length) (h2:j < us.length),RU X.K A H ws[j] us[j]:=by
 induction ws generalizing vs us with
 | nil=>intro j h1; simp at h1
 | cons w ws ih=>
  cases r with
  | cons r1 rr=>
   cases q with
   | cons q1 qq=>
    intro j h1 h2;cases j with
    | zero=>exact#[_,r1,q1]
    | succ j=>exact ih rr qq j (by simpa using h1) (by simpa using h2)
def vM {ws:HN W}{u:HS}(I:Inv X J Y H s)(h:RU X.K A H (.tup ws) u):∃a its,u=.ref a/\Pc s.heap a its/\its.size=ws.length/\ws.length<=sizeLine/\∀(j:HZ) (h1:j < ws.length) (h2:j < its.size),RU X.K A H ws[j] its[j]:=by
 obtain⟨v,r,q⟩:=h;cases r with
 | tup sq rl=>
  obtain⟨its,rv,ht,hz⟩:=I.tuple sq;refine#[_,its.toArray,q,ht,by rw[Iu,<- rv.length,rl.length],by rw[rl.length]; exact hz,λj h1 h2=>?_]
  have:=rT rl rv j h1 (by simpa using h2)
  simpa using this
def vN {i:HZ}{ws:HN W}{u:HS}(I:Inv X J Y H s)(so:StoreOk X.w X.K A H S)(e:nO S i=ba ws)(h:RU X.K A H (.ref i) u):∃a its,u=.ref a/\A[i]?=ba a/\s.heap.IsList a its/\its.size=ws.length/\ws.length<=sizeLine/\∀(j:HZ) (h1:j < ws.length) (h2:j < its.size),RU X.K A H ws[j] its[j]:=by
 obtain⟨v,r,q⟩:=h;cases r with
 | ref ea=>
  obtain⟨vs,hq,rl⟩:=ee so e ea;obtain⟨its,rv,ht,hz⟩:=I.list (.of hq);refine#[_,its.toArray,q,ea,ht.isList,by rw[Iu,<- rv.length,rl.length],by rw[rl.length]; exact hz,λj h1 h2=>?_]
  have:=rT rl rv j h1 (by simpa using h2)
  simpa using this
def jI {f:W->W->HY IN}:∀ {xs ys:HN W} {k:IN},gv f xs ys=ba k->∃e:HZ->IN,(∀(j:HZ) (h1:j < xs.length) (h2:j < ys.length),f xs[j] ys[j]=ba (e j))/\
  k=((ID (min xs.length ys.length)).all e&&xs.length==ys.length)
 | [],[],k,h=>#[λ_=>true,λj h1=>by simp at h1,by cases h; rfl]
 | [],_::_,k,h=>#[λ_=>true,λj h1=>by simp at h1,by cases h; simp]
 | _::_,[],k,h=>#[λ_=>true,λj h1 h2=>by simp at h2,by cases h; simp]
 | x::xs,y::ys,k,h=>by
  dsimp only[gv]at h;split at h
  ·rename_i a b ha hb;cases h;obtain⟨e,h1,h2⟩:=jI hb;refine#[λj=>match j with|0=>a|j+1=>e j,λj hj1 hj2=>?_,?_]
   ·cases j with
    | zero=>exact ha
    | succ j=>exact h1 j (by simpa using hj1) (by simpa using hj2)
   ·subst h2;simp only[Ju,Nat.add_min_add_right,NW,Jw,Rf,Bool.and_assoc];congr 2;simp
  ·cases h
def zB (I:Inv X J Y H s)(so:StoreOk X.w X.K A H S):∀(d:HZ) {x y:W} {v:V} {k:IN},Rel X.K A H x v->Rel X.K A H y v->iH S d x y=ba k->k=true:=by
 intro d
 induction d with
 | zero=>
  intro x y v k rx ry e;cases rx with
  | non=>cases ry; cases e; rfl
  | bl=>cases ry; cases e; exact Jm _
  | int=>cases ry; cases e; exact Jm _
  | str=>cases ry; cases e; exact Jm _
  | tup _ _=>cases e
  | ref _=>cases e
 | succ d ih=>
  have lists:∀ {xs ys:HN W} {vs:HN V} {k:IN},RelL X.K A H xs vs->RelL X.K A H ys vs->gv (iH S d) xs ys=ba k->k=true:=by
   intro xs
   induction xs with
   | nil=>
    intro ys vs k r1 r2 e;cases r1; cases r2; cases e; rfl
   | cons x xs ihx=>
    intro ys vs k r1 r2 e;cases r1 with
    | cons p1 q1=>
     cases r2 with
     | cons p2 q2=>
      dsimp only[gv]at e;split at e
      ·rename_i a b ha hb;cases e;rw[ih p1 p2 ha,ihx q1 q2 hb];rfl
      ·cases e
  intro x y v k rx ry e;cases rx with
  | non=>cases ry; cases e; rfl
  | bl=>cases ry; cases e; exact Jm _
  | int=>cases ry; cases e; exact Jm _
  | str=>cases ry; cases e; exact Jm _
  | tup h1 r1=>
   cases ry with
   | tup h2 r2=>
    rw[I.tuple_inj h1 h2]at r1;exact lists r1 r2 e
   | ref ea=>cases e
  | ref ea=>
   cases ry with
   | tup h2 r2=>cases e
   | ref eb=>
    dsimp only[iH]at e;split at e
    ·rename_i xs ys hx hy;have:=so.nd _ _ _ _ _ (jH hx) rfl (jH hy) rfl ea eb;subst this;rw[hx]at hy; cases hy
     rw[IF rfl]at e;obtain⟨vs,q,r⟩:=ee so hx ea;exact lists r r e
    ·cases e
def aE (A:Jd):A.in1.units=A.units+1:=rfl
noncomputable abbrev DN (B:Jd)(s:HV)(u v:HS)(k:IN):Prop:=SeqAt.RcAt B s u v k/\SeqAt.RcNeAt B s u v (!k)/\MG B s u v k
open SeqAt in
def Bk (I:Inv X J Y H s)(so:StoreOk X.w X.K A H S):∀(d:HZ) (B:Jd) {x y:W} {u v:HS} {k:IN},B.units+d < cLine->RU X.K A H x u->RU X.K A H y v->iH S d x y=ba k->DN B s u v k:=by
 have non:∀ {B:Jd} {y:W} {u v:HS} {k:IN} {d:HZ},RU X.K A H .non u->RU X.K A H y v->iH S d .non y=ba k->DN B s u v k:=by
  intro B y u v k d ⟨_,rx,ra⟩ ⟨_,ry,rb⟩ e;cases rx;cases(show u=Jn from ra)
  cases y with
  | non=>
   have e:ba (true)=ba k:=by cases d <;> exact e
   cases e;cases ry;cases(show v=Jn from rb)
   exact#[.none_none,.none_none,.same _]
  | _=>cases d <;> cases e
 have bl:∀ {B:Jd} {b:IN} {y:W} {u v:HS} {k:IN} {d:HZ},RU X.K A H (.bl b) u->RU X.K A H y v->iH S d (.bl b) y=ba k->DN B s u v k:=by
  intro B b y u v k d ⟨_,rx,ra⟩ ⟨_,ry,rb⟩ e;cases rx;cases(show u=LN _ from ra)
  cases y with
  | bl c=>
   have e:ba (b==c)=ba k:=by cases d <;> exact e
   cases e;cases ry;cases(show v=LN _ from rb)
   exact#[.bool_bool _ _,.bool_bool _ _,.bool_bool _ _]
  | _=>cases d <;> cases e
 have int:∀ {B:Jd} {b:Ip} {y:W} {u v:HS} {k:IN} {d:HZ},RU X.K A H (.int b) u->RU X.K A H y v->iH S d (.int b) y=ba k->DN B s u v k:=by
  intro B b y u v k d ⟨_,rx,ra⟩ ⟨_,ry,rb⟩ e;cases rx;obtain⟨t0,rfl⟩ : ∃t,u=NO _ t:=ra;cases y with
  | int c=>
   have e:ba (b==c)=ba k:=by cases d <;> exact e
   cases e;cases ry;obtain⟨t,rfl⟩ : ∃t,v=NO _ t:=rb;exact#[.int_int _ _ _ _,.int_int _ _ _ _,.int_int _ _ _ _]
  | _=>cases d <;> cases e
 have str:∀ {B:Jd} {b:IH} {y:W} {u v:HS} {k:IN} {d:HZ},RU X.K A H (.str b) u->RU X.K A H y v->iH S d (.str b) y=ba k->DN B s u v k:=by
  intro B b y u v k d ⟨_,rx,ra⟩ ⟨_,ry,rb⟩ e;cases rx;obtain⟨t0,rfl⟩ : ∃t,u=MF _ t:=ra;cases y with
  | str c=>
   have e:ba (b==c)=ba k:=by cases d <;> exact e
   cases e;cases ry;obtain⟨t,rfl⟩ : ∃t,v=MF _ t:=rb;exact#[.str_str _ _ _ _,.str_str _ _ _ _,.str_str _ _ _ _]
  | _=>cases d <;> cases e
 intro d
 induction d with
 | zero=>
  intro B x y u v k hu rx ry e;cases x with
  | non=>exact non rx ry e
  | bl b=>exact bl rx ry e
  | int b=>exact int rx ry e
  | str b=>exact str rx ry e
  | _=>cases e
 | succ d ih=>
  intro B x y u v k hu rx ry e;have hu0:B.units < cLine:=∅
  have hu1:B.in1.units+d < cLine:=by rw[aE]; omega
  have rx0:=rx;have ry0:=ry;have fin:∀ {a b:Ic},u=.ref a->v=.ref b->RcAt B s u v k->RcNeAt B s u v (!k)->DN B s u v k:=by
   intro a b ea eb h1 h2;subst ea eb;refine#[h1,h2,?_]
   by_cases hab:a=b
   ·subst hab;obtain⟨v1,q1,z1⟩:=rx0;obtain⟨v2,q2,z2⟩:=ry0;have e12:v1=v2:=z1.inj z2;subst e12;have:=zB I so (d+1) q1 q2 e;subst this;exact EqAt.same _
   ·exact EqAt.of_refs hab h1
  cases x with
  | non=>exact non rx ry e
  | bl b=>exact bl rx ry e
  | int b=>exact int rx ry e
  | str b=>exact str rx ry e
  | tup xs=>
   cases y with
   | tup ys=>
    obtain⟨a,its,rfl,ht,hs,_,hi⟩:=vM I rx;obtain⟨b,its2,rfl,ht2,hs2,_,hi2⟩:=vM I ry;obtain⟨f,h1,h2⟩:=jI (show gv (iH S d) xs ys=ba k from e)
    have he:∀j (h1:j < its.size) (h2:j < its2.size),EqAt B.in1 s its[j] its2[j] (f j):=λj j1 j2=>
     (ih B.in1 hu1 (hi j (hs ▸ j1) j1) (hi2 j (hs2 ▸ j2) j2) (h1 j (hs ▸ j1) (hs2 ▸ j2))).2.2
    rw[<- hs,<- hs2]at h2;subst h2;exact fin rfl rfl (RcAt.tuples ht ht2 hu0 he) (RcNeAt.tuples ht ht2 hu0 he)
   | _=>cases e
  | ref i=>
   cases y with
   | ref j=>
    dsimp only[iH]at e;split at e
    ·rename_i ws ws2 hw hw2;obtain⟨a,its,rfl,_,hl,hs,_,hi⟩:=vN I so hw rx;obtain⟨b,its2,rfl,_,hl2,hs2,_,hi2⟩:=vN I so hw2 ry;split at e
     ·rename_i hlen;obtain⟨f,h1,h2⟩:=jI e;have he:∀j (h1:j < its.size) (h2:j < its2.size),EqAt B.in1 s its[j] its2[j] (f j):=λj j1 j2=>
       (ih B.in1 hu1 (hi j (hs ▸ j1) j1) (hi2 j (hs2 ▸ j2) j2) (h1 j (hs ▸ j1) (hs2 ▸ j2))).2.2
      have hk:k=(ID its.size).all f:=by rw[h2,hs,hlen]; simp
      subst hk;exact fin rfl rfl (RcAt.lists hl hl2 (by rw[hs,hs2,hlen]) hu0 he) (RcNeAt.lists hl hl2 (by rw[hs,hs2,hlen]) hu0 he)
     ·rename_i hlen;cases e;have hb:(its.size != its2.size)=true:=by rw[hs,hs2]; simpa using hlen
      exact fin rfl rfl (RcAt.lists_lengths hl hl2 hb hu0) (RcNeAt.lists_lengths hl hl2 hb hu0)
    ·cases e
   | _=>cases e
end
abbrev LtAt (B:Jd)(s:HV)(u v:HS)(k:IN):Prop:=
 ∀(prog:IZ) (w:Jg) (E:HS->HV->Prop) (Q:HS->HV->Prop),Q (.bool k) s->wpAny (model prog w) B (richCompare .Lt u v) Q E s
inductive LexR (B:Jd)(s:HV):HN HS->HN HS->IN->Prop
 | nn:LexR B s [] [] false
 | nc {v:HS} {vs:HN HS}:LexR B s [] (v::vs) true
 | cn {v:HS} {vs:HN HS}:LexR B s (v::vs) [] false
 | eq {u v:HS} {us vs:HN HS} {k:IN}:MG B s u v true->LexR B s us vs k->LexR B s (u::us) (v::vs) k
 | ne {u v:HS} {us vs:HN HS} {k:IN}:MG B s u v false->LtAt B s u v k->LexR B s (u::us) (v::vs) k
section
open PySem.SeqAt
open PySem.AutoSeq1 (wpAny_loadPart')
open PySem.MeetsSeq PySem.MeetsSeq2 PySem.MeetsSeq3
def mE (l b:Ic)(items items2:IM HS)(n n2:HZ)(dd dd2:HY Ic)(sl sl2:IM (HY HS))(k:IN) :
  Meets (Lg.«tuple.__lt__» #[[.ref l,.ref b],[]])
   (λB R s=>s.heap.get? l=ba { cls:=.type "tuple",dict:=dd,data:=.seq items n,slots:=sl }/\s.heap.get? b=ba { cls:=.type "tuple",dict:=dd2,data:=.seq items2 n2,slots:=sl2 }/\
    LexR B.in1 s items.toList items2.toList k/\R (.ok (.ret (.bool k))) s):=
 .of_wp λprog w A R s h=>by
  obtain⟨hp,g,d,tk,os⟩:=s; obtain⟨hl,hb,hx,h⟩:=h
  have f2:=QR;have z1:items.toList.length=items.size:=by simp
  have z2:items2.toList.length=items2.size:=by simp
  wp_walk using MW hl,MW hb,L1 _ (λbj b s'=>b.1=gV/\s'=#[hp,g,d,tk,os]/\∃(vs ws:HN HS),bj=vs.zip ws/\
   LexR A.in1 #[hp,g,d,tk,os] vs ws k/\vs.length+items2.size=ws.length+items.size) _
  case turn=>
   rintro⟨y,x⟩ bj b s' ⟨hb',rfl,vs,ws,hz,hlx,hlen⟩;cases hlx with
   | nn=>rw[Pp]at hz; cases hz
   | nc=>rw[Pp]at hz; cases hz
   | cn=>rw[List.zip_nil_right]at hz; cases hz
   | eq he hr=>
    rw[LC]at hz;injection hz with hyx hrest
    injection hyx with hy hx
    subst hy hx;simp only[Ju]at hlen;refine HP (he prog w _ _ ?_)
    wp_walk
    exact#[rfl,rfl,_,_,hrest,hr,∅]
   | ne he hr=>
    rw[LC]at hz;injection hz with hyx hrest
    injection hyx with hy hx
    subst hy hx;refine HP (he prog w _ _ ?_);have hri:=hr prog w
    wp_walk using hri
    exact#[_,rfl,by simpa using h]
  case fin=>
   rintro⟨b1,b2⟩ s' ⟨hb',rfl,vs,ws,hz,hlx,hlen⟩;simp only at hb';subst hb';have hv:k=decide (items.size < items2.size):=by
    cases hlx with
    | nn=>simp only[KD]at hlen; exact(IX ∅).symm
    | nc=>simp only[KD,Ju]at hlen; exact(JG ∅).symm
    | cn=>simp only[KD,Ju]at hlen; exact(IX ∅).symm
    | eq _ _=>rw[LC]at hz; cases hz
    | ne _ _=>rw[LC]at hz; cases hz
   subst hv
   wp_walk
   exact#[_,rfl,by simpa [PF]using h]
  case h=>
   exact#[rfl,rfl,items.toList,items2.toList,rfl,hx,∅]
end
def LtAt.tuples {B:Jd}{s:HV}{l b:Ic}{items items2:IM HS}{k:IN}(hl:Pc s.heap l items)(hb:Pc s.heap b items2)(hu:B.units < cLine)(hx:LexR B.in1 s items.toList items2.toList k) :
  LtAt B s (.ref l) (.ref b) k:=λprog w E Q h=>by
 obtain⟨⟨cls,dd,data,sl⟩,ho,hc,n,hd⟩:=id hl;obtain⟨⟨cls2,dd2,data2,sl2⟩,ho2,hc2,n2,hd2⟩:=id hb;simp only at hc hd hc2 hd2;subst hc hd hc2 hd2;exact richCompare_meets_room (op:=.Lt) #[_,ho,rfl] #[_,ho2,rfl] PySem.F.slot_tuple_lt PySem.F.entry_tuple_lt (PySem.F.args_tuple_lt_2 _ _) (mE l b items items2 n n2 dd dd2 sl sl2 k)
  #[ho,ho2,hx,show LN k≠Value.notImplemented/\Q (.bool k) s from#[(λx=>nomatch x),h]] hu
inductive COp where|eq|ne|lt|le|gt|ge|isin|notin|is|isnot
 deriving LM
abbrev COp.py:COp->Ra
 | .eq=>.Eq|.ne=>.NotEq|.lt=>.Lt|.le=>.LtE|.gt=>.Gt|.ge=>.GtE|.isin=>.In|.notin=>.NotIn|.is=>.Is|.isnot=>.IsNot
abbrev bz:W->IN
 | .non=>true
 | .bl _=>true
 | .int _=>true
 | .str _=>true
 | _=>false
abbrev yK:W->W->IN
 | .non,.non=>true
 | .bl a,.bl b=>a==b
 | .bl a,.int b=>b2 a==b
 | .int a,.bl b=>a==b2 b
 | .int a,.int b=>a==b
 | .str a,.str b=>a==b
 | _,_=>false
abbrev dR (S:aa):W->HY (HN W)
 | .tup xs=>ba xs
 | .ref i=>eY S i
 | _=>gV
noncomputable abbrev gw:HZ:=20
abbrev zC (x y:W)(S:aa):HY IN:=match dR S y with
 | some ys=>if bz x&&ys.all bz then ba (ys.any λz=>yK z x)else gV
 | none=>gV
abbrev vO:W->IN
 | .non=>true
 | _=>false
abbrev vP (f:Ip->Ip->IN):W->W->HY IN
 | .int i,.int j=>ba (f i j)
 | _,_=>gV
abbrev Bl:COp->W->W->aa->HY IN
 | .eq,x,y,S=>iH S gw x y
 | .ne,x,y,S=>(iH S gw x y).map (!·)
 | .lt,x,y,_=>vP (λi j=>decide (i < j)) x y
 | .le,x,y,_=>vP (λi j=>decide (i<=j)) x y
 | .gt,x,y,_=>vP (λi j=>decide (j < i)) x y
 | .ge,x,y,_=>vP (λi j=>decide (j<=i)) x y
 | .isin,x,y,S=>zC x y S
 | .notin,x,y,S=>(zC x y S).map (!·)
 | .is,x,y,_=>if vO y then ba (vO x)else gV
 | .isnot,x,y,_=>if vO y then ba (!vO x)else gV
abbrev fT (o:COp)(x y:W)(S:aa):HY (W×aa):=(Bl o x y S).map λk=>(.bl k,S)
section
variable{X:Cx}
def rV {J:HN (Ic×Kb)}{Y:L2.St}{H:Hp}{s:HV}{A:HN Ic}{S:aa}{k:IN}(I:Inv X J Y H s)(so:StoreOk X.w X.K A H S):di X J Y A H S (.bl k) (.bool k) s:=
 #[.bl k,H,A,I,rfl,.refl,so,.bl]
def zD {o:COp}{x y w:W}{S S':aa}(h:fT o x y S=ba (w,S')):∃k,Bl o x y S=ba k/\w=.bl k/\S'=S:=by
 unfold fT at h;rw[HU]at h;obtain⟨k,h1,h2⟩:=h;cases h2;exact#[k,h1,rfl,rfl]
def nW {A:HN Ic}{H:Hp}{w:W}{v:V}(r:Rel X.K A H w v)(f:bz w=true):gb v=true:=by
 cases r <;> first|rfl|cases f
def ll {A:HN Ic}{H:Hp}:∀ {ws:HN W} {vs:HN V},RelL X.K A H ws vs->ws.all bz=true->vs.all gb=true
 | _,_,.nil,_=>rfl
 | _,_,.cons r t,f=>by
  rw[Jw,HX]at f ⊢;exact#[nW r f.1,ll t f.2]
def zE {A:HN Ic}{H:Hp}{x y:W}{u v:V}(r:Rel X.K A H x u)(q:Rel X.K A H y v)(fx:bz x=true)(fy:bz y=true):zh u v=yK x y:=by
 cases r <;> cases q <;> first|rfl|cases fx|cases fy
def rW {A:HN Ic}{H:Hp}{y:W}{v:V}(q:Rel X.K A H y v)(fy:bz y=true):∀ {ws:HN W} {vs:HN V},RelL X.K A H ws vs->ws.all bz=true->FQ v vs=ws.any λz=>yK z y
 | _,_,.nil,_=>rfl
 | _,_,.cons r t,f=>by
  rw[Jw,HX]at f;have:=rW q fy t f.2;unfold FQ at this ⊢;rw[KT,KT,zE r q f.1 fy,this]
def mF {J:HN (Ic×Kb)}{Y:L2.St}{H:Hp}{s:HV}{A:HN Ic}{S:aa}{y:W}{b:V}{ys:HN W}(so:StoreOk X.w X.K A H S)(r:Rel X.K A H y b)(e:dR S y=ba ys):∃p vs,b=.ref p/\(SqL X.K H p vs\/SqT X.K H p vs)/\RelL X.K A H ys vs:=by
 cases r with
 | tup h1 r1=>cases e; exact#[_,_,rfl,.inr h1,r1]
 | ref ea=>
  obtain⟨vs,h1,r1⟩:=aZ so e ea;exact#[_,vs,rfl,.inl h1,r1]
 | _=>cases e
def vQ {neg:IN}{o:Ra}(ho:OpR X (compareOp o) (Gu X.K neg)){J:HN (Ic×Kb)}{Y:L2.St}{H:Hp}{s:HV}{A:HN Ic}{S:aa}{x y:W}{a b:V}{u v:HS}{ys:HN W}(I:Inv X J Y H s)(so:StoreOk X.w X.K A H S)
  (rx:Rel X.K A H x a) (ru:RelV a u) (ry:Rel X.K A H y b) (rv:RelV b v) (e:dR S y=ba ys) (f:(bz x&&ys.all bz)=true) :
  wpAny (model X.prog X.w) X.A (compareOp o u v) (di X J Y A H S (.bl (if neg then !ys.any λz=>yK z x else ys.any λz=>yK z x))) X.xe s:=by
 obtain⟨p,vs,rfl,hq,rl⟩:=mF (J:=J) (Y:=Y) (s:=s) so ry e;rw[HX]at f;refine OpR.go ho I ru rv #[p,vs,rfl,hq,nW rx f.1,ll rl f.2,?_];rw[rW rx f.1 rl f.2];exact .here so .bl
def zF (hu:X.A.units+gw < cLine)(o:COp):LOp X (compareOp o.py) (fT o):=by
 intro J s Y H A S x y a b u v w S' I so rx ru ry rv e;obtain⟨k,ek,e1,e2⟩:=zD e;subst e1;subst e2;clear e
 rename aa=>S
 have twoI:∀ {f:Ip->Ip->IN},vP f x y=ba k->∃i j,x=.int i/\y=.int j/\k=f i j:=by
  intro f h;cases x with
  | int i=>cases y with
   | int j=>cases h; exact#[i,j,rfl,rfl,rfl]
   | _=>cases h
  | _=>cases h
 have hu1:X.A.units+1 < cLine:=by have:gw=20:=rfl; omega
 have ofSq:∀ {c:IN},zC x y S=ba c->(∃ys,dR S y=ba ys/\(bz x&&ys.all bz)=true/\c=ys.any λz=>yK z x):=by
  intro c h;unfold zC at h;split at h
  ·split at h
   ·cases h; exact#[_,by assumption,by assumption,rfl]
   ·cases h
  ·cases h
 have ofN:∀ {c:IN},(if vO y then ba c else gV)=ba k->y=.non/\k=c:=by
  intro c h;cases y with
  | non=>cases h; exact#[rfl,rfl]
  | _=>cases h
 cases o with
 | eq=>exact(Bk I so gw X.A hu #[a,rx,ru] #[b,ry,rv] ek).1 _ _ _ _ (rV I so)
 | ne=>
  obtain⟨k',h1,rfl⟩:=HU.mp ek;exact(Bk I so gw X.A hu #[a,rx,ru] #[b,ry,rv] h1).2.1 _ _ _ _ (rV I so)
 | lt=>
  obtain⟨i,j,rfl,rfl,rfl⟩:=twoI ek;cases rx; cases ry
  exact OpR.go Eb I ru rv #[_,_,rfl,rfl,.here so .bl]
 | le=>
  obtain⟨i,j,rfl,rfl,rfl⟩:=twoI ek;cases rx; cases ry
  exact OpR.go Ec I ru rv #[_,_,rfl,rfl,.here so .bl]
 | gt=>
  obtain⟨i,j,rfl,rfl,rfl⟩:=twoI ek;cases rx; cases ry
  exact OpR.go Ed I ru rv #[_,_,rfl,rfl,.here so .bl]
 | ge=>
  obtain⟨i,j,rfl,rfl,rfl⟩:=twoI ek;cases rx; cases ry
  exact OpR.go Ee I ru rv #[_,_,rfl,rfl,.here so .bl]
 | isin=>
  obtain⟨ys,h1,h2,rfl⟩:=ofSq ek;exact vQ (neg:=false) tP I so rx ru ry rv h1 h2
 | notin=>
  obtain⟨c,h,rfl⟩:=HU.mp ek;obtain⟨ys,h1,h2,rfl⟩:=ofSq h;exact vQ (neg:=true) mB I so rx ru ry rv h1 h2
 | is=>
  obtain⟨rfl,rfl⟩:=ofN ek;cases ry;refine OpR.go Cg I ru rv #[rfl,?_];cases rx <;> exact .here so .bl
 | isnot=>
  obtain⟨rfl,rfl⟩:=ofN ek;cases ry;refine OpR.go yX I ru rv #[rfl,?_];cases rx <;> exact .here so .bl
end
end Mi
namespace HT
open PySem PyProof.Rows
section
variable{prog:IZ}{w:Jg}{A:Jd}{E:HS->HV->Prop}{s:HV}
def fU {t sl:Ic}{items:IM HS}{vl vu:HS}{lo hi:HY Ip}{Q:HS->HV->Prop}(ht:Pc s.heap t items)(hs:s.heap.IsSliceOf sl vl vu .none)(pl:Nc vl lo)(pu:Nc vu hi)
  (hw:bR items.size 0 lo=0/\bR items.size items.size hi=items.size) (h:Q (.ref t) s):wpAny (model prog w) A (getItem (.ref t) (.ref sl)) Q E s:=by
 obtain⟨os,hos,hcs,hds⟩:=id hs;have hTs:s.TypeIs (.ref sl) "slice":=#[os,hos,hcs];unfold getItem
 try with_reducible refine JB ?_
 first|refine HP (HW ?_)|skip
 refine HP (Pj ht.typeIs #v[] ?_)
 refine HP (Jt (name:=Ko "__getitem__") ht.typeIs KF
  (Jx KF ht.typeIs OI ?_ (O0 _ _)))
 show wpAny _ _ (LO (.ref t) >>= _) _ _ s;refine HP (QM ht ?_);refine HP (LB hTs ?_);rw[IF #v[]]
 refine HP (ey hs pl pu ?_);have hyes:((((bR items.size 0 lo:HZ):Ip)==0&&(1:Ip)==1&&(bR items.size items.size hi - bR items.size 0 lo)==items.size)=true):=by
  rw[hw.1,hw.2];simp
 show wpAny _ _ (if (((bR items.size 0 lo:HZ):Ip)==0&&(1:Ip)==1&&(bR items.size items.size hi - bR items.size 0 lo)==items.size)=true then _ else _) _ _ s
 rw[IF hyes];unfold Qw;refine HP (HP (LB ht.typeIs (HW ?_)));rw[IF #v[]]
 exact HP (Na (HP (HW (HW #[_,rfl,HW h]))))
end
end HT
namespace Mi
open PySem PySem.Spec PyProof.Rows L2
abbrev rX (x y:W)(S:aa):HY (W×aa):=match x,y with
 | .tup xs,.int i=>(nN xs i).map λw=>(w,S)
 | .ref r,.int i=>match eY S r with
  | some xs=>(nN xs i).map λw=>(w,S)
  | none=>gV
 | .str x,.int i=>if x.length<=sizeLine then(nN x.cps.toList i).map λc=>(.str #[[c].toArray],S)else gV
 | _,_=>gV
abbrev iI (xs:HN W)(lo hi:HY Ip):HN W:=(xs.drop (HT.bR xs.length 0 lo)).take (HT.bR xs.length xs.length hi - HT.bR xs.length 0 lo)
abbrev nX (x:W)(lo hi:HY Ip)(S:aa):HY (W×aa):=match x with
 | .tup xs=>ba (.tup (iI xs lo hi),S)
 | .ref r=>match eY S r with
  | some xs=>ba (.ref S.length,S++[.lst (iI xs lo hi)])
  | none=>gV
 | _=>gV
abbrev tY (o i v:W)(S:aa):HY aa:=match o,i with
 | .ref r,.int k=>match nO S r with
  | some xs=>match qm xs.length k with
   | some j=>ba (S.set r (.lst (xs.set j v)))
   | none=>gV
  | none=>gV
 | _,_=>gV
section
variable (X:Cx)
abbrev LIx (g:W->W->aa->HY (W×aa)):Prop:=
 ∀(value slice:IJ) (J:HN (Ic×Kb)) (s:HV) (Y:L2.St) (H:Hp) (A:HN Ic) (S:aa) (x y:W) (a b:V) (u v:HS) (w:W) (S':aa),Inv X J Y H s->StoreOk X.w X.K A H S->
  Rel X.K A H x a->RelV a u->Rel X.K A H y b->RelV b v->g x y S=ba (w,S')->subscripted slice false u v=operate [u,v] (getItem u v)->wpAny (model X.prog X.w) X.A (subscriptTail value slice u v) (di X J Y A H S' w) X.xe s
abbrev LSl (g:W->HY Ip->HY Ip->aa->HY (W×aa)):Prop:=
 ∀(J:HN (Ic×Kb)) (s:HV) (Y:L2.St) (H:Hp) (A:HN Ic) (S:aa) (x:W) (a:V) (v vl vu:HS) (lo hi:HY Ip) (sl:Ic) (w:W) (S':aa),Inv X J Y H s->StoreOk X.w X.K A H S->
  Rel X.K A H x a->RelV a v->s.heap.IsSliceOf sl vl vu .none->Nc vl lo->Nc vu hi->g x lo hi S=ba (w,S')->
  ∃T id,typeLookup (.type T) "__getitem__" = pure (ba (.builtin id))/\s.TypeIs v T/\wpAny (model X.prog X.w) X.A (getItem v (.ref sl)) (di X J Y A H S' w) X.xe s
abbrev LSet (g:W->W->W->aa->HY aa):Prop:=
 ∀(J:HN (Ic×Kb)) (s:HV) (Y:L2.St) (H:Hp) (A:HN Ic) (S:aa) (o i x:W) (ao ai ax:V) (uo ui ux:HS) (S':aa),Inv X J Y H s->StoreOk X.w X.K A H S->
  Rel X.K A H o ao->RelV ao uo->Rel X.K A H i ai->RelV ai ui->Rel X.K A H x ax->RelV ax ux->g o i x S=ba S'->
  wpAny (model X.prog X.w) X.A (setItem uo ui ux) (λ_ s'=>∃H' A',Inv X J Y H' s'/\Ext X.K A H A' H'/\StoreOk X.w X.K A' H' S') X.xe s
abbrev LCall (f:HS)(g:HN W->aa->HY (W×aa)):Prop:=
 ∀(J:HN (Ic×Kb)) (s:HV) (Y:L2.St) (H:Hp) (A:HN Ic) (S:aa) (xs:HN W) (vs:HN V) (us:HN HS) (w:W) (S':aa),Inv X J Y H s->StoreOk X.w X.K A H S->
  RelL X.K A H xs vs->Vals vs us->g xs S=ba (w,S')->wpAny (model X.prog X.w) X.A (call f us) (di X J Y A H S' w) X.xe s
abbrev lm (id:JX)(g:W->HN W->aa->HY (W×aa)):Prop:=
 ∀(J:HN (Ic×Kb)) (s:HV) (Y:L2.St) (H:Hp) (A:HN Ic) (S:aa) (x:W) (a:V) (u:HS) (xs:HN W) (vs:HN V) (us:HN HS) (w:W) (S':aa),Inv X J Y H s->StoreOk X.w X.K A H S->
  Rel X.K A H x a->RelV a u->RelL X.K A H xs vs->Vals vs us->g x xs S=ba (w,S')->wpAny (model X.prog X.w) X.A (call (.builtin id) (u::us)) (di X J Y A H S' w) X.xe s
end
section
variable{X:Cx}{J:HN (Ic×Kb)}{Y:L2.St}{H:Hp}{s:HV}{A:HN Ic}{S:aa}
def IxR.go {r:R2}(h:IxR X r){S':aa}{w:W}{a b:V}{u v:HS}{value slice:IJ}(I:Inv X J Y H s)(ru:RelV a u)(rv:RelV b v)(q:r a b H (EndV X.w X.K A H S' w))(hs:subscripted slice false u v=operate [u,v] (getItem u v)) :
  wpAny (model X.prog X.w) X.A (subscriptTail value slice u v) (di X J Y A H S' w) X.xe s:=bm (h value slice J s Y H a b u v _ I ru rv q hs) λ_ _=>EP.post
def CallR.go {f:HS}{r:HN V->Hp->VK->Prop}(h:CallR X f r){S':aa}{w:W}{vs:HN V}{us:HN HS}(I:Inv X J Y H s)(rv:Vals vs us)(q:r vs H (EndV X.w X.K A H S' w)) :
  wpAny (model X.prog X.w) X.A (call f us) (di X J Y A H S' w) X.xe s:=bm (h J s Y H vs us _ I rv q) λ_ _=>EP.post
def MtR.go {id:JX}{r:V->HN V->Hp->VK->Prop}(h:MtR X id r){S':aa}{w:W}{a:V}{u:HS}{vs:HN V}{us:HN HS}(I:Inv X J Y H s)(ru:RelV a u)(rv:Vals vs us)(q:r a vs H (EndV X.w X.K A H S' w)) :
  wpAny (model X.prog X.w) X.A (call (.builtin id) (u::us)) (di X J Y A H S' w) X.xe s:=bm (h J s Y H a vs u us _ I ru rv q) λ_ _=>EP.post
def rY {xs:HN W}{vs:HN V}{i:Ip}{w:W}(r:RelL X.K A H xs vs)(e:nN xs i=ba w):∃v,nN vs i=ba v/\Rel X.K A H w v:=by
 unfold nN at e ⊢;rw[r.length]at e;cases q:qm vs.length i with
 | none=>rw[q]at e; cases e
 | some j=>
  rw[q]at e;obtain⟨v,h1,h2⟩:=r.get (show xs[j]?=ba w from e)
  exact#[v,h1,h2]
def HA (hu:X.A.units+10 < cLine):LIx X rX:=by
 intro value slice J s Y H A S x y a b u v w S' I so rx ru ry rv e hs;cases rx with
 | tup h1 r1=>cases ry with
  | int=>
   (dsimp only[rX]at e; simp only[HU]at e)
   obtain⟨w',e1,e2⟩:=e;cases e2;obtain⟨z,h2,r2⟩:=rY r1 e1;exact IxR.go Cn I ru rv #[_,_,_,_,rfl,rfl,h1,h2,.here so r2] hs
  | _=>cases e
 | ref ea=>cases ry with
  | int=>
   dsimp only[rX]at e;split at e
   ·rename_i ws hw;rw[HU]at e;obtain⟨w',e1,e2⟩:=e;cases e2;obtain⟨vs,h1,r1⟩:=aZ so hw ea;obtain⟨z,h2,r2⟩:=rY r1 e1;exact IxR.go ze I ru rv #[_,_,_,_,rfl,rfl,h1,h2,.here so r2] hs
   ·cases e
  | _=>cases e
 | str=>cases ry with
  | int=>
   dsimp only[rX]at e;split at e
   ·rw[HU]at e;obtain⟨c,e1,e2⟩:=e;cases e2;exact IxR.go Co I ru rv #[_,_,_,rfl,rfl,by assumption,e1,.here so .str] hs
   ·cases e
  | _=>cases e
 | _=>cases ry <;> cases e
def mG {xs:HN W}{vs:HN V}{lo hi:HY Ip}(r:RelL X.K A H xs vs):RelL X.K A H (iI xs lo hi) (jG vs lo hi):=by
 unfold iI jG;rw[r.length];exact(r.drop _).take _
def zG:Ek X (λx lo hi H Q=>∃a xs,x=.ref a/\SqT X.K H a xs/\(jG xs lo hi=xs->Q (.ref a) H)/\∀p,H p=gV->Q (.ref p) (bh H p (.tup (jG xs lo hi)))):=by
 intro J s Y H x v vl vu lo hi sl Q I rx hs pl pu h;obtain⟨a,xs,rfl,hx,q0,q⟩:=h
 by_cases hw:(HT.bR xs.length 0 lo=0/\HT.bR xs.length xs.length hi=xs.length)
 ·cases rx;obtain⟨its,r,ht,hz⟩:=I.tuple hx;have hlen:its.toArray.size=xs.length:=by rw[Iu]; exact r.length.symm
  refine#["tuple",_,PyProof.Rows.slot_tuple_getitem.lookup,ht.typeIs,?_];refine HT.fU ht hs pl pu (by rw[hlen]; exact hw) #[.ref a,H,I,rfl,q0 ?_]
  unfold jG;rw[hw.1,hw.2];simp
 ·exact Cm J s Y H (.ref a) v vl vu lo hi sl Q I rx hs pl pu #[a,xs,rfl,hx,hw,q]
def HB:LSl X nX:=by
 intro J s Y H A S x a v vl vu lo hi sl w S' I so rx rv hs pl pu e;cases rx with
 | tup h1 r1=>
  cases e;obtain⟨T,id,z1,z2,z3⟩:=zG J s Y H _ v vl vu lo hi sl (EndV X.w X.K A H S (.tup (iI _ lo hi))) I rv hs pl pu #[_,_,rfl,h1,λq=>.here so (.tup h1 (by have:=mG (lo:=lo) (hi:=hi) r1; rw[q]at this; exact this)),λp hp=>.tup so (mG r1) hp]
  exact#[T,id,z1,z2,bm z3 λ_ _=>EP.post]
 | ref ea=>
  simp only[nX]at e;split at e
  ·rename_i ws hw;cases e;obtain⟨vs,h1,r1⟩:=aZ so hw ea;obtain⟨T,id,z1,z2,z3⟩:=zf J s Y H _ v vl vu lo hi sl (EndV X.w X.K A H (S++[.lst (iI ws lo hi)]) (.ref S.length)) I rv hs pl pu #[_,_,rfl,h1,λp hp=>.lst so (mG r1) hp]
   exact#[T,id,z1,z2,bm z3 λ_ _=>EP.post]
  ·cases e
 | _=>cases e
def lset (hu:X.A.units+10 < cLine):LSet X tY:=by
 intro J s Y H A S o i x ao ai ax uo ui ux S' I so ro ruo ri rui rx rux e;cases ro with
 | ref ea=>cases ri with
  | int=>
   simp only[tY]at e;split at e
   ·rename_i ws hw;split at e
    ·rename_i j hj;cases e;obtain⟨vs,h1,r1⟩:=ee so hw ea;rw[r1.length]at hj;obtain⟨so',ex⟩:=so.write (jH hw) ea (r1.set rx j);exact bm (vA J s Y H _ _ _ uo ui ux (λH'=>H'=bh H _ (.lst (vs.set j ax))) I ruo rui rux #[_,_,_,_,rfl,rfl,h1,hj,rfl]) λ_ s' #[H',I',e']=>#[_,A,e' ▸ I',ex,so']
    ·cases e
   ·cases e
  | _=>cases e
 | _=>cases ri <;> cases e
abbrev nY (xs:HN W)(S:aa):HY (W×aa):=match xs with
 | [.tup ys]=>ba (.int ys.length,S)
 | [.str y]=>if y.length<=sizeLine then ba (.int y.length,S)else gV
 | [.ref i]=>(eY S i).map λys=>(.int ys.length,S)
 | _=>gV
def tZ:LCall X (.builtin "len") nY:=by
 intro J s Y H A S xs vs us w S' I so rl rv e;cases rl with
 | nil=>cases e
 | cons r t=>
  cases t with
  | cons _ _=>cases r <;> cases e
  | nil=>
   cases r with
   | tup h1 r1=>cases e; rw[r1.length]; exact CallR.go jD I rv #[_,_,rfl,.inr #[_,h1,rfl],.here so .int]
   | str=>
    dsimp only[nY]at e;split at e
    ·cases e; exact CallR.go jD I rv #[_,_,rfl,#[by assumption,rfl],.here so .int]
    ·cases e
   | ref ea=>
    (dsimp only[nY]at e; simp only[HU]at e)
    obtain⟨ws,hw,e2⟩:=e;cases e2;obtain⟨vs',h1,r1⟩:=aZ so hw ea;rw[r1.length];exact CallR.go jD I rv #[_,_,rfl,.inl #[_,h1,rfl],.here so .int]
   | _=>cases e
abbrev gM (xs:HN W)(S:aa):HY (W×aa):=match xs with
 | [x]=>match dR S x with
  | some ys=>ba (.ref S.length,S++[.lst ys])
  | none=>gV
 | _=>gV
def gx:LCall X (.type "list") gM:=by
 intro J s Y H A S xs vs us w S' I so rl rv e;cases rl with
 | nil=>cases e
 | cons r t=>
  cases t with
  | cons _ _=>cases e
  | nil=>
   simp only[gM]at e;split at e
   ·rename_i ys hy;cases e;obtain⟨p,vs',rfl,hq,r1⟩:=mF (J:=J) (Y:=Y) (s:=s) so r hy;exact CallR.go mC I rv #[p,vs',rfl,hq,λl hl=>.lst so r1 hl]
   ·cases e
abbrev jJ (xs:HN W)(S:aa):HY (W×aa):=match xs with
 | [.tup ys]=>ba (.tup ys,S)
 | [.ref i]=>match eY S i with
  | some ys=>ba (.tup ys,S)
  | none=>gV
 | _=>gV
def i8:LCall X (.type "tuple") jJ:=by
 intro J s Y H A S xs vs us w S' I so rl rv e;cases rl with
 | nil=>cases e
 | cons r t=>
  cases t with
  | cons _ _=>cases r <;> cases e
  | nil=>
   cases r with
   | tup h1 r1=>cases e; exact CallR.go gf I rv #[_,_,rfl,.inr #[h1,.here so (.tup h1 r1)]]
   | ref ea=>
    dsimp only[jJ]at e;split at e
    ·rename_i ys hy;cases e;obtain⟨vs',h1,r1⟩:=aZ so hy ea;exact CallR.go gf I rv #[_,_,rfl,.inl #[h1,λl hl=>.tup so r1 hl]]
    ·cases e
   | _=>cases e
abbrev Er (xs:HN W)(S:aa):HY (W×aa):=match xs with
 | [.int i]=>ba (.int i,S)
 | [.bl b]=>ba (.int (if b then 1 else 0),S)
 | _=>gV
def t4:LCall X (.type "int") Er:=by
 intro J s Y H A S xs vs us w S' I so rl rv e;cases rl with
 | nil=>cases e
 | cons r t=>
  cases t with
  | cons _ _=>cases r <;> cases e
  | nil=>
   cases r with
   | int=>cases e; exact CallR.go kY I rv (.inl #[_,rfl,.here so .int])
   | bl=>cases e; exact CallR.go kY I rv (.inr #[_,rfl,.here so .int])
   | _=>cases e
abbrev gN (x:W)(xs:HN W)(S:aa):HY (W×aa):=match x,xs with
 | .ref i,[y]=>match nO S i with
  | some ys=>if ys.length < sizeLine then ba (.non,S.set i (.lst (ys++[y])))else gV
  | none=>gV
 | _,_=>gV
def iJ {i:HZ}{p:Ic}{ws ws0:HN W}{us:HN V}(so:StoreOk X.w X.K A H S)(e:nO S i=ba ws0)(ea:A[i]?=ba p)(r:RelL X.K A H ws us){w:W}{v:V}(rw':Rel X.K A H w v) :
  EndV X.w X.K A H (S.set i (.lst ws)) w v (bh H p (.lst us)):=by
 obtain⟨so',ex⟩:=so.write (jH e) ea r;exact#[A,ex,so',rw'.mono ex]
def mH:lm X "list.append" gN:=by
 intro J s Y H A S x a u xs vs us w S' I so rx ru rl rv e;cases rx with
 | ref ea=>
  cases rl with
  | nil=>cases e
  | cons r t=>
   cases t with
   | cons _ _=>cases e
   | nil=>
    simp only[gN]at e;split at e
    ·rename_i ys hy;split at e
     ·rename_i hl;cases e;obtain⟨vs',h1,r1⟩:=ee so hy ea;rw[r1.length]at hl;exact MtR.go tQ I ru rv #[_,_,_,rfl,rfl,h1,hl,iJ so hy ea (r1.append #v[r]) .non]
     ·cases e
    ·cases e
 | _=>cases e
abbrev gO (x:W)(xs:HN W)(S:aa):HY (W×aa):=match x,xs with
 | .ref i,[.ref j]=>match nO S i,nO S j with
  | some ys,ba zs=>if ys.length+zs.length<=sizeLine then ba (.non,S.set i (.lst (ys++zs)))else gV
  | _,_=>gV
 | _,_=>gV
def mI:lm X "list.extend" gO:=by
 intro J s Y H A S x a u xs vs us w S' I so rx ru rl rv e;cases rx with
 | ref ea=>
  cases rl with
  | nil=>cases e
  | cons r t=>
   cases t with
   | cons _ _=>cases r <;> cases e
   | nil=>
    cases r with
    | ref eb=>
     dsimp only[gO]at e;split at e
     ·rename_i ys zs hy hz;split at e
      ·rename_i hl;cases e;obtain⟨vs',h1,r1⟩:=ee so hy ea;obtain⟨vs2,h2,r2⟩:=ee so hz eb;rw[r1.length,r2.length]at hl;exact MtR.go tR I ru rv #[_,_,_,_,rfl,rfl,h1,h2,hl,iJ so hy ea (r1.append r2) .non]
      ·cases e
     ·cases e
    | _=>cases e
 | _=>cases e
abbrev zH (x:W)(xs:HN W)(S:aa):HY (W×aa):=match x,xs with
 | .ref i,[.int k]=>match nO S i with
  | some ys=>if -(2 ^ 63)<=k/\k < 2 ^ 63 then match seqIndex? k ys.length with
   | some j=>match ys[j]? with
    | some y=>ba (y,S.set i (.lst (ys.eraseIdx j)))
    | none=>gV
   | none=>gV
   else gV
  | none=>gV
 | _,_=>gV
def t8:lm X "list.pop" zH:=by
 intro J s Y H A S x a u xs vs us w S' I so rx ru rl rv e;cases rx with
 | ref ea=>
  cases rl with
  | nil=>cases e
  | cons r t=>
   cases t with
   | cons _ _=>cases r <;> cases e
   | nil=>
    cases r with
    | int=>
     dsimp only[zH]at e;split at e
     ·rename_i ys hy;split at e
      ·rename_i hk;split at e
       ·rename_i j hj;split at e
        ·rename_i y hyj;cases e;obtain⟨vs',h1,r1⟩:=ee so hy ea;obtain⟨v',h2,r2⟩:=r1.get hyj;rw[r1.length]at hj;exact MtR.go vD I ru rv #[_,_,_,_,_,rfl,rfl,h1,hk.1,hk.2,hj,h2,iJ so hy ea (r1.eraseIdx j) r2]
        ·cases e
       ·cases e
      ·cases e
     ·cases e
    | _=>cases e
 | _=>cases e
abbrev iK:HN W->HY (HN IH)
 | []=>ba []
 | .str x::xs=>(iK xs).map (x :: ·)
 | _::_=>gV
abbrev rZ (x:W)(xs:HN W)(S:aa):HY (W×aa):=match x,xs with
 | .str x,[y]=>match dR S y with
  | some ys=>match iK ys with
   | some zs=>if (zs.map (·.length)).sum+zs.length*x.length<=16777216 then ba (.str (Rt x zs),S)else gV
   | none=>gV
  | none=>gV
 | _,_=>gV
def jK:∀ {ws:HN W} {vs:HN V} {us:HN HS} {zs:HN IH},RelL X.K A H ws vs->Vals vs us->iK ws=ba zs->StrsAre us zs
 | _,_,_,zs,.nil,.nil,e=>by cases e; exact .nil
 | _,_,_,zs,.cons r t,.cons q p,e=>by
  cases r with
  | str=>
   simp only[iK,HU]at e;obtain⟨z,e1,e2⟩:=e;subst e2;obtain⟨tk,rfl⟩ : ∃t,_=MF _ t:=q;exact .cons _ tk (jK t p e1)
  | _=>cases e
def qF:lm X "str.join" rZ:=by
 intro J s Y H A S x a u xs vs us w S' I so rx ru rl rv e;cases rx with
 | str=>
  cases rl with
  | nil=>cases e
  | cons r t=>
   cases t with
   | cons _ _=>cases e
   | nil=>
    simp only[rZ]at e;split at e
    ·rename_i ys hy;split at e
     ·rename_i zs hz;split at e
      ·rename_i hl;cases e;obtain⟨p,vs',rfl,hq,r1⟩:=mF (J:=J) (Y:=Y) (s:=s) so r hy;obtain⟨t0,rfl⟩ : ∃t,u=MF _ t:=ru;obtain⟨u1,rfl,ru1⟩:=kX rv;have ru1':u1=Jb p:=ru1;subst ru1';rcases hq with hq|hq
       ·obtain⟨its,rr,pl,hz'⟩:=I.list hq;exact join_list pl.isList (by simpa using jK r1 rr hz) hl λt' k=>#[.str _,H,A,I.tok _,#[_,rfl],.refl,so,.str]
       ·obtain⟨its,rr,pl,hz'⟩:=I.tuple hq;exact join_tuple pl (by simpa using jK r1 rr hz) hl λt' k=>#[.str _,H,A,I.tok _,#[_,rfl],.refl,so,.str]
      ·cases e
     ·cases e
    ·cases e
 | _=>cases e
abbrev fj (S:aa):W->HY IN
 | .non=>ba false
 | .bl b=>ba b
 | .int i=>ba (i != 0)
 | .str y=>if y.length<=sizeLine then ba ((y.length:Ip) != 0)else gV
 | .tup xs=>ba (!xs.isEmpty)
 | .ref i=>(eY S i).map λxs=>!xs.isEmpty
def i9 {ws:HN W}{vs:HN V}(r:RelL X.K A H ws vs):(!ws.isEmpty) = !vs.isEmpty:=by cases r <;> rfl
def Gz {x:W}{a:V}{u:HS}{k:IN}{Q:IN->HV->Prop}(I:Inv X J Y H s)(so:StoreOk X.w X.K A H S)(rx:Rel X.K A H x a)(ru:RelV a u)(e:fj S x=ba k)(hq:∀s',Inv X J Y H s'->Q k s') :
  wpAny (model X.prog X.w) X.A (truthy u) Q X.xe s:=by
 refine bm (Ch J s Y H a u (λb H'=>b=k/\H'=H) I ru #[k,?_,rfl,rfl]) λb s' #[H',I',e1,e2]=>?_
 ·cases rx with
  | non=>cases e; rfl
  | bl=>cases e; rfl
  | int=>cases e; rfl
  | str=>
   simp only[fj]at e;split at e
   ·cases e; exact#[by assumption,rfl]
   ·cases e
  | tup h1 r1=>cases e; exact .inr (.inl #[_,h1,i9 r1])
  | ref ea=>
   simp only[fj,HU]at e;obtain⟨ws,hw,e2⟩:=e;subst e2;obtain⟨vs,h1,r1⟩:=aZ so hw ea;exact .inl #[_,h1,i9 r1]
 ·subst e1 e2;exact hq s' I'
end
abbrev aN (w:Jg):Kb:={ cls:=.type "set",dict:=gV,data:=.set #[] 0 (.fresh 0 0 (!d8 w)) }
section
variable{prog:IZ}{w:Jg}{A:Jd}{E:HS->HV->Prop}{s:HV}{R:PL->HV->Prop}{I:Ic}{fp wr:HN Ic}{G:IM On->IM On->Prop}{n:HZ}{P:HZ->HS->Prop}{St:HZ->HV->Prop}
def nZ (a:HS){Q₁:HS->HV->Prop}(h:Q₁ (.ref s.heap.objs.size) { s with heap:=s.heap.push (aN w) }):codeAny (model prog w) A (.call (.builtin "set.__new__") #[[.type "set",a],[]]) (wants Q₁ E) s:=by
 refine MX ?_;show wpAny _ A.in1 (checkBuiltinCall "set.__new__" #[[.type "set",a],[]] >>= λ_=>again (.builtin "set.__new__" #[[.type "set",a],[]])) _ _ s
 refine HP (Mr (F.newCall_set_1 a) (HW #[Kz F.plain_set_new _,JA F.entry_set_new ?_]));rw[Jy F.plain_set_new _];unfold Lg.«set.__new__» Qx;have hsub:=O3;obtain⟨hp,g,d,tk,os⟩:=s;dsimp only
 wp_walk
 refine Ls (HW ?_);dsimp only;simp only[newObj];exact HP (Ru (HW (HW h)))
end
def fm:Slot "set_iterator" "__next__" "set_iterator.__next__":=.of (owner:="set_iterator") (n:="__next__") (by rw[Qh,Oc]; kernel_rfl) (by decide +kernel) (by decide +kernel) (by decide +kernel) (by first|exact .inl (by decide +kernel)|exact .inr (by decide +kernel)) (by rw[Qy]; kernel_rfl)
def n0:Slot "set_iterator" "__iter__" "set_iterator.__iter__":=.of (owner:="set_iterator") (n:="__iter__") (by rw[Qh,Oc]; kernel_rfl) (by decide +kernel) (by decide +kernel) (by decide +kernel) (by first|exact .inl (by decide +kernel)|exact .inr (by decide +kernel)) (by rw[Qy]; kernel_rfl)
def t9:entryFor table "set_iterator.__next__" = ba Lg.«set_iterator.__next__»:=entryFor_of_tree (by kernel_rfl)
def qG:entryFor table "set.__iter__" = ba Lg.«frozenset.__iter__»:=Qz (id':="frozenset.__iter__") (by kernel_rfl) rfl (by decide +kernel) (by kernel_rfl)
def vR (a:HS):argsOk "set_iterator.__next__" #[[a],[]]:=by unfold argsOk; kernel_rfl
section
variable{α:Type}{prog:IZ}{w:Jg}{A:Jd}{E:HS->HV->Prop}{s:HV}
def uc {src:Source}{n:HZ}{Q:HZ->HV->Prop}(hn:n≠0)(h:∀i dr,i < n->Q i { s with drawn:=dr }):wpAny (model prog w) A (choose src n) Q E s:=λ_ _ _=>#[hn,h _ _ (NX _ (Nat.pos_of_ne_zero hn))]
def gP:∀ {l:HN α} {i:HZ} (h:i < l.length),(l[i]::l.eraseIdx i).Perm l
 | x::l,0,_=>.refl _
 | x::l,i+1,h=>(Sg _ _ _).trans ((gP (l:=l) (i:=i) (by simpa using h)).cons x)
def jL:∀(n:HZ) (xs:HN α) {s:HV} {Q:HN α->HV->Prop},xs.length=n->(∀ys dr,ys.Perm xs->Q ys { s with drawn:=dr })->wpAny (model prog w) A (drawOrder n xs) Q E s
 | 0,xs,s,Q,hl,h=>by
  obtain rfl:=Kc.mp hl;exact HW (h [] s.drawn .nil)
 | n+1,[],s,Q,hl,h=>by cases hl
 | n+1,x::xs,s,Q,hl,h=>by
  unfold drawOrder;refine HP (uc (by simp) λi dr hi=>?_)
  rw[Ig hi];dsimp only;refine HP (jL n _ (by rw[LP hi,hl]; rfl) λys dr' hp=>HW (h _ dr' ?_))
  exact(hp.cons _).trans (gP hi)
def r0 {next:HZ->HZ}:∀(f k:HZ) (lf9:HN α) (out:IM α),f=lf9.length->(pickOrder.go next f k lf9 out).toList.Perm (out.toList++lf9)
 | 0,k,lf9,out,h=>by
  obtain rfl:=Kc.mp h.symm;simp[pickOrder.go]
 | f+1,k,lf9,out,h=>by
  unfold pickOrder.go;have hp:0 < lf9.length:=∅
  have hi:next k % lf9.length < lf9.length:=NX _ hp;rw[Ig hi];dsimp only;refine(r0 f (k+1) _ _ (by rw[LP hi]; omega)).trans ?_
  rw[NC,JO];exact(gP hi).append_left _
def fI {next:HZ->HZ}{xs:IM α}:(pickOrder next xs).toList.Perm xs.toList:=by
 have:=r0 (next:=next) xs.size 0 xs.toList #[] (by simp)
 simpa [pickOrder]using this
abbrev SIt (I:Ic)(f r:HS)(i n ep:HZ)(h:Jk):Prop:=h.get? I=ba { cls:=.type "set_iterator",data:=.fields [f,.int i 0,r,.int n 0,.int ep 0].toArray }
def SIt.type {I:Ic}{f r:HS}{i n ep:HZ}(x:SIt I f r i n ep s.heap):s.TypeIs (.ref I) "set_iterator":=#[_,x,rfl]
def n6 {I:Ic}{Q:HY HS->HV->Prop}{f r:HS}{i n ep:HZ}(x:SIt I f r i n ep s.heap)(h:wpAny (model prog w) A.in1 (Lg.«set_iterator.__next__» #[[.ref I],[]]) (λfin s'=>∃v,fin=.done (.ret v)/\Q (ba v) s') (λe s'=>wpAny (model prog w) A (do if <- isInstance e (.type "StopIteration")then pure gV else throw e) Q E s') s):wpAny (model prog w) A (pyNext (.ref I)) Q E s:=by
 unfold pyNext;refine HP (LH (Jt (name:=Ko "__next__") x.type fm (Jx fm x.type t9 ?_ (vR _))));exact Ks h (λ_ _ #[v,e,q]=>#[v,e,HW q]) λ_ _ q=>q
abbrev Et (prog:IZ)(w:Jg)(A:Jd)(Q:HY HS->HV->Prop)(E:HS->HV->Prop)(e:HS)(s':HV):Prop:=wpAny (model prog w) A (do if <- isInstance e (.type "StopIteration")then pure gV else throw e) Q E s'
def og {Q:HY HS->HV->Prop}{Q2:RY->HV->Prop}(hh:A.handled=gV)(h:∀h',(∀b o,s.heap.get? b=ba o->h'.get? b=ba o)->Q gV { s with heap:=h' }):wpAny (model prog w) A.in1 (newExc (.type "StopIteration") [] >>= λx=>raiseNew x) Q2 (Et prog w A Q E) s:=by
 refine HP ?_;simp only[newExc,newTuple];refine HP (Ji ?_ (by size_fits))
 refine HP (m:=firstArgMember _ _) (Mr (a:=Jn) (by first|rfl|(simp only[firstArgMember]; rfl)) ?_)
 refine Ji ?_ (by size_fits)
 simp only[raiseNew];refine HP (OS ?_);rw[show A.in1.handled=gV from hh]
 refine HP (HW (P9 ?_));refine HP (Lu (T:="StopIteration") (b:=true) #[_,Im _ rfl,rfl] Nh ?_);exact HW (h _ λb o e=>HR _ (HR _ e))
section
variable{I a:Ic}{f r:HS}{i n ep sl:HZ}{o:Kb}{es:IM (Ip×HS)}{t:JH}{Q:HY HS->HV->Prop}
def fJ {Q:R9->HV->Prop}{vs:IM HS}{k:HZ}{v:HS}(x:s.heap.get? I=ba { cls:=.type "set_iterator",data:=.fields vs })(hk:k < vs.size)(h:∀h',h'.get? I=ba { cls:=.type "set_iterator",data:=.fields (vs.setIfInBounds k v) }->Kn I s.heap h'->Q () { s with heap:=h' }):wpAny (model prog w) A (setField (.ref I) k v) Q E s:=K1 x hk h
def fK (x:SIt I (.int sl 0) (.ref a) i n ep s.heap)(ho:s.heap.get? a=ba o)(hd:o.data=.set es ep t)(hf:t.fits es.size=true)(hn:es.size=n)(hh:A.handled=gV){rs:HY (HS×HZ)}
  (hx:∀Q':HY (HS×HZ)->HV->Prop,Q' rs s->wpAny (model prog w) A.in1 (setNext a sl i ep) Q' (Et prog w A Q E) s)
  (h1:∀v sl',rs=ba (v,sl')->∀h',SIt I (.int sl' 0) (.ref a) (i+1) n ep h'->(∀b o,b≠I->s.heap.get? b=ba o->h'.get? b=ba o)->Q (ba v) { s with heap:=h' })
  (h2:rs=gV->∀h',(∀b o,b≠I->s.heap.get? b=ba o->h'.get? b=ba o)->Q gV { s with heap:=h' }):wpAny (model prog w) A (pyNext (.ref I)) Q E s:=by
 refine n6 x ?_;refine HP (HW ?_);show wpAny _ _ (fieldsOf (.ref I) >>= _) _ _ s;refine HP (Ni x rfl ?_);refine HP (M2 ho hd hf ?_);rw[IP (by simp[hn])]
 refine HP (hx _ ?_);cases rs with
 | some p=>
  obtain⟨v,sl'⟩:=p;dsimp only;refine HP (fJ x (by simp) λh' x' sb'=>?_)
  refine HP (fJ x' (by simp) λh2 x2 sb2=>?_)
  refine HW #[v,rfl,h1 v sl' rfl h2 ?_ λb o hb e=>?_]
  ·simpa [SIt,rawInt]using x2
  ·rw[sb2.2 b hb,sb'.2 b hb]; exact e
 | none=>
  dsimp only;refine HP (fJ x (by simp) λh' x' sb'=>?_)
  refine og hh λh'' k=>h2 rfl h'' λb o hb e=>k b o (by rw[sb'.2 b hb]; exact e)
def ln {tp:Ic}{ps:HN HZ}(x:SIt I (.ref tp) (.ref a) i n ep s.heap)(ho:s.heap.get? a=ba o)(hd:o.data=.set es ep t)(hf:t.fits es.size=true)(hn:es.size=n)(hh:A.handled=gV)
  (ht:s.heap.get? tp=ba { cls:=.type "tuple",data:=.seq (ps.map λk=>rawInt (k:HZ)).toArray 0 })
  (h1:∀p e,ps[i]?=ba p->es[p]?=ba e->∀h',SIt I (.ref tp) (.ref a) (i+1) n ep h'->(∀b o,b≠I->s.heap.get? b=ba o->h'.get? b=ba o)->Q (ba e.2) { s with heap:=h' })
  (hp:∀p,ps[i]?=ba p->∃e,es[p]?=ba e)
  (h2:ps[i]?=gV->∀h',(∀b o,b≠I->s.heap.get? b=ba o->h'.get? b=ba o)->Q gV { s with heap:=h' }):wpAny (model prog w) A (pyNext (.ref I)) Q E s:=by
 refine n6 x ?_;refine HP (HW ?_);show wpAny _ _ (fieldsOf (.ref I) >>= _) _ _ s;refine HP (Ni x rfl ?_);refine HP (M2 ho hd hf ?_);rw[IP (by simp[hn])]
 refine HP (J1 ht rfl ?_);dsimp only;have hg:(ps.map λk=>rawInt (k:HZ)).toArray[(i:Ip).toNat]?=(ps[i]?).map λk=>rawInt (k:HZ):=by simp
 rw[hg];cases q:ps[i]? with
 | some p=>
  obtain⟨e,he⟩:=hp p q;show wpAny _ _ (setNextDrawn a (p:Ip).toNat (ep:Ip).toNat >>= _) _ _ s;unfold setNextDrawn;refine HP (HP (JP ho hd hf ?_));dsimp only;rw[IP (by simp)]
  simp only[IB,he];refine HW ?_;refine HP (fJ x (by simp) λh' x' sb'=>?_)
  refine HW #[e.2,rfl,h1 p e q he h' ?_ λb o hb z=>?_]
  ·simpa [SIt,rawInt]using x'
  ·rw[sb'.2 b hb]; exact z
 | none=>
  dsimp only[Option.map_none];refine HP (fJ x (by simp) λh' x' sb'=>?_)
  refine HP (fJ x' (by simp) λh3 x3 sb3=>?_)
  refine og hh λh'' k=>h2 q h'' λb o hb e=>k b o (by rw[sb3.2 b hb,sb'.2 b hb]; exact e)
def lp {E:HS->HV->Prop}{Q:HY (HS×HZ)->HV->Prop}(ho:s.heap.get? a=ba o)(hd:o.data=.set es ep t)(hf:t.fits es.size=true)(hb:d8 w=true)(h:Q ((((pickOrder (w.params.setOrder a ep) es).toList.map (·.2))[i]?).map λv=>(v,sl)) s):wpAny (model prog w) A (setNext a sl i ep) Q E s:=by
 unfold setNext;refine HP (JP ho hd hf ?_);dsimp only;have ask1:∀ {Q:IN->HV->Prop},Q true s->wpAny (model prog w) A setsByText Q E s:=λ{Q} hq=>by
  unfold setsByText;refine HP (Ls (HW ?_));show Q (d8 w) s;rw[hb]; exact hq
 refine HP (ask1 ?_);rw[IF rfl,IP (by simp)]
 refine HP ?_;unfold setWalk;refine HP (JP ho hd hf ?_);dsimp only;refine HP (ask1 ?_);rw[IF rfl];refine HP (Ls (HW (HW ?_)));have e:(((pickOrder (w.params.setOrder a ep) es)[i]?).map λe=>(e.2,sl))=((((pickOrder (w.params.setOrder a ep) es).toList.map (·.2))[i]?).map λv=>(v,sl)):=by
  rw[Ii,JF,QA]; rfl
 show Q (((pickOrder (w.params.setOrder a ep) es)[i]?).map λe=>(e.2,sl)) s
 rw[e]; exact h
def oh {E:HS->HV->Prop}{Q:HY (HS×HZ)->HV->Prop}(ho:s.heap.get? a=ba o)(hd:o.data=.set es ep t)(hf:t.fits es.size=true)(hb:d8 w=false)(hl:t.led=true)(h1:es.size<=1)(hi:i=0/\sl=0\/i=es.size/\sl=(t.place.getD 0 0)+1)
  (h:Q (((es.toList.map (·.2))[i]?).map λv=>(v,t.place.getD 0 0+1)) s):wpAny (model prog w) A (setNext a sl i ep) Q E s:=by
 unfold setNext;refine HP (JP ho hd hf ?_);dsimp only;have ask1:∀ {Q:IN->HV->Prop},Q false s->wpAny (model prog w) A setsByText Q E s:=λ{Q} hq=>by
  unfold setsByText;refine HP (Ls (HW ?_));show Q (d8 w) s;rw[hb]; exact hq
 refine HP (ask1 ?_);rw[IP IE];refine LD (λhc=>absurd hc (by show ¬ ((!t.plain&&decide (es.size > 1))=true); simp; omega)) (λ_=>?_)
 refine HP ?_;show wpAny _ _ (if (!t.led && !es.isEmpty)=true then unsupported "set:maker-not-led" else pure ()) _ _ s
 rw[IP (by simp[hl])]
 refine HW (HW ?_);obtain⟨es⟩:=es;obtain⟨mk,pl,dm,fg,ld,mv,pn⟩:=t;obtain⟨pl⟩:=pl;simp only[QS,HX,QC]at hf
 match es,pl,hf.1,h1 with
 | [],[],_,_=>
  have:i=0:=by rcases hi with z|z <;> simpa using z.1
  subst this;exact h
 | [e],[j],_,_=>
  rcases hi with⟨rfl,rfl⟩|⟨rfl,rfl⟩
  ·exact h
  ·have e1:Lr [j].toArray (j+1)=1:=by
    show Pq [j].toArray (j+1) 1 0 1=1;simp[Pq]
   have e2:(({ mask:=mk,place:=[j].toArray,dummies:=dm,finger:=fg,led:=ld,moves:=mv,plain:=pn }:JH).place.getD 0 0)=j:=rfl;show Q (match ([e].toArray:IM (Ip×HS))[Lr [j].toArray (j+1)]?,([j].toArray:IM HZ)[Lr [j].toArray (j+1)]? with|some (_,x),ba j=>ba (x,j+1)|_,_=>gV) s
   rw[e1];exact h
 | e::e'::es,_,_,z=>simp at z
 | [],_::_,z,_=>simp at z
 | [_],[],z,_=>simp at z
 | [_],_::_::_,z,_=>simp at z
def jM {E:HS->HV->Prop}{Q:HY (HS×HZ)->HV->Prop}(ho:s.heap.get? a=ba o)(hd:o.data=.set es ep t)(hf:t.fits es.size=true)(hb:d8 w=false)(hl:t.led=true)(hp:t.plain=true)(hw:Lr t.place sl=i)
  (h:Q (((es.toList.map (·.2))[i]?).map λv=>(v,t.place.getD i 0+1)) s):wpAny (model prog w) A (setNext a sl i ep) Q E s:=by
 unfold setNext;refine HP (JP ho hd hf ?_);dsimp only;have ask1:∀ {Q:IN->HV->Prop},Q false s->wpAny (model prog w) A setsByText Q E s:=λ{Q} hq=>by
  unfold setsByText;refine HP (Ls (HW ?_));show Q (d8 w) s;rw[hb]; exact hq
 refine HP (ask1 ?_);rw[IP IE];refine LD (λhc=>absurd hc (by show ¬ ((!t.plain&&decide (es.size > 1))=true); simp[hp])) (λ_=>?_)
 refine HP ?_;show wpAny _ _ (if (!t.led && !es.isEmpty)=true then unsupported "set:maker-not-led" else pure ()) _ _ s
 rw[IP (by simp[hl])]
 refine HW (HW ?_);rw[hw];have hz:t.place.size=es.size:=by
  simp only[QS,HX,QC]at hf;exact hf.1
 rw[Ii,JF]at h
 by_cases hi:i < es.size
 ·have e1:es[i]?=ba es[i]:=by simp[hi]
  have e2:t.place[i]?=ba (t.place.getD i 0):=by simp[Mn,hz,hi]
  rw[e1]at h ⊢;rw[e2];exact h
 ·have e1:es[i]?=gV:=by simp; omega
  rw[e1]at h ⊢;exact h
end
end
def ud:entryFor table "set_iterator.__iter__" = ba Lg.«dict_keyiterator.__iter__»:=Qz (id':="dict_keyiterator.__iter__") (by kernel_rfl) rfl (by decide +kernel) (by kernel_rfl)
def vS (a:HS):argsOk "set_iterator.__iter__" #[[a],[]]:=by unfold argsOk; kernel_rfl
section
variable{prog:IZ}{w:Jg}{A:Jd}{E:HS->HV->Prop}{s:HV}{I a tp:Ic}{f r:HS}{i n ep sl:HZ}{o:Kb}{es:IM (Ip×HS)}{t:JH}
def gQ {Q:HS->HV->Prop}(x:SIt I f r i n ep s.heap)(h:Q (.ref I) s):wpAny (model prog w) A (pyIter (.ref I)) Q E s:=by
 refine ND x.type n0 (Jx n0 x.type ud ?_ (vS _));show wpAny _ _ (ret (.ref I)) _ _ s;exact HW #[_,rfl,"set_iterator",_,x.type,fm.lookup,h]
def ol {b x y:Ic}(h:b∉[x]):b≠x:=λz=>h (by simp[z])
def qH (hh:A.handled=gV)(hne:a≠I)(hd:o.data=.set es ep t)(hf:t.fits es.size=true)(hb:d8 w=true) :
  Qa prog w A I [I,a] [I] es.size (λi v=>((pickOrder (w.params.setOrder a ep) es).toList.map (·.2))[i]?=ba v) (λi h=>SIt I (.int 0 0) (.ref a) i es.size ep h/\h.get? a=ba o) where
 sub:=λb hb=>by simp at hb; simp[hb]
 frame:=λ_ _ _ st hk=>#[hk I (by simp) _ st.1,hk a (by simp) _ st.2]
 item:=λi s Q E hi st hQ=>by
  have hl:((pickOrder (w.params.setOrder a ep) es).toList.map (·.2)).length=es.size:=by rw[HQ,fI.length_eq,Iw]
  refine fK (sl:=0) st.1 st.2 hd hf rfl hh (λQ' hq=>lp st.2 hd hf hb hq) (λv sl' e h' x' k=>?_) λe h' k=>?_
  ·obtain⟨v',q,e⟩:=HU.mp e;cases e;exact hQ v h' s.toks q #[x',k a _ hne st.2] λb o hb e=>k b o (ol (y:=b) hb) e
  ·rw[My,Js]at e;omega
 done:=λs Q E st hQ=>by
  have hl:((pickOrder (w.params.setOrder a ep) es).toList.map (·.2)).length=es.size:=by rw[HQ,fI.length_eq,Iw]
  refine fK (sl:=0) st.1 st.2 hd hf rfl hh (λQ' hq=>lp st.2 hd hf hb hq) (λv sl' e h' x' k=>?_) λe h' k=>hQ h' s.toks λb o hb e=>k b o (ol (y:=b) hb) e
  obtain⟨v',q,e⟩:=HU.mp e;have:=(Il.mp q).1;omega
 self:=λ_ _ _ _ st hQ=>gQ st.1 hQ
def ue (hh:A.handled=gV)(hne:a≠I)(hd:o.data=.set es ep t)(hf:t.fits es.size=true)(hb:d8 w=false)(hl:t.led=true)(h1:es.size<=1) :
  Qa prog w A I [I,a] [I] es.size (λi v=>(es.toList.map (·.2))[i]?=ba v) (λi h=>SIt I (.int ((if i=0 then 0 else t.place.getD 0 0+1:HZ):Ip) 0) (.ref a) i es.size ep h/\h.get? a=ba o) where
 sub:=λb hb=>by simp at hb; simp[hb]
 frame:=λ_ _ _ st hk=>#[hk I (by simp) _ st.1,hk a (by simp) _ st.2]
 item:=λi s Q E hi st hQ=>by
  have i0:i=0:=∅
  subst i0;refine fK st.1 st.2 hd hf rfl hh (λQ' hq=>oh st.2 hd hf hb hl h1 (.inl #[rfl,rfl]) hq) (λv sl' e h' x' k=>?_) λe h' k=>?_
  ·obtain⟨v',q,e⟩:=HU.mp e;cases e;exact hQ v h' s.toks q #[x',k a _ hne st.2] λb o hb e=>k b o (ol (y:=b) hb) e
  ·rw[My,Js,HQ,Iw]at e;omega
 done:=λs Q E st hQ=>by
  refine fK st.1 st.2 hd hf rfl hh (λQ' hq=>oh st.2 hd hf hb hl h1 ?_ hq) (λv sl' e h' x' k=>?_) λe h' k=>hQ h' s.toks λb o hb e=>k b o (ol (y:=b) hb) e
  ·by_cases h0:es.size=0
   ·exact .inl #[h0,by rw[IF h0]]
   ·exact .inr #[rfl,by rw[IP h0]]
  ·obtain⟨v',q,e⟩:=HU.mp e;have:=(Il.mp q).1;rw[HQ,Iw]at this;omega
 self:=λ_ _ _ _ st hQ=>gQ st.1 hQ
def om (hh:A.handled=gV)(hne:a≠I)(hd:o.data=.set es ep t)(hf:t.fits es.size=true)(hb:d8 w=false)(hl:t.led=true)(hp:t.plain=true)(hw:eJ t es.size=true) :
  Qa prog w A I [I,a] [I] es.size (λi v=>(es.toList.map (·.2))[i]?=ba v) (λi h=>SIt I (.int ((if i=0 then 0 else t.place.getD (i - 1) 0+1:HZ):Ip) 0) (.ref a) i es.size ep h/\h.get? a=ba o):=by
 have go:∀i,i<=es.size->Lr t.place (if i=0 then 0 else t.place.getD (i - 1) 0+1)=i:=λi hi=>by
  simp only[eJ,HX,Ix,IG,IR]at hw
  by_cases h0:i=0
  ·rw[IF h0,h0]; exact hw.1
  ·rw[IP h0,hw.2 (i - 1) ∅]; omega
 exact {
  sub:=λb hb=>by simp at hb; simp[hb]
  frame:=λ_ _ _ st hk=>#[hk I (by simp) _ st.1,hk a (by simp) _ st.2]
  item:=λi s Q E hi st hQ=>by
   refine fK st.1 st.2 hd hf rfl hh (λQ' hq=>jM st.2 hd hf hb hl hp (go i ∅) hq) (λv sl' e h' x' k=>?_) λe h' k=>?_
   ·obtain⟨v',q,e⟩:=HU.mp e;cases e;exact hQ v h' s.toks q #[by rw[IP (PU i)]; exact x',k a _ hne st.2] λb o hb e=>k b o (ol (y:=b) hb) e
   ·rw[My,Js,HQ,Iw]at e;omega
  done:=λs Q E st hQ=>by
   refine fK st.1 st.2 hd hf rfl hh (λQ' hq=>jM st.2 hd hf hb hl hp (go _ (Ih _)) hq) (λv sl' e h' x' k=>?_) λe h' k=>hQ h' s.toks λb o hb e=>k b o (ol (y:=b) hb) e
   obtain⟨v',q,e⟩:=HU.mp e;have:=(Il.mp q).1;rw[HQ,Iw]at this;omega
  self:=λ_ _ _ _ st hQ=>gQ st.1 hQ }
def on {ps:HN HZ}(hh:A.handled=gV)(hne:a≠I)(hnt:tp≠I)(hd:o.data=.set es ep t)(hf:t.fits es.size=true)(hp:ps.Perm (ID es.size)) :
  Qa prog w A I [I,a,tp] [I] es.size (λi v=>(ps.map λp=>(es.getD p (0,.none)).2)[i]?=ba v) (λi h=>SIt I (.ref tp) (.ref a) i es.size ep h/\h.get? a=ba o/\h.get? tp=ba { cls:=.type "tuple",data:=.seq (ps.map λk=>rawInt (k:HZ)).toArray 0 }) where
 sub:=λb hb=>by simp at hb; simp[hb]
 frame:=λ_ _ _ st hk=>#[hk I (by simp) _ st.1,hk a (by simp) _ st.2.1,hk tp (by simp) _ st.2.2]
 item:=λi s Q E hi st hQ=>by
  have lt:∀ {p},ps[i]?=ba p->p < es.size:=λq=>IR.mp (hp.mem_iff.mp (Ir q))
  refine ln st.1 st.2.1 hd hf rfl hh st.2.2 (λp e q qe h' x' k=>?_) (λp q=>#[es[p]'(lt q),by simp[lt q]]) λe h' k=>?_
  ·refine hQ e.2 h' s.toks ?_ #[x',k a _ hne st.2.1,k tp _ hnt st.2.2] λb o hb e=>k b o (ol (y:=b) hb) e
   rw[Ii,q];simp[Mn,lt q];rw[KG (lt q)]at qe;cases qe; rfl
  ·rw[Js,hp.length_eq,IV]at e;omega
 done:=λs Q E st hQ=>by
  refine ln st.1 st.2.1 hd hf rfl hh st.2.2 (λp e q qe h' x' k=>?_) (λp q=>?_) λe h' k=>hQ h' s.toks λb o hb e=>k b o (ol (y:=b) hb) e
  ·have:=(Il.mp q).1;rw[hp.length_eq,IV]at this;omega
  ·have:=(Il.mp q).1;rw[hp.length_eq,IV]at this;omega
 self:=λ_ _ _ _ st hQ=>gQ st.1 hQ
end
section
variable{prog:IZ}{w:Jg}{A:Jd}{E:HS->HV->Prop}{s:HV}{a:Ic}{o:Kb}{xs:HN IH}{es:IM (Ip×HS)}{ep:HZ}{t:JH}
structure SetWalk (prog:IZ)(w:Jg)(A:Jd)(s:HV)(a:Ic)(es:IM (Ip×HS))(I:Ic)(h':Jk):Prop where
 ex:∃(fp:HN Ic) (St:HZ->Jk->Prop) (us:HN HS) (n:HZ),us.Perm (es.toList.map (·.2))/\us.length=n/\Qa prog w A I fp [I] n (λi v=>us[i]?=ba v) St/\St 0 h'/\∀b∈fp,b=a\/s.heap.objs.size<=b/\b < h'.objs.size
 new:s.heap.objs.size<=I
 keep:∀b u,s.heap.get? b=ba u->h'.get? b=ba u
def vT {Q:HS->HV->Prop}(hh:A.handled=gV)(ho:s.heap.get? a=ba o)(hex:o.ExactSet)(hd:o.data=.set es ep t)(hz:es.size<=sizeLine)(fit:t.fits es.size=true)(led:t.led = !d8 w)(pl:t.plain=true->es.size=0\/eJ t es.size=true)(h:∀I h' dr,SetWalk prog w A s a es I h'->Q (.ref I) { s with heap:=h',drawn:=dr }):wpAny (model prog w) A (pyIter (.ref a)) Q E s:=by
 have hT:s.TypeIs (.ref a) "set":=#[o,ho,hex.1];have ha:a < s.heap.objs.size:=Iv ho;refine ND hT F.slot_set_iter (Jx F.slot_set_iter hT qG ?_ (F.args_set_iter_1 _));unfold Lg.«frozenset.__iter__»;refine HP (HP (HW ?_));show wpAny _ _ (pure a) _ _ s;refine HW ?_;unfold QT setDrawn;refine HP (HP (M2 ho hd fit (HW ?_)));refine HP (HP (JP ho hd fit ?_));dsimp only;unfold setsByText;refine HP (HP (Ls (HW (HW ?_))));have oI:∀(f:HS) (h0:Jk),(h0.push { cls:=.type "set_iterator",data:=.fields [f,rawInt 0,.ref a,rawInt es.size,rawInt ep].toArray }).get? h0.objs.size=ba { cls:=.type "set_iterator",data:=.fields [f,rawInt 0,.ref a,rawInt es.size,rawInt ep].toArray }:=λf h0=>Im _ rfl
 refine LD (λhc=>?_) (λhc=>?_)
 ·refine HP (jL es.size _ IV λps dr hp=>?_)
  refine HP (Nj ?_ (by rw[HQ,hp.length_eq,IV]; exact hz))
  have o1:=HR (seqObj "tuple" (ps.map λk=>rawInt (k:HZ)).toArray 0) ho
  refine HP (Pr o1 hd fit ?_);refine HP (Ji (HW #[_,rfl,"set_iterator",_,#[_,oI _ _,rfl],fm.lookup,?_]));have z1:(s.heap.push (seqObj "tuple" (ps.map λk=>rawInt (k:HZ)).toArray 0)).objs.size=s.heap.objs.size+1:=J2 ..
  have W:=on (prog:=prog) (w:=w) (A:=A) (a:=a) (I:=(s.heap.push (seqObj "tuple" (ps.map λk=>rawInt (k:HZ)).toArray 0)).objs.size) (tp:=s.heap.objs.size) (ps:=ps) hh (by rw[z1]; exact IA (KA ha)) (by rw[z1]; exact IA (J4 _)) hd fit hp
  have eL:(ps.map λp=>(es.getD p (0,Jn)).2).length=es.size:=by rw[HQ,hp.length_eq,IV]
  refine h _ _ dr #[#[_,_,ps.map λp=>(es.getD p (0,Jn)).2,_,?_,eL,W,#[oI _ _,HR _ o1,HR _ (Im _ rfl)],λb hb=>?_],by rw[z1]; exact Lf _,λb u e=>HR _ (HR _ e)]
  ·refine(hp.map _).trans ?_;have e:((ID es.size).map λp=>(es.getD p (0,Jn)).2)=es.toList.map λe=>e.2:=by
    apply Lv
    ·simp
    ·intro k h1 h2;simp only[HQ,IV]at h1;simp[Mn,h1]
   rw[e]
  ·rw[J2,z1];simp only[IC,Jc,Kf]at hb;rcases hb with rfl|rfl|rfl
   ·exact .inr #[by rw[z1]; exact Lf _,by rw[z1]; exact J4 _]
   ·exact .inl rfl
   ·exact .inr #[Ih _,KA (J4 _)]
 ·refine HP (HW (HP (Pr ho hd fit ?_)));refine HP (Ji (HW #[_,rfl,"set_iterator",_,#[_,oI _ _,rfl],fm.lookup,?_]));have near:∀b∈[s.heap.objs.size,a],b=a\/s.heap.objs.size<=b/\b < (s.heap.push { cls:=.type "set_iterator",data:=.fields [rawInt 0,rawInt 0,.ref a,rawInt es.size,rawInt ep].toArray }).objs.size:=λb hb=>by
   rw[J2];simp only[IC,Jc,Kf]at hb;rcases hb with rfl|rfl
   ·exact .inr #[Ih _,J4 _]
   ·exact .inl rfl
  cases hb:d8 w with
  | true=>
   have W:=qH (prog:=prog) (A:=A) (I:=s.heap.objs.size) hh (IA ha) hd fit hb;have eL:((pickOrder (w.params.setOrder a ep) es).toList.map (·.2)).length=es.size:=by rw[HQ,fI.length_eq,Iw]
   refine h _ _ s.drawn #[#[[s.heap.objs.size,a],_,(pickOrder (w.params.setOrder a ep) es).toList.map (·.2),_,fI.map _,eL,W,#[oI _ _,HR _ ho],near],Ih _,λb u e=>HR _ e]
  | false=>
   have hl:t.led=true:=by rw[led,hb]; rfl
   have eL:(es.toList.map (·.2)).length=es.size:=by rw[HQ,Iw]
   by_cases hpw:t.plain=true/\eJ t es.size=true
   ·have W:=om (prog:=prog) (A:=A) (I:=s.heap.objs.size) hh (IA ha) hd fit hb hl hpw.1 hpw.2;refine h _ _ s.drawn #[#[[s.heap.objs.size,a],_,es.toList.map (·.2),_,.refl _,eL,W,#[oI _ _,HR _ ho],near],Ih _,λb u e=>HR _ e]
   have h1:es.size<=1:=by
    cases hp:t.plain with
    | true=>
     rcases pl hp with z|z
     ·rw[z]; exact JS _
     ·exact absurd #[hp,z] hpw
    | false=>
     refine PR λz=>hc ?_
     show((!d8 w)&&((!t.plain)&&decide (es.size > 1)))=true;rw[hb,hp]
     simpa using z
   have W:=ue (prog:=prog) (A:=A) (I:=s.heap.objs.size) hh (IA ha) hd fit hb hl h1;refine h _ _ s.drawn #[#[[s.heap.objs.size,a],_,es.toList.map (·.2),_,.refl _,eL,W,#[oI _ _,HR _ ho],near],Ih _,λb u e=>HR _ e]
def vU {Q:IN->HV->Prop}(hT:s.TypeIs (.ref a) "set")(h:Q false s):wpAny (model prog w) A (M5 (.ref a)) Q E s:=by
 unfold M5;refine HP (N6 hT F.slot_set_len.lookup ?_);generalize hid:("set.__len__" : JX)=k0
 wp_delta
 rw[show splitId k0=ba ("set","__len__")from by subst hid; decide +kernel]
 subst hid;refine HP (Lu (T:="set") (b:=true) hT O3 ?_);refine LD (λz=>absurd z #v[]) (λ_=>LD (λ_=>?_) (λz=>absurd (by decide +kernel) z))
 exact HP (LB hT (HW h))
def oo {Q:HN HS->HV->Prop}(hh:A.handled=gV)(ho:s.heap.get? a=ba o)(hex:o.ExactSet)(hd:o.data=.set es ep t)(hz:es.size<=sizeLine)(fit:t.fits es.size=true)(led:t.led = !d8 w)(pl:t.plain=true->es.size=0\/eJ t es.size=true)
  (hQ:∀h' tk dr us,(∀b u,s.heap.get? b=ba u->h'.get? b=ba u)->s.heap.objs.size<=h'.objs.size->us.Perm (es.toList.map (·.2))->Q us { s with heap:=h',toks:=tk,drawn:=dr }):wpAny (model prog w) A (collect (.ref a)) Q E s:=by
 have ha:a < s.heap.objs.size:=Iv ho;unfold collect;refine HP (LQ (JA F.entry_proto_collect ?_));rw[Jy F.plain_proto_collect _];show wpAny _ A.in1 (newList [] >>= λl=>again (.builtin "list.__iadd__" #[[l,.ref a],[]])) _ _ s
 refine HP (Ji ?_);have oL:(s.heap.push { cls:=.type "list",data:=.seq ([]:HN HS).toArray }).get? s.heap.objs.size=ba { cls:=.type "list",data:=.seq #[] 0 }:=Im _ rfl;have o1:=HR { cls:=.type "list",data:=.seq ([]:HN HS).toArray } ho;have z1:(s.heap.push { cls:=.type "list",data:=.seq ([]:HN HS).toArray }).objs.size=s.heap.objs.size+1:=J2 ..;refine HW #[Kz F.plain_list_iadd _,JA F.entry_list_iadd ?_];rw[Jy F.plain_list_iadd _];show wpAny _ A.in1 (J8 (.ref s.heap.objs.size) (.ref a) (.ref s.heap.objs.size)) _ _ _;unfold J8;refine HP (LB (T:="set") #[o,o1,hex.1] ?_);have n1:NJ (.ref s.heap.objs.size) (.ref a)=false:=by
  have:s.heap.objs.size≠a:=JY ha;simp[NJ,this]
 have n2:(J5 "set" == J5 "list")=false:=by decide
 have n3:(J5 "set" == J5 "tuple")=false:=by decide
 simp only[n1,n2,n3,OR,IK,JK];refine HP (vT (A:=A.in1) (by simp[hh]) o1 hex hd hz fit led pl λI h' dr W=>?_)
 obtain⟨⟨fp,St,us,n,hP,hn,W,st,hfp⟩,hI,kp⟩:=W;rw[z1]at hI;have oa:=kp a o o1;refine HP (JB (vU #[o,oa,hex.1] ?_));have oL1:=kp _ _ oL;have hD:s.heap.objs.size∉fp:=λz=>by
  rcases hfp _ z with e|⟨e,_⟩
  ·exact JY ha e
  ·rw[z1]at e; exact Nat.not_succ_le_self _ e
 refine LD (λ_=>?_) (λz=>absurd (by decide +kernel) z)
 refine HP (Na (HP ?_));show wpAny _ _ (updateSeq s.heap.objs.size (·.push .none) >>= λ_=>updateSeq s.heap.objs.size (·.pop)) _ _ _
 refine HP (Ml oL1 rfl ?_);have oL2:=J6 (JZ (·.push Jn)) oL1 rfl
 refine Ml (hz:=by seq_fits) oL2 rfl ?_
 have oL3:=J6 (JZ (·.pop)) oL2 rfl
 have hnl:n<=sizeLine:=by rw[<- hn,hP.length_eq,HQ,Iw]; exact hz
 refine HW #[Kz PySem.F.plain_extend_loop _,codeAny_extend_loopS W.toS hnl s.heap.objs.size hD (.ref s.heap.objs.size) n 0 _ #[] _ rfl (JS _) (W.frame 0 _ _ st λb hb u e=>?_) oL3 (ItemsOf.nil _) λs' acc c' mv oS hacc=>?_]
 ·have hb':b≠s.heap.objs.size:=λz=>hD (z ▸ hb)
  exact(Jl _ _ (Ne.symm hb')).trans ((Jl _ _ (Ne.symm hb')).trans e)
 ·rw[OT mv];show wpAny (model prog w) A (do
    let o <- load s.heap.objs.size
    match o.data with
    | .seq xs _=>pure xs.toList
    | _=>unsupported "internal:collect") Q E _
  refine HP (NU oS (HW ?_));have eU:acc.toList=us:=by
   apply NE;intro i
   by_cases hi:i < n
   ·have h1:i < acc.size:=by rw[hacc.1]; exact hi
    have:=hacc.2 i acc[i] (by simp[h1])
    rw[this,JF]; simp[h1]
   ·rw[LI (by rw[Iw,hacc.1]; omega),LI ∅]
  rw[eU];refine hQ _ _ dr us (λb u e=>?_) (LY (Iv oS)) hP
  have hb:=Iv e;have hb':b≠s.heap.objs.size:=IA hb;refine mv.heap b u (λz=>?_) ((Jl _ _ (Ne.symm hb')).trans ((Jl _ _ (Ne.symm hb')).trans (kp b u (HR _ e))))
  simp only[IC,Jc,Kf]at z;rcases z with z|z
  ·exact hb' z
  ·rw[z]at hb; exact J3 _ (IQ (KA hb) hI)
end
abbrev vV (S:aa)(i:HZ):HY (Ip×Ip):=match S[i]? with
 | some (.rng lo hi)=>ba (lo,hi)
 | _=>gV
abbrev mJ (xs:HN W)(S:aa):HY (W×aa):=match xs with
 | [.int j]=>if -(2 ^ 62)<=j/\j < 2 ^ 62 then ba (.ref S.length,S++[.rng 0 j])else gV
 | _=>gV
abbrev zI (lo:Ip)(n:HZ):HN W:=(ID n).map λ(k:HZ)=>.int (lo+(k:Ip))
abbrev ja (xs:HN W)(S:aa):HY (W×aa):=match xs with
 | [.ref i]=>match vV S i with
  | some (lo,hi)=>if -(2 ^ 62)<=lo/\lo < 2 ^ 62/\-(2 ^ 62)<=hi/\hi < 2 ^ 62/\(hi - lo).toNat<=sizeLine then ba (.ref S.length,S++[.lst (zI lo (hi - lo).toNat)])else gV
  | none=>gM [.ref i] S
 | xs=>gM xs S
section
variable{X:Cx}{J:HN (Ic×Kb)}{Y:L2.St}{H:Hp}{s:HV}{A:HN Ic}{S:aa}
def Inv.drawn (I:Inv X J Y H s)(d:R7):Inv X J Y H { s with drawn:=d }:=#[I.ok,I.os,I.bare,I.base,I.loc,I.cell,I.free,I.freeC,I.pin,I.hok,I.len]
def fq {h':Jk}{tk:HZ}{dr:R7}{D:Ic}{n:O}{u:HO}(I:Inv X J Y H s)(so:StoreOk X.w X.K A H S)(hk:∀b o,s.heap.get? b=ba o->h'.get? b=ba o)(hD:s.heap.objs.size<=D)(new:ObjOk X.prog X.w (bh H D u) h' D u)
  (r:H D=gV->ObjRel X.w X.K (A++[D]) (bh H D u) D n):di X J Y A H (S++[n]) (.ref S.length) (.ref D) { s with heap:=h',toks:=tk,drawn:=dr }:=by
 have hn:H D=gV:=I.hok.fresh hD;refine#[.ref D,_,A++[D],Mi.Inv.drawn (I.laid (a:=D) (o:=u) (t':=tk) hk hD new) dr,rfl,cp hn,so.pushO hn (r hn),.ref ?_];rw[<- so.len]; simp
def mK:∀ {vs:HN V} {us:HN HS},vs.length=us.length->(∀(i:HZ) v u,vs[i]?=ba v->us[i]?=ba u->L2.RelV v u)->Vals vs us
 | [],[],_,_=>.nil
 | v::vs,u::us,hl,h=>.cons (h 0 v u rfl rfl) (mK (by simpa using hl) λi v u a b=>h (i+1) v u (by simpa using a) (by simpa using b))
 | [],_::_,hl,_=>by cases hl
 | _::_,[],hl,_=>by cases hl
def mL {K:Ij}{lo:Ip}:∀(l:HN HZ),RelL K A H (l.map λ(k:HZ)=>W.int (lo+(k:Ip))) (l.map λ(k:HZ)=>V.int (lo+(k:Ip)))
 | []=>.nil
 | _::l=>.cons .int (mL l)
def gR {xs:HN W}{vs:HN V}{us:HN HS}{i:HZ}(rl:RelL X.K A H [.ref i] vs)(rv:Vals vs us):∃a,A[i]?=ba a/\us=[.ref a]:=by
 cases rl with
 | cons r t=>
  cases t;cases r with
  | @ref _ a ea=>
   cases rv with
   | cons ru rv=>
    cases rv;obtain rfl:_=Jb a:=ru;exact#[a,ea,rfl]
def oq:LCall X (.type "range") mJ:=by
 intro J s Y H A S xs vs us w S' I so rl rv e;unfold mJ at e;split at e
 ·rename_i j;split at e
  ·rename_i hb;cases e;cases rl with
   | cons r t=>
    cases t;cases r;cases rv with
    | cons ru rv=>
     cases rv;obtain⟨tk,rfl⟩:=ru;exact Re (fq (dr:=s.drawn) (u:=.rng 0 j) I so (λb o e=>HR _ e) (Ih _) #[_,_,_,Im _ rfl] λ_=>aF)
  ·cases e
 ·cases e
def ou (hh:X.A.handled=gV):LCall X (.type "list") ja:=by
 intro J s Y H A S xs vs us w S' I so rl rv e;unfold ja at e;split at e
 ·rename_i i;split at e
  ·rename_i lo hi hr;split at e
   ·rename_i hb;cases e;obtain⟨a,ea,rfl⟩:=gR (xs:=[]) rl rv;obtain⟨b1,b2,b3,b4,b5⟩:=hb;have hH:H a=ba (.rng lo hi):=by
     unfold vV at hr;split at hr
     ·rename_i hx; cases hr; exact so.obj i _ a hx ea
     ·cases hr
    obtain⟨t,u,v,ho⟩:=I.hok a _ hH;have hn:Kw lo hi 1=((hi - lo).toNat:HZ):=by rw[OP]; split <;> omega
    refine call_list_range hh ho (Q9 b1 b2 b3 b4) hn b5 λh' tk acc c hk hD hacc=>?_
    have hv:Vals ((ID (hi - lo).toNat).map λ(k:HZ)=>V.int (lo+(k:Ip))) acc.toList:=by
     refine mK (by rw[HQ,IV,Iw,hacc.1]) λi v u e1 e2=>?_
     rw[Ii,HU]at e1;obtain⟨k,e1,rfl⟩:=e1;obtain⟨hk,rfl⟩:=Il.mp e1;obtain⟨t,rfl⟩:=hacc.2 i u (by rw[<- JF]; exact e2)
     exact#[t,by simp]
    refine fq (dr:=s.drawn) (u:=.lst ((ID (hi - lo).toNat).map λ(k:HZ)=>V.int (lo+(k:Ip)))) I so hk (Ih _) #[by simpa using b5,acc.toList,c,hv,by simpa using hD] λhn=>#[_,aF,?_]
    exact mL _
   ·cases e
  ·exact gx J s Y H A S _ vs us w S' I so rl rv e
 ·exact gx J s Y H A S _ vs us w S' I so rl rv e
end
mutual
inductive IsT (h:Jk):T->HS->Prop
 | int {i:Ip} {t:So}:IsT h (.int i) (.int i t)
 | str {x:IH} {t:So}:IsT h (.str x) (.str x t)
 | tup {ks:HN T} {a:Ic} {o:Kb} {items:IM HS} {n:HZ}:h.get? a=ba o->o.cls=.type "tuple"->o.data=.seq items n->IsTs h ks items.toList->IsT h (.tup ks) (.ref a)
inductive IsTs (h:Jk):HN T->HN HS->Prop
 | nil:IsTs h [] []
 | cons {k:T} {v:HS} {ks:HN T} {vs:HN HS}:IsT h k v->IsTs h ks vs->IsTs h (k::ks) (v::vs)
end
mutual
theorem IsT.inj {h:Jk}:∀ {x y:T} {v:HS},IsT h x v->IsT h y v->x=y
 | _,_,_,.int,h2=>by cases h2; rfl
 | _,_,_,.str,h2=>by cases h2; rfl
 | _,_,_,.tup a1 _ d1 t1,h2=>by
  cases h2 with
  | tup a2 _ d2 t2=>
   rw[a1]at a2; cases a2
   rw[d1]at d2; cases d2
   rw[IsTs.inj t1 t2]
theorem IsTs.inj {h:Jk}:∀ {x y:HN T} {v:HN HS},IsTs h x v->IsTs h y v->x=y
 | _,_,_,.nil,h2=>by cases h2; rfl
 | _,_,_,.cons a b,h2=>by
  cases h2 with
  | cons c d=>rw[IsT.inj a c,IsTs.inj b d]
end
mutual
theorem IsT.keeps {h h':Jk}{d:Ic}{o:Kb}{es:IM KP}{ep:HZ}(ho:h.get? d=ba o)(hd:o.data=.dict es ep)(hs:Kn d h h'):∀ {x:T} {v:HS},IsT h x v->IsT h' x v
 | _,_,.int=>.int
 | _,_,.str=>.str
 | _,_,.tup (a:=a) a1 c1 d1 t1=>by
  have hne:a≠d:=by
   rintro rfl;rw[a1]at ho; cases ho
   rw[d1]at hd; cases hd
  exact .tup ((hs.2 a hne).trans a1) c1 d1 (IsTs.keeps ho hd hs t1)
theorem IsTs.keeps {h h':Jk}{d:Ic}{o:Kb}{es:IM KP}{ep:HZ}(ho:h.get? d=ba o)(hd:o.data=.dict es ep)(hs:Kn d h h'):∀ {x:HN T} {v:HN HS},IsTs h x v->IsTs h' x v
 | _,_,.nil=>.nil
 | _,_,.cons a b=>.cons (IsT.keeps ho hd hs a) (IsTs.keeps ho hd hs b)
end
def IsTs.length {h:Jk}:∀ {x:HN T} {v:HN HS},IsTs h x v->x.length=v.length
 | _,_,.nil=>rfl
 | _,_,.cons _ b=>by simp[IsTs.length b]
def IsTs.get {h:Jk}:∀ {x:HN T} {v:HN HS},IsTs h x v->∀(j:HZ) (h1:j < x.length) (h2:j < v.length),IsT h x[j] v[j]
 | _,_,.cons a _,0,_,_=>a
 | _,_,.cons _ b,j+1,h1,h2=>IsTs.get b j (by simpa using h1) (by simpa using h2)
def bT:∀ {ks:HN T} (j:HZ) (h:j < ks.length),(ks[j]).depth<=T.depths ks
 | k::ks,0,_=>by simp only[T.depths,List.getElem_cons_zero]; omega
 | k::ks,j+1,h=>by
  have:=bT (ks:=ks) j (by simpa using h)
  simp only[T.depths,List.getElem_cons_succ]; omega
section
variable{prog:IZ}{w:Jg}{E:HS->HV->Prop}
mutual
theorem ow:∀(k:T) (v:HS) (A:Jd) (s:HV) (Q:Ip->HV->Prop),IsT s.heap k v->A.units+k.depth < cLine->Q (dQ w k) { s with toks:=s.toks+k.draws }->wpAny (model prog w) A (pyHash v) Q E s
 | .int i,_,A,s,Q,x,_,h=>by cases x; exact PH h
 | .str y,_,A,s,Q,x,_,h=>by cases x; exact PJ h
 | .tup ks,_,A,s,Q,x,hu,h=>by
  cases x with
  | @tup _ a o items n hg hc hd hw=>
   simp only[T.depth]at hu;refine PySem.W.pyHash_slot (T:="tuple") #[_,hg,hc] F.slot_tuple_hash F.entry_tuple_hash (F.args_tuple_hash_1 _) (beq_builtin_none _) (.inr ∅) ?_
   show wpAny _ _ (LO (.ref a) >>= _) _ _ s;refine HP (wpAny_tupleItemsOf hg hd ?_);refine HP ?_;rw[<- Mo];refine jN ks items.toList A.in1 s #[] _ hw (by rw[aE]; omega) λb hb=>?_
   show wpAny _ _ (retInt (L5 b.toList)) _ _ _;rw[hb];refine HP (Qb (HW #[_,_,rfl,?_]))
   simpa [T.draws,QU,dQ]using h
theorem jN:∀(ks:HN T) (vs:HN HS) (A:Jd) (s:HV) (b:IM Ip) (Q:IM Ip->HV->Prop),IsTs s.heap ks vs->A.units+T.depths ks < cLine->
  (∀b',b'.toList=b.toList++gr w ks->Q b' { s with toks:=s.toks+T.drawss ks })->
  wpAny (model prog w) A (forIn vs b λx r=>do let h <- pyHash x; pure O4; pure (Kr (r.push h))) Q E s
 | [],_,A,s,b,Q,x,_,h=>by cases x; exact HW (h b (by simp[gr]))
 | k::ks,_,A,s,b,Q,x,hu,h=>by
  cases x with
  | cons x1 x2=>
   simp only[T.depths]at hu;rw[MY];refine HP (HP (ow k _ A s _ x1 ∅ ?_))
   refine HP (HW (HW ?_));refine jN ks _ A _ _ Q x2 ∅ λb' hb=>?_
   have:=h b' (by simp[hb,gr])
   simpa [T.drawss,QU]using this
end
open SeqAt in
def uf:∀(d:HZ) (x y:T) (u v:HS) (B:Jd) (s:HV),x.depth<=d->IsT s.heap x u->IsT s.heap y v->B.units+d < cLine->B.units+y.depth < cLine->EqAt B s u v (decide (x=y))
 | d,.int i,y,_,_,B,s,_,h1,h2,hu,hv=>by
  cases h1;cases h2 with
  | int=>
   rename_i j t2;have:decide (T.int i=T.int j)=(i==j):=by by_cases e:i=j <;> simp[e]
   rw[this]; exact .int_int _ _ _ _
  | str=>rw[IX (by simp)]; exact .int_str _ _ _ _
  | tup a c dd t=>rw[IX (by simp)]; exact .int_tuple _ _ #[_,a,c,_,dd] (by simp only[T.depth]at hv; omega)
 | d,.str z,y,_,_,B,s,_,h1,h2,hu,hv=>by
  cases h1;cases h2 with
  | int=>rw[IX (by simp)]; exact .str_int _ _ _ _
  | str=>
   rename_i z2 t2;have:decide (T.str z=T.str z2)=(z==z2):=by by_cases e:z=z2 <;> simp[e]
   rw[this]; exact .str_str _ _ _ _
  | tup a c dd t=>rw[IX (by simp)]; exact .str_tuple _ _ #[_,a,c,_,dd] (by simp only[T.depth]at hv; omega)
 | 0,.tup ks,y,_,_,B,s,hd,h1,h2,hu,hv=>by simp[T.depth]at hd
 | d+1,.tup ks,y,_,_,B,s,hd,h1,h2,hu,hv=>by
  have h1':=h1;cases h1 with
  | @tup _ a o items n a1 c1 d1 t1=>
   have hT:s.heap.IsTuple a items:=#[_,a1,c1,_,d1];simp only[T.depth]at hd;cases h2 with
   | int=>rw[IX (by simp)]; exact .tuple_int _ _ hT ∅
   | str=>rw[IX (by simp)]; exact .tuple_str _ _ hT ∅
   | @tup ks2 b o2 items2 n2 a2 c2 d2 t2=>
    have hT2:s.heap.IsTuple b items2:=#[_,a2,c2,_,d2]
    by_cases hab:a=b
    ·subst hab;have:T.tup ks=T.tup ks2:=h1'.inj (.tup a2 c2 d2 t2);rw[JG this];exact EqAt.same _
    ·refine EqAt.of_refs hab ?_;simp only[T.depth]at hv;have l1:items.size=ks.length:=by rw[<- Iw,t1.length]
     have l2:items2.size=ks2.length:=by rw[<- Iw,t2.length]
     let e:HZ->IN:=λj=>if h:j < ks.length/\j < ks2.length then decide (ks[j]'h.1=ks2[j]'h.2)else true
     have he:∀j (h1:j < items.size) (h2:j < items2.size),EqAt B.in1 s items[j] items2[j] (e j):=λj j1 j2=>by
      have g1:=t1.get j (l1 ▸ j1) (by simpa using j1)
      have g2:=t2.get j (l2 ▸ j2) (by simpa using j2)
      have q1:=bT (ks:=ks) j (l1 ▸ j1);have q2:=bT (ks:=ks2) j (l2 ▸ j2);have:=uf d _ _ _ _ B.in1 s ∅ g1 g2 (by rw[aE]; omega) (by rw[aE]; omega)
      show EqAt B.in1 s items[j] items2[j] (if h:j < ks.length/\j < ks2.length then decide (ks[j]'h.1=ks2[j]'h.2)else true)
      rw[RQ #[l1 ▸ j1,l2 ▸ j2]]
      simpa using this
     have:=RcAt.tuples hT hT2 ∅ he
     have hk:((ID (min items.size items2.size)).all e&&items.size==items2.size)=decide (T.tup ks=T.tup ks2):=by
      rw[l1,l2]
      by_cases hl:ks.length=ks2.length
      ·by_cases hq:ks=ks2
       ·subst hq;simp only[Ps,Jm,Mh,Qc,IG,IR];intro j hj;show(if h:j < ks.length/\j < ks.length then decide (ks[j]'h.1=ks[j]'h.2)else true)=true
        rw[RQ #[hj,hj]]; simp
       ·rw[IX (by simpa using hq)]
        have:∃j,∃h:j < ks.length,ks[j]≠ks2[j]'(hl ▸ h):=by
         apply Nw;intro hn;exact hq (Lv hl λj h1 h2=>Nw λz=>hn #[j,h1,z])
        obtain⟨j,hj,hne⟩:=this;rw[Od];apply Or.inl;rw[List.all_eq_false];refine#[j,by rw[IR,<- hl,Ps]; exact hj,?_]
        show ¬ (if h:j < ks.length/\j < ks2.length then decide (ks[j]'h.1=ks2[j]'h.2)else true)=true
        rw[RQ #[hj,hl ▸ hj]]
        simpa using hne
      ·rw[IX (by simp; intro z; exact hl (by rw[z])),Od]
       right
       simpa using hl
     rw[hk]at this;exact this
def lq {n:HZ}{v:HS}(h:∀a,v≠.ref a):eqIsQuiet n v=pure true:=by
 cases v with
 | ref a=>exact absurd rfl (h a)
 | _=>first|rfl|simp[eqIsQuiet]|(unfold eqIsQuiet; rfl)
def jq:∀(d:HZ) (k:T) (v:HS) (A:Jd) (s:HV) (Q:IN->HV->Prop),k.depth<=d->IsT s.heap k v->Q true s->wpAny (model prog w) A (eqIsQuiet d v) Q E s
 | d,.int i,_,A,s,Q,_,x,h=>by cases x; rw[lq (λa=>by simp)]; exact HW h
 | d,.str i,_,A,s,Q,_,x,h=>by cases x; rw[lq (λa=>by simp)]; exact HW h
 | 0,.tup ks,_,A,s,Q,hd,x,h=>by simp[T.depth]at hd
 | d+1,.tup ks,_,A,s,Q,hd,x,h=>by
  cases x with
  | @tup _ a o items n ho hc hdt hi=>
   simp only[T.depth]at hd;have hT:s.TypeIs (.ref a) "tuple":=#[_,ho,hc];unfold eqIsQuiet;refine HP (N6 hT F.slot_tuple_eq.lookup ?_);show wpAny _ _ (isInstance (.ref a) (.type "tuple") >>= _) _ _ s;refine HP (Lu hT isSubtype_tuple_tuple ?_);simp only[KJ,IK,JK];refine HP (J1 ho hdt ?_);refine HP ?_;show wpAny _ _ (forIn items _ _) _ _ s;rw[<- Mo];refine L1 _ (λbj r s'=>r.1=gV/\s'=s/\∃kk,IsTs s.heap kk bj/\T.depths kk<=d) _ ?_ ?_ _ _ #[rfl,rfl,ks,hi,∅]
   ·rintro v bj r s' ⟨hr,rfl,kk,hall,hdk⟩;cases hall with
    | cons q1 q2=>
     simp only[T.depths]at hdk;refine HP (jq d _ v _ _ _ ∅ q1 ?_)
     simp only[KJ,IK,JK];exact HW #[rfl,rfl,_,q2,∅]
   ·rintro⟨r1,r2⟩ s' ⟨hr,rfl,_⟩;simp only at hr;subst hr;exact HW h
end
abbrev aR (prog:IZ)(w:Jg):HeapKind prog w T where
 is:=λh k a=>IsT h k (.ref a)/\k.depth<=au
 hash:=dQ w
 draws:=T.draws
 room:=λA=>A.units+au < cLine
 inj:=λhx hy=>hx.1.inj hy.1
 keeps:=λx ho hd hs=>#[x.1.keeps ho hd hs,x.2]
 pyHash:=λhu hk h=>ow _ _ _ _ _ hk.1 (by have:=hk.2; omega) h
 eqBool:=λhu hx hy h=>uf au _ _ _ _ _ _ hx.2 hx.1 hy.1 hu (by have:=hy.2; omega) _ _ _ _ h
 quiet:=λhk h=>jq 8 _ _ _ _ _ (by have:=hk.2; unfold au at this; omega) hk.1 h
section
variable{prog:IZ}{w:Jg}{E:HS->HV->Prop}
def lr {n:HZ}{v:HS}(h:∀a,v≠.ref a):ofAClassStatement n v=pure false:=by
 cases v with
 | ref a=>exact absurd rfl (h a)
 | _=>first|rfl|simp[ofAClassStatement]|(unfold ofAClassStatement; rfl)
def mM:∀(d:HZ) (k:T) (v:HS) (A:Jd) (s:HV) (Q:IN->HV->Prop),k.depth<=d->IsT s.heap k v->Q false s->wpAny (model prog w) A (ofAClassStatement d v) Q E s
 | d,.int i,_,A,s,Q,_,x,h=>by cases x; rw[lr (λa=>by simp)]; exact HW h
 | d,.str i,_,A,s,Q,_,x,h=>by cases x; rw[lr (λa=>by simp)]; exact HW h
 | 0,.tup ks,_,A,s,Q,hd,x,h=>by simp[T.depth]at hd
 | d+1,.tup ks,_,A,s,Q,hd,x,h=>by
  cases x with
  | @tup _ a o items n ho hc hdt hi=>
   simp only[T.depth]at hd;have hT:s.TypeIs (.ref a) "tuple":=#[_,ho,hc];unfold ofAClassStatement;refine HP (LB hT ?_);dsimp only;rw[IF (show("tuple" == "tuple")=true by decide)]
   refine HP (HW ?_);simp only[KJ,IK,JK];refine HP (J1 ho hdt ?_);refine HP ?_;show wpAny _ _ (forIn items _ _) _ _ s;rw[<- Mo];refine L1 _ (λbj r s'=>r.1=gV/\s'=s/\∃kk,IsTs s.heap kk bj/\T.depths kk<=d) _ ?_ ?_ _ _ #[rfl,rfl,ks,hi,∅]
   ·rintro v bj r s' ⟨hr,rfl,kk,hall,hdk⟩;cases hall with
    | cons q1 q2=>
     simp only[T.depths]at hdk;refine HP (mM d _ v _ _ _ ∅ q1 ?_)
     simp only[IK,JK];exact HW #[rfl,rfl,_,q2,∅]
   ·rintro⟨r1,r2⟩ s' ⟨hr,rfl,_⟩;simp only at hr;subst hr;exact HW h
def vW {A:Jd}{s:HV}{Q:IN->HV->Prop}{x:T}{b:Ic}{ys:HN HS}(hx:IsT s.heap x (.ref b))(hdx:x.depth<=au)(hy:∀v∈ys,∃y c,v=.ref c/\IsT s.heap y (.ref c)/\y.depth<=au)(h:Q false s):wpAny (model prog w) A (searchCouldBeSeen (.ref b) ys) Q E s:=by
 unfold searchCouldBeSeen;refine HP ?_;refine L1 _ (λbj r s'=>r.1=gV/\s'=s/\∀v∈bj,∃y c,v=.ref c/\IsT s.heap y (.ref c)/\y.depth<=au) _ ?_ ?_ _ _ #[rfl,rfl,hy]
 ·rintro v bj r s' ⟨hr,rfl,hall⟩;obtain⟨y,c,rfl,q,hdy⟩:=hall v (.head _);have hrest:∀v∈bj,∃y c,v=.ref c/\IsT s'.heap y (.ref c)/\y.depth<=au:=λv hv=>hall v (.tail _ hv)
  have k6:au<=8:=by unfold au; decide
  dsimp only;split
  ·exact HW #[rfl,rfl,hrest]
  ·refine HP (jq 8 _ _ _ _ _ ∅ hx ?_)
   simp only[KJ,IK,JK];refine HP (jq 8 _ _ _ _ _ ∅ q ?_)
   simp only[KJ,IK,JK];refine HP (mM 8 _ _ _ _ _ ∅ hx ?_)
   simp only[IK,JK];refine HP (mM 8 _ _ _ _ _ ∅ q ?_)
   simp only[IK,JK];exact HW #[rfl,rfl,hrest]
 ·rintro⟨r1,r2⟩ s' ⟨hr,rfl,_⟩;simp only at hr;subst hr;exact HW h
end
inductive Sf where|there|free (slot:HZ)
abbrev du (es:IM (Ip×T))(t:JH)(x:T)(h:Ip):HZ->HY Nk->HY Sf
 | 0,_=>gV
 | f+1,stand=>match t.probe (λi=>(es[i]?.map (·.1)).getD 0) h (stand.getD (t.probeStart h))with
  | none=>gV
  | some (.empty j gV)=>ba (.free j)
  | some (.empty _ (ba _))=>gV
  | some (.candidate j i next)=>match es[i]? with
   | none=>gV
   | some (_,y)=>if y=x then ba .there else if t.slot j=.live i then du es t x h f (ba next)else gV
structure SE (h:Jk)(es0:IM (Ip×T))(es:IM (Ip×HS)):Prop where
 size:es0.size=es.size
 ent:∀(i:HZ) (hh:Ip) (y:T),es0[i]?=ba (hh,y)->∃b:Ic,es[i]?=ba (hh,Jb b)/\IsT h y (.ref b)/\y.depth<=au
def SE.hash {h:Jk}{es0:IM (Ip×T)}{es:IM (Ip×HS)}(R:SE h es0 es):(λ(i:HZ)=>(es0[i]?.map (λp=>p.1)).getD 0)=λ(i:HZ)=>(es[i]?.map (λp=>p.1)).getD 0:=by
 funext i
 cases e:es0[i]? with
 | none=>
  have:es[i]?=gV:=by rw[Array.getElem?_eq_none_iff]at e ⊢; rw[<- R.size]; exact e
  rw[this]; rfl
 | some p=>
  obtain⟨b,e2,_⟩:=R.ent i p.1 p.2 e;rw[e2]; rfl
def SE.vals {h:Jk}{es0:IM (Ip×T)}{es:IM (Ip×HS)}(R:SE h es0 es):∀e∈es.toList,∃y c,e.2=.ref c/\IsT h y (.ref c)/\y.depth<=au:=λe he=>by
 obtain⟨i,hi,rfl⟩:=JW.mp he;rw[Iw]at hi;have hi0:i < es0.size:=by rw[R.size]; exact hi
 obtain⟨b,e2,q⟩:=R.ent i es0[i].1 es0[i].2 (KG hi0);rw[KG hi]at e2;refine#[_,b,?_,q];rw[MR,Jz e2]
section
variable{prog:IZ}{w:Jg}{E:HS->HV->Prop}{A:Jd}{s:HV}
def vX {a b:Ic}{o:Kb}{es0:IM (Ip×T)}{es:IM (Ip×HS)}{ep:HZ}{t:JH}{x:T}{h:Ip}{Q:SetFound->HV->Prop}(ho:s.heap.get? a=ba o)(hd:o.data=.set es ep t)(hf:t.fits es.size=true)(hg:t.gaveWay=false)(R:SE s.heap es0 es)
    (hx:IsT s.heap x (.ref b)) (hdx:x.depth<=au) (hu:(aR prog w).room A):∀(f F:HZ) (stand:HY Nk) (r:Sf),du es0 t x h f stand=ba r->f<=F->(r=.there->Q (.there gV) s)->(∀j,r=.free j->Q (.free j false) s)->
    wpAny (model prog w) A (setSearchFrom a (.ref b) h true F stand) Q E s:=by
  intro f
  induction f with
  | zero=>intro F stand r e; cases e
  | succ f ih=>
    intro F stand r e hF h1 h2;obtain⟨F,rfl⟩ : ∃F',F=F'+1:=#[F - 1,∅]
    unfold setSearchFrom;refine HP (JP ho hd hf ?_);dsimp only;rw[hg];simp only[IK,JK];unfold du at e;rw[R.hash]at e;split
    · rename_i met hm
      have hm:t.probe (λi=>(es[i]?.map (·.1)).getD 0) h (stand.getD (t.probeStart h))=ba met:=hm
      rw[hm]at e;cases met with
      | empty j dm=>
        cases dm with
        | none=>cases e; exact HW (h2 j rfl)
        | some d=>cases e
      | candidate j i next=>
        dsimp only at e ⊢;cases ei:es0[i]? with
        | none=>rw[ei]at e; cases e
        | some p=>
          obtain⟨hh,y⟩:=p;rw[ei]at e;dsimp only at e;obtain⟨c,ec,qy,hdy⟩:=R.ent i hh y ei;rw[ec];dsimp only;have sm:t.sameMemory t.moves t.mask=ba true:=by unfold RH; rw[IF (Jm _)]
          have hv:∀v∈Rv (λx=>x.snd) (Array.filter (λx=>x.fst==h) es).toList,∃y c,v=Jb c/\IsT s.heap y (.ref c)/\y.depth<=au:=λv hv=>by
            obtain⟨p,hp,rfl⟩:=Iy.mp hv;rw[Array.toList_filter]at hp;exact R.vals p (JI.mp hp).1
          cases hl:t.led
          · simp only[Op,Kd]
            refine HP (vW hx hdx hv ?_);simp only[IK,JK];refine HP (JB ((aR prog w).eqBool hu #[qy,hdy] #[hx,hdx] ?_));refine HP (JP ho hd hf ?_)
            by_cases hyx:y=x
            · rw[IF hyx]at e
              cases e;simp only[hyx,Qc,Mh,Kd];exact HW (h1 rfl)
            · rw[IP hyx]at e
              split at e
              · rename_i hsl
                simp only[hyx,Rg,Ng,IK,JK,sm,Kd,hsl,ec];refine HP (Oe ?_);refine HP (HW ?_);simp only[Kd];exact ih F (ba next) r e ∅ h1 h2
              · cases e
          · simp only[KJ,IK,JK]
            refine HP (JB ((aR prog w).eqBool hu #[qy,hdy] #[hx,hdx] ?_));refine HP (JP ho hd hf ?_)
            by_cases hyx:y=x
            · rw[IF hyx]at e
              cases e;simp only[hyx,Qc,Mh,Kd];exact HW (h1 rfl)
            · rw[IP hyx]at e
              split at e
              · rename_i hsl
                simp only[hyx,Rg,Ng,IK,JK,sm,Kd,hsl,ec];refine HP (Oe ?_);refine HP (HW ?_);simp only[Kd];exact ih F (ba next) r e ∅ h1 h2
              · cases e
    · rename_i hm
      have hm:t.probe (λi=>(es[i]?.map (·.1)).getD 0) h (stand.getD (t.probeStart h))=gV:=by
        first|exact hm|(cases hp:t.probe (λi=>(es[i]?.map (·.1)).getD 0) h (stand.getD (t.probeStart h))with
          | none=>rfl
          | some m=>exact absurd hp (hm m))
      rw[hm]at e;cases e
end
mutual
noncomputable def dF:T->IN
 | .int _=>true
 | .str _=>false
 | .tup xs=>cq xs
noncomputable def cq:HN T->IN
 | []=>true
 | x::xs=>dF x&&cq xs
end
section
variable{prog:IZ}{w:Jg}{E:HS->HV->Prop}
def r4:∀(d:HZ) (k:T) (v:HS) (A:Jd) (s:HV) (Q:IN->HV->Prop),dF k=true->k.depth<=d->IsT s.heap k v->Q true s->wpAny (model prog w) A (hashByValue d v) Q E s
 | d,.int i,_,A,s,Q,_,_,x,h=>by
  cases x;have:∀t,hashByValue d (.int i t)=pure true:=λt=>by cases d <;> rfl
  rw[this]; exact HW h
 | d,.str i,_,A,s,Q,hn,_,x,h=>by cases hn
 | 0,.tup ks,_,A,s,Q,_,hd,x,h=>by simp[T.depth]at hd
 | d+1,.tup ks,_,A,s,Q,hn,hd,x,h=>by
  cases x with
  | @tup _ a o items n ho hc hdt hi=>
   simp only[T.depth]at hd;have hn:cq ks=true:=hn;have hT:s.TypeIs (.ref a) "tuple":=#[_,ho,hc];unfold hashByValue;refine HP (N6 hT F.slot_tuple_hash.lookup ?_);refine HP (J1 ho hdt ?_);refine HP ?_;show wpAny _ _ (forIn items _ _) _ _ s;rw[<- Mo];refine L1 _ (λbj r s'=>r.1=gV/\s'=s/\∃kk,IsTs s.heap kk bj/\T.depths kk<=d/\cq kk=true) _ ?_ ?_ _ _ #[rfl,rfl,ks,hi,∅,hn]
   ·rintro v bj r s' ⟨hr,rfl,kk,hall,hdk,hnk⟩;cases hall with
    | cons q1 q2=>
     simp only[T.depths]at hdk;simp only[cq,HX]at hnk;refine HP (r4 d _ v _ _ _ hnk.1 ∅ q1 ?_)
     simp only[KJ,IK,JK];exact HW #[rfl,rfl,_,q2,∅,hnk.2]
   ·rintro⟨r1,r2⟩ s' ⟨hr,rfl,_⟩;simp only at hr;subst hr;exact HW h
end
noncomputable abbrev Ze:=Ip×T×Ic
abbrev zT (z:Ze):Ip×T:=(z.1,z.2.1)
abbrev zV (z:Ze):Ip×HS:=(z.1,.ref z.2.2)
abbrev ZOk (h:Jk)(zs:IM Ze):Prop:=∀z∈zs.toList,IsT h z.2.1 (.ref z.2.2)/\z.2.1.depth<=au
def ZOk.se {h:Jk}{zs:IM Ze}(k:ZOk h zs):SE h (zs.map zT) (zs.map zV):=#[by simp,λi hh y e=>by
 rw[Nl,HU]at e;obtain⟨z,hz,e⟩:=e;cases e;exact#[z.2.2,by rw[Nl,hz]; rfl,k z (by rw[LR]; exact MD hz)]]
def gS {α β:Type}{f:α->β}{xs:IM α}{p:HZ}{x:α}:Jf (xs.map f) p (f x)=(Jf xs p x).map f:=by
 unfold Jf;simp[Array.map_extract]
abbrev cZ (t:JH)(n:HZ):IN:=t.fits n && !t.gaveWay&&decide (n<=1000)
abbrev a9 (hf:T->Ip)(st:IM (Ip×T)×JH)(x:T):HY (IM (Ip×T)×JH):=
 match du st.1 st.2 x (hf x) 100 gV with
 | none=>gV
 | some .there=>ba st
 | some (.free slot)=>
  if cZ (st.2.put slot).1 (Jf st.1 (st.2.put slot).2 (hf x,x)).size then
   if (st.2.put slot).1.tooFull then
    if Nm (Mz (st.1.size+1))<=sizeLine then
     match (st.2.put slot).1.relaid ((Jf st.1 (st.2.put slot).2 (hf x,x)).map (·.1)) (Mz (st.1.size+1))with
     | none=>gV
     | some (t2,order)=>
      if (order.filterMap ((Jf st.1 (st.2.put slot).2 (hf x,x))[·]?)).size=(Jf st.1 (st.2.put slot).2 (hf x,x)).size/\cZ t2 (order.filterMap ((Jf st.1 (st.2.put slot).2 (hf x,x))[·]?)).size=true then ba (order.filterMap ((Jf st.1 (st.2.put slot).2 (hf x,x))[·]?),t2)else gV
    else gV
   else ba (Jf st.1 (st.2.put slot).2 (hf x,x),(st.2.put slot).1)
  else gV
def filterMap_map {α β:Type}{f:α->β}{xs:IM α}{order:IM HZ}:order.filterMap ((xs.map f)[·]?)=(order.filterMap (xs[·]?)).map f:=by
 rw[Array.map_filterMap];congr 1
 funext i
 exact Nl ..
def qI {b:Ic}{es:IM (Ip×HS)}:byScan (.ref b) es=false:=rfl
def jO {t:JH}{n:HZ}(h:cZ t n=true):t.fits n=true/\t.gaveWay=false/\n<=1000:=by
 unfold cZ at h;simp only[HX,NF,Ix]at h;exact#[h.1.1,h.1.2,h.2]
section
variable{prog:IZ}{w:Jg}{E:HS->HV->Prop}{A:Jd}{s:HV}
def qJ {a:Ic}{o:Kb}{es es1:IM (Ip×HS)}{ep:HZ}{t t1:JH}{Q:R9->HV->Prop}(ho:s.heap.get? a=ba o)(hd:o.data=.set es ep t)(hz:es1.size<=1000)
  (h:∀h',Kn a s.heap h'->h'.get? a=ba { o with data:=.set es1 (ep+1) t1 }->Q () { s with heap:=h' }):wpAny (model prog w) A (storeSet a es1 t1) Q E s:=by
 refine wpAny_storeSet_of ho hd (h _ (Lo ..) ?_) (IL hz (by rw[Jq]; decide))
 have:=J6 (Obj.putSet es1 t1) ho (by rw[putSet_of es1 t1 hd]; rfl)
 rw[putSet_of es1 t1 hd]at this;exact this
def Eu {a b:Ic}{o:Kb}{zs:IM Ze}{ep:HZ}{t:JH}{x:T}{hf:T->Ip}{es1:IM (Ip×T)}{t1:JH}{Q:IN->HV->Prop}(ho:s.heap.get? a=ba o)(hd:o.data=.set (zs.map zV) ep t)(hft:cZ t zs.size=true)(hz:ZOk s.heap zs)
  (hx:IsT s.heap x (.ref b)) (hdx:x.depth<=au) (hnx:dF x=true) (hu:(aR prog w).room A) (e:a9 hf (zs.map zT,t) x=ba (es1,t1))
  (k:∀(bb:IN) (h':Jk) (zs':IM Ze) (ep':HZ),zs'.map zT=es1->cZ t1 zs'.size=true->Kn a s.heap h'->h'.get? a=ba { o with data:=.set (zs'.map zV) ep' t1 }->(∀z∈zs'.toList,z∈zs.toList\/z=(hf x,x,b))->Q bb { s with heap:=h' }) :
  wpAny (model prog w) A (setAddHashed a (.ref b) (hf x)) Q E s:=by
 obtain⟨f1,f2,f3⟩:=jO hft;have f1':t.fits (zs.map zV).size=true:=by rw[JU]; exact f1
 unfold setAddHashed setAddHashedIn;refine JB (HP (JP ho hd f1' ?_));dsimp only;rw[qI];simp only[IK,JK];unfold a9 at e;cases hs:du (zs.map zT) t x (hf x) 100 gV with
 | none=>rw[hs]at e; cases e
 | some r=>
  rw[hs]at e;dsimp only at e;refine HP ?_;unfold setSearch;refine vX ho hd f1' f2 hz.se hx hdx hu 100 100000 gV r hs #v[] (λhr=>?_) λslot hr=>?_
  ·subst hr;cases e;exact HW (k false s.heap zs ep rfl hft (Pu ..) (by rw[<- hd]; exact ho) λz h=>.inl h)
  ·subst hr;dsimp only at e ⊢;refine HP (JP ho hd f1' ?_);dsimp only;split at e
   ·rename_i hok1;have eI:Jf (zs.map zT) (t.put slot).2 (hf x,x)=(Jf zs (t.put slot).2 (hf x,x,b)).map zT:=gS (f:=zT) (x:=(hf x,x,b));have eV:Jf (zs.map zV) (t.put slot).2 (hf x,.ref b)=(Jf zs (t.put slot).2 (hf x,x,b)).map zV:=gS (f:=zV) (x:=(hf x,x,b));have hmem:∀z∈(Jf zs (t.put slot).2 (hf x,x,b)).toList,z∈zs.toList\/z=(hf x,x,b):=λz h=>by
     unfold Jf at h;simp only[M3,NC,IY,Ik]at h;rcases h with(h|h)|h
     ·rw[LS]at h;exact .inl (by rw[Nx]at h; exact LU (KL h))
     ·exact .inr h
     ·rw[LS]at h;exact .inl (by rw[Nx]at h; exact LU (KL h))
    rw[eI]at e hok1;rw[JU]at hok1;obtain⟨g1,g2,g3⟩:=jO hok1;rw[eV];have hfst:∀z1:IM Ze,Lw (λx=>x.fst) (Lw zV z1)=Lw (λx=>x.fst) (Lw zT z1):=λz1=>by
     rw[QV,QV]; rfl
    simp only[JU]at e ⊢;generalize(t.put slot).1=tt at e hok1 g1 g2 ⊢;generalize Jf zs (t.put slot).2 (hf x,x,b)=z1 at e hok1 g1 g3 hmem ⊢;clear eI eV;have k8:x.depth<=8:=IL hdx (by unfold au; decide)
    have g1v:tt.fits (Lw zV z1).size=true:=by rw[JU]; exact g1
    have tail:∀h1:Jk,Kn a s.heap h1->h1.get? a=ba { o with data:=.set (Lw zV z1) (ep+1) tt }->wpAny (model prog w) A (if (!false&&tt.tooFull)=true then do setRelay a (Mz (zs.size+1)); pure true else pure true) Q E { s with heap:=h1 }:=by
     intro h1 sb1 q1;cases htf:tt.tooFull with
     | false=>
      rw[htf]at e;simp only[IK,JK]at e;cases e;simp only[Op,Ng,IK,JK];exact HW (k true h1 z1 (ep+1) rfl hok1 sb1 q1 hmem)
     | true=>
      rw[htf]at e;simp only[Kd]at e;simp only[Op,Mh,Kd];split at e
      ·rename_i hle;cases hrel:tt.relaid (Lw (λx=>x.fst) (Lw zT z1)) (Mz (zs.size+1))with
       | none=>rw[hrel]at e; cases e
       | some p=>
        obtain⟨t2,order⟩:=p;rw[hrel]at e;dsimp only at e;rw[filterMap_map,JU]at e;split at e
        ·rename_i hc;cases e;obtain⟨c1,c2⟩:=hc;obtain⟨d1,d2,d3⟩:=jO c2;unfold setRelay;refine HP (HP (JP q1 rfl g1v ?_));dsimp only;rw[IP (O5.mpr hle)];rw[hfst,hrel];refine HP (Mr (a:=(Lw zV (Qi (λx=>z1[x]?) order),t1)) ?_ ?_)
         ·show(if ((Qi (λx=>(Lw zV z1)[x]?) order).size != (Lw zV z1).size)=true then _ else _)=_
          rw[filterMap_map,JU,JU,c1];rw[IP (by simp)]
         ·dsimp only;refine qJ (s:={ s with heap:=h1 }) q1 rfl (by rw[JU]; exact d3) λh2 sb2 q2=>HW (k true h2 _ (ep+1+1) rfl c2 (sb1.trans sb2) q2 λz hz=>hmem z ?_)
          obtain⟨i,hi,e⟩:=Array.mem_filterMap.mp (LR.mp hz);exact LR.mpr (MD e)
        ·cases e
      ·cases e
    cases hp:tt.plain with
    | false=>
     simp only[IK,JK];refine HP (HW ?_);simp only[Kd];exact HP (qJ ho hd (by rw[JU]; exact g3) λh1 sb1 q1=>tail h1 sb1 q1)
    | true=>
     simp only[Kd];refine HP (r4 8 _ _ _ _ _ hnx k8 hx ?_);simp only[Kd];exact HP (qJ ho hd (by rw[JU]; exact g3) λh1 sb1 q1=>tail h1 sb1 q1)
   ·cases e
end
abbrev fL (h h':Jk):Prop:=∀c o,h.get? c=ba o->o.cls=.type "tuple"->h'.get? c=ba o
mutual
theorem IsT.stay {h h':Jk}(k:fL h h'):∀ {x:T} {v:HS},IsT h x v->IsT h' x v
 | _,_,.int=>.int
 | _,_,.str=>.str
 | _,_,.tup a b c d=>.tup (k _ _ a b) b c (IsTs.stay k d)
theorem IsTs.stay {h h':Jk}(k:fL h h'):∀ {x:HN T} {v:HN HS},IsTs h x v->IsTs h' x v
 | _,_,.nil=>.nil
 | _,_,.cons a b=>.cons (IsT.stay k a) (IsTs.stay k b)
end
def ZOk.stay {h h':Jk}{zs:IM Ze}(k:fL h h')(z:ZOk h zs):ZOk h' zs:=λy hy=>#[(z y hy).1.stay k,(z y hy).2]
section
variable{prog:IZ}{w:Jg}{A:Jd}{E:HS->HV->Prop}{s:HV}{R:PL->HV->Prop}{I:Ic}{fp wr:HN Ic}{G:IM On->IM On->Prop}{n:HZ}{P:HZ->HS->Prop}{St:HZ->HV->Prop}
abbrev jP (w:Jg)(zs:IM Ze)(ep:HZ)(t:JH):Kb:={ aN w with data:=.set (zs.map zV) ep t }
def ug (W:WalksS prog w A.in1 I fp wr G n P St){D:Ic}(hD:D∉fp)(hwr:∀i s b o,St i s->b∈wr->s.heap.get? b=ba o->o.cls≠.type "tuple"){ks:HN T}{res:IM (Ip×T)×JH}{Yq:T->Ic->Prop}(hl:ks.length=n)(hk:∀x∈ks,dF x=true/\x.depth<=au)(hP:∀i v,P i v->∃x b,ks[i]?=ba x/\v=.ref b/\Yq x b)(hu:(aR prog w).room A.in1) :
  ∀(k i:HZ) (s:HV) (zs:IM Ze) (ep:HZ) (t:JH),n - i=k->i<=n->St i s->s.heap.get? D=ba (jP w zs ep t)->cZ t zs.size=true->ZOk s.heap zs->(∀z∈zs.toList,Yq z.2.1 z.2.2)->(∀j v x,P j v->ks[j]?=ba x->IsT s.heap x v)->(ks.drop i).foldlM (a9 (dQ w)) (zs.map zT,t)=ba res->
   (∀s' zs' ep',Moved (D::wr) G s s'->s'.heap.get? D=ba (jP w zs' ep' res.2)->zs'.map zT=res.1->cZ res.2 zs'.size=true->ZOk s'.heap zs'->(∀z∈zs'.toList,Yq z.2.1 z.2.2)->R (.ok (.ret .none)) s')->codeAny (model prog w) A (.builtin "set.update.loop" #[[.ref D,.ref I],[]]) R s:=by
 have hw:D∉wr:=λz=>hD (W.sub _ z)
 have up:∀b∈wr,b∈D::wr:=λb z=>JD _ z
 intro k
 induction k with
 | zero=>
  intro i s zs ep t hk' hi st ho hok hz hy hT hsim hR;obtain rfl:i=n:=∅
  refine JA F.entry_set_update_loop ?_;rw[Jy F.plain_set_update_loop _];show wpAny _ A.in1 (pyNext (.ref I) >>= _) _ _ s;refine HP (W.done s _ _ st λs' mv=>?_)
  rw[MA ∅]at hsim
  cases hsim;have ts:fL s.heap s'.heap:=λc o q hc=>mv.heap c o (λz=>hwr _ _ _ _ st z q hc) q
  exact HW (hR s' zs ep (mv.mono up) (mv.heap D _ hw ho) rfl hok (hz.stay ts) hy)
 | succ k ih=>
  intro i s zs ep t hk' hi st ho hok hz hy hT hsim hR;have hlt:i < n:=∅
  refine JA F.entry_set_update_loop ?_;rw[Jy F.plain_set_update_loop _];show wpAny _ A.in1 (pyNext (.ref I) >>= _) _ _ s;refine HP (W.item i s _ _ hlt st λv s1 pv st1 mv=>?_)
  obtain⟨x,b,hx,rfl,yx⟩:=hP i v pv;have ts1:fL s.heap s1.heap:=λc o q hc=>mv.heap c o (λz=>hwr _ _ _ _ st z q hc) q
  obtain⟨hn,hdp⟩:=hk x (Ir hx);have FC:IsT s1.heap x (.ref b):=(hT i _ x pv hx).stay ts1;have o1:s1.heap.get? D=ba (jP w zs ep t):=mv.heap D _ hw ho;have hd1:ks.drop i=x::ks.drop (i+1):=by
   obtain⟨h1,h2⟩:=Il.mp hx;rw[List.drop_eq_getElem_cons h1,h2]
  rw[hd1,Lx]at hsim;cases hs:a9 (dQ w) (zs.map zT,t) x with
  | none=>rw[hs]at hsim; cases hsim
  | some aH=>
   obtain⟨es1,t1⟩:=aH;rw[hs]at hsim;have hsim:(ks.drop (i+1)).foldlM (a9 (dQ w)) (es1,t1)=ba res:=hsim;show wpAny _ A.in1 (holding [Jb b] (setAdd D (.ref b)) >>= _) _ _ s1;refine HP (JB ?_);unfold setAdd;refine JB (HP ((aR prog w).pyHash hu #[FC,hdp] ?_));refine Eu (s:={ s1 with toks:=s1.toks+x.draws }) (hf:=dQ w) o1 rfl hok (hz.stay ts1) FC hdp hn hu hs λbb h' zs' ep' e1 hok' sb ho' hmem=>?_
   have ts2:fL s1.heap h':=λc o q hc=>by
    refine sb.extBut c o (λz=>?_) q
    subst z;rw[o1]at q;cases q;exact absurd hc (by show ¬ (J5 "set" = J5 "tuple"); simp)
   have hz':ZOk h' zs':=λz hzm=>by
    rcases hmem z hzm with h|rfl
    ·exact((hz.stay ts1).stay ts2) z h
    ·exact#[FC.stay ts2,hdp]
   refine HW #[Kz F.plain_set_update_loop _,ih (i+1) { s1 with heap:=h',toks:=s1.toks+x.draws } zs' ep' t1 ∅ hlt (W.frame _ s1 _ _ st1 (KH _ _) λc hc u q=>?_) ho' hok' hz' (λz hzm=>by
    rcases hmem z hzm with h|rfl
    ·exact hy z h
    ·exact yx) (λj v y pj hy=>((hT j v y pj hy).stay ts1).stay ts2) (by rw[e1]; exact hsim) λs2 zs2 ep2 mv2 ho2 e2 hok2 hz2 hy2=>?_]
   ·rw[sb.2 c λz=>hD (z ▸ hc)]; exact q
   ·refine hR s2 zs2 ep2 (Moved.trans W.gtrans ((mv.mono up).then_heap (KH _ _) λc u hc q=>?_) mv2) ho2 e2 hok2 hz2 hy2
    rw[sb.2 c λz=>hc (z ▸ JJ)]
    exact q
end
section
variable{prog:IZ}{w:Jg}{A:Jd}{E:HS->HV->Prop}{s:HV}
def vY (l:IN):cZ (.fresh 0 0 l) (#[]:IM Ze).size=true:=by cases l <;> decide
set_option maxHeartbeats 4000000 in
def uh {l:Ic}{its:IM HS}{ks:HN T}{res:IM (Ip×T)×JH}{Q:HS->HV->Prop}(hh:A.handled=gV)(hl:s.heap.IsList l its)(hi:IsTs s.heap ks its.toList)(hk:∀x∈ks,dF x=true/\x.depth<=au)(hrf:∀(i:HZ) (v:HS),its[i]?=ba v->∃b,v=.ref b)(hu:(aR prog w).room A.in1.in1.in1)(hsim:ks.foldlM (a9 (dQ w)) (#[],.fresh 0 0 (!d8 w))=ba res)
  (h:∀(h':Jk) (tk:HZ) (zs:IM Ze) (ep:HZ),h'.get? s.heap.objs.size=ba (jP w zs ep res.2)->zs.map zT=res.1->cZ res.2 zs.size=true->ZOk h' zs->(∀z∈zs.toList,∃i:HZ,ks[i]?=ba z.2.1/\its[i]?=ba (Jb z.2.2))->(∀b u,s.heap.get? b=ba u->h'.get? b=ba u)->Q (.ref s.heap.objs.size) { s with heap:=h',toks:=tk }):wpAny (model prog w) A (call (.type "set") [.ref l]) Q E s:=by
 obtain⟨c,tl,hmro⟩:=F.called_set.mro;have hmade:=F.called_set.made;have hsub:=F.called_set.sub;have hn1:=F.called_set.notType;have hn2:=F.called_set.canCreate;have hct:=F.typeCall_set_1 (.ref l);refine Qp (MX ?_);show wpAny _ _ (callAny (.type "set") _) _ _ _;refine HW #[Nn _ (by decide +kernel),JA F.entry_type_call ?_]
 rw[O6 (Of "set" [.ref l] []) rfl]
 repeat (any_goals (first|assumption|wp_step))
 refine LA (nZ (w:=w) (.ref l) (E:=E) (Q₁:=λobj s1=>obj=.ref s.heap.objs.size/\s1={ s with heap:=s.heap.push (aN w) }) #[rfl,rfl]) λr s1 hr=>?_
 match r,hr with
 | .ok (.ret obj),hr=>
  obtain⟨rfl,rfl⟩:=hr;have oS:(s.heap.push (aN w)).get? s.heap.objs.size=ba (aN w):=Im _ rfl;have tS:QX { s with heap:=s.heap.push (aN w) } (.ref s.heap.objs.size) "set":=#[_,oS,rfl]
  have hli:=F.called_set.init.lookup;have hbi:=F.called_set.init.bind (.ref s.heap.objs.size)
  repeat (any_goals (first|assumption|wp_step))
  refine LA (Oq (R:=wants (λr s2=>r=.none/\∃h' tk zs ep,s2={ s with heap:=h',toks:=tk }/\h'.get? s.heap.objs.size=ba (jP w zs ep res.2)/\zs.map zT=res.1/\cZ res.2 zs.size=true/\ZOk h' zs/\(∀z∈zs.toList,∃i:HZ,ks[i]?=ba z.2.1/\its[i]?=ba (Jb z.2.2))/\∀b u,s.heap.get? b=ba u->h'.get? b=ba u) E) F.called_set.init.plain F.entry_set_init (PV tS ?_)) λr2 s2 hr2=>?_
  ·obtain⟨⟨oc,od,ot,osl⟩,hol,hcl,nl,hdl⟩:=id hl;simp only at hcl hdl;subst hcl hdl;have hol1:=HR (aN w) hol;have l1:(s.heap.push (aN w)).IsList l its:=#[_,hol1,rfl,nl,rfl];have e1:=F.sub_list_set;have e2:=F.sub_list_frozenset;have e3:(J5 "list" == J5 "dict")=false:=by decide
   unfold Lg.«set.__init__» noKeywords MZ;generalize hPI:pyIter=PI
   wp_walk
   subst hPI;refine LK l1 (HP (LQ ?_));have ls:l < s.heap.objs.size:=Iv hol;have sz:(s.heap.push (aN w)).objs.size=s.heap.objs.size+1:=J2 ..;have ne:l≠(s.heap.push (aN w)).objs.size:=by rw[sz]; exact IA (KA ls)
   have oS':(s.heap.push (aN w)).get? s.heap.objs.size=ba (jP w #[] 0 (.fresh 0 0 (!d8 w))):=by
    rw[oS]; unfold jP aN; simp
   have len:ks.length=its.size:=by rw[hi.length,Iw]
   refine ug ((QD (A:=A.in1.in1.in1) (by simp[hh]) _ l ne its).toS) (D:=s.heap.objs.size) (ks:=ks) (res:=res) (Yq:=λx b=>∃i:HZ,ks[i]?=ba x/\its[i]?=ba (Jb b)) (by rw[sz]; simp only[IC,Jc,Kf,Os]; exact#[IA (J4 _),JY ls]) (λi s b o st hb q=>?_) len hk (λi v q=>?_) hu _ 0 _ #[] 0 (.fresh 0 0 (!d8 w)) rfl (JS _)
    #[#[_,Im _ rfl,rfl,rfl],l1.push _] (HR _ oS') (vY _) (λz hz=>by simp at hz) (λz hz=>by simp at hz) (λj v x q hx=>?_) (by rw[Ot,show Lw zT #[]=#[] by simp]; exact hsim) λs3 zs3 ep3 mv ho3 e3 hok3 hz3 hy3=>?_
   ·obtain⟨⟨o',e,hc,_⟩,_⟩:=st;rw[Ik.mp hb]at q;rw[q]at e;cases e;rw[hc];simp
   ·obtain⟨b,rfl⟩:=hrf i v q;have hi':i < ks.length:=by rw[len]; exact(Kg.mp q).1
    exact#[ks[i],b,Ig hi',rfl,i,Ig hi',q]
   ·have hj:=(Il.mp hx);have q':=(Kg.mp q);obtain⟨h1,rfl⟩:=hj;obtain⟨h2,rfl⟩:=q';have:=hi.get j h1 (by rw[Iw]; exact h2)
    rw[MR]at this;exact this.stay λc o q hc=>HR _ (HR _ q)
   ·rw[OT mv];refine HW (HW #[rfl,s3.heap,s3.toks,zs3,ep3,rfl,ho3,e3,hok3,hz3,hy3,λb u q=>?_])
    have hb:=Iv q;exact mv.heap b u (by rw[sz]; simp only[IC,Jc,Kf,Os]; exact#[IA hb,IA (KA hb)]) (HR _ (HR _ q))
  ·match r2,hr2 with
   | .ok (.ret r),hr2=>
    obtain⟨rfl,h',tk,zs,ep,rfl,g1,g2,g3,g4,g5,g6⟩:=hr2
    repeat (any_goals (first|assumption|wp_step))
    exact h h' tk zs ep g1 g2 g3 g4 g5 g6
   | .ok .next,hr2=>exact hr2.elim
   | .ok .brk,hr2=>exact hr2.elim
   | .ok .cont,hr2=>exact hr2.elim
   | .error e,hr2=>exact hr2
 | .ok .next,hr=>exact hr.elim
 | .ok .brk,hr=>exact hr.elim
 | .ok .cont,hr=>exact hr.elim
 | .error e,hr=>exact hr
end
abbrev iL (S:aa)(i:HZ):HY (HN (T×W)):=match S[i]? with
 | some (.dic U)=>ba U
 | some (.frd U)=>ba U
 | _=>gV
abbrev mN (S:aa)(i:HZ):HY (HN (T×W)):=match S[i]? with
 | some (.dic U)=>ba U
 | _=>gV
abbrev b8 (U:HN (T×W))(k:T):HY W:=(U.find? λp=>decide (p.1=k)).map (·.2)
abbrev eg (U:HN (T×W))(k:T)(v:W):HN (T×W):=
 if (U.any λp=>decide (p.1=k))=true then U.map (λp=>if p.1=k then(p.1,v)else p)else U++[(k,v)]
abbrev fW (w:W):HY T:=match W.t w with
 | some k=>if k.isTup=true/\k.depth<=au then ba k else gV
 | none=>gV
def dB {w:W}{k:T}(h:fW w=ba k):k.w=w/\k.isTup=true/\k.depth<=au:=by
 unfold fW at h;split at h
 ·rename_i k' hk;split at h
  ·rename_i hc;cases h;exact#[W.t_w hk,hc.1,hc.2]
  ·cases h
 ·cases h
def c7 (U:HN (T×W))(k:T)(v:W):(eg U k v).length<=U.length+1:=by
 unfold eg;split
 ·rw[HQ]; omega
 ·rw[Io,Ju,KD]; omega
section
variable{X:Cx}{J:HN (Ic×Kb)}{Y:L2.St}{H:Hp}{s:HV}{A:HN Ic}{S:aa}
mutual
theorem jQ (I:Inv X J Y H s):∀(k:T) {v:V} {u:HS},Rel X.K A H k.w v->RelV v u->IsT s.heap k u
 | .int i,_,_,r,q=>by
  cases r;obtain⟨t,rfl⟩ : ∃t,_=NO _ t:=q;exact .int
 | .str x,_,_,r,q=>by
  cases r;obtain⟨t,rfl⟩ : ∃t,_=MF _ t:=q;exact .str
 | .tup ks,_,_,r,q=>by
  simp only[T.w]at r;cases r with
  | tup sq rl=>
   obtain⟨its,rv,⟨o,h1,h2,n,h3⟩,hz⟩:=I.tuple sq;obtain rfl:_=Jb _:=q;exact .tup h1 h2 h3 (dS I ks rl (by simpa using rv))
theorem dS (I:Inv X J Y H s):∀(ks:HN T) {vs:HN V} {us:HN HS},RelL X.K A H (T.ws ks) vs->Vals vs us->IsTs s.heap ks us
 | [],_,_,r,q=>by
  simp only[T.ws]at r;cases r; cases q; exact .nil
 | k::ks,_,_,r,q=>by
  simp only[T.ws]at r;cases r with
  | cons r1 r2=>
   cases q with
   | cons q1 q2=>exact .cons (jQ I k r1 q1) (dS I ks r2 q2)
end
def iM (I:Inv X J Y H s){k:T}{b:Ic}(r:Rel X.K A H k.w (.ref b))(hd:k.depth<=au):(aR X.prog X.w).is s.heap k b:=#[jQ I k r rfl,hd]
def gT {w:W}{k:T}{v:V}{u:HS}(hk:fW w=ba k)(r:Rel X.K A H w v)(q:RelV v u):∃b,v=.ref b/\u=.ref b/\Rel X.K A H k.w (.ref b):=by
 obtain⟨h1,h2,h3⟩:=dB hk;subst h1;cases k with
 | tup ks=>
  simp only[T.w]at r;cases r with
  | tup a b=>exact#[_,rfl,q,by simp only[T.w]; exact .tup a b]
 | _=>cases h2
def KRel.is {U:HN (T×W)}{xs:HN (T×Ic×HS)}(I:Inv X J Y H s)(r:KRel X.K A H U xs):∀x∈xs,(aR X.prog X.w).is s.heap x.1 x.2.1:=by
 unfold KRel at r
 induction r with
 | nil=>intro x hx; exact nomatch hx
 | @cons p q ps qs h t ih=>
  intro x hx;rcases IC.mp hx with e|hx
  ·subst e;obtain⟨h1,h2,h3,h4,_⟩:=h;rw[h1]at h3 h4;exact iM I h4 h3
  ·exact ih x hx
def KRel.length {U:HN (T×W)}{xs:HN (T×Ic×HS)}(r:KRel X.K A H U xs):U.length=xs.length:=NH r
def KRel.val {U:HN (T×W)}{xs:HN (T×Ic×HS)}(r:KRel X.K A H U xs)(k:T) :
  (∀w,b8 U k=ba w->∃p v,atKey xs k=ba p/\Rel X.K A H w v/\RelV v p.2)/\(b8 U k=gV->atKey xs k=gV):=by
 unfold KRel at r
 induction r with
 | nil=>exact#[λw h=>(nomatch h),λ_=>rfl]
 | @cons p q ps qs h t ih=>
  obtain⟨h1,_,_,_,v,h5,h6⟩:=h
  by_cases e:p.1=k
  ·have e':q.1=k:=h1.symm.trans e;have a1:b8 (p::ps) k=ba p.2:=by simp[b8,LF,e]
   have a2:atKey (q::qs) k=ba q.2:=by simp[atKey,LF,e']
   rw[a1,a2];exact#[λw hw=>(by cases hw; exact#[_,v,rfl,h5,h6]),λh=>nomatch h]
  ·have e':¬ q.1=k:=λz=>e (h1.trans z)
   have a1:b8 (p::ps) k=b8 ps k:=by simp[b8,LF,e]
   have a2:atKey (q::qs) k=atKey qs k:=by simp[atKey,LF,e']
   rw[a1,a2];exact ih
def KRel.repl {U:HN (T×W)}{xs:HN (T×Ic×HS)}(r:KRel X.K A H U xs)(k:T){w:W}{v:V}{u:HS}(rw':Rel X.K A H w v)(rv:RelV v u) :
  KRel X.K A H (U.map λp=>if p.1=k then(p.1,w)else p) (xs.map (putAt k u)):=by
 unfold KRel at r ⊢
 induction r with
 | nil=>exact .nil
 | @cons p q ps qs h t ih=>
  rw[JC,JC];refine .cons ?_ ih;obtain⟨h1,h2,h3,h4,h5⟩:=h;unfold putAt
  by_cases e:p.1=k
  ·rw[IF e,IF (h1.symm.trans e)]; exact#[h1,h2,h3,h4,v,rw',rv]
  ·rw[IP e,IP (λz=>e (h1.trans z))]; exact#[h1,h2,h3,h4,h5]
def ox (k:T):∀U:HN (T×W),(U.any λp=>decide (p.1=k))=(b8 U k).isSome
 | []=>rfl
 | p::r=>by
  rw[KT]
  by_cases e:p.1=k
  ·have a1:b8 (p::r) k=ba p.2:=by simp[b8,LF,e]
   rw[a1,JG e]; rfl
  ·have a1:b8 (p::r) k=b8 r k:=by simp[b8,LF,e]
   rw[a1,IX e,NK]; exact ox k r
def KRel.put {U:HN (T×W)}{xs:HN (T×Ic×HS)}(r:KRel X.K A H U xs){k:T}{b:Ic}{w:W}{v:V}{u:HS}(h1:k.isTup=true)(h2:k.depth<=au)(h3:Rel X.K A H k.w (.ref b))(rw':Rel X.K A H w v)(rv:RelV v u) :
  KRel X.K A H (eg U k w) (storedH xs k b u):=by
 have e:(U.any λp=>decide (p.1=k))=(atKey xs k).isSome:=by
  rw[ox];cases q:b8 U k with
  | none=>rw[(r.val k).2 q]; rfl
  | some x=>obtain⟨p,_,h,_⟩:=(r.val k).1 x q; rw[h]; rfl
 unfold eg storedH;rw[e]
 by_cases q:(atKey xs k).isSome=true
 ·rw[IF q,IF q]; exact r.repl k rw' rv
 ·rw[IP q,IP q]; exact Paired.snoc r #[rfl,h1,h2,h3,v,rw',rv]
def DicAt.of {h:Jk}{a:Ic}{xs:HN (T×Ic×HS)}(hz:xs.length<=sizeLine)(hs:(a==sysModules)=false)(d:h.DictOfH (aR X.prog X.w) a xs):DicAt X.w a xs h:=
 let ⟨o,es,ep,h1,h2,h3,h4,_,h6⟩:=d; #[hz,hs,h6,o,es,ep,h1,h2,h3,h4]
def DicAt.stay {wd:Jg}{h h':Jk}{a:Ic}{xs:HN (T×Ic×HS)}(d:DicAt wd a xs h)(k:∀o,h.get? a=ba o->h'.get? a=ba o):DicAt wd a xs h':=
 let ⟨h0,hs,hn,o,es,ep,h1,h2⟩:=d; #[h0,hs,hn,o,es,ep,k _ h1,h2]
def DicAt.ok {P:IZ}{h:Jk}{wd:Jg}{a:Ic}{xs:HN (T×Ic×HS)}(d:DicAt wd a xs h):ObjOk P wd H h a (dE wd a xs):=
 #[d,let ⟨_,_,_,o,_,_,h1,_⟩:=d; #[o,h1],λ_ _ p k=>p.stay k]
def bY {a:Ic}{xs:HN (T×Ic×HS)}(I:Inv X J Y H s)(e:Rd H a (dE X.w a xs)):DicAt X.w a xs s.heap:=(show ObjOk X.prog X.w H s.heap a (dE X.w a xs)from e.ok I.hok).1
def DicAt.dict {U:HN (T×W)}{a:Ic}{xs:HN (T×Ic×HS)}(d:DicAt X.w a xs s.heap)(I:Inv X J Y H s)(r:KRel X.K A H U xs):s.heap.DictOfH (aR X.prog X.w) a xs:=
 let ⟨_,_,hn,o,es,ep,h1,h2,h3,h4⟩:=d; #[o,es,ep,h1,h2,h3,h4,r.is I,hn]
def ft {i:HZ}{U:HN (T×W)}{a:Ic}(so:StoreOk X.w X.K A H S)(e:iL S i=ba U)(ea:A[i]?=ba a):∃xs,Rd H a (dE X.w a xs)/\KRel X.K A H U xs:=by
 unfold iL at e;split at e
 ·rename_i k h;cases e;obtain⟨xs,q,r⟩:=so.obj i _ a h ea;exact#[xs,.inl q,r]
 ·rename_i k h;cases e;obtain⟨o,xs,q,r⟩:=so.obj i _ a h ea;exact#[xs,.inr #[o,q],r]
 ·cases e
def gU {i:HZ}{U:HN (T×W)}(e:mN S i=ba U):S[i]?=ba (.dic U):=by
 unfold mN at e;split at e
 ·rename_i h; cases e; exact h
 ·cases e
def r6 {i:HZ}{U:HN (T×W)}{a:Ic}(so:StoreOk X.w X.K A H S)(e:mN S i=ba U)(ea:A[i]?=ba a):∃xs,H a=ba (dE X.w a xs)/\KRel X.K A H U xs:=
 so.obj i _ a (gU e) ea
def oy {B:Jd}(hu:B.units+10 < cLine):(aR X.prog X.w).room B.in1:=by
 show B.in1.units+au < cLine;rw[aE]; unfold au; omega
abbrev lu (x y:W)(S:aa):HY (W×aa):=match x,y with
 | .ref r,.tup ks=>match iL S r,fW (.tup ks)with
  | some U,ba k=>(b8 U k).map λw=>(w,S)
  | _,_=>gV
 | x,y=>rX x y S
def GB (hu:X.A.units+10 < cLine):LIx X lu:=by
 intro value slice J s Y H A S x y a b u v w S' I so rx ru ry rv e hs
 by_cases hxy:∃r ks,x=.ref r/\y=.tup ks
 ·obtain⟨r,ks,rfl,rfl⟩:=hxy;simp only[lu]at e;split at e
  ·rename_i U k hk1 hk2;rw[HU]at e;obtain⟨w',e1,e2⟩:=e;cases e2;cases rx with
   | ref ea=>
    obtain⟨xs,rd,kr⟩:=ft so hk1 ea;have d:=bY I rd;have dd:=d.dict I kr;obtain⟨bk,rfl,rfl,rk⟩:=gT hk2 ry rv;obtain⟨p,vv,h1,h2,h3⟩:=(kr.val k).1 _ e1;obtain rfl:u=Jb _:=ru;refine Mx (x:=p.2) dd.typeIs slot_dict_getitem.lookup
     (wpAny_getItem_heap (Q:=λr s'=>r=p.2/\di X J Y A H S w r s') (oy hu) (iM I rk (dB hk2).2.2) dd h1 #[rfl,vv,H,A,I.tok _,h3,.refl,so,h2]) hs
  ·cases e
 ·have:lu x y S=rX x y S:=by
   cases x <;> cases y <;> first|rfl|exact absurd #[_,_,rfl,rfl] hxy
  rw[this]at e;exact HA hu value slice J s Y H A S x y a b u v w S' I so rx ru ry rv e hs
abbrev gW (o i v:W)(S:aa):HY aa:=match o,i with
 | .ref r,.tup ks=>match mN S r,fW (.tup ks)with
  | some U,ba k=>if U.length < sizeLine then ba (S.set r (.dic (eg U k v)))else gV
  | _,_=>gV
 | o,i=>tY o i v S
def Ev (hu:X.A.units+10 < cLine):LSet X gW:=by
 intro J s Y H A S o i x ao ai ax uo ui ux S' I so ro ruo ri rui rx rux e
 by_cases hxy:∃r ks,o=.ref r/\i=.tup ks
 ·obtain⟨r,ks,rfl,rfl⟩:=hxy;simp only[gW]at e;split at e
  ·rename_i U k hk1 hk2;split at e
   ·rename_i hl;cases e;cases ro with
    | ref ea=>
     obtain⟨xs,hH,kr⟩:=r6 so hk1 ea;have d:=bY I (.inl hH);have dd:=d.dict I kr;obtain⟨bk,rfl,rfl,rk⟩:=gT hk2 ri rui;obtain⟨q1,q2,q3⟩:=dB hk2;obtain rfl:uo=Jb _:=ruo;have hz:xs.length<=sizeLine:=by rw[<- kr.length]; omega
     refine wpAny_setItem_heap (hsz:=hz) (oy hu) (iM I rk q3) dd λh' dd' hs=>?_
     have kr':=kr.put q2 q3 rk rx rux;have hz':(storedH xs k bk ux).length<=sizeLine:=by
      rw[<- kr'.length];have:=c7 U k x;omega
     have dn:DicAt X.w _ (storedH xs k bk ux) h':=.of hz' d.2.1 dd';obtain⟨so',ex⟩:=so.writeO (gU hk1) rfl ea (u:=dE X.w _ (storedH xs k bk ux)) (n:=.dic (eg U k x)) #[_,aF,kr'.mono (bX (.ext hH))];exact#[_,A,mD I (by rw[hH]; exact MJ) hs (let ⟨q,_,_,hq,_⟩:=dd'; #[q,hq]) dn.ok,ex,so']
   ·cases e
  ·cases e
 ·have:gW o i x S=tY o i x S:=by
   cases o <;> cases i <;> first|rfl|exact absurd #[_,_,rfl,rfl] hxy
  rw[this]at e;exact lset hu J s Y H A S o i x ao ai ax uo ui ux S' I so ro ruo ri rui rx rux e
abbrev r8 (x:W)(xs:HN W)(S:aa):HY (W×aa):=match x,xs with
 | .ref r,[y,z]=>match iL S r,fW y with
  | some U,ba k=>ba ((b8 U k).getD z,S)
  | _,_=>gV
 | _,_=>gV
def qK (hu:X.A.units+10 < cLine):lm X "dict.get" r8:=by
 intro J s Y H A S x a u xs vs us w S' I so rx ru rl rv e;cases rx with
 | ref ea=>
  cases rl with
  | nil=>cases e
  | cons r1 t1=>
   cases t1 with
   | nil=>cases e
   | cons r2 t2=>
    cases t2 with
    | cons _ _=>cases e
    | nil=>
     dsimp only[r8]at e;split at e
     ·rename_i U k hk1 hk2;cases e;obtain⟨xs,rd,kr⟩:=ft so hk1 ea;have d:=bY I rd;have dd:=d.dict I kr;cases rv with
      | cons v1 rv2=>
       cases rv2 with
       | cons v2 rv3=>
        cases rv3;obtain⟨bk,rfl,rfl,rk⟩:=gT hk2 r1 v1;obtain rfl:u=Jb _:=ru;refine call_meetsIn Og dd.typeIs PySem.F.entry_dict_get (PySem.F.args_dict_get_3 _ _ _) (meetsH_dict_get_default (aR X.prog X.w) _ bk d.2.1 _) #[oy hu,k,xs,iM I rk (dB hk2).2.2,dd,?_];cases q:b8 U k with
        | none=>
         rw[(kr.val k).2 q];exact#[_,H,A,I.tok _,v2,.refl,so,r2]
        | some w'=>
         obtain⟨p,vv,h1,h2,h3⟩:=(kr.val k).1 _ q;rw[h1];exact#[vv,H,A,I.tok _,h3,.refl,so,h2]
     ·cases e
 | _=>cases e
abbrev FR (x:W)(i:HZ)(S:aa):HY IN:=match W.t x,eY S i with
 | some k,ba ys=>match W.ts ys with
  | some ks=>if k.depth<=au/\T.depths ks<=au then ba (decide (k∈ks))else gV
  | none=>gV
 | _,_=>gV
abbrev Cu (x:W)(ys:HN W):HY IN:=match W.t x,W.ts ys with
 | some k,ba ks=>if k.depth<=au/\T.depths ks<=au then ba (decide (k∈ks))else gV
 | _,_=>gV
def mO {h:Jk}:∀ {ks:HN T} {vs:HN HS},IsTs h ks vs->∀v∈vs,∃k∈ks,IsT h k v
 | _,_,.cons a b,v,hv=>by
  rcases IC.mp hv with rfl|hv
  ·exact#[_,.head _,a]
  ·obtain⟨k,hk,q⟩:=mO b v hv;exact#[k,.tail _ hk,q]
abbrev yL (h:Jk)(k:T)(v:HS):IN:=@decide (IsT h k v) (Rb _)
def qL {h:Jk}{k k':T}{v:HS}(x:IsT h k' v):yL h k v=decide (k'=k):=by
 unfold yL
 by_cases e:k'=k
 ·subst e; simp[x]
 ·have:¬ IsT h k v:=λy=>e (x.inj y)
  simp[e,this]
def mP {h:Jk}{k:T}:∀ {ks:HN T} {vs:HN HS},IsTs h ks vs->vs.any (yL h k)=decide (k∈ks)
 | _,_,.nil=>by simp
 | _,_,.cons (k:=k') a b=>by
  rw[KT,qL a,mP b]
  by_cases e:k'=k
  ·simp[e]
  ·have:¬ k=k':=λz=>e z.symm
   simp[e,this]
def jR:∀ {ks:HN T} {k:T},k∈ks->k.depth<=T.depths ks
 | x::ks,k,h=>by
  simp only[T.depths];rcases IC.mp h with rfl|h
  ·omega
  ·have:=jR h; omega
def vZ {x:W}{i:HZ}{a b:V}{u v:HS}{c:IN}(hu:X.A.units+10 < cLine)(I:Inv X J Y H s)(so:StoreOk X.w X.K A H S)(rx:Rel X.K A H x a)(ru:RelV a u)(ry:Rel X.K A H (.ref i) b)(rv:RelV b v)(e:FR x i S=ba c) :
  ∃l its k ks,v=.ref l/\s.heap.IsList l its/\(∀y,y∈its->MG X.A.in1 s y u (yL s.heap k y))/\its.any (yL s.heap k)=c/\c=decide (k∈(ks:HN T)):=by
 unfold FR at e;split at e
 ·rename_i k ys h1 h2;split at e
  ·rename_i ks h3;split at e
   ·rename_i h4;cases e;cases ry with
    | ref ea=>
     obtain⟨vs,g1,g2⟩:=aZ so h2 ea;obtain⟨its,rv',p,_⟩:=I.list g1;obtain rfl:v=Jb _:=rv;have hT:IsTs s.heap ks its:=dS I ks ((W.ts_w h3).symm ▸ g2) rv';have hk:IsT s.heap k u:=jQ I k ((W.t_w h1).symm ▸ rx) ru;refine#[_,its.toArray,k,ks,rfl,p.isList,λy hy=>?_,by rw[PX]; exact mP hT,rfl]
     obtain⟨k',hk',q⟩:=mO hT y (by simpa using hy)
     rw[qL q];have:=jR hk';have kl:au=6:=rfl;exact uf au k' k _ _ _ _ ∅ q hk (by rw[aE]; omega) (by rw[aE]; omega)
   ·cases e
  ·cases e
 ·cases e
def zJ {x:W}{ys:HN W}{a b:V}{u v:HS}{c:IN}(hu:X.A.units+10 < cLine)(I:Inv X J Y H s)(rx:Rel X.K A H x a)(ru:RelV a u)(ry:Rel X.K A H (.tup ys) b)(rv:RelV b v)(e:Cu x ys=ba c) :
  ∃l its k,v=.ref l/\s.heap.IsTuple l its/\(∀y,y∈its->MG X.A.in1 s y u (yL s.heap k y))/\its.any (yL s.heap k)=c:=by
 unfold Cu at e;split at e
 ·rename_i k ks h1 h3;split at e
  ·rename_i h4;cases e;cases ry with
   | @tup _ l vs g1 g2=>
    obtain⟨its,rv',p,_⟩:=I.tuple g1;obtain rfl:v=Jb _:=rv;have hT:IsTs s.heap ks its:=dS I ks ((W.ts_w h3).symm ▸ g2) rv';have hk:IsT s.heap k u:=jQ I k ((W.t_w h1).symm ▸ rx) ru;refine#[_,its.toArray,k,rfl,p,λy hy=>?_,by rw[PX]; exact mP hT]
    obtain⟨k',hk',q⟩:=mO hT y (by simpa using hy)
    rw[qL q];have:=jR hk';have kl:au=6:=rfl;exact uf au k' k _ _ _ _ ∅ q hk (by rw[aE]; omega) (by rw[aE]; omega)
  ·cases e
 ·cases e
abbrev cr (o:COp)(x y:W)(S:aa):HY (W×aa):=match o,y with
 | .isin,.ref i=>match iL S i with
  | some U=>(fW x).map λk=>(.bl (b8 U k).isSome,S)
  | none=>match x with
   | .tup xs=>(FR (.tup xs) i S).map λb=>(.bl (b),S)
   | x=>fT .isin x (.ref i) S
 | .notin,.ref i=>match iL S i with
  | some U=>(fW x).map λk=>(.bl (!(b8 U k).isSome),S)
  | none=>match x with
   | .tup xs=>(FR (.tup xs) i S).map λb=>(.bl (!b),S)
   | x=>fT .notin x (.ref i) S
 | .isin,.tup ys=>match x with
  | .tup xs=>(Cu (.tup xs) ys).map λb=>(.bl b,S)
  | x=>fT .isin x (.tup ys) S
 | o,y=>fT o x y S
def oz (hu:X.A.units+gw < cLine)(o:COp):LOp X (compareOp o.py) (cr o):=by
 intro J s Y H A S x y a b u v w S' I so rx ru ry rv e;have get:∀ {i:HZ} {U:HN (T×W)} {k:T},y=.ref i->iL S i=ba U->fW x=ba k->∃d c xs,v=.ref d/\u=.ref c/\(d==sysModules)=false/\(aR X.prog X.w).is s.heap k c/\s.heap.DictOfH (aR X.prog X.w) d xs/\(b8 U k).isSome=(atKey xs k).isSome:=by
  intro i U k hy hk1 hk2;subst hy;cases ry with
  | ref ea=>
   obtain⟨xs,rd,kr⟩:=ft so hk1 ea;have d:=bY I rd;obtain⟨bk,rfl,rfl,rk⟩:=gT hk2 rx ru;obtain rfl:v=Jb _:=rv;refine#[_,bk,xs,rfl,rfl,d.2.1,iM I rk (dB hk2).2.2,d.dict I kr,?_];cases q:b8 U k with
   | none=>rw[(kr.val k).2 q]; rfl
   | some w'=>obtain⟨p,_,h1,_⟩:=(kr.val k).1 _ q; rw[h1]; rfl
 have old:fT o x y S=ba (w,S')->wpAny (model X.prog X.w) X.A (compareOp o.py u v) (di X J Y A H S' w) X.xe s:=λh=>zF hu o J s Y H A S x y a b u v w S' I so rx ru ry rv h
 have hu':X.A.units+10 < cLine:=by have:gw=20:=rfl; omega
 unfold cr at e;split at e
 ·split at e
  ·rename_i U hk1;rw[HU]at e;obtain⟨k,hk2,e2⟩:=e;cases e2;obtain⟨d,c,xs,rfl,rfl,q1,q2,q3,q4⟩:=get rfl hk1 hk2;rw[q4];exact wpAny_in_heap (oy hu') q2 q1 q3 #[.bl _,H,A,I.tok _,rfl,.refl,so,.bl]
  ·split at e
   ·rw[HU]at e;obtain⟨c,hc,e⟩:=e;cases e;obtain⟨l,its,k,ks,rfl,p1,p2,p3,_⟩:=vZ hu' I so rx ru ry rv hc;refine Qg (yL s.heap k) p1 p2 ?_;rw[p3];exact#[.bl _,H,A,I,rfl,.refl,so,.bl]
   ·exact old e
 ·split at e
  ·rename_i U hk1;rw[HU]at e;obtain⟨k,hk2,e2⟩:=e;cases e2;obtain⟨d,c,xs,rfl,rfl,q1,q2,q3,q4⟩:=get rfl hk1 hk2;rw[q4];exact wpAny_notIn_heap (oy hu') q2 q1 q3 #[.bl _,H,A,I.tok _,rfl,.refl,so,.bl]
  ·split at e
   ·rw[HU]at e;obtain⟨c,hc,e⟩:=e;cases e;obtain⟨l,its,k,ks,rfl,p1,p2,p3,_⟩:=vZ hu' I so rx ru ry rv hc;refine O1 (yL s.heap k) p1 p2 ?_;rw[p3];exact#[.bl _,H,A,I,rfl,.refl,so,.bl]
   ·exact old e
 ·split at e
  ·rw[HU]at e;obtain⟨c,hc,e⟩:=e;cases e;obtain⟨l,its,k,rfl,p1,p2,p3⟩:=zJ hu' I rx ru ry rv hc;refine PP (yL s.heap k) p1 p2 ?_;rw[p3];exact#[.bl _,H,A,I,rfl,.refl,so,.bl]
  ·exact old e
 ·exact old e
end
abbrev RawD (d:Ic)(es:IM KP)(ep:HZ)(h:Jk):Prop:=∃o,h.get? d=ba o/\o.ExactDict/\o.data=.dict es ep
def RawD.at {d:Ic}{es:IM KP}{ep:HZ}{h h':Jk}(x:RawD d es ep h)(e:∀o,h.get? d=ba o->h'.get? d=ba o):RawD d es ep h':=let ⟨o,ho,r⟩:=x; #[o,e _ ho,r]
def RawD.lt {d:Ic}{es:IM KP}{ep:HZ}{h:Jk}(x:RawD d es ep h):d < h.objs.size:=let ⟨_,ho,_⟩:=x; Iv ho
def RawD.type {d:Ic}{es:IM KP}{ep:HZ}{s:HV}(x:RawD d es ep s.heap):s.TypeIs (.ref d) "dict":=let ⟨o,ho,hc,_⟩:=x; #[o,ho,hc.1]
section
variable{prog:IZ}{w:Jg}{A:Jd}{E:HS->HV->Prop}{s:HV}{it d:Ic}{i ep:HZ}{es:IM KP}
def oA {Q:HS->HV->Prop}(hd:(d==sysModules)=false)(hm:RawD d es ep s.heap)
  (hQ:Q (.ref s.heap.objs.size) { s with heap:=s.heap.push { cls:=.type "dict_keyiterator",data:=.fields [.ref d,.int 0 0,.int es.size 0,.int ep 0].toArray } }):wpAny (model prog w) A (pyIter (.ref d)) Q E s:=by
 have hT:=hm.type;obtain⟨o,ho,hc,hdat⟩:=id hm;refine ND hT F.slot_dict_iter (Jx F.slot_dict_iter hT F.entry_dict_iter ?_ (F.args_dict_iter_1 _));unfold Lg.«dict.__iter__» QJ;refine HP (HP (wpAny_notOrdered_dict hT ?_));show wpAny _ _ (pure (Jb d)) _ _ s;refine HW ?_;show wpAny _ _ (Oh d >>= _) _ _ s;unfold Oh;rw[IP (by rw[hd]; exact IE)]
 refine HP (HW (HP (MB ho hdat (HP (N7 ho hdat ?_)))));refine HP (Ji (HW #[_,rfl,"dict_keyiterator",_,#[_,Im _ rfl,rfl],F.slot_dict_keyiterator_next.lookup,?_]))
 simpa [rawInt]using hQ
def oB {Q:HY HS->HV->Prop}(hit:s.heap.IsKeyIter it d i es.size ep)(hm:RawD d es ep s.heap)(hi:i < es.size)
  (hQ:∀h',h'.IsKeyIter it d (i+1) es.size ep->Kn it s.heap h'->Q (ba es[i].key) { s with heap:=h' }):wpAny (model prog w) A (pyNext (.ref it)) Q E s:=by
 obtain⟨o,ho,hc,hd⟩:=id hit;obtain⟨od,hod,hcd,hdd⟩:=id hm;unfold pyNext;refine HP (LH (Jt (name:=Ko "__next__") hit.typeIs F.slot_dict_keyiterator_next
  (Jx F.slot_dict_keyiterator_next hit.typeIs F.entry_dict_keyiterator_next ?_ (F.args_dict_keyiterator_next_1 _))))
 refine HP (HW (HP (HP ?_)))
 first|refine HP (KM hit.typeIs (HW ?_))|refine HP (Lk hit.typeIs (HW ?_))
 refine HP (Ni ho hd ?_);have hown:M0 "dict_keyiterator" = false:=by decide
 simp only[hown,IK,JK];show wpAny _ _ (if (Jb d==Jn)=true then _ else _) _ _ s
 rw[IP (show ¬ ((Jb d==Jn)=true)from IE)]
 refine HP (HW (HP (MB hod hdd ?_)));rw[IP (by simp)]
 refine HP (HW (HP (N7 hod hdd ?_)));rw[IP (by simp)]
 refine HW ?_;simp only[show ¬ ((i:Ip) < 0)from by omega,JK,IB,KG hi]
 refine HP ?_
 first|refine HP (KM hit.typeIs (HW ?_))|refine HP (Lk hit.typeIs (HW ?_))
 refine HP (Oi hit.typeIs ?_);show wpAny _ _ (setField (.ref it) 1 (rawInt ((i:Ip)+1)) >>= _) _ _ s;refine HP (No ho hd (by simp) ?_)
 have hit':(s.heap.update it (QY (·.setIfInBounds 1 (rawInt ((i:Ip)+1))))).IsKeyIter it d (i+1) es.size ep:=
  #[_,J6 _ ho (Oj (Mp hd _)),(Pw ..).trans hc,by rw[Mp hd]; simp[rawInt]]
 refine HP (JB ?_);refine HP (Oi (s:={ s with heap:=s.heap.update it (QY (·.setIfInBounds 1 (rawInt ((i:Ip)+1)))) }) hit'.typeIs ?_)
 show wpAny _ _ (pure es[i].key) _ _ _;exact HW (HW #[_,rfl,HW (hQ _ hit' (Lo ..))])
def r9 {Q:HY HS->HV->Prop}(hh:A.handled=gV)(hit:s.heap.IsKeyIter it d i es.size ep)(hm:RawD d es ep s.heap)(hge:es.size<=i)
  (hQ:∀h',Ou it s.heap h'->Q gV { s with heap:=h' }):wpAny (model prog w) A (pyNext (.ref it)) Q E s:=by
 obtain⟨o,ho,hc,hd⟩:=id hit;obtain⟨od,hod,hcd,hdd⟩:=id hm;unfold pyNext;refine HP (LH (Jt (name:=Ko "__next__") hit.typeIs F.slot_dict_keyiterator_next
  (Jx F.slot_dict_keyiterator_next hit.typeIs F.entry_dict_keyiterator_next ?_ (F.args_dict_keyiterator_next_1 _))))
 refine HP (HW (HP (HP ?_)))
 first|refine HP (KM hit.typeIs (HW ?_))|refine HP (Lk hit.typeIs (HW ?_))
 refine HP (Ni ho hd ?_);have hown:M0 "dict_keyiterator" = false:=by decide
 simp only[hown,IK,JK];show wpAny _ _ (if (Jb d==Jn)=true then _ else _) _ _ s
 rw[IP (show ¬ ((Jb d==Jn)=true)from IE)]
 refine HP (HW (HP (MB hod hdd ?_)));rw[IP (by simp)]
 refine HP (HW (HP (N7 hod hdd ?_)));rw[IP (by simp)]
 refine HW ?_;simp only[show ¬ ((i:Ip) < 0)from by omega,JK,IB,Array.getElem?_eq_none hge]
 refine HP ?_
 first|refine HP (KM hit.typeIs (HW ?_))|refine HP (Lk hit.typeIs (HW ?_))
 show wpAny _ _ (setField (.ref it) 0 .none >>= _) _ _ s;refine HP (No ho hd (by simp) ?_)
 show wpAny _ _ (newExc (.type "StopIteration") [] >>= _) _ _ _;refine HP ?_;simp only[newExc,newTuple];refine HP (Ji ?_ (by size_fits))
 refine HP (m:=firstArgMember _ _) (Mr (a:=Jn) (by first|rfl|(simp only[firstArgMember]; rfl)) ?_)
 refine Ji ?_ (by size_fits)
 simp only[raiseNew];refine HP (OS ?_);rw[show A.in1.handled=gV from hh]
 refine HP (HW (P9 ?_));refine HP (Lu (T:="StopIteration") (b:=true) #[_,Im _ rfl,rfl] Nh ?_);exact HW (hQ _ (((Lo ..).extBut.push _).push _))
def uj (hh:A.handled=gV)(I d:Ic)(hne:d≠I)(es:IM KP)(ep:HZ) :
  Qa prog w A I [I,d] [I] es.size (λi v=>∃e,es[i]?=ba e/\e.key=v) (λi h=>h.IsKeyIter I d i es.size ep/\RawD d es ep h) where
 sub:=λb hb=>by simp at hb; simp[hb]
 frame:=λ_ _ _ st hk=>#[st.1.at λo e=>hk I (by simp) o e,st.2.at λo e=>hk d (by simp) o e]
 item:=λi s Q E hi st hQ=>
  oB st.1 st.2 hi λh' hit' hs'=>hQ _ h' s.toks #[es[i],by simp[hi],rfl] #[hit',st.2.at λo e=>(hs'.2 d hne).trans e] λb o hb e=>hs'.extBut b o (λh=>hb (by simp[h])) e
 done:=λs Q E st hQ=>r9 hh st.1 st.2 (Ih _) λh' he'=>hQ h' s.toks λb o hb e=>he' b o (λh=>hb (by simp[h])) e
 self:=λ_ _ _ _ st hQ=>Ov st.1 hQ
def sa (lo:(d==sysModules)=false):Ow prog w "dict" d d es.size (λi v=>∃e,es[i]?=ba e/\e.key=v) (RawD d es ep) where
 type:=λ_ hm=>hm.type
 there:=λ_ hm=>#[hm.lt,hm.lt]
 keep:=λ_ _ hm hk=>hm.at λo e=>hk d (.inl rfl) o e
 notList:=by decide
 notTuple:=by decide
 hint:=λ_ _ _ _ hm hq=>PySem.W.kdl_hint_dict hm.type hq
 iter:=λ_ _ hh hm=>#[_,_,(λ_ _ hq=>oA lo hm hq),uj hh _ d (IA hm.lt) es ep,#[#[_,Im _ rfl,rfl,rfl],hm.at λo e=>HR _ e]]
def v4 {T:JX}{r d S:Ic}{n:HZ}{P:HZ->HS->Prop}{OK:Jk->Prop}{R:PL->HV->Prop}(K:Ow prog w T r d n P OK)(hh:A.handled=gV)(hok:OK s.heap)(hn:n<=sizeLine)(hSr:S≠r)(hSd:S≠d)
  (hS:s.heap.get? S=ba { cls:=.type "list",data:=.seq #[] 0 })
  (hR:∀h' tk acc' c',(∀b o,b≠S->s.heap.get? b=ba o->h'.get? b=ba o)->h'.get? S=ba { cls:=.type "list",dict:=gV,data:=.seq acc' c',slots:=#[] }->NY P acc' n->R (.ok (.ret (.ref S))) { s with heap:=h',toks:=tk }) :
  codeAny (model prog w) A (.builtin "list.__iadd__" #[[.ref S,.ref r],[]]) R s:=by
 refine JA F.entry_list_iadd ?_;rw[Jy F.plain_list_iadd _];show wpAny _ A.in1 (J8 (.ref S) (.ref r) (.ref S)) _ _ _;exact PySem.W.kdl_extend K hh hok S hSr hSd _ 0 hS hR hn
def oE {T:JX}{r d:Ic}{n:HZ}{P:HZ->HS->Prop}{OK:Jk->Prop}{Q:HN HS->HV->Prop}(K:Ow prog w T r d n P OK)(hh:A.handled=gV)(hok:OK s.heap)(hn:n<=sizeLine)
  (hQ:∀h' tk acc,(∀b o,s.heap.get? b=ba o->h'.get? b=ba o)->s.heap.objs.size<=h'.objs.size->NY P acc n->Q acc.toList { s with heap:=h',toks:=tk }):wpAny (model prog w) A (collect (.ref r)) Q E s:=by
 unfold collect;refine HP (LQ (JA F.entry_proto_collect ?_));rw[Jy F.plain_proto_collect _];show wpAny _ A.in1 (newList [] >>= λl=>again (.builtin "list.__iadd__" #[[l,.ref r],[]])) _ _ s
 refine HP (Ji ?_);have hlt:=K.there _ hok;refine HW #[Kz F.plain_list_iadd _,v4 (s:={ s with heap:=s.heap.push { cls:=.type "list",data:=.seq ([]:HN HS).toArray } }) K hh (K.keep _ _ hok λb _ o e=>HR _ e) hn (JY hlt.1) (JY hlt.2) (Im _ rfl) λh' tk acc' c' hk hS' hacc=>?_]
 show wpAny (model prog w) A (do
   let o <- load s.heap.objs.size
   match o.data with
   | .seq xs _=>pure xs.toList
   | _=>unsupported "internal:collect") Q E { s with heap:=h',toks:=tk }
 refine HP (NU hS' ?_);exact HW (hQ h' tk acc' (λb o e=>hk b o (IA (Iv e)) (HR _ e)) (LY (Iv hS')) hacc)
end
mutual
noncomputable def gg:T->T->HY IN
 | .int a,.int b=>ba (decide (a < b))
 | .str a,.str b=>ba (decide (a.cps.toList < b.cps.toList))
 | .tup xs,.tup ys=>cH xs ys
 | _,_=>gV
noncomputable def cH:HN T->HN T->HY IN
 | [],[]=>ba false
 | [],_::_=>ba true
 | _::_,[]=>ba false
 | x::xs,y::ys=>if x=y then cH xs ys else gg x y
end
mutual
theorem IsT.kept {h h':Jk}(hk:∀b o,o.cls=.type "tuple"->h.get? b=ba o->h'.get? b=ba o):∀ {x:T} {v:HS},IsT h x v->IsT h' x v
 | _,_,.int=>.int
 | _,_,.str=>.str
 | _,_,.tup a1 c1 d1 t1=>.tup (hk _ _ c1 a1) c1 d1 (IsTs.kept hk t1)
theorem IsTs.kept {h h':Jk}(hk:∀b o,o.cls=.type "tuple"->h.get? b=ba o->h'.get? b=ba o):∀ {x:HN T} {v:HN HS},IsTs h x v->IsTs h' x v
 | _,_,.nil=>.nil
 | _,_,.cons a b=>.cons (IsT.kept hk a) (IsTs.kept hk b)
end
def Ew {B:Jd}{s:HV}{d:HZ}(hu:B.units+d < cLine)(hl:∀(x y:T) (u v:HS) (k:IN),x.depth<=d->y.depth<=d->IsT s.heap x u->IsT s.heap y v->gg x y=ba k->LtAt B s u v k) :
  ∀(xs ys:HN T) (us vs:HN HS) (k:IN),T.depths xs<=d->T.depths ys<=d->IsTs s.heap xs us->IsTs s.heap ys vs->cH xs ys=ba k->LexR B s us vs k
 | [],[],_,_,k,_,_,h1,h2,e=>by cases h1; cases h2; cases e; exact .nn
 | [],y::ys,_,_,k,_,_,h1,h2,e=>by cases h1; cases h2; cases e; exact .nc
 | x::xs,[],_,_,k,_,_,h1,h2,e=>by cases h1; cases h2; cases e; exact .cn
 | x::xs,y::ys,_,_,k,d1,d2,h1,h2,e=>by
  simp only[T.depths]at d1 d2;cases h1 with
  | cons p1 q1=>
   cases h2 with
   | cons p2 q2=>
    have he:=uf d x y _ _ B s ∅ p1 p2 hu ∅
    simp only[cH]at e
    by_cases hxy:x=y
    ·rw[IF hxy]at e;rw[JG hxy]at he;exact .eq he (Ew hu hl xs ys _ _ k ∅ ∅ q1 q2 e)
    ·rw[IP hxy]at e;rw[IX hxy]at he;exact .ne he (hl x y _ _ k ∅ ∅ p1 p2 e)
def Ex:∀(d:HZ) (x y:T) (u v:HS) (B:Jd) (s:HV) (k:IN),x.depth<=d->y.depth<=d->IsT s.heap x u->IsT s.heap y v->B.units+d < cLine->gg x y=ba k->LtAt B s u v k:=by
 intro d
 induction d with
 | zero=>
  intro x y u v B s k d1 d2 h1 h2 hu e;cases h1 with
  | int=>cases h2 with
   | int=>cases e; exact λprog w E Q h=>(OL h:wpAny (model prog w) B (compareOp .Lt _ _) Q E s)
   | _=>cases e
  | str=>cases h2 with
   | str=>cases e; exact λprog w E Q h=>(lt_str h:wpAny (model prog w) B (compareOp .Lt _ _) Q E s)
   | _=>cases e
  | tup _ _ _ _=>simp[T.depth]at d1
 | succ d ih=>
  intro x y u v B s k d1 d2 h1 h2 hu e;cases h1 with
  | int=>cases h2 with
   | int=>cases e; exact λprog w E Q h=>(OL h:wpAny (model prog w) B (compareOp .Lt _ _) Q E s)
   | _=>cases e
  | str=>cases h2 with
   | str=>cases e; exact λprog w E Q h=>(lt_str h:wpAny (model prog w) B (compareOp .Lt _ _) Q E s)
   | _=>cases e
  | tup a1 c1 e1 t1=>cases h2 with
   | tup a2 c2 e2 t2=>
    simp only[T.depth]at d1 d2;have hu1:B.in1.units+d < cLine:=by rw[aE]; omega
    exact LtAt.tuples #[_,a1,c1,_,e1] #[_,a2,c2,_,e2] ∅ (Ew hu1 (λx y u v k q1 q2 q3 q4 q5=>ih x y u v B.in1 s k q1 q2 q3 q4 hu1 q5) _ _ _ _ k ∅ ∅ t1 t2 e)
   | _=>cases e
section
variable{prog:IZ}{w:Jg}{A:Jd}{R:PL->HV->Prop}{I S:Ic}{fp wr:HN Ic}{n:HZ}{P:HZ->HS->Prop}{St:HZ->Jk->Prop}{Ok:Jk->Prop}{bt:HZ->HZ->IN}
abbrev v6 (prog:IZ)(w:Jg)(A:Jd)(P:HZ->HS->Prop)(Ok:Jk->Prop)(bt:HZ->HZ->IN):Prop:=
 ∀i j vi vj (s:HV) (Q:HS->HV->Prop) (E:HS->HV->Prop),Ok s.heap->P i vi->P j vj->Q (.bool (bt i j)) s->wpAny (model prog w) A (richCompare .Lt vi vj) Q E s
def v8 (W:Qa prog w A.in1 I fp wr n P St)(hcmp:v6 prog w A.in1 P Ok bt)(hSf:S∉fp)(hok:∀h h',Ok h->(∀b o,b∉wr->b≠S->h.get? b=ba o->h'.get? b=ba o)->Ok h') :
  ∀(k j:HZ) (s:HV) (vb:HS) (c:HZ),n - (j+1)=k->j < n->St (j+1) s.heap->P (argBest bt j) vb->Ok s.heap->s.heap.get? S=ba { cls:=.type "list",dict:=gV,data:=.seq [vb,vb].toArray c,slots:=#[] }->
  (∀v h' tk,P (argBest bt (n - 1)) v->(∀b o,b∉wr->b≠S->s.heap.get? b=ba o->h'.get? b=ba o)->R (.ok (.ret v)) { s with heap:=h',toks:=tk })->
  codeAny (model prog w) A (.builtin "min.loop" #[[.ref I,.none,.ref S],[]]) R s:=by
 have hSw:S∉wr:=λh=>hSf (W.sub _ h)
 have hname:(toString "min" ++ toString ".loop" : JX) = "min.loop":=by decide
 intro k
 induction k with
 | zero=>
  intro j s vb c hk hj hst hPb hO hS hR;have hin:j+1=n:=∅
  refine JA F.entry_min_loop ?_;rw[Jy F.plain_min_loop _];show wpAny _ A.in1 (seqItems? (.ref S) >>= _) _ _ s;refine HP (J1 hS rfl ?_);show wpAny _ A.in1 (tryCatch (pyNext (.ref I)) _ >>= _) _ _ s;refine HP (Np (W.done s _ _ (hin ▸ hst) λh' tk hk'=>?_))
  have hS':=hk' S _ hSw hS;show wpAny _ A.in1 (updateSeq S (λ_=>#[]) >>= _) _ _ _
  refine HP (Ml hS' rfl (HP (LV (HW ?_))));have e:j=n - 1:=∅
  exact hR vb _ tk (e ▸ hPb) λb o hbw hbS e=>(Jl _ _ (Ne.symm hbS)).trans (hk' b o hbw e)
 | succ k ih=>
  intro j s vb c hk hj hst hPb hO hS hR;have hlt:j+1 < n:=∅
  refine JA F.entry_min_loop ?_;rw[Jy F.plain_min_loop _];show wpAny _ A.in1 (seqItems? (.ref S) >>= _) _ _ s;refine HP (J1 hS rfl ?_);show wpAny _ A.in1 (tryCatch (pyNext (.ref I)) _ >>= _) _ _ s;refine HP (Np (W.item (j+1) s _ _ hlt hst λv h' tk hP hst' hk'=>?_))
  have hS':=hk' S _ hSw hS;have hO':Ok h':=hok _ _ hO λb o hb _ e=>hk' b o hb e
  show wpAny _ A.in1 (tryCatch (holding [v,v] (richCompare .Lt v vb >>= _)) _ >>= _) _ _ _;refine HP (Np (JB (HP (hcmp (j+1) (argBest bt j) v vb _ _ _ hO' hP hPb ?_))));refine HP (JB (KO ?_));refine HP (LV (HW ?_));cases hb:bt (j+1) (argBest bt j)with
  | true=>
   simp only[Kd];refine HP (Ml hS' rfl (HP (LV ?_)));rw[hname];refine HW #[Kz F.plain_min_loop _,ih (j+1) _ v _ ∅ hlt (W.frame _ _ _ hst' λb hbf o e=>?_) (by simp only[argBest,hb,Kd]; exact hP) (hok _ _ hO' λb o _ hbS e=>(Jl _ _ (Ne.symm hbS)).trans e) (J6 _ hS' rfl)
    λv' h'' tk'' hP' hk''=>?_]
   ·exact(Jl _ _ (λh:S=b=>hSf (by rw[h]; exact hbf))).trans e
   ·exact hR v' h'' tk'' hP' λb o hbw hbS e=>hk'' b o hbw hbS ((Jl _ _ (Ne.symm hbS)).trans (hk' b o hbw e))
  | false=>
   simp only[IK,JK];refine HP (LV ?_);rw[hname];refine HW #[Kz F.plain_min_loop _,ih (j+1) _ vb c ∅ hlt hst' (by simp only[argBest,hb,IK,JK]; exact hPb) hO' hS' λv' h'' tk'' hP' hk''=>?_]
   exact hR v' h'' tk'' hP' λb o hbw hbS e=>hk'' b o hbw hbS (hk' b o hbw e)
def uk (W:Qa prog w A.in1 I fp wr n P St)(hcmp:v6 prog w A.in1 P Ok bt)(hSf:S∉fp)(hok:∀h h',Ok h->(∀b o,b∉wr->b≠S->h.get? b=ba o->h'.get? b=ba o)->Ok h')(hn:0 < n){s:HV}{c:HZ}(hst:St 0 s.heap)(hO:Ok s.heap)
  (hS:s.heap.get? S=ba { cls:=.type "list",dict:=gV,data:=.seq #[] c,slots:=#[] })
  (hR:∀v h' tk,P (argBest bt (n - 1)) v->(∀b o,b∉wr->b≠S->s.heap.get? b=ba o->h'.get? b=ba o)->R (.ok (.ret v)) { s with heap:=h',toks:=tk }) :
  codeAny (model prog w) A (.builtin "min.loop" #[[.ref I,.none,.ref S],[]]) R s:=by
 have hSw:S∉wr:=λh=>hSf (W.sub _ h)
 have hname:(toString "min" ++ toString ".loop" : JX) = "min.loop":=by decide
 refine JA F.entry_min_loop ?_;rw[Jy F.plain_min_loop _];show wpAny _ A.in1 (seqItems? (.ref S) >>= _) _ _ s;refine HP (J1 hS rfl ?_);show wpAny _ A.in1 (tryCatch (pyNext (.ref I)) _ >>= _) _ _ s;refine HP (Np (W.item 0 s _ _ hn hst λv h' tk hP hst' hk'=>?_))
 have hS':=hk' S _ hSw hS;show wpAny _ A.in1 (updateSeq S (λ_=>[v,v].toArray) >>= _) _ _ _
 refine HP (Ml hS' rfl ?_);rw[hname];have hO':Ok h':=hok _ _ hO λb o hb _ e=>hk' b o hb e
 refine HW #[Kz F.plain_min_loop _,v8 W hcmp hSf hok _ 0 _ v _ rfl hn (W.frame _ _ _ hst' λb hbf o e=>?_) hP (hok _ _ hO' λb o _ hbS e=>(Jl _ _ (Ne.symm hbS)).trans e) (J6 _ hS' rfl) λv' h'' tk'' hP' hk''=>?_]
 ·exact(Jl _ _ (λh:S=b=>hSf (by rw[h]; exact hbf))).trans e
 ·exact hR v' h'' tk'' hP' λb o hbw hbS e=>hk'' b o hbw hbS ((Jl _ _ (Ne.symm hbS)).trans (hk' b o hbw e))
end
section
variable{prog:IZ}{w:Jg}{A:Jd}{E:HS->HV->Prop}{s:HV}
def wa {l:Ic}{items:IM HS}{bt:HZ->HZ->IN}{Q:HS->HV->Prop}(hh:A.handled=gV)(hl:s.heap.IsList l items)(hn:0 < items.size)
  (hcmp:v6 prog w A.in1 (λi v=>items[i]?=ba v) (λh=>∀b o,s.heap.get? b=ba o->h.get? b=ba o) bt)
  (hQ:∀v h' tk,items[argBest bt (items.size - 1)]?=ba v->(∀b o,s.heap.get? b=ba o->h'.get? b=ba o)->Q v { s with heap:=h',toks:=tk }) :
  wpAny (model prog w) A (call (.builtin "min") [.ref l]) Q E s:=by
 have hname:(toString "min" ++ toString ".loop" : JX) = "min.loop":=by decide
 refine call_function_tree F.kind_min F.plain_min F.entry_min (F.args_min1 _) ?_;show wpAny _ A.in1 (M6 "min" ["key","default"] 0 #[[],[]] >>= _) _ _ s;refine HP (Mr (show M6 "min" ["key","default"] 0 #[[],[]]=pure [gV,gV]from rfl) ?_)
 refine HP (HW ?_);refine HP (LK hl ?_);refine HP (Ji ?_);rw[hname];have hlt:l < s.heap.objs.size:=let ⟨_,ho,_⟩:=hl; Iv ho
 have hne:l≠s.heap.objs.size:=IA hlt;have W:=QD (prog:=prog) (w:=w) (A:=A.in1) hh s.heap.objs.size l hne items;have hsz:∀o:Kb,(s.heap.push o).objs.size=s.heap.objs.size+1:=λo=>by simp[Heap.push]
 refine HW #[Kz F.plain_min_loop _,uk (A:=A) (Ok:=λh=>∀b o,s.heap.get? b=ba o->h.get? b=ba o) W hcmp (λhm=>?_) (λh h' ho hk b o e=>?_) hn #[?_,?_] (λb o e=>HR _ (HR _ e)) (Im _ rfl) λv h' tk hv hk=>?_]
 ·rcases IC.mp hm with e|hm
  ·exact absurd (show(s.heap.push _).objs.size=s.heap.objs.size from e) (by rw[hsz]; exact Nat.succ_ne_self _)
  ·have e:(s.heap.push _).objs.size=l:=Ik.mp hm;rw[hsz]at e;exact absurd hlt (by rw[<- e]; exact O5.mpr (Lf _))
 ·have hb:=Iv e;refine hk b o (λz=>?_) (λz=>?_) (ho b o e)
  ·rw[Ik.mp z]at hb; exact J3 _ hb
  ·have z':b=(s.heap.push _).objs.size:=z;rw[hsz]at z';rw[z']at hb;exact absurd hb (O5.mpr (Lf _))
 ·exact#[_,HR _ (Im _ rfl),rfl,rfl]
 ·obtain⟨o,ho,hc⟩:=hl;exact#[o,HR _ (HR _ ho),hc]
 ·refine hQ v h' tk hv λb o e=>hk b o (λz=>?_) (λz=>?_) (HR _ (HR _ e))
  ·have hb:=Iv e;rw[Ik.mp z]at hb; exact J3 _ hb
  ·have hb:=Iv e;have z':b=(s.heap.push _).objs.size:=z;rw[hsz]at z';rw[z']at hb;exact absurd hb (O5.mpr (Lf _))
end
open PySem.W (KasT kas_sort kas_ask kas_cmp kas_item kas_asc kas_desc kas_tail3 kas_descPart kas_count kas_place kas_bin kas_rev)
abbrev bv {α:Type}(lt:HZ->HZ->IN):KasT α->α
 | .ret a=>a
 | .ask i j k=>bv lt (k (lt i j))
abbrev OkK {α:Type}(n:HZ)(P:α->Prop):KasT α->Prop
 | .ret a=>P a
 | .ask i j k=>i < n/\j < n/\∀b,OkK n P (k b)
def oF {α:Type}{n:HZ}{P:α->Prop}{lt:HZ->HZ->IN}:∀(t:KasT α),OkK n P t->P (bv lt t)
 | .ret _,h=>h
 | .ask i j k,h=>oF (k (lt i j)) (h.2.2 _)
def mQ {α:Type}{n:HZ}{P:α->Prop}{lt:HZ->HZ->IN}{t:KasT α}(h:OkK n P t):P (bv lt t):=oF t h
def OkK.bind {α β:Type}{n:HZ}{P:α->Prop}{P':β->Prop}{f:α->KasT β}:∀ {t:KasT α},OkK n P t->(∀a,P a->OkK n P' (f a))->OkK n P' (t.bind f)
 | .ret a,h,hf=>hf a h
 | .ask _ _ _,h,hf=>#[h.1,h.2.1,λb=>OkK.bind (h.2.2 b) hf]
def lv {α:Type}{n:HZ}{P:α->Prop}{lt:HZ->HZ->IN}{cmp:HZ->HZ->(IN->HV->Prop)->HV->Prop}{Q:α->HV->Prop}{s:HV}(hc:∀i j,i < n->j < n->∀C:IN->HV->Prop,C (lt i j) s->cmp i j C s) :
  ∀ {t:KasT α},OkK n P t->Q (bv lt t) s->t.kasWp cmp Q s
 | .ret _,_,h=>h
 | .ask i j k,h,hq=>hc i j h.1 h.2.1 _ (lv hc (h.2.2 _) hq)
abbrev Pm (n:HZ)(p:IM HZ):Prop:=p.toList.Perm (ID n)
def Pm.size {n:HZ}{p:IM HZ}(h:Pm n p):p.size=n:=by rw[<- Iw,h.length_eq,IV]
def Pm.lt {n:HZ}{p:IM HZ}(h:Pm n p)(hn:0 < n)(i:HZ):p.getD i 0 < n:=by
 by_cases hi:i < p.size
 ·have e:p.getD i 0=p[i]:=by simp[Mn,hi]
  rw[e];have:p[i]∈p.toList:=by simp
  exact IR.mp (h.mem_iff.mp this)
 ·have e:p.getD i 0=0:=by simp[Mn,hi]
  rw[e]; exact hn
def Pm.rev {n:HZ}{p:IM HZ}(h:Pm n p)(i j:HZ):Pm n (kas_rev p i j):=(Nq.mp (mirror_perm p i j _)).trans h
def Pm.bub {n:HZ}{p:IM HZ}(h:Pm n p)(i j:HZ):Pm n (bubble p i j):=(Nq.mp (bubble_perm p i j)).trans h
section
variable{n:HZ}(hn:0 < n)
include hn
def qM {p:IM HZ}(h:Pm n p):∀(f m:HZ),OkK n (λ_=>OX) (kas_asc p f m)
 | 0,_=>trivial
 | f+1,m=>#[h.lt hn _,h.lt hn _,λb=>by
  show OkK n _ (if b=true then _ else _)
  split
  ·trivial
  ·exact qM h f (m+1)]
def jr:∀(f:HZ) (p:IM HZ) (m q:HZ),Pm n p->OkK n (λr=>Pm n r.1) (kas_desc f p m q)
 | 0,p,m,q,h=>h
 | f+1,p,m,q,h=>#[h.lt hn _,h.lt hn _,λb=>by
  show OkK n _ (if b=true then _ else _)
  split
  ·split
   ·exact jr f _ _ _ (h.rev _ _)
   ·exact jr f _ _ _ h
  ·refine#[h.lt hn _,h.lt hn _,λc=>?_]
   show OkK n _ (if c=true then _ else _)
   split
   ·exact h
   ·exact jr f _ _ _ h]
def sd {p:IM HZ}(h:Pm n p)(m k:HZ):OkK n (λr=>Pm n r.2) (kas_tail3 m k p):=by
 unfold kas_tail3;exact OkK.bind (qM hn (h.rev 0 m) _ _) λa _=>h.rev 0 m
def jb {p:IM HZ}(h:Pm n p)(m k:HZ):OkK n (λr=>Pm n r.2) (kas_descPart m k p):=by
 unfold kas_descPart;refine OkK.bind (jr hn _ _ _ _ h) λr hr=>?_
 split
 ·exact sd hn (hr.rev _ _) _ _
 ·exact sd hn hr _ _
def wb {p:IM HZ}(h:Pm n p)(k:HZ):OkK n (λr=>Pm n r.2) (kas_count k p):=by
 unfold kas_count;refine OkK.bind (qM hn h _ _) λm _=>?_
 split
 ·exact h
 ·split
  ·refine#[h.lt hn _,h.lt hn _,λc=>?_]
   show OkK n _ (if c=true then _ else _)
   split
   ·exact h
   ·exact jb hn (h.rev _ _) _ _
  ·exact jb hn h _ _
def jS {p:IM HZ}(h:Pm n p)(k:HZ):∀(f l r:HZ),OkK n (λ_=>OX) (kas_place p k f l r)
 | 0,_,_=>trivial
 | f+1,l,r=>by
  unfold kas_place;split
  ·trivial
  ·refine#[h.lt hn _,h.lt hn _,λc=>?_]
   show OkK n _ (if c=true then _ else _)
   split
   ·exact jS h k f _ _
   ·exact jS h k f _ _
def wc:∀(f:HZ) (p:IM HZ) (k:HZ),Pm n p->OkK n (Pm n) (kas_bin f p k)
 | 0,p,k,h=>h
 | f+1,p,k,h=>by
  unfold kas_bin;exact OkK.bind (jS hn h k _ _ _) λl _=>wc f _ _ (h.bub _ _)
def jt:OkK n (Pm n) (kas_sort n):=by
 unfold kas_sort;refine OkK.bind (wb hn (by unfold Pm; simp) _) λr hr=>?_
 split
 ·exact wc hn _ _ _ hr
 ·exact hr
end
section
variable{prog:IZ}{w:Jg}{A:Jd}{E:HS->HV->Prop}{s:HV}{vs:HN HS}
abbrev c8 (lt:HZ->HZ->IN){β:Type}(d:β)(vs:HN β):HN β:=if vs.length < 2 then vs else(bv lt (kas_sort vs.length)).toList.map λi=>vs.getD i d
def oG {lt:HZ->HZ->IN}{β:Type}{d:β}{vs:HN β}:(c8 lt d vs).length=vs.length:=by
 unfold c8;split
 ·rfl
 ·rw[HQ,Iw,(mQ (lt:=lt) (jt (n:=vs.length) ∅)).size]
def lw {a:Ic}{n:HZ}{lt:HZ->HZ->IN}{κ:NQ}{P:RY->HV->Prop}(ho:s.heap.get? a=ba (seqObj "list" vs.toArray n))(h64:vs.length < 64)
  (hkind:2<=vs.length->∀h',(∀b o,b≠a->s.heap.get? b=ba o->h'.get? b=ba o)->∀Q:NQ->HV->Prop,Q κ { s with heap:=h' }->wpAny (model prog w) A (keyKind' vs.toArray) Q (λ_ _=>JR) { s with heap:=h' })
  (hlt:2<=vs.length->∀h',(∀b o,b≠a->s.heap.get? b=ba o->h'.get? b=ba o)->∀i j,i < vs.length->j < vs.length->∀Q:IN->HV->Prop,Q (lt i j) { s with heap:=h' }->
   wpAny (model prog w) A (keyLt' κ (vs.getD i Jn) (vs.getD j Jn)) Q (λ_ _=>JR) { s with heap:=h' })
  (h:∀h' c,(∀b o,b≠a->s.heap.get? b=ba o->h'.get? b=ba o)->h'.get? a=ba (seqObj "list" (c8 lt Jn vs).toArray c)->P (.done (.ret .none)) { s with heap:=h' }) :
  wpAny (model prog w) A (Lg.«list.sort» #[[.ref a],[]]) P E s:=by
 have ha:a < s.heap.objs.size:=Iv ho;obtain⟨e1,ho1⟩ : ∃e1,(s.heap.update a (JZ λ_=>(#[]:IM HS))).get? a=ba (seqObj "list" #[] e1):=#[_,N8 ho λ_=>#[]]
 have keep:∀b o,b≠a->s.heap.get? b=ba o->(((s.heap.update a (JZ λ_=>(#[]:IM HS))).push (seqObj "tuple" vs.toArray 0)).push (seqObj "list" #[] 0)).get? b=ba o:=λb o hb e=>
  HR _ (HR _ ((Mb _ _ _ _ hb).trans e))
 have ho3:(((s.heap.update a (JZ λ_=>(#[]:IM HS))).push (seqObj "tuple" vs.toArray 0)).push (seqObj "list" #[] 0)).get? a=ba (seqObj "list" #[] e1):=HR _ (HR _ ho1)
 have fin:∀(out:HN HS),out.length=vs.length->out=c8 lt Jn vs->P (.done (.ret .none)) { s with heap:=(((s.heap.update a (JZ λ_=>(#[]:IM HS))).push (seqObj "tuple" vs.toArray 0)).push (seqObj "list" #[] 0)).update a (JZ λ_=>out.toArray) }:=λout hl e=>by
  obtain⟨c2,hc2⟩ : ∃c2,((((s.heap.update a (JZ λ_=>(#[]:IM HS))).push (seqObj "tuple" vs.toArray 0)).push (seqObj "list" #[] 0)).update a (JZ λ_=>out.toArray)).get? a=ba (seqObj "list" out.toArray c2):=#[_,N8 ho3 λ_=>out.toArray]
  exact h _ c2 (λb o hb q=>(Mb _ _ _ _ hb).trans (keep b o hb q)) (e ▸ hc2)
 rw[list_sort_plain];refine HP (Px ho rfl ?_);refine HP (NL ho rfl ?_ (by rw[Iu,Jq]; omega) (JS _))
 refine HP (Qd ho1 rfl ?_);refine HP (Nj ?_ (by show vs.length<=_; rw[Jq]; omega))
 refine HP (NM ?_ (JS _));refine JB ?_;show wpAny (model prog w) A _ P E { s with heap:=((s.heap.update a (JZ λ_=>(#[]:IM HS))).push (seqObj "tuple" vs.toArray 0)).push (seqObj "list" #[] 0) }
 dsimp only
 by_cases h2:vs.length < 2
 ·rw[IF (by rw[Iu]; exact h2),IF (by rw[Iu]; exact h2)]
  refine HP (HW (HP ?_));rw[StateT.run_pure];refine HW ?_;dsimp only;refine HP (Qd ho3 rfl ?_);have hs:((arrOf (SortSt.mk' general' (vs.toArray.zip vs.toArray) #[] 7 gV)).map (·.2))=vs.toArray:=by
   show(vs.toArray.zip vs.toArray).map (·.2)=vs.toArray
   apply Array.toList_inj.mp;rw[NR,Array.toList_zip];exact PY (Ih _)
  rw[hs];refine HP (NL ho3 rfl ?_ (JS _) (by rw[Iu,Jq]; omega))
  simp only[Py,IK,JK];exact HW (fin vs rfl (by unfold c8; rw[IF h2]))
 ·have hn2:¬ vs.toArray.size < 2:=by rw[Iu]; exact h2
  have h2':2<=vs.length:=∅
  rw[IP hn2,IP hn2];refine HP (Ks (hkind h2' _ keep (λ(k:NQ) (s':HV)=>k=κ/\s'={ s with heap:=((s.heap.update a (JZ λ_=>(#[]:IM HS))).push (seqObj "tuple" vs.toArray 0)).push (seqObj "list" #[] 0) }) #[rfl,rfl]) ?_ λ_ _ x=>x.elim)
  rintro _ _ ⟨rfl,rfl⟩;refine HP (Ks (PySem.W.kat_run (Q:=λst' s'=>∃p:IM HZ,p.size=vs.length/\arrOf st'=p.map (kas_item (vs.toArray.zip vs.toArray))/\failedOf st'=gV/\p=bv lt (kas_sort vs.length)/\s'={ s with heap:=((s.heap.update a (JZ λ_=>(#[]:IM HS))).push (seqObj "tuple" vs.toArray 0)).push (seqObj "list" #[] 0) })
   (G:=λp s'=>p=bv lt (kas_sort vs.length)/\s'={ s with heap:=((s.heap.update a (JZ λ_=>(#[]:IM HS))).push (seqObj "tuple" vs.toArray 0)).push (seqObj "list" #[] 0) }) rfl h2' h64 (λp' st' s' a1 a2 a3 a4=>#[p',a1,a2,a3,a4])
   (lv (lt:=lt) (λi j hi hj C hC=>hlt h2' _ keep i j hi hj C hC) (jt (n:=vs.length) ∅) #[rfl,rfl])) ?_ λ_ _ e=>e)
  rintro⟨⟨⟩,st'⟩ s' ⟨p,hp,har,hf,ep,rfl⟩;dsimp only;have hout:=PySem.W.kat_snds rfl har;have hsz:(p.toList.map λi=>vs.getD i Jn).length=vs.length:=by rw[HQ,Iw,hp]
  rw[hout];refine HP (Qd ho3 rfl ?_);refine HP (NL ho3 rfl ?_ (JS _) (by rw[Iu,hsz,Jq]; omega))
  rw[hf];simp only[Py,IK,JK];exact HW (fin _ hsz (by unfold c8; rw[IP h2,ep]))
def um {x:HS}{lt:HZ->HZ->IN}{κ:NQ}{Q:HS->HV->Prop}(h64:vs.length < 64)
  (hcol:∀Q':HN HS->HV->Prop,(∀h' tk,(∀b o,s.heap.get? b=ba o->h'.get? b=ba o)->s.heap.objs.size<=h'.objs.size->Q' vs { s with heap:=h',toks:=tk })->wpAny (model prog w) A.in1 (collect x) Q' E s)
  (hkind:2<=vs.length->∀h' tk,(∀b o,s.heap.get? b=ba o->h'.get? b=ba o)->∀Q:NQ->HV->Prop,Q κ { s with heap:=h',toks:=tk }->wpAny (model prog w) A.in1.in1 (keyKind' vs.toArray) Q (λ_ _=>JR) { s with heap:=h',toks:=tk })
  (hlt:2<=vs.length->∀h' tk,(∀b o,s.heap.get? b=ba o->h'.get? b=ba o)->∀i j,i < vs.length->j < vs.length->∀Q:IN->HV->Prop,Q (lt i j) { s with heap:=h',toks:=tk }->
   wpAny (model prog w) A.in1.in1 (keyLt' κ (vs.getD i Jn) (vs.getD j Jn)) Q (λ_ _=>JR) { s with heap:=h',toks:=tk })
  (h:∀D h' tk c,(∀b o,s.heap.get? b=ba o->h'.get? b=ba o)->s.heap.objs.size<=D->h'.get? D=ba (seqObj "list" (c8 lt Jn vs).toArray c)->Q (.ref D) { s with heap:=h',toks:=tk }) :
  wpAny (model prog w) A (call (.builtin "sorted") [x]) Q E s:=by
 refine L6 Rw Rh Ri (Rj _) ?_;unfold Lg.«sorted»;refine HP (m:=checkCount "sorted" 1 1 _) (HW ?_);refine HP (hcol _ λh1 tk1 hk1 hle=>?_)
 refine HP (NM ?_ (by rw[Jq]; omega))
 have hoL:(h1.push (seqObj "list" vs.toArray 0)).get? h1.objs.size=ba (seqObj "list" vs.toArray 0):=Im _ rfl;have kp:∀b o,s.heap.get? b=ba o->(h1.push (seqObj "list" vs.toArray 0)).get? b=ba o:=λb o e=>HR _ (hk1 b o e)
 have hne:∀b o,s.heap.get? b=ba o->b≠h1.objs.size:=λb o e=>IA (IQ (Iv e) hle)
 show wpAny _ _ _ _ _ { s with heap:=h1.push (seqObj "list" vs.toArray 0),toks:=tk1 }
 refine HP (JB (Jx QE #[_,hoL,rfl] Qj ?_ (QF _)));refine lw (s:={ s with heap:=h1.push (seqObj "list" vs.toArray 0),toks:=tk1 }) (lt:=lt) (κ:=κ) hoL h64 (λh2 h' hk Q hq=>hkind h2 h' tk1 (λb o e=>hk b o (hne b o e) (kp b o e)) Q hq)
  (λh2 h' hk i j hi hj Q hq=>hlt h2 h' tk1 (λb o e=>hk b o (hne b o e) (kp b o e)) i j hi hj Q hq) λh' c hk hD=>?_
 exact#[_,rfl,HW #[_,rfl,h _ h' tk1 c (λb o e=>hk b o (hne b o e) (kp b o e)) hle hD]]
end
end Mi
namespace Mi
open PySem PySem.Spec PyProof.Rows L2
abbrev eT:T->JX
 | .int _=>"int"|.str _=>"str"|.tup _=>"tuple"
abbrev bc:T->HY T
 | .tup (x::_)=>ba x
 | _=>gV
abbrev qN (ks:HN T):HY HZ:=
 if ks.all (λk=>eT k == "int")then ba 0
 else if ks.all (λk=>eT k == "str")then ba 1
 else if ks.all (λk=>(bc k).any λf=>eT f == "int")then ba 2
 else if ks.all (λk=>(bc k).any λf=>eT f == "str")then ba 3
 else if ks.all (λk=>(bc k).any λf=>eT f == "tuple")then ba 4
 else gV
abbrev sf:HZ->NQ
 | 0=>oneType'|1=>oneType'|2=>tuples' true|3=>tuples' true|_=>tuples' false
abbrev dU (ks:HN T):IN:=ks.all λx=>ks.all λy=>(gg x y).isSome
abbrev kL (ks:HN T)(i j:HZ):IN:=(gg (ks.getD i (.int 0)) (ks.getD j (.int 0))).getD false
def dc {ks:HN T}(h:dU ks=true){i j:HZ}(hi:i < ks.length)(hj:j < ks.length):gg (ks[i]) (ks[j])=ba (kL ks i j):=by
 unfold dU at h;rw[IG]at h;have h1:=h ks[i] (Jh hi);rw[IG]at h1;have h2:=h1 ks[j] (Jh hj);unfold kL;rw[show ks.getD i (.int 0)=ks[i] by simp[hi],show ks.getD j (.int 0)=ks[j] by simp[hj]]
 obtain⟨b,hb⟩:=Jv.mp h2;rw[hb]; rfl
abbrev Ho (c:HZ)(x y:T):Prop:=match c with|0=>eT x = "int"/\eT y = "int"|1=>eT x = "str"/\eT y = "str"|2=>∃f g,bc x=ba f/\bc y=ba g/\eT f = "int"/\eT g = "int"|3=>∃f g,bc x=ba f/\bc y=ba g/\eT f = "str"/\eT g = "str"|_=>∃f g,bc x=ba f/\bc y=ba g
section
variable{prog:IZ}{w:Jg}{A:Jd}{E:HS->HV->Prop}{s:HV}
def sg {h:Jk}{k:T}{v:HS}(x:IsT h k v):QZ (model prog w) h (typeOf v) (.type (eT k)):=by
 cases x with
 | int=>exact .now
 | str=>exact .now
 | tup a c d t=>exact c ▸ ((RZ a).andThen .now:QZ (model prog w) h (typeOf (.ref _)) _)
def IsTs.mem {h:Jk}:∀ {ks:HN T} {vs:HN HS},IsTs h ks vs->∀v∈vs,∃k∈ks,IsT h k v
 | _,_,.cons a b,v,hv=>by
  rcases IC.mp hv with rfl|hv
  ·exact#[_,.head _,a]
  ·obtain⟨k,hk,q⟩:=IsTs.mem b v hv;exact#[k,.tail _ hk,q]
def lx {h:Jk}{p:T->IN}:∀ {ks:HN T} {vs:HN HS},IsTs h ks vs->ks.all (λk=>(bc k).any p)=true->∃fs,PySem.W.KatTups h vs fs/\fs.length=vs.length/\∀v∈fs,∃k,p k=true/\IsT h k v
 | _,_,.nil,_=>#[[],.nil,rfl,λv hv=>nomatch hv]
 | k::ks,_,.cons a b,hp=>by
  rw[Jw,HX]at hp;obtain⟨fs,h1,h2,h3⟩:=lx b hp.2;cases a with
  | int=>simp[bc]at hp
  | str=>simp[bc]at hp
  | @tup kk ad o items n a1 c1 d1 t1=>
   cases kk with
   | nil=>simp[bc]at hp
   | cons x xs=>
    have hx:p x=true:=by simpa [bc]using hp.1
    generalize hit:items.toList=its at t1;cases t1 with
    | @cons _ u _ us q1 q2=>
     refine#[u::fs,.cons a1 c1 d1 (by rw[<- JF,hit]; rfl) h1,by simp[h2],λv hv=>?_]
     rcases IC.mp hv with rfl|hv
     ·exact#[x,hx,q1]
     ·exact h3 v hv
def we {ks:HN T}{vs:HN HS}{c:HZ}{Q:NQ->HV->Prop}(h:IsTs s.heap ks vs)(h2:2<=vs.length)(hc:qN ks=ba c)(hq:Q (sf c) s):wpAny (model prog w) A (keyKind' vs.toArray) Q E s:=by
 have one:∀ty:JX,(J5 ty != J5 "tuple")=true->ks.all (λk=>eT k==ty)=true->Q oneType' s->wpAny (model prog w) A (keyKind' vs.toArray) Q E s:=λty hty hall hq=>
  PySem.W.kas_kind (T:=.type ty) h2 (λv hv=>by
   obtain⟨k,hk,x⟩:=h.mem v hv;have:=eq_of_beq (IG.mp hall k hk);exact this ▸ sg x) hty (by simp) hq
 have tup:∀ty:JX,ks.all (λk=>(bc k).any λf=>eT f==ty)=true->Q (tuples' (J5 ty != J5 "tuple")) s->wpAny (model prog w) A (keyKind' vs.toArray) Q E s:=λty hall hq=>by
  obtain⟨fs,h1,h3,h4⟩:=lx h hall;exact PySem.W.kat_kind (T:=.type ty) h1 ∅ (λv hv=>by
   obtain⟨k,hk,x⟩:=h4 v hv;have:=eq_of_beq hk;exact this ▸ sg x) (by simp) hq
 unfold qN at hc;split at hc
 ·cases hc; exact one "int" #v[] (by assumption) hq
 ·split at hc
  ·cases hc; exact one "str" #v[] (by assumption) hq
  ·split at hc
   ·cases hc; exact tup "int" (by assumption) hq
   ·split at hc
    ·cases hc; exact tup "str" (by assumption) hq
    ·split at hc
     ·cases hc; exact tup "tuple" (by assumption) hq
     ·cases hc
def oH {b:IN}{Q:IN->HV->Prop}{d:HZ}(hu:A.units+d < cLine):∀(xs ys:HN T) (us vs:HN HS) (i:HZ) (k:IN),T.depths xs<=d->T.depths ys<=d->IsTs s.heap xs us->IsTs s.heap ys vs->cH xs ys=ba k->
  (b=true->i=0->∀x y,xs.head?=ba x->ys.head?=ba y->(eT x = "int"/\eT y = "int")\/(eT x = "str"/\eT y = "str"))->Q k s->PySem.W.KatLex prog w A b (decide (us.length < vs.length)) Q (us.zip vs) i s
 | [],[],_,_,i,k,_,_,h1,h2,e,hb,hq=>by cases h1; cases h2; cases e; exact N9 (by simpa using hq)
 | [],y::ys,_,_,i,k,_,_,h1,h2,e,hb,hq=>by cases h1; cases h2; cases e; exact N9 (by simpa using hq)
 | x::xs,[],_,_,i,k,_,_,h1,h2,e,hb,hq=>by cases h1; cases h2; cases e; exact N9 (by simpa using hq)
 | x::xs,y::ys,_,_,i,k,d1,d2,h1,h2,e,hb,hq=>by
  simp only[T.depths]at d1 d2;cases h1 with
  | @cons _ u _ us p1 q1=>
   cases h2 with
   | @cons _ v _ vs p2 q2=>
    have he:=uf d x y _ _ A s ∅ p1 p2 hu ∅
    rw[LC];refine PySem.W.kat_cons (he prog w _ _ ?_);simp only[cH]at e;have hlen:decide ((u::us).length < (v::vs).length)=decide (us.length < vs.length):=by simp
    rw[hlen]
    by_cases hxy:x=y
    ·rw[IF hxy]at e;rw[JG hxy];exact PySem.W.kat_yes (oH hu xs ys us vs (i+1) k ∅ ∅ q1 q2 e (λ_ z=>absurd z (PU _)) hq)
    ·rw[IP hxy]at e;rw[IX hxy];refine PySem.W.kat_no ?_
     by_cases hb0:b=true/\i=0
     ·obtain⟨rfl,rfl⟩:=hb0;rcases hb rfl rfl x y rfl rfl with⟨hx,hy⟩|⟨hx,hy⟩
      ·cases p1 with
       | int=>cases p2 with
        | int=>cases e; exact oneLt_int hq
        | _=>exact absurd hy (by simp[eT])
       | _=>exact absurd hx (by simp[eT])
      ·cases p1 with
       | str=>cases p2 with
        | str=>cases e; exact oneLt_str hq
        | _=>exact absurd hy (by simp[eT])
       | _=>exact absurd hx (by simp[eT])
     ·have hf:(b&&i==0)=false:=by
       cases b with
       | false=>rfl
       | true=>
        have:i≠0:=λz=>hb0 #[rfl,z]
        simpa using this
      rw[hf];exact PySem.W.kat_one _ _ ((Ex d x y _ _ A s k ∅ ∅ p1 p2 hu e) prog w _ _ hq)
def sh {c d:HZ}{x y:T}{u v:HS}{k:IN}{Q:IN->HV->Prop}(hu:A.units+d < cLine)(d1:x.depth<=d)(d2:y.depth<=d)(h1:IsT s.heap x u)(h2:IsT s.heap y v)(e:gg x y=ba k)
  (hc:Ho c x y)
  (hq:Q k s):wpAny (model prog w) A (keyLt' (sf c) u v) Q E s:=by
 have tup:∀b:IN,(∃f g,bc x=ba f/\bc y=ba g/\(b=true->(eT f = "int"/\eT g = "int")\/(eT f = "str"/\eT g = "str")))->wpAny (model prog w) A (keyLt' (tuples' b) u v) Q E s:=by
  rintro b ⟨f,g,hf,hg,hb⟩;cases h1 with
  | int=>cases hf
  | str=>cases hf
  | @tup xs a o items n a1 c1 e1 t1=>
   cases h2 with
   | int=>cases hg
   | str=>cases hg
   | @tup ys a' o' items' n' a2 c2 e2 t2=>
    simp only[T.depth]at d1 d2;refine PySem.W.kat_lt a1 e1 a2 e2 ?_;have:=oH (prog:=prog) (w:=w) (b:=b) (Q:=Q) hu xs ys items.toList items'.toList 0 k ∅ ∅ t1 t2 e (λhb' _ p q hp hq'=>by
     cases xs with
     | nil=>cases hp
     | cons x0 xs=>cases ys with
      | nil=>cases hq'
      | cons y0 ys=>cases hp; cases hq'; cases hf; cases hg; exact hb hb') hq
    simpa using this
 match c,hc with
 | 0,#[hx,hy]=>
  cases h1 with
  | int=>cases h2 with
   | int=>cases e; exact PySem.W.kat_lt_int hq
   | _=>exact absurd hy (by simp[eT])
  | _=>exact absurd hx (by simp[eT])
 | 1,#[hx,hy]=>
  cases h1 with
  | str=>cases h2 with
   | str=>cases e; exact PySem.W.kas_lt_str hq
   | _=>exact absurd hy (by simp[eT])
  | _=>exact absurd hx (by simp[eT])
 | 2,#[f,g,h1',h2',h3,h4]=>exact tup true #[f,g,h1',h2',λ_=>.inl #[h3,h4]]
 | 3,#[f,g,h1',h2',h3,h4]=>exact tup true #[f,g,h1',h2',λ_=>.inr #[h3,h4]]
 | n+4,#[f,g,h1',h2']=>exact tup false #[f,g,h1',h2',λz=>nomatch z]
end
def si {ks:HN T}{c:HZ}(h:qN ks=ba c){x y:T}(hx:x∈ks)(hy:y∈ks) :
  Ho c x y:=by
 have one:∀ {ty:JX},ks.all (λk=>eT k==ty)=true->eT x=ty/\eT y=ty:=λha=>#[eq_of_beq (IG.mp ha x hx),eq_of_beq (IG.mp ha y hy)]
 have fst:∀ {ty:JX},ks.all (λk=>(bc k).any λf=>eT f==ty)=true->∃f g,bc x=ba f/\bc y=ba g/\eT f=ty/\eT g=ty:=λ{ty} ha=>by
  have h1:=IG.mp ha x hx;have h2:=IG.mp ha y hy;cases e1:bc x with
  | none=>rw[e1]at h1; cases h1
  | some f=>
   cases e2:bc y with
   | none=>rw[e2]at h2; cases h2
   | some g=>
    rw[e1]at h1; rw[e2]at h2
    exact#[f,g,rfl,rfl,eq_of_beq (by simpa using h1),eq_of_beq (by simpa using h2)]
 unfold qN at h;split at h
 ·cases h; exact one (by assumption)
 ·split at h
  ·cases h; exact one (by assumption)
  ·split at h
   ·cases h; exact fst (by assumption)
   ·split at h
    ·cases h; exact fst (by assumption)
    ·split at h
     ·cases h;obtain⟨f,g,h1,h2,_⟩:=fst (by assumption)
      exact#[f,g,h1,h2]
     ·cases h
abbrev dG (S:aa):W->HY (HN W)
 | .tup xs=>ba xs
 | .ref i=>match eY S i with
  | some xs=>ba xs
  | none=>(iL S i).map λU=>U.map λp=>p.1.w
 | _=>gV
abbrev bK:HZ:=8
abbrev gy (ks:HN T):IN:=decide (ks.length < 64)&&decide (T.depths ks<=bK)&&(decide (ks.length < 2)||((qN ks).isSome&&dU ks))
abbrev eM (xs:HN W)(S:aa):HY (W×aa):=match xs with
 | [x]=>match dG S x with
  | some ws=>match W.ts ws with
   | some ks=>if gy ks then ba (.ref S.length,S++[.lst (c8 (kL ks) .non ws)])else gV
   | none=>gV
  | none=>gV
 | _=>gV
abbrev ly (xs:HN W)(S:aa):HY (W×aa):=match xs with
 | [.ref i]=>match iL S i with
  | some U=>ba (.ref S.length,S++[.lst (U.map λp=>p.1.w)])
  | none=>gM [.ref i] S
 | xs=>gM xs S
abbrev oJ (xs:HN W)(S:aa):HY (W×aa):=match xs with
 | [.ref i]=>match iL S i with
  | some U=>ba (.int U.length,S)
  | none=>nY [.ref i] S
 | xs=>nY xs S
abbrev iN (ks:HN T):HZ:=argBest (kL ks) (ks.length - 1)
abbrev wf (xs:HN W)(S:aa):HY (W×aa):=match xs with
 | [.ref i]=>match eY S i with
  | some ws=>match W.ts ws with
   | some ks=>if T.depths ks<=bK/\dU ks=true then(ws[iN ks]?).map λw=>(w,S)else gV
   | none=>gV
  | none=>gV
 | _=>gV
abbrev gA:HN W->HY (HN IN)
 | []=>ba []
 | .bl b::ws=>(gA ws).map (b :: ·)
 | _::_=>gV
abbrev Cv (xs:HN W)(S:aa):HY (W×aa):=match xs with
 | [.ref i]=>match eY S i with
  | some ws=>(gA ws).map λbs=>(.bl (bs.all id),S)
  | none=>gV
 | _=>gV
section
variable{X:Cx}{J:HN (Ic×Kb)}{Y:L2.St}{H:Hp}{s:HV}{A:HN Ic}{S:aa}
def RelL.pick {K:Ij}{ws:HN W}{vs:HN V}(r:RelL K A H ws vs)(d:W)(d':V):∀(is:HN HZ),(∀i∈is,i < ws.length)->RelL K A H (is.map λi=>ws.getD i d) (is.map λi=>vs.getD i d')
 | [],_=>.nil
 | i::is,h=>by
  have hi:=h i (.head _);obtain⟨v,h1,h2⟩:=r.get (Ig hi);refine .cons ?_ (RelL.pick r d d' is λj hj=>h j (.tail _ hj))
  have e1:ws.getD i d=ws[i]:=by simp[hi]
  have e2:vs.getD i d'=v:=by simp[h1]
  show Rel K A H (ws.getD i d) (vs.getD i d');rw[e1,e2]; exact h2
def Vals.pick {vs:HN V}{us:HN HS}(r:Vals vs us)(d:V)(d':HS):∀(is:HN HZ),(∀i∈is,i < vs.length)->Vals (is.map λi=>vs.getD i d) (is.map λi=>us.getD i d')
 | [],_=>.nil
 | i::is,h=>by
  have hi:=h i (.head _);obtain⟨v,h1,h2⟩:=L2.Vals.get r (Ig hi);refine .cons ?_ (Vals.pick r d d' is λj hj=>h j (.tail _ hj))
  have e1:vs.getD i d=vs[i]:=by simp[hi]
  have e2:us.getD i d'=v:=by simp[h1]
  show L2.RelV (vs.getD i d) (us.getD i d');rw[e1,e2]; exact h2
def ju {n:HZ}{lt:HZ->HZ->IN}(hn:0 < n):∀i∈(bv lt (Ly n)).toList,i < n:=λi hi=>IR.mp ((mQ (lt:=lt) (jt hn)).mem_iff.mp hi)
def wg {K:Ij}{lt:HZ->HZ->IN}{ws:HN W}{vs:HN V}(r:RelL K A H ws vs):RelL K A H (c8 lt .non ws) (c8 lt .non vs):=by
 unfold c8;rw[r.length];split
 ·exact r
 ·exact r.pick _ _ _ λi hi=>by rw[r.length]; exact ju ∅ i hi
def uq {lt:HZ->HZ->IN}{vs:HN V}{us:HN HS}(r:Vals vs us):Vals (c8 lt .non vs) (c8 lt .none us):=by
 unfold c8;rw[L2.Vals.length r];split
 ·exact r
 ·exact Vals.pick r _ _ _ λi hi=>by rw[L2.Vals.length r]; exact ju ∅ i hi
def oK {prog:IZ}{w:Jg}{B:Jd}{E:HS->HV->Prop}{l:Ic}{vs:HN HS}{Q:HN HS->HV->Prop}(hl:Pc s.heap l vs.toArray)(hsz:vs.length<=sizeLine)
  (h:∀h' tk,(∀b o,s.heap.get? b=ba o->h'.get? b=ba o)->s.heap.objs.size<=h'.objs.size->Q vs { s with heap:=h',toks:=tk }):wpAny (model prog w) B (collect (.ref l)) Q E s:=by
 obtain⟨o,ho,hc,n,hd⟩:=id hl;unfold collect;refine HP (LQ (JA entry_proto_collect' ?_));show wpAny _ _ (do again (.builtin "list.__iadd__" #[[<- newList [],.ref l],[]])) _ _ s
 refine HP (NM (HW #[Nn _ (by decide +kernel),JA entry_list_iadd' ?_]))
 show wpAny _ _ (J8 (.ref s.heap.objs.size) (.ref l) (.ref s.heap.objs.size)) _ _ { s with heap:=s.heap.push (seqObj "list" #[] 0) }
 unfold J8;have ho':(s.heap.push (seqObj "list" #[] 0)).get? l=ba o:=HR _ ho;refine HP (LB (T:="tuple") #[o,ho',hc] ?_);have ht:(J5 "tuple" == J5 "tuple")=true:=by rfl
 rw[IF (by rw[ht]; simp)]
 refine HP (Px ho' hd ?_);refine HP (Px (xs:=#[]) (n:=0) (Im _ rfl) rfl ?_);rw[IP (by simp)]
 refine HP (NL (xs:=#[]) (n:=0) (Im _ rfl) rfl ?_ (JS _) (by show(#[]++vs.toArray).size<=sizeLine+1; simp only[Array.size_append,Iu,KD]; omega))
 refine HW ?_;show wpAny (model prog w) B (do
   let o <- load s.heap.objs.size
   match o.data with
   | .seq xs _=>pure xs.toList
   | _=>unsupported "internal:collect") Q E { s with heap:=(s.heap.push (seqObj "list" #[] 0)).update s.heap.objs.size (JZ (· ++ vs.toArray)) }
 refine HP (NU (N8 (Im _ rfl) _) ?_);show wpAny _ _ (pure ((#[]:IM HS)++vs.toArray).toList) Q E _;rw[show((#[]:IM HS)++vs.toArray).toList=vs by simp]
 refine HW (h _ s.toks (λb o' e=>(Mb _ _ _ _ (IA (Iv e))).trans (HR _ e)) ?_)
 rw[PZ,size_push'];exact Lf _
def DicAt.raw {wd:Jg}{a:Ic}{xs:HN (T×Ic×HS)}{h:Jk}(d:DicAt wd a xs h):∃es ep,RawD a es ep h/\es.toList=xs.map (vH wd):=
 let ⟨_,_,_,o,es,ep,h1,h2,h3,h4⟩:=d; #[es,ep,#[o,h1,h2,h3],h4]
def KRel.keysL {U:HN (T×W)}{xs:HN (T×Ic×HS)}(r:KRel X.K A H U xs):RelL X.K A H (U.map λp=>p.1.w) (xs.map λq=>V.ref q.2.1):=by
 unfold KRel at r
 induction r with
 | nil=>exact .nil
 | cons h t ih=>exact .cons h.2.2.2.1 ih
def lz (xs:HN (T×Ic×HS)):Vals (xs.map λq=>V.ref q.2.1) (xs.map λq=>Jb q.2.1):=by
 induction xs with
 | nil=>exact .nil
 | cons x xs ih=>exact .cons rfl ih
def jT {wd:Jg}{es:IM KP}{xs:HN (T×Ic×HS)}(he:es.toList=xs.map (vH wd)){acc:IM HS}(ha:NY (λi v=>∃e,es[i]?=ba e/\e.key=v) acc es.size):acc.toList=xs.map λq=>Jb q.2.1:=by
 have hl:es.size=xs.length:=by rw[<- Iw,he,HQ]
 apply Lv
 ·rw[Iw,ha.1,HQ,hl]
 ·intro i h1 h2;rw[Iw]at h1;obtain⟨e,q1,q2⟩:=ha.2 i acc[i] (by simp[h1])
  rw[<- JF,he,Ii]at q1;rw[HQ]at h2;rw[Ig h2]at q1;simp only[Ja,IW]at q1;subst q1;rw[P0,MR];exact q2.symm
def ur {x:W}{a:V}{u:HS}{ws:HN W}(hh:X.A.handled=gV)(I:Inv X J Y H s)(so:StoreOk X.w X.K A H S)(rx:Rel X.K A H x a)(ru:RelV a u)(e:dG S x=ba ws):∃vs us,RelL X.K A H ws vs/\Vals vs us/\us.length<=sizeLine/\
  ∀(B:Jd) (hB:B.handled=gV) (E:HS->HV->Prop) (Q':HN HS->HV->Prop),(∀h' tk,(∀b o,s.heap.get? b=ba o->h'.get? b=ba o)->s.heap.objs.size<=h'.objs.size->Q' us { s with heap:=h',toks:=tk })->wpAny (model X.prog X.w) B (collect u) Q' E s:=by
 cases rx with
 | tup h1 r1=>
  cases e;obtain⟨its,rv,ht,hz⟩:=I.tuple h1;obtain rfl:u=Jb _:=ru;exact#[_,its,r1,rv,by rw[<- L2.Vals.length rv]; exact hz,λB hB E Q' h=>oK ht (by rw[<- L2.Vals.length rv]; exact hz) h]
 | ref ea=>
  simp only[dG]at e;split at e
  ·rename_i xs hx;cases e;obtain⟨vs,h1,r1⟩:=aZ so hx ea;obtain⟨its,rv,p,hz⟩:=I.list h1;obtain rfl:u=Jb _:=ru;refine#[_,its,r1,rv,by rw[<- L2.Vals.length rv]; exact hz,λB hB E Q' h=>collect_list p.isList (h _ s.toks (λb o' e=>(Mb _ _ _ _ (IA (Iv e))).trans (HR _ e)) ?_) (by rw[<- L2.Vals.length rv]; exact hz)]
   rw[PZ,size_push'];exact Lf _
  ·rw[HU]at e;obtain⟨U,hk,rfl⟩:=e;obtain⟨xs,rd,kr⟩:=ft so hk ea;have d:=bY I rd;obtain⟨es,ep,raw,he⟩:=d.raw;obtain rfl:u=Jb _:=ru;have hl:es.size=xs.length:=by rw[<- Iw,he,HQ]
   refine#[_,_,kr.keysL,lz xs,by rw[HQ]; exact d.1,λB hB E Q' h=>oE (sa d.2.1) hB raw (by rw[hl]; exact d.1) λh' tk acc hk' hle ha=>?_]
   rw[jT he ha];exact h h' tk hk' hle
 | _=>cases e
def lA {h':Jk}{tk c:HZ}{D:Ic}{ws:HN W}{vs:HN V}{us:HN HS}(I:Inv X J Y H s)(so:StoreOk X.w X.K A H S)(r:RelL X.K A H ws vs)(rv:Vals vs us)(hz:us.length<=sizeLine)(hk:∀b o,s.heap.get? b=ba o->h'.get? b=ba o)(hD:s.heap.objs.size<=D)
  (ho:h'.get? D=ba { cls:=.type "list",data:=.seq us.toArray c }):di X J Y A H (S++[.lst ws]) (.ref S.length) (.ref D) { s with heap:=h',toks:=tk }:=by
 have hn:H D=gV:=I.hok.fresh hD;refine#[.ref D,_,A++[D],I.laid (a:=D) (o:=.lst vs) (t':=tk) hk hD #[by rw[L2.Vals.length rv]; exact hz,us,c,rv,ho],rfl,cp hn,so.push hn r,.ref ?_]
 rw[<- so.len]; simp
def mR (hh:X.A.handled=gV)(hu:X.A.units+12 < cLine):LCall X (.builtin "sorted") eM:=by
 intro J s Y H A S xs vs us w S' I so rl rv e;cases rl with
 | nil=>cases e
 | cons r t=>
  cases t with
  | cons _ _=>cases e
  | nil=>
   cases rv with
   | cons ru rv2=>
    cases rv2;simp only[eM]at e;split at e
    ·rename_i ws hw;split at e
     ·rename_i ks hk;split at e
      ·rename_i hok;cases e;obtain⟨vs',us',r1,rv1,hz,hcol⟩:=ur hh I so r ru hw;simp only[gy,HX,Ix]at hok;obtain⟨⟨h64,hd⟩,hok⟩:=hok;have hws:T.ws ks=ws:=W.ts_w hk;have hT:IsTs s.heap ks us':=dS I ks (hws ▸ r1) rv1;have hl:us'.length=ks.length:=hT.length.symm;have sk:2<=us'.length->(qN ks).isSome=true/\dU ks=true:=λh2=>by
        rcases Kq _ _ ▸ hok with h|h
        ·simp only[Ix]at h; omega
        ·simpa using h
       refine um (vs:=us') (lt:=kL ks) (κ:=sf ((qN ks).getD 0)) ∅ (λQ' hQ'=>hcol X.A.in1 hh _ Q' hQ') (λh2 h' tk hk' Q hq=>?_) (λh2 h' tk hk' i j hi hj Q hq=>?_) λD h' tk c hk' hD ho=>?_
       ·obtain⟨q1,q2⟩:=sk h2;obtain⟨c,hc⟩:=Jv.mp q1;rw[hc]at hq;exact we (s:={ s with heap:=h',toks:=tk }) (hT.kept λb o _ e=>hk' b o e) h2 hc hq
       ·obtain⟨q1,q2⟩:=sk h2;obtain⟨c,hc⟩:=Jv.mp q1;rw[hc];have hi':i < ks.length:=∅
        have hj':j < ks.length:=∅
        have g:=(hT.kept (h':=h') λb o _ e=>hk' b o e)
        have e1:us'.getD i Jn=us'[i]:=by simp[hi]
        have e2:us'.getD j Jn=us'[j]:=by simp[hj]
        rw[e1,e2];have b1:=bT (ks:=ks) i hi';have b2:=bT (ks:=ks) j hj';exact sh (s:={ s with heap:=h',toks:=tk }) (d:=bK) (c:=c) (by rw[aE,aE]; unfold bK; omega) ∅ ∅ (g.get i hi' hi) (g.get j hj' hj) (dc q2 hi' hj') (si hc (Jh hi') (Jh hj')) hq
       ·exact lA I so (wg r1) (uq rv1) (by rw[oG]; exact hz) hk' hD ho
      ·cases e
     ·cases e
    ·cases e
def oM (hh:X.A.handled=gV):LCall X (.type "list") ly:=by
 intro J s Y H A S xs vs us w S' I so rl rv e
 by_cases hd:∃i U,xs=[.ref i]/\iL S i=ba U
 ·obtain⟨i,U,rfl,hk⟩:=hd;simp only[ly,hk]at e;cases e;cases rl with
  | cons r t=>
   cases t;cases rv with
   | cons ru rv2=>
    cases rv2;cases r with
    | ref ea=>
     obtain⟨xs,rd,kr⟩:=ft so hk ea;have d:=bY I rd;obtain⟨es,ep,raw,he⟩:=d.raw;obtain rfl:_=Jb _:=ru;have hl:es.size=xs.length:=by rw[<- Iw,he,HQ]
     refine PySem.W.kdl_call (sa d.2.1) hh raw (by rw[hl]; exact d.1) λh' tk acc' c' hk' hD ha=>?_
     have ea':=jT he ha;refine lA (us:=acc'.toList) I so kr.keysL (ea' ▸ lz xs) (by rw[ea',HQ]; exact d.1) hk' (Ih _) (c:=c') ?_
     simpa using hD
 ·have:ly xs S=gM xs S:=by
   unfold ly;split
   ·rename_i i;split
    ·rename_i U hk;exact absurd #[i,U,rfl,hk] hd
    ·rfl
   ·rfl
  rw[this]at e;exact gx J s Y H A S xs vs us w S' I so rl rv e
end
open PySem.W (KasT kas_sort kas_asc kas_desc kas_tail3 kas_descPart kas_count kas_place kas_bin kas_rev)
def dC {α β:Type}{lt:HZ->HZ->IN}{f:α->KasT β}:∀t:KasT α,bv lt (t.bind f)=bv lt (f (bv lt t))
 | .ret _=>rfl
 | .ask i j k=>dC (k (lt i j))
structure Lin (n:HZ)(lt:HZ->HZ->IN):Prop where
 tr:∀i j k,i < n->j < n->k < n->lt i j=true->lt j k=true->lt i k=true
 as:∀i j,i < n->j < n->lt i j=true->lt j i=false
 to:∀i j,i < n->j < n->i≠j->lt j i=false->lt i j=true
abbrev gt (p:IM HZ)(i:HZ):HZ:=p.getD i 0
def iO {p:IM HZ}{i:HZ}:gt p i=(p[i]?).getD 0:=by unfold gt; simp[Array.getD_eq_getD_getElem?]
def Pm.inj {n:HZ}{p:IM HZ}(h:Pm n p){i j:HZ}(hi:i < n)(hj:j < n)(hne:i≠j):gt p i≠gt p j:=by
 have nd:p.toList.Nodup:=h.nodup_iff.mpr MK;have hi':i < p.toList.length:=by rw[Iw,h.size]; exact hi
 have hj':j < p.toList.length:=by rw[Iw,h.size]; exact hj
 intro e;have e1:gt p i=p.toList[i]:=by unfold gt; simp[Mn,h.size,hi]
 have e2:gt p j=p.toList[j]:=by unfold gt; simp[Mn,h.size,hj]
 rw[e1,e2]at e;have pw:=L7.mp nd;rcases O7 hne with h|h
 ·exact pw i j hi' hj' h e
 ·exact pw j i hj' hi' h e.symm
abbrev Up (lt:HZ->HZ->IN)(p:IM HZ)(m:HZ):Prop:=∀i j,i < j->j < m->lt (gt p i) (gt p j)=true
section
variable{n:HZ}{lt:HZ->HZ->IN}(L:Lin n lt)
include L
def Up.more {p:IM HZ}{a:HZ}(hp:Pm n p)(ha:1<=a)(han:a < n)(h:Up lt p a)(hl:lt (gt p (a - 1)) (gt p a)=true):Up lt p (a+1):=by
 have hn:0 < n:=∅
 intro i j hij hj
 by_cases e:j=a
 ·subst e
  by_cases e2:i=j - 1
  ·subst e2; exact hl
  ·exact L.tr _ _ _ (hp.lt hn _) (hp.lt hn _) (hp.lt hn _) (h i (j - 1) ∅ ∅) hl
 ·exact h i j hij ∅
def qO {p:IM HZ}(hp:Pm n p):∀(f a:HZ),1<=a->a+f=n->Up lt p a->Up lt p (bv lt (kas_asc p f a))/\a<=bv lt (kas_asc p f a)/\bv lt (kas_asc p f a)<=n/\(bv lt (kas_asc p f a) < n->lt (gt p (bv lt (kas_asc p f a))) (gt p (bv lt (kas_asc p f a) - 1))=true)
 | 0,a,h1,h2,h=>#[h,Ih _,by show a<=n; omega,λz=>by have:a < n:=z; omega]
 | f+1,a,h1,h2,h=>by
  have hn:0 < n:=∅
  have e:bv lt (kas_asc p (f+1) a)=bv lt (if lt (gt p a) (gt p (a - 1))=true then .ret a else kas_asc p f (a+1)):=rfl
  rw[e];cases c:lt (gt p a) (gt p (a - 1))with
  | true=>exact#[h,Ih _,by show a<=n; omega,λ_=>c]
  | false=>
   have l:lt (gt p (a - 1)) (gt p a)=true:=L.to _ _ (hp.lt hn (a - 1)) (hp.lt hn a) (hp.inj ∅ ∅ ∅) c
   obtain⟨q1,q2,q3,q4⟩:=qO hp f (a+1) ∅ ∅ (Up.more L hp h1 ∅ h l)
   exact#[q1,by show a<=bv lt (kas_asc p f (a+1)); omega,q3,q4]
abbrev Dn (lt:HZ->HZ->IN)(p:IM HZ)(m:HZ):Prop:=∀i j,i < j->j < m->lt (gt p j) (gt p i)=true
def sj {p:IM HZ}(hp:Pm n p):∀(f a:HZ),1<=a->a+f=n->Dn lt p a->∃m,bv lt (kas_desc f p a 0)=(p,m,0)/\a<=m/\m<=n/\Dn lt p m
 | 0,a,h1,h2,h=>#[a,rfl,Ih _,∅,h]
 | f+1,a,h1,h2,h=>by
  have hn:0 < n:=∅
  have e:bv lt (kas_desc (f+1) p a 0)=bv lt (if lt (gt p a) (gt p (a - 1))=true then(if 0 > 0 then kas_desc f (kas_rev p (a - (0+1)) a) (a+1) 0 else kas_desc f p (a+1) 0)else .ask (gt p (a - 1)) (gt p a) λd=>if d=true then .ret (p,a,0)else kas_desc f p (a+1) (0+1)):=rfl
  rw[e];cases c:lt (gt p a) (gt p (a - 1))with
  | true=>
   obtain⟨m,q1,q2,q3,q4⟩:=sj hp f (a+1) ∅ ∅ λi j hij hj=>by
    by_cases e:j=a
    ·subst e
     by_cases e2:i=j - 1
     ·subst e2; exact c
     ·exact L.tr _ _ _ (hp.lt hn _) (hp.lt hn _) (hp.lt hn _) c (h i (j - 1) ∅ ∅)
    ·exact h i j hij ∅
   exact#[m,q1,∅,q3,q4]
  | false=>
   have l:lt (gt p (a - 1)) (gt p a)=true:=L.to _ _ (hp.lt hn (a - 1)) (hp.lt hn a) (hp.inj ∅ ∅ ∅) c
   refine#[a,?_,Ih _,∅,h]
   show bv lt (if lt (gt p (a - 1)) (gt p a)=true then .ret (p,a,0)else kas_desc f p (a+1) (0+1))=_
   rw[l]; rfl
omit L in
def Cw {p:IM HZ}{m:HZ}(hp:Pm n p)(hm:m<=n)(h:Dn lt p m):Up lt (kas_rev p 0 m) m:=by
 intro i j hij hj;have g:∀k,k < m->gt (kas_rev p 0 m) k=gt p (m - 1 - k):=λk hk=>by
  rw[iO,iO];show((mirror p 0 m ((m - 0) / 2))[k]?).getD 0=_;rw[getElem?_mirror_all (by rw[hp.size]; exact hm),IF #[JS _,hk],Nat.zero_add]
 rw[g i ∅,g j hj]
 exact h _ _ ∅ ∅
def wj {p:IM HZ}(hp:Pm n p)(hn:1<=n):∃m p',bv lt (kas_count n p)=(m,p')/\Pm n p'/\1<=m/\m<=n/\Up lt p' m:=by
 unfold kas_count;rw[dC];obtain⟨q1,q2,q3,q4⟩:=qO L hp (n - 1) 1 (Ih _) ∅ λi j hij hj=>∅
 generalize bv lt (kas_asc p (n - 1) 1)=m at q1 q2 q3 q4
 by_cases hm:m=n
 ·subst hm;rw[IF (Jm _)];exact#[m,p,rfl,hp,q2,Ih _,q1]
 ·rw[IP (by simp[hm])]
  by_cases h1:m > 1
  ·rw[IF h1];have l:=q1 0 (m - 1) ∅ ∅
   refine#[m,p,?_,hp,q2,q3,q1];show bv lt (if lt (gt p 0) (gt p (m - 1))=true then .ret (m,p)else kas_descPart m n (kas_rev p 0 m))=_
   rw[l]; rfl
  ·rw[IP h1];obtain rfl:m=1:=∅
   unfold kas_descPart;rw[dC];have l:=q4 ∅
   obtain⟨m,e,r1,r2,r3⟩:=sj L hp (n - (1+1)) (1+1) ∅ ∅ λi j hij hj=>by
    obtain rfl:j=1:=∅
    obtain rfl:i=0:=∅
    exact l
   rw[e];dsimp only;rw[IP ∅]
   unfold kas_tail3;rw[dC];have hp':Pm n (kas_rev p 0 m):=hp.rev 0 m;obtain⟨z1,z2,z3,z4⟩:=qO L hp' (n - m) m ∅ ∅ (Cw hp r2 r3)
   exact#[_,_,rfl,hp',∅,z3,z1]
def jU {p:IM HZ}{k:HZ}(hp:Pm n p)(hk:k < n)(hu:Up lt p k):∀(f l r:HZ),l<=r->r<=k->r - l<=f->(∀i,i < l->lt (gt p i) (gt p k)=true)->(∀i,r<=i->i < k->lt (gt p k) (gt p i)=true)->
  ∃m,bv lt (kas_place p k f l r)=m/\m<=k/\(∀i,i < m->lt (gt p i) (gt p k)=true)/\(∀i,m<=i->i < k->lt (gt p k) (gt p i)=true)
 | 0,l,r,h1,h2,h3,ha,hb=>#[l,rfl,∅,ha,λi hi=>hb i ∅]
 | f+1,l,r,h1,h2,h3,ha,hb=>by
  have hn:0 < n:=∅
  unfold kas_place
  by_cases hge:l>=r
  ·rw[IF hge];exact#[l,rfl,∅,ha,λi hi=>hb i ∅]
  ·rw[IP hge];show ∃m,bv lt (if lt (gt p k) (gt p ((l+r) / 2))=true then kas_place p k f l ((l+r) / 2)else kas_place p k f ((l+r) / 2+1) r)=m/\_
   cases c:lt (gt p k) (gt p ((l+r) / 2))with
   | true=>
    rw[IF rfl];refine jU hp hk hu f l ((l+r) / 2) ∅ ∅ ∅ ha λi hi hik=>?_
    by_cases e:i=(l+r) / 2
    ·rw[e]; exact c
    ·exact L.tr _ _ _ (hp.lt hn _) (hp.lt hn _) (hp.lt hn _) c (hu _ _ ∅ hik)
   | false=>
    rw[IP IE];have l':=L.to _ _ (hp.lt hn ((l+r) / 2)) (hp.lt hn k) (hp.inj ∅ ∅ ∅) c
    refine jU hp hk hu f ((l+r) / 2+1) r ∅ h2 ∅ (λi hi=>?_) hb
    by_cases e:i=(l+r) / 2
    ·rw[e]; exact l'
    ·exact L.tr _ _ _ (hp.lt hn _) (hp.lt hn _) (hp.lt hn _) (hu i ((l+r) / 2) ∅ ∅) l'
def wl:∀(f:HZ) (p:IM HZ) (k:HZ),Pm n p->k+f=n->Up lt p k->Pm n (bv lt (kas_bin f p k))/\Up lt (bv lt (kas_bin f p k)) n
 | 0,p,k,hp,h,hu=>by
  have:k=n:=∅
  exact#[hp,this ▸ hu]
 | f+1,p,k,hp,h,hu=>by
  unfold kas_bin;rw[dC];obtain⟨m,e,h1,ha,hb⟩:=jU L hp ∅ hu k 0 k (JS _) (Ih _) ∅ (λi hi=>∅) λi h1 h2=>∅
  rw[e];refine wl f _ (k+1) (hp.bub _ _) ∅ λi j hij hj=>?_
  have g:∀i,gt (bubble p k (k - m)) i=if i=m then gt p k else if m < i/\i<=k then gt p (i - 1)else gt p i:=λi=>by
   rw[iO,iO,iO,iO,getElem?_bubble (by rw[hp.size]; omega) _ ∅,show k - (k - m)=m by omega]
   split
   ·rfl
   ·split <;> rfl
  rw[g,g]
  repeat' split
  all_goals first
   | (exfalso; omega)
   | exact ha _ ∅
   | exact hb _ ∅ ∅
   | exact hu _ _ ∅ ∅
def zK (hn:1<=n):Pm n (bv lt (kas_sort n))/\Up lt (bv lt (kas_sort n)) n:=by
 unfold kas_sort;rw[dC];obtain⟨m,p',e,h1,h2,h3,h4⟩:=wj L (p:=(ID n).toArray) (by unfold Pm; simp) hn
 rw[e];dsimp only
 by_cases hm:m < n
 ·rw[IF hm];have:max m 1=m:=∅
  rw[this];exact wl L _ _ _ h1 ∅ h4
 ·rw[IP hm];have:m=n:=∅
  exact#[h1,this ▸ h4]
end
end Mi
namespace Mi
open PySem PySem.Spec PyProof.Rows L2
mutual
theorem jV:∀x y:T,dF x=true->gg x y=ba true->gg y x=ba false
 | .int a,.int b,_,h=>by
  dsimp only[gg]at h; simp only[IW,Ix]at h
  dsimp only[gg]; simp only[IW,Ms]
  omega
 | .str _,_,h,_=>by cases h
 | .tup xs,.tup ys,hn,h=>mS xs ys hn h
 | .int _,.str _,_,h|.int _,.tup _,_,h|.tup _,.int _,_,h|.tup _,.str _,_,h=>by cases h
theorem mS:∀xs ys:HN T,cq xs=true->cH xs ys=ba true->cH ys xs=ba false
 | [],[],_,h=>by cases h
 | [],_::_,_,_=>rfl
 | _::_,[],_,h=>by cases h
 | x::xs,y::ys,hn,h=>by
  simp only[cq,HX]at hn;dsimp only[cH]at h ⊢
  by_cases e:x=y
  ·rw[IF e]at h;rw[IF e.symm];exact mS xs ys hn.2 h
  ·rw[IP e]at h;rw[IP (Ne.symm e)];exact jV x y hn.1 h
end
mutual
theorem mT:∀x y:T,dF x=true->x≠y->gg y x=ba false->gg x y=ba true
 | .int a,.int b,_,hne,h=>by
  dsimp only[gg]at h; simp only[IW,Ms]at h
  dsimp only[gg]; simp only[IW,Ix]
  have:a≠b:=λe=>hne (e ▸ rfl)
  omega
 | .str _,_,h,_,_=>by cases h
 | .tup xs,.tup ys,hn,hne,h=>sn xs ys hn (λe=>hne (e ▸ rfl)) h
 | .int _,.str _,_,_,h|.int _,.tup _,_,_,h|.tup _,.int _,_,_,h|.tup _,.str _,_,_,h=>by cases h
theorem sn:∀xs ys:HN T,cq xs=true->xs≠ys->cH ys xs=ba false->cH xs ys=ba true
 | [],[],_,h,_=>absurd rfl h
 | [],_::_,_,_,_=>rfl
 | _::_,[],_,_,h=>by cases h
 | x::xs,y::ys,hn,hne,h=>by
  simp only[cq,HX]at hn;dsimp only[cH]at h ⊢
  by_cases e:x=y
  ·rw[IF e.symm]at h;rw[IF e];exact sn xs ys hn.2 (λz=>hne (by rw[e,z])) h
  ·rw[IP (Ne.symm e)]at h;rw[IP e];exact mT x y hn.1 e h
end
mutual
theorem qP:∀x y z:T,dF x=true->dF y=true->gg x y=ba true->gg y z=ba true->gg x z=ba true
 | .int a,.int b,.int c,_,_,h,h'=>by
  dsimp only[gg]at h h' ⊢; simp only[IW,Ix]at h h' ⊢
  omega
 | .tup xs,.tup ys,.tup zs,hn,hn',h,h'=>sr xs ys zs hn hn' h h'
 | .str _,_,_,h,_,_,_=>by cases h
 | .int _,.str _,_,_,_,h,_|.int _,.tup _,_,_,_,h,_|.tup _,.int _,_,_,_,h,_|.tup _,.str _,_,_,_,h,_=>by cases h
 | .int _,.int _,.str _,_,_,_,h|.int _,.int _,.tup _,_,_,_,h|.tup _,.tup _,.int _,_,_,_,h|.tup _,.tup _,.str _,_,_,_,h=>by cases h
theorem sr:∀xs ys zs:HN T,cq xs=true->cq ys=true->cH xs ys=ba true->cH ys zs=ba true->cH xs zs=ba true
 | [],[],_,_,_,h,_=>by cases h
 | _::_,[],_,_,_,h,_=>by cases h
 | _,_::_,[],_,_,_,h=>by cases h
 | [],_::_,_::_,_,_,_,_=>rfl
 | x::xs,y::ys,z::zs,hn,hn',h,h'=>by
  simp only[cq,HX]at hn hn';dsimp only[cH]at h h' ⊢
  by_cases e:x=y
  ·subst e;rw[IF rfl]at h
   by_cases e':x=z
   ·rw[IF e']at h' ⊢;exact sr xs ys zs hn.2 hn'.2 h h'
   ·rw[IP e']at h' ⊢;exact h'
  ·rw[IP e]at h
   by_cases e':y=z
   ·subst e';rw[IP e];exact h
   ·rw[IP e']at h';have t:=qP x y z hn.1 hn'.1 h h';have e2:x≠z:=λe2=>by
     subst e2;have:=jV x x hn.1 t;rw[t]at this; cases this
    rw[IP e2];exact t
end
abbrev FU (ks:HN T):Prop:=ks.Pairwise λx y=>gg x y=ba true
abbrev dW (ks:HN T):HN T:=c8 (kL ks) (.int 0) ks
structure Nice (ks:HN T):Prop where
 num:∀x∈ks,dF x=true
 lt:dU ks=true
 nd:ks.Nodup
def Nice.lin {ks:HN T}(h:Nice ks):Lin ks.length (kL ks):=by
 have nm:∀i (hi:i < ks.length),dF ks[i]=true:=λi hi=>h.num _ (Jh hi)
 refine#[λi j k hi hj hk a b=>?_,λi j hi hj a=>?_,λi j hi hj hne a=>?_]
 ·have e1:=dc h.lt hi hj;have e2:=dc h.lt hj hk;have e3:=dc h.lt hi hk;rw[a]at e1; rw[b]at e2
  rw[qP _ _ _ (nm i hi) (nm j hj) e1 e2]at e3;exact(Jz e3).symm
 ·have e1:=dc h.lt hi hj;have e2:=dc h.lt hj hi;rw[a]at e1;rw[jV _ _ (nm i hi) e1]at e2;exact(Jz e2).symm
 ·have e1:=dc h.lt hj hi;have e2:=dc h.lt hi hj;rw[a]at e1;have hne':ks[i]≠ks[j]:=λe=>by
   have pw:=L7.mp h.nd;rcases O7 hne with q|q
   ·exact pw i j hi hj q e
   ·exact pw j i hj hi q e.symm
  rw[mT _ _ (nm i hi) hne' e1]at e2;exact(Jz e2).symm
def eA {α:Type}{lt:HZ->HZ->IN}{d:α}{xs:HN α}:(c8 lt d xs).Perm xs:=by
 unfold c8;split
 ·exact .refl _
 ·have p:Pm xs.length (bv lt (Ly xs.length)):=mQ (jt ∅)
  refine(Si _ p).trans ?_;have:(ID xs.length).map (λi=>xs.getD i d)=xs:=by
   apply Lv
   ·simp
   ·intro k h1 h2; simp[h2]
  rw[this]
def gX {ks:HN T}(h:Nice ks):FU (dW ks):=by
 unfold dW c8 FU;split
 ·rename_i hl
  match ks,hl with
  | [],_=>exact .nil
  | [x],_=>simp
  | _::_::_,hl=>simp only[Ju]at hl; omega
 ·rename_i hl;obtain⟨p,u⟩:=zK h.lin ∅
  rw[L7];intro i j hi hj hij;rw[HQ,Iw,p.size]at hi hj;have hn:0 < ks.length:=∅
  have l:=u i j hij hj;have e1:=dc h.lt (p.lt hn i) (p.lt hn j);have g:∀k (hk:k < ks.length),(bv (kL ks) (Ly ks.length)).getD k 0=(bv (kL ks) (Ly ks.length)).toList[k]'(by rw[Iw,p.size]; exact hk):=λk hk=>by simp[Mn,p.size,hk]
  have l':kL ks ((bv (kL ks) (Ly ks.length)).getD i 0) ((bv (kL ks) (Ly ks.length)).getD j 0)=true:=l;rw[l']at e1;have gd:∀k (hk:k < ks.length),ks.getD k (.int 0)=ks[k]:=λk hk=>by simp[hk]
  simp only[P0];rw[<- g i hi,<- g j hj,gd _ (p.lt hn i),gd _ (p.lt hn j)];exact e1
def jW:∀ {a b:HN T},(∀x∈a,dF x=true)->a.Perm b->FU a->FU b->a=b
 | [],b,_,p,_,_=>(R0 p)
 | x::a,[],_,p,_,_=>absurd p.length_eq (by simp)
 | x::a,y::b,hn,p,h,h'=>by
  have e:x=y:=by
   rcases IC.mp (p.mem_iff.mp (JJ))with e|e
   ·exact e
   ·rcases IC.mp (p.mem_iff.mpr (JJ))with e'|e'
    ·exact e'.symm
    ·have l1:=Ny h e';have l2:=Ny h' e;have:=jV _ _ (hn x (.head _)) l1;rw[l2]at this; cases this
  subst e;rw[jW (λz hz=>hn z (.tail _ hz)) ((List.perm_cons x).mp p) (Nr.mp h).2 (Nr.mp h').2]
def Nice.of_sub {ks us:HN T}(h:Nice ks)(hs:∀x∈us,x∈ks)(hd:us.Nodup):Nice us:=by
 refine#[λx hx=>h.num x (hs x hx),?_,hd]
 have:=h.lt;unfold dU at this ⊢;rw[IG]at this ⊢;intro x hx;have h2:=this x (hs x hx);rw[IG]at h2 ⊢;exact λy hy=>h2 y (hs y hy)
def ut {us ks:HN T}(h:Nice ks)(p:us.Perm ks):dW us=dW ks:=by
 have hu:Nice us:=h.of_sub (λx hx=>p.mem_iff.mp hx) (p.nodup_iff.mpr h.nd)
 have pu:(dW us).Perm us:=eA;have pk:(dW ks).Perm ks:=eA;exact jW (λx hx=>hu.num x (pu.mem_iff.mp hx)) (pu.trans (p.trans pk.symm)) (gX hu) (gX h)
def wm {us ks:HN T}(h:Nice ks)(p:us.Sublist (dW ks)):dW us=us:=by
 have pk:(dW ks).Perm ks:=eA;have hu:Nice us:=h.of_sub (λx hx=>pk.mem_iff.mp (p.subset hx)) (p.nodup (pk.nodup_iff.mpr h.nd))
 have pu:(dW us).Perm us:=eA;exact jW (λx hx=>hu.num x (pu.mem_iff.mp hx)) pu (gX hu) ((gX h).sublist p)
mutual
noncomputable def lB:T->Ip
 | .int i=>hashInt i
 | .str _=>0
 | .tup xs=>reduceHash (L5 (mU xs))
noncomputable def mU:HN T->HN Ip
 | []=>[]
 | x::xs=>lB x::mU xs
end
mutual
theorem oN {w:Jg}:∀x:T,dF x=true->dQ w x=lB x
 | .int _,_=>rfl
 | .str _,h=>by cases h
 | .tup xs,h=>by simp only[dQ,lB]; rw[lC xs h]
theorem lC {w:Jg}:∀xs:HN T,cq xs=true->gr w xs=mU xs
 | [],_=>rfl
 | x::xs,h=>by
  simp only[cq,HX]at h;simp only[gr,mU];rw[oN x h.1,lC xs h.2]
end
def oO {w:Jg}:∀(ks:HN T) (st:IM (Ip×T)×JH),(∀x∈ks,dF x=true)->ks.foldlM (a9 (dQ w)) st=ks.foldlM (a9 lB) st
 | [],_,_=>rfl
 | x::ks,st,h=>by
  rw[Lx,Lx];have e:a9 (dQ w) st x=a9 lB st x:=by unfold a9; rw[oN x (h x (.head _))]
  rw[e];congr 1
  funext st'
  exact oO ks st' λy hy=>h y (.tail _ hy)
abbrev oP (l:IN)(ks:HN T):HY (IM (Ip×T)×JH):=ks.foldlM (a9 lB) (#[],.fresh 0 0 l)
abbrev jc (ks:HN T):HY (HN T):=match oP true ks with
 | some r=>if eJ r.2 r.1.size then ba (r.1.toList.map (·.2))else gV
 | none=>gV
abbrev eW (b:IN)(t:JH):JH:={ t with led:=b }
def qQ {b:IN}{t:JH}{ha:HZ->Ip}{h:Ip}:∀(f:HZ) (p:Nk),NG (eW b t) ha h f p=NG t ha h f p
 | 0,_=>rfl
 | f+1,p=>by
  unfold NG;rw[show(eW b t).slot p.j=t.slot p.j from rfl]
  cases t.slot p.j with
  | empty=>rfl
  | dummy=>exact qQ f _
  | live i=>
   dsimp only;split
   ·rfl
   ·exact qQ f _
def jd {b:IN}{es:IM (Ip×T)}{t:JH}{x:T}{h:Ip}:∀(f:HZ) (st:HY Nk),du es (eW b t) x h f st=du es t x h f st
 | 0,_=>rfl
 | f+1,st=>by
  unfold du;have e:∀p,(eW b t).probe (λi=>(es[i]?.map (·.1)).getD 0) h p=t.probe (λi=>(es[i]?.map (·.1)).getD 0) h p:=λp=>qQ _ _
  rw[show(eW b t).probeStart h=t.probeStart h from rfl,e]
  split
  ·rfl
  ·rfl
  ·rfl
  ·rename_i j i next _;cases es[i]? with
   | none=>rfl
   | some q=>
    dsimp only;split
    ·rfl
    ·rw[show(eW b t).slot j=t.slot j from rfl]
     split
     ·exact jd f _
     ·rfl
def qR {b:IN}{t:JH}{hs:IM Ip}{n:HZ}:(eW b t).relaid hs n=(t.relaid hs n).map λr=>(eW b r.1,r.2):=by
 unfold R4 Sj;show(do let owner <- Pz (Nm n - 1) hs; _)=_
 cases Pz (Nm n - 1) hs <;> rfl
def qS {b:IN}{hf:T->Ip}{es:IM (Ip×T)}{t:JH}{x:T}:a9 hf (es,eW b t) x=(a9 hf (es,t) x).map λr=>(r.1,eW b r.2):=by
 unfold a9;dsimp only;rw[jd];cases du es t x (hf x) 100 gV with
 | none=>rfl
 | some f=>
  cases f with
  | there=>rfl
  | free slot=>
   dsimp only;rw[show(eW b t).put slot=(eW b (t.put slot).1,(t.put slot).2)from rfl]
   dsimp only;rw[show ∀n,cZ (eW b (t.put slot).1) n=cZ (t.put slot).1 n from λ_=>rfl,show(eW b (t.put slot).1).tooFull=(t.put slot).1.tooFull from rfl,qR]
   split
   ·split
    ·split
     ·cases(t.put slot).1.relaid ((Jf es (t.put slot).2 (hf x,x)).map (·.1)) (Mz (es.size+1))with
      | none=>rfl
      | some q=>
       obtain⟨t2,order⟩:=q;dsimp only[Ja];rw[show ∀n,cZ (eW b t2) n=cZ t2 n from λ_=>rfl]
       split <;> rfl
     ·rfl
    ·rfl
   ·rfl
def oQ {b:IN}{hf:T->Ip}:∀(ks:HN T) (es:IM (Ip×T)) (t:JH),ks.foldlM (a9 hf) (es,eW b t)=(ks.foldlM (a9 hf) (es,t)).map λr=>(r.1,eW b r.2)
 | [],_,_=>rfl
 | x::ks,es,t=>by
  rw[Lx,Lx,qS];cases a9 hf (es,t) x with
  | none=>rfl
  | some r=>exact oQ ks r.1 r.2
def uu {ks us:HN T}(h:jc ks=ba us)(l:IN):∃r,oP l ks=ba r/\r.1.toList.map (·.2)=us/\r.2.led=l/\(r.2.plain=true->eJ r.2 r.1.size=true):=by
 unfold jc at h;have e:oP l ks=(oP true ks).map λr=>(r.1,eW l r.2):=oQ (b:=l) ks #[] (.fresh 0 0 true)
 cases hr:oP true ks with
 | none=>rw[hr]at h; cases h
 | some r=>
  rw[hr]at h e;dsimp only at h;split at h
  ·rename_i hok;cases h;exact#[_,e,rfl,rfl,λ_=>hok]
  ·cases h
def mV {α:Type}{xs:IM α}{p:HZ}{x y:α}(h:y∈(Jf xs p x).toList):y∈xs.toList\/y=x:=by
 unfold Jf at h;rw[M3,NC,IY,IY]at h;rcases h with(h|h)|h
 ·rw[LS]at h;refine .inl ?_;simp only[Rk]at h;exact LU (KL h)
 ·exact .inr (Ik.mp h)
 ·rw[LS]at h;refine .inl ?_;simp only[Rk]at h;exact LU (KL h)
def qT {hf:T->Ip}{es:IM (Ip×T)}{t:JH}{x:T}{r:IM (Ip×T)×JH}(h:a9 hf (es,t) x=ba r):∀y∈r.1.toList,y∈es.toList\/y.2=x:=by
 intro y hy;unfold a9 at h;dsimp only at h;split at h
 ·cases h
 ·cases h; exact .inl hy
 ·rename_i slot _;have ins:∀y∈(Jf es (t.put slot).2 (hf x,x)).toList,y∈es.toList\/y.2=x:=λy hy=>(mV hy).imp id λe=>by rw[e]
  split at h
  ·split at h
   ·split at h
    ·split at h
     ·cases h
     ·rename_i t2 order _;split at h
      ·cases h;refine ins y ?_;simp only[Array.toList_filterMap,Nb]at hy;obtain⟨i,_,hi⟩:=hy;rw[LR];exact MD hi
      ·cases h
    ·cases h
   ·cases h; exact ins y hy
  ·cases h
def oR {hf:T->Ip}:∀(ks:HN T) (es:IM (Ip×T)) (t:JH) (r:IM (Ip×T)×JH),ks.foldlM (a9 hf) (es,t)=ba r->∀y∈r.1.toList,y∈es.toList\/y.2∈ks
 | [],_,_,_,h,y,hy=>by cases h; exact .inl hy
 | x::ks,es,t,r,h,y,hy=>by
  rw[Lx]at h;cases hs:a9 hf (es,t) x with
  | none=>rw[hs]at h; cases h
  | some q=>
   rw[hs]at h;rcases oR ks q.1 q.2 r h y hy with h1|h1
   ·rcases qT hs y h1 with h2|h2
    ·exact .inl h2
    ·exact .inr (h2 ▸ JJ)
   ·exact .inr (.tail _ h1)
def wn {ks us:HN T}(h:jc ks=ba us):∀k∈us,k∈ks:=by
 unfold jc at h;split at h
 ·rename_i r hr;split at h
  ·cases h;intro k hk;obtain⟨y,hy,rfl⟩:=Iy.mp hk;rcases oR ks _ _ r hr y hy with h1|h1
   ·simp at h1
   ·exact h1
  ·cases h
 ·cases h
abbrev wo (k:T):IN:=dF k&&k.isTup&&decide (k.depth<=au)
abbrev jX (xs:HN W)(S:aa):HY (W×aa):=match xs with
 | [.ref i]=>match eY S i with
  | some ws=>match W.ts ws with
   | some ks=>if ks.all wo then(jc ks).map λus=>(.ref S.length,S++[.stt us])else gV
   | none=>gV
  | none=>gV
 | _=>gV
abbrev DO (S:aa)(i:HZ):HY (HN T):=match S[i]? with
 | some (.stt us)=>ba us
 | _=>gV
abbrev jY (us:HN T):IN:=us.all dF&&dU us&&decide us.Nodup&&gy us
abbrev cu (xs:HN W)(S:aa):HY (W×aa):=match xs with
 | [.ref i]=>match DO S i with
  | some us=>if jY us then ba (.ref S.length,S++[.lst (T.ws (dW us))])else gV
  | none=>gV
 | _=>gV
abbrev jZ (xs:HN W)(S:aa):HY (W×aa):=match xs with
 | [.ref i]=>match vV S i with
  | some (lo,hi)=>if -(2 ^ 62)<=lo/\lo < 2 ^ 62/\-(2 ^ 62)<=hi/\hi < 2 ^ 62/\(hi - lo).toNat<=sizeLine then ba (.tup (zI lo (hi - lo).toNat),S)else gV
  | none=>jJ [.ref i] S
 | xs=>jJ xs S
def wp:∀ks:HN T,T.ws ks=ks.map T.w
 | []=>rfl
 | x::xs=>by simp only[T.ws,JC,wp xs]
def uw {h:Jk}{us vs:HN HS}(p:us.Perm vs):∀ {ks:HN T},IsTs h ks vs->∃js,IsTs h js us/\js.Perm ks:=by
 induction p with
 | nil=>intro ks i; exact#[ks,i,.refl _]
 | cons x p ih=>
  intro ks i;cases i with
  | cons a b=>obtain⟨js,h1,h2⟩:=ih b; exact#[_,.cons a h1,h2.cons _]
 | swap x y l=>
  intro ks i;cases i with
  | cons a b=>cases b with
   | cons b c=>exact#[_,.cons b (.cons a c),.swap _ _ _]
 | trans p q ih1 ih2=>
  intro ks i;obtain⟨js,h1,h2⟩:=ih2 i;obtain⟨is,h3,h4⟩:=ih1 h1;exact#[is,h3,h4.trans h2]
def wq {p:T->IN}{js ks:HN T}(h:js.Perm ks):js.all p=ks.all p:=by
 rw[Bool.eq_iff_iff,IG,IG];exact#[λq x hx=>q x (h.mem_iff.mpr hx),λq x hx=>q x (h.mem_iff.mp hx)]
def wt {js ks:HN T}(h:js.Perm ks):qN js=qN ks:=by unfold qN; simp only[wq h]
def gY:∀ {ks:HN T} {d:HZ},(∀x∈ks,x.depth<=d)->T.depths ks<=d
 | [],_,_=>JS _
 | x::ks,d,h=>by
  have h1:=h x (.head _);have h2:=gY λy hy=>h y (.tail _ hy)
  simp only[T.depths]; omega
def lD {h:Jk}{js:HN T}{us:HN HS}(r:IsTs h js us):∀is:HN HZ,(∀i∈is,i < js.length)->IsTs h (is.map λi=>js.getD i (.int 0)) (is.map λi=>us.getD i .none)
 | [],_=>.nil
 | i::is,hl=>by
  have hi:=hl i (.head _);have hi':i < us.length:=by rw[<- r.length]; exact hi
  have e1:js.getD i (.int 0)=js[i]:=by simp[hi]
  have e2:us.getD i .none=us[i]:=by simp[hi']
  have:=r.get i hi hi';refine .cons ?_ (lD r is λj hj=>hl j (.tail _ hj))
  show IsT h (js.getD i (.int 0)) (us.getD i .none);rw[e1,e2]; exact this
def uy {h:Jk}{lt:HZ->HZ->IN}{js:HN T}{us:HN HS}(r:IsTs h js us):IsTs h (c8 lt (.int 0) js) (c8 lt Jn us):=by
 unfold c8;rw[<- r.length];split
 ·exact r
 ·exact lD r _ λi hi=>ju ∅ i hi
section
variable{prog:IZ}{w:Jg}{A:Jd}{E:HS->HV->Prop}{s:HV}
def kP {Q:HN HS->HV->Prop}{r:Ic}{a b c:Ip}{t u v:So}{n:HZ}(hh:A.handled=gV)(hr:RS s.heap r a b c t u v)(hsmall:M4 a b c=true)
  (hn:Kw a b c=n) (hlen:n<=2 ^ 24)
  (hQ:∀h' tk (acc:IM HS),(∀b o,s.heap.get? b=ba o->h'.get? b=ba o)->s.heap.objs.size<=h'.objs.size->NY (λi v=>∃t,v=.int (a+i*c) t) acc n->Q acc.toList { s with heap:=h',toks:=tk }):wpAny (model prog w) A (collect (.ref r)) Q E s:=by
 unfold collect;refine HP (LQ (JA F.entry_proto_collect ?_));rw[Jy F.plain_proto_collect _];show wpAny _ A.in1 (newList [] >>= λl=>again (.builtin "list.__iadd__" #[[l,.ref r],[]])) _ _ s
 refine HP (Ji ?_);refine HW #[Kz F.plain_list_iadd _,JA F.entry_list_iadd ?_];rw[Jy F.plain_list_iadd _];show wpAny _ A.in1 (J8 (.ref s.heap.objs.size) (.ref r) (.ref s.heap.objs.size)) _ _ _;have hS:(s.heap.push { cls:=.type "list",data:=.seq ([]:HN HS).toArray }).get? s.heap.objs.size=ba { cls:=.type "list",data:=.seq #[] 0 }:=Im _ rfl;have fin':∀s',(∃h' tk acc c',s'={ s with heap:=h',toks:=tk }/\(∀b o,s.heap.get? b=ba o->h'.get? b=ba o)/\h'.get? s.heap.objs.size=ba { cls:=.type "list",dict:=gV,data:=.seq acc c',slots:=#[] }/\NY (λi v=>∃t,v=.int (a+i*c) t) acc n)->wpAny (model prog w) A (do
   let o <- load s.heap.objs.size
   match o.data with
   | .seq xs _=>pure xs.toList
   | _=>unsupported "internal:collect") Q E s':=by
  rintro s' ⟨h',tk,acc,c',rfl,hk,hS',hacc⟩;exact HP (NU hS' (HW (hQ h' tk acc hk (LY (Iv hS')) hacc)))
 refine Ks (wpAny_extend_range (A:=A) (s:={ s with heap:=s.heap.push { cls:=.type "list",data:=.seq ([]:HN HS).toArray } }) (R:=λr s'=>r=.ok (.ret (.ref s.heap.objs.size))/\∃h' tk acc c',s'={ s with heap:=h',toks:=tk }/\(∀b o,s.heap.get? b=ba o->h'.get? b=ba o)/\h'.get? s.heap.objs.size=ba { cls:=.type "list",dict:=gV,data:=.seq acc c',slots:=#[] }/\NY (λi v=>∃t,v=.int (a+i*c) t) acc n) hh (HR _ hr) hsmall hn hlen _ _ 0 hS λh' tk acc' c' hk hS' hacc=>#[rfl,h',tk,acc',c',rfl,λb o e=>hk b o (IA (Iv e)) (HR _ e),hS',hacc]) (λfin s' h=>?_) (λe s' h=>?_)
 ·cases fin with
  | done f=>
   obtain⟨e,h⟩:=h;cases e;exact fin' s' h
  | again c'=>exact#[h.1,LA h.2 λr s'' hr=>by obtain⟨rfl,hr⟩:=hr; exact fin' s'' hr]
 ·exact absurd h.1 (by simp)
def iP {Q₁:HS->HV->Prop}{r:Ic}{a b c:Ip}{t u v:So}{n:HZ}(hh:A.handled=gV)(hr:RS s.heap r a b c t u v)(hsmall:M4 a b c=true)
  (hn:Kw a b c=n) (hlen:n<=2 ^ 24)
  (h:∀(h':Jk) (tk:HZ) (acc:IM HS),(∀b o,s.heap.get? b=ba o->h'.get? b=ba o)->s.heap.objs.size<=h'.objs.size->NY (λi v=>∃t,v=.int (a+i*c) t) acc n->Q₁ (.ref h'.objs.size) { s with heap:=h'.push { cls:=.type "tuple",data:=.seq acc },toks:=tk }) :
  codeAny (model prog w) A (.call (.builtin "tuple.__new__") #[[.type "tuple",.ref r],[]]) (wants Q₁ E) s:=by
 refine MX ?_;show wpAny _ A.in1 (do checkBuiltinCall "tuple.__new__" #[[.type "tuple",.ref r],[]]; again (.builtin "tuple.__new__" #[[.type "tuple",.ref r],[]])) _ _ s
 refine HP (Mr (F.newCall_tuple_1 _) (HW #[Kz F.plain_tuple_new _,JA F.entry_tuple_new ?_]));rw[Jy F.plain_tuple_new _];have hsub:=PySem.sub_tuple_self;have hinit:=PySem.init_tuple_lookup;have hmh:=PySem.madeHere_tuple;have hTI:s.TypeIs (.ref r) "range":=#[_,hr,rfl];have hh1:A.in1.handled=gV:=by simp[hh]
 wp_walk using LB hTI,kP (A:=A.in1) hh1 hr hsmall hn hlen
 intro h' tk acc hk hle hacc;show wpAny _ _ (Kl acc.toList.toArray >>= λv=>ret v) _ _ _
 unfold Kl;refine HP (Ji ?_ (by show acc.toList.toArray.size<=sizeLine; simp only[Array.toArray_toList]; rw[hacc.1,Jq]; omega))
 refine HW ?_;have e:acc.toList.toArray=acc:=by simp
 rw[e];exact h h' tk acc hk hle hacc
def iQ {Q:HS->HV->Prop}{r:Ic}{a b c:Ip}{t u v:So}{n:HZ}(hh:A.handled=gV)(hr:RS s.heap r a b c t u v)(hsmall:M4 a b c=true)
  (hn:Kw a b c=n) (hlen:n<=2 ^ 24)
  (hQ:∀(h':Jk) (tk:HZ) (acc:IM HS),(∀b o,s.heap.get? b=ba o->h'.get? b=ba o)->s.heap.objs.size<=h'.objs.size->NY (λi v=>∃t,v=.int (a+i*c) t) acc n->Q (.ref h'.objs.size) { s with heap:=h'.push { cls:=.type "tuple",data:=.seq acc },toks:=tk }) :
  wpAny (model prog w) A (call (.type "tuple") [.ref r]) Q E s:=by
 refine callType_codes (Q₁:=λobj s₁=>s₁.TypeIs obj "tuple"/\Q obj s₁) F.called_tuple (F.typeCall_tuple_1 _) F.entry_object_init
  (iP (by simp[hh]) hr hsmall hn hlen λh' tk acc hk hle hacc=>#[#[_,Im _ rfl,rfl],hQ h' tk acc hk hle hacc]) λobj s₁ h₁=>?_
 exact#[h₁.1,F.args_object_init_2 obj _,object_init_meets F.called_tuple.init.lookup F.called_tuple.made #v[] prog w A.in1 _ s₁ #[h₁.1,rfl,h₁.2]]
def oT {a:Ic}{o:Kb}{es:IM (Ip×HS)}{ep:HZ}{t:JH}{ks:HN T}{Q:HS->HV->Prop}(hh:A.handled=gV)(hu:A.units+12 < cLine)(ho:s.heap.get? a=ba o)(hex:o.ExactSet)(hd:o.data=.set es ep t)(hz:es.size<=sizeLine)(fit:t.fits es.size=true)(led:t.led = !d8 w)(pl:t.plain=true->es.size=0\/eJ t es.size=true)
  (hT:IsTs s.heap ks (es.toList.map (·.2))) (hok:jY ks=true)
  (h:∀D h' tk dr c us,(∀b u,s.heap.get? b=ba u->h'.get? b=ba u)->s.heap.objs.size<=D->h'.get? D=ba (seqObj "list" us.toArray c)->IsTs s.heap (dW ks) us->us.Perm (es.toList.map (·.2))->Q (.ref D) { s with heap:=h',toks:=tk,drawn:=dr }) :
  wpAny (model prog w) A (call (.builtin "sorted") [.ref a]) Q E s:=by
 simp only[jY,HX,Ix]at hok;obtain⟨⟨⟨hnum,halt⟩,hnd⟩,hok⟩:=hok;have hN:Nice ks:=#[λx hx=>IG.mp hnum x hx,halt,hnd]
 refine L6 Rw Rh Ri (Rj _) ?_;unfold Lg.«sorted»;refine HP (m:=checkCount "sorted" 1 1 _) (HW ?_);refine HP (oo (A:=A.in1) (by simp[hh]) ho hex hd hz fit led pl λh1 tk dr us kp hle hP=>?_)
 obtain⟨js,hjs,hperm⟩:=uw hP hT;simp only[gy,HX,Ix]at hok;obtain⟨⟨h64,hdp⟩,hok⟩:=hok;have hl:us.length=ks.length:=by rw[hjs.length.symm,hperm.length_eq]
 have hJ:Nice js:=hN.of_sub (λx hx=>hperm.mem_iff.mp hx) (hperm.nodup_iff.mpr hN.nd)
 have hsk:2<=us.length->(qN js).isSome=true:=λh2=>by
  have h3:(qN ks).isSome=true:=by
   rcases Kq _ _ ▸ hok with h|h
   ·simp only[Ix]at h; omega
   ·simp only[HX]at h; exact h.1
  rw[wt hperm]; exact h3
 have hdj:T.depths js<=bK:=gY λx hx=>by
  obtain⟨i,hi,rfl⟩:=JW.mp (hperm.mem_iff.mp hx);exact IL (bT i hi) hdp
 refine HP (NM ?_ (by rw[Jq]; omega))
 have hoL:(h1.push (seqObj "list" us.toArray 0)).get? h1.objs.size=ba (seqObj "list" us.toArray 0):=Im _ rfl;have kp2:∀b o,s.heap.get? b=ba o->(h1.push (seqObj "list" us.toArray 0)).get? b=ba o:=λb o e=>HR _ (kp b o e)
 have hne:∀b o,s.heap.get? b=ba o->b≠h1.objs.size:=λb o e=>IA (IQ (Iv e) hle)
 show wpAny _ _ _ _ _ { s with heap:=h1.push (seqObj "list" us.toArray 0),toks:=tk,drawn:=dr }
 refine HP (JB (Jx QE #[_,hoL,rfl] Qj ?_ (QF _)));refine lw (s:={ s with heap:=h1.push (seqObj "list" us.toArray 0),toks:=tk,drawn:=dr }) (lt:=kL js) (κ:=sf ((qN js).getD 0)) hoL ∅ (λh2 h' hk Q hq=>?_) (λh2 h' hk i j hi hj Q hq=>?_) λh' c hk hD=>?_
 ·obtain⟨c,hc⟩:=Jv.mp (hsk h2);rw[hc]at hq;exact we (s:={ s with heap:=h',toks:=tk,drawn:=dr }) (hjs.kept λb o _ e=>hk b o (hne b o e) (kp2 b o e)) h2 hc hq
 ·obtain⟨c,hc⟩:=Jv.mp (hsk h2);rw[hc];have hjl:=hjs.length;have hi':i < js.length:=∅
  have hj':j < js.length:=∅
  have g:=(hjs.kept (h':=h') λb o _ e=>hk b o (hne b o e) (kp2 b o e))
  have e1:us.getD i Jn=us[i]:=by simp[hi]
  have e2:us.getD j Jn=us[j]:=by simp[hj]
  rw[e1,e2];have b1:=bT (ks:=js) i hi';have b2:=bT (ks:=js) j hj';exact sh (s:={ s with heap:=h',toks:=tk,drawn:=dr }) (d:=bK) (c:=c) (by rw[aE,aE]; unfold bK; omega) ∅ ∅ (g.get i hi' hi) (g.get j hj' hj) (dc hJ.lt hi' hj') (si hc (Jh hi') (Jh hj')) hq
 ·refine#[_,rfl,HW #[_,rfl,h _ h' tk dr c (c8 (kL js) Jn us) (λb o e=>hk b o (hne b o e) (kp2 b o e)) hle hD ?_ (eA.trans hP)]]
  rw[<- ut hN hperm];exact uy hjs
end
section
variable{X:Cx}{J:HN (Ic×Kb)}{Y:L2.St}{H:Hp}{s:HV}{A:HN Ic}{S:aa}
def lE:∀as:HN Ic,Vals (as.map V.ref) (as.map Jb)
 | []=>.nil
 | _::as=>.cons rfl (lE as)
def wu:∀ {ks:HN T} {as:HN Ic},RelL X.K A H (T.ws ks) (as.map V.ref)->∀b∈as,∃k∈ks,Rel X.K A H k.w (.ref b)
 | [],[],_,_,h=>nomatch h
 | [],_::_,r,_,_=>nomatch r
 | _::_,[],r,_,_=>nomatch r
 | k::ks,a::as,r,b,h=>by
  cases r with
  | cons r1 r2=>
   rcases IC.mp h with rfl|h
   ·exact#[k,.head _,r1]
   ·obtain⟨k',h1,h2⟩:=wu r2 b h;exact#[k',.tail _ h1,h2]
def ww (I:Inv X J Y H s):∀ {js:HN T} {us:HN HS},IsTs s.heap js us->(∀u∈us,∃k b,u=Jb b/\Rel X.K A H (T.w k) (.ref b))->∃vs,RelL X.K A H (T.ws js) vs/\Vals vs us
 | _,_,.nil,_=>#[[],.nil,.nil]
 | _,_,.cons a b,h=>by
  obtain⟨k,c,rfl,r⟩:=h _ (.head _);obtain⟨vs,h1,h2⟩:=ww I b λu hu=>h u (.tail _ hu)
  have:IsT s.heap k (.ref c):=jQ I k r rfl;obtain rfl:=a.inj this;exact#[.ref c::vs,.cons r h1,.cons rfl h2]
def oU (hh:X.A.handled=gV)(hu:X.A.units+12 < cLine):LCall X (.builtin "sorted") cu:=by
 intro J s Y H A S xs vs us w S' I so rl rv e;unfold cu at e;split at e
 ·rename_i i;obtain⟨a,ea,rfl⟩:=gR (xs:=[]) rl rv;split at e
  ·rename_i ks hs;split at e
   ·rename_i hb;cases e;unfold DO at hs;split at hs
    ·rename_i us hx;cases hs;obtain⟨o,φ,as,q,⟨hex,es,ep,t,hd,hz,fit,led,pl,he⟩,r⟩:=so.obj i _ a hx ea;have ho:s.heap.get? a=ba o:=(show ObjOk X.prog X.w H s.heap a (.frz o (.ext φ))from I.hok a _ q).1
     have hT:IsTs s.heap ks (es.toList.map (·.2)):=by rw[he]; exact dS I ks r (lE as)
     refine oT hh hu ho hex hd hz fit led pl hT hb λD h' tk dr c us hk hD oD hU hP=>?_
     obtain⟨vs,h1,h2⟩:=ww I hU λu hu=>by
      have:=hP.mem_iff.mp hu;rw[he]at this;obtain⟨b,hb,rfl⟩:=Iy.mp this;obtain⟨k,_,rk⟩:=wu r b hb;exact#[k,b,rfl,rk]
     have hl:us.length<=sizeLine:=by rw[hP.length_eq,HQ,Iw]; exact hz
     exact fq (u:=.lst vs) I so hk hD #[by rw[L2.Vals.length h2]; exact hl,us,c,h2,oD] λhn=>#[_,aF,h1.mono (cp hn)]
    ·cases hs
   ·cases e
  ·cases e
 ·cases e
def qU (hh:X.A.handled=gV)(hu:X.A.units+12 < cLine):LCall X (.type "set") jX:=by
 intro J s Y H A S xs vs us w S' I so rl rv e;unfold jX at e;split at e
 ·rename_i i;obtain⟨a,ea,rfl⟩:=gR (xs:=[]) rl rv;split at e
  ·rename_i ws hw;split at e
   ·rename_i ks hs;split at e
    ·rename_i hb;rw[HU]at e;obtain⟨us,hp,e⟩:=e;cases e;have hkk:∀x∈ks,dF x=true/\x.isTup=true/\x.depth<=au:=λx hx=>by
      have:=IG.mp hb x hx;simp only[wo,HX,Ix]at this;exact#[this.1.1,this.1.2,this.2]
     obtain⟨vs',h1,r1⟩:=aZ so hw ea;obtain⟨its,rv',p,hzz⟩:=I.list h1;have hws:T.ws ks=ws:=W.ts_w hs;rw[<- hws]at r1;have hT:IsTs s.heap ks its:=dS I ks r1 rv';obtain⟨res,hplay,hkeys,hled,hpl⟩:=uu hp (!d8 X.w);have itm:∀(j:HZ) (u:HS),its[j]?=ba u->∃k b,ks[j]?=ba k/\u=Jb b/\Rel X.K A H (T.w k) (.ref b):=λj u hj=>by
      have hjl:=(Il.mp hj).1;have hjk:j < ks.length:=by rw[hT.length]; exact hjl
      have hkw:(T.ws ks)[j]?=ba (T.w ks[j]):=by rw[wp,Ii,Ig hjk]; rfl
      obtain⟨v,hv,rkv⟩:=r1.get hkw;obtain⟨u',hu',ruv⟩:=L2.Vals.get rv' hv;rw[hj]at hu';cases hu';have ht:=(hkk _ (Jh hjk)).2.1;generalize hk0:ks[j]=k0 at rkv ht;cases k0 with
      | int _=>cases ht
      | str _=>cases ht
      | tup ys=>
       cases rkv with
       | tup q1 q2=>
        obtain rfl:u=Jb _:=ruv;exact#[.tup ys,_,by rw[<- hk0]; exact Ig hjk,rfl,.tup q1 q2]
     refine uh (ks:=ks) (res:=res) hh p.isList (by simpa using hT) (λx hx=>#[(hkk x hx).1,(hkk x hx).2.2]) (λj v hj=>?_) (by show _+au < cLine; rw[aE,aE,aE]; unfold au; omega) (by rw[oO ks _ λx hx=>(hkk x hx).1]; exact hplay) λh' tk zs ep ho ez hok hz hy hk=>?_
     ·obtain⟨k,b,_,hb,_⟩:=itm j v (by simpa using hj)
      exact#[b,hb]
     ·have ezt:zs.toList.map (λz=>z.2.1)=us:=by
       rw[<- hkeys,<- ez,NR,JQ]; rfl
      have hsz:res.1.size=zs.size:=by rw[<- ez,JU]
      refine fq (dr:=s.drawn) (u:=.frz (jP X.w zs ep res.2) (.ext λh=>h.get? s.heap.objs.size=ba (jP X.w zs ep res.2))) I so hk (Ih _) #[ho,ho,#[_,ho],λh1 h2 q k=>k _ q] λhn=>#[_,_,zs.toList.map λz=>z.2.2,aF,#[#[rfl,rfl,rfl],zs.map zV,ep,res.2,rfl,?_,?_,hled,?_,?_],?_]
      ·rw[JU,Jq];simp only[cZ,HX,Ix]at hok;have:=hok.2; omega
      ·rw[JU];simp only[cZ,HX,Ix]at hok;exact hok.1.1
      ·rw[JU,<- hsz]; exact λz=>.inr (hpl z)
      ·rw[NR,JQ,JQ]; rfl
      ·rw[<- ezt];have all:∀z∈zs.toList,Rel X.K (A++[s.heap.objs.size]) (bh H s.heap.objs.size (.frz (jP X.w zs ep res.2) (.ext λh=>h.get? s.heap.objs.size=ba (jP X.w zs ep res.2)))) (T.w z.2.1) (.ref z.2.2):=λz hz'=>by
        obtain⟨j,g1,g2⟩:=hy z hz';obtain⟨k,b,g3,g4,g5⟩:=itm j _ (by simpa using g2)
        rw[g1]at g3;cases g3; cases g4
        exact g5.mono (cp hn)
       clear hy ezt;generalize zs.toList=l at all
       induction l with
       | nil=>exact .nil
       | cons z l ih=>exact .cons (all z (.head _)) (ih λy hy=>all y (.tail _ hy))
    ·cases e
   ·cases e
  ·cases e
 ·cases e
def mW (hh:X.A.handled=gV):LCall X (.type "tuple") jZ:=by
 intro J s Y H A S xs vs us w S' I so rl rv e;unfold jZ at e;split at e
 ·rename_i i;split at e
  ·rename_i lo hi hr;split at e
   ·rename_i hb;cases e;obtain⟨a,ea,rfl⟩:=gR (xs:=[]) rl rv;obtain⟨b1,b2,b3,b4,b5⟩:=hb;have hH:H a=ba (.rng lo hi):=by
     unfold vV at hr;split at hr
     ·rename_i hx; cases hr; exact so.obj i _ a hx ea
     ·cases hr
    obtain⟨t,u,v,ho⟩:=I.hok a _ hH;have hn:Kw lo hi 1=((hi - lo).toNat:HZ):=by rw[OP]; split <;> omega
    refine iQ hh ho (Q9 b1 b2 b3 b4) hn b5 λh' tk acc hk hle hacc=>?_
    have hv:Vals ((ID (hi - lo).toNat).map λ(k:HZ)=>V.int (lo+(k:Ip))) acc.toList:=by
     refine mK (by rw[HQ,IV,Iw,hacc.1]) λi v u e1 e2=>?_
     rw[Ii,HU]at e1;obtain⟨k,e1,rfl⟩:=e1;obtain⟨hk,rfl⟩:=Il.mp e1;obtain⟨t,rfl⟩:=hacc.2 i u (by rw[<- JF]; exact e2)
     exact#[t,by simp]
    have hnn:H h'.objs.size=gV:=I.hok.fresh hle;refine#[.ref h'.objs.size,_,A,I.laid (a:=h'.objs.size) (o:=.tup ((ID (hi - lo).toNat).map λ(k:HZ)=>V.int (lo+(k:Ip)))) (t':=tk) (λb o e=>HR _ (hk b o e)) hle #[by simpa using b5,acc.toList,hv,?_],rfl,bX (.inl hnn),so.lay hnn,.tup (.inl (.inl aF)) (mL _)]
    exact#[_,Im _ rfl,rfl,0,by simp]
   ·cases e
  ·exact i8 J s Y H A S _ vs us w S' I so rl rv e
 ·exact i8 J s Y H A S _ vs us w S' I so rl rv e
end
section
variable{X:Cx}{J:HN (Ic×Kb)}{Y:L2.St}{H:Hp}{s:HV}{A:HN Ic}{S:aa}
def uz (hh:X.A.handled=gV)(hu:X.A.units+12 < cLine):LCall X (.builtin "min") wf:=by
 intro J s Y H A S xs vs us w S' I so rl rv e;cases rl with
 | nil=>cases e
 | cons r t=>
  cases t with
  | cons _ _=>cases r <;> cases e
  | nil=>
   cases rv with
   | cons ru rv2=>
    cases rv2;cases r with
    | ref ea=>
     simp only[wf]at e;split at e
     ·rename_i ws hw;split at e
      ·rename_i ks hk;split at e
       ·rename_i hc;rw[HU]at e;obtain⟨w',e1,e2⟩:=e;cases e2;obtain⟨vs',h1,r1⟩:=aZ so hw ea;obtain⟨its,rv1,p,hz⟩:=I.list h1;obtain rfl:_=Jb _:=ru;have hws:T.ws ks=ws:=W.ts_w hk;have hT:IsTs s.heap ks its:=dS I ks (hws ▸ r1) rv1;have hl:its.length=ks.length:=hT.length.symm;have hlw:ws.length=ks.length:=by rw[r1.length,L2.Vals.length rv1,hl]
        have hn:0 < ks.length:=by
         have:=(Il.mp e1).1;omega
        refine wa (items:=its.toArray) (bt:=kL ks) hh p.isList (by simpa [hl]using hn) (λi j vi vj s' Q E hk' hi hj hq=>?_) λv h' tk hv hk'=>?_
        ·have hi':i < ks.length:=by
          have:=(Kg.mp hi).1
          simpa [hl]using this
         have hj':j < ks.length:=by
          have:=(Kg.mp hj).1
          simpa [hl]using this
         have g:=hT.kept (h':=s'.heap) λb o _ e=>hk' b o e
         have e1:vi=its[i]'∅:=by
          have:=(Kg.mp hi).2
          simpa using this.symm
         have e2:vj=its[j]'∅:=by
          have:=(Kg.mp hj).2
          simpa using this.symm
         subst e1 e2;have b1:=bT (ks:=ks) i hi';have b2:=bT (ks:=ks) j hj';exact Ex bK _ _ _ _ X.A.in1 s' _ ∅ ∅ (g.get i hi' ∅) (g.get j hj' ∅) (by rw[aE]; unfold bK; omega) (dc hc.2 hi' hj') X.prog X.w _ _ hq
        ·have hv':its[iN ks]?=ba v:=by
          have:its.toArray.size=ks.length:=by simpa using hl
          rw[this]at hv
          simpa [iN]using hv
         obtain⟨v',q1,q2⟩:=r1.get e1;obtain⟨u',q3,q4⟩:=L2.Vals.get rv1 q1;rw[hv']at q3;cases q3;exact#[v',H,A,I.kept hk',q4,.refl,so,q2]
       ·cases e
      ·cases e
     ·cases e
    | _=>cases e
def lF:∀ {ws:HN W} {bs:HN IN},gA ws=ba bs->ws=bs.map W.bl
 | [],bs,h=>by cases h; rfl
 | .bl b::ws,bs,h=>by
  simp only[gA,HU]at h;obtain⟨r,h1,h2⟩:=h;subst h2;rw[lF h1]; rfl
 | .non::_,_,h|.int _::_,_,h|.str _::_,_,h|.tup _::_,_,h|.ref _::_,_,h=>by cases h
def qV {bs:HN IN}{vs:HN V}{us:HN HS}(r:RelL X.K A H (bs.map W.bl) vs)(rv:Vals vs us):us=bs.map LN:=by
 induction bs generalizing vs us with
 | nil=>cases r; cases rv; rfl
 | cons b bs ih=>
  cases r with
  | cons r1 r2=>
   cases rv with
   | cons v1 v2=>
    cases r1;obtain rfl:_=LN b:=v1;rw[ih r2 v2]; rfl
def uA (bs:HN IN):(ID bs.length).all (λi=>bs.getD i false)=bs.all id:=by
 induction bs with
 | nil=>rfl
 | cons b bs ih=>simp[NW,Rf,PB]at ih ⊢; rw[ih]
def Cy {id:JX}{fb:HN IN->IN}{g:HN W->aa->HY (W×aa)}(hg:∀xs S,g xs S=match xs with|[.ref i]=>(match eY S i with|some ws=>(gA ws).map λbs=>(.bl (fb bs),S)|none=>gV)|_=>gV)
  (hcall:∀ {s:HV} {x:HS} {Q:HS->HV->Prop} {E:HS->HV->Prop} {bs:HN IN},wpAny (model X.prog X.w) X.A.in1 (pyIter x) (λit s₂=>∃I fp wr P St,it=.ref I/\Qa X.prog X.w X.A.in1 I fp wr bs.length P St/\St 0 s₂.heap/\TruthOf X.prog X.w X.A.in1 P (λi=>bs.getD i false)/\
   ∀h' tk,(∀b o,b∉wr->s₂.heap.get? b=ba o->h'.get? b=ba o)->Q (.bool (fb bs)) { s₂ with heap:=h',toks:=tk }) E s->wpAny (model X.prog X.w) X.A (call (.builtin id) [x]) Q E s)
  (hh:X.A.handled=gV):LCall X (.builtin id) g:=by
 intro J s Y H A S xs vs us w S' I so rl rv e;rw[hg]at e;cases rl with
 | nil=>cases e
 | cons r t=>
  cases t with
  | cons _ _=>cases r <;> cases e
  | nil=>
   cases rv with
   | cons ru rv2=>
    cases rv2;cases r with
    | @ref ri ad ea=>
     simp only at e;split at e
     ·rename_i ws hw;rw[HU]at e;obtain⟨bs,e1,e2⟩:=e;cases e2;obtain⟨vs',h1,r1⟩:=aZ so hw ea;obtain⟨its,rv1,p,hz⟩:=I.list h1;obtain rfl:_=Jb _:=ru;rw[lF e1]at r1;have hits:=qV r1 rv1;refine hcall (bs:=bs) ?_;refine LK p.isList ?_;have hlt:ad < s.heap.objs.size:=by obtain⟨_,ho,_⟩:=p.isList; exact Iv ho
      have W:=QD (prog:=X.prog) (w:=X.w) (A:=X.A.in1) hh s.heap.objs.size ad (IA hlt) its.toArray;have hsz:its.toArray.size=bs.length:=by rw[Iu,hits,HQ]
      rw[hsz]at W;refine#[_,_,_,_,_,rfl,W,#[#[_,Im _ rfl,rfl,rfl],?_],λi v s' Q E hi hq=>?_,λh' tk hk=>?_]
      ·obtain⟨o,ho,hc⟩:=p.isList;exact#[o,HR _ ho,hc]
      ·have hb:bs[i]?.map LN=ba v:=by rw[<- Ii,<- hits]; simpa using hi
       cases q:bs[i]? with
       | none=>rw[q]at hb; cases hb
       | some b=>
        rw[q]at hb;cases hb;have eb:bs.getD i false=b:=by simp[q]
        have hq:Q (bs.getD i false) s':=hq;rw[eb]at hq;exact KO hq
      ·refine#[.bl (fb bs),H,A,I.kept (λb o e=>hk b o (λz=>?_) (HR _ e)),rfl,.refl,so,.bl]
       have hb:=Iv e;rw[Ik.mp z]at hb;exact J3 _ hb
     ·cases e
    | _=>cases e
def uB (hh:X.A.handled=gV):LCall X (.builtin "all") Cv:=
 Cy (fb:=λbs=>bs.all id) (λxs S=>rfl) (λ{s x Q E bs} h=>call_all_walk (Ks h (λit s₂ #[I,fp,wr,P,St',a,b,c,d,f]=>#[I,fp,wr,_,P,St',_,a,b,c,d,λh' tk hk=>by rw[uA]; exact f h' tk hk]) λ_ _ e=>e)) hh
end
noncomputable abbrev FA:=Fm->aa->HY (HN W×aa)
noncomputable abbrev FT:=Fm->aa->HY (IN×aa)
inductive Out where
 | nx (Z:Fm)|rt (w:W)|bk (Z:Fm)|ct (Z:Fm)
noncomputable abbrev FS:=Fm->aa->HY (Out×aa)
section
variable (X:Cx)
abbrev tE (f:FE):TE:=λY H Q=>∃A Z S w S',EnvRel X.K A H Z Y/\StoreOk X.w X.K A H S/\f Z S=ba (w,S')/\∀v H',EndV X.w X.K A H S' w v H'->Q v H'
abbrev EndB (A:HN Ic)(H:Hp)(S':aa)(k:IN):IN->Hp->Prop:=λb H'=>b=k/\∃A',Ext X.K A H A' H'/\StoreOk X.w X.K A' H' S'
abbrev tT (f:FT):TT:=λY H Q=>∃A Z S k S',EnvRel X.K A H Z Y/\StoreOk X.w X.K A H S/\f Z S=ba (k,S')/\∀b H',EndB X A H S' k b H'->Q b H'
abbrev Cz (A:HN Ic)(H:Hp)(S':aa)(ws:HN W):HN V->Hp->Prop:=λvs H'=>∃A',Ext X.K A H A' H'/\StoreOk X.w X.K A' H' S'/\RelL X.K A' H' ws vs
abbrev tA (f:FA):TA:=λY H Q=>∃A Z S ws S',EnvRel X.K A H Z Y/\StoreOk X.w X.K A H S/\f Z S=ba (ws,S')/\∀vs H',Cz X A H S' ws vs H'->Q vs H'
abbrev EndS (A:HN Ic)(H:Hp)(o:Out)(S':aa):Ends where
 nx:=λY' H'=>∃Z' A',o=.nx Z'/\Ext X.K A H A' H'/\StoreOk X.w X.K A' H' S'/\EnvRel X.K A' H' Z' Y'
 rt:=λv H'=>∃w A',o=.rt w/\Ext X.K A H A' H'/\StoreOk X.w X.K A' H' S'/\Rel X.K A' H' w v
 bk:=λY' H'=>∃Z' A',o=.bk Z'/\Ext X.K A H A' H'/\StoreOk X.w X.K A' H' S'/\EnvRel X.K A' H' Z' Y'
 ct:=λY' H'=>∃Z' A',o=.ct Z'/\Ext X.K A H A' H'/\StoreOk X.w X.K A' H' S'/\EnvRel X.K A' H' Z' Y'
structure Imp (E D:Ends):Prop where
 nx:∀Y H,E.nx Y H->D.nx Y H
 rt:∀v H,E.rt v H->D.rt v H
 bk:∀Y H,E.bk Y H->D.bk Y H
 ct:∀Y H,E.ct Y H->D.ct Y H
abbrev tS (f:FS):TS:=λD Y H=>∃A Z S o S',EnvRel X.K A H Z Y/\StoreOk X.w X.K A H S/\f Z S=ba (o,S')/\Imp (EndS X A H o S') D
noncomputable abbrev GE (e:IJ)(f:FE):Prop:=PE X e (tE X f)
noncomputable abbrev GT (e:IJ)(f:FT):Prop:=PT X e (tT X f)
noncomputable abbrev GW (e:IJ)(f:FT):Prop:=PW X e (tT X f)
noncomputable abbrev GA (es:HN IJ)(f:FA):Prop:=PA X es (tA X f)
noncomputable abbrev GS (st:Lm)(f:FS):Prop:=PS X st (tS X f)
noncomputable abbrev GSs (sts:HN Lm)(f:FS):Prop:=PSs X sts (tS X f)
end
def Imp.trans {E D F:Ends}(a:Imp E D)(b:Imp D F):Imp E F:=#[λ_ _ h=>b.nx _ _ (a.nx _ _ h),λ_ _ h=>b.rt _ _ (a.rt _ _ h),λ_ _ h=>b.bk _ _ (a.bk _ _ h),λ_ _ h=>b.ct _ _ (a.ct _ _ h)]
section
variable{X:Cx}
def GE.of {e:IJ}{t:TE}{f:FE}(h:PE X e t)(hf:∀(Y:L2.St) (H:Hp) (A:HN Ic) (Z:Fm) (S:aa) (w:W) (S':aa),EnvRel X.K A H Z Y->StoreOk X.w X.K A H S->f Z S=ba (w,S')->∀Q:VK,(∀v H',EndV X.w X.K A H S' w v H'->Q v H')->t Y H Q):GE X e f:=
 λJ s Y H Q I #[A,Z,S,w,S',er,so,e1,hq]=>h J s Y H Q I (hf Y H A Z S w S' er so e1 Q hq)
def GT.of {e:IJ}{t:TT}{f:FT}(h:PT X e t)(hf:∀(Y:L2.St) (H:Hp) (A:HN Ic) (Z:Fm) (S:aa) (k:IN) (S':aa),EnvRel X.K A H Z Y->StoreOk X.w X.K A H S->f Z S=ba (k,S')->∀Q:IN->Hp->Prop,(∀b H',EndB X A H S' k b H'->Q b H')->t Y H Q):GT X e f:=
 λJ s Y H Q I #[A,Z,S,w,S',er,so,e1,hq]=>h J s Y H Q I (hf Y H A Z S w S' er so e1 Q hq)
def GW.of {e:IJ}{t:TT}{f:FT}(h:PW X e t)(hf:∀(Y:L2.St) (H:Hp) (A:HN Ic) (Z:Fm) (S:aa) (k:IN) (S':aa),EnvRel X.K A H Z Y->StoreOk X.w X.K A H S->f Z S=ba (k,S')->∀Q:IN->Hp->Prop,(∀b H',EndB X A H S' k b H'->Q b H')->t Y H Q):GW X e f:=
 λwh J s Y H Q I #[A,Z,S,w,S',er,so,e1,hq]=>h wh J s Y H Q I (hf Y H A Z S w S' er so e1 Q hq)
def GA.of {es:HN IJ}{t:TA}{f:FA}(h:PA X es t)(hf:∀(Y:L2.St) (H:Hp) (A:HN Ic) (Z:Fm) (S:aa) (ws:HN W) (S':aa),EnvRel X.K A H Z Y->StoreOk X.w X.K A H S->f Z S=ba (ws,S')->∀Q:HN V->Hp->Prop,(∀vs H',Cz X A H S' ws vs H'->Q vs H')->t Y H Q):GA X es f:=
 λpos J s Y H Q I #[A,Z,S,w,S',er,so,e1,hq]=>h pos J s Y H Q I (hf Y H A Z S w S' er so e1 Q hq)
def GS.of {st:Lm}{t:TS}{f:FS}(h:PS X st t)(hf:∀(Y:L2.St) (H:Hp) (A:HN Ic) (Z:Fm) (S:aa) (o:Out) (S':aa),EnvRel X.K A H Z Y->StoreOk X.w X.K A H S->f Z S=ba (o,S')->∀D:Ends,Imp (EndS X A H o S') D->t D Y H):GS X st f:=
 λJ s Y H D I #[A,Z,S,o,S',er,so,e1,hq]=>h J s Y H D I (hf Y H A Z S o S' er so e1 D hq)
def GSs.of {st:HN Lm}{t:TS}{f:FS}(h:PSs X st t)(hf:∀(Y:L2.St) (H:Hp) (A:HN Ic) (Z:Fm) (S:aa) (o:Out) (S':aa),EnvRel X.K A H Z Y->StoreOk X.w X.K A H S->f Z S=ba (o,S')->∀D:Ends,Imp (EndS X A H o S') D->t D Y H):GSs X st f:=
 λJ s Y H D I #[A,Z,S,o,S',er,so,e1,hq]=>h J s Y H D I (hf Y H A Z S o S' er so e1 D hq)
def EndV.after {A A1:HN Ic}{H H1:Hp}{S':aa}{w:W}{v:V}{H':Hp}(e:Ext X.K A H A1 H1)(h:EndV X.w X.K A1 H1 S' w v H'):EndV X.w X.K A H S' w v H':=by
 obtain⟨A',x,y,z⟩:=h;exact#[A',e.trans x,y,z]
def EndB.after {A A1:HN Ic}{H H1:Hp}{S':aa}{k b:IN}{H':Hp}(e:Ext X.K A H A1 H1)(h:EndB X A1 H1 S' k b H'):EndB X A H S' k b H':=by
 obtain⟨h1,A',x,y⟩:=h;exact#[h1,A',e.trans x,y]
def EndS.after {A A1:HN Ic}{H H1:Hp}{S':aa}{o:Out}(e:Ext X.K A H A1 H1):Imp (EndS X A1 H1 o S') (EndS X A H o S'):=
 #[λ_ _ #[Z',A',a,b,c,d]=>#[Z',A',a,e.trans b,c,d],λ_ _ #[Z',A',a,b,c,d]=>#[Z',A',a,e.trans b,c,d],λ_ _ #[Z',A',a,b,c,d]=>#[Z',A',a,e.trans b,c,d],λ_ _ #[Z',A',a,b,c,d]=>#[Z',A',a,e.trans b,c,d]]
abbrev fC (w:W):FE:=λ_ S=>ba (w,S)
abbrev fV (i:HZ):FE:=λZ S=>match Z[i]? with
 | some (ba w)=>ba (w,S)
 | _=>gV
def oV {e:IJ}{v:V}{w:W}(h:PE X e (tC v))(r:∀A H,Rel X.K A H w v):GE X e (fC w):=
 GE.of h λY H A Z S w' S' er so e Q hq=>by cases e; exact hq _ _ (.here so (r A H))
def GC {i:HZ}{e:IJ}(h:PE X e (BO i)):GE X e (fV i):=GE.of h λY H A Z S w S' er so e Q hq=>by
 unfold fV at e;split at e
 ·rename_i w' hw;cases e;obtain⟨v,h1,h2⟩:=er.2 i _ hw;exact#[v,h1,hq _ _ (.here so h2)]
 ·cases e
abbrev zL (g:W->W->aa->HY (W×aa))(fa fb:FE):FE:=λZ S=>match fa Z S with
 | some (x,S1)=>match fb Z S1 with
  | some (y,S2)=>g x y S2
  | none=>gV
 | none=>gV
def FV {fa fb:FE}{g:W->W->aa->HY (W×aa)}{Z:Fm}{S:aa}{r:W×aa}(e:zL g fa fb Z S=ba r):∃x S1 y S2,fa Z S=ba (x,S1)/\fb Z S1=ba (y,S2)/\g x y S2=ba r:=by
 unfold zL at e;split at e
 ·rename_i x S1 h1;split at e
  ·rename_i y S2 h2;exact#[x,S1,y,S2,h1,h2,e]
  ·cases e
 ·cases e
def gZ {fa fb:FE}{Z:Fm}{S S1 S2:aa}{x y:W}{Y:L2.St}{H:Hp}{A:HN Ic}{R:V->V->Hp->Prop}(er:EnvRel X.K A H Z Y)(so:StoreOk X.w X.K A H S)(h1:fa Z S=ba (x,S1))(h2:fb Z S1=ba (y,S2))
  (h:∀a b H2 A2,Ext X.K A H A2 H2->StoreOk X.w X.K A2 H2 S2->Rel X.K A2 H2 x a->Rel X.K A2 H2 y b->R a b H2):tE X fa Y H λa H1=>tE X fb Y H1 λb H2=>R a b H2:=by
 refine#[A,Z,S,x,S1,er,so,h1,λa H1 #[A1,e1,o1,r1]=>?_]
 refine#[A1,Z,S1,y,S2,er.mono e1,o1,h2,λb H2 #[A2,e2,o2,r2]=>?_]
 exact h a b H2 A2 (e1.trans e2) o2 (r1.mono e2) r2
def LOp.opr {f:HS->HS->Ry HS}{g:W->W->aa->HY (W×aa)}(h:LOp X f g):OpR X f (λa b H Q=>∃A S x y w S',StoreOk X.w X.K A H S/\Rel X.K A H x a/\Rel X.K A H y b/\g x y S=ba (w,S')/\∀v H',EndV X.w X.K A H S' w v H'->Q v H'):=by
 intro J s Y H a b u v Q I ru rv ⟨A,S,x,y,w,S',so,rx,ry,e,hq⟩;exact bm (h J s Y H A S x y a b u v w S' I so rx ru ry rv e) λu' s' #[v',H',A',I',r',e1,o1,z1]=>#[v',H',I',r',hq v' H' #[A',e1,o1,z1]]
def Bm {a b:IJ}{op:Pg}{pos:KW}{fa fb:FE}{g:W->W->aa->HY (W×aa)}(ho:LOp X (binaryOp op) g)(ha:GE X a fa)(hb:GE X b fb):GE X (.BinOp a op b pos) (zL g fa fb):=
 GE.of (D8 ho.opr ha hb) λY H A Z S w S' er so e Q hq=>by
  obtain⟨x,S1,y,S2,h1,h2,h3⟩:=FV e;exact gZ er so h1 h2 λa b H2 A2 e2 o2 r1 r2=>#[A2,S2,x,y,w,S',o2,r1,r2,h3,λv H' z=>hq v H' (z.after e2)]
abbrev wx (fa:FE):FE:=λZ S=>match fa Z S with
 | some (.int i,S1)=>ba (.int (-i),S1)
 | _=>gV
def wy {a:IJ}{pos:KW}{fa:FE}(ha:GE X a fa):GE X (.UnaryOp .USub a pos) (wx fa):=
 GE.of (D9 Cf ha) λY H A Z S w S' er so e Q hq=>by
  unfold wx at e;split at e
  ·rename_i i S1 h1;cases e;refine#[A,Z,S,_,_,er,so,h1,λv H1 #[A1,e1,o1,r1]=>?_]
   cases r1;exact#[_,rfl,hq _ _ #[A1,e1,o1,.int]]
  ·cases e
abbrev zM (o:COp)(fa fb:FE):FE:=zL (cr o) fa fb
def CA {a b:IJ}{o:COp}{pos:KW}{fa fb:FE}(hu:X.A.units+gw < cLine)(ha:GE X a fa)(hb:GE X b fb)(hm:behindInMarks o.py b=false):GE X (.Compare a [o.py] [b] pos) (zM o fa fb):=
 GE.of (yY (oz hu o).opr ha hb hm) λY H A Z S w S' er so e Q hq=>by
  obtain⟨x,S1,y,S2,h1,h2,h3⟩:=FV e;exact gZ er so h1 h2 λa b H2 A2 e2 o2 r1 r2=>#[A2,S2,x,y,w,S',o2,r1,r2,h3,λv H' z=>hq v H' (z.after e2)]
abbrev wz (f:FE):FT:=λZ S=>match f Z S with
 | some (.bl k,S')=>ba (k,S')
 | _=>gV
def CB {a b:IJ}{o:COp}{pos:KW}{fa fb:FE}(hu:X.A.units+gw < cLine)(ha:GE X a fa)(hb:GE X b fb)(hm:behindInMarks o.py b=false):GT X (.Compare a [o.py] [b] pos) (wz (zM o fa fb)):=
 GT.of (yZ (oz hu o).opr ha hb hm) λY H A Z S k S' er so e Q hq=>by
  unfold wz at e;split at e
  ·rename_i k' S'' h0;cases e;obtain⟨x,S1,y,S2,h1,h2,h3⟩:=FV h0;refine gZ er so h1 h2 λa b H2 A2 e2 o2 r1 r2=>#[A2,S2,x,y,_,_,o2,r1,r2,h3,λv H' #[A',z1,z2,z3]=>?_]
   cases z3;exact#[k,rfl,hq _ _ #[rfl,A',e2.trans z1,z2]]
  ·cases e
abbrev fX (f:FE):FT:=λZ S=>match f Z S with
 | some (w,S')=>(fj S' w).map λk=>(k,S')
 | none=>gV
def ce {e:IJ}{f:FE}(h:GE X e f)(he:∀whole,isTrue e X.env whole=(do let v <- whole; standAt e.pos; holding [v] (truthy v))):GT X e (fX f):=by
 intro J s Y H Q I ⟨A,Z,S,k,S',er,so,e1,hq⟩;unfold fX at e1;split at e1
 ·rename_i w S1 h1;rw[HU]at e1;obtain⟨k',ek,e2⟩:=e1;cases e2;refine isTrue_plain (bm (h J s Y H (EndV X.w X.K A H _ w) I #[A,Z,S,w,_,er,so,h1,λ_ _ z=>z]) λv s1 #[x,H1,I1,r1,A1,e1,o1,z1]=>?_) (he _)
  exact Gz I1 o1 z1 r1 ek λs' I'=>#[H1,I',hq _ _ #[rfl,A1,e1,o1]]
 ·cases e1
abbrev wD (f g:FT):FT:=λZ S=>match f Z S with
 | some (true,S1)=>g Z S1
 | some (false,S1)=>ba (false,S1)
 | none=>gV
abbrev Ey (f g:FT):FT:=λZ S=>match f Z S with
 | some (true,S1)=>ba (true,S1)
 | some (false,S1)=>g Z S1
 | none=>gV
abbrev zN (f:FT):FT:=λZ S=>match f Z S with
 | some (k,S1)=>ba (!k,S1)
 | none=>gV
def wF {f g:FT}{Y:L2.St}{H:Hp}{A:HN Ic}{Z:Fm}{S:aa}{k:IN}{S':aa}(er:EnvRel X.K A H Z Y)(so:StoreOk X.w X.K A H S)(e:wD f g Z S=ba (k,S'))(Q:IN->Hp->Prop)(hq:∀b H',EndB X A H S' k b H'->Q b H') :
  DV (tT X f) (tT X g) Y H Q:=by
 unfold wD at e;split at e
 ·rename_i S1 h1;refine#[A,Z,S,true,S1,er,so,h1,λb H1 #[z0,A1,z1,z2]=>?_]
  subst z0;rw[IF rfl];exact#[A1,Z,S1,k,S',er.mono z1,z2,e,λb H' q=>hq b H' (q.after z1)]
 ·rename_i S1 h1;cases e;refine#[A,Z,S,false,_,er,so,h1,λb H1 #[z0,A1,z1,z2]=>?_]
  subst z0;rw[IP IE];exact hq _ _ #[rfl,A1,z1,z2]
 ·cases e
def zO {f g:FT}{Y:L2.St}{H:Hp}{A:HN Ic}{Z:Fm}{S:aa}{k:IN}{S':aa}(er:EnvRel X.K A H Z Y)(so:StoreOk X.w X.K A H S)(e:Ey f g Z S=ba (k,S'))(Q:IN->Hp->Prop)(hq:∀b H',EndB X A H S' k b H'->Q b H') :
  Hm (tT X f) (tT X g) Y H Q:=by
 unfold Ey at e;split at e
 ·rename_i S1 h1;cases e;refine#[A,Z,S,true,_,er,so,h1,λb H1 #[z0,A1,z1,z2]=>?_]
  subst z0;rw[IF rfl];exact hq _ _ #[rfl,A1,z1,z2]
 ·rename_i S1 h1;refine#[A,Z,S,false,S1,er,so,h1,λb H1 #[z0,A1,z1,z2]=>?_]
  subst z0;rw[IP IE];exact#[A1,Z,S1,k,S',er.mono z1,z2,e,λb H' q=>hq b H' (q.after z1)]
 ·cases e
def zP {a:IJ}{pos:KW}{f:FT}(h:GT X a f):GW X (.BoolOp .And [a] pos) f:=yQ h
def CC {a:IJ}{pos:KW}{f:FT}(h:GT X a f):GW X (.BoolOp .Or [a] pos) f:=BP h
def CD {a b:IJ}{r:HN IJ}{pos:KW}{f g:FT}(h:GT X a f)(h2:GW X (.BoolOp .And (b::r) pos) g):GW X (.BoolOp .And (a::b::r) pos) (wD f g):=
 GW.of (BQ h h2) λY H A Z S k S' er so e Q hq=>wF er so e Q hq
def Ez {a b:IJ}{r:HN IJ}{pos:KW}{f g:FT}(h:GT X a f)(h2:GW X (.BoolOp .Or (b::r) pos) g):GW X (.BoolOp .Or (a::b::r) pos) (Ey f g):=
 GW.of (DW h h2) λY H A Z S k S' er so e Q hq=>zO er so e Q hq
def CF {a:IJ}{pos:KW}{f:FT}(h:GT X a f):GT X (.UnaryOp .Not a pos) (zN f):=
 GT.of (BR h) λY H A Z S k S' er so e Q hq=>by
  unfold zN at e;split at e
  ·rename_i k1 S1 h1;cases e;refine#[A,Z,S,k1,_,er,so,h1,λb H1 #[z0,A1,z1,z2]=>?_]
   subst z0;exact hq _ _ #[rfl,A1,z1,z2]
  ·cases e
abbrev su (f g:FE):FE:=λZ S=>match f Z S with
 | some (.bl true,S1)=>g Z S1
 | some (.bl false,S1)=>ba (.bl false,S1)
 | _=>gV
abbrev zQ (f g:FE):FE:=λZ S=>match f Z S with
 | some (.bl true,S1)=>ba (.bl true,S1)
 | some (.bl false,S1)=>g Z S1
 | _=>gV
abbrev sv (f:FE):FE:=λZ S=>match f Z S with
 | some (.bl k,S1)=>ba (.bl (!k),S1)
 | _=>gV
def CG {a:IJ}{op:RM}{pos:KW}{f:FE}(h:GE X a f):GE X (.BoolOp op [a] pos) f:=BS h
def CH {a b:IJ}{r:HN IJ}{pos:KW}{f g:FE}(h:GE X a f)(h2:GE X (.BoolOp .And (b::r) pos) g):GE X (.BoolOp .And (a::b::r) pos) (su f g):=
 GE.of (BU h h2) λY H A Z S w S' er so e Q hq=>by
  unfold su at e;split at e
  ·rename_i S1 h1;refine#[A,Z,S,_,S1,er,so,h1,λv H1 #[A1,z1,z2,z3]=>?_]
   cases z3;refine#[true,rfl,?_];rw[IF rfl];exact#[A1,Z,S1,w,S',er.mono z1,z2,e,λb H' q=>hq b H' (q.after z1)]
  ·rename_i S1 h1;cases e;refine#[A,Z,S,_,_,er,so,h1,λv H1 #[A1,z1,z2,z3]=>?_]
   cases z3;refine#[false,rfl,?_];rw[IP IE];exact hq _ _ #[A1,z1,z2,.bl]
  ·cases e
def EA {a b:IJ}{r:HN IJ}{pos:KW}{f g:FE}(h:GE X a f)(h2:GE X (.BoolOp .Or (b::r) pos) g):GE X (.BoolOp .Or (a::b::r) pos) (zQ f g):=
 GE.of (DZ h h2) λY H A Z S w S' er so e Q hq=>by
  unfold zQ at e;split at e
  ·rename_i S1 h1;cases e;refine#[A,Z,S,_,_,er,so,h1,λv H1 #[A1,z1,z2,z3]=>?_]
   cases z3;refine#[true,rfl,?_];rw[IF rfl];exact hq _ _ #[A1,z1,z2,.bl]
  ·rename_i S1 h1;refine#[A,Z,S,_,S1,er,so,h1,λv H1 #[A1,z1,z2,z3]=>?_]
   cases z3;refine#[false,rfl,?_];rw[IP IE];exact#[A1,Z,S1,w,S',er.mono z1,z2,e,λb H' q=>hq b H' (q.after z1)]
  ·cases e
def CI {a:IJ}{pos:KW}{f:FE}(h:GE X a f):GE X (.UnaryOp .Not a pos) (sv f):=
 GE.of (BV h) λY H A Z S w S' er so e Q hq=>by
  unfold sv at e;split at e
  ·rename_i k1 S1 h1;cases e;refine#[A,Z,S,_,_,er,so,h1,λb H1 #[A1,z1,z2,z3]=>?_]
   cases z3;exact#[_,rfl,hq _ _ #[A1,z1,z2,.bl]]
  ·cases e
abbrev zR (c:FT)(f g:FE):FE:=λZ S=>match c Z S with
 | some (true,S1)=>f Z S1
 | some (false,S1)=>g Z S1
 | none=>gV
def CJ {c a b:IJ}{pos:KW}{fc:FT}{f g:FE}(hc:GT X c fc)(ha:GE X a f)(hb:GE X b g):GE X (.IfExp c a b pos) (zR fc f g):=
 GE.of (vf hc ha hb) λY H A Z S w S' er so e Q hq=>by
  unfold zR at e;split at e
  ·rename_i S1 h1;refine#[A,Z,S,_,S1,er,so,h1,λb H1 #[z0,A1,z1,z2]=>?_]
   subst z0;rw[IF rfl];exact#[A1,Z,S1,w,S',er.mono z1,z2,e,λb H' q=>hq b H' (q.after z1)]
  ·rename_i S1 h1;refine#[A,Z,S,_,S1,er,so,h1,λb H1 #[z0,A1,z1,z2]=>?_]
   subst z0;rw[IP IE];exact#[A1,Z,S1,w,S',er.mono z1,z2,e,λb H' q=>hq b H' (q.after z1)]
  ·cases e
abbrev g9:FA:=λ_ S=>ba ([],S)
abbrev dj (f:FE)(g:FA):FA:=λZ S=>match f Z S with
 | some (w,S1)=>match g Z S1 with
  | some (ws,S2)=>ba (w::ws,S2)
  | none=>gV
 | none=>gV
def CK:GA X [] g9:=GA.of vo λY H A Z S ws S' er so e Q hq=>by cases e; exact hq _ _ #[A,.refl,so,.nil]
def zS {e:IJ}{es:HN IJ}{f:FE}{g:FA}(h:GE X e f)(h2:GA X es g)(hs:starEach (e::es) X.env=(false,eval e X.env)::starEach es X.env):GA X (e::es) (dj f g):=
 GA.of (mr h h2 hs) λY H A Z S ws S' er so e Q hq=>by
  unfold dj at e;split at e
  ·rename_i w S1 h1;split at e
   ·rename_i ws2 S2 h2;cases e;refine#[A,Z,S,w,S1,er,so,h1,λv H1 #[A1,z1,z2,z3]=>?_]
    refine#[A1,Z,S1,ws2,_,er.mono z1,z2,h2,λvs H2 #[A2,y1,y2,y3]=>?_]
    exact hq _ _ #[A2,z1.trans y1,y2,.cons (z3.mono y1) y3]
   ·cases e
  ·cases e
abbrev wH (f:FA):FE:=λZ S=>match f Z S with
 | some (ws,S1)=>qD S1 ws
 | none=>gV
abbrev wI (f:FA):FE:=λZ S=>match f Z S with
 | some (ws,S1)=>kO S1 ws
 | none=>gV
def wJ {es:HN IJ}{k:HZ}{pos:KW}{f:FA}(h:GA X es f):GE X (.Tuple es k pos) (wH f):=
 GE.of (Ci h) λY H A Z S w S' er so e Q hq=>by
  unfold wH at e;split at e
  ·rename_i ws S1 h1;obtain⟨hl,rfl,rfl⟩:=rR e;refine#[A,Z,S,ws,_,er,so,h1,λvs H1 #[A1,z1,z2,z3]=>#[by rw[<- z3.length]; exact hl,λp hp=>?_]]
   exact hq _ _ (EndV.after z1 (.tup z2 z3 hp))
  ·cases e
def wK {es:HN IJ}{pos:KW}{f:FA}(h:GA X es f):GE X (.List es pos) (wI f):=
 GE.of (Cj h) λY H A Z S w S' er so e Q hq=>by
  unfold wI at e;split at e
  ·rename_i ws S1 h1;obtain⟨hl,rfl,rfl⟩:=jp e;refine#[A,Z,S,ws,_,er,so,h1,λvs H1 #[A1,z1,z2,z3]=>#[by rw[<- z3.length]; exact hl,λp hp=>?_]]
   exact hq _ _ (EndV.after z1 (.lst z2 z3 hp))
  ·cases e
abbrev je (g:HN W->aa->HY (W×aa))(f:FA):FE:=λZ S=>match f Z S with
 | some (ws,S1)=>g ws S1
 | none=>gV
def LCall.callr {v:HS}{g:HN W->aa->HY (W×aa)}(h:LCall X v g):CallR X v (λvs H Q=>∃A S ws w S',StoreOk X.w X.K A H S/\RelL X.K A H ws vs/\g ws S=ba (w,S')/\∀v H',EndV X.w X.K A H S' w v H'->Q v H'):=by
 intro J s Y H vs us Q I rv ⟨A,S,ws,w,S',so,rl,e,hq⟩;exact bm (h J s Y H A S ws vs us w S' I so rl rv e) λu' s' #[v',H',A',I',r',e1,o1,z1]=>#[v',H',I',r',hq v' H' #[A',e1,o1,z1]]
def lG {g:HN W->aa->HY (W×aa)}{f:FA}{Y:L2.St}{H:Hp}{A:HN Ic}{Z:Fm}{S:aa}{w:W}{S':aa}(er:EnvRel X.K A H Z Y)(so:StoreOk X.w X.K A H S)(e:je g f Z S=ba (w,S'))(Q:VK)(hq:∀v H',EndV X.w X.K A H S' w v H'->Q v H') :
  tA X f Y H λvs H1=>∃A S ws w S',StoreOk X.w X.K A H1 S/\RelL X.K A H1 ws vs/\g ws S=ba (w,S')/\∀v H',EndV X.w X.K A H1 S' w v H'->Q v H':=by
 unfold je at e;split at e
 ·rename_i ws S1 h1;exact#[A,Z,S,ws,S1,er,so,h1,λvs H1 #[A1,z1,z2,z3]=>#[A1,S1,ws,w,S',z2,z3,e,λv H' q=>hq v H' (q.after z1)]]
 ·cases e
def sw {id:JX}{x:IH}{e:IJ}{es:HN IJ}{p pos:KW}{f:FA}{g:HN W->aa->HY (W×aa)}(hc:LCall X (.builtin id) g)(hg:Gl X x)(hm:X.mg x=gV)(hv:bootBuiltins x=ba (.builtin id))(ha:GA X (e::es) f)
  (hn:x≠"__name__") (hdb:(x==("__debug__" : IH))=false) (hs:starEach (e::es) X.env=(false,eval e X.env)::starEach es X.env) (hpl:(backTo pos (starEach es X.env)).any (·.1)=false):GE X (.Call (.Name x p) (e::es) [] pos) (je g f):=
 GE.of (nT hc.callr hg hm hv ha hn hdb hs hpl) λY H A Z S w S' er so e Q hq=>lG er so e Q hq
def oW {id:JX}{x:IH}{e:IJ}{es:HN IJ}{p pos:KW}{f:FA}{g:HN W->aa->HY (W×aa)}(hc:LCall X (.type id) g)(hg:Gl X x)(hm:X.mg x=gV)(hv:bootBuiltins x=ba (.type id))(ha:GA X (e::es) f)
  (hn:x≠"__name__") (hdb:(x==("__debug__" : IH))=false) (hs:starEach (e::es) X.env=(false,eval e X.env)::starEach es X.env) (hpl:(backTo pos (starEach es X.env)).any (·.1)=false):GE X (.Call (.Name x p) (e::es) [] pos) (je g f):=
 GE.of (tN hc.callr hg hm hv ha hn hdb hs hpl) λY H A Z S w S' er so e Q hq=>lG er so e Q hq
end
abbrev tyOk (T:JX)(S:aa):W->IN
 | .str _=>T == "str"
 | .ref i=>(T == "list" && (eY S i).isSome)||(T == "dict" && (iL S i).isSome)
 | _=>false
abbrev DP (T:JX)(g:W->HN W->aa->HY (W×aa))(fo:FE)(f:FA):FE:=λZ S=>match fo Z S with
 | some (x,S1)=>if tyOk T S1 x then match f Z S1 with
  | some (ws,S2)=>g x ws S2
  | none=>gV
  else gV
 | none=>gV
abbrev GD (fa fb:FE):FE:=zL lu fa fb
noncomputable abbrev FO:=Fm->aa->HY (HY Ip×aa)
abbrev CL:FO:=λ_ S=>ba (gV,S)
abbrev sx (f:FE):FO:=λZ S=>match f Z S with
 | some (.int i,S1)=>ba (ba i,S1)
 | _=>gV
abbrev EB (fa:FE)(fl fh:FO):FE:=λZ S=>match fa Z S with
 | some (x,S1)=>match fl Z S1 with
  | some (lo,S2)=>match fh Z S2 with
   | some (hi,S3)=>nX x lo hi S3
   | none=>gV
  | none=>gV
 | none=>gV
section
variable{X:Cx}
def tyOk.is {J:HN (Ic×Kb)}{Y:L2.St}{s:HV}{A:HN Ic}{H:Hp}{S:aa}{T:JX}{x:W}{a:V}{v:HS}(I:Inv X J Y H s)(so:StoreOk X.w X.K A H S)(r:Rel X.K A H x a)(rv:RelV a v)(h:tyOk T S x=true) :
  s.TypeIs v T/\∀b,v=.ref b->∃ob,s.heap.get? b=ba ob/\ob.dict=gV:=by
 cases r with
 | str=>exact vC I rv (show Gv X.K T (.str _) H from eq_of_beq h)
 | ref ea=>
  simp only[tyOk,Kq,HX]at h;rcases h with⟨h1,h2⟩|⟨h1,h2⟩
  ·obtain⟨xs,hx⟩:=Jv.mp h2;obtain⟨vs,h3,_⟩:=aZ so hx ea;exact vC I rv (show Gv X.K T (.ref _) H from .inl #[eq_of_beq h1,vs,h3])
  ·obtain⟨U,hx⟩:=Jv.mp h2;obtain⟨xs,rd,_⟩:=ft so hx ea;obtain⟨_,_,_,o,es,ep,q1,q2,q3,q4⟩:=bY I rd;have e:=eq_of_beq h1;subst e;obtain rfl:v=Jb _:=rv;exact#[#[o,q1,q2.1],λb e=>by cases e; exact#[o,q1,q2.2.1]]
 | _=>cases h
def oX {o e:IJ}{es:HN IJ}{name:IH}{apos cpos:KW}{T id:JX}{g:W->HN W->aa->HY (W×aa)}{fo:FE}{f:FA}(pa:PlainAttrs T)(slot:Slot T name id)(hty:typeOf (.builtin id)=pure (.type "method_descriptor"))(hm:lm X id g)
  (ho:GE X o fo) (ha:GA X (e::es) f) (hbase:attributeBase o name X.env (eval o X.env)=eval o X.env)
  (hfew:((backTo cpos (starEach (e::es) X.env)).all (λx=>!x.1)&&(backToKw cpos (keywordEach [] X.env)).all (λx=>x.1.isSome)
   && decide ((e::es).length+([]:HN Qm).length+(if ([]:HN Qm).isEmpty then 0 else 1) < 30))=true)
  (hline:(apos.endLine==cpos.line)=true) (hs:starEach (e::es) X.env=(false,eval e X.env)::starEach es X.env) (hplain:(backTo cpos (starEach es X.env)).any (·.1)=false) :
  GE X (.Call (.Attribute o name apos) (e::es) [] cpos) (DP T g fo f):=by
 intro J s Y H Q I ⟨A,Z,S,w,S',er,so,e,hq⟩;unfold DP at e;split at e
 ·rename_i x S1 h1;split at e
  ·rename_i ht;split at e
   ·rename_i ws S2 h2;refine wpAny_Call_method_late hbase hfew hline rfl (bm (ho J s Y H (EndV X.w X.K A H S1 x) I #[A,Z,S,_,_,er,so,h1,λ_ _ z=>z]) λv s1 #[a,H1,I1,r1,A1,e1,o1,z1]=>?_)
    obtain⟨t1,t2⟩:=tyOk.is I1 o1 z1 r1 ht;refine#[T,id,pa,slot,hty,t1,t2,?_];have hA:=ha cpos J s1 Y H1 (Cz X A1 H1 S2 ws) I1 #[A1,Z,S1,ws,S2,er.mono e1,o1,h2,λ_ _ z=>z]
    rw[hs]at hA ⊢;refine Calls.callWith_builtin (by show(false||(backTo cpos (starEach es X.env)).any (·.1))=false; rw[hplain] <;> rfl) (Calls.evalArgs_plain ?_)
    refine bm hA λus s2 #[vs,H2,I2,r2,A2,e2,o2,z2]=>?_
    refine bm (hm J s2 Y H2 A2 S2 x a v ws vs us w S' I2 o2 (z1.mono e2) r1 z2 r2 e) λu' s' #[v',H',A',I',r',e3,o3,z3]=>?_
    exact#[v',H',I',r',hq v' H' #[A',(e1.trans e2).trans e3,o3,z3]]
   ·cases e
  ·cases e
 ·cases e
def LIx.ixr {g:W->W->aa->HY (W×aa)}(h:LIx X g):IxR X (λa b H Q=>∃A S x y w S',StoreOk X.w X.K A H S/\Rel X.K A H x a/\Rel X.K A H y b/\g x y S=ba (w,S')/\∀v H',EndV X.w X.K A H S' w v H'->Q v H'):=by
 intro value slice J s Y H a b u v Q I ru rv ⟨A,S,x,y,w,S',so,rx,ry,e,hq⟩ hs;exact bm (h value slice J s Y H A S x y a b u v w S' I so rx ru ry rv e hs) λu' s' #[v',H',A',I',r',e1,o1,z1]=>#[v',H',I',r',hq v' H' #[A',e1,o1,z1]]
def EC {a b:IJ}{pos:KW}{fa fb:FE}(hu:X.A.units+10 < cLine)(ha:GE X a fa)(hb:GE X b fb)(hs:my b):GE X (.Subscript a b pos) (GD fa fb):=
 GE.of (El (GB hu).ixr ha hb hs) λY H A Z S w S' er so e Q hq=>by
  obtain⟨x,S1,y,S2,h1,h2,h3⟩:=FV e;exact gZ er so h1 h2 λa b H2 A2 e2 o2 r1 r2=>#[A2,S2,x,y,w,S',o2,r1,r2,h3,λv H' z=>hq v H' (z.after e2)]
abbrev tO (X:Cx)(f:FO):TO:=λY H Q=>∃A Z S k S',EnvRel X.K A H Z Y/\StoreOk X.w X.K A H S/\f Z S=ba (k,S')/\∀H' A',Ext X.K A H A' H'->StoreOk X.w X.K A' H' S'->Q k H'
noncomputable abbrev GO (X:Cx)(e:HY IJ)(f:FO):Prop:=PO X e (tO X f)
def zU:GO X gV CL:=λJ s Y H Q I #[A,Z,S,k,S',er,so,e,hq]=>by
 cases e;exact y9 J s Y H Q I (hq H A .refl so)
def zW {e:IJ}{f:FE}(h:GE X e f):GO X (ba e) (sx f):=λJ s Y H Q I #[A,Z,S,k,S',er,so,e,hq]=>by
 unfold sx at e;split at e
 ·rename_i i S1 h1;cases e;refine zd h J s Y H Q I #[A,Z,S,_,_,er,so,h1,λv H1 #[A1,z1,z2,z3]=>?_]
  cases z3;exact#[i,rfl,hq H1 A1 z1 z2]
 ·cases e
def LSl.slr {g:W->HY Ip->HY Ip->aa->HY (W×aa)}(h:LSl X g):Ek X (λa lo hi H Q=>∃A S x w S',StoreOk X.w X.K A H S/\Rel X.K A H x a/\g x lo hi S=ba (w,S')/\∀v H',EndV X.w X.K A H S' w v H'->Q v H'):=by
 intro J s Y H a v vl vu lo hi sl Q I rv hs pl pu ⟨A,S,x,w,S',so,rx,e,hq⟩;obtain⟨T,id,h1,h2,h3⟩:=h J s Y H A S x a v vl vu lo hi sl w S' I so rx rv hs pl pu e;exact#[T,id,h1,h2,bm h3 λu' s' #[v',H',A',I',r',e1,o1,z1]=>#[v',H',I',r',hq v' H' #[A',e1,o1,z1]]]
def ED {a:IJ}{lo hi:HY IJ}{p2 pos:KW}{fa:FE}{fl fh:FO}(ha:GE X a fa)(hl:GO X lo fl)(hh:GO X hi fh):GE X (.Subscript a (.Slice lo hi gV p2) pos) (EB fa fl fh):=
 GE.of (vz HB.slr ha hl hh) λY H A Z S w S' er so e Q hq=>by
  unfold EB at e;split at e
  ·rename_i x S1 h1;split at e
   ·rename_i l S2 h2;split at e
    ·rename_i h S3 h3;refine#[A,Z,S,x,S1,er,so,h1,λv H1 #[A1,z1,z2,z3]=>?_]
     refine#[A1,Z,S1,l,S2,er.mono z1,z2,h2,λH2 A2 y1 y2=>?_]
     refine#[A2,Z,S2,h,S3,er.mono (z1.trans y1),y2,h3,λH3 A3 x1 x2=>?_]
     exact#[A3,S3,x,w,S',x2,(z3.mono y1).mono x1,e,λv H' q=>hq v H' (q.after ((z1.trans y1).trans x1))]
    ·cases e
   ·cases e
  ·cases e
noncomputable abbrev FF:=HN W->aa->HY (W×aa)
abbrev wL (wd:Jg)(K:Ij)(n:HZ)(g:FF):Sp:=λvs H Q _=>∃A S ws w S',StoreOk wd K A H S/\RelL K A H ws vs/\ws.length=n/\g ws S=ba (w,S')/\∀v H',EndV wd K A H S' w v H'->Q v H'
abbrev oY (n:HZ)(g:FF)(f:FA):FE:=λZ S=>match f Z S with
 | some (ws,S1)=>if ws.length=n then g ws S1 else gV
 | none=>gV
def oZ {n:HZ}{g:FF}{f:FA}{Y:L2.St}{H:Hp}{A:HN Ic}{Z:Fm}{S:aa}{w:W}{S':aa}{E:XK}(er:EnvRel X.K A H Z Y)(so:StoreOk X.w X.K A H S)(e:oY n g f Z S=ba (w,S'))(Q:VK)(hq:∀v H',EndV X.w X.K A H S' w v H'->Q v H') :
  vt (wL X.w X.K n g) [] E (tA X f) Y H Q:=by
 unfold oY at e;split at e
 ·rename_i ws S1 h1;split at e
  ·rename_i hl;refine#[A,Z,S,ws,S1,er,so,h1,λvs H1 #[A1,z1,z2,z3]=>?_]
   show wL X.w X.K n g (vs++[]) H1 Q E;rw[JT];exact#[A1,S1,ws,w,S',z2,z3,hl,e,λv H' q=>hq v H' (q.after z1)]
  ·cases e
 ·cases e
def CM {k n:HZ}{fa:Ic}{fd:KY}{ps:HN IH}{g:FF}{x:IH}{e:IJ}{es:HN IJ}{p pos:KW}{f:FA}(F:FnOk X.prog X.w X.K X.mg X.base u6 k fa fd ps (wL X.w X.K n g))(hr:Room k X.A)(hg:Gl X x)(hm:X.mg x=ba (.ref fa))(hk:J0 X.K (.ref fa)=true)
  (hb:Binds X.K fd ps []) (ha:GA X (e::es) f) (hdb:(x==("__debug__" : IH))=false) (he:starEach (e::es) X.env=(false,eval e X.env)::starEach es X.env) (hpl:(backTo pos (starEach es X.env)).any (·.1)=false) :
  GE X (.Call (.Name x p) (e::es) [] pos) (oY n g f):=
 GE.of (y4 F hr hg hm hk hb .nil Bj ha hdb he hpl) λY H A Z S w S' er so e Q hq=>oZ er so e Q hq
def zX {k n:HZ}{fa:Ic}{fd:KY}{ps:HN IH}{g:FF}{x:IH}{p pos:KW}(F:FnOk X.prog X.w X.K X.mg X.base u6 k fa fd ps (wL X.w X.K n g))(hr:Room k X.A)(hg:Gl X x)(hm:X.mg x=ba (.ref fa))(hk:J0 X.K (.ref fa)=true)
  (hb:Binds X.K fd ps []) (hdb:(x==("__debug__" : IH))=false):GE X (.Call (.Name x p) [] [] pos) (oY n g g9):=
 GE.of (vx F hr hg hm hk hb .nil Bj hdb) λY H A Z S w S' er so e Q hq=>by
  obtain⟨A1,S1,ws,w1,S1',a1,a2,a3,a4,a5⟩:=oZ (f:=g9) (E:=E0) er so e Q hq |> λ#[A,Z,S,ws,S',b1,b2,b3,b4]=>b4 [] H (by cases b3; exact#[A,.refl,b2,.nil])
  exact#[A1,S1,ws,w1,S1',a1,a2,a3,a4,a5]
def zY:GSs X [] (λZ S=>ba (.nx Z,S)):=GSs.of yR λY H A Z S o S' er so e D hd=>by cases e; exact hd.nx _ _ #[Z,A,rfl,.refl,so,er]
abbrev zZ (f g:FS):FS:=λZ S=>match f Z S with
 | some (.nx Z',S1)=>g Z' S1
 | some (.rt w,S1)=>ba (.rt w,S1)
 | some (.bk Z',S1)=>ba (.bk Z',S1)
 | some (.ct Z',S1)=>ba (.ct Z',S1)
 | none=>gV
def wM {st:Lm}{sts:HN Lm}{f g:FS}(h:GS X st f)(h2:GSs X sts g):GSs X (st::sts) (zZ f g):=GSs.of (vh h h2) λY H A Z S o S' er so e D hd=>by
 unfold zZ at e;split at e
 ·rename_i Z1 S1 h1;refine#[A,Z,S,_,_,er,so,h1,#[λY' H' #[Z',A',e1,e2,e3,e4]=>?_,λv H' #[w,A',e1,_]=>(by cases e1),λv H' #[w,A',e1,_]=>(by cases e1),λv H' #[w,A',e1,_]=>(by cases e1)]]
  cases e1;exact#[A',_,S1,o,S',e4,e3,e,(EndS.after e2).trans hd]
 ·rename_i w S1 h1;cases e;exact#[A,Z,S,_,_,er,so,h1,#[λY' H' #[w,A',e1,_]=>(by cases e1),hd.rt,hd.bk,hd.ct]]
 ·rename_i w S1 h1;cases e;exact#[A,Z,S,_,_,er,so,h1,#[λY' H' #[w,A',e1,_]=>(by cases e1),hd.rt,hd.bk,hd.ct]]
 ·rename_i w S1 h1;cases e;exact#[A,Z,S,_,_,er,so,h1,#[λY' H' #[w,A',e1,_]=>(by cases e1),hd.rt,hd.bk,hd.ct]]
 ·cases e
abbrev z5 (f:FE):FS:=λZ S=>match f Z S with
 | some (_,S1)=>ba (.nx Z,S1)
 | none=>gV
def EE {e:IJ}{pos:KW}{f:FE}(h:GE X e f)(hs:swapsWith e gV pos.line X.env=pure false):GS X (.Expr e pos) (z5 f):=GS.of (yT h hs) λY H A Z S o S' er so e D hd=>by
 unfold z5 at e;split at e
 ·rename_i w S1 h1;cases e;exact#[A,Z,S,w,_,er,so,h1,λv H1 #[A1,z1,z2,z3]=>hd.nx _ _ #[Z,A1,rfl,z1,z2,er.mono z1]]
 ·cases e
abbrev wQ:FS:=λZ S=>ba (.nx Z,S)
def CN {x:IH}{j:HZ}{pos pos':KW}:GS X (.Expr (.Constant (.str x) j pos) pos') wQ:=GS.of BW λY H A Z S o S' er so e D hd=>by cases e; exact hd.nx _ _ #[Z,A,rfl,.refl,so,er]
def z6 {pos:KW}:GS X (.Pass pos) wQ:=GS.of yS λY H A Z S o S' er so e D hd=>by cases e; exact hd.nx _ _ #[Z,A,rfl,.refl,so,er]
abbrev z7 (f:FE):FS:=λZ S=>match f Z S with
 | some (w,S1)=>ba (.rt w,S1)
 | none=>gV
def CO {e:IJ}{pos:KW}{f:FE}(h:GE X e f):GS X (.Return (ba e) pos) (z7 f):=GS.of (BX h) λY H A Z S o S' er so e D hd=>by
 unfold z7 at e;split at e
 ·rename_i w S1 h1;cases e;exact#[A,Z,S,w,_,er,so,h1,λv H1 #[A1,z1,z2,z3]=>hd.rt _ _ #[w,A1,rfl,z1,z2,z3]]
 ·cases e
abbrev z8 (c:FT)(f g:FS):FS:=λZ S=>match c Z S with
 | some (true,S1)=>f Z S1
 | some (false,S1)=>g Z S1
 | none=>gV
def EF {c:IJ}{a b:HN Lm}{pos:KW}{fc:FT}{f g:FS}(hc:GT X c fc)(ha:GSs X a f)(hb:GSs X b g):GS X (.If c a b pos) (z8 fc f g):=GS.of (D1 hc ha hb) λY H A Z S o S' er so e D hd=>by
 unfold z8 at e;split at e
 ·rename_i S1 h1;refine#[A,Z,S,_,S1,er,so,h1,λb H1 #[z0,A1,z1,z2]=>?_]
  subst z0;rw[IF rfl];exact#[A1,Z,S1,o,S',er.mono z1,z2,e,(EndS.after z1).trans hd]
 ·rename_i S1 h1;refine#[A,Z,S,_,S1,er,so,h1,λb H1 #[z0,A1,z1,z2]=>?_]
  subst z0;rw[IP IE];exact#[A1,Z,S1,o,S',er.mono z1,z2,e,(EndS.after z1).trans hd]
 ·cases e
noncomputable abbrev FG:=W->Fm->aa->HY (Fm×aa)
abbrev tG (X:Cx)(f:FG):TG:=λv Y H Q=>∃A Z S w Z' S',EnvRel X.K A H Z Y/\StoreOk X.w X.K A H S/\Rel X.K A H w v/\f w Z S=ba (Z',S')/\∀Y' H' A',Ext X.K A H A' H'->StoreOk X.w X.K A' H' S'->EnvRel X.K A' H' Z' Y'->Q Y' H'
noncomputable abbrev GG (X:Cx)(tg:IJ)(f:FG):Prop:=PG X tg (tG X f)
abbrev z9 (i:HZ):FG:=λw Z S=>ba (Z.set i (ba w),S)
def sy {i:HZ}{x:IH}{pos:KW}(hN:X.N.Nodup)(hi:X.N[i]?=ba x)(hx:yO X.env.scope x)(hf:X.fn x=true\/X.env.scope.names.lookup x=ba .local):GG X (.Name x pos) (z9 i):=by
 intro J s Y H v u Q I r ⟨A,Z,S,w,Z',S',er,so,rw',e,hq⟩;cases e;exact rL hN hi hx hf J s Y H v u Q I r (hq _ _ A .refl so (er.set rw' i))
abbrev cN:HN HZ->HN W->Fm->HY Fm
 | [],[],Z=>ba Z
 | i::is,w::ws,Z=>cN is ws (Z.set i (ba w))
 | _,_,_=>gV
abbrev CP (is:HN HZ):FG:=λw Z S=>match w with
 | .tup ws=>(cN is ws Z).map λZ'=>(Z',S)
 | _=>gV
def uC:∀ {ts:HN IJ} {is:HN HZ},(∀x∈ts,∃y p,x=.Name y p)->NS (λ(t:IJ) (i:HZ)=>∃x p,t=OH x p/\X.N[i]?=ba x/\yO X.env.scope x/\(X.fn x=true\/X.env.scope.names.lookup x=ba .local)) ts is->X.N.Nodup->
  D2 X ts (λvs Y H Q=>∃A Z ws Z' S,EnvRel X.K A H Z Y/\StoreOk X.w X.K A H S/\RelL X.K A H ws vs/\cN is ws Z=ba Z'/\∀Y',EnvRel X.K A H Z' Y'->Q Y' H):=by
 intro ts
 induction ts with
 | nil=>
  intro is _ h hN;cases h;intro J s Y H vs us Q I r ⟨A,Z,ws,Z',S,er,so,rl,e,hq⟩;cases rl with
  | nil=>cases e; exact yU J s Y H [] us Q I r #[rfl,hq _ er]
  | cons _ _=>cases e
 | cons t ts ih=>
  intro is hs h hN;cases h with
  | cons h1 h2=>
   obtain⟨x,p,rfl,hi,hl,hf⟩:=h1;have:=ih (λy hy=>hs y (JD _ hy)) h2 hN
   intro J s Y H vs us Q I r ⟨A,Z,ws,Z',S,er,so,rl,e,hq⟩;cases rl with
   | nil=>cases e
   | cons r1 r2=>
    refine vk (rL hN hi hl hf) this rfl J s Y H _ us Q I r #[_,_,rfl,?_];exact#[A,_,_,Z',S,er.set r1 _,so,r2,e,hq]
def CQ {ts:HN IJ}{is:HN HZ}{k:HZ}{pos:KW}(hc:X.calm=true)(hs:∀x∈ts,∃y p,x=.Name y p)(h:NS (λ(t:IJ) (i:HZ)=>∃x p,t=OH x p/\X.N[i]?=ba x/\yO X.env.scope x/\(X.fn x=true\/X.env.scope.names.lookup x=ba .local)) ts is)(hN:X.N.Nodup)
  (hn:(assignEach ts X.env).length=ts.length) (hst:(assignEach ts X.env).findIdx? (·.1)=gV):GG X (.Tuple ts k pos) (CP is):=by
 intro J s Y H v u Q I r ⟨A,Z,S,w,Z',S',er,so,rw',e,hq⟩;unfold CP at e;split at e
 ·rw[HU]at e;obtain⟨Z1,e1,e2⟩:=e;cases e2;cases rw' with
  | tup h1 r1=>
   have hl:∀(is:HN HZ) (ws:HN W) (Z Z':Fm),cN is ws Z=ba Z'->is.length=ws.length:=by
    intro is
    induction is with
    | nil=>intro ws Z Z' e; cases ws <;> first|rfl|cases e
    | cons i is ih=>intro ws Z Z' e; cases ws <;> first|cases e|(simp; exact ih _ _ _ e)
   exact B1 hc (uC hs h hN) hn hst J s Y H _ u Q I r #[_,_,rfl,h1,by rw[<- r1.length,<- hl _ _ _ _ e1,<- NH h],A,Z,_,_,_,er,so,r1,e1,λY' z=>hq _ _ A .refl so z]
 ·cases e
abbrev Aa (fo fi:FE):FG:=λw Z S=>match fo Z S with
 | some (o,S1)=>match fi Z S1 with
  | some (i,S2)=>match gW o i w S2 with
   | some S3=>ba (Z,S3)
   | none=>gV
  | none=>gV
 | none=>gV
def LSet.pset {g:W->W->W->aa->HY aa}(h:LSet X g):B0 X (λao ai av H Q=>∃A S o i w S',StoreOk X.w X.K A H S/\Rel X.K A H o ao/\Rel X.K A H i ai/\Rel X.K A H w av/\g o i w S=ba S'/\∀H' A',Ext X.K A H A' H'->StoreOk X.w X.K A' H' S'->Q H'):=by
 intro J s Y H ao ai av uo ui uv Q I ro ri rv ⟨A,S,o,i,w,S',so,r1,r2,r3,e,hq⟩;exact bm (h J s Y H A S o i w ao ai av uo ui uv S' I so r1 ro r2 ri r3 rv e) λ_ s' #[H',A',I',e1,o1]=>#[H',I',hq H' A' e1 o1]
def CS {o i:IJ}{pos:KW}{fo fi:FE}(hu:X.A.units+10 < cLine)(ho:GE X o fo)(hi:GE X i fi)(ha:∀v,assign (.Subscript o i pos) X.env v=(do
   let ov <- holding [v] (eval o X.env)
   let iv <- holding [v,ov] (eval i X.env)
   standAt pos
   holding [v,ov,iv] (setItem ov iv v)
   release [v,ov,iv] [])):GG X (.Subscript o i pos) (Aa fo fi):=by
 intro J s Y H v u Q I r ⟨A,Z,S,w,Z',S',er,so,rw',e,hq⟩;unfold Aa at e;split at e
 ·rename_i o' S1 h1;split at e
  ·rename_i i' S2 h2;split at e
   ·rename_i S3 h3;cases e;refine B2 ho hi (Ev hu).pset ha J s Y H v u Q I r ?_;refine#[A,Z,S,o',S1,er,so,h1,λa H1 #[A1,e1,o1,r1]=>?_]
    refine#[A1,Z,S1,i',S2,er.mono e1,o1,h2,λb H2 #[A2,e2,o2,r2]=>?_]
    exact#[A2,S2,o',i',w,_,o2,r1.mono e2,r2,rw'.mono (e1.trans e2),h3,λH' A' z1 z2=>hq Y H' A' ((e1.trans e2).trans z1) z2 (er.mono ((e1.trans e2).trans z1))]
   ·cases e
  ·cases e
 ·cases e
abbrev j3 (f:FE)(g:FG):FS:=λZ S=>match f Z S with
 | some (w,S1)=>match g w Z S1 with
  | some (Z',S2)=>ba (.nx Z',S2)
  | none=>gV
 | none=>gV
def qW {tg e:IJ}{pos:KW}{f:FE}{g:FG}(h:GE X e f)(hg:GG X tg g)(hs:swapsWithSole [tg] e pos.line X.env=pure false)(hw:swappedStores [tg] e X.env=pure gV)(h1:(assignEach [tg] X.env).map (·.2)=[assign tg X.env]) :
  GS X (.Assign [tg] e pos) (j3 f g):=GS.of (B3 h hg hs hw h1) λY H A Z S o S' er so e D hd=>by
 unfold j3 at e;split at e
 ·rename_i w S1 h1;split at e
  ·rename_i Z1 S2 h2;cases e;refine#[A,Z,S,w,S1,er,so,h1,λv H1 #[A1,z1,z2,z3]=>?_]
   exact#[A1,Z,S1,w,Z1,_,er.mono z1,z2,z3,h2,λY' H' A' y1 y2 y3=>hd.nx _ _ #[Z1,A',rfl,z1.trans y1,y2,y3]]
  ·cases e
 ·cases e
abbrev Ab (i j:HZ)(f:FA):FS:=λZ S=>match f Z S with
 | some ([x,y],S1)=>ba (.nx ((Z.set i (ba x)).set j (ba y)),S1)
 | _=>gV
def CT {i j:HZ}{x y:IH}{a b:IJ}{f:FA}{px py pt pos:KW}{kt k2:HZ}{pt2:KW}(hc:X.calm=true)(hN:X.N.Nodup)(hi:X.N[i]?=ba x)(hj:X.N[j]?=ba y)(hij:i≠j)
  (hx:X.env.scope.names.lookup x=ba .local) (hy:X.env.scope.names.lookup y=ba .local) (ha:GA X [a,b] f)
  (hw:swappedStores [.Tuple [.Name x px,.Name y py] kt pt] (.Tuple [a,b] k2 pt2) X.env=pure (ba [x,y]))
  (hs:swapsWithSole [.Tuple [.Name x px,.Name y py] kt pt] (.Tuple [a,b] k2 pt2) pos.line X.env=pure false) :
  GS X (.Assign [.Tuple [.Name x px,.Name y py] kt pt] (.Tuple [a,b] k2 pt2) pos) (Ab i j f):=GS.of (B4 hc hN hi hj hij hx hy ha hw hs) λY H A Z S o S' er so e D hd=>by
 unfold Ab at e;split at e
 ·rename_i x y S1 h1;cases e;refine#[A,Z,S,_,_,er,so,h1,λvs H1 #[A1,z1,z2,z3]=>?_]
  cases z3 with
  | cons r1 t=>
   cases t with
   | cons r2 t=>
    cases t;exact#[_,_,rfl,hd.nx _ _ #[_,A1,rfl,z1,z2,((er.mono z1).set r1 i).set r2 j]]
 ·cases e
abbrev mX (c:FT)(b:FS):HZ->FS
 | 0,_,_=>gV
 | n+1,Z,S=>match c Z S with
  | some (true,S1)=>match b Z S1 with
   | some (.nx Z',S2)=>mX c b n Z' S2
   | some (.ct Z',S2)=>mX c b n Z' S2
   | some (.bk Z',S2)=>ba (.nx Z',S2)
   | some (.rt w,S2)=>ba (.rt w,S2)
   | none=>gV
  | some (false,S1)=>ba (.nx Z,S1)
  | none=>gV
def wR {c:IJ}{body:HN Lm}{pos:KW}{fc:FT}{fb:FS}(n:HZ)(hp:OF (model X.prog X.w) X.A X.env X.xe)(hc:GT X c fc)(hb:GSs X body fb):GS X (.While c body [] pos) (mX fc fb n):=GS.of (vm hp hc hb) λY H A Z S o S' er so e D hd=>by
 refine#[λm Y1 H1=>∃A1 Z1 S1,Ext X.K A H A1 H1/\EnvRel X.K A1 H1 Z1 Y1/\StoreOk X.w X.K A1 H1 S1/\mX fc fb m Z1 S1=ba (o,S'),#[n,A,Z,S,.refl,er,so,e],?_]
 rintro m Y1 H1 ⟨A1,Z1,S1,e1,er1,so1,w1⟩;cases m with
 | zero=>cases w1
 | succ m=>
  simp only[mX]at w1;split at w1
  ·rename_i S2 h1;refine#[A1,Z1,S1,_,S2,er1,so1,h1,λb H2 #[z0,A2,z1,z2]=>?_]
   subst z0;rw[IF rfl];refine#[λY3 H3=>∃A3 Z3 S3,Ext X.K A H A3 H3/\EnvRel X.K A3 H3 Z3 Y3/\StoreOk X.w X.K A3 H3 S3/\mX fc fb m Z3 S3=ba (o,S'),λY' H' h=>#[m,J4 _,h],?_]
   split at w1
   ·rename_i Z3 S3 h3;refine#[A2,Z1,S2,_,S3,er1.mono z1,z2,h3,#[λY' H' #[Z',A',y0,y1,y2,y3]=>?_,λv H' #[w,A',y0,_]=>(by cases y0),λv H' #[w,A',y0,_]=>(by cases y0),λv H' #[w,A',y0,_]=>(by cases y0)]]
    cases y0;exact#[A',_,S3,(e1.trans z1).trans y1,y3,y2,w1]
   ·rename_i Z3 S3 h3;refine#[A2,Z1,S2,_,S3,er1.mono z1,z2,h3,#[λv H' #[w,A',y0,_]=>(by cases y0),λv H' #[w,A',y0,_]=>(by cases y0),λv H' #[w,A',y0,_]=>(by cases y0),λY' H' #[Z',A',y0,y1,y2,y3]=>?_]]
    cases y0;exact#[A',_,S3,(e1.trans z1).trans y1,y3,y2,w1]
   ·rename_i Z3 S3 h3;cases w1;refine#[A2,Z1,S2,_,_,er1.mono z1,z2,h3,#[λv H' #[w,A',y0,_]=>(by cases y0),λv H' #[w,A',y0,_]=>(by cases y0),λY' H' #[Z',A',y0,y1,y2,y3]=>?_,λv H' #[w,A',y0,_]=>(by cases y0)]]
    cases y0;exact hd.nx _ _ #[_,A',rfl,(e1.trans z1).trans y1,y2,y3]
   ·rename_i w3 S3 h3;cases w1;refine#[A2,Z1,S2,_,_,er1.mono z1,z2,h3,#[λv H' #[w,A',y0,_]=>(by cases y0),λv H' #[w,A',y0,y1,y2,y3]=>?_,λv H' #[w,A',y0,_]=>(by cases y0),λv H' #[w,A',y0,_]=>(by cases y0)]]
    cases y0;exact hd.rt _ _ #[_,A',rfl,(e1.trans z1).trans y1,y2,y3]
   ·cases w1
  ·rename_i S2 h1;cases w1;refine#[A1,Z1,S1,_,_,er1,so1,h1,λb H2 #[z0,A2,z1,z2]=>?_]
   subst z0;rw[IP IE];exact hd.nx _ _ #[_,A2,rfl,e1.trans z1,z2,er1.mono z1]
  ·cases w1
end
inductive MI where
 | its (ws:HN W)
 | live (r:HZ)
 | zl (r q:HZ)
abbrev kQ (xs ys:HN W):HN W:=Iz (λx y=>.tup [x,y]) xs ys
abbrev MI.at (S:aa)(i:HZ):MI->HY (HY W)
 | .its ws=>ba ws[i]?
 | .live r=>match eY S r with
  | some xs=>ba xs[i]?
  | none=>gV
 | .zl r q=>match eY S r,eY S q with
  | some xs,ba ys=>ba (kQ xs ys)[i]?
  | _,_=>gV
abbrev MI.len (S:aa):MI->HY HZ
 | .its ws=>ba ws.length
 | .live r=>(eY S r).map (·.length)
 | .zl r q=>match eY S r,eY S q with
  | some xs,ba ys=>ba (kQ xs ys).length
  | _,_=>gV
noncomputable abbrev FI:=Fm->aa->HY (MI×aa)
structure MIt (wd:Jg)(K:Ij)(mi:MI)(td:It)(A0:HN Ic)(H0:Hp):Prop where
 go:∀A H S i w,Ext K A0 H0 A H->StoreOk wd K A H S->mi.at S i=ba (ba w)->td.go i H/\∀x H',td.yld i H x H'->Ext K A H A H'/\StoreOk wd K A H' S/\Rel K A H' w x
 stop:∀A H S i,Ext K A0 H0 A H->StoreOk wd K A H S->mi.at S i=ba gV->td.stop i H
abbrev tI (X:Cx)(f:FI):TI:=λY H R=>∃A Z S mi S',EnvRel X.K A H Z Y/\StoreOk X.w X.K A H S/\f Z S=ba (mi,S')/\∀td H' A',Ext X.K A H A' H'->StoreOk X.w X.K A' H' S'->MIt X.w X.K mi td A' H'->R td H'
noncomputable abbrev GI (X:Cx)(tg iter:IJ)(f:FI):Prop:=PI X tg iter (tI X f)
abbrev Ac (f:FE):FI:=λZ S=>match f Z S with
 | some (.tup ws,S1)=>ba (.its ws,S1)
 | some (.ref r,S1)=>match eY S1 r with
  | some _=>ba (.live r,S1)
  | none=>gV
 | _=>gV
abbrev cJ (lo:Ip)(n:HZ):HN W:=(ID n).map λ(k:HZ)=>.int (lo+(k:Ip))
abbrev qX (f:FA):FI:=λZ S=>match f Z S with
 | some ([.int j],S1)=>if -(2 ^ 62)<=j/\j < 2 ^ 62 then ba (.its (cJ 0 j.toNat),S1)else gV
 | _=>gV
abbrev iRng2 (f:FA):FI:=λZ S=>match f Z S with
 | some ([.int i,.int j],S1)=>if -(2 ^ 62)<=i/\i < 2 ^ 62/\-(2 ^ 62)<=j/\j < 2 ^ 62 then ba (.its (cJ i (j - i).toNat),S1)else gV
 | _=>gV
abbrev fu (mi:MI)(g:FG)(b:FS):HZ->HZ->FS
 | 0,i,Z,S=>match mi.at S i with
  | some gV=>ba (.nx Z,S)
  | _=>gV
 | n+1,i,Z,S=>match mi.at S i with
  | some (ba w)=>match g w Z S with
   | some (Z1,S1)=>match b Z1 S1 with
    | some (.nx Z2,S2)=>fu mi g b n (i+1) Z2 S2
    | some (.ct Z2,S2)=>fu mi g b n (i+1) Z2 S2
    | some (.bk Z2,S2)=>ba (.nx Z2,S2)
    | some (.rt w,S2)=>ba (.rt w,S2)
    | none=>gV
   | none=>gV
  | _=>gV
abbrev wW (fi:FI)(g:FG)(b:FS):FS:=λZ S=>match fi Z S with
 | some (mi,S1)=>match mi.len S1 with
  | some n=>fu mi g b n 0 Z S1
  | none=>gV
 | none=>gV
section
variable{X:Cx}
def Ad {A:HN Ic}{H:Hp}{ws:HN W}{a:Ic}{vs:HN V}(h:SqT X.K H a vs)(r:RelL X.K A H ws vs):MIt X.w X.K (.its ws) (DM X.K a) A H:=by
 refine#[λA' H' S i w e so hi=>?_,λA' H' S i e so hi=>?_]
 ·simp only[MI.at,IW]at hi;obtain⟨v,h1,h2⟩:=(r.mono e).get hi;refine#[#[vs,v,e.tp _ _ h,h1],λx H2 #[z1,z2]=>?_]
  subst z1;have:=z2 vs (e.tp _ _ h);rw[h1]at this; cases this
  exact#[.refl,so,h2]
 ·simp only[MI.at,IW]at hi;refine#[vs,e.tp _ _ h,?_];rw[<- r.length];exact Js.mp hi
def Ae {A:HN Ic}{H:Hp}{r:HZ}{a:Ic}(ea:A[r]?=ba a):MIt X.w X.K (.live r) (Gd X.K a) A H:=by
 refine#[λA' H' S i w e so hi=>?_,λA' H' S i e so hi=>?_]
 ·simp only[MI.at]at hi;split at hi
  ·rename_i xs hx;simp only[IW]at hi;obtain⟨vs,h1,r1⟩:=aZ so hx (e.ad _ _ ea);obtain⟨v,h2,h3⟩:=r1.get hi;refine#[#[vs,v,h1,h2],λx H2 #[z1,z2]=>?_]
   subst z1;have:=z2 vs h1;rw[h2]at this; cases this
   exact#[.refl,so,h3]
  ·cases hi
 ·simp only[MI.at]at hi;split at hi
  ·rename_i xs hx;simp only[IW]at hi;obtain⟨vs,h1,r1⟩:=aZ so hx (e.ad _ _ ea);refine#[vs,h1,?_];rw[<- r1.length];exact Js.mp hi
  ·cases hi
def dH {lo:Ip}{n i:HZ}:(cJ lo n)[i]?=if i < n then ba (.int (lo+i))else gV:=by
 unfold cJ;rw[Ii]
 by_cases h:i < n
 ·rw[IF h,KC h]; rfl
 ·rw[IP h,Js.mpr (by simp; omega)]; rfl
def sA {A:HN Ic}{H:Hp}{lo:Ip}{n:HZ}:MIt X.w X.K (.its (cJ lo n)) (D6 lo n) A H:=by
 refine#[λA' H' S i w e so hi=>?_,λA' H' S i e so hi=>?_]
 ·simp only[MI.at,IW]at hi;rw[dH]at hi;split at hi
  ·cases hi;refine#[by assumption,λx H2 #[z1,z2]=>?_]
   subst z1 z2;exact#[.refl,so,.int]
  ·cases hi
 ·simp only[MI.at,IW]at hi;rw[dH]at hi;split at hi
  ·cases hi
  ·show n<=i;omega
def o4 {tg:IJ}{J:HN (Ic×Kb)}{Y:L2.St}{H1:Hp}{s1:HV}{R:It->Hp->Prop}{a:Ic}{xs:HN V}{v:HS}(I1:Inv X J Y H1 s1)(r1:RelV (.ref a) v)(hq:SqL X.K H1 a xs)(q:R (Gd X.K a) H1) :
  wpAny (model X.prog X.w) X.A (pyIter v) (D5 X J Y tg R) X.xe s1:=by
 cases r1;obtain⟨its,rv,p,hz⟩:=I1.list hq;refine LK p.isList ?_;refine#[s1.heap.objs.size,[s1.heap.objs.size],_,_,H1,rfl,I1.kept (t':=s1.toks) λb o e=>HR _ e,tH a _,#[_,Im _ rfl,rfl,rfl],λb hb=>?_,q]
 have e:b=s1.heap.objs.size:=by simpa using hb
 subst e;exact I1.fpOk (Ih _) (I1.hok.fresh (Ih _))
def qY {tg:IJ}{J:HN (Ic×Kb)}{Y:L2.St}{H1:Hp}{s1:HV}{R:It->Hp->Prop}{a:Ic}{xs:HN V}{v:HS}(I1:Inv X J Y H1 s1)(r1:RelV (.ref a) v)(hq:SqT X.K H1 a xs)(q:R (DM X.K a) H1) :
  wpAny (model X.prog X.w) X.A (pyIter v) (D5 X J Y tg R) X.xe s1:=by
 cases r1;obtain⟨its,rv,p,hz⟩:=I1.tuple hq;refine Nt (show s1.heap.IsTuple a its.toArray from p) ?_
 refine#[s1.heap.objs.size,[s1.heap.objs.size],_,_,H1,rfl,I1.kept (t':=s1.toks) λb o e=>HR _ e,qr a _,#[_,Im _ rfl,rfl,rfl],λb hb=>?_,q]
 have e:b=s1.heap.objs.size:=by simpa using hb
 subst e;exact I1.fpOk (Ih _) (I1.hok.fresh (Ih _))
def Ag {tg a:IJ}{f:FA}{p pos:KW}(hg:Gl X "range")(hm:X.mg "range" = gV)(ha:GA X [a] f)(hs:starEach [a] X.env=[(false,eval a X.env)]):GI X tg (.Call (.Name "range" p) [a] [] pos) (qX f):=by
 intro J s Y H R I ⟨A,Z,S,mi,S',er,so,e,hq⟩;unfold qX at e;split at e
 ·rename_i j S1 h1;split at e
  ·rename_i hj;cases e;refine tJ hg hm ha hs J s Y H R I #[A,Z,S,_,_,er,so,h1,λvs H1 #[A1,z1,z2,z3]=>?_]
   cases z3 with
   | cons r1 t=>
    cases t;cases r1;exact#[j,rfl,hj.1,hj.2,hq _ _ A1 z1 z2 sA]
  ·cases e
 ·cases e
def Ah {tg a b:IJ}{f:FA}{p pos:KW}(hg:Gl X "range")(hm:X.mg "range" = gV)(ha:GA X [a,b] f)(hs:starEach [a,b] X.env=[(false,eval a X.env),(false,eval b X.env)])(hs2:starEach [b] X.env=[(false,eval b X.env)]):GI X tg (.Call (.Name "range" p) [a,b] [] pos) (iRng2 f):=by
 intro J s Y H R I ⟨A,Z,S,mi,S',er,so,e,hq⟩;unfold iRng2 at e;split at e
 ·rename_i i j S1 h1;split at e
  ·rename_i hj;cases e;refine tK hg hm ha hs hs2 J s Y H R I #[A,Z,S,_,_,er,so,h1,λvs H1 #[A1,z1,z2,z3]=>?_]
   cases z3 with
   | cons r1 t=>
    cases t with
    | cons r2 t=>
     cases t;cases r1;cases r2;exact#[i,j,rfl,hj,hq _ _ A1 z1 z2 sA]
  ·cases e
 ·cases e
def CU {tg l:IJ}{f:FE}(h:GE X l f):GI X tg l (Ac f):=by
 intro J s Y H R I ⟨A,Z,S,mi,S',er,so,e,hq⟩;unfold Ac at e;split at e
 ·rename_i ws S1 h1;cases e;refine bm (h J s Y H (EndV X.w X.K A H _ (.tup ws)) I #[A,Z,S,_,_,er,so,h1,λ_ _ z=>z]) λv s1 #[x,H1,I1,r1,A1,e1,o1,z1]=>?_
  cases z1 with
  | tup hq1 rl=>
   refine qY I1 r1 hq1 (hq _ _ A1 e1 o1 (Ad hq1 rl))
 ·rename_i r S1 h1;split at e
  ·rename_i ys hy;cases e;refine bm (h J s Y H (EndV X.w X.K A H _ (.ref r)) I #[A,Z,S,_,_,er,so,h1,λ_ _ z=>z]) λv s1 #[x,H1,I1,r1,A1,e1,o1,z1]=>?_
   cases z1 with
   | ref ea=>
    obtain⟨vs,hl,_⟩:=aZ o1 hy ea;exact o4 I1 r1 hl (hq _ _ A1 e1 o1 (Ae ea))
  ·cases e
 ·cases e
def CV {tg iter:IJ}{body:HN Lm}{pos:KW}{fi:FI}{g:FG}{fb:FS}(hp:OF (model X.prog X.w) X.A X.env X.xe)(hc:X.calm=true)(hi:GI X tg iter fi)(hg:GG X tg g)(hb:GSs X body fb)
  (hs:∀x,foldedSetIterable iter X.env x=pure x):GS X (.For tg iter body [] pos) (wW fi g fb):=GS.of (B6 hp hc hi hg hb hs) λY H A Z S o S' er so e D hd=>by
 unfold wW at e;split at e
 ·rename_i mi S1 h1;split at e
  ·rename_i n hn;refine#[A,Z,S,mi,S1,er,so,h1,λtd H1 A1 z1 z2 mit=>?_]
   refine#[λi m Y2 H2=>∃A2 Z2 S2,Ext X.K A1 H1 A2 H2/\EnvRel X.K A2 H2 Z2 Y2/\StoreOk X.w X.K A2 H2 S2/\fu mi g fb m i Z2 S2=ba (o,S'),#[n,A1,Z,S1,.refl,er.mono z1,z2,e],?_]
   rintro i m Y2 H2 ⟨A2,Z2,S2,e2,er2,so2,w2⟩;cases m with
   | zero=>
    dsimp only[fu]at w2;split at w2
    ·rename_i hs;cases w2;exact .inl #[mit.stop A2 H2 _ i e2 so2 hs,hd.nx _ _ #[_,A2,rfl,z1.trans e2,so2,er2]]
    ·cases w2
   | succ m=>
    dsimp only[fu]at w2;split at w2
    ·rename_i w hw;obtain⟨go,yl⟩:=mit.go A2 H2 S2 i w e2 so2 hw;refine .inr #[go,λY3 H3=>∃A3 Z3 S3,Ext X.K A1 H1 A3 H3/\EnvRel X.K A3 H3 Z3 Y3/\StoreOk X.w X.K A3 H3 S3/\fu mi g fb m (i+1) Z3 S3=ba (o,S'),λY' H' h=>#[m,J4 _,h],λx H3 hy=>?_]
     obtain⟨x1,x2,x3⟩:=yl x H3 hy;split at w2
     ·rename_i Z3 S3 h3;refine#[A2,Z2,S2,w,Z3,S3,er2.mono x1,x2,x3,h3,λY4 H4 A4 y1 y2 y3=>?_]
      have ex:Ext X.K A1 H1 A4 H4:=(e2.trans x1).trans y1;split at w2
      ·rename_i Z5 S5 h5;refine#[A4,Z3,S3,_,S5,y3,y2,h5,#[λY' H' #[Z',A',u0,u1,u2,u3]=>?_,λv H' #[w,A',y0,_]=>(by cases y0),λv H' #[w,A',y0,_]=>(by cases y0),λv H' #[w,A',y0,_]=>(by cases y0)]]
       cases u0;exact#[A',_,S5,ex.trans u1,u3,u2,w2]
      ·rename_i Z5 S5 h5;refine#[A4,Z3,S3,_,S5,y3,y2,h5,#[λv H' #[w,A',y0,_]=>(by cases y0),λv H' #[w,A',y0,_]=>(by cases y0),λv H' #[w,A',y0,_]=>(by cases y0),λY' H' #[Z',A',u0,u1,u2,u3]=>?_]]
       cases u0;exact#[A',_,S5,ex.trans u1,u3,u2,w2]
      ·rename_i Z5 S5 h5;cases w2;refine#[A4,Z3,S3,_,_,y3,y2,h5,#[λv H' #[w,A',y0,_]=>(by cases y0),λv H' #[w,A',y0,_]=>(by cases y0),λY' H' #[Z',A',u0,u1,u2,u3]=>?_,λv H' #[w,A',y0,_]=>(by cases y0)]]
       cases u0;exact hd.nx _ _ #[_,A',rfl,(z1.trans ex).trans u1,u2,u3]
      ·rename_i w5 S5 h5;cases w2;refine#[A4,Z3,S3,_,_,y3,y2,h5,#[λv H' #[w,A',y0,_]=>(by cases y0),λv H' #[w,A',u0,u1,u2,u3]=>?_,λv H' #[w,A',y0,_]=>(by cases y0),λv H' #[w,A',y0,_]=>(by cases y0)]]
       cases u0;exact hd.rt _ _ #[_,A',rfl,(z1.trans ex).trans u1,u2,u3]
      ·cases w2
     ·cases w2
    ·cases w2
  ·cases e
 ·cases e
end
section
variable{prog:IZ}{w:Jg}{B:Jd}{E:HS->HV->Prop}{s:HV}
def Ai {d:Ic}{es:IM KP}{ep:HZ}{Q:HS->HV->Prop}(hd:(d==sysModules)=false)(hm:RawD d es ep s.heap)(hfit:(es.size:Ip) < 2 ^ 63)
  (h:Q (.int es.size (s.toks+1)) { s with toks:=s.toks+1+1 }):wpAny (model prog w) B (call (.builtin "len") [.ref d]) Q E s:=by
 have hT:=hm.type;obtain⟨o,ho,hc,hdat⟩:=id hm;refine L6 kind_len plain_len entry_len (args_len1 _) ?_;unfold Lg.«len»;refine HP (m:=oneArg "len" _) (HW ?_);refine HP (m:=callSpecial? (.ref d) (Ko "__len__")) (Jt (name:=Ko "__len__") hT F.slot_dict_len (Jx F.slot_dict_len hT F.entry_dict_len ?_ (F.args_dict_len_1 _)));show wpAny _ _ (dictSize d >>= _) _ _ s;unfold dictSize;refine HP (HP (MB ho hdat (HW ?_)));show wpAny _ _ (QK d >>= _) _ _ s;refine HP (wpAny_pendingCount_other hd ?_);refine wpAny_ret_mkInt ?_;rw[Nat.add_zero];show wpAny _ _ _ _ _ { s with toks:=s.toks+1 }
 refine HP (JB (HW ?_));refine HP (LV ?_);show wpAny _ _ (if ((es.size:HZ):Ip) < 0 then _ else _) _ _ _
 rw[IP ∅]
 show wpAny _ _ (if ((es.size:HZ):Ip)>=2 ^ 63 then _ else _) _ _ _
 rw[IP ∅]
 exact HP (Qb (HW #[_,rfl,h]))
end
section
variable{X:Cx}{J:HN (Ic×Kb)}{Y:L2.St}{H:Hp}{s:HV}{A:HN Ic}{S:aa}
def qZ:LCall X (.builtin "len") oJ:=by
 intro J s Y H A S xs vs us w S' I so rl rv e
 by_cases hd:∃i U,xs=[.ref i]/\iL S i=ba U
 ·obtain⟨i,U,rfl,hk⟩:=hd;simp only[oJ,hk]at e;cases e;cases rl with
  | cons r t=>
   cases t;cases rv with
   | cons ru rv2=>
    cases rv2;cases r with
    | ref ea=>
     obtain⟨xs,rd,kr⟩:=ft so hk ea;have d:=bY I rd;obtain⟨es,ep,raw,he⟩:=d.raw;obtain rfl:_=Jb _:=ru;have hl:es.size=xs.length:=by rw[<- Iw,he,HQ]
     have hz:=d.1;have hs:sizeLine=16777216:=Jq;refine Ai d.2.1 raw ∅ #[.int U.length,H,A,I.tok _,#[_,by rw[kr.length,hl]],.refl,so,.int]
 ·have:oJ xs S=nY xs S:=by
   unfold oJ;split
   ·rename_i i;split
    ·rename_i U hk;exact absurd #[i,U,rfl,hk] hd
    ·rfl
   ·rfl
  rw[this]at e;exact tZ J s Y H A S xs vs us w S' I so rl rv e
abbrev Hq (S:aa):W->HY JX
 | .non=>ba "NoneType"|.bl _=>ba "bool"|.int _=>ba "int"|.str _=>ba "str"|.tup _=>ba "tuple"
 | .ref i=>match eY S i with
  | some _=>ba "list"
  | none=>(iL S i).map λ_=>"dict"
abbrev sB:HN JX:=["bool","int","str","tuple","list","dict"]
abbrev wX (S:aa)(x:W)(c:JX):HY IN:=match Hq S x with
 | some t=>if sB.contains c then ba (t==c||(t == "bool" && c == "int"))else gV
 | none=>gV
def gB {K:Ij}{t c:JX}(ht:t∈["NoneType","bool","int","str","tuple","list","dict"])(hc:c∈sB):PySem.W.kitOne K (.type t) (.type c)=ba (t==c||(t == "bool" && c == "int")):=by
 simp only[sB,IC,Jc,Kf]at ht hc;rcases ht with rfl|rfl|rfl|rfl|rfl|rfl|rfl <;> rcases hc with rfl|rfl|rfl|rfl|rfl|rfl <;> rfl
def wY:CallR X (.builtin "isinstance") (λvs H Q=>∃A S x v c b,vs=[v,.ty c]/\StoreOk X.w X.K A H S/\Rel X.K A H x v/\wX S x c=ba b/\Q (.bl b) H):=by
 intro J s Y H vs us Q I rv ⟨A,S,x,v,c,b,e1,so,rx,e2,hq⟩;subst e1;cases rv with
 | cons r1 rv2=>cases rv2 with
  | cons r2 rv3=>
   cases rv3;obtain rfl:_=J5 c:=r2;unfold wX at e2;split at e2
   ·rename_i t ht;split at e2
    ·rename_i hc;cases e2;have hc':c∈sB:=by simpa using hc
     have fin:∀tk,EP X J Y Q (.bool (t==c||(t == "bool" && c == "int"))) { s with toks:=tk }:=λtk=>#[.bl _,H,I.tok _,rfl,hq]
     cases rx with
     | non=>cases ht; cases(show _=Jn from r1); exact Lb PySem.W.kitx_none I.kIn MJ (gB (by simp) hc') (λz=>nomatch z) fin
     | bl=>cases ht; cases(show _=LN _ from r1); exact Lb PySem.W.kitx_bool I.kIn MJ (gB (by simp) hc') (λz=>nomatch z) fin
     | int=>cases ht; obtain⟨t',q⟩:=(show ∃t,_=NO _ t from r1); cases q; exact Lb PySem.W.kitx_int I.kIn MJ (gB (by simp) hc') (λz=>nomatch z) fin
     | str=>cases ht; obtain⟨t',q⟩:=(show ∃t,_=MF _ t from r1); cases q; exact Lb PySem.W.kitx_str I.kIn MJ (gB (by simp) hc') (λz=>nomatch z) fin
     | tup h1 r1'=>
      cases ht;obtain⟨its,rv,⟨o,q1,q2,_⟩,hz⟩:=I.tuple h1;cases(show _=Jb _ from r1)
      exact Lb PySem.W.kitx_tuple I.kIn #[o,q1,q2] (gB (by simp) hc') (λz=>nomatch z) fin
     | ref ea=>
      cases(show _=Jb _ from r1)
      simp only[Hq]at ht;split at ht
      ·rename_i ws hw;cases ht;obtain⟨vs,h1,_⟩:=aZ so hw ea;obtain⟨its,rv,p,hz⟩:=I.list h1;obtain⟨o,q1,q2,_⟩:=p.isList;exact Lb PySem.W.kitx_list I.kIn #[o,q1,q2] (gB (by simp) hc') (λz=>nomatch z) fin
      ·rw[HU]at ht;obtain⟨U,hk,rfl⟩:=ht;obtain⟨xs,rd,kr⟩:=ft so hk ea;obtain⟨es,ep,⟨o,q1,q2,_⟩,he⟩:=(bY I rd).raw;exact Lb PySem.W.kitx_dict I.kIn #[o,q1,q2.1] (gB (by simp) hc') (λz=>nomatch z) fin
    ·cases e2
   ·cases e2
abbrev w6 (c:JX)(f:FE):FE:=λZ S=>match f Z S with
 | some (x,S1)=>(wX S1 x c).map λb=>(.bl b,S1)
 | none=>gV
def CW {cn:IH}{c:JX}{e:IJ}{p p2 pos:KW}{f:FE}(hg:Gl X "isinstance")(hm:X.mg "isinstance" = gV)(hg2:Gl X cn)(hm2:X.mg cn=gV)(hv2:bootBuiltins cn=ba (.type c))(hn2:cn≠"__name__")(hd2:(cn==("__debug__" : IH))=false)
  (he:GE X e f) (hs:starEach [e,.Name cn p2] X.env=(false,eval e X.env)::starEach [.Name cn p2] X.env):GE X (.Call (.Name "isinstance" p) [e,.Name cn p2] [] pos) (w6 c f):=
 GE.of (nT (wY) hg hm rfl (mr he (mr (yP (v:=.ty c) hg2 hm2 hv2 rfl hn2 hd2) vo) hs) #v[] #v[] hs rfl) λY H A Z S w S' er so e Q hq=>by
  unfold w6 at e;split at e
  ·rename_i x1 S1 h1;rw[HU]at e;obtain⟨b,e1,e2⟩:=e;cases e2;exact#[A,Z,S,x1,_,er,so,h1,λv H1 #[A1,z1,z2,z3]=>#[A1,_,x1,v,c,b,rfl,z2,z3,e1,hq _ _ #[A1,z1,z2,.bl]]]
  ·cases e
end
abbrev de:HN (T×W)->HN W->HY (HN (T×W))
 | U,[]=>ba U
 | U,k::v::ws=>match fW k with
  | some t=>de (eg U t v) ws
  | none=>gV
 | _,[_]=>gV
abbrev Bn:FE:=λ_ S=>ba (.ref S.length,S++[.dic []])
abbrev o5 (f:FA):FE:=λZ S=>match f Z (S++[.dic []])with
 | some (ws,S1)=>match S1[S.length]? with
  | some (.dic [])=>match de [] ws with
   | some U=>ba (.ref S.length,S1.set S.length (.dic U))
   | none=>gV
  | _=>gV
 | none=>gV
section
variable (K:Ij) (A:HN Ic) (H:Hp)
inductive RelP:HN W->HN (V×V)->Prop
 | nil:RelP [] []
 | cons {k v:W} {a b:V} {ws:HN W} {ps:HN (V×V)}:Rel K A H k a->Rel K A H v b->RelP ws ps->RelP (k::v::ws) ((a,b)::ps)
end
def RelP.mono {K:Ij}{A A':HN Ic}{H H':Hp}(e:Ext K A H A' H'){ws:HN W}{ps:HN (V×V)}(h:RelP K A H ws ps):RelP K A' H' ws ps:=by
 induction h with
 | nil=>exact .nil
 | cons a b c ih=>exact .cons (a.mono e) (b.mono e) ih
section
variable{X:Cx}{J:HN (Ic×Kb)}{Y:L2.St}{H:Hp}{s:HV}{A:HN Ic}{S:aa}
abbrev GF (X:Cx)(A:HN Ic)(H:Hp)(S':aa)(ws:HN W):HN (V×V)->Hp->Prop:=λps H'=>∃A',Ext X.K A H A' H'/\StoreOk X.w X.K A' H' S'/\RelP X.K A' H' ws ps
abbrev EG (X:Cx)(pos:KW)(keys:HN (HY IJ))(values:HN IJ)(f:FA):Prop:=
 ∀(J:HN (Ic×Kb)) (s:HV) (Y:L2.St) (H:Hp) (A:HN Ic) (Z:Fm) (S:aa) (ws:HN W) (S':aa),Inv X J Y H s->EnvRel X.K A H Z Y->StoreOk X.w X.K A H S->f Z S=ba (ws,S')->
  wpAny (model X.prog X.w) X.A (evalPairs (pairTrees keys values X.env pos)) (λvs s'=>∃ps H',Inv X J Y H' s'/\VV ps vs/\GF X A H S' ws ps H') X.xe s
def Aj {pos:KW}:EG X pos [] [] g9:=λJ s Y H A Z S ws S' I er so e=>by
 cases e;exact pairTrees_nil_walk #[[],H,I,.nil,A,.refl,so,.nil]
def w8 {pos:KW}{k v:IJ}{ks:HN (HY IJ)}{vs:HN IJ}{fk fv:FE}{f:FA}(hk:GE X k fk)(hv:GE X v fv)(hr:EG X pos ks vs f):EG X pos (ba k::ks) (v::vs) (dj fk (dj fv f)):=λJ s Y H A Z S ws S' I er so e=>by
 unfold dj at e;split at e
 ·rename_i w1 S1 h1;split at e
  ·rename_i w2 S2 h2;cases e;split at h2
   ·rename_i w3 S3 h3;split at h2
    ·rename_i w4 S4 h4;cases h2;refine pairTrees_cons_walk (bm (hk J s Y H (EndV X.w X.K A H S1 w1) I #[A,Z,S,_,_,er,so,h1,λ_ _ z=>z]) λu s1 #[x,H1,I1,r1,A1,e1,o1,z1]=>
      bm (hv J s1 Y H1 (EndV X.w X.K A1 H1 S3 w3) I1 #[A1,Z,S1,_,_,er.mono e1,o1,h3,λ_ _ z=>z]) λu2 s2 #[x2,H2,I2,r2,A2,e2,o2,z2]=>
      bm (hr J s2 Y H2 A2 Z S3 _ _ I2 (er.mono (e1.trans e2)) o2 h4) λvs' s3 #[ps,H3,I3,rel,A3,e3,o3,z3]=>?_)
     exact#[(x,x2)::ps,H3,I3,.cons #[r1,r2] rel,A3,e1.trans (e2.trans e3),o3,.cons (z1.mono (e2.trans e3)) (z2.mono e3) z3]
    ·cases h2
   ·cases h2
  ·cases e
 ·cases e
def lH {r:HZ}{d:Ic}{E:HS->HV->Prop}(hu:X.A.units+10 < cLine):∀(vs:HN (HS×HS)) (ps:HN (V×V)) (ws:HN W) (U U':HN (T×W)) (s:HV) (H:Hp) (S:aa) (Q:PUnit->HV->Prop),
  Inv X J Y H s->StoreOk X.w X.K A H S->mN S r=ba U->A[r]?=ba d->RelP X.K A H ws ps->VV ps vs->de U ws=ba U'->U.length+vs.length<=30->
  (∀s' H',Inv X J Y H' s'->Ext X.K A H A H'->StoreOk X.w X.K A H' (S.set r (.dic U'))->Q O4 s')->
  wpAny (model X.prog X.w) X.A (forIn vs O4 λ(x:HS×HS) (_:PUnit)=>(do dictSet d x.1 x.2; pure (Kr O4):Ry (ForInStep PUnit))) Q E s
 | [],_,_,U,U',s,H,S,Q,I,so,hr,ea,rp,vv,e,hl,hq=>by
  cases vv;cases rp;cases e;rw[Ox];refine HW (hq s H I .refl ?_);have hS:=gU hr;have:S.set r (.dic U)=S:=by
   apply NE;intro j;rw[Kj];split
   ·rename_i e; subst e
    split
    ·exact hS.symm
    ·rename_i h; exact absurd (Il.mp hS).1 h
   ·rfl
  rw[this]; exact so
 | (ku,vu)::vs,_,_,U,U',s,H,S,Q,I,so,hr,ea,rp,vv,e,hl,hq=>by
  cases vv with
  | cons hv vv2=>
   cases rp with
   | @cons wk wv va vb ws2 ps2 rk rv' rp2=>
    simp only[de]at e;split at e
    ·rename_i t ht;rw[MY];obtain⟨xs,hH,kr⟩:=r6 so hr ea;have dd0:=bY I (.inl hH);have dd:=dd0.dict I kr;obtain⟨bk,e1,e2,rkk⟩:=gT ht rk hv.1;have e2:ku=Jb bk:=e2;subst e2;obtain⟨q1,q2,q3⟩:=dB ht;rw[Ju]at hl;have hz:xs.length<=sizeLine:=dd0.1;refine HP (HP (wpAny_dictSet_heap (hsz:=hz) (show X.A.units+au < cLine by unfold au; omega) (iM I rkk q3) dd λh' dd' hs=>HW ?_))
     have kr':=kr.put q2 q3 rkk rv' hv.2;have hz':(storedH xs t bk vu).length<=sizeLine:=by
      rw[<- kr'.length];have h2:=c7 U t wv;rw[Jq];omega
     have dn:DicAt X.w d (storedH xs t bk vu) h':=.of hz' dd0.2.1 dd';obtain⟨so',ex⟩:=so.writeO (gU hr) rfl ea (u:=dE X.w d (storedH xs t bk vu)) (n:=.dic (eg U t wv)) #[_,aF,kr'.mono (bX (.ext hH))];have I':Inv X J Y (bh H d (dE X.w d (storedH xs t bk vu))) { s with heap:=h',toks:=s.toks+(aR X.prog X.w).draws t }:=mD I (by rw[hH]; exact MJ) hs (let ⟨q,_,_,hq,_⟩:=dd'; #[q,hq]) dn.ok
     have hl':(S.set r (.dic (eg U t wv)))[r]?=ba (.dic (eg U t wv)):=by
      rw[Kj,IF rfl,IF (Il.mp (gU hr)).1]
     refine lH hu vs _ _ (eg U t wv) U' _ _ _ Q I' so' (by unfold mN; rw[hl']) ea (rp2.mono ex) vv2 e (by have:=c7 U t wv; omega) λs' H' I2 ex2 so2=>?_
     rw[List.set_set]at so2;exact hq s' H' I2 (ex.trans ex2) so2
    ·cases e
def Ak {pos:KW}:GE X (.Dict [] [] pos) Bn:=λJ s Y H Q I #[A,Z,S,w,S',er,so,e,hq]=>by
 cases e;have hn:=I.hok.fresh (Ih s.heap.objs.size);have dn:DicAt X.w s.heap.objs.size [] (s.heap.push { cls:=.type "dict",data:=.dict #[] }):=#[JS _,L9.mpr (Ne.symm (IA I.big)),Oy,_,#[],0,Im _ rfl,#[rfl,rfl,rfl],rfl,rfl];refine wpAny_Dict_empty #[.ref s.heap.objs.size,_,I.laid (a:=s.heap.objs.size) (o:=dE X.w s.heap.objs.size []) (t':=s.toks) (λ_ _ q=>HR _ q) (Ih _) dn.ok,rfl,hq _ _ #[A++[s.heap.objs.size],cp hn,so.pushO hn #[[],aF,.nil],.ref ?_]]
 rw[<- so.len]; simp
def Al {pos:KW}{keys:HN (HY IJ)}{values:HN IJ}{f:FA}(hu:X.A.units+10 < cLine)(h:EG X pos keys values f)(hall:keys.all (·.isSome)=true)(hl:keys.length=values.length)(h0:keys≠[])(h15:keys.length<=15):GE X (.Dict keys values pos) (o5 f):=by
 intro J s Y H Q I ⟨A,Z,S,w,S',er,so,e,hq⟩;unfold o5 at e;split at e
 ·rename_i ws S1 h1;split at e
  ·rename_i hS1;split at e
   ·rename_i U hp;cases e;have hn:=I.hok.fresh (Ih s.heap.objs.size);have dn:DicAt X.w s.heap.objs.size [] (s.heap.push { cls:=.type "dict",data:=.dict #[] }):=#[JS _,L9.mpr (Ne.symm (IA I.big)),Oy,_,#[],0,Im _ rfl,#[rfl,rfl,rfl],rfl,rfl];have I1:=I.laid (a:=s.heap.objs.size) (o:=dE X.w s.heap.objs.size []) (h':=s.heap.push { cls:=.type "dict",data:=.dict #[] }) (t':=s.toks) (λ_ _ q=>HR _ q) (Ih _) dn.ok
    have ex0:Ext X.K A H (A++[s.heap.objs.size]) (bh H s.heap.objs.size (dE X.w s.heap.objs.size [])):=cp hn;have so0:StoreOk X.w X.K (A++[s.heap.objs.size]) (bh H s.heap.objs.size (dE X.w s.heap.objs.size [])) (S++[.dic []]):=so.pushO hn #[[],aF,.nil];have hlen:=pairTrees_length keys values X.env pos hall hl;have hne:pairTrees keys values X.env pos≠[]:=λhe=>by
     rw[he]at hlen;exact h0 (Kc.mp hlen.symm)
    rw[arm_eval_Dict,zip_pairTrees keys values X.env pos hall hl,dictDisplay_pairs _ hne ∅]
    refine HP (MM (HP ?_));unfold subDict;refine HP (Ru ?_);refine HP (JB ?_);rw[IF ∅]
    refine HP (Ks (wpAny_evalPairs_len (h J _ Y _ _ Z _ _ _ I1 (er.mono ex0) so0 h1)) (λvs s₁ h₁=>?_) λ_ _ e=>e)
    obtain⟨hvl,ps,H2,I2,vv,A2,ex2,so2,rp⟩:=h₁;refine JB ?_;have ea:A2[S.length]?=ba s.heap.objs.size:=ex2.ad _ _ (by rw[<- so.len]; simp)
    refine HP (lH hu vs ps ws [] U s₁ H2 S1 _ I2 so2 (by unfold mN; rw[hS1]) ea rp vv hp (by rw[KD]; omega) λs' H' I3 ex3 so3=>?_)
    exact HW (HW (HW #[.ref s.heap.objs.size,H',I3,rfl,hq _ _ #[A2,ex0.trans (ex2.trans ex3),so3,.ref ea]]))
   ·cases e
  ·cases e
 ·cases e
end
abbrev Hr (wd:Jg)(a:Ic)(o:Kb)(xs:HN (T×Ic×HS)):It:=
 #[λi H=>H a=ba (.frz o (dE wd a xs))/\i < xs.length,λi H x H'=>H'=H/\∃q,xs[i]?=ba q/\x=.ref q.2.1,λi H=>H a=ba (.frz o (dE wd a xs))/\xs.length<=i]
def uD {P:IZ}{w:Jg}{K:Ij}{tg:IJ}(a it:Ic){o:Kb}{es:IM KP}{ep:HZ}{xs:HN (T×Ic×HS)}(hx:o.ExactDict)(hd:o.data=.dict es ep)(he:es.toList=xs.map (vH w)) :
  Turn P w K tg (Hr w a o xs) [it] it (λi h=>h.IsKeyIter it a i es.size ep) where
 mem:=by simp
 obj:=λi h st b hb=>by
  have e:b=it:=by simpa using hb
  subst e;obtain⟨o,e,c,d⟩:=st;exact#[o,e,λv z=>by rw[d]at z; cases z]
 keep:=λi h h' st k=>st.at λo e=>k it (by simp) o e
 item:=by
  intro X hP hw hK hc i J s Y H E I hf st hg;subst hP hw hK;obtain⟨hH,hi⟩:=hg;have ho:s.heap.get? a=ba o:=(show ObjOk X.prog X.w H s.heap a (.frz o (dE X.w a xs))from I.hok a _ hH).1
  have hl:es.size=xs.length:=by rw[<- Iw,he,HQ]
  have hi':i < es.size:=∅
  obtain⟨f0,f1,f2,f3,f4,f5⟩:=hf it (by simp)
  have hk:es[i].key=.ref (xs[i]).2.1:=by
   have:es.toList[i]?=ba (vH X.w xs[i]):=by rw[he,Ii,Ig hi]; rfl
   rw[JF,KG hi']at this;have:=Jz this;rw[this]; rfl
  refine oB st #[o,ho,hx,hd] hi' λh' st' sb=>?_
  have I1:Inv X J Y H { s with heap:=h' }:=I.turned (t':=s.toks) (λb o hb e=>(sb.2 b hb).trans e) f0 f1 f3 f4 f5
  obtain⟨o',e,c,d⟩:=id st';exact#[_,rfl,rM (s:={ s with heap:=h' }) e c d #v[] #[.ref (xs[i]).2.1,H,I1,hk,#[rfl,xs[i],Ig hi,rfl],st',λb hb=>(hf b hb).1]]
 done:=by
  intro X hP hw hK hc i J s Y H E I hf st hg;subst hP hw hK;obtain⟨hH,hi⟩:=hg;have ho:s.heap.get? a=ba o:=(show ObjOk X.prog X.w H s.heap a (.frz o (dE X.w a xs))from I.hok a _ hH).1
  have hl:es.size=xs.length:=by rw[<- Iw,he,HQ]
  obtain⟨f0,f1,f2,f3,f4,f5⟩:=hf it (by simp)
  exact r9 (I.ok.hd hc) st #[o,ho,hx,hd] ∅ λh' eb=>#[rfl,I.turned (t':=s.toks) (λb o hb e=>eb b o hb e) f0 f1 f3 f4 f5]
 self:=λ_ _ _ _ _ st h=>Ov st h
abbrev dX (f:FE):FI:=λZ S=>match f Z S with
 | some (.tup ws,S1)=>ba (.its ws,S1)
 | some (.ref r,S1)=>match eY S1 r with
  | some _=>ba (.live r,S1)
  | none=>match iL S1 r with
   | some U=>ba (.its (U.map λp=>p.1.w),S1.set r (.frd U))
   | none=>gV
 | _=>gV
section
variable{X:Cx}{J:HN (Ic×Kb)}{Y:L2.St}{H:Hp}{s:HV}{A:HN Ic}{S:aa}
def w9 {a:Ic}{o:Kb}{U:HN (T×W)}{xs:HN (T×Ic×HS)}(hH:H a=ba (.frz o (dE X.w a xs)))(kr:KRel X.K A H U xs):MIt X.w X.K (.its (U.map λp=>p.1.w)) (Hr X.w a o xs) A H:=by
 refine#[λA' H' S i w e so hi=>?_,λA' H' S i e so hi=>?_]
 ·simp only[MI.at,IW]at hi;obtain⟨v,h1,h2⟩:=((kr.mono e).keysL).get hi;rw[Ii,HU]at h1;obtain⟨q,q1,q2⟩:=h1;refine#[#[e.fz _ _ _ hH,(Il.mp q1).1],λx H2 #[z1,q',z2,z3]=>?_]
  subst z1 z3;rw[q1]at z2; cases z2
  exact#[.refl,so,by rw[q2]; exact h2]
 ·simp only[MI.at,IW]at hi;refine#[e.fz _ _ _ hH,?_];have:=Js.mp hi;rw[HQ,kr.length]at this;exact this
def Am {tg l:IJ}{f:FE}(h:GE X l f):GI X tg l (dX f):=by
 intro J s Y H R I ⟨A,Z,S,mi,S',er,so,e,hq⟩
 by_cases hd:∃r S1 U,f Z S=ba (.ref r,S1)/\eY S1 r=gV/\iL S1 r=ba U
 ·obtain⟨r,S1,U,h1,h2,h3⟩:=hd;simp only[dX,h1,h2,h3]at e;cases e;refine bm (h J s Y H (EndV X.w X.K A H S1 (.ref r)) I #[A,Z,S,_,_,er,so,h1,λ_ _ z=>z]) λv s1 #[x,H1,I1,r1,A1,e1,o1,z1]=>?_
  cases z1 with
  | @ref _ a ea=>
   obtain rfl:v=Jb a:=r1;have fz:∃o xs H2,Inv X J Y H2 s1/\Ext X.K A1 H1 A1 H2/\StoreOk X.w X.K A1 H2 (S1.set r (.frd U))/\H2 a=ba (.frz o (dE X.w a xs))/\KRel X.K A1 H2 U xs:=by
    unfold iL at h3;split at h3
    ·rename_i k hk;cases h3;obtain⟨xs,hH,kr⟩:=o1.obj r _ a hk ea;have d:=bY I1 (.inl hH);obtain⟨_,_,_,o,es,ep,q1,q2,q3,q4⟩:=id d;obtain⟨so',ex⟩:=o1.writeO hk rfl ea (u:=.frz o (dE X.w a xs)) (n:=.frd U) #[o,xs,aF,kr.mono (bX (.ext hH))];exact#[o,xs,_,mD (h':=s1.heap) (t':=s1.toks) (ob:=.frz o (dE X.w a xs)) I1 (by rw[hH]; exact MJ) (Pu _ _) #[o,q1] #[q1,d.ok],ex,so',aF,kr.mono ex]
    ·rename_i k hk;cases h3;obtain⟨o,xs,hH,kr⟩:=o1.obj r _ a hk ea;have:S1.set r (.frd U)=S1:=by
      apply NE;intro j;rw[Kj];split
      ·rename_i e; subst e
       split
       ·exact hk.symm
       ·rename_i h; exact absurd (Il.mp hk).1 h
      ·rfl
     rw[this];exact#[o,xs,H1,I1,.refl,o1,hH,kr]
    ·cases h3
   obtain⟨o,xs,H2,I2,ex,so2,hH,kr⟩:=fz;have d:=bY I2 (.inr #[o,hH]);have ho:s1.heap.get? a=ba o:=(show ObjOk X.prog X.w H2 s1.heap a (.frz o (dE X.w a xs))from I2.hok a _ hH).1
   obtain⟨_,hsm,_,o',es,ep,q1,q2,q3,q4⟩:=id d;rw[ho]at q1;cases q1;refine oA hsm #[o,ho,q2,q3] ?_;refine#[s1.heap.objs.size,[s1.heap.objs.size],_,_,H2,rfl,I2.kept (t':=s1.toks) λb o e=>HR _ e,uD a _ q2 q3 q4,#[_,Im _ rfl,rfl,rfl],λb hb=>?_,hq _ _ A1 (e1.trans ex) so2 (w9 hH kr)]
   have e:b=s1.heap.objs.size:=by simpa using hb
   subst e;exact I2.fpOk (Ih _) (I2.hok.fresh (Ih _))
 ·have:dX f Z S=Ac f Z S:=by
   unfold dX Ac;cases hf:f Z S with
   | none=>rfl
   | some p=>
    obtain⟨w,S1⟩:=p;cases w with
    | ref r=>
     cases h2:eY S1 r with
     | some _=>simp only[h2]
     | none=>
      cases h3:iL S1 r with
      | none=>simp only[h2,h3]
      | some U=>exact absurd #[r,S1,U,hf,h2,h3] hd
    | _=>rfl
  rw[this]at e;exact CU h J s Y H R I #[A,Z,S,mi,S',er,so,e,hq]
end
abbrev lI (zs:HN Ip):HZ:=(firstMet (λi=>zs.getD i 0) zs.length).length
section
variable{prog:IZ}{w:Jg}{A:Jd}{E:HS->HV->Prop}{s:HV}
set_option maxHeartbeats 4000000 in
def uE {l:Ic}{its:IM HS}{zs:HN Ip}{Q:HS->HV->Prop}(hh:A.handled=gV)(hl:s.heap.IsTuple l its)(hi:OG its.toList zs)(hz:zs.length=its.size)(hb:its.size+1 < scanBound)
  (h:∀h' tk o,h'.get? s.heap.objs.size=ba o->Ct (lI zs) o->(∀b u,s.heap.get? b=ba u->h'.get? b=ba u)->Q (.ref s.heap.objs.size) { s with heap:=h',toks:=tk }):wpAny (model prog w) A (call (.type "set") [.ref l]) Q E s:=by
 obtain⟨c,tl,hmro⟩:=F.called_set.mro;have hmade:=F.called_set.made;have hsub:=F.called_set.sub;have hn1:=F.called_set.notType;have hn2:=F.called_set.canCreate;have hct:=F.typeCall_set_1 (.ref l);refine Qp (MX ?_);show wpAny _ _ (callAny (.type "set") _) _ _ _;refine HW #[Nn _ (by decide +kernel),JA F.entry_type_call ?_]
 rw[O6 (Of "set" [.ref l] []) rfl]
 repeat (any_goals (first|assumption|wp_step))
 refine LA (nZ (w:=w) (.ref l) (E:=E) (Q₁:=λobj s1=>obj=.ref s.heap.objs.size/\s1={ s with heap:=s.heap.push (aN w) }) #[rfl,rfl]) λr s1 hr=>?_
 match r,hr with
 | .ok (.ret obj),hr=>
  obtain⟨rfl,rfl⟩:=hr;have oS:(s.heap.push (aN w)).get? s.heap.objs.size=ba (aN w):=Im _ rfl;have tS:QX { s with heap:=s.heap.push (aN w) } (.ref s.heap.objs.size) "set":=#[_,oS,rfl]
  have hli:=F.called_set.init.lookup;have hbi:=F.called_set.init.bind (.ref s.heap.objs.size)
  repeat (any_goals (first|assumption|wp_step))
  refine LA (Oq (R:=wants (λr s2=>r=.none/\∃h' tk o,s2={ s with heap:=h',toks:=tk }/\h'.get? s.heap.objs.size=ba o/\Ct (lI zs) o/\∀b u,s.heap.get? b=ba u->h'.get? b=ba u) E) F.called_set.init.plain F.entry_set_init (PV tS ?_)) λr2 s2 hr2=>?_
  ·obtain⟨⟨oc,od,ot,osl⟩,hol,hcl,nl,hdl⟩:=id hl;simp only at hcl hdl;subst hcl hdl;have hol1:=HR (aN w) hol;have l1:(s.heap.push (aN w)).IsTuple l its:=#[_,hol1,rfl,nl,rfl];have e1:=F.sub_tuple_set;have e2:=F.sub_tuple_frozenset;have e3:(J5 "tuple" == J5 "dict")=false:=by decide
   unfold Lg.«set.__init__» noKeywords MZ;generalize hPI:pyIter=PI
   wp_walk
   subst hPI;refine Nt l1 (HP (LQ ?_));have ls:l < s.heap.objs.size:=Iv hol;have sz:(s.heap.push (aN w)).objs.size=s.heap.objs.size+1:=J2 ..;have ne:l≠(s.heap.push (aN w)).objs.size:=by rw[sz]; exact IA (KA ls)
   refine codeAny_set_update_loopS ((Walks.tuple (A:=A.in1.in1.in1) (by simp[hh]) _ l ne its).toS) s.heap.objs.size (by rw[sz]; simp only[IC,Jc,Kf,Os]; exact#[IA (J4 _),JY ls]) (λi=>zs.getD i 0) (λi v hv=>IntsAre.int_at hi i v (by rw[JF]; exact hv)) hb (its.size - 0) 0 _ ∅ (JS _) #[#[_,Im _ rfl,rfl,rfl],l1.push _] ?_ λs3 mv hS3=>?_
   ·exact SetOf_congr ((setObjOf_fresh (knd:=intKind prog w) (!d8 w)).setOf (HR _ oS) (by unfold scanBound; omega)) (λ_=>rfl) rfl
   ·rw[OT mv];obtain⟨o,ho,hex,es,ep,t,hd,_,_,hn,hf⟩:=hS3.objOf;refine HW (HW #[rfl,s3.heap,s3.toks,o,rfl,ho,#[hex,es,ep,t,hd,by rw[hn]; unfold lI; rw[hz],hf],λb u q=>?_])
    have hb:=Iv q;exact mv.heap b u (by rw[sz]; simp only[IC,Jc,Kf,Os]; exact#[IA hb,IA (KA hb)]) (HR _ (HR _ q))
  ·match r2,hr2 with
   | .ok (.ret r),hr2=>
    obtain⟨rfl,h',tk,o,rfl,g1,g2,g3⟩:=hr2
    repeat (any_goals (first|assumption|wp_step))
    exact h h' tk o g1 g2 g3
   | .ok .next,hr2=>exact hr2.elim
   | .ok .brk,hr2=>exact hr2.elim
   | .ok .cont,hr2=>exact hr2.elim
   | .error e,hr2=>exact hr2
 | .ok .next,hr=>exact hr.elim
 | .ok .brk,hr=>exact hr.elim
 | .ok .cont,hr=>exact hr.elim
 | .error e,hr=>exact hr
def xf {zs:HN Ip}(h:zs.Nodup):lI zs=zs.length:=by
 have key:∀i,i<=zs.length->firstMet (λi=>zs.getD i 0) i=zs.take i:=by
  intro i
  induction i with
  | zero=>intro _; simp[firstMet_zero]
  | succ i ih=>
   intro hi;rw[firstMet_succ,ih ∅,IS,Ig hi]
   have e:zs.getD i 0=zs[i]:=by rw[JL,Ig hi]; rfl
   have hn:((zs.take i).any λx=>x==zs[i])=false:=by
    rw[List.any_eq_false];intro x hx hxe;obtain⟨j,hj,rfl⟩:=JW.mp hx;rw[JE]at hj;rw[Lh]at hxe;have:=(Kv h).mp (eq_of_beq hxe);omega
   show step_dedup _ (zs.getD i 0)=_;rw[e];unfold step_dedup;rw[IP (by rw[hn]; exact IE)]
   rfl
 unfold lI;rw[key _ (Ih _),Jp]
end
abbrev lJ:HN W->HY (HN Ip)
 | []=>ba []
 | .int z::ws=>(lJ ws).map (z :: ·)
 | _=>gV
abbrev j4 (xs:HN W)(S:aa):HY (W×aa):=match xs with
 | [.tup ws]=>match lJ ws with
  | some zs=>if zs.length<=1000 then ba (.ref S.length,S++[.sti (lI zs)])else gV
  | none=>gV
 | _=>gV
abbrev An (xs:HN W)(S:aa):HY (W×aa):=match xs with
 | [.ref i]=>match S[i]? with
  | some (.sti n)=>if n<=1000 then ba (.int n,S)else gV
  | _=>gV
 | _=>gV
section
variable{X:Cx}{J:HN (Ic×Kb)}{Y:L2.St}{H:Hp}{s:HV}{A:HN Ic}{S:aa}
def o7 {A:HN Ic}{H:Hp}:∀ {ws:HN W} {vs:HN V} {us:HN HS} {zs:HN Ip},RelL X.K A H ws vs->Vals vs us->lJ ws=ba zs->OG us zs/\zs.length=us.length
 | [],_,_,zs,.nil,.nil,h=>by cases h; exact#[.nil,rfl]
 | .int z::ws,_,_,zs,.cons .int t,.cons ru tv,h=>by
  simp only[lJ,HU]at h;obtain⟨zs',h1,rfl⟩:=h;obtain⟨tk,rfl⟩:=ru;obtain⟨a,b⟩:=o7 t tv h1;exact#[.cons z tk a,by rw[Ju,Ju,b]]
 | .non::_,_,_,_,_,_,h|.bl _::_,_,_,_,_,_,h|.str _::_,_,_,_,_,_,h|.tup _::_,_,_,_,_,_,h|.ref _::_,_,_,_,_,_,h=>by cases h
def q8 (hh:X.A.handled=gV):LCall X (.type "set") j4:=by
 intro J s Y H A S xs vs us w S' I so rl rv e;unfold j4 at e;split at e
 ·rename_i ws;split at e
  ·rename_i zs hz;split at e
   ·rename_i hl;cases e;cases rl with
    | cons r t=>
     cases t;cases rv with
     | cons ru rv2=>
      cases rv2;cases r with
      | tup h1 r1=>
       obtain⟨its,rv',p,hzz⟩:=I.tuple h1;obtain rfl:_=Jb _:=ru;obtain⟨g1,g2⟩:=o7 r1 rv' hz;refine uE (zs:=zs) hh (show s.heap.IsTuple _ its.toArray from p) (by simpa using g1) (by simpa using g2) (by unfold scanBound; rw[Iu]; omega) λh' tk o ho hS hk=>?_
       exact fq (dr:=s.drawn) (u:=.frz o (.ext λh=>h.get? s.heap.objs.size=ba o)) I so hk (Ih _) #[ho,ho,#[_,ho],λh1 h2 q k=>k _ q] λhn=>#[o,_,aF,hS]
   ·cases e
  ·cases e
 ·cases e
def q9:LCall X (.builtin "len") An:=by
 intro J s Y H A S xs vs us w S' I so rl rv e;unfold An at e;split at e
 ·rename_i i;obtain⟨a,ea,rfl⟩:=gR (xs:=[]) rl rv;split at e
  ·rename_i n hi;split at e
   ·rename_i hn;cases e;obtain⟨o,φ,q,hex,es,ep,t,hd,hz,hf⟩:=so.obj i _ a hi ea;have ho:s.heap.get? a=ba o:=(show ObjOk X.prog X.w H s.heap a (.frz o (.ext φ))from I.hok a _ q).1
    exact call_len_set ho hex hd hf ∅ #[.int n,H,A,I.tok _,#[_,by rw[hz]],.refl,so,.int]
   ·cases e
  ·cases e
 ·cases e
end
abbrev bn (mi:MI)(g:FG)(c:FT)(f:FE):HZ->HZ->Fm->aa->HY (HN W×aa)
 | 0,i,_,S=>match mi.at S i with
  | some gV=>ba ([],S)
  | _=>gV
 | n+1,i,Z,S=>match mi.at S i with
  | some (ba w)=>match g w Z S with
   | some (Z1,S1)=>match c Z1 S1 with
    | some (true,S2)=>match f Z1 S2 with
     | some (y,S3)=>match bn mi g c f n (i+1) Z1 S3 with
      | some (ys,S4)=>ba (y::ys,S4)
      | none=>gV
     | none=>gV
    | some (false,S2)=>bn mi g c f n (i+1) Z1 S2
    | none=>gV
   | none=>gV
  | _=>gV
abbrev eh (cap:HN (HY HZ))(Z:Fm):Fm:=cap.map λo=>match o with
 | some j=>(Z[j]?).join
 | none=>gV
abbrev j5 (fi:FI)(g:FG)(c:FT)(f:FE)(cap:HN (HY HZ)):FE:=λZ S=>match fi Z S with
 | some (mi,S1)=>match mi.len S1 with
  | some n=>match bn mi g c f n 0 (eh cap Z) S1 with
   | some (ys,S2)=>kO S2 ys
   | none=>gV
  | none=>gV
 | none=>gV
abbrev Bo:FT:=λ_ S=>ba (true,S)
abbrev kM (X:Cx)(scope:LJ)(cl:HN (IH×Ic))(C:Ic)(N:HN IH)(s0:HV)(H0:Hp)(ex:HN Ic):Cx:=
 { X with env:=compEnvC scope cl C X.env,N:=N,s₀:=s0,H₀:=H0,outer:=X.stack,stack:=X.stack,ex:=ex,fn:=λ_=>false,pn:=[],xe:=λ_ _=>JR }
structure CompOk (X:Cx)(scope:LJ)(cl:HN (IH×Ic))(N:HN IH)(cap:HN (HY HZ)):Prop where
 clos:closureFor scope X.env=pure cl
 kind:scope.kind=.function
 names:∀y∈scope.names,y.2=.local->scope.names.lookup y.1=ba .local
 nocell:∀y∈scope.names,y.2≠.cell
 sub:∀x c,cl.lookup x=ba c->X.env.cells.lookup x=ba c
 has:∀x,((relabel scope X.env).names.lookup x=ba .cell\/(relabel scope X.env).names.lookup x=ba .free)->∃c,cl.lookup x=ba c
 len:cap.length=N.length
 cap:∀(i j:HZ) (x:IH),cap[i]?=ba (ba j)->N[i]?=ba x->X.N[j]?=ba x/\(X.env.kindOf x=ba .cell\/X.env.kindOf x=ba .free)/\((relabel scope X.env).names.lookup x=ba .cell\/(relabel scope X.env).names.lookup x=ba .free)
def fY {prog:IZ}{w:Jg}{A:Jd}{R:PL->HV->Prop}{s:HV}{elt target iter:IJ}{ifs:HN IJ}{scope:LJ}{pos:KW}{it acc:HS}{env:Pd}(I:HZ->HV->Prop)
    (turn:∀n s,I n s->wpAny (model prog w) A (pyNext it) (λr s₁=>match r with
      | none=>R (.ok .next) s₁
      | some v=>wpAny (model prog w) A (letOwnedTupleGo target it v) (λ_ s₁=>wpAny (model prog w) A (assign target env v) (λ_ s₂=>
          wpAny (model prog w) A (forIn ifs true λc r=>if r=true then do let ok <- isTrue c env (eval c env); pure (Kr ok)else pure (Kr r)) (λok s₃=>
            if ok=true then wpAny (model prog w) A (eval elt env) (λx s₄=>
              wpAny (model prog w) A (call (.builtin "list.append") [acc,x]) (λ_ s₅=>∃m,m < n/\I m s₅) (λ_ _=>JR) s₄) (λ_ _=>JR) s₃
            else ∃m,m < n/\I m s₃) (λ_ _=>JR) s₂) (λ_ _=>JR) s₁) (λ_ _=>JR) s₁) (λ_ _=>JR) s)
    (n:HZ) (h:I n s) :
    codeAny (model prog w) A (.compLoop (.ListComp elt [#[target,iter,ifs,0]] scope pos) 0 it acc env) R s:=by
  refine codeAny_loop rfl I (λn s hI=>?_) n h
  show wpAny _ A ((compTurn (.ListComp elt [#[target,iter,ifs,0]] scope pos) 0 it acc env).onRaise (λx=>do noteFrame x env; theTreesLotGoes x)) _ _ s
  refine wpAny_noted ?_;rw[compTurn_list];refine HP (MM (HP (Ks (turn n s hI) (λr s₁ h₁=>?_) λ_ _ h'=>h'.elim)))
  cases r with
  | none=>exact HW h₁
  | some v=>
    refine HP (Ks h₁ (λ_ s₁ h₁=>?_) λ_ _ h'=>h'.elim)
    refine HP (Ks h₁ (λ_ s₂ h₂=>HP (Ks h₂ (λok s₃ h₃=>?_) λ_ _ h'=>h'.elim)) λ_ _ h'=>h'.elim)
    cases ok with
    | false=>exact HW #[rfl,h₃]
    | true=>
      exact HP (HP (Ks h₃ (λx s₄ h₄=>HP (Ks h₄ (λ_ s₅ h₅=>HW (HW #[rfl,h₅])) λ_ _ h'=>h'.elim)) λ_ _ h'=>h'.elim))
section
variable{X:Cx}{J:HN (Ic×Kb)}{Y:L2.St}{H:Hp}{s:HV}
def Inv.adopt {D:Ic}{o:HO}(I:Inv X J Y H s)(hn:H D=gV)(h1:D∈X.ex\/X.s₀.heap.objs.size<=D)(hL:D≠X.env.locals)(h2:∀x c,X.env.cells.lookup x=ba c->c≠D)(h3:∀p∈X.pn++J,p.1≠D)
  (new:ObjOk X.prog X.w (bh H D o) s.heap D o):Inv X J Y (bh H D o) s:=by
 have nit:∀b u,H b=ba u->b≠D:=λb u e z=>by rw[z,hn]at e; cases e
 have key:Inv X J Y (bh H D o) { s with heap:=s.heap,gens:=s.gens,drawn:=s.drawn,toks:=s.toks }:=by
  refine I.step (g':=s.gens) (d':=s.drawn) (t':=s.toks) (h':=s.heap) (ch:=[D]) (λb hb=>?_) (λb o _ _ hc e _=>e) (λb o _ _ hc e _=>#[o.slots,e]) (λb o hc e n=>?_)
   (λb o hc e=>#[o,e]) (λb xs e=>?_) (λb o xs e=>?_) (λb ps e=>#[#[],?_]) (λm hm=>hm) (λb u e=>?_) I.bare
  ·have e:b=D:=by simpa using hb
   subst e;exact#[h1,hL,h2,h3]
  ·rw[aB (λz=>hc (by simp[z]))]; exact n
  ·rw[aB (nit b _ e)]; exact e
  ·rw[aB (nit b _ e)]; exact e
  ·rw[aB (nit b _ e),e]; simp
  ·by_cases hb:b=D
   ·subst hb; rw[aF]at e; cases e; exact new
   ·rw[aB hb]at e;refine(I.hok b u e).stay (λc v hc q=>q) (λc q=>?_) λc xs q=>?_
    ·rw[aB (nit c _ q)]; exact q
    ·rw[aB (nit c _ q)]; exact q
 exact key
def CY {scope:LJ}{cl:HN (IH×Ic)}{N:HN IH}{cap:HN (HY HZ)}{C:Ic}{s0:HV}{ex:HN Ic}(I:Inv X J Y H s)(ck:CompOk X scope cl N cap)(hs:s.heap.objs.size<=s0.heap.objs.size)(hC:s0.heap.objs.size<=C)
  (hk:∀b o,s.heap.get? b=ba o->s0.heap.get? b=ba o) (hex:∀b∈ex,(b≠C)/\(∀x c,X.env.cells.lookup x=ba c->c≠b)/\(∀o,X.base.get? b≠ba o)/\b∉qp X.stack) :
  (kM X scope cl C N s0 H ex).Ok where
 mod:=I.ok.mod
 kind:=ck.kind
 glob:=I.ok.glob
 blt:=I.ok.blt
 above:=hC
 inj:=λx y c h1 h2=>I.ok.inj x y c (ck.sub x c h1) (ck.sub y c h2)
 has:=λx h=>ck.has x h
 cab:=λx c h=>by cases h
 hd:=I.ok.hd
 frames:=I.ok.frames
 stk:=.inl rfl
 exf:=λb hb=>#[(hex b hb).1,λx c h=>(hex b hb).2.1 x c (ck.sub x c h)]
 bs:=λb o e=>#[hk b o (I.bk b o e),(I.bs b o e).2]
 bsz:=IL (IL I.ok.bsz I.sz) hs
 noex:=λb o e hb=>(hex b hb).2.2.1 o e
 exfs:=λb hb=>(hex b hb).2.2.2
 funs:=I.stack.of_keeps λb o e _=>#[o,hk b o e,rfl]
 frf:=I.stkFree
structure BlockOk (X:Cx)(scope:LJ)(cl:HN (IH×Ic))(N:HN IH)(tg elt:IJ)(ifs:HN IJ)(g:FG)(c:FT)(f:FE):Prop where
 tgt:∀C s0 H0 ex,GG (kM X scope cl C N s0 H0 ex) tg g
 tst:∀C s0 H0 ex J s Y H Q,Inv (kM X scope cl C N s0 H0 ex) J Y H s->tT (kM X scope cl C N s0 H0 ex) c Y H Q->
  wpAny (model X.prog X.w) X.A (forIn ifs true λc r=>if r=true then do let ok <- isTrue c (compEnvC scope cl C X.env) (eval c (compEnvC scope cl C X.env)); pure (Kr ok)else pure (Kr r)) (TP (kM X scope cl C N s0 H0 ex) J Y Q) (λ_ _=>JR) s
 elt:∀C s0 H0 ex,GE (kM X scope cl C N s0 H0 ex) elt f
def mY {prog:IZ}{w:Jg}{B:Jd}{s:HV}{E:HS->HV->Prop}{Q:HS->HV->Prop}{D:Ic}{its:HN HS}{n:HZ}{u:HS}(e:s.heap.get? D=ba { cls:=.type "list",data:=.seq its.toArray n })(hz:its.length < sizeLine)
  (h:∀h' n',h'.get? D=ba { cls:=.type "list",data:=.seq (its++[u]).toArray n' }->(∀b o,b≠D->s.heap.get? b=ba o->h'.get? b=ba o)->Q .none { s with heap:=h' }) :
  wpAny (model prog w) B (call (.builtin "list.append") [.ref D,u]) Q E s:=by
 refine Nf F.slot_list_append #[_,e,rfl] F.entry_list_append (F.args_list_append_2 _ _) (Pl D its.toArray n u (by rw[Iu]; omega)) #[e,?_]
 have q:=PQ e (λa=>a.push u)
 have e2:its.toArray.push u=(its++[u]).toArray:=by simp
 rw[e2]at q;exact h _ _ q (λb o hb ho=>(Jl s.heap (JZ λa=>a.push u) (Ne.symm hb)).trans ho)
def lK {scope:LJ}{cl:HN (IH×Ic)}{N:HN IH}{cap:HN (HY HZ)}{tg elt iter:IJ}{ifs:HN IJ}{g:FG}{c:FT}{f:FE}{pos:KW}{A:HN Ic}{Z:Fm}{S S':aa}{mi:MI}{n:HZ}{ws:HN W}{E:HS->HV->Prop}
  {it:Ic} {fp:HN Ic} {tn:HZ->Jk->Prop} {td:It} {RR:HS->Ic->PL->HV->Prop}
  (I:Inv X J Y H s) (hc:X.calm=true) (er:EnvRel X.K A H Z Y) (so:StoreOk X.w X.K A H S) (ck:CompOk X scope cl N cap) (bk:BlockOk X scope cl N tg elt ifs g c f)
  (T:Turn X.prog X.w X.K tg td fp it tn) (t0:tn 0 s.heap) (hfp:∀b∈fp,gq X J H b) (mit:MIt X.w X.K mi td A H) (e:bn mi g c f n 0 (eh cap Z) S=ba (ws,S')) (hz:ws.length<=sizeLine)
  (fin:∀D C s' H' A' vs m,s'.heap.Ns C m->H' D=gV->D≠C->C≠X.env.locals->C∉X.fs->H' C=gV->X.s₀.heap.objs.size<=C->(∀x c,X.env.cells.lookup x=ba c->c≠C)->(∀p∈X.pn++J,p.1≠C)->
   Inv X J Y (bh H' D (.lst vs)) s'->Ext X.K A H A' H'->StoreOk X.w X.K A' H' S'->RelL X.K A' H' ws vs->RR (.ref D) C (.ok .next) s') :
  wpAny (model X.prog X.w) X.A (newList []) (λacc s₃=>wpAny (model X.prog X.w) X.A (newFunctionEnv scope X.env.globals cl [] X.env.qual gV .none (ba X.env)) (λcenv s₄=>
   codeAny (model X.prog X.w) X.A (.compStart (.ListComp elt [#[tg,iter,ifs,0]] scope pos) 0 (.ref it) acc { cenv with scope:=relabel scope X.env }) (RR acc cenv.locals) s₄) E s₃) E s:=by
 refine Ji (wpAny_newFunctionEnv ck.nocell (by intro y hy; simp at hy) (λh₁ hns₁ hsb₁=>?_) ck.kind)
 dsimp only at hns₁ hsb₁ ⊢;generalize hH2:s.heap.push { cls:=.type "list",dict:=gV,data:=.seq ([]:HN HS).toArray }=h2 at hns₁ hsb₁ ⊢;have hCs:h2.objs.size=s.heap.objs.size+1:=by rw[<- hH2,J2]
 have k2:∀b o,s.heap.get? b=ba o->h2.get? b=ba o:=λb o z=>hH2 ▸ HR _ z
 have lt2:∀b o,h2.get? b=ba o->b < h2.objs.size:=λb o z=>Iv z
 have k1:∀b o,h2.get? b=ba o->h₁.get? b=ba o:=λb o z=>hsb₁.extBut b o (IA (lt2 b o z)) (HR _ z)
 have hD2:h2.get? s.heap.objs.size=ba { cls:=.type "list",data:=.seq ([]:HN HS).toArray }:=hH2 ▸ Im _ rfl;have hDC:s.heap.objs.size≠h2.objs.size:=by rw[hCs]; omega
 have fresh:∀a,s.heap.objs.size<=a->H a=gV:=λa ha=>I.hok.fresh ha
 have cellLt:∀x c,X.env.cells.lookup x=ba c->c < s.heap.objs.size:=λx c z=>let ⟨_,q⟩:=I.cell x c z; q.lt
 have fpLt:∀b∈fp,b < s.heap.objs.size:=λb hb=>let ⟨_,q,_⟩:=T.obj 0 s.heap t0 b hb; Iv q
 have stkLt:∀b∈qp X.stack,b < s.heap.objs.size:=λb hb=>let ⟨_,o,q,_⟩:=I.stack.mem hb; Iv q
 have baseLt:∀b o,X.base.get? b=ba o->b < s.heap.objs.size:=λb o z=>Iv (I.bk b o z)
 have fpStk:∀b∈fp,b∉qp X.stack:=λb hb z=>by
  rcases IC.mp (I.stkSub b z)with q|q
  ·exact(hfp b hb).2.1 q
  ·exact(hfp b hb).2.2.1 q
 have fpBase:∀b∈fp,∀o,X.base.get? b≠ba o:=λb hb o z=>by
  rcases(hfp b hb).2.2.2.1 with q|q
  ·exact I.ok.noex b o z q
  ·exact absurd (IQ (Iv (I.ok.bs b o z).1) q) (J3 _)
 have ltC:∀ {b:Ic},b < s.heap.objs.size->b≠h2.objs.size:=λhb=>by rw[hCs]; exact IA (KA hb)
 let s3:HV:={ s with heap:=h2 }
 have ok':(kM X scope cl h2.objs.size N s3 H (fp++[s.heap.objs.size])).Ok:=by
  refine CY I ck (show s.heap.objs.size<=h2.objs.size by rw[hCs]; omega) (Ih _) k2 λb hb=>?_
  rcases IY.mp hb with hb|hb
  ·exact#[ltC (fpLt b hb),(hfp b hb).2.2.2.2.1,fpBase b hb,fpStk b hb]
  ·have eb:b=s.heap.objs.size:=by simpa using hb
   subst eb;exact#[hDC,λx c z=>IA (cellLt x c z),λo z=>J3 _ (baseLt _ o z),λz=>J3 _ (stkLt _ z)]
 obtain⟨m0,hn0,hl0⟩:=I.loc;have I0:Inv (kM X scope cl h2.objs.size N s3 H (fp++[s.heap.objs.size])) [] (cap.map λo=>match o with|some j=>(Y[j]?).join|none=>gV) H { s3 with heap:=h₁,toks:=s3.toks+([]:HN (IH×HS)).length }:=by
  refine#[ok',rfl,I.bare,Un.kept k1,#[_,hns₁,λi x v e1 e2 e3=>?_],λx cc z=>?_,fresh _ (show s.heap.objs.size<=h2.objs.size by rw[hCs]; exact Lf _),λx cc z=>I.freeC x cc (ck.sub x cc z),λp hp=>absurd hp (by simp[kM]),(I.hok.kept k2).kept k1,by rw[HQ]; exact ck.len]
  ·rw[Ii]at e2;cases q:cap[i]? with
   | none=>rw[q]at e2; cases e2
   | some oj=>
    rw[q]at e2;cases oj with
    | none=>cases e2
    | some j=>
     obtain⟨z1,z2,z3⟩:=ck.cap i j x q e1;have e2':(Y[j]?).join=ba v:=by simpa using e2
     have e2'':Y[j]?=ba (ba v):=by
      cases r:Y[j]? with
      | none=>rw[r]at e2'; cases e2'
      | some y=>rw[r]at e2'; exact congrArg ba e2'
     obtain⟨u,ru,lk⟩:=hl0 j x v z1 e2'' (by
      rcases z2 with z|z
      ·exact .inr (.inl z)
      ·exact .inr (.inr z))
     refine#[u,ru,?_];rcases lk with⟨zk,_⟩|⟨_,cc,zc,zi⟩
     ·rcases z2 with z|z <;> (rw[zk]at z; cases z)
     ·obtain⟨c2,hc2⟩:=ck.has x z3;have:=ck.sub x c2 hc2;rw[zc]at this; cases this
      refine .inr #[z3,cc,hc2,?_];obtain⟨o,ho,hd⟩:=zi;exact#[o,k1 _ _ (k2 _ _ ho),hd]
  ·obtain⟨v,o,ho,hd⟩:=I.cell x cc (ck.sub x cc z);exact#[v,o,k1 _ _ (k2 _ _ ho),hd]
 have er0:EnvRel X.K A H (eh cap Z) (cap.map λo=>match o with|some j=>(Y[j]?).join|none=>gV):=by
  refine#[by simp[eh],λi w q=>?_]
  unfold eh at q;rw[Ii]at q ⊢;cases r:cap[i]? with
  | none=>rw[r]at q; cases q
  | some oj=>
   rw[r]at q;cases oj with
   | none=>cases q
   | some j=>
    have q':(Z[j]?).join=ba w:=by simpa using q
    have q'':Z[j]?=ba (ba w):=by
     cases z:Z[j]? with
     | none=>rw[z]at q'; cases q'
     | some y=>rw[z]at q'; exact congrArg ba q'
    obtain⟨v,z1,z2⟩:=er.2 j w q'';exact#[v,by simp[z1],z2]
 have t1:tn 0 h₁:=T.keep 0 s.heap h₁ t0 λb hb o z=>k1 b o (k2 b o z)
 have fpOk':∀ {H':Hp} {pp:HN (Ic×Kb)},(∀b∈fp,H' b=gV)->(∀p∈pp,p.1=s.heap.objs.size)->∀b∈fp,gq (kM X scope cl h2.objs.size N s3 H (fp++[s.heap.objs.size])) pp H' b:=λhn hp b hb=>
  #[hn b hb,ltC (fpLt b hb),fpStk b hb,.inl (JN _ hb),λx cc z=>(hfp b hb).2.2.2.2.1 x cc (ck.sub x cc z),λp hpp=>by
   rw[hp p (by simpa [kM]using hpp)]
   exact(IA (fpLt b hb)).symm]
 have DinEx:s.heap.objs.size∈fp++[s.heap.objs.size]:=IU _ (by simp)
 have cellD:∀x c,cl.lookup x=ba c->c≠s.heap.objs.size:=λx cc z=>IA (cellLt x cc (ck.sub x cc z))
 have fpD:∀b∈fp,b≠s.heap.objs.size:=λb hb=>IA (fpLt b hb)
 have theEnd:∀s' Y' H' A' vs its nn,Inv (kM X scope cl h2.objs.size N s3 H (fp++[s.heap.objs.size])) [] Y' H' s'->s'.heap.get? s.heap.objs.size=ba { cls:=.type "list",data:=.seq its nn }->∀(hits:∃l:HN HS,its=l.toArray/\Vals vs l),H' s.heap.objs.size=gV->Ext X.K A H A' H'->StoreOk X.w X.K A' H' S'->RelL X.K A' H' ws vs->
   RR (.ref s.heap.objs.size) h2.objs.size (.ok .next) s':=by
  intro s' Y' H' A' vs its nn I' hD hits hDn ex so' rl;obtain⟨l,rfl,rv⟩:=hits;obtain⟨m,hn,_⟩:=id I'.loc;have un:Un (qp X.stack) (fp++[s.heap.objs.size]) H H' s.heap s'.heap:=(Un.kept k2).trans I'.base;have hch:∀b∈fp++[s.heap.objs.size],(b∈X.ex\/X.s₀.heap.objs.size<=b)/\b≠X.env.locals/\(∀x c,X.env.cells.lookup x=ba c->c≠b)/\∀p∈X.pn++J,p.1≠b:=λb hb=>by
   rcases IY.mp hb with hb|hb
   ·exact#[(hfp b hb).2.2.2.1,(hfp b hb).2.1,(hfp b hb).2.2.2.2.1,(hfp b hb).2.2.2.2.2]
   ·have eb:b=s.heap.objs.size:=by simpa using hb
    subst eb;exact#[.inr I.sz,(IA I.lt).symm,λx cc z=>IA (cellLt x cc z),λp hp=>IA (Iv (I.pin p hp).1)]
  have I2:Inv X J Y H' s':=I.call' (show s'.os=s.os from I'.os) un I'.hok I'.bare hch
  have I3:Inv X J Y (bh H' s.heap.objs.size (.lst vs)) s':=Inv.adopt I2 hDn (hch _ DinEx).1 (hch _ DinEx).2.1 (hch _ DinEx).2.2.1 (hch _ DinEx).2.2.2 #[by rw[<- rl.length]; exact hz,l,nn,rv,hD]
  have hCle:s.heap.objs.size<=h2.objs.size:=by rw[hCs]; exact Lf _
  exact fin _ _ s' H' A' vs m hn hDn hDC (JY (IQ I.lt hCle)) (I.nofs hCle) I'.free (IL I.sz hCle) (λx cc z=>IA (IQ (cellLt x cc z) hCle))
   (λp hp=>IA (IQ (Iv (I.pin p hp).1) hCle)) I3 ex so' rl
 have loop:∀s4:HV,s4={ s3 with heap:=h₁,toks:=s3.toks+([]:HN (IH×HS)).length }->
   codeAny (model X.prog X.w) X.A (.compLoop (.ListComp elt [#[tg,iter,ifs,0]] scope pos) 0 (.ref it) (.ref s.heap.objs.size) (compEnvC scope cl h2.objs.size X.env)) (RR (.ref s.heap.objs.size) h2.objs.size) s4:=by
  rintro s4 rfl;refine fY (λk s5=>∃i Y5 H5 A5 Z5 S5 done its nn vs ys,Inv (kM X scope cl h2.objs.size N s3 H (fp++[s.heap.objs.size])) [] Y5 H5 s5/\tn i s5.heap/\(∀b∈fp,H5 b=gV)/\s5.heap.get? s.heap.objs.size=ba { cls:=.type "list",data:=.seq (its:HN HS).toArray nn }/\H5 s.heap.objs.size=gV/\Vals vs its/\
   Ext X.K A H A5 H5/\EnvRel X.K A5 H5 Z5 Y5/\StoreOk X.w X.K A5 H5 S5/\RelL X.K A5 H5 done vs/\ws=done++ys/\bn mi g c f k i Z5 S5=ba (ys,S')) ?_ n
   #[0,_,H,A,_,S,[],[],0,[],ws,I0,t1,λb hb=>(hfp b hb).1,k1 _ _ hD2,fresh _ (Ih _),.nil,.refl,er0,so,.nil,rfl,e]
  rintro k s5 ⟨i,Y5,H5,A5,Z5,S5,done,its,nn,vs,ys,I5,t5,f5,d5,n5,v5,e5,er5,so5,rl5,hw5,w5⟩;have pinD:Inv (kM X scope cl h2.objs.size N s3 H (fp++[s.heap.objs.size])) [(s.heap.objs.size,{ cls:=.type "list",data:=.seq its.toArray nn })] Y5 H5 s5:=I5.pins_of λp hp=>by
   have hp':p=(s.heap.objs.size,{ cls:=.type "list",data:=.seq its.toArray nn }):=by simpa using hp
   subst hp';exact#[d5,n5,hDC,λz=>J3 _ (stkLt _ z),λv z=>by cases z]
  have oneD:∀p∈[(s.heap.objs.size,({ cls:=.type "list",data:=.seq its.toArray nn }:Kb))],p.1=s.heap.objs.size:=λp hp=>by
   have hp':p=(s.heap.objs.size,{ cls:=.type "list",data:=.seq its.toArray nn }):=by simpa using hp
   rw[hp']
  cases k with
  | zero=>
   dsimp only[bn]at w5;split at w5
   ·rename_i hst;cases w5;rw[JT]at hw5;subst hw5;refine bm (T.done (kM X scope cl h2.objs.size N s3 H (fp++[s.heap.objs.size])) rfl rfl rfl hc i _ s5 Y5 H5 _ pinD (fpOk' f5 oneD) t5 (mit.stop A5 H5 _ i e5 so5 hst)) λr s6 #[hr,I6]=>?_
    subst hr;have p6:=I6.pin _ (IU _ (Ik.mpr rfl));exact theEnd s6 Y5 H5 A5 vs _ nn (I6.pins_of λp hp=>absurd hp (by simp)) p6.1 #[its,rfl,v5] n5 e5 so5 rl5
   ·cases w5
  | succ k=>
   dsimp only[bn]at w5;split at w5
   ·rename_i w hw;obtain⟨go,yl⟩:=mit.go A5 H5 S5 i w e5 so5 hw;refine bm (T.item (kM X scope cl h2.objs.size N s3 H (fp++[s.heap.objs.size])) rfl rfl rfl hc i _ s5 Y5 H5 _ pinD (fpOk' f5 oneD) t5 go) λr s6 #[u,hr,h6]=>?_
    subst hr;refine bm h6 λ_ s7 #[x,H7,I7,r7,y7,t7,f7]=>?_
    obtain⟨x1,x2,x3⟩:=yl x H7 y7;have I7':=I7.pinned (fpOk' f7 oneD) (T.obj _ _ t7);split at w5
    ·rename_i Z8 S8 h8;refine bm (bk.tgt _ _ _ _ _ s7 Y5 H7 x u (λY' H'=>∃A',Ext X.K A5 H5 A' H'/\StoreOk X.w X.K A' H' S8/\EnvRel X.K A' H' Z8 Y') I7' r7 #[A5,Z5,S5,w,Z8,S8,er5.mono x1,x2,x3,h8,λY' H' A' q1 q2 q3=>#[A',x1.trans q1,q2,q3]]) λ_ s8 #[Y8,H8,I8,A8,e58,so8,er8]=>?_
     have e8:Ext X.K A H A8 H8:=e5.trans e58;have pD:∀ {Y':L2.St} {H':Hp} {s':HV},Inv (kM X scope cl h2.objs.size N s3 H (fp++[s.heap.objs.size])) ([(s.heap.objs.size,{ cls:=.type "list",data:=.seq its.toArray nn })]++iF fp s7.heap) Y' H' s'->s'.heap.get? s.heap.objs.size=ba { cls:=.type "list",data:=.seq its.toArray nn }/\H' s.heap.objs.size=gV:=λI'=>
      let q:=I'.pin _ (IU _ (JN _ (Ik.mpr rfl)))
      #[q.1,q.2.1]
     have pF:∀ {Y':L2.St} {H':Hp} {s':HV},Inv (kM X scope cl h2.objs.size N s3 H (fp++[s.heap.objs.size])) ([(s.heap.objs.size,{ cls:=.type "list",data:=.seq its.toArray nn })]++iF fp s7.heap) Y' H' s'->(∀b∈fp,H' b=gV)/\∀b∈fp,∀o,s7.heap.get? b=ba o->s'.heap.get? b=ba o:=λI'=>
      #[λb hb=>by
       obtain⟨o,eo,_⟩:=T.obj _ _ t7 b hb;exact(I'.pin (b,o) (IU _ (IU _ (eH hb eo)))).2.1,
       λb hb o eo=>(I'.pin (b,o) (IU _ (IU _ (eH hb eo)))).1]
     split at w5
     ·rename_i S9 h9;refine bm (bk.tst _ _ _ _ _ s8 Y8 H8 (λb H'=>b=true/\∃A',Ext X.K A8 H8 A' H'/\StoreOk X.w X.K A' H' S9) I8 #[A8,Z8,S8,true,S9,er8,so8,h9,λb H' #[z0,A',z1,z2]=>#[z0,A',z1,z2]]) λb s9 #[H9,I9,z0,A9,e9,so9]=>?_
      subst z0;rw[IF rfl];split at w5
      ·rename_i y S10 h10;split at w5
       ·rename_i ys' S4 h11;cases w5;refine bm (bk.elt _ _ _ _ _ s9 Y8 H9 (EndV X.w X.K A9 H9 S10 y) I9 #[A9,Z8,S9,y,S10,er8.mono e9,so9,h10,λ_ _ z=>z]) λu10 s10 #[v10,H10,I10,r10,A10,e10,so10,rl10]=>?_
        obtain⟨d10,n10⟩:=pD I10;obtain⟨f10,k10⟩:=pF I10;have hlen:its.length < sizeLine:=by
         have l1:=v5.length;have l2:=rl5.length;rw[hw5,Io,Ju]at hz;omega
        refine mY d10 hlen λh' n' hd' hk'=>?_
        have Ib:Inv (kM X scope cl h2.objs.size N s3 H (fp++[s.heap.objs.size])) [] Y8 H10 { s10 with heap:=h' }:=by
         have Ia:Inv (kM X scope cl h2.objs.size N s3 H (fp++[s.heap.objs.size])) [] Y8 H10 s10:=I10.pins_of λp hp=>absurd hp (by simp)
         exact Ia.turned (t':=s10.toks) (it:=s.heap.objs.size) hk' n10 hDC (.inl DinEx) cellD (λp hp=>absurd hp (by simp[kM]))
        refine#[k,J4 k,i+1,Y8,H10,A10,Z8,S10,done++[y],its++[u10],n',vs++[v10],ys',Ib,?_,f10,hd',n10,v5.append #v[r10],(e8.trans e9).trans e10,(er8.mono e9).mono e10,so10,?_,?_,h11]
        ·exact T.keep (i+1) s7.heap h' t7 λb hb o eo=>hk' b o (fpD b hb) (k10 b hb o eo)
        ·exact(rl5.mono ((e58.trans e9).trans e10)).append #v[rl10]
        ·rw[hw5,JO]; rfl
       ·cases w5
      ·cases w5
     ·rename_i S9 h9;refine bm (bk.tst _ _ _ _ _ s8 Y8 H8 (λb H'=>b=false/\∃A',Ext X.K A8 H8 A' H'/\StoreOk X.w X.K A' H' S9) I8 #[A8,Z8,S8,false,S9,er8,so8,h9,λb H' #[z0,A',z1,z2]=>#[z0,A',z1,z2]]) λb s9 #[H9,I9,z0,A9,e9,so9]=>?_
      subst z0;rw[IP IE];obtain⟨d9,n9⟩:=pD I9;obtain⟨f9,k9⟩:=pF I9;refine#[k,J4 k,i+1,Y8,H9,A9,Z8,S9,done,its,nn,vs,ys,I9.pins_of λp hp=>absurd hp (by simp),T.keep (i+1) s7.heap _ t7 k9,f9,d9,n9,v5,e8.trans e9,er8.mono e9,so9,rl5.mono (e58.trans e9),hw5,w5]
     ·cases w5
    ·cases w5
   ·cases w5
 exact codeAny_compStart_list (loop _ rfl) (T.self X.A 0 _ _ _ t1 (loop _ rfl))
def o8 {fi:FI}{g:FG}{c:FT}{f:FE}{cap:HN (HY HZ)}{Z:Fm}{S:aa}{w:W}{S':aa}(e:j5 fi g c f cap Z S=ba (w,S')) :
  ∃mi S1 n ys S2,fi Z S=ba (mi,S1)/\mi.len S1=ba n/\bn mi g c f n 0 (eh cap Z) S1=ba (ys,S2)/\ys.length<=sizeLine/\w=.ref S2.length/\S'=S2++[.lst ys]:=by
 unfold j5 at e;split at e
 ·rename_i mi S1 h1;split at e
  ·rename_i n h2;split at e
   ·rename_i ys S2 h3;obtain⟨h4,h5,h6⟩:=jp e;exact#[mi,S1,n,ys,S2,h1,h2,h3,h4,h5,h6]
   ·cases e
  ·cases e
 ·cases e
def Ao {scope:LJ}{N:HN IH}{cap:HN (HY HZ)}{tg elt iter:IJ}{ifs:HN IJ}{fi:FI}{g:FG}{c:FT}{f:FE}{pos:KW}(hc:X.calm=true)(hi:GI X tg iter fi)(hck:X.Ok->∃cl,CompOk X scope cl N cap/\BlockOk X scope cl N tg elt ifs g c f)
  (hs:∀x,foldedSetIterable iter X.env x=pure x):GE X (.ListComp elt [#[tg,iter,ifs,0]] scope pos) (j5 fi g c f cap):=by
 intro J s Y H Q I ⟨A,Z,S,w,S',er,so,e,hq⟩;obtain⟨mi,S1,n,ys,S2,h1,h2,h3,h4,rfl,rfl⟩:=o8 e;obtain⟨cl,ck,bk⟩:=hck I.ok;rw[eval_ListComp];refine NN (use:=gV) rfl hs ck.clos ck.kind ck.names (bm (hi J s Y H (λtd H'=>∃A',Ext X.K A H A' H'/\StoreOk X.w X.K A' H' S1/\MIt X.w X.K mi td A' H') I #[A,Z,S,mi,S1,er,so,h1,λtd H' A' z1 z2 z3=>#[A',z1,z2,z3]]) λv s1 q1=>bm q1 λitv s2 q2=>?_)
 obtain⟨it,fp,tn,td,H2,rfl,I2,T,t0,hfp,A2,e2,so2,mit⟩:=q2;refine lK (RR:=λacc C=>compPost (model X.prog X.w) X.A X.xe gV (EP X J Y Q) acc C) I2 hc (er.mono e2) so2 ck bk T t0 hfp mit h3 h4 ?_
 intro D C s' H' A' vs m hn hDn hDC hCL hCf hCn hCs hCc hCp I3 ex so3 rl;refine#[m,hn,λh' hs'=>?_]
 have I4:Inv X J Y (bh H' D (.lst vs)) { s' with heap:=h' }:=I3.turned (t':=s'.toks) (it:=C) (λb o hb eo=>hs'.extBut b o hb eo) (by rw[aB (Ne.symm hDC)]; exact hCn) hCL (.inr hCs) hCc hCp
 exact#[.ref D,_,I4,rfl,hq _ _ (EndV.after (e2.trans ex) (.lst so3 rl hDn))]
def rc {scope:LJ}{N:HN IH}{cap:HN (HY HZ)}{tg elt iter:IJ}{ifs:HN IJ}{fi:FI}{g:FG}{c:FT}{f:FE}{pos py spos:KW}{y:IH}{i:HZ}(hc:X.calm=true)(hi:GI X tg iter fi)(hck:X.Ok->∃cl,CompOk X scope cl N cap/\BlockOk X scope cl N tg elt ifs g c f)
  (hs:∀x,foldedSetIterable iter X.env x=pure x) (hsw:swapsWith (.ListComp elt [#[tg,iter,ifs,0]] scope pos) (ba (.Name y py)) spos.line X.env=pure true) (hN:X.N.Nodup) (hy:X.N[i]?=ba y) (hl:X.env.scope.names.lookup y=ba .local) :
  GS X (.Assign [.Name y py] (.ListComp elt [#[tg,iter,ifs,0]] scope pos) spos) (j3 (j5 fi g c f cap) (z9 i)):=by
 intro J s Y H Dd I ⟨A,Z,S,o,S',er,so,e,hd⟩;unfold j3 at e;split at e
 ·rename_i w S0 h0;simp only[z9]at e;cases e;obtain⟨mi,S1,n,ys,S2,h1,h2,h3,h4,rfl,rfl⟩:=o8 h0;obtain⟨cl,ck,bk⟩:=hck I.ok;rw[exec_Assign_Name_used _ _ _ _ hsw];refine HP (MM (HP ?_));show wpAny _ X.A (do let _ <- comprehension (.ListComp elt [⟨tg,iter,ifs,0⟩] scope pos) scope X.env _ (newList []) false (eval iter X.env) (ba (assign (.Name y py) X.env))) _ _ s
  refine HP (Ks (NN (use:=ba (assign (.Name y py) X.env)) (Q:=λ_ s'=>SP X J Dd .next s') rfl hs ck.clos ck.kind ck.names
   (bm (hi J s Y H (λtd H'=>∃A',Ext X.K A H A' H'/\StoreOk X.w X.K A' H' S1/\MIt X.w X.K mi td A' H') I #[A,Z,S,mi,S1,er,so,h1,λtd H' A' z1 z2 z3=>#[A',z1,z2,z3]]) λv s1 q1=>bm q1 λitv s2 q2=>?_)) (λ_ s' hq=>HW (HW hq)) λ_ _ e=>e)
  obtain⟨it,fp,tn,td,H2,rfl,I2,T,t0,hfp,A2,e2,so2,mit⟩:=q2;refine lK (RR:=λacc C=>compPost (model X.prog X.w) X.A X.xe (ba (assign (.Name y py) X.env)) (λ_ s'=>SP X J Dd .next s') acc C) I2 hc (er.mono e2) so2 ck bk T t0 hfp mit h3 h4 ?_
  intro D C s' H' A' vs m hn hDn hDC hCL hCf hCn hCs hCc hCp I3 ex so3 rl;obtain⟨oC,esC,epC,hoC,hdC,hrC⟩:=id hn;have I3':Inv X (J++[(C,oC)]) Y (bh H' D (.lst vs)) s':=I3.pins_of λp hp=>by
   rcases IY.mp hp with hp|hp
   ·exact I3.pin p (IU _ hp)
   ·have hp':p=(C,oC):=by simpa using hp
    subst hp';exact#[hoC,by rw[aB (Ne.symm hDC)]; exact hCn,hCL,hCf,λv z=>by rw[hdC]at z; cases z]
  show wpAny _ X.A (assign (.Name y py) X.env (.ref D)) _ _ _;refine Pe (gJ I3' hN hy (.inl hl) (v:=.ref D) rfl (λs4 I4=>?_) (.inr hl))
  have pC:=I4.pin (C,oC) (IU _ (IU _ (Ik.mpr rfl)));refine#[m,#[oC,esC,epC,pC.1,hdC,hrC],λh' hs'=>?_]
  have I5:Inv X J (Y.set i (ba (.ref D))) (bh H' D (.lst vs)) s4:=I4.pins_of λp hp=>I4.pin p (IU _ (JN _ hp))
  have I6:Inv X J (Y.set i (ba (.ref D))) (bh H' D (.lst vs)) { s4 with heap:=h' }:=I5.turned (t':=s4.toks) (it:=C) (λb o hb eo=>hs'.extBut b o hb eo) (by rw[aB (Ne.symm hDC)]; exact hCn) hCL (.inr hCs) hCc hCp
  obtain⟨Af,f1,f2,f3⟩:=EndV.after (e2.trans ex) (EndV.lst so3 rl hDn);exact#[_,_,I6,hd.nx _ _ #[_,Af,rfl,f1,f2,(er.mono f1).set f3 i]]
 ·cases e
end
open PySem.Builtin.SmallTypes (nextOf)
structure Zap (z p q i j:Ic):Prop where
 pz:p≠z
 qz:q≠z
 iz:i≠z
 jz:j≠z
 pq:p≠q
 pi:p≠i
 pj:p≠j
 qi:q≠i
 qj:q≠j
 ij:i≠j
section
variable{prog:IZ}{w:Jg}
structure Zit (prog:IZ)(w:Jg)(it:Ic)(T:HZ->Jk->Prop)(C:Jk->Prop)(i:HZ)(Uq:HY (HS->Prop)):Prop where
 keep:∀j h h',T j h->(∀o,h.get? it=ba o->h'.get? it=ba o)->T j h'
 next:∀V,Uq=ba V->∀(B:Jd) (s:HV) (Q:HS->HV->Prop) (E:HS->HV->Prop),T i s.heap->C s.heap->(∀u h' tk,V u->T (i+1) h'->Kn it s.heap h'->Q u { s with heap:=h',toks:=tk })->wpAny (model prog w) B (nextOf (.ref it)) Q E s
 stop:Uq=gV->∀(B:Jd) (s:HV) (Q:HS->HV->Prop) (E:HS->HV->Prop),B.handled=gV->T i s.heap->C s.heap->(∀h' e,Ou it s.heap h'->(∃o,h'.get? e=ba o/\o.cls=.type "StopIteration")->E (.ref e) { s with heap:=h' })->wpAny (model prog w) B (nextOf (.ref it)) Q E s
variable{B:Jd}{E:HS->HV->Prop}{s:HV}{z p q i1 i2:Ic}{T1 T2:HZ->Jk->Prop}{C1 C2:Jk->Prop}{i:HZ}{a b:HS}
abbrev Zc (z q i1 i2:Ic)(C:Jk->Prop):Prop:=∀h h',C h->(∀c o,c≠z->c≠q->c≠i1->c≠i2->h.get? c=ba o->h'.get? c=ba o)->C h'
def j6 {U1 U2:HY (HS->Prop)}{Q:HS->HV->Prop}(D:Zap z p q i1 i2)(Zz:Zit prog w i1 T1 C1 i U1)(Z2':∀V1,U1=ba V1->Zit prog w i2 T2 C2 i U2)(k1:Zc z q i1 i2 C1)(k2:Zc z q i1 i2 C2)(hh:B.handled=gV)
  (hz:OU s.heap z p q .none) (hp:ML s.heap p (.ref i1) (.ref i2)) (hq:ML s.heap q a b) (t1:T1 i s.heap) (t2:T2 i s.heap) (c1:C1 s.heap) (c2:C2 s.heap)
  (hI:∀V1 V2,U1=ba V1->U2=ba V2->∀u v h' tk,V1 u->V2 v->OU h' z p q (rawInt s.heap.objs.size)->ML h' q u v->T1 (i+1) h'->T2 (i+1) h'->ML h' s.heap.objs.size u v->
   (∀c o,c≠z->c≠q->c≠i1->c≠i2->s.heap.get? c=ba o->h'.get? c=ba o)->Q (.ref s.heap.objs.size) { s with heap:=h',toks:=tk })
  (hE:U1=gV\/U2=gV->∀h' tk e,(∀c o,c≠z->c≠q->c≠i1->c≠i2->s.heap.get? c=ba o->h'.get? c=ba o)->(∃o,h'.get? e=ba o/\o.cls=.type "StopIteration")->E (.ref e) { s with heap:=h',toks:=tk }) :
  wpAny (model prog w) B (Lg.«zip.__next__» #[[.ref z],[]]) (λfin s'=>∃v,fin=.done (.ret v)/\Q v s') E s:=by
 show wpAny _ _ (field (.ref z) 2 >>= _) _ _ s;refine HP (Ke hz rfl (x:=.bool false) rfl ?_);show wpAny _ _ (field (.ref z) 3 >>= _) _ _ s;refine HP (Ke hz rfl (x:=.ref p) rfl (HP (J1 hp rfl ?_)));show wpAny _ _ (Km (.ref z) >>= _) _ _ s;unfold Km;refine HP (HP (Ke hz rfl (x:=.none) rfl (HW ?_)));simp only[Kd];refine HP (Na (HP (Ke hz rfl (x:=.ref q) rfl ?_)));refine HP (K1 hz (by simp) λg1 zz1 s1=>?_)
 replace zz1:OU g1 z p q .ellipsis:=zz1;refine HP ?_;simp only[List.zipIdx_cons,List.zipIdx_nil,MY,Ox];refine HP (HP (Q1 ?_));show wpAny _ _ (nextOf (.ref i1) >>= _) _ _ _;have up1:∀c o,c≠z->s.heap.get? c=ba o->g1.get? c=ba o:=λc o hc e=>s1.extBut c o hc e
 have t1':T1 i g1:=Zz.keep _ _ _ t1 λo e=>up1 _ _ D.iz e
 have c1':C1 g1:=k1 _ _ c1 λc o hc _ _ _ e=>up1 c o hc e
 have fin:∀(g:Jk) (tk:HZ) (it e:Ic),(it=i1\/it=i2)->U1=gV\/U2=gV->OU g z p q .ellipsis->(∀c o,c≠z->c≠q->c≠i1->c≠i2->s.heap.get? c=ba o->g.get? c=ba o)->(∃o,g.get? e=ba o/\o.cls=.type "StopIteration")->
   wpAny (model prog w) B (setField (.ref z) 0 .none) (λ_ s''=>E (.ref e) s'') E { s with heap:=g,toks:=tk }:=λg tk it e _ hu gz kg #[oe,he,hc]=>by
  have ne:e≠z:=λx=>by subst x; rw[gz]at he; cases he; simp at hc
  exact K1 gz (by simp) λg' _ sb=>hE hu g' tk e (λc o a1 a2 a3 a4 x=>sb.extBut _ _ a1 (kg c o a1 a2 a3 a4 x)) #[oe,sb.extBut _ _ ne he,hc]
 cases hu1:U1 with
 | none=>
  refine HP (Zz.stop hu1 _ _ _ _ hh t1' c1' λg2 e eb he=>?_)
  exact fin g2 s.toks i1 e (.inl rfl) (.inl hu1) (eb _ _ D.iz.symm zz1) (λc o a1 _ a3 _ x=>eb _ _ a3 (up1 c o a1 x)) he
 | some V1=>
  have Zq:=Z2' V1 hu1;refine HP (Zz.next V1 hu1 _ _ _ _ t1' c1' λu g2 tk2 hu t12 s2=>HW ?_)
  have q2:ML g2 q a b:=s2.extBut _ _ D.qi (up1 _ _ D.qz hq);refine HP (J1 q2 rfl (HP (Oz q2 λg3 q3 s3=>?_)))
  replace q3:ML g3 q u b:=q3;refine HP (LV (HW ?_));refine HP (HP (Q1 ?_));show wpAny _ _ (nextOf (.ref i2) >>= _) _ _ _;have up3:∀c o,c≠z->c≠q->c≠i1->s.heap.get? c=ba o->g3.get? c=ba o:=λc o a1 a2 a3 x=>s3.extBut _ _ a2 (s2.extBut _ _ a3 (up1 c o a1 x))
  have zz3:OU g3 z p q .ellipsis:=s3.extBut _ _ D.qz.symm (s2.extBut _ _ D.iz.symm zz1);have t2':T2 i g3:=Zq.keep _ _ _ t2 λo e=>up3 _ _ D.jz D.qj.symm D.ij.symm e
  have c2':C2 g3:=k2 _ _ c2 λc o a1 a2 a3 _ e=>up3 c o a1 a2 a3 e
  cases hu2:U2 with
  | none=>
   refine HP (Zq.stop hu2 _ _ _ _ hh t2' c2' λg4 e eb he=>?_)
   exact fin g4 tk2 i2 e (.inr rfl) (.inr hu2) (eb _ _ D.jz.symm zz3) (λc o a1 a2 a3 a4 x=>eb _ _ a4 (up3 c o a1 a2 a3 x)) he
  | some V2=>
   refine HP (Zq.next V2 hu2 _ _ _ _ t2' c2' λv g4 tk4 hv t24 s4=>HW ?_)
   have q4:ML g4 q u b:=s4.extBut _ _ D.qj q3;refine HP (J1 q4 rfl (HP (Oz q4 λg5 q5 s5=>?_)))
   replace q5:ML g5 q u v:=q5;refine HP (LV (HW (HW ?_)));refine HP (J1 q5 rfl (HP (Nj ?_)));have sz:g5.objs.size=s.heap.objs.size:=by rw[s5.1,s4.1,s3.1,s2.1,s1.1]
   have zz5:OU g5 z p q .ellipsis:=s5.extBut _ _ D.qz.symm (s4.extBut _ _ D.jz.symm zz3);have t15:T1 (i+1) g5:=Zz.keep _ _ _ t12 λo e=>s5.extBut _ _ D.qi.symm (s4.extBut _ _ D.ij (s3.extBut _ _ D.qi.symm e))
   have t25:T2 (i+1) g5:=Zq.keep _ _ _ t24 λo e=>s5.extBut _ _ D.qj.symm e
   have zlt:z < g5.objs.size:=Iv zz5;show wpAny _ _ (KR (.ref z) (.ref g5.objs.size) >>= _) _ _ _;refine HP ?_;unfold KR;have zz6:OU (g5.push { cls:=.type "tuple",data:=.seq [u,v].toArray }) z p q .ellipsis:=HR _ zz5;refine HP (K1 zz6 (by simp) λg7 zz7 s7=>?_)
   replace zz7:OU g7 z p q (rawInt g5.objs.size):=zz7;refine K1 zz7 (by simp) λg8 zz8 s8=>?_
   replace zz8:OU g8 z p q (rawInt g5.objs.size):=zz8;have up8:∀c o,c≠z->g5.get? c=ba o->g8.get? c=ba o:=λc o hc e=>s8.extBut _ _ hc (s7.extBut _ _ hc (HR _ e))
   have n8:ML g8 g5.objs.size u v:=s8.extBut _ _ (JY zlt) (s7.extBut _ _ (JY zlt) (Im _ rfl));rw[sz]at zz8 n8;refine HW #[_,rfl,?_];show Q (.ref g5.objs.size) _;rw[sz];exact hI V1 V2 hu1 hu2 u v g8 tk4 hu hv zz8 (up8 _ _ D.qz q5) (Zz.keep _ _ _ t15 λo e=>up8 _ _ D.iz e) (Zq.keep _ _ _ t25 λo e=>up8 _ _ D.jz e) n8 λc o a1 a2 a3 a4 e=>up8 c o a1 (s5.extBut _ _ a2 (s4.extBut _ _ a4 (up3 c o a1 a2 a3 e)))
end
end Mi
namespace Mi
open PySem PySem.Spec PyProof.Rows L2
open PySem.Builtin.SmallTypes (nextOf)
abbrev en (prog:IZ)(w:Jg)(v:HS)(o:Kb)(C:Jk->Prop):Prop:=∀(B:Jd) (s:HV) (Q:HS->HV->Prop) (E:HS->HV->Prop),C s.heap->Q (.ref s.heap.objs.size) { s with heap:=s.heap.push o }->wpAny (model prog w) B (pyIter v) Q E s
abbrev EH (h:Jk)(o1 o2:Kb):Jk:=(h.push o1).push o2
abbrev EI (h:Jk)(o1 o2:Kb):Jk:=(EH h o1 o2).push { cls:=.type "tuple",data:=.seq [.ref h.objs.size,.ref (h.push o1).objs.size].toArray }
abbrev EJ (h:Jk)(o1 o2:Kb):Jk:=(EI h o1 o2).push { cls:=.type "tuple",data:=.seq [.none,.none].toArray }
abbrev Bp (h:Jk)(o1 o2:Kb):Jk:=(EJ h o1 o2).push { cls:=.type "zip",data:=.fields [.none,.bool false,.bool false,.ref (EH h o1 o2).objs.size,.ref (EI h o1 o2).objs.size].toArray }
section
variable{prog:IZ}{w:Jg}{B:Jd}{E:HS->HV->Prop}{s:HV}{v1 v2:HS}{o1 o2:Kb}{C1 C2:Jk->Prop}
def re (h1:en prog w v1 o1 C1)(h2:en prog w v2 o2 C2)(k2:∀h o,C2 h->C2 (h.push o)) :
  MeetsIn prog w (Lg.«zip.__new__» #[[.type "zip",v1,v2],[]]) (λ_ R s=>C1 s.heap/\C2 s.heap/\R (.ok (.ret (.ref (EJ s.heap o1 o2).objs.size))) { s with heap:=Bp s.heap o1 o2 }):=
 .of_wp λA R s h=>by
  obtain⟨hp,g,d,tk,os⟩:=s;obtain⟨c1,c2,h⟩:=h;have hsub:=sub_zip;have d1:∀(B:Jd) (Q:HS->HV->Prop) (E:HS->HV->Prop),Q (.ref hp.objs.size) #[hp.push o1,g,d,tk,os]->wpAny (model prog w) B (pyIter v1) Q E #[hp,g,d,tk,os]:=λB Q E q=>h1 B #[hp,g,d,tk,os] Q E c1 q
  have d2:∀(B:Jd) (Q:HS->HV->Prop) (E:HS->HV->Prop),Q (.ref (hp.push o1).objs.size) #[(hp.push o1).push o2,g,d,tk,os]->wpAny (model prog w) B (pyIter v2) Q E #[hp.push o1,g,d,tk,os]:=λB Q E q=>h2 B #[hp.push o1,g,d,tk,os] Q E (k2 _ _ c2) q
  wp_walk using d1 _ _ _,d2 _ _ _
  exact#[_,rfl,h]
def xg {Q:HS->HV->Prop}(h1:en prog w v1 o1 C1)(h2:en prog w v2 o2 C2)(k2:∀h o,C2 h->C2 (h.push o))(c1:C1 s.heap)(c2:C2 s.heap)(n1:o1.isFreed=false)(n2:o2.isFreed=false)
  (h:∀h',OU h' (s.heap.objs.size+4) (s.heap.objs.size+2) (s.heap.objs.size+3) .none->ML h' (s.heap.objs.size+2) (.ref s.heap.objs.size) (.ref (s.heap.objs.size+1))->ML h' (s.heap.objs.size+3) .none .none->
   h'.get? s.heap.objs.size=ba o1->h'.get? (s.heap.objs.size+1)=ba o2->h'.objs.size=s.heap.objs.size+5->(∀c o,s.heap.get? c=ba o->h'.get? c=ba o)->Q (.ref (s.heap.objs.size+4)) { s with heap:=h' }) :
  wpAny (model prog w) B (call (.type "zip") [v1,v2]) Q E s:=by
 refine QG F.called_zip #v[] (F.typeCall_zip_2 _ _) (F.newCall_zip_2 _ _) (λobj=>F.args_object_init_3 obj _ _) F.entry_zip_new (re h1 h2 k2) #[c1,c2,?_]
 have e1:(s.heap.push o1).objs.size=s.heap.objs.size+1:=J2 ..;have e2:(EH s.heap o1 o2).objs.size=s.heap.objs.size+2:=by unfold EH; rw[J2,e1]
 have e3:(EI s.heap o1 o2).objs.size=s.heap.objs.size+3:=by unfold EI; rw[J2,e2]
 have e4:(EJ s.heap o1 o2).objs.size=s.heap.objs.size+4:=by unfold EJ; rw[J2,e3]
 have e5:(Bp s.heap o1 o2).objs.size=s.heap.objs.size+5:=by unfold Bp; rw[J2,e4]
 have g5:(Bp s.heap o1 o2).get? (EJ s.heap o1 o2).objs.size=ba _:=Im _ rfl;have g4:(Bp s.heap o1 o2).get? (EI s.heap o1 o2).objs.size=ba _:=HR _ (Im _ rfl);have g3:(Bp s.heap o1 o2).get? (EH s.heap o1 o2).objs.size=ba _:=HR _ (HR _ (Im _ rfl));have g2:(Bp s.heap o1 o2).get? (s.heap.push o1).objs.size=ba o2:=HR _ (HR _ (HR _ (Im _ n2)));have g1:(Bp s.heap o1 o2).get? s.heap.objs.size=ba o1:=HR _ (HR _ (HR _ (HR _ (Im _ n1))));rw[e2,e3,e4]at g5;rw[e1,e2]at g3;rw[e3]at g4;rw[e1]at g2;show _/\_;rw[e4];exact#[#[_,g5,rfl],h _ g5 g3 g4 g1 g2 e5 λc o x=>HR _ (HR _ (HR _ (HR _ (HR _ x))))]
end
end Mi
namespace Mi
open PySem PySem.Spec PyProof.Rows L2
open PySem.Builtin.SmallTypes (nextOf)
section
variable{prog:IZ}{w:Jg}{A:Jd}{E:HS->HV->Prop}{s:HV}
def EK {it t:Ic}{i:HZ}{items:IM HS}{x:HS}{Q:HS->HV->Prop}(hit:s.heap.IsTupleIter it t i)(ht:s.heap.IsTuple t items)(hx:items[i]?=ba x)
  (hQ:∀h',h'.IsTupleIter it t (i+1)->Kn it s.heap h'->Q x { s with heap:=h' }):wpAny (model prog w) A (nextOf (.ref it)) Q E s:=by
 obtain⟨o,ho,hc,hd⟩:=id hit;obtain⟨ot,hot,_,nt,hdt⟩:=ht;unfold Nz;refine HP (Jt (name:=Ko "__next__") hit.typeIs F.slot_tuple_iterator_next (Jx F.slot_tuple_iterator_next hit.typeIs F.entry_tuple_iterator_next ?_ (F.args_tuple_iterator_next_1 _)));show wpAny _ _ (field (.ref it) 0 >>= _) _ _ s;refine HP (Ke ho hd (x:=.ref t) rfl ?_);show wpAny _ _ (if (Jb t==Jn)=true then _ else _) _ _ s
 rw[IP (show ¬ ((Jb t==Jn)=true)from IE)]
 show wpAny _ _ (field (.ref it) 1 >>= _) _ _ s;refine HP (Ke ho hd (x:=.int i 0) rfl (HP (J1 hot hdt ?_)));simp only[IB,hx];refine HP (No ho hd (by simp) (HW #[x,rfl,HW (hQ _ #[_,J6 _ ho (Oj (Mp hd _)),(Pw ..).trans hc,?_] (Lo ..))]))
 rw[Mp hd]; simp[rawInt]
def EM {it t:Ic}{i:HZ}{items:IM HS}{Q:HS->HV->Prop}(hh:A.handled=gV)(hit:s.heap.IsTupleIter it t i)(ht:s.heap.IsTuple t items)(hx:items[i]?=gV)
  (hE:∀h' e,Ou it s.heap h'->(∃o,h'.get? e=ba o/\o.cls=.type "StopIteration")->E (.ref e) { s with heap:=h' }):wpAny (model prog w) A (nextOf (.ref it)) Q E s:=by
 obtain⟨o,ho,hc,hd⟩:=id hit;obtain⟨ot,hot,_,nt,hdt⟩:=ht;unfold Nz;refine HP (Jt (name:=Ko "__next__") hit.typeIs F.slot_tuple_iterator_next (Jx F.slot_tuple_iterator_next hit.typeIs F.entry_tuple_iterator_next ?_ (F.args_tuple_iterator_next_1 _)));show wpAny _ _ (field (.ref it) 0 >>= _) _ _ s;refine HP (Ke ho hd (x:=.ref t) rfl ?_);show wpAny _ _ (if (Jb t==Jn)=true then _ else _) _ _ s
 rw[IP (show ¬ ((Jb t==Jn)=true)from IE)]
 show wpAny _ _ (field (.ref it) 1 >>= _) _ _ s;refine HP (Ke ho hd (x:=.int i 0) rfl (HP (J1 hot hdt ?_)));simp only[IB,hx];refine HP (Na (HP (No ho hd (by simp) ?_)))
 show wpAny _ _ (newExc (.type "StopIteration") [] >>= _) _ _ _;refine HP ?_;simp only[newExc,newTuple];refine HP (Ji ?_ (by size_fits))
 refine HP (m:=firstArgMember _ _) (Mr (a:=Jn) (by first|rfl|(simp only[firstArgMember]; rfl)) (Ji ?_ (by size_fits)))
 simp only[raiseNew];refine HP (OS ?_)
 first|rw[show A.in1.handled=gV from hh]|rw[hh]
 exact HP (HW (P9 (hE _ _ (((Lo ..).extBut.push _).push _) #[_,Im _ rfl,rfl])))
end
inductive Zs where|tup (a:Ic)|lst (a:Ic)|txt (x:IH)
abbrev Zs.T (it:Ic):Zs->HZ->Jk->Prop
 | .tup a,i,h=>h.IsTupleIter it a i
 | .lst a,i,h=>h.IsListIter it a i
 | .txt x,i,h=>∃t,h.IsStrIter it "str_ascii_iterator" x t i\/h.IsStrIter it "str_iterator" x t i
abbrev Zs.at (K:Ij)(H:Hp)(i:HZ)(v:V):Zs->Prop
 | .tup a=>∃xs,SqT K H a xs/\xs[i]?=ba v
 | .lst a=>∃xs,SqL K H a xs/\xs[i]?=ba v
 | .txt x=>∃c,x.cps[i]?=ba c/\v=.str #[[c].toArray]
abbrev Zs.out (K:Ij)(H:Hp)(i:HZ):Zs->Prop
 | .tup a=>∃xs,SqT K H a xs/\xs.length<=i
 | .lst a=>∃xs,SqL K H a xs/\xs.length<=i
 | .txt x=>x.cps.size<=i
def Zs.keep {S:Zs}{it:Ic}{j:HZ}{h h':Jk}(t:S.T it j h)(k:∀o,h.get? it=ba o->h'.get? it=ba o):S.T it j h':=by
 cases S with
 | tup a=>exact t.at k
 | lst a=>exact t.at k
 | txt x=>
  obtain⟨tk,t⟩:=t;exact#[tk,t.imp (λ#[o,e,r]=>#[o,k _ e,r]) λ#[o,e,r]=>#[o,k _ e,r]]
section
variable{X:Cx}{J:HN (Ic×Kb)}{Y:L2.St}{H:Hp}{s:HV}
def xh (I:Inv X J Y H s){a b:Ic}{o:Kb}(h:X.K.lookup a=ba o)(f:gq X J H b):a≠b:=λz=>by
 subst z;have hb:=I.ok.mod.kin a o h;rcases f.2.2.2.1 with q|q
 ·exact I.ok.noex a o hb q
 ·exact absurd (IQ (Iv (I.ok.bs a o hb).1) q) (J3 _)
end
end Mi
namespace Mi
open PySem PySem.Spec PyProof.Rows L2
open PySem.Builtin.SmallTypes (nextOf)
section
variable{X:Cx}{J:HN (Ic×Kb)}{Y:L2.St}{H:Hp}{s:HV}{h':Jk}
def xi {a b:Ic}{u:HO}(h:Rd H a u)(f:H b=gV):a≠b:=λz=>by
 subst z;rcases h with h|⟨o,h⟩ <;> (rw[f]at h; cases h)
def Inv.turnedL {t':HZ}{ch:HN Ic}(I:Inv X J Y H s)(k:∀b o,b∉ch->s.heap.get? b=ba o->h'.get? b=ba o)(hf:∀b∈ch,gq X J H b):Inv X J Y H { s with heap:=h',toks:=t' }:=by
 have nit:∀b u,H b=ba u->b∉ch:=λb u e z=>by have:=(hf b z).1; rw[e]at this; cases this
 refine I.step (g':=s.gens) (d':=s.drawn) (ch:=ch) (λb hb=>?_) (λb o _ _ hc e _=>k b o hc e) (λb o _ _ hc e _=>#[o.slots,k b o hc e]) (λ_ _ _ _ n=>n) (λb o hc e=>#[o,k b o hc e]) (λ_ _ e=>e) (λ_ _ _ e=>e) (λb ps e=>#[#[],by rw[e]; simp]) (λm hm=>?_) (λb u e=>?_) I.bare
 ·obtain⟨_,f1,_,f3,f4,f5⟩:=hf b hb;exact#[f3,f1,f4,f5]
 ·obtain⟨o,es,ep,ho,r⟩:=hm;exact#[o,es,ep,k _ o (λz=>(hf _ z).2.1 rfl) ho,r]
 ·refine(I.hok b u e).stay (λc v hc q=>k c v ?_ q) (λ_ q=>q) λ_ _ q=>q
  rcases hc with z|z
  ·rw[z]; exact nit b u e
  ·exact nit c _ z
def Zs.zit {S:Zs}{it z q i1 i2:Ic}{i:HZ}{Uq:HY V}(I:Inv X J Y H s)(hf:∀b∈[z,q,i1,i2],gq X J H b)(g:match Uq with|some v=>S.at X.K H i v|none=>S.out X.K H i) :
  ∃C,Zit X.prog X.w it (S.T it) C i (Uq.map λv u=>RelV v u)/\C s.heap/\Zc z q i1 i2 C:=by
 have zc:∀(a:Ic) (P:Jk->Prop),(∀h h',P h->(∀o,h.get? a=ba o->h'.get? a=ba o)->P h')->(∀b∈[z,q,i1,i2],a≠b)->Zc z q i1 i2 P:=λa P hP hn h h' p k=>
  hP h h' p λo e=>k a o (hn z (by simp)) (hn q (by simp)) (hn i1 (by simp)) (hn i2 (by simp)) e
 have sep:∀ {a:Ic} {u:HO} {o:Kb} {b:Ic},(Rd H a u\/X.K.lookup a=ba o)->b∈[z,q,i1,i2]->a≠b:=λh hb=>h.elim (λr=>xi r (hf _ hb).1) λr=>xh I r (hf _ hb)
 cases S with
 | tup a=>
  obtain⟨xs,hq,hx⟩ : ∃xs,SqT X.K H a xs/\(match Uq with|some v=>xs[i]?=ba v|none=>xs.length<=i):=by
   cases Uq <;> exact g
  obtain⟨its,rv,p,_⟩:=I.tuple hq;have hne:∀b∈[z,q,i1,i2],a≠b:=λb hb=>by
   rcases hq with r|⟨o,_,_,r,_⟩
   ·exact xi r (hf b hb).1
   ·exact xh I r (hf b hb)
  refine#[λh=>h.IsTuple a its.toArray,#[λj h h' t k=>Zs.keep (S:=.tup a) t k,λV hV B s2 Q E t c hQ=>?_,λhU B s2 Q E hh t c hE=>?_],p,zc a _ (λh h' #[o,e,r] k=>#[o,k _ e,r]) hne]
  ·cases Uq with
   | none=>cases hV
   | some v=>
    cases hV;obtain⟨u,hu,ru⟩:=rv.get hx;exact EK t c (x:=u) (by simpa using hu) λh' t' sb=>hQ u h' s2.toks ru t' sb
  ·cases Uq with
   | some v=>cases hU
   | none=>
    have:=L2.Vals.length rv;have hx':xs.length<=i:=hx;exact EM hh t c (by simp; omega) hE
 | lst a=>
  obtain⟨xs,hq,hx⟩ : ∃xs,SqL X.K H a xs/\(match Uq with|some v=>xs[i]?=ba v|none=>xs.length<=i):=by
   cases Uq <;> exact g
  obtain⟨its,rv,p,_⟩:=I.list hq;have hne:∀b∈[z,q,i1,i2],a≠b:=λb hb=>by
   rcases hq with r|⟨o,_,_,r,_⟩
   ·exact xi r (hf b hb).1
   ·exact xh I r (hf b hb)
  refine#[λh=>h.IsList a its.toArray,#[λj h h' t k=>Zs.keep (S:=.lst a) t k,λV hV B s2 Q E t c hQ=>?_,λhU B s2 Q E hh t c hE=>?_],p.isList,zc a _ (λh h' #[o,e,r] k=>#[o,k _ e,r]) hne]
  ·cases Uq with
   | none=>cases hV
   | some v=>
    cases hV;obtain⟨u,hu,ru⟩:=rv.get hx;exact wpAny_nextOf_list_item t c (x:=u) (by simpa using hu) λh' t' sb=>hQ u h' s2.toks ru t' sb
  ·cases Uq with
   | some v=>cases hU
   | none=>
    have:=L2.Vals.length rv;have hx':xs.length<=i:=hx;exact wpAny_nextOf_list_end hh t c (by simp; omega) hE
 | txt x=>
  refine#[λ_=>OX,#[λj h h' t k=>Zs.keep (S:=.txt x) t k,λV hV B s2 Q E t _ hQ=>?_,λhU B s2 Q E hh t _ hE=>?_],trivial,λ_ _ _ _=>trivial]
  ·cases Uq with
   | none=>cases hV
   | some v=>
    cases hV;obtain⟨c,hc,rfl⟩ : ∃c,x.cps[i]?=ba c/\v=.str #[[c].toArray]:=g;obtain⟨tk,t|t⟩:=t
    ·exact wpAny_nextOf_ascii_item t hc λh' t' sb=>hQ _ h' _ #[_,rfl] #[tk,.inl t'] sb
    ·exact wpAny_nextOf_wide_item t hc λh' t' sb=>hQ _ h' _ #[_,rfl] #[tk,.inr t'] sb
  ·cases Uq with
   | some v=>cases hU
   | none=>
    have hx:x.cps[i]?=gV:=by simpa using(show x.cps.size<=i from g)
    obtain⟨tk,t|t⟩:=t
    ·exact wpAny_nextOf_ascii_end hh t hx hE
    ·exact wpAny_nextOf_wide_end hh t hx hE
end
abbrev Zs.is (K:Ij)(H:Hp)(i:HZ)(v:V):Zs->Prop
 | .tup a=>∀xs,SqT K H a xs->xs[i]?=ba v
 | .lst a=>∀xs,SqL K H a xs->xs[i]?=ba v
 | .txt x=>∃c,x.cps[i]?=ba c/\v=.str #[[c].toArray]
def Zs.at_is {S:Zs}{X:Cx}{J:HN (Ic×Kb)}{Y:L2.St}{H:Hp}{s:HV}{i:HZ}{v:V}(I:Inv X J Y H s)(h:S.at X.K H i v):S.is X.K H i v:=by
 cases S with
 | tup a=>obtain⟨xs,hq,hx⟩:=h; exact λys hy=>by rw[I.tuple_inj hy hq]; exact hx
 | lst a=>obtain⟨xs,hq,hx⟩:=h; exact λys hy=>by rw[I.list_inj hy hq]; exact hx
 | txt x=>exact h
abbrev FW (K:Ij)(S1 S2:Zs):It:=
 #[λi H=>∃x y,S1.at K H i x/\S2.at K H i y,λi H v H'=>∃p x y,S1.is K H i x/\S2.is K H i y/\v=.ref p/\H p=gV/\H'=bh H p (.tup [x,y]),λi H=>S1.out K H i\/(∃x,S1.at K H i x)/\S2.out K H i]
def xj {P:IZ}{w:Jg}{K:Ij}{els:HN IJ}{k0:HZ}{tp:KW}{S1 S2:Zs}{z p q i1 i2:Ic}(D:Zap z p q i1 i2) :
  Turn P w K (.Tuple els k0 tp) (FW K S1 S2) [z,p,q,i1,i2] z (λi h=>OU h z p q .none/\ML h p (.ref i1) (.ref i2)/\(∃a b,ML h q a b)/\S1.T i1 i h/\S2.T i2 i h) where
 mem:=by simp
 obj:=λi h #[a,b,#[u,v,c],d,e] b' hb=>by
  have it:∀ {S:Zs} {it:Ic},S.T it i h->∃o,h.get? it=ba o/\∀v,o.data≠.cell v:=λ{S it} t=>by
   cases S with
   | tup a=>obtain⟨o,e,_,d⟩:=t; exact#[o,e,λv z=>by rw[d]at z; cases z]
   | lst a=>obtain⟨o,e,_,d⟩:=t; exact#[o,e,λv z=>by rw[d]at z; cases z]
   | txt x=>obtain⟨tk,⟨o,e,_,d⟩|⟨o,e,_,d⟩⟩:=t <;> exact#[o,e,λv z=>by rw[d]at z; cases z]
  simp only[IC,Jc,Kf]at hb;rcases hb with rfl|rfl|rfl|rfl|rfl
  ·exact#[_,a,λv z=>by cases z]
  ·exact#[_,b,λv z=>by cases z]
  ·exact#[_,c,λv z=>by cases z]
  ·exact it d
  ·exact it e
 keep:=λi h h' #[a,b,#[u,v,c],d,e] k=>#[k z (by simp) _ a,k p (by simp) _ b,#[u,v,k q (by simp) _ c],Zs.keep d (k i1 (by simp)),Zs.keep e (k i2 (by simp))]
 item:=by
  intro X hP hw hK hc i J s Y H E I hf st hg;subst hP hw hK;obtain⟨x,y,g1,g2⟩:=hg;obtain⟨a,b,⟨u,v,c⟩,d,e⟩:=st;have hf4:∀b∈[z,q,i1,i2],gq X J H b:=λb hb=>hf b (by simp only[IC,Jc,Kf]at hb ⊢; rcases hb with h|h|h|h <;> simp[h])
  obtain⟨C1,Zz,c1,k1⟩:=Zs.zit (it:=i1) (Uq:=ba x) I hf4 g1;obtain⟨C2,Zq,c2,k2⟩:=Zs.zit (it:=i2) (Uq:=ba y) I hf4 g2;have hT:s.TypeIs (.ref z) "zip":=#[_,a,rfl];unfold pyNext;refine HP (LH (Jt (name:=Ko "__next__") hT F.slot_zip_next (Jx F.slot_zip_next hT F.entry_zip_next ?_ (F.args_zip_next_1 _))));refine j6 D Zz (λ_ _=>Zq) k1 k2 (I.ok.hd hc) a b c d e c1 c2 (λV1 V2 e1 e2 u1 u2 g tk r1 r2 zg qg t1 t2 ng kp=>?_) (λz=>by rcases z with z|z <;> cases z)
  cases e1;cases e2;refine HW #[_,rfl,?_];refine wpAny_letOwnedTupleGo_zip (s:={ s with heap:=g,toks:=tk }) zg λg' zg' sb=>?_
  have N0:H s.heap.objs.size=gV:=I.hok.fresh (Ih _);have lt:∀ {b:Ic},b∈[z,p,q,i1,i2]->s.heap.objs.size≠b:=λ{b} hb=>by
   have:∃o,s.heap.get? b=ba o:=by
    have it:∀ {S:Zs} {it:Ic},S.T it i s.heap->∃o,s.heap.get? it=ba o:=λ{S it} t=>by
     cases S with
     | tup a=>obtain⟨o,e,_⟩:=t; exact#[o,e]
     | lst a=>obtain⟨o,e,_⟩:=t; exact#[o,e]
     | txt x=>obtain⟨tk,⟨o,e,_⟩|⟨o,e,_⟩⟩:=t <;> exact#[o,e]
    simp only[IC,Jc,Kf]at hb;rcases hb with rfl|rfl|rfl|rfl|rfl
    ·exact#[_,a]
    ·exact#[_,b]
    ·exact#[_,c]
    ·exact it d
    ·exact it e
   obtain⟨o,e⟩:=this;exact JY (Iv e)
  have up:∀b o,b∉[z,q,i1,i2]->s.heap.get? b=ba o->g'.get? b=ba o:=λb o hb e=>by
   simp only[IC,Jc,Kf,Os]at hb;exact sb.extBut _ _ hb.1 (kp b o hb.1 hb.2.1 hb.2.2.1 hb.2.2.2 e)
  have I1:Inv X J Y H { s with heap:=g',toks:=tk }:=Mi.Inv.turnedL I up hf4
  have ng':ML g' s.heap.objs.size u1 u2:=sb.extBut _ _ (lt (by simp)) ng
  have I2:Inv X J Y (bh H s.heap.objs.size (.tup [x,y])) { s with heap:=g',toks:=tk }:=by
   refine Mi.Inv.adopt I1 N0 (.inr I.sz) (JY I.lt) (λw c e=>?_) (λp hp=>?_) #[by show 2<=sizeLine; decide,[u1,u2],.cons r1 #v[r2],#[_,ng',rfl,0,rfl]]
   ·obtain⟨v,q⟩:=I.cell w c e;exact IA q.lt
   ·exact IA (Iv (I.pin p hp).1)
  refine#[.ref s.heap.objs.size,_,I2,rfl,#[s.heap.objs.size,x,y,Zs.at_is I g1,Zs.at_is I g2,rfl,N0,rfl],#[zg',up p _ ?_ b,#[u1,u2,sb.extBut _ _ D.qz qg],Zs.keep t1 λo e=>sb.extBut _ _ D.iz e,Zs.keep t2 λo e=>sb.extBut _ _ D.jz e],λb hb=>?_]
  ·simp only[IC,Jc,Kf,Os];exact#[D.pz,D.pq,D.pi,D.pj]
  ·rw[aB (Ne.symm (lt hb))];exact(hf b hb).1
 done:=by
  intro X hP hw hK hc i J s Y H E I hf st hg;subst hP hw hK;obtain⟨a,b,⟨u,v,c⟩,d,e⟩:=st;have hf4:∀b∈[z,q,i1,i2],gq X J H b:=λb hb=>hf b (by simp only[IC,Jc,Kf]at hb ⊢; rcases hb with h|h|h|h <;> simp[h])
  have hT:s.TypeIs (.ref z) "zip":=#[_,a,rfl];unfold pyNext;refine HP (LH (Jt (name:=Ko "__next__") hT F.slot_zip_next (Jx F.slot_zip_next hT F.entry_zip_next ?_ (F.args_zip_next_1 _))));have ends:∀h' tk e,(∀c o,c≠z->c≠q->c≠i1->c≠i2->s.heap.get? c=ba o->h'.get? c=ba o)->(∃o,h'.get? e=ba o/\o.cls=.type "StopIteration")->
    wpAny (model X.prog X.w) X.A (do if <- isInstance (.ref e) (.type "StopIteration")then pure (gV:HY HS)else throw (.ref e)) (λr s1=>r=gV/\Inv X J Y H s1) E { s with heap:=h',toks:=tk }:=λh' tk e k #[o,ho,hc]=>
   HP (Lu (T:="StopIteration") (b:=true) #[o,ho,hc] Nh (HW #[rfl,Mi.Inv.turnedL I (λb o hb e=>by
    simp only[IC,Jc,Kf,Os]at hb;exact k b o hb.1 hb.2.1 hb.2.2.1 hb.2.2.2 e) hf4]))
  rcases hg with g1|⟨⟨x,g1⟩,g2⟩
  ·obtain⟨C1,Zz,c1,k1⟩:=Zs.zit (it:=i1) (Uq:=gV) I hf4 g1;exact j6 (U2:=gV) D Zz (λV1 e1=>by cases e1) k1 (C2:=λ_=>OX) (λ_ _ _ _=>trivial) (I.ok.hd hc) a b c d e c1 trivial (λV1 V2 e1 _=>by cases e1) λ_ h' tk e k he=>ends h' tk e k he
  ·obtain⟨C1,Zz,c1,k1⟩:=Zs.zit (it:=i1) (Uq:=ba x) I hf4 g1;obtain⟨C2,Zq,c2,k2⟩:=Zs.zit (it:=i2) (Uq:=gV) I hf4 g2;exact j6 D Zz (λ_ _=>Zq) k1 k2 (I.ok.hd hc) a b c d e c1 c2 (λV1 V2 _ e2=>by cases e2) λ_ h' tk e k he=>ends h' tk e k he
 self:=λ_ _ _ _ _ st h=>P1 st.1 h
end Mi
namespace Mi
open PySem PySem.Spec PyProof.Rows L2
abbrev DQ:W->HY (HN W)
 | .tup xs=>ba xs
 | .str x=>ba (x.cps.toList.map λc=>.str #[[c].toArray])
 | _=>gV
abbrev Ap (f:FA):FI:=λZ S=>match f Z S with
 | some ([x,y],S1)=>match DQ x,DQ y with
  | some xs,ba ys=>ba (.its (kQ xs ys),S1)
  | _,_=>match x,y with
   | .ref r,.ref q=>match eY S1 r,eY S1 q with
    | some _,ba _=>ba (.zl r q,S1)
    | _,_=>gV
   | _,_=>gV
 | _=>gV
section
variable{X:Cx}{J:HN (Ic×Kb)}{Y:L2.St}{H:Hp}{s:HV}{A:HN Ic}
abbrev ZRel (K:Ij)(A:HN Ic)(H:Hp)(xs:HN W):Zs->Prop
 | .tup a=>∃vs,SqT K H a vs/\RelL K A H xs vs
 | .lst a=>JR
 | .txt x=>xs=x.cps.toList.map λc=>.str #[[c].toArray]
def ZRel.mono {K:Ij}{A A':HN Ic}{H H':Hp}{xs:HN W}{S:Zs}(e:Ext K A H A' H')(h:ZRel K A H xs S):ZRel K A' H' xs S:=by
 cases S with
 | tup a=>obtain⟨vs,h1,h2⟩:=h; exact#[vs,e.tp _ _ h1,h2.mono e]
 | lst a=>exact h
 | txt x=>exact h
def ZRel.at {K:Ij}{xs:HN W}{S:Zs}{i:HZ}{w:W}(h:ZRel K A H xs S)(hi:xs[i]?=ba w):∃v,S.at K H i v/\Rel K A H w v:=by
 cases S with
 | tup a=>obtain⟨vs,h1,h2⟩:=h; obtain⟨v,h3,h4⟩:=h2.get hi; exact#[v,#[vs,h1,h3],h4]
 | lst a=>exact h.elim
 | txt x=>
  have h:xs=x.cps.toList.map λc=>.str #[[c].toArray]:=h
  subst h;rw[Ii,HU]at hi;obtain⟨c,hc,rfl⟩:=hi;exact#[.str #[[c].toArray],#[c,by rw[<- JF]; exact hc,rfl],.str]
def ZRel.is {K:Ij}{xs:HN W}{S:Zs}{i:HZ}{w:W}{v:V}(h:ZRel K A H xs S)(hi:xs[i]?=ba w)(z:S.is K H i v):Rel K A H w v:=by
 obtain⟨v',h1,h2⟩:=h.at hi;cases S with
 | tup a=>
  obtain⟨vs,q,e⟩:=h1;have:=z vs q;rw[e]at this; cases this
  exact h2
 | lst a=>exact h.elim
 | txt x=>
  obtain⟨c,e,rfl⟩:=h1;obtain⟨c',e',rfl⟩:=z;rw[e]at e'; cases e'
  exact h2
def ZRel.out {K:Ij}{xs:HN W}{S:Zs}{i:HZ}(h:ZRel K A H xs S)(hi:xs.length<=i):S.out K H i:=by
 cases S with
 | tup a=>obtain⟨vs,h1,h2⟩:=h; exact#[vs,h1,by rw[<- h2.length]; exact hi]
 | lst a=>exact h.elim
 | txt x=>
  have h:xs=x.cps.toList.map λc=>.str #[[c].toArray]:=h
  subst h;show x.cps.size<=i
  simpa using hi
def o9 {xs ys:HN W}{i:HZ}{w:W}(h:(kQ xs ys)[i]?=ba w):∃x y,xs[i]?=ba x/\ys[i]?=ba y/\w=.tup [x,y]:=by
 unfold kQ at h;rw[Ol]at h;split at h
 ·rename_i x y e1 e2;cases h;exact#[x,y,e1,e2,rfl]
 ·cases h
def Aq {S1 S2:Zs}{xs ys:HN W}(z1:ZRel X.K A H xs S1)(z2:ZRel X.K A H ys S2):MIt X.w X.K (.its (kQ xs ys)) (FW X.K S1 S2) A H:=by
 refine#[λA' H' S i w e so hi=>?_,λA' H' S i e so hi=>?_]
 ·simp only[MI.at,IW]at hi;obtain⟨x,y,e1,e2,rfl⟩:=o9 hi;obtain⟨v,g1,r1⟩:=(z1.mono e).at e1;obtain⟨u,g2,r2⟩:=(z2.mono e).at e2;refine#[#[v,u,g1,g2],λp H2 #[a,v',u',q1,q2,hp,hn,hH]=>?_]
  subst hp hH;have ex:Ext X.K A' H' A' (bh H' a (.tup [v',u'])):=bX (.inl hn);exact#[ex,so.lay hn,.tup (.of aF) #v[((z1.mono e).is e1 q1).mono ex,((z2.mono e).is e2 q2).mono ex]]
 ·simp only[MI.at,IW,Js,kQ,Lp]at hi
  by_cases h1:xs.length<=i
  ·exact .inl ((z1.mono e).out h1)
  ·have hx:i < xs.length:=∅
   obtain⟨v,g1,_⟩:=(z1.mono e).at (Ig hx);exact .inr #[#[v,g1],(z2.mono e).out ∅]
def xk {r q:HZ}{a b:Ic}(ea:A[r]?=ba a)(eb:A[q]?=ba b):MIt X.w X.K (.zl r q) (FW X.K (.lst a) (.lst b)) A H:=by
 refine#[λA' H' S i w e so hi=>?_,λA' H' S i e so hi=>?_]
 ·simp only[MI.at]at hi;split at hi
  ·rename_i xs ys hx hy;simp only[IW]at hi;obtain⟨x,y,e1,e2,rfl⟩:=o9 hi;obtain⟨vs,h1,r1⟩:=aZ so hx (e.ad _ _ ea);obtain⟨us,h2,r2⟩:=aZ so hy (e.ad _ _ eb);obtain⟨v,g1,q1⟩:=r1.get e1;obtain⟨u,g2,q2⟩:=r2.get e2;refine#[#[v,u,#[vs,h1,g1],#[us,h2,g2]],λp H2 #[c,v',u',z1,z2,hp,hn,hH]=>?_]
   subst hp hH;have t1:=z1 vs h1;rw[g1]at t1; cases t1
   have t2:=z2 us h2;rw[g2]at t2; cases t2
   have ex:Ext X.K A' H' A' (bh H' c (.tup [v,u])):=bX (.inl hn);exact#[ex,so.lay hn,.tup (.of aF) #v[q1.mono ex,q2.mono ex]]
  ·cases hi
 ·simp only[MI.at]at hi;split at hi
  ·rename_i xs ys hx hy;simp only[IW,Js,kQ,Lp]at hi;obtain⟨vs,h1,r1⟩:=aZ so hx (e.ad _ _ ea);obtain⟨us,h2,r2⟩:=aZ so hy (e.ad _ _ eb)
   by_cases hl:xs.length<=i
   ·exact .inl #[vs,h1,by rw[<- r1.length]; exact hl]
   ·have hx':i < xs.length:=∅
    obtain⟨v,g1,_⟩:=r1.get (Ig hx');exact .inr #[#[v,vs,h1,g1],us,h2,by rw[<- r2.length]; omega]
  ·cases hi
def mZ {x:W}{v:V}{u:HS}{xs:HN W}(I:Inv X J Y H s)(r:Rel X.K A H x v)(ru:RelV v u)(e:DQ x=ba xs) :
  ∃(S:Zs) (o:Kb) (C:Jk->Prop),ZRel X.K A H xs S/\en X.prog X.w u o C/\C s.heap/\(∀h o,C h->C (h.push o))/\o.isFreed=false/\∀it h,h.get? it=ba o->S.T it 0 h:=by
 cases r with
 | @tup ws a vs hq rl=>
  cases e;obtain⟨its,rv,p,_⟩:=I.tuple hq;obtain rfl:u=Jb a:=ru;exact#[.tup a,{ cls:=.type "tuple_iterator",data:=.fields [.ref a,.int 0 0].toArray },λh=>h.IsTuple a its.toArray,#[vs,hq,rl],λB s Q E c hQ=>Nt c hQ,p,λh o #[ot,e,r]=>#[ot,HR _ e,r],rfl,λit h e=>#[_,e,rfl,rfl]]
 | @str x=>
  cases e;obtain⟨t,rfl⟩:=ru;cases ha:x.cps.all (· < 128)with
  | false=>exact#[.txt x,{ cls:=.type "str_iterator",data:=.fields [.str x t,.int 0 0].toArray },λ_=>OX,rfl,λB s Q E _ hQ=>wpAny_pyIter_wide ha hQ,trivial,λ_ _ _=>trivial,rfl,λit h e=>#[t,.inr #[_,e,rfl,rfl]]]
  | true=>exact#[.txt x,{ cls:=.type "str_ascii_iterator",data:=.fields [.str x t,.int 0 0].toArray },λ_=>OX,rfl,λB s Q E _ hQ=>wpAny_pyIter_ascii ha hQ,trivial,λ_ _ _=>trivial,rfl,λit h e=>#[t,.inl #[_,e,rfl,rfl]]]
 | _=>cases e
def xl:bootBuiltins "zip" = ba (.type "zip"):=rfl
def sC {a:Ic}{xs:HN V}{u:HS}(I:Inv X J Y H s)(ru:RelV (.ref a) u)(hq:SqL X.K H a xs) :
  ∃(o:Kb) (C:Jk->Prop),en X.prog X.w u o C/\C s.heap/\(∀h o,C h->C (h.push o))/\o.isFreed=false/\∀it h,h.get? it=ba o->(Zs.lst a).T it 0 h:=by
 obtain⟨its,rv,p,_⟩:=I.list hq;obtain rfl:u=Jb a:=ru;exact#[{ cls:=.type "list_iterator",data:=.fields [.ref a,.int 0 0].toArray },λh=>h.IsList a its.toArray,λB s Q E c hQ=>LK c hQ,p.isList,λh o #[ot,e,r]=>#[ot,HR _ e,r],rfl,λit h e=>#[_,e,rfl,rfl]]
def CZ {els:HN IJ}{k0:HZ}{tp:KW}{a b:IJ}{f:FA}{p pos:KW}(hg:Gl X "zip")(hm:X.mg "zip" = gV)(ha:GA X [a,b] f)(hs:starEach [a,b] X.env=[(false,eval a X.env),(false,eval b X.env)])(hs2:starEach [b] X.env=[(false,eval b X.env)]) :
  GI X (.Tuple els k0 tp) (.Call (.Name "zip" p) [a,b] [] pos) (Ap f):=by
 intro J s Y H R I ⟨A,Z,S,mi,S',er,so,e,hq⟩;have fin:∀ {s1:HV} {H1:Hp} {u v:HS} {Sa Sb:Zs} {oa ob:Kb} {Ca Cb:Jk->Prop},Inv X J Y H1 s1->en X.prog X.w u oa Ca->Ca s1.heap->oa.isFreed=false->(∀it h,h.get? it=ba oa->Sa.T it 0 h)->en X.prog X.w v ob Cb->Cb s1.heap->(∀h o,Cb h->Cb (h.push o))->ob.isFreed=false->(∀it h,h.get? it=ba ob->Sb.T it 0 h)->R (FW X.K Sa Sb) H1->
   wpAny (model X.prog X.w) X.A (call (.type "zip") [u,v]) (λv s=>wpAny (model X.prog X.w) X.A (pyIter v) (D5 X J Y (.Tuple els k0 tp) R) X.xe s) X.xe s1:=λ{s1 H1 u v Sa Sb oa ob Ca Cb} I1 ia ca na ta ib cb kb nb tb hR=>by
  refine xg ia ib kb ca cb na nb λh' hz hp hq' g1 g2 hsz kp=>?_
  have I2:Inv X J Y H1 { s1 with heap:=h' }:=I1.kept (t':=s1.toks) kp
  refine P1 (s:={ s1 with heap:=h' }) hz ?_
  have D:Zap (s1.heap.objs.size+4) (s1.heap.objs.size+2) (s1.heap.objs.size+3) s1.heap.objs.size (s1.heap.objs.size+1):=by constructor <;> (intro z; simp at z)
  refine#[s1.heap.objs.size+4,_,_,_,H1,rfl,I2,xj (S1:=Sa) (S2:=Sb) D,#[hz,hp,#[_,_,hq'],ta _ _ g1,tb _ _ g2],λb hb=>?_,hR]
  have hb':s1.heap.objs.size<=b:=by
   simp only[IC,Jc,Kf]at hb;rcases hb with rfl|rfl|rfl|rfl|rfl
   ·exact KH _ _
   ·exact KH _ _
   ·exact KH _ _
   ·exact Ih _
   ·exact KH _ _
  exact I1.fpOk hb' (I1.hok.fresh hb')
 unfold Ap at e;split at e
 ·rename_i x y S1 h1;refine Sc (gp I hg hm xl (Ky (bm (ha pos J s Y H _ I #[A,Z,S,_,_,er,so,h1,λ_ _ z=>z]) λus s1 #[vs,H1,I1,r1,A1,z1,z2,z3]=>?_) (by rw[hs,hs2]) (by rw[hs2]; rfl)))
  cases z3 with
  | cons ra t=>
   cases t with
   | cons rb t=>
    cases t;cases r1 with
    | cons ua t=>
     cases t with
     | cons ub t=>
      cases t;split at e
      ·rename_i xs ys e1 e2;cases e;obtain⟨Sa,oa,Ca,za,ia,ca,ka,na,ta⟩:=mZ I1 ra ua e1;obtain⟨Sb,ob,Cb,zb,ib,cb,kb,nb,tb⟩:=mZ I1 rb ub e2;exact fin I1 ia ca na ta ib cb kb nb tb (hq _ _ A1 z1 z2 (Aq za zb))
      ·split at e
       ·rename_i r q;split at e
        ·rename_i xs ys hx hy;cases e;cases ra with
         | @ref _ a ea=>
          cases rb with
          | @ref _ b eb=>
           obtain⟨va,q1,_⟩:=aZ z2 hx ea;obtain⟨vb,q2,_⟩:=aZ z2 hy eb;obtain⟨oa,Ca,ia,ca,ka,na,ta⟩:=sC I1 ua q1;obtain⟨ob,Cb,ib,cb,kb,nb,tb⟩:=sC I1 ub q2;exact fin I1 ia ca na ta ib cb kb nb tb (hq _ _ A1 z1 z2 (xk ea eb))
        ·cases e
       ·cases e
 ·cases e
end
open PySem.Builtin.SmallTypes (nextOf)
section
variable{prog:IZ}{w:Jg}{B:Jd}{E:HS->HV->Prop}{s:HV}{e it:Ic}{T:HZ->Jk->Prop}{C:Jk->Prop}{i:HZ}{old:HS}
structure EnAt (h0 h:Jk)(e it:Ic)(fs:IM HS)(T:Jk->Prop):Prop where
 here:h.get? e=ba { cls:=.type "enumerate",dict:=gV,data:=.fields fs,slots:=#[] }
 turn:T h
 kept:∀b o,b≠e->b≠it->h0.get? b=ba o->h.get? b=ba o
def EnAt.put {h0:Jk}{fs:IM HS}{T:Jk->Prop}{k:HZ}{v:HS}{Q:R9->HV->Prop}(x:EnAt h0 s.heap e it fs T)(hne:e≠it)(kT:∀h h',T h->(∀o,h.get? it=ba o->h'.get? it=ba o)->T h')(hk:k < fs.size)
  (q:∀h',EnAt h0 h' e it (fs.setIfInBounds k v) T->Kn e s.heap h'->Q () { s with heap:=h' }):wpAny (model prog w) B (setField (.ref e) k v) Q E s:=
 K1 x.here hk λh' y sb=>q h' #[y,kT _ _ x.turn λo z=>sb.extBut _ _ (Ne.symm hne) z,λb o h1 h2 z=>sb.extBut b o h1 (x.kept b o h1 h2 z)] sb
def lL {Uq:HY (HS->Prop)}{Q:HS->HV->Prop}(Zx:Zit prog w it T C i Uq)(hh:B.handled=gV)(he:RN s.heap e it (i:Ip) old)(t:T i s.heap)(c:C s.heap)(hne:e≠it)
  (hI:∀V,Uq=ba V->∀u h' tk tk0,V u->IsEnumOut h' e it ((i:Ip)+1) u s.heap.objs.size->T (i+1) h'->h'.get? s.heap.objs.size=ba { cls:=.type "tuple",data:=.seq [.int i tk0,u].toArray }->
   (∀b o,b≠e->b≠it->s.heap.get? b=ba o->h'.get? b=ba o)->Q (.ref s.heap.objs.size) { s with heap:=h',toks:=tk })
  (hE:Uq=gV->∀h' x,Ou it s.heap h'->(∃o,h'.get? x=ba o/\o.cls=.type "StopIteration")->E (.ref x) { s with heap:=h' }) :
  wpAny (model prog w) B (Lg.«enumerate.__next__» #[[.ref e],[]]) (λfin s'=>∃v,fin=.done (.ret v)/\Q v s') E s:=by
 obtain⟨hp,g,d,tk,os⟩:=s;show wpAny _ _ (field (.ref e) 2 >>= _) _ _ _;refine HP (Ke he rfl (x:=.ref it) rfl (HP ?_));cases Uq with
 | none=>exact Zx.stop rfl _ _ _ _ hh t c λh' x a b=>hE rfl h' x a b
 | some V=>
  refine Zx.next V rfl _ _ _ _ t c λu ha tka hu ta sba=>?_
  have kT:=Zx.keep (i+1);have xa:EnAt hp ha e it [.none,.bool false,.ref it,rawInt i,.none,old].toArray (T (i+1)):=#[(sba.2 e hne).trans he,ta,λb o _ h2 z=>sba.extBut b o h2 z]
  have za:ha.objs.size=hp.objs.size:=sba.1;clear sba ta;show wpAny _ _ (field (.ref e) 3 >>= _) _ _ #[ha,g,d,tka,os];refine HP (Ke xa.here rfl (x:=rawInt i) rfl ?_);show wpAny _ _ (field (.ref e) 4 >>= _) _ _ #[ha,g,d,tka,os];refine HP (Ke xa.here rfl (x:=.none) rfl ?_);show wpAny _ _ (mkInt i >>= _) _ _ #[ha,g,d,tka,os];refine HP (Qb (HP (xa.put (s:=#[ha,g,d,tka+1,os]) hne kT (by simp) λhb xb sb1=>HP (xb.put (s:=#[hb,g,d,tka+1,os]) hne kT (by simp) λhc xc sb2=>HP (Nj ?_)))))
  have zc:hc.objs.size=hp.objs.size:=by rw[sb2.1,<- za]; exact sb1.1
  have hel:hp.objs.size≠e:=JY (Iv he);have new:=Im hc (o:={ cls:=.type "tuple",data:=.seq [.int i tka,u].toArray }) rfl;have xd:EnAt hp (hc.push { cls:=.type "tuple",data:=.seq [.int i tka,u].toArray }) e it [.none,.bool false,.ref it,rawInt ((i:Ip)+1),.none,old].toArray (T (i+1)):=#[HR _ xc.here,kT _ _ xc.turn λo z=>HR _ z,λb o h1 h2 z=>HR _ (xc.kept b o h1 h2 z)]
  rw[zc]at new;show wpAny _ _ (Km (.ref e) >>= _) _ _ #[hc.push _,g,d,tka+1,os];rw[zc];generalize hc.push { cls:=.type "tuple",data:=.seq [.int i tka,u].toArray }=hd at new xd ⊢;clear zc sb2 xc sb1 xb hb xa za;refine HP ?_;unfold Km;refine HP (Ke xd.here rfl (x:=.none) rfl (HW ?_));simp only[Kd];refine HP (Na (HP (Ke xd.here rfl (x:=old) rfl (HP (xd.put (s:=#[hd,g,d,tka+1,os]) hne kT (by simp) λh1 x1 s1=>HP ?_)))))
  unfold KR;refine HP (x1.put (s:=#[h1,g,d,tka+1,os]) hne kT (by simp) λh2 x2 s2=>x2.put (s:=#[h2,g,d,tka+1,os]) hne kT (by simp) λh3 x3 s3=>HP (LV (HW #[_,rfl,hI V rfl u h3 (tka+1) tka hu x3.here x3.turn ?_ x3.kept])))
  exact s3.extBut _ _ hel (s2.extBut _ _ hel (s1.extBut _ _ hel new))
variable{v:HS}{o:Kb}
def pb (h1:en prog w v o C) :
  MeetsIn prog w (Lg.«enumerate.__new__» #[[.type "enumerate",v],[]]) (λ_ R s=>C s.heap/\R (.ok (.ret (.ref (s.heap.push o).objs.size))) { s with heap:=(s.heap.push o).push { cls:=.type "enumerate",data:=.fields [.none,.bool false,.ref s.heap.objs.size,rawInt 0,.none,.none].toArray } }):=
 .of_wp λA R s h=>by
  obtain⟨hp,g,d,tk,os⟩:=s;obtain⟨c,h⟩:=h;have hsub:=sub_enumerate;have d1:∀(B:Jd) (Q:HS->HV->Prop) (E:HS->HV->Prop),Q (.ref hp.objs.size) #[hp.push o,g,d,tk,os]->wpAny (model prog w) B (pyIter v) Q E #[hp,g,d,tk,os]:=λB Q E q=>h1 B #[hp,g,d,tk,os] Q E c q
  wp_walk
  refine wpAny_stack_any λst=>HW ?_
  split
  ·rename_i c _ _ _ _ _;cases(c==J5 "enumerate")
   ·wp_walk using d1 _ _ _
    exact#[_,rfl,h]
   ·wp_walk using d1 _ _ _
    exact#[_,rfl,h]
  ·wp_walk using d1 _ _ _
   exact#[_,rfl,h]
def uF {Q:HS->HV->Prop}(h1:en prog w v o C)(c:C s.heap)(n1:o.isFreed=false)
  (h:∀h',RN h' (s.heap.objs.size+1) s.heap.objs.size 0 .none->h'.get? s.heap.objs.size=ba o->(∀b o,s.heap.get? b=ba o->h'.get? b=ba o)->Q (.ref (s.heap.objs.size+1)) { s with heap:=h' }) :
  wpAny (model prog w) B (call (.type "enumerate") [v]) Q E s:=by
 refine QG F.called_enumerate #v[] (F.typeCall_enumerate_1 _) (F.newCall_enumerate_1 _) (λobj=>F.args_object_init_2 obj _) F.entry_enumerate_new (pb h1) #[c,?_]
 have hz:(s.heap.push o).objs.size=s.heap.objs.size+1:=J2 ..;show _/\_;rw[hz];have he:RN ((s.heap.push o).push { cls:=.type "enumerate",data:=.fields [.none,.bool false,.ref s.heap.objs.size,rawInt 0,.none,.none].toArray }) (s.heap.objs.size+1) s.heap.objs.size 0 .none:=by
  have:=Im (s.heap.push o) (o:={ cls:=.type "enumerate",data:=.fields [.none,.bool false,.ref s.heap.objs.size,rawInt 0,.none,.none].toArray }) rfl;rw[hz]at this; exact this
 exact#[#[_,he,rfl],h _ he (HR _ (Im _ n1)) λb o x=>HR _ (HR _ x)]
end
abbrev Hs (K:Ij)(S1:Zs):It:=
 #[λi H=>∃x,S1.at K H i x,λi H v H'=>∃p x,S1.is K H i x/\v=.ref p/\H p=gV/\H'=bh H p (.tup [.int i,x]),λi H=>S1.out K H i]
def uG {P:IZ}{w:Jg}{K:Ij}{els:HN IJ}{k0:HZ}{tp:KW}{S1:Zs}{z i1:Ic}(D:z≠i1) :
  Turn P w K (.Tuple els k0 tp) (Hs K S1) [z,i1] z (λi h=>(∃old,RN h z i1 i old)/\S1.T i1 i h) where
 mem:=by simp
 obj:=λi h #[#[old,a],d] b' hb=>by
  have it:∀ {S:Zs} {it:Ic},S.T it i h->∃o,h.get? it=ba o/\∀v,o.data≠.cell v:=λ{S it} t=>by
   cases S with
   | tup a=>obtain⟨o,e,_,d⟩:=t; exact#[o,e,λv z=>by rw[d]at z; cases z]
   | lst a=>obtain⟨o,e,_,d⟩:=t; exact#[o,e,λv z=>by rw[d]at z; cases z]
   | txt x=>obtain⟨tk,⟨o,e,_,d⟩|⟨o,e,_,d⟩⟩:=t <;> exact#[o,e,λv z=>by rw[d]at z; cases z]
  simp only[IC,Jc,Kf]at hb;rcases hb with rfl|rfl
  ·exact#[_,a,λv z=>by cases z]
  ·exact it d
 keep:=λi h h' #[#[old,a],d] k=>#[#[old,k z (by simp) _ a],Zs.keep d (k i1 (by simp))]
 item:=by
  intro X hP hw hK hc i J s Y H E I hf st hg;subst hP hw hK;obtain⟨x,g1⟩:=hg;obtain⟨⟨old,a⟩,d⟩:=st;have hf4:∀b∈[z,z,i1,i1],gq X J H b:=λb hb=>hf b (by simp only[IC,Jc,Kf]at hb ⊢; rcases hb with h|h|h|h <;> simp[h])
  obtain⟨C1,Zz,c1,k1⟩:=Zs.zit (it:=i1) (Uq:=ba x) I hf4 g1;have hT:s.TypeIs (.ref z) "enumerate":=#[_,a,rfl];unfold pyNext;refine HP (LH (Jt (name:=Ko "__next__") hT F.slot_enumerate_next (Jx F.slot_enumerate_next hT F.entry_enumerate_next ?_ (F.args_enumerate_next_1 _))));refine lL Zz (I.ok.hd hc) a d c1 D (λV e1 u g tk tk0 r1 zg t1 ng kp=>?_) (λz=>by cases z)
  cases e1;refine HW #[_,rfl,?_];refine wpAny_letOwnedTupleGo_enum (s:={ s with heap:=g,toks:=tk }) zg λg' zg' sb=>?_
  have N0:H s.heap.objs.size=gV:=I.hok.fresh (Ih _);have lt:∀ {b:Ic},b∈[z,i1]->s.heap.objs.size≠b:=λ{b} hb=>by
   have:∃o,s.heap.get? b=ba o:=by
    have it:∀ {S:Zs} {it:Ic},S.T it i s.heap->∃o,s.heap.get? it=ba o:=λ{S it} t=>by
     cases S with
     | tup a=>obtain⟨o,e,_⟩:=t; exact#[o,e]
     | lst a=>obtain⟨o,e,_⟩:=t; exact#[o,e]
     | txt x=>obtain⟨tk,⟨o,e,_⟩|⟨o,e,_⟩⟩:=t <;> exact#[o,e]
    simp only[IC,Jc,Kf]at hb;rcases hb with rfl|rfl
    ·exact#[_,a]
    ·exact it d
   obtain⟨o,e⟩:=this;exact JY (Iv e)
  have up:∀b o,b∉[z,i1]->s.heap.get? b=ba o->g'.get? b=ba o:=λb o hb e=>by
   simp only[IC,Jc,Kf,Os]at hb;exact sb.extBut _ _ hb.1 (kp b o hb.1 hb.2 e)
  have I1:Inv X J Y H { s with heap:=g',toks:=tk }:=Mi.Inv.turnedL I up hf
  have ng':g'.get? s.heap.objs.size=ba { cls:=.type "tuple",data:=.seq [.int i tk0,u].toArray }:=sb.extBut _ _ (lt (by simp)) ng
  have I2:Inv X J Y (bh H s.heap.objs.size (.tup [.int i,x])) { s with heap:=g',toks:=tk }:=by
   refine Mi.Inv.adopt I1 N0 (.inr I.sz) (JY I.lt) (λw c e=>?_) (λp hp=>?_) #[by show 2<=sizeLine; decide,[.int i tk0,u],.cons #[_,rfl] #v[r1],#[_,ng',rfl,0,rfl]]
   ·obtain⟨v,q⟩:=I.cell w c e;exact IA q.lt
   ·exact IA (Iv (I.pin p hp).1)
  refine#[.ref s.heap.objs.size,_,I2,rfl,#[s.heap.objs.size,x,Zs.at_is I g1,rfl,N0,rfl],#[#[_,zg'],Zs.keep t1 λo e=>sb.extBut _ _ (Ne.symm D) e],λb hb=>?_]
  rw[aB (Ne.symm (lt hb))];exact(hf b hb).1
 done:=by
  intro X hP hw hK hc i J s Y H E I hf st hg;subst hP hw hK;obtain⟨⟨old,a⟩,d⟩:=st;have hf4:∀b∈[z,z,i1,i1],gq X J H b:=λb hb=>hf b (by simp only[IC,Jc,Kf]at hb ⊢; rcases hb with h|h|h|h <;> simp[h])
  obtain⟨C1,Zz,c1,k1⟩:=Zs.zit (it:=i1) (Uq:=gV) I hf4 hg;have hT:s.TypeIs (.ref z) "enumerate":=#[_,a,rfl];unfold pyNext;refine HP (LH (Jt (name:=Ko "__next__") hT F.slot_enumerate_next (Jx F.slot_enumerate_next hT F.entry_enumerate_next ?_ (F.args_enumerate_next_1 _))));refine lL Zz (I.ok.hd hc) a d c1 D (λV e1=>by cases e1) λ_ h' e k #[o,ho,hc]=>?_
  exact HP (Lu (T:="StopIteration") (b:=true) #[o,ho,hc] Nh (HW #[rfl,Mi.Inv.turnedL (t':=s.toks) I (λb o hb e=>by
    simp only[IC,Jc,Kf,Os]at hb;exact k b o hb.2 e) hf]))
 self:=λ_ _ _ _ _ st h=>by obtain⟨⟨old,a⟩,_⟩:=st; exact PC a h
abbrev nh (xs:HN W):HN W:=xs.zipIdx.map λp=>.tup [.int (p.2:HZ),p.1]
def pc {xs:HN W}{i:HZ}{w:W}(h:(nh xs)[i]?=ba w):∃x,xs[i]?=ba x/\w=.tup [.int i,x]:=by
 unfold nh at h;rw[Ii,List.getElem?_zipIdx,QA,HU]at h;obtain⟨x,h1,rfl⟩:=h;exact#[x,h1,by simp]
abbrev Ar (f:FA):FI:=λZ S=>match f Z S with
 | some ([x],S1)=>match DQ x with
  | some xs=>ba (.its (nh xs),S1)
  | none=>gV
 | _=>gV
section
variable{X:Cx}{J:HN (Ic×Kb)}{Y:L2.St}{H:Hp}{s:HV}{A:HN Ic}
def xm {S1:Zs}{xs:HN W}(z1:ZRel X.K A H xs S1):MIt X.w X.K (.its (nh xs)) (Hs X.K S1) A H:=by
 refine#[λA' H' S i w e so hi=>?_,λA' H' S i e so hi=>?_]
 ·simp only[MI.at,IW]at hi;obtain⟨x,e1,rfl⟩:=pc hi;obtain⟨v,g1,r1⟩:=(z1.mono e).at e1;refine#[#[v,g1],λp H2 #[a,v',q1,hp,hn,hH]=>?_]
  subst hp hH;have ex:Ext X.K A' H' A' (bh H' a (.tup [.int i,v'])):=bX (.inl hn);exact#[ex,so.lay hn,.tup (.of aF) #v[.int,((z1.mono e).is e1 q1).mono ex]]
 ·simp only[MI.at,IW,Js,nh,HQ,List.length_zipIdx]at hi;exact(z1.mono e).out hi
def uH:bootBuiltins "enumerate" = ba (.type "enumerate"):=rfl
def As {els:HN IJ}{k0:HZ}{tp:KW}{a:IJ}{f:FA}{p pos:KW}(hg:Gl X "enumerate")(hm:X.mg "enumerate" = gV)(ha:GA X [a] f)(hs:starEach [a] X.env=[(false,eval a X.env)]) :
  GI X (.Tuple els k0 tp) (.Call (.Name "enumerate" p) [a] [] pos) (Ar f):=by
 intro J s Y H R I ⟨A,Z,S,mi,S',er,so,e,hq⟩;unfold Ar at e;split at e
 ·rename_i x S1 h1;split at e
  ·rename_i xs e1;cases e;refine Sc (gp I hg hm uH (Ky (bm (ha pos J s Y H _ I #[A,Z,S,_,_,er,so,h1,λ_ _ z=>z]) λus s1 #[vs,H1,I1,r1,A1,z1,z2,z3]=>?_) (by rw[hs]; rfl) (by rfl)))
   cases z3 with
   | cons ra t=>
    cases t;cases r1 with
    | cons ua t=>
     cases t;obtain⟨Sa,oa,Ca,za,ia,ca,ka,na,ta⟩:=mZ I1 ra ua e1;refine uF ia ca na λh' hz g1 kp=>?_
     have I2:Inv X J Y H1 { s1 with heap:=h' }:=I1.kept (t':=s1.toks) kp
     refine PC (s:={ s1 with heap:=h' }) hz ?_
     refine#[s1.heap.objs.size+1,_,_,_,H1,rfl,I2,uG (S1:=Sa) (i1:=s1.heap.objs.size) (by simp),#[#[_,hz],ta _ _ g1],λb hb=>?_,hq _ _ A1 z1 z2 (xm za)]
     have hb':s1.heap.objs.size<=b:=by
      simp only[IC,Jc,Kf]at hb;rcases hb with rfl|rfl
      ·exact KH _ _
      ·exact Ih _
     exact I1.fpOk hb' (I1.hok.fresh hb')
  ·cases e
 ·cases e
end
end Mi
namespace Mi
open PySem PySem.Spec PyProof.Rows L2
abbrev sD (g1 g2:HN W->aa->HY (W×aa))(xs:HN W)(S:aa):HY (W×aa):=match g1 xs S with
 | some r=>ba r
 | none=>g2 xs S
def hG {X:Cx}{f:HS}{g1 g2:HN W->aa->HY (W×aa)}(h1:LCall X f g1)(h2:LCall X f g2):LCall X f (sD g1 g2):=by
 intro J s Y H A S xs vs us w S' I so rl rv e;unfold sD at e;split at e
 ·rename_i r hr;cases e;exact h1 J s Y H A S xs vs us w S' I so rl rv hr
 ·exact h2 J s Y H A S xs vs us w S' I so rl rv e
inductive Bi where|len|list|tuple|int|set|sorted|range|all|min
 deriving LM
abbrev Bi.fn:Bi->HN W->aa->HY (W×aa)
 | .len=>sD oJ An|.list=>sD ja ly|.tuple=>jZ|.int=>Er|.set=>sD j4 jX|.sorted=>sD cu eM|.range=>mJ|.all=>Cv|.min=>wf
abbrev Bi.name:Bi->IH
 | .len=>"len"|.list=>"list"|.tuple=>"tuple"|.int=>"int"|.set=>"set"|.sorted=>"sorted"|.range=>"range"|.all=>"all"|.min=>"min"
inductive Me where|append|extend|join|pop|get
 deriving LM
abbrev Me.fn:Me->W->HN W->aa->HY (W×aa)
 | .append=>gN|.extend=>gO|.join=>rZ|.pop=>zH|.get=>r8
abbrev Me.name:Me->IH
 | .append=>"append"|.extend=>"extend"|.join=>"join"|.pop=>"pop"|.get=>"get"
abbrev Me.ty:Me->JX
 | .append=>"list"|.extend=>"list"|.join=>"str"|.pop=>"list"|.get=>"dict"
inductive Tg where
 | nm (i:HZ)|tp (is:HN HZ)
set_option genSizeOf false in
set_option genInjectivity false in
mutual
inductive E where
 | c (w:W)|v (i:HZ)
 | op (o:BOp) (a b:E)
 | cmp (o:COp) (a b:E)
 | and (a b:E)|or (a b:E)|not (a:E)
 | own (f:IH) (n:HZ) (es:Es)|bi (b:Bi) (es:Es)|me (m:Me) (o:E) (es:Es)
 | ix (a b:E)|sl (a:E) (lo hi:Ep)|tup (es:Es)|lst (es:Es)
 | isi (c:JX) (a:E)
 | neg (a:E)|dnew|disp (es:Es)|ite (t a b:E)
 | comp (elt:E) (tg:Tg) (it:Ie) (cs:Es) (cap:HN (HY HZ))
inductive Es where
 | nil|cons (e:E) (es:Es)
inductive Ep where
 | no|yes (e:E)
inductive Ie where
 | seq (e:E)|rng (es:Es)|zip (es:Es)|rng2 (es:Es)|enu (es:Es)
end
set_option genSizeOf false in
set_option genInjectivity false in
mutual
inductive Sm where
 | set (i:HZ) (e:E)|asg (is:HN HZ) (e:E)|par (i j:HZ) (es:Es)|put (o k e:E)
 | ex (e:E)|ret (e:E)|pass
 | ite (t:E) (a b:Ss)|whl (t:E) (b:Ss)|loop (tg:Tg) (it:Ie) (b:Ss)
inductive Ss where
 | nil|cons (s:Sm) (ss:Ss)
end
abbrev eZ:Tg->FG
 | .nm i=>z9 i
 | .tp is=>CP is
section
variable (M:IH->FF)
mutual
noncomputable def az:E->FE
 | .c w=>fC w
 | .v i=>fV i
 | .op o a b=>zL (eS o) (az a) (az b)
 | .cmp o a b=>zM o (az a) (az b)
 | .and a b=>su (az a) (az b)
 | .or a b=>zQ (az a) (az b)
 | .not a=>sv (az a)
 | .own f n es=>oY n (M f) (cG es)
 | .bi b es=>je b.fn (cG es)
 | .me m o es=>DP m.ty m.fn (az o) (cG es)
 | .ix a b=>GD (az a) (az b)
 | .sl a lo hi=>EB (az a) (sE lo) (sE hi)
 | .tup es=>wH (cG es)
 | .lst es=>wI (cG es)
 | .isi c a=>w6 c (az a)
 | .neg a=>wx (az a)
 | .dnew=>Bn
 | .disp es=>o5 (cG es)
 | .ite t a b=>zR (cK t) (az a) (az b)
 | .comp elt tg it cs cap=>j5 (iR it) (eZ tg) (At cs) (az elt) cap
noncomputable def cK:E->FT
 | .cmp o a b=>wz (zM o (az a) (az b))
 | .and a b=>wD (cK a) (cK b)
 | .or a b=>Ey (cK a) (cK b)
 | .not a=>zN (cK a)
 | .c w=>fX (fC w)
 | .v i=>fX (fV i)
 | .op o a b=>fX (zL (eS o) (az a) (az b))
 | .own f n es=>fX (oY n (M f) (cG es))
 | .bi b es=>fX (je b.fn (cG es))
 | .me m o es=>fX (DP m.ty m.fn (az o) (cG es))
 | .ix a b=>fX (GD (az a) (az b))
 | .sl a lo hi=>fX (EB (az a) (sE lo) (sE hi))
 | .tup es=>fX (wH (cG es))
 | .lst es=>fX (wI (cG es))
 | .isi c a=>fX (w6 c (az a))
 | .neg a=>fX (wx (az a))
 | .dnew=>λ_ _=>gV
 | .disp _=>λ_ _=>gV
 | .ite _ _ _=>λ_ _=>gV
 | .comp _ _ _ _ _=>λ_ _=>gV
noncomputable def cG:Es->FA
 | .nil=>g9
 | .cons e es=>dj (az e) (cG es)
noncomputable def At:Es->FT
 | .nil=>Bo
 | .cons e .nil=>cK e
 | .cons _ (.cons _ _)=>λ_ _=>gV
noncomputable def sE:Ep->FO
 | .no=>CL
 | .yes e=>sx (az e)
noncomputable def iR:Ie->FI
 | .seq e=>dX (az e)
 | .rng es=>qX (cG es)
 | .zip es=>Ap (cG es)
 | .rng2 es=>iRng2 (cG es)
 | .enu es=>Ar (cG es)
end
variable (fuel:HZ)
mutual
noncomputable def fw:Sm->FS
 | .set i e=>j3 (az M e) (z9 i)
 | .asg is e=>j3 (az M e) (CP is)
 | .par i j es=>Ab i j (cG M es)
 | .put o k e=>j3 (az M e) (Aa (az M o) (az M k))
 | .ex e=>z5 (az M e)
 | .ret e=>z7 (az M e)
 | .pass=>wQ
 | .ite t a b=>z8 (cK M t) (fA a) (fA b)
 | .whl t b=>mX (cK M t) (fA b) fuel
 | .loop tg it b=>wW (iR M it) (eZ tg) (fA b)
noncomputable def fA:Ss->FS
 | .nil=>λZ S=>ba (.nx Z,S)
 | .cons s ss=>zZ (fw s) (fA ss)
end
end
structure Gam where
 sc:HN (IH×Kx)
 N:HN IH
 fns:HN (IH×HZ)
 blt:HN IH
 dfn:IN
abbrev C0:HY Kx->IN
 | some .local=>true|some .cell=>true|some .free=>true|_=>false
abbrev Au:HY Kx->IN
 | some .cell=>true|some .free=>true|_=>false
abbrev fB (names outer:HN (IH×Kx)):HN (IH×Kx):=names.map λ(n,k)=>if (k==.free&&outer.lookup n==ba .cell)then(n,.cell)else(n,k)
abbrev slot (Γ:Gam)(x:IH):HY HZ:=if C0 (Γ.sc.lookup x) && !(x==("__debug__" : IH)) && !(x==("__classdict__" : IH))then Γ.N.findIdx? (· == x)else gV
abbrev sF:Pg->HY BOp
 | .Add=>ba .add|.Sub=>ba .sub|.Mult=>ba .mul|.FloorDiv=>ba .fdiv|.Mod=>ba .mod|.Pow=>ba .pow|_=>gV
abbrev sG:Ra->HY COp
 | .Eq=>ba .eq|.NotEq=>ba .ne|.Lt=>ba .lt|.LtE=>ba .le|.Gt=>ba .gt|.GtE=>ba .ge|.In=>ba .isin|.NotIn=>ba .notin|.Is=>ba .is|.IsNot=>ba .isnot
abbrev Av (x:IH):HY Bi:=[Bi.len,.list,.tuple,.int,.set,.sorted,.range,.all,.min].find? λb=>b.name==x
abbrev Aw (x:IH):HY Me:=[Me.append,.extend,.join,.pop,.get].find? λb=>b.name==x
abbrev EN (Γ:Gam)(x:IH):IN:=Γ.sc.lookup x==ba .globalImplicit && !(x==("__debug__" : IH))
abbrev xn (x:IH):HY JX:=if x==("bool" : IH)then ba "bool" else if x==("int" : IH)then ba "int" else if x==("str" : IH)then ba "str" else if x==("tuple" : IH)then ba "tuple" else if x==("list" : IH)then ba "list" else if x==("dict" : IH)then ba "dict" else gV
abbrev sH:HN (HY IJ)->HN IJ->HN IJ
 | some k::ks,v::vs=>k::v::sH ks vs
 | _,_=>[]
abbrev Ax (Γ:Gam)(f:IJ->HY E):HN IJ->HY E
 | [a,.Name c _]=>if EN Γ c&&Γ.blt.contains c then match xn c,f a with
  | some cs,ba a'=>ba (.isi cs a')
  | _,_=>gV
  else gV
 | _=>gV
abbrev fM:IJ->IN
 | .Name _ _=>true|.Constant _ _ _=>true|.Subscript _ _ _=>true|_=>false
abbrev j7 (Γ:Gam)(x:IH):IN:=Γ.sc.lookup x==ba .globalImplicit && !(x==("__debug__" : IH))
abbrev cO (Γ:Gam)(x:IH):HY HZ:=if (Γ.sc.lookup x==ba .local)||(Γ.dfn&&Γ.sc.lookup x==ba .cell)then Γ.N.findIdx? (· == x)else gV
abbrev cA (f:IJ->HY E)(es:HN IJ):HY Es:=es.foldr (λe acc=>match f e,acc with|some e',ba es'=>ba (.cons e' es')|_,_=>gV) (ba .nil)
abbrev cB (f:IJ->HY E)(op:RM):HN IJ->HY E
 | []=>gV
 | [a]=>f a
 | a::b::bj=>match f a,cB f op (b::bj)with
  | some a',ba b'=>ba (match op with|.And=>.and a' b'|.Or=>.or a' b')
  | _,_=>gV
abbrev cP (f:IJ->HY E):HY IJ->HY Ep
 | none=>ba .no
 | some e=>(f e).map .yes
abbrev isTup:IJ->IN
 | .Tuple _ _ _=>true
 | _=>false
abbrev cI (Γ:Gam)(f:IJ->HY E)(tg:IJ):IJ->HY Ie
 | .Call (.Name x p) [a] [] q=>if x==("range" : IH)&&j7 Γ x&&Γ.blt.contains x then(cA f [a]).map .rng else if x==("enumerate" : IH)&&j7 Γ x&&Γ.blt.contains x&&isTup tg then(cA f [a]).map .enu else(f (.Call (.Name x p) [a] [] q)).map .seq
 | .Call (.Name x p) [a,b] [] q=>if x==("zip" : IH)&&j7 Γ x&&Γ.blt.contains x&&isTup tg then(cA f [a,b]).map .zip else if x==("range" : IH)&&j7 Γ x&&Γ.blt.contains x then(cA f [a,b]).map .rng2 else(f (.Call (.Name x p) [a,b] [] q)).map .seq
 | e=>(f e).map .seq
abbrev DR (Γ:Gam):HN IJ->HY (HN HZ)
 | []=>ba []
 | .Name x _::ts=>match cO Γ x,DR Γ ts with
  | some i,ba is=>ba (i::is)
  | _,_=>gV
 | _::_=>gV
abbrev cT (Γ:Gam):IJ->HY Tg
 | .Name x _=>(cO Γ x).map .nm
 | .Tuple ts _ _=>(DR Γ ts).map .tp
 | _=>gV
abbrev gh (names:HN (IH×Kx)):HN IH:=(names.filter λp=>p.2==.local||p.2==.free).map (·.1)
abbrev fN (Γ:Gam)(names:HN (IH×Kx)):HN (HY HZ):=(gh names).map λx=>if names.lookup x==ba .local then gV else Γ.N.findIdx? (· == x)
abbrev xo (Γ:Gam)(scope:LJ):IN:=
 (scope.kind==.function)&&scope.names.all (λy=>!(y.2==.local)||scope.names.lookup y.1==ba .local)&&scope.names.all (λy=>!(y.2==.cell)) &&
 scope.names.all (λy=>!(y.2==.free)||(Au (Γ.sc.lookup y.1)&&scope.names.lookup y.1==ba .free&&(Γ.N.findIdx? (· == y.1)).isSome))&&decide (gh scope.names).Nodup
abbrev gk (Γ:Gam)(scope:LJ):Gam:={ Γ with sc:=fB scope.names Γ.sc,N:=gh scope.names,dfn:=false }
abbrev xp (f:IJ->HY E)(keys:HN (HY IJ))(values:HN IJ):HY E:=
 if keys.isEmpty&&values.isEmpty then ba .dnew
 else if keys.all (·.isSome)&&decide (keys.length=values.length)&&decide (keys.length<=15)then(cA f (sH keys values)).map .disp else gV
abbrev cE:HZ->Gam->IJ->HY E
 | 0,_,_=>gV
 | n+1,Γ,e=>match e with
  | .Constant (.int i) _ _=>ba (.c (.int i))
  | .Constant (.str x) _ _=>ba (.c (.str x))
  | .Constant (.bool b) _ _=>ba (.c (.bl b))
  | .Constant .none _ _=>ba (.c .non)
  | .Name x _=>match slot Γ x with
   | some i=>ba (.v i)
   | none=>gV
  | .BinOp a op b _=>match sF op,cE n Γ a,cE n Γ b with
   | some o,ba a',ba b'=>ba (.op o a' b')
   | _,_,_=>gV
  | .UnaryOp .Not a _=>(cE n Γ a).map .not
  | .UnaryOp .USub a _=>(cE n Γ a).map .neg
  | .BoolOp op vs _=>cB (cE n Γ) op vs
  | .Compare a [op] [b] _=>match sG op,cE n Γ a,cE n Γ b with
   | some o,ba a',ba b'=>ba (.cmp o a' b')
   | _,_,_=>gV
  | .IfExp t a b _=>match cE n Γ t,cE n Γ a,cE n Γ b with
   | some t',ba a',ba b'=>ba (.ite t' a' b')
   | _,_,_=>gV
  | .Call (.Name f _) args [] _=>if j7 Γ f then match Γ.fns.lookup f with
    | some k=>(cA (cE n Γ) args).map (.own f k)
    | none=>if f==("isinstance" : IH)then(if Γ.blt.contains f then Ax Γ (cE n Γ) args else gV)else match Av f,args with
     | some b,a::as=>if Γ.blt.contains f then(cA (cE n Γ) (a::as)).map (.bi b)else gV
     | _,_=>gV
   else gV
  | .Call (.Attribute o m apos) (a::as) [] cpos=>match Aw m,cE n Γ o,cA (cE n Γ) (a::as)with
   | some m',ba o',ba es=>if fM o&&(apos.endLine==cpos.line)&&decide ((a::as).length < 29)then ba (.me m' o' es)else gV
   | _,_,_=>gV
  | .Subscript a (.Slice lo hi gV _) _=>match cE n Γ a,cP (cE n Γ) lo,cP (cE n Γ) hi with
   | some a',ba lo',ba hi'=>ba (.sl a' lo' hi')
   | _,_,_=>gV
  | .Subscript a b _=>match cE n Γ a,cE n Γ b with
   | some a',ba b'=>ba (.ix a' b')
   | _,_=>gV
  | .Tuple es _ _=>(cA (cE n Γ) es).map .tup
  | .List es _=>(cA (cE n Γ) es).map .lst
  | .Dict keys values _=>xp (cE n Γ) keys values
  | .ListComp elt [#[tg,iter,ifs,asy]] scope _=>if (asy==0)&&(xo Γ scope&&decide (ifs.length<=1))then
    match cI Γ (cE n Γ) tg iter,cT (gk Γ scope) tg,cA (cE n (gk Γ scope)) ifs,cE n (gk Γ scope) elt with
    | some it,ba t,ba cs,ba el=>ba (.comp el t it cs (fN Γ scope.names))
    | _,_,_,_=>gV
   else gV
  | _=>gV
structure CtxOk (M:IH->FF)(X:Cx)(Γ:Gam):Prop where
 names:X.env.scope.names=Γ.sc
 kind:X.env.scope.kind=.function
 N:X.N=Γ.N
 nd:Γ.N.Nodup
 calm:X.calm=true
 xe:X.xe=λ_ _=>JR
 un:X.A.units+gw < cLine
 dfn:Γ.dfn=true->∀x,X.fn x=true
 blt:∀x∈Γ.blt,X.mg x=gV
 fns:∀f n,Γ.fns.lookup f=ba n->∃k fa fd ps,FnOk X.prog X.w X.K X.mg X.base u6 k fa fd ps (wL X.w X.K n (M f))/\Room k X.A/\X.mg f=ba (.ref fa)/\J0 X.K (.ref fa)=true/\Binds X.K fd ps []
def aG {α:Type}{x:α}{P:Prop}(h:(gV:HY α)=ba x):P:=nomatch h
abbrev gC:IJ->IN
 | .Starred _ _=>false
 | _=>true
def ap {e:IJ}{es:HN IJ}{env:Pd}(h:gC e=true):starEach (e::es) env=(false,eval e env)::starEach es env:=by
 cases e <;> first|rfl|cases h
def aS {env:Pd}{pos:KW}:∀ {es:HN IJ},es.all gC=true->(backTo pos (starEach es env)).any (·.1)=false
 | [],_=>rfl
 | e::es,h=>by
  rw[Jw,HX]at h;rw[ap h.1];show(false||(backTo pos (starEach es env)).any (·.1))=false
  rw[aS h.2];rfl
def pd {env:Pd}{pos:KW}:∀ {es:HN IJ},es.all gC=true->(backTo pos (starEach es env)).all (λx=>!x.1)=true
 | [],_=>rfl
 | e::es,h=>by
  rw[Jw,HX]at h;rw[ap h.1];show(true&&(backTo pos (starEach es env)).all (λx=>!x.1))=true
  rw[pd h.2];rfl
def iS {n:HZ}{Γ:Gam}{e:IJ}{e':E}(h:cE n Γ e=ba e'):gC e=true:=by
 cases n with
 | zero=>cases h
 | succ n=>cases e <;> first|rfl|(exact aG h)
def hW {f:IJ->HY E}{e:IJ}{es:HN IJ}{r:Es}(h:cA f (e::es)=ba r):∃e' es',f e=ba e'/\cA f es=ba es'/\r=.cons e' es':=by
 simp only[cA,Qk]at h;split at h
 ·rename_i e' es' h1 h2;cases h;exact#[e',es',h1,h2,rfl]
 ·cases h
def bL {n:HZ}{Γ:Gam}:∀ {es:HN IJ} {r:Es},cA (cE n Γ) es=ba r->es.all gC=true
 | [],_,_=>rfl
 | e::es,r,h=>by
  obtain⟨e',es',h1,h2,_⟩:=hW h;rw[Jw,iS h1,bL h2];rfl
def c9 {N:HN IH}{x:IH}{i:HZ}(h:N.findIdx? (· == x)=ba i):N[i]?=ba x:=by
 obtain⟨hl,h1,_⟩:=List.findIdx?_eq_some_iff_getElem.mp h;rw[Ig hl];exact congrArg ba (eq_of_beq h1)
section
variable{M:IH->FF}{X:Cx}{Γ:Gam}
def jv {e:IJ}:GT X e (λ_ _=>gV):=λJ s Y H Q I #[A,Z,S,k,S',er,so,e1,hq]=>by cases e1
def xq {x:IH}(h:C0 (X.env.scope.names.lookup x)=true):FM X.env.scope x:=by
 unfold C0 at h;split at h
 ·exact .inl (by assumption)
 ·exact .inr (.inl (by assumption))
 ·exact .inr (.inr (by assumption))
 ·cases h
def xr (K:CtxOk M X Γ){x:IH}{pos:KW}{i:HZ}(h:slot Γ x=ba i):GE X (.Name x pos) (fV i):=by
 unfold slot at h;split at h
 ·rename_i hc;rw[HX,HX]at hc;obtain⟨⟨h1,h2⟩,h3⟩:=hc;refine GC (u9 (by rw[K.N]; exact c9 h) (xq (by rw[K.names]; exact h1)) (by simpa using h2) (by simpa using h3))
 ·cases h
def jf (K:CtxOk M X Γ){x:IH}(h:j7 Γ x=true):Gl X x/\(x==("__debug__" : IH))=false:=by
 unfold j7 at h;rw[HX]at h;refine#[?_,by simpa using h.2]
 show X.env.scope.names.lookup x=_;rw[K.names];exact eq_of_beq h.1
def xt {o:Ra}{c:COp}(h:sG o=ba c):c.py=o:=by
 cases o <;> (simp only[sG,IW]at h; subst h; rfl)
def xu {o:Pg}{c:BOp}(h:sF o=ba c):c.py=o:=by
 cases o <;> simp only[sF,IW]at h <;> first|(subst h; rfl)|cases h
def uI {x:IH}{b:Bi}(h:Av x=ba b):b.name=x:=by
 have:=Oa h;exact eq_of_beq this
def uJ {x:IH}{b:Me}(h:Aw x=ba b):b.name=x:=by
 have:=Oa h;exact eq_of_beq this
def cQ {n:HZ}(ih:∀ {e:IJ} {e':E},cE n Γ e=ba e'->GE X e (az M e')):∀ {es:HN IJ} {r:Es},cA (cE n Γ) es=ba r->GA X es (cG M r)
 | [],r,h=>by cases h; exact CK
 | e::es,r,h=>by
  obtain⟨e',es',h1,h2,rfl⟩:=hW h;exact zS (ih h1) (cQ ih h2) (ap (iS h1))
def EO (K:CtxOk M X Γ){n:HZ}{f:IH}{p pos:KW}{args:HN IJ}{k:HZ}{r:Es}(hg:j7 Γ f=true)(hf:Γ.fns.lookup f=ba k)(ha:cA (cE n Γ) args=ba r)(h:GA X args (cG M r)):GE X (.Call (.Name f p) args [] pos) (oY k (M f) (cG M r)):=by
 obtain⟨d,fa,fd,ps,F,hr,hm,hk,hb⟩:=K.fns f k hf;obtain⟨g1,g2⟩:=jf K hg;cases args with
 | nil=>cases ha; exact zX F hr g1 hm hk hb g2
 | cons a as=>
  have ns:=bL ha;rw[Jw,HX]at ns;exact CM F hr g1 hm hk hb h g2 (ap ns.1) (aS ns.2)
def GH (K:CtxOk M X Γ){n:HZ}{f:IH}{p pos:KW}{a:IJ}{as:HN IJ}{b:Bi}{r:Es}(hg:j7 Γ f=true)(hb:Av f=ba b)(hc:Γ.blt.contains f=true)(ha:cA (cE n Γ) (a::as)=ba r)(h:GA X (a::as) (cG M r)):GE X (.Call (.Name f p) (a::as) [] pos) (je b.fn (cG M r)):=by
 obtain⟨g1,g2⟩:=jf K hg;have hm:X.mg f=gV:=K.blt f (by simpa using hc)
 have ns:=bL ha;rw[Jw,HX]at ns;have e:=uI hb;subst e;have hu:X.A.units+12 < cLine:=by have:=K.un; have:gw=20:=rfl; omega
 have calm:∀ {f:HS} {g:HN W->aa->HY (W×aa)},(X.A.handled=gV->LCall X f g)->LCall X f g:=λh J s Y H A S xs vs us w S' I=>h (I.ok.hd K.calm) J s Y H A S xs vs us w S' I
 cases b with
 | len=>exact sw (hG qZ q9) g1 hm PySem.boot_len h #v[] g2 (ap ns.1) (aS ns.2)
 | list=>exact oW (calm λhh=>hG (ou hh) (oM hh)) g1 hm rfl h #v[] g2 (ap ns.1) (aS ns.2)
 | tuple=>exact oW (calm mW) g1 hm rfl h #v[] g2 (ap ns.1) (aS ns.2)
 | int=>exact oW t4 g1 hm rfl h #v[] g2 (ap ns.1) (aS ns.2)
 | set=>exact oW (calm λhh=>hG (q8 hh) (qU hh hu)) g1 hm rfl h #v[] g2 (ap ns.1) (aS ns.2)
 | sorted=>exact sw (calm λhh=>hG (oU hh hu) (mR hh hu)) g1 hm rfl h #v[] g2 (ap ns.1) (aS ns.2)
 | range=>exact oW oq g1 hm rfl h #v[] g2 (ap ns.1) (aS ns.2)
 | all=>exact sw (calm uB) g1 hm rfl h #v[] g2 (ap ns.1) (aS ns.2)
 | min=>exact sw (calm λhh=>uz hh hu) g1 hm rfl h #v[] g2 (ap ns.1) (aS ns.2)
def xv {x:IH}{c:JX}(h:xn x=ba c):bootBuiltins x=ba (.type c)/\x≠"__name__":=by
 unfold xn at h;split at h
 ·rename_i e; cases h; rw[eq_of_beq e]; exact#[rfl,#v[]]
 ·split at h
  ·rename_i e; cases h; rw[eq_of_beq e]; exact#[rfl,#v[]]
  ·split at h
   ·rename_i e; cases h; rw[eq_of_beq e]; exact#[rfl,#v[]]
   ·split at h
    ·rename_i e; cases h; rw[eq_of_beq e]; exact#[rfl,#v[]]
    ·split at h
     ·rename_i e; cases h; rw[eq_of_beq e]; exact#[rfl,#v[]]
     ·split at h
      ·rename_i e; cases h; rw[eq_of_beq e]; exact#[rfl,#v[]]
      ·cases h
def EQ (K:CtxOk M X Γ){n:HZ}{f:IH}{p pos:KW}{args:HN IJ}{r:E}(hg:j7 Γ f=true)(hb:(f==("isinstance" : IH))=true)(hc:Γ.blt.contains f=true)(ih:∀ {e:IJ} {e':E},cE n Γ e=ba e'->GE X e (az M e'))(h:Ax Γ (cE n Γ) args=ba r) :
  GE X (.Call (.Name f p) args [] pos) (az M r)/\∃a c,r=.isi c a:=by
 obtain⟨g1,g2⟩:=jf K hg;have hm:X.mg f=gV:=K.blt f (by simpa using hc)
 have e:=eq_of_beq hb;subst e;unfold Ax at h;split at h
 ·rename_i a c q;split at h
  ·rename_i hcc;rw[HX]at hcc;obtain⟨g3,g4⟩:=jf K (x:=c) hcc.1;have hm2:X.mg c=gV:=K.blt c (by simpa using hcc.2)
   split at h
   ·rename_i cs a' h1 h2;cases h;obtain⟨b1,b2⟩:=xv h1;exact#[CW g1 hm g3 hm2 b1 b2 g4 (ih h2) (ap (iS h2)),a',cs,rfl]
   ·cases h
  ·cases h
 ·cases h
def eB {o:IJ}{name:IH}{env:Pd}(h:fM o=true):attributeBase o name env (eval o env)=eval o env:=by
 cases o <;> first|rfl|cases h
def sI {n:HZ}{pos:KW}(ih:∀ {e:IJ} {e':E},cE n Γ e=ba e'->GE X e (az M e')):∀(keys:HN (HY IJ)) (values:HN IJ) {r:Es},keys.all (·.isSome)=true->keys.length=values.length->cA (cE n Γ) (sH keys values)=ba r->EG X pos keys values (cG M r)
 | [],[],r,_,_,h=>by cases h; exact Aj
 | [],_::_,r,_,hl,_=>by cases hl
 | _::_,[],r,_,hl,_=>by cases hl
 | none::_,_::_,r,ha,_,_=>by cases ha
 | some k::ks,v::vs,r,ha,hl,h=>by
  dsimp only[sH]at h;obtain⟨e1,es1,h1,h2,rfl⟩:=hW h;obtain⟨e2,es2,h3,h4,rfl⟩:=hW h2;rw[Jw,HX]at ha;exact w8 (ih h1) (ih h3) (sI ih ks vs ha.2 (by simpa using hl) h4)
def GJ (K:CtxOk M X Γ){n:HZ}{m:IH}{apos cpos:KW}{o a:IJ}{as:HN IJ}{b:Me}{o':E}{r:Es}(hm:Aw m=ba b)(hr:fM o=true)(hl:(apos.endLine==cpos.line)=true)(hn:(a::as).length < 29)(ho:GE X o (az M o'))(ha:cA (cE n Γ) (a::as)=ba r)(h:GA X (a::as) (cG M r)) :
  GE X (.Call (.Attribute o m apos) (a::as) [] cpos) (DP b.ty b.fn (az M o') (cG M r)):=by
 have ns:=bL ha;have ns':=ns;rw[Jw,HX]at ns;have iE:((backTo cpos (starEach (a::as) X.env)).all (λx=>!x.1)&&(backToKw cpos (keywordEach [] X.env)).all (λx=>x.1.isSome)&&decide ((a::as).length+([]:HN Qm).length+(if ([]:HN Qm).isEmpty then 0 else 1) < 30))=true:=by
  rw[pd ns',MN,HX];exact#[rfl,JG (by simp only[KD,List.isEmpty_nil,Kd]; omega)]
 have e:=uJ hm;subst e;cases b with
 | append=>exact oX Mt PySem.F.slot_list_append PySem.F.type_list_append mH ho h (eB hr) iE hl (ap ns.1) (aS ns.2)
 | extend=>exact oX Mt PySem.F.slot_list_extend PySem.F.type_list_extend mI ho h (eB hr) iE hl (ap ns.1) (aS ns.2)
 | join=>exact oX PySem.F.plainAttrs_str PySem.F.slot_str_join PySem.F.type_str_join qF ho h (eB hr) iE hl (ap ns.1) (aS ns.2)
 | pop=>exact oX Mt PySem.F.slot_list_pop PySem.F.type_list_pop t8 ho h (eB hr) iE hl (ap ns.1) (aS ns.2)
 | get=>exact oX PySem.F.plainAttrs_dict Og PySem.F.type_dict_get (qK (by have:=K.un; have:gw=20:=rfl; omega)) ho h (eB hr) iE hl (ap ns.1) (aS ns.2)
def pe {n:HZ}{Γ:Gam}{e:IJ}{e':E}{op:Ra}(h:cE n Γ e=ba e'):behindInMarks op e=false:=by
 cases n with
 | zero=>cases h
 | succ n=>cases e <;> first|rfl|(exact aG h)
def rf {n:HZ}{Γ:Gam}{e:IJ}{e':E}(h:cE n Γ e=ba e'):my e:=by
 cases n with
 | zero=>cases h
 | succ n=>cases e <;> first|(intro o i; rfl)|(exact aG h)
def ni {n:HZ}{Γ:Gam}{f:IJ->HY E}{e:IJ}{i:Ie}{env:Pd}{tg:IJ}(hf:∀el k p,f (.Set el k p)=gV)(h:cI Γ f tg e=ba i):∀x,foldedSetIterable e env x=pure x:=by
 intro x;cases e <;> first|rfl|(simp[cI,hf]at h)
def nj {n:HZ}{op:RM}{pos:KW}(ih:∀ {e:IJ} {e':E},cE n Γ e=ba e'->GE X e (az M e')):∀ {vs:HN IJ} {r:E},cB (cE n Γ) op vs=ba r->GE X (.BoolOp op vs pos) (az M r)
 | [],r,h=>by cases h
 | [a],r,h=>CG (ih h)
 | a::b::bj,r,h=>by
  simp only[cB]at h;split at h
  ·rename_i a' b' h1 h2;cases h;cases op with
   | And=>exact CH (ih h1) (nj ih h2)
   | Or=>exact EA (ih h1) (nj ih h2)
  ·cases h
def nk {n:HZ}{op:RM}{pos:KW}(ih:∀ {e:IJ} {e':E},cE n Γ e=ba e'->GT X e (cK M e')):∀ {vs:HN IJ} {r:E},cB (cE n Γ) op vs=ba r->GW X (.BoolOp op vs pos) (cK M r)
 | [],r,h=>by cases h
 | [a],r,h=>by
  cases op with
  | And=>exact zP (ih h)
  | Or=>exact CC (ih h)
 | a::b::bj,r,h=>by
  simp only[cB]at h;split at h
  ·rename_i a' b' h1 h2;cases h;cases op with
   | And=>exact CD (ih h1) (nk ih h2)
   | Or=>exact Ez (ih h1) (nk ih h2)
  ·cases h
def xw {n:HZ}(ih:∀ {e:IJ} {e':E},cE n Γ e=ba e'->GE X e (az M e')){o:HY IJ}{p:Ep}(h:cP (cE n Γ) o=ba p):GO X o (sE M p):=by
 cases o with
 | none=>cases h; exact zU
 | some e=>
  simp only[cP,HU]at h;obtain⟨e',h1,rfl⟩:=h;exact zW (ih h1)
def rg (K:CtxOk M X Γ){n:HZ}(ih:∀ {e:IJ} {e':E},cE n Γ e=ba e'->GE X e (az M e')){tg e:IJ}{i:Ie}(h:cI Γ (cE n Γ) tg e=ba i):GI X tg e (iR M i):=by
 have gen:(cE n Γ e).map Ie.seq=ba i->GI X tg e (iR M i):=λh=>by
  rw[HU]at h;obtain⟨e',h1,rfl⟩:=h;exact Am (ih h1)
 unfold cI at h;split at h
 ·rename_i x p a pos;split at h
  ·rename_i hc;rw[HX,HX]at hc;obtain⟨⟨h1,h2⟩,h3⟩:=hc;have hx:=eq_of_beq h1;subst hx;rw[HU]at h;obtain⟨r,hr,rfl⟩:=h;have ns:=bL hr;rw[Jw,HX]at ns;exact Ag (jf K h2).1 (K.blt _ (by simpa using h3)) (cQ ih hr) (ap ns.1)
  ·split at h
   ·rename_i hc;rw[HX,HX,HX]at hc;obtain⟨⟨⟨h1,h2⟩,h3⟩,h4⟩:=hc;have hx:=eq_of_beq h1;subst hx;rw[HU]at h;obtain⟨r,hr,rfl⟩:=h;have ns:=bL hr;rw[Jw,HX]at ns;cases tg with
    | Tuple els k0 tp=>exact As (jf K h2).1 (K.blt _ (by simpa using h3)) (cQ ih hr) (ap ns.1)
    | _=>cases h4
   ·exact gen h
 ·rename_i x p a b pos;split at h
  ·rename_i hc;rw[HX,HX,HX]at hc;obtain⟨⟨⟨h1,h2⟩,h3⟩,h4⟩:=hc;have hx:=eq_of_beq h1;subst hx;rw[HU]at h;obtain⟨r,hr,rfl⟩:=h;have ns:=bL hr;rw[Jw,Jw,HX,HX]at ns;cases tg with
   | Tuple els k0 tp=>exact CZ (jf K h2).1 (K.blt _ (by simpa using h3)) (cQ ih hr) (by rw[ap ns.1,ap ns.2.1]; rfl) (ap ns.2.1)
   | _=>cases h4
  ·split at h
   ·rename_i hc;rw[HX,HX]at hc;obtain⟨⟨h1,h2⟩,h3⟩:=hc;have hx:=eq_of_beq h1;subst hx;rw[HU]at h;obtain⟨r,hr,rfl⟩:=h;have ns:=bL hr;rw[Jw,Jw,HX,HX]at ns;exact Ah (jf K h2).1 (K.blt _ (by simpa using h3)) (cQ ih hr) (by rw[ap ns.1,ap ns.2.1]; rfl) (ap ns.2.1)
   ·exact gen h
 ·exact gen h
def nq (K:CtxOk M X Γ){x:IH}{i:HZ}(h:cO Γ x=ba i):X.N[i]?=ba x/\yO X.env.scope x/\(X.fn x=true\/X.env.scope.names.lookup x=ba .local):=by
 unfold cO at h;split at h
 ·rename_i hc;refine#[by rw[K.N]; exact c9 h,?_]
  unfold L2.yO;rw[K.names];rw[Kq,HX]at hc;rcases hc with hc|⟨hd,hc⟩
  ·have:=eq_of_beq hc;exact#[.inl this,.inr this]
  ·exact#[.inr (eq_of_beq hc),.inl (K.dfn hd x)]
 ·cases h
def pf (K:CtxOk M X Γ):∀ {ts:HN IJ} {is:HN HZ},DR Γ ts=ba is->(∀x∈ts,∃y p,x=OH y p)/\NS (λ(t:IJ) (i:HZ)=>∃x p,t=OH x p/\X.N[i]?=ba x/\yO X.env.scope x/\(X.fn x=true\/X.env.scope.names.lookup x=ba .local)) ts is
 | [],is,h=>by cases h; exact#[λx hx=>by simp at hx,.nil]
 | t::ts,is,h=>by
  cases t with
  | Name x p=>
   dsimp only[DR]at h;split at h
   ·rename_i i is' h1 h2;cases h;obtain⟨a,b⟩:=pf K h2;exact#[λy hy=>(IC.mp hy).elim (λe=>#[x,p,e]) (a y),.cons #[x,p,rfl,nq K h1] b]
   ·cases h
  | _=>cases h
def gD {env:Pd}:∀ {ts:HN IJ},(∀x∈ts,∃y p,x=OH y p)->(assignEach ts env).length=ts.length/\(assignEach ts env).findIdx? (·.1)=gV
 | [],_=>#[rfl,rfl]
 | t::ts,h=>by
  obtain⟨y,p,rfl⟩:=h t JJ;obtain⟨a,b⟩:=gD (env:=env) λx hx=>h x (JD _ hx)
  refine#[by show(assignEach ts env).length+1=ts.length+1; rw[a],?_]
  show List.findIdx? (·.1) ((false,assign (.Name y p) env)::assignEach ts env)=gV
  rw[List.findIdx?_cons,b];rfl
def sJ (K:CtxOk M X Γ){tg:IJ}{t:Tg}(h:cT Γ tg=ba t):GG X tg (eZ t):=by
 have hN:X.N.Nodup:=by rw[K.N]; exact K.nd
 cases tg with
 | Name x p=>
  dsimp only[cT]at h; simp only[HU]at h
  obtain⟨i,h1,rfl⟩:=h;obtain⟨a,b,c⟩:=nq K h1;exact sy hN a b c
 | Tuple ts k p=>
  dsimp only[cT]at h; simp only[HU]at h
  obtain⟨is,h1,rfl⟩:=h;obtain⟨a,b⟩:=pf K h1;exact CQ K.calm a b hN (gD a).1 (gD a).2
 | _=>cases h
end
abbrev eu (env:Pd):HN (IH×Kx)->HN (IH×Ic)->HN (IH×Ic)
 | [],cs=>cs
 | (n,k)::r,cs=>eu env r (if k==.free then(n,(env.cells.lookup n).getD 0)::cs else cs)
def iT {env:Pd}:∀(names:HN (IH×Kx)) (cs:HN (IH×Ic)),(∀y∈names,y.2=.free->(env.cells.lookup y.1).isSome=true)->
  (forIn names cs λx r=>match x with|(name,kind)=>if (kind==Mj)=true then do let a <- cellOf env name; pure (Kr ((name,a)::r))else pure (Kr r):Ry (HN (IH×Ic)))=pure (eu env names cs)
 | [],cs,_=>by rw[Ox]; rfl
 | (n,k)::r,cs,h=>by
  rw[MY];have hr:=λy hy=>h y (JD _ hy)
  by_cases hk:(k==Mj)=true
  ·obtain⟨c,hc⟩:=Jv.mp (h (n,k) JJ (eq_of_beq hk));have e1:cellOf env n=pure c:=by unfold cellOf; rw[hc]
   simp only[hk,Kd,e1,pure_bind];rw[iT r _ hr];simp only[eu,hk,Kd,hc,P2]
  ·have hk':(k==Mj)=false:=by simpa using hk
   simp only[hk',IK,JK,pure_bind];rw[iT r _ hr];simp only[eu,hk',IK,JK]
def jn {scope:LJ}{env:Pd}(h:∀y∈scope.names,y.2=.free->(env.cells.lookup y.1).isSome=true):closureFor scope env=pure (eu env scope.names []):=by
 have:=iT scope.names [] h;unfold closureFor;simp only[this,pure_bind]
def j8 {env:Pd}:∀(names:HN (IH×Kx)) (cs:HN (IH×Ic)),(∀y∈names,y.2=.free->(env.cells.lookup y.1).isSome=true)->(∀x c,cs.lookup x=ba c->env.cells.lookup x=ba c)->
  ∀x c,(eu env names cs).lookup x=ba c->env.cells.lookup x=ba c
 | [],cs,_,h,x,c,e=>h x c e
 | (n,k)::r,cs,hn,h,x,c,e=>by
  refine j8 r _ (λy hy=>hn y (JD _ hy)) (λx c e=>?_) x c e
  split at e
  ·rename_i hk;rw[Kh]at e;split at e
   ·rename_i hx;cases e;have:=eq_of_beq hx;subst this;obtain⟨c,hc⟩:=Jv.mp (hn (x,k) JJ (eq_of_beq hk));rw[hc]; rfl
   ·exact h x c e
  ·exact h x c e
def jg {env:Pd}{x:IH}:∀(names:HN (IH×Kx)) (cs:HN (IH×Ic)),(∃c,cs.lookup x=ba c)->∃c,(eu env names cs).lookup x=ba c
 | [],cs,h=>h
 | (n,k)::r,cs,h=>by
  refine jg r _ ?_;split
  ·rw[Kh];split
   ·exact#[_,rfl]
   ·exact h
  ·exact h
def j9 {env:Pd}{x:IH}:∀(names:HN (IH×Kx)) (cs:HN (IH×Ic)),(x,Mj)∈names->∃c,(eu env names cs).lookup x=ba c
 | [],cs,h=>by simp at h
 | (n,k)::r,cs,h=>by
  rcases IC.mp h with e|h
  ·cases e;refine jg r _ ?_;simp[Kh]
  ·exact j9 r _ h
def ke {x:IH}{k:Kx}:∀ {l:HN (IH×Kx)},l.lookup x=ba k->(x,k)∈l
 | [],h=>by simp at h
 | (n,j)::r,h=>by
  rw[Kh]at h;split at h
  ·rename_i hx;cases h;have:=eq_of_beq hx;subst this;exact JJ
  ·exact JD _ (ke h)
def ev {X:Cx}{M:IH->FF}{Γ:Gam}(K:CtxOk M X Γ)(scope:LJ):(relabel scope X.env).names=fB scope.names Γ.sc:=by
 unfold relabel fB NZ;rw[K.kind,K.names];refine JM λ#[n,k] _=>?_
 have e:(O8==O8)=true:=rfl;simp only[e,Mh]
def dI {outer:HN (IH×Kx)}{x:IH}:∀ {names:HN (IH×Kx)},(fB names outer).lookup x=(names.lookup x).map λk=>if (k==.free&&outer.lookup x==ba .cell)then .cell else k
 | []=>rfl
 | (n,k)::r=>by
  have ih:=dI (outer:=outer) (x:=x) (names:=r);show List.lookup x ((if (k==Mj&&outer.lookup n==ba .cell)=true then(n,Sk)else(n,k))::fB r outer)=_
  cases hx:x==n with
  | true=>
   have:=eq_of_beq hx;subst this;simp only[Kh,Jm,Ja];split <;> simp[Kh]
  | false=>
   simp only[Kh,hx];split <;> (simp only[Kh,hx]; exact ih)
section
variable{M:IH->FF}{X:Cx}{Γ:Gam}
structure ScOk (Γ:Gam)(scope:LJ):Prop where
 kind:scope.kind=.function
 names:∀y∈scope.names,y.2=.local->scope.names.lookup y.1=ba .local
 nocell:∀y∈scope.names,y.2≠.cell
 free:∀y∈scope.names,y.2=.free->Au (Γ.sc.lookup y.1)=true/\scope.names.lookup y.1=ba .free/\(Γ.N.findIdx? (· == y.1)).isSome=true
 nd:(gh scope.names).Nodup
def sK {scope:LJ}(h:xo Γ scope=true):ScOk Γ scope:=by
 unfold xo at h;rw[HX,HX,HX,HX]at h;obtain⟨⟨⟨⟨h1,h2⟩,h3⟩,h4⟩,h5⟩:=h;refine#[eq_of_beq h1,λy hy e=>?_,λy hy e=>?_,λy hy e=>?_,Je h5]
 ·have:=IG.mp h2 y hy;rw[e]at this
  simpa using this
 ·have:=IG.mp h3 y hy;rw[e]at this;simp at this
 ·have:=IG.mp h4 y hy;rw[e]at this;simp only[Jm,KJ,NK,HX]at this;exact#[this.1.1,eq_of_beq this.1.2,this.2]
def sL {o:HY Kx}(h:Au o=true):o=ba .cell\/o=ba .free:=by
 unfold Au at h;split at h
 ·exact .inl rfl
 ·exact .inr rfl
 ·cases h
def lM (K:CtxOk M X Γ)(ok:X.Ok){scope:LJ}(sc:ScOk Γ scope):CompOk X scope (eu X.env scope.names []) (gh scope.names) (fN Γ scope.names):=by
 have cells:∀y∈scope.names,y.2=.free->(X.env.cells.lookup y.1).isSome=true:=λy hy e=>by
  have hk:=sL (sc.free y hy e).1;obtain⟨c,hc⟩:=ok.has y.1 (by unfold NZ; rw[K.names]; exact hk)
  rw[hc]; rfl
 have relab:∀x,((relabel scope X.env).names.lookup x=ba .cell\/(relabel scope X.env).names.lookup x=ba .free)->(x,Mj)∈scope.names:=λx h=>by
  rw[ev K,dI]at h;cases q:scope.names.lookup x with
  | none=>rw[q]at h; rcases h with h|h <;> cases h
  | some k=>
   rw[q]at h;have hm:=ke q;cases k with
   | free=>exact hm
   | cell=>exact absurd rfl (sc.nocell _ hm)
   | _=>rcases h with h|h <;> simp at h
 refine#[jn cells,sc.kind,sc.names,sc.nocell,j8 _ _ cells (λx c e=>by cases e),λx h=>j9 _ _ (relab x h),by simp[fN],λi j x hi hx=>?_]
 unfold fN at hi;rw[Ii,hx]at hi;simp only[Ja,IW]at hi;split at hi
 ·cases hi
 ·rename_i hl;have hx2:x∈gh scope.names:=Ir hx;unfold gh at hx2;obtain⟨⟨x',k⟩,hf,e⟩:=Iy.mp hx2;obtain⟨hm,hk⟩:=JI.mp hf;have e':x'=x:=e;subst e';have hkf:k=.free:=by
   simp only[Kq]at hk;rcases hk with hk|hk
   ·have:k=.local:=eq_of_beq hk;subst this;have:=sc.names (x',.local) hm rfl;rw[this]at hl;simp at hl
   ·exact eq_of_beq hk
  subst hkf;obtain⟨f1,f2,f3⟩:=sc.free _ hm rfl;refine#[by rw[K.N]; exact c9 hi,by unfold NZ; rw[K.names]; exact sL f1,?_]
  rw[ev K,dI,f2];simp only[Ja,IW,Jm,MN];split
  ·exact .inl rfl
  ·exact .inr rfl
def eC (K:CtxOk M X Γ){scope:LJ}(sc:ScOk Γ scope)(C:Ic)(s0:HV)(H0:Hp)(ex:HN Ic):CtxOk M (kM X scope (eu X.env scope.names []) C (gh scope.names) s0 H0 ex) (gk Γ scope) where
 names:=ev K scope
 kind:=sc.kind
 N:=rfl
 nd:=sc.nd
 calm:=K.calm
 xe:=rfl
 un:=K.un
 dfn:=λh=>by cases h
 blt:=K.blt
 fns:=K.fns
def pg {cs:Es}{n:HZ}{ifs:HN IJ}{Γ:Gam}(hl:ifs.length<=1)(hc:cA (cE n Γ) ifs=ba cs){Yq:Cx}(ih:∀ {e:IJ} {e':E},cE n Γ e=ba e'->GT Yq e (cK M e'))(hx:Yq.xe=λ_ _=>JR) :
  ∀J s Y H Q,Inv Yq J Y H s->tT Yq (At M cs) Y H Q->
  wpAny (model Yq.prog Yq.w) Yq.A (forIn ifs true λc r=>if r=true then do let ok <- isTrue c Yq.env (eval c Yq.env); pure (Kr ok)else pure (Kr r)) (TP Yq J Y Q) (λ_ _=>JR) s:=by
 intro J s Y H Q I h
 match ifs,hl,hc with
 | [],_,hc=>
  cases hc;obtain⟨A,Z,S,k,S',er,so,e,hq⟩:=h;cases e;exact wpAny_tests_nil #[H,I,hq _ _ #[rfl,A,.refl,so]]
 | [c],_,hc=>
  obtain⟨e',es',h1,h2,rfl⟩:=hW hc;cases h2;have:=ih h1 J s Y H Q I h;rw[hx]at this;exact wpAny_tests_one this
def bA:∀(n:HZ) {Γ:Gam} {X:Cx} {e:IJ} {e':E},CtxOk M X Γ->cE n Γ e=ba e'->GE X e (az M e')/\GT X e (cK M e'):=by
 intro n
 induction n with
 | zero=>intro Γ X e e' K h; cases h
 | succ n ih=>
  intro Γ X e e' K h;have ihE:∀ {e:IJ} {e':E},cE n Γ e=ba e'->GE X e (az M e'):=λq=>(ih K q).1
  have ihT:∀ {e:IJ} {e':E},cE n Γ e=ba e'->GT X e (cK M e'):=λq=>(ih K q).2
  have hu10:X.A.units+10 < cLine:=by have:=K.un; have:gw=20:=rfl; omega
  cases e with
  | Constant c k p=>
   cases c <;> cases h
   all_goals first
    | exact#[oV vd (λ_ _=>.non),ce (oV vd (λ_ _=>.non)) λ_=>rfl]
    | exact#[oV Bg (λ_ _=>.bl),ce (oV Bg (λ_ _=>.bl)) λ_=>rfl]
    | exact#[oV vc (λ_ _=>.int),ce (oV vc (λ_ _=>.int)) λ_=>rfl]
    | exact#[oV ve (λ_ _=>.str),ce (oV ve (λ_ _=>.str)) λ_=>rfl]
  | Name x p=>
   replace h:(match slot Γ x with|some i=>ba (E.v i)|none=>gV)=ba e':=h
   split at h
   ·rename_i i h1;cases h;exact#[xr K h1,ce (xr K h1) λ_=>rfl]
   ·cases h
  | BinOp a op b p=>
   replace h:(match sF op,cE n Γ a,cE n Γ b with|some o,ba a',ba b'=>ba (E.op o a' b')|_,_,_=>gV)=ba e':=h
   split at h
   ·rename_i o a' b' h1 h2 h3;cases h;have e:=xu h1;subst e;exact#[Bm (rS o) (ihE h2) (ihE h3),ce (Bm (rS o) (ihE h2) (ihE h3)) λ_=>rfl]
   ·cases h
  | UnaryOp op a p=>
   cases op with
   | Not=>
    replace h:(cE n Γ a).map E.not=ba e':=h;rw[HU]at h;obtain⟨a',h1,rfl⟩:=h;exact#[CI (ihE h1),CF (ihT h1)]
   | USub=>
    replace h:(cE n Γ a).map E.neg=ba e':=h;rw[HU]at h;obtain⟨a',h1,rfl⟩:=h;exact#[wy (ihE h1),ce (wy (ihE h1)) λ_=>rfl]
   | _=>exact aG h
  | BoolOp op vs p=>
   replace h:cB (cE n Γ) op vs=ba e':=h;exact#[nj ihE h,(nk ihT h).pt]
  | Compare a ops cs p=>
   match ops,cs,h with
   | [op],[b],h=>
    replace h:(match sG op,cE n Γ a,cE n Γ b with|some o,ba a',ba b'=>ba (E.cmp o a' b')|_,_,_=>gV)=ba e':=h
    split at h
    ·rename_i o a' b' h1 h2 h3;cases h;have e:=xt h1;subst e;exact#[CA K.un (ihE h2) (ihE h3) (pe h3),CB K.un (ihE h2) (ihE h3) (pe h3)]
    ·cases h
   | [],_,h=>exact aG h
   | [_],[],h=>exact aG h
   | [_],_::_::_,h=>exact aG h
   | _::_::_,_,h=>exact aG h
  | IfExp t a b p=>
   replace h:(match cE n Γ t,cE n Γ a,cE n Γ b with|some t',ba a',ba b'=>ba (E.ite t' a' b')|_,_,_=>gV)=ba e':=h
   split at h
   ·rename_i t' a' b' h1 h2 h3;cases h;exact#[CJ (ihT h1) (ihE h2) (ihE h3),jv]
   ·cases h
  | Call f args kws p=>
   cases kws with
   | cons _ _=>cases f <;> first|(exact aG h)|(cases args <;> (exact aG h))
   | nil=>
    cases f with
    | Name x q=>
     replace h:(if j7 Γ x then match Γ.fns.lookup x with|some k=>(cA (cE n Γ) args).map (E.own x k)|none=>if x==("isinstance" : IH)then(if Γ.blt.contains x then Ax Γ (cE n Γ) args else gV)else match (generalizing:=false) Av x,args with|some b,a::as=>if Γ.blt.contains x then(cA (cE n Γ) (a::as)).map (E.bi b)else gV|_,_=>gV else gV)=ba e':=h
     split at h
     ·rename_i hg;split at h
      ·rename_i k hk;rw[HU]at h;obtain⟨r,hr,rfl⟩:=h;have g:=EO (pos:=p) (p:=q) K hg hk hr (cQ ihE hr);exact#[g,ce g λ_=>rfl]
      ·split at h
       ·rename_i his;split at h
        ·rename_i hc;obtain⟨g,a',c',rfl⟩:=EQ (pos:=p) (p:=q) K hg his hc ihE h;exact#[g,ce g λ_=>rfl]
        ·cases h
       ·split at h
        ·rename_i bb a as hb;split at h
         ·rename_i hc;rw[HU]at h;obtain⟨r,hr,rfl⟩:=h;have g:=GH (pos:=p) (p:=q) K hg hb hc hr (cQ ihE hr);exact#[g,ce g λ_=>rfl]
         ·cases h
        ·cases h
     ·cases h
    | Attribute o m q=>
     cases args with
     | nil=>exact aG h
     | cons a as=>
      replace h:(match Aw m,cE n Γ o,cA (cE n Γ) (a::as)with|some m',ba o',ba es=>if fM o&&(q.endLine==p.line)&&decide ((a::as).length < 29)then ba (E.me m' o' es)else gV|_,_,_=>gV)=ba e':=h
      split at h
      ·rename_i m' o' es h1 h2 h3;split at h
       ·rename_i hc;rw[HX,HX,Ix]at hc;cases h;have g:=GJ K (cpos:=p) (apos:=q) h1 hc.1.1 hc.1.2 hc.2 (ihE h2) h3 (cQ ihE h3);exact#[g,ce g λ_=>rfl]
       ·cases h
      ·cases h
    | _=>exact aG h
  | Subscript a b p=>
   have plain:(match cE n Γ a,cE n Γ b with|some a',ba b'=>ba (E.ix a' b')|_,_=>gV)=ba e'->GE X (.Subscript a b p) (az M e')/\GT X (.Subscript a b p) (cK M e'):=λh=>by
    split at h
    ·rename_i a' b' h1 h2;cases h;have g:=EC (pos:=p) hu10 (ihE h1) (ihE h2) (rf h2);exact#[g,ce g λ_=>rfl]
    ·cases h
   cases b with
   | Slice lo hi st q=>
    cases st with
    | none=>
     replace h:(match cE n Γ a,cP (cE n Γ) lo,cP (cE n Γ) hi with|some a',ba lo',ba hi'=>ba (E.sl a' lo' hi')|_,_,_=>gV)=ba e':=h
     split at h
     ·rename_i a' lo' hi' h1 h2 h3;cases h;have g:=ED (pos:=p) (p2:=q) (ihE h1) (xw ihE h2) (xw ihE h3);exact#[g,ce g λ_=>rfl]
     ·cases h
    | some z=>exact plain h
   | _=>exact plain h
  | Tuple es k p=>
   replace h:(cA (cE n Γ) es).map E.tup=ba e':=h;rw[HU]at h;obtain⟨r,h1,rfl⟩:=h;exact#[wJ (cQ ihE h1),ce (wJ (cQ ihE h1)) λ_=>rfl]
  | List es p=>
   replace h:(cA (cE n Γ) es).map E.lst=ba e':=h;rw[HU]at h;obtain⟨r,h1,rfl⟩:=h;exact#[wK (cQ ihE h1),ce (wK (cQ ihE h1)) λ_=>rfl]
  | Dict keys values p=>
   replace h:xp (cE n Γ) keys values=ba e':=h;unfold xp at h;split at h
   ·rename_i hc;cases h;rw[HX]at hc;have k0:keys=[]:=P3.mp hc.1;have v0:values=[]:=P3.mp hc.2;subst k0 v0;exact#[Ak,jv]
   ·rename_i hc0;split at h
    ·rename_i hc;rw[HX,HX,Ix,Ix]at hc;rw[HU]at h;obtain⟨r,hr,rfl⟩:=h;have h0:keys≠[]:=λz=>by
      subst z;have v0:values=[]:=Kc.mp hc.1.2.symm;subst v0;exact hc0 rfl
     exact#[Al (pos:=p) hu10 (sI ihE keys values hc.1.1 hc.1.2 hr) hc.1.1 hc.1.2 h0 hc.2,jv]
    ·cases h
  | ListComp elt gens scope p=>
   match gens,h with
   | [#[tg,iter,ifs,asy]],h=>
    replace h:(if (asy==0)&&(xo Γ scope&&decide (ifs.length<=1))then match cI Γ (cE n Γ) tg iter,cT (gk Γ scope) tg,cA (cE n (gk Γ scope)) ifs,cE n (gk Γ scope) elt with|some it,ba t,ba cs,ba el=>ba (E.comp el t it cs (fN Γ scope.names))|_,_,_,_=>gV else gV)=ba e':=h
    split at h
    ·rename_i hc;rw[HX,HX,Ix]at hc;have e0:asy=0:=eq_of_beq hc.1;subst e0;replace hc:=hc.2;split at h
     ·rename_i it t cs el h1 h2 h3 h4;cases h;have sc:=sK hc.1;refine#[Ao K.calm (rg K ihE h1) (λok=>#[_,lM K ok sc,?_]) (ni (n:=n) (λel k p=>by cases n <;> rfl) h1),jv]
      refine#[λC s0 H0 ex=>sJ (eC K sc C s0 H0 ex) h2,λC s0 H0 ex J s Y H Q I q=>?_,λC s0 H0 ex=>(ih (eC K sc C s0 H0 ex) h4).1]
      exact pg hc.2 h3 (λz=>(ih (eC K sc C s0 H0 ex) z).2) rfl J s Y H Q I q
     ·cases h
    ·cases h
   | [],h=>exact aG h
   | #[_,_,_,_]::_::_,h=>exact aG h
  | _=>exact aG h
end
noncomputable abbrev bB:HZ:=30
abbrev Bq:IJ->IN
 | .Constant (.str _) _ _=>true
 | _=>false
abbrev iU:IJ->IN
 | .ListComp _ _ _ _=>true
 | _=>false
abbrev sM:IJ->IN
 | .Slice _ _ _ _=>true
 | _=>false
abbrev sN (f:Lm->HY Sm)(ss:HN Lm):HY Ss:=ss.foldr (λs acc=>match f s,acc with|some s',ba ss'=>ba (.cons s' ss')|_,_=>gV) (ba .nil)
abbrev C3 (Γ:Gam):HN IJ->IJ->HY Sm
 | [.Name x px,.Name y py],.Tuple [a,b] _ _=>match Γ.N.findIdx? (· == x),Γ.N.findIdx? (· == y),cA (cE bB Γ) [a,b]with
  | some i,ba j,ba es=>if !(i==j)&&(Γ.sc.lookup x==ba .local)&&(Γ.sc.lookup y==ba .local)&&(py.line==px.line) && !([a,b].all (foldedForSure 8)) && !([a,b].all (constantsAlone 8))then ba (.par i j es)else gV
  | _,_,_=>gV
 | _,_=>gV
abbrev cS:HZ->Gam->Lm->HY Sm
 | 0,_,_=>gV
 | n+1,Γ,st=>match st with
  | .Assign [.Name x _] e _=>match cO Γ x,cE bB Γ e with
   | some i,ba e'=>ba (.set i e')
   | _,_=>gV
  | .Assign [.Tuple ts _ _] e _=>if isTup e then C3 Γ ts e else if iU e then gV else match DR Γ ts,cE bB Γ e with
   | some is,ba e'=>ba (.asg is e')
   | _,_=>gV
  | .Assign [.Subscript o k _] e _=>if sM k then gV else match cE bB Γ o,cE bB Γ k,cE bB Γ e with
   | some o',ba k',ba e'=>ba (.put o' k' e')
   | _,_,_=>gV
  | .Expr e _=>if Bq e then ba .pass else if iU e then gV else(cE bB Γ e).map .ex
  | .Return (ba e) _=>(cE bB Γ e).map .ret
  | .Pass _=>ba .pass
  | .If t a b _=>match cE bB Γ t,sN (cS n Γ) a,sN (cS n Γ) b with
   | some t',ba a',ba b'=>ba (.ite t' a' b')
   | _,_,_=>gV
  | .While t b [] _=>match cE bB Γ t,sN (cS n Γ) b with
   | some t',ba b'=>ba (.whl t' b')
   | _,_=>gV
  | .For tg it b [] _=>match cT Γ tg,cI Γ (cE bB Γ) tg it,sN (cS n Γ) b with
   | some t,ba i,ba b'=>ba (.loop t i b')
   | _,_,_=>gV
  | _=>gV
section
variable{M:IH->FF}{X:Cx}{Γ:Gam}{fuel:HZ}
def xx {f:Lm->HY Sm}{s:Lm}{ss:HN Lm}{r:Ss}(h:sN f (s::ss)=ba r):∃s' ss',f s=ba s'/\sN f ss=ba ss'/\r=.cons s' ss':=by
 simp only[sN,Qk]at h;split at h
 ·rename_i e' es' h1 h2;cases h;exact#[e',es',h1,h2,rfl]
 ·cases h
def fO {n:HZ}(ih:∀ {st:Lm} {s':Sm},cS n Γ st=ba s'->GS X st (fw M fuel s')):∀ {ss:HN Lm} {r:Ss},sN (cS n Γ) ss=ba r->GSs X ss (fA M fuel r)
 | [],r,h=>by cases h; exact zY
 | s::ss,r,h=>by
  obtain⟨s',ss',h1,h2,rfl⟩:=xx h;exact wM (ih h1) (fO ih h2)
def kh {e:IJ}{t:HY IJ}{l:HZ}{env:Pd}(h:iU e=false)(n:HZ){Γ:Gam}{e':E}(hc:cE n Γ e=ba e'):swapsWith e t l env=pure false:=by
 cases n with
 | zero=>cases hc
 | succ n=>cases e <;> first|(exfalso; exact aG hc)|rfl|cases h
def rh (K:CtxOk M X Γ){n:HZ}{elt:IJ}{gens:HN Comprehension}{scope:LJ}{p:KW}{e':E}(h:cE (n+1) Γ (.ListComp elt gens scope p)=ba e') :
  ∃tg iter ifs fi g c f cap,gens=[#[tg,iter,ifs,0]]/\az M e'=j5 fi g c f cap/\GI X tg iter fi/\(X.Ok->∃cl,CompOk X scope cl (gh scope.names) cap/\BlockOk X scope cl (gh scope.names) tg elt ifs g c f)/\∀x,foldedSetIterable iter X.env x=pure x:=by
 match gens,h with
 | [#[tg,iter,ifs,asy]],h=>
  replace h:(if (asy==0)&&(xo Γ scope&&decide (ifs.length<=1))then match cI Γ (cE n Γ) tg iter,cT (gk Γ scope) tg,cA (cE n (gk Γ scope)) ifs,cE n (gk Γ scope) elt with|some it,ba t,ba cs,ba el=>ba (E.comp el t it cs (fN Γ scope.names))|_,_,_,_=>gV else gV)=ba e':=h
  split at h
  ·rename_i hc;rw[HX,HX,Ix]at hc;have e0:asy=0:=eq_of_beq hc.1;subst e0;replace hc:=hc.2;split at h
   ·rename_i it t cs el h1 h2 h3 h4;cases h;have sc:=sK hc.1;refine#[tg,iter,ifs,_,_,_,_,_,rfl,rfl,rg K (λz=>(bA n K z).1) h1,λok=>#[_,lM K ok sc,?_],ni (n:=n) (λel k p=>by cases n <;> rfl) h1]
    refine#[λC s0 H0 ex=>sJ (eC K sc C s0 H0 ex) h2,λC s0 H0 ex J s Y H Q I q=>?_,λC s0 H0 ex=>(bA n (eC K sc C s0 H0 ex) h4).1]
    exact pg hc.2 h3 (λz=>(bA n (eC K sc C s0 H0 ex) z).2) rfl J s Y H Q I q
   ·cases h
  ·cases h
 | [],h=>exact aG h
 | #[_,_,_,_]::_::_,h=>exact aG h
def ER (K:CtxOk M X Γ){x:IH}{px pos:KW}{e:IJ}{i:HZ}{e':E}(hi:cO Γ x=ba i)(he:cE bB Γ e=ba e'):GS X (.Assign [.Name x px] e pos) (j3 (az M e') (z9 i)):=by
 obtain⟨a,b,c⟩:=nq K hi;have hN:X.N.Nodup:=by rw[K.N]; exact K.nd
 have plain:swapsWith e (ba (.Name x px)) pos.line X.env=pure false->GS X (.Assign [.Name x px] e pos) (j3 (az M e') (z9 i)):=λhs=>qW (bA _ K he).1 (sy hN a b c) hs (by cases e <;> rfl) rfl
 cases hc:iU e with
 | false=>exact plain (kh hc _ he)
 | true=>
  cases e with
  | ListComp elt gens scope p=>
   cases hsw:(X.env.blockKind==.function&&X.env.kindOf x==ba .local&&px.line==p.line && !(scope.names.any λ(n,k)=>n==x&&(k==.local||k==.cell)))with
   | false=>
    refine plain ?_;show(pure (X.env.blockKind==.function&&X.env.kindOf x==ba .local&&px.line==p.line && !(scope.names.any λ(n,k)=>n==x&&(k==.local||k==.cell))):Ry IN)=pure false
    rw[hsw]
   | true=>
    have hsw':swapsWith (.ListComp elt gens scope p) (ba (.Name x px)) pos.line X.env=pure true:=by
     show(pure (X.env.blockKind==.function&&X.env.kindOf x==ba .local&&px.line==p.line && !(scope.names.any λ(n,k)=>n==x&&(k==.local||k==.cell))):Ry IN)=pure true
     rw[hsw]
    rw[HX,HX,HX]at hsw;have hl:X.env.scope.names.lookup x=ba .local:=eq_of_beq hsw.1.1.2;obtain⟨tg,iter,ifs,fi,g,c',f,cap,rfl,e2,gi,hck,hs⟩:=rh K he;rw[e2];exact rc K.calm gi hck hs hsw' hN a hl
  | _=>cases hc
def ph (K:CtxOk M X Γ){x y:IH}{px py pt pt2:KW}{kt k2:HZ}{a b:IJ}(hxy:x≠y)(hx:Γ.sc.lookup x=ba .local)(hy:Γ.sc.lookup y=ba .local)(hl:(py.line==px.line)=true)(h1:[a,b].all (foldedForSure 8)=false)(h2:[a,b].all (constantsAlone 8)=false)(hs:gC a=true)(hs2:gC b=true) :
  swappedStores [.Tuple [.Name x px,.Name y py] kt pt] (.Tuple [a,b] k2 pt2) X.env=pure (ba [x,y]):=by
 have kx:(X.env.kindOf x==ba .local)=true:=by unfold NZ; rw[K.names,hx]; rfl
 have ky:(X.env.kindOf y==ba .local)=true:=by unfold NZ; rw[K.names,hy]; rfl
 have bk:(X.env.blockKind != .function)=false:=by
  unfold Env.blockKind;rw[K.kind];rfl
 have hp:(px.line==px.line)=true:=by simp
 have ed:([x,y].eraseDups.length != [x,y].length)=false:=by
  have:(y==x)=false:=by simpa using Ne.symm hxy
  simp[OM,this]
 have kx':X.env.kindOf x=ba .local:=eq_of_beq kx;have ky':X.env.kindOf y=ba .local:=eq_of_beq ky;have hl':py.line=px.line:=eq_of_beq hl;have bk':X.env.blockKind=.function:=by simpa using bk
 have yx:(y==x)=false:=by simpa using Ne.symm hxy
 have h1':(foldedForSure 8 a&&foldedForSure 8 b)=false:=by simpa using h1
 have h2':(constantsAlone 8 a&&constantsAlone 8 b)=false:=by simpa using h2
 unfold swappedStores;simp only[KT,List.any_nil,OR,Ma,List.filterMap_nil,kx',ky',bk',List.head?_cons,Ja,P2,Ju,KD,Jw,List.all_nil,Mh,h1',h2'];refine Eq.trans (IP ?_) (Eq.trans (IP ?_) ?_)
 ·decide
 ·rw[Kq];rintro(hh|hh)
  ·clear h1 h2 h1' h2';cases a <;> first|(cases hh; done)|(cases hs; done)
  ·clear h1 h2 h1' h2';cases b <;> first|(cases hh; done)|(cases hs2; done)
 ·dsimp only[Expr.pos]; simp[hl',yx,OM]
def Ay (fuel:HZ)(K:CtxOk M X Γ):∀(n:HZ) {st:Lm} {s':Sm},cS n Γ st=ba s'->GS X st (fw M fuel s'):=by
 have hN:X.N.Nodup:=by rw[K.N]; exact K.nd
 have own:OF (model X.prog X.w) X.A X.env X.xe:=by rw[K.xe]; exact R5
 intro n
 induction n with
 | zero=>intro st s' h; cases h
 | succ n ih=>
  intro st s' h;cases st with
  | Expr e p=>
   replace h:(if Bq e then ba Sm.pass else if iU e then gV else(cE bB Γ e).map Sm.ex)=ba s':=h
   split at h
   ·rename_i hd;cases h;cases e with
    | Constant c k q=>
     cases c with
     | str x=>exact CN
     | _=>cases hd
    | _=>cases hd
   ·split at h
    ·cases h
    ·rename_i hd hc;rw[HU]at h;obtain⟨e',h1,rfl⟩:=h;exact EE (bA _ K h1).1 (kh (by simpa using hc) _ h1)
  | Return o p=>
   cases o with
   | none=>cases h
   | some e=>
    replace h:(cE bB Γ e).map Sm.ret=ba s':=h;rw[HU]at h;obtain⟨e',h1,rfl⟩:=h;exact CO (bA _ K h1).1
  | Pass p=>cases h; exact z6
  | If t a b p=>
   replace h:(match cE bB Γ t,sN (cS n Γ) a,sN (cS n Γ) b with|some t',ba a',ba b'=>ba (Sm.ite t' a' b')|_,_,_=>gV)=ba s':=h
   split at h
   ·rename_i t' a' b' h1 h2 h3;cases h;exact EF (bA _ K h1).2 (fO ih h2) (fO ih h3)
   ·cases h
  | While t b o p=>
   cases o with
   | cons _ _=>exact aG h
   | nil=>
    replace h:(match cE bB Γ t,sN (cS n Γ) b with|some t',ba b'=>ba (Sm.whl t' b')|_,_=>gV)=ba s':=h
    split at h
    ·rename_i t' b' h1 h2;cases h;exact wR fuel own (bA _ K h1).2 (fO ih h2)
    ·cases h
  | For tg it b o p=>
   cases o with
   | cons _ _=>exact aG h
   | nil=>
    replace h:(match cT Γ tg,cI Γ (cE bB Γ) tg it,sN (cS n Γ) b with|some t,ba i,ba b'=>ba (Sm.loop t i b')|_,_,_=>gV)=ba s':=h
    split at h
    ·rename_i t i b' h1 h2 h3;cases h;exact CV own K.calm (rg K (λz=>(bA _ K z).1) h2) (sJ K h1) (fO ih h3) (ni (n:=bB) (λel k p=>rfl) h2)
    ·cases h
  | Assign ts e p=>
   match ts,h with
   | [],h=>exact aG h
   | a::_::_,h=>cases a <;> exact aG h
   | [t],h=>
    cases t with
    | Name x px=>
     replace h:(match cO Γ x,cE bB Γ e with|some i,ba e'=>ba (Sm.set i e')|_,_=>gV)=ba s':=h
     split at h
     ·rename_i i e' h1 h2;cases h;exact ER K h1 h2
     ·cases h
    | Subscript o k q=>
     replace h:(if sM k then gV else match cE bB Γ o,cE bB Γ k,cE bB Γ e with|some o',ba k',ba e'=>ba (Sm.put o' k' e')|_,_,_=>gV)=ba s':=h
     split at h
     ·cases h
     ·rename_i hc;split at h
      ·rename_i o' k' e' h1 h2 h3;cases h;refine qW (bA _ K h3).1 (CS (by have:=K.un; have:gw=20:=rfl; omega) (bA _ K h1).1 (bA _ K h2).1 ?_) (by cases e <;> rfl) (by cases e <;> rfl) rfl
       intro v;cases k <;> first|rfl|exact absurd rfl hc
      ·cases h
    | Tuple ts' k q=>
     have par:∀ {x y:IH} {px py:KW} {a b:PySem.Expr} {k2:HZ} {q2:KW},(match Γ.N.findIdx? (· == x),Γ.N.findIdx? (· == y),cA (cE bB Γ) [a,b]with
       | some i,ba j,ba es=>if !(i==j)&&(Γ.sc.lookup x==ba .local)&&(Γ.sc.lookup y==ba .local)&&(py.line==px.line) && !([a,b].all (foldedForSure 8)) && !([a,b].all (constantsAlone 8))then ba (Sm.par i j es)else gV
       | _,_,_=>gV)=ba s'->GS X (.Assign [.Tuple [.Name x px,.Name y py] k q] (.Tuple [a,b] k2 q2) p) (fw M fuel s'):=λ{x y px py a b k2 q2} h=>by
      split at h
      ·rename_i i j es h1 h2 h3;split at h
       ·rename_i hc;cases h;rw[HX,HX,HX,HX,HX]at hc;obtain⟨⟨⟨⟨⟨c1,c2⟩,c3⟩,c4⟩,c5⟩,c6⟩:=hc;have hij:i≠j:=by simpa using c1
        have ns:=bL h3;rw[Jw,Jw,HX,HX]at ns;have hi:X.N[i]?=ba x:=by rw[K.N]; exact c9 h1
        have hj:X.N[j]?=ba y:=by rw[K.N]; exact c9 h2
        refine CT K.calm hN hi hj hij (by rw[K.names]; exact eq_of_beq c2) (by rw[K.names]; exact eq_of_beq c3) (cQ (λz=>(bA _ K z).1) h3) (ph K ?_ (eq_of_beq c2) (eq_of_beq c3) c4 (by rw[<- NF]; exact c5) (by rw[<- NF]; exact c6) ns.1 ns.2.1) rfl
        rintro rfl;rw[h1]at h2;cases h2;exact hij rfl
       ·cases h
      ·cases h
     replace h:(if isTup e then C3 Γ ts' e else if iU e then gV else match DR Γ ts',cE bB Γ e with|some is,ba e'=>ba (Sm.asg is e')|_,_=>gV)=ba s':=h
     split at h
     ·unfold C3 at h;split at h
      ·exact par h
      ·cases h
     ·split at h
      ·cases h
      ·rename_i hc1 hc2;split at h
       ·rename_i is e' h1 h2;cases h;refine qW (bA _ K h2).1 (sJ (tg:=.Tuple ts' k q) (t:=.tp is) K (by simp[cT,h1])) (kh (t:=ba (.Tuple ts' k q)) (l:=p.line) (env:=X.env) (by simpa using hc2) _ h2) ?_ rfl
        cases e <;> first|rfl|exact absurd rfl hc1
       ·cases h
    | _=>exact aG h
  | _=>exact aG h
end
structure Df where
 ps:HN IH
 N:HN IH
 body:Ss
abbrev eN (N:HN IH)(ws:HN W):Fm:=ws.map ba++Jj (N.length - ws.length) gV
abbrev am (defs:HN (IH×Df))(fuel:HZ):HZ->IH->FF
 | 0,_,_,_=>gV
 | d+1,f,ws,S=>match defs.lookup f with
  | some df=>if ws.length=df.ps.length then match fA (am defs fuel d) fuel df.body (eN df.N ws) S with
    | some (.rt w,S')=>ba (w,S')
    | some (.nx _,S')=>ba (.non,S')
    | _=>gV
   else gV
  | none=>gV
structure Md where
 fns:HN (IH×HZ)
 blt:HN IH
abbrev xy (tx:Md)(st:Lm)(N:HN IH):Gam:={ sc:=(aL st).names,N:=N,fns:=tx.fns,blt:=tx.blt,dfn:=true }
abbrev ES (tx:Md)(st:Lm)(df:Df):Prop:=sN (cS 20 (xy tx st df.N)) (bW st)=ba df.body
def lN {K:Ij}{A:HN Ic}{H:Hp}{ws:HN W}{vs:HN V}{N:HN IH}(r:RelL K A H ws vs):EnvRel K A H (eN N ws) (fe N vs):=by
 refine#[by simp[eN,L2.fe,r.length],λi w h=>?_]
 unfold eN at h;unfold L2.fe
 by_cases hi:i < ws.length
 ·rw[Jr (by simpa using hi),Ii]at h
  rw[Jr (by rw[HQ,<- r.length]; exact hi),Ii]
  cases q:ws[i]? with
  | none=>rw[q]at h; cases h
  | some w'=>
   rw[q]at h;simp only[Ja,IW]at h;subst h;obtain⟨v,h1,h2⟩:=r.get q;exact#[v,by rw[h1]; rfl,h2]
 ·rw[KZ (by simpa using hi)]at h
  have:=Ir h;simp at this
section
variable{P:IZ}{w:Jg}{K:Ij}{mg:IH->HY HS}{base:Jk}
abbrev Br (P:IZ)(w:Jg)(K:Ij)(mg:IH->HY HS)(base:Jk)(tx:Md)(defs:HN (IH×Df))(fuel d:HZ):Prop:=
 ∀f n,tx.fns.lookup f=ba n->∃fa fd ps,FnOk P w K mg base u6 d fa fd ps (wL w K n (am defs fuel d f))/\mg f=ba (.ref fa)/\J0 K (.ref fa)=true/\Binds K fd ps []
structure MdOk (w:Jg)(K:Ij)(mg:IH->HY HS)(tx:Md):Prop where
 blt:∀y∈tx.blt,mg y=gV
def Bs {tx:Md}{defs:HN (IH×Df)}{fuel d:HZ}{x qual:IH}{st:Lm}{f:Ic}{fd:KY}{df:Df}(F:Fun K x qual st f fd)(S:FnScope df.N df.ps (aL st))(hd:defs.lookup x=ba df)(hc:ES tx st df)
  (hb:MdOk w K mg tx) (prev:Br P w K mg base tx defs fuel d):FnOk P w K mg base u6 (d+1) f fd df.ps (wL w K df.ps.length (am defs fuel (d+1) x)):=by
 refine F.ok S (λvs H Q E h=>?_) (λcdv A outer s H vs Q E hr h=>?_)
 ·obtain⟨A,S,ws,w',S',_,rl,hl,_⟩:=h;rw[<- rl.length]; exact hl
 ·obtain⟨A',St,ws,w',S',so,rl,hl,e,hq⟩:=h;have K':CtxOk (am defs fuel d) (qw u6 P w K mg base df.N qual (aL st) f cdv A outer s H E).nox (xy tx st df.N):=by
   refine#[rfl,S.kind,rfl,S.nd,rfl,rfl,?_,λ_ _=>rfl,hb.blt,λg n hg=>?_]
   ·have:=hr.un;show(A.deeper _).units+20 < cLine;omega
   ·obtain⟨fa,fd',ps',h1,h2,h3,h4⟩:=prev g n hg;exact#[d,fa,fd',ps',h1,hr,h2,h3,h4]
  refine#[tS _ (fA (am defs fuel d) fuel df.body),fO (λz=>Ay fuel K' 20 z) hc,?_]
  simp only[am,hd]at e;rw[IF hl]at e;split at e
  ·rename_i w1 S1 h1;cases e;refine#[A',eN df.N ws,St,_,_,lN rl,so,h1,#[λY' H' #[_,_,z,_]=>(by cases z),λv H' #[w2,A2,z0,z1,z2,z3]=>?_,λY' H' #[_,_,z,_]=>(by cases z),λY' H' #[_,_,z,_]=>(by cases z)]]
   cases z0;exact hq v H' #[A2,z1,z2,z3]
  ·rename_i Z1 S1 h1;cases e;refine#[A',eN df.N ws,St,_,_,lN rl,so,h1,#[λY' H' #[w2,A2,z0,z1,z2,z3]=>?_,λY' H' #[_,_,z,_]=>(by cases z),λY' H' #[_,_,z,_]=>(by cases z),λY' H' #[_,_,z,_]=>(by cases z)]]
   exact hq _ H' #[A2,z1,z2,.non]
  ·cases e
def uK {H:Hp}{a:Ic}{ns:HN Ip}(hO:vE H)(hS:SqL K H a (ns.map V.int)):StoreOk w K [a] H [.fro (ns.map W.int)]/\RelL K [a] H [.ref 0] [.ref a]:=by
 have rl:∀ns:HN Ip,RelL K [a] H (ns.map W.int) (ns.map V.int):=by
  intro ns
  induction ns with
  | nil=>exact .nil
  | cons n ns ih=>exact .cons .int ih
 have fr:FroL K H a (ns.map V.int):=by
  rcases hS with(h|⟨o,h⟩)|h
  ·rcases hO a with z|⟨o,xs,z⟩ <;> (rw[z]at h; cases h)
  ·exact .inl #[o,h]
  ·exact .inr h
 refine#[#[rfl,λi j b o u e1 m1 e2 m2 _ _=>?_,λi o b e1 e2=>?_],.cons (.ref rfl) .nil]
 ·cases i with
  | zero=>simp at e1; subst e1; cases m1
  | succ i=>simp at e1
 ·cases i with
  | zero=>
   simp at e1 e2;subst e1 e2;exact#[_,fr,rl ns]
  | succ i=>simp at e1
def C4 {g:FF}{H:Hp}{a:Ic}{ns:HN Ip}(h:∃S',g [.ref 0] [.fro (ns.map W.int)]=ba (.bl true,S'))(hO:vE H)(hS:SqL K H a (ns.map V.int)):wL w K 1 g [.ref a] H (λv _=>v=.bl true) λ_ _ _=>JR:=by
 obtain⟨S',e⟩:=h;obtain⟨so,rl⟩:=uK hO hS;exact#[[a],_,_,_,S',so,rl,rfl,e,λv H' #[A',z1,z2,z3]=>by cases z3; rfl]
end
abbrev Wp {α:Type}(o:HY α)(Q:α->Prop):Prop:=∃a,o=ba a/\Q a
def ab {α:Type}{a:α}{Q:α->Prop}:Wp (ba a) Q↔Q a:=#[λ#[b,e,h]=>(by cases e; exact h),λh=>#[a,rfl,h]]
def ae {α:Type}{Q:α->Prop}:Wp (gV:HY α) Q↔JR:=#[λ#[b,e,h]=>(by cases e),λh=>h.elim]
def Wp.mono {α:Type}{o:HY α}{Q Q':α->Prop}(h:Wp o Q)(k:∀a,Q a->Q' a):Wp o Q':=let ⟨a,e,q⟩:=h; #[a,e,k a q]
section
variable{M:IH->FF}{fuel:HZ}{Z:Fm}{S:aa}
noncomputable abbrev QW:=W×aa->Prop
def HC {w:W}{Q:QW}:Wp (az M (.c w) Z S) Q↔Q (w,S):=by(dsimp only[az]; simp[fC,ab,ae])
def Ht {i:HZ}{Q:QW}:Wp (az M (.v i) Z S) Q↔∃w,Z[i]?=ba (ba w)/\Q (w,S):=by
 (dsimp only[az]; simp only[fV])
 rcases h:Z[i]? with _|_|w <;> simp[ab,ae]
def xz {g:W->W->aa->HY (W×aa)}{a b:FE}{Q:QW}:Wp (zL g a b Z S) Q↔Wp (a Z S) λp=>Wp (b Z p.2) λq=>Wp (g p.1 q.1 q.2) Q:=by
 unfold zL;rcases h:a Z S with _|⟨x,S1⟩
 ·simp[ab,ae]
 ·rcases h2:b Z S1 with _|⟨y,S2⟩ <;> simp[ab,ae,h2]
def GK {o:BOp}{a b:E}{Q:QW}:Wp (az M (.op o a b) Z S) Q↔Wp (az M a Z S) λp=>Wp (az M b Z p.2) λq=>Wp (eS o p.1 q.1 q.2) Q:=by dsimp only[az]; exact xz
def Bt {o:COp}{a b:E}{Q:QW}:Wp (az M (.cmp o a b) Z S) Q↔Wp (az M a Z S) λp=>Wp (az M b Z p.2) λq=>Wp (cr o p.1 q.1 q.2) Q:=by dsimp only[az]; exact xz
def GL {a b:E}{Q:QW}:Wp (az M (.ix a b) Z S) Q↔Wp (az M a Z S) λp=>Wp (az M b Z p.2) λq=>Wp (lu p.1 q.1 q.2) Q:=by dsimp only[az]; exact xz
def ET {a b:E}{Q:QW}:Wp (az M (.and a b) Z S) Q↔Wp (az M a Z S) λp=>∃k,p.1=.bl k/\(k=true->Wp (az M b Z p.2) Q)/\(k=false->Q (.bl false,p.2)):=by
 (dsimp only[az]; simp only[su])
 rcases h:az M a Z S with _|⟨x,S1⟩
 ·simp[ab,ae]
 ·cases x <;> simp[ab,ae]
  rename_i b; cases b <;> simp[ab,ae]
def GM {a b:E}{Q:QW}:Wp (az M (.or a b) Z S) Q↔Wp (az M a Z S) λp=>∃k,p.1=.bl k/\(k=true->Q (.bl true,p.2))/\(k=false->Wp (az M b Z p.2) Q):=by
 (dsimp only[az]; simp only[zQ])
 rcases h:az M a Z S with _|⟨x,S1⟩
 ·simp[ab,ae]
 ·cases x <;> simp[ab,ae]
  rename_i b; cases b <;> simp[ab,ae]
def EU {a:E}{Q:QW}:Wp (az M (.not a) Z S) Q↔Wp (az M a Z S) λp=>∃k,p.1=.bl k/\Q (.bl (!k),p.2):=by
 (dsimp only[az]; simp only[sv])
 rcases h:az M a Z S with _|⟨x,S1⟩
 ·simp[ab,ae]
 ·cases x <;> simp[ab,ae]
  rename_i k; cases k <;> simp
def EV {t a b:E}{Q:QW}:Wp (az M (.ite t a b) Z S) Q↔Wp (cK M t Z S) λp=>(p.1=true->Wp (az M a Z p.2) Q)/\(p.1=false->Wp (az M b Z p.2) Q):=by
 (dsimp only[az]; simp only[zR])
 rcases h:cK M t Z S with _|⟨x,S1⟩
 ·simp[ab,ae]
 ·cases x <;> simp[ab,ae]
def Bu {f:IH}{n:HZ}{es:Es}{Q:QW}:Wp (az M (.own f n es) Z S) Q↔Wp (cG M es Z S) λp=>p.1.length=n/\Wp (M f p.1 p.2) Q:=by
 (dsimp only[az]; simp only[oY])
 rcases h:cG M es Z S with _|⟨x,S1⟩
 ·simp[ab,ae]
 ·by_cases hl:x.length=n <;> simp[ab,ae,hl]
def EW {b:Bi}{es:Es}{Q:QW}:Wp (az M (.bi b es) Z S) Q↔Wp (cG M es Z S) λp=>Wp (b.fn p.1 p.2) Q:=by
 (dsimp only[az]; simp only[je])
 rcases h:cG M es Z S with _|⟨x,S1⟩ <;> simp[ab,ae]
def GN {m:Me}{o:E}{es:Es}{Q:QW}:Wp (az M (.me m o es) Z S) Q↔Wp (az M o Z S) λp=>tyOk m.ty p.2 p.1=true/\Wp (cG M es Z p.2) λq=>Wp (m.fn p.1 q.1 q.2) Q:=by
 (dsimp only[az]; simp only[DP])
 rcases h:az M o Z S with _|⟨x,S1⟩
 ·simp[ab,ae]
 ·by_cases ht:tyOk m.ty S1 x=true
  ·rcases h2:cG M es Z S1 with _|⟨y,S2⟩ <;> simp[ab,ae,ht,h2]
  ·simp[ab,ae,ht]
def GP {a:E}{lo hi:Ep}{Q:QW}:Wp (az M (.sl a lo hi) Z S) Q↔Wp (az M a Z S) λp=>Wp (sE M lo Z p.2) λq=>Wp (sE M hi Z q.2) λr=>Wp (nX p.1 q.1 r.1 r.2) Q:=by
 (dsimp only[az]; simp only[EB])
 rcases h:az M a Z S with _|⟨x,S1⟩
 ·simp[ab,ae]
 ·rcases h2:sE M lo Z S1 with _|⟨y,S2⟩
  ·simp[ab,ae,h2]
  ·rcases h3:sE M hi Z S2 with _|⟨z,S3⟩ <;> simp[ab,ae,h2,h3]
def GQ {Q:HY Ip×aa->Prop}:Wp (sE M .no Z S) Q↔Q (gV,S):=by(dsimp only[sE]; simp[CL,ab,ae])
def EX {a:E}{Q:HY Ip×aa->Prop}:Wp (sE M (.yes a) Z S) Q↔Wp (az M a Z S) λp=>∃i,p.1=.int i/\Q (ba i,p.2):=by
 (dsimp only[sE]; simp only[sx])
 rcases h:az M a Z S with _|⟨x,S1⟩
 ·simp[ab,ae]
 ·cases x <;> simp[ab,ae]
def EY {es:Es}{Q:QW}:Wp (az M (.tup es) Z S) Q↔Wp (cG M es Z S) λp=>p.1.length<=sizeLine/\Q (.tup p.1,p.2):=by
 (dsimp only[az]; simp only[wH,qD])
 rcases h:cG M es Z S with _|⟨x,S1⟩
 ·simp[ab,ae]
 ·by_cases hl:x.length<=sizeLine <;> simp[ab,ae,hl]
def EZ {es:Es}{Q:QW}:Wp (az M (.lst es) Z S) Q↔Wp (cG M es Z S) λp=>p.1.length<=sizeLine/\Q (.ref p.2.length,p.2++[.lst p.1]):=by
 (dsimp only[az]; simp only[wI,kO])
 rcases h:cG M es Z S with _|⟨x,S1⟩
 ·simp[ab,ae]
 ·by_cases hl:x.length<=sizeLine <;> simp[ab,ae,hl]
def Bv {c:JX}{a:E}{Q:QW}:Wp (az M (.isi c a) Z S) Q↔Wp (az M a Z S) λp=>∃k,wX p.2 p.1 c=ba k/\Q (.bl k,p.2):=by
 (dsimp only[az]; simp only[w6])
 rcases h:az M a Z S with _|⟨x,S1⟩
 ·simp[ab,ae]
 ·cases h2:wX S1 x c <;> simp[ab,ae,h2]
  rename_i k; cases k <;> simp
def E1 {a:E}{Q:QW}:Wp (az M (.neg a) Z S) Q↔Wp (az M a Z S) λp=>∃i,p.1=.int i/\Q (.int (-i),p.2):=by
 (dsimp only[az]; simp only[wx])
 rcases h:az M a Z S with _|⟨x,S1⟩
 ·simp[ab,ae]
 ·cases x <;> simp[ab,ae]
def C5 {es:Es}{Q:QW}:Wp (az M (.disp es) Z S) Q↔Wp (cG M es Z (S++[.dic []])) λp=>p.2[S.length]?=ba (.dic [])/\∃U,de [] p.1=ba U/\Q (.ref S.length,p.2.set S.length (.dic U)):=by
 have e:az M (.disp es) Z S=o5 (cG M es) Z S:=by dsimp only[az]
 rw[e];unfold o5;cases cG M es Z (S++[.dic []])with
 | none=>simp[ae]
 | some p=>
  obtain⟨x,S1⟩:=p;simp only[ab];cases h2:S1[S.length]? with
  | none=>simp[ae]
  | some o=>
   cases o with
   | lst _=>simp[ae]
   | fro _=>simp[ae]
   | frd _=>simp[ae]
   | stt _=>simp[ae]
   | sti _=>simp[ae]
   | rng _ _=>simp[ae]
   | dic U=>
    cases U with
    | nil=>cases h3:de [] x <;> simp[ab,ae]
    | cons a b=>simp[ae]
def E2 {Q:HN W×aa->Prop}:Wp (cG M .nil Z S) Q↔Q ([],S):=by(dsimp only[cG]; simp[g9,ab,ae])
def C6 {e:E}{es:Es}{Q:HN W×aa->Prop}:Wp (cG M (.cons e es) Z S) Q↔Wp (az M e Z S) λp=>Wp (cG M es Z p.2) λq=>Q (p.1::q.1,q.2):=by
 (dsimp only[cG]; simp only[dj])
 rcases h:az M e Z S with _|⟨x,S1⟩
 ·simp[ab,ae]
 ·rcases h2:cG M es Z S1 with _|⟨y,S2⟩ <;> simp[ab,ae,h2]
noncomputable abbrev QB:=IN×aa->Prop
def E3 {f:FE}{Q:QB}:Wp (wz f Z S) Q↔Wp (f Z S) λp=>∃k,p.1=.bl k/\Q (k,p.2):=by
 unfold wz;rcases h:f Z S with _|⟨x,S1⟩
 ·simp[ab,ae]
 ·cases x <;> simp[ab,ae]
  rename_i k; cases k <;> simp
def sO {f:FE}{Q:QB}:Wp (fX f Z S) Q↔Wp (f Z S) λp=>∃k,fj p.2 p.1=ba k/\Q (k,p.2):=by
 unfold fX;rcases h:f Z S with _|⟨x,S1⟩
 ·simp[ab,ae]
 ·cases h2:fj S1 x <;> simp[ab,ae,h2]
  rename_i k; cases k <;> simp
def E4 {o:COp}{a b:E}{Q:QB}:Wp (cK M (.cmp o a b) Z S) Q↔Wp (az M (.cmp o a b) Z S) λp=>∃k,p.1=.bl k/\Q (k,p.2):=by dsimp only[cK,az]; exact E3
def E5 {a b:E}{Q:QB}:Wp (cK M (.and a b) Z S) Q↔Wp (cK M a Z S) λp=>(p.1=true->Wp (cK M b Z p.2) Q)/\(p.1=false->Q (false,p.2)):=by
 (dsimp only[cK]; simp only[wD])
 rcases h:cK M a Z S with _|⟨x,S1⟩
 ·simp[ab,ae]
 ·cases x <;> simp[ab,ae]
def GR {a b:E}{Q:QB}:Wp (cK M (.or a b) Z S) Q↔Wp (cK M a Z S) λp=>(p.1=true->Q (true,p.2))/\(p.1=false->Wp (cK M b Z p.2) Q):=by
 (dsimp only[cK]; simp only[Ey])
 rcases h:cK M a Z S with _|⟨x,S1⟩
 ·simp[ab,ae]
 ·cases x <;> simp[ab,ae]
def E6 {a:E}{Q:QB}:Wp (cK M (.not a) Z S) Q↔Wp (cK M a Z S) λp=>Q (!p.1,p.2):=by
 (dsimp only[cK]; simp only[zN])
 rcases h:cK M a Z S with _|⟨x,S1⟩ <;> simp[ab,ae]
def HD {i:HZ}{Q:QB}:Wp (cK M (.v i) Z S) Q↔Wp (az M (.v i) Z S) λp=>∃k,fj p.2 p.1=ba k/\Q (k,p.2):=by dsimp only[cK,az]; exact sO
def E7 {f:IH}{n:HZ}{es:Es}{Q:QB}:Wp (cK M (.own f n es) Z S) Q↔Wp (az M (.own f n es) Z S) λp=>∃k,fj p.2 p.1=ba k/\Q (k,p.2):=by dsimp only[cK,az]; exact sO
def GU {b:Bi}{es:Es}{Q:QB}:Wp (cK M (.bi b es) Z S) Q↔Wp (az M (.bi b es) Z S) λp=>∃k,fj p.2 p.1=ba k/\Q (k,p.2):=by dsimp only[cK,az]; exact sO
def E8 {c:JX}{a:E}{Q:QB}:Wp (cK M (.isi c a) Z S) Q↔Wp (az M (.isi c a) Z S) λp=>∃k,fj p.2 p.1=ba k/\Q (k,p.2):=by dsimp only[cK,az]; exact sO
noncomputable abbrev QO:=Out×aa->Prop
def E9 {Q:QO}:Wp (fA M fuel .nil Z S) Q↔Q (.nx Z,S):=by(dsimp only[fA]; simp[ab,ae])
def C7 {s:Sm}{ss:Ss}{Q:QO}:Wp (fA M fuel (.cons s ss) Z S) Q↔Wp (fw M fuel s Z S) λp=>(∀Z',p.1=.nx Z'->Wp (fA M fuel ss Z' p.2) Q)/\((∀Z',p.1≠.nx Z')->Q p):=by
 (dsimp only[fA]; simp only[zZ])
 rcases h:fw M fuel s Z S with _|⟨o,S1⟩
 ·simp[ab,ae]
 ·cases o <;> simp[ab,ae]
def xA {f:FE}{g:FG}{Q:QO}:Wp (j3 f g Z S) Q↔Wp (f Z S) λp=>Wp (g p.1 Z p.2) λq=>Q (.nx q.1,q.2):=by
 unfold j3;rcases h:f Z S with _|⟨x,S1⟩
 ·simp[ab,ae]
 ·rcases h2:g x Z S1 with _|⟨y,S2⟩ <;> simp[ab,ae,h2]
def C8 {i:HZ}{e:E}{Q:QO}:Wp (fw M fuel (.set i e) Z S) Q↔Wp (az M e Z S) λp=>Q (.nx (Z.set i (ba p.1)),p.2):=by
 dsimp only[fw]; rw[xA]; simp[z9,ab,ae]
def C9 {is:HN HZ}{e:E}{Q:QO}:Wp (fw M fuel (.asg is e) Z S) Q↔Wp (az M e Z S) λp=>∃ws Z',p.1=.tup ws/\cN is ws Z=ba Z'/\Q (.nx Z',p.2):=by
 dsimp only[fw]; rw[xA]
 constructor
 ·refine λh=>h.mono λp hp=>?_
  obtain⟨w,S1⟩:=p;obtain⟨q,h1,h2⟩:=hp;cases w with
  | tup ws=>
   simp only[CP,HU]at h1;obtain⟨Z',h3,rfl⟩:=h1;exact#[ws,Z',rfl,h3,h2]
  | _=>cases h1
 ·refine λh=>h.mono λp hp=>?_
  obtain⟨w,S1⟩:=p;obtain⟨ws,Z',h0,h1,h2⟩:=hp;subst h0;exact#[(Z',S1),by simp[CP,h1],h2]
def Da {i j:HZ}{es:Es}{Q:QO}:Wp (fw M fuel (.par i j es) Z S) Q↔Wp (cG M es Z S) λp=>∃x y,p.1=[x,y]/\Q (.nx ((Z.set i (ba x)).set j (ba y)),p.2):=by
 (dsimp only[fw]; simp only[Ab])
 rcases h:cG M es Z S with _|⟨x,S1⟩
 ·simp[ae]
 ·match x with
  | []=>simp[ab,ae]
  | [_]=>simp[ab,ae]
  | [a,b]=>
   simp only[ab];exact#[λh=>#[a,b,rfl,h],λ#[x,y,e,h]=>by cases e; exact h]
  | _::_::_::_=>simp[ab,ae]
def Db {o k e:E}{Q:QO}:Wp (fw M fuel (.put o k e) Z S) Q↔Wp (az M e Z S) λp=>Wp (az M o Z p.2) λq=>Wp (az M k Z q.2) λr=>∃S',gW q.1 r.1 p.1 r.2=ba S'/\Q (.nx Z,S'):=by
 dsimp only[fw]; rw[xA]
 rcases h:az M e Z S with _|⟨x,S1⟩
 ·simp[ab,ae]
 ·simp only[ab];unfold Aa;rcases h2:az M o Z S1 with _|⟨y,S2⟩
  ·simp[ab,ae]
  ·rcases h3:az M k Z S2 with _|⟨z,S3⟩
   ·simp[ab,ae,h3]
   ·cases h4:gW y z x S3 <;> simp[ab,ae,h3,h4]
def Fa {e:E}{Q:QO}:Wp (fw M fuel (.ex e) Z S) Q↔Wp (az M e Z S) λp=>Q (.nx Z,p.2):=by
 (dsimp only[fw]; simp only[z5])
 rcases h:az M e Z S with _|⟨x,S1⟩ <;> simp[ab,ae]
def Dc {e:E}{Q:QO}:Wp (fw M fuel (.ret e) Z S) Q↔Wp (az M e Z S) λp=>Q (.rt p.1,p.2):=by
 (dsimp only[fw]; simp only[z7])
 rcases h:az M e Z S with _|⟨x,S1⟩ <;> simp[ab,ae]
def De {t:E}{a b:Ss}{Q:QO}:Wp (fw M fuel (.ite t a b) Z S) Q↔Wp (cK M t Z S) λp=>(p.1=true->Wp (fA M fuel a Z p.2) Q)/\(p.1=false->Wp (fA M fuel b Z p.2) Q):=by
 (dsimp only[fw]; simp only[z8])
 rcases h:cK M t Z S with _|⟨x,S1⟩
 ·simp[ab,ae]
 ·cases x <;> simp[ab,ae]
end
section
variable{M:IH->FF}{fuel:HZ}{Z:Fm}{S:aa}
abbrev xB (I:Fm->aa->Prop)(Q:QO)(o:Out×aa):Prop:=match o.1 with
 | .nx Z'=>I Z' o.2
 | .ct Z'=>I Z' o.2
 | .bk Z'=>Q (.nx Z',o.2)
 | .rt w=>Q (.rt w,o.2)
def iV {mi:MI}{g:FG}{b:FS}{xs:HN W}{Q:QO}(I:HZ->Fm->aa->Prop)(hat:∀i Z S,I i Z S->mi.at S i=ba xs[i]?)
  (hstep:∀i w Z S,xs[i]?=ba w->I i Z S->Wp (g w Z S) λq=>Wp (b q.1 q.2) (xB (I (i+1)) Q)) (hend:∀Z S,I xs.length Z S->Q (.nx Z,S)):∀(n i:HZ) (Z:Fm) (S:aa),i+n=xs.length->I i Z S->Wp (fu mi g b n i Z S) Q
 | 0,i,Z,S,hl,hI=>by
  have e:mi.at S i=ba gV:=by rw[hat i Z S hI,LI ∅]
  simp only[fu,e];have hi:i=xs.length:=∅
  exact ab.mpr (hend Z S (hi ▸ hI))
 | n+1,i,Z,S,hl,hI=>by
  have hi:i < xs.length:=∅
  have e:mi.at S i=ba (ba xs[i]):=by rw[hat i Z S hI,Ig hi]
  obtain⟨⟨Z1,S1⟩,h1,⟨o,S2⟩,h2,h3⟩:=hstep i xs[i] Z S (Ig hi) hI;simp only[fu,e,h1,h2];cases o with
  | nx Z2=>exact iV I hat hstep hend n (i+1) Z2 S2 ∅ h3
  | ct Z2=>exact iV I hat hstep hend n (i+1) Z2 S2 ∅ h3
  | bk Z2=>exact ab.mpr h3
  | rt w=>exact ab.mpr h3
def Fb {fi:FI}{g:FG}{b:FS}{Q:QO}:Wp (wW fi g b Z S) Q↔Wp (fi Z S) λp=>∃n,p.1.len p.2=ba n/\Wp (fu p.1 g b n 0 Z p.2) Q:=by
 unfold wW;rcases h:fi Z S with _|⟨mi,S1⟩
 ·simp[ae]
 ·cases h2:mi.len S1 <;> simp[ab,ae,h2]
def cv {mi:MI}{g:FG}{c:FT}{f:FE}{xs:HN W}{Q:HN W×aa->Prop}(I:HZ->HN W->Fm->aa->Prop)(hat:∀i ys Z S,I i ys Z S->mi.at S i=ba xs[i]?)
  (hstep:∀i w ys Z S,xs[i]?=ba w->I i ys Z S->Wp (g w Z S) λq=>Wp (c q.1 q.2) λk=>(k.1=true->Wp (f q.1 k.2) λy=>I (i+1) (ys++[y.1]) q.1 y.2)/\(k.1=false->I (i+1) ys q.1 k.2))
  (hend:∀ys Z S,I xs.length ys Z S->Q (ys,S)):∀(n i:HZ) (ys:HN W) (Z:Fm) (S:aa),i+n=xs.length->I i ys Z S->Wp (bn mi g c f n i Z S) λp=>Q (ys++p.1,p.2)
 | 0,i,ys,Z,S,hl,hI=>by
  have e:mi.at S i=ba gV:=by rw[hat i ys Z S hI,LI ∅]
  simp only[bn,e];refine ab.mpr ?_;have:i=xs.length:=∅
  simpa using hend ys Z S (this ▸ hI)
 | n+1,i,ys,Z,S,hl,hI=>by
  have hi:i < xs.length:=∅
  have e:mi.at S i=ba (ba xs[i]):=by rw[hat i ys Z S hI,Ig hi]
  obtain⟨⟨Z1,S1⟩,h1,⟨k,S2⟩,h2,h3,h4⟩:=hstep i xs[i] ys Z S (Ig hi) hI;simp only[bn,e,h1,h2];cases k with
  | true=>
   obtain⟨⟨y,S3⟩,h5,h6⟩:=h3 rfl;simp only[h5];obtain⟨⟨zs,S4⟩,h7,h8⟩:=cv I hat hstep hend n (i+1) (ys++[y]) Z1 S3 ∅ h6
   simp only[h7];exact ab.mpr (by simpa using h8)
  | false=>exact cv I hat hstep hend n (i+1) ys Z1 S2 ∅ (h4 rfl)
def rj {elt:E}{tg:Tg}{it:Ie}{cs:Es}{cap:HN (HY HZ)}{Q:QW}:Wp (az M (.comp elt tg it cs cap) Z S) Q↔Wp (iR M it Z S) λp=>∃n,p.1.len p.2=ba n/\Wp (bn p.1 (eZ tg) (At M cs) (az M elt) n 0 (eh cap Z) p.2) λq=>q.1.length<=sizeLine/\Q (.ref q.2.length,q.2++[.lst q.1]):=by
 (dsimp only[az]; simp only[j5,kO])
 rcases h:iR M it Z S with _|⟨mi,S1⟩
 ·simp[ae]
 ·rcases h2:mi.len S1 with _|n
  ·simp[ab,ae,h2]
  ·rcases h3:bn mi (eZ tg) (At M cs) (az M elt) n 0 (eh cap Z) S1 with _|⟨ys,S2⟩
   ·simp[ab,ae,h2,h3]
   ·by_cases hl:ys.length<=sizeLine <;> simp[ab,ae,h2,h3,hl]
def Fc {Q:QB}:Wp (At M .nil Z S) Q↔Q (true,S):=by(dsimp only[At]; simp[Bo,ab])
def Fd {e:E}{Q:QB}:Wp (At M #v[e] Z S) Q↔Wp (cK M e Z S) Q:=by dsimp only[At]; exact Iff.rfl
def GV {i:HZ}{w:W}{Q:Fm×aa->Prop}:Wp (eZ (.nm i) w Z S) Q↔Q (Z.set i (ba w),S):=by(dsimp only[eZ]; simp[z9,ab])
def GX {is:HN HZ}{ws:HN W}{Q:Fm×aa->Prop}:Wp (eZ (.tp is) (.tup ws) Z S) Q↔∃Z',cN is ws Z=ba Z'/\Q (Z',S):=by
 (dsimp only[eZ]; simp only[CP])
 cases cN is ws Z <;> simp[ab,ae]
def ki {c:FT}{b:FS}{Q:QO}(I:HZ->Fm->aa->Prop)(hstep:∀m Z S,I m Z S->Wp (c Z S) λk=>(k.1=true->∃m',m=m'+1/\Wp (b Z k.2) (xB (I m') Q))/\(k.1=false->Q (.nx Z,k.2))) :
  ∀(n m:HZ) (Z:Fm) (S:aa),m < n->I m Z S->Wp (mX c b n Z S) Q
 | 0,m,Z,S,h,_=>∅
 | n+1,m,Z,S,h,hI=>by
  obtain⟨⟨k,S1⟩,h1,h2,h3⟩:=hstep m Z S hI;simp only[mX,h1];cases k with
  | false=>exact ab.mpr (h3 rfl)
  | true=>
   obtain⟨m',rfl,⟨o,S2⟩,h5,h6⟩:=h2 rfl;simp only[h5];cases o with
   | nx Z2=>exact ki I hstep n m' Z2 S2 ∅ h6
   | ct Z2=>exact ki I hstep n m' Z2 S2 ∅ h6
   | bk Z2=>exact ab.mpr h6
   | rt w=>exact ab.mpr h6
def uL {defs:HN (IH×Df)}{d:HZ}{f:IH}{ws:HN W}{df:Df}{Q:QW}(h:defs.lookup f=ba df)(hl:ws.length=df.ps.length)
  (hb:Wp (fA (am defs fuel d) fuel df.body (eN df.N ws) S) λp=>match p.1 with|.rt w=>Q (w,p.2)|.nx _=>Q (.non,p.2)|_=>JR):Wp (am defs fuel (d+1) f ws S) Q:=by
 obtain⟨⟨o,S1⟩,h1,h2⟩:=hb;simp only[am,h,IF hl,h1];cases o with
 | rt w=>exact ab.mpr h2
 | nx Z=>exact ab.mpr h2
 | bk _=>exact h2.elim
 | ct _=>exact h2.elim
end
section
variable{S:aa}{Q:QW}
def cg {a b:Ip}:eS .add (.int a) (.int b) S=ba (.int (a+b),S):=rfl
def xC {a b:Ip}:eS .sub (.int a) (.int b) S=ba (.int (a - b),S):=rfl
def nr {c:Ip->Ip->IN}{f:Ip->Ip->Ip}{i j:Ip}(h:c i j=true):yJ c f (.int i) (.int j) S=ba (.int (f i j),S):=by
 unfold yJ;dsimp only;rw[IF h]
def po {a b:Ip}(h : -(2 ^ 64) < b)(h2:b < 2 ^ 64):eS .mul (.int a) (.int b) S=ba (.int (a*b),S):=nr (c:=tW) (f:=(· * ·)) (by
 unfold tW;simp only[Kq,HX,Ix];exact .inr #[h,h2])
def hX {a b:Ip}(h:0 < b):eS .mod (.int a) (.int b) S=ba (.int (a % b),S):=nr (c:=λ_ j=>decide (0 < j)) (f:=(· % ·)) (JG h)
def gE {a b:Ip}(h:0 < b)(h2:b < 1073741824):eS .fdiv (.int a) (.int b) S=ba (.int (a / b),S):=nr (c:=λ_ j=>zq j) (f:=(· / ·)) (by
 unfold zq;simp only[HX,Ix];exact#[h,h2])
def Dg:eS .pow (.int 10) (.int 18) S=ba (.int 1000000000000000000,S):=rfl
def Dh {x y:IH}(h:x.length+y.length<=sizeLine):eS .add (.str x) (.str y) S=ba (.str (x++y),S):=by simp only[eS,tX]; rw[IF h]
def gF {xs ys:HN W}(h:(xs++ys).length<=sizeLine):eS .add (.tup xs) (.tup ys) S=ba (.tup (xs++ys),S):=by simp only[eS,tX,qD]; rw[IF h]
def xD {i j:HZ}{xs ys:HN W}(h1:S[i]?=ba (.lst xs))(h2:S[j]?=ba (.lst ys))(h:(xs++ys).length<=sizeLine):eS .add (.ref i) (.ref j) S=ba (.ref S.length,S++[.lst (xs++ys)]):=by
 simp only[eS,tX,nO,h1,h2,kO]; rw[IF h]
def fD {a b:Ip}:cr .eq (.int a) (.int b) S=ba (.bl (a==b),S):=rfl
def GY {a b:Ip}:cr .ne (.int a) (.int b) S=ba (.bl (!(a==b)),S):=rfl
def xE {a b:Ip}:cr .lt (.int a) (.int b) S=ba (.bl (decide (a < b)),S):=rfl
def xF {a b:Ip}:cr .gt (.int a) (.int b) S=ba (.bl (decide (a > b)),S):=rfl
def GZ {a b:Ip}:cr .ge (.int a) (.int b) S=ba (.bl (decide (a>=b)),S):=rfl
def Bw {a b:IH}:cr .eq (.str a) (.str b) S=ba (.bl (a==b),S):=rfl
def Fe {a b:IH}:cr .ne (.str a) (.str b) S=ba (.bl (!(a==b)),S):=rfl
def ar {r:HZ}{xs:HN W}(h:S[r]?=ba (.lst xs)):eY S r=ba xs:=by simp[eY,h]
def Az {r:HZ}{xs:HN W}(h:S[r]?=ba (.fro xs)):eY S r=ba xs:=by simp[eY,h]
def bZ {r:HZ}{xs:HN W}(h:S[r]?=ba (.lst xs)):nO S r=ba xs:=by simp[nO,h]
def jw {r:HZ}{xs:HN W}(h:S[r]?=ba (.lst xs)):iL S r=gV:=by simp[iL,h]
def cR {r:HZ}{U:HN (T×W)}(h:S[r]?=ba (.dic U)):iL S r=ba U:=by simp[iL,h]
def nu {r:HZ}{U:HN (T×W)}(h:S[r]?=ba (.dic U)):eY S r=gV:=by simp[eY,h]
def AA {r:HZ}{U:HN (T×W)}(h:S[r]?=ba (.frd U)):iL S r=ba U:=by simp[iL,h]
def atI_nat {α:Type}{xs:HN α}{j:HZ}{w:α}(h:xs[j]?=ba w):nN xs (j:Ip)=ba w:=by
 have hl:=(Il.mp h).1;unfold nN qm;rw[IF (IT j),IF (by exact_mod_cast hl)]
 simpa using h
def nv {α:Type}{xs:HN α}{i:Ip}{w:α}(h0:0<=i)(h:xs[i.toNat]?=ba w):nN xs i=ba w:=by
 have:=atI_nat h
 rwa [OJ h0]at this
def xG {r:HZ}{xs:HN W}{i:Ip}{w:W}(h:S[r]?=ba (.lst xs))(h0:0<=i)(hw:xs[i.toNat]?=ba w):lu (.ref r) (.int i) S=ba (w,S):=by
 show rX (.ref r) (.int i) S=_;simp[rX,ar h,nv h0 hw]
def Ff {xs:HN W}{i:Ip}{w:W}(h0:0<=i)(hw:xs[i.toNat]?=ba w):lu (.tup xs) (.int i) S=ba (w,S):=by
 show rX (.tup xs) (.int i) S=_;simp[rX,nv h0 hw]
def Bx {x:IH}{i:Ip}{c:HZ}(hz:x.length<=sizeLine)(h0:0<=i)(hw:x.cps.toList[i.toNat]?=ba c):lu (.str x) (.int i) S=ba (.str #[[c].toArray],S):=by
 show rX (.str x) (.int i) S=_;simp[rX,hz,nv h0 hw]
def By {r:HZ}{xs:HN W}{i:Ip}{w:W}(h:S[r]?=ba (.lst xs))(h0:0<=i)(hi:i.toNat < xs.length):gW (.ref r) (.int i) w S=ba (S.set r (.lst (xs.set i.toNat w))):=by
 show tY (.ref r) (.int i) w S=_;have:qm xs.length i=ba i.toNat:=by
  unfold qm;rw[IF h0,IF ∅]
 simp[tY,bZ h,this]
def Bz {r:HZ}{xs:HN W}(h:S[r]?=ba (.lst xs)):Bi.len.fn [.ref r] S=ba (.int xs.length,S):=by
 simp[Bi.fn,sD,oJ,jw h,nY,ar h]
def sP {r:HZ}{xs:HN W}{y:W}(h:S[r]?=ba (.lst xs))(hl:xs.length < sizeLine):gN (.ref r) [y] S=ba (.non,S.set r (.lst (xs++[y]))):=by
 simp[gN,bZ h,hl]
def Fg {r:HZ}{xs:HN W}(h:S[r]?=ba (.lst xs)):jZ [.ref r] S=ba (.tup xs,S):=by
 simp[jZ,vV,h,jJ,ar h]
def dg {r:HZ}{xs:HN W}(h:S[r]?=ba (.lst xs)):tyOk "list" S (.ref r)=true:=by simp[tyOk,ar h]
def br {r:HZ}{o o':O}(h:S[r]?=ba o):(S.set r o')[r]?=ba o':=by
 rw[Kj,IF rfl,IF (Il.mp h).1]
def bw {r j:HZ}{o':O}(h:r≠j):(S.set r o')[j]?=S[j]?:=by rw[Kj,IP h]
def af {o:O}:(S++[o])[S.length]?=ba o:=by simp
def al {j:HZ}{o u:O}(h:S[j]?=ba o):(S++[u])[j]?=ba o:=by rw[Jr (Il.mp h).1]; exact h
def dk {j:HZ}{o:O}(h:S[j]?=ba o):j < S.length:=(Il.mp h).1
structure Kp (r:HZ)(S S':aa):Prop where
 get:∀j o,j≠r->S[j]?=ba o->S'[j]?=ba o
 len:S.length<=S'.length
def Kp.refl {r:HZ}{S:aa}:Kp r S S:=#[λ_ _ _ h=>h,Ih _]
def Kp.trans {r:HZ}{S S' S'':aa}(a:Kp r S S')(b:Kp r S' S''):Kp r S S'':=#[λj o n h=>b.get j o n (a.get j o n h),IL a.len b.len]
def Kp.set {r:HZ}{S:aa}{o:O}:Kp r S (S.set r o):=#[λj u n h=>by rw[bw (Ne.symm n)]; exact h,by simp]
def Kp.push {r:HZ}{S:aa}{o:O}:Kp r S (S++[o]):=#[λj u n h=>al h,by simp]
def Kp.late {r t:HZ}{S0 S:aa}{o:O}(a:Kp r S0 S)(h:S0.length<=t):Kp r S0 (S.set t o):=
 #[λj u n e=>by
  have:=dk e;rw[bw ∅]; exact a.get j u n e,by simpa using a.len]
end
abbrev wO {α:Type}(o:HY α)(Q:α->Prop):Prop:=match o with
 | some a=>Q a
 | none=>JR
def bU {α:Type}{o:HY α}{Q:α->Prop}(h:wO o Q):Wp o Q:=by
 cases o with
 | none=>exact h.elim
 | some a=>exact#[a,rfl,h]
def Fh {α:Type}{o:HY α}{Q:α->Prop}(h:Wp o Q):wO o Q:=by
 obtain⟨a,rfl,q⟩:=h;exact q
def ac {α:Type}{o:HY α}{a:α}{Q:α->Prop}(e:o=ba a)(h:Q a):wO o Q:=by subst e; exact h
abbrev wB:W->(IN->Prop)->Prop
 | .bl k,Q=>Q k
 | _,_=>JR
abbrev wN:W->(Ip->Prop)->Prop
 | .int k,Q=>Q k
 | _,_=>JR
abbrev wU:W->(HN W->Prop)->Prop
 | .tup k,Q=>Q k
 | _,_=>JR
def sQ {w:W}{Q:IN->Prop}(h:wB w Q):∃k,w=.bl k/\Q k:=by cases w <;> first|exact h.elim|exact#[_,rfl,h]
def BA {w:W}{Q:Ip->Prop}(h:wN w Q):∃k,w=.int k/\Q k:=by cases w <;> first|exact h.elim|exact#[_,rfl,h]
def Fi {w:W}{Q:HN W->Prop}(h:wU w Q):∃k,w=.tup k/\Q k:=by cases w <;> first|exact h.elim|exact#[_,rfl,h]
abbrev w2:HN W->(W->W->Prop)->Prop
 | [x,y],Q=>Q x y
 | _,_=>JR
def Fj {xs:HN W}{Q:W->W->Prop}(h:w2 xs Q):∃x y,xs=[x,y]/\Q x y:=by
 match xs,h with
 | [x,y],h=>exact#[x,y,rfl,h]
abbrev wG:HY W->(W->Prop)->Prop
 | some w,Q=>Q w
 | none,_=>JR
abbrev wV:Fm->HZ->(W->Prop)->Prop
 | [],_,_=>JR
 | o::_,0,Q=>wG o Q
 | _::Z,n+1,Q=>wV Z n Q
def xH {Q:W->Prop}:∀ {Z:Fm} {i:HZ},wV Z i Q->∃w,Z[i]?=ba (ba w)/\Q w
 | [],i,h=>h.elim
 | some w::Z,0,h=>#[w,rfl,h]
 | none::Z,0,h=>h.elim
 | x::Z,n+1,h=>by
  obtain⟨w,e2,q⟩:=xH (Z:=Z) (i:=n) h;exact#[w,e2,q]
abbrev aV (M:IH->FF)(f:IH)(n:HZ)(ws:HN W)(S:aa):HY (W×aa):=if ws.length=n then M f ws S else gV
section
variable (M:IH->FF) (fuel:HZ)
mutual
noncomputable def wE:E->Fm->aa->QW->Prop
 | .c w,_,S,Q=>Q (w,S)
 | .v i,Z,S,Q=>wV Z i λw=>Q (w,S)
 | .op o a b,Z,S,Q=>wE a Z S λp=>wE b Z p.2 λq=>wO (eS o p.1 q.1 q.2) Q
 | .cmp o a b,Z,S,Q=>wE a Z S λp=>wE b Z p.2 λq=>wO (cr o p.1 q.1 q.2) Q
 | .and a b,Z,S,Q=>wE a Z S λp=>wB p.1 λk=>(k=true->wE b Z p.2 Q)/\(k=false->Q (.bl false,p.2))
 | .or a b,Z,S,Q=>wE a Z S λp=>wB p.1 λk=>(k=true->Q (.bl true,p.2))/\(k=false->wE b Z p.2 Q)
 | .not a,Z,S,Q=>wE a Z S λp=>wB p.1 λk=>Q (.bl (!k),p.2)
 | .own f n es,Z,S,Q=>wA es Z S λp=>wO (aV M f n p.1 p.2) Q
 | .bi b es,Z,S,Q=>wA es Z S λp=>wO (b.fn p.1 p.2) Q
 | .me m o es,Z,S,Q=>wE o Z S λp=>tyOk m.ty p.2 p.1=true/\wA es Z p.2 λq=>wO (m.fn p.1 q.1 q.2) Q
 | .ix a b,Z,S,Q=>wE a Z S λp=>wE b Z p.2 λq=>wO (lu p.1 q.1 q.2) Q
 | .sl a lo hi,Z,S,Q=>wE a Z S λp=>wP lo Z p.2 λq=>wP hi Z q.2 λr=>wO (nX p.1 q.1 r.1 r.2) Q
 | .tup es,Z,S,Q=>wA es Z S λp=>Q (.tup p.1,p.2)
 | .lst es,Z,S,Q=>wA es Z S λp=>Q (.ref p.2.length,p.2++[.lst p.1])
 | .isi c a,Z,S,Q=>wE a Z S λp=>wO (wX p.2 p.1 c) λk=>Q (.bl k,p.2)
 | .neg a,Z,S,Q=>wE a Z S λp=>wN p.1 λi=>Q (.int (-i),p.2)
 | .dnew,_,S,Q=>Q (.ref S.length,S++[.dic []])
 | .disp es,Z,S,Q=>wA es Z (S++[.dic []]) λp=>p.2[S.length]?=ba (.dic [])/\wO (de [] p.1) λU=>Q (.ref S.length,p.2.set S.length (.dic U))
 | .ite t a b,Z,S,Q=>wT t Z S λp=>(p.1=true->wE a Z p.2 Q)/\(p.1=false->wE b Z p.2 Q)
 | .comp elt tg it cs cap,Z,S,Q=>Wp (az M (.comp elt tg it cs cap) Z S) Q
noncomputable def wT:E->Fm->aa->QB->Prop
 | .cmp o a b,Z,S,Q=>wE a Z S λp=>wE b Z p.2 λq=>wO (cr o p.1 q.1 q.2) λr=>wB r.1 λk=>Q (k,r.2)
 | .and a b,Z,S,Q=>wT a Z S λp=>(p.1=true->wT b Z p.2 Q)/\(p.1=false->Q (false,p.2))
 | .or a b,Z,S,Q=>wT a Z S λp=>(p.1=true->Q (true,p.2))/\(p.1=false->wT b Z p.2 Q)
 | .not a,Z,S,Q=>wT a Z S λp=>Q (!p.1,p.2)
 | .isi c a,Z,S,Q=>wE a Z S λp=>wO (wX p.2 p.1 c) λk=>Q (k,p.2)
 | .c w,Z,S,Q=>Wp (cK M (.c w) Z S) Q
 | .v i,Z,S,Q=>wV Z i λw=>wO (fj S w) λk=>Q (k,S)
 | .op o a b,Z,S,Q=>Wp (cK M (.op o a b) Z S) Q
 | .own f n es,Z,S,Q=>wA es Z S λp=>wO (aV M f n p.1 p.2) λq=>wO (fj q.2 q.1) λk=>Q (k,q.2)
 | .bi b es,Z,S,Q=>wA es Z S λp=>wO (b.fn p.1 p.2) λq=>wO (fj q.2 q.1) λk=>Q (k,q.2)
 | .me m o es,Z,S,Q=>Wp (cK M (.me m o es) Z S) Q
 | .ix a b,Z,S,Q=>Wp (cK M (.ix a b) Z S) Q
 | .sl a lo hi,Z,S,Q=>Wp (cK M (.sl a lo hi) Z S) Q
 | .tup es,Z,S,Q=>Wp (cK M (.tup es) Z S) Q
 | .lst es,Z,S,Q=>Wp (cK M (.lst es) Z S) Q
 | .neg a,Z,S,Q=>Wp (cK M (.neg a) Z S) Q
 | .dnew,Z,S,Q=>Wp (cK M .dnew Z S) Q
 | .disp es,Z,S,Q=>Wp (cK M (.disp es) Z S) Q
 | .ite t a b,Z,S,Q=>Wp (cK M (.ite t a b) Z S) Q
 | .comp elt tg it cs cap,Z,S,Q=>Wp (cK M (.comp elt tg it cs cap) Z S) Q
noncomputable def wA:Es->Fm->aa->(HN W×aa->Prop)->Prop
 | .nil,_,S,Q=>Q ([],S)
 | .cons e es,Z,S,Q=>wE e Z S λp=>wA es Z p.2 λq=>Q (p.1::q.1,q.2)
noncomputable def wP:Ep->Fm->aa->(HY Ip×aa->Prop)->Prop
 | .no,_,S,Q=>Q (gV,S)
 | .yes a,Z,S,Q=>wE a Z S λp=>wN p.1 λi=>Q (ba i,p.2)
end
abbrev qo (K:Fm->aa->Prop)(Q:QO)(p:Out×aa):Prop:=match p.1 with
 | .nx Z=>K Z p.2
 | o=>Q (o,p.2)
mutual
noncomputable def wS:Sm->Fm->aa->(Fm->aa->Prop)->QO->Prop
 | .set i e,Z,S,K,_=>wE M e Z S λp=>K (Z.set i (ba p.1)) p.2
 | .asg is e,Z,S,K,_=>wE M e Z S λp=>wU p.1 λws=>wO (cN is ws Z) λZ'=>K Z' p.2
 | .par i j es,Z,S,K,_=>wA M es Z S λp=>w2 p.1 λx y=>K ((Z.set i (ba x)).set j (ba y)) p.2
 | .put o k e,Z,S,K,_=>wE M e Z S λp=>wE M o Z p.2 λq=>wE M k Z q.2 λr=>wO (gW q.1 r.1 p.1 r.2) λS'=>K Z S'
 | .ex e,Z,S,K,_=>wE M e Z S λp=>K Z p.2
 | .ret e,Z,S,_,Q=>wE M e Z S λp=>Q (.rt p.1,p.2)
 | .pass,Z,S,K,_=>K Z S
 | .ite t a b,Z,S,K,Q=>wT M t Z S λp=>∀Q':QO,(∀Z' S',K Z' S'->Q' (.nx Z',S'))->(∀o S',(∀Z',o≠.nx Z')->Q (o,S')->Q' (o,S'))->(p.1=true->AB a Z p.2 Q')/\(p.1=false->AB b Z p.2 Q')
 | .whl t b,Z,S,K,Q=>Wp (fw M fuel (.whl t b) Z S) (qo K Q)
 | .loop tg it b,Z,S,K,Q=>Wp (fw M fuel (.loop tg it b) Z S) (qo K Q)
noncomputable def AB:Ss->Fm->aa->QO->Prop
 | .nil,Z,S,Q=>Q (.nx Z,S)
 | .cons s ss,Z,S,Q=>wS s Z S (λZ' S'=>AB ss Z' S' Q) Q
end
end
abbrev FX:Es->HZ
 | .nil=>0
 | .cons _ es=>FX es+1
mutual
noncomputable def da:E->IN
 | .c _|.v _|.comp _ _ _ _ _|.dnew=>true
 | .op _ a b|.cmp _ a b|.and a b|.or a b|.ix a b=>da a&&da b
 | .ite a b c=>da a&&da b&&da c
 | .neg a|.not a|.isi _ a=>da a
 | .own _ n es=>FX es==n&&lO es
 | .bi _ es|.disp es=>lO es
 | .me _ o es=>da o&&lO es
 | .sl a lo hi=>da a&&G0 lo&&G0 hi
 | .tup es|.lst es=>decide (FX es<=1000)&&lO es
noncomputable def lO:Es->IN
 | .nil=>true
 | .cons e es=>da e&&lO es
noncomputable def G0:Ep->IN
 | .no=>true
 | .yes e=>da e
end
mutual
noncomputable def Hu:Sm->IN
 | .set _ e|.asg _ e|.ex e|.ret e=>da e
 | .put o k e=>da o&&da k&&da e
 | .par _ _ es=>lO es
 | .ite t a b=>da t&&fZ a&&fZ b
 | _=>true
noncomputable def fZ:Ss->IN
 | .nil=>true
 | .cons s ss=>Hu s&&fZ ss
end
section
variable{M:IH->FF}{fuel:HZ}
def hZ:∀ {es:Es} {Z:Fm} {S S':aa} {ws:HN W},cG M es Z S=ba (ws,S')->ws.length=FX es
 | .nil,Z,S,S',ws,h=>by dsimp only[cG]at h; cases h; rfl
 | .cons e es,Z,S,S',ws,h=>by
  dsimp only[cG]at h;unfold dj at h;split at h
  ·split at h
   ·rename_i h2; cases h; rw[Ju,hZ h2]; rfl
   ·cases h
  ·cases h
def xI {n:HZ}(h:decide (n<=1000)=true):n<=sizeLine:=IL (Je h) (by rw[Jq]; decide)
def cL {a b:IN}(h:(a&&b)=true):a=true:=by cases a <;> first|rfl|cases h
def dJ {a b:IN}(h:(a&&b)=true):b=true:=by cases a <;> first|exact h|cases h
mutual
theorem aT:∀(e:E) {Z:Fm} {S:aa} {Q:QW},da e=true->wE M e Z S Q->Wp (az M e Z S) Q
 | .c w,Z,S,Q,k,h=>HC.mpr h
 | .v i,Z,S,Q,k,h=>Ht.mpr (xH h)
 | .op o a b,Z,S,Q,k,h=>GK.mpr ((aT a (cL k) h).mono λp hp=>(aT b (dJ k) hp).mono λq hq=>bU hq)
 | .cmp o a b,Z,S,Q,k,h=>Bt.mpr ((aT a (cL k) h).mono λp hp=>(aT b (dJ k) hp).mono λq hq=>bU hq)
 | .and a b,Z,S,Q,k,h=>ET.mpr ((aT a (cL k) h).mono λp hp=>let ⟨c,e,h1,h2⟩:=sQ hp; #[c,e,λz=>aT b (dJ k) (h1 z),h2])
 | .or a b,Z,S,Q,k,h=>GM.mpr ((aT a (cL k) h).mono λp hp=>let ⟨c,e,h1,h2⟩:=sQ hp; #[c,e,h1,λz=>aT b (dJ k) (h2 z)])
 | .not a,Z,S,Q,k,h=>EU.mpr ((aT a k h).mono λp hp=>sQ hp)
 | .own f n es,Z,S,Q,k,h=>Bu.mpr (by
   obtain⟨⟨ws,S1⟩,e,hq⟩:=gl es (dJ k) h;have hl:ws.length=n:=(hZ e).trans (eq_of_beq (cL k));simp only[aV,IF hl]at hq;exact#[_,e,hl,bU hq])
 | .bi b es,Z,S,Q,k,h=>EW.mpr ((gl es k h).mono λp hp=>bU hp)
 | .me m o es,Z,S,Q,k,h=>GN.mpr ((aT o (cL k) h).mono λp hp=>#[hp.1,(gl es (dJ k) hp.2).mono λq hq=>bU hq])
 | .ix a b,Z,S,Q,k,h=>GL.mpr ((aT a (cL k) h).mono λp hp=>(aT b (dJ k) hp).mono λq hq=>bU hq)
 | .sl a lo hi,Z,S,Q,k,h=>GP.mpr ((aT a (cL (cL k)) h).mono λp hp=>(BB lo (dJ (cL k)) hp).mono λq hq=>(BB hi (dJ k) hq).mono λr hr=>bU hr)
 | .tup es,Z,S,Q,k,h=>EY.mpr (by
   obtain⟨⟨ws,S1⟩,e,hq⟩:=gl es (dJ k) h;exact#[_,e,by rw[hZ e]; exact xI (cL k),hq])
 | .lst es,Z,S,Q,k,h=>EZ.mpr (by
   obtain⟨⟨ws,S1⟩,e,hq⟩:=gl es (dJ k) h;exact#[_,e,by rw[hZ e]; exact xI (cL k),hq])
 | .isi c a,Z,S,Q,k,h=>Bv.mpr ((aT a k h).mono λp hp=>bU hp)
 | .neg a,Z,S,Q,k,h=>E1.mpr ((aT a k h).mono λp hp=>BA hp)
 | .dnew,Z,S,Q,k,h=>#[_,rfl,h]
 | .disp es,Z,S,Q,k,h=>C5.mpr ((gl es k h).mono λp hp=>#[hp.1,let ⟨U,e,q⟩:=bU hp.2; #[U,e,q]])
 | .ite t a b,Z,S,Q,k,h=>EV.mpr ((ic t (cL (cL k)) h).mono λp hp=>#[λz=>aT a (dJ (cL k)) (hp.1 z),λz=>aT b (dJ k) (hp.2 z)])
 | .comp elt tg it cs cap,Z,S,Q,k,h=>h
theorem gl:∀(es:Es) {Z:Fm} {S:aa} {Q:HN W×aa->Prop},lO es=true->wA M es Z S Q->Wp (cG M es Z S) Q
 | .nil,Z,S,Q,k,h=>E2.mpr h
 | .cons e es,Z,S,Q,k,h=>C6.mpr ((aT e (cL k) h).mono λp hp=>gl es (dJ k) hp)
theorem BB:∀(e:Ep) {Z:Fm} {S:aa} {Q:HY Ip×aa->Prop},G0 e=true->wP M e Z S Q->Wp (sE M e Z S) Q
 | .no,Z,S,Q,k,h=>GQ.mpr h
 | .yes a,Z,S,Q,k,h=>EX.mpr ((aT a k h).mono λp hp=>BA hp)
theorem ic:∀(e:E) {Z:Fm} {S:aa} {Q:QB},da e=true->wT M e Z S Q->Wp (cK M e Z S) Q
 | .cmp o a b,Z,S,Q,k,h=>E4.mpr (Bt.mpr ((aT a (cL k) h).mono λp hp=>(aT b (dJ k) hp).mono λq hq=>(bU hq).mono λr hr=>sQ hr))
 | .and a b,Z,S,Q,k,h=>E5.mpr ((ic a (cL k) h).mono λp hp=>#[λz=>ic b (dJ k) (hp.1 z),hp.2])
 | .or a b,Z,S,Q,k,h=>GR.mpr ((ic a (cL k) h).mono λp hp=>#[hp.1,λz=>ic b (dJ k) (hp.2 z)])
 | .not a,Z,S,Q,k,h=>E6.mpr (ic a k h)
 | .isi c a,Z,S,Q,k,h=>E8.mpr (Bv.mpr ((aT a k h).mono λp hp=>let ⟨b,e,q⟩:=bU hp; #[b,e,b,rfl,q]))
 | .v i,Z,S,Q,k,h=>HD.mpr (Ht.mpr (let ⟨w,e,q⟩:=xH h; #[w,e,bU q]))
 | .own f n es,Z,S,Q,k,h=>E7.mpr (Bu.mpr (by
   obtain⟨⟨ws,S1⟩,e,hq⟩:=gl es (dJ k) h;have hl:ws.length=n:=(hZ e).trans (eq_of_beq (cL k));simp only[aV,IF hl]at hq;exact#[_,e,hl,(bU hq).mono λq hq=>bU hq]))
 | .c w,Z,S,Q,k,h=>h
 | .op o a b,Z,S,Q,k,h=>h
 | .bi b es,Z,S,Q,k,h=>GU.mpr (EW.mpr ((gl es k h).mono λp hp=>(bU hp).mono λq hq=>bU hq))
 | .me m o es,Z,S,Q,k,h=>h
 | .ix a b,Z,S,Q,k,h=>h
 | .sl a lo hi,Z,S,Q,k,h=>h
 | .tup es,Z,S,Q,k,h=>h
 | .lst es,Z,S,Q,k,h=>h
 | .neg a,Z,S,Q,k,h=>h
 | .dnew,Z,S,Q,k,h=>h
 | .disp es,Z,S,Q,k,h=>h
 | .ite t a b,Z,S,Q,k,h=>h
 | .comp elt tg it cs cap,Z,S,Q,k,h=>h
end
mutual
theorem Fk:∀(s:Sm) {Z:Fm} {S:aa} {K:Fm->aa->Prop} {Q:QO},Hu s=true->wS M fuel s Z S K Q->Wp (fw M fuel s Z S) (qo K Q)
 | .set i e,Z,S,K,Q,k,h=>C8.mpr (aT e k h)
 | .asg is e,Z,S,K,Q,k,h=>C9.mpr ((aT e k h).mono λp hp=>let ⟨ws,e1,h1⟩:=Fi hp; let ⟨Z',e2,h2⟩:=bU h1; #[ws,Z',e1,e2,h2])
 | .par i j es,Z,S,K,Q,k,h=>Da.mpr ((gl es k h).mono λp hp=>Fj hp)
 | .put o i e,Z,S,K,Q,k,h=>Db.mpr ((aT e (dJ k) h).mono λp hp=>(aT o (cL (cL k)) hp).mono λq hq=>(aT i (dJ (cL k)) hq).mono λr hr=>bU hr)
 | .ex e,Z,S,K,Q,k,h=>Fa.mpr (aT e k h)
 | .ret e,Z,S,K,Q,k,h=>Dc.mpr (aT e k h)
 | .pass,Z,S,K,Q,k,h=>#[_,rfl,h]
 | .ite t a b,Z,S,K,Q,k,h=>De.mpr ((ic t (cL (cL k)) h).mono λp hp=>by
   obtain⟨h1,h2⟩:=hp (qo K Q) (λZ' S' z=>z) (λo S' hn z=>by cases o <;> first|exact z|exact absurd rfl (hn _))
   exact#[λz=>iW a (dJ (cL k)) (h1 z),λz=>iW b (dJ k) (h2 z)])
 | .whl t b,Z,S,K,Q,k,h=>h
 | .loop tg it b,Z,S,K,Q,k,h=>h
theorem iW:∀(ss:Ss) {Z:Fm} {S:aa} {Q:QO},fZ ss=true->AB M fuel ss Z S Q->Wp (fA M fuel ss Z S) Q
 | .nil,Z,S,Q,k,h=>E9.mpr h
 | .cons s ss,Z,S,Q,k,h=>C7.mpr ((Fk s (cL k) h).mono λp hp=>by
   obtain⟨o,S1⟩:=p;cases o with
   | nx Z'=>exact#[λZ2 e=>by cases e; exact iW ss (dJ k) hp,λz=>absurd rfl (z Z')]
   | _=>exact#[λZ2 e=>(by cases e),λ_=>hp])
end
structure wZ (M:IH->FF)(fuel:HZ)(ss:Ss)(Z:Fm)(S:aa)(Q:QO):Prop where
 out:AB M fuel ss Z S Q
def Fn {ss:Ss}{Z:Fm}{S:aa}{Q:QO}:AB M fuel ss Z S Q=wZ M fuel ss Z S Q:=propext #[λh=>#[h],λh=>h.out]
def Di {defs:HN (IH×Df)}{d:HZ}{f:IH}{n:HZ}{ws:HN W}{df:Df}{S:aa}{Q:QW}(h:defs.lookup f=ba df)(hn:ws.length=n)(hl:ws.length=df.ps.length)(ok:fZ df.body=true)
  (hb:∀Q':QO,(∀w S',Q (w,S')->Q' (.rt w,S'))->wZ (am defs fuel d) fuel df.body (eN df.N ws) S Q'):wO (aV (am defs fuel (d+1)) f n ws S) Q:=by
 unfold aV;rw[IF hn];exact Fh (uL h hl ((iW _ ok (hb (λp=>match p.1 with|.rt w=>Q (w,p.2)|_=>JR) λw S' q=>q).out).mono λp hp=>by
  obtain⟨o,S1⟩:=p;cases o <;> first|exact hp|exact hp.elim))
end
section
variable{M:IH->FF}{fuel:HZ}{Z:Fm}{S:aa}{K:Fm->aa->Prop}{Q:QO}
abbrev u7 (M:IH->FF)(fuel:HZ)(b:Ss)(Z:Fm)(S:aa)(I:Fm->aa->Prop)(Q:QO):Prop:=∀Q':QO,(∀Z' S',I Z' S'->Q' (.nx Z',S'))->(∀w S',Q (.rt w,S')->Q' (.rt w,S'))->wZ M fuel b Z S Q'
def gG {tg:Tg}{it:Ie}{b:Ss}{mi:MI}{S1:aa}{xs:HN W}(I:HZ->Fm->aa->Prop)(ok:fZ b=true)(hi:iR M it Z S=ba (mi,S1))(hat:∀i Z S,I i Z S->mi.at S i=ba xs[i]?)(hl:mi.len S1=ba xs.length)(h0:I 0 Z S1)
  (hstep:∀(i:HZ) (w:W) (Z:Fm) (S:aa),xs[i]?=ba w->I i Z S->wO (eZ tg w Z S) λq=>u7 M fuel b q.1 q.2 (I (i+1)) Q) (hend:∀Z S,I xs.length Z S->K Z S):Wp (fw M fuel (.loop tg it b) Z S) (qo K Q):=by
 rw[fw,Fb];refine#[_,hi,xs.length,hl,?_];refine iV (Q:=qo K Q) I hat (λi w Z S h1 h2=>?_) (λZ S h=>hend Z S h) _ 0 Z S1 ∅ h0
 exact(bU (hstep i w Z S h1 h2)).mono λq hq=>iW b ok (wZ.out (hq _ (λ_ _ h=>h) λ_ _ h=>h))
def bo {e:E}{Q:QW}(ok:da e=true)(h:wE M e Z S Q):∃w S',az M e Z S=ba (w,S')/\Q (w,S'):=let ⟨⟨w,S'⟩,a,b⟩:=aT e ok h; #[w,S',a,b]
def dY {i0:HZ}{e:E}{b:Ss}(j:Ip)(I:HZ->Fm->aa->Prop)(oe:da e=true)(ok:fZ b=true)(hj : -(2 ^ 62)<=j/\j < 2 ^ 62)(he:wE M e Z S λp=>p.1=.int j/\I 0 Z p.2)
  (hstep:∀(i:HZ) (Z:Fm) (S:aa),(i:Ip) < j->I i Z S->u7 M fuel b (Z.set i0 (ba (.int i))) S (I (i+1)) Q) (hend:∀Z S,I j.toNat Z S->K Z S):Wp (fw M fuel (.loop (.nm i0) (.rng #v[e]) b) Z S) (qo K Q):=by
 obtain⟨w,S1,e1,rfl,h0⟩:=bo oe he;have hl:(cJ 0 j.toNat).length=j.toNat:=by simp[cJ]
 refine gG (mi:=.its (cJ 0 j.toNat)) (S1:=S1) (xs:=cJ 0 j.toNat) I ok ?_ (λ_ _ _ _=>rfl) rfl h0 (λi w Z S hw hI=>?_) λZ S hI=>hend Z S (hl ▸ hI)
 ·simp only[iR,cG,dj,g9,qX,e1];rw[IF hj]
 ·rw[dH]at hw;split at hw
  ·rename_i hk;cases hw;rw[M7];exact hstep i Z S ∅ hI
  ·cases hw
def for_tup {tg:Tg}{e:E}{b:Ss}(xs:HN W)(I:HZ->Fm->aa->Prop)(oe:da e=true)(ok:fZ b=true)(he:wE M e Z S λp=>p.1=.tup xs/\I 0 Z p.2)
  (hstep:∀(i:HZ) (w:W) (Z:Fm) (S:aa),xs[i]?=ba w->I i Z S->wO (eZ tg w Z S) λq=>u7 M fuel b q.1 q.2 (I (i+1)) Q) (hend:∀Z S,I xs.length Z S->K Z S):Wp (fw M fuel (.loop tg (.seq e) b) Z S) (qo K Q):=by
 obtain⟨w,S1,e1,rfl,h0⟩:=bo oe he;exact gG (mi:=.its xs) (S1:=S1) I ok (by simp only[iR,dX,e1]) (λ_ _ _ _=>rfl) rfl h0 hstep hend
def AC {tg:Tg}{e:E}{b:Ss}(t:HZ)(xs:HN W)(I:HZ->Fm->aa->Prop)(oe:da e=true)(ok:fZ b=true)(he:wE M e Z S λp=>p.1=.ref t/\I 0 Z p.2)(hat:∀i Z S,I i Z S->S[t]?=ba (.lst xs))
  (hstep:∀(i:HZ) (w:W) (Z:Fm) (S:aa),xs[i]?=ba w->I i Z S->wO (eZ tg w Z S) λq=>u7 M fuel b q.1 q.2 (I (i+1)) Q) (hend:∀Z S,I xs.length Z S->K Z S):Wp (fw M fuel (.loop tg (.seq e) b) Z S) (qo K Q):=by
 obtain⟨w,S1,e1,rfl,h0⟩:=bo oe he;exact gG (mi:=.live t) (S1:=S1) I ok (by simp only[iR,dX,e1,ar (hat _ _ _ h0)]) (λi Z S h=>by simp only[MI.at,ar (hat _ _ _ h)]) (by simp only[MI.len,ar (hat _ _ _ h0),Ja]) h0 hstep hend
def xJ {t:E}{b:Ss}(I:HZ->Fm->aa->Prop)(m:HZ)(ot:da t=true)(ok:fZ b=true)(hm:m < fuel)(h0:I m Z S)
  (hstep:∀m Z S,I m Z S->wT M t Z S λk=>(k.1=true->∃m',m=m'+1/\u7 M fuel b Z k.2 (I m') Q)/\(k.1=false->K Z k.2)):Wp (fw M fuel (.whl t b) Z S) (qo K Q):=by
 rw[fw];refine ki (Q:=qo K Q) I (λm Z S hI=>(ic t ot (hstep m Z S hI)).mono λk hk=>#[λz=>?_,λz=>hk.2 z]) fuel m Z S hm h0
 obtain⟨m',e,h⟩:=hk.1 z;exact#[m',e,iW b ok (wZ.out (h _ (λ_ _ h=>h) λ_ _ h=>h))]
abbrev wC (M:IH->FF):Es->Fm->aa->QB->Prop
 | .nil,_,S,Q=>Q (true,S)
 | .cons e .nil,Z,S,Q=>wT M e Z S Q
 | .cons _ (.cons _ _),_,_,_=>JR
def xK {cs:Es}{Q:QB}(ok:lO cs=true)(h:wC M cs Z S Q):Wp (At M cs Z S) Q:=by
 match cs,h,ok with
 | .nil,h,_=>exact Fc.mpr h
 | .cons e .nil,h,ok=>exact Fd.mpr (ic e (cL ok) h)
abbrev eX (M:IH->FF)(elt:E)(cs:Es)(Z:Fm)(S:aa)(G:W->Fm->aa->Prop)(N:Fm->aa->Prop):Prop:=wC M cs Z S λk=>(k.1=true->wE M elt Z k.2 λy=>G y.1 Z y.2)/\(k.1=false->N Z k.2)
def iX {elt:E}{tg:Tg}{it:Ie}{cs:Es}{cap:HN (HY HZ)}{mi:MI}{S1:aa}{xs:HN W}{Q:QW}(I:HZ->HN W->Fm->aa->Prop)(oe:da elt=true)(oc:lO cs=true)(hi:iR M it Z S=ba (mi,S1))(hat:∀i ys Z S,I i ys Z S->mi.at S i=ba xs[i]?)(hl:mi.len S1=ba xs.length)(h0:I 0 [] (eh cap Z) S1)
  (hstep:∀(i:HZ) (w:W) (ys:HN W) (Z:Fm) (S:aa),xs[i]?=ba w->I i ys Z S->wO (eZ tg w Z S) λq=>eX M elt cs q.1 q.2 (λy=>I (i+1) (ys++[y])) (I (i+1) ys))
  (hend:∀ys Z S,I xs.length ys Z S->ys.length<=sizeLine/\Q (.ref S.length,S++[.lst ys])):Wp (az M (.comp elt tg it cs cap) Z S) Q:=by
 rw[rj];refine#[_,hi,xs.length,hl,?_];refine(cv (xs:=xs) (Q:=λq=>q.1.length<=sizeLine/\Q (.ref q.2.length,q.2++[.lst q.1])) I hat (λi w ys Z S h1 h2=>?_) hend xs.length 0 [] _ S1 ∅ h0).mono λq hq=>by simpa using hq
 exact(bU (hstep i w ys Z S h1 h2)).mono λq hq=>(xK oc hq).mono λk hk=>#[λz=>aT elt oe (hk.1 z),hk.2]
def dv {elt e:E}{i0:HZ}{cs:Es}{cap:HN (HY HZ)}{Q:QW}(j:Ip)(I:HZ->HN W->Fm->aa->Prop)(oi:da e=true)(oe:da elt=true)(oc:lO cs=true)(hj : -(2 ^ 62)<=j/\j < 2 ^ 62)(he:wE M e Z S λp=>p.1=.int j/\I 0 [] (eh cap Z) p.2)
  (hstep:∀(i:HZ) (ys:HN W) (Z:Fm) (S:aa),(i:Ip) < j->I i ys Z S->eX M elt cs (Z.set i0 (ba (.int i))) S (λy=>I (i+1) (ys++[y])) (I (i+1) ys))
  (hend:∀ys Z S,I j.toNat ys Z S->ys.length<=sizeLine/\Q (.ref S.length,S++[.lst ys])):Wp (az M (.comp elt (.nm i0) (.rng #v[e]) cs cap) Z S) Q:=by
 obtain⟨w,S1,e1,rfl,h0⟩:=bo oi he;have hl:(cJ 0 j.toNat).length=j.toNat:=by simp[cJ]
 refine iX (mi:=.its (cJ 0 j.toNat)) (S1:=S1) (xs:=cJ 0 j.toNat) I oe oc ?_ (λ_ _ _ _ _=>rfl) rfl h0 (λi w ys Z S hw hI=>?_) λys Z S hI=>hend ys Z S (hl ▸ hI)
 ·simp only[iR,cG,dj,g9,qX,e1];rw[IF hj]
 ·rw[dH]at hw;split at hw
  ·rename_i hk;cases hw;rw[M7];exact hstep i ys Z S ∅ hI
  ·cases hw
def sR {elt e:E}{tg:Tg}{cs:Es}{cap:HN (HY HZ)}{Q:QW}(xs:HN W)(I:HZ->HN W->Fm->aa->Prop)(oi:da e=true)(oe:da elt=true)(oc:lO cs=true)(he:wE M e Z S λp=>p.1=.tup xs/\I 0 [] (eh cap Z) p.2)
  (hstep:∀(i:HZ) (w:W) (ys:HN W) (Z:Fm) (S:aa),xs[i]?=ba w->I i ys Z S->wO (eZ tg w Z S) λq=>eX M elt cs q.1 q.2 (λy=>I (i+1) (ys++[y])) (I (i+1) ys))
  (hend:∀ys Z S,I xs.length ys Z S->ys.length<=sizeLine/\Q (.ref S.length,S++[.lst ys])):Wp (az M (.comp elt tg (.seq e) cs cap) Z S) Q:=by
 obtain⟨w,S1,e1,rfl,h0⟩:=bo oi he;exact iX (mi:=.its xs) (S1:=S1) I oe oc (by simp only[iR,dX,e1]) (λ_ _ _ _ _=>rfl) rfl h0 hstep hend
def nw {elt e:E}{tg:Tg}{cs:Es}{cap:HN (HY HZ)}{Q:QW}(t:HZ)(xs:HN W)(I:HZ->HN W->Fm->aa->Prop)(oi:da e=true)(oe:da elt=true)(oc:lO cs=true)(he:wE M e Z S λp=>p.1=.ref t/\I 0 [] (eh cap Z) p.2)(hat:∀i ys Z S,I i ys Z S->S[t]?=ba (.lst xs))
  (hstep:∀(i:HZ) (w:W) (ys:HN W) (Z:Fm) (S:aa),xs[i]?=ba w->I i ys Z S->wO (eZ tg w Z S) λq=>eX M elt cs q.1 q.2 (λy=>I (i+1) (ys++[y])) (I (i+1) ys))
  (hend:∀ys Z S,I xs.length ys Z S->ys.length<=sizeLine/\Q (.ref S.length,S++[.lst ys])):Wp (az M (.comp elt tg (.seq e) cs cap) Z S) Q:=by
 obtain⟨w,S1,e1,rfl,h0⟩:=bo oi he;exact iX (mi:=.live t) (S1:=S1) I oe oc (by simp only[iR,dX,e1,ar (hat _ _ _ _ h0)]) (λi ys Z S h=>by simp only[MI.at,ar (hat _ _ _ _ h)]) (by simp only[MI.len,ar (hat _ _ _ _ h0),Ja]) h0 hstep hend
def AD {elt a:E}{tg:Tg}{cs:Es}{cap:HN (HY HZ)}{Q:QW}(xs:HN W)(I:HZ->HN W->Fm->aa->Prop)(oa:da a=true)(oe:da elt=true)(oc:lO cs=true)(he:wE M a Z S λp=>DQ p.1=ba xs/\I 0 [] (eh cap Z) p.2)
  (hstep:∀(i:HZ) (x:W) (ys:HN W) (Z:Fm) (S:aa),xs[i]?=ba x->I i ys Z S->wO (eZ tg (.tup [.int i,x]) Z S) λq=>eX M elt cs q.1 q.2 (λy=>I (i+1) (ys++[y])) (I (i+1) ys))
  (hend:∀ys Z S,I xs.length ys Z S->ys.length<=sizeLine/\Q (.ref S.length,S++[.lst ys])):Wp (az M (.comp elt tg (.enu #v[a]) cs cap) Z S) Q:=by
 obtain⟨x,S1,e1,h1,h0⟩:=bo oa he;have hl:(nh xs).length=xs.length:=by simp[nh]
 refine iX (mi:=.its (nh xs)) (S1:=S1) (xs:=nh xs) I oe oc (by simp only[iR,cG,dj,g9,Ar,e1,h1]) (λ_ _ _ _ _=>rfl) rfl h0 (λi w ys Z S hw hI=>?_) λys Z S hI=>hend ys Z S (hl ▸ hI)
 obtain⟨y,hy,rfl⟩:=pc hw;exact hstep i y ys Z S hy hI
def st {s:Sm}{ss:Ss}(h:wS M fuel s Z S (λZ' S'=>wZ M fuel ss Z' S' Q) Q):wZ M fuel (.cons s ss) Z S Q:=#[by
 dsimp only[AB];simp only[Fn];exact h]
def ci (h:Q (.nx Z,S)):wZ M fuel .nil Z S Q:=#[h]
def aC {t:IN}{a b:Ss}{Q Q0:QO}{K:Fm->aa->Prop}(ha:t=true->∀Q':QO,(∀Z' S',K Z' S'->Q' (.nx Z',S'))->(∀w S',Q (.rt w,S')->Q' (.rt w,S'))->wZ M fuel a Z S Q')(hb:t=false->∀Q':QO,(∀Z' S',K Z' S'->Q' (.nx Z',S'))->(∀w S',Q (.rt w,S')->Q' (.rt w,S'))->wZ M fuel b Z S Q') :
  ∀Q':QO,(∀Z' S',K Z' S'->Q' (.nx Z',S'))->(∀o S',(∀Z',o≠.nx Z')->Q (o,S')->Q' (o,S'))->(t=true->AB M fuel a Z S Q')/\(t=false->AB M fuel b Z S Q'):=
 λQ' h1 h2=>#[λe=>(ha e Q' h1 λw S'=>h2 (.rt w) S' (λ_ z=>nomatch z)).out,λe=>(hb e Q' h1 λw S'=>h2 (.rt w) S' (λ_ z=>nomatch z)).out]
end
abbrev dL:Ss:=
 #v[.ret (.lst #v[.bi .list #v[.v 0],.c (.int 0),.c (.int 0),.c (.int 1),.c (.int 0)])]
abbrev cf:Ss:=
 #v[.ite (.and (.cmp .eq (.ix (.v 0) (.c (.int 2))) (.c (.int 0))) (.cmp .lt (.ix (.v 0) (.c (.int 1))) (.bi .len #v[.ix (.v 0) (.c (.int 0))]))) #v[.set 2 (.ix (.ix (.v 0) (.c (.int 0))) (.ix (.v 0) (.c (.int 1)))),.put (.v 0) (.c (.int 1)) (.op .add (.ix (.v 0) (.c (.int 1))) (.c (.int 1))),.ite (.cmp .ge (.v 2) (.op .pow (.c (.int 10)) (.c (.int 18)))) #v[.put (.v 0) (.c (.int 2)) (.v 2)] #v[.put (.v 0) (.c (.int 3)) (.op .mod (.op .add (.op .add (.op .mul (.ix (.v 0) (.c (.int 3))) (.c (.int 40013))) (.op .mod (.v 2) (.c (.int 1000003)))) (.c (.int 1))) (.c (.int 2147483647)))]] .nil,.ite (.cmp .gt (.ix (.v 0) (.c (.int 2))) (.c (.int 0))) #v[.set 3 (.op .mod (.ix (.v 0) (.c (.int 2))) (.v 1)),.put (.v 0) (.c (.int 2)) (.op .fdiv (.ix (.v 0) (.c (.int 2))) (.v 1)),.ret (.v 3)] .nil,.put (.v 0) (.c (.int 4)) (.op .add (.ix (.v 0) (.c (.int 4))) (.c (.int 1))),.put (.v 0) (.c (.int 3)) (.op .mod (.op .add (.op .add (.op .mul (.ix (.v 0) (.c (.int 3))) (.c (.int 48271))) (.c (.int 12820163))) (.ix (.v 0) (.c (.int 4)))) (.c (.int 2147483647))),.ret (.op .mod (.op .fdiv (.op .mod (.op .mul (.op .add (.op .mod (.ix (.v 0) (.c (.int 3))) (.c (.int 65521))) (.c (.int 1))) (.op .add (.op .fdiv (.ix (.v 0) (.c (.int 3))) (.c (.int 65521))) (.c (.int 7919)))) (.c (.int 1000003))) (.c (.int 7))) (.v 1))]
abbrev cU:Ss:=
 #v[.ret (.me .join (.c (.str "")) #v[.comp (.ix (.c (.str "abcdefghijklmnopqrstuvwxyz")) (.own "_law_pick" 2 #v[.v 2,.c (.int 26)])) (.nm 1) (.rng #v[.v 1]) .nil [gV,gV,ba 0]])]
abbrev eO:Ss:=
 #v[.ite (.cmp .ne (.v 1) (.c (.str ""))) #v[.ret (.op .add (.v 1) (.own "_law_letters" 2 #v[.v 0,.op .add (.c (.int 1)) (.own "_law_pick" 2 #v[.v 0,.c (.int 2)])]))] .nil,.ite (.cmp .eq (.own "_law_pick" 2 #v[.v 0,.c (.int 6)]) (.c (.int 0))) #v[.set 2 (.lst #v[.c (.str "markss"),.c (.str "mark"),.c (.str "way"),.c (.str "wayss"),.c (.str "bars"),.c (.str "ba"),.c (.str "somex")]),.set 2 (.op .add (.v 2) (.lst #v[.c (.str "eachx"),.c (.str "note"),.c (.str "no"),.c (.str "ands"),.c (.str "ors"),.c (.str "o"),.c (.str "iss")])),.ret (.ix (.v 2) (.own "_law_pick" 2 #v[.v 0,.c (.int 14)]))] .nil,.ret (.own "_law_letters" 2 #v[.v 0,.op .add (.c (.int 1)) (.own "_law_pick" 2 #v[.v 0,.c (.int 8)])])]
abbrev cj:Ss:=
 #v[.set 2 (.c (.str "")),.ite (.cmp .eq (.own "_law_pick" 2 #v[.v 0,.c (.int 3)]) (.c (.int 0))) #v[.set 2 (.own "_law_letters" 2 #v[.v 0,.op .add (.c (.int 1)) (.own "_law_pick" 2 #v[.v 0,.c (.int 6)])])] .nil,.set 3 (.lst #v[.c (.str "marks"),.c (.str "ways"),.c (.str "bar"),.c (.str "some"),.c (.str "each"),.c (.str "not"),.c (.str "and"),.c (.str "or"),.c (.str "is")]),.loop (.nm 4) (.rng #v[.v 1]) #v[.set 5 (.own "_law_name" 2 #v[.v 0,.v 2]),.set 6 (.c (.int 0)),.whl (.cmp .isin (.v 5) (.v 3)) #v[.set 5 (.op .mul (.ix (.c (.str "abcdefghijklmnopqrstuvwxyz")) (.op .mod (.v 6) (.c (.int 26)))) (.op .add (.c (.int 1)) (.op .fdiv (.v 6) (.c (.int 26))))),.set 6 (.op .add (.v 6) (.c (.int 1)))],.ex (.me .append (.v 3) #v[.v 5])],.ret (.bi .tuple #v[.sl (.v 3) (.yes (.c (.int 9))) .no])]
abbrev cV:Ss:=
 #v[.ite (.cmp .lt (.v 3) (.v 2)) #v[.ret (.ix (.ix (.ix (.v 1) (.v 2)) (.c (.int 1))) (.v 3))] .nil,.ret (.ix (.ix (.ix (.v 0) (.c (.int 1))) (.ix (.ix (.ix (.v 1) (.v 3)) (.c (.int 1))) (.v 2))) (.c (.int 1)))]
abbrev eP:Ss:=
 #v[.set 3 (.lst .nil),.loop (.nm 4) (.rng #v[.bi .len #v[.v 2]]) #v[.set 5 (.ix (.v 2) (.v 4)),.ex (.me .append (.v 3) #v[.tup #v[.ix (.ix (.v 1) (.v 5)) (.c (.int 0)),.bi .tuple #v[.comp (.own "_law_between" 4 #v[.v 3,.v 4,.v 2,.v 1]) (.nm 1) (.seq (.sl (.v 2) .no (.yes (.v 4)))) .nil [gV,gV,ba 5,ba 0,ba 1]]]])],.ret (.bi .tuple #v[.v 3])]
abbrev fE:Ss:=
 #v[.ret (.lst #v[.tup #v[.c (.int 0),.c (.int 1),.c (.int 2)],.tup #v[.c (.int 0),.c (.int 2),.c (.int 1)],.tup #v[.c (.int 1),.c (.int 0),.c (.int 2)],.tup #v[.c (.int 1),.c (.int 2),.c (.int 0)],.tup #v[.c (.int 2),.c (.int 0),.c (.int 1)],.tup #v[.c (.int 2),.c (.int 1),.c (.int 0)]])]
abbrev dw:Ss:=
 #v[.ret (.bi .min #v[.comp (.own "_law_part" 3 #v[.v 2,.v 3,.v 1]) (.nm 1) (.seq (.own "_law_turns" 0 .nil)) .nil [gV,gV,ba 0,ba 1]])]
abbrev dZ:Ss:=
 #v[.set 2 (.ix (.lst #v[.lst #v[.tup #v[.c (.int 0)]],.lst #v[.tup #v[.c (.int 0),.c (.int 1)],.tup #v[.c (.int 1),.c (.int 0)]],.lst #v[.tup #v[.c (.int 0),.c (.int 1),.c (.int 2)],.tup #v[.c (.int 1),.c (.int 0),.c (.int 2)],.tup #v[.c (.int 0),.c (.int 2),.c (.int 1)]]]) (.op .sub (.v 1) (.c (.int 1)))),.ret (.ix (.v 2) (.own "_law_pick" 2 #v[.v 0,.bi .len #v[.v 2]]))]
abbrev cW:Ss:=
 #v[.set 4 (.own "_law_names" 2 #v[.v 0,.op .add (.v 1) (.bi .len #v[.v 2])]),.set 5 (.bi .tuple #v[.comp (.tup #v[.ix (.v 4) (.op .add (.v 3) (.v 1)),.ix (.v 2) (.v 1)]) (.nm 1) (.rng #v[.bi .len #v[.v 2]]) .nil [gV,gV,ba 2,ba 1,ba 4]]),.ret (.tup #v[.sl (.v 4) .no (.yes (.v 1)),.v 5,.bi .tuple #v[.bi .sorted #v[.v 3]]])]
abbrev bM:Ss:=
 #v[.set 3 (.lst .nil),.loop (.nm 4) (.rng #v[.c (.int 3)]) #v[.ex (.me .append (.v 3) #v[.tup #v[.own "_law_pick" 2 #v[.v 0,.v 1],.bi .tuple #v[.comp (.own "_law_pick" 2 #v[.v 2,.v 3]) (.nm 1) (.rng #v[.v 4]) .nil [gV,gV,ba 0,ba 2]]]])],.ret (.bi .tuple #v[.v 3])]
abbrev d0:Ss:=
 #v[.set 1 (.lst #v[.tup #v[.c (.int 1),.c (.int 1)],.tup #v[.c (.int 2),.c (.int 1)],.tup #v[.c (.int 3),.c (.int 1)],.tup #v[.c (.int 1),.c (.int 2)],.tup #v[.c (.int 1),.c (.int 2)],.tup #v[.c (.int 2),.c (.int 2)],.tup #v[.c (.int 2),.c (.int 2)],.tup #v[.c (.int 3),.c (.int 2)],.tup #v[.c (.int 1),.c (.int 3)],.tup #v[.c (.int 1),.c (.int 3)],.tup #v[.c (.int 2),.c (.int 3)]]),.ret (.ix (.v 1) (.own "_law_pick" 2 #v[.v 0,.c (.int 11)]))]
abbrev cw:Ss:=
 #v[.asg [1,2] (.own "_law_sizes" 1 #v[.v 0]),.set 3 (.own "_law_rule_of" 4 #v[.v 0,.v 1,.own "_law_backs" 2 #v[.v 0,.v 2],.tup .nil]),.set 4 .dnew,.loop (.nm 5) (.rng #v[.own "_law_pick" 2 #v[.v 0,.c (.int 9)]]) #v[.put (.v 4) (.own "_law_figure" 2 #v[.v 3,.own "_law_free_three" 3 #v[.v 0,.v 1,.v 2]]) (.c (.bl true))],.ret (.tup #v[.ix (.v 3) (.c (.int 0)),.ix (.v 3) (.c (.int 1)),.bi .tuple #v[.bi .sorted #v[.v 4]]])]
abbrev bC:Ss:=
 #v[.set 1 (.lst #v[.tup #v[.tup #v[.c (.int 1),.c (.int 0)],.disp #v[.tup #v[.c (.int 0),.c (.int 0)],.lst #v[.c (.int 0)]],.c (.int 3)],.tup #v[.tup #v[.c (.int 0),.c (.int 2),.c (.int 1)],.disp #v[.tup #v[.c (.int 1),.c (.int 1)],.lst #v[.c (.int 1)]],.c (.int 2)],.tup #v[.tup #v[.c (.int 0),.c (.int 1)],.disp #v[.tup #v[.c (.int 1),.c (.int 1)],.lst #v[.c (.int 1)]],.c (.int 3)]]),.ex (.me .append (.v 1) #v[.tup #v[.tup #v[.c (.int 0),.c (.int 1)],.disp #v[.tup #v[.c (.int 1),.c (.int 1)],.lst #v[.c (.int 1)],.tup #v[.c (.int 0),.c (.int 0)],.lst #v[.c (.int 1)]],.c (.int 3)]]),.ex (.me .append (.v 1) #v[.tup #v[.tup #v[.c (.int 0),.c (.int 1)],.disp #v[.tup #v[.c (.int 1),.c (.int 1)],.lst .nil],.c (.int 1)]]),.ex (.me .append (.v 1) #v[.tup #v[.tup #v[.c (.int 0),.c (.int 2),.c (.int 1)],.disp #v[.tup #v[.c (.int 0),.c (.int 0)],.lst #v[.c (.int 0)],.tup #v[.c (.int 0),.c (.int 1)],.lst #v[.c (.int 1)],.tup #v[.c (.int 1),.c (.int 0)],.lst #v[.c (.int 1)],.tup #v[.c (.int 1),.c (.int 1)],.lst #v[.c (.int 1)]],.c (.int 2)]]),.ex (.me .append (.v 1) #v[.tup #v[.tup #v[.c (.int 1),.c (.int 0)],.dnew,.c (.int 3)]]),.ex (.me .append (.v 1) #v[.tup #v[.tup #v[.c (.int 0),.c (.int 1),.c (.int 2)],.disp #v[.tup #v[.c (.int 2),.c (.int 2)],.lst #v[.c (.int 2)],.tup #v[.c (.int 1),.c (.int 2)],.lst #v[.c (.int 1)],.tup #v[.c (.int 2),.c (.int 1)],.lst #v[.c (.int 1)],.tup #v[.c (.int 1),.c (.int 1)],.lst #v[.c (.int 1),.c (.int 2)]],.c (.int 2)]]),.ex (.me .append (.v 1) #v[.tup #v[.tup #v[.c (.int 0),.c (.int 1),.c (.int 2)],.disp #v[.tup #v[.c (.int 0),.c (.int 0)],.lst #v[.c (.int 0),.c (.int 1)]],.c (.int 2)]]),.ret (.ix (.v 1) (.own "_law_pick" 2 #v[.v 0,.c (.int 9)]))]
abbrev dy:Ss:=
 #v[.set 5 (.disp #v[.tup #v[.c (.int 1),.c (.int 0)],.v 2,.tup #v[.c (.int 2),.c (.int 0)],.v 3,.tup #v[.c (.int 2),.c (.int 1)],.v 4]),.loop (.nm 6) (.seq (.bi .list #v[.v 5])) #v[.put (.v 5) (.tup #v[.ix (.v 6) (.c (.int 1)),.ix (.v 6) (.c (.int 0))]) (.ix (.v 0) (.ix (.v 5) (.v 6)))],.loop (.tp [7,8,9]) (.seq (.own "_law_turns" 0 .nil)) #v[.ite (.cmp .notin (.ix (.v 5) (.tup #v[.v 7,.v 9])) (.me .get (.v 1) #v[.tup #v[.ix (.v 5) (.tup #v[.v 7,.v 8]),.ix (.v 5) (.tup #v[.v 8,.v 9])],.lst #v[.ix (.v 5) (.tup #v[.v 7,.v 9])]])) #v[.ret (.c (.bl true))] .nil],.ret (.c (.bl false))]
abbrev aW:Ss:=
 #v[.set 3 (.bi .len #v[.v 1]),.set 4 (.lst #v[.lst #v[.tup #v[.c (.int 0)]],.lst #v[.tup #v[.c (.int 0),.c (.int 1)],.tup #v[.c (.int 1),.c (.int 0)]]]),.ex (.me .append (.v 4) #v[.lst #v[.tup #v[.c (.int 0),.c (.int 1),.c (.int 2)],.tup #v[.c (.int 0),.c (.int 2),.c (.int 1)],.tup #v[.c (.int 2),.c (.int 0),.c (.int 1)],.tup #v[.c (.int 2),.c (.int 1),.c (.int 0)]]]),.set 5 (.ix (.v 4) (.op .sub (.v 3) (.c (.int 1)))),.ite (.cmp .eq (.v 1) (.tup #v[.c (.int 0),.c (.int 1),.c (.int 2)])) #v[.set 5 (.own "_law_turns" 0 .nil)] .nil,.set 6 (.ix (.v 5) (.own "_law_pick" 2 #v[.v 0,.bi .len #v[.v 5]])),.set 7 (.op .mul (.lst #v[.c (.int 0)]) (.v 3)),.loop (.nm 8) (.rng #v[.v 3]) #v[.put (.v 7) (.ix (.v 6) (.v 8)) (.ix (.v 6) (.ix (.v 1) (.v 8)))],.set 9 .dnew,.loop (.tp [10,11]) (.seq (.v 2)) #v[.put (.v 9) (.tup #v[.ix (.v 6) (.v 10),.ix (.v 6) (.v 11)]) (.comp (.ix (.v 2) (.v 1)) (.nm 1) (.seq (.ix (.v 2) (.tup #v[.v 10,.v 11]))) .nil [gV,gV,ba 6])],.ret (.tup #v[.bi .tuple #v[.v 7],.v 9])]
abbrev bD:Ss:=
 #v[.set 1 (.own "_law_pick" 2 #v[.v 0,.c (.int 7)]),.ite (.cmp .eq (.v 1) (.c (.int 0))) #v[.ret (.own "_law_free_rule" 1 #v[.v 0])] .nil,.ite (.cmp .eq (.v 1) (.c (.int 1))) #v[.ret (.own "_law_one_way_rule" 1 #v[.v 0])] .nil,.asg [2,3,4] (.own "_law_laying_kind" 1 #v[.v 0]),.set 5 (.op .add (.c (.int 1)) (.own "_law_pick" 2 #v[.v 0,.v 4])),.asg [2,3] (.own "_law_numbered" 3 #v[.v 0,.v 2,.v 3]),.set 6 (.own "_law_rule_of" 4 #v[.v 0,.v 5,.v 2,.tup .nil]),.set 7 .dnew,.set 8 (.bi .len #v[.v 2]),.loop (.nm 9) (.rng #v[.op .mul (.op .mul (.v 8) (.v 8)) (.v 8)]) #v[.par 10 11 #v[.op .mod (.v 9) (.v 8),.op .mod (.op .fdiv (.v 9) (.v 8)) (.v 8)],.set 12 (.op .fdiv (.op .fdiv (.v 9) (.v 8)) (.v 8)),.ite (.own "_law_breaks" 5 #v[.v 2,.v 3,.v 10,.v 11,.v 12]) #v[.loop (.nm 13) (.seq (.own "_law_rising" 1 #v[.v 5])) #v[.set 14 (.tup #v[.tup #v[.ix (.v 13) (.c (.int 0)),.tup .nil],.tup #v[.ix (.v 13) (.c (.int 1)),.tup #v[.v 10]]]),.put (.v 7) (.own "_law_figure" 2 #v[.v 6,.op .add (.v 14) (.tup #v[.tup #v[.ix (.v 13) (.c (.int 2)),.tup #v[.v 11,.v 12]]])]) (.c (.bl true))]] .nil],.ret (.tup #v[.ix (.v 6) (.c (.int 0)),.ix (.v 6) (.c (.int 1)),.bi .tuple #v[.bi .sorted #v[.v 7]]])]
abbrev dz:Ss:=
 #v[.set 1 (.lst .nil),.loop (.nm 2) (.rng #v[.v 0]) #v[.loop (.nm 3) (.rng2 #v[.v 2,.v 0]) #v[.set 1 (.op .add (.v 1) (.comp (.tup #v[.v 2,.v 3,.v 1]) (.nm 1) (.rng2 #v[.v 3,.v 0]) .nil [gV,gV,ba 2,ba 3]))]],.ret (.v 1)]
abbrev b6:Ss:=
 #v[.asg [1,2] (.own "_law_sizes" 1 #v[.v 0]),.set 3 (.own "_law_rule_of" 4 #v[.v 0,.v 1,.own "_law_backs" 2 #v[.v 0,.v 2],.tup .nil]),.set 5 (.comp (.v 1) (.nm 1) (.rng #v[.v 2]) #v[.cmp .eq (.ix (.ix (.ix (.v 2) (.c (.int 1))) (.v 1)) (.c (.int 1))) (.v 1)] [gV,gV,ba 3]),.ite (.or (.cmp .eq (.v 5) (.lst .nil)) (.cmp .eq (.v 2) (.c (.int 1)))) #v[.ret (.v 3)] .nil,.set 6 (.ix (.v 5) (.own "_law_pick" 2 #v[.v 0,.bi .len #v[.v 5]])),.set 7 .dnew,.loop (.nm 4) (.rng #v[.own "_law_pick" 2 #v[.v 0,.c (.int 9)]]) #v[.set 8 (.own "_law_free_three" 3 #v[.v 0,.v 1,.v 2]),.ite (.and (.cmp .ne (.ix (.ix (.ix (.v 8) (.c (.int 1))) (.c (.int 1))) (.c (.int 0))) (.v 6)) (.cmp .notin (.v 6) (.ix (.ix (.v 8) (.c (.int 2))) (.c (.int 1))))) #v[.put (.v 7) (.own "_law_figure" 2 #v[.v 3,.v 8]) (.c (.bl true))] .nil],.ret (.tup #v[.ix (.v 3) (.c (.int 0)),.ix (.v 3) (.c (.int 1)),.bi .tuple #v[.bi .sorted #v[.v 7]]])]
abbrev bu:Ss:=
 #v[.set 1 (.op .add (.c (.int 1)) (.own "_law_pick" 2 #v[.v 0,.c (.int 3)])),.set 2 (.comp (.tup #v[.tup #v[.v 1,.tup .nil],.tup #v[.v 1,.tup #v[.c (.int 0)]],.tup #v[.v 1,.tup #v[.c (.int 0),.c (.int 0)]]]) (.nm 1) (.rng #v[.v 1]) #v[.cmp .eq (.own "_law_pick" 2 #v[.v 2,.c (.int 2)]) (.c (.int 0))] [gV,gV,ba 0]),.ret (.own "_law_rule_of" 4 #v[.v 0,.v 1,.tup #v[.c (.int 0)],.v 2])]
abbrev bx:Ss:=
 #v[.set 3 (.lst .nil),.loop (.nm 4) (.rng #v[.v 2]) #v[.set 5 (.own "_law_pick" 2 #v[.v 0,.bi .len #v[.ix (.v 1) (.c (.int 0))]]),.ex (.me .append (.v 3) #v[.tup #v[.v 5,.bi .tuple #v[.comp (.own "_law_pick" 2 #v[.v 2,.bi .len #v[.ix (.v 3) (.c (.int 1))]]) (.nm 1) (.rng #v[.v 4]) .nil [gV,gV,ba 0,ba 1]]]])],.ret (.bi .tuple #v[.v 3])]
abbrev bF:Ss:=
 #v[.ite (.cmp .is (.v 1) (.c .non)) #v[.ret (.cmp .is (.v 0) (.c .non))] .nil,.ite (.or (.isi "bool" (.v 1)) (.isi "bool" (.v 0))) #v[.ret (.and (.isi "bool" (.v 1)) (.and (.isi "bool" (.v 0)) (.cmp .eq (.v 0) (.v 1))))] .nil,.ite (.isi "int" (.v 1)) #v[.ret (.and (.isi "int" (.v 0)) (.cmp .eq (.v 0) (.v 1)))] .nil,.ite (.isi "str" (.v 1)) #v[.ret (.and (.isi "str" (.v 0)) (.cmp .eq (.v 0) (.v 1)))] .nil,.ite (.or (.cmp .ne (.isi "tuple" (.v 1)) (.isi "tuple" (.v 0))) (.cmp .ne (.isi "list" (.v 1)) (.isi "list" (.v 0)))) #v[.ret (.c (.bl false))] .nil,.ret (.and (.cmp .eq (.bi .len #v[.v 0]) (.bi .len #v[.v 1])) (.bi .all #v[.comp (.own "_law_alike" 2 #v[.ix (.v 3) (.v 1),.ix (.v 2) (.v 1)]) (.nm 1) (.rng #v[.bi .len #v[.v 1]]) .nil [gV,gV,ba 1,ba 0]]))]
abbrev Is (defs:HN (IH×Df))(f:IH)(np nn:HZ)(b:Ss):Prop:=∃df:Df,defs.lookup f=ba df/\df.ps.length=np/\df.N.length=nn/\df.body=b
def ay {defs:HN (IH×Df)}{fuel d:HZ}{f:IH}{np nn:HZ}{b:Ss}{ws:HN W}{S:aa}{Q:QW}(h:Is defs f np nn b)(hl:ws.length=np)(ok:fZ b=true)
  (hb:∀Q':QO,(∀w S',Q (w,S')->Q' (.rt w,S'))->wZ (am defs fuel d) fuel b (ws.map ba++Jj (nn - np) gV) S Q'):wO (aV (am defs fuel (d+1)) f np ws S) Q:=by
 obtain⟨df,h1,h2,h3,h4⟩:=h;subst h4;refine Di h1 hl (hl.trans h2.symm) ok λQ' hR=>?_
 have:=hb Q' hR;unfold eN;rw[h3,hl];exact this
structure Gen (defs:HN (IH×Df)):Prop where
 pick:Is defs ("_law_pick" : IH) 2 4 cf
 letters:Is defs ("_law_letters" : IH) 2 2 cU
 name:Is defs ("_law_name" : IH) 2 3 eO
 names:Is defs ("_law_names" : IH) 2 7 cj
 between:Is defs ("_law_between" : IH) 4 4 cV
 part:Is defs ("_law_part" : IH) 3 6 eP
 turns:Is defs ("_law_turns" : IH) 0 0 fE
 figure:Is defs ("_law_figure" : IH) 2 2 dw
 backs:Is defs ("_law_backs" : IH) 2 3 dZ
 rule_of:Is defs ("_law_rule_of" : IH) 4 6 cW
 free_three:Is defs ("_law_free_three" : IH) 3 5 bM
 sizes:Is defs ("_law_sizes" : IH) 1 2 d0
 any_rule:Is defs ("_law_any_rule" : IH) 1 6 cw
 laying_kind:Is defs ("_law_laying_kind" : IH) 1 2 bC
 breaks:Is defs ("_law_breaks" : IH) 5 10 dy
 numbered:Is defs ("_law_numbered" : IH) 3 12 aW
 laying_rule:Is defs ("_law_laying_rule" : IH) 1 15 bD
 rising:Is defs ("_law_rising" : IH) 1 4 dz
 free_rule:Is defs ("_law_free_rule" : IH) 1 9 b6
 one_way_rule:Is defs ("_law_one_way_rule" : IH) 1 3 bu
structure FlA (S:aa)(r q:HZ)(ns:HN Ip)(i c x n:Ip):Prop where
 at_r:S[r]?=ba (.lst [.ref q,.int i,.int c,.int x,.int n])
 at_q:S[q]?=ba (.lst (ns.map W.int))
 lt:q < r
 i0:0<=i
 c0:0<=c
 x0:0<=x
 x1:x < 2147483647
def FlA.ne {S:aa}{r q:HZ}{ns:HN Ip}{i c x n:Ip}(h:FlA S r q ns i c x n):q≠r:=IA h.lt
abbrev Fl (S:aa)(r:HZ):Prop:=∃(q:HZ) (ns:HN Ip) (i c x n:Ip),FlA S r q ns i c x n
def FlA.put {S:aa}{r q:HZ}{ns:HN Ip}{i c x n i' c' x' n':Ip}(h:FlA S r q ns i c x n)(h1:0<=i')(h2:0<=c')(h3:0<=x')(h4:x' < 2147483647):FlA (S.set r (.lst [.ref q,.int i',.int c',.int x',.int n'])) r q ns i' c' x' n':=
 #[br h.at_r,by rw[bw (Ne.symm h.ne)]; exact h.at_q,h.lt,h1,h2,h3,h4]
def Fl.keep {S S':aa}{r:HZ}(h:Fl S r)(h1:S'[r]?=S[r]?)(k:Kp r S S'):Fl S' r:=
 let ⟨q,ns,i,c,x,n,f⟩:=h; #[q,ns,i,c,x,n,by rw[h1]; exact f.at_r,k.get _ _ f.ne f.at_q,f.lt,f.i0,f.c0,f.x0,f.x1]
def Fl.lt {S:aa}{r:HZ}(h:Fl S r):r < S.length:=let ⟨_,_,_,_,_,_,f⟩:=h; dk f.at_r
structure Ka (S S':aa):Prop where
 get:∀(j:HZ) (o:O),S[j]?=ba o->S'[j]?=ba o
 len:S.length<=S'.length
def Ka.refl {S:aa}:Ka S S:=#[λ_ _ h=>h,Ih _]
def Ka.trans {S S' S'':aa}(a:Ka S S')(b:Ka S' S''):Ka S S'':=#[λj o h=>b.get j o (a.get j o h),IL a.len b.len]
def Ka.push {S:aa}{o:O}:Ka S (S++[o]):=#[λj u h=>al h,by simp]
def Ka.late {t:HZ}{S0 S:aa}{o:O}(a:Ka S0 S)(h:S0.length<=t):Ka S0 (S.set t o):=
 #[λj u e=>by have:=dk e; rw[bw ∅]; exact a.get j u e,by simpa using a.len]
def Ka.kp {S S':aa}(a:Ka S S')(r:HZ):Kp r S S':=#[λj o _ h=>a.get j o h,a.len]
def Fl.ka {S S':aa}{r:HZ}(h:Fl S r)(k:Ka S S'):Fl S' r:=h.keep (by obtain⟨q,ns,i,c,x,n,f⟩:=h; rw[k.get _ _ f.at_r,f.at_r]) (k.kp r)
def Fl.own {S:aa}{r t:HZ}{o:O}(h:Fl S r)(ht:r < t):Fl (S.set t o) r:=by
 obtain⟨q,ns,i,c,x,n,f⟩:=h;have:=f.lt;exact#[q,ns,i,c,x,n,by rw[bw ∅]; exact f.at_r,by rw[bw ∅]; exact f.at_q,f.lt,f.i0,f.c0,f.x0,f.x1]
def dP {S:aa}{r:HZ}{xs:HN W}{i:HZ}{w:W}{Q:QW}(h:S[r]?=ba (.lst xs))(hw:xs[i]?=ba w)(q:Q (w,S)):wO (lu (.ref r) (.int (i:Ip)) S) Q:=ac (xG h (IT i) (by rw[IB]; exact hw)) q
def lP {S:aa}{r:HZ}{xs:HN W}{i:HZ}{w:W}{Q:aa->Prop}(h:S[r]?=ba (.lst xs))(hi:Sr (i+1) xs.length=true)(q:Q (S.set r (.lst (xs.set i w)))):wO (gW (.ref r) (.int (i:Ip)) w S) Q:=ac (By h (IT i) (by rw[IB]; exact ME hi)) (by rw[IB]; exact q)
section
variable{defs:HN (IH×Df)}{fuel d:HZ}{S:aa}{r:HZ}{Q:QW}
def aI (hd:Is defs ("_law_pick" : IH) 2 4 cf){m:Ip}(hf:Fl S r)(h0:0 < m)(h1:m < 1073741824)(k:∀v S',0<=v->v < m->Fl S' r->Kp r S S'->Q (.int v,S')) :
  wO (aV (am defs fuel (d+1)) "_law_pick" 2 [.ref r,.int m] S) Q:=by
 obtain⟨q,ns,i,c,x,n,f⟩:=hf;refine ay hd rfl rfl λQ' hR=>?_
 replace k:∀v S',0<=v->v < m->Fl S' r->Kp r S S'->Q' (.rt (.int v),S'):=λv S' a b c e=>hR _ _ (k v S' a b c e)
 clear hR;show wZ _ _ cf [ba (.ref r),ba (.int m),gV,gV] S Q';have bj:∀(S1:aa) (w2:HY W) (i1 c1 x1 n1:Ip),FlA S1 r q ns i1 c1 x1 n1->Kp r S S1->wZ (am defs fuel d) fuel (match cf with|.cons _ ss=>ss|.nil=>.nil) [ba (.ref r),ba (.int m),w2,gV] S1 Q':=by
  intro S1 w2 i1 c1 x1 n1 f1 k1;dsimp only[cf];refine st ?_;dsimp only[wS,wT,wE,wV,wG];refine dP (i:=2) f1.at_r rfl ?_;dsimp only[xF,wO,wB];refine aC (Q0:=Q') (λhg Q2 hn hr=>?_) (λhg Q2 hn hr=>?_)
  ·clear hn;refine st ?_;dsimp only[wS,wE,wV,wG];refine dP (i:=2) f1.at_r rfl (ac (hX h0) ?_);refine st ?_;dsimp only[wS,wE,wV,wG,Iq];refine dP (i:=2) f1.at_r rfl (ac (gE h0 h1) (lP (i:=2) f1.at_r rfl ?_));refine st ?_;dsimp only[wS,wE,wV,wG,Iq];exact hr _ _ (k _ _ (Lc _ ∅) (K4 _ h0) #[q,ns,i1,c1 / m,x1,n1,f1.put f1.i0 (M1 f1.c0 ∅) f1.x0 f1.x1] (k1.trans .set))
  ·refine ci (hn _ _ ?_);clear hn hr;have f2:FlA (S1.set r (.lst [.ref q,.int i1,.int c1,.int x1,.int (n1+1)])) r q ns i1 c1 x1 (n1+1):=f1.put f1.i0 f1.c0 f1.x0 f1.x1;refine st ?_;dsimp only[wS,wE,wV,wG];refine dP (i:=4) f1.at_r rfl ?_;dsimp only[cg,wO];refine lP (i:=4) f1.at_r rfl ?_;refine st ?_;dsimp only[wS,wE,wV,wG,Iq];refine dP (i:=3) f2.at_r rfl (ac (po #v[] #v[]) ?_)
   dsimp only[cg,wO];refine dP (i:=4) f2.at_r rfl ?_;dsimp only[cg,wO];refine(lP (i:=3) f2.at_r rfl ?_);have f3:FlA ((S1.set r (.lst [.ref q,.int i1,.int c1,.int x1,.int (n1+1)])).set r (.lst [.ref q,.int i1,.int c1,.int ((x1*48271+12820163+(n1+1)) % 2147483647),.int (n1+1)])) r q ns i1 c1 ((x1*48271+12820163+(n1+1)) % 2147483647) (n1+1):=f2.put f1.i0 f1.c0 (Lc _ #v[]) (K4 _ #v[])
   dsimp only[Iq];generalize(x1*48271+12820163+(n1+1)) % 2147483647=y at f3 ⊢;have b1:y / 65521+7919 < 2 ^ 64:=by
    have:=f3.x1;have:=Int.ediv_le_self 65521 f3.x0;omega
   have b2 : -(2 ^ 64) < y / 65521+7919:=by
    have:=M1 f3.x0 (show(0:Ip)<=65521 by decide)
    omega
   refine st ?_;dsimp only[wS,wE,wV,wG,Iq];refine dP (i:=3) f3.at_r rfl (ac (hX #v[]) ?_)
   dsimp only[cg,wO];refine dP (i:=3) f3.at_r rfl ?_;dsimp only[cg,wO];refine ac (po b2 b1) ?_;refine ac (hX h0) ?_;exact k _ _ (Lc _ ∅) (K4 _ h0) #[q,ns,_,_,_,_,f3] (k1.trans (Kp.set.trans .set))
 dsimp only[cf]at bj ⊢;refine st ?_;dsimp only[wS,wT,wE,wV,wG,wA];refine dP (i:=2) f.at_r rfl ?_;dsimp only[fD,wO,wB];have skip:∀Q2:QO,(∀Z' S',wZ (am defs fuel d) fuel _ Z' S' Q'->Q2 (.nx Z',S'))->Q2 (.nx [ba (.ref r),ba (.int m),gV,gV],S):=λQ2 hn=>hn _ _ (bj S gV i c x n f .refl)
 refine#[λ_=>?_,λ_ Q2 hn hr=>#[λz=>(by cases z),λ_=>(ci (skip Q2 hn)).out]]
 refine dP (i:=1) f.at_r rfl (dP (i:=0) f.at_r rfl (ac (Bz f.at_q) ?_));dsimp only[xE,wO,wB];refine aC (Q0:=Q') (λhl Q2 hn _=>?_) (λhg Q2 hn hr=>ci (skip Q2 hn))
 clear skip;have hl':i.toNat < ns.length:=by
  have:=Je hl;rw[HQ]at this;have:=f.i0;omega
 have hcell:(ns.map W.int)[i.toNat]?=ba (.int ns[i.toNat]):=by simp[hl']
 generalize ns[i.toNat]=cell at hcell;have f1:FlA (S.set r (.lst [.ref q,.int (i+1),.int c,.int x,.int n])) r q ns (i+1) c x n:=f.put (by have:=f.i0; omega) f.c0 f.x0 f.x1
 refine st ?_;dsimp only[wS,wE,wV,wG];refine dP (i:=0) f.at_r rfl (dP (i:=1) f.at_r rfl (ac (xG f.at_q f.i0 hcell) ?_));refine st ?_;dsimp only[wS,wE,wV,wG,Iq];refine dP (i:=1) f.at_r rfl ?_;dsimp only[cg,wO];refine lP (i:=1) f.at_r rfl ?_;refine st ?_;dsimp only[wS,wT,wE,wV,wG,Dg,GZ,wO,wB];refine aC (Q0:=Q') (λhg Q3 hn3 _=>?_) (λhg Q3 hn3 _=>?_)
 ·refine st ?_;dsimp only[wS,wE,wV,wG];refine lP (i:=2) f1.at_r rfl (ci (hn3 _ _ (ci (hn _ _ ?_))));exact bj _ _ (i+1) cell x n (f1.put f1.i0 (by have:=Je hg; omega) f.x0 f.x1) (Kp.set.trans .set)
 ·refine st ?_;dsimp only[wS,wE,wV,wG];refine dP (i:=3) f1.at_r rfl (ac (po #v[] #v[]) (ac (hX #v[]) ?_))
  dsimp only[cg,wO];refine lP (i:=3) f1.at_r rfl (ci (hn3 _ _ (ci (hn _ _ ?_))));exact bj _ _ (i+1) c _ n (f1.put f1.i0 f.c0 (Lc _ #v[]) (K4 _ #v[])) (Kp.set.trans .set)
end
abbrev dr:HZ->Ss->Ss
 | 0,ss=>ss
 | n+1,.cons _ ss=>dr n ss
 | _,.nil=>.nil
def aD {α:Type}{a:α}{Q:α->Prop}:wO (ba a) Q=Q a:=rfl
def aH {M:IH->FF}{fuel:HZ}{Z:Fm}{S:aa}{Q:QO}{s:Sm}{ss:Ss}(h:∀K:Fm->aa->Prop,(∀Z' S',wZ M fuel ss Z' S' Q->K Z' S')->wS M fuel s Z S K Q):wZ M fuel (.cons s ss) Z S Q:=st (h _ λ_ _ h=>h)
def Fo {M:IH->FF}{fuel:HZ}{Z:Fm}{S:aa}{i:HZ}{e:E}{K:Fm->aa->Prop}{Q:QO}(h:wE M e Z S λp=>K (Z.set i (ba p.1)) p.2):wS M fuel (.set i e) Z S K Q:=h
def ie {n:HZ}(h:Sr n 1000=true):n<=sizeLine:=IL (ME h) (by rw[Jq]; decide)
def iE {n:HZ}(h:n<=1000):n<=sizeLine:=IL h (by rw[Jq]; decide)
def ig {S:aa}{r:HZ}{xs:HN W}{i:Ip}{w:W}{Q:QW}(h:S[r]?=ba (.lst xs))(h0:0<=i)(hw:xs[i.toNat]?=ba w)(q:Q (w,S)):wO (lu (.ref r) (.int i) S) Q:=ac (xG h h0 hw) q
def ak {S:aa}{xs:HN W}{i:Ip}{w:W}{Q:QW}(h0:0<=i)(hw:xs[i.toNat]?=ba w)(q:Q (w,S)):wO (lu (.tup xs) (.int i) S) Q:=ac (Ff h0 hw) q
def lQ {S:aa}{r:HZ}{xs:HN W}{y:W}{Q:QW}(h:S[r]?=ba (.lst xs))(hl:xs.length < 1000)(q:Q (.non,S.set r (.lst (xs++[y])))):wO (Me.append.fn (.ref r) [y] S) Q:=ac (sP h (IQ hl (ie rfl))) q
def fF {S:aa}{r:HZ}{xs:HN W}{Q:QW}(h:S[r]?=ba (.lst xs))(q:Q (.int xs.length,S)):wO (Bi.len.fn [.ref r] S) Q:=ac (Bz h) q
def aU {S:aa}{xs:HN W}{Q:QW}(q:Q (.int xs.length,S)):wO (Bi.len.fn [.tup xs] S) Q:=q
def cx {S:aa}{r:HZ}{xs:HN W}{Q:QW}(h:S[r]?=ba (.lst xs))(q:Q (.tup xs,S)):wO (Bi.tuple.fn [.ref r] S) Q:=ac (Fg h) q
section
variable{M:IH->FF}{fuel:HZ}{Z:Fm}{S S1:aa}{K:Fm->aa->Prop}
def cM {t:E}{a:Ss}{Q:QO}(ht:∀Q:QB,Q (false,S1)->wT M t Z S Q)(h:K Z S1):wS M fuel (.ite t a .nil) Z S K Q:=by
 dsimp only[wS];exact ht _ λQ' h1 h2=>#[λz=>(by cases z),λ_=>(ci (h1 _ _ h)).out]
def kj {t:E}{a b:Ss}{Q:QO}(ht:∀Q:QB,Q (true,S1)->wT M t Z S Q)(h:∀Q':QO,(∀Z' S',K Z' S'->Q' (.nx Z',S'))->(∀w S',Q (.rt w,S')->Q' (.rt w,S'))->wZ M fuel a Z S1 Q'):wS M fuel (.ite t a b) Z S K Q:=by
 dsimp only[wS];exact ht _ λQ' h1 h2=>#[λ_=>(h Q' h1 λw S' q=>h2 (.rt w) S' (λ_ z=>nomatch z) q).out,λz=>(by cases z)]
end
def xL:∀k:Fin 26,("abcdefghijklmnopqrstuvwxyz" : IH).cps.toList[k.val]?=ba (97+k.val):=by decide
def sS:("abcdefghijklmnopqrstuvwxyz" : IH).length<=sizeLine:=by decide
def km:∀cs:HN HZ,iK (cs.map λc=>W.str #[[c].toArray])=ba (cs.map λc=>(#[[c].toArray] : IH))
 | []=>rfl
 | c::cs=>by simp[iK,km cs]
def lR:∀cs:HN HZ,((cs.map λc=>(#[[c].toArray] : IH)).map (·.length)).sum=cs.length
 | []=>rfl
 | c::cs=>by
  have:=lR cs;simp only[JC,List.sum_cons,Ju];rw[this];show 1+cs.length=_;omega
def eQ (a b:IH):(a++b).cps.toList=a.cps.toList++b.cps.toList:=M3
def kn:∀cs:HN HZ,(Sh "" (cs.map λc=>(#[[c].toArray] : IH))).cps.toList=cs
 | []=>rfl
 | [c]=>rfl
 | c::d::cs=>by
  have ih:=kn (d::cs);show(((#[[c].toArray] : IH)++("" : IH)++Sh "" ((d::cs).map λc=>(#[[c].toArray] : IH))).cps).toList=_
  rw[eQ,eQ,ih];rfl
def pr (cs:HN HZ):(Rt "" (cs.map λc=>(#[[c].toArray] : IH))).cps.toList=cs:=by
 show(RT "" _).cps.toList=_;rw[StrLaws.glued_eq_join];exact kn cs
abbrev sT (y:IH):Prop:=∀c∈y.cps.toList,97<=c/\c<=122
abbrev Name (y:IH):Prop:=1<=y.cps.toList.length/\y.cps.toList.length<=8/\sT y
def sU (y:IH):y.length=y.cps.toList.length:=by simp[RJ]
abbrev xM:HN IH:=["markss","mark","way","wayss","bars","ba","somex","eachx","note","no","ands","ors","o","iss"]
def uM:∀y∈xM,Name y:=by
 have h:xM.all (λy=>decide (1<=y.cps.toList.length/\y.cps.toList.length<=8)&&y.cps.toList.all λc=>decide (97<=c/\c<=122))=true:=by decide
 intro y hy;have:=IG.mp h y hy;rw[HX]at this;obtain⟨a,b⟩:=this;exact#[(Je a).1,(Je a).2,λc hc=>Je (IG.mp b c hc)]
def ko {α:Type}{f:α->W}{xs:HN α}{i:HZ}(h:i < xs.length):∃x∈xs,(xs.map f)[i]?=ba (f x):=#[xs[i],Jh _,by rw[Ii,Ig h]; rfl]
section
variable{defs:HN (IH×Df)}{fuel d:HZ}{S:aa}{r:HZ}{Q:QW}
def iY (G:Gen defs){m:Ip}(hf:Fl S r)(h0:0<=m)(h1:m<=1000)(k:∀y S',y.cps.toList.length=m.toNat->sT y->Fl S' r->Kp r S S'->Q (.str y,S')) :
  wO (aV (am defs fuel (d+2)) "_law_letters" 2 [.ref r,.int m] S) Q:=by
 refine ay G.letters rfl rfl λQ' hR=>?_
 show wZ _ _ cU [ba (.ref r),ba (.int m)] S Q';dsimp only[cU];refine st ?_;dsimp only[wS,wE,wA];refine#[rfl,dv m (λi ys Z S'=>(∃a,Z=[gV,a,ba (.ref r)])/\Fl S' r/\Kp r S S'/\∃cs:HN HZ,ys=cs.map (λc=>W.str #[[c].toArray])/\cs.length=i/\∀c∈cs,97<=c/\c<=122) rfl rfl rfl #[∅,∅] #[rfl,#[gV,rfl],hf,.refl,[],rfl,rfl,λ_ h=>nomatch h] ?_ ?_]
 ·rintro i ys Z S1 hi ⟨⟨a,rfl⟩,f1,k1,cs,rfl,hl,hc⟩;dsimp only[eX,wC,wE,wA,wV,wG,Iq];refine#[λ_=>aI (d:=d) G.pick f1 #v[] #v[] λv S2 h2 h3 f2 k2=>?_,λz=>by cases z]
  have ha:=xL #[v.toNat,∅]
  refine ac (Bx sS h2 ha) #[#[_,rfl],f2,k1.trans k2,cs++[97+v.toNat],by simp,by simp[hl],λc hx=>?_]
  rcases IY.mp hx with h|h
  ·exact hc c h
  ·rw[Ik.mp h]; omega
 ·rintro ys Z S1 ⟨_,f1,k1,cs,rfl,hl,hc⟩;refine#[by rw[HQ,hl,Jq]; omega,?_]
  have hz:((cs.map λc=>(#[[c].toArray] : IH)).map (·.length)).sum+(cs.map λc=>(#[[c].toArray] : IH)).length*("" : IH).length<=16777216:=by
   rw[lR,show("" : IH).length=0 from rfl,N1]
   omega
  refine ac (a:=(.str (Rt "" (cs.map λc=>(#[[c].toArray] : IH))),S1++[.lst (cs.map λc=>W.str #[[c].toArray])])) ?_ (hR _ _ (k _ _ (by rw[pr,hl]) (λc h=>hc c (by rw[pr]at h; exact h)) (f1.ka .push) (k1.trans .push)))
  simp only[Me.fn,rZ,dR,ar af,km];rw[IF hz]
def Dj (G:Gen defs){y:IH}(hf:Fl S r)(h0:y.cps.toList.length<=6)(h1:sT y)(k:∀z S',Name z->Fl S' r->Kp r S S'->Q (.str z,S')) :
  wO (aV (am defs fuel (d+3)) "_law_name" 2 [.ref r,.str y] S) Q:=by
 refine ay G.name rfl rfl λQ' hR=>?_
 replace k:∀z S',Name z->Fl S' r->Kp r S S'->Q' (.rt (.str z),S'):=λz S' a b c=>hR _ _ (k z S' a b c)
 clear hR;show wZ _ _ eO [ba (.ref r),ba (.str y),gV] S Q';dsimp only[eO];nofun
 dsimp only[wS,wT,wE,wV,wG,Fe,wO,wB];refine aC (Q0:=Q') (λ_ Q2 _ hr=>?_) (λ_ Q2 hn _=>?_)
 ·refine st ?_;left;refine aI (d:=d+1) G.pick hf #v[] #v[] λv S1 v0 v1 f1 k1=>?_
  dsimp only[cg,wO];refine iY (d:=d) G f1 ∅ ∅ λz S2 hz hs f2 k2=>?_
  have hl:(y++z).cps.toList.length=y.cps.toList.length+z.cps.toList.length:=by rw[eQ,Io]
  refine ac (Dh (by rw[sU,sU,Jq]; omega)) (hr _ _ (k _ _ #[∅,∅,λc hc=>?_] f2 (k1.trans k2)))
  rw[eQ]at hc;exact(IY.mp hc).elim (h1 c) (hs c)
 ·refine ci (hn _ _ (hK _ _ ?_));clear hn hK;nofun
  dsimp only[wS,wT,wE,wA,wV,wG];refine aI (d:=d+1) G.pick hf #v[] #v[] λv S1 v0 v1 f1 k1=>?_
  dsimp only[fD,wO,wB];refine aC (Q0:=Q') (λ_ Q2 _ hr=>?_) (λ_ Q2 hn _=>?_)
  ·refine st ?_;left;refine st ?_;left;refine ac (xD (i:=S1.length) (j:=(S1++[_]).length) (al af) af (ie rfl)) ?_;dsimp only;refine st ?_;left;refine aI (d:=d+1) G.pick (((f1.ka .push).ka .push).ka .push) #v[] #v[] λv S2 v0 v1 f2 k2=>?_
   have e:=k2.get _ _ (by have:=f1.lt; simp only[Io]; omega) af
   obtain⟨z,hz,ez⟩:=ko (f:=W.str) (xs:=xM) (i:=v.toNat) (by show v.toNat < 14; omega)
   exact ig e v0 ez (hr _ _ (k _ _ (uM z hz) f2 (k1.trans (Kp.push.trans (Kp.push.trans (Kp.push.trans k2))))))
  ·refine ci (hn _ _ (hK _ _ ?_));clear hn hK;refine st ?_;left;refine aI (d:=d+1) G.pick f1 #v[] #v[] λv S2 v0 v1 f2 k2=>?_
   dsimp only[cg,wO];exact iY (d:=d) G f2 ∅ ∅ λz S3 hz hs f3 k3=>k _ _ #[∅,∅,hs] f3 (k1.trans (k2.trans k3))
end
def iZ {α:Type}[LM α]:∀(l m:HN α),l.Nodup->(∀x∈l,x∈m)->l.length<=m.length
 | [],_,_,_=>JS _
 | x::l,m,hn,hs=>by
  rw[La]at hn;have hx:x∈m:=hs x (.head _);have h1:=iZ l (m.erase x) hn.2 λy hy=>(List.mem_erase_of_ne (λ(e:y=x)=>hn.1 (by rw[<- e]; exact hy))).mpr (hs y (.tail _ hy))
  rw[List.length_erase_of_mem hx]at h1;have:=List.length_pos_of_mem hx;rw[Ju]; omega
abbrev kR (k:HZ):IH:=#[[97+k].toArray]
def xN {a b:HZ}(h:kR a=kR b):a=b:=by
 unfold kR at h;injection h with h
 injection h with h
 injection h with h
 omega
def pA (s:HZ):((ID s).map kR).Nodup:=by
 unfold RO;rw[KQ];exact List.nodup_range.imp λh e=>h (xN e)
def uN {k:HZ}(h:k < 26):Name (kR k):=#[Ih 1,(by decide:1<=8),λc hc=>by
 cases Ik.mp (show c∈[97+k]from hc)
 omega]
abbrev gH:HN IH:=["marks","ways","bar","some","each","not","and","or","is"]
def xO (zs:HN IH):(zs.map W.str).all bz=true:=by
 rw[IG];intro x hx;obtain⟨z,_,rfl⟩:=Iy.mp hx;rfl
def AE (zs:HN IH)(y:IH):((zs.map W.str).any λz=>yK z (.str y))=decide (y∈zs):=by
 induction zs with
 | nil=>rfl
 | cons z zs ih=>
  rw[JC,KT,ih];show((z==y)||_)=_
  by_cases h:z=y
  ·subst h; simp
  ·have:(z==y)=false:=by simpa using h
   rw[this,NK];have h2:(y∈z::zs)=(y∈zs):=by simp[Ne.symm h]
   simp only[h2]
def uO {S:aa}{t:HZ}{zs:HN IH}{y:IH}(h:S[t]?=ba (.lst (zs.map W.str))):cr .isin (.str y) (.ref t) S=ba (.bl (decide (y∈zs)),S):=by
 simp only[cr,jw h,fT,Bl,zC,dR,ar h];rw[IF (by rw[xO]; rfl),AE]
 rfl
def Dk {S:aa}{k:HZ}:eS .mul (.str #[[k].toArray]) (.int 1) S=ba (.str #[[k].toArray],S):=by
 simp only[eS,vJ];rw[IF #[#v[],#v[],by show 1*1<=sizeLine; rw[Jq]; decide]]
 rfl
def ii {xs:HN W}{k:HZ}:iI xs gV (ba (k:Ip))=xs.take k:=by
 unfold iI;rw[HT.jE,HT.rN,Ot,Rl]
 by_cases h:k<=xs.length
 ·rw[Ql h]
 ·rw[P4 ∅,MC (Ih _),MC ∅]
def pB {xs:HN W}{k:HZ}:iI xs (ba (k:Ip)) gV=xs.drop k:=by
 unfold iI;rw[HT.jE,HT.rN]
 by_cases h:k<=xs.length
 ·rw[Ql h,MC (by rw[LZ]; exact Ih _)]
 ·rw[P4 ∅,MA (Ih _),MA ∅]; exact List.take_nil
section
variable{defs:HN (IH×Df)}{fuel d:HZ}{S:aa}{r:HZ}{Q:QW}
def AF {M:IH->FF}{m z w:W}{t:HZ}{y:IH}{zs:HN IH}{K:Fm->aa->Prop}{Q:QO}(hfu:20 < fuel)(hy:Name y)(e:S[t]?=ba (.lst (zs.map W.str)))(hl:zs.length<=15)
  (k:∀y s,Name y->y∉zs->K [ba (.ref r),ba m,ba z,ba (.ref t),ba w,ba (.str y),ba s] S) :
  wS M fuel (.whl (.cmp .isin (.v 5) (.v 3)) #v[.set 5 (.op .mul (.ix (.c (.str "abcdefghijklmnopqrstuvwxyz")) (.op .mod (.v 6) (.c (.int 26)))) (.op .add (.c (.int 1)) (.op .fdiv (.v 6) (.c (.int 26))))),.set 6 (.op .add (.v 6) (.c (.int 1)))])
   [ba (.ref r),ba m,ba z,ba (.ref t),ba w,ba (.str y),ba (.int 0)] S K Q:=by
 dsimp only[wS];refine xJ (λmm Z S'=>∃(s:HZ) (y:IH),Z=[ba (.ref r),ba m,ba z,ba (.ref t),ba w,ba (.str y),ba (.int s)]/\S'=S/\mm+s=18/\s<=16/\Name y/\(0 < s->y=kR (s - 1))/\∀k,k+1 < s->kR k∈zs) 18 rfl rfl ∅ #[0,y,rfl,rfl,rfl,∅,hy,λh=>absurd h ∅,λk h=>absurd h ∅] ?_
 rintro mm Z S' ⟨s,y',rfl,rfl,hm,hs,hy',hc1,hc2⟩;dsimp only[wT,wE,wV,wG];refine ac (uO e) #[λhin=>?_,λhout=>k _ _ hy' (Kt hout)]
 have all:∀k,k < s->kR k∈zs:=λk hk=>by
  by_cases h:k+1 < s
  ·exact hc2 k h
  ·have e:k=s - 1:=∅
   rw[e,<- hc1 ∅]; exact Je hin
 have hs15:s<=15:=by
  have h7:=iZ ((ID s).map kR) zs (pA s) λx hx=>by
   obtain⟨k,hk,rfl⟩:=Iy.mp hx;exact all k (IR.mp hk)
  rw[HQ,IV]at h7;omega
 refine#[mm - 1,∅,λQ2 hn _=>?_]
 have em:((s:Ip) % 26)=s:=Int.emod_eq_of_lt ∅ ∅
 have ed:((s:Ip) / 26)=0:=Int.ediv_eq_zero_of_lt ∅ ∅
 refine st ?_;dsimp only[wS,wE,wV,wG,Iq];refine ac (hX #v[]) ?_
 rw[em];refine ac (Bx (i:=(s:Ip)) sS (IT s) (xL #[s,∅])) ?_
 have e2:eS .fdiv (.int s) (.int 26) S'=ba (.int 0,S'):=by rw[gE ∅ ∅,ed]
 dsimp only;rw[e2];dsimp only[cg,aD];rw[show(1:Ip)+0=1 from rfl]
 refine ac Dk ?_;refine st ?_;dsimp only[wS,wE,wV,wG,Iq,cg,aD];exact ci (hn _ _ #[s+1,kR s,rfl,rfl,∅,∅,uN ∅,λ_=>rfl,λk hk=>all k ∅])
def AG (hfu:20 < fuel)(G:Gen defs){m:HZ}(hf:Fl S r)(h1:m<=6)(k:∀(ys:HN IH) S',ys.length=m->(∀y∈ys,Name y)->(gH++ys).Nodup->Fl S' r->Kp r S S'->Q (.tup (ys.map W.str),S')) :
  wO (aV (am defs fuel (d+4)) "_law_names" 2 [.ref r,.int m] S) Q:=by
 refine ay G.names rfl rfl λQ' hR=>?_
 replace k:∀(ys:HN IH) S',ys.length=m->(∀y∈ys,Name y)->(gH++ys).Nodup->Fl S' r->Kp r S S'->Q' (.rt (.tup (ys.map W.str)),S'):=λz S' a b c e f=>hR _ _ (k z S' a b c e f)
 clear hR;show wZ _ _ cj [ba (.ref r),ba (.int m),gV,gV,gV,gV,gV] S Q';have bj:∀(z:IH) (S2:aa),z.cps.toList.length<=6->sT z->Fl S2 r->Kp r S S2->wZ (am defs fuel (d+3)) fuel (dr 2 cj) [ba (.ref r),ba (.int m),ba (.str z),gV,gV,gV,gV] S2 Q':=by
  intro z S2 hz1 hz2 f2 k2;dsimp only[dr,cj];have hrt:=f2.lt;have hSt:=k2.len;refine st ?_;left;nofun
  refine dY (m:Ip) (λi Z S'=>∃a4 a5 a6 ys,Z=[ba (.ref r),ba (.int m),ba (.str z),ba (.ref S2.length),a4,a5,a6]/\S'[S2.length]?=ba (.lst ((gH++ys).map W.str))/\ys.length=i/\(∀y∈ys,Name y)/\(gH++ys).Nodup/\Fl S' r/\Kp r S S') rfl rfl ∅ ?_ ?_ ?_
  ·dsimp only[wE,wV,wG];exact#[rfl,gV,gV,gV,[],rfl,af,rfl,λ_ h=>(nomatch h),#v[],f2.ka .push,k2.trans .push]
  ·rintro i Z S3 hi ⟨a4,a5,a6,ys,rfl,e3,hy1,hy2,hy3,f3,k3⟩ Q2 hn _;clear hK;refine st ?_;left;refine Dj (d:=d) G f3 hz1 hz2 λy S4 hy f4 k4=>?_
   have e4:=k4.get _ _ ∅ e3
   refine st ?_;left;refine st (AF hfu hy e4 (by rw[Io,hy1]; show 9+i<=15; omega) λy' s hy' hnot=>?_)
   refine st ?_;left;refine#[dg e4,lQ e4 (by rw[HQ,Io,hy1]; show 9+i < 1000; omega) ?_]
   refine ci (hn _ _ #[_,_,_,ys++[y'],rfl,?_,by rw[Io,hy1]; rfl,λx hx=>?_,?_,f4.own hrt,(k3.trans k4).late hSt])
   ·rw[br e4,<- JO,II (l₁:=gH++ys)]; rfl
   ·rcases IY.mp hx with h|h
    ·exact hy2 x h
    ·rw[Ik.mp h]; exact hy'
   ·rw[<- JO,J9];refine#[hy3,by simp,λa ha b hb e=>?_]
    rw[Ik.mp hb]at e;exact hnot (e ▸ ha)
  ·rintro Z S3 ⟨a4,a5,a6,ys,rfl,e3,hy1,hy2,hy3,f3,k3⟩;refine hK _ _ (st ?_);dsimp only[wS,wE,wA,wV,wG,wP,wN];have hs:nX (.ref S2.length) (ba 9) gV S3=ba (.ref S3.length,S3++[.lst (ys.map W.str)]):=by
    have:iI ((gH++ys).map W.str) (ba ((9:HZ):Ip)) gV=ys.map W.str:=by
     rw[pB,II];exact List.drop_left' rfl
    simp only[nX,ar e3];rw[show(ba 9:HY Ip)=ba ((9:HZ):Ip)from rfl,this]
   refine ac hs (cx af (k _ _ ?_ hy2 hy3 (f3.ka .push) (k3.trans .push)));rw[hy1]; exact IB m
 dsimp only[cj];refine st ?_;dsimp only[wS,wE,Iq];nofun
 dsimp only[wS,wT,wE,wA,wV,wG];refine aI (d:=d+2) G.pick hf #v[] #v[] λv S1 v0 v1 f1 k1=>?_
 dsimp only[fD,wO,wB];refine aC (Q0:=Q') (λ_ Q2 hn _=>?_) (λ_ Q2 hn _=>?_)
 ·refine st ?_;left;refine aI (d:=d+2) G.pick f1 #v[] #v[] λv S2 v0 v1 f2 k2=>?_
  dsimp only[cg,wO];exact iY (d:=d+1) G f2 ∅ ∅ λz S3 hz hs f3 k3=>ci (hn _ _ (hK _ _ (bj z S3 ∅ hs f3 (k1.trans (k2.trans k3)))))
 ·exact ci (hn _ _ (hK _ _ (bj "" S1 #v[] (λc hc=>nomatch hc) f1 k1)))
end
noncomputable abbrev Pt:=Ip×HN Ip
noncomputable abbrev Wd:=HN Pt
abbrev bJ (p:Pt):W:=.tup [.int p.1,.tup (p.2.map W.int)]
abbrev aA (u:Wd):W:=.tup (u.map bJ)
abbrev ga (p:Pt):T:=.tup [.int p.1,.tup (p.2.map T.int)]
abbrev bS (u:Wd):T:=.tup (u.map ga)
def sV:∀xs:HN Ip,T.ws (xs.map T.int)=xs.map W.int
 | []=>rfl
 | x::xs=>by simp[T.ws,T.w,sV xs]
def Fp (p:Pt):(ga p).w=bJ p:=by simp[ga,bJ,T.w,T.ws,sV]
def rm:∀u:Wd,T.ws (u.map ga)=u.map bJ
 | []=>rfl
 | p::u=>by simp[T.ws,Fp,rm u]
def xP (u:Wd):(bS u).w=aA u:=by simp[bS,aA,T.w,rm]
def Fq (u:Wd):W.t (aA u)=ba (bS u):=by rw[<- xP]; exact T.w_t _
def rn:∀us:HN Wd,T.ws (us.map bS)=us.map aA
 | []=>rfl
 | u::us=>by simp[T.ws,xP,rn us]
def xQ (us:HN Wd):W.ts (us.map aA)=ba (us.map bS):=by rw[<- rn]; exact T.ws_ts _
def kq:∀xs:HN Ip,T.depths (xs.map T.int)=0
 | []=>rfl
 | x::xs=>by simp[T.depths,T.depth,kq xs]
def xR (p:Pt):(ga p).depth=2:=by simp[ga,T.depth,T.depths,kq]
def i4:∀u:Wd,T.depths (u.map ga)<=2
 | []=>by simp[T.depths]
 | p::u=>by
  have:=i4 u;simp only[JC,T.depths,xR]; omega
def kw (u:Wd):(bS u).depth<=3:=by
 have:=i4 u;simp only[bS,T.depth]; omega
def fP:∀us:HN Wd,T.depths (us.map bS)<=3
 | []=>by simp[T.depths]
 | u::us=>by
  have:=fP us;have:=kw u;simp only[JC,T.depths]; omega
def Dl (u:Wd):fW (aA u)=ba (bS u):=by
 unfold fW;rw[Fq];show(if (bS u).isTup=true/\(bS u).depth<=au then _ else _)=_
 rw[IF #[rfl,by have:=kw u; unfold au; omega]]
mutual
noncomputable def pE:T->T->IN
 | .int _,.int _=>true
 | .str _,.str _=>true
 | .tup xs,.tup ys=>ik xs ys
 | _,_=>false
noncomputable def ik:HN T->HN T->IN
 | [],_=>true
 | _,[]=>true
 | x::xs,y::ys=>pE x y&&ik xs ys
end
mutual
theorem rq:∀x y:T,pE x y=true->(gg x y).isSome=true
 | .int _,.int _,_=>rfl
 | .str _,.str _,_=>rfl
 | .tup xs,.tup ys,h=>by
  dsimp only[pE]at h;dsimp only[gg];exact sW xs ys h
 | .int _,.str _,h|.int _,.tup _,h|.str _,.int _,h|.str _,.tup _,h|.tup _,.int _,h|.tup _,.str _,h=>by cases h
theorem sW:∀xs ys:HN T,ik xs ys=true->(cH xs ys).isSome=true
 | [],[],_=>rfl
 | [],_::_,_=>rfl
 | _::_,[],_=>rfl
 | x::xs,y::ys,h=>by
  dsimp only[ik]at h; simp only[HX]at h
  dsimp only[cH];split
  ·exact sW xs ys h.2
  ·exact rq x y h.1
end
def pG:∀xs ys:HN Ip,ik (xs.map T.int) (ys.map T.int)=true
 | [],_=>rfl
 | _::_,[]=>rfl
 | x::xs,y::ys=>by dsimp only[Rv,ik,pE]; simp[pG xs ys]
def xS (p q:Pt):pE (ga p) (ga q)=true:=by dsimp only[ga,pE,ik]; simp[pG]
def sX:∀u v:Wd,ik (u.map ga) (v.map ga)=true
 | [],_=>rfl
 | _::_,[]=>rfl
 | p::u,q::v=>by dsimp only[Rv,ik]; simp[xS,sX u v]
def Dm (u v:Wd):pE (bS u) (bS v)=true:=by dsimp only[bS,pE]; exact sX _ _
def fQ (us:HN Wd):dU (us.map bS)=true:=by
 unfold dU;rw[IG];intro x hx;obtain⟨u,_,rfl⟩:=Iy.mp hx;rw[IG];intro y hy;obtain⟨v,_,rfl⟩:=Iy.mp hy;exact rq _ _ (Dm u v)
def xT (us:HN Wd)(h:∀u∈us,u≠[]):(qN (us.map bS)).isSome=true:=by
 unfold qN;split
 ·rfl
 ·split
  ·rfl
  ·split
   ·rfl
   ·split
    ·rfl
    ·split
     ·rfl
     ·rename_i h5;exfalso;apply h5;rw[IG];intro x hx;obtain⟨u,hu,rfl⟩:=Iy.mp hx;cases u with
      | nil=>exact absurd rfl (h [] hu)
      | cons p u=>rfl
abbrev bP (bs:HN Ip)(u:Wd)(i j:HZ):Ip:=if j < i then((u.getD i (0,[])).2).getD j 0 else bs.getD (((u.getD j (0,[])).2).getD i 0).toNat 0
abbrev aj (bs:HN Ip)(u:Wd)(ps:HN HZ):Wd:=(ID ps.length).map λk=>((u.getD (ps.getD k 0) (0,[])).1,(ps.take k).map λj=>bP bs u (ps.getD k 0) j)
abbrev aM:HN (HN HZ):=[[0,1,2],[0,2,1],[1,0,2],[1,2,0],[2,0,1],[2,1,0]]
abbrev jo (bs:HN Ip)(u:Wd):Wd:=(aM.map (aj bs u)).getD (iN ((aM.map (aj bs u)).map bS)) []
abbrev aK (n:IH)(b:Ip):W:=.tup [.str n,.int b]
structure GoodW (a n:HZ)(u:Wd):Prop where
 mark:∀(k:HZ) (p:Pt),u[k]?=ba p->0<=p.1/\p.1 < a
 len:∀(k:HZ) (p:Pt),u[k]?=ba p->p.2.length=k
 way:∀(k:HZ) (p:Pt),u[k]?=ba p->∀w∈p.2,0<=w/\w < n
abbrev GoodB (bs:HN Ip):Prop:=bs=[0]\/bs=[0,1]\/bs=[1,0]\/bs=[0,1,2]\/bs=[1,0,2]\/bs=[0,2,1]
def GoodB.rng {bs:HN Ip}(h:GoodB bs):∀k:HZ,k < bs.length->∃b:Ip,bs[k]?=ba b/\0<=b/\b < bs.length:=by
 rcases h with rfl|rfl|rfl|rfl|rfl|rfl <;> intro k hk
 ·match k,hk with
  | 0,_=>exact#[0,rfl,#v[],#v[]]
 ·match k,hk with
  | 0,_=>exact#[0,rfl,#v[],#v[]]
  | 1,_=>exact#[1,rfl,#v[],#v[]]
 ·match k,hk with
  | 0,_=>exact#[1,rfl,#v[],#v[]]
  | 1,_=>exact#[0,rfl,#v[],#v[]]
 ·match k,hk with
  | 0,_=>exact#[0,rfl,#v[],#v[]]
  | 1,_=>exact#[1,rfl,#v[],#v[]]
  | 2,_=>exact#[2,rfl,#v[],#v[]]
 ·match k,hk with
  | 0,_=>exact#[1,rfl,#v[],#v[]]
  | 1,_=>exact#[0,rfl,#v[],#v[]]
  | 2,_=>exact#[2,rfl,#v[],#v[]]
 ·match k,hk with
  | 0,_=>exact#[0,rfl,#v[],#v[]]
  | 1,_=>exact#[2,rfl,#v[],#v[]]
  | 2,_=>exact#[1,rfl,#v[],#v[]]
def getD_some {α:Type}{xs:HN α}{i:HZ}{x d:α}(h:xs[i]?=ba x):xs.getD i d=x:=by simp[h]
def aq {α:Type}{xs:HN α}{i:HZ}{d:α}(h:i < xs.length):xs[i]?=ba (xs.getD i d):=by simp[h]
def ny {ns:HN IH}{bs:HN Ip}{k:HZ}{n:IH}{b:Ip}(h1:ns[k]?=ba n)(h2:bs[k]?=ba b):(Iz aK ns bs)[k]?=ba (aK n b):=by
 rw[Ol,h1,h2]
abbrev ah (ps:HN HZ):HN W:=ps.map λ(p:HZ)=>W.int (p:Ip)
def jx {ps:HN HZ}{k p:HZ}(h:ps[k]?=ba p):(ah ps)[k]?=ba (.int p):=by simp[ah,h]
def aO (bs:HN Ip)(u:Wd)(ps:HN HZ):(aj bs u ps).length=ps.length:=by unfold aj; rw[HQ,IV]
def jh {u:Wd}{i:HZ}(hi:i < u.length):(u.map bJ)[((i:HZ):Ip).toNat]?=ba (bJ (u.getD i (0,[]))):=by
 rw[IB,Ii,aq hi]; rfl
section
variable{defs:HN (IH×Df)}{fuel d:HZ}{S:aa}{r:HZ}{Q:QW}
def xU {M:IH->FF}{m0 b0:W}{ns:HN IH}{bs:HN Ip}{a:HZ}{u:Wd}{i j:HZ}{Q:QO}(hb:GoodB bs)(hl:ns.length=bs.length)(hu:GoodW a bs.length u)(hi:i < u.length)(hj:j < u.length)(hij:i≠j)(k:Q (.rt (.int (bP bs u i j)),S)) :
  wZ M fuel cV [ba (.tup [m0,.tup (Iz aK ns bs),b0]),ba (aA u),ba (.int i),ba (.int j)] S Q:=by
 have hpi:=aq (d:=(0,[])) hi;have hpj:=aq (d:=(0,[])) hj;unfold bP at k;dsimp only[cV];nofun
 dsimp only[wS,wT,wE,wV,wG,xE,wO,wB,aA];refine aC (Q0:=Q) (λh Q2 _ hr=>?_) (λh Q2 hn _=>?_)
 ·have hji:j < i:=by have:=Je h; omega
  rw[IF hji]at k;have hw:j < (u.getD i (0,[])).2.length:=by rw[hu.len i _ hpi]; exact hji
  refine st ?_;dsimp only[wS,wE,wV,wG];refine ak (IT i) (jh hi) (ak #v[] rfl (ak (IT j) ?_ (hr _ _ k)))
  rw[IB,Ii,aq (d:=0) hw]; rfl
 ·have hji:¬ j < i:=by have:=Kt h; omega
  rw[IP hji]at k;refine ci (hn _ _ (hK _ _ ?_));clear hn hK;have hw:i < (u.getD j (0,[])).2.length:=by rw[hu.len j _ hpj]; omega
  have hg:=aq (d:=0) hw;obtain⟨g1,g2⟩:=hu.way j _ hpj _ (Ir hg);obtain⟨b,hb1,hb2,hb3⟩:=hb.rng ((u.getD j (0,[])).2.getD i 0).toNat ∅
  have hn:((u.getD j (0,[])).2.getD i 0).toNat < ns.length:=∅
  rw[getD_some hb1]at k;refine st ?_;dsimp only[wS,wE,wV,wG];refine ak #v[] rfl (ak (IT j) (jh hj) (ak #v[] rfl (ak (IT i) ?_ (ak g1 (ny (Ig hn) hb1) (ak #v[] rfl k)))))
  rw[IB,Ii,hg]; rfl
def uP (G:Gen defs){m0 b0:W}{ns:HN IH}{bs:HN Ip}{a:HZ}{u:Wd}{i j:HZ}(hb:GoodB bs)(hl:ns.length=bs.length)(hu:GoodW a bs.length u)(hi:i < u.length)(hj:j < u.length)(hij:i≠j)(k:Q (.int (bP bs u i j),S)) :
  wO (aV (am defs fuel (d+1)) "_law_between" 4 [.tup [m0,.tup (Iz aK ns bs),b0],aA u,.int i,.int j] S) Q:=
 ay G.between rfl rfl λQ' hR=>xU hb hl hu hi hj hij (hR _ _ k)
def xV (G:Gen defs){m0 b0:W}{ns:HN IH}{bs:HN Ip}{a:HZ}{u:Wd}{ps:HN HZ}(hb:GoodB bs)(hl:ns.length=bs.length)(hu:GoodW a bs.length u)(hps:∀p∈ps,p < u.length)(hnd:ps.Nodup)(hsz:ps.length < 1000)(k:∀S',Ka S S'->Q (aA (aj bs u ps),S')) :
  wO (aV (am defs fuel (d+2)) "_law_part" 3 [.tup [m0,.tup (Iz aK ns bs),b0],aA u,.tup (ah ps)] S) Q:=by
 refine ay G.part rfl rfl λQ' hR=>?_
 replace k:∀S',Ka S S'->Q' (.rt (aA (aj bs u ps)),S'):=λS' a=>hR _ _ (k S' a)
 clear hR;show wZ _ _ eP [ba (.tup [m0,.tup (Iz aK ns bs),b0]),ba (aA u),ba (.tup (ah ps)),gV,gV,gV] S Q';generalize hR0:W.tup [m0,.tup (Iz aK ns bs),b0]=R;dsimp only[eP];refine st ?_;dsimp only[wS,wE,wA,Iq];nofun
 have nl:(ah ps).length=ps.length:=HQ ..;refine dY (ps.length:Ip) (λk Z S'=>∃a4 a5,Z=[ba R,ba (aA u),ba (.tup (ah ps)),ba (.ref S.length),a4,a5]/\S'[S.length]?=ba (.lst (((aj bs u ps).take k).map bJ))/\Ka S S') rfl rfl ∅ ?_ ?_ ?_
 ·dsimp only[wE,wA,wV,wG];refine aU ?_;rw[nl];exact#[rfl,gV,gV,rfl,af,.push]
 ·rintro i Z S1 hi ⟨a4,a5,rfl,e1,k1⟩ Q2 hn _;clear hK;have hi':i < ps.length:=∅
  have hp:ps[i]?=ba ps[i]:=Ig hi';have hpu:ps[i] < u.length:=hps _ (Jh hi');refine st ?_;dsimp only[wS,wE,wV,wG,Iq];refine ak (IT i) (by rw[IB]; exact jx hp) ?_
  refine st ?_;left;refine#[dg e1,ak (IT _) (jh hpu) (ak #v[] rfl ?_)]
  refine sR (ah (ps.take i)) (λj ys Z2 S2=>(∃a1,Z2=[gV,a1,ba (.int ps[i]),ba R,ba (aA u)])/\ys=((ps.take i).take j).map (λq=>W.int (bP bs u ps[i] q))/\Ka S1 S2) rfl rfl rfl ?_ ?_ ?_
  ·dsimp only[wE,wP,wV,wG,wN];refine ac (a:=(.tup (ah (ps.take i)),S1)) ?_ #[rfl,#[gV,rfl],rfl,.refl];simp only[nX,ii];unfold ah;rw[MO]
  ·rintro j w ys Z2 S2 hw ⟨⟨a1,rfl⟩,rfl,k2⟩;have hjl:j < (ps.take i).length:=by
    have:=(Il.mp hw).1;unfold ah at this
    rwa [HQ]at this
   have hq:(ps.take i)[j]?=ba (ps.take i)[j]:=Ig hjl;cases(jx hq).symm.trans hw;have hj:j < i:=by rw[JE]at hjl; omega
   have eq:(ps.take i)[j]=ps[j]'∅:=Lh
   generalize(ps.take i)[j]=q at hq eq ⊢;refine ac (show eZ (.nm 1) (.int (q:Ip)) [gV,a1,ba (.int ps[i]),ba R,ba (aA u)] S2=ba ([gV,ba (.int (q:Ip)),ba (.int ps[i]),ba R,ba (aA u)],S2)from rfl) ?_
   dsimp only[eX,wC,wE,wA,wV,wG];subst hR0;refine#[λ_=>uP (d:=d) G hb hl hu hpu (by rw[eq]; exact hps _ (Jh _)) ?_ #[#[_,rfl],?_,k2],λz=>by cases z]
   ·rw[eq];intro h;have:=(Kv hnd).mp h;omega
   ·rw[IS,hq];simp
  ·rintro ys Z2 S2 ⟨_,rfl,k2⟩;rw[show(ah (ps.take i)).length=(ps.take i).length from HQ ..,Jp]
   refine#[iE (by rw[HQ,JE]; omega),cx af ?_]
   have e2:=al (u:=O.lst ((ps.take i).map λq=>W.int (bP bs u ps[i] q))) (k2.get _ _ e1)
   refine lQ e2 (by rw[HQ,JE]; omega) (ci (hn _ _ #[_,_,rfl,?_,((k1.trans k2).trans .push).late (Ih _)]))
   rw[br e2];have ep:(aj bs u ps)[i]?=ba ((u.getD ps[i] (0,[])).1,(ps.take i).map λq=>bP bs u ps[i] q):=by
    unfold aj;rw[Ii,KC hi',Ja,getD_some hp]
   rw[IS,ep];simp[bJ,PB]
 ·rintro Z S1 ⟨a4,a5,rfl,e1,k1⟩;rw[IB,<- aO bs u ps,Jp]at e1;refine hK _ _ (st ?_);left;exact cx e1 (k _ k1)
def nz (G:Gen defs)(k:Q (.ref S.length,S++[.lst (aM.map λt=>W.tup (ah t))])):wO (aV (am defs fuel (d+1)) "_law_turns" 0 [] S) Q:=by
 refine ay G.turns rfl rfl λQ' hR=>?_
 dsimp only[fE];refine st ?_;dsimp only[wS,wE,wA];exact hR _ _ k
def dM (bt:HZ->HZ->IN):∀n:HZ,argBest bt n<=n
 | 0=>Ih _
 | n+1=>by have:=dM bt n; simp only[argBest]; split <;> omega
def im (G:Gen defs){m0 b0:W}{ns:HN IH}{bs:HN Ip}{a:HZ}{u:Wd}(hb:GoodB bs)(hl:ns.length=bs.length)(hu:GoodW a bs.length u)(h3:u.length=3)(k:∀S',Ka S S'->Q (aA (jo bs u),S')) :
  wO (aV (am defs fuel (d+3)) "_law_figure" 2 [.tup [m0,.tup (Iz aK ns bs),b0],aA u] S) Q:=by
 refine ay G.figure rfl rfl λQ' hR=>?_
 replace k:∀S',Ka S S'->Q' (.rt (aA (jo bs u)),S'):=λS' a=>hR _ _ (k S' a)
 clear hR;show wZ _ _ dw [ba (.tup [m0,.tup (Iz aK ns bs),b0]),ba (aA u)] S Q';generalize hR0:W.tup [m0,.tup (Iz aK ns bs),b0]=R;dsimp only[dw];refine st ?_;dsimp only[wS,wE,wA];refine nw S.length (aM.map λt=>W.tup (ah t)) (λi ys Z2 S2=>(∃a1,Z2=[gV,a1,ba R,ba (aA u)])/\ys=((aM.take i).map λt=>aA (aj bs u t))/\Ka (S++[.lst (aM.map λt=>W.tup (ah t))]) S2) rfl rfl rfl ?_ ?_ ?_ ?_
 ·dsimp only[wE,wA];exact nz (d:=d+1) G #[rfl,#[gV,rfl],rfl,.refl]
 ·rintro i ys Z2 S2 ⟨_,_,k2⟩;exact k2.get _ _ af
 ·rintro i w ys Z2 S2 hw ⟨⟨a1,rfl⟩,rfl,k2⟩;rw[Ii,HU]at hw;obtain⟨t,ht,rfl⟩:=hw;have ht3:(∀p∈t,p < 3)/\t.Nodup/\t.length < 1000:=by
   have:∀t∈aM,(∀p∈t,p < 3)/\t.Nodup/\t.length < 1000:=by decide
   exact this t (Ir ht)
  refine ac (show eZ (.nm 1) (.tup (ah t)) [gV,a1,ba R,ba (aA u)] S2=ba ([gV,ba (.tup (ah t)),ba R,ba (aA u)],S2)from rfl) ?_
  dsimp only[eX,wC,wE,wA,wV,wG];subst hR0;refine#[λ_=>xV (d:=d) G hb hl hu (λp hp=>by rw[h3]; exact ht3.1 p hp) ht3.2.1 ht3.2.2 λS3 k3=>#[#[_,rfl],?_,k2.trans k3],λz=>by cases z]
  rw[IS,ht];simp
 ·rintro ys Z2 S2 ⟨_,rfl,k2⟩;have e:((aM.take (aM.map λt=>W.tup (ah t)).length).map λt=>aA (aj bs u t))=(aM.map (aj bs u)).map aA:=by
   rw[HQ,Jp,JQ]; rfl
  rw[e];refine#[ie rfl,ac (a:=(aA (jo bs u),S2++[.lst ((aM.map (aj bs u)).map aA)])) ?_ (k _ ((Ka.push.trans k2).trans .push))];simp only[Bi.fn,wf,ar af,xQ];rw[IF #[by have:=fP (aM.map (aj bs u)); unfold bK; omega,fQ _]]
  unfold jo;have hlt:iN ((aM.map (aj bs u)).map bS) < (aM.map (aj bs u)).length:=O9 (dM _ _) (by decide:5 < 6)
  rw[Ii,aq (d:=[]) hlt];rfl
end
abbrev ag (xs:HN Ip):HN W:=xs.map W.int
abbrev cy (us:HN Wd):HN Wd:=c8 (kL (us.map bS)) [] us
def pH {α β:Type}{lt:HZ->HZ->IN}{d:α}{d':β}{f:α->β}{us:HN α}:c8 lt d' (us.map f)=(c8 lt d us).map f:=by
 unfold c8;rw[HQ];split
 ·rfl
 ·rw[JQ];refine JM λi hi=>?_
  have hl:i < us.length:=ju ∅ i hi
  simp[hl]
def rz {S:aa}{x:W}{us:HN Wd}(h:dG S x=ba (us.map aA))(h64:us.length < 64)(hne:∀u∈us,u≠[]):eM [x] S=ba (.ref S.length,S++[.lst ((cy us).map aA)]):=by
 have ok:gy (us.map bS)=true:=by
  unfold gy;simp only[HX,Kq,Ix,HQ];exact#[#[h64,by have:=fP us; unfold bK; omega],.inr #[xT us hne,fQ us]]
 simp only[eM,h,xQ];rw[IF ok,pH (d:=[])];rfl
abbrev dq (ms ns:HN IH)(bs:HN Ip)(us:HN Wd):W:=.tup [.tup (ms.map W.str),.tup (Iz aK ns bs),.tup (us.map aA)]
structure GoodN (ms ns:HN IH):Prop where
 name:∀y∈ms++ns,Name y
 nd:(gH++(ms++ns)).Nodup
def GoodW.nil {a n:HZ}:GoodW a n []:=#[λk p h=>(by simp at h),λk p h=>(by simp at h),λk p h=>(by simp at h)]
def GoodW.snoc {a n:HZ}{u:Wd}{m:Ip}{ws:HN Ip}(h:GoodW a n u)(h1:0<=m/\m < a)(h2:ws.length=u.length)(h3:∀w∈ws,0<=w/\w < (n:Ip)):GoodW a n (u++[(m,ws)]):=by
 have key:∀(k:HZ) (p:Pt),(u++[(m,ws)])[k]?=ba p->u[k]?=ba p\/(k=u.length/\p=(m,ws)):=λk p e=>by
  rcases Nat.lt_or_ge k u.length with hk|hk
  ·rw[Jr hk]at e; exact .inl e
  ·rw[KZ hk]at e;have:k - u.length=0:=by
    have:=(Il.mp e).1;simp at this; omega
   rw[this]at e;cases e;exact .inr #[∅,rfl]
 refine#[λk p e=>?_,λk p e=>?_,λk p e=>?_] <;> rcases key k p e with e|⟨rfl,rfl⟩
 ·exact h.mark k p e
 ·exact h1
 ·exact h.len k p e
 ·exact h2
 ·exact h.way k p e
 ·exact h3
def GoodB.inv {bs:HN Ip}(h:GoodB bs):∀k:HZ,k < bs.length->bs.getD (bs.getD k 0).toNat 0=k:=by
 rcases h with rfl|rfl|rfl|rfl|rfl|rfl <;> decide
def GoodB.at {bs:HN Ip}(h:GoodB bs){x:Ip}(h0:0<=x)(h1:x < bs.length):bs[x.toNat]?=ba (bs.getD x.toNat 0)/\0<=bs.getD x.toNat 0/\bs.getD x.toNat 0 < bs.length:=by
 obtain⟨b,h2,h3⟩:=h.rng x.toNat ∅
 rw[getD_some h2];exact#[h2,h3]
def AH {S:aa}{x:W}{xs:HN W}(h:dG S x=ba xs):cu [x] S=gV:=by
 cases x with
 | ref i=>
  have e2:DO S i=gV:=by
   unfold DO;cases e:S[i]? with
   | none=>rfl
   | some o=>
    cases o with
    | stt ss=>simp[dG,eY,iL,e]at h
    | _=>rfl
  simp only[cu,e2]
 | _=>rfl
def xW {S:aa}{x:W}{us:HN Wd}{Q:QW}(h:dG S x=ba (us.map aA))(h64:us.length < 64)(hne:∀u∈us,u≠[])(q:Q (.ref S.length,S++[.lst ((cy us).map aA)])):wO (Bi.sorted.fn [x] S) Q:=by
 refine ac ?_ q;show(match cu [x] S with
  | some r=>ba r
  | none=>eM [x] S)=_
 rw[AH h];exact rz h h64 hne
abbrev xX:HN (HZ×HZ):=[(1,1),(2,1),(3,1),(1,2),(1,2),(2,2),(2,2),(3,2),(1,3),(1,3),(2,3)]
def xY:∀p∈xX,1<=p.1/\p.1<=3/\1<=p.2/\p.2<=3/\p.1*p.2<=6:=by decide
abbrev kz:HZ->HN (HN Ip)
 | 1=>[[0]]
 | 2=>[[0,1],[1,0]]
 | _=>[[0,1,2],[1,0,2],[0,2,1]]
def xZ:∀n:HZ,1<=n->n<=3->(∀b∈kz n,GoodB b/\b.length=n)/\0 < (kz n).length/\(kz n).length<=3
 | 1,_,_=>#[λb h=>by cases Ik.mp h; exact#[.inl rfl,rfl],#v[],#v[]]
 | 2,_,_=>#[λb h=>by
   rcases IC.mp h with rfl|h
   ·exact#[.inr (.inl rfl),rfl]
   ·cases Ik.mp h; exact#[.inr (.inr (.inl rfl)),rfl],#v[],#v[]]
 | 3,_,_=>#[λb h=>by
   rcases IC.mp h with rfl|h
   ·exact#[.inr (.inr (.inr (.inl rfl))),rfl]
   ·rcases IC.mp h with rfl|h
    ·exact#[.inr (.inr (.inr (.inr (.inl rfl)))),rfl]
    ·cases Ik.mp h; exact#[.inr (.inr (.inr (.inr (.inr rfl)))),rfl],#v[],#v[]]
 | 0,h,_=>absurd h #v[]
 | n+4,_,h=>absurd h ∅
section
variable{defs:HN (IH×Df)}{fuel d:HZ}{S:aa}{r:HZ}{Q:QW}
def nA (G:Gen defs)(hf:Fl S r)(k:∀(a n:HZ) S',1<=a->a<=3->1<=n->n<=3->a*n<=6->Fl S' r->Kp r S S'->Q (.tup [.int a,.int n],S')) :
  wO (aV (am defs fuel (d+2)) "_law_sizes" 1 [.ref r] S) Q:=by
 refine ay G.sizes rfl rfl λQ' hR=>?_
 show wZ _ _ d0 [ba (.ref r),gV] S Q';dsimp only[d0];refine st ?_;dsimp only[wS,wE,wA,Iq];refine st ?_;left;refine aI (d:=d) G.pick (hf.ka .push) #v[] #v[] λv S1 v0 v1 f1 k1=>?_
 have e:=k1.get _ _ (JY hf.lt) af;obtain⟨p,hp,ep⟩:=ko (f:=λp:HZ×HZ=>W.tup [.int p.1,.int p.2]) (xs:=xX) (i:=v.toNat) (by show v.toNat < 11; omega)
 obtain⟨a1,a3,n1,n3,an⟩:=xY p hp;exact ig e v0 ep (hR _ _ (k _ _ _ a1 a3 n1 n3 an f1 (Kp.push.trans k1)))
def nB (G:Gen defs){n:HZ}(hf:Fl S r)(h1:1<=n)(h3:n<=3)(k:∀(bs:HN Ip) S',GoodB bs->bs.length=n->Fl S' r->Kp r S S'->Q (.tup (ag bs),S')) :
  wO (aV (am defs fuel (d+2)) "_law_backs" 2 [.ref r,.int n] S) Q:=by
 refine ay G.backs rfl rfl λQ' hR=>?_
 replace k:∀(bs:HN Ip) S',GoodB bs->bs.length=n->Fl S' r->Kp r S S'->Q' (.rt (.tup (ag bs)),S'):=λz S' a b c e=>hR _ _ (k z S' a b c e)
 clear hR;show wZ _ _ dZ [ba (.ref r),ba (.int n),gV] S Q';dsimp only[dZ];nofun
 left;dsimp only[xC,aD];obtain⟨hg,g0,g3⟩:=xZ n h1 h3;have fin:∀(t:HZ) (S1:aa),S.length<=t->S1[t]?=ba (.lst ((kz n).map λb=>.tup (ag b)))->Ka S S1->K [ba (.ref r),ba (.int n),ba (.ref t)] S1:=by
  intro t S1 ht et ka;refine hK _ _ (st ?_);left;refine fF et ?_;rw[HQ];refine aI (d:=d) G.pick (hf.ka ka) ∅ ∅ λv S2 v0 v1 f2 k2=>?_
  have e2:=k2.get _ _ (by have:=hf.lt; omega) et
  obtain⟨b,hb,eb⟩:=ko (f:=λb:HN Ip=>W.tup (ag b)) (xs:=kz n) (i:=v.toNat) ∅
  exact ig e2 v0 eb (k b S2 (hg b hb).1 (hg b hb).2 f2 ((ka.kp r).trans k2))
 clear hK g0 g3 hg;rcases(show n=1\/n=2\/n=3 by omega)with rfl|rfl|rfl
 ·exact dP (i:=0) af rfl (fin _ _ (Ih _) (al (al (al af))) (Ka.push.trans (Ka.push.trans (Ka.push.trans .push))))
 ·exact dP (i:=1) af rfl (fin _ _ (by simp) (al (al af)) (Ka.push.trans (Ka.push.trans (Ka.push.trans .push))))
 ·exact dP (i:=2) af rfl (fin _ _ (by simp only[Io]; omega) (al af) (Ka.push.trans (Ka.push.trans (Ka.push.trans .push))))
def lS (hfu:20 < fuel)(G:Gen defs){a:HZ}{bs:HN Ip}{x:W}{us:HN Wd}(hf:Fl S r)(ha:a<=3)(hb:bs.length<=3)(hx:∀S',Kp r S S'->dG S' x=ba (us.map aA))(h64:us.length < 64)(hne:∀u∈us,u≠[])
  (k:∀(ms ns:HN IH) S',ms.length=a->ns.length=bs.length->GoodN ms ns->Fl S' r->Kp r S S'->Q (dq ms ns bs (cy us),S')) :
  wO (aV (am defs fuel (d+5)) "_law_rule_of" 4 [.ref r,.int a,.tup (ag bs),x] S) Q:=by
 refine ay G.rule_of rfl rfl λQ' hR=>?_
 replace k:∀(ms ns:HN IH) S',ms.length=a->ns.length=bs.length->GoodN ms ns->Fl S' r->Kp r S S'->Q' (.rt (dq ms ns bs (cy us)),S'):=λz y S' a b c e f=>hR _ _ (k z y S' a b c e f)
 clear hR;show wZ _ _ cW [ba (.ref r),ba (.int a),ba (.tup (ag bs)),ba x,gV,gV] S Q';have hbl:(ag bs).length=bs.length:=HQ ..;dsimp only[cW];nofun
 left;refine aU ?_;rw[hbl];dsimp only[cg,aD];refine AG (d:=d) (m:=a+bs.length) hfu G hf ∅ λys S1 q2 q3 q4 f1 k1=>hK _ _ ?_
 clear hK K;have hzl:(Iz aK (ys.drop a) bs).length=bs.length:=by
  rw[Lp,LZ]; omega
 nofun
 dsimp only[wS,wE,wA,Iq];refine dv (bs.length:Ip) (λk zs Z2 S2=>(∃a1,Z2=[gV,a1,ba (.tup (ag bs)),ba (.int a),ba (.tup (ys.map W.str))])/\zs=((Iz aK (ys.drop a) bs).take k)/\S2=S1) rfl rfl rfl ∅ ?_ ?_ ?_
 ·dsimp only[wE,wA,wV,wG];refine aU ?_;rw[hbl];exact#[rfl,#[gV,rfl],rfl,rfl]
 ·rintro i zs Z2 S2 hi ⟨⟨a1,rfl⟩,rfl,rfl⟩;clear hK;have hi':i < bs.length:=∅
  have h1:a+i < ys.length:=∅
  dsimp only[eX,wC,wE,wA,wV,wG,Iq,cg,aD];refine#[λ_=>ak ∅ (w:=.str ys[a+i]) ?_ (ak ∅ (w:=.int bs[i]) ?_ #[#[_,rfl],?_,rfl]),λz=>by cases z]
  ·rw[show((a:Ip)+(i:Ip)).toNat=a+i by omega,Ii,Ig h1]; rfl
  ·unfold ag;rw[IB,Ii,Ig hi']; rfl
  ·have ez:(Iz aK (ys.drop a) bs)[i]?=ba (aK ys[a+i] bs[i]):=ny (by rw[List.getElem?_drop]; exact Ig h1) (Ig hi')
   rw[IS,ez];rfl
 ·rintro zs Z2 S2 ⟨_,rfl,rfl⟩;rw[IB,<- hzl,Jp];refine#[iE ∅,cx af (hK _ _ ?_)]
  clear hK K;refine st ?_;dsimp only[wS,wE,wA,wP,wV,wG,wN];have hs:nX (.tup (ys.map W.str)) gV (ba (a:Ip)) (S2++[O.lst (Iz aK (ys.drop a) bs)])=ba (.tup ((ys.take a).map W.str),S2++[O.lst (Iz aK (ys.drop a) bs)]):=by
   simp only[nX,ii];rw[MO]
  refine ac hs (xW (hx _ (k1.trans .push)) h64 hne (cx af ?_));refine k (ys.take a) (ys.drop a) _ ?_ ?_ #[?_,?_] ((f1.ka .push).ka .push) (k1.trans (Kp.push.trans .push))
  ·rw[JE]; omega
  ·rw[LZ]; omega
  ·rw[Om]; exact q3
  ·rw[Om]; exact q4
def eR (hfu:20 < fuel)(G:Gen defs){a:HZ}{bs:HN Ip}(hf:Fl S r)(ha:a<=3)(hb:bs.length<=3)
  (k:∀(ms ns:HN IH) S',ms.length=a->ns.length=bs.length->GoodN ms ns->Fl S' r->Kp r S S'->Q (dq ms ns bs [],S')) :
  wO (aV (am defs fuel (d+5)) "_law_rule_of" 4 [.ref r,.int a,.tup (ag bs),.tup []] S) Q:=
 lS hfu G hf ha hb (us:=[]) (λ_ _=>rfl) #v[] (λ_ h=>nomatch h) k
def draws {M:IH->FF}{Z:Fm}{elt e:E}{cap:HN (HY HZ)}{n i:HZ}{R:Fm}(oe:da elt=true)(oi:da e=true)(h1:i<=1000)(hc:eh cap Z=gV::gV::R)(hf:Fl S r)(he:∀Q:QW,Q (.int i,S)->wE M e Z S Q)
  (hp:∀(a:HY W) (S1:aa) (Q:QW),Fl S1 r->(∀v S',0<=v->v < (n:Ip)->Fl S' r->Kp r S1 S'->Q (.int v,S'))->wE M elt (gV::a::R) S1 Q)
  (k:∀(vs:HN Ip) S',vs.length=i->(∀w∈vs,0<=w/\w < (n:Ip))->Fl S' r->Kp r S S'->Q (.ref S'.length,S'++[.lst (ag vs)])) :
  Wp (az M (.comp elt (.nm 1) (.rng #v[e]) .nil cap) Z S) Q:=by
 refine dv (i:Ip) (λj ys Z2 S3=>(∃a1,Z2=gV::a1::R)/\(∃vs:HN Ip,ys=ag vs/\vs.length=j/\∀w∈vs,0<=w/\w < (n:Ip))/\Fl S3 r/\Kp r S S3) oi oe rfl ∅ (he _ #[rfl,#[gV,hc],#[[],rfl,rfl,λ_ h=>nomatch h],hf,.refl]) ?_ ?_
 ·rintro j ys Z2 S3 hj ⟨⟨a1,rfl⟩,⟨vs,rfl,hvl,hv⟩,f3,k3⟩;refine#[λ_=>hp _ _ _ f3 λv S4 v0 v1 f4 k4=>#[#[_,rfl],#[vs++[v],(II (l₁:=vs) (l₂:=[v])).symm,by rw[Io,hvl]; rfl,λw hw=>?_],f4,k3.trans k4],λz=>by cases z]
  rcases IY.mp hw with h|h
  ·exact hv w h
  ·rw[Ik.mp h]; exact#[v0,v1]
 ·rintro ys Z2 S3 ⟨_,⟨vs,rfl,hvl,hv⟩,f3,k3⟩;rw[IB]at hvl;exact#[iE (by rw[show(ag vs).length=vs.length from HQ ..]; omega),k vs S3 hvl hv f3 k3]
def io (G:Gen defs){a n:HZ}(hf:Fl S r)(ha:0 < a)(ha3:a<=3)(hn:0 < n)(hn3:n<=3)(k:∀(u:Wd) S',u.length=3->GoodW a n u->Fl S' r->Kp r S S'->Q (aA u,S')) :
  wO (aV (am defs fuel (d+2)) "_law_free_three" 3 [.ref r,.int a,.int n] S) Q:=by
 refine ay G.free_three rfl rfl λQ' hR=>?_
 replace k:∀(u:Wd) S',u.length=3->GoodW a n u->Fl S' r->Kp r S S'->Q' (.rt (aA u),S'):=λz S' a b c e=>hR _ _ (k z S' a b c e)
 clear hR;show wZ _ _ bM [ba (.ref r),ba (.int a),ba (.int n),gV,gV] S Q';dsimp only[bM];have hrt:=hf.lt;refine st ?_;dsimp only[wS,wE,wA,Iq];nofun
 refine dY 3 (λk Z S'=>∃a4 u,Z=[ba (.ref r),ba (.int a),ba (.int n),ba (.ref S.length),a4]/\S'[S.length]?=ba (.lst (u.map bJ))/\u.length=k/\GoodW a n u/\Fl S' r/\Kp r S S') rfl rfl #v[] #[rfl,gV,[],rfl,af,rfl,.nil,hf.ka .push,.push] ?_ ?_
 ·rintro i Z S1 hi ⟨a4,u,rfl,e1,hul,hu,f1,k1⟩ Q2 hn' _;clear hK;refine st ?_;left;refine#[dg e1,aI (d:=d) G.pick f1 ∅ ∅ λv S2 v0 v1 f2 k2=>?_]
  have e2:=k2.get _ _ ∅ e1
  refine draws (n:=n) (i:=i) (R:=[ba (.ref r),ba (.int n)]) rfl rfl ∅ rfl f2 (λQ q=>q) (λa S1 Q f q=>aI (d:=d) G.pick f ∅ ∅ q) λvs S3 hvl hv f3 k3=>?_
  have e3:=al (u:=O.lst (ag vs)) (k3.get _ _ ∅ e2)
  refine cx af (lQ e3 (by rw[HQ]; omega) (ci (hn' _ _ #[_,u++[(v,vs)],rfl,?_,by rw[Io,hul]; rfl,hu.snoc #[v0,v1] (hvl.trans hul.symm) hv,(f3.ka .push).own hrt,(k1.trans (k2.trans (k3.trans .push))).late (Ih _)])))
  rw[br e3,II]; rfl
 ·rintro Z S1 ⟨a4,u,rfl,e1,hul,hu,f1,k1⟩;refine hK _ _ (st ?_);left;exact cx e1 (k u _ hul hu f1 k1)
def fG (G:Gen defs)(hg:Is defs ("_law_any_world" : IH) 3 6 bx){a:HZ}{bs:HN Ip}{ms ns:HN IH}{b0:W}{many:HZ}(hf:Fl S r)(ha:0 < a)(ha3:a<=3)(hb:GoodB bs)(hml:ms.length=a)(hnl:ns.length=bs.length)(hm:many<=999)(k:∀(u:Wd) S',u.length=many->GoodW a bs.length u->Fl S' r->Kp r S S'->Q (aA u,S')) :
  wO (aV (am defs fuel (d+2)) "_law_any_world" 3 [.ref r,.tup [.tup (ms.map W.str),.tup (Iz aK ns bs),b0],.int many] S) Q:=by
 refine ay hg rfl rfl λQ' hR=>?_
 replace k:∀(u:Wd) S',u.length=many->GoodW a bs.length u->Fl S' r->Kp r S S'->Q' (.rt (aA u),S'):=λz S' a b c e=>hR _ _ (k z S' a b c e)
 clear hR;have hb1:1<=bs.length/\bs.length<=3:=by rcases hb with rfl|rfl|rfl|rfl|rfl|rfl <;> decide
 have hzl:(Iz aK ns bs).length=bs.length:=by rw[Lp]; omega
 have hmm:(ms.map W.str).length=a:=by rw[HQ,hml]
 generalize ms.map W.str=tx at hmm;generalize Iz aK ns bs=N at hzl;show wZ _ _ bx [ba (.ref r),ba (.tup [.tup tx,.tup N,b0]),ba (.int many),gV,gV,gV] S Q';dsimp only[bx];have hrt:=hf.lt;refine st ?_;dsimp only[wS,wE,wA,Iq];nofun
 refine dY (many:Ip) (λk Z S'=>∃a4 a5 u,Z=[ba (.ref r),ba (.tup [.tup tx,.tup N,b0]),ba (.int many),ba (.ref S.length),a4,a5]/\S'[S.length]?=ba (.lst (u.map bJ))/\u.length=k/\GoodW a bs.length u/\Fl S' r/\Kp r S S') rfl rfl ∅ #[rfl,gV,gV,[],rfl,af,rfl,.nil,hf.ka .push,.push] ?_ ?_
 ·rintro i Z S1 hi ⟨a4,a5,u,rfl,e1,hul,hu,f1,k1⟩ Q2 hn' _;clear hK;refine st ?_;left;refine ak #v[] rfl (aU ?_)
  rw[hmm];refine aI (d:=d) G.pick f1 ∅ ∅ λv S2 v0 v1 f2 k2=>?_
  have e2:=k2.get _ _ ∅ e1
  refine st ?_;left;refine#[dg e2,draws (n:=bs.length) (i:=i) (R:=[ba (.ref r),ba (.tup [.tup tx,.tup N,b0])]) rfl rfl ∅ rfl f2 (λQ q=>q) (λa S1 Q f q=>?_) λvs S3 hvl hv f3 k3=>?_]
  ·dsimp only[wE,wA,wV,wG];refine ak #v[] rfl (aU ?_)
   rw[hzl];exact aI (d:=d) G.pick f ∅ ∅ q
  have e3:=al (u:=O.lst (ag vs)) (k3.get _ _ ∅ e2)
  refine cx af (lQ e3 (by rw[HQ]; omega) (ci (hn' _ _ #[_,_,u++[(v,vs)],rfl,?_,by rw[Io,hul]; rfl,hu.snoc #[v0,v1] (hvl.trans hul.symm) hv,(f3.ka .push).own hrt,(k1.trans (k2.trans (k3.trans .push))).late (Ih _)])))
  rw[br e3,II]; rfl
 ·rintro Z S1 ⟨a4,a5,u,rfl,e1,hul,hu,f1,k1⟩;refine hK _ _ (st ?_);left;exact cx e1 (k u _ ∅ hu f1 k1)
end
abbrev kS (n:HZ):HN Ip:=(ID n).map λ(k:HZ)=>(k:Ip)
abbrev x4 (a n:HZ):HN Wd:=(kS a).flatMap λm0=>(kS a).flatMap λm1=>(kS a).flatMap λm2=>(kS n).flatMap λw1=>(kS n).flatMap λw2=>(kS n).map λw3=>[(m0,[]),(m1,[w1]),(m2,[w2,w3])]
abbrev aJ (a:HZ)(bs:HN Ip):HN Wd:=((x4 a bs.length).map (jo bs)).eraseDups
def cz {n:HZ}{x:Ip}(h0:0<=x)(h1:x < n):x∈kS n:=Iy.mpr #[x.toNat,IR.mpr ∅,∅]
def uQ {a n:HZ}{u:Wd}(h:GoodW a n u)(h3:u.length=3):u∈x4 a n:=by
 match u,h3 with
 | [(m0,w0),(m1,w1),(m2,w2)],_=>
  have l0:=h.len 0 _ rfl;have l1:=h.len 1 _ rfl;have l2:=h.len 2 _ rfl;simp only at l0 l1 l2
  match w0,l0 with
  | [],_=>
   match w1,l1 with
   | [x],_=>
    match w2,l2 with
    | [y,z],_=>
     have a0:=h.mark 0 _ rfl;have a1:=h.mark 1 _ rfl;have a2:=h.mark 2 _ rfl;have b1:=h.way 1 _ rfl x (by simp)
     have b2:=h.way 2 _ rfl y (by simp)
     have b3:=h.way 2 _ rfl z (by simp)
     unfold x4;simp only[Lz,Iy];exact#[m0,cz a0.1 a0.2,m1,cz a1.1 a1.2,m2,cz a2.1 a2.2,x,cz b1.1 b1.2,y,cz b2.1 b2.2,z,cz b3.1 b3.2,rfl]
def sY {a:HZ}{bs:HN Ip}{u:Wd}(h:GoodW a bs.length u)(h3:u.length=3):jo bs u∈aJ a bs:=by
 unfold aJ;rw[Pa];exact Iy.mpr #[u,uQ h h3,rfl]
structure SizeOk (a:HZ)(bs:HN Ip):Prop where
 pos:0 < a
 good:GoodB bs
 most:a*bs.length<=6
 a3:a<=3
def SizeOk.n3 {a:HZ}{bs:HN Ip}(h:SizeOk a bs):0 < bs.length/\bs.length<=3:=by
 rcases h.good with rfl|rfl|rfl|rfl|rfl|rfl <;> decide
def G1:(aJ 1 [0]).length < 64/\(aJ 2 [0]).length < 64/\(aJ 3 [0]).length < 64:=by decide +kernel
def FY:(aJ 1 [0,1]).length < 64/\(aJ 2 [0,1]).length < 64/\(aJ 1 [1,0]).length < 64/\(aJ 2 [1,0]).length < 64:=by decide +kernel
def G2:(aJ 1 [0,1,2]).length < 64/\(aJ 1 [1,0,2]).length < 64/\(aJ 1 [0,2,1]).length < 64:=by decide +kernel
def G3:(aJ 3 [0,1]).length < 64:=by decide +kernel
def G4:(aJ 3 [1,0]).length < 64:=by decide +kernel
def G5:(aJ 2 [0,1,2]).length < 64:=by decide +kernel
def G6:(aJ 2 [1,0,2]).length < 64:=by decide +kernel
def G7:(aJ 2 [0,2,1]).length < 64:=by decide +kernel
def nC {a:HZ}{bs:HN Ip}(h:SizeOk a bs):(aJ a bs).length < 64:=by
 obtain⟨h0,hb,hm,h3⟩:=h;have ha:a=1\/a=2\/a=3:=∅
 rcases hb with rfl|rfl|rfl|rfl|rfl|rfl <;> rcases ha with rfl|rfl|rfl
 ·exact G1.1
 ·exact G1.2.1
 ·exact G1.2.2
 ·exact FY.1
 ·exact FY.2.1
 ·exact G3
 ·exact FY.2.2.1
 ·exact FY.2.2.2
 ·exact G4
 ·exact G2.1
 ·exact G5
 ·simp at hm
 ·exact G2.2.1
 ·exact G6
 ·simp at hm
 ·exact G2.2.2
 ·exact G7
 ·simp at hm
def x5 (bs:HN Ip)(u:Wd):∃t∈aM,jo bs u=aj bs u t:=by
 have h7:(aM.map (aj bs u)).length=6:=by rw[HQ]; rfl
 have h8:((aM.map (aj bs u)).map bS).length=6:=by rw[HQ,h7]
 have hlt:iN ((aM.map (aj bs u)).map bS) < (aM.map (aj bs u)).length:=by
  unfold iN;have h6:=dM (kL ((aM.map (aj bs u)).map bS)) (((aM.map (aj bs u)).map bS).length - 1);rw[h7]; omega
 unfold jo;rw[getD_some (Ig hlt)];obtain⟨t,ht,e⟩:=Iy.mp (Jh hlt);exact#[t,ht,e.symm]
def AI (bs:HN Ip)(u:Wd):jo bs u≠[]:=by
 obtain⟨t,ht,e⟩:=x5 bs u;rw[e];have:∀t∈aM,t≠[]:=by decide
 have h:=this t ht;intro z;have hl:(aj bs u t).length=t.length:=by simp[aj]
 rw[z]at hl;exact h (Kc.mp hl.symm)
def pI:∀ {xs ys:HN Ip},xs.map T.int=ys.map T.int->xs=ys
 | [],[],_=>rfl
 | [],_::_,h=>by cases h
 | _::_,[],h=>by cases h
 | x::xs,y::ys,h=>by
  rw[JC,JC]at h;injection h with h1 h2
  injection h1 with h1
  rw[h1,pI h2]
def AJ {p q:Pt}(h:ga p=ga q):p=q:=by
 unfold ga at h;injection h with h
 injection h with h1 h2
 injection h1 with h1
 injection h2 with h2 _
 injection h2 with h2
 exact Sd h1 (pI h2)
def ip {u v:Wd}(h:bS u=bS v):u=v:=by
 unfold bS at h;injection h with h
 have inj:∀ {u v:Wd},u.map ga=v.map ga->u=v:=by
  intro u
  induction u with
  | nil=>intro v h; cases v with
   | nil=>rfl
   | cons _ _=>cases h
  | cons p u ih=>intro v h; cases v with
   | nil=>cases h
   | cons q v=>
    rw[JC,JC]at h;injection h with h1 h2
    rw[AJ h1,ih h2]
 exact inj h
def lT {U:HN (T×W)}{k:T}{v:W}:(eg U k v).map (·.1)=if k∈U.map (·.1)then U.map (·.1)else U.map (·.1)++[k]:=by
 have hany:(U.any λp=>decide (p.1=k))=decide (k∈U.map (·.1)):=by
  induction U with
  | nil=>rfl
  | cons p U ih=>
   rw[KT,ih,JC]
   by_cases e:p.1=k
   ·subst e; simp
   ·rw[IX e,NK];have:(k∈p.1::U.map (·.1))=(k∈U.map (·.1)):=by simp[Ne.symm e]
    simp only[this]
 unfold eg;rw[hany]
 by_cases h:k∈U.map (·.1)
 ·rw[IF h,IF (JG h),JQ];refine JM λp _=>?_
  show(if p.1=k then(p.1,v)else p).1=p.1
  split <;> rfl
 ·rw[IP h,IP (by simpa using h),II]
  rfl
structure FigD (L:HN Wd)(U:HN (T×W))(fs:HN Wd):Prop where
 keys:U.map (·.1)=fs.map bS
 nd:fs.Nodup
 mem:∀f∈fs,f∈L
def FigD.nil {L:HN Wd}:FigD L [] []:=#[rfl,Oy,λ_ h=>nomatch h]
def FigD.len {L:HN Wd}{U:HN (T×W)}{fs:HN Wd}(h:FigD L U fs):U.length=fs.length/\fs.length<=L.length:=by
 have:=congrArg Ro h.keys;rw[HQ,HQ]at this;exact#[this,iZ fs L h.nd h.mem]
def FigD.put {L:HN Wd}{U:HN (T×W)}{fs:HN Wd}{f:Wd}{v:W}(h:FigD L U fs)(hf:f∈L):∃fs',FigD L (eg U (bS f) v) fs':=by
 by_cases hm:f∈fs
 ·refine#[fs,?_,h.nd,h.mem];rw[lT,IF (by rw[h.keys]; exact Iy.mpr #[f,hm,rfl]),h.keys]
 ·refine#[fs++[f],?_,?_,λg hg=>?_]
  ·rw[lT,IP,h.keys,II]
   ·rfl
   ·rw[h.keys];intro z;obtain⟨g,hg,e⟩:=Iy.mp z;exact hm (ip e ▸ hg)
  ·rw[J9];refine#[h.nd,by simp,λa ha b hb e=>?_]
   rw[Ik.mp hb]at e;exact hm (e ▸ ha)
  ·rcases IY.mp hg with h'|h'
   ·exact h.mem g h'
   ·rw[Ik.mp h']; exact hf
def FigD.items {S:aa}{t:HZ}{L:HN Wd}{U:HN (T×W)}{fs:HN Wd}(h:FigD L U fs)(e:S[t]?=ba (.dic U)):dG S (.ref t)=ba (fs.map aA):=by
 simp only[dG,nu e,cR e,Ja];congr 1;have:(U.map (·.1)).map T.w=(fs.map bS).map T.w:=by rw[h.keys]
 rw[JQ,JQ]at this
 calc U.map (λp=>p.1.w)=U.map (T.w∘λx=>x.1):=rfl
  _=fs.map (T.w∘bS):=this
  _=fs.map aA:=by
   refine JM λf _=>?_
   exact xP f
def pJ {a:HZ}{bs:HN Ip}{f:Wd}(h:f∈aJ a bs):f≠[]:=by
 unfold aJ at h;rw[Pa]at h;obtain⟨u,_,rfl⟩:=Iy.mp h;exact AI bs u
def Fs {S:aa}{t:HZ}{U:HN (T×W)}{u:Wd}{v:W}(h:S[t]?=ba (.dic U))(hl:U.length < sizeLine):gW (.ref t) (aA u) v S=ba (S.set t (.dic (eg U (bS u) v))):=by
 have hk:=Dl u;unfold aA at hk ⊢;simp only[gW,mN,h,hk];rw[IF hl]
structure RuleAt (a:HZ)(bs:HN Ip)(ms ns:HN IH)(gs:HN Wd):Prop where
 size:SizeOk a bs
 ml:ms.length=a
 nl:ns.length=bs.length
 nm:GoodN ms ns
 nd:gs.Nodup
 mem:∀g∈gs,g∈aJ a bs
abbrev dN (w:W):Prop:=∃a bs ms ns gs,w=dq ms ns bs (cy gs)/\RuleAt a bs ms ns gs
section
variable{M:IH->FF}{fuel:HZ}{Z:Fm}{S:aa}{K:Fm->aa->Prop}{Q:QO}
def iq {i0:HZ}{e:E}{b:Ss}(oe:da e=true)(ok:fZ b=true)(he:wE M e Z S λp=>∃(j:Ip) (I:HZ->Fm->aa->Prop),p.1=.int j/\(-(2 ^ 62)<=j/\j < 2 ^ 62)/\I 0 Z p.2/\
  (∀(i:HZ) (Z:Fm) (S:aa),(i:Ip) < j->I i Z S->u7 M fuel b (Z.set i0 (ba (.int i))) S (I (i+1)) Q)/\∀Z S,I j.toNat Z S->K Z S):Wp (fw M fuel (.loop (.nm i0) (.rng #v[e]) b) Z S) (qo K Q):=by
 obtain⟨w,S1,e1,j,I,rfl,hj,h0,hs,hend⟩:=bo oe he;have hl:(cJ 0 j.toNat).length=j.toNat:=by simp[cJ]
 refine gG (mi:=.its (cJ 0 j.toNat)) (S1:=S1) (xs:=cJ 0 j.toNat) I ok ?_ (λ_ _ _ _=>rfl) rfl h0 (λi w Z S hw hI=>?_) λZ S hI=>hend Z S (hl ▸ hI)
 ·simp only[iR,cG,dj,g9,qX,e1];rw[IF hj]
 ·rw[dH]at hw;split at hw
  ·rename_i hk;cases hw;rw[M7];exact hs i Z S ∅ hI
  ·cases hw
def iu {tg:Tg}{e:E}{b:Ss}(oe:da e=true)(ok:fZ b=true)(he:wE M e Z S λp=>∃(t:HZ) (xs:HN W) (I:HZ->Fm->aa->Prop),p.1=.ref t/\I 0 Z p.2/\(∀i Z S,I i Z S->S[t]?=ba (.lst xs))/\
  (∀(i:HZ) (w:W) (Z:Fm) (S:aa),xs[i]?=ba w->I i Z S->wO (eZ tg w Z S) λq=>u7 M fuel b q.1 q.2 (I (i+1)) Q)/\∀Z S,I xs.length Z S->K Z S):Wp (fw M fuel (.loop tg (.seq e) b) Z S) (qo K Q):=by
 obtain⟨w,S1,e1,t,xs,I,rfl,h0,hat,hs,hend⟩:=bo oe he;exact gG (mi:=.live t) (S1:=S1) I ok (by simp only[iR,dX,e1,ar (hat _ _ _ h0)]) (λi Z S h=>by simp only[MI.at,ar (hat _ _ _ h)]) (by simp only[MI.len,ar (hat _ _ _ h0),Ja]) h0 hs hend
end
section
variable{defs:HN (IH×Df)}{fuel d:HZ}{S:aa}{r:HZ}{Q:QW}
def ya {q:HZ}{a:HZ}{bs:HN Ip}{ms ns:HN IH}{fs0:HN Wd}{U:HN (T×W)}{fs:HN Wd}(h3:S[q]?=ba (.dic U))(h4:FigD (aJ a bs) U fs)(hs:SizeOk a bs)(hml:ms.length=a)(hnl:ns.length=bs.length)(hnm:GoodN ms ns)(k:∀w S',dN w->Ka S S'->Q (w,S')) :
  wO (lu (dq ms ns bs fs0) (.int 0) S) λp=>wO (lu (dq ms ns bs fs0) (.int 1) p.2) λq'=>wO (Bi.sorted.fn [.ref q] q'.2) λs=>wO (Bi.tuple.fn [s.1] s.2) λz=>Q (.tup [p.1,q'.1,z.1],z.2):=by
 refine ak #v[] rfl (ak #v[] rfl ?_)
 have hl:=h4.len;exact xW (h4.items h3) (by have:=nC hs; omega) (λf hf=>pJ (h4.mem f hf)) (cx af (k _ _ #[a,bs,ms,ns,fs,rfl,hs,hml,hnl,hnm,h4.nd,h4.mem] .push))
def yb {q:HZ}{a:HZ}{bs:HN Ip}{u:Wd}{U:HN (T×W)}{fs:HN Wd}{Q:aa->Prop}(h3:S[q]?=ba (.dic U))(h4:FigD (aJ a bs) U fs)(hs:SizeOk a bs)(hu:GoodW a bs.length u)(hu3:u.length=3)
  (k:∀o,(∃U fs,(S.set q o)[q]?=ba (.dic U)/\FigD (aJ a bs) U fs)->Q (S.set q o)):wO (gW (.ref q) (aA (jo bs u)) (.bl true) S) Q:=by
 have hl:=h4.len;have:=nC hs;obtain⟨fs',h5⟩:=h4.put (v:=.bl true) (sY hu hu3);exact ac (Fs h3 (by rw[Jq]; omega)) (k _ #[_,fs',br h3,h5])
def rA (hfu:20 < fuel)(G:Gen defs)(hf:Fl S r)(k:∀w S',dN w->Fl S' r->Kp r S S'->Q (w,S')):wO (aV (am defs fuel (d+6)) "_law_any_rule" 1 [.ref r] S) Q:=by
 refine ay G.any_rule rfl rfl λQ' hR=>?_
 replace k:∀w S',dN w->Fl S' r->Kp r S S'->Q' (.rt w,S'):=λz S' a b c=>hR _ _ (k z S' a b c)
 clear hR;show wZ _ _ cw [ba (.ref r),gV,gV,gV,gV,gV] S Q';dsimp only[cw];nofun
 left;refine nA (d:=d+3) G hf λa n S1 a1 a3 n1 n3 an f1 k1=>?_
 dsimp only[wU];refine ac (show cN [1,2] [.int a,.int n] [ba (.ref r),gV,gV,gV,gV,gV]=ba [ba (.ref r),ba (.int a),ba (.int n),gV,gV,gV]from rfl) (hK _ _ ?_)
 clear hK K;nofun
 left;refine nB (d:=d+3) G f1 n1 n3 λbs S2 hb hbl f2 k2=>?_
 have hsz:SizeOk a bs:=#[∅,hb,by rw[hbl]; exact an,a3]
 refine eR (d:=d) hfu G f2 a3 ∅ λms ns S3 hml hnl hnm f3 k3=>hK _ _ ?_
 clear hK K;have hrt:=f3.lt;replace k3:Kp r S S3:=k1.trans (k2.trans k3);clear k1 k2 f1 f2;refine st ?_;dsimp only[wS,wE,Iq];nofun
 refine iq rfl rfl ?_;dsimp only[wE,wA,wV,wG];refine aI (d:=d+4) G.pick (f3.ka .push) #v[] #v[] λv S4 v0 v9 f4 k4=>?_
 refine#[v,λk Z S'=>(∃a5,Z=[ba (.ref r),ba (.int a),ba (.int n),ba (dq ms ns bs []),ba (.ref S3.length),a5])/\(∃U fs,S'[S3.length]?=ba (.dic U)/\FigD (aJ a bs) U fs)/\Fl S' r/\Kp r S S',rfl,∅,#[#[gV,rfl],#[[],[],k4.get _ _ ∅ af,.nil],f4,(k3.trans .push).trans k4],?_,?_]
 ·rintro i Z S5 hi ⟨⟨a5,rfl⟩,⟨U,fs,e5,hd⟩,f5,k5⟩ Q2 hn _;clear hK;refine st ?_;left;refine io (d:=d+3) G f5 ∅ a3 ∅ n3 λu S6 hu3 hu f6 k6=>?_
  have hu:GoodW a bs.length u:=hbl.symm ▸ hu;refine im (d:=d+2) G hb hnl hu hu3 λS7 k7=>?_
  have e7:=k7.get _ _ (k6.get _ _ ∅ e5)
  exact yb e7 hd hsz hu hu3 λo ho=>ci (hn _ _ #[#[_,rfl],ho,(f6.ka k7).own hrt,((k5.trans k6).trans (k7.kp r)).late k3.len])
 ·rintro Z S5 ⟨⟨a5,rfl⟩,⟨U,fs,e5,hd⟩,f5,k5⟩;refine hK _ _ (st ?_);left;exact ya (Q:=λp=>Q' (.rt p.1,p.2)) e5 hd hsz hml hnl hnm λw S6 hw k6=>k w S6 hw (f5.ka k6) (k5.trans (k6.kp r))
end
abbrev nD (t:Ip×Ip×Ip):W:=.tup [.int t.1,.int t.2.1,.int t.2.2]
abbrev pK (a:HZ)(t:Ip×Ip×Ip):Prop:=(0<=t.1/\t.1 < a)/\(0<=t.2.1/\t.2.1 < a)/\(0<=t.2.2/\t.2.2 < a)
abbrev yc (k:Ip):Wd:=[(k,[]),(k,[0]),(k,[0,0])]
def G8:∀k∈kS 1,yc k∈aJ 1 [0]:=by decide +kernel
def G9:∀k∈kS 2,yc k∈aJ 2 [0]:=by decide +kernel
def Ha:∀k∈kS 3,yc k∈aJ 3 [0]:=by decide +kernel
def AK {a:HZ}{k:Ip}(h0:1<=a)(h3:a<=3)(hk:0<=k)(hk2:k < a):yc k∈aJ a [0]:=by
 have ha:a=1\/a=2\/a=3:=∅
 rcases ha with rfl|rfl|rfl
 ·exact G8 k (cz hk hk2)
 ·exact G9 k (cz hk hk2)
 ·exact Ha k (cz hk hk2)
def AL {a b:Ip}(h:yc a=yc b):a=b:=by
 unfold yc at h;injection h with h1 h2
 injection h1
def nE:GoodB [0]:=.inl rfl
def Ft {S:aa}{i j:HZ}{xs:HN W}(h1:S[i]?=ba (.lst xs))(h2:S[j]?=ba (.lst [])):cr .eq (.ref i) (.ref j) S=ba (.bl xs.isEmpty,S):=by
 show(iH S (19+1) (.ref i) (.ref j)).map _=_;simp only[iH,bZ h1,bZ h2];cases xs with
 | nil=>rfl
 | cons x xs=>rfl
def AM {S:aa}{f:Ip}{ws:HN Ip}:∃b,cr .notin (.int f) (.tup (ag ws)) S=ba (.bl b,S):=by
 have hf:(bz (.int f)&&(ag ws).all bz)=true:=by
  simp only[bz,MN,IG];intro x hx;obtain⟨z,_,rfl⟩:=Iy.mp hx;rfl
 refine#[!(ag ws).any λz=>yK z (.int f),?_]
 show fT .notin (.int f) (.tup (ag ws)) S=_;simp only[fT,Bl,zC,dR,hf,Kd,Ja]
section
variable{M:IH->FF}{fuel:HZ}{Z:Fm}{S:aa}{K:Fm->aa->Prop}{Q:QO}
def pL {i0:HZ}{a b:E}{bd:Ss}(i j:Ip)(I:HZ->Fm->aa->Prop)(oa:da a=true)(ob:da b=true)(ok:fZ bd=true)(hj : -(2 ^ 62)<=i/\i < 2 ^ 62/\-(2 ^ 62)<=j/\j < 2 ^ 62)(he:wE M a Z S λp=>p.1=.int i/\wE M b Z p.2 λq=>q.1=.int j/\I 0 Z q.2)
  (hstep:∀(k:HZ) (Z:Fm) (S:aa),(k:Ip) < j - i->I k Z S->u7 M fuel bd (Z.set i0 (ba (.int (i+k)))) S (I (k+1)) Q) (hend:∀Z S,I (j - i).toNat Z S->K Z S):Wp (fw M fuel (.loop (.nm i0) (.rng2 #v[a,b]) bd) Z S) (qo K Q):=by
 obtain⟨w,S1,e1,rfl,h1⟩:=bo oa he;obtain⟨w,S2,e2,rfl,h0⟩:=bo ob h1;have hl:(cJ i (j - i).toNat).length=(j - i).toNat:=by simp[cJ]
 refine gG (mi:=.its (cJ i (j - i).toNat)) (S1:=S2) (xs:=cJ i (j - i).toNat) I ok ?_ (λ_ _ _ _=>rfl) rfl h0 (λk w Z S hw hI=>?_) λZ S hI=>hend Z S (hl ▸ hI)
 ·simp only[iR,cG,dj,g9,iRng2,e1,e2];rw[IF hj]
 ·rw[dH]at hw;split at hw
  ·rename_i hk;cases hw;exact hstep k Z S ∅ hI
  ·cases hw
def yd {elt a b:E}{i0:HZ}{cs:Es}{cap:HN (HY HZ)}{Q:QW}(i j:Ip)(I:HZ->HN W->Fm->aa->Prop)(oa:da a=true)(ob:da b=true)(oe:da elt=true)(oc:lO cs=true)(hj : -(2 ^ 62)<=i/\i < 2 ^ 62/\-(2 ^ 62)<=j/\j < 2 ^ 62)(he:wE M a Z S λp=>p.1=.int i/\wE M b Z p.2 λq=>q.1=.int j/\I 0 [] (eh cap Z) q.2)
  (hstep:∀(k:HZ) (ys:HN W) (Z:Fm) (S:aa),(k:Ip) < j - i->I k ys Z S->eX M elt cs (Z.set i0 (ba (.int (i+k)))) S (λy=>I (k+1) (ys++[y])) (I (k+1) ys))
  (hend:∀ys Z S,I (j - i).toNat ys Z S->ys.length<=sizeLine/\Q (.ref S.length,S++[.lst ys])):Wp (az M (.comp elt (.nm i0) (.rng2 #v[a,b]) cs cap) Z S) Q:=by
 obtain⟨w,S1,e1,rfl,h1⟩:=bo oa he;obtain⟨w,S2,e2,rfl,h0⟩:=bo ob h1;have hl:(cJ i (j - i).toNat).length=(j - i).toNat:=by simp[cJ]
 refine iX (mi:=.its (cJ i (j - i).toNat)) (S1:=S2) (xs:=cJ i (j - i).toNat) I oe oc ?_ (λ_ _ _ _ _=>rfl) rfl h0 (λk w ys Z S hw hI=>?_) λys Z S hI=>hend ys Z S (hl ▸ hI)
 ·simp only[iR,cG,dj,g9,iRng2,e1,e2];rw[IF hj]
 ·rw[dH]at hw;split at hw
  ·rename_i hk;cases hw;exact hstep k ys Z S ∅ hI
  ·cases hw
end
section
variable{defs:HN (IH×Df)}{fuel d:HZ}{S:aa}{r:HZ}{Q:QW}
def ye (G:Gen defs){a:HZ}(ha:a<=3)(k:∀(q:HZ) (ts:HN (Ip×Ip×Ip)) (S':aa),S'[q]?=ba (.lst (ts.map nD))->(∀t∈ts,pK a t)->S.length<=q->Ka S S'->Q (.ref q,S')) :
  wO (aV (am defs fuel (d+1)) "_law_rising" 1 [.int a] S) Q:=by
 refine ay G.rising rfl rfl λQ' hR=>?_
 replace k:∀(q:HZ) (ts:HN (Ip×Ip×Ip)) (S':aa),S'[q]?=ba (.lst (ts.map nD))->(∀t∈ts,pK a t)->S.length<=q->Ka S S'->Q' (.rt (.ref q),S'):=λq ts S' a b c e=>hR _ _ (k q ts S' a b c e)
 clear hR;show wZ _ _ dz [ba (.int a),gV,gV,gV] S Q';dsimp only[dz];refine st ?_;dsimp only[wS,wE,wA,Iq];nofun
 refine dY (a:Ip) (λi Z S'=>∃(q:HZ) (ts:HN (Ip×Ip×Ip)) (a2 a3:HY W),Z=[ba (.int a),ba (.ref q),a2,a3]/\S'[q]?=ba (.lst (ts.map nD))/\(∀t∈ts,pK a t)/\S.length<=q/\ts.length<=9*i/\Ka S S') rfl rfl ∅ #[rfl,_,[],_,_,rfl,af,λ_ h=>(nomatch h),Ih _,JS _,.push] ?_ ?_
 ·rintro i Z S1 hi ⟨q,ts,a2,a3,rfl,e1,ht,hq,hl,k1⟩ Q2 hn _;clear hK k;nofun
  refine pL (i:Ip) (a:Ip) (λj Z S'=>∃(q:HZ) (ts:HN (Ip×Ip×Ip)) (a3:HY W),Z=[ba (.int a),ba (.ref q),ba (.int i),a3]/\S'[q]?=ba (.lst (ts.map nD))/\(∀t∈ts,pK a t)/\S.length<=q/\ts.length<=9*i+3*j/\Ka S S') rfl rfl rfl ∅ #[rfl,rfl,q,ts,a3,rfl,e1,ht,hq,∅,k1] ?_ ?_
  ·rintro j Z S2 hj ⟨q,ts,a3,rfl,e2,ht,hq,hl,k2⟩ Q3 hn3 _;clear hK hn;refine st ?_;dsimp only[wS,wE,wV,wG,Iq];refine yd ((i:Ip)+j) (a:Ip) (λm ys Z2 S3=>(∃a1,Z2=[gV,a1,ba (.int i),ba (.int ((i:Ip)+j))])/\(∃us:HN (Ip×Ip×Ip),ys=us.map nD/\us.length=m/\∀t∈us,pK a t)/\S3=S2) rfl rfl rfl rfl ∅ #[rfl,rfl,#[gV,rfl],#[[],rfl,rfl,λ_ h=>nomatch h],rfl] ?_ ?_
   ·rintro m ys Z2 S3 hm ⟨⟨a1,rfl⟩,⟨us,rfl,hul,hu⟩,rfl⟩;refine#[λ_=>#[#[_,rfl],#[us++[((i:Ip),(i:Ip)+j,(i:Ip)+j+m)],by rw[II]; rfl,by rw[Io,hul]; rfl,λt h=>?_],rfl],λz=>by cases z]
    rcases IY.mp h with h|h
    ·exact hu t h
    ·rw[Ik.mp h];exact#[#[∅,∅],#[by dsimp only; omega,by dsimp only; omega],#[by dsimp only; omega,by dsimp only; omega]]
   ·rintro ys Z2 S3 ⟨_,⟨us,rfl,hul,hu⟩,rfl⟩;refine#[iE (by rw[HQ]; omega),ac (xD (al e2) af ?_) (ci (hn3 _ _ #[_,ts++us,_,rfl,?_,λt h=>(IY.mp h).elim (ht t) (hu t),?_,?_,k2.trans (Ka.push.trans .push)]))]
    ·refine iE ?_;rw[Io,HQ,HQ];omega
    ·rw[II]; exact af
    ·have:=k2.len;simp only[Io]; omega
    ·rw[Io]; omega
  ·rintro Z S2 ⟨q,ts,a3,rfl,e2,ht,hq,hl,k2⟩;exact hK _ _ (ci (hn _ _ #[q,ts,_,_,rfl,e2,ht,hq,∅,k2]))
 ·rintro Z S1 ⟨q,ts,a2,a3,rfl,e1,ht,hq,hl,k1⟩;refine hK _ _ (st ?_);exact k q ts S1 e1 ht hq k1
def uR (hfu:20 < fuel)(G:Gen defs)(hf:Fl S r)(k:∀w S',dN w->Fl S' r->Kp r S S'->Q (w,S')):wO (aV (am defs fuel (d+6)) "_law_one_way_rule" 1 [.ref r] S) Q:=by
 refine ay G.one_way_rule rfl rfl λQ' hR=>?_
 replace k:∀w S',dN w->Fl S' r->Kp r S S'->Q' (.rt w,S'):=λz S' a b c=>hR _ _ (k z S' a b c)
 clear hR;show wZ _ _ bu [ba (.ref r),gV,gV] S Q';dsimp only[bu];nofun
 left;refine aI (d:=d+4) G.pick hf #v[] #v[] λv S1 v0 v3 f1 k1=>?_
 dsimp only[cg,aD];obtain⟨a,ea⟩ : ∃a:HZ,1+v=a:=#[(1+v).toNat,∅]
 rw[ea];refine hK _ _ ?_;clear hK K;nofun
 dsimp only[wS,wE,Iq];refine dv (a:Ip) (λk zs Z2 S2=>(∃a1,Z2=[gV,a1,ba (.ref r)])/\(∃ks:HN Ip,zs=(ks.map yc).map aA/\ks.Pairwise (·≠·)/\ks.length<=k/\∀x∈ks,0<=x/\x < k)/\Fl S2 r/\Kp r S1 S2) rfl rfl rfl ∅ #[rfl,#[gV,rfl],#[[],rfl,.nil,Ih _,λ_ h=>(nomatch h)],f1,.refl] ?_ ?_
 ·rintro i zs Z2 S2 hi ⟨⟨a1,rfl⟩,⟨ks,rfl,hkp,hkl,hks⟩,f2,k2⟩;clear hK k;dsimp only[eX,wC,wT,wE,wA,wV,wG,Iq];refine aI (d:=d+4) G.pick f2 #v[] #v[] λv S3 _ _ f3 k3=>?_
  dsimp only[fD,aD,wB];refine#[λ_=>#[#[_,rfl],#[ks++[(i:Ip)],by simp[yc,aA,bJ],?_,by rw[Io]; exact MH hkl,λx hx=>?_],f3,k2.trans k3],λ_=>#[#[_,rfl],#[ks,rfl,hkp,∅,λx hx=>#[(hks x hx).1,by have:=(hks x hx).2; omega]],f3,k2.trans k3]]
  ·rw[Li];refine#[hkp,by simp,λx hx y hy e=>?_]
   have:=(hks x hx).2;rw[Ik.mp hy]at e;omega
  ·rcases IY.mp hx with h|h
   ·exact#[(hks x h).1,by have:=(hks x h).2; omega]
   ·rw[Ik.mp h]; omega
 ·rintro zs Z2 S2 ⟨_,⟨ks,rfl,hkp,hkl,hks⟩,f2,k2⟩;rw[IB]at hkl hks;refine#[iE (by rw[HQ,HQ]; omega),hK _ _ (st ?_)]
  clear hK K;left;have hlt:=f2.lt;refine lS (d:=d) (a:=a) (bs:=[0]) (us:=ks.map yc) hfu G (f2.ka .push) ∅ #v[] (λS' kk=>?_) (by rw[HQ]; omega) (λu hu=>by obtain⟨x,_,rfl⟩:=Iy.mp hu; exact P5 _ _) λms ns S3 hml hnl hnm f3 k3=>?_
  ·simp only[dG,ar (kk.get _ _ ∅ af)]
  refine k _ _ #[a,[0],ms,ns,ks.map yc,rfl,#[#[∅,nE,by simp; omega,∅],hml,hnl,hnm,?_,λg hg=>?_]] f3 (k1.trans (k2.trans (Kp.push.trans k3)))
  ·unfold RO;rw[KQ];exact hkp.imp λh e=>h (AL e)
  ·obtain⟨x,hx,rfl⟩:=Iy.mp hg;exact AK ∅ ∅ (hks x hx).1 (hks x hx).2
def pM (hfu:20 < fuel)(G:Gen defs)(hf:Fl S r)(k:∀w S',dN w->Fl S' r->Kp r S S'->Q (w,S')):wO (aV (am defs fuel (d+6)) "_law_free_rule" 1 [.ref r] S) Q:=by
 refine ay G.free_rule rfl rfl λQ' hR=>?_
 replace k:∀w S',dN w->Fl S' r->Kp r S S'->Q' (.rt w,S'):=λz S' a b c=>hR _ _ (k z S' a b c)
 clear hR;show wZ _ _ b6 [ba (.ref r),gV,gV,gV,gV,gV,gV,gV,gV] S Q';dsimp only[b6];nofun
 left;refine nA (d:=d+3) G hf λa n S1 a1 a3 n1 n3 an f1 k1=>?_
 dsimp only[wU];refine ac (show cN [1,2] [.int a,.int n] [ba (.ref r),gV,gV,gV,gV,gV,gV,gV,gV]=ba [ba (.ref r),ba (.int a),ba (.int n),gV,gV,gV,gV,gV,gV]from rfl) (hK _ _ ?_)
 clear hK K;nofun
 left;refine nB (d:=d+3) G f1 n1 n3 λbs S2 hb hbl f2 k2=>?_
 have hsz:SizeOk a bs:=#[∅,hb,by rw[hbl]; exact an,a3]
 refine eR (d:=d) hfu G f2 a3 ∅ λms ns S3 hml hnl hnm f3 k3=>hK _ _ ?_
 clear hK K;have hrt:=f3.lt;replace k3:Kp r S S3:=k1.trans (k2.trans k3);clear k1 k2 f1 f2;nofun
 dsimp only[wS,wE,Iq];refine dv (n:Ip) (λi zs Z2 S2=>(∃a1,Z2=[gV,a1,ba (dq ms ns bs [])])/\(∃ks:HN Ip,zs=ag ks/\ks.length<=i)/\S2=S3) rfl rfl rfl ∅ #[rfl,#[gV,rfl],#[[],rfl,Ih _],rfl] ?_ ?_
 ·rintro i zs Z2 S2 hi ⟨⟨a1,rfl⟩,⟨ks,rfl,hkl⟩,rfl⟩;clear hK k;have hi':i < bs.length:=∅
  dsimp only[eX,wC,wT,wE,wA,wV,wG,Iq];refine ak #v[] rfl (ak (IT i) (by rw[IB]; exact ny (Ig ∅) (Ig hi')) (ak #v[] rfl ?_))
  dsimp only[fD,aD,wB];exact#[λ_=>#[#[_,rfl],#[ks++[(i:Ip)],by unfold ag; rw[II]; rfl,by rw[Io]; exact MH hkl],rfl],λ_=>#[#[_,rfl],#[ks,rfl,∅],rfl]]
 ·rintro zs Z2 S2 ⟨_,⟨ks,rfl,hkl⟩,rfl⟩;rw[IB]at hkl;have il:(ag ks).length=ks.length:=HQ ..;refine#[iE ∅,hK _ _ ?_]
  clear hK K;nofun
  dsimp only[wS,wT,wE,wA,wV,wG,Iq];refine ac (Ft (al af) af) ?_;dsimp only[wB];have f4:=(f3.ka (Ka.push (o:=O.lst (ag ks)))).ka (Ka.push (o:=O.lst []));have k4:=k3.trans ((Kp.push (o:=O.lst (ag ks))).trans (Kp.push (o:=O.lst [])));have e4:=al (u:=O.lst []) (af (S:=S2) (o:=O.lst (ag ks)));have hl4:S2.length < (S2++[O.lst (ag ks)]++[O.lst []]).length:=by simp
  generalize hS4:S2++[O.lst (ag ks)]++[O.lst []]=S4 at f4 k4 e4 hl4;clear hS4;have ret:∀Q2:QO,(∀w S',Q' (.rt w,S')->Q2 (.rt w,S'))->wZ (am defs fuel (d+5)) fuel #v[.ret (.v 3)] [ba (.ref r),ba (.int a),ba (.int n),ba (dq ms ns bs []),gV,ba (.ref S2.length),gV,gV,gV] S4 Q2:=λQ2 hr=>st (hr _ _ (k _ _ #[a,bs,ms,ns,[],rfl,hsz,hml,hnl,hnm,.nil,λ_ h=>(nomatch h)] f4 k4))
  refine#[λ_=>aC (Q0:=Q') (λ_ Q2 _ hr=>ret Q2 hr) (λz=>by cases z),λhne=>?_]
  dsimp only[fD,aD,wB];refine aC (Q0:=Q') (λ_ Q2 _ hr=>ret Q2 hr) (λ_ Q2 hn _=>ci (hn _ _ (hK _ _ ?_)))
  clear hK ret hn;have hk0:0 < ks.length:=by
   cases ks with
   | nil=>cases hne
   | cons x ks=>exact Nat.succ_pos _
  nofun
  left;refine fF e4 ?_;rw[il];refine aI (d:=d+4) G.pick f4 ∅ ∅ λv S5 v0 v1 f5 k5=>?_
  have e5:=k5.get _ _ ∅ e4
  obtain⟨x,_,ex⟩:=ko (f:=W.int) (xs:=ks) (i:=v.toNat) ∅
  refine ig e5 v0 ex (hK _ _ ?_);clear hK K;replace k5:Kp r S S5:=k4.trans k5;have hrt5:=f5.lt;refine st ?_;dsimp only[wS,wE,Iq];nofun
  refine iq rfl rfl ?_;dsimp only[wE,wA,wV,wG];refine aI (d:=d+4) G.pick (f5.ka .push) #v[] #v[] λv S6 v0 v9 f6 k6=>?_
  refine#[v,λ_ Z S'=>(∃a4 a8,Z=[ba (.ref r),ba (.int a),ba (.int n),ba (dq ms ns bs []),a4,ba (.ref S2.length),ba (.int x),ba (.ref S5.length),a8])/\(∃U fs,S'[S5.length]?=ba (.dic U)/\FigD (aJ a bs) U fs)/\Fl S' r/\Kp r S S',rfl,∅,#[#[gV,gV,rfl],#[[],[],k6.get _ _ ∅ af,.nil],f6,(k5.trans .push).trans k6],?_,?_]
  ·rintro i Z S7 hi ⟨⟨a4,a8,rfl⟩,⟨U,fs,e7,hd⟩,f7,k7⟩ Q2 hn _;clear hK k;refine st ?_;left;refine io (d:=d+3) G f7 ∅ a3 ∅ n3 λu S8 hu3 hu f8 k8=>?_
   have hu:GoodW a bs.length u:=hbl.symm ▸ hu;have e8:=k8.get _ _ ∅ e7
   obtain⟨p0,p1,p2,rfl⟩ : ∃p0 p1 p2,u=[p0,p1,p2]:=by
    match u,hu3 with
    | [p0,p1,p2],_=>exact#[p0,p1,p2,rfl]
   have l1:=hu.len 1 p1 rfl;obtain⟨m1,ws1⟩:=p1;obtain⟨w1,rfl⟩ : ∃w1,ws1=[w1]:=by
    match ws1,l1 with
    | [w1],_=>exact#[w1,rfl]
   obtain⟨b,hb2⟩:=AM (S:=S8) (f:=x) (ws:=p2.2);have kk:=k7.trans k8;nofun
   dsimp only[wS,wT,wE,wA,wV,wG];refine ak #v[] rfl (ak #v[] rfl (ak #v[] rfl ?_))
   dsimp only[GY,aD,wB];have skip:K [ba (.ref r),ba (.int a),ba (.int n),ba (dq ms ns bs []),ba (.int i),ba (.ref S2.length),ba (.int x),ba (.ref S5.length),ba (aA [p0,(m1,[w1]),p2])] S8:=hK _ _ (ci (hn _ _ #[#[_,_,rfl],#[U,fs,e8,hd],f8,kk]));refine#[λ_=>?_,λ_=>aC (Q0:=Q2) (λz=>by cases z) λ_ Q3 hn3 _=>ci (hn3 _ _ skip)]
   refine ak #v[] rfl (ak #v[] rfl (ac hb2 ?_))
   dsimp only[wB];refine aC (Q0:=Q2) (λ_ Q3 hn3 _=>?_) λ_ Q3 hn3 _=>ci (hn3 _ _ skip)
   clear skip;refine st ?_;left;refine im (d:=d+2) G hb hnl hu hu3 λS9 k9=>?_
   exact yb (k9.get _ _ e8) hd hsz hu hu3 λo ho=>ci (hn3 _ _ (hK _ _ (ci (hn _ _ #[#[_,_,rfl],ho,(f8.ka k9).own hrt5,(kk.trans (k9.kp r)).late k5.len]))))
  ·rintro Z S7 ⟨⟨a4,a8,rfl⟩,⟨U,fs,e7,hd⟩,f7,k7⟩;refine hK _ _ (st ?_);left;exact ya (Q:=λp=>Q' (.rt p.1,p.2)) e7 hd hsz hml hnl hnm λw S8 hw k8=>k w S8 hw (f7.ka k8) (k7.trans (k8.kp r))
end
abbrev bq (u v:Ip):T:=.tup [.int u,.int v]
abbrev db (u v:Ip):W:=.tup [.int u,.int v]
def iw {u v:Ip}:fW (db u v)=ba (bq u v):=rfl
def yf {U:HN (T×W)}{k:T}{v:W}{p:T×W}(h:p∈eg U k v):p∈U\/p=(k,v):=by
 unfold eg at h;split at h
 ·obtain⟨q,hq,rfl⟩:=Iy.mp h;split
  ·rename_i e; exact .inr (by rw[e])
  ·exact .inl hq
 ·rcases IY.mp h with h|h
  ·exact .inl h
  ·exact .inr (Ik.mp h)
def pN {U:HN (T×W)}{k:T}{v:W}(h:b8 U k=ba v):(k,v)∈U:=by
 unfold b8 at h;rw[HU]at h;obtain⟨p,h1,rfl⟩:=h;have:=Oa h1;rw[<- Je this];exact List.mem_of_find?_eq_some h1
def AN {U:HN (T×W)}{p:T×W}(h:p∈U):∃v,b8 U p.1=ba v:=by
 unfold b8;cases e:U.find? λq=>decide (q.1=p.1)with
 | some q=>exact#[q.2,rfl]
 | none=>exact absurd (List.find?_eq_none.mp e p h) (by simp)
abbrev MustE (S:aa)(n b:HZ)(U:HN (T×W)):Prop:=∀p∈U,∃(u v:Ip) (l:HZ) (ws:HN Ip),p=(bq u v,W.ref l)/\(0<=u/\u < n)/\(0<=v/\v < n)/\b<=l/\S[l]?=ba (.lst (ag ws))/\ws.length<=3/\∀w∈ws,0<=w/\w < (n:Ip)
def MustE.mono {S S':aa}{n b:HZ}{U:HN (T×W)}(h:MustE S n b U)(k:∀(l:HZ) (ws:HN Ip),b<=l->S[l]?=ba (.lst (ag ws))->S'[l]?=ba (.lst (ag ws))):MustE S' n b U:=λp hp=>
 let ⟨u,v,l,ws,h1,h2,h3,h4,h5,h6⟩:=h p hp
 #[u,v,l,ws,h1,h2,h3,h4,k l ws h4 h5,h6]
def MustE.ka {S S':aa}{n b:HZ}{U:HN (T×W)}(h:MustE S n b U)(k:Ka S S'):MustE S' n b U:=h.mono λl ws _ e=>k.get _ _ e
def MustE.kp {S S':aa}{n b r:HZ}{U:HN (T×W)}(h:MustE S n b U)(hr:r < b)(k:Kp r S S'):MustE S' n b U:=h.mono λl ws hl e=>k.get _ _ ∅ e
def MustE.set {S:aa}{n b t:HZ}{U k:HN (T×W)}{o:O}(h:MustE S n b U)(ht:S[t]?=ba (.dic k)):MustE (S.set t o) n b U:=h.mono λl ws hl e=>by
 rw[bw (by rintro rfl; rw[ht]at e; cases e)]; exact e
def MustE.put {S:aa}{n b:HZ}{U:HN (T×W)}{u v:Ip}{l:HZ}{ws:HN Ip}(h:MustE S n b U)(h2:0<=u/\u < n)(h3:0<=v/\v < n)(h4:b<=l)(h5:S[l]?=ba (.lst (ag ws)))(h6:ws.length<=3)(h7:∀w∈ws,0<=w/\w < (n:Ip)):MustE S n b (eg U (bq u v) (.ref l)):=λp hp=>by
 rcases yf hp with hp|rfl
 ·exact h p hp
 ·exact#[u,v,l,ws,rfl,h2,h3,h4,h5,h6,h7]
noncomputable abbrev AO:=Ip×Ip×HN Ip
abbrev pO (ws:HN Ip):Es:=ws.foldr (λw es=>.cons (.c (.int w)) es) .nil
abbrev sZ:HN AO->Es
 | []=>.nil
 | e::L=>.cons (.tup #v[.c (.int e.1),.c (.int e.2.1)]) (.cons (.lst (pO e.2.2)) (sZ L))
abbrev uS:HN AO->HZ->HN W
 | [],_=>[]
 | e::L,s=>db e.1 e.2.1::.ref s::uS L (s+1)
abbrev uT (L:HN AO):aa:=L.map λe=>O.lst (ag e.2.2)
abbrev tf (n:HZ)(e:AO):IN:=decide ((0<=e.1/\e.1 < n)/\(0<=e.2.1/\e.2.1 < n)/\e.2.2.length<=3)&&e.2.2.all λw=>decide (0<=w/\w < (n:Ip))
section
variable{M:IH->FF}{Z:Fm}
def rB {S:aa}:∀ {ws:HN Ip} {Q:HN W×aa->Prop},Q (ag ws,S)->wA M (pO ws) Z S Q
 | [],Q,q=>by show wA M .nil Z S Q; exact q
 | w::ws,Q,q=>by show wA M (.cons (.c (.int w)) (pO ws)) Z S Q; dsimp only[wA,wE]; exact rB q
def yg:∀ {L:HN AO} {S:aa} {Q:HN W×aa->Prop},Q (uS L S.length,S++uT L)->wA M (sZ L) Z S Q
 | [],S,Q,q=>by
  show wA M .nil Z S Q;dsimp only[wA]
  rwa [show S++uT []=S from JT S]at q
 | e::L,S,Q,q=>by
  show wA M (.cons (.tup #v[.c (.int e.1),.c (.int e.2.1)]) (.cons (.lst (pO e.2.2)) (sZ L))) Z S Q;dsimp only[wA,wE];refine rB (yg ?_);rw[Io,JO];exact q
end
def lU {S:aa}{n b:HZ}:∀(L:HN AO) (s:HZ) (U:HN (T×W)),MustE S n b U->b<=s->(∀e∈L,tf n e=true)->(∀i e,L[i]?=ba e->S[s+i]?=ba (.lst (ag e.2.2)))->∃U',de U (uS L s)=ba U'/\MustE S n b U'/\U'.length<=U.length+L.length
 | [],s,U,hm,hb,hL,hS=>#[U,by simp[uS,de],hm,by simp]
 | e::L,s,U,hm,hb,hL,hS=>by
  have h1:=hL e (by simp)
  unfold tf at h1;rw[HX,IG]at h1;obtain⟨h2,h3,h4⟩:=Je h1.1;obtain⟨U',k1,k2,k3⟩:=lU L (s+1) (eg U (bq e.1 e.2.1) (.ref s)) (hm.put h2 h3 hb (by have:=hS 0 e rfl; simpa using this) h4 (λw hw=>Je (h1.2 w hw))) ∅ (λx hx=>hL x (by simp[hx])) (λi x hx=>by have:=hS (i+1) x (by simpa using hx); rw[show s+1+i=s+(i+1) by omega]; exact this)
  refine#[U',?_,k2,?_]
  ·simp only[uS,de,iw]; exact k1
  ·have:=c7 U (bq e.1 e.2.1) (.ref s);rw[Ju]; omega
abbrev KB:HN (HN Ip):=[[1,0],[0,2,1],[0,1],[0,1,2]]
abbrev KindOk (S:aa)(b:HZ)(w:W):Prop:=∃(bs:HN Ip) (q:HZ) (U:HN (T×W)) (most:Ip),w=.tup [.tup (ag bs),.ref q,.int most]/\bs∈KB/\1<=most/\most<=3/\most*bs.length<=6/\S[q]?=ba (.dic U)/\b<=q/\U.length<=4/\MustE S bs.length b U
def KindOk.mono {S S':aa}{b:HZ}{w:W}(h:KindOk S b w)(k1:∀(l:HZ) (ws:HN Ip),b<=l->S[l]?=ba (.lst (ag ws))->S'[l]?=ba (.lst (ag ws)))(k2:∀(l:HZ) (U:HN (T×W)),b<=l->S[l]?=ba (.dic U)->S'[l]?=ba (.dic U)):KindOk S' b w:=
 let ⟨bs,q,U,most,h1,h2,h3,h4,h5,h6,h7,h8,h9⟩:=h
 #[bs,q,U,most,h1,h2,h3,h4,h5,k2 _ _ h7 h6,h7,h8,h9.mono k1]
def KindOk.ka {S S':aa}{b:HZ}{w:W}(h:KindOk S b w)(k:Ka S S'):KindOk S' b w:=h.mono (λl ws _ e=>k.get _ _ e) (λl ws _ e=>k.get _ _ e)
abbrev yh (bs:HN Ip)(L:HN AO)(most:Ip):E:=.tup #v[.tup (pO bs),.disp (sZ L),.c (.int most)]
section
variable{M:IH->FF}{Z:Fm}{S:aa}
def nF (bs:HN Ip)(L:HN AO)(most:Ip){b:HZ}{Q:QW}(hb:b<=S.length)(h1:bs∈KB)(h2:1<=most/\most<=3/\most*bs.length<=6)(hL:∀e∈L,tf bs.length e=true)(h4:L.length<=4)(k:∀w S',KindOk S' b w->Ka S S'->Q (w,S')) :
  wE M (yh bs L most) Z S Q:=by
 unfold yh;dsimp only[wE,wA];refine rB (yg ?_);obtain⟨U,k1,k2,k3⟩:=lU (S:=S++[O.dic []]++uT L) (n:=bs.length) (b:=b) L (S.length+1) [] (λ_ h=>nomatch h) ∅ hL (λi e he=>by
  rw[KZ (by simp),show S.length+1+i - (S++[O.dic []]).length=i by simp]
  simp[uT,he])
 have hat:(S++[O.dic []]++uT L)[S.length]?=ba (.dic []):=by
  rw[Jr (by simp)]; exact af
 refine#[hat,ac (show de [] (uS L (S++[O.dic []]).length)=ba U by rw[Io]; exact k1) (k _ _ #[bs,S.length,U,most,rfl,h1,h2.1,h2.2.1,h2.2.2,br hat,hb,?_,k2.set hat] #[λj o h=>?_,by simp])]
 ·simp only[KD]at k3; omega
 ·have:j < S.length:=dk h;show((S++[O.dic []]++uT L).set S.length (O.dic U))[j]?=ba o;rw[bw ∅,Jr (by simp; omega)]
  exact al h
structure Menu (S0 S:aa)(r t m:HZ):Prop where
 at_t:∃xs:HN W,S[t]?=ba (.lst xs)/\xs.length=m/\∀x∈xs,KindOk S S0.length x
 pos:0 < m
 iE:m<=9
 fl:Fl S r
 kp:Kp r S0 S
 lt:S0.length<=t
 rlt:r < S0.length
def pP {S0 S S':aa}{r t m:HZ}{w:W}(h:Menu S0 S r t m)(hw:KindOk S' S0.length w)(k:Ka S S')(hm:m < 9):∃xs,S'[t]?=ba (.lst xs)/\xs.length < sizeLine/\Menu S0 (S'.set t (.lst (xs++[w]))) r t (m+1):=by
 obtain⟨⟨xs,h1,h2,h3⟩,hp,hf,fl,kp,lt,rlt⟩:=h;have e:S'[t]?=ba (.lst xs):=k.get _ _ h1;have stay:∀x,KindOk S' S0.length x->KindOk (S'.set t (.lst (xs++[w]))) S0.length x:=λx hx=>hx.mono (λl ws hl el=>by
  by_cases hlt:t=l
  ·exfalso;subst hlt;rw[e]at el;injection el with el
   injection el with el
   match xs,h2,h3 with
   | [],h2,_=>simp at h2; omega
   | x::xs,_,h3=>
    obtain⟨bs,q,U,most,hx,_⟩:=h3 x (by simp)
    subst hx
    match ws with
    | []=>simp[ag]at el
    | w::ws=>simp[ag]at el
  ·rw[bw hlt]; exact el) (λl U hl el=>by
  rw[bw (by rintro rfl; rw[e]at el; cases el)]; exact el)
 refine#[xs,e,(by rw[Jq]; omega),#[xs++[w],br e,by simp; omega,λx hx=>?_],∅,∅,(fl.ka k).own ∅,(kp.trans (k.kp r)).late lt,lt,rlt]
 rcases IY.mp hx with hx|hx
 ·exact stay x ((h3 x hx).ka k)
 ·rw[Ik.mp hx]; exact stay w hw
def pQ (bs:HN Ip)(L:HN AO)(most:Ip){fuel:HZ}{S0:aa}{r t m:HZ}{x0:HY W}{K:Fm->aa->Prop}{Q:QO}(h:Menu S0 S r t m)(hm:m < 9)(h1:bs∈KB)(h2:1<=most/\most<=3/\most*bs.length<=6)(hL:∀e∈L,tf bs.length e=true)(h4:L.length<=4)(k:∀S',Menu S0 S' r t (m+1)->K [x0,ba (.ref t)] S') :
  wS M fuel (.ex (.me .append (.v 1) #v[yh bs L most])) [x0,ba (.ref t)] S K Q:=by
 left;obtain⟨xs,e1,e2,e3⟩:=h.at_t;refine#[dg e1,nF bs L most (IL h.lt (LY (dk e1))) h1 h2 hL h4 λw S' k1 k2=>?_]
 obtain⟨xs',f1,f2,f3⟩:=pP h k1 k2 hm;exact ac (sP f1 f2) (k _ f3)
def kU {defs:HN (IH×Df)}{fuel d:HZ}{r:HZ}{Q:QW}(G:Gen defs)(hf:Fl S r)(k:∀w S',KindOk S' S.length w->Fl S' r->Kp r S S'->Q (w,S')):wO (aV (am defs fuel (d+2)) "_law_laying_kind" 1 [.ref r] S) Q:=by
 refine ay G.laying_kind rfl rfl λQ' hR=>?_
 replace k:∀w S',KindOk S' S.length w->Fl S' r->Kp r S S'->Q' (.rt w,S'):=λz S' a b c=>hR _ _ (k z S' a b c)
 clear hR;show wZ _ _ bC [ba (.ref r),gV] S Q';have hrt:=hf.lt;unfold bC;nofun
 refine Fo ?_;change wA _ _ _ _ _; change wE _ _ _ _ _
 refine nF [1,0] [(0,0,[0])] 3 (b:=S.length) (Ih _) #v[] #v[] #v[] #v[] λw1 S1 k1 a1=>?_
 change wE _ _ _ _ _;refine nF [0,2,1] [(1,1,[1])] 2 (b:=S.length) a1.len #v[] #v[] #v[] #v[] λw2 S2 k2 a2=>?_
 have a12:=a1.trans a2;change wE _ _ _ _ _;refine nF [0,1] [(1,1,[1])] 3 (b:=S.length) a12.len #v[] #v[] #v[] #v[] λw3 S3 k3 a3=>?_
 have a13:=a12.trans a3;dsimp only[wA];refine hK _ _ ?_;clear hK K;have m3:Menu S (S3++[O.lst [w1,w2,w3]]) r S3.length 3:=by
  refine#[#[[w1,w2,w3],af,rfl,λx hx=>?_],#v[],#v[],(hf.ka a13).ka .push,(a13.trans .push).kp r,a13.len,hrt]
  rcases IC.mp hx with rfl|hx
  ·exact(k1.ka (a2.trans a3)).ka .push
  ·rcases IC.mp hx with rfl|hx
   ·exact(k2.ka a3).ka .push
   ·rw[Ik.mp hx];exact k3.ka .push
 dsimp only[Iq];clear k1 k2 k3 a1 a2 a3 a12 a13;generalize S3.length=t at m3;generalize S3++[O.lst [w1,w2,w3]]=S3' at m3;refine aH λK hK=>pQ [0,1] [(1,1,[1]),(0,0,[1])] 3 m3 #v[] #v[] #v[] #v[] #v[] λS4 m4=>hK _ _ ?_
 refine aH λK hK=>pQ [0,1] [(1,1,[])] 1 m4 #v[] #v[] #v[] #v[] #v[] λS5 m5=>hK _ _ ?_
 refine aH λK hK=>pQ [0,2,1] [(0,0,[0]),(0,1,[1]),(1,0,[1]),(1,1,[1])] 2 m5 #v[] #v[] #v[] #v[] #v[] λS6 m6=>hK _ _ ?_
 nofun
 left;obtain⟨xs,e1,e2,e3⟩:=m6.at_t;obtain⟨xs',f1,f2,m7⟩:=pP (S':=S6++[O.dic []]) (w:=.tup [.tup (ag [1,0]),.ref S6.length,.int 3]) m6 #[[1,0],S6.length,[],3,rfl,#v[],#v[],#v[],#v[],af,m6.kp.len,#v[],λ_ h=>(nomatch h)] .push #v[]
 refine#[dg e1,ac (sP f1 f2) (hK _ _ ?_)];refine aH λK hK=>pQ [0,1,2] [(2,2,[2]),(1,2,[1]),(2,1,[1]),(1,1,[1,2])] 2 m7 #v[] #v[] #v[] #v[] #v[] λS8 m8=>hK _ _ ?_
 refine aH λK hK=>pQ [0,1,2] [(0,0,[0,1])] 2 m8 #v[] #v[] #v[] #v[] #v[] λS9 m9=>hK _ _ ?_
 refine st ?_;left;refine aI (d:=d) G.pick m9.fl #v[] #v[] λv S10 v0 v9 f10 k10=>?_
 obtain⟨xs,g1,g2,g3⟩:=m9.at_t;have hlt:=m9.lt;have hv:v.toNat < xs.length:=∅
 exact ig (k10.get _ _ ∅ g1) v0 (Ig hv) (k _ _ ((g3 _ (Jh hv)).mono (λl ws hl e=>k10.get _ _ ∅ e) (λl ws hl e=>k10.get _ _ ∅ e)) f10 (m9.kp.trans k10))
end
abbrev pR (bs:HN Ip):HN (HN Ip):=if bs=[0,1,2]then[[0,1,2],[0,2,1],[1,0,2],[1,2,0],[2,0,1],[2,1,0]]else if bs.length=2 then[[0,1],[1,0]]else[[0,1,2],[0,2,1],[2,0,1],[2,1,0]]
abbrev gm (bs nm:HN Ip):HZ->HN Ip
 | 0=>Jj bs.length 0
 | k+1=>(gm bs nm k).set (nm.getD k 0).toNat (nm.getD (bs.getD k 0).toNat 0)
def i5 (bs nm:HN Ip):∀k,(gm bs nm k).length=bs.length
 | 0=>by simp[gm]
 | k+1=>by simp[gm,i5 bs nm k]
def AQ:∀bs∈KB,∀nm∈pR bs,nm.length=bs.length/\(∀x∈nm,0<=x/\x < (bs.length:Ip))/\(∀x∈bs,0<=x/\x < (bs.length:Ip))/\GoodB (gm bs nm bs.length):=by
 unfold GoodB;decide +kernel
def yi:∀bs∈KB,(bs.length=2\/bs.length=3)/\0 < (pR bs).length/\(pR bs).length < 10:=by decide
section
variable{M:IH->FF}{fuel:HZ}{Z:Fm}{S:aa}{K:Fm->aa->Prop}{Q:QO}
def AR {tg:Tg}{e:E}{b:Ss}(r:HZ)(U:HN (T×W))(I:HZ->Fm->aa->Prop)(oe:da e=true)(ok:fZ b=true)(he:wE M e Z S λp=>p.1=.ref r/\p.2[r]?=ba (.dic U)/\I 0 Z (p.2.set r (.frd U)))
  (hstep:∀(i:HZ) (p:T×W) (Z:Fm) (S:aa),U[i]?=ba p->I i Z S->wO (eZ tg p.1.w Z S) λq=>u7 M fuel b q.1 q.2 (I (i+1)) Q) (hend:∀Z S,I U.length Z S->K Z S):Wp (fw M fuel (.loop tg (.seq e) b) Z S) (qo K Q):=by
 obtain⟨w,S1,e1,rfl,e2,h0⟩:=bo oe he;refine gG (mi:=.its (U.map λp=>p.1.w)) (S1:=S1.set r (.frd U)) (xs:=U.map λp=>p.1.w) I ok (by simp only[iR,dX,e1,nu e2,cR e2]) (λ_ _ _ _=>rfl) rfl h0 (λi w Z S hw hI=>?_) λZ S hI=>hend Z S (by rwa [HQ]at hI)
 rw[Ii,HU]at hw;obtain⟨p,hp,rfl⟩:=hw;exact hstep i p Z S hp hI
end
section
variable{defs:HN (IH×Df)}{fuel d:HZ}{S:aa}{r:HZ}{Q:QW}
def Fu {i n:HZ}{x:W}(h:S[i]?=ba (.lst [x]))(hn:n<=1000)(q:Q (.ref S.length,S++[.lst (Jj n x)])):wO (eS .mul (.ref i) (.int (n:Ip)) S) Q:=by
 refine ac ?_ q;have:n<=sizeLine:=iE hn;simp only[eS,vJ,bZ h];rw[IF #[∅,∅,by simpa using this]]
 unfold kO;simp[this]
def lV {q:HZ}{U:HN (T×W)}{u v:Ip}{w:W}(h:iL S q=ba U)(hg:b8 U (bq u v)=ba w):lu (.ref q) (.tup [.int u,.int v]) S=ba (w,S):=by
 have hk:fW (.tup [.int u,.int v])=ba (bq u v):=iw;simp only[lu,h,hk,hg,Ja]
def yj {q:HZ}{U:HN (T×W)}{u v:Ip}{w:W}(h:S[q]?=ba (.dic U))(hl:U.length < sizeLine):gW (.ref q) (.tup [.int u,.int v]) w S=ba (S.set q (.dic (eg U (bq u v) w))):=by
 have hk:fW (.tup [.int u,.int v])=ba (bq u v):=iw;simp only[gW,mN,h,hk];rw[IF hl]
def int_at {xs:HN Ip}{x:Ip}(h0:0<=x)(h1:x.toNat < xs.length):(ag xs)[x.toNat]?=ba (.int (xs.getD x.toNat 0)):=by
 unfold ag;rw[Ii,aq (d:=0) h1]; rfl
def fH {xs:HN Ip}{i:HZ}(h:i < xs.length):xs.getD i 0∈xs:=Ir (aq (d:=0) h)
def kW (G:Gen defs){Q:QO}{bs:HN Ip}{x0 x2:HY W}(hb:bs∈KB)
  (hk:∀(m s:HZ) (S':aa),Ka S S'->S'[s]?=ba (.lst ((pR bs).map λnm=>W.tup (ag nm)))->S.length<=s->wZ (am defs fuel (d+1)) fuel (dr 5 aW) [x0,ba (.tup (ag bs)),x2,ba (.int bs.length),ba (.ref m),ba (.ref s),gV,gV,gV,gV,gV,gV] S' Q) :
  wZ (am defs fuel (d+1)) fuel aW [x0,ba (.tup (ag bs)),x2,gV,gV,gV,gV,gV,gV,gV,gV,gV] S Q:=by
 generalize hd5:dr 5 aW=bj at hk;unfold aW at hd5 ⊢;dsimp only[dr]at hd5;rw[hd5];clear hd5;nofun
 left;refine aU ?_;rw[show(ag bs).length=bs.length from HQ ..]
 refine hK _ _ ?_;clear hK K;nofun
 left;have hm:(((S++[O.lst [.tup [.int 0]]])++[O.lst [.tup [.int 0,.int 1],.tup [.int 1,.int 0]]])++[O.lst [.ref S.length,.ref (S++[O.lst [.tup [.int 0]]]).length]])[((S++[O.lst [.tup [.int 0]]])++[O.lst [.tup [.int 0,.int 1],.tup [.int 1,.int 0]]]).length]?=ba (.lst [.ref S.length,.ref (S++[O.lst [.tup [.int 0]]]).length]):=af;refine hK _ _ ?_;clear hK K;generalize hS1:S++[O.lst [.tup [.int 0]]]=S1 at hm ⊢;generalize hS2:S1++[O.lst [.tup [.int 0,.int 1],.tup [.int 1,.int 0]]]=S2 at hm ⊢;generalize hS3:S2++[O.lst [.ref S.length,.ref S1.length]]=S3 at hm ⊢;have l1:S1.length=S.length+1:=by rw[<- hS1]; simp
 have l2:S2.length=S1.length+1:=by rw[<- hS2]; simp
 have l3:S3.length=S2.length+1:=by rw[<- hS3]; simp
 have kS2:Ka S S2:=by rw[<- hS2,<- hS1]; exact Ka.push.trans .push
 nofun
 left;refine#[dg hm,lQ (al hm) (by decide:2 < 1000) (hK _ _ ?_)]
 clear hK K;generalize hS5:(S3++[O.lst [.tup [.int 0,.int 1,.int 2],.tup [.int 0,.int 2,.int 1],.tup [.int 2,.int 0,.int 1],.tup [.int 2,.int 1,.int 0]]]).set S2.length (.lst ([.ref S.length,.ref S1.length]++[.ref S3.length]))=S5;have k5:Ka S S5:=by
  rw[<- hS5,<- hS3];exact Ka.late (kS2.trans (Ka.push.trans .push)) ∅
 have m5:S5[S2.length]?=ba (.lst [.ref S.length,.ref S1.length,.ref S3.length]):=by
  rw[<- hS5]; exact br (al hm)
 have p5:S5[S1.length]?=ba (.lst [.tup [.int 0,.int 1],.tup [.int 1,.int 0]]):=by
  rw[<- hS5,bw ∅,<- hS3,<- hS2]
  exact al (al af)
 have t5:S5[S3.length]?=ba (.lst [.tup [.int 0,.int 1,.int 2],.tup [.int 0,.int 2,.int 1],.tup [.int 2,.int 0,.int 1],.tup [.int 2,.int 1,.int 0]]):=by
  rw[<- hS5,bw ∅]
  exact af
 have h1:S.length<=S1.length:=∅
 have h3:S.length<=S3.length:=∅
 clear hS1 hS2 hS3 hS5 hm l1 l2 l3 kS2;nofun
 dsimp only[wS,wE,wA,wV,wG,Iq,xC,aD];have hb':bs=[1,0]\/bs=[0,2,1]\/bs=[0,1]\/bs=[0,1,2]:=by simpa [KB]using hb
 rcases hb' with rfl|rfl|rfl|rfl
 ·refine dP (i:=1) m5 rfl (hK _ _ (aH λK hK=>cM (λQ q=>q) (hK _ _ (hk _ _ _ k5 p5 h1))))
 ·refine dP (i:=2) m5 rfl (hK _ _ (aH λK hK=>cM (λQ q=>q) (hK _ _ (hk _ _ _ k5 t5 h3))))
 ·refine dP (i:=1) m5 rfl (hK _ _ (aH λK hK=>cM (λQ q=>q) (hK _ _ (hk _ _ _ k5 p5 h1))))
 ·refine dP (i:=2) m5 rfl (hK _ _ (aH λK hK=>kj (λQ q=>q) λQ2 hn _=>?_))
  refine st ?_;left;exact nz (d:=d) G (ci (hn _ _ (hK _ _ (hk _ _ _ (k5.trans .push) af k5.len))))
def rC (G:Gen defs){S0:aa}{bs:HN Ip}{q:HZ}{U:HN (T×W)}(hb:bs∈KB)(hf:Fl S r)(hr:r < S0.length)(kp:Kp r S0 S)(hq:S[q]?=ba (.dic U))(hq0:S0.length<=q)(h4:U.length<=4)(hm:MustE S bs.length S0.length U)
  (k:∀(bs':HN Ip) (q':HZ) (U':HN (T×W)) S',GoodB bs'->bs'.length=bs.length->S'[q']?=ba (.dic U')->S0.length<=q'->MustE S' bs.length S0.length U'->Fl S' r->Kp r S0 S'->Q (.tup [.tup (ag bs'),.ref q'],S')) :
  wO (aV (am defs fuel (d+2)) "_law_numbered" 3 [.ref r,.tup (ag bs),.ref q] S) Q:=by
 refine ay G.numbered rfl rfl λQ' hR=>?_
 replace k:∀(bs':HN Ip) (q':HZ) (U':HN (T×W)) S',GoodB bs'->bs'.length=bs.length->S'[q']?=ba (.dic U')->S0.length<=q'->MustE S' bs.length S0.length U'->Fl S' r->Kp r S0 S'->Q' (.rt (.tup [.tup (ag bs'),.ref q']),S'):=λa b c e f g h i j l m=>hR _ _ (k a b c e f g h i j l m)
 clear hR;refine kW (d:=d) G hb ?_;intro m s S1 k1 e1 hs;dsimp only[dr,aW];have hrt:=hf.lt;obtain⟨hb1,hb2,hb3⟩:=yi bs hb;nofun
 left;refine fF e1 ?_;rw[HQ];refine aI (d:=d) G.pick (hf.ka k1) ∅ ∅ λv S2 v0 v1 f2 k2=>?_
 obtain⟨nm,hnmm,enm⟩:=ko (f:=λnm=>W.tup (ag nm)) (xs:=pR bs) (i:=v.toNat) ∅
 obtain⟨n1,n2,n3,n4⟩:=AQ bs hb nm hnmm;refine ig (k2.get _ _ ∅ e1) v0 enm (hK _ _ ?_)
 clear hK K;nofun
 left;refine Fu af ∅ (hK _ _ ?_)
 clear hK K;generalize hS4:S2++[O.lst [.int 0]]=S4;have k24:Ka S2 S4:=hS4 ▸ .push;have f4:Fl S4 r:=f2.ka k24;have kp4:Kp r S0 S4:=(kp.trans (k1.kp r)).trans (k2.trans (k24.kp r));have q4:S4[q]?=ba (.dic U):=k24.get _ _ (k2.get _ _ ∅ (k1.get _ _ hq))
 have m4:MustE S4 bs.length S0.length U:=((hm.ka k1).kp hr k2).ka k24;clear hS4 k24 hm hq f2 k2 k1 e1 enm hf;nofun
 refine dY (bs.length:Ip) (λk Z S'=>(∃x8,Z=[ba (.ref r),ba (.tup (ag bs)),ba (.ref q),ba (.int bs.length),ba (.ref m),ba (.ref s),ba (.tup (ag nm)),ba (.ref S4.length),x8,gV,gV,gV])/\S'[S4.length]?=ba (.lst (ag (gm bs nm k)))/\Ka S4 S') rfl rfl ∅ #[rfl,#[_,rfl],?_,.push] ?_ ?_
 ·rw[af]; simp[gm,ag]
 ·rintro i Z S5 hi ⟨⟨x8,rfl⟩,e5,k5⟩ Q2 hn _;clear hK k;have hi':i < bs.length:=∅
  have hi1:i < nm.length:=∅
  have c:=n3 _ (fH hi');have c2:=n2 _ (fH hi1);refine st ?_;left;refine ak (IT i) (int_at (IT i) hi') (ak c.1 (int_at c.1 (by rw[IB]; omega)) (ak (IT i) (int_at (IT i) hi1) ?_))
  rw[IB];refine ac (By e5 c2.1 (by rw[show(ag (gm bs nm i)).length=_ from HQ ..,i5]; omega)) (ci (hn _ _ #[#[_,rfl],?_,k5.late (Ih _)]))
  rw[br e5];unfold ag;rw[gm,List.map_set]
 ·rintro Z S5 ⟨⟨x8,rfl⟩,e5,k5⟩;rw[IB]at e5;refine hK _ _ (st ?_);clear hK K;dsimp only[wS,wE,Iq];have f5:Fl S5 r:=f4.ka k5;have q5:S5[q]?=ba (.dic U):=k5.get _ _ q4;have m5:MustE S5 bs.length S0.length U:=m4.ka k5;have kp5:Kp r S0 S5:=kp4.trans (k5.kp r);have hq5:=dk q5;have ht5:=dk e5;have hqt:q≠S4.length:=by rintro rfl; rw[e5]at q5; cases q5
  have hn9:(bs.length:Ip)<=3:=∅
  have hr5:=f5.lt;clear k5 m4 q4 f4;nofun
  refine AR q U (λk Z S'=>(∃x10 x11,Z=[ba (.ref r),ba (.tup (ag bs)),ba (.ref q),ba (.int bs.length),ba (.ref m),ba (.ref s),ba (.tup (ag nm)),ba (.ref S4.length),x8,ba (.ref S5.length),x10,x11])/\S'[q]?=ba (.frd U)/\MustE S' bs.length S0.length U/\S'[S4.length]?=ba (.lst (ag (gm bs nm bs.length)))/\(∃U',S'[S5.length]?=ba (.dic U')/\U'.length<=k/\MustE S' bs.length S0.length U')/\Fl S' r/\Kp r S0 S') rfl rfl #[rfl,al q5,#[gV,gV,rfl],br (al q5),(m5.ka .push).set (al q5),?_,#[[],?_,Ih _,λ_ h=>(nomatch h)],(f5.ka .push).own ∅,(kp5.trans .push).late hq0] ?_ ?_
  ·rw[bw hqt]; exact al e5
  ·rw[bw ∅]; exact af
  ·rintro i p Z S6 hp ⟨⟨x10,x11,rfl⟩,q6,m6,t6,⟨U',o6,l6,mm6⟩,f6,kp6⟩;clear hK k;have hpm:=Ir hp;have hil:=(Il.mp hp).1;obtain⟨u,v',l,ws,rfl,hu,hv',hl,hws,hl3,hw3⟩:=m6 p hpm;obtain⟨g,hg⟩:=AN hpm;obtain⟨u2,v2,l2,ws2,he2,_,_,hl2,hws2,hl32,hw32⟩:=m6 _ (pN hg);injection he2 with _ he2
   subst he2;have hul:u.toNat < nm.length:=∅
   have hvl:v'.toNat < nm.length:=∅
   refine ac (show eZ (.tp [10,11]) (bq u v',W.ref l).1.w [ba (.ref r),ba (.tup (ag bs)),ba (.ref q),ba (.int bs.length),ba (.ref m),ba (.ref s),ba (.tup (ag nm)),ba (.ref S4.length),x8,ba (.ref S5.length),x10,x11] S6=ba ([ba (.ref r),ba (.tup (ag bs)),ba (.ref q),ba (.int bs.length),ba (.ref m),ba (.ref s),ba (.tup (ag nm)),ba (.ref S4.length),x8,ba (.ref S5.length),ba (.int u),ba (.int v')],S6)from rfl) λQ2 hn _=>?_
   refine st ?_;left;refine nw l2 (ag ws2) (λi zs Z2 S7=>(∃a1,Z2=[gV,a1,ba (.tup (ag nm))])/\zs=ag ((ws2.take i).map λw=>nm.getD w.toNat 0)/\S7=S6) rfl rfl rfl ?_ ?_ ?_ ?_
   ·dsimp only[wE,wA,wV,wG];exact ac (lV (AA q6) hg) #[rfl,#[_,rfl],rfl,rfl]
   ·rintro i zs Z2 S7 ⟨_,_,rfl⟩;exact hws2
   ·rintro i w zs Z2 S7 hw ⟨⟨a1,rfl⟩,rfl,rfl⟩;unfold ag at hw;rw[Ii,HU]at hw;obtain⟨x,hx,rfl⟩:=hw;obtain⟨x0,x1⟩:=hw32 x (Ir hx);have hxl:x.toNat < nm.length:=∅
    refine ac (show eZ (.nm 1) (.int x) [gV,a1,ba (.tup (ag nm))] S7=ba ([gV,ba (.int x),ba (.tup (ag nm))],S7)from rfl) ?_
    dsimp only[eX,wC,wE,wA,wV,wG];refine#[λ_=>ak x0 (int_at x0 hxl) #[#[_,rfl],?_,rfl],λz=>by cases z]
    rw[IS,hx];simp[ag]
   ·rintro zs Z2 S7 ⟨_,rfl,rfl⟩;rw[show(ag ws2).length=ws2.length from HQ ..,Jp]
    refine#[iE (by simp[ag]; omega),ak hu.1 (int_at hu.1 hul) (ak hv'.1 (int_at hv'.1 hvl) ?_)]
    refine ac (yj (al o6) (by rw[Jq]; omega)) (ci (hn _ _ #[#[_,_,rfl],?_,(m6.ka .push).set (al o6),?_,#[_,br (al o6),?_,?_],(f6.ka .push).own ∅,(kp6.trans .push).late kp5.len]))
    ·rw[bw ∅]; exact al q6
    ·rw[bw ∅]; exact al t6
    ·exact IL (c7 ..) (MH l6)
    ·refine((mm6.ka .push).put (n2 _ (fH hul)) (n2 _ (fH hvl)) kp6.len af (by simp; omega) ?_).set (al o6)
     intro w hw;obtain⟨x,hx,rfl⟩:=Iy.mp hw;obtain⟨x0,x1⟩:=hw32 x hx;exact n2 _ (fH ∅)
  ·rintro Z S6 ⟨⟨x10,x11,rfl⟩,q6,m6,t6,⟨U',o6,l6,mm6⟩,f6,kp6⟩;refine hK _ _ (st ?_);left;exact cx t6 (k _ _ U' _ n4 (i5 _ _ _) o6 kp5.len mm6 f6 kp6)
end
abbrev uU (x y z:Ip):HN (T×W):=[(bq 1 0,.int x),(bq 2 0,.int y),(bq 2 1,.int z)]
abbrev AS (x y z a b c:Ip):HZ->HN (T×W)
 | 0=>uU x y z
 | 1=>uU x y z++[(bq 0 1,.int a)]
 | 2=>uU x y z++[(bq 0 1,.int a),(bq 0 2,.int b)]
 | _=>uU x y z++[(bq 0 1,.int a),(bq 0 2,.int b),(bq 1 2,.int c)]
def Do {n x y z a b c:Ip}(hx:0<=x/\x < n)(hy:0<=y/\y < n)(hz:0<=z/\z < n)(ha:0<=a/\a < n)(hb:0<=b/\b < n)(hc:0<=c/\c < n):∀i j:HZ,i < 3->j < 3->i≠j->∃p:Ip,b8 (AS x y z a b c 3) (bq i j)=ba (.int p)/\0<=p/\p < n:=by
 intro i j hi hj hij
 match i,j,hi,hj,hij with
 | 0,0,_,_,h=>exact absurd rfl h
 | 0,1,_,_,_=>exact#[a,by rfl,ha]
 | 0,2,_,_,_=>exact#[b,by rfl,hb]
 | 1,0,_,_,_=>exact#[x,by rfl,hx]
 | 1,1,_,_,h=>exact absurd rfl h
 | 1,2,_,_,_=>exact#[c,by rfl,hc]
 | 2,0,_,_,_=>exact#[y,by rfl,hy]
 | 2,1,_,_,_=>exact#[z,by rfl,hz]
 | 2,2,_,_,h=>exact absurd rfl h
def pS:∀t∈aM,t.length=3/\t.getD 0 0 < 3/\t.getD 1 0 < 3/\t.getD 2 0 < 3/\t.getD 0 0≠t.getD 1 0/\t.getD 1 0≠t.getD 2 0/\t.getD 0 0≠t.getD 2 0:=by decide
def yk {t:HN HZ}(h:t∈aM):∃i j k:HZ,t=[i,j,k]/\i < 3/\j < 3/\k < 3/\i≠j/\j≠k/\i≠k:=by
 obtain⟨h1,h2⟩:=pS t h
 match t,h1,h2 with
 | [i,j,k],_,h2=>exact#[i,j,k,rfl,h2]
section
variable{defs:HN (IH×Df)}{fuel d:HZ}{S:aa}{r:HZ}{Q:QW}
def ym {l:HZ}{f:Ip}{ws:HN Ip}(h:S[l]?=ba (.lst (ag ws))):∃b,cr .notin (.int f) (.ref l) S=ba (.bl b,S):=by
 have hf:(bz (.int f)&&(ag ws).all bz)=true:=by
  simp only[bz,MN,IG];intro x hx;obtain⟨z,_,rfl⟩:=Iy.mp hx;rfl
 refine#[!(ag ws).any λz=>yK z (.int f),?_]
 simp only[cr,jw h,fT,Bl,zC,dR,ar h,hf,Kd,Ja]
def Dp {q:HZ}{U:HN (T×W)}(h:S[q]?=ba (.dic U)):tyOk "dict" S (.ref q)=true:=by simp[tyOk,cR h]
def AT {q:HZ}{U:HN (T×W)}(h:S[q]?=ba (.dic U))(k:Q (.ref S.length,S++[.lst (U.map λp=>p.1.w)])):wO (Bi.list.fn [.ref q] S) Q:=by
 refine ac ?_ k;have h1:vV S q=gV:=by simp[vV,h]
 have h2:ja [.ref q] S=gV:=by simp[ja,h1,gM,dR,nu h]
 simp only[Bi.fn,sD,h2,ly,cR h]
def yn (G:Gen defs){bs:HN Ip}{q b0:HZ}{U:HN (T×W)}{x y z:Ip}(hb:GoodB bs)(hx:0<=x/\x < bs.length)(hy:0<=y/\y < bs.length)(hz:0<=z/\z < bs.length)(hq:S[q]?=ba (.dic U))(hm:MustE S bs.length b0 U)
  (k:∀b S',Ka S S'->Q (.bl b,S')):wO (aV (am defs fuel (d+2)) "_law_breaks" 5 [.tup (ag bs),.ref q,.int x,.int y,.int z] S) Q:=by
 refine ay G.breaks rfl rfl λQ' hR=>?_
 replace k:∀b S',Ka S S'->Q' (.rt (.bl b),S'):=λa b c=>hR _ _ (k a b c)
 clear hR;show wZ _ _ dy [ba (.tup (ag bs)),ba (.ref q),ba (.int x),ba (.int y),ba (.int z),gV,gV,gV,gV,gV] S Q';obtain⟨a,ha1,ha⟩:=hb.rng x.toNat ∅
 obtain⟨b,hb1,hb2⟩:=hb.rng y.toNat ∅
 obtain⟨c,hc1,hc⟩:=hb.rng z.toNat ∅
 have hqt:=dk hq;unfold dy;nofun
 left;refine#[af,ac (show de [] [.tup [.int 1,.int 0],.int x,.tup [.int 2,.int 0],.int y,.tup [.int 2,.int 1],.int z]=ba (uU x y z)from rfl) (hK _ _ ?_)]
 clear hK K;have e1:((S++[O.dic []]).set S.length (.dic (uU x y z)))[S.length]?=ba (.dic (uU x y z)):=br af;have k1:Ka S ((S++[O.dic []]).set S.length (.dic (uU x y z))):=Ka.push.late (Ih _);have l1:((S++[O.dic []]).set S.length (.dic (uU x y z))).length=S.length+1:=by simp
 generalize(S++[O.dic []]).set S.length (.dic (uU x y z))=S1 at e1 k1 l1 ⊢;nofun
 refine iu rfl rfl ?_;dsimp only[wE,wA,wV,wG];refine AT e1 #[S1.length,[db 1 0,db 2 0,db 2 1],(λk Z S'=>(∃x6,Z=[ba (.tup (ag bs)),ba (.ref q),ba (.int x),ba (.int y),ba (.int z),ba (.ref S.length),x6,gV,gV,gV])/\S'[S.length]?=ba (.dic (AS x y z a b c k))/\S'[S1.length]?=ba (.lst [db 1 0,db 2 0,db 2 1])/\Ka S S'),rfl,#[#[_,rfl],al e1,af,k1.trans .push],λi Z S' h=>h.2.2.1,?_,?_]
 ·have step:∀(u v f g:Ip) (kv kv':HN (T×W)) (S':aa) (i:HZ),b8 kv (bq u v)=ba (.int f)->0<=f->bs[f.toNat]?=ba g->kv.length < 10->eg kv (bq v u) (.int g)=kv'->AS x y z a b c (i+1)=kv'->∀x6:HY W,S'[S.length]?=ba (.dic kv)->S'[S1.length]?=ba (.lst [db 1 0,db 2 0,db 2 1])->Ka S S'->
    wO (eZ (.nm 6) (db u v) [ba (.tup (ag bs)),ba (.ref q),ba (.int x),ba (.int y),ba (.int z),ba (.ref S.length),x6,gV,gV,gV] S') λp=>u7 (am defs fuel (d+1)) fuel #v[.put (.v 5) (.tup #v[.ix (.v 6) (.c (.int 1)),.ix (.v 6) (.c (.int 0))]) (.ix (.v 0) (.ix (.v 5) (.v 6)))] p.1 p.2 (λZ S'=>(∃x6,Z=[ba (.tup (ag bs)),ba (.ref q),ba (.int x),ba (.int y),ba (.int z),ba (.ref S.length),x6,gV,gV,gV])/\S'[S.length]?=ba (.dic (AS x y z a b c (i+1)))/\S'[S1.length]?=ba (.lst [db 1 0,db 2 0,db 2 1])/\Ka S S') Q':=by
   clear hK k;intro u v f g kv kv' S' i h1 h2 h3 h4 h5 h6 x6 e e' k;refine ac (show eZ (.nm 6) (db u v) [ba (.tup (ag bs)),ba (.ref q),ba (.int x),ba (.int y),ba (.int z),ba (.ref S.length),x6,gV,gV,gV] S'=ba ([ba (.tup (ag bs)),ba (.ref q),ba (.int x),ba (.int y),ba (.int z),ba (.ref S.length),ba (db u v),gV,gV,gV],S')from rfl) λQ2 hn _=>?_
   refine st ?_;left;refine ac (lV (cR e) h1) (ak h2 (w:=.int g) (by unfold ag; rw[Ii,h3]; rfl) (ak #v[] rfl (ak #v[] rfl ?_)))
   refine ac (yj e (by rw[Jq]; omega)) (ci (hn _ _ #[#[_,rfl],?_,?_,k.late (Ih _)]))
   ·rw[br e,h5,h6]
   ·rw[bw ∅]; exact e'
  rintro i w Z S2 hw ⟨⟨x6,rfl⟩,e2,l2,k2⟩
  match i,hw,e2 with
  | 0,hw,e2=>cases hw; exact step 1 0 x a _ _ S2 0 (by rfl) hx.1 ha1 (by simp[AS,uU]) (by rfl) (by rfl) x6 e2 l2 k2
  | 1,hw,e2=>cases hw; exact step 2 0 y b _ _ S2 1 (by rfl) hy.1 hb1 (by simp[AS,uU]) (by rfl) (by rfl) x6 e2 l2 k2
  | 2,hw,e2=>cases hw; exact step 2 1 z c _ _ S2 2 (by rfl) hz.1 hc1 (by simp[AS,uU]) (by rfl) (by rfl) x6 e2 l2 k2
  | n+3,hw,_=>simp at hw
 ·rintro Z S2 ⟨⟨x6,rfl⟩,e2,l2,k2⟩;have hv:=Do hx hy hz ha hb2 hc;have e2:S2[S.length]?=ba (.dic (AS x y z a b c 3)):=e2;refine hK _ _ ?_;clear hK K;have hlt2:=dk e2;nofun
  refine iu rfl rfl ?_;dsimp only[wE,wA,wV,wG];refine nz (d:=d) G #[S2.length,aM.map (λt=>W.tup (ah t)),(λk Z S'=>(∃x7 x8 x9,Z=[ba (.tup (ag bs)),ba (.ref q),ba (.int x),ba (.int y),ba (.int z),ba (.ref S.length),x6,x7,x8,x9])/\S'[S.length]?=ba (.dic (AS x y z a b c 3))/\S'[S2.length]?=ba (.lst (aM.map (λt=>W.tup (ah t))))/\Ka S S'),rfl,#[#[_,_,_,rfl],al e2,af,k2.trans .push],λi Z S' h=>h.2.2.1,?_,?_]
  ·rintro i w Z S3 hw ⟨⟨x7,x8,x9,rfl⟩,e3,l3,k3⟩;clear hK;rw[Ii,HU]at hw;obtain⟨t,ht,rfl⟩:=hw;obtain⟨i1,j1,h1,rfl,hi1,hj1,hh1,n1,n2,n3⟩:=yk (Ir ht);obtain⟨p1,g1,r1⟩:=hv i1 j1 hi1 hj1 n1;obtain⟨p2,g2,r2⟩:=hv j1 h1 hj1 hh1 n2;obtain⟨p3,g3,r3⟩:=hv i1 h1 hi1 hh1 n3;have q3:=k3.get _ _ hq;refine ac (show eZ (.tp [7,8,9]) (W.tup (ah [i1,j1,h1])) [ba (.tup (ag bs)),ba (.ref q),ba (.int x),ba (.int y),ba (.int z),ba (.ref S.length),x6,x7,x8,x9] S3=ba ([ba (.tup (ag bs)),ba (.ref q),ba (.int x),ba (.int y),ba (.int z),ba (.ref S.length),x6,ba (.int i1),ba (.int j1),ba (.int h1)],S3)from rfl) λQ2 hn hr=>?_
   nofun
   dsimp only[wS,wT,wE,wA,wV,wG];refine ac (lV (cR e3) g3) #[Dp q3,ac (lV (cR e3) g1) (ac (lV (cR e3) g2) (ac (lV (cR e3) g3) ?_))];have hget:Me.get.fn (.ref q) [.tup [.int p1,.int p2],.ref S3.length] (S3++[O.lst [.int p3]])=ba ((b8 U (bq p1 p2)).getD (.ref S3.length),S3++[O.lst [.int p3]]):=by
    have hk:fW (.tup [.int p1,.int p2])=ba (bq p1 p2):=iw;simp only[Me.fn,r8,cR (al q3),hk]
   refine ac hget ?_;have hres:∃(l:HZ) (ws:HN Ip),(b8 U (bq p1 p2)).getD (.ref S3.length)=.ref l/\(S3++[O.lst [.int p3]])[l]?=ba (.lst (ag ws)):=by
    cases hg:b8 U (bq p1 p2)with
    | none=>exact#[S3.length,[p3],rfl,af]
    | some g=>
     obtain⟨u,v,l,ws,he,_,_,_,hl,_⟩:=(hm.ka k3) _ (pN hg);injection he with _ he
     subst he;exact#[l,ws,rfl,al hl]
   obtain⟨l,ws,hl1,hl2⟩:=hres;dsimp only;rw[hl1];obtain⟨kb,hkb⟩:=ym (f:=p3) hl2;refine ac hkb ?_;dsimp only[wB];refine aC (Q0:=Q2) (λ_ Q3 _ hr3=>st (hr3 _ _ (hr _ _ (k _ _ (k3.trans .push))))) λ_ Q3 hn3 _=>ci (hn3 _ _ (hK _ _ (ci (hn _ _ #[#[_,_,_,rfl],al e3,al l3,k3.trans .push]))))
  ·rintro Z S3 ⟨⟨x7,x8,x9,rfl⟩,e3,l3,k3⟩;exact hK _ _ (st (k _ _ k3))
end
def Fv {a n:HZ}{m0 m1 m2 x y z:Ip}(h0:0<=m0/\m0 < a)(h1:0<=m1/\m1 < a)(h2:0<=m2/\m2 < a)(hx:0<=x/\x < n)(hy:0<=y/\y < n)(hz:0<=z/\z < n):GoodW a n [(m0,[]),(m1,[x]),(m2,[y,z])]:=by
 refine#[λk p h=>?_,λk p h=>?_,λk p h=>?_] <;> match k,h with
 | 0,h=>cases h; first|exact h0|rfl|(intro w hw; cases hw)
 | 1,h=>cases h; first|exact h1|rfl|(intro w hw; rw[Ik.mp hw]; exact hx)
 | 2,h=>cases h; first|exact h2|rfl|(intro w hw; rcases IC.mp hw with e|hw <;> first|exact e ▸ hy|(rw[Ik.mp hw]; exact hz))
 | n+3,h=>simp at h
def Dq {M:IH->FF}{Z:Fm}{S:aa}{i n:HZ}{Q:QW}(hv:∀Q:W->Prop,Q (.int n)->wV Z i Q)(hn:n<=3)(k:∀j:Ip,0<=j->j<=27->j=(n:Ip)*n*n->Q (.int j,S)):wE M (.op .mul (.op .mul (.v i) (.v i)) (.v i)) Z S Q:=by
 have b1 : -(2 ^ 64) < (n:Ip):=∅
 have b2:(n:Ip) < 2 ^ 64:=∅
 have hc:(n:Ip)*n*n<=27/\0<=(n:Ip)*n*n:=by rcases(show n=0\/n=1\/n=2\/n=3 by omega)with h|h|h|h <;> rw[h] <;> decide
 dsimp only[wE];have em:∀m:Ip,eS .mul (.int m) (.int n) S=ba (.int (m*n),S):=λm=>po b1 b2
 generalize eS .mul=B at em ⊢;refine hv _ ?_;refine hv _ ?_;refine ac (em _) ?_;refine hv _ ?_;refine ac (em _) ?_;have:=k _ hc.2 hc.1 rfl;exact this
def yo {M:IH->FF}{fuel:HZ}{Z:Fm}{S:aa}{K:Fm->aa->Prop}{Q:QO}{i0 i n:HZ}{b:Ss}(hv:∀Q:W->Prop,Q (.int n)->wV Z i Q)(hn:n<=3)(ok:fZ b=true)
  (h:∀j:Ip,0<=j->j<=27->j=(n:Ip)*n*n->∃I:HZ->Fm->aa->Prop,I 0 Z S/\(∀(i:HZ) (Z:Fm) (S:aa),(i:Ip) < j->I i Z S->u7 M fuel b (Z.set i0 (ba (.int i))) S (I (i+1)) Q)/\∀Z S,I j.toNat Z S->K Z S) :
  Wp (fw M fuel (.loop (.nm i0) (.rng #v[.op .mul (.op .mul (.v i) (.v i)) (.v i)]) b) Z S) (qo K Q):=
 have hw:=Dq (M:=M) (S:=S) (Q:=λp=>∃(j:Ip) (I:HZ->Fm->aa->Prop),p.1=.int j/\(-(2 ^ 62)<=j/\j < 2 ^ 62)/\I 0 Z p.2/\(∀(i:HZ) (Z:Fm) (S:aa),(i:Ip) < j->I i Z S->u7 M fuel b (Z.set i0 (ba (.int i))) S (I (i+1)) Q)/\∀Z S,I j.toNat Z S->K Z S) hv hn λj j0 j27 e=>let ⟨I,h0,h1,h2⟩:=h j j0 j27 e; #[j,I,rfl,∅,h0,h1,h2]
 iq rfl ok hw
section
variable{defs:HN (IH×Df)}{fuel d:HZ}{S:aa}{r:HZ}{Q:QW}
def yp (hfu:20 < fuel)(G:Gen defs)(hf:Fl S r)(k:∀w S',dN w->Fl S' r->Kp r S S'->Q (w,S')):wO (aV (am defs fuel (d+7)) "_law_laying_rule" 1 [.ref r] S) Q:=by
 refine ay G.laying_rule rfl rfl λQ' hR=>?_
 replace k:∀w S',dN w->Fl S' r->Kp r S S'->Q' (.rt w,S'):=λz S' a b c=>hR _ _ (k z S' a b c)
 clear hR;show wZ _ _ bD [ba (.ref r),gV,gV,gV,gV,gV,gV,gV,gV,gV,gV,gV,gV,gV,gV] S Q';unfold bD;nofun
 left;refine aI (d:=d+5) G.pick hf #v[] #v[] λv S1 v0 v7 f1 k1=>hK _ _ ?_
 clear hK K;nofun
 dsimp only[wS,wT,wE,wV,wG,fD,aD,wB];refine aC (Q0:=Q') (λ_ Q2 _ hr=>?_) (λ_ Q2 hn _=>ci (hn _ _ (hK _ _ ?_)))
 ·refine st ?_;left;exact pM (d:=d) hfu G f1 λw S2 a b c=>hr _ _ (k w S2 a b (k1.trans c))
 clear hK K hn;nofun
 dsimp only[wS,wT,wE,wV,wG,fD,aD,wB];refine aC (Q0:=Q') (λ_ Q2 _ hr=>?_) (λ_ Q2 hn _=>ci (hn _ _ (hK _ _ ?_)))
 ·refine st ?_;left;exact uR (d:=d) hfu G f1 λw S2 a b c=>hr _ _ (k w S2 a b (k1.trans c))
 clear hK K hn;have hr1:=f1.lt;nofun
 left;refine kU (d:=d+4) G f1 λw2 S2 hw2 f2 k2=>?_
 obtain⟨bs0,q0,U0,most,rfl,hbs0,m1,m3,m6,hq0,hq0l,h40,hm0⟩:=hw2;dsimp only[wU];refine ac (show cN [2,3,4] [.tup (ag bs0),.ref q0,.int most] [ba (.ref r),ba (.int v),gV,gV,gV,gV,gV,gV,gV,gV,gV,gV,gV,gV,gV]=ba [ba (.ref r),ba (.int v),ba (.tup (ag bs0)),ba (.ref q0),ba (.int most),gV,gV,gV,gV,gV,gV,gV,gV,gV,gV]from rfl) (hK _ _ ?_)
 clear hK K;nofun
 left;refine aI (d:=d+5) G.pick f2 ∅ ∅ λv3 S3 v30 v3m f3 k3=>?_
 dsimp only[cg,aD];obtain⟨a,ea⟩ : ∃a:HZ,1+v3=a:=#[(1+v3).toNat,∅]
 rw[ea];refine hK _ _ ?_;clear hK K;nofun
 left;refine rC (d:=d+4) G (S0:=S1) hbs0 f3 hr1 (k2.trans k3) (k3.get _ _ ∅ hq0) hq0l h40 (hm0.kp hr1 k3) λbs q U S4 hb hbl hq hql hm f4 k4=>?_
 dsimp only[wU];refine ac (show cN [2,3] [.tup (ag bs),.ref q] [ba (.ref r),ba (.int v),ba (.tup (ag bs0)),ba (.ref q0),ba (.int most),ba (.int a),gV,gV,gV,gV,gV,gV,gV,gV,gV]=ba [ba (.ref r),ba (.int v),ba (.tup (ag bs)),ba (.ref q),ba (.int most),ba (.int a),gV,gV,gV,gV,gV,gV,gV,gV,gV]from rfl) (hK _ _ ?_)
 clear hK K;rw[<- hbl]at hm m6;have hn:bs.length=2\/bs.length=3:=by rw[hbl]; exact(yi bs0 hbs0).1
 have hsz:SizeOk a bs:=#[∅,hb,by
  have h1:(a:Ip)*bs.length<=most*bs.length:=Int.mul_le_mul_of_nonneg_right ∅ ∅
  exact_mod_cast Int.le_trans h1 m6,∅]
 clear m6 hm0 hq0 hq0l h40 hbl hbs0 k2 k3 f2 f3;nofun
 left;refine eR (d:=d+1) hfu G f4 ∅ ∅ λms ns S5 hml hnl hnm f5 k5=>hK _ _ ?_
 clear hK K;have kk:Kp r S S5:=k1.trans (k4.trans k5);have hrt:=f5.lt;have hq5:S5[q]?=ba (.dic U):=k5.get _ _ ∅ hq
 have hm5:MustE S5 bs.length S1.length U:=hm.kp hr1 k5;have hqn:q < S5.length:=dk hq5;clear k1 k4 k5 f4 hm hq hql f1;refine st ?_;dsimp only[wS,wE,Iq];nofun
 left;refine aU ?_;rw[show(ag bs).length=bs.length from HQ ..]
 refine hK _ _ ?_;clear hK K;nofun
 refine yo (n:=bs.length) (λQ q=>q) ∅ rfl λj j0 j27 hj=>?_
 refine#[(λ_ Z S'=>(∃x9 x10 x11 x12 x13 x14,Z=[ba (.ref r),ba (.int v),ba (.tup (ag bs)),ba (.ref q),ba (.int most),ba (.int a),ba (dq ms ns bs []),ba (.ref S5.length),ba (.int bs.length),x9,x10,x11,x12,x13,x14])/\(∃U fs,S'[S5.length]?=ba (.dic U)/\FigD (aJ a bs) U fs)/\S'[q]?=ba (.dic U)/\MustE S' bs.length S1.length U/\Fl S' r/\Kp r S S'),#[#[_,_,_,_,_,_,rfl],#[[],[],af,.nil],al hq5,hm5.ka .push,f5.ka .push,kk.trans .push],?_,?_]
 ·rintro i Z S6 hi ⟨⟨x9,x10,x11,x12,x13,x14,rfl⟩,⟨kvd,fs,e6,hd⟩,hq6,hm6,f6,k6⟩ Q2 hn2 _;clear hK k;have hnp:(0:Ip) < bs.length:=∅
  have hnb:(bs.length:Ip) < 1073741824:=∅
  have y1:0<=(i:Ip) % bs.length/\(i:Ip) % bs.length < bs.length:=#[Lc _ ∅,K4 _ hnp]
  have y2:0<=(i:Ip) / bs.length % bs.length/\(i:Ip) / bs.length % bs.length < bs.length:=#[Lc _ ∅,K4 _ hnp]
  have y3:0<=(i:Ip) / bs.length / bs.length/\(i:Ip) / bs.length / bs.length < bs.length:=by
   rcases hn with h|h <;> rw[h]at hj ⊢ <;> omega
  nofun
  left;refine ac (hX hnp) (ac (gE hnp hnb) (ac (hX hnp) ?_));dsimp only[w2];refine hK _ _ ?_;clear hK K;nofun
  left;refine ac (gE hnp hnb) (ac (gE hnp hnb) (hK _ _ ?_));clear hK K;dsimp only;generalize(i:Ip) % bs.length=z1 at y1 ⊢;generalize(i:Ip) / bs.length % bs.length=z2 at y2 ⊢;generalize(i:Ip) / bs.length / bs.length=z3 at y3 ⊢;nofun
  dsimp only[wS,wT,wA,wE,wV,wG];refine yn (d:=d+4) G hb y1 y2 y3 hq6 hm6 λb S7 k7=>?_
  dsimp only[fj,aD];refine aC (Q0:=Q2) (λ_ Q3 hn3 _=>?_) (λ_ Q3 hn3 _=>ci (hn3 _ _ (hK _ _ (ci (hn2 _ _ #[#[_,_,_,_,_,_,rfl],#[kvd,fs,k7.get _ _ e6,hd],k7.get _ _ hq6,hm6.ka k7,f6.ka k7,k6.trans (k7.kp r)])))))
  refine aH λK3 hK3=>?_
  refine iu rfl rfl ?_;dsimp only[wE,wA,wV,wG];have h56:S5.length < S6.length:=dk e6;have h67:=k7.len;refine ye (d:=d+5) G (a:=a) ∅ λt ts S8 e8 ht ht7 k8=>?_
  refine#[t,ts.map nD,(λ_ Z S'=>(∃x9 x13 x14,Z=[ba (.ref r),ba (.int v),ba (.tup (ag bs)),ba (.ref q),ba (.int most),ba (.int a),ba (dq ms ns bs []),ba (.ref S5.length),ba (.int bs.length),x9,ba (.int z1),ba (.int z2),ba (.int z3),x13,x14])/\(∃U fs,S'[S5.length]?=ba (.dic U)/\FigD (aJ a bs) U fs)/\S'[q]?=ba (.dic U)/\MustE S' bs.length S1.length U/\S'[t]?=ba (.lst (ts.map nD))/\Fl S' r/\Kp r S S'),rfl,#[#[_,_,_,rfl],#[kvd,fs,k8.get _ _ (k7.get _ _ e6),hd],k8.get _ _ (k7.get _ _ hq6),(hm6.ka k7).ka k8,e8,(f6.ka k7).ka k8,k6.trans ((k7.trans k8).kp r)],λi Z S' h=>h.2.2.2.2.1,?_,?_]
  ·rintro j w Z S9 hw ⟨⟨x9,x13,x14,rfl⟩,⟨kvd,fs,e9,hd⟩,hq9,hm9,ht9,f9,k9⟩;clear hK3 hn3 hK hn2;rw[Ii,HU]at hw;obtain⟨⟨tr1,tr2,tr3⟩,htr,rfl⟩:=hw;obtain⟨t1,t2,t3⟩:=ht _ (Ir htr);refine ac (show eZ (.nm 13) (nD (tr1,tr2,tr3)) [ba (.ref r),ba (.int v),ba (.tup (ag bs)),ba (.ref q),ba (.int most),ba (.int a),ba (dq ms ns bs []),ba (.ref S5.length),ba (.int bs.length),x9,ba (.int z1),ba (.int z2),ba (.int z3),x13,x14] S9=ba ([ba (.ref r),ba (.int v),ba (.tup (ag bs)),ba (.ref q),ba (.int most),ba (.int a),ba (dq ms ns bs []),ba (.ref S5.length),ba (.int bs.length),x9,ba (.int z1),ba (.int z2),ba (.int z3),ba (nD (tr1,tr2,tr3)),x14],S9)from rfl) λQ4 hn4 _=>?_
   have hu:GoodW a bs.length [(tr1,[]),(tr2,[z1]),(tr3,[z2,z3])]:=Fv t1 t2 t3 y1 y2 y3;nofun
   left;refine ak #v[] rfl (ak #v[] rfl (hK _ _ ?_))
   clear hK K;refine st ?_;left;refine ak #v[] rfl (ac (gF (ie rfl)) ?_)
   refine im (d:=d+3) (m0:=.tup (ms.map W.str)) (b0:=.tup []) (u:=[(tr1,[]),(tr2,[z1]),(tr3,[z2,z3])]) G hb hnl hu rfl λS10 k10=>?_
   have e10:=k10.get _ _ e9;exact yb e10 hd hsz hu rfl λo ho=>ci (hn4 _ _ #[#[_,_,_,rfl],ho,by rw[bw ∅]; exact k10.get _ _ hq9,(hm9.ka k10).set e10,by rw[bw ∅]; exact k10.get _ _ ht9,(f9.ka k10).own hrt,(k9.trans (k10.kp r)).late kk.len])
  ·rintro Z S9 ⟨⟨x9,x13,x14,rfl⟩,hdd,hq9,hm9,ht9,f9,k9⟩;exact hK3 _ _ (ci (hn3 _ _ (hK _ _ (ci (hn2 _ _ #[#[_,_,_,_,_,_,rfl],hdd,hq9,hm9,f9,k9])))))
 ·rintro Z S6 ⟨⟨x9,x10,x11,x12,x13,x14,rfl⟩,⟨kvd,fs,e6,hd⟩,hq6,hm6,f6,k6⟩;refine hK _ _ (st ?_);left;exact ya (Q:=λp=>Q' (.rt p.1,p.2)) e6 hd hsz hml hnl hnm λw S8 hw k8=>k w S8 hw (f6.ka k8) (k6.trans (k8.kp r))
end
abbrev Tr:HZ->W->Prop
 | _,.int _=>OX
 | _,.str _=>OX
 | _,.non=>OX
 | n+1,.tup xs=>xs.length<=1000/\∀x∈xs,Tr n x
 | _,_=>JR
def lW:∀n:HZ,gA (Jj n (.bl true))=ba (Jj n true)
 | 0=>rfl
 | n+1=>by rw[Ki,gA,lW n]; rfl
def AU (n:HZ):(Jj n true).all id=true:=by
 rw[IG];intro x hx;rw[(List.mem_replicate.mp hx).2]; rfl
section
variable{defs:HN (IH×Df)}{fuel:HZ}
def AV (hg:Is defs ("_law_alike" : IH) 2 2 bF):∀(n d:HZ) (w:W) (S:aa) (Q:QW),Tr n w->(∀S',Ka S S'->Q (.bl true,S'))->wO (aV (am defs fuel (d+n+1)) "_law_alike" 2 [w,w] S) Q:=by
 intro n
 induction n with
 | zero=>
  intro d w S Q hw k;refine ay hg rfl rfl λQ' hR=>?_
  replace k:=hR _ _ (k S .refl);clear hR;show wZ _ _ bF [ba w,ba w] S Q';dsimp only[bF];cases w with
  | int x=>
   refine aH λK hK=>cM (λQ q=>q) (hK _ _ ?_)
   refine aH λK hK=>cM (λQ q=>#[λz=>(by cases z),λ_=>q]) (hK _ _ ?_)
   refine aH λK hK=>kj (λQ q=>q) λQ2 _ hr=>st ?_
   dsimp only[wS,wE,wV,wG];refine ac (show wX S (.int x) "int" = ba true from rfl) #[λ_=>?_,λz=>by cases z]
   dsimp only[fD,aD];rw[Jm];exact hr _ _ k
  | str x=>
   refine aH λK hK=>cM (λQ q=>q) (hK _ _ ?_)
   refine aH λK hK=>cM (λQ q=>#[λz=>(by cases z),λ_=>q]) (hK _ _ ?_)
   refine aH λK hK=>cM (λQ q=>q) (hK _ _ ?_)
   refine aH λK hK=>kj (λQ q=>q) λQ2 _ hr=>st ?_
   dsimp only[wS,wE,wV,wG];refine ac (show wX S (.str x) "str" = ba true from rfl) #[λ_=>?_,λz=>by cases z]
   dsimp only[Bw,aD];rw[Jm];exact hr _ _ k
  | non=>
   refine aH λK hK=>kj (λQ q=>q) λQ2 _ hr=>st ?_
   dsimp only[wS,wE,wV,wG];exact ac (show cr .is .non .non S=ba (.bl true,S)from rfl) (hr _ _ k)
  | _=>exact hw.elim
 | succ n ih=>
  intro d w S Q hw k;refine ay hg rfl rfl λQ' hR=>?_
  replace k:∀S',Ka S S'->Q' (.rt (.bl true),S'):=λS' a=>hR _ _ (k S' a)
  clear hR;show wZ _ _ bF [ba w,ba w] S Q';dsimp only[bF];cases w with
  | int x=>
   refine aH λK hK=>cM (λQ q=>q) (hK _ _ ?_)
   refine aH λK hK=>cM (λQ q=>#[λz=>(by cases z),λ_=>q]) (hK _ _ ?_)
   refine aH λK hK=>kj (λQ q=>q) λQ2 _ hr=>st ?_
   dsimp only[wS,wE,wV,wG];refine ac (show wX S (.int x) "int" = ba true from rfl) #[λ_=>?_,λz=>by cases z]
   dsimp only[fD,aD];rw[Jm];exact hr _ _ (k _ .refl)
  | str x=>
   refine aH λK hK=>cM (λQ q=>q) (hK _ _ ?_)
   refine aH λK hK=>cM (λQ q=>#[λz=>(by cases z),λ_=>q]) (hK _ _ ?_)
   refine aH λK hK=>cM (λQ q=>q) (hK _ _ ?_)
   refine aH λK hK=>kj (λQ q=>q) λQ2 _ hr=>st ?_
   dsimp only[wS,wE,wV,wG];refine ac (show wX S (.str x) "str" = ba true from rfl) #[λ_=>?_,λz=>by cases z]
   dsimp only[Bw,aD];rw[Jm];exact hr _ _ (k _ .refl)
  | tup xs=>
   obtain⟨hl,hx⟩:=hw;refine aH λK hK=>cM (λQ q=>q) (hK _ _ ?_)
   refine aH λK hK=>cM (λQ q=>#[λz=>(by cases z),λ_=>q]) (hK _ _ ?_)
   refine aH λK hK=>cM (λQ q=>q) (hK _ _ ?_)
   refine aH λK hK=>cM (λQ q=>q) (hK _ _ ?_)
   refine aH λK hK=>cM (λQ q=>#[λz=>(by cases z),λ_=>q]) (hK _ _ ?_)
   refine st ?_;left;refine aU (aU ?_);dsimp only[fD,aD,wB];rw[Jm];refine#[λ_=>?_,λz=>by cases z]
   refine dv (xs.length:Ip) (λi ys Z2 S2=>(∃a1,Z2=[gV,a1,ba (.tup xs),ba (.tup xs)])/\ys=Jj i (.bl true)/\Ka S S2) rfl rfl rfl ∅ ?_ ?_ ?_
   ·dsimp only[wE,wA,wV,wG];exact aU #[rfl,#[gV,rfl],rfl,.refl]
   ·rintro i ys Z2 S2 hi ⟨⟨a1,rfl⟩,rfl,k2⟩;have hi':i < xs.length:=∅
    dsimp only[eX,wC,wE,wA,wV,wG,Iq];refine#[λ_=>ak (IT i) (by rw[IB]; exact Ig hi') (ak (IT i) (by rw[IB]; exact Ig hi') (ih d _ _ _ (hx _ (Jh hi')) λS3 k3=>#[#[_,rfl],?_,k2.trans k3])),λz=>by cases z]
    rw[List.replicate_succ']
   ·rintro ys Z2 S2 ⟨_,rfl,k2⟩;rw[IB];refine#[iE (by rw[Ob]; exact hl),ac (a:=(.bl true,S2++[.lst (Jj xs.length (.bl true))])) ?_ (k _ (k2.trans .push))]
    simp only[Bi.fn,Cv,ar af,lW,Ja,AU]
  | non=>
   refine aH λK hK=>kj (λQ q=>q) λQ2 _ hr=>st ?_
   dsimp only[wS,wE,wV,wG];exact ac (show cr .is .non .non S=ba (.bl true,S)from rfl) (hr _ _ (k _ .refl))
  | _=>exact hw.elim
end
abbrev tj:Ss:=
 #v[.ite (.cmp .gt (.v 2) (.v 3)) #v[.ret (.ix (.ix (.ix (.v 1) (.v 2)) (.c (.int 1))) (.v 3))] .nil,.ret (.ix (.ix (.ix (.v 0) (.c (.int 1))) (.ix (.ix (.ix (.v 1) (.v 3)) (.c (.int 1))) (.v 2))) (.c (.int 1)))]
abbrev kA:Ss:=
 #v[.ret (.bi .tuple #v[.comp (.own "point_over" 4 #v[.v 4,.v 5,.sl (.v 3) .no (.yes (.v 1)),.v 2]) (.tp [1,2]) (.enu #v[.v 2]) .nil [gV,gV,gV,ba 2,ba 0,ba 1]])]
abbrev bN:Ss:=
 #v[.ret (.tup #v[.ix (.ix (.v 1) (.v 3)) (.c (.int 0)),.bi .tuple #v[.comp (.own "way" 4 #v[.v 3,.v 4,.v 2,.v 1]) (.nm 1) (.seq (.v 2)) .nil [gV,gV,ba 3,ba 0,ba 1]]])]
abbrev aX:Ss:=
 #v[.set 3 (.bi .list #v[.bi .range #v[.v 1]]),.set 4 (.lst .nil),.whl (.cmp .lt (.bi .len #v[.v 4]) (.v 2)) #v[.ex (.me .append (.v 4) #v[.me .pop (.v 3) #v[.own "_law_pick" 2 #v[.v 0,.bi .len #v[.v 3]]]])],.ret (.bi .tuple #v[.v 4])]
abbrev bO:Ss:=
 #v[.set 2 (.lst #v[.tup .nil]),.loop (.nm 3) (.rng #v[.v 1]) #v[.set 2 (.comp (.op .add (.ix (.v 3) (.op .fdiv (.v 1) (.v 2))) (.tup #v[.op .mod (.v 1) (.v 2)])) (.nm 1) (.rng #v[.op .mul (.bi .len #v[.v 2]) (.v 0)]) .nil [gV,gV,ba 0,ba 2])],.ret (.v 2)]
abbrev cC:Ss:=
 #v[.set 2 (.lst #v[.tup .nil]),.loop (.nm 3) (.rng #v[.v 1]) #v[.set 4 (.lst .nil),.loop (.nm 5) (.rng #v[.bi .len #v[.ix (.v 0) (.c (.int 0))]]) #v[.ex (.me .extend (.v 4) #v[.comp (.tup #v[.v 2,.v 1]) (.nm 1) (.seq (.own "_law_digits" 2 #v[.bi .len #v[.ix (.v 0) (.c (.int 1))],.v 3])) .nil [gV,gV,ba 5]])],.set 2 (.comp (.op .add (.ix (.v 3) (.op .fdiv (.v 1) (.bi .len #v[.v 2]))) (.tup #v[.ix (.v 2) (.op .mod (.v 1) (.bi .len #v[.v 2]))])) (.nm 1) (.rng #v[.op .mul (.bi .len #v[.v 2]) (.bi .len #v[.v 4])]) .nil [gV,gV,ba 4,ba 2])],.ret (.v 2)]
section
variable{defs:HN (IH×Df)}{fuel d:HZ}{S:aa}{r:HZ}{Q:QW}
def yq {M:IH->FF}{m0 b0:W}{ns:HN IH}{bs:HN Ip}{a:HZ}{u:Wd}{i j:HZ}{Q:QO}(hb:GoodB bs)(hl:ns.length=bs.length)(hu:GoodW a bs.length u)(hi:i < u.length)(hj:j < u.length)(hij:i≠j)(k:Q (.rt (.int (bP bs u i j)),S)) :
  wZ M fuel tj [ba (.tup [m0,.tup (Iz aK ns bs),b0]),ba (aA u),ba (.int i),ba (.int j)] S Q:=by
 have hpi:=aq (d:=(0,[])) hi;have hpj:=aq (d:=(0,[])) hj;unfold bP at k;dsimp only[tj];nofun
 dsimp only[wS,wT,wE,wV,wG,xF,wO,wB,aA];refine aC (Q0:=Q) (λh Q2 _ hr=>?_) (λh Q2 hn _=>?_)
 ·have hji:j < i:=by have:=Je h; omega
  rw[IF hji]at k;have hw:j < (u.getD i (0,[])).2.length:=by rw[hu.len i _ hpi]; exact hji
  refine st ?_;dsimp only[wS,wE,wV,wG];refine ak (IT i) (jh hi) (ak #v[] rfl (ak (IT j) ?_ (hr _ _ k)))
  rw[IB,Ii,aq (d:=0) hw]; rfl
 ·have hji:¬ j < i:=by have:=Kt h; omega
  rw[IP hji]at k;refine ci (hn _ _ (hK _ _ ?_));clear hn hK;have hw:i < (u.getD j (0,[])).2.length:=by rw[hu.len j _ hpj]; omega
  have hg:=aq (d:=0) hw;obtain⟨g1,g2⟩:=hu.way j _ hpj _ (Ir hg);obtain⟨b,hb1,hb2,hb3⟩:=hb.rng ((u.getD j (0,[])).2.getD i 0).toNat ∅
  have hn:((u.getD j (0,[])).2.getD i 0).toNat < ns.length:=∅
  rw[getD_some hb1]at k;refine st ?_;dsimp only[wS,wE,wV,wG];refine ak #v[] rfl (ak (IT j) (jh hj) (ak #v[] rfl (ak (IT i) ?_ (ak g1 (ny (Ig hn) hb1) (ak #v[] rfl k)))))
  rw[IB,Ii,hg]; rfl
structure Parts (defs:HN (IH×Df)):Prop where
 way:Is defs ("way" : IH) 4 4 tj
 over:Is defs ("point_over" : IH) 4 4 bN
def BC (P:Parts defs){m0 b0:W}{ns:HN IH}{bs:HN Ip}{a:HZ}{u:Wd}{i j:HZ}(hb:GoodB bs)(hl:ns.length=bs.length)(hu:GoodW a bs.length u)(hi:i < u.length)(hj:j < u.length)(hij:i≠j)(k:Q (.int (bP bs u i j),S)) :
  wO (aV (am defs fuel (d+1)) "way" 4 [.tup [m0,.tup (Iz aK ns bs),b0],aA u,.int i,.int j] S) Q:=
 ay P.way rfl rfl λQ' hR=>yq hb hl hu hi hj hij (hR _ _ k)
def rD (P:Parts defs){m0 b0:W}{ns:HN IH}{bs:HN Ip}{a:HZ}{u:Wd}{ps:HN HZ}{i:HZ}(hb:GoodB bs)(hl:ns.length=bs.length)(hu:GoodW a bs.length u)(hps:∀p∈ps,p < u.length/\i≠p)(hi:i < u.length)(hsz:ps.length<=1000)(k:∀S',Ka S S'->Q (bJ ((u.getD i (0,[])).1,ps.map λq=>bP bs u i q),S')) :
  wO (aV (am defs fuel (d+2)) "point_over" 4 [.tup [m0,.tup (Iz aK ns bs),b0],aA u,.tup (ah ps),.int i] S) Q:=by
 refine ay P.over rfl rfl λQ' hR=>?_
 replace k:∀S',Ka S S'->Q' (.rt (bJ ((u.getD i (0,[])).1,ps.map λq=>bP bs u i q)),S'):=λS' a=>hR _ _ (k S' a)
 clear hR;show wZ _ _ bN [ba (.tup [m0,.tup (Iz aK ns bs),b0]),ba (aA u),ba (.tup (ah ps)),ba (.int i)] S Q';generalize hR0:W.tup [m0,.tup (Iz aK ns bs),b0]=R;dsimp only[bN];refine st ?_;left;refine ak (IT i) (jh hi) (ak #v[] rfl ?_)
 refine sR (ah ps) (λj ys Z2 S2=>(∃a1,Z2=[gV,a1,ba (.int i),ba R,ba (aA u)])/\ys=(ps.take j).map (λq=>W.int (bP bs u i q))/\Ka S S2) rfl rfl rfl #[rfl,#[gV,rfl],rfl,.refl] ?_ ?_
 ·rintro j w ys Z2 S2 hw ⟨⟨a1,rfl⟩,rfl,k2⟩;unfold ah at hw;rw[Ii,HU]at hw;obtain⟨q,hq,rfl⟩:=hw;obtain⟨hqu,hqi⟩:=hps q (Ir hq);refine ac (show eZ (.nm 1) (.int (q:Ip)) [gV,a1,ba (.int i),ba R,ba (aA u)] S2=ba ([gV,ba (.int (q:Ip)),ba (.int i),ba R,ba (aA u)],S2)from rfl) ?_
  dsimp only[eX,wC,wE,wA,wV,wG];subst hR0;refine#[λ_=>BC (d:=d) P hb hl hu hi hqu hqi #[#[_,rfl],?_,k2],λz=>by cases z]
  rw[IS,hq];simp
 ·rintro ys Z2 S2 ⟨_,rfl,k2⟩;rw[show(ah ps).length=ps.length from HQ ..,Jp]
  refine#[iE (by rw[HQ]; exact hsz),cx af ?_]
  have:=k _ (k2.trans (Ka.push (o:=O.lst (ps.map λq=>W.int (bP bs u i q)))))
  unfold bJ at this;rw[JQ]at this;exact this
def BE (P:Parts defs)(hp:Is defs ("part" : IH) 3 3 kA){m0 b0:W}{ns:HN IH}{bs:HN Ip}{a:HZ}{u:Wd}{ps:HN HZ}(hb:GoodB bs)(hl:ns.length=bs.length)(hu:GoodW a bs.length u)(hps:∀p∈ps,p < u.length)(hnd:ps.Nodup)(hsz:ps.length<=1000)(k:∀S',Ka S S'->Q (aA (aj bs u ps),S')) :
  wO (aV (am defs fuel (d+3)) "part" 3 [.tup [m0,.tup (Iz aK ns bs),b0],aA u,.tup (ah ps)] S) Q:=by
 refine ay hp rfl rfl λQ' hR=>?_
 replace k:∀S',Ka S S'->Q' (.rt (aA (aj bs u ps)),S'):=λS' a=>hR _ _ (k S' a)
 clear hR;show wZ _ _ kA [ba (.tup [m0,.tup (Iz aK ns bs),b0]),ba (aA u),ba (.tup (ah ps))] S Q';generalize hR0:W.tup [m0,.tup (Iz aK ns bs),b0]=R;dsimp only[kA];refine st ?_;dsimp only[wS,wE,wA];refine AD (ah ps) (λj ys Z2 S2=>(∃a1 a2,Z2=[gV,a1,a2,ba (.tup (ah ps)),ba R,ba (aA u)])/\ys=((aj bs u ps).take j).map bJ/\Ka S S2) rfl rfl rfl #[rfl,#[gV,gV,rfl],rfl,.refl] ?_ ?_
 ·rintro j w ys Z2 S2 hw ⟨⟨a1,a2,rfl⟩,rfl,k2⟩;unfold ah at hw;rw[Ii,HU]at hw;obtain⟨q,hq,rfl⟩:=hw;have hj:j < ps.length:=(Il.mp hq).1;have eq:q=ps[j]:=(Il.mp hq).2.symm;refine ac (show eZ (.tp [1,2]) (.tup [.int (j:Ip),.int (q:Ip)]) [gV,a1,a2,ba (.tup (ah ps)),ba R,ba (aA u)] S2=ba ([gV,ba (.int (j:Ip)),ba (.int (q:Ip)),ba (.tup (ah ps)),ba R,ba (aA u)],S2)from rfl) ?_
  dsimp only[eX,wC,wE,wA,wP,wV,wG,wN];refine#[λ_=>ac (a:=(.tup (ah (ps.take j)),S2)) ?_ ?_,λz=>by cases z]
  ·simp only[nX,ii];unfold ah;rw[MO]
  ·subst hR0;refine rD (d:=d) P hb hl hu (λp hp=>#[hps p (KL hp),?_]) (hps q (Ir hq)) (by rw[JE]; omega) λS3 k3=>#[#[_,_,rfl],?_,k2.trans k3]
   ·obtain⟨m,hm,e⟩:=JW.mp hp;rw[JE]at hm;rw[Lh]at e;rw[eq,<- e];intro z;have:=(Kv hnd).mp z;omega
   ·have ep:(aj bs u ps)[j]?=ba ((u.getD q (0,[])).1,(ps.take j).map λq'=>bP bs u q q'):=by
     unfold aj;rw[Ii,KC hj,Ja,getD_some hq]
    rw[IS,ep];simp
 ·rintro ys Z2 S2 ⟨_,rfl,k2⟩;rw[show(ah ps).length=ps.length from HQ ..,<- aO bs u ps,Jp]
  exact#[iE (by rw[HQ,aO]; exact hsz),cx af (k _ (k2.trans .push))]
end
section
variable{S:aa}{Q:QW}
def pT:∀(xs:HN HZ) (i:HZ),(ah xs).eraseIdx i=ah (xs.eraseIdx i)
 | [],i=>by cases i <;> rfl
 | x::xs,0=>rfl
 | x::xs,i+1=>by
  show W.int (x:HZ)::(ah xs).eraseIdx i=W.int (x:HZ)::ah (xs.eraseIdx i);rw[pT xs i]
def uV (n:HZ):zI 0 ((n:Ip) - 0).toNat=ah (ID n):=by
 unfold zI ah;rw[show((n:Ip) - 0).toNat=n by omega]
 exact JM λk _=>by rw[M7]
def AW {i n:HZ}(h:S[i]?=ba (.rng 0 n))(hn:n<=1000)(q:Q (.ref S.length,S++[.lst (ah (ID n))])):wO (Bi.list.fn [.ref i] S) Q:=by
 refine ac ?_ q;have h1:vV S i=ba (0,(n:Ip)):=by simp[vV,h]
 have h2:ja [.ref i] S=ba (.ref S.length,S++[.lst (ah (ID n))]):=by
  simp only[ja,h1];rw[IF #[∅,∅,∅,∅,by rw[Jq]; omega],uV]
 simp only[Bi.fn,sD,h2]
def uW {M:IH->FF}{fuel:HZ}{Z:Fm}{K:Fm->aa->Prop}{Q:QO}{i j n:HZ}{m:Ip}(hm:m=n)(hv:∀Q:W->Prop,Q (.int m)->wV Z i Q)(hn:n<=1000)(k:∀(t:HZ) (S':aa),t=S.length+1->S'=S++[O.rng 0 n]++[.lst (ah (ID n))]->K (Z.set j (ba (.ref t))) S') :
  wS M fuel (.set j (.bi .list #v[.bi .range #v[.v i]])) Z S K Q:=by
 have e:Bi.range.fn [.int m] S=ba (.ref S.length,S++[.rng 0 m]):=by
  simp only[Bi.fn,mJ];rw[IF #[∅,∅]]
 have h:wO (Bi.list.fn [.ref S.length] (S++[O.rng 0 m])) λp=>K (Z.set j (ba p.1)) p.2:=by
  subst hm;exact AW af hn (k _ _ (by simp) rfl)
 have g:wO (Bi.range.fn [.int m] S) λp=>wO (Bi.list.fn [p.1] p.2) λp=>K (Z.set j (ba p.1)) p.2:=by
  rw[e];exact h
 dsimp only[wS,wE,wA];exact hv _ g
def Fw {t:HZ}{xs:HN W}{v:Ip}{w:W}(h:S[t]?=ba (.lst xs))(h0:0<=v)(hw:xs[v.toNat]?=ba w)(hl:xs.length<=1000)(q:Q (w,S.set t (.lst (xs.eraseIdx v.toNat)))):wO (Me.pop.fn (.ref t) [.int v] S) Q:=by
 refine ac ?_ q;have hv:=(Il.mp hw).1;have hs:seqIndex? v xs.length=ba v.toNat:=by
  unfold seqIndex?;rw[IP (show ¬ v < 0 by omega)]
  exact IF (by rw[HX]; exact#[JG h0,JG ∅])
 simp only[Me.fn,zH,bZ h];rw[IF #[∅,∅]]
 simp only[hs,hw]
end
section
variable{defs:HN (IH×Df)}{fuel d:HZ}{S:aa}{r:HZ}{Q:QW}
def AX (G:Gen defs)(hg:Is defs ("_law_drawn_points" : IH) 3 5 aX){many size:HZ}(hf:Fl S r)(hm:many<=900)(hs:size<=many)(hfu:size < fuel)(k:∀(ps:HN HZ) S',ps.length=size->ps.Nodup->(∀p∈ps,p < many)->Fl S' r->Kp r S S'->Q (.tup (ah ps),S')) :
  wO (aV (am defs fuel (d+2)) "_law_drawn_points" 3 [.ref r,.int many,.int size] S) Q:=by
 refine ay hg rfl rfl λQ' hR=>?_
 replace k:∀(ps:HN HZ) S',ps.length=size->ps.Nodup->(∀p∈ps,p < many)->Fl S' r->Kp r S S'->Q' (.rt (.tup (ah ps)),S'):=λa b c e f g h=>hR _ _ (k a b c e f g h)
 clear hR;show wZ _ _ aX [ba (.ref r),ba (.int many),ba (.int size),gV,gV] S Q';have hrt:=hf.lt;dsimp only[aX];nofun
 generalize hM:(many:Ip)=tx at hK ⊢;refine uW hM.symm (λQ q=>q) ∅ λt S1 ht hS1=>hK _ _ ?_
 clear hK K;subst hM;dsimp only[Iq];have e1:S1[t]?=ba (.lst (ah (ID many))):=by
  rw[hS1,show t=(S++[O.rng 0 many]).length by rw[ht]; simp]; exact af
 have l1:S.length < t:=∅
 have f1:Fl S1 r:=by rw[hS1]; exact(hf.ka .push).ka .push
 have k1:Kp r S S1:=by rw[hS1]; exact Kp.push.trans .push
 have l2:=dk e1;clear hS1 ht;refine st ?_;dsimp only[wS,wE,wA,Iq];nofun
 have nl:∀xs:HN HZ,(ah xs).length=xs.length:=λxs=>HQ ..
 refine xJ (λm Z S'=>Z=[ba (.ref r),ba (.int many),ba (.int size),ba (.ref t),ba (.ref S1.length)]/\∃ls ps:HN HZ,S'[t]?=ba (.lst (ah ls))/\S'[S1.length]?=ba (.lst (ah ps))/\(ls++ps).Nodup/\(∀p∈ls++ps,p < many)/\ls.length+ps.length=many/\ps.length+m=size/\Fl S' r/\Kp r S S') size rfl rfl hfu #[rfl,ID many,[],al e1,af,by rw[JT]; exact MK,λp hp=>by rw[JT]at hp; exact IR.mp hp,by simp,by simp,f1.ka .push,k1.trans .push] ?_
 rintro m Z S2 ⟨rfl,ls,ps,e2,e3,nd,lt,hl,hsz,f2,k2⟩;dsimp only[wT,wE,wA,wV,wG];refine fF e3 ?_;rw[nl];dsimp only[xE,aD,wB];refine#[λh=>?_,λh=>?_]
 ·have h:(ps.length:Ip) < size:=Je h;refine#[m - 1,∅,λQ2 hn _=>?_]
  clear hK k;refine st ?_;left;refine#[dg e3,dg e2,fF e2 ?_];rw[nl];refine aI (d:=d) G.pick f2 ∅ ∅ λv S3 v0 v1 f3 k3=>?_
  have e2':=k3.get _ _ ∅ e2
  have e3':=k3.get _ _ ∅ e3
  have hv:v.toNat < ls.length:=∅
  refine Fw e2' v0 (jx (Ig hv)) (by rw[nl]; omega) ?_
  have e3s:(S3.set t (.lst ((ah ls).eraseIdx v.toNat)))[S1.length]?=ba (.lst (ah ps)):=by rw[bw ∅]; exact e3'
  refine lQ e3s (by rw[nl]; omega) (ci (hn _ _ #[rfl,ls.eraseIdx v.toNat,ps++[ls[v.toNat]],?_,?_,?_,?_,?_,?_,(f3.own ∅).own ∅,((k2.trans k3).late ∅).late (by have:=k1.len; omega)]))
  ·rw[bw ∅,br e2']
   rw[pT]
  ·rw[br e3s];unfold ah;rw[II]; rfl
  ·have hp:(ls.eraseIdx v.toNat++(ps++[ls[v.toNat]])).Perm (ls++ps):=by
    have h1:(ls[v.toNat]::ls.eraseIdx v.toNat).Perm ls:=gP hv;have h2:(ls.eraseIdx v.toNat++(ps++[ls[v.toNat]])).Perm (ls[v.toNat]::(ls.eraseIdx v.toNat++ps)):=by
     rw[<- JO]; exact List.perm_append_singleton _ _
    exact h2.trans ((h1.append_right ps))
   exact hp.nodup_iff.mpr nd
  ·intro p hp;refine lt p ?_;rcases IY.mp hp with h|h
   ·exact JN _ (List.mem_of_mem_eraseIdx h)
   ·rcases IY.mp h with h|h
    ·exact IU _ h
    ·rw[Ik.mp h]; exact JN _ (Jh hv)
  ·rw[LP hv,Io,Kk]; omega
  ·rw[Io,Kk]; omega
 ·have h:¬ (ps.length:Ip) < size:=Kt h;refine hK _ _ (st ?_);left;exact cx e3 (k ps _ ∅ (J9.mp nd).2.1 (λp hp=>lt p (IU _ hp)) f2 k2)
end
abbrev bE (n:HZ):HZ->HN (HN Ip)
 | 0=>[[]]
 | k+1=>(ID ((bE n k).length*n)).map λi=>(bE n k).getD (i / n) []++[((i % n:HZ):Ip)]
abbrev bG (a n k:HZ):HN Pt:=(ID a).flatMap λ(m:HZ)=>(bE n k).map λds=>(((m:HZ):Ip),ds)
abbrev cm (a n:HZ):HZ->HN Wd
 | 0=>[[]]
 | k+1=>(ID ((cm a n k).length*(bG a n k).length)).map λi=>(cm a n k).getD (i / (bG a n k).length) []++[(bG a n k).getD (i % (bG a n k).length) (0,[])]
def AY {n k:HZ}{ds:HN Ip}:ds∈bE n k->ds.length<=k:=by
 induction k generalizing ds with
 | zero=>intro h; cases Ik.mp h; exact Ih _
 | succ k ih=>
  intro h;obtain⟨i,hi,rfl⟩:=Iy.mp h;have hi:=IR.mp hi;have hn:0 < n:=by
   rcases Nu n with h|h
   ·rw[h,N1]at hi; omega
   ·exact h
  have hlt:i / n < (bE n k).length:=KN (by rw[L0]; exact hi)
  have:=ih (Ir (aq (d:=[]) hlt));rw[Io,Kk]; omega
def BF {M:IH->FF}{Z:Fm}{S:aa}{a b:E}{x y:Ip}{Q:QW}(ha:∀Q:QW,Q (.int x,S)->wE M a Z S Q)(hb:∀Q:QW,Q (.int y,S)->wE M b Z S Q)(h1 : -(2 ^ 64) < y)(h2:y < 2 ^ 64)(q:Q (.int (x*y),S)):wE M (.op .mul a b) Z S Q:=by
 have em:eS .mul (.int x) (.int y) S=ba (.int (x*y),S):=po h1 h2;dsimp only[wE];refine ha _ ?_;refine hb _ ?_;dsimp only;rw[em];exact q
def gI {n:HZ}:∀k:HZ,(bE n k).length=n ^ k
 | 0=>rfl
 | k+1=>by rw[bE,HQ,IV,gI k,PD]
def yr {n k:HZ}(hn:n<=3)(hk:k<=5):(bE n k).length<=243/\(k<=4->(bE n k).length<=81):=by
 rw[gI];exact#[IL (Mc hn k) (LW (n:=3) #v[] hk),λh=>IL (Mc hn k) (LW (n:=3) #v[] h)]
section
variable{defs:HN (IH×Df)}{fuel d:HZ}{S:aa}{r:HZ}{Q:QW}
def yt (hg:Is defs ("_law_digits" : IH) 2 4 bO){n k:HZ}(hn1:1<=n)(hn3:n<=3)(hk5:k<=5)(kk:∀(q:HZ) (S':aa),S'[q]?=ba (.lst ((bE n k).map λds=>.tup (ag ds)))->S.length<=q->Ka S S'->Q (.ref q,S')) :
  wO (aV (am defs fuel (d+1)) "_law_digits" 2 [.int n,.int k] S) Q:=by
 refine ay hg rfl rfl λQ' hR=>?_
 replace kk:∀(q:HZ) (S':aa),S'[q]?=ba (.lst ((bE n k).map λds=>.tup (ag ds)))->S.length<=q->Ka S S'->Q' (.rt (.ref q),S'):=λa b c e f=>hR _ _ (kk a b c e f)
 clear hR;show wZ _ _ bO [ba (.int n),ba (.int k),gV,gV] S Q';dsimp only[bO];refine st ?_;dsimp only[wS,wE,wA,Iq];nofun
 refine dY (k:Ip) (λi Z S'=>∃(q:HZ) (a3:HY W),Z=[ba (.int n),ba (.int k),ba (.ref q),a3]/\S'[q]?=ba (.lst ((bE n i).map λds=>.tup (ag ds)))/\S.length<=q/\Ka S S') rfl rfl ∅ #[rfl,_,_,rfl,af,Ih _,.push] ?_ ?_
 ·rintro i Z S1 hi ⟨q,a3,rfl,e1,hq,k1⟩ Q2 hn _;clear hK kk;obtain⟨b9,b3⟩:=yr (n:=n) (k:=i) hn3 ∅
  have b3:=b3 ∅
  have hP:(bE n i).length*n<=243:=OA b3 hn3;have hPz:(((bE n i).length:Ip)*(n:Ip))=(((bE n i).length*n:HZ):Ip):=(N5 ..).symm;refine st ?_;dsimp only[wS,wE,Iq];refine dv ((((bE n i).length*n:HZ)):Ip) (λj ys Z2 S2=>(∃a1,Z2=[gV,a1,ba (.int n),ba (.ref q)])/\ys=((bE n (i+1)).take j).map (λds=>.tup (ag ds))/\S2=S1) rfl rfl rfl ∅ ?_ ?_ ?_
  ·refine BF (x:=(bE n i).length) (y:=n) (λQ q=>?_) (λQ q=>q) ∅ ∅ #[by rw[hPz],#[gV,rfl],rfl,rfl]
   dsimp only[wE,wA,wV,wG];refine fF e1 ?_;rw[HQ];exact q
  ·rintro j ys Z2 S2 hj ⟨⟨a1,rfl⟩,rfl,rfl⟩;have hj':j < (bE n i).length*n:=∅
   have hlt:j / n < (bE n i).length:=KN (by rw[L0]; exact hj')
   have hg:=aq (d:=[]) hlt;have hdl:=AY (Ir hg);dsimp only[eX,wC,wE,wA,wV,wG,Iq];refine#[λ_=>ac (gE ∅ ∅) ?_,λz=>by cases z]
   refine ig e1 (w:=.tup (ag ((bE n i).getD (j / n) []))) (M1 ∅ ∅) (by rw[show((j:Ip) / (n:Ip)).toNat=j / n from rfl,Ii,hg]; rfl) ?_
   refine ac (hX ∅) (ac (gF (iE (by rw[Io,show(ag ((bE n i).getD (j / n) [])).length=((bE n i).getD (j / n) []).length from HQ ..]; show _+1<=1000; omega))) #[#[_,rfl],?_,rfl])
   have ed:(bE n (i+1))[j]?=ba ((bE n i).getD (j / n) []++[((j % n:HZ):Ip)]):=by
    rw[bE,Ii,KC hj']; rfl
   rw[IS,ed];simp[ag]
  ·rintro ys Z2 S2 ⟨_,rfl,rfl⟩;have hl:(bE n (i+1)).length=(bE n i).length*n:=by rw[bE,HQ,IV]
   rw[IB,<- hl,Jp];refine#[iE (by rw[HQ,hl]; omega),ci (hn _ _ #[_,_,rfl,af,k1.len,k1.trans .push])]
 ·rintro Z S1 ⟨q,a3,rfl,e1,hq,k1⟩;exact hK _ _ (st (kk q S1 (by rw[IB]at e1; exact e1) hq k1))
end
def AZ {a n k:HZ}{u:Wd}:u∈cm a n k->u.length<=k:=by
 induction k generalizing u with
 | zero=>intro h; cases Ik.mp h; exact Ih _
 | succ k ih=>
  intro h;obtain⟨i,hi,rfl⟩:=Iy.mp h;have hi:=IR.mp hi;have hlt:i / (bG a n k).length < (cm a n k).length:=KN (by rw[L0]; exact hi)
  have:=ih (Ir (aq (d:=[]) hlt));rw[Io,Kk]; omega
def kB {a n k:HZ}:(bG a n k).length=a*n ^ k:=by
 unfold bG
 induction a with
 | zero=>simp
 | succ a ih=>rw[Ld,ON,Io,ih]; simp[gI,Po]
def dO {a n:HZ}(k:HZ):(cm a n (k+1)).length=(cm a n k).length*(bG a n k).length:=by rw[cm,HQ,IV]
def pU {a n k:HZ}(ha1:1<=a)(ha:a<=3)(hn1:1<=n)(hn:n<=3)(han:a*n<=6)(hk:k<=2):1<=(bG a n k).length/\(bG a n k).length<=27/\(cm a n k).length*(bG a n k).length<=216:=by
 have w0:(cm a n 0).length=1:=rfl;have w1:=dO (a:=a) (n:=n) 0;have w2:=dO (a:=a) (n:=n) 1;simp only[kB]at w1 w2 ⊢;rcases(show k=0\/k=1\/k=2 by omega)with rfl|rfl|rfl <;> rcases(show a=1\/a=2\/a=3 by omega)with rfl|rfl|rfl <;> rcases(show n=1\/n=2\/n=3 by omega)with rfl|rfl|rfl <;> simp_all
def kC {M:IH->FF}{Z:Fm}{S:aa}{elt e:E}{tg:Tg}{cs:Es}{cap:HN (HY HZ)}{Q:QW}(oi:da e=true)(oe:da elt=true)(oc:lO cs=true)(he:wE M e Z S λp=>∃(t:HZ) (xs:HN W) (I:HZ->HN W->Fm->aa->Prop),p.1=.ref t/\I 0 [] (eh cap Z) p.2/\(∀i ys Z S,I i ys Z S->S[t]?=ba (.lst xs))/\
  (∀(i:HZ) (w:W) (ys:HN W) (Z:Fm) (S:aa),xs[i]?=ba w->I i ys Z S->wO (eZ tg w Z S) λq=>eX M elt cs q.1 q.2 (λy=>I (i+1) (ys++[y])) (I (i+1) ys))/\
  ∀ys Z S,I xs.length ys Z S->ys.length<=sizeLine/\Q (.ref S.length,S++[.lst ys])):Wp (az M (.comp elt tg (.seq e) cs cap) Z S) Q:=by
 obtain⟨w,S1,e1,t,xs,I,rfl,h0,hat,hstep,hend⟩:=bo oi he;exact iX (mi:=.live t) (S1:=S1) I oe oc (by simp only[iR,dX,e1,ar (hat _ _ _ _ h0)]) (λi ys Z S h=>by simp only[MI.at,ar (hat _ _ _ _ h)]) (by simp only[MI.len,ar (hat _ _ _ _ h0),Ja]) h0 hstep hend
section
variable{defs:HN (IH×Df)}{fuel d:HZ}{S:aa}{r:HZ}{Q:QW}
def Fx {t l:HZ}{xs ys:HN W}(h:S[t]?=ba (.lst xs))(h2:S[l]?=ba (.lst ys))(hl:xs.length+ys.length<=1000)(q:Q (.non,S.set t (.lst (xs++ys)))):wO (Me.extend.fn (.ref t) [.ref l] S) Q:=by
 refine ac ?_ q;simp only[Me.fn,gO,bZ h,bZ h2];rw[IF (iE hl)]
def yu (hd:Is defs ("_law_digits" : IH) 2 4 bO)(hg:Is defs ("_law_worlds" : IH) 2 6 cC){a n:HZ}{tx N:HN W}{b0:W}(hM:tx.length=a)(hN:N.length=n)(ha1:1<=a)(ha3:a<=3)(hn1:1<=n)(hn3:n<=3)(han:a*n<=6)
  (kk:∀(q:HZ) (S':aa),S'[q]?=ba (.lst ((cm a n 3).map aA))->S.length<=q->Ka S S'->Q (.ref q,S')) :
  wO (aV (am defs fuel (d+2)) "_law_worlds" 2 [.tup [.tup tx,.tup N,b0],.int 3] S) Q:=by
 refine ay hg rfl rfl λQ' hR=>?_
 replace kk:∀(q:HZ) (S':aa),S'[q]?=ba (.lst ((cm a n 3).map aA))->S.length<=q->Ka S S'->Q' (.rt (.ref q),S'):=λa b c e f=>hR _ _ (kk a b c e f)
 clear hR;show wZ _ _ cC [ba (.tup [.tup tx,.tup N,b0]),ba (.int 3),gV,gV,gV,gV] S Q';generalize hR0:W.tup [.tup tx,.tup N,b0]=R;dsimp only[cC];refine st ?_;dsimp only[wS,wE,wA,Iq];nofun
 refine dY 3 (λi Z S'=>∃(q:HZ) (a3 a4 a5:HY W),Z=[ba R,ba (.int 3),ba (.ref q),a3,a4,a5]/\S'[q]?=ba (.lst ((cm a n i).map aA))/\S.length<=q/\Ka S S') rfl rfl #v[] #[rfl,_,_,_,_,rfl,af,Ih _,.push] ?_ ?_
 ·rintro i Z S1 hi ⟨q,a3,a4,a5,rfl,e1,hq,k1⟩ Q2 hn _;clear hK kk;have hi2:i<=2:=∅
  obtain⟨p1,p27,hP⟩:=pU (k:=i) ha1 ha3 hn1 hn3 han hi2;have hq1:=dk e1;refine st ?_;dsimp only[wS,wE,wA,Iq];nofun
  refine iq rfl rfl ?_;dsimp only[wE,wA,wV,wG];subst hR0;refine ak #v[] rfl (aU ?_)
  rw[hM];refine#[(a:Ip),λm Z S'=>∃a5,Z=[ba (.tup [.tup tx,.tup N,b0]),ba (.int 3),ba (.ref q),ba (.int i),ba (.ref S1.length),a5]/\S'[S1.length]?=ba (.lst ((bG m n i).map bJ))/\S'[q]?=ba (.lst ((cm a n i).map aA))/\Ka S S',rfl,∅,#[a5,rfl,af,al e1,k1.trans .push],?_,?_]
  ·rintro m Z S2 hm ⟨a5,rfl,e2,e2q,k2⟩ Q3 hn3' _;clear hK hn;have hS12:=dk e2;refine st ?_;left;refine#[dg e2,?_];refine kC rfl rfl rfl ?_;dsimp only[wE,wA,wV,wG];refine ak #v[] rfl (aU ?_)
   rw[hN];refine yt (d:=d) hd hn1 hn3 ∅ λl S3 e3 hl k3=>?_
   refine#[l,(bE n i).map λds=>.tup (ag ds),λj ys Z2 S4=>(∃a1,Z2=[gV,a1,ba (.int m)])/\ys=((bE n i).take j).map (λds=>bJ ((m:Ip),ds))/\S4=S3,rfl,#[#[gV,rfl],rfl,rfl],λj ys Z2 S4 h=>by rw[h.2.2]; exact e3,?_,?_]
   ·rintro j w ys Z2 S4 hw ⟨⟨a1,rfl⟩,rfl,rfl⟩;rw[Ii,HU]at hw;obtain⟨ds,hds,rfl⟩:=hw;refine ac (show eZ (.nm 1) (.tup (ag ds)) [gV,a1,ba (.int m)] S4=ba ([gV,ba (.tup (ag ds)),ba (.int m)],S4)from rfl) ?_
    refine#[λ_=>#[#[_,rfl],?_,rfl],λz=>by cases z]
    rw[IS,hds];simp[bJ,ag]
   ·rintro ys Z2 S4 ⟨_,rfl,rfl⟩;rw[show((bE n i).map λds=>W.tup (ag ds)).length=(bE n i).length from HQ ..,Jp]
    have hdl:=(yr (n:=n) (k:=i) hn3 ∅).1
    have e2':=al (u:=O.lst ((bE n i).map λds=>bJ ((m:Ip),ds))) (k3.get _ _ e2)
    have hpm:(bG m n i).length<=27:=by
     rw[kB]at p27 ⊢;exact IL (LX _ ∅) p27
    refine#[iE (by rw[HQ]; omega),Fx e2' af (by rw[HQ,HQ]; omega) (ci (hn3' _ _ #[_,rfl,?_,?_,((k2.trans k3).trans .push).late k1.len]))]
    ·rw[br e2'];unfold bG;rw[Ld,ON,II];simp
    ·rw[bw ∅]; exact al (k3.get _ _ e2q)
  ·rintro Z S2 ⟨a5,rfl,e2,e2q,k2⟩;rw[IB]at e2;refine hK _ _ ?_;clear hK K;have hPz:(((cm a n i).length:Ip)*((bG a n i).length:Ip))=(((cm a n i).length*(bG a n i).length:HZ):Ip):=(N5 ..).symm;refine st ?_;dsimp only[wS,wE,Iq];refine dv (((cm a n i).length*(bG a n i).length:HZ):Ip) (λj ys Z2 S3=>(∃a1,Z2=[gV,a1,ba (.ref S1.length),ba (.ref q)])/\ys=((cm a n (i+1)).take j).map aA/\S3=S2) rfl rfl rfl ∅ ?_ ?_ ?_
   ·refine BF (x:=(cm a n i).length) (y:=(bG a n i).length) (λQ q'=>?_) (λQ q'=>?_) ∅ ∅ #[by rw[hPz],#[gV,rfl],rfl,rfl]
    ·dsimp only[wE,wA,wV,wG];refine fF e2q ?_;rw[HQ];exact q'
    ·dsimp only[wE,wA,wV,wG];refine fF e2 ?_;rw[HQ];exact q'
   ·rintro j ys Z2 S3 hj ⟨⟨a1,rfl⟩,rfl,rfl⟩;have hj':j < (cm a n i).length*(bG a n i).length:=∅
    have hlt:j / (bG a n i).length < (cm a n i).length:=KN (by rw[L0]; exact hj')
    have hg:=aq (d:=[]) hlt;have hwl:=AZ (Ir hg);have hmod:j % (bG a n i).length < (bG a n i).length:=NX _ p1;have hp:=aq (d:=(0,[])) hmod;dsimp only[eX,wC,wE,wA,wV,wG,Iq];refine#[λ_=>fF e2 ?_,λz=>by cases z]
    rw[HQ];refine ac (gE ∅ ∅) ?_
    refine ig e2q (w:=aA ((cm a n i).getD (j / (bG a n i).length) [])) (M1 ∅ ∅) (by rw[show((j:Ip) / ((bG a n i).length:Ip)).toNat=j / (bG a n i).length from rfl,Ii,hg]; rfl) (fF e2 ?_)
    rw[HQ];refine ac (hX ∅) (ig e2 (w:=bJ ((bG a n i).getD (j % (bG a n i).length) (0,[]))) (Lc _ ∅) (by rw[show((j:Ip) % ((bG a n i).length:Ip)).toNat=j % (bG a n i).length from rfl,Ii,hp]; rfl) ?_)
    refine ac (gF (iE (by rw[Io,HQ]; show _+1<=1000; omega))) #[#[_,rfl],?_,rfl]
    have ed:(cm a n (i+1))[j]?=ba ((cm a n i).getD (j / (bG a n i).length) []++[(bG a n i).getD (j % (bG a n i).length) (0,[])]):=by
     rw[cm,Ii,KC hj']; rfl
    rw[IS,ed];simp[aA]
   ·rintro ys Z2 S3 ⟨_,rfl,rfl⟩;rw[IB,<- dO,Jp];exact#[iE (by rw[HQ,dO]; omega),ci (hn _ _ #[_,_,_,_,rfl,af,k2.len,k2.trans .push])]
 ·rintro Z S1 ⟨q,a3,a4,a5,rfl,e1,hq,k1⟩;exact hK _ _ (st (kk q S1 e1 hq k1))
end
abbrev dh (a:HZ)(bs:HN Ip):HN Wd:=(cm a bs.length 3).map (jo bs)
abbrev bH (a:HZ)(bs:HN Ip):IN:=match jc ((dh a bs).map bS)with
 | some ks=>decide ks.Nodup && !ks.isEmpty
 | none=>false
def Hb:bH 1 [0]=true/\bH 2 [0]=true/\bH 3 [0]=true:=by decide +kernel
def FZ:bH 1 [0,1]=true/\bH 2 [0,1]=true/\bH 1 [1,0]=true/\bH 2 [1,0]=true:=by decide +kernel
def Hc:bH 1 [0,1,2]=true/\bH 1 [1,0,2]=true/\bH 1 [0,2,1]=true:=by decide +kernel
def Hd:bH 3 [0,1]=true:=by decide +kernel
def He:bH 3 [1,0]=true:=by decide +kernel
def Hf:bH 2 [0,1,2]=true:=by decide +kernel
def Hg:bH 2 [1,0,2]=true:=by decide +kernel
def Hh:bH 2 [0,2,1]=true:=by decide +kernel
abbrev aY (bs:HN Ip)(v:Wd)(ps:HN HZ)(i:HZ):Pt:=((v.getD i (0,[])).1,ps.map λq=>bP bs v i q)
abbrev aw (n:HZ)(os:HN (HN HZ)):HN (HN HZ):=os.flatMap λo=>((ID n).filter λp=>decide (p∉o)).map λp=>o++[p]
abbrev bf (bs:HN Ip)(u v:Wd):HZ->HN (HN HZ)
 | 0=>[[]]
 | k+1=>(aw v.length (bf bs u v k)).filter λo=>decide (aY bs v o.dropLast (o.getLastD 0)=u.getD k (0,[]))
abbrev kD (bs:HN Ip)(u v:Wd):HZ->HN (HN HZ)
 | 0=>[[]]
 | k+1=>(kD bs u v k).flatMap λo=>((ID v.length).filter λp=>decide (p∉o)&&decide (aj bs u (ID (k+1))=aj bs v (o++[p]))).map λp=>o++[p]
def bp (bs:HN Ip)(v:Wd)(o:HN HZ)(p:HZ):aj bs v (o++[p])=aj bs v o++[aY bs v o p]:=by
 unfold aj aY;rw[Io,Kk,Ld,II];congr 1
 ·refine JM λk hk=>?_
  have hk:=IR.mp hk;rw[show(o++[p]).getD k 0=o.getD k 0 by simp[Jr hk],List.take_append_of_le_length ∅]
 ·simp
def rE {xs:HN Ip}{k:HZ}(h:xs.length=k):(ID k).map (λq=>xs.getD q 0)=xs:=by
 apply Lv
 ·simp[h]
 ·intro i h1 h2; simp[h2]
def lX {bs:HN Ip}{a n:HZ}{u:Wd}{k:HZ}(hu:GoodW a n u)(hk:k < u.length):aY bs u (ID k) k=u.getD k (0,[]):=by
 unfold aY;have hl:=hu.len k _ (aq (d:=(0,[])) hk);have e:((ID k).map λq=>bP bs u k q)=(u.getD k (0,[])).2:=by
  refine Eq.trans (JM λq hq=>?_) (rE hl)
  have hq:=IR.mp hq;unfold bP;rw[IF hq]
 rw[e]
def yv {α:Type}{a b:HN α}{x y:α}(h:a=b):(a++[x]=b++[y])=(y=x):=by
 subst h; simp[eq_comm]
structure LkOk (bs:HN Ip)(u v:Wd)(k:HZ)(o:HN HZ):Prop where
 len:o.length=k
 nd:o.Nodup
 lt:∀p∈o,p < v.length
 prt:aj bs u (ID k)=aj bs v o
def nG {bs:HN Ip}{u v:Wd}:∀ {k:HZ},∀o∈kD bs u v k,LkOk bs u v k o
 | 0,o,h=>by
  cases Ik.mp h;exact#[rfl,.nil,λp hp=>by simp at hp,rfl]
 | k+1,o,h=>by
  obtain⟨o',h1,h2⟩:=Lz.mp h;obtain⟨p,hp,rfl⟩:=Iy.mp h2;obtain⟨hp1,hp2⟩:=JI.mp hp;simp only[HX,Ix]at hp2;have ih:=nG o' h1;refine#[by rw[Io,ih.len]; rfl,?_,λq hq=>?_,hp2.2]
  ·rw[J9];exact#[ih.nd,by simp,λa ha b hb=>by rw[Ik.mp hb]; exact λe=>hp2.1 (e ▸ ha)]
  ·rcases IY.mp hq with h|h
   ·exact ih.lt q h
   ·rw[Ik.mp h]; exact IR.mp hp1
def ji {α β:Type}{f:α->HN β}{q:β->IN}:∀xs:HN α,(xs.flatMap f).filter q=xs.flatMap λx=>(f x).filter q
 | []=>rfl
 | x::xs=>by rw[LL,LL,Ku,ji xs]
def kE {α β:Type}{f g:α->HN β}:∀ {xs:HN α},(∀x∈xs,f x=g x)->xs.flatMap f=xs.flatMap g
 | [],_=>rfl
 | x::xs,h=>by rw[LL,LL,h x (.head _),kE λy hy=>h y (.tail _ hy)]
def lY {bs:HN Ip}{a n:HZ}{u v:Wd}(hu:GoodW a n u):∀ {k:HZ},k<=u.length->bf bs u v k=kD bs u v k
 | 0,_=>rfl
 | k+1,hk=>by
  rw[bf,kD,lY hu ∅,aw,ji]
  refine kE λo ho=>?_
  have ok:=nG o ho;rw[List.filter_map,List.filter_filter];congr 1;refine List.filter_congr λp hp=>?_
  rw[bp,Ld,bp];have e1:=lX (bs:=bs) hu (show k < u.length by omega)
  simp only[Sl,MS,yv ok.prt,e1];rw[show(o++[p]).getLastD 0=p by simp]
  rw[Bool.and_comm]
def eD {n:HZ}:∀os:HN (HN HZ),(aw n os).length<=os.length*n
 | []=>by simp[aw]
 | o::os=>by
  have ih:=eD (n:=n) os;unfold aw at ih ⊢;rw[LL,Io,HQ,Ju,Po];have:=J7 (λp=>decide (p∉o)) (ID n)
  rw[IV]at this;omega
def uX {n:HZ}{os:HN (HN HZ)}{i:HZ}:(aw n (os.take i)).length<=os.length*n:=by
 refine IL (eD _) (LX _ ?_);rw[JE]; omega
def pV {bs:HN Ip}{u v:Wd}:∀k:HZ,(bf bs u v k).length<=v.length ^ k
 | 0=>Ih _
 | k+1=>by
  rw[bf,PD];exact IL (J7 _ _) (IL (eD _) (LX _ (pV k)))
def lZ {bs:HN Ip}{u v:Wd}{k:HZ}{o:HN HZ}(h:o∈aw v.length (bf bs u v k)):(∀o'∈bf bs u v k,o'.length=k/\o'.Nodup/\∀p∈o',p < v.length)->o.length=k+1/\o.Nodup/\∀p∈o,p < v.length:=λih=>by
 obtain⟨o',h1,h2⟩:=Lz.mp h;obtain⟨p,hp,rfl⟩:=Iy.mp h2;obtain⟨hp1,hp2⟩:=JI.mp hp;have hp2:p∉o':=Je hp2;obtain⟨i1,i2,i3⟩:=ih o' h1;refine#[by rw[Io,i1]; rfl,?_,λq hq=>?_]
 ·rw[J9];exact#[i2,by simp,λa ha b hb=>by rw[Ik.mp hb]; exact λe=>hp2 (e ▸ ha)]
 ·rcases IY.mp hq with h|h
  ·exact i3 q h
  ·rw[Ik.mp h]; exact IR.mp hp1
def kF {bs:HN Ip}{u v:Wd}:∀ {k:HZ},∀o∈bf bs u v k,o.length=k/\o.Nodup/\∀p∈o,p < v.length
 | 0,o,h=>by cases Ik.mp h; exact#[rfl,.nil,λp hp=>by simp at hp]
 | k+1,o,h=>by
  rw[bf]at h;exact lZ (JI.mp h).1 kF
def l7 {S:aa}{d:HZ}:∀xs ys:HN Ip,gv (iH S d) (xs.map W.int) (ys.map W.int)=ba (decide (xs=ys))
 | [],[]=>rfl
 | [],_::_=>rfl
 | _::_,[]=>rfl
 | x::xs,y::ys=>by
  have e:iH S d (.int x) (.int y)=ba (x==y):=by cases d <;> rfl
  simp only[JC,gv,e,l7 xs ys]
  by_cases h:x=y
  ·subst h; by_cases h2:xs=ys <;> simp[h2]
  ·have h':(x==y)=false:=by simpa using h
   simp[h,h']
def yw {S:aa}{d:HZ}(p q:Pt):iH S (d+2) (bJ p) (bJ q)=ba (decide (p=q)):=by
 obtain⟨m,ws⟩:=p;obtain⟨m',ws'⟩:=q;show gv (iH S (d+1)) [.int m,.tup (ws.map W.int)] [.int m',.tup (ws'.map W.int)]=_;have e:iH S (d+1) (.int m) (.int m')=ba (m==m'):=rfl;have e2:iH S (d+1) (.tup (ws.map W.int)) (.tup (ws'.map W.int))=ba (decide (ws=ws')):=l7 ws ws';simp only[gv,e,e2]
 by_cases h:m=m'
 ·subst h; by_cases h2:ws=ws' <;> simp[h2]
 ·have h':(m==m')=false:=by simpa using h
  simp[h,h']
def pW {S:aa}{d:HZ}:∀u v:Wd,gv (iH S (d+2)) (u.map bJ) (v.map bJ)=ba (decide (u=v))
 | [],[]=>rfl
 | [],_::_=>rfl
 | _::_,[]=>rfl
 | x::xs,y::ys=>by
  simp only[JC,gv,yw,pW xs ys]
  by_cases h:x=y
  ·subst h; by_cases h2:xs=ys <;> simp[h2]
  ·simp[h]
def yy {S:aa}{p q:Pt}:cr .eq (bJ p) (bJ q) S=ba (.bl (decide (p=q)),S):=by
 show(iH S (18+2) (bJ p) (bJ q)).map _=_;rw[yw]; rfl
def Dr {S:aa}{u v:Wd}:cr .eq (aA u) (aA v) S=ba (.bl (decide (u=v)),S):=by
 show(gv (iH S (17+2)) (u.map bJ) (v.map bJ)).map _=_;rw[pW]; rfl
def kG {p:HZ}:∀ps:HN HZ,((ah ps).any λz=>yK z (.int p))=decide (p∈ps)
 | []=>rfl
 | q::ps=>by
  show((q:Ip)==(p:Ip)||(ah ps).any _)=_
  rw[kG ps]
  by_cases h:q=p
  ·subst h; simp
  ·have h1:((q:Ip)==(p:Ip))=false:=by simp; omega
   have h2:¬ p=q:=λe=>h e.symm
   rw[h1]; simp[h2]
def l8 (ps:HN HZ):(ah ps).all bz=true:=by
 rw[IG];intro x hx;obtain⟨p,_,rfl⟩:=Iy.mp hx;rfl
def yz {S:aa}{p:HZ}{ps:HN HZ}:cr .notin (.int p) (.tup (ah ps)) S=ba (.bl (decide (p∉ps)),S):=by
 show fT .notin (.int p) (.tup (ah ps)) S=_;have hf:(bz (.int p)&&(ah ps).all bz)=true:=by rw[l8]; rfl
 simp only[fT,Bl,zC,dR,hf,Kd,Ja,kG];congr 3
 by_cases h:p∈ps <;> simp[h]
def pX {xs:HN W}:iI xs gV (ba (-1))=xs.dropLast:=by
 unfold iI;rw[HT.jE,Ot,Rl,List.dropLast_eq_take];congr 1;show(if (-1:Ip) < 0 then((-1:Ip)+(xs.length:Ip)).toNat else min (-1:Ip).toNat xs.length)=_
 rw[IF #v[]]; omega
def l9 (ps:HN HZ):(ah ps).dropLast=ah ps.dropLast:=by unfold ah; rw[List.map_dropLast]
def tm {S:aa}{ps:HN HZ}(h:ps≠[]):lu (.tup (ah ps)) (.int (-1)) S=ba (.int (ps.getLastD 0:HZ),S):=by
 have hl:(ah ps).length=ps.length:=HQ ..;have hp:0 < ps.length:=OO.mpr h;have hs:qm (ah ps).length (-1)=ba (ps.length - 1):=by
  rw[hl];unfold qm;rw[IP #v[]]
  exact(IF ∅).trans (by congr 1; omega)
 have hg:(ah ps)[ps.length - 1]?=ba (.int (ps.getLastD 0:HZ)):=by
  refine jx ?_;rw[L8,List.getLast?_eq_getElem?];have:ps.length - 1 < ps.length:=∅
  simp[this]
 simp only[lu,rX,nN,hs,hg,P6,Ja]
abbrev aQ:Ss:=
 #v[.set 2 (.lst .nil),.loop (.nm 3) (.seq (.v 0)) #v[.ex (.me .extend (.v 2) #v[.comp (.op .add (.v 2) (.tup #v[.v 1])) (.nm 1) (.rng #v[.v 1]) #v[.cmp .notin (.v 1) (.v 2)] [gV,gV,ba 3]])],.ret (.v 2)]
abbrev cD:Ss:=
 #v[.set 3 (.lst #v[.tup .nil]),.loop (.nm 4) (.seq (.v 1)) #v[.set 5 (.own "longer_orders" 2 #v[.v 3,.bi .len #v[.v 2]]),.set 3 (.comp (.v 1) (.nm 1) (.seq (.v 5)) #v[.cmp .eq (.own "point_over" 4 #v[.v 4,.v 2,.sl (.v 1) .no (.yes (.neg (.c (.int 1)))),.ix (.v 1) (.neg (.c (.int 1)))]) (.v 3)] [gV,gV,ba 2,ba 4,ba 0])],.ret (.v 3)]
abbrev bg (os:HN (HN HZ)):HN W:=os.map λo=>.tup (ah o)
section
variable{defs:HN (IH×Df)}{fuel d:HZ}{S:aa}{Q:QW}
def Ds {t l:HZ}{xs ys:HN W}(h:S[t]?=ba (.lst xs))(h2:S[l]?=ba (.lst ys))(hl:xs.length+ys.length<=1000000)(q:Q (.non,S.set t (.lst (xs++ys)))):wO (Me.extend.fn (.ref t) [.ref l] S) Q:=by
 refine ac ?_ q;simp only[Me.fn,gO,bZ h,bZ h2];rw[IF (by rw[Jq]; omega)]
def rF {n:HZ}(h:n<=1000000):n<=sizeLine:=by rw[Jq]; omega
def pY (hg:Is defs ("longer_orders" : IH) 2 4 aQ){n l:HZ}{os:HN (HN HZ)}(e:S[l]?=ba (.lst (bg os)))(hn:n<=100)(hol:∀o∈os,o.length<=100)(hos:os.length*n<=100000)
  (k:∀(q:HZ) (S':aa),S'[q]?=ba (.lst (bg (aw n os)))->S.length<=q->Ka S S'->Q (.ref q,S')) :
  wO (aV (am defs fuel (d+1)) "longer_orders" 2 [.ref l,.int n] S) Q:=by
 refine ay hg rfl rfl λQ' hR=>?_
 replace k:∀(q:HZ) (S':aa),S'[q]?=ba (.lst (bg (aw n os)))->S.length<=q->Ka S S'->Q' (.rt (.ref q),S'):=λa b c e f=>hR _ _ (k a b c e f)
 clear hR;show wZ _ _ aQ [ba (.ref l),ba (.int n),gV,gV] S Q';have hlS:=dk e;dsimp only[aQ];refine st ?_;dsimp only[wS,wE,wA,Iq];nofun
 refine AC l (bg os) (λi Z S'=>(∃a3,Z=[ba (.ref l),ba (.int n),ba (.ref S.length),a3])/\S'[l]?=ba (.lst (bg os))/\S'[S.length]?=ba (.lst (bg (aw n (os.take i))))/\Ka S S') rfl rfl #[rfl,#[gV,rfl],al e,af,.push] (λi Z S' h=>h.2.1) ?_ ?_
 ·rintro i w Z S1 hw ⟨⟨a3,rfl⟩,e0,e1,k1⟩;clear hK k;unfold bg at hw;rw[Ii,HU]at hw;obtain⟨o,ho,rfl⟩:=hw;have hol:=hol o (Ir ho);refine ac (show eZ (.nm 3) (.tup (ah o)) [ba (.ref l),ba (.int n),ba (.ref S.length),a3] S1=ba ([ba (.ref l),ba (.int n),ba (.ref S.length),ba (.tup (ah o))],S1)from rfl) ?_
  intro Q2 hn _;refine st ?_;left;refine#[dg e1,?_];refine dv (n:Ip) (λj ys Z2 S2=>(∃a1,Z2=[gV,a1,ba (.tup (ah o))])/\ys=bg (((ID j).filter λp=>decide (p∉o)).map λp=>o++[p])/\S2=S1) rfl rfl rfl ∅ #[rfl,#[gV,rfl],rfl,rfl] ?_ ?_
  ·rintro j ys Z2 S2 hj ⟨⟨a1,rfl⟩,rfl,rfl⟩;dsimp only[eX,wC,wE,wA,wV,wG,Iq];refine ac yz ?_;dsimp only[wB];have er:(ID (j+1)).filter (λp=>decide (p∉o))=(ID j).filter (λp=>decide (p∉o))++(if j∉o then[j]else[]):=by
    rw[Ld,Ku];congr 1
    by_cases h:j∈o <;> simp[h]
   refine#[λh=>?_,λh=>#[#[_,rfl],?_,rfl]]
   ·have h:j∉o:=Je h;refine ac (gF (rF (by rw[Io,show(ah o).length=o.length from HQ ..]; show _+1<=_; omega))) #[#[_,rfl],?_,rfl]
    rw[er,IF h,II];unfold bg;rw[II];simp[ah]
   ·have h:¬ j∉o:=Kt h;rw[er,IP h,JT]
  ·rintro ys Z2 S2 ⟨_,rfl,rfl⟩;rw[IB];have hlen:(bg (((ID n).filter λp=>decide (p∉o)).map λp=>o++[p])).length<=n:=by
    unfold bg;rw[HQ,HQ];exact IL (J7 _ _) (by rw[IV]; exact Ih _)
   have e1':=al (u:=O.lst (bg (((ID n).filter λp=>decide (p∉o)).map λp=>o++[p]))) e1
   have hlt:=uX (n:=n) (os:=os) (i:=i);have hlw:(bg (aw n (os.take i))).length=(aw n (os.take i)).length:=HQ ..;refine#[rF ∅,Ds e1' af ∅ (ci (hn _ _ #[#[_,rfl],?_,?_,(k1.trans .push).late (Ih _)]))]
   ·rw[bw ∅]; exact al e0
   ·rw[br e1'];unfold aw bg;rw[IS,ho];simp
 ·rintro Z S1 ⟨⟨a3,rfl⟩,e0,e1,k1⟩;rw[show(bg os).length=os.length from HQ ..,Jp]at e1
  exact hK _ _ (st (k _ _ e1 (Ih _) k1))
def nH (P:Parts defs)(hg:Is defs ("longer_orders" : IH) 2 4 aQ)(hl:Is defs ("likenesses" : IH) 3 6 cD){m0 b0:W}{ns:HN IH}{bs:HN Ip}{a:HZ}{u v:Wd}(hb:GoodB bs)(hnl:ns.length=bs.length)(hv:GoodW a bs.length v)(hu5:u.length<=5)(hv5:v.length<=5)
  (k:∀(q:HZ) (S':aa),S'[q]?=ba (.lst (bg (bf bs u v u.length)))->S.length<=q->Ka S S'->Q (.ref q,S')) :
  wO (aV (am defs fuel (d+3)) "likenesses" 3 [.tup [m0,.tup (Iz aK ns bs),b0],aA u,aA v] S) Q:=by
 refine ay hl rfl rfl λQ' hR=>?_
 replace k:∀(q:HZ) (S':aa),S'[q]?=ba (.lst (bg (bf bs u v u.length)))->S.length<=q->Ka S S'->Q' (.rt (.ref q),S'):=λa b c e f=>hR _ _ (k a b c e f)
 clear hR;show wZ _ _ cD [ba (.tup [m0,.tup (Iz aK ns bs),b0]),ba (aA u),ba (aA v),gV,gV,gV] S Q';generalize hR0:W.tup [m0,.tup (Iz aK ns bs),b0]=R;dsimp only[cD];refine st ?_;dsimp only[wS,wE,wA,Iq];nofun
 refine for_tup (u.map bJ) (λi Z S'=>∃(q:HZ) (a4 a5:HY W),Z=[ba R,ba (aA u),ba (aA v),ba (.ref q),a4,a5]/\S'[q]?=ba (.lst (bg (bf bs u v i)))/\S.length<=q/\Ka S S') rfl rfl #[rfl,_,_,_,rfl,af,Ih _,.push] ?_ ?_
 ·rintro i w Z S1 hw ⟨q,a4,a5,rfl,e1,hq,k1⟩;clear hK k;rw[Ii,HU]at hw;obtain⟨p,hp,rfl⟩:=hw;have hi:i < u.length:=(Il.mp hp).1;have hlen:(bf bs u v i).length<=3125:=IL (pV i) (IL (Mc hv5 i) (IL (LW #v[] (show i<=5 by omega)) #v[]))
  have hmul:(bf bs u v i).length*v.length<=15625:=OA hlen hv5;refine ac (show eZ (.nm 4) (bJ p) [ba R,ba (aA u),ba (aA v),ba (.ref q),a4,a5] S1=ba ([ba R,ba (aA u),ba (aA v),ba (.ref q),ba (bJ p),a5],S1)from rfl) ?_
  intro Q2 hn _;refine st ?_;left;refine aU ?_;rw[show(v.map bJ).length=v.length from HQ ..]
  refine pY (d:=d+1) hg e1 ∅ (λo ho=>by have:=(kF o ho).1; omega) ∅ λl S2 e2 hl2 k2=>?_
  refine st ?_;left;refine nw l (bg (aw v.length (bf bs u v i))) (λj ys Z2 S3=>(∃a1,Z2=[gV,a1,ba (aA v),ba (bJ p),ba R])/\ys=bg (((aw v.length (bf bs u v i)).take j).filter λo=>decide (aY bs v o.dropLast (o.getLastD 0)=p))/\S3[l]?=ba (.lst (bg (aw v.length (bf bs u v i))))/\Ka S2 S3) rfl rfl rfl #[rfl,#[gV,rfl],rfl,e2,.refl] (λj ys Z2 S3 h=>h.2.2.1) ?_ ?_
  ·rintro j w ys Z2 S3 hw ⟨⟨a1,rfl⟩,rfl,e3,k3⟩;unfold bg at hw;rw[Ii,HU]at hw;obtain⟨o,ho,rfl⟩:=hw;obtain⟨g1,g2,g3⟩:=lZ (Ir ho) kF;have hne:o≠[]:=λz=>by rw[z]at g1; cases g1
   have hod:o=o.dropLast++[o.getLastD 0]:=by
    conv=>lhs; rw[<- LG hne]
    rw[L8,MT hne]; rfl
   have hg2:o.getLastD 0 < v.length:=g3 _ (by rw[L8,MT hne]; exact List.getLast_mem hne)
   refine ac (show eZ (.nm 1) (.tup (ah o)) [gV,a1,ba (aA v),ba (bJ p),ba R] S3=ba ([gV,ba (.tup (ah o)),ba (aA v),ba (bJ p),ba R],S3)from rfl) ?_
   dsimp only[eX,wC,wE,wA,wP,wV,wG,wN];refine ac (tm hne) ?_;dsimp only;rw[pX,l9];subst hR0;refine rD (d:=d) P hb hnl hv (λq hq=>#[g3 q ((List.dropLast_sublist o).subset hq),?_]) hg2 (by rw[MU]; omega) λS4 k4=>?_
   ·rw[hod,J9]at g2;exact λe=>g2.2.2 q hq _ (Ik.mpr rfl) e.symm
   ·refine ac (yy (p:=aY bs v o.dropLast (o.getLastD 0)) (q:=p)) ?_;dsimp only[wB];refine#[λh=>#[#[_,rfl],?_,k4.get _ _ e3,k3.trans k4],λh=>#[#[_,rfl],?_,k4.get _ _ e3,k3.trans k4]]
    ·have e:(Mk (ba o)).filter (λo=>decide (aY bs v o.dropLast (o.getLastD 0)=p))=[o]:=Mu h
     rw[IS,ho,Ku,e];unfold bg;rw[II]; rfl
    ·have e:(Mk (ba o)).filter (λo=>decide (aY bs v o.dropLast (o.getLastD 0)=p))=[]:=Mv (by rw[h]; exact IE)
     rw[IS,ho,Ku,e,JT]
  ·rintro ys Z2 S3 ⟨_,rfl,e3,k3⟩;have hll:=eD (n:=v.length) (bf bs u v i);have ek:bf bs u v (i+1)=(aw v.length (bf bs u v i)).filter λo=>decide (aY bs v o.dropLast (o.getLastD 0)=p):=by
    rw[bf,getD_some hp]
   rw[show(bg (aw v.length (bf bs u v i))).length=(aw v.length (bf bs u v i)).length from HQ ..,Jp,<- ek]
   refine#[rF ?_,ci (hn _ _ #[_,_,_,rfl,af,?_,((k1.trans k2).trans k3).trans .push])]
   ·rw[ek];unfold bg;rw[HQ];exact IL (J7 _ _) ∅
   ·exact((k1.trans k2).trans k3).len
 ·rintro Z S1 ⟨q,a4,a5,rfl,e1,hq,k1⟩;rw[show(u.map bJ).length=u.length from HQ ..]at e1
  exact hK _ _ (st (k q S1 e1 hq k1))
end
section
variable{defs:HN (IH×Df)}{fuel d:HZ}{S:aa}{Q:QW}
def Dt {t:HZ}{xs:HN W}{y:W}(h:S[t]?=ba (.lst xs))(hl:xs.length < 1000000)(q:Q (.non,S.set t (.lst (xs++[y])))):wO (Me.append.fn (.ref t) [y] S) Q:=ac (sP h (by rw[Jq]; omega)) q
end
def A6 {a:HZ}{bs:HN Ip}(h:SizeOk a bs):bH a bs=true:=by
 obtain⟨h0,hb,hm,h3⟩:=h;have ha:a=1\/a=2\/a=3:=∅
 rcases hb with rfl|rfl|rfl|rfl|rfl|rfl <;> rcases ha with rfl|rfl|rfl
 ·exact Hb.1
 ·exact Hb.2.1
 ·exact Hb.2.2
 ·exact FZ.1
 ·exact FZ.2.1
 ·exact Hd
 ·exact FZ.2.2.1
 ·exact FZ.2.2.2
 ·exact He
 ·exact Hc.1
 ·exact Hf
 ·exact absurd hm #v[]
 ·exact Hc.2.1
 ·exact Hg
 ·exact absurd hm #v[]
 ·exact Hc.2.2
 ·exact Hh
 ·exact absurd hm #v[]
def pZ:∀ {us vs:HN Wd},us.map bS=vs.map bS->us=vs
 | [],[],_=>rfl
 | [],_::_,h=>by cases h
 | _::_,[],h=>by cases h
 | x::xs,y::ys,h=>by
  simp only[JC,R6]at h;rw[ip h.1,pZ h.2]
def p4:∀xs:HN Ip,cq (xs.map T.int)=true
 | []=>rfl
 | _::xs=>p4 xs
def jy:∀u:Wd,cq (u.map ga)=true
 | []=>rfl
 | p::u=>by
  simp only[JC,cq,HX];refine#[?_,jy u];simp[ga,dF,cq,p4]
def nI (u:Wd):dF (bS u)=true:=jy u
def BG:∀ {ks:HN T} {L:HN Wd},(∀k∈ks,k∈L.map bS)->∃us:HN Wd,ks=us.map bS/\∀u∈us,u∈L
 | [],_,_=>#[[],rfl,λ_ h=>nomatch h]
 | k::ks,L,h=>by
  obtain⟨u,hu,rfl⟩:=Iy.mp (h k (.head _));obtain⟨us,rfl,h2⟩:=BG λk hk=>h k (.tail _ hk)
  exact#[u::us,rfl,λv hv=>(IC.mp hv).elim (λe=>e ▸ hu) (h2 v)]
def jj:∀ {us:HN Wd},(us.map bS).Nodup->us.Nodup
 | [],_=>.nil
 | u::us,h=>by
  rw[JC,La]at h;exact La.mpr #[λz=>h.1 (Iy.mpr #[u,z,rfl]),jj h.2]
def Du {n k:HZ}{ds:HN Ip}:ds∈bE n k->ds.length=k/\∀w∈ds,0<=w/\w < (n:Ip):=by
 induction k generalizing ds with
 | zero=>intro h; cases Ik.mp h; exact#[rfl,λw hw=>nomatch hw]
 | succ k ih=>
  intro h;obtain⟨i,hi,rfl⟩:=Iy.mp h;have hi:=IR.mp hi;have hn:0 < n:=by
   rcases Nu n with h|h
   ·rw[h,N1]at hi; omega
   ·exact h
  have hlt:i / n < (bE n k).length:=KN (by rw[L0]; exact hi)
  obtain⟨h1,h2⟩:=ih (Ir (aq (d:=[]) hlt));refine#[by rw[Io,h1]; rfl,λw hw=>?_]
  rcases IY.mp hw with h|h
  ·exact h2 w h
  ·rw[Ik.mp h];have:=NX i hn;omega
def p7 {a n k:HZ}{u:Wd}:u∈cm a n k->GoodW a n u/\u.length=k:=by
 induction k generalizing u with
 | zero=>intro h; cases Ik.mp h; exact#[.nil,rfl]
 | succ k ih=>
  intro h;obtain⟨i,hi,rfl⟩:=Iy.mp h;have hi:=IR.mp hi;have hpos:0 < (bG a n k).length:=by
   rcases Nu (bG a n k).length with h|h
   ·rw[h,N1]at hi; omega
   ·exact h
  have hlt:i / (bG a n k).length < (cm a n k).length:=KN (by rw[L0]; exact hi)
  obtain⟨h1,h2⟩:=ih (Ir (aq (d:=[]) hlt));have hp:=Ir (aq (d:=(0,[])) (NX i hpos));obtain⟨m,hm,hp⟩:=Lz.mp hp;obtain⟨ds,hds,e⟩:=Iy.mp hp;obtain⟨g1,g2⟩:=Du hds;have hm:=IR.mp hm;rw[<- e];exact#[h1.snoc #[∅,∅] (by rw[g1,h2]) g2,by rw[Io,h2]; rfl]
def A7 {a:HZ}{bs:HN Ip}(h:SizeOk a bs):∃us:HN Wd,jc ((dh a bs).map bS)=ba (us.map bS)/\us.Nodup/\us.length < 64/\(∀u∈us,u∈aJ a bs)/\dh a bs≠[]:=by
 have p:=A6 h;unfold bH at p;split at p
 ·rename_i ks hk;simp only[HX,Ix]at p;have hm0:=wn hk;obtain⟨us,rfl,hm⟩:=BG (L:=aJ a bs) λk hk=>by
   obtain⟨f,hf,rfl⟩:=Iy.mp (hm0 k hk);obtain⟨u,hu,rfl⟩:=Iy.mp hf;obtain⟨g1,g2⟩:=p7 hu;exact Iy.mpr #[_,sY g1 g2,rfl]
  have nd:=jj p.1;refine#[us,hk,nd,O9 (iZ us _ nd hm) (nC h),hm,λz=>?_]
  rw[z]at hk;have e:ba (us.map bS)=ba []:=hk.symm;rw[Jz e]at p;exact absurd p.2 #v[]
 ·cases p
def p8 {us:HN Wd}(h:us.Nodup):Nice (us.map bS):=by
 refine#[λx hx=>?_,fQ us,?_]
 ·obtain⟨u,_,rfl⟩:=Iy.mp hx;exact nI u
 ·rw[JV,KQ];exact h.imp λhne e=>hne (ip e)
def i6 {us:HN Wd}:(cy us).map bS=dW (us.map bS):=by
 unfold cy dW;rw[pH (d:=[])]
def uY {us vs:HN Wd}(h:us.Nodup)(hs:vs.Sublist (cy us)):cy vs=vs:=by
 apply pZ;rw[i6];refine wm (p8 h) ?_;rw[<- i6];exact hs.map _
abbrev cX:Ss:=
 #v[.ret (.bi .sorted #v[.bi .set #v[.comp (.own "_law_figure" 2 #v[.v 2,.v 1]) (.nm 1) (.seq (.own "_law_worlds" 2 #v[.v 0,.c (.int 3)])) .nil [gV,gV,ba 0]]])]
abbrev b7:Ss:=
 #v[.set 1 (.own "_law_pick" 2 #v[.v 0,.c (.int 4)]),.ite (.cmp .eq (.v 1) (.c (.int 0))) #v[.ret (.own "_law_laying_rule" 1 #v[.v 0])] .nil,.ite (.cmp .lt (.v 1) (.c (.int 3))) #v[.ret (.own "_law_any_rule" 1 #v[.v 0])] .nil,.asg [2,3] (.own "_law_sizes" 1 #v[.v 0]),.set 4 (.own "_law_rule_of" 4 #v[.v 0,.v 2,.own "_law_backs" 2 #v[.v 0,.v 3],.tup .nil]),.ret (.tup #v[.ix (.v 4) (.c (.int 0)),.ix (.v 4) (.c (.int 1)),.bi .tuple #v[.comp (.v 1) (.nm 1) (.seq (.own "_law_figures" 1 #v[.v 4])) #v[.cmp .eq (.own "_law_pick" 2 #v[.v 2,.c (.int 3)]) (.c (.int 0))] [gV,gV,ba 0]]])]
section
variable{defs:HN (IH×Df)}{fuel d:HZ}{S:aa}{r:HZ}{Q:QW}
def Dv {l:HZ}{us ks:HN Wd}(h:S[l]?=ba (.lst (us.map aA)))(hne:us≠[])(hk:jc (us.map bS)=ba (ks.map bS))(q:Q (.ref S.length,S++[.stt (ks.map bS)])):wO (Bi.set.fn [.ref l] S) Q:=by
 refine ac ?_ q;have e2:jX [.ref l] S=ba (.ref S.length,S++[.stt (ks.map bS)]):=by
  simp only[jX,ar h,xQ];rw[IF,hk]
  ·rfl
  ·rw[IG];intro x hx;obtain⟨u,_,rfl⟩:=Iy.mp hx;have:=kw u;have kl:au=6:=rfl;simp only[wo,nI,MN,HX,Ix];exact#[rfl,∅]
 exact e2
def Ba {l:HZ}{us:HN Wd}(h:S[l]?=ba (.stt (us.map bS)))(h64:us.length < 64)(hnd:us.Nodup)(hne:∀u∈us,u≠[])(q:Q (.ref S.length,S++[.lst ((cy us).map aA)])):wO (Bi.sorted.fn [.ref l] S) Q:=by
 refine ac ?_ q;have hr:DO S l=ba (us.map bS):=by simp[DO,h]
 have N:=p8 hnd;have ok:jY (us.map bS)=true:=by
  simp only[jY,gy,HX,Ix,Kq,HQ];refine#[#[#[IG.mpr N.num,N.lt],N.nd],#[#[h64,by have:=fP us; unfold bK; omega],.inr #[xT us hne,N.lt]]]
 have e1:cu [.ref l] S=ba (.ref S.length,S++[.lst ((cy us).map aA)]):=by
  simp only[cu,hr];rw[IF ok,<- i6,rn]
 show sD cu eM [.ref l] S=_;unfold sD;simp only[e1]
structure Full (defs:HN (IH×Df)):Prop where
 digits:Is defs ("_law_digits" : IH) 2 4 bO
 worlds:Is defs ("_law_worlds" : IH) 2 6 cC
 figures:Is defs ("_law_figures" : IH) 1 1 cX
 full:Is defs ("_law_full_rule" : IH) 1 5 b7
def uZ (G:Gen defs)(F:Full defs){ms ns:HN IH}{a:HZ}{bs:HN Ip}{b0:W}(hs:SizeOk a bs)(hml:ms.length=a)(hnl:ns.length=bs.length)
  (k:∀(us:HN Wd) (q:HZ) (S':aa),us.Nodup->us.length < 64->(∀u∈us,u∈aJ a bs)->S'[q]?=ba (.lst ((cy us).map aA))->S.length<=q->Ka S S'->Q (.ref q,S')) :
  wO (aV (am defs fuel (d+4)) "_law_figures" 1 [.tup [.tup (ms.map W.str),.tup (Iz aK ns bs),b0]] S) Q:=by
 refine ay F.figures rfl rfl λQ' hR=>?_
 replace k:∀(us:HN Wd) (q:HZ) (S':aa),us.Nodup->us.length < 64->(∀u∈us,u∈aJ a bs)->S'[q]?=ba (.lst ((cy us).map aA))->S.length<=q->Ka S S'->Q' (.rt (.ref q),S'):=λa b c e f g h i j=>hR _ _ (k a b c e f g h i j)
 clear hR;obtain⟨us,hk,hnd,h64,hmem,hne⟩:=A7 hs;have hb3:=hs.n3;have hpos:=hs.pos;have h3:=hs.a3;have hmost:=hs.most;show wZ _ _ cX [ba (.tup [.tup (ms.map W.str),.tup (Iz aK ns bs),b0])] S Q';generalize hB:W.tup [.tup (ms.map W.str),.tup (Iz aK ns bs),b0]=R;dsimp only[cX];refine st ?_;left;refine kC rfl rfl rfl ?_;dsimp only[wE,wA,wV,wG];subst hB;refine yu (d:=d+1) F.digits F.worlds (a:=a) (n:=bs.length) (by rw[HQ,hml]) (by rw[Lp,hnl]; omega) hpos h3 hb3.1 hb3.2 hmost λl S1 e1 hl k1=>?_
 generalize hB:W.tup [.tup (ms.map W.str),.tup (Iz aK ns bs),b0]=R;refine#[l,(cm a bs.length 3).map aA,λj ys Z2 S2=>(∃a1,Z2=[gV,a1,ba R])/\ys=((dh a bs).take j).map aA/\S2[l]?=ba (.lst ((cm a bs.length 3).map aA))/\Ka S S2,rfl,#[#[gV,rfl],rfl,e1,k1],λj ys Z2 S2 h=>h.2.2.1,?_,?_]
 ·rintro j w ys Z2 S2 hw ⟨⟨a1,rfl⟩,rfl,e2,k2⟩;rw[Ii,HU]at hw;obtain⟨u,hu,rfl⟩:=hw;obtain⟨gu,hu3⟩:=p7 (Ir hu);refine ac (show eZ (.nm 1) (aA u) [gV,a1,ba R] S2=ba ([gV,ba (aA u),ba R],S2)from rfl) ?_
  dsimp only[eX,wC,wE,wA,wV,wG];subst hB;refine#[λ_=>im (d:=d) G hs.good hnl gu hu3 λS3 k3=>#[#[_,rfl],?_,k3.get _ _ e2,k2.trans k3],λz=>by cases z]
  have:(dh a bs)[j]?=ba (jo bs u):=by unfold dh; rw[Ii,hu]; rfl
  rw[IS,this];simp
 ·rintro ys Z2 S2 ⟨_,rfl,e2,k2⟩;have hfl:(dh a bs).length=((cm a bs.length 3).map aA).length:=by unfold dh; rw[HQ,HQ]
  rw[<- hfl,Jp];have hl216:(dh a bs).length<=216:=by
   unfold dh;rw[HQ,dO];exact(pU (k:=2) hpos h3 hb3.1 hb3.2 hmost #v[]).2.2
  refine#[rF (by rw[HQ]; omega),Dv af hne hk (Ba af h64 hnd (λu hu=>pJ (hmem u hu)) ?_)]
  have kk:=((k2.trans (Ka.push (o:=O.lst ((dh a bs).map aA)))).trans (Ka.push (o:=O.stt (us.map bS)))).trans (Ka.push (o:=O.lst ((cy us).map aA)));exact k us _ _ hnd h64 hmem af (((k2.trans (Ka.push (o:=O.lst ((dh a bs).map aA)))).trans (Ka.push (o:=O.stt (us.map bS)))).len) kk
def Dw (hfu:20 < fuel)(G:Gen defs)(F:Full defs)(hf:Fl S r)(k:∀w S',dN w->Fl S' r->Kp r S S'->Q (w,S')):wO (aV (am defs fuel (d+8)) "_law_full_rule" 1 [.ref r] S) Q:=by
 refine ay F.full rfl rfl λQ' hR=>?_
 replace k:∀w S',dN w->Fl S' r->Kp r S S'->Q' (.rt w,S'):=λz S' a b c=>hR _ _ (k z S' a b c)
 clear hR;show wZ _ _ b7 [ba (.ref r),gV,gV,gV,gV] S Q';dsimp only[b7];nofun
 left;refine aI (d:=d+6) G.pick hf #v[] #v[] λv S1 v0 v7 f1 k1=>hK _ _ ?_
 clear hK K;nofun
 dsimp only[wS,wT,wE,wV,wG,fD,aD,wB];refine aC (Q0:=Q') (λ_ Q2 _ hr=>?_) (λ_ Q2 hn _=>ci (hn _ _ (hK _ _ ?_)))
 ·refine st ?_;left;exact yp (d:=d) hfu G f1 λw S2 hw f2 k2=>hr _ _ (k w S2 hw f2 (k1.trans k2))
 clear hK K hn;nofun
 dsimp only[wS,wT,wE,wV,wG,xE,aD,wB];refine aC (Q0:=Q') (λ_ Q2 _ hr=>?_) (λ_ Q2 hn _=>ci (hn _ _ (hK _ _ ?_)))
 ·refine st ?_;left;exact rA (d:=d+1) hfu G f1 λw S2 hw f2 k2=>hr _ _ (k w S2 hw f2 (k1.trans k2))
 clear hK K hn;nofun
 left;refine nA (d:=d+5) G f1 λa n S2 a1 a3 n1 n3 an f2 k2=>?_
 dsimp only[wU];refine ac (show cN [2,3] [.int a,.int n] [ba (.ref r),ba (.int v),gV,gV,gV]=ba [ba (.ref r),ba (.int v),ba (.int a),ba (.int n),gV]from rfl) (hK _ _ ?_)
 clear hK K;nofun
 left;refine nB (d:=d+5) G f2 n1 n3 λbs S3 hb hbl f3 k3=>?_
 have hsz:SizeOk a bs:=#[∅,hb,by rw[hbl]; exact an,a3]
 refine eR (d:=d+2) hfu G f3 a3 ∅ λms ns S4 hml hnl hnm f4 k4=>hK _ _ ?_
 clear hK K;have k14:Kp r S S4:=k1.trans (k2.trans (k3.trans k4));clear k1 k2 k3 k4;refine st ?_;left;refine ak #v[] rfl (ak #v[] rfl ?_)
 refine kC rfl rfl rfl ?_;dsimp only[wE,wA,wV,wG];refine uZ (d:=d+3) G F hsz hml hnl λus q S5 hnd h64 hmem e5 hq k5=>?_
 have f5:=f4.ka k5;have hrq:r < q:=IQ f4.lt hq;refine#[q,(cy us).map aA,λj ys Z2 S6=>(∃a1,Z2=[gV,a1,ba (.ref r)])/\(∃vs:HN Wd,ys=vs.map aA/\vs.Sublist ((cy us).take j))/\S6[q]?=ba (.lst ((cy us).map aA))/\Fl S6 r/\Kp r S S6,rfl,#[#[gV,rfl],#[[],rfl,by simp],e5,f5,k14.trans (k5.kp r)],λj ys Z2 S6 h=>h.2.2.1,?_,?_]
 ·rintro j w ys Z2 S6 hw ⟨⟨a1,rfl⟩,⟨vs,rfl,hsub⟩,e6,f6,k6⟩;rw[Ii,HU]at hw;obtain⟨u,hu,rfl⟩:=hw;refine ac (show eZ (.nm 1) (aA u) [gV,a1,ba (.ref r)] S6=ba ([gV,ba (aA u),ba (.ref r)],S6)from rfl) ?_
  dsimp only[eX,wC,wE,wA,wV,wG];refine aI (d:=d+6) G.pick f6 #v[] #v[] λv S7 _ _ f7 k7=>?_
  dsimp only[fD,aD,wB];have e7:=k7.get _ _ ∅ e6
  refine#[λ_=>#[#[_,rfl],#[vs++[u],by rw[II]; rfl,?_],e7,f7,k6.trans k7],λ_=>#[#[_,rfl],#[vs,rfl,?_],e7,f7,k6.trans k7]]
  ·rw[IS,hu];exact hsub.append (RV _)
  ·rw[IS];exact hsub.trans (List.sublist_append_left _ _)
 ·rintro ys Z2 S6 ⟨_,⟨vs,rfl,hsub⟩,e6,f6,k6⟩;rw[HQ,Jp]at hsub;have pu:(cy us).Perm us:=eA;have hvl:vs.length<=us.length:=by rw[<- pu.length_eq]; exact hsub.length_le
  have hvs:=uY hnd hsub;refine#[rF (by rw[HQ]; omega),cx af (k _ _ #[a,bs,ms,ns,vs,by rw[hvs]; rfl,hsz,hml,hnl,hnm,hsub.nodup (pu.nodup_iff.mpr hnd),λg hg=>hmem g (pu.mem_iff.mp (hsub.subset hg))] (f6.ka .push) (k6.trans .push))]
end
section
variable{M:IH->FF}{Z:Fm}{S:aa}
def rG {α:Type}{elt:E}{it:Ie}{cs:Es}{cap:HN (HY HZ)}{mi:MI}{S1:aa}{Q:QW}(L:HN α)(f:α->W)(p:α->IN)(g:α->W)(R:Fm)(oe:da elt=true)(oc:lO cs=true)(hc:eh cap Z=gV::gV::R)(hl:L.length<=1000000)(hi:iR M it Z S=ba (mi,S1))(k1:Ka S S1)(hat:∀i S',Ka S1 S'->mi.at S' i=ba (L.map f)[i]?)(hn:mi.len S1=ba (L.map f).length)
  (hstep:∀x∈L,∀S',Ka S S'->eX M elt cs (gV::ba (f x)::R) S' (λy _ S2=>p x=true/\y=g x/\Ka S' S2) (λ_ S2=>p x=false/\Ka S' S2))
  (k:∀S',Ka S S'->Q (.ref S'.length,S'++[.lst ((L.filter p).map g)])):Wp (az M (.comp elt (.nm 1) it cs cap) Z S) Q:=by
 rw[rj];refine#[_,hi,_,hn,?_];refine(cv (xs:=L.map f) (Q:=λq=>q.1.length<=sizeLine/\Q (.ref q.2.length,q.2++[.lst q.1])) (λi ys Z' S'=>(∃a1,Z'=gV::a1::R)/\ys=((L.take i).filter p).map g/\Ka S1 S') (λi ys Z' S' h=>hat i S' h.2.2) (λi w ys Z' S' hw h=>?_) (λys Z' S' h=>?_) (L.map f).length 0 [] _ S1 ∅ #[#[gV,hc],rfl,.refl]).mono λq hq=>by simpa using hq
 ·obtain⟨⟨a1,rfl⟩,rfl,k2⟩:=h;rw[Ii,HU]at hw;obtain⟨x,hx,rfl⟩:=hw;refine GV.mpr ?_;refine(xK oc (hstep x (Ir hx) S' (k1.trans k2))).mono λc hc=>#[λz=>(aT elt oe (hc.1 z)).mono λy hy=>#[#[_,rfl],?_,k2.trans hy.2.2],λz=>#[#[_,rfl],?_,k2.trans (hc.2 z).2]]
  ·rw[IS,hx,Ku,show(Mk (ba x)).filter p=[x]from Mu hy.1,II,hy.2.1]; rfl
  ·rw[IS,hx,Ku,show(Mk (ba x)).filter p=[]from Mv (by rw[(hc.2 z).1]; exact IE),JT]
 ·obtain⟨_,rfl,k2⟩:=h;dsimp only;rw[show(L.map f).length=L.length from HQ ..,Jp]
  refine#[rF ?_,k S' (k1.trans k2)];rw[HQ];exact IL (J7 _ _) hl
def rH {α:Type}{elt e:E}{cs:Es}{cap:HN (HY HZ)}{Q:QW}(L:HN α)(f:α->W)(p:α->IN)(g:α->W)(R:Fm)(oi:da e=true)(oe:da elt=true)(oc:lO cs=true)(hc:eh cap Z=gV::gV::R)(hl:L.length<=1000000)
  (he:wE M e Z S λq=>∃t,q.1=.ref t/\q.2[t]?=ba (.lst (L.map f))/\Ka S q.2)
  (hstep:∀x∈L,∀S',Ka S S'->eX M elt cs (gV::ba (f x)::R) S' (λy _ S2=>p x=true/\y=g x/\Ka S' S2) (λ_ S2=>p x=false/\Ka S' S2))
  (k:∀S',Ka S S'->Q (.ref S'.length,S'++[.lst ((L.filter p).map g)])):Wp (az M (.comp elt (.nm 1) (.seq e) cs cap) Z S) Q:=by
 obtain⟨w,S1,e1,t,rfl,ht,k1⟩:=bo oi he;exact rG (mi:=.live t) L f p g R oe oc hc hl (by simp only[iR,dX,e1,ar ht]) k1 (λi S' h=>by simp only[MI.at,ar (h.get _ _ ht)]) (by simp only[MI.len,ar ht,Ja]) hstep k
def nJ {α:Type}{elt e:E}{cs:Es}{cap:HN (HY HZ)}{Q:QW}(L:HN α)(f:α->W)(p:α->IN)(g:α->W)(R:Fm)(oi:da e=true)(oe:da elt=true)(oc:lO cs=true)(hc:eh cap Z=gV::gV::R)(hl:L.length<=1000000)
  (he:wE M e Z S λq=>q.1=.tup (L.map f)/\Ka S q.2)
  (hstep:∀x∈L,∀S',Ka S S'->eX M elt cs (gV::ba (f x)::R) S' (λy _ S2=>p x=true/\y=g x/\Ka S' S2) (λ_ S2=>p x=false/\Ka S' S2))
  (k:∀S',Ka S S'->Q (.ref S'.length,S'++[.lst ((L.filter p).map g)])):Wp (az M (.comp elt (.nm 1) (.seq e) cs cap) Z S) Q:=by
 obtain⟨w,S1,e1,rfl,k1⟩:=bo oi he;exact rG (mi:=.its (L.map f)) L f p g R oe oc hc hl (by simp only[iR,dX,e1]) k1 (λ_ _ _=>rfl) rfl hstep k
def p9 (n:HZ):cJ 0 n=(ID n).map λi=>W.int (i:HZ):=by
 unfold cJ;refine JM λi _=>?_
 rw[M7]
def Dx {elt e:E}{cs:Es}{cap:HN (HY HZ)}{Q:QW}(n:HZ)(p:HZ->IN)(g:HZ->W)(R:Fm)(oi:da e=true)(oe:da elt=true)(oc:lO cs=true)(hc:eh cap Z=gV::gV::R)(hl:n<=1000000)
  (he:wE M e Z S λq=>q.1=.int n/\Ka S q.2)
  (hstep:∀x < n,∀S',Ka S S'->eX M elt cs (gV::ba (.int (x:HZ))::R) S' (λy _ S2=>p x=true/\y=g x/\Ka S' S2) (λ_ S2=>p x=false/\Ka S' S2))
  (k:∀S',Ka S S'->Q (.ref S'.length,S'++[.lst (((ID n).filter p).map g)])):Wp (az M (.comp elt (.nm 1) (.rng #v[e]) cs cap) Z S) Q:=by
 obtain⟨w,S1,e1,rfl,k1⟩:=bo oi he;refine rG (mi:=.its (cJ 0 n)) (ID n) (λi=>W.int (i:HZ)) p g R oe oc hc (by rw[IV]; exact hl) ?_ k1 (λi S' _=>by rw[<- p9]; rfl) (by rw[<- p9]; rfl) (λx hx=>hstep x (IR.mp hx)) k
 simp only[iR,cG,dj,g9,qX,e1];rw[IF #[∅,∅]]; rfl
def eE {α:Type}(L:HN α):L.filter (λ_=>true)=L:=List.filter_eq_self.mpr λ_ _=>rfl
end
def Dy {bs:HN Ip}{a:HZ}{v:Wd}{i j:HZ}(hb:GoodB bs)(hv:GoodW a bs.length v)(hi:i < v.length)(hj:j < v.length)(hij:i≠j):0<=bP bs v i j/\bP bs v i j < (bs.length:Ip):=by
 unfold bP
 by_cases h:j < i
 ·rw[IF h];have hp:=aq (d:=(0,[])) hi;have hw:j < (v.getD i (0,[])).2.length:=by rw[hv.len i _ hp]; exact h
  exact hv.way i _ hp _ (Ir (aq (d:=0) hw))
 ·rw[IP h];have hp:=aq (d:=(0,[])) hj;have hw:i < (v.getD j (0,[])).2.length:=by rw[hv.len j _ hp]; omega
  obtain⟨g1,g2⟩:=hv.way j _ hp _ (Ir (aq (d:=0) hw));exact(hb.at g1 g2).2
def ma {bs:HN Ip}{a:HZ}{v:Wd}{ps:HN HZ}(hb:GoodB bs)(hv:GoodW a bs.length v)(hps:∀p∈ps,p < v.length)(hnd:ps.Nodup):GoodW a bs.length (aj bs v ps):=by
 have at':∀(k:HZ) (q:Pt),(aj bs v ps)[k]?=ba q->∃hk:k < ps.length,q=((v.getD ps[k] (0,[])).1,(ps.take k).map λj=>bP bs v ps[k] j):=λk q e=>by
  have hk:k < ps.length:=by
   have:=(Il.mp e).1;rw[aO]at this; exact this
  refine#[hk,?_];unfold aj at e;rw[Ii,KC hk,Ja,show ps.getD k 0=ps[k] by simp[hk]]at e
  exact(Jz e).symm
 refine#[λk q e=>?_,λk q e=>?_,λk q e=>?_]
 ·obtain⟨hk,rfl⟩:=at' k q e;have:=hv.mark _ _ (aq (d:=(0,[])) (hps _ (Jh hk)));exact this
 ·obtain⟨hk,rfl⟩:=at' k q e;dsimp only;rw[HQ,JE]; omega
 ·obtain⟨hk,rfl⟩:=at' k q e;intro w hw;obtain⟨j,hj,rfl⟩:=Iy.mp hw;have hjm:=KL hj;refine Dy hb hv (hps _ (Jh hk)) (hps _ hjm) λe=>?_
  obtain⟨m,hm,e2⟩:=JW.mp hj;rw[JE]at hm;rw[Lh]at e2;have:=(Kv hnd).mp (e.trans e2.symm);omega
section
variable{defs:HN (IH×Df)}{fuel d:HZ}{S:aa}{Q:QW}
def Dz (hd:Is defs ("_law_flow" : IH) 1 1 dL){ns:HN Ip}{u:HZ}(hu:S[u]?=ba (.fro (ns.map W.int)))(k:∀r S',Ka S S'->Fl S' r->Q (.ref r,S')) :
  wO (aV (am defs fuel (d+1)) "_law_flow" 1 [.ref u] S) Q:=by
 refine ay hd rfl rfl λQ' hR=>?_
 show wZ _ _ dL [ba (.ref u)] S Q';dsimp only[dL];refine st ?_;left;have e:Bi.list.fn [.ref u] S=ba (.ref S.length,S++[.lst (ns.map W.int)]):=by
  have h1:vV S u=gV:=by simp[vV,hu]
  simp only[Bi.fn,sD,ja,h1,gM,dR,Az hu]
 refine ac e (hR _ _ (k _ _ (Ka.push.trans .push) #[S.length,ns,0,0,1,0,?_,?_,?_,#v[],#v[],#v[],#v[]]))
 ·exact af
 ·exact al af
 ·simp
end
def jk {bt:HZ->HZ->IN}{N:HZ}(ir:∀i < N,bt i i=false)(tr:∀i j k,i < N->j < N->k < N->bt i j=true->bt j k=true->bt i k=true):∀n,n < N->∀j≤n,bt j (argBest bt n)=false
 | 0,hn,j,hj=>by
  obtain rfl:j=0:=∅
  exact ir 0 hn
 | n+1,hn,j,hj=>by
  have ih:=jk ir tr n ∅
  have hb:=dM bt n;simp only[argBest];cases c:bt (n+1) (argBest bt n)with
  | true=>
   rw[IF rfl]
   by_cases e:j=n+1
   ·subst e; exact ir _ hn
   ·cases c2:bt j (n+1)with
    | false=>rfl
    | true=>
     have:=tr j (n+1) (argBest bt n) ∅ hn ∅ c2 c
     rw[ih j ∅]at this; cases this
  | false=>
   rw[IP (by exact IE)]
   by_cases e:j=n+1
   ·subst e; exact c
   ·exact ih j ∅
def yA {ks:HN T}(hn:∀x∈ks,dF x=true)(hl:dU ks=true)(hne:ks≠[]):∃x,ks[iN ks]?=ba x/\x∈ks/\∀y∈ks,gg y x=ba false:=by
 have hp:0 < ks.length:=OO.mpr hne;have hm:iN ks < ks.length:=by
  unfold iN;have:=dM (kL ks) (ks.length - 1);omega
 have ltk:∀i j (hi:i < ks.length) (hj:j < ks.length),gg ks[i] ks[j]=ba (kL ks i j):=λi j hi hj=>dc hl hi hj
 have ir:∀i < ks.length,kL ks i i=false:=λi hi=>by
  cases c:kL ks i i with
  | false=>rfl
  | true=>
   have e:=ltk i i hi hi;rw[c]at e;have:=jV _ _ (hn _ (Jh hi)) e;rw[e]at this; cases this
 have mn:=jk (bt:=kL ks) (N:=ks.length) ir (λi j k hi hj hk h1 h2=>by
  have e1:=ltk i j hi hj;have e2:=ltk j k hj hk;rw[h1]at e1;rw[h2]at e2;have:=qP _ _ _ (hn _ (Jh hi)) (hn _ (Jh hj)) e1 e2;rw[ltk i k hi hk]at this;exact Jz this) (ks.length - 1) ∅
 refine#[ks[iN ks],Ig hm,Jh hm,λy hy=>?_]
 obtain⟨j,hj,rfl⟩:=JW.mp hy;rw[ltk j _ hj hm];congr 1;exact mn j ∅
def Bb {x y:T}(hx:dF x=true)(h1:gg x y=ba false)(h2:gg y x=ba false):x=y:=by
 by_cases e:x=y
 ·exact e
 ·rw[mT x y hx e h2]at h1; cases h1
def qa:∀ {xs ys as bs:HN T},xs.length=ys.length->cH xs ys=ba true->cH (xs++as) (ys++bs)=ba true
 | [],[],_,_,_,h=>by cases h
 | x::xs,y::ys,as,bs,hl,h=>by
  simp only[P7,cH]at h ⊢
  by_cases e:x=y
  ·rw[IF e]at h ⊢;exact qa (by simpa using hl) h
  ·rw[IP e]at h ⊢;exact h
 | [],_::_,_,_,hl,_=>by simp at hl
 | _::_,[],_,_,hl,_=>by simp at hl
def qb {as bs:HN T}:∀xs:HN T,cH (xs++as) (xs++bs)=cH as bs
 | []=>rfl
 | x::xs=>by
  simp only[P7,cH,Kd];exact qb xs
def DA {x y:T}(hx:dF x=true)(h:cH [x] [y]=ba true):gg x y=ba true:=by
 simp only[cH]at h;split at h
 ·cases h
 ·exact h
structure Ord (n:HZ)(o:HN HZ):Prop where
 nd:o.Nodup
 lt:∀p∈o,p < n
abbrev aP (bs:HN Ip)(u:Wd)(o:HN HZ):Pt:=aY bs u o.dropLast (o.getLastD 0)
abbrev bV (ps:HN Pt):Pt:=ps.getD (iN (ps.map ga)) (0,[])
abbrev d4 (bs:HN Ip)(u:Wd):HZ->HN (HN HZ)
 | 0=>[[]]
 | k+1=>(aw u.length (d4 bs u k)).filter λo=>decide (aP bs u o=bV ((aw u.length (d4 bs u k)).map (aP bs u)))
abbrev nK (bs:HN Ip)(u:Wd):HZ->Wd
 | 0=>[]
 | k+1=>nK bs u k++[bV ((aw u.length (d4 bs u k)).map (aP bs u))]
def yB (p:Pt):dF (ga p)=true:=by
 have:=jy [p]
 simpa [cq]using this
def md (ps:HN Pt):dU (ps.map ga)=true:=by
 unfold dU;rw[IG];intro x hx;rw[IG];intro y hy;obtain⟨p,_,rfl⟩:=Iy.mp hx;obtain⟨q,_,rfl⟩:=Iy.mp hy;exact rq _ _ (xS p q)
def mf {ps:HN Pt}(h:ps≠[]):ps[iN (ps.map ga)]?=ba (bV ps)/\bV ps∈ps/\∀y∈ps,gg (ga y) (ga (bV ps))=ba false:=by
 obtain⟨x,h1,h2,h3⟩:=yA (ks:=ps.map ga) (λx hx=>by obtain⟨p,_,rfl⟩:=Iy.mp hx; exact yB p) (md ps) (by simpa using h)
 rw[Ii,HU]at h1;obtain⟨p,hp,rfl⟩:=h1;have e:bV ps=p:=by unfold bV; rw[JL,hp]; rfl
 rw[e];exact#[hp,Ir hp,λy hy=>h3 _ (Iy.mpr #[y,hy,rfl])]
def eF {n:HZ}{os:HN (HN HZ)}{o':HN HZ}:o'∈aw n os↔∃o∈os,∃p,p < n/\p∉o/\o'=o++[p]:=by
 unfold aw;rw[Lz];constructor
 ·rintro⟨o,ho,h⟩;obtain⟨p,hp,rfl⟩:=Iy.mp h;obtain⟨h1,h2⟩:=JI.mp hp;exact#[o,ho,p,IR.mp h1,Je h2,rfl]
 ·rintro⟨o,ho,p,h1,h2,rfl⟩;exact#[o,ho,Iy.mpr #[p,JI.mpr #[IR.mpr h1,JG h2],rfl]]
def fR {bs:HN Ip}{u:Wd}{o:HN HZ}{p:HZ}:aP bs u (o++[p])=aY bs u o p:=by
 unfold aP;rw[MS,OB]
def iy {n:HZ}{o:HN HZ}{p:HZ}:Ord n (o++[p])↔Ord n o/\p < n/\p∉o:=by
 constructor
 ·rintro⟨nd,lt⟩;rw[J9]at nd;exact#[#[nd.1,λq hq=>lt q (JN _ hq)],lt p (by simp),λz=>nd.2.2 p z p (by simp) rfl]
 ·rintro⟨⟨nd,lt⟩,h1,h2⟩;refine#[J9.mpr #[nd,by simp,λa ha b hb e=>?_],λq hq=>?_]
  ·rw[Ik.mp hb]at e;exact h2 (e ▸ ha)
  ·rcases IY.mp hq with z|z
   ·exact lt q z
   ·rw[Ik.mp z]; exact h1
def qc {n:HZ}{o:HN HZ}(h:Ord n o)(hl:o.length < n):∃p,p < n/\p∉o:=by
 by_cases z:∃p,p < n/\p∉o
 ·exact z
 ·have h1:=iZ (ID n) o MK λp hp=>by
   by_cases z2:p∈o
   ·exact z2
   ·exact absurd #[p,IR.mp hp,z2] z
  rw[IV]at h1;omega
def Fy (u v:Wd):(gg (bS u) (bS v)).isSome=true:=by
 have:=fQ [u,v];unfold dU at this;rw[IG]at this;have:=this (bS u) (by simp)
 rw[IG]at this;exact this (bS v) (by simp)
def DB {u v:Wd}(h:gg (bS u) (bS v)≠ba true):gg (bS u) (bS v)=ba false:=by
 obtain⟨b,hb⟩:=Jv.mp (Fy u v);cases b with
 | false=>exact hb
 | true=>exact absurd hb h
structure GrOk (bs:HN Ip)(u:Wd)(k:HZ):Prop where
 mem:∀o,o∈d4 bs u k↔Ord u.length o/\o.length=k/\aj bs u o=nK bs u k
 least:∀o,Ord u.length o->o.length=k->gg (bS (aj bs u o)) (bS (nK bs u k))=ba false
 ne:d4 bs u k≠[]
 len:(nK bs u k).length=k
def nL {k:HZ}{o:HN HZ}(h:o.length=k+1):∃o' p,o=o'++[p]/\o'.length=k:=by
 have hne:o≠[]:=λz=>by rw[z]at h; cases h
 exact#[o.dropLast,o.getLast hne,(LG hne).symm,by rw[MU]; omega]
def qd {bs:HN Ip}{u:Wd}:∀k,k<=u.length->GrOk bs u k
 | 0,_=>by
  refine#[λo=>?_,λo _ hl=>?_,P5 _ _,rfl]
  ·rw[d4,Ik];exact#[λh=>by subst h; exact#[#[.nil,λp hp=>nomatch hp],rfl,rfl],λh=>MV h.2.1]
  ·rw[MV hl]; rfl
 | k+1,hk=>by
  have ih:=qd (bs:=bs) (u:=u) k ∅
  have lne:aw u.length (d4 bs u k)≠[]:=by
   obtain⟨o,ho⟩:=K8 _ ih.ne;obtain⟨h1,h2,_⟩:=(ih.mem o).mp ho;obtain⟨p,hp,hpo⟩:=qc h1 ∅
   exact Nv (eF.mpr #[o,ho,p,hp,hpo,rfl])
  obtain⟨_,b2,b3⟩:=mf (ps:=(aw u.length (d4 bs u k)).map (aP bs u)) (by simpa using lne)
  have ef:nK bs u (k+1)=nK bs u k++[bV ((aw u.length (d4 bs u k)).map (aP bs u))]:=rfl;have eo:d4 bs u (k+1)=(aw u.length (d4 bs u k)).filter λo=>decide (aP bs u o=bV ((aw u.length (d4 bs u k)).map (aP bs u))):=rfl
  generalize bV ((aw u.length (d4 bs u k)).map (aP bs u))=best at b2 b3 ef eo;refine#[λo=>?_,λo hO hl=>?_,?_,by rw[ef,Io,ih.len]; rfl]
  ·rw[eo,JI,ef];constructor
   ·rintro⟨h1,h2⟩;obtain⟨o,ho,p,hp,hpo,rfl⟩:=eF.mp h1;obtain⟨g1,g2,g3⟩:=(ih.mem o).mp ho;have h2:=Je h2;rw[fR]at h2;exact#[iy.mpr #[g1,hp,hpo],by rw[Io,g2]; rfl,by rw[bp,g3,h2]]
   ·rintro⟨h1,h2,h3⟩;obtain⟨o,p,rfl,hl⟩:=nL h2;obtain⟨g1,g2,g3⟩:=iy.mp h1;rw[bp]at h3;obtain⟨e1,e2⟩:=List.append_inj h3 (by rw[aO,ih.len,hl])
    refine#[eF.mpr #[o,(ih.mem o).mpr #[g1,hl,e1],p,g2,g3,rfl],JG ?_];rw[fR];exact List.singleton_inj.mp e2
  ·obtain⟨o,p,rfl,hl'⟩:=nL hl;clear hl;have hl:=hl';obtain⟨g1,g2,g3⟩:=iy.mp hO;refine DB λz=>?_
   rw[bp,ef]at z;have z:cH ((aj bs u o++[aY bs u o p]).map ga) ((nK bs u k++[best]).map ga)=ba true:=z;rw[II,II]at z
   by_cases e:aj bs u o=nK bs u k
   ·rw[e,qb]at z;have:=DA (yB _) z;rw[b3 _ (Iy.mpr #[o++[p],eF.mpr #[o,(ih.mem o).mpr #[g1,hl,e],p,g2,g3,rfl],fR])]at this;cases this
   ·have h1:=mT (bS (nK bs u k)) (bS (aj bs u o)) (nI _) (λh=>e (ip h).symm) (ih.least o g1 hl)
    have h1:cH ((nK bs u k).map ga) ((aj bs u o).map ga)=ba true:=h1;have h2:=qa (as:=[best].map ga) (bs:=[aY bs u o p].map ga) (by rw[HQ,HQ,aO,ih.len,hl]) h1
    have h3:=mS _ _ (by rw[<- II]; exact jy _) h2
    rw[z]at h3; cases h3
  ·obtain⟨o,ho,e⟩:=Iy.mp b2;rw[eo];exact Nv (JI.mpr #[ho,JG e])
abbrev bI (bs:HN Ip)(u:Wd):Wd:=nK bs u u.length
def iA {bs:HN Ip}{u:Wd}:∃o,Ord u.length o/\o.length=u.length/\aj bs u o=bI bs u:=by
 have h:=qd (bs:=bs) (u:=u) u.length (Ih _);obtain⟨o,ho⟩:=K8 _ h.ne;exact#[o,(h.mem o).mp ho]
def eG {bs:HN Ip}{u:Wd}{o:HN HZ}{i:HZ}(hi:i < o.length):(aj bs u o).getD i (0,[])=((u.getD (o.getD i 0) (0,[])).1,(o.take i).map λj=>bP bs u (o.getD i 0) j):=by
 unfold aj;rw[JL,Ii,KC hi]; rfl
def qf {bs:HN Ip}{u:Wd}{o:HN HZ}{i j:HZ}(hi:i < o.length)(hj:j < i):((aj bs u o).getD i (0,[])).2.getD j 0=bP bs u (o.getD i 0) (o.getD j 0):=by
 rw[eG hi];dsimp only;rw[JL,Ii,NI hj,aq (d:=0) (show j < o.length by omega)]; rfl
def yC {bs:HN Ip}{a:HZ}{u:Wd}{o:HN HZ}{i j:HZ}(hb:GoodB bs)(hu:GoodW a bs.length u)(hO:Ord u.length o)(hi:i < o.length)(hj:j < o.length)(hij:i≠j):bP bs (aj bs u o) i j=bP bs u (o.getD i 0) (o.getD j 0):=by
 have gi:=aq (d:=0) hi;have gj:=aq (d:=0) hj;have li:=hO.lt _ (Ir gi);have lj:=hO.lt _ (Ir gj);have ne:o.getD i 0≠o.getD j 0:=λe=>by
  have h1:o[i]=o.getD i 0:=by simp[hi]
  have h2:o[j]=o.getD j 0:=by simp[hj]
  exact hij ((Kv hO.nd).mp (by rw[h1,h2,e]))
 by_cases h:j < i
 ·have:bP bs (aj bs u o) i j=((aj bs u o).getD i (0,[])).2.getD j 0:=by unfold bP; rw[IF h]
  rw[this,qf hi h]
 ·have:bP bs (aj bs u o) i j=bs.getD (((aj bs u o).getD j (0,[])).2.getD i 0).toNat 0:=by unfold bP; rw[IP h]
  rw[this,qf hj ∅]
  generalize o.getD i 0=x at *
  generalize o.getD j 0=y at *
  unfold bP
  by_cases h2:x < y
  ·rw[IF h2,IP ∅]
  ·rw[IP h2,IF ∅]
   have hp:=aq (d:=(0,[])) li;have hw:y < (u.getD x (0,[])).2.length:=by rw[hu.len x _ hp]; omega
   obtain⟨w0,w1⟩:=hu.way x _ hp _ (Ir (aq (d:=0) hw));have:=hb.inv ((u.getD x (0,[])).2.getD y 0).toNat ∅
   rw[this]; omega
def fS {bs:HN Ip}{a:HZ}{u:Wd}{o p:HN HZ}(hb:GoodB bs)(hu:GoodW a bs.length u)(hO:Ord u.length o)(hP:Ord o.length p):aj bs (aj bs u o) p=aj bs u (p.map λi=>o.getD i 0):=by
 refine Lv (by rw[aO,aO,HQ]) λk h1 h2=>?_
 rw[aO]at h1;have e1:=eG (bs:=bs) (u:=aj bs u o) (o:=p) h1;have e2:=eG (bs:=bs) (u:=u) (o:=p.map λi=>o.getD i 0) (i:=k) (by rw[HQ]; exact h1)
 have hk:p.getD k 0 < o.length:=hP.lt _ (Ir (aq (d:=0) h1));have ek:(p.map λi=>o.getD i 0).getD k 0=o.getD (p.getD k 0) 0:=by
  rw[JL,Ii,aq (d:=0) h1]; rfl
 rw[ek]at e2;rw[eG hk]at e1;have f:∀(v:Wd) (hv:k < v.length),v[k]=v.getD k (0,[]):=λv hv=>by simp[hv]
 rw[f _ (by rw[aO]; exact h1),f _ h2,e1,e2]
 congr 1;rw[<- MO,JQ];refine JM λj hj=>?_
 obtain⟨m,hm,rfl⟩:=JW.mp hj;rw[JE]at hm;rw[Lh];have hpm:p[m]=p.getD m 0:=by simp[show m < p.length by omega]
 rw[hpm];refine yC hb hu hO hk (hP.lt _ (Ir (aq (d:=0) (show m < p.length by omega)))) λe=>?_
 have h3:p[k]=p.getD k 0:=by simp[h1]
 have:=(Kv hP.nd).mp (h3.trans (e.trans hpm.symm));omega
def d6 {n:HZ}{o:HN HZ}(h:Ord n o)(hl:o.length=n){p:HZ}(hp:p < n):p∈o:=by
 by_cases z:p∈o
 ·exact z
 ·have:=(iy (n:=n) (o:=o) (p:=p)).mpr #[h,hp,z];have h1:=iZ (o++[p]) (ID n) this.nd λq hq=>IR.mpr (this.lt q hq)
  rw[Io,IV,Kk]at h1;omega
def qh {n:HZ}{o p:HN HZ}(h:Ord n o)(hp:Ord o.length p):Ord n (p.map λi=>o.getD i 0):=by
 have g:∀i,i < o.length->o[i]?=ba (o.getD i 0):=λi hi=>aq hi
 refine#[?_,λq hq=>?_]
 ·rw[JV,KQ];refine hp.nd.imp_of_mem λ{a b} ha hb hab e=>hab ?_
  have h1:=hp.lt a ha;have h2:=hp.lt b hb;have e1:o[a]=o.getD a 0:=by simp[h1]
  have e2:o[b]=o.getD b 0:=by simp[h2]
  exact(Kv h.nd).mp (by rw[e1,e2,e])
 ·obtain⟨i,hi,rfl⟩:=Iy.mp hq;exact h.lt _ (Ir (g i (hp.lt i hi)))
def kH {bs:HN Ip}{a:HZ}{u:Wd}{o:HN HZ}(hb:GoodB bs)(hu:GoodW a bs.length u)(hO:Ord u.length o)(hl:o.length=u.length):bI bs (aj bs u o)=bI bs u:=by
 have pl:(aj bs u o).length=u.length:=by rw[aO,hl]
 obtain⟨p,p1,p2,p3⟩:=iA (bs:=bs) (u:=aj bs u o);obtain⟨q,q1,q2,q3⟩:=iA (bs:=bs) (u:=u);rw[pl]at p1 p2;have m1:=λo h1 h2=>(qd (bs:=bs) (u:=u) _ (Ih _)).least o h1 h2
 have m2:=λo2 h1 h2=>(qd (bs:=bs) (u:=aj bs u o) _ (Ih _)).least o2 h1 h2
 refine ip (Bb (nI _) ?_ ?_)
 ·rw[<- p3,fS hb hu hO (by rw[hl]; exact p1)]
  exact m1 _ (qh hO (by rw[hl]; exact p1)) (by rw[HQ,p2])
 ·have e:q=(q.map λx=>o.idxOf x).map λi=>o.getD i 0:=by
   rw[JQ]
   conv=>lhs; rw[<- Rx q]
   refine JM λx hx=>?_
   have hm:=d6 hO hl (q1.lt x hx);have hlt:=KS hm;show x=o.getD (o.idxOf x) 0;rw[JL,Ig hlt,K5]; rfl
  have hQ:Ord o.length (q.map λx=>o.idxOf x):=by
   refine#[?_,λi hi=>?_]
   ·rw[JV,KQ];refine q1.nd.imp_of_mem λ{x y} hx hy hxy e=>hxy ?_
    have h1:=KS (d6 hO hl (q1.lt x hx));have h2:=KS (d6 hO hl (q1.lt y hy));have e1:=K5 h1;have e2:=K5 h2;rw[<- e1,<- e2];congr 1
   ·obtain⟨x,hx,rfl⟩:=Iy.mp hi;exact KS (d6 hO hl (q1.lt x hx))
  rw[<- q3,e,<- fS hb hu hO hQ];exact m2 _ (by rw[pl,<- hl]; exact hQ) (by rw[HQ,pl,q2])
section
variable{M:IH->FF}{Z:Fm}{S:aa}
def DC {α:Type}{elt a b:E}{cs:Es}{cap:HN (HY HZ)}{Q:QW}(L:HN α)(f g:α->W)(p:α->IN)(h:α->W)(R:Fm)(oa:da a=true)(ob:da b=true)(oe:da elt=true)(oc:lO cs=true)(hc:eh cap Z=gV::gV::gV::R)(hl:L.length<=1000000)
  (he:wE M a Z S λq=>wE M b Z q.2 λq2=>∃r t,q.1=.ref r/\q2.1=.ref t/\q2.2[r]?=ba (.lst (L.map f))/\q2.2[t]?=ba (.lst (L.map g))/\Ka S q2.2)
  (hstep:∀x∈L,∀S',Ka S S'->eX M elt cs (gV::ba (f x)::ba (g x)::R) S' (λy _ S2=>p x=true/\y=h x/\Ka S' S2) (λ_ S2=>p x=false/\Ka S' S2))
  (k:∀S',Ka S S'->Q (.ref S'.length,S'++[.lst ((L.filter p).map h)])):Wp (az M (.comp elt (.tp [1,2]) (.zip #v[a,b]) cs cap) Z S) Q:=by
 obtain⟨w,S0,e1,h1⟩:=bo oa he;obtain⟨w2,S1,e2,r,t,rfl,rfl,hr,ht,k1⟩:=bo ob h1;have hr:=hr;have hz:kQ (L.map f) (L.map g)=L.map λx=>W.tup [f x,g x]:=by
  unfold kQ;rw[List.zipWith_map,List.zipWith_self]
 have hi:iR M (.zip #v[a,b]) Z S=ba (.zl r t,S1):=by
  dsimp only at hr ht;simp only[iR,cG,dj,g9,Ap,e1,e2,DQ,ar hr,ar ht]
 dsimp only at hr ht k1;rw[rj];refine#[_,hi,(L.map λx=>W.tup [f x,g x]).length,by simp only[MI.len,ar hr,ar ht,hz],?_]
 refine(cv (xs:=L.map λx=>W.tup [f x,g x]) (Q:=λq=>q.1.length<=sizeLine/\Q (.ref q.2.length,q.2++[.lst q.1])) (λi ys Z' S'=>(∃a1 a2,Z'=gV::a1::a2::R)/\ys=((L.take i).filter p).map h/\Ka S1 S') (λi ys Z' S' h=>by simp only[MI.at,ar (h.2.2.get _ _ hr),ar (h.2.2.get _ _ ht),hz]) (λi w ys Z' S' hw h=>?_) (λys Z' S' h=>?_) _ 0 [] _ S1 ∅ #[#[gV,gV,hc],rfl,.refl]).mono λq hq=>by simpa using hq
 ·obtain⟨⟨a1,a2,rfl⟩,rfl,k2⟩:=h;rw[Ii,HU]at hw;obtain⟨x,hx,rfl⟩:=hw;refine GX.mpr #[_,rfl,?_];refine(xK oc (hstep x (Ir hx) S' (k1.trans k2))).mono λc hc=>#[λz=>(aT elt oe (hc.1 z)).mono λy hy=>#[#[_,_,rfl],?_,k2.trans hy.2.2],λz=>#[#[_,_,rfl],?_,k2.trans (hc.2 z).2]]
  ·rw[IS,hx,Ku,show(Mk (ba x)).filter p=[x]from Mu hy.1,II,hy.2.1]; rfl
  ·rw[IS,hx,Ku,show(Mk (ba x)).filter p=[]from Mv (by rw[(hc.2 z).1]; exact IE),JT]
 ·obtain⟨_,rfl,k2⟩:=h;dsimp only;rw[show(L.map λx=>W.tup [f x,g x]).length=L.length from HQ ..,Jp]
  refine#[rF ?_,k S' (k1.trans k2)];rw[HQ];exact IL (J7 _ _) hl
end
def DD (L:HN Pt):W.ts (L.map bJ)=ba (L.map ga):=by rw[<- rm]; exact T.ws_ts _
abbrev cF:Ss:=
 #v[.set 2 (.lst .nil),.set 3 (.lst #v[.tup .nil]),.whl (.cmp .lt (.bi .len #v[.v 2]) (.bi .len #v[.v 1])) #v[.set 4 (.own "longer_orders" 2 #v[.v 3,.bi .len #v[.v 1]]),.set 5 (.comp (.own "point_over" 4 #v[.v 2,.v 3,.sl (.v 1) .no (.yes (.neg (.c (.int 1)))),.ix (.v 1) (.neg (.c (.int 1)))]) (.nm 1) (.seq (.v 4)) .nil [gV,gV,ba 0,ba 1]),.set 6 (.bi .min #v[.v 5]),.ex (.me .append (.v 2) #v[.v 6]),.set 3 (.comp (.v 1) (.tp [1,2]) (.zip #v[.v 4,.v 5]) #v[.cmp .eq (.v 2) (.v 3)] [gV,gV,gV,ba 6])],.ret (.bi .tuple #v[.v 2])]
section
variable{defs:HN (IH×Df)}{fuel d:HZ}{S:aa}{Q:QW}
def DE {l:HZ}{ps:HN Pt}(h:S[l]?=ba (.lst (ps.map bJ)))(hne:ps≠[])(q:Q (bJ (bV ps),S)):wO (Bi.min.fn [.ref l] S) Q:=by
 refine ac ?_ q;simp only[Bi.fn,wf,ar h,DD];rw[IF #[by have:=i4 ps; unfold bK; omega,md _],Ii,(mf hne).1]; rfl
def tq {bs:HN Ip}{u:Wd}:∀k,(d4 bs u k).length<=u.length ^ k
 | 0=>Ih _
 | k+1=>by
  have h1:=J7 (λo=>decide (aP bs u o=bV ((aw u.length (d4 bs u k)).map (aP bs u)))) (aw u.length (d4 bs u k))
  have h2:=eD (n:=u.length) (d4 bs u k);have h3:=LX u.length (tq (bs:=bs) (u:=u) k);rw[PD];exact IL h1 (IL h2 h3)
def iB (hfu:20 < fuel)(P:Parts defs)(hlo:Is defs ("longer_orders" : IH) 2 4 aQ)(hg:Is defs ("least_form" : IH) 2 7 cF){m0 b0:W}{ns:HN IH}{bs:HN Ip}{a:HZ}{u:Wd}(hb:GoodB bs)(hnl:ns.length=bs.length)(hu:GoodW a bs.length u)(hu6:u.length<=6)
  (kk:∀S',Ka S S'->Q (aA (bI bs u),S')) :
  wO (aV (am defs fuel (d+3)) "least_form" 2 [.tup [m0,.tup (Iz aK ns bs),b0],aA u] S) Q:=by
 refine ay hg rfl rfl λQ' hR=>?_
 replace kk:∀S',Ka S S'->Q' (.rt (aA (bI bs u)),S'):=λS' a=>hR _ _ (kk S' a)
 clear hR;show wZ _ _ cF [ba (.tup [m0,.tup (Iz aK ns bs),b0]),ba (aA u),gV,gV,gV,gV,gV] S Q';generalize hR0:W.tup [m0,.tup (Iz aK ns bs),b0]=R;have ul:(u.map bJ).length=u.length:=HQ ..;dsimp only[cF];refine st ?_;dsimp only[wS,wE,wA,Iq];refine st ?_;dsimp only[wS,wE,wA,Iq];nofun
 refine xJ (λm Z S'=>∃(k q:HZ) (a4 a5 a6:HY W),k+m=u.length/\Z=[ba R,ba (aA u),ba (.ref S.length),ba (.ref q),a4,a5,a6]/\S'[S.length]?=ba (.lst ((nK bs u k).map bJ))/\S'[q]?=ba (.lst (bg (d4 bs u k)))/\Ka S S') u.length rfl rfl ∅ #[0,(S++[O.lst []]).length,gV,gV,gV,∅,rfl,al af,af,Ka.push.trans .push] ?_
 rintro m Z S1 ⟨k,q,a4,a5,a6,hkm,rfl,e1,e2,k1⟩;have ok:=qd (bs:=bs) (u:=u) k ∅
 have hl1:=dk e1;dsimp only[wT,wE,wA,wV,wG];refine fF e1 (aU ?_);rw[ul,HQ,ok.len];dsimp only[xE,aD,wB];refine#[λh=>?_,λh=>?_]
 ·have h:(k:Ip) < u.length:=Je h;have hkn:k < u.length:=∅
  refine#[m - 1,∅,λQ2 hn _=>?_]
  clear hK kk;have hgl:(d4 bs u k).length<=7776:=IL (tq k) (IL (Mc hu6 k) (LW (n:=6) #v[] (show k<=5 by omega)))
  have hmul:(d4 bs u k).length*u.length<=46656:=OA hgl hu6;have hll:(aw u.length (d4 bs u k)).length<=46656:=IL (eD _) hmul;refine st ?_;left;refine aU ?_;rw[ul];refine pY (d:=d+1) hlo e2 ∅ (λo ho=>by have:=((ok.mem o).mp ho).2.1; omega) ∅ λl S2 e3 hl k2=>?_
  have hl:S1.length<=l:=hl;have lne:aw u.length (d4 bs u k)≠[]:=by
   obtain⟨o,ho⟩:=K8 _ ok.ne;obtain⟨h1,h2,_⟩:=(ok.mem o).mp ho;obtain⟨p,hp,hpo⟩:=qc h1 ∅
   exact Nv (eF.mpr #[o,ho,p,hp,hpo,rfl])
  refine st ?_;dsimp only[wS,wE,Iq];refine rH (aw u.length (d4 bs u k)) (λo=>.tup (ah o)) (λ_=>true) (λo=>bJ (aP bs u o)) [ba R,ba (aA u)] rfl rfl rfl rfl ∅ #[l,rfl,e3,.refl] (λo ho S3 k3=>?_) λS3 k3=>?_
  ·obtain⟨o,ho',p,hp,hpo,rfl⟩:=eF.mp ho;obtain⟨⟨o1,o2⟩,o3,_⟩:=(ok.mem o).mp ho';dsimp only[eX,wC,wE,wA,wP,wV,wG,wN];refine#[λ_=>?_,λz=>by cases z]
   refine ac (show nX (.tup (ah (o++[p]))) gV (ba (-1)) S3=ba (.tup (ah o),S3) by simp only[nX,pX,l9,MS]) ?_
   dsimp only;refine ac (tm (by simp)) ?_
   dsimp only;subst hR0;rw[OB,fR];exact rD (d:=d) P hb hnl hu (λx hx=>#[o2 x hx,λe=>hpo (e ▸ hx)]) hp ∅ λS4 k4=>#[rfl,rfl,k4]
  rw[eE];have em:(aw u.length (d4 bs u k)).map (λo=>bJ (aP bs u o))=((aw u.length (d4 bs u k)).map (aP bs u)).map bJ:=by rw[JQ]; rfl
  rw[em];have e4:(S3++[O.lst (((aw u.length (d4 bs u k)).map (aP bs u)).map bJ)])[S3.length]?=ba (.lst (((aw u.length (d4 bs u k)).map (aP bs u)).map bJ)):=af;have e3':=al (u:=O.lst (((aw u.length (d4 bs u k)).map (aP bs u)).map bJ)) (k3.get _ _ e3);have e1':=al (u:=O.lst (((aw u.length (d4 bs u k)).map (aP bs u)).map bJ)) (k3.get _ _ (k2.get _ _ e1));have ls3:S.length < S3.length:=IQ hl1 (IL k2.len k3.len);have k4:Ka S (S3++[O.lst (((aw u.length (d4 bs u k)).map (aP bs u)).map bJ)]):=((k1.trans k2).trans k3).trans .push;generalize S3++[O.lst (((aw u.length (d4 bs u k)).map (aP bs u)).map bJ)]=S4 at e4 e3' e1' k4;generalize hl5:S3.length=l5 at e4 ls3;clear e2 e3 k3 k2 hl5;refine st ?_;left;refine DE e4 (by simpa using lne) ?_
  refine st ?_;left;refine#[dg e1',Dt e1' (by rw[HQ,ok.len]; omega) ?_]
  have s1:=br (o':=O.lst ((nK bs u k).map bJ++[bJ (bV ((aw u.length (d4 bs u k)).map (aP bs u)))])) e1';have s3:(S4.set S.length (O.lst ((nK bs u k).map bJ++[bJ (bV ((aw u.length (d4 bs u k)).map (aP bs u)))])))[l]?=ba (.lst (bg (aw u.length (d4 bs u k)))):=by rw[bw ∅]; exact e3'
  have s4:(S4.set S.length (O.lst ((nK bs u k).map bJ++[bJ (bV ((aw u.length (d4 bs u k)).map (aP bs u)))])))[l5]?=ba (.lst (((aw u.length (d4 bs u k)).map (aP bs u)).map bJ)):=by rw[bw ∅]; exact e4
  have k5:=k4.late (o:=O.lst ((nK bs u k).map bJ++[bJ (bV ((aw u.length (d4 bs u k)).map (aP bs u)))])) (Ih S.length);generalize S4.set S.length (O.lst ((nK bs u k).map bJ++[bJ (bV ((aw u.length (d4 bs u k)).map (aP bs u)))]))=S5 at s1 s3 s4 k5;refine st ?_;dsimp only[wS,wE,Iq];refine DC (aw u.length (d4 bs u k)) (λo=>.tup (ah o)) (λo=>bJ (aP bs u o)) (λo=>decide (aP bs u o=bV ((aw u.length (d4 bs u k)).map (aP bs u)))) (λo=>.tup (ah o)) [ba (bJ (bV ((aw u.length (d4 bs u k)).map (aP bs u))))] rfl rfl rfl rfl rfl ∅ #[l,l5,rfl,rfl,s3,by rw[em]; exact s4,.refl] (λo ho S6 k6=>?_) λS6 k6=>?_
  ·dsimp only[eX,wC,wT,wE,wV,wG];refine ac yy ?_;dsimp only[wB];exact#[λz=>#[z,rfl,.refl],λz=>#[z,.refl]]
  ·refine ci (hn _ _ #[k+1,S6.length,_,_,_,∅,rfl,?_,af,(k5.trans k6).trans .push])
   have:=al (u:=O.lst (((aw u.length (d4 bs u k)).filter λo=>decide (aP bs u o=bV ((aw u.length (d4 bs u k)).map (aP bs u)))).map λo=>W.tup (ah o))) (k6.get _ _ s1)
   rw[this,show nK bs u (k+1)=nK bs u k++[bV ((aw u.length (d4 bs u k)).map (aP bs u))]from rfl,II]; rfl
 ·have h:¬ (k:Ip) < u.length:=Kt h;obtain rfl:k=u.length:=∅
  refine hK _ _ (st ?_);left;exact cx e1 (kk _ k1)
end
structure Cmn (bs:HN Ip)(u v:Wd)(e:HN (HZ×HZ)):Prop where
 up:(e.map (·.1)).Pairwise (· < ·)
 l1:∀p∈e,p.1 < u.length
 nd:(e.map (·.2)).Nodup
 l2:∀p∈e,p.2 < v.length
 prt:aj bs u (e.map (·.1))=aj bs v (e.map (·.2))
abbrev iC (bs:HN Ip)(u v:Wd)(e:HN (HZ×HZ))(i:HZ):HN HZ:=((ID v.length).filter λf=>decide (f∉e.map (·.2))).filter λf=>decide (aY bs v (e.map (·.2)) f=aY bs u (e.map (·.1)) i)
def qk {bs:HN Ip}{u v:Wd}{e:HN (HZ×HZ)}{i f:HZ}:f∈iC bs u v e i↔f < v.length/\f∉e.map (·.2)/\aY bs v (e.map (·.2)) f=aY bs u (e.map (·.1)) i:=by
 unfold iC;rw[JI,JI,IR,Ix,Ix,and_assoc]
def Cmn.nil {bs:HN Ip}{u v:Wd}:Cmn bs u v []:=#[.nil,λ_ h=>by simp at h,.nil,λ_ h=>by simp at h,by simp[aj]]
def iD {bs:HN Ip}{u v:Wd}{e:HN (HZ×HZ)}{i f:HZ}:Cmn bs u v (e++[(i,f)])↔Cmn bs u v e/\(∀p∈e,p.1 < i)/\i < u.length/\f∈iC bs u v e i:=by
 constructor
 ·intro h;have up:=h.up;have nd:=h.nd;have prt:=h.prt;rw[II,Li]at up;rw[II,J9]at nd;rw[II,II,K6,K6,bp,bp]at prt;obtain⟨p1,p2⟩:=List.append_inj' prt rfl;have p3:aY bs u (e.map (·.1)) i=aY bs v (e.map (·.2)) f:=by simpa using p2
  refine#[#[up.1,λp hp=>h.l1 p (JN _ hp),nd.1,λp hp=>h.l2 p (JN _ hp),p1],λp hp=>up.2.2 p.1 (Mf hp) i (by simp),h.l1 (i,f) (by simp),qk.mpr #[h.l2 (i,f) (by simp),λz=>nd.2.2 f z f (by simp) rfl,p3.symm]]
 ·rintro⟨h,h1,h2,h3⟩;obtain⟨g1,g2,g3⟩:=qk.mp h3;refine#[?_,λp hp=>?_,?_,λp hp=>?_,?_]
  ·rw[II,Li];refine#[h.up,by simp,λx hx y hy=>?_]
   obtain⟨p,hp,rfl⟩:=Iy.mp hx;rw[K6,Ik]at hy;subst hy;exact h1 p hp
  ·rcases IY.mp hp with z|z
   ·exact h.l1 p z
   ·cases Ik.mp z; exact h2
  ·rw[II,J9];refine#[h.nd,by simp,λx hx y hy z=>?_]
   rw[K6,Ik]at hy;subst hy;subst z;exact g2 hx
  ·rcases IY.mp hp with z|z
   ·exact h.l2 p z
   ·cases Ik.mp z; exact g1
  ·rw[II,II,K6,K6,bp,bp,h.prt];show _++[aY bs u (e.map (·.1)) i]=_++[aY bs v (e.map (·.2)) f]
   rw[g3]
def Cmn.init {bs:HN Ip}{u v:Wd}{e:HN (HZ×HZ)}:∀(n:HZ) (t:HN (HZ×HZ)),t.length=n->Cmn bs u v (e++t)->Cmn bs u v e
 | 0,t,h,H=>by
  cases Kc.mp h;rw[JT]at H; exact H
 | n+1,t,h,H=>by
  obtain⟨t',p,rfl,h'⟩ : ∃t' p,t=t'++[p]/\t'.length=n:=by
   have hne:t≠[]:=λz=>by rw[z]at h; cases h
   exact#[t.dropLast,t.getLast hne,(LG hne).symm,by rw[MU,h]; rfl]
  rw[<- JO]at H;exact Cmn.init n t' h' (iD (i:=p.1) (f:=p.2).mp H).1
def yD {n:HZ}:∀ {l:HN HZ} {a:HZ},(a::l).Pairwise (· < ·)->(∀x∈a::l,x < n)->(a::l).length+a<=n
 | [],a,_,h=>by have:=h a (by simp); simp; omega
 | b::l,a,hp,h=>by
  rw[Nr]at hp;have:=yD hp.2 λx hx=>h x (JD _ hx)
  have:=hp.1 b (by simp)
  simp only[Ju]at *
  omega
def Cmn.most {bs:HN Ip}{u v:Wd}{e t:HN (HZ×HZ)}{p:HZ×HZ}(h:Cmn bs u v (e++p::t)):(e++p::t).length+p.1<=e.length+u.length:=by
 have up:=h.up;rw[II,Li]at up;have:=yD (n:=u.length) (l:=t.map λ(q:HZ×HZ)=>q.1) (a:=p.1) up.2.1 λx hx=>by
  obtain⟨q,hq,rfl⟩:=Iy.mp (show x∈(p::t).map (·.1)from hx)
  exact h.l1 q (IU _ hq)
 rw[Io];simp only[Ju,HQ]at *
 omega
def Cmn.len {bs:HN Ip}{u v:Wd}{e:HN (HZ×HZ)}(h:Cmn bs u v e):e.length<=u.length:=by
 cases e with
 | nil=>exact JS _
 | cons p t=>have:=Cmn.most (e:=[]) h; simp at this ⊢; omega
def Cmn.next {bs:HN Ip}{u v:Wd}{e t:HN (HZ×HZ)}{p:HZ×HZ}(h:Cmn bs u v (e++p::t)):(∀q∈e,q.1 < p.1)/\p.1 < u.length/\p.2∈iC bs u v e p.1:=by
 have h':Cmn bs u v ((e++[p])++t):=by rw[JO]; exact h
 exact(iD (i:=p.1) (f:=p.2).mp (Cmn.init _ t rfl h')).2
def ql:∀ {n:HZ} {l:HN HZ},l.Pairwise (· < ·)->(∀x∈l,x < n)->l.length=n->l=ID n
 | 0,l,_,_,h=>by rw[Kc.mp h]; rfl
 | n+1,l,hp,hx,h=>by
  obtain⟨l',p,rfl,h'⟩:=nL h;rw[Li]at hp;have hp':p < n+1:=hx p (by simp)
  have lt:∀x∈l',x < n:=λx z=>by have:=hp.2.2 x z p (by simp); omega
  have e:=ql hp.1 lt h';have:p=n:=by
   by_cases z:n=0
   ·omega
   ·have:=hp.2.2 (n - 1) (by rw[e]; exact IR.mpr ∅) p (by simp)
    omega
  rw[e,this,Ld]
def kI {bs:HN Ip}{a n:HZ}{u:Wd}(hu:GoodW a n u):∀k,k<=u.length->aj bs u (ID k)=u.take k
 | 0,_=>by simp[aj]
 | k+1,h=>by
  rw[Ld,bp,kI hu k ∅,lX hu ∅,IS,aq (d:=(0,[])) ∅]; rfl
def jA {bs:HN Ip}{a n:HZ}{u:Wd}(hu:GoodW a n u):aj bs u (ID u.length)=u:=by
 rw[kI hu _ (Ih _),Jp]
def nM {bs:HN Ip}{a:HZ}{u v:Wd}{e:HN (HZ×HZ)}(hb:GoodB bs)(hu:GoodW a bs.length u)(hv:GoodW a bs.length v)(hl:v.length=u.length)(h:Cmn bs u v e)(he:e.length=u.length):bI bs u=bI bs v:=by
 have e1:=ql h.up (n:=u.length) (λx hx=>by obtain⟨p,hp,rfl⟩:=Iy.mp hx; exact h.l1 p hp) (by rw[HQ,he])
 have hp:=h.prt;rw[e1,jA hu]at hp;rw[hp];exact kH hb hv #[h.nd,λp hp=>by obtain⟨q,hq,rfl⟩:=Iy.mp hp; exact h.l2 q hq] (by rw[HQ,he,hl])
def Hi {n:HZ}{o:HN HZ}(h:Ord n o)(hl:o.length=n):∃p,Ord o.length p/\p.length=n/\(p.map λi=>o.getD i 0)=ID n:=by
 refine#[(ID n).map λi=>o.idxOf i,#[?_,λp hp=>?_],by rw[HQ,IV],?_]
 ·rw[JV,KQ];refine Q5 ?_ (MK (n:=n));intro x y hx hy hne z;have hx':=d6 h hl (IR.mp hx);have hy':=d6 h hl (IR.mp hy);have e1:=K5 (Ll.mpr hx');have e2:=K5 (Ll.mpr hy');refine hne ?_;rw[<- e1,<- e2];congr 1
 ·obtain⟨i,hi,rfl⟩:=Iy.mp hp;exact Ll.mpr (d6 h hl (IR.mp hi))
 ·rw[JQ]
  conv=>rhs; rw[<- Rx (ID n)]
  refine JM λi hi=>?_
  have hi':=d6 h hl (IR.mp hi);show o.getD (o.idxOf i) 0=i;rw[JL,Ig (Ll.mpr hi'),K5]; rfl
def tu {bs:HN Ip}{a:HZ}{u v:Wd}(hb:GoodB bs)(hu:GoodW a bs.length u)(hv:GoodW a bs.length v)(hl:v.length=u.length)(h:bI bs u=bI bs v):∃o,Ord v.length o/\o.length=u.length/\aj bs v o=u:=by
 obtain⟨o1,a1,a2,a3⟩:=iA (bs:=bs) (u:=u);obtain⟨o2,b1,b2,b3⟩:=iA (bs:=bs) (u:=v);obtain⟨p,c1,c2,c3⟩:=Hi a1 a2;have e:aj bs u o1=aj bs v o2:=by rw[a3,b3,h]
 have e1:=fS hb hu a1 c1;have c1':Ord o2.length p:=by rw[b2,hl,<- a2]; exact c1
 have e2:=fS hb hv b1 c1';rw[c3,jA hu]at e1;refine#[p.map λi=>o2.getD i 0,qh b1 c1',by rw[HQ,c2],?_]
 rw[<- e2,<- e,e1]
def Bc {bs:HN Ip}{a n:HZ}{u v:Wd}{o:HN HZ}(hu:GoodW a n u)(h:Ord v.length o)(hl:o.length=u.length)(hp:aj bs v o=u):Cmn bs u v ((ID u.length).zip o):=by
 have e1:((ID u.length).zip o).map (·.1)=ID u.length:=List.map_fst_zip (by rw[IV,hl]; exact Ih _)
 have e2:((ID u.length).zip o).map (·.2)=o:=PY (by rw[IV,hl]; exact Ih _)
 refine#[by rw[e1]; exact List.pairwise_lt_range,λp hp=>?_,by rw[e2]; exact h.nd,λp hp=>?_,by rw[e1,e2,jA hu,hp]]
 ·exact IR.mp (by rw[<- e1]; exact Mf hp)
 ·exact h.lt _ (by rw[<- e2]; exact Mf hp)
def tz {bs:HN Ip}{a n:HZ}{u v:Wd}{o:HN HZ}(hu:GoodW a n u)(h:Ord v.length o)(hl:o.length=u.length)(hp:aj bs v o=u):∀k,k<=u.length->o.take k∈kD bs u v k
 | 0,_=>by simp[kD]
 | k+1,hk=>by
  have ih:=tz hu h hl hp k ∅
  have hko:k < o.length:=∅
  have et:o.take (k+1)=o.take k++[o[k]]:=by rw[IS,Ig hko]; rfl
  have tk:∀j,j<=o.length->aj bs v (o.take j)=(aj bs v o).take j:=by
   intro j
   induction j with
   | zero=>intro _; simp[aj]
   | succ j ihj=>
    intro hj;have hj':j < o.length:=∅
    have hg:=eG (bs:=bs) (u:=v) (o:=o) (i:=j) hj';have hlen:(aj bs v o).length=o.length:=aO ..;rw[IS,Ig hj',IS,aq (d:=(0,[])) (by rw[hlen]; exact hj'),hg,<- ihj ∅]
    show aj bs v (o.take j++[o[j]])=_;rw[bp];have eo:o.getD j 0=o[j]:=by rw[JL,Ig hj']; rfl
    rw[eo];rfl
  have hnd:o[k]∉o.take k:=λz=>by
   obtain⟨j,hj,ej⟩:=JW.mp z;rw[JE]at hj;rw[Lh]at ej;have:=(Kv h.nd).mp ej;omega
  simp only[kD,Lz];refine#[o.take k,ih,?_];rw[et];refine Iy.mpr #[o[k],JI.mpr #[IR.mpr (h.lt _ (Jh hko)),?_],rfl];rw[HX,Ix,Ix,<- et,tk _ ∅,hp,kI hu _ hk]
  exact#[hnd,rfl]
def rJ {bs:HN Ip}{a:HZ}{u v:Wd}(hb:GoodB bs)(hu:GoodW a bs.length u)(hv:GoodW a bs.length v)(hl:v.length=u.length):bf bs u v u.length≠[]↔bI bs u=bI bs v:=by
 rw[lY hu (Ih _)];constructor
 ·intro h;obtain⟨o,ho⟩:=K8 _ h;have ok:=nG o ho;have:=ok.prt;rw[jA hu]at this;rw[this];exact kH hb hv #[ok.nd,ok.lt] (by rw[ok.len,hl])
 ·intro h z;obtain⟨o,h1,h2,h3⟩:=tu hb hu hv hl h;have:=tz hu h1 h2 h3 _ (Ih _);rw[z]at this;simp at this
abbrev d7:Ss:=
 #v[.ret (.own "best_behind" 4 #v[.v 0,.tup #v[.v 1,.v 2],.tup .nil,.tup .nil])]
abbrev cY:Ss:=
 #v[.ite (.cmp .gt (.bi .len #v[.v 2]) (.bi .len #v[.v 3])) #v[.set 3 (.v 2)] .nil,.set 4 (.ite (.v 2) (.op .add (.ix (.ix (.v 2) (.neg (.c (.int 1)))) (.c (.int 0))) (.c (.int 1))) (.c (.int 0))),.loop (.nm 5) (.rng2 #v[.v 4,.bi .len #v[.ix (.v 1) (.c (.int 0))]]) #v[.ite (.cmp .gt (.op .sub (.op .add (.bi .len #v[.v 2]) (.bi .len #v[.ix (.v 1) (.c (.int 0))])) (.v 5)) (.bi .len #v[.v 3])) #v[.loop (.nm 6) (.seq (.own "pairs_with" 4 #v[.v 0,.v 1,.v 2,.v 5])) #v[.set 3 (.own "best_behind" 4 #v[.v 0,.v 1,.op .add (.v 2) (.tup #v[.v 6]),.v 3])]] .nil],.ret (.v 3)]
abbrev dA:Ss:=
 #v[.set 4 (.comp (.ix (.v 1) (.c (.int 1))) (.nm 1) (.seq (.v 2)) .nil [gV,gV]),.set 5 (.own "point_over" 4 #v[.v 0,.ix (.v 1) (.c (.int 0)),.comp (.ix (.v 1) (.c (.int 0))) (.nm 1) (.seq (.v 2)) .nil [gV,gV],.v 3]),.set 6 (.comp (.v 1) (.nm 1) (.rng #v[.bi .len #v[.ix (.v 1) (.c (.int 1))]]) #v[.cmp .notin (.v 1) (.v 2)] [gV,gV,ba 4]),.ret (.comp (.tup #v[.v 3,.v 1]) (.nm 1) (.seq (.v 6)) #v[.cmp .eq (.own "point_over" 4 #v[.v 4,.ix (.v 6) (.c (.int 1)),.v 5,.v 1]) (.v 2)] [gV,gV,ba 5,ba 3,ba 0,ba 4,ba 1])]
abbrev nP (p:HZ×HZ):W:=.tup [.int p.1,.int p.2]
abbrev bQ (e:HN (HZ×HZ)):W:=.tup (e.map nP)
structure Icm (defs:HN (IH×Df)):Prop where
 com:Is defs ("in_common" : IH) 3 3 d7
 best:Is defs ("best_behind" : IH) 4 7 cY
 withp:Is defs ("pairs_with" : IH) 4 7 dA
section
variable{defs:HN (IH×Df)}{fuel d:HZ}{S:aa}{Q:QW}
def u4 {l p:HZ}{ps:HN HZ}(h:S[l]?=ba (.lst (ah ps))):cr .notin (.int p) (.ref l) S=ba (.bl (decide (p∉ps)),S):=by
 have hf:(bz (.int p)&&(ah ps).all bz)=true:=by rw[l8]; rfl
 simp only[cr,jw h,fT,Bl,zC,dR,ar h,hf,Kd,Ja,kG];congr 3
 by_cases h:p∈ps <;> simp[h]
def tB (P:Parts defs){m0 b0:W}{ns:HN IH}{bs:HN Ip}{a l:HZ}{u:Wd}{ps:HN HZ}{i:HZ}(hb:GoodB bs)(hl:ns.length=bs.length)(hu:GoodW a bs.length u)(hps:∀p∈ps,p < u.length/\i≠p)(hi:i < u.length)(hsz:ps.length<=1000)(el:S[l]?=ba (.lst (ah ps)))(k:∀S',Ka S S'->Q (bJ (aY bs u ps i),S')) :
  wO (aV (am defs fuel (d+2)) "point_over" 4 [.tup [m0,.tup (Iz aK ns bs),b0],aA u,.ref l,.int i] S) Q:=by
 refine ay P.over rfl rfl λQ' hR=>?_
 replace k:∀S',Ka S S'->Q' (.rt (bJ (aY bs u ps i)),S'):=λS' a=>hR _ _ (k S' a)
 clear hR;show wZ _ _ bN [ba (.tup [m0,.tup (Iz aK ns bs),b0]),ba (aA u),ba (.ref l),ba (.int i)] S Q';dsimp only[bN];refine st ?_;left;refine ak (IT i) (jh hi) (ak #v[] rfl ?_)
 refine rH ps (λq=>W.int (q:HZ)) (λ_=>true) (λq=>W.int (bP bs u i q)) _ rfl rfl rfl rfl ∅ #[l,rfl,el,.refl] (λq hq S' k'=>?_) λS' k'=>?_
 ·dsimp only[eX,wC,wT,wE,wA,wV,wG];exact#[λ_=>BC (d:=d) P hb hl hu hi (hps q hq).1 (hps q hq).2 #[rfl,rfl,.refl],λz=>by cases z]
 ·rw[eE];refine cx af ?_;have:=k _ (k'.trans (Ka.push (o:=O.lst (ps.map λq=>W.int (bP bs u i q)))))
  unfold aY bJ at this;rw[JQ]at this;exact this
def Bd (P:Parts defs)(I:Icm defs){m0 b0:W}{ns:HN IH}{bs:HN Ip}{a i:HZ}{u v:Wd}{e:HN (HZ×HZ)}(hb:GoodB bs)(hl:ns.length=bs.length)(hu:GoodW a bs.length u)(hv:GoodW a bs.length v)(hu5:u.length<=100)(hv5:v.length<=100)(hC:Cmn bs u v e)(hi:i < u.length)(hup:∀p∈e,p.1 < i)
  (k:∀(q:HZ) (S':aa),S'[q]?=ba (.lst ((iC bs u v e i).map λf=>nP (i,f)))->Ka S S'->Q (.ref q,S')) :
  wO (aV (am defs fuel (d+3)) "pairs_with" 4 [.tup [m0,.tup (Iz aK ns bs),b0],.tup [aA u,aA v],bQ e,.int (i:HZ)] S) Q:=by
 refine ay I.withp rfl rfl λQ' hR=>?_
 replace k:∀(q:HZ) (S':aa),S'[q]?=ba (.lst ((iC bs u v e i).map λf=>nP (i,f)))->Ka S S'->Q' (.rt (.ref q),S'):=λq S' a b=>hR _ _ (k q S' a b)
 clear hR;show wZ _ _ dA [ba (.tup [m0,.tup (Iz aK ns bs),b0]),ba (.tup [aA u,aA v]),ba (bQ e),ba (.int (i:HZ)),gV,gV,gV] S Q';have hel:=hC.len;dsimp only[dA];nofun
 left;refine nJ e nP (λ_=>true) (λp=>W.int (p.2:HZ)) [] rfl rfl rfl rfl ∅ #[rfl,.refl] (λp hp S' k'=>?_) λS1 k1=>?_
 ·dsimp only[eX,wC,wT,wE,wA,wV,wG];exact#[λ_=>ak #v[] rfl #[rfl,rfl,.refl],λz=>by cases z]
 rw[eE];have e4:(S1++[O.lst (e.map λp=>W.int (p.2:HZ))])[S1.length]?=ba (.lst (ah (e.map (·.2)))):=by
  rw[af]; unfold ah; rw[JQ]; rfl
 replace k1:=k1.trans (Ka.push (o:=O.lst (e.map λp=>W.int (p.2:HZ))))
 generalize S1++[O.lst (e.map λp=>W.int (p.2:HZ))]=S2 at k1 e4 ⊢
 generalize S1.length=l4 at e4 ⊢;refine hK _ _ ?_;clear hK K;nofun
 left;refine ak #v[] rfl ?_
 refine nJ e nP (λ_=>true) (λp=>W.int (p.1:HZ)) [] rfl rfl rfl rfl ∅ #[rfl,.refl] (λp hp S' k'=>?_) λS3 k3=>?_
 ·dsimp only[eX,wC,wT,wE,wA,wV,wG];exact#[λ_=>ak #v[] rfl #[rfl,rfl,.refl],λz=>by cases z]
 rw[eE];have e5:(S3++[O.lst (e.map λp=>W.int (p.1:HZ))])[S3.length]?=ba (.lst (ah (e.map (·.1)))):=by
  rw[af]; unfold ah; rw[JQ]; rfl
 replace k3:=k3.trans (Ka.push (o:=O.lst (e.map λp=>W.int (p.1:HZ))))
 refine tB (d:=d) P hb hl hu (λp hp=>?_) hi (by rw[HQ]; omega) e5 λS4 k4=>hK _ _ ?_
 ·obtain⟨q,hq,rfl⟩:=Iy.mp hp;exact#[hC.l1 q hq,λz=>by have:=hup q hq; omega]
 clear hK K e5;replace k4:=k3.trans k4;replace e4:=k4.get _ _ e4;replace k1:=k1.trans k4;clear k3 k4 S3;nofun
 left;refine Dx v.length (λx=>decide (x∉e.map (·.2))) (λx=>W.int (x:HZ)) [ba (.ref l4)] rfl rfl rfl rfl ∅ ?_ (λx hx S' k'=>?_) λS5 k5=>?_
 ·dsimp only[wE,wA,wV,wG];exact ak #v[] rfl (aU #[by rw[HQ],.refl])
 ·dsimp only[eX,wC,wT,wE,wA,wV,wG];refine ac (u4 (k'.get _ _ e4)) ?_;dsimp only[wB];exact#[λz=>#[z,rfl,.refl],λz=>#[z,.refl]]
 generalize hL:(ID v.length).filter (λx=>decide (x∉e.map (·.2)))=L
 have hLm:∀x∈L,x < v.length/\x∉e.map (·.2):=λx hx=>by
  rw[<- hL,JI,IR,Ix]at hx; exact hx
 have hLl:L.length<=100:=by
  rw[<- hL];exact IL (J7 _ _) (by rw[IV]; exact hv5)
 refine hK _ _ ?_;clear hK K;have e6:(S5++[O.lst (L.map λx=>W.int (x:HZ))])[S5.length]?=ba (.lst (L.map λx=>W.int (x:HZ))):=af
 replace k5:=k5.trans (Ka.push (o:=O.lst (L.map λx=>W.int (x:HZ))))
 replace e4:=k5.get _ _ e4;replace k1:=k1.trans k5;generalize S5++[O.lst (L.map λx=>W.int (x:HZ))]=S6 at e6 e4 k1 ⊢
 generalize S5.length=l6 at e6 ⊢;clear k5;refine st ?_;left;refine rH L (λx=>W.int (x:HZ)) (λf=>decide (aY bs v (e.map (·.2)) f=aY bs u (e.map (·.1)) i)) (λf=>nP (i,f)) [ba (bJ (aY bs u (e.map (·.1)) i)),ba (.int (i:HZ)),ba (.tup [m0,.tup (Iz aK ns bs),b0]),ba (.ref l4),ba (.tup [aA u,aA v])] rfl rfl rfl rfl ∅ #[l6,rfl,e6,.refl] (λf hf S' k'=>?_) λS7 k7=>?_
 ·dsimp only[eX,wC,wT,wE,wA,wV,wG];refine ak #v[] rfl ?_
  refine tB (d:=d) P hb hl hv (λp hp=>?_) (hLm f hf).1 (by rw[HQ]; omega) (k'.get _ _ e4) λS8 k8=>?_
  ·obtain⟨q,hq,rfl⟩:=Iy.mp hp;exact#[hC.l2 q hq,λz=>(hLm f hf).2 (z ▸ Mf hq)]
  ·refine ac (yy (p:=aY bs v (e.map (·.2)) f) (q:=aY bs u (e.map (·.1)) i)) ?_
   dsimp only[wB];exact#[λz=>#[z,rfl,k8],λz=>#[z,k8]]
 ·subst hL;exact k _ _ af ((k1.trans k7).trans .push)
end
def yE {S:aa}{e:HN (HZ×HZ)}{p:HZ×HZ}:lu (bQ (e++[p])) (.int (-1)) S=ba (nP p,S):=by
 have hl:((e++[p]).map nP).length=e.length+1:=by simp
 have hs:qm ((e++[p]).map nP).length (-1)=ba e.length:=by
  rw[hl];unfold qm;rw[IP #v[]]
  exact(IF ∅).trans (by congr 1; omega)
 have hg:((e++[p]).map nP)[e.length]?=ba (nP p):=by simp
 unfold bQ;simp only[lu,rX,nN,hs,hg,P6,Ja]
abbrev Fst (e:HN (HZ×HZ))(n:HZ):Prop:=(e=[]/\n=0)\/∃e' p,e=e'++[p]/\n=p.1+1
def Fst.up {bs:HN Ip}{u v:Wd}{e:HN (HZ×HZ)}{n i:HZ}(h:Fst e n)(hC:Cmn bs u v e)(hi:n<=i):∀q∈e,q.1 < i:=by
 rcases h with⟨rfl,_⟩|⟨e',p,rfl,rfl⟩
 ·exact λq hq=>by simp at hq
 ·intro q hq;rcases IY.mp hq with z|z
  ·have:=(iD (i:=p.1) (f:=p.2).mp hC).2.1 q z; omega
  ·cases Ik.mp z; omega
def Fst.le {e:HN (HZ×HZ)}{n i:HZ}(h:Fst e n)(hi:∀q∈e,q.1 < i):n<=i:=by
 rcases h with⟨_,rfl⟩|⟨e',p,rfl,rfl⟩
 ·exact JS _
 ·exact hi p (by simp)
section
variable{defs:HN (IH×Df)}{fuel d:HZ}{S:aa}{Q:QW}
def DF (P:Parts defs)(I:Icm defs){m0 b0:W}{ns:HN IH}{bs:HN Ip}{a:HZ}{u v:Wd}(hb:GoodB bs)(hl:ns.length=bs.length)(hu:GoodW a bs.length u)(hv:GoodW a bs.length v)(hu5:u.length<=100)(hv5:v.length<=100) :
  ∀(m d:HZ) (S:aa) (Q:QW) (e b:HN (HZ×HZ)) (n:HZ),Cmn bs u v e->Cmn bs u v b->Fst e n->u.length<=n+m->
  (∀r S',Cmn bs u v r->b.length<=r.length->(∀t,Cmn bs u v (e++t)->(e++t).length<=r.length)->Ka S S'->Q (bQ r,S'))->
  wO (aV (am defs fuel (d+m+4)) "best_behind" 4 [.tup [m0,.tup (Iz aK ns bs),b0],.tup [aA u,aA v],bQ e,bQ b] S) Q:=by
 intro m
 induction m using Nat.strongRecOn with
 | _ m ih=>
 intro d S Q e b n hC hB hF hm k;refine ay I.best rfl rfl λQ' hR=>?_
 replace k:∀r S',Cmn bs u v r->b.length<=r.length->(∀t,Cmn bs u v (e++t)->(e++t).length<=r.length)->Ka S S'->Q' (.rt (bQ r),S'):=λr S' x y z w=>hR _ _ (k r S' x y z w)
 clear hR;show wZ _ _ cY [ba (.tup [m0,.tup (Iz aK ns bs),b0]),ba (.tup [aA u,aA v]),ba (bQ e),ba (bQ b),gV,gV,gV] S Q';have hel:=hC.len;have hbl:=hB.len;generalize hR0:W.tup [m0,.tup (Iz aK ns bs),b0]=R;dsimp only[cY];nofun
 have tl:∀b1:HN (HZ×HZ),Cmn bs u v b1->b.length<=b1.length->e.length<=b1.length->K [ba R,ba (.tup [aA u,aA v]),ba (bQ e),ba (bQ b1),gV,gV,gV] S:=by
  intro b1 hB1 h1 h2;refine hK _ _ ?_;clear hK K hB hbl;nofun
  have t2:K [ba R,ba (.tup [aA u,aA v]),ba (bQ e),ba (bQ b1),ba (.int (n:Ip)),gV,gV] S:=by
   refine hK _ _ ?_;clear hK K;nofun
   refine pL (n:Ip) (u.length:Ip) (λj Z S'=>∃(b2:HN (HZ×HZ)) (a5 a6:HY W),Z=[ba R,ba (.tup [aA u,aA v]),ba (bQ e),ba (bQ b2),ba (.int (n:Ip)),a5,a6]/\Cmn bs u v b2/\b1.length<=b2.length/\(∀p t,Cmn bs u v (e++p::t)->p.1 < n+j->(e++p::t).length<=b2.length)/\Ka S S') rfl rfl rfl ?_ ?_ ?_ ?_
   ·have:n<=101:=by
     rcases hF with⟨_,rfl⟩|⟨e',p,rfl,rfl⟩
     ·omega
     ·have:=hC.l1 p (by simp); omega
    omega
   ·dsimp only[wE,wA,wV,wG];refine#[rfl,ak #v[] rfl (aU #[by rw[HQ],b1,gV,gV,rfl,hB1,Ih _,λp t h z=>?_,.refl])]
    have:=hF.le h.next.1;omega
   ·rintro j Z S1 hj ⟨b2,a5,a6,rfl,hB2,h3,h4,k1⟩;clear hK;have ei:(n:Ip)+(j:Ip)=((n+j:HZ):Ip):=∅
    rw[ei];have hi:n+j < u.length:=∅
    have hup:=hF.up hC (KH n j);have hb2:=hB2.len;intro Q2 hn2 _;dsimp only[Iq];nofun
    replace hK:∀Z' S',Q2 (.nx Z',S')->K Z' S':=λZ' S' h=>hK _ _ (ci h)
    dsimp only[wS,wT,wE,wA,wV,wG,bQ];refine aU (ak #v[] rfl (aU ?_))
    refine ac cg (ac xC (aU (ac xF ?_)));dsimp only[wB];rw[HQ,HQ,HQ];refine aC (Q0:=Q2) (λz Q3 hn3 _=>?_) (λz Q3 hn3 _=>ci (hn3 _ _ (hK _ _ (hn2 _ _ #[b2,_,_,rfl,hB2,h3,λp t h w=>?_,k1]))))
    ·refine aH λK2 hK2=>?_
     replace hK2:∀Z' S',Q3 (.nx Z',S')->K2 Z' S':=λZ' S' h=>hK2 _ _ (ci h)
     refine iu rfl rfl ?_;dsimp only[wE,wA,wV,wG];subst hR0;refine Bd (d:=d+m) P I hb hl hu hv hu5 hv5 hC hi hup λq S2 e2 k2=>?_
     have hcm:∀f∈iC bs u v e (n+j),Cmn bs u v (e++[(n+j,f)]):=λf hf=>iD.mpr #[hC,hup,hi,hf]
     have hall:∀p t,Cmn bs u v (e++p::t)->p.1=n+j->p.2∈iC bs u v e (n+j):=λp t h z=>z ▸ h.next.2.2
     generalize iC bs u v e (n+j)=L at e2 hcm hall;refine#[q,L.map λf=>nP (n+j,f),λx Z S3=>∃(b3:HN (HZ×HZ)) (a6:HY W),Z=[ba (.tup [m0,.tup (Iz aK ns bs),b0]),ba (.tup [aA u,aA v]),ba (bQ e),ba (bQ b3),ba (.int (n:Ip)),ba (.int ((n+j:HZ):Ip)),a6]/\Cmn bs u v b3/\b2.length<=b3.length/\(∀f∈L.take x,∀t,Cmn bs u v (e++(n+j,f)::t)->(e++(n+j,f)::t).length<=b3.length)/\S3[q]?=ba (.lst (L.map λf=>nP (n+j,f)))/\Ka S S3,rfl,#[b2,a6,rfl,hB2,Ih _,λf hf=>by simp at hf,e2,k1.trans k2],λ_ _ _ #[_,_,_,_,_,_,h,_]=>h,?_,?_]
     ·rintro x w Z S3 hw ⟨b3,a6',rfl,hB3,h5,h6,e3,k3⟩;clear hK hK2 hn2 hn3;rw[Ii,HU]at hw;obtain⟨f,hf,rfl⟩:=hw;refine ac (show eZ (.nm 6) (nP (n+j,f)) [ba (.tup [m0,.tup (Iz aK ns bs),b0]),ba (.tup [aA u,aA v]),ba (bQ e),ba (bQ b3),ba (.int (n:Ip)),ba (.int ((n+j:HZ):Ip)),a6'] S3=ba ([ba (.tup [m0,.tup (Iz aK ns bs),b0]),ba (.tup [aA u,aA v]),ba (bQ e),ba (bQ b3),ba (.int (n:Ip)),ba (.int ((n+j:HZ):Ip)),ba (nP (n+j,f))],S3)from rfl) ?_
      intro Q4 hn4 _;refine st ?_;left;refine ac (show eS .add (bQ e) (.tup [nP (n+j,f)]) S3=ba (bQ (e++[(n+j,f)]),S3)from ?_) ?_
      ·unfold bQ;rw[gF (iE (by simp; omega)),II]; rfl
      dsimp only;have hC':=hcm f (Ir hf);cases m with
      | zero=>omega
      | succ m'=>
       refine ih m' (J4 _) d S3 _ (e++[(n+j,f)]) b3 (n+j+1) hC' hB3 (.inr #[e,_,rfl,rfl]) ∅ λr S4 g1 g2 g3 g4=>ci (hn4 _ _ #[r,_,rfl,g1,∅,λf' hf' t ht=>?_,g4.get _ _ e3,k3.trans g4])
       rw[IS,hf]at hf';rcases IY.mp hf' with z|z
       ·exact IL (h6 f' z t ht) g2
       ·have:f'=f:=by simpa using z
        subst this;have:=g3 t (by rw[JO]; exact ht)
        rw[JO]at this;exact this
     ·rintro Z S3 ⟨b3,a6',rfl,hB3,h5,h6,e3,k3⟩;rw[HQ,Jp]at h6;refine hK2 _ _ (hn3 _ _ (hK _ _ (hn2 _ _ #[b3,_,_,rfl,hB3,∅,λp t h w=>?_,k3])))
      by_cases w2:p.1 < n+j
      ·exact IL (h4 p t h w2) h5
      ·have w3:p.1=n+j:=∅
       have:=h6 p.2 (hall p t h w3) t (by rw[<- w3]; exact h)
       rw[<- w3]at this;exact this
    ·by_cases w2:p.1 < n+j
     ·exact h4 p t h w2
     ·have:=h.most;have:=Kt z;omega
   ·rintro Z S1 ⟨b2,a5,a6,rfl,hB2,h3,h4,k1⟩;refine hK _ _ (st (k b2 S1 hB2 ∅ (λt ht=>?_) k1))
    cases t with
    | nil=>rw[JT]; omega
    | cons p t=>exact h4 p t ht (by have:=ht.next.2.1; omega)
  dsimp only[wS,wE,wT,wA,wV,wG,Iq];rcases hF with⟨rfl,rfl⟩|⟨e',p,rfl,rfl⟩
  ·exact ac (show fj S (bQ [])=ba false from rfl) #[λz=>(by cases z),λ_=>t2]
  ·refine ac (show fj S (bQ (e'++[p]))=ba true by simp[bQ,fj]) #[λ_=>?_,λz=>by cases z]
   dsimp only[wN];refine ac yE (ak #v[] rfl (ac cg ?_))
   exact t2
 dsimp only[wS,wT,wE,wA,wV,wG,bQ];refine aU (aU (ac xF ?_));dsimp only[wB];rw[HQ,HQ];refine aC (Q0:=Q') (λz Q2 hn2 _=>?_) (λz Q2 hn2 _=>ci (hn2 _ _ (tl b hB (Ih _) ?_)))
 ·refine st ?_;dsimp only[wS,wE,wV,wG,Iq];have:=Je z;exact ci (hn2 _ _ (tl e hC ∅ (Ih _)))
 ·have:=Kt z;omega
def yF (P:Parts defs)(I:Icm defs){m0 b0:W}{ns:HN IH}{bs:HN Ip}{a:HZ}{u v:Wd}(hb:GoodB bs)(hl:ns.length=bs.length)(hu:GoodW a bs.length u)(hv:GoodW a bs.length v)(hu5:u.length<=5)(hv5:v.length<=100)
  (k:∀r S',Cmn bs u v r->(∀t,Cmn bs u v t->t.length<=r.length)->Ka S S'->Q (bQ r,S')) :
  wO (aV (am defs fuel (d+10)) "in_common" 3 [.tup [m0,.tup (Iz aK ns bs),b0],aA u,aA v] S) Q:=by
 refine ay I.com rfl rfl λQ' hR=>?_
 replace k:∀r S',Cmn bs u v r->(∀t,Cmn bs u v t->t.length<=r.length)->Ka S S'->Q' (.rt (bQ r),S'):=λr S' x y z=>hR _ _ (k r S' x y z)
 clear hR;show wZ _ _ d7 [ba (.tup [m0,.tup (Iz aK ns bs),b0]),ba (aA u),ba (aA v)] S Q';dsimp only[d7];refine st ?_;left;exact DF P I hb hl hu hv ∅ hv5 5 d S _ [] [] 0 .nil .nil (.inl #[rfl,rfl]) ∅ λr S' h1 _ h3 h4=>k r S' h1 h3 h4
end
abbrev kJ:Ss:=
 #v[.set 8 (.cmp .eq (.own "least_form" 2 #v[.v 2,.v 4]) (.own "least_form" 2 #v[.v 2,.v 6])),.set 9 (.own "in_common" 3 #v[.v 2,.v 4,.v 6]),.ite (.or (.cmp .ne (.cmp .ne (.own "likenesses" 3 #v[.v 2,.v 4,.v 6]) (.lst .nil)) (.v 8)) (.cmp .ne (.cmp .eq (.bi .len #v[.v 9]) (.v 3)) (.v 8))) #v[.ret (.c (.bl false))] .nil,.set 10 (.bi .tuple #v[.comp (.ix (.v 1) (.c (.int 0))) (.nm 1) (.seq (.v 9)) .nil [gV,gV]]),.set 11 (.bi .tuple #v[.comp (.ix (.v 1) (.c (.int 1))) (.nm 1) (.seq (.v 9)) .nil [gV,gV]]),.ret (.and (.own "_law_alike" 2 #v[.own "part" 3 #v[.v 2,.v 4,.v 10],.own "part" 3 #v[.v 2,.v 6,.v 11]]) (.cmp .eq (.bi .len #v[.bi .set #v[.v 11]]) (.bi .len #v[.v 11])))]
abbrev jB:Ss:=
 (.cons (.set 1 (.own "_law_flow" 1 #v[.v 0]))
 (.cons (.set 2 (.own "_law_full_rule" 1 #v[.v 1]))
 (.cons (.set 3 (.own "_law_pick" 2 #v[.v 1,.c (.int 5)]))
 (.cons (.set 4 (.own "_law_any_world" 3 #v[.v 1,.v 2,.v 3]))
 (.cons (.set 5 (.own "_law_pick" 2 #v[.v 1,.c (.int 3)]))
 (.cons (.set 6 (.own "_law_part" 3 #v[.v 2,.v 4,.own "_law_drawn_points" 3 #v[.v 1,.v 3,.v 3]]))
 (.cons (.ite (.cmp .eq (.v 5) (.c (.int 1))) #v[.set 6 (.own "_law_any_world" 3 #v[.v 1,.v 2,.v 3])] .nil)
 (.cons (.ite (.and (.cmp .eq (.v 5) (.c (.int 2))) (.cmp .gt (.v 3) (.c (.int 0)))) #v[.set 7 (.own "_law_pick" 2 #v[.v 1,.v 3]),.set 6 (.op .add (.op .add (.sl (.v 6) .no (.yes (.v 7))) (.tup #v[.ix (.own "_law_any_world" 3 #v[.v 1,.v 2,.op .add (.v 7) (.c (.int 1))]) (.v 7)])) (.sl (.v 6) (.yes (.op .add (.v 7) (.c (.int 1)))) .no))] .nil)
 kJ))))))))
structure Lw21 (defs:HN (IH×Df)):Prop where
 gen:Gen defs
 full:Full defs
 parts:Parts defs
 icm:Icm defs
 part:Is defs ("part" : IH) 3 3 kA
 longer:Is defs ("longer_orders" : IH) 2 4 aQ
 least:Is defs ("least_form" : IH) 2 7 cF
 likes:Is defs ("likenesses" : IH) 3 6 cD
 flow:Is defs ("_law_flow" : IH) 1 1 dL
 world:Is defs ("_law_any_world" : IH) 3 6 bx
 alike:Is defs ("_law_alike" : IH) 2 2 bF
 drawn:Is defs ("_law_drawn_points" : IH) 3 5 aX
 law:Is defs ("law" : IH) 1 12 jB
def Fz {a n:HZ}{u:Wd}(hu:GoodW a n u)(hl:u.length<=1000):Tr 3 (aA u):=by
 refine#[by rw[HQ]; exact hl,λx hx=>?_]
 obtain⟨p,hp,rfl⟩:=Iy.mp hx;obtain⟨k,hk,e⟩:=JW.mp hp;have hpl:=hu.len k p (by rw[Ig hk,e])
 refine#[ME rfl,λy hy=>?_]
 simp only[IC,Jc,Kf]at hy;rcases hy with rfl|rfl
 ·trivial
 ·refine#[by rw[HQ]; omega,λz hz=>?_]
  obtain⟨w,_,rfl⟩:=Iy.mp hz;trivial
def FB {S:aa}{i j:HZ}{xs:HN W}(h1:S[i]?=ba (.lst xs))(h2:S[j]?=ba (.lst [])):cr .ne (.ref i) (.ref j) S=ba (.bl (!xs.isEmpty),S):=by
 have h:iH S 20 (.ref i) (.ref j)=ba xs.isEmpty:=by
  simp only[iH,bZ h1,bZ h2];cases xs <;> rfl
 simp only[cr,fT,Bl,h,Ja]
def BH {S:aa}{a b:IN}:cr .ne (.bl a) (.bl b) S=ba (.bl (!(a==b)),S):=by cases a <;> cases b <;> rfl
def GoodW.put {a n k:HZ}{v:Wd}{x:Pt}(hv:GoodW a n v)(hm:0<=x.1/\x.1 < a)(hl:x.2.length=k)(hw:∀w∈x.2,0<=w/\w < n):GoodW a n (v.set k x):=by
 have key:∀(j:HZ) (p:Pt),(v.set k x)[j]?=ba p->(j=k/\p=x)\/v[j]?=ba p:=λj p h=>by
  rw[Kj]at h;split at h
  ·rename_i e;split at h
   ·cases h; exact .inl #[e.symm,rfl]
   ·cases h
  ·exact .inr h
 refine#[λj p h=>?_,λj p h=>?_,λj p h=>?_] <;> rcases key j p h with⟨rfl,rfl⟩|h
 ·exact hm
 ·exact hv.mark j p h
 ·exact hl
 ·exact hv.len j p h
 ·exact hw
 ·exact hv.way j p h
def u5 (ps:HN HZ):lJ (ah ps)=ba (ps.map λ(p:HZ)=>(p:Ip)):=by
 induction ps with
 | nil=>rfl
 | cons p ps ih=>show(lJ (ah ps)).map _=_; rw[ih]; rfl
def DH {S:aa}{ps:HN HZ}{Q:QW}(hn:ps.Nodup)(hl:ps.length<=1000)(q:Q (.ref S.length,S++[.sti ps.length])):wO (Bi.set.fn [.tup (ah ps)] S) Q:=by
 have h:(ps.map λ(p:HZ)=>(p:Ip)).Nodup:=by
  rw[JV,KQ];exact RW (λh z=>h (Sn z)) (JV.mp hn)
 refine ac (a:=(.ref S.length,S++[.sti ps.length])) ?_ q;have e:j4 [.tup (ah ps)] S=ba (.ref S.length,S++[.sti ps.length]):=by
  simp only[j4,u5];rw[IF (by rw[HQ]; exact hl),xf h,HQ]
 simp only[Bi.fn,sD,e]
def DI {S:aa}{l n:HZ}{Q:QW}(h:S[l]?=ba (.sti n))(hn:n<=1000)(q:Q (.int n,S)):wO (Bi.len.fn [.ref l] S) Q:=by
 refine ac (a:=(.int n,S)) ?_ q;have e:oJ [.ref l] S=gV:=by simp[oJ,iL,eY,nY,h]
 simp only[Bi.fn,sD,e,An,h,IF hn]
section
variable{defs:HN (IH×Df)}{fuel d:HZ}
def DJ (hfu:50 < fuel)(L:Lw21 defs){ms ns:HN IH}{bs:HN Ip}{b0 w0 w1:W}{fo:Ip}{a n:HZ}{u v:Wd}{a7:HY W}{S:aa}{Q':QO}(hb:GoodB bs)(hnl:ns.length=bs.length)(hu:GoodW a bs.length u)(hv:GoodW a bs.length v)(hul:u.length=n)(hu4:u.length<=4)(hvl:v.length=u.length)(k:∀S',Q' (.rt (.bl true),S')) :
  wZ (am defs fuel (d+10)) fuel kJ [ba w0,ba w1,ba (.tup [.tup (ms.map W.str),.tup (Iz aK ns bs),b0]),ba (.int (n:Ip)),ba (aA u),ba (.int fo),ba (aA v),a7,gV,gV,gV,gV] S Q':=by
 dsimp only[kJ];nofun
 left;refine iB (d:=d+7) ∅ L.parts L.longer L.least hb hnl hu ∅ λS1 k1=>?_
 refine iB (d:=d+7) ∅ L.parts L.longer L.least hb hnl hv ∅ λS2 k2=>?_
 refine ac Dr (hK _ _ ?_);clear hK K;generalize hA:decide (bI bs u=bI bs v)=A;nofun
 left;refine yF (d:=d) L.parts L.icm hb hnl hu hv ∅ ∅ λe S3 hC hmx k3=>hK _ _ ?_
 clear hK K;have hel:=hC.len;have hlen:decide (e.length=u.length)=A:=by
  subst hA
  by_cases h:bI bs u=bI bs v
  ·rw[JG h,Ix];obtain⟨o,h1,h2,h3⟩:=tu hb hu hv hvl h;have:=hmx _ (Bc hu h1 h2 h3);rw[List.length_zip,IV,h2,Ps]at this;omega
  ·rw[IX h,Ms];exact λz=>h (nM hb hu hv hvl hC z)
 have hlk:(!(bf bs u v u.length).isEmpty)=A:=by
  subst hA;have:=rJ hb hu hv hvl
  by_cases h:bI bs u=bI bs v
  ·rw[JG h];have:=this.mpr h;cases hh:bf bs u v u.length with
   | nil=>exact absurd hh this
   | cons x xs=>rfl
  ·rw[IX h];cases hh:bf bs u v u.length with
   | nil=>rfl
   | cons x xs=>exact absurd (this.mp (by rw[hh]; exact λz=>by cases z)) h
 nofun
 dsimp only[wS,wT,wE,wA,wV,wG];refine nH (d:=d+7) L.parts L.longer L.likes hb hnl hv ∅ ∅ λq S4 e4 _ k4=>?_
 refine ac (FB (al e4) af) ?_;rw[show(bg (bf bs u v u.length)).isEmpty=(bf bs u v u.length).isEmpty by unfold bg; rw[List.isEmpty_map],hlk]
 refine ac BH ?_;rw[Jm];dsimp only[wB,KJ];refine#[λz=>(by cases z),λ_=>?_]
 dsimp only[bQ];refine aU ?_;rw[HQ];refine ac fD (ac BH ?_);have hq:((e.length:Ip)==(n:Ip))=A:=by
  rw[<- hlen]
  by_cases h:e.length=u.length
  ·rw[JG h,QC]; omega
  ·rw[IX h,L9]; omega
 rw[hq,Jm];dsimp only[wB,KJ];refine aC (Q0:=Q') (λz=>by cases z) (λ_ Q2 hn2 _=>ci (hn2 _ _ (hK _ _ ?_)))
 clear hn2 hK K;generalize S4++[O.lst []]=S5;nofun
 left;refine nJ e nP (λ_=>true) (λp=>W.int (p.1:HZ)) [] rfl rfl rfl rfl ∅ #[rfl,.refl] (λp hp S' k'=>?_) λS6 k6=>?_
 ·dsimp only[eX,wC,wE,wA,wV,wG];exact#[λ_=>ak #v[] rfl #[rfl,rfl,.refl],λz=>by cases z]
 rw[eE];refine cx af (hK _ _ ?_);clear hK K;generalize S6++[O.lst (e.map λp=>W.int (p.1:HZ))]=S7
 rw[show W.tup (e.map λp=>W.int (p.1:HZ))=.tup (ah (e.map (·.1))) by unfold ah; rw[JQ]; rfl]
 nofun
 left;refine nJ e nP (λ_=>true) (λp=>W.int (p.2:HZ)) [] rfl rfl rfl rfl ∅ #[rfl,.refl] (λp hp S' k'=>?_) λS8 k8=>?_
 ·dsimp only[eX,wC,wE,wA,wV,wG];exact#[λ_=>ak #v[] rfl #[rfl,rfl,.refl],λz=>by cases z]
 rw[eE];refine cx af (hK _ _ ?_);clear hK K;generalize S8++[O.lst (e.map λp=>W.int (p.2:HZ))]=S9
 rw[show W.tup (e.map λp=>W.int (p.2:HZ))=.tup (ah (e.map (·.2))) by unfold ah; rw[JQ]; rfl]
 have hm1:∀p∈e.map (·.1),p < u.length:=λp hp=>by obtain⟨q,hq,rfl⟩:=Iy.mp hp; exact hC.l1 q hq
 have hm2:∀p∈e.map (·.2),p < v.length:=λp hp=>by obtain⟨q,hq,rfl⟩:=Iy.mp hp; exact hC.l2 q hq
 have nd1:(e.map (·.1)).Nodup:=JV.mpr (hC.up.imp λh=>IA h)
 refine st ?_;left;refine BE (d:=d+7) L.parts L.part hb hnl hu hm1 nd1 (by rw[HQ]; omega) λS10 k10=>?_
 refine BE (d:=d+7) L.parts L.part hb hnl hv hm2 hC.nd (by rw[HQ]; omega) λS11 k11=>?_
 rw[hC.prt];refine AV L.alike 3 (d+6) _ _ _ (Fz (ma hb hv hm2 hC.nd) (by rw[aO,HQ]; omega)) λS12 k12=>?_
 dsimp only[wB];refine#[λ_=>?_,λz=>by cases z]
 refine DH hC.nd (by rw[HQ]; omega) ?_
 refine DI af (by rw[HQ]; omega) (aU (ac fD ?_))
 rw[show(ah (e.map (·.2))).length=(e.map (·.2)).length from HQ ..,Jm]
 exact k _
def yG (hfu:50 < fuel)(L:Lw21 defs){zs:HN Ip}:∃S',am defs fuel (d+11) "law" [.ref 0] [.fro (zs.map W.int)]=ba (.bl true,S'):=by
 suffices h:wO (aV (am defs fuel (d+11)) "law" 1 [.ref 0] [.fro (zs.map W.int)]) (λp=>p.1=.bl true) by
  obtain⟨⟨v,S'⟩,e,q⟩:=bU h;cases(show v=.bl true from q)
  exact#[S',e]
 have G:=L.gen;refine ay L.law rfl rfl λQ' hR=>?_
 show wZ _ _ jB [ba (.ref 0),gV,gV,gV,gV,gV,gV,gV,gV,gV,gV,gV] [.fro (zs.map W.int)] Q';unfold jB;nofun
 left;refine Dz (d:=d+9) L.flow (ns:=zs) rfl λr S1 _ f1=>hK _ _ ?_
 clear hK K;nofun
 left;refine Dw (d:=d+2) ∅ G L.full f1 λw S2 hw f2 _=>hK _ _ ?_
 clear hK K f1;obtain⟨a,bs,ms,ns,gs,rfl,hr⟩:=hw;have hb:=hr.size.good;have hnl:=hr.nl;have hml:=hr.ml;have hpos:=hr.size.pos;have ha3:=hr.size.a3;clear hr;unfold dq;generalize W.tup ((cy gs).map aA)=b0;clear gs;nofun
 left;refine aI (d:=d+9) G.pick f2 #v[] #v[] λv S3 v0 v1 f3 _=>hK _ _ ?_
 clear hK K f2;obtain⟨n,rfl⟩ : ∃n:HZ,v=n:=#[v.toNat,∅]
 nofun
 left;refine fG (d:=d+8) G L.world f3 hpos ha3 hb hml hnl ∅ λu S5 hul hu f5 _=>hK _ _ ?_
 clear hK K f3;have hu4:u.length<=4:=∅
 nofun
 left;refine aI (d:=d+9) G.pick f5 #v[] #v[] λfo S6 fo0 fo1 f6 _=>hK _ _ ?_
 clear hK K f5;nofun
 left;refine AX (d:=d+8) G L.drawn (many:=n) (size:=n) f6 ∅ (Ih _) ∅ λps S7 hpl hnd hps f7 _=>?_
 have hO:Ord u.length ps:=#[hnd,λp hp=>by have:=hps p hp; omega]
 refine xV (d:=d+8) G hb hnl hu hO.lt hnd ∅ λS8 k8=>hK _ _ ?_
 clear hK K f6;have f8:=f7.ka k8;have hv1:=ma hb hu hO.lt hnd;have hvl1:(aj bs u ps).length=u.length:=by rw[aO]; omega
 generalize aj bs u ps=v at hv1 hvl1 ⊢;nofun
 have t1:∀(v:Wd) (S':aa),GoodW a bs.length v->v.length=u.length->Fl S' r->K [ba (.ref 0),ba (.ref r),ba (.tup [.tup (ms.map W.str),.tup (Iz aK ns bs),b0]),ba (.int (n:Ip)),ba (aA u),ba (.int fo),ba (aA v),gV,gV,gV,gV,gV] S':=by
  clear hv1 hvl1 v;intro v S' hv hvl f;refine hK _ _ ?_;clear hK K f7 f8;nofun
  have t2:∀(v:Wd) (a7:HY W) (S':aa),GoodW a bs.length v->v.length=u.length->K [ba (.ref 0),ba (.ref r),ba (.tup [.tup (ms.map W.str),.tup (Iz aK ns bs),b0]),ba (.int (n:Ip)),ba (aA u),ba (.int fo),ba (aA v),a7,gV,gV,gV,gV] S':=λv a7 S' h1 h2=>hK _ _ (DJ hfu L hb hnl hu h1 hul hu4 h2 λS9=>hR _ _ rfl)
  clear hK hR;dsimp only[wS,wT,wE,wA,wV,wG,fD,aD,wB];refine#[λz1=>?_,λz1=>?_]
  ·refine ac xF ?_;dsimp only[wB];refine aC (Q0:=Q') (λz2 Q2 hn2 _=>?_) (λz2 Q2 hn2 _=>ci (hn2 _ _ (t2 v gV S' hv hvl)))
   have hn0:0 < n:=by have:=Je z2; omega
   refine aH λK2 hK2=>?_
   left;refine aI (d:=d+9) G.pick f ∅ ∅ λt S9 t0 t1 f9 _=>hK2 _ _ ?_
   clear hK2 K2;obtain⟨t,rfl⟩ : ∃k:HZ,t=k:=#[t.toNat,∅]
   refine st ?_;dsimp only[wS,wE,wA,wP,wV,wG,wN,Iq];have ht:t < v.length:=∅
   refine ac (show nX (aA v) gV (ba (t:Ip)) S9=ba (aA (v.take t),S9) by simp only[aA,nX,ii,MO]) (ac cg ?_)
   dsimp only;rw[show(t:Ip)+1=((t+1:HZ):Ip)from rfl]
   refine fG (d:=d+8) G L.world f9 hpos ha3 hb hml hnl ∅ λx S10 hxl hx f10 _=>?_
   have hxt:t < x.length:=∅
   have hg:=aq (d:=(0,[])) hxt;refine ak (IT t) (jh hxt) ?_;refine ac (show eS .add (aA (v.take t)) (.tup [bJ (x.getD t (0,[]))]) S10=ba (aA (v.take t++[x.getD t (0,[])]),S10)from ?_) (ac cg ?_)
   ·unfold aA;rw[gF (iE (by simp; omega)),II]; rfl
   dsimp only;rw[show(t:Ip)+1=((t+1:HZ):Ip)from rfl]
   refine ac (show nX (aA v) (ba ((t+1:HZ):Ip)) gV S10=ba (aA (v.drop (t+1)),S10) by simp only[aA,nX,pB,List.map_drop]) ?_
   refine ac (show eS .add (aA (v.take t++[x.getD t (0,[])])) (aA (v.drop (t+1))) S10=ba (aA (v.set t (x.getD t (0,[]))),S10)from ?_) ?_
   ·unfold aA;rw[gF (iE (by simp; omega)),<- II,List.set_eq_take_append_cons_drop,IF ht,JO]; rfl
   exact ci (hn2 _ _ (t2 _ _ _ (hv.put (hx.mark t _ hg) (hx.len t _ hg) (hx.way t _ hg)) (by rw[Qf]; exact hvl)))
  ·refine aC (Q0:=Q') (λz=>by cases z) (λ_ Q2 hn2 _=>ci (hn2 _ _ (t2 v gV S' hv hvl)))
 dsimp only[wS,wT,wE,wA,wV,wG,fD,aD,wB];refine aC (Q0:=Q') (λ_ Q2 hn2 _=>?_) (λ_ Q2 hn2 _=>ci (hn2 _ _ (t1 v S8 hv1 hvl1 f8)))
 refine st ?_;left;refine fG (d:=d+8) G L.world f8 hpos ha3 hb hml hnl ∅ λv2 S9 hvl2 hv2 f9 _=>?_
 exact ci (hn2 _ _ (t1 v2 S9 hv2 ∅ f9))
end
abbrev mh (i:HZ):Lm:=PySem.Challenge.pw_layworld_k21_whole_like_by_least_forms.main.body.getD i (.Pass #[0,0,0,0])
abbrev BI:Df:=#[["_law_script"],["_law_script","_law_flow_here","_law_rule","_law_size","_law_one","_law_form","_law_other","_law_at","_law_alike_ones","_law_pairs","_law_mine","_law_theirs"],jB]
noncomputable abbrev Tw:=IH×HZ×Df×HZ
noncomputable abbrev tw (x:IH)(i:HZ)(d:Df)(a:HZ):Tw:=(x,i,d,a)
abbrev TL:HN Tw:=[tw "way" 1 #[["rule","world","i","j"],["rule","world","i","j"],tj] 21,tw "part" 3 #[["rule","world","points"],["rule","world","points"],kA] 26,tw "point_over" 4 #[["rule","world","ahead","point"],["rule","world","ahead","point"],bN] 31,tw "least_form" 5 #[["rule","world"],["rule","world","form","orders","longer","lasts","least"],cF] 36,tw "longer_orders" 6 #[["orders","size"],["orders","size","longer","order"],aQ] 41,tw "likenesses" 8 #[["rule","one","other"],["rule","one","other","found","point","longer"],cD] 46,tw "in_common" 9 #[["rule","one","other"],["rule","one","other"],d7] 53,tw "best_behind" 10 #[["rule","worlds","pairs","best"],["rule","worlds","pairs","best","first","point","pair"],cY] 60,tw "pairs_with" 11 #[["rule","worlds","pairs","point"],["rule","worlds","pairs","point","theirs","ours","free"],dA] 65,tw "_law_flow" 13 #[["_law_script"],["_law_script"],dL] 72,tw "_law_pick" 14 #[["_law_flow_here","_law_many"],["_law_flow_here","_law_many","_law_cell","_law_digit"],cf] 79,tw "_law_letters" 15 #[["_law_flow_here","_law_many"],["_law_flow_here","_law_many"],cU] 84,tw "_law_name" 16 #[["_law_flow_here","_law_stem"],["_law_flow_here","_law_stem","_law_near"],eO] 91,tw "_law_names" 17 #[["_law_flow_here","_law_many"],["_law_flow_here","_law_many","_law_stem","_law_names_here","_law_k","_law_name_here","_law_spare"],cj] 98,tw "_law_between" 18 #[["_law_rule","_law_world","_law_i","_law_j"],["_law_rule","_law_world","_law_i","_law_j"],cV] 105,tw "_law_part" 19 #[["_law_rule","_law_world","_law_points"],["_law_rule","_law_world","_law_points","_law_told","_law_k","_law_i"],eP] 110,tw "_law_turns" 20 #[[],[],fE] 117,tw "_law_figure" 21 #[["_law_rule","_law_three"],["_law_rule","_law_three"],dw] 122,tw "_law_backs" 22 #[["_law_flow_here","_law_many"],["_law_flow_here","_law_many","_law_menu"],dZ] 129,tw "_law_rule_of" 23 #[["_law_flow_here","_law_marks","_law_backs_here","_law_barred"],["_law_flow_here","_law_marks","_law_backs_here","_law_barred","_law_names_here","_law_ways"],cW] 134,tw "_law_free_three" 24 #[["_law_flow_here","_law_marks","_law_ways"],["_law_flow_here","_law_marks","_law_ways","_law_told","_law_k"],bM] 139,tw "_law_sizes" 25 #[["_law_flow_here"],["_law_flow_here","_law_menu"],d0] 146,tw "_law_any_rule" 26 #[["_law_flow_here"],["_law_flow_here","_law_marks","_law_ways","_law_rule","_law_barred","_law_k"],cw] 153,tw "_law_laying_kind" 27 #[["_law_flow_here"],["_law_flow_here","_law_menu"],bC] 160,tw "_law_breaks" 28 #[["_law_backs_here","_law_must","_law_to_one","_law_to_two","_law_between_here"],["_law_backs_here","_law_must","_law_to_one","_law_to_two","_law_between_here","_law_to","_law_pair","_law_x","_law_y","_law_z"],dy] 167,tw "_law_numbered" 29 #[["_law_flow_here","_law_backs_here","_law_must"],["_law_flow_here","_law_backs_here","_law_must","_law_many","_law_menu","_law_some","_law_numbers","_law_told","_law_k","_law_other","_law_u","_law_v"],aW] 172,tw "_law_laying_rule" 30 #[["_law_flow_here"],["_law_flow_here","_law_form","_law_backs_here","_law_must","_law_most","_law_marks","_law_rule","_law_barred","_law_many","_law_at","_law_one","_law_two","_law_between_here","_law_some","_law_first"],bD] 179,tw "_law_rising" 31 #[["_law_marks"],["_law_marks","_law_told","_law_i","_law_j"],dz] 184,tw "_law_free_rule" 32 #[["_law_flow_here"],["_law_flow_here","_law_marks","_law_ways","_law_rule","_law_k","_law_own","_law_free","_law_barred","_law_three"],b6] 189,tw "_law_one_way_rule" 33 #[["_law_flow_here"],["_law_flow_here","_law_marks","_law_barred"],bu] 194,tw "_law_any_world" 34 #[["_law_flow_here","_law_rule","_law_many"],["_law_flow_here","_law_rule","_law_many","_law_told","_law_k","_law_mark"],bx] 199,tw "_law_alike" 35 #[["_law_found","_law_due"],["_law_found","_law_due"],bF] 204,tw "_law_digits" 36 #[["_law_many","_law_size"],["_law_many","_law_size","_law_told","_law_k"],bO] 209,tw "_law_worlds" 37 #[["_law_rule","_law_size"],["_law_rule","_law_size","_law_told","_law_k","_law_points","_law_mark"],cC] 214,tw "_law_figures" 38 #[["_law_rule"],["_law_rule"],cX] 219,tw "_law_full_rule" 39 #[["_law_flow_here"],["_law_flow_here","_law_form","_law_marks","_law_many","_law_rule"],b7] 224,tw "_law_drawn_points" 40 #[["_law_flow_here","_law_many","_law_size"],["_law_flow_here","_law_many","_law_size","_law_left","_law_told"],aX] 231,tw "law" 41 BI 236]
abbrev jl:HN (IH×Df):=TL.map λp=>(p.1,p.2.2.1)
abbrev Hj:HN (IH×HZ):=TL.map λp=>(p.1,p.2.2.1.ps.length)
abbrev Be:HN IH:=["range","len","list","tuple","int","set","sorted","isinstance","bool","str","all","min","zip","enumerate"]
abbrev DS:Md:=#[Hj,Be]
abbrev BD (x:IH)(st:Lm)(df:Df):Prop:=∀(kV doc pm:HS) (an:HY Ic) (cdv ct:HS) (us:HN HS),us.length=df.ps.length->bindArgs (KI x x (dt st) (bW st) (aL st) .none kV doc pm an cdv ct) #[us,[]]=pure (df.ps.zip us)
def HE {us:HN HS}(h:us.length=0):us=[]:=match us,h with|[],_=>rfl
def HF {us:HN HS}(h:us.length=1):∃a,us=[a]:=match us,h with|[a],_=>#[a,rfl]
def HG {us:HN HS}(h:us.length=2):∃a b,us=[a,b]:=match us,h with|[a,b],_=>#[a,b,rfl]
def HH {us:HN HS}(h:us.length=3):∃a b c,us=[a,b,c]:=match us,h with|[a,b,c],_=>#[a,b,c,rfl]
def HI {us:HN HS}(h:us.length=4):∃a b c d,us=[a,b,c,d]:=match us,h with|[a,b,c,d],_=>#[a,b,c,d,rfl]
def HJ {us:HN HS}(h:us.length=5):∃a b c d e,us=[a,b,c,d,e]:=match us,h with|[a,b,c,d,e],_=>#[a,b,c,d,e,rfl]
def HK {us:HN HS}(h:us.length=6):∃a b c d e f,us=[a,b,c,d,e,f]:=match us,h with|[a,b,c,d,e,f],_=>#[a,b,c,d,e,f,rfl]
abbrev DG (p:Tw):Prop:=ES DS (mh p.2.1) p.2.2.1/\FnScope p.2.2.1.N p.2.2.1.ps (aL (mh p.2.1))/\BD p.1 (mh p.2.1) p.2.2.1
def gc {α:Type}{F:α->Prop}{p:α}{L:HN α}(a:F p)(b:∀q∈L,F q):∀q∈p::L,F q:=List.forall_mem_cons.mpr #[a,b]
def gn {α:Type}{F:α->Prop}:∀q∈([]:HN α),F q:=λ_ h=>nomatch h
def HL {p:Tw}(a:sN (cS 20 (xy DS (mh p.2.1) p.2.2.1.N)) (bW (mh p.2.1))=ba p.2.2.1.body)(b:FnScope p.2.2.1.N p.2.2.1.ps (aL (mh p.2.1)))(c:BD p.1 (mh p.2.1) p.2.2.1):DG p:=#[a,b,c]
set_option maxHeartbeats 0 in
def BJ:∀p∈TL,DG p:=by
 unfold TL
 repeat refine gc (HL (by kernel_rfl) #[rfl,rfl,rfl,by decide +kernel,rfl,by decide +kernel,by decide +kernel] λ_ _ _ _ _ _ us h=>by
  first
   | (obtain⟨a,rfl⟩:=HF h; rfl)
   | (obtain⟨a,b,rfl⟩:=HG h; rfl)
   | (obtain⟨a,b,c,rfl⟩:=HH h; rfl)
   | (obtain⟨a,b,c,d,rfl⟩:=HI h; rfl)
   | (obtain⟨a,b,c,d,e,rfl⟩:=HJ h; rfl)
   | (obtain⟨a,b,c,d,e,f,rfl⟩:=HK h; rfl)
   | (obtain rfl:=HE h; rfl)) ?_
 exact gn
def FC {f:IH}{m n:HZ}{b:Ss}(h:((jl.lookup f).map λd=>(d.ps.length,d.N.length,d.body))=ba (m,n,b)):Is jl f m n b:=by
 rw[HU]at h;obtain⟨d,h1,h2⟩:=h;rw[Q6,Q6]at h2;exact#[d,h1,h2.1,h2.2.1,h2.2.2]
set_option maxHeartbeats 0 in
def FD:Lw21 jl:=by
 repeat' first
  | exact FC (by kernel_rfl)
  | constructor
def kK:∀(L:HN Tw) (x:IH) (n:HZ),(L.map λp=>(p.1,p.2.2.1.ps.length)).lookup x=ba n->∃p∈L,p.1=x/\p.2.2.1.ps.length=n/\(L.map λp=>(p.1,p.2.2.1)).lookup x=ba p.2.2.1
 | [],x,n,h=>by cases h
 | p::L,x,n,h=>by
  rw[JC,Kh]at h;rw[JC,Kh];cases e:x==p.1 with
  | true=>
   rw[e]at h;cases h;exact#[p,JJ ..,(eq_of_beq e).symm,rfl,rfl]
  | false=>
   rw[e]at h;obtain⟨q,h1,h2,h3,h4⟩:=kK L x n h;exact#[q,JD _ h1,h2,h3,h4]
section
variable{P:IZ}{w:Jg}{K:Ij}{mg:IH->HY HS}{base:Jk}
abbrev yH (K:Ij)(mg:IH->HY HS)(x:IH)(st:Lm)(df:Df):Prop:=∃(f:Ic) (fd:KY),Fun K x x st f fd/\mg x=ba (.ref f)/\J0 K (.ref f)=true/\Binds K fd df.ps []
def DK {h:Jk}{x:IH}{st:Lm}{df:Df}{f:Ic}{oc:HS}{od an:HY Ic}{osl:IM (HY HS)}{kV doc pm cdv ct:HS}(X:K.In h)(G:h.Ns mainGlobals mg)
  (b:BD x st df)
  (a:L3 K mainGlobals x=ba (ba (.ref f))) (l:K.lookup f=ba #[oc,od,.func (KI x x (dt st) (bW st) (aL st) .none kV doc pm an cdv ct),osl]) (c:Lq K cdv x=true) (k:J0 K (.ref f)=true):yH K mg x st df:=
 have F:=vG (st:=st) l c k
 #[f,_,F,Q7 X G a,k,F.binds b]
def yI {fuel:HZ}(hb:MdOk w K mg DS)(D:∀p∈TL,yH K mg p.1 (mh p.2.1) p.2.2.1):∀d,Br P w K mg base DS jl fuel d
 | 0=>λf n h=>by
  obtain⟨p,h1,rfl,h2,h3⟩:=kK TL f n h;obtain⟨fa,fd,F,m,kp,b⟩:=D p h1;refine#[fa,fd,p.2.2.1.ps,#[λvs H Q E z=>?_,λA outer s H args us vs Q E hr he hbd hv z=>?_],m,kp,b]
  all_goals
   obtain⟨_,_,_,_,_,_,_,_,z,_⟩:=z;cases z
 | d+1=>λf n h=>by
  obtain⟨p,h1,rfl,h2,h3⟩:=kK TL f n h;obtain⟨g1,g2,_⟩:=BJ p h1;obtain⟨fa,fd,F,m,kp,b⟩:=D p h1;refine#[fa,fd,p.2.2.1.ps,?_,m,kp,b];rw[<- h2];exact Bs F g2 h3 g1 hb (yI hb D d)
def FH {h:Jk}(X:K.In h)(G:h.Ns mainGlobals mg)(z:∀y∈Be,L3 K mainGlobals y=ba gV):MdOk w K mg DS:=#[λy hy=>PySem.W.mg_none_of X G (z y hy)]
end
def DL {l:N4}{w:Jg}{K:Ij}{h:Jk}{mg:IH->HY HS}{fa f:Ic}(X:K.In h)(G:h.Ns mainGlobals mg)(hfa:mg "law" = ba (.ref fa))(hb:MdOk w K mg DS)(D:∀p∈TL,yH K mg p.1 (mh p.2.1) p.2.2.1)
  {oc:HS} {od an:HY Ic} {osl:IM (HY HS)} {kV doc pm cdv ct:HS} (a:L3 K mainGlobals "law" = ba (ba (.ref f))) (l':K.lookup f=ba #[oc,od,.func (KI "law" "law" (dt (mh 41)) (bW (mh 41)) (aL (mh 41)) .none kV doc pm an cdv ct),osl]) (c:Lq K cdv "law" = true) (k:J0 K (.ref f)=true) :
  ∃fd:KY,(∀(s:HV) (v:HS),Ph s fd #[[v],[]] [("_law_script",v)])/\∀base:Jk,K.In base->base.Ns mainGlobals mg->FnOk l.prog w K mg base u6 11 fa fd ["_law_script"] (wL w K 1 (am jl 100 11 "law")):=by
 have e:=hfa.symm.trans (Q7 X G a);cases e;have F:=vG (st:=mh 41) l' c k;exact#[KI "law" "law" (dt (mh 41)) (bW (mh 41)) (aL (mh 41)) .none kV doc pm an cdv ct,λs v=>.of_eq rfl,λbase _ _=>Bs (df:=BI) F #[rfl,rfl,rfl,by decide +kernel,rfl,by decide +kernel,by decide +kernel] (by rfl) (by rfl) hb (yI hb D 10)]
def Hk {l:N4}{q:IZ}{loose:HN IH}{XP:(IH->HY HS)->Jk->Prop}{YP:Jg->Jk->Prop}{d:DefRec}{K:O2->Ij}(hn:l.most=ba 63)(hdf:d.params.defaults=[])
  (hY:∀(w:Jg) (h:Jk),YP w h->(K w.params).In h)
  (F:∀(w:Jg) (mg:IH->HY HS) (fa:Ic) (h:Jk),(K w.params).In h->h.Ns mainGlobals mg->mg d.name=ba (.ref fa)->
   ∃fd:KY,(∀(s:HV) (u:HS),Ph s fd #[[u],[]] [("_law_script",u)])/\∀base:Jk,(K w.params).In base->base.Ns mainGlobals mg->FnOk l.prog w (K w.params) mg base u6 11 fa fd ["_law_script"] (wL w (K w.params) 1 (am jl 100 11 "law"))) :
  QQ q loose XP YP l.row.toRowW d [] (λf vs=>Qv f vs):=
 L2.zo (n:=63) (k:=11) (x:="_law_script") (CX:=λ_=>u6) (sp:=λw=>wL w (K w.params) 1 (am jl 100 11 "law")) hn #v[] hdf #[rfl,#v[],#v[]] hY F
  (λw H a ns hl hO hS=>C4 (yG (defs:=jl) (fuel:=100) (d:=0) #v[] FD) hO hS) λ_ _ _ _ _ z=>z
end Mi
open PySem PySem.W PyProof.Rows L2
set_option maxHeartbeats 0
namespace Mi
section
abbrev pw:IZ:=MP
abbrev ge (P:O2)(n:IH)(t:HZ)(v:HS):KP:=#[PyData.keyHash P n,.str n t,v]
abbrev kd (a:HZ)(es:HN KP)(n:HZ):Ic×Kb:=(a,#[.type "dict",gV,.dict es.toArray n,#[]])
abbrev kc (a:HZ)(vs:HN HS):Ic×Kb:=(a,#[.type "code",gV,.fields vs.toArray,#[]])
abbrev kf (a:HZ)(st:Lm)(n:IH)(pm cd:HS):Ic×Kb:=(a,#[.type "function",gV,.func (KI n n (dt st) (bW st) (aL st) .none .none .none pm gV cd .none),#[]])
abbrev Hl (i:HZ):HS:=if i<=1 then(.str "layworld.worlds" 187)else if i<=6 then(.str "layworld.parts" 199)else if i<=11 then(.str "layworld.likes" 225)else(.str "law_layworld_k21_whole_like_by_least_forms" 261)
abbrev kx (a:HZ)(b:IN)(i:HZ)(s:IH)(t:HZ)(l p:Ip)(m:HZ)(R:Ij):Ij:=kc a [.str s t,.str s (t+1),.str "/claim/cut.py" (t+2),.int l 0,.int p 0,.int 0 0,.int 0 0,.int 3 0,.ref (if b then a - 5 else a - 3),.bool true,.int 181 0,.ref (if b then a - 4 else a - 2),.none,if b then .ref (a - 3)else .none,if b then .ref (a - 2)else .none,.ref (a - 1),.int m 0,.int l 0,.str "/claim/cut.py" (m+1)]::kf (a+1) (mh i) s (Hl i) (.ref a)::R
abbrev K0 (P:O2):Ij:=kd 3 [ge P "__name__" 165 (.str "law_layworld_k21_whole_like_by_least_forms" 261),ge P "__doc__" 166 .none,ge P "__package__" 167 .none,ge P "__loader__" 168 (.builtin "__main__.__loader__#opaque"),ge P "__spec__" 169 .none,ge P "__annotations__" 170 (.ref 6),ge P "__builtins__" 171 (.ref 4),ge P "__file__" 173 (.str "/claim/cut.py" 172),ge P "__cached__" 174 .none,ge P "way" 198 (.ref 21),ge P "part" 206 (.ref 26),ge P "point_over" 212 (.ref 31),ge P "least_form" 218 (.ref 36),ge P "longer_orders" 224 (.ref 41),ge P "likenesses" 232 (.ref 46),ge P "in_common" 241 (.ref 53),ge P "best_behind" 254 (.ref 60),ge P "pairs_with" 260 (.ref 65),ge P "_law_flow" 269 (.ref 72),ge P "_law_pick" 279 (.ref 79),ge P "_law_letters" 285 (.ref 84),ge P "_law_name" 294 (.ref 91),ge P "_law_names" 307 (.ref 98),ge P "_law_between" 317 (.ref 105),ge P "_law_part" 323 (.ref 110),ge P "_law_turns" 329 (.ref 117),ge P "_law_figure" 335 (.ref 122),ge P "_law_backs" 344 (.ref 129),ge P "_law_rule_of" 350 (.ref 134),ge P "_law_free_three" 356 (.ref 139),ge P "_law_sizes" 364 (.ref 146),ge P "_law_any_rule" 376 (.ref 153),ge P "_law_laying_kind" 384 (.ref 160),ge P "_law_breaks" 400 (.ref 167),ge P "_law_numbered" 406 (.ref 172),ge P "_law_laying_rule" 427 (.ref 179),ge P "_law_rising" 433 (.ref 184),ge P "_law_free_rule" 439 (.ref 189),ge P "_law_one_way_rule" 445 (.ref 194),ge P "_law_any_world" 451 (.ref 199),ge P "_law_alike" 457 (.ref 204),ge P "_law_digits" 463 (.ref 209),ge P "_law_worlds" 469 (.ref 214),ge P "_law_figures" 475 (.ref 219),ge P "_law_full_rule" 481 (.ref 224),ge P "_law_drawn_points" 492 (.ref 231),ge P "law" 498 (.ref 236)] 47::(kx 20 true 1 "way" 189 2 4 196
 (kx 25 false 3 "part" 201 7 3 204
 (kx 30 false 4 "point_over" 207 9 4 210
 (kx 35 false 5 "least_form" 213 11 2 216
 (kx 40 false 6 "longer_orders" 219 21 2 222
 (kx 45 false 8 "likenesses" 227 27 3 230
 (kx 52 true 9 "in_common" 233 33 3 239
 (kx 59 true 10 "best_behind" 242 35 4 252
 (kx 64 false 11 "pairs_with" 255 44 4 258
 (kx 71 true 13 "_law_flow" 263 50 1 267
 (kx 78 true 14 "_law_pick" 270 52 2 277
 (kx 83 false 15 "_law_letters" 280 67 2 283
 (kx 90 true 16 "_law_name" 286 69 2 292
 (kx 97 true 17 "_law_names" 295 77 2 305
 (kx 104 true 18 "_law_between" 308 90 4 315
 (kx 109 false 19 "_law_part" 318 94 3 321
 (kx 116 true 20 "_law_turns" 324 100 0 327
 (kx 121 false 21 "_law_figure" 330 102 2 333
 (kx 128 true 22 "_law_backs" 336 104 2 342
 (kx 133 false 23 "_law_rule_of" 345 107 4 348
 (kx 138 false 24 "_law_free_three" 351 111 3 354
 (kx 145 true 25 "_law_sizes" 357 116 1 362
 (kx 152 true 26 "_law_any_rule" 365 119 1 374
 (kx 159 true 27 "_law_laying_kind" 377 126 1 382
 (kx 166 true 28 "_law_breaks" 385 135 5 398
 (kx 171 false 29 "_law_numbered" 401 143 3 404
 (kx 178 true 30 "_law_laying_rule" 407 158 1 425
 (kx 183 false 31 "_law_rising" 428 178 1 431
 (kx 188 false 32 "_law_free_rule" 434 184 1 437
 (kx 193 false 33 "_law_one_way_rule" 440 197 1 443
 (kx 198 false 34 "_law_any_world" 446 201 3 449
 (kx 203 false 35 "_law_alike" 452 207 2 455
 (kx 208 false 36 "_law_digits" 458 219 2 461
 (kx 213 false 37 "_law_worlds" 464 224 2 467
 (kx 218 false 38 "_law_figures" 470 232 1 473
 (kx 223 false 39 "_law_full_rule" 476 234 1 479
 (kx 230 true 40 "_law_drawn_points" 482 243 3 490
 (kx 235 false 41 "law" 493 249 1 496 []))))))))))))))))))))))))))))))))))))))
abbrev Hv:HN HZ:=[3,20,21,25,26,30,31,35,36,40,41,45,46,52,53,59,60,64,65,71,72,78,79,83,84,90,91,97,98,104,105,109,110,116,117,121,122,128,129,133,134,138,139,145,146,152,153,159,160,166,167,171,172,178,179,183,184,188,189,193,194,198,199,203,204,208,209,213,214,218,219,223,224,230,231,235,236]
abbrev vq:IZ:={ pw with main:={ pw.main with body:=[mh 41] } }
abbrev lo:HN IH:=[("way" : IH),("part" : IH),("point_over" : IH),("least_form" : IH),("longer_orders" : IH),("likenesses" : IH),("in_common" : IH),("best_behind" : IH),("pairs_with" : IH),("_law_flow" : IH),("_law_pick" : IH),("_law_letters" : IH),("_law_name" : IH),("_law_names" : IH),("_law_between" : IH),("_law_part" : IH),("_law_turns" : IH),("_law_figure" : IH),("_law_backs" : IH),("_law_rule_of" : IH),("_law_free_three" : IH),("_law_sizes" : IH),("_law_any_rule" : IH),("_law_laying_kind" : IH),("_law_breaks" : IH),("_law_numbered" : IH),("_law_laying_rule" : IH),("_law_rising" : IH),("_law_free_rule" : IH),("_law_one_way_rule" : IH),("_law_any_world" : IH),("_law_alike" : IH),("_law_digits" : IH),("_law_worlds" : IH),("_law_figures" : IH),("_law_full_rule" : IH),("_law_drawn_points" : IH)]
abbrev EL (K:Ij)(p:Tw):Prop:=L3 K mainGlobals p.1=ba (ba (.ref p.2.2.2))/\K.lookup p.2.2.2=ba (kf p.2.2.2 (mh p.2.1) p.1 (Hl p.2.1) (.ref (p.2.2.2 - 1))).2/\Lq K (.ref (p.2.2.2 - 1)) p.1=true/\J0 K (.ref p.2.2.2)=true
def HM {K:Ij}{p:Tw}(e:L3 K mainGlobals p.1=ba (ba (.ref p.2.2.2)))(l:K.lookup p.2.2.2=ba (kf p.2.2.2 (mh p.2.1) p.1 (Hl p.2.1) (.ref (p.2.2.2 - 1))).2)(c:Lq K (.ref (p.2.2.2 - 1)) p.1=true)(k:J0 K (.ref p.2.2.2)=true):EL K p:=#[e,l,c,k]
def FJ (P:O2):∀p∈TL,EL (K0 P) p:=by
 unfold TL
 repeat refine gc (HM (by kernel_rfl) (by kernel_rfl) (by kernel_rfl) (by kernel_rfl)) ?_
 exact gn
def FK (P:O2):∀y∈Be,L3 (K0 P) mainGlobals y=ba gV:=by
 unfold Be
 repeat refine gc (F:=λy=>L3 (K0 P) mainGlobals y=ba gV) (by kernel_rfl) ?_
 exact gn
def eK:∀P,Hv=(K0 P).map (·.1):=λ_=>by kernel_rfl
abbrev hk:PySem.W.Hook:=PySem.W.kHook K0 Hv eK
def hl:PySem.W.LeftO pw vq lo (λs=>Rm vq [] s&&Q8 [] s) hk.obs hk.val 2390:=λw=>by kernel_rfl
def s0:PySem.Challenge.rw_layworld_k21_whole_like_by_least_forms.row.wellSaid=true:=by kernel_rfl
end
end Mi
end ZZ.Lean
open ZZ.Lean
theorem PySem.Challenge.cw_layworld_k21_whole_like_by_least_forms_holds : PySem.Challenge.rw_layworld_k21_whole_like_by_least_forms.Holds := by
 w_on
 refine PySem.W.holds_law (Jo (Jo (Jo (Jo (Jo (Jo (Jo (Jo (Jo (Jo (Jo (Jo (Jo (Jo (Jo (Jo (Jo (Jo (Mi.s0) (by kernel_rfl)) (by kernel_rfl)) (by kernel_rfl)) (by kernel_rfl)) (by kernel_rfl)) (by kernel_rfl)) (by kernel_rfl)) (by kernel_rfl)) (by kernel_rfl)) (by kernel_rfl)) (by kernel_rfl)) (by kernel_rfl)) (by kernel_rfl)) (by kernel_rfl)) (by kernel_rfl)) (by kernel_rfl)) (by kernel_rfl)) (by kernel_rfl)) (λsaid=>?_)
 refine PySem.W.holds_open (q:=Mi.vq) (loose:=Mi.lo) (Xt:=λs=>Rm Mi.vq [] s&&Q8 [] s) (XP:=PySem.W.XL Mi.vq []) (Yf:=Mi.hk.obs) (Ya:=Mi.hk.val) (YP:=Mi.hk.says) (N:=2390) Mi.hl Mi.hk.of Mi.hk.keeps (λs e=>PySem.W.xl_of s (OC.mp e).1) R1 (by rfl) (by rfl) (by rfl) (λs e=>PySem.W.recFacts_of (OC.mp e).2) (by rfl) said (by decide +kernel) #[rfl,rfl,rfl,rfl,rfl,by decide +kernel] ?hw ?hc
 case hw=>w_witness2
 case hc=>
 refine Mi.Hk (l:=MQ) (K:=Mi.K0) rfl rfl (λw h Yq=>PySem.W.kIn_of Yq) ?F
 case F=>
  intro w mg fa h KX G hmg;exact Mi.DL KX G hmg (Mi.FH KX G (Mi.FK w.params)) (λp hp=>let ⟨e,l,c,k⟩:=Mi.FJ w.params p hp; Mi.DK KX G (Mi.BJ p hp).2.2 e l c k)
   (f:=236) (oc:=.type "function") (od:=gV) (an:=gV) (osl:=#[]) (kV:=.none) (doc:=.none) (pm:=(.str "law_layworld_k21_whole_like_by_least_forms" 261)) (cdv:=.ref 235) (ct:=.none) (by kernel_rfl) (by kernel_rfl) (by kernel_rfl) (by kernel_rfl)
