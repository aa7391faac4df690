import PyProof.Rows.All
import Wide.All
import OpenK.AllK
import Wide.FinOn
import Lean
import PyProof.EqAt
import PyProof.EqKinds
import PyProof.TupleCall
import PySem.Challenge.RW_layworld_k35_whole_laid_worlds
import KE.KDictList
import PyProof.SetKind
import PyProof.IsRules
import KE.KSortTup
import PyProof.Rows.SetFrom
import PyProof.MinMaxWalk
import PyProof.WalkInts
import PyProof.ZipIter
import PyProof.Draws
import PyProof.AttrMissHeap
import PyProof.AttrMissSeq
import KE.KDictOf
import PyProof.EnumMake
import PyProof.WalksEnum
noncomputable section
open Option renaming some->gV,none->td
set_option hygiene false
local macro_rules|`(abbrev $i:declId $s:optDeclSig $v:declVal)=>`(noncomputable def $i:declId $s:optDeclSig $v:declVal)|`(def $i:declId $b* :$t $v:declVal)=>`(theorem $i:declId $b* :$t $v:declVal)|`(tactic|omega)=>`(tactic|first|lia|omega (config:={}))|`(tactic|show $e:term)=>`(tactic|refine $e:term)|`(↥$x)=>`(($x).length)|`(⇑$x)=>`(($x).size)|`(tactic|delta $x*)=>`(tactic|dsimp only[$[$x:ident],*])|`(tactic|revert $x*)=>`(tactic|simp only[$[$x:term],*])|`(tactic|left)=>`(tactic|dsimp only[wS,wE,wA,wV,wG,List.set])|`(tactic|nofun)=>`(tactic|refine aR λK hK=>?_)
local macro_rules|`(#v[])=>`((by decide))|`(#v[$x:term])=>`(.cons $x .nil)|`(#v[$x:term,$y:term,*])=>`(.cons $x #v[$y,*])
local macro_rules|`(#[$x:term])=>`(⟨$x⟩)|`(#[$x:term,$y:term,*])=>`(⟨$x,$y,*⟩)
local macro_rules|`(∅)=>`((by omega))
open _root_ renaming List->J2,Option->J9,Nat->Kb,Int->Ki,if_pos->KC,decide_eq_true_eq->KP,Bool->KR,if_neg->KS,decide_eq_false->K4,decide_eq_true->Ld,beq_self_eq_true->Lk,Array->Lm,of_decide_eq_true->Lr,False->LM,String->LV,or_false->Mh,if_false->ML,if_true->MW,beq_eq_false_iff_ne->Nc,DecidableEq->Ny,of_decide_eq_false->NY,decide_eq_false_iff_not->N2,not_or->P8,bne_self_eq_false->Ra,True->RM,dif_pos->Tz
open PySem renaming wpAny_bind->J3,Value->J5,Shared->J8,wpAny_pure->Kd,Addr->Kf,Str->KG,Expr->KO,Program->KQ,Around->KZ,World->K8,Heap->Lh,sizeLine_eq->Lu,wpAny_callSpecial?_slot->Lw,wpAny_newObj_type->Ly,wpAny_holding->LN,wpAny_call_entry->LP,codeAny_builtin->LQ,wpAny_field->LR,wpAny_truthy_bool->L3,Obj->L5,Spec->L6,wpAny_seqItems->L8,wpAny_mono->Mj,NameKind->Mt,plainId_quiet->MC,wpAny_typeNameOfWhole_keyiter->ME,DictEntry->MH,Pos->MN,FuncData->MR,wpAny_setField_rec->MT,wpAny_passesOwn->M0,Builtin->M4,wpAny_pyIter_list->M5,wpAny_typeNameOf_keyiter->M9,Stmt->Nb,mem_of_lookup->Nd,call_meets->Nm,IsPair->Nu,Scope->Nv,wpAny_letGo->NB,wpAny_typeOf->NE,wpAny_attempt->NR,wpAny_loadPart'->NT,wpAny_Call_Name_kw->NV,wpAny_pyIter_tuple->NX,codeAny_mono->N3,wpAny_dictEntries->N6,wpAny_tryCatch->N7,wpAny_isInstance->Og,wpAny_standAt->Oh,Paired->Ot,wpAny_rule->Ox,IsPart->Oz,tupleKind_room_in1->OB,wpAny_setField->OC,wpAny_runValue->OD,wpAny_newTuple->OF,wpAny_of_eq->OW,wpAny_pyIter_enum->OZ,wpAny_comprehension_free->O3,noFill_tuple_add->O6,wpAny_forIn_list->O8,wpAny_pyNext_list_item->Pg,ItemsOf->Pn,wpAny_nextOf_list_item->Pr,wpAny_execs_nil->Px,codeAny_of_tree->PC,wpAny_dictEpoch->PD,wpAny_updateSeq->PF,wpAny_pyNext_list_end->PN,wpAny_notOrdered_dict->PR,wpAny_isOneOf_keyiter->PV,wpAny_nextOf_list_end->PY,GenState->P0,isSubtype_stop->P4,wpAny_pyIter_keyiter->P5,IsZip->P9,wpAny_updateSeq_pair->Qa,PassesOwn->Qe,rangeSize_one->Qn,seq_tuple_add->Qo,wpAny_newList->Qr,wpAny_load->Qw,Result->Qx,wpAny_setItem_heap->QA,Params->QC,sub_AttributeError->QH,Env->QP,wpAny_assign_Name->QQ,Operator->QS,BindsTo->QT,concat_meets->QU,wpAny_sequenceKey->QV,seqIndex_neg->QX,list_append->QY,wpAny_pyHash_int->Rg,wpAny_pyHash_str->Rh,CmpOp->Rw,seqIndex_of->Rx,wpAny_mkInt->Ry,am_miss_of_fast->RE,Keyword->RL,wpAny_Name->RN,wpAny_bindName->RO,typeIs_int->RQ,fitsIndex_both->RT,call->RW,SetTable->RX,wpAny_fieldsOf->R0,callType_codes->R3,callType_newIn->R4,intBits_le_64->Sc,evalPart_none->Se,call_list_seq->Sg,wpAny_in_heap->Sh,wpAny_handled->So,wpAny_onRaise->Sr,small_one->SA,call_range_1->SF,call_meetsIn->SJ,Sem->SO,IsRangeIter->SU,wpAny_alloc->Ta,wpAny_throw->Tb,Tok->Tn,BoolOp->Tt,IsEnum->Tu,Model->Tv,IsRange->TB,Drawn->TQ,Walks->TW
open List renaming length_map->J4,getElem?_eq_getElem->Ke,getElem?_map->Kg,length_append->Kh,range->Kj,getD_eq_getElem?_getD->Kk,mem_map->Kn,getElem?_eq_some_iff->Ko,size_toArray->Ks,mem_of_getElem?->Kt,zipWith->Ku,set->Kv,mem_range->Ky,mem_singleton->KA,all_eq_true->KD,mem_cons->KH,length_range->KL,map_append->KN,replicate->KU,mem_append_right->KW,length_take->KY,length_cons->K5,map_map->K6,take_add_one->K7,mem_append->La,map_cons->Lb,map_congr_left->Le,getElem?_append_left->Lf,not_mem_nil->Lg,take_length->Li,length_singleton->Lj,getElem_mem->Ll,append_nil->Ln,mem_append_left->Lo,all_cons->Ls,getElem?_append_right->Lv,find?_cons->LA,idxOf_lt_length_of_mem->LG,mem_cons_of_mem->LH,getElem?_range->LO,mem_iff_getElem->LS,mem_of_mem_take->LW,mem_filter->LX,getElem_inj->L1,append_assoc->L4,nodup_iff_pairwise_ne->L9,any_cons->Ma,length_nil->Mb,lookup_cons->Mc,mem_flatMap->Mf,getElem?_eq_none_iff->Mg,replicate_succ->Mk,getElem_take->Mm,nodup_cons->Mo,mem_cons_self->Mr,ext_getElem->Mu,findIdx?_eq_some_iff_getElem->Mv,getElem?_set->Mx,map_take->MD,eq_nil_of_length_eq_zero->MG,nodup_append->MJ,any_eq_true->MQ,getElem_idxOf->MV,flatten_cons->M3,pairwise_map->M6,length_eq_zero_iff->Nh,nodup_range->Nj,zip_cons_cons->Nn,range_succ->Nq,take_zero->NC,getElem_map->NF,mem_of_find?_eq_some->NL,filterMap_cons->NM,length_zipWith->NP,forIn_cons->NU,mem_eraseDups->NZ,take_sublist->N4,any_eq_false->N8,take_append_drop->Oc,length_filter_le->Od,length_drop->Oe,length_dropLast->Oj,getElem_of_mem->Oo,mem_filterMap->Ou,forIn_nil->OG,filter_append->OI,getElem_range->OJ,exists_mem_of_ne_nil->OQ,pairwise_iff_getElem->OR,getElem?_take_of_lt->O0,mem_singleton_self->Pc,perm_middle->Pe,getElem?_set_self->Pf,map_nil->Pi,range_succ_eq_map->Pj,take_of_length_le->Pu,of_mem_zip->Py,nil_append->Pz,find?_some->PK,append_inj->PM,getElem?_eq_none->PZ,getElem?_set_ne->P1,nodup_nil->P7,dropLast_concat->Qb,eraseDups_cons->Qk,flatMap_append->Ql,length_pos_iff->Qm,length_zipIdx->QI,ne_nil_of_mem->QL,zip_nil_left->Q6,all_eq_false->Q7,ext_getElem?->Rb,flatMap_cons->Rc,any_toArray->Rp,range'_succ->Rs,isEmpty_iff->Rt,cons_ne_nil->Ru,cons_append->Rv,map_id->RA,foldr_cons->RF,take_left'->RI,idxOf_cons->RJ,foldl->RS,take_left->R5,all_map->SI,any_map->SM,length->SV,range'->Tc,map->TX
open Option renaming map_eq_some_iff->J6,map_some->KM,isSome_iff_exists->Lz,getD_some->MP,isSome_map->OV,getD_none->Rl,toList->Sx
open PySem.Heap renaming get?_push_of_some->J7,get?_push_size->Kr,lt_size->Kx,get?_update_other->LF,size_push->MF,get?_update_self->MX,SameBut->M2,get?_update_ne->NO,ExtBut->P3,size_update->Rr
open Bool renaming and_eq_true->Kc,false_ne_true->KJ,false_eq_true->LK,or_eq_true->Mp,true_and->Na,not_eq_true'->Nw,eq_false_iff->Nx,false_or->Oi,eq_iff_iff->PL,and_eq_false_iff->PP,and_eq_true_iff->Qc,and_true->Qp,not_true->Qq,or_false->Sf
open Nat renaming le_refl->Kl,lt_of_lt_of_le->Kw,ne_of_lt->KF,le_trans->Lq,ne_of_gt->LU,lt_irrefl->LZ,zero_le->Ml,lt_trans->MB,lt_succ_self->Ng,le_succ->Nk,lt_or_gt_of_ne->No,le_of_lt->ND,le_add_right->NG,sub_self->Oa,le_of_ble_eq_true->Ob,lt_succ_of_lt->OY,succ_le_succ->O7,min_self->Pk,lt_or_ge->Pp,lt_of_succ_lt_succ->Pq,add_sub_cancel->QG,lt_of_le_of_lt->QK,lt_trichotomy->Re,min_le_right->Rk,min_eq_left->RH,not_lt->R1,add_assoc->Sl,succ_mul->SG,sub_zero->SK,ble->T4
open PySem.W renaming Frag->Km,look_both->Lp,keepIn->LY,fnOf->MA,kia_one->M1,codeIn->Nf,nsIn->NH,methodObj->OS,cellsFrom_some->Ph,OpenLaw->PB,kat_nil->PJ,KdlSrc->P6,kas_sort->Rq,WalkO->Si,recOk->Sj,Looks->Sq,mg_of->Sz,xlAt->SH
open Int renaming natCast_nonneg->Kq,toNat_natCast->Kz,emod_lt_of_pos->MU,emod_nonneg->Np,zero_add->N9,toNat_of_nonneg->Om,ediv_nonneg->RG
open Option.some renaming injEq->K1,inj->LJ
open Array renaming length_toList->K9,getElem?_toList->LL,getElem?_eq_some_iff->MS,getElem?_eq_getElem->NK,perm_iff_toList_perm->OE,getElem?_eq_none_iff->OH,append_assoc->Qu,forIn_toList->QD,toList->SE,getD->Ts
open PySem.Value renaming ref->Lc,none->LB,type->MK,bool->Nz,int->Oq,str->Os,isStrOf_shape->Qh,isInt_shape->QN,isStrOf->Sb,builtin->Su,isInt->SR
open PySem.Builtin.SmallTypes renaming ownedTupleIsFree->Lx,ownedTupleHandOut->MM,nextOf->OP
open PyProof.Rows renaming callWith_type1->LC,slot_tuple_getitem->My,subscriptTail_builtinR->Nl,assignInOrder_cons->Ow,AllBare->OT,listUpdate_at->O1,SortKind->O9,IsTup->Pw,get?_update_seq->PH,IntsAre->Qf,entry_tuple_getitem->Qi,lt_int->Qj,args_tuple_getitem->Qy,assignInOrder_nil->QR,listItems_at->Q9,callWith_builtin1->Rj,wpAny_notIn_heap->Ro,seqEpoch_at->Rz,slicePart_none->RP,tupleItemsOf_->Sd,Call_->SC
open PySem.Around renaming under_plainId->LI
open PySem.Obj renaming mapSeq->L7,data_mapFields->NW,isFreed_of_fields->PX,cls_mapFields->Q8,mapFields->Sn
open PySem.Builtin.Tuple renaming tupleExact->Mn,tupleItemsOf->NA,tupleHashOf->ON,tupleCompareSizes->Rf,tupleIsExact->RY
open ForInStep renaming yield->Mq
open PySem.Builtin.Range renaming rangeSize->Ms,small->On
open PySem.Str renaming ofString->Mw
open Sum renaming inl->Mz,inr->Qd
open PySem.Builtin.List renaming listExtendWith->MO,listTooLong->M7,listFitsIndex->RV
open PySem.Builtin.Slice renaming slicePlaces->MZ,sliceAdjust->NI,sliceApplied->OA,slicePartIndex->RB,sliceFields->R6
open True renaming intro->M8
open PySem.F renaming plainAttrs_list->Ni,args_tuple_add_2->NQ,entry_tuple_add->N1,slot_tuple_add->N5,slot_dict_values->O4,slot_list_index->Pa,plainAttrs_dict->Pd,slot_dict_get->PQ
open PySem.Paired renaming length->Nr,snoc->P2
open Prod.mk renaming injEq->Nt
open Classical renaming byContradiction->NJ,propDecidable->SD
open PySem.Heap.SameBut renaming update->NN,refl->TC
open PySem.NameKind renaming free->NS,cell->TZ
open PySem.SeqAt renaming EqAt->Of,notIn_listAt->Qz,in_tupleAt->Rm,in_listAt->RC
open PySem.Builtin.Dict_items renaming ownsTuple->Ol
open PySem.Builtin.Builtins renaming bindParams->Op
open PySem.Calls renaming Name_function_global->Ov,spliced_cons->Oy,call_function_entry->OO,spliced_nil->OU,callWith_builtin->Po,Constant_str->Qv
open PySem.Challenge renaming pw_layworld_k35_whole_laid_worlds->OL,rw_layworld_k35_whole_laid_worlds->OM
open Function renaming comp_def->OX
open PySem.Builtin.Dict renaming updateFrom->Pb,showsAll->PU,dictSlotNone->R8,pendingCount->R9,addKeywords->Sv,selfAndRest->Sw,pairItems->SL
open PySem.Env renaming kindOf->Ps
open PySem.Expr renaming Name->Qg
open PySem.SeqAt.EqAt renaming int_str->Qs,str_int->Qt,none_bool->SW,bool_none->SX,bool_bool->SY,none_int->Td,none_str->Te,bool_int->Tf,bool_str->Th,int_none->Ti,int_bool->Tj,str_none->Tk,str_bool->Tl,int_int->Tp,str_str->Tq,same->TJ
open PUnit renaming unit->QE
open PySem.Code renaming quiet_builtin->QF
open PySem.ScopeKind renaming function->QJ
open PySem.AutoListH renaming list___mul___list_int_3->QM
open PySem.AutoSeq1 renaming list_extend_list_list_0->QZ,sub_tuple_tuple->Sk
open PyProof.Rows.IsTup renaming new->Ri
open PySem.IsL renaming update->Rn
open PySem.Builtin.Frozenset renaming updateFrom->RD,newClass->RZ
open List.cons renaming injEq->RK
open PySem.Builtin.Str renaming tooLong->R7
open List.Pairwise renaming imp_of_mem->Sy,nil->Tx
open List.Perm renaming append_right->SN,append_left->SQ,of_eq->TN,swap->TV,map->TY
open Sum.inl renaming inj->SS
open PySem.MeetsSeq renaming list_pop_at->SZ
open PySem.Heap.IsSliceOf renaming new->To
open PySem.Walks renaming list->Tr
open PySem.Flow renaming next->TD
open PySem.W.Looks renaming ld->TF
open PySem.W.XL renaming keeps->TH
open PySem.Heap.DictOf renaming new->TK
open PySem.PassesOwn renaming never->TM
open Prod renaming ext->TR,mk->T5
open Or renaming inr->TU
open PySem.Txt renaming mul->T0
open Iff renaming rfl->T3
open Nat.succ renaming inj->T6
set_option genSizeOf false
namespace ZZ.Lean
noncomputable section
set_option Elab.async false
set_option linter.all false
set_option maxRecDepth 100000
namespace L2
open PySem PySem.Spec PyProof.Rows
noncomputable abbrev bq:=Sum Ki KG
abbrev lT:bq->J5->KR
 |.inl k,v=>SR k v
 |.inr x,v=>Sb x v
abbrev Ih (w:K8):bq->Ki
 |.inl k=>hashInt k
 |.inr x=>hashStr w x
def bo:∀{k:bq}{v:J5},lT k v=true->(∃i t,k=Mz i/\v=Oq i t)\/(∃x t,k=Qd x/\v=Os x t)
 |.inl i,v,h=>by
  obtain⟨t,e⟩:=QN (k:=i) (v:=v) h;show .inl #[i,t,rfl,e]
 |.inr x,v,h=>by
  obtain⟨t,e⟩:=Qh (x:=x) (v:=v) h;show .inr #[x,t,rfl,e]
def uM (i:Ki)(t:Tn):lT (.inl i) (.int i t)=true:=by simp[lT,SR]
def uN (x:KG)(t:Tn):lT (.inr x) (.str x t)=true:=by simp[lT,Sb]
def Dn (a b:Ki):decide ((Mz a:bq)=Mz b)=(a==b):=by
 by_cases e:a=b
 ·subst e;simp
 ·have h:¬ (Mz a:bq)=Mz b:=λq=>e (SS q)
  rw[K4 h];show(Nc.mpr e).symm
def Do (a b:KG):decide ((Qd a:bq)=Qd b)=decide (a=b):=by
 by_cases e:a=b
 ·subst e;simp
 ·have h:¬ (Qd a:bq)=Qd b:=λq=>e (Sum.inr.inj q)
  rw[K4 h,K4 e]
def Dp (a:Ki)(b:KG):decide ((Mz a:bq)=Qd b)=false:=K4 (λq=>nomatch q)
def Dq (a:KG)(b:Ki):decide ((Qd a:bq)=Mz b)=false:=K4 (λq=>nomatch q)
abbrev aJ (prog:KQ)(w:K8):PySem.KeyKind prog w bq where
 is:=lT
 hash:=Ih w
 inj:=λv a b f d=>by
  rcases bo f with⟨i,t,rfl,rfl⟩|⟨x,t,rfl,rfl⟩
  ·rcases bo d with⟨j,u,rfl,e⟩|⟨y,u,rfl,e⟩
   ·injection e with e1 _;rw[e1]
   ·show nomatch e
  ·rcases bo d with⟨j,u,rfl,e⟩|⟨y,u,rfl,e⟩
   ·show nomatch e
   ·injection e with e1 _;rw[e1]
 byValue:=λk v h=>by
  rcases bo h with⟨i,t,rfl,rfl⟩|⟨x,t,rfl,rfl⟩<;>rfl
 pyHash:=λc h=>by
  rcases bo c with⟨i,t,rfl,rfl⟩|⟨x,t,rfl,rfl⟩
  ·show Rg h
  ·show Rh h
 eqBool:=λg c h=>by
  rcases bo g with⟨i,t,rfl,rfl⟩|⟨x,t,rfl,rfl⟩
  ·rcases bo c with⟨j,u,rfl,rfl⟩|⟨y,u,rfl,rfl⟩
   ·rw[Dn]at h;show wpAny_eqBool_int h
   ·rw[Dp]at h;show Qs i t y u _ _ _ _ h
  ·rcases bo c with⟨j,u,rfl,rfl⟩|⟨y,u,rfl,rfl⟩
   ·rw[Dq]at h;show Qt x t j u _ _ _ _ h
   ·rw[Do]at h;show wpAny_eqBool_str h
 «strs»:=λk x t v h=>by
  rcases bo h with⟨i,u,rfl,e⟩|⟨y,u,rfl,e⟩
  ·show nomatch e
  ·injection e with e1 _
   subst e1;cases v<;>rfl
def oP (prog:KQ)(w:K8)(i:Ki)(t:Tn):(aJ prog w).is (.inl i) (.int i t)=true:=uM i t
def oQ (prog:KQ)(w:K8)(x:KG)(t:Tn):(aJ prog w).is (.inr x) (.str x t)=true:=uN x t
inductive V where
 |non|bl (b:KR)|int (i:Ki)|str (x:KG)|byt (b:Lm UInt8)|flt (b:UInt64)|ref (a:Kf)|ty (n:LV)
 deriving Ny
abbrev RelV:V->J5->Prop
 |.non,u=>u=LB
 |.bl b,u=>u=Nz b
 |.int i,u=>∃t,u=Oq i t
 |.str x,u=>∃t,u=Os x t
 |.byt b,u=>∃t,u=Value.bytes b t
 |.flt b,u=>∃t,u=Value.float b t
 |.ref a,u=>u=Lc a
 |.ty n,u=>u=MK n
noncomputable abbrev Vals:J2 V->J2 J5->Prop:=Ot RelV
def Vals.length {xs:J2 V}{us:J2 J5}(r:Vals xs us):↥xs=↥us:=Nr r
def Vals.get:∀{xs:J2 V}{us:J2 J5}{i:Kb}{x:V},Vals xs us->xs[i]?=gV x->∃u,us[i]?=gV u/\RelV x u
 |_,_,_,_,.nil,e=>by simp at e
 |_,_,0,_,.cons r _,e=>by simp at e;subst e;show#[_,rfl,r]
 |_,_,i+1,x,.cons _ t,e=>by
  obtain⟨u,a,b⟩:=Vals.get (i:=i) (x:=x) t (by simpa using e)
  show#[u,by simpa using a,b]
def Vals.set {x:V}{u:J5}(r:RelV x u):∀{xs:J2 V}{us:J2 J5} (i:Kb),Vals xs us->Vals (xs.set i x) (us.set i u)
 |_,_,_,.nil=>.nil
 |_,_,0,.cons _ t=>.cons r t
 |_,_,i+1,.cons q t=>.cons q (Vals.set r i t)
def Vals.append:∀{xs ys:J2 V}{us ws:J2 J5},Vals xs us->Vals ys ws->Vals (xs++ys) (us++ws)
 |_,_,_,_,.nil,s=>s
 |_,_,_,_,.cons r t,s=>.cons r (Vals.append t s)
def Vals.take:∀{xs:J2 V}{us:J2 J5} (n:Kb),Vals xs us->Vals (xs.take n) (us.take n)
 |_,_,0,_=>.nil
 |_,_,_+1,.nil=>.nil
 |_,_,n+1,.cons r t=>.cons r (Vals.take n t)
def Vals.drop:∀{xs:J2 V}{us:J2 J5} (n:Kb),Vals xs us->Vals (xs.drop n) (us.drop n)
 |_,_,0,r=>r
 |_,_,_+1,.nil=>.nil
 |_,_,n+1,.cons _ t=>Vals.drop n t
abbrev RelO:J9 V->J9 J5->Prop
 |some v,gV u=>RelV v u
 |none,td=>RM
 |_,_=>LM
abbrev KV {κ:Type}:J2 (κ×V)->J2 (κ×J5)->Prop:=Ot λ(p:κ×V) (q:κ×J5)=>p.1=q.1/\RelV p.2 q.2
abbrev kV:bq->V
 |.inl i=>.int i
 |.inr x=>.str x
inductive HO where
 |lst (xs:J2 V)
 |tup (xs:J2 V)
 |dK (U:J2 (bq×V))|dT (U:J2 (J2 bq×V))
 |set (S:Ki->KR) (n:Kb)
 |ins (C dx:Kf) (fs:J2 (KG×V))
 |own (x:Kf)
 |xd (fs:J2 (KG×V))
 |met (f x:Kf)
 |rng (lo hi:Ki)
 |frz (o:L5) (u:HO)
 |tbl (ps:Lm J5)
 |ext (φ:Lh->Prop)
noncomputable abbrev Hp:=Kf->J9 HO
abbrev bv (H:Hp)(a:Kf)(o:HO):Hp:=λb=>if b=a then gV o else H b
def aE {H:Hp}{a:Kf}{o:HO}:bv H a o a=gV o:=by unfold bv;rw[KC rfl]
def aD {H:Hp}{a b:Kf}{o:HO}(h:b≠a):bv H a o b=H b:=by unfold bv;rw[KS h]
def FN {H:Hp}{a b:Kf}{o u:HO}(h:H a=gV o)(h':H b=gV u)(d:o≠u):a≠b:=by
 intro e;subst e;rw[h]at h';show d (LJ h')
def dG {H:Hp}{a b:Kf}{o:HO}(h:H a=gV o)(h':H b=td):a≠b:=by
 intro e;subst e;rw[h]at h';cases h'
section
variable (P:KQ) (w:K8)
abbrev NoD (h:Lh)(a:Kf):Prop:=∃o,h.get? a=gV o/\o.dict=td
def NoD.new (h:Lh)(its:Lm J5)(n:Kb):NoD (h.push {cls:=.type "tuple",data:=.seq its n}) ⇑h.objs:=#[_,Kr _ rfl,rfl]
abbrev ObjOk (H:Hp)(h:Lh)(a:Kf):HO->Prop
 |.lst xs=>↥xs<=sizeLine/\∃(its:J2 J5) (n:Kb),Vals xs its/\h.get? a=gV {cls:=.type "list",data:=.seq its.toArray n}
 |.tup xs=>(↥xs<=sizeLine/\NoD h a)/\∃its:J2 J5,Vals xs its/\Pw h a its.toArray
 |.dK U=>↥U<=sizeLine/\(a==sysModules)=false/\∃vs,KV U vs/\h.DictOf (aJ P w) a vs
 |.dT U=>↥U<=sizeLine/\(a==sysModules)=false/\∃xs:J2 (J2 bq×Kf×J5),
   Ot (λ(p:J2 bq×V) (q:J2 bq×Kf×J5)=>p.1=q.1/\H q.2.1=gV (.tup (p.1.map kV))/\RelV p.2 q.2.2) U xs/\
   ∃o es ep,h.get? a=gV o/\o.ExactDict/\o.data=.dict es ep/\es.toList=xs.map (entryOfKey (tupleKind (aJ P w)))/\(xs.map (·.1)).Nodup
 |.set S n=>h.SetOf (intKind P w) a S n
 |.ins C d c=>H d=gV (.own a)/\↥c<=1000/\d≠a/\h.get? a=gV (PySem.W.instObj C d)/\
   ∃b,h.Ns1 d b/\(∀f,RelO (c.lookup f) (b f))/\PySem.Within b (c.map (·.1))
 |.own _=>∃o,h.get? a=gV o
 |.xd c=>∃b,h.Ns1 a b/\∀f,RelO (c.lookup f) (b f)
 |.rng lo hi=>∃t u v,h.get? a=gV {cls:=.type "range",data:=.fields [.int lo t,.int hi u,.int 1 v].toArray}
 |.frz o u=>h.get? a=gV o/\ObjOk H h a u
 |.tbl ps=>h.get? a=gV {cls:=.none,data:=.fields ps}
 |.met f x=>h.get? a=gV (OS (.ref f) (.ref x))
 |.ext φ=>φ h/\(∃o,h.get? a=gV o)/\∀e g:Lh,φ e->(∀o,e.get? a=gV o->g.get? a=gV o)->φ g
abbrev HOk (H:Hp)(h:Lh):Prop:=∀a o,H a=gV o->ObjOk P w H h a o
end
section
variable{P:KQ}{w:K8}{H H':Hp}{h h':Lh}{a:Kf}{o:HO}
def ObjOk.lt (x:ObjOk P w H h a o):a<⇑h.objs:=by
 cases o with
 |lst xs=>obtain⟨_,_,_,_,e⟩:=x;show Kx e
 |tup xs=>obtain⟨_,_,_,p⟩:=x;show p.lt
 |dK U=>obtain⟨_,_,_,_,o,_,_,e,_⟩:=x;show Kx e
 |dT U=>obtain⟨_,_,_,_,o,_,_,e,_⟩:=x;show Kx e
 |set S n=>obtain⟨o,_,_,_,e,_⟩:=x;show Kx e
 |ins C c b=>obtain⟨_,_,_,e,_⟩:=x;show Kx e
 |own y=>obtain⟨_,e⟩:=x;show Kx e
 |xd b=>obtain⟨_,⟨_,_,_,e,_⟩,_⟩:=x;show Kx e
 |rng lo hi=>obtain⟨_,_,_,e⟩:=x;show Kx e
 |frz ob u=>obtain⟨e,_⟩:=x;show Kx e
 |tbl ps=>show Kx (show h.get? a=gV _ from x)
 |met f y=>show Kx (show h.get? a=gV _ from x)
 |ext φ=>obtain⟨_,⟨_,e⟩,_⟩:=x;show Kx e
def Paired.mapP {α β:Type}{F G:α->β->Prop}:∀{l₁:J2 α}{l₂:J2 β},Ot F l₁ l₂->(∀a b,F a b->G a b)->Ot G l₁ l₂
 |_,_,.nil,_=>.nil
 |_,_,.cons r t,f=>.cons (f _ _ r) (Paired.mapP t f)
def ObjOk.stay (x:ObjOk P w H h a o)(k:∀b u,(b=a\/H b=gV (.own a))->h.get? b=gV u->h'.get? b=gV u)
  (s:∀b,H b=gV (.own a)->H' b=gV (.own a)) (A:∀b xs,H b=gV (.tup xs)->H' b=gV (.tup xs)):ObjOk P w H' h' a o:=by
 induction o with
 |lst xs=>obtain⟨z,its,n,r,e⟩:=x;show#[z,its,n,r,k _ _ (.inl rfl) e]
 |tup xs=>obtain⟨⟨z,i,j,d⟩,its,r,ob,e,c⟩:=x;show#[#[z,i,k _ _ (.inl rfl) j,d],its,r,ob,k _ _ (.inl rfl) e,c]
 |dK U=>obtain⟨z,y,vs,r,ob,es,ep,e,c⟩:=x;show#[z,y,vs,r,ob,es,ep,k _ _ (.inl rfl) e,c]
 |dT U=>
  obtain⟨z,y,xs,r,ob,es,ep,e,c⟩:=x;show#[z,y,xs,Paired.mapP r λp q z=>#[z.1,A _ _ z.2.1,z.2.2],ob,es,ep,k _ _ (.inl rfl) e,c]
 |set S n=>obtain⟨ob,es,ep,t,e,c⟩:=x;show#[ob,es,ep,t,k _ _ (.inl rfl) e,c]
 |ins C B m=>
  obtain⟨d,z,ne,e,g,⟨od,es,ep,l,c⟩,r⟩:=x;show#[s _ d,z,ne,k _ _ (.inl rfl) e,g,#[od,es,ep,k _ _ (.inr d) l,c],r]
 |own y=>obtain⟨ob,e⟩:=x;show#[ob,k _ _ (.inl rfl) e]
 |xd m=>obtain⟨g,⟨od,es,ep,e,c⟩,r⟩:=x;show#[g,#[od,es,ep,k _ _ (.inl rfl) e,c],r]
 |rng lo hi=>obtain⟨t,u,v,e⟩:=x;show#[t,u,v,k _ _ (.inl rfl) e]
 |frz ob u ih=>obtain⟨e,q⟩:=x;show#[k _ _ (.inl rfl) e,ih q]
 |tbl ps=>
  have e:h.get? a=gV {cls:=.none,data:=.fields ps}:=x;change h'.get? a=gV {cls:=.none,data:=.fields ps};show k a _ (.inl rfl) e
 |met f y=>
  have e:h.get? a=gV (OS (.ref f) (.ref y)):=x;change h'.get? a=gV (OS (.ref f) (.ref y));show k a _ (.inl rfl) e
 |ext φ=>obtain⟨p,⟨o,e⟩,st⟩:=x;show#[st _ _ p λo q=>k _ _ (.inl rfl) q,#[o,k _ _ (.inl rfl) e],st]
def HOk.lt (x:HOk P w H h)(e:H a=gV o):a<⇑h.objs:=(x a o e).lt
def HOk.fresh (x:HOk P w H h)(e:⇑h.objs<=a):H a=td:=by
 cases q:H a with
 |none=>rfl
 |some u=>show absurd (Kw (x.lt q) e) (LZ _)
def HOk.kept (x:HOk P w H h)(k:∀b u,h.get? b=gV u->h'.get? b=gV u):HOk P w H h':=λa o e=>
 (x a o e).stay (λb u _ q=>k b u q) (λ_ q=>q) λ_ _ q=>q
def HOk.laid (x:HOk P w H h)(k:∀b u,h.get? b=gV u->h'.get? b=gV u)(g:⇑h.objs<=a)(new:ObjOk P w (bv H a o) h' a o):HOk P w (bv H a o) h':=λb u e=>by
 have f:=x.fresh g
 by_cases d:b=a
 ·subst d;rw[aE]at e;cases e;show new
 ·rw[aD d]at e;show(x b u e).stay (λc v _ q=>k c v q) (λc q=>by rw[aD (dG q f)];show q) λc xs q=>by rw[aD (dG q f)];show q
end
abbrev Rd (H:Hp)(a:Kf)(u:HO):Prop:=H a=gV u\/∃o,H a=gV (.frz o u)
def Rd.ok {P:KQ}{w:K8}{H:Hp}{h:Lh}{a:Kf}{u:HO}(r:Rd H a u)(x:HOk P w H h):ObjOk P w H h a u:=by
 rcases r with r|⟨o,r⟩
 ·show x a u r
 ·obtain⟨_,q⟩:=x a _ r;show q
abbrev FP:J9 HO->Prop
 |some (.lst _)=>RM
 |some (.dK _)=>RM
 |some (.dT _)=>RM
 |some (.set _ _)=>RM
 |some (.ins _ _ _)=>RM
 |some (.ext _)=>RM
 |_=>LM
section
variable{P:KQ}{w:K8}{H:Hp}{h h':Lh}{x e:Kf}{o':HO}
def HOk.write (ok:HOk P w H h)(i:FP (H x))(l:e=x\/H e=gV (.own x))(k:∀b u,b≠e->h.get? b=gV u->h'.get? b=gV u)(j:∃u,h'.get? e=gV u)
  (new:ObjOk P w (bv H x o') h' x o'):HOk P w (bv H x o') h':=λb u q=>by
 have d:∀c y,H c=gV (.own y)->c≠x:=λc y r z=>by subst z;rw[r]at i;show i
 have f:∀c xs,H c=gV (.tup xs)->c≠x:=λc xs r z=>by subst z;rw[r]at i;show i
 by_cases g:b=x
 ·subst g;rw[aE]at q;cases q;show new
 ·rw[aD g]at q
  by_cases a:b=e
  ·have m:H b=gV (.own x):=by
    rcases l with z|z
    ·show absurd (a.trans z) g
    ·rw[a];show z
   rw[q]at m;cases m
   obtain⟨v,n⟩:=j;show#[v,by rw[a];show n]
  ·show(ok b u q).stay (λc v hc r=>k c v ?_ r) (λc r=>by rw[aD (d c b r)];show r) λc xs r=>by rw[aD (f c xs r)];show r
   rcases hc with rfl|hc
   ·show a
   ·rintro rfl;rcases l with z|z
    ·show d c b hc z
    ·rw[hc]at z;cases z;show g rfl
end
structure Un (fs ex:J2 Kf)(H H':Hp)(h h':Lh):Prop where
 keep:∀b o,h.get? b=gV o->H b=td->b∉fs->b∉ex->h'.get? b=gV o
 slot:∀b o,h.get? b=gV o->H b=td->b∈fs->b∉ex->∃sl,h'.get? b=gV {o with slots:=sl}
 free:∀b o,h.get? b=gV o->H b=td->b∉ex->H' b=td
 there:∀b o,h.get? b=gV o->b∉ex->∃o',h'.get? b=gV o'
 tups:∀b xs,H b=gV (.tup xs)->H' b=gV (.tup xs)
 frzs:∀b o u,H b=gV (.frz o u)->H' b=gV (.frz o u)
 tbls:∀b ps,H b=gV (.tbl ps)->∃more,H' b=gV (.tbl (ps++more))
section
variable{fs fs' ex ex':J2 Kf}{H H1 H2:Hp}{h h1 h2 h':Lh}{a x e:Kf}{o:HO}
def Un.any (u:Un fs ex H H1 h h1){b:Kf}{ob:L5}(q:h.get? b=gV ob)(n:H b=td)(c:b∉ex):∃d,h1.get? b=gV {ob with slots:=d}:=by
 by_cases a:b∈fs
 ·show u.slot b ob q n a c
 ·show#[ob.slots,u.keep b ob q n a c]
def Un.trans (a:Un fs ex H H1 h h1)(b:Un fs ex H1 H2 h1 h2):Un fs ex H H2 h h2 where
 keep:=λc ob q n hc d=>b.keep c ob (a.keep c ob q n hc d) (a.free c ob q n d) hc d
 slot:=λc ob q n hc d=>by
  obtain⟨j,e⟩:=a.slot c ob q n hc d;obtain⟨i,f⟩:=b.slot c _ e (a.free c ob q n d) hc d;show#[i,f]
 free:=λc ob q n d=>by
  obtain⟨g,e⟩:=a.there c ob q d;show b.free c g e (a.free c ob q n d) d
 there:=λc ob q d=>by
  obtain⟨g,e⟩:=a.there c ob q d;show b.there c g e d
 tups:=λc xs q=>b.tups c xs (a.tups c xs q)
 frzs:=λc ob xs q=>b.frzs c ob xs (a.frzs c ob xs q)
 tbls:=λc ps q=>by
  obtain⟨m1,e⟩:=a.tbls c ps q;obtain⟨m2,f⟩:=b.tbls c _ e;show#[m1++m2,by rw[f,Qu]]
def Un.kept (k:∀b u,h.get? b=gV u->h'.get? b=gV u):Un fs ex H H h h':=
 #[λb ob q _ _ _=>k b ob q,λb ob q _ _ _=>#[ob.slots,k b ob q],λ_ _ _ n _=>n,λb ob q _=>#[ob,k b ob q],λ_ _ q=>q,λ_ _ _ q=>q,λ_ ps q=>#[#[],by rw[q];simp]]
def Un.refl:Un fs ex H H h h:=Un.kept λ_ _ q=>q
def Un.laid (k:∀b u,h.get? b=gV u->h'.get? b=gV u)(d:⇑h.objs<=a)(c:H a=td):Un fs ex H (bv H a o) h h' where
 keep:=λb u q _ _ _=>k b u q
 slot:=λb u q _ _ _=>#[u.slots,k b u q]
 free:=λb u q n _=>by rw[aD (KF (Kw (Kx q) d))];show n
 there:=λb u q _=>#[u,k b u q]
 tups:=λb xs q=>by rw[aD (dG q c)];show q
 frzs:=λb u xs q=>by rw[aD (dG q c)];show q
 tbls:=λb ps q=>#[#[],by rw[aD (dG q c),q];simp]
def Un.write (c:FP (H x))(j:e=x\/H e=gV (.own x))(k:∀b u,b≠e->h.get? b=gV u->h'.get? b=gV u)(d:∃u,h'.get? e=gV u):Un fs ex H (bv H x o) h h':=by
 have i:∀b,H b=td->b≠x:=λb n z=>by subst z;rw[n]at c;show c
 have g:∀b,H b=td->b≠e:=λb n z=>by
  subst z;rcases j with r|r
  ·show i b n r
  ·rw[n]at r;cases r
 have f:∀b u,H b=gV u->¬ FP (gV u)->b≠x:=λb u q l z=>by subst z;rw[q]at c;show l c
 show#[λb u q n _ _=>k b u (g b n) q,λb u q n _ _=>#[u.slots,k b u (g b n) q],λb u q n _=>by rw[aD (i b n)];show n,λb u q _=>?_,
  λb xs q=>by rw[aD (f b _ q λz=>z)];show q,λb u xs q=>by rw[aD (f b _ q λz=>z)];show q,λb ps q=>#[#[],by rw[aD (f b _ q λz=>z),q];simp]]
 by_cases a:b=e
 ·subst a;show d
 ·show#[u,k b u a q]
end
abbrev HQ (h:Lh)(H:Hp):J2 Kf:=(Kj ⇑h.objs).filter λa=>(H a).isSome
abbrev nj (h:Lh)(H:Hp):Lh:=PySem.W.hideAll h (HQ h H)
def uO (h:Lh)(H:Hp):(nj h H).objs.size=⇑h.objs:=PySem.W.hideAll_size _ _
def we {h:Lh}{H:Hp}{b:Kf}{o:L5}(e:h.get? b=gV o)(n:H b=td):(nj h H).get? b=gV o:=
 PySem.W.hideAll_get _ e λa=>by
  have q:(H b).isSome=true:=(LX.mp a).2;rw[n]at q;simp at q
def Aa {h:Lh}{H:Hp}{b:Kf}{o:L5}(e:(nj h H).get? b=gV o):h.get? b=gV o/\H b=td:=by
 have a:h.get? b=gV o:=PySem.W.of_hideAll (HQ h H) e;show#[a,?_];cases q:H b with
 |none=>rfl
 |some x=>
  have c:b∈HQ h H:=LX.mpr #[Ky.mpr (Kx a),by simp[q]]
  have z:(nj h H).get? b=td:=PySem.W.hideAll_none (HQ h H) c;rw[z]at e;cases e
abbrev sH (g h:Lh)(L:Kf):J2 (Kf×L5):=(Kj ⇑h.objs).filterMap λa=>if a=L\/(g.get? a).isSome=true then td else(h.get? a).map λo=>(a,o)
def oR {g h:Lh}{L a:Kf}{o:L5}(c:a≠L)(d:g.get? a=td)(b:h.get? a=gV o):(a,o)∈sH g h L:=
 Ou.mpr #[a,Ky.mpr (Kx b),by simp[c,d,b]]
abbrev bW (g h:Lh)(L d:Kf):J2 (Kf×L5):=(sH g h L).filter λp=>decide (p.1≠d)
def mem_rest {g h:Lh}{L d a:Kf}{o:L5}(b:a≠L)(c:g.get? a=td)(e:h.get? a=gV o)(f:a≠d):(a,o)∈bW g h L d:=
 LX.mpr #[oR b c e,Ld f]
structure Mod (K:Km)(mg:KG->J9 J5)(base:Lh):Prop where
 kin:K.In base
 glob:base.Ns mainGlobals mg
 blt:∃mb,base.Ns builtinsNs mb/\∀x:KG,x≠"__name__"->mb x=bootBuiltins x
 nolimit:base.NoLimit
structure Cx where
 prog:KQ
 w:K8
 K:Km
 mg:KG->J9 J5
 base:Lh
 A:KZ
 N:J2 KG
 s₀:J8
 H₀:Hp
 env:QP
 outer:J2 QP
 stack:J2 QP
 ex:J2 Kf
 fn:KG->KR
 calm:KR
 pn:J2 (Kf×L5)
 xe:J5->J8->Prop
abbrev qW (l:J2 QP):J2 Kf:=l.filterMap (·.frame)
noncomputable abbrev Cx.fs (X:Cx):J2 Kf:=qW X.outer
abbrev HR (sc:Nv)(x:KG):Prop:=sc.names.lookup x=gV .local\/sc.names.lookup x=gV .cell\/sc.names.lookup x=gV .free
abbrev Ab (sc:Nv)(x:KG):Prop:=sc.names.lookup x=gV .local\/sc.names.lookup x=gV .cell
abbrev Ii (env:QP)(h:Lh)(m:KG->J9 J5)(x:KG)(u:J5):Prop:=
 (env.kindOf x=gV .local/\m x=gV u)\/((env.kindOf x=gV .cell\/env.kindOf x=gV .free)/\∃c,env.cells.lookup x=gV c/\h.IsCell c (gV u))
structure Cx.Ok (X:Cx):Prop where
 mod:Mod X.K X.mg X.base
 kind:X.env.scope.kind=.function
 glob:X.env.globals=mainGlobals
 blt:X.env.builtins=builtinsNs
 above:⇑X.s₀.heap.objs<=X.env.locals
 inj:∀x y c,X.env.cells.lookup x=gV c->X.env.cells.lookup y=gV c->x=y
 has:∀x,(X.env.kindOf x=gV .cell\/X.env.kindOf x=gV .free)->∃c,X.env.cells.lookup x=gV c
 cab:∀x c,X.fn x=true->X.env.cells.lookup x=gV c->⇑X.s₀.heap.objs<=c
 hd:X.calm=true->X.A.handled=td
 frames:X.A.frames=gV X.stack
 stk:X.stack=X.outer\/(X.stack=X.env::X.outer/\X.env.frame=gV X.env.locals)
 exf:∀b∈X.ex,b≠X.env.locals/\∀x c,X.env.cells.lookup x=gV c->c≠b
 bs:∀b o,X.base.get? b=gV o->X.s₀.heap.get? b=gV o/\X.H₀ b=td
 bsz:⇑X.base.objs<=⇑X.s₀.heap.objs
 noex:∀b o,X.base.get? b=gV o->b∉X.ex
 exfs:∀b∈X.ex,b∉X.fs
 funs:X.s₀.heap.FunFrames X.base X.outer
 frf:∀b∈X.fs,X.H₀ b=td
structure Inv (X:Cx)(J:J2 (Kf×L5))(Y:J2 (J9 V))(H:Hp)(s:J8):Prop where
 ok:X.Ok
 os:s.os=X.s₀.os
 bare:OT s.gens
 base:Un X.fs X.ex X.H₀ H X.s₀.heap s.heap
 loc:∃m,s.heap.Ns X.env.locals m/\∀(i:Kb) (x:KG) (v:V),X.N[i]?=gV x->Y[i]?=gV (gV v)->HR X.env.scope x->∃u,RelV v u/\Ii X.env s.heap m x u
 cell:∀x c,X.env.cells.lookup x=gV c->∃v,s.heap.IsCell c v
 free:H X.env.locals=td
 freeC:∀x c,X.env.cells.lookup x=gV c->H c=td
 pin:∀p∈X.pn++J,s.heap.get? p.1=gV p.2/\H p.1=td/\p.1≠X.env.locals/\p.1∉X.fs/\∀v,p.2.data≠.cell v
 hok:HOk X.prog X.w H s.heap
 len:↥Y=↥X.N
section
variable{X:Cx}{J:J2 (Kf×L5)}{Y:J2 (J9 V)}{H H':Hp}{s:J8}{h':Lh}
def Cx.Ok.nofr (ok:X.Ok){b:Kf}{o:L5}(e:X.base.get? b=gV o):b∉X.fs:=λa=>by
 have:=(ok.funs.mem a).1;rw[e]at this;cases this
def Inv.bs (I:Inv X J Y H s):∀b o,X.base.get? b=gV o->s.heap.get? b=gV o/\H b=td:=λb o e=>
 #[I.base.keep b o (I.ok.bs b o e).1 (I.ok.bs b o e).2 (I.ok.nofr e) (I.ok.noex b o e),I.base.free b o (I.ok.bs b o e).1 (I.ok.bs b o e).2 (I.ok.noex b o e)]
def Inv.bk (I:Inv X J Y H s):∀b o,X.base.get? b=gV o->s.heap.get? b=gV o:=λb o e=>(I.bs b o e).1
def Inv.mod (I:Inv X J Y H s):Mod X.K X.mg X.base:=I.ok.mod
def Inv.kIn (I:Inv X J Y H s):X.K.In s.heap:=I.ok.mod.kin.keeps I.bk
def Inv.lt (I:Inv X J Y H s):X.env.locals<⇑s.heap.objs:=let ⟨_,hn,_⟩:=I.loc;hn.lt
def Inv.sz (I:Inv X J Y H s):⇑X.s₀.heap.objs<=⇑s.heap.objs:=Lq I.ok.above (ND I.lt)
def Inv.nofs (I:Inv X J Y H s){a:Kf}(h:⇑s.heap.objs<=a):a∉X.fs:=λb=>by
 obtain⟨_,o,c,_⟩:=I.ok.funs.mem b;show absurd (Kw (Kx c) (Lq I.sz h)) (LZ _)
def Inv.cne (I:Inv X J Y H s):∀x c,X.env.cells.lookup x=gV c->c≠X.env.locals:=λx c e z=>by
 obtain⟨v,o,d,hd⟩:=I.cell x c e;obtain⟨m,⟨f,es,ep,b,a,_⟩,_⟩:=I.loc;rw[z,b]at d;cases d;rw[a]at hd;cases hd
def Inv.funs (I:Inv X J Y H s):s.heap.FunFrames X.base X.outer:=by
 have all:∀(l:J2 QP),(∀b∈qW l,b∈X.fs)->X.s₀.heap.FunFrames X.base l->s.heap.FunFrames X.base l:=by
  intro l
  induction l with
  |nil=>intro _ _;trivial
  |cons env r ih=>
   intro f hl;obtain⟨hk,⟨L,o,d,g,h,hd⟩,i⟩:=hl;have a:L∈X.fs:=f L (by unfold qW;rw[NM,d];show Mr)
   obtain⟨j,e⟩:=I.base.slot L o h (I.ok.frf L a) a λz=>I.ok.exfs L z a
   show#[hk,#[L,_,d,g,e,hd],ih (λb c=>f b (by unfold qW;rw[NM,d];show LH _ c)) i]
 show all X.outer (λ_ c=>c) I.ok.funs
def Inv.stack (I:Inv X J Y H s):s.heap.FunFrames X.base X.stack:=by
 rcases I.ok.stk with e|⟨e,a⟩
 ·rw[e];show I.funs
 ·rw[e];obtain⟨m,b,_⟩:=I.loc;show .cons (by rw[I.ok.kind];decide) a b ?_ I.funs
  show Heap.get?_none_of_le (Lq I.ok.bsz I.ok.above)
def Inv.stkSub (I:Inv X J Y H s):∀b∈qW X.stack,b∈X.env.locals::X.fs:=λb a=>by
 rcases I.ok.stk with e|⟨e,c⟩
 ·rw[e]at a;show LH _ a
 ·rw[e]at a;unfold qW at a;rw[NM,c]at a;show a
def Inv.stkFree (I:Inv X J Y H s):∀b∈qW X.stack,H b=td:=λb a=>by
 rcases KH.mp (I.stkSub b a)with e|a
 ·rw[e];show I.free
 ·obtain⟨_,o,c,_⟩:=I.ok.funs.mem a;show I.base.free b o c (I.ok.frf b a) λz=>I.ok.exfs b z a
def Inv.step {g':Lm P0}{t':Kb}{d':TQ}{ch:J2 Kf}(I:Inv X J Y H s)
  (g:∀b∈ch,(b∈X.ex\/⇑X.s₀.heap.objs<=b)/\b≠X.env.locals/\(∀x c,X.env.cells.lookup x=gV c->c≠b)/\∀p∈X.pn++J,p.1≠b)
  (keep:∀b o,b≠X.env.locals->b∉X.fs->b∉ch->s.heap.get? b=gV o->H b=td->h'.get? b=gV o)
  (slot:∀b o,b≠X.env.locals->b∈X.fs->b∉ch->s.heap.get? b=gV o->H b=td->∃G,h'.get? b=gV {o with slots:=G}) (free:∀b o,b∉ch->s.heap.get? b=gV o->H b=td->H' b=td)
  (there:∀b o,b∉ch->s.heap.get? b=gV o->∃D,h'.get? b=gV D)
  (tups:∀b xs,H b=gV (.tup xs)->H' b=gV (.tup xs)) (frzs:∀b o u,H b=gV (.frz o u)->H' b=gV (.frz o u)) (tbls:∀b ps,H b=gV (.tbl ps)->∃B,H' b=gV (.tbl (ps++B)))
  (ns:∀m,s.heap.Ns X.env.locals m->h'.Ns X.env.locals m) (E:HOk X.prog X.w H' h') (P:OT g') :
  Inv X J Y H' {s with heap:=h',gens:=g',drawn:=d',toks:=t'}:=by
 have C:∀b o,X.s₀.heap.get? b=gV o->b≠X.env.locals:=λb o e=>KF (Kw (Kx e) I.ok.above)
 have t:∀b o,X.s₀.heap.get? b=gV o->b∉X.ex->b∉ch:=λb o e a w=>by
  rcases(g b w).1 with z|z
  ·show a z
  ·show absurd (Kw (Kx e) z) (LZ _)
 have f:∀x c,X.env.cells.lookup x=gV c->∀v,s.heap.IsCell c v->h'.IsCell c v:=λx c e v #[o,y,hd]=>by
  have h:c∉ch:=λz=>(g c z).2.2.1 x c e rfl
  by_cases hc:c∈X.fs
  ·obtain⟨G,q⟩:=slot c o (I.cne x c e) hc h y (I.freeC x c e);show#[_,q,hd]
  ·show#[o,keep c o (I.cne x c e) hc h y (I.freeC x c e),hd]
 show#[I.ok,I.os,P,#[λb o e n w a=>?_,λb o e n w a=>?_,λb o e n a=>?_,λb o e a=>?_,λb xs e=>tups b xs (I.base.tups b xs e),λb o xs e=>frzs b o xs (I.base.frzs b o xs e),λb ps e=>?_],?_,λx c e=>?_,?_,λx c e=>?_,λp M=>?_,E,I.len]
 ·show keep b o (C b o e) w (t b o e a) (I.base.keep b o e n w a) (I.base.free b o e n a)
 ·obtain⟨G,j⟩:=I.base.slot b o e n w a;obtain⟨L,A⟩:=slot b _ (C b o e) w (t b o e a) j (I.base.free b o e n a);show#[L,A]
 ·obtain⟨D,j⟩:=I.base.there b o e a;show free b D (t b o e a) j (I.base.free b o e n a)
 ·obtain⟨D,j⟩:=I.base.there b o e a;show there b D (t b o e a) j
 ·obtain⟨m1,j⟩:=I.base.tbls b ps e;obtain⟨m2,A⟩:=tbls b _ j;show#[m1++m2,by rw[A,Qu]]
 ·obtain⟨m,Q,hl⟩:=I.loc;show#[m,ns m Q,λi x v j A O=>?_]
  obtain⟨u,r,l⟩:=hl i x v j A O;show#[u,r,?_];rcases l with l|⟨k,c,e,z⟩
  ·show .inl l
  ·show .inr #[k,c,e,f x c e _ z]
 ·obtain⟨v,z⟩:=I.cell x c e;show#[v,f x c e v z]
 ·obtain⟨m,⟨o,_,_,y,_⟩,_⟩:=I.loc;show free _ o (λz=>(g _ z).2.1 rfl) y I.free
 ·obtain⟨v,o,y,hd⟩:=I.cell x c e;show free c o (λz=>(g c z).2.2.1 x c e rfl) y (I.freeC x c e)
 ·obtain⟨e,n,ne,N,d⟩:=I.pin p M;have h:p.1∉ch:=λz=>(g p.1 z).2.2.2 p M rfl
  show#[keep p.1 p.2 ne N h e n,free p.1 p.2 h e n,ne,N,d]
def Inv.un {t':Kb}(I:Inv X J Y H s)(u:Un X.fs [] H H' s.heap h')(g:HOk X.prog X.w H' h'):Inv X J Y H' {s with heap:=h',toks:=t'}:=by
 obtain⟨m,⟨o,es,ep,h,r⟩,_⟩:=id I.loc;obtain⟨q,i⟩:=u.any h I.free (by simp)
 show I.step (g':=s.gens) (d':=s.drawn) (ch:=[]) (λ_ z=>nomatch z) (λb o _ f _ e n=>u.keep b o e n f (by simp)) (λb o _ f _ e n=>u.slot b o e n f (by simp)) (λb o _ e n=>u.free b o e n (by simp)) (λb o _ e=>u.there b o e (by simp)) u.tups u.frzs u.tbls (λl j=>by
  obtain⟨p,d,c,a,k⟩:=j;rw[h]at a;cases a
  show#[_,d,c,i,k]) g I.bare
def Inv.call {g':Lm P0}{t':Kb}{d':TQ}{ch:J2 Kf}(I:Inv X J Y H s)(u:Un (qW X.stack) ch H H' s.heap h')(i:HOk X.prog X.w H' h')(l:OT g')
  (a:∀b∈ch,(b∈X.ex\/⇑X.s₀.heap.objs<=b)/\b≠X.env.locals/\(∀x c,X.env.cells.lookup x=gV c->c≠b)/\∀p∈X.pn++J,p.1≠b) :
  Inv X J Y H' {s with heap:=h',gens:=g',drawn:=d',toks:=t'}:=by
 obtain⟨m,⟨o,es,ep,j,r⟩,_⟩:=id I.loc;obtain⟨y,h⟩:=u.any j I.free λz=>(a _ z).2.1 rfl
 show I.step (ch:=ch) a (λb o h k hc e n=>u.keep b o e n (λz=>(KH.mp (I.stkSub b z)).elim h k) hc) (λb o _ _ hc e n=>u.any e n hc) (λb o hc e n=>u.free b o e n hc) (λb o hc e=>u.there b o e hc) u.tups u.frzs u.tbls (λv q=>by
  obtain⟨w,g,f,d,t⟩:=q;rw[j]at d;cases d
  show#[_,g,f,h,t]) i l
def Inv.turned {t':Kb}{it:Kf}(I:Inv X J Y H s)(k:∀b o,b≠it->s.heap.get? b=gV o->h'.get? b=gV o)(l:H it=td)(d:it≠X.env.locals)
  (f:it∈X.ex\/⇑X.s₀.heap.objs<=it) (g:∀x c,X.env.cells.lookup x=gV c->c≠it) (h:∀p∈X.pn++J,p.1≠it):Inv X J Y H {s with heap:=h',toks:=t'}:=by
 have a:∀b u,H b=gV u->b≠it:=λb u e z=>by rw[z,l]at e;cases e
 show I.step (g':=s.gens) (d':=s.drawn) (ch:=[it]) (λb i=>?_) (λb o _ _ hc e _=>k b o (λz=>hc (by simp[z])) e) (λb o _ _ hc e _=>#[o.slots,k b o (λz=>hc (by simp[z])) e]) (λ_ _ _ _ n=>n)
  (λb o hc e=>#[o,k b o (λz=>hc (by simp[z])) e]) (λ_ _ e=>e) (λ_ _ _ e=>e) (λb ps e=>#[#[],by rw[e];simp]) (λm j=>?_) (λb u e=>?_) I.bare
 ·have e:b=it:=by simpa using i
  subst e;show#[f,d,g,h]
 ·obtain⟨o,es,ep,t,r⟩:=j;show#[o,es,ep,k _ o (Ne.symm d) t,r]
 ·show(I.hok b u e).stay (λc v hc q=>k c v ?_ q) (λ_ q=>q) λ_ _ q=>q
  rcases hc with z|z
  ·rw[z];show a b u e
  ·show a c _ z
def Inv.tok (I:Inv X J Y H s)(t:Kb):Inv X J Y H {s with toks:=t}:=I.un (h':=s.heap) (t':=t) Un.refl I.hok
def Inv.kept {t':Kb}(I:Inv X J Y H s)(k:∀b u,s.heap.get? b=gV u->h'.get? b=gV u):Inv X J Y H {s with heap:=h',toks:=t'}:=I.un (Un.kept k) (I.hok.kept k)
def Inv.laid {a:Kf}{o:HO}{t':Kb}(I:Inv X J Y H s)(k:∀b u,s.heap.get? b=gV u->h'.get? b=gV u)(c:⇑s.heap.objs<=a)(new:ObjOk X.prog X.w (bv H a o) h' a o) :
  Inv X J Y (bv H a o) {s with heap:=h',toks:=t'}:=I.un (Un.laid k c (I.hok.fresh c)) (I.hok.laid k c new)
def Inv.write {x e:Kf}{o:HO}{t':Kb}(I:Inv X J Y H s)(d:FP (H x))(c:e=x\/H e=gV (.own x))(k:∀b u,b≠e->s.heap.get? b=gV u->h'.get? b=gV u)(a:∃u,h'.get? e=gV u)
  (new:ObjOk X.prog X.w (bv H x o) h' x o):Inv X J Y (bv H x o) {s with heap:=h',toks:=t'}:=I.un (Un.write d c k a) (I.hok.write d c k a new)
def Inv.pins_of {a:J2 (Kf×L5)}(I:Inv X J Y H s)(h:∀p∈a,s.heap.get? p.1=gV p.2/\H p.1=td/\p.1≠X.env.locals/\p.1∉X.fs/\∀v,p.2.data≠.cell v):Inv X a Y H s:=
 #[I.ok,I.os,I.bare,I.base,I.loc,I.cell,I.free,I.freeC,λp b=>(La.mp b).elim (λz=>I.pin p (Lo _ z)) (h p),I.hok,I.len]
def oT {N:J2 KG}(e:N.Nodup){i j:Kb}{x:KG}(a:N[i]?=gV x)(b:N[j]?=gV x):i=j:=by
 obtain⟨f,c⟩:=Ko.mp a;obtain⟨g,d⟩:=Ko.mp b;show(L1 e).mp (c.trans d.symm)
def uP {T:Tv}{A:KZ}{E:J5->J8->Prop}{i:Kb}{x:KG}{v:V}{u:J5}{Q:Unit->J8->Prop}(I:Inv X J Y H s)(hN:X.N.Nodup)(hi:X.N[i]?=gV x)(t:Ab X.env.scope x)(r:RelV v u)
  (h:∀s',Inv X J (Y.set i (gV v)) H s'->(∃a,M2 a s.heap s'.heap/\(a=X.env.locals\/X.env.cells.lookup x=gV a))->Q () s') (hf:X.fn x=true\/X.env.scope.names.lookup x=gV .local):wpAny T A (storeName X.env x u) Q E s:=by
 obtain⟨m,W,hl⟩:=id I.loc;have N:(X.env.scope.kind==.class||(X.env.scope.kind==.module&&X.env.locals != X.env.globals))=false:=by rw[I.ok.kind];rfl
 have hiσ:i<↥Y:=by rw[I.len];show(Ko.mp hi).1
 have cne:=I.cne;have l:∀{a:Kf}{h':Lh},(∃o,s.heap.get? a=gV o/\H a=td)->M2 a s.heap h'->HOk X.prog X.w H h':=λ{a h'} ha f b ob e=>by
  obtain⟨_,_,w⟩:=ha;show(I.hok b ob e).stay (λc S hc q=>(f.2 c ?_).trans q) (λ_ q=>q) λ_ _ q=>q
  rintro rfl;rcases hc with rfl|hc
  ·rw[w]at e;cases e
  ·rw[w]at hc;cases hc
 rcases t with hk|hk
 ·show wpAny_storeName_local hk W (λh' Z f=>?_) N
  obtain⟨oL,_,_,hoL,_⟩:=id W;show h _ #[I.ok,I.os,I.bare,#[λb o e n C t=>?_,λb o e n C t=>?_,I.base.free,λb o e t=>?_,I.base.tups,I.base.frzs,I.base.tbls],#[_,Z,λj y v' g B U=>?_],λy c e=>?_,I.free,I.freeC,λp hp=>?_,l #[oL,hoL,I.free] f,by simpa using I.len] #[_,f,.inl rfl]
  ·show(f.2 b (KF (Kw (Kx e) I.ok.above))).trans (I.base.keep b o e n C t)
  ·obtain⟨sl,g⟩:=I.base.slot b o e n C t;show#[sl,(f.2 b (KF (Kw (Kx e) I.ok.above))).trans g]
  ·obtain⟨o',g⟩:=I.base.there b o e t;show#[o',(f.2 b (KF (Kw (Kx e) I.ok.above))).trans g]
  ·by_cases G:j=i
   ·subst G;rw[hi]at g;cases g
    rw[Pf hiσ]at B;cases B;show#[u,r,.inl #[hk,by simp]]
   ·rw[P1 (Ne.symm G)]at B;obtain⟨u',r',q⟩:=hl j y v' g B U;show#[u',r',?_];rcases q with⟨k,e⟩|⟨k,c,e,z⟩
    ·show .inl #[k,?_];have:y≠x:=λe=>G (oT hN g (e▸hi))
     simp[this,e]
    ·show .inr #[k,c,e,z.sameBut f (cne y c e)]
  ·obtain⟨S,z⟩:=I.cell y c e;show#[S,z.sameBut f (cne y c e)]
  ·obtain⟨e,n,ne,nf,d⟩:=I.pin p hp;show#[(f.2 p.1 ne).trans e,n,ne,nf,d]
 ·have D:X.fn x=true:=by
   rcases hf with z|z
   ·show z
   ·rw[z]at hk;cases hk
  obtain⟨c,hc⟩:=I.ok.has x (.inl hk);obtain⟨S,z⟩:=I.cell x c hc;show wpAny_storeName_cell I.ok.kind hk hc z (λh' L f=>?_)
  obtain⟨oc,O,P⟩:=id z;show h {s with heap:=h'} #[I.ok,I.os,I.bare,#[λb o e n C t=>?_,λb o e n C t=>?_,I.base.free,λb o e t=>?_,I.base.tups,I.base.frzs,I.base.tbls],#[m,W.sameBut f (Ne.symm (cne x c hc)),λj y v' g B U=>?_],λy R e=>?_,I.free,I.freeC,λp hp=>?_,l #[oc,O,I.freeC x c hc] f,by simpa using I.len] #[c,f,.inr hc]
  ·show(f.2 b (KF (Kw (Kx e) (I.ok.cab x c D hc)))).trans (I.base.keep b o e n C t)
  ·obtain⟨sl,g⟩:=I.base.slot b o e n C t;show#[sl,(f.2 b (KF (Kw (Kx e) (I.ok.cab x c D hc)))).trans g]
  ·obtain⟨o',g⟩:=I.base.there b o e t;show#[o',(f.2 b (KF (Kw (Kx e) (I.ok.cab x c D hc)))).trans g]
  ·by_cases G:j=i
   ·subst G;rw[hi]at g;cases g
    rw[Pf hiσ]at B;cases B;show#[u,r,.inr #[.inl hk,c,hc,L]]
   ·rw[P1 (Ne.symm G)]at B;obtain⟨u',r',q⟩:=hl j y v' g B U;show#[u',r',?_];rcases q with q|⟨k,R,e,z'⟩
    ·show .inl q
    ·show .inr #[k,R,e,z'.sameBut f ?_];rintro rfl;show G (oT hN g (I.ok.inj _ _ _ e hc▸hi))
  ·by_cases M:R=c
   ·subst M;show#[_,L]
   ·obtain⟨w2,z2⟩:=I.cell y R e;show#[w2,z2.sameBut f M]
  ·obtain⟨e,n,ne,nf,d⟩:=I.pin p hp;show#[(f.2 p.1 ?_).trans e,n,ne,nf,d];intro q;rw[q,O]at e;have q':oc=p.2:=LJ e;show d S (by rw[<- q'];show P)
def iq {b:Tv}{A:KZ}{E:J5->J8->Prop}{i:Kb}{x:KG}{v:V}{u:J5}{Q:Unit->J8->Prop}(I:Inv X J Y H s)(d:X.N.Nodup)(hi:X.N[i]?=gV x)(f:Ab X.env.scope x)(r:RelV v u)
  (h:∀a,Inv X J (Y.set i (gV v)) H a->Q () a) (e:X.fn x=true\/X.env.scope.names.lookup x=gV .local):wpAny b A (storeName X.env x u) Q E s:=
 uP I d hi f r (λa c _=>h a c) e
def Inv.call' {a:J8}{ch:J2 Kf}(I:Inv X J Y H s)(h:a.os=s.os)(u:Un (qW X.stack) ch H H' s.heap a.heap)(f:HOk X.prog X.w H' a.heap)(g:OT a.gens)
  (d:∀b∈ch,(b∈X.ex\/⇑X.s₀.heap.objs<=b)/\b≠X.env.locals/\(∀x c,X.env.cells.lookup x=gV c->c≠b)/\∀p∈X.pn++J,p.1≠b):Inv X J Y H' a:=by
 obtain⟨h',g',d',t',i⟩:=a;have e:i=s.os:=h;subst e;show I.call (g':=g') (t':=t') (d':=d') u f g d
end
noncomputable abbrev XK:=J5->J9 Kf->Hp->Prop
noncomputable abbrev St:=J2 (J9 V)
noncomputable abbrev VK:=V->Hp->Prop
noncomputable abbrev TE:=St->Hp->VK->Prop
noncomputable abbrev TT:=St->Hp->(KR->Hp->Prop)->Prop
noncomputable abbrev TA:=St->Hp->(J2 V->Hp->Prop)->Prop
structure Ends where
 nx:St->Hp->Prop
 rt:VK
 bk:St->Hp->Prop:=λ_ _=>LM
 ct:St->Hp->Prop:=λ_ _=>LM
noncomputable abbrev TS:=Ends->St->Hp->Prop
inductive EP (X:Cx)(J:J2 (Kf×L5))(Y:St)(Q:VK)(u:J5)(s':J8):Prop
 |mk (v:V) (H':Hp) (i:Inv X J Y H' s') (r:RelV v u) (q:Q v H'):EP X J Y Q u s'
inductive TP (X:Cx)(J:J2 (Kf×L5))(Y:St)(Q:KR->Hp->Prop)(b:KR)(s':J8):Prop
 |mk (H':Hp) (i:Inv X J Y H' s') (q:Q b H'):TP X J Y Q b s'
inductive AP (X:Cx)(J:J2 (Kf×L5))(Y:St)(Q:J2 V->Hp->Prop)(us:J2 J5)(s':J8):Prop
 |mk (vs:J2 V) (H':Hp) (i:Inv X J Y H' s') (r:Vals vs us) (q:Q vs H'):AP X J Y Q us s'
abbrev SP (X:Cx)(J:J2 (Kf×L5))(D:Ends)(f:Flow)(c:J8):Prop:=
 match f with
 |.next=>∃b a,Inv X J b a c/\D.nx b a
 |.brk=>∃b a,Inv X J b a c/\D.bk b a
 |.cont=>∃b a,Inv X J b a c/\D.ct b a
 |.ret u=>∃v b a,Inv X J b a c/\RelV v u/\D.rt v a
abbrev PE (X:Cx)(e:KO)(t:TE):Prop:=
 ∀(J:J2 (Kf×L5)) (s:J8) (Y:St) (H:Hp) (Q:VK),Inv X J Y H s->t Y H Q->wpAny (model X.prog X.w) X.A (eval e X.env) (EP X J Y Q) X.xe s
abbrev PT (X:Cx)(e:KO)(t:TT):Prop:=
 ∀(J:J2 (Kf×L5)) (s:J8) (Y:St) (H:Hp) (Q:KR->Hp->Prop),Inv X J Y H s->t Y H Q->wpAny (model X.prog X.w) X.A (isTrue e X.env (eval e X.env)) (TP X J Y Q) X.xe s
abbrev PW (X:Cx)(e:KO)(t:TT):Prop:=
 ∀(a:SO J5) (J:J2 (Kf×L5)) (s:J8) (Y:St) (H:Hp) (Q:KR->Hp->Prop),Inv X J Y H s->t Y H Q->wpAny (model X.prog X.w) X.A (isTrue e X.env a) (TP X J Y Q) X.xe s
def PW.pt {X:Cx}{e:KO}{t:TT}(h:PW X e t):PT X e t:=h _
abbrev PA (X:Cx)(es:J2 KO)(t:TA):Prop:=
 ∀(pos:MN) (J:J2 (Kf×L5)) (s:J8) (Y:St) (H:Hp) (Q:J2 V->Hp->Prop),Inv X J Y H s->t Y H Q->wpAny (model X.prog X.w) X.A (spliced (backTo pos (starEach es X.env))) (AP X J Y Q) X.xe s
abbrev PS (X:Cx)(st:Nb)(t:TS):Prop:=
 ∀(J:J2 (Kf×L5)) (s:J8) (Y:St) (H:Hp) (D:Ends),Inv X J Y H s->t D Y H->wpAny (model X.prog X.w) X.A (exec st X.env) (SP X J D) X.xe s
abbrev PSs (X:Cx)(st:J2 Nb)(t:TS):Prop:=
 ∀(J:J2 (Kf×L5)) (s:J8) (Y:St) (H:Hp) (D:Ends),Inv X J Y H s->t D Y H->wpAny (model X.prog X.w) X.A (execs st X.env) (SP X J D) X.xe s
def bf {α:Type}{t:SO α}{Q c:α->J8->Prop}{b:Tv}{A:KZ}{E:J5->J8->Prop}{s:J8}(h:wpAny b A t Q E s)(d:∀a s,Q a s->c a s):wpAny b A t c E s:=Mj h d λ_ _ x=>x
section
variable{X:Cx}
abbrev Dr (i:Kb):TE:=λY H Q=>∃v,Y[i]?=gV (gV v)/\Q v H
abbrev tC (v:V):TE:=λ_ H Q=>Q v H
def wf {i:Kb}{x:KG}{pos:MN}(d:X.N[i]?=gV x)(j:HR X.env.scope x)(hd:(x==("__debug__": KG))=false:=by decide)(b:(x==("__classdict__": KG))=false:=by decide):PE X (.Name x pos) (Dr i):=by
 intro J s Y H Q I h;obtain⟨v,e,h⟩:=h;obtain⟨m,g,hl⟩:=I.loc;obtain⟨u,r,l⟩:=hl i x v d e j;have fin:EP X J Y Q u s:=#[v,H,I,r,h];rcases l with⟨hk,f⟩|⟨hk,c,hc,a⟩
 ·show RN (wpAny_loadName_local I.ok.kind hk g f fin) hd
 ·rcases hk with hk|hk
  ·show RN (wpAny_loadName_cell I.ok.kind hk hc a fin) hd
  ·show RN (wpAny_loadName_free I.ok.kind hk hc a fin b) hd
def wj {i j pos}:PE X (.Constant (.int i) j pos) (tC (.int i)):=λ_ _ _ H _ I h=>wpAny_Constant_int #[.int i,H,I.tok _,#[_,rfl],h]
def CD {b j pos}:PE X (.Constant (.bool b) j pos) (tC (.bl b)):=λ_ _ _ H _ I h=>Constant_bool #[.bl b,H,I,rfl,h]
def wn {j pos}:PE X (.Constant .none j pos) (tC .non):=λ_ _ _ H _ I h=>Constant_none #[.non,H,I,rfl,h]
def wo {x j pos}:PE X (.Constant (.str x) j pos) (tC (.str x)):=λ_ _ _ H _ I h=>Qv #[.str x,H,I.tok _,#[_,rfl],h]
abbrev Gl (X:Cx)(x:KG):Prop:=X.env.kindOf x=gV .globalImplicit
def sI {E:J5->J8->Prop}{J:J2 (Kf×L5)}{s:J8}{Y:St}{H:Hp}{x:KG}{u:J5}{pos:MN}{Q:J5->J8->Prop}(I:Inv X J Y H s)(a:Gl X x)(b:X.mg x=gV u)(h:Q u s)
  (hd:(x==("__debug__": KG))=false:=by decide):wpAny (model X.prog X.w) X.A (eval (.Name x pos) X.env) Q E s:=
 Ov I.ok.kind a (Calls.loadGlobal_global (by rw[I.ok.glob];show I.mod.glob.keeps I.bk) b h) hd
def eB {E:J5->J8->Prop}{J:J2 (Kf×L5)}{s:J8}{Y:St}{H:Hp}{x:KG}{u:J5}{pos:MN}{Q:J5->J8->Prop}(I:Inv X J Y H s)(c:Gl X x)(d:X.mg x=td)(f:bootBuiltins x=gV u)(h:Q u s)
  (e:x≠"__name__":=by decide) (hd:(x==("__debug__": KG))=false:=by decide):wpAny (model X.prog X.w) X.A (eval (.Name x pos) X.env) Q E s:=by
 obtain⟨g,a,b⟩:=I.mod.blt;show Ov I.ok.kind c (Calls.loadGlobal_builtin (by rw[I.ok.glob];show I.mod.glob.keeps I.bk) d (by rw[I.ok.blt];show a.keeps I.bk) ((b x e).trans f) h) hd
def Ac {x:KG}{v:V}{u:J5}{pos:MN}(a:Gl X x)(b:X.mg x=td)(d:bootBuiltins x=gV u)(r:RelV v u)(c:x≠"__name__":=by decide)(hd:(x==("__debug__": KG))=false:=by decide):PE X (.Name x pos) (tC v):=
 λ_ _ _ H _ I h=>eB I a b d #[v,H,I,r,h] c hd
variable{a b:KO}{ta tb:TE}{pos:MN}
variable{tA tB':TT}{bW:J2 KO}
abbrev FQ (t u:TT):TT:=λY H Q=>t Y H λc a=>if c=true then u Y a Q else Q false a
abbrev JB (t u:TT):TT:=λY H Q=>t Y H λc a=>if c=true then Q true a else u Y a Q
abbrev Ij (t:TT):TT:=λY H Q=>t Y H λc a=>Q (!c) a
def Ad (b:PT X a tA):PW X (.BoolOp .And [a] pos) tA:=by
 intro f J s Y H Q I h;show isTrue_and (bf (b J s Y H Q I h) λc d e=>?_)
 cases c with
 |true=>show isTrue_and_nil e
 |false=>show e
def Ds (b:PT X a tA):PW X (.BoolOp .Or [a] pos) tA:=by
 intro f J s Y H Q I h;show isTrue_or (bf (b J s Y H Q I h) λc d e=>?_)
 cases c with
 |false=>show isTrue_or_nil e
 |true=>show e
def Dt (e:PT X a tA)(f:PW X (.BoolOp .And (b::bW) pos) tB'):PW X (.BoolOp .And (a::b::bW) pos) (FQ tA tB'):=by
 intro i J s Y H Q I h;show isTrue_and (bf (e J s Y H _ I h) λc g #[d,I1,q1]=>?_)
 cases c with
 |true=>show f i J g Y d Q I1 q1
 |false=>show#[d,I1,q1]
def FR (e:PT X a tA)(f:PW X (.BoolOp .Or (b::bW) pos) tB'):PW X (.BoolOp .Or (a::b::bW) pos) (JB tA tB'):=by
 intro i J s Y H Q I h;show isTrue_or (bf (e J s Y H _ I h) λc g #[d,I1,q1]=>?_)
 cases c with
 |true=>show#[d,I1,q1]
 |false=>show f i J g Y d Q I1 q1
def Du (d:PT X a tA):PT X (.UnaryOp .Not a pos) (Ij tA):=by
 intro J s Y H Q I h;show isTrue_not (bf (d J s Y H (λc b=>Q (!c) b) I h) λ_ _ #[b,i,q]=>#[b,i,q])
abbrev FU (ta tb:TE):TE:=λY H Q=>ta Y H λx a=>∃c,x=.bl c/\if c=true then tb Y a Q else Q (.bl false) a
abbrev Ik (ta tb:TE):TE:=λY H Q=>ta Y H λx a=>∃c,x=.bl c/\if c=true then Q (.bl true) a else tb Y a Q
abbrev FV (ta:TE):TE:=λY H Q=>ta Y H λx a=>∃c,x=.bl c/\Q (.bl (!c)) a
def Dv {op}{t:TE}(h:PE X a t):PE X (.BoolOp op [a] pos) t:=λJ s Y H Q I hw=>BoolOp_one (h J s Y H Q I hw)
def Dw (e:PE X a ta)(f:PE X (.BoolOp .And (b::bW) pos) tb):PE X (.BoolOp .And (a::b::bW) pos) (FU ta tb):=by
 intro J s Y H Q I h;show BoolOp_and (bf (e J s Y H _ I h) λv g #[x,H1,I1,r1,d]=>?_)
 obtain⟨c,rfl,d⟩:=d;cases r1;show L3 ?_;cases c with
 |true=>show f J g Y H1 Q I1 d
 |false=>show#[.bl false,H1,I1,rfl,d]
def FW (e:PE X a ta)(f:PE X (.BoolOp .Or (b::bW) pos) tb):PE X (.BoolOp .Or (a::b::bW) pos) (Ik ta tb):=by
 intro J s Y H Q I h;show BoolOp_or (bf (e J s Y H _ I h) λv g #[x,H1,I1,r1,d]=>?_)
 obtain⟨c,rfl,d⟩:=d;cases r1;show L3 ?_;cases c with
 |false=>show f J g Y H1 Q I1 d
 |true=>show#[.bl true,H1,I1,rfl,d]
def Dx (d:PE X a ta):PE X (.UnaryOp .Not a pos) (FV ta):=by
 intro J s Y H Q I h;show UnaryOp_ (bf (d J s Y H _ I h) λv e #[x,H1,I1,r1,b]=>?_)
 obtain⟨c,rfl,b⟩:=b;cases r1;show not_of (L3 #[.bl (!c),H1,I1,rfl,b])
end
abbrev SqL (K:Km)(H:Hp)(a:Kf)(xs:J2 V):Prop:=
 Rd H a (.lst xs)\/
  ∃(o:L5) (its:Lm J5) (n:Kb),K.lookup a=gV o/\o.cls=.type "list"/\o.dict=td/\o.data=.seq its n/\⇑its<=sizeLine/\Vals xs its.toList
abbrev SqT (K:Km)(H:Hp)(a:Kf)(xs:J2 V):Prop:=
 Rd H a (.tup xs)\/
  ∃(o:L5) (its:Lm J5) (n:Kb),K.lookup a=gV o/\o.cls=.type "tuple"/\o.dict=td/\o.data=.seq its n/\⇑its<=sizeLine/\Vals xs its.toList
abbrev Il:J5->J9 V
 |.none=>gV .non
 |.bool b=>gV (.bl b)
 |.int i _=>gV (.int i)
 |.str x _=>gV (.str x)
 |.bytes b _=>gV (.byt b)
 |.float b _=>gV (.flt b)
 |.ref a=>gV (.ref a)
 |.type n=>gV (.ty n)
 |_=>td
def RelV.abs {x:V}{u:J5}(r:RelV x u):Il u=gV x:=by
 cases x with
 |non=>cases r;rfl
 |bl _=>cases r;rfl
 |int _=>obtain⟨t,rfl⟩:=r;rfl
 |str _=>obtain⟨t,rfl⟩:=r;rfl
 |byt _=>obtain⟨t,rfl⟩:=r;rfl
 |flt _=>obtain⟨t,rfl⟩:=r;rfl
 |ref _=>cases r;rfl
 |ty _=>cases r;rfl
def RelV.inj {x y:V}{u:J5}(r:RelV x u)(q:RelV y u):x=y:=LJ (r.abs.symm.trans q.abs)
def Vals.inj:∀{xs ys:J2 V}{us:J2 J5},Vals xs us->Vals ys us->xs=ys
 |_,_,_,.nil,.nil=>rfl
 |_,_,_,.cons r t,.cons a t'=>by rw[r.inj a,Vals.inj t t']
section
variable{X:Cx}{J:J2 (Kf×L5)}{Y:St}{H:Hp}{s:J8}{a:Kf}{xs ys:J2 V}
def SqL.of {K:Km}(h:H a=gV (.lst xs)):SqL K H a xs:=.inl (.inl h)
def SqT.of {K:Km}(h:H a=gV (.tup xs)):SqT K H a xs:=.inl (.inl h)
def Inv.list (I:Inv X J Y H s)(h:SqL X.K H a xs):∃its:J2 J5,Vals xs its/\PlainL s.heap a its.toArray/\↥xs<=sizeLine:=by
 rcases h with h|⟨o,its,n,hk,hc,hd,b,c,r⟩
 ·obtain⟨z,its,n,r,e⟩:=h.ok I.hok;show#[its,r,#[_,n,e,rfl,rfl,rfl],z]
 ·show#[its.toList,r,#[o,n,I.kIn a o hk,hc,hd,by simpa using b],?_]
  have e:=↥r;simp only[K9]at e;omega
def Inv.tuple (I:Inv X J Y H s)(h:SqT X.K H a xs):∃its:J2 J5,Vals xs its/\Pw s.heap a its.toArray/\↥xs<=sizeLine:=by
 rcases h with h|⟨o,its,n,hk,hc,hd,b,c,r⟩
 ·obtain⟨z,its,r,p⟩:=h.ok I.hok;show#[its,r,p,z.1]
 ·show#[its.toList,r,#[o,I.kIn a o hk,hc,n,by simpa using b],?_]
  have e:=↥r;simp only[K9]at e;omega
def Inv.list_inj (I:Inv X J Y H s)(h:SqL X.K H a xs)(h':SqL X.K H a ys):xs=ys:=by
 obtain⟨its,r,⟨o,n,e,_,_,d⟩,_⟩:=I.list h;obtain⟨its',c,⟨g,f,b,_,_,d'⟩,_⟩:=I.list h';rw[e]at b;cases b
 rw[d]at d';injection d' with d1 _
 have:its=its':=by simpa using congrArg SE d1
 subst this;show r.inj c
def Inv.tuple_inj (I:Inv X J Y H s)(h:SqT X.K H a xs)(h':SqT X.K H a ys):xs=ys:=by
 obtain⟨its,r,⟨o,e,_,n,d⟩,_⟩:=I.tuple h;obtain⟨its',c,⟨g,b,_,f,d'⟩,_⟩:=I.tuple h';rw[e]at b;cases b
 rw[d]at d';injection d' with d1 _
 have:its=its':=by simpa using congrArg SE d1
 subst this;show r.inj c
end
noncomputable abbrev Cx.wish (X:Cx)(E:J5->J8->Prop):Cx:={X with xe:=E}
noncomputable abbrev Cx.nox (X:Cx):Cx:=X.wish λ_ _=>LM
def Cx.Ok.wish {X:Cx}(ok:X.Ok)(E:J5->J8->Prop):(X.wish E).Ok:=
 #[ok.mod,ok.kind,ok.glob,ok.blt,ok.above,ok.inj,ok.has,ok.cab,ok.hd,ok.frames,ok.stk,ok.exf,ok.bs,ok.bsz,ok.noex,ok.exfs,ok.funs,ok.frf]
def Cx.Ok.unwish {X:Cx}{E:J5->J8->Prop}(ok:(X.wish E).Ok):X.Ok:=
 #[ok.mod,ok.kind,ok.glob,ok.blt,ok.above,ok.inj,ok.has,ok.cab,ok.hd,ok.frames,ok.stk,ok.exf,ok.bs,ok.bsz,ok.noex,ok.exfs,ok.funs,ok.frf]
section
variable{X:Cx}{J:J2 (Kf×L5)}{Y:St}{H:Hp}{s:J8}{E:J5->J8->Prop}
def Inv.wish (I:Inv X J Y H s)(E:J5->J8->Prop):Inv (X.wish E) J Y H s:=#[I.ok.wish E,I.os,I.bare,I.base,I.loc,I.cell,I.free,I.freeC,I.pin,I.hok,I.len]
def Inv.unwish (I:Inv (X.wish E) J Y H s):Inv X J Y H s:=#[I.ok.unwish,I.os,I.bare,I.base,I.loc,I.cell,I.free,I.freeC,I.pin,I.hok,I.len]
def SP.unwish {D:Ends}{f:Flow}{c:J8}(h:SP (X.wish E) J D f c):SP X J D f c:=by
 cases f with
 |next=>obtain⟨b,a,I,q⟩:=h;show#[b,a,I.unwish,q]
 |brk=>obtain⟨b,a,I,q⟩:=h;show#[b,a,I.unwish,q]
 |cont=>obtain⟨b,a,I,q⟩:=h;show#[b,a,I.unwish,q]
 |ret u=>obtain⟨v,b,a,I,r,q⟩:=h;show#[v,b,a,I.unwish,r,q]
def PSs.nox {st:J2 Nb}{t:TS}(h:PSs X.nox st t):PSs X st t:=λJ s Y H D I hw=>
 Mj (h J s Y H D (I.wish _) hw) (λ_ _ q=>q.unwish) λ_ _ z=>LM.elim z
end
section
variable{X:Cx}{st:Nb}{bW:J2 Nb}{t u:TS}{e:KO}{te:TE}{pos:MN}
abbrev wq:TS:=λD Y H=>D.nx Y H
abbrev Im (t u:TS):TS:=λD Y H=>t {D with nx:=u D} Y H
def Ae:PSs X [] wq:=λ_ _ Y H _ I h=>Px #[Y,H,I,h]
def wt (d:PS X st t)(e:PSs X bW u):PSs X (st::bW) (Im t u):=by
 intro J s Y H D I h;show wpAny_execs_cons (bf (d J s Y H {D with nx:=u D} I h) λf g q=>?_)
 cases f with
 |next=>
  obtain⟨c,a,b,q⟩:=q;show e J g c a D b q
 |ret v=>show q
 |brk=>show q
 |cont=>show q
abbrev Dy:TS:=λD Y H=>D.bk Y H
abbrev FX:TS:=λD Y H=>D.ct Y H
def Ag:PS X (.Pass pos) wq:=λ_ _ Y H _ I h=>wpAny_Pass #[Y,H,I,h]
def wu:PS X (.Break pos) Dy:=λ_ _ Y H _ I h=>wpAny_Break #[Y,H,I,h]
def oU:PS X (.Continue pos) FX:=λ_ _ Y H _ I h=>wpAny_Continue #[Y,H,I,h]
def Inv.quiet {J:J2 (Kf×L5)}{Y:St}{H:Hp}{s:J8}(I:Inv X J Y H s):interactive X.env=false:=by simp[interactive,I.ok.kind]
def Dz {x j pos pos'}:PS X (.Expr (.Constant (.str x) j pos) pos') wq:=λ_ s Y H _ I h=>wpAny_Expr (Qv (show SP X _ _ .next {s with toks:=s.toks+1} from#[Y,H,I.tok _,h])) I.quiet
abbrev FY (te:TE):TS:=λD Y H=>te Y H λ_ a=>D.nx Y a
def Ah (a:PE X e te)(b:swapsWith e td pos.line X.env=pure false:=by rfl):PS X (.Expr e pos) (FY te):=by
 intro J s Y H D I h;show wpAny_Expr_any (bf (a J s Y H _ I h) λv c #[x,H1,I1,r1,q1]=>#[Y,H1,I1,q1]) I.quiet b
abbrev Io (te:TE):TS:=λD Y H=>te Y H D.rt
def DA (a:PE X e te):PS X (.Return (gV e) pos) (Io te):=by
 intro J s Y H D I h;show wpAny_Return_some (bf (a J s Y H _ I h) λv b #[x,H1,I1,r1,q1]=>#[x,Y,H1,I1,r1,q1])
abbrev FZ:TS:=λD _ H=>D.rt .non H
def Ai:PS X (.Return td pos) FZ:=λ_ _ Y H _ I h=>wpAny_Return_none #[.non,Y,H,I,rfl,h]
abbrev Ip (c:TT)(t u:TS):TS:=λD Y H=>c Y H λb a=>if b=true then t D Y a else u D Y a
def F0 {c:KO}{a b:J2 Nb}{g:TT}(hc:PT X c g)(i:PSs X a t)(j:PSs X b u):PS X (.If c a b pos) (Ip g t u):=by
 intro J s Y H D I h;show wpAny_If (bf (hc J s Y H _ I h) λd f #[e,I1,q1]=>?_)
 cases d with
 |true=>show i J f Y e D I1 q1
 |false=>show j J f Y e D I1 q1
end
noncomputable abbrev TG:=V->St->Hp->(St->Hp->Prop)->Prop
noncomputable abbrev DB:=J2 V->St->Hp->(St->Hp->Prop)->Prop
abbrev PG (X:Cx)(a:KO)(t:TG):Prop:=
 ∀(J:J2 (Kf×L5)) (s:J8) (Y:St) (H:Hp) (v:V) (u:J5) (Q:St->Hp->Prop),Inv X J Y H s->RelV v u->t v Y H Q->
  wpAny (model X.prog X.w) X.A (assign a X.env u) (λ_ d=>∃c b,Inv X J c b d/\Q c b) X.xe s
abbrev F1 (X:Cx)(ts:J2 KO)(t:DB):Prop:=
 ∀(J:J2 (Kf×L5)) (s:J8) (Y:St) (H:Hp) (vs:J2 V) (us:J2 J5) (Q:St->Hp->Prop),Inv X J Y H s->Vals vs us->t vs Y H Q->
  wpAny (model X.prog X.w) X.A (assignInOrder ((assignEach ts X.env).map (·.2)) us) (λ_ c=>∃b a,Inv X J b a c/\Q b a) X.xe s
noncomputable abbrev DC:=V->V->V->Hp->(Hp->Prop)->Prop
abbrev DD (X:Cx)(t:DC):Prop:=
 ∀(J:J2 (Kf×L5)) (s:J8) (Y:St) (H:Hp) (o i v:V) (ov iv u:J5) (Q:Hp->Prop),Inv X J Y H s->RelV o ov->RelV i iv->RelV v u->t o i v H Q->
  wpAny (model X.prog X.w) X.A (setItem ov iv u) (λ_ b=>∃a,Inv X J Y a b/\Q a) X.xe s
section
variable{X:Cx}{pos:MN}
abbrev F2 (i:Kb):TG:=λv Y H Q=>Q (Y.set i (gV v)) H
def sJ {i:Kb}{x:KG}(b:X.N.Nodup)(hi:X.N[i]?=gV x)(d:Ab X.env.scope x)(c:X.fn x=true\/X.env.scope.names.lookup x=gV .local):PG X (.Name x pos) (F2 i):=by
 intro J s Y H v u Q I r h;show QQ (iq I b hi d r (λe a=>#[_,H,a,h]) c)
abbrev Iq:DB:=λvs Y H Q=>vs=[]/\Q Y H
abbrev F3 (t:TG)(u:DB):DB:=λvs Y H Q=>∃v r,vs=v::r/\t v Y H λb a=>u r b a Q
def Aj:F1 X [] Iq:=by
 intro J s Y H vs us Q I r h;obtain⟨e,h⟩:=h;subst e;cases r;show QR #[Y,H,I,h]
def ww {e:KO}{es:J2 KO}{t:TG}{u:DB}(c:PG X e t)(d:F1 X es u)
  (f:(assignEach (e::es) X.env).map (·.2)=assign e X.env::(assignEach es X.env).map (·.2):=by rfl):F1 X (e::es) (F3 t u):=by
 intro J s Y H vs us Q I r h;obtain⟨v,j,b,h⟩:=h;subst b;cases r with
 |cons r g=>
  rw[f];show Ow (bf (c J s Y H _ _ _ I r h) λ_ i #[a,H1,I1,q1]=>?_)
  show d J i a H1 _ _ Q I1 g q1
abbrev Ir (K:Km)(n:Kb)(t:DB):TG:=λv Y H Q=>∃a xs,v=.ref a/\SqT K H a xs/\↥xs=n/\t xs Y H Q
def DE {es:J2 KO}{k:Kb}{t:DB}{n:Kb}(hc:X.calm=true)(h:F1 X es t)
  (i:(assignEach es X.env).length=n:=by rfl) (c:(assignEach es X.env).findIdx? (·.1)=td:=by rfl):PG X (.Tuple es k pos) (Ir X.K n t):=by
 intro J s Y H v u Q I r hw;obtain⟨a,xs,g,j,hl,hw⟩:=hw;subst g;cases r;obtain⟨its,d,l,p⟩:=I.tuple j;show assign_Tuple_tuple (I.ok.hd hc) l (by simp[i,<- hl,↥d]) c λh' m=>?_
 have f:Inv X J Y H {s with heap:=h'}:=I.kept (t':=s.toks) λb o e=>m b o (KF (Kx e)) e
 show h J _ Y H xs _ Q f (by simpa using d) hw
abbrev Iu (to d:TE)(t:DC):TG:=λv Y H Q=>to Y H λo a=>d Y a λi b=>t o i v b λc=>Q Y c
def DF {o i:KO}{to c:TE}{t:DC}(f:PE X o to)(hi:PE X i c)(g:DD X t)
  (e:∀v,assign (.Subscript o i pos) X.env v=(do
   let a <- holding [v] (eval o X.env)
   let b <- holding [v,a] (eval i X.env)
   standAt pos
   holding [v,a,b] (setItem a b v)
   release [v,a,b] []):=by intro _;rfl):PG X (.Subscript o i pos) (Iu to c t):=by
 intro J s Y H v u Q I r h;rw[e];show J3 (LN (bf (f J s Y H _ I h) λa j #[x,H1,I1,r1,q1]=>?_))
 show J3 (LN (bf (hi J j Y H1 _ I1 q1) λb k #[y,H2,I2,r2,q2]=>?_))
 show J3 (Oh (J3 (LN (bf (g J k Y H2 x y v a b u _ I2 r1 r2 r q2) λ_ l #[d,I3,q3]=>?_))))
 show wpAny_release #[Y,d,I3,q3]
abbrev Iv (b:TE)(g:TG):TS:=λD Y H=>b Y H λx a=>g x Y a D.nx
def DH {tg e:KO}{a:TE}{g:TG}(c:PE X e a)(d:PG X tg g)(f:swapsWithSole [tg] e pos.line X.env=pure false:=by rfl)(hw:swappedStores [tg] e X.env=pure td:=by rfl)
  (b:(assignEach [tg] X.env).map (·.2)=[assign tg X.env]:=by rfl):PS X (.Assign [tg] e pos) (Iv a g):=by
 intro J s Y H D I h;show wpAny_Assign_stores (bf (c J s Y H _ I h) λv i #[x,H1,I1,r1,q1]=>?_) f hw
 rw[b];show bf (d J i Y H1 x v _ I1 r1 q1) λ_ j q=>q
abbrev Iw (i j:Kb)(b:TA):TS:=λD Y H=>b Y H λvs a=>∃v w,vs=[v,w]/\D.nx ((Y.set i (gV v)).set j (gV w)) a
def DI {i j:Kb}{x y:KG}{a b:KO}{A:TA}{l py pt:MN}{kt k2 pt2}(hc:X.calm=true)(t:X.N.Nodup)(hi:X.N[i]?=gV x)(M:X.N[j]?=gV y)(g:i≠j)
  (u:X.env.scope.names.lookup x=gV .local) (z:X.env.scope.names.lookup y=gV .local) (L:PA X [a,b] A)
  (hw:swappedStores [.Tuple [.Name x l,.Name y py] kt pt] (.Tuple [a,b] k2 pt2) X.env=pure (gV [x,y]))
  (N:swapsWithSole [.Tuple [.Name x l,.Name y py] kt pt] (.Tuple [a,b] k2 pt2) pos.line X.env=pure false:=by rfl) :
  PS X (.Assign [.Tuple [.Name x l,.Name y py] kt pt] (.Tuple [a,b] k2 pt2) pos) (Iw i j A):=by
 intro J s Y H D I h;rw[exec_Assign_arm];show J3 (Oh ?_);rw[N];show J3 (Kd ?_);rw[KS #v[]]
 show J3 (Tuple_ (bf (L _ J s Y H _ I h) λus c #[vs,H1,I1,r1,m]=>?_))
 obtain⟨v,w,G,m⟩:=m;subst G;obtain⟨d,f,rfl,Q,n⟩:∃d f,us=[d,f]/\RelV v d/\RelV w f:=by
  cases r1 with
  |cons p q=>
   cases q with
   |cons O P=>
    cases P;show#[_,_,rfl,p,O]
 show Ly ?_ (by change 2<=sizeLine;decide)
 have B:Inv X J Y H1 {c with heap:=c.heap.push {cls:=.type "tuple",data:=.seq [d,f].toArray}}:=I1.kept (t':=c.toks) λb o e=>J7 _ e
 rw[hw];show J3 (Kd ?_);change wpAny (model X.prog X.w) X.A (do rule "assign.swapped-stores";let items <- unpackItems (.ref ⇑c.heap.objs) 2 td;assignInOrder [λv=>bindName X.env y v,λv=>bindName X.env x v] items.reverse;pure TD) _ _ _
 show J3 (Ox (J3 (unpackItems_tuple (items:=[d,f].toArray) (I.ok.hd hc) (Ri c.heap _) λh' k=>?_)))
 have C:=B.kept (h':=h') (t':=c.toks) λb o e=>k b o (KF (Kx e)) e
 change wpAny _ _ (assignInOrder [λv=>bindName X.env y v,λv=>bindName X.env x v] [f,d] >>= λ_=>pure TD) _ _ _
 show J3 (Ow (RO (iq C t M (.inl z) n (λR E=>?_) (.inr z))))
 show Ow (RO (iq E t hi (.inl u) Q (λS r=>QR (Kd ?_)) (.inr u)))
 rw[List.set_comm _ _ (Ne.symm g)]at r;show#[_,H1,r,m]
abbrev DJ (c:TT)(g:TS):TS:=λD Y H=>∃W:Kb->St->Hp->Prop,(∃m,W m Y H)/\∀m Y H,W m Y H->
 c Y H λb d=>if b=true then ∃N:St->Hp->Prop,(∀e a,N e a->∃f,f<m/\W f e a)/\g {D with nx:=N,ct:=N,bk:=D.nx} Y d else D.nx Y d
def wx {c:KO}{body:J2 Nb}{w:TT}{u:TS}(t:Qe (model X.prog X.w) X.A X.env X.xe)(hc:PT X c w)(y:PSs X body u):PS X (.While c body [] pos) (DJ w u):=by
 intro J s Y H D I h;obtain⟨W,⟨m0,C⟩,turn⟩:=h;show wpAny_While (codeAny_whileLoop (λn z=>∃q m,Inv X J q m z/\W n q m) ?_ m0 #[Y,H,I,C])
 rintro n A ⟨e,o,x,E⟩;show M0 t (bf (hc J A e o _ x (turn n e o E)) λb B #[p,I2,g]=>?_)
 cases b with
 |true=>
  obtain⟨N,r,g⟩:=g;rw[KC rfl];show M0 t (bf (y J B e p _ I2 g) λf G i=>?_)
  cases f with
  |next=>
   obtain⟨d,a,j,n3⟩:=i;obtain⟨l,k,w3⟩:=r d a n3;show#[l,k,d,a,j,w3]
  |cont=>
   obtain⟨d,a,j,n3⟩:=i;obtain⟨l,k,w3⟩:=r d a n3;show#[l,k,d,a,j,w3]
  |brk=>show i
  |ret v=>show i
 |false=>
  rw[KS KJ];show Px #[e,p,I2,g]
end
structure It where
 go:Kb->Hp->Prop
 yld:Kb->Hp->V->Hp->Prop
 stop:Kb->Hp->Prop
abbrev i7 (X:Cx)(J:J2 (Kf×L5))(H:Hp)(b:Kf):Prop:=
 H b=td/\b≠X.env.locals/\b∉X.fs/\(b∈X.ex\/⇑X.s₀.heap.objs<=b)/\(∀x c,X.env.cells.lookup x=gV c->c≠b)/\∀p∈X.pn++J,p.1≠b
def Inv.fpOk {X:Cx}{J:J2 (Kf×L5)}{Y:St}{H d:Hp}{s:J8}{b:Kf}(I:Inv X J Y H s)(a:⇑s.heap.objs<=b)(f:d b=td):i7 X J d b:=by
 show#[f,LU (Kw I.lt a),I.nofs a,.inr (Lq I.sz a),λx c e z=>?_,λp g z=>?_]
 ·obtain⟨v,q⟩:=I.cell x c e;show absurd (Kw q.lt (by rw[z];show a)) (LZ _)
 ·show absurd (Kw (Kx (I.pin p g).1) (by rw[z];show a)) (LZ _)
structure Turn (P:KQ)(w:K8)(K:Km)(tg:KO)(tx:It)(fp:J2 Kf)(it:Kf)(tn:Kb->Lh->Prop):Prop where
 mem:it∈fp
 obj:∀i h,tn i h->∀b∈fp,∃o,h.get? b=gV o/\∀v,o.data≠.cell v
 keep:∀i h h',tn i h->(∀b∈fp,∀o,h.get? b=gV o->h'.get? b=gV o)->tn i h'
 item:∀(X:Cx),X.prog=P->X.w=w->X.K=K->X.calm=true->∀(i:Kb) (J:J2 (Kf×L5)) (s:J8) (Y:St) (H:Hp) (E:J5->J8->Prop),Inv X J Y H s->(∀b∈fp,i7 X J H b)->tn i s.heap->tx.go i H->
  wpAny (model P w) X.A (pyNext (.ref it)) (λr s1=>∃u,r=gV u/\
   wpAny (model P w) X.A (letOwnedTupleGo tg (.ref it) u) (λ_ s2=>∃x H',Inv X J Y H' s2/\RelV x u/\tx.yld i H x H'/\tn (i+1) s2.heap/\∀b∈fp,H' b=td) E s1) E s
 done:∀(X:Cx),X.prog=P->X.w=w->X.K=K->X.calm=true->∀(i:Kb) (J:J2 (Kf×L5)) (s:J8) (Y:St) (H:Hp) (E:J5->J8->Prop),Inv X J Y H s->(∀b∈fp,i7 X J H b)->tn i s.heap->tx.stop i H->
  wpAny (model P w) X.A (pyNext (.ref it)) (λr s1=>r=td/\Inv X J Y H s1) E s
 self:∀(A:KZ) (i:Kb) (s:J8) (Q:J5->J8->Prop) (E:J5->J8->Prop),tn i s.heap->Q (.ref it) s->wpAny (model P w) A (pyIter (.ref it)) Q E s
noncomputable abbrev TI:=St->Hp->(It->Hp->Prop)->Prop
abbrev HS (X:Cx)(J:J2 (Kf×L5))(Y:St)(tg:KO)(R:It->Hp->Prop)(a:J5)(d:J8):Prop:=
 ∃(it:Kf) (c:J2 Kf) (tn:Kb->Lh->Prop) (tx:It) (H':Hp),a=.ref it/\Inv X J Y H' d/\Turn X.prog X.w X.K tg tx c it tn/\tn 0 d.heap/\(∀b∈c,i7 X J H' b)/\R tx H'
abbrev PI (X:Cx)(tg iter:KO)(b:TI):Prop:=
 ∀(J:J2 (Kf×L5)) (s:J8) (Y:St) (H:Hp) (R:It->Hp->Prop),Inv X J Y H s->b Y H R->
  wpAny (model X.prog X.w) X.A (eval iter X.env) (λv a=>wpAny (model X.prog X.w) X.A (pyIter v) (HS X J Y tg R) X.xe a) X.xe s
def sK {a:Tv}{A:KZ}{E:J5->J8->Prop}{s:J8}{tg:KO}{it:Kf}{u:J5}{o:L5}{n:LV}{vs:Lm J5}{Q:Unit->J8->Prop}(d:s.heap.get? it=gV o)(hc:o.cls=.type n)(hd:o.data=.fields vs)
    (c:["enumerate","zip","dict_itemiterator","dict_reverseitemiterator","odict_iterator","itertools.zip_longest","itertools.pairwise"].contains n=false) (b:Q () s):wpAny a A (letOwnedTupleGo tg (.ref it) u) Q E s:=by
  unfold letOwnedTupleGo;cases tg<;>first
    |show Kd b
    |(cases u<;>first
        |show Kd b
        | (show J3 (Qw d ?_)
           rw[hc,hd];change wpAny a A (if (["enumerate","zip","dict_itemiterator","dict_reverseitemiterator","odict_iterator","itertools.zip_longest","itertools.pairwise"].contains n&&vs[0]?==gV (rawInt _))=true then _ else _) Q E s
           rw[KS (by intro h;rw[c,Bool.false_and]at h;cases h)]
           show Kd b))
abbrev Ix (K:Km)(a:Kf):It:=
 #[λi H=>∃xs x,SqL K H a xs/\xs[i]?=gV x,λi H x b=>b=H/\∀xs,SqL K H a xs->xs[i]?=gV x,λi H=>∃xs,SqL K H a xs/\↥xs<=i]
abbrev FB (K:Km)(a:Kf):It:=
 #[λi H=>∃xs x,SqT K H a xs/\xs[i]?=gV x,λi H x b=>b=H/\∀xs,SqT K H a xs->xs[i]?=gV x,λi H=>∃xs,SqT K H a xs/\↥xs<=i]
abbrev F4 (lo:Ki)(n:Kb):It:=#[λi _=>i<n,λi H x a=>a=H/\x=.int (lo+i),λi _=>n<=i]
def uQ {P:KQ}{w:K8}{K:Km}{tg:KO}(a it:Kf):Turn P w K tg (Ix K a) [it] it (λi h=>h.IsListIter it a i) where
 mem:=by simp
 obj:=λi h st b f=>by
  have e:b=it:=by simpa using f
  subst e;obtain⟨o,e,c,d⟩:=st;show#[o,e,λv z=>by rw[d]at z;cases z]
 keep:=λi h h' st k=>st.at λo e=>k it (by simp) o e
 item:=by
  intro X y hw hK hc i J s Y H E I j st A;subst y hw hK;obtain⟨xs,x,l,B⟩:=A;obtain⟨its,C,p,O⟩:=I.list l;obtain⟨u,M,Q⟩:=C.get B;obtain⟨m,n,L,q,r,t⟩:=j it (by simp)
  show Pg st p.isList (x:=u) (by simpa using M) λh' g R=>?_
  have D:Inv X J Y H {s with heap:=h'}:=I.turned (t':=s.toks) (λb o f e=>(R.2 b f).trans e) m n q r t
  obtain⟨o,e,c,d⟩:=id g;show#[u,rfl,sK (s:={s with heap:=h'}) e c d #v[] #[x,H,D,Q,#[rfl,λys N=>by rw[I.list_inj N l];show B],g,λb f=>(j b f).1]]
 done:=by
  intro X y hw hK hc i J s Y H E I j st A;subst y hw hK;obtain⟨xs,l,B⟩:=A;obtain⟨its,C,p,O⟩:=I.list l;obtain⟨m,n,L,q,r,t⟩:=j it (by simp)
  have hl:=↥C;show PN (I.ok.hd hc) st p.isList (by simp;omega) λh' G=>#[rfl,I.turned (t':=s.toks) (λb o f e=>G b o f e) m n q r t]
 self:=λ_ _ _ _ _ st h=>wpAny_pyIter_listiter st h
def qX {P:KQ}{w:K8}{K:Km}{tg:KO}(a it:Kf):Turn P w K tg (FB K a) [it] it (λi h=>h.IsTupleIter it a i) where
 mem:=by simp
 obj:=λi h st b f=>by
  have e:b=it:=by simpa using f
  subst e;obtain⟨o,e,c,d⟩:=st;show#[o,e,λv z=>by rw[d]at z;cases z]
 keep:=λi h h' st k=>st.at λo e=>k it (by simp) o e
 item:=by
  intro X y hw hK hc i J s Y H E I j st A;subst y hw hK;obtain⟨xs,x,l,B⟩:=A;obtain⟨its,C,p,O⟩:=I.tuple l;obtain⟨u,M,Q⟩:=C.get B;obtain⟨m,n,L,q,r,t⟩:=j it (by simp)
  show wpAny_pyNext_tuple_item st (show s.heap.IsTuple a its.toArray from p) (x:=u) (by simpa using M) λh' g R=>?_
  have D:Inv X J Y H {s with heap:=h'}:=I.turned (t':=s.toks) (λb o f e=>(R.2 b f).trans e) m n q r t
  obtain⟨o,e,c,d⟩:=id g;show#[u,rfl,sK (s:={s with heap:=h'}) e c d #v[] #[x,H,D,Q,#[rfl,λys N=>by rw[I.tuple_inj N l];show B],g,λb f=>(j b f).1]]
 done:=by
  intro X y hw hK hc i J s Y H E I j st A;subst y hw hK;obtain⟨xs,l,B⟩:=A;obtain⟨its,C,p,O⟩:=I.tuple l;obtain⟨m,n,L,q,r,t⟩:=j it (by simp)
  have hl:=↥C;show wpAny_pyNext_tuple_end (I.ok.hd hc) st (show s.heap.IsTuple a its.toArray from p) (by simp;omega) λh' G=>#[rfl,I.turned (t':=s.toks) (λb o f e=>G b o f e) m n q r t]
 self:=λ_ _ _ _ _ st h=>wpAny_pyIter_tupleiter st h
def qY {P:KQ}{w:K8}{K:Km}{tg:KO}(it:Kf)(lo:Ki)(n:Kb):Turn P w K tg (F4 lo n) [it] it (λi h=>SU h it (lo+(i:Kb)*1) ((n:Ki)-(i:Kb)) 1) where
 mem:=by simp
 obj:=λi h st b a=>by
  have e:b=it:=by simpa using a
  subst e;show#[_,st,λv z=>by
   have B:Data.fields _=Data.cell v:=z;cases B]
 keep:=λi h h' st k=>k it (by simp) _ st
 item:=by
  intro X p hw hK hc i J s Y H E I d st q;subst p hw hK;obtain⟨f,g,x,j,l,m⟩:=d it (by simp)
  have W:=Walks.range (prog:=X.prog) (w:=X.w) (I.ok.hd hc) it lo 1 n;show W.item i s _ _ q st λv h' tk y c A=>?_
  obtain⟨t,rfl⟩:=y;have r:Inv X J Y H {s with heap:=h',toks:=tk}:=I.turned (λb o a e=>A b o (by simpa using a) e) f g j l m
  show#[_,rfl,sK (s:={s with heap:=h',toks:=tk}) (n:="range_iterator") c rfl rfl #v[] #[.int (lo+i),H,r,#[t,?_],#[rfl,rfl],c,λb a=>(d b a).1]]
  rw[Int.mul_one]
 done:=by
  intro X p hw hK hc i J s Y H E I d st q;subst p hw hK;obtain⟨f,g,x,j,l,m⟩:=d it (by simp)
  show wpAny_pyNext_range_end (I.ok.hd hc) st (by have:n<=i:=q;omega) λh' u=>#[rfl,I.turned (t':=s.toks) (λb o a e=>u b o a e) f g j l m]
 self:=λ_ _ _ _ _ st h=>wpAny_pyIter_rangeiter st h
section
variable{X:Cx}{tg:KO}
def oV {J:J2 (Kf×L5)}{Y:St}{H:Hp}{s:J8}{R:It->Hp->Prop}{E:J5->J8->Prop}{lo hi:Ki}{t u v:Tn}{tk:Kb}(I:Inv X J Y H s)(f : -(2^62)<=lo)(g:lo<2^62)(h : -(2^62)<=hi)(i:hi<2^62)
  (q:R (F4 lo (hi-lo).toNat) H):wpAny (model X.prog X.w) X.A (pyIter (.ref ⇑s.heap.objs)) (HS X J Y tg R) E {s with heap:=s.heap.push {cls:=.type "range",data:=.fields [.int lo t,.int hi u,.int 1 v].toArray},toks:=tk}:=by
 show wpAny_pyIter_range (IsRange.new ..) (SA f g h i) ?_;have a:Inv X J Y H {s with heap:=s.heap.push {cls:=.type "range",data:=.fields [.int lo t,.int hi u,.int 1 v].toArray},toks:=tk}:=I.kept λb o e=>J7 _ e
 show#[(s.heap.push {cls:=.type "range",data:=.fields [.int lo t,.int hi u,.int 1 v].toArray}).objs.size,[(s.heap.push {cls:=.type "range",data:=.fields [.int lo t,.int hi u,.int 1 v].toArray}).objs.size],_,_,H,rfl,
  a.kept (t':=tk) λb o e=>J7 _ e,qY _ lo (hi-lo).toNat,?_,λb j=>?_,q]
 ·have c:lo+((0:Kb):Ki)*1=lo:=by simp
  have d:(((hi-lo).toNat:Kb):Ki)-((0:Kb):Ki)=Ms lo hi 1:=by rw[Qn];split<;>omega
  change SU _ _ (lo+((0:Kb):Ki)*1) ((((hi-lo).toNat:Kb):Ki)-((0:Kb):Ki)) 1;rw[c,d];show Kr _ rfl
 ·have e:b=(s.heap.push {cls:=.type "range",data:=.fields [.int lo t,.int hi u,.int 1 v].toArray}).objs.size:=by simpa using j
  subst e;show a.fpOk (Kl _) (a.hok.fresh (Kl _))
abbrev F5 (b:TA):TI:=λY H R=>b Y H λvs a=>∃j:Ki,vs=[.int j]/\-(2^62)<=j/\j<2^62/\R (F4 0 j.toNat) a
abbrev iRng2 (b:TA):TI:=λY H R=>b Y H λvs a=>∃i j:Ki,vs=[.int i,.int j]/\(-(2^62)<=i/\i<2^62/\-(2^62)<=j/\j<2^62)/\R (F4 i (j-i).toNat) a
def uR {a:KO}{c:TA}{p pos:MN}(f:Gl X "range")(g:X.mg "range" = td)(d:PA X [a] c)(i:starEach [a] X.env=[(false,eval a X.env)]:=by rfl):PI X tg (.Call (.Name "range" p) [a] [] pos) (F5 c):=by
 intro J s Y H R I h;show SC (eB I f g boot_range (LC (bf (d pos J s Y H _ I h) λus m #[vs,H1,I1,r1,b]=>?_) i rfl))
 obtain⟨j,e,b,k,q⟩:=b;subst e;cases r1 with
 |cons r l=>
  cases l;obtain⟨t,rfl⟩:=r;show SF (oV I1 ∅ ∅ b k (by simpa using q))
def uS {a b:KO}{g:TA}{p pos:MN}(l:Gl X "range")(m:X.mg "range" = td)(k:PA X [a,b] g)(n:starEach [a,b] X.env=[(false,eval a X.env),(false,eval b X.env)]:=by rfl)(c:starEach [b] X.env=[(false,eval b X.env)]:=by rfl) :
  PI X tg (.Call (.Name "range" p) [a,b] [] pos) (iRng2 g):=by
 intro J s Y H R I h;show SC (eB I l m boot_range (LC (bf (k pos J s Y H _ I h) λus x #[vs,H1,I1,r1,d]=>?_) (by rw[n,c]) (by rw[c];rfl)))
 obtain⟨i,j,e,⟨d,o,u,v⟩,q⟩:=d;subst e;cases r1 with
 |cons r f=>
  cases f with
  |cons w f=>
   cases f;obtain⟨t,rfl⟩:=r;obtain⟨t',rfl⟩:=w;show call_range_2 (oV I1 d o u v q)
abbrev Iy (k:TI)(g:TG)(j:TS):TS:=λD Y H=>k Y H λb e=>∃W:Kb->Kb->St->Hp->Prop,(∃m,W 0 m Y e)/\∀i m Y H,W i m Y H->
 (b.stop i H/\D.nx Y H)\/(b.go i H/\∃N:St->Hp->Prop,(∀c a,N c a->∃d,d<m/\W (i+1) d c a)/\∀x a,b.yld i H x a->g x Y a λh f=>j {D with nx:=N,ct:=N,bk:=D.nx} h f)
abbrev i8 (a:J2 Kf)(h:Lh):J2 (Kf×L5):=a.filterMap λb=>(h.get? b).map λo=>(b,o)
def eV {a:J2 Kf}{h:Lh}{b:Kf}{o:L5}(c:b∈a)(e:h.get? b=gV o):(b,o)∈i8 a h:=Ou.mpr #[b,c,by rw[e];rfl]
def uT {a:J2 Kf}{h:Lh}{p:Kf×L5}(f:p∈i8 a h):p.1∈a/\h.get? p.1=gV p.2:=by
 obtain⟨b,d,e⟩:=Ou.mp f;cases q:h.get? b with
 |none=>rw[q]at e;cases e
 |some o=>
  rw[q]at e;have c:(b,o)=p:=LJ e;subst c;show#[d,q]
def Inv.pinned {J:J2 (Kf×L5)}{Y:St}{H:Hp}{s:J8}{a:J2 Kf}(I:Inv X J Y H s)(j:∀b∈a,i7 X J H b)(k:∀b∈a,∃o,s.heap.get? b=gV o/\∀v,o.data≠.cell v):Inv X (J++i8 a s.heap) Y H s:=
 I.pins_of λp l=>(La.mp l).elim (λz=>I.pin p (KW _ z)) λz=>by
  obtain⟨f,e⟩:=uT z;obtain⟨g,h,i,_⟩:=j p.1 f;obtain⟨o,c,d⟩:=k p.1 f;rw[e]at c;cases c
  show#[e,g,h,i,d]
def Inv.unpinned {J b:J2 (Kf×L5)}{Y:St}{H:Hp}{s:J8}(I:Inv X (J++b) Y H s):Inv X J Y H s:=I.pins_of λp a=>I.pin p (KW _ (Lo _ a))
def DK {iter:KO}{body:J2 Nb}{wi:TI}{g:TG}{V:TS}{pos:MN}(A:Qe (model X.prog X.w) X.A X.env X.xe)(hc:X.calm=true)(hi:PI X tg iter wi)(hg:PG X tg g)(k:PSs X body V)
  (hs:∀x,foldedSetIterable iter X.env x=pure x:=by intro _;rfl):PS X (.For tg iter body [] pos) (Iy wi g V):=by
 intro J s Y H D I h;show wpAny_For (bf (hi J s Y H _ I h) λv s1 h1=>bf h1 λitv s2 h2=>?_) hs
 obtain⟨it,y,Z,tx,H2,e,I2,T,aR,Q,W,⟨m0,w0⟩,turn⟩:=h2;subst e;have l:∀{p:Hp},(∀b∈y,p b=td)->∀b∈y,i7 X J p b:=λhn b k=>#[hn b k,(Q b k).2]
 show codeAny_forLoop_any (λn R=>∃i t p,Inv X J t p R/\Z i R.heap/\(∀b∈y,p b=td)/\W i n t p) ?_ m0 #[0,Y,H2,I2,aR,λb k=>(Q b k).1,w0]
 rintro n S ⟨i,w,G,P,C,z,w3⟩;rcases turn i n w G w3 with⟨E,qn⟩|⟨go,N,hN,step⟩
 ·show M0 A (bf (T.done X rfl rfl rfl hc i J S w G X.xe P (l z) C E) λr s4 #[M,I4]=>?_)
  subst M;show Px #[w,G,I4,qn]
 ·show M0 A (bf (T.item X rfl rfl rfl hc i J S w G X.xe P (l z) C go) λr s4 #[u,M,h4]=>?_)
  subst M;show M0 A (bf h4 λ_ U #[x,H5,I5,r5,y5,st5,fr5]=>?_)
  have L:=I5.pinned (l fr5) (T.obj _ _ st5);show M0 A (bf (hg _ U w H5 x u _ L r5 (step x H5 y5)) λ_ s6 #[Y6,H6,I6,q6]=>?_)
  show M0 A (bf (k _ s6 Y6 H6 _ I6 q6) λf O q=>?_)
  have again:∀{j:St}{a:Hp},Inv X (J++i8 y U.heap) j a O->N j a->∃m,m<n/\∃i t p,Inv X J t p O/\Z i O.heap/\(∀b∈y,p b=td)/\W i m t p:=λ{j a} c B=>by
   obtain⟨m',hm,w7⟩:=hN j a B;show#[m',hm,i+1,j,a,c.unpinned,T.keep _ _ _ st5 λb k o e=>(c.pin (b,o) (KW _ (KW _ (eV k e)))).1,λb k=>?_,w7]
   obtain⟨o,e,d⟩:=T.obj _ _ st5 b k;show(c.pin (b,o) (KW _ (KW _ (eV k e)))).2.1
  cases f with
  |next=>obtain⟨j,a,c,B⟩:=q;show again c B
  |cont=>obtain⟨j,a,c,B⟩:=q;show again c B
  |brk=>obtain⟨j,a,c,q⟩:=q;show#[j,a,c.unpinned,q]
  |ret v=>obtain⟨x7,j,a,c,r7,q⟩:=q;show#[x7,j,a,c.unpinned,r7,q]
end
def for_tup {K:Km}{a:Kf}{xs:J2 V}{g:TG}{l:TS}{D:Ends}{Y:St}{H:Hp}(b:Kb->St->Hp->Prop)(n:b 0 Y H)(hl:∀i Y H,i<=↥xs->b i Y H->SqT K H a xs)
  (o:∀i x Y H,xs[i]?=gV x->b i Y H->g x Y H λj f=>l {D with nx:=b (i+1),ct:=b (i+1),bk:=D.nx} j f) (hd:∀Y H,b ↥xs Y H->D.nx Y H) :
  ∃W:Kb->Kb->St->Hp->Prop,(∃m,W 0 m Y H)/\∀i m Y H,W i m Y H->
   ((FB K a).stop i H/\D.nx Y H)\/((FB K a).go i H/\∃N:St->Hp->Prop,(∀h c,N h c->∃k,k<m/\W (i+1) k h c)/\∀x c,(FB K a).yld i H x c->g x Y c λj f=>l {D with nx:=N,ct:=N,bk:=D.nx} j f):=by
 show#[λi m Y H=>m=↥xs-i/\i<=↥xs/\b i Y H,#[↥xs,by simp,Ml _,n],?_]
 rintro i m Y H ⟨rfl,hi,p⟩;have q:=hl i Y H hi p
 by_cases d:i<↥xs
 ·show .inr #[#[xs,xs[i],q,by simp[d]],b (i+1),λh c r=>#[↥xs-(i+1),∅,rfl,d,r],λx c y=>?_]
  obtain⟨e,y⟩:=y;subst e;show o i x Y _ (y xs q) p
 ·have e:i=↥xs:=∅
  subst e;show .inl #[#[xs,q,Kl _],hd Y H p]
noncomputable abbrev R2:=V->V->Hp->VK->Prop
abbrev OpR (X:Cx)(f:J5->J5->SO J5)(r:R2):Prop:=
 ∀(J:J2 (Kf×L5)) (s:J8) (Y:St) (H:Hp) (x y:V) (v u:J5) (Q:VK),Inv X J Y H s->RelV x v->RelV y u->r x y H Q->
  wpAny (model X.prog X.w) X.A (f v u) (EP X J Y Q) X.xe s
abbrev Iz (X:Cx)(f:J5->SO J5)(r:V->Hp->VK->Prop):Prop:=
 ∀(J:J2 (Kf×L5)) (s:J8) (Y:St) (H:Hp) (x:V) (v:J5) (Q:VK),Inv X J Y H s->RelV x v->r x H Q->
  wpAny (model X.prog X.w) X.A (f v) (EP X J Y Q) X.xe s
abbrev CallR (X:Cx)(f:J5)(r:J2 V->Hp->VK->Prop):Prop:=
 ∀(J:J2 (Kf×L5)) (s:J8) (Y:St) (H:Hp) (xs:J2 V) (us:J2 J5) (Q:VK),Inv X J Y H s->Vals xs us->r xs H Q->
  wpAny (model X.prog X.w) X.A (call f us) (EP X J Y Q) X.xe s
abbrev IA (X:Cx)(r:V->Hp->(KR->Hp->Prop)->Prop):Prop:=
 ∀(J:J2 (Kf×L5)) (s:J8) (Y:St) (H:Hp) (x:V) (v:J5) (Q:KR->Hp->Prop),Inv X J Y H s->RelV x v->r x H Q->
  wpAny (model X.prog X.w) X.A (truthy v) (TP X J Y Q) X.xe s
abbrev HU (r:R2)(c d:TE):TE:=λY H Q=>c Y H λx a=>d Y a λy b=>r x y b Q
abbrev JQ (r:V->Hp->VK->Prop)(b:TE):TE:=λY H Q=>b Y H λx a=>r x a Q
abbrev rI (C:Ki->Ki->Prop)(g:Ki->Ki->V):R2:=λx y H Q=>∃i j,x=.int i/\y=.int j/\C i j/\Q (g i j) H
abbrev CF (g:Ki->Ki->V):R2:=λx y H Q=>∃i j,x=.int i/\y=.int j/\Q (g i j) H
abbrev rU (g:Ki->V):V->Hp->VK->Prop:=λx H Q=>∃i,x=.int i/\Q (g i) H
section
variable{X:Cx}{a b c:KO}{ta tb tc:TE}{pos:MN}
def DL (j:PE X a ta)(k:PE X b tb){J:J2 (Kf×L5)}{s:J8}{Y:St}{H:Hp}{R:V->V->Hp->Prop}(I:Inv X J Y H s)
  (h:ta Y H λx i=>tb Y i λy c=>R x y c) {Q:J5->J8->Prop}{f:J5->J5->SO J5}
  (l:∀v u g x y c,Inv X J Y c g->RelV x v->RelV y u->R x y c->wpAny (model X.prog X.w) X.A (f v u) Q X.xe g) :
  wpAny (model X.prog X.w) X.A (eval a X.env) (λv d=>wpAny (model X.prog X.w) X.A (eval b X.env) (λu e=>wpAny (model X.prog X.w) X.A (f v u) Q X.xe e) X.xe d) X.xe s:=by
 show bf (j J s Y H _ I h) λv m #[x,i,I1,r1,q1]=>?_
 show bf (k J m Y i _ I1 q1) λu g #[y,c,I2,r2,q2]=>?_
 show l v u g x y c I2 r1 r2 q2
def F6 {op:QS}{r:R2}(g:OpR X (binaryOp op) r)(e:PE X a ta)(f:PE X b tb):PE X (.BinOp a op b pos) (HU r ta tb):=by
 intro J s Y H Q I h;show wpAny_BinOp (DL e f I h λv u k x y c d i j q=>g J k Y c x y v u Q d i j q)
def F7 {op:UnaryOp}{r:V->Hp->VK->Prop}(c:Iz X (unaryOp op) r)(b:PE X a ta):PE X (.UnaryOp op a pos) (JQ r ta):=by
 intro J s Y H Q I h;show UnaryOp_ (bf (b J s Y H _ I h) λv d #[x,H1,I1,r1,q1]=>c J d Y H1 x v Q I1 r1 q1)
def HV {f:J5->J5->SO J5}{C:Ki->Ki->Prop}{g:Ki->Ki->Ki}
  (rule:∀(i j:Ki) (t u:Tn) (s:J8) (Q:J5->J8->Prop) (E:J5->J8->Prop),C i j->Q (.int (g i j) s.toks) {s with toks:=s.toks+1}->wpAny (model X.prog X.w) X.A (f (.int i t) (.int j u)) Q E s) :
  OpR X f (rI C λi j=>.int (g i j)):=by
 intro J s Y H x y v u Q I a b h;obtain⟨i,j,rfl,rfl,hc,q⟩:=h;obtain⟨t,rfl⟩:=a;obtain⟨t',rfl⟩:=b;show rule i j t t' s _ _ hc #[.int (g i j),H,I.tok _,#[_,rfl],q]
def F8 {f:J5->J5->SO J5}{g:Ki->Ki->Ki}
  (rule:∀(i j:Ki) (t u:Tn) (s:J8) (Q:J5->J8->Prop) (E:J5->J8->Prop),Q (.int (g i j) s.toks) {s with toks:=s.toks+1}->wpAny (model X.prog X.w) X.A (f (.int i t) (.int j u)) Q E s) :
  OpR X f (CF λi j=>.int (g i j)):=by
 intro J s Y H x y v u Q I a b h;obtain⟨i,j,rfl,rfl,q⟩:=h;obtain⟨t,rfl⟩:=a;obtain⟨t',rfl⟩:=b;show rule i j t t' s _ _ #[.int (g i j),H,I.tok _,#[_,rfl],q]
def Ak {f:J5->J5->SO J5}{g:Ki->Ki->KR}
  (rule:∀(i j:Ki) (t u:Tn) (s:J8) (Q:J5->J8->Prop) (E:J5->J8->Prop),Q (.bool (g i j)) s->wpAny (model X.prog X.w) X.A (f (.int i t) (.int j u)) Q E s) :
  OpR X f (CF λi j=>.bl (g i j)):=by
 intro J s Y H x y v u Q I a b h;obtain⟨i,j,rfl,rfl,q⟩:=h;obtain⟨t,rfl⟩:=a;obtain⟨t',rfl⟩:=b;show rule i j t t' s _ _ #[.bl (g i j),H,I,rfl,q]
abbrev IB (i j:Ki):Prop:=0<j/\j<1073741824
abbrev IC (i j:Ki):Prop:=0<=j/\j<=1000000/\i.natAbs<2^64
abbrev CMul (i j:Ki):Prop:=(-(2^64)<i/\i<2^64)\/(-(2^64)<j/\j<2^64)
def CMul.ok {i j:Ki}(h:CMul i j):IntMulOk i j:=by
 rcases h with⟨a,b⟩|⟨a,b⟩
 ·show .of_left (Sc a b)
 ·show .of_right (Sc a b)
def DM:OpR X (binaryOp .Add) (CF λi j=>.int (i+j)):=F8 λ_ _ _ _ _ _ _ q=>add_int q
def DN:OpR X (binaryOp .Sub) (CF λi j=>.int (i-j)):=F8 λ_ _ _ _ _ _ _ q=>sub_int q
def DO:OpR X (binaryOp .Mult) (rI CMul λi j=>.int (i*j)):=HV λ_ _ _ _ _ _ _ hc q=>mul_int q hc.ok
def Al:OpR X (binaryOp .FloorDiv) (rI IB λi j=>.int (i/j)):=HV λi j _ _ _ _ _ hc q=>by
 have a:(0:Ki)<j:=hc.1;have b:j<1073741824:=hc.2;show floordiv_int ∅ (by rw[Int.fdiv_eq_ediv_of_nonneg i ∅];show q) (.inl (PyProof.noPylong_small ∅))
def DP:OpR X (binaryOp .Mod) (rI (λ_ j=>0<j) λi j=>.int (i % j)):=HV λi j _ _ _ _ _ hc q=>by
 have a:(0:Ki)<j:=hc;show mod_int' ∅ (by rw[Int.fmod_eq_emod_of_nonneg i ∅];show q)
def DQ:OpR X (binaryOp .Pow) (rI IC λi j=>.int (i^j.toNat)):=HV λ_ _ _ _ _ _ _ hc q=>pow_int_small hc.1 hc.2.1 hc.2.2 q
def JR {f:J5->SO J5}{g:Ki->Ki}
  (rule:∀(i:Ki) (t:Tn) (s:J8) (Q:J5->J8->Prop) (E:J5->J8->Prop),Q (.int (g i) s.toks) {s with toks:=s.toks+1}->wpAny (model X.prog X.w) X.A (f (.int i t)) Q E s) :
  Iz X f (rU λi=>.int (g i)):=by
 intro J s Y H x v Q I a h;obtain⟨i,rfl,q⟩:=h;obtain⟨t,rfl⟩:=a;show rule i t s _ _ #[.int (g i),H,I.tok _,#[_,rfl],q]
def DR:Iz X (unaryOp .USub) (rU λi=>.int (-i)):=JR λ_ _ _ _ _ q=>neg_int q
def wy {J:J2 (Kf×L5)}{Y:St}{H:Hp}{s:J8}{Q:VK}{k a:KR}(I:Inv X J Y H s)(q:Q (.bl k) H)(e:k=a):EP X J Y Q (.bool a) s:=by
 subst e;show#[.bl k,H,I,rfl,q]
def F9:OpR X (compareOp .Lt) (CF λi j=>.bl (decide (i<j))):=Ak λ_ _ _ _ _ _ _ q=>lt_int q
def Ga:OpR X (compareOp .LtE) (CF λi j=>.bl (decide (i<=j))):=Ak λ_ _ _ _ _ _ _ q=>le_int q
def Gb:OpR X (compareOp .Gt) (CF λi j=>.bl (decide (j<i))):=Ak λ_ _ _ _ _ _ _ q=>gt_int q
def Gc:OpR X (compareOp .GtE) (CF λi j=>.bl (decide (j<=i))):=Ak λ_ _ _ _ _ _ _ q=>ge_int q
def DS:OpR X (compareOp .Is) (λx y H Q=>y=.non/\Q (.bl (decide (x=.non))) H):=by
 intro J s Y H x y v u Q I a b h;obtain⟨rfl,q⟩:=h;cases b;show is_none_gen (wy I q ?_);cases x<;>first
  |(cases a;rfl)
  |(obtain⟨t,rfl⟩:=a;rfl)
def Am:OpR X (compareOp .IsNot) (λx y H Q=>y=.non/\Q (.bl (!decide (x=.non))) H):=by
 intro J s Y H x y v u Q I a b h;obtain⟨rfl,q⟩:=h;cases b;show isnot_none_gen (wy I q ?_);cases x<;>first
  |(cases a;rfl)
  |(obtain⟨t,rfl⟩:=a;rfl)
def An {op:Rw}{r:R2}(i:OpR X (compareOp op) r)(e:PE X a ta)(f:PE X b tb)(g:behindInMarks op b=false):PE X (.Compare a [op] [b] pos) (HU r ta tb):=by
 intro J s Y H Q I h;show wpAny_Compare1 (DL e f I h λv u l x y c d j k q=>i J l Y c x y v u Q d j k q) g
abbrev CG (t:TE):TT:=λY H Q=>t Y H λx a=>∃k,x=.bl k/\Q k a
def Ao {op:Rw}{r:R2}(i:OpR X (compareOp op) r)(d:PE X a ta)(f:PE X b tb)(g:behindInMarks op b=false):PT X (.Compare a [op] [b] pos) (CG (HU r ta tb)):=by
 intro J s Y H Q I h;show wpAny_isTrue_Compare1 (bf (d J s Y H _ I h) λv j #[x,H1,I1,r1,q1]=>bf (f J j Y H1 _ I1 q1) λu l #[y,H2,I2,r2,q2]=>
  bf (i J l Y H2 x y v u _ I2 r1 r2 q2) λc m #[z,H3,I3,r3,k,e,q3]=>?_) g
 subst e;cases r3;show L3 #[H3,I3,q3]
abbrev qZ (r e:R2)(ta tb tc:TE):TE:=λY H Q=>ta Y H λx b=>tb Y b λy c=>r x y c λz a=>∃k,z=.bl k/\
 (if k=true then tc Y a λf d=>e y f d Q else Q (.bl false) a)
def wz {op f:Rw}{r i:R2}(n:OpR X (compareOp op) r)(g:OpR X (compareOp f) i)(j:PE X a ta)(l:PE X b tb)(hc:PE X c tc)
  (m:lastMarks [op,f] [b,c]=false:=by with_unfolding_all rfl):PE X (.Compare a [op,f] [b,c] pos) (qZ r i ta tb tc):=by
 intro J s Y H Q I h;show Compare_chain (bf (j J s Y H _ I h) λv o #[x,H1,I1,r1,q1]=>chain_link (bf (l J o Y H1 _ I1 q1) λu p #[y,H2,I2,r2,q2]=>
  bf (n J p Y H2 x y v u _ I2 r1 r2 q2) λd q #[z,H3,I3,r3,k,e,q3]=>?_)) m
 subst e;cases r3;show L3 ?_;cases k with
 |false=>show ite_ff #[.bl false,H3,I3,rfl,q3]
 |true=>show ite_tt (chain_last (bf (hc J q Y H3 _ I3 q3) λw t #[A,H4,I4,r4,q4]=>g J t Y H4 y A u w Q I4 r2 r4 q4))
def wD {op f:Rw}{r i:R2}(o:OpR X (compareOp op) r)(g:OpR X (compareOp f) i)(l:PE X a ta)(m:PE X b tb)(hc:PE X c tc)
  (n:lastMarks [op,f] [b,c]=false:=by with_unfolding_all rfl):PT X (.Compare a [op,f] [b,c] pos) (CG (qZ r i ta tb tc)):=by
 intro J s Y H Q I h;show isTrue_chain (bf (l J s Y H _ I h) λv q #[x,H1,I1,r1,q1]=>test_link (bf (m J q Y H1 _ I1 q1) λu t #[y,H2,I2,r2,q2]=>
  bf (o J t Y H2 x y v u _ I2 r1 r2 q2) λd w #[z,H3,I3,r3,k,e,q3]=>?_)) n
 subst e;cases r3;show L3 ?_;cases k with
 |false=>
  obtain⟨D,j,p⟩:=q3;cases j;show ite_ff #[H3,I3,p]
 |true=>
  show ite_tt (test_last (bf (hc J w Y H3 _ I3 q3) λB A #[C,H4,I4,r4,q4]=>bf (g J A Y H4 y C u B _ I4 r2 r4 q4) λd' E #[G,H5,I5,r5,k2,e2,q5]=>?_))
  subst e2;cases r5;show L3 #[H5,I5,q5]
abbrev ID (K:Km)(x:V)(H:Hp)(k:KR):Prop:=
 match x with
 |.non=>k=false
 |.bl b=>k=b
 |.int i=>k=(i != 0)
 |.str y=>↥y<=sizeLine/\k=((↥y:Ki) != 0)
 |.byt y=>⇑y<=sizeLine/\k=((⇑y:Ki) != 0)
 |.ref p=>(∃xs,SqL K H p xs/\k = !xs.isEmpty)\/(∃xs,SqT K H p xs/\k = !xs.isEmpty)\/∃U,H p=gV (.dK U)/\k = !U.isEmpty
 |_=>LM
def rc {κ:Type}{U:J2 (κ×V)}{vs:J2 (κ×J5)}(r:KV U vs):(!vs.isEmpty) = !U.isEmpty:=by
 cases r<;>rfl
def j7 {xs:J2 V}{its:J2 J5}(r:Vals xs its):(!its.toArray.isEmpty) = !xs.isEmpty:=by
 cases r<;>simp
def i9:(sizeLine:Kb)<2^63:=by rw[Lu];decide
def DT:IA X (λx H Q=>∃k,ID X.K x H k/\Q k H):=by
 intro J s Y H x v Q I d h;obtain⟨k,e,q⟩:=h;have hl:=i9;have o:sizeLine=16777216:=Lu;cases x with
 |non=>
  cases d;have a:k=false:=e;subst a;show truthy_none #[H,I,q]
 |bl b=>
  cases d;have a:k=b:=e;subst a;show L3 #[H,I,q]
 |int i=>
  obtain⟨t,rfl⟩:=d;have a:k=(i != 0):=e;subst a;show PySem.P.truthy_int #[H,I,q]
 |str y=>
  obtain⟨t,rfl⟩:=d;obtain⟨n,a⟩ : ↥y<=sizeLine/\k=((↥y:Ki) != 0):=e;subst a;show PySem.P.truthy_str ∅ #[H,I.tok _,q]
 |byt y=>
  obtain⟨t,rfl⟩:=d;obtain⟨n,a⟩ : ⇑y<=sizeLine/\k=((⇑y:Ki) != 0):=e;subst a;show PySem.W.truthy_bytes ∅ #[H,I.tok _,q]
 |ref p=>
  cases d;have a:(∃xs,SqL X.K H p xs/\k = !xs.isEmpty)\/(∃xs,SqT X.K H p xs/\k = !xs.isEmpty)\/∃U,H p=gV (.dK U)/\k = !U.isEmpty:=e;rcases a with⟨xs,f,a⟩|⟨xs,f,a⟩|⟨U,f,a⟩
  ·subst a;obtain⟨its,r,g,j⟩:=I.list f;have c:=↥r;show wpAny_truthy_list g.isList (by revert Ks;omega) #[H,I.tok _,by rw[j7 r];show q]
  ·subst a;obtain⟨its,r,g,j⟩:=I.tuple f;have c:=↥r;show truthy_tuple g (by revert Ks;omega) #[H,I.tok _,by rw[j7 r];show q]
  ·subst a;obtain⟨j,l,vs,r,m⟩ : ↥U<=sizeLine/\(p==sysModules)=false/\∃vs,KV U vs/\s.heap.DictOf (aJ X.prog X.w) p vs:=I.hok p _ f;have c:↥U=↥vs:=Nr r;show wpAny_truthy_dict l m ∅ #[H,I.tok _,by rw[rc r];show q]
 |_=>show(show LM from e).elim
def re:OpR X (binaryOp .Add) (λx y H Q=>∃i j,x=.str i/\y=.str j/\↥i+↥j<=sizeLine/\Q (.str (i++j)) H):=by
 intro J s Y H x y v u Q I b c h;obtain⟨i,j,rfl,rfl,a,q⟩:=h;obtain⟨t,rfl⟩:=b;obtain⟨t',rfl⟩:=c;show add_str (λt' tk=>#[.str (i++j),H,I.tok _,#[_,rfl],q]) a
def oW {x:V}{us:J2 J5}(r:Vals [x] us):∃u,us=[u]/\RelV x u:=by
 cases r with
 |cons a b=>cases b;show#[_,rfl,a]
def lU:CallR X (.type "int") (λxs H Q=>(∃i,xs=[.int i]/\Q (.int i) H)\/∃k,xs=[.bl k]/\Q (.int (if k then 1 else 0)) H):=by
 intro J s Y H xs us Q I r h;rcases h with⟨i,rfl,q⟩|⟨k,rfl,q⟩
 ·obtain⟨u,rfl,t,rfl⟩:=oW r;show call_int_int #[.int i,H,I,#[_,rfl],q]
 ·obtain⟨u,rfl,a⟩:=oW r;cases a;show call_int_bool #[.int (if k then 1 else 0),H,I.tok _,#[_,rfl],q]
abbrev IE (K:Km)(x:V)(H:Hp)(n:Kb):Prop:=
 match x with
 |.str y=>↥y<=sizeLine/\n=↥y
 |.byt y=>⇑y<=sizeLine/\n=⇑y
 |.ref p=>(∃xs,SqL K H p xs/\n=↥xs)\/∃xs,SqT K H p xs/\n=↥xs
 |_=>LM
def j8:CallR X (.builtin "len") (λxs H Q=>∃x n,xs=[x]/\IE X.K x H n/\Q (.int n) H):=by
 intro J s Y H xs us Q I r h;obtain⟨x,n,rfl,e,q⟩:=h;obtain⟨u,rfl,g⟩:=oW r;have hl:=i9;have k:sizeLine=16777216:=Lu;cases x with
 |str y=>
  obtain⟨t,rfl⟩:=g;obtain⟨i,b⟩ : ↥y<=sizeLine/\n=↥y:=e;subst b;show len_str ∅ #[.int _,H,I.tok _,#[_,rfl],q]
 |byt y=>
  obtain⟨t,rfl⟩:=g;obtain⟨i,b⟩ : ⇑y<=sizeLine/\n=⇑y:=e;subst b;show PySem.W.len_bytes ∅ #[.int _,H,I.tok _,#[_,rfl],q]
 |ref p=>
  cases g;have b:(∃xs,SqL X.K H p xs/\n=↥xs)\/∃xs,SqT X.K H p xs/\n=↥xs:=e;rcases b with⟨xs,c,b⟩|⟨xs,c,b⟩
  ·subst b;obtain⟨its,f,d,j⟩:=I.list c;have a:=↥f;show Calls.call_len_list d.isList (by revert Ks;omega) #[.int ↥xs,H,I.tok _,#[_,by revert Ks;rw[a]],q]
  ·subst b;obtain⟨its,f,d,j⟩:=I.tuple c;have a:=↥f;show len_tuple d (by revert Ks;omega) #[.int ↥xs,H,I.tok _,#[_,by revert Ks;rw[a]],q]
 |_=>show(show LM from e).elim
end
def RelO.some_of {v:V}{o:J9 J5}(r:RelO (gV v) o):∃u,o=gV u/\RelV v u:=by
 cases o with
 |none=>show(show LM from r).elim
 |some u=>show#[u,rfl,r]
structure Room (k:Kb)(A:KZ):Prop where
 hd:A.handled=td
 dp:A.depth+3*k+5<recursionLimit
 un:A.units+16*k+200<cLine
def Room.deeper {k:Kb}{A:KZ}(r:Room (k+1) A)(env:QP):Room k (A.deeper env):=
 #[r.hd,by have:=r.dp;show A.depth+1+3*k+5<_;omega,by have:=r.un;show A.units+3+16*k+200<_;omega]
def Room.depth {k:Kb}{A:KZ}(r:Room k A):A.depth<recursionLimit:=by have:=r.dp;omega
abbrev Gd:TA:=λ_ H Q=>Q [] H
abbrev Ge (c:TE)(d:TA):TA:=λY H Q=>c Y H λx a=>d Y a λxs b=>Q (x::xs) b
section
variable{X:Cx}{e:KO}{es:J2 KO}{te:TE}{t:TA}{pos:MN}
def wF:PA X [] Gd:=λ_ _ _ _ H Q I h=>OU #[[],H,I,.nil,h]
def nk (a:PE X e te)(b:PA X es t)(c:starEach (e::es) X.env=(false,eval e X.env)::starEach es X.env:=by rfl):PA X (e::es) (Ge te t):=by
 intro pos J s Y H Q I h;rw[c];change wpAny _ _ (spliced ((false,eval e X.env)::backTo pos (starEach es X.env))) _ _ s;show Oy (bf (a J s Y H _ I h) λu d #[x,H1,I1,r1,q1]=>?_)
 show bf (b pos J d Y H1 _ I1 q1) λus f #[xs,H2,I2,r2,q2]=>#[x::xs,H2,I2,.cons r1 r2,q2]
abbrev IF (t:TA):TE:=λY H Q=>t Y H λxs a=>↥xs<=sizeLine/\∀p,a p=td->Q (.ref p) (bv a p (.tup xs))
abbrev IG (t:TA):TE:=λY H Q=>t Y H λxs a=>↥xs<=sizeLine/\∀p,a p=td->Q (.ref p) (bv a p (.lst xs))
def DU {x1}(h:PA X es t):PE X (.Tuple es x1 pos) (IF t):=by
 intro J s Y H Q I d;show wpAny_Tuple_spliced (bf (h pos J s Y H _ I d) λus a #[xs,H1,I1,r,z,q]=>#[by rw[<- ↥r];show z,?_])
 have c:H1 ⇑a.heap.objs=td:=I1.hok.fresh (Kl _);show#[.ref ⇑a.heap.objs,bv H1 ⇑a.heap.objs (.tup xs),I1.laid (t':=a.toks) (λb u e=>J7 _ e) (Kl _) ?_,rfl,q _ c]
 show#[#[z,NoD.new _ _ _],us,r,#[_,Kr _ rfl,rfl,_,rfl]]
def DV (h:PA X es t):PE X (.List es pos) (IG t):=by
 intro J s Y H Q I d;show wpAny_List_spliced (bf (h pos J s Y H _ I d) λus a #[xs,H1,I1,r,z,q]=>#[by rw[<- ↥r];show z,?_])
 have c:H1 ⇑a.heap.objs=td:=I1.hok.fresh (Kl _);show#[.ref ⇑a.heap.objs,bv H1 ⇑a.heap.objs (.lst xs),I1.laid (t':=a.toks) (λb u e=>J7 _ e) (Kl _) ?_,rfl,q _ c]
 show#[z,us,0,r,Kr _ rfl]
end
noncomputable abbrev Sp:=J2 V->Hp->VK->XK->Prop
noncomputable abbrev wH:=J2 QP->Hp->J8->XK->J5->J8->Prop
structure Env0 (P:KQ)(w:K8)(K:Km)(mg:KG->J9 J5)(base:Lh)(A:KZ)(outer:J2 QP)(s:J8)(H:Hp):Prop where
 frames:A.frames=gV outer
 mod:Mod K mg base
 bs:∀b o,base.get? b=gV o->s.heap.get? b=gV o/\H b=td
 bsz:⇑base.objs<=⇑s.heap.objs
 funs:s.heap.FunFrames base outer
 frf:∀b∈qW outer,H b=td
 hok:HOk P w H s.heap
 bare:OT s.gens
abbrev CE (outer:J2 QP)(P:KQ)(w:K8)(H:Hp)(s:J8)(Q:VK)(u:J5)(a:J8):Prop:=
 ∃v b,a.os=s.os/\OT a.gens/\Un (qW outer) [] H b s.heap a.heap/\HOk P w b a.heap/\RelV v u/\Q v b
abbrev CR (CX:wH)(outer:J2 QP)(P:KQ)(w:K8)(H:Hp)(s:J8)(Q:VK)(E:XK)(r:Qx)(a:J8):Prop:=
 match r with
 |.ok (.ret u)=>CE outer P w H s Q u a
 |.ok _=>LM
 |.error e=>CX outer H s E e a
structure FnOk (P:KQ)(w:K8)(K:Km)(mg:KG->J9 J5)(base:Lh)(CX:wH)(k:Kb)(f:Kf)(fd:MR)(ps:J2 KG)(sp:Sp):Prop where
 len:∀vs H Q E,sp vs H Q E->↥vs=↥ps
 run:∀(A:KZ) (outer:J2 QP) (s:J8) (H:Hp) (args:Args) (us:J2 J5) (vs:J2 V) (Q:VK) (E:XK),Room k A->Env0 P w K mg base A outer s H->QT s fd args (ps.zip us)->Vals vs us->sp vs H Q E->
  codeAny (model P w) A (.call (.ref f) args) (CR CX outer P w H s Q E) s
section
variable{X:Cx}{J:J2 (Kf×L5)}{Y:St}{H:Hp}{s s':J8}
def Inv.env0 (I:Inv X J Y H s):Env0 X.prog X.w X.K X.mg X.base X.A X.stack s H:=
 #[I.ok.frames,I.ok.mod,I.bs,Lq I.ok.bsz I.sz,I.stack,I.stkFree,I.hok,I.bare]
def Inv.after {Q:VK}{u:J5}(I:Inv X J Y H s)(h:CE X.stack X.prog X.w H s Q u s'):EP X J Y Q u s':=by
 obtain⟨v,f,os,a,un,c,r,q⟩:=h;obtain⟨i,g,d,t,e⟩:=s';obtain rfl:e=s.os:=os;show#[v,f,I.call (h':=i) (g':=g) (d':=d) (t':=t) (ch:=[]) un c a (λb z=>absurd z (by simp)),r,q]
end
abbrev wI (sp:Sp)(a:J2 V)(E:XK)(t:TA):TE:=λY H Q=>t Y H λvs b=>sp (vs++a) b Q E
abbrev Binds (K:Km)(b:MR)(ps:J2 KG)(a:J2 J5):Prop:=
 ∀(s:J8) (us:J2 J5),K.In s.heap->(us++a).length=↥ps->QT s b #[us,[]] (ps.zip (us++a))
def Binds.all {K:Km}{a:MR}{ps:J2 KG}(h:∀us:J2 J5,↥us=↥ps->bindArgs a #[us,[]]=pure (ps.zip us)):Binds K a ps []:=λs us _ hl=>by
 rw[Ln]at hl ⊢;show .of_eq (h us hl)
abbrev nq (CX:wH)(X:Cx)(E:XK):Prop:=∀(J:J2 (Kf×L5)) (Y:St) (H:Hp) (s:J8) (e:J5) (s':J8),Inv X J Y H s->CX X.stack H s E e s'->X.xe e s'
section
variable{X:Cx}{CX:wH}{k:Kb}{f C:Kf}{fd:MR}{ps:J2 KG}{sp:Sp}{dvs:J2 V}{ds:J2 J5}{E:XK}{x m:KG}{p pos apos:MN}{e o:KO}{es:J2 KO}{ta:TE}{t:TA}
def wJ {J:J2 (Kf×L5)}{Y:St}{H:Hp}{s:J8}{Q:VK}{us:J2 J5}{vs:J2 V}(F:FnOk X.prog X.w X.K X.mg X.base CX k f fd ps sp)(g:Room k X.A)(d:Binds X.K fd ps ds)(hd:Vals dvs ds)(i:nq CX X E)
  (I:Inv X J Y H s) (r:Vals vs us) (h:sp (vs++dvs) H Q E):wpAny (model X.prog X.w) X.A (call (.ref f) us) (EP X J Y Q) X.xe s:=by
 have b:Vals (vs++dvs) (us++ds):=r.append hd;have hl:(us++ds).length=↥ps:=by rw[<- ↥b];show F.len _ _ _ _ h
 show wpAny_call (N3 (F.run X.A X.stack s H #[us,[]] (us++ds) (vs++dvs) Q E g I.env0 (d s us I.kIn hl) b h) λr j a=>?_)
 cases r with
 |error e=>show i J Y H s e j I a
 |ok c=>
  cases c with
  |ret u=>show I.after a
  |next=>show LM.elim a
  |brk=>show LM.elim a
  |cont=>show LM.elim a
def Ap (F:FnOk X.prog X.w X.K X.mg X.base CX k f fd ps sp)(l:Room k X.A)(i:Gl X x)(j:X.mg x=gV (.ref f))(hk:LY X.K (.ref f)=true)(d:Binds X.K fd ps ds)(hd:Vals dvs ds)(m:nq CX X E)
  (c:PA X (e::es) t) (a:(x==("__debug__": KG))=false:=by decide) (g:starEach (e::es) X.env=(false,eval e X.env)::starEach es X.env:=by rfl) (b:(backTo pos (starEach es X.env)).any (·.1)=false:=by rfl) :
  PE X (.Call (.Name x p) (e::es) [] pos) (wI sp dvs E t):=by
 intro J s Y H Q I h;show NV (sI I i j ?_ a);show PySem.W.callWith_K (h₀:=X.base) I.ok.mod.kin hk (bf (c pos J s Y H _ I h) λus n #[vs,H1,I1,r,q]=>#[I1.kIn,?_]) g b
 show wJ F l d hd m I1 r q
def wK (F:FnOk X.prog X.w X.K X.mg X.base CX k f fd ps sp)(e:Room k X.A)(c:Gl X x)(d:X.mg x=gV (.ref f))(hk:LY X.K (.ref f)=true)(b:Binds X.K fd ps ds)(hd:Vals dvs ds)(g:nq CX X E)
  (a:(x==("__debug__": KG))=false:=by decide):PE X (.Call (.Name x p) [] [] pos) (wI sp dvs E Gd):=by
 intro J s Y H Q I h;show NV (sI I c d ?_ a);show PySem.W.callWith_K0 I.kIn hk (wJ (us:=[]) F e b hd g I .nil h)
end
structure FnScope (N P:J2 KG)(sc:Nv):Prop where
 kind:sc.kind=.function
 co:sc.isCoroutine=false
 gen:sc.isGenerator=false
 nd:N.Nodup
 pre:N.take ↥P=P
 par:∀x∈P,sc.names.lookup x=gV .local\/sc.names.lookup x=gV .cell
 nofree:∀y∈sc.names,y.2≠.free
def lV {a:KG->J9 Mt}{x:KG}:∀{binds:J2 (KG×J5)}{m:KG->J9 J5},(∀v,(x,v)∉binds)->bindL a binds m x=m x
 |[],_,_=>rfl
 |(n,v)::r,m,h=>by
  unfold bindL;rw[lV λw hw=>h w (LH _ hw)]
  split
  ·have:x≠n:=by rintro rfl;show h v Mr
   simp[this]
  ·rfl
def lW {a:KG->J9 Mt}{x:KG}:∀{binds:J2 (KG×J5)}{m:KG->J9 J5},(∀v,(x,v)∉binds)->bindC a binds m x=m x
 |[],_,_=>rfl
 |(n,v)::r,m,h=>by
  unfold bindC;rw[lW λw hw=>h w (LH _ hw)]
  split
  ·rfl
  ·have:x≠n:=by rintro rfl;show h v Mr
   simp[this]
def lX {a:KG->J9 Mt}{x:KG}{v:J5}:∀{P:J2 KG}{vs:J2 J5}{i:Kb}{m:KG->J9 J5},P.Nodup->P[i]?=gV x->vs[i]?=gV v->a x=gV .local->
  bindL a (P.zip vs) m x=gV v
 |[],_,_,_,_,h,_,_=>by simp at h
 |_::_,[],_,_,_,_,h,_=>by simp at h
 |p::P,w::vs,0,m,nd,b,c,hk=>by
  simp at b c;subst b;subst c
  change bindL a ((p,w)::P.zip vs) m p=_;unfold bindL;rw[lV λv d=>(Mo.mp nd).1 (Py d).1,KC hk]
  simp
 |p::P,w::vs,i+1,m,nd,b,c,hk=>by
  change bindL a ((p,w)::P.zip vs) m x=_;unfold bindL;show lX (i:=i) (Mo.mp nd).2 (by simpa using b) (by simpa using c) hk
def lY {a:KG->J9 Mt}{x:KG}{v:J5}:∀{P:J2 KG}{vs:J2 J5}{i:Kb}{m:KG->J9 J5},P.Nodup->P[i]?=gV x->vs[i]?=gV v->a x≠gV .local->
  bindC a (P.zip vs) m x=gV v
 |[],_,_,_,_,h,_,_=>by simp at h
 |_::_,[],_,_,_,_,h,_=>by simp at h
 |p::P,w::vs,0,m,nd,b,c,hk=>by
  simp at b c;subst b;subst c
  change bindC a ((p,w)::P.zip vs) m p=_;unfold bindC;rw[lW λv d=>(Mo.mp nd).1 (Py d).1,KS hk]
  simp
 |p::P,w::vs,i+1,m,nd,b,c,hk=>by
  change bindC a ((p,w)::P.zip vs) m x=_;unfold bindC;show lY (i:=i) (Mo.mp nd).2 (by simpa using b) (by simpa using c) hk
abbrev start (N:J2 KG)(vs:J2 V):St:=vs.map gV++KU (↥N-↥vs) td
abbrev rf (CX:wH)(P:KQ)(w:K8)(K:Km)(mg:KG->J9 J5)(base:Lh)(N:J2 KG)(a:KG)(scope:Nv)(f:Kf)(c:J5)(A:KZ)(outer:J2 QP)(s:J8)(H:Hp)(E:XK):Cx where
 prog:=P
 w:=w
 K:=K
 mg:=mg
 base:=base
 A:=A.deeper (envOfC a scope ⇑s.heap.objs f c)
 N:=N
 s₀:=s
 H₀:=H
 env:=envOfC a scope ⇑s.heap.objs f c
 outer:=outer
 stack:=envOfC a scope ⇑s.heap.objs f c::outer
 ex:=[]
 calm:=true
 fn:=λ_=>true
 pn:=[]
 xe:=λe g=>wpAny (model P w) (A.deeper (envOfC a scope ⇑s.heap.objs f c)) (leaving (envOfC a scope ⇑s.heap.objs f c) e) (λ_ b=>CX outer H s E e b) (λd b=>CX outer H s E d b) g
def oX {sc:Nv}{n:Kb}{x:KG}(h:sc.names.lookup x=gV .cell):∃c,(cellsFrom n sc.names []).lookup x=gV c:=by
 have q:=Ph sc.names n [] (.inl h);show Lz.mp q
def uU {CX:wH}{P:KQ}{w:K8}{K:Km}{mg:KG->J9 J5}{base:Lh}{N ps:J2 KG}{d:KG}{scope:Nv}{f:Kf}{B:J5}{A:KZ}{outer:J2 QP}{s G:J8}{H:Hp}{E:XK}{us:J2 J5}{vs:J2 V}
  (S:FnScope N ps scope) (hd:A.handled=td) (j:Env0 P w K mg base A outer s H) (hl:↥vs=↥ps) (r:Vals vs us)
  (x:InCallC s ⇑s.heap.objs (bindL (envOfC d scope ⇑s.heap.objs f B).kindOf (ps.zip us) λ_=>td) (cellsFrom (⇑s.heap.objs+1) scope.names []) (bindC (envOfC d scope ⇑s.heap.objs f B).kindOf (ps.zip us) λ_=>td) G) :
  Inv (rf CX P w K mg base N d scope f B A outer s H E) [] (start N vs) H G:=by
 have J:↥ps<=↥N:=by have:=congrArg SV S.pre;rw[KY]at this;omega
 obtain⟨C,tk,rfl,hk⟩:=x.done;have m:∀b:Kf,b∉(rf CX P w K mg base N d scope f B A outer s H E).ex:=λb z=>absurd (show b∈([]:J2 Kf)from z) (by simp)
 show#[#[j.mod,S.kind,rfl,rfl,Kl _,λy z c C g=>?_,λy l=>?_,λy c _ h=>?_,λ_=>hd,Around.frames_deeper j.frames,.inr #[rfl,rfl],λb z=>absurd z (m b),j.bs,j.bsz,λb _ _=>m b,λb z=>absurd z (m b),j.funs,j.frf],
  rfl,j.bare,Un.kept hk,#[_,x.toInCall.ns,λi y v C g M=>?_],λy c h=>#[_,x.cell y c h],j.hok.fresh (Kl _),λy c h=>?_,λp o=>absurd (show p∈([]:J2 (Kf×L5))from o) (by simp),j.hok.kept hk,?_]
 ·show name_of_addr x.apart (Nd C) (Nd g)
 ·have l:scope.names.lookup y=gV .cell\/scope.names.lookup y=gV .free:=l;rcases l with l|l
  ·show oX l
  ·show absurd rfl (S.nofree _ (Nd l))
 ·show ND (x.above y c (Nd h))
 ·have hi:i<↥vs:=by
   unfold start at g
   by_cases hi:i<↥vs
   ·show hi
   ·rw[Lv (by simpa using hi)]at g
    rw[List.getElem?_replicate]at g;split at g<;>cases g
  have I:vs[i]?=gV v:=by
   unfold start at g;rw[Lf (by simpa using hi),Kg]at g
   cases e:vs[i]? with
   |none=>rw[e]at g;cases g
   |some a=>rw[e]at g;cases g;rfl
  obtain⟨u,D,L⟩:=r.get I;have o:ps[i]?=gV y:=by
   rw[<- S.pre,O0 ∅];show C
  have t:ps.Nodup:=by rw[<- S.pre];show S.nd.sublist (N4 _ _)
  show#[u,L,?_];rcases S.par y (Kt o)with k|k
  ·show .inl #[k,lX t o D k]
  ·obtain⟨c,e⟩:=oX (n:=⇑s.heap.objs+1) k;show .inr #[.inl k,c,e,?_];have q:=x.cell y c e;rw[lY t o D (by change scope.names.lookup y≠_;rw[k];decide)]at q
   show q
 ·show j.hok.fresh (ND (x.above y c (Nd h)))
 ·unfold start;change _=↥N;rw[Kh,J4,List.length_replicate];omega
def Gf {CX:wH}{P:KQ}{w:K8}{K:Km}{mg:KG->J9 J5}{base:Lh}{k:Kb}{f:Kf}{name a:KG}{c:Arguments}{body:J2 Nb}{scope:Nv}{L kV doc pm cdv ct oc:J5}{an od:J9 Kf}
  {osl:Lm (J9 J5)}{N ps:J2 KG}{sp:Sp} (X:K.lookup f=gV #[oc,od,.func (MA name a c body scope L kV doc pm an cdv ct),osl]) (z:Nf K cdv a=true) (S:FnScope N ps scope)
  (len:∀vs H Q E,sp vs H Q E->↥vs=↥ps)
  (h:∀(A:KZ) (outer:J2 QP) (s:J8) (H:Hp) (vs:J2 V) (Q:VK) (E:XK),Room k (A.deeper (envOfC a scope ⇑s.heap.objs f cdv))->sp vs H Q E->
   ∃t,PSs (rf CX P w K mg base N a scope f cdv A outer s H E) body t/\t {nx:=λ_ d=>Q .non d,rt:=Q} (start N vs) H) :
  FnOk P w K mg base CX (k+1) f (MA name a c body scope L kV doc pm an cdv ct) ps sp:=by
 show#[len,λA outer s H args us vs Q E B l R r m=>?_]
 have hl:=len _ _ _ _ m;have J:K.In s.heap:=l.mod.kin.keeps λb o e=>(l.bs b o e).1
 have C:s.heap.NoLimit:=l.mod.nolimit.keeps λb o e=>(l.bs b o e).1
 have i:∀y∈ps.zip us,scope.names.lookup y.1=gV .local\/(scope.names.lookup y.1=gV .cell/\((cellsFrom (⇑s.heap.objs+1) scope.names []).lookup y.1).isSome=true):=λ#[n,v] hy=>by
  rcases S.par n (Py hy).1 with q|q
  ·show .inl q
  ·show .inr #[q,Ph _ _ _ (.inl q)]
 show codeAny_call_function B.depth (J _ _ X) rfl S.co S.gen rfl (PySem.W.codeRec_of J z) (R _ _ _ _ ?_);show wpAny_newFunctionEnv_cells S.kind i λenv T M x=>?_
 subst T;show#[C.keeps x.toInCall.keep,codeAny_func ?_];obtain⟨t,W,U⟩:=h A outer s H vs Q E (B.deeper _) m;have I:Inv (rf CX P w K mg base N a scope f cdv A outer s H E) [] (start N vs) H M:=uU S B.hd l hl r x;show Mj (W [] M (start N vs) H _ I U) (λO G j=>?_) λe G j=>j
 have fin:∀{p:St}{d:Hp}{v:V}{u:J5},Inv (rf CX P w K mg base N a scope f cdv A outer s H E) [] p d G->RelV v u->Q v d->CE outer P w H s Q u G:=
  λ{p d v u} g D q=>#[v,d,g.os,g.bare,g.base,g.hok,D,q]
 cases O with
 |ret u=>
  obtain⟨v,p,d,g,D,q⟩:=j;show fin g D q
 |next=>
  obtain⟨p,d,g,q⟩:=j;show fin (v:=V.non) (u:=LB) g rfl q
 |brk=>
  obtain⟨_,_,_,q⟩:=j;show LM.elim q
 |cont=>
  obtain⟨_,_,_,q⟩:=j;show LM.elim q
section
variable{X:Cx}{x:KG}{p pos:MN}{e:KO}{es:J2 KO}{t:TA}{id T:LV}{r:J2 V->Hp->VK->Prop}
abbrev JC (r:J2 V->Hp->VK->Prop)(t:TA):TE:=λY H Q=>t Y H λvs a=>r vs a Q
def oY (hc:CallR X (.builtin id) r)(f:Gl X x)(g:X.mg x=td)(j:bootBuiltins x=gV (.builtin id))(c:PA X (e::es) t)(i:x≠"__name__":=by decide)(a:(x==("__debug__": KG))=false:=by decide)
  (d:starEach (e::es) X.env=(false,eval e X.env)::starEach es X.env:=by rfl) (b:(backTo pos (starEach es X.env)).any (·.1)=false:=by rfl):PE X (.Call (.Name x p) (e::es) [] pos) (JC r t):=by
 intro J s Y H Q I h;show NV (eB I f g j ?_ i a);show Rj (bf (c pos J s Y H _ I h) λus k #[vs,H1,I1,r1,q1]=>hc J k Y H1 vs us Q I1 r1 q1) d b
def uV (hc:CallR X (.type T) r)(f:Gl X x)(g:X.mg x=td)(j:bootBuiltins x=gV (.type T))(c:PA X (e::es) t)(i:x≠"__name__":=by decide)(a:(x==("__debug__": KG))=false:=by decide)
  (d:starEach (e::es) X.env=(false,eval e X.env)::starEach es X.env:=by rfl) (b:(backTo pos (starEach es X.env)).any (·.1)=false:=by rfl):PE X (.Call (.Name x p) (e::es) [] pos) (JC r t):=by
 intro J s Y H Q I h;show NV (eB I f g j ?_ i a);show LC (bf (c pos J s Y H _ I h) λus k #[vs,H1,I1,r1,q1]=>hc J k Y H1 vs us Q I1 r1 q1) d b
end
end L2
namespace HT
open PySem PyProof.Rows
section
open PySem.SeqAt
open PySem.AutoSeq1 (wpAny_loadPart')
open PySem.MeetsSeq PySem.MeetsSeq2 PySem.MeetsSeq3
end
section
variable{prog:KQ}{w:K8}{A:KZ}{E:J5->J8->Prop}{s:J8}
def Aq {t b:Kf}{vs ws:J2 J5}{Q:J5->J8->Prop}(u:Pw s.heap t vs.toArray)(r:Pw s.heap b ws.toArray)(l:vs≠[])
  (p:ws=[]->Q (.ref t) s) (q:ws≠[]->Q (.ref ⇑s.heap.objs) {s with heap:=s.heap.push {cls:=.type "tuple",data:=.seq (vs++ws).toArray}})
  (hsz:↥vs+↥ws<=sizeLine):wpAny (model prog w) A (binaryOp .Add (.ref t) (.ref b)) Q E s:=by
 obtain⟨⟨cls,k,data,o⟩,h,hc,n,hd⟩:=id u;obtain⟨⟨j,c,i,g⟩,a,d,m,f⟩:=id r;simp only at hc hd d f;subst hc hd d f;have e:vs.toArray++ws.toArray=(vs++ws).toArray:=by simp
 by_cases hw:ws=[]
 ·show QU #[_,h,rfl] #[_,a,rfl] O6 Qo N5 N1 (NQ _ _)
   (tuple_addW1 t b vs.toArray ws.toArray n m k c o g (by simpa using l) (by simp[hw])) #[h,a,p hw]
 ·show QU #[_,h,rfl] #[_,a,rfl] O6 Qo N5 N1 (NQ _ _)
   (tuple_addW2 t b vs.toArray ws.toArray n m k c o g (by simpa using l) (by simpa using hw) (by rw[Ks,Ks];show hsz)) #[h,a,?_]
  rw[e];show q hw
abbrev bY (n d:Kb):J9 Ki->Kb
 |none=>d
 |some v=>if v<0 then(v+(n:Ki)).toNat else min v.toNat n
def wL (n d:Kb):bY n d td=d:=rfl
def Ar (n d k:Kb):bY n d (gV (k:Ki))=min k n:=by
 show(if (k:Ki)<0 then((k:Ki)+(n:Ki)).toNat else min (k:Ki).toNat n)=min k n
 rw[KS ∅,Kz]
def DW (n d:Kb)(hd:d<=n)(o:J9 Ki):bY n d o<=n:=by
 cases o with
 |none=>show hd
 |some v=>
  show(if v<0 then(v+(n:Ki)).toNat else min v.toNat n)<=n
  by_cases a:v<0
  ·rw[KC a];omega
  ·rw[KS a];show Rk _ _
def sL (v:Ki)(n d:Kb):(if v<0 then max (v+(n:Ki)) 0 else min v (n:Ki))=((bY n d (gV v):Kb):Ki):=by
 show(if v<0 then max (v+(n:Ki)) 0 else min v (n:Ki))=(((if v<0 then(v+(n:Ki)).toNat else min v.toNat n):Kb):Ki)
 by_cases a:v<0
 ·simp only[KC a];omega
 ·simp only[KS a];omega
def rh (lo hi:J9 Ki)(n:Kb):NI lo hi 1 (n:Ki)=(((bY n 0 lo:Kb):Ki),((bY n n hi:Kb):Ki)):=by
 have a:¬ ((1:Ki)<0):=∅
 unfold NI;revert a ML;show TR ?_ ?_
 ·cases lo with
  |none=>rfl
  |some v=>show sL v n 0
 ·cases hi with
  |none=>rfl
  |some v=>show sL v n n
def rj (i j:Kb):MZ (i:Ki) (j:Ki) 1=j-i:=by
 unfold MZ;have a:(1:Ki) > 0:=∅
 revert a MW Int.ediv_one;split<;>omega
def j9 {v:J5}{o:J9 Ki}{Q:J9 Ki->J8->Prop}(p:Oz v o)(h:Q o s):wpAny (model prog w) A (RB v) Q E s:=by
 cases p with
 |none=>show RP h
 |int i t=>show slicePart_int h
def eL {e:Kf}{c d:J5}{lo hi:J9 Ki}{n:Kb}{Q:Ki×Ki×Kb->J8->Prop}(g:s.heap.IsSliceOf e c d .none)(i:Oz c lo)(j:Oz d hi)
  (h:Q (((bY n 0 lo:Kb):Ki),1,bY n n hi-bY n 0 lo) s):wpAny (model prog w) A (OA (.ref e) (pure (n:Ki))) Q E s:=by
 obtain⟨os,b,f,a⟩:=id g;unfold OA R6;show J3 (J3 (LR b a (x:=c) rfl (J3 (LR b a (x:=d) rfl (J3 (LR b a (x:=.none) rfl (Kd ?_)))))));show J3 (RP ?_);change wpAny _ _ (if ((1:Ki)==0)=true then _ else _) _ _ s
 rw[KS #v[]]
 show J3 (j9 i (J3 (j9 j (J3 (Kd ?_)))));change wpAny _ _ (match NI lo hi 1 (n:Ki)with|(lo,hi)=>pure (lo,(1:Ki),MZ lo hi 1)) _ _ s
 rw[rh lo hi n];change wpAny _ _ (pure (((bY n 0 lo:Kb):Ki),(1:Ki),MZ ((bY n 0 lo:Kb):Ki) ((bY n n hi:Kb):Ki) 1)) _ _ s;rw[rj];show Kd h
def wM (xs:Lm J5)(i k:Kb):((Kj k).filterMap λ(m:Kb)=>xs[((i:Ki)+(m:Ki)*1).toNat]?).toArray=((xs.toList.drop i).take k).toArray:=by
 have e:(λ(m:Kb)=>xs[((i:Ki)+(m:Ki)*1).toNat]?)=λm=>xs[i+m]?:=by
  funext m
  have:((i:Ki)+(m:Ki)*1).toNat=i+m:=∅
  rw[this]
 rw[e];have:=pick_run xs i k;rw[List.filterMap_map]at this;have a:((λx=>xs[x]?)∘λx=>i+x)=λm=>xs[i+m]?:=rfl
 rw[a]at this;rw[this]
def iu {t g:Kf}{items:Lm J5}{j k:J5}{lo hi:J9 Ki}{Q:J5->J8->Prop}(b:Pw s.heap t items)(i:s.heap.IsSliceOf g j k .none)(n:Oz j lo)(o:Oz k hi)
  (hw:¬ (bY ⇑items 0 lo=0/\bY ⇑items ⇑items hi=⇑items))
  (h:Q (.ref ⇑s.heap.objs) {s with heap:=s.heap.push {cls:=.type "tuple",data:=.seq ((items.toList.drop (bY ⇑items 0 lo)).take (bY ⇑items ⇑items hi-bY ⇑items 0 lo)).toArray}})
  (hsz:⇑items<=sizeLine):wpAny (model prog w) A (getItem (.ref t) (.ref g)) Q E s:=by
 have a:sizeOk (.seq ((items.toList.drop (bY ⇑items 0 lo)).take (bY ⇑items ⇑items hi-bY ⇑items 0 lo)).toArray):=by
  show((items.toList.drop (bY ⇑items 0 lo)).take (bY ⇑items ⇑items hi-bY ⇑items 0 lo)).toArray.size<=sizeLine;rw[Ks,KY,Oe,K9];omega
 have p:bY ⇑items ⇑items hi<=⇑items:=DW _ _ (Kl _) hi;obtain⟨os,f,d,l⟩:=id i;have c:s.TypeIs (.ref g) "slice":=#[os,f,d];unfold getItem
 try with_reducible show LN ?_
 first|refine J3 (Kd ?_)|skip
 show J3 (QV b.typeIs #v[] ?_)
 show J3 (Lw (name:=Mw "__getitem__") b.typeIs My
  (LP My b.typeIs Qi ?_ (Qy _ _)))
 change wpAny _ _ (NA (.ref t) >>= _) _ _ s;show J3 (Sd b ?_);show J3 (NE c ?_);rw[KC #v[]]
 show J3 (eL i n o ?_);have e:¬ ((((bY ⇑items 0 lo:Kb):Ki)==0&&(1:Ki)==1&&(bY ⇑items ⇑items hi-bY ⇑items 0 lo)==⇑items)=true):=by
  intro q;rw[Kc,Kc]at q;have r:((bY ⇑items 0 lo:Kb):Ki)=0:=eq_of_beq q.1.1;have u:bY ⇑items ⇑items hi-bY ⇑items 0 lo=⇑items:=eq_of_beq q.2;show hw #[∅,∅]
 change wpAny _ _ (if (((bY ⇑items 0 lo:Kb):Ki)==0&&(1:Ki)==1&&(bY ⇑items ⇑items hi-bY ⇑items 0 lo)==⇑items)=true then _ else _) _ _ s
 rw[KS e,wM]
 first
  |show J3 (m:=Mn _) (Ly (Kd #[_,rfl,Kd h]) a)
  |show J3 (m:=Mn _) (Ly (J3 (Kd (Kd #[_,rfl,Kd h]))) a)
  |show J3 (J3 (m:=Mn _) (Ly (Kd (Kd #[_,rfl,Kd h])) a))
  |show J3 (J3 (m:=Mn _) (Ly (Kd #[_,rfl,Kd h]) a))
end
end HT
namespace L2
open PySem PySem.Spec PyProof.Rows
noncomputable abbrev TO:=St->Hp->(J9 Ki->Hp->Prop)->Prop
abbrev PO (X:Cx)(e:J9 KO)(t:TO):Prop:=
 ∀(J:J2 (Kf×L5)) (s:J8) (Y:St) (H:Hp) (Q:J9 Ki->Hp->Prop),Inv X J Y H s->t Y H Q->
  wpAny (model X.prog X.w) X.A (evalPart e X.env) (λu b=>∃o a,Inv X J Y a b/\Oz u o/\Q o a) X.xe s
abbrev As:TO:=λ_ H Q=>Q td H
abbrev Gg (t:TE):TO:=λY H Q=>t Y H λx a=>∃i,x=.int i/\Q (gV i) a
section
variable{X:Cx}{e:KO}{te:TE}{lo hi:J9 KO}{tl th:TO}{pos p2:MN}
def At:PO X td As:=by
 intro J s Y H Q I h;rw[Se];show Kd #[td,H,I,.none,h]
def Au (h:PE X e te):PO X (gV e) (Gg te):=by
 intro J s Y H Q I hw;rw[evalPart_some];show bf (h J s Y H _ I hw) λu a #[x,H1,I1,r1,q1]=>?_
 obtain⟨i,rfl,q⟩:=q1;obtain⟨t,rfl⟩:=r1;show#[gV i,H1,I1,.int i t,q]
abbrev Gh (X:Cx)(r:V->J9 Ki->J9 Ki->Hp->VK->Prop):Prop:=
 ∀(J:J2 (Kf×L5)) (s:J8) (Y:St) (H:Hp) (x:V) (v vl vu:J5) (lo hi:J9 Ki) (sl:Kf) (Q:VK),Inv X J Y H s->RelV x v->s.heap.IsSliceOf sl vl vu .none->Oz vl lo->Oz vu hi->r x lo hi H Q->
  ∃T id,typeLookup (.type T) "__getitem__" = pure (gV (.builtin id))/\s.TypeIs v T/\wpAny (model X.prog X.w) X.A (getItem v (.ref sl)) (EP X J Y Q) X.xe s
abbrev JS (r:V->J9 Ki->J9 Ki->Hp->VK->Prop)(te:TE)(tl th:TO):TE:=λY H Q=>te Y H λx a=>tl Y a λl b=>th Y b λu c=>r x l u c Q
def wQ {r:V->J9 Ki->J9 Ki->Hp->VK->Prop}(k:Gh X r)(i:PE X e te)(hl:PO X lo tl)(n:PO X hi th):PE X (.Subscript e (.Slice lo hi td p2) pos) (JS r te tl th):=by
 intro J s Y H Q I h;show Subscript_ (bf (i J s Y H _ I h) λv o #[x,H1,I1,r1,q1]=>?_)
 show wpAny_Slice (bf (hl J o Y H1 _ I1 q1) λc p #[l,H2,I2,pl,q2]=>bf (n J p Y H2 _ I2 q2) λd a #[u,H3,I3,pu,q3]=>?_)
 rw[Se];show Kd ?_;have f:Inv X J Y H3 {a with heap:=a.heap.push {cls:=.type "slice",data:=.fields [c,d,.none].toArray}}:=I3.kept (t':=a.toks) λb ob q=>J7 _ q
 obtain⟨T,id,g,m,j⟩:=k J {a with heap:=a.heap.push {cls:=.type "slice",data:=.fields [c,d,.none].toArray}} Y H3 x v c d l u ⇑a.heap.objs Q f r1 (To ..) pl pu q3
 change wpAny (model X.prog X.w) X.A (subscriptTail e (.Slice lo hi td p2) v (.ref ⇑a.heap.objs)) (EP X J Y Q) X.xe {a with heap:=a.heap.push {cls:=.type "slice",data:=.fields [c,d,.none].toArray}}
 show tail_any (ops:=[.ref ⇑a.heap.objs,v]) m g j (by with_unfolding_all rfl)
abbrev kb (xs:J2 V)(lo hi:J9 Ki):J2 V:=(xs.drop (HT.bY ↥xs 0 lo)).take (HT.bY ↥xs ↥xs hi-HT.bY ↥xs 0 lo)
def jB (xs:J2 V)(lo hi:J9 Ki):(kb xs lo hi).length<=↥xs:=by
 unfold kb;rw[KY,Oe];omega
abbrev IH (K:Km):V->J9 Ki->J9 Ki->Hp->VK->Prop:=λx lo hi H Q=>∃a xs,x=.ref a/\SqT K H a xs/\
 ¬ (HT.bY ↥xs 0 lo=0/\HT.bY ↥xs ↥xs hi=↥xs)/\∀p,H p=td->Q (.ref p) (bv H p (.tup (kb xs lo hi)))
def DX:Gh X (IH X.K):=by
 intro J s Y H x v m n lo hi l Q I k f i j h;obtain⟨a,xs,rfl,g,hw,q⟩:=h;cases k;obtain⟨its,r,d,e⟩:=I.tuple g;have c:⇑its.toArray=↥xs:=by rw[Ks];show r.length.symm
 show#["tuple",_,PyProof.Rows.slot_tuple_getitem.lookup,d.typeIs,?_];show HT.iu d f i j (by rw[c];show hw) ?_ (by rw[c];show e)
 rw[c];show#[.ref ⇑s.heap.objs,_,I.laid (t':=s.toks) (o:=.tup (kb xs lo hi)) (λb ob q=>J7 _ q) (Kl _) ?_,rfl,q _ (I.hok.fresh (Kl _))]
 show#[#[Lq (jB xs lo hi) e,NoD.new _ _ _],_,(r.drop (HT.bY ↥xs 0 lo)).take (HT.bY ↥xs ↥xs hi-HT.bY ↥xs 0 lo),Ri _ _]
def Vals.nil_iff {xs:J2 V}{us:J2 J5}(r:Vals xs us):us=[]↔xs=[]:=by
 cases r with
 |nil=>simp
 |cons _ _=>simp
end
abbrev vZ (n:Kb)(i:Ki):J9 Kb:=if 0<=i then(if i<n then gV i.toNat else td)else if -(n:Ki)<=i then gV (i+n).toNat else td
abbrev qU {α:Type}(xs:J2 α)(i:Ki):J9 α:=(vZ ↥xs i).bind λj=>xs[j]?
def sM {n:Kb}{i:Ki}{j:Kb}(h:vZ n i=gV j):seqIndex? i n=gV j/\j<n/\-(n:Ki)<=i/\i<n:=by
 unfold vZ at h
 by_cases b:0<=i
 ·rw[KC b]at h
  by_cases a:i<n
  ·rw[KC a]at h;have e:i.toNat=j:=LJ h;show#[by rw[Rx b a,e],∅,∅,a]
  ·rw[KS a]at h;cases h
 ·rw[KS b]at h
  by_cases a : -(n:Ki)<=i
  ·rw[KC a]at h;have e:(i+n).toNat=j:=LJ h;show#[by rw[QX ∅ a,e],∅,a,∅]
  ·rw[KS a]at h;cases h
def nr {α:Type}{xs:J2 α}{i:Ki}{v:α}(h:qU xs i=gV v):∃j,seqIndex? i ↥xs=gV j/\xs[j]?=gV v/\j<↥xs/\-(↥xs:Ki)<=i/\i<↥xs:=by
 unfold qU at h;cases e:vZ ↥xs i with
 |none=>rw[e]at h;cases h
 |some j=>
  rw[e]at h;obtain⟨a,b,c,d⟩:=sM e;show#[j,a,h,b,c,d]
def atI_nat {α:Type}{xs:J2 α}{j:Kb}{v:α}(h:xs[j]?=gV v):qU xs (j:Ki)=gV v:=by
 have a:j<↥xs:=(Ko.mp h).1;have e:vZ ↥xs (j:Ki)=gV j:=by
  unfold vZ;rw[KC ∅,KC ∅];simp
 unfold qU;rw[e];show h
abbrev nu (b:KO):Prop:=∀o i,subscripted b false o i=operate [o,i] (getItem o i)
abbrev IxR (X:Cx)(r:R2):Prop:=
 ∀(b a:KO) (J:J2 (Kf×L5)) (s:J8) (Y:St) (H:Hp) (x y:V) (v u:J5) (Q:VK),Inv X J Y H s->RelV x v->RelV y u->r x y H Q->
  subscripted a false v u=operate [v,u] (getItem v u)->wpAny (model X.prog X.w) X.A (subscriptTail b a v u) (EP X J Y Q) X.xe s
abbrev MtR (X:Cx)(id:LV)(r:V->J2 V->Hp->VK->Prop):Prop:=
 ∀(J:J2 (Kf×L5)) (s:J8) (Y:St) (H:Hp) (x:V) (xs:J2 V) (v:J5) (us:J2 J5) (Q:VK),Inv X J Y H s->RelV x v->Vals xs us->r x xs H Q->
  wpAny (model X.prog X.w) X.A (call (.builtin id) (v::us)) (EP X J Y Q) X.xe s
section
variable{X:Cx}{a b:KO}{ta tb:TE}{pos:MN}
def Gi {r:R2}(g:IxR X r)(e:PE X a ta)(f:PE X b tb)(i:nu b):PE X (.Subscript a b pos) (HU r ta tb):=by
 intro J s Y H Q I h;show Subscript_ (DL e f I h λv u l x y c d j k q=>g a b J l Y c x y v u Q d j k q (i _ _))
abbrev II (K:Km):R2:=λx y H Q=>∃p xs i v,x=.ref p/\y=.int i/\SqL K H p xs/\qU xs i=gV v/\Q v H
abbrev IJ (K:Km):R2:=λx y H Q=>∃p xs i v,x=.ref p/\y=.int i/\SqT K H p xs/\qU xs i=gV v/\Q v H
abbrev IK:R2:=λx y H Q=>∃z i c,x=.str z/\y=.int i/\↥z<=sizeLine/\qU z.cps.toList i=gV c/\Q (.str #[[c].toArray]) H
def Av:IxR X (II X.K):=by
 intro f e J s Y H x y v u Q I C D h l;obtain⟨p,xs,i,z,rfl,rfl,B,A,q⟩:=h;cases C;obtain⟨t,rfl⟩:=D;obtain⟨its,r,c,M⟩:=I.list B;obtain⟨j,a,m,G,n,o⟩:=nr A;obtain⟨w,g,d⟩:=r.get m;have hl:=↥r;have L:=i9;have fin:EP X J Y Q w s:=#[z,H,I,d,q]
 by_cases k:0<=i
 ·have b:i.toNat=j:=by
   rw[Rx k o]at a;show LJ a
  show item_listR c.isList k ∅ (by rw[b];simpa using g) fin l
 ·have b:(i+(⇑its.toArray:Ki)).toNat=j:=by
   rw[QX ∅ n]at a
   rw[Ks,<- hl];show LJ a
  show Nl (x:=w) c.isList.typeIs slot_list_getitem.lookup
   (wpAny_getItem_list_neg (Q:=λr E=>r=w/\EP X J Y Q r E) c.isList ∅ (by rw[Ks]<;>omega) ∅ (by rw[b];simpa using g) #[rfl,fin]) l
def DY:IxR X (IJ X.K):=by
 intro c b J s Y H x y v u Q I n o h m;obtain⟨p,xs,i,z,rfl,rfl,l,k,q⟩:=h;cases n;obtain⟨t,rfl⟩:=o;obtain⟨its,r,d,G⟩:=I.tuple l;obtain⟨j,f,g,B,C,D⟩:=nr k;obtain⟨w,e,a⟩:=r.get g;have hl:=↥r;have E:=i9;have fin:EP X J Y Q w s:=#[z,H,I,a,q];show Nl (x:=w) d.typeIs slot_tuple_getitem.lookup
  (getItem_tuple (j:=j) (Q:=λr A=>r=w/\EP X J Y Q r A) d ∅ ∅ (by rw[Ks,<- hl];show f) (by simpa using e) #[rfl,fin]) m
def DZ:IxR X IK:=by
 intro b a J s Y H x y v u Q I o p h n;obtain⟨z,i,c,rfl,rfl,A,m,q⟩:=h;obtain⟨t,rfl⟩:=o;obtain⟨t',rfl⟩:=p;obtain⟨j,d,g,r,k,l⟩:=nr m;have hl:↥z.cps.toList=↥z:=by simp[Str.length]
 rw[hl]at d k l;have w:=i9;show tail_any (typeIs_str s z t) slot_str_getitem.lookup (getItem_str (c:=c) (by
  have e:decide (i < -(2^63:Ki))=false:=K4 ∅
  have f:decide (i>=2^63)=false:=K4 ∅
  rw[e,f,Sf]) (by rw[d];simpa using g) #[.str #[[c].toArray],H,I.tok _,#[_,rfl],q]) n
def rm (its:J2 J5)(n j:Kb)(u:J5):L7 (·.setIfInBounds j u) {cls:=.type "list",data:=.seq its.toArray n}={cls:=.type "list",data:=.seq (its.set j u).toArray n}:=by
 simp[L7]
def Inv.lst {J:J2 (Kf×L5)}{Y:St}{H:Hp}{s:J8}{p:Kf}{xs:J2 V}(I:Inv X J Y H s)(h:H p=gV (.lst xs)) :
  ∃(its:J2 J5) (n:Kb),Vals xs its/\s.heap.get? p=gV {cls:=.type "list",data:=.seq its.toArray n}/\↥xs<=sizeLine:=by
 obtain⟨z,its,n,r,e⟩:=I.hok p _ h;show#[its,n,r,e,z]
def Inv.lstUpd {J:J2 (Kf×L5)}{Y:St}{H:Hp}{s:J8}{p:Kf}{xs ys:J2 V}{its its':J2 J5}{n a:Kb}{f:L5->L5}(I:Inv X J Y H s)(h:H p=gV (.lst xs))
  (g:s.heap.get? p=gV {cls:=.type "list",data:=.seq its.toArray n}) (c:f {cls:=.type "list",data:=.seq its.toArray n}={cls:=.type "list",data:=.seq its'.toArray a}) (r:Vals ys its') (i:↥ys<=sizeLine) (t:Kb) :
  Inv X J Y (bv H p (.lst ys)) {s with heap:=s.heap.update p f,toks:=t}:=by
 have e:(s.heap.update p f).get? p=gV {cls:=.type "list",data:=.seq its'.toArray a}:=by
  rw[MX f g (by rw[c]<;>rfl),c]
 show I.write (x:=p) (e:=p) (by rw[h];trivial) (.inl rfl) (λb u d q=>(LF _ _ (Ne.symm d)).trans q) #[_,e] ?_
 show#[i,its',a,r,e]
abbrev Gj:V->V->V->Hp->(Hp->Prop)->Prop:=λo i v H Q=>∃p xs k j,o=.ref p/\i=.int k/\H p=gV (.lst xs)/\vZ ↥xs k=gV j/\Q (bv H p (.lst (xs.set j v)))
def wR:DD X Gj:=by
 intro J s Y H o i v C B u Q I x w y h;obtain⟨p,xs,k,j,rfl,rfl,g,l,q⟩:=h;cases x;obtain⟨t,rfl⟩:=w;obtain⟨its,n,r,b,m⟩:=I.lst g;obtain⟨a,z,e,f⟩:=sM l;have hl:=↥r;have A:=i9;have c:Inv X J Y (bv H p (.lst (xs.set j v))) {s with heap:=s.heap.update p (L7 (·.setIfInBounds j u))}:=
  I.lstUpd g b (rm its n j u) (r.set y j) (by rw[List.length_set];show m) s.toks
 by_cases d:0<=k
 ·have hk:k.toNat=j:=by
   rw[Rx d f]at a;show LJ a
  show PySem.W.ki_setAt b d ∅ (by rw[Ks,<- hl];show f) (by rw[hk];show#[_,c,q])
 ·have hk:(k+(⇑its.toArray:Ki)).toNat=j:=by
   rw[QX ∅ e]at a
   rw[Ks,<- hl];show LJ a
  show PySem.W.ki_setBack b ∅ (by rw[Ks,<- hl];show e) ∅ (by rw[hk];show#[_,c,q])
def nv (lo hi:J9 Ki)(n:Kb):(sliceBounds lo hi td n).1=((HT.bY n 0 lo:Kb):Ki)/\(sliceBounds lo hi td n).2.1=((HT.bY n n hi:Kb):Ki)/\(sliceBounds lo hi td n).2.2=1:=by
 show#[?_,?_,rfl]
 ·cases lo with
  |none=>simp[sliceBounds,HT.bY]
  |some i=>
   simp only[sliceBounds,HT.bY,Rl,show(1:Ki) > 0 by decide,MW]
   by_cases h:i<0
   ·simp only[h,MW]<;>omega
   ·simp only[h,ML]<;>omega
 ·cases hi with
  |none=>simp[sliceBounds,HT.bY]
  |some i=>
   simp only[sliceBounds,HT.bY,Rl,show(1:Ki) > 0 by decide,MW]
   by_cases h:i<0
   ·simp only[h,MW]<;>omega
   ·simp only[h,ML]<;>omega
def lM (its:J2 J5)(lo hi:J9 Ki):slicePick its.toArray lo hi td=((its.drop (HT.bY ↥its 0 lo)).take (HT.bY ↥its ↥its hi-HT.bY ↥its 0 lo)).toArray:=by
 obtain⟨a,b,c⟩:=nv lo hi ⇑its.toArray;unfold slicePick;rw[a,b,c];simp only[sliceRange_one,pick_run,Ks]<;>rfl
abbrev IL (K:Km):V->J9 Ki->J9 Ki->Hp->VK->Prop:=λx lo hi H Q=>∃a xs,x=.ref a/\SqL K H a xs/\∀p,H p=td->Q (.ref p) (bv H p (.lst (kb xs lo hi)))
def Aw:Gh X (IL X.K):=by
 intro J s Y H x v m n lo hi l Q I k e i j h;obtain⟨a,xs,rfl,f,q⟩:=h;cases k;obtain⟨its,r,d,g⟩:=I.list f;have c:=↥r;show#["list",_,slot_list_getitem.lookup,d.isList.typeIs,?_];show wpAny_getItem_list_slice d.isList e i j .none (by simp) ?_ (by rw[Ks]<;>omega)
 rw[lM,<- c];show#[.ref ⇑s.heap.objs,_,I.laid (t':=s.toks) (o:=.lst (kb xs lo hi)) (λb ob q=>J7 _ q) (Kl _) ?_,rfl,q _ (I.hok.fresh (Kl _))]
 show#[Lq (jB xs lo hi) g,_,0,(r.drop (HT.bY ↥xs 0 lo)).take (HT.bY ↥xs ↥xs hi-HT.bY ↥xs 0 lo),Kr _ rfl]
abbrev gL:V->KR
 |.non=>true
 |.bl _=>true
 |.int _=>true
 |.str _=>true
 |_=>false
abbrev Ax:V->V->KR
 |.non,.non=>true
 |.bl a,.bl b=>a==b
 |.bl a,.int b=>(if a then 1 else 0)==b
 |.int a,.bl b=>a==(if b then 1 else 0)
 |.int a,.int b=>a==b
 |.str a,.str b=>a==b
 |_,_=>false
def D0 {A:KZ}{s:J8}{y x:V}{u v:J5}(e:RelV y u)(c:RelV x v)(f:gL y=true)(d:gL x=true):Of A s u v (Ax y x):=by
 cases y with
 |non=>
  cases e;cases x with
  |non=>cases c;show TJ _
  |bl b=>cases c;show SW b
  |int b=>obtain⟨t,rfl⟩:=c;show Td b t
  |str b=>obtain⟨t,rfl⟩:=c;show Te b t
  |_=>show absurd (show false=true from d) KJ
 |bl a=>
  cases e;cases x with
  |non=>cases c;show SX a
  |bl b=>cases c;show SY a b
  |int b=>obtain⟨t,rfl⟩:=c;show Tf a b t
  |str b=>obtain⟨t,rfl⟩:=c;show Th a b t
  |_=>show absurd (show false=true from d) KJ
 |int a=>
  obtain⟨t',rfl⟩:=e;cases x with
  |non=>cases c;show Ti a t'
  |bl b=>cases c;show Tj a t' b
  |int b=>obtain⟨t,rfl⟩:=c;show Tp a t' b t
  |str b=>obtain⟨t,rfl⟩:=c;show Qs a t' b t
  |_=>show absurd (show false=true from d) KJ
 |str a=>
  obtain⟨t',rfl⟩:=e;cases x with
  |non=>cases c;show Tk a t'
  |bl b=>cases c;show Tl a t' b
  |int b=>obtain⟨t,rfl⟩:=c;show Qt a t' b t
  |str b=>obtain⟨t,rfl⟩:=c;show Tq a t' b t
  |_=>show absurd (show false=true from d) KJ
 |_=>show absurd (show false=true from f) KJ
abbrev oO (x:V)(u:J5):KR:=match u with
 |.none=>Ax .non x
 |.bool b=>Ax (.bl b) x
 |.int i _=>Ax (.int i) x
 |.str z _=>Ax (.str z) x
 |_=>false
def rn {x y:V}{u:J5}(r:RelV y u)(f:gL y=true):oO x u=Ax y x:=by
 cases y with
 |non=>cases r;rfl
 |bl b=>cases r;rfl
 |int i=>obtain⟨t,rfl⟩:=r;rfl
 |str z=>obtain⟨t,rfl⟩:=r;rfl
 |_=>show absurd (show false=true from f) KJ
def iw {x:V}:∀{xs:J2 V}{us:J2 J5},Vals xs us->xs.all gL=true->us.any (oO x)=xs.any λy=>Ax y x
 |_,_,.nil,_=>rfl
 |y::xs,u::us,.cons r t,f=>by
  rw[Ls,Kc]at f;rw[Ma,Ma,rn r f.1,iw t f.2]
def dH {A:KZ}{s:J8}{x:V}{v:J5}(c:RelV x v)(b:gL x=true):∀{xs:J2 V}{us:J2 J5},Vals xs us->xs.all gL=true->∀u∈us,Of A s u v (oO x u)
 |_,_,.nil,_=>λu a=>by cases a
 |y::xs,u::us,.cons r t,f=>λd a=>by
  rw[Ls,Kc]at f;rcases KH.mp a with rfl|a
  ·rw[rn r f.1];show D0 r c f.1 b
  ·show dH c b t f.2 d a
abbrev HW (x:V)(xs:J2 V):KR:=xs.any λy=>Ax y x
abbrev IM (K:Km)(neg:KR):R2:=λx y H Q=>∃p xs,y=.ref p/\(SqL K H p xs\/SqT K H p xs)/\gL x=true/\xs.all gL=true/\Q (.bl (if neg then !HW x xs else HW x xs)) H
def uW:OpR X (compareOp .In) (IM X.K false):=by
 intro J s Y H x y v u Q I e g h;obtain⟨p,xs,rfl,a,d,b,q⟩:=h;cases g;rcases a with a|a
 ·obtain⟨its,r,c,f⟩:=I.list a;show RC (oO x) c.isList (λw hw=>dH e d r b w (by simpa using hw)) #[.bl _,H,I,rfl,?_]
  rw[show its.toArray.any (oO x)=its.any (oO x) by simp,iw r b]
  show q
 ·obtain⟨its,r,c,f⟩:=I.tuple a;show Rm (oO x) c (λw hw=>dH e d r b w (by simpa using hw)) #[.bl _,H,I,rfl,?_]
  rw[show its.toArray.any (oO x)=its.any (oO x) by simp,iw r b]
  show q
def nw:OpR X (compareOp .NotIn) (IM X.K true):=by
 intro J s Y H x y v u Q I e g h;obtain⟨p,xs,rfl,a,d,b,q⟩:=h;cases g;rcases a with a|a
 ·obtain⟨its,r,c,f⟩:=I.list a;show Qz (oO x) c.isList (λw hw=>dH e d r b w (by simpa using hw)) #[.bl _,H,I,rfl,?_]
  rw[show its.toArray.any (oO x)=its.any (oO x) by simp,iw r b]
  show q
 ·obtain⟨its,r,c,f⟩:=I.tuple a;show SeqAt.notIn_tupleAt (oO x) c (λw hw=>dH e d r b w (by simpa using hw)) #[.bl _,H,I,rfl,?_]
  rw[show its.toArray.any (oO x)=its.any (oO x) by simp,iw r b]
  show q
def ny:CallR X (.type "list") (λxs H Q=>∃p ys,xs=[.ref p]/\(SqL X.K H p ys\/SqT X.K H p ys)/\∀l,H l=td->Q (.ref l) (bv H l (.lst ys))):=by
 intro J s Y H xs us Q I r h;obtain⟨p,ys,rfl,f,q⟩:=h;obtain⟨u,rfl,m⟩:=oW r;cases m;have fin:∀(its:J2 J5),Vals ys its->↥ys<=sizeLine->∀(h':Lh) (a:Kb),(∀b k,s.heap.get? b=gV k->h'.get? b=gV k)->
   h'.get? ⇑s.heap.objs=gV {cls:=.type "list",dict:=td,data:=.seq its.toArray a,slots:=#[]}->EP X J Y Q (.ref ⇑s.heap.objs) {s with heap:=h'}:=λits c g h' a kp e=>
  #[.ref ⇑s.heap.objs,_,I.laid (t':=s.toks) kp (Kl _) (show ObjOk X.prog X.w _ h' _ (.lst ys)from#[g,its,a,c,e]),rfl,q _ (I.hok.fresh (Kl _))]
 rcases f with f|f
 ·obtain⟨its,c,j,g⟩:=I.list f;have d:=↥c;obtain⟨o,i,hc,n,hd⟩:=j.isList;show Sg p (.inl rfl) i hc hd (λh' a kp e=>fin its c g h' a kp e) (by simp only[Ks]<;>omega)
 ·obtain⟨its,c,j,g⟩:=I.tuple f;have d:=↥c;obtain⟨o,i,hc,n,hd⟩:=j;show Sg p (.inr rfl) i hc hd (λh' a kp e=>fin its c g h' a kp e) (by simp only[Ks]<;>omega)
def gM:CallR X (.type "tuple") (λxs H Q=>∃p ys,xs=[.ref p]/\((SqL X.K H p ys/\∀l,H l=td->Q (.ref l) (bv H l (.tup ys)))\/(SqT X.K H p ys/\Q (.ref p) H))):=by
 intro J s Y H xs us Q I r h;obtain⟨p,ys,rfl,h⟩:=h;obtain⟨u,rfl,k⟩:=oW r;cases k;rcases h with⟨a,q⟩|⟨a,q⟩
 ·obtain⟨its,d,c,i⟩:=I.list a;have g:=↥d;show call_tuple_list c.isList (λh' kp=>?_) (by simp only[Ks]<;>omega)
  have f:Inv X J Y H {s with heap:=h'}:=I.kept (t':=s.toks) kp
  have j:Inv X J Y (bv H ⇑h'.objs (.tup ys)) {s with heap:=h'.push {cls:=.type "tuple",data:=.seq its.toArray}}:=
   f.laid (t':=s.toks) (λb o e=>J7 _ e) (Kl _) (show ObjOk X.prog X.w _ _ _ (.tup ys)from#[#[i,NoD.new _ _ _],its,d,Ri _ _])
  show#[.ref ⇑h'.objs,_,j,rfl,q _ (f.hok.fresh (Kl _))]
 ·obtain⟨its,d,c,i⟩:=I.tuple a;show call_tuple_same c #[.ref p,H,I,rfl,q]
abbrev IN (K:Km)(T:LV)(x:V)(H:Hp):Prop:=match x with
 |.str _=>T="str"
 |.int _=>T="int"
 |.ref p=>(T="list"/\∃xs,SqL K H p xs)\/(T="tuple"/\∃o,K.lookup p=gV o/\o.cls=.type "tuple"/\o.dict=td)\/
   (T="dict"/\((∃U,H p=gV (.dK U))\/∃U,H p=gV (.dT U)))\/(T="set"/\∃S n,H p=gV (.set S n))
 |_=>LM
def wW {J:J2 (Kf×L5)}{Y:St}{H:Hp}{s:J8}{T:LV}{x:V}{v:J5}(I:Inv X J Y H s)(r:RelV x v)(ty:IN X.K T x H) :
  s.TypeIs v T/\∀a,v=.ref a->∃ob,s.heap.get? a=gV ob/\ob.dict=td:=by
 cases x with
 |str z=>
  obtain⟨t,rfl⟩:=r;cases(show T="str" from ty)
  show#[typeIs_str s z t,λ_ e=>nomatch e]
 |int i=>
  obtain⟨t,rfl⟩:=r;cases(show T="int" from ty)
  show#[RQ s i t,λ_ e=>nomatch e]
 |ref p=>
  cases r;rcases ty with⟨rfl,xs,f⟩|⟨rfl,o,hk,hc,hd⟩|⟨rfl,hk⟩|⟨rfl,S,n,hk⟩
  ·obtain⟨its,_,d,_⟩:=I.list f;show#[d.isList.typeIs,λa e=>?_]
   cases e;obtain⟨o,n,e,c,hd,_⟩:=d;show#[o,e,hd]
  ·show#[#[o,I.kIn p o hk,hc],λa e=>?_]
   cases e;show#[o,I.kIn _ o hk,hd]
  ·have z:∃o,s.heap.get? p=gV o/\o.ExactDict:=by
    rcases hk with⟨U,hk⟩|⟨U,hk⟩
    ·obtain⟨_,_,_,_,o,_,_,e,ex,_⟩:=I.hok p _ hk;show#[o,e,ex]
    ·obtain⟨_,_,_,_,o,_,_,e,ex,_⟩:=I.hok p _ hk;show#[o,e,ex]
   obtain⟨o,e,ex⟩:=z;show#[#[o,e,ex.1],λa b=>?_]
   cases b;show#[o,e,ex.2.1]
  ·obtain⟨o,_,_,_,e,ex,_⟩:=I.hok p _ hk;show#[#[o,e,ex.1],λa b=>?_]
   cases b;show#[o,e,ex.2.1]
 |_=>show LM.elim ty
variable{o e:KO}{es:J2 KO}{to:TE}{t:TA}{name:KG}{apos cpos:MN}{T id:LV}{r:V->J2 V->Hp->VK->Prop}
end
abbrev IP (X:Cx)(id:LV)(r:V->J2 V->Hp->VK->Prop):Prop:=
 ∀(J:J2 (Kf×L5)) (s:J8) (Y:St) (H:Hp) (x:V) (xs:J2 V) (v:J5) (us:J2 J5) (Q:VK),Inv X J Y H s->RelV x v->Vals xs us->r x xs H Q->
  wpAny (model X.prog X.w) X.A (call (.builtin id) (v::us)) (EP X J Y Q) X.xe s
def Vals.one:∀{x:V}{us:J2 J5},Vals [x] us->∃u,us=[u]/\RelV x u
 |_,_,.cons r .nil=>#[_,rfl,r]
def Vals.eraseIdx:∀{xs:J2 V}{us:J2 J5} (i:Kb),Vals xs us->Vals (xs.eraseIdx i) (us.eraseIdx i)
 |_,_,_,.nil=>.nil
 |_,_,0,.cons _ t=>t
 |_,_,i+1,.cons r t=>.cons r (Vals.eraseIdx i t)
def Vals.rep {xs:J2 V}{us:J2 J5}(h:Vals xs us):∀k:Kb,Vals (KU k xs).flatten (KU k us).flatten
 |0=>.nil
 |k+1=>by
  rw[Mk,Mk,M3,M3];show Vals.append h (Vals.rep h k)
def lZ {α:Type}:∀(l:J2 α) (i:Kb),(l.eraseIdx i).length<=↥l
 |[],_=>Kl _
 |_::_,0=>Nk _
 |_::r,i+1=>O7 (lZ r i)
def l4 (its:J2 J5):∀(k:Kb) (acc:J2 J5),
  RS (λb c=>b++c) acc.toArray (KU k its.toArray)=(acc++(KU k its).flatten).toArray
 |0,acc=>by simp
 |k+1,acc=>by
  have e:acc.toArray++its.toArray=(acc++its).toArray:=by simp
  have a:(acc++its)++(KU k its).flatten=acc++(KU (k+1) its).flatten:=by
   rw[Mk,M3,L4]
  rw[<- a,<- l4 its k (acc++its),<- e,Mk,List.foldl_cons]
section
variable{X:Cx}{J:J2 (Kf×L5)}{Y:St}{H:Hp}{s:J8}{l b:Kf}{xs ys zs:J2 V}
def Inv.lset {its its':J2 J5}{n:Kb}{f:Lm J5->Lm J5}{t':Kb}(I:Inv X J Y H s)(a:H l=gV (.lst xs))
  (e:s.heap.get? l=gV {cls:=.type "list",data:=.seq its.toArray n}) (c:f its.toArray=its'.toArray) (g:Vals ys its') (h:↥ys<=sizeLine) :
  Inv X J Y (bv H l (.lst ys)) {s with heap:=s.heap.update l (L7 f),toks:=t'}:=by
 have q:=Rn e f;rw[c]at q;show I.write (x:=l) (e:=l) (by rw[a];show trivial) (.inl rfl) (λi u b d=>(LF s.heap (L7 f) (Ne.symm b)).trans d) #[_,q] ?_
 show#[h,its',_,g,q]
def Inv.lnew {its:J2 J5}{t':Kb}(I:Inv X J Y H s)(a:Vals ys its)(b:↥ys<=sizeLine) :
  Inv X J Y (bv H ⇑s.heap.objs (.lst ys)) {s with heap:=s.heap.push {cls:=.type "list",data:=.seq its.toArray},toks:=t'}:=
 I.laid (λ_ _ q=>J7 _ q) (Kl _) #[b,its,0,a,Kr _ rfl]
def Inv.fresh (I:Inv X J Y H s):H ⇑s.heap.objs=td:=I.hok.fresh (Kl _)
def Inv.lstM (I:Inv X J Y H s)(a:H l=gV (.lst xs)):↥xs<=sizeLine/\∃(its:J2 J5) (n:Kb),Vals xs its/\↥xs=↥its/\s.heap.get? l=gV {cls:=.type "list",data:=.seq its.toArray n}:=by
 obtain⟨z,its,n,r,e⟩:=I.hok l _ a;show#[z,its,n,r,↥r,e]
def oZ {n:Kb}(h:n<=sizeLine):M7 n=false:=by
 unfold M7;show K4 ∅
end
section
variable{X:Cx}
abbrev Ay:V->J2 V->Hp->VK->Prop:=λx vs H Q=>∃l xs y,x=.ref l/\vs=[y]/\H l=gV (.lst xs)/\↥xs<sizeLine/\Q .non (bv H l (.lst (xs++[y])))
def uX:IP X "list.append" Ay:=by
 intro J s Y H x vs v us Q I d c h;obtain⟨l,xs,y,rfl,rfl,a,f,q⟩:=h;cases d;obtain⟨u,rfl,b⟩:=c.one;obtain⟨z,its,n,r,hl,e⟩:=I.lstM a;show Nm F.slot_list_append #[_,e,rfl] F.entry_list_append (F.args_list_append_2 _ _) (QY l its.toArray n u (by rw[Ks];omega)) #[e,?_]
 show#[.non,_,I.lset (its':=its++[u]) a e (by simp) (r.append #v[b]) ?_,rfl,q]
 rw[Kh,Lj];omega
abbrev Az:V->J2 V->Hp->VK->Prop:=λx vs H Q=>∃l b xs zs,x=.ref l/\vs=[.ref b]/\H l=gV (.lst xs)/\H b=gV (.lst zs)/\↥xs+↥zs<=sizeLine/\Q .non (bv H l (.lst (xs++zs)))
def uY:IP X "list.extend" Az:=by
 intro J s Y H x vs v us Q I p o h;obtain⟨l,b,xs,zs,rfl,rfl,d,g,t,q⟩:=h;cases p;obtain⟨u,rfl,m⟩:=o.one;cases m;obtain⟨z,its,n,r,hl,e⟩:=I.lstM d;obtain⟨w,a,j,k,i,f⟩:=I.lstM g;have hsz:⇑its.toArray+⇑a.toArray<=sizeLine:=by rw[Ks,Ks];omega
 have c:¬ (!its.toArray.isEmpty&&M7 (⇑its.toArray+⇑a.toArray))=true:=by
  rw[oZ hsz,Bool.and_false];show KJ
 show Nm F.slot_list_extend #[_,e,rfl] F.entry_list_extend (F.args_list_extend_2 _ _)
  (QZ l its.toArray n b a.toArray j c (by rw[Ks];omega) ∅) #[e,f,?_]
 show#[.non,_,I.lset (its':=its++a) d e (by simp) (r.append k) ?_,rfl,q]
 rw[Kh];omega
abbrev D1:V->J2 V->Hp->VK->Prop:=λx vs H Q=>∃l xs i k y,x=.ref l/\vs=[.int i]/\H l=gV (.lst xs)/\-(2^63)<=i/\i<2^63/\seqIndex? i ↥xs=gV k/\xs[k]?=gV y/\Q y (bv H l (.lst (xs.eraseIdx k)))
def wX:IP X "list.pop" D1:=by
 intro J s Y H x vs v us Q I m j h;obtain⟨l,xs,i,k,y,rfl,rfl,b,c,d,hk,f,q⟩:=h;cases m;obtain⟨u,rfl,g⟩:=j.one;obtain⟨t,rfl⟩:=g;obtain⟨z,its,n,r,hl,e⟩:=I.lstM b;obtain⟨w,hw,a⟩:=r.get f;show Nm F.slot_list_pop #[_,e,rfl] F.entry_list_pop (F.args_list_pop_2 _ _)
  (SZ l its.toArray n i t k w (RT c d) (by rw[Ks,<- hl];show hk) (by rw[<- LL];show hw) (by rw[Ks];omega)) #[e,?_]
 show#[y,_,I.lset (its':=its.eraseIdx k) b e ?_ (r.eraseIdx k) ?_,a,q]
 ·change its.toArray.eraseIdxIfInBounds k=(its.eraseIdx k).toArray;rw[List.eraseIdxIfInBounds_toArray]
 ·have:=lZ xs k;omega
abbrev IQ:R2:=λx y H Q=>∃l b xs zs,x=.ref l/\y=.ref b/\H l=gV (.lst xs)/\H b=gV (.lst zs)/\↥xs+↥zs<=sizeLine/\∀p,H p=td->Q (.ref p) (bv H p (.lst (xs++zs)))
def D3:OpR X (binaryOp .Add) IQ:=by
 intro J s Y H x y v u Q I k m h;obtain⟨l,b,xs,zs,rfl,rfl,g,f,o,q⟩:=h;cases k;cases m;obtain⟨z,its,n,r,hl,e⟩:=I.lstM g;obtain⟨t,a,p,j,i,c⟩:=I.lstM f;show PySem.P.add_list e c ?_ (by rw[Ks,Ks];omega)
 have d:its.toArray++a.toArray=(its++a).toArray:=by simp
 rw[d];show#[.ref _,_,I.lnew (t':=s.toks) (r.append j) (by rw[Kh];omega),rfl,q _ I.fresh]
abbrev IR:R2:=λx y H Q=>∃l k xs,x=.ref l/\y=.int k/\H l=gV (.lst xs)/\-(2^63)<=k/\k<2^63/\↥xs*k.toNat<=sizeLine/\
 ∀p,H p=td->Q (.ref p) (bv H p (.lst (KU k.toNat xs).flatten))
def AA {α:Type}(xs:J2 α)(k:Kb):(KU k xs).flatten.length=k*↥xs:=by
 induction k with
 |zero=>simp
 |succ k ih=>rw[Mk,M3,Kh,ih,SG,Nat.add_comm]
def D4:OpR X (binaryOp .Mult) IR:=by
 intro J s Y H x y v u Q I C D h;obtain⟨l,k,xs,rfl,rfl,B,w,A,o,q⟩:=h;cases C;obtain⟨t,rfl⟩:=D;obtain⟨z,its,n,r,hl,e⟩:=I.lstM B;have f:⇑its.toArray*k.toNat<=sizeLine:=by rw[Ks,<- hl];show o
 have c:¬ ⇑its.toArray*k.toNat > (2^63-1)/8:=by
  have:(sizeLine:Kb)<=(2^63-1)/8:=by decide
  omega
 have d:¬ (!RV k)=true:=by
  rw[RT w A];show KJ
 have b:¬ M7 (⇑its.toArray*k.toNat)=true:=by
  rw[oZ f];show KJ
 have g:RS (λi j=>i++j) #[] (KU (if its.toArray.isEmpty=true then 0 else k.toNat) its.toArray)=(KU k.toNat its).flatten.toArray:=by
  have p:∀m:Kb,RS (λi j=>i++j) #[] (KU m its.toArray)=(KU m its).flatten.toArray:=λm=>by
   have:=l4 its m [];rw[Pz]at this;show this
  rw[p];cases its with
  |nil=>simp
  |cons a G=>rw[KS (by simp)]
 show wpAny_binaryOp_repeat_ref (T:="list") (U:="int") #v[] #[_,e,rfl] (λE=>RQ E k t) noFill_list_mul F.fills_int_mul F.slot_int_rmul repeat_list F.slot_int_index.lookup
  (Nm F.slot_int_rmul (RQ s k t) F.entry_int_rmul (F.args_int_rmul_2 _ _) (int___rmul___int_list k t l its.toArray n)
   #[e,rfl,#[_,e,rfl],Nm F.slot_list_mul #[_,e,rfl] F.entry_list_mul (F.args_list_mul_2 _ _) (QM l its.toArray n k t d c b) #[e,?_]])
 rw[g];show#[.ref _,_,I.lnew (t':=s.toks) (r.rep k.toNat) (by rw[AA,Nat.mul_comm];show o),rfl,q _ I.fresh]
end
section
variable{κ:Type} [Ny κ]
abbrev ja (U:J2 (κ×V))(k:κ):J9 V:=(U.find? λa=>decide (a.1=k)).map (·.2)
abbrev fF (U:J2 (κ×V))(k:κ)(v:V):J2 (κ×V):=
 if (U.any λa=>decide (a.1=k))=true then U.map (λa=>if a.1=k then(a.1,v)else a)else U++[(k,v)]
def iy {p:κ×V}{r:J2 (κ×V)}{k:κ}(e:p.1=k):ja (p::r) k=gV p.2:=by simp[ja,LA,e]
def iA {p:κ×V}{r:J2 (κ×V)}{k:κ}(e:¬ p.1=k):ja (p::r) k=ja r k:=by simp[ja,LA,e]
def o4 (k:κ):∀U:J2 (κ×V),(U.any λa=>decide (a.1=k))=(ja U k).isSome
 |[]=>rfl
 |p::r=>by
  rw[Ma]
  by_cases e:p.1=k
  ·simp only[iy e,Ld e,Bool.true_or,Option.isSome_some]
  ·rw[iA e,K4 e,Oi];show o4 k r
def dZ (U:J2 (κ×V))(k:κ)(v:V):(fF U k v).length<=↥U+1:=by
 unfold fF;split
 ·rw[J4];omega
 ·rw[Kh,K5,Mb];omega
def RelO.isSome_eq {o:J9 V}{u:J9 J5}(r:RelO o u):o.isSome=u.isSome:=by
 cases o with
 |none=>cases u with
  |none=>rfl
  |some _=>show(show LM from r).elim
 |some _=>cases u with
  |none=>show(show LM from r).elim
  |some _=>rfl
def KV.val {U:J2 (κ×V)}{vs:J2 (κ×J5)}(r:KV U vs)(k:κ):RelO (ja U k) (valueAt vs k):=by
 unfold KV at r
 induction r with
 |nil=>show M8
 |@cons p q ps c h t ih=>
  obtain⟨d,f⟩:=h
  by_cases e:p.1=k
  ·have a:q.1=k:=d.symm.trans e;have b:valueAt (q::c) k=gV q.2:=by simp[valueAt,LA,a]
   rw[iy e,b];show f
  ·have a:¬ q.1=k:=λz=>e (d.trans z)
   have b:valueAt (q::c) k=valueAt c k:=by simp[valueAt,LA,a]
   rw[iA e,b];show ih
def KV.any {U:J2 (κ×V)}{vs:J2 (κ×J5)}(r:KV U vs)(k:κ):(U.any λa=>decide (a.1=k))=vs.any λa=>decide (a.1=k):=by
 unfold KV at r
 induction r with
 |nil=>rfl
 |cons h t ih=>rw[Ma,Ma,ih,h.1]
def KV.repl {U:J2 (κ×V)}{vs:J2 (κ×J5)}(r:KV U vs)(k:κ){y:V}{u:J5}(d:RelV y u) :
  KV (U.map λa=>if a.1=k then(a.1,y)else a) (vs.map λa=>if a.1=k then(a.1,u)else a):=by
 unfold KV at r ⊢
 induction r with
 |nil=>show .nil
 |@cons p q ps f h t ih=>
  rw[Lb,Lb];show .cons ?_ ih;obtain⟨b,c⟩:=h
  by_cases e:p.1=k
  ·rw[KC e,KC (b.symm.trans e)];show#[b,d]
  ·rw[KS e,KS (λz=>e (b.trans z))];show#[b,c]
def KV.put {U:J2 (κ×V)}{vs:J2 (κ×J5)}(r:KV U vs)(k:κ){y:V}{u:J5}(a:RelV y u):KV (fF U k y) (stored vs k u):=by
 unfold fF stored;rw[r.any k]
 by_cases e:(vs.any λb=>decide (b.1=k))=true
 ·rw[KC e,KC e];show r.repl k a
 ·rw[KS e,KS e];show P2 r #[rfl,a]
def KV.length {U:J2 (κ×V)}{vs:J2 (κ×J5)}(r:KV U vs):↥U=↥vs:=Nr r
end
def l7 {P:KQ}{w:K8}{k:bq}{u:J5}(r:RelV (kV k) u):(aJ P w).is k u=true:=by
 cases k with
 |inl i=>obtain⟨t,e⟩:=(show ∃t,u=Oq i t from r);subst e;show oP P w i t
 |inr x=>obtain⟨t,e⟩:=(show ∃t,u=Os x t from r);subst e;show oQ P w x t
def l8 {P:KQ}{w:K8}:∀{ks:J2 bq}{us:J2 J5},Vals (ks.map kV) us->ItemsAre (aJ P w) ks us
 |[],_,r=>by rw[Pi]at r;cases r;show .nil
 |k::ks,_,r=>by
  rw[Lb]at r;cases r with
  |cons h t=>show .cons (l7 h) (l8 t)
noncomputable abbrev KT (H:Hp):J2 (J2 bq×V)->J2 (J2 bq×Kf×J5)->Prop:=Ot λp q=>p.1=q.1/\H q.2.1=gV (.tup (p.1.map kV))/\RelV p.2 q.2.2
def KT.val {H:Hp}{U:J2 (J2 bq×V)}{xs:J2 (J2 bq×Kf×J5)}(r:KT H U xs)(k:J2 bq):RelO (ja U k) ((atKey xs k).map (·.2)):=by
 induction r with
 |nil=>show M8
 |@cons p q ps c h t ih=>
  obtain⟨d,_,f⟩:=h
  by_cases e:p.1=k
  ·have a:q.1=k:=d.symm.trans e;have b:atKey (q::c) k=gV q.2:=by simp[atKey,LA,a]
   rw[iy e,b];show f
  ·have a:¬ q.1=k:=λz=>e (d.trans z)
   have b:atKey (q::c) k=atKey c k:=by simp[atKey,LA,a]
   rw[iA e,b];show ih
def KT.repl {H:Hp}{U:J2 (J2 bq×V)}{xs:J2 (J2 bq×Kf×J5)}(r:KT H U xs)(k:J2 bq){y:V}{u:J5}(f:RelV y u) :
  KT H (U.map λb=>if b.1=k then(b.1,y)else b) (xs.map (putAt k u)):=by
 induction r with
 |nil=>show .nil
 |@cons p q ps g h t ih=>
  rw[Lb,Lb];show .cons ?_ ih;obtain⟨a,c,d⟩:=h;unfold putAt
  by_cases e:p.1=k
  ·rw[KC e,KC (a.symm.trans e)];show#[a,c,f]
  ·rw[KS e,KS (λz=>e (a.trans z))];show#[a,c,d]
def KT.put {H:Hp}{U:J2 (J2 bq×V)}{xs:J2 (J2 bq×Kf×J5)}(r:KT H U xs)(k:J2 bq){b:Kf}{y:V}{u:J5}(c:H b=gV (.tup (k.map kV)))(a:RelV y u) :
  KT H (fF U k y) (storedH xs k b u):=by
 have e:(U.any λd=>decide (d.1=k))=(atKey xs k).isSome:=by
  rw[o4,(r.val k).isSome_eq,OV]
 unfold fF storedH;rw[e]
 by_cases q:(atKey xs k).isSome=true
 ·rw[KC q,KC q];show r.repl k a
 ·rw[KS q,KS q];show P2 r #[rfl,c,a]
def KT.keeps {H a:Hp}{U:J2 (J2 bq×V)}{xs:J2 (J2 bq×Kf×J5)}(r:KT H U xs)(c:∀b ys,H b=gV (.tup ys)->a b=gV (.tup ys)):KT a U xs:=
 Paired.mapP r λ_ _ z=>#[z.1,c _ _ z.2.1,z.2.2]
section
variable{P:KQ}{w:K8}{H:Hp}{h:Lh}{a:Kf}
def CH {u:HO}(ok:HOk P w H h)(e:Rd H a u):ObjOk P w H h a u:=e.ok ok
def ke {U:J2 (bq×V)}(ok:HOk P w H h)(e:Rd H a (.dK U)):↥U<=sizeLine/\(a==sysModules)=false/\∃vs,KV U vs/\h.DictOf (aJ P w) a vs:=
 show ObjOk P w H h a (.dK U)from CH ok e
def Gk {U:J2 (bq×V)}(ok:HOk P w H h)(e:H a=gV (.dK U)):↥U<=sizeLine/\(a==sysModules)=false/\∃vs,KV U vs/\h.DictOf (aJ P w) a vs:=ke ok (.inl e)
def nz {ks:J2 bq}(ok:HOk P w H h)(e:H a=gV (.tup (ks.map kV))):(tupleKind (aJ P w)).is h ks a:=by
 obtain⟨_,its,r,o,b,c,n,d⟩:=(show ObjOk P w H h a (.tup (ks.map kV))from ok a _ e)
 show#[o,its.toArray,n,b,c,d,by simpa using l8 r]
def wY {U:J2 (J2 bq×V)}(ok:HOk P w H h)(e:Rd H a (.dT U)):↥U<=sizeLine/\(a==sysModules)=false/\
  ∃xs,KT H U xs/\h.DictOfH (tupleKind (aJ P w)) a xs:=by
 obtain⟨z,y,xs,r,o,es,ep,d,f,g,i,j⟩:=(show ObjOk P w H h a (.dT U)from CH ok e)
 show#[z,y,xs,r,o,es,ep,d,f,g,i,λx b=>?_,j]
 have all:∀{l:J2 (J2 bq×V)}{m:J2 (J2 bq×Kf×J5)},KT H l m->∀x∈m,(tupleKind (aJ P w)).is h x.1 x.2.1:=by
  intro l m q
  induction q with
  |nil=>intro x b;show nomatch b
  |@cons p q ps k c t ih=>
   intro x b;rcases KH.mp b with e|b
   ·subst e;show nz ok (by rw[<- c.1];show c.2.1)
   ·show ih x b
 show all r x b
def Gm {U:J2 (J2 bq×V)}(ok:HOk P w H h)(e:H a=gV (.dT U)):↥U<=sizeLine/\(a==sysModules)=false/\
  ∃xs,KT H U xs/\h.DictOfH (tupleKind (aJ P w)) a xs:=wY ok (.inl e)
end
abbrev DGet (H:Hp)(a:Kf)(y:V)(r:J9 V):Prop:=
 (∃U k,Rd H a (.dK U)/\y=kV k/\r=ja U k)\/∃U k b,Rd H a (.dT U)/\y=.ref b/\H b=gV (.tup (k.map kV))/\r=ja U k
abbrev DPut (H:Hp)(a:Kf)(y v:V)(c:Hp):Prop:=
 (∃U k,H a=gV (.dK U)/\y=kV k/\↥U<sizeLine/\c=bv H a (.dK (fF U k v)))\/
 ∃U k b,H a=gV (.dT U)/\y=.ref b/\H b=gV (.tup (k.map kV))/\↥U<sizeLine/\c=bv H a (.dT (fF U k v))
def DGet.k {H:Hp}{a:Kf}{U:J2 (bq×V)}{k:bq}(e:H a=gV (.dK U)):DGet H a (kV k) (ja U k):=.inl #[U,k,.inl e,rfl,rfl]
def DPut.k {H:Hp}{a:Kf}{U:J2 (bq×V)}{k:bq}{v:V}(e:H a=gV (.dK U))(hl:↥U<sizeLine):DPut H a (kV k) v (bv H a (.dK (fF U k v))):=.inl #[U,k,e,rfl,hl,rfl]
section
variable{X:Cx}{J:J2 (Kf×L5)}{Y:St}{H:Hp}{s:J8}{a:Kf}{y v:V}{u r:J5}{o:J9 V}{A:KZ}{E:J5->J8->Prop}
def Inv.big (I:Inv X J Y H s):sysModules<⇑s.heap.objs:=by
 have h:mainGlobals<⇑s.heap.objs:=(I.mod.glob.keeps I.bk).lt;show MB #v[] h
def IS {Q:J5->J8->Prop}(n:A.units+1<cLine)(I:Inv X J Y H s)(g:DGet H a y o)(i:RelV y u)(h:∀j,Inv X J Y H j->Q (.bool o.isSome) j) :
  wpAny (model X.prog X.w) A (compareOp .In u (.ref a)) Q E s:=by
 rcases g with⟨U,k,e,f,l⟩|⟨U,k,b,e,f,m,l⟩
 ·subst f;obtain⟨z,hd,vs,c,d⟩:=ke I.hok e;show wpAny_in_of (l7 i) hd d.mapOf ?_;rw[<- (c.val k).isSome_eq,<- l];show h _ (I.tok _)
 ·subst f;cases(show u=Lc b from i)
  obtain⟨z,hd,xs,c,d⟩:=wY I.hok e;show Sh (OB n) (nz I.hok m) hd d ?_;have q:=(c.val k).isSome_eq;rw[OV]at q;rw[<- q,<- l];show h _ (I.tok _)
def AB {Q:J5->J8->Prop}(n:A.units+1<cLine)(I:Inv X J Y H s)(g:DGet H a y o)(i:RelV y u)(h:∀j,Inv X J Y H j->Q (.bool (!o.isSome)) j) :
  wpAny (model X.prog X.w) A (compareOp .NotIn u (.ref a)) Q E s:=by
 rcases g with⟨U,k,e,f,l⟩|⟨U,k,b,e,f,m,l⟩
 ·subst f;obtain⟨z,hd,vs,c,d⟩:=ke I.hok e;show wpAny_notIn_of (l7 i) hd d.mapOf ?_;rw[<- (c.val k).isSome_eq,<- l];show h _ (I.tok _)
 ·subst f;cases(show u=Lc b from i)
  obtain⟨z,hd,xs,c,d⟩:=wY I.hok e;show Ro (OB n) (nz I.hok m) hd d ?_;have q:=(c.val k).isSome_eq;rw[OV]at q;rw[<- q,<- l];show h _ (I.tok _)
def iB {h':Lh}{t':Kb}{ob:HO}(I:Inv X J Y H s)(g:FP (H a))(f:M2 a s.heap h')(d:∃q,h'.get? a=gV q)(new:ObjOk X.prog X.w (bv H a ob) h' a ob) :
  Inv X J Y (bv H a ob) {s with heap:=h',toks:=t'}:=
 I.write (x:=a) (e:=a) g (.inl rfl) (λb q c z=>(f.2 b c).trans z) d new
def rq {P:KQ}{w:K8}{c:Hp}{h':Lh}{U:J2 (bq×V)}{vs:J2 (bq×J5)}(z:↥U<=sizeLine)(hd:(a==sysModules)=false)(b:KV U vs)(d:h'.DictOf (aJ P w) a vs) :
  ObjOk P w c h' a (.dK U):=#[z,hd,vs,b,d]
def uZ {t:Hp}{Q:Unit->J8->Prop}(P:A.units+1<cLine)(I:Inv X J Y H s)(g:DPut H a y v t)(C:RelV y u)(B:RelV v r)(h:∀D,Inv X J Y t D->Q () D) :
  wpAny (model X.prog X.w) A (setItem (.ref a) u r) Q E s:=by
 rcases g with⟨U,k,e,n,l,m⟩|⟨U,k,b,e,n,w,l,m⟩
 ·subst n m;obtain⟨z,hd,vs,d,j⟩:=Gk I.hok e;have p:↥vs<=sizeLine:=by rw[<- ↥d];show z
  have hl:(fF U k v).length<=sizeLine:=by have:=dZ U k v;omega
  show wpAny_setItem_pairs (hsz:=p) (l7 C) j λh' f o=>h _ ?_
  have O:∃q,h'.get? a=gV q:=let ⟨q,_,_,i,_⟩:=f;#[q,i]
  show iB I (by rw[e];show M8) o O (rq hl hd (d.put k B) f)
 ·subst n m;cases(show u=Lc b from C)
  obtain⟨z,hd,xs,d,j⟩:=Gm I.hok e;have p:↥xs<=sizeLine:=by rw[<- Nr d];show z
  have hl:(fF U k v).length<=sizeLine:=by have:=dZ U k v;omega
  show QA (hsz:=p) (OB P) (nz I.hok w) j λh' f o=>h _ ?_
  obtain⟨q,es,ep,i,G,L,M,_,N⟩:=f;show iB I (by rw[e];show M8) o #[q,i] #[hl,hd,_,(d.put k w B).keeps λc ys x=>?_,q,es,ep,i,G,L,M,N]
  rw[aD (FN x e (λz=>nomatch z))]
  show x
end
section
variable{X:Cx}{J:J2 (Kf×L5)}{Y:St}{H:Hp}{s:J8}{a:Kf}{U:J2 (bq×V)}{k:bq}{u:J5}{A:KZ}{E:J5->J8->Prop}
def Gn {Q:J5->J8->Prop}(I:Inv X J Y H s)(e:Rd H a (.dK U))(h:∀t c,Inv X J Y H c->Q (.int ↥U t) c):wpAny (model X.prog X.w) A (call (.builtin "len") [.ref a]) Q E s:=by
 obtain⟨z,hd,vs,b,d⟩:=ke I.hok e;show call_len_dict hd d (by rw[<- ↥b];rw[Lu]at z;omega) ?_
 rw[<- ↥b];show h _ _ (I.tok _)
end
noncomputable abbrev VV:J2 (V×V)->J2 (J5×J5)->Prop:=Ot λp q=>RelV p.1 q.1/\RelV p.2 q.2
abbrev gX (U a:J2 (bq×V)):J2 (bq×V):=a.foldl (λacc b=>fF acc b.1 b.2) U
def eC:∀(a U:J2 (bq×V)),(gX U a).length<=↥U+↥a
 |[],U=>by change ↥U<=↥U+0;omega
 |p::r,U=>by
  have b:=eC r (fF U p.1 p.2);have c:=dZ U p.1 p.2;show(gX (fF U p.1 p.2) r).length<=_;rw[K5];omega
end L2
namespace Att
open PySem PySem.W PySem.Calls PyProof.Rows
def jO {P:QC}{h:Lh}:∀(ns:J2 Ki) (vs:J2 J5),WellAll P h vs (ns.map WData.int)->Qf vs ns:=by
 intro ns
 induction ns with
 |nil=>
  intro vs w;rw[Pi]at w;cases w;show .nil
 |cons n ns ih=>
  intro vs w;rw[Lb]at w;cases w with
  |cons a b=>
   cases a;show .cons _ _ (ih _ b)
def u4 {l:OpenLaw}{n:Kb}(p:l.most=gV n){P:QC}{h:Lh}{args:J2 WData}{vals:J2 J5}
  (b:l.row.toRowW.claim.pre args=true) (j:WellAll P h vals args) :
  ∃a vs ns,vals=[Lc a]/\args=[WData.list (ns.map WData.int)]/\h.get? a=gV {cls:=.type "list",data:=.seq vs.toArray}/\Qf vs ns/\↥ns<=n:=by
 have i:WShape.hasAll [] args [.list .int]=true:=(pre_splitW b).1;have hc:l.pre.holds [] {args:=args}=true:=(pre_splitW b).2;obtain⟨d,r,rfl,k,m⟩:=hasAllW_cons i;obtain rfl:=hasAllW_nil m;obtain⟨xs,rfl,o⟩:=hasW_list k;obtain⟨ns,rfl⟩:=items_int o;have e:↥ns<=n:=by
  unfold OpenLaw.pre at hc;have f:(WTm.not (.lt (.lit (.int (n:Ki))) (.len (.arg 0)))).holds [] {args:=[.list (ns.map .int)]}=true:=by
   have f:=(holds_andW hc).1;rw[p]at f;show f
  have g:=condW_of f (w_not (w_lt w_lit (w_len_list (w_arg rfl))));rw[J4]at g;show Nat.le_of_not_lt λq=>?_
  have t:(n:Ki)<((↥ns:Kb):Ki):=∅
  first
   |(rw[Ld t]at g;show absurd g #v[])
   |(simp at g;omega)
 cases j with
 |cons u w2=>
  cases w2;cases u with
  |list s c=>show#[_,_,ns,rfl,rfl,s,jO ns _ c,e]
def u5 (l:OpenLaw)(args:J2 WData):l.row.toRowW.claim.post args (.bool true) args=true:=
 postW_of (r:=l.row.toRowW) (X:=(true==true))
  (show WShape.has [] (.bool true) .bool=true by first|rfl|decide|simp[WShape.has,WShape.arms,WShape.armsAll])
  (show(WTm.eq .res (.lit (.bool true))).value [] {args:=args,res:=gV (.bool true),after:=args}=gV (.bool (true==true))from w_eq_bool (w_res rfl) w_lit) rfl
def attach_call {l:OpenLaw}{n:Kb}{q:KQ}{loose:J2 KG}{XP:(KG->J9 J5)->Lh->Prop}{YP:K8->Lh->Prop}{d:DefRec}
  (I:l.most=gV n) (p:d.params.defaults=[])
  (call:∀(w:K8) (s₀ b:J8) (mg u:KG->J9 J5) (e:Kf) (o:L5) (pm j doc:J5) (a:Kf) (vs:J2 J5) (ns:J2 Ki),
   Ground q loose [] XP w s₀ mg u b.heap->YP w b.heap->
   b.heap.get? e=gV o->o.data=.func (docDef d.name d.params d.body d.scope pm j doc)->b.heap.CodeRec j d.name->mg d.name=gV (.ref e)->
   b.heap.get? a=gV {cls:=.type "list",data:=.seq vs.toArray}->Qf vs ns->↥ns<=n->b.gens=#[]->
   codeAny (model l.prog w) callerA (.call (.ref e) #[[.ref a],[]]) (λr k=>r=.ok (.ret (.bool true))/\OldK b.heap k.heap/\k.os=b.os/\OT k.gens) b) :
  WalkO q loose XP YP l.row.toRowW d [] (λf vs=>RW f vs):=by
 intro w s₀ b mg u G y e o pm j doc z kV J hd m v s D args vals as i x M t E;obtain rfl:z=.none:=Dflts.none v p;obtain rfl:kV=.none:=Dflts.noKw v;obtain⟨a,vs,ns,rfl,rfl,h,c,g⟩:=u4 I i t;show enter_call (N3 (call w s₀ b mg u e o pm j doc a vs ns G y J (fd_plain hd) m s h c g D) λr k L=>?_)
 obtain⟨rfl,A,B,C⟩:=L;show#[.inl #[.bool true,.bool true,[],rfl,λ_=>rfl,.bool true,u5 l _,λ_=>#[Tx,λ_ H=>(nomatch H)]],A,B,C]
end Att
namespace L2
open PySem PySem.Spec PyProof.Rows
def ma:∀{vs:J2 J5}{ns:J2 Ki},Qf vs ns->Vals (ns.map V.int) vs
 |_,_,.nil=>.nil
 |_,_,.cons n t h=>.cons #[t,rfl] (ma h)
abbrev w6 (H:Hp):Prop:=∀b,H b=td\/∃o xs,H b=gV (.frz o (.lst xs))
def w8 {P:KQ}{w:K8}{K:Km}{mg Q:KG->J9 J5}{CX:wH}{k:Kb}{L a:Kf}{U:MR}{x:KG}{sp:Sp}{c:J8}{vs:J2 J5}{ns:J2 Ki}
  (S:K.In c.heap) (B:c.heap.Ns mainGlobals mg) (g:c.heap.Ns builtinsNs Q) (N:∀x:KG,x≠"__name__"->Q x=bootBuiltins x) (A:c.heap.NoLimit) (hg:c.gens=#[])
  (I:c.heap.get? a=gV {cls:=.type "list",data:=.seq vs.toArray}) (hi:Qf vs ns) (hl:↥ns<=sizeLine) (hr:Room k callerA)
  (F:∀base:Lh,K.In base->base.Ns mainGlobals mg->FnOk P w K mg base CX k L U [x] sp) (p:∀(s:J8) (u:J5),QT s U #[[u],[]] [(x,u)])
  (O:∀H:Hp,w6 H->SqL K H a (ns.map V.int)->sp [.ref a] H (λv _=>v=.bl true) λ_ _ _=>LM)
  (M:∀H e i,CX [] H c (λ_ _ _=>LM) e i->LM) :
  codeAny (model P w) callerA (.call (.ref L) #[[.ref a],[]]) (λr i=>r=.ok (.ret (.bool true))/\OldK c.heap i.heap/\i.os=c.os/\OT i.gens) c:=by
 have Y:=ma hi;have E:=↥hi;have l:∀H:Hp,w6 H->SqL K H a (ns.map V.int)->HOk P w H c.heap->(∀b,H b≠td->b=a)->(H a≠td->K.lookup a=td)->
   codeAny (model P w) callerA (.call (.ref L) #[[.ref a],[]]) (λr i=>r=.ok (.ret (.bool true))/\OldK c.heap i.heap/\i.os=c.os/\OT i.gens) c:=by
  intro H X hS C W hK;have f:∀{b:Kf}{o:L5},c.heap.get? b=gV o->H b=td->(nj c.heap H).get? b=gV o:=λe n=>we e n
  have R:∀{b:Kf}{o:L5}{es:Lm MH}{ep:Kb},c.heap.get? b=gV o->o.data=.dict es ep->H b=td:=λ{b o es ep} e d=>by
   cases q:H b with
   |none=>rfl
   |some u=>
    have J:b=a:=W b (by rw[q];simp)
    subst J;rw[I]at e;cases e
    have d':Data.seq vs.toArray _=Data.dict es ep:=d;cases d'
  have j:∀{b:Kf}{m:KG->J9 J5},c.heap.Ns b m->(nj c.heap H).Ns b m:=λ{b m} #[o,es,ep,e,d,r]=>#[o,es,ep,f e (R e d),d,r]
  have y:K.In (nj c.heap H):=λb o e=>f (S b o e) (by
   cases q:H b with
   |none=>rfl
   |some u=>
    have J:b=a:=W b (by rw[q];simp)
    subst J;rw[hK (by rw[q];simp)]at e;cases e)
  have hM:Mod K mg (nj c.heap H):=#[y,j B,#[Q,j g,N],let ⟨mc,h1,h2⟩:=A;#[mc,j h1,h2]]
  have Z:Env0 P w K mg (nj c.heap H) callerA [] c H:=#[rfl,hM,λb o e=>Aa e,Nat.le_of_eq (uO _ _),trivial,λb g=>absurd (show b∈([]:J2 Kf)from g) (by simp),C,.of_eq hg]
  show N3 ((F _ y (j B)).run callerA [] c H #[[.ref a],[]] [.ref a] [.ref a] _ _ hr Z (p c (.ref a)) #v[rfl] (O H X hS)) λr i h=>?_
  cases r with
  |error e=>show(M H e i h).elim
  |ok fl=>
   cases fl with
   |next=>show LM.elim h
   |brk=>show LM.elim h
   |cont=>show LM.elim h
   |ret u=>
    obtain⟨v,H',os,t,un,D,r',q⟩:=h;have q':v=.bl true:=q;subst q';obtain rfl:u=Nz true:=r';show#[rfl,OldK.of_keep λb o e=>?_,os,t]
    cases q:H b with
    |none=>show un.keep b o e q (by intro z;show absurd (show b∈([]:J2 Kf)from z) (by simp)) (by simp)
    |some u=>
     rcases X b with z|⟨ob,xs,z⟩
     ·rw[q]at z;cases z
     ·have z2:=un.frzs b ob _ z;obtain⟨T,_⟩:=C b _ z;obtain⟨e2,_⟩:=D b _ z2;rw[e]at T;cases T
      show e2
 cases hk:K.lookup a with
 |some o=>
  have e:=S a o hk;rw[I]at e;cases e;show l (λ_=>td) (λ_=>.inl rfl) (.inr #[_,vs.toArray,_,hk,rfl,rfl,rfl,by rw[Ks,E];show hl,by simpa using Y]) (λb u z=>by have G:(td:J9 HO)=gV u:=z;cases G) (λb z=>absurd rfl z) λz=>absurd rfl z
 |none=>
  show l (λb=>if b=a then gV (.frz {cls:=.type "list",data:=.seq vs.toArray} (.lst (ns.map V.int)))else td) (λb=>?_) (.inl (.inr #[{cls:=.type "list",data:=.seq vs.toArray},KC rfl])) (λb u z=>?_) (λb z=>?_) λ_=>hk
  ·by_cases g:b=a
   ·show .inr #[_,_,KC g]
   ·show .inl (KS g)
  ·by_cases g:b=a
   ·have G:=(KC g).symm.trans z;cases G;subst g;show#[I,by rw[J4];show hl,vs,_,Y,I]
   ·have G:=(KS g).symm.trans z;cases G
  ·by_cases g:b=a
   ·show g
   ·show absurd (KS g) z
def AC {l:PB}{n k:Kb}{q:KQ}{loose:J2 KG}{XP:(KG->J9 J5)->Lh->Prop}{YP:K8->Lh->Prop}{d:DefRec}{K:QC->Km}{CX:K8->wH}{sp:K8->Sp}{x:KG}
  (O:l.most=gV n) (y:n<=sizeLine) (r:d.params.defaults=[]) (P:Room k callerA)
  (J:∀(w:K8) (h:Lh),YP w h->(K w.params).In h)
  (F:∀(w:K8) (mg:KG->J9 J5) (j:Kf) (h:Lh),(K w.params).In h->h.Ns mainGlobals mg->mg d.name=gV (.ref j)->
   ∃m:MR,(∀(s:J8) (u:J5),QT s m #[[u],[]] [(x,u)])/\
    ∀base:Lh,(K w.params).In base->base.Ns mainGlobals mg->FnOk l.prog w (K w.params) mg base (CX w) k j m [x] (sp w))
  (z:∀(w:K8) (H:Hp) (a:Kf) (ns:J2 Ki),↥ns<=n->w6 H->SqL (K w.params) H a (ns.map V.int)->sp w [.ref a] H (λv _=>v=.bl true) λ_ _ _=>LM)
  (p:∀(w:K8) (H:Hp) (s:J8) (e:J5) (A:J8),CX w [] H s (λ_ _ _=>LM) e A->LM) :
  Si q loose XP YP l.row.toRowW d [] (λf vs=>RW f vs):=by
 show Att.attach_call O r λw s₀ i mg S j o pm Q doc a vs ns G C R hd M t g c b N=>?_
 have B:=J w _ C;obtain⟨m,L,D⟩:=F w mg j _ B G.T.g t;show w8 B G.T.g G.T.b G.T.builtins G.T.nolimit N g c (Lq b y) P D L (λH E I=>z w H a ns b E I) λH e A=>p w H i e A
abbrev dj (s:Nb):Arguments:=match s with
 |.FunctionDef _ a _ _ _ _ _ _ _ _=>a
 |_=>{posonlyargs:=[],args:=[],vararg:=td,kwonlyargs:=[],kw_defaults:=[],kwarg:=td,defaults:=[]}
abbrev b6 (s:Nb):J2 Nb:=match s with
 |.FunctionDef _ _ b _ _ _ _ _ _ _=>b
 |_=>[]
abbrev aP (s:Nb):Nv:=match s with
 |.FunctionDef _ _ _ _ _ _ sc _ _ _=>sc
 |_=>{kind:=.function,names:=[],isGenerator:=false,isCoroutine:=false}
noncomputable abbrev v4:wH:=λ_ _ _ _ _ _=>LM
noncomputable abbrev E0:XK:=λ_ _ _=>LM
def CI {X:Cx}:nq v4 X E0:=λ_ _ _ _ _ _ _ h=>h.elim
structure Fun (K:Km)(x qual:KG)(st:Nb)(f:Kf)(fd:MR):Prop where
 ex:∃(oc:J5) (od:J9 Kf) (kV doc pm:J5) (an:J9 Kf) (cdv ct:J5) (osl:Lm (J9 J5)),
  fd=MA x qual (dj st) (b6 st) (aP st) .none kV doc pm an cdv ct/\K.lookup f=gV #[oc,od,.func fd,osl]/\Nf K cdv qual=true
 kp:LY K (.ref f)=true
section
variable{P:KQ}{w:K8}{K:Km}{mg:KG->J9 J5}{base:Lh}
def Fun.ok {x a:KG}{st:Nb}{f:Kf}{e:MR}{N ps:J2 KG}{k:Kb}{sp:Sp}(F:Fun K x a st f e)(S:FnScope N ps (aP st))(len:∀vs H Q E,sp vs H Q E->↥vs=↥ps)
  (b:∀(cdv:J5) (A:KZ) (outer:J2 QP) (s:J8) (H:Hp) (vs:J2 V) (Q:VK) (E:XK),Room k (A.deeper (envOfC a (aP st) ⇑s.heap.objs f cdv))->sp vs H Q E->
   ∃t,PSs (rf v4 P w K mg base N a (aP st) f cdv A outer s H E).nox (b6 st) t/\t {nx:=λ_ g=>Q .non g,rt:=Q} (start N vs) H):FnOk P w K mg base v4 (k+1) f e ps sp:=by
 obtain⟨oc,od,kV,doc,pm,an,cdv,ct,osl,rfl,j,c⟩:=F.ex;show Gf j c S len λA outer s H vs Q E i d=>?_
 obtain⟨t,h,q⟩:=b cdv A outer s H vs Q E i d;show#[t,h.nox,q]
def Fun.binds {x a:KG}{st:Nb}{f:Kf}{b:MR}{ps:J2 KG}(F:Fun K x a st f b)
  (h:∀(kV doc pm:J5) (an:J9 Kf) (cdv ct:J5) (us:J2 J5),↥us=↥ps->bindArgs (MA x a (dj st) (b6 st) (aP st) .none kV doc pm an cdv ct) #[us,[]]=pure (ps.zip us)):Binds K b ps []:=by
 obtain⟨oc,od,kV,doc,pm,an,cdv,ct,osl,rfl,d,c⟩:=F.ex;show .all (h kV doc pm an cdv ct)
def w9 {x a:KG}{st:Nb}{f:Kf}{oc:J5}{od an:J9 Kf}{osl:Lm (J9 J5)}{kV doc pm cdv ct:J5}(l:K.lookup f=gV #[oc,od,.func (MA x a (dj st) (b6 st) (aP st) .none kV doc pm an cdv ct),osl])
  (c:Nf K cdv a=true) (k:LY K (.ref f)=true):Fun K x a st f (MA x a (dj st) (b6 st) (aP st) .none kV doc pm an cdv ct):=#[#[oc,od,kV,doc,pm,an,cdv,ct,osl,rfl,l,c],k]
end
section
variable{X:Cx}
def pv (i:Kb){x:KG}{pos:MN}(b:X.N[i]?=gV x:=by rfl)(c:HR X.env.scope x)(hd:(x==("__debug__": KG))=false:=by decide)
  (a:(x==("__classdict__": KG))=false:=by decide):PE X (.Name x pos) (Dr i):=wf b c hd a
end
end L2
open PySem PySem.W PyProof.Rows L2
set_option maxHeartbeats 0
namespace Mi
section
abbrev md (i:Kb):Nb:=PySem.Challenge.pw_layworld_k35_whole_laid_worlds.main.body.getD i (.Pass #[0,0,0,0])
abbrev pw:KQ:=OL
abbrev ge (P:QC)(n:KG)(t:Kb)(v:J5):MH:=#[PyData.keyHash P n,.str n t,v]
abbrev kd (a:Kb)(es:J2 MH)(n:Kb):Kf×L5:=(a,#[.type "dict",td,.dict es.toArray n,#[]])
abbrev kc (a:Kb)(vs:J2 J5):Kf×L5:=(a,#[.type "code",td,.fields vs.toArray,#[]])
abbrev kf (a:Kb)(st:Nb)(n:KG)(pm b:J5):Kf×L5:=(a,#[.type "function",td,.func (MA n n (dj st) (b6 st) (aP st) .none .none .none pm td b .none),#[]])
abbrev IT (i:Kb):J5:=if i<=7 then(.str "layworld.kinds" 257)else if i<=9 then(.str "layworld.worlds" 280)else if i<=13 then(.str "layworld.parts" 292)else if i<=17 then(.str "layworld.threes" 312)else if i<=25 then(.str "layworld.laying" 347)else(.str "law_layworld_k35_whole_laid_worlds" 396)
abbrev kx (a:Kb)(b:KR)(i:Kb)(s:KG)(t:Kb)(l p:Ki)(m:Kb)(R:Km):Km:=kc a [.str s t,.str s (t+1),.str "/claim/cut.py" (t+2),.int l 0,.int p 0,.int 0 0,.int 0 0,.int 3 0,.ref (if b then a-5 else a-3),.bool true,.int 181 0,.ref (if b then a-4 else a-2),.none,if b then .ref (a-3)else .none,if b then .ref (a-2)else .none,.ref (a-1),.int m 0,.int l 0,.str "/claim/cut.py" (m+1)]::kf (a+1) (md i) s (IT i) (.ref a)::R
abbrev K0 (P:QC):Km:=kd 3 [ge P "__name__" 165 (.str "law_layworld_k35_whole_laid_worlds" 396),ge P "__doc__" 166 .none,ge P "__package__" 167 .none,ge P "__loader__" 168 (.builtin "__main__.__loader__#opaque"),ge P "__spec__" 169 .none,ge P "__annotations__" 170 (.ref 6),ge P "__builtins__" 171 (.ref 4),ge P "__file__" 173 (.str "/claim/cut.py" 172),ge P "__cached__" 174 .none,ge P "LayError" 206 (.ref 24),ge P "NoLaying" 233 (.ref 44),ge P "NoShare" 256 (.ref 63),ge P "is_whole" 265 (.ref 72),ge P "is_tuple_of" 273 (.ref 79),ge P "is_numbers" 279 (.ref 84),ge P "way" 291 (.ref 91),ge P "part" 299 (.ref 96),ge P "point_over" 305 (.ref 101),ge P "longer_orders" 311 (.ref 106),ge P "barred_threes" 324 (.ref 113),ge P "three_at" 336 (.ref 120),ge P "first_bar" 346 (.ref 127),ge P "laid" 354 (.ref 132),ge P "share_part" 360 (.ref 137),ge P "are_points" 366 (.ref 142),ge P "spread_wish" 372 (.ref 147),ge P "first_filling" 383 (.ref 154),ge P "place_of" 389 (.ref 159),ge P "point_behind" 395 (.ref 164),ge P "_law_flow" 404 (.ref 171),ge P "_law_pick" 414 (.ref 178),ge P "_law_shuffled" 424 (.ref 185),ge P "_law_names" 430 (.ref 190),ge P "_law_between" 440 (.ref 197),ge P "_law_part" 446 (.ref 202),ge P "_law_turns" 452 (.ref 209),ge P "_law_figure" 458 (.ref 214),ge P "_law_bad" 468 (.ref 221),ge P "_law_may" 478 (.ref 228),ge P "_law_last_may" 492 (.ref 235),ge P "_law_backs" 501 (.ref 242),ge P "_law_rule_of" 507 (.ref 247),ge P "_law_free_three" 513 (.ref 252),ge P "_law_sizes" 521 (.ref 259),ge P "_law_laying_kind" 529 (.ref 266),ge P "_law_breaks" 545 (.ref 273),ge P "_law_numbered" 551 (.ref 278),ge P "_law_laying_rule" 572 (.ref 285),ge P "_law_rising" 578 (.ref 290),ge P "_law_free_rule" 584 (.ref 295),ge P "_law_one_way_rule" 590 (.ref 300),ge P "_law_new_ways" 607 (.ref 307),ge P "_law_world" 621 (.ref 314),ge P "_law_share" 627 (.ref 319),ge P "_law_right" 633 (.ref 324),ge P "law" 639 (.ref 329)] 56::(kx 71 true 5 "is_whole" 259 15 1 263
 (kx 78 true 6 "is_tuple_of" 266 17 2 271
 (kx 83 false 7 "is_numbers" 274 19 2 277
 (kx 90 true 9 "way" 282 22 4 289
 (kx 95 false 11 "part" 294 27 3 297
 (kx 100 false 12 "point_over" 300 29 4 303
 (kx 105 false 13 "longer_orders" 306 31 2 309
 (kx 112 true 15 "barred_threes" 314 37 1 322
 (kx 119 true 16 "three_at" 325 46 4 334
 (kx 126 true 17 "first_bar" 337 50 2 344
 (kx 131 false 19 "laid" 349 57 4 352
 (kx 136 false 20 "share_part" 355 72 4 358
 (kx 141 false 21 "are_points" 361 80 2 364
 (kx 146 false 22 "spread_wish" 367 82 6 370
 (kx 153 true 23 "first_filling" 373 95 4 381
 (kx 158 false 24 "place_of" 384 100 4 387
 (kx 163 false 25 "point_behind" 390 107 1 393
 (kx 170 true 27 "_law_flow" 398 111 1 402
 (kx 177 true 28 "_law_pick" 405 113 2 412
 (kx 184 true 29 "_law_shuffled" 415 128 2 422
 (kx 189 false 30 "_law_names" 425 134 2 428
 (kx 196 true 31 "_law_between" 431 136 4 438
 (kx 201 false 32 "_law_part" 441 140 3 444
 (kx 208 true 33 "_law_turns" 447 146 0 450
 (kx 213 false 34 "_law_figure" 453 148 2 456
 (kx 220 true 35 "_law_bad" 459 150 1 466
 (kx 227 true 36 "_law_may" 469 156 3 476
 (kx 234 true 37 "_law_last_may" 479 161 4 490
 (kx 241 true 38 "_law_backs" 493 168 2 499
 (kx 246 false 39 "_law_rule_of" 502 171 4 505
 (kx 251 false 40 "_law_free_three" 508 175 3 511
 (kx 258 true 41 "_law_sizes" 514 180 1 519
 (kx 265 true 42 "_law_laying_kind" 522 183 1 527
 (kx 272 true 43 "_law_breaks" 530 192 5 543
 (kx 277 false 44 "_law_numbered" 546 200 3 549
 (kx 284 true 45 "_law_laying_rule" 552 215 1 570
 (kx 289 false 46 "_law_rising" 573 235 1 576
 (kx 294 false 47 "_law_free_rule" 579 241 1 582
 (kx 299 false 48 "_law_one_way_rule" 585 254 1 588
 (kx 306 true 49 "_law_new_ways" 591 258 6 605
 (kx 313 true 50 "_law_world" 608 271 4 619
 (kx 318 false 51 "_law_share" 622 279 4 625
 (kx 323 false 52 "_law_right" 628 291 5 631
 (kx 328 false 53 "law" 634 306 1 637 []))))))))))))))))))))))))))))))))))))))))))))
abbrev JD:J2 Kb:=[3,71,72,78,79,83,84,90,91,95,96,100,101,105,106,112,113,119,120,126,127,131,132,136,137,141,142,146,147,153,154,158,159,163,164,170,171,177,178,184,185,189,190,196,197,201,202,208,209,213,214,220,221,227,228,234,235,241,242,246,247,251,252,258,259,265,266,272,273,277,278,284,285,289,290,294,295,299,300,306,307,313,314,318,319,323,324,328,329]
abbrev vq:KQ:={pw with main:={pw.main with body:=[md 53]}}
abbrev lo:J2 KG:=[("LayError": KG),("NoLaying": KG),("NoShare": KG),("is_whole": KG),("is_tuple_of": KG),("is_numbers": KG),("way": KG),("part": KG),("point_over": KG),("longer_orders": KG),("barred_threes": KG),("three_at": KG),("first_bar": KG),("laid": KG),("share_part": KG),("are_points": KG),("spread_wish": KG),("first_filling": KG),("place_of": KG),("point_behind": KG),("_law_flow": KG),("_law_pick": KG),("_law_shuffled": KG),("_law_names": KG),("_law_between": KG),("_law_part": KG),("_law_turns": KG),("_law_figure": KG),("_law_bad": KG),("_law_may": KG),("_law_last_may": KG),("_law_backs": KG),("_law_rule_of": KG),("_law_free_three": KG),("_law_sizes": KG),("_law_laying_kind": KG),("_law_breaks": KG),("_law_numbered": KG),("_law_laying_rule": KG),("_law_rising": KG),("_law_free_rule": KG),("_law_one_way_rule": KG),("_law_new_ways": KG),("_law_world": KG),("_law_share": KG),("_law_right": KG)]
def eK:∀P,JD=(K0 P).map (·.1):=λ_=>by kernel_rfl
abbrev hk:PySem.W.Hook:=PySem.W.kHook K0 JD eK
def hl:PySem.W.LeftO pw vq lo (λs=>SH vq [] s&&Sj [] s) hk.obs hk.val 4194:=λw=>by kernel_rfl
def s0:PySem.Challenge.rw_layworld_k35_whole_laid_worlds.row.wellSaid=true:=by kernel_rfl
end
end Mi
namespace Mi
open PySem PySem.Spec PyProof.Rows L2
abbrev Go (w:K8):KR:=w.params.followText "set-order"
inductive W where
 |non|bl (b:KR)|int (i:Ki)|str (x:KG)|tup (xs:J2 W)|ref (i:Kb)
inductive T where
 |int (i:Ki)|str (x:KG)|tup (xs:J2 T)
mutual
def T.beq:T->T->KR
 |.int i,.int j=>i==j
 |.str x,.str y=>x==y
 |.tup xs,.tup ys=>T.beqs xs ys
 |_,_=>false
def T.beqs:J2 T->J2 T->KR
 |[],[]=>true
 |x::xs,y::ys=>T.beq x y&&T.beqs xs ys
 |_,_=>false
end
mutual
theorem T.beq_iff:∀x y:T,T.beq x y=true↔x=y
 |.int i,.int j=>by simp[T.beq]
 |.str x,.str y=>by simp[T.beq]
 |.tup xs,.tup ys=>by simp[T.beq,T.beqs_iff xs ys]
 |.int _,.str _|.int _,.tup _|.str _,.int _|.str _,.tup _|.tup _,.int _|.tup _,.str _=>by simp[T.beq]
theorem T.beqs_iff:∀xs ys:J2 T,T.beqs xs ys=true↔xs=ys
 |[],[]=>by simp[T.beqs]
 |x::xs,y::ys=>by simp[T.beqs,T.beq_iff x y,T.beqs_iff xs ys]
 |[],_::_|_::_,[]=>by simp[T.beqs]
end
noncomputable instance:Ny T:=λx y=>decidable_of_iff (T.beq x y=true) (T.beq_iff x y)
mutual
def T.w:T->W
 |.int i=>.int i
 |.str x=>.str x
 |.tup xs=>.tup (T.ws xs)
def T.ws:J2 T->J2 W
 |[]=>[]
 |x::xs=>T.w x::T.ws xs
end
mutual
def W.t:W->J9 T
 |.int i=>gV (.int i)
 |.str x=>gV (.str x)
 |.tup xs=>(W.ts xs).map .tup
 |_=>td
def W.ts:J2 W->J9 (J2 T)
 |[]=>gV []
 |x::xs=>match W.t x,W.ts xs with
  |some y,gV ys=>gV (y::ys)
  |_,_=>td
end
mutual
theorem W.t_w:∀{w:W}{k:T},W.t w=gV k->k.w=w
 |.int i,_,h=>by cases h;rfl
 |.str x,_,h=>by cases h;rfl
 |.tup xs,_,h=>by
  simp only[W.t,J6]at h;obtain⟨ks,h1,h2⟩:=h;subst h2;simp only[T.w,W.ts_w h1]
 |.non,_,h|.bl _,_,h|.ref _,_,h=>by cases h
theorem W.ts_w:∀{ws:J2 W}{ks:J2 T},W.ts ws=gV ks->T.ws ks=ws
 |[],_,h=>by cases h;rfl
 |w::ws,_,h=>by
  simp only[W.ts]at h;split at h
  ·rename_i y ys h1 h2;cases h;simp only[T.ws,W.t_w h1,W.ts_w h2]
  ·cases h
end
mutual
theorem T.w_t:∀k:T,W.t k.w=gV k
 |.int _=>rfl
 |.str _=>rfl
 |.tup xs=>by simp only[T.w,W.t,T.ws_ts xs,KM]
theorem T.ws_ts:∀ks:J2 T,W.ts (T.ws ks)=gV ks
 |[]=>rfl
 |x::xs=>by simp only[T.ws,W.ts,T.w_t x,T.ws_ts xs]
end
mutual
def T.depth:T->Kb
 |.tup xs=>T.depths xs+1
 |_=>0
def T.depths:J2 T->Kb
 |[]=>0
 |x::xs=>max (T.depth x) (T.depths xs)
end
mutual
def T.draws:T->Kb
 |.tup xs=>T.drawss xs+1
 |_=>1
def T.drawss:J2 T->Kb
 |[]=>0
 |x::xs=>T.draws x+T.drawss xs
end
mutual
def o5 (wd:K8):T->Ki
 |.int i=>hashInt i
 |.str x=>hashStr wd x
 |.tup xs=>reduceHash (ON (kh wd xs))
def kh (wd:K8):J2 T->J2 Ki
 |[]=>[]
 |x::xs=>o5 wd x::kh wd xs
end
abbrev T.isTup:T->KR
 |.tup _=>true
 |_=>false
abbrev ba:Kb:=6
inductive O where
 |lst (xs:J2 W)
 |fro (xs:J2 W)
 |rng (lo hi:Ki)
 |dik (U:J2 (Ki×W))
 |dic (U:J2 (T×W))
 |frd (U:J2 (T×W))
 |sti (n:Kb)
noncomputable abbrev aa:=J2 O
noncomputable abbrev Fm:=J2 (J9 W)
section
variable (K:Km) (A:J2 Kf) (H:Hp)
mutual
inductive Rel:W->V->Prop
 |non:Rel .non .non
 |bl {b:KR}:Rel (.bl b) (.bl b)
 |int {i:Ki}:Rel (.int i) (.int i)
 |str {x:KG}:Rel (.str x) (.str x)
 |tup {ws:J2 W}{a:Kf}{vs:J2 V}:SqT K H a vs->RelL ws vs->Rel (.tup ws) (.ref a)
 |ref {i:Kb}{a:Kf}:A[i]?=gV a->Rel (.ref i) (.ref a)
inductive RelL:J2 W->J2 V->Prop
 |nil:RelL [] []
 |cons {w:W}{v:V}{ws:J2 W}{vs:J2 V}:Rel w v->RelL ws vs->RelL (w::ws) (v::vs)
end
end
section
variable{K:Km}{A A' A'':J2 Kf}{H H' H'':Hp}
structure Ext (K:Km)(A:J2 Kf)(H:Hp)(A':J2 Kf)(H':Hp):Prop where
 ad:∀(i:Kb) (a:Kf),A[i]?=gV a->A'[i]?=gV a
 tp:∀(a:Kf) (vs:J2 V),SqT K H a vs->SqT K H' a vs
 fz:∀(a:Kf) (o:L5) (u:HO),H a=gV (.frz o u)->H' a=gV (.frz o u)
def Ext.refl:Ext K A H A H:=#[λ_ _ h=>h,λ_ _ h=>h,λ_ _ _ h=>h]
def Ext.trans (e:Ext K A H A' H')(f:Ext K A' H' A'' H''):Ext K A H A'' H'':=#[λi a h=>f.ad i a (e.ad i a h),λa vs h=>f.tp a vs (e.tp a vs h),λa o u h=>f.fz a o u (e.fz a o u h)]
mutual
theorem Rel.mono (e:Ext K A H A' H'):∀{w:W}{v:V},Rel K A H w v->Rel K A' H' w v
 |_,_,.non=>.non
 |_,_,.bl=>.bl
 |_,_,.int=>.int
 |_,_,.str=>.str
 |_,_,.tup h r=>.tup (e.tp _ _ h) (RelL.mono e r)
 |_,_,.ref h=>.ref (e.ad _ _ h)
theorem RelL.mono (e:Ext K A H A' H'):∀{ws:J2 W}{vs:J2 V},RelL K A H ws vs->RelL K A' H' ws vs
 |_,_,.nil=>.nil
 |_,_,.cons r t=>.cons (Rel.mono e r) (RelL.mono e t)
end
def RelL.length:∀{ws:J2 W}{vs:J2 V},RelL K A H ws vs->↥ws=↥vs
 |_,_,.nil=>rfl
 |_,_,.cons _ t=>by simp[RelL.length t]
def RelL.get:∀{ws:J2 W}{vs:J2 V}{i:Kb}{w:W},RelL K A H ws vs->ws[i]?=gV w->∃v,vs[i]?=gV v/\Rel K A H w v
 |_,_,_,_,.nil,e=>by simp at e
 |_,_,0,_,.cons r _,e=>by simp at e;subst e;show#[_,rfl,r]
 |_,_,i+1,w,.cons _ t,e=>by
  obtain⟨u,a,b⟩:=RelL.get (i:=i) (w:=w) t (by simpa using e)
  show#[u,by simpa using a,b]
def RelL.append:∀{xs ys:J2 W}{us ws:J2 V},RelL K A H xs us->RelL K A H ys ws->RelL K A H (xs++ys) (us++ws)
 |_,_,_,_,.nil,s=>s
 |_,_,_,_,.cons r t,s=>.cons r (RelL.append t s)
def RelL.take:∀{xs:J2 W}{us:J2 V} (n:Kb),RelL K A H xs us->RelL K A H (xs.take n) (us.take n)
 |_,_,0,_=>.nil
 |_,_,_+1,.nil=>.nil
 |_,_,n+1,.cons r t=>.cons r (RelL.take n t)
def RelL.drop:∀{xs:J2 W}{us:J2 V} (n:Kb),RelL K A H xs us->RelL K A H (xs.drop n) (us.drop n)
 |_,_,0,r=>r
 |_,_,_+1,.nil=>.nil
 |_,_,n+1,.cons _ t=>RelL.drop n t
def RelL.set {x:W}{u:V}(r:Rel K A H x u):∀{xs:J2 W}{us:J2 V} (i:Kb),RelL K A H xs us->RelL K A H (xs.set i x) (us.set i u)
 |_,_,_,.nil=>.nil
 |_,_,0,.cons _ t=>.cons r t
 |_,_,i+1,.cons q t=>.cons q (RelL.set r i t)
def RelL.rep {xs:J2 W}{us:J2 V}(h:RelL K A H xs us):∀k:Kb,RelL K A H (KU k xs).flatten (KU k us).flatten
 |0=>.nil
 |k+1=>by
  rw[Mk,Mk,M3,M3];show RelL.append h (RelL.rep h k)
def RelL.eraseIdx:∀{xs:J2 W}{us:J2 V} (i:Kb),RelL K A H xs us->RelL K A H (xs.eraseIdx i) (us.eraseIdx i)
 |_,_,_,.nil=>.nil
 |_,_,0,.cons _ t=>t
 |_,_,i+1,.cons r t=>.cons r (RelL.eraseIdx i t)
abbrev FroL (K:Km)(H:Hp)(a:Kf)(vs:J2 V):Prop:=
 (∃o,H a=gV (.frz o (.lst vs)))\/
  ∃(o:L5) (its:Lm J5) (n:Kb),K.lookup a=gV o/\o.cls=.type "list"/\o.dict=td/\o.data=.seq its n/\⇑its<=sizeLine/\Vals vs its.toList
def FroL.sq {a:Kf}{vs:J2 V}(h:FroL K H a vs):SqL K H a vs:=by
 rcases h with⟨o,h⟩|h
 ·show .inl (.inr #[o,h])
 ·show .inr h
abbrev xf (a:K8)(x:T×Kf×J5):MH:=#[o5 a x.1,.ref x.2.1,x.2.2]
abbrev DicAt (b:K8)(a:Kf)(xs:J2 (T×Kf×J5))(h:Lh):Prop:=
 ↥xs<=sizeLine/\(a==sysModules)=false/\(xs.map (·.1)).Nodup/\∃o es ep,h.get? a=gV o/\o.ExactDict/\o.data=.dict es ep/\es.toList=xs.map (xf b)
abbrev dI (b:K8)(a:Kf)(xs:J2 (T×Kf×J5)):HO:=.ext (DicAt b a xs)
abbrev KRel (K:Km)(A:J2 Kf)(H:Hp):J2 (T×W)->J2 (T×Kf×J5)->Prop:=
 Ot λ(p:T×W) (q:T×Kf×J5)=>p.1=q.1/\p.1.isTup=true/\p.1.depth<=ba/\Rel K A H p.1.w (.ref q.2.1)/\∃v,Rel K A H p.2 v/\RelV v q.2.2
def KRel.mono (e:Ext K A H A' H'){U:J2 (T×W)}{xs:J2 (T×Kf×J5)}(h:KRel K A H U xs):KRel K A' H' U xs:=
 Paired.mapP h λ_ _ #[a,h2,h3,h4,v,h5,h6]=>#[a,h2,h3,h4.mono e,v,h5.mono e,h6]
abbrev KI (K:Km)(A:J2 Kf)(H:Hp)(U:J2 (Ki×W))(us:J2 (bq×V)):Prop:=Ot (λp q=>q.1=Mz p.1/\Rel K A H p.2 q.2) U us
def KI.mono {U:J2 (Ki×W)}{us:J2 (bq×V)}(e:Ext K A H A' H')(h:KI K A H U us):KI K A' H' U us:=Paired.mapP h λ_ _ q=>#[q.1,q.2.mono e]
variable{wd:K8}
abbrev D5 (n:Kb)(o:L5):Prop:=o.ExactSet/\∃es ep t,o.data=.set es ep t/\⇑es=n/\t.fits ⇑es=true
abbrev ObjRel (wd:K8)(K:Km)(A:J2 Kf)(H:Hp)(a:Kf):O->Prop
 |.lst ws=>∃vs,H a=gV (.lst vs)/\RelL K A H ws vs
 |.fro ws=>∃vs,FroL K H a vs/\RelL K A H ws vs
 |.sti n=>∃o φ,H a=gV (.frz o (.ext φ))/\D5 n o
 |.rng lo hi=>H a=gV (.rng lo hi)
 |.dik U=>∃us,H a=gV (.dK us)/\KI K A H U us
 |.dic U=>∃xs,H a=gV (dI wd a xs)/\KRel K A H U xs
 |.frd U=>∃o xs,H a=gV (.frz o (dI wd a xs))/\KRel K A H U xs
abbrev O.mut:O->KR
 |.fro _=>false
 |.rng _ _=>false
 |.frd _=>false
 |.sti _=>false
 |_=>true
structure StoreOk (wd:K8)(K:Km)(A:J2 Kf)(H:Hp)(S:aa):Prop where
 len:↥A=↥S
 nd:∀(i j:Kb) (a:Kf) (o u:O),S[i]?=gV o->o.mut=true->S[j]?=gV u->u.mut=true->A[i]?=gV a->A[j]?=gV a->i=j
 obj:∀(i:Kb) (o:O) (a:Kf),S[i]?=gV o->A[i]?=gV a->ObjRel wd K A H a o
abbrev EnvRel (K:Km)(A:J2 Kf)(H:Hp)(Z:Fm)(Y:L2.St):Prop:=
 ↥Z=↥Y/\∀(i:Kb) (w:W),Z[i]?=gV (gV w)->∃v,Y[i]?=gV (gV v)/\Rel K A H w v
def EnvRel.mono {Z:Fm}{Y:L2.St}(e:Ext K A H A' H')(h:EnvRel K A H Z Y):EnvRel K A' H' Z Y:=
 #[h.1,λi w q=>let ⟨v,a,b⟩:=h.2 i w q;#[v,a,b.mono e]]
def EnvRel.set {Z:Fm}{Y:L2.St}{w:W}{v:V}(h:EnvRel K A H Z Y)(r:Rel K A H w v)(i:Kb):EnvRel K A H (Z.set i (gV w)) (Y.set i (gV v)):=by
 show#[by simp[h.1],λj a q=>?_]
 rw[Mx]at q ⊢
 by_cases e:i=j
 ·subst e;rw[KC rfl]at q ⊢
  by_cases hl:i<↥Z
  ·rw[KC hl]at q;rw[KC (h.1▸hl)];cases q;show#[v,rfl,r]
  ·rw[KS hl]at q;cases q
 ·rw[KS e]at q ⊢;show h.2 j a q
abbrev Wr (H:Hp)(p:Kf):Prop:=H p=td\/(∃xs,H p=gV (.lst xs))\/(∃φ,H p=gV (.ext φ))\/∃ks,H p=gV (.dK ks)
def Wr.lst {p:Kf}{xs:J2 V}(h:H p=gV (.lst xs)):Wr H p:=.inr (.inl #[xs,h])
def Wr.ext {p:Kf}{φ:Lh->Prop}(h:H p=gV (.ext φ)):Wr H p:=.inr (.inr (.inl #[φ,h]))
def Wr.dk {p:Kf}{ks:J2 (bq×V)}(h:H p=gV (.dK ks)):Wr H p:=.inr (.inr (.inr #[ks,h]))
def Wr.ne_tup {p a:Kf}{xs:J2 V}(b:Wr H p)(h:H a=gV (.tup xs)):a≠p:=by
 intro e;subst e
 rcases b with q|⟨xs,q⟩|⟨φ,q⟩|⟨ks,q⟩<;>(rw[h]at q;cases q)
def Wr.ne_frz {p a:Kf}{o:L5}{u:HO}(b:Wr H p)(h:H a=gV (.frz o u)):a≠p:=by
 intro e;subst e
 rcases b with q|⟨xs,q⟩|⟨φ,q⟩|⟨ks,q⟩<;>(rw[h]at q;cases q)
def Wr.ne_rng {p a:Kf}{lo hi:Ki}(b:Wr H p)(h:H a=gV (.rng lo hi)):a≠p:=by
 intro e;subst e
 rcases b with q|⟨xs,q⟩|⟨φ,q⟩|⟨ks,q⟩<;>(rw[h]at q;cases q)
def sN {p:Kf}{o:HO}(b:Wr H p){a:Kf}{vs:J2 V}(h:SqT K H a vs):SqT K (bv H p o) a vs:=by
 rcases h with(h|⟨c,h⟩)|h
 ·show .inl (.inl (by rw[aD (b.ne_tup h)];show h))
 ·show .inl (.inr #[c,by rw[aD (b.ne_frz h)];show h])
 ·show .inr h
def xg {p:Kf}{o:HO}(b:Wr H p){a:Kf}{vs:J2 V}(h:FroL K H a vs):FroL K (bv H p o) a vs:=by
 rcases h with⟨c,h⟩|h
 ·show .inl #[c,by rw[aD (b.ne_frz h)];show h]
 ·show .inr h
def b7 {p:Kf}{o:HO}(a:Wr H p):Ext K A H A (bv H p o):=#[λ_ _ h=>h,λ_ _ h=>sN a h,λ_ _ _ h=>by rw[aD (a.ne_frz h)];show h]
def bO {p:Kf}{o:HO}(b:H p=td):Ext K A H (A++[p]) (bv H p o):=
 #[λi a h=>by rw[Lf (Ko.mp h).1];show h,λ_ _ h=>sN (.inl b) h,λ_ _ _ h=>by rw[aD (Wr.ne_frz (.inl b) h)];show h]
def ObjRel.keep {p a:Kf}{o:HO}{b:O}(d:Wr H p)(c:b.mut=true->a≠p)(e:Ext K A H A' (bv H p o))(h:ObjRel wd K A H a b):ObjRel wd K A' (bv H p o) a b:=by
 cases b with
 |lst ws=>
  obtain⟨vs,q,r⟩:=h;show#[vs,by rw[aD (c rfl)];show q,r.mono e]
 |fro ws=>
  obtain⟨vs,q,r⟩:=h;show#[vs,xg d q,r.mono e]
 |rng lo hi=>
  have h:H a=gV (.rng lo hi):=h;change bv H p o a=gV (.rng lo hi);rw[aD (d.ne_rng h)];show h
 |dik U=>
  obtain⟨us,q,r⟩:=h;show#[us,by rw[aD (c rfl)];show q,r.mono e]
 |dic U=>
  obtain⟨xs,q,r⟩:=h;show#[xs,by rw[aD (c rfl)];show q,r.mono e]
 |frd U=>
  obtain⟨ob,xs,q,r⟩:=h;show#[ob,xs,by rw[aD (d.ne_frz q)];show q,r.mono e]
 |sti n=>
  obtain⟨ob,φ,q,f⟩:=h;show#[ob,φ,by rw[aD (d.ne_frz q)];show q,f]
def ObjRel.there {a:Kf}{b:O}(h:ObjRel wd K A H a b)(c:b.mut=true):H a≠td:=by
 cases b with
 |lst ws=>obtain⟨vs,q,r⟩:=h;rw[q];intro z;cases z
 |fro ws=>cases c
 |rng lo hi=>cases c
 |dik U=>obtain⟨us,q,r⟩:=h;rw[q];intro z;cases z
 |dic U=>obtain⟨vs,q,r⟩:=h;rw[q];intro z;cases z
 |frd ws=>cases c
 |sti _=>cases c
def ObjRel.wr {a:Kf}{b:O}(h:ObjRel wd K A H a b)(c:b.mut=true):Wr H a:=by
 cases b with
 |lst ws=>obtain⟨vs,q,r⟩:=h;show .lst q
 |fro ws=>cases c
 |rng lo hi=>cases c
 |dik U=>obtain⟨us,q,r⟩:=h;show .dk q
 |dic U=>obtain⟨vs,q,r⟩:=h;show .ext q
 |frd ws=>cases c
 |sti _=>cases c
def StoreOk.lay {S:aa}{p:Kf}{o:HO}(h:StoreOk wd K A H S)(c:H p=td):StoreOk wd K A (bv H p o) S:=
 #[h.len,h.nd,λi b a e d=>(h.obj i b a e d).keep (.inl c) (λf z=>(h.obj i b a e d).there f (z▸c)) (b7 (.inl c))]
def StoreOk.pushO {S:aa}{p:Kf}{n:O}{u:HO}(h:StoreOk wd K A H S)(g:H p=td)(r:ObjRel wd K (A++[p]) (bv H p u) p n):StoreOk wd K (A++[p]) (bv H p u) (S++[n]):=by
 have ex:Ext K A H (A++[p]) (bv H p u):=bO g;have b:∀{i:Kb}{o:O}{a:Kf},(S++[n])[i]?=gV o->(A++[p])[i]?=gV a->i<↥S->S[i]?=gV o/\A[i]?=gV a:=λ{i o a} e c hl=>by
  rw[Lf hl]at e;rw[Lf (h.len▸hl)]at c;show#[e,c]
 have new:∀{i:Kb}{o:O}{a:Kf},(S++[n])[i]?=gV o->(A++[p])[i]?=gV a->¬ i<↥S->i=↥S/\o=n/\a=p:=λ{i o a} e c hl=>by
  have hi:i=↥S:=by
   have:=(Ko.mp e).1;simp at this;omega
  subst hi;simp at e;rw[<- h.len]at c;simp at c;show#[rfl,e.symm,c.symm]
 show#[by simp[h.len],λi j a o u m m1 q m2 k l=>?_,λi o a e c=>?_]
 ·by_cases hi:i<↥S<;>by_cases s:j<↥S
  ·obtain⟨d,f⟩:=b m k hi;obtain⟨t,v⟩:=b q l s;show h.nd i j a o u d m1 t m2 f v
  ·obtain⟨d,f⟩:=b m k hi;obtain⟨_,_,z⟩:=new q l s;subst z;show absurd g ((h.obj i o a d f).there m1)
  ·obtain⟨t,v⟩:=b q l s;obtain⟨_,_,z⟩:=new m k hi;subst z;show absurd g ((h.obj j u a t v).there m2)
  ·rw[(new m k hi).1,(new q l s).1]
 ·by_cases hi:i<↥S
  ·obtain⟨d,f⟩:=b e c hi;show(h.obj i o a d f).keep (.inl g) (λw z=>(h.obj i o a d f).there w (z▸g)) ex
  ·obtain⟨_,rfl,rfl⟩:=new e c hi;show r
def StoreOk.push {S:aa}{p:Kf}{ws:J2 W}{vs:J2 V}(h:StoreOk wd K A H S)(a:H p=td)(r:RelL K A H ws vs):StoreOk wd K (A++[p]) (bv H p (.lst vs)) (S++[.lst ws]):=
 h.pushO a #[vs,aE,r.mono (bO a)]
def StoreOk.writeO {S:aa}{i:Kb}{p:Kf}{s n:O}{u:HO}(h:StoreOk wd K A H S)(e:S[i]?=gV s)(m0:s.mut=true)(f:A[i]?=gV p)(r:ObjRel wd K A (bv H p u) p n) :
  StoreOk wd K A (bv H p u) (S.set i n)/\Ext K A H A (bv H p u):=by
 have hw:Wr H p:=(h.obj i _ p e f).wr m0;have ex:Ext K A H A (bv H p u):=b7 hw;have hl:i<↥S:=(Ko.mp e).1;show#[#[by simp[h.len],λj k a o u b m1 v m2 c t=>?_,λj o a b c=>?_],ex]
 ·have get:∀{j:Kb}{o:O},(S.set i n)[j]?=gV o->o.mut=true->∃d,S[j]?=gV d/\d.mut=true:=λ{j o} q m=>by
   rw[Mx]at q
   by_cases z:i=j
   ·subst z;show#[_,e,m0]
   ·rw[KS z]at q;show#[o,q,m]
  obtain⟨d,y,g⟩:=get b m1;obtain⟨x,B,l⟩:=get v m2;show h.nd j k a d x y g B l c t
 ·rw[Mx]at b
  by_cases z:i=j
  ·subst z;rw[KC rfl,KC hl]at b;cases b;rw[f]at c;cases c
   show r
  ·rw[KS z]at b;show(h.obj j o a b c).keep hw (λw q=>z (h.nd i j p _ o e m0 b w f (q▸c))) ex
def StoreOk.write {S:aa}{i:Kb}{p:Kf}{ws:J2 W}{us:J2 V}{a:J2 W}(h:StoreOk wd K A H S)(e:S[i]?=gV (.lst a))(b:A[i]?=gV p)(r:RelL K A H ws us) :
  StoreOk wd K A (bv H p (.lst us)) (S.set i (.lst ws))/\Ext K A H A (bv H p (.lst us)):=
 h.writeO e rfl b #[us,aE,r.mono (b7 ((h.obj i _ p e b).wr rfl))]
end
abbrev dU (S:aa)(i:Kb):J9 (J2 W):=match S[i]? with
 |some (.lst xs)=>gV xs
 |some (.fro xs)=>gV xs
 |_=>td
abbrev mf (S:aa)(i:Kb):J9 (J2 W):=match S[i]? with
 |some (.lst xs)=>gV xs
 |_=>td
abbrev lN (S:aa)(xs:J2 W):J9 (W×aa):=if ↥xs<=sizeLine then gV (.ref ↥S,S++[.lst xs])else td
abbrev rs (S:aa)(xs:J2 W):J9 (W×aa):=if ↥xs<=sizeLine then gV (.tup xs,S)else td
abbrev AD (j:Ki):KR:=decide (0<j)&&decide (j<1073741824)
abbrev u6 (i j:Ki):KR:=(decide (-(2^64)<i)&&decide (i<2^64))||(decide (-(2^64)<j)&&decide (j<2^64))
abbrev Gp (i j:Ki):KR:=decide (0<=j)&&decide (j<=1000000)&&decide (i.natAbs<2^64)
inductive BOp where|add|sub|mul|fdiv|mod|pow
 deriving Ny
abbrev z5 (c:Ki->Ki->KR)(f:Ki->Ki->Ki)(x y:W)(S:aa):J9 (W×aa):=match x,y with
 |.int i,.int j=>if c i j then gV (.int (f i j),S)else td
 |_,_=>td
abbrev u7 (x y:W)(S:aa):J9 (W×aa):=match x with
 |.int i=>match y with
  |.int j=>gV (.int (i+j),S)
  |_=>td
 |.str x=>match y with
  |.str y=>if ↥x+↥y<=sizeLine then gV (.str (x++y),S)else td
  |_=>td
 |.tup xs=>match y with
  |.tup ys=>rs S (xs++ys)
  |_=>td
 |.ref i=>match y with
  |.ref j=>match mf S i,mf S j with
   |some xs,gV ys=>lN S (xs++ys)
   |_,_=>td
  |_=>td
 |_=>td
abbrev AE (x y:W)(S:aa):J9 (W×aa):=match x with
 |.str x=>match y with
  |.int k=>if k<2^24/\-(2^24)<=k/\↥x*k.toNat<=sizeLine then gV (.str (T0 x k),S)else td
  |_=>td
 |.ref i=>match y with
  |.int k=>match mf S i with
   |some xs=>if k<2^24/\-(2^24)<=k/\↥xs*k.toNat<=sizeLine then lN S (KU k.toNat xs).flatten else td
   |none=>td
  |_=>td
 |x=>z5 u6 (· * ·) x y S
abbrev gN:BOp->W->W->aa->J9 (W×aa)
 |.add,x,y,S=>u7 x y S
 |.sub,x,y,S=>z5 (λ_ _=>true) (· - ·) x y S
 |.mul,x,y,S=>AE x y S
 |.fdiv,x,y,S=>z5 (λ_ j=>AD j) (· / ·) x y S
 |.mod,x,y,S=>z5 (λ_ j=>decide (0<j)) (· % ·) x y S
 |.pow,x,y,S=>z5 Gp (λi j=>i^j.toNat) x y S
abbrev BOp.py:BOp->QS
 |.add=>.Add|.sub=>.Sub|.mul=>.Mult|.fdiv=>.FloorDiv|.mod=>.Mod|.pow=>.Pow
section
variable (X:Cx)
inductive PostE (J:J2 (Kf×L5))(Y:L2.St)(A:J2 Kf)(H:Hp)(S':aa)(w:W)(u:J5)(s':J8):Prop
 |mk (v:V) (H':Hp) (A':J2 Kf) (i:Inv X J Y H' s') (r:RelV v u) (e:Ext X.K A H A' H') (so:StoreOk X.w X.K A' H' S') (rl:Rel X.K A' H' w v):PostE J Y A H S' w u s'
noncomputable abbrev FE:=Fm->aa->J9 (W×aa)
abbrev LOp (f:J5->J5->SO J5)(g:W->W->aa->J9 (W×aa)):Prop:=
 ∀(J:J2 (Kf×L5)) (s:J8) (Y:L2.St) (H:Hp) (A:J2 Kf) (S:aa) (x y:W) (a b:V) (u v:J5) (w:W) (S':aa),Inv X J Y H s->StoreOk X.w X.K A H S->
  Rel X.K A H x a->RelV a u->Rel X.K A H y b->RelV b v->g x y S=gV (w,S')->wpAny (model X.prog X.w) X.A (f u v) (PostE X J Y A H S' w) X.xe s
end
section
variable{X:Cx}
def kj {S:aa}{i:Kb}{xs:J2 W}(h:mf S i=gV xs):S[i]?=gV (.lst xs):=by
 unfold mf at h;split at h
 ·cases h;assumption
 ·cases h
def eD {A:J2 Kf}{H:Hp}{S:aa}{i:Kb}{xs:J2 W}{a:Kf}(c:StoreOk X.w X.K A H S)(h:mf S i=gV xs)(b:A[i]?=gV a):∃vs,H a=gV (.lst vs)/\RelL X.K A H xs vs:=
 c.obj i _ a (kj h) b
def bg {A:J2 Kf}{H:Hp}{S:aa}{i:Kb}{xs:J2 W}{a:Kf}(c:StoreOk X.w X.K A H S)(h:dU S i=gV xs)(b:A[i]?=gV a):∃vs,SqL X.K H a vs/\RelL X.K A H xs vs:=by
 unfold dU at h;split at h
 ·cases h;obtain⟨vs,q,r⟩:=c.obj i _ a (by assumption) b
  show#[vs,.of q,r]
 ·cases h;obtain⟨vs,q,r⟩:=c.obj i _ a (by assumption) b
  show#[vs,q.sq,r]
 ·cases h
def jS {S S':aa}{xs:J2 W}{w:W}(h:lN S xs=gV (w,S')):↥xs<=sizeLine/\w=.ref ↥S/\S'=S++[.lst xs]:=by
 unfold lN at h;split at h
 ·cases h;show#[by assumption,rfl,rfl]
 ·cases h
def sO {S S':aa}{xs:J2 W}{w:W}(h:rs S xs=gV (w,S')):↥xs<=sizeLine/\w=.tup xs/\S'=S:=by
 unfold rs at h;split at h
 ·cases h;show#[by assumption,rfl,rfl]
 ·cases h
def AF {A:J2 Kf}{H:Hp}{S:aa}{ws:J2 W}{vs:J2 V}{Q:VK}{p:Kf}(d:StoreOk X.w X.K A H S)(r:RelL X.K A H ws vs)(c:H p=td)
  (q:∀v a b,Ext X.K A H b a->StoreOk X.w X.K b a (S++[.lst ws])->Rel X.K b a (.ref ↥S) v->Q v a):Q (.ref p) (bv H p (.lst vs)):=
 q _ _ (A++[p]) (bO c) (d.push c r) (.ref (by rw[<- d.len];simp))
def AG {A:J2 Kf}{H:Hp}{S:aa}{ws:J2 W}{vs:J2 V}{Q:VK}{p:Kf}(d:StoreOk X.w X.K A H S)(r:RelL X.K A H ws vs)(c:H p=td)
  (q:∀v a b,Ext X.K A H b a->StoreOk X.w X.K b a S->Rel X.K b a (.tup ws) v->Q v a):Q (.ref p) (bv H p (.tup vs)):=
 q _ _ A (b7 (.inl c)) (d.lay c) (.tup (.of aE) (r.mono (b7 (.inl c))))
abbrev Gq (K:Km):R2:=λx y H Q=>∃a b xs ys,x=.ref a/\y=.ref b/\SqT K H a xs/\SqT K H b ys/\↥xs+↥ys<=sizeLine/\
 (xs=[]->Q (.ref b) H)/\(ys=[]->Q (.ref a) H)/\(∀p,H p=td->Q (.ref p) (bv H p (.tup (xs++ys))))
def AH:OpR X (binaryOp .Add) (Gq X.K):=by
 intro J s Y H x y v u Q I M N h;obtain⟨a,b,xs,ys,rfl,rfl,B,C,t,E,G,L⟩:=h;cases M;cases N;obtain⟨its,g,w,_⟩:=I.tuple B;obtain⟨f,l,p2,_⟩:=I.tuple C
 by_cases k:xs=[]
 ·obtain⟨⟨cls,A,data,O⟩,r,hc,n,hd⟩:=id w;obtain⟨⟨p,j,i,m⟩,e,c,D,d⟩:=id p2;simp only at hc hd c d;subst hc hd c d;show QU #[_,r,rfl] #[_,e,rfl] O6 Qo N5 N1 (NQ _ _)
   (tuple_addW0 a b its.toArray f.toArray n D A j O m (by simp[g.nil_iff.mpr k])) #[r,e,#[.ref b,H,I,rfl,E k]]
 ·show HT.Aq w p2 (λz=>k (g.nil_iff.mp z)) (λz=>#[.ref a,H,I,rfl,G (l.nil_iff.mp z)]) (λz=>?_) (by rw[<- ↥g,<- ↥l];show t)
  show#[.ref ⇑s.heap.objs,_,I.laid (t':=s.toks) (o:=.tup (xs++ys)) (λb ob q=>J7 _ q) (Kl _) ?_,rfl,L _ (I.hok.fresh (Kl _))]
  show#[#[by rw[Kh];show t,NoD.new _ _ _],_,g.append l,Ri _ _]
def RelL.nil_iff {K:Km}{A:J2 Kf}{H:Hp}{ws:J2 W}{vs:J2 V}(r:RelL K A H ws vs):vs=[]↔ws=[]:=by
 cases r<;>simp
def rz:OpR X (binaryOp .Mult) (λx y H Q=>∃z k,x=.str z/\y=.int k/\MulOk z k/\Q (.str (T0 z k)) H):=by
 intro J s Y H x y v u Q I a b h;obtain⟨z,k,rfl,rfl,ok,q⟩:=h;obtain⟨t,rfl⟩:=a;obtain⟨t',rfl⟩:=b;show SB.mul ok λd c=>#[.str _,H,I.tok _,#[_,rfl],q]
def xh {x:KG}{k:Ki}(h:k<16777216)(i : -16777216<=k)(d:↥x*k.toNat<=sizeLine):MulOk x k:=by
 have g:sizeLine=16777216:=Lu;rw[g]at d;show#[?_,λa b=>?_,λ_ _=>?_]
 ·rw[Bool.or_eq_false_iff];show#[K4 ∅,K4 ∅]
 ·have hk:0<k:=∅
  have e:(↥x:Ki)*k=((↥x*k.toNat:Kb):Ki):=by
   rw[Int.natCast_mul,Om ∅]
  intro c;have f:(2^63-1:Ki)<(↥x:Ki)*k:=(Int.ediv_lt_iff_lt_mul hk).mp c;rw[e]at f;generalize ↥x*k.toNat=z at d f;omega
 ·unfold R7;rw[g];show K4 ∅
inductive EndV (wd:K8)(K:Km)(A:J2 Kf)(H:Hp)(S':aa)(w:W)(v:V)(H':Hp):Prop
 |mk (A':J2 Kf) (e:Ext K A H A' H') (so:StoreOk wd K A' H' S') (r:Rel K A' H' w v):EndV wd K A H S' w v H'
def EndV.here {A:J2 Kf}{H:Hp}{S:aa}{w:W}{v:V}(a:StoreOk X.w X.K A H S)(r:Rel X.K A H w v):EndV X.w X.K A H S w v H:=#[A,.refl,a,r]
def EndV.lst {A:J2 Kf}{H:Hp}{S:aa}{ws:J2 W}{vs:J2 V}{p:Kf}(f:StoreOk X.w X.K A H S)(r:RelL X.K A H ws vs)(e:H p=td):EndV X.w X.K A H (S++[.lst ws]) (.ref ↥S) (.ref p) (bv H p (.lst vs)):=
 AF (Q:=EndV X.w X.K A H (S++[.lst ws]) (.ref ↥S)) f r e λv g d a b c=>#[d,a,b,c]
def EndV.tup {A:J2 Kf}{H:Hp}{S:aa}{ws:J2 W}{vs:J2 V}{p:Kf}(f:StoreOk X.w X.K A H S)(r:RelL X.K A H ws vs)(e:H p=td):EndV X.w X.K A H S (.tup ws) (.ref p) (bv H p (.tup vs)):=
 AG (Q:=EndV X.w X.K A H S (.tup ws)) f r e λv g d a b c=>#[d,a,b,c]
def EP.post {J:J2 (Kf×L5)}{Y:L2.St}{A:J2 Kf}{H:Hp}{S':aa}{w:W}{u:J5}{a:J8}(h:EP X J Y (EndV X.w X.K A H S' w) u a):PostE X J Y A H S' w u a:=by
 obtain⟨v,c,d,r,b,x,y,z⟩:=h;show#[v,c,b,d,r,x,y,z]
def OpR.go {f:J5->J5->SO J5}{r:R2}(h:OpR X f r){J:J2 (Kf×L5)}{Y:L2.St}{A:J2 Kf}{H:Hp}{S':aa}{w:W}{s:J8}{a b:V}{u v:J5}(I:Inv X J Y H s)(c:RelV a u)(d:RelV b v)
  (q:r a b H (EndV X.w X.K A H S' w)):wpAny (model X.prog X.w) X.A (f u v) (PostE X J Y A H S' w) X.xe s:=bf (h J s Y H a b u v _ I c d q) λ_ _=>EP.post
def AI:LOp X (binaryOp .Add) (gN .add):=by
 intro J s Y H A S x y a b u v w S' I c q i k j e;cases q with
 |int=>cases k with
  |int=>cases e;show OpR.go DM I i j #[_,_,rfl,rfl,.here c .int]
  |_=>cases e
 |str=>cases k with
  |str=>
   dsimp only[gN,u7]at e;split at e
   ·cases e;show OpR.go re I i j #[_,_,rfl,rfl,by assumption,.here c .str]
   ·cases e
  |_=>cases e
 |tup g d=>cases k with
  |tup h f=>
   obtain⟨hl,rfl,rfl⟩:=sO (show rs S _=_ from e)
   rw[Kh,↥d,↥f]at hl;show OpR.go AH I i j #[_,_,_,_,rfl,rfl,g,h,hl,λz=>?_,λz=>?_,λp l=>.tup c (d.append f) l]
   ·have m:=d.nil_iff.mp z;subst m;show .here c (.tup h f)
   ·have m:=f.nil_iff.mp z;subst m;rw[Ln];show .here c (.tup g d)
  |_=>cases e
 |ref g=>cases k with
  |ref h=>
   dsimp only[gN,u7]at e;split at e
   ·obtain⟨hl,rfl,rfl⟩:=jS e;obtain⟨vs,n,d⟩:=eD c (by assumption) g
    obtain⟨us,o,f⟩:=eD c (by assumption) h
    rw[Kh,↥d,↥f]at hl;show OpR.go D3 I i j #[_,_,_,_,rfl,rfl,n,o,hl,λp l=>.lst c (d.append f) l]
   ·cases e
  |_=>cases e
 |_=>cases e
def o7 {f:J5->J5->SO J5}{c:Ki->Ki->KR}{g:Ki->Ki->Ki}{r:R2}(h:OpR X f r)(d:∀i j H Q,c i j=true->Q (.int (g i j)) H->r (.int i) (.int j) H Q):LOp X f (z5 c g):=by
 intro J s Y H A S x y a b u v w S' I o m k n l e;cases m with
 |int=>cases n with
  |int=>
   unfold z5 at e;dsimp only at e;split at e
   ·cases e;show OpR.go h I k l (d _ _ _ _ (by assumption) (.here o .int))
   ·cases e
  |_=>cases e
 |_=>cases e
def AJ:LOp X (binaryOp .Sub) (gN .sub):=o7 DN λ_ _ _ _ _ q=>#[_,_,rfl,rfl,q]
def AK {i j:Ki}(h:u6 i j=true):CMul i j:=by
 unfold u6 at h;rw[Mp,Kc,Kc,KP,KP,KP,KP]at h;show h
def AL:LOp X (binaryOp .Mult) (gN .mul):=by
 have l:LOp X (binaryOp .Mult) (z5 u6 (· * ·)):=o7 DO λ_ _ _ _ h q=>#[_,_,rfl,rfl,AK h,q]
 intro J s Y H A S x y a b u v w S' I c g d i f e;cases x with
 |str z=>
  cases g with
  |str=>cases i with
   |int=>
    dsimp only[gN,AE]at e;split at e
    ·rename_i hc;cases e;show OpR.go rz I d f #[_,_,rfl,rfl,xh ∅ ∅ hc.2.2,.here c .str]
    ·cases e
   |_=>cases e
 |ref z=>
  cases g with
  |ref k=>cases i with
   |int=>
    dsimp only[gN,AE]at e;split at e
    ·split at e
     ·rename_i hc;obtain⟨hl,rfl,rfl⟩:=jS e;obtain⟨vs,n,j⟩:=eD c (by assumption) k
      rw[↥j]at hc;show OpR.go D4 I d f #[_,_,_,rfl,rfl,n,∅,∅,hc.2.2,λp m=>.lst c (j.rep _) m]
     ·cases e
    ·cases e
   |_=>cases e
 |_=>show l _ _ _ _ _ _ _ _ _ _ _ _ _ _ I c g d i f e
def xi:LOp X (binaryOp .FloorDiv) (gN .fdiv):=o7 Al λ_ _ _ _ h q=>#[_,_,rfl,rfl,by
 unfold AD at h;rw[Kc,KP,KP]at h;show h,q]
def AM:LOp X (binaryOp .Mod) (gN .mod):=o7 DP λ_ _ _ _ h q=>#[_,_,rfl,rfl,Lr h,q]
def AN:LOp X (binaryOp .Pow) (gN .pow):=o7 DQ λ_ _ _ _ h q=>#[_,_,rfl,rfl,by
 unfold Gp at h;rw[Kc,Kc,KP,KP,KP]at h;show#[h.1.1,h.1.2,h.2],q]
def sP (o:BOp):LOp X (binaryOp o.py) (gN o):=by
 cases o
 ·show AI
 ·show AJ
 ·show AL
 ·show xi
 ·show AM
 ·show AN
end
abbrev v6 (S:aa)(i:Kb):J9 (J2 (Ki×W)):=match S[i]? with
 |some (.dik U)=>gV U
 |_=>td
abbrev dW (U:J2 (Ki×W))(k:Ki):J9 W:=(U.find? λp=>decide (p.1=k)).map (·.2)
abbrev km (U:J2 (Ki×W))(k:Ki)(v:W):J2 (Ki×W):=
 if (U.any λp=>decide (p.1=k))=true then U.map (λp=>if p.1=k then(p.1,v)else p)else U++[(k,v)]
section
variable{K:Km}{A:J2 Kf}{H:Hp}{wd:K8}{S:aa}
def rA {i:Kb}{U:J2 (Ki×W)}(e:v6 S i=gV U):S[i]?=gV (.dik U):=by
 unfold v6 at e;split at e
 ·rename_i h;cases e;show h
 ·cases e
def jb {i:Kb}{U:J2 (Ki×W)}{a:Kf}(c:StoreOk wd K A H S)(e:v6 S i=gV U)(b:A[i]?=gV a):∃us,H a=gV (.dK us)/\KI K A H U us:=c.obj i _ a (rA e) b
def kn {p:Ki×W}{q:bq×V}{k:Ki}(h:q.1=Mz p.1):(q.1=(Mz k:bq))↔p.1=k:=by
 rw[h];show#[λz=>SS z,λz=>by rw[z]]
def KI.val {U:J2 (Ki×W)}{us:J2 (bq×V)}(r:KI K A H U us)(k:Ki) :
  (∀w,dW U k=gV w->∃v,ja us (Mz k:bq)=gV v/\Rel K A H w v)/\(dW U k).isSome=(ja us (Mz k:bq)).isSome:=by
 unfold KI at r
 induction r with
 |nil=>show#[λw h=>(nomatch h),rfl]
 |@cons p q ps a h t ih=>
  by_cases e:p.1=k
  ·rw[iy ((kn h.1).mpr e),show dW (p::ps) k=gV p.2 by simp[dW,LA,e]]
   show#[λw hw=>(by cases hw;show#[_,rfl,h.2]),rfl]
  ·rw[iA (λz=>e ((kn h.1).mp z)),show dW (p::ps) k=dW ps k by simp[dW,LA,e]]
   show ih
def KI.length {U:J2 (Ki×W)}{us:J2 (bq×V)}(r:KI K A H U us):↥U=↥us:=Nr r
def KI.put {U:J2 (Ki×W)}{us:J2 (bq×V)}(r:KI K A H U us)(k:Ki){w:W}{v:V}(a:Rel K A H w v):KI K A H (km U k w) (fF us (Mz k:bq) v):=by
 have b:(U.any λp=>decide (p.1=k))=us.any λq=>decide (q.1=(Mz k:bq)):=by
  unfold KI at r
  induction r with
  |nil=>rfl
  |@cons p q ps c h t ih=>rw[Ma,Ma,ih,decide_eq_decide.mpr (kn h.1)]
 unfold km fF;rw[b];split
 ·rename_i hc;clear hc b;unfold KI at r ⊢
  induction r with
  |nil=>show .nil
  |@cons p q ps c h t ih=>
   rw[Lb,Lb];show .cons ?_ ih
   by_cases e:p.1=k
   ·rw[KC e,KC ((kn h.1).mpr e)];show#[h.1,a]
   ·rw[KS e,KS (λz=>e ((kn h.1).mp z))];show h
 ·show P2 r #[rfl,a]
def StoreOk.writeK {i:Kb}{p:Kf}{U b:J2 (Ki×W)}{us:J2 (bq×V)}(h:StoreOk wd K A H S)(e:v6 S i=gV b)(a:A[i]?=gV p)(r:KI K A H U us) :
  StoreOk wd K A (bv H p (.dK us)) (S.set i (.dik U))/\Ext K A H A (bv H p (.dK us)):=
 h.writeO (rA e) rfl a #[us,aE,r.mono (b7 ((h.obj i _ p (rA e) a).wr rfl))]
end
abbrev eM (f:W->W->J9 KR):J2 W->J2 W->J9 KR
 |[],[]=>gV true
 |[],_::_=>gV false
 |_::_,[]=>gV false
 |x::xs,y::ys=>match f x y,eM f xs ys with
  |some a,gV b=>gV (a&&b)
  |_,_=>td
abbrev b2 (b:KR):Ki:=if b then 1 else 0
abbrev fE (S:aa):Kb->W->W->J9 KR
 |_,.non,y=>match y with
  |.non=>gV true
  |_=>td
 |_,.bl a,y=>match y with
  |.bl b=>gV (a==b)
  |_=>td
 |_,.int a,y=>match y with
  |.int b=>gV (a==b)
  |_=>td
 |_,.str a,y=>match y with
  |.str b=>gV (a==b)
  |_=>td
 |0,_,_=>td
 |d+1,.tup xs,y=>match y with
  |.tup ys=>eM (fE S d) xs ys
  |_=>td
 |d+1,.ref i,y=>match y with
  |.ref j=>match mf S i,mf S j with
   |some xs,gV ys=>if ↥xs=↥ys then eM (fE S d) xs ys else gV false
   |_,_=>td
  |_=>td
section
variable{X:Cx}{J:J2 (Kf×L5)}{Y:L2.St}{H:Hp}{s:J8}{A:J2 Kf}{S:aa}
abbrev RU (K:Km)(A:J2 Kf)(H:Hp)(w:W)(u:J5):Prop:=∃v,Rel K A H w v/\RelV v u
def sQ {ws:J2 W}{vs:J2 V}{us:J2 J5}(r:RelL X.K A H ws vs)(q:Vals vs us):∀(j:Kb) (a:j<↥ws) (b:j<↥us),RU X.K A H ws[j] us[j]:=by
 induction ws generalizing vs us with
 |nil=>intro j a;simp at a
 |cons w ws ih=>
  cases r with
  |cons e f=>
   cases q with
   |cons c d=>
    intro j a b;cases j with
    |zero=>show#[_,e,c]
    |succ j=>show ih f d j (by simpa using a) (by simpa using b)
def xj {ws:J2 W}{u:J5}(I:Inv X J Y H s)(h:RU X.K A H (.tup ws) u):∃a its,u=.ref a/\Pw s.heap a its/\⇑its=↥ws/\↥ws<=sizeLine/\∀(j:Kb) (c:j<↥ws) (d:j<⇑its),RU X.K A H ws[j] its[j]:=by
 obtain⟨v,r,q⟩:=h;cases r with
 |tup sq b=>
  obtain⟨its,e,f,g⟩:=I.tuple sq;show#[_,its.toArray,q,f,by rw[Ks,<- ↥e,↥b],by rw[↥b];show g,λj c d=>?_]
  have:=sQ b e j c (by simpa using d)
  simpa using this
def xk {i:Kb}{ws:J2 W}{u:J5}(I:Inv X J Y H s)(n:StoreOk X.w X.K A H S)(e:mf S i=gV ws)(h:RU X.K A H (.ref i) u):∃a its,u=.ref a/\A[i]?=gV a/\s.heap.IsList a its/\⇑its=↥ws/\↥ws<=sizeLine/\∀(j:Kb) (d:j<↥ws) (f:j<⇑its),RU X.K A H ws[j] its[j]:=by
 obtain⟨v,r,q⟩:=h;cases r with
 |ref c=>
  obtain⟨vs,k,b⟩:=eD n e c;obtain⟨its,g,l,m⟩:=I.list (.of k);show#[_,its.toArray,q,c,l.isList,by rw[Ks,<- ↥g,↥b],by rw[↥b];show m,λj d f=>?_]
  have:=sQ b g j d (by simpa using f)
  simpa using this
def ko {f:W->W->J9 KR}:∀{xs ys:J2 W}{k:KR},eM f xs ys=gV k->∃e:Kb->KR,(∀(j:Kb) (c:j<↥xs) (d:j<↥ys),f xs[j] ys[j]=gV (e j))/\
  k=((Kj (min ↥xs ↥ys)).all e&&↥xs==↥ys)
 |[],[],k,h=>#[λ_=>true,λj c=>by simp at c,by cases h;rfl]
 |[],_::_,k,h=>#[λ_=>true,λj c=>by simp at c,by cases h;simp]
 |_::_,[],k,h=>#[λ_=>true,λj c d=>by simp at d,by cases h;simp]
 |x::xs,y::ys,k,h=>by
  dsimp only[eM]at h;split at h
  ·rename_i a b l m;cases h;obtain⟨e,c,d⟩:=ko m;show#[λj=>match j with|0=>a|j+1=>e j,λj g i=>?_,?_]
   ·cases j with
    |zero=>show l
    |succ j=>show c j (by simpa using g) (by simpa using i)
   ·subst d;revert K5 Nat.add_min_add_right Pj Ls SI Bool.and_assoc;congr 2;simp
  ·cases h
def AO (I:Inv X J Y H s)(p:StoreOk X.w X.K A H S):∀(d:Kb) {x y:W}{v:V}{k:KR},Rel X.K A H x v->Rel X.K A H y v->fE S d x y=gV k->k=true:=by
 intro d
 induction d with
 |zero=>
  intro x y v k n f e;cases n with
  |non=>cases f;cases e;rfl
  |bl=>cases f;cases e;show Lk _
  |int=>cases f;cases e;show Lk _
  |str=>cases f;cases e;show Lk _
  |tup _ _=>cases e
  |ref _=>cases e
 |succ d ih=>
  have c:∀{xs ys:J2 W}{vs:J2 V}{k:KR},RelL X.K A H xs vs->RelL X.K A H ys vs->eM (fE S d) xs ys=gV k->k=true:=by
   intro xs
   induction xs with
   |nil=>
    intro ys vs k g h e;cases g;cases h;cases e;rfl
   |cons x xs m=>
    intro ys vs k g h e;cases g with
    |cons B C=>
     cases h with
     |cons p2 D=>
      dsimp only[eM]at e;split at e
      ·rename_i a b w z;cases e;rw[ih B p2 w,m C D z];rfl
      ·cases e
  intro x y v k n f e;cases n with
  |non=>cases f;cases e;rfl
  |bl=>cases f;cases e;show Lk _
  |int=>cases f;cases e;show Lk _
  |str=>cases f;cases e;show Lk _
  |tup u g=>
   cases f with
   |tup o h=>
    rw[I.tuple_inj u o]at g;show c g h e
   |ref i=>cases e
  |ref i=>
   cases f with
   |tup o h=>cases e
   |ref t=>
    dsimp only[fE]at e;split at e
    ·rename_i xs ys j l;have:=p.nd _ _ _ _ _ (kj j) rfl (kj l) rfl i t;subst this;rw[j]at l;cases l
     rw[KC rfl]at e;obtain⟨vs,q,r⟩:=eD p j i;show c r r e
    ·cases e
def aX (A:KZ):A.in1.units=A.units+1:=rfl
noncomputable abbrev FC (B:KZ)(s:J8)(u v:J5)(k:KR):Prop:=SeqAt.RcAt B s u v k/\SeqAt.RcNeAt B s u v (!k)/\Of B s u v k
open SeqAt in
def CJ (I:Inv X J Y H s)(U:StoreOk X.w X.K A H S):∀(d:Kb) (B:KZ) {x y:W}{u v:J5}{k:KR},B.units+d<cLine->RU X.K A H x u->RU X.K A H y v->fE S d x y=gV k->FC B s u v k:=by
 have non:∀{B:KZ}{y:W}{u v:J5}{k:KR}{d:Kb},RU X.K A H .non u->RU X.K A H y v->fE S d .non y=gV k->FC B s u v k:=by
  intro B y u v k d ⟨_,h,E⟩ ⟨_,l,G⟩ e;cases h;cases(show u=LB from E)
  cases y with
  |non=>
   have e:gV (true)=gV k:=by cases d<;>show e
   cases e;cases l;cases(show v=LB from G)
   show#[.none_none,.none_none,.same _]
  |_=>cases d<;>cases e
 have bl:∀{B:KZ}{b:KR}{y:W}{u v:J5}{k:KR}{d:Kb},RU X.K A H (.bl b) u->RU X.K A H y v->fE S d (.bl b) y=gV k->FC B s u v k:=by
  intro B b y u v k d ⟨_,h,E⟩ ⟨_,l,G⟩ e;cases h;cases(show u=Nz _ from E)
  cases y with
  |bl c=>
   have e:gV (b==c)=gV k:=by cases d<;>show e
   cases e;cases l;cases(show v=Nz _ from G)
   show#[.bool_bool _ _,.bool_bool _ _,.bool_bool _ _]
  |_=>cases d<;>cases e
 have int:∀{B:KZ}{b:Ki}{y:W}{u v:J5}{k:KR}{d:Kb},RU X.K A H (.int b) u->RU X.K A H y v->fE S d (.int b) y=gV k->FC B s u v k:=by
  intro B b y u v k d ⟨_,h,E⟩ ⟨_,l,G⟩ e;cases h;obtain⟨t0,rfl⟩:∃t,u=Oq _ t:=E;cases y with
  |int c=>
   have e:gV (b==c)=gV k:=by cases d<;>show e
   cases e;cases l;obtain⟨t,rfl⟩:∃t,v=Oq _ t:=G;show#[.int_int _ _ _ _,.int_int _ _ _ _,.int_int _ _ _ _]
  |_=>cases d<;>cases e
 have str:∀{B:KZ}{b:KG}{y:W}{u v:J5}{k:KR}{d:Kb},RU X.K A H (.str b) u->RU X.K A H y v->fE S d (.str b) y=gV k->FC B s u v k:=by
  intro B b y u v k d ⟨_,h,E⟩ ⟨_,l,G⟩ e;cases h;obtain⟨t0,rfl⟩:∃t,u=Os _ t:=E;cases y with
  |str c=>
   have e:gV (b==c)=gV k:=by cases d<;>show e
   cases e;cases l;obtain⟨t,rfl⟩:∃t,v=Os _ t:=G;show#[.str_str _ _ _ _,.str_str _ _ _ _,.str_str _ _ _ _]
  |_=>cases d<;>cases e
 intro d
 induction d with
 |zero=>
  intro B x y u v k hu h l e;cases x with
  |non=>show non h l e
  |bl b=>show bl h l e
  |int b=>show int h l e
  |str b=>show str h l e
  |_=>cases e
 |succ d ih=>
  intro B x y u v k hu h l e;have o:B.units<cLine:=∅
  have O:B.in1.units+d<cLine:=by rw[aX];omega
  have R:=h;have T:=l;have fin:∀{a b:Kf},u=.ref a->v=.ref b->RcAt B s u v k->RcNeAt B s u v (!k)->FC B s u v k:=by
   intro a b ea eb r w;subst ea eb;show#[r,w,?_]
   by_cases L:a=b
   ·subst L;obtain⟨v1,q1,z1⟩:=R;obtain⟨v2,q2,z2⟩:=T;have P:v1=v2:=z1.inj z2;subst P;have:=AO I U (d+1) q1 q2 e;subst this;show EqAt.same _
   ·show EqAt.of_refs L r
  cases x with
  |non=>show non h l e
  |bl b=>show bl h l e
  |int b=>show int h l e
  |str b=>show str h l e
  |tup xs=>
   cases y with
   |tup ys=>
    obtain⟨a,its,rfl,Z,p,_,hi⟩:=xj I h;obtain⟨b,g,rfl,N,m,_,z⟩:=xj I l;obtain⟨f,r,w⟩:=ko (show eM (fE S d) xs ys=gV k from e)
    have M:∀j (r:j<⇑its) (w:j<⇑g),EqAt B.in1 s its[j] g[j] (f j):=λj C D=>
     (ih B.in1 O (hi j (p▸C) C) (z j (m▸D) D) (r j (p▸C) (m▸D))).2.2
    rw[<- p,<- m]at w;subst w;show fin rfl rfl (RcAt.tuples Z N o M) (RcNeAt.tuples Z N o M)
   |_=>cases e
  |ref i=>
   cases y with
   |ref j=>
    dsimp only[fE]at e;split at e
    ·rename_i ws ws2 hw Q;obtain⟨a,its,rfl,_,hl,p,_,hi⟩:=xk I U hw h;obtain⟨b,g,rfl,_,q,m,_,z⟩:=xk I U Q l;split at e
     ·rename_i n;obtain⟨f,r,w⟩:=ko e;have M:∀j (r:j<⇑its) (w:j<⇑g),EqAt B.in1 s its[j] g[j] (f j):=λj C D=>
       (ih B.in1 O (hi j (p▸C) C) (z j (m▸D) D) (r j (p▸C) (m▸D))).2.2
      have hk:k=(Kj ⇑its).all f:=by rw[w,p,n];simp
      subst hk;show fin rfl rfl (RcAt.lists hl q (by rw[p,m,n]) o M) (RcNeAt.lists hl q (by rw[p,m,n]) o M)
     ·rename_i n;cases e;have V:(⇑its != ⇑g)=true:=by rw[p,m];simpa using n
      show fin rfl rfl (RcAt.lists_lengths hl q V o) (RcNeAt.lists_lengths hl q V o)
    ·cases e
   |_=>cases e
end
abbrev LtAt (B:KZ)(s:J8)(u v:J5)(k:KR):Prop:=
 ∀(prog:KQ) (w:K8) (E:J5->J8->Prop) (Q:J5->J8->Prop),Q (.bool k) s->wpAny (model prog w) B (richCompare .Lt u v) Q E s
inductive LexR (B:KZ)(s:J8):J2 J5->J2 J5->KR->Prop
 |nn:LexR B s [] [] false
 |nc {v:J5}{vs:J2 J5}:LexR B s [] (v::vs) true
 |cn {v:J5}{vs:J2 J5}:LexR B s (v::vs) [] false
 |eq {u v:J5}{us vs:J2 J5}{k:KR}:Of B s u v true->LexR B s us vs k->LexR B s (u::us) (v::vs) k
 |ne {u v:J5}{us vs:J2 J5}{k:KR}:Of B s u v false->LtAt B s u v k->LexR B s (u::us) (v::vs) k
section
open PySem.SeqAt
open PySem.AutoSeq1 (wpAny_loadPart')
open PySem.MeetsSeq PySem.MeetsSeq2 PySem.MeetsSeq3
def nA (l b:Kf)(items a:Lm J5)(n D:Kb)(v m:J9 Kf)(E t:Lm (J9 J5))(k:KR) :
  Meets (M4.«tuple.__lt__» #[[.ref l,.ref b],[]])
   (λB R s=>s.heap.get? l=gV {cls:=.type "tuple",dict:=v,data:=.seq items n,slots:=E}/\s.heap.get? b=gV {cls:=.type "tuple",dict:=m,data:=.seq a D,slots:=t}/\
    LexR B.in1 s items.toList a.toList k/\R (.ok (.ret (.bool k))) s):=
 .of_wp λprog w A R s h=>by
  obtain⟨u,g,d,tk,os⟩:=s;obtain⟨hl,z,j,h⟩:=h
  have H:=Sk;have I:↥items.toList=⇑items:=by simp
  have J:↥a.toList=⇑a:=by simp
  wp_walk using NT hl,NT z,O8 _ (λbW b r=>b.1=td/\r=#[u,g,d,tk,os]/\∃(vs ws:J2 J5),bW=vs.zip ws/\
   LexR A.in1 #[u,g,d,tk,os] vs ws k/\↥vs+⇑a=↥ws+⇑items) _
  case turn=>
   rintro⟨y,x⟩ bW b r ⟨f,rfl,vs,ws,e,i,c⟩;cases i with
   |nn=>rw[Q6]at e;cases e
   |nc=>rw[Q6]at e;cases e
   |cn=>rw[List.zip_nil_right]at e;cases e
   |eq o p=>
    rw[Nn]at e;injection e with hyx hrest
    injection hyx with hy j
    subst hy j;simp only[K5]at c;show J3 (o prog w _ _ ?_)
    wp_walk
    show#[rfl,rfl,_,_,hrest,p,∅]
   |ne o p=>
    rw[Nn]at e;injection e with hyx hrest
    injection hyx with hy j
    subst hy j;show J3 (o prog w _ _ ?_);have q:=p prog w
    wp_walk using q
    show#[_,rfl,by simpa using h]
  case fin=>
   rintro⟨G,b2⟩ r ⟨f,rfl,vs,ws,e,i,c⟩;simp only at f;subst f;have C:k=decide (⇑items<⇑a):=by
    cases i with
    |nn=>simp only[Mb]at c;show(K4 ∅).symm
    |nc=>simp only[Mb,K5]at c;show(Ld ∅).symm
    |cn=>simp only[Mb,K5]at c;show(K4 ∅).symm
    |eq _ _=>rw[Nn]at e;cases e
    |ne _ _=>rw[Nn]at e;cases e
   subst C
   wp_walk
   show#[_,rfl,by simpa [Rf]using h]
  case h=>
   show#[rfl,rfl,items.toList,a.toList,rfl,j,∅]
end
def LtAt.tuples {B:KZ}{s:J8}{l b:Kf}{items a:Lm J5}{k:KR}(hl:Pw s.heap l items)(p:Pw s.heap b a)(q:B.units<cLine)(r:LexR B.in1 s items.toList a.toList k) :
  LtAt B s (.ref l) (.ref b) k:=λprog w E Q h=>by
 obtain⟨⟨cls,o,data,u⟩,m,hc,n,hd⟩:=id hl;obtain⟨⟨j,g,f,i⟩,e,c,t,d⟩:=id p;simp only at hc hd c d;subst hc hd c d;show richCompare_meets_room (op:=.Lt) #[_,m,rfl] #[_,e,rfl] PySem.F.slot_tuple_lt PySem.F.entry_tuple_lt (PySem.F.args_tuple_lt_2 _ _) (nA l b items a n t o g u i k)
  #[m,e,r,show Nz k≠Value.notImplemented/\Q (.bool k) s from#[(λx=>nomatch x),h]] q
inductive COp where|eq|ne|lt|le|gt|ge|isin|notin|is|isnot
 deriving Ny
abbrev COp.py:COp->Rw
 |.eq=>.Eq|.ne=>.NotEq|.lt=>.Lt|.le=>.LtE|.gt=>.Gt|.ge=>.GtE|.isin=>.In|.notin=>.NotIn|.is=>.Is|.isnot=>.IsNot
abbrev aN:W->KR
 |.non=>true
 |.bl _=>true
 |.int _=>true
 |.str _=>true
 |_=>false
abbrev kq:W->W->KR
 |.non,.non=>true
 |.bl a,.bl b=>a==b
 |.bl a,.int b=>b2 a==b
 |.int a,.bl b=>a==b2 b
 |.int a,.int b=>a==b
 |.str a,.str b=>a==b
 |_,_=>false
abbrev cp (S:aa):W->J9 (J2 W)
 |.tup xs=>gV xs
 |.ref i=>dU S i
 |_=>td
noncomputable abbrev fG:Kb:=20
abbrev Gr (x y:W)(S:aa):J9 KR:=match x with
 |.int k=>match y with
  |.ref i=>(v6 S i).map λU=>(dW U k).isSome
  |_=>td
 |_=>td
abbrev xn (x y:W)(S:aa):J9 KR:=match cp S y with
 |some ys=>if aN x&&ys.all aN then gV (ys.any λz=>kq z x)else td
 |none=>Gr x y S
abbrev xo:W->KR
 |.non=>true
 |_=>false
abbrev xp (f:Ki->Ki->KR):W->W->J9 KR
 |.int i,.int j=>gV (f i j)
 |_,_=>td
abbrev rB:COp->W->W->aa->J9 KR
 |.eq,x,y,S=>fE S fG x y
 |.ne,x,y,S=>(fE S fG x y).map (!·)
 |.lt,x,y,_=>xp (λi j=>decide (i<j)) x y
 |.le,x,y,_=>xp (λi j=>decide (i<=j)) x y
 |.gt,x,y,_=>xp (λi j=>decide (j<i)) x y
 |.ge,x,y,_=>xp (λi j=>decide (j<=i)) x y
 |.isin,x,y,S=>xn x y S
 |.notin,x,y,S=>(xn x y S).map (!·)
 |.is,x,y,_=>if xo y then gV (xo x)else td
 |.isnot,x,y,_=>if xo y then gV (!xo x)else td
abbrev cD (o:COp)(x y:W)(S:aa):J9 (W×aa):=(rB o x y S).map λk=>(.bl k,S)
section
variable{X:Cx}
def jT {J:J2 (Kf×L5)}{Y:L2.St}{H:Hp}{s:J8}{A:J2 Kf}{S:aa}{k:KR}(I:Inv X J Y H s)(a:StoreOk X.w X.K A H S):PostE X J Y A H S (.bl k) (.bool k) s:=
 #[.bl k,H,A,I,rfl,.refl,a,.bl]
def AQ {o:COp}{x y w:W}{S S':aa}(h:cD o x y S=gV (w,S')):∃k,rB o x y S=gV k/\w=.bl k/\S'=S:=by
 unfold cD at h;rw[J6]at h;obtain⟨k,a,b⟩:=h;cases b;show#[k,a,rfl,rfl]
def fH {A:J2 Kf}{H:Hp}{w:W}{v:V}(r:Rel X.K A H w v)(f:aN w=true):gL v=true:=by
 cases r<;>first|rfl|cases f
def gd {A:J2 Kf}{H:Hp}:∀{ws:J2 W}{vs:J2 V},RelL X.K A H ws vs->ws.all aN=true->vs.all gL=true
 |_,_,.nil,_=>rfl
 |_,_,.cons r t,f=>by
  rw[Ls,Kc]at f ⊢;show#[fH r f.1,gd t f.2]
def sR {A:J2 Kf}{H:Hp}{x y:W}{u v:V}(r:Rel X.K A H x u)(q:Rel X.K A H y v)(a:aN x=true)(b:aN y=true):Ax u v=kq x y:=by
 cases r<;>cases q<;>first|rfl|cases a|cases b
def sS {A:J2 Kf}{H:Hp}{y:W}{v:V}(q:Rel X.K A H y v)(a:aN y=true):∀{ws:J2 W}{vs:J2 V},RelL X.K A H ws vs->ws.all aN=true->HW v vs=ws.any λz=>kq z y
 |_,_,.nil,_=>rfl
 |_,_,.cons r t,f=>by
  rw[Ls,Kc]at f;have:=sS q a t f.2;unfold HW at this ⊢;rw[Ma,Ma,sR r q f.1 a,this]
def sT {J:J2 (Kf×L5)}{Y:L2.St}{H:Hp}{s:J8}{A:J2 Kf}{S:aa}{y:W}{b:V}{ys:J2 W}(f:StoreOk X.w X.K A H S)(r:Rel X.K A H y b)(e:cp S y=gV ys):∃p vs,b=.ref p/\(SqL X.K H p vs\/SqT X.K H p vs)/\RelL X.K A H ys vs:=by
 cases r with
 |tup a c=>cases e;show#[_,_,rfl,.inr a,c]
 |ref d=>
  obtain⟨vs,a,c⟩:=bg f e d;show#[_,vs,rfl,.inl a,c]
 |_=>cases e
def xq {neg:KR}{o:Rw}(h:OpR X (compareOp o) (IM X.K neg)){J:J2 (Kf×L5)}{Y:L2.St}{H:Hp}{s:J8}{A:J2 Kf}{S:aa}{x y:W}{a b:V}{u v:J5}{ys:J2 W}(I:Inv X J Y H s)(g:StoreOk X.w X.K A H S)
  (d:Rel X.K A H x a) (j:RelV a u) (l:Rel X.K A H y b) (k:RelV b v) (e:cp S y=gV ys) (f:(aN x&&ys.all aN)=true) :
  wpAny (model X.prog X.w) X.A (compareOp o u v) (PostE X J Y A H S (.bl (if neg then !ys.any λz=>kq z x else ys.any λz=>kq z x))) X.xe s:=by
 obtain⟨p,vs,rfl,i,c⟩:=sT (J:=J) (Y:=Y) (s:=s) g l e;rw[Kc]at f;show OpR.go h I j k #[p,vs,rfl,i,fH d f.1,gd c f.2,?_];rw[sS d f.1 c f.2];show .here g .bl
def xr {x y:W}{a b:V}{A:J2 Kf}{H:Hp}{S:aa}{u v:J5}{c:KR}(n:StoreOk X.w X.K A H S)(l:Rel X.K A H x a)(m:Rel X.K A H y b)(j:RelV b v)(e:Gr x y S=gV c):∃d o,v=.ref d/\DGet H d a o/\c=o.isSome:=by
 unfold Gr at e;cases l with
 |int=>cases m with
  |ref f=>
   obtain⟨U,g,h⟩:=J6.mp e;obtain⟨us,i,r⟩:=jb n g f;show#[_,_,j,DGet.k (k:=Mz _) i,h.symm.trans (r.val _).2]
  |_=>cases e
 |_=>cases e
def iC (M:X.A.units+fG<cLine)(o:COp):LOp X (compareOp o.py) (cD o):=by
 intro J s Y H A S x y a b u v w S' I l q n r p e;obtain⟨k,t,N,O⟩:=AQ e;subst N;subst O;clear e
 rename aa=>S
 have m:∀{f:Ki->Ki->KR},xp f x y=gV k->∃i j,x=.int i/\y=.int j/\k=f i j:=by
  intro f h;cases x with
  |int i=>cases y with
   |int j=>cases h;show#[i,j,rfl,rfl,rfl]
   |_=>cases h
  |_=>cases h
 have D:X.A.units+1<cLine:=by have:fG=20:=rfl;omega
 have B:∀{c:KR},xn x y S=gV c->(∃ys,cp S y=gV ys/\(aN x&&ys.all aN)=true/\c=ys.any λz=>kq z x)\/Gr x y S=gV c:=by
  intro c h;unfold xn at h;split at h
  ·split at h
   ·cases h;show .inl #[_,by assumption,by assumption,rfl]
   ·cases h
  ·show .inr h
 have E:∀{c:KR},(if xo y then gV c else td)=gV k->y=.non/\k=c:=by
  intro c h;cases y with
  |non=>cases h;show#[rfl,rfl]
  |_=>cases h
 cases o with
 |eq=>show(CJ I l fG X.A M #[a,q,n] #[b,r,p] t).1 _ _ _ _ (jT I l)
 |ne=>
  obtain⟨Q,C,rfl⟩:=J6.mp t;show(CJ I l fG X.A M #[a,q,n] #[b,r,p] C).2.1 _ _ _ _ (jT I l)
 |lt=>
  obtain⟨i,j,rfl,rfl,rfl⟩:=m t;cases q;cases r
  show OpR.go F9 I n p #[_,_,rfl,rfl,.here l .bl]
 |le=>
  obtain⟨i,j,rfl,rfl,rfl⟩:=m t;cases q;cases r
  show OpR.go Ga I n p #[_,_,rfl,rfl,.here l .bl]
 |gt=>
  obtain⟨i,j,rfl,rfl,rfl⟩:=m t;cases q;cases r
  show OpR.go Gb I n p #[_,_,rfl,rfl,.here l .bl]
 |ge=>
  obtain⟨i,j,rfl,rfl,rfl⟩:=m t;cases q;cases r
  show OpR.go Gc I n p #[_,_,rfl,rfl,.here l .bl]
 |isin=>
  rcases B t with⟨ys,C,L,rfl⟩|h
  ·show xq (neg:=false) uW I l q n r p C L
  ·obtain⟨d,o,rfl,g,rfl⟩:=xr (u:=u) l q r p h;show IS D I g n λP G=>jT G l
 |notin=>
  obtain⟨c,h,rfl⟩:=J6.mp t;rcases B h with⟨ys,C,L,rfl⟩|h
  ·show xq (neg:=true) nw I l q n r p C L
  ·obtain⟨d,o,rfl,g,rfl⟩:=xr (u:=u) l q r p h;show AB D I g n λP G=>jT G l
 |is=>
  obtain⟨rfl,rfl⟩:=E t;cases r;show OpR.go DS I n p #[rfl,?_];cases q<;>show .here l .bl
 |isnot=>
  obtain⟨rfl,rfl⟩:=E t;cases r;show OpR.go Am I n p #[rfl,?_];cases q<;>show .here l .bl
end
end Mi
namespace HT
open PySem PyProof.Rows
section
variable{prog:KQ}{w:K8}{A:KZ}{E:J5->J8->Prop}{s:J8}
def gG {t f:Kf}{items:Lm J5}{i j:J5}{lo hi:J9 Ki}{Q:J5->J8->Prop}(a:Pw s.heap t items)(g:s.heap.IsSliceOf f i j .none)(l:Oz i lo)(m:Oz j hi)
  (hw:bY ⇑items 0 lo=0/\bY ⇑items ⇑items hi=⇑items) (h:Q (.ref t) s):wpAny (model prog w) A (getItem (.ref t) (.ref f)) Q E s:=by
 obtain⟨os,e,d,k⟩:=id g;have c:s.TypeIs (.ref f) "slice":=#[os,e,d];unfold getItem
 try with_reducible show LN ?_
 first|refine J3 (Kd ?_)|skip
 show J3 (QV a.typeIs #v[] ?_)
 show J3 (Lw (name:=Mw "__getitem__") a.typeIs My
  (LP My a.typeIs Qi ?_ (Qy _ _)))
 change wpAny _ _ (NA (.ref t) >>= _) _ _ s;show J3 (Sd a ?_);show J3 (NE c ?_);rw[KC #v[]]
 show J3 (eL g l m ?_);have b:((((bY ⇑items 0 lo:Kb):Ki)==0&&(1:Ki)==1&&(bY ⇑items ⇑items hi-bY ⇑items 0 lo)==⇑items)=true):=by
  rw[hw.1,hw.2];simp
 change wpAny _ _ (if (((bY ⇑items 0 lo:Kb):Ki)==0&&(1:Ki)==1&&(bY ⇑items ⇑items hi-bY ⇑items 0 lo)==⇑items)=true then _ else _) _ _ s
 rw[KC b];unfold RY;show J3 (J3 (NE a.typeIs (Kd ?_)));rw[KC #v[]]
 show J3 (Ox (J3 (Kd (Kd #[_,rfl,Kd h]))))
end
end HT
namespace Mi
open PySem PySem.Spec PyProof.Rows L2
abbrev sU (x y:W)(S:aa):J9 (W×aa):=match x,y with
 |.tup xs,.int i=>(qU xs i).map λw=>(w,S)
 |.ref r,.int i=>match dU S r with
  |some xs=>(qU xs i).map λw=>(w,S)
  |none=>match v6 S r with
   |some U=>(dW U i).map λw=>(w,S)
   |none=>td
 |.str x,.int i=>if ↥x<=sizeLine then(qU x.cps.toList i).map λc=>(.str #[[c].toArray],S)else td
 |_,_=>td
abbrev o8 (xs:J2 W)(lo hi:J9 Ki):J2 W:=(xs.drop (HT.bY ↥xs 0 lo)).take (HT.bY ↥xs ↥xs hi-HT.bY ↥xs 0 lo)
abbrev rC (x:W)(lo hi:J9 Ki)(S:aa):J9 (W×aa):=match x with
 |.tup xs=>gV (.tup (o8 xs lo hi),S)
 |.ref r=>match dU S r with
  |some xs=>gV (.ref ↥S,S++[.lst (o8 xs lo hi)])
  |none=>td
 |_=>td
abbrev o9 (o i v:W)(S:aa):J9 aa:=match o,i with
 |.ref r,.int k=>match mf S r with
  |some xs=>match vZ ↥xs k with
   |some j=>gV (S.set r (.lst (xs.set j v)))
   |none=>td
  |none=>match v6 S r with
   |some U=>if ↥U<sizeLine then gV (S.set r (.dik (km U k v)))else td
   |none=>td
 |_,_=>td
section
variable (X:Cx)
abbrev LIx (g:W->W->aa->J9 (W×aa)):Prop:=
 ∀(d c:KO) (J:J2 (Kf×L5)) (s:J8) (Y:L2.St) (H:Hp) (A:J2 Kf) (S:aa) (x y:W) (a b:V) (u v:J5) (w:W) (S':aa),Inv X J Y H s->StoreOk X.w X.K A H S->
  Rel X.K A H x a->RelV a u->Rel X.K A H y b->RelV b v->g x y S=gV (w,S')->subscripted c false u v=operate [u,v] (getItem u v)->wpAny (model X.prog X.w) X.A (subscriptTail d c u v) (PostE X J Y A H S' w) X.xe s
abbrev LSl (g:W->J9 Ki->J9 Ki->aa->J9 (W×aa)):Prop:=
 ∀(J:J2 (Kf×L5)) (s:J8) (Y:L2.St) (H:Hp) (A:J2 Kf) (S:aa) (x:W) (a:V) (v vl vu:J5) (lo hi:J9 Ki) (sl:Kf) (w:W) (S':aa),Inv X J Y H s->StoreOk X.w X.K A H S->
  Rel X.K A H x a->RelV a v->s.heap.IsSliceOf sl vl vu .none->Oz vl lo->Oz vu hi->g x lo hi S=gV (w,S')->
  ∃T id,typeLookup (.type T) "__getitem__" = pure (gV (.builtin id))/\s.TypeIs v T/\wpAny (model X.prog X.w) X.A (getItem v (.ref sl)) (PostE X J Y A H S' w) X.xe s
abbrev LSet (g:W->W->W->aa->J9 aa):Prop:=
 ∀(J:J2 (Kf×L5)) (s:J8) (Y:L2.St) (H:Hp) (A:J2 Kf) (S:aa) (o i x:W) (ao ai ax:V) (uo ui ux:J5) (S':aa),Inv X J Y H s->StoreOk X.w X.K A H S->
  Rel X.K A H o ao->RelV ao uo->Rel X.K A H i ai->RelV ai ui->Rel X.K A H x ax->RelV ax ux->g o i x S=gV S'->
  wpAny (model X.prog X.w) X.A (setItem uo ui ux) (λ_ c=>∃a b,Inv X J Y a c/\Ext X.K A H b a/\StoreOk X.w X.K b a S') X.xe s
abbrev LCall (f:J5)(g:J2 W->aa->J9 (W×aa)):Prop:=
 ∀(J:J2 (Kf×L5)) (s:J8) (Y:L2.St) (H:Hp) (A:J2 Kf) (S:aa) (xs:J2 W) (vs:J2 V) (us:J2 J5) (w:W) (S':aa),Inv X J Y H s->StoreOk X.w X.K A H S->
  RelL X.K A H xs vs->Vals vs us->g xs S=gV (w,S')->wpAny (model X.prog X.w) X.A (call f us) (PostE X J Y A H S' w) X.xe s
abbrev kw (id:LV)(g:W->J2 W->aa->J9 (W×aa)):Prop:=
 ∀(J:J2 (Kf×L5)) (s:J8) (Y:L2.St) (H:Hp) (A:J2 Kf) (S:aa) (x:W) (a:V) (u:J5) (xs:J2 W) (vs:J2 V) (us:J2 J5) (w:W) (S':aa),Inv X J Y H s->StoreOk X.w X.K A H S->
  Rel X.K A H x a->RelV a u->RelL X.K A H xs vs->Vals vs us->g x xs S=gV (w,S')->wpAny (model X.prog X.w) X.A (call (.builtin id) (u::us)) (PostE X J Y A H S' w) X.xe s
end
section
variable{X:Cx}{J:J2 (Kf×L5)}{Y:L2.St}{H:Hp}{s:J8}{A:J2 Kf}{S:aa}
def IxR.go {r:R2}(h:IxR X r){S':aa}{w:W}{a b:V}{u v:J5}{d c:KO}(I:Inv X J Y H s)(f:RelV a u)(g:RelV b v)(q:r a b H (EndV X.w X.K A H S' w))(e:subscripted c false u v=operate [u,v] (getItem u v)) :
  wpAny (model X.prog X.w) X.A (subscriptTail d c u v) (PostE X J Y A H S' w) X.xe s:=bf (h d c J s Y H a b u v _ I f g q e) λ_ _=>EP.post
def CallR.go {f:J5}{r:J2 V->Hp->VK->Prop}(h:CallR X f r){S':aa}{w:W}{vs:J2 V}{us:J2 J5}(I:Inv X J Y H s)(a:Vals vs us)(q:r vs H (EndV X.w X.K A H S' w)) :
  wpAny (model X.prog X.w) X.A (call f us) (PostE X J Y A H S' w) X.xe s:=bf (h J s Y H vs us _ I a q) λ_ _=>EP.post
def MtR.go {id:LV}{r:V->J2 V->Hp->VK->Prop}(h:MtR X id r){S':aa}{w:W}{a:V}{u:J5}{vs:J2 V}{us:J2 J5}(I:Inv X J Y H s)(b:RelV a u)(c:Vals vs us)(q:r a vs H (EndV X.w X.K A H S' w)) :
  wpAny (model X.prog X.w) X.A (call (.builtin id) (u::us)) (PostE X J Y A H S' w) X.xe s:=bf (h J s Y H a vs u us _ I b c q) λ_ _=>EP.post
def sV {xs:J2 W}{vs:J2 V}{i:Ki}{w:W}(r:RelL X.K A H xs vs)(e:qU xs i=gV w):∃v,qU vs i=gV v/\Rel X.K A H w v:=by
 unfold qU at e ⊢;rw[↥r]at e;cases q:vZ ↥vs i with
 |none=>rw[q]at e;cases e
 |some j=>
  rw[q]at e;obtain⟨v,a,b⟩:=r.get (show xs[j]?=gV w from e)
  show#[v,a,b]
def JT (P:X.A.units+10<cLine):LIx X sU:=by
 intro D C J s Y H A S x y a b u v w S' I g N n q p e m;cases N with
 |tup h j=>cases q with
  |int=>
   (dsimp only[sU]at e;simp only[J6]at e)
   obtain⟨L,d,f⟩:=e;cases f;obtain⟨z,i,l⟩:=sV j d;show IxR.go DY I n p #[_,_,_,_,rfl,rfl,h,i,.here g l] m
  |_=>cases e
 |ref G=>cases q with
  |int=>
   dsimp only[sU]at e;split at e
   ·rename_i ws hw;rw[J6]at e;obtain⟨L,d,f⟩:=e;cases f;obtain⟨vs,h,j⟩:=bg g hw G;obtain⟨z,i,l⟩:=sV j d;show IxR.go Av I n p #[_,_,_,_,rfl,rfl,h,i,.here g l] m
   ·split at e
    ·rename_i U hk;rw[J6]at e;obtain⟨L,d,f⟩:=e;cases f;obtain⟨us,h,j⟩:=jb g hk G;obtain⟨z,i,l⟩:=(j.val _).1 _ d;obtain rfl:u=Lc _:=n;obtain⟨R,hd,vs,t,E⟩:=ke I.hok (.inl h);obtain⟨M,hw,B⟩:=RelO.some_of (v:=z) (o:=valueAt vs (Mz _)) (by rw[<- i];show t.val _)
     show Nl (x:=M) E.typeIs PySem.F.slot_dict_getitem.lookup
      (wpAny_getItem_of (Q:=λr O=>r=M/\PostE X J Y A H S w r O) (l7 (k:=Mz _) p) E.mapOf hw #[rfl,z,H,A,I.tok _,B,.refl,g,l]) m
    ·cases e
  |_=>cases e
 |str=>cases q with
  |int=>
   dsimp only[sU]at e;split at e
   ·rw[J6]at e;obtain⟨c,d,f⟩:=e;cases f;show IxR.go DZ I n p #[_,_,_,rfl,rfl,by assumption,d,.here g .str] m
   ·cases e
  |_=>cases e
 |_=>cases q<;>cases e
def nB {xs:J2 W}{vs:J2 V}{lo hi:J9 Ki}(r:RelL X.K A H xs vs):RelL X.K A H (o8 xs lo hi) (kb vs lo hi):=by
 unfold o8 kb;rw[↥r];show(r.drop _).take _
def AR:Gh X (λx lo hi H Q=>∃a xs,x=.ref a/\SqT X.K H a xs/\(kb xs lo hi=xs->Q (.ref a) H)/\∀p,H p=td->Q (.ref p) (bv H p (.tup (kb xs lo hi)))):=by
 intro J s Y H x v l m lo hi k Q I i c f g h;obtain⟨a,xs,rfl,e,j,q⟩:=h
 by_cases hw:(HT.bY ↥xs 0 lo=0/\HT.bY ↥xs ↥xs hi=↥xs)
 ·cases i;obtain⟨its,r,d,n⟩:=I.tuple e;have b:⇑its.toArray=↥xs:=by rw[Ks];show r.length.symm
  show#["tuple",_,PyProof.Rows.slot_tuple_getitem.lookup,d.typeIs,?_];show HT.gG d c f g (by rw[b];show hw) #[.ref a,H,I,rfl,j ?_]
  unfold kb;rw[hw.1,hw.2];simp
 ·show DX J s Y H (.ref a) v l m lo hi k Q I i c f g #[a,xs,rfl,e,hw,q]
def JU:LSl X rC:=by
 intro J s Y H A S x a v o r lo hi n w S' I d u m j k l e;cases u with
 |tup b c=>
  cases e;obtain⟨T,id,g,h,i⟩:=AR J s Y H _ v o r lo hi n (EndV X.w X.K A H S (.tup (o8 _ lo hi))) I m j k l #[_,_,rfl,b,λq=>.here d (.tup b (by have:=nB (lo:=lo) (hi:=hi) c;rw[q]at this;show this)),λp f=>.tup d (nB c) f]
  show#[T,id,g,h,bf i λ_ _=>EP.post]
 |ref t=>
  simp only[rC]at e;split at e
  ·rename_i ws hw;cases e;obtain⟨vs,b,c⟩:=bg d hw t;obtain⟨T,id,g,h,i⟩:=Aw J s Y H _ v o r lo hi n (EndV X.w X.K A H (S++[.lst (o8 ws lo hi)]) (.ref ↥S)) I m j k l #[_,_,rfl,b,λp f=>.lst d (nB c) f]
   show#[T,id,g,h,bf i λ_ _=>EP.post]
  ·cases e
 |_=>cases e
def lset (D:X.A.units+10<cLine):LSet X o9:=by
 intro J s Y H A S o i x C B u t y z S' I h v d q c r f e;cases v with
 |ref g=>cases q with
  |int=>
   simp only[o9]at e;split at e
   ·rename_i ws hw;split at e
    ·rename_i j p;cases e;obtain⟨vs,m,b⟩:=eD h hw g;rw[↥b]at p;obtain⟨a,ex⟩:=h.write (kj hw) g (b.set r j);show bf (wR J s Y H _ _ _ t y z (λn=>n=bv H _ (.lst (vs.set j u))) I d c f #[_,_,_,_,rfl,rfl,m,p,rfl]) λ_ w #[n,l,e']=>#[_,A,e'▸l,ex,a]
    ·cases e
   ·split at e
    ·rename_i U hk;split at e
     ·rename_i hl;cases e;obtain⟨us,m,b⟩:=jb h hk g;obtain rfl:t=Lc _:=d;obtain⟨a,ex⟩:=h.writeK hk g (b.put _ r);rw[↥b]at hl;show uZ ∅ I (DPut.k (k:=Mz _) m hl) c f λw l=>#[_,A,l,ex,a]
     ·cases e
    ·cases e
  |_=>cases e
 |_=>cases q<;>cases e
abbrev kA (xs:J2 W)(S:aa):J9 (W×aa):=match xs with
 |[.tup ys]=>gV (.int ↥ys,S)
 |[.str y]=>if ↥y<=sizeLine then gV (.int ↥y,S)else td
 |[.ref i]=>(dU S i).map λys=>(.int ↥ys,S)
 |_=>td
def u8:LCall X (.builtin "len") kA:=by
 intro J s Y H A S xs vs us w S' I a h d e;cases h with
 |nil=>cases e
 |cons r t=>
  cases t with
  |cons _ _=>cases r<;>cases e
  |nil=>
   cases r with
   |tup b c=>cases e;rw[↥c];show CallR.go j8 I d #[_,_,rfl,.inr #[_,b,rfl],.here a .int]
   |str=>
    dsimp only[kA]at e;split at e
    ·cases e;show CallR.go j8 I d #[_,_,rfl,#[by assumption,rfl],.here a .int]
    ·cases e
   |ref g=>
    (dsimp only[kA]at e;simp only[J6]at e)
    obtain⟨ws,hw,f⟩:=e;cases f;obtain⟨i,b,c⟩:=bg a hw g;rw[↥c];show CallR.go j8 I d #[_,_,rfl,.inl #[_,b,rfl],.here a .int]
   |_=>cases e
abbrev fm (xs:J2 W)(S:aa):J9 (W×aa):=match xs with
 |[x]=>match cp S x with
  |some ys=>gV (.ref ↥S,S++[.lst ys])
  |none=>td
 |_=>td
def gY:LCall X (.type "list") fm:=by
 intro J s Y H A S xs vs us w S' I b g h e;cases g with
 |nil=>cases e
 |cons r t=>
  cases t with
  |cons _ _=>cases e
  |nil=>
   simp only[fm]at e;split at e
   ·rename_i ys d;cases e;obtain⟨p,a,rfl,c,f⟩:=sT (J:=J) (Y:=Y) (s:=s) b r d;show CallR.go ny I h #[p,a,rfl,c,λl hl=>.lst b f hl]
   ·cases e
abbrev kB (xs:J2 W)(S:aa):J9 (W×aa):=match xs with
 |[.tup ys]=>gV (.tup ys,S)
 |[.ref i]=>match dU S i with
  |some ys=>gV (.tup ys,S)
  |none=>td
 |_=>td
def jC:LCall X (.type "tuple") kB:=by
 intro J s Y H A S xs vs us w S' I c h d e;cases h with
 |nil=>cases e
 |cons r t=>
  cases t with
  |cons _ _=>cases r<;>cases e
  |nil=>
   cases r with
   |tup a b=>cases e;show CallR.go gM I d #[_,_,rfl,.inr #[a,.here c (.tup a b)]]
   |ref f=>
    dsimp only[kB]at e;split at e
    ·rename_i ys g;cases e;obtain⟨i,a,b⟩:=bg c g f;show CallR.go gM I d #[_,_,rfl,.inl #[a,λl hl=>.tup c b hl]]
    ·cases e
   |_=>cases e
abbrev Gs (xs:J2 W)(S:aa):J9 (W×aa):=match xs with
 |[.int i]=>gV (.int i,S)
 |[.bl b]=>gV (.int (if b then 1 else 0),S)
 |_=>td
def u9:LCall X (.type "int") Gs:=by
 intro J s Y H A S xs vs us w S' I b c a e;cases c with
 |nil=>cases e
 |cons r t=>
  cases t with
  |cons _ _=>cases r<;>cases e
  |nil=>
   cases r with
   |int=>cases e;show CallR.go lU I a (.inl #[_,rfl,.here b .int])
   |bl=>cases e;show CallR.go lU I a (.inr #[_,rfl,.here b .int])
   |_=>cases e
abbrev iD (x:W)(xs:J2 W)(S:aa):J9 (W×aa):=match x,xs with
 |.ref i,[y]=>match mf S i with
  |some ys=>if ↥ys<sizeLine then gV (.non,S.set i (.lst (ys++[y])))else td
  |none=>td
 |_,_=>td
def jc {i:Kb}{p:Kf}{ws c:J2 W}{us:J2 V}(f:StoreOk X.w X.K A H S)(e:mf S i=gV c)(d:A[i]?=gV p)(r:RelL X.K A H ws us){w:W}{v:V}(a:Rel X.K A H w v) :
  EndV X.w X.K A H (S.set i (.lst ws)) w v (bv H p (.lst us)):=by
 obtain⟨b,ex⟩:=f.write (kj e) d r;show#[A,ex,b,a.mono ex]
def nC:kw X "list.append" iD:=by
 intro J s Y H A S x a u xs vs us w S' I f k i h j e;cases k with
 |ref b=>
  cases h with
  |nil=>cases e
  |cons r t=>
   cases t with
   |cons _ _=>cases e
   |nil=>
    simp only[iD]at e;split at e
    ·rename_i ys c;split at e
     ·rename_i hl;cases e;obtain⟨l,g,d⟩:=eD f c b;rw[↥d]at hl;show MtR.go uX I i j #[_,_,_,rfl,rfl,g,hl,jc f c b (d.append #v[r]) .non]
     ·cases e
    ·cases e
 |_=>cases e
abbrev jU (x:W)(xs:J2 W)(S:aa):J9 (W×aa):=match x,xs with
 |.ref i,[.ref j]=>match mf S i,mf S j with
  |some ys,gV zs=>if ↥ys+↥zs<=sizeLine then gV (.non,S.set i (.lst (ys++zs)))else td
  |_,_=>td
 |_,_=>td
def nD:kw X "list.extend" jU:=by
 intro J s Y H A S x a u xs vs us w S' I b o m l n e;cases o with
 |ref c=>
  cases l with
  |nil=>cases e
  |cons r t=>
   cases t with
   |cons _ _=>cases r<;>cases e
   |nil=>
    cases r with
    |ref h=>
     dsimp only[jU]at e;split at e
     ·rename_i ys zs d k;split at e
      ·rename_i hl;cases e;obtain⟨p,i,f⟩:=eD b d c;obtain⟨q,j,g⟩:=eD b k h;rw[↥f,↥g]at hl;show MtR.go uY I m n #[_,_,_,_,rfl,rfl,i,j,hl,jc b d c (f.append g) .non]
      ·cases e
     ·cases e
    |_=>cases e
 |_=>cases e
abbrev AS (x:W)(xs:J2 W)(S:aa):J9 (W×aa):=match x,xs with
 |.ref i,[.int k]=>match mf S i with
  |some ys=>if -(2^63)<=k/\k<2^63 then match seqIndex? k ↥ys with
   |some j=>match ys[j]? with
    |some y=>gV (y,S.set i (.lst (ys.eraseIdx j)))
    |none=>td
   |none=>td
   else td
  |none=>td
 |_,_=>td
def vc:kw X "list.pop" AS:=by
 intro J s Y H A S x a u xs vs us w S' I h p n m o e;cases p with
 |ref d=>
  cases m with
  |nil=>cases e
  |cons r t=>
   cases t with
   |cons _ _=>cases r<;>cases e
   |nil=>
    cases r with
    |int=>
     dsimp only[AS]at e;split at e
     ·rename_i ys g;split at e
      ·rename_i hk;split at e
       ·rename_i j f;split at e
        ·rename_i y b;cases e;obtain⟨q,i,c⟩:=eD h g d;obtain⟨v,k,l⟩:=c.get b;rw[↥c]at f;show MtR.go wX I n o #[_,_,_,_,_,rfl,rfl,i,hk.1,hk.2,f,k,jc h g d (c.eraseIdx j) l]
        ·cases e
       ·cases e
      ·cases e
     ·cases e
    |_=>cases e
 |_=>cases e
abbrev dJ (S:aa):W->J9 KR
 |.non=>gV false
 |.bl b=>gV b
 |.int i=>gV (i != 0)
 |.str y=>if ↥y<=sizeLine then gV ((↥y:Ki) != 0)else td
 |.tup xs=>gV (!xs.isEmpty)
 |.ref i=>(dU S i).map λxs=>!xs.isEmpty
def jD {ws:J2 W}{vs:J2 V}(r:RelL X.K A H ws vs):(!ws.isEmpty) = !vs.isEmpty:=by cases r<;>rfl
def IU {x:W}{a:V}{u:J5}{k:KR}{Q:KR->J8->Prop}(I:Inv X J Y H s)(n:StoreOk X.w X.K A H S)(m:Rel X.K A H x a)(l:RelV a u)(e:dJ S x=gV k)(j:∀c,Inv X J Y H c->Q k c) :
  wpAny (model X.prog X.w) X.A (truthy u) Q X.xe s:=by
 show bf (DT J s Y H a u (λb h=>b=k/\h=H) I l #[k,?_,rfl,rfl]) λb c #[h,I',e1,d]=>?_
 ·cases m with
  |non=>cases e;rfl
  |bl=>cases e;rfl
  |int=>cases e;rfl
  |str=>
   simp only[dJ]at e;split at e
   ·cases e;show#[by assumption,rfl]
   ·cases e
  |tup f g=>cases e;show .inr (.inl #[_,f,jD g])
  |ref i=>
   simp only[dJ,J6]at e;obtain⟨ws,hw,d⟩:=e;subst d;obtain⟨vs,f,g⟩:=bg n hw i;show .inl #[_,f,jD g]
 ·subst e1 d;show j c I'
end
abbrev dm (w:K8):L5:={cls:=.type "set",dict:=td,data:=.set #[] 0 (.fresh 0 0 (!Go w))}
section
variable{prog:KQ}{w:K8}{A:KZ}{E:J5->J8->Prop}{s:J8}{R:Qx->J8->Prop}{I:Kf}{fp wr:J2 Kf}{G:Lm P0->Lm P0->Prop}{n:Kb}{P:Kb->J5->Prop}{St:Kb->J8->Prop}
def xt (a:J5){Q₁:J5->J8->Prop}(h:Q₁ (.ref ⇑s.heap.objs) {s with heap:=s.heap.push (dm w)}):codeAny (model prog w) A (.call (.builtin "set.__new__") #[[.type "set",a],[]]) (wants Q₁ E) s:=by
 show PC ?_;change wpAny _ A.in1 (checkBuiltinCall "set.__new__" #[[.type "set",a],[]] >>= λ_=>again (.builtin "set.__new__" #[[.type "set",a],[]])) _ _ s
 show J3 (OW (F.newCall_set_1 a) (Kd #[MC F.plain_set_new _,LQ F.entry_set_new ?_]));rw[LI F.plain_set_new _];unfold M4.«set.__new__» RZ;have b:=PySem.sub_set_self;obtain⟨c,g,d,tk,os⟩:=s;dsimp only
 wp_walk
 show wpAny_askSetting (Kd ?_);dsimp only;revert newObj;show J3 (Ta (Kd (Kd h)))
end
section
variable{α:Type}{prog:KQ}{w:K8}{A:KZ}{E:J5->J8->Prop}{s:J8}
def pb:∀{l:J2 α}{i:Kb} (h:i<↥l),(l[i]::l.eraseIdx i).Perm l
 |x::l,0,_=>.refl _
 |x::l,i+1,h=>(TV _ _ _).trans ((pb (l:=l) (i:=i) (by simpa using h)).cons x)
end
abbrev pc (S:aa)(i:Kb):J9 (Ki×Ki):=match S[i]? with
 |some (.rng lo hi)=>gV (lo,hi)
 |_=>td
abbrev kC (xs:J2 W)(S:aa):J9 (W×aa):=match xs with
 |[.int j]=>if -(2^62)<=j/\j<2^62 then gV (.ref ↥S,S++[.rng 0 j])else td
 |_=>td
abbrev AT (lo:Ki)(n:Kb):J2 W:=(Kj n).map λ(k:Kb)=>.int (lo+(k:Ki))
abbrev fI (xs:J2 W)(S:aa):J9 (W×aa):=match xs with
 |[.ref i]=>match pc S i with
  |some (lo,hi)=>if -(2^62)<=lo/\lo<2^62/\-(2^62)<=hi/\hi<2^62/\(hi-lo).toNat<=sizeLine then gV (.ref ↥S,S++[.lst (AT lo (hi-lo).toNat)])else td
  |none=>fm [.ref i] S
 |xs=>fm xs S
section
variable{X:Cx}{J:J2 (Kf×L5)}{Y:L2.St}{H:Hp}{s:J8}{A:J2 Kf}{S:aa}
def Inv.drawn (I:Inv X J Y H s)(d:TQ):Inv X J Y H {s with drawn:=d}:=#[I.ok,I.os,I.bare,I.base,I.loc,I.cell,I.free,I.freeC,I.pin,I.hok,I.len]
def c7 {h':Lh}{tk:Kb}{dr:TQ}{D:Kf}{n:O}{u:HO}(I:Inv X J Y H s)(e:StoreOk X.w X.K A H S)(hk:∀b o,s.heap.get? b=gV o->h'.get? b=gV o)(d:⇑s.heap.objs<=D)(new:ObjOk X.prog X.w (bv H D u) h' D u)
  (r:H D=td->ObjRel X.w X.K (A++[D]) (bv H D u) D n):PostE X J Y A H (S++[n]) (.ref ↥S) (.ref D) {s with heap:=h',toks:=tk,drawn:=dr}:=by
 have c:H D=td:=I.hok.fresh d;show#[.ref D,_,A++[D],Mi.Inv.drawn (I.laid (a:=D) (o:=u) (t':=tk) hk d new) dr,rfl,bO c,e.pushO c (r c),.ref ?_];rw[<- e.len];simp
def nE:∀{vs:J2 V}{us:J2 J5},↥vs=↥us->(∀(i:Kb) v u,vs[i]?=gV v->us[i]?=gV u->L2.RelV v u)->Vals vs us
 |[],[],_,_=>.nil
 |v::vs,u::us,hl,h=>.cons (h 0 v u rfl rfl) (nE (by simpa using hl) λi v u a b=>h (i+1) v u (by simpa using a) (by simpa using b))
 |[],_::_,hl,_=>by cases hl
 |_::_,[],hl,_=>by cases hl
def nF {K:Km}{lo:Ki}:∀(l:J2 Kb),RelL K A H (l.map λ(k:Kb)=>W.int (lo+(k:Ki))) (l.map λ(k:Kb)=>V.int (lo+(k:Ki)))
 |[]=>.nil
 |_::l=>.cons .int (nF l)
def eW {xs:J2 W}{vs:J2 V}{us:J2 J5}{i:Kb}(d:RelL X.K A H [.ref i] vs)(b:Vals vs us):∃a,A[i]?=gV a/\us=[.ref a]:=by
 cases d with
 |cons r t=>
  cases t;cases r with
  |@ref _ a c=>
   cases b with
   |cons e b=>
    cases b;obtain rfl:_=Lc a:=e;show#[a,c,rfl]
def pd:LCall X (.type "range") kC:=by
 intro J s Y H A S xs vs us w S' I f c a e;unfold kC at e;split at e
 ·rename_i j;split at e
  ·rename_i g;cases e;cases c with
   |cons r t=>
    cases t;cases r;cases a with
    |cons d a=>
     cases a;obtain⟨tk,rfl⟩:=d;show SF (c7 (dr:=s.drawn) (u:=.rng 0 j) I f (λb o e=>J7 _ e) (Kl _) #[_,_,_,Kr _ rfl] λ_=>aE)
  ·cases e
 ·cases e
def pe (B:X.A.handled=td):LCall X (.type "list") fI:=by
 intro J s Y H A S xs vs us w S' I g h j e;unfold fI at e;split at e
 ·rename_i i;split at e
  ·rename_i lo hi f;split at e
   ·rename_i z;cases e;obtain⟨a,r,rfl⟩:=eW (xs:=[]) h j;obtain⟨n,b2,o,p,l⟩:=z;have y:H a=gV (.rng lo hi):=by
     unfold pc at f;split at f
     ·rename_i E;cases f;show g.obj i _ a E r
     ·cases f
    obtain⟨t,u,v,C⟩:=I.hok a _ y;have m:Ms lo hi 1=((hi-lo).toNat:Kb):=by rw[Qn];split<;>omega
    show call_list_range B C (SA n b2 o p) m l λh' tk acc c hk x b=>?_
    have D:Vals ((Kj (hi-lo).toNat).map λ(k:Kb)=>V.int (lo+(k:Ki))) acc.toList:=by
     show nE (by rw[J4,KL,K9,b.1]) λi v u d q=>?_
     rw[Kg,J6]at d;obtain⟨k,d,rfl⟩:=d;obtain⟨hk,rfl⟩:=Ko.mp d;obtain⟨t,rfl⟩:=b.2 i u (by rw[<- LL];show q)
     show#[t,by simp]
    show c7 (dr:=s.drawn) (u:=.lst ((Kj (hi-lo).toNat).map λ(k:Kb)=>V.int (lo+(k:Ki)))) I g hk (Kl _) #[by simpa using l,acc.toList,c,D,by simpa using x] λm=>#[_,aE,?_]
    show nF _
   ·cases e
  ·show gY J s Y H A S _ vs us w S' I g h j e
 ·show gY J s Y H A S _ vs us w S' I g h j e
end
mutual
inductive IsT (h:Lh):T->J5->Prop
 |int {i:Ki}{t:Tn}:IsT h (.int i) (.int i t)
 |str {x:KG}{t:Tn}:IsT h (.str x) (.str x t)
 |tup {ks:J2 T}{a:Kf}{o:L5}{items:Lm J5}{n:Kb}:h.get? a=gV o->o.cls=.type "tuple"->o.data=.seq items n->IsTs h ks items.toList->IsT h (.tup ks) (.ref a)
inductive IsTs (h:Lh):J2 T->J2 J5->Prop
 |nil:IsTs h [] []
 |cons {k:T}{v:J5}{ks:J2 T}{vs:J2 J5}:IsT h k v->IsTs h ks vs->IsTs h (k::ks) (v::vs)
end
mutual
theorem IsT.inj {h:Lh}:∀{x y:T}{v:J5},IsT h x v->IsT h y v->x=y
 |_,_,_,.int,h2=>by cases h2;rfl
 |_,_,_,.str,h2=>by cases h2;rfl
 |_,_,_,.tup a1 _ d1 t1,h2=>by
  cases h2 with
  |tup a2 _ d2 t2=>
   rw[a1]at a2;cases a2
   rw[d1]at d2;cases d2
   rw[IsTs.inj t1 t2]
theorem IsTs.inj {h:Lh}:∀{x y:J2 T}{v:J2 J5},IsTs h x v->IsTs h y v->x=y
 |_,_,_,.nil,h2=>by cases h2;rfl
 |_,_,_,.cons a b,h2=>by
  cases h2 with
  |cons c d=>rw[IsT.inj a c,IsTs.inj b d]
end
mutual
theorem IsT.keeps {h h':Lh}{d:Kf}{o:L5}{es:Lm MH}{ep:Kb}(ho:h.get? d=gV o)(hd:o.data=.dict es ep)(hs:M2 d h h'):∀{x:T}{v:J5},IsT h x v->IsT h' x v
 |_,_,.int=>.int
 |_,_,.str=>.str
 |_,_,.tup (a:=a) a1 c1 d1 t1=>by
  have hne:a≠d:=by
   rintro rfl;rw[a1]at ho;cases ho
   rw[d1]at hd;cases hd
  show .tup ((hs.2 a hne).trans a1) c1 d1 (IsTs.keeps ho hd hs t1)
theorem IsTs.keeps {h h':Lh}{d:Kf}{o:L5}{es:Lm MH}{ep:Kb}(ho:h.get? d=gV o)(hd:o.data=.dict es ep)(hs:M2 d h h'):∀{x:J2 T}{v:J2 J5},IsTs h x v->IsTs h' x v
 |_,_,.nil=>.nil
 |_,_,.cons a b=>.cons (IsT.keeps ho hd hs a) (IsTs.keeps ho hd hs b)
end
def IsTs.length {h:Lh}:∀{x:J2 T}{v:J2 J5},IsTs h x v->↥x=↥v
 |_,_,.nil=>rfl
 |_,_,.cons _ b=>by simp[IsTs.length b]
def IsTs.get {h:Lh}:∀{x:J2 T}{v:J2 J5},IsTs h x v->∀(j:Kb) (c:j<↥x) (d:j<↥v),IsT h x[j] v[j]
 |_,_,.cons a _,0,_,_=>a
 |_,_,.cons _ b,j+1,c,d=>IsTs.get b j (by simpa using c) (by simpa using d)
def dL:∀{ks:J2 T} (j:Kb) (h:j<↥ks),(ks[j]).depth<=T.depths ks
 |k::ks,0,_=>by revert T.depths List.getElem_cons_zero;omega
 |k::ks,j+1,h=>by
  have:=dL (ks:=ks) j (by simpa using h)
  revert T.depths List.getElem_cons_succ;omega
section
variable{prog:KQ}{w:K8}{E:J5->J8->Prop}
mutual
theorem pf:∀(k:T) (v:J5) (A:KZ) (s:J8) (Q:Ki->J8->Prop),IsT s.heap k v->A.units+k.depth<cLine->Q (o5 w k) {s with toks:=s.toks+k.draws}->wpAny (model prog w) A (pyHash v) Q E s
 |.int i,_,A,s,Q,x,_,h=>by cases x;show Rg h
 |.str y,_,A,s,Q,x,_,h=>by cases x;show Rh h
 |.tup ks,_,A,s,Q,x,hu,h=>by
  cases x with
  |@tup _ a o items n hg hc hd hw=>
   simp only[T.depth]at hu;show PySem.W.pyHash_slot (T:="tuple") #[_,hg,hc] F.slot_tuple_hash F.entry_tuple_hash (F.args_tuple_hash_1 _) (beq_builtin_none _) (.inr ∅) ?_
   change wpAny _ _ (NA (.ref a) >>= _) _ _ s;show J3 (wpAny_tupleItemsOf hg hd ?_);show J3 ?_;rw[<- QD];show kD ks items.toList A.in1 s #[] _ hw (by rw[aX];omega) λb hb=>?_
   change wpAny _ _ (retInt (ON b.toList)) _ _ _;rw[hb];show J3 (Ry (Kd #[_,_,rfl,?_]))
   simpa [T.draws,Sl,o5]using h
theorem kD:∀(ks:J2 T) (vs:J2 J5) (A:KZ) (s:J8) (b:Lm Ki) (Q:Lm Ki->J8->Prop),IsTs s.heap ks vs->A.units+T.depths ks<cLine->
  (∀b',b'.toList=b.toList++kh w ks->Q b' {s with toks:=s.toks+T.drawss ks})->
  wpAny (model prog w) A (forIn vs b λx r=>do let h <- pyHash x;pure QE;pure (Mq (r.push h))) Q E s
 |[],_,A,s,b,Q,x,_,h=>by cases x;show Kd (h b (by simp[kh]))
 |k::ks,_,A,s,b,Q,x,hu,h=>by
  cases x with
  |cons x1 x2=>
   simp only[T.depths]at hu;rw[NU];show J3 (J3 (pf k _ A s _ x1 ∅ ?_))
   show J3 (Kd (Kd ?_));show kD ks _ A _ _ Q x2 ∅ λb' hb=>?_
   have:=h b' (by simp[hb,kh])
   simpa [T.drawss,Sl]using this
end
open SeqAt in
def vd:∀(d:Kb) (x y:T) (u v:J5) (B:KZ) (s:J8),x.depth<=d->IsT s.heap x u->IsT s.heap y v->B.units+d<cLine->B.units+y.depth<cLine->EqAt B s u v (decide (x=y))
 |d,.int i,y,_,_,B,s,_,k,l,M,p=>by
  cases k;cases l with
  |int=>
   rename_i j r;have:decide (T.int i=T.int j)=(i==j):=by by_cases e:i=j<;>simp[e]
   rw[this];show .int_int _ _ _ _
  |str=>rw[K4 (by simp)];show .int_str _ _ _ _
  |tup a c E t=>rw[K4 (by simp)];show .int_tuple _ _ #[_,a,c,_,E] (by simp only[T.depth]at p;omega)
 |d,.str z,y,_,_,B,s,_,k,l,M,p=>by
  cases k;cases l with
  |int=>rw[K4 (by simp)];show .str_int _ _ _ _
  |str=>
   rename_i N r;have:decide (T.str z=T.str N)=(z==N):=by by_cases e:z=N<;>simp[e]
   rw[this];show .str_str _ _ _ _
  |tup a c E t=>rw[K4 (by simp)];show .str_tuple _ _ #[_,a,c,_,E] (by simp only[T.depth]at p;omega)
 |0,.tup ks,y,_,_,B,s,hd,k,l,M,p=>by simp[T.depth]at hd
 |d+1,.tup ks,y,_,_,B,s,hd,k,l,M,p=>by
  have G:=k;cases k with
  |@tup _ a o items n S U V R=>
   have H:s.heap.IsTuple a items:=#[_,S,U,_,V];simp only[T.depth]at hd;cases l with
   |int=>rw[K4 (by simp)];show .tuple_int _ _ H ∅
   |str=>rw[K4 (by simp)];show .tuple_str _ _ H ∅
   |@tup g b o2 f n2 O P Q r=>
    have I:s.heap.IsTuple b f:=#[_,O,P,_,Q]
    by_cases q:a=b
    ·subst q;have:T.tup ks=T.tup g:=G.inj (.tup O P Q r);rw[Ld this];show EqAt.same _
    ·show EqAt.of_refs q ?_;simp only[T.depth]at p;have C:⇑items=↥ks:=by rw[<- K9,↥R]
     have D:⇑f=↥g:=by rw[<- K9,↥r]
     let e:Kb->KR:=λj=>if h:j<↥ks/\j<↥g then decide (ks[j]'h.1=g[j]'h.2)else true
     have Y:∀j (k:j<⇑items) (l:j<⇑f),EqAt B.in1 s items[j] f[j] (e j):=λj w A=>by
      have W:=R.get j (C▸w) (by simpa using w)
      have X:=r.get j (D▸A) (by simpa using A)
      have q1:=dL (ks:=ks) j (C▸w);have q2:=dL (ks:=g) j (D▸A);have:=vd d _ _ _ _ B.in1 s ∅ W X (by rw[aX];omega) (by rw[aX];omega)
      change EqAt B.in1 s items[j] f[j] (if h:j<↥ks/\j<↥g then decide (ks[j]'h.1=g[j]'h.2)else true)
      rw[Tz #[C▸w,D▸A]]
      simpa using this
     have:=RcAt.tuples H I ∅ Y
     have hk:((Kj (min ⇑items ⇑f)).all e&&⇑items==⇑f)=decide (T.tup ks=T.tup g):=by
      rw[C,D]
      by_cases hl:↥ks=↥g
      ·by_cases L:ks=g
       ·subst L;revert Pk Lk Qp decide_true KD Ky;intro j m;show(if h:j<↥ks/\j<↥ks then decide (ks[j]'h.1=ks[j]'h.2)else true)=true
        rw[Tz #[m,m]];simp
       ·rw[K4 (by simpa using L)]
        have:∃j,∃h:j<↥ks,ks[j]≠g[j]'(hl▸h):=by
         apply NJ;intro Z;show L (Mu hl λj k l=>NJ λz=>Z #[j,k,z])
        obtain⟨j,m,J⟩:=this;rw[PP];apply Or.inl;rw[Q7];show#[j,by rw[Ky,<- hl,Pk];show m,?_]
        show ¬ (if h:j<↥ks/\j<↥g then decide (ks[j]'h.1=g[j]'h.2)else true)=true
        rw[Tz #[m,hl▸m]]
        simpa using J
      ·rw[K4 (by simp;intro z;show hl (by rw[z])),PP]
       right
       simpa using hl
     rw[hk]at this;show this
def mh {n:Kb}{v:J5}(h:∀a,v≠.ref a):eqIsQuiet n v=pure true:=by
 cases v with
 |ref a=>show absurd rfl (h a)
 |_=>first|rfl|simp[eqIsQuiet]|(unfold eqIsQuiet;rfl)
def sW:∀(d:Kb) (k:T) (v:J5) (A:KZ) (s:J8) (Q:KR->J8->Prop),k.depth<=d->IsT s.heap k v->Q true s->wpAny (model prog w) A (eqIsQuiet d v) Q E s
 |d,.int i,_,A,s,Q,_,x,h=>by cases x;rw[mh (λa=>by simp)];show Kd h
 |d,.str i,_,A,s,Q,_,x,h=>by cases x;rw[mh (λa=>by simp)];show Kd h
 |0,.tup ks,_,A,s,Q,hd,x,h=>by simp[T.depth]at hd
 |d+1,.tup ks,_,A,s,Q,hd,x,h=>by
  cases x with
  |@tup _ a o items n m hc e hi=>
   simp only[T.depth]at hd;have l:s.TypeIs (.ref a) "tuple":=#[_,m,hc];unfold eqIsQuiet;show J3 (wpAny_specialOf l F.slot_tuple_eq.lookup ?_);change wpAny _ _ (isInstance (.ref a) (.type "tuple") >>= _) _ _ s;show J3 (Og l isSubtype_tuple_tuple ?_);revert Qq LK ML;show J3 (L8 m e ?_);show J3 ?_;change wpAny _ _ (forIn items _ _) _ _ s;rw[<- QD];show O8 _ (λbW r j=>r.1=td/\j=s/\∃g,IsTs s.heap g bW/\T.depths g<=d) _ ?_ ?_ _ _ #[rfl,rfl,ks,hi,∅]
   ·rintro v bW r j ⟨f,rfl,g,b,c⟩;cases b with
    |cons p q=>
     simp only[T.depths]at c;show J3 (sW d _ v _ _ _ ∅ p ?_)
     revert Qq LK ML;show Kd #[rfl,rfl,_,q,∅]
   ·rintro⟨t,u⟩ j ⟨f,rfl,_⟩;simp only at f;subst f;show Kd h
end
abbrev cr (prog:KQ)(w:K8):HeapKind prog w T where
 is:=λh k a=>IsT h k (.ref a)/\k.depth<=ba
 hash:=o5 w
 draws:=T.draws
 room:=λA=>A.units+ba<cLine
 inj:=λb c=>b.1.inj c.1
 keeps:=λx e hd f=>#[x.1.keeps e hd f,x.2]
 pyHash:=λd hk h=>pf _ _ _ _ _ hk.1 (by have:=hk.2;omega) h
 eqBool:=λd b c h=>vd ba _ _ _ _ _ _ b.2 b.1 c.1 d (by have:=c.2;omega) _ _ _ _ h
 quiet:=λhk h=>sW 8 _ _ _ _ _ (by have:=hk.2;unfold ba at this;omega) hk.1 h
mutual
def kE:T->KR
 |.int _=>true
 |.str _=>false
 |.tup xs=>d0 xs
def d0:J2 T->KR
 |[]=>true
 |x::xs=>kE x&&d0 xs
end
abbrev gO (S:aa)(i:Kb):J9 (J2 (T×W)):=match S[i]? with
 |some (.dic U)=>gV U
 |some (.frd U)=>gV U
 |_=>td
abbrev jd (S:aa)(i:Kb):J9 (J2 (T×W)):=match S[i]? with
 |some (.dic U)=>gV U
 |_=>td
abbrev bC (U:J2 (T×W))(k:T):J9 W:=(U.find? λp=>decide (p.1=k)).map (·.2)
abbrev dM (U:J2 (T×W))(k:T)(v:W):J2 (T×W):=
 if (U.any λp=>decide (p.1=k))=true then U.map (λp=>if p.1=k then(p.1,v)else p)else U++[(k,v)]
abbrev gH (w:W):J9 T:=match W.t w with
 |some k=>if k.isTup=true/\k.depth<=ba then gV k else td
 |none=>td
def dD {w:W}{k:T}(h:gH w=gV k):k.w=w/\k.isTup=true/\k.depth<=ba:=by
 unfold gH at h;split at h
 ·rename_i a hk;split at h
  ·rename_i hc;cases h;show#[W.t_w hk,hc.1,hc.2]
  ·cases h
 ·cases h
def d3 (U:J2 (T×W))(k:T)(v:W):(dM U k v).length<=↥U+1:=by
 unfold dM;split
 ·rw[J4];omega
 ·rw[Kh,K5,Mb];omega
section
variable{X:Cx}{J:J2 (Kf×L5)}{Y:L2.St}{H:Hp}{s:J8}{A:J2 Kf}{S:aa}
mutual
theorem nG (I:Inv X J Y H s):∀(k:T) {v:V}{u:J5},Rel X.K A H k.w v->RelV v u->IsT s.heap k u
 |.int i,_,_,r,q=>by
  cases r;obtain⟨t,rfl⟩:∃t,_=Oq _ t:=q;show .int
 |.str x,_,_,r,q=>by
  cases r;obtain⟨t,rfl⟩:∃t,_=Os _ t:=q;show .str
 |.tup ks,_,_,r,q=>by
  simp only[T.w]at r;cases r with
  |tup sq rl=>
   obtain⟨its,rv,⟨o,h1,h2,n,h3⟩,hz⟩:=I.tuple sq;obtain rfl:_=Lc _:=q;show .tup h1 h2 h3 (gf I ks rl (by simpa using rv))
theorem gf (I:Inv X J Y H s):∀(ks:J2 T) {vs:J2 V}{us:J2 J5},RelL X.K A H (T.ws ks) vs->Vals vs us->IsTs s.heap ks us
 |[],_,_,r,q=>by
  simp only[T.ws]at r;cases r;cases q;show .nil
 |k::ks,_,_,r,q=>by
  simp only[T.ws]at r;cases r with
  |cons r1 r2=>
   cases q with
   |cons q1 q2=>show .cons (nG I k r1 q1) (gf I ks r2 q2)
end
def je (I:Inv X J Y H s){k:T}{b:Kf}(r:Rel X.K A H k.w (.ref b))(hd:k.depth<=ba):(cr X.prog X.w).is s.heap k b:=#[nG I k r rfl,hd]
def iE {w:W}{k:T}{v:V}{u:J5}(hk:gH w=gV k)(r:Rel X.K A H w v)(q:RelV v u):∃b,v=.ref b/\u=.ref b/\Rel X.K A H k.w (.ref b):=by
 obtain⟨c,d,e⟩:=dD hk;subst c;cases k with
 |tup ks=>
  simp only[T.w]at r;cases r with
  |tup a b=>show#[_,rfl,q,by revert T.w;show .tup a b]
 |_=>cases d
def KRel.is {U:J2 (T×W)}{xs:J2 (T×Kf×J5)}(I:Inv X J Y H s)(r:KRel X.K A H U xs):∀x∈xs,(cr X.prog X.w).is s.heap x.1 x.2.1:=by
 unfold KRel at r
 induction r with
 |nil=>intro x a;show nomatch a
 |@cons p q ps g h t ih=>
  intro x a;rcases KH.mp a with e|a
  ·subst e;obtain⟨d,f,b,c,_⟩:=h;rw[d]at b c;show je I c b
  ·show ih x a
def KRel.length {U:J2 (T×W)}{xs:J2 (T×Kf×J5)}(r:KRel X.K A H U xs):↥U=↥xs:=Nr r
def KRel.val {U:J2 (T×W)}{xs:J2 (T×Kf×J5)}(r:KRel X.K A H U xs)(k:T) :
  (∀w,bC U k=gV w->∃p v,atKey xs k=gV p/\Rel X.K A H w v/\RelV v p.2)/\(bC U k=td->atKey xs k=td):=by
 unfold KRel at r
 induction r with
 |nil=>show#[λw h=>(nomatch h),λ_=>rfl]
 |@cons p q ps d h t ih=>
  obtain⟨f,_,_,_,v,g,i⟩:=h
  by_cases e:p.1=k
  ·have c:q.1=k:=f.symm.trans e;have a:bC (p::ps) k=gV p.2:=by simp[bC,LA,e]
   have b:atKey (q::d) k=gV q.2:=by simp[atKey,LA,c]
   rw[a,b];show#[λw hw=>(by cases hw;show#[_,v,rfl,g,i]),λh=>nomatch h]
  ·have c:¬ q.1=k:=λz=>e (f.trans z)
   have a:bC (p::ps) k=bC ps k:=by simp[bC,LA,e]
   have b:atKey (q::d) k=atKey d k:=by simp[atKey,LA,c]
   rw[a,b];show ih
def KRel.repl {U:J2 (T×W)}{xs:J2 (T×Kf×J5)}(r:KRel X.K A H U xs)(k:T){w:W}{v:V}{u:J5}(b:Rel X.K A H w v)(i:RelV v u) :
  KRel X.K A H (U.map λp=>if p.1=k then(p.1,w)else p) (xs.map (putAt k u)):=by
 unfold KRel at r ⊢
 induction r with
 |nil=>show .nil
 |@cons p q ps j h t ih=>
  rw[Lb,Lb];show .cons ?_ ih;obtain⟨a,c,d,f,g⟩:=h;unfold putAt
  by_cases e:p.1=k
  ·rw[KC e,KC (a.symm.trans e)];show#[a,c,d,f,v,b,i]
  ·rw[KS e,KS (λz=>e (a.trans z))];show#[a,c,d,f,g]
def kF (k:T):∀U:J2 (T×W),(U.any λp=>decide (p.1=k))=(bC U k).isSome
 |[]=>rfl
 |p::r=>by
  rw[Ma]
  by_cases e:p.1=k
  ·have a:bC (p::r) k=gV p.2:=by simp[bC,LA,e]
   rw[a,Ld e];rfl
  ·have a:bC (p::r) k=bC r k:=by simp[bC,LA,e]
   rw[a,K4 e,Oi];show kF k r
def KRel.put {U:J2 (T×W)}{xs:J2 (T×Kf×J5)}(r:KRel X.K A H U xs){k:T}{b:Kf}{w:W}{v:V}{u:J5}(d:k.isTup=true)(f:k.depth<=ba)(g:Rel X.K A H k.w (.ref b))(a:Rel X.K A H w v)(c:RelV v u) :
  KRel X.K A H (dM U k w) (storedH xs k b u):=by
 have e:(U.any λp=>decide (p.1=k))=(atKey xs k).isSome:=by
  rw[kF];cases q:bC U k with
  |none=>rw[(r.val k).2 q];rfl
  |some x=>obtain⟨p,_,h,_⟩:=(r.val k).1 x q;rw[h];rfl
 unfold dM storedH;rw[e]
 by_cases q:(atKey xs k).isSome=true
 ·rw[KC q,KC q];show r.repl k a c
 ·rw[KS q,KS q];show P2 r #[rfl,d,f,g,v,a,c]
def DicAt.of {h:Lh}{a:Kf}{xs:J2 (T×Kf×J5)}(c:↥xs<=sizeLine)(b:(a==sysModules)=false)(d:h.DictOfH (cr X.prog X.w) a xs):DicAt X.w a xs h:=
 let ⟨o,es,ep,h1,h2,h3,h4,_,h6⟩:=d;#[c,b,h6,o,es,ep,h1,h2,h3,h4]
def DicAt.stay {wd:K8}{h h':Lh}{a:Kf}{xs:J2 (T×Kf×J5)}(d:DicAt wd a xs h)(k:∀o,h.get? a=gV o->h'.get? a=gV o):DicAt wd a xs h':=
 let ⟨h0,hs,hn,o,es,ep,h1,h2⟩:=d;#[h0,hs,hn,o,es,ep,k _ h1,h2]
def DicAt.ok {P:KQ}{h:Lh}{wd:K8}{a:Kf}{xs:J2 (T×Kf×J5)}(d:DicAt wd a xs h):ObjOk P wd H h a (dI wd a xs):=
 #[d,let ⟨_,_,_,o,_,_,h1,_⟩:=d;#[o,h1],λ_ _ p k=>p.stay k]
def b8 {a:Kf}{xs:J2 (T×Kf×J5)}(I:Inv X J Y H s)(e:Rd H a (dI X.w a xs)):DicAt X.w a xs s.heap:=(show ObjOk X.prog X.w H s.heap a (dI X.w a xs)from e.ok I.hok).1
def DicAt.dict {U:J2 (T×W)}{a:Kf}{xs:J2 (T×Kf×J5)}(d:DicAt X.w a xs s.heap)(I:Inv X J Y H s)(r:KRel X.K A H U xs):s.heap.DictOfH (cr X.prog X.w) a xs:=
 let ⟨_,_,hn,o,es,ep,h1,h2,h3,h4⟩:=d;#[o,es,ep,h1,h2,h3,h4,r.is I,hn]
def fJ {i:Kb}{U:J2 (T×W)}{a:Kf}(c:StoreOk X.w X.K A H S)(e:gO S i=gV U)(b:A[i]?=gV a):∃xs,Rd H a (dI X.w a xs)/\KRel X.K A H U xs:=by
 unfold gO at e;split at e
 ·rename_i k h;cases e;obtain⟨xs,q,r⟩:=c.obj i _ a h b;show#[xs,.inl q,r]
 ·rename_i k h;cases e;obtain⟨o,xs,q,r⟩:=c.obj i _ a h b;show#[xs,.inr #[o,q],r]
 ·cases e
def iF {i:Kb}{U:J2 (T×W)}(e:jd S i=gV U):S[i]?=gV (.dic U):=by
 unfold jd at e;split at e
 ·rename_i h;cases e;show h
 ·cases e
def sX {i:Kb}{U:J2 (T×W)}{a:Kf}(c:StoreOk X.w X.K A H S)(e:jd S i=gV U)(b:A[i]?=gV a):∃xs,H a=gV (dI X.w a xs)/\KRel X.K A H U xs:=
 c.obj i _ a (iF e) b
def pg {B:KZ}(a:B.units+10<cLine):(cr X.prog X.w).room B.in1:=by
 change B.in1.units+ba<cLine;rw[aX];unfold ba;omega
abbrev ph (x y:W)(S:aa):J9 (W×aa):=match x,y with
 |.ref r,.tup ks=>match gO S r,gH (.tup ks)with
  |some U,gV k=>(bC U k).map λw=>(w,S)
  |_,_=>td
 |x,y=>sU x y S
def IV (n:X.A.units+10<cLine):LIx X ph:=by
 intro f c J s Y H A S x y a b u v w S' I j z q B t e m
 by_cases h:∃r ks,x=.ref r/\y=.tup ks
 ·obtain⟨r,ks,rfl,rfl⟩:=h;simp only[ph]at e;split at e
  ·rename_i U k i g;rw[J6]at e;obtain⟨T,C,D⟩:=e;cases D;cases z with
   |ref E=>
    obtain⟨xs,N,o⟩:=fJ j i E;have d:=b8 I N;have l:=d.dict I o;obtain⟨bk,rfl,rfl,O⟩:=iE g B t;obtain⟨p,R,G,L,M⟩:=(o.val k).1 _ C;obtain rfl:u=Lc _:=q;show Nl (x:=p.2) l.typeIs slot_dict_getitem.lookup
     (wpAny_getItem_heap (Q:=λr P=>r=p.2/\PostE X J Y A H S w r P) (pg n) (je I O (dD g).2.2) l G #[rfl,R,H,A,I.tok _,M,.refl,j,L]) m
  ·cases e
 ·have:ph x y S=sU x y S:=by
   cases x<;>cases y<;>first|rfl|show absurd #[_,_,rfl,rfl] h
  rw[this]at e;show JT n f c J s Y H A S x y a b u v w S' I j z q B t e m
abbrev gZ (o i v:W)(S:aa):J9 aa:=match o,i with
 |.ref r,.tup ks=>match jd S r,gH (.tup ks)with
  |some U,gV k=>if ↥U<sizeLine then gV (S.set r (.dic (dM U k v)))else td
  |_,_=>td
 |o,i=>o9 o i v S
def Gu (B:X.A.units+10<cLine):LSet X gZ:=by
 intro J s Y H A S o i x O N P M Z m S' I w G j D h L l e
 by_cases f:∃r ks,o=.ref r/\i=.tup ks
 ·obtain⟨r,ks,rfl,rfl⟩:=f;simp only[gZ]at e;split at e
  ·rename_i U k b c;split at e
   ·rename_i hl;cases e;cases G with
    |ref z=>
     obtain⟨xs,p,v⟩:=sX w b z;have d:=b8 I (.inl p);have Q:=d.dict I v;obtain⟨bk,rfl,rfl,E⟩:=iE c D h;obtain⟨q1,W,C⟩:=dD c;obtain rfl:M=Lc _:=j;have V:↥xs<=sizeLine:=by rw[<- ↥v];omega
     show QA (hsz:=V) (pg B) (je I E C) Q λh' a T=>?_
     have g:=v.put W C E L l;have t:(storedH xs k bk m).length<=sizeLine:=by
      rw[<- ↥g];have:=d3 U k x;omega
     have R:DicAt X.w _ (storedH xs k bk m) h':=.of t d.2.1 a;obtain⟨y,ex⟩:=w.writeO (iF b) rfl z (u:=dI X.w _ (storedH xs k bk m)) (n:=.dic (dM U k x)) #[_,aE,g.mono (b7 (.ext p))];show#[_,A,iB I (by rw[p];show M8) T (let ⟨q,_,_,hq,_⟩:=a;#[q,hq]) R.ok,ex,y]
   ·cases e
  ·cases e
 ·have:gZ o i x S=o9 o i x S:=by
   cases o<;>cases i<;>first|rfl|show absurd #[_,_,rfl,rfl] f
  rw[this]at e;show lset B J s Y H A S o i x O N P M Z m S' I w G j D h L l e
abbrev sY (x:W)(xs:J2 W)(S:aa):J9 (W×aa):=match x,xs with
 |.ref r,[y,z]=>match gO S r,gH y with
  |some U,gV k=>gV ((bC U k).getD z,S)
  |_,_=>td
 |_,_=>td
def rD (r:X.A.units+10<cLine):kw X "dict.get" sY:=by
 intro J s Y H A S x a u xs vs us w S' I i E C B D e;cases E with
 |ref l=>
  cases B with
  |nil=>cases e
  |cons t G=>
   cases G with
   |nil=>cases e
   |cons v L=>
    cases L with
    |cons _ _=>cases e
    |nil=>
     dsimp only[sY]at e;split at e
     ·rename_i U k c b;cases e;obtain⟨xs,y,f⟩:=fJ i c l;have d:=b8 I y;have j:=d.dict I f;cases D with
      |cons M g=>
       cases g with
       |cons N h=>
        cases h;obtain⟨bk,rfl,rfl,z⟩:=iE b t M;obtain rfl:u=Lc _:=C;show SJ PQ j.typeIs PySem.F.entry_dict_get (PySem.F.args_dict_get_3 _ _ _) (meetsH_dict_get_default (cr X.prog X.w) _ bk d.2.1 _) #[pg r,k,xs,je I z (dD b).2.2,j,?_];cases q:bC U k with
        |none=>
         rw[(f.val k).2 q];show#[_,H,A,I.tok _,N,.refl,i,v]
        |some P=>
         obtain⟨p,O,m,n,o⟩:=(f.val k).1 _ q;rw[m];show#[O,H,A,I.tok _,o,.refl,i,n]
     ·cases e
 |_=>cases e
abbrev HX (x:W)(i:Kb)(S:aa):J9 KR:=match W.t x,dU S i with
 |some k,gV ys=>match W.ts ys with
  |some ks=>if k.depth<=ba/\T.depths ks<=ba then gV (decide (k∈ks))else td
  |none=>td
 |_,_=>td
abbrev D6 (x:W)(ys:J2 W):J9 KR:=match W.t x,W.ts ys with
 |some k,gV ks=>if k.depth<=ba/\T.depths ks<=ba then gV (decide (k∈ks))else td
 |_,_=>td
def nH {h:Lh}:∀{ks:J2 T}{vs:J2 J5},IsTs h ks vs->∀v∈vs,∃k∈ks,IsT h k v
 |_,_,.cons a b,v,c=>by
  rcases KH.mp c with rfl|c
  ·show#[_,.head _,a]
  ·obtain⟨k,hk,q⟩:=nH b v c;show#[k,.tail _ hk,q]
abbrev z6 (h:Lh)(k:T)(v:J5):KR:=@decide (IsT h k v) (SD _)
def rE {h:Lh}{k a:T}{v:J5}(x:IsT h a v):z6 h k v=decide (a=k):=by
 unfold z6
 by_cases e:a=k
 ·subst e;simp[x]
 ·have:¬ IsT h k v:=λy=>e (x.inj y)
  simp[e,this]
def nI {h:Lh}{k:T}:∀{ks:J2 T}{vs:J2 J5},IsTs h ks vs->vs.any (z6 h k)=decide (k∈ks)
 |_,_,.nil=>by simp
 |_,_,.cons (k:=c) a b=>by
  rw[Ma,rE a,nI b]
  by_cases e:c=k
  ·simp[e]
  ·have:¬ k=c:=λz=>e z.symm
   simp[e,this]
def kG:∀{ks:J2 T}{k:T},k∈ks->k.depth<=T.depths ks
 |x::ks,k,h=>by
  revert T.depths;rcases KH.mp h with rfl|h
  ·omega
  ·have:=kG h;omega
def xu {x:W}{i:Kb}{a b:V}{u v:J5}{c:KR}(L:X.A.units+10<cLine)(I:Inv X J Y H s)(E:StoreOk X.w X.K A H S)(C:Rel X.K A H x a)(z:RelV a u)(D:Rel X.K A H (.ref i) b)(B:RelV b v)(e:HX x i S=gV c) :
  ∃l its k ks,v=.ref l/\s.heap.IsList l its/\(∀y,y∈its->Of X.A.in1 s y u (z6 s.heap k y))/\its.any (z6 s.heap k)=c/\c=decide (k∈(ks:J2 T)):=by
 unfold HX at e;split at e
 ·rename_i k ys n o;split at e
  ·rename_i ks r;split at e
   ·rename_i G;cases e;cases D with
    |ref h=>
     obtain⟨vs,j,m⟩:=bg E o h;obtain⟨its,f,p,_⟩:=I.list j;obtain rfl:v=Lc _:=B;have g:IsTs s.heap ks its:=gf I ks ((W.ts_w r).symm▸m) f;have hk:IsT s.heap k u:=nG I k ((W.t_w n).symm▸C) z;show#[_,its.toArray,k,ks,rfl,p.isList,λy t=>?_,by rw[Rp];show nI g,rfl]
     obtain⟨w,d,q⟩:=nH g y (by simpa using t)
     rw[rE q];have:=kG d;have M:ba=6:=rfl;show vd ba w k _ _ _ _ ∅ q hk (by rw[aX];omega) (by rw[aX];omega)
   ·cases e
  ·cases e
 ·cases e
def AU {x:W}{ys:J2 W}{a b:V}{u v:J5}{c:KR}(C:X.A.units+10<cLine)(I:Inv X J Y H s)(w:Rel X.K A H x a)(r:RelV a u)(z:Rel X.K A H (.tup ys) b)(t:RelV b v)(e:D6 x ys=gV c) :
  ∃l its k,v=.ref l/\s.heap.IsTuple l its/\(∀y,y∈its->Of X.A.in1 s y u (z6 s.heap k y))/\its.any (z6 s.heap k)=c:=by
 unfold D6 at e;split at e
 ·rename_i k ks j m;split at e
  ·rename_i B;cases e;cases z with
   |@tup _ l vs h i=>
    obtain⟨its,f,p,_⟩:=I.tuple h;obtain rfl:v=Lc _:=t;have g:IsTs s.heap ks its:=gf I ks ((W.ts_w m).symm▸i) f;have hk:IsT s.heap k u:=nG I k ((W.t_w j).symm▸w) r;show#[_,its.toArray,k,rfl,p,λy n=>?_,by rw[Rp];show nI g]
    obtain⟨o,d,q⟩:=nH g y (by simpa using n)
    rw[rE q];have:=kG d;have D:ba=6:=rfl;show vd ba o k _ _ _ _ ∅ q hk (by rw[aX];omega) (by rw[aX];omega)
  ·cases e
 ·cases e
abbrev bh (o:COp)(x y:W)(S:aa):J9 (W×aa):=match o,y with
 |.isin,.ref i=>match gO S i with
  |some U=>(gH x).map λk=>(.bl (bC U k).isSome,S)
  |none=>match x with
   |.tup xs=>(HX (.tup xs) i S).map λb=>(.bl (b),S)
   |x=>cD .isin x (.ref i) S
 |.notin,.ref i=>match gO S i with
  |some U=>(gH x).map λk=>(.bl (!(bC U k).isSome),S)
  |none=>match x with
   |.tup xs=>(HX (.tup xs) i S).map λb=>(.bl (!b),S)
   |x=>cD .notin x (.ref i) S
 |.isin,.tup ys=>match x with
  |.tup xs=>(D6 (.tup xs) ys).map λb=>(.bl b,S)
  |x=>cD .isin x (.tup ys) S
 |o,y=>cD o x y S
def po (R:X.A.units+fG<cLine)(o:COp):LOp X (compareOp o.py) (bh o):=by
 intro J s Y H A S x y a b u v w S' I n C z D B e;have get:∀{i:Kb}{U:J2 (T×W)}{k:T},y=.ref i->gO S i=gV U->gH x=gV k->∃d c xs,v=.ref d/\u=.ref c/\(d==sysModules)=false/\(cr X.prog X.w).is s.heap k c/\s.heap.DictOfH (cr X.prog X.w) d xs/\(bC U k).isSome=(atKey xs k).isSome:=by
  intro i U k V g f;subst V;cases D with
  |ref P=>
   obtain⟨xs,Z,G⟩:=fJ n g P;have d:=b8 I Z;obtain⟨bk,rfl,rfl,rk⟩:=iE f C z;obtain rfl:v=Lc _:=B;show#[_,bk,xs,rfl,rfl,d.2.1,je I rk (dD f).2.2,d.dict I G,?_];cases q:bC U k with
   |none=>rw[(G.val k).2 q];rfl
   |some w'=>obtain⟨p,_,Q,_⟩:=(G.val k).1 _ q;rw[Q];rfl
 have m:cD o x y S=gV (w,S')->wpAny (model X.prog X.w) X.A (compareOp o.py u v) (PostE X J Y A H S' w) X.xe s:=λh=>iC R o J s Y H A S x y a b u v w S' I n C z D B h
 have j:X.A.units+10<cLine:=by have:fG=20:=rfl;omega
 unfold bh at e;split at e
 ·split at e
  ·rename_i U g;rw[J6]at e;obtain⟨k,f,E⟩:=e;cases E;obtain⟨d,c,xs,rfl,rfl,L,M,N,O⟩:=get rfl g f;rw[O];show Sh (pg j) M L N #[.bl _,H,A,I.tok _,rfl,.refl,n,.bl]
  ·split at e
   ·rw[J6]at e;obtain⟨c,hc,e⟩:=e;cases e;obtain⟨l,its,k,ks,rfl,r,p2,t,_⟩:=xu j I n C z D B hc;show RC (z6 s.heap k) r p2 ?_;rw[t];show#[.bl _,H,A,I,rfl,.refl,n,.bl]
   ·show m e
 ·split at e
  ·rename_i U g;rw[J6]at e;obtain⟨k,f,E⟩:=e;cases E;obtain⟨d,c,xs,rfl,rfl,L,M,N,O⟩:=get rfl g f;rw[O];show Ro (pg j) M L N #[.bl _,H,A,I.tok _,rfl,.refl,n,.bl]
  ·split at e
   ·rw[J6]at e;obtain⟨c,hc,e⟩:=e;cases e;obtain⟨l,its,k,ks,rfl,r,p2,t,_⟩:=xu j I n C z D B hc;show Qz (z6 s.heap k) r p2 ?_;rw[t];show#[.bl _,H,A,I,rfl,.refl,n,.bl]
   ·show m e
 ·split at e
  ·rw[J6]at e;obtain⟨c,hc,e⟩:=e;cases e;obtain⟨l,its,k,rfl,r,p2,t⟩:=AU j I C z D B hc;show Rm (z6 s.heap k) r p2 ?_;rw[t];show#[.bl _,H,A,I,rfl,.refl,n,.bl]
  ·show m e
 ·show m e
end
abbrev RawD (d:Kf)(es:Lm MH)(ep:Kb)(h:Lh):Prop:=∃o,h.get? d=gV o/\o.ExactDict/\o.data=.dict es ep
def RawD.at {d:Kf}{es:Lm MH}{ep:Kb}{h h':Lh}(x:RawD d es ep h)(e:∀o,h.get? d=gV o->h'.get? d=gV o):RawD d es ep h':=let ⟨o,ho,r⟩:=x;#[o,e _ ho,r]
def RawD.lt {d:Kf}{es:Lm MH}{ep:Kb}{h:Lh}(x:RawD d es ep h):d<⇑h.objs:=let ⟨_,ho,_⟩:=x;Kx ho
def RawD.type {d:Kf}{es:Lm MH}{ep:Kb}{s:J8}(x:RawD d es ep s.heap):s.TypeIs (.ref d) "dict":=let ⟨o,ho,hc,_⟩:=x;#[o,ho,hc.1]
section
variable{prog:KQ}{w:K8}{A:KZ}{E:J5->J8->Prop}{s:J8}{it d:Kf}{i ep:Kb}{es:Lm MH}
def pr {Q:J5->J8->Prop}(hd:(d==sysModules)=false)(c:RawD d es ep s.heap)
  (f:Q (.ref ⇑s.heap.objs) {s with heap:=s.heap.push {cls:=.type "dict_keyiterator",data:=.fields [.ref d,.int 0 0,.int ⇑es 0,.int ep 0].toArray}}):wpAny (model prog w) A (pyIter (.ref d)) Q E s:=by
 have b:=c.type;obtain⟨o,e,hc,a⟩:=id c;show wpAny_pyIter_slot b F.slot_dict_iter (LP F.slot_dict_iter b F.entry_dict_iter ?_ (F.args_dict_iter_1 _));unfold M4.«dict.__iter__» R8;show J3 (J3 (PR b ?_));change wpAny _ _ (pure (Lc d)) _ _ s;show Kd ?_;change wpAny _ _ (PU d >>= _) _ _ s;unfold PU;rw[KS (by rw[hd];show KJ)]
 show J3 (Kd (J3 (N6 e a (J3 (PD e a ?_)))));show J3 (Ly (Kd #[_,rfl,"dict_keyiterator",_,#[_,Kr _ rfl,rfl],F.slot_dict_keyiterator_next.lookup,?_]))
 simpa [rawInt]using f
def pA {Q:J9 J5->J8->Prop}(a:s.heap.IsKeyIter it d i ⇑es ep)(k:RawD d es ep s.heap)(hi:i<⇑es)
  (h:∀h',h'.IsKeyIter it d (i+1) ⇑es ep->M2 it s.heap h'->Q (gV es[i].key) {s with heap:=h'}):wpAny (model prog w) A (pyNext (.ref it)) Q E s:=by
 obtain⟨o,g,hc,hd⟩:=id a;obtain⟨od,e,j,c⟩:=id k;unfold pyNext;show J3 (NR (Lw (name:=Mw "__next__") a.typeIs F.slot_dict_keyiterator_next
  (LP F.slot_dict_keyiterator_next a.typeIs F.entry_dict_keyiterator_next ?_ (F.args_dict_keyiterator_next_1 _))))
 show J3 (Kd (J3 (J3 ?_)))
 first|refine J3 (ME a.typeIs (Kd ?_))|refine J3 (M9 a.typeIs (Kd ?_))
 show J3 (R0 g hd ?_);have f:Ol "dict_keyiterator" = false:=by decide
 revert f LK ML;change wpAny _ _ (if (Lc d==LB)=true then _ else _) _ _ s
 rw[KS (show ¬ ((Lc d==LB)=true)from KJ)]
 show J3 (Kd (J3 (N6 e c ?_)));rw[KS (by simp)]
 show J3 (Kd (J3 (PD e c ?_)));rw[KS (by simp)]
 show Kd ?_;simp only[show ¬ ((i:Ki)<0)from by omega,ML,Kz,NK hi]
 show J3 ?_
 first|refine J3 (ME a.typeIs (Kd ?_))|refine J3 (M9 a.typeIs (Kd ?_))
 show J3 (PV a.typeIs ?_);change wpAny _ _ (setField (.ref it) 1 (rawInt ((i:Ki)+1)) >>= _) _ _ s;show J3 (OC g hd (by simp) ?_)
 have b:(s.heap.update it (Sn (·.setIfInBounds 1 (rawInt ((i:Ki)+1))))).IsKeyIter it d (i+1) ⇑es ep:=
  #[_,MX _ g (PX (NW hd _)),(Q8 ..).trans hc,by rw[NW hd];simp[rawInt]]
 show J3 (LN ?_);show J3 (PV (s:={s with heap:=s.heap.update it (Sn (·.setIfInBounds 1 (rawInt ((i:Ki)+1))))}) b.typeIs ?_)
 change wpAny _ _ (pure es[i].key) _ _ _;show Kd (Kd #[_,rfl,Kd (h _ b (NN ..))])
def sZ {Q:J9 J5->J8->Prop}(n:A.handled=td)(c:s.heap.IsKeyIter it d i ⇑es ep)(p:RawD d es ep s.heap)(h:⇑es<=i)
  (k:∀h',P3 it s.heap h'->Q td {s with heap:=h'}):wpAny (model prog w) A (pyNext (.ref it)) Q E s:=by
 obtain⟨o,j,hc,hd⟩:=id c;obtain⟨od,f,l,e⟩:=id p;unfold pyNext;show J3 (NR (Lw (name:=Mw "__next__") c.typeIs F.slot_dict_keyiterator_next
  (LP F.slot_dict_keyiterator_next c.typeIs F.entry_dict_keyiterator_next ?_ (F.args_dict_keyiterator_next_1 _))))
 show J3 (Kd (J3 (J3 ?_)))
 first|refine J3 (ME c.typeIs (Kd ?_))|refine J3 (M9 c.typeIs (Kd ?_))
 show J3 (R0 j hd ?_);have g:Ol "dict_keyiterator" = false:=by decide
 revert g LK ML;change wpAny _ _ (if (Lc d==LB)=true then _ else _) _ _ s
 rw[KS (show ¬ ((Lc d==LB)=true)from KJ)]
 show J3 (Kd (J3 (N6 f e ?_)));rw[KS (by simp)]
 show J3 (Kd (J3 (PD f e ?_)));rw[KS (by simp)]
 show Kd ?_;simp only[show ¬ ((i:Ki)<0)from by omega,ML,Kz,Array.getElem?_eq_none h]
 show J3 ?_
 first|refine J3 (ME c.typeIs (Kd ?_))|refine J3 (M9 c.typeIs (Kd ?_))
 change wpAny _ _ (setField (.ref it) 0 .none >>= _) _ _ s;show J3 (OC j hd (by simp) ?_)
 change wpAny _ _ (newExc (.type "StopIteration") [] >>= _) _ _ _;show J3 ?_;revert newExc newTuple;show J3 (Ly ?_ (by size_fits))
 show J3 (m:=firstArgMember _ _) (OW (a:=LB) (by first|rfl|(revert firstArgMember;rfl)) ?_)
 show Ly ?_ (by size_fits)
 revert raiseNew;show J3 (So ?_);rw[show A.in1.handled=td from n]
 show J3 (Kd (Tb ?_));show J3 (Og (T:="StopIteration") (b:=true) #[_,Kr _ rfl,rfl] P4 ?_);show Kd (k _ (((NN ..).extBut.push _).push _))
def ve (l:A.handled=td)(I d:Kf)(k:d≠I)(es:Lm MH)(ep:Kb) :
  TW prog w A I [I,d] [I] ⇑es (λi v=>∃e,es[i]?=gV e/\e.key=v) (λi h=>h.IsKeyIter I d i ⇑es ep/\RawD d es ep h) where
 sub:=λb a=>by simp at a;simp[a]
 frame:=λ_ _ _ st hk=>#[st.1.at λo e=>hk I (by simp) o e,st.2.at λo e=>hk d (by simp) o e]
 item:=λi s Q E hi st c=>
  pA st.1 st.2 hi λh' f g=>c _ h' s.toks #[es[i],by simp[hi],rfl] #[f,st.2.at λo e=>(g.2 d k).trans e] λb o a e=>g.extBut b o (λh=>a (by simp[h])) e
 done:=λs Q E st c=>sZ l st.1 st.2 (Kl _) λh' j=>c h' s.toks λb o a e=>j b o (λh=>a (by simp[h])) e
 self:=λ_ _ _ _ st c=>P5 st.1 c
def tf (lo:(d==sysModules)=false):P6 prog w "dict" d d ⇑es (λi v=>∃e,es[i]?=gV e/\e.key=v) (RawD d es ep) where
 type:=λ_ a=>a.type
 there:=λ_ a=>#[a.lt,a.lt]
 keep:=λ_ _ a hk=>a.at λo e=>hk d (.inl rfl) o e
 notList:=by decide
 notTuple:=by decide
 hint:=λ_ _ _ _ a b=>PySem.W.kdl_hint_dict a.type b
 iter:=λ_ _ c a=>#[_,_,(λ_ _ b=>pr lo a b),ve c _ d (KF a.lt) es ep,#[#[_,Kr _ rfl,rfl,rfl],a.at λo e=>J7 _ e]]
def xv {T:LV}{r d S:Kf}{n:Kb}{P:Kb->J5->Prop}{g:Lh->Prop}{R:Qx->J8->Prop}(K:P6 prog w T r d n P g)(k:A.handled=td)(f:g s.heap)(l:n<=sizeLine)(e:S≠r)(c:S≠d)
  (j:s.heap.get? S=gV {cls:=.type "list",data:=.seq #[] 0})
  (i:∀h' tk a h,(∀b o,b≠S->s.heap.get? b=gV o->h'.get? b=gV o)->h'.get? S=gV {cls:=.type "list",dict:=td,data:=.seq a h,slots:=#[]}->Pn P a n->R (.ok (.ret (.ref S))) {s with heap:=h',toks:=tk}) :
  codeAny (model prog w) A (.builtin "list.__iadd__" #[[.ref S,.ref r],[]]) R s:=by
 show LQ F.entry_list_iadd ?_;rw[LI F.plain_list_iadd _];change wpAny _ A.in1 (MO (.ref S) (.ref r) (.ref S)) _ _ _;show PySem.W.kdl_extend K k f S e c _ 0 j i l
def pB {T:LV}{r d:Kf}{n:Kb}{P:Kb->J5->Prop}{i:Lh->Prop}{Q:J2 J5->J8->Prop}(K:P6 prog w T r d n P i)(k:A.handled=td)(h:i s.heap)(m:n<=sizeLine)
  (j:∀h' tk acc,(∀b o,s.heap.get? b=gV o->h'.get? b=gV o)->⇑s.heap.objs<=⇑h'.objs->Pn P acc n->Q acc.toList {s with heap:=h',toks:=tk}):wpAny (model prog w) A (collect (.ref r)) Q E s:=by
 unfold collect;show J3 (OD (LQ F.entry_proto_collect ?_));rw[LI F.plain_proto_collect _];change wpAny _ A.in1 (newList [] >>= λl=>again (.builtin "list.__iadd__" #[[l,.ref r],[]])) _ _ s
 show J3 (Ly ?_);have g:=K.there _ h;show Kd #[MC F.plain_list_iadd _,xv (s:={s with heap:=s.heap.push {cls:=.type "list",data:=.seq ([]:J2 J5).toArray}}) K k (K.keep _ _ h λb _ o e=>J7 _ e) m (LU g.1) (LU g.2) (Kr _ rfl) λh' tk a p hk c f=>?_]
 change wpAny (model prog w) A (do
   let o <- load ⇑s.heap.objs
   match o.data with
   |.seq xs _=>pure xs.toList
   |_=>unsupported "internal:collect") Q E {s with heap:=h',toks:=tk}
 show J3 (Qw c ?_);show Kd (j h' tk a (λb o e=>hk b o (KF (Kx e)) (J7 _ e)) (ND (Kx c)) f)
end
mutual
def fK:T->T->J9 KR
 |.int a,.int b=>gV (decide (a<b))
 |.str a,.str b=>gV (decide (a.cps.toList<b.cps.toList))
 |.tup xs,.tup ys=>cF xs ys
 |_,_=>td
def cF:J2 T->J2 T->J9 KR
 |[],[]=>gV false
 |[],_::_=>gV true
 |_::_,[]=>gV false
 |x::xs,y::ys=>if x=y then cF xs ys else fK x y
end
mutual
theorem IsT.kept {h h':Lh}(hk:∀b o,o.cls=.type "tuple"->h.get? b=gV o->h'.get? b=gV o):∀{x:T}{v:J5},IsT h x v->IsT h' x v
 |_,_,.int=>.int
 |_,_,.str=>.str
 |_,_,.tup a1 c1 d1 t1=>.tup (hk _ _ c1 a1) c1 d1 (IsTs.kept hk t1)
theorem IsTs.kept {h h':Lh}(hk:∀b o,o.cls=.type "tuple"->h.get? b=gV o->h'.get? b=gV o):∀{x:J2 T}{v:J2 J5},IsTs h x v->IsTs h' x v
 |_,_,.nil=>.nil
 |_,_,.cons a b=>.cons (IsT.kept hk a) (IsTs.kept hk b)
end
def Gv {B:KZ}{s:J8}{d:Kb}(g:B.units+d<cLine)(hl:∀(x y:T) (u v:J5) (k:KR),x.depth<=d->y.depth<=d->IsT s.heap x u->IsT s.heap y v->fK x y=gV k->LtAt B s u v k) :
  ∀(xs ys:J2 T) (us vs:J2 J5) (k:KR),T.depths xs<=d->T.depths ys<=d->IsTs s.heap xs us->IsTs s.heap ys vs->cF xs ys=gV k->LexR B s us vs k
 |[],[],_,_,k,_,_,b,c,e=>by cases b;cases c;cases e;show .nn
 |[],y::ys,_,_,k,_,_,b,c,e=>by cases b;cases c;cases e;show .nc
 |x::xs,[],_,_,k,_,_,b,c,e=>by cases b;cases c;cases e;show .cn
 |x::xs,y::ys,_,_,k,i,j,b,c,e=>by
  simp only[T.depths]at i j;cases b with
  |cons h l=>
   cases c with
   |cons p2 m=>
    have f:=vd d x y _ _ B s ∅ h p2 g ∅
    simp only[cF]at e
    by_cases a:x=y
    ·rw[KC a]at e;rw[Ld a]at f;show .eq f (Gv g hl xs ys _ _ k ∅ ∅ l m e)
    ·rw[KS a]at e;rw[K4 a]at f;show .ne f (hl x y _ _ k ∅ ∅ h p2 e)
def Gw:∀(d:Kb) (x y:T) (u v:J5) (B:KZ) (s:J8) (k:KR),x.depth<=d->y.depth<=d->IsT s.heap x u->IsT s.heap y v->B.units+d<cLine->fK x y=gV k->LtAt B s u v k:=by
 intro d
 induction d with
 |zero=>
  intro x y u v B s k c g f a p e;cases f with
  |int=>cases a with
   |int=>cases e;show λprog w E Q h=>(Qj h:wpAny (model prog w) B (compareOp .Lt _ _) Q E s)
   |_=>cases e
  |str=>cases a with
   |str=>cases e;show λprog w E Q h=>(lt_str h:wpAny (model prog w) B (compareOp .Lt _ _) Q E s)
   |_=>cases e
  |tup _ _ _ _=>simp[T.depth]at c
 |succ d ih=>
  intro x y u v B s k c g f a p e;cases f with
  |int=>cases a with
   |int=>cases e;show λprog w E Q h=>(Qj h:wpAny (model prog w) B (compareOp .Lt _ _) Q E s)
   |_=>cases e
  |str=>cases a with
   |str=>cases e;show λprog w E Q h=>(lt_str h:wpAny (model prog w) B (compareOp .Lt _ _) Q E s)
   |_=>cases e
  |tup i l n C=>cases a with
   |tup j m o D=>
    simp only[T.depth]at c g;have b:B.in1.units+d<cLine:=by rw[aX];omega
    show LtAt.tuples #[_,i,l,_,n] #[_,j,m,_,o] ∅ (Gv b (λx y u v k q r t z A=>ih x y u v B.in1 s k q r t z b A) _ _ _ _ k ∅ ∅ C D e)
   |_=>cases e
section
variable{prog:KQ}{w:K8}{A:KZ}{R:Qx->J8->Prop}{I S:Kf}{fp wr:J2 Kf}{n:Kb}{P:Kb->J5->Prop}{St:Kb->Lh->Prop}{Ok:Lh->Prop}{bt:Kb->Kb->KR}
abbrev xw (prog:KQ)(w:K8)(A:KZ)(P:Kb->J5->Prop)(Ok:Lh->Prop)(bt:Kb->Kb->KR):Prop:=
 ∀i j a b (s:J8) (Q:J5->J8->Prop) (E:J5->J8->Prop),Ok s.heap->P i a->P j b->Q (.bool (bt i j)) s->wpAny (model prog w) A (richCompare .Lt a b) Q E s
def xx (W:TW prog w A.in1 I fp wr n P St)(E:xw prog w A.in1 P Ok bt)(C:S∉fp)(G:∀h h',Ok h->(∀b o,b∉wr->b≠S->h.get? b=gV o->h'.get? b=gV o)->Ok h') :
  ∀(k j:Kb) (s:J8) (q:J5) (c:Kb),n-(j+1)=k->j<n->St (j+1) s.heap->P (argBest bt j) q->Ok s.heap->s.heap.get? S=gV {cls:=.type "list",dict:=td,data:=.seq [q,q].toArray c,slots:=#[]}->
  (∀v h' tk,P (argBest bt (n-1)) v->(∀b o,b∉wr->b≠S->s.heap.get? b=gV o->h'.get? b=gV o)->R (.ok (.ret v)) {s with heap:=h',toks:=tk})->
  codeAny (model prog w) A (.builtin "min.loop" #[[.ref I,.none,.ref S],[]]) R s:=by
 have D:S∉wr:=λh=>C (W.sub _ h)
 have l:(toString "min" ++ toString ".loop": LV)="min.loop":=by decide
 intro k
 induction k with
 |zero=>
  intro j s q c hk T z p O B H;have M:j+1=n:=∅
  show LQ F.entry_min_loop ?_;rw[LI F.plain_min_loop _];change wpAny _ A.in1 (seqItems? (.ref S) >>= _) _ _ s;show J3 (L8 B rfl ?_);change wpAny _ A.in1 (tryCatch (pyNext (.ref I)) _ >>= _) _ _ s;show J3 (N7 (W.done s _ _ (M▸z) λh' tk f=>?_))
  have g:=f S _ D B;change wpAny _ A.in1 (updateSeq S (λ_=>#[]) >>= _) _ _ _
  show J3 (PF g rfl (J3 (NB (Kd ?_))));have e:j=n-1:=∅
  show H q _ tk (e▸p) λb o d a e=>(LF _ _ (Ne.symm a)).trans (f b o d e)
 |succ k ih=>
  intro j s q c hk T z p O B H;have y:j+1<n:=∅
  show LQ F.entry_min_loop ?_;rw[LI F.plain_min_loop _];change wpAny _ A.in1 (seqItems? (.ref S) >>= _) _ _ s;show J3 (L8 B rfl ?_);change wpAny _ A.in1 (tryCatch (pyNext (.ref I)) _ >>= _) _ _ s;show J3 (N7 (W.item (j+1) s _ _ y z λv h' tk Q r f=>?_))
  have g:=f S _ D B;have u:Ok h':=G _ _ O λb o J _ e=>f b o J e
  change wpAny _ A.in1 (tryCatch (holding [v,v] (richCompare .Lt v q >>= _)) _ >>= _) _ _ _;show J3 (N7 (LN (J3 (E (j+1) (argBest bt j) v q _ _ _ u Q p ?_))));show J3 (LN (L3 ?_));show J3 (NB (Kd ?_));cases J:bt (j+1) (argBest bt j)with
  |true=>
   revert MW;show J3 (PF g rfl (J3 (NB ?_)));rw[l];show Kd #[MC F.plain_min_loop _,ih (j+1) _ v _ ∅ y (W.frame _ _ _ r λb L o e=>?_) (by revert argBest J MW;show Q) (G _ _ u λb o _ a e=>(LF _ _ (Ne.symm a)).trans e) (MX _ g rfl)
    λN t m x i=>?_]
   ·show(LF _ _ (λh:S=b=>C (by rw[h];show L))).trans e
   ·show H N t m x λb o d a e=>i b o d a ((LF _ _ (Ne.symm a)).trans (f b o d e))
  |false=>
   revert LK ML;show J3 (NB ?_);rw[l];show Kd #[MC F.plain_min_loop _,ih (j+1) _ q c ∅ y r (by revert argBest J LK ML;show p) u g λN t m x i=>?_]
   show H N t m x λb o d a e=>i b o d a (f b o d e)
def vf (W:TW prog w A.in1 I fp wr n P St)(l:xw prog w A.in1 P Ok bt)(d:S∉fp)(i:∀h h',Ok h->(∀b o,b∉wr->b≠S->h.get? b=gV o->h'.get? b=gV o)->Ok h')(C:0<n){s:J8}{c:Kb}(z:St 0 s.heap)(D:Ok s.heap)
  (B:s.heap.get? S=gV {cls:=.type "list",dict:=td,data:=.seq #[] c,slots:=#[]})
  (G:∀v h' tk,P (argBest bt (n-1)) v->(∀b o,b∉wr->b≠S->s.heap.get? b=gV o->h'.get? b=gV o)->R (.ok (.ret v)) {s with heap:=h',toks:=tk}) :
  codeAny (model prog w) A (.builtin "min.loop" #[[.ref I,.none,.ref S],[]]) R s:=by
 have x:S∉wr:=λh=>d (W.sub _ h)
 have g:(toString "min" ++ toString ".loop": LV)="min.loop":=by decide
 show LQ F.entry_min_loop ?_;rw[LI F.plain_min_loop _];change wpAny _ A.in1 (seqItems? (.ref S) >>= _) _ _ s;show J3 (L8 B rfl ?_);change wpAny _ A.in1 (tryCatch (pyNext (.ref I)) _ >>= _) _ _ s;show J3 (N7 (W.item 0 s _ _ C z λv h' tk E p f=>?_))
 have j:=f S _ x B;change wpAny _ A.in1 (updateSeq S (λ_=>[v,v].toArray) >>= _) _ _ _
 show J3 (PF j rfl ?_);rw[g];have t:Ok h':=i _ _ D λb o H _ e=>f b o H e
 show Kd #[MC F.plain_min_loop _,xx W l d i _ 0 _ v _ rfl C (W.frame _ _ _ p λb y o e=>?_) E (i _ _ t λb o _ a e=>(LF _ _ (Ne.symm a)).trans e) (MX _ j rfl) λJ r q u m=>?_]
 ·show(LF _ _ (λh:S=b=>d (by rw[h];show y))).trans e
 ·show G J r q u λb o k a e=>m b o k a ((LF _ _ (Ne.symm a)).trans (f b o k e))
end
section
variable{prog:KQ}{w:K8}{A:KZ}{E:J5->J8->Prop}{s:J8}
def xy {l:Kf}{items:Lm J5}{bt:Kb->Kb->KR}{Q:J5->J8->Prop}(p:A.handled=td)(hl:s.heap.IsList l items)(q:0<⇑items)
  (d:xw prog w A.in1 (λi v=>items[i]?=gV v) (λh=>∀b o,s.heap.get? b=gV o->h.get? b=gV o) bt)
  (n:∀v h' tk,items[argBest bt (⇑items-1)]?=gV v->(∀b o,s.heap.get? b=gV o->h'.get? b=gV o)->Q v {s with heap:=h',toks:=tk}) :
  wpAny (model prog w) A (call (.builtin "min") [.ref l]) Q E s:=by
 have c:(toString "min" ++ toString ".loop": LV)="min.loop":=by decide
 show call_function_tree F.kind_min F.plain_min F.entry_min (F.args_min1 _) ?_;change wpAny _ A.in1 (Op "min" ["key","default"] 0 #[[],[]] >>= _) _ _ s;show J3 (OW (show Op "min" ["key","default"] 0 #[[],[]]=pure [td,td]from rfl) ?_)
 show J3 (Kd ?_);show J3 (M5 hl ?_);show J3 (Ly ?_);rw[c];have f:l<⇑s.heap.objs:=let ⟨_,g,_⟩:=hl;Kx g
 have m:l≠⇑s.heap.objs:=KF f;have W:=Tr (prog:=prog) (w:=w) (A:=A.in1) p ⇑s.heap.objs l m items;have hsz:∀o:L5,(s.heap.push o).objs.size=⇑s.heap.objs+1:=λo=>by simp[Heap.push]
 show Kd #[MC F.plain_min_loop _,vf (A:=A) (Ok:=λh=>∀b o,s.heap.get? b=gV o->h.get? b=gV o) W d (λk=>?_) (λh h' g hk b o e=>?_) q #[?_,?_] (λb o e=>J7 _ (J7 _ e)) (Kr _ rfl) λv h' tk r hk=>?_]
 ·rcases KH.mp k with e|k
  ·show absurd (show(s.heap.push _).objs.size=⇑s.heap.objs from e) (by rw[hsz];show Nat.succ_ne_self _)
  ·have e:(s.heap.push _).objs.size=l:=KA.mp k;rw[hsz]at e;show absurd f (by rw[<- e];show R1.mpr (Nk _))
 ·have a:=Kx e;show hk b o (λz=>?_) (λz=>?_) (g b o e)
  ·rw[KA.mp z]at a;show LZ _ a
  ·have j:b=(s.heap.push _).objs.size:=z;rw[hsz]at j;rw[j]at a;show absurd a (R1.mpr (Nk _))
 ·show#[_,J7 _ (Kr _ rfl),rfl,rfl]
 ·obtain⟨o,g,hc⟩:=hl;show#[o,J7 _ (J7 _ g),hc]
 ·show n v h' tk r λb o e=>hk b o (λz=>?_) (λz=>?_) (J7 _ (J7 _ e))
  ·have a:=Kx e;rw[KA.mp z]at a;show LZ _ a
  ·have a:=Kx e;have j:b=(s.heap.push _).objs.size:=z;rw[hsz]at j;rw[j]at a;show absurd a (R1.mpr (Nk _))
end
open PySem.W (KasT kas_sort kas_ask kas_cmp kas_item kas_asc kas_desc kas_tail3 kas_descPart kas_count kas_place kas_bin kas_rev)
abbrev nJ {α:Type}(lt:Kb->Kb->KR):KasT α->α
 |.ret a=>a
 |.ask i j k=>nJ lt (k (lt i j))
abbrev OkK {α:Type}(n:Kb)(P:α->Prop):KasT α->Prop
 |.ret a=>P a
 |.ask i j k=>i<n/\j<n/\∀b,OkK n P (k b)
def pE {α:Type}{n:Kb}{P:α->Prop}{lt:Kb->Kb->KR}:∀(t:KasT α),OkK n P t->P (nJ lt t)
 |.ret _,h=>h
 |.ask i j k,h=>pE (k (lt i j)) (h.2.2 _)
def nK {α:Type}{n:Kb}{P:α->Prop}{lt:Kb->Kb->KR}{t:KasT α}(h:OkK n P t):P (nJ lt t):=pE t h
def OkK.bind {α β:Type}{n:Kb}{P:α->Prop}{d:β->Prop}{f:α->KasT β}:∀{t:KasT α},OkK n P t->(∀a,P a->OkK n d (f a))->OkK n d (t.bind f)
 |.ret a,h,c=>c a h
 |.ask _ _ _,h,c=>#[h.1,h.2.1,λb=>OkK.bind (h.2.2 b) c]
def mj {α:Type}{n:Kb}{P:α->Prop}{lt:Kb->Kb->KR}{a:Kb->Kb->(KR->J8->Prop)->J8->Prop}{Q:α->J8->Prop}{s:J8}(hc:∀i j,i<n->j<n->∀C:KR->J8->Prop,C (lt i j) s->a i j C s) :
  ∀{t:KasT α},OkK n P t->Q (nJ lt t) s->t.kasWp a Q s
 |.ret _,_,h=>h
 |.ask i j k,h,b=>hc i j h.1 h.2.1 _ (mj hc (h.2.2 _) b)
abbrev Pm (n:Kb)(p:Lm Kb):Prop:=p.toList.Perm (Kj n)
def Pm.size {n:Kb}{p:Lm Kb}(h:Pm n p):⇑p=n:=by rw[<- K9,h.length_eq,KL]
def Pm.lt {n:Kb}{p:Lm Kb}(h:Pm n p)(a:0<n)(i:Kb):p.getD i 0<n:=by
 by_cases hi:i<⇑p
 ·have e:p.getD i 0=p[i]:=by simp[Ts,hi]
  rw[e];have:p[i]∈p.toList:=by simp
  show Ky.mp (h.mem_iff.mp this)
 ·have e:p.getD i 0=0:=by simp[Ts,hi]
  rw[e];show a
def Pm.rev {n:Kb}{p:Lm Kb}(h:Pm n p)(i j:Kb):Pm n (kas_rev p i j):=(OE.mp (mirror_perm p i j _)).trans h
def Pm.bub {n:Kb}{p:Lm Kb}(h:Pm n p)(i j:Kb):Pm n (bubble p i j):=(OE.mp (bubble_perm p i j)).trans h
section
variable{n:Kb}(hn:0<n)
include hn
def rF {p:Lm Kb}(h:Pm n p):∀(f m:Kb),OkK n (λ_=>RM) (kas_asc p f m)
 |0,_=>trivial
 |f+1,m=>#[h.lt hn _,h.lt hn _,λb=>by
  change OkK n _ (if b=true then _ else _)
  split
  ·trivial
  ·show rF h f (m+1)]
def jV:∀(f:Kb) (p:Lm Kb) (m q:Kb),Pm n p->OkK n (λr=>Pm n r.1) (kas_desc f p m q)
 |0,p,m,q,h=>h
 |f+1,p,m,q,h=>#[h.lt hn _,h.lt hn _,λb=>by
  change OkK n _ (if b=true then _ else _)
  split
  ·split
   ·show jV f _ _ _ (h.rev _ _)
   ·show jV f _ _ _ h
  ·show#[h.lt hn _,h.lt hn _,λc=>?_]
   change OkK n _ (if c=true then _ else _)
   split
   ·show h
   ·show jV f _ _ _ h]
def tj {p:Lm Kb}(h:Pm n p)(m k:Kb):OkK n (λr=>Pm n r.2) (kas_tail3 m k p):=by
 unfold kas_tail3;show OkK.bind (rF hn (h.rev 0 m) _ _) λa _=>h.rev 0 m
def jE {p:Lm Kb}(h:Pm n p)(m k:Kb):OkK n (λr=>Pm n r.2) (kas_descPart m k p):=by
 unfold kas_descPart;show OkK.bind (jV hn _ _ _ _ h) λr a=>?_
 split
 ·show tj hn (a.rev _ _) _ _
 ·show tj hn a _ _
def xz {p:Lm Kb}(h:Pm n p)(k:Kb):OkK n (λr=>Pm n r.2) (kas_count k p):=by
 unfold kas_count;show OkK.bind (rF hn h _ _) λm _=>?_
 split
 ·show h
 ·split
  ·show#[h.lt hn _,h.lt hn _,λc=>?_]
   change OkK n _ (if c=true then _ else _)
   split
   ·show h
   ·show jE hn (h.rev _ _) _ _
  ·show jE hn h _ _
def kH {p:Lm Kb}(h:Pm n p)(k:Kb):∀(f l r:Kb),OkK n (λ_=>RM) (kas_place p k f l r)
 |0,_,_=>trivial
 |f+1,l,r=>by
  unfold kas_place;split
  ·trivial
  ·show#[h.lt hn _,h.lt hn _,λc=>?_]
   change OkK n _ (if c=true then _ else _)
   split
   ·show kH h k f _ _
   ·show kH h k f _ _
def xA:∀(f:Kb) (p:Lm Kb) (k:Kb),Pm n p->OkK n (Pm n) (kas_bin f p k)
 |0,p,k,h=>h
 |f+1,p,k,h=>by
  unfold kas_bin;show OkK.bind (kH hn h k _ _ _) λl _=>xA f _ _ (h.bub _ _)
def jW:OkK n (Pm n) (kas_sort n):=by
 unfold kas_sort;show OkK.bind (xz hn (by unfold Pm;simp) _) λr a=>?_
 split
 ·show xA hn _ _ _ a
 ·show a
end
section
variable{prog:KQ}{w:K8}{A:KZ}{E:J5->J8->Prop}{s:J8}{vs:J2 J5}
abbrev eN (lt:Kb->Kb->KR){β:Type}(d:β)(vs:J2 β):J2 β:=if ↥vs<2 then vs else(nJ lt (kas_sort ↥vs)).toList.map λi=>vs.getD i d
def pG {lt:Kb->Kb->KR}{β:Type}{d:β}{vs:J2 β}:(eN lt d vs).length=↥vs:=by
 unfold eN;split
 ·rfl
 ·rw[J4,K9,(nK (lt:=lt) (jW (n:=↥vs) ∅)).size]
def vg {a:Kf}{n:Kb}{lt:Kb->Kb->KR}{κ:O9}{P:PySem.Fin->J8->Prop}(z:s.heap.get? a=gV (seqObj "list" vs.toArray n))(H:↥vs<64)
  (l:2<=↥vs->∀h',(∀b o,b≠a->s.heap.get? b=gV o->h'.get? b=gV o)->∀Q:O9->J8->Prop,Q κ {s with heap:=h'}->wpAny (model prog w) A (keyKind' vs.toArray) Q (λ_ _=>LM) {s with heap:=h'})
  (L:2<=↥vs->∀h',(∀b o,b≠a->s.heap.get? b=gV o->h'.get? b=gV o)->∀i j,i<↥vs->j<↥vs->∀Q:KR->J8->Prop,Q (lt i j) {s with heap:=h'}->
   wpAny (model prog w) A (keyLt' κ (vs.getD i LB) (vs.getD j LB)) Q (λ_ _=>LM) {s with heap:=h'})
  (h:∀h' c,(∀b o,b≠a->s.heap.get? b=gV o->h'.get? b=gV o)->h'.get? a=gV (seqObj "list" (eN lt LB vs).toArray c)->P (.done (.ret .none)) {s with heap:=h'}) :
  wpAny (model prog w) A (M4.«list.sort» #[[.ref a],[]]) P E s:=by
 have Y:a<⇑s.heap.objs:=Kx z;obtain⟨D,u⟩:∃D,(s.heap.update a (L7 λ_=>(#[]:Lm J5))).get? a=gV (seqObj "list" #[] D):=#[_,PH z λ_=>#[]]
 have keep:∀b o,b≠a->s.heap.get? b=gV o->(((s.heap.update a (L7 λ_=>(#[]:Lm J5))).push (seqObj "tuple" vs.toArray 0)).push (seqObj "list" #[] 0)).get? b=gV o:=λb o y e=>
  J7 _ (J7 _ ((NO _ _ _ _ y).trans e))
 have d:(((s.heap.update a (L7 λ_=>(#[]:Lm J5))).push (seqObj "tuple" vs.toArray 0)).push (seqObj "list" #[] 0)).get? a=gV (seqObj "list" #[] D):=J7 _ (J7 _ u)
 have fin:∀(out:J2 J5),↥out=↥vs->out=eN lt LB vs->P (.done (.ret .none)) {s with heap:=(((s.heap.update a (L7 λ_=>(#[]:Lm J5))).push (seqObj "tuple" vs.toArray 0)).push (seqObj "list" #[] 0)).update a (L7 λ_=>out.toArray)}:=λout hl e=>by
  obtain⟨B,J⟩:∃B,((((s.heap.update a (L7 λ_=>(#[]:Lm J5))).push (seqObj "tuple" vs.toArray 0)).push (seqObj "list" #[] 0)).update a (L7 λ_=>out.toArray)).get? a=gV (seqObj "list" out.toArray B):=#[_,PH d λ_=>out.toArray]
  show h _ B (λb o y q=>(NO _ _ _ _ y).trans (keep b o y q)) (e▸J)
 rw[list_sort_plain];show J3 (Q9 z rfl ?_);show J3 (O1 z rfl ?_ (by rw[Ks,Lu];omega) (Ml _))
 show J3 (Rz u rfl ?_);show J3 (OF ?_ (by change ↥vs<=_;rw[Lu];omega))
 show J3 (Qr ?_ (Ml _));show LN ?_;change wpAny (model prog w) A _ P E {s with heap:=((s.heap.update a (L7 λ_=>(#[]:Lm J5))).push (seqObj "tuple" vs.toArray 0)).push (seqObj "list" #[] 0)}
 dsimp only
 by_cases r:↥vs<2
 ·rw[KC (by rw[Ks];show r),KC (by rw[Ks];show r)]
  show J3 (Kd (J3 ?_));rw[StateT.run_pure];show Kd ?_;dsimp only;show J3 (Rz d rfl ?_);have W:((arrOf (SortSt.mk' general' (vs.toArray.zip vs.toArray) #[] 7 td)).map (·.2))=vs.toArray:=by
   show(vs.toArray.zip vs.toArray).map (·.2)=vs.toArray
   apply Array.toList_inj.mp;rw[Array.toList_map,Array.toList_zip];show List.map_snd_zip (Kl _)
  rw[W];show J3 (O1 d rfl ?_ (Ml _) (by rw[Ks,Lu];omega))
  revert Ra LK ML;show Kd (fin vs rfl (by unfold eN;rw[KC r]))
 ·have t:¬ ⇑vs.toArray<2:=by rw[Ks];show r
  have g:2<=↥vs:=∅
  rw[KS t,KS t];show J3 (Mj (l g _ keep (λ(k:O9) (m:J8)=>k=κ/\m={s with heap:=((s.heap.update a (L7 λ_=>(#[]:Lm J5))).push (seqObj "tuple" vs.toArray 0)).push (seqObj "list" #[] 0)}) #[rfl,rfl]) ?_ λ_ _ x=>x.elim)
  rintro _ _ ⟨rfl,rfl⟩;show J3 (Mj (PySem.W.kat_run (Q:=λf m=>∃p:Lm Kb,⇑p=↥vs/\arrOf f=p.map (kas_item (vs.toArray.zip vs.toArray))/\failedOf f=td/\p=nJ lt (kas_sort ↥vs)/\m={s with heap:=((s.heap.update a (L7 λ_=>(#[]:Lm J5))).push (seqObj "tuple" vs.toArray 0)).push (seqObj "list" #[] 0)})
   (G:=λp m=>p=nJ lt (kas_sort ↥vs)/\m={s with heap:=((s.heap.update a (L7 λ_=>(#[]:Lm J5))).push (seqObj "tuple" vs.toArray 0)).push (seqObj "list" #[] 0)}) rfl g H (λX f m M N O R=>#[X,M,N,O,R])
   (mj (lt:=lt) (λi j hi U C S=>L g _ keep i j hi U C S) (jW (n:=↥vs) ∅) #[rfl,rfl])) ?_ λ_ _ e=>e)
  rintro⟨⟨⟩,f⟩ m ⟨p,V,I,T,ep,rfl⟩;dsimp only;have v:=PySem.W.kat_snds rfl I;have hsz:(p.toList.map λi=>vs.getD i LB).length=↥vs:=by rw[J4,K9,V]
  rw[v];show J3 (Rz d rfl ?_);show J3 (O1 d rfl ?_ (Ml _) (by rw[Ks,hsz,Lu];omega))
  rw[T];revert Ra LK ML;show Kd (fin _ hsz (by unfold eN;rw[KS r,ep]))
def vh {x:J5}{lt:Kb->Kb->KR}{κ:O9}{Q:J5->J8->Prop}(q:↥vs<64)
  (k:∀v:J2 J5->J8->Prop,(∀h' tk,(∀b o,s.heap.get? b=gV o->h'.get? b=gV o)->⇑s.heap.objs<=⇑h'.objs->v vs {s with heap:=h',toks:=tk})->wpAny (model prog w) A.in1 (collect x) v E s)
  (d:2<=↥vs->∀h' tk,(∀b o,s.heap.get? b=gV o->h'.get? b=gV o)->∀Q:O9->J8->Prop,Q κ {s with heap:=h',toks:=tk}->wpAny (model prog w) A.in1.in1 (keyKind' vs.toArray) Q (λ_ _=>LM) {s with heap:=h',toks:=tk})
  (t:2<=↥vs->∀h' tk,(∀b o,s.heap.get? b=gV o->h'.get? b=gV o)->∀i j,i<↥vs->j<↥vs->∀Q:KR->J8->Prop,Q (lt i j) {s with heap:=h',toks:=tk}->
   wpAny (model prog w) A.in1.in1 (keyLt' κ (vs.getD i LB) (vs.getD j LB)) Q (λ_ _=>LM) {s with heap:=h',toks:=tk})
  (h:∀D h' tk c,(∀b o,s.heap.get? b=gV o->h'.get? b=gV o)->⇑s.heap.objs<=D->h'.get? D=gV (seqObj "list" (eN lt LB vs).toArray c)->Q (.ref D) {s with heap:=h',toks:=tk}) :
  wpAny (model prog w) A (call (.builtin "sorted") [x]) Q E s:=by
 show OO kind_sorted plain_sorted entry_sorted (args_sorted1 _) ?_;unfold M4.«sorted»;show J3 (m:=checkCount "sorted" 1 1 _) (Kd ?_);show J3 (k _ λg a r l=>?_)
 show J3 (Qr ?_ (by rw[Lu];omega))
 have n:(g.push (seqObj "list" vs.toArray 0)).get? ⇑g.objs=gV (seqObj "list" vs.toArray 0):=Kr _ rfl;have kp:∀b o,s.heap.get? b=gV o->(g.push (seqObj "list" vs.toArray 0)).get? b=gV o:=λb o e=>J7 _ (r b o e)
 have f:∀b o,s.heap.get? b=gV o->b≠⇑g.objs:=λb o e=>KF (Kw (Kx e) l)
 change wpAny _ _ _ _ _ {s with heap:=g.push (seqObj "list" vs.toArray 0),toks:=a}
 show J3 (LN (LP slot_list_sort #[_,n,rfl] entry_list_sort ?_ (args_list_sort _)));show vg (s:={s with heap:=g.push (seqObj "list" vs.toArray 0),toks:=a}) (lt:=lt) (κ:=κ) n q (λp h' hk Q u=>d p h' a (λb o e=>hk b o (f b o e) (kp b o e)) Q u)
  (λp h' hk i j hi z Q u=>t p h' a (λb o e=>hk b o (f b o e) (kp b o e)) i j hi z Q u) λh' c hk y=>?_
 show#[_,rfl,Kd #[_,rfl,h _ h' a c (λb o e=>hk b o (f b o e) (kp b o e)) l y]]
end
end Mi
namespace Mi
open PySem PySem.Spec PyProof.Rows L2
abbrev fq:T->LV
 |.int _=>"int"|.str _=>"str"|.tup _=>"tuple"
abbrev bj:T->J9 T
 |.tup (x::_)=>gV x
 |_=>td
abbrev AV (ks:J2 T):J9 Kb:=
 if ks.all (λk=>fq k == "int")then gV 0
 else if ks.all (λk=>fq k == "str")then gV 1
 else if ks.all (λk=>(bj k).any λf=>fq f == "int")then gV 2
 else if ks.all (λk=>(bj k).any λf=>fq f == "str")then gV 3
 else if ks.all (λk=>(bj k).any λf=>fq f == "tuple")then gV 4
 else td
abbrev xB:Kb->O9
 |0=>oneType'|1=>oneType'|2=>tuples' true|3=>tuples' true|_=>tuples' false
abbrev eO (ks:J2 T):KR:=ks.all λx=>ks.all λy=>(fK x y).isSome
abbrev vm (ks:J2 T)(i j:Kb):KR:=(fK (ks.getD i (.int 0)) (ks.getD j (.int 0))).getD false
def rG {ks:J2 T}(h:eO ks=true){i j:Kb}(hi:i<↥ks)(c:j<↥ks):fK (ks[i]) (ks[j])=gV (vm ks i j):=by
 unfold eO at h;rw[KD]at h;have a:=h ks[i] (Ll hi);rw[KD]at a;have d:=a ks[j] (Ll c);unfold vm;rw[show ks.getD i (.int 0)=ks[i] by simp[hi],show ks.getD j (.int 0)=ks[j] by simp[c]]
 obtain⟨b,e⟩:=Lz.mp d;rw[e];rfl
abbrev JE (c:Kb)(x y:T):Prop:=match c with|0=>fq x="int"/\fq y="int"|1=>fq x="str"/\fq y="str"|2=>∃f g,bj x=gV f/\bj y=gV g/\fq f="int"/\fq g="int"|3=>∃f g,bj x=gV f/\bj y=gV g/\fq f="str"/\fq g="str"|_=>∃f g,bj x=gV f/\bj y=gV g
section
variable{prog:KQ}{w:K8}{A:KZ}{E:J5->J8->Prop}{s:J8}
def tm {h:Lh}{k:T}{v:J5}(x:IsT h k v):Sq (model prog w) h (typeOf v) (.type (fq k)):=by
 cases x with
 |int=>show .now
 |str=>show .now
 |tup a c d t=>show c▸((TF a).andThen .now:Sq (model prog w) h (typeOf (.ref _)) _)
def IsTs.mem {h:Lh}:∀{ks:J2 T}{vs:J2 J5},IsTs h ks vs->∀v∈vs,∃k∈ks,IsT h k v
 |_,_,.cons a b,v,c=>by
  rcases KH.mp c with rfl|c
  ·show#[_,.head _,a]
  ·obtain⟨k,hk,q⟩:=IsTs.mem b v c;show#[k,.tail _ hk,q]
def mm {h:Lh}{p:T->KR}:∀{ks:J2 T}{vs:J2 J5},IsTs h ks vs->ks.all (λk=>(bj k).any p)=true->∃d,PySem.W.KatTups h vs d/\↥d=↥vs/\∀v∈d,∃k,p k=true/\IsT h k v
 |_,_,.nil,_=>#[[],.nil,rfl,λv e=>nomatch e]
 |k::ks,_,.cons a b,c=>by
  rw[Ls,Kc]at c;obtain⟨d,m,q,r⟩:=mm b c.2;cases a with
  |int=>simp[bj]at c
  |str=>simp[bj]at c
  |@tup t y o items n i j l g=>
   cases t with
   |nil=>simp[bj]at c
   |cons x xs=>
    have s:p x=true:=by simpa [bj]using c.1
    generalize f:items.toList=its at g;cases g with
    |@cons _ u _ us w z=>
     show#[u::d,.cons i j l (by rw[<- LL,f];rfl) m,by simp[q],λv e=>?_]
     rcases KH.mp e with rfl|e
     ·show#[x,s,w]
     ·show r v e
def D7 {ks:J2 T}{vs:J2 J5}{c:Kb}{Q:O9->J8->Prop}(h:IsTs s.heap ks vs)(i:2<=↥vs)(hc:AV ks=gV c)(b:Q (xB c) s):wpAny (model prog w) A (keyKind' vs.toArray) Q E s:=by
 have one:∀ty:LV,(MK ty != MK "tuple")=true->ks.all (λk=>fq k==ty)=true->Q oneType' s->wpAny (model prog w) A (keyKind' vs.toArray) Q E s:=λty d a b=>
  PySem.W.kas_kind (T:=.type ty) i (λv e=>by
   obtain⟨k,hk,x⟩:=h.mem v e;have:=eq_of_beq (KD.mp a k hk);show this▸tm x) d (by simp) b
 have tup:∀ty:LV,ks.all (λk=>(bj k).any λf=>fq f==ty)=true->Q (tuples' (MK ty != MK "tuple")) s->wpAny (model prog w) A (keyKind' vs.toArray) Q E s:=λty a b=>by
  obtain⟨l,g,m,j⟩:=mm h a;show PySem.W.kat_kind (T:=.type ty) g ∅ (λv e=>by
   obtain⟨k,hk,x⟩:=j v e;have:=eq_of_beq hk;show this▸tm x) (by simp) b
 unfold AV at hc;split at hc
 ·cases hc;show one "int" #v[] (by assumption) b
 ·split at hc
  ·cases hc;show one "str" #v[] (by assumption) b
  ·split at hc
   ·cases hc;show tup "int" (by assumption) b
   ·split at hc
    ·cases hc;show tup "str" (by assumption) b
    ·split at hc
     ·cases hc;show tup "tuple" (by assumption) b
     ·cases hc
def pH {b:KR}{Q:KR->J8->Prop}{d:Kb}(n:A.units+d<cLine):∀(xs ys:J2 T) (us vs:J2 J5) (i:Kb) (k:KR),T.depths xs<=d->T.depths ys<=d->IsTs s.heap xs us->IsTs s.heap ys vs->cF xs ys=gV k->
  (b=true->i=0->∀x y,xs.head?=gV x->ys.head?=gV y->(fq x="int"/\fq y="int")\/(fq x="str"/\fq y="str"))->Q k s->PySem.W.KatLex prog w A b (decide (↥us<↥vs)) Q (us.zip vs) i s
 |[],[],_,_,i,k,_,_,f,g,e,l,a=>by cases f;cases g;cases e;show PJ (by simpa using a)
 |[],y::ys,_,_,i,k,_,_,f,g,e,l,a=>by cases f;cases g;cases e;show PJ (by simpa using a)
 |x::xs,[],_,_,i,k,_,_,f,g,e,l,a=>by cases f;cases g;cases e;show PJ (by simpa using a)
 |x::xs,y::ys,_,_,i,k,q,r,f,g,e,l,a=>by
  simp only[T.depths]at q r;cases f with
  |@cons _ u _ us m C=>
   cases g with
   |@cons _ v _ vs p2 D=>
    have t:=vd d x y _ _ A s ∅ m p2 n ∅
    rw[Nn];show PySem.W.kat_cons (t prog w _ _ ?_);simp only[cF]at e;have j:decide ((u::us).length<(v::vs).length)=decide (↥us<↥vs):=by simp
    rw[j]
    by_cases c:x=y
    ·rw[KC c]at e;rw[Ld c];show PySem.W.kat_yes (pH n xs ys us vs (i+1) k ∅ ∅ C D e (λ_ z=>absurd z (Nat.succ_ne_zero _)) a)
    ·rw[KS c]at e;rw[K4 c];show PySem.W.kat_no ?_
     by_cases h:b=true/\i=0
     ·obtain⟨rfl,rfl⟩:=h;rcases l rfl rfl x y rfl rfl with⟨o,p⟩|⟨o,p⟩
      ·cases m with
       |int=>cases p2 with
        |int=>cases e;show oneLt_int a
        |_=>show absurd p (by simp[fq])
       |_=>show absurd o (by simp[fq])
      ·cases m with
       |str=>cases p2 with
        |str=>cases e;show oneLt_str a
        |_=>show absurd p (by simp[fq])
       |_=>show absurd o (by simp[fq])
     ·have B:(b&&i==0)=false:=by
       cases b with
       |false=>rfl
       |true=>
        have:i≠0:=λz=>h #[rfl,z]
        simpa using this
      rw[B];show PySem.W.kat_one _ _ ((Gw d x y _ _ A s k ∅ ∅ m p2 n e) prog w _ _ a)
def AW {c d:Kb}{x y:T}{u v:J5}{k:KR}{Q:KR->J8->Prop}(V:A.units+d<cLine)(O:x.depth<=d)(P:y.depth<=d)(m:IsT s.heap x u)(r:IsT s.heap y v)(e:fK x y=gV k)
  (hc:JE c x y)
  (H:Q k s):wpAny (model prog w) A (keyLt' (xB c) u v) Q E s:=by
 have tup:∀b:KR,(∃f g,bj x=gV f/\bj y=gV g/\(b=true->(fq f="int"/\fq g="int")\/(fq f="str"/\fq g="str")))->wpAny (model prog w) A (keyLt' (tuples' b) u v) Q E s:=by
  rintro b ⟨f,g,D,G,U⟩;cases m with
  |int=>cases D
  |str=>cases D
  |@tup xs a o items n M Z R W=>
   cases r with
   |int=>cases G
   |str=>cases G
   |@tup ys Y o' j n' N c2 S X=>
    simp only[T.depth]at O P;show PySem.W.kat_lt M R N S ?_;have:=pH (prog:=prog) (w:=w) (b:=b) (Q:=Q) V xs ys items.toList j.toList 0 k ∅ ∅ W X e (λC _ p q L l=>by
     cases xs with
     |nil=>cases L
     |cons x0 xs=>cases ys with
      |nil=>cases l
      |cons y0 ys=>cases L;cases l;cases D;cases G;show U C) H
    simpa using this
 match c,hc with
 |0,#[I,J]=>
  cases m with
  |int=>cases r with
   |int=>cases e;show PySem.W.kat_lt_int H
   |_=>show absurd J (by simp[fq])
  |_=>show absurd I (by simp[fq])
 |1,#[I,J]=>
  cases m with
  |str=>cases r with
   |str=>cases e;show PySem.W.kas_lt_str H
   |_=>show absurd J (by simp[fq])
  |_=>show absurd I (by simp[fq])
 |2,#[f,g,h,i,t,B]=>show tup true #[f,g,h,i,λ_=>.inl #[t,B]]
 |3,#[f,g,h,i,t,B]=>show tup true #[f,g,h,i,λ_=>.inr #[t,B]]
 |n+4,#[f,g,h,i]=>show tup false #[f,g,h,i,λz=>nomatch z]
end
def AX {ks:J2 T}{c:Kb}(h:AV ks=gV c){x y:T}(l:x∈ks)(m:y∈ks) :
  JE c x y:=by
 have one:∀{ty:LV},ks.all (λk=>fq k==ty)=true->fq x=ty/\fq y=ty:=λe=>#[eq_of_beq (KD.mp e x l),eq_of_beq (KD.mp e y m)]
 have a:∀{ty:LV},ks.all (λk=>(bj k).any λf=>fq f==ty)=true->∃f g,bj x=gV f/\bj y=gV g/\fq f=ty/\fq g=ty:=λ{ty} e=>by
  have b:=KD.mp e x l;have d:=KD.mp e y m;cases i:bj x with
  |none=>rw[i]at b;cases b
  |some f=>
   cases j:bj y with
   |none=>rw[j]at d;cases d
   |some g=>
    rw[i]at b;rw[j]at d
    show#[f,g,rfl,rfl,eq_of_beq (by simpa using b),eq_of_beq (by simpa using d)]
 unfold AV at h;split at h
 ·cases h;show one (by assumption)
 ·split at h
  ·cases h;show one (by assumption)
  ·split at h
   ·cases h;show a (by assumption)
   ·split at h
    ·cases h;show a (by assumption)
    ·split at h
     ·cases h;obtain⟨f,g,b,d,_⟩:=a (by assumption)
      show#[f,g,b,d]
     ·cases h
abbrev eX (S:aa):W->J9 (J2 W)
 |.tup xs=>gV xs
 |.ref i=>match dU S i with
  |some xs=>gV xs
  |none=>(gO S i).map λU=>U.map λp=>p.1.w
 |_=>td
abbrev d4:Kb:=8
abbrev nL (ks:J2 T):KR:=decide (↥ks<64)&&decide (T.depths ks<=d4)&&(decide (↥ks<2)||((AV ks).isSome&&eO ks))
abbrev iG (xs:J2 W)(S:aa):J9 (W×aa):=match xs with
 |[x]=>match eX S x with
  |some ws=>match W.ts ws with
   |some ks=>if nL ks then gV (.ref ↥S,S++[.lst (eN (vm ks) .non ws)])else td
   |none=>td
  |none=>td
 |_=>td
abbrev iH (xs:J2 W)(S:aa):J9 (W×aa):=match xs with
 |[.ref i]=>match gO S i with
  |some U=>gV (.ref ↥S,S++[.lst (U.map λp=>p.1.w)])
  |none=>fm [.ref i] S
 |xs=>fm xs S
abbrev pI (xs:J2 W)(S:aa):J9 (W×aa):=match xs with
 |[.ref i]=>match gO S i with
  |some U=>gV (.int ↥U,S)
  |none=>kA [.ref i] S
 |xs=>kA xs S
abbrev g6 (ks:J2 T):Kb:=argBest (vm ks) (↥ks-1)
abbrev xC (xs:J2 W)(S:aa):J9 (W×aa):=match xs with
 |[.ref i]=>match dU S i with
  |some ws=>match W.ts ws with
   |some ks=>if T.depths ks<=d4/\eO ks=true then(ws[g6 ks]?).map λw=>(w,S)else td
   |none=>td
  |none=>td
 |_=>td
abbrev g9:J2 W->J9 (J2 KR)
 |[]=>gV []
 |.bl b::ws=>(g9 ws).map (b :: ·)
 |_::_=>td
abbrev D8 (xs:J2 W)(S:aa):J9 (W×aa):=match xs with
 |[.ref i]=>match dU S i with
  |some ws=>(g9 ws).map λbs=>(.bl (bs.all id),S)
  |none=>td
 |_=>td
section
variable{X:Cx}{J:J2 (Kf×L5)}{Y:L2.St}{H:Hp}{s:J8}{A:J2 Kf}{S:aa}
def RelL.pick {K:Km}{ws:J2 W}{vs:J2 V}(r:RelL K A H ws vs)(d:W)(d':V):∀(is:J2 Kb),(∀i∈is,i<↥ws)->RelL K A H (is.map λi=>ws.getD i d) (is.map λi=>vs.getD i d')
 |[],_=>.nil
 |i::is,h=>by
  have hi:=h i (.head _);obtain⟨v,c,e⟩:=r.get (Ke hi);show .cons ?_ (RelL.pick r d d' is λj f=>h j (.tail _ f))
  have a:ws.getD i d=ws[i]:=by simp[hi]
  have b:vs.getD i d'=v:=by simp[c]
  change Rel K A H (ws.getD i d) (vs.getD i d');rw[a,b];show e
def Vals.pick {vs:J2 V}{us:J2 J5}(r:Vals vs us)(d:V)(d':J5):∀(is:J2 Kb),(∀i∈is,i<↥vs)->Vals (is.map λi=>vs.getD i d) (is.map λi=>us.getD i d')
 |[],_=>.nil
 |i::is,h=>by
  have hi:=h i (.head _);obtain⟨v,c,e⟩:=L2.Vals.get r (Ke hi);show .cons ?_ (Vals.pick r d d' is λj f=>h j (.tail _ f))
  have a:vs.getD i d=vs[i]:=by simp[hi]
  have b:us.getD i d'=v:=by simp[c]
  change L2.RelV (vs.getD i d) (us.getD i d');rw[a,b];show e
def nM {n:Kb}{lt:Kb->Kb->KR}(a:0<n):∀i∈(nJ lt (Rq n)).toList,i<n:=λi hi=>Ky.mp ((nK (lt:=lt) (jW a)).mem_iff.mp hi)
def xD {K:Km}{lt:Kb->Kb->KR}{ws:J2 W}{vs:J2 V}(r:RelL K A H ws vs):RelL K A H (eN lt .non ws) (eN lt .non vs):=by
 unfold eN;rw[↥r];split
 ·show r
 ·show r.pick _ _ _ λi hi=>by rw[↥r];show nM ∅ i hi
def vn {lt:Kb->Kb->KR}{vs:J2 V}{us:J2 J5}(r:Vals vs us):Vals (eN lt .non vs) (eN lt .none us):=by
 unfold eN;rw[L2.Vals.length r];split
 ·show r
 ·show Vals.pick r _ _ _ λi hi=>by rw[L2.Vals.length r];show nM ∅ i hi
def pJ {prog:KQ}{w:K8}{B:KZ}{E:J5->J8->Prop}{l:Kf}{vs:J2 J5}{Q:J2 J5->J8->Prop}(hl:Pw s.heap l vs.toArray)(hsz:↥vs<=sizeLine)
  (h:∀h' tk,(∀b o,s.heap.get? b=gV o->h'.get? b=gV o)->⇑s.heap.objs<=⇑h'.objs->Q vs {s with heap:=h',toks:=tk}):wpAny (model prog w) B (collect (.ref l)) Q E s:=by
 obtain⟨o,c,hc,n,hd⟩:=id hl;unfold collect;show J3 (OD (LQ entry_proto_collect' ?_));change wpAny _ _ (do again (.builtin "list.__iadd__" #[[<- newList [],.ref l],[]])) _ _ s
 show J3 (Qr (Kd #[QF _ (by decide +kernel),LQ entry_list_iadd' ?_]))
 change wpAny _ _ (MO (.ref ⇑s.heap.objs) (.ref l) (.ref ⇑s.heap.objs)) _ _ {s with heap:=s.heap.push (seqObj "list" #[] 0)}
 unfold MO;have a:(s.heap.push (seqObj "list" #[] 0)).get? l=gV o:=J7 _ c;show J3 (NE (T:="tuple") #[o,a,hc] ?_);have d:(MK "tuple" == MK "tuple")=true:=by rfl
 rw[KC (by rw[d];simp)]
 show J3 (Q9 a hd ?_);show J3 (Q9 (xs:=#[]) (n:=0) (Kr _ rfl) rfl ?_);rw[KS (by simp)]
 show J3 (O1 (xs:=#[]) (n:=0) (Kr _ rfl) rfl ?_ (Ml _) (by show(#[]++vs.toArray).size<=sizeLine+1;revert Array.size_append Ks Mb;omega))
 show Kd ?_;change wpAny (model prog w) B (do
   let o <- load ⇑s.heap.objs
   match o.data with
   |.seq xs _=>pure xs.toList
   |_=>unsupported "internal:collect") Q E {s with heap:=(s.heap.push (seqObj "list" #[] 0)).update ⇑s.heap.objs (L7 (· ++ vs.toArray))}
 show J3 (Qw (PH (Kr _ rfl) _) ?_);change wpAny _ _ (pure ((#[]:Lm J5)++vs.toArray).toList) Q E _;rw[show((#[]:Lm J5)++vs.toArray).toList=vs by simp]
 show Kd (h _ s.toks (λb f e=>(NO _ _ _ _ (KF (Kx e))).trans (J7 _ e)) ?_)
 rw[Rr,size_push'];show Nk _
def DicAt.raw {wd:K8}{a:Kf}{xs:J2 (T×Kf×J5)}{h:Lh}(d:DicAt wd a xs h):∃es ep,RawD a es ep h/\es.toList=xs.map (xf wd):=
 let ⟨_,_,_,o,es,ep,h1,h2,h3,h4⟩:=d;#[es,ep,#[o,h1,h2,h3],h4]
def KRel.keysL {U:J2 (T×W)}{xs:J2 (T×Kf×J5)}(r:KRel X.K A H U xs):RelL X.K A H (U.map λp=>p.1.w) (xs.map λq=>V.ref q.2.1):=by
 unfold KRel at r
 induction r with
 |nil=>show .nil
 |cons h t ih=>show .cons h.2.2.2.1 ih
def mo (xs:J2 (T×Kf×J5)):Vals (xs.map λq=>V.ref q.2.1) (xs.map λq=>Lc q.2.1):=by
 induction xs with
 |nil=>show .nil
 |cons x xs ih=>show .cons rfl ih
def kI {wd:K8}{es:Lm MH}{xs:J2 (T×Kf×J5)}(f:es.toList=xs.map (xf wd)){acc:Lm J5}(d:Pn (λi v=>∃e,es[i]?=gV e/\e.key=v) acc ⇑es):acc.toList=xs.map λq=>Lc q.2.1:=by
 have hl:⇑es=↥xs:=by rw[<- K9,f,J4]
 apply Mu
 ·rw[K9,d.1,J4,hl]
 ·intro i b c;rw[K9]at b;obtain⟨e,a,g⟩:=d.2 i acc[i] (by simp[b])
  rw[<- LL,f,Kg]at a;rw[J4]at c;rw[Ke c]at a;simp only[KM,K1]at a;subst a;rw[NF,Array.getElem_toList];show g.symm
def vo {x:W}{a:V}{u:J5}{ws:J2 W}(G:X.A.handled=td)(I:Inv X J Y H s)(t:StoreOk X.w X.K A H S)(D:Rel X.K A H x a)(n:RelV a u)(e:eX S x=gV ws):∃vs us,RelL X.K A H ws vs/\Vals vs us/\↥us<=sizeLine/\
  ∀(B:KZ) (i:B.handled=td) (E:J5->J8->Prop) (f:J2 J5->J8->Prop),(∀h' tk,(∀b o,s.heap.get? b=gV o->h'.get? b=gV o)->⇑s.heap.objs<=⇑h'.objs->f us {s with heap:=h',toks:=tk})->wpAny (model X.prog X.w) B (collect u) f E s:=by
 cases D with
 |tup j m=>
  cases e;obtain⟨its,c,w,g⟩:=I.tuple j;obtain rfl:u=Lc _:=n;show#[_,its,m,c,by rw[<- L2.Vals.length c];show g,λB i E f h=>pJ w (by rw[<- L2.Vals.length c];show g) h]
 |ref q=>
  simp only[eX]at e;split at e
  ·rename_i xs y;cases e;obtain⟨vs,j,m⟩:=bg t y q;obtain⟨its,c,p,g⟩:=I.list j;obtain rfl:u=Lc _:=n;show#[_,its,m,c,by rw[<- L2.Vals.length c];show g,λB i E f h=>collect_list p.isList (h _ s.toks (λb L e=>(NO _ _ _ _ (KF (Kx e))).trans (J7 _ e)) ?_) (by rw[<- L2.Vals.length c];show g)]
   rw[Rr,size_push'];show Nk _
  ·rw[J6]at e;obtain⟨U,hk,rfl⟩:=e;obtain⟨xs,C,z⟩:=fJ t hk q;have d:=b8 I C;obtain⟨es,ep,raw,r⟩:=d.raw;obtain rfl:u=Lc _:=n;have hl:⇑es=↥xs:=by rw[<- K9,r,J4]
   show#[_,_,z.keysL,mo xs,by rw[J4];show d.1,λB i E f h=>pB (tf d.2.1) i raw (by rw[hl];show d.1) λh' tk acc k l v=>?_]
   rw[kI r v];show h h' tk k l
 |_=>cases e
def mr {h':Lh}{tk c:Kb}{D:Kf}{ws:J2 W}{vs:J2 V}{us:J2 J5}(I:Inv X J Y H s)(g:StoreOk X.w X.K A H S)(r:RelL X.K A H ws vs)(f:Vals vs us)(i:↥us<=sizeLine)(hk:∀b o,s.heap.get? b=gV o->h'.get? b=gV o)(d:⇑s.heap.objs<=D)
  (h:h'.get? D=gV {cls:=.type "list",data:=.seq us.toArray c}):PostE X J Y A H (S++[.lst ws]) (.ref ↥S) (.ref D) {s with heap:=h',toks:=tk}:=by
 have e:H D=td:=I.hok.fresh d;show#[.ref D,_,A++[D],I.laid (a:=D) (o:=.lst vs) (t':=tk) hk d #[by rw[L2.Vals.length f];show i,us,c,f,h],rfl,bO e,g.push e r,.ref ?_]
 rw[<- g.len];simp
def nN (C:X.A.handled=td)(hu:X.A.units+12<cLine):LCall X (.builtin "sorted") iG:=by
 intro J s Y H A S xs vs us w S' I N rl rv e;cases rl with
 |nil=>cases e
 |cons r t=>
  cases t with
  |cons _ _=>cases e
  |nil=>
   cases rv with
   |cons ru B=>
    cases B;simp only[iG]at e;split at e
    ·rename_i ws hw;split at e
     ·rename_i ks hk;split at e
      ·rename_i m;cases e;obtain⟨vs',a,L,q,hz,p⟩:=vo C I N r ru hw;simp only[nL,Kc,KP]at m;obtain⟨⟨U,hd⟩,m⟩:=m;have y:T.ws ks=ws:=W.ts_w hk;have x:IsTs s.heap ks a:=gf I ks (y▸L) q;have hl:↥a=↥ks:=x.length.symm;have M:2<=↥a->(AV ks).isSome=true/\eO ks=true:=λn=>by
        rcases Mp _ _▸m with h|h
        ·simp only[KP]at h;omega
        ·simpa using h
       show vh (vs:=a) (lt:=vm ks) (κ:=xB ((AV ks).getD 0)) ∅ (λO v=>p X.A.in1 C _ O v) (λn h' tk f Q u=>?_) (λn h' tk f i j hi E Q u=>?_) λD h' tk c f V Z=>?_
       ·obtain⟨z,G⟩:=M n;obtain⟨c,hc⟩:=Lz.mp z;rw[hc]at u;show D7 (s:={s with heap:=h',toks:=tk}) (x.kept λb o _ e=>f b o e) n hc u
       ·obtain⟨z,G⟩:=M n;obtain⟨c,hc⟩:=Lz.mp z;rw[hc];have k:i<↥ks:=∅
        have l:j<↥ks:=∅
        have g:=(x.kept (h':=h') λb o _ e=>f b o e)
        have P:a.getD i LB=a[i]:=by simp[hi]
        have R:a.getD j LB=a[j]:=by simp[E]
        rw[P,R];have b1:=dL (ks:=ks) i k;have b2:=dL (ks:=ks) j l;show AW (s:={s with heap:=h',toks:=tk}) (d:=d4) (c:=c) (by rw[aX,aX];unfold d4;omega) ∅ ∅ (g.get i k hi) (g.get j l E) (rG G k l) (AX hc (Ll k) (Ll l)) u
       ·show mr I N (xD L) (vn q) (by rw[pG];show hz) f V Z
      ·cases e
     ·cases e
    ·cases e
def pK (q:X.A.handled=td):LCall X (.type "list") iH:=by
 intro J s Y H A S xs vs us w S' I h k l e
 by_cases hd:∃i U,xs=[.ref i]/\gO S i=gV U
 ·obtain⟨i,U,rfl,hk⟩:=hd;simp only[iH,hk]at e;cases e;cases k with
  |cons r t=>
   cases t;cases l with
   |cons x g=>
    cases g;cases r with
    |ref n=>
     obtain⟨xs,v,u⟩:=fJ h hk n;have d:=b8 I v;obtain⟨es,ep,raw,j⟩:=d.raw;obtain rfl:_=Lc _:=x;have hl:⇑es=↥xs:=by rw[<- K9,j,J4]
     show PySem.W.kdl_call (tf d.2.1) q raw (by rw[hl];show d.1) λh' tk a m f o p=>?_
     have b:=kI j p;show mr (us:=a.toList) I h u.keysL (b▸mo xs) (by rw[b,J4];show d.1) f (Kl _) (c:=m) ?_
     simpa using o
 ·have:iH xs S=fm xs S:=by
   unfold iH;split
   ·rename_i i;split
    ·rename_i U hk;show absurd #[i,U,rfl,hk] hd
    ·rfl
   ·rfl
  rw[this]at e;show gY J s Y H A S xs vs us w S' I h k l e
end
open PySem.W (KasT kas_sort kas_asc kas_desc kas_tail3 kas_descPart kas_count kas_place kas_bin kas_rev)
abbrev gt (p:Lm Kb)(i:Kb):Kb:=p.getD i 0
end Mi
namespace Mi
open PySem PySem.Spec PyProof.Rows L2
mutual
theorem rH:∀x y:T,kE x=true->fK x y=gV true->fK y x=gV false
 |.int a,.int b,_,h=>by
  dsimp only[fK]at h;simp only[K1,KP]at h
  delta fK;revert K1 N2
  omega
 |.str _,_,h,_=>by cases h
 |.tup xs,.tup ys,hn,h=>nO xs ys hn h
 |.int _,.str _,_,h|.int _,.tup _,_,h|.tup _,.int _,_,h|.tup _,.str _,_,h=>by cases h
theorem nO:∀xs ys:J2 T,d0 xs=true->cF xs ys=gV true->cF ys xs=gV false
 |[],[],_,h=>by cases h
 |[],_::_,_,_=>rfl
 |_::_,[],_,h=>by cases h
 |x::xs,y::ys,hn,h=>by
  simp only[d0,Kc]at hn;dsimp only[cF]at h ⊢
  by_cases e:x=y
  ·rw[KC e]at h;rw[KC e.symm];show nO xs ys hn.2 h
  ·rw[KS e]at h;rw[KS (Ne.symm e)];show rH x y hn.1 h
end
mutual
theorem rJ:∀x y:T,kE x=true->x≠y->fK y x=gV false->fK x y=gV true
 |.int a,.int b,_,hne,h=>by
  dsimp only[fK]at h;simp only[K1,N2]at h
  delta fK;revert K1 KP
  have:a≠b:=λe=>hne (e▸rfl)
  omega
 |.str _,_,h,_,_=>by cases h
 |.tup xs,.tup ys,hn,hne,h=>tq xs ys hn (λe=>hne (e▸rfl)) h
 |.int _,.str _,_,_,h|.int _,.tup _,_,_,h|.tup _,.int _,_,_,h|.tup _,.str _,_,_,h=>by cases h
theorem tq:∀xs ys:J2 T,d0 xs=true->xs≠ys->cF ys xs=gV false->cF xs ys=gV true
 |[],[],_,h,_=>absurd rfl h
 |[],_::_,_,_,_=>rfl
 |_::_,[],_,_,h=>by cases h
 |x::xs,y::ys,hn,hne,h=>by
  simp only[d0,Kc]at hn;dsimp only[cF]at h ⊢
  by_cases e:x=y
  ·rw[KC e.symm]at h;rw[KC e];show tq xs ys hn.2 (λz=>hne (by rw[e,z])) h
  ·rw[KS (Ne.symm e)]at h;rw[KS e];show rJ x y hn.1 e h
end
mutual
theorem xE:∀x y z:T,kE x=true->kE y=true->fK x y=gV true->fK y z=gV true->fK x z=gV true
 |.int a,.int b,.int c,_,_,h,h'=>by
  dsimp only[fK]at h h' ⊢;simp only[K1,KP]at h h' ⊢
  omega
 |.tup xs,.tup ys,.tup zs,hn,hn',h,h'=>tt xs ys zs hn hn' h h'
 |.str _,_,_,h,_,_,_=>by cases h
 |.int _,.str _,_,_,_,h,_|.int _,.tup _,_,_,_,h,_|.tup _,.int _,_,_,_,h,_|.tup _,.str _,_,_,_,h,_=>by cases h
 |.int _,.int _,.str _,_,_,_,h|.int _,.int _,.tup _,_,_,_,h|.tup _,.tup _,.int _,_,_,_,h|.tup _,.tup _,.str _,_,_,_,h=>by cases h
theorem tt:∀xs ys zs:J2 T,d0 xs=true->d0 ys=true->cF xs ys=gV true->cF ys zs=gV true->cF xs zs=gV true
 |[],[],_,_,_,h,_=>by cases h
 |_::_,[],_,_,_,h,_=>by cases h
 |_,_::_,[],_,_,_,h=>by cases h
 |[],_::_,_::_,_,_,_,_=>rfl
 |x::xs,y::ys,z::zs,hn,hn',h,h'=>by
  simp only[d0,Kc]at hn hn';dsimp only[cF]at h h' ⊢
  by_cases e:x=y
  ·subst e;rw[KC rfl]at h
   by_cases e':x=z
   ·rw[KC e']at h' ⊢;show tt xs ys zs hn.2 hn'.2 h h'
   ·rw[KS e']at h' ⊢;show h'
  ·rw[KS e]at h
   by_cases e':y=z
   ·subst e';rw[KS e];show h
   ·rw[KS e']at h';have t:=xE x y z hn.1 hn'.1 h h';have e2:x≠z:=λe2=>by
     subst e2;have:=rH x x hn.1 t;rw[t]at this;cases this
    rw[KS e2];show t
end
def xF {α:Type}{lt:Kb->Kb->KR}{d:α}{xs:J2 α}:(eN lt d xs).Perm xs:=by
 unfold eN;split
 ·show .refl _
 ·have p:Pm ↥xs (nJ lt (Rq ↥xs)):=nK (jW ∅)
  show(TY _ p).trans ?_;have:(Kj ↥xs).map (λi=>xs.getD i d)=xs:=by
   apply Mu
   ·simp
   ·intro k b a;simp[a]
  rw[this]
abbrev jf (xs:J2 W)(S:aa):J9 (W×aa):=match xs with
 |[.ref i]=>match pc S i with
  |some (lo,hi)=>if -(2^62)<=lo/\lo<2^62/\-(2^62)<=hi/\hi<2^62/\(hi-lo).toNat<=sizeLine then gV (.tup (AT lo (hi-lo).toNat),S)else td
  |none=>kB [.ref i] S
 |xs=>kB xs S
section
variable{prog:KQ}{w:K8}{A:KZ}{E:J5->J8->Prop}{s:J8}
def lO {Q:J2 J5->J8->Prop}{r:Kf}{a b c:Ki}{t u v:Tn}{n:Kb}(D:A.handled=td)(y:TB s.heap r a b c t u v)(j:On a b c=true)
  (G:Ms a b c=n) (x:n<=2^24)
  (B:∀h' tk (acc:Lm J5),(∀b o,s.heap.get? b=gV o->h'.get? b=gV o)->⇑s.heap.objs<=⇑h'.objs->Pn (λi v=>∃t,v=.int (a+i*c) t) acc n->Q acc.toList {s with heap:=h',toks:=tk}):wpAny (model prog w) A (collect (.ref r)) Q E s:=by
 unfold collect;show J3 (OD (LQ F.entry_proto_collect ?_));rw[LI F.plain_proto_collect _];change wpAny _ A.in1 (newList [] >>= λl=>again (.builtin "list.__iadd__" #[[l,.ref r],[]])) _ _ s
 show J3 (Ly ?_);show Kd #[MC F.plain_list_iadd _,LQ F.entry_list_iadd ?_];rw[LI F.plain_list_iadd _];change wpAny _ A.in1 (MO (.ref ⇑s.heap.objs) (.ref r) (.ref ⇑s.heap.objs)) _ _ _;have C:(s.heap.push {cls:=.type "list",data:=.seq ([]:J2 J5).toArray}).get? ⇑s.heap.objs=gV {cls:=.type "list",data:=.seq #[] 0}:=Kr _ rfl;have k:∀m,(∃h' tk acc p,m={s with heap:=h',toks:=tk}/\(∀b o,s.heap.get? b=gV o->h'.get? b=gV o)/\h'.get? ⇑s.heap.objs=gV {cls:=.type "list",dict:=td,data:=.seq acc p,slots:=#[]}/\Pn (λi v=>∃t,v=.int (a+i*c) t) acc n)->wpAny (model prog w) A (do
   let o <- load ⇑s.heap.objs
   match o.data with
   |.seq xs _=>pure xs.toList
   |_=>unsupported "internal:collect") Q E m:=by
  rintro m ⟨h',tk,acc,p,rfl,hk,g,d⟩;show J3 (Qw g (Kd (B h' tk acc hk (ND (Kx g)) d)))
 show Mj (wpAny_extend_range (A:=A) (s:={s with heap:=s.heap.push {cls:=.type "list",data:=.seq ([]:J2 J5).toArray}}) (R:=λr m=>r=.ok (.ret (.ref ⇑s.heap.objs))/\∃h' tk acc p,m={s with heap:=h',toks:=tk}/\(∀b o,s.heap.get? b=gV o->h'.get? b=gV o)/\h'.get? ⇑s.heap.objs=gV {cls:=.type "list",dict:=td,data:=.seq acc p,slots:=#[]}/\Pn (λi v=>∃t,v=.int (a+i*c) t) acc n) D (J7 _ y) j G x _ _ 0 C λh' tk q p hk g d=>#[rfl,h',tk,q,p,rfl,λb o e=>hk b o (KF (Kx e)) (J7 _ e),g,d]) (λfin m h=>?_) (λe m h=>?_)
 ·cases fin with
  |done f=>
   obtain⟨e,h⟩:=h;cases e;show k m h
  |again p=>show#[h.1,N3 h.2 λr z y=>by obtain⟨rfl,y⟩:=y;show k z y]
 ·show absurd h.1 (by simp)
def jg {Q₁:J5->J8->Prop}{r:Kf}{a b c:Ki}{t u v:Tn}{n:Kb}(x:A.handled=td)(p:TB s.heap r a b c t u v)(d:On a b c=true)
  (z:Ms a b c=n) (g:n<=2^24)
  (h:∀(h':Lh) (tk:Kb) (acc:Lm J5),(∀b o,s.heap.get? b=gV o->h'.get? b=gV o)->⇑s.heap.objs<=⇑h'.objs->Pn (λi v=>∃t,v=.int (a+i*c) t) acc n->Q₁ (.ref ⇑h'.objs) {s with heap:=h'.push {cls:=.type "tuple",data:=.seq acc},toks:=tk}) :
  codeAny (model prog w) A (.call (.builtin "tuple.__new__") #[[.type "tuple",.ref r],[]]) (wants Q₁ E) s:=by
 show PC ?_;change wpAny _ A.in1 (do checkBuiltinCall "tuple.__new__" #[[.type "tuple",.ref r],[]];again (.builtin "tuple.__new__" #[[.type "tuple",.ref r],[]])) _ _ s
 show J3 (OW (F.newCall_tuple_1 _) (Kd #[MC F.plain_tuple_new _,LQ F.entry_tuple_new ?_]));rw[LI F.plain_tuple_new _];have q:=PySem.sub_tuple_self;have l:=PySem.init_tuple_lookup;have y:=PySem.madeHere_tuple;have j:s.TypeIs (.ref r) "range":=#[_,p,rfl];have k:A.in1.handled=td:=by simp[x]
 wp_walk using NE j,lO (A:=A.in1) k p d z g
 intro h' tk acc hk m f;change wpAny _ _ (Mn acc.toList.toArray >>= λv=>ret v) _ _ _
 unfold Mn;show J3 (Ly ?_ (by change ⇑acc.toList.toArray<=sizeLine;revert Array.toArray_toList;rw[f.1,Lu];omega))
 show Kd ?_;have e:acc.toList.toArray=acc:=by simp
 rw[e];show h h' tk acc hk m f
def jh {Q:J5->J8->Prop}{r:Kf}{a b c:Ki}{t u v:Tn}{n:Kb}(l:A.handled=td)(p:TB s.heap r a b c t u v)(f:On a b c=true)
  (m:Ms a b c=n) (h:n<=2^24)
  (k:∀(h':Lh) (tk:Kb) (acc:Lm J5),(∀b o,s.heap.get? b=gV o->h'.get? b=gV o)->⇑s.heap.objs<=⇑h'.objs->Pn (λi v=>∃t,v=.int (a+i*c) t) acc n->Q (.ref ⇑h'.objs) {s with heap:=h'.push {cls:=.type "tuple",data:=.seq acc},toks:=tk}) :
  wpAny (model prog w) A (call (.type "tuple") [.ref r]) Q E s:=by
 show R3 (Q₁:=λobj d=>d.TypeIs obj "tuple"/\Q obj d) F.called_tuple (F.typeCall_tuple_1 _) F.entry_object_init
  (jg (by simp[l]) p f m h λh' tk acc hk j g=>#[#[_,Kr _ rfl,rfl],k h' tk acc hk j g]) λobj d e=>?_
 show#[e.1,F.args_object_init_2 obj _,object_init_meets F.called_tuple.init.lookup F.called_tuple.made #v[] prog w A.in1 _ d #[e.1,rfl,e.2]]
end
section
variable{X:Cx}{J:J2 (Kf×L5)}{Y:L2.St}{H:Hp}{s:J8}{A:J2 Kf}{S:aa}
def nP (C:X.A.handled=td):LCall X (.type "tuple") jf:=by
 intro J s Y H A S xs vs us w S' I j l m e;unfold jf at e;split at e
 ·rename_i i;split at e
  ·rename_i lo hi h;split at e
   ·rename_i B;cases e;obtain⟨a,y,rfl⟩:=eW (xs:=[]) l m;obtain⟨p,b2,q,r,n⟩:=B;have z:H a=gV (.rng lo hi):=by
     unfold pc at h;split at h
     ·rename_i L;cases h;show j.obj i _ a L y
     ·cases h
    obtain⟨t,u,v,E⟩:=I.hok a _ z;have D:Ms lo hi 1=((hi-lo).toNat:Kb):=by rw[Qn];split<;>omega
    show jh C E (SA p b2 q r) D n λh' tk acc hk d c=>?_
    have G:Vals ((Kj (hi-lo).toNat).map λ(k:Kb)=>V.int (lo+(k:Ki))) acc.toList:=by
     show nE (by rw[J4,KL,K9,c.1]) λi v u g x=>?_
     rw[Kg,J6]at g;obtain⟨k,g,rfl⟩:=g;obtain⟨hk,rfl⟩:=Ko.mp g;obtain⟨t,rfl⟩:=c.2 i u (by rw[<- LL];show x)
     show#[t,by simp]
    have f:H ⇑h'.objs=td:=I.hok.fresh d;show#[.ref ⇑h'.objs,_,A,I.laid (a:=⇑h'.objs) (o:=.tup ((Kj (hi-lo).toNat).map λ(k:Kb)=>V.int (lo+(k:Ki)))) (t':=tk) (λb o e=>J7 _ (hk b o e)) d #[#[by simpa using n,NoD.new _ _ _],acc.toList,G,?_],rfl,b7 (.inl f),j.lay f,.tup (.inl (.inl aE)) (nF _)]
    show#[_,Kr _ rfl,rfl,0,by simp]
   ·cases e
  ·show jC J s Y H A S _ vs us w S' I j l m e
 ·show jC J s Y H A S _ vs us w S' I j l m e
def vp (L:X.A.handled=td)(hu:X.A.units+12<cLine):LCall X (.builtin "min") xC:=by
 intro J s Y H A S xs vs us w S' I C V rv e;cases V with
 |nil=>cases e
 |cons r t=>
  cases t with
  |cons _ _=>cases r<;>cases e
  |nil=>
   cases rv with
   |cons Z q=>
    cases q;cases r with
    |ref D=>
     simp only[xC]at e;split at e
     ·rename_i ws hw;split at e
      ·rename_i ks hk;split at e
       ·rename_i hc;rw[J6]at e;obtain⟨w',h,k⟩:=e;cases k;obtain⟨vs',G,n⟩:=bg C hw D;obtain⟨its,f,p,hz⟩:=I.list G;obtain rfl:_=Lc _:=Z;have m:T.ws ks=ws:=W.ts_w hk;have u:IsTs s.heap ks its:=gf I ks (m▸n) f;have hl:↥its=↥ks:=u.length.symm;have M:↥ws=↥ks:=by rw[↥n,L2.Vals.length f,hl]
        have N:0<↥ks:=by
         have:=(Ko.mp h).1;omega
        show xy (items:=its.toArray) (bt:=vm ks) L p.isList (by simpa [hl]using N) (λi j vi vj B Q E d hi x O=>?_) λv h' tk y d=>?_
        ·have a:i<↥ks:=by
          have:=(MS.mp hi).1
          simpa [hl]using this
         have c:j<↥ks:=by
          have:=(MS.mp x).1
          simpa [hl]using this
         have g:=u.kept (h':=B.heap) λb o _ e=>d b o e
         have h:vi=its[i]'∅:=by
          have:=(MS.mp hi).2
          simpa using this.symm
         have k:vj=its[j]'∅:=by
          have:=(MS.mp x).2
          simpa using this.symm
         subst h k;have b1:=dL (ks:=ks) i a;have b2:=dL (ks:=ks) j c;show Gw d4 _ _ _ _ X.A.in1 B _ ∅ ∅ (g.get i a ∅) (g.get j c ∅) (by rw[aX];unfold d4;omega) (rG hc.2 a c) X.prog X.w _ _ O
        ·have l:its[g6 ks]?=gV v:=by
          have:⇑its.toArray=↥ks:=by simpa using hl
          rw[this]at y
          simpa [g6]using y
         obtain⟨v',P,R⟩:=n.get h;obtain⟨u',z,U⟩:=L2.Vals.get f P;rw[l]at z;cases z;show#[v',H,A,I.kept d,U,.refl,C,R]
       ·cases e
      ·cases e
     ·cases e
    |_=>cases e
def mw:∀{ws:J2 W}{bs:J2 KR},g9 ws=gV bs->ws=bs.map W.bl
 |[],bs,h=>by cases h;rfl
 |.bl b::ws,bs,h=>by
  simp only[g9,J6]at h;obtain⟨r,a,c⟩:=h;subst c;rw[mw a];rfl
 |.non::_,_,h|.int _::_,_,h|.str _::_,_,h|.tup _::_,_,h|.ref _::_,_,h=>by cases h
def rK {bs:J2 KR}{vs:J2 V}{us:J2 J5}(r:RelL X.K A H (bs.map W.bl) vs)(a:Vals vs us):us=bs.map Nz:=by
 induction bs generalizing vs us with
 |nil=>cases r;cases a;rfl
 |cons b bs ih=>
  cases r with
  |cons c d=>
   cases a with
   |cons e f=>
    cases c;obtain rfl:_=Nz b:=e;rw[ih d f];rfl
def vt (bs:J2 KR):(Kj ↥bs).all (λi=>bs.getD i false)=bs.all id:=by
 induction bs with
 |nil=>rfl
 |cons b bs ih=>simp[Pj,SI,OX]at ih ⊢;rw[ih]
def D9 {id:LV}{fb:J2 KR->KR}{g:J2 W->aa->J9 (W×aa)}(O:∀xs S,g xs S=match xs with|[.ref i]=>(match dU S i with|some ws=>(g9 ws).map λbs=>(.bl (fb bs),S)|none=>td)|_=>td)
  (f:∀{s:J8}{x:J5}{Q:J5->J8->Prop}{E:J5->J8->Prop}{bs:J2 KR},wpAny (model X.prog X.w) X.A.in1 (pyIter x) (λit a=>∃I M wr P n,it=.ref I/\TW X.prog X.w X.A.in1 I M wr ↥bs P n/\n 0 a.heap/\TruthOf X.prog X.w X.A.in1 P (λi=>bs.getD i false)/\
   ∀h' tk,(∀b o,b∉wr->a.heap.get? b=gV o->h'.get? b=gV o)->Q (.bool (fb bs)) {a with heap:=h',toks:=tk}) E s->wpAny (model X.prog X.w) X.A (call (.builtin id) [x]) Q E s)
  (R:X.A.handled=td):LCall X (.builtin id) g:=by
 intro J s Y H A S xs vs us w S' I B T V e;rw[O]at e;cases T with
 |nil=>cases e
 |cons r t=>
  cases t with
  |cons _ _=>cases r<;>cases e
  |nil=>
   cases V with
   |cons U m=>
    cases m;cases r with
    |@ref ri u G=>
     simp only at e;split at e
     ·rename_i ws hw;rw[J6]at e;obtain⟨bs,C,D⟩:=e;cases D;obtain⟨vs',N,y⟩:=bg B hw G;obtain⟨its,l,p,hz⟩:=I.list N;obtain rfl:_=Lc _:=U;rw[mw C]at y;have c:=rK y l;show f (bs:=bs) ?_;show M5 p.isList ?_;have j:u<⇑s.heap.objs:=by obtain⟨_,k,_⟩:=p.isList;show Kx k
      have W:=Tr (prog:=X.prog) (w:=X.w) (A:=X.A.in1) R ⇑s.heap.objs u (KF j) its.toArray;have hsz:⇑its.toArray=↥bs:=by rw[Ks,c,J4]
      rw[hsz]at W;show#[_,_,_,_,_,rfl,W,#[#[_,Kr _ rfl,rfl,rfl],?_],λi v Z Q E hi h=>?_,λh' tk hk=>?_]
      ·obtain⟨o,k,hc⟩:=p.isList;show#[o,J7 _ k,hc]
      ·have d:bs[i]?.map Nz=gV v:=by rw[<- Kg,<- c];simpa using hi
       cases q:bs[i]? with
       |none=>rw[q]at d;cases d
       |some b=>
        rw[q]at d;cases d;have L:bs.getD i false=b:=by simp[q]
        have h:Q (bs.getD i false) Z:=h;rw[L]at h;show L3 h
      ·show#[.bl (fb bs),H,A,I.kept (λb o e=>hk b o (λz=>?_) (J7 _ e)),rfl,.refl,B,.bl]
       have d:=Kx e;rw[KA.mp z]at d;show LZ _ d
     ·cases e
    |_=>cases e
def vw (i:X.A.handled=td):LCall X (.builtin "all") D8:=
 D9 (fb:=λbs=>bs.all id) (λxs S=>rfl) (λ{s x Q E bs} h=>call_all_walk (Mj h (λit g #[I,fp,wr,P,St',a,b,c,d,f]=>#[I,fp,wr,_,P,St',_,a,b,c,d,λh' tk hk=>by rw[vt];show f h' tk hk]) λ_ _ e=>e)) i
end
noncomputable abbrev FA:=Fm->aa->J9 (J2 W×aa)
noncomputable abbrev FT:=Fm->aa->J9 (KR×aa)
inductive Out where
 |nx (Z:Fm)|rt (w:W)|bk (Z:Fm)|ct (Z:Fm)
noncomputable abbrev FS:=Fm->aa->J9 (Out×aa)
section
variable (X:Cx)
inductive tE (f:FE)(Y:L2.St)(H:Hp)(Q:VK):Prop
 |mk (A:J2 Kf) (Z:Fm) (S:aa) (w:W) (S':aa) (er:EnvRel X.K A H Z Y) (so:StoreOk X.w X.K A H S) (e:f Z S=gV (w,S')) (q:∀v H',EndV X.w X.K A H S' w v H'->Q v H'):tE f Y H Q
abbrev EndB (A:J2 Kf)(H:Hp)(S':aa)(k:KR):KR->Hp->Prop:=λb c=>b=k/\∃a,Ext X.K A H a c/\StoreOk X.w X.K a c S'
inductive tT (f:FT)(Y:L2.St)(H:Hp)(Q:KR->Hp->Prop):Prop
 |mk (A:J2 Kf) (Z:Fm) (S:aa) (k:KR) (S':aa) (er:EnvRel X.K A H Z Y) (so:StoreOk X.w X.K A H S) (e:f Z S=gV (k,S')) (q:∀b H',EndB X A H S' k b H'->Q b H'):tT f Y H Q
inductive EndA (A:J2 Kf)(H:Hp)(S':aa)(ws:J2 W)(vs:J2 V)(H':Hp):Prop
 |mk (A':J2 Kf) (e:Ext X.K A H A' H') (so:StoreOk X.w X.K A' H' S') (r:RelL X.K A' H' ws vs):EndA A H S' ws vs H'
inductive tA (f:FA)(Y:L2.St)(H:Hp)(Q:J2 V->Hp->Prop):Prop
 |mk (A:J2 Kf) (Z:Fm) (S:aa) (ws:J2 W) (S':aa) (er:EnvRel X.K A H Z Y) (so:StoreOk X.w X.K A H S) (e:f Z S=gV (ws,S')) (q:∀vs H',EndA X A H S' ws vs H'->Q vs H'):tA f Y H Q
inductive EndF (A:J2 Kf)(H:Hp)(o:Out)(S':aa)(c:Fm->Out)(Y':L2.St)(H':Hp):Prop
 |mk (Z':Fm) (A':J2 Kf) (eo:o=c Z') (e:Ext X.K A H A' H') (so:StoreOk X.w X.K A' H' S') (er:EnvRel X.K A' H' Z' Y'):EndF A H o S' c Y' H'
inductive EndR (A:J2 Kf)(H:Hp)(o:Out)(S':aa)(v:V)(H':Hp):Prop
 |mk (w:W) (A':J2 Kf) (eo:o=.rt w) (e:Ext X.K A H A' H') (so:StoreOk X.w X.K A' H' S') (r:Rel X.K A' H' w v):EndR A H o S' v H'
abbrev EndS (A:J2 Kf)(H:Hp)(o:Out)(S':aa):Ends where
 nx:=EndF X A H o S' .nx
 rt:=EndR X A H o S'
 bk:=EndF X A H o S' .bk
 ct:=EndF X A H o S' .ct
structure Imp (E D:Ends):Prop where
 nx:∀Y H,E.nx Y H->D.nx Y H
 rt:∀v H,E.rt v H->D.rt v H
 bk:∀Y H,E.bk Y H->D.bk Y H
 ct:∀Y H,E.ct Y H->D.ct Y H
inductive tS (f:FS)(D:Ends)(Y:L2.St)(H:Hp):Prop
 |mk (A:J2 Kf) (Z:Fm) (S:aa) (o:Out) (S':aa) (er:EnvRel X.K A H Z Y) (so:StoreOk X.w X.K A H S) (e:f Z S=gV (o,S')) (d:Imp (EndS X A H o S') D):tS f D Y H
noncomputable abbrev GE (e:KO)(f:FE):Prop:=PE X e (tE X f)
noncomputable abbrev GT (e:KO)(f:FT):Prop:=PT X e (tT X f)
noncomputable abbrev GW (e:KO)(f:FT):Prop:=PW X e (tT X f)
noncomputable abbrev GA (es:J2 KO)(f:FA):Prop:=PA X es (tA X f)
noncomputable abbrev GS (st:Nb)(f:FS):Prop:=PS X st (tS X f)
noncomputable abbrev GSs (sts:J2 Nb)(f:FS):Prop:=PSs X sts (tS X f)
end
def Imp.trans {E D F:Ends}(a:Imp E D)(b:Imp D F):Imp E F:=#[λ_ _ h=>b.nx _ _ (a.nx _ _ h),λ_ _ h=>b.rt _ _ (a.rt _ _ h),λ_ _ h=>b.bk _ _ (a.bk _ _ h),λ_ _ h=>b.ct _ _ (a.ct _ _ h)]
section
variable{X:Cx}
def GE.of {e:KO}{t:TE}{f:FE}(h:PE X e t)(b:∀(Y:L2.St) (H:Hp) (A:J2 Kf) (Z:Fm) (S:aa) (w:W) (S':aa),EnvRel X.K A H Z Y->StoreOk X.w X.K A H S->f Z S=gV (w,S')->∀Q:VK,(∀v a,EndV X.w X.K A H S' w v a->Q v a)->t Y H Q):GE X e f:=
 λJ s Y H Q I #[A,Z,S,w,S',er,so,e1,hq]=>h J s Y H Q I (b Y H A Z S w S' er so e1 Q hq)
def GT.of {e:KO}{t:TT}{f:FT}(h:PT X e t)(c:∀(Y:L2.St) (H:Hp) (A:J2 Kf) (Z:Fm) (S:aa) (k:KR) (S':aa),EnvRel X.K A H Z Y->StoreOk X.w X.K A H S->f Z S=gV (k,S')->∀Q:KR->Hp->Prop,(∀b a,EndB X A H S' k b a->Q b a)->t Y H Q):GT X e f:=
 λJ s Y H Q I #[A,Z,S,w,S',er,so,e1,hq]=>h J s Y H Q I (c Y H A Z S w S' er so e1 Q hq)
def GW.of {e:KO}{t:TT}{f:FT}(h:PW X e t)(c:∀(Y:L2.St) (H:Hp) (A:J2 Kf) (Z:Fm) (S:aa) (k:KR) (S':aa),EnvRel X.K A H Z Y->StoreOk X.w X.K A H S->f Z S=gV (k,S')->∀Q:KR->Hp->Prop,(∀b a,EndB X A H S' k b a->Q b a)->t Y H Q):GW X e f:=
 λd J s Y H Q I #[A,Z,S,w,S',er,so,e1,hq]=>h d J s Y H Q I (c Y H A Z S w S' er so e1 Q hq)
def GA.of {es:J2 KO}{t:TA}{f:FA}(h:PA X es t)(b:∀(Y:L2.St) (H:Hp) (A:J2 Kf) (Z:Fm) (S:aa) (ws:J2 W) (S':aa),EnvRel X.K A H Z Y->StoreOk X.w X.K A H S->f Z S=gV (ws,S')->∀Q:J2 V->Hp->Prop,(∀vs a,EndA X A H S' ws vs a->Q vs a)->t Y H Q):GA X es f:=
 λpos J s Y H Q I #[A,Z,S,w,S',er,so,e1,hq]=>h pos J s Y H Q I (b Y H A Z S w S' er so e1 Q hq)
def GS.of {st:Nb}{t:TS}{f:FS}(h:PS X st t)(a:∀(Y:L2.St) (H:Hp) (A:J2 Kf) (Z:Fm) (S:aa) (o:Out) (S':aa),EnvRel X.K A H Z Y->StoreOk X.w X.K A H S->f Z S=gV (o,S')->∀D:Ends,Imp (EndS X A H o S') D->t D Y H):GS X st f:=
 λJ s Y H D I #[A,Z,S,o,S',er,so,e1,hq]=>h J s Y H D I (a Y H A Z S o S' er so e1 D hq)
def GSs.of {st:J2 Nb}{t:TS}{f:FS}(h:PSs X st t)(a:∀(Y:L2.St) (H:Hp) (A:J2 Kf) (Z:Fm) (S:aa) (o:Out) (S':aa),EnvRel X.K A H Z Y->StoreOk X.w X.K A H S->f Z S=gV (o,S')->∀D:Ends,Imp (EndS X A H o S') D->t D Y H):GSs X st f:=
 λJ s Y H D I #[A,Z,S,o,S',er,so,e1,hq]=>h J s Y H D I (a Y H A Z S o S' er so e1 D hq)
def EndV.after {A a:J2 Kf}{H c:Hp}{S':aa}{w:W}{v:V}{b:Hp}(e:Ext X.K A H a c)(h:EndV X.w X.K a c S' w v b):EndV X.w X.K A H S' w v b:=by
 obtain⟨d,x,y,z⟩:=h;show#[d,e.trans x,y,z]
def EndB.after {A a:J2 Kf}{H d:Hp}{S':aa}{k b:KR}{c:Hp}(e:Ext X.K A H a d)(h:EndB X a d S' k b c):EndB X A H S' k b c:=by
 obtain⟨g,f,x,y⟩:=h;show#[g,f,e.trans x,y]
def EndS.after {A g:J2 Kf}{H h:Hp}{S':aa}{o:Out}(e:Ext X.K A H g h):Imp (EndS X g h o S') (EndS X A H o S'):=
 #[λ_ _ #[f,A',a,b,c,d]=>#[f,A',a,e.trans b,c,d],λ_ _ #[f,A',a,b,c,d]=>#[f,A',a,e.trans b,c,d],λ_ _ #[f,A',a,b,c,d]=>#[f,A',a,e.trans b,c,d],λ_ _ #[f,A',a,b,c,d]=>#[f,A',a,e.trans b,c,d]]
abbrev fC (w:W):FE:=λ_ S=>gV (w,S)
abbrev fV (i:Kb):FE:=λZ S=>match Z[i]? with
 |some (gV w)=>gV (w,S)
 |_=>td
def pM {e:KO}{v:V}{w:W}(h:PE X e (tC v))(r:∀A H,Rel X.K A H w v):GE X e (fC w):=
 GE.of h λY H A Z S d S' c b e Q a=>by cases e;show a _ _ (.here b (r A H))
def IW {i:Kb}{e:KO}(h:PE X e (Dr i)):GE X e (fV i):=GE.of h λY H A Z S w S' a f e Q d=>by
 unfold fV at e;split at e
 ·rename_i g hw;cases e;obtain⟨v,b,c⟩:=a.2 i _ hw;show#[v,b,d _ _ (.here f c)]
 ·cases e
abbrev AY (g:W->W->aa->J9 (W×aa))(b fb:FE):FE:=λZ S=>match b Z S with
 |some (x,S1)=>match fb Z S1 with
  |some (y,a)=>g x y a
  |none=>td
 |none=>td
def two {b fb:FE}{g:W->W->aa->J9 (W×aa)}{Z:Fm}{S:aa}{r:W×aa}(e:AY g b fb Z S=gV r):∃x S1 y a,b Z S=gV (x,S1)/\fb Z S1=gV (y,a)/\g x y a=gV r:=by
 unfold AY at e;split at e
 ·rename_i x S1 c;split at e
  ·rename_i y a d;show#[x,S1,y,a,c,d,e]
  ·cases e
 ·cases e
def fL {i fb:FE}{Z:Fm}{S S1 e:aa}{x y:W}{Y:L2.St}{H:Hp}{A:J2 Kf}{R:V->V->Hp->Prop}(g:EnvRel X.K A H Z Y)(m:StoreOk X.w X.K A H S)(k:i Z S=gV (x,S1))(l:fb Z S1=gV (y,e))
  (h:∀a b c d,Ext X.K A H d c->StoreOk X.w X.K d c e->Rel X.K d c x a->Rel X.K d c y b->R a b c):tE X i Y H λa f=>tE X fb Y f λb c=>R a b c:=by
 show#[A,Z,S,x,S1,g,m,k,λa f #[j,e1,o1,r1]=>?_]
 show#[j,Z,S1,y,e,g.mono e1,o1,l,λb c #[d,e2,o2,r2]=>?_]
 show h a b c d (e1.trans e2) o2 (r1.mono e2) r2
inductive rOp (X:Cx)(g:W->W->aa->J9 (W×aa))(a b:V)(H:Hp)(Q:VK):Prop
 |mk (A:J2 Kf) (S:aa) (x y w:W) (S':aa) (so:StoreOk X.w X.K A H S) (rx:Rel X.K A H x a) (ry:Rel X.K A H y b) (e:g x y S=gV (w,S')) (q:∀v H',EndV X.w X.K A H S' w v H'->Q v H'):rOp X g a b H Q
inductive rCall (X:Cx)(g:J2 W->aa->J9 (W×aa))(vs:J2 V)(H:Hp)(Q:VK):Prop
 |mk (A:J2 Kf) (S:aa) (ws:J2 W) (w:W) (S':aa) (so:StoreOk X.w X.K A H S) (rl:RelL X.K A H ws vs) (e:g ws S=gV (w,S')) (q:∀v H',EndV X.w X.K A H S' w v H'->Q v H'):rCall X g vs H Q
def LOp.opr {f:J5->J5->SO J5}{g:W->W->aa->J9 (W×aa)}(h:LOp X f g):OpR X f (rOp X g):=by
 intro J s Y H a b u v Q I i j ⟨A,S,x,y,w,S',m,k,l,e,d⟩;show bf (h J s Y H A S x y a b u v w S' I m k i l j e) λo n #[c,H',A',I',r',e1,o1,z1]=>#[c,H',I',r',d c H' #[A',e1,o1,z1]]
def CK {a b:KO}{op:QS}{pos:MN}{c fb:FE}{g:W->W->aa->J9 (W×aa)}(p:LOp X (binaryOp op) g)(n:GE X a c)(o:GE X b fb):GE X (.BinOp a op b pos) (AY g c fb):=
 GE.of (F6 p.opr n o) λY H A Z S w S' j u e Q q=>by
  obtain⟨x,S1,y,h,k,l,m⟩:=two e;show fL j u k l λa b B d i r s t=>#[d,h,x,y,w,S',r,s,t,m,λv f z=>q v f (z.after i)]
abbrev xG (a:FE):FE:=λZ S=>match a Z S with
 |some (.int i,S1)=>gV (.int (-i),S1)
 |_=>td
def xH {a:KO}{pos:MN}{b:FE}(g:GE X a b):GE X (.UnaryOp .USub a pos) (xG b):=
 GE.of (F7 DR g) λY H A Z S w S' d j e Q h=>by
  unfold xG at e;split at e
  ·rename_i i S1 f;cases e;show#[A,Z,S,_,_,d,j,f,λv k #[c,e1,o1,r1]=>?_]
   cases r1;show#[_,rfl,h _ _ #[c,e1,o1,.int]]
  ·cases e
abbrev AZ (o:COp)(a fb:FE):FE:=AY (bh o) a fb
def Ea {a b:KO}{o:COp}{pos:MN}{c fb:FE}(r:X.A.units+fG<cLine)(m:GE X a c)(n:GE X b fb)(p:behindInMarks o.py b=false):GE X (.Compare a [o.py] [b] pos) (AZ o c fb):=
 GE.of (An (po r o).opr m n p) λY H A Z S w S' i B e Q q=>by
  obtain⟨x,S1,y,g,j,k,l⟩:=two e;show fL i B j k λa b C d h s t u=>#[d,g,x,y,w,S',s,t,u,l,λv f z=>q v f (z.after h)]
abbrev pN (f:FE):FT:=λZ S=>match f Z S with
 |some (.bl k,S')=>gV (k,S')
 |_=>td
def Eb {a b:KO}{o:COp}{pos:MN}{c fb:FE}(u:X.A.units+fG<cLine)(q:GE X a c)(r:GE X b fb)(s:behindInMarks o.py b=false):GT X (.Compare a [o.py] [b] pos) (pN (AZ o c fb)):=
 GT.of (Ao (po u o).opr q r s) λY H A Z S k S' j C e Q t=>by
  unfold pN at e;split at e
  ·rename_i G g l;cases e;obtain⟨x,S1,y,h,m,n,p⟩:=two l;show fL j C m n λa b E f i w z B=>#[f,h,x,y,_,_,w,z,B,p,λv D #[d,z1,z2,z3]=>?_]
   cases z3;show#[k,rfl,t _ _ #[rfl,d,i.trans z1,z2]]
  ·cases e
abbrev fM (o e:COp)(c fb d:FE):FE:=λZ S=>match c Z S with
 |some (x,S1)=>match fb Z S1 with
  |some (y,a)=>match rB o x y a with
   |some true=>match d Z a with
    |some (z,b)=>cD e y z b
    |none=>td
   |some false=>gV (.bl false,a)
   |none=>td
  |none=>td
 |none=>td
def kJ {o r:COp}{m fb n:FE}{Y:L2.St}{H:Hp}{A:J2 Kf}{Z:Fm}{S:aa}{w:W}{S':aa}(l:EnvRel X.K A H Z Y)(G:StoreOk X.w X.K A H S)(e:fM o r m fb n Z S=gV (w,S'))(Q:VK)(p:∀v d,EndV X.w X.K A H S' w v d->Q v d) :
  qZ (rOp X (cD o))
   (rOp X (cD r)) (tE X m) (tE X fb) (tE X n) Y H Q:=by
 unfold fM at e;split at e
 ·rename_i x S1 C;split at e
  ·rename_i y g D;show fL l G C D λa b I j h s t i=>?_
   split at e
   ·rename_i hc;split at e
    ·rename_i z k E;show#[j,g,x,y,.bl true,g,s,t,i,by simp[cD,hc],λv B #[f,z1,z2,z3]=>?_]
     cases z3;show#[true,rfl,?_];rw[KC rfl];show#[f,Z,g,z,k,l.mono (h.trans z1),z2,E,λc J #[u,y1,y2,y3]=>?_]
     show#[u,k,y,z,w,S',y2,(i.mono z1).mono y1,y3,e,λv d q=>p v d (q.after ((h.trans z1).trans y1))]
    ·cases e
   ·rename_i hc;cases e;show#[j,S',x,y,.bl false,S',s,t,i,by simp[cD,hc],λv B #[f,z1,z2,z3]=>?_]
    cases z3;show#[false,rfl,?_];rw[KS KJ];show p _ _ #[f,h.trans z1,z2,.bl]
   ·cases e
  ·cases e
 ·cases e
def xI {a b c:KO}{o d:COp}{pos:MN}{f fb g:FE}(h:X.A.units+fG<cLine)(j:GE X a f)(k:GE X b fb)(hc:GE X c g)(l:lastMarks [o.py,d.py] [b,c]=false):GE X (.Compare a [o.py,d.py] [b,c] pos) (fM o d f fb g):=
 GE.of (wz (iC h o).opr (iC h d).opr j k hc l) λY H A Z S w S' i n e Q m=>kJ i n e Q m
def xJ {a b c:KO}{o d:COp}{pos:MN}{g fb h:FE}(i:X.A.units+fG<cLine)(p:GE X a g)(q:GE X b fb)(hc:GE X c h)(r:lastMarks [o.py,d.py] [b,c]=false):GT X (.Compare a [o.py,d.py] [b,c] pos) (pN (fM o d g fb h)):=
 GT.of (wD (iC i o).opr (iC i d).opr p q hc r) λY H A Z S k S' m t e Q s=>by
  unfold pN at e;split at e
  ·rename_i u l n;cases e;show kJ m t n (λx f=>∃k,x=.bl k/\Q k f) λv f #[j,z1,z2,z3]=>?_
   cases z3;show#[_,rfl,s _ _ #[rfl,j,z1,z2]]
  ·cases e
abbrev gI (f:FE):FT:=λZ S=>match f Z S with
 |some (w,S')=>(dJ S' w).map λk=>(k,S')
 |none=>td
def bX {e:KO}{f:FE}(h:GE X e f)(l:∀a,isTrue e X.env a=(do let v <- a;standAt e.pos;holding [v] (truthy v))):GT X e (gI f):=by
 intro J s Y H Q I ⟨A,Z,S,k,S',i,n,b,m⟩;unfold gI at b;split at b
 ·rename_i w S1 j;rw[J6]at b;obtain⟨o,g,d⟩:=b;cases d;show isTrue_plain (bf (h J s Y H (EndV X.w X.K A H _ w) I #[A,Z,S,w,_,i,n,j,λ_ _ z=>z]) λv q #[x,H1,I1,r1,A1,b,o1,z1]=>?_) (l _)
  show IU I1 o1 z1 r1 g λp c=>#[H1,c,m _ _ #[rfl,A1,b,o1]]
 ·cases b
abbrev xK (f g:FT):FT:=λZ S=>match f Z S with
 |some (true,S1)=>g Z S1
 |some (false,S1)=>gV (false,S1)
 |none=>td
abbrev Gx (f g:FT):FT:=λZ S=>match f Z S with
 |some (true,S1)=>gV (true,S1)
 |some (false,S1)=>g Z S1
 |none=>td
abbrev A6 (f:FT):FT:=λZ S=>match f Z S with
 |some (k,S1)=>gV (!k,S1)
 |none=>td
def xL {f g:FT}{Y:L2.St}{H:Hp}{A:J2 Kf}{Z:Fm}{S:aa}{k:KR}{S':aa}(c:EnvRel X.K A H Z Y)(j:StoreOk X.w X.K A H S)(e:xK f g Z S=gV (k,S'))(Q:KR->Hp->Prop)(i:∀b a,EndB X A H S' k b a->Q b a) :
  FQ (tT X f) (tT X g) Y H Q:=by
 unfold xK at e;split at e
 ·rename_i S1 d;show#[A,Z,S,true,S1,c,j,d,λb l #[h,A1,z1,z2]=>?_]
  subst h;rw[KC rfl];show#[A1,Z,S1,k,S',c.mono z1,z2,e,λb a q=>i b a (q.after z1)]
 ·rename_i S1 d;cases e;show#[A,Z,S,false,_,c,j,d,λb l #[h,A1,z1,z2]=>?_]
  subst h;rw[KS KJ];show i _ _ #[rfl,A1,z1,z2]
 ·cases e
def A7 {f g:FT}{Y:L2.St}{H:Hp}{A:J2 Kf}{Z:Fm}{S:aa}{k:KR}{S':aa}(c:EnvRel X.K A H Z Y)(j:StoreOk X.w X.K A H S)(e:Gx f g Z S=gV (k,S'))(Q:KR->Hp->Prop)(i:∀b a,EndB X A H S' k b a->Q b a) :
  JB (tT X f) (tT X g) Y H Q:=by
 unfold Gx at e;split at e
 ·rename_i S1 d;cases e;show#[A,Z,S,true,_,c,j,d,λb l #[h,A1,z1,z2]=>?_]
  subst h;rw[KC rfl];show i _ _ #[rfl,A1,z1,z2]
 ·rename_i S1 d;show#[A,Z,S,false,S1,c,j,d,λb l #[h,A1,z1,z2]=>?_]
  subst h;rw[KS KJ];show#[A1,Z,S1,k,S',c.mono z1,z2,e,λb a q=>i b a (q.after z1)]
 ·cases e
def Ba {a:KO}{pos:MN}{f:FT}(h:GT X a f):GW X (.BoolOp .And [a] pos) f:=Ad h
def Ec {a:KO}{pos:MN}{f:FT}(h:GT X a f):GW X (.BoolOp .Or [a] pos) f:=Ds h
def Ed {a b:KO}{r:J2 KO}{pos:MN}{f g:FT}(h:GT X a f)(d:GW X (.BoolOp .And (b::r) pos) g):GW X (.BoolOp .And (a::b::r) pos) (xK f g):=
 GW.of (Dt h d) λY H A Z S k S' c j e Q i=>xL c j e Q i
def Gy {a b:KO}{r:J2 KO}{pos:MN}{f g:FT}(h:GT X a f)(d:GW X (.BoolOp .Or (b::r) pos) g):GW X (.BoolOp .Or (a::b::r) pos) (Gx f g):=
 GW.of (FR h d) λY H A Z S k S' c j e Q i=>A7 c j e Q i
def Ee {a:KO}{pos:MN}{f:FT}(h:GT X a f):GT X (.UnaryOp .Not a pos) (A6 f):=
 GT.of (Du h) λY H A Z S k S' c j e Q g=>by
  unfold A6 at e;split at e
  ·rename_i i S1 d;cases e;show#[A,Z,S,i,_,c,j,d,λb m #[l,A1,z1,z2]=>?_]
   subst l;show g _ _ #[rfl,A1,z1,z2]
  ·cases e
abbrev tz (f g:FE):FE:=λZ S=>match f Z S with
 |some (.bl true,S1)=>g Z S1
 |some (.bl false,S1)=>gV (.bl false,S1)
 |_=>td
abbrev Bb (f g:FE):FE:=λZ S=>match f Z S with
 |some (.bl true,S1)=>gV (.bl true,S1)
 |some (.bl false,S1)=>g Z S1
 |_=>td
abbrev tB (f:FE):FE:=λZ S=>match f Z S with
 |some (.bl k,S1)=>gV (.bl (!k),S1)
 |_=>td
def Ef {a:KO}{op:Tt}{pos:MN}{f:FE}(h:GE X a f):GE X (.BoolOp op [a] pos) f:=Dv h
def Eg {a b:KO}{r:J2 KO}{pos:MN}{f g:FE}(h:GE X a f)(n:GE X (.BoolOp .And (b::r) pos) g):GE X (.BoolOp .And (a::b::r) pos) (tz f g):=
 GE.of (Dw h n) λY H A Z S w S' d k e Q j=>by
  unfold tz at e;split at e
  ·rename_i S1 i;show#[A,Z,S,_,S1,d,k,i,λv m #[c,z1,z2,z3]=>?_]
   cases z3;show#[true,rfl,?_];rw[KC rfl];show#[c,Z,S1,w,S',d.mono z1,z2,e,λb l q=>j b l (q.after z1)]
  ·rename_i S1 i;cases e;show#[A,Z,S,_,_,d,k,i,λv m #[c,z1,z2,z3]=>?_]
   cases z3;show#[false,rfl,?_];rw[KS KJ];show j _ _ #[c,z1,z2,.bl]
  ·cases e
def Gz {a b:KO}{r:J2 KO}{pos:MN}{f g:FE}(h:GE X a f)(n:GE X (.BoolOp .Or (b::r) pos) g):GE X (.BoolOp .Or (a::b::r) pos) (Bb f g):=
 GE.of (FW h n) λY H A Z S w S' d k e Q j=>by
  unfold Bb at e;split at e
  ·rename_i S1 i;cases e;show#[A,Z,S,_,_,d,k,i,λv m #[c,z1,z2,z3]=>?_]
   cases z3;show#[true,rfl,?_];rw[KC rfl];show j _ _ #[c,z1,z2,.bl]
  ·rename_i S1 i;show#[A,Z,S,_,S1,d,k,i,λv m #[c,z1,z2,z3]=>?_]
   cases z3;show#[false,rfl,?_];rw[KS KJ];show#[c,Z,S1,w,S',d.mono z1,z2,e,λb l q=>j b l (q.after z1)]
  ·cases e
def Eh {a:KO}{pos:MN}{f:FE}(h:GE X a f):GE X (.UnaryOp .Not a pos) (tB f):=
 GE.of (Dx h) λY H A Z S w S' d j e Q i=>by
  unfold tB at e;split at e
  ·rename_i l S1 g;cases e;show#[A,Z,S,_,_,d,j,g,λb k #[c,z1,z2,z3]=>?_]
   cases z3;show#[_,rfl,i _ _ #[c,z1,z2,.bl]]
  ·cases e
abbrev fN:FA:=λ_ S=>gV ([],S)
abbrev cu (f:FE)(g:FA):FA:=λZ S=>match f Z S with
 |some (w,S1)=>match g Z S1 with
  |some (ws,a)=>gV (w::ws,a)
  |none=>td
 |none=>td
def Ei:GA X [] fN:=GA.of wF λY H A Z S ws S' c b e Q a=>by cases e;show a _ _ #[A,.refl,b,.nil]
def Bc {e:KO}{es:J2 KO}{f:FE}{g:FA}(h:GE X e f)(a:GA X es g)(l:starEach (e::es) X.env=(false,eval e X.env)::starEach es X.env):GA X (e::es) (cu f g):=
 GA.of (nk h a l) λY H A Z S ws S' c m e Q k=>by
  unfold cu at e;split at e
  ·rename_i w S1 j;split at e
   ·rename_i b p a;cases e;show#[A,Z,S,w,S1,c,m,j,λv n #[d,z1,z2,z3]=>?_]
    show#[d,Z,S1,b,_,c.mono z1,z2,a,λvs o #[i,y1,y2,y3]=>?_]
    show k _ _ #[i,z1.trans y1,y2,.cons (z3.mono y1) y3]
   ·cases e
  ·cases e
abbrev xM (f:FA):FE:=λZ S=>match f Z S with
 |some (ws,S1)=>rs S1 ws
 |none=>td
abbrev xN (f:FA):FE:=λZ S=>match f Z S with
 |some (ws,S1)=>lN S1 ws
 |none=>td
def xO {es:J2 KO}{k:Kb}{pos:MN}{f:FA}(h:GA X es f):GE X (.Tuple es k pos) (xM f):=
 GE.of (DU h) λY H A Z S w S' a g e Q d=>by
  unfold xM at e;split at e
  ·rename_i ws S1 b;obtain⟨hl,rfl,rfl⟩:=sO e;show#[A,Z,S,ws,_,a,g,b,λvs j #[i,z1,z2,z3]=>#[by rw[<- ↥z3];show hl,λp c=>?_]]
   show d _ _ (EndV.after z1 (.tup z2 z3 c))
  ·cases e
def xP {es:J2 KO}{pos:MN}{f:FA}(h:GA X es f):GE X (.List es pos) (xN f):=
 GE.of (DV h) λY H A Z S w S' a g e Q d=>by
  unfold xN at e;split at e
  ·rename_i ws S1 b;obtain⟨hl,rfl,rfl⟩:=jS e;show#[A,Z,S,ws,_,a,g,b,λvs j #[i,z1,z2,z3]=>#[by rw[<- ↥z3];show hl,λp c=>?_]]
   show d _ _ (EndV.after z1 (.lst z2 z3 c))
  ·cases e
abbrev ft (g:J2 W->aa->J9 (W×aa))(f:FA):FE:=λZ S=>match f Z S with
 |some (ws,S1)=>g ws S1
 |none=>td
def LCall.callr {v:J5}{g:J2 W->aa->J9 (W×aa)}(h:LCall X v g):CallR X v (rCall X g):=by
 intro J s Y H vs us Q I d ⟨A,S,ws,w,S',f,c,e,b⟩;show bf (h J s Y H A S ws vs us w S' I f c d e) λj i #[a,H',A',I',r',e1,o1,z1]=>#[a,H',I',r',b a H' #[A',e1,o1,z1]]
def my {g:J2 W->aa->J9 (W×aa)}{f:FA}{Y:L2.St}{H:Hp}{A:J2 Kf}{Z:Fm}{S:aa}{w:W}{S':aa}(d:EnvRel X.K A H Z Y)(j:StoreOk X.w X.K A H S)(e:ft g f Z S=gV (w,S'))(Q:VK)(i:∀v a,EndV X.w X.K A H S' w v a->Q v a) :
  tA X f Y H λvs b=>rCall X g vs b Q:=by
 unfold ft at e;split at e
 ·rename_i ws S1 h;show#[A,Z,S,ws,S1,d,j,h,λvs b #[c,z1,z2,z3]=>#[c,S1,ws,w,S',z2,z3,e,λv a q=>i v a (q.after z1)]]
 ·cases e
def tD {id:LV}{x:KG}{e:KO}{es:J2 KO}{p pos:MN}{f:FA}{g:J2 W->aa->J9 (W×aa)}(hc:LCall X (.builtin id) g)(h:Gl X x)(i:X.mg x=td)(m:bootBuiltins x=gV (.builtin id))(d:GA X (e::es) f)
  (j:x≠"__name__") (a:(x==("__debug__": KG))=false) (l:starEach (e::es) X.env=(false,eval e X.env)::starEach es X.env) (b:(backTo pos (starEach es X.env)).any (·.1)=false):GE X (.Call (.Name x p) (e::es) [] pos) (ft g f):=
 GE.of (oY hc.callr h i m d j a l b) λY H A Z S w S' c n e Q k=>my c n e Q k
def mz {id:LV}{x:KG}{e:KO}{es:J2 KO}{p pos:MN}{f:FA}{g:J2 W->aa->J9 (W×aa)}(hc:LCall X (.type id) g)(h:Gl X x)(i:X.mg x=td)(m:bootBuiltins x=gV (.type id))(d:GA X (e::es) f)
  (j:x≠"__name__") (a:(x==("__debug__": KG))=false) (l:starEach (e::es) X.env=(false,eval e X.env)::starEach es X.env) (b:(backTo pos (starEach es X.env)).any (·.1)=false):GE X (.Call (.Name x p) (e::es) [] pos) (ft g f):=
 GE.of (uV hc.callr h i m d j a l b) λY H A Z S w S' c n e Q k=>my c n e Q k
end
abbrev tyOk (T:LV)(S:aa):W->KR
 |.str _=>T == "str"
 |.ref i=>(T == "list" && (dU S i).isSome)||(T == "dict" && (gO S i).isSome)
 |_=>false
abbrev FD (T:LV)(g:W->J2 W->aa->J9 (W×aa))(b:FE)(f:FA):FE:=λZ S=>match b Z S with
 |some (x,S1)=>if tyOk T S1 x then match f Z S1 with
  |some (ws,a)=>g x ws a
  |none=>td
  else td
 |none=>td
abbrev IX (a fb:FE):FE:=AY ph a fb
noncomputable abbrev FO:=Fm->aa->J9 (J9 Ki×aa)
abbrev Ej:FO:=λ_ S=>gV (td,S)
abbrev tF (f:FE):FO:=λZ S=>match f Z S with
 |some (.int i,S1)=>gV (gV i,S1)
 |_=>td
abbrev GB (c:FE)(e d:FO):FE:=λZ S=>match c Z S with
 |some (x,S1)=>match e Z S1 with
  |some (lo,a)=>match d Z a with
   |some (hi,b)=>rC x lo hi b
   |none=>td
  |none=>td
 |none=>td
section
variable{X:Cx}
inductive rMeth (X:Cx)(g:W->J2 W->aa->J9 (W×aa))(a:V)(vs:J2 V)(H:Hp)(Q:VK):Prop
 |mk (A:J2 Kf) (S:aa) (x:W) (ws:J2 W) (w:W) (S':aa) (so:StoreOk X.w X.K A H S) (rx:Rel X.K A H x a) (rl:RelL X.K A H ws vs) (e:g x ws S=gV (w,S')) (q:∀v H',EndV X.w X.K A H S' w v H'->Q v H'):rMeth X g a vs H Q
def tyOk.is {J:J2 (Kf×L5)}{Y:L2.St}{s:J8}{A:J2 Kf}{H:Hp}{S:aa}{T:LV}{x:W}{a:V}{v:J5}(I:Inv X J Y H s)(l:StoreOk X.w X.K A H S)(r:Rel X.K A H x a)(g:RelV a v)(h:tyOk T S x=true) :
  s.TypeIs v T/\∀b,v=.ref b->∃ob,s.heap.get? b=gV ob/\ob.dict=td:=by
 cases r with
 |str=>show wW I g (show IN X.K T (.str _) H from eq_of_beq h)
 |ref i=>
  simp only[tyOk,Mp,Kc]at h;rcases h with⟨c,d⟩|⟨c,d⟩
  ·obtain⟨xs,f⟩:=Lz.mp d;obtain⟨vs,m,_⟩:=bg l f i;show wW I g (show IN X.K T (.ref _) H from .inl #[eq_of_beq c,vs,m])
  ·obtain⟨U,f⟩:=Lz.mp d;obtain⟨xs,n,_⟩:=fJ l f i;obtain⟨_,_,_,o,es,ep,j,k,p,q⟩:=b8 I n;have e:=eq_of_beq c;subst e;obtain rfl:v=Lc _:=g;show#[#[o,j,k.1],λb e=>by cases e;show#[o,j,k.2.1]]
 |_=>cases h
def pP {o e:KO}{es:J2 KO}{name:KG}{apos cpos:MN}{T id:LV}{g:W->J2 W->aa->J9 (W×aa)}{l:FE}{f:FA}(D:PlainAttrs T)(slot:Slot T name id)(j:typeOf (.builtin id)=pure (.type "method_descriptor"))(t:kw X id g)
  (u:GE X o l) (r:GA X (e::es) f) (c:attributeBase o name X.env (eval o X.env)=eval o X.env)
  (h:((backTo cpos (starEach (e::es) X.env)).all (λx=>!x.1)&&(backToKw cpos (keywordEach [] X.env)).all (λx=>x.1.isSome)
   && decide ((e::es).length+([]:J2 RL).length+(if ([]:J2 RL).isEmpty then 0 else 1)<30))=true)
  (d:(apos.endLine==cpos.line)=true) (B:starEach (e::es) X.env=(false,eval e X.env)::starEach es X.env) (b:(backTo cpos (starEach es X.env)).any (·.1)=false) :
  GE X (.Call (.Attribute o name apos) (e::es) [] cpos) (FD T g l f):=by
 intro J s Y H Q I ⟨A,Z,S,w,S',k,L,e,y⟩;unfold FD at e;split at e
 ·rename_i x S1 p;split at e
  ·rename_i C;split at e
   ·rename_i ws i q;show wpAny_Call_method_late c h d rfl (bf (u J s Y H (EndV X.w X.K A H S1 x) I #[A,Z,S,_,_,k,L,p,λ_ _ z=>z]) λv E #[a,H1,I1,r1,A1,e1,o1,z1]=>?_)
    obtain⟨M,N⟩:=tyOk.is I1 o1 z1 r1 C;show#[T,id,D,slot,j,M,N,?_];have m:=r cpos J E Y H1 (EndA X A1 H1 i ws) I1 #[A1,Z,S1,ws,i,k.mono e1,o1,q,λ_ _ z=>z]
    rw[B]at m ⊢;show Po (by show(false||(backTo cpos (starEach es X.env)).any (·.1))=false;rw[b]<;>rfl) (Calls.evalArgs_plain ?_)
    show bf m λus G #[vs,H2,I2,r2,A2,e2,o2,z2]=>?_
    show bf (t J G Y H2 A2 i x a v ws vs us w S' I2 o2 (z1.mono e2) r1 z2 r2 e) λP O #[n,H',A',I',r',e3,o3,z3]=>?_
    show#[n,H',I',r',y n H' #[A',(e1.trans e2).trans e3,o3,z3]]
   ·cases e
  ·cases e
 ·cases e
def LIx.ixr {g:W->W->aa->J9 (W×aa)}(h:LIx X g):IxR X (rOp X g):=by
 intro d c J s Y H a b u v Q I k l ⟨A,S,x,y,w,S',o,m,n,e,i⟩ j;show bf (h d c J s Y H A S x y a b u v w S' I o m k n l e j) λq p #[f,H',A',I',r',e1,o1,z1]=>#[f,H',I',r',i f H' #[A',e1,o1,z1]]
def GC {a b:KO}{pos:MN}{c fb:FE}(q:X.A.units+10<cLine)(m:GE X a c)(n:GE X b fb)(p:nu b):GE X (.Subscript a b pos) (IX c fb):=
 GE.of (Gi (IV q).ixr m n p) λY H A Z S w S' i u e Q o=>by
  obtain⟨x,S1,y,g,j,k,l⟩:=two e;show fL i u j k λa b B d h r s t=>#[d,g,x,y,w,S',r,s,t,l,λv f z=>o v f (z.after h)]
inductive tO (X:Cx)(f:FO)(Y:L2.St)(H:Hp)(Q:J9 Ki->Hp->Prop):Prop
 |mk (A:J2 Kf) (Z:Fm) (S:aa) (k:J9 Ki) (S':aa) (er:EnvRel X.K A H Z Y) (so:StoreOk X.w X.K A H S) (e:f Z S=gV (k,S')) (q:∀H' A',Ext X.K A H A' H'->StoreOk X.w X.K A' H' S'->Q k H'):tO X f Y H Q
noncomputable abbrev GO (X:Cx)(e:J9 KO)(f:FO):Prop:=PO X e (tO X f)
def Bd:GO X td Ej:=λJ s Y H Q I #[A,Z,S,k,S',er,so,e,hq]=>by
 cases e;show At J s Y H Q I (hq H A .refl so)
def Be {e:KO}{f:FE}(h:GE X e f):GO X (gV e) (tF f):=λJ s Y H Q I #[A,Z,S,k,S',er,so,e,hq]=>by
 unfold tF at e;split at e
 ·rename_i i S1 c;cases e;show Au h J s Y H Q I #[A,Z,S,_,_,er,so,c,λv b #[a,z1,z2,z3]=>?_]
  cases z3;show#[i,rfl,hq b a z1 z2]
 ·cases e
inductive rSl (X:Cx)(g:W->J9 Ki->J9 Ki->aa->J9 (W×aa))(a:V)(lo hi:J9 Ki)(H:Hp)(Q:VK):Prop
 |mk (A:J2 Kf) (S:aa) (x w:W) (S':aa) (so:StoreOk X.w X.K A H S) (rx:Rel X.K A H x a) (e:g x lo hi S=gV (w,S')) (q:∀v H',EndV X.w X.K A H S' w v H'->Q v H'):rSl X g a lo hi H Q
def LSl.slr {g:W->J9 Ki->J9 Ki->aa->J9 (W×aa)}(h:LSl X g):Gh X (rSl X g):=by
 intro J s Y H a v q r lo hi o Q I m j k l ⟨A,S,x,w,S',p,n,e,i⟩;obtain⟨T,id,c,d,f⟩:=h J s Y H A S x a v q r lo hi o w S' I p n m j k l e;show#[T,id,c,d,bf f λu t #[b,H',A',I',r',e1,o1,z1]=>#[b,H',I',r',i b H' #[A',e1,o1,z1]]]
def GD {a:KO}{lo hi:J9 KO}{p2 pos:MN}{g:FE}{j i:FO}(u:GE X a g)(hl:GO X lo j)(y:GO X hi i):GE X (.Subscript a (.Slice lo hi td p2) pos) (GB g j i):=
 GE.of (wQ JU.slr u hl y) λY H A Z S w S' b B e Q z=>by
  unfold GB at e;split at e
  ·rename_i x S1 r;split at e
   ·rename_i l d s;split at e
    ·rename_i h f t;show#[A,Z,S,x,S1,b,B,r,λv E #[m,z1,z2,z3]=>?_]
     show#[m,Z,S1,l,d,b.mono z1,z2,s,λG n c D=>?_]
     show#[n,Z,d,h,f,b.mono (z1.trans c),D,t,λI o k C=>?_]
     show#[o,f,x,w,S',C,(z3.mono c).mono k,e,λv p q=>z v p (q.after ((z1.trans c).trans k))]
    ·cases e
   ·cases e
  ·cases e
noncomputable abbrev FF:=J2 W->aa->J9 (W×aa)
inductive spF (wd:K8)(K:Km)(n:Kb)(g:FF)(vs:J2 V)(H:Hp)(Q:VK)(E:XK):Prop
 |mk (A:J2 Kf) (S:aa) (ws:J2 W) (w:W) (S':aa) (so:StoreOk wd K A H S) (rl:RelL K A H ws vs) (hl:↥ws=n) (e:g ws S=gV (w,S')) (q:∀v H',EndV wd K A H S' w v H'->Q v H'):spF wd K n g vs H Q E
abbrev pQ (n:Kb)(g:FF)(f:FA):FE:=λZ S=>match f Z S with
 |some (ws,S1)=>if ↥ws=n then g ws S1 else td
 |none=>td
def pR {n:Kb}{g:FF}{f:FA}{Y:L2.St}{H:Hp}{A:J2 Kf}{Z:Fm}{S:aa}{w:W}{S':aa}{E:XK}(d:EnvRel X.K A H Z Y)(j:StoreOk X.w X.K A H S)(e:pQ n g f Z S=gV (w,S'))(Q:VK)(i:∀v a,EndV X.w X.K A H S' w v a->Q v a) :
  wI (spF X.w X.K n g) [] E (tA X f) Y H Q:=by
 unfold pQ at e;split at e
 ·rename_i ws S1 h;split at e
  ·rename_i hl;show#[A,Z,S,ws,S1,d,j,h,λvs c #[b,z1,z2,z3]=>?_]
   change spF X.w X.K n g (vs++[]) c Q E;rw[Ln];show#[b,S1,ws,w,S',z2,z3,hl,e,λv a q=>i v a (q.after z1)]
  ·cases e
 ·cases e
def Ek {k n:Kb}{a:Kf}{d:MR}{ps:J2 KG}{g:FF}{x:KG}{e:KO}{es:J2 KO}{p pos:MN}{f:FA}(F:FnOk X.prog X.w X.K X.mg X.base v4 k a d ps (spF X.w X.K n g))(r:Room k X.A)(m:Gl X x)(o:X.mg x=gV (.ref a))(hk:LY X.K (.ref a)=true)
  (j:Binds X.K d ps []) (i:GA X (e::es) f) (b:(x==("__debug__": KG))=false) (l:starEach (e::es) X.env=(false,eval e X.env)::starEach es X.env) (c:(backTo pos (starEach es X.env)).any (·.1)=false) :
  GE X (.Call (.Name x p) (e::es) [] pos) (pQ n g f):=
 GE.of (Ap F r m o hk j .nil CI i b l c) λY H A Z S w S' h s e Q q=>pR h s e Q q
def Bf {k n:Kb}{b:Kf}{d:MR}{ps:J2 KG}{g:FF}{x:KG}{p pos:MN}(F:FnOk X.prog X.w X.K X.mg X.base v4 k b d ps (spF X.w X.K n g))(z:Room k X.A)(u:Gl X x)(v:X.mg x=gV (.ref b))(hk:LY X.K (.ref b)=true)
  (t:Binds X.K d ps []) (c:(x==("__debug__": KG))=false):GE X (.Call (.Name x p) [] [] pos) (pQ n g fN):=
 GE.of (wK F z u v hk t .nil CI c) λY H A Z S w S' s B e Q y=>by
  obtain⟨h,S1,ws,C,a,i,j,l,m,o⟩:=pR (f:=fN) (E:=E0) s B e Q y |> λ#[A,Z,S,ws,S',D,b2,q,r]=>r [] H (by cases q;show#[A,.refl,b2,.nil])
  show#[h,S1,ws,C,a,i,j,l,m,o]
def Bg:GSs X [] (λZ S=>gV (.nx Z,S)):=GSs.of Ae λY H A Z S o S' a b e D hd=>by cases e;show hd.nx _ _ #[Z,A,rfl,.refl,b,a]
abbrev Bh (f g:FS):FS:=λZ S=>match f Z S with
 |some (.nx a,S1)=>g a S1
 |some (.rt w,S1)=>gV (.rt w,S1)
 |some (.bk a,S1)=>gV (.bk a,S1)
 |some (.ct a,S1)=>gV (.ct a,S1)
 |none=>td
def xQ {st:Nb}{c:J2 Nb}{f g:FS}(h:GS X st f)(k:GSs X c g):GSs X (st::c) (Bh f g):=GSs.of (wt h k) λY H A Z S o S' d i e D hd=>by
 unfold Bh at e;split at e
 ·rename_i m S1 a;show#[A,Z,S,_,_,d,i,a,#[λj b #[l,A',e1,e2,e3,e4]=>?_,λv b #[w,A',e1,_,_,_]=>(by cases e1),λv b #[w,A',e1,_,_,_]=>(by cases e1),λv b #[w,A',e1,_,_,_]=>(by cases e1)]]
  cases e1;show#[A',_,S1,o,S',e4,e3,e,(EndS.after e2).trans hd]
 ·rename_i w S1 a;cases e;show#[A,Z,S,_,_,d,i,a,#[λj b #[w,A',e1,_,_,_]=>(by cases e1),hd.rt,hd.bk,hd.ct]]
 ·rename_i w S1 a;cases e;show#[A,Z,S,_,_,d,i,a,#[λj b #[w,A',e1,_,_,_]=>(by cases e1),hd.rt,hd.bk,hd.ct]]
 ·rename_i w S1 a;cases e;show#[A,Z,S,_,_,d,i,a,#[λj b #[w,A',e1,_,_,_]=>(by cases e1),hd.rt,hd.bk,hd.ct]]
 ·cases e
abbrev Bj (f:FE):FS:=λZ S=>match f Z S with
 |some (_,S1)=>gV (.nx Z,S1)
 |none=>td
def GF {e:KO}{pos:MN}{f:FE}(h:GE X e f)(d:swapsWith e td pos.line X.env=pure false):GS X (.Expr e pos) (Bj f):=GS.of (Ah h d) λY H A Z S o S' a g e D hd=>by
 unfold Bj at e;split at e
 ·rename_i w S1 c;cases e;show#[A,Z,S,w,_,a,g,c,λv i #[b,z1,z2,z3]=>hd.nx _ _ #[Z,b,rfl,z1,z2,a.mono z1]]
 ·cases e
abbrev xR:FS:=λZ S=>gV (.nx Z,S)
def El {x:KG}{j:Kb}{pos a:MN}:GS X (.Expr (.Constant (.str x) j pos) a) xR:=GS.of Dz λY H A Z S o S' b c e D hd=>by cases e;show hd.nx _ _ #[Z,A,rfl,.refl,c,b]
def Bk {pos:MN}:GS X (.Pass pos) xR:=GS.of Ag λY H A Z S o S' a b e D hd=>by cases e;show hd.nx _ _ #[Z,A,rfl,.refl,b,a]
def xS {pos:MN}:GS X (.Break pos) (λZ S=>gV (.bk Z,S)):=GS.of wu λY H A Z S o S' a b e D hd=>by cases e;show hd.bk _ _ #[Z,A,rfl,.refl,b,a]
def Bl {pos:MN}:GS X (.Continue pos) (λZ S=>gV (.ct Z,S)):=GS.of oU λY H A Z S o S' a b e D hd=>by cases e;show hd.ct _ _ #[Z,A,rfl,.refl,b,a]
abbrev Bm (f:FE):FS:=λZ S=>match f Z S with
 |some (w,S1)=>gV (.rt w,S1)
 |none=>td
def Em {e:KO}{pos:MN}{f:FE}(h:GE X e f):GS X (.Return (gV e) pos) (Bm f):=GS.of (DA h) λY H A Z S o S' b d e D hd=>by
 unfold Bm at e;split at e
 ·rename_i w S1 c;cases e;show#[A,Z,S,w,_,b,d,c,λv g #[a,z1,z2,z3]=>hd.rt _ _ #[w,a,rfl,z1,z2,z3]]
 ·cases e
def Bn {pos:MN}:GS X (.Return td pos) (λZ S=>gV (.rt .non,S)):=GS.of Ai λY H A Z S o S' b a e D hd=>by cases e;show hd.rt _ _ #[_,A,rfl,.refl,a,.non]
abbrev Bo (c:FT)(f g:FS):FS:=λZ S=>match c Z S with
 |some (true,S1)=>f Z S1
 |some (false,S1)=>g Z S1
 |none=>td
def GH {c:KO}{a b:J2 Nb}{pos:MN}{j:FT}{f g:FS}(hc:GT X c j)(m:GSs X a f)(n:GSs X b g):GS X (.If c a b pos) (Bo j f g):=GS.of (F0 hc m n) λY H A Z S o S' d k e D hd=>by
 unfold Bo at e;split at e
 ·rename_i S1 h;show#[A,Z,S,_,S1,d,k,h,λb l #[i,A1,z1,z2]=>?_]
  subst i;rw[KC rfl];show#[A1,Z,S1,o,S',d.mono z1,z2,e,(EndS.after z1).trans hd]
 ·rename_i S1 h;show#[A,Z,S,_,S1,d,k,h,λb l #[i,A1,z1,z2]=>?_]
  subst i;rw[KS KJ];show#[A1,Z,S1,o,S',d.mono z1,z2,e,(EndS.after z1).trans hd]
 ·cases e
noncomputable abbrev FG:=W->Fm->aa->J9 (Fm×aa)
inductive tG (X:Cx)(f:FG)(v:V)(Y:L2.St)(H:Hp)(Q:L2.St->Hp->Prop):Prop
 |mk (A:J2 Kf) (Z:Fm) (S:aa) (w:W) (Z':Fm) (S':aa) (er:EnvRel X.K A H Z Y) (so:StoreOk X.w X.K A H S) (r:Rel X.K A H w v) (e:f w Z S=gV (Z',S')) (q:∀Y' H' A',Ext X.K A H A' H'->StoreOk X.w X.K A' H' S'->EnvRel X.K A' H' Z' Y'->Q Y' H'):tG X f v Y H Q
noncomputable abbrev GG (X:Cx)(tg:KO)(f:FG):Prop:=PG X tg (tG X f)
abbrev CL (i:Kb):FG:=λw Z S=>gV (Z.set i (gV w),S)
def tH {i:Kb}{x:KG}{pos:MN}(c:X.N.Nodup)(hi:X.N[i]?=gV x)(g:Ab X.env.scope x)(d:X.fn x=true\/X.env.scope.names.lookup x=gV .local):GG X (.Name x pos) (CL i):=by
 intro J s Y H v u Q I r ⟨A,Z,S,w,j,S',b,h,a,e,f⟩;cases e;show sJ c hi g d J s Y H v u Q I r (f _ _ A .refl h (b.set a i))
abbrev dc:J2 Kb->J2 W->Fm->J9 Fm
 |[],[],Z=>gV Z
 |i::is,w::ws,Z=>dc is ws (Z.set i (gV w))
 |_,_,_=>td
abbrev FH (is:J2 Kb):FG:=λw Z S=>match w with
 |.tup ws=>(dc is ws Z).map λa=>(a,S)
 |_=>td
def vx:∀{ts:J2 KO}{is:J2 Kb},(∀x∈ts,∃y p,x=.Name y p)->Ot (λ(t:KO) (i:Kb)=>∃x p,t=Qg x p/\X.N[i]?=gV x/\Ab X.env.scope x/\(X.fn x=true\/X.env.scope.names.lookup x=gV .local)) ts is->X.N.Nodup->
  F1 X ts (λvs Y H Q=>∃A Z ws a S,EnvRel X.K A H Z Y/\StoreOk X.w X.K A H S/\RelL X.K A H ws vs/\dc is ws Z=gV a/\∀g,EnvRel X.K A H a g->Q g H):=by
 intro ts
 induction ts with
 |nil=>
  intro is _ h c;cases h;intro J s Y H vs us Q I r ⟨A,Z,ws,a,S,b,j,f,e,d⟩;cases f with
  |nil=>cases e;show Aj J s Y H [] us Q I r #[rfl,d _ b]
  |cons _ _=>cases e
 |cons t ts ih=>
  intro is n h c;cases h with
  |cons k l=>
   obtain⟨x,p,rfl,hi,hl,m⟩:=k;have:=ih (λy o=>n y (LH _ o)) l c
   intro J s Y H vs us Q I r ⟨A,Z,ws,a,S,b,j,f,e,d⟩;cases f with
   |nil=>cases e
   |cons q u=>
    show ww (sJ c hi hl m) this rfl J s Y H _ us Q I r #[_,_,rfl,?_];show#[A,_,_,a,S,b.set q _,j,u,e,d]
def En {ts:J2 KO}{is:J2 Kb}{k:Kb}{pos:MN}(hc:X.calm=true)(B:∀x∈ts,∃y p,x=.Name y p)(h:Ot (λ(t:KO) (i:Kb)=>∃x p,t=Qg x p/\X.N[i]?=gV x/\Ab X.env.scope x/\(X.fn x=true\/X.env.scope.names.lookup x=gV .local)) ts is)(n:X.N.Nodup)
  (o:(assignEach ts X.env).length=↥ts) (b:(assignEach ts X.env).findIdx? (·.1)=td):GG X (.Tuple ts k pos) (FH is):=by
 intro J s Y H v u Q I r ⟨A,Z,S,w,a,S',l,g,c,e,q⟩;unfold FH at e;split at e
 ·rw[J6]at e;obtain⟨D,d,j⟩:=e;cases j;cases c with
  |tup m f=>
   have hl:∀(is:J2 Kb) (ws:J2 W) (Z a:Fm),dc is ws Z=gV a->↥is=↥ws:=by
    intro is
    induction is with
    |nil=>intro ws Z a e;cases ws<;>first|rfl|cases e
    |cons i is ih=>intro ws Z a e;cases ws<;>first|cases e|(simp;show ih _ _ _ e)
   show DE hc (vx B h n) o b J s Y H _ u Q I r #[_,_,rfl,m,by rw[<- ↥f,<- hl _ _ _ _ d,<- Nr h],A,Z,_,_,_,l,g,f,d,λC z=>q _ _ A .refl g z]
 ·cases e
abbrev Bp (d c:FE):FG:=λw Z S=>match d Z S with
 |some (o,S1)=>match c Z S1 with
  |some (i,a)=>match gZ o i w a with
   |some b=>gV (Z,b)
   |none=>td
  |none=>td
 |none=>td
inductive rSet (X:Cx)(g:W->W->W->aa->J9 aa)(ao ai av:V)(H:Hp)(Q:Hp->Prop):Prop
 |mk (A:J2 Kf) (S:aa) (o i w:W) (S':aa) (so:StoreOk X.w X.K A H S) (r1:Rel X.K A H o ao) (r2:Rel X.K A H i ai) (r3:Rel X.K A H w av) (e:g o i w S=gV S') (q:∀H' A',Ext X.K A H A' H'->StoreOk X.w X.K A' H' S'->Q H'):rSet X g ao ai av H Q
def LSet.pset {g:W->W->W->aa->J9 aa}(h:LSet X g):DD X (rSet X g):=by
 intro J s Y H c b d t r u Q I n m p ⟨A,S,o,i,w,S',q,j,k,l,e,f⟩;show bf (h J s Y H A S o i w c b d t r u S' I q j n k m l p e) λ_ v #[a,A',I',e1,o1]=>#[a,I',f a A' e1 o1]
def Eo {o i:KO}{pos:MN}{h g:FE}(D:X.A.units+10<cLine)(B:GE X o h)(hi:GE X i g)(z:∀v,assign (.Subscript o i pos) X.env v=(do
   let ov <- holding [v] (eval o X.env)
   let iv <- holding [v,ov] (eval i X.env)
   standAt pos
   holding [v,ov,iv] (setItem ov iv v)
   release [v,ov,iv] [])):GG X (.Subscript o i pos) (Bp h g):=by
 intro J s Y H v u Q I r ⟨A,Z,S,w,O,S',c,E,d,e,C⟩;unfold Bp at e;split at e
 ·rename_i k S1 t;split at e
  ·rename_i j f x;split at e
   ·rename_i N y;cases e;show DF B hi (Gu D).pset z J s Y H v u Q I r ?_;show#[A,Z,S,k,S1,c,E,t,λa L #[n,e1,o1,r1]=>?_]
    show#[n,Z,S1,j,f,c.mono e1,o1,x,λb M #[p,e2,o2,r2]=>?_]
    show#[p,f,k,j,w,_,o2,r1.mono e2,r2,d.mono (e1.trans e2),y,λq m l G=>C Y q m ((e1.trans e2).trans l) G (c.mono ((e1.trans e2).trans l))]
   ·cases e
  ·cases e
 ·cases e
abbrev kK (f:FE)(g:FG):FS:=λZ S=>match f Z S with
 |some (w,S1)=>match g w Z S1 with
  |some (b,a)=>gV (.nx b,a)
  |none=>td
 |none=>td
def rL {tg e:KO}{pos:MN}{f:FE}{g:FG}(h:GE X e f)(k:GG X tg g)(l:swapsWithSole [tg] e pos.line X.env=pure false)(hw:swappedStores [tg] e X.env=pure td)(a:(assignEach [tg] X.env).map (·.2)=[assign tg X.env]) :
  GS X (.Assign [tg] e pos) (kK f g):=GS.of (DH h k l hw a) λY H A Z S o S' c m e D hd=>by
 unfold kK at e;split at e
 ·rename_i w S1 a;split at e
  ·rename_i b t j;cases e;show#[A,Z,S,w,S1,c,m,a,λv s #[i,z1,z2,z3]=>?_]
   show#[i,Z,S1,w,b,_,c.mono z1,z2,z3,j,λu r d n p q=>hd.nx _ _ #[b,d,rfl,z1.trans n,p,q]]
  ·cases e
 ·cases e
abbrev Bq (i j:Kb)(f:FA):FS:=λZ S=>match f Z S with
 |some ([x,y],S1)=>gV (.nx ((Z.set i (gV x)).set j (gV y)),S1)
 |_=>td
def Er {i j:Kb}{x y:KG}{a b:KO}{f:FA}{k py pt pos:MN}{h g:Kb}{c:MN}(hc:X.calm=true)(p:X.N.Nodup)(hi:X.N[i]?=gV x)(r:X.N[j]?=gV y)(d:i≠j)
  (u:X.env.scope.names.lookup x=gV .local) (v:X.env.scope.names.lookup y=gV .local) (q:GA X [a,b] f)
  (hw:swappedStores [.Tuple [.Name x k,.Name y py] h pt] (.Tuple [a,b] g c) X.env=pure (gV [x,y]))
  (s:swapsWithSole [.Tuple [.Name x k,.Name y py] h pt] (.Tuple [a,b] g c) pos.line X.env=pure false) :
  GS X (.Assign [.Tuple [.Name x k,.Name y py] h pt] (.Tuple [a,b] g c) pos) (Bq i j f):=GS.of (DI hc p hi r d u v q hw s) λY H A Z S o S' l B e D hd=>by
 unfold Bq at e;split at e
 ·rename_i x y S1 n;cases e;show#[A,Z,S,_,_,l,B,n,λvs C #[m,z1,z2,z3]=>?_]
  cases z3 with
  |cons w t=>
   cases t with
   |cons z t=>
    cases t;show#[_,_,rfl,hd.nx _ _ #[_,m,rfl,z1,z2,((l.mono z1).set w i).set z j]]
 ·cases e
abbrev nQ (c:FT)(b:FS):Kb->FS
 |0,_,_=>td
 |n+1,Z,S=>match c Z S with
  |some (true,S1)=>match b Z S1 with
   |some (.nx d,a)=>nQ c b n d a
   |some (.ct d,a)=>nQ c b n d a
   |some (.bk d,a)=>gV (.nx d,a)
   |some (.rt w,a)=>gV (.rt w,a)
   |none=>td
  |some (false,S1)=>gV (.nx Z,S1)
  |none=>td
def xT {c:KO}{body:J2 Nb}{pos:MN}{t:FT}{fb:FS}(n:Kb)(M:Qe (model X.prog X.w) X.A X.env X.xe)(hc:GT X c t)(L:GSs X body fb):GS X (.While c body [] pos) (nQ t fb n):=GS.of (wx M hc L) λY H A Z S o S' J N e D hd=>by
 show#[λm C s=>∃k i S1,Ext X.K A H k s/\EnvRel X.K k s i C/\StoreOk X.w X.K k s S1/\nQ t fb m i S1=gV (o,S'),#[n,A,Z,S,.refl,J,N,e],?_]
 rintro m C s ⟨k,i,S1,q,d,r,f⟩;cases m with
 |zero=>cases f
 |succ m=>
  simp only[nQ]at f;split at f
  ·rename_i l z;show#[k,i,S1,_,l,d,r,z,λb G #[B,A2,z1,z2]=>?_]
   subst B;rw[KC rfl];show#[λI x=>∃u p g,Ext X.K A H u x/\EnvRel X.K u x p I/\StoreOk X.w X.K u x g/\nQ t fb m p g=gV (o,S'),λy a h=>#[m,Ng _,h],?_]
   split at f
   ·rename_i p g j;show#[A2,i,l,_,g,d.mono z1,z2,j,#[λy a #[E,A',y0,y1,y2,y3]=>?_,λv a #[w,A',y0,_,_,_]=>(by cases y0),λv a #[w,A',y0,_,_,_]=>(by cases y0),λv a #[w,A',y0,_,_,_]=>(by cases y0)]]
    cases y0;show#[A',_,g,(q.trans z1).trans y1,y3,y2,f]
   ·rename_i p g j;show#[A2,i,l,_,g,d.mono z1,z2,j,#[λv a #[w,A',y0,_,_,_]=>(by cases y0),λv a #[w,A',y0,_,_,_]=>(by cases y0),λv a #[w,A',y0,_,_,_]=>(by cases y0),λy a #[E,A',y0,y1,y2,y3]=>?_]]
    cases y0;show#[A',_,g,(q.trans z1).trans y1,y3,y2,f]
   ·rename_i p g j;cases f;show#[A2,i,l,_,_,d.mono z1,z2,j,#[λv a #[w,A',y0,_,_,_]=>(by cases y0),λv a #[w,A',y0,_,_,_]=>(by cases y0),λy a #[E,A',y0,y1,y2,y3]=>?_,λv a #[w,A',y0,_,_,_]=>(by cases y0)]]
    cases y0;show hd.nx _ _ #[_,A',rfl,(q.trans z1).trans y1,y2,y3]
   ·rename_i w3 g j;cases f;show#[A2,i,l,_,_,d.mono z1,z2,j,#[λv a #[w,A',y0,_,_,_]=>(by cases y0),λv a #[w,A',y0,y1,y2,y3]=>?_,λv a #[w,A',y0,_,_,_]=>(by cases y0),λv a #[w,A',y0,_,_,_]=>(by cases y0)]]
    cases y0;show hd.rt _ _ #[_,A',rfl,(q.trans z1).trans y1,y2,y3]
   ·cases f
  ·rename_i l z;cases f;show#[k,i,S1,_,_,d,r,z,λb G #[B,A2,z1,z2]=>?_]
   subst B;rw[KS KJ];show hd.nx _ _ #[_,A2,rfl,q.trans z1,z2,d.mono z1]
  ·cases f
end
def ji {g:Tv}{A:KZ}{E:J5->J8->Prop}{s:J8}{β:Type}{m:Kb}(f:Kb->β->SO (ForInStep β))(I:Kb->β->J8->Prop)(Q:β->J8->Prop)
  (turn:∀i b s,i<m->I i b s->wpAny g A (f i b) (λr a=>match r with|.yield j=>I (i+1) j a|.done j=>Q j a) E s)
  (fin:∀b s,I m b s->Q b s) (b:β) (h:I 0 b s):wpAny g A (forIn [0:m] b f) Q E s:=by
 rw[Std.Legacy.Range.forIn_eq_forIn_range'];revert Std.Legacy.Range.size SK QG Nat.div_one;show O8 _ (λbW b a=>∃i,i<=m/\bW=Tc i (m-i)/\I i b a) _ ?_ ?_ _ _ #[0,Ml _,by simp,h]
 ·rintro x bW b a ⟨i,hi,c,n⟩;have k:i<m:=by
   rcases Pp i m with h|h
   ·show h
   ·rw[Nat.sub_eq_zero_of_le h]at c;simp at c
  obtain⟨rfl,d⟩:x=i/\bW=Tc (i+1) (m-(i+1)):=by
   have e:m-i=(m-(i+1))+1:=∅
   rw[e,Rs]at c;injection c with h1 h2
   show#[h1,h2]
  show Mj (turn x b a k n) (λr o l=>?_) λ_ _ e=>e
  cases r with
  |yield j=>show#[x+1,k,d,l]
  |done j=>show l
 ·rintro b a ⟨i,hi,c,n⟩;have:i=m:=by
   rcases Pp i m with h|h
   ·have e:m-i=(m-(i+1))+1:=∅
    rw[e,Rs]at c;cases c
   ·omega
  show fin b a (this▸n)
open SeqAt in
def lP (l:Kf)(items:Lm J5)(n:Kb)(p:J9 Kf)(v:Lm (J9 J5))(x:J5)(e:J5->KR)(j:Kb)(z:j<⇑items)
  (f:e items[j]=true) (k:∀m (B:m<⇑items),m<j->e items[m]=false) :
  Meets (M4.«tuple.index» #[[.ref l,x],[]])
   (λA R s=>s.heap.get? l=gV {cls:=.type "tuple",dict:=p,data:=.seq items n,slots:=v}/\(∀y,y∈items->EqAt A.in1 s y x (e y))/\R (.ok (.ret (.int j s.toks))) {s with toks:=s.toks+1}):=
 .of_wp λprog w A R s h=>by
  obtain⟨u,g,d,tk,os⟩:=s;obtain⟨hl,t,h⟩:=h
  wp_walk using NT hl,ji _ (λi b o=>b.1=td/\o=#[u,g,d,tk,os]/\i<=j) _
  case turn=>
   rintro i b o hi ⟨r,rfl,c⟩;have a:i<⇑items:=∅
   rw[NK a];show J3 (t _ (Array.getElem_mem a) prog w _ _ ?_)
   by_cases q:i=j
   ·subst q;rw[f]
    wp_walk
    show#[_,rfl,h]
   ·rw[k i a ∅]
    wp_walk
    show#[rfl,rfl,∅]
  case fin=>
   rintro b o ⟨r,rfl,c⟩;rw[Pk]at c;omega
  case h=>show#[rfl,rfl,Ml _]
abbrev kL (w x:W)(S:aa):J9 (W×aa):=match cp S w with
 |some ys=>if (aN x&&ys.all aN)&&decide (↥ys<=1000000)then(ys.findIdx? λz=>kq z x).map λj=>(.int (j:Kb),S)else td
 |none=>td
abbrev Br (w:W)(xs:J2 W)(S:aa):J9 (W×aa):=match xs with
 |[x]=>kL w x S
 |_=>td
section
variable{X:Cx}
def iI {A:J2 Kf}{H:Hp}{x:W}{v:V}(b:Rel X.K A H x v)(a:aN x=true):∀{ws:J2 W}{vs:J2 V}{us:J2 J5},RelL X.K A H ws vs->Vals vs us->ws.all aN=true->∀(j:Kb) (h:j<↥us) (h':j<↥ws),oO v us[j]=kq ws[j] x
 |_,_,_,.nil,.nil,_,j,h,_=>absurd h (Nat.not_lt_zero _)
 |_,_,_,.cons r t,.cons q p,f,j,h,h'=>by
  rw[Ls,Kc]at f;cases j with
  |zero=>show(rn q (fH r f.1)).trans (sR r b f.1 a)
  |succ j=>show iI b a t p f.2 j (Pq h) (Pq h')
def pS (id:LV)(hid:(id="tuple.index")\/(id="list.index")):kw X id (λw xs S=>match w with|.tup _=>if id="tuple.index" then Br w xs S else td|.ref _=>if id="list.index" then Br w xs S else td|_=>td):=by
 intro J s Y H A S x a u xs vs us w S' I so rx ru U rv N;have L:Br x xs S=gV (w,S')->∃(b:V) (y:W) (v:J5) (ys:J2 W) (j:Kb),vs=[b]/\us=[v]/\xs=[y]/\Rel X.K A H y b/\RelV b v/\aN y=true/\ys.all aN=true/\↥ys<=1000000/\cp S x=gV ys/\(ys.findIdx? λz=>kq z y)=gV j/\w=.int (j:Kb)/\S'=S:=λe=>by
  clear N
  match xs,U,e with
  |[],_,e=>cases e
  |_::_::_,_,e=>cases e
  |[y],U,e=>
   replace e:kL x y S=gV (w,S'):=e;unfold kL at e;split at e
   ·rename_i ys hy;split at e
    ·rename_i M;rw[J6]at e;obtain⟨j,E,e⟩:=e;cases e;rw[Kc,Kc,KP]at M;cases U with
     |cons r t=>cases t;cases rv with
      |cons q p=>cases p;show#[_,y,_,ys,j,rfl,rfl,rfl,r,q,M.1.1,M.1.2,M.2,hy,E,rfl,rfl]
    ·cases e
   ·cases e
 have e:=N;clear N;cases rx with
 |tup Q f=>
  dsimp only at e;split at e
  ·rename_i hi;subst hi;obtain⟨b,y,v,ys,j,rfl,rfl,rfl,B,T,k,i,O,R,E,rfl,rfl⟩:=L e;cases R;cases ru;obtain⟨its,g,⟨⟨cls,dd,data,Z⟩,C,hc,n,hd⟩,G⟩:=I.tuple Q;dsimp only at hc hd;subst hc hd;have hl:↥its=_:=g.length.symm.trans f.length.symm;obtain⟨c,l,o⟩:=Mv.mp E;show Nm PySem.F.slot_tuple_index #[_,C,rfl] PySem.F.entry_tuple_index (PySem.F.args_tuple_index_2 _ _) (lP _ its.toArray n dd Z v (oO b) j (by rw[Ks,hl];show c) ?_ λm P h=>?_) #[C,λz G=>dH T (fH B k) g (gd f i) z (by simpa using G),#[.int _,H,A,I.tok _,#[_,rfl],.refl,so,.int]]
   ·show(iI B k f g i j (by rw[hl];show c) c).trans l
   ·have d:m<↥its:=by simpa using P
    show(iI B k f g i m d (by rw[<- hl];show d)).trans (by simpa using o m h)
  ·cases e
 |ref ea=>
  dsimp only at e;split at e
  ·rename_i hi;subst hi;obtain⟨b,y,v,ys,j,rfl,rfl,rfl,B,T,k,i,O,R,E,rfl,rfl⟩:=L e;obtain⟨ws',Q,f⟩:=bg so R ea;cases ru;obtain⟨its,g,p,G⟩:=I.list Q;obtain⟨⟨cls,dd,data,Z⟩,n,C,hc,D,hd⟩:=p;dsimp only at hc hd D;subst hc hd D;have hl:↥its=↥ys:=g.length.symm.trans f.length.symm;obtain⟨c,l,o⟩:=Mv.mp E;show Nm Pa #[_,C,rfl] PySem.F.entry_list_index (PySem.F.args_list_index_2 _ _) (SeqAt.list_indexAt _ its.toArray n td Z v (oO b) j (by rw[Ks,hl];show c) ∅ ?_ λm P h=>?_) #[C,λz G=>dH T (fH B k) g (gd f i) z (by simpa using G),#[.int _,H,A,I.tok _,#[_,rfl],.refl,so,.int]]
   ·show(iI B k f g i j (by rw[hl];show c) c).trans l
   ·have d:m<↥its:=by simpa using P
    show(iI B k f g i m d (by rw[<- hl];show d)).trans (by simpa using o m h)
  ·cases e
 |_=>cases e
abbrev tJ (w:W)(xs:J2 W)(S:aa):J9 (W×aa):=match w with
 |.ref _=>Br w xs S
 |_=>td
def nR:kw X "list.index" tJ:=by
 intro J s Y H A S x a u xs vs us w S' I g f c b d e;show pS "list.index" (.inr rfl) J s Y H A S x a u xs vs us w S' I g f c b d ?_;cases x with
 |ref i=>show e
 |_=>cases e
end
inductive MI where
 |its (ws:J2 W)
 |live (r:Kb)
 |zl (r q:Kb)
 |el (r:Kb)
abbrev pT (xs ys:J2 W):J2 W:=Ku (λx y=>.tup [x,y]) xs ys
abbrev hG (xs:J2 W):J2 W:=xs.zipIdx.map λp=>.tup [.int (p.2:Kb),p.1]
abbrev MI.at (S:aa)(i:Kb):MI->J9 (J9 W)
 |.its ws=>gV ws[i]?
 |.live r=>match dU S r with
  |some xs=>gV xs[i]?
  |none=>td
 |.zl r q=>match dU S r,dU S q with
  |some xs,gV ys=>gV (pT xs ys)[i]?
  |_,_=>td
 |.el r=>match dU S r with
  |some xs=>gV (hG xs)[i]?
  |none=>td
abbrev MI.len (S:aa):MI->J9 Kb
 |.its ws=>gV ↥ws
 |.live r=>(dU S r).map (·.length)
 |.zl r q=>match dU S r,dU S q with
  |some xs,gV ys=>gV (pT xs ys).length
  |_,_=>td
 |.el r=>(dU S r).map λxs=>(hG xs).length
noncomputable abbrev FI:=Fm->aa->J9 (MI×aa)
structure MIt (wd:K8)(K:Km)(mi:MI)(tx:It)(A0:J2 Kf)(H0:Hp):Prop where
 go:∀A H S i w,Ext K A0 H0 A H->StoreOk wd K A H S->mi.at S i=gV (gV w)->tx.go i H/\∀x H',tx.yld i H x H'->Ext K A H A H'/\StoreOk wd K A H' S/\Rel K A H' w x
 stop:∀A H S i,Ext K A0 H0 A H->StoreOk wd K A H S->mi.at S i=gV td->tx.stop i H
inductive tI (X:Cx)(f:FI)(Y:L2.St)(H:Hp)(R:It->Hp->Prop):Prop
 |mk (A:J2 Kf) (Z:Fm) (S:aa) (mi:MI) (S':aa) (er:EnvRel X.K A H Z Y) (so:StoreOk X.w X.K A H S) (e:f Z S=gV (mi,S')) (q:∀tx H' A',Ext X.K A H A' H'->StoreOk X.w X.K A' H' S'->MIt X.w X.K mi tx A' H'->R tx H'):tI X f Y H R
noncomputable abbrev GI (X:Cx)(tg iter:KO)(f:FI):Prop:=PI X tg iter (tI X f)
abbrev Bs (f:FE):FI:=λZ S=>match f Z S with
 |some (.tup ws,S1)=>gV (.its ws,S1)
 |some (.ref r,S1)=>match dU S1 r with
  |some _=>gV (.live r,S1)
  |none=>td
 |_=>td
abbrev cg (lo:Ki)(n:Kb):J2 W:=(Kj n).map λ(k:Kb)=>.int (lo+(k:Ki))
abbrev rM (f:FA):FI:=λZ S=>match f Z S with
 |some ([.int j],S1)=>if -(2^62)<=j/\j<2^62 then gV (.its (cg 0 j.toNat),S1)else td
 |_=>td
abbrev iRng2 (f:FA):FI:=λZ S=>match f Z S with
 |some ([.int i,.int j],S1)=>if -(2^62)<=i/\i<2^62/\-(2^62)<=j/\j<2^62 then gV (.its (cg i (j-i).toNat),S1)else td
 |_=>td
abbrev fO (mi:MI)(g:FG)(b:FS):Kb->Kb->FS
 |0,i,Z,S=>match mi.at S i with
  |some td=>gV (.nx Z,S)
  |_=>td
 |n+1,i,Z,S=>match mi.at S i with
  |some (gV w)=>match g w Z S with
   |some (d,S1)=>match b d S1 with
    |some (.nx c,a)=>fO mi g b n (i+1) c a
    |some (.ct c,a)=>fO mi g b n (i+1) c a
    |some (.bk c,a)=>gV (.nx c,a)
    |some (.rt w,a)=>gV (.rt w,a)
    |none=>td
   |none=>td
  |_=>td
abbrev xU (a:FI)(g:FG)(b:FS):FS:=λZ S=>match a Z S with
 |some (mi,S1)=>match mi.len S1 with
  |some n=>fO mi g b n 0 Z S1
  |none=>td
 |none=>td
section
variable{X:Cx}
def Bt {A:J2 Kf}{H:Hp}{ws:J2 W}{a:Kf}{vs:J2 V}(h:SqT X.K H a vs)(r:RelL X.K A H ws vs):MIt X.w X.K (.its ws) (FB X.K a) A H:=by
 show#[λd f S i w e c hi=>?_,λd f S i e c hi=>?_]
 ·simp only[MI.at,K1]at hi;obtain⟨v,b,g⟩:=(r.mono e).get hi;show#[#[vs,v,e.tp _ _ h,b],λx k #[j,z2]=>?_]
  subst j;have:=z2 vs (e.tp _ _ h);rw[b]at this;cases this
  show#[.refl,c,g]
 ·simp only[MI.at,K1]at hi;show#[vs,e.tp _ _ h,?_];rw[<- ↥r];show Mg.mp hi
def Bu {A:J2 Kf}{H:Hp}{r:Kb}{a:Kf}(g:A[r]?=gV a):MIt X.w X.K (.live r) (Ix X.K a) A H:=by
 show#[λj k S i w e c hi=>?_,λj k S i e c hi=>?_]
 ·simp only[MI.at]at hi;split at hi
  ·rename_i xs d;simp only[K1]at hi;obtain⟨vs,b,f⟩:=bg c d (e.ad _ _ g);obtain⟨v,h,l⟩:=f.get hi;show#[#[vs,v,b,h],λx n #[m,z2]=>?_]
   subst m;have:=z2 vs b;rw[h]at this;cases this
   show#[.refl,c,l]
  ·cases hi
 ·simp only[MI.at]at hi;split at hi
  ·rename_i xs d;simp only[K1]at hi;obtain⟨vs,b,f⟩:=bg c d (e.ad _ _ g);show#[vs,b,?_];rw[<- ↥f];show Mg.mp hi
  ·cases hi
def dN {lo:Ki}{n i:Kb}:(cg lo n)[i]?=if i<n then gV (.int (lo+i))else td:=by
 unfold cg;rw[Kg]
 by_cases h:i<n
 ·rw[KC h,LO h];rfl
 ·rw[KS h,Mg.mpr (by simp;omega)];rfl
def tK {A:J2 Kf}{H:Hp}{lo:Ki}{n:Kb}:MIt X.w X.K (.its (cg lo n)) (F4 lo n) A H:=by
 show#[λb c S i w e a hi=>?_,λb c S i e a hi=>?_]
 ·simp only[MI.at,K1]at hi;rw[dN]at hi;split at hi
  ·cases hi;show#[by assumption,λx f #[d,z2]=>?_]
   subst d z2;show#[.refl,a,.int]
  ·cases hi
 ·simp only[MI.at,K1]at hi;rw[dN]at hi;split at hi
  ·cases hi
  ·change n<=i;omega
def pU {tg:KO}{J:J2 (Kf×L5)}{Y:L2.St}{d:Hp}{c:J8}{R:It->Hp->Prop}{a:Kf}{xs:J2 V}{v:J5}(f:Inv X J Y d c)(i:RelV (.ref a) v)(h:SqL X.K d a xs)(q:R (Ix X.K a) d) :
  wpAny (model X.prog X.w) X.A (pyIter v) (HS X J Y tg R) X.xe c:=by
 cases i;obtain⟨its,k,p,j⟩:=f.list h;show M5 p.isList ?_;show#[⇑c.heap.objs,[⇑c.heap.objs],_,_,d,rfl,f.kept (t':=c.toks) λb o e=>J7 _ e,uQ a _,#[_,Kr _ rfl,rfl,rfl],λb g=>?_,q]
 have e:b=⇑c.heap.objs:=by simpa using g
 subst e;show f.fpOk (Kl _) (f.hok.fresh (Kl _))
def rN {tg:KO}{J:J2 (Kf×L5)}{Y:L2.St}{d:Hp}{c:J8}{R:It->Hp->Prop}{a:Kf}{xs:J2 V}{v:J5}(f:Inv X J Y d c)(i:RelV (.ref a) v)(h:SqT X.K d a xs)(q:R (FB X.K a) d) :
  wpAny (model X.prog X.w) X.A (pyIter v) (HS X J Y tg R) X.xe c:=by
 cases i;obtain⟨its,k,p,j⟩:=f.tuple h;show NX (show c.heap.IsTuple a its.toArray from p) ?_
 show#[⇑c.heap.objs,[⇑c.heap.objs],_,_,d,rfl,f.kept (t':=c.toks) λb o e=>J7 _ e,qX a _,#[_,Kr _ rfl,rfl,rfl],λb g=>?_,q]
 have e:b=⇑c.heap.objs:=by simpa using g
 subst e;show f.fpOk (Kl _) (f.hok.fresh (Kl _))
def Bv {tg a:KO}{f:FA}{p pos:MN}(i:Gl X "range")(k:X.mg "range" = td)(h:GA X [a] f)(m:starEach [a] X.env=[(false,eval a X.env)]):GI X tg (.Call (.Name "range" p) [a] [] pos) (rM f):=by
 intro J s Y H R I ⟨A,Z,S,mi,S',d,o,e,l⟩;unfold rM at e;split at e
 ·rename_i j S1 g;split at e
  ·rename_i b;cases e;show uR i k h m J s Y H R I #[A,Z,S,_,_,d,o,g,λvs q #[c,z1,z2,z3]=>?_]
   cases z3 with
   |cons n t=>
    cases t;cases n;show#[j,rfl,b.1,b.2,l _ _ c z1 z2 tK]
  ·cases e
 ·cases e
def Bw {tg a b:KO}{f:FA}{p pos:MN}(l:Gl X "range")(n:X.mg "range" = td)(k:GA X [a,b] f)(q:starEach [a,b] X.env=[(false,eval a X.env),(false,eval b X.env)])(c:starEach [b] X.env=[(false,eval b X.env)]):GI X tg (.Call (.Name "range" p) [a,b] [] pos) (iRng2 f):=by
 intro J s Y H R I ⟨A,Z,S,mi,S',g,v,e,o⟩;unfold iRng2 at e;split at e
 ·rename_i i j S1 h;split at e
  ·rename_i m;cases e;show uS l n k q c J s Y H R I #[A,Z,S,_,_,g,v,h,λvs w #[d,z1,z2,z3]=>?_]
   cases z3 with
   |cons r t=>
    cases t with
    |cons u t=>
     cases t;cases r;cases u;show#[i,j,rfl,m,o _ _ d z1 z2 tK]
  ·cases e
 ·cases e
def Et {tg l:KO}{f:FE}(h:GE X l f):GI X tg l (Bs f):=by
 intro J s Y H R I ⟨A,Z,S,mi,S',d,i,e,g⟩;unfold Bs at e;split at e
 ·rename_i ws S1 b;cases e;show bf (h J s Y H (EndV X.w X.K A H _ (.tup ws)) I #[A,Z,S,_,_,d,i,b,λ_ _ z=>z]) λv m #[x,H1,I1,r1,A1,e1,o1,z1]=>?_
  cases z1 with
  |tup a k=>
   show rN I1 r1 a (g _ _ A1 e1 o1 (Bt a k))
 ·rename_i r S1 b;split at e
  ·rename_i ys j;cases e;show bf (h J s Y H (EndV X.w X.K A H _ (.ref r)) I #[A,Z,S,_,_,d,i,b,λ_ _ z=>z]) λv m #[x,H1,I1,r1,A1,e1,o1,z1]=>?_
   cases z1 with
   |ref c=>
    obtain⟨vs,hl,_⟩:=bg o1 j c;show pU I1 r1 hl (g _ _ A1 e1 o1 (Bu c))
  ·cases e
 ·cases e
def Eu {tg iter:KO}{body:J2 Nb}{pos:MN}{Q:FI}{g:FG}{fb:FS}(hp:Qe (model X.prog X.w) X.A X.env X.xe)(hc:X.calm=true)(hi:GI X tg iter Q)(hg:GG X tg g)(hb:GSs X body fb)
  (L:∀x,foldedSetIterable iter X.env x=pure x):GS X (.For tg iter body [] pos) (xU Q g fb):=GS.of (DK hp hc hi hg hb L) λY H A Z S o S' P so e D hd=>by
 unfold xU at e;split at e
 ·rename_i mi S1 V;split at e
  ·rename_i n hn;show#[A,Z,S,mi,S1,P,so,V,λtx I u E z2 t=>?_]
   show#[λi m M l=>∃b y r,Ext X.K u I b l/\EnvRel X.K b l y M/\StoreOk X.w X.K b l r/\fO mi g fb m i y r=gV (o,S'),#[n,u,Z,S1,.refl,P.mono E,z2,e],?_]
   rintro i m M l ⟨b,y,r,z,s,k,w2⟩;cases m with
   |zero=>
    dsimp only[fO]at w2;split at w2
    ·rename_i L;cases w2;show .inl #[t.stop b l _ i z k L,hd.nx _ _ #[_,b,rfl,E.trans z,k,s]]
    ·cases w2
   |succ m=>
    dsimp only[fO]at w2;split at w2
    ·rename_i w hw;obtain⟨go,yl⟩:=t.go b l r i w z k hw;show .inr #[go,λU q=>∃G d c,Ext X.K u I G q/\EnvRel X.K G q d U/\StoreOk X.w X.K G q c/\fO mi g fb m (i+1) d c=gV (o,S'),λJ a h=>#[m,Ng _,h],λx q hy=>?_]
     obtain⟨R,x2,x3⟩:=yl x q hy;split at w2
     ·rename_i d c W;show#[b,y,r,w,d,c,s.mono R,x2,x3,W,λY4 T p y1 B C=>?_]
      have ex:Ext X.K u I p T:=(z.trans R).trans y1;split at w2
      ·rename_i O f j;show#[p,d,c,_,f,C,B,j,#[λJ a #[N,A',u0,u1,u2,u3]=>?_,λv a #[w,A',y0,_,_,_]=>(by cases y0),λv a #[w,A',y0,_,_,_]=>(by cases y0),λv a #[w,A',y0,_,_,_]=>(by cases y0)]]
       cases u0;show#[A',_,f,ex.trans u1,u3,u2,w2]
      ·rename_i O f j;show#[p,d,c,_,f,C,B,j,#[λv a #[w,A',y0,_,_,_]=>(by cases y0),λv a #[w,A',y0,_,_,_]=>(by cases y0),λv a #[w,A',y0,_,_,_]=>(by cases y0),λJ a #[N,A',u0,u1,u2,u3]=>?_]]
       cases u0;show#[A',_,f,ex.trans u1,u3,u2,w2]
      ·rename_i O f j;cases w2;show#[p,d,c,_,_,C,B,j,#[λv a #[w,A',y0,_,_,_]=>(by cases y0),λv a #[w,A',y0,_,_,_]=>(by cases y0),λJ a #[N,A',u0,u1,u2,u3]=>?_,λv a #[w,A',y0,_,_,_]=>(by cases y0)]]
       cases u0;show hd.nx _ _ #[_,A',rfl,(E.trans ex).trans u1,u2,u3]
      ·rename_i w5 f j;cases w2;show#[p,d,c,_,_,C,B,j,#[λv a #[w,A',y0,_,_,_]=>(by cases y0),λv a #[w,A',u0,u1,u2,u3]=>?_,λv a #[w,A',y0,_,_,_]=>(by cases y0),λv a #[w,A',y0,_,_,_]=>(by cases y0)]]
       cases u0;show hd.rt _ _ #[_,A',rfl,(E.trans ex).trans u1,u2,u3]
      ·cases w2
     ·cases w2
    ·cases w2
  ·cases e
 ·cases e
end
section
variable{prog:KQ}{w:K8}{B:KZ}{E:J5->J8->Prop}{s:J8}
def Bx {d:Kf}{es:Lm MH}{ep:Kb}{Q:J5->J8->Prop}(hd:(d==sysModules)=false)(e:RawD d es ep s.heap)(c:(⇑es:Ki)<2^63)
  (h:Q (.int ⇑es (s.toks+1)) {s with toks:=s.toks+1+1}):wpAny (model prog w) B (call (.builtin "len") [.ref d]) Q E s:=by
 have b:=e.type;obtain⟨o,f,hc,a⟩:=id e;show OO kind_len plain_len entry_len (args_len1 _) ?_;unfold M4.«len»;show J3 (m:=oneArg "len" _) (Kd ?_);show J3 (m:=callSpecial? (.ref d) (Mw "__len__")) (Lw (name:=Mw "__len__") b F.slot_dict_len (LP F.slot_dict_len b F.entry_dict_len ?_ (F.args_dict_len_1 _)));change wpAny _ _ (dictSize d >>= _) _ _ s;unfold dictSize;show J3 (J3 (N6 f a (Kd ?_)));change wpAny _ _ (R9 d >>= _) _ _ s;show J3 (wpAny_pendingCount_other hd ?_);show wpAny_ret_mkInt ?_;rw[Nat.add_zero];change wpAny _ _ _ _ _ {s with toks:=s.toks+1}
 show J3 (LN (Kd ?_));show J3 (NB ?_);change wpAny _ _ (if ((⇑es:Kb):Ki)<0 then _ else _) _ _ _
 rw[KS ∅]
 change wpAny _ _ (if ((⇑es:Kb):Ki)>=2^63 then _ else _) _ _ _
 rw[KS ∅]
 show J3 (Ry (Kd #[_,rfl,h]))
end
section
variable{X:Cx}{J:J2 (Kf×L5)}{Y:L2.St}{H:Hp}{s:J8}{A:J2 Kf}{S:aa}
def rO:LCall X (.builtin "len") pI:=by
 intro J s Y H A S xs vs us w S' I b c f e
 by_cases hd:∃i U,xs=[.ref i]/\gO S i=gV U
 ·obtain⟨i,U,rfl,hk⟩:=hd;simp only[pI,hk]at e;cases e;cases c with
  |cons r t=>
   cases t;cases f with
   |cons l a=>
    cases a;cases r with
    |ref g=>
     obtain⟨xs,k,j⟩:=fJ b hk g;have d:=b8 I k;obtain⟨es,ep,raw,h⟩:=d.raw;obtain rfl:_=Lc _:=l;have hl:⇑es=↥xs:=by rw[<- K9,h,J4]
     have n:=d.1;have m:sizeLine=16777216:=Lu;show Bx d.2.1 raw ∅ #[.int ↥U,H,A,I.tok _,#[_,by rw[↥j,hl]],.refl,b,.int]
 ·have:pI xs S=kA xs S:=by
   unfold pI;split
   ·rename_i i;split
    ·rename_i U hk;show absurd #[i,U,rfl,hk] hd
    ·rfl
   ·rfl
  rw[this]at e;show u8 J s Y H A S xs vs us w S' I b c f e
abbrev JF (S:aa):W->J9 LV
 |.non=>gV "NoneType"|.bl _=>gV "bool"|.int _=>gV "int"|.str _=>gV "str"|.tup _=>gV "tuple"
 |.ref i=>match dU S i with
  |some _=>gV "list"
  |none=>(gO S i).map λ_=>"dict"
abbrev tL:J2 LV:=["bool","int","str","tuple","list","dict"]
abbrev z7 (S:aa)(x:W)(c:LV):J9 KR:=match JF S x with
 |some t=>if tL.contains c then gV (t==c||(t == "bool" && c == "int"))else td
 |none=>td
def hW {K:Km}{t c:LV}(a:t∈["NoneType","bool","int","str","tuple","list","dict"])(hc:c∈tL):PySem.W.kitOne K (.type t) (.type c)=gV (t==c||(t == "bool" && c == "int")):=by
 simp only[tL,KH,Lg,Mh]at a hc;rcases a with rfl|rfl|rfl|rfl|rfl|rfl|rfl<;>rcases hc with rfl|rfl|rfl|rfl|rfl|rfl<;>rfl
def xV:CallR X (.builtin "isinstance") (λvs H Q=>∃A S x v c b,vs=[v,.ty c]/\StoreOk X.w X.K A H S/\Rel X.K A H x v/\z7 S x c=gV b/\Q (.bl b) H):=by
 intro J s Y H vs us Q I j ⟨A,S,x,v,c,b,r,n,D,e,u⟩;subst r;cases j with
 |cons f k=>cases k with
  |cons B l=>
   cases l;obtain rfl:_=MK c:=B;unfold z7 at e;split at e
   ·rename_i t d;split at e
    ·rename_i hc;cases e;have a:c∈tL:=by simpa using hc
     have fin:∀tk,EP X J Y Q (.bool (t==c||(t == "bool" && c == "int"))) {s with toks:=tk}:=λtk=>#[.bl _,H,I.tok _,rfl,u]
     cases D with
     |non=>cases d;cases(show _=LB from f);show M1 PySem.W.kitx_none I.kIn M8 (hW (by simp) a) (λz=>nomatch z) fin
     |bl=>cases d;cases(show _=Nz _ from f);show M1 PySem.W.kitx_bool I.kIn M8 (hW (by simp) a) (λz=>nomatch z) fin
     |int=>cases d;obtain⟨t',q⟩:=(show ∃t,_=Oq _ t from f);cases q;show M1 PySem.W.kitx_int I.kIn M8 (hW (by simp) a) (λz=>nomatch z) fin
     |str=>cases d;obtain⟨t',q⟩:=(show ∃t,_=Os _ t from f);cases q;show M1 PySem.W.kitx_str I.kIn M8 (hW (by simp) a) (λz=>nomatch z) fin
     |tup i y=>
      cases d;obtain⟨its,j,⟨o,g,h,_⟩,w⟩:=I.tuple i;cases(show _=Lc _ from f)
      show M1 PySem.W.kitx_tuple I.kIn #[o,g,h] (hW (by simp) a) (λz=>nomatch z) fin
     |ref m=>
      cases(show _=Lc _ from f)
      simp only[JF]at d;split at d
      ·rename_i ws hw;cases d;obtain⟨vs,i,_⟩:=bg n hw m;obtain⟨its,j,p,w⟩:=I.list i;obtain⟨o,g,h,_⟩:=p.isList;show M1 PySem.W.kitx_list I.kIn #[o,g,h] (hW (by simp) a) (λz=>nomatch z) fin
      ·rw[J6]at d;obtain⟨U,hk,rfl⟩:=d;obtain⟨xs,C,G⟩:=fJ n hk m;obtain⟨es,ep,⟨o,g,h,_⟩,E⟩:=(b8 I C).raw;show M1 PySem.W.kitx_dict I.kIn #[o,g,h.1] (hW (by simp) a) (λz=>nomatch z) fin
    ·cases e
   ·cases e
abbrev xW (c:LV)(f:FE):FE:=λZ S=>match f Z S with
 |some (x,S1)=>(z7 S1 x c).map λb=>(.bl b,S1)
 |none=>td
def Ev {cn:KG}{c:LV}{e:KO}{p p2 pos:MN}{f:FE}(s:Gl X "isinstance")(t:X.mg "isinstance" = td)(d:Gl X cn)(g:X.mg cn=td)(i:bootBuiltins cn=gV (.type c))(h:cn≠"__name__")(a:(cn==("__debug__": KG))=false)
  (r:GE X e f) (k:starEach [e,.Name cn p2] X.env=(false,eval e X.env)::starEach [.Name cn p2] X.env):GE X (.Call (.Name "isinstance" p) [e,.Name cn p2] [] pos) (xW c f):=
 GE.of (oY (xV) s t rfl (nk r (nk (Ac (v:=.ty c) d g i rfl h a) wF) k) #v[] #v[] k rfl) λY H A Z S w S' o x e Q u=>by
  unfold xW at e;split at e
  ·rename_i l S1 q;rw[J6]at e;obtain⟨b,m,n⟩:=e;cases n;show#[A,Z,S,l,_,o,x,q,λv y #[j,z1,z2,z3]=>#[j,_,l,v,c,b,rfl,z2,z3,m,u _ _ #[j,z1,z2,.bl]]]
  ·cases e
end
abbrev de:J2 (T×W)->J2 W->J9 (J2 (T×W))
 |U,[]=>gV U
 |U,k::v::ws=>match gH k with
  |some t=>de (dM U t v) ws
  |none=>td
 |_,[_]=>td
abbrev CM:FE:=λ_ S=>gV (.ref ↥S,S++[.dic []])
abbrev pV (f:FA):FE:=λZ S=>match f Z (S++[.dic []])with
 |some (ws,S1)=>match S1[↥S]? with
  |some (.dic [])=>match de [] ws with
   |some U=>gV (.ref ↥S,S1.set ↥S (.dic U))
   |none=>td
  |_=>td
 |none=>td
section
variable (K:Km) (A:J2 Kf) (H:Hp)
inductive RelP:J2 W->J2 (V×V)->Prop
 |nil:RelP [] []
 |cons {k v:W}{a b:V}{ws:J2 W}{ps:J2 (V×V)}:Rel K A H k a->Rel K A H v b->RelP ws ps->RelP (k::v::ws) ((a,b)::ps)
end
def RelP.mono {K:Km}{A d:J2 Kf}{H f:Hp}(e:Ext K A H d f){ws:J2 W}{ps:J2 (V×V)}(h:RelP K A H ws ps):RelP K d f ws ps:=by
 induction h with
 |nil=>show .nil
 |cons a b c ih=>show .cons (a.mono e) (b.mono e) ih
section
variable{X:Cx}{J:J2 (Kf×L5)}{Y:L2.St}{H:Hp}{s:J8}{A:J2 Kf}{S:aa}
abbrev IY (X:Cx)(A:J2 Kf)(H:Hp)(S':aa)(ws:J2 W):J2 (V×V)->Hp->Prop:=λps b=>∃a,Ext X.K A H a b/\StoreOk X.w X.K a b S'/\RelP X.K a b ws ps
abbrev GJ (X:Cx)(pos:MN)(keys:J2 (J9 KO))(a:J2 KO)(f:FA):Prop:=
 ∀(J:J2 (Kf×L5)) (s:J8) (Y:L2.St) (H:Hp) (A:J2 Kf) (Z:Fm) (S:aa) (ws:J2 W) (S':aa),Inv X J Y H s->EnvRel X.K A H Z Y->StoreOk X.w X.K A H S->f Z S=gV (ws,S')->
  wpAny (model X.prog X.w) X.A (evalPairs (pairTrees keys a X.env pos)) (λvs c=>∃ps b,Inv X J Y b c/\VV ps vs/\IY X A H S' ws ps b) X.xe s
def By {pos:MN}:GJ X pos [] [] fN:=λJ s Y H A Z S ws S' I b a e=>by
 cases e;show pairTrees_nil_walk #[[],H,I,.nil,A,.refl,a,.nil]
def xX {pos:MN}{k v:KO}{ks:J2 (J9 KO)}{vs:J2 KO}{d g:FE}{f:FA}(hk:GE X k d)(m:GE X v g)(l:GJ X pos ks vs f):GJ X pos (gV k::ks) (v::vs) (cu d (cu g f)):=λJ s Y H A Z S ws S' I b p e=>by
 unfold cu at e;split at e
 ·rename_i r S1 h;split at e
  ·rename_i w2 w a;cases e;split at a
   ·rename_i w3 c i;split at a
    ·rename_i D y j;cases a;show pairTrees_cons_walk (bf (hk J s Y H (EndV X.w X.K A H S1 r) I #[A,Z,S,_,_,b,p,h,λ_ _ z=>z]) λu n #[x,H1,I1,r1,A1,e1,o1,z1]=>
      bf (m J n Y H1 (EndV X.w X.K A1 H1 c w3) I1 #[A1,Z,S1,_,_,b.mono e1,o1,i,λ_ _ z=>z]) λC o #[t,H2,I2,r2,A2,e2,o2,z2]=>
      bf (l J o Y H2 A2 Z c _ _ I2 (b.mono (e1.trans e2)) o2 j) λq B #[ps,H3,I3,rel,A3,e3,o3,z3]=>?_)
     show#[(x,t)::ps,H3,I3,.cons #[r1,r2] rel,A3,e1.trans (e2.trans e3),o3,.cons (z1.mono (e2.trans e3)) (z2.mono e3) z3]
    ·cases a
   ·cases a
  ·cases e
 ·cases e
def mB {r:Kb}{d:Kf}{E:J5->J8->Prop}(hu:X.A.units+10<cLine):∀(vs:J2 (J5×J5)) (ps:J2 (V×V)) (ws:J2 W) (U f:J2 (T×W)) (s:J8) (H:Hp) (S:aa) (Q:PUnit->J8->Prop),
  Inv X J Y H s->StoreOk X.w X.K A H S->jd S r=gV U->A[r]?=gV d->RelP X.K A H ws ps->VV ps vs->de U ws=gV f->↥U+↥vs<=30->
  (∀v c,Inv X J Y c v->Ext X.K A H A c->StoreOk X.w X.K A c (S.set r (.dic f))->Q QE v)->
  wpAny (model X.prog X.w) X.A (forIn vs QE λ(x:J5×J5) (_:PUnit)=>(do dictSet d x.1 x.2;pure (Mq QE):SO (ForInStep PUnit))) Q E s
 |[],_,_,U,f,s,H,S,Q,I,w,k,p,L,P,e,hl,i=>by
  cases P;cases L;cases e;rw[OG];show Kd (i s H I .refl ?_);have Z:=iF k;have:S.set r (.dic U)=S:=by
   apply Rb;intro j;rw[Mx];split
   ·rename_i e;subst e
    split
    ·show Z.symm
    ·rename_i h;show absurd (Ko.mp Z).1 h
   ·rfl
  rw[this];show w
 |(ku,y)::vs,_,_,U,f,s,H,S,Q,I,w,k,p,L,P,e,hl,i=>by
  cases P with
  |cons hv R=>
   cases L with
   |@cons wk b va vb ws2 ps2 rk N M=>
    simp only[de]at e;split at e
    ·rename_i t ht;rw[NU];obtain⟨xs,C,kr⟩:=sX w k p;have a:=b8 I (.inl C);have dd:=a.dict I kr;obtain⟨bk,e1,z,m⟩:=iE ht rk hv.1;have z:ku=Lc bk:=z;subst z;obtain⟨q1,q2,q3⟩:=dD ht;rw[K5]at hl;have hz:↥xs<=sizeLine:=a.1;show J3 (J3 (wpAny_dictSet_heap (hsz:=hz) (show X.A.units+ba<cLine by unfold ba;omega) (je I m q3) dd λh' g hs=>Kd ?_))
     have l:=kr.put q2 q3 m N hv.2;have G:(storedH xs t bk y).length<=sizeLine:=by
      rw[<- ↥l];have h2:=d3 U t b;rw[Lu];omega
     have dn:DicAt X.w d (storedH xs t bk y) h':=.of G a.2.1 g;obtain⟨O,ex⟩:=w.writeO (iF k) rfl p (u:=dI X.w d (storedH xs t bk y)) (n:=.dic (dM U t b)) #[_,aE,l.mono (b7 (.ext C))];have I':Inv X J Y (bv H d (dI X.w d (storedH xs t bk y))) {s with heap:=h',toks:=s.toks+(cr X.prog X.w).draws t}:=iB I (by rw[C];show M8) hs (let ⟨q,_,_,i,_⟩:=g;#[q,i]) dn.ok
     have D:(S.set r (.dic (dM U t b)))[r]?=gV (.dic (dM U t b)):=by
      rw[Mx,KC rfl,KC (Ko.mp (iF k)).1]
     show mB hu vs _ _ (dM U t b) f _ _ _ Q I' O (by unfold jd;rw[D]) p (M.mono ex) R e (by have:=d3 U t b;omega) λv c I2 B o=>?_
     rw[List.set_set]at o;show i v c I2 (ex.trans B) o
    ·cases e
def Bz {pos:MN}:GE X (.Dict [] [] pos) CM:=λJ s Y H Q I #[A,Z,S,w,S',er,so,e,hq]=>by
 cases e;have b:=I.hok.fresh (Kl ⇑s.heap.objs);have c:DicAt X.w ⇑s.heap.objs [] (s.heap.push {cls:=.type "dict",data:=.dict #[]}):=#[Ml _,Nc.mpr (Ne.symm (KF I.big)),P7,_,#[],0,Kr _ rfl,#[rfl,rfl,rfl],rfl,rfl];show wpAny_Dict_empty #[.ref ⇑s.heap.objs,_,I.laid (a:=⇑s.heap.objs) (o:=dI X.w ⇑s.heap.objs []) (t':=s.toks) (λ_ _ q=>J7 _ q) (Kl _) c.ok,rfl,hq _ _ #[A++[⇑s.heap.objs],bO b,so.pushO b #[[],aE,.nil],.ref ?_]]
 rw[<- so.len];simp
def BA {pos:MN}{keys:J2 (J9 KO)}{b:J2 KO}{f:FA}(V:X.A.units+10<cLine)(h:GJ X pos keys b f)(c:keys.all (·.isSome)=true)(hl:↥keys=↥b)(M:keys≠[])(O:↥keys<=15):GE X (.Dict keys b pos) (pV f):=by
 intro J s Y H Q I ⟨A,Z,S,w,S',L,y,e,T⟩;unfold pV at e;split at e
 ·rename_i ws S1 N;split at e
  ·rename_i m;split at e
   ·rename_i U R;cases e;have x:=I.hok.fresh (Kl ⇑s.heap.objs);have G:DicAt X.w ⇑s.heap.objs [] (s.heap.push {cls:=.type "dict",data:=.dict #[]}):=#[Ml _,Nc.mpr (Ne.symm (KF I.big)),P7,_,#[],0,Kr _ rfl,#[rfl,rfl,rfl],rfl,rfl];have C:=I.laid (a:=⇑s.heap.objs) (o:=dI X.w ⇑s.heap.objs []) (h':=s.heap.push {cls:=.type "dict",data:=.dict #[]}) (t':=s.toks) (λ_ _ q=>J7 _ q) (Kl _) G.ok
    have g:Ext X.K A H (A++[⇑s.heap.objs]) (bv H ⇑s.heap.objs (dI X.w ⇑s.heap.objs [])):=bO x;have p:StoreOk X.w X.K (A++[⇑s.heap.objs]) (bv H ⇑s.heap.objs (dI X.w ⇑s.heap.objs [])) (S++[.dic []]):=y.pushO x #[[],aE,.nil];have d:=pairTrees_length keys b X.env pos c hl;have n:pairTrees keys b X.env pos≠[]:=λP=>by
     rw[P]at d;show M (Nh.mp d.symm)
    rw[arm_eval_Dict,zip_pairTrees keys b X.env pos c hl,dictDisplay_pairs _ n ∅]
    show J3 (Oh (J3 ?_));unfold subDict;show J3 (Ta ?_);show J3 (LN ?_);rw[KC ∅]
    show J3 (Mj (wpAny_evalPairs_len (h J _ Y _ _ Z _ _ _ C (L.mono g) p N)) (λvs k j=>?_) λ_ _ e=>e)
    obtain⟨W,ps,B,D,vv,u,i,r,rp⟩:=j;show LN ?_;have v:u[↥S]?=gV ⇑s.heap.objs:=i.ad _ _ (by rw[<- y.len];simp)
    show J3 (mB V vs ps ws [] U k B S1 _ D r (by unfold jd;rw[m]) v rp vv R (by rw[Mb];omega) λs' z E l t=>?_)
    show Kd (Kd (Kd #[.ref ⇑s.heap.objs,z,E,rfl,T _ _ #[u,g.trans (i.trans l),t,.ref v]]))
   ·cases e
  ·cases e
 ·cases e
end
abbrev JG (wd:K8)(a:Kf)(o:L5)(xs:J2 (T×Kf×J5)):It:=
 #[λi H=>H a=gV (.frz o (dI wd a xs))/\i<↥xs,λi H x b=>b=H/\∃q,xs[i]?=gV q/\x=.ref q.2.1,λi H=>H a=gV (.frz o (dI wd a xs))/\↥xs<=i]
def vy {P:KQ}{w:K8}{K:Km}{tg:KO}(a it:Kf){o:L5}{es:Lm MH}{ep:Kb}{xs:J2 (T×Kf×J5)}(B:o.ExactDict)(hd:o.data=.dict es ep)(x:es.toList=xs.map (xf w)) :
  Turn P w K tg (JG w a o xs) [it] it (λi h=>h.IsKeyIter it a i ⇑es ep) where
 mem:=by simp
 obj:=λi h st b f=>by
  have e:b=it:=by simpa using f
  subst e;obtain⟨o,e,c,d⟩:=st;show#[o,e,λv z=>by rw[d]at z;cases z]
 keep:=λi h h' st k=>st.at λo e=>k it (by simp) o e
 item:=by
  intro X u hw hK hc i J s Y H E I l st y;subst u hw hK;obtain⟨t,hi⟩:=y;have A:s.heap.get? a=gV o:=(show ObjOk X.prog X.w H s.heap a (.frz o (dI X.w a xs))from I.hok a _ t).1
  have hl:⇑es=↥xs:=by rw[<- K9,x,J4]
  have g:i<⇑es:=∅
  obtain⟨m,n,G,p,q,r⟩:=l it (by simp)
  have hk:es[i].key=.ref (xs[i]).2.1:=by
   have:es.toList[i]?=gV (xf X.w xs[i]):=by rw[x,Kg,Ke hi];rfl
   rw[LL,NK g]at this;have:=LJ this;rw[this];rfl
  show pA st #[o,A,B,hd] g λh' j L=>?_
  have C:Inv X J Y H {s with heap:=h'}:=I.turned (t':=s.toks) (λb o f e=>(L.2 b f).trans e) m n p q r
  obtain⟨M,e,c,d⟩:=id j;show#[_,rfl,sK (s:={s with heap:=h'}) e c d #v[] #[.ref (xs[i]).2.1,H,C,hk,#[rfl,xs[i],Ke hi,rfl],j,λb f=>(l b f).1]]
 done:=by
  intro X u hw hK hc i J s Y H E I l st y;subst u hw hK;obtain⟨t,hi⟩:=y;have A:s.heap.get? a=gV o:=(show ObjOk X.prog X.w H s.heap a (.frz o (dI X.w a xs))from I.hok a _ t).1
  have hl:⇑es=↥xs:=by rw[<- K9,x,J4]
  obtain⟨m,n,G,p,q,r⟩:=l it (by simp)
  show sZ (I.ok.hd hc) st #[o,A,B,hd] ∅ λh' D=>#[rfl,I.turned (t':=s.toks) (λb o f e=>D b o f e) m n p q r]
 self:=λ_ _ _ _ _ st h=>P5 st h
abbrev d6 (f:FE):FI:=λZ S=>match f Z S with
 |some (.tup ws,S1)=>gV (.its ws,S1)
 |some (.ref r,S1)=>match dU S1 r with
  |some _=>gV (.live r,S1)
  |none=>match gO S1 r with
   |some U=>gV (.its (U.map λp=>p.1.w),S1.set r (.frd U))
   |none=>td
 |_=>td
section
variable{X:Cx}{J:J2 (Kf×L5)}{Y:L2.St}{H:Hp}{s:J8}{A:J2 Kf}{S:aa}
def xY {a:Kf}{o:L5}{U:J2 (T×W)}{xs:J2 (T×Kf×J5)}(c:H a=gV (.frz o (dI X.w a xs)))(d:KRel X.K A H U xs):MIt X.w X.K (.its (U.map λp=>p.1.w)) (JG X.w a o xs) A H:=by
 show#[λh j S i w e g hi=>?_,λh j S i e g hi=>?_]
 ·simp only[MI.at,K1]at hi;obtain⟨v,b,k⟩:=((d.mono e).keysL).get hi;rw[Kg,J6]at b;obtain⟨q,f,l⟩:=b;show#[#[e.fz _ _ _ c,(Ko.mp f).1],λx n #[m,q',z2,z3]=>?_]
  subst m z3;rw[f]at z2;cases z2
  show#[.refl,g,by rw[l];show k]
 ·simp only[MI.at,K1]at hi;show#[e.fz _ _ _ c,?_];have:=Mg.mp hi;rw[J4,↥d]at this;show this
def BB {tg l:KO}{f:FE}(h:GE X l f):GI X tg l (d6 f):=by
 intro J s Y H R I ⟨A,Z,S,mi,S',N,V,e,Q⟩
 by_cases hd:∃r S1 U,f Z S=gV (.ref r,S1)/\dU S1 r=td/\gO S1 r=gV U
 ·obtain⟨r,S1,U,O,y,c⟩:=hd;simp only[d6,O,y,c]at e;cases e;show bf (h J s Y H (EndV X.w X.K A H S1 (.ref r)) I #[A,Z,S,_,_,N,V,O,λ_ _ z=>z]) λv i #[x,H1,I1,r1,A1,e1,o1,z1]=>?_
  cases z1 with
  |@ref _ a C=>
   obtain rfl:v=Lc a:=r1;have W:∃o xs m,Inv X J Y m i/\Ext X.K A1 H1 A1 m/\StoreOk X.w X.K A1 m (S1.set r (.frd U))/\m a=gV (.frz o (dI X.w a xs))/\KRel X.K A1 m U xs:=by
    unfold gO at c;split at c
    ·rename_i k hk;cases c;obtain⟨xs,g,q⟩:=o1.obj r _ a hk C;have d:=b8 I1 (.inl g);obtain⟨_,_,_,o,es,ep,B,E,G,T⟩:=id d;obtain⟨L,ex⟩:=o1.writeO hk rfl C (u:=.frz o (dI X.w a xs)) (n:=.frd U) #[o,xs,aE,q.mono (b7 (.ext g))];show#[o,xs,_,iB (h':=i.heap) (t':=i.toks) (ob:=.frz o (dI X.w a xs)) I1 (by rw[g];show M8) (TC _ _) #[o,B] #[B,d.ok],ex,L,aE,q.mono ex]
    ·rename_i k hk;cases c;obtain⟨o,xs,g,q⟩:=o1.obj r _ a hk C;have:S1.set r (.frd U)=S1:=by
      apply Rb;intro j;rw[Mx];split
      ·rename_i e;subst e
       split
       ·show hk.symm
       ·rename_i h;show absurd (Ko.mp hk).1 h
      ·rfl
     rw[this];show#[o,xs,H1,I1,.refl,o1,g,q]
    ·cases c
   obtain⟨o,xs,m,t,ex,M,g,q⟩:=W;have d:=b8 t (.inr #[o,g]);have P:i.heap.get? a=gV o:=(show ObjOk X.prog X.w m i.heap a (.frz o (dI X.w a xs))from t.hok a _ g).1
   obtain⟨_,D,_,o',es,ep,B,E,G,T⟩:=id d;rw[P]at B;cases B;show pr D #[o,P,E,G] ?_;show#[⇑i.heap.objs,[⇑i.heap.objs],_,_,m,rfl,t.kept (t':=i.toks) λb o e=>J7 _ e,vy a _ E G T,#[_,Kr _ rfl,rfl,rfl],λb hb=>?_,Q _ _ A1 (e1.trans ex) M (xY g q)]
   have e:b=⇑i.heap.objs:=by simpa using hb
   subst e;show t.fpOk (Kl _) (t.hok.fresh (Kl _))
 ·have:d6 f Z S=Bs f Z S:=by
   unfold d6 Bs;cases hf:f Z S with
   |none=>rfl
   |some p=>
    obtain⟨w,S1⟩:=p;cases w with
    |ref r=>
     cases y:dU S1 r with
     |some _=>revert y
     |none=>
      cases c:gO S1 r with
      |none=>revert y c
      |some U=>show absurd #[r,S1,U,hf,y,c] hd
    |_=>rfl
  rw[this]at e;show Et h J s Y H R I #[A,Z,S,mi,S',N,V,e,Q]
end
abbrev jF (zs:J2 Ki):Kb:=(firstMet (λi=>zs.getD i 0) ↥zs).length
section
variable{prog:KQ}{w:K8}{A:KZ}{E:J5->J8->Prop}{s:J8}
set_option maxHeartbeats 4000000 in
def vz {l:Kf}{its:Lm J5}{zs:J2 Ki}{Q:J5->J8->Prop}(U:A.handled=td)(hl:s.heap.IsTuple l its)(hi:Qf its.toList zs)(hz:↥zs=⇑its)(m:⇑its+1<scanBound)
  (h:∀h' tk o,h'.get? ⇑s.heap.objs=gV o->D5 (jF zs) o->(∀b u,s.heap.get? b=gV u->h'.get? b=gV u)->Q (.ref ⇑s.heap.objs) {s with heap:=h',toks:=tk}):wpAny (model prog w) A (call (.type "set") [.ref l]) Q E s:=by
 obtain⟨c,tl,z⟩:=F.called_set.mro;have y:=F.called_set.made;have B:=F.called_set.sub;have X:=F.called_set.notType;have Y:=F.called_set.canCreate;have S:=F.typeCall_set_1 (.ref l);show wpAny_call (PC ?_);change wpAny _ _ (callAny (.type "set") _) _ _ _;show Kd #[QF _ (by decide +kernel),LQ F.entry_type_call ?_]
 rw[Around.under_plain (weight_type_call_type "set" [.ref l] []) rfl]
 repeat (any_goals (first|assumption|wp_step))
 show N3 (xt (w:=w) (.ref l) (E:=E) (Q₁:=λobj I=>obj=.ref ⇑s.heap.objs/\I={s with heap:=s.heap.push (dm w)}) #[rfl,rfl]) λr I d=>?_
 match r,d with
 |.ok (.ret obj),d=>
  obtain⟨rfl,rfl⟩:=d;have H:(s.heap.push (dm w)).get? ⇑s.heap.objs=gV (dm w):=Kr _ rfl;have tS:Shared.TypeIs {s with heap:=s.heap.push (dm w)} (.ref ⇑s.heap.objs) "set":=#[_,H,rfl]
  have V:=F.called_set.init.lookup;have P:=F.called_set.init.bind (.ref ⇑s.heap.objs)
  repeat (any_goals (first|assumption|wp_step))
  show N3 (codeAny_call_builtin (R:=wants (λr J=>r=.none/\∃h' tk o,J={s with heap:=h',toks:=tk}/\h'.get? ⇑s.heap.objs=gV o/\D5 (jF zs) o/\∀b u,s.heap.get? b=gV u->h'.get? b=gV u) E) F.called_set.init.plain F.entry_set_init (check_set_init_1 tS ?_)) λr2 J a=>?_
  ·obtain⟨⟨oc,od,ot,osl⟩,j,f,nl,g⟩:=id hl;simp only at f g;subst f g;have k:=J7 (dm w) j;have C:(s.heap.push (dm w)).IsTuple l its:=#[_,k,rfl,nl,rfl];have e1:=F.sub_tuple_set;have e2:=F.sub_tuple_frozenset;have e3:(MK "tuple" == MK "dict")=false:=by decide
   unfold M4.«set.__init__» noKeywords RD;generalize n:pyIter=PI
   wp_walk
   subst n;show NX C (J3 (OD ?_));have D:l<⇑s.heap.objs:=Kx j;have sz:(s.heap.push (dm w)).objs.size=⇑s.heap.objs+1:=MF ..;have ne:l≠(s.heap.push (dm w)).objs.size:=by rw[sz];show KF (OY D)
   show codeAny_set_update_loopS ((Walks.tuple (A:=A.in1.in1.in1) (by simp[U]) _ l ne its).toS) ⇑s.heap.objs (by rw[sz];revert KH Lg Mh P8;show#[KF (Ng _),LU D]) (λi=>zs.getD i 0) (λi v hv=>IntsAre.int_at hi i v (by rw[LL];show hv)) m (⇑its-0) 0 _ ∅ (Ml _) #[#[_,Kr _ rfl,rfl,rfl],C.push _] ?_ λL G p=>?_
   ·show SetOf_congr ((setObjOf_fresh (knd:=intKind prog w) (!Go w)).setOf (J7 _ H) (by unfold scanBound;omega)) (λ_=>rfl) rfl
   ·rw[Moved.eq_with G];obtain⟨o,Z,x,es,ep,t,hd,_,_,W,T⟩:=p.objOf;show Kd (Kd #[rfl,L.heap,L.toks,o,rfl,Z,#[x,es,ep,t,hd,by rw[W];unfold jF;rw[hz],T],λb u q=>?_])
    have m:=Kx q;show G.heap b u (by rw[sz];revert KH Lg Mh P8;show#[KF m,KF (OY m)]) (J7 _ (J7 _ q))
  ·match r2,a with
   |.ok (.ret r),a=>
    obtain⟨rfl,h',tk,o,rfl,M,N,O⟩:=a
    repeat (any_goals (first|assumption|wp_step))
    show h h' tk o M N O
   |.ok .next,a=>show a.elim
   |.ok .brk,a=>show a.elim
   |.ok .cont,a=>show a.elim
   |.error e,a=>show a
 |.ok .next,d=>show d.elim
 |.ok .brk,d=>show d.elim
 |.ok .cont,d=>show d.elim
 |.error e,d=>show d
def pW {zs:J2 Ki}(h:zs.Nodup):jF zs=↥zs:=by
 have b:∀i,i<=↥zs->firstMet (λi=>zs.getD i 0) i=zs.take i:=by
  intro i
  induction i with
  |zero=>intro _;simp[firstMet_zero]
  |succ i ih=>
   intro hi;rw[firstMet_succ,ih ∅,K7,Ke hi]
   have e:zs.getD i 0=zs[i]:=by rw[Kk,Ke hi];rfl
   have d:((zs.take i).any λx=>x==zs[i])=false:=by
    rw[N8];intro x f a;obtain⟨j,c,rfl⟩:=LS.mp f;rw[KY]at c;rw[Mm]at a;have:=(L1 h).mp (eq_of_beq a);omega
   change step_dedup _ (zs.getD i 0)=_;rw[e];unfold step_dedup;rw[KS (by rw[d];show KJ)]
   rfl
 unfold jF;rw[b _ (Kl _),Li]
end
abbrev kM:J2 W->J9 (J2 Ki)
 |[]=>gV []
 |.int z::ws=>(kM ws).map (z :: ·)
 |_=>td
abbrev jj (xs:J2 W)(S:aa):J9 (W×aa):=match xs with
 |[.tup ws]=>match kM ws with
  |some zs=>if ↥zs<=1000 then gV (.ref ↥S,S++[.sti (jF zs)])else td
  |none=>td
 |_=>td
abbrev xZ (xs:J2 W)(S:aa):J9 (W×aa):=match xs with
 |[.ref i]=>match S[i]? with
  |some (.sti n)=>if n<=1000 then gV (.int n,S)else td
  |_=>td
 |_=>td
section
variable{X:Cx}{J:J2 (Kf×L5)}{Y:L2.St}{H:Hp}{s:J8}{A:J2 Kf}{S:aa}
def kN {A:J2 Kf}{H:Hp}:∀{ws:J2 W}{vs:J2 V}{us:J2 J5}{zs:J2 Ki},RelL X.K A H ws vs->Vals vs us->kM ws=gV zs->Qf us zs/\↥zs=↥us
 |[],_,_,zs,.nil,.nil,h=>by cases h;show#[.nil,rfl]
 |.int z::ws,_,_,zs,.cons .int t,.cons d e,h=>by
  simp only[kM,J6]at h;obtain⟨f,c,rfl⟩:=h;obtain⟨tk,rfl⟩:=d;obtain⟨a,b⟩:=kN t e c;show#[.cons z tk a,by rw[K5,K5,b]]
 |.non::_,_,_,_,_,_,h|.bl _::_,_,_,_,_,_,h|.str _::_,_,_,_,_,_,h|.tup _::_,_,_,_,_,_,h|.ref _::_,_,_,_,_,_,h=>by cases h
def rP (j:X.A.handled=td):LCall X (.type "set") jj:=by
 intro J s Y H A S xs vs us w S' I z v y e;unfold jj at e;split at e
 ·rename_i ws;split at e
  ·rename_i zs l;split at e
   ·rename_i hl;cases e;cases v with
    |cons r t=>
     cases t;cases y with
     |cons x c=>
      cases c;cases r with
      |tup d n=>
       obtain⟨its,b,p,m⟩:=I.tuple d;obtain rfl:_=Lc _:=x;obtain⟨f,g⟩:=kN n b l;show vz (zs:=zs) j (show s.heap.IsTuple _ its.toArray from p) (by simpa using f) (by simpa using g) (by unfold scanBound;rw[Ks];omega) λh' tk o a i hk=>?_
       show c7 (dr:=s.drawn) (u:=.frz o (.ext λh=>h.get? ⇑s.heap.objs=gV o)) I z hk (Kl _) #[a,a,#[_,a],λd B q k=>k _ q] λC=>#[o,_,aE,i]
   ·cases e
  ·cases e
 ·cases e
def rQ:LCall X (.builtin "len") xZ:=by
 intro J s Y H A S xs vs us w S' I c j k e;unfold xZ at e;split at e
 ·rename_i i;obtain⟨a,d,rfl⟩:=eW (xs:=[]) j k;split at e
  ·rename_i n hi;split at e
   ·rename_i l;cases e;obtain⟨o,φ,q,b,es,ep,t,hd,h,f⟩:=c.obj i _ a hi d;have g:s.heap.get? a=gV o:=(show ObjOk X.prog X.w H s.heap a (.frz o (.ext φ))from I.hok a _ q).1
    show call_len_set g b hd f ∅ #[.int n,H,A,I.tok _,#[_,by rw[h]],.refl,c,.int]
   ·cases e
  ·cases e
 ·cases e
end
abbrev kP (xs:J2 W)(S:aa):J9 (W×aa):=match xs with
 |[.ref i]=>match dU S i with
  |some ws=>match kM ws with
   |some zs=>if ↥zs<=1000 then gV (.ref ↥S,S++[.sti (jF zs)])else td
   |none=>td
  |none=>td
 |_=>td
section
variable{X:Cx}{J:J2 (Kf×L5)}{Y:L2.St}{H:Hp}{s:J8}{A:J2 Kf}{S:aa}
def rR (y:X.A.handled=td):LCall X (.type "set") kP:=by
 intro J s Y H A S xs vs us w S' I l E G e;unfold kP at e;split at e
 ·rename_i i;obtain⟨a,m,rfl⟩:=eW (xs:=[]) E G;split at e
  ·rename_i ws hw;split at e
   ·rename_i zs B;split at e
    ·rename_i j;cases e;obtain⟨L,g,D⟩:=bg l hw m;obtain⟨its,f,p,C⟩:=I.list g;obtain⟨n,r⟩:=kN D f B;show call_set_list (ns:=zs) y p.isList (by simpa using n) (by unfold scanBound;rw[Ks];omega) λh' tk v hk=>?_
     obtain⟨o,d,c,es,ep,t,hd,_,_,j,x⟩:=v.objOf;show c7 (dr:=s.drawn) (u:=.frz o (.ext λh=>h.get? ⇑s.heap.objs=gV o)) I l (λb o e=>hk b o (Kx e) e) (Kl _) #[d,d,#[_,d],λg M q k=>k _ q] λz=>#[o,_,aE,c,es,ep,t,hd,by rw[j];unfold jF;rw[Ks,<- r],x]
    ·cases e
   ·cases e
  ·cases e
 ·cases e
end
abbrev bw (mi:MI)(g:FG)(c:FT)(f:FE):Kb->Kb->Fm->aa->J9 (J2 W×aa)
 |0,i,_,S=>match mi.at S i with
  |some td=>gV ([],S)
  |_=>td
 |n+1,i,Z,S=>match mi.at S i with
  |some (gV w)=>match g w Z S with
   |some (a,S1)=>match c a S1 with
    |some (true,b)=>match f a b with
     |some (y,d)=>match bw mi g c f n (i+1) a d with
      |some (ys,e)=>gV (y::ys,e)
      |none=>td
     |none=>td
    |some (false,b)=>bw mi g c f n (i+1) a b
    |none=>td
   |none=>td
  |_=>td
abbrev dO (a:J2 (J9 Kb))(Z:Fm):Fm:=a.map λo=>match o with
 |some j=>(Z[j]?).join
 |none=>td
abbrev kQ (d:FI)(g:FG)(c:FT)(f:FE)(a:J2 (J9 Kb)):FE:=λZ S=>match d Z S with
 |some (mi,S1)=>match mi.len S1 with
  |some n=>match bw mi g c f n 0 (dO a Z) S1 with
   |some (ys,b)=>lN b ys
   |none=>td
  |none=>td
 |none=>td
abbrev CN:FT:=λ_ S=>gV (true,S)
abbrev lK (X:Cx)(scope:Nv)(b:J2 (KG×Kf))(C:Kf)(N:J2 KG)(s0:J8)(a:Hp)(ex:J2 Kf):Cx:=
 {X with env:=compEnvC scope b C X.env,N:=N,s₀:=s0,H₀:=a,outer:=X.stack,stack:=X.stack,ex:=ex,fn:=λ_=>false,pn:=[],xe:=λ_ _=>LM}
structure CompOk (X:Cx)(scope:Nv)(cl:J2 (KG×Kf))(N:J2 KG)(cap:J2 (J9 Kb)):Prop where
 clos:closureFor scope X.env=pure cl
 kind:scope.kind=.function
 names:∀y∈scope.names,y.2=.local->scope.names.lookup y.1=gV .local
 nocell:∀y∈scope.names,y.2≠.cell
 sub:∀x c,cl.lookup x=gV c->X.env.cells.lookup x=gV c
 has:∀x,((relabel scope X.env).names.lookup x=gV .cell\/(relabel scope X.env).names.lookup x=gV .free)->∃c,cl.lookup x=gV c
 len:↥cap=↥N
 cap:∀(i j:Kb) (x:KG),cap[i]?=gV (gV j)->N[i]?=gV x->X.N[j]?=gV x/\(X.env.kindOf x=gV .cell\/X.env.kindOf x=gV .free)/\((relabel scope X.env).names.lookup x=gV .cell\/(relabel scope X.env).names.lookup x=gV .free)
def gJ {prog:KQ}{w:K8}{A:KZ}{R:Qx->J8->Prop}{s:J8}{k a iter:KO}{l:J2 KO}{scope:Nv}{pos:MN}{it acc:J5}{env:QP}(I:Kb->J8->Prop)
    (turn:∀n s,I n s->wpAny (model prog w) A (pyNext it) (λr b=>match r with
      |none=>R (.ok .next) b
      |some v=>wpAny (model prog w) A (letOwnedTupleGo a it v) (λ_ b=>wpAny (model prog w) A (assign a env v) (λ_ g=>
          wpAny (model prog w) A (forIn l true λc r=>if r=true then do let ok <- isTrue c env (eval c env);pure (Mq ok)else pure (Mq r)) (λok e=>
            if ok=true then wpAny (model prog w) A (eval k env) (λx i=>
              wpAny (model prog w) A (call (.builtin "list.append") [acc,x]) (λ_ j=>∃m,m<n/\I m j) (λ_ _=>LM) i) (λ_ _=>LM) e
            else ∃m,m<n/\I m e) (λ_ _=>LM) g) (λ_ _=>LM) b) (λ_ _=>LM) b) (λ_ _=>LM) s)
    (n:Kb) (h:I n s) :
    codeAny (model prog w) A (.compLoop (.ListComp k [#[a,iter,l,0]] scope pos) 0 it acc env) R s:=by
  show codeAny_loop rfl I (λn s t=>?_) n h
  change wpAny _ A ((compTurn (.ListComp k [#[a,iter,l,0]] scope pos) 0 it acc env).onRaise (λx=>do noteFrame x env;theTreesLotGoes x)) _ _ s
  show wpAny_noted ?_;rw[compTurn_list];show J3 (Oh (J3 (Mj (turn n s t) (λr b d=>?_) λ_ _ h'=>h'.elim)))
  cases r with
  |none=>show Kd d
  |some v=>
    show J3 (Mj d (λ_ b d=>?_) λ_ _ h'=>h'.elim)
    show J3 (Mj d (λ_ g o=>J3 (Mj o (λok e f=>?_) λ_ _ h'=>h'.elim)) λ_ _ h'=>h'.elim)
    cases ok with
    |false=>show Kd #[rfl,f]
    |true=>
      show J3 (J3 (Mj f (λx i p=>J3 (Mj p (λ_ j q=>Kd (Kd #[rfl,q])) λ_ _ h'=>h'.elim)) λ_ _ h'=>h'.elim))
section
variable{X:Cx}{J:J2 (Kf×L5)}{Y:L2.St}{H:Hp}{s:J8}
def Inv.adopt {D:Kf}{o:HO}(I:Inv X J Y H s)(l:H D=td)(g:D∈X.ex\/⇑X.s₀.heap.objs<=D)(j:D≠X.env.locals)(h:∀x c,X.env.cells.lookup x=gV c->c≠D)(i:∀p∈X.pn++J,p.1≠D)
  (new:ObjOk X.prog X.w (bv H D o) s.heap D o):Inv X J Y (bv H D o) s:=by
 have a:∀b u,H b=gV u->b≠D:=λb u e z=>by rw[z,l]at e;cases e
 have f:Inv X J Y (bv H D o) {s with heap:=s.heap,gens:=s.gens,drawn:=s.drawn,toks:=s.toks}:=by
  show I.step (g':=s.gens) (d':=s.drawn) (t':=s.toks) (h':=s.heap) (ch:=[D]) (λb d=>?_) (λb o _ _ hc e _=>e) (λb o _ _ hc e _=>#[o.slots,e]) (λb o hc e n=>?_)
   (λb o hc e=>#[o,e]) (λb xs e=>?_) (λb o xs e=>?_) (λb ps e=>#[#[],?_]) (λm k=>k) (λb u e=>?_) I.bare
  ·have e:b=D:=by simpa using d
   subst e;show#[g,j,h,i]
  ·rw[aD (λz=>hc (by simp[z]))];show n
  ·rw[aD (a b _ e)];show e
  ·rw[aD (a b _ e)];show e
  ·rw[aD (a b _ e),e];simp
  ·by_cases d:b=D
   ·subst d;rw[aE]at e;cases e;show new
   ·rw[aD d]at e;show(I.hok b u e).stay (λc v hc q=>q) (λc q=>?_) λc xs q=>?_
    ·rw[aD (a c _ q)];show q
    ·rw[aD (a c _ q)];show q
 show f
def Ew {scope:Nv}{i:J2 (KG×Kf)}{N:J2 KG}{g:J2 (J9 Kb)}{C:Kf}{s0:J8}{ex:J2 Kf}(I:Inv X J Y H s)(f:CompOk X scope i N g)(m:⇑s.heap.objs<=s0.heap.objs.size)(l:s0.heap.objs.size<=C)
  (hk:∀b o,s.heap.get? b=gV o->s0.heap.get? b=gV o) (a:∀b∈ex,(b≠C)/\(∀x c,X.env.cells.lookup x=gV c->c≠b)/\(∀o,X.base.get? b≠gV o)/\b∉qW X.stack) :
  (lK X scope i C N s0 H ex).Ok where
 mod:=I.ok.mod
 kind:=f.kind
 glob:=I.ok.glob
 blt:=I.ok.blt
 above:=l
 inj:=λx y c j k=>I.ok.inj x y c (f.sub x c j) (f.sub y c k)
 has:=λx h=>f.has x h
 cab:=λx c h=>by cases h
 hd:=I.ok.hd
 frames:=I.ok.frames
 stk:=.inl rfl
 exf:=λb d=>#[(a b d).1,λx c h=>(a b d).2.1 x c (f.sub x c h)]
 bs:=λb o e=>#[hk b o (I.bk b o e),(I.bs b o e).2]
 bsz:=Lq (Lq I.ok.bsz I.sz) m
 noex:=λb o e d=>(a b d).2.2.1 o e
 exfs:=λb d=>(a b d).2.2.2
 funs:=I.stack.of_keeps λb o e _=>#[o,hk b o e,rfl]
 frf:=I.stkFree
structure BlockOk (X:Cx)(scope:Nv)(cl:J2 (KG×Kf))(N:J2 KG)(tg elt:KO)(ifs:J2 KO)(g:FG)(c:FT)(f:FE):Prop where
 tgt:∀C s0 H0 ex,GG (lK X scope cl C N s0 H0 ex) tg g
 tst:∀C s0 H0 ex J s Y H Q,Inv (lK X scope cl C N s0 H0 ex) J Y H s->tT (lK X scope cl C N s0 H0 ex) c Y H Q->
  wpAny (model X.prog X.w) X.A (forIn ifs true λc r=>if r=true then do let ok <- isTrue c (compEnvC scope cl C X.env) (eval c (compEnvC scope cl C X.env));pure (Mq ok)else pure (Mq r)) (TP (lK X scope cl C N s0 H0 ex) J Y Q) (λ_ _=>LM) s
 elt:∀C s0 H0 ex,GE (lK X scope cl C N s0 H0 ex) elt f
def nS {prog:KQ}{w:K8}{B:KZ}{s:J8}{E:J5->J8->Prop}{Q:J5->J8->Prop}{D:Kf}{its:J2 J5}{n:Kb}{u:J5}(e:s.heap.get? D=gV {cls:=.type "list",data:=.seq its.toArray n})(i:↥its<sizeLine)
  (h:∀h' g,h'.get? D=gV {cls:=.type "list",data:=.seq (its++[u]).toArray g}->(∀b o,b≠D->s.heap.get? b=gV o->h'.get? b=gV o)->Q .none {s with heap:=h'}) :
  wpAny (model prog w) B (call (.builtin "list.append") [.ref D,u]) Q E s:=by
 show Nm F.slot_list_append #[_,e,rfl] F.entry_list_append (F.args_list_append_2 _ _) (QY D its.toArray n u (by rw[Ks];omega)) #[e,?_]
 have q:=Rn e (λa=>a.push u)
 have c:its.toArray.push u=(its++[u]).toArray:=by simp
 rw[c]at q;show h _ _ q (λb o d f=>(LF s.heap (L7 λa=>a.push u) (Ne.symm d)).trans f)
def mC {scope:Nv}{V:J2 (KG×Kf)}{N:J2 KG}{cap:J2 (J9 Kb)}{tg elt iter:KO}{ifs:J2 KO}{g:FG}{c:FT}{f:FE}{pos:MN}{A:J2 Kf}{Z:Fm}{S S':aa}{mi:MI}{n:Kb}{ws:J2 W}{E:J5->J8->Prop}
  {it:Kf}{t:J2 Kf}{tn:Kb->Lh->Prop}{tx:It}{RR:J5->Kf->Qx->J8->Prop}
  (I:Inv X J Y H s) (hc:X.calm=true) (er:EnvRel X.K A H Z Y) (so:StoreOk X.w X.K A H S) (ck:CompOk X scope V N cap) (bk:BlockOk X scope V N tg elt ifs g c f)
  (T:Turn X.prog X.w X.K tg tx t it tn) (t0:tn 0 s.heap) (M:∀b∈t,i7 X J H b) (mit:MIt X.w X.K mi tx A H) (e:bw mi g c f n 0 (dO cap Z) S=gV (ws,S')) (hz:↥ws<=sizeLine)
  (fin:∀D C R h B vs m,R.heap.Ns C m->h D=td->D≠C->C≠X.env.locals->C∉X.fs->h C=td->⇑X.s₀.heap.objs<=C->(∀x c,X.env.cells.lookup x=gV c->c≠C)->(∀p∈X.pn++J,p.1≠C)->
   Inv X J Y (bv h D (.lst vs)) R->Ext X.K A H B h->StoreOk X.w X.K B h S'->RelL X.K B h ws vs->RR (.ref D) C (.ok .next) R) :
  wpAny (model X.prog X.w) X.A (newList []) (λacc s₃=>wpAny (model X.prog X.w) X.A (newFunctionEnv scope X.env.globals V [] X.env.qual td .none (gV X.env)) (λcenv s₄=>
   codeAny (model X.prog X.w) X.A (.compStart (.ListComp elt [#[tg,iter,ifs,0]] scope pos) 0 (.ref it) acc {cenv with scope:=relabel scope X.env}) (RR acc cenv.locals) s₄) E s₃) E s:=by
 show Ly (wpAny_newFunctionEnv ck.nocell (by intro y hy;simp at hy) (λh₁ O Q=>?_) ck.kind)
 dsimp only at O Q ⊢;generalize hH2:s.heap.push {cls:=.type "list",dict:=td,data:=.seq ([]:J2 J5).toArray}=h2 at O Q ⊢;have hCs:⇑h2.objs=⇑s.heap.objs+1:=by rw[<- hH2,MF]
 have k2:∀b o,s.heap.get? b=gV o->h2.get? b=gV o:=λb o z=>hH2▸J7 _ z
 have lt2:∀b o,h2.get? b=gV o->b<⇑h2.objs:=λb o z=>Kx z
 have k1:∀b o,h2.get? b=gV o->h₁.get? b=gV o:=λb o z=>Q.extBut b o (KF (lt2 b o z)) (J7 _ z)
 have hD2:h2.get? ⇑s.heap.objs=gV {cls:=.type "list",data:=.seq ([]:J2 J5).toArray}:=hH2▸Kr _ rfl;have hDC:⇑s.heap.objs≠⇑h2.objs:=by rw[hCs];omega
 have fresh:∀a,⇑s.heap.objs<=a->H a=td:=λa ha=>I.hok.fresh ha
 have G:∀x c,X.env.cells.lookup x=gV c->c<⇑s.heap.objs:=λx c z=>let ⟨_,q⟩:=I.cell x c z;q.lt
 have fpLt:∀b∈t,b<⇑s.heap.objs:=λb d=>let ⟨_,q,_⟩:=T.obj 0 s.heap t0 b d;Kx q
 have stkLt:∀b∈qW X.stack,b<⇑s.heap.objs:=λb d=>let ⟨_,o,q,_⟩:=I.stack.mem d;Kx q
 have baseLt:∀b o,X.base.get? b=gV o->b<⇑s.heap.objs:=λb o z=>Kx (I.bk b o z)
 have fpStk:∀b∈t,b∉qW X.stack:=λb d z=>by
  rcases KH.mp (I.stkSub b z)with q|q
  ·show(M b d).2.1 q
  ·show(M b d).2.2.1 q
 have fpBase:∀b∈t,∀o,X.base.get? b≠gV o:=λb d o z=>by
  rcases(M b d).2.2.2.1 with q|q
  ·show I.ok.noex b o z q
  ·show absurd (Kw (Kx (I.ok.bs b o z).1) q) (LZ _)
 have ltC:∀{b:Kf},b<⇑s.heap.objs->b≠⇑h2.objs:=λd=>by rw[hCs];show KF (OY d)
 let s3:J8:={s with heap:=h2}
 have ok':(lK X scope V ⇑h2.objs N s3 H (t++[⇑s.heap.objs])).Ok:=by
  show Ew I ck (show ⇑s.heap.objs<=⇑h2.objs by rw[hCs];omega) (Kl _) k2 λb d=>?_
  rcases La.mp d with d|d
  ·show#[ltC (fpLt b d),(M b d).2.2.2.2.1,fpBase b d,fpStk b d]
  ·have eb:b=⇑s.heap.objs:=by simpa using d
   subst eb;show#[hDC,λx c z=>KF (G x c z),λo z=>LZ _ (baseLt _ o z),λz=>LZ _ (stkLt _ z)]
 obtain⟨m0,hn0,hl0⟩:=I.loc;have I0:Inv (lK X scope V ⇑h2.objs N s3 H (t++[⇑s.heap.objs])) [] (cap.map λo=>match o with|some j=>(Y[j]?).join|none=>td) H {s3 with heap:=h₁,toks:=s3.toks+([]:J2 (KG×J5)).length}:=by
  show#[ok',rfl,I.bare,Un.kept k1,#[_,O,λi x v e1 e2 e3=>?_],λx U z=>?_,fresh _ (show ⇑s.heap.objs<=⇑h2.objs by rw[hCs];show Nk _),λx U z=>I.freeC x U (ck.sub x U z),λp P=>absurd P (by simp[lK]),(I.hok.kept k2).kept k1,by rw[J4];show ck.len]
  ·rw[Kg]at e2;cases q:cap[i]? with
   |none=>rw[q]at e2;cases e2
   |some oj=>
    rw[q]at e2;cases oj with
    |none=>cases e2
    |some j=>
     obtain⟨z1,z2,z3⟩:=ck.cap i j x q e1;have e2':(Y[j]?).join=gV v:=by simpa using e2
     have e2'':Y[j]?=gV (gV v):=by
      cases r:Y[j]? with
      |none=>rw[r]at e2';cases e2'
      |some y=>rw[r]at e2';show congrArg gV e2'
     obtain⟨u,ru,lk⟩:=hl0 j x v z1 e2'' (by
      rcases z2 with z|z
      ·show .inr (.inl z)
      ·show .inr (.inr z))
     show#[u,ru,?_];rcases lk with⟨zk,_⟩|⟨_,U,zc,zi⟩
     ·rcases z2 with z|z<;>(rw[zk]at z;cases z)
     ·obtain⟨c2,hc2⟩:=ck.has x z3;have:=ck.sub x c2 hc2;rw[zc]at this;cases this
      show .inr #[z3,U,hc2,?_];obtain⟨o,ho,hd⟩:=zi;show#[o,k1 _ _ (k2 _ _ ho),hd]
  ·obtain⟨v,o,ho,hd⟩:=I.cell x U (ck.sub x U z);show#[v,o,k1 _ _ (k2 _ _ ho),hd]
 have er0:EnvRel X.K A H (dO cap Z) (cap.map λo=>match o with|some j=>(Y[j]?).join|none=>td):=by
  show#[by simp[dO],λi w q=>?_]
  unfold dO at q;rw[Kg]at q ⊢;cases r:cap[i]? with
  |none=>rw[r]at q;cases q
  |some oj=>
   rw[r]at q;cases oj with
   |none=>cases q
   |some j=>
    have q':(Z[j]?).join=gV w:=by simpa using q
    have q'':Z[j]?=gV (gV w):=by
     cases z:Z[j]? with
     |none=>rw[z]at q';cases q'
     |some y=>rw[z]at q';show congrArg gV q'
    obtain⟨v,z1,z2⟩:=er.2 j w q'';show#[v,by simp[z1],z2]
 have t1:tn 0 h₁:=T.keep 0 s.heap h₁ t0 λb d o z=>k1 b o (k2 b o z)
 have fpOk':∀{h:Hp}{pp:J2 (Kf×L5)},(∀b∈t,h b=td)->(∀p∈pp,p.1=⇑s.heap.objs)->∀b∈t,i7 (lK X scope V ⇑h2.objs N s3 H (t++[⇑s.heap.objs])) pp h b:=λhn P b d=>
  #[hn b d,ltC (fpLt b d),fpStk b d,.inl (Lo _ d),λx U z=>(M b d).2.2.2.2.1 x U (ck.sub x U z),λp hpp=>by
   rw[P p (by simpa [lK]using hpp)]
   show(KF (fpLt b d)).symm]
 have L:⇑s.heap.objs∈t++[⇑s.heap.objs]:=KW _ (by simp)
 have cellD:∀x c,V.lookup x=gV c->c≠⇑s.heap.objs:=λx U z=>KF (G x U (ck.sub x U z))
 have fpD:∀b∈t,b≠⇑s.heap.objs:=λb d=>KF (fpLt b d)
 have theEnd:∀R Y' h B vs its nn,Inv (lK X scope V ⇑h2.objs N s3 H (t++[⇑s.heap.objs])) [] Y' h R->R.heap.get? ⇑s.heap.objs=gV {cls:=.type "list",data:=.seq its nn}->∀(hits:∃l:J2 J5,its=l.toArray/\Vals vs l),h ⇑s.heap.objs=td->Ext X.K A H B h->StoreOk X.w X.K B h S'->RelL X.K B h ws vs->
   RR (.ref ⇑s.heap.objs) ⇑h2.objs (.ok .next) R:=by
  intro R Y' h B vs its nn I' hD hits hDn ex so' rl;obtain⟨l,rfl,rv⟩:=hits;obtain⟨m,hn,_⟩:=id I'.loc;have un:Un (qW X.stack) (t++[⇑s.heap.objs]) H h s.heap R.heap:=(Un.kept k2).trans I'.base;have hch:∀b∈t++[⇑s.heap.objs],(b∈X.ex\/⇑X.s₀.heap.objs<=b)/\b≠X.env.locals/\(∀x c,X.env.cells.lookup x=gV c->c≠b)/\∀p∈X.pn++J,p.1≠b:=λb d=>by
   rcases La.mp d with d|d
   ·show#[(M b d).2.2.2.1,(M b d).2.1,(M b d).2.2.2.2.1,(M b d).2.2.2.2.2]
   ·have eb:b=⇑s.heap.objs:=by simpa using d
    subst eb;show#[.inr I.sz,(KF I.lt).symm,λx U z=>KF (G x U z),λp P=>KF (Kx (I.pin p P).1)]
  have I2:Inv X J Y h R:=I.call' (show R.os=s.os from I'.os) un I'.hok I'.bare hch
  have I3:Inv X J Y (bv h ⇑s.heap.objs (.lst vs)) R:=Inv.adopt I2 hDn (hch _ L).1 (hch _ L).2.1 (hch _ L).2.2.1 (hch _ L).2.2.2 #[by rw[<- ↥rl];show hz,l,nn,rv,hD]
  have hCle:⇑s.heap.objs<=⇑h2.objs:=by rw[hCs];show Nk _
  show fin _ _ R h B vs m hn hDn hDC (LU (Kw I.lt hCle)) (I.nofs hCle) I'.free (Lq I.sz hCle) (λx U z=>KF (Kw (G x U z) hCle))
   (λp P=>KF (Kw (Kx (I.pin p P).1) hCle)) I3 ex so' rl
 have loop:∀s4:J8,s4={s3 with heap:=h₁,toks:=s3.toks+([]:J2 (KG×J5)).length}->
   codeAny (model X.prog X.w) X.A (.compLoop (.ListComp elt [#[tg,iter,ifs,0]] scope pos) 0 (.ref it) (.ref ⇑s.heap.objs) (compEnvC scope V ⇑h2.objs X.env)) (RR (.ref ⇑s.heap.objs) ⇑h2.objs) s4:=by
  rintro s4 rfl;show gJ (λk s5=>∃i Y5 H5 A5 Z5 S5 done its nn vs ys,Inv (lK X scope V ⇑h2.objs N s3 H (t++[⇑s.heap.objs])) [] Y5 H5 s5/\tn i s5.heap/\(∀b∈t,H5 b=td)/\s5.heap.get? ⇑s.heap.objs=gV {cls:=.type "list",data:=.seq (its:J2 J5).toArray nn}/\H5 ⇑s.heap.objs=td/\Vals vs its/\
   Ext X.K A H A5 H5/\EnvRel X.K A5 H5 Z5 Y5/\StoreOk X.w X.K A5 H5 S5/\RelL X.K A5 H5 done vs/\ws=done++ys/\bw mi g c f k i Z5 S5=gV (ys,S')) ?_ n
   #[0,_,H,A,_,S,[],[],0,[],ws,I0,t1,λb d=>(M b d).1,k1 _ _ hD2,fresh _ (Kl _),.nil,.refl,er0,so,.nil,rfl,e]
  rintro k s5 ⟨i,Y5,H5,A5,Z5,S5,done,its,nn,vs,ys,I5,t5,f5,d5,n5,v5,e5,er5,so5,rl5,hw5,w5⟩;have pinD:Inv (lK X scope V ⇑h2.objs N s3 H (t++[⇑s.heap.objs])) [(⇑s.heap.objs,{cls:=.type "list",data:=.seq its.toArray nn})] Y5 H5 s5:=I5.pins_of λp P=>by
   have hp':p=(⇑s.heap.objs,{cls:=.type "list",data:=.seq its.toArray nn}):=by simpa using P
   subst hp';show#[d5,n5,hDC,λz=>LZ _ (stkLt _ z),λv z=>by cases z]
  have oneD:∀p∈[(⇑s.heap.objs,({cls:=.type "list",data:=.seq its.toArray nn}:L5))],p.1=⇑s.heap.objs:=λp P=>by
   have hp':p=(⇑s.heap.objs,{cls:=.type "list",data:=.seq its.toArray nn}):=by simpa using P
   rw[hp']
  cases k with
  |zero=>
   dsimp only[bw]at w5;split at w5
   ·rename_i hst;cases w5;rw[Ln]at hw5;subst hw5;show bf (T.done (lK X scope V ⇑h2.objs N s3 H (t++[⇑s.heap.objs])) rfl rfl rfl hc i _ s5 Y5 H5 _ pinD (fpOk' f5 oneD) t5 (mit.stop A5 H5 _ i e5 so5 hst)) λr s6 #[hr,I6]=>?_
    subst hr;have p6:=I6.pin _ (KW _ (KA.mpr rfl));show theEnd s6 Y5 H5 A5 vs _ nn (I6.pins_of λp P=>absurd P (by simp)) p6.1 #[its,rfl,v5] n5 e5 so5 rl5
   ·cases w5
  |succ k=>
   dsimp only[bw]at w5;split at w5
   ·rename_i w hw;obtain⟨go,yl⟩:=mit.go A5 H5 S5 i w e5 so5 hw;show bf (T.item (lK X scope V ⇑h2.objs N s3 H (t++[⇑s.heap.objs])) rfl rfl rfl hc i _ s5 Y5 H5 _ pinD (fpOk' f5 oneD) t5 go) λr s6 #[u,hr,h6]=>?_
    subst hr;show bf h6 λ_ s7 #[x,H7,I7,r7,y7,t7,f7]=>?_
    obtain⟨x1,x2,x3⟩:=yl x H7 y7;have I7':=I7.pinned (fpOk' f7 oneD) (T.obj _ _ t7);split at w5
    ·rename_i Z8 S8 h8;show bf (bk.tgt _ _ _ _ _ s7 Y5 H7 x u (λY' h=>∃B,Ext X.K A5 H5 B h/\StoreOk X.w X.K B h S8/\EnvRel X.K B h Z8 Y') I7' r7 #[A5,Z5,S5,w,Z8,S8,er5.mono x1,x2,x3,h8,λY' h B q1 q2 q3=>#[B,x1.trans q1,q2,q3]]) λ_ s8 #[Y8,H8,I8,A8,e58,so8,er8]=>?_
     have e8:Ext X.K A H A8 H8:=e5.trans e58;have pD:∀{Y':L2.St}{h:Hp}{R:J8},Inv (lK X scope V ⇑h2.objs N s3 H (t++[⇑s.heap.objs])) ([(⇑s.heap.objs,{cls:=.type "list",data:=.seq its.toArray nn})]++i8 t s7.heap) Y' h R->R.heap.get? ⇑s.heap.objs=gV {cls:=.type "list",data:=.seq its.toArray nn}/\h ⇑s.heap.objs=td:=λI'=>
      let q:=I'.pin _ (KW _ (Lo _ (KA.mpr rfl)))
      #[q.1,q.2.1]
     have pF:∀{Y':L2.St}{h:Hp}{R:J8},Inv (lK X scope V ⇑h2.objs N s3 H (t++[⇑s.heap.objs])) ([(⇑s.heap.objs,{cls:=.type "list",data:=.seq its.toArray nn})]++i8 t s7.heap) Y' h R->(∀b∈t,h b=td)/\∀b∈t,∀o,s7.heap.get? b=gV o->R.heap.get? b=gV o:=λI'=>
      #[λb d=>by
       obtain⟨o,eo,_⟩:=T.obj _ _ t7 b d;show(I'.pin (b,o) (KW _ (KW _ (eV d eo)))).2.1,
       λb d o eo=>(I'.pin (b,o) (KW _ (KW _ (eV d eo)))).1]
     split at w5
     ·rename_i S9 h9;show bf (bk.tst _ _ _ _ _ s8 Y8 H8 (λb h=>b=true/\∃B,Ext X.K A8 H8 B h/\StoreOk X.w X.K B h S9) I8 #[A8,Z8,S8,true,S9,er8,so8,h9,λb h #[z0,B,z1,z2]=>#[z0,B,z1,z2]]) λb s9 #[H9,I9,z0,A9,e9,so9]=>?_
      subst z0;rw[KC rfl];split at w5
      ·rename_i y S10 h10;split at w5
       ·rename_i ys' S4 h11;cases w5;show bf (bk.elt _ _ _ _ _ s9 Y8 H9 (EndV X.w X.K A9 H9 S10 y) I9 #[A9,Z8,S9,y,S10,er8.mono e9,so9,h10,λ_ _ z=>z]) λu10 s10 #[v10,H10,I10,r10,A10,e10,so10,rl10]=>?_
        obtain⟨d10,n10⟩:=pD I10;obtain⟨f10,k10⟩:=pF I10;have hlen:↥its<sizeLine:=by
         have l1:=↥v5;have l2:=↥rl5;rw[hw5,Kh,K5]at hz;omega
        show nS d10 hlen λh' n' hd' hk'=>?_
        have Ib:Inv (lK X scope V ⇑h2.objs N s3 H (t++[⇑s.heap.objs])) [] Y8 H10 {s10 with heap:=h'}:=by
         have Ia:Inv (lK X scope V ⇑h2.objs N s3 H (t++[⇑s.heap.objs])) [] Y8 H10 s10:=I10.pins_of λp P=>absurd P (by simp)
         show Ia.turned (t':=s10.toks) (it:=⇑s.heap.objs) hk' n10 hDC (.inl L) cellD (λp P=>absurd P (by simp[lK]))
        show#[k,Ng k,i+1,Y8,H10,A10,Z8,S10,done++[y],its++[u10],n',vs++[v10],ys',Ib,?_,f10,hd',n10,v5.append #v[r10],(e8.trans e9).trans e10,(er8.mono e9).mono e10,so10,?_,?_,h11]
        ·show T.keep (i+1) s7.heap h' t7 λb d o eo=>hk' b o (fpD b d) (k10 b d o eo)
        ·show(rl5.mono ((e58.trans e9).trans e10)).append #v[rl10]
        ·rw[hw5,L4];rfl
       ·cases w5
      ·cases w5
     ·rename_i S9 h9;show bf (bk.tst _ _ _ _ _ s8 Y8 H8 (λb h=>b=false/\∃B,Ext X.K A8 H8 B h/\StoreOk X.w X.K B h S9) I8 #[A8,Z8,S8,false,S9,er8,so8,h9,λb h #[z0,B,z1,z2]=>#[z0,B,z1,z2]]) λb s9 #[H9,I9,z0,A9,e9,so9]=>?_
      subst z0;rw[KS KJ];obtain⟨d9,n9⟩:=pD I9;obtain⟨f9,k9⟩:=pF I9;show#[k,Ng k,i+1,Y8,H9,A9,Z8,S9,done,its,nn,vs,ys,I9.pins_of λp P=>absurd P (by simp),T.keep (i+1) s7.heap _ t7 k9,f9,d9,n9,v5,e8.trans e9,er8.mono e9,so9,rl5.mono (e58.trans e9),hw5,w5]
     ·cases w5
    ·cases w5
   ·cases w5
 show codeAny_compStart_list (loop _ rfl) (T.self X.A 0 _ _ _ t1 (loop _ rfl))
def pX {d:FI}{g:FG}{c:FT}{f:FE}{b:J2 (J9 Kb)}{Z:Fm}{S:aa}{w:W}{S':aa}(e:kQ d g c f b Z S=gV (w,S')) :
  ∃mi S1 n ys a,d Z S=gV (mi,S1)/\mi.len S1=gV n/\bw mi g c f n 0 (dO b Z) S1=gV (ys,a)/\↥ys<=sizeLine/\w=.ref ↥a/\S'=a++[.lst ys]:=by
 unfold kQ at e;split at e
 ·rename_i mi S1 h;split at e
  ·rename_i n i;split at e
   ·rename_i ys a j;obtain⟨k,l,m⟩:=jS e;show#[mi,S1,n,ys,a,h,i,j,k,l,m]
   ·cases e
  ·cases e
 ·cases e
def BC {scope:Nv}{N:J2 KG}{h:J2 (J9 Kb)}{tg i iter:KO}{j:J2 KO}{V:FI}{g:FG}{c:FT}{f:FE}{pos:MN}(hc:X.calm=true)(hi:GI X tg iter V)(B:X.Ok->∃l,CompOk X scope l N h/\BlockOk X scope l N tg i j g c f)
  (hs:∀x,foldedSetIterable iter X.env x=pure x):GE X (.ListComp i [#[tg,iter,j,0]] scope pos) (kQ V g c f h):=by
 intro J s Y H Q I ⟨A,Z,S,w,S',U,so,e,hq⟩;obtain⟨mi,S1,n,ys,S2,h1,h2,h3,h4,rfl,rfl⟩:=pX e;obtain⟨l,k,bk⟩:=B I.ok;rw[eval_ListComp];show O3 (use:=td) rfl hs k.clos k.kind k.names (bf (hi J s Y H (λP d=>∃a,Ext X.K A H a d/\StoreOk X.w X.K a d S1/\MIt X.w X.K mi P a d) I #[A,Z,S,mi,S1,U,so,h1,λP d a z1 z2 z3=>#[a,z1,z2,z3]]) λv s1 q1=>bf q1 λitv s2 q2=>?_)
 obtain⟨it,fp,tn,P,H2,rfl,I2,T,t0,E,A2,R,M,L⟩:=q2;show mC (RR:=λacc C=>compPost (model X.prog X.w) X.A X.xe td (EP X J Y Q) acc C) I2 hc (U.mono R) M k bk T t0 E L h3 h4 ?_
 intro D C W d a vs m hn z y p hCf r u q t I3 ex O rl;show#[m,hn,λh' G=>?_]
 have I4:Inv X J Y (bv d D (.lst vs)) {W with heap:=h'}:=I3.turned (t':=W.toks) (it:=C) (λb o hb eo=>G.extBut b o hb eo) (by rw[aD (Ne.symm y)];show r) p (.inr u) q t
 show#[.ref D,_,I4,rfl,hq _ _ (EndV.after (R.trans ex) (.lst O rl z))]
def rS {scope:Nv}{N:J2 KG}{r:J2 (J9 Kb)}{tg a iter:KO}{d:J2 KO}{fi:FI}{g:FG}{c:FT}{f:FE}{pos py j:MN}{y:KG}{i:Kb}(hc:X.calm=true)(hi:GI X tg iter fi)(hck:X.Ok->∃P,CompOk X scope P N r/\BlockOk X scope P N tg a d g c f)
  (hs:∀x,foldedSetIterable iter X.env x=pure x) (hsw:swapsWith (.ListComp a [#[tg,iter,d,0]] scope pos) (gV (.Name y py)) j.line X.env=pure true) (hN:X.N.Nodup) (hy:X.N[i]?=gV y) (hl:X.env.scope.names.lookup y=gV .local) :
  GS X (.Assign [.Name y py] (.ListComp a [#[tg,iter,d,0]] scope pos) j) (kK (kQ fi g c f r) (CL i)):=by
 intro J s Y H Dd I ⟨A,Z,S,o,S',U,so,e,hd⟩;unfold kK at e;split at e
 ·rename_i w S0 h0;simp only[CL]at e;cases e;obtain⟨mi,S1,n,ys,S2,h1,h2,h3,h4,rfl,rfl⟩:=pX h0;obtain⟨P,G,bk⟩:=hck I.ok;rw[exec_Assign_Name_used _ _ _ _ hsw];show J3 (Oh (J3 ?_));change wpAny _ X.A (do let _ <- comprehension (.ListComp a [#[tg,iter,d,0]] scope pos) scope X.env _ (newList []) false (eval iter X.env) (gV (assign (.Name y py) X.env))) _ _ s
  show J3 (Mj (O3 (use:=gV (assign (.Name y py) X.env)) (Q:=λ_ q=>SP X J Dd .next q) rfl hs G.clos G.kind G.names
   (bf (hi J s Y H (λtx h=>∃l,Ext X.K A H l h/\StoreOk X.w X.K l h S1/\MIt X.w X.K mi tx l h) I #[A,Z,S,mi,S1,U,so,h1,λtx h l z1 z2 z3=>#[l,z1,z2,z3]]) λv s1 q1=>bf q1 λitv s2 q2=>?_)) (λ_ q hq=>Kd (Kd hq)) λ_ _ e=>e)
  obtain⟨it,fp,tn,tx,H2,rfl,I2,T,t0,hfp,A2,e2,so2,mit⟩:=q2;show mC (RR:=λacc C=>compPost (model X.prog X.w) X.A X.xe (gV (assign (.Name y py) X.env)) (λ_ q=>SP X J Dd .next q) acc C) I2 hc (U.mono e2) so2 G bk T t0 hfp mit h3 h4 ?_
  intro D C q h l vs m hn hDn B t hCf u hCs W hCp I3 ex so3 rl;obtain⟨L,V,R,hoC,E,hrC⟩:=id hn;have M:Inv X (J++[(C,L)]) Y (bv h D (.lst vs)) q:=I3.pins_of λp k=>by
   rcases La.mp k with k|k
   ·show I3.pin p (KW _ k)
   ·have hp':p=(C,L):=by simpa using k
    subst hp';show#[hoC,by rw[aD (Ne.symm B)];show u,t,hCf,λv z=>by rw[E]at z;cases z]
  change wpAny _ X.A (assign (.Name y py) X.env (.ref D)) _ _ _;show QQ (iq M hN hy (.inl hl) (v:=.ref D) rfl (λs4 O=>?_) (.inr hl))
  have pC:=O.pin (C,L) (KW _ (KW _ (KA.mpr rfl)));show#[m,#[L,V,R,pC.1,E,hrC],λh' hs'=>?_]
  have I5:Inv X J (Y.set i (gV (.ref D))) (bv h D (.lst vs)) s4:=O.pins_of λp k=>O.pin p (KW _ (Lo _ k))
  have I6:Inv X J (Y.set i (gV (.ref D))) (bv h D (.lst vs)) {s4 with heap:=h'}:=I5.turned (t':=s4.toks) (it:=C) (λb o hb eo=>hs'.extBut b o hb eo) (by rw[aD (Ne.symm B)];show u) t (.inr hCs) W hCp
  obtain⟨Af,f1,f2,f3⟩:=EndV.after (e2.trans ex) (EndV.lst so3 rl hDn);show#[_,_,I6,hd.nx _ _ #[_,Af,rfl,f1,f2,(U.mono f1).set f3 i]]
 ·cases e
end
open PySem.Builtin.SmallTypes (nextOf)
structure Zap (z p q i j:Kf):Prop where
 pz:p≠z
 qz:q≠z
 iz:i≠z
 jz:j≠z
 pq:p≠q
 pi:p≠i
 pj:p≠j
 qi:q≠i
 qj:q≠j
 ij:i≠j
section
variable{prog:KQ}{w:K8}
structure Zit (prog:KQ)(w:K8)(it:Kf)(T:Kb->Lh->Prop)(C:Lh->Prop)(i:Kb)(Uz:J9 (J5->Prop)):Prop where
 keep:∀j h h',T j h->(∀o,h.get? it=gV o->h'.get? it=gV o)->T j h'
 next:∀V,Uz=gV V->∀(B:KZ) (s:J8) (Q:J5->J8->Prop) (E:J5->J8->Prop),T i s.heap->C s.heap->(∀u h' tk,V u->T (i+1) h'->M2 it s.heap h'->Q u {s with heap:=h',toks:=tk})->wpAny (model prog w) B (nextOf (.ref it)) Q E s
 stop:Uz=td->∀(B:KZ) (s:J8) (Q:J5->J8->Prop) (E:J5->J8->Prop),B.handled=td->T i s.heap->C s.heap->(∀h' e,P3 it s.heap h'->(∃o,h'.get? e=gV o/\o.cls=.type "StopIteration")->E (.ref e) {s with heap:=h'})->wpAny (model prog w) B (nextOf (.ref it)) Q E s
variable{B:KZ}{E:J5->J8->Prop}{s:J8}{z p q i1 i2:Kf}{T1 T2:Kb->Lh->Prop}{C1 C2:Lh->Prop}{i:Kb}{a b:J5}
abbrev Zc (z q i1 i2:Kf)(C:Lh->Prop):Prop:=∀h h',C h->(∀c o,c≠z->c≠q->c≠i1->c≠i2->h.get? c=gV o->h'.get? c=gV o)->C h'
def pY {H I:J9 (J5->Prop)}{Q:J5->J8->Prop}(D:Zap z p q i1 i2)(M:Zit prog w i1 T1 C1 i H)(Z2':∀A,H=gV A->Zit prog w i2 T2 C2 i I)(k1:Zc z q i1 i2 C1)(k2:Zc z q i1 i2 C2)(hh:B.handled=td)
  (T:P9 s.heap z p q .none) (hp:Nu s.heap p (.ref i1) (.ref i2)) (hq:Nu s.heap q a b) (t1:T1 i s.heap) (t2:T2 i s.heap) (c1:C1 s.heap) (c2:C2 s.heap)
  (hI:∀A J,H=gV A->I=gV J->∀u v h' tk,A u->J v->P9 h' z p q (rawInt ⇑s.heap.objs)->Nu h' q u v->T1 (i+1) h'->T2 (i+1) h'->Nu h' ⇑s.heap.objs u v->
   (∀c o,c≠z->c≠q->c≠i1->c≠i2->s.heap.get? c=gV o->h'.get? c=gV o)->Q (.ref ⇑s.heap.objs) {s with heap:=h',toks:=tk})
  (hE:H=td\/I=td->∀h' tk e,(∀c o,c≠z->c≠q->c≠i1->c≠i2->s.heap.get? c=gV o->h'.get? c=gV o)->(∃o,h'.get? e=gV o/\o.cls=.type "StopIteration")->E (.ref e) {s with heap:=h',toks:=tk}) :
  wpAny (model prog w) B (M4.«zip.__next__» #[[.ref z],[]]) (λfin s'=>∃v,fin=.done (.ret v)/\Q v s') E s:=by
 change wpAny _ _ (field (.ref z) 2 >>= _) _ _ s;show J3 (LR T rfl (x:=.bool false) rfl ?_);change wpAny _ _ (field (.ref z) 3 >>= _) _ _ s;show J3 (LR T rfl (x:=.ref p) rfl (J3 (L8 hp rfl ?_)));change wpAny _ _ (Lx (.ref z) >>= _) _ _ s;unfold Lx;show J3 (J3 (LR T rfl (x:=.none) rfl (Kd ?_)));revert MW;show J3 (Ox (J3 (LR T rfl (x:=.ref q) rfl ?_)));show J3 (MT T (by simp) λg1 t s1=>?_)
 replace t:P9 g1 z p q .ellipsis:=t;show J3 ?_;revert List.zipIdx_cons List.zipIdx_nil NU OG;show J3 (J3 (Sr ?_));change wpAny _ _ (nextOf (.ref i1) >>= _) _ _ _;have k:∀c o,c≠z->s.heap.get? c=gV o->g1.get? c=gV o:=λc o hc e=>s1.extBut c o hc e
 have W:T1 i g1:=M.keep _ _ _ t1 λo e=>k _ _ D.iz e
 have O:C1 g1:=k1 _ _ c1 λc o hc _ _ _ e=>k c o hc e
 have fin:∀(g:Lh) (tk:Kb) (it e:Kf),(it=i1\/it=i2)->H=td\/I=td->P9 g z p q .ellipsis->(∀c o,c≠z->c≠q->c≠i1->c≠i2->s.heap.get? c=gV o->g.get? c=gV o)->(∃o,g.get? e=gV o/\o.cls=.type "StopIteration")->
   wpAny (model prog w) B (setField (.ref z) 0 .none) (λ_ s''=>E (.ref e) s'') E {s with heap:=g,toks:=tk}:=λg tk it e _ hu gz kg #[oe,C,hc]=>by
  have ne:e≠z:=λx=>by subst x;rw[gz]at C;cases C;simp at hc
  show MT gz (by simp) λg' _ sb=>hE hu g' tk e (λc o d l h N x=>sb.extBut _ _ d (kg c o d l h N x)) #[oe,sb.extBut _ _ ne C,hc]
 cases j:H with
 |none=>
  show J3 (M.stop j _ _ _ _ hh W O λg2 e R C=>?_)
  show fin g2 s.toks i1 e (.inl rfl) (.inl j) (R _ _ D.iz.symm t) (λc o d _ h _ x=>R _ _ h (k c o d x)) C
 |some A=>
  have L:=Z2' A j;show J3 (M.next A j _ _ _ _ W O λu g2 tk2 hu t12 s2=>Kd ?_)
  have q2:Nu g2 q a b:=s2.extBut _ _ D.qi (k _ _ D.qz hq);show J3 (L8 q2 rfl (J3 (Qa q2 λS q3 s3=>?_)))
  replace q3:Nu S q u b:=q3;show J3 (NB (Kd ?_));show J3 (J3 (Sr ?_));change wpAny _ _ (nextOf (.ref i2) >>= _) _ _ _;have n:∀c o,c≠z->c≠q->c≠i1->s.heap.get? c=gV o->S.get? c=gV o:=λc o d l h x=>s3.extBut _ _ l (s2.extBut _ _ h (k c o d x))
  have Z:P9 S z p q .ellipsis:=s3.extBut _ _ D.qz.symm (s2.extBut _ _ D.iz.symm t);have X:T2 i S:=L.keep _ _ _ t2 λo e=>n _ _ D.jz D.qj.symm D.ij.symm e
  have P:C2 S:=k2 _ _ c2 λc o d l h _ e=>n c o d l h e
  cases m:I with
  |none=>
   show J3 (L.stop m _ _ _ _ hh X P λg4 e R C=>?_)
   show fin g4 tk2 i2 e (.inr rfl) (.inr m) (R _ _ D.jz.symm Z) (λc o d l h N x=>R _ _ N (n c o d l h x)) C
  |some J=>
   show J3 (L.next J m _ _ _ _ X P λv g4 tk4 hv t24 U=>Kd ?_)
   have q4:Nu g4 q u b:=U.extBut _ _ D.qj q3;show J3 (L8 q4 rfl (J3 (Qa q4 λf q5 V=>?_)))
   replace q5:Nu f q u v:=q5;show J3 (NB (Kd (Kd ?_)));show J3 (L8 q5 rfl (J3 (OF ?_)));have sz:⇑f.objs=⇑s.heap.objs:=by rw[V.1,U.1,s3.1,s2.1,s1.1]
   have zz5:P9 f z p q .ellipsis:=V.extBut _ _ D.qz.symm (U.extBut _ _ D.jz.symm Z);have t15:T1 (i+1) f:=M.keep _ _ _ t12 λo e=>V.extBut _ _ D.qi.symm (U.extBut _ _ D.ij (s3.extBut _ _ D.qi.symm e))
   have t25:T2 (i+1) f:=L.keep _ _ _ t24 λo e=>V.extBut _ _ D.qj.symm e
   have Y:z<⇑f.objs:=Kx zz5;change wpAny _ _ (MM (.ref z) (.ref ⇑f.objs) >>= _) _ _ _;show J3 ?_;unfold MM;have zz6:P9 (f.push {cls:=.type "tuple",data:=.seq [u,v].toArray}) z p q .ellipsis:=J7 _ zz5;show J3 (MT zz6 (by simp) λg7 G s7=>?_)
   replace G:P9 g7 z p q (rawInt ⇑f.objs):=G;show MT G (by simp) λg8 y s8=>?_
   replace y:P9 g8 z p q (rawInt ⇑f.objs):=y;have r:∀c o,c≠z->f.get? c=gV o->g8.get? c=gV o:=λc o hc e=>s8.extBut _ _ hc (s7.extBut _ _ hc (J7 _ e))
   have n8:Nu g8 ⇑f.objs u v:=s8.extBut _ _ (LU Y) (s7.extBut _ _ (LU Y) (Kr _ rfl));rw[sz]at y n8;show Kd #[_,rfl,?_];change Q (.ref ⇑f.objs) _;rw[sz];show hI A J j m u v g8 tk4 hu hv y (r _ _ D.qz q5) (M.keep _ _ _ t15 λo e=>r _ _ D.iz e) (L.keep _ _ _ t25 λo e=>r _ _ D.jz e) n8 λc o d l h N e=>r c o d (V.extBut _ _ l (U.extBut _ _ N (n c o d l h e)))
end
end Mi
namespace Mi
open PySem PySem.Spec PyProof.Rows L2
open PySem.Builtin.SmallTypes (nextOf)
abbrev eY (prog:KQ)(w:K8)(v:J5)(o:L5)(C:Lh->Prop):Prop:=∀(B:KZ) (s:J8) (Q:J5->J8->Prop) (E:J5->J8->Prop),C s.heap->Q (.ref ⇑s.heap.objs) {s with heap:=s.heap.push o}->wpAny (model prog w) B (pyIter v) Q E s
abbrev GK (h:Lh)(a b:L5):Lh:=(h.push a).push b
abbrev GL (h:Lh)(a b:L5):Lh:=(GK h a b).push {cls:=.type "tuple",data:=.seq [.ref ⇑h.objs,.ref (h.push a).objs.size].toArray}
abbrev GM (h:Lh)(a b:L5):Lh:=(GL h a b).push {cls:=.type "tuple",data:=.seq [.none,.none].toArray}
abbrev CO (h:Lh)(a b:L5):Lh:=(GM h a b).push {cls:=.type "zip",data:=.fields [.none,.bool false,.bool false,.ref (GK h a b).objs.size,.ref (GL h a b).objs.size].toArray}
section
variable{prog:KQ}{w:K8}{B:KZ}{E:J5->J8->Prop}{s:J8}{v1 v2:J5}{o1 o2:L5}{C1 C2:Lh->Prop}
def rT (j:eY prog w v1 o1 C1)(k:eY prog w v2 o2 C2)(l:∀h o,C2 h->C2 (h.push o)) :
  MeetsIn prog w (M4.«zip.__new__» #[[.type "zip",v1,v2],[]]) (λ_ R s=>C1 s.heap/\C2 s.heap/\R (.ok (.ret (.ref (GM s.heap o1 o2).objs.size))) {s with heap:=CO s.heap o1 o2}):=
 .of_wp λA R s h=>by
  obtain⟨a,g,d,tk,os⟩:=s;obtain⟨c,e,h⟩:=h;have b:=sub_zip;have f:∀(B:KZ) (Q:J5->J8->Prop) (E:J5->J8->Prop),Q (.ref ⇑a.objs) #[a.push o1,g,d,tk,os]->wpAny (model prog w) B (pyIter v1) Q E #[a,g,d,tk,os]:=λB Q E q=>j B #[a,g,d,tk,os] Q E c q
  have i:∀(B:KZ) (Q:J5->J8->Prop) (E:J5->J8->Prop),Q (.ref (a.push o1).objs.size) #[(a.push o1).push o2,g,d,tk,os]->wpAny (model prog w) B (pyIter v2) Q E #[a.push o1,g,d,tk,os]:=λB Q E q=>k B #[a.push o1,g,d,tk,os] Q E (l _ _ e) q
  wp_walk using f _ _ _,i _ _ _
  show#[_,rfl,h]
def x4 {Q:J5->J8->Prop}(p:eY prog w v1 o1 C1)(q:eY prog w v2 o2 C2)(r:∀h o,C2 h->C2 (h.push o))(k:C1 s.heap)(l:C2 s.heap)(t:o1.isFreed=false)(u:o2.isFreed=false)
  (h:∀h',P9 h' (⇑s.heap.objs+4) (⇑s.heap.objs+2) (⇑s.heap.objs+3) .none->Nu h' (⇑s.heap.objs+2) (.ref ⇑s.heap.objs) (.ref (⇑s.heap.objs+1))->Nu h' (⇑s.heap.objs+3) .none .none->
   h'.get? ⇑s.heap.objs=gV o1->h'.get? (⇑s.heap.objs+1)=gV o2->⇑h'.objs=⇑s.heap.objs+5->(∀c o,s.heap.get? c=gV o->h'.get? c=gV o)->Q (.ref (⇑s.heap.objs+4)) {s with heap:=h'}) :
  wpAny (model prog w) B (call (.type "zip") [v1,v2]) Q E s:=by
 show R4 F.called_zip #v[] (F.typeCall_zip_2 _ _) (F.newCall_zip_2 _ _) (λobj=>F.args_object_init_3 obj _ _) F.entry_zip_new (rT p q r) #[k,l,?_]
 have a:(s.heap.push o1).objs.size=⇑s.heap.objs+1:=MF ..;have b:(GK s.heap o1 o2).objs.size=⇑s.heap.objs+2:=by unfold GK;rw[MF,a]
 have d:(GL s.heap o1 o2).objs.size=⇑s.heap.objs+3:=by unfold GL;rw[MF,b]
 have e:(GM s.heap o1 o2).objs.size=⇑s.heap.objs+4:=by unfold GM;rw[MF,d]
 have m:(CO s.heap o1 o2).objs.size=⇑s.heap.objs+5:=by unfold CO;rw[MF,e]
 have f:(CO s.heap o1 o2).get? (GM s.heap o1 o2).objs.size=gV _:=Kr _ rfl;have j:(CO s.heap o1 o2).get? (GL s.heap o1 o2).objs.size=gV _:=J7 _ (Kr _ rfl);have i:(CO s.heap o1 o2).get? (GK s.heap o1 o2).objs.size=gV _:=J7 _ (J7 _ (Kr _ rfl));have g:(CO s.heap o1 o2).get? (s.heap.push o1).objs.size=gV o2:=J7 _ (J7 _ (J7 _ (Kr _ u)));have n:(CO s.heap o1 o2).get? ⇑s.heap.objs=gV o1:=J7 _ (J7 _ (J7 _ (J7 _ (Kr _ t))));rw[b,d,e]at f;rw[a,b]at i;rw[d]at j;rw[a]at g;change _/\_;rw[e];show#[#[_,f,rfl],h _ f i j n g m λc o x=>J7 _ (J7 _ (J7 _ (J7 _ (J7 _ x))))]
end
end Mi
namespace Mi
open PySem PySem.Spec PyProof.Rows L2
open PySem.Builtin.SmallTypes (nextOf)
section
variable{prog:KQ}{w:K8}{A:KZ}{E:J5->J8->Prop}{s:J8}
def CP {it t:Kf}{i:Kb}{items:Lm J5}{x:J5}{Q:J5->J8->Prop}(a:s.heap.IsTupleIter it t i)(f:s.heap.IsTuple t items)(g:items[i]?=gV x)
  (e:∀h',h'.IsTupleIter it t (i+1)->M2 it s.heap h'->Q x {s with heap:=h'}):wpAny (model prog w) A (nextOf (.ref it)) Q E s:=by
 obtain⟨o,b,hc,hd⟩:=id a;obtain⟨j,d,_,h,c⟩:=f;unfold OP;show J3 (Lw (name:=Mw "__next__") a.typeIs F.slot_tuple_iterator_next (LP F.slot_tuple_iterator_next a.typeIs F.entry_tuple_iterator_next ?_ (F.args_tuple_iterator_next_1 _)));change wpAny _ _ (field (.ref it) 0 >>= _) _ _ s;show J3 (LR b hd (x:=.ref t) rfl ?_);change wpAny _ _ (if (Lc t==LB)=true then _ else _) _ _ s
 rw[KS (show ¬ ((Lc t==LB)=true)from KJ)]
 change wpAny _ _ (field (.ref it) 1 >>= _) _ _ s;show J3 (LR b hd (x:=.int i 0) rfl (J3 (L8 d c ?_)));revert Kz g;show J3 (OC b hd (by simp) (Kd #[x,rfl,Kd (e _ #[_,MX _ b (PX (NW hd _)),(Q8 ..).trans hc,?_] (NN ..))]))
 rw[NW hd];simp[rawInt]
def CQ {it t:Kf}{i:Kb}{items:Lm J5}{Q:J5->J8->Prop}(g:A.handled=td)(b:s.heap.IsTupleIter it t i)(j:s.heap.IsTuple t items)(k:items[i]?=td)
  (h:∀h' e,P3 it s.heap h'->(∃o,h'.get? e=gV o/\o.cls=.type "StopIteration")->E (.ref e) {s with heap:=h'}):wpAny (model prog w) A (nextOf (.ref it)) Q E s:=by
 obtain⟨o,d,hc,hd⟩:=id b;obtain⟨n,f,_,l,c⟩:=j;unfold OP;show J3 (Lw (name:=Mw "__next__") b.typeIs F.slot_tuple_iterator_next (LP F.slot_tuple_iterator_next b.typeIs F.entry_tuple_iterator_next ?_ (F.args_tuple_iterator_next_1 _)));change wpAny _ _ (field (.ref it) 0 >>= _) _ _ s;show J3 (LR d hd (x:=.ref t) rfl ?_);change wpAny _ _ (if (Lc t==LB)=true then _ else _) _ _ s
 rw[KS (show ¬ ((Lc t==LB)=true)from KJ)]
 change wpAny _ _ (field (.ref it) 1 >>= _) _ _ s;show J3 (LR d hd (x:=.int i 0) rfl (J3 (L8 f c ?_)));revert Kz k;show J3 (Ox (J3 (OC d hd (by simp) ?_)))
 change wpAny _ _ (newExc (.type "StopIteration") [] >>= _) _ _ _;show J3 ?_;revert newExc newTuple;show J3 (Ly ?_ (by size_fits))
 show J3 (m:=firstArgMember _ _) (OW (a:=LB) (by first|rfl|(revert firstArgMember;rfl)) (Ly ?_ (by size_fits)))
 revert raiseNew;show J3 (So ?_)
 first|rw[show A.in1.handled=td from g]|rw[g]
 show J3 (Kd (Tb (h _ _ (((NN ..).extBut.push _).push _) #[_,Kr _ rfl,rfl])))
end
inductive Zs where|tup (a:Kf)|lst (a:Kf)|txt (x:KG)
abbrev Zs.T (it:Kf):Zs->Kb->Lh->Prop
 |.tup a,i,h=>h.IsTupleIter it a i
 |.lst a,i,h=>h.IsListIter it a i
 |.txt x,i,h=>∃t,h.IsStrIter it "str_ascii_iterator" x t i\/h.IsStrIter it "str_iterator" x t i
abbrev Zs.at (K:Km)(H:Hp)(i:Kb)(v:V):Zs->Prop
 |.tup a=>∃xs,SqT K H a xs/\xs[i]?=gV v
 |.lst a=>∃xs,SqL K H a xs/\xs[i]?=gV v
 |.txt x=>∃c,x.cps[i]?=gV c/\v=.str #[[c].toArray]
abbrev Zs.out (K:Km)(H:Hp)(i:Kb):Zs->Prop
 |.tup a=>∃xs,SqT K H a xs/\↥xs<=i
 |.lst a=>∃xs,SqL K H a xs/\↥xs<=i
 |.txt x=>⇑x.cps<=i
def Zs.keep {S:Zs}{it:Kf}{j:Kb}{h h':Lh}(t:S.T it j h)(k:∀o,h.get? it=gV o->h'.get? it=gV o):S.T it j h':=by
 cases S with
 |tup a=>show t.at k
 |lst a=>show t.at k
 |txt x=>
  obtain⟨tk,t⟩:=t;show#[tk,t.imp (λ#[o,e,r]=>#[o,k _ e,r]) λ#[o,e,r]=>#[o,k _ e,r]]
section
variable{X:Cx}{J:J2 (Kf×L5)}{Y:L2.St}{H:Hp}{s:J8}
def x5 (I:Inv X J Y H s){a b:Kf}{o:L5}(h:X.K.lookup a=gV o)(f:i7 X J H b):a≠b:=λz=>by
 subst z;have c:=I.ok.mod.kin a o h;rcases f.2.2.2.1 with q|q
 ·show I.ok.noex a o c q
 ·show absurd (Kw (Kx (I.ok.bs a o c).1) q) (LZ _)
end
end Mi
namespace Mi
open PySem PySem.Spec PyProof.Rows L2
open PySem.Builtin.SmallTypes (nextOf)
section
variable{X:Cx}{J:J2 (Kf×L5)}{Y:L2.St}{H:Hp}{s:J8}{h':Lh}
def ya {a b:Kf}{u:HO}(h:Rd H a u)(f:H b=td):a≠b:=λz=>by
 subst z;rcases h with h|⟨o,h⟩<;>(rw[f]at h;cases h)
def Inv.turnedL {t':Kb}{ch:J2 Kf}(I:Inv X J Y H s)(k:∀b o,b∉ch->s.heap.get? b=gV o->h'.get? b=gV o)(d:∀b∈ch,i7 X J H b):Inv X J Y H {s with heap:=h',toks:=t'}:=by
 have a:∀b u,H b=gV u->b∉ch:=λb u e z=>by have:=(d b z).1;rw[e]at this;cases this
 show I.step (g':=s.gens) (d':=s.drawn) (ch:=ch) (λb j=>?_) (λb o _ _ hc e _=>k b o hc e) (λb o _ _ hc e _=>#[o.slots,k b o hc e]) (λ_ _ _ _ n=>n) (λb o hc e=>#[o,k b o hc e]) (λ_ _ e=>e) (λ_ _ _ e=>e) (λb ps e=>#[#[],by rw[e];simp]) (λm l=>?_) (λb u e=>?_) I.bare
 ·obtain⟨_,f,_,g,h,i⟩:=d b j;show#[g,f,h,i]
 ·obtain⟨o,es,ep,p,r⟩:=l;show#[o,es,ep,k _ o (λz=>(d _ z).2.1 rfl) p,r]
 ·show(I.hok b u e).stay (λc v hc q=>k c v ?_ q) (λ_ q=>q) λ_ _ q=>q
  rcases hc with z|z
  ·rw[z];show a b u e
  ·show a c _ z
def Zs.zit {S:Zs}{it z q i1 m:Kf}{i:Kb}{Uz:J9 V}(I:Inv X J Y H s)(G:∀b∈[z,q,i1,m],i7 X J H b)(g:match Uz with|some v=>S.at X.K H i v|none=>S.out X.K H i) :
  ∃C,Zit X.prog X.w it (S.T it) C i (Uz.map λv u=>RelV v u)/\C s.heap/\Zc z q i1 m C:=by
 have Z:∀(a:Kf) (P:Lh->Prop),(∀h h',P h->(∀o,h.get? a=gV o->h'.get? a=gV o)->P h')->(∀b∈[z,q,i1,m],a≠b)->Zc z q i1 m P:=λa P hP R h h' p k=>
  hP h h' p λo e=>k a o (R z (by simp)) (R q (by simp)) (R i1 (by simp)) (R m (by simp)) e
 have sep:∀{a:Kf}{u:HO}{o:L5}{b:Kf},(Rd H a u\/X.K.lookup a=gV o)->b∈[z,q,i1,m]->a≠b:=λh f=>h.elim (λr=>ya r (G _ f).1) λr=>x5 I r (G _ f)
 cases S with
 |tup a=>
  obtain⟨xs,N,l⟩:∃xs,SqT X.K H a xs/\(match Uz with|some v=>xs[i]?=gV v|none=>↥xs<=i):=by
   cases Uz<;>show g
  obtain⟨its,O,p,_⟩:=I.tuple N;have n:∀b∈[z,q,i1,m],a≠b:=λb f=>by
   rcases N with r|⟨o,_,_,r,_⟩
   ·show ya r (G b f).1
   ·show x5 I r (G b f)
  show#[λh=>h.IsTuple a its.toArray,#[λj h h' t k=>Zs.keep (S:=.tup a) t k,λV d B w Q E t c D=>?_,λM B w Q E L t c A=>?_],p,Z a _ (λh h' #[o,e,r] k=>#[o,k _ e,r]) n]
  ·cases Uz with
   |none=>cases d
   |some v=>
    cases d;obtain⟨u,T,W⟩:=O.get l;show CP t c (x:=u) (by simpa using T) λh' t' y=>D u h' w.toks W t' y
  ·cases Uz with
   |some v=>cases M
   |none=>
    have:=L2.Vals.length O;have U:↥xs<=i:=l;show CQ L t c (by simp;omega) A
 |lst a=>
  obtain⟨xs,N,l⟩:∃xs,SqL X.K H a xs/\(match Uz with|some v=>xs[i]?=gV v|none=>↥xs<=i):=by
   cases Uz<;>show g
  obtain⟨its,O,p,_⟩:=I.list N;have n:∀b∈[z,q,i1,m],a≠b:=λb f=>by
   rcases N with r|⟨o,_,_,r,_⟩
   ·show ya r (G b f).1
   ·show x5 I r (G b f)
  show#[λh=>h.IsList a its.toArray,#[λj h h' t k=>Zs.keep (S:=.lst a) t k,λV d B w Q E t c D=>?_,λM B w Q E L t c A=>?_],p.isList,Z a _ (λh h' #[o,e,r] k=>#[o,k _ e,r]) n]
  ·cases Uz with
   |none=>cases d
   |some v=>
    cases d;obtain⟨u,T,W⟩:=O.get l;show Pr t c (x:=u) (by simpa using T) λh' t' y=>D u h' w.toks W t' y
  ·cases Uz with
   |some v=>cases M
   |none=>
    have:=L2.Vals.length O;have U:↥xs<=i:=l;show PY L t c (by simp;omega) A
 |txt x=>
  show#[λ_=>RM,#[λj h h' t k=>Zs.keep (S:=.txt x) t k,λV d B w Q E t _ D=>?_,λM B w Q E L t _ A=>?_],trivial,λ_ _ _ _=>trivial]
  ·cases Uz with
   |none=>cases d
   |some v=>
    cases d;obtain⟨c,hc,rfl⟩:∃c,x.cps[i]?=gV c/\v=.str #[[c].toArray]:=g;obtain⟨tk,t|t⟩:=t
    ·show wpAny_nextOf_ascii_item t hc λh' t' y=>D _ h' _ #[_,rfl] #[tk,.inl t'] y
    ·show wpAny_nextOf_wide_item t hc λh' t' y=>D _ h' _ #[_,rfl] #[tk,.inr t'] y
  ·cases Uz with
   |some v=>cases M
   |none=>
    have l:x.cps[i]?=td:=by simpa using(show ⇑x.cps<=i from g)
    obtain⟨tk,t|t⟩:=t
    ·show wpAny_nextOf_ascii_end L t l A
    ·show wpAny_nextOf_wide_end L t l A
end
abbrev Zs.is (K:Km)(H:Hp)(i:Kb)(v:V):Zs->Prop
 |.tup a=>∀xs,SqT K H a xs->xs[i]?=gV v
 |.lst a=>∀xs,SqL K H a xs->xs[i]?=gV v
 |.txt x=>∃c,x.cps[i]?=gV c/\v=.str #[[c].toArray]
def Zs.at_is {S:Zs}{X:Cx}{J:J2 (Kf×L5)}{Y:L2.St}{H:Hp}{s:J8}{i:Kb}{v:V}(I:Inv X J Y H s)(h:S.at X.K H i v):S.is X.K H i v:=by
 cases S with
 |tup a=>obtain⟨xs,b,c⟩:=h;show λys d=>by rw[I.tuple_inj d b];show c
 |lst a=>obtain⟨xs,b,c⟩:=h;show λys d=>by rw[I.list_inj d b];show c
 |txt x=>show h
end Mi
namespace Mi
open PySem PySem.Spec PyProof.Rows L2
abbrev HY:W->J9 (J2 W)
 |.tup xs=>gV xs
 |.str x=>gV (x.cps.toList.map λc=>.str #[[c].toArray])
 |_=>td
section
variable{X:Cx}{J:J2 (Kf×L5)}{Y:L2.St}{H:Hp}{s:J8}{A:J2 Kf}
abbrev ZRel (K:Km)(A:J2 Kf)(H:Hp)(xs:J2 W):Zs->Prop
 |.tup a=>∃vs,SqT K H a vs/\RelL K A H xs vs
 |.lst a=>LM
 |.txt x=>xs=x.cps.toList.map λc=>.str #[[c].toArray]
def ZRel.mono {K:Km}{A b:J2 Kf}{H c:Hp}{xs:J2 W}{S:Zs}(e:Ext K A H b c)(h:ZRel K A H xs S):ZRel K b c xs S:=by
 cases S with
 |tup a=>obtain⟨vs,d,f⟩:=h;show#[vs,e.tp _ _ d,f.mono e]
 |lst a=>show h
 |txt x=>show h
def ZRel.at {K:Km}{xs:J2 W}{S:Zs}{i:Kb}{w:W}(h:ZRel K A H xs S)(hi:xs[i]?=gV w):∃v,S.at K H i v/\Rel K A H w v:=by
 cases S with
 |tup a=>obtain⟨vs,b,d⟩:=h;obtain⟨v,e,f⟩:=d.get hi;show#[v,#[vs,b,e],f]
 |lst a=>show h.elim
 |txt x=>
  have h:xs=x.cps.toList.map λc=>.str #[[c].toArray]:=h
  subst h;rw[Kg,J6]at hi;obtain⟨c,hc,rfl⟩:=hi;show#[.str #[[c].toArray],#[c,by rw[<- LL];show hc,rfl],.str]
def ZRel.is {K:Km}{xs:J2 W}{S:Zs}{i:Kb}{w:W}{v:V}(h:ZRel K A H xs S)(hi:xs[i]?=gV w)(z:S.is K H i v):Rel K A H w v:=by
 obtain⟨j,d,f⟩:=h.at hi;cases S with
 |tup a=>
  obtain⟨vs,q,e⟩:=d;have:=z vs q;rw[e]at this;cases this
  show f
 |lst a=>show h.elim
 |txt x=>
  obtain⟨c,e,rfl⟩:=d;obtain⟨g,b,rfl⟩:=z;rw[e]at b;cases b
  show f
def ZRel.out {K:Km}{xs:J2 W}{S:Zs}{i:Kb}(h:ZRel K A H xs S)(hi:↥xs<=i):S.out K H i:=by
 cases S with
 |tup a=>obtain⟨vs,b,d⟩:=h;show#[vs,b,by rw[<- ↥d];show hi]
 |lst a=>show h.elim
 |txt x=>
  have h:xs=x.cps.toList.map λc=>.str #[[c].toArray]:=h
  subst h;change ⇑x.cps<=i
  simpa using hi
def BE {x:W}{v:V}{u:J5}{xs:J2 W}(I:Inv X J Y H s)(r:Rel X.K A H x v)(g:RelV v u)(e:HY x=gV xs) :
  ∃(S:Zs) (o:L5) (C:Lh->Prop),ZRel X.K A H xs S/\eY X.prog X.w u o C/\C s.heap/\(∀h o,C h->C (h.push o))/\o.isFreed=false/\∀it h,h.get? it=gV o->S.T it 0 h:=by
 cases r with
 |@tup ws a vs f j=>
  cases e;obtain⟨its,k,p,_⟩:=I.tuple f;obtain rfl:u=Lc a:=g;show#[.tup a,{cls:=.type "tuple_iterator",data:=.fields [.ref a,.int 0 0].toArray},λh=>h.IsTuple a its.toArray,#[vs,f,j],λB s Q E c b=>NX c b,p,λh o #[i,e,r]=>#[i,J7 _ e,r],rfl,λit h e=>#[_,e,rfl,rfl]]
 |@str x=>
  cases e;obtain⟨t,rfl⟩:=g;cases d:x.cps.all (· < 128)with
  |false=>show#[.txt x,{cls:=.type "str_iterator",data:=.fields [.str x t,.int 0 0].toArray},λ_=>RM,rfl,λB s Q E _ b=>wpAny_pyIter_wide d b,trivial,λ_ _ _=>trivial,rfl,λit h e=>#[t,.inr #[_,e,rfl,rfl]]]
  |true=>show#[.txt x,{cls:=.type "str_ascii_iterator",data:=.fields [.str x t,.int 0 0].toArray},λ_=>RM,rfl,λB s Q E _ b=>wpAny_pyIter_ascii d b,trivial,λ_ _ _=>trivial,rfl,λit h e=>#[t,.inl #[_,e,rfl,rfl]]]
 |_=>cases e
def yb:bootBuiltins "zip" = gV (.type "zip"):=rfl
def BF {a:Kf}{xs:J2 V}{u:J5}(I:Inv X J Y H s)(g:RelV (.ref a) u)(d:SqL X.K H a xs) :
  ∃(o:L5) (C:Lh->Prop),eY X.prog X.w u o C/\C s.heap/\(∀h o,C h->C (h.push o))/\o.isFreed=false/\∀it h,h.get? it=gV o->(Zs.lst a).T it 0 h:=by
 obtain⟨its,i,p,_⟩:=I.list d;obtain rfl:u=Lc a:=g;show#[{cls:=.type "list_iterator",data:=.fields [.ref a,.int 0 0].toArray},λh=>h.IsList a its.toArray,λB s Q E c b=>M5 c b,p.isList,λh o #[f,e,r]=>#[f,J7 _ e,r],rfl,λit h e=>#[_,e,rfl,rfl]]
end
def pZ:typeLookup (.type "list") "keys" = pure td:=RE (by kernel_rfl)
def rV:typeLookup (.type "zip") "keys" = pure td:=RE (by kernel_rfl)
section
variable{prog:KQ}{w:K8}{A:KZ}{E:J5->J8->Prop}{s:J8}
def p4 {a:Kf}{o:L5}{xs:Lm J5}{k:Kb}{Q:J9 J5->J8->Prop}(m:s.heap.get? a=gV o)(hc:o.cls=.type "list")(f:o.data=.seq xs k)(hd:o.dict=td)(q:A.handled=td)
  (h:∀h' tk,(∀b ob,s.heap.get? b=gV ob->h'.get? b=gV ob)->Q td {s with heap:=h',toks:=tk}):wpAny (model prog w) A (getAttr? (.ref a) "keys") Q E s:=by
 obtain⟨c,p,n,t⟩:=o;simp only at hc f hd;subst hc f hd;obtain⟨r,g,d,tk,os⟩:=s;have l:∀j,(#[r,g,d,j,os]:J8).TypeIs (.ref a) "list":=λ_=>#[_,m,rfl]
 have u:=QH;have x:=F.slot_list_getattribute.lookup;have y:=F.slot_list_getattribute.bind (.ref a);have z:=am_list_getattr_none;unfold getAttr? getAttrBy? getAttrBy
 repeat (any_goals (first|assumption|show l _|((with_reducible change wpAny _ _ (call (Su "list.__getattribute__") _ _) _ _ _);show Nm F.slot_list_getattribute (l _) am_entry_list_getattribute (F.args_list_getattribute_2 _ _) (meets_getattribute_miss_list a xs k t "keys" _ pZ #v[]) #[m,q,λh' j e i=>?_])|wp_step))
 obtain⟨t',C,B⟩:=i.there;change wpAny _ _ (getattributeRaised _ _ _ _ _ _ _) _ _ _;unfold getattributeRaised
 repeat (any_goals (first|assumption|wp_step))
 show h _ _ i.keeps
end
def fu:entryFor table "dict.update.loop" = gV M4.«dict.update.loop»:=entryFor_of_tree (by kernel_rfl)
def b9:plainId "dict.update.loop" = true:=by decide +kernel
structure PSrc (prog:KQ)(w:K8)(A:KZ)(I d:Kf)(its:J2 (bq×V))(wr:J2 Kf)(St:Kb->Lh->Prop):Prop where
 frame:∀i h h',St i h->(∀b o,b≠d->h.get? b=gV o->h'.get? b=gV o)->St i h'
 item:∀(i:Kb) (s:J8) (Q:J9 J5->J8->Prop) (E:J5->J8->Prop) (k:bq) (y:V),its[i]?=gV (k,y)->d<⇑s.heap.objs->St i s.heap->
  (∀p u x h' tk,RelV (kV k) u->RelV y x->Pw h' p [u,x].toArray->St (i+1) h'->(∀b o,b∉wr->s.heap.get? b=gV o->h'.get? b=gV o)->Q (gV (.ref p)) {s with heap:=h',toks:=tk})->wpAny (model prog w) A (pyNext (.ref I)) Q E s
 done:∀(s:J8) (Q:J9 J5->J8->Prop) (E:J5->J8->Prop),St ↥its s.heap->
  (∀h' tk,(∀b o,b∉wr->s.heap.get? b=gV o->h'.get? b=gV o)->Q td {s with heap:=h',toks:=tk})->wpAny (model prog w) A (pyNext (.ref I)) Q E s
section
variable{prog:KQ}{w:K8}{A:KZ}{R:Qx->J8->Prop}{I d:Kf}{its:J2 (bq×V)}{wr:J2 Kf}{St:Kb->Lh->Prop}
def kR (W:PSrc prog w A.in1 I d its wr St)(hd:d∉wr)(res:J5):∀(k i:Kb) (t:Tn) (s:J8) (U:J2 (bq×V)) (vs:J2 (bq×J5)),↥its-i=k->i<=↥its->St i s.heap->KV U vs->s.heap.DictOf (aJ prog w) d vs->
  ↥U+k<=sizeLine->
  (∀h' tk z,KV (gX U (its.drop i)) z->h'.DictOf (aJ prog w) d z->(∀b o,b∉wr->b≠d->s.heap.get? b=gV o->h'.get? b=gV o)->R (.ok (.ret res)) {s with heap:=h',toks:=tk})->
  codeAny (model prog w) A (.builtin "dict.update.loop" #[[.ref d,.ref I,.int (i:Kb) t,res],[]]) R s:=by
 have a:∀{h h':Lh}{vs:J2 (bq×J5)},h.DictOf (aJ prog w) d vs->(∀b o,b∉wr->h.get? b=gV o->h'.get? b=gV o)->h'.DictOf (aJ prog w) d vs:=
  λ{h h' vs} #[o,es,ep,e,r] k=>#[o,es,ep,k d o hd e,r]
 intro k
 induction k with
 |zero=>
  intro i t s U vs hk hi g D B T C;obtain rfl:i=↥its:=∅
  show LQ fu ?_;rw[LI b9 _];change wpAny _ A.in1 (pyNext (.ref I) >>= _) _ _ s;show J3 (W.done s _ _ g λh' tk m=>?_)
  change wpAny _ _ (Sv d [] >>= _) _ _ _;rw[List.drop_length]at C;show J3 (Kd (Kd (C h' tk vs D (a B m) λb o j _ e=>m b o j e)))
 |succ k ih=>
  intro i t s U vs hk hi g D B T C;have c:i<↥its:=∅
  obtain⟨⟨f,y⟩,L⟩:∃p,its[i]?=gV p:=#[its[i],Ke c];show LQ fu ?_;rw[LI b9 _];change wpAny _ A.in1 (pyNext (.ref I) >>= _) _ _ s;show J3 (W.item i s _ _ f y L (let ⟨_,_,_,e,_⟩:=B;Kx e) g λp u x h' tk X Y #[o,ho,hc,n,hdat] hst' m=>?_)
  show J3 (LN ?_);have S:(#[h',s.gens,s.drawn,tk,s.os]:J8).TypeIs (.ref p) "tuple":=#[_,ho,hc];show J3 ?_;unfold SL;show N7 (J3 (NE S ?_));rw[KC #v[]]
  show J3 (L8 ho hdat (Kd ?_));show LN ?_;have E:=a B m;show wpAny_dictSet_pairs (s:=#[h',s.gens,s.drawn,tk,s.os]) (l7 X) E (λZ G q=>?_) (by rw[<- ↥D];omega)
  have M:=D.put f Y;show Kd #[MC b9 _,ih (i+1) _ _ _ _ ∅ c (W.frame _ _ _ hst' λb o j e=>(q.2 b j).trans e) M G (by have:=dZ U f y;omega) λQ O P N H J=>?_]
  show C Q O P ?_ H λb o j l e=>J b o j l ((q.2 b l).trans (m b o j e))
  rw[show its.drop i=(f,y)::its.drop (i+1) by rw[List.drop_eq_getElem_cons c];rw[Ke c]at L;rw[LJ L]]
  show N
end
noncomputable abbrev Kps (h h':Lh):Prop:=∀b o,h.get? b=gV o->h'.get? b=gV o
def Kps.trans {h h' d:Lh}(a:Kps h h')(b:Kps h' d):Kps h d:=λc o e=>b c o (a c o e)
structure DArg (prog:KQ)(w:K8)(A:KZ)(v:J5)(T:LV)(low:Kb)(h0:Lh)(its:J2 (bq×V)):Prop where
 type:∀s:J8,Kps h0 s.heap->s.TypeIs v T
 nod:(MK T != MK "dict")=true
 keys:∀(s:J8) (Q:J9 J5->J8->Prop) (E:J5->J8->Prop),Kps h0 s.heap->(∀h' tk,Kps s.heap h'->Q td {s with heap:=h',toks:=tk})->wpAny (model prog w) A (getAttr? v "keys") Q E s
 iter:∀(d:Kf) (s:J8) (Q:J5->J8->Prop) (E:J5->J8->Prop),Kps h0 s.heap->⇑h0.objs<=d->(∃o,s.heap.get? d=gV o)->
  (∀I wr St h' tk,PSrc prog w A I d its wr St->d∉wr->(∀b∈wr,low<=b)->St 0 h'->Kps s.heap h'->Q (.ref I) {s with heap:=h',toks:=tk})->wpAny (model prog w) A (pyIter v) Q E s
section
variable{prog:KQ}{w:K8}{A:KZ}{E:J5->J8->Prop}{s:J8}{v:J5}{T:LV}{low:Kb}{its:J2 (bq×V)}
def fP {Q:J5->J8->Prop}(D:DArg prog w A.in1.in1 v T low s.heap its)(u:↥its<=sizeLine)
  (h:∀h' tk vs,KV (gX [] its) vs->h'.DictOf (aJ prog w) ⇑s.heap.objs vs->(∀b o,b<low->s.heap.get? b=gV o->h'.get? b=gV o)->Q (.ref ⇑s.heap.objs) {s with heap:=h',toks:=tk}) (hl:low<=⇑s.heap.objs) :
  wpAny (model prog w) A (call (.type "dict") [v]) Q E s:=by
 show R3 (Q₁:=λobj c=>obj=.ref ⇑s.heap.objs/\c={s with heap:=s.heap.push {cls:=.type "dict",data:=.dict #[]}}) F.kt_called_dict (F.kt_typeCall_dict_1 _) F.entry_dict_init (kt_code_dict_new _ #[rfl,rfl]) ?_
 rintro obj c ⟨rfl,rfl⟩;have a:(s.heap.push {cls:=.type "dict",data:=.dict #[]}).DictOf (aJ prog w) ⇑s.heap.objs []:=TK s.heap;have d:Kps s.heap (s.heap.push {cls:=.type "dict",data:=.dict #[]}):=λb o e=>J7 _ e
 show#[a.typeIs,F.args_dict_init_2 _ _,?_];unfold M4.«dict.__init__»;show J3 ?_;unfold Sw;show J3 (PR a.typeIs ?_);change wpAny _ _ (pure (⇑s.heap.objs,[v])) _ _ _;show Kd ?_;change wpAny _ _ (Pb "dict.__init__" ⇑s.heap.objs v [] .none) _ _ _;unfold Pb;show J3 (NE (D.type _ d) ?_);rw[KC D.nod];show J3 (D.keys _ _ _ d λC x f=>?_)
 rw[KC (show(td:J9 J5).isNone=true from rfl)]
 show J3 (Ox ?_);show J3 (D.iter ⇑s.heap.objs _ _ _ (d.trans f) (Kl _) #[_,f _ _ (Kr _ rfl)] λI wr B q y W hd hw st p=>?_)
 have g:q.DictOf (aJ prog w) ⇑s.heap.objs []:=let ⟨o,es,ep,e,r⟩:=a;#[o,es,ep,p _ _ (f _ _ e),r]
 show Kd #[MC b9 _,kR W hd .none ↥its 0 _ _ [] [] rfl (Ml _) st .nil g (by simpa using u) λt l m k i j=>?_]
 show#[rfl,h t l m k i λb o n e=>j b o (λz=>absurd (hw b z) (Nat.not_le.mpr n)) (KF (Kw n hl)) (p _ _ (f _ _ (d _ _ e)))]
end
open PySem.Builtin.SmallTypes (nextOf)
section
variable{prog:KQ}{w:K8}{A:KZ}{E:J5->J8->Prop}{s:J8}
abbrev GN (h:Lh)(items:Lm J5)(its:J2 (bq×V)):Prop:=⇑items=↥its/\∀(i:Kb) (k:bq) (y:V),its[i]?=gV (k,y)->∃(p:Kf) (u x:J5),items[i]?=gV (Lc p)/\RelV (kV k) u/\RelV y x/\Pw h p [u,x].toArray
def vA {l:Kf}{items:Lm J5}{its:J2 (bq×V)}{f:Lh}(G:A.handled=td)(hl:PlainL f l items)(H:GN f items its):DArg prog w A (.ref l) "list" ⇑f.objs f its where
 type:=λs k=>let ⟨o,n,e,hc,hd,m⟩:=hl;#[o,k _ _ e,hc]
 nod:=by decide
 keys:=λs Q E k h=>by
  obtain⟨o,n,e,hc,hd,m⟩:=hl;show p4 (k _ _ e) hc m hd G h
 iter:=λd s Q E k hd #[od,hod] h=>by
  have D:f.IsList l items:=hl.isList;have g:s.heap.IsList l items:=let ⟨o,e,r⟩:=D;#[o,k _ _ e,r]
  have I:l<⇑f.objs:=let ⟨o,e,r⟩:=D;Kx e
  have j:=Kx hod;show M5 g ?_;have W:PSrc prog w A ⇑s.heap.objs d its [⇑s.heap.objs] (λi h=>h.IsListIter ⇑s.heap.objs l i/\h.IsList l items/\∀b o,b<⇑f.objs->f.get? b=gV o->h.get? b=gV o):=by
   show#[λi h h' #[st,c,hk] kp=>#[st.at λo e=>kp _ _ (LU j) e,let ⟨o,e,r⟩:=c;#[o,kp _ _ (KF (Kw I hd)) e,r],λb o a e=>kp _ _ (KF (Kw a hd)) (hk b o a e)],?_,?_]
   ·intro i X M L v y m _ ⟨st,c,hk⟩ t;obtain⟨p,u,x,O,T,U,S,C,ct,R,N⟩:=H.2 i v y m;show Pg st c O λh' B q=>?_
    have J:p<⇑f.objs:=Kx C;have ne:∀{b},b<⇑f.objs->b≠⇑s.heap.objs:=λ{b} a=>KF (MB (Kw a hd) j)
    show t p u x h' _ T U #[S,(q.2 _ (ne J)).trans (hk _ _ J C),ct,R,N] #[B,let ⟨o,e,r⟩:=c;#[o,(q.2 _ (ne I)).trans e,r],λb o a e=>(q.2 _ (ne a)).trans (hk b o a e)] λb o a e=>(q.2 b (λz=>a (by rw[z];show Pc _))).trans e
   ·intro X M L ⟨st,c,hk⟩ t;show PN G st c (by rw[OH,H.1];show Kl _) λh' P=>t h' _ λb o a e=>P b o (λz=>a (by rw[z];show Pc _)) e
  show h _ _ _ _ s.toks W ?_ (λb a=>?_) #[#[_,Kr _ rfl,rfl,rfl],let ⟨o,e,r⟩:=g;#[o,J7 _ e,r],λb o a e=>J7 _ (k b o e)] λb o e=>J7 _ e
  ·intro z;rw[KA]at z;show absurd z (KF j)
  ·rw[KA.mp a];show Lq hd (ND j)
end
end Mi
namespace Mi
open PySem PySem.Spec PyProof.Rows L2
open PySem.Builtin.SmallTypes (nextOf)
def dX:entryFor table "zip.__getattribute__" = gV M4.«object.__getattribute__»:=
 entryFor_alias (id':="object.__getattribute__") (by kernel_rfl) (by decide +kernel) (by decide +kernel) (by kernel_rfl)
def dq (a:Kf)(xs:Lm J5)(i:Lm (J9 J5))(name:KG)(u:Tn)(e:typeLookup (.type "zip") name=pure td)(b:(["__module__","__name__","__qualname__","__doc__","__annotations__"]:J2 KG).contains name=false)(hsz:↥name+100<=sizeLine:=by size_fits) :
  Meets (M4.«object.__getattribute__» #[[.ref a,.str name u],[]]) (λA R s=>s.heap.get? a=gV {cls:=.type "zip",dict:=td,data:=.fields xs,slots:=i}/\raisesAttr (.ref a) name A R s):=
 Meets.of_wp λprog w A R s c=>by
  obtain⟨f,g,d,tk,os⟩:=s;obtain⟨h,c⟩:=c;have j:(#[f,g,d,tk,os]:J8).TypeIs (.ref a) "zip":=#[_,h,rfl];unfold M4.«object.__getattribute__»
  repeat (any_goals (first|assumption|wp_step))
  revert b LK ML
  repeat (any_goals (first|assumption|wp_step))
  show wpAny_raiseAttrError c.1 c.2 (attrMsg_fits (by decide +kernel) hsz)
def jk:typeLookup (.type "zip") "__getattr__" = pure td:=by rw[typeLookup_type,builtinLookup_eq_fast];kernel_rfl
section
variable{prog:KQ}{w:K8}{A:KZ}{E:J5->J8->Prop}{s:J8}
def rW {a:Kf}{xs:Lm J5}{k:Lm (J9 J5)}{Q:J9 J5->J8->Prop}(j:s.heap.get? a=gV {cls:=.type "zip",dict:=td,data:=.fields xs,slots:=k})(l:A.handled=td)
  (h:∀h' tk,(∀b ob,s.heap.get? b=gV ob->h'.get? b=gV ob)->Q td {s with heap:=h',toks:=tk}):wpAny (model prog w) A (getAttr? (.ref a) "keys") Q E s:=by
 obtain⟨m,g,d,tk,os⟩:=s;have i:∀f,(#[m,g,d,f,os]:J8).TypeIs (.ref a) "zip":=λ_=>#[_,j,rfl]
 have n:=QH;have o:=F.slot_zip_getattribute.lookup;have p:=F.slot_zip_getattribute.bind (.ref a);have q:=jk;unfold getAttr? getAttrBy? getAttrBy
 repeat (any_goals (first|assumption|show i _|((with_reducible change wpAny _ _ (call (Su "zip.__getattribute__") _ _) _ _ _);show Nm F.slot_zip_getattribute (i _) dX (F.args_zip_getattribute_2 _ _) (dq a xs k "keys" _ rV #v[]) #[j,l,λh' f e c=>?_])|wp_step))
 obtain⟨t',t,r⟩:=c.there;change wpAny _ _ (getattributeRaised _ _ _ _ _ _ _) _ _ _;unfold getattributeRaised
 repeat (any_goals (first|assumption|wp_step))
 show h _ _ c.keeps
end
end Mi
namespace Mi
open PySem PySem.Spec PyProof.Rows L2
open PySem.Builtin.SmallTypes (nextOf)
noncomputable abbrev p7 (h:Lh)(z p q t:Kf)(f1:KR):Prop:=h.get? z=gV {cls:=.type "zip",dict:=td,data:=.fields [rawInt t,.bool f1,.bool false,.ref p,.ref q].toArray,slots:=#[]}
section
variable{prog:KQ}{w:K8}
variable{B:KZ}{E:J5->J8->Prop}{s:J8}{z p q i1 i2 t:Kf}{T1 T2:Kb->Lh->Prop}{C1 C2:Lh->Prop}{i:Kb}{a b:J5}{f1:KR}
def jP {α:Type}{a:Kf}{o:L5}{k:J9 L5->SO α}{Q:α->J8->Prop}(b:s.heap.get? a=gV o)(h:wpAny (model prog w) B (k (gV o)) Q E s):wpAny (model prog w) B (loadIfAlive a >>= k) Q E s:=by
 intro Γ pos hΓ;have:=h Γ pos hΓ;change Sem.wp _ Γ (Sem.bind (loadIfAlive a) k) _ _ pos s;rw[Sem.wp_bind];unfold loadIfAlive;rw[Sem.wp_loadIfAlive,b];show this
def mD {H P:J9 (J5->Prop)}{Q:J5->J8->Prop}(D:Zap z p q i1 i2)(J:Zit prog w i1 T1 C1 i H)(U:∀m,H=gV m->Zit prog w i2 T2 C2 i P)(k1:Zc z q i1 i2 C1)(k2:Zc z q i1 i2 C2)(hh:B.handled=td)
  (G:p7 s.heap z p q t f1) (hp:Nu s.heap p (.ref i1) (.ref i2)) (ht:∃o,s.heap.get? t=gV o) (t1:T1 i s.heap) (t2:T2 i s.heap) (c1:C1 s.heap) (c2:C2 s.heap)
  (hI:∀m I,H=gV m->P=gV I->∀n u v h' tk,m u->I v->(∃f,p7 h' z p q t f)->T1 (i+1) h'->T2 (i+1) h'->⇑s.heap.objs<=n->Nu h' n u v->
   (∀c o,c≠z->c≠i1->c≠i2->s.heap.get? c=gV o->h'.get? c=gV o)->Q (.ref n) {s with heap:=h',toks:=tk})
  (hE:H=td\/P=td->∀h' tk e,(∀c o,c≠z->c≠q->c≠i1->c≠i2->s.heap.get? c=gV o->h'.get? c=gV o)->(∃o,h'.get? e=gV o/\o.cls=.type "StopIteration")->E (.ref e) {s with heap:=h',toks:=tk}) :
  wpAny (model prog w) B (M4.«zip.__next__» #[[.ref z],[]]) (λfin S=>∃v,fin=.done (.ret v)/\Q v S) E s:=by
 change wpAny _ _ (field (.ref z) 2 >>= _) _ _ s;show J3 (LR G rfl (x:=.bool false) rfl ?_);change wpAny _ _ (field (.ref z) 3 >>= _) _ _ s;show J3 (LR G rfl (x:=.ref p) rfl (J3 (L8 hp rfl ?_)));change wpAny _ _ (Lx (.ref z) >>= _) _ _ s;obtain⟨ot,Y⟩:=ht;have free:wpAny (model prog w) B (Lx (.ref z)) (λa S=>a=false/\∃A f,S={s with heap:=A}/\p7 A z p q t f/\(∀c o,c≠z->s.heap.get? c=gV o->A.get? c=gV o)/\⇑A.objs=⇑s.heap.objs) E s:=by
  unfold Lx;show J3 (LR G rfl (x:=rawInt t) rfl ?_);change wpAny _ _ (loadIfAlive (Int.toNat t) >>= _) _ _ s;show jP (by rw[Kz];show Y) ?_
  rw[KS (show ¬ ((gV ot).isNone=true)from KJ)]
  show J3 (LR G rfl (x:=.bool f1) rfl ?_);cases f1 with
  |true=>
   rw[KS #v[]]
   show Kd #[rfl,s.heap,true,rfl,G,λ_ _ _ e=>e,rfl]
  |false=>
   rw[KC #v[]]
   show J3 (MT G (by simp) λg1 zz1 s1=>Kd #[rfl,g1,true,rfl,zz1,λc o hc e=>s1.extBut c o hc e,s1.1])
 show J3 (Mj free (λr S hr=>?_) λ_ _ x=>x)
 obtain⟨rfl,A,f,rfl,zz0,j,sz0⟩:=hr;revert LK ML;revert List.forIn_toArray NU OG;show J3 (J3 (J3 (LN ?_)));change wpAny _ _ (nextOf (.ref i1) >>= _) _ _ _;have N:T1 i A:=J.keep _ _ _ t1 λo e=>j _ _ D.iz e
 have L:C1 A:=k1 _ _ c1 λc o hc _ _ _ e=>j c o hc e
 cases b:H with
 |none=>
  show J3 (J.stop b _ _ _ _ hh N L λC e W X=>hE (.inl b) C s.toks e (λc o d _ g _ x=>W _ _ g (j c o d x)) X)
 |some m=>
  have R:=U m b;show J3 (J.next m b _ _ _ _ N L λu C tk2 hu t12 Z=>Kd (Kd ?_))
  show J3 (J3 (LN ?_));change wpAny _ _ (nextOf (.ref i2) >>= _) _ _ _;have k:∀c o,c≠z->c≠i1->s.heap.get? c=gV o->C.get? c=gV o:=λc o d g x=>Z.extBut _ _ g (j c o d x)
  have zz2:p7 C z p q t f:=Z.extBut _ _ D.iz.symm zz0;have O:T2 i C:=R.keep _ _ _ t2 λo e=>k _ _ D.jz D.ij.symm e
  have M:C2 C:=k2 _ _ c2 λc o d a2 g _ e=>k c o d g e
  cases h:P with
  |none=>
   show J3 (R.stop h _ _ _ _ hh O M λy e W X=>hE (.inr h) y tk2 e (λc o d a2 g V x=>W _ _ V (k c o d g x)) X)
  |some I=>
   show J3 (R.next I h _ _ _ _ O M λv y tk4 hv t24 T=>Kd (Kd (Kd ?_)))
   show J3 (OF ?_ (by show([u,v]:J2 J5).length<=sizeLine;show Ob rfl))
   have sz:⇑y.objs=⇑s.heap.objs:=by rw[T.1,Z.1,sz0]
   have zz4:p7 y z p q t f:=T.extBut _ _ D.jz.symm zz2;have t14:T1 (i+1) y:=J.keep _ _ _ t12 λo e=>T.extBut _ _ D.ij e
   have l:∀c o,y.get? c=gV o->(y.push {cls:=.type "tuple",data:=.seq [u,v].toArray}).get? c=gV o:=λc o e=>J7 _ e
   show Kd #[_,rfl,hI m I b h ⇑y.objs u v _ tk4 hu hv #[f,l _ _ zz4] (J.keep _ _ _ t14 λo e=>l _ _ e) (R.keep _ _ _ t24 λo e=>l _ _ e) (by rw[sz];show Kl _) (Kr _ rfl) λc o d g V e=>l _ _ (T.extBut _ _ V (k c o d g e))]
end
end Mi
namespace Mi
open PySem PySem.Spec PyProof.Rows L2
open PySem.Builtin.SmallTypes (nextOf)
inductive Src (h:Lh)(it a:Kf)(items:Lm J5):(Kb->Lh->Prop)->(Lh->Prop)->Prop
 |lst (e:h.IsList a items):Src h it a items (λi h=>h.IsListIter it a i) (λh=>h.IsList a items)
 |tup (e:h.IsTuple a items):Src h it a items (λi h=>h.IsTupleIter it a i) (λh=>h.IsTuple a items)
section
variable{prog:KQ}{w:K8}{A:KZ}{h:Lh}{it a:Kf}{items:Lm J5}{T:Kb->Lh->Prop}{C:Lh->Prop}
def Src.zit (x:Src h it a items T C)(i:Kb):Zit prog w it T C i (items[i]?.map λv u=>u=v):=by
 cases x with
 |lst e=>
  show#[λj h h' t k=>t.at k,λV g B s Q E t c d=>?_,λf B s Q E l t c b=>?_]
  ·obtain⟨v,m,rfl⟩:=J6.mp g;show Pr t c m λh' t' n=>d v h' s.toks rfl t' n
  ·show PY l t c (by simpa using f) b
 |tup e=>
  show#[λj h h' t k=>t.at k,λV g B s Q E t c d=>?_,λf B s Q E l t c b=>?_]
  ·obtain⟨v,m,rfl⟩:=J6.mp g;show CP t c m λh' t' n=>d v h' s.toks rfl t' n
  ·show CQ l t c (by simpa using f) b
def Src.c (x:Src h it a items T C):C h:=by cases x<;>assumption
def Src.keepC (x:Src h it a items T C){b d:Lh}(c:C b)(k:∀o,b.get? a=gV o->d.get? a=gV o):C d:=by
 cases x with
 |lst e=>obtain⟨o,e,r⟩:=c;show#[o,k _ e,r]
 |tup e=>obtain⟨o,e,r⟩:=c;show#[o,k _ e,r]
end
section
variable{prog:KQ}{w:K8}{A:KZ}{h0:Lh}{low:Kb}{z p q i1 i2 a1 a2:Kf}{x1 x2:Lm J5}{T1 T2:Kb->Lh->Prop}{C1 C2:Lh->Prop}
abbrev IZ (x1 x2:Lm J5)(its:J2 (bq×V)):Prop:=↥its=min ⇑x1 ⇑x2/\∀(i:Kb) (k:bq) (y:V),its[i]?=gV (k,y)->∃(u x:J5),x1[i]?=gV u/\x2[i]?=gV x/\RelV (kV k) u/\RelV y x
abbrev JV (z p q i1 i2 d:Kf)(T1 T2:Kb->Lh->Prop)(C1 C2:Lh->Prop)(i:Kb)(h:Lh):Prop:=
 ((P9 h z p q .none)\/∃t f,p7 h z p q t f/\t≠d/\t≠z/\t≠q/\t≠i1/\t≠i2/\∃o,h.get? t=gV o)/\Nu h p (.ref i1) (.ref i2)/\(∃a b,Nu h q a b)/\T1 i h/\T2 i h/\C1 h/\C2 h
def yc {its:J2 (bq×V)}(hh:A.handled=td)(hz:P9 h0 z p q .none)(hp:Nu h0 p (.ref i1) (.ref i2))(hq:Nu h0 q .none .none)(D:Zap z p q i1 i2)(s1:Src h0 i1 a1 x1 T1 C1)(s2:Src h0 i2 a2 x2 T2 C2)(t1:T1 0 h0)(t2:T2 0 h0)
  (l1:a1<low) (l2:a2<low) (hl:∀b∈[z,p,q,i1,i2],low<=b/\b<⇑h0.objs) (hl0:low<=⇑h0.objs) (hx:IZ x1 x2 its):DArg prog w A (.ref z) "zip" low h0 its where
 type:=λs k=>#[_,k _ _ hz,rfl]
 nod:=by decide
 keys:=λs Q E k h=>rW (k _ _ hz) hh h
 iter:=λd s Q E k hd #[od,hod] h=>by
  have Zz:∀i,Zit prog w i1 T1 C1 i (x1[i]?.map λv u=>u=v):=λi=>s1.zit i
  have Zq:∀i,Zit prog w i2 T2 C2 i (x2[i]?.map λv u=>u=v):=λi=>s2.zit i
  have ne:∀{b},b∈[z,p,q,i1,i2]->b≠d:=λ{b} l=>KF (Kw (hl b l).2 hd)
  have M:∀{b},b∈[z,p,q,i1,i2]->a1≠b:=λ{b} l=>KF (Kw l1 (hl b l).1)
  have N:∀{b},b∈[z,p,q,i1,i2]->a2≠b:=λ{b} l=>KF (Kw l2 (hl b l).1)
  have H:Zc z q i1 i2 C1:=λh h' c kp=>s1.keepC c λo e=>kp _ _ (M (by simp)) (M (by simp)) (M (by simp)) (M (by simp)) e
  have I:Zc z q i1 i2 C2:=λh h' c kp=>s2.keepC c λo e=>kp _ _ (N (by simp)) (N (by simp)) (N (by simp)) (N (by simp)) e
  have W:PSrc prog w A z d its [z,q,i1,i2] (JV z p q i1 i2 d T1 T2 C1 C2):=by
   show#[?_,?_,?_]
   ·rintro i h h' ⟨j,Y,⟨b1,b2,qq⟩,O,P,R,S⟩ kp;show#[?_,kp _ _ (ne (by simp)) Y,#[b1,b2,kp _ _ (ne (by simp)) qq],(Zz 0).keep _ _ _ O λo e=>kp _ _ (ne (by simp)) e,(Zq 0).keep _ _ _ P λo e=>kp _ _ (ne (by simp)) e,
     s1.keepC R λo e=>kp _ _ (KF (Kw l1 (Lq hl0 hd))) e,s2.keepC S λo e=>kp _ _ (KF (Kw l2 (Lq hl0 hd))) e]
    rcases j with j|⟨t,f,j,n1,n2,n3,n4,n5,o,e⟩
    ·show .inl (kp _ _ (ne (by simp)) j)
    ·show .inr #[t,f,kp _ _ (ne (by simp)) j,n1,n2,n3,n4,n5,o,kp _ _ n1 e]
   ·rintro i s0 Q0 E0 key y hx' hd0 ⟨j,Y,⟨b1,b2,qq⟩,O,P,R,S⟩ hQ;obtain⟨u,x,r,B,ru,rx⟩:=hx.2 i key y hx';have J:(x1[i]?.map λ(v u:J5)=>u=v)=gV λG=>G=u:=by rw[r];rfl
    have L:(x2[i]?.map λ(v u:J5)=>u=v)=gV λG=>G=x:=by rw[B];rfl
    have W1:=Zz i;have W2:=Zq i;rw[J]at W1;rw[L]at W2;have hT:s0.TypeIs (.ref z) "zip":=by
     rcases j with j|⟨t,f,j,_⟩
     ·show#[_,j,rfl]
     ·show#[_,j,rfl]
    have m:∀{b o},s0.heap.get? b=gV o->b<s0.heap.objs.size:=λe=>Kx e
    unfold pyNext;show J3 (NR (Lw (name:=Mw "__next__") hT F.slot_zip_next (LP F.slot_zip_next hT F.entry_zip_next ?_ (F.args_zip_next_1 _))));have z1:i1<s0.heap.objs.size:=by
     cases s1 with
     |lst=>obtain⟨o,e,_⟩:=O;show m e
     |tup=>obtain⟨o,e,_⟩:=O;show m e
    have z2:i2<s0.heap.objs.size:=by
     cases s2 with
     |lst=>obtain⟨o,e,_⟩:=P;show m e
     |tup=>obtain⟨o,e,_⟩:=P;show m e
    have q0:=m qq;have zl:z<s0.heap.objs.size:=by
     rcases j with j|⟨t,f,j,_⟩<;>show m j
    have fin:∀n G v' h' tk,G=u->v'=x->((∃f,p7 h' z p q n f)\/∃t f,p7 h' z p q t f/\t≠d/\t≠z/\t≠q/\t≠i1/\t≠i2/\∃o,h'.get? t=gV o)->(∃a b,Nu h' q a b)->T1 (i+1) h'->T2 (i+1) h'->s0.heap.objs.size<=n->Nu h' n G v'->
      (∀c o,c≠z->c≠q->c≠i1->c≠i2->s0.heap.get? c=gV o->h'.get? c=gV o)->Q0 (gV (.ref n)) {s0 with heap:=h',toks:=tk}:=by
     rintro n G v' h' tk rfl rfl C hq' t1' t2' Z np kp;show hQ n _ _ h' tk ru rx #[_,np,rfl,0,rfl] #[?_,kp _ _ D.pz D.pq D.pi D.pj Y,hq',t1',t2',H _ _ R kp,I _ _ S kp] λb o l e=>?_
     ·rcases C with⟨f,C⟩|C
      ·show .inr #[n,f,C,LU (Kw hd0 Z),LU (Kw zl Z),LU (Kw q0 Z),LU (Kw z1 Z),LU (Kw z2 Z),_,np]
      ·show .inr C
     ·simp only[KH,Lg,Mh,P8]at l;show kp b o l.1 l.2.1 l.2.2.1 l.2.2.2 e
    rcases j with j|⟨t,f,j,n1,n2,n3,n4,n5,o,e⟩
    ·show pY D W1 (λ_ _=>W2) H I hh j Y qq O P R S (λJ L r B G v' g tk r1 r2 zg qg t1 t2 ng kp=>?_) (λz=>by rcases z with z|z<;>cases z)
     cases r;cases B;show Kd (fin _ G v' g tk r1 r2 (.inl #[_,zg]) #[_,_,qg] t1 t2 (Kl _) ng kp)
    ·show mD D W1 (λ_ _=>W2) H I hh j Y #[o,e] O P R S (λJ L r B n G v' g tk r1 r2 #[f',zg] t1 t2 Z ng kp=>?_) (λz=>by rcases z with z|z<;>cases z)
     cases r;cases B;show Kd (fin n G v' g tk r1 r2 (.inr #[t,f',zg,n1,n2,n3,n4,n5,o,kp _ _ n2 n4 n5 e]) #[_,_,kp _ _ D.qz D.qi D.qj qq] t1 t2 Z ng λc o a1 _ a3 a4 e=>kp c o a1 a3 a4 e)
   ·rintro s0 Q0 E0 ⟨j,Y,⟨b1,b2,qq⟩,O,P,R,S⟩ hQ;have W1:=Zz ↥its;have W2:=Zq ↥its;have hT:s0.TypeIs (.ref z) "zip":=by
     rcases j with j|⟨t,f,j,_⟩
     ·show#[_,j,rfl]
     ·show#[_,j,rfl]
    unfold pyNext;show J3 (NR (Lw (name:=Mw "__next__") hT F.slot_zip_next (LP F.slot_zip_next hT F.entry_zip_next ?_ (F.args_zip_next_1 _))));have X:∀h' tk e,(∀c o,c≠z->c≠q->c≠i1->c≠i2->s0.heap.get? c=gV o->h'.get? c=gV o)->(∃o,h'.get? e=gV o/\o.cls=.type "StopIteration")->
      wpAny (model prog w) A (do if <- isInstance (.ref e) (.type "StopIteration")then pure (td:J9 J5)else throw (.ref e)) Q0 E0 {s0 with heap:=h',toks:=tk}:=λh' tk e kp #[o,ho,hc]=>
     J3 (Og (T:="StopIteration") (b:=true) #[o,ho,hc] P4 (Kd (hQ h' tk λb o l e=>by
      simp only[KH,Lg,Mh,P8]at l;show kp b o l.1 l.2.1 l.2.2.1 l.2.2.2 e)))
    have no:x1[↥its]?=td\/x2[↥its]?=td:=by
     revert OH;rw[hx.1];omega
    have U:∀(J L:J5->Prop),(x1[↥its]?.map λ(v u:J5)=>u=v)=gV J->(x2[↥its]?.map λ(v u:J5)=>u=v)=gV L->LM:=λJ L r B=>by
     rcases no with no|no
     ·rw[no]at r;cases r
     ·rw[no]at B;cases B
    rcases j with j|⟨t,f,j,n1,n2,n3,n4,n5,o,e⟩
    ·show pY D W1 (λ_ _=>W2) H I hh j Y qq O P R S (λJ L r B=>(U J L r B).elim) λ_ h' tk e k he=>X h' tk e k he
    ·show mD D W1 (λ_ _=>W2) H I hh j Y #[o,e] O P R S (λJ L r B=>(U J L r B).elim) λ_ h' tk e k he=>X h' tk e k he
  show wpAny_pyIter_zip (k _ _ hz) ?_;show h z _ _ s.heap s.toks W ?_ (λb l=>(hl b ?_).1) #[.inl (k _ _ hz),k _ _ hp,#[_,_,k _ _ hq],(Zz 0).keep _ _ _ t1 λo e=>k _ _ e,(Zq 0).keep _ _ _ t2 λo e=>k _ _ e,s1.keepC s1.c λo e=>k _ _ e,s2.keepC s2.c λo e=>k _ _ e] λ_ _ e=>e
  ·intro z';simp only[KH,Lg,Mh]at z';rcases z' with z'|z'|z'|z'<;>show ne (by simp) z'.symm
  ·simp only[KH,Lg,Mh]at l ⊢;rcases l with l|l|l|l<;>simp[l]
end
end Mi
namespace Mi
open PySem PySem.Spec PyProof.Rows L2
abbrev dg:J2 W->J9 (J2 (Ki×W))
 |[]=>gV []
 |.tup [.int k,v]::ws=>(dg ws).map ((k,v) :: ·)
 |_::_=>td
abbrev mE (acc:J2 (Ki×W))(a:J2 (Ki×W)):J2 (Ki×W):=a.foldl (λacc p=>km acc p.1 p.2) acc
abbrev tM (xs:J2 W)(S:aa):J9 (W×aa):=match xs with
 |[.ref i]=>match dU S i with
  |some ws=>(dg ws).map λU=>(.ref ↥S,S++[.dik (mE [] U)])
  |none=>td
 |_=>td
abbrev yd (S:aa):W->J9 (J2 W)
 |.tup ws=>gV ws
 |.ref r=>dU S r
 |_=>td
abbrev tN (xs:J2 W)(S:aa):J9 (W×aa):=match xs with
 |[x,y]=>match yd S x,yd S y with
  |some xs,gV ys=>(dg (pT xs ys)).map λU=>(.ref ↥S,S++[.dik (mE [] U)])
  |_,_=>td
 |_=>td
abbrev tP (xs:J2 W)(S:aa):J9 (W×aa):=match xs with
 |[.ref i]=>(v6 S i).map λU=>(.ref ↥S,S++[.lst (U.map λp=>.int p.1)])
 |_=>td
abbrev tQ (xs:J2 W)(S:aa):J9 (W×aa):=match xs with
 |[.ref i]=>(v6 S i).map λU=>(.ref ↥S,S++[.lst (U.map λp=>p.2)])
 |_=>td
abbrev BG (xs:J2 W)(S:aa):J9 (W×aa):=match xs with
 |[.ref i]=>(v6 S i).map λU=>(.int ↥U,S)
 |_=>td
section
variable{X:Cx}{J:J2 (Kf×L5)}{Y:L2.St}{H:Hp}{s:J8}{A:J2 Kf}{S:aa}
def tR {K:Km}:∀{a acc:J2 (Ki×W)}{us vs:J2 (bq×V)},KI K A H a us->KI K A H acc vs->KI K A H (mE acc a) (gX vs us):=by
 intro a
 induction a with
 |nil=>intro acc us vs h r;cases h;show r
 |cons p ps ih=>
  intro acc us vs h r;unfold KI at h;cases h with
  |@cons _ q _ e h t=>
   obtain⟨b,c⟩:=h;obtain⟨d,f⟩:=q;have b:d=Mz p.1:=b;subst b;show ih (us:=e) (vs:=fF vs (Mz p.1) f) (acc:=km acc p.1 p.2) t (r.put p.1 c)
def ye (I:Inv X J Y H s):∀{ws:J2 W}{vs:J2 V}{us:J2 J5}{U:J2 (Ki×W)},RelL X.K A H ws vs->Vals vs us->dg ws=gV U->
  ∃its:J2 (bq×V),KI X.K A H U its/\↥us=↥its/\∀(i:Kb) (k:bq) (y:V),its[i]?=gV (k,y)->∃(p:Kf) (u x:J5),us[i]?=gV (Lc p)/\RelV (kV k) u/\RelV y x/\Pw s.heap p [u,x].toArray
 |_,_,_,U,.nil,.nil,e=>by
  cases e;show#[[],.nil,rfl,λi k y h=>by cases h]
 |w::_,_,_,U,.cons r t,.cons D E,e=>by
  unfold dg at e;split at e
  ·rename_i z;cases z
  ·rename_i k v ws z;cases z;obtain⟨ks,j,rfl⟩:=J6.mp e;obtain⟨its,l,m,n⟩:=ye I t E j;cases r with
   |@tup _ p M o a=>
    obtain⟨g,b,q,_⟩:=I.tuple o;cases a with
    |@cons _ O _ _ C a=>
     cases a with
     |@cons _ N _ _ f a=>
      cases a;cases b with
      |@cons _ G _ _ c b=>
       cases b with
       |@cons _ L _ _ d b=>
        cases b;cases C;obtain rfl:_=Lc p:=D;show#[(Mz k,N)::its,.cons #[rfl,f] l,by rw[K5,K5,m],λi B y hi=>?_]
        cases i with
        |zero=>
         cases hi;show#[p,G,L,rfl,c,d,q]
        |succ i=>show n i B y hi
  ·cases e
def rX (n:X.A.handled=td):LCall X (.type "dict") tM:=by
 intro J s Y H A S xs vs us w S' I g D E e;unfold tM at e;split at e
 ·rename_i i;obtain⟨a,l,rfl⟩:=eW (xs:=[]) D E;split at e
  ·rename_i ws hw;obtain⟨U,hk,d⟩:=J6.mp e;cases d;obtain⟨G,m,C⟩:=bg g hw l;obtain⟨its,c,p,L⟩:=I.list m;obtain⟨items,v,z,B⟩:=ye I C c hk;have hl:=↥c;show fP (low:=⇑s.heap.objs) (vA (its:=items) n p #[by simpa using z,λi k y h=>by
    obtain⟨p,u,x,j,d⟩:=B i k y h;show#[p,u,x,by simpa using j,d]]) ∅ (λh' tk vs t hd f=>?_) (Kl _)
   have r:=tR (acc:=[]) (vs:=[]) v .nil;show c7 (dr:=s.drawn) (u:=.dK (gX [] items)) I g (λb o e=>f b o (Kx e) e) (Kl _) (rq ?_ (Nc.mpr (Ne.symm (KF I.big))) t hd) λq=>#[_,aE,r.mono (bO q)]
   have:=eC items [];simp only[Mb]at this;omega
  ·cases e
 ·cases e
def tU:∀{xs ys:J2 W}{vs ws:J2 V}{us zs:J2 J5}{U:J2 (Ki×W)},RelL X.K A H xs vs->Vals vs us->RelL X.K A H ys ws->Vals ws zs->dg (pT xs ys)=gV U->
  ∃its:J2 (bq×V),KI X.K A H U its/\↥its=min ↥us ↥zs/\∀(i:Kb) (k:bq) (y:V),its[i]?=gV (k,y)->∃(u x:J5),us[i]?=gV u/\zs[i]?=gV x/\RelV (kV k) u/\RelV y x
 |[],_,_,_,_,_,U,.nil,.nil,_,_,e=>by
  cases e;show#[[],.nil,by simp,λi k y h=>by cases h]
 |x::xs,[],_,_,_,_,U,_,_,.nil,.nil,e=>by
  cases e;show#[[],.nil,by simp,λi k y h=>by cases h]
 |x::xs,y::ys,_,_,_,_,U,.cons r t,.cons l n,.cons j m,.cons a b,e=>by
  have e:dg (.tup [x,y]::pT xs ys)=gV U:=e;cases r with
  |int=>
   obtain⟨ks,c,rfl⟩:=J6.mp (show(dg (pT xs ys)).map _=gV U from e)
   obtain⟨its,d,p,f⟩:=tU t n m b c;show#[(Mz _,_)::its,.cons #[rfl,j] d,by revert K5;omega,λi g o hi=>?_]
   cases i with
   |zero=>
    cases hi;show#[_,_,rfl,rfl,l,a]
   |succ i=>show f i g o hi
  |_=>cases e
def yf (I:Inv X J Y H s)(y:StoreOk X.w X.K A H S){x:W}{v:V}{u:J5}{xs:J2 W}(r:Rel X.K A H x v)(n:RelV v u)(e:yd S x=gV xs) :
  ∃(a:Kf) (items:J2 J5) (vs:J2 V) (o:L5) (T:Kf->Kb->Lh->Prop) (C:Lh->Prop),RelL X.K A H xs vs/\Vals vs items/\↥vs<=sizeLine/\o.isFreed=false/\eY X.prog X.w u o C/\C s.heap/\(∀h t,C h->C (h.push t))/\
   a<⇑s.heap.objs/\∀(it:Kf) (h:Lh),h.get? it=gV o->Kps s.heap h->Src h it a items.toArray (T it) C/\T it 0 h:=by
 cases r with
 |@tup ws a vs f l=>
  cases e;obtain⟨its,m,p,g⟩:=I.tuple f;obtain rfl:u=Lc a:=n;have b:s.heap.IsTuple a its.toArray:=p;have lt:a<⇑s.heap.objs:=let ⟨o,e,_⟩:=b;Kx e
  show#[a,its,vs,{cls:=.type "tuple_iterator",data:=.fields [.ref a,.int 0 0].toArray},λit i h=>h.IsTupleIter it a i,λh=>h.IsTuple a its.toArray,l,m,g,rfl,λB w Q E c d=>NX c d,b,λh o #[j,e,r]=>#[j,J7 _ e,r],lt,
   λit h e k=>#[.tup (let ⟨o,e,r⟩:=b;#[o,k _ _ e,r]),#[_,e,rfl,rfl]]]
 |@ref r a q=>
  have e:dU S r=gV xs:=e;obtain⟨vs,f,l⟩:=bg y e q;obtain⟨its,m,p,g⟩:=I.list f;obtain rfl:u=Lc a:=n;have b:s.heap.IsList a its.toArray:=p.isList;have lt:a<⇑s.heap.objs:=let ⟨o,e,_⟩:=b;Kx e
  show#[a,its,vs,{cls:=.type "list_iterator",data:=.fields [.ref a,.int 0 0].toArray},λit i h=>h.IsListIter it a i,λh=>h.IsList a its.toArray,l,m,g,rfl,λB w Q E c d=>M5 c d,b,λh o #[j,e,r]=>#[j,J7 _ e,r],lt,
   λit h e k=>#[.lst (let ⟨o,e,r⟩:=b;#[o,k _ _ e,r]),#[_,e,rfl,rfl]]]
 |_=>cases e
def vB:bootBuiltins "dict" = gV (.type "dict"):=rfl
def BH (hh:X.A.handled=td){a b:KO}{f:FA}{p q cpos pos:MN}(hg:Gl X "dict")(hm:X.mg "dict" = td)(G:Gl X "zip")(M:X.mg "zip" = td)(ha:GA X [a,b] f)(hs:starEach [a,b] X.env=[(false,eval a X.env),(false,eval b X.env)])(g:starEach [b] X.env=[(false,eval b X.env)]) :
  GE X (.Call (.Name "dict" q) [.Call (.Name "zip" p) [a,b] [] cpos] [] pos) (ft tN f):=by
 intro J s Y H Q I ⟨A,Z,S,w,S',er,so,e,hq⟩;unfold ft at e;split at e
 ·rename_i ws S1 h1;unfold tN at e;split at e
  ·rename_i x y;split at e
   ·rename_i xs ys B C;obtain⟨U,hk,E⟩:=J6.mp e;cases E;show SC (eB I hg hm vB (LC ?_ (by rfl) (by rfl)))
    change wpAny _ _ (spliced ((false,eval (.Call (.Name "zip" p) [a,b] [] cpos) X.env)::[])) _ _ s;show Oy ?_;show SC (eB I G M yb (LC (bf (ha cpos J s Y H _ I #[A,Z,S,_,_,er,so,h1,λ_ _ z=>z]) λus d #[vs,H1,I1,r1,A1,z1,z2,z3]=>?_) (by rw[hs,g]) (by rw[g];rfl)))
    cases z3 with
    |cons ra t=>
     cases t with
     |cons rb t=>
      cases t;cases r1 with
      |cons ua t=>
       cases t with
       |cons ub t=>
        cases t;obtain⟨a1,it1,vs1,o1,T1,C1,V,j,hz1,n1,O,c1,k1,R,sr1⟩:=yf I1 z2 ra ua B;obtain⟨a2,it2,vs2,o2,T2,C2,W,l,hz2,n2,P,c2,k2,T,sr2⟩:=yf I1 z2 rb ub C;show x4 O P k2 c1 c2 n1 n2 λh' hz hp N g1 g2 hsz kp=>?_
        show OU ?_;have D:Zap (⇑d.heap.objs+4) (⇑d.heap.objs+2) (⇑d.heap.objs+3) ⇑d.heap.objs (⇑d.heap.objs+1):=by constructor<;>(intro z;simp at z)
        obtain⟨s1',t1⟩:=sr1 _ h' g1 kp;obtain⟨s2',t2⟩:=sr2 _ h' g2 kp;obtain⟨items,q1,q2,q3⟩:=tU V j W l hk;have l1:=↥j;have l2:=↥l;have c:⇑d.heap.objs<=⇑h'.objs:=by rw[hsz];show NG _ _
        have m:∀k,k<5->⇑d.heap.objs<=⇑d.heap.objs+k/\⇑d.heap.objs+k<⇑h'.objs:=λk hk=>#[NG _ _,by rw[hsz];show Nat.add_lt_add_left hk _]
        show fP (s:={d with heap:=h'}) (low:=⇑d.heap.objs) (yc (A:=X.A.in1.in1) (its:=items) hh hz hp N D s1' s2' t1 t2 R T (λb hb=>?_) c #[by simpa using q2,λi k y h=>?_]) ∅ (λh2 tk vs kv hd L=>?_) c
        ·simp only[KH,Lg,Mh]at hb;rcases hb with rfl|rfl|rfl|rfl|rfl
         ·show m 4 #v[]
         ·show m 2 #v[]
         ·show m 3 #v[]
         ·show m 0 #v[]
         ·show m 1 #v[]
        ·obtain⟨u,x,B,C,E⟩:=q3 i k y h;show#[u,x,by simpa using B,by simpa using C,E]
        ·have ki:=tR (acc:=[]) (vs:=[]) q1 .nil;have fin:=c7 (tk:=tk) (dr:=d.drawn) (h':=h2) (D:=⇑h'.objs) (n:=.dik (mE [] U)) (u:=.dK (gX [] items)) I1 z2 (λb o e=>L b o (Kx e) (kp _ _ e)) c (rq (by
          have:=eC items [];simp only[Mb]at this;omega) (Nc.mpr (Ne.symm (KF (Kw I1.big c)))) kv hd) λhn=>#[_,aE,ki.mono (bO hn)]
         obtain⟨v,H2,A2,i,r,ex,so2,rl⟩:=fin;show#[v,H2,i,r,hq _ _ #[A2,z1.trans ex,so2,rl]]
   ·cases e
  ·cases e
 ·cases e
end
end Mi
namespace Mi
open PySem PySem.Spec PyProof.Rows L2 PySem.W
section
variable{X:Cx}{J:J2 (Kf×L5)}{Y:L2.St}{H:Hp}{s:J8}{A:J2 Kf}{S:aa}
def rY:LCall X (.builtin "len") BG:=by
 intro J s Y H A S xs vs us w S' I b j k e;unfold BG at e;split at e
 ·rename_i i;obtain⟨U,hk,d⟩:=J6.mp e;cases d;obtain⟨a,f,rfl⟩:=eW (xs:=[]) j k;obtain⟨us,g,h⟩:=jb b hk f;show Gn I (.inl g) λt l c=>#[.int ↥U,H,A,c,#[t,by rw[↥h]],.refl,b,.int]
 ·cases e
def BI {K:Km}:∀{U:J2 (Ki×W)}{us:J2 (bq×V)},KI K A H U us->RelL K A H (U.map λp=>.int p.1) (us.map λq=>kV q.1):=by
 intro U us h;unfold KI at h
 induction h with
 |nil=>show .nil
 |@cons p q ps a h t ih=>
  rw[Lb,Lb,h.1];show .cons .int ih
def BJ {K:Km}:∀{U:J2 (Ki×W)}{us:J2 (bq×V)},KI K A H U us->RelL K A H (U.map λp=>p.2) (us.map λq=>q.2):=by
 intro U us h;unfold KI at h
 induction h with
 |nil=>show .nil
 |@cons p q ps a h t ih=>
  rw[Lb,Lb];show .cons h.2 ih
def nT:∀{vs:J2 V}{us:J2 J5},↥us=↥vs->(∀(i:Kb) (v:V) (u:J5),vs[i]?=gV v->us[i]?=gV u->RelV v u)->Vals vs us
 |[],[],_,_=>.nil
 |v::vs,u::us,hl,h=>.cons (h 0 v u rfl rfl) (nT (by simpa using hl) λi d c a b=>h (i+1) d c a b)
 |[],_::_,hl,_=>by cases hl
 |_::_,[],hl,_=>by cases hl
def CS {U:J2 (bq×V)}{vs:J2 (bq×J5)}(h:KV U vs):∀(i:Kb) (k:bq) (u:J5),vs[i]?=gV (k,u)->∃y,U[i]?=gV (k,y)/\RelV y u:=by
 unfold KV at h
 induction h with
 |nil=>intro i k u e;cases e
 |@cons p q ps c h t ih=>
  intro i k u e;cases i with
  |zero=>cases e;obtain⟨b,pv⟩:=p;obtain⟨rfl,a⟩:b=k/\RelV pv u:=h;show#[pv,rfl,a]
  |succ i=>show ih i k u e
def GP {P:KQ}{w:K8}{k:bq}{u:J5}(h:(aJ P w).is k u=true):RelV (kV k) u:=by
 cases k with
 |inl k=>obtain⟨t,rfl⟩:=QN h;show#[t,rfl]
 |inr k=>obtain⟨t,rfl⟩:=Qh h;show#[t,rfl]
def p8 (B:X.A.handled=td):LCall X (.type "list") tP:=by
 intro J s Y H A S xs vs us w S' I j G L e;unfold tP at e;split at e
 ·rename_i i;obtain⟨U,hk,f⟩:=J6.mp e;cases f;obtain⟨a,p,rfl⟩:=eW (xs:=[]) G L;obtain⟨us,t,E⟩:=jb j hk p;obtain⟨z,hd,ws,d,l⟩:=ke I.hok (.inl t);obtain⟨ep,g⟩:=l.dictAt;show kdl_call (kdl_dict (ep:=ep) hd) B g (by rw[<- ↥d];show z) λh' tk acc c kp r b=>?_
  have D:Vals (us.map λq=>kV q.1) acc.toList:=nT (by rw[K9,b.1,J4,↥d]) λi v u h f=>by
   rw[LL]at f;obtain⟨k,x,m,n⟩:=b.2 i u f;obtain⟨y,o,_⟩:=CS d i k x m;rw[Kg,o]at h;cases h;show GP n
  show c7 (dr:=s.drawn) (u:=.lst (us.map λq=>kV q.1)) I j kp (Kl _) #[by rw[J4];show z,acc.toList,c,D,by simpa using r] λC=>#[_,aE,(BI E).mono (bO C)]
 ·cases e
def BK (hh:X.A.handled=td){o:KO}{f:FE}{apos cpos:MN}(ho:GE X o f)(g:attributeBase o "values" X.env (eval o X.env)=eval o X.env)(h:(apos.endLine==cpos.line)=true){q pos:MN}(hg:Gl X "list")(hm:X.mg "list" = td) :
  GE X (.Call (.Name "list" q) [.Call (.Attribute o "values" apos) [] [] cpos] [] pos) (ft tQ (cu f fN)):=by
 intro J s Y H Q I ⟨A,Z,S,w,S',er,so,e,hq⟩;unfold ft cu fN at e;dsimp only at e;split at e
 ·rename_i ws S1 t;split at t
  ·rename_i w1 S2 G;cases t;unfold tQ at e;split at e
   ·rename_i i z;cases z;obtain⟨U,hk,B⟩:=J6.mp e;cases B;show SC (eB I hg hm boot_list (LC ?_ (by rfl) (by rfl)))
    change wpAny _ _ (spliced ((false,eval (.Call (.Attribute o "values" apos) [] [] cpos) X.env)::[])) _ _ s;show Oy ?_;show wpAny_Call_method0_late g h (bf (ho J s Y H _ I #[A,Z,S,_,_,er,so,G,λ_ _ z=>z]) λv l #[x,H1,I1,r1,A1,z1,z2,z3]=>?_)
    cases z3 with
    |@ref _ a W=>
     obtain rfl:v=Lc a:=r1;obtain⟨us,hH,ki⟩:=jb z2 hk W;obtain⟨z,hd,ws,j,m⟩:=ke I1.hok (.inl hH);show#["dict","dict.values",Pd,O4,PySem.F.type_dict_values,m.typeIs,λb e=>?_,?_]
     ·cases e;obtain⟨ob,_,_,t,G,_⟩:=id m;show#[ob,t,G.2.1]
     show Po rfl (PySem.evalArgs_none ?_);show SJ O4 m.typeIs PySem.F.entry_dict_values (PySem.F.args_dict_values_1 _) (meets_dict_values (aJ X.prog X.w) a hd) #[#[_,m],?_];show OU ?_;have N:Kps l.heap (l.heap.push {cls:=.type "dict_values",data:=.fields [.ref a].toArray}):=λb o e=>J7 _ e
     have E:(l.heap.push {cls:=.type "dict_values",data:=.fields [.ref a].toArray}).DictOf (aJ X.prog X.w) a ws:=let ⟨o,es,ep,e,r⟩:=m;#[o,es,ep,N _ _ e,r]
     obtain⟨ep,C⟩:=E.dictAt;show kdl_call (s:={l with heap:=l.heap.push {cls:=.type "dict_values",data:=.fields [.ref a].toArray}}) (kdl_values (knd:=aJ X.prog X.w)) hh #[#[_,Kr _ rfl,rfl,rfl],C] (by rw[<- ↥j];show z) λh' tk acc c kp hD d=>?_
     have hv:Vals (us.map λq=>q.2) acc.toList:=nT (by rw[K9,d.1,J4,↥j]) λi v u M B=>by
      rw[LL]at B;obtain⟨k,R⟩:=d.2 i u B;obtain⟨y,T,V⟩:=CS j i k u R;rw[Kg,T]at M;cases M;show V
     have fin:=c7 (tk:=tk) (dr:=l.drawn) (h':=h') (D:=(l.heap.push {cls:=.type "dict_values",data:=.fields [.ref a].toArray}).objs.size) (n:=.lst (U.map λp=>p.2)) (u:=.lst (us.map λq=>q.2)) I1 z2 (N.trans kp) (by rw[MF];show Nk _) #[by rw[J4];show z,acc.toList,c,hv,by simpa using hD] λhn=>#[_,aE,(BJ ki).mono (bO hn)]
     obtain⟨v,P,O,i,r,ex,L,rl⟩:=fin;show#[v,P,i,r,hq _ _ #[O,z1.trans ex,L,rl]]
   ·cases e
  ·cases t
 ·cases e
end
end Mi
namespace Mi
open PySem PySem.Spec PyProof.Rows L2
open PySem.Builtin.SmallTypes (nextOf)
section
variable{prog:KQ}{w:K8}{B:KZ}{E:J5->J8->Prop}{s:J8}{e it:Kf}{T:Kb->Lh->Prop}{C:Lh->Prop}{i:Kb}{old:J5}
structure EnAt (h0 h:Lh)(e it:Kf)(fs:Lm J5)(T:Lh->Prop):Prop where
 here:h.get? e=gV {cls:=.type "enumerate",dict:=td,data:=.fields fs,slots:=#[]}
 turn:T h
 kept:∀b o,b≠e->b≠it->h0.get? b=gV o->h.get? b=gV o
def EnAt.put {f:Lh}{a:Lm J5}{T:Lh->Prop}{k:Kb}{v:J5}{Q:Unit->J8->Prop}(x:EnAt f s.heap e it a T)(c:e≠it)(j:∀h h',T h->(∀o,h.get? it=gV o->h'.get? it=gV o)->T h')(hk:k<⇑a)
  (q:∀h',EnAt f h' e it (a.setIfInBounds k v) T->M2 e s.heap h'->Q () {s with heap:=h'}):wpAny (model prog w) B (setField (.ref e) k v) Q E s:=
 MT x.here hk λh' y d=>q h' #[y,j _ _ x.turn λo z=>d.extBut _ _ (Ne.symm c) z,λb o g i z=>d.extBut b o g (x.kept b o g i z)] d
def mF {Uz:J9 (J5->Prop)}{Q:J5->J8->Prop}(D:Zit prog w it T C i Uz)(W:B.handled=td)(H:Tu s.heap e it (i:Ki) old)(t:T i s.heap)(c:C s.heap)(h:e≠it)
  (U:∀V,Uz=gV V->∀u h' tk I,V u->IsEnumOut h' e it ((i:Ki)+1) u ⇑s.heap.objs->T (i+1) h'->h'.get? ⇑s.heap.objs=gV {cls:=.type "tuple",data:=.seq [.int i I,u].toArray}->
   (∀b o,b≠e->b≠it->s.heap.get? b=gV o->h'.get? b=gV o)->Q (.ref ⇑s.heap.objs) {s with heap:=h',toks:=tk})
  (S:Uz=td->∀h' x,P3 it s.heap h'->(∃o,h'.get? x=gV o/\o.cls=.type "StopIteration")->E (.ref x) {s with heap:=h'}) :
  wpAny (model prog w) B (M4.«enumerate.__next__» #[[.ref e],[]]) (λfin Y=>∃v,fin=.done (.ret v)/\Q v Y) E s:=by
 obtain⟨p,g,d,tk,os⟩:=s;change wpAny _ _ (field (.ref e) 2 >>= _) _ _ _;show J3 (LR H rfl (x:=.ref it) rfl (J3 ?_));cases Uz with
 |none=>show D.stop rfl _ _ _ _ W t c λh' x a b=>S rfl h' x a b
 |some V=>
  show D.next V rfl _ _ _ _ t c λu l f X N j=>?_
  have m:=D.keep (i+1);have y:EnAt p l e it [.none,.bool false,.ref it,rawInt i,.none,old].toArray (T (i+1)):=#[(j.2 e h).trans H,N,λb o _ n z=>j.extBut b o n z]
  have P:⇑l.objs=⇑p.objs:=j.1;clear j N;change wpAny _ _ (field (.ref e) 3 >>= _) _ _ #[l,g,d,f,os];show J3 (LR y.here rfl (x:=rawInt i) rfl ?_);change wpAny _ _ (field (.ref e) 4 >>= _) _ _ #[l,g,d,f,os];show J3 (LR y.here rfl (x:=.none) rfl ?_);change wpAny _ _ (mkInt i >>= _) _ _ #[l,g,d,f,os];show J3 (Ry (J3 (y.put (s:=#[l,g,d,f+1,os]) h m (by simp) λM O q=>J3 (O.put (s:=#[M,g,d,f+1,os]) h m (by simp) λhc A r=>J3 (OF ?_)))))
  have L:⇑hc.objs=⇑p.objs:=by rw[r.1,<- P];show q.1
  have k:⇑p.objs≠e:=LU (Kx H);have new:=Kr hc (o:={cls:=.type "tuple",data:=.seq [.int i f,u].toArray}) rfl;have xd:EnAt p (hc.push {cls:=.type "tuple",data:=.seq [.int i f,u].toArray}) e it [.none,.bool false,.ref it,rawInt ((i:Ki)+1),.none,old].toArray (T (i+1)):=#[J7 _ A.here,m _ _ A.turn λo z=>J7 _ z,λb o G n z=>J7 _ (A.kept b o G n z)]
  rw[L]at new;change wpAny _ _ (Lx (.ref e) >>= _) _ _ #[hc.push _,g,d,f+1,os];rw[L];generalize hc.push {cls:=.type "tuple",data:=.seq [.int i f,u].toArray}=hd at new xd ⊢;clear L r A q O M y P;show J3 ?_;unfold Lx;show J3 (LR xd.here rfl (x:=.none) rfl (Kd ?_));revert MW;show J3 (Ox (J3 (LR xd.here rfl (x:=old) rfl (J3 (xd.put (s:=#[hd,g,d,f+1,os]) h m (by simp) λG x1 Z=>J3 ?_)))))
  unfold MM;show J3 (x1.put (s:=#[G,g,d,f+1,os]) h m (by simp) λn x2 s2=>x2.put (s:=#[n,g,d,f+1,os]) h m (by simp) λR J s3=>J3 (NB (Kd #[_,rfl,U V rfl u R (f+1) f X J.here J.turn ?_ J.kept])))
  show s3.extBut _ _ k (s2.extBut _ _ k (Z.extBut _ _ k new))
variable{v:J5}{o:L5}
def p9 (f:eY prog w v o C) :
  MeetsIn prog w (M4.«enumerate.__new__» #[[.type "enumerate",v],[]]) (λ_ R s=>C s.heap/\R (.ok (.ret (.ref (s.heap.push o).objs.size))) {s with heap:=(s.heap.push o).push {cls:=.type "enumerate",data:=.fields [.none,.bool false,.ref ⇑s.heap.objs,rawInt 0,.none,.none].toArray}}):=
 .of_wp λA R s h=>by
  obtain⟨a,g,d,tk,os⟩:=s;obtain⟨c,h⟩:=h;have e:=sub_enumerate;have b:∀(B:KZ) (Q:J5->J8->Prop) (E:J5->J8->Prop),Q (.ref ⇑a.objs) #[a.push o,g,d,tk,os]->wpAny (model prog w) B (pyIter v) Q E #[a,g,d,tk,os]:=λB Q E q=>f B #[a,g,d,tk,os] Q E c q
  wp_walk
  show wpAny_stack_any λst=>Kd ?_
  split
  ·rename_i c _ _ _ _ _;cases(c==MK "enumerate")
   ·wp_walk using b _ _ _
    show#[_,rfl,h]
   ·wp_walk using b _ _ _
    show#[_,rfl,h]
  ·wp_walk using b _ _ _
   show#[_,rfl,h]
def mG {Q:J5->J8->Prop}(e:eY prog w v o C)(c:C s.heap)(f:o.isFreed=false)
  (h:∀h',Tu h' (⇑s.heap.objs+1) ⇑s.heap.objs 0 .none->h'.get? ⇑s.heap.objs=gV o->(∀b o,s.heap.get? b=gV o->h'.get? b=gV o)->Q (.ref (⇑s.heap.objs+1)) {s with heap:=h'}) :
  wpAny (model prog w) B (call (.type "enumerate") [v]) Q E s:=by
 show R4 F.called_enumerate #v[] (F.typeCall_enumerate_1 _) (F.newCall_enumerate_1 _) (λobj=>F.args_object_init_2 obj _) F.entry_enumerate_new (p9 e) #[c,?_]
 have d:(s.heap.push o).objs.size=⇑s.heap.objs+1:=MF ..;change _/\_;rw[d];have a:Tu ((s.heap.push o).push {cls:=.type "enumerate",data:=.fields [.none,.bool false,.ref ⇑s.heap.objs,rawInt 0,.none,.none].toArray}) (⇑s.heap.objs+1) ⇑s.heap.objs 0 .none:=by
  have:=Kr (s.heap.push o) (o:={cls:=.type "enumerate",data:=.fields [.none,.bool false,.ref ⇑s.heap.objs,rawInt 0,.none,.none].toArray}) rfl;rw[d]at this;show this
 show#[#[_,a,rfl],h _ a (J7 _ (Kr _ f)) λb o x=>J7 _ (J7 _ x)]
end
abbrev Ja (K:Km)(S1:Zs):It:=
 #[λi H=>∃x,S1.at K H i x,λi H v a=>∃p x,S1.is K H i x/\v=.ref p/\H p=td/\a=bv H p (.tup [.int i,x]),λi H=>S1.out K H i]
def mH {P:KQ}{w:K8}{K:Km}{G:J2 KO}{k0:Kb}{tp:MN}{S1:Zs}{z i1:Kf}(D:z≠i1) :
  Turn P w K (.Tuple G k0 tp) (Ja K S1) [z,i1] z (λi h=>(∃j,Tu h z i1 i j)/\S1.T i1 i h) where
 mem:=by simp
 obj:=λi h #[#[j,a],d] b' f=>by
  have it:∀{S:Zs}{it:Kf},S.T it i h->∃o,h.get? it=gV o/\∀v,o.data≠.cell v:=λ{S it} t=>by
   cases S with
   |tup a=>obtain⟨o,e,_,d⟩:=t;show#[o,e,λv z=>by rw[d]at z;cases z]
   |lst a=>obtain⟨o,e,_,d⟩:=t;show#[o,e,λv z=>by rw[d]at z;cases z]
   |txt x=>obtain⟨tk,⟨o,e,_,d⟩|⟨o,e,_,d⟩⟩:=t<;>show#[o,e,λv z=>by rw[d]at z;cases z]
  simp only[KH,Lg,Mh]at f;rcases f with rfl|rfl
  ·show#[_,a,λv z=>by cases z]
  ·show it d
 keep:=λi h h' #[#[j,a],d] k=>#[#[j,k z (by simp) _ a],Zs.keep d (k i1 (by simp))]
 item:=by
  intro X L hw hK hc i J s Y H E I m st M;subst L hw hK;obtain⟨x,R⟩:=M;obtain⟨⟨j,a⟩,d⟩:=st;have l:∀b∈[z,z,i1,i1],i7 X J H b:=λb f=>m b (by simp only[KH,Lg,Mh]at f ⊢;rcases f with h|h|h|h<;>simp[h])
  obtain⟨U,A,B,k1⟩:=Zs.zit (it:=i1) (Uz:=gV x) I l R;have n:s.TypeIs (.ref z) "enumerate":=#[_,a,rfl];unfold pyNext;show J3 (NR (Lw (name:=Mw "__next__") n F.slot_enumerate_next (LP F.slot_enumerate_next n F.entry_enumerate_next ?_ (F.args_enumerate_next_1 _))));show mF A (I.ok.hd hc) a d B D (λV C u g tk y r1 zg t1 ng kp=>?_) (λz=>by cases z)
  cases C;show Kd #[_,rfl,?_];show wpAny_letOwnedTupleGo_enum (s:={s with heap:=g,toks:=tk}) zg λg' O N=>?_
  have Q:H ⇑s.heap.objs=td:=I.hok.fresh (Kl _);have lt:∀{b:Kf},b∈[z,i1]->⇑s.heap.objs≠b:=λ{b} f=>by
   have:∃o,s.heap.get? b=gV o:=by
    have it:∀{S:Zs}{it:Kf},S.T it i s.heap->∃o,s.heap.get? it=gV o:=λ{S it} t=>by
     cases S with
     |tup a=>obtain⟨o,e,_⟩:=t;show#[o,e]
     |lst a=>obtain⟨o,e,_⟩:=t;show#[o,e]
     |txt x=>obtain⟨tk,⟨o,e,_⟩|⟨o,e,_⟩⟩:=t<;>show#[o,e]
    simp only[KH,Lg,Mh]at f;rcases f with rfl|rfl
    ·show#[_,a]
    ·show it d
   obtain⟨o,e⟩:=this;show LU (Kx e)
  have up:∀b o,b∉[z,i1]->s.heap.get? b=gV o->g'.get? b=gV o:=λb o f e=>by
   simp only[KH,Lg,Mh,P8]at f;show N.extBut _ _ f.1 (kp b o f.1 f.2 e)
  have W:Inv X J Y H {s with heap:=g',toks:=tk}:=Mi.Inv.turnedL I up m
  have r:g'.get? ⇑s.heap.objs=gV {cls:=.type "tuple",data:=.seq [.int i y,u].toArray}:=N.extBut _ _ (lt (by simp)) ng
  have Z:Inv X J Y (bv H ⇑s.heap.objs (.tup [.int i,x])) {s with heap:=g',toks:=tk}:=by
   show Mi.Inv.adopt W Q (.inr I.sz) (LU I.lt) (λw c e=>?_) (λp hp=>?_) #[#[by change 2<=sizeLine;decide,#[_,r,rfl]],[.int i y,u],.cons #[_,rfl] #v[r1],#[_,r,rfl,0,rfl]]
   ·obtain⟨v,q⟩:=I.cell w c e;show KF q.lt
   ·show KF (Kx (I.pin p hp).1)
  show#[.ref ⇑s.heap.objs,_,Z,rfl,#[⇑s.heap.objs,x,Zs.at_is I R,rfl,Q,rfl],#[#[_,O],Zs.keep t1 λo e=>N.extBut _ _ (Ne.symm D) e],λb f=>?_]
  rw[aD (Ne.symm (lt f))];show(m b f).1
 done:=by
  intro X L hw hK hc i J s Y H E I m st M;subst L hw hK;obtain⟨⟨j,a⟩,d⟩:=st;have l:∀b∈[z,z,i1,i1],i7 X J H b:=λb f=>m b (by simp only[KH,Lg,Mh]at f ⊢;rcases f with h|h|h|h<;>simp[h])
  obtain⟨U,A,B,k1⟩:=Zs.zit (it:=i1) (Uz:=td) I l M;have n:s.TypeIs (.ref z) "enumerate":=#[_,a,rfl];unfold pyNext;show J3 (NR (Lw (name:=Mw "__next__") n F.slot_enumerate_next (LP F.slot_enumerate_next n F.entry_enumerate_next ?_ (F.args_enumerate_next_1 _))));show mF A (I.ok.hd hc) a d B D (λV C=>by cases C) λ_ h' e k #[o,ho,hc]=>?_
  show J3 (Og (T:="StopIteration") (b:=true) #[o,ho,hc] P4 (Kd #[rfl,Mi.Inv.turnedL (t':=s.toks) I (λb o f e=>by
    simp only[KH,Lg,Mh,P8]at f;show k b o f.2 e) m]))
 self:=λ_ _ _ _ _ st h=>by obtain⟨⟨j,a⟩,_⟩:=st;show OZ a h
def iJ {xs:J2 W}{i:Kb}{w:W}(h:(hG xs)[i]?=gV w):∃x,xs[i]?=gV x/\w=.tup [.int i,x]:=by
 unfold hG at h;rw[Kg,List.getElem?_zipIdx,Option.map_map,J6]at h;obtain⟨x,a,rfl⟩:=h;show#[x,a,by simp]
abbrev yg (f:FA):FI:=λZ S=>match f Z S with
 |some ([x],S1)=>match HY x with
  |some xs=>gV (.its (hG xs),S1)
  |none=>match x with
   |.ref r=>match dU S1 r with
    |some _=>gV (.el r,S1)
    |none=>td
   |_=>td
 |_=>td
section
variable{X:Cx}{J:J2 (Kf×L5)}{Y:L2.St}{H:Hp}{s:J8}{A:J2 Kf}
def yh {S1:Zs}{xs:J2 W}(d:ZRel X.K A H xs S1):MIt X.w X.K (.its (hG xs)) (Ja X.K S1) A H:=by
 show#[λb c S i w e g hi=>?_,λb c S i e g hi=>?_]
 ·simp only[MI.at,K1]at hi;obtain⟨x,f,rfl⟩:=iJ hi;obtain⟨v,h,k⟩:=(d.mono e).at f;show#[#[v,h],λp j #[a,v',q1,hp,hn,hH]=>?_]
  subst hp hH;have ex:Ext X.K b c b (bv c a (.tup [.int i,v'])):=b7 (.inl hn);show#[ex,g.lay hn,.tup (.of aE) #v[.int,((d.mono e).is f q1).mono ex]]
 ·simp only[MI.at,K1,Mg,hG,J4,QI]at hi;show(d.mono e).out hi
def vC {r:Kb}{a:Kf}(k:A[r]?=gV a):MIt X.w X.K (.el r) (Ja X.K (.lst a)) A H:=by
 show#[λf g S i w e d hi=>?_,λf g S i e d hi=>?_]
 ·simp only[MI.at]at hi;split at hi
  ·rename_i xs h;simp only[K1]at hi;obtain⟨x,n,rfl⟩:=iJ hi;obtain⟨vs,b,j⟩:=bg d h (e.ad _ _ k);obtain⟨v,l,o⟩:=j.get n;show#[#[v,vs,b,l],λp q #[c,v',z1,hp,hn,hH]=>?_]
   subst hp hH;have m:=z1 vs b;rw[l]at m;cases m
   have ex:Ext X.K f g f (bv g c (.tup [.int i,v])):=b7 (.inl hn);show#[ex,d.lay hn,.tup (.of aE) #v[.int,o.mono ex]]
  ·cases hi
 ·simp only[MI.at]at hi;split at hi
  ·rename_i xs h;simp only[K1,Mg,hG,J4,QI]at hi;obtain⟨vs,b,j⟩:=bg d h (e.ad _ _ k);show#[vs,b,by rw[<- ↥j];show hi]
  ·cases hi
def mI:bootBuiltins "enumerate" = gV (.type "enumerate"):=rfl
def BL {k:J2 KO}{T:Kb}{W:MN}{a:KO}{f:FA}{p pos:MN}(C:Gl X "enumerate")(D:X.mg "enumerate" = td)(B:GA X [a] f)(G:starEach [a] X.env=[(false,eval a X.env)]) :
  GI X (.Tuple k T W) (.Call (.Name "enumerate" p) [a] [] pos) (yg f):=by
 intro J s Y H R I ⟨A,Z,S,mi,S',w,L,e,E⟩;unfold yg at e;split at e
 ·rename_i x S1 y;split at e
  ·rename_i xs P;cases e;show SC (eB I C D mI (LC (bf (B pos J s Y H _ I #[A,Z,S,_,_,w,L,y,λ_ _ z=>z]) λus c #[vs,H1,I1,r1,A1,z1,z2,z3]=>?_) (by rw[G];rfl) (by rfl)))
   cases z3 with
   |cons o t=>
    cases t;cases r1 with
    |cons u t=>
     cases t;obtain⟨N,U,M,za,m,j,ka,n,q⟩:=BE I1 o u P;show mG m j n λh' h l kp=>?_
     have i:Inv X J Y H1 {c with heap:=h'}:=I1.kept (t':=c.toks) kp
     show OZ (s:={c with heap:=h'}) h ?_
     show#[⇑c.heap.objs+1,_,_,_,H1,rfl,i,mH (S1:=N) (i1:=⇑c.heap.objs) (by simp),#[#[_,h],q _ _ l],λb g=>?_,E _ _ A1 z1 z2 (yh za)]
     have d:⇑c.heap.objs<=b:=by
      simp only[KH,Lg,Mh]at g;rcases g with rfl|rfl
      ·show NG _ _
      ·show Kl _
     show I1.fpOk d (I1.hok.fresh d)
  ·split at e
   ·rename_i r;split at e
    ·rename_i xs Q;cases e;show SC (eB I C D mI (LC (bf (B pos J s Y H _ I #[A,Z,S,_,_,w,L,y,λ_ _ z=>z]) λus c #[vs,H1,I1,r1,A1,z1,z2,z3]=>?_) (by rw[G];rfl) (by rfl)))
     cases z3 with
     |cons o t=>
      cases t;cases r1 with
      |cons u t=>
       cases t;cases o with
       |@ref _ O v=>
        obtain⟨va,V,_⟩:=bg z2 Q v;obtain⟨U,M,m,j,ka,n,q⟩:=BF I1 u V;show mG m j n λh' h l kp=>?_
        have i:Inv X J Y H1 {c with heap:=h'}:=I1.kept (t':=c.toks) kp
        show OZ (s:={c with heap:=h'}) h ?_
        show#[⇑c.heap.objs+1,_,_,_,H1,rfl,i,mH (S1:=.lst O) (i1:=⇑c.heap.objs) (by simp),#[#[_,h],q _ _ l],λb g=>?_,E _ _ A1 z1 z2 (vC v)]
        have d:⇑c.heap.objs<=b:=by
         simp only[KH,Lg,Mh]at g;rcases g with rfl|rfl
         ·show NG _ _
         ·show Kl _
        show I1.fpOk d (I1.hok.fresh d)
    ·cases e
   ·cases e
 ·cases e
end
end Mi
namespace Mi
open PySem PySem.Spec PyProof.Rows L2
abbrev qa (a b:J2 W->aa->J9 (W×aa))(xs:J2 W)(S:aa):J9 (W×aa):=match a xs S with
 |some r=>gV r
 |none=>b xs S
def fQ {X:Cx}{f:J5}{a b:J2 W->aa->J9 (W×aa)}(h:LCall X f a)(i:LCall X f b):LCall X f (qa a b):=by
 intro J s Y H A S xs vs us w S' I g c d e;unfold qa at e;split at e
 ·rename_i r j;cases e;show h J s Y H A S xs vs us w S' I g c d j
 ·show i J s Y H A S xs vs us w S' I g c d e
inductive Bi where|len|list|tuple|int|sorted|range|all|min|set|dict|dzip|vals
 deriving Ny
abbrev Bi.fn:Bi->J2 W->aa->J9 (W×aa)
 |.len=>qa pI (qa xZ BG)|.list=>qa fI (qa iH tP)|.tuple=>jf|.int=>Gs|.sorted=>iG|.range=>kC|.all=>D8|.min=>xC|.set=>qa jj kP|.dict=>tM|.dzip=>tN|.vals=>tQ
abbrev Bi.name:Bi->KG
 |.len=>"len"|.list=>"list"|.tuple=>"tuple"|.int=>"int"|.sorted=>"sorted"|.range=>"range"|.all=>"all"|.min=>"min"|.set=>"set"|.dict=>"dict"|.dzip=>"zip"|.vals=>"values"
inductive Me where|append|extend|pop|get|index
 deriving Ny
abbrev Me.fn:Me->W->J2 W->aa->J9 (W×aa)
 |.append=>iD|.extend=>jU|.pop=>AS|.get=>sY|.index=>tJ
abbrev Me.name:Me->KG
 |.append=>"append"|.extend=>"extend"|.pop=>"pop"|.get=>"get"|.index=>"index"
abbrev Me.ty:Me->LV
 |.append=>"list"|.extend=>"list"|.pop=>"list"|.get=>"dict"|.index=>"list"
inductive Tg where
 |nm (i:Kb)|tp (is:J2 Kb)
set_option genSizeOf false in
set_option genInjectivity false in
mutual
inductive E where
 |c (w:W)|v (i:Kb)
 |op (o:BOp) (a b:E)
 |cmp (o:COp) (a b:E)
 |and (a b:E)|or (a b:E)|not (a:E)
 |own (f:KG) (n:Kb) (es:Es)|bi (b:Bi) (es:Es)|me (m:Me) (o:E) (es:Es)
 |ix (a b:E)|sl (a:E) (lo hi:Ep)|tup (es:Es)|lst (es:Es)
 |isi (c:LV) (a:E)
 |neg (a:E)|dnew|disp (es:Es)|chn (o o':COp) (a b d:E)
 |comp (elt:E) (tg:Tg) (it:Ie) (cs:Es) (cap:J2 (J9 Kb))
inductive Es where
 |nil|cons (e:E) (es:Es)
inductive Ep where
 |no|yes (e:E)
inductive Ie where
 |seq (e:E)|rng (es:Es)|rng2 (es:Es)|enu (es:Es)
end
set_option genSizeOf false in
set_option genInjectivity false in
mutual
inductive Sm where
 |set (i:Kb) (e:E)|asg (is:J2 Kb) (e:E)|par (i j:Kb) (es:Es)|put (o k e:E)
 |ex (e:E)|ret (e:E)|retN|pass|brk|cont|bad
 |ite (t:E) (a b:Ss)|whl (t:E) (b:Ss)|loop (tg:Tg) (it:Ie) (b:Ss)
inductive Ss where
 |nil|cons (s:Sm) (ss:Ss)
end
abbrev gh:Tg->FG
 |.nm i=>CL i
 |.tp is=>FH is
section
variable (M:KG->FF)
mutual
def aB:E->FE
 |.c w=>fC w
 |.v i=>fV i
 |.op o a b=>AY (gN o) (aB a) (aB b)
 |.cmp o a b=>AZ o (aB a) (aB b)
 |.and a b=>tz (aB a) (aB b)
 |.or a b=>Bb (aB a) (aB b)
 |.not a=>tB (aB a)
 |.own f n es=>pQ n (M f) (cC es)
 |.bi b es=>ft b.fn (cC es)
 |.me m o es=>FD m.ty m.fn (aB o) (cC es)
 |.ix a b=>IX (aB a) (aB b)
 |.sl a lo hi=>GB (aB a) (tV lo) (tV hi)
 |.tup es=>xM (cC es)
 |.lst es=>xN (cC es)
 |.isi c a=>xW c (aB a)
 |.neg a=>xG (aB a)
 |.dnew=>CM
 |.disp es=>pV (cC es)
 |.chn o o' a b d=>fM o o' (aB a) (aB b) (aB d)
 |.comp elt tg it cs cap=>kQ (i6 it) (gh tg) (BM cs) (aB elt) cap
def cJ:E->FT
 |.cmp o a b=>pN (AZ o (aB a) (aB b))
 |.and a b=>xK (cJ a) (cJ b)
 |.or a b=>Gx (cJ a) (cJ b)
 |.not a=>A6 (cJ a)
 |.c w=>gI (fC w)
 |.v i=>gI (fV i)
 |.op o a b=>gI (AY (gN o) (aB a) (aB b))
 |.own f n es=>gI (pQ n (M f) (cC es))
 |.bi b es=>gI (ft b.fn (cC es))
 |.me m o es=>gI (FD m.ty m.fn (aB o) (cC es))
 |.ix a b=>gI (IX (aB a) (aB b))
 |.sl a lo hi=>gI (GB (aB a) (tV lo) (tV hi))
 |.tup es=>gI (xM (cC es))
 |.lst es=>gI (xN (cC es))
 |.isi c a=>gI (xW c (aB a))
 |.neg a=>gI (xG (aB a))
 |.dnew=>λ_ _=>td
 |.disp _=>λ_ _=>td
 |.chn o o' a b d=>pN (fM o o' (aB a) (aB b) (aB d))
 |.comp _ _ _ _ _=>λ_ _=>td
def cC:Es->FA
 |.nil=>fN
 |.cons e es=>cu (aB e) (cC es)
def BM:Es->FT
 |.nil=>CN
 |.cons e .nil=>cJ e
 |.cons _ (.cons _ _)=>λ_ _=>td
def tV:Ep->FO
 |.no=>Ej
 |.yes e=>tF (aB e)
def i6:Ie->FI
 |.seq e=>d6 (aB e)
 |.rng es=>rM (cC es)
 |.rng2 es=>iRng2 (cC es)
 |.enu es=>yg (cC es)
end
variable (fuel:Kb)
mutual
def fR:Sm->FS
 |.set i e=>kK (aB M e) (CL i)
 |.asg is e=>kK (aB M e) (FH is)
 |.par i j es=>Bq i j (cC M es)
 |.put o k e=>kK (aB M e) (Bp (aB M o) (aB M k))
 |.ex e=>Bj (aB M e)
 |.ret e=>Bm (aB M e)
 |.retN=>λ_ S=>gV (.rt .non,S)
 |.pass=>xR
 |.brk=>λZ S=>gV (.bk Z,S)
 |.cont=>λZ S=>gV (.ct Z,S)
 |.bad=>λ_ _=>td
 |.ite t a b=>Bo (cJ M t) (fS a) (fS b)
 |.whl t b=>nQ (cJ M t) (fS b) fuel
 |.loop tg it b=>xU (i6 M it) (gh tg) (fS b)
def fS:Ss->FS
 |.nil=>λZ S=>gV (.nx Z,S)
 |.cons s ss=>Bh (fR s) (fS ss)
end
end
structure Gam where
 sc:J2 (KG×Mt)
 N:J2 KG
 fns:J2 (KG×Kb)
 blt:J2 KG
 dfn:KR
abbrev Ex:J9 Mt->KR
 |some .local=>true|some .cell=>true|some .free=>true|_=>false
abbrev BN:J9 Mt->KR
 |some .cell=>true|some .free=>true|_=>false
abbrev fT (names outer:J2 (KG×Mt)):J2 (KG×Mt):=names.map λ(n,k)=>if (k==.free&&outer.lookup n==gV .cell)then(n,.cell)else(n,k)
abbrev slot (Γ:Gam)(x:KG):J9 Kb:=if Ex (Γ.sc.lookup x) && !(x==("__debug__": KG)) && !(x==("__classdict__": KG))then Γ.N.findIdx? (· == x)else td
abbrev tW:QS->J9 BOp
 |.Add=>gV .add|.Sub=>gV .sub|.Mult=>gV .mul|.FloorDiv=>gV .fdiv|.Mod=>gV .mod|.Pow=>gV .pow|_=>td
abbrev jG:Rw->J9 COp
 |.Eq=>gV .eq|.NotEq=>gV .ne|.Lt=>gV .lt|.LtE=>gV .le|.Gt=>gV .gt|.GtE=>gV .ge|.In=>gV .isin|.NotIn=>gV .notin|.Is=>gV .is|.IsNot=>gV .isnot
abbrev yi (x:KG):J9 Bi:=[Bi.len,.list,.tuple,.int,.sorted,.range,.all,.min,.set,.dict].find? λb=>b.name==x
abbrev BO (x:KG):J9 Me:=[Me.append,.extend,.pop,.get,.index].find? λb=>b.name==x
abbrev GQ (Γ:Gam)(x:KG):KR:=Γ.sc.lookup x==gV .globalImplicit && !(x==("__debug__": KG))
abbrev yj (x:KG):J9 LV:=if x==("bool": KG)then gV "bool" else if x==("int": KG)then gV "int" else if x==("str": KG)then gV "str" else if x==("tuple": KG)then gV "tuple" else if x==("list": KG)then gV "list" else if x==("dict": KG)then gV "dict" else td
abbrev tX:J2 (J9 KO)->J2 KO->J2 KO
 |some k::ks,v::vs=>k::v::tX ks vs
 |_,_=>[]
abbrev BP (Γ:Gam)(f:KO->J9 E):J2 KO->J9 E
 |[a,.Name c _]=>if GQ Γ c&&Γ.blt.contains c then match yj c,f a with
  |some d,gV b=>gV (.isi d b)
  |_,_=>td
  else td
 |_=>td
abbrev eP:KO->KR
 |.Name _ _=>true|.Constant _ _ _=>true|.Subscript _ _ _=>true|_=>false
abbrev jQ (Γ:Gam)(x:KG):KR:=Γ.sc.lookup x==gV .globalImplicit && !(x==("__debug__": KG))
abbrev cK (Γ:Gam)(x:KG):J9 Kb:=if (Γ.sc.lookup x==gV .local)||(Γ.dfn&&Γ.sc.lookup x==gV .cell)then Γ.N.findIdx? (· == x)else td
abbrev cA (f:KO->J9 E)(es:J2 KO):J9 Es:=es.foldr (λe acc=>match f e,acc with|some b,gV a=>gV (.cons b a)|_,_=>td) (gV .nil)
abbrev cB (f:KO->J9 E)(op:Tt):J2 KO->J9 E
 |[]=>td
 |[a]=>f a
 |a::b::bW=>match f a,cB f op (b::bW)with
  |some c,gV d=>gV (match op with|.And=>.and c d|.Or=>.or c d)
  |_,_=>td
abbrev cP (f:KO->J9 E):J9 KO->J9 Ep
 |none=>gV .no
 |some e=>(f e).map .yes
abbrev isTup:KO->KR
 |.Tuple _ _ _=>true
 |_=>false
abbrev cI (Γ:Gam)(f:KO->J9 E)(tg:KO):KO->J9 Ie
 |.Call (.Name x p) [a] [] q=>if x==("range": KG)&&jQ Γ x&&Γ.blt.contains x then(cA f [a]).map .rng else if x==("enumerate": KG)&&jQ Γ x&&Γ.blt.contains x&&isTup tg then(cA f [a]).map .enu else(f (.Call (.Name x p) [a] [] q)).map .seq
 |.Call (.Name x p) [a,b] [] q=>if x==("range": KG)&&jQ Γ x&&Γ.blt.contains x then(cA f [a,b]).map .rng2 else(f (.Call (.Name x p) [a,b] [] q)).map .seq
 |e=>(f e).map .seq
abbrev FJ (Γ:Gam):J2 KO->J9 (J2 Kb)
 |[]=>gV []
 |.Name x _::ts=>match cK Γ x,FJ Γ ts with
  |some i,gV is=>gV (i::is)
  |_,_=>td
 |_::_=>td
abbrev cT (Γ:Gam):KO->J9 Tg
 |.Name x _=>(cK Γ x).map .nm
 |.Tuple ts _ _=>(FJ Γ ts).map .tp
 |_=>td
abbrev gP (names:J2 (KG×Mt)):J2 KG:=(names.filter λp=>p.2==.local||p.2==.free).map (·.1)
abbrev gk (Γ:Gam)(names:J2 (KG×Mt)):J2 (J9 Kb):=(gP names).map λx=>if names.lookup x==gV .local then td else Γ.N.findIdx? (· == x)
abbrev yk (Γ:Gam)(scope:Nv):KR:=
 (scope.kind==.function)&&scope.names.all (λy=>!(y.2==.local)||scope.names.lookup y.1==gV .local)&&scope.names.all (λy=>!(y.2==.cell)) &&
 scope.names.all (λy=>!(y.2==.free)||(BN (Γ.sc.lookup y.1)&&scope.names.lookup y.1==gV .free&&(Γ.N.findIdx? (· == y.1)).isSome))&&decide (gP scope.names).Nodup
abbrev gQ (Γ:Gam)(scope:Nv):Gam:={Γ with sc:=fT scope.names Γ.sc,N:=gP scope.names,dfn:=false}
abbrev ym (f:KO->J9 E)(keys:J2 (J9 KO))(a:J2 KO):J9 E:=
 if keys.isEmpty&&a.isEmpty then gV .dnew
 else if keys.all (·.isSome)&&decide (↥keys=↥a)&&decide (↥keys<=15)then(cA f (tX keys a)).map .disp else td
abbrev HZ (f:KO->J9 E)(Γ:Gam)(b:Bi):J2 KO->KO->J9 E
 |[],.Call (.Attribute o m apos) [] [] cpos=>if b==.list&&m==("values": KG)&&eP o&&(apos.endLine==cpos.line)then(f o).map λa=>.bi .vals #v[a]else td
 |[],.Call (.Name x _) [u,v] [] _=>if b==.dict&&x==("zip": KG)&&jQ Γ x&&Γ.blt.contains x then(cA f [u,v]).map (.bi .dzip)else td
 |_,_=>td
abbrev cE:Kb->Gam->KO->J9 E
 |0,_,_=>td
 |n+1,Γ,e=>match e with
  |.Constant (.int i) _ _=>gV (.c (.int i))
  |.Constant (.str x) _ _=>gV (.c (.str x))
  |.Constant (.bool b) _ _=>gV (.c (.bl b))
  |.Constant .none _ _=>gV (.c .non)
  |.Name x _=>match slot Γ x with
   |some i=>gV (.v i)
   |none=>td
  |.BinOp a op b _=>match tW op,cE n Γ a,cE n Γ b with
   |some o,gV c,gV h=>gV (.op o c h)
   |_,_,_=>td
  |.UnaryOp .Not a _=>(cE n Γ a).map .not
  |.UnaryOp .USub a _=>(cE n Γ a).map .neg
  |.BoolOp op vs _=>cB (cE n Γ) op vs
  |.Compare a [op] [b] _=>match jG op,cE n Γ a,cE n Γ b with
   |some o,gV c,gV h=>gV (.cmp o c h)
   |_,_,_=>td
  |.Compare a [op,u] [b,d] _=>match jG op,jG u,cE n Γ a,cE n Γ b,cE n Γ d with
   |some o,gV s,gV c,gV h,gV d'=>gV (.chn o s c h d')
   |_,_,_,_,_=>td
  |.Call (.Name f _) args [] _=>if jQ Γ f then match Γ.fns.lookup f with
    |some k=>(cA (cE n Γ) args).map (.own f k)
    |none=>if f==("isinstance": KG)then(if Γ.blt.contains f then BP Γ (cE n Γ) args else td)else match yi f,args with
     |some b,a::as=>if Γ.blt.contains f then(match cA (cE n Γ) (a::as)with|some es=>gV (.bi b es)|none=>HZ (cE n Γ) Γ b as a)else td
     |_,_=>td
   else td
  |.Call (.Attribute o m apos) (a::as) [] cpos=>match BO m,cE n Γ o,cA (cE n Γ) (a::as)with
   |some y,gV s,gV es=>if eP o&&(apos.endLine==cpos.line)&&decide ((a::as).length<29)then gV (.me y s es)else td
   |_,_,_=>td
  |.Subscript a (.Slice lo hi td _) _=>match cE n Γ a,cP (cE n Γ) lo,cP (cE n Γ) hi with
   |some c,gV r,gV q=>gV (.sl c r q)
   |_,_,_=>td
  |.Subscript a b _=>match cE n Γ a,cE n Γ b with
   |some c,gV h=>gV (.ix c h)
   |_,_=>td
  |.Tuple es _ _=>(cA (cE n Γ) es).map .tup
  |.List es _=>(cA (cE n Γ) es).map .lst
  |.Dict keys g _=>ym (cE n Γ) keys g
  |.ListComp p [#[tg,iter,j,l]] scope _=>if (l==0)&&(yk Γ scope&&decide (↥j<=1))then
    match cI Γ (cE n Γ) tg iter,cT (gQ Γ scope) tg,cA (cE n (gQ Γ scope)) j,cE n (gQ Γ scope) p with
    |some it,gV t,gV v,gV w=>gV (.comp w t it v (gk Γ scope.names))
    |_,_,_,_=>td
   else td
  |_=>td
structure CtxOk (M:KG->FF)(X:Cx)(Γ:Gam):Prop where
 names:X.env.scope.names=Γ.sc
 kind:X.env.scope.kind=.function
 N:X.N=Γ.N
 nd:Γ.N.Nodup
 calm:X.calm=true
 xe:X.xe=λ_ _=>LM
 un:X.A.units+fG<cLine
 dfn:Γ.dfn=true->∀x,X.fn x=true
 blt:∀x∈Γ.blt,X.mg x=td
 fns:∀f n,Γ.fns.lookup f=gV n->∃k fa fd ps,FnOk X.prog X.w X.K X.mg X.base v4 k fa fd ps (spF X.w X.K n (M f))/\Room k X.A/\X.mg f=gV (.ref fa)/\LY X.K (.ref fa)=true/\Binds X.K fd ps []
def aH {α:Type}{x:α}{P:Prop}(h:(td:J9 α)=gV x):P:=nomatch h
abbrev hX:KO->KR
 |.Starred _ _=>false
 |_=>true
def ay {e:KO}{es:J2 KO}{env:QP}(h:hX e=true):starEach (e::es) env=(false,eval e env)::starEach es env:=by
 cases e<;>first|rfl|cases h
def aQ {env:QP}{pos:MN}:∀{es:J2 KO},es.all hX=true->(backTo pos (starEach es env)).any (·.1)=false
 |[],_=>rfl
 |e::es,h=>by
  rw[Ls,Kc]at h;rw[ay h.1];show(false||(backTo pos (starEach es env)).any (·.1))=false
  rw[aQ h.2];rfl
def qb {env:QP}{pos:MN}:∀{es:J2 KO},es.all hX=true->(backTo pos (starEach es env)).all (λx=>!x.1)=true
 |[],_=>rfl
 |e::es,h=>by
  rw[Ls,Kc]at h;rw[ay h.1];show(true&&(backTo pos (starEach es env)).all (λx=>!x.1))=true
  rw[qb h.2];rfl
def jl {n:Kb}{Γ:Gam}{e:KO}{a:E}(h:cE n Γ e=gV a):hX e=true:=by
 cases n with
 |zero=>cases h
 |succ n=>cases e<;>first|rfl|(show aH h)
def iK {f:KO->J9 E}{e:KO}{es:J2 KO}{r:Es}(h:cA f (e::es)=gV r):∃b a,f e=gV b/\cA f es=gV a/\r=.cons b a:=by
 simp only[cA,RF]at h;split at h
 ·rename_i b a c d;cases h;show#[b,a,c,d,rfl]
 ·cases h
def bP {n:Kb}{Γ:Gam}:∀{es:J2 KO}{r:Es},cA (cE n Γ) es=gV r->es.all hX=true
 |[],_,_=>rfl
 |e::es,r,h=>by
  obtain⟨d,a,b,c,_⟩:=iK h;rw[Ls,jl b,bP c];rfl
def c8 {N:J2 KG}{x:KG}{i:Kb}(h:N.findIdx? (· == x)=gV i):N[i]?=gV x:=by
 obtain⟨hl,a,_⟩:=Mv.mp h;rw[Ke hl];show congrArg gV (eq_of_beq a)
section
variable{M:KG->FF}{X:Cx}{Γ:Gam}
def nU {e:KO}:GT X e (λ_ _=>td):=λJ s Y H Q I #[A,Z,S,k,S',er,so,e1,hq]=>by cases e1
def yn {x:KG}(h:Ex (X.env.scope.names.lookup x)=true):HR X.env.scope x:=by
 unfold Ex at h;split at h
 ·show .inl (by assumption)
 ·show .inr (.inl (by assumption))
 ·show .inr (.inr (by assumption))
 ·cases h
def yo (K:CtxOk M X Γ){x:KG}{pos:MN}{i:Kb}(h:slot Γ x=gV i):GE X (.Name x pos) (fV i):=by
 unfold slot at h;split at h
 ·rename_i hc;rw[Kc,Kc]at hc;obtain⟨⟨a,b⟩,c⟩:=hc;show IW (wf (by rw[K.N];show c8 h) (yn (by rw[K.names];show a)) (by simpa using b) (by simpa using c))
 ·cases h
def iL (K:CtxOk M X Γ){x:KG}(h:jQ Γ x=true):Gl X x/\(x==("__debug__": KG))=false:=by
 unfold jQ at h;rw[Kc]at h;show#[?_,by simpa using h.2]
 change X.env.scope.names.lookup x=_;rw[K.names];show eq_of_beq h.1
def kS {o:Rw}{c:COp}(h:jG o=gV c):c.py=o:=by
 cases o<;>(simp only[jG,K1]at h;subst h;rfl)
def yp {o:QS}{c:BOp}(h:tW o=gV c):c.py=o:=by
 cases o<;>simp only[tW,K1]at h<;>first|(subst h;rfl)|cases h
def jm {x:KG}{b:Bi}(h:yi x=gV b):b.name=x:=by
 have:=PK h;show eq_of_beq this
def vD {x:KG}{b:Me}(h:BO x=gV b):b.name=x:=by
 have:=PK h;show eq_of_beq this
def cL {n:Kb}(ih:∀{e:KO}{a:E},cE n Γ e=gV a->GE X e (aB M a)):∀{es:J2 KO}{r:Es},cA (cE n Γ) es=gV r->GA X es (cC M r)
 |[],r,h=>by cases h;show Ei
 |e::es,r,h=>by
  obtain⟨a,c,b,d,rfl⟩:=iK h;show Bc (ih b) (cL ih d) (ay (jl b))
def GR (K:CtxOk M X Γ){n:Kb}{f:KG}{p pos:MN}{args:J2 KO}{k:Kb}{r:Es}(m:jQ Γ f=true)(l:Γ.fns.lookup f=gV k)(e:cA (cE n Γ) args=gV r)(h:GA X args (cC M r)):GE X (.Call (.Name f p) args [] pos) (pQ k (M f) (cC M r)):=by
 obtain⟨d,o,q,ps,F,j,i,hk,g⟩:=K.fns f k l;obtain⟨b,c⟩:=iL K m;cases args with
 |nil=>cases e;show Bf F j b i hk g c
 |cons a as=>
  have ns:=bP e;rw[Ls,Kc]at ns;show Ek F j b i hk g h c (ay ns.1) (aQ ns.2)
def Jb (K:CtxOk M X Γ){n:Kb}{f:KG}{p pos:MN}{a:KO}{as:J2 KO}{b:Bi}{r:Es}(o:jQ Γ f=true)(k:yi f=gV b)(hc:Γ.blt.contains f=true)(m:cA (cE n Γ) (a::as)=gV r)(h:GA X (a::as) (cC M r)):GE X (.Call (.Name f p) (a::as) [] pos) (ft b.fn (cC M r)):=by
 obtain⟨c,d⟩:=iL K o;have j:X.mg f=td:=K.blt f (by simpa using hc)
 have ns:=bP m;rw[Ls,Kc]at ns;have e:=jm k;subst e;have l:X.A.units+12<cLine:=by have:=K.un;have:fG=20:=rfl;omega
 have calm:∀{f:J5}{g:J2 W->aa->J9 (W×aa)},(X.A.handled=td->LCall X f g)->LCall X f g:=λh J s Y H A S xs vs us w S' I=>h (I.ok.hd K.calm) J s Y H A S xs vs us w S' I
 cases b with
 |len=>show tD (fQ rO (fQ rQ rY)) c j PySem.boot_len h #v[] d (ay ns.1) (aQ ns.2)
 |list=>show mz (calm λi=>fQ (pe i) (fQ (pK i) (p8 i))) c j rfl h #v[] d (ay ns.1) (aQ ns.2)
 |tuple=>show mz (calm nP) c j rfl h #v[] d (ay ns.1) (aQ ns.2)
 |int=>show mz u9 c j rfl h #v[] d (ay ns.1) (aQ ns.2)
 |sorted=>show tD (calm λi=>nN i l) c j rfl h #v[] d (ay ns.1) (aQ ns.2)
 |range=>show mz pd c j rfl h #v[] d (ay ns.1) (aQ ns.2)
 |all=>show tD (calm vw) c j rfl h #v[] d (ay ns.1) (aQ ns.2)
 |min=>show tD (calm λi=>vp i l) c j rfl h #v[] d (ay ns.1) (aQ ns.2)
 |set=>show mz (calm λi=>fQ (rP i) (rR i)) c j rfl h #v[] d (ay ns.1) (aQ ns.2)
 |dict=>show mz (calm rX) c j rfl h #v[] d (ay ns.1) (aQ ns.2)
 |dzip=>show absurd (NL k) #v[]
 |vals=>show absurd (NL k) #v[]
def yq {x:KG}{c:LV}(h:yj x=gV c):bootBuiltins x=gV (.type c)/\x≠"__name__":=by
 unfold yj at h;split at h
 ·rename_i e;cases h;rw[eq_of_beq e];show#[rfl,#v[]]
 ·split at h
  ·rename_i e;cases h;rw[eq_of_beq e];show#[rfl,#v[]]
  ·split at h
   ·rename_i e;cases h;rw[eq_of_beq e];show#[rfl,#v[]]
   ·split at h
    ·rename_i e;cases h;rw[eq_of_beq e];show#[rfl,#v[]]
    ·split at h
     ·rename_i e;cases h;rw[eq_of_beq e];show#[rfl,#v[]]
     ·split at h
      ·rename_i e;cases h;rw[eq_of_beq e];show#[rfl,#v[]]
      ·cases h
def GU (K:CtxOk M X Γ){n:Kb}{f:KG}{p pos:MN}{args:J2 KO}{r:E}(v:jQ Γ f=true)(u:(f==("isinstance": KG))=true)(hc:Γ.blt.contains f=true)(ih:∀{e:KO}{g:E},cE n Γ e=gV g->GE X e (aB M g))(h:BP Γ (cE n Γ) args=gV r) :
  GE X (.Call (.Name f p) args [] pos) (aB M r)/\∃a c,r=.isi c a:=by
 obtain⟨m,y⟩:=iL K v;have w:X.mg f=td:=K.blt f (by simpa using hc)
 have e:=eq_of_beq u;subst e;unfold BP at h;split at h
 ·rename_i a c q;split at h
  ·rename_i b;rw[Kc]at b;obtain⟨o,s⟩:=iL K (x:=c) b.1;have d:X.mg c=td:=K.blt c (by simpa using b.2)
   split at h
   ·rename_i l j t i;cases h;obtain⟨k,b2⟩:=yq t;show#[Ev m w o d k b2 s (ih i) (ay (jl i)),j,l,rfl]
   ·cases h
  ·cases h
 ·cases h
def dE {o:KO}{name:KG}{env:QP}(h:eP o=true):attributeBase o name env (eval o env)=eval o env:=by
 cases o<;>first|rfl|cases h
def tY {n:Kb}{pos:MN}(ih:∀{e:KO}{b:E},cE n Γ e=gV b->GE X e (aB M b)):∀(keys:J2 (J9 KO)) (values:J2 KO) {r:Es},keys.all (·.isSome)=true->↥keys=↥values->cA (cE n Γ) (tX keys values)=gV r->GJ X pos keys values (cC M r)
 |[],[],r,_,_,h=>by cases h;show By
 |[],_::_,r,_,hl,_=>by cases hl
 |_::_,[],r,_,hl,_=>by cases hl
 |none::_,_::_,r,a,_,_=>by cases a
 |some k::ks,v::vs,r,a,hl,h=>by
  dsimp only[tX]at h;obtain⟨l,c,f,g,rfl⟩:=iK h;obtain⟨m,d,i,j,rfl⟩:=iK g;rw[Ls,Kc]at a;show xX (ih f) (ih i) (tY ih ks vs a.2 (by simpa using hl) j)
def Jc (K:CtxOk M X Γ){n:Kb}{m:KG}{apos cpos:MN}{o a:KO}{as:J2 KO}{b:Me}{g:E}{r:Es}(j:BO m=gV b)(d:eP o=true)(hl:(apos.endLine==cpos.line)=true)(k:(a::as).length<29)(c:GE X o (aB M g))(i:cA (cE n Γ) (a::as)=gV r)(h:GA X (a::as) (cC M r)) :
  GE X (.Call (.Attribute o m apos) (a::as) [] cpos) (FD b.ty b.fn (aB M g) (cC M r)):=by
 have ns:=bP i;have f:=ns;rw[Ls,Kc]at ns;have lb:((backTo cpos (starEach (a::as) X.env)).all (λx=>!x.1)&&(backToKw cpos (keywordEach [] X.env)).all (λx=>x.1.isSome)&&decide ((a::as).length+([]:J2 RL).length+(if ([]:J2 RL).isEmpty then 0 else 1)<30))=true:=by
  rw[qb f,Na,Kc];show#[rfl,Ld (by revert Mb List.isEmpty_nil MW;omega)]
 have e:=vD j;subst e;cases b with
 |append=>show pP Ni PySem.F.slot_list_append PySem.F.type_list_append nC c h (dE d) lb hl (ay ns.1) (aQ ns.2)
 |extend=>show pP Ni PySem.F.slot_list_extend PySem.F.type_list_extend nD c h (dE d) lb hl (ay ns.1) (aQ ns.2)
 |pop=>show pP Ni PySem.F.slot_list_pop PySem.F.type_list_pop vc c h (dE d) lb hl (ay ns.1) (aQ ns.2)
 |get=>show pP Pd PQ PySem.F.type_dict_get (rD (by have:=K.un;have:fG=20:=rfl;omega)) c h (dE d) lb hl (ay ns.1) (aQ ns.2)
 |index=>show pP Ni Pa PySem.F.type_list_index nR c h (dE d) lb hl (ay ns.1) (aQ ns.2)
def Jd (K:CtxOk M X Γ){n:Kb}{f:KG}{p pos:MN}{a:KO}{as:J2 KO}{b:Bi}{c:E}(C:jQ Γ f=true)(w:yi f=gV b)(hc:Γ.blt.contains f=true)(ih:∀{e:KO}{c:E},cE n Γ e=gV c->GE X e (aB M c))(h:HZ (cE n Γ) Γ b as a=gV c) :
  ∃A es,c=.bi A es/\GE X (.Call (.Name f p) (a::as) [] pos) (aB M c):=by
 obtain⟨t,G⟩:=iL K C;have y:X.mg f=td:=K.blt f (by simpa using hc)
 unfold HZ at h;split at h
 ·rename_i o m apos cpos;split at h
  ·rename_i d;rw[Kc,Kc,Kc]at d;obtain⟨⟨⟨k,l⟩,q⟩,r⟩:=d;obtain⟨N,g,rfl⟩:=J6.mp h;have i:b=.list:=eq_of_beq k;subst i;have j:=eq_of_beq l;subst j;have e:=jm w;subst e;show#[_,_,rfl,λJ s Y H Q I=>BK (I.ok.hd K.calm) (ih g) (dE q) r t y J s Y H Q I]
  ·cases h
 ·rename_i x p2 u v cpos;split at h
  ·rename_i d;rw[Kc,Kc,Kc]at d;obtain⟨⟨⟨k,l⟩,q⟩,r⟩:=d;obtain⟨es,g,rfl⟩:=J6.mp h;have i:b=.dict:=eq_of_beq k;subst i;have j:=eq_of_beq l;subst j;have e:=jm w;subst e;obtain⟨B,L⟩:=iL K q;have ns:=bP g;rw[Ls,Kc,Ls,Kc]at ns;have z:=ay (es:=[]) (env:=X.env) ns.2.1;have D:=ay (es:=[v]) (env:=X.env) ns.1;show#[_,_,rfl,λJ s Y H Q I=>BH (I.ok.hd K.calm) t y B (K.blt _ (by simpa using r)) (cL ih g) (by rw[D,z];rfl) (by rw[z];rfl) J s Y H Q I]
  ·cases h
 ·cases h
def iM {n:Kb}{Γ:Gam}{e:KO}{a:E}{op:Rw}(h:cE n Γ e=gV a):behindInMarks op e=false:=by
 cases n with
 |zero=>cases h
 |succ n=>cases e<;>first|rfl|(show aH h)
def rZ {n:Kb}{Γ:Gam}{e:KO}{a:E}(h:cE n Γ e=gV a):nu e:=by
 cases n with
 |zero=>cases h
 |succ n=>cases e<;>first|(intro o i;rfl)|(show aH h)
def nV {n:Kb}{Γ:Gam}{f:KO->J9 E}{e:KO}{i:Ie}{env:QP}{tg:KO}(b:∀a k p,f (.Set a k p)=td)(h:cI Γ f tg e=gV i):∀x,foldedSetIterable e env x=pure x:=by
 intro x;cases e<;>first|rfl|(simp[cI,b]at h)
def nW {n:Kb}{op:Tt}{pos:MN}(ih:∀{e:KO}{c:E},cE n Γ e=gV c->GE X e (aB M c)):∀{vs:J2 KO}{r:E},cB (cE n Γ) op vs=gV r->GE X (.BoolOp op vs pos) (aB M r)
 |[],r,h=>by cases h
 |[a],r,h=>Ef (ih h)
 |a::b::bW,r,h=>by
  simp only[cB]at h;split at h
  ·rename_i g i d f;cases h;cases op with
   |And=>show Eg (ih d) (nW ih f)
   |Or=>show Gz (ih d) (nW ih f)
  ·cases h
def nX {n:Kb}{op:Tt}{pos:MN}(ih:∀{e:KO}{c:E},cE n Γ e=gV c->GT X e (cJ M c)):∀{vs:J2 KO}{r:E},cB (cE n Γ) op vs=gV r->GW X (.BoolOp op vs pos) (cJ M r)
 |[],r,h=>by cases h
 |[a],r,h=>by
  cases op with
  |And=>show Ba (ih h)
  |Or=>show Ec (ih h)
 |a::b::bW,r,h=>by
  simp only[cB]at h;split at h
  ·rename_i g i d f;cases h;cases op with
   |And=>show Ed (ih d) (nX ih f)
   |Or=>show Gy (ih d) (nX ih f)
  ·cases h
def yr {n:Kb}(ih:∀{e:KO}{a:E},cE n Γ e=gV a->GE X e (aB M a)){o:J9 KO}{p:Ep}(h:cP (cE n Γ) o=gV p):GO X o (tV M p):=by
 cases o with
 |none=>cases h;show Bd
 |some e=>
  simp only[cP,J6]at h;obtain⟨a,b,rfl⟩:=h;show Be (ih b)
def r0 (K:CtxOk M X Γ){n:Kb}(ih:∀{e:KO}{l:E},cE n Γ e=gV l->GE X e (aB M l)){tg e:KO}{i:Ie}(h:cI Γ (cE n Γ) tg e=gV i):GI X tg e (i6 M i):=by
 have d:(cE n Γ e).map Ie.seq=gV i->GI X tg e (i6 M i):=λh=>by
  rw[J6]at h;obtain⟨l,f,rfl⟩:=h;show BB (ih f)
 unfold cI at h;split at h
 ·rename_i x p a pos;split at h
  ·rename_i hc;rw[Kc,Kc]at hc;obtain⟨⟨f,g⟩,j⟩:=hc;have k:=eq_of_beq f;subst k;rw[J6]at h;obtain⟨r,c,rfl⟩:=h;have ns:=bP c;rw[Ls,Kc]at ns;show Bv (iL K g).1 (K.blt _ (by simpa using j)) (cL ih c) (ay ns.1)
  ·split at h
   ·rename_i hc;rw[Kc,Kc,Kc]at hc;obtain⟨⟨⟨f,g⟩,j⟩,o⟩:=hc;have k:=eq_of_beq f;subst k;rw[J6]at h;obtain⟨r,c,rfl⟩:=h;have ns:=bP c;rw[Ls,Kc]at ns;cases tg with
    |Tuple m q s=>show BL (iL K g).1 (K.blt _ (by simpa using j)) (cL ih c) (ay ns.1)
    |_=>cases o
   ·show d h
 ·rename_i x p a b pos;split at h
  ·rename_i hc;rw[Kc,Kc]at hc;obtain⟨⟨f,g⟩,j⟩:=hc;have k:=eq_of_beq f;subst k;rw[J6]at h;obtain⟨r,c,rfl⟩:=h;have ns:=bP c;rw[Ls,Ls,Kc,Kc]at ns;show Bw (iL K g).1 (K.blt _ (by simpa using j)) (cL ih c) (by rw[ay ns.1,ay ns.2.1];rfl) (ay ns.2.1)
  ·show d h
 ·show d h
def nY (K:CtxOk M X Γ){x:KG}{i:Kb}(h:cK Γ x=gV i):X.N[i]?=gV x/\Ab X.env.scope x/\(X.fn x=true\/X.env.scope.names.lookup x=gV .local):=by
 unfold cK at h;split at h
 ·rename_i hc;show#[by rw[K.N];show c8 h,?_]
  unfold L2.Ab;rw[K.names];rw[Mp,Kc]at hc;rcases hc with hc|⟨hd,hc⟩
  ·have:=eq_of_beq hc;show#[.inl this,.inr this]
  ·show#[.inr (eq_of_beq hc),.inl (K.dfn hd x)]
 ·cases h
def qc (K:CtxOk M X Γ):∀{ts:J2 KO}{is:J2 Kb},FJ Γ ts=gV is->(∀x∈ts,∃y p,x=Qg y p)/\Ot (λ(t:KO) (i:Kb)=>∃x p,t=Qg x p/\X.N[i]?=gV x/\Ab X.env.scope x/\(X.fn x=true\/X.env.scope.names.lookup x=gV .local)) ts is
 |[],is,h=>by cases h;show#[λx f=>by simp at f,.nil]
 |t::ts,is,h=>by
  cases t with
  |Name x p=>
   dsimp only[FJ]at h;split at h
   ·rename_i i j c d;cases h;obtain⟨a,b⟩:=qc K d;show#[λy g=>(KH.mp g).elim (λe=>#[x,p,e]) (a y),.cons #[x,p,rfl,nY K c] b]
   ·cases h
  |_=>cases h
def hZ {env:QP}:∀{ts:J2 KO},(∀x∈ts,∃y p,x=Qg y p)->(assignEach ts env).length=↥ts/\(assignEach ts env).findIdx? (·.1)=td
 |[],_=>#[rfl,rfl]
 |t::ts,h=>by
  obtain⟨y,p,rfl⟩:=h t Mr;obtain⟨a,b⟩:=hZ (env:=env) λx c=>h x (LH _ c)
  show#[by show(assignEach ts env).length+1=↥ts+1;rw[a],?_]
  change List.findIdx? (·.1) ((false,assign (.Name y p) env)::assignEach ts env)=td
  rw[List.findIdx?_cons,b];rfl
def tZ (K:CtxOk M X Γ){tg:KO}{t:Tg}(h:cT Γ tg=gV t):GG X tg (gh t):=by
 have e:X.N.Nodup:=by rw[K.N];show K.nd
 cases tg with
 |Name x p=>
  dsimp only[cT]at h;simp only[J6]at h
  obtain⟨i,d,rfl⟩:=h;obtain⟨a,b,c⟩:=nY K d;show tH e a b c
 |Tuple ts k p=>
  dsimp only[cT]at h;simp only[J6]at h
  obtain⟨is,d,rfl⟩:=h;obtain⟨a,b⟩:=qc K d;show En K.calm a b e (hZ a).1 (hZ a).2
 |_=>cases h
end
abbrev eE (env:QP):J2 (KG×Mt)->J2 (KG×Kf)->J2 (KG×Kf)
 |[],a=>a
 |(n,k)::r,a=>eE env r (if k==.free then(n,(env.cells.lookup n).getD 0)::a else a)
def jn {env:QP}:∀(names:J2 (KG×Mt)) (d:J2 (KG×Kf)),(∀y∈names,y.2=.free->(env.cells.lookup y.1).isSome=true)->
  (forIn names d λx r=>match x with|(name,kind)=>if (kind==NS)=true then do let a <- cellOf env name;pure (Mq ((name,a)::r))else pure (Mq r):SO (J2 (KG×Kf)))=pure (eE env names d)
 |[],d,_=>by rw[OG];rfl
 |(n,k)::r,d,h=>by
  rw[NU];have e:=λy g=>h y (LH _ g)
  by_cases hk:(k==NS)=true
  ·obtain⟨c,hc⟩:=Lz.mp (h (n,k) Mr (eq_of_beq hk));have f:cellOf env n=pure c:=by unfold cellOf;rw[hc]
   revert hk MW f pure_bind;rw[jn r _ e];revert eE hk MW hc MP
  ·have b:(k==NS)=false:=by simpa using hk
   revert b LK ML pure_bind;rw[jn r _ e];revert eE b LK ML
def jR {scope:Nv}{env:QP}(h:∀y∈scope.names,y.2=.free->(env.cells.lookup y.1).isSome=true):closureFor scope env=pure (eE env scope.names []):=by
 have:=jn scope.names [] h;unfold closureFor;revert this pure_bind
def kU {env:QP}:∀(names:J2 (KG×Mt)) (a:J2 (KG×Kf)),(∀y∈names,y.2=.free->(env.cells.lookup y.1).isSome=true)->(∀x c,a.lookup x=gV c->env.cells.lookup x=gV c)->
  ∀x c,(eE env names a).lookup x=gV c->env.cells.lookup x=gV c
 |[],a,_,h,x,c,e=>h x c e
 |(n,k)::r,a,b,h,x,c,e=>by
  show kU r _ (λy f=>b y (LH _ f)) (λx c e=>?_) x c e
  split at e
  ·rename_i hk;rw[Mc]at e;split at e
   ·rename_i d;cases e;have:=eq_of_beq d;subst this;obtain⟨c,hc⟩:=Lz.mp (b (x,k) Mr (eq_of_beq hk));rw[hc];rfl
   ·show h x c e
  ·show h x c e
def jH {env:QP}{x:KG}:∀(names:J2 (KG×Mt)) (a:J2 (KG×Kf)),(∃c,a.lookup x=gV c)->∃c,(eE env names a).lookup x=gV c
 |[],a,h=>h
 |(n,k)::r,a,h=>by
  show jH r _ ?_;split
  ·rw[Mc];split
   ·show#[_,rfl]
   ·show h
  ·show h
def kW {env:QP}{x:KG}:∀(names:J2 (KG×Mt)) (a:J2 (KG×Kf)),(x,NS)∈names->∃c,(eE env names a).lookup x=gV c
 |[],a,h=>by simp at h
 |(n,k)::r,a,h=>by
  rcases KH.mp h with e|h
  ·cases e;show jH r _ ?_;simp[Mc]
  ·show kW r _ h
def kX {x:KG}{k:Mt}:∀{l:J2 (KG×Mt)},l.lookup x=gV k->(x,k)∈l
 |[],h=>by simp at h
 |(n,j)::r,h=>by
  rw[Mc]at h;split at h
  ·rename_i a;cases h;have:=eq_of_beq a;subst this;show Mr
  ·show LH _ (kX h)
def eF {X:Cx}{M:KG->FF}{Γ:Gam}(K:CtxOk M X Γ)(scope:Nv):(relabel scope X.env).names=fT scope.names Γ.sc:=by
 unfold relabel fT Ps;rw[K.kind,K.names];show Le λ#[n,k] _=>?_
 have e:(QJ==QJ)=true:=rfl;revert e Qp
def dP {outer:J2 (KG×Mt)}{x:KG}:∀{names:J2 (KG×Mt)},(fT names outer).lookup x=(names.lookup x).map λk=>if (k==.free&&outer.lookup x==gV .cell)then .cell else k
 |[]=>rfl
 |(n,k)::r=>by
  have ih:=dP (outer:=outer) (x:=x) (names:=r);change List.lookup x ((if (k==NS&&outer.lookup n==gV .cell)=true then(n,TZ)else(n,k))::fT r outer)=_
  cases a:x==n with
  |true=>
   have:=eq_of_beq a;subst this;revert Mc Lk KM;split<;>simp[Mc]
  |false=>
   revert Mc a;split<;>(revert Mc a;show ih)
section
variable{M:KG->FF}{X:Cx}{Γ:Gam}
structure ScOk (Γ:Gam)(scope:Nv):Prop where
 kind:scope.kind=.function
 names:∀y∈scope.names,y.2=.local->scope.names.lookup y.1=gV .local
 nocell:∀y∈scope.names,y.2≠.cell
 free:∀y∈scope.names,y.2=.free->BN (Γ.sc.lookup y.1)=true/\scope.names.lookup y.1=gV .free/\(Γ.N.findIdx? (· == y.1)).isSome=true
 nd:(gP scope.names).Nodup
def t4 {scope:Nv}(h:yk Γ scope=true):ScOk Γ scope:=by
 unfold yk at h;rw[Kc,Kc,Kc,Kc]at h;obtain⟨⟨⟨⟨b,c⟩,d⟩,f⟩,g⟩:=h;show#[eq_of_beq b,λy a e=>?_,λy a e=>?_,λy a e=>?_,Lr g]
 ·have:=KD.mp c y a;rw[e]at this
  simpa using this
 ·have:=KD.mp d y a;rw[e]at this;simp at this
 ·have:=KD.mp f y a;rw[e]at this;simp only[Lk,Qq,Oi,Kc]at this;show#[this.1.1,eq_of_beq this.1.2,this.2]
def t8 {o:J9 Mt}(h:BN o=true):o=gV .cell\/o=gV .free:=by
 unfold BN at h;split at h
 ·show .inl rfl
 ·show .inr rfl
 ·cases h
def mJ (K:CtxOk M X Γ)(ok:X.Ok){scope:Nv}(sc:ScOk Γ scope):CompOk X scope (eE X.env scope.names []) (gP scope.names) (gk Γ scope.names):=by
 have a:∀y∈scope.names,y.2=.free->(X.env.cells.lookup y.1).isSome=true:=λy s e=>by
  have hk:=t8 (sc.free y s e).1;obtain⟨c,hc⟩:=ok.has y.1 (by unfold Ps;rw[K.names];show hk)
  rw[hc];rfl
 have b:∀x,((relabel scope X.env).names.lookup x=gV .cell\/(relabel scope X.env).names.lookup x=gV .free)->(x,NS)∈scope.names:=λx h=>by
  rw[eF K,dP]at h;cases q:scope.names.lookup x with
  |none=>rw[q]at h;rcases h with h|h<;>cases h
  |some k=>
   rw[q]at h;have d:=kX q;cases k with
   |free=>show d
   |cell=>show absurd rfl (sc.nocell _ d)
   |_=>rcases h with h|h<;>simp at h
 show#[jR a,sc.kind,sc.names,sc.nocell,kU _ _ a (λx c e=>by cases e),λx h=>kW _ _ (b x h),by simp[gk],λi j x hi l=>?_]
 unfold gk at hi;rw[Kg,l]at hi;simp only[KM,K1]at hi;split at hi
 ·cases hi
 ·rename_i hl;have f:x∈gP scope.names:=Kt l;unfold gP at f;obtain⟨⟨m,k⟩,r,e⟩:=Kn.mp f;obtain⟨d,hk⟩:=LX.mp r;have n:m=x:=e;subst n;have g:k=.free:=by
   simp only[Mp]at hk;rcases hk with hk|hk
   ·have:k=.local:=eq_of_beq hk;subst this;have:=sc.names (m,.local) d rfl;rw[this]at hl;simp at hl
   ·show eq_of_beq hk
  subst g;obtain⟨o,p,t⟩:=sc.free _ d rfl;show#[by rw[K.N];show c8 hi,by unfold Ps;rw[K.names];show t8 o,?_]
  rw[eF K,dP,p];revert KM K1 Lk Na;split
  ·show .inl rfl
  ·show .inr rfl
def eQ (K:CtxOk M X Γ){scope:Nv}(sc:ScOk Γ scope)(C:Kf)(s0:J8)(a:Hp)(ex:J2 Kf):CtxOk M (lK X scope (eE X.env scope.names []) C (gP scope.names) s0 a ex) (gQ Γ scope) where
 names:=eF K scope
 kind:=sc.kind
 N:=rfl
 nd:=sc.nd
 calm:=K.calm
 xe:=rfl
 un:=K.un
 dfn:=λh=>by cases h
 blt:=K.blt
 fns:=K.fns
def qd {f:Es}{n:Kb}{b:J2 KO}{Γ:Gam}(hl:↥b<=1)(hc:cA (cE n Γ) b=gV f){a:Cx}(ih:∀{e:KO}{d:E},cE n Γ e=gV d->GT a e (cJ M d))(m:a.xe=λ_ _=>LM) :
  ∀J s Y H Q,Inv a J Y H s->tT a (BM M f) Y H Q->
  wpAny (model a.prog a.w) a.A (forIn b true λc r=>if r=true then do let ok <- isTrue c a.env (eval c a.env);pure (Mq ok)else pure (Mq r)) (TP a J Y Q) (λ_ _=>LM) s:=by
 intro J s Y H Q I h
 match b,hl,hc with
 |[],_,hc=>
  cases hc;obtain⟨A,Z,S,k,S',p,o,e,l⟩:=h;cases e;show wpAny_tests_nil #[H,I,l _ _ #[rfl,A,.refl,o]]
 |[c],_,hc=>
  obtain⟨d,g,i,j,rfl⟩:=iK hc;cases j;have:=ih i J s Y H Q I h;rw[m]at this;show wpAny_tests_one this
def bI:∀(n:Kb) {Γ:Gam}{X:Cx}{e:KO}{u:E},CtxOk M X Γ->cE n Γ e=gV u->GE X e (aB M u)/\GT X e (cJ M u):=by
 intro n
 induction n with
 |zero=>intro Γ X e u K h;cases h
 |succ n ih=>
  intro Γ X e u K h;have j:∀{e:KO}{u:E},cE n Γ e=gV u->GE X e (aB M u):=λq=>(ih K q).1
  have S:∀{e:KO}{u:E},cE n Γ e=gV u->GT X e (cJ M u):=λq=>(ih K q).2
  have G:X.A.units+10<cLine:=by have:=K.un;have:fG=20:=rfl;omega
  cases e with
  |Constant c k p=>
   cases c<;>cases h
   all_goals first
    |show#[pM wn (λ_ _=>.non),bX (pM wn (λ_ _=>.non)) λ_=>rfl]
    |show#[pM CD (λ_ _=>.bl),bX (pM CD (λ_ _=>.bl)) λ_=>rfl]
    |show#[pM wj (λ_ _=>.int),bX (pM wj (λ_ _=>.int)) λ_=>rfl]
    |show#[pM wo (λ_ _=>.str),bX (pM wo (λ_ _=>.str)) λ_=>rfl]
  |Name x p=>
   replace h:(match slot Γ x with|some i=>gV (E.v i)|none=>td)=gV u:=h
   split at h
   ·rename_i i l;cases h;show#[yo K l,bX (yo K l) λ_=>rfl]
   ·cases h
  |BinOp a op b p=>
   replace h:(match tW op,cE n Γ a,cE n Γ b with|some o,gV w,gV B=>gV (E.op o w B)|_,_,_=>td)=gV u:=h
   split at h
   ·rename_i o w B l A y;cases h;have e:=yp l;subst e;show#[CK (sP o) (j A) (j y),bX (CK (sP o) (j A) (j y)) λ_=>rfl]
   ·cases h
  |UnaryOp op a p=>
   cases op with
   |Not=>
    replace h:(cE n Γ a).map E.not=gV u:=h;rw[J6]at h;obtain⟨w,l,rfl⟩:=h;show#[Eh (j l),Ee (S l)]
   |USub=>
    replace h:(cE n Γ a).map E.neg=gV u:=h;rw[J6]at h;obtain⟨w,l,rfl⟩:=h;show#[xH (j l),bX (xH (j l)) λ_=>rfl]
   |_=>show aH h
  |BoolOp op vs p=>
   replace h:cB (cE n Γ) op vs=gV u:=h;show#[nW j h,(nX S h).pt]
  |Compare a ops V p=>
   match ops,V,h with
   |[op],[b],h=>
    replace h:(match jG op,cE n Γ a,cE n Γ b with|some o,gV w,gV B=>gV (E.cmp o w B)|_,_,_=>td)=gV u:=h
    split at h
    ·rename_i o w B l A y;cases h;have e:=kS l;subst e;show#[Ea K.un (j A) (j y) (iM y),Eb K.un (j A) (j y) (iM y)]
    ·cases h
   |[],_,h=>show aH h
   |[_],[],h=>show aH h
   |[_],_::_::_,h=>show aH h
   |[op,op'],[b,d],h=>
    replace h:(match jG op,jG op',cE n Γ a,cE n Γ b,cE n Γ d with|some o,gV U,gV w,gV B,gV d'=>gV (E.chn o U w B d')|_,_,_,_,_=>td)=gV u:=h
    split at h
    ·rename_i o U w B d' l A y W Z;cases h;have e:=kS l;subst e;have e:=kS A;subst e;show#[xI K.un (j y) (j W) (j Z) (iM Z),xJ K.un (j y) (j W) (j Z) (iM Z)]
    ·cases h
   |[_,_],[],h=>show aH h
   |[_,_],[_],h=>show aH h
   |[_,_],_::_::_::_,h=>show aH h
   |_::_::_::_,_,h=>show aH h
  |Call f args kws p=>
   cases kws with
   |cons _ _=>cases f<;>first|(show aH h)|(cases args<;>(show aH h))
   |nil=>
    cases f with
    |Name x q=>
     replace h:(if jQ Γ x then match Γ.fns.lookup x with|some k=>(cA (cE n Γ) args).map (E.own x k)|none=>if x==("isinstance": KG)then(if Γ.blt.contains x then BP Γ (cE n Γ) args else td)else match (generalizing:=false) yi x,args with|some b,a::as=>if Γ.blt.contains x then(match (generalizing:=false) cA (cE n Γ) (a::as)with|some es=>gV (E.bi b es)|none=>HZ (cE n Γ) Γ b as a)else td|_,_=>td else td)=gV u:=h
     split at h
     ·rename_i hg;split at h
      ·rename_i k hk;rw[J6]at h;obtain⟨r,L,rfl⟩:=h;have g:=GR (pos:=p) (p:=q) K hg hk L (cL j L);show#[g,bX g λ_=>rfl]
      ·split at h
       ·rename_i his;split at h
        ·rename_i hc;obtain⟨g,w,c',rfl⟩:=GU (pos:=p) (p:=q) K hg his hc j h;show#[g,bX g λ_=>rfl]
        ·cases h
       ·split at h
        ·rename_i bb a as hb;split at h
         ·rename_i hc;split at h
          ·rename_i r L;cases h;have g:=Jb (pos:=p) (p:=q) K hg hb hc L (cL j L);show#[g,bX g λ_=>rfl]
          ·obtain⟨B,es,rfl,g⟩:=Jd (pos:=p) (p:=q) K hg hb hc j h;show#[g,bX g λ_=>rfl]
         ·cases h
        ·cases h
     ·cases h
    |Attribute o m q=>
     cases args with
     |nil=>show aH h
     |cons a as=>
      replace h:(match BO m,cE n Γ o,cA (cE n Γ) (a::as)with|some m',gV U,gV es=>if eP o&&(q.endLine==p.line)&&decide ((a::as).length<29)then gV (E.me m' U es)else td|_,_,_=>td)=gV u:=h
      split at h
      ·rename_i m' U es l A y;split at h
       ·rename_i hc;rw[Kc,Kc,KP]at hc;cases h;have g:=Jc K (cpos:=p) (apos:=q) l hc.1.1 hc.1.2 hc.2 (j A) y (cL j y);show#[g,bX g λ_=>rfl]
       ·cases h
      ·cases h
    |_=>show aH h
  |Subscript a b p=>
   have D:(match cE n Γ a,cE n Γ b with|some w,gV B=>gV (E.ix w B)|_,_=>td)=gV u->GE X (.Subscript a b p) (aB M u)/\GT X (.Subscript a b p) (cJ M u):=λh=>by
    split at h
    ·rename_i w B l A;cases h;have g:=GC (pos:=p) G (j l) (j A) (rZ A);show#[g,bX g λ_=>rfl]
    ·cases h
   cases b with
   |Slice lo hi st q=>
    cases st with
    |none=>
     replace h:(match cE n Γ a,cP (cE n Γ) lo,cP (cE n Γ) hi with|some w,gV T,gV P=>gV (E.sl w T P)|_,_,_=>td)=gV u:=h
     split at h
     ·rename_i w T P l A y;cases h;have g:=GD (pos:=p) (p2:=q) (j l) (yr j A) (yr j y);show#[g,bX g λ_=>rfl]
     ·cases h
    |some z=>show D h
   |_=>show D h
  |Tuple es k p=>
   replace h:(cA (cE n Γ) es).map E.tup=gV u:=h;rw[J6]at h;obtain⟨r,l,rfl⟩:=h;show#[xO (cL j l),bX (xO (cL j l)) λ_=>rfl]
  |List es p=>
   replace h:(cA (cE n Γ) es).map E.lst=gV u:=h;rw[J6]at h;obtain⟨r,l,rfl⟩:=h;show#[xP (cL j l),bX (xP (cL j l)) λ_=>rfl]
  |Dict keys v p=>
   replace h:ym (cE n Γ) keys v=gV u:=h;unfold ym at h;split at h
   ·rename_i hc;cases h;rw[Kc]at hc;have k0:keys=[]:=Rt.mp hc.1;have v0:v=[]:=Rt.mp hc.2;subst k0 v0;show#[Bz,nU]
   ·rename_i hc0;split at h
    ·rename_i hc;rw[Kc,Kc,KP,KP]at hc;rw[J6]at h;obtain⟨r,L,rfl⟩:=h;have h0:keys≠[]:=λz=>by
      subst z;have v0:v=[]:=Nh.mp hc.1.2.symm;subst v0;show hc0 rfl
     show#[BA (pos:=p) G (tY j keys v hc.1.1 hc.1.2 L) hc.1.1 hc.1.2 h0 hc.2,nU]
    ·cases h
  |ListComp elt gens scope p=>
   match gens,h with
   |[#[tg,iter,R,O]],h=>
    replace h:(if (O==0)&&(yk Γ scope&&decide (↥R<=1))then match cI Γ (cE n Γ) tg iter,cT (gQ Γ scope) tg,cA (cE n (gQ Γ scope)) R,cE n (gQ Γ scope) elt with|some it,gV t,gV V,gV el=>gV (E.comp el t it V (gk Γ scope.names))|_,_,_,_=>td else td)=gV u:=h
    split at h
    ·rename_i hc;rw[Kc,Kc,KP]at hc;have e0:O=0:=eq_of_beq hc.1;subst e0;replace hc:=hc.2;split at h
     ·rename_i it t V el l A y W;cases h;have sc:=t4 hc.1;show#[BC K.calm (r0 K j l) (λok=>#[_,mJ K ok sc,?_]) (nV (n:=n) (λel k p=>by cases n<;>rfl) l),nU]
      show#[λC s0 N ex=>tZ (eQ K sc C s0 N ex) A,λC s0 N ex J s Y H Q I q=>?_,λC s0 N ex=>(ih (eQ K sc C s0 N ex) W).1]
      show qd hc.2 y (λz=>(ih (eQ K sc C s0 N ex) z).2) rfl J s Y H Q I q
     ·cases h
    ·cases h
   |[],h=>show aH h
   |#[_,_,_,_]::_::_,h=>show aH h
  |_=>show aH h
end
noncomputable abbrev bJ:Kb:=30
abbrev CT:KO->KR
 |.Constant (.str _) _ _=>true
 |_=>false
abbrev jo:KO->KR
 |.ListComp _ _ _ _=>true
 |_=>false
abbrev t9:KO->KR
 |.Slice _ _ _ _=>true
 |_=>false
abbrev ud (f:Nb->J9 Sm)(ss:J2 Nb):J9 Ss:=ss.foldr (λs acc=>match f s,acc with|some b,gV a=>gV (.cons b a)|_,_=>td) (gV .nil)
abbrev Ey (Γ:Gam):J2 KO->KO->J9 Sm
 |[.Name x c,.Name y py],.Tuple [a,b] _ _=>match Γ.N.findIdx? (· == x),Γ.N.findIdx? (· == y),cA (cE bJ Γ) [a,b]with
  |some i,gV j,gV es=>if !(i==j)&&(Γ.sc.lookup x==gV .local)&&(Γ.sc.lookup y==gV .local)&&(py.line==c.line) && !([a,b].all (foldedForSure 8)) && !([a,b].all (constantsAlone 8))then gV (.par i j es)else td
  |_,_,_=>td
 |_,_=>td
abbrev cS:Kb->Gam->Nb->J9 Sm
 |0,_,_=>td
 |n+1,Γ,st=>match st with
  |.Assign [.Name x _] e _=>match cK Γ x,cE bJ Γ e with
   |some i,gV d=>gV (.set i d)
   |_,_=>td
  |.Assign [.Tuple ts _ _] e _=>if isTup e then Ey Γ ts e else if jo e then td else match FJ Γ ts,cE bJ Γ e with
   |some is,gV d=>gV (.asg is d)
   |_,_=>td
  |.Assign [.Subscript o k _] e _=>if t9 k then td else match cE bJ Γ o,cE bJ Γ k,cE bJ Γ e with
   |some h,gV g,gV d=>gV (.put h g d)
   |_,_,_=>td
  |.Expr e _=>if CT e then gV .pass else if jo e then td else(cE bJ Γ e).map .ex
  |.Return (gV e) _=>(cE bJ Γ e).map .ret
  |.Return td _=>gV .retN
  |.Pass _=>gV .pass
  |.Raise _ _ _=>gV .bad
  |.Break _=>gV .brk
  |.Continue _=>gV .cont
  |.If t a b _=>match cE bJ Γ t,ud (cS n Γ) a,ud (cS n Γ) b with
   |some t',gV f,gV c=>gV (.ite t' f c)
   |_,_,_=>td
  |.While t b [] _=>match cE bJ Γ t,ud (cS n Γ) b with
   |some t',gV c=>gV (.whl t' c)
   |_,_=>td
  |.For tg it b [] _=>match cT Γ tg,cI Γ (cE bJ Γ) tg it,ud (cS n Γ) b with
   |some t,gV i,gV c=>gV (.loop t i c)
   |_,_,_=>td
  |_=>td
section
variable{M:KG->FF}{X:Cx}{Γ:Gam}{fuel:Kb}
def yt {f:Nb->J9 Sm}{s:Nb}{ss:J2 Nb}{r:Ss}(h:ud f (s::ss)=gV r):∃c a,f s=gV c/\ud f ss=gV a/\r=.cons c a:=by
 simp only[ud,RF]at h;split at h
 ·rename_i d b e g;cases h;show#[d,b,e,g,rfl]
 ·cases h
def gr {n:Kb}(ih:∀{st:Nb}{a:Sm},cS n Γ st=gV a->GS X st (fR M fuel a)):∀{ss:J2 Nb}{r:Ss},ud (cS n Γ) ss=gV r->GSs X ss (fS M fuel r)
 |[],r,h=>by cases h;show Bg
 |s::ss,r,h=>by
  obtain⟨a,d,b,c,rfl⟩:=yt h;show xQ (ih b) (gr ih c)
def kY {e:KO}{t:J9 KO}{l:Kb}{env:QP}(h:jo e=false)(n:Kb){Γ:Gam}{a:E}(hc:cE n Γ e=gV a):swapsWith e t l env=pure false:=by
 cases n with
 |zero=>cases hc
 |succ n=>cases e<;>first|(exfalso;show aH hc)|rfl|cases h
def r8 (K:CtxOk M X Γ){n:Kb}{b:KO}{gens:J2 Comprehension}{scope:Nv}{p:MN}{j:E}(h:cE (n+1) Γ (.ListComp b gens scope p)=gV j) :
  ∃tg iter a r g c f i,gens=[#[tg,iter,a,0]]/\aB M j=kQ r g c f i/\GI X tg iter r/\(X.Ok->∃m,CompOk X scope m (gP scope.names) i/\BlockOk X scope m (gP scope.names) tg b a g c f)/\∀x,foldedSetIterable iter X.env x=pure x:=by
 match gens,h with
 |[#[tg,iter,a,e]],h=>
  replace h:(if (e==0)&&(yk Γ scope&&decide (↥a<=1))then match cI Γ (cE n Γ) tg iter,cT (gQ Γ scope) tg,cA (cE n (gQ Γ scope)) a,cE n (gQ Γ scope) b with|some it,gV t,gV o,gV l=>gV (E.comp l t it o (gk Γ scope.names))|_,_,_,_=>td else td)=gV j:=h
  split at h
  ·rename_i hc;rw[Kc,Kc,KP]at hc;have v:e=0:=eq_of_beq hc.1;subst v;replace hc:=hc.2;split at h
   ·rename_i it t o l u w y A;cases h;have sc:=t4 hc.1;show#[tg,iter,a,_,_,_,_,_,rfl,rfl,r0 K (λz=>(bI n K z).1) u,λok=>#[_,mJ K ok sc,?_],nV (n:=n) (λl k p=>by cases n<;>rfl) u]
    show#[λC s0 d ex=>tZ (eQ K sc C s0 d ex) w,λC s0 d ex J s Y H Q I q=>?_,λC s0 d ex=>(bI n (eQ K sc C s0 d ex) A).1]
    show qd hc.2 y (λz=>(bI n (eQ K sc C s0 d ex) z).2) rfl J s Y H Q I q
   ·cases h
  ·cases h
 |[],h=>show aH h
 |#[_,_,_,_]::_::_,h=>show aH h
def GV (K:CtxOk M X Γ){x:KG}{j pos:MN}{e:KO}{i:Kb}{m:E}(hi:cK Γ x=gV i)(r:cE bJ Γ e=gV m):GS X (.Assign [.Name x j] e pos) (kK (aB M m) (CL i)):=by
 obtain⟨a,b,c⟩:=nY K hi;have t:X.N.Nodup:=by rw[K.N];show K.nd
 have d:swapsWith e (gV (.Name x j)) pos.line X.env=pure false->GS X (.Assign [.Name x j] e pos) (kK (aB M m) (CL i)):=λs=>rL (bI _ K r).1 (tH t a b c) s (by cases e<;>rfl) rfl
 cases hc:jo e with
 |false=>show d (kY hc _ r)
 |true=>
  cases e with
  |ListComp o gens scope p=>
   cases h:(X.env.blockKind==.function&&X.env.kindOf x==gV .local&&j.line==p.line && !(scope.names.any λ(n,k)=>n==x&&(k==.local||k==.cell)))with
   |false=>
    show d ?_;show(pure (X.env.blockKind==.function&&X.env.kindOf x==gV .local&&j.line==p.line && !(scope.names.any λ(n,k)=>n==x&&(k==.local||k==.cell))):SO KR)=pure false
    rw[h]
   |true=>
    have l:swapsWith (.ListComp o gens scope p) (gV (.Name x j)) pos.line X.env=pure true:=by
     show(pure (X.env.blockKind==.function&&X.env.kindOf x==gV .local&&j.line==p.line && !(scope.names.any λ(n,k)=>n==x&&(k==.local||k==.cell))):SO KR)=pure true
     rw[h]
    rw[Kc,Kc,Kc]at h;have hl:X.env.scope.names.lookup x=gV .local:=eq_of_beq h.1.1.2;obtain⟨tg,iter,y,A,g,z,f,u,rfl,v,w,q,s⟩:=r8 K r;rw[v];show rS K.calm w q s l t a hl
  |_=>cases hc
def qe (K:CtxOk M X Γ){x y:KG}{f py pt o:MN}{t s:Kb}{a b:KO}(e:x≠y)(q:Γ.sc.lookup x=gV .local)(r:Γ.sc.lookup y=gV .local)(hl:(py.line==f.line)=true)(h:[a,b].all (foldedForSure 8)=false)(i:[a,b].all (constantsAlone 8)=false)(p:hX a=true)(l:hX b=true) :
  swappedStores [.Tuple [.Name x f,.Name y py] t pt] (.Tuple [a,b] s o) X.env=pure (gV [x,y]):=by
 have kx:(X.env.kindOf x==gV .local)=true:=by unfold Ps;rw[K.names,q];rfl
 have u:(X.env.kindOf y==gV .local)=true:=by unfold Ps;rw[K.names,r];rfl
 have bk:(X.env.blockKind != .function)=false:=by
  unfold Env.blockKind;rw[K.kind];rfl
 have z:(f.line==f.line)=true:=by simp
 have w:([x,y].eraseDups.length != [x,y].length)=false:=by
  have:(y==x)=false:=by simpa using Ne.symm e
  simp[Qk,this]
 have m:X.env.kindOf x=gV .local:=eq_of_beq kx;have n:X.env.kindOf y=gV .local:=eq_of_beq u;have k:py.line=f.line:=eq_of_beq hl;have g:X.env.blockKind=.function:=by simpa using bk
 have v:(y==x)=false:=by simpa using Ne.symm e
 have c:(foldedForSure 8 a&&foldedForSure 8 b)=false:=by simpa using h
 have d:(constantsAlone 8 a&&constantsAlone 8 b)=false:=by simpa using i
 unfold swappedStores;simp only[Ma,List.any_nil,Sf,NM,List.filterMap_nil,m,n,g,List.head?_cons,KM,MP,K5,Mb,Ls,List.all_nil,Qp,c,d];show Eq.trans (KS ?_) (Eq.trans (KS ?_) ?_)
 ·decide
 ·rw[Mp];rintro(j|j)
  ·clear h i c d;cases a<;>first|(cases j;done)|(cases p;done)
  ·clear h i c d;cases b<;>first|(cases j;done)|(cases l;done)
 ·delta Expr.pos;simp[k,v,Qk]
def BQ (fuel:Kb)(K:CtxOk M X Γ):∀(n:Kb) {st:Nb}{g:Sm},cS n Γ st=gV g->GS X st (fR M fuel g):=by
 have hN:X.N.Nodup:=by rw[K.N];show K.nd
 have own:Qe (model X.prog X.w) X.A X.env X.xe:=by rw[K.xe];show TM
 intro n
 induction n with
 |zero=>intro st g h;cases h
 |succ n ih=>
  intro st g h;cases st with
  |Expr e p=>
   replace h:(if CT e then gV Sm.pass else if jo e then td else(cE bJ Γ e).map Sm.ex)=gV g:=h
   split at h
   ·rename_i hd;cases h;cases e with
    |Constant c k q=>
     cases c with
     |str x=>show El
     |_=>cases hd
    |_=>cases hd
   ·split at h
    ·cases h
    ·rename_i hd hc;rw[J6]at h;obtain⟨m,d,rfl⟩:=h;show GF (bI _ K d).1 (kY (by simpa using hc) _ d)
  |Return o p=>
   cases o with
   |none=>cases h;show Bn
   |some e=>
    replace h:(cE bJ Γ e).map Sm.ret=gV g:=h;rw[J6]at h;obtain⟨m,d,rfl⟩:=h;show Em (bI _ K d).1
  |Pass p=>cases h;show Bk
  |Raise exc E pos=>cases h;show λJ s D Y H I #[A,Z,S,o,S',er,so,e,hq]=>nomatch e
  |Break p=>cases h;show xS
  |Continue p=>cases h;show Bl
  |If t a b p=>
   replace h:(match cE bJ Γ t,ud (cS n Γ) a,ud (cS n Γ) b with|some t',gV O,gV u=>gV (Sm.ite t' O u)|_,_,_=>td)=gV g:=h
   split at h
   ·rename_i t' O u d f w;cases h;show GH (bI _ K d).2 (gr ih f) (gr ih w)
   ·cases h
  |While t b o p=>
   cases o with
   |cons _ _=>show aH h
   |nil=>
    replace h:(match cE bJ Γ t,ud (cS n Γ) b with|some t',gV u=>gV (Sm.whl t' u)|_,_=>td)=gV g:=h
    split at h
    ·rename_i t' u d f;cases h;show xT fuel own (bI _ K d).2 (gr ih f)
    ·cases h
  |For tg it b o p=>
   cases o with
   |cons _ _=>show aH h
   |nil=>
    replace h:(match cT Γ tg,cI Γ (cE bJ Γ) tg it,ud (cS n Γ) b with|some t,gV i,gV u=>gV (Sm.loop t i u)|_,_,_=>td)=gV g:=h
    split at h
    ·rename_i t i u d f w;cases h;show Eu own K.calm (r0 K (λz=>(bI _ K z).1) f) (tZ K d) (gr ih w) (nV (n:=bJ) (λel k p=>rfl) f)
    ·cases h
  |Assign ts e p=>
   match ts,h with
   |[],h=>show aH h
   |a::_::_,h=>cases a<;>show aH h
   |[t],h=>
    cases t with
    |Name x C=>
     replace h:(match cK Γ x,cE bJ Γ e with|some i,gV m=>gV (Sm.set i m)|_,_=>td)=gV g:=h
     split at h
     ·rename_i i m d f;cases h;show GV K d f
     ·cases h
    |Subscript o k q=>
     replace h:(if t9 k then td else match cE bJ Γ o,cE bJ Γ k,cE bJ Γ e with|some U,gV R,gV m=>gV (Sm.put U R m)|_,_,_=>td)=gV g:=h
     split at h
     ·cases h
     ·rename_i hc;split at h
      ·rename_i U R m d f w;cases h;show rL (bI _ K w).1 (Eo (by have:=K.un;have:fG=20:=rfl;omega) (bI _ K d).1 (bI _ K f).1 ?_) (by cases e<;>rfl) (by cases e<;>rfl) rfl
       intro v;cases k<;>first|rfl|show absurd rfl hc
      ·cases h
    |Tuple r k q=>
     have N:∀{x y:KG}{C py:MN}{a b:PySem.Expr}{T:Kb}{V:MN},(match Γ.N.findIdx? (· == x),Γ.N.findIdx? (· == y),cA (cE bJ Γ) [a,b]with
       |some i,gV j,gV es=>if !(i==j)&&(Γ.sc.lookup x==gV .local)&&(Γ.sc.lookup y==gV .local)&&(py.line==C.line) && !([a,b].all (foldedForSure 8)) && !([a,b].all (constantsAlone 8))then gV (Sm.par i j es)else td
       |_,_,_=>td)=gV g->GS X (.Assign [.Tuple [.Name x C,.Name y py] k q] (.Tuple [a,b] T V) p) (fR M fuel g):=λ{x y C py a b T V} h=>by
      split at h
      ·rename_i i j es d f w;split at h
       ·rename_i hc;cases h;rw[Kc,Kc,Kc,Kc,Kc]at hc;obtain⟨⟨⟨⟨⟨W,P⟩,Q⟩,c4⟩,c5⟩,c6⟩:=hc;have B:i≠j:=by simpa using W
        have ns:=bP w;rw[Ls,Ls,Kc,Kc]at ns;have hi:X.N[i]?=gV x:=by rw[K.N];show c8 d
        have hj:X.N[j]?=gV y:=by rw[K.N];show c8 f
        show Er K.calm hN hi hj B (by rw[K.names];show eq_of_beq P) (by rw[K.names];show eq_of_beq Q) (cL (λz=>(bI _ K z).1) w) (qe K ?_ (eq_of_beq P) (eq_of_beq Q) c4 (by rw[<- Nw];show c5) (by rw[<- Nw];show c6) ns.1 ns.2.1) rfl
        rintro rfl;rw[d]at f;cases f;show B rfl
       ·cases h
      ·cases h
     replace h:(if isTup e then Ey Γ r e else if jo e then td else match FJ Γ r,cE bJ Γ e with|some is,gV m=>gV (Sm.asg is m)|_,_=>td)=gV g:=h
     split at h
     ·unfold Ey at h;split at h
      ·show N h
      ·cases h
     ·split at h
      ·cases h
      ·rename_i G L;split at h
       ·rename_i is m d f;cases h;show rL (bI _ K f).1 (tZ (tg:=.Tuple r k q) (t:=.tp is) K (by simp[cT,d])) (kY (t:=gV (.Tuple r k q)) (l:=p.line) (env:=X.env) (by simpa using L) _ f) ?_ rfl
        cases e<;>first|rfl|show absurd rfl G
       ·cases h
    |_=>show aH h
  |_=>show aH h
end
structure Df where
 ps:J2 KG
 N:J2 KG
 body:Ss
abbrev eZ (N:J2 KG)(ws:J2 W):Fm:=ws.map gV++KU (↥N-↥ws) td
abbrev ar (defs:J2 (KG×Df))(fuel:Kb):Kb->KG->FF
 |0,_,_,_=>td
 |d+1,f,ws,S=>match defs.lookup f with
  |some df=>if ↥ws=↥df.ps then match fS (ar defs fuel d) fuel df.body (eZ df.N ws) S with
    |some (.rt w,S')=>gV (w,S')
    |some (.nx _,S')=>gV (.non,S')
    |_=>td
   else td
  |none=>td
structure Md where
 fns:J2 (KG×Kb)
 blt:J2 KG
abbrev yu (a:Md)(st:Nb)(N:J2 KG):Gam:={sc:=(aP st).names,N:=N,fns:=a.fns,blt:=a.blt,dfn:=true}
abbrev GX (a:Md)(st:Nb)(df:Df):Prop:=ud (cS 20 (yu a st df.N)) (b6 st)=gV df.body
def mK {K:Km}{A:J2 Kf}{H:Hp}{ws:J2 W}{vs:J2 V}{N:J2 KG}(r:RelL K A H ws vs):EnvRel K A H (eZ N ws) (start N vs):=by
 show#[by simp[eZ,L2.start,↥r],λi w h=>?_]
 unfold eZ at h;unfold L2.start
 by_cases hi:i<↥ws
 ·rw[Lf (by simpa using hi),Kg]at h
  rw[Lf (by rw[J4,<- ↥r];show hi),Kg]
  cases q:ws[i]? with
  |none=>rw[q]at h;cases h
  |some c=>
   rw[q]at h;simp only[KM,K1]at h;subst h;obtain⟨v,a,b⟩:=r.get q;show#[v,by rw[a];rfl,b]
 ·rw[Lv (by simpa using hi)]at h
  have:=Kt h;simp at this
section
variable{P:KQ}{w:K8}{K:Km}{mg:KG->J9 J5}{base:Lh}
abbrev CU (P:KQ)(w:K8)(K:Km)(mg:KG->J9 J5)(base:Lh)(a:Md)(defs:J2 (KG×Df))(fuel d:Kb):Prop:=
 ∀f n,a.fns.lookup f=gV n->∃b c ps,FnOk P w K mg base v4 d b c ps (spF w K n (ar defs fuel d f))/\mg f=gV (.ref b)/\LY K (.ref b)=true/\Binds K c ps []
structure MdOk (w:K8)(K:Km)(mg:KG->J9 J5)(Mqa:Md):Prop where
 blt:∀y∈Mqa.blt,mg y=td
def CV {b:Md}{defs:J2 (KG×Df)}{fuel d:Kb}{x c:KG}{st:Nb}{f:Kf}{r:MR}{df:Df}(F:Fun K x c st f r)(S:FnScope df.N df.ps (aP st))(hd:defs.lookup x=gV df)(hc:GX b st df)
  (J:MdOk w K mg b) (k:CU P w K mg base b defs fuel d):FnOk P w K mg base v4 (d+1) f r df.ps (spF w K ↥df.ps (ar defs fuel (d+1) x)):=by
 show F.ok S (λvs H Q E h=>?_) (λcdv A outer s H vs Q E u h=>?_)
 ·obtain⟨A,S,ws,M,S',_,l,hl,_⟩:=h;rw[<- ↥l];show hl
 ·obtain⟨p,q,ws,M,S',y,l,hl,e,t⟩:=h;have B:CtxOk (ar defs fuel d) (rf v4 P w K mg base df.N c (aP st) f cdv A outer s H E).nox (yu b st df.N):=by
   show#[rfl,S.kind,rfl,S.nd,rfl,rfl,?_,λ_ _=>rfl,J.blt,λg n L=>?_]
   ·have:=u.un;show(A.deeper _).units+20<cLine;omega
   ·obtain⟨C,m,o,j,D,G,I⟩:=k g n L;show#[d,C,m,o,j,u,D,G,I]
  show#[tS _ (fS (ar defs fuel d) fuel df.body),gr (λz=>BQ fuel B 20 z) hc,?_]
  simp only[ar,hd]at e;rw[KC hl]at e;split at e
  ·rename_i O S1 j;cases e;show#[p,eZ df.N ws,q,_,_,mK l,y,j,#[λi a #[_,_,z,_,_,_]=>(by cases z),λv a #[w2,A2,z0,z1,z2,z3]=>?_,λi a #[_,_,z,_,_,_]=>(by cases z),λi a #[_,_,z,_,_,_]=>(by cases z)]]
   cases z0;show t v a #[A2,z1,z2,z3]
  ·rename_i N S1 j;cases e;show#[p,eZ df.N ws,q,_,_,mK l,y,j,#[λi a #[w2,A2,z0,z1,z2,z3]=>?_,λi a #[_,_,z,_,_,_]=>(by cases z),λi a #[_,_,z,_,_,_]=>(by cases z),λi a #[_,_,z,_,_,_]=>(by cases z)]]
   show t _ a #[A2,z1,z2,.non]
  ·cases e
def vE {H:Hp}{a:Kf}{ns:J2 Ki}(f:w6 H)(g:SqL K H a (ns.map V.int)):StoreOk w K [a] H [.fro (ns.map W.int)]/\RelL K [a] H [.ref 0] [.ref a]:=by
 have k:∀ns:J2 Ki,RelL K [a] H (ns.map W.int) (ns.map V.int):=by
  intro ns
  induction ns with
  |nil=>show .nil
  |cons n ns ih=>show .cons .int ih
 have e:FroL K H a (ns.map V.int):=by
  rcases g with(h|⟨o,h⟩)|h
  ·rcases f a with z|⟨o,xs,z⟩<;>(rw[z]at h;cases h)
  ·show .inl #[o,h]
  ·show .inr h
 show#[#[rfl,λi j b o u c m1 d m2 _ _=>?_,λi o b c d=>?_],.cons (.ref rfl) .nil]
 ·cases i with
  |zero=>simp at c;subst c;cases m1
  |succ i=>simp at c
 ·cases i with
  |zero=>
   simp at c d;subst c d;show#[_,e,k ns]
  |succ i=>simp at c
def Ez {g:FF}{H:Hp}{a:Kf}{ns:J2 Ki}(h:∃S',g [.ref 0] [.fro (ns.map W.int)]=gV (.bl true,S'))(b:w6 H)(c:SqL K H a (ns.map V.int)):spF w K 1 g [.ref a] H (λv _=>v=.bl true) λ_ _ _=>LM:=by
 obtain⟨S',e⟩:=h;obtain⟨f,d⟩:=vE b c;show#[[a],_,_,_,S',f,d,rfl,e,λv j #[i,z1,z2,z3]=>by cases z3;rfl]
end
abbrev Wp {α:Type}(o:J9 α)(Q:α->Prop):Prop:=∃a,o=gV a/\Q a
def af {α:Type}{a:α}{Q:α->Prop}:Wp (gV a) Q↔Q a:=#[λ#[b,e,h]=>(by cases e;show h),λh=>#[a,rfl,h]]
def ag {α:Type}{Q:α->Prop}:Wp (td:J9 α) Q↔LM:=#[λ#[b,e,h]=>(by cases e),λh=>h.elim]
def Wp.mono {α:Type}{o:J9 α}{Q b:α->Prop}(h:Wp o Q)(k:∀a,Q a->b a):Wp o b:=let ⟨a,e,q⟩:=h;#[a,e,k a q]
section
variable{M:KG->FF}{fuel:Kb}{Z:Fm}{S:aa}
noncomputable abbrev QW:=W×aa->Prop
def JW {w:W}{Q:QW}:Wp (aB M (.c w) Z S) Q↔Q (w,S):=by(delta aB;simp[fC,af,ag])
def JH {i:Kb}{Q:QW}:Wp (aB M (.v i) Z S) Q↔∃w,Z[i]?=gV (gV w)/\Q (w,S):=by
 (delta aB;revert fV)
 rcases h:Z[i]? with _|_|w<;>simp[af,ag]
def yv {g:W->W->aa->J9 (W×aa)}{a b:FE}{Q:QW}:Wp (AY g a b Z S) Q↔Wp (a Z S) λp=>Wp (b Z p.2) λq=>Wp (g p.1 q.1 q.2) Q:=by
 unfold AY;rcases h:a Z S with _|⟨x,S1⟩
 ·simp[af,ag]
 ·rcases c:b Z S1 with _|⟨y,d⟩<;>simp[af,ag,c]
def Je {o:BOp}{a b:E}{Q:QW}:Wp (aB M (.op o a b) Z S) Q↔Wp (aB M a Z S) λp=>Wp (aB M b Z p.2) λq=>Wp (gN o p.1 q.1 q.2) Q:=by delta aB;show yv
def CW {o:COp}{a b:E}{Q:QW}:Wp (aB M (.cmp o a b) Z S) Q↔Wp (aB M a Z S) λp=>Wp (aB M b Z p.2) λq=>Wp (bh o p.1 q.1 q.2) Q:=by delta aB;show yv
def Jf {a b:E}{Q:QW}:Wp (aB M (.ix a b) Z S) Q↔Wp (aB M a Z S) λp=>Wp (aB M b Z p.2) λq=>Wp (ph p.1 q.1 q.2) Q:=by delta aB;show yv
def GY {a b:E}{Q:QW}:Wp (aB M (.and a b) Z S) Q↔Wp (aB M a Z S) λp=>∃k,p.1=.bl k/\(k=true->Wp (aB M b Z p.2) Q)/\(k=false->Q (.bl false,p.2)):=by
 (delta aB;revert tz)
 rcases h:aB M a Z S with _|⟨x,S1⟩
 ·simp[af,ag]
 ·cases x<;>simp[af,ag]
  rename_i b;cases b<;>simp[af,ag]
def Jg {a b:E}{Q:QW}:Wp (aB M (.or a b) Z S) Q↔Wp (aB M a Z S) λp=>∃k,p.1=.bl k/\(k=true->Q (.bl true,p.2))/\(k=false->Wp (aB M b Z p.2) Q):=by
 (delta aB;revert Bb)
 rcases h:aB M a Z S with _|⟨x,S1⟩
 ·simp[af,ag]
 ·cases x<;>simp[af,ag]
  rename_i b;cases b<;>simp[af,ag]
def GZ {a:E}{Q:QW}:Wp (aB M (.not a) Z S) Q↔Wp (aB M a Z S) λp=>∃k,p.1=.bl k/\Q (.bl (!k),p.2):=by
 (delta aB;revert tB)
 rcases h:aB M a Z S with _|⟨x,S1⟩
 ·simp[af,ag]
 ·cases x<;>simp[af,ag]
  rename_i k;cases k<;>simp
def CY {f:KG}{n:Kb}{es:Es}{Q:QW}:Wp (aB M (.own f n es) Z S) Q↔Wp (cC M es Z S) λp=>↥p.1=n/\Wp (M f p.1 p.2) Q:=by
 (delta aB;revert pQ)
 rcases h:cC M es Z S with _|⟨x,S1⟩
 ·simp[af,ag]
 ·by_cases hl:↥x=n<;>simp[af,ag,hl]
def G0 {b:Bi}{es:Es}{Q:QW}:Wp (aB M (.bi b es) Z S) Q↔Wp (cC M es Z S) λp=>Wp (b.fn p.1 p.2) Q:=by
 (delta aB;revert ft)
 rcases h:cC M es Z S with _|⟨x,S1⟩<;>simp[af,ag]
def Jh {m:Me}{o:E}{es:Es}{Q:QW}:Wp (aB M (.me m o es) Z S) Q↔Wp (aB M o Z S) λp=>tyOk m.ty p.2 p.1=true/\Wp (cC M es Z p.2) λq=>Wp (m.fn p.1 q.1 q.2) Q:=by
 (delta aB;revert FD)
 rcases h:aB M o Z S with _|⟨x,S1⟩
 ·simp[af,ag]
 ·by_cases a:tyOk m.ty S1 x=true
  ·rcases b:cC M es Z S1 with _|⟨y,c⟩<;>simp[af,ag,a,b]
  ·simp[af,ag,a]
def Ji {a:E}{lo hi:Ep}{Q:QW}:Wp (aB M (.sl a lo hi) Z S) Q↔Wp (aB M a Z S) λp=>Wp (tV M lo Z p.2) λq=>Wp (tV M hi Z q.2) λr=>Wp (rC p.1 q.1 r.1 r.2) Q:=by
 (delta aB;revert GB)
 rcases h:aB M a Z S with _|⟨x,S1⟩
 ·simp[af,ag]
 ·rcases b:tV M lo Z S1 with _|⟨y,c⟩
  ·simp[af,ag,b]
  ·rcases d:tV M hi Z c with _|⟨z,e⟩<;>simp[af,ag,b,d]
def Jj {Q:J9 Ki×aa->Prop}:Wp (tV M .no Z S) Q↔Q (td,S):=by(delta tV;simp[Ej,af,ag])
def G1 {a:E}{Q:J9 Ki×aa->Prop}:Wp (tV M (.yes a) Z S) Q↔Wp (aB M a Z S) λp=>∃i,p.1=.int i/\Q (gV i,p.2):=by
 (delta tV;revert tF)
 rcases h:aB M a Z S with _|⟨x,S1⟩
 ·simp[af,ag]
 ·cases x<;>simp[af,ag]
def G2 {es:Es}{Q:QW}:Wp (aB M (.tup es) Z S) Q↔Wp (cC M es Z S) λp=>↥p.1<=sizeLine/\Q (.tup p.1,p.2):=by
 (delta aB;revert xM rs)
 rcases h:cC M es Z S with _|⟨x,S1⟩
 ·simp[af,ag]
 ·by_cases hl:↥x<=sizeLine<;>simp[af,ag,hl]
def G3 {es:Es}{Q:QW}:Wp (aB M (.lst es) Z S) Q↔Wp (cC M es Z S) λp=>↥p.1<=sizeLine/\Q (.ref ↥p.2,p.2++[.lst p.1]):=by
 (delta aB;revert xN lN)
 rcases h:cC M es Z S with _|⟨x,S1⟩
 ·simp[af,ag]
 ·by_cases hl:↥x<=sizeLine<;>simp[af,ag,hl]
def CZ {c:LV}{a:E}{Q:QW}:Wp (aB M (.isi c a) Z S) Q↔Wp (aB M a Z S) λp=>∃k,z7 p.2 p.1 c=gV k/\Q (.bl k,p.2):=by
 (delta aB;revert xW)
 rcases h:aB M a Z S with _|⟨x,S1⟩
 ·simp[af,ag]
 ·cases b:z7 S1 x c<;>simp[af,ag,b]
  rename_i k;cases k<;>simp
def G4 {a:E}{Q:QW}:Wp (aB M (.neg a) Z S) Q↔Wp (aB M a Z S) λp=>∃i,p.1=.int i/\Q (.int (-i),p.2):=by
 (delta aB;revert xG)
 rcases h:aB M a Z S with _|⟨x,S1⟩
 ·simp[af,ag]
 ·cases x<;>simp[af,ag]
def EA {es:Es}{Q:QW}:Wp (aB M (.disp es) Z S) Q↔Wp (cC M es Z (S++[.dic []])) λp=>p.2[↥S]?=gV (.dic [])/\∃U,de [] p.1=gV U/\Q (.ref ↥S,p.2.set ↥S (.dic U)):=by
 have e:aB M (.disp es) Z S=pV (cC M es) Z S:=by delta aB
 rw[e];unfold pV;cases cC M es Z (S++[.dic []])with
 |none=>simp[ag]
 |some p=>
  obtain⟨x,S1⟩:=p;revert af;cases c:S1[↥S]? with
  |none=>simp[ag]
  |some o=>
   cases o with
   |lst _=>simp[ag]
   |fro _=>simp[ag]
   |frd _=>simp[ag]
   |sti _=>simp[ag]
   |dik _=>simp[ag]
   |rng _ _=>simp[ag]
   |dic U=>
    cases U with
    |nil=>cases d:de [] x<;>simp[af,ag]
    |cons a b=>simp[ag]
def C0 {o c:COp}{a b d:E}{Q:QW}(h:Wp (aB M a Z S) λp=>Wp (aB M b Z p.2) λq=>∃k,rB o p.1 q.1 q.2=gV k/\(k=true->Wp (aB M d Z q.2) λr=>Wp (cD c q.1 r.1 r.2) Q)/\(k=false->Q (.bl false,q.2))):Wp (aB M (.chn o c a b d) Z S) Q:=by
 obtain⟨⟨x,S1⟩,f,⟨y,s⟩,g,k,i,m,n⟩:=h;have e:aB M (.chn o c a b d) Z S=fM o c (aB M a) (aB M b) (aB M d) Z S:=by delta aB
 rw[e];unfold fM;rw[f];dsimp only;rw[g];dsimp only;rw[i];cases k with
 |false=>show#[_,rfl,n rfl]
 |true=>
  obtain⟨⟨z,t⟩,j,⟨r,l,q⟩⟩:=m rfl;dsimp only;rw[j];show#[_,l,q]
def G5 {Q:J2 W×aa->Prop}:Wp (cC M .nil Z S) Q↔Q ([],S):=by(delta cC;simp[fN,af,ag])
def EB {e:E}{es:Es}{Q:J2 W×aa->Prop}:Wp (cC M (.cons e es) Z S) Q↔Wp (aB M e Z S) λp=>Wp (cC M es Z p.2) λq=>Q (p.1::q.1,q.2):=by
 (delta cC;revert cu)
 rcases h:aB M e Z S with _|⟨x,S1⟩
 ·simp[af,ag]
 ·rcases a:cC M es Z S1 with _|⟨y,b⟩<;>simp[af,ag,a]
noncomputable abbrev QB:=KR×aa->Prop
def C3 {f:FE}{Q:QB}:Wp (pN f Z S) Q↔Wp (f Z S) λp=>∃k,p.1=.bl k/\Q (k,p.2):=by
 unfold pN;rcases h:f Z S with _|⟨x,S1⟩
 ·simp[af,ag]
 ·cases x<;>simp[af,ag]
  rename_i k;cases k<;>simp
def ue {f:FE}{Q:QB}:Wp (gI f Z S) Q↔Wp (f Z S) λp=>∃k,dJ p.2 p.1=gV k/\Q (k,p.2):=by
 unfold gI;rcases h:f Z S with _|⟨x,S1⟩
 ·simp[af,ag]
 ·cases a:dJ S1 x<;>simp[af,ag,a]
  rename_i k;cases k<;>simp
def G6 {o:COp}{a b:E}{Q:QB}:Wp (cJ M (.cmp o a b) Z S) Q↔Wp (aB M (.cmp o a b) Z S) λp=>∃k,p.1=.bl k/\Q (k,p.2):=by delta cJ aB;show C3
def G7 {o c:COp}{a b d:E}{Q:QB}:Wp (cJ M (.chn o c a b d) Z S) Q↔Wp (aB M (.chn o c a b d) Z S) λp=>∃k,p.1=.bl k/\Q (k,p.2):=by delta cJ aB;show C3
def G8 {a b:E}{Q:QB}:Wp (cJ M (.and a b) Z S) Q↔Wp (cJ M a Z S) λp=>(p.1=true->Wp (cJ M b Z p.2) Q)/\(p.1=false->Q (false,p.2)):=by
 (delta cJ;revert xK)
 rcases h:cJ M a Z S with _|⟨x,S1⟩
 ·simp[af,ag]
 ·cases x<;>simp[af,ag]
def Jk {a b:E}{Q:QB}:Wp (cJ M (.or a b) Z S) Q↔Wp (cJ M a Z S) λp=>(p.1=true->Q (true,p.2))/\(p.1=false->Wp (cJ M b Z p.2) Q):=by
 (delta cJ;revert Gx)
 rcases h:cJ M a Z S with _|⟨x,S1⟩
 ·simp[af,ag]
 ·cases x<;>simp[af,ag]
def G9 {a:E}{Q:QB}:Wp (cJ M (.not a) Z S) Q↔Wp (cJ M a Z S) λp=>Q (!p.1,p.2):=by
 (delta cJ;revert A6)
 rcases h:cJ M a Z S with _|⟨x,S1⟩<;>simp[af,ag]
def JX {i:Kb}{Q:QB}:Wp (cJ M (.v i) Z S) Q↔Wp (aB M (.v i) Z S) λp=>∃k,dJ p.2 p.1=gV k/\Q (k,p.2):=by delta cJ aB;show ue
def Ha {f:KG}{n:Kb}{es:Es}{Q:QB}:Wp (cJ M (.own f n es) Z S) Q↔Wp (aB M (.own f n es) Z S) λp=>∃k,dJ p.2 p.1=gV k/\Q (k,p.2):=by delta cJ aB;show ue
def Jl {b:Bi}{es:Es}{Q:QB}:Wp (cJ M (.bi b es) Z S) Q↔Wp (aB M (.bi b es) Z S) λp=>∃k,dJ p.2 p.1=gV k/\Q (k,p.2):=by delta cJ aB;show ue
def Hb {c:LV}{a:E}{Q:QB}:Wp (cJ M (.isi c a) Z S) Q↔Wp (aB M (.isi c a) Z S) λp=>∃k,dJ p.2 p.1=gV k/\Q (k,p.2):=by delta cJ aB;show ue
noncomputable abbrev QO:=Out×aa->Prop
def Hc {Q:QO}:Wp (fS M fuel .nil Z S) Q↔Q (.nx Z,S):=by(delta fS;simp[af,ag])
def EC {s:Sm}{ss:Ss}{Q:QO}:Wp (fS M fuel (.cons s ss) Z S) Q↔Wp (fR M fuel s Z S) λp=>(∀a,p.1=.nx a->Wp (fS M fuel ss a p.2) Q)/\((∀a,p.1≠.nx a)->Q p):=by
 (delta fS;revert Bh)
 rcases h:fR M fuel s Z S with _|⟨o,S1⟩
 ·simp[af,ag]
 ·cases o<;>simp[af,ag]
def yw {f:FE}{g:FG}{Q:QO}:Wp (kK f g Z S) Q↔Wp (f Z S) λp=>Wp (g p.1 Z p.2) λq=>Q (.nx q.1,q.2):=by
 unfold kK;rcases h:f Z S with _|⟨x,S1⟩
 ·simp[af,ag]
 ·rcases a:g x Z S1 with _|⟨y,b⟩<;>simp[af,ag,a]
def ED {i:Kb}{e:E}{Q:QO}:Wp (fR M fuel (.set i e) Z S) Q↔Wp (aB M e Z S) λp=>Q (.nx (Z.set i (gV p.1)),p.2):=by
 delta fR;rw[yw];simp[CL,af,ag]
def EE {is:J2 Kb}{e:E}{Q:QO}:Wp (fR M fuel (.asg is e) Z S) Q↔Wp (aB M e Z S) λp=>∃ws a,p.1=.tup ws/\dc is ws Z=gV a/\Q (.nx a,p.2):=by
 delta fR;rw[yw]
 constructor
 ·show λh=>h.mono λp d=>?_
  obtain⟨w,S1⟩:=p;obtain⟨q,b,c⟩:=d;cases w with
  |tup ws=>
   simp only[FH,J6]at b;obtain⟨a,g,rfl⟩:=b;show#[ws,a,rfl,g,c]
  |_=>cases b
 ·show λh=>h.mono λp d=>?_
  obtain⟨w,S1⟩:=p;obtain⟨ws,a,f,b,c⟩:=d;subst f;show#[(a,S1),by simp[FH,b],c]
def EF {i j:Kb}{es:Es}{Q:QO}:Wp (fR M fuel (.par i j es) Z S) Q↔Wp (cC M es Z S) λp=>∃x y,p.1=[x,y]/\Q (.nx ((Z.set i (gV x)).set j (gV y)),p.2):=by
 (delta fR;revert Bq)
 rcases h:cC M es Z S with _|⟨x,S1⟩
 ·simp[ag]
 ·match x with
  |[]=>simp[af,ag]
  |[_]=>simp[af,ag]
  |[a,b]=>
   revert af;show#[λh=>#[a,b,rfl,h],λ#[x,y,e,h]=>by cases e;show h]
  |_::_::_::_=>simp[af,ag]
def EG {o k e:E}{Q:QO}:Wp (fR M fuel (.put o k e) Z S) Q↔Wp (aB M e Z S) λp=>Wp (aB M o Z p.2) λq=>Wp (aB M k Z q.2) λr=>∃S',gZ q.1 r.1 p.1 r.2=gV S'/\Q (.nx Z,S'):=by
 delta fR;rw[yw]
 rcases h:aB M e Z S with _|⟨x,S1⟩
 ·simp[af,ag]
 ·revert af;unfold Bp;rcases f:aB M o Z S1 with _|⟨y,b⟩
  ·simp[af,ag]
  ·rcases a:aB M k Z b with _|⟨z,c⟩
   ·simp[af,ag,a]
   ·cases d:gZ y z x c<;>simp[af,ag,a,d]
def Hd {e:E}{Q:QO}:Wp (fR M fuel (.ex e) Z S) Q↔Wp (aB M e Z S) λp=>Q (.nx Z,p.2):=by
 (delta fR;revert Bj)
 rcases h:aB M e Z S with _|⟨x,S1⟩<;>simp[af,ag]
def EH {e:E}{Q:QO}:Wp (fR M fuel (.ret e) Z S) Q↔Wp (aB M e Z S) λp=>Q (.rt p.1,p.2):=by
 (delta fR;revert Bm)
 rcases h:aB M e Z S with _|⟨x,S1⟩<;>simp[af,ag]
def EI {t:E}{a b:Ss}{Q:QO}:Wp (fR M fuel (.ite t a b) Z S) Q↔Wp (cJ M t Z S) λp=>(p.1=true->Wp (fS M fuel a Z p.2) Q)/\(p.1=false->Wp (fS M fuel b Z p.2) Q):=by
 (delta fR;revert Bo)
 rcases h:cJ M t Z S with _|⟨x,S1⟩
 ·simp[af,ag]
 ·cases x<;>simp[af,ag]
abbrev yy (I:Fm->aa->Prop)(Q:QO)(o:Out×aa):Prop:=match o.1 with
 |.nx a=>I a o.2
 |.ct a=>I a o.2
 |.bk a=>Q (.nx a,o.2)
 |.rt w=>Q (.rt w,o.2)
def jp {mi:MI}{g:FG}{b:FS}{xs:J2 W}{Q:QO}(I:Kb->Fm->aa->Prop)(d:∀i Z S,I i Z S->mi.at S i=gV xs[i]?)
  (a:∀i w Z S,xs[i]?=gV w->I i Z S->Wp (g w Z S) λq=>Wp (b q.1 q.2) (yy (I (i+1)) Q)) (c:∀Z S,I ↥xs Z S->Q (.nx Z,S)):∀(n i:Kb) (Z:Fm) (S:aa),i+n=↥xs->I i Z S->Wp (fO mi g b n i Z S) Q
 |0,i,Z,S,hl,f=>by
  have e:mi.at S i=gV td:=by rw[d i Z S f,PZ ∅]
  revert fO e;have hi:i=↥xs:=∅
  show af.mpr (c Z S (hi▸f))
 |n+1,i,Z,S,hl,f=>by
  have hi:i<↥xs:=∅
  have e:mi.at S i=gV (gV xs[i]):=by rw[d i Z S f,Ke hi]
  obtain⟨⟨p,S1⟩,l,⟨o,k⟩,m,j⟩:=a i xs[i] Z S (Ke hi) f;revert fO e l m;cases o with
  |nx h=>show jp I d a c n (i+1) h k ∅ j
  |ct h=>show jp I d a c n (i+1) h k ∅ j
  |bk h=>show af.mpr j
  |rt w=>show af.mpr j
def He {a:FI}{g:FG}{b:FS}{Q:QO}:Wp (xU a g b Z S) Q↔Wp (a Z S) λp=>∃n,p.1.len p.2=gV n/\Wp (fO p.1 g b n 0 Z p.2) Q:=by
 unfold xU;rcases h:a Z S with _|⟨mi,S1⟩
 ·simp[ag]
 ·cases c:mi.len S1<;>simp[af,ag,c]
def du {mi:MI}{g:FG}{c:FT}{f:FE}{xs:J2 W}{Q:J2 W×aa->Prop}(I:Kb->J2 W->Fm->aa->Prop)(d:∀i ys Z S,I i ys Z S->mi.at S i=gV xs[i]?)
  (a:∀i w ys Z S,xs[i]?=gV w->I i ys Z S->Wp (g w Z S) λq=>Wp (c q.1 q.2) λk=>(k.1=true->Wp (f q.1 k.2) λy=>I (i+1) (ys++[y.1]) q.1 y.2)/\(k.1=false->I (i+1) ys q.1 k.2))
  (b:∀ys Z S,I ↥xs ys Z S->Q (ys,S)):∀(n i:Kb) (ys:J2 W) (Z:Fm) (S:aa),i+n=↥xs->I i ys Z S->Wp (bw mi g c f n i Z S) λp=>Q (ys++p.1,p.2)
 |0,i,ys,Z,S,hl,h=>by
  have e:mi.at S i=gV td:=by rw[d i ys Z S h,PZ ∅]
  revert bw e;show af.mpr ?_;have:i=↥xs:=∅
  simpa using b ys Z S (this▸h)
 |n+1,i,ys,Z,S,hl,h=>by
  have hi:i<↥xs:=∅
  have e:mi.at S i=gV (gV xs[i]):=by rw[d i ys Z S h,Ke hi]
  obtain⟨⟨j,S1⟩,o,⟨k,l⟩,r,s,t⟩:=a i xs[i] ys Z S (Ke hi) h;revert bw e o r;cases k with
  |true=>
   obtain⟨⟨y,m⟩,u,v⟩:=s rfl;revert u;obtain⟨⟨zs,A⟩,x,z⟩:=du I d a b n (i+1) (ys++[y]) j m ∅ v
   revert x;show af.mpr (by simpa using z)
  |false=>show du I d a b n (i+1) ys j l ∅ (t rfl)
def yz {b:E}{tg:Tg}{it:Ie}{c:Es}{a:J2 (J9 Kb)}{Q:QW}:Wp (aB M (.comp b tg it c a) Z S) Q↔Wp (i6 M it Z S) λp=>∃n,p.1.len p.2=gV n/\Wp (bw p.1 (gh tg) (BM M c) (aB M b) n 0 (dO a Z) p.2) λq=>↥q.1<=sizeLine/\Q (.ref ↥q.2,q.2++[.lst q.1]):=by
 (delta aB;revert kQ lN)
 rcases h:i6 M it Z S with _|⟨mi,S1⟩
 ·simp[ag]
 ·rcases d:mi.len S1 with _|n
  ·simp[af,ag,d]
  ·rcases e:bw mi (gh tg) (BM M c) (aB M b) n 0 (dO a Z) S1 with _|⟨ys,f⟩
   ·simp[af,ag,d,e]
   ·by_cases hl:↥ys<=sizeLine<;>simp[af,ag,d,e,hl]
def Hf {Q:QB}:Wp (BM M .nil Z S) Q↔Q (true,S):=by(delta BM;simp[CN,af])
def Hg {e:E}{Q:QB}:Wp (BM M #v[e] Z S) Q↔Wp (cJ M e Z S) Q:=by delta BM;show T3
def kZ {c:FT}{b:FS}{Q:QO}(I:Kb->Fm->aa->Prop)(a:∀m Z S,I m Z S->Wp (c Z S) λk=>(k.1=true->∃d,m=d+1/\Wp (b Z k.2) (yy (I d) Q))/\(k.1=false->Q (.nx Z,k.2))) :
  ∀(n m:Kb) (Z:Fm) (S:aa),m<n->I m Z S->Wp (nQ c b n Z S) Q
 |0,m,Z,S,h,_=>∅
 |n+1,m,Z,S,h,q=>by
  obtain⟨⟨k,S1⟩,i,j,l⟩:=a m Z S q;revert nQ i;cases k with
  |false=>show af.mpr (l rfl)
  |true=>
   obtain⟨d,rfl,⟨o,g⟩,p,f⟩:=j rfl;revert p;cases o with
   |nx e=>show kZ I a n d e g ∅ f
   |ct e=>show kZ I a n d e g ∅ f
   |bk e=>show af.mpr f
   |rt w=>show af.mpr f
def vF {defs:J2 (KG×Df)}{d:Kb}{f:KG}{ws:J2 W}{df:Df}{Q:QW}(h:defs.lookup f=gV df)(hl:↥ws=↥df.ps)
  (c:Wp (fS (ar defs fuel d) fuel df.body (eZ df.N ws) S) λp=>match p.1 with|.rt w=>Q (w,p.2)|.nx _=>Q (.non,p.2)|_=>LM):Wp (ar defs fuel (d+1) f ws S) Q:=by
 obtain⟨⟨o,S1⟩,b,a⟩:=c;simp only[ar,h,KC hl,b];cases o with
 |rt w=>show af.mpr a
 |nx Z=>show af.mpr a
 |bk _=>show a.elim
 |ct _=>show a.elim
end
section
variable{S:aa}{Q:QW}
def d7 {a b:Ki}:gN .add (.int a) (.int b) S=gV (.int (a+b),S):=rfl
def mL {a b:Ki}:gN .sub (.int a) (.int b) S=gV (.int (a-b),S):=rfl
def nZ {c:Ki->Ki->KR}{f:Ki->Ki->Ki}{i j:Ki}(h:c i j=true):z5 c f (.int i) (.int j) S=gV (.int (f i j),S):=by
 unfold z5;dsimp only;rw[KC h]
def uf {a b:Ki}(h : -(2^64)<b)(d:b<2^64):gN .mul (.int a) (.int b) S=gV (.int (a*b),S):=nZ (c:=u6) (f:=(· * ·)) (by
 unfold u6;revert Mp Kc KP;show .inr #[h,d])
def mM {a b:Ki}(h:0<b):gN .mod (.int a) (.int b) S=gV (.int (a % b),S):=nZ (c:=λ_ j=>decide (0<j)) (f:=(· % ·)) (Ld h)
def n6 {a b:Ki}(h:0<b)(d:b<1073741824):gN .fdiv (.int a) (.int b) S=gV (.int (a/b),S):=nZ (c:=λ_ j=>AD j) (f:=(· / ·)) (by
 unfold AD;revert Kc KP;show#[h,d])
def EJ:gN .pow (.int 10) (.int 18) S=gV (.int 1000000000000000000,S):=rfl
def EK {x y:KG}(h:↥x+↥y<=sizeLine):gN .add (.str x) (.str y) S=gV (.str (x++y),S):=by revert gN u7;rw[KC h]
def ib {xs ys:J2 W}(h:(xs++ys).length<=sizeLine):gN .add (.tup xs) (.tup ys) S=gV (.tup (xs++ys),S):=by revert gN u7 rs;rw[KC h]
def EM {i j:Kb}{xs ys:J2 W}(a:S[i]?=gV (.lst xs))(b:S[j]?=gV (.lst ys))(h:(xs++ys).length<=sizeLine):gN .add (.ref i) (.ref j) S=gV (.ref ↥S,S++[.lst (xs++ys)]):=by
 revert gN u7 mf a b lN;rw[KC h]
def la {a b:Ki}:bh .eq (.int a) (.int b) S=gV (.bl (a==b),S):=rfl
def EN {a b:Ki}:bh .ne (.int a) (.int b) S=gV (.bl (!(a==b)),S):=rfl
def EO {a b:Ki}:bh .lt (.int a) (.int b) S=gV (.bl (decide (a<b)),S):=rfl
def Hh {a b:Ki}:bh .gt (.int a) (.int b) S=gV (.bl (decide (a > b)),S):=rfl
def Jm {a b:Ki}:bh .ge (.int a) (.int b) S=gV (.bl (decide (a>=b)),S):=rfl
def aC {r:Kb}{xs:J2 W}(h:S[r]?=gV (.lst xs)):dU S r=gV xs:=by simp[dU,h]
def BR {r:Kb}{xs:J2 W}(h:S[r]?=gV (.fro xs)):dU S r=gV xs:=by simp[dU,h]
def cV {r:Kb}{xs:J2 W}(h:S[r]?=gV (.lst xs)):mf S r=gV xs:=by simp[mf,h]
def iN {r:Kb}{xs:J2 W}(h:S[r]?=gV (.lst xs)):gO S r=td:=by simp[gO,h]
def bQ {r:Kb}{U:J2 (T×W)}(h:S[r]?=gV (.dic U)):gO S r=gV U:=by simp[gO,h]
def og {r:Kb}{U:J2 (T×W)}(h:S[r]?=gV (.dic U)):dU S r=td:=by simp[dU,h]
def BS {r:Kb}{U:J2 (T×W)}(h:S[r]?=gV (.frd U)):gO S r=gV U:=by simp[gO,h]
def atI_nat {α:Type}{xs:J2 α}{j:Kb}{w:α}(h:xs[j]?=gV w):qU xs (j:Ki)=gV w:=by
 have hl:=(Ko.mp h).1;unfold qU vZ;rw[KC (Kq j),KC (by exact_mod_cast hl)]
 simpa using h
def oh {α:Type}{xs:J2 α}{i:Ki}{w:α}(a:0<=i)(h:xs[i.toNat]?=gV w):qU xs i=gV w:=by
 have:=atI_nat h
 rwa [Om a]at this
def yA {r:Kb}{xs:J2 W}{i:Ki}{w:W}(h:S[r]?=gV (.lst xs))(a:0<=i)(hw:xs[i.toNat]?=gV w):ph (.ref r) (.int i) S=gV (w,S):=by
 change sU (.ref r) (.int i) S=_;simp[sU,aC h,oh a hw]
def Hi {xs:J2 W}{i:Ki}{w:W}(a:0<=i)(hw:xs[i.toNat]?=gV w):ph (.tup xs) (.int i) S=gV (w,S):=by
 change sU (.tup xs) (.int i) S=_;simp[sU,oh a hw]
def Hj {x:KG}{i:Ki}{c:Kb}(b:↥x<=sizeLine)(a:0<=i)(hw:x.cps.toList[i.toNat]?=gV c):ph (.str x) (.int i) S=gV (.str #[[c].toArray],S):=by
 change sU (.str x) (.int i) S=_;simp[sU,b,oh a hw]
def C4 {r:Kb}{xs:J2 W}{i:Ki}{w:W}(h:S[r]?=gV (.lst xs))(a:0<=i)(hi:i.toNat<↥xs):gZ (.ref r) (.int i) w S=gV (S.set r (.lst (xs.set i.toNat w))):=by
 change o9 (.ref r) (.int i) w S=_;have:vZ ↥xs i=gV i.toNat:=by
  unfold vZ;rw[KC a,KC ∅]
 simp[o9,cV h,this]
def C5 {r:Kb}{xs:J2 W}(h:S[r]?=gV (.lst xs)):Bi.len.fn [.ref r] S=gV (.int ↥xs,S):=by
 simp[Bi.fn,qa,pI,iN h,kA,aC h]
def yB {r:Kb}{xs:J2 W}{y:W}(h:S[r]?=gV (.lst xs))(hl:↥xs<sizeLine):iD (.ref r) [y] S=gV (.non,S.set r (.lst (xs++[y]))):=by
 simp[iD,cV h,hl]
def Hk {r:Kb}{xs:J2 W}(h:S[r]?=gV (.lst xs)):jf [.ref r] S=gV (.tup xs,S):=by
 simp[jf,pc,h,kB,aC h]
def cM {r:Kb}{xs:J2 W}(h:S[r]?=gV (.lst xs)):tyOk "list" S (.ref r)=true:=by simp[tyOk,aC h]
def bm {r:Kb}{o a:O}(h:S[r]?=gV o):(S.set r a)[r]?=gV a:=by
 rw[Mx,KC rfl,KC (Ko.mp h).1]
def bc {r j:Kb}{a:O}(h:r≠j):(S.set r a)[j]?=S[j]?:=by rw[Mx,KS h]
def aj {o:O}:(S++[o])[↥S]?=gV o:=by simp
def au {j:Kb}{o u:O}(h:S[j]?=gV o):(S++[u])[j]?=gV o:=by rw[Lf (Ko.mp h).1];show h
def bF {j:Kb}{o:O}(h:S[j]?=gV o):j<↥S:=(Ko.mp h).1
structure Kp (r:Kb)(S S':aa):Prop where
 get:∀j o,j≠r->S[j]?=gV o->S'[j]?=gV o
 len:↥S<=↥S'
def Kp.refl {r:Kb}{S:aa}:Kp r S S:=#[λ_ _ _ h=>h,Kl _]
def Kp.trans {r:Kb}{S S' c:aa}(a:Kp r S S')(b:Kp r S' c):Kp r S c:=#[λj o n h=>b.get j o n (a.get j o n h),Lq a.len b.len]
def Kp.set {r:Kb}{S:aa}{o:O}:Kp r S (S.set r o):=#[λj u n h=>by rw[bc (Ne.symm n)];show h,by simp]
def Kp.push {r:Kb}{S:aa}{o:O}:Kp r S (S++[o]):=#[λj u n h=>au h,by simp]
def Kp.late {r t:Kb}{S0 S:aa}{o:O}(a:Kp r S0 S)(h:↥S0<=t):Kp r S0 (S.set t o):=
 #[λj u n e=>by
  have:=bF e;rw[bc ∅];show a.get j u n e,by simpa using a.len]
end
abbrev wO {α:Type}(o:J9 α)(Q:α->Prop):Prop:=match o with
 |some a=>Q a
 |none=>LM
def bG {α:Type}{o:J9 α}{Q:α->Prop}(h:wO o Q):Wp o Q:=by
 cases o with
 |none=>show h.elim
 |some a=>show#[a,rfl,h]
def Hl {α:Type}{o:J9 α}{Q:α->Prop}(h:Wp o Q):wO o Q:=by
 obtain⟨a,rfl,q⟩:=h;show q
def ac {α:Type}{o:J9 α}{a:α}{Q:α->Prop}(e:o=gV a)(h:Q a):wO o Q:=by subst e;show h
abbrev wB:W->(KR->Prop)->Prop
 |.bl k,Q=>Q k
 |_,_=>LM
abbrev wN:W->(Ki->Prop)->Prop
 |.int k,Q=>Q k
 |_,_=>LM
abbrev wU:W->(J2 W->Prop)->Prop
 |.tup k,Q=>Q k
 |_,_=>LM
def qf {w:W}{Q:KR->Prop}(h:wB w Q):∃k,w=.bl k/\Q k:=by cases w<;>first|show h.elim|show#[_,rfl,h]
def C6 {w:W}{Q:Ki->Prop}(h:wN w Q):∃k,w=.int k/\Q k:=by cases w<;>first|show h.elim|show#[_,rfl,h]
def Hm {w:W}{Q:J2 W->Prop}(h:wU w Q):∃k,w=.tup k/\Q k:=by cases w<;>first|show h.elim|show#[_,rfl,h]
abbrev w2:J2 W->(W->W->Prop)->Prop
 |[x,y],Q=>Q x y
 |_,_=>LM
def Hn {xs:J2 W}{Q:W->W->Prop}(h:w2 xs Q):∃x y,xs=[x,y]/\Q x y:=by
 match xs,h with
 |[x,y],h=>show#[x,y,rfl,h]
abbrev wG:J9 W->(W->Prop)->Prop
 |some w,Q=>Q w
 |none,_=>LM
abbrev wV:Fm->Kb->(W->Prop)->Prop
 |[],_,_=>LM
 |o::_,0,Q=>wG o Q
 |_::Z,n+1,Q=>wV Z n Q
def yC {Q:W->Prop}:∀{Z:Fm}{i:Kb},wV Z i Q->∃w,Z[i]?=gV (gV w)/\Q w
 |[],i,h=>h.elim
 |some w::Z,0,h=>#[w,rfl,h]
 |none::Z,0,h=>h.elim
 |x::Z,n+1,h=>by
  obtain⟨w,a,q⟩:=yC (Z:=Z) (i:=n) h;show#[w,a,q]
abbrev aL (M:KG->FF)(f:KG)(n:Kb)(ws:J2 W)(S:aa):J9 (W×aa):=if ↥ws=n then M f ws S else td
section
variable (M:KG->FF) (fuel:Kb)
mutual
def wE:E->Fm->aa->QW->Prop
 |.c w,_,S,Q=>Q (w,S)
 |.v i,Z,S,Q=>wV Z i λw=>Q (w,S)
 |.op o a b,Z,S,Q=>wE a Z S λp=>wE b Z p.2 λq=>wO (gN o p.1 q.1 q.2) Q
 |.cmp o a b,Z,S,Q=>wE a Z S λp=>wE b Z p.2 λq=>wO (bh o p.1 q.1 q.2) Q
 |.and a b,Z,S,Q=>wE a Z S λp=>wB p.1 λk=>(k=true->wE b Z p.2 Q)/\(k=false->Q (.bl false,p.2))
 |.or a b,Z,S,Q=>wE a Z S λp=>wB p.1 λk=>(k=true->Q (.bl true,p.2))/\(k=false->wE b Z p.2 Q)
 |.not a,Z,S,Q=>wE a Z S λp=>wB p.1 λk=>Q (.bl (!k),p.2)
 |.own f n es,Z,S,Q=>wA es Z S λp=>wO (aL M f n p.1 p.2) Q
 |.bi b es,Z,S,Q=>wA es Z S λp=>wO (b.fn p.1 p.2) Q
 |.me m o es,Z,S,Q=>wE o Z S λp=>tyOk m.ty p.2 p.1=true/\wA es Z p.2 λq=>wO (m.fn p.1 q.1 q.2) Q
 |.ix a b,Z,S,Q=>wE a Z S λp=>wE b Z p.2 λq=>wO (ph p.1 q.1 q.2) Q
 |.sl a lo hi,Z,S,Q=>wE a Z S λp=>wP lo Z p.2 λq=>wP hi Z q.2 λr=>wO (rC p.1 q.1 r.1 r.2) Q
 |.tup es,Z,S,Q=>wA es Z S λp=>Q (.tup p.1,p.2)
 |.lst es,Z,S,Q=>wA es Z S λp=>Q (.ref ↥p.2,p.2++[.lst p.1])
 |.isi c a,Z,S,Q=>wE a Z S λp=>wO (z7 p.2 p.1 c) λk=>Q (.bl k,p.2)
 |.neg a,Z,S,Q=>wE a Z S λp=>wN p.1 λi=>Q (.int (-i),p.2)
 |.dnew,_,S,Q=>Q (.ref ↥S,S++[.dic []])
 |.disp es,Z,S,Q=>wA es Z (S++[.dic []]) λp=>p.2[↥S]?=gV (.dic [])/\wO (de [] p.1) λU=>Q (.ref ↥S,p.2.set ↥S (.dic U))
 |.chn o o' a b d,Z,S,Q=>wE a Z S λp=>wE b Z p.2 λq=>wO (rB o p.1 q.1 q.2) λk=>(k=true->wE d Z q.2 λr=>wO (cD o' q.1 r.1 r.2) Q)/\(k=false->Q (.bl false,q.2))
 |.comp elt tg it cs cap,Z,S,Q=>Wp (aB M (.comp elt tg it cs cap) Z S) Q
def wT:E->Fm->aa->QB->Prop
 |.cmp o a b,Z,S,Q=>wE a Z S λp=>wE b Z p.2 λq=>wO (bh o p.1 q.1 q.2) λr=>wB r.1 λk=>Q (k,r.2)
 |.and a b,Z,S,Q=>wT a Z S λp=>(p.1=true->wT b Z p.2 Q)/\(p.1=false->Q (false,p.2))
 |.or a b,Z,S,Q=>wT a Z S λp=>(p.1=true->Q (true,p.2))/\(p.1=false->wT b Z p.2 Q)
 |.not a,Z,S,Q=>wT a Z S λp=>Q (!p.1,p.2)
 |.isi c a,Z,S,Q=>wE a Z S λp=>wO (z7 p.2 p.1 c) λk=>Q (k,p.2)
 |.c w,Z,S,Q=>Wp (cJ M (.c w) Z S) Q
 |.v i,Z,S,Q=>wV Z i λw=>wO (dJ S w) λk=>Q (k,S)
 |.op o a b,Z,S,Q=>Wp (cJ M (.op o a b) Z S) Q
 |.own f n es,Z,S,Q=>wA es Z S λp=>wO (aL M f n p.1 p.2) λq=>wO (dJ q.2 q.1) λk=>Q (k,q.2)
 |.bi b es,Z,S,Q=>wA es Z S λp=>wO (b.fn p.1 p.2) λq=>wO (dJ q.2 q.1) λk=>Q (k,q.2)
 |.me m o es,Z,S,Q=>Wp (cJ M (.me m o es) Z S) Q
 |.ix a b,Z,S,Q=>Wp (cJ M (.ix a b) Z S) Q
 |.sl a lo hi,Z,S,Q=>Wp (cJ M (.sl a lo hi) Z S) Q
 |.tup es,Z,S,Q=>Wp (cJ M (.tup es) Z S) Q
 |.lst es,Z,S,Q=>Wp (cJ M (.lst es) Z S) Q
 |.neg a,Z,S,Q=>Wp (cJ M (.neg a) Z S) Q
 |.dnew,Z,S,Q=>Wp (cJ M .dnew Z S) Q
 |.disp es,Z,S,Q=>Wp (cJ M (.disp es) Z S) Q
 |.chn o o' a b d,Z,S,Q=>wE a Z S λp=>wE b Z p.2 λq=>wO (rB o p.1 q.1 q.2) λk=>(k=true->wE d Z q.2 λr=>wO (cD o' q.1 r.1 r.2) λs=>wB s.1 λc=>Q (c,s.2))/\(k=false->Q (false,q.2))
 |.comp elt tg it cs cap,Z,S,Q=>Wp (cJ M (.comp elt tg it cs cap) Z S) Q
def wA:Es->Fm->aa->(J2 W×aa->Prop)->Prop
 |.nil,_,S,Q=>Q ([],S)
 |.cons e es,Z,S,Q=>wE e Z S λp=>wA es Z p.2 λq=>Q (p.1::q.1,q.2)
def wP:Ep->Fm->aa->(J9 Ki×aa->Prop)->Prop
 |.no,_,S,Q=>Q (td,S)
 |.yes a,Z,S,Q=>wE a Z S λp=>wN p.1 λi=>Q (gV i,p.2)
end
abbrev qV (K:Fm->aa->Prop)(Q:QO)(p:Out×aa):Prop:=match p.1 with
 |.nx Z=>K Z p.2
 |o=>Q (o,p.2)
mutual
def wS:Sm->Fm->aa->(Fm->aa->Prop)->QO->Prop
 |.set i e,Z,S,K,_=>wE M e Z S λp=>K (Z.set i (gV p.1)) p.2
 |.asg is e,Z,S,K,_=>wE M e Z S λp=>wU p.1 λws=>wO (dc is ws Z) λc=>K c p.2
 |.par i j es,Z,S,K,_=>wA M es Z S λp=>w2 p.1 λx y=>K ((Z.set i (gV x)).set j (gV y)) p.2
 |.put o k e,Z,S,K,_=>wE M e Z S λp=>wE M o Z p.2 λq=>wE M k Z q.2 λr=>wO (gZ q.1 r.1 p.1 r.2) λS'=>K Z S'
 |.ex e,Z,S,K,_=>wE M e Z S λp=>K Z p.2
 |.ret e,Z,S,_,Q=>wE M e Z S λp=>Q (.rt p.1,p.2)
 |.retN,_,S,_,Q=>Q (.rt .non,S)
 |.pass,Z,S,K,_=>K Z S
 |.brk,Z,S,_,Q=>Q (.bk Z,S)
 |.cont,Z,S,_,Q=>Q (.ct Z,S)
 |.bad,_,_,_,_=>LM
 |.ite t a b,Z,S,K,Q=>wT M t Z S λp=>∀d:QO,(∀c S',K c S'->d (.nx c,S'))->(∀o S',(∀c,o≠.nx c)->Q (o,S')->d (o,S'))->(p.1=true->BU a Z p.2 d)/\(p.1=false->BU b Z p.2 d)
 |.whl t b,Z,S,K,Q=>Wp (fR M fuel (.whl t b) Z S) (qV K Q)
 |.loop tg it b,Z,S,K,Q=>Wp (fR M fuel (.loop tg it b) Z S) (qV K Q)
def BU:Ss->Fm->aa->QO->Prop
 |.nil,Z,S,Q=>Q (.nx Z,S)
 |.cons s ss,Z,S,Q=>wS s Z S (λc S'=>BU ss c S' Q) Q
end
end
abbrev Ic:Es->Kb
 |.nil=>0
 |.cons _ es=>Ic es+1
mutual
def cH:E->KR
 |.c _|.v _|.comp _ _ _ _ _|.dnew=>true
 |.op _ a b|.cmp _ a b|.and a b|.or a b|.ix a b=>cH a&&cH b
 |.chn _ _ a b c=>cH a&&cH b&&cH c
 |.neg a|.not a|.isi _ a=>cH a
 |.own _ n es=>Ic es==n&&lL es
 |.bi _ es|.disp es=>lL es
 |.me _ o es=>cH o&&lL es
 |.sl a lo hi=>cH a&&Jn lo&&Jn hi
 |.tup es|.lst es=>decide (Ic es<=1000)&&lL es
def lL:Es->KR
 |.nil=>true
 |.cons e es=>cH e&&lL es
def Jn:Ep->KR
 |.no=>true
 |.yes e=>cH e
end
mutual
def JI:Sm->KR
 |.set _ e|.asg _ e|.ex e|.ret e=>cH e
 |.put o k e=>cH o&&cH k&&cH e
 |.par _ _ es=>lL es
 |.ite t a b=>cH t&&gK a&&gK b
 |_=>true
def gK:Ss->KR
 |.nil=>true
 |.cons s ss=>JI s&&gK ss
end
section
variable{M:KG->FF}{fuel:Kb}
def iP:∀{es:Es}{Z:Fm}{S S':aa}{ws:J2 W},cC M es Z S=gV (ws,S')->↥ws=Ic es
 |.nil,Z,S,S',ws,h=>by dsimp only[cC]at h;cases h;rfl
 |.cons e es,Z,S,S',ws,h=>by
  dsimp only[cC]at h;unfold cu at h;split at h
  ·split at h
   ·rename_i a;cases h;rw[K5,iP a];rfl
   ·cases h
  ·cases h
def yD {n:Kb}(h:decide (n<=1000)=true):n<=sizeLine:=Lq (Lr h) (by rw[Lu];decide)
def ci {a b:KR}(h:(a&&b)=true):a=true:=by cases a<;>first|rfl|cases h
def dh {a b:KR}(h:(a&&b)=true):b=true:=by cases a<;>first|show h|cases h
mutual
theorem aO:∀(e:E) {Z:Fm}{S:aa}{Q:QW},cH e=true->wE M e Z S Q->Wp (aB M e Z S) Q
 |.c w,Z,S,Q,k,h=>JW.mpr h
 |.v i,Z,S,Q,k,h=>JH.mpr (yC h)
 |.op o a b,Z,S,Q,k,h=>Je.mpr ((aO a (ci k) h).mono λp g=>(aO b (dh k) g).mono λq j=>bG j)
 |.cmp o a b,Z,S,Q,k,h=>CW.mpr ((aO a (ci k) h).mono λp g=>(aO b (dh k) g).mono λq j=>bG j)
 |.and a b,Z,S,Q,k,h=>GY.mpr ((aO a (ci k) h).mono λp g=>let ⟨c,e,h1,h2⟩:=qf g;#[c,e,λz=>aO b (dh k) (h1 z),h2])
 |.or a b,Z,S,Q,k,h=>Jg.mpr ((aO a (ci k) h).mono λp g=>let ⟨c,e,h1,h2⟩:=qf g;#[c,e,h1,λz=>aO b (dh k) (h2 z)])
 |.not a,Z,S,Q,k,h=>GZ.mpr ((aO a k h).mono λp g=>qf g)
 | .own f n es,Z,S,Q,k,h=>CY.mpr (by
   obtain⟨⟨ws,S1⟩,e,j⟩:=gR es (dh k) h;have hl:↥ws=n:=(iP e).trans (eq_of_beq (ci k));simp only[aL,KC hl]at j;show#[_,e,hl,bG j])
 |.bi b es,Z,S,Q,k,h=>G0.mpr ((gR es k h).mono λp g=>bG g)
 |.me m o es,Z,S,Q,k,h=>Jh.mpr ((aO o (ci k) h).mono λp g=>#[g.1,(gR es (dh k) g.2).mono λq j=>bG j])
 |.ix a b,Z,S,Q,k,h=>Jf.mpr ((aO a (ci k) h).mono λp g=>(aO b (dh k) g).mono λq j=>bG j)
 |.sl a lo hi,Z,S,Q,k,h=>Ji.mpr ((aO a (ci (ci k)) h).mono λp g=>(C7 lo (dh (ci k)) g).mono λq j=>(C7 hi (dh k) j).mono λr l=>bG l)
 | .tup es,Z,S,Q,k,h=>G2.mpr (by
   obtain⟨⟨ws,S1⟩,e,j⟩:=gR es (dh k) h;show#[_,e,by rw[iP e];show yD (ci k),j])
 | .lst es,Z,S,Q,k,h=>G3.mpr (by
   obtain⟨⟨ws,S1⟩,e,j⟩:=gR es (dh k) h;show#[_,e,by rw[iP e];show yD (ci k),j])
 |.isi c a,Z,S,Q,k,h=>CZ.mpr ((aO a k h).mono λp g=>bG g)
 |.neg a,Z,S,Q,k,h=>G4.mpr ((aO a k h).mono λp g=>C6 g)
 |.dnew,Z,S,Q,k,h=>#[_,rfl,h]
 |.disp es,Z,S,Q,k,h=>EA.mpr ((gR es k h).mono λp g=>#[g.1,let ⟨U,e,q⟩:=bG g.2;#[U,e,q]])
 |.chn o y a b d,Z,S,Q,k,h=>C0 ((aO a (ci (ci k)) h).mono λp g=>(aO b (dh (ci k)) g).mono λq j=>let ⟨c,e,h1,h2⟩:=bG j;#[c,e,λz=>(aO d (dh k) (h1 z)).mono λr l=>bG l,h2])
 |.comp u tg it v t,Z,S,Q,k,h=>h
theorem gR:∀(es:Es) {Z:Fm}{S:aa}{Q:J2 W×aa->Prop},lL es=true->wA M es Z S Q->Wp (cC M es Z S) Q
 |.nil,Z,S,Q,k,h=>G5.mpr h
 |.cons e es,Z,S,Q,k,h=>EB.mpr ((aO e (ci k) h).mono λp g=>gR es (dh k) g)
theorem C7:∀(e:Ep) {Z:Fm}{S:aa}{Q:J9 Ki×aa->Prop},Jn e=true->wP M e Z S Q->Wp (tV M e Z S) Q
 |.no,Z,S,Q,k,h=>Jj.mpr h
 |.yes a,Z,S,Q,k,h=>G1.mpr ((aO a k h).mono λp g=>C6 g)
theorem jI:∀(e:E) {Z:Fm}{S:aa}{Q:QB},cH e=true->wT M e Z S Q->Wp (cJ M e Z S) Q
 |.cmp o a b,Z,S,Q,k,h=>G6.mpr (CW.mpr ((aO a (ci k) h).mono λp g=>(aO b (dh k) g).mono λq j=>(bG j).mono λr l=>qf l))
 |.and a b,Z,S,Q,k,h=>G8.mpr ((jI a (ci k) h).mono λp g=>#[λz=>jI b (dh k) (g.1 z),g.2])
 |.or a b,Z,S,Q,k,h=>Jk.mpr ((jI a (ci k) h).mono λp g=>#[g.1,λz=>jI b (dh k) (g.2 z)])
 |.not a,Z,S,Q,k,h=>G9.mpr (jI a k h)
 |.isi c a,Z,S,Q,k,h=>Hb.mpr (CZ.mpr ((aO a k h).mono λp g=>let ⟨b,e,q⟩:=bG g;#[b,e,b,rfl,q]))
 |.v i,Z,S,Q,k,h=>JX.mpr (JH.mpr (let ⟨w,e,q⟩:=yC h;#[w,e,bG q]))
 | .own f n es,Z,S,Q,k,h=>Ha.mpr (CY.mpr (by
   obtain⟨⟨ws,S1⟩,e,j⟩:=gR es (dh k) h;have hl:↥ws=n:=(iP e).trans (eq_of_beq (ci k));simp only[aL,KC hl]at j;show#[_,e,hl,(bG j).mono λq j=>bG j]))
 |.c w,Z,S,Q,k,h=>h
 |.op o a b,Z,S,Q,k,h=>h
 |.bi b es,Z,S,Q,k,h=>Jl.mpr (G0.mpr ((gR es k h).mono λp g=>(bG g).mono λq j=>bG j))
 |.me m o es,Z,S,Q,k,h=>h
 |.ix a b,Z,S,Q,k,h=>h
 |.sl a lo hi,Z,S,Q,k,h=>h
 |.tup es,Z,S,Q,k,h=>h
 |.lst es,Z,S,Q,k,h=>h
 |.neg a,Z,S,Q,k,h=>h
 |.dnew,Z,S,Q,k,h=>h
 |.disp es,Z,S,Q,k,h=>h
 |.chn o y a b d,Z,S,Q,k,h=>G7.mpr (C0 ((aO a (ci (ci k)) h).mono λp g=>(aO b (dh (ci k)) g).mono λq j=>let ⟨c,e,h1,h2⟩:=bG j;#[c,e,λz=>(aO d (dh k) (h1 z)).mono λr l=>(bG l).mono λs x=>qf x,λz=>#[false,rfl,h2 z]]))
 |.comp u tg it v t,Z,S,Q,k,h=>h
end
mutual
theorem Ho:∀(s:Sm) {Z:Fm}{S:aa}{K:Fm->aa->Prop}{Q:QO},JI s=true->wS M fuel s Z S K Q->Wp (fR M fuel s Z S) (qV K Q)
 |.set i e,Z,S,K,Q,k,h=>ED.mpr (aO e k h)
 |.asg is e,Z,S,K,Q,k,h=>EE.mpr ((aO e k h).mono λp hp=>let ⟨ws,e1,h1⟩:=Hm hp;let ⟨Z',e2,h2⟩:=bG h1;#[ws,Z',e1,e2,h2])
 |.par i j es,Z,S,K,Q,k,h=>EF.mpr ((gR es k h).mono λp hp=>Hn hp)
 |.put o i e,Z,S,K,Q,k,h=>EG.mpr ((aO e (dh k) h).mono λp hp=>(aO o (ci (ci k)) hp).mono λq hq=>(aO i (dh (ci k)) hq).mono λr hr=>bG hr)
 |.ex e,Z,S,K,Q,k,h=>Hd.mpr (aO e k h)
 |.ret e,Z,S,K,Q,k,h=>EH.mpr (aO e k h)
 |.retN,Z,S,K,Q,k,h=>#[_,rfl,h]
 |.pass,Z,S,K,Q,k,h=>#[_,rfl,h]
 |.brk,Z,S,K,Q,k,h=>#[_,rfl,h]
 |.cont,Z,S,K,Q,k,h=>#[_,rfl,h]
 |.bad,Z,S,K,Q,k,h=>h.elim
 | .ite t a b,Z,S,K,Q,k,h=>EI.mpr ((jI t (ci (ci k)) h).mono λp hp=>by
   obtain⟨h1,h2⟩:=hp (qV K Q) (λZ' S' z=>z) (λo S' hn z=>by cases o<;>first|show z|show absurd rfl (hn _))
   show#[λz=>jq a (dh (ci k)) (h1 z),λz=>jq b (dh k) (h2 z)])
 |.whl t b,Z,S,K,Q,k,h=>h
 |.loop tg it b,Z,S,K,Q,k,h=>h
theorem jq:∀(ss:Ss) {Z:Fm}{S:aa}{Q:QO},gK ss=true->BU M fuel ss Z S Q->Wp (fS M fuel ss Z S) Q
 |.nil,Z,S,Q,k,h=>Hc.mpr h
 | .cons s ss,Z,S,Q,k,h=>EC.mpr ((Ho s (ci k) h).mono λp hp=>by
   obtain⟨o,S1⟩:=p;cases o with
   |nx Z'=>show#[λZ2 e=>by cases e;show jq ss (dh k) hp,λz=>absurd rfl (z Z')]
   |_=>show#[λZ2 e=>(by cases e),λ_=>hp])
end
structure wZ (M:KG->FF)(fuel:Kb)(ss:Ss)(Z:Fm)(S:aa)(Q:QO):Prop where
 out:BU M fuel ss Z S Q
def Hq {ss:Ss}{Z:Fm}{S:aa}{Q:QO}:BU M fuel ss Z S Q=wZ M fuel ss Z S Q:=propext #[λh=>#[h],λh=>h.out]
def EQ {defs:J2 (KG×Df)}{d:Kb}{f:KG}{n:Kb}{ws:J2 W}{df:Df}{S:aa}{Q:QW}(h:defs.lookup f=gV df)(e:↥ws=n)(hl:↥ws=↥df.ps)(ok:gK df.body=true)
  (c:∀a:QO,(∀w S',Q (w,S')->a (.rt w,S'))->wZ (ar defs fuel d) fuel df.body (eZ df.N ws) S a):wO (aL (ar defs fuel (d+1)) f n ws S) Q:=by
 unfold aL;rw[KC e];show Hl (vF h hl ((jq _ ok (c (λp=>match p.1 with|.rt w=>Q (w,p.2)|_=>LM) λw S' q=>q).out).mono λp b=>by
  obtain⟨o,S1⟩:=p;cases o<;>first|show b|show b.elim))
end
section
variable{M:KG->FF}{fuel:Kb}{Z:Fm}{S:aa}{K:Fm->aa->Prop}{Q:QO}
abbrev wa (M:KG->FF)(fuel:Kb)(b:Ss)(Z:Fm)(S:aa)(I:Fm->aa->Prop)(Q:QO):Prop:=∀a:QO,(∀c S',I c S'->a (.nx c,S'))->(∀w S',Q (.rt w,S')->a (.rt w,S'))->wZ M fuel b Z S a
def ic {tg:Tg}{it:Ie}{b:Ss}{mi:MI}{S1:aa}{xs:J2 W}(I:Kb->Fm->aa->Prop)(ok:gK b=true)(hi:i6 M it Z S=gV (mi,S1))(d:∀i Z S,I i Z S->mi.at S i=gV xs[i]?)(hl:mi.len S1=gV ↥xs)(e:I 0 Z S1)
  (a:∀(i:Kb) (w:W) (Z:Fm) (S:aa),xs[i]?=gV w->I i Z S->wO (gh tg w Z S) λq=>wa M fuel b q.1 q.2 (I (i+1)) Q) (c:∀Z S,I ↥xs Z S->K Z S):Wp (fR M fuel (.loop tg it b) Z S) (qV K Q):=by
 rw[fR,He];show#[_,hi,↥xs,hl,?_];show jp (Q:=qV K Q) I d (λi w Z S f g=>?_) (λZ S h=>c Z S h) _ 0 Z S1 ∅ e
 show(bG (a i w Z S f g)).mono λq j=>jq b ok (wZ.out (j _ (λ_ _ h=>h) λ_ _ h=>h))
def br {e:E}{Q:QW}(ok:cH e=true)(h:wE M e Z S Q):∃w S',aB M e Z S=gV (w,S')/\Q (w,S'):=let ⟨⟨w,S'⟩,a,b⟩:=aO e ok h;#[w,S',a,b]
def cv {f:Kb}{e:E}{b:Ss}(j:Ki)(I:Kb->Fm->aa->Prop)(m:cH e=true)(ok:gK b=true)(l : -(2^62)<=j/\j<2^62)(k:wE M e Z S λp=>p.1=.int j/\I 0 Z p.2)
  (a:∀(i:Kb) (Z:Fm) (S:aa),(i:Ki)<j->I i Z S->wa M fuel b (Z.set f (gV (.int i))) S (I (i+1)) Q) (c:∀Z S,I j.toNat Z S->K Z S):Wp (fR M fuel (.loop (.nm f) (.rng #v[e]) b) Z S) (qV K Q):=by
 obtain⟨w,S1,g,rfl,h⟩:=br m k;have hl:(cg 0 j.toNat).length=j.toNat:=by simp[cg]
 show ic (mi:=.its (cg 0 j.toNat)) (S1:=S1) (xs:=cg 0 j.toNat) I ok ?_ (λ_ _ _ _=>rfl) rfl h (λi w Z S hw d=>?_) λZ S d=>c Z S (hl▸d)
 ·revert i6 cC cu fN rM g;rw[KC l]
 ·rw[dN]at hw;split at hw
  ·rename_i hk;cases hw;rw[N9];show a i Z S ∅ d
  ·cases hw
def for_tup {tg:Tg}{e:E}{b:Ss}(xs:J2 W)(I:Kb->Fm->aa->Prop)(h:cH e=true)(ok:gK b=true)(g:wE M e Z S λp=>p.1=.tup xs/\I 0 Z p.2)
  (a:∀(i:Kb) (w:W) (Z:Fm) (S:aa),xs[i]?=gV w->I i Z S->wO (gh tg w Z S) λq=>wa M fuel b q.1 q.2 (I (i+1)) Q) (c:∀Z S,I ↥xs Z S->K Z S):Wp (fR M fuel (.loop tg (.seq e) b) Z S) (qV K Q):=by
 obtain⟨w,S1,d,rfl,f⟩:=br h g;show ic (mi:=.its xs) (S1:=S1) I ok (by revert i6 d6 d) (λ_ _ _ _=>rfl) rfl f a c
def om {tg:Tg}{e:E}{b:Ss}(t:Kb)(xs:J2 W)(I:Kb->Fm->aa->Prop)(k:cH e=true)(ok:gK b=true)(j:wE M e Z S λp=>p.1=.ref t/\I 0 Z p.2)(a:∀i Z S,I i Z S->S[t]?=gV (.lst xs))
  (c:∀(i:Kb) (w:W) (Z:Fm) (S:aa),xs[i]?=gV w->I i Z S->wO (gh tg w Z S) λq=>wa M fuel b q.1 q.2 (I (i+1)) Q) (d:∀Z S,I ↥xs Z S->K Z S):Wp (fR M fuel (.loop tg (.seq e) b) Z S) (qV K Q):=by
 obtain⟨w,S1,g,rfl,f⟩:=br k j;show ic (mi:=.live t) (S1:=S1) I ok (by simp only[i6,d6,g,aC (a _ _ _ f)]) (λi Z S h=>by simp only[MI.at,aC (a _ _ _ h)]) (by simp only[MI.len,aC (a _ _ _ f),KM]) f c d
def C8 {t:E}{b:Ss}(I:Kb->Fm->aa->Prop)(m:Kb)(i:cH t=true)(ok:gK b=true)(g:m<fuel)(d:I m Z S)
  (a:∀m Z S,I m Z S->wT M t Z S λk=>(k.1=true->∃c,m=c+1/\wa M fuel b Z k.2 (I c) Q)/\(k.1=false->K Z k.2)):Wp (fR M fuel (.whl t b) Z S) (qV K Q):=by
 rw[fR];show kZ (Q:=qV K Q) I (λm Z S f=>(jI t i (a m Z S f)).mono λk hk=>#[λz=>?_,λz=>hk.2 z]) fuel m Z S g d
 obtain⟨c,e,h⟩:=hk.1 z;show#[c,e,jq b ok (wZ.out (h _ (λ_ _ h=>h) λ_ _ h=>h))]
abbrev wC (M:KG->FF):Es->Fm->aa->QB->Prop
 |.nil,_,S,Q=>Q (true,S)
 |.cons e .nil,Z,S,Q=>wT M e Z S Q
 |.cons _ (.cons _ _),_,_,_=>LM
def C9 {a:Es}{Q:QB}(ok:lL a=true)(h:wC M a Z S Q):Wp (BM M a Z S) Q:=by
 match a,h,ok with
 |.nil,h,_=>show Hf.mpr h
 |.cons e .nil,h,ok=>show Hg.mpr (jI e (ci ok) h)
abbrev eG (M:KG->FF)(a:E)(b:Es)(Z:Fm)(S:aa)(G:W->Fm->aa->Prop)(N:Fm->aa->Prop):Prop:=wC M b Z S λk=>(k.1=true->wE M a Z k.2 λy=>G y.1 Z y.2)/\(k.1=false->N Z k.2)
def jr {a:E}{tg:Tg}{it:Ie}{e:Es}{c:J2 (J9 Kb)}{mi:MI}{S1:aa}{xs:J2 W}{Q:QW}(I:Kb->J2 W->Fm->aa->Prop)(m:cH a=true)(oc:lL e=true)(hi:i6 M it Z S=gV (mi,S1))(f:∀i ys Z S,I i ys Z S->mi.at S i=gV xs[i]?)(hl:mi.len S1=gV ↥xs)(h:I 0 [] (dO c Z) S1)
  (b:∀(i:Kb) (w:W) (ys:J2 W) (Z:Fm) (S:aa),xs[i]?=gV w->I i ys Z S->wO (gh tg w Z S) λq=>eG M a e q.1 q.2 (λy=>I (i+1) (ys++[y])) (I (i+1) ys))
  (d:∀ys Z S,I ↥xs ys Z S->↥ys<=sizeLine/\Q (.ref ↥S,S++[.lst ys])):Wp (aB M (.comp a tg it e c) Z S) Q:=by
 rw[yz];show#[_,hi,↥xs,hl,?_];show(du (xs:=xs) (Q:=λq=>↥q.1<=sizeLine/\Q (.ref ↥q.2,q.2++[.lst q.1])) I f (λi w ys Z S j l=>?_) d ↥xs 0 [] _ S1 ∅ h).mono λq g=>by simpa using g
 show(bG (b i w ys Z S j l)).mono λq g=>(C9 oc g).mono λk hk=>#[λz=>aO a m (hk.1 z),hk.2]
def gy {a e:E}{h:Kb}{f:Es}{c:J2 (J9 Kb)}{Q:QW}(j:Ki)(I:Kb->J2 W->Fm->aa->Prop)(q:cH e=true)(o:cH a=true)(oc:lL f=true)(n : -(2^62)<=j/\j<2^62)(m:wE M e Z S λp=>p.1=.int j/\I 0 [] (dO c Z) p.2)
  (b:∀(i:Kb) (ys:J2 W) (Z:Fm) (S:aa),(i:Ki)<j->I i ys Z S->eG M a f (Z.set h (gV (.int i))) S (λy=>I (i+1) (ys++[y])) (I (i+1) ys))
  (d:∀ys Z S,I j.toNat ys Z S->↥ys<=sizeLine/\Q (.ref ↥S,S++[.lst ys])):Wp (aB M (.comp a (.nm h) (.rng #v[e]) f c) Z S) Q:=by
 obtain⟨w,S1,k,rfl,l⟩:=br q m;have hl:(cg 0 j.toNat).length=j.toNat:=by simp[cg]
 show jr (mi:=.its (cg 0 j.toNat)) (S1:=S1) (xs:=cg 0 j.toNat) I o oc ?_ (λ_ _ _ _ _=>rfl) rfl l (λi w ys Z S hw g=>?_) λys Z S g=>d ys Z S (hl▸g)
 ·revert i6 cC cu fN rM k;rw[KC n]
 ·rw[dN]at hw;split at hw
  ·rename_i hk;cases hw;rw[N9];show b i ys Z S ∅ g
  ·cases hw
def ug {a e:E}{tg:Tg}{f:Es}{c:J2 (J9 Kb)}{Q:QW}(xs:J2 W)(I:Kb->J2 W->Fm->aa->Prop)(l:cH e=true)(k:cH a=true)(oc:lL f=true)(j:wE M e Z S λp=>p.1=.tup xs/\I 0 [] (dO c Z) p.2)
  (b:∀(i:Kb) (w:W) (ys:J2 W) (Z:Fm) (S:aa),xs[i]?=gV w->I i ys Z S->wO (gh tg w Z S) λq=>eG M a f q.1 q.2 (λy=>I (i+1) (ys++[y])) (I (i+1) ys))
  (d:∀ys Z S,I ↥xs ys Z S->↥ys<=sizeLine/\Q (.ref ↥S,S++[.lst ys])):Wp (aB M (.comp a tg (.seq e) f c) Z S) Q:=by
 obtain⟨w,S1,g,rfl,h⟩:=br l j;show jr (mi:=.its xs) (S1:=S1) I k oc (by revert i6 d6 g) (λ_ _ _ _ _=>rfl) rfl h b d
def uh {a e:E}{tg:Tg}{g:Es}{d:J2 (J9 Kb)}{Q:QW}(t:Kb)(xs:J2 W)(I:Kb->J2 W->Fm->aa->Prop)(n:cH e=true)(m:cH a=true)(oc:lL g=true)(l:wE M e Z S λp=>p.1=.ref t/\I 0 [] (dO d Z) p.2)(b:∀i ys Z S,I i ys Z S->S[t]?=gV (.lst xs))
  (c:∀(i:Kb) (w:W) (ys:J2 W) (Z:Fm) (S:aa),xs[i]?=gV w->I i ys Z S->wO (gh tg w Z S) λq=>eG M a g q.1 q.2 (λy=>I (i+1) (ys++[y])) (I (i+1) ys))
  (f:∀ys Z S,I ↥xs ys Z S->↥ys<=sizeLine/\Q (.ref ↥S,S++[.lst ys])):Wp (aB M (.comp a tg (.seq e) g d) Z S) Q:=by
 obtain⟨w,S1,k,rfl,j⟩:=br n l;show jr (mi:=.live t) (S1:=S1) I m oc (by simp only[i6,d6,k,aC (b _ _ _ _ j)]) (λi ys Z S h=>by simp only[MI.at,aC (b _ _ _ _ h)]) (by simp only[MI.len,aC (b _ _ _ _ j),KM]) j c f
def BV {b a:E}{tg:Tg}{f:Es}{d:J2 (J9 Kb)}{Q:QW}(xs:J2 W)(I:Kb->J2 W->Fm->aa->Prop)(n:cH a=true)(o:cH b=true)(oc:lL f=true)(l:wE M a Z S λp=>HY p.1=gV xs/\I 0 [] (dO d Z) p.2)
  (c:∀(i:Kb) (x:W) (ys:J2 W) (Z:Fm) (S:aa),xs[i]?=gV x->I i ys Z S->wO (gh tg (.tup [.int i,x]) Z S) λq=>eG M b f q.1 q.2 (λy=>I (i+1) (ys++[y])) (I (i+1) ys))
  (e:∀ys Z S,I ↥xs ys Z S->↥ys<=sizeLine/\Q (.ref ↥S,S++[.lst ys])):Wp (aB M (.comp b tg (.enu #v[a]) f d) Z S) Q:=by
 obtain⟨x,S1,h,k,j⟩:=br n l;have hl:(hG xs).length=↥xs:=by simp[hG]
 show jr (mi:=.its (hG xs)) (S1:=S1) (xs:=hG xs) I o oc (by revert i6 cC cu fN yg h k) (λ_ _ _ _ _=>rfl) rfl j (λi w ys Z S hw g=>?_) λys Z S g=>e ys Z S (hl▸g)
 obtain⟨y,m,rfl⟩:=iJ hw;show c i y ys Z S m g
def yE {b a:E}{tg:Tg}{f:Es}{d:J2 (J9 Kb)}{Q:QW}(t:Kb)(xs:J2 W)(I:Kb->J2 W->Fm->aa->Prop)(r:cH a=true)(s:cH b=true)(oc:lL f=true)(n:wE M a Z S λp=>p.1=.ref t/\I 0 [] (dO d Z) p.2)(k:∀i ys Z S,I i ys Z S->S[t]?=gV (.lst xs))
  (c:∀(i:Kb) (x:W) (ys:J2 W) (Z:Fm) (S:aa),xs[i]?=gV x->I i ys Z S->wO (gh tg (.tup [.int i,x]) Z S) λq=>eG M b f q.1 q.2 (λy=>I (i+1) (ys++[y])) (I (i+1) ys))
  (e:∀ys Z S,I ↥xs ys Z S->↥ys<=sizeLine/\Q (.ref ↥S,S++[.lst ys])):Wp (aB M (.comp b tg (.enu #v[a]) f d) Z S) Q:=by
 obtain⟨x,S1,m,rfl,g⟩:=br r n;have hl:(hG xs).length=↥xs:=by simp[hG]
 have l:∀{i ys Z S},I i ys Z S->dU S t=gV xs:=λ{i ys Z S} h=>aC (k i ys Z S h)
 show jr (mi:=.el t) (S1:=S1) (xs:=hG xs) I s oc (by simp only[i6,cC,cu,fN,yg,m,HY,l g]) (λi ys Z S h=>by simp only[MI.at,l h]) (by simp only[MI.len,l g,KM]) g (λi w ys Z S hw j=>?_) λys Z S j=>e ys Z S (hl▸j)
 obtain⟨y,o,rfl⟩:=iJ hw;show c i y ys Z S o j
def st {s:Sm}{ss:Ss}(h:wS M fuel s Z S (λa S'=>wZ M fuel ss a S' Q) Q):wZ M fuel (.cons s ss) Z S Q:=#[by
 delta BU;revert Hq;show h]
def bu (h:Q (.nx Z,S)):wZ M fuel .nil Z S Q:=#[h]
def aq {t:KR}{a b:Ss}{Q Q0:QO}{K:Fm->aa->Prop}(h:t=true->∀c:QO,(∀d S',K d S'->c (.nx d,S'))->(∀w S',Q (.rt w,S')->c (.rt w,S'))->wZ M fuel a Z S c)(i:t=false->∀c:QO,(∀d S',K d S'->c (.nx d,S'))->(∀w S',Q (.rt w,S')->c (.rt w,S'))->wZ M fuel b Z S c) :
  ∀c:QO,(∀d S',K d S'->c (.nx d,S'))->(∀o S',(∀d,o≠.nx d)->Q (o,S')->c (o,S'))->(t=true->BU M fuel a Z S c)/\(t=false->BU M fuel b Z S c):=
 λc f g=>#[λe=>(h e c f λw S'=>g (.rt w) S' (λ_ z=>nomatch z)).out,λe=>(i e c f λw S'=>g (.rt w) S' (λ_ z=>nomatch z)).out]
end
abbrev dQ:Ss:=
 #v[.ret (.lst #v[.bi .list #v[.v 0],.c (.int 0),.c (.int 0),.c (.int 1),.c (.int 0)])]
abbrev cj:Ss:=
 #v[.ite (.and (.cmp .eq (.ix (.v 0) (.c (.int 2))) (.c (.int 0))) (.cmp .lt (.ix (.v 0) (.c (.int 1))) (.bi .len #v[.ix (.v 0) (.c (.int 0))]))) #v[.set 2 (.ix (.ix (.v 0) (.c (.int 0))) (.ix (.v 0) (.c (.int 1)))),.put (.v 0) (.c (.int 1)) (.op .add (.ix (.v 0) (.c (.int 1))) (.c (.int 1))),.ite (.cmp .ge (.v 2) (.op .pow (.c (.int 10)) (.c (.int 18)))) #v[.put (.v 0) (.c (.int 2)) (.v 2)] #v[.put (.v 0) (.c (.int 3)) (.op .mod (.op .add (.op .add (.op .mul (.ix (.v 0) (.c (.int 3))) (.c (.int 40013))) (.op .mod (.v 2) (.c (.int 1000003)))) (.c (.int 1))) (.c (.int 2147483647)))]] .nil,.ite (.cmp .gt (.ix (.v 0) (.c (.int 2))) (.c (.int 0))) #v[.set 3 (.op .mod (.ix (.v 0) (.c (.int 2))) (.v 1)),.put (.v 0) (.c (.int 2)) (.op .fdiv (.ix (.v 0) (.c (.int 2))) (.v 1)),.ret (.v 3)] .nil,.put (.v 0) (.c (.int 4)) (.op .add (.ix (.v 0) (.c (.int 4))) (.c (.int 1))),.put (.v 0) (.c (.int 3)) (.op .mod (.op .add (.op .add (.op .mul (.ix (.v 0) (.c (.int 3))) (.c (.int 48271))) (.c (.int 12820163))) (.ix (.v 0) (.c (.int 4)))) (.c (.int 2147483647))),.ret (.op .mod (.op .fdiv (.op .mod (.op .mul (.op .add (.op .mod (.ix (.v 0) (.c (.int 3))) (.c (.int 65521))) (.c (.int 1))) (.op .add (.op .fdiv (.ix (.v 0) (.c (.int 3))) (.c (.int 65521))) (.c (.int 7919)))) (.c (.int 1000003))) (.c (.int 7))) (.v 1))]
abbrev cW:Ss:=
 #v[.ite (.cmp .lt (.v 3) (.v 2)) #v[.ret (.ix (.ix (.ix (.v 1) (.v 2)) (.c (.int 1))) (.v 3))] .nil,.ret (.ix (.ix (.ix (.v 0) (.c (.int 1))) (.ix (.ix (.ix (.v 1) (.v 3)) (.c (.int 1))) (.v 2))) (.c (.int 1)))]
abbrev cN:Ss:=
 #v[.set 3 (.lst .nil),.loop (.nm 4) (.rng #v[.bi .len #v[.v 2]]) #v[.set 5 (.ix (.v 2) (.v 4)),.ex (.me .append (.v 3) #v[.tup #v[.ix (.ix (.v 1) (.v 5)) (.c (.int 0)),.bi .tuple #v[.comp (.own "_law_between" 4 #v[.v 3,.v 4,.v 2,.v 1]) (.nm 1) (.seq (.sl (.v 2) .no (.yes (.v 4)))) .nil [td,td,gV 5,gV 0,gV 1]]]])],.ret (.bi .tuple #v[.v 3])]
abbrev fU:Ss:=
 #v[.ret (.lst #v[.tup #v[.c (.int 0),.c (.int 1),.c (.int 2)],.tup #v[.c (.int 0),.c (.int 2),.c (.int 1)],.tup #v[.c (.int 1),.c (.int 0),.c (.int 2)],.tup #v[.c (.int 1),.c (.int 2),.c (.int 0)],.tup #v[.c (.int 2),.c (.int 0),.c (.int 1)],.tup #v[.c (.int 2),.c (.int 1),.c (.int 0)]])]
abbrev dv:Ss:=
 #v[.ret (.bi .min #v[.comp (.own "_law_part" 3 #v[.v 2,.v 3,.v 1]) (.nm 1) (.seq (.own "_law_turns" 0 .nil)) .nil [td,td,gV 0,gV 1]])]
abbrev d8:Ss:=
 #v[.set 2 (.ix (.lst #v[.lst #v[.tup #v[.c (.int 0)]],.lst #v[.tup #v[.c (.int 0),.c (.int 1)],.tup #v[.c (.int 1),.c (.int 0)]],.lst #v[.tup #v[.c (.int 0),.c (.int 1),.c (.int 2)],.tup #v[.c (.int 1),.c (.int 0),.c (.int 2)],.tup #v[.c (.int 0),.c (.int 2),.c (.int 1)]]]) (.op .sub (.v 1) (.c (.int 1)))),.ret (.ix (.v 2) (.own "_law_pick" 2 #v[.v 0,.bi .len #v[.v 2]]))]
abbrev cX:Ss:=
 #v[.set 4 (.own "_law_names" 2 #v[.v 0,.op .add (.v 1) (.bi .len #v[.v 2])]),.set 5 (.bi .tuple #v[.comp (.tup #v[.ix (.v 4) (.op .add (.v 3) (.v 1)),.ix (.v 2) (.v 1)]) (.nm 1) (.rng #v[.bi .len #v[.v 2]]) .nil [td,td,gV 2,gV 1,gV 4]]),.ret (.tup #v[.sl (.v 4) .no (.yes (.v 1)),.v 5,.bi .tuple #v[.bi .sorted #v[.v 3]]])]
abbrev bR:Ss:=
 #v[.set 3 (.lst .nil),.loop (.nm 4) (.rng #v[.c (.int 3)]) #v[.ex (.me .append (.v 3) #v[.tup #v[.own "_law_pick" 2 #v[.v 0,.v 1],.bi .tuple #v[.comp (.own "_law_pick" 2 #v[.v 2,.v 3]) (.nm 1) (.rng #v[.v 4]) .nil [td,td,gV 0,gV 2]]]])],.ret (.bi .tuple #v[.v 3])]
abbrev ee:Ss:=
 #v[.set 1 (.lst #v[.tup #v[.c (.int 1),.c (.int 1)],.tup #v[.c (.int 2),.c (.int 1)],.tup #v[.c (.int 3),.c (.int 1)],.tup #v[.c (.int 1),.c (.int 2)],.tup #v[.c (.int 1),.c (.int 2)],.tup #v[.c (.int 2),.c (.int 2)],.tup #v[.c (.int 2),.c (.int 2)],.tup #v[.c (.int 3),.c (.int 2)],.tup #v[.c (.int 1),.c (.int 3)],.tup #v[.c (.int 1),.c (.int 3)],.tup #v[.c (.int 2),.c (.int 3)]]),.ret (.ix (.v 1) (.own "_law_pick" 2 #v[.v 0,.c (.int 11)]))]
abbrev bK:Ss:=
 #v[.set 1 (.lst #v[.tup #v[.tup #v[.c (.int 1),.c (.int 0)],.disp #v[.tup #v[.c (.int 0),.c (.int 0)],.lst #v[.c (.int 0)]],.c (.int 3)],.tup #v[.tup #v[.c (.int 0),.c (.int 2),.c (.int 1)],.disp #v[.tup #v[.c (.int 1),.c (.int 1)],.lst #v[.c (.int 1)]],.c (.int 2)],.tup #v[.tup #v[.c (.int 0),.c (.int 1)],.disp #v[.tup #v[.c (.int 1),.c (.int 1)],.lst #v[.c (.int 1)]],.c (.int 3)]]),.ex (.me .append (.v 1) #v[.tup #v[.tup #v[.c (.int 0),.c (.int 1)],.disp #v[.tup #v[.c (.int 1),.c (.int 1)],.lst #v[.c (.int 1)],.tup #v[.c (.int 0),.c (.int 0)],.lst #v[.c (.int 1)]],.c (.int 3)]]),.ex (.me .append (.v 1) #v[.tup #v[.tup #v[.c (.int 0),.c (.int 1)],.disp #v[.tup #v[.c (.int 1),.c (.int 1)],.lst .nil],.c (.int 1)]]),.ex (.me .append (.v 1) #v[.tup #v[.tup #v[.c (.int 0),.c (.int 2),.c (.int 1)],.disp #v[.tup #v[.c (.int 0),.c (.int 0)],.lst #v[.c (.int 0)],.tup #v[.c (.int 0),.c (.int 1)],.lst #v[.c (.int 1)],.tup #v[.c (.int 1),.c (.int 0)],.lst #v[.c (.int 1)],.tup #v[.c (.int 1),.c (.int 1)],.lst #v[.c (.int 1)]],.c (.int 2)]]),.ex (.me .append (.v 1) #v[.tup #v[.tup #v[.c (.int 1),.c (.int 0)],.dnew,.c (.int 3)]]),.ex (.me .append (.v 1) #v[.tup #v[.tup #v[.c (.int 0),.c (.int 1),.c (.int 2)],.disp #v[.tup #v[.c (.int 2),.c (.int 2)],.lst #v[.c (.int 2)],.tup #v[.c (.int 1),.c (.int 2)],.lst #v[.c (.int 1)],.tup #v[.c (.int 2),.c (.int 1)],.lst #v[.c (.int 1)],.tup #v[.c (.int 1),.c (.int 1)],.lst #v[.c (.int 1),.c (.int 2)]],.c (.int 2)]]),.ex (.me .append (.v 1) #v[.tup #v[.tup #v[.c (.int 0),.c (.int 1),.c (.int 2)],.disp #v[.tup #v[.c (.int 0),.c (.int 0)],.lst #v[.c (.int 0),.c (.int 1)]],.c (.int 2)]]),.ret (.ix (.v 1) (.own "_law_pick" 2 #v[.v 0,.c (.int 9)]))]
abbrev dw:Ss:=
 #v[.set 5 (.disp #v[.tup #v[.c (.int 1),.c (.int 0)],.v 2,.tup #v[.c (.int 2),.c (.int 0)],.v 3,.tup #v[.c (.int 2),.c (.int 1)],.v 4]),.loop (.nm 6) (.seq (.bi .list #v[.v 5])) #v[.put (.v 5) (.tup #v[.ix (.v 6) (.c (.int 1)),.ix (.v 6) (.c (.int 0))]) (.ix (.v 0) (.ix (.v 5) (.v 6)))],.loop (.tp [7,8,9]) (.seq (.own "_law_turns" 0 .nil)) #v[.ite (.cmp .notin (.ix (.v 5) (.tup #v[.v 7,.v 9])) (.me .get (.v 1) #v[.tup #v[.ix (.v 5) (.tup #v[.v 7,.v 8]),.ix (.v 5) (.tup #v[.v 8,.v 9])],.lst #v[.ix (.v 5) (.tup #v[.v 7,.v 9])]])) #v[.ret (.c (.bl true))] .nil],.ret (.c (.bl false))]
abbrev be:Ss:=
 #v[.set 3 (.bi .len #v[.v 1]),.set 4 (.lst #v[.lst #v[.tup #v[.c (.int 0)]],.lst #v[.tup #v[.c (.int 0),.c (.int 1)],.tup #v[.c (.int 1),.c (.int 0)]]]),.ex (.me .append (.v 4) #v[.lst #v[.tup #v[.c (.int 0),.c (.int 1),.c (.int 2)],.tup #v[.c (.int 0),.c (.int 2),.c (.int 1)],.tup #v[.c (.int 2),.c (.int 0),.c (.int 1)],.tup #v[.c (.int 2),.c (.int 1),.c (.int 0)]]]),.set 5 (.ix (.v 4) (.op .sub (.v 3) (.c (.int 1)))),.ite (.cmp .eq (.v 1) (.tup #v[.c (.int 0),.c (.int 1),.c (.int 2)])) #v[.set 5 (.own "_law_turns" 0 .nil)] .nil,.set 6 (.ix (.v 5) (.own "_law_pick" 2 #v[.v 0,.bi .len #v[.v 5]])),.set 7 (.op .mul (.lst #v[.c (.int 0)]) (.v 3)),.loop (.nm 8) (.rng #v[.v 3]) #v[.put (.v 7) (.ix (.v 6) (.v 8)) (.ix (.v 6) (.ix (.v 1) (.v 8)))],.set 9 .dnew,.loop (.tp [10,11]) (.seq (.v 2)) #v[.put (.v 9) (.tup #v[.ix (.v 6) (.v 10),.ix (.v 6) (.v 11)]) (.comp (.ix (.v 2) (.v 1)) (.nm 1) (.seq (.ix (.v 2) (.tup #v[.v 10,.v 11]))) .nil [td,td,gV 6])],.ret (.tup #v[.bi .tuple #v[.v 7],.v 9])]
abbrev bL:Ss:=
 #v[.set 1 (.own "_law_pick" 2 #v[.v 0,.c (.int 7)]),.ite (.cmp .eq (.v 1) (.c (.int 0))) #v[.ret (.own "_law_free_rule" 1 #v[.v 0])] .nil,.ite (.cmp .eq (.v 1) (.c (.int 1))) #v[.ret (.own "_law_one_way_rule" 1 #v[.v 0])] .nil,.asg [2,3,4] (.own "_law_laying_kind" 1 #v[.v 0]),.set 5 (.op .add (.c (.int 1)) (.own "_law_pick" 2 #v[.v 0,.v 4])),.asg [2,3] (.own "_law_numbered" 3 #v[.v 0,.v 2,.v 3]),.set 6 (.own "_law_rule_of" 4 #v[.v 0,.v 5,.v 2,.tup .nil]),.set 7 .dnew,.set 8 (.bi .len #v[.v 2]),.loop (.nm 9) (.rng #v[.op .mul (.op .mul (.v 8) (.v 8)) (.v 8)]) #v[.par 10 11 #v[.op .mod (.v 9) (.v 8),.op .mod (.op .fdiv (.v 9) (.v 8)) (.v 8)],.set 12 (.op .fdiv (.op .fdiv (.v 9) (.v 8)) (.v 8)),.ite (.own "_law_breaks" 5 #v[.v 2,.v 3,.v 10,.v 11,.v 12]) #v[.loop (.nm 13) (.seq (.own "_law_rising" 1 #v[.v 5])) #v[.set 14 (.tup #v[.tup #v[.ix (.v 13) (.c (.int 0)),.tup .nil],.tup #v[.ix (.v 13) (.c (.int 1)),.tup #v[.v 10]]]),.put (.v 7) (.own "_law_figure" 2 #v[.v 6,.op .add (.v 14) (.tup #v[.tup #v[.ix (.v 13) (.c (.int 2)),.tup #v[.v 11,.v 12]]])]) (.c (.bl true))]] .nil],.ret (.tup #v[.ix (.v 6) (.c (.int 0)),.ix (.v 6) (.c (.int 1)),.bi .tuple #v[.bi .sorted #v[.v 7]]])]
abbrev dy:Ss:=
 #v[.set 1 (.lst .nil),.loop (.nm 2) (.rng #v[.v 0]) #v[.loop (.nm 3) (.rng2 #v[.v 2,.v 0]) #v[.set 1 (.op .add (.v 1) (.comp (.tup #v[.v 2,.v 3,.v 1]) (.nm 1) (.rng2 #v[.v 3,.v 0]) .nil [td,td,gV 2,gV 3]))]],.ret (.v 1)]
abbrev cb:Ss:=
 #v[.asg [1,2] (.own "_law_sizes" 1 #v[.v 0]),.set 3 (.own "_law_rule_of" 4 #v[.v 0,.v 1,.own "_law_backs" 2 #v[.v 0,.v 2],.tup .nil]),.set 5 (.comp (.v 1) (.nm 1) (.rng #v[.v 2]) #v[.cmp .eq (.ix (.ix (.ix (.v 2) (.c (.int 1))) (.v 1)) (.c (.int 1))) (.v 1)] [td,td,gV 3]),.ite (.or (.cmp .eq (.v 5) (.lst .nil)) (.cmp .eq (.v 2) (.c (.int 1)))) #v[.ret (.v 3)] .nil,.set 6 (.ix (.v 5) (.own "_law_pick" 2 #v[.v 0,.bi .len #v[.v 5]])),.set 7 .dnew,.loop (.nm 4) (.rng #v[.own "_law_pick" 2 #v[.v 0,.c (.int 9)]]) #v[.set 8 (.own "_law_free_three" 3 #v[.v 0,.v 1,.v 2]),.ite (.and (.cmp .ne (.ix (.ix (.ix (.v 8) (.c (.int 1))) (.c (.int 1))) (.c (.int 0))) (.v 6)) (.cmp .notin (.v 6) (.ix (.ix (.v 8) (.c (.int 2))) (.c (.int 1))))) #v[.put (.v 7) (.own "_law_figure" 2 #v[.v 3,.v 8]) (.c (.bl true))] .nil],.ret (.tup #v[.ix (.v 3) (.c (.int 0)),.ix (.v 3) (.c (.int 1)),.bi .tuple #v[.bi .sorted #v[.v 7]]])]
abbrev bD:Ss:=
 #v[.set 1 (.op .add (.c (.int 1)) (.own "_law_pick" 2 #v[.v 0,.c (.int 3)])),.set 2 (.comp (.tup #v[.tup #v[.v 1,.tup .nil],.tup #v[.v 1,.tup #v[.c (.int 0)]],.tup #v[.v 1,.tup #v[.c (.int 0),.c (.int 0)]]]) (.nm 1) (.rng #v[.v 1]) #v[.cmp .eq (.own "_law_pick" 2 #v[.v 2,.c (.int 2)]) (.c (.int 0))] [td,td,gV 0]),.ret (.own "_law_rule_of" 4 #v[.v 0,.v 1,.tup #v[.c (.int 0)],.v 2])]
abbrev Is (defs:J2 (KG×Df))(f:KG)(a nn:Kb)(b:Ss):Prop:=∃df:Df,defs.lookup f=gV df/\↥df.ps=a/\↥df.N=nn/\df.body=b
def az {defs:J2 (KG×Df)}{fuel d:Kb}{f:KG}{c nn:Kb}{b:Ss}{ws:J2 W}{S:aa}{Q:QW}(h:Is defs f c nn b)(hl:↥ws=c)(ok:gK b=true)
  (l:∀a:QO,(∀w S',Q (w,S')->a (.rt w,S'))->wZ (ar defs fuel d) fuel b (ws.map gV++KU (nn-c) td) S a):wO (aL (ar defs fuel (d+1)) f c ws S) Q:=by
 obtain⟨df,e,g,i,j⟩:=h;subst j;show EQ e hl (hl.trans g.symm) ok λa k=>?_
 have:=l a k;unfold eZ;rw[i,hl];show this
abbrev eg:Ss:=
 #v[.ret (.bi .tuple #v[.comp (.op .add (.c (.str "n")) (.ix (.c (.str "abcdefgh")) (.v 1))) (.nm 1) (.rng #v[.v 1]) .nil [td,td]])]
structure Gen (defs:J2 (KG×Df)):Prop where
 pick:Is defs ("_law_pick": KG) 2 4 cj
 names:Is defs ("_law_names": KG) 2 2 eg
 between:Is defs ("_law_between": KG) 4 4 cW
 part:Is defs ("_law_part": KG) 3 6 cN
 turns:Is defs ("_law_turns": KG) 0 0 fU
 figure:Is defs ("_law_figure": KG) 2 2 dv
 backs:Is defs ("_law_backs": KG) 2 3 d8
 rule_of:Is defs ("_law_rule_of": KG) 4 6 cX
 free_three:Is defs ("_law_free_three": KG) 3 5 bR
 sizes:Is defs ("_law_sizes": KG) 1 2 ee
 laying_kind:Is defs ("_law_laying_kind": KG) 1 2 bK
 breaks:Is defs ("_law_breaks": KG) 5 10 dw
 numbered:Is defs ("_law_numbered": KG) 3 12 be
 laying_rule:Is defs ("_law_laying_rule": KG) 1 15 bL
 rising:Is defs ("_law_rising": KG) 1 4 dy
 free_rule:Is defs ("_law_free_rule": KG) 1 9 cb
 one_way_rule:Is defs ("_law_one_way_rule": KG) 1 3 bD
structure FlA (S:aa)(r q:Kb)(ns:J2 Ki)(i c x n:Ki):Prop where
 at_r:S[r]?=gV (.lst [.ref q,.int i,.int c,.int x,.int n])
 at_q:S[q]?=gV (.lst (ns.map W.int))
 lt:q<r
 i0:0<=i
 c0:0<=c
 x0:0<=x
 x1:x<2147483647
def FlA.ne {S:aa}{r q:Kb}{ns:J2 Ki}{i c x n:Ki}(h:FlA S r q ns i c x n):q≠r:=KF h.lt
abbrev Fl (S:aa)(r:Kb):Prop:=∃(q:Kb) (ns:J2 Ki) (i c x n:Ki),FlA S r q ns i c x n
def FlA.put {S:aa}{r q:Kb}{ns:J2 Ki}{i c x n d b a e:Ki}(h:FlA S r q ns i c x n)(f:0<=d)(g:0<=b)(j:0<=a)(k:a<2147483647):FlA (S.set r (.lst [.ref q,.int d,.int b,.int a,.int e])) r q ns d b a e:=
 #[bm h.at_r,by rw[bc (Ne.symm h.ne)];show h.at_q,h.lt,f,g,j,k]
def Fl.keep {S S':aa}{r:Kb}(h:Fl S r)(a:S'[r]?=S[r]?)(k:Kp r S S'):Fl S' r:=
 let ⟨q,ns,i,c,x,n,f⟩:=h;#[q,ns,i,c,x,n,by rw[a];show f.at_r,k.get _ _ f.ne f.at_q,f.lt,f.i0,f.c0,f.x0,f.x1]
def Fl.lt {S:aa}{r:Kb}(h:Fl S r):r<↥S:=let ⟨_,_,_,_,_,_,f⟩:=h;bF f.at_r
structure Ka (S S':aa):Prop where
 get:∀(j:Kb) (o:O),S[j]?=gV o->S'[j]?=gV o
 len:↥S<=↥S'
def Ka.refl {S:aa}:Ka S S:=#[λ_ _ h=>h,Kl _]
def Ka.trans {S S' c:aa}(a:Ka S S')(b:Ka S' c):Ka S c:=#[λj o h=>b.get j o (a.get j o h),Lq a.len b.len]
def Ka.push {S:aa}{o:O}:Ka S (S++[o]):=#[λj u h=>au h,by simp]
def Ka.late {t:Kb}{S0 S:aa}{o:O}(a:Ka S0 S)(h:↥S0<=t):Ka S0 (S.set t o):=
 #[λj u e=>by have:=bF e;rw[bc ∅];show a.get j u e,by simpa using a.len]
def Ka.kp {S S':aa}(a:Ka S S')(r:Kb):Kp r S S':=#[λj o _ h=>a.get j o h,a.len]
def Fl.ka {S S':aa}{r:Kb}(h:Fl S r)(k:Ka S S'):Fl S' r:=h.keep (by obtain⟨q,ns,i,c,x,n,f⟩:=h;rw[k.get _ _ f.at_r,f.at_r]) (k.kp r)
def Fl.own {S:aa}{r t:Kb}{o:O}(h:Fl S r)(a:r<t):Fl (S.set t o) r:=by
 obtain⟨q,ns,i,c,x,n,f⟩:=h;have:=f.lt;show#[q,ns,i,c,x,n,by rw[bc ∅];show f.at_r,by rw[bc ∅];show f.at_q,f.lt,f.i0,f.c0,f.x0,f.x1]
def dR {S:aa}{r:Kb}{xs:J2 W}{i:Kb}{w:W}{Q:QW}(h:S[r]?=gV (.lst xs))(hw:xs[i]?=gV w)(q:Q (w,S)):wO (ph (.ref r) (.int (i:Ki)) S) Q:=ac (yA h (Kq i) (by rw[Kz];show hw)) q
def mN {S:aa}{r:Kb}{xs:J2 W}{i:Kb}{w:W}{Q:aa->Prop}(h:S[r]?=gV (.lst xs))(hi:T4 (i+1) ↥xs=true)(q:Q (S.set r (.lst (xs.set i w)))):wO (gZ (.ref r) (.int (i:Ki)) w S) Q:=ac (C4 h (Kq i) (by rw[Kz];show Ob hi)) (by rw[Kz];show q)
section
variable{defs:J2 (KG×Df)}{fuel d:Kb}{S:aa}{r:Kb}{Q:QW}
def bE (hd:Is defs ("_law_pick": KG) 2 4 cj){m:Ki}(N:Fl S r)(A:0<m)(M:m<1073741824)(k:∀v S',0<=v->v<m->Fl S' r->Kp r S S'->Q (.int v,S')) :
  wO (aL (ar defs fuel (d+1)) "_law_pick" 2 [.ref r,.int m] S) Q:=by
 obtain⟨q,ns,i,c,x,n,f⟩:=N;show az hd rfl rfl λt H=>?_
 replace k:∀v S',0<=v->v<m->Fl S' r->Kp r S S'->t (.rt (.int v),S'):=λv S' a b c e=>H _ _ (k v S' a b c e)
 clear H;change wZ _ _ cj [gV (.ref r),gV (.int m),td,td] S t;have bW:∀(S1:aa) (w2:J9 W) (i1 s p l:Ki),FlA S1 r q ns i1 s p l->Kp r S S1->wZ (ar defs fuel d) fuel (match cj with|.cons _ ss=>ss|.nil=>.nil) [gV (.ref r),gV (.int m),w2,td] S1 t:=by
  intro S1 w2 i1 s p l g I;delta cj;show st ?_;delta wS wT wE wV wG;show dR (i:=2) g.at_r rfl ?_;delta Hh wO wB;show aq (Q0:=t) (λB o h C=>?_) (λB o h C=>?_)
  ·clear h;show st ?_;delta wS wE wV wG;show dR (i:=2) g.at_r rfl (ac (mM A) ?_);show st ?_;delta wS wE wV wG Kv;show dR (i:=2) g.at_r rfl (ac (n6 A M) (mN (i:=2) g.at_r rfl ?_));show st ?_;delta wS wE wV wG Kv;show C _ _ (k _ _ (Np _ ∅) (MU _ A) #[q,ns,i1,s/m,p,l,g.put g.i0 (RG g.c0 ∅) g.x0 g.x1] (I.trans .set))
  ·show bu (h _ _ ?_);clear h C;have D:FlA (S1.set r (.lst [.ref q,.int i1,.int s,.int p,.int (l+1)])) r q ns i1 s p (l+1):=g.put g.i0 g.c0 g.x0 g.x1;show st ?_;delta wS wE wV wG;show dR (i:=4) g.at_r rfl ?_;delta d7 wO;show mN (i:=4) g.at_r rfl ?_;show st ?_;delta wS wE wV wG Kv;show dR (i:=3) D.at_r rfl (ac (uf #v[] #v[]) ?_)
   delta d7 wO;show dR (i:=4) D.at_r rfl ?_;delta d7 wO;show(mN (i:=3) D.at_r rfl ?_);have u:FlA ((S1.set r (.lst [.ref q,.int i1,.int s,.int p,.int (l+1)])).set r (.lst [.ref q,.int i1,.int s,.int ((p*48271+12820163+(l+1)) % 2147483647),.int (l+1)])) r q ns i1 s ((p*48271+12820163+(l+1)) % 2147483647) (l+1):=D.put g.i0 g.c0 (Np _ #v[]) (MU _ #v[])
   delta Kv;generalize(p*48271+12820163+(l+1)) % 2147483647=y at u ⊢;have L:y/65521+7919<2^64:=by
    have:=u.x1;have:=Int.ediv_le_self 65521 u.x0;omega
   have b2 : -(2^64)<y/65521+7919:=by
    have:=RG u.x0 (show(0:Ki)<=65521 by decide)
    omega
   show st ?_;delta wS wE wV wG Kv;show dR (i:=3) u.at_r rfl (ac (mM #v[]) ?_)
   delta d7 wO;show dR (i:=3) u.at_r rfl ?_;delta d7 wO;show ac (uf b2 L) ?_;show ac (mM A) ?_;show k _ _ (Np _ ∅) (MU _ A) #[q,ns,_,_,_,_,u] (I.trans (Kp.set.trans .set))
 dsimp only[cj]at bW ⊢;show st ?_;delta wS wT wE wV wG wA;show dR (i:=2) f.at_r rfl ?_;delta la wO wB;have skip:∀o:QO,(∀G S',wZ (ar defs fuel d) fuel _ G S' t->o (.nx G,S'))->o (.nx [gV (.ref r),gV (.int m),td,td],S):=λo h=>h _ _ (bW S td i c x n f .refl)
 show#[λ_=>?_,λ_ o h C=>#[λz=>(by cases z),λ_=>(bu (skip o h)).out]]
 show dR (i:=1) f.at_r rfl (dR (i:=0) f.at_r rfl (ac (C5 f.at_q) ?_));delta EO wO wB;show aq (Q0:=t) (λhl o h _=>?_) (λB o h C=>bu (skip o h))
 clear skip;have E:i.toNat<↥ns:=by
  have:=Lr hl;rw[J4]at this;have:=f.i0;omega
 have j:(ns.map W.int)[i.toNat]?=gV (.int ns[i.toNat]):=by simp[E]
 generalize ns[i.toNat]=cell at j;have g:FlA (S.set r (.lst [.ref q,.int (i+1),.int c,.int x,.int n])) r q ns (i+1) c x n:=f.put (by have:=f.i0;omega) f.c0 f.x0 f.x1
 show st ?_;delta wS wE wV wG;show dR (i:=0) f.at_r rfl (dR (i:=1) f.at_r rfl (ac (yA f.at_q f.i0 j) ?_));show st ?_;delta wS wE wV wG Kv;show dR (i:=1) f.at_r rfl ?_;delta d7 wO;show mN (i:=1) f.at_r rfl ?_;show st ?_;delta wS wT wE wV wG EJ Jm wO wB;show aq (Q0:=t) (λB J w _=>?_) (λB J w _=>?_)
 ·show st ?_;delta wS wE wV wG;show mN (i:=2) g.at_r rfl (bu (w _ _ (bu (h _ _ ?_))));show bW _ _ (i+1) cell x n (g.put g.i0 (by have:=Lr B;omega) f.x0 f.x1) (Kp.set.trans .set)
 ·show st ?_;delta wS wE wV wG;show dR (i:=3) g.at_r rfl (ac (uf #v[] #v[]) (ac (mM #v[]) ?_))
  delta d7 wO;show mN (i:=3) g.at_r rfl (bu (w _ _ (bu (h _ _ ?_))));show bW _ _ (i+1) c _ n (g.put g.i0 f.c0 (Np _ #v[]) (MU _ #v[])) (Kp.set.trans .set)
end
abbrev dr:Kb->Ss->Ss
 |0,ss=>ss
 |n+1,.cons _ ss=>dr n ss
 |_,.nil=>.nil
def bM {α:Type}{a:α}{Q:α->Prop}:wO (gV a) Q=Q a:=rfl
def aR {M:KG->FF}{fuel:Kb}{Z:Fm}{S:aa}{Q:QO}{s:Sm}{ss:Ss}(h:∀K:Fm->aa->Prop,(∀a S',wZ M fuel ss a S' Q->K a S')->wS M fuel s Z S K Q):wZ M fuel (.cons s ss) Z S Q:=st (h _ λ_ _ h=>h)
def Hr {M:KG->FF}{fuel:Kb}{Z:Fm}{S:aa}{i:Kb}{e:E}{K:Fm->aa->Prop}{Q:QO}(h:wE M e Z S λp=>K (Z.set i (gV p.1)) p.2):wS M fuel (.set i e) Z S K Q:=h
def iQ {n:Kb}(h:T4 n 1000=true):n<=sizeLine:=Lq (Ob h) (by rw[Lu];decide)
def lb {n:Kb}(h:n<=1000):n<=sizeLine:=Lq h (by rw[Lu];decide)
def jJ {S:aa}{r:Kb}{xs:J2 W}{i:Ki}{w:W}{Q:QW}(h:S[r]?=gV (.lst xs))(a:0<=i)(hw:xs[i.toNat]?=gV w)(q:Q (w,S)):wO (ph (.ref r) (.int i) S) Q:=ac (yA h a hw) q
def ak {S:aa}{xs:J2 W}{i:Ki}{w:W}{Q:QW}(a:0<=i)(hw:xs[i.toNat]?=gV w)(q:Q (w,S)):wO (ph (.tup xs) (.int i) S) Q:=ac (Hi a hw) q
def jK {S:aa}{r:Kb}{xs:J2 W}{y:W}{Q:QW}(h:S[r]?=gV (.lst xs))(hl:↥xs<1000)(q:Q (.non,S.set r (.lst (xs++[y])))):wO (Me.append.fn (.ref r) [y] S) Q:=ac (yB h (Kw hl (iQ rfl))) q
def gS {S:aa}{r:Kb}{xs:J2 W}{Q:QW}(h:S[r]?=gV (.lst xs))(q:Q (.int ↥xs,S)):wO (Bi.len.fn [.ref r] S) Q:=ac (C5 h) q
def aF {S:aa}{xs:J2 W}{Q:QW}(q:Q (.int ↥xs,S)):wO (Bi.len.fn [.tup xs] S) Q:=q
def bZ {S:aa}{r:Kb}{xs:J2 W}{Q:QW}(h:S[r]?=gV (.lst xs))(q:Q (.tup xs,S)):wO (Bi.tuple.fn [.ref r] S) Q:=ac (Hk h) q
section
variable{M:KG->FF}{fuel:Kb}{Z:Fm}{S S1:aa}{K:Fm->aa->Prop}
def yF {t:E}{a:Ss}{Q:QO}(c:∀Q:QB,Q (false,S1)->wT M t Z S Q)(h:K Z S1):wS M fuel (.ite t a .nil) Z S K Q:=by
 delta wS;show c _ λd b e=>#[λz=>(by cases z),λ_=>(bu (b _ _ h)).out]
def Hs {t:E}{a b:Ss}{Q:QO}(g:∀Q:QB,Q (true,S1)->wT M t Z S Q)(h:∀c:QO,(∀d S',K d S'->c (.nx d,S'))->(∀w S',Q (.rt w,S')->c (.rt w,S'))->wZ M fuel a Z S1 c):wS M fuel (.ite t a b) Z S K Q:=by
 delta wS;show g _ λc e f=>#[λ_=>(h c e λw S' q=>f (.rt w) S' (λ_ z=>nomatch z) q).out,λz=>(by cases z)]
end
abbrev Ht (y:KG):Prop:=∀c∈y.cps.toList,97<=c/\c<=122
abbrev Name (y:KG):Prop:=1<=↥y.cps.toList/\↥y.cps.toList<=8/\Ht y
def oo {α:Type}{f:α->W}{xs:J2 α}{i:Kb}(h:i<↥xs):∃x∈xs,(xs.map f)[i]?=gV (f x):=#[xs[i],Ll _,by rw[Kg,Ke h];rfl]
def cw {α:Type}[Ny α]:∀(l m:J2 α),l.Nodup->(∀x∈l,x∈m)->↥l<=↥m
 |[],_,_,_=>Ml _
 |x::l,m,a,b=>by
  rw[Mo]at a;have c:x∈m:=b x (.head _);have f:=cw l (m.erase x) a.2 λy d=>(List.mem_erase_of_ne (λ(e:y=x)=>a.1 (by rw[<- e];show d))).mpr (b y (.tail _ d))
  rw[List.length_erase_of_mem c]at f;have:=List.length_pos_of_mem c;rw[K5];omega
abbrev r9:J2 KG:=["marks","ways","bar","some","each","not","and","or","is"]
def dS {xs:J2 W}{k:Kb}:o8 xs td (gV (k:Ki))=xs.take k:=by
 unfold o8;rw[HT.wL,HT.Ar,List.drop_zero,SK]
 by_cases h:k<=↥xs
 ·rw[RH h]
 ·rw[Nat.min_eq_right ∅,Pu (Kl _),Pu ∅]
section
variable{defs:J2 (KG×Df)}{fuel d:Kb}{S:aa}{r:Kb}{Q:QW}
abbrev uj (k:Kb):KG:=#[[110,97+k].toArray]
def sa {k:Kb}(h:k<26):Name (uj k):=#[(by decide:1<=2),(by decide:2<=8),λc hc=>by
 have hc:c∈[110,97+k]:=hc;simp only[KH,Lg,Mh]at hc;omega]
def yG:∀m,m<=6->(r9++(Kj m).map uj).Nodup:=λm a=>by
 rcases(show m=0\/m=1\/m=2\/m=3\/m=4\/m=5\/m=6 by omega)with rfl|rfl|rfl|rfl|rfl|rfl|rfl<;>decide
def BW:∀k:Fin 6,("abcdefgh": KG).cps.toList[k.val]?=gV (97+k.val):=by decide
def BX (l:20<fuel)(G:Gen defs){m:Kb}(j:Fl S r)(g:m<=6)(k:∀(ys:J2 KG) S',↥ys=m->(∀y∈ys,Name y)->(r9++ys).Nodup->Fl S' r->Kp r S S'->Q (.tup (ys.map W.str),S')) :
  wO (aL (ar defs fuel (d+4)) "_law_names" 2 [.ref r,.int m] S) Q:=by
 show az G.names rfl rfl λf h=>?_
 change wZ _ _ eg [gV (.ref r),gV (.int m)] S f;delta eg;show st ?_;delta wS wE wA;show gy (m:Ki) (λi ys b a=>(∃e,b=[td,e])/\ys=((Kj i).map uj).map W.str/\a=S) rfl rfl rfl ∅ #[rfl,#[td,rfl],rfl,rfl] ?_ ?_
 ·rintro i ys b a hi ⟨⟨e,rfl⟩,rfl,rfl⟩;delta eG wC wE wV wG Kv;show#[λ_=>ac (Hj (c:=97+i) #v[] (Kq i) ?_) (ac (EK (show 1+1<=sizeLine by rw[Lu];decide)) #[#[_,rfl],?_,rfl]),λz=>by cases z]
  ·rw[Kz];show BW #[i,∅]
  ·rw[Nq,KN,KN];rfl
 ·rintro ys b a ⟨_,rfl,rfl⟩;rw[Kz];show#[lb (by rw[J4,J4,KL];omega),bZ aj (h _ _ (k ((Kj m).map uj) _ (by rw[J4,KL]) (λy n=>?_) (yG m g) (j.ka .push) .push))]
  obtain⟨i,hi,rfl⟩:=Kn.mp n;show sa (by have:=Ky.mp hi;omega)
end
noncomputable abbrev Pt:=Ki×J2 Ki
noncomputable abbrev Wd:=J2 Pt
abbrev bN (p:Pt):W:=.tup [.int p.1,.tup (p.2.map W.int)]
abbrev aw (u:Wd):W:=.tup (u.map bN)
abbrev gT (p:Pt):T:=.tup [.int p.1,.tup (p.2.map T.int)]
abbrev ce (u:Wd):T:=.tup (u.map gT)
def uq:∀xs:J2 Ki,T.ws (xs.map T.int)=xs.map W.int
 |[]=>rfl
 |x::xs=>by simp[T.ws,T.w,uq xs]
def Hu (p:Pt):(gT p).w=bN p:=by simp[gT,bN,T.w,T.ws,uq]
def yH:∀u:Wd,T.ws (u.map gT)=u.map bN
 |[]=>rfl
 |p::u=>by simp[T.ws,Hu,yH u]
def yI (u:Wd):(ce u).w=aw u:=by simp[ce,aw,T.w,yH]
def Hv (u:Wd):W.t (aw u)=gV (ce u):=by rw[<- yI];show T.w_t _
def yJ:∀us:J2 Wd,T.ws (us.map ce)=us.map aw
 |[]=>rfl
 |u::us=>by simp[T.ws,yI,yJ us]
def Da (us:J2 Wd):W.ts (us.map aw)=gV (us.map ce):=by rw[<- yJ];show T.ws_ts _
def lc:∀xs:J2 Ki,T.depths (xs.map T.int)=0
 |[]=>rfl
 |x::xs=>by simp[T.depths,T.depth,lc xs]
def yK (p:Pt):(gT p).depth=2:=by simp[gT,T.depth,T.depths,lc]
def mO:∀u:Wd,T.depths (u.map gT)<=2
 |[]=>by simp[T.depths]
 |p::u=>by
  have:=mO u;revert Lb T.depths yK;omega
def qh (u:Wd):(ce u).depth<=3:=by
 have:=mO u;revert ce T.depth;omega
def js:∀us:J2 Wd,T.depths (us.map ce)<=3
 |[]=>by simp[T.depths]
 |u::us=>by
  have:=js us;have:=qh u;revert Lb T.depths;omega
def oq (u:Wd):gH (aw u)=gV (ce u):=by
 unfold gH;rw[Hv];show(if (ce u).isTup=true/\(ce u).depth<=ba then _ else _)=_
 rw[KC #[rfl,by have:=qh u;unfold ba;omega]]
mutual
def ql:T->T->KR
 |.int _,.int _=>true
 |.str _,.str _=>true
 |.tup xs,.tup ys=>iR xs ys
 |_,_=>false
def iR:J2 T->J2 T->KR
 |[],_=>true
 |_,[]=>true
 |x::xs,y::ys=>ql x y&&iR xs ys
end
mutual
theorem sd:∀x y:T,ql x y=true->(fK x y).isSome=true
 |.int _,.int _,_=>rfl
 |.str _,.str _,_=>rfl
 |.tup xs,.tup ys,h=>by
  dsimp only[ql]at h;delta fK;show ur xs ys h
 |.int _,.str _,h|.int _,.tup _,h|.str _,.int _,h|.str _,.tup _,h|.tup _,.int _,h|.tup _,.str _,h=>by cases h
theorem ur:∀xs ys:J2 T,iR xs ys=true->(cF xs ys).isSome=true
 |[],[],_=>rfl
 |[],_::_,_=>rfl
 |_::_,[],_=>rfl
 |x::xs,y::ys,h=>by
  dsimp only[iR]at h;simp only[Kc]at h
  delta cF;split
  ·show ur xs ys h.2
  ·show sd x y h.1
end
def qm:∀xs ys:J2 Ki,iR (xs.map T.int) (ys.map T.int)=true
 |[],_=>rfl
 |_::_,[]=>rfl
 |x::xs,y::ys=>by delta TX iR ql;simp[qm xs ys]
def yL (p q:Pt):ql (gT p) (gT q)=true:=by delta gT ql iR;simp[qm]
def ut:∀u v:Wd,iR (u.map gT) (v.map gT)=true
 |[],_=>rfl
 |_::_,[]=>rfl
 |p::u,q::v=>by delta TX iR;simp[yL,ut u v]
def ER (u v:Wd):ql (ce u) (ce v)=true:=by delta ce ql;show ut _ _
def gA (us:J2 Wd):eO (us.map ce)=true:=by
 unfold eO;rw[KD];intro x a;obtain⟨u,_,rfl⟩:=Kn.mp a;rw[KD];intro y b;obtain⟨v,_,rfl⟩:=Kn.mp b;show sd _ _ (ER u v)
def ES (us:J2 Wd)(h:∀u∈us,u≠[]):(AV (us.map ce)).isSome=true:=by
 unfold AV;split
 ·rfl
 ·split
  ·rfl
  ·split
   ·rfl
   ·split
    ·rfl
    ·split
     ·rfl
     ·rename_i a;exfalso;apply a;rw[KD];intro x c;obtain⟨u,b,rfl⟩:=Kn.mp c;cases u with
      |nil=>show absurd rfl (h [] b)
      |cons p u=>rfl
abbrev aY (bs:J2 Ki)(u:Wd)(i j:Kb):Ki:=if j<i then((u.getD i (0,[])).2).getD j 0 else bs.getD (((u.getD j (0,[])).2).getD i 0).toNat 0
abbrev ae (bs:J2 Ki)(u:Wd)(ps:J2 Kb):Wd:=(Kj ↥ps).map λk=>((u.getD (ps.getD k 0) (0,[])).1,(ps.take k).map λj=>aY bs u (ps.getD k 0) j)
abbrev am:J2 (J2 Kb):=[[0,1,2],[0,2,1],[1,0,2],[1,2,0],[2,0,1],[2,1,0]]
abbrev cG (bs:J2 Ki)(u:Wd):Wd:=(am.map (ae bs u)).getD (g6 ((am.map (ae bs u)).map ce)) []
abbrev aG (n:KG)(b:Ki):W:=.tup [.str n,.int b]
structure GoodW (a n:Kb)(u:Wd):Prop where
 mark:∀(k:Kb) (p:Pt),u[k]?=gV p->0<=p.1/\p.1<a
 len:∀(k:Kb) (p:Pt),u[k]?=gV p->↥p.2=k
 way:∀(k:Kb) (p:Pt),u[k]?=gV p->∀w∈p.2,0<=w/\w<n
abbrev GoodB (bs:J2 Ki):Prop:=bs=[0]\/bs=[0,1]\/bs=[1,0]\/bs=[0,1,2]\/bs=[1,0,2]\/bs=[0,2,1]
def GoodB.rng {bs:J2 Ki}(h:GoodB bs):∀k:Kb,k<↥bs->∃b:Ki,bs[k]?=gV b/\0<=b/\b<↥bs:=by
 rcases h with rfl|rfl|rfl|rfl|rfl|rfl<;>intro k hk
 ·match k,hk with
  |0,_=>show#[0,rfl,#v[],#v[]]
 ·match k,hk with
  |0,_=>show#[0,rfl,#v[],#v[]]
  |1,_=>show#[1,rfl,#v[],#v[]]
 ·match k,hk with
  |0,_=>show#[1,rfl,#v[],#v[]]
  |1,_=>show#[0,rfl,#v[],#v[]]
 ·match k,hk with
  |0,_=>show#[0,rfl,#v[],#v[]]
  |1,_=>show#[1,rfl,#v[],#v[]]
  |2,_=>show#[2,rfl,#v[],#v[]]
 ·match k,hk with
  |0,_=>show#[1,rfl,#v[],#v[]]
  |1,_=>show#[0,rfl,#v[],#v[]]
  |2,_=>show#[2,rfl,#v[],#v[]]
 ·match k,hk with
  |0,_=>show#[0,rfl,#v[],#v[]]
  |1,_=>show#[2,rfl,#v[],#v[]]
  |2,_=>show#[1,rfl,#v[],#v[]]
def getD_some {α:Type}{xs:J2 α}{i:Kb}{x d:α}(h:xs[i]?=gV x):xs.getD i d=x:=by simp[h]
def ap {α:Type}{xs:J2 α}{i:Kb}{d:α}(h:i<↥xs):xs[i]?=gV (xs.getD i d):=by simp[h]
def ou {ns:J2 KG}{bs:J2 Ki}{k:Kb}{n:KG}{b:Ki}(a:ns[k]?=gV n)(c:bs[k]?=gV b):(Ku aG ns bs)[k]?=gV (aG n b):=by
 rw[List.getElem?_zipWith,a,c]
abbrev ab (ps:J2 Kb):J2 W:=ps.map λ(p:Kb)=>W.int (p:Ki)
def fe {ps:J2 Kb}{k p:Kb}(h:ps[k]?=gV p):(ab ps)[k]?=gV (.int p):=by simp[ab,h]
def aA (bs:J2 Ki)(u:Wd)(ps:J2 Kb):(ae bs u ps).length=↥ps:=by unfold ae;rw[J4,KL]
def cx {u:Wd}{i:Kb}(hi:i<↥u):(u.map bN)[((i:Kb):Ki).toNat]?=gV (bN (u.getD i (0,[]))):=by
 rw[Kz,Kg,ap hi];rfl
section
variable{defs:J2 (KG×Df)}{fuel d:Kb}{S:aa}{r:Kb}{Q:QW}
def yM {M:KG->FF}{m0 b0:W}{ns:J2 KG}{bs:J2 Ki}{a:Kb}{u:Wd}{i j:Kb}{Q:QO}(r:GoodB bs)(hl:↥ns=↥bs)(m:GoodW a ↥bs u)(hi:i<↥u)(o:j<↥u)(w:i≠j)(k:Q (.rt (.int (aY bs u i j)),S)) :
  wZ M fuel cW [gV (.tup [m0,.tup (Ku aG ns bs),b0]),gV (aw u),gV (.int i),gV (.int j)] S Q:=by
 have l:=ap (d:=(0,[])) hi;have f:=ap (d:=(0,[])) o;unfold aY at k;delta cW;nofun
 delta wS wT wE wV wG EO wO wB aw;show aq (Q0:=Q) (λh p _ x=>?_) (λh p g _=>?_)
 ·have c:j<i:=by have:=Lr h;omega
  rw[KC c]at k;have hw:j<(u.getD i (0,[])).2.length:=by rw[m.len i _ l];show c
  show st ?_;delta wS wE wV wG;show ak (Kq i) (cx hi) (ak #v[] rfl (ak (Kq j) ?_ (x _ _ k)))
  rw[Kz,Kg,ap (d:=0) hw];rfl
 ·have c:¬ j<i:=by have:=NY h;omega
  rw[KS c]at k;show bu (g _ _ (hK _ _ ?_));clear g hK;have hw:i<(u.getD j (0,[])).2.length:=by rw[m.len j _ f];omega
  have n:=ap (d:=0) hw;obtain⟨q,y⟩:=m.way j _ f _ (Kt n);obtain⟨b,e,s,t⟩:=r.rng ((u.getD j (0,[])).2.getD i 0).toNat ∅
  have g:((u.getD j (0,[])).2.getD i 0).toNat<↥ns:=∅
  rw[getD_some e]at k;show st ?_;delta wS wE wV wG;show ak #v[] rfl (ak (Kq j) (cx o) (ak #v[] rfl (ak (Kq i) ?_ (ak q (ou (Ke g) e) (ak #v[] rfl k)))))
  rw[Kz,Kg,n];rfl
def mP (G:Gen defs){m0 b0:W}{ns:J2 KG}{bs:J2 Ki}{a:Kb}{u:Wd}{i j:Kb}(e:GoodB bs)(hl:↥ns=↥bs)(g:GoodW a ↥bs u)(hi:i<↥u)(f:j<↥u)(b:i≠j)(k:Q (.int (aY bs u i j),S)) :
  wO (aL (ar defs fuel (d+1)) "_law_between" 4 [.tup [m0,.tup (Ku aG ns bs),b0],aw u,.int i,.int j] S) Q:=
 az G.between rfl rfl λh c=>yM e hl g hi f b (c _ _ k)
def se (G:Gen defs){m0 b0:W}{ns:J2 KG}{bs:J2 Ki}{a:Kb}{u:Wd}{ps:J2 Kb}(H:GoodB bs)(hl:↥ns=↥bs)(J:GoodW a ↥bs u)(g:∀p∈ps,p<↥u)(x:ps.Nodup)(hsz:↥ps<1000)(k:∀S',Ka S S'->Q (aw (ae bs u ps),S')) :
  wO (aL (ar defs fuel (d+2)) "_law_part" 3 [.tup [m0,.tup (Ku aG ns bs),b0],aw u,.tup (ab ps)] S) Q:=by
 show az G.part rfl rfl λB D=>?_
 replace k:∀S',Ka S S'->B (.rt (aw (ae bs u ps)),S'):=λS' a=>D _ _ (k S' a)
 clear D;change wZ _ _ cN [gV (.tup [m0,.tup (Ku aG ns bs),b0]),gV (aw u),gV (.tup (ab ps)),td,td,td] S B;generalize t:W.tup [m0,.tup (Ku aG ns bs),b0]=R;delta cN;show st ?_;delta wS wE wA Kv;nofun
 have L:(ab ps).length=↥ps:=J4 ..;show cv (↥ps:Ki) (λk Z S'=>∃r s,Z=[gV R,gV (aw u),gV (.tup (ab ps)),gV (.ref ↥S),r,s]/\S'[↥S]?=gV (.lst (((ae bs u ps).take k).map bN))/\Ka S S') rfl rfl ∅ ?_ ?_ ?_
 ·delta wE wA wV wG;show aF ?_;rw[L];show#[rfl,td,td,rfl,aj,.push]
 ·rintro i Z S1 hi ⟨r,s,rfl,e,A⟩ M I _;clear hK;have b:i<↥ps:=∅
  have E:ps[i]?=gV ps[i]:=Ke b;have l:ps[i]<↥u:=g _ (Ll b);show st ?_;delta wS wE wV wG Kv;show ak (Kq i) (by rw[Kz];show fe E) ?_
  show st ?_;left;show#[cM e,ak (Kq _) (cx l) (ak #v[] rfl ?_)]
  show ug (ab (ps.take i)) (λj ys n c=>(∃o,n=[td,o,gV (.int ps[i]),gV R,gV (aw u)])/\ys=((ps.take i).take j).map (λq=>W.int (aY bs u ps[i] q))/\Ka S1 c) rfl rfl rfl ?_ ?_ ?_
  ·delta wE wP wV wG wN;show ac (a:=(.tup (ab (ps.take i)),S1)) ?_ #[rfl,#[td,rfl],rfl,.refl];revert rC dS;unfold ab;rw[MD]
  ·rintro j w ys n c hw ⟨⟨o,rfl⟩,rfl,m⟩;have f:j<(ps.take i).length:=by
    have:=(Ko.mp hw).1;unfold ab at this
    rwa [J4]at this
   have y:(ps.take i)[j]?=gV (ps.take i)[j]:=Ke f;cases(fe y).symm.trans hw;have N:j<i:=by rw[KY]at f;omega
   have eq:(ps.take i)[j]=ps[j]'∅:=Mm
   generalize(ps.take i)[j]=q at y eq ⊢;show ac (show gh (.nm 1) (.int (q:Ki)) [td,o,gV (.int ps[i]),gV R,gV (aw u)] c=gV ([td,gV (.int (q:Ki)),gV (.int ps[i]),gV R,gV (aw u)],c)from rfl) ?_
   delta eG wC wE wA wV wG;subst t;show#[λ_=>mP (d:=d) G H hl J l (by rw[eq];show g _ (Ll _)) ?_ #[#[_,rfl],?_,m],λz=>by cases z]
   ·rw[eq];intro h;have:=(L1 x).mp h;omega
   ·rw[K7,y];simp
  ·rintro ys n c ⟨_,rfl,m⟩;rw[show(ab (ps.take i)).length=(ps.take i).length from J4 ..,Li]
   show#[lb (by rw[J4,KY];omega),bZ aj ?_]
   have C:=au (u:=O.lst ((ps.take i).map λq=>W.int (aY bs u ps[i] q))) (m.get _ _ e)
   show jK C (by rw[J4,KY];omega) (bu (I _ _ #[_,_,rfl,?_,((A.trans m).trans .push).late (Kl _)]))
   rw[bm C];have ep:(ae bs u ps)[i]?=gV ((u.getD ps[i] (0,[])).1,(ps.take i).map λq=>aY bs u ps[i] q):=by
    unfold ae;rw[Kg,LO b,KM,getD_some E]
   rw[K7,ep];simp[bN,OX]
 ·rintro Z S1 ⟨r,s,rfl,e,A⟩;rw[Kz,<- aA bs u ps,Li]at e;show hK _ _ (st ?_);left;show bZ e (k _ A)
def jX (G:Gen defs)(k:Q (.ref ↥S,S++[.lst (am.map λt=>W.tup (ab t))])):wO (aL (ar defs fuel (d+1)) "_law_turns" 0 [] S) Q:=by
 show az G.turns rfl rfl λb a=>?_
 delta fU;show st ?_;delta wS wE wA;show a _ _ k
def cO (bt:Kb->Kb->KR):∀n:Kb,argBest bt n<=n
 |0=>Kl _
 |n+1=>by have:=cO bt n;revert argBest;split<;>omega
def qo (G:Gen defs){m0 b0:W}{ns:J2 KG}{bs:J2 Ki}{a:Kb}{u:Wd}(r:GoodB bs)(hl:↥ns=↥bs)(v:GoodW a ↥bs u)(q:↥u=3)(k:∀S',Ka S S'->Q (aw (cG bs u),S')) :
  wO (aL (ar defs fuel (d+3)) "_law_figure" 2 [.tup [m0,.tup (Ku aG ns bs),b0],aw u] S) Q:=by
 show az G.figure rfl rfl λm n=>?_
 replace k:∀S',Ka S S'->m (.rt (aw (cG bs u)),S'):=λS' a=>n _ _ (k S' a)
 clear n;change wZ _ _ dv [gV (.tup [m0,.tup (Ku aG ns bs),b0]),gV (aw u)] S m;generalize j:W.tup [m0,.tup (Ku aG ns bs),b0]=R;delta dv;show st ?_;delta wS wE wA;show uh ↥S (am.map λt=>W.tup (ab t)) (λi ys g b=>(∃h,g=[td,h,gV R,gV (aw u)])/\ys=((am.take i).map λt=>aw (ae bs u t))/\Ka (S++[.lst (am.map λt=>W.tup (ab t))]) b) rfl rfl rfl ?_ ?_ ?_ ?_
 ·delta wE wA;show jX (d:=d+1) G #[rfl,#[td,rfl],rfl,.refl]
 ·rintro i ys g b ⟨_,_,f⟩;show f.get _ _ aj
 ·rintro i w ys g b hw ⟨⟨h,rfl⟩,rfl,f⟩;rw[Kg,J6]at hw;obtain⟨t,o,rfl⟩:=hw;have c:(∀p∈t,p<3)/\t.Nodup/\↥t<1000:=by
   have:∀t∈am,(∀p∈t,p<3)/\t.Nodup/\↥t<1000:=by decide
   show this t (Kt o)
  show ac (show gh (.nm 1) (.tup (ab t)) [td,h,gV R,gV (aw u)] b=gV ([td,gV (.tup (ab t)),gV R,gV (aw u)],b)from rfl) ?_
  delta eG wC wE wA wV wG;subst j;show#[λ_=>se (d:=d) G r hl v (λp s=>by rw[q];show c.1 p s) c.2.1 c.2.2 λy x=>#[#[_,rfl],?_,f.trans x],λz=>by cases z]
  rw[K7,o];simp
 ·rintro ys g b ⟨_,rfl,f⟩;have e:((am.take (am.map λt=>W.tup (ab t)).length).map λt=>aw (ae bs u t))=(am.map (ae bs u)).map aw:=by
   rw[J4,Li,K6];rfl
  rw[e];show#[iQ rfl,ac (a:=(aw (cG bs u),b++[.lst ((am.map (ae bs u)).map aw)])) ?_ (k _ ((Ka.push.trans f).trans .push))];simp only[Bi.fn,xC,aC aj,Da];rw[KC #[by have:=js (am.map (ae bs u));unfold d4;omega,gA _]]
  unfold cG;have l:g6 ((am.map (ae bs u)).map ce)<(am.map (ae bs u)).length:=QK (cO _ _) (by decide:5<6)
  rw[Kg,ap (d:=[]) l];rfl
end
abbrev ah (xs:J2 Ki):J2 W:=xs.map W.int
abbrev fW (us:J2 Wd):J2 Wd:=eN (vm (us.map ce)) [] us
def yN {α β:Type}{lt:Kb->Kb->KR}{d:α}{d':β}{f:α->β}{us:J2 α}:eN lt d' (us.map f)=(eN lt d us).map f:=by
 unfold eN;rw[J4];split
 ·rfl
 ·rw[K6];show Le λi hi=>?_
  have hl:i<↥us:=nM ∅ i hi
  simp[hl]
def sf {S:aa}{x:W}{us:J2 Wd}(h:eX S x=gV (us.map aw))(a:↥us<64)(b:∀u∈us,u≠[]):iG [x] S=gV (.ref ↥S,S++[.lst ((fW us).map aw)]):=by
 have ok:nL (us.map ce)=true:=by
  unfold nL;revert Kc Mp KP J4;show#[#[a,by have:=js us;unfold d4;omega],.inr #[ES us b,gA us]]
 revert iG h Da;rw[KC ok,yN (d:=[])];rfl
abbrev di (a ns:J2 KG)(bs:J2 Ki)(us:J2 Wd):W:=.tup [.tup (a.map W.str),.tup (Ku aG ns bs),.tup (us.map aw)]
structure GoodN (ms ns:J2 KG):Prop where
 name:∀y∈ms++ns,Name y
 nd:(r9++(ms++ns)).Nodup
def GoodW.nil {a n:Kb}:GoodW a n []:=#[λk p h=>(by simp at h),λk p h=>(by simp at h),λk p h=>(by simp at h)]
def GoodW.snoc {a n:Kb}{u:Wd}{m:Ki}{ws:J2 Ki}(h:GoodW a n u)(c:0<=m/\m<a)(d:↥ws=↥u)(f:∀w∈ws,0<=w/\w<(n:Ki)):GoodW a n (u++[(m,ws)]):=by
 have b:∀(k:Kb) (p:Pt),(u++[(m,ws)])[k]?=gV p->u[k]?=gV p\/(k=↥u/\p=(m,ws)):=λk p e=>by
  rcases Pp k ↥u with hk|hk
  ·rw[Lf hk]at e;show .inl e
  ·rw[Lv hk]at e;have:k-↥u=0:=by
    have:=(Ko.mp e).1;simp at this;omega
   rw[this]at e;cases e;show .inr #[∅,rfl]
 show#[λk p e=>?_,λk p e=>?_,λk p e=>?_]<;>rcases b k p e with e|⟨rfl,rfl⟩
 ·show h.mark k p e
 ·show c
 ·show h.len k p e
 ·show d
 ·show h.way k p e
 ·show f
def GoodB.inv {bs:J2 Ki}(h:GoodB bs):∀k:Kb,k<↥bs->bs.getD (bs.getD k 0).toNat 0=k:=by
 rcases h with rfl|rfl|rfl|rfl|rfl|rfl<;>decide
def GoodB.at {bs:J2 Ki}(h:GoodB bs){x:Ki}(d:0<=x)(e:x<↥bs):bs[x.toNat]?=gV (bs.getD x.toNat 0)/\0<=bs.getD x.toNat 0/\bs.getD x.toNat 0<↥bs:=by
 obtain⟨b,a,c⟩:=h.rng x.toNat ∅
 rw[getD_some a];show#[a,c]
def yO {S:aa}{x:W}{us:J2 Wd}{Q:QW}(h:eX S x=gV (us.map aw))(a:↥us<64)(b:∀u∈us,u≠[])(q:Q (.ref ↥S,S++[.lst ((fW us).map aw)])):wO (Bi.sorted.fn [x] S) Q:=by
 show ac ?_ q;show sf h a b
abbrev yP:J2 (Kb×Kb):=[(1,1),(2,1),(3,1),(1,2),(1,2),(2,2),(2,2),(3,2),(1,3),(1,3),(2,3)]
def yQ:∀p∈yP,1<=p.1/\p.1<=3/\1<=p.2/\p.2<=3/\p.1*p.2<=6:=by decide
abbrev lf:Kb->J2 (J2 Ki)
 |1=>[[0]]
 |2=>[[0,1],[1,0]]
 |_=>[[0,1,2],[1,0,2],[0,2,1]]
def yR:∀n:Kb,1<=n->n<=3->(∀b∈lf n,GoodB b/\↥b=n)/\0<(lf n).length/\(lf n).length<=3
 |1,_,_=>#[λb h=>by cases KA.mp h;show#[.inl rfl,rfl],#v[],#v[]]
 |2,_,_=>#[λb h=>by
   rcases KH.mp h with rfl|h
   ·show#[.inr (.inl rfl),rfl]
   ·cases KA.mp h;show#[.inr (.inr (.inl rfl)),rfl],#v[],#v[]]
 |3,_,_=>#[λb h=>by
   rcases KH.mp h with rfl|h
   ·show#[.inr (.inr (.inr (.inl rfl))),rfl]
   ·rcases KH.mp h with rfl|h
    ·show#[.inr (.inr (.inr (.inr (.inl rfl)))),rfl]
    ·cases KA.mp h;show#[.inr (.inr (.inr (.inr (.inr rfl)))),rfl],#v[],#v[]]
 |0,h,_=>absurd h #v[]
 |n+4,_,h=>absurd h ∅
section
variable{defs:J2 (KG×Df)}{fuel d:Kb}{S:aa}{r:Kb}{Q:QW}
def BY (G:Gen defs)(b:Fl S r)(k:∀(a n:Kb) S',1<=a->a<=3->1<=n->n<=3->a*n<=6->Fl S' r->Kp r S S'->Q (.tup [.int a,.int n],S')) :
  wO (aL (ar defs fuel (d+2)) "_law_sizes" 1 [.ref r] S) Q:=by
 show az G.sizes rfl rfl λg m=>?_
 change wZ _ _ ee [gV (.ref r),td] S g;delta ee;show st ?_;delta wS wE wA Kv;show st ?_;left;show bE (d:=d) G.pick (b.ka .push) #v[] #v[] λv S1 s t l c=>?_
 have e:=c.get _ _ (LU b.lt) aj;obtain⟨p,o,ep⟩:=oo (f:=λp:Kb×Kb=>W.tup [.int p.1,.int p.2]) (xs:=yP) (i:=v.toNat) (by change v.toNat<11;omega)
 obtain⟨h,j,q,n3,an⟩:=yQ p o;show jJ e s ep (m _ _ (k _ _ _ h j q n3 an l (Kp.push.trans c)))
def BZ (G:Gen defs){n:Kb}(o:Fl S r)(A:1<=n)(B:n<=3)(k:∀(bs:J2 Ki) S',GoodB bs->↥bs=n->Fl S' r->Kp r S S'->Q (.tup (ah bs),S')) :
  wO (aL (ar defs fuel (d+2)) "_law_backs" 2 [.ref r,.int n] S) Q:=by
 show az G.backs rfl rfl λh l=>?_
 replace k:∀(bs:J2 Ki) S',GoodB bs->↥bs=n->Fl S' r->Kp r S S'->h (.rt (.tup (ah bs)),S'):=λz S' a b c e=>l _ _ (k z S' a b c e)
 clear l;change wZ _ _ d8 [gV (.ref r),gV (.int n),td] S h;delta d8;nofun
 left;delta mL bM;obtain⟨g,x,y⟩:=yR n A B;have fin:∀(t:Kb) (S1:aa),↥S<=t->S1[t]?=gV (.lst ((lf n).map λb=>.tup (ah b)))->Ka S S1->K [gV (.ref r),gV (.int n),gV (.ref t)] S1:=by
  intro t S1 D j ka;show hK _ _ (st ?_);left;show gS j ?_;rw[J4];show bE (d:=d) G.pick (o.ka ka) ∅ ∅ λv q C E w p=>?_
  have s:=p.get _ _ (by have:=o.lt;omega) j
  obtain⟨b,m,u⟩:=oo (f:=λb:J2 Ki=>W.tup (ah b)) (xs:=lf n) (i:=v.toNat) ∅
  show jJ s C u (k b q (g b m).1 (g b m).2 w ((ka.kp r).trans p))
 clear hK x y g;rcases(show n=1\/n=2\/n=3 by omega)with rfl|rfl|rfl
 ·show dR (i:=0) aj rfl (fin _ _ (Kl _) (au (au (au aj))) (Ka.push.trans (Ka.push.trans (Ka.push.trans .push))))
 ·show dR (i:=1) aj rfl (fin _ _ (by simp) (au (au aj)) (Ka.push.trans (Ka.push.trans (Ka.push.trans .push))))
 ·show dR (i:=2) aj rfl (fin _ _ (by revert Kh;omega) (au aj) (Ka.push.trans (Ka.push.trans (Ka.push.trans .push))))
def mQ (p:20<fuel)(G:Gen defs){a:Kb}{bs:J2 Ki}{x:W}{us:J2 Wd}(H:Fl S r)(N:a<=3)(P:↥bs<=3)(J:∀S',Kp r S S'->eX S' x=gV (us.map aw))(o:↥us<64)(q:∀u∈us,u≠[])
  (k:∀(g ns:J2 KG) S',↥g=a->↥ns=↥bs->GoodN g ns->Fl S' r->Kp r S S'->Q (di g ns bs (fW us),S')) :
  wO (aL (ar defs fuel (d+5)) "_law_rule_of" 4 [.ref r,.int a,.tup (ah bs),x] S) Q:=by
 show az G.rule_of rfl rfl λt B=>?_
 replace k:∀(g ns:J2 KG) S',↥g=a->↥ns=↥bs->GoodN g ns->Fl S' r->Kp r S S'->t (.rt (di g ns bs (fW us)),S'):=λz y S' a b c e f=>B _ _ (k z y S' a b c e f)
 clear B;change wZ _ _ cX [gV (.ref r),gV (.int a),gV (.tup (ah bs)),gV x,td,td] S t;have j:(ah bs).length=↥bs:=J4 ..;delta cX;nofun
 left;show aF ?_;rw[j];delta d7 bM;show BX (d:=d) (m:=a+↥bs) p G H ∅ λys S1 R L M E C=>hK _ _ ?_
 clear hK K;have s:(Ku aG (ys.drop a) bs).length=↥bs:=by
  rw[NP,Oe];omega
 nofun
 delta wS wE wA Kv;show gy (↥bs:Ki) (λk zs n h=>(∃v,n=[td,v,gV (.tup (ah bs)),gV (.int a),gV (.tup (ys.map W.str))])/\zs=((Ku aG (ys.drop a) bs).take k)/\h=S1) rfl rfl rfl ∅ ?_ ?_ ?_
 ·delta wE wA wV wG;show aF ?_;rw[j];show#[rfl,#[td,rfl],rfl,rfl]
 ·rintro i zs n h hi ⟨⟨v,rfl⟩,rfl,rfl⟩;clear hK;have l:i<↥bs:=∅
  have A:a+i<↥ys:=∅
  delta eG wC wE wA wV wG Kv d7 bM;show#[λ_=>ak ∅ (w:=.str ys[a+i]) ?_ (ak ∅ (w:=.int bs[i]) ?_ #[#[_,rfl],?_,rfl]),λz=>by cases z]
  ·rw[show((a:Ki)+(i:Ki)).toNat=a+i by omega,Kg,Ke A];rfl
  ·unfold ah;rw[Kz,Kg,Ke l];rfl
  ·have D:(Ku aG (ys.drop a) bs)[i]?=gV (aG ys[a+i] bs[i]):=ou (by rw[List.getElem?_drop];show Ke A) (Ke l)
   rw[K7,D];rfl
 ·rintro zs n h ⟨_,rfl,rfl⟩;rw[Kz,<- s,Li];show#[lb ∅,bZ aj (hK _ _ ?_)]
  clear hK K;show st ?_;delta wS wE wA wP wV wG wN;have I:rC (.tup (ys.map W.str)) td (gV (a:Ki)) (h++[O.lst (Ku aG (ys.drop a) bs)])=gV (.tup ((ys.take a).map W.str),h++[O.lst (Ku aG (ys.drop a) bs)]):=by
   revert rC dS;rw[MD]
  show ac I (yO (J _ (C.trans .push)) o q (bZ aj ?_));show k (ys.take a) (ys.drop a) _ ?_ ?_ #[?_,?_] ((E.ka .push).ka .push) (C.trans (Kp.push.trans .push))
  ·rw[KY];omega
  ·rw[Oe];omega
  ·rw[Oc];show L
  ·rw[Oc];show M
def lg (b:20<fuel)(G:Gen defs){a:Kb}{bs:J2 Ki}(g:Fl S r)(e:a<=3)(f:↥bs<=3)
  (k:∀(c ns:J2 KG) S',↥c=a->↥ns=↥bs->GoodN c ns->Fl S' r->Kp r S S'->Q (di c ns bs [],S')) :
  wO (aL (ar defs fuel (d+5)) "_law_rule_of" 4 [.ref r,.int a,.tup (ah bs),.tup []] S) Q:=
 mQ b G g e f (us:=[]) (λ_ _=>rfl) #v[] (λ_ h=>nomatch h) k
def draws {M:KG->FF}{Z:Fm}{c e:E}{f:J2 (J9 Kb)}{n i:Kb}{R:Fm}(y:cH c=true)(A:cH e=true)(G:i<=1000)(hc:dO f Z=td::td::R)(t:Fl S r)(s:∀Q:QW,Q (.int i,S)->wE M e Z S Q)
  (u:∀(a:J9 W) (S1:aa) (Q:QW),Fl S1 r->(∀v S',0<=v->v<(n:Ki)->Fl S' r->Kp r S1 S'->Q (.int v,S'))->wE M c (td::a::R) S1 Q)
  (k:∀(vs:J2 Ki) S',↥vs=i->(∀w∈vs,0<=w/\w<(n:Ki))->Fl S' r->Kp r S S'->Q (.ref ↥S',S'++[.lst (ah vs)])) :
  Wp (aB M (.comp c (.nm 1) (.rng #v[e]) .nil f) Z S) Q:=by
 show gy (i:Ki) (λj ys g d=>(∃p,g=td::p::R)/\(∃vs:J2 Ki,ys=ah vs/\↥vs=j/\∀w∈vs,0<=w/\w<(n:Ki))/\Fl d r/\Kp r S d) A y rfl ∅ (s _ #[rfl,#[td,hc],#[[],rfl,rfl,λ_ h=>nomatch h],t,.refl]) ?_ ?_
 ·rintro j ys g d H ⟨⟨p,rfl⟩,⟨vs,rfl,b,m⟩,l,o⟩;show#[λ_=>u _ _ _ l λv D B C q x=>#[#[_,rfl],#[vs++[v],(KN (l₁:=vs) (l₂:=[v])).symm,by rw[Kh,b];rfl,λw hw=>?_],q,o.trans x],λz=>by cases z]
  rcases La.mp hw with h|h
  ·show m w h
  ·rw[KA.mp h];show#[B,C]
 ·rintro ys g d ⟨_,⟨vs,rfl,b,m⟩,l,o⟩;rw[Kz]at b;show#[lb (by rw[show(ah vs).length=↥vs from J4 ..];omega),k vs d b m l o]
def ow (G:Gen defs){a n:Kb}(A:Fl S r)(V:0<a)(I:a<=3)(W:0<n)(J:n<=3)(k:∀(u:Wd) S',↥u=3->GoodW a n u->Fl S' r->Kp r S S'->Q (aw u,S')) :
  wO (aL (ar defs fuel (d+2)) "_law_free_three" 3 [.ref r,.int a,.int n] S) Q:=by
 show az G.free_three rfl rfl λw y=>?_
 replace k:∀(u:Wd) S',↥u=3->GoodW a n u->Fl S' r->Kp r S S'->w (.rt (aw u),S'):=λz S' a b c e=>y _ _ (k z S' a b c e)
 clear y;change wZ _ _ bR [gV (.ref r),gV (.int a),gV (.int n),td,td] S w;delta bR;have o:=A.lt;show st ?_;delta wS wE wA Kv;nofun
 show cv 3 (λk Z S'=>∃j u,Z=[gV (.ref r),gV (.int a),gV (.int n),gV (.ref ↥S),j]/\S'[↥S]?=gV (.lst (u.map bN))/\↥u=k/\GoodW a n u/\Fl S' r/\Kp r S S') rfl rfl #v[] #[rfl,td,[],rfl,aj,rfl,.nil,A.ka .push,.push] ?_ ?_
 ·rintro i Z S1 hi ⟨j,u,rfl,h,g,p,l,t⟩ P m _;clear hK;show st ?_;left;show#[cM h,bE (d:=d) G.pick l ∅ ∅ λv T M N E B=>?_]
  have D:=B.get _ _ ∅ h
  show draws (n:=n) (i:=i) (R:=[gV (.ref r),gV (.int n)]) rfl rfl ∅ rfl E (λQ q=>q) (λa S1 Q f q=>bE (d:=d) G.pick f ∅ ∅ q) λvs U s L H C=>?_
  have x:=au (u:=O.lst (ah vs)) (C.get _ _ ∅ D)
  show bZ aj (jK x (by rw[J4];omega) (bu (m _ _ #[_,u++[(v,vs)],rfl,?_,by rw[Kh,g];rfl,p.snoc #[M,N] (s.trans g.symm) L,(H.ka .push).own o,(t.trans (B.trans (C.trans .push))).late (Kl _)])))
  rw[bm x,KN];rfl
 ·rintro Z S1 ⟨j,u,rfl,h,g,p,l,t⟩;show hK _ _ (st ?_);left;show bZ h (k u _ g p l t)
end
abbrev fB (n:Kb):J2 Ki:=(Kj n).map λ(k:Kb)=>(k:Ki)
abbrev qp (a n:Kb):J2 Wd:=(fB a).flatMap λm0=>(fB a).flatMap λm1=>(fB a).flatMap λm2=>(fB n).flatMap λb=>(fB n).flatMap λw2=>(fB n).map λw3=>[(m0,[]),(m1,[b]),(m2,[w2,w3])]
abbrev aS (a:Kb)(bs:J2 Ki):J2 Wd:=((qp a ↥bs).map (cG bs)).eraseDups
def aI {n:Kb}{x:Ki}(a:0<=x)(b:x<n):x∈fB n:=Kn.mpr #[x.toNat,Ky.mpr ∅,∅]
def vG {a n:Kb}{u:Wd}(h:GoodW a n u)(k:↥u=3):u∈qp a n:=by
 match u,k with
 |[(m0,l),(m1,m),(m2,w2)],_=>
  have g:=h.len 0 _ rfl;have i:=h.len 1 _ rfl;have j:=h.len 2 _ rfl;simp only at g i j
  match l,g with
  |[],_=>
   match m,i with
   |[x],_=>
    match w2,j with
    |[y,z],_=>
     have b:=h.mark 0 _ rfl;have c:=h.mark 1 _ rfl;have d:=h.mark 2 _ rfl;have e:=h.way 1 _ rfl x (by simp)
     have b2:=h.way 2 _ rfl y (by simp)
     have f:=h.way 2 _ rfl z (by simp)
     unfold qp;revert Mf Kn;show#[m0,aI b.1 b.2,m1,aI c.1 c.2,m2,aI d.1 d.2,x,aI e.1 e.2,y,aI b2.1 b2.2,z,aI f.1 f.2,rfl]
def B0 {a:Kb}{bs:J2 Ki}{u:Wd}(h:GoodW a ↥bs u)(b:↥u=3):cG bs u∈aS a bs:=by
 unfold aS;rw[NZ];show Kn.mpr #[u,vG h b,rfl]
structure SizeOk (a:Kb)(bs:J2 Ki):Prop where
 pos:0<a
 good:GoodB bs
 most:a*↥bs<=6
 a3:a<=3
def SizeOk.n3 {a:Kb}{bs:J2 Ki}(h:SizeOk a bs):0<↥bs/\↥bs<=3:=by
 rcases h.good with rfl|rfl|rfl|rfl|rfl|rfl<;>decide
def FK:(aS 1 [0]).length<64/\(aS 2 [0]).length<64/\(aS 3 [0]).length<64:=by decide +kernel
def Ig:(aS 1 [0,1]).length<64/\(aS 2 [0,1]).length<64/\(aS 1 [1,0]).length<64/\(aS 2 [1,0]).length<64:=by decide +kernel
def Hw:(aS 1 [0,1,2]).length<64/\(aS 1 [1,0,2]).length<64/\(aS 1 [0,2,1]).length<64:=by decide +kernel
def Jo:(aS 3 [0,1]).length<64:=by decide +kernel
def Jp:(aS 3 [1,0]).length<64:=by decide +kernel
def Jq:(aS 2 [0,1,2]).length<64:=by decide +kernel
def Jr:(aS 2 [1,0,2]).length<64:=by decide +kernel
def Js:(aS 2 [0,2,1]).length<64:=by decide +kernel
def ox {a:Kb}{bs:J2 Ki}(h:SizeOk a bs):(aS a bs).length<64:=by
 obtain⟨e,d,b,f⟩:=h;have c:a=1\/a=2\/a=3:=∅
 rcases d with rfl|rfl|rfl|rfl|rfl|rfl<;>rcases c with rfl|rfl|rfl
 ·show FK.1
 ·show FK.2.1
 ·show FK.2.2
 ·show Ig.1
 ·show Ig.2.1
 ·show Jo
 ·show Ig.2.2.1
 ·show Ig.2.2.2
 ·show Jp
 ·show Hw.1
 ·show Jq
 ·simp at b
 ·show Hw.2.1
 ·show Jr
 ·simp at b
 ·show Hw.2.2
 ·show Js
 ·simp at b
def iS (bs:J2 Ki)(u:Wd):∃t∈am,cG bs u=ae bs u t:=by
 have b:(am.map (ae bs u)).length=6:=by rw[J4];rfl
 have f:((am.map (ae bs u)).map ce).length=6:=by rw[J4,b]
 have a:g6 ((am.map (ae bs u)).map ce)<(am.map (ae bs u)).length:=by
  unfold g6;have d:=cO (vm ((am.map (ae bs u)).map ce)) (((am.map (ae bs u)).map ce).length-1);rw[b];omega
 unfold cG;rw[getD_some (Ke a)];obtain⟨t,c,e⟩:=Kn.mp (Ll a);show#[t,c,e.symm]
def B1 (bs:J2 Ki)(u:Wd):cG bs u≠[]:=by
 obtain⟨t,a,e⟩:=iS bs u;rw[e];have:∀t∈am,t≠[]:=by decide
 have h:=this t a;intro z;have hl:(ae bs u t).length=↥t:=by simp[ae]
 rw[z]at hl;show h (Nh.mp hl.symm)
def qr:∀{xs ys:J2 Ki},xs.map T.int=ys.map T.int->xs=ys
 |[],[],_=>rfl
 |[],_::_,h=>by cases h
 |_::_,[],h=>by cases h
 |x::xs,y::ys,h=>by
  rw[Lb,Lb]at h;injection h with h1 h2
  injection h1 with h1
  rw[h1,qr h2]
def B2 {p q:Pt}(h:gT p=gT q):p=q:=by
 unfold gT at h;injection h with h
 injection h with h1 h2
 injection h1 with h1
 injection h2 with h2 _
 injection h2 with h2
 show TR h1 (qr h2)
def eh {u v:Wd}(h:ce u=ce v):u=v:=by
 unfold ce at h;injection h with h
 have inj:∀{u v:Wd},u.map gT=v.map gT->u=v:=by
  intro u
  induction u with
  |nil=>intro v h;cases v with
   |nil=>rfl
   |cons _ _=>cases h
  |cons p u ih=>intro v h;cases v with
   |nil=>cases h
   |cons q v=>
    rw[Lb,Lb]at h;injection h with h1 h2
    rw[B2 h1,ih h2]
 show inj h
def gB {U:J2 (T×W)}{k:T}{v:W}:(dM U k v).map (·.1)=if k∈U.map (·.1)then U.map (·.1)else U.map (·.1)++[k]:=by
 have a:(U.any λp=>decide (p.1=k))=decide (k∈U.map (·.1)):=by
  induction U with
  |nil=>rfl
  |cons p U ih=>
   rw[Ma,ih,Lb]
   by_cases e:p.1=k
   ·subst e;simp
   ·rw[K4 e,Oi];have:(k∈p.1::U.map (·.1))=(k∈U.map (·.1)):=by simp[Ne.symm e]
    revert this
 unfold dM;rw[a]
 by_cases h:k∈U.map (·.1)
 ·rw[KC h,KC (Ld h),K6];show Le λp _=>?_
  show(if p.1=k then(p.1,v)else p).1=p.1
  split<;>rfl
 ·rw[KS h,KS (by simpa using h),KN]
  rfl
structure FigD (L:J2 Wd)(U:J2 (T×W))(fs:J2 Wd):Prop where
 keys:U.map (·.1)=fs.map ce
 nd:fs.Nodup
 mem:∀f∈fs,f∈L
def FigD.nil {L:J2 Wd}:FigD L [] []:=#[rfl,P7,λ_ h=>nomatch h]
def FigD.len {L:J2 Wd}{U:J2 (T×W)}{a:J2 Wd}(h:FigD L U a):↥U=↥a/\↥a<=↥L:=by
 have:=congrArg SV h.keys;rw[J4,J4]at this;show#[this,cw a L h.nd h.mem]
def FigD.put {L:J2 Wd}{U:J2 (T×W)}{c:J2 Wd}{f:Wd}{v:W}(h:FigD L U c)(m:f∈L):∃d,FigD L (dM U (ce f) v) d:=by
 by_cases j:f∈c
 ·show#[c,?_,h.nd,h.mem];rw[gB,KC (by rw[h.keys];show Kn.mpr #[f,j,rfl]),h.keys]
 ·show#[c++[f],?_,?_,λg i=>?_]
  ·rw[gB,KS,h.keys,KN]
   ·rfl
   ·rw[h.keys];intro z;obtain⟨g,i,e⟩:=Kn.mp z;show j (eh e▸i)
  ·rw[MJ];show#[h.nd,by simp,λa k b l e=>?_]
   rw[KA.mp l]at e;show j (e▸k)
  ·rcases La.mp i with h'|h'
   ·show h.mem g h'
   ·rw[KA.mp h'];show m
def FigD.items {S:aa}{t:Kb}{L:J2 Wd}{U:J2 (T×W)}{a:J2 Wd}(h:FigD L U a)(e:S[t]?=gV (.dic U)):eX S (.ref t)=gV (a.map aw):=by
 simp only[eX,og e,bQ e,KM];congr 1;have:(U.map (·.1)).map T.w=(a.map ce).map T.w:=by rw[h.keys]
 rw[K6,K6]at this
 calc U.map (λp=>p.1.w)=U.map (T.w∘λx=>x.1):=rfl
  _=a.map (T.w∘ce):=this
  _=a.map aw:=by
   show Le λf _=>?_
   show yI f
def yS {a:Kb}{bs:J2 Ki}{f:Wd}(h:f∈aS a bs):f≠[]:=by
 unfold aS at h;rw[NZ]at h;obtain⟨u,_,rfl⟩:=Kn.mp h;show B1 bs u
def yT {S:aa}{t:Kb}{U:J2 (T×W)}{u:Wd}{v:W}(h:S[t]?=gV (.dic U))(hl:↥U<sizeLine):gZ (.ref t) (aw u) v S=gV (S.set t (.dic (dM U (ce u) v))):=by
 have hk:=oq u;unfold aw at hk ⊢;revert gZ jd h hk;rw[KC hl]
structure RuleAt (a:Kb)(bs:J2 Ki)(ms ns:J2 KG)(gs:J2 Wd):Prop where
 size:SizeOk a bs
 ml:↥ms=a
 nl:↥ns=↥bs
 nm:GoodN ms ns
 nd:gs.Nodup
 mem:∀g∈gs,g∈aS a bs
abbrev ET (w:W):Prop:=∃a bs c ns b,w=di c ns bs (fW b)/\RuleAt a bs c ns b
section
variable{M:KG->FF}{fuel:Kb}{Z:Fm}{S:aa}{K:Fm->aa->Prop}{Q:QO}
def lh {d:Kb}{e:E}{b:Ss}(m:cH e=true)(ok:gK b=true)(h:wE M e Z S λp=>∃(j:Ki) (I:Kb->Fm->aa->Prop),p.1=.int j/\(-(2^62)<=j/\j<2^62)/\I 0 Z p.2/\
  (∀(i:Kb) (Z:Fm) (S:aa),(i:Ki)<j->I i Z S->wa M fuel b (Z.set d (gV (.int i))) S (I (i+1)) Q)/\∀Z S,I j.toNat Z S->K Z S):Wp (fR M fuel (.loop (.nm d) (.rng #v[e]) b) Z S) (qV K Q):=by
 obtain⟨w,S1,f,j,I,rfl,k,g,l,a⟩:=br m h;have hl:(cg 0 j.toNat).length=j.toNat:=by simp[cg]
 show ic (mi:=.its (cg 0 j.toNat)) (S1:=S1) (xs:=cg 0 j.toNat) I ok ?_ (λ_ _ _ _=>rfl) rfl g (λi w Z S hw c=>?_) λZ S c=>a Z S (hl▸c)
 ·revert i6 cC cu fN rM f;rw[KC k]
 ·rw[dN]at hw;split at hw
  ·rename_i hk;cases hw;rw[N9];show l i Z S ∅ c
  ·cases hw
def iT {tg:Tg}{e:E}{b:Ss}(k:cH e=true)(ok:gK b=true)(g:wE M e Z S λp=>∃(t:Kb) (xs:J2 W) (I:Kb->Fm->aa->Prop),p.1=.ref t/\I 0 Z p.2/\(∀i Z S,I i Z S->S[t]?=gV (.lst xs))/\
  (∀(i:Kb) (w:W) (Z:Fm) (S:aa),xs[i]?=gV w->I i Z S->wO (gh tg w Z S) λq=>wa M fuel b q.1 q.2 (I (i+1)) Q)/\∀Z S,I ↥xs Z S->K Z S):Wp (fR M fuel (.loop tg (.seq e) b) Z S) (qV K Q):=by
 obtain⟨w,S1,f,t,xs,I,rfl,d,a,j,c⟩:=br k g;show ic (mi:=.live t) (S1:=S1) I ok (by simp only[i6,d6,f,aC (a _ _ _ d)]) (λi Z S h=>by simp only[MI.at,aC (a _ _ _ h)]) (by simp only[MI.len,aC (a _ _ _ d),KM]) d j c
end
abbrev oy (t:Ki×Ki×Ki):W:=.tup [.int t.1,.int t.2.1,.int t.2.2]
abbrev Hx (a:Kb)(t:Ki×Ki×Ki):Prop:=(0<=t.1/\t.1<a)/\(0<=t.2.1/\t.2.1<a)/\(0<=t.2.2/\t.2.2<a)
abbrev Ris (a:Kb)(t:Ki×Ki×Ki):Prop:=0<=t.1/\t.1<=t.2.1/\t.2.1<=t.2.2/\t.2.2<a
def Ris.ok {a:Kb}{t:Ki×Ki×Ki}(h:Ris a t):Hx a t:=by
 obtain⟨b,c,d,e⟩:=h;show#[#[∅,∅],#[∅,∅],#[∅,∅]]
abbrev wb (k:Ki):Wd:=[(k,[]),(k,[0]),(k,[0,0])]
abbrev RuleG (P:Kb->J2 Ki->J2 Wd->Prop)(w:W):Prop:=∃a bs c ns b,w=di c ns bs (fW b)/\RuleAt a bs c ns b/\P a bs b
def RuleG.rule {P:Kb->J2 Ki->J2 Wd->Prop}{w:W}(h:RuleG P w):ET w:=let ⟨a,bs,ms,ns,gs,h1,h2,_⟩:=h;#[a,bs,ms,ns,gs,h1,h2]
def RuleG.imp {P c:Kb->J2 Ki->J2 Wd->Prop}{w:W}(h:RuleG P w)(k:∀a bs b,P a bs b->c a bs b):RuleG c w:=let ⟨a,bs,ms,ns,b,h1,h2,h3⟩:=h;#[a,bs,ms,ns,b,h1,h2,k _ _ _ h3]
abbrev B3 (_:Kb)(bs:J2 Ki)(a:J2 Wd):Prop:=bs=[0]/\∀g∈a,∃k,g=wb k
abbrev qt (a:Kb)(bs:J2 Ki)(b:J2 Wd):Prop:=b=[]\/∃f:Ki,(0<=f/\f<↥bs)/\bs.getD f.toNat 0=f/\∀g∈b,∃(c:Pt) (m1 w1:Ki) (p2:Pt),GoodW a ↥bs [c,(m1,[w1]),p2]/\g=cG bs [c,(m1,[w1]),p2]/\w1≠f/\f∉p2.2
def FigD.has {L:J2 Wd}{U:J2 (T×W)}{b:J2 Wd}(h:FigD L U b){g:Wd}:g∈b↔ce g∈U.map (·.1):=by
 rw[h.keys];show#[λa=>Kn.mpr #[g,a,rfl],λa=>by
  obtain⟨g',c,d⟩:=Kn.mp a;show eh d▸c]
def FigD.putX {L:J2 Wd}{U:J2 (T×W)}{b:J2 Wd}{f:Wd}{v:W}(h:FigD L U b)(c:f∈L):∃a,FigD L (dM U (ce f) v) a/\∀g,g∈a↔g∈b\/g=f:=by
 obtain⟨a,h'⟩:=h.put (v:=v) c;show#[a,h',λg=>?_]
 rw[h'.has,h.has,gB]
 by_cases hk:ce f∈U.map (·.1)
 ·rw[KC hk];show#[.inl,λh=>h.elim id λe=>e▸hk]
 ·rw[KS hk,La,KA];show#[λh=>h.imp id eh,λh=>h.imp id λe=>by rw[e]]
def Db {S:aa}{Q:QW}{q:Kb}{a:Kb}{bs:J2 Ki}{d ns:J2 KG}{b:J2 Wd}{U:J2 (T×W)}{e:J2 Wd}{P:Kb->J2 Ki->J2 Wd->Prop}(m:S[q]?=gV (.dic U))(c:FigD (aS a bs) U e)(j:SizeOk a bs)(g:↥d=a)(h:↥ns=↥bs)(i:GoodN d ns)(n:P a bs e)(k:∀w S',RuleG P w->Ka S S'->Q (w,S')) :
  wO (ph (di d ns bs b) (.int 0) S) λp=>wO (ph (di d ns bs b) (.int 1) p.2) λl=>wO (Bi.sorted.fn [.ref q] l.2) λs=>wO (Bi.tuple.fn [s.1] s.2) λz=>Q (.tup [p.1,l.1,z.1],z.2):=by
 show ak #v[] rfl (ak #v[] rfl ?_)
 have hl:=c.len;show yO (c.items m) (by have:=ox j;omega) (λf o=>yS (c.mem f o)) (bZ aj (k _ _ #[a,bs,d,ns,e,rfl,#[j,g,h,i,c.nd,c.mem],n] .push))
def yU {S:aa}{q:Kb}{a:Kb}{bs:J2 Ki}{u:Wd}{U:J2 (T×W)}{d:J2 Wd}{Q:aa->Prop}(e:S[q]?=gV (.dic U))(f:FigD (aS a bs) U d)(j:SizeOk a bs)(l:GoodW a ↥bs u)(c:↥u=3)
  (k:∀o b,(∃U,(S.set q o)[q]?=gV (.dic U)/\FigD (aS a bs) U b)->(∀g,g∈b↔g∈d\/g=cG bs u)->Q (S.set q o)):wO (gZ (.ref q) (aw (cG bs u)) (.bl true) S) Q:=by
 have hl:=f.len;have:=ox j;obtain⟨b,h,i⟩:=f.putX (v:=.bl true) (B0 l c);show ac (yT e (by rw[Lu];omega)) (k _ b #[_,bm e,h] i)
def Jt:∀k∈fB 1,wb k∈aS 1 [0]:=by decide +kernel
def Ju:∀k∈fB 2,wb k∈aS 2 [0]:=by decide +kernel
def Jv:∀k∈fB 3,wb k∈aS 3 [0]:=by decide +kernel
def B4 {a:Kb}{k:Ki}(d:1<=a)(e:a<=3)(hk:0<=k)(b:k<a):wb k∈aS a [0]:=by
 have c:a=1\/a=2\/a=3:=∅
 rcases c with rfl|rfl|rfl
 ·show Jt k (aI hk b)
 ·show Ju k (aI hk b)
 ·show Jv k (aI hk b)
def B5 {a b:Ki}(h:wb a=wb b):a=b:=by
 unfold wb at h;injection h with h1 h2
 injection h1
def oz:GoodB [0]:=.inl rfl
def Dc {S:aa}{i j:Kb}{xs:J2 W}(a:S[i]?=gV (.lst xs))(b:S[j]?=gV (.lst [])):bh .eq (.ref i) (.ref j) S=gV (.bl xs.isEmpty,S):=by
 show(fE S (19+1) (.ref i) (.ref j)).map _=_;simp only[fE,cV a,cV b];cases xs with
 |nil=>rfl
 |cons x xs=>rfl
def B6 {S:aa}{f:Ki}{ws:J2 Ki}:bh .notin (.int f) (.tup (ah ws)) S=gV (.bl (!decide (f∈ws)),S):=by
 have b:(aN (.int f)&&(ah ws).all aN)=true:=by
  revert aN Na KD;intro x c;obtain⟨z,_,rfl⟩:=Kn.mp c;rfl
 have a:((ah ws).any λz=>kq z (.int f))=decide (f∈ws):=by
  unfold ah;rw[SM,PL,MQ,KP];show#[λ#[x,h1,h2]=>by
   have:x=f:=by simpa [kq]using h2
   show this▸h1,λh=>#[f,h,by simp[kq]]]
 change cD .notin (.int f) (.tup (ah ws)) S=_;revert cD rB xn cp b MW KM a
section
variable{M:KG->FF}{fuel:Kb}{Z:Fm}{S:aa}{K:Fm->aa->Prop}{Q:QO}
def iU {f:Kb}{a b:E}{bd:Ss}(i j:Ki)(I:Kb->Fm->aa->Prop)(s:cH a=true)(ob:cH b=true)(ok:gK bd=true)(r : -(2^62)<=i/\i<2^62/\-(2^62)<=j/\j<2^62)(o:wE M a Z S λp=>p.1=.int i/\wE M b Z p.2 λq=>q.1=.int j/\I 0 Z q.2)
  (c:∀(k:Kb) (Z:Fm) (S:aa),(k:Ki)<j-i->I k Z S->wa M fuel bd (Z.set f (gV (.int (i+k)))) S (I (k+1)) Q) (d:∀Z S,I (j-i).toNat Z S->K Z S):Wp (fR M fuel (.loop (.nm f) (.rng2 #v[a,b]) bd) Z S) (qV K Q):=by
 obtain⟨w,S1,h,rfl,n⟩:=br s o;obtain⟨w,g,l,rfl,m⟩:=br ob n;have hl:(cg i (j-i).toNat).length=(j-i).toNat:=by simp[cg]
 show ic (mi:=.its (cg i (j-i).toNat)) (S1:=g) (xs:=cg i (j-i).toNat) I ok ?_ (λ_ _ _ _=>rfl) rfl m (λk w Z S hw e=>?_) λZ S e=>d Z S (hl▸e)
 ·revert i6 cC cu fN iRng2 h l;rw[KC r]
 ·rw[dN]at hw;split at hw
  ·rename_i hk;cases hw;show c k Z S ∅ e
  ·cases hw
def yV {c a b:E}{l:Kb}{g:Es}{e:J2 (J9 Kb)}{Q:QW}(i j:Ki)(I:Kb->J2 W->Fm->aa->Prop)(x:cH a=true)(ob:cH b=true)(z:cH c=true)(oc:lL g=true)(u : -(2^62)<=i/\i<2^62/\-(2^62)<=j/\j<2^62)(t:wE M a Z S λp=>p.1=.int i/\wE M b Z p.2 λq=>q.1=.int j/\I 0 [] (dO e Z) q.2)
  (d:∀(k:Kb) (ys:J2 W) (Z:Fm) (S:aa),(k:Ki)<j-i->I k ys Z S->eG M c g (Z.set l (gV (.int (i+k)))) S (λy=>I (k+1) (ys++[y])) (I (k+1) ys))
  (f:∀ys Z S,I (j-i).toNat ys Z S->↥ys<=sizeLine/\Q (.ref ↥S,S++[.lst ys])):Wp (aB M (.comp c (.nm l) (.rng2 #v[a,b]) g e) Z S) Q:=by
 obtain⟨w,S1,n,rfl,s⟩:=br x t;obtain⟨w,m,o,rfl,r⟩:=br ob s;have hl:(cg i (j-i).toNat).length=(j-i).toNat:=by simp[cg]
 show jr (mi:=.its (cg i (j-i).toNat)) (S1:=m) (xs:=cg i (j-i).toNat) I z oc ?_ (λ_ _ _ _ _=>rfl) rfl r (λk w ys Z S hw h=>?_) λys Z S h=>f ys Z S (hl▸h)
 ·revert i6 cC cu fN iRng2 n o;rw[KC u]
 ·rw[dN]at hw;split at hw
  ·rename_i hk;cases hw;show d k ys Z S ∅ h
  ·cases hw
end
section
variable{defs:J2 (KG×Df)}{fuel d:Kb}{S:aa}{r:Kb}{Q:QW}
def yW (G:Gen defs){a:Kb}(L:a<=3)(k:∀(q:Kb) (ts:J2 (Ki×Ki×Ki)) (S':aa),S'[q]?=gV (.lst (ts.map oy))->(∀t,t∈ts↔Ris a t)->↥S<=q->Ka S S'->Q (.ref q,S')) :
  wO (aL (ar defs fuel (d+1)) "_law_rising" 1 [.int a] S) Q:=by
 show az G.rising rfl rfl λB E=>?_
 replace k:∀(q:Kb) (ts:J2 (Ki×Ki×Ki)) (S':aa),S'[q]?=gV (.lst (ts.map oy))->(∀t,t∈ts↔Ris a t)->↥S<=q->Ka S S'->B (.rt (.ref q),S'):=λq ts S' a b c e=>E _ _ (k q ts S' a b c e)
 clear E;change wZ _ _ dy [gV (.int a),td,td,td] S B;delta dy;show st ?_;delta wS wE wA Kv;nofun
 show cv (a:Ki) (λi Z S'=>∃(q:Kb) (ts:J2 (Ki×Ki×Ki)) (u f:J9 W),Z=[gV (.int a),gV (.ref q),u,f]/\S'[q]?=gV (.lst (ts.map oy))/\(∀t,t∈ts↔Ris a t/\t.1<i)/\↥S<=q/\↥ts<=9*i/\Ka S S') rfl rfl ∅ #[rfl,_,[],_,_,rfl,aj,λt=>#[λh=>(nomatch h),λh=>by have:=h.1.1;have:=h.2;omega],Kl _,Ml _,.push] ?_ ?_
 ·rintro i Z S1 hi ⟨q,ts,u,f,rfl,v,l,n,hl,A⟩ I H _;clear hK k;nofun
  show iU (i:Ki) (a:Ki) (λj Z S'=>∃(q:Kb) (ts:J2 (Ki×Ki×Ki)) (f:J9 W),Z=[gV (.int a),gV (.ref q),gV (.int i),f]/\S'[q]?=gV (.lst (ts.map oy))/\(∀t,t∈ts↔Ris a t/\(t.1<i\/(t.1=i/\t.2.1<(i:Ki)+j)))/\↥S<=q/\↥ts<=9*i+3*j/\Ka S S') rfl rfl rfl ∅ #[rfl,rfl,q,ts,f,rfl,v,λt=>(l t).trans #[λh=>#[h.1,.inl h.2],λh=>#[h.1,h.2.elim id λg=>by have:=h.1.2.1;omega]],n,∅,A] ?_ ?_
  ·rintro j Z C M ⟨q,ts,f,rfl,w,l,n,hl,p⟩ J x _;clear hK H;show st ?_;delta wS wE wV wG Kv;show yV ((i:Ki)+j) (a:Ki) (λm ys s r=>(∃D,s=[td,D,gV (.int i),gV (.int ((i:Ki)+j))])/\(∃us:J2 (Ki×Ki×Ki),ys=us.map oy/\↥us=m/\∀t,t∈us↔t.1=i/\t.2.1=(i:Ki)+j/\(i:Ki)+j<=t.2.2/\t.2.2<(i:Ki)+j+m)/\r=C) rfl rfl rfl rfl ∅ #[rfl,rfl,#[td,rfl],#[[],rfl,rfl,λ_=>#[λh=>(nomatch h),λh=>∅]],rfl] ?_ ?_
   ·rintro m ys s r N ⟨⟨D,rfl⟩,⟨us,rfl,o,y⟩,rfl⟩;show#[λ_=>#[#[_,rfl],#[us++[((i:Ki),(i:Ki)+j,(i:Ki)+j+m)],by rw[KN];rfl,by rw[Kh,o];rfl,λt=>?_],rfl],λz=>by cases z]
    obtain⟨O,P,R⟩:=t;rw[La,KA,y];revert Nt;omega
   ·rintro ys s r ⟨_,⟨us,rfl,o,y⟩,rfl⟩;show#[lb (by rw[J4];omega),ac (EM (au w) aj ?_) (bu (x _ _ #[_,ts++us,_,rfl,?_,λt=>?_,?_,?_,p.trans (Ka.push.trans .push)]))]
    ·show lb ?_;rw[Kh,J4,J4];omega
    ·rw[KN];show aj
    ·rw[La,l,y];unfold Ris;omega
    ·have:=p.len;revert Kh;omega
    ·rw[Kh];omega
  ·rintro Z C ⟨q,ts,f,rfl,w,l,n,hl,p⟩;show hK _ _ (bu (H _ _ #[q,ts,_,_,rfl,w,λt=>by rw[l];unfold Ris;omega,n,∅,p]))
 ·rintro Z S1 ⟨q,ts,u,f,rfl,v,l,n,hl,A⟩;show hK _ _ (st ?_);show k q ts S1 v (λt=>by rw[l];unfold Ris;omega) n A
def vH (A:20<fuel)(G:Gen defs)(O:Fl S r)(k:∀w S',RuleG B3 w->Fl S' r->Kp r S S'->Q (w,S')):wO (aL (ar defs fuel (d+6)) "_law_one_way_rule" 1 [.ref r] S) Q:=by
 show az G.one_way_rule rfl rfl λH J=>?_
 replace k:∀w S',RuleG B3 w->Fl S' r->Kp r S S'->H (.rt w,S'):=λz S' a b c=>J _ _ (k z S' a b c)
 clear J;change wZ _ _ bD [gV (.ref r),td,td] S H;delta bD;nofun
 left;show bE (d:=d+4) G.pick O #v[] #v[] λv S1 X Y N U=>?_
 delta d7 bM;obtain⟨a,M⟩:∃a:Kb,1+v=a:=#[(1+v).toNat,∅]
 rw[M];show hK _ _ ?_;clear hK K;nofun
 delta wS wE Kv;show gy (a:Ki) (λk zs t n=>(∃I,t=[td,I,gV (.ref r)])/\(∃ks:J2 Ki,zs=(ks.map wb).map aw/\ks.Pairwise (·≠·)/\↥ks<=k/\∀x∈ks,0<=x/\x<k)/\Fl n r/\Kp r S1 n) rfl rfl rfl ∅ #[rfl,#[td,rfl],#[[],rfl,.nil,Kl _,λ_ h=>(nomatch h)],N,.refl] ?_ ?_
 ·rintro i zs t n hi ⟨⟨I,rfl⟩,⟨ks,rfl,j,m,f⟩,o,q⟩;clear hK k;delta eG wC wT wE wA wV wG Kv;show bE (d:=d+4) G.pick o #v[] #v[] λv L _ _ p s=>?_
  delta la bM wB;show#[λ_=>#[#[_,rfl],#[ks++[(i:Ki)],by simp[wb,aw,bN],?_,by rw[Kh];show O7 m,λx l=>?_],p,q.trans s],λ_=>#[#[_,rfl],#[ks,rfl,j,∅,λx l=>#[(f x l).1,by have:=(f x l).2;omega]],p,q.trans s]]
  ·rw[List.pairwise_append];show#[j,by simp,λx l y T e=>?_]
   have:=(f x l).2;rw[KA.mp T]at e;omega
  ·rcases La.mp l with h|h
   ·show#[(f x h).1,by have:=(f x h).2;omega]
   ·rw[KA.mp h];omega
 ·rintro zs t n ⟨_,⟨ks,rfl,j,m,f⟩,o,q⟩;rw[Kz]at m f;show#[lb (by rw[J4,J4];omega),hK _ _ (st ?_)]
  clear hK K;left;have P:=o.lt;show mQ (d:=d) (a:=a) (bs:=[0]) (us:=ks.map wb) A G (o.ka .push) ∅ #v[] (λS' V=>?_) (by rw[J4];omega) (λu R=>by obtain⟨x,_,rfl⟩:=Kn.mp R;show Ru _ _) λW ns L C D E p s=>?_
  ·simp only[eX,aC (V.get _ _ ∅ aj)]
  show k _ _ #[a,[0],W,ns,ks.map wb,rfl,#[#[∅,oz,by simp;omega,∅],C,D,E,?_,λg B=>?_],rfl,λg B=>let ⟨x,_,e⟩:=Kn.mp B;#[x,e.symm]] p (U.trans (q.trans (Kp.push.trans s)))
  ·unfold List.Nodup;rw[M6];show j.imp λh e=>h (B5 e)
  ·obtain⟨x,l,rfl⟩:=Kn.mp B;show B4 ∅ ∅ (f x l).1 (f x l).2
def qu (hfu:20<fuel)(G:Gen defs)(hf:Fl S r)(k:∀w S',RuleG qt w->Fl S' r->Kp r S S'->Q (w,S')):wO (aL (ar defs fuel (d+6)) "_law_free_rule" 1 [.ref r] S) Q:=by
 show az G.free_rule rfl rfl λC hR=>?_
 replace k:∀w S',RuleG qt w->Fl S' r->Kp r S S'->C (.rt w,S'):=λz S' a b c=>hR _ _ (k z S' a b c)
 clear hR;change wZ _ _ cb [gV (.ref r),td,td,td,td,td,td,td,td] S C;delta cb;nofun
 left;show BY (d:=d+3) G hf λa n S1 a1 a3 n1 n3 an f1 k1=>?_
 delta wU;show ac (show dc [1,2] [.int a,.int n] [gV (.ref r),td,td,td,td,td,td,td,td]=gV [gV (.ref r),gV (.int a),gV (.int n),td,td,td,td,td,td]from rfl) (hK _ _ ?_)
 clear hK K;nofun
 left;show BZ (d:=d+3) G f1 n1 n3 λbs j hb I f2 k2=>?_
 have hsz:SizeOk a bs:=#[∅,hb,by rw[I];show an,a3]
 show lg (d:=d) hfu G f2 a3 ∅ λms ns S3 L A N f3 k3=>hK _ _ ?_
 clear hK K;have hrt:=f3.lt;replace k3:Kp r S S3:=k1.trans (k2.trans k3);clear k1 k2 f1 f2;nofun
 delta wS wE Kv;show gy (n:Ki) (λi zs Z2 j=>(∃a1,Z2=[td,a1,gV (di ms ns bs [])])/\(∃ks:J2 Ki,zs=ah ks/\↥ks<=i/\∀x∈ks,(0<=x/\x<↥bs)/\bs.getD x.toNat 0=x)/\j=S3) rfl rfl rfl ∅ #[rfl,#[td,rfl],#[[],rfl,Kl _,λ_ h=>(nomatch h)],rfl] ?_ ?_
 ·rintro i zs Z2 j hi ⟨⟨a1,rfl⟩,⟨ks,rfl,y,l⟩,rfl⟩;clear hK k;have J:i<↥bs:=∅
  delta eG wC wT wE wA wV wG Kv;show ak #v[] rfl (ak (Kq i) (by rw[Kz];show ou (Ke ∅) (Ke J)) (ak #v[] rfl ?_))
  delta la bM wB;show#[λhbi=>#[#[_,rfl],#[ks++[(i:Ki)],by unfold ah;rw[KN];rfl,by rw[Kh];show O7 y,λx V=>?_],rfl],λ_=>#[#[_,rfl],#[ks,rfl,∅,l],rfl]]
  rcases La.mp V with V|V
  ·show l x V
  ·rw[KA.mp V];show#[#[∅,∅],?_]
   rw[Kz,Kk,Ke J]
   simpa using hbi
 ·rintro zs Z2 j ⟨_,⟨ks,rfl,y,l⟩,rfl⟩;rw[Kz]at y;have il:(ah ks).length=↥ks:=J4 ..;show#[lb ∅,hK _ _ ?_]
  clear hK K;nofun
  delta wS wT wE wA wV wG Kv;show ac (Dc (au aj) aj) ?_;delta wB;have f4:=(f3.ka (Ka.push (o:=O.lst (ah ks)))).ka (Ka.push (o:=O.lst []));have k4:=k3.trans ((Kp.push (o:=O.lst (ah ks))).trans (Kp.push (o:=O.lst [])));have e4:=au (u:=O.lst []) (aj (S:=j) (o:=O.lst (ah ks)));have hl4:↥j<(j++[O.lst (ah ks)]++[O.lst []]).length:=by simp
  generalize hS4:j++[O.lst (ah ks)]++[O.lst []]=S4 at f4 k4 e4 hl4;clear hS4;have ret:∀e:QO,(∀w S',C (.rt w,S')->e (.rt w,S'))->wZ (ar defs fuel (d+5)) fuel #v[.ret (.v 3)] [gV (.ref r),gV (.int a),gV (.int n),gV (di ms ns bs []),td,gV (.ref ↥j),td,td,td] S4 e:=λe R=>st (R _ _ (k _ _ #[a,bs,ms,ns,[],rfl,#[hsz,L,A,N,.nil,λ_ h=>(nomatch h)],.inl rfl] f4 k4))
  show#[λ_=>aq (Q0:=C) (λ_ e _ R=>ret e R) (λz=>by cases z),λhne=>?_]
  delta la bM wB;show aq (Q0:=C) (λ_ e _ R=>ret e R) (λ_ e M _=>bu (M _ _ (hK _ _ ?_)))
  clear hK ret M;have hk0:0<↥ks:=by
   cases ks with
   |nil=>cases hne
   |cons x ks=>show Nat.succ_pos _
  nofun
  left;show gS e4 ?_;rw[il];show bE (d:=d+4) G.pick f4 ∅ ∅ λv S5 v0 v1 f5 Y=>?_
  have e5:=Y.get _ _ ∅ e4
  obtain⟨x,X,ex⟩:=oo (f:=W.int) (xs:=ks) (i:=v.toNat) ∅
  show jJ e5 v0 ex (hK _ _ ?_);clear hK K;replace Y:Kp r S S5:=k4.trans Y;have T:=f5.lt;show st ?_;delta wS wE Kv;nofun
  show lh rfl rfl ?_;delta wE wA wV wG;show bE (d:=d+4) G.pick (f5.ka .push) #v[] #v[] λv S6 v0 v9 f6 k6=>?_
  show#[v,λ_ Z S'=>(∃a4 a8,Z=[gV (.ref r),gV (.int a),gV (.int n),gV (di ms ns bs []),a4,gV (.ref ↥j),gV (.int x),gV (.ref ↥S5),a8])/\(∃U H,S'[↥S5]?=gV (.dic U)/\FigD (aS a bs) U H/\∀g∈H,∃(t:Pt) (m1 q:Ki) (p2:Pt),GoodW a ↥bs [t,(m1,[q]),p2]/\g=cG bs [t,(m1,[q]),p2]/\q≠x/\x∉p2.2)/\Fl S' r/\Kp r S S',rfl,∅,#[#[td,td,rfl],#[[],[],k6.get _ _ ∅ aj,.nil,λ_ h=>(nomatch h)],f6,(Y.trans .push).trans k6],?_,?_]
  ·rintro i Z S7 hi ⟨⟨a4,a8,rfl⟩,⟨U,H,e7,hd,s⟩,f7,k7⟩ e M _;clear hK k;show st ?_;left;show ow (d:=d+3) G f7 ∅ a3 ∅ n3 λu S8 B D f8 k8=>?_
   have D:GoodW a ↥bs u:=I.symm▸D;have e8:=k8.get _ _ ∅ e7
   obtain⟨t,E,p2,rfl⟩:∃t E p2,u=[t,E,p2]:=by
    match u,B with
    |[t,E,p2],_=>show#[t,E,p2,rfl]
   have l1:=D.len 1 E rfl;obtain⟨m1,ws1⟩:=E;obtain⟨q,rfl⟩:∃q,ws1=[q]:=by
    match ws1,l1 with
    |[q],_=>show#[q,rfl]
   have hb2:=B6 (S:=S8) (f:=x) (ws:=p2.2);have kk:=k7.trans k8;nofun
   delta wS wT wE wA wV wG;show ak #v[] rfl (ak #v[] rfl (ak #v[] rfl ?_))
   delta EN bM wB;have skip:K [gV (.ref r),gV (.int a),gV (.int n),gV (di ms ns bs []),gV (.int i),gV (.ref ↥j),gV (.int x),gV (.ref ↥S5),gV (aw [t,(m1,[q]),p2])] S8:=hK _ _ (bu (M _ _ #[#[_,_,rfl],#[U,H,e8,hd,s],f8,kk]));show#[λhw1=>?_,λ_=>aq (Q0:=e) (λz=>by cases z) λ_ Q3 m _=>bu (m _ _ skip)]
   show ak #v[] rfl (ak #v[] rfl (ac hb2 ?_))
   delta wB;show aq (Q0:=e) (λhxp Q3 m _=>?_) λ_ Q3 m _=>bu (m _ _ skip)
   clear skip;show st ?_;left;show qo (d:=d+2) G hb A D B λS9 k9=>?_
   show yU (k9.get _ _ e8) hd hsz D B λo fs' #[U',ho1,ho2] ho3=>bu (m _ _ (hK _ _ (bu (M _ _ #[#[_,_,rfl],#[U',fs',ho1,ho2,λg hg=>?_],(f8.ka k9).own T,(kk.trans (k9.kp r)).late Y.len]))))
   rcases(ho3 g).mp hg with hg|rfl
   ·show s g hg
   ·show#[t,m1,q,p2,D,rfl,by simpa using hw1,by simpa using hxp]
  ·rintro Z S7 ⟨⟨a4,a8,rfl⟩,⟨U,H,e7,hd,s⟩,f7,k7⟩;show hK _ _ (st ?_);left;show Db (P:=qt) (Q:=λp=>C (.rt p.1,p.2)) e7 hd hsz L A N (.inr #[x,(l x X).1,(l x X).2,s]) λw S8 hw k8=>k w S8 hw (f7.ka k8) (k7.trans (k8.kp r))
end
abbrev aT (u v:Ki):T:=.tup [.int u,.int v]
abbrev c9 (u v:Ki):W:=.tup [.int u,.int v]
def iV {u v:Ki}:gH (c9 u v)=gV (aT u v):=rfl
def yX {U:J2 (T×W)}{k:T}{v:W}(h:bC U k=gV v):(k,v)∈U:=by
 unfold bC at h;rw[J6]at h;obtain⟨p,a,rfl⟩:=h;have:=PK a;rw[<- Lr this];show NL a
def B7 {U:J2 (T×W)}{p:T×W}(h:p∈U):∃v,bC U p.1=gV v:=by
 unfold bC;cases e:U.find? λq=>decide (q.1=p.1)with
 |some q=>show#[q.2,rfl]
 |none=>show absurd (List.find?_eq_none.mp e p h) (by simp)
noncomputable abbrev fD:=Ki×Ki×J2 Ki
inductive MustL (S:aa)(b:Kb):J2 (T×W)->J2 fD->Prop
 |nil:MustL S b [] []
 |cons {e:fD}{l:Kb}{U:J2 (T×W)}{L:J2 fD}:b<=l->S[l]?=gV (.lst (ah e.2.2))->MustL S b U L->MustL S b ((aT e.1 e.2.1,.ref l)::U) (e::L)
def MustL.mono {S S':aa}{b:Kb}{U:J2 (T×W)}{L:J2 fD}(h:MustL S b U L)(k:∀(l:Kb) (ws:J2 Ki),b<=l->S[l]?=gV (.lst (ah ws))->S'[l]?=gV (.lst (ah ws))):MustL S' b U L:=by
 induction h with
 |nil=>show .nil
 |cons a c _ ih=>show .cons a (k _ _ a c) ih
def MustL.ka {S S':aa}{b:Kb}{U:J2 (T×W)}{L:J2 fD}(h:MustL S b U L)(k:Ka S S'):MustL S' b U L:=h.mono λl ws _ e=>k.get _ _ e
def MustL.kp {S S':aa}{b r:Kb}{U:J2 (T×W)}{L:J2 fD}(h:MustL S b U L)(a:r<b)(k:Kp r S S'):MustL S' b U L:=h.mono λl ws hl e=>k.get _ _ ∅ e
def MustL.set {S:aa}{b t:Kb}{U k:J2 (T×W)}{L:J2 fD}{o:O}(h:MustL S b U L)(a:S[t]?=gV (.dic k)):MustL (S.set t o) b U L:=h.mono λl ws hl e=>by
 rw[bc (by rintro rfl;rw[a]at e;cases e)];show e
def MustL.len {S:aa}{b:Kb}{U:J2 (T×W)}{L:J2 fD}(h:MustL S b U L):↥U=↥L:=by
 induction h with
 |nil=>rfl
 |cons _ _ _ ih=>rw[K5,K5,ih]
def yY {e:fD}{u v:Ki}:decide (aT e.1 e.2.1=aT u v)=decide (e.1=u/\e.2.1=v):=by
 unfold aT;simp
abbrev z8 (L:J2 fD)(u v:Ki):J9 (J2 Ki):=(L.find? λe=>decide (e.1=u/\e.2.1=v)).map (·.2.2)
def MustL.look {S:aa}{b:Kb}{U:J2 (T×W)}{L:J2 fD}(h:MustL S b U L)(u v:Ki):(bC U (aT u v)=td/\z8 L u v=td)\/∃l ws,bC U (aT u v)=gV (.ref l)/\b<=l/\S[l]?=gV (.lst (ah ws))/\z8 L u v=gV ws:=by
 induction h with
 |nil=>show .inl #[rfl,rfl]
 |@cons e l U L a c _ ih=>
  unfold bC z8 at ih ⊢;rw[LA,LA];dsimp only;rw[yY]
  by_cases hd:e.1=u/\e.2.1=v
  ·rw[Ld hd];show .inr #[l,e.2.2,rfl,a,c,rfl]
  ·rw[K4 hd];show ih
def MustL.at {S:aa}{b i:Kb}{U:J2 (T×W)}{L:J2 fD}{p:T×W}(h:MustL S b U L)(a:U[i]?=gV p):∃e l,L[i]?=gV e/\p=(aT e.1 e.2.1,W.ref l):=by
 induction h generalizing i with
 |nil=>cases a
 |@cons e l U L _ _ _ ih=>
  cases i with
  |zero=>cases a;show#[e,l,rfl,rfl]
  |succ i=>show ih a
def MustL.snoc {S:aa}{b l:Kb}{U:J2 (T×W)}{L:J2 fD}{e:fD}(h:MustL S b U L)(d:b<=l)(f:S[l]?=gV (.lst (ah e.2.2))):MustL S b (U++[(aT e.1 e.2.1,.ref l)]) (L++[e]):=by
 induction h with
 |nil=>show .cons d f .nil
 |cons a c _ ih=>show .cons a c ih
def MustL.fresh {S:aa}{b:Kb}{U:J2 (T×W)}{L:J2 fD}{u v:Ki}{w:W}(h:MustL S b U L)(a:z8 L u v=td):dM U (aT u v) w=U++[(aT u v,w)]:=by
 unfold dM;rw[KS];rw[kF];rcases h.look u v with⟨e,_⟩|⟨l,ws,_,_,_,e⟩
 ·rw[e];show KJ
 ·rw[a]at e;cases e
abbrev qw (ws:J2 Ki):Es:=ws.foldr (λw es=>.cons (.c (.int w)) es) .nil
abbrev uu:J2 fD->Es
 |[]=>.nil
 |e::L=>.cons (.tup #v[.c (.int e.1),.c (.int e.2.1)]) (.cons (.lst (qw e.2.2)) (uu L))
abbrev vI:J2 fD->Kb->J2 W
 |[],_=>[]
 |e::L,s=>c9 e.1 e.2.1::.ref s::vI L (s+1)
abbrev vJ (L:J2 fD):aa:=L.map λe=>O.lst (ah e.2.2)
abbrev yZ (n:Kb)(e:fD):KR:=decide ((0<=e.1/\e.1<n)/\(0<=e.2.1/\e.2.1<n)/\↥e.2.2<=3)&&e.2.2.all λw=>decide (0<=w/\w<(n:Ki))
section
variable{M:KG->FF}{Z:Fm}
def sg {S:aa}:∀{ws:J2 Ki}{Q:J2 W×aa->Prop},Q (ah ws,S)->wA M (qw ws) Z S Q
 |[],Q,q=>by change wA M .nil Z S Q;show q
 |w::ws,Q,q=>by change wA M (.cons (.c (.int w)) (qw ws)) Z S Q;delta wA wE;show sg q
def y4:∀{L:J2 fD}{S:aa}{Q:J2 W×aa->Prop},Q (vI L ↥S,S++vJ L)->wA M (uu L) Z S Q
 |[],S,Q,q=>by
  change wA M .nil Z S Q;delta wA
  rwa [show S++vJ []=S from Ln S]at q
 |e::L,S,Q,q=>by
  change wA M (.cons (.tup #v[.c (.int e.1),.c (.int e.2.1)]) (.cons (.lst (qw e.2.2)) (uu L))) Z S Q;delta wA wE;show sg (y4 ?_);rw[Kh,L4];show q
end
abbrev B8 (L:J2 fD):KR:=(Kj ↥L).all λi=>(L[i]?).all λe=>(z8 (L.take i) e.1 e.2.1).isNone
def mR {S:aa}{b:Kb}:∀(L a:J2 fD) (s:Kb) (U:J2 (T×W)),MustL S b U a->B8 (a++L)=true->b<=s->(∀i e,L[i]?=gV e->S[s+i]?=gV (.lst (ah e.2.2)))->∃c,de U (vI L s)=gV c/\MustL S b c (a++L)
 |[],a,s,U,f,g,h,d=>#[U,by simp[vI,de],by rwa [Ln]]
 |e::L,a,s,U,f,g,h,d=>by
  have k:z8 a e.1 e.2.1=td:=by
   have:=KD.mp g ↥a (Ky.mpr (by rw[Kh,K5];omega))
   rw[Lv (Kl _),Oa]at this;rw[RI]at this
   ·simpa using this
   ·rfl
  obtain⟨c,m,j⟩:=mR L (a++[e]) (s+1) (dM U (aT e.1 e.2.1) (.ref s)) (by rw[f.fresh k];show f.snoc h (by have:=d 0 e rfl;simpa using this)) (by rw[L4];show g) ∅ (λi x l=>by have:=d (i+1) x (by simpa using l);rw[show s+1+i=s+(i+1) by omega];show this)
  show#[c,?_,by rw[L4]at j;show j]
  revert vI de iV;show m
abbrev KB:J2 (J2 Ki):=[[1,0],[0,2,1],[0,1],[0,1,2]]
noncomputable abbrev Hy:=J2 Ki×J2 fD×Ki
abbrev KT:J2 Hy:=[([1,0],[(0,0,[0])],3),([0,2,1],[(1,1,[1])],2),([0,1],[(1,1,[1])],3),([0,1],[(1,1,[1]),(0,0,[1])],3),([0,1],[(1,1,[])],1),([0,2,1],[(0,0,[0]),(0,1,[1]),(1,0,[1]),(1,1,[1])],2),([1,0],[],3),([0,1,2],[(2,2,[2]),(1,2,[1]),(2,1,[1]),(1,1,[1,2])],2),([0,1,2],[(0,0,[0,1])],2)]
def y6:∀x∈KT,x.1∈KB/\1<=x.2.2/\x.2.2<=3/\x.2.2*↥x.1<=6/\↥x.2.1<=4/\x.2.1.all (yZ ↥x.1)=true/\B8 x.2.1=true:=by decide
abbrev KindOk (S:aa)(b:Kb)(w:W):Prop:=∃(bs:J2 Ki) (q:Kb) (U:J2 (T×W)) (L:J2 fD) (most:Ki),w=.tup [.tup (ah bs),.ref q,.int most]/\(bs,L,most)∈KT/\S[q]?=gV (.dic U)/\b<=q/\MustL S b U L
def KindOk.mono {S S':aa}{b:Kb}{w:W}(h:KindOk S b w)(a:∀(l:Kb) (ws:J2 Ki),b<=l->S[l]?=gV (.lst (ah ws))->S'[l]?=gV (.lst (ah ws)))(c:∀(l:Kb) (U:J2 (T×W)),b<=l->S[l]?=gV (.dic U)->S'[l]?=gV (.dic U)):KindOk S' b w:=
 let ⟨bs,q,U,L,most,h1,h2,h6,h7,h9⟩:=h
 #[bs,q,U,L,most,h1,h2,c _ _ h7 h6,h7,h9.mono a]
def KindOk.ka {S S':aa}{b:Kb}{w:W}(h:KindOk S b w)(k:Ka S S'):KindOk S' b w:=h.mono (λl ws _ e=>k.get _ _ e) (λl ws _ e=>k.get _ _ e)
abbrev y8 (bs:J2 Ki)(L:J2 fD)(a:Ki):E:=.tup #v[.tup (qw bs),.disp (uu L),.c (.int a)]
section
variable{M:KG->FF}{Z:Fm}{S:aa}
def oA (bs:J2 Ki)(L:J2 fD)(a:Ki){b:Kb}{Q:QW}(g:b<=↥S)(f:(bs,L,a)∈KT)(k:∀w S',KindOk S' b w->Ka S S'->Q (w,S')) :
  wE M (y8 bs L a) Z S Q:=by
 unfold y8;delta wE wA;show sg (y4 ?_);have d:=(y6 _ f).2.2.2.2.2.2;obtain⟨U,m,n⟩:=mR (S:=S++[O.dic []]++vJ L) (b:=b) L [] (↥S+1) [] .nil d ∅ (λi e l=>by
  rw[Lv (by simp),show ↥S+1+i-(S++[O.dic []]).length=i by simp]
  simp[vJ,l])
 have c:(S++[O.dic []]++vJ L)[↥S]?=gV (.dic []):=by
  rw[Lf (by simp)];show aj
 show#[c,ac (show de [] (vI L (S++[O.dic []]).length)=gV U by rw[Kh];show m) (k _ _ #[bs,↥S,U,L,a,rfl,f,bm c,g,n.set c] #[λj o h=>?_,by simp])]
 ·have:j<↥S:=bF h;show((S++[O.dic []]++vJ L).set ↥S (O.dic U))[j]?=gV o;rw[bc ∅,Lf (by simp;omega)]
  show au h
structure Menu (S0 S:aa)(r t m:Kb):Prop where
 at_t:∃xs:J2 W,S[t]?=gV (.lst xs)/\↥xs=m/\∀x∈xs,KindOk S ↥S0 x
 pos:0<m
 lb:m<=9
 fl:Fl S r
 kp:Kp r S0 S
 lt:↥S0<=t
 rlt:r<↥S0
def qx {S0 S S':aa}{r t m:Kb}{w:W}(h:Menu S0 S r t m)(hw:KindOk S' ↥S0 w)(k:Ka S S')(p:m<9):∃xs,S'[t]?=gV (.lst xs)/\↥xs<sizeLine/\Menu S0 (S'.set t (.lst (xs++[w]))) r t (m+1):=by
 obtain⟨⟨xs,n,f,d⟩,s,o,j,kp,lt,g⟩:=h;have e:S'[t]?=gV (.lst xs):=k.get _ _ n;have stay:∀x,KindOk S' ↥S0 x->KindOk (S'.set t (.lst (xs++[w]))) ↥S0 x:=λx b=>b.mono (λl ws hl a=>by
  by_cases c:t=l
  ·exfalso;subst c;rw[e]at a;injection a with a
   injection a with a
   match xs,f,d with
   |[],f,_=>simp at f;omega
   |x::xs,_,d=>
    obtain⟨bs,q,U,L,i,b,_⟩:=d x (by simp)
    subst b
    match ws with
    |[]=>simp[ah]at a
    |w::ws=>simp[ah]at a
  ·rw[bc c];show a) (λl U hl a=>by
  rw[bc (by rintro rfl;rw[e]at a;cases a)];show a)
 show#[xs,e,(by rw[Lu];omega),#[xs++[w],bm e,by simp;omega,λx b=>?_],∅,∅,(j.ka k).own ∅,(kp.trans (k.kp r)).late lt,lt,g]
 rcases La.mp b with b|b
 ·show stay x ((d x b).ka k)
 ·rw[KA.mp b];show stay w hw
def qy (bs:J2 Ki)(L:J2 fD)(a:Ki){fuel:Kb}{S0:aa}{r t m:Kb}{c:J9 W}{K:Fm->aa->Prop}{Q:QO}(h:Menu S0 S r t m)(i:m<9)(g:(bs,L,a)∈KT)(k:∀S',Menu S0 S' r t (m+1)->K [c,gV (.ref t)] S') :
  wS M fuel (.ex (.me .append (.v 1) #v[y8 bs L a])) [c,gV (.ref t)] S K Q:=by
 left;obtain⟨xs,b,o,p⟩:=h.at_t;show#[cM b,oA bs L a (Lq h.lt (ND (bF b))) g λw S' j l=>?_]
 obtain⟨n,d,e,f⟩:=qx h j l i;show ac (yB d e) (k _ f)
def lQ {defs:J2 (KG×Df)}{fuel d:Kb}{r:Kb}{Q:QW}(G:Gen defs)(E:Fl S r)(k:∀w S',KindOk S' ↥S w->Fl S' r->Kp r S S'->Q (w,S')):wO (aL (ar defs fuel (d+2)) "_law_laying_kind" 1 [.ref r] S) Q:=by
 show az G.laying_kind rfl rfl λC D=>?_
 replace k:∀w S',KindOk S' ↥S w->Fl S' r->Kp r S S'->C (.rt w,S'):=λz S' a b c=>D _ _ (k z S' a b c)
 clear D;change wZ _ _ bK [gV (.ref r),td] S C;have u:=E.lt;unfold bK;nofun
 show Hr ?_;change wA _ _ _ _ _;change wE _ _ _ _ _
 show oA [1,0] [(0,0,[0])] 3 (b:=↥S) (Kl _) #v[] λB S1 I p=>?_
 change wE _ _ _ _ _;show oA [0,2,1] [(1,1,[1])] 2 (b:=↥S) p.len #v[] λw2 S2 J q=>?_
 have h:=p.trans q;change wE _ _ _ _ _;show oA [0,1] [(1,1,[1])] 3 (b:=↥S) h.len #v[] λw3 j L m=>?_
 have f:=h.trans m;delta wA;show hK _ _ ?_;clear hK K;have y:Menu S (j++[O.lst [B,w2,w3]]) r ↥j 3:=by
  show#[#[[B,w2,w3],aj,rfl,λx i=>?_],#v[],#v[],(E.ka f).ka .push,(f.trans .push).kp r,f.len,u]
  rcases KH.mp i with rfl|i
  ·show(I.ka (q.trans m)).ka .push
  ·rcases KH.mp i with rfl|i
   ·show(J.ka m).ka .push
   ·rw[KA.mp i];show L.ka .push
 delta Kv;clear I J L p q m h f;generalize ↥j=t at y;generalize j++[O.lst [B,w2,w3]]=S3' at y;show aR λK hK=>qy [0,1] [(1,1,[1]),(0,0,[1])] 3 y #v[] #v[] λS4 W=>hK _ _ ?_
 show aR λK hK=>qy [0,1] [(1,1,[])] 1 W #v[] #v[] λS5 X=>hK _ _ ?_
 show aR λK hK=>qy [0,2,1] [(0,0,[0]),(0,1,[1]),(1,0,[1]),(1,1,[1])] 2 X #v[] #v[] λo A=>hK _ _ ?_
 nofun
 left;obtain⟨xs,N,e2,e3⟩:=A.at_t;obtain⟨xs',P,R,Y⟩:=qx (S':=o++[O.dic []]) (w:=.tup [.tup (ah [1,0]),.ref ↥o,.int 3]) A #[[1,0],↥o,[],[],3,rfl,#v[],aj,A.kp.len,.nil] .push #v[]
 show#[cM N,ac (yB P R) (hK _ _ ?_)];show aR λK hK=>qy [0,1,2] [(2,2,[2]),(1,2,[1]),(2,1,[1]),(1,1,[1,2])] 2 Y #v[] #v[] λS8 Z=>hK _ _ ?_
 show aR λK hK=>qy [0,1,2] [(0,0,[0,1])] 2 Z #v[] #v[] λS9 n=>hK _ _ ?_
 show st ?_;left;show bE (d:=d) G.pick n.fl #v[] #v[] λv M v0 v9 s g=>?_
 obtain⟨xs,T,g2,U⟩:=n.at_t;have V:=n.lt;have H:v.toNat<↥xs:=∅
 show jJ (g.get _ _ ∅ T) v0 (Ke H) (k _ _ ((U _ (Ll H)).mono (λl ws hl e=>g.get _ _ ∅ e) (λl ws hl e=>g.get _ _ ∅ e)) s (n.kp.trans g))
end
abbrev fX (bs:J2 Ki):J2 (J2 Ki):=if bs=[0,1,2]then[[0,1,2],[0,2,1],[1,0,2],[1,2,0],[2,0,1],[2,1,0]]else if ↥bs=2 then[[0,1],[1,0]]else[[0,1,2],[0,2,1],[2,0,1],[2,1,0]]
abbrev cq (bs a:J2 Ki):Kb->J2 Ki
 |0=>KU ↥bs 0
 |k+1=>(cq bs a k).set (a.getD k 0).toNat (a.getD (bs.getD k 0).toNat 0)
def gC (bs a:J2 Ki):∀k,(cq bs a k).length=↥bs
 |0=>by simp[cq]
 |k+1=>by simp[cq,gC bs a k]
def uy:∀bs∈KB,∀a∈fX bs,↥a=↥bs/\(∀x∈a,0<=x/\x<(↥bs:Ki))/\(∀x∈bs,0<=x/\x<(↥bs:Ki))/\GoodB (cq bs a ↥bs):=by
 unfold GoodB;decide +kernel
def y9:∀bs∈KB,(↥bs=2\/↥bs=3)/\0<(fX bs).length/\(fX bs).length<10:=by decide
abbrev ie (a:J2 Ki)(e:fD):fD:=(a.getD e.1.toNat 0,a.getD e.2.1.toNat 0,e.2.2.map λw=>a.getD w.toNat 0)
def B9:∀x∈KT,∀e∈x.2.1,z8 x.2.1 e.1 e.2.1=gV e.2.2:=by decide
def EU:∀x∈KT,∀a∈fX x.1,B8 (x.2.1.map (ie a))=true:=by decide +kernel
def EV {L:J2 fD}{i:Kb}{e:fD}(h:B8 L=true)(a:L[i]?=gV e):z8 (L.take i) e.1 e.2.1=td:=by
 have:=KD.mp h i (Ky.mpr (Ko.mp a).1);rw[a]at this
 simpa using this
def EW {n:Kb}{e:fD}(h:yZ n e=true):(0<=e.1/\e.1<n)/\(0<=e.2.1/\e.2.1<n)/\↥e.2.2<=3/\∀w∈e.2.2,0<=w/\w<(n:Ki):=by
 unfold yZ at h;rw[Kc,KD]at h;obtain⟨a,b,c⟩:=Lr h.1;show#[a,b,c,λw hw=>Lr (h.2 w hw)]
section
variable{M:KG->FF}{fuel:Kb}{Z:Fm}{S:aa}{K:Fm->aa->Prop}{Q:QO}
def Cb {tg:Tg}{e:E}{b:Ss}(r:Kb)(U:J2 (T×W))(I:Kb->Fm->aa->Prop)(l:cH e=true)(ok:gK b=true)(j:wE M e Z S λp=>p.1=.ref r/\p.2[r]?=gV (.dic U)/\I 0 Z (p.2.set r (.frd U)))
  (a:∀(i:Kb) (p:T×W) (Z:Fm) (S:aa),U[i]?=gV p->I i Z S->wO (gh tg p.1.w Z S) λq=>wa M fuel b q.1 q.2 (I (i+1)) Q) (c:∀Z S,I ↥U Z S->K Z S):Wp (fR M fuel (.loop tg (.seq e) b) Z S) (qV K Q):=by
 obtain⟨w,S1,g,rfl,f,h⟩:=br l j;show ic (mi:=.its (U.map λp=>p.1.w)) (S1:=S1.set r (.frd U)) (xs:=U.map λp=>p.1.w) I ok (by simp only[i6,d6,g,og f,bQ f]) (λ_ _ _ _=>rfl) rfl h (λi w Z S hw d=>?_) λZ S d=>c Z S (by rwa [J4]at d)
 rw[Kg,J6]at hw;obtain⟨p,k,rfl⟩:=hw;show a i p Z S k d
end
section
variable{defs:J2 (KG×Df)}{fuel d:Kb}{S:aa}{r:Kb}{Q:QW}
def Hz {i n:Kb}{x:W}(h:S[i]?=gV (.lst [x]))(a:n<=1000)(q:Q (.ref ↥S,S++[.lst (KU n x)])):wO (gN .mul (.ref i) (.int (n:Ki)) S) Q:=by
 show ac ?_ q;have:n<=sizeLine:=lb a;simp only[gN,AE,cV h];rw[KC #[∅,∅,by simpa using this]]
 unfold lN;simp[this]
def mS {q:Kb}{U:J2 (T×W)}{u v:Ki}{w:W}(h:gO S q=gV U)(a:bC U (aT u v)=gV w):ph (.ref q) (.tup [.int u,.int v]) S=gV (w,S):=by
 have hk:gH (.tup [.int u,.int v])=gV (aT u v):=iV;revert ph h hk a KM
def zb {q:Kb}{U:J2 (T×W)}{u v:Ki}{w:W}(h:S[q]?=gV (.dic U))(hl:↥U<sizeLine):gZ (.ref q) (.tup [.int u,.int v]) w S=gV (S.set q (.dic (dM U (aT u v) w))):=by
 have hk:gH (.tup [.int u,.int v])=gV (aT u v):=iV;revert gZ jd h hk;rw[KC hl]
def int_at {xs:J2 Ki}{x:Ki}(b:0<=x)(a:x.toNat<↥xs):(ah xs)[x.toNat]?=gV (.int (xs.getD x.toNat 0)):=by
 unfold ah;rw[Kg,ap (d:=0) a];rfl
def qA {xs:J2 Ki}{i:Kb}(h:i<↥xs):xs.getD i 0∈xs:=Kt (ap (d:=0) h)
def lR (G:Gen defs){Q:QO}{bs:J2 Ki}{p r:J9 W}(u:bs∈KB)
  (hk:∀(m s:Kb) (S':aa),Ka S S'->S'[s]?=gV (.lst ((fX bs).map λz=>W.tup (ah z)))->↥S<=s->wZ (ar defs fuel (d+1)) fuel (dr 5 be) [p,gV (.tup (ah bs)),r,gV (.int ↥bs),gV (.ref m),gV (.ref s),td,td,td,td,td,td] S' Q) :
  wZ (ar defs fuel (d+1)) fuel be [p,gV (.tup (ah bs)),r,td,td,td,td,td,td,td,td,td] S Q:=by
 generalize e:dr 5 be=bW at hk;unfold be at e ⊢;dsimp only[dr]at e;rw[e];clear e;nofun
 left;show aF ?_;rw[show(ah bs).length=↥bs from J4 ..]
 show hK _ _ ?_;clear hK K;nofun
 left;have g:(((S++[O.lst [.tup [.int 0]]])++[O.lst [.tup [.int 0,.int 1],.tup [.int 1,.int 0]]])++[O.lst [.ref ↥S,.ref (S++[O.lst [.tup [.int 0]]]).length]])[((S++[O.lst [.tup [.int 0]]])++[O.lst [.tup [.int 0,.int 1],.tup [.int 1,.int 0]]]).length]?=gV (.lst [.ref ↥S,.ref (S++[O.lst [.tup [.int 0]]]).length]):=aj;show hK _ _ ?_;clear hK K;generalize f:S++[O.lst [.tup [.int 0]]]=S1 at g ⊢;generalize b:S1++[O.lst [.tup [.int 0,.int 1],.tup [.int 1,.int 0]]]=S2 at g ⊢;generalize c:S2++[O.lst [.ref ↥S,.ref ↥S1]]=S3 at g ⊢;have w:↥S1=↥S+1:=by rw[<- f];simp
 have x:↥S2=↥S1+1:=by rw[<- b];simp
 have y:↥S3=↥S2+1:=by rw[<- c];simp
 have j:Ka S S2:=by rw[<- b,<- f];show Ka.push.trans .push
 nofun
 left;show#[cM g,jK (au g) (by decide:2<1000) (hK _ _ ?_)]
 clear hK K;generalize a:(S3++[O.lst [.tup [.int 0,.int 1,.int 2],.tup [.int 0,.int 2,.int 1],.tup [.int 2,.int 0,.int 1],.tup [.int 2,.int 1,.int 0]]]).set ↥S2 (.lst ([.ref ↥S,.ref ↥S1]++[.ref ↥S3]))=S5;have h:Ka S S5:=by
  rw[<- a,<- c];show Ka.late (j.trans (Ka.push.trans .push)) ∅
 have k:S5[↥S2]?=gV (.lst [.ref ↥S,.ref ↥S1,.ref ↥S3]):=by
  rw[<- a];show bm (au g)
 have o:S5[↥S1]?=gV (.lst [.tup [.int 0,.int 1],.tup [.int 1,.int 0]]):=by
  rw[<- a,bc ∅,<- c,<- b]
  show au (au aj)
 have A:S5[↥S3]?=gV (.lst [.tup [.int 0,.int 1,.int 2],.tup [.int 0,.int 2,.int 1],.tup [.int 2,.int 0,.int 1],.tup [.int 2,.int 1,.int 0]]):=by
  rw[<- a,bc ∅]
  show aj
 have n:↥S<=↥S1:=∅
 have t:↥S<=↥S3:=∅
 clear f b c a g w x y j;nofun
 delta wS wE wA wV wG Kv mL bM;have l:bs=[1,0]\/bs=[0,2,1]\/bs=[0,1]\/bs=[0,1,2]:=by simpa [KB]using u
 rcases l with rfl|rfl|rfl|rfl
 ·show dR (i:=1) k rfl (hK _ _ (aR λK hK=>yF (λQ q=>q) (hK _ _ (hk _ _ _ h o n))))
 ·show dR (i:=2) k rfl (hK _ _ (aR λK hK=>yF (λQ q=>q) (hK _ _ (hk _ _ _ h A t))))
 ·show dR (i:=1) k rfl (hK _ _ (aR λK hK=>yF (λQ q=>q) (hK _ _ (hk _ _ _ h o n))))
 ·show dR (i:=2) k rfl (hK _ _ (aR λK hK=>Hs (λQ q=>q) λB v _=>?_))
  show st ?_;left;show jX (d:=d) G (bu (v _ _ (hK _ _ (hk _ _ _ (h.trans .push) aj h.len))))
def si (G:Gen defs){S0:aa}{bs:J2 Ki}{q:Kb}{U:J2 (T×W)}{L:J2 fD}{most:Ki}(V:(bs,L,most)∈KT)(hf:Fl S r)(hr:r<↥S0)(kp:Kp r S0 S)(hq:S[q]?=gV (.dic U))(hq0:↥S0<=q)(hm:MustL S ↥S0 U L)
  (k:∀(n:J2 Ki) (q':Kb) (y:J2 (T×W)) S',n∈fX bs->S'[q']?=gV (.dic y)->↥S0<=q'->MustL S' ↥S0 y (L.map (ie n))->Fl S' r->Kp r S0 S'->Q (.tup [.tup (ah (cq bs n ↥bs)),.ref q'],S')) :
  wO (aL (ar defs fuel (d+2)) "_law_numbered" 3 [.ref r,.tup (ah bs),.ref q] S) Q:=by
 show az G.numbered rfl rfl λQ' hR=>?_
 replace k:∀(n:J2 Ki) (q':Kb) (y:J2 (T×W)) S',n∈fX bs->S'[q']?=gV (.dic y)->↥S0<=q'->MustL S' ↥S0 y (L.map (ie n))->Fl S' r->Kp r S0 S'->Q' (.rt (.tup [.tup (ah (cq bs n ↥bs)),.ref q']),S'):=λa b c e f g h i j l=>hR _ _ (k a b c e f g h i j l)
 clear hR;obtain⟨hb,_,_,_,h4,hok,_⟩:=y6 _ V;show lR (d:=d) G hb ?_;intro m s S1 k1 e1 hs;delta dr be;have hrt:=hf.lt;obtain⟨hb1,hb2,hb3⟩:=y9 bs hb;nofun
 left;show gS e1 ?_;rw[J4];show bE (d:=d) G.pick (hf.ka k1) ∅ ∅ λv S2 v0 v1 f2 k2=>?_
 obtain⟨n,A,enm⟩:=oo (f:=λn=>W.tup (ah n)) (xs:=fX bs) (i:=v.toNat) ∅
 obtain⟨n1,n2,n3,n4⟩:=uy bs hb n A;show jJ (k2.get _ _ ∅ e1) v0 enm (hK _ _ ?_)
 clear hK K;nofun
 left;show Hz aj ∅ (hK _ _ ?_)
 clear hK K;generalize hS4:S2++[O.lst [.int 0]]=S4;have B:Ka S2 S4:=hS4▸.push;have f4:Fl S4 r:=f2.ka B;have kp4:Kp r S0 S4:=(kp.trans (k1.kp r)).trans (k2.trans (B.kp r));have q4:S4[q]?=gV (.dic U):=B.get _ _ (k2.get _ _ ∅ (k1.get _ _ hq))
 have m4:MustL S4 ↥S0 U L:=((hm.ka k1).kp hr k2).ka B;have hm0:=hm;clear hS4 B hm hq f2 k2 k1 e1 enm hf;nofun
 show cv (↥bs:Ki) (λk Z S'=>(∃x8,Z=[gV (.ref r),gV (.tup (ah bs)),gV (.ref q),gV (.int ↥bs),gV (.ref m),gV (.ref s),gV (.tup (ah n)),gV (.ref ↥S4),x8,td,td,td])/\S'[↥S4]?=gV (.lst (ah (cq bs n k)))/\Ka S4 S') rfl rfl ∅ #[rfl,#[_,rfl],?_,.push] ?_ ?_
 ·rw[aj];simp[cq,ah]
 ·rintro i Z C hi ⟨⟨x8,rfl⟩,P,k5⟩ Q2 hn _;clear hK k;have hi':i<↥bs:=∅
  have hi1:i<↥n:=∅
  have c:=n3 _ (qA hi');have c2:=n2 _ (qA hi1);show st ?_;left;show ak (Kq i) (int_at (Kq i) hi') (ak c.1 (int_at c.1 (by rw[Kz];omega)) (ak (Kq i) (int_at (Kq i) hi1) ?_))
  rw[Kz];show ac (C4 P c2.1 (by rw[show(ah (cq bs n i)).length=_ from J4 ..,gC];omega)) (bu (hn _ _ #[#[_,rfl],?_,k5.late (Kl _)]))
  rw[bm P];unfold ah;rw[cq,List.map_set]
 ·rintro Z C ⟨⟨x8,rfl⟩,P,k5⟩;rw[Kz]at P;show hK _ _ (st ?_);clear hK K;delta wS wE Kv;have f5:Fl C r:=f4.ka k5;have q5:C[q]?=gV (.dic U):=k5.get _ _ q4;have m5:MustL C ↥S0 U L:=m4.ka k5;have hkl:=hm0.len;have kp5:Kp r S0 C:=kp4.trans (k5.kp r);have hq5:=bF q5;have ht5:=bF P;have hqt:q≠↥S4:=by rintro rfl;rw[P]at q5;cases q5
  have hn9:(↥bs:Ki)<=3:=∅
  have hr5:=f5.lt;clear k5 m4 q4 f4;nofun
  show Cb q U (λk Z S'=>(∃I J,Z=[gV (.ref r),gV (.tup (ah bs)),gV (.ref q),gV (.int ↥bs),gV (.ref m),gV (.ref s),gV (.tup (ah n)),gV (.ref ↥S4),x8,gV (.ref ↥C),I,J])/\S'[q]?=gV (.frd U)/\MustL S' ↥S0 U L/\S'[↥S4]?=gV (.lst (ah (cq bs n ↥bs)))/\(∃y,S'[↥C]?=gV (.dic y)/\MustL S' ↥S0 y ((L.take k).map (ie n)))/\Fl S' r/\Kp r S0 S') rfl rfl #[rfl,au q5,#[td,td,rfl],bm (au q5),(m5.ka .push).set (au q5),?_,#[[],?_,.nil],(f5.ka .push).own ∅,(kp5.trans .push).late hq0] ?_ ?_
  ·rw[bc hqt];show au P
  ·rw[bc ∅];show aj
  ·rintro i p Z S6 hp ⟨⟨I,J,rfl⟩,q6,m6,t6,⟨y,o6,t⟩,f6,H⟩;clear hK k;have hil:=(Ko.mp hp).1;obtain⟨en,l,R,rfl⟩:=m6.at hp;have hem:=Kt R;have D:=B9 _ V en hem;have Y:=EV (EU _ V n A) (i:=i) (e:=ie n en) (by rw[Kg];dsimp only;rw[R];rfl)
   dsimp only at D Y;obtain⟨hu,E,X,hw3⟩:=EW (KD.mp hok en hem);dsimp only at hu E X hw3;obtain⟨u,M,o⟩:=en;dsimp only at D hu E X hw3 ⊢;obtain⟨l2,hg,hl2,hws2⟩:∃l2,bC U (aT u M)=gV (.ref l2)/\↥S0<=l2/\S6[l2]?=gV (.lst (ah o)):=by
    rcases m6.look u M with⟨_,e⟩|⟨l2,ws,g1,g2,g3,e⟩
    ·rw[D]at e;cases e
    ·rw[D]at e;cases e;show#[l2,g1,g2,g3]
   have hl32:=X;have hw32:=hw3;have hul:u.toNat<↥n:=∅
   have hvl:M.toNat<↥n:=∅
   show ac (show gh (.tp [10,11]) (aT u M,W.ref l).1.w [gV (.ref r),gV (.tup (ah bs)),gV (.ref q),gV (.int ↥bs),gV (.ref m),gV (.ref s),gV (.tup (ah n)),gV (.ref ↥S4),x8,gV (.ref ↥C),I,J] S6=gV ([gV (.ref r),gV (.tup (ah bs)),gV (.ref q),gV (.int ↥bs),gV (.ref m),gV (.ref s),gV (.tup (ah n)),gV (.ref ↥S4),x8,gV (.ref ↥C),gV (.int u),gV (.int M)],S6)from rfl) λQ2 hn _=>?_
   show st ?_;left;show uh l2 (ah o) (λi zs Z2 N=>(∃a1,Z2=[td,a1,gV (.tup (ah n))])/\zs=ah ((o.take i).map λw=>n.getD w.toNat 0)/\N=S6) rfl rfl rfl ?_ ?_ ?_ ?_
   ·delta wE wA wV wG;show ac (mS (BS q6) hg) #[rfl,#[_,rfl],rfl,rfl]
   ·rintro i zs Z2 N ⟨_,_,rfl⟩;show hws2
   ·rintro i w zs Z2 N hw ⟨⟨a1,rfl⟩,rfl,rfl⟩;unfold ah at hw;rw[Kg,J6]at hw;obtain⟨x,hx,rfl⟩:=hw;obtain⟨x0,x1⟩:=hw32 x (Kt hx);have hxl:x.toNat<↥n:=∅
    show ac (show gh (.nm 1) (.int x) [td,a1,gV (.tup (ah n))] N=gV ([td,gV (.int x),gV (.tup (ah n))],N)from rfl) ?_
    delta eG wC wE wA wV wG;show#[λ_=>ak x0 (int_at x0 hxl) #[#[_,rfl],?_,rfl],λz=>by cases z]
    rw[K7,hx];simp[ah]
   ·rintro zs Z2 N ⟨_,rfl,rfl⟩;rw[show(ah o).length=↥o from J4 ..,Li]
    show#[lb (by simp[ah];omega),ak hu.1 (int_at hu.1 hul) (ak E.1 (int_at E.1 hvl) ?_)]
    show ac (zb (au o6) (by have:=t.len;rw[J4,KY]at this;have:=Rk i ↥L;dsimp only at h4;rw[Lu];omega)) (bu (hn _ _ #[#[_,_,rfl],?_,(m6.ka .push).set (au o6),?_,#[_,bm (au o6),?_],(f6.ka .push).own ∅,(H.trans .push).late kp5.len]))
    ·rw[bc ∅];show au q6
    ·rw[bc ∅];show au t6
    ·rw[K7,R,KN];rw[<- MD]at Y;show(?_:MustL _ _ (dM y (aT (ie n (u,M,o)).1 (ie n (u,M,o)).2.1) (.ref ↥N)) _);rw[t.fresh Y];show((t.ka .push).snoc (e:=ie n (u,M,o)) H.len aj).set (au o6)
  ·rintro Z S6 ⟨⟨I,J,rfl⟩,q6,m6,t6,⟨y,o6,t⟩,f6,H⟩;show hK _ _ (st ?_);left;rw[hkl,Li]at t;show bZ t6 (k n _ y _ A o6 kp5.len t f6 H)
end
abbrev vK (x y z:Ki):J2 (T×W):=[(aT 1 0,.int x),(aT 2 0,.int y),(aT 2 1,.int z)]
abbrev Cc (x y z a b c:Ki):Kb->J2 (T×W)
 |0=>vK x y z
 |1=>vK x y z++[(aT 0 1,.int a)]
 |2=>vK x y z++[(aT 0 1,.int a),(aT 0 2,.int b)]
 |_=>vK x y z++[(aT 0 1,.int a),(aT 0 2,.int b),(aT 1 2,.int c)]
abbrev z9 (x y z a b c:Ki):Kb->Kb->Ki
 |0,1=>a
 |0,2=>b
 |1,0=>x
 |1,2=>c
 |2,0=>y
 |2,1=>z
 |_,_=>0
def EX {x y z a b c:Ki}:∀i j:Kb,i<3->j<3->i≠j->bC (Cc x y z a b c 3) (aT i j)=gV (.int (z9 x y z a b c i j)):=by
 intro i j hi e d
 match i,j,hi,e,d with
 |0,0,_,_,h=>show absurd rfl h
 |0,1,_,_,_=>rfl
 |0,2,_,_,_=>rfl
 |1,0,_,_,_=>rfl
 |1,1,_,_,h=>show absurd rfl h
 |1,2,_,_,_=>rfl
 |2,0,_,_,_=>rfl
 |2,1,_,_,_=>rfl
 |2,2,_,_,h=>show absurd rfl h
abbrev EY (p:Ki):J9 (J2 Ki)->KR
 |none=>false
 |some ws=>!(ws.any λw=>kq (.int w) (.int p))
abbrev EZ (L:J2 fD)(f:Kb->Kb->Ki)(t:J2 Kb):KR:=EY (f (t.getD 0 0) (t.getD 2 0)) (z8 L (f (t.getD 0 0) (t.getD 1 0)) (f (t.getD 1 0) (t.getD 2 0)))
abbrev qB (bs:J2 Ki)(L:J2 fD)(x y z:Ki):KR:=am.any (EZ L (z9 x y z (bs.getD x.toNat 0) (bs.getD y.toNat 0) (bs.getD z.toNat 0)))
def qC:∀t∈am,↥t=3/\t.getD 0 0<3/\t.getD 1 0<3/\t.getD 2 0<3/\t.getD 0 0≠t.getD 1 0/\t.getD 1 0≠t.getD 2 0/\t.getD 0 0≠t.getD 2 0:=by decide
def zd {t:J2 Kb}(h:t∈am):∃i j k:Kb,t=[i,j,k]/\i<3/\j<3/\k<3/\i≠j/\j≠k/\i≠k:=by
 obtain⟨b,a⟩:=qC t h
 match t,b,a with
 |[i,j,k],_,a=>show#[i,j,k,rfl,a]
section
variable{defs:J2 (KG×Df)}{fuel d:Kb}{S:aa}{r:Kb}{Q:QW}
def ze {l:Kb}{f:Ki}{ws:J2 Ki}(h:S[l]?=gV (.lst (ah ws))):bh .notin (.int f) (.ref l) S=gV (.bl (!(ws.any λw=>kq (.int w) (.int f))),S):=by
 have b:(aN (.int f)&&(ah ws).all aN)=true:=by
  revert aN Na KD;intro x c;obtain⟨z,_,rfl⟩:=Kn.mp c;rfl
 have a:((ah ws).any λz=>kq z (.int f))=ws.any λw=>kq (.int w) (.int f):=by unfold ah;rw[SM];rfl
 simp only[bh,iN h,cD,rB,xn,cp,aC h,b,MW,KM,a]
def E2 {q:Kb}{U:J2 (T×W)}(h:S[q]?=gV (.dic U)):tyOk "dict" S (.ref q)=true:=by simp[tyOk,bQ h]
def Cd {q:Kb}{U:J2 (T×W)}(h:S[q]?=gV (.dic U))(k:Q (.ref ↥S,S++[.lst (U.map λp=>p.1.w)])):wO (Bi.list.fn [.ref q] S) Q:=by
 show ac ?_ k;have a:pc S q=td:=by simp[pc,h]
 have b:fI [.ref q] S=td:=by simp[fI,a,fm,cp,og h]
 simp only[Bi.fn,qa,b,iH,bQ h]
def zf (G:Gen defs){bs:J2 Ki}{q b0:Kb}{U:J2 (T×W)}{L:J2 fD}{x y z:Ki}(hb:GoodB bs)(hx:0<=x/\x<↥bs)(hy:0<=y/\y<↥bs)(hz:0<=z/\z<↥bs)(hq:S[q]?=gV (.dic U))(hm:MustL S b0 U L)
  (k:∀S',Ka S S'->Q (.bl (qB bs L x y z),S')):wO (aL (ar defs fuel (d+2)) "_law_breaks" 5 [.tup (ah bs),.ref q,.int x,.int y,.int z] S) Q:=by
 show az G.breaks rfl rfl λQ' hR=>?_
 replace k:∀S',Ka S S'->Q' (.rt (.bl (qB bs L x y z)),S'):=λa b=>hR _ _ (k a b)
 clear hR;change wZ _ _ dw [gV (.tup (ah bs)),gV (.ref q),gV (.int x),gV (.int y),gV (.int z),td,td,td,td,td] S Q';unfold qB at k;have M:bs[x.toNat]?=gV (bs.getD x.toNat 0):=ap ∅
 have N:bs[y.toNat]?=gV (bs.getD y.toNat 0):=ap ∅
 have P:bs[z.toNat]?=gV (bs.getD z.toNat 0):=ap ∅
 generalize bs.getD x.toNat 0=a at M k;generalize bs.getD y.toNat 0=b at N k;generalize bs.getD z.toNat 0=c at P k;have hqt:=bF hq;unfold dw;nofun
 left;show#[aj,ac (show de [] [.tup [.int 1,.int 0],.int x,.tup [.int 2,.int 0],.int y,.tup [.int 2,.int 1],.int z]=gV (vK x y z)from rfl) (hK _ _ ?_)]
 clear hK K;have e1:((S++[O.dic []]).set ↥S (.dic (vK x y z)))[↥S]?=gV (.dic (vK x y z)):=bm aj;have k1:Ka S ((S++[O.dic []]).set ↥S (.dic (vK x y z))):=Ka.push.late (Kl _);have l1:((S++[O.dic []]).set ↥S (.dic (vK x y z))).length=↥S+1:=by simp
 generalize(S++[O.dic []]).set ↥S (.dic (vK x y z))=S1 at e1 k1 l1 ⊢;nofun
 show iT rfl rfl ?_;delta wE wA wV wG;show Cd e1 #[↥S1,[c9 1 0,c9 2 0,c9 2 1],(λk Z S'=>(∃m,Z=[gV (.tup (ah bs)),gV (.ref q),gV (.int x),gV (.int y),gV (.int z),gV (.ref ↥S),m,td,td,td])/\S'[↥S]?=gV (.dic (Cc x y z a b c k))/\S'[↥S1]?=gV (.lst [c9 1 0,c9 2 0,c9 2 1])/\Ka S S'),rfl,#[#[_,rfl],au e1,aj,k1.trans .push],λi Z S' h=>h.2.2.1,?_,?_]
 ·have step:∀(u v f g:Ki) (kv E:J2 (T×W)) (S':aa) (i:Kb),bC kv (aT u v)=gV (.int f)->0<=f->bs[f.toNat]?=gV g->↥kv<10->dM kv (aT v u) (.int g)=E->Cc x y z a b c (i+1)=E->∀m:J9 W,S'[↥S]?=gV (.dic kv)->S'[↥S1]?=gV (.lst [c9 1 0,c9 2 0,c9 2 1])->Ka S S'->
    wO (gh (.nm 6) (c9 u v) [gV (.tup (ah bs)),gV (.ref q),gV (.int x),gV (.int y),gV (.int z),gV (.ref ↥S),m,td,td,td] S') λp=>wa (ar defs fuel (d+1)) fuel #v[.put (.v 5) (.tup #v[.ix (.v 6) (.c (.int 1)),.ix (.v 6) (.c (.int 0))]) (.ix (.v 0) (.ix (.v 5) (.v 6)))] p.1 p.2 (λZ S'=>(∃m,Z=[gV (.tup (ah bs)),gV (.ref q),gV (.int x),gV (.int y),gV (.int z),gV (.ref ↥S),m,td,td,td])/\S'[↥S]?=gV (.dic (Cc x y z a b c (i+1)))/\S'[↥S1]?=gV (.lst [c9 1 0,c9 2 0,c9 2 1])/\Ka S S') Q':=by
   clear hK k;intro u v f g kv E S' i r h2 I h4 h5 h6 m e e' k;show ac (show gh (.nm 6) (c9 u v) [gV (.tup (ah bs)),gV (.ref q),gV (.int x),gV (.int y),gV (.int z),gV (.ref ↥S),m,td,td,td] S'=gV ([gV (.tup (ah bs)),gV (.ref q),gV (.int x),gV (.int y),gV (.int z),gV (.ref ↥S),gV (c9 u v),td,td,td],S')from rfl) λQ2 hn _=>?_
   show st ?_;left;show ac (mS (bQ e) r) (ak h2 (w:=.int g) (by unfold ah;rw[Kg,I];rfl) (ak #v[] rfl (ak #v[] rfl ?_)))
   show ac (zb e (by rw[Lu];omega)) (bu (hn _ _ #[#[_,rfl],?_,?_,k.late (Kl _)]))
   ·rw[bm e,h5,h6]
   ·rw[bc ∅];show e'
  rintro i w Z D hw ⟨⟨m,rfl⟩,s,l2,k2⟩
  match i,hw,s with
  |0,hw,s=>cases hw;show step 1 0 x a _ _ D 0 (by rfl) hx.1 M (by simp[Cc,vK]) (by rfl) (by rfl) m s l2 k2
  |1,hw,s=>cases hw;show step 2 0 y b _ _ D 1 (by rfl) hy.1 N (by simp[Cc,vK]) (by rfl) (by rfl) m s l2 k2
  |2,hw,s=>cases hw;show step 2 1 z c _ _ D 2 (by rfl) hz.1 P (by simp[Cc,vK]) (by rfl) (by rfl) m s l2 k2
  |n+3,hw,_=>simp at hw
 ·rintro Z D ⟨⟨m,rfl⟩,s,l2,k2⟩;have hv:=EX (x:=x) (y:=y) (z:=z) (a:=a) (b:=b) (c:=c);generalize hB:EZ L (z9 x y z a b c)=B at k;have s:D[↥S]?=gV (.dic (Cc x y z a b c 3)):=s;show hK _ _ ?_;clear hK K;have hlt2:=bF s;nofun
  show iT rfl rfl ?_;delta wE wA wV wG;show jX (d:=d) G #[↥D,am.map (λt=>W.tup (ab t)),(λk Z S'=>(∃x7 x8 x9,Z=[gV (.tup (ah bs)),gV (.ref q),gV (.int x),gV (.int y),gV (.int z),gV (.ref ↥S),m,x7,x8,x9])/\S'[↥S]?=gV (.dic (Cc x y z a b c 3))/\S'[↥D]?=gV (.lst (am.map (λt=>W.tup (ab t))))/\Ka S S'/\(am.take k).any B=false),rfl,#[#[_,_,_,rfl],au s,aj,k2.trans .push,rfl],λi Z S' h=>h.2.2.1,?_,?_]
  ·rintro i w Z C hw ⟨⟨x7,x8,x9,rfl⟩,H,l3,J,I⟩;clear hK;rw[Kg,J6]at hw;obtain⟨t,ht,rfl⟩:=hw;have htm:=Kt ht;have j:B t=EZ L (z9 x y z a b c) t:=by rw[hB]
   obtain⟨i1,A,r,rfl,X,Y,V,n1,n2,n3⟩:=zd (Kt ht);have g1:=hv i1 A X Y n1;have g2:=hv A r Y V n2;have g3:=hv i1 r X V n3;replace j:B [i1,A,r]=EY (z9 x y z a b c i1 r) (z8 L (z9 x y z a b c i1 A) (z9 x y z a b c A r)):=j;generalize z9 x y z a b c i1 A=p1 at g1 j;generalize z9 x y z a b c A r=p2 at g2 j;generalize z9 x y z a b c i1 r=p3 at g3 j;have q3:=J.get _ _ hq;show ac (show gh (.tp [7,8,9]) (W.tup (ab [i1,A,r])) [gV (.tup (ah bs)),gV (.ref q),gV (.int x),gV (.int y),gV (.int z),gV (.ref ↥S),m,x7,x8,x9] C=gV ([gV (.tup (ah bs)),gV (.ref q),gV (.int x),gV (.int y),gV (.int z),gV (.ref ↥S),m,gV (.int i1),gV (.int A),gV (.int r)],C)from rfl) λQ2 hn hr=>?_
   nofun
   delta wS wT wE wA wV wG;show ac (mS (bQ H) g3) #[E2 q3,ac (mS (bQ H) g1) (ac (mS (bQ H) g2) (ac (mS (bQ H) g3) ?_))];have R:Me.get.fn (.ref q) [.tup [.int p1,.int p2],.ref ↥C] (C++[O.lst [.int p3]])=gV ((bC U (aT p1 p2)).getD (.ref ↥C),C++[O.lst [.int p3]]):=by
    have hk:gH (.tup [.int p1,.int p2])=gV (aT p1 p2):=iV;simp only[Me.fn,sY,bQ (au q3),hk]
   show ac R ?_;have hres:∃(l:Kb) (ws:J2 Ki),(bC U (aT p1 p2)).getD (.ref ↥C)=.ref l/\(C++[O.lst [.int p3]])[l]?=gV (.lst (ah ws))/\(!(ws.any λw=>kq (.int w) (.int p3)))=B [i1,A,r]:=by
    rcases(hm.ka J).look p1 p2 with⟨hg,hl⟩|⟨l,ws,hg,_,hl,he⟩
    ·show#[↥C,[p3],by rw[hg];rfl,aj,?_]
     rw[j,hl];simp[kq,EY]
    ·show#[l,ws,by rw[hg];rfl,au hl,?_]
     rw[j,he];rfl
   obtain⟨l,ws,hl1,hl2,hl3⟩:=hres;dsimp only;rw[hl1];show ac (ze (f:=p3) hl2) ?_;delta wB;rw[hl3];show aq (Q0:=Q2) (λhb Q3 _ hr3=>st (hr3 _ _ (hr _ _ ?_))) λhb Q3 hn3 _=>bu (hn3 _ _ (hK _ _ (bu (hn _ _ #[#[_,_,_,rfl],au H,au l3,J.trans .push,?_]))))
   ·have:=k _ (J.trans (Ka.push (o:=O.lst [.int p3])))
    rwa [MQ.mpr #[_,htm,hb]]at this
   ·rw[K7,ht,List.any_append,I,Oi];show(B [i1,A,r]||false)=false
    rw[hb];rfl
  ·rintro Z C ⟨⟨x7,x8,x9,rfl⟩,H,l3,J,I⟩;rw[J4,Li]at I;have:=k _ J;rw[I]at this;show hK _ _ (st this)
end
def De {a n:Kb}{m0 m1 m2 x y z:Ki}(b:0<=m0/\m0<a)(c:0<=m1/\m1<a)(d:0<=m2/\m2<a)(f:0<=x/\x<n)(g:0<=y/\y<n)(i:0<=z/\z<n):GoodW a n [(m0,[]),(m1,[x]),(m2,[y,z])]:=by
 show#[λk p h=>?_,λk p h=>?_,λk p h=>?_]<;>match k,h with
 |0,h=>cases h;first|show b|rfl|(intro w hw;cases hw)
 |1,h=>cases h;first|show c|rfl|(intro w hw;rw[KA.mp hw];show f)
 |2,h=>cases h;first|show d|rfl|(intro w hw;rcases KH.mp hw with e|hw<;>first|show e▸g|(rw[KA.mp hw];show i))
 |n+3,h=>simp at h
def E3 {M:KG->FF}{Z:Fm}{S:aa}{i n:Kb}{Q:QW}(b:∀Q:W->Prop,Q (.int n)->wV Z i Q)(d:n<=3)(k:∀j:Ki,0<=j->j<=27->j=(n:Ki)*n*n->Q (.int j,S)):wE M (.op .mul (.op .mul (.v i) (.v i)) (.v i)) Z S Q:=by
 have c : -(2^64)<(n:Ki):=∅
 have b2:(n:Ki)<2^64:=∅
 have hc:(n:Ki)*n*n<=27/\0<=(n:Ki)*n*n:=by rcases(show n=0\/n=1\/n=2\/n=3 by omega)with h|h|h|h<;>rw[h]<;>decide
 delta wE;have a:∀m:Ki,gN .mul (.int m) (.int n) S=gV (.int (m*n),S):=λm=>uf c b2
 generalize gN .mul=B at a ⊢;show b _ ?_;show b _ ?_;show ac (a _) ?_;show b _ ?_;show ac (a _) ?_;have:=k _ hc.2 hc.1 rfl;show this
def zh {M:KG->FF}{fuel:Kb}{Z:Fm}{S:aa}{K:Fm->aa->Prop}{Q:QO}{a i n:Kb}{b:Ss}(f:∀Q:W->Prop,Q (.int n)->wV Z i Q)(d:n<=3)(ok:gK b=true)
  (h:∀j:Ki,0<=j->j<=27->j=(n:Ki)*n*n->∃I:Kb->Fm->aa->Prop,I 0 Z S/\(∀(i:Kb) (Z:Fm) (S:aa),(i:Ki)<j->I i Z S->wa M fuel b (Z.set a (gV (.int i))) S (I (i+1)) Q)/\∀Z S,I j.toNat Z S->K Z S) :
  Wp (fR M fuel (.loop (.nm a) (.rng #v[.op .mul (.op .mul (.v i) (.v i)) (.v i)]) b) Z S) (qV K Q):=
 have hw:=E3 (M:=M) (S:=S) (Q:=λp=>∃(j:Ki) (I:Kb->Fm->aa->Prop),p.1=.int j/\(-(2^62)<=j/\j<2^62)/\I 0 Z p.2/\(∀(i:Kb) (Z:Fm) (S:aa),(i:Ki)<j->I i Z S->wa M fuel b (Z.set a (gV (.int i))) S (I (i+1)) Q)/\∀Z S,I j.toNat Z S->K Z S) f d λj g c e=>let ⟨I,h0,h1,h2⟩:=h j g c e;#[j,I,rfl,∅,h0,h1,h2]
 lh rfl ok hw
abbrev w3 (t:Ki×Ki×Ki)(x y z:Ki):Wd:=[(t.1,[]),(t.2.1,[x]),(t.2.2,[y,z])]
abbrev FL (a:Kb)(bs:J2 Ki)(L:J2 fD)(x y z:Ki)(g:Wd):Prop:=qB bs L x y z=true/\∃t,Ris a t/\g=cG bs (w3 t x y z)
abbrev zj (a:Kb)(bs:J2 Ki)(e:J2 Wd):Prop:=∃b L c d,(b,L,c)∈KT/\d∈fX b/\bs=cq b d ↥b/\(a:Ki)<=c/\∀g,g∈e↔∃x y z:Ki,(0<=x/\x<↥bs)/\(0<=y/\y<↥bs)/\(0<=z/\z<↥bs)/\FL a bs (L.map (ie d)) x y z g
abbrev Ce (a:Kb)(bs:J2 Ki)(b:J2 Wd):Prop:=B3 a bs b\/qt a bs b\/zj a bs b
def zm {n:Kb}{P:Ki->Ki->Ki->Prop}(a:n=2\/n=3){j:Ki}(f:j=(n:Ki)*n*n):(∃k:Kb,k<j.toNat/\P ((k:Ki) % n) ((k:Ki)/n % n) ((k:Ki)/n/n))↔∃x y z:Ki,(0<=x/\x<n)/\(0<=y/\y<n)/\(0<=z/\z<n)/\P x y z:=by
 constructor
 ·rintro⟨k,hk,h⟩;show#[_,_,_,?_,?_,?_,h]<;>rcases a with rfl|rfl<;>omega
 ·rintro⟨x,y,z,g,i,l,h⟩;show#[(x+n*y+n*n*z).toNat,?_,?_]
  ·rcases a with rfl|rfl<;>omega
  ·have e:(((x+n*y+n*n*z).toNat:Kb):Ki)=x+n*y+n*n*z:=by rcases a with rfl|rfl<;>omega
   rw[e];have b:(x+n*y+n*n*z) % n=x:=by rcases a with rfl|rfl<;>omega
   have c:(x+n*y+n*n*z)/n % n=y:=by rcases a with rfl|rfl<;>omega
   have d:(x+n*y+n*n*z)/n/n=z:=by rcases a with rfl|rfl<;>omega
   rw[b,c,d];show h
section
variable{defs:J2 (KG×Df)}{fuel d:Kb}{S:aa}{r:Kb}{Q:QW}
def zn (hfu:20<fuel)(G:Gen defs)(hf:Fl S r)(k:∀w S',RuleG Ce w->Fl S' r->Kp r S S'->Q (w,S')):wO (aL (ar defs fuel (d+7)) "_law_laying_rule" 1 [.ref r] S) Q:=by
 show az G.laying_rule rfl rfl λQ' hR=>?_
 replace k:∀w S',RuleG Ce w->Fl S' r->Kp r S S'->Q' (.rt w,S'):=λz S' a b c=>hR _ _ (k z S' a b c)
 clear hR;change wZ _ _ bL [gV (.ref r),td,td,td,td,td,td,td,td,td,td,td,td,td,td] S Q';unfold bL;nofun
 left;show bE (d:=d+5) G.pick hf #v[] #v[] λv S1 v0 v7 f1 k1=>hK _ _ ?_
 clear hK K;nofun
 delta wS wT wE wV wG la bM wB;show aq (Q0:=Q') (λ_ Q2 _ hr=>?_) (λ_ Q2 hn _=>bu (hn _ _ (hK _ _ ?_)))
 ·show st ?_;left;show qu (d:=d) hfu G f1 λw S2 a b c=>hr _ _ (k w S2 (a.imp λ_ _ _ h=>.inr (.inl h)) b (k1.trans c))
 clear hK K hn;nofun
 delta wS wT wE wV wG la bM wB;show aq (Q0:=Q') (λ_ Q2 _ hr=>?_) (λ_ Q2 hn _=>bu (hn _ _ (hK _ _ ?_)))
 ·show st ?_;left;show vH (d:=d) hfu G f1 λw S2 a b c=>hr _ _ (k w S2 (a.imp λ_ _ _ h=>.inl h) b (k1.trans c))
 clear hK K hn;have hr1:=f1.lt;nofun
 left;show lQ (d:=d+4) G f1 λw2 S2 hw2 f2 k2=>?_
 obtain⟨f,q0,U0,L0,l,rfl,hkt,hq0,hq0l,hm0⟩:=hw2;obtain⟨C,m1,m3,m6,_⟩:=y6 _ hkt;dsimp only at C m1 m3 m6;delta wU;show ac (show dc [2,3,4] [.tup (ah f),.ref q0,.int l] [gV (.ref r),gV (.int v),td,td,td,td,td,td,td,td,td,td,td,td,td]=gV [gV (.ref r),gV (.int v),gV (.tup (ah f)),gV (.ref q0),gV (.int l),td,td,td,td,td,td,td,td,td,td]from rfl) (hK _ _ ?_)
 clear hK K;nofun
 left;show bE (d:=d+5) G.pick f2 ∅ ∅ λv3 S3 v30 v3m f3 k3=>?_
 delta d7 bM;obtain⟨a,ea⟩:∃a:Kb,1+v3=a:=#[(1+v3).toNat,∅]
 rw[ea];show hK _ _ ?_;clear hK K;nofun
 left;show si (d:=d+4) G (S0:=S1) hkt f3 hr1 (k2.trans k3) (k3.get _ _ ∅ hq0) hq0l (hm0.kp hr1 k3) λT q U S4 hnmm hq hql hm f4 k4=>?_
 have hb:=(uy f C T hnmm).2.2.2;have hbl:=gC f T ↥f;have Y:∀gs,(∀g,g∈gs↔∃x y z:Ki,(0<=x/\x<(cq f T ↥f).length)/\(0<=y/\y<(cq f T ↥f).length)/\(0<=z/\z<(cq f T ↥f).length)/\FL a (cq f T ↥f) (L0.map (ie T)) x y z g)->zj a (cq f T ↥f) gs:=λgs h=>#[f,L0,l,T,hkt,hnmm,rfl,∅,h]
 generalize cq f T ↥f=bs at hb hbl Y ⊢;generalize L0.map (ie T)=L at hm Y;delta wU;show ac (show dc [2,3] [.tup (ah bs),.ref q] [gV (.ref r),gV (.int v),gV (.tup (ah f)),gV (.ref q0),gV (.int l),gV (.int a),td,td,td,td,td,td,td,td,td]=gV [gV (.ref r),gV (.int v),gV (.tup (ah bs)),gV (.ref q),gV (.int l),gV (.int a),td,td,td,td,td,td,td,td,td]from rfl) (hK _ _ ?_)
 clear hK K;rw[<- hbl]at m6;have hn:↥bs=2\/↥bs=3:=by rw[hbl];show(y9 f C).1
 have hsz:SizeOk a bs:=#[∅,hb,by
  have h1:(a:Ki)*↥bs<=l*↥bs:=Int.mul_le_mul_of_nonneg_right ∅ ∅
  exact_mod_cast Int.le_trans h1 m6,∅]
 clear m6 hm0 hq0 hq0l hbl C k2 k3 f2 f3;nofun
 left;show lg (d:=d+1) hfu G f4 ∅ ∅ λms ns N hml hnl hnm f5 k5=>hK _ _ ?_
 clear hK K;have kk:Kp r S N:=k1.trans (k4.trans k5);have hrt:=f5.lt;have hq5:N[q]?=gV (.dic U):=k5.get _ _ ∅ hq
 have hm5:MustL N ↥S1 U L:=hm.kp hr1 k5;have hqn:q<↥N:=bF hq5;clear k1 k4 k5 f4 hm hq hql f1;show st ?_;delta wS wE Kv;nofun
 left;show aF ?_;rw[show(ah bs).length=↥bs from J4 ..]
 show hK _ _ ?_;clear hK K;nofun
 show zh (n:=↥bs) (λQ q=>q) ∅ rfl λj j0 j27 hj=>?_
 show#[(λi Z S'=>(∃x9 x10 x11 x12 s m,Z=[gV (.ref r),gV (.int v),gV (.tup (ah bs)),gV (.ref q),gV (.int l),gV (.int a),gV (di ms ns bs []),gV (.ref ↥N),gV (.int ↥bs),x9,x10,x11,x12,s,m])/\(∃U V,S'[↥N]?=gV (.dic U)/\FigD (aS a bs) U V/\∀g,g∈V↔∃k:Kb,k<i/\FL a bs L ((k:Ki) % ↥bs) ((k:Ki) / ↥bs % ↥bs) ((k:Ki) / ↥bs / ↥bs) g)/\S'[q]?=gV (.dic U)/\MustL S' ↥S1 U L/\Fl S' r/\Kp r S S'),#[#[_,_,_,_,_,_,rfl],#[[],[],aj,.nil,λg=>#[λh=>(nomatch h),λ#[k,h,_]=>(nomatch h)]],au hq5,hm5.ka .push,f5.ka .push,kk.trans .push],?_,?_]
 ·rintro i Z S6 hi ⟨⟨x9,x10,x11,x12,s,m,rfl⟩,⟨kvd,V,e6,hd,D⟩,hq6,hm6,f6,k6⟩ Q2 hn2 _;clear hK k Y;have B:(0:Ki)<↥bs:=∅
  have hnb:(↥bs:Ki)<1073741824:=∅
  have y1:0<=(i:Ki) % ↥bs/\(i:Ki) % ↥bs<↥bs:=#[Np _ ∅,MU _ B]
  have y2:0<=(i:Ki) / ↥bs % ↥bs/\(i:Ki) / ↥bs % ↥bs<↥bs:=#[Np _ ∅,MU _ B]
  have y3:0<=(i:Ki) / ↥bs / ↥bs/\(i:Ki) / ↥bs / ↥bs<↥bs:=by
   rcases hn with h|h<;>rw[h]at hj ⊢<;>omega
  nofun
  left;show ac (mM B) (ac (n6 B hnb) (ac (mM B) ?_));delta w2;show hK _ _ ?_;clear hK K;nofun
  left;show ac (n6 B hnb) (ac (n6 B hnb) (hK _ _ ?_));clear hK K;dsimp only;have H:∀A:J2 Wd,(∀g,g∈A↔g∈V\/FL a bs L ((i:Ki) % ↥bs) ((i:Ki) / ↥bs % ↥bs) ((i:Ki) / ↥bs / ↥bs) g)->∀g,g∈A↔∃k:Kb,k<i+1/\FL a bs L ((k:Ki) % ↥bs) ((k:Ki) / ↥bs % ↥bs) ((k:Ki) / ↥bs / ↥bs) g:=λA h g=>by
   rw[h,D];constructor
   ·rintro(⟨k,hk,h⟩|h)
    ·show#[k,∅,h]
    ·show#[i,∅,h]
   ·rintro⟨k,hk,h2⟩
    by_cases e:k=i
    ·rw[e]at h2;show .inr h2
    ·show .inl #[k,∅,h2]
  generalize(i:Ki) % ↥bs=z1 at y1 H ⊢;generalize(i:Ki) / ↥bs % ↥bs=z2 at y2 H ⊢;generalize(i:Ki) / ↥bs / ↥bs=z3 at y3 H ⊢;clear D;nofun
  delta wS wT wA wE wV wG;show zf (d:=d+4) G hb y1 y2 y3 hq6 hm6 λS7 O=>?_
  delta dJ bM;show aq (Q0:=Q2) (λhbr Q3 hn3 _=>?_) (λhbr Q3 hn3 _=>bu (hn3 _ _ (hK _ _ (bu (hn2 _ _ #[#[_,_,_,_,_,_,rfl],#[kvd,V,O.get _ _ e6,hd,H V λg=>#[.inl,λh=>h.elim id λh=>by rw[h.1]at hbr;cases hbr]],O.get _ _ hq6,hm6.ka O,f6.ka O,k6.trans (O.kp r)])))))
  show aR λK3 hK3=>?_
  show iT rfl rfl ?_;delta wE wA wV wG;have h56:↥N<↥S6:=bF e6;have h67:=O.len;show yW (d:=d+5) G (a:=a) ∅ λt ts S8 e8 ht ht7 k8=>?_
  show#[t,ts.map oy,(λj Z S'=>(∃x9 s m,Z=[gV (.ref r),gV (.int v),gV (.tup (ah bs)),gV (.ref q),gV (.int l),gV (.int a),gV (di ms ns bs []),gV (.ref ↥N),gV (.int ↥bs),x9,gV (.int z1),gV (.int z2),gV (.int z3),s,m])/\(∃U A,S'[↥N]?=gV (.dic U)/\FigD (aS a bs) U A/\∀g,g∈A↔g∈V\/∃t∈ts.take j,g=cG bs (w3 t z1 z2 z3))/\S'[q]?=gV (.dic U)/\MustL S' ↥S1 U L/\S'[t]?=gV (.lst (ts.map oy))/\Fl S' r/\Kp r S S'),rfl,#[#[_,_,_,rfl],#[kvd,V,k8.get _ _ (O.get _ _ e6),hd,λg=>#[.inl,λh=>h.elim id λ#[t,h,_]=>by simp at h]],k8.get _ _ (O.get _ _ hq6),(hm6.ka O).ka k8,e8,(f6.ka O).ka k8,k6.trans ((O.trans k8).kp r)],λi Z S' h=>h.2.2.2.2.1,?_,?_]
  ·rintro j w Z S9 hw ⟨⟨x9,s,m,rfl⟩,⟨kvd,A,e9,hd,D⟩,hq9,hm9,ht9,f9,k9⟩;clear hK3 hn3 hK hn2 H;rw[Kg,J6]at hw;obtain⟨⟨I,J,M⟩,htr,rfl⟩:=hw;obtain⟨t1,t2,t3⟩:=((ht _).mp (Kt htr)).ok;show ac (show gh (.nm 13) (oy (I,J,M)) [gV (.ref r),gV (.int v),gV (.tup (ah bs)),gV (.ref q),gV (.int l),gV (.int a),gV (di ms ns bs []),gV (.ref ↥N),gV (.int ↥bs),x9,gV (.int z1),gV (.int z2),gV (.int z3),s,m] S9=gV ([gV (.ref r),gV (.int v),gV (.tup (ah bs)),gV (.ref q),gV (.int l),gV (.int a),gV (di ms ns bs []),gV (.ref ↥N),gV (.int ↥bs),x9,gV (.int z1),gV (.int z2),gV (.int z3),gV (oy (I,J,M)),m],S9)from rfl) λQ4 hn4 _=>?_
   have hu:GoodW a ↥bs [(I,[]),(J,[z1]),(M,[z2,z3])]:=De t1 t2 t3 y1 y2 y3;nofun
   left;show ak #v[] rfl (ak #v[] rfl (hK _ _ ?_))
   clear hK K;show st ?_;left;show ak #v[] rfl (ac (ib (iQ rfl)) ?_)
   show qo (d:=d+3) (m0:=.tup (ms.map W.str)) (b0:=.tup []) (u:=[(I,[]),(J,[z1]),(M,[z2,z3])]) G hb hnl hu rfl λS10 E=>?_
   have e10:=E.get _ _ e9;show yU e10 hd hsz hu rfl λo X #[R,ho1,ho2] ho3=>bu (hn4 _ _ #[#[_,_,_,rfl],#[R,X,ho1,ho2,λg=>?_],by rw[bc ∅];show E.get _ _ hq9,(hm9.ka E).set e10,by rw[bc ∅];show E.get _ _ ht9,(f9.ka E).own hrt,(k9.trans (E.kp r)).late kk.len])
   rw[ho3,D,K7,htr];constructor
   ·rintro((h|⟨t,h,e⟩)|rfl)
    ·show .inl h
    ·show .inr #[t,Lo _ h,e]
    ·show .inr #[(I,J,M),KW _ (by simp),rfl]
   ·rintro(h|⟨t,h,rfl⟩)
    ·show .inl (.inl h)
    ·rcases La.mp h with h|h
     ·show .inl (.inr #[t,h,rfl])
     ·have:t=(I,J,M):=by simpa using h
      subst this;show .inr rfl
  ·rintro Z S9 ⟨⟨x9,s,m,rfl⟩,⟨R,X,h1,h2,h3⟩,hq9,hm9,ht9,f9,k9⟩;rw[J4,Li]at h3;show hK3 _ _ (bu (hn3 _ _ (hK _ _ (bu (hn2 _ _ #[#[_,_,_,_,_,_,rfl],#[R,X,h1,h2,H X λg=>?_],hq9,hm9,f9,k9])))))
   rw[h3];show or_congr T3 #[λ#[t,h,e]=>#[hbr,t,(ht t).mp h,e],λ#[_,t,h,e]=>#[t,(ht t).mpr h,e]]
 ·rintro Z S6 ⟨⟨x9,x10,x11,x12,s,m,rfl⟩,⟨kvd,V,e6,hd,D⟩,hq6,hm6,f6,k6⟩;show hK _ _ (st ?_);left;show Db (P:=Ce) (Q:=λp=>Q' (.rt p.1,p.2)) e6 hd hsz hml hnl hnm (.inr (.inr (Y V λg=>(D g).trans (zm (P:=λx y z=>FL a bs L x y z g) hn hj)))) λw S8 hw k8=>k w S8 hw (f6.ka k8) (k6.trans (k8.kp r))
end
def mT:∀n:Kb,g9 (KU n (.bl true))=gV (KU n true)
 |0=>rfl
 |n+1=>by rw[Mk,g9,mT n];rfl
def Cg (n:Kb):(KU n true).all id=true:=by
 rw[KD];intro x a;rw[(List.mem_replicate.mp a).2];rfl
abbrev uz:Ss:=
 #v[.ite (.cmp .gt (.v 2) (.v 3)) #v[.ret (.ix (.ix (.ix (.v 1) (.v 2)) (.c (.int 1))) (.v 3))] .nil,.ret (.ix (.ix (.ix (.v 0) (.c (.int 1))) (.ix (.ix (.ix (.v 1) (.v 3)) (.c (.int 1))) (.v 2))) (.c (.int 1)))]
abbrev fY:Ss:=
 #v[.ret (.bi .tuple #v[.comp (.own "point_over" 4 #v[.v 4,.v 5,.sl (.v 3) .no (.yes (.v 1)),.v 2]) (.tp [1,2]) (.enu #v[.v 2]) .nil [td,td,td,gV 2,gV 0,gV 1]])]
abbrev bS:Ss:=
 #v[.ret (.tup #v[.ix (.ix (.v 1) (.v 3)) (.c (.int 0)),.bi .tuple #v[.comp (.own "way" 4 #v[.v 3,.v 4,.v 2,.v 1]) (.nm 1) (.seq (.v 2)) .nil [td,td,gV 3,gV 0,gV 1]]])]
section
variable{defs:J2 (KG×Df)}{fuel d:Kb}{S:aa}{r:Kb}{Q:QW}
def zo {M:KG->FF}{m0 b0:W}{ns:J2 KG}{bs:J2 Ki}{a:Kb}{u:Wd}{i j:Kb}{Q:QO}(r:GoodB bs)(hl:↥ns=↥bs)(m:GoodW a ↥bs u)(hi:i<↥u)(o:j<↥u)(w:i≠j)(k:Q (.rt (.int (aY bs u i j)),S)) :
  wZ M fuel uz [gV (.tup [m0,.tup (Ku aG ns bs),b0]),gV (aw u),gV (.int i),gV (.int j)] S Q:=by
 have l:=ap (d:=(0,[])) hi;have f:=ap (d:=(0,[])) o;unfold aY at k;delta uz;nofun
 delta wS wT wE wV wG Hh wO wB aw;show aq (Q0:=Q) (λh p _ x=>?_) (λh p g _=>?_)
 ·have c:j<i:=by have:=Lr h;omega
  rw[KC c]at k;have hw:j<(u.getD i (0,[])).2.length:=by rw[m.len i _ l];show c
  show st ?_;delta wS wE wV wG;show ak (Kq i) (cx hi) (ak #v[] rfl (ak (Kq j) ?_ (x _ _ k)))
  rw[Kz,Kg,ap (d:=0) hw];rfl
 ·have c:¬ j<i:=by have:=NY h;omega
  rw[KS c]at k;show bu (g _ _ (hK _ _ ?_));clear g hK;have hw:i<(u.getD j (0,[])).2.length:=by rw[m.len j _ f];omega
  have n:=ap (d:=0) hw;obtain⟨q,y⟩:=m.way j _ f _ (Kt n);obtain⟨b,e,s,t⟩:=r.rng ((u.getD j (0,[])).2.getD i 0).toNat ∅
  have g:((u.getD j (0,[])).2.getD i 0).toNat<↥ns:=∅
  rw[getD_some e]at k;show st ?_;delta wS wE wV wG;show ak #v[] rfl (ak (Kq j) (cx o) (ak #v[] rfl (ak (Kq i) ?_ (ak q (ou (Ke g) e) (ak #v[] rfl k)))))
  rw[Kz,Kg,n];rfl
structure Parts (defs:J2 (KG×Df)):Prop where
 way:Is defs ("way": KG) 4 4 uz
 over:Is defs ("point_over": KG) 4 4 bS
def Dg (P:Parts defs){m0 b0:W}{ns:J2 KG}{bs:J2 Ki}{a:Kb}{u:Wd}{i j:Kb}(e:GoodB bs)(hl:↥ns=↥bs)(g:GoodW a ↥bs u)(hi:i<↥u)(f:j<↥u)(b:i≠j)(k:Q (.int (aY bs u i j),S)) :
  wO (aL (ar defs fuel (d+1)) "way" 4 [.tup [m0,.tup (Ku aG ns bs),b0],aw u,.int i,.int j] S) Q:=
 az P.way rfl rfl λh c=>zo e hl g hi f b (c _ _ k)
def E4 (P:Parts defs){m0 b0:W}{ns:J2 KG}{bs:J2 Ki}{a:Kb}{u:Wd}{ps:J2 Kb}{i:Kb}(t:GoodB bs)(hl:↥ns=↥bs)(x:GoodW a ↥bs u)(g:∀p∈ps,p<↥u/\i≠p)(hi:i<↥u)(hsz:↥ps<=1000)(k:∀S',Ka S S'->Q (bN ((u.getD i (0,[])).1,ps.map λq=>aY bs u i q),S')) :
  wO (aL (ar defs fuel (d+2)) "point_over" 4 [.tup [m0,.tup (Ku aG ns bs),b0],aw u,.tup (ab ps),.int i] S) Q:=by
 show az P.over rfl rfl λn r=>?_
 replace k:∀S',Ka S S'->n (.rt (bN ((u.getD i (0,[])).1,ps.map λq=>aY bs u i q)),S'):=λS' a=>r _ _ (k S' a)
 clear r;change wZ _ _ bS [gV (.tup [m0,.tup (Ku aG ns bs),b0]),gV (aw u),gV (.tup (ab ps)),gV (.int i)] S n;generalize f:W.tup [m0,.tup (Ku aG ns bs),b0]=R;delta bS;show st ?_;left;show ak (Kq i) (cx hi) (ak #v[] rfl ?_)
 show ug (ab ps) (λj ys c b=>(∃e,c=[td,e,gV (.int i),gV R,gV (aw u)])/\ys=(ps.take j).map (λq=>W.int (aY bs u i q))/\Ka S b) rfl rfl rfl #[rfl,#[td,rfl],rfl,.refl] ?_ ?_
 ·rintro j w ys c b hw ⟨⟨e,rfl⟩,rfl,m⟩;unfold ab at hw;rw[Kg,J6]at hw;obtain⟨q,s,rfl⟩:=hw;obtain⟨l,h⟩:=g q (Kt s);show ac (show gh (.nm 1) (.int (q:Ki)) [td,e,gV (.int i),gV R,gV (aw u)] b=gV ([td,gV (.int (q:Ki)),gV (.int i),gV R,gV (aw u)],b)from rfl) ?_
  delta eG wC wE wA wV wG;subst f;show#[λ_=>Dg (d:=d) P t hl x hi l h #[#[_,rfl],?_,m],λz=>by cases z]
  rw[K7,s];simp
 ·rintro ys c b ⟨_,rfl,m⟩;rw[show(ab ps).length=↥ps from J4 ..,Li]
  show#[lb (by rw[J4];show hsz),bZ aj ?_]
  have:=k _ (m.trans (Ka.push (o:=O.lst (ps.map λq=>W.int (aY bs u i q)))))
  unfold bN at this;rw[K6]at this;show this
def HA (P:Parts defs)(f:Is defs ("part": KG) 3 3 fY){m0 b0:W}{ns:J2 KG}{bs:J2 Ki}{a:Kb}{u:Wd}{ps:J2 Kb}(v:GoodB bs)(hl:↥ns=↥bs)(A:GoodW a ↥bs u)(c:∀p∈ps,p<↥u)(o:ps.Nodup)(hsz:↥ps<=1000)(k:∀S',Ka S S'->Q (aw (ae bs u ps),S')) :
  wO (aL (ar defs fuel (d+3)) "part" 3 [.tup [m0,.tup (Ku aG ns bs),b0],aw u,.tup (ab ps)] S) Q:=by
 show az f rfl rfl λs t=>?_
 replace k:∀S',Ka S S'->s (.rt (aw (ae bs u ps)),S'):=λS' a=>t _ _ (k S' a)
 clear t;change wZ _ _ fY [gV (.tup [m0,.tup (Ku aG ns bs),b0]),gV (aw u),gV (.tup (ab ps))] S s;generalize n:W.tup [m0,.tup (Ku aG ns bs),b0]=R;delta fY;show st ?_;delta wS wE wA;show BV (ab ps) (λj ys h b=>(∃i l,h=[td,i,l,gV (.tup (ab ps)),gV R,gV (aw u)])/\ys=((ae bs u ps).take j).map bN/\Ka S b) rfl rfl rfl #[rfl,#[td,td,rfl],rfl,.refl] ?_ ?_
 ·rintro j w ys h b hw ⟨⟨i,l,rfl⟩,rfl,r⟩;unfold ab at hw;rw[Kg,J6]at hw;obtain⟨q,g,rfl⟩:=hw;have x:j<↥ps:=(Ko.mp g).1;have eq:q=ps[j]:=(Ko.mp g).2.symm;show ac (show gh (.tp [1,2]) (.tup [.int (j:Ki),.int (q:Ki)]) [td,i,l,gV (.tup (ab ps)),gV R,gV (aw u)] b=gV ([td,gV (.int (j:Ki)),gV (.int (q:Ki)),gV (.tup (ab ps)),gV R,gV (aw u)],b)from rfl) ?_
  delta eG wC wE wA wP wV wG wN;show#[λ_=>ac (a:=(.tup (ab (ps.take j)),b)) ?_ ?_,λz=>by cases z]
  ·revert rC dS;unfold ab;rw[MD]
  ·subst n;show E4 (d:=d) P v hl A (λp f=>#[c p (LW f),?_]) (c q (Kt g)) (by rw[KY];omega) λD B=>#[#[_,_,rfl],?_,r.trans B]
   ·obtain⟨m,y,e⟩:=LS.mp f;rw[KY]at y;rw[Mm]at e;rw[eq,<- e];intro z;have:=(L1 o).mp z;omega
   ·have ep:(ae bs u ps)[j]?=gV ((u.getD q (0,[])).1,(ps.take j).map λC=>aY bs u q C):=by
     unfold ae;rw[Kg,LO x,KM,getD_some g]
    rw[K7,ep];simp
 ·rintro ys h b ⟨_,rfl,r⟩;rw[show(ab ps).length=↥ps from J4 ..,<- aA bs u ps,Li]
  show#[lb (by rw[J4,aA];show hsz),bZ aj (k _ (r.trans .push))]
end
section
variable{S:aa}{Q:QW}
def mU (n:Kb):AT 0 ((n:Ki)-0).toNat=ab (Kj n):=by
 unfold AT ab;rw[show((n:Ki)-0).toNat=n by omega]
 show Le λk _=>by rw[N9]
def Ch {i n:Kb}(h:S[i]?=gV (.rng 0 n))(c:n<=1000)(q:Q (.ref ↥S,S++[.lst (ab (Kj n))])):wO (Bi.list.fn [.ref i] S) Q:=by
 show ac ?_ q;have a:pc S i=gV (0,(n:Ki)):=by simp[pc,h]
 have b:fI [.ref i] S=gV (.ref ↥S,S++[.lst (ab (Kj n))]):=by
  revert fI a;rw[KC #[∅,∅,∅,∅,by rw[Lu];omega],mU]
 revert Bi.fn qa b
def HB {t:Kb}{xs:J2 W}{v:Ki}{w:W}(h:S[t]?=gV (.lst xs))(a:0<=v)(hw:xs[v.toNat]?=gV w)(hl:↥xs<=1000)(q:Q (w,S.set t (.lst (xs.eraseIdx v.toNat)))):wO (Me.pop.fn (.ref t) [.int v] S) Q:=by
 show ac ?_ q;have c:=(Ko.mp hw).1;have b:seqIndex? v ↥xs=gV v.toNat:=by
  unfold seqIndex?;rw[KS (show ¬ v<0 by omega)]
  show KC (by rw[Kc];show#[Ld a,Ld ∅])
 simp only[Me.fn,AS,cV h];rw[KC #[∅,∅]]
 revert b hw
end
abbrev aV (bs:J2 Ki)(v:Wd)(ps:J2 Kb)(i:Kb):Pt:=((v.getD i (0,[])).1,ps.map λq=>aY bs v i q)
abbrev bU (n:Kb)(os:J2 (J2 Kb)):J2 (J2 Kb):=os.flatMap λo=>((Kj n).filter λp=>decide (p∉o)).map λp=>o++[p]
def aZ (bs:J2 Ki)(v:Wd)(o:J2 Kb)(p:Kb):ae bs v (o++[p])=ae bs v o++[aV bs v o p]:=by
 unfold ae aV;rw[Kh,Lj,Nq,KN];congr 1
 ·show Le λk hk=>?_
  have hk:=Ky.mp hk;rw[show(o++[p]).getD k 0=o.getD k 0 by simp[Lf hk],List.take_append_of_le_length ∅]
 ·simp
def sj {xs:J2 Ki}{k:Kb}(h:↥xs=k):(Kj k).map (λq=>xs.getD q 0)=xs:=by
 apply Mu
 ·simp[h]
 ·intro i b a;simp[a]
def mV {bs:J2 Ki}{a n:Kb}{u:Wd}{k:Kb}(c:GoodW a n u)(hk:k<↥u):aV bs u (Kj k) k=u.getD k (0,[]):=by
 unfold aV;have hl:=c.len k _ (ap (d:=(0,[])) hk);have e:((Kj k).map λq=>aY bs u k q)=(u.getD k (0,[])).2:=by
  show Eq.trans (Le λq b=>?_) (sj hl)
  have b:=Ky.mp b;unfold aY;rw[KC b]
 rw[e]
def qD {n:Kb}:∀os:J2 (J2 Kb),(bU n os).length<=↥os*n
 |[]=>by simp[bU]
 |o::os=>by
  have ih:=qD (n:=n) os;unfold bU at ih ⊢;rw[Rc,Kh,J4,K5,SG];have:=Od (λp=>decide (p∉o)) (Kj n)
  rw[KL]at this;omega
def vL {n:Kb}{os:J2 (J2 Kb)}{i:Kb}:(bU n (os.take i)).length<=↥os*n:=by
 show Lq (qD _) (Nat.mul_le_mul_right _ ?_);rw[KY];omega
def jt {S:aa}{d:Kb}:∀xs ys:J2 Ki,eM (fE S d) (xs.map W.int) (ys.map W.int)=gV (decide (xs=ys))
 |[],[]=>rfl
 |[],_::_=>rfl
 |_::_,[]=>rfl
 |x::xs,y::ys=>by
  have e:fE S d (.int x) (.int y)=gV (x==y):=by cases d<;>rfl
  simp only[Lb,eM,e,jt xs ys]
  by_cases h:x=y
  ·subst h;by_cases a:xs=ys<;>simp[a]
  ·have h':(x==y)=false:=by simpa using h
   simp[h,h']
def zp {S:aa}{d:Kb}(p q:Pt):fE S (d+2) (bN p) (bN q)=gV (decide (p=q)):=by
 obtain⟨m,ws⟩:=p;obtain⟨b,a⟩:=q;change eM (fE S (d+1)) [.int m,.tup (ws.map W.int)] [.int b,.tup (a.map W.int)]=_;have e:fE S (d+1) (.int m) (.int b)=gV (m==b):=rfl;have c:fE S (d+1) (.tup (ws.map W.int)) (.tup (a.map W.int))=gV (decide (ws=a)):=jt ws a;revert eM e c
 by_cases h:m=b
 ·subst h;by_cases f:ws=a<;>simp[f]
 ·have h':(m==b)=false:=by simpa using h
  simp[h,h']
def iW {S:aa}{d:Kb}:∀u v:Wd,eM (fE S (d+2)) (u.map bN) (v.map bN)=gV (decide (u=v))
 |[],[]=>rfl
 |[],_::_=>rfl
 |_::_,[]=>rfl
 |x::xs,y::ys=>by
  simp only[Lb,eM,zp,iW xs ys]
  by_cases h:x=y
  ·subst h;by_cases a:xs=ys<;>simp[a]
  ·simp[h]
def E5 {S:aa}{u v:Wd}:bh .eq (aw u) (aw v) S=gV (.bl (decide (u=v)),S):=by
 show(eM (fE S (17+2)) (u.map bN) (v.map bN)).map _=_;rw[iW];rfl
def vM (ps:J2 Kb):ab ps=(ps.map λ(p:Kb)=>(p:Ki)).map W.int:=by unfold ab;rw[K6];rfl
def iX {p:Kb}:∀ps:J2 Kb,((ab ps).any λz=>kq z (.int p))=decide (p∈ps)
 |[]=>rfl
 |q::ps=>by
  show((q:Ki)==(p:Ki)||(ab ps).any _)=_
  rw[iX ps]
  by_cases h:q=p
  ·subst h;simp
  ·have a:((q:Ki)==(p:Ki))=false:=by simp;omega
   have b:¬ p=q:=λe=>h e.symm
   rw[a];simp[b]
def ju (ps:J2 Kb):(ab ps).all aN=true:=by
 rw[KD];intro x a;obtain⟨p,_,rfl⟩:=Kn.mp a;rfl
def zq {S:aa}{p:Kb}{ps:J2 Kb}:bh .notin (.int p) (.tup (ab ps)) S=gV (.bl (decide (p∉ps)),S):=by
 change cD .notin (.int p) (.tup (ab ps)) S=_;have a:(aN (.int p)&&(ab ps).all aN)=true:=by rw[ju];rfl
 revert cD rB xn cp a MW KM iX;congr 3
 by_cases h:p∈ps<;>simp[h]
abbrev bn:Ss:=
 #v[.set 2 (.lst .nil),.loop (.nm 3) (.seq (.v 0)) #v[.ex (.me .extend (.v 2) #v[.comp (.op .add (.v 2) (.tup #v[.v 1])) (.nm 1) (.rng #v[.v 1]) #v[.cmp .notin (.v 1) (.v 2)] [td,td,gV 3]])],.ret (.v 2)]
abbrev bV (os:J2 (J2 Kb)):J2 W:=os.map λo=>.tup (ab o)
section
variable{defs:J2 (KG×Df)}{fuel d:Kb}{S:aa}{Q:QW}
def E6 {t l:Kb}{xs ys:J2 W}(h:S[t]?=gV (.lst xs))(a:S[l]?=gV (.lst ys))(hl:↥xs+↥ys<=1000000)(q:Q (.non,S.set t (.lst (xs++ys)))):wO (Me.extend.fn (.ref t) [.ref l] S) Q:=by
 show ac ?_ q;simp only[Me.fn,jU,cV h,cV a];rw[KC (by rw[Lu];omega)]
def zr {n:Kb}(h:n<=1000000):n<=sizeLine:=by rw[Lu];omega
def zt (H:Is defs ("longer_orders": KG) 2 4 bn){n l:Kb}{os:J2 (J2 Kb)}(e:S[l]?=gV (.lst (bV os)))(E:n<=100)(r:∀o∈os,↥o<=100)(M:↥os*n<=100000)
  (k:∀(q:Kb) (S':aa),S'[q]?=gV (.lst (bV (bU n os)))->↥S<=q->Ka S S'->Q (.ref q,S')) :
  wO (aL (ar defs fuel (d+1)) "longer_orders" 2 [.ref l,.int n] S) Q:=by
 show az H rfl rfl λy C=>?_
 replace k:∀(q:Kb) (S':aa),S'[q]?=gV (.lst (bV (bU n os)))->↥S<=q->Ka S S'->y (.rt (.ref q),S'):=λa b c e f=>C _ _ (k a b c e f)
 clear C;change wZ _ _ bn [gV (.ref l),gV (.int n),td,td] S y;have I:=bF e;delta bn;show st ?_;delta wS wE wA Kv;nofun
 show om l (bV os) (λi Z S'=>(∃s,Z=[gV (.ref l),gV (.int n),gV (.ref ↥S),s])/\S'[l]?=gV (.lst (bV os))/\S'[↥S]?=gV (.lst (bV (bU n (os.take i))))/\Ka S S') rfl rfl #[rfl,#[td,rfl],au e,aj,.push] (λi Z S' h=>h.2.1) ?_ ?_
 ·rintro i w Z S1 hw ⟨⟨s,rfl⟩,A,g,x⟩;clear hK k;unfold bV at hw;rw[Kg,J6]at hw;obtain⟨o,G,rfl⟩:=hw;have r:=r o (Kt G);show ac (show gh (.nm 3) (.tup (ab o)) [gV (.ref l),gV (.int n),gV (.ref ↥S),s] S1=gV ([gV (.ref l),gV (.int n),gV (.ref ↥S),gV (.tup (ab o))],S1)from rfl) ?_
  intro N E _;show st ?_;left;show#[cM g,?_];show gy (n:Ki) (λj ys v t=>(∃z,v=[td,z,gV (.tup (ab o))])/\ys=bV (((Kj j).filter λp=>decide (p∉o)).map λp=>o++[p])/\t=S1) rfl rfl rfl ∅ #[rfl,#[td,rfl],rfl,rfl] ?_ ?_
  ·rintro j ys v t P ⟨⟨z,rfl⟩,rfl,rfl⟩;delta eG wC wE wA wV wG Kv;show ac zq ?_;delta wB;have B:(Kj (j+1)).filter (λp=>decide (p∉o))=(Kj j).filter (λp=>decide (p∉o))++(if j∉o then[j]else[]):=by
    rw[Nq,OI];congr 1
    by_cases h:j∈o<;>simp[h]
   show#[λh=>?_,λh=>#[#[_,rfl],?_,rfl]]
   ·have h:j∉o:=Lr h;show ac (ib (zr (by rw[Kh,show(ab o).length=↥o from J4 ..];show _+1<=_;omega))) #[#[_,rfl],?_,rfl]
    rw[B,KC h,KN];unfold bV;rw[KN];simp[ab]
   ·have h:¬ j∉o:=NY h;rw[B,KS h,Ln]
  ·rintro ys v t ⟨_,rfl,rfl⟩;rw[Kz];have D:(bV (((Kj n).filter λp=>decide (p∉o)).map λp=>o++[p])).length<=n:=by
    unfold bV;rw[J4,J4];show Lq (Od _ _) (by rw[KL];show Kl _)
   have m:=au (u:=O.lst (bV (((Kj n).filter λp=>decide (p∉o)).map λp=>o++[p]))) g
   have J:=vL (n:=n) (os:=os) (i:=i);have L:(bV (bU n (os.take i))).length=(bU n (os.take i)).length:=J4 ..;show#[zr ∅,E6 m aj ∅ (bu (E _ _ #[#[_,rfl],?_,?_,(x.trans .push).late (Kl _)]))]
   ·rw[bc ∅];show au A
   ·rw[bm m];unfold bU bV;rw[K7,G];simp
 ·rintro Z S1 ⟨⟨s,rfl⟩,A,g,x⟩;rw[show(bV os).length=↥os from J4 ..,Li]at g
  show hK _ _ (st (k _ _ g (Kl _) x))
end
def mW {M:KG->FF}{Z:Fm}{S:aa}{e:E}{n:Kb}{m:Ki}{Q:QW}(f:m=n)(d:∀Q:QW,Q (.int m,S)->wE M e Z S Q)(h:n<=1000)(k:∀S',Ka S S'->Q (.tup (ab (Kj n)),S')):wE M (.bi .tuple #v[.bi .range #v[e]]) Z S Q:=by
 have a:Bi.range.fn [.int m] S=gV (.ref ↥S,S++[.rng 0 m]):=by
  revert Bi.fn kC;rw[KC #[∅,∅]]
 have b:Bi.tuple.fn [.ref ↥S] (S++[.rng 0 m])=gV (.tup (ab (Kj n)),S++[.rng 0 m]):=by
  have c:pc (S++[.rng 0 m]) ↥S=gV (0,m):=by simp[pc]
  revert Bi.fn jf c;rw[KC #[∅,∅,∅,∅,by rw[Lu];omega],f,mU]
 have g:wO (Bi.range.fn [.int m] S) λp=>wO (Bi.tuple.fn [p.1] p.2) Q:=by
  rw[a];change wO (Bi.tuple.fn [.ref ↥S] (S++[.rng 0 m])) Q;rw[b];show k _ .push
 delta wE wA;show d _ g
def qE:∀xs:J2 Ki,d0 (xs.map T.int)=true
 |[]=>rfl
 |_::xs=>qE xs
def jY:∀u:Wd,d0 (u.map gT)=true
 |[]=>rfl
 |p::u=>by
  revert Lb d0 Kc;show#[?_,jY u];simp[gT,kE,d0,qE]
def oB (u:Wd):kE (ce u)=true:=jY u
abbrev cQ:Ss:=
 #v[.set 4 (.tup #v[.ix (.ix (.v 0) (.v 1)) (.c (.int 0)),.tup .nil]),.set 5 (.tup #v[.ix (.ix (.v 0) (.v 2)) (.c (.int 0)),.tup #v[.ix (.ix (.ix (.v 0) (.v 2)) (.c (.int 1))) (.v 1)]]),.ret (.tup #v[.v 4,.v 5,.tup #v[.ix (.ix (.v 0) (.v 3)) (.c (.int 0)),.tup #v[.ix (.ix (.ix (.v 0) (.v 3)) (.c (.int 1))) (.v 1),.ix (.ix (.ix (.v 0) (.v 3)) (.c (.int 1))) (.v 2)]]])]
abbrev eI (u:Wd)(i j k:Kb):Wd:=[((u.getD i (0,[])).1,[]),((u.getD j (0,[])).1,[(u.getD j (0,[])).2.getD i 0]),((u.getD k (0,[])).1,[(u.getD k (0,[])).2.getD i 0,(u.getD k (0,[])).2.getD j 0])]
section
variable{defs:J2 (KG×Df)}{fuel d:Kb}{S:aa}{Q:QW}
def Ci (s:Is defs ("three_at": KG) 4 6 cQ){a n:Kb}{u:Wd}{i j k:Kb}(g:GoodW a n u)(o:i<j)(r:j<k)(b:k<↥u)(q:Q (aw (eI u i j k),S)) :
  wO (aL (ar defs fuel (d+1)) "three_at" 4 [aw u,.int i,.int j,.int k] S) Q:=by
 show az s rfl rfl λl f=>?_
 replace q:=f _ _ q;clear f;change wZ _ _ cQ [gV (aw u),gV (.int i),gV (.int j),gV (.int k),td,td] S l;have hi:i<↥u:=∅
 have c:j<↥u:=∅
 have t:i<(u.getD j (0,[])).2.length:=by rw[g.len j _ (ap (d:=(0,[])) c)];show o
 have x:j<(u.getD k (0,[])).2.length:=by rw[g.len k _ (ap (d:=(0,[])) b)];show r
 have e:i<(u.getD k (0,[])).2.length:=∅
 have w:∀{p m:Kb},m<(u.getD p (0,[])).2.length->((u.getD p (0,[])).2.map W.int)[((m:Kb):Ki).toNat]?=gV (.int ((u.getD p (0,[])).2.getD m 0)):=λ{p m} h=>by
  rw[Kz,Kg,ap (d:=0) h];rfl
 delta cQ;show st ?_;left;show ak (Kq i) (cx hi) (ak #v[] rfl ?_)
 show st ?_;left;show ak (Kq j) (cx c) (ak #v[] rfl (ak (Kq j) (cx c) (ak #v[] rfl (ak (Kq i) (w t) ?_))))
 show st ?_;left;show ak (Kq k) (cx b) (ak #v[] rfl (ak (Kq k) (cx b) (ak #v[] rfl (ak (Kq i) (w e) (ak (Kq k) (cx b) (ak #v[] rfl (ak (Kq j) (w x) q)))))))
end
abbrev jv (U:J2 (T×W))(u:Wd)(i j k:Kb):KR:=(bC U (ce (eI u i j k))).isSome
structure HasD (U:J2 (T×W))(L:J2 Wd):Prop where
 iff:∀t,t∈U.map (·.1)↔t∈L.map ce
 len:↥U<=↥L
def zu {U:J2 (T×W)}{t:T}:(bC U t).isSome=true↔t∈U.map (·.1):=by
 constructor
 ·intro h;obtain⟨v,a⟩:=Lz.mp h;show Kn.mpr #[_,yX a,rfl]
 ·intro h;obtain⟨p,b,rfl⟩:=Kn.mp h;obtain⟨v,a⟩:=B7 b;rw[a];rfl
def HasD.get {U:J2 (T×W)}{L:J2 Wd}(h:HasD U L)(t:T):(bC U t).isSome=decide (t∈L.map ce):=by
 rw[PL,zu,h.iff,KP]
def HasD.nil:HasD [] []:=#[λt=>by simp,Kl _]
def HasD.put {U:J2 (T×W)}{L:J2 Wd}{f:Wd}{v:W}(h:HasD U L):HasD (dM U (ce f) v) (L++[f]):=by
 show#[λt=>?_,?_]
 ·rw[gB,KN,La,<- h.iff t]
  by_cases hk:ce f∈U.map (·.1)
  ·rw[KC hk];constructor
   ·show .inl
   ·rintro(z|z)
    ·show z
    ·rw[KA.mp z];show hk
  ·rw[KS hk,La];rfl
 ·have:=d3 U (ce f) v;have:=h.len;rw[Kh,Lj];omega
abbrev eR:Ss:=
 #v[.set 1 .dnew,.loop (.nm 2) (.seq (.ix (.v 0) (.c (.int 2)))) #v[.loop (.nm 3) (.seq (.own "_law_turns" 0 .nil)) #v[.put (.v 1) (.own "_law_part" 3 #v[.v 0,.v 2,.v 3]) (.c (.bl true))]],.ret (.v 1)]
abbrev aW (bs:J2 Ki)(a:J2 Wd):J2 Wd:=a.flatMap λg=>am.map (ae bs g)
def ln (bs:J2 Ki):∀a:J2 Wd,(aW bs a).length=6*↥a
 |[]=>rfl
 |g::a=>by
  have:=ln bs a;unfold aW at this ⊢;rw[Rc,Kh,this,K5,J4,show am.length=6 from rfl];omega
section
variable{defs:J2 (KG×Df)}{fuel d:Kb}{S:aa}{Q:QW}
def HC (G:Gen defs)(hg:Is defs ("_law_bad": KG) 1 4 eR){m0:W}{ns:J2 KG}{bs:J2 Ki}{a:Kb}{l:J2 Wd}(hb:GoodB bs)(H:↥ns=↥bs)(C:∀g∈l,GoodW a ↥bs g/\↥g=3)(h64:↥l<=100)
  (k:∀(q:Kb) (U:J2 (T×W)) (S':aa),S'[q]?=gV (.dic U)->HasD U (aW bs l)->↥S<=q->Ka S S'->Q (.ref q,S')) :
  wO (aL (ar defs fuel (d+3)) "_law_bad" 1 [.tup [m0,.tup (Ku aG ns bs),.tup (l.map aw)]] S) Q:=by
 show az hg rfl rfl λM P=>?_
 replace k:∀(q:Kb) (U:J2 (T×W)) (S':aa),S'[q]?=gV (.dic U)->HasD U (aW bs l)->↥S<=q->Ka S S'->M (.rt (.ref q),S'):=λa b c e f g h=>P _ _ (k a b c e f g h)
 clear P;change wZ _ _ eR [gV (.tup [m0,.tup (Ku aG ns bs),.tup (l.map aw)]),td,td,td] S M;generalize r:W.tup [m0,.tup (Ku aG ns bs),.tup (l.map aw)]=R;delta eR;show st ?_;delta wS wE Kv;nofun
 show for_tup (l.map aw) (λi Z S'=>(∃s m,Z=[gV R,gV (.ref ↥S),s,m])/\(∃U,S'[↥S]?=gV (.dic U)/\HasD U (aW bs (l.take i)))/\Ka S S') rfl rfl ?_ ?_ ?_
 ·delta wE wV wG;subst r;show ak #v[] rfl #[rfl,#[_,_,rfl],#[[],aj,.nil],.push]
 ·rintro i w Z S1 hw ⟨⟨s,m,rfl⟩,⟨U,u,x⟩,y⟩;clear hK k;rw[Kg,J6]at hw;obtain⟨g,n,rfl⟩:=hw;obtain⟨gg,g3⟩:=C g (Kt n);have hi:i<↥l:=(Ko.mp n).1;show ac (show gh (.nm 2) (aw g) [gV R,gV (.ref ↥S),s,m] S1=gV ([gV R,gV (.ref ↥S),gV (aw g),m],S1)from rfl) ?_
  intro Q2 V _;nofun
  show iT rfl rfl ?_;delta wE wA;show jX (d:=d+1) G ?_;show#[↥S1,am.map (λt=>W.tup (ab t)),(λj Z S'=>(∃m,Z=[gV R,gV (.ref ↥S),gV (aw g),m])/\(∃U,S'[↥S]?=gV (.dic U)/\HasD U (aW bs (l.take i)++(am.take j).map (ae bs g)))/\S'[↥S1]?=gV (.lst (am.map λt=>W.tup (ab t)))/\Ka S S'),rfl,#[#[_,rfl],#[U,au u,by rw[NC,Pi,Ln];show x],aj,y.trans .push],λj Z S' h=>h.2.2.1,?_,?_]
  ·rintro j w Z z hw ⟨⟨m,rfl⟩,⟨A,B,o⟩,O,J⟩;clear hK V;rw[Kg,J6]at hw;obtain⟨t,X,rfl⟩:=hw;have I:=Kt X;have tk:↥t<=3/\t.Nodup/\∀p∈t,p<3:=by
    have:∀t∈am,↥t<=3/\t.Nodup/\∀p∈t,p<3:=by decide
    show this t I
   show ac (show gh (.nm 3) (.tup (ab t)) [gV R,gV (.ref ↥S),gV (aw g),m] z=gV ([gV R,gV (.ref ↥S),gV (aw g),gV (.tup (ab t))],z)from rfl) ?_
   intro Q3 E _;show st ?_;left;subst r;show se (d:=d) G hb H gg (λp hp=>by have:=tk.2.2 p hp;omega) tk.2.1 ∅ λS3 L=>?_
   have N:=L.get _ _ B;have D:↥A<sizeLine:=by
    have Y:=o.len;have b2:=ln bs (l.take i);rw[Kh,b2,J4,KY,KY,show am.length=6 from rfl]at Y
    rw[Lu];omega
   show ac (yT N D) (bu (E _ _ #[#[_,rfl],#[_,bm N,?_],?_,(J.trans L).late (Kl _)]))
   ·rw[K7,X,KN,<- L4];show o.put
   ·rw[bc (by have:=y.len;have:=bF u;omega)];show L.get _ _ O
  ·rintro Z z ⟨⟨m,rfl⟩,⟨A,B,o⟩,O,J⟩;rw[J4,Li]at o;show hK _ _ (bu (V _ _ #[#[_,_,rfl],#[A,B,?_],J]));unfold aW at o ⊢;rw[K7,n,Ql]
   simpa using o
 ·rintro Z S1 ⟨⟨s,m,rfl⟩,⟨U,u,x⟩,y⟩;rw[J4,Li]at x;show hK _ _ (st (k _ U S1 u x (Kl _) y))
end
abbrev bH:Ss:=
 #v[.set 1 (.lst #v[.tup .nil]),.whl (.cmp .lt (.bi .len #v[.ix (.v 1) (.c (.int 0))]) (.c (.int 3))) #v[.set 1 (.own "longer_orders" 2 #v[.v 1,.c (.int 3)])],.set 2 .dnew,.loop (.nm 3) (.seq (.ix (.v 0) (.c (.int 2)))) #v[.loop (.nm 4) (.seq (.v 1)) #v[.put (.v 2) (.own "part" 3 #v[.v 0,.v 3,.v 4]) (.c (.bl true))]],.ret (.v 2)]
abbrev vN:Kb->J2 (J2 Kb)
 |0=>[[]]
 |i+1=>bU 3 (vN i)
def vO:vN 3=am:=by decide
def E7:∀i,i<=3->(∃o,(vN i)[0]?=gV o/\↥o=i)/\(vN i).length<=6/\∀o∈vN i,↥o<=3:=λi hi=>by
 rcases(show i=0\/i=1\/i=2\/i=3 by omega)with rfl|rfl|rfl|rfl
 ·show#[#[[],rfl,rfl],#v[],#v[]]
 ·show#[#[[0],rfl,rfl],#v[],#v[]]
 ·show#[#[[0,1],rfl,rfl],#v[],#v[]]
 ·show#[#[[0,1,2],rfl,rfl],#v[],#v[]]
section
variable{defs:J2 (KG×Df)}{fuel d:Kb}{S:aa}{Q:QW}
def zv (hfu:20<fuel)(P:Parts defs)(hp:Is defs ("part": KG) 3 3 fY)(hl:Is defs ("longer_orders": KG) 2 4 bn)(hg:Is defs ("barred_threes": KG) 1 5 bH){m0:W}{ns:J2 KG}{bs:J2 Ki}{a:Kb}{l:J2 Wd}(hb:GoodB bs)(hnl:↥ns=↥bs)(V:∀g∈l,GoodW a ↥bs g/\↥g=3)(h64:↥l<=100)
  (k:∀(q:Kb) (U:J2 (T×W)) (S':aa),S'[q]?=gV (.dic U)->HasD U (aW bs l)->↥S<=q->Ka S S'->Q (.ref q,S')) :
  wO (aL (ar defs fuel (d+4)) "barred_threes" 1 [.tup [m0,.tup (Ku aG ns bs),.tup (l.map aw)]] S) Q:=by
 show az hg rfl rfl λQ' hR=>?_
 replace k:∀(q:Kb) (U:J2 (T×W)) (S':aa),S'[q]?=gV (.dic U)->HasD U (aW bs l)->↥S<=q->Ka S S'->Q' (.rt (.ref q),S'):=λa b c e f g h=>hR _ _ (k a b c e f g h)
 clear hR;change wZ _ _ bH [gV (.tup [m0,.tup (Ku aG ns bs),.tup (l.map aw)]),td,td,td,td] S Q';generalize C:W.tup [m0,.tup (Ku aG ns bs),.tup (l.map aw)]=R;delta bH;show st ?_;delta wS wE wA Kv;nofun
 show C8 (λm Z S'=>∃(i q:Kb),i+m=3/\Z=[gV R,gV (.ref q),td,td,td]/\S'[q]?=gV (.lst (bV (vN i)))/\↥S<=q/\Ka S S') 3 rfl rfl ∅ #[0,↥S,rfl,rfl,aj,Kl _,.push] ?_
 rintro m Z S1 ⟨i,q,X,rfl,z,hq,E⟩;obtain⟨⟨o,L,D⟩,l6,l3⟩:=E7 i ∅
 delta wT wE wA wV wG;show jJ (w:=.tup (ab o)) z #v[] (by unfold bV;rw[Kg,show((0:Ki).toNat)=0 from rfl,L];rfl) (aF ?_)
 rw[show(ab o).length=↥o from J4 ..,D]
 delta EO bM wB;show#[λh=>?_,λh=>?_]
 ·have h:(i:Ki)<3:=Lr h;show#[m-1,∅,λQ2 J _=>?_]
  clear hK k;show st ?_;left;show zt (n:=3) (d:=d+2) hl z #v[] (λo L=>by have:=l3 o L;omega) ∅ λq2 y A hq2 G=>bu (J _ _ #[i+1,q2,∅,rfl,A,?_,E.trans G])
  show Lq E.len hq2
 ·have h:¬ (i:Ki)<3:=NY h;obtain rfl:i=3:=∅
  rw[vO]at z;show hK _ _ ?_;clear hK K l6 l3 L D h X;show st ?_;delta wS wE Kv;nofun
  have hq1:=bF z;show for_tup (l.map aw) (λi Z S'=>(∃H r,Z=[gV R,gV (.ref q),gV (.ref ↥S1),H,r])/\(∃U,S'[↥S1]?=gV (.dic U)/\HasD U (aW bs (l.take i)))/\S'[q]?=gV (.lst (bV am))/\Ka S S') rfl rfl ?_ ?_ ?_
  ·delta wE wV wG;subst C;show ak #v[] rfl #[rfl,#[_,_,rfl],#[[],aj,.nil],au z,E.trans .push]
  ·rintro i w Z y hw ⟨⟨H,r,rfl⟩,⟨U,A,I⟩,B,G⟩;clear hK k;rw[Kg,J6]at hw;obtain⟨g,u,rfl⟩:=hw;obtain⟨gg,g3⟩:=V g (Kt u);have hi:i<↥l:=(Ko.mp u).1;show ac (show gh (.nm 3) (aw g) [gV R,gV (.ref q),gV (.ref ↥S1),H,r] y=gV ([gV R,gV (.ref q),gV (.ref ↥S1),gV (aw g),r],y)from rfl) ?_
   intro Q2 J _;nofun
   show om q (bV am) (λj Z S'=>(∃r,Z=[gV R,gV (.ref q),gV (.ref ↥S1),gV (aw g),r])/\(∃U,S'[↥S1]?=gV (.dic U)/\HasD U (aW bs (l.take i)++(am.take j).map (ae bs g)))/\S'[q]?=gV (.lst (bV am))/\Ka S S') rfl rfl #[rfl,#[_,rfl],#[U,A,by rw[NC,Pi,Ln];show I],B,G] (λj Z S' h=>h.2.2.1) ?_ ?_
   ·rintro j w Z M hw ⟨⟨r,rfl⟩,⟨N,O,x⟩,s,k3⟩;clear hK J;unfold bV at hw;rw[Kg,J6]at hw;obtain⟨t,ht,rfl⟩:=hw;have tk:↥t<=3/\t.Nodup/\∀p∈t,p<3:=by
     have:∀t∈am,↥t<=3/\t.Nodup/\∀p∈t,p<3:=by decide
     show this t (Kt ht)
    show ac (show gh (.nm 4) (.tup (ab t)) [gV R,gV (.ref q),gV (.ref ↥S1),gV (aw g),r] M=gV ([gV R,gV (.ref q),gV (.ref ↥S1),gV (aw g),gV (.tup (ab t))],M)from rfl) ?_
    intro Q3 hn3 _;show st ?_;left;subst C;show HA (d:=d) P hp hb hnl gg (λp hp=>by have:=tk.2.2 p hp;omega) tk.2.1 ∅ λS4 k4=>?_
    have e4:=k4.get _ _ O;have Y:↥N<sizeLine:=by
     have b1:=x.len;have b2:=ln bs (l.take i);rw[Kh,b2,J4,KY,KY,show am.length=6 from rfl]at b1
     rw[Lu];omega
    show ac (yT e4 Y) (bu (hn3 _ _ #[#[_,rfl],#[_,bm e4,?_],?_,(k3.trans k4).late E.len]))
    ·rw[K7,ht,KN,<- L4];show x.put
    ·rw[bc ∅];show k4.get _ _ s
   ·rintro Z M ⟨⟨r,rfl⟩,⟨N,O,x⟩,s,k3⟩;rw[show(bV am).length=am.length from J4 ..,Li]at x
    show hK _ _ (bu (J _ _ #[#[_,_,rfl],#[N,O,?_],s,k3]));unfold aW at x ⊢;rw[K7,u,Ql]
    simpa using x
  ·rintro Z y ⟨⟨H,r,rfl⟩,⟨U,A,I⟩,B,G⟩;rw[J4,Li]at I;show hK _ _ (st (k _ U y A I E.len G))
end
abbrev bx:Ss:=
 #v[.loop (.nm 6) (.rng2 #v[.bi .len #v[.v 5],.bi .len #v[.v 3]]) #v[.set 7 (.lst .nil),.loop (.nm 8) (.rng #v[.bi .len #v[.ix (.v 1) (.c (.int 1))]]) #v[.set 9 (.lst .nil),.loop (.nm 10) (.rng #v[.v 6]) #v[.ex (.me .append (.v 9) #v[.cmp .isin (.tup #v[.tup #v[.ix (.ix (.v 3) (.v 10)) (.c (.int 0)),.tup .nil],.tup #v[.ix (.ix (.v 3) (.v 6)) (.c (.int 0)),.tup #v[.ix (.ix (.ix (.v 3) (.v 6)) (.c (.int 1))) (.v 10)]],.tup #v[.v 4,.tup #v[.ix (.v 5) (.v 10),.v 8]]]) (.v 2)])],.ite (.cmp .notin (.c (.bl true)) (.v 9)) #v[.ex (.me .append (.v 7) #v[.v 8])] .nil],.ite (.cmp .eq (.v 7) (.lst .nil)) #v[.ret (.c .non)] .nil,.set 5 (.op .add (.v 5) (.tup #v[.ix (.v 7) (.own "_law_pick" 2 #v[.v 0,.bi .len #v[.v 7]])]))],.ret (.v 5)]
abbrev bp (U:J2 (T×W))(u:Wd)(a:Ki)(i m:Kb)(x y:Ki):KR:=(bC U (ce [((u.getD i (0,[])).1,[]),((u.getD m (0,[])).1,[(u.getD m (0,[])).2.getD i 0]),(a,[x,y])])).isSome
def zw {S:aa}{l:Kb}{bl:J2 KR}(h:S[l]?=gV (.lst (bl.map W.bl))):∃b,bh .notin (.bl true) (.ref l) S=gV (.bl b,S)/\(b=true->∀x∈bl,x=false):=by
 have d:(aN (.bl true)&&(bl.map W.bl).all aN)=true:=by
  revert aN Na KD;intro x a;obtain⟨z,_,rfl⟩:=Kn.mp a;rfl
 show#[!(bl.map W.bl).any λz=>kq z (.bl true),?_,λc x a=>?_]
 ·simp only[bh,iN h,cD,rB,xn,cp,aC h,d,MW,KM]
 ·rw[Nw,N8]at c;cases x with
  |false=>rfl
  |true=>show absurd rfl (c (.bl true) (Kn.mpr #[true,a,rfl]))
section
variable{defs:J2 (KG×Df)}{fuel d:Kb}{S:aa}{r:Kb}{Q:QW}
def lp (G:Gen defs)(hg:Is defs ("_law_new_ways": KG) 6 11 bx){m0 b0:W}{N:J2 W}{a n q:Kb}{u:Wd}{o:Ki}{U:J2 (T×W)}(hN:↥N=n)(hn3:n<=3)(hu:GoodW a n u)(hl:↥u<=900)(e:S[q]?=gV (.dic U))(hqr:q≠r)(hf:Fl S r)
  (k:∀w S',(w=.non\/∃to:J2 Ki,w=.tup (ah to)/\↥to=↥u/\(∀x∈to,0<=x/\x<(n:Ki))/\∀j<↥u,∀i<j,bp U u o i j (to.getD i 0) (to.getD j 0)=false)->Fl S' r->Kp r S S'->Q (w,S')) :
  wO (aL (ar defs fuel (d+2)) "_law_new_ways" 6 [.ref r,.tup [m0,.tup N,b0],.ref q,aw u,.int o,.tup []] S) Q:=by
 show az hg rfl rfl λQ' hR=>?_
 replace k:∀w S',(w=.non\/∃to:J2 Ki,w=.tup (ah to)/\↥to=↥u/\(∀x∈to,0<=x/\x<(n:Ki))/\∀j<↥u,∀i<j,bp U u o i j (to.getD i 0) (to.getD j 0)=false)->Fl S' r->Kp r S S'->Q' (.rt w,S'):=λw S' h1 h2 h3=>hR _ _ (k w S' h1 h2 h3)
 clear hR;change wZ _ _ bx [gV (.ref r),gV (.tup [m0,.tup N,b0]),gV (.ref q),gV (aw u),gV (.int o),gV (.tup (ah [])),td,td,td,td,td] S Q';generalize hR0:W.tup [m0,.tup N,b0]=R;have ul:(u.map bN).length=↥u:=J4 ..;have hqS:=bF e;have hrS:=hf.lt;delta bx;nofun
 show iU 0 (↥u:Ki) (λm Z S'=>∃(to:J2 Ki) (a6 a7 z A c:J9 W),Z=[gV (.ref r),gV R,gV (.ref q),gV (aw u),gV (.int o),gV (.tup (ah to)),a6,a7,z,A,c]/\↥to=m/\(∀x∈to,0<=x/\x<(n:Ki))/\(∀j<m,∀i<j,bp U u o i j (to.getD i 0) (to.getD j 0)=false)/\Fl S' r/\Kp r S S') rfl rfl rfl ∅ ?_ ?_ ?_
 ·delta wE wA wV wG;show aF #[rfl,aF ?_];rw[ul];show#[rfl,[],_,_,_,_,_,rfl,rfl,(λx hx=>nomatch hx),(λj hj=>∅),hf,.refl]
 ·rintro m Z S1 hm ⟨to,a6,a7,z,A,c,rfl,E,H,C,f1,P⟩ Q2 hn2 hr2;clear hK;rw[N9];have D:m<↥u:=∅
  have e1:S1[q]?=gV (.dic U):=P.get _ _ hqr e;have s1:↥S<=↥S1:=P.len;have lm:=hu.len m _ (ap (d:=(0,[])) D);delta Kv;show st ?_;delta wS wE wA Kv;nofun
  show cv (n:Ki) (λx Z S'=>(∃z A c,Z=[gV (.ref r),gV R,gV (.ref q),gV (aw u),gV (.int o),gV (.tup (ah to)),gV (.int m),gV (.ref ↥S1),z,A,c])/\(∃f:J2 Ki,S'[↥S1]?=gV (.lst (ah f))/\↥f<=x/\(∀y∈f,0<=y/\y<(n:Ki))/\∀y∈f,∀i<m,bp U u o i m (to.getD i 0) y=false)/\S'[q]?=gV (.dic U)/\Fl S' r/\Kp r S S') rfl rfl ∅ ?_ ?_ ?_
  ·delta wE wA wV wG;subst hR0;show ak #v[] rfl (aF ?_)
   rw[hN];show#[rfl,#[_,_,_,rfl],#[[],aj,Kl _,(λy t=>nomatch t),λy t=>nomatch t],au e1,f1.ka .push,P.trans .push]
  ·rintro x Z S2 hx ⟨⟨z,A,c,rfl⟩,⟨f,I,M,s,p⟩,q2,X,k2⟩ Q3 B hr3;clear hK;have l2:=bF I;delta Kv;show st ?_;delta wS wE wA Kv;nofun
   show cv (m:Ki) (λi Z S'=>(∃c,Z=[gV (.ref r),gV R,gV (.ref q),gV (aw u),gV (.int o),gV (.tup (ah to)),gV (.int m),gV (.ref ↥S1),gV (.int x),gV (.ref ↥S2),c])/\S'[↥S2]?=gV (.lst (((Kj i).map λj=>bp U u o j m (to.getD j 0) (x:Ki)).map W.bl))/\S'[↥S1]?=gV (.lst (ah f))/\S'[q]?=gV (.dic U)/\Fl S' r/\Kp r S S') rfl rfl ∅ #[rfl,#[_,rfl],aj,au I,au q2,X.ka .push,k2.trans .push] ?_ ?_
   ·rintro i Z S3 hi ⟨⟨c,rfl⟩,L,g,V,Y,k3⟩ Q4 hn4 _;clear hK;have hiu:i<↥u:=∅
    have him:i<(u.getD m (0,[])).2.length:=∅
    have hit:i<↥to:=∅
    delta Kv;show st ?_;left;show#[cM L,?_];show ak (Kq i) (cx hiu) (ak #v[] rfl (ak (Kq m) (cx D) (ak #v[] rfl (ak (Kq m) (cx D) (ak #v[] rfl (ak (w:=.int ((u.getD m (0,[])).2.getD i 0)) (Kq i) (by rw[Kz,Kg,ap (d:=0) him];rfl) (ak (w:=.int (to.getD i 0)) (Kq i) (by rw[Kz];unfold ah;rw[Kg,ap (d:=0) hit];rfl) ?_)))))))
    show ac (a:=(.bl (bp U u o i m (to.getD i 0) (x:Ki)),S3)) ?_ ?_
    ·change bh .isin (aw [((u.getD i (0,[])).1,[]),((u.getD m (0,[])).1,[(u.getD m (0,[])).2.getD i 0]),(o,[to.getD i 0,(x:Ki)])]) (.ref q) S3=_;simp only[bh,bQ V,oq];rfl
    show jK L (by rw[J4,J4,KL];omega) (bu (hn4 _ _ #[#[_,rfl],?_,?_,?_,Y.own ∅,k3.late ∅]))
    ·rw[bm L,Nq,KN,KN];rfl
    ·rw[bc ∅];show g
    ·rw[bc ∅];show V
   ·rintro Z S3 ⟨⟨c,rfl⟩,L,g,V,Y,k3⟩;show hK _ _ ?_;clear hK K;nofun
    delta wS wT wE wA wV wG;obtain⟨b,eb,hb⟩:=zw L;show ac eb ?_;delta wB;show aq (Q0:=Q3) (λhbt Q5 l _=>?_) (λ_ Q5 l _=>bu (l _ _ (hK _ _ (bu (B _ _ #[#[_,_,_,rfl],#[f,g,∅,s,p],V,Y,k3])))))
    show st ?_;left;show#[cM g,jK g (by unfold ah;rw[J4];omega) (bu (l _ _ (hK _ _ (bu (B _ _ #[#[_,_,_,rfl],#[f++[(x:Ki)],?_,by rw[Kh,Lj];omega,λy t=>?_,λy t i hi=>?_],?_,Y.own ∅,k3.late ∅])))))]
    ·rw[bm g];unfold ah;rw[KN];rfl
    ·rcases La.mp t with h|h
     ·show s y h
     ·rw[KA.mp h];omega
    ·rcases La.mp t with h|h
     ·show p y h i hi
     ·rw[KA.mp h];show hb hbt _ (Kn.mpr #[i,Ky.mpr ∅,rfl])
    ·rw[bc ∅];show V
  ·rintro Z S2 ⟨⟨z,A,c,rfl⟩,⟨f,I,M,s,p⟩,q2,X,k2⟩;show hK _ _ ?_;clear hK K;rw[Kz]at M;nofun
   delta wS wT wE wA wV wG;show ac (Dc (au I) aj) ?_;delta wB;show aq (Q0:=Q2) (λ_ Q5 _ hr5=>?_) (λhne Q5 l _=>bu (l _ _ (hK _ _ ?_)))
   ·show st ?_;delta wS wE;show hr5 _ _ (hr2 _ _ (k _ _ (.inl rfl) (X.ka .push) (k2.trans .push)))
   clear l hK;have hpos:0<↥f:=by
    cases f with
    |nil=>cases hne
    |cons _ _=>simp
   show st ?_;left;have J:=au (u:=O.lst []) I;show gS J ?_;rw[show(ah f).length=↥f from J4 ..]
   show bE (d:=d) G.pick (X.ka .push) ∅ ∅ λv S4 v0 v1 f4 k4=>?_
   have hv:v.toNat<↥f:=∅
   have e4:=k4.get _ _ (by have:=bF I;omega) J
   show jJ (w:=.int f[v.toNat]) e4 v0 (by unfold ah;rw[Kg,Ke hv];rfl) ?_
   show ac (ib (zr (by rw[Kh,show(ah to).length=↥to from J4 ..];show _+1<=_;omega))) (bu (hn2 _ _ #[to++[f[v.toNat]],gV (.int m),gV (.ref ↥S1),z,A,c,?_,by rw[Kh,E];rfl,λy t=>?_,λj hj i hi=>?_,f4,(k2.trans .push).trans k4]))
   ·rw[show ah to++[W.int f[v.toNat]]=ah (to++[f[v.toNat]]) by unfold ah;rw[KN];rfl]
   ·rcases La.mp t with h|h
    ·show H y h
    ·rw[KA.mp h];show s _ (Ll hv)
   ·have gl:∀j:Kb,j<↥to->(to++[f[v.toNat]]).getD j 0=to.getD j 0:=λj hj=>by rw[Kk,Kk,Lf hj]
    rw[gl i ∅]
    by_cases ej:j=m
    ·subst ej;rw[show(to++[f[v.toNat]]).getD j 0=f[v.toNat] by rw[<- E,Kk,Lv (Kl _),Oa];rfl]
     show p _ (Ll hv) i hi
    ·rw[gl j ∅]
     show C j ∅ i hi
 ·rintro Z S1 ⟨to,a6,a7,z,A,c,rfl,E,H,C,f1,P⟩;show hK _ _ (st ?_);delta wS wE wV wG;show k _ _ (.inr #[to,rfl,∅,H,λj hj=>C j ∅]) f1 P
end
abbrev da:Ss:=
 #v[.set 4 (.tup .nil),.loop (.nm 5) (.rng #v[.v 3]) #v[.set 6 (.own "_law_pick" 2 #v[.v 0,.bi .len #v[.ix (.v 1) (.c (.int 0))]]),.set 7 (.own "_law_new_ways" 6 #v[.v 0,.v 1,.v 2,.v 4,.v 6,.tup .nil]),.ite (.cmp .isnot (.v 7) (.c .non)) #v[.set 4 (.op .add (.v 4) (.tup #v[.tup #v[.v 6,.v 7]]))] .nil],.ret (.v 4)]
def aM {u:Wd}{h:Pt}{p:Kb}(a:p<↥u):(u++[h]).getD p (0,[])=u.getD p (0,[]):=by
 rw[Kk,Kk,Lf a]
def cR {u:Wd}{h:Pt}:(u++[h]).getD ↥u (0,[])=h:=by
 rw[Kk,Lv (Kl _),Oa];rfl
abbrev Std (U:J2 (T×W))(u:Wd):Prop:=∀k<↥u,∀j<k,∀i<j,jv U u i j k=false
def Std.snoc {U:J2 (T×W)}{u:Wd}{m:Ki}{to:J2 Ki}(h:Std U u)(c:∀j<↥u,∀i<j,bp U u m i j (to.getD i 0) (to.getD j 0)=false):Std U (u++[(m,to)]):=by
 intro k hk j b i hi;rw[Kh,Lj]at hk
 by_cases e:k=↥u
 ·subst e;have:=c j b i hi;unfold bp at this;unfold jv eI;rw[aM (MB hi b),aM b,cR];show this
 ·have a:k<↥u:=∅
  have:=h k a j b i hi;unfold jv eI at this ⊢;rw[aM (MB hi (MB b a)),aM (MB b a),aM a];show this
section
variable{defs:J2 (KG×Df)}{fuel d:Kb}{S:aa}{r:Kb}{Q:QW}
def Cj (G:Gen defs)(hw:Is defs ("_law_new_ways": KG) 6 11 bx)(hg:Is defs ("_law_world": KG) 4 8 da){c N:J2 W}{b0:W}{a n q b:Kb}{U:J2 (T×W)}(hM:↥c=a)(ha1:0<a)(ha3:a<=3)(hN:↥N=n)(B:n<=3)(hm:b<=900)(e:S[q]?=gV (.dic U))(h:q≠r)(hf:Fl S r)
  (k:∀(u:Wd) S',↥u<=b->GoodW a n u->Std U u->Fl S' r->Kp r S S'->Q (aw u,S')) :
  wO (aL (ar defs fuel (d+3)) "_law_world" 4 [.ref r,.tup [.tup c,.tup N,b0],.ref q,.int b] S) Q:=by
 show az hg rfl rfl λI M=>?_
 replace k:∀(u:Wd) S',↥u<=b->GoodW a n u->Std U u->Fl S' r->Kp r S S'->I (.rt (aw u),S'):=λu S' h1 h2 h3 h4 h5=>M _ _ (k u S' h1 h2 h3 h4 h5)
 clear M;change wZ _ _ da [gV (.ref r),gV (.tup [.tup c,.tup N,b0]),gV (.ref q),gV (.int b),td,td,td,td] S I;generalize y:W.tup [.tup c,.tup N,b0]=R;delta da;show st ?_;delta wS wE wA Kv;nofun
 show cv (b:Ki) (λi Z S'=>∃(u:Wd) (p s t:J9 W),Z=[gV (.ref r),gV R,gV (.ref q),gV (.int b),gV (aw u),p,s,t]/\↥u<=i/\GoodW a n u/\Std U u/\Fl S' r/\Kp r S S') rfl rfl ∅ #[rfl,[],_,_,_,rfl,Kl _,.nil,(λk hk=>by cases hk),hf,.refl] ?_ ?_
 ·rintro i Z S1 hi ⟨u,p,s,t,rfl,j,l,f,x,m⟩ J O _;clear hK;have X:=m.get _ _ h e;delta Kv;show st ?_;left;subst y;show ak #v[] rfl (aF ?_)
  rw[hM];show bE (d:=d+1) G.pick x ∅ ∅ λv S2 v0 v1 f2 H=>?_
  have Y:=H.get _ _ h X;show st ?_;left;show lp (d:=d) G hw hN B l ∅ Y h f2 λw o E L P=>?_
  nofun
  delta wS wT wE wA wV wG;rcases E with rfl|⟨to,rfl,C,D,A⟩
  ·show ac (show bh .isnot .non .non o=gV (.bl false,o)from rfl) ?_
   delta wB;show aq (Q0:=J) (λz=>by cases z) (λ_ V g _=>bu (g _ _ (hK _ _ (bu (O _ _ #[u,_,_,_,rfl,∅,l,f,L,(m.trans H).trans P])))))
  ·show ac (show bh .isnot (.tup (ah to)) .non o=gV (.bl true,o)from rfl) ?_
   delta wB;show aq (Q0:=J) (λ_ V g _=>?_) (λz=>by cases z)
   show st ?_;delta wS wE wA wV wG Kv aw;show ac (ib (zr (by rw[Kh,J4];show _+1<=_;omega))) (bu (g _ _ (hK _ _ (bu (O _ _ #[u++[(v,to)],gV (.int i),gV (.int v),gV (.tup (ah to)),?_,?_,l.snoc #[v0,v1] C D,f.snoc A,L,(m.trans H).trans P])))))
   ·unfold aw;rw[KN];rfl
   ·rw[Kh,Lj];omega
 ·rintro Z S1 ⟨u,p,s,t,rfl,j,l,f,x,m⟩;rw[Kz]at j;show hK _ _ (st ?_);delta wS wE wV wG;show k u S1 j l f x m
end
section
variable{M:KG->FF}{Z:Fm}{S:aa}
def zx {α:Type}{a:E}{tg:Tg}{it:Ie}{n:Es}{e:J2 (J9 Kb)}{mi:MI}{S1:aa}{Q:QW}(L:J2 α)(f:α->W)(p:α->KR)(g:α->W)(l:Fm->Prop)(o:α->Fm)(B:∀x Z S,l Z->gh tg (f x) Z S=gV (o x,S)/\l (o x))(H:cH a=true)(oc:lL n=true)(hc:l (dO e Z))(hl:↥L<=1000000)(hi:i6 M it Z S=gV (mi,S1))(v:Ka S S1)(r:∀i S',Ka S1 S'->mi.at S' i=gV (L.map f)[i]?)(D:mi.len S1=gV (L.map f).length)
  (b:∀x∈L,∀S',Ka S S'->eG M a n (o x) S' (λy _ m=>p x=true/\y=g x/\Ka S' m) (λ_ m=>p x=false/\Ka S' m))
  (k:∀S',Ka S S'->Q (.ref ↥S',S'++[.lst ((L.filter p).map g)])):Wp (aB M (.comp a tg it n e) Z S) Q:=by
 rw[yz];show#[_,hi,_,D,?_];show(du (xs:=L.map f) (Q:=λq=>↥q.1<=sizeLine/\Q (.ref ↥q.2,q.2++[.lst q.1])) (λi ys d S'=>l d/\ys=((L.take i).filter p).map g/\Ka S1 S') (λi ys d S' h=>r i S' h.2.2) (λi w ys d S' hw h=>?_) (λys d S' h=>?_) (L.map f).length 0 [] _ S1 ∅ #[hc,rfl,.refl]).mono λq G=>by simpa using G
 ·obtain⟨C,rfl,j⟩:=h;rw[Kg,J6]at hw;obtain⟨x,s,rfl⟩:=hw;obtain⟨A,u⟩:=B x d S' C;show#[_,A,?_];show(C9 oc (b x (Kt s) S' (v.trans j))).mono λc hc=>#[λz=>(aO a H (hc.1 z)).mono λy t=>#[u,?_,j.trans t.2.2],λz=>#[u,?_,j.trans (hc.2 z).2]]
  ·rw[K7,s,OI,show(Sx (gV x)).filter p=[x]from List.filter_cons_of_pos t.1,KN,t.2.1];rfl
  ·rw[K7,s,OI,show(Sx (gV x)).filter p=[]from List.filter_cons_of_neg (by rw[(hc.2 z).1];show KJ),Ln]
 ·obtain⟨_,rfl,j⟩:=h;dsimp only;rw[show(L.map f).length=↥L from J4 ..,Li]
  show#[zr ?_,k S' (v.trans j)];rw[J4];show Lq (Od _ _) hl
def oD {α:Type}{b:E}{it:Ie}{l:Es}{d:J2 (J9 Kb)}{mi:MI}{S1:aa}{Q:QW}(L:J2 α)(f:α->W)(p:α->KR)(g:α->W)(R:Fm)(q:cH b=true)(oc:lL l=true)(hc:dO d Z=td::td::R)(hl:↥L<=1000000)(hi:i6 M it Z S=gV (mi,S1))(o:Ka S S1)(m:∀i S',Ka S1 S'->mi.at S' i=gV (L.map f)[i]?)(n:mi.len S1=gV (L.map f).length)
  (c:∀x∈L,∀S',Ka S S'->eG M b l (td::gV (f x)::R) S' (λy _ j=>p x=true/\y=g x/\Ka S' j) (λ_ j=>p x=false/\Ka S' j))
  (k:∀S',Ka S S'->Q (.ref ↥S',S'++[.lst ((L.filter p).map g)])):Wp (aB M (.comp b (.nm 1) it l d) Z S) Q:=
 zx L f p g (λZ=>∃a,Z=td::a::R) (λx=>td::gV (f x)::R) (λ_ _ _ h=>let ⟨_,e⟩:=h;e ▸ #[rfl,_,rfl]) q oc #[_,hc] hl hi o m n c k
def sn {α:Type}{a e:E}{j:Es}{c:J2 (J9 Kb)}{Q:QW}(L:J2 α)(f:α->W)(p:α->KR)(g:α->W)(R:Fm)(s:cH e=true)(r:cH a=true)(oc:lL j=true)(hc:dO c Z=td::td::R)(hl:↥L<=1000000)
  (n:wE M e Z S λq=>∃t,q.1=.ref t/\q.2[t]?=gV (.lst (L.map f))/\Ka S q.2)
  (b:∀x∈L,∀S',Ka S S'->eG M a j (td::gV (f x)::R) S' (λy _ d=>p x=true/\y=g x/\Ka S' d) (λ_ d=>p x=false/\Ka S' d))
  (k:∀S',Ka S S'->Q (.ref ↥S',S'++[.lst ((L.filter p).map g)])):Wp (aB M (.comp a (.nm 1) (.seq e) j c) Z S) Q:=by
 obtain⟨w,S1,m,t,rfl,l,o⟩:=br s n;show oD (mi:=.live t) L f p g R r oc hc hl (by simp only[i6,d6,m,aC l]) o (λi S' h=>by simp only[MI.at,aC (h.get _ _ l)]) (by simp only[MI.len,aC l,KM]) b k
def lq {α:Type}{a e:E}{h:Es}{c:J2 (J9 Kb)}{Q:QW}(L:J2 α)(f:α->W)(p:α->KR)(g:α->W)(R:Fm)(n:cH e=true)(m:cH a=true)(oc:lL h=true)(hc:dO c Z=td::td::R)(hl:↥L<=1000000)
  (j:wE M e Z S λq=>q.1=.tup (L.map f)/\Ka S q.2)
  (b:∀x∈L,∀S',Ka S S'->eG M a h (td::gV (f x)::R) S' (λy _ d=>p x=true/\y=g x/\Ka S' d) (λ_ d=>p x=false/\Ka S' d))
  (k:∀S',Ka S S'->Q (.ref ↥S',S'++[.lst ((L.filter p).map g)])):Wp (aB M (.comp a (.nm 1) (.seq e) h c) Z S) Q:=by
 obtain⟨w,S1,i,rfl,l⟩:=br n j;show oD (mi:=.its (L.map f)) L f p g R m oc hc hl (by revert i6 d6 i) l (λ_ _ _=>rfl) rfl b k
def qF (n:Kb):cg 0 n=(Kj n).map λi=>W.int (i:Kb):=by
 unfold cg;show Le λi _=>?_
 rw[N9]
def ig {a e:E}{f:Es}{c:J2 (J9 Kb)}{Q:QW}(n:Kb)(p:Kb->KR)(g:Kb->W)(R:Fm)(r:cH e=true)(o:cH a=true)(oc:lL f=true)(hc:dO c Z=td::td::R)(hl:n<=1000000)
  (j:wE M e Z S λq=>q.1=.int n/\Ka S q.2)
  (b:∀x<n,∀S',Ka S S'->eG M a f (td::gV (.int (x:Kb))::R) S' (λy _ d=>p x=true/\y=g x/\Ka S' d) (λ_ d=>p x=false/\Ka S' d))
  (k:∀S',Ka S S'->Q (.ref ↥S',S'++[.lst (((Kj n).filter p).map g)])):Wp (aB M (.comp a (.nm 1) (.rng #v[e]) f c) Z S) Q:=by
 obtain⟨w,S1,h,rfl,m⟩:=br r j;show oD (mi:=.its (cg 0 n)) (Kj n) (λi=>W.int (i:Kb)) p g R o oc hc (by rw[KL];show hl) ?_ m (λi S' _=>by rw[<- qF];rfl) (by rw[<- qF];rfl) (λx l=>b x (Ky.mp l)) k
 revert i6 cC cu fN rM h;rw[KC #[∅,∅]];rfl
def aU {α:Type}(L:J2 α):L.filter (λ_=>true)=L:=List.filter_eq_self.mpr λ_ _=>rfl
end
abbrev fw (U:J2 (T×W))(u:Wd)(h:Pt)(p q:Kb):KR:=(bC U (ce [((u.getD p (0,[])).1,[]),((u.getD q (0,[])).1,[(u.getD q (0,[])).2.getD p 0]),(h.1,[h.2.getD p 0,h.2.getD q 0])])).isSome
def qG {U:J2 (T×W)}{u:Wd}{h:Pt}{p q:Kb}(b:p<q)(a:q<↥u):jv U (u++[h]) p q ↥u=fw U u h p q:=by
 unfold jv fw eI;rw[aM (MB b a),aM a,cR]
abbrev ii (U:J2 (T×W))(v:Wd):KR:=(Kj (↥v-2)).all λp=>!jv U v p (↥v-2) (↥v-1)
def ik {ws:J2 Ki}{x:Ki}{p:Kb}(a:p<↥ws):(ws++[x]).getD p 0=ws.getD p 0:=by
 rw[Kk,Kk,Lf a]
abbrev db:Ss:=
 #v[.set 2 (.op .sub (.bi .len #v[.v 1]) (.c (.int 1))),.loop (.nm 3) (.rng #v[.op .sub (.v 2) (.c (.int 1))]) #v[.ite (.cmp .isin (.own "three_at" 4 #v[.v 1,.v 3,.op .sub (.v 2) (.c (.int 1)),.v 2]) (.v 0)) #v[.ret (.v 3)] .nil],.ret (.c .non)]
def lu {U:J2 (T×W)}{v:Wd}{s:Kb}(a:↥v=s+2):ii U v=true↔∀i<s,jv U v i s (s+1)=false:=by
 unfold ii;rw[a,show s+2-2=s from rfl,show s+2-1=s+1 from rfl,KD]
 show forall_congr' λi=>?_
 rw[Ky,Nw]
section
variable{defs:J2 (KG×Df)}{fuel d:Kb}{S:aa}{Q:QW}
def qH (u:Is defs ("three_at": KG) 4 6 cQ)(x:Is defs ("first_bar": KG) 2 4 db){a n q:Kb}{v:Wd}{U:J2 (T×W)}(B:GoodW a n v)(D:2<=↥v)(hl:↥v<=1000)(e:S[q]?=gV (.dic U))(k:∀w,((w=.non/\ii U v=true)\/∃i:Ki,w=.int i/\ii U v=false)->Q (w,S)) :
  wO (aL (ar defs fuel (d+2)) "first_bar" 2 [.ref q,aw v] S) Q:=by
 show az x rfl rfl λl m=>?_
 replace k:∀w,((w=.non/\ii U v=true)\/∃i:Ki,w=.int i/\ii U v=false)->l (.rt w,S):=λw h=>m _ _ (k w h)
 clear m;change wZ _ _ db [gV (.ref q),gV (aw v),td,td] S l;have C:(v.map bN).length=↥v:=J4 ..;obtain⟨s,o⟩:∃s,↥v=s+2:=#[↥v-2,∅]
 delta db;show st ?_;left;show aF (ac mL ?_);rw[C,show((↥v:Kb):Ki)-1=((s+1:Kb):Ki) by omega]
 nofun
 show cv (s:Ki) (λi Z S'=>(∃c,Z=[gV (.ref q),gV (aw v),gV (.int ((s+1:Kb):Ki)),c])/\S'=S/\∀b<i,jv U v b s (s+1)=false) rfl rfl ∅ ?_ ?_ ?_
 ·delta wE wV wG;show ac mL #[?_,#[_,rfl],rfl,λb z=>∅]
  dsimp only;rw[show((s+1:Kb):Ki)-1=(s:Ki) by omega]
 ·rintro i Z S1 hi ⟨⟨c,rfl⟩,rfl,j⟩ p y A;clear hK;delta Kv;nofun
  delta wS wT wE wA wV wG;show ac mL ?_;dsimp only;rw[show((s+1:Kb):Ki)-1=(s:Ki) by omega]
  show Ci (d:=d) u B ∅ (Ng s) ∅ ?_
  show ac (show bh .isin (aw (eI v i s (s+1))) (.ref q) S1=gV (.bl (jv U v i s (s+1)),S1) by simp only[bh,bQ e,oq];rfl) ?_
  delta wB;show aq (Q0:=p) (λh r _ g=>?_) (λh r f _=>bu (f _ _ (hK _ _ (bu (y _ _ #[#[_,rfl],rfl,λb z=>?_])))))
  ·show st ?_;delta wS wE wV wG;show g _ _ (A _ _ (k _ (.inr #[i,rfl,?_])));rw[Nx];intro z;rw[(lu o).mp z i ∅]at h
   cases h
  ·by_cases t:b=i
   ·rw[t];show h
   ·show j b ∅
 ·rintro Z S1 ⟨⟨c,rfl⟩,rfl,j⟩;show hK _ _ (st ?_);delta wS wE;show k _ (.inl #[rfl,(lu o).mpr j])
end
abbrev bz:Ss:=
 #v[.asg [4,5] (.ix (.v 2) (.v 3)),.loop (.nm 6) (.rng2 #v[.c (.int 1),.v 3]) #v[.loop (.nm 7) (.rng #v[.v 6]) #v[.ite (.cmp .isin (.tup #v[.tup #v[.ix (.ix (.v 2) (.v 7)) (.c (.int 0)),.tup .nil],.tup #v[.ix (.ix (.v 2) (.v 6)) (.c (.int 0)),.tup #v[.ix (.ix (.ix (.v 2) (.v 6)) (.c (.int 1))) (.v 7)]],.tup #v[.v 4,.tup #v[.ix (.v 5) (.v 7),.ix (.v 5) (.v 6)]]]) (.v 1)) #v[.ret (.c (.bl false))] .nil]],.ret (.c (.bl true))]
abbrev ff (U:J2 (T×W))(u:Wd)(s:Kb)(h:Pt):KR:=(Kj s).all λq=>(Kj q).all λp=>!fw U u h p q
def eu {U:J2 (T×W)}{u:Wd}{s:Kb}{h:Pt}:ff U u s h=true↔∀q<s,∀p<q,fw U u h p q=false:=by
 unfold ff;revert KD Ky Nw
def uA:∀p:J2 Kb,W.ts (ab p)=gV (p.map λ(n:Kb)=>T.int (n:Ki))
 |[]=>rfl
 |n::p=>by
  show(match W.t (.int n),W.ts (ab p)with
   |some y,gV ys=>gV (y::ys)
   |_,_=>td)=_
  rw[uA p];rfl
def zy (p:J2 Kb):T.depths (p.map λ(n:Kb)=>T.int (n:Ki))=0:=by
 induction p with
 |nil=>rfl
 |cons n p ih=>revert Lb T.depths ih;rfl
def E8 {bs:J2 Ki}{a:Kb}{v:Wd}{i j:Kb}(g:GoodB bs)(c:GoodW a ↥bs v)(hi:i<↥v)(l:j<↥v)(k:i≠j):0<=aY bs v i j/\aY bs v i j<(↥bs:Ki):=by
 unfold aY
 by_cases h:j<i
 ·rw[KC h];have b:=ap (d:=(0,[])) hi;have hw:j<(v.getD i (0,[])).2.length:=by rw[c.len i _ b];show h
  show c.way i _ b _ (Kt (ap (d:=0) hw))
 ·rw[KS h];have b:=ap (d:=(0,[])) l;have hw:i<(v.getD j (0,[])).2.length:=by rw[c.len j _ b];omega
  obtain⟨e,f⟩:=c.way j _ b _ (Kt (ap (d:=0) hw));show(g.at e f).2
def cU {bs:J2 Ki}{a:Kb}{v:Wd}{ps:J2 Kb}(n:GoodB bs)(l:GoodW a ↥bs v)(c:∀p∈ps,p<↥v)(g:ps.Nodup):GoodW a ↥bs (ae bs v ps):=by
 have b:∀(k:Kb) (q:Pt),(ae bs v ps)[k]?=gV q->∃hk:k<↥ps,q=((v.getD ps[k] (0,[])).1,(ps.take k).map λj=>aY bs v ps[k] j):=λk q e=>by
  have hk:k<↥ps:=by
   have:=(Ko.mp e).1;rw[aA]at this;show this
  show#[hk,?_];unfold ae at e;rw[Kg,LO hk,KM,show ps.getD k 0=ps[k] by simp[hk]]at e
  show(LJ e).symm
 show#[λk q e=>?_,λk q e=>?_,λk q e=>?_]
 ·obtain⟨hk,rfl⟩:=b k q e;have:=l.mark _ _ (ap (d:=(0,[])) (c _ (Ll hk)));show this
 ·obtain⟨hk,rfl⟩:=b k q e;dsimp only;rw[J4,KY];omega
 ·obtain⟨hk,rfl⟩:=b k q e;intro w hw;obtain⟨j,i,rfl⟩:=Kn.mp hw;have f:=LW i;show E8 n l (c _ (Ll hk)) (c _ f) λe=>?_
  obtain⟨m,o,h⟩:=LS.mp i;rw[KY]at o;rw[Mm]at h;have:=(L1 g).mp (e.trans h.symm);omega
section
variable{defs:J2 (KG×Df)}{fuel d:Kb}{S:aa}{Q:QW}
def E9 (hd:Is defs ("_law_flow": KG) 1 1 dQ){ns:J2 Ki}{u:Kb}(a:S[u]?=gV (.fro (ns.map W.int)))(k:∀r S',Ka S S'->Fl S' r->Q (.ref r,S')) :
  wO (aL (ar defs fuel (d+1)) "_law_flow" 1 [.ref u] S) Q:=by
 show az hd rfl rfl λb f=>?_
 change wZ _ _ dQ [gV (.ref u)] S b;delta dQ;show st ?_;left;have e:Bi.list.fn [.ref u] S=gV (.ref ↥S,S++[.lst (ns.map W.int)]):=by
  have c:pc S u=td:=by simp[pc,a]
  simp only[Bi.fn,qa,fI,c,fm,cp,BR a]
 show ac e (f _ _ (k _ _ (Ka.push.trans .push) #[↥S,ns,0,0,1,0,?_,?_,?_,#v[],#v[],#v[],#v[]]))
 ·show aj
 ·show au aj
 ·simp
end
def jL {bt:Kb->Kb->KR}{N:Kb}(b:∀i<N,bt i i=false)(d:∀i j k,i<N->j<N->k<N->bt i j=true->bt j k=true->bt i k=true):∀n,n<N->∀j≤n,bt j (argBest bt n)=false
 |0,a,j,g=>by
  obtain rfl:j=0:=∅
  show b 0 a
 |n+1,a,j,g=>by
  have ih:=jL b d n ∅
  have h:=cO bt n;revert argBest;cases c:bt (n+1) (argBest bt n)with
  |true=>
   rw[KC rfl]
   by_cases e:j=n+1
   ·subst e;show b _ a
   ·cases f:bt j (n+1)with
    |false=>rfl
    |true=>
     have:=d j (n+1) (argBest bt n) ∅ a ∅ f c
     rw[ih j ∅]at this;cases this
  |false=>
   rw[KS (by show KJ)]
   by_cases e:j=n+1
   ·subst e;show c
   ·show ih j ∅
def lv {ks:J2 T}(f:∀x∈ks,kE x=true)(hl:eO ks=true)(g:ks≠[]):∃x,ks[g6 ks]?=gV x/\x∈ks/\∀y∈ks,fK y x=gV false:=by
 have r:0<↥ks:=Qm.mpr g;have d:g6 ks<↥ks:=by
  unfold g6;have:=cO (vm ks) (↥ks-1);omega
 have a:∀i j (hi:i<↥ks) (b:j<↥ks),fK ks[i] ks[j]=gV (vm ks i j):=λi j hi b=>rG hl hi b
 have p:∀i<↥ks,vm ks i i=false:=λi hi=>by
  cases c:vm ks i i with
  |false=>rfl
  |true=>
   have e:=a i i hi hi;rw[c]at e;have:=rH _ _ (f _ (Ll hi)) e;rw[e]at this;cases this
 have q:=jL (bt:=vm ks) (N:=↥ks) p (λi j k hi b hk m n=>by
  have h:=a i j hi b;have l:=a j k b hk;rw[m]at h;rw[n]at l;have:=xE _ _ _ (f _ (Ll hi)) (f _ (Ll b)) h l;rw[a i k hi hk]at this;show LJ this) (↥ks-1) ∅
 show#[ks[g6 ks],Ke d,Ll d,λy o=>?_]
 obtain⟨j,b,rfl⟩:=LS.mp o;rw[a j _ b d];congr 1;show q j ∅
def uB {x y:T}(c:kE x=true)(a:fK x y=gV false)(b:fK y x=gV false):x=y:=by
 by_cases e:x=y
 ·show e
 ·rw[rJ x y c e b]at a;cases a
def qI:∀{xs ys as bs:J2 T},↥xs=↥ys->cF xs ys=gV true->cF (xs++as) (ys++bs)=gV true
 |[],[],_,_,_,h=>by cases h
 |x::xs,y::ys,as,bs,hl,h=>by
  simp only[Rv,cF]at h ⊢
  by_cases e:x=y
  ·rw[KC e]at h ⊢;show qI (by simpa using hl) h
  ·rw[KS e]at h ⊢;show h
 |[],_::_,_,_,hl,_=>by simp at hl
 |_::_,[],_,_,hl,_=>by simp at hl
def qJ {as bs:J2 T}:∀xs:J2 T,cF (xs++as) (xs++bs)=cF as bs
 |[]=>rfl
 |x::xs=>by
  revert Rv cF MW;show qJ xs
def Fa {x y:T}(a:kE x=true)(h:cF [x] [y]=gV true):fK x y=gV true:=by
 simp only[cF]at h;split at h
 ·cases h
 ·show h
structure Ord (n:Kb)(o:J2 Kb):Prop where
 nd:o.Nodup
 lt:∀p∈o,p<n
abbrev zA:Kb->J2 (J2 Kb)
 |0=>[[]]
 |k+1=>(zA k).flatMap λo=>(Kj (k+1)).map λi=>o.take i++[k]++o.drop i
def oE:∀{n:Kb}{o:J2 Kb},o∈zA n↔Ord n o/\↥o=n
 |0,o=>by
  rw[zA,KA];show#[λh=>by subst h;show#[#[.nil,λp c=>nomatch c],rfl],λh=>MG h.2]
 |n+1,o=>by
  rw[zA,Mf];constructor
  ·rintro⟨f,g,l⟩;obtain⟨i,hi,rfl⟩:=Kn.mp l;obtain⟨⟨nd,lt⟩,hl⟩:=oE.mp g;have hi:=Ky.mp hi;have c:(f.take i++[n]++f.drop i).Perm (n::f):=by
    have e:f.take i++[n]++f.drop i=f.take i++n::f.drop i:=by simp
    rw[e];show Pe.trans ?_;rw[Oc]
   show#[#[c.nodup_iff.mpr (Mo.mpr #[λz=>absurd (lt _ z) (LZ _),nd]),λp d=>?_],by rw[c.length_eq,K5,hl]]
   rcases KH.mp (c.mem_iff.mp d)with z|z
   ·omega
   ·have:=lt p z;omega
  ·rintro⟨⟨nd,lt⟩,hl⟩;have m:n∈o:=by
    by_cases z:n∈o
    ·show z
    ·have g:=cw o (Kj n) nd λp c=>Ky.mpr (by
      have:=lt p c;have:p≠n:=λe=>z (e▸c)
      omega)
     rw[KL]at g;omega
   obtain⟨a,b,rfl⟩:=List.append_of_mem m;have c:(a++n::b).Perm (n::(a++b)):=Pe;have j:=c.nodup_iff.mp nd;obtain⟨nn,k⟩:=Mo.mp j;show#[a++b,oE.mpr #[#[k,λp d=>?_],?_],Kn.mpr #[↥a,Ky.mpr ?_,?_]]
   ·have g:=lt p (c.mem_iff.mpr (LH _ d));have:p≠n:=λe=>nn (e▸d)
    omega
   ·have:=c.length_eq;rw[hl,K5]at this;omega
   ·rw[Kh,K5]at hl;omega
   ·rw[RI,List.drop_left']<;>simp
abbrev gU (bs:J2 Ki)(u:Wd)(o:J2 Kb):Pt:=aV bs u o.dropLast (o.getLastD 0)
abbrev gW (ps:J2 Pt):Pt:=ps.getD (g6 (ps.map gT)) (0,[])
abbrev vP (bs:J2 Ki)(u:Wd):Kb->J2 (J2 Kb)
 |0=>[[]]
 |k+1=>(bU ↥u (vP bs u k)).filter λo=>decide (gU bs u o=gW ((bU ↥u (vP bs u k)).map (gU bs u)))
abbrev zB (bs:J2 Ki)(u:Wd):Kb->Wd
 |0=>[]
 |k+1=>zB bs u k++[gW ((bU ↥u (vP bs u k)).map (gU bs u))]
def zC (p:Pt):kE (gT p)=true:=by
 have:=jY [p]
 simpa [d0]using this
def vQ (ps:J2 Pt):eO (ps.map gT)=true:=by
 unfold eO;rw[KD];intro x a;rw[KD];intro y b;obtain⟨p,_,rfl⟩:=Kn.mp a;obtain⟨q,_,rfl⟩:=Kn.mp b;show sd _ _ (yL p q)
def vR {ps:J2 Pt}(h:ps≠[]):ps[g6 (ps.map gT)]?=gV (gW ps)/\gW ps∈ps/\∀y∈ps,fK (gT y) (gT (gW ps))=gV false:=by
 obtain⟨x,b,g,c⟩:=lv (ks:=ps.map gT) (λx d=>by obtain⟨p,_,rfl⟩:=Kn.mp d;show zC p) (vQ ps) (by simpa using h)
 rw[Kg,J6]at b;obtain⟨p,a,rfl⟩:=b;have e:gW ps=p:=by unfold gW;rw[Kk,a];rfl
 rw[e];show#[a,Kt a,λy f=>c _ (Kn.mpr #[y,f,rfl])]
def iY {n:Kb}{os:J2 (J2 Kb)}{d:J2 Kb}:d∈bU n os↔∃o∈os,∃p,p<n/\p∉o/\d=o++[p]:=by
 unfold bU;rw[Mf];constructor
 ·rintro⟨o,c,h⟩;obtain⟨p,e,rfl⟩:=Kn.mp h;obtain⟨a,b⟩:=LX.mp e;show#[o,c,p,Ky.mp a,Lr b,rfl]
 ·rintro⟨o,c,p,a,b,rfl⟩;show#[o,c,Kn.mpr #[p,LX.mpr #[Ky.mpr a,Ld b],rfl]]
def jw {bs:J2 Ki}{u:Wd}{o:J2 Kb}{p:Kb}:gU bs u (o++[p])=aV bs u o p:=by
 unfold gU;rw[Qb,List.getLastD_concat]
def fZ {n:Kb}{o:J2 Kb}{p:Kb}:Ord n (o++[p])↔Ord n o/\p<n/\p∉o:=by
 constructor
 ·rintro⟨nd,lt⟩;rw[MJ]at nd;show#[#[nd.1,λq c=>lt q (Lo _ c)],lt p (by simp),λz=>nd.2.2 p z p (by simp) rfl]
 ·rintro⟨⟨nd,lt⟩,d,f⟩;show#[MJ.mpr #[nd,by simp,λa g b h e=>?_],λq c=>?_]
  ·rw[KA.mp h]at e;show f (e▸g)
  ·rcases La.mp c with z|z
   ·show lt q z
   ·rw[KA.mp z];show d
def zD {n:Kb}{o:J2 Kb}(h:Ord n o)(hl:↥o<n):∃p,p<n/\p∉o:=by
 by_cases z:∃p,p<n/\p∉o
 ·show z
 ·have b:=cw (Kj n) o Nj λp c=>by
   by_cases a:p∈o
   ·show a
   ·show absurd #[p,Ky.mp c,a] z
  rw[KL]at b;omega
def HD (u v:Wd):(fK (ce u) (ce v)).isSome=true:=by
 have:=gA [u,v];unfold eO at this;rw[KD]at this;have:=this (ce u) (by simp)
 rw[KD]at this;show this (ce v) (by simp)
def Fb {u v:Wd}(h:fK (ce u) (ce v)≠gV true):fK (ce u) (ce v)=gV false:=by
 obtain⟨b,a⟩:=Lz.mp (HD u v);cases b with
 |false=>show a
 |true=>show absurd a h
structure GrOk (bs:J2 Ki)(u:Wd)(k:Kb):Prop where
 mem:∀o,o∈vP bs u k↔Ord ↥u o/\↥o=k/\ae bs u o=zB bs u k
 least:∀o,Ord ↥u o->↥o=k->fK (ce (ae bs u o)) (ce (zB bs u k))=gV false
 ne:vP bs u k≠[]
 len:(zB bs u k).length=k
def uC {k:Kb}{o:J2 Kb}(h:↥o=k+1):∃b p,o=b++[p]/\↥b=k:=by
 have a:o≠[]:=λz=>by rw[z]at h;cases h
 show#[o.dropLast,o.getLast a,(List.dropLast_concat_getLast a).symm,by rw[Oj];omega]
def qK {bs:J2 Ki}{u:Wd}:∀k,k<=↥u->GrOk bs u k
 |0,_=>by
  show#[λo=>?_,λo _ hl=>?_,Ru _ _,rfl]
  ·rw[vP,KA];show#[λh=>by subst h;show#[#[.nil,λp l=>nomatch l],rfl,rfl],λh=>MG h.2.1]
  ·rw[MG hl];rfl
 |k+1,hk=>by
  have ih:=qK (bs:=bs) (u:=u) k ∅
  have r:bU ↥u (vP bs u k)≠[]:=by
   obtain⟨o,f⟩:=OQ _ ih.ne;obtain⟨a,b,_⟩:=(ih.mem o).mp f;obtain⟨p,l,c⟩:=zD a ∅
   show QL (iY.mpr #[o,f,p,l,c,rfl])
  obtain⟨_,b2,s⟩:=vR (ps:=(bU ↥u (vP bs u k)).map (gU bs u)) (by simpa using r)
  have m:zB bs u (k+1)=zB bs u k++[gW ((bU ↥u (vP bs u k)).map (gU bs u))]:=rfl;have n:vP bs u (k+1)=(bU ↥u (vP bs u k)).filter λo=>decide (gU bs u o=gW ((bU ↥u (vP bs u k)).map (gU bs u))):=rfl
  generalize gW ((bU ↥u (vP bs u k)).map (gU bs u))=best at b2 s m n;show#[λo=>?_,λo w hl=>?_,?_,by rw[m,Kh,ih.len];rfl]
  ·rw[n,LX,m];constructor
   ·rintro⟨a,b⟩;obtain⟨o,f,p,l,c,rfl⟩:=iY.mp a;obtain⟨d,g,i⟩:=(ih.mem o).mp f;have b:=Lr b;rw[jw]at b;show#[fZ.mpr #[d,l,c],by rw[Kh,g];rfl,by rw[aZ,i,b]]
   ·rintro⟨a,b,j⟩;obtain⟨o,p,rfl,hl⟩:=uC b;obtain⟨d,g,i⟩:=fZ.mp a;rw[aZ]at j;obtain⟨t,v⟩:=PM j (by rw[aA,ih.len,hl])
    show#[iY.mpr #[o,(ih.mem o).mpr #[d,hl,t],p,g,i,rfl],Ld ?_];rw[jw];show List.singleton_inj.mp v
  ·obtain⟨o,p,rfl,q⟩:=uC hl;clear hl;have hl:=q;obtain⟨d,g,i⟩:=fZ.mp w;show Fb λz=>?_
   rw[aZ,m]at z;have z:cF ((ae bs u o++[aV bs u o p]).map gT) ((zB bs u k++[best]).map gT)=gV true:=z;rw[KN,KN]at z
   by_cases e:ae bs u o=zB bs u k
   ·rw[e,qJ]at z;have:=Fa (zC _) z;rw[s _ (Kn.mpr #[o++[p],iY.mpr #[o,(ih.mem o).mpr #[d,hl,e],p,g,i,rfl],jw])]at this;cases this
   ·have a:=rJ (ce (zB bs u k)) (ce (ae bs u o)) (oB _) (λh=>e (eh h).symm) (ih.least o d hl)
    have a:cF ((zB bs u k).map gT) ((ae bs u o).map gT)=gV true:=a;have b:=qI (as:=[best].map gT) (bs:=[aV bs u o p].map gT) (by rw[J4,J4,aA,ih.len,hl]) a
    have j:=nO _ _ (by rw[<- KN];show jY _) b
    rw[z]at j;cases j
  ·obtain⟨o,f,e⟩:=Kn.mp b2;rw[n];show QL (LX.mpr #[f,Ld e])
abbrev lw (bs:J2 Ki)(u:Wd):Wd:=zB bs u ↥u
def lA {bs:J2 Ki}{u:Wd}:∃o,Ord ↥u o/\↥o=↥u/\ae bs u o=lw bs u:=by
 have h:=qK (bs:=bs) (u:=u) ↥u (Kl _);obtain⟨o,a⟩:=OQ _ h.ne;show#[o,(h.mem o).mp a]
def gD {bs:J2 Ki}{u:Wd}{o:J2 Kb}{i:Kb}(hi:i<↥o):(ae bs u o).getD i (0,[])=((u.getD (o.getD i 0) (0,[])).1,(o.take i).map λj=>aY bs u (o.getD i 0) j):=by
 unfold ae;rw[Kk,Kg,LO hi];rfl
def qL {bs:J2 Ki}{u:Wd}{o:J2 Kb}{i j:Kb}(hi:i<↥o)(a:j<i):((ae bs u o).getD i (0,[])).2.getD j 0=aY bs u (o.getD i 0) (o.getD j 0):=by
 rw[gD hi];dsimp only;rw[Kk,Kg,O0 a,ap (d:=0) (show j<↥o by omega)];rfl
def zE {bs:J2 Ki}{a:Kb}{u:Wd}{o:J2 Kb}{i j:Kb}(q:GoodB bs)(l:GoodW a ↥bs u)(c:Ord ↥u o)(hi:i<↥o)(g:j<↥o)(f:i≠j):aY bs (ae bs u o) i j=aY bs u (o.getD i 0) (o.getD j 0):=by
 have m:=ap (d:=0) hi;have n:=ap (d:=0) g;have r:=c.lt _ (Kt m);have s:=c.lt _ (Kt n);have ne:o.getD i 0≠o.getD j 0:=λe=>by
  have p:o[i]=o.getD i 0:=by simp[hi]
  have b:o[j]=o.getD j 0:=by simp[g]
  show f ((L1 c.nd).mp (by rw[p,b,e]))
 by_cases h:j<i
 ·have:aY bs (ae bs u o) i j=((ae bs u o).getD i (0,[])).2.getD j 0:=by unfold aY;rw[KC h]
  rw[this,qL hi h]
 ·have:aY bs (ae bs u o) i j=bs.getD (((ae bs u o).getD j (0,[])).2.getD i 0).toNat 0:=by unfold aY;rw[KS h]
  rw[this,qL g ∅]
  generalize o.getD i 0=x at *
  generalize o.getD j 0=y at *
  unfold aY
  by_cases b:x<y
  ·rw[KC b,KS ∅]
  ·rw[KS b,KC ∅]
   have k:=ap (d:=(0,[])) r;have hw:y<(u.getD x (0,[])).2.length:=by rw[l.len x _ k];omega
   obtain⟨t,v⟩:=l.way x _ k _ (Kt (ap (d:=0) hw));have:=q.inv ((u.getD x (0,[])).2.getD y 0).toNat ∅
   rw[this];omega
def bA {bs:J2 Ki}{a:Kb}{u:Wd}{o p:J2 Kb}(w:GoodB bs)(z:GoodW a ↥bs u)(t:Ord ↥u o)(g:Ord ↥o p):ae bs (ae bs u o) p=ae bs u (p.map λi=>o.getD i 0):=by
 show Mu (by rw[aA,aA,J4]) λk b r=>?_
 rw[aA]at b;have h:=gD (bs:=bs) (u:=ae bs u o) (o:=p) b;have l:=gD (bs:=bs) (u:=u) (o:=p.map λi=>o.getD i 0) (i:=k) (by rw[J4];show b)
 have hk:p.getD k 0<↥o:=g.lt _ (Kt (ap (d:=0) b));have q:(p.map λi=>o.getD i 0).getD k 0=o.getD (p.getD k 0) 0:=by
  rw[Kk,Kg,ap (d:=0) b];rfl
 rw[q]at l;rw[gD hk]at h;have f:∀(v:Wd) (n:k<↥v),v[k]=v.getD k (0,[]):=λv n=>by simp[n]
 rw[f _ (by rw[aA];show b),f _ r,h,l]
 congr 1;rw[<- MD,K6];show Le λj x=>?_
 obtain⟨m,y,rfl⟩:=LS.mp x;rw[KY]at y;rw[Mm];have c:p[m]=p.getD m 0:=by simp[show m<↥p by omega]
 rw[c];show zE w z t hk (g.lt _ (Kt (ap (d:=0) (show m<↥p by omega)))) λe=>?_
 have s:p[k]=p.getD k 0:=by simp[b]
 have:=(L1 g.nd).mp (s.trans (e.trans c.symm));omega
def dz {n:Kb}{o:J2 Kb}(h:Ord n o)(hl:↥o=n){p:Kb}(b:p<n):p∈o:=by
 by_cases z:p∈o
 ·show z
 ·have:=(fZ (n:=n) (o:=o) (p:=p)).mpr #[h,b,z];have a:=cw (o++[p]) (Kj n) this.nd λq c=>Ky.mpr (this.lt q c)
  rw[Kh,KL,Lj]at a;omega
def qM {n:Kb}{o p:J2 Kb}(h:Ord n o)(c:Ord ↥o p):Ord n (p.map λi=>o.getD i 0):=by
 have g:∀i,i<↥o->o[i]?=gV (o.getD i 0):=λi hi=>ap hi
 show#[?_,λq s=>?_]
 ·rw[L9,M6];show c.nd.imp_of_mem λ{a b} m r d e=>d ?_
  have k:=c.lt a m;have l:=c.lt b r;have f:o[a]=o.getD a 0:=by simp[k]
  have j:o[b]=o.getD b 0:=by simp[l]
  show(L1 h.nd).mp (by rw[f,j,e])
 ·obtain⟨i,hi,rfl⟩:=Kn.mp s;show h.lt _ (Kt (g i (c.lt i hi)))
def lB {bs:J2 Ki}{a:Kb}{u:Wd}{o:J2 Kb}(n:GoodB bs)(r:GoodW a ↥bs u)(b:Ord ↥u o)(hl:↥o=↥u):lw bs (ae bs u o)=lw bs u:=by
 have l:(ae bs u o).length=↥u:=by rw[aA,hl]
 obtain⟨p,k,p2,A⟩:=lA (bs:=bs) (u:=ae bs u o);obtain⟨q,g,B,C⟩:=lA (bs:=bs) (u:=u);rw[l]at k p2;have m1:=λo c d=>(qK (bs:=bs) (u:=u) _ (Kl _)).least o c d
 have m2:=λz c d=>(qK (bs:=bs) (u:=ae bs u o) _ (Kl _)).least z c d
 show eh (uB (oB _) ?_ ?_)
 ·rw[<- A,bA n r b (by rw[hl];show k)]
  show m1 _ (qM b (by rw[hl];show k)) (by rw[J4,p2])
 ·have e:q=(q.map λx=>o.idxOf x).map λi=>o.getD i 0:=by
   rw[K6]
   conv=>lhs;rw[<- RA q]
   show Le λx f=>?_
   have v:=dz b hl (g.lt x f);have h:=LG v;change x=o.getD (o.idxOf x) 0;rw[Kk,Ke h,MV];rfl
  have m:Ord ↥o (q.map λx=>o.idxOf x):=by
   show#[?_,λi hi=>?_]
   ·rw[L9,M6];show g.nd.imp_of_mem λ{x y} f w j e=>j ?_
    have c:=LG (dz b hl (g.lt x f));have d:=LG (dz b hl (g.lt y w));have s:=MV c;have t:=MV d;rw[<- s,<- t];congr 1
   ·obtain⟨x,f,rfl⟩:=Kn.mp hi;show LG (dz b hl (g.lt x f))
  rw[<- C,e,<- bA n r b m];show m2 _ (by rw[l,<- hl];show m) (by rw[J4,l,B])
def eS {n:Kb}{x:Ki}(h:x∈fB n):0<=x/\x<n:=by
 obtain⟨k,hk,rfl⟩:=Kn.mp h;have:=Ky.mp hk;omega
def lC {a n:Kb}{u:Wd}(h:u∈qp a n):GoodW a n u/\↥u=3:=by
 unfold qp at h;simp only[Mf,Kn]at h;obtain⟨m0,e,m1,f,m2,g,k,b,w2,c,w3,d,rfl⟩:=h;show#[?_,rfl];have i:GoodW a n ([]++[(m0,[])]):=GoodW.nil.snoc (eS e) rfl (λw hw=>nomatch hw)
 have j:GoodW a n ([(m0,[])]++[(m1,[k])]):=i.snoc (eS f) rfl (λw hw=>by rw[KA.mp hw];show eS b)
 show j.snoc (eS g) rfl (λw hw=>by
  simp only[KH,Lg,Mh]at hw;rcases hw with rfl|rfl
  ·show eS c
  ·show eS d)
def mX {a:Kb}{bs:J2 Ki}{g:Wd}(c:GoodB bs)(h:g∈aS a bs):GoodW a ↥bs g/\↥g=3:=by
 unfold aS at h;rw[NZ]at h;obtain⟨u,k,rfl⟩:=Kn.mp h;obtain⟨b,o⟩:=lC k;unfold cG;have f:g6 ((am.map (ae bs u)).map ce)<(am.map (ae bs u)).length:=by
  unfold g6;show QK (cO _ _) ?_;rw[J4,J4];decide
 have:=Kt (ap (d:=[]) f);obtain⟨t,j,e⟩:=Kn.mp this;rw[<- e];have tk:∀t∈am,↥t=3/\t.Nodup/\∀p∈t,p<3:=by decide
 obtain⟨l,m,n⟩:=tk t j;show#[cU c b (λp i=>by have:=n p i;omega) m,by rw[aA];show l]
def bT {t:J2 Kb}:t∈am↔Ord 3 t/\↥t=3:=by
 constructor
 ·intro h;have:∀t∈am,t.Nodup/\(∀p∈t,p<3)/\↥t=3:=by decide
  obtain⟨a,b,c⟩:=this t h;show#[#[a,b],c]
 ·intro h;have a:=oE.mpr h;have:∀t∈zA 3,t∈am:=by decide
  show this t a
def sr {bs:J2 Ki}{u:Wd}:∃t∈am,cG bs u=ae bs u t/\∀s∈am,fK (ce (ae bs u s)) (ce (cG bs u))=gV false:=by
 obtain⟨x,a,h,c⟩:=lv (ks:=(am.map (ae bs u)).map ce) (λx g=>by obtain⟨p,_,rfl⟩:=Kn.mp g;show oB p) (gA _) (by simp[am])
 rw[Kg,J6]at a;obtain⟨v,b,rfl⟩:=a;have e:cG bs u=v:=by unfold cG;rw[Kk,b];rfl
 rw[e];obtain⟨t,f,rfl⟩:=Kn.mp (Kt b);show#[t,f,rfl,λs d=>c _ (Kn.mpr #[_,Kn.mpr #[s,d,rfl],rfl])]
def gE {bs:J2 Ki}{u:Wd}(h:↥u=3):cG bs u=lw bs u:=by
 obtain⟨t,a,e,i⟩:=sr (bs:=bs) (u:=u);obtain⟨o,d,f,g⟩:=lA (bs:=bs) (u:=u);have hl:∀t∈am,fK (ce (ae bs u t)) (ce (lw bs u))=gV false:=λt a=>by
  obtain⟨b,c⟩:=bT.mp a;rw[<- h]at b c;show(qK (bs:=bs) (u:=u) ↥u (Kl _)).least t b c
 show eh (uB (oB _) ?_ ?_)
 ·rw[e];show hl t a
 ·rw[<- g];rw[h]at d f;show i o (bT.mpr #[d,f])
def Fc {bs:J2 Ki}{a:Kb}{l:J2 Wd}{w:Wd}(m:GoodB bs)(n:∀g∈l,g∈aS a bs)(hw:GoodW a ↥bs w)(v:↥w=3):cG bs w∈l↔w∈aW bs l:=by
 unfold aW;rw[Mf];have r:∀(u:Wd) (t:J2 Kb),GoodW a ↥bs u->↥u=3->t∈am->cG bs (ae bs u t)=cG bs u:=λu t o hl b=>by
  obtain⟨q,j⟩:=bT.mp b;rw[gE hl,gE (by rw[aA,j]),lB m o (by rw[hl];show q) (by rw[j,hl])]
 constructor
 ·intro h;obtain⟨t,b,e,_⟩:=sr (bs:=bs) (u:=w);obtain⟨q,j⟩:=bT.mp b;have inv:∀t∈am,∃s∈am,(s.map λi=>t.getD i 0)=[0,1,2]:=by decide
  obtain⟨s,f,es⟩:=inv t b;show#[_,h,Kn.mpr #[s,f,?_]];have:=bA (p:=s) m hw (by rw[v];show q) (by rw[j];show(bT.mp f).1)
  rw[e,this,es];have B:[0,1,2]=Kj ↥w:=by rw[v];rfl
  rw[B];have self:∀k,k<=↥w->ae bs w (Kj k)=w.take k:=λk=>by
   induction k with
   |zero=>intro _;simp[ae]
   |succ k ih=>
    intro hk;rw[Nq,aZ,ih ∅,mV hw ∅,K7,ap (d:=(0,[])) ∅];rfl
  rw[self _ (Kl _),Li]
 ·rintro⟨g,x,h⟩;obtain⟨t,b,rfl⟩:=Kn.mp h;have c:=n g x;obtain⟨z,y⟩:=mX m c;rw[r g t z y b];unfold aS at c;rw[NZ]at c;obtain⟨u,o,e⟩:=Kn.mp c;obtain⟨A,C⟩:=lC o;obtain⟨s,f,es,_⟩:=sr (bs:=bs) (u:=u);have:cG bs g=g:=by
   rw[<- e]
   conv=>lhs;rw[es]
   rw[r u s A C f]
  rw[this];show x
structure GoodP (a n k:Kb)(p:Pt):Prop where
 mark:0<=p.1/\p.1<a
 len:↥p.2=k
 way:∀w∈p.2,0<=w/\w<(n:Ki)
def Std.last {U:J2 (T×W)}{u:Wd}(h:Std U u):Std U u.dropLast/\ff U u.dropLast ↥u.dropLast (u.getD (↥u-1) (0,[]))=true:=by
 have e:∀p,p<↥u-1->u.dropLast.getD p (0,[])=u.getD p (0,[]):=λp b=>by
  rw[Kk,Kk,List.getElem?_dropLast,KC b]
 show#[λk hk j a i hi=>?_,eu.mpr λj a i hi=>?_]
 ·rw[Oj]at hk;have:=h k ∅ j a i hi
  unfold jv eI at this ⊢;rw[e i ∅,e j ∅,e k hk]
  show this
 ·rw[Oj]at a;have:=h (↥u-1) ∅ j a i hi
  unfold jv eI at this;unfold fw;rw[e i ∅,e j ∅]
  show this
abbrev Ck (u:Wd)(one a:Pt)(b:Ki)(p:Kb):Wd:=[((u.getD p (0,[])).1,[]),(one.1,[one.2.getD p 0]),(a.1,[a.2.getD p 0,b])]
abbrev Dh (one a:Pt)(s:Kb):KR:=(one.1==a.1)&&(Kj s).all λp=>one.2.getD p 0==a.2.getD p 0
abbrev eT (p:Pt)(ps:J2 Kb):Pt:=(p.1,ps.map λk=>p.2.getD k 0)
def vS {a n s:Kb}{p:Pt}{ps:J2 Kb}(h:GoodP a n s p)(b:∀k∈ps,k<s):GoodP a n ↥ps (eT p ps):=by
 show#[h.mark,by unfold eT;rw[J4],λw hw=>?_]
 unfold eT at hw;obtain⟨k,hk,rfl⟩:=Kn.mp hw;show h.way _ (Kt (ap (d:=0) (by rw[h.len];show b k hk)))
abbrev bB:Ss:=
 #v[.set 2 (.bi .list #v[.v 1]),.set 3 (.lst .nil),.whl (.cmp .ne (.v 2) (.lst .nil)) #v[.ex (.me .append (.v 3) #v[.me .pop (.v 2) #v[.own "_law_pick" 2 #v[.v 0,.bi .len #v[.v 2]]]])],.ret (.v 3)]
def Fd {S:aa}{i j:Kb}{c:KR}(h:fE S 20 (.ref i) (.ref j)=gV c):bh .ne (.ref i) (.ref j) S=gV (.bl (!c),S):=by
 revert bh cD rB h KM
def HE {S:aa}{i j:Kb}{xs:J2 W}(a:S[i]?=gV (.lst xs))(b:S[j]?=gV (.lst [])):bh .ne (.ref i) (.ref j) S=gV (.bl (!xs.isEmpty),S):=by
 show Fd ?_;simp only[fE,cV a,cV b];cases xs with
 |nil=>rfl
 |cons x xs=>rfl
abbrev bd (U:J2 (T×W))(w:Wd):KR:=(bC U (ce w)).isSome
abbrev Cl (bs:J2 Ki)(U:J2 (T×W)):Prop:=∀(w:Wd) (t:J2 Kb),t∈am->bd U w=true->bd U (ae bs w t)=true
def Di {bs:J2 Ki}{a:Kb}{d:J2 Wd}{U:J2 (T×W)}(n:GoodB bs)(c:∀g∈d,GoodW a ↥bs g/\↥g=3)(h:HasD U (aW bs d)):Cl bs U:=by
 intro w t k hw;unfold bd at hw ⊢;rw[h.get,KP]at hw ⊢;obtain⟨q,b,e⟩:=Kn.mp hw;have e:=eh e;subst e;show Kn.mpr #[_,?_,rfl];unfold aW at b ⊢;obtain⟨g,f,h⟩:=Mf.mp b;obtain⟨s,j,rfl⟩:=Kn.mp h;obtain⟨m,l⟩:=c g f;obtain⟨o,p⟩:=bT.mp j;show Mf.mpr #[g,f,?_];rw[bA n m (by rw[l];show o) (by rw[p];show(bT.mp k).1)]
 have:∀s∈am,∀t∈am,(t.map λi=>s.getD i 0)∈am:=by decide
 show Kn.mpr #[_,this s j t k,rfl]
def mY {bs:J2 Ki}{u:Wd}{i j k:Kb}(a:i<j)(b:j<k):eI u i j k=ae bs u [i,j,k]:=by
 have c:aY bs u j i=(u.getD j (0,[])).2.getD i 0:=by unfold aY;rw[KC a]
 have d:aY bs u k i=(u.getD k (0,[])).2.getD i 0:=by unfold aY;rw[KC (MB a b)]
 have e:aY bs u k j=(u.getD k (0,[])).2.getD j 0:=by unfold aY;rw[KC b]
 change _=[((u.getD i (0,[])).1,[]),((u.getD j (0,[])).1,[aY bs u j i]),((u.getD k (0,[])).1,[aY bs u k i,aY bs u k j])];rw[c,d,e];rfl
def Cm {bs:J2 Ki}{a:Kb}{U:J2 (T×W)}{u:Wd}{x y z:Kb}(r:GoodB bs)(q:Cl bs U)(w:GoodW a ↥bs u)(s:Std U u)(f:Ord ↥u [x,y,z]):bd U (ae bs u [x,y,z])=false:=by
 rw[Nx];intro h;have go:∀(i j k:Kb) (t:J2 Kb),t∈am->(t.map λi=>[x,y,z].getD i 0)=[i,j,k]->i<j->j<k->k<↥u->LM:=λi j k t l e d b c=>by
  have:=q _ t l h;rw[bA r w f (bT.mp l).1,e,<- mY d b]at this;have g:=s k c j b i d;unfold jv at g;unfold bd at this;rw[this]at g;cases g
 have m:=f.lt x (by simp)
 have n:=f.lt y (by simp)
 have o:=f.lt z (by simp)
 have nd:=f.nd;simp only[Mo,KH,Lg,Mh,P8]at nd;obtain⟨⟨A,p⟩,n3,_⟩:=nd;rcases No A with d|d
 ·rcases No n3 with b|b
  ·show go x y z [0,1,2] #v[] rfl d b o
  ·rcases No p with c|c
   ·show go x z y [0,2,1] #v[] rfl c b n
   ·show go z x y [2,0,1] #v[] rfl c d n
 ·rcases No p with b|b
  ·show go y x z [1,0,2] #v[] rfl d b o
  ·rcases No n3 with c|c
   ·show go y z x [1,2,0] #v[] rfl c b m
   ·show go z y x [2,1,0] #v[] rfl c d m
def sy {ps:J2 Kb}(h:ps.Nodup){i j:Kb}(hi:i<↥ps)(a:j<↥ps)(e:ps.getD i 0=ps.getD j 0):i=j:=by
 rw[Kk,Kk,Ke hi,Ke a]at e;show(L1 h).mp e
def Std.part {bs:J2 Ki}{a:Kb}{U:J2 (T×W)}{u:Wd}{ps:J2 Kb}(g:GoodB bs)(l:Cl bs U)(h:GoodW a ↥bs u)(r:Std U u)(b:Ord ↥u ps):Std U (ae bs u ps):=by
 intro k hk j o i hi;rw[aA]at hk;have f:Ord ↥ps [i,j,k]:=#[by revert Mo KH Lg Mh P8;show#[#[∅,∅],∅,by simp],λp c=>by
  simp only[KH,Lg,Mh]at c;rcases c with rfl|rfl|rfl<;>omega]
 change bd U (eI (ae bs u ps) i j k)=false;rw[mY (bs:=bs) hi o,bA g h b f];have n:∀m,m<↥ps->ps.getD m 0∈ps:=λm q=>Kt (ap (d:=0) q)
 show Cm g l h r #[?_,λp c=>?_]
 ·revert Mo KH Lg Mh P8;show#[#[λe=>by have:=sy b.nd ∅ ∅ e;omega,λe=>by have:=sy b.nd ∅ ∅ e;omega],λe=>by have:=sy b.nd ∅ ∅ e;omega,by simp]
 ·simp only[KH,Lg,Mh]at c;rcases c with rfl|rfl|rfl<;>show b.lt _ (n _ ∅)
def Std.both {U:J2 (T×W)}{u:Wd}{p:Pt}:Std U (u++[p])↔Std U u/\ff U u ↥u p=true:=by
 constructor
 ·intro h;have:=h.last;rw[Qb,Kh,Lj,QG,cR]at this;show this
 ·rintro⟨a,b⟩;show a.snoc (m:=p.1) (to:=p.2) (eu.mp b)
def qN {bs:J2 Ki}{u:Wd}{p:Pt}{ps:J2 Kb}(h:∀k∈ps,k<↥u):ae bs (u++[p]) ps=ae bs u ps:=by
 unfold ae;show Le λk hk=>?_
 have hk:=Ky.mp hk;have a:=h _ (Kt (ap (d:=0) hk));rw[aM a];congr 1;show Le λj c=>?_
 have b:=h j (LW c);unfold aY;rw[aM a,aM b]
def mZ {bs:J2 Ki}{u:Wd}{p:Pt}{ps:J2 Kb}(h:∀k∈ps,k<↥u):ae bs (u++[p]) (ps++[↥u])=ae bs u ps++[eT p ps]:=by
 rw[aZ,qN h];congr 2;unfold aV eT;rw[cR];congr 1;show Le λj a=>?_
 unfold aY;rw[KC (h j a),cR]
structure Cf (a n:Kb)(U:J2 (T×W))(u:Wd)(p q:Pt):Prop where
 gu:GoodW a n u
 su:Std U u
 gp:GoodP a n ↥u p
 mp:ff U u ↥u p=true
 gq:GoodP a n ↥u q
 mq:ff U u ↥u q=true
def GoodP.snoc {a n:Kb}{u:Wd}{p:Pt}(b:GoodW a n u)(h:GoodP a n ↥u p):GoodW a n (u++[p]):=b.snoc (m:=p.1) (ws:=p.2) h.mark h.len h.way
def uD {n:Kb}{ps:J2 Kb}(h:Ord n ps):Ord (n+1) (ps++[n]):=#[by
 rw[MJ];show#[h.nd,by simp,λx c y d e=>by
  rw[KA.mp d]at e;have:=h.lt x c;omega],λp b=>by
 rcases La.mp b with a|a
 ·have:=h.lt p a;omega
 ·rw[KA.mp a];omega]
abbrev oF (U:J2 (T×W))(bs:J2 Ki)(u:Wd)(p q:Pt)(i:Kb):KR:=if i<↥bs then(Kj ↥u).any λk=>bd U (Ck u p q (bs.getD i 0) k)else !Dh p q ↥u
abbrev Jw (U:J2 (T×W))(bs:J2 Ki)(c:Kb)(u:Wd)(p q:Pt):Prop:=∀i<c,oF U bs u p q i=true
def Cn {U:J2 (T×W)}{bs:J2 Ki}{u:Wd}{p q:Pt}{i:Kb}(hi:i<↥bs):oF U bs u p q i=true↔∃k<↥u,bd U (Ck u p q (bs.getD i 0) k)=true:=by
 unfold oF;rw[KC hi,MQ];show#[λ#[k,h1,h2]=>#[k,Ky.mp h1,h2],λ#[k,h1,h2]=>#[k,Ky.mpr h1,h2]]
abbrev Fe (U:J2 (T×W))(v:Wd)(n:Kb)(p:Pt):J2 Pt:=((Kj n).map λ(w:Kb)=>(p.1,p.2++[(w:Ki)])).filter λh=>ii U (v++[h])
def zF {U:J2 (T×W)}{u:Wd}{x p h:Pt}{n:Kb}:h∈Fe U (u++[x]) n p↔∃w:Kb,w<n/\h=(p.1,p.2++[(w:Ki)])/\∀i<↥u,fw U (u++[x]) h i ↥u=false:=by
 have b:(u++[x]).length=↥u+1:=by rw[Kh];rfl
 have a:∀h:Pt,ii U (u++[x]++[h])=true↔∀i<↥u,fw U (u++[x]) h i ↥u=false:=λh=>by
  rw[lu (s:=↥u) (by rw[Kh,b];rfl)]
  constructor<;>intro z i hi
  ·have:=z i hi;rw[<- b,qG hi ∅]at this;show this
  ·rw[<- b,qG hi ∅];show z i hi
 unfold Fe;rw[LX,a,Kn];show#[λ#[#[w,hw,e],z]=>#[w,Ky.mp hw,e.symm,z],λ#[w,hw,e,z]=>#[#[w,Ky.mpr hw,e.symm],z]]
def HF {U:J2 (T×W)}{u:Wd}{x p h:Pt}{a n:Kb}(c:GoodP a n ↥u p)(m:ff U u ↥u p=true)(j:h∈Fe U (u++[x]) n p):GoodP a n (u++[x]).length h/\ff U (u++[x]) (u++[x]).length h=true:=by
 have l:(u++[x]).length=↥u+1:=by rw[Kh];rfl
 obtain⟨w,hw,rfl,g⟩:=zF.mp j;have f:=c.len;show#[#[c.mark,?_,λz k=>?_],eu.mpr λq o i hi=>?_]
 ·rw[l,Kh,f];rfl
 ·rcases La.mp k with d|d
  ·show c.way z d
  ·rw[KA.mp d];omega
 ·by_cases e:q=↥u
  ·subst e;show g i hi
  ·have b:q<↥u:=∅
   have:=eu.mp m q b i hi;unfold fw at this ⊢;dsimp only;rw[aM (MB hi b),aM b,ik ∅,ik ∅]
   show this
abbrev wc (a:Kb)(bs:J2 Ki)(U:J2 (T×W))(c:Kb):Prop:=∃Uz P Q,Cf a ↥bs U Uz P Q/\Jw U bs c Uz P Q
def lD {bs:J2 Ki}{a n:Kb}{u:Wd}(b:GoodW a n u):∀k,k<=↥u->ae bs u (Kj k)=u.take k
 |0,_=>rfl
 |k+1,hk=>by
  rw[Nq,aZ,lD b k ∅,mV b ∅,K7,Ke ∅]
  simp[Kk,Ke (show k<↥u by omega)]
def iZ {bs:J2 Ki}{a n:Kb}{u:Wd}(b:GoodW a n u):ae bs u (Kj ↥u)=u:=by
 rw[lD b _ (Kl _),Li]
def jx {n k:Kb}(h:k<=n):Ord n (Kj k):=#[Nj,λp a=>Kw (Ky.mp a) h]
abbrev dY (n:Kb)(ps:J2 Kb):J2 Kb:=(Kj n).map λk=>ps.idxOf k
def oG {n:Kb}{ps:J2 Kb}(h:Ord n ps)(hl:↥ps=n):Ord n (dY n ps)/\(dY n ps).length=n/\((dY n ps).map λi=>ps.getD i 0)=Kj n:=by
 have mem:∀k,k<n->k∈ps:=λk hk=>dz h hl hk
 have lt:∀k,k<n->ps.idxOf k<n:=λk hk=>by rw[<- hl];show LG (mem k hk)
 have a:∀k,k<n->ps.getD (ps.idxOf k) 0=k:=λk hk=>by
  have:=LG (mem k hk);rw[Kk,Ke this,MP,MV]
 show#[#[?_,λp c=>?_],by unfold dY;rw[J4,KL],?_]
 ·unfold dY;rw[L9,M6];show Sy (λ{x y} d f b e=>?_) (List.pairwise_lt_range (n:=n))
  have:=congrArg (λi=>ps.getD i 0) e
  rw[a x (Ky.mp d),a y (Ky.mp f)]at this;omega
 ·obtain⟨k,hk,rfl⟩:=Kn.mp c;show lt k (Ky.mp hk)
 ·unfold dY;rw[K6];have:(Kj n).map ((λi=>ps.getD i 0)∘λk=>ps.idxOf k)=(Kj n).map id:=Le λk hk=>a k (Ky.mp hk)
  rw[this,RA]
abbrev oH (n:Kb)(ps:J2 Kb)(p:Pt):Pt:=eT p (dY n ps)
section
variable{a:Kb}{bs:J2 Ki}{U:J2 (T×W)}{w:Wd}{ps:J2 Kb}{p:Pt}
def Ff (d:GoodB bs)(j:Cl bs U)(hw:GoodW a ↥bs w)(z:Std U w)(b:Ord ↥w ps)(hl:↥ps=↥w)(q:GoodP a ↥bs ↥ps p)(B:ff U (ae bs w ps) ↥ps p=true) :
  GoodP a ↥bs ↥w (oH ↥w ps p)/\Std U (w++[oH ↥w ps p])/\eT (oH ↥w ps p) ps=p:=by
 obtain⟨i1,t,A⟩:=oG b hl;have i:(ae bs w ps).length=↥ps:=aA ..;have y:GoodW a ↥bs (ae bs w ps):=cU d hw b.lt b.nd;have c:GoodP a ↥bs (ae bs w ps).length p:=by rw[i];show q
 have C:Std U (ae bs w ps++[p]):=Std.both.mpr #[z.part d j hw b,by rw[i];show B]
 have h:Ord (ae bs w ps).length (dY ↥w ps):=by rw[i,hl];show i1
 have v:ae bs (ae bs w ps) (dY ↥w ps)=w:=by rw[bA d hw b (by rw[hl];show i1),A,iZ hw]
 have u:=C.part d j (c.snoc y) (ps:=dY ↥w ps++[(ae bs w ps).length]) (by rw[Kh];show uD h)
 rw[mZ h.lt,v]at u;have o:=vS (ps:=dY ↥w ps) c h.lt;rw[t]at o;show#[o,u,?_];have x:(ps.map λk=>(dY ↥w ps).getD k 0)=Kj ↥ps:=by
  show Mu (by simp) λk e r=>?_
  have hk:k<↥ps:=by simpa using e
  have g:ps[k]<↥w:=b.lt _ (Ll hk);have:(dY ↥w ps).getD ps[k] 0=ps.idxOf ps[k]:=by
   unfold dY;rw[Kk,Kg,LO g];rfl
  rw[NF,OJ,this];show b.nd.idxOf_getElem k hk
 obtain⟨m,l⟩:=p;have f:↥l=↥ps:=q.len;unfold oH eT;show congrArg (T5 m) ?_;show Mu (by simp[f]) λk e r=>?_
 have hk:k<↥ps:=by simpa using e
 rw[NF];have s:ps[k]<(dY ↥w ps).length:=by rw[t];show b.lt _ (Ll hk)
 rw[Kk,Kg,Ke s,KM,MP];have n:=congrArg (λL=>L[k]?) x
 rw[Kg,Ke hk,KM,LO hk,Kk,Ke s,MP]at n;rw[LJ n,Kk,Ke r,MP]
def zG {x:Pt}{v:Kb}{u:Wd}(d:GoodP a ↥bs ↥u p)(g:ff U u ↥u p=true)(f:v<↥bs)(h:ii U (u++[x]++[(p.1,p.2++[(v:Ki)])])=true) :
  GoodP a ↥bs (↥u+1) (p.1,p.2++[(v:Ki)])/\ff U (u++[x]) (↥u+1) (p.1,p.2++[(v:Ki)])=true:=by
 have e:(p.1,p.2++[(v:Ki)])∈Fe U (u++[x]) ↥bs p:=by
  unfold Fe;show LX.mpr #[Kn.mpr #[v,Ky.mpr f,rfl],h]
 obtain⟨b,c⟩:=HF d g e;rw[Kh,Lj]at b c;show#[b,c]
def zH {x:Pt}{u:Wd}(o:¬ wc a bs U (↥bs+1))(B:GoodB bs)(w:GoodW a ↥bs u)(I:Std U u)(r:GoodP a ↥bs ↥u x)(G:ff U u ↥u x=true)(f:GoodP a ↥bs ↥u p)(E:ff U u ↥u p=true)
  (h:∀v<↥bs,ii U (u++[x]++[(p.1,p.2++[(v:Ki)])])=false):x=p:=by
 have n:∀i<↥bs,oF U bs u x p i=true:=λi hi=>by
  obtain⟨b,l,m,C⟩:=B.rng i hi;have D:=h b.toNat ∅
  have s:¬ (p.1,p.2++[((b.toNat:Kb):Ki)])∈Fe U (u++[x]) ↥bs p:=λz=>by
   unfold Fe at z;have:=(LX.mp z).2;rw[D]at this;cases this
  rw[zF]at s;show(Cn hi).mpr ?_;show NJ λhc=>s #[b.toNat,∅,rfl,λk hk=>?_]
  rw[Nx];intro c;show hc #[k,hk,?_];rw[getD_some l];unfold fw at c;rw[aM hk,cR]at c;have d:(p.2++[((b.toNat:Kb):Ki)]).getD k 0=p.2.getD k 0:=ik (by rw[f.len];show hk)
  have j:(p.2++[((b.toNat:Kb):Ki)]).getD ↥u 0=b:=by
   rw[Kk,Lv (by rw[f.len];show Kl _),f.len,Oa]
   show Om m
  rw[d,j]at c;show c
 have q:Dh x p ↥u=true:=by
  cases e:Dh x p ↥u with
  |true=>rfl
  |false=>
   show absurd #[u,x,p,#[w,I,r,G,f,E],λi hi=>?_] o
   by_cases g:i<↥bs
   ·show n i g
   ·unfold oF;rw[KS g,e];rfl
 unfold Dh at q;rw[Kc,KD]at q;obtain⟨d,j⟩:=q;obtain⟨t,J⟩:=x;obtain⟨pm,H⟩:=p;have d:t=pm:=eq_of_beq d;subst d;have L:↥J=↥u:=r.len;have M:↥H=↥u:=f.len;show congrArg (T5 t) (Mu ∅ λk y A=>?_)
 have:=eq_of_beq (j k (Ky.mpr ∅))
 dsimp only at this;rw[Kk,Kk,Ke y,Ke A]at this;show this
structure SprF (a:Kb)(bs:J2 Ki)(U:J2 (T×W))(w:Wd)(ps0:J2 Kb)(p0:Pt)(ps:J2 Kb)(p:Pt):Prop where
 pre:∃t vs,ps=ps0++t/\p=(p0.1,p0.2++vs)
 ord:Ord ↥w ps
 gp:GoodP a ↥bs ↥ps p
 mp:ff U (ae bs w ps) ↥ps p=true
 fin:↥ps=↥w\/∃x,x<↥w/\x∉ps/\(∀y<x,y∈ps)/\aV bs w ps x=p
def zI {x:Kb}{t:J2 Kb}{vs:J2 Ki}{m:Ki}{l:J2 Ki}(hl:↥l=↥ps)(h:aV bs w (ps++t) x=(m,l++vs)):aV bs w ps x=(m,l):=by
 unfold aV at h ⊢;rw[KN,Nt]at h;obtain⟨a,b⟩:=h;rw[a,(PM b (by rw[J4,hl])).1]
def vT {t:J2 Kb}{vs:J2 Ki}{m:Ki}{l:J2 Ki}{q:Pt}(hl:↥l=↥ps)(h:eT q (ps++t)=(m,l++vs)):eT q ps=(m,l):=by
 unfold eT at h ⊢;rw[KN,Nt]at h;obtain⟨a,b⟩:=h;rw[a,(PM b (by rw[J4,hl])).1]
end
noncomputable abbrev Pl:=J2 (Kb×Kb)
abbrev D2 (L:Pl):J2 (Ki×W):=L.map λp=>(((p.1:Kb):Ki),W.int (p.2:Kb))
abbrev lE (L:Pl)(j:Kb):Kb:=(L.map (·.2)).getD ((L.map (·.1)).idxOf j) 0
def jZ (j:Kb):∀{L:Pl},dW (D2 L) (j:Ki)=if j∈L.map (·.1)then gV (W.int (lE L j:Kb))else td
 |[]=>rfl
 |p::L=>by
  have ih:=jZ j (L:=L);obtain⟨x,y⟩:=p
  by_cases e:x=j
  ·subst e;rw[KC (by simp)]
   simp[dW,D2,lE]
  ·have c:dW (D2 ((x,y)::L)) (j:Ki)=dW (D2 L) (j:Ki):=by
    have:¬ ((x:Ki)=(j:Ki)):=∅
    simp[dW,D2,this]
   have d:lE ((x,y)::L) j=lE L j:=by
    unfold lE;rw[Lb,Lb,RJ];have:(x==j)=false:=by simpa using e
    rw[this];rfl
   rw[c,ih,d];have b:j∈((x,y)::L).map (·.1)↔j∈L.map (·.1):=by
    rw[Lb,KH];show#[λh=>h.resolve_left λz=>e z.symm,.inr]
   by_cases a:j∈L.map (·.1)
   ·rw[KC a,KC (b.mpr a)]
   ·rw[KS a,KS λz=>a (b.mp z)]
def Co {L:Pl}{j p:Kb}(h:j∉L.map (·.1)):km (D2 L) (j:Ki) (W.int (p:Kb))=D2 (L++[(j,p)]):=by
 unfold km;have:((D2 L).any λq=>decide (q.1=(j:Ki)))=false:=by
  rw[N8];intro q a;obtain⟨x,b,rfl⟩:=Kn.mp a;have:x.1≠j:=λe=>h (e▸Kn.mpr #[x,b,rfl])
  revert KP;omega
 rw[this,KS KJ];unfold D2;rw[KN];rfl
structure LayI (a:Kb)(bs:J2 Ki)(U:J2 (T×W))(one other:Wd)(L0:Pl)(n:Kb)(w:Wd)(L:Pl):Prop where
 gw:GoodW a ↥bs w
 sw:Std U w
 ext:∃t,w=one++t
 op:Ord ↥w (L.map (·.2))
 oj:Ord ↥other (L.map (·.1))
 same:ae bs w (L.map (·.2))=ae bs other (L.map (·.1))
 pre:∃t,L=L0++t
 num:∀j<n,j∈L.map (·.1)
 new:∀x,↥one<=x->x<↥w->x∈L.map (·.2)
 all:(∀j<↥other,j∈L0.map (·.1))->w=one/\L=L0
section
variable{a:Kb}{bs:J2 Ki}{U:J2 (T×W)}{one other w:Wd}{L0 L:Pl}{n x:Kb}
def LayI.start (b:GoodW a ↥bs one)(c:Std U one)(d:Ord ↥one (L0.map (·.2)))(e:Ord ↥other (L0.map (·.1)))(f:ae bs one (L0.map (·.2))=ae bs other (L0.map (·.1))):LayI a bs U one other L0 0 one L0:=
 #[b,c,#[[],by simp],d,e,f,#[[],by simp],λj g=>∅,λx b c=>∅,λ_=>#[rfl,rfl]]
def LayI.skip (h:LayI a bs U one other L0 n w L)(b:n∈L.map (·.1)):LayI a bs U one other L0 (n+1) w L:=
 #[h.gw,h.sw,h.ext,h.op,h.oj,h.same,h.pre,λj c=>by
  by_cases e:j=n
  ·subst e;show b
  ·show h.num j ∅,h.new,h.all]
def dF {m:Kb}{ps:J2 Kb}{y:Kb}(h:Ord m ps)(b:y<m)(a:y∉ps):Ord m (ps++[y]):=fZ.mpr #[h,b,a]
def LayI.two (L:Pl)(j p:Kb):((L++[(j,p)]).map (·.1)=L.map (·.1)++[j])/\((L++[(j,p)]).map (·.2)=L.map (·.2)++[p]):=by simp
def LayI.no_all (h:LayI a bs U one other L0 n w L)(c:n<↥other)(b:n∉L.map (·.1)){P:Prop}(z:∀j<↥other,j∈L0.map (·.1)):P:=by
 obtain⟨t,e⟩:=h.pre;show absurd ?_ b;rw[e,KN];show Lo _ (z n c)
def LayI.num' (h:LayI a bs U one other L0 n w L)(p:Kb):∀j<n+1,j∈(L++[(n,p)]).map (·.1):=λj b=>by
 rw[(LayI.two L n p).1]
 by_cases e:j=n
 ·subst e;simp
 ·show Lo _ (h.num j ∅)
def LayI.wish (d:GoodB bs)(i:Cl bs U)(go:GoodW a ↥bs other)(l:Std U other)(h:LayI a bs U one other L0 n w L)(k:n<↥other)(j:n∉L.map (·.1)) :
  GoodP a ↥bs (L.map (·.2)).length (aV bs other (L.map (·.1)) n)/\ff U (ae bs w (L.map (·.2))) (L.map (·.2)).length (aV bs other (L.map (·.1)) n)=true:=by
 have b:=dF h.oj k j;have g:=cU d go b.lt b.nd;have s:=l.part d i go b;rw[aZ]at g s;have f:(L.map (·.2)).length=(L.map (·.1)).length:=by rw[J4,J4]
 have c:(ae bs other (L.map (·.1))).length=(L.map (·.1)).length:=aA ..
 have e:(ae bs other (L.map (·.1))++[aV bs other (L.map (·.1)) n])[(L.map (·.1)).length]?=gV (aV bs other (L.map (·.1)) n):=by
  rw[Lv (by rw[c];show Kl _),c,Oa];rfl
 show#[#[g.mark _ _ e,by rw[g.len _ _ e,f],g.way _ _ e],?_]
 have:=(Std.both.mp s).2;rw[c]at this;rw[h.same,f];show this
def LayI.put (p:GoodB bs)(h:LayI a bs U one other L0 n w L)(g:n<↥other)(f:n∉L.map (·.1)){q:Pt}(j:GoodP a ↥bs ↥w q)(sq:Std U (w++[q]))(e:eT q (L.map (·.2))=aV bs other (L.map (·.1)) n) :
  LayI a bs U one other L0 (n+1) (w++[q]) (L++[(n,↥w)]):=by
 obtain⟨t,i⟩:=h.ext;obtain⟨o,c⟩:=h.pre;obtain⟨d,b⟩:=LayI.two L n ↥w;show#[j.snoc h.gw,sq,#[t++[q],by rw[i];simp],?_,?_,?_,#[o++[(n,↥w)],by rw[c];simp],h.num' _,λx k l=>?_,λz=>h.no_all g f z]
 ·rw[b,Kh];show uD h.op
 ·rw[d];show dF h.oj g f
 ·rw[d,b,mZ h.op.lt,aZ,h.same,e]
 ·rw[b];rw[Kh,Lj]at l
  by_cases m:x=↥w
  ·subst m;simp
  ·show Lo _ (h.new x k ∅)
def LayI.on (h:LayI a bs U one other L0 n w L)(i:n<↥other)(g:n∉L.map (·.1))(l:x<↥w)(d:x∉L.map (·.2))(e:aV bs w (L.map (·.2)) x=aV bs other (L.map (·.1)) n) :
  LayI a bs U one other L0 (n+1) w (L++[(n,x)]):=by
 obtain⟨m,c⟩:=h.pre;obtain⟨f,b⟩:=LayI.two L n x;show#[h.gw,h.sw,h.ext,?_,?_,?_,#[m++[(n,x)],by rw[c];simp],h.num' _,λy j k=>?_,λz=>h.no_all i g z]
 ·rw[b];show dF h.op l d
 ·rw[f];show dF h.oj i g
 ·rw[f,b,aZ,aZ,h.same,e]
 ·rw[b];show Lo _ (h.new y j k)
abbrev cy (m:Kb)(L:Pl):J2 Kb:=(Kj m).map (lE L)
structure LaidOk (a:Kb)(bs:J2 Ki)(U:J2 (T×W))(one other:Wd)(L0:Pl)(w:Wd)(pl:J2 Kb):Prop where
 gw:GoodW a ↥bs w
 sw:Std U w
 ext:∃t,w=one++t
 len:↥pl=↥other
 ord:Ord ↥w pl
 part:ae bs w pl=other
 pairs:∀x∈L0,pl.getD x.1 0=x.2
 new:∀x,↥one<=x->x<↥w->x∈pl
 all:(∀j<↥other,j∈L0.map (·.1))->w=one/\pl=cy ↥other L0
def lF {L:Pl}(nd:(L.map (·.1)).Nodup){p:Kb×Kb}(h:p∈L):lE L p.1=p.2:=by
 obtain⟨i,hi,rfl⟩:=Oo h;unfold lE;have a:i<(L.map (·.1)).length:=by rw[J4];show hi
 have:(L.map (·.1)).idxOf L[i].1=i:=by
  have:=nd.idxOf_getElem i a;rw[NF]at this;show this
 rw[this,Kk,Kg,Ke hi];rfl
def LayI.done (l:GoodB bs)(go:GoodW a ↥bs other)(h:LayI a bs U one other L0 ↥other w L):LaidOk a bs U one other L0 w (cy ↥other L):=by
 have hl:(L.map (·.1)).length=↥other:=by
  have f:=cw (L.map (·.1)) (Kj ↥other) h.oj.nd λj b=>Ky.mpr (h.oj.lt j b)
  have g:=cw (Kj ↥other) (L.map (·.1)) Nj λj b=>h.num j (Ky.mp b)
  rw[KL]at f g;omega
 have k:(L.map (·.2)).length=↥other:=by rw[J4]at hl ⊢;show hl
 obtain⟨i1,u,v⟩:=oG h.oj hl;have ep:cy ↥other L=(dY ↥other (L.map (·.1))).map λi=>(L.map (·.2)).getD i 0:=by
  unfold cy dY;rw[K6];rfl
 have m:Ord (L.map (·.2)).length (dY ↥other (L.map (·.1))):=by rw[k];show i1
 have y:Ord ↥w (cy ↥other L):=by
  rw[ep];show qM h.op m
 have d:∀x,x∈L.map (·.2)->x∈cy ↥other L:=λx s=>by
  obtain⟨i,hi,rfl⟩:=Oo s;rw[k]at hi;have q:i∈dY ↥other (L.map (·.1)):=dz i1 u hi
  rw[ep];show Kn.mpr #[i,q,by rw[Kk,Ke (by rw[k];show hi)];rfl]
 show#[h.gw,h.sw,h.ext,by unfold cy;rw[J4,KL],y,?_,λp r=>?_,λx f g=>d x (h.new x f g),λz=>?_]
 ·rw[ep,<- bA l h.gw h.op m,h.same,bA l go h.oj (by rw[hl];show i1),v,iZ go]
 ·obtain⟨t,e⟩:=h.pre;have c:p∈L:=by rw[e];show Lo _ r
  have b:p.1<↥other:=h.oj.lt _ (Kn.mpr #[p,c,rfl]);unfold cy;rw[Kk,Kg,LO b];show lF h.oj.nd c
 ·obtain⟨n,o⟩:=h.all z;rw[o];show#[n,rfl]
end
abbrev fg:Ss:=
 #v[.ret (.and (.isi "int" (.v 0)) (.not (.isi "bool" (.v 0))))]
abbrev cY:Ss:=
 #v[.ret (.and (.isi "tuple" (.v 0)) (.cmp .eq (.bi .len #v[.v 0]) (.v 1)))]
abbrev dA:Ss:=
 #v[.ret (.and (.own "is_tuple_of" 2 #v[.v 0,.v 1]) (.bi .all #v[.comp (.own "is_whole" 1 #v[.v 1]) (.nm 1) (.seq (.v 0)) .nil [td,td]]))]
abbrev oI:Ss:=
 #v[.ite (.not (.own "share_part" 4 #v[.v 0,.v 1,.v 2,.v 3])) #v[.bad] .nil,.set 4 (.own "barred_threes" 1 #v[.v 0]),.set 5 (.bi .tuple #v[.bi .range #v[.bi .len #v[.ix (.v 0) (.c (.int 1))]]]),.set 6 (.v 1),.set 7 (.bi .dict #v[.comp (.tup #v[.ix (.v 1) (.c (.int 1)),.ix (.v 1) (.c (.int 0))]) (.nm 1) (.seq (.v 3)) .nil [td,td]]),.loop (.nm 8) (.rng #v[.bi .len #v[.v 2]]) #v[.ite (.cmp .notin (.v 8) (.v 7)) #v[.set 9 (.own "point_over" 4 #v[.v 0,.v 2,.bi .list #v[.v 7],.v 8]),.set 10 (.own "spread_wish" 6 #v[.v 0,.v 4,.v 6,.bi .vals #v[.v 7],.v 9,.v 5]),.put (.v 7) (.v 8) (.own "place_of" 4 #v[.v 0,.v 6,.v 10,.v 8]),.ite (.cmp .eq (.ix (.v 7) (.v 8)) (.bi .len #v[.v 6])) #v[.set 6 (.op .add (.v 6) (.tup #v[.own "point_behind" 1 #v[.v 10]]))] .nil] .nil],.ret (.tup #v[.v 6,.bi .tuple #v[.comp (.ix (.v 2) (.v 1)) (.nm 1) (.rng #v[.bi .len #v[.v 2]]) .nil [td,td,gV 7]]])]
abbrev dB:Ss:=
 #v[.ite (.not (.bi .all #v[.comp (.own "is_numbers" 2 #v[.v 1,.c (.int 2)]) (.nm 1) (.seq (.v 3)) .nil [td,td]])) #v[.ret (.c (.bl false))] .nil,.set 4 (.comp (.ix (.v 1) (.c (.int 0))) (.nm 1) (.seq (.v 3)) .nil [td,td]),.set 5 (.comp (.ix (.v 1) (.c (.int 1))) (.nm 1) (.seq (.v 3)) .nil [td,td]),.ite (.or (.not (.own "are_points" 2 #v[.v 1,.v 4])) (.not (.own "are_points" 2 #v[.v 2,.v 5]))) #v[.ret (.c (.bl false))] .nil,.ret (.cmp .eq (.own "part" 3 #v[.v 0,.v 1,.v 4]) (.own "part" 3 #v[.v 0,.v 2,.v 5]))]
abbrev dC:Ss:=
 #v[.ret (.and (.bi .all #v[.comp (.chn .le .lt (.c (.int 0)) (.v 1) (.bi .len #v[.v 2])) (.nm 1) (.seq (.v 1)) .nil [td,td,gV 0]]) (.cmp .eq (.bi .len #v[.bi .set #v[.v 1]]) (.bi .len #v[.v 1])))]
abbrev cZ:Ss:=
 #v[.set 3 (.bi .list #v[.v 3]),.set 6 (.own "part" 3 #v[.v 0,.v 2,.v 3]),.set 8 (.comp (.v 1) (.nm 1) (.rng #v[.bi .len #v[.v 2]]) #v[.cmp .notin (.v 1) (.v 2)] [td,td,gV 3]),.loop (.nm 9) (.seq (.v 8)) #v[.set 10 (.own "point_over" 4 #v[.v 0,.v 2,.v 3,.v 9]),.set 7 (.own "first_filling" 4 #v[.v 1,.op .add (.v 6) (.tup #v[.v 10]),.v 4,.v 5]),.ite (.cmp .is (.v 7) (.c .non)) #v[.ret (.tup #v[.v 3,.v 4])] .nil,.ex (.me .append (.v 3) #v[.v 9]),.set 6 (.op .add (.v 6) (.tup #v[.v 10])),.set 4 (.tup #v[.ix (.v 4) (.c (.int 0)),.op .add (.ix (.v 4) (.c (.int 1))) (.tup #v[.v 7])])],.ret (.tup #v[.v 3,.v 4])]
abbrev cf:Ss:=
 #v[.loop (.nm 4) (.seq (.v 3)) #v[.ite (.cmp .is (.own "first_bar" 2 #v[.v 0,.op .add (.v 1) (.tup #v[.tup #v[.ix (.v 2) (.c (.int 0)),.op .add (.ix (.v 2) (.c (.int 1))) (.tup #v[.v 4])]])]) (.c .non)) #v[.ret (.v 4)] .nil],.ret (.c .non)]
abbrev fj:Ss:=
 #v[.ite (.cmp .eq (.bi .len #v[.ix (.v 2) (.c (.int 0))]) (.bi .len #v[.v 1])) #v[.ret (.bi .len #v[.v 1])] .nil,.set 4 (.bi .min #v[.comp (.v 1) (.nm 1) (.rng #v[.bi .len #v[.v 1]]) #v[.cmp .notin (.v 1) (.ix (.v 2) (.c (.int 0)))] [td,td,gV 2]]),.ite (.cmp .ne (.own "point_over" 4 #v[.v 0,.v 1,.ix (.v 2) (.c (.int 0)),.v 4]) (.ix (.v 2) (.c (.int 1)))) #v[.bad] .nil,.ret (.v 4)]
abbrev cz:Ss:=
 #v[.set 1 (.bi .dzip #v[.ix (.v 0) (.c (.int 0)),.ix (.ix (.v 0) (.c (.int 1))) (.c (.int 1))]),.ret (.tup #v[.ix (.ix (.v 0) (.c (.int 1))) (.c (.int 0)),.bi .tuple #v[.comp (.ix (.v 2) (.v 1)) (.nm 1) (.rng #v[.bi .len #v[.v 1]]) .nil [td,td,gV 1]]])]
abbrev ev:Ss:=
 #v[.set 4 (.own "_law_world" 4 #v[.v 0,.v 1,.v 2,.own "_law_pick" 2 #v[.v 0,.op .add (.v 3) (.c (.int 1))]]),.set 5 (.sl (.own "_law_shuffled" 2 #v[.v 0,.bi .list #v[.bi .range #v[.bi .len #v[.v 4]]]]) .no (.yes (.own "_law_pick" 2 #v[.v 0,.op .add (.bi .len #v[.v 4]) (.c (.int 1))]))),.set 6 (.own "_law_part" 3 #v[.v 1,.v 4,.v 5]),.loop (.nm 7) (.rng #v[.own "_law_pick" 2 #v[.v 0,.op .sub (.op .add (.v 3) (.c (.int 1))) (.bi .len #v[.v 5])]]) #v[.set 8 (.own "_law_pick" 2 #v[.v 0,.bi .len #v[.ix (.v 1) (.c (.int 0))]]),.set 9 (.own "_law_new_ways" 6 #v[.v 0,.v 1,.v 2,.v 6,.v 8,.tup .nil]),.ite (.cmp .isnot (.v 9) (.c .non)) #v[.set 6 (.op .add (.v 6) (.tup #v[.tup #v[.v 8,.v 9]]))] .nil],.set 10 (.own "_law_shuffled" 2 #v[.v 0,.bi .list #v[.bi .range #v[.bi .len #v[.v 6]]]]),.set 11 (.comp (.tup #v[.ix (.v 3) (.v 1),.me .index (.v 2) #v[.v 1]]) (.nm 1) (.rng #v[.bi .len #v[.v 5]]) .nil [td,td,gV 10,gV 5]),.ret (.tup #v[.v 4,.own "_law_part" 3 #v[.v 1,.v 6,.v 10],.bi .tuple #v[.own "_law_shuffled" 2 #v[.v 0,.v 11]]])]
abbrev eA:Ss:=
 #v[.asg [5,6] (.own "laid" 4 #v[.v 0,.v 2,.v 3,.v 4]),.ite (.or (.cmp .ne (.sl (.v 5) .no (.yes (.bi .len #v[.v 2]))) (.v 2)) (.or (.cmp .ne (.bi .len #v[.v 6]) (.bi .len #v[.v 3])) (.cmp .ne (.bi .len #v[.bi .set #v[.v 6]]) (.bi .len #v[.v 6])))) #v[.ret (.c (.bl false))] .nil,.ite (.or (.not (.own "_law_may" 3 #v[.v 0,.v 1,.v 5])) (.cmp .ne (.own "_law_part" 3 #v[.v 0,.v 5,.v 6]) (.v 3))) #v[.ret (.c (.bl false))] .nil,.ite (.not (.bi .all #v[.comp (.cmp .eq (.ix (.v 3) (.v 2)) (.v 1)) (.tp [1,2]) (.seq (.v 4)) .nil [td,td,td,gV 6]])) #v[.ret (.c (.bl false))] .nil,.ite (.not (.bi .all #v[.comp (.cmp .isin (.v 1) (.v 2)) (.nm 1) (.rng2 #v[.bi .len #v[.v 2],.bi .len #v[.v 5]]) .nil [td,td,gV 6]])) #v[.ret (.c (.bl false))] .nil,.set 7 (.bi .tuple #v[.comp (.tup #v[.ix (.v 2) (.v 1),.v 1]) (.nm 1) (.rng #v[.bi .len #v[.v 3]]) .nil [td,td,gV 6]]),.ite (.cmp .ne (.own "laid" 4 #v[.v 0,.v 5,.v 3,.v 7]) (.tup #v[.v 5,.v 6])) #v[.ret (.c (.bl false))] .nil,.set 8 (.bi .tuple #v[.comp (.tup #v[.v 1,.v 1]) (.nm 1) (.rng #v[.bi .len #v[.v 2]]) .nil [td,td]]),.ret (.cmp .eq (.own "laid" 4 #v[.v 0,.v 5,.v 2,.v 8]) (.tup #v[.v 5,.bi .tuple #v[.bi .range #v[.bi .len #v[.v 2]]]]))]
abbrev j3:Ss:=
 #v[.set 1 (.own "_law_flow" 1 #v[.v 0]),.set 2 (.own "_law_laying_rule" 1 #v[.v 1]),.set 3 (.own "_law_bad" 1 #v[.v 2]),.asg [4,5,6] (.own "_law_share" 4 #v[.v 1,.v 2,.v 3,.c (.int 9)]),.ite (.not (.own "_law_right" 5 #v[.v 2,.v 3,.v 4,.v 5,.v 6])) #v[.ret (.c (.bl false))] .nil,.ret (.own "_law_right" 5 #v[.v 2,.v 3,.v 5,.v 4,.bi .tuple #v[.comp (.tup #v[.v 2,.v 1]) (.tp [1,2]) (.seq (.v 6)) .nil [td,td,td]]])]
section
variable{defs:J2 (KG×Df)}{fuel d:Kb}{S:aa}{r:Kb}{Q:QW}
def uE {i:Kb}{xs:J2 W}(h:S[i]?=gV (.lst xs))(q:Q (.ref ↥S,S++[.lst xs])):wO (Bi.list.fn [.ref i] S) Q:=by
 show ac ?_ q;have a:pc S i=td:=by simp[pc,h]
 simp only[Bi.fn,qa,fI,a,iH,iN h,fm,cp,aC h]
end
def ga {α:Type}(L:J2 α):(L.map λ_=>W.bl true)=KU ↥L (.bl true):=List.map_const' ..
def lG {S:aa}{l n:Kb}{Q:QW}(h:S[l]?=gV (.lst (KU n (.bl true))))(q:Q (.bl true,S)):wO (Bi.all.fn [.ref l] S) Q:=by
 show ac ?_ q;simp only[Bi.fn,D8,aC h,mT,KM,Cg]
def HG {S:aa}{x y:Ki}(a:0<=x)(b:x<y):rB .le (.int 0) (.int x) S=gV true/\cD .lt (.int x) (.int y) S=gV (.bl true,S):=by
 show#[?_,?_]
 ·change gV (decide (0<=x))=_;rw[Ld a]
 ·change gV (W.bl (decide (x<y)),S)=_;rw[Ld b]
section
variable{defs:J2 (KG×Df)}{fuel d:Kb}{S:aa}{Q:QW}
structure LayP (defs:J2 (KG×Df)):Prop where
 way:Parts defs
 part:Is defs ("part": KG) 3 3 fY
 whole:Is defs ("is_whole": KG) 1 1 fg
 tup:Is defs ("is_tuple_of": KG) 2 2 cY
 nums:Is defs ("is_numbers": KG) 2 2 dA
 three:Is defs ("three_at": KG) 4 6 cQ
 first:Is defs ("first_bar": KG) 2 4 db
 orders:Is defs ("longer_orders": KG) 2 4 bn
 barred:Is defs ("barred_threes": KG) 1 5 bH
 share:Is defs ("share_part": KG) 4 6 dB
 pts:Is defs ("are_points": KG) 2 2 dC
 spread:Is defs ("spread_wish": KG) 6 11 cZ
 fill:Is defs ("first_filling": KG) 4 5 cf
 place:Is defs ("place_of": KG) 4 5 fj
 behind:Is defs ("point_behind": KG) 1 2 cz
 laid:Is defs ("laid": KG) 4 11 oI
def sA (X:LayP defs){i:Ki}(k:Q (.bl true,S)):wO (aL (ar defs fuel (d+1)) "is_whole" 1 [.int i] S) Q:=by
 show az X.whole rfl rfl λa b=>?_
 change wZ _ _ fg [gV (.int i)] S a;delta fg;show st ?_;delta wS wE wV wG;show ac (show z7 S (.int i) "int" = gV true from rfl) #[λ_=>?_,λz=>by cases z]
 show ac (show z7 S (.int i) "bool" = gV false from rfl) (b _ _ k)
def sB (X:LayP defs){xs:J2 W}{n:Kb}(h:↥xs=n)(k:Q (.bl true,S)):wO (aL (ar defs fuel (d+1)) "is_tuple_of" 2 [.tup xs,.int (n:Ki)] S) Q:=by
 show az X.tup rfl rfl λa b=>?_
 change wZ _ _ cY [gV (.tup xs),gV (.int (n:Ki))] S a;delta cY;show st ?_;left;show ac (show z7 S (.tup xs) "tuple" = gV true from rfl) #[λ_=>?_,λz=>by cases z]
 show aF (ac la ?_);rw[h,Lk];show b _ _ k
def oJ (X:LayP defs){xs:J2 Ki}{n:Kb}(h:↥xs=n)(f:n<=1000)(k:∀S',Ka S S'->Q (.bl true,S')):wO (aL (ar defs fuel (d+2)) "is_numbers" 2 [.tup (ah xs),.int (n:Ki)] S) Q:=by
 show az X.nums rfl rfl λb e=>?_
 change wZ _ _ dA [gV (.tup (ah xs)),gV (.int (n:Ki))] S b;delta dA;show st ?_;left;show sB (d:=d) X (by unfold ah;rw[J4];show h) #[λ_=>?_,λz=>by cases z]
 show lq xs W.int (λ_=>true) (λ_=>.bl true) [] rfl rfl rfl rfl ∅ #[rfl,.refl] (λx _ c a=>?_) λc a=>?_
 ·delta eG wC wE wA wV wG;show#[λ_=>sA (d:=d) X #[rfl,rfl,.refl],λz=>by cases z]
 ·rw[aU,ga];show lG aj (e _ _ (k _ (a.trans .push)))
def j4 (X:LayP defs){m0 b0:W}{ns:J2 KG}{bs:J2 Ki}{a l:Kb}{u:Wd}{ps:J2 Kb}{i:Kb}(r:GoodB bs)(hl:↥ns=↥bs)(t:GoodW a ↥bs u)(c:∀p∈ps,p<↥u/\i≠p)(hi:i<↥u)(hsz:↥ps<=1000)(n:S[l]?=gV (.lst (ab ps)))(k:∀S',Ka S S'->Q (bN (aV bs u ps i),S')) :
  wO (aL (ar defs fuel (d+2)) "point_over" 4 [.tup [m0,.tup (Ku aG ns bs),b0],aw u,.ref l,.int i] S) Q:=by
 show az X.way.over rfl rfl λg h=>?_
 replace k:∀S',Ka S S'->g (.rt (bN (aV bs u ps i)),S'):=λS' a=>h _ _ (k S' a)
 clear h;change wZ _ _ bS [gV (.tup [m0,.tup (Ku aG ns bs),b0]),gV (aw u),gV (.ref l),gV (.int i)] S g;generalize b:W.tup [m0,.tup (Ku aG ns bs),b0]=R;delta bS;show st ?_;left;show ak (Kq i) (cx hi) (ak #v[] rfl ?_)
 show sn ps (λ(q:Kb)=>W.int (q:Ki)) (λ_=>true) (λq=>W.int (aY bs u i q)) [gV (.int i),gV R,gV (aw u)] rfl rfl rfl rfl ∅ #[l,rfl,n,.refl] (λq s m j=>?_) λm j=>?_
 ·delta eG wC wE wA wV wG;subst b;obtain⟨f,e⟩:=c q s;show#[λ_=>Dg (d:=d) X.way r hl t hi f e #[rfl,rfl,.refl],λz=>by cases z]
 ·rw[aU];show bZ aj ?_;have:=k _ (j.trans (Ka.push (o:=O.lst (ps.map λq=>W.int (aY bs u i q)))))
  unfold bN aV at this;rw[K6]at this;show this
def sC (X:LayP defs){m0 b0:W}{ns:J2 KG}{bs:J2 Ki}{a l:Kb}{u:Wd}{ps:J2 Kb}(A:GoodB bs)(hl:↥ns=↥bs)(D:GoodW a ↥bs u)(r:Ord ↥u ps)(hsz:↥ps<=1000)(v:S[l]?=gV (.lst (ab ps)))(k:∀S',Ka S S'->Q (aw (ae bs u ps),S')) :
  wO (aL (ar defs fuel (d+3)) "part" 3 [.tup [m0,.tup (Ku aG ns bs),b0],aw u,.ref l] S) Q:=by
 show az X.part rfl rfl λt x=>?_
 replace k:∀S',Ka S S'->t (.rt (aw (ae bs u ps)),S'):=λS' a=>x _ _ (k S' a)
 clear x;change wZ _ _ fY [gV (.tup [m0,.tup (Ku aG ns bs),b0]),gV (aw u),gV (.ref l)] S t;generalize s:W.tup [m0,.tup (Ku aG ns bs),b0]=R;delta fY;show st ?_;delta wS wE wA;show yE l (ab ps) (λj ys g b=>(∃n o,g=[td,n,o,gV (.ref l),gV R,gV (aw u)])/\ys=((ae bs u ps).take j).map bN/\Ka S b) rfl rfl rfl #[rfl,#[td,td,rfl],rfl,.refl] (λi ys Z b h=>h.2.2.get _ _ v) ?_ ?_
 ·rintro j w ys g b hw ⟨⟨n,o,rfl⟩,rfl,f⟩;unfold ab at hw;rw[Kg,J6]at hw;obtain⟨q,c,rfl⟩:=hw;have B:j<↥ps:=(Ko.mp c).1;have eq:q=ps[j]:=(Ko.mp c).2.symm;show ac (show gh (.tp [1,2]) (.tup [.int (j:Ki),.int (q:Ki)]) [td,n,o,gV (.ref l),gV R,gV (aw u)] b=gV ([td,gV (.int (j:Ki)),gV (.int (q:Ki)),gV (.ref l),gV R,gV (aw u)],b)from rfl) ?_
  delta eG wC wE wA wP wV wG wN;show#[λ_=>ac (a:=(.ref ↥b,b++[.lst (ab (ps.take j))])) ?_ ?_,λz=>by cases z]
  ·simp only[rC,aC (f.get _ _ v),dS];unfold ab;rw[MD]
  ·subst s;show j4 (d:=d) X A hl D (λp y=>#[r.lt p (LW y),?_]) (r.lt q (Kt c)) (by rw[KY];omega) aj λG E=>#[#[_,_,rfl],?_,f.trans (Ka.push.trans E)]
   ·obtain⟨m,C,e⟩:=LS.mp y;rw[KY]at C;rw[Mm]at e;rw[eq,<- e];intro z;have:=(L1 r.nd).mp z;omega
   ·have ep:(ae bs u ps)[j]?=gV (aV bs u (ps.take j) q):=by
     unfold ae aV;rw[Kg,LO B,KM,getD_some c]
    rw[K7,ep];simp
 ·rintro ys g b ⟨_,rfl,f⟩;rw[show(ab ps).length=(ae bs u ps).length by rw[aA];show J4 ..,Li]
  show#[lb (by rw[J4,aA];show hsz),bZ aj (k _ (f.trans .push))]
end
def im:∀ps:J2 Kb,kM (ab ps)=gV (ps.map λ(p:Kb)=>(p:Ki))
 |[]=>rfl
 |p::ps=>by
  show(kM (ab ps)).map _=_;rw[im ps];rfl
def j5 {ps:J2 Kb}(h:ps.Nodup):(ps.map λ(p:Kb)=>(p:Ki)).Nodup:=by
 rw[L9,M6];show h.imp λa e=>a (Int.ofNat_inj.mp e)
section
variable{S:aa}{Q:QW}
def Fg {l:Kb}{ps:J2 Kb}(h:S[l]?=gV (.lst (ab ps)))(nd:ps.Nodup)(hl:↥ps<=1000)(q:Q (.ref ↥S,S++[.sti ↥ps])):wO (Bi.set.fn [.ref l] S) Q:=by
 show ac ?_ q;have a:kP [.ref l] S=gV (.ref ↥S,S++[.sti ↥ps]):=by
  simp only[kP,aC h,im];rw[KC (by rw[J4];show hl),pW (j5 nd),J4]
 simp only[Bi.fn,qa,show jj [.ref l] S=td from rfl,a]
def Fh {ps:J2 Kb}(nd:ps.Nodup)(hl:↥ps<=1000)(q:Q (.ref ↥S,S++[.sti ↥ps])):wO (Bi.set.fn [.tup (ab ps)] S) Q:=by
 show ac ?_ q;have a:jj [.tup (ab ps)] S=gV (.ref ↥S,S++[.sti ↥ps]):=by
  revert jj im;rw[KC (by rw[J4];show hl),pW (j5 nd),J4]
 revert Bi.fn qa a
def zJ {l n:Kb}(h:S[l]?=gV (.sti n))(c:n<=1000)(q:Q (.int (n:Kb),S)):wO (Bi.len.fn [.ref l] S) Q:=by
 show ac ?_ q;have a:gO S l=td:=by simp[gO,jd,h]
 have b:kA [.ref l] S=td:=by simp[kA,dU,h]
 simp only[Bi.fn,qa,pI,a,b,xZ,h,KC c]
end
section
variable{defs:J2 (KG×Df)}{fuel d:Kb}{S:aa}{Q:QW}
def Dj (X:LayP defs){u:Wd}{l:Kb}{ps:J2 Kb}(c:Ord ↥u ps)(hl:↥ps<=1000)(e:S[l]?=gV (.lst (ab ps)))(k:∀S',Ka S S'->Q (.bl true,S')):wO (aL (ar defs fuel (d+1)) "are_points" 2 [aw u,.ref l] S) Q:=by
 show az X.pts rfl rfl λg j=>?_
 change wZ _ _ dC [gV (aw u),gV (.ref l)] S g;have r:(u.map bN).length=↥u:=J4 ..;have p:(ab ps).length=↥ps:=J4 ..;delta dC;show st ?_;left;show sn ps (λ(q:Kb)=>W.int (q:Ki)) (λ_=>true) (λ_=>.bl true) [gV (aw u)] rfl rfl rfl rfl ∅ #[l,rfl,e,.refl] (λq m b f=>?_) λb f=>?_
 ·delta eG wC wE wA wV wG;have n:=c.lt q m;obtain⟨h,i⟩:=HG (S:=b) (x:=(q:Ki)) (y:=(↥u:Ki)) ∅ ∅
  show#[λ_=>ac h #[λ_=>aF ?_,λz=>by cases z],λz=>by cases z]
  rw[r];show ac i #[rfl,rfl,.refl]
 ·rw[aU,ga];show lG aj #[λ_=>?_,λz=>by cases z]
  have a:=f.trans (Ka.push (o:=O.lst (KU ↥ps (.bl true))));show Fg (a.get _ _ e) c.nd hl (zJ aj hl (gS (au (a.get _ _ e)) ?_));rw[p];show ac la ?_;rw[Lk];show j _ _ (k _ (a.trans .push))
abbrev eJ (p:Kb×Kb):W:=.tup [.int (p.2:Kb),.int (p.1:Kb)]
def Cp (X:LayP defs){m0 b0:W}{ns:J2 KG}{bs:J2 Ki}{a:Kb}{one c:Wd}{b:Pl}(C:GoodB bs)(i:↥ns=↥bs)(P:GoodW a ↥bs one)(T:GoodW a ↥bs c)(y:Ord ↥one (b.map (·.2)))(A:Ord ↥c (b.map (·.1)))(hl:↥b<=900)
  (U:ae bs one (b.map (·.2))=ae bs c (b.map (·.1))) (k:∀S',Ka S S'->Q (.bl true,S')) :
  wO (aL (ar defs fuel (d+4)) "share_part" 4 [.tup [m0,.tup (Ku aG ns bs),b0],aw one,aw c,.tup (b.map eJ)] S) Q:=by
 show az X.share rfl rfl λm B=>?_
 replace k:∀S',Ka S S'->m (.rt (.bl true),S'):=λS' a=>B _ _ (k S' a)
 clear B;change wZ _ _ dB [gV (.tup [m0,.tup (Ku aG ns bs),b0]),gV (aw one),gV (aw c),gV (.tup (b.map eJ)),td,td] S m;have l1:(b.map (·.1)).length=↥b:=J4 ..
 have l2:(b.map (·.2)).length=↥b:=J4 ..
 generalize u:W.tup [m0,.tup (Ku aG ns bs),b0]=R;delta dB;nofun
 delta wS wT wA;show lq b eJ (λ_=>true) (λ_=>.bl true) [] rfl rfl rfl rfl ∅ #[rfl,.refl] (λp _ x D=>?_) λx D=>?_
 ·delta eG wC wE wA wV wG;show#[λ_=>oJ (d:=d+1) (xs:=[((p.2:Kb):Ki),((p.1:Kb):Ki)]) (n:=2) X rfl #v[] λN r=>#[rfl,rfl,r],λz=>by cases z]
 rw[aU,ga];show lG aj ?_;show ac (show dJ _ (.bl true)=gV true from rfl) ?_
 show aq (Q0:=m) (λz=>by cases z) (λ_ J e _=>bu (e _ _ (hK _ _ ?_)))
 clear hK e K;have r:=D.trans (Ka.push (o:=O.lst (KU ↥b (.bl true))));generalize x++[O.lst (KU ↥b (.bl true))]=N at r ⊢;show st ?_;delta wS;show lq b eJ (λ_=>true) (λp=>.int (p.2:Kb)) [] rfl rfl rfl rfl ∅ #[rfl,.refl] (λp _ g E=>?_) λg E=>?_
 ·delta eG wC wE wV wG;show#[λ_=>ak #v[] rfl #[rfl,rfl,.refl],λz=>by cases z]
 rw[aU,show(b.map λp=>W.int (p.2:Kb))=ab (b.map (·.2)) by unfold ab;rw[K6];rfl]
 have s:(g++[O.lst (ab (b.map (·.2)))])[↥g]?=gV (.lst (ab (b.map (·.2)))):=aj
 have G:=r.trans (E.trans (Ka.push (o:=O.lst (ab (b.map (·.2))))))
 generalize g++[O.lst (ab (b.map (·.2)))]=S5 at s G ⊢
 generalize ↥g=q1 at s ⊢;show st ?_;delta wS Kv;show lq b eJ (λ_=>true) (λp=>.int (p.1:Kb)) [] rfl rfl rfl rfl ∅ #[rfl,.refl] (λp _ h H=>?_) λh H=>?_
 ·delta eG wC wE wV wG;show#[λ_=>ak #v[] rfl #[rfl,rfl,.refl],λz=>by cases z]
 rw[aU,show(b.map λp=>W.int (p.1:Kb))=ab (b.map (·.1)) by unfold ab;rw[K6];rfl]
 have q:(h++[O.lst (ab (b.map (·.1)))])[↥h]?=gV (.lst (ab (b.map (·.1)))):=aj
 have l:=H.trans (Ka.push (o:=O.lst (ab (b.map (·.1)))))
 have t:=l.get _ _ s;replace l:=G.trans l;generalize h++[O.lst (ab (b.map (·.1)))]=S7 at q t l ⊢
 generalize ↥h=q2 at q ⊢;nofun
 delta wS wT wA wE wV wG Kv;show Dj (d:=d+2) X y ∅ t λY I=>?_
 show ac (show dJ _ (.bl true)=gV true from rfl) #[λz=>(by cases z),λ_=>?_]
 show Dj (d:=d+2) X A ∅ (I.get _ _ q) λZ V=>?_
 show ac (show dJ _ (.bl true)=gV true from rfl) ?_
 show aq (Q0:=m) (λz=>by cases z) (λ_ J e _=>bu (e _ _ (hK _ _ ?_)))
 clear hK e K;have f:=I.trans V;subst u;show st ?_;left;show sC (d:=d) X C i P y ∅ (f.get _ _ t) λL j=>?_
 show sC (d:=d) X C i T A ∅ ((f.trans j).get _ _ q) λM w=>?_
 show ac E5 ?_;rw[Ld U];show k _ (l.trans (f.trans (j.trans w)))
def i4 {u:Wd}{p:Pt}(h:↥u<1000):gN .add (aw u) (.tup [bN p]) S=gV (aw (u++[p]),S):=by
 unfold aw;show(ib (by rw[Kh,J4,Lj];show lb ∅)).trans ?_
 rw[KN];rfl
abbrev jM (p:Pt)(v:Kb):Pt:=(p.1,p.2++[(v:Ki)])
def Fi (X:LayP defs){a n q:Kb}{u:Wd}{x p:Pt}{U:J2 (T×W)}(E:GoodW a n (u++[x]))(j:GoodP a n ↥u p)(hl:↥u<=900)(H:n<=3)(e:S[q]?=gV (.dic U))
  (k:∀w,((∃v:Kb,v<n/\w=.int (v:Kb)/\ii U (u++[x]++[jM p v])=true)\/(w=.non/\∀v<n,ii U (u++[x]++[jM p v])=false))->Q (w,S)) :
  wO (aL (ar defs fuel (d+3)) "first_filling" 4 [.ref q,aw (u++[x]),bN p,.tup (ab (Kj n))] S) Q:=by
 show az X.fill rfl rfl λy B=>?_
 replace k:∀w,((∃v:Kb,v<n/\w=.int (v:Kb)/\ii U (u++[x]++[jM p v])=true)\/(w=.non/\∀v<n,ii U (u++[x]++[jM p v])=false))->y (.rt w,S):=λw h=>B _ _ (k w h)
 clear B;change wZ _ _ cf [gV (.ref q),gV (aw (u++[x])),gV (bN p),gV (.tup (ab (Kj n))),td] S y;have f:(u++[x]).length=↥u+1:=by simp
 delta cf;nofun
 show for_tup (ab (Kj n)) (λi Z S'=>(∃g,Z=[gV (.ref q),gV (aw (u++[x])),gV (bN p),gV (.tup (ab (Kj n))),g])/\S'=S/\∀v<i,ii U (u++[x]++[jM p v])=false) rfl rfl #[rfl,#[_,rfl],rfl,λv b=>∅] ?_ ?_
 ·rintro i w Z S1 hw ⟨⟨g,rfl⟩,rfl,c⟩;unfold ab at hw;rw[Kg,J6]at hw;obtain⟨v,b,rfl⟩:=hw;obtain⟨hi,b⟩:=Ko.mp b;rw[KL]at hi;rw[OJ]at b;subst b;clear hK;show ac (show gh (.nm 4) (.int ((i:Kb):Ki)) [gV (.ref q),gV (aw (u++[x])),gV (bN p),gV (.tup (ab (Kj n))),g] S1=gV ([gV (.ref q),gV (aw (u++[x])),gV (bN p),gV (.tup (ab (Kj n))),gV (.int ((i:Kb):Ki))],S1)from rfl) λA o s=>?_
  nofun
  delta wS wT wE wA wV wG;show ak #v[] rfl (ak #v[] rfl ?_)
  show ac (ib (by rw[Kh,J4,j.len];show lb (by revert Lj;omega))) ?_
  rw[show W.tup [.int p.1,.tup (p.2.map W.int++[.int ((i:Kb):Ki)])]=bN (jM p i) by unfold jM bN;rw[KN];rfl]
  show ac (i4 (by rw[f];omega)) ?_
  have b:GoodW a n (u++[x]++[jM p i]):=E.snoc (m:=p.1) (ws:=p.2++[((i:Kb):Ki)]) j.mark (by rw[Kh,j.len,f];rfl) λz G=>by
   rcases La.mp G with h|h
   ·show j.way z h
   ·rw[KA.mp h];omega
  show qH (d:=d) X.three X.first b (by simp) (by simp;omega) e λw hw=>?_
  rcases hw with⟨rfl,l⟩|⟨z,rfl,l⟩
  ·show ac (show bh .is .non .non S1=gV (.bl true,S1)from rfl) ?_
   delta wB;show aq (Q0:=A) (λ_ C _ t=>?_) (λz=>by cases z)
   show st ?_;delta wS wE wV wG;show t _ _ (s _ _ (k _ (.inl #[i,hi,rfl,l])))
  ·show ac (show bh .is (.int z) .non S1=gV (.bl false,S1)from rfl) ?_
   delta wB;show aq (Q0:=A) (λz=>by cases z) (λ_ C r _=>bu (r _ _ (hK _ _ (bu (o _ _ #[#[_,rfl],rfl,λv b=>?_])))))
   by_cases D:v=i
   ·subst D;show l
   ·show c v ∅
 ·rintro Z S1 ⟨⟨g,rfl⟩,rfl,c⟩;show hK _ _ (st ?_);delta wS wE;show k _ (.inr #[rfl,λv b=>c v (by unfold ab;rw[J4,KL];show b)])
end
def qO {S:aa}{l p:Kb}{ps:J2 Kb}(h:S[l]?=gV (.lst (ab ps))):bh .notin (.int p) (.ref l) S=gV (.bl (decide (p∉ps)),S):=by
 have a:(aN (.int p)&&(ab ps).all aN)=true:=by rw[ju];rfl
 simp only[bh,iN h,cD,rB,xn,cp,aC h,a,MW,KM,iX];congr 3
 by_cases h:p∈ps<;>simp[h]
abbrev aK (n:Kb)(ps:J2 Kb):J2 Kb:=(Kj n).filter λi=>decide (i∉ps)
section
variable{n:Kb}{ps:J2 Kb}
def uF:(aK n ps).Pairwise (· < ·):=List.pairwise_lt_range.filter _
def mem_rest {x:Kb}:x∈aK n ps↔x<n/\x∉ps:=by
 unfold aK;rw[LX,Ky,KP]
def Cq {i x:Kb}(o:Ord n ps)(l:(aK n ps)[i]?=gV x):x<n/\x∉ps++(aK n ps).take i/\(∀y<x,y∈ps++(aK n ps).take i)/\Ord n (ps++(aK n ps).take i)/\(aK n ps).take (i+1)=(aK n ps).take i++[x]:=by
 obtain⟨hi,e⟩:=Ko.mp l;have m:=uF (n:=n) (ps:=ps);have k:=mem_rest.mp (Kt l);have nd:(aK n ps).Nodup:=m.imp λh=>KF h
 have lt:∀j (c:j<(aK n ps).length),j<i->(aK n ps)[j]<x:=λj c d=>by
  rw[<- e];show OR.mp m j i c hi d
 have u:x∉(aK n ps).take i:=λz=>by
  obtain⟨j,c,g⟩:=LS.mp z;rw[KY]at c;rw[Mm]at g;have:=lt j ∅ ∅
  omega
 show#[k.1,λz=>?_,λy t=>?_,#[?_,λp s=>?_],?_]
 ·rcases La.mp z with z|z
  ·show k.2 z
  ·show u z
 ·by_cases f:y∈ps
  ·show Lo _ f
  ·show KW _ ?_;obtain⟨j,c,g⟩:=LS.mp (mem_rest.mpr #[MB t k.1,f]);have d:j<i:=by
    rcases Re j i with h|h|h
    ·show h
    ·subst h;rw[e]at g;omega
    ·have:=OR.mp m i j hi c h;omega
   show LS.mpr #[j,by rw[KY];omega,by rw[Mm];show g]
 ·rw[MJ];show#[o.nd,(N4 _ _).nodup nd,λa q b r e=>?_]
  subst e;show(mem_rest.mp (LW r)).2 q
 ·rcases La.mp s with h|h
  ·show o.lt p h
  ·show(mem_rest.mp (LW h)).1
 ·rw[K7,l];rfl
def zK (d:Ord n ps):Ord n (ps++aK n ps)/\(ps++aK n ps).length=n:=by
 have m:=uF (n:=n) (ps:=ps);have nd:(aK n ps).Nodup:=m.imp λh=>KF h
 have o:Ord n (ps++aK n ps):=#[by
  rw[MJ];show#[d.nd,nd,λa i b k e=>?_]
  subst e;show(mem_rest.mp k).2 i,λp l=>by
  rcases La.mp l with h|h
  ·show d.lt p h
  ·show(mem_rest.mp h).1]
 show#[o,?_];have f:=cw _ (Kj n) o.nd λj c=>Ky.mpr (o.lt j c)
 have g:=cw (Kj n) (ps++aK n ps) Nj λj c=>by
  by_cases h:j∈ps
  ·show Lo _ h
  ·show KW _ (mem_rest.mpr #[Ky.mp c,h])
 rw[KL]at f g;omega
end
section
variable{defs:J2 (KG×Df)}{fuel d:Kb}{S:aa}{Q:QW}
def zL (X:LayP defs){m0 b0:W}{ns:J2 KG}{bs:J2 Ki}{a q l0:Kb}{w:Wd}{b:J2 Kb}{t:Pt}{U:J2 (T×W)}(G:GoodB bs)(Y:↥ns=↥bs)(r:↥bs<=3)(cl:Cl bs U)(hno:¬ wc a bs U (↥bs+1))(L:GoodW a ↥bs w)(sw:Std U w)(hl:↥w<=800)
  (M:Ord ↥w b) (gp:GoodP a ↥bs ↥b t) (mp:ff U (ae bs w b) ↥b t=true) (e:S[q]?=gV (.dic U)) (e0:S[l0]?=gV (.lst (ab b)))
  (k:∀l ps p S',SprF a bs U w b t ps p->S'[l]?=gV (.lst (ab ps))->Ka S S'->Q (.tup [.ref l,bN p],S')) :
  wO (aL (ar defs fuel (d+4)) "spread_wish" 6 [.tup [m0,.tup (Ku aG ns bs),b0],.ref q,aw w,.ref l0,bN t,.tup (ab (Kj ↥bs))] S) Q:=by
 show az X.spread rfl rfl λQ' hR=>?_
 replace k:∀l ps p S',SprF a bs U w b t ps p->S'[l]?=gV (.lst (ab ps))->Ka S S'->Q' (.rt (.tup [.ref l,bN p]),S'):=λl ps p S' h1 h2 h3=>hR _ _ (k l ps p S' h1 h2 h3)
 clear hR;change wZ _ _ cZ [gV (.tup [m0,.tup (Ku aG ns bs),b0]),gV (.ref q),gV (aw w),gV (.ref l0),gV (bN t),gV (.tup (ab (Kj ↥bs))),td,td,td,td,td] S Q';have hpl:↥b<=800:=by
  have:=cw _ (Kj ↥w) M.nd λj hj=>Ky.mpr (M.lt j hj)
  rw[KL]at this;omega
 generalize E:W.tup (ab (Kj ↥bs))=O5;generalize n:W.tup [m0,.tup (Ku aG ns bs),b0]=R;delta cZ;show st ?_;left;show uE e0 ?_;have e1:(S++[O.lst (ab b)])[↥S]?=gV (.lst (ab b)):=aj;show st ?_;left;subst n;show sC (d:=d) X G Y L M ∅ e1 λS2 k2=>?_
 generalize n:W.tup [m0,.tup (Ku aG ns bs),b0]=R;have e2:=k2.get _ _ e1;have k2':Ka S S2:=Ka.push.trans k2;have hS2:↥S<↥S2:=bF e2;clear e1;show st ?_;delta wS Kv;show ig ↥w (λi=>decide (i∉b)) (λi=>.int (i:Kb)) [gV (.ref ↥S)] rfl rfl rfl rfl ∅ ?_ (λi hi A k3=>?_) λA k3=>?_
 ·delta wE wA wV wG;show aF #[?_,.refl];rw[J4]
 ·delta eG wC wT wE wV wG;show ac (qO (k3.get _ _ e2)) ?_;delta wB;show#[λz=>#[z,rfl,.refl],λz=>#[z,.refl]]
 have e4:(A++[O.lst (ab (aK ↥w b))])[↥A]?=gV (.lst (ab (aK ↥w b))):=aj;have k4:Ka S2 (A++[O.lst (ab (aK ↥w b))]):=k3.trans .push;have hlr:↥S<↥A:=Kw hS2 k3.len;change wZ _ _ _ _ (A++[O.lst (ab (aK ↥w b))]) Q';generalize A++[O.lst (ab (aK ↥w b))]=S4 at e4 k4 ⊢;generalize ↥A=lr at e4 hlr ⊢;nofun
 show om lr (ab (aK ↥w b)) (λi Z S'=>(∃p I a9 g,Z=[gV R,gV (.ref q),gV (aw w),gV (.ref ↥S),gV (bN p),gV O5,gV (aw (ae bs w (b++(aK ↥w b).take i))),I,gV (.ref lr),a9,g]/\(∃vs,p=(t.1,t.2++vs))/\GoodP a ↥bs (b++(aK ↥w b).take i).length p/\ff U (ae bs w (b++(aK ↥w b).take i)) (b++(aK ↥w b).take i).length p=true)/\S'[↥S]?=gV (.lst (ab (b++(aK ↥w b).take i)))/\S'[lr]?=gV (.lst (ab (aK ↥w b)))/\Ka S S') rfl rfl ?_ (λi Z S' h=>h.2.2.1) ?_ ?_
 ·delta wE wV wG;show#[rfl,#[t,_,_,_,by rw[NC,Ln],#[[],by rw[Ln]],by rw[NC,Ln];show gp,by rw[NC,Ln];show mp],by rw[NC,Ln];show k4.get _ _ e2,e4,k2'.trans k4]
 ·rintro i x Z H hx ⟨⟨p,I,a9,g,rfl,⟨vs,s⟩,c,f⟩,D,er,k5⟩;unfold ab at hx;rw[Kg,J6]at hx;obtain⟨x,hx,rfl⟩:=hx;obtain⟨r1,r2,r3,C,r5⟩:=Cq M hx;clear hK;have e5:=k5.get _ _ e;have hll:↥S<↥H:=bF D;generalize hps:b++(aK ↥w b).take i=ps at c f D r2 r3 C ⊢;have r6:b++(aK ↥w b).take (i+1)=ps++[x]:=by rw[r5,<- L4,hps]
  show ac (show gh (.nm 9) (.int (x:Kb)) [gV R,gV (.ref q),gV (aw w),gV (.ref ↥S),gV (bN p),gV O5,gV (aw (ae bs w ps)),I,gV (.ref lr),a9,g] H=gV ([gV R,gV (.ref q),gV (aw w),gV (.ref ↥S),gV (bN p),gV O5,gV (aw (ae bs w ps)),I,gV (.ref lr),gV (.int (x:Kb)),g],H)from rfl) λQ2 V hr2=>?_
  rw[r6]at V;have hps2:↥ps<=800:=by
   have:=cw _ (Kj ↥w) C.nd λj hj=>Ky.mpr (C.lt j hj)
   rw[KL]at this;omega
  have o2:=dF C r1 r2;have J:=cU G L o2.lt o2.nd;have sb:=sw.part G cl L o2;rw[aZ]at J sb;have u:(ae bs w ps).length=↥ps:=aA ..;obtain⟨sb1,mx⟩:=Std.both.mp sb;have ex:(ae bs w ps++[aV bs w ps x])[↥ps]?=gV (aV bs w ps x):=by
   rw[Lv (by rw[u];show Kl _),u,Oa];rfl
  have gx:GoodP a ↥bs (ae bs w ps).length (aV bs w ps x):=#[J.mark _ _ ex,by rw[J.len _ _ ex,u],J.way _ _ ex]
  have m:GoodP a ↥bs (ae bs w ps).length p:=by rw[u];show c
  have B:ff U (ae bs w ps) (ae bs w ps).length p=true:=by rw[u];show f
  show st ?_;left;subst n;show j4 (d:=d+1) X G Y L (λy hy=>#[C.lt y hy,λz=>r2 (z▸hy)]) r1 ∅ D λS6 k6=>?_
  generalize n:W.tup [m0,.tup (Ku aG ns bs),b0]=R;show st ?_;left;show ac (i4 (by rw[u];omega)) ?_
  subst E;show Fi (d:=d) X J m (by rw[u];omega) r (k6.get _ _ e5) λwv hw=>?_
  generalize E:W.tup (ab (Kj ↥bs))=O5;have o:=k6.get _ _ D;have er6:=k6.get _ _ er;have k7:=k5.trans k6;nofun
  delta wS wT wE wA wV wG;rcases hw with⟨v,hv,rfl,P⟩|⟨rfl,N⟩
  ·show ac (show bh .is (.int (v:Kb)) .non _=gV (.bl false,_)from rfl) ?_
   delta wB;show aq (Q0:=Q2) (λz=>by cases z) (λ_ Q3 r _=>bu (r _ _ (hK _ _ ?_)))
   clear hK K r;obtain⟨g2,m2⟩:=zG m B hv P;rw[u]at g2 m2;show st ?_;left;show#[cM o,jK o (by unfold ab;rw[J4];omega) ?_]
   show st ?_;left;show ac (i4 (by rw[u];omega)) ?_
   show st ?_;left;show ak #v[] rfl (ak #v[] rfl ?_)
   subst n;subst E;show ac (ib (by rw[Kh,J4,c.len];show lb (by revert Lj;omega))) (bu (V _ _ #[#[(p.1,p.2++[(v:Ki)]),gV (.int (v:Kb)),gV (.int (x:Kb)),gV (bN (aV bs w ps x)),?_,#[vs++[(v:Ki)],?_],?_,?_],?_,?_,?_]))
   ·rw[show W.tup [.int p.1,.tup (p.2.map W.int++[.int ((v:Kb):Ki)])]=bN (p.1,p.2++[(v:Ki)]) by unfold bN;rw[KN];rfl,aZ]
   ·rw[s,L4]
   ·rw[Kh];show g2
   ·rw[aZ,Kh];show m2
   ·rw[bm o];unfold ab;rw[KN];rfl
   ·rw[bc ∅];show er6
   ·show k7.late (Kl _)
  ·show ac (show bh .is .non .non _=gV (.bl true,_)from rfl) ?_
   delta wB;show aq (Q0:=Q2) (λ_ Q3 _ hr3=>?_) (λz=>by cases z)
   show st ?_;left;have same:=zH hno G (cU G L C.lt C.nd) sb1 gx mx m B N;show hr3 _ _ (hr2 _ _ (k _ ps p _ #[#[_,vs,hps.symm,s],C,c,f,.inr #[x,r1,r2,r3,same]] o k7))
 ·rintro Z H ⟨⟨p,I,a9,g,rfl,⟨vs,s⟩,c,f⟩,D,er,k5⟩;have nl:(ab (aK ↥w b)).length=(aK ↥w b).length:=J4 ..;rw[nl,Li]at c f D;obtain⟨o2,l2⟩:=zK M;show hK _ _ (st ?_);left;show k _ _ p H #[#[_,vs,rfl,s],o2,c,f,.inl l2] D k5
end
def lH:∀{a acc:J2 (Ki×W)},((acc++a).map (·.1)).Nodup->mE acc a=acc++a
 |[],acc,_=>by rw[Ln];rfl
 |(k,v)::a,acc,h=>by
  have hk:(acc.any λp=>decide (p.1=k))=false:=by
   rw[N8];intro p b z;rw[KN,MJ]at h;show h.2.2 p.1 (Kn.mpr #[p,b,rfl]) k (by simp) (Lr z)
  change mE (km acc k v) a=_;have e:km acc k v=acc++[(k,v)]:=by
   unfold km;rw[hk,KS KJ]
  rw[e,lH (by simpa using h)]
  simp
abbrev sD (ps:J2 Kb)(vs:J2 Ki):J2 (Ki×W):=Ku (λ(j:Kb) (x:Ki)=>((j:Ki),W.int x)) ps vs
def nb:∀{ps:J2 Kb}{vs:J2 Ki},dg (pT (ab ps) (vs.map W.int))=gV (sD ps vs)
 |[],_=>rfl
 |_::_,[]=>rfl
 |p::ps,v::vs=>by
  show(dg (pT (ab ps) (vs.map W.int))).map _=_;rw[nb];rfl
def qP:∀{ps:J2 Kb}{vs:J2 Ki},↥ps=↥vs->(sD ps vs).map (·.1)=ps.map λ(p:Kb)=>(p:Ki)
 |[],[],_=>rfl
 |p::ps,v::vs,h=>by
  show(p:Ki)::(sD ps vs).map (·.1)=_
  rw[qP (by simpa using h)];rfl
 |[],_::_,h=>by cases h
 |_::_,[],h=>by cases h
def uG (k:Kb):∀{ps:J2 Kb}{vs:J2 Ki},↥ps=↥vs->k∈ps->dW (sD ps vs) (k:Ki)=gV (.int (vs.getD (ps.idxOf k) 0))
 |p::ps,v::vs,h,hk=>by
  by_cases e:p=k
  ·subst e;simp[sD,dW]
  ·have b:¬ ((p:Ki)=(k:Ki)):=∅
   have a:k∈ps:=by
    rcases KH.mp hk with z|z
    ·show absurd z.symm e
    ·show z
   have ih:=uG k (ps:=ps) (vs:=vs) (by simpa using h) a
   have c:dW (sD (p::ps) (v::vs)) (k:Ki)=dW (sD ps vs) (k:Ki):=by
    simp[sD,dW,b]
   rw[c,ih,RJ];have:(p==k)=false:=by simpa using e
   rw[this];rfl
 |[],_,_,hk=>by cases hk
 |_::_,[],h,_=>by cases h
section
variable{S:aa}{Q:QW}
def Fj {l:Kb}{ps:J2 Kb}{vs:J2 Ki}(h:S[l]?=gV (.lst (ab ps)))(nd:ps.Nodup)(hl:↥ps=↥vs)(q:Q (.ref ↥S,S++[.dik (sD ps vs)])):wO (Bi.dzip.fn [.ref l,.tup (vs.map W.int)] S) Q:=by
 show ac ?_ q;have a:yd S (.ref l)=gV (ab ps):=aC h;simp only[Bi.fn,tN,a,show yd S (.tup (vs.map W.int))=gV (vs.map W.int)from rfl,nb,KM]
 rw[lH (by rw[Pz,qP hl];show j5 nd)]
 rfl
def gF {l:Kb}{U:J2 (Ki×W)}(h:S[l]?=gV (.dik U)):v6 S l=gV U:=by simp[v6,h]
def uH {l:Kb}{U:J2 (Ki×W)}(h:S[l]?=gV (.dik U)):dU S l=td:=by simp[dU,h]
def Fk {l:Kb}{U:J2 (Ki×W)}(h:S[l]?=gV (.dik U))(q:Q (.int ↥U,S)):wO (Bi.len.fn [.ref l] S) Q:=by
 show ac ?_ q;have a:gO S l=td:=by simp[gO,jd,h]
 have b:kA [.ref l] S=td:=by simp[kA,dU,h]
 simp only[Bi.fn,qa,pI,a,b,xZ,h,BG,gF h,KM]
def zM {l k:Kb}{U:J2 (Ki×W)}{v:W}(h:S[l]?=gV (.dik U))(a:dW U (k:Ki)=gV v)(q:Q (v,S)):wO (ph (.ref l) (.int (k:Kb)) S) Q:=by
 show ac ?_ q;change sU (.ref l) (.int (k:Kb)) S=_;simp only[sU,uH h,gF h,a,KM]
def zN {l k:Kb}{U:J2 (Ki×W)}(h:S[l]?=gV (.dik U)):bh .notin (.int (k:Kb)) (.ref l) S=gV (.bl (!(dW U (k:Ki)).isSome),S):=by
 have a:gO S l=td:=by simp[gO,jd,h]
 have b:cp S (.ref l)=td:=uH h;simp only[bh,a,cD,rB,xn,b,Gr,gF h,KM]
def Fn {l k:Kb}{U:J2 (Ki×W)}{v:W}{R:aa->Prop}(h:S[l]?=gV (.dik U))(hl:↥U<1000)(q:R (S.set l (.dik (km U (k:Ki) v)))):wO (gZ (.ref l) (.int (k:Kb)) v S) R:=by
 show ac ?_ q;change o9 (.ref l) (.int (k:Kb)) v S=_;have a:mf S l=td:=by simp[mf,h]
 simp only[o9,a,gF h];rw[KC (Kw hl (iQ rfl))]
def Cr {l:Kb}{U:J2 (Ki×W)}(h:S[l]?=gV (.dik U))(q:Q (.ref ↥S,S++[.lst (U.map λp=>.int p.1)])):wO (Bi.list.fn [.ref l] S) Q:=by
 show ac ?_ q;have a:pc S l=td:=by simp[pc,h]
 have b:iH [.ref l] S=td:=by simp[iH,gO,jd,fm,cp,dU,h]
 have c:fI [.ref l] S=td:=by simp[fI,a,fm,cp,dU,h]
 simp only[Bi.fn,qa,b,c,tP,gF h,KM]
def Cs {l:Kb}{U:J2 (Ki×W)}(h:S[l]?=gV (.dik U))(q:Q (.ref ↥S,S++[.lst (U.map λp=>p.2)])):wO (Bi.vals.fn [.ref l] S) Q:=by
 show ac ?_ q;simp only[Bi.fn,tQ,gF h,KM]
def Fo {l x:Kb}{c:J2 Kb}(h:S[l]?=gV (.lst (ab c)))(f:x∈c)(A:∀y∈c,x<=y)(q:Q (.int (x:Kb),S)):wO (Bi.min.fn [.ref l] S) Q:=by
 show ac ?_ q;have g:eO (c.map λ(n:Kb)=>T.int (n:Ki))=true:=by
  unfold eO;rw[KD];intro a v;rw[KD];intro b w;obtain⟨i,_,rfl⟩:=Kn.mp v;obtain⟨j,_,rfl⟩:=Kn.mp w;simp[fK]
 obtain⟨t,o,s,u⟩:=lv (ks:=c.map λ(n:Kb)=>T.int (n:Ki)) (λy B=>by
  obtain⟨i,_,rfl⟩:=Kn.mp B;rfl) g (by
  intro z;rw[List.map_eq_nil_iff]at z;rw[z]at f;cases f)
 obtain⟨m,d,rfl⟩:=Kn.mp s;have e:m=x:=by
  have:=u (.int (x:Kb)) (Kn.mpr #[x,f,rfl]);have C:=A m d;simp only[fK,K1,N2]at this;omega
 subst e;rw[Kg,J6]at o;obtain⟨p,r,k⟩:=o;have k:(p:Ki)=m:=by injection k
 obtain rfl:p=m:=∅
 simp only[Bi.fn,xC,aC h,uA];rw[KC #[by rw[zy];show Ml _,g],fe r]
 rfl
end
def HH {S:aa}{p q:Pt}:bh .ne (bN p) (bN q) S=gV (.bl (!decide (p=q)),S):=by
 show((fE S (18+2) (bN p) (bN q)).map (λc=>!c)).map _=_
 rw[zp];rfl
section
variable{defs:J2 (KG×Df)}{fuel d:Kb}{S:aa}{Q:QW}
def Ct (X:LayP defs){m0 b0:W}{ns:J2 KG}{bs:J2 Ki}{a l:Kb}{w:Wd}{C ps:J2 Kb}{p0 p:Pt}{U:J2 (T×W)}{N:W}(M:GoodB bs)(s:↥ns=↥bs)(I:GoodW a ↥bs w)(hl:↥w<=800)(h:SprF a bs U w C p0 ps p)(e:S[l]?=gV (.lst (ab ps)))
  (k:∀x S',(x=↥w/\↥ps=↥w)\/(x<↥w/\x∉ps/\aV bs w ps x=p)->Ka S S'->Q (.int (x:Kb),S')) :
  wO (aL (ar defs fuel (d+3)) "place_of" 4 [.tup [m0,.tup (Ku aG ns bs),b0],aw w,.tup [.ref l,bN p],N] S) Q:=by
 show az X.place rfl rfl λg G=>?_
 replace k:∀x S',(x=↥w/\↥ps=↥w)\/(x<↥w/\x∉ps/\aV bs w ps x=p)->Ka S S'->g (.rt (.int (x:Kb)),S'):=λx S' J L=>G _ _ (k x S' J L)
 clear G;change wZ _ _ fj [gV (.tup [m0,.tup (Ku aG ns bs),b0]),gV (aw w),gV (.tup [.ref l,bN p]),gV N,td] S g;have D:(w.map bN).length=↥w:=J4 ..;have Z:(ab ps).length=↥ps:=J4 ..;have V:↥ps<=800:=by
  have:=cw _ (Kj ↥w) h.ord.nd λj P=>Ky.mpr (h.ord.lt j P)
  rw[KL]at this;omega
 generalize q:W.tup [m0,.tup (Ku aG ns bs),b0]=R;delta fj;nofun
 delta wS wT wE wA wV wG;show ak #v[] rfl (gS e (aF ?_))
 rw[D,Z];show ac la ?_;delta wB;show aq (Q0:=g) (λz E _ t=>?_) (λz E b _=>bu (b _ _ (hK _ _ ?_)))
 ·have z:((↥ps:Kb):Ki)=(↥w:Kb):=eq_of_beq z;show st ?_;left;show aF ?_;rw[D];show t _ _ (k _ _ (.inl #[rfl,∅]) .refl)
 clear hK b K;have r:↥ps≠↥w:=λz'=>by
  have:(((↥ps:Kb):Ki)==(↥w:Kb))=true:=by rw[z'];show Lk _
  rw[z]at this;cases this
 obtain⟨x,u,c,m,n⟩:=h.fin.resolve_left r;show st ?_;delta wS wE wA;show ig ↥w (λi=>decide (i∉ps)) (λi=>.int (i:Kb)) [gV (.tup [.ref l,bN p])] rfl rfl rfl rfl ∅ ?_ (λi hi f A=>?_) λf A=>?_
 ·delta wE wA wV wG;show aF #[?_,.refl];rw[D]
 ·delta eG wC wT wE wV wG;show ak #v[] rfl (ac (qO (A.get _ _ e)) ?_)
  delta wB;show#[λz=>#[z,rfl,.refl],λz=>#[z,.refl]]
 have H:(f++[O.lst (ab (aK ↥w ps))])[↥f]?=gV (.lst (ab (aK ↥w ps))):=aj;show Fo H (mem_rest.mpr #[u,c]) (λy o=>?_) ?_
 ·obtain⟨y1,y2⟩:=mem_rest.mp o;rcases Pp y x with h'|h'
  ·show absurd (m y h') y2
  ·show h'
 have B:Ka S (f++[O.lst (ab (aK ↥w ps))]):=A.trans .push;change wZ _ _ _ _ (f++[O.lst (ab (aK ↥w ps))]) g;generalize f++[O.lst (ab (aK ↥w ps))]=S4 at B ⊢;delta Kv;nofun
 delta wS wT wE wA wV wG;show ak #v[] rfl ?_
 subst q;show j4 (d:=d) X M s I (λy o=>#[h.ord.lt y o,λz=>c (z▸o)]) u ∅ (B.get _ _ e) λS5 Y=>?_
 show ak #v[] rfl ?_
 rw[n];show ac HH ?_;rw[Ld rfl];delta wB;show aq (Q0:=g) (λz=>by cases z) (λ_ E b _=>bu (b _ _ (hK _ _ (st ?_))))
 delta wS wE wV wG;show k _ _ (.inr #[u,c,n]) (B.trans Y)
def zO (X:LayP defs){n l:Kb}{ps:J2 Kb}{p:Pt}(g:Ord n ps)(hl:↥ps=n)(t:↥p.2=n)(s:n<=800)(e:S[l]?=gV (.lst (ab ps)))(k:∀S',Ka S S'->Q (bN (oH n ps p),S')) :
  wO (aL (ar defs fuel (d+1)) "point_behind" 1 [.tup [.ref l,bN p]] S) Q:=by
 show az X.behind rfl rfl λf j=>?_
 replace k:∀S',Ka S S'->f (.rt (bN (oH n ps p)),S'):=λS' h=>j _ _ (k S' h)
 clear j;change wZ _ _ cz [gV (.tup [.ref l,.tup [.int p.1,.tup (p.2.map W.int)]]),td] S f;have a:↥ps=↥p.2:=∅
 have r:(sD ps p.2).length=n:=by unfold sD;rw[NP];omega
 delta cz;show st ?_;left;show ak #v[] rfl (ak #v[] rfl (ak #v[] rfl (Fj e g.nd a ?_)))
 have b:(S++[O.dik (sD ps p.2)])[↥S]?=gV (.dik (sD ps p.2)):=aj;have m:Ka S (S++[O.dik (sD ps p.2)]):=.push;generalize S++[O.dik (sD ps p.2)]=S1 at b m ⊢;generalize ↥S=q1 at b ⊢;show st ?_;left;show ak #v[] rfl (ak #v[] rfl ?_)
 show ig n (λ_=>true) (λi=>.int (p.2.getD (ps.idxOf i) 0)) [gV (.ref q1)] rfl rfl rfl rfl ∅ ?_ (λi hi q c=>?_) λq c=>?_
 ·delta wE wA wV wG;show Fk b #[?_,.refl];rw[r]
 ·delta eG wC wE wV wG;show#[λ_=>zM (c.get _ _ b) (uG i a (dz g hl hi)) #[rfl,rfl,.refl],λz=>by cases z]
 ·rw[aU];show bZ aj ?_;have:=k _ (m.trans (c.trans (Ka.push (o:=O.lst ((Kj n).map λi=>W.int (p.2.getD (ps.idxOf i) 0))))))
  unfold bN oH eT dY at this;rw[K6,K6]at this;show this
end
def oK {L:J2 Wd}{U a:J2 (T×W)}{w:Wd}(h:HasD U L)(h':HasD a L)(s:Std U w):Std a w:=by
 intro k hk j b i hi;have:=s k hk j b i hi;unfold jv at this ⊢;rw[h'.get,<- h.get];show this
def LaidOk.congr {a:Kb}{bs:J2 Ki}{L:J2 Wd}{U d:J2 (T×W)}{one b w:Wd}{c:Pl}{e:J2 Kb}(h:HasD U L)(h':HasD d L)(x:LaidOk a bs U one b c w e):LaidOk a bs d one b c w e:=
 #[x.gw,oK h h' x.sw,x.ext,x.len,x.ord,x.part,x.pairs,x.new,x.all]
def Cu (L:Pl):(D2 L).map (·.1)=(L.map (·.1)).map λ(p:Kb)=>(p:Ki):=by
 unfold D2;rw[K6,K6];rfl
def qQ:∀L:Pl,dg (L.map λp=>W.tup [.int (p.1:Kb),.int (p.2:Kb)])=gV (D2 L)
 |[]=>rfl
 |p::L=>by
  show(dg (L.map λp=>W.tup [.int (p.1:Kb),.int (p.2:Kb)])).map _=_
  rw[qQ L];rfl
def jy {n:Kb}{ps:J2 Kb}(h:Ord n ps):↥ps<=n:=by
 have:=cw _ (Kj n) h.nd λj a=>Ky.mpr (h.lt j a)
 rwa [KL]at this
structure LayA (a:Kb)(bs:J2 Ki)(U:J2 (T×W))(one other:Wd)(L0:Pl):Prop where
 g1:GoodW a ↥bs one
 s1:Std U one
 g2:GoodW a ↥bs other
 s2:Std U other
 op:Ord ↥one (L0.map (·.2))
 oj:Ord ↥other (L0.map (·.1))
 same:ae bs one (L0.map (·.2))=ae bs other (L0.map (·.1))
section
variable{defs:J2 (KG×Df)}{fuel d:Kb}{S:aa}{Q:QW}
def Fp {l:Kb}{L:Pl}(h:S[l]?=gV (.lst (L.map λp=>W.tup [.int (p.1:Kb),.int (p.2:Kb)])))(nd:(L.map (·.1)).Nodup)(q:Q (.ref ↥S,S++[.dik (D2 L)])):wO (Bi.dict.fn [.ref l] S) Q:=by
 show ac ?_ q;simp only[Bi.fn,tM,aC h,qQ,KM];rw[lH (by rw[Pz,Cu];show j5 nd)]
 rfl
def Fq (X:LayP defs)(hfu:20<fuel){ms ns:J2 KG}{bs:J2 Ki}{a:Kb}{E:J2 Wd}{one b:Wd}{c:Pl}{kv:J2 (T×W)}(C:GoodB bs)(r:↥ns=↥bs)(hb3:↥bs<=3)(hgs:∀g∈E,GoodW a ↥bs g/\↥g=3)(h64:↥E<=100)
  (hno:∀U,HasD U (aW bs E)->¬ wc a bs U (↥bs+1)) (hkv:HasD kv (aW bs E)) (A:LayA a bs kv one b c) (hl:↥one+↥b<=400)
  (k:∀w pl S',LaidOk a bs kv one b c w pl->↥w<=↥one+↥b->Ka S S'->Q (.tup [aw w,.tup (ab pl)],S')) :
  wO (aL (ar defs fuel (d+5)) "laid" 4 [.tup [.tup (ms.map W.str),.tup (Ku aG ns bs),.tup (E.map aw)],aw one,aw b,.tup (c.map eJ)] S) Q:=by
 show az X.laid rfl rfl λQ' hR=>?_
 replace k:∀w pl S',LaidOk a bs kv one b c w pl->↥w<=↥one+↥b->Ka S S'->Q' (.rt (.tup [aw w,.tup (ab pl)]),S'):=λw pl S' h1 h2 h3=>hR _ _ (k w pl S' h1 h2 h3)
 clear hR;change wZ _ _ oI [gV (.tup [.tup (ms.map W.str),.tup (Ku aG ns bs),.tup (E.map aw)]),gV (aw one),gV (aw b),gV (.tup (c.map eJ)),td,td,td,td,td,td,td] S Q';have hL0:↥c<=400:=by
  have:=jy A.oj;rw[J4]at this;omega
 have ol:(b.map bN).length=↥b:=J4 ..;generalize hPW:W.tup (c.map eJ)=PW;generalize j:W.tup [.tup (ms.map W.str),.tup (Ku aG ns bs),.tup (E.map aw)]=R;delta oI;nofun
 delta wS wT wA wE wV wG;subst hPW;subst j;show Cp (d:=d) X C r A.g1 A.g2 A.op A.oj ∅ A.same λS1 k1=>?_
 generalize j:W.tup [.tup (ms.map W.str),.tup (Ku aG ns bs),.tup (E.map aw)]=R;show ac (show dJ _ (.bl true)=gV true from rfl) ?_
 show aq (Q0:=Q') (λz=>by cases z) (λ_ Q2 n _=>bu (n _ _ (hK _ _ ?_)))
 clear hK n K;show st ?_;left;subst j;show zv (d:=d) hfu X.way X.part X.orders X.barred C r hgs h64 λq U S2 e2 hd hq k2=>?_
 have hqS:=k1.len;generalize j:W.tup [.tup (ms.map W.str),.tup (Ku aG ns bs),.tup (E.map aw)]=R;have Y:=Di C hgs hd;have hun:=hno U hd;show st ?_;delta wS Kv;show mW (m:=(↥bs:Kb)) rfl (λP hP=>?_) ∅ λS3 k3=>?_
 ·delta wE wA wV wG;subst j;show ak #v[] rfl (aF ?_)
  rw[NP,r,Pk];show hP
 generalize hO5:W.tup (ab (Kj ↥bs))=O5;have e3:=k3.get _ _ e2;have k3':Ka S S3:=k1.trans (k2.trans k3);show st ?_;delta wS wE wV wG Kv;show st ?_;delta wS wE wA Kv;show lq c eJ (λ_=>true) (λp=>.tup [.int (p.1:Kb),.int (p.2:Kb)]) [] rfl rfl rfl rfl ∅ #[rfl,.refl] (λp _ B k4=>?_) λB k4=>?_
 ·delta eG wC wE wA wV wG;show#[λ_=>ak #v[] rfl (ak #v[] rfl #[rfl,rfl,.refl]),λz=>by cases z]
 rw[aU];have k5:Ka S3 (B++[O.lst (c.map λp=>W.tup [.int (p.1:Kb),.int (p.2:Kb)])]):=k4.trans .push
 show Fp aj A.oj.nd ?_;have e6:(B++[O.lst (c.map λp=>W.tup [.int (p.1:Kb),.int (p.2:Kb)])]++[O.dik (D2 c)])[(B++[O.lst (c.map λp=>W.tup [.int (p.1:Kb),.int (p.2:Kb)])]).length]?=gV (.dik (D2 c)):=aj
 have k6:Ka S3 (B++[O.lst (c.map λp=>W.tup [.int (p.1:Kb),.int (p.2:Kb)])]++[O.dik (D2 c)]):=k5.trans .push
 have hld:↥S<=(B++[O.lst (c.map λp=>W.tup [.int (p.1:Kb),.int (p.2:Kb)])]).length:=Lq k3'.len k5.len
 have hq3:q<↥S3:=bF e3;have hqd:q<(B++[O.lst (c.map λp=>W.tup [.int (p.1:Kb),.int (p.2:Kb)])]).length:=Kw hq3 k5.len
 change wZ _ _ _ _ (B++[O.lst (c.map λp=>W.tup [.int (p.1:Kb),.int (p.2:Kb)])]++[O.dik (D2 c)]) Q'
 generalize B++[O.lst (c.map λp=>W.tup [.int (p.1:Kb),.int (p.2:Kb)])]++[O.dik (D2 c)]=S6 at e6 k6 ⊢
 generalize(B++[O.lst (c.map λp=>W.tup [.int (p.1:Kb),.int (p.2:Kb)])]).length=ld at e6 hld hqd ⊢
 have e7:=k6.get _ _ e3;have k7:=k3'.trans k6;clear k6 k5 k4 k3' k3 e3 e2 k2 k1;nofun
 show cv (↥b:Ki) (λi Z S'=>(∃w L a8 a9 N,Z=[gV R,gV (aw one),gV (aw b),gV (.tup (c.map eJ)),gV (.ref q),gV O5,gV (aw w),gV (.ref ld),a8,a9,N]/\LayI a bs U one b c i w L/\↥w<=↥one+i/\S'[ld]?=gV (.dik (D2 L)))/\S'[q]?=gV (.dic U)/\Ka S S') rfl rfl ∅ ?_ ?_ ?_
 ·delta wE wA wV wG;show aF ?_;rw[ol];show#[rfl,#[one,c,_,_,_,rfl,.start A.g1 (oK hkv hd A.s1) A.op A.oj A.same,Kl _,e6],e7,k7]
 ·rintro i Z S8 hi ⟨⟨w,L,a8,a9,N,rfl,I,hwl,e8⟩,q8,k8⟩ Q2 n hr2;clear hK;have s:i<↥b:=∅
  have hLl:(D2 L).length<=400:=by
   have:=jy I.oj;unfold D2;rw[J4]at this ⊢;omega
  have hw8:↥w<=800:=∅
  delta Kv;nofun
  delta wS wT wE wA wV wG;show ac (zN e8) ?_;rw[jZ];delta wB
  by_cases G:i∈L.map (·.1)
  ·rw[KC G];show aq (Q0:=Q2) (λz=>by cases z) (λ_ Q3 H _=>bu (H _ _ (hK _ _ (bu (n _ _ #[#[w,L,_,_,_,rfl,I.skip G,∅,e8],q8,k8])))))
  rw[KS G];show aq (Q0:=Q2) (λ_ Q3 H _=>?_) (λz=>by cases z)
  obtain⟨wg,wm⟩:=I.wish C Y A.g2 (oK hkv hd A.s2) s G;have keysE:((D2 L).map λp=>W.int p.1)=ab (L.map (·.1)):=by unfold D2 ab;rw[K6,K6];rfl
  have valsE:((D2 L).map λp=>p.2)=ab (L.map (·.2)):=by unfold D2 ab;rw[K6,K6];rfl
  have ll1:(L.map (·.1)).length<=400:=by have:=jy I.oj;omega
  show st ?_;left;show Cr e8 ?_;rw[keysE];subst j;show j4 (d:=d+2) X C r A.g2 (λy hy=>#[I.oj.lt y hy,λz=>G (z▸hy)]) s ∅ aj λS9 k9=>?_
  have k9':=(Ka.push (o:=O.lst (ab (L.map (·.1)))) (S:=S8)).trans k9
  have e9:=k9'.get _ _ e8;have q9:=k9'.get _ _ q8;show st ?_;left;show Cs e9 ?_;rw[valsE];subst hO5;show zL (d:=d) X C r hb3 Y hun I.gw I.sw hw8 I.op wg wm (au q9) aj λl ps p S10 f e10 k10=>?_
  have u:=(Ka.push (o:=O.lst (ab (L.map (·.2)))) (S:=S9)).trans k10
  have e10d:=u.get _ _ e9;have q10:=u.get _ _ q9;show st ?_;left;show Ct (d:=d+1) X C r I.gw hw8 f e10 λx h hx M=>?_
  have V:=M.get _ _ e10d;have q11:=M.get _ _ q10;have l11:=M.get _ _ e10;have k12:Ka S h:=k8.trans (k9'.trans (u.trans M));show Fn V ∅ ?_
  rw[Co G];have D:(h.set ld (.dik (D2 (L++[(i,x)]))))[ld]?=gV (.dik (D2 (L++[(i,x)]))):=bm V;have q12:(h.set ld (.dik (D2 (L++[(i,x)]))))[q]?=gV (.dic U):=by rw[bc ∅];show q11
  have k13:Ka S (h.set ld (.dik (D2 (L++[(i,x)])))):=k12.late hld;have hlne:l≠ld:=λz=>by rw[z,V]at l11;cases l11
  have l12:(h.set ld (.dik (D2 (L++[(i,x)]))))[l]?=gV (.lst (ab ps)):=by rw[bc (λz=>hlne z.symm)];show l11
  have gx:dW (D2 (L++[(i,x)])) (i:Ki)=gV (.int (x:Kb)):=by
   have hmm:i∈(L++[(i,x)]).map (·.1):=by simp
   have nd:((L++[(i,x)]).map (·.1)).Nodup:=by rw[(LayI.two L i x).1];show(dF I.oj s G).nd
   rw[jZ,KC hmm,show lE (L++[(i,x)]) i=x from lF nd (p:=(i,x)) (by simp)]
  generalize h.set ld (.dik (D2 (L++[(i,x)])))=S12 at D q12 k13 l12 ⊢;obtain⟨⟨t,vs,J,hp⟩,_,_,_,_⟩:=id f;have pl0:(aV bs b (L.map (·.1)) i).2.length=(L.map (·.2)).length:=wg.len
  show aR λK2 hK2=>?_
  delta wS wT wE wA wV wG;show zM D gx (aF ?_);rw[show(w.map bN).length=↥w from J4 ..]
  show ac la ?_;delta wB;rcases hx with⟨rfl,e⟩|⟨hxw,hxp,hov⟩
  ·rw[Lk];show aq (Q0:=Q3) (λ_ Q4 hn4 _=>?_) (λz=>by cases z)
   obtain⟨b1,b2,b3⟩:=Ff C Y I.gw I.sw f.ord e f.gp f.mp;show st ?_;left;show zO (d:=d+3) X f.ord e (by rw[f.gp.len];show e) hw8 l12 λS13 k14=>?_
   show ac (i4 ∅) (bu (hn4 _ _ (hK2 _ _ (bu (H _ _ (hK _ _ (bu (n _ _ #[#[w++[oH ↥w ps p],L++[(i,↥w)],_,_,_,rfl,?_,by rw[Kh,Lj];omega,k14.get _ _ D],k14.get _ _ q12,k13.trans k14]))))))))
   show I.put C s G b1 b2 ?_;have:=b3;rw[J,hp]at this;rw[vT pl0 (q:=oH ↥w ps p) (by rw[J,hp];show this)]
  ·have:(((x:Kb):Ki)==(↥w:Kb))=false:=by simp;omega
   rw[this];show aq (Q0:=Q3) (λz=>by cases z) (λ_ Q4 hn4 _=>bu (hn4 _ _ (hK2 _ _ (bu (H _ _ (hK _ _ (bu (n _ _ #[#[w,L++[(i,x)],_,_,_,rfl,?_,∅,D],q12,k13]))))))))
   show I.on s G hxw (λz=>hxp (by rw[J];show Lo _ z)) ?_
   rw[J,hp]at hov;rw[zI pl0 hov]
 ·rintro Z S8 ⟨⟨w,L,a8,a9,N,rfl,I,hwl,e8⟩,q8,k8⟩;rw[Kz]at I hwl;have fin:=I.done C A.g2;show hK _ _ (st ?_);left;show ig ↥b (λ_=>true) (λi=>.int (lE L i:Kb)) [gV (.ref ld)] rfl rfl rfl rfl ∅ ?_ (λi hi S9 k9=>?_) λS9 k9=>?_
  ·delta wE wA wV wG;show aF #[?_,.refl];rw[ol]
  ·delta eG wC wE wV wG;show#[λ_=>zM (k9.get _ _ e8) (by rw[jZ,KC (I.num i hi)]) #[rfl,rfl,.refl],λz=>by cases z]
  ·rw[aU];show bZ aj ?_;have:=k w (cy ↥b L) _ (fin.congr hd hkv) hwl (k8.trans (k9.trans (Ka.push (o:=O.lst ((Kj ↥b).map λi=>W.int (lE L i:Kb))))))
   unfold ab cy at this;rw[K6]at this;show this
def uI (G:Gen defs){m0 b0:W}{ns:J2 KG}{bs:J2 Ki}{a l:Kb}{u:Wd}{ps:J2 Kb}(I:GoodB bs)(hl:↥ns=↥bs)(N:GoodW a ↥bs u)(f:∀p∈ps,p<↥u)(s:ps.Nodup)(hsz:↥ps<1000)(o:S[l]?=gV (.lst (ab ps)))(k:∀S',Ka S S'->Q (aw (ae bs u ps),S')) :
  wO (aL (ar defs fuel (d+2)) "_law_part" 3 [.tup [m0,.tup (Ku aG ns bs),b0],aw u,.ref l] S) Q:=by
 show az G.part rfl rfl λy C=>?_
 replace k:∀S',Ka S S'->y (.rt (aw (ae bs u ps)),S'):=λS' a=>C _ _ (k S' a)
 clear C;change wZ _ _ cN [gV (.tup [m0,.tup (Ku aG ns bs),b0]),gV (aw u),gV (.ref l),td,td,td] S y;generalize r:W.tup [m0,.tup (Ku aG ns bs),b0]=R;have L:=bF o;delta cN;show st ?_;delta wS wE wA Kv;nofun
 have T:(ab ps).length=↥ps:=J4 ..;show cv (↥ps:Ki) (λk Z S'=>(∃m n,Z=[gV R,gV (aw u),gV (.ref l),gV (.ref ↥S),m,n])/\S'[↥S]?=gV (.lst (((ae bs u ps).take k).map bN))/\S'[l]?=gV (.lst (ab ps))/\Ka S S') rfl rfl ∅ ?_ ?_ ?_
 ·delta wE wA wV wG;show gS (au o) ?_;rw[T];show#[rfl,#[td,td,rfl],aj,au o,.push]
 ·rintro i Z S1 hi ⟨⟨m,n,rfl⟩,c,x,w⟩ U M _;clear hK;have b:i<↥ps:=∅
  have D:ps[i]?=gV ps[i]:=Ke b;have g:ps[i]<↥u:=f _ (Ll b);delta Kv;show st ?_;delta wS wE wV wG Kv;show dR x (fe D) ?_;show st ?_;left;show#[cM c,ak (Kq _) (cx g) (ak #v[] rfl ?_)]
  show sn (ps.take i) (λ(q:Kb)=>W.int (q:Ki)) (λ_=>true) (λq=>W.int (aY bs u ps[i] q)) [gV (.int ps[i]),gV R,gV (aw u)] rfl rfl rfl rfl (by rw[KY];omega) ?_ (λq E H h=>?_) λH h=>?_
  ·delta wE wP wV wG wN;show ac (a:=(.ref ↥S1,S1++[.lst (ab (ps.take i))])) ?_ #[_,rfl,aj,.push];simp only[rC,aC x,dS];unfold ab;rw[MD]
  ·delta eG wC wE wA wV wG;subst r;have t:=LW E;show#[λ_=>mP (d:=d) G I hl N g (f _ t) (λe=>?_) #[rfl,rfl,.refl],λz=>by cases z]
   obtain⟨j,J,B⟩:=LS.mp E;rw[KY]at J;rw[Mm]at B;have:=(L1 s).mp (B.trans e.symm);omega
  ·rw[aU];show bZ aj ?_;have A:=au (u:=O.lst ((ps.take i).map λq=>W.int (aY bs u ps[i] q))) (h.get _ _ c)
   have P:=au (u:=O.lst ((ps.take i).map λq=>W.int (aY bs u ps[i] q))) (h.get _ _ x)
   show jK A (by rw[J4,KY];omega) (bu (M _ _ #[#[_,_,rfl],?_,?_,((w.trans h).trans .push).late (Kl _)]))
   ·rw[bm A];have ep:(ae bs u ps)[i]?=gV ((u.getD ps[i] (0,[])).1,(ps.take i).map λq=>aY bs u ps[i] q):=by
     unfold ae;rw[Kg,LO b,KM,getD_some D]
    rw[K7,ep];simp[bN,OX]
   ·rw[bc ∅];show P
 ·rintro Z S1 ⟨⟨m,n,rfl⟩,c,_,w⟩;rw[Kz,<- aA bs u ps,Li]at c;show hK _ _ (st ?_);left;show bZ c (k _ w)
end
def uJ {α:Type}(f:α->W):∀(xs:J2 α) (i:Kb),(xs.map f).eraseIdx i=(xs.eraseIdx i).map f
 |[],i=>by cases i<;>rfl
 |x::xs,0=>rfl
 |x::xs,i+1=>by
  change f x::(xs.map f).eraseIdx i=f x::(xs.eraseIdx i).map f;rw[uJ f xs i]
section
variable{defs:J2 (KG×Df)}{fuel d:Kb}{S:aa}{r:Kb}{Q:QW}
def zP {α:Type}(f:α->W)(G:Gen defs)(hg:Is defs ("_law_shuffled": KG) 2 4 bB){l:Kb}{j:J2 α}(U:Fl S r)(e:S[l]?=gV (.lst (j.map f)))(hl:↥j<=900)(I:↥j<fuel)
  (k:∀(q:Kb) (ps:J2 α) S',S'[q]?=gV (.lst (ps.map f))->ps.Perm j->↥S<=q->Fl S' r->Kp r S S'->Q (.ref q,S')) :
  wO (aL (ar defs fuel (d+2)) "_law_shuffled" 2 [.ref r,.ref l] S) Q:=by
 show az hg rfl rfl λP T=>?_
 replace k:∀(q:Kb) (ps:J2 α) S',S'[q]?=gV (.lst (ps.map f))->ps.Perm j->↥S<=q->Fl S' r->Kp r S S'->P (.rt (.ref q),S'):=λa b c e f g h i=>T _ _ (k a b c e f g h i)
 clear T;change wZ _ _ bB [gV (.ref r),gV (.ref l),td,td] S P;have hrt:=U.lt;have N:∀xs:J2 α,(xs.map f).length=↥xs:=λxs=>J4 ..
 delta bB;show st ?_;left;show uE e ?_;show st ?_;delta wS wE wA Kv;have X:(S++[O.lst (j.map f)]).length=↥S+1:=by simp
 nofun
 show C8 (λm Z S'=>Z=[gV (.ref r),gV (.ref l),gV (.ref ↥S),gV (.ref (S++[O.lst (j.map f)]).length)]/\∃xs ps:J2 α,S'[↥S]?=gV (.lst (xs.map f))/\S'[(S++[O.lst (j.map f)]).length]?=gV (.lst (ps.map f))/\(xs++ps).Perm j/\↥xs=m/\Fl S' r/\Kp r S S') ↥j rfl rfl I #[rfl,j,[],au aj,aj,by rw[Ln],rfl,U.ka (Ka.push.trans .push),(Ka.push.trans .push).kp r] ?_
 rintro m Z E ⟨rfl,xs,ps,C,D,y,hm,R,V⟩;rw[X]at D;rw[X];have hsz:↥xs+↥ps=↥j:=by rw[<- Kh];show y.length_eq
 have H:=bF C;have h3:=bF D;delta wT wE wA wV wG;show ac (HE (au C) aj) ?_;delta wB;have n:=au (u:=O.lst []) C;have p:=au (u:=O.lst []) D;have t:=R.ka (Ka.push (o:=O.lst []));have w:=V.trans (Kp.push (o:=O.lst []));clear C D R V H h3;generalize E++[O.lst []]=E at n p t w;show#[λh=>?_,λh=>?_]
 ·have L:xs≠[]:=λz=>by rw[z]at h;simp at h
  have hx0:0<↥xs:=Qm.mpr L;show#[m-1,∅,λQ2 hn _=>?_]
  clear hK k;show st ?_;left;show#[cM p,cM n,gS n ?_];rw[N];show bE (d:=d) G.pick t ∅ ∅ λv Y v0 v1 f3 M=>?_
  have s:=M.get _ _ ∅ n
  have A:=M.get _ _ ∅ p
  have J:v.toNat<↥xs:=∅
  show HB s v0 (by rw[Kg,Ke J];rfl) (by rw[N];omega) ?_
  have B:(Y.set ↥S (.lst ((xs.map f).eraseIdx v.toNat)))[↥S+1]?=gV (.lst (ps.map f)):=by rw[bc ∅];show A
  have pm:(xs.eraseIdx v.toNat++(ps++[xs[v.toNat]])).Perm (xs++ps):=by
   have h1:xs.Perm (xs[v.toNat]::xs.eraseIdx v.toNat):=(pb J).symm;have H:(ps++[xs[v.toNat]]).Perm (xs[v.toNat]::ps):=List.perm_append_singleton ..;show(SQ _ H).trans (Pe.trans ?_);show(SN ps h1).symm
  show jK B (by rw[N];omega) (bu (hn _ _ #[rfl,xs.eraseIdx v.toNat,ps++[xs[v.toNat]],?_,?_,pm.trans y,?_,(f3.own ∅).own ∅,((w.trans M).late ∅).late ∅]))
  ·rw[bc ∅,bm s,uJ]
  ·rw[bm B,KN];rfl
  ·rw[List.length_eraseIdx,KC J];omega
 ·have L:xs=[]:=by
   cases xs with
   |nil=>rfl
   |cons x xs=>simp at h
  subst L;show hK _ _ (st ?_);delta wS wE wV wG;show k _ ps E p y ∅ t w
end
abbrev eU:Ss:=
 #v[.loop (.nm 3) (.rng2 #v[.c (.int 2),.bi .len #v[.v 2]]) #v[.ite (.not (.own "_law_last_may" 4 #v[.v 0,.v 1,.v 2,.v 3])) #v[.ret (.c (.bl false))] .nil],.ret (.c (.bl true))]
section
variable{defs:J2 (KG×Df)}{fuel d:Kb}{S:aa}{Q:QW}
def sE (E:Is defs ("_law_last_may": KG) 4 8 bz){R:W}{a n q k:Kb}{u:Wd}{U:J2 (T×W)}(B:GoodW a n u)(hk:k<↥u)(hl:↥u<=1000)(e:S[q]?=gV (.dic U))(o:ff U u k (u.getD k (0,[]))=true)(y:Q (.bl true,S)) :
  wO (aL (ar defs fuel (d+1)) "_law_last_may" 4 [R,.ref q,aw u,.int (k:Ki)] S) Q:=by
 show az E rfl rfl λC A=>?_
 replace y:=A _ _ y;clear A;change wZ _ _ bz [gV R,gV (.ref q),gV (aw u),gV (.int (k:Ki)),td,td,td,td] S C;have G:(u.getD k (0,[])).2.length=k:=B.len k _ (ap (d:=(0,[])) hk);have f:∀p<k,((u.map bN)[((p:Kb):Ki).toNat]?=gV (bN (u.getD p (0,[])))):=λp I=>cx ∅
 have hw:∀p<k,(ah (u.getD k (0,[])).2)[((p:Kb):Ki).toNat]?=gV (.int ((u.getD k (0,[])).2.getD p 0)):=λp I=>by
  rw[Kz];unfold ah;rw[Kg,ap (d:=0) ∅];rfl
 have o:=eu.mp o;delta bz;show st ?_;delta wS wE wV wG;show ak (Kq _) (cx hk) ?_;generalize u.getD k (0,[])=h at G hw o;delta wU bN;show ac (show dc [4,5] [.int h.1,.tup (h.2.map W.int)] [gV R,gV (.ref q),gV (aw u),gV (.int (k:Ki)),td,td,td,td]=gV [gV R,gV (.ref q),gV (aw u),gV (.int (k:Ki)),gV (.int h.1),gV (.tup (ah h.2)),td,td]from rfl) ?_
 nofun
 show iU 1 (k:Ki) (λm Z S'=>(∃s c,Z=[gV R,gV (.ref q),gV (aw u),gV (.int (k:Ki)),gV (.int h.1),gV (.tup (ah h.2)),s,c])/\S'=S) rfl rfl rfl ∅ #[rfl,rfl,#[_,_,rfl],rfl] ?_ ?_
 ·rintro m Z S1 H ⟨⟨s,c,rfl⟩,rfl⟩ N l J;clear hK;rw[show(1:Ki)+m=((m+1:Kb):Ki) by omega]
  have b:m+1<k:=∅
  generalize P:m+1=j at b l;delta Kv;nofun
  show cv (j:Ki) (λi Z S'=>(∃c,Z=[gV R,gV (.ref q),gV (aw u),gV (.int (k:Ki)),gV (.int h.1),gV (.tup (ah h.2)),gV (.int (j:Ki)),c])/\S'=S1) rfl rfl ∅ #[rfl,#[_,rfl],rfl] ?_ ?_
  ·rintro i Z r hi ⟨⟨c,rfl⟩,rfl⟩ D t L;clear hK;have g:i<j:=∅
   have M:i<(u.getD j (0,[])).2.length:=by rw[B.len j _ (ap (d:=(0,[])) ∅)];show g
   delta Kv;nofun
   delta wS wT wE wA wV wG;show ak (Kq i) (f i ∅) (ak #v[] rfl (ak (Kq j) (f j b) (ak #v[] rfl (ak (Kq j) (f j b) (ak #v[] rfl (ak (w:=.int ((u.getD j (0,[])).2.getD i 0)) (Kq i) (by rw[Kz,Kg,ap (d:=0) M];rfl) (ak (Kq i) (hw i ∅) (ak (Kq j) (hw j b) ?_))))))))
   show ac (show bh .isin (aw [((u.getD i (0,[])).1,[]),((u.getD j (0,[])).1,[(u.getD j (0,[])).2.getD i 0]),(h.1,[h.2.getD i 0,h.2.getD j 0])]) (.ref q) r=gV (.bl (fw U u h i j),r) by simp only[bh,bQ e,oq];rfl) ?_
   delta wB;rw[o j b i g];show aq (Q0:=D) (λz=>by cases z) (λ_ O x _=>bu (x _ _ (hK _ _ (bu (t _ _ #[#[_,rfl],rfl])))))
  ·rintro Z r ⟨⟨c,rfl⟩,rfl⟩;show hK _ _ (bu (l _ _ #[#[_,_,rfl],rfl]))
 ·rintro Z S1 ⟨⟨s,c,rfl⟩,rfl⟩;show hK _ _ (st ?_);delta wS wE;show y
def vU (g:Is defs ("_law_last_may": KG) 4 8 bz)(p:Is defs ("_law_may": KG) 3 4 eU){R:W}{a n q:Kb}{u:Wd}{U:J2 (T×W)}(s:GoodW a n u)(hl:↥u<=1000)(e:S[q]?=gV (.dic U))(r:Std U u)(k:Q (.bl true,S)) :
  wO (aL (ar defs fuel (d+2)) "_law_may" 3 [R,.ref q,aw u] S) Q:=by
 show az p rfl rfl λi o=>?_
 change wZ _ _ eU [gV R,gV (.ref q),gV (aw u),td] S i;have w:(u.map bN).length=↥u:=J4 ..;delta eU;nofun
 show iU 2 (↥u:Ki) (λm Z S'=>(∃f,Z=[gV R,gV (.ref q),gV (aw u),f])/\S'=S) rfl rfl rfl ∅ ?_ ?_ ?_
 ·delta wE wA wV wG;show#[rfl,aF ?_];rw[w];show#[rfl,#[_,rfl],rfl]
 ·rintro m Z S1 C ⟨⟨f,rfl⟩,rfl⟩ l c _;clear hK;rw[show(2:Ki)+m=((m+2:Kb):Ki) by omega]
  have b:m+2<↥u:=∅
  generalize B:m+2=j at b c;delta Kv;nofun
  delta wS wT wE wA wV wG;show sE (d:=d) g s b hl e (eu.mpr λy v x t=>r j b y v x t) ?_
  show ac (show dJ S1 (.bl true)=gV true from rfl) ?_
  show aq (Q0:=l) (λz=>by cases z) (λ_ A h _=>bu (h _ _ (hK _ _ (bu (c _ _ #[#[_,rfl],rfl])))))
 ·rintro Z S1 ⟨⟨f,rfl⟩,rfl⟩;show hK _ _ (st ?_);delta wS wE;show o _ _ k
end
section
variable{M:KG->FF}{Z:Fm}{S:aa}
def sF {e:E}{n:Kb}{m:Ki}{Q:QW}(c:m=n)(b:∀Q:QW,Q (.int m,S)->wE M e Z S Q)(d:n<=1000)(k:∀(t:Kb) S',S'[t]?=gV (.lst (ab (Kj n)))->↥S<=t->Ka S S'->Q (.ref t,S')):wE M (.bi .list #v[.bi .range #v[e]]) Z S Q:=by
 have a:Bi.range.fn [.int m] S=gV (.ref ↥S,S++[.rng 0 m]):=by
  revert Bi.fn kC;rw[KC #[∅,∅]]
 have h:wO (Bi.list.fn [.ref ↥S] (S++[O.rng 0 m])) Q:=by
  subst c;show Ch aj d (k _ _ aj (by simp) (Ka.push.trans .push))
 have g:wO (Bi.range.fn [.int m] S) λp=>wO (Bi.list.fn [p.1] p.2) Q:=by
  rw[a];show h
 rw[wE,wA];rw[wE,wA];show b _ g
end
def HI {S:aa}{l:Kb}{ps:J2 Kb}{k:Kb}{Q:QW}(e:S[l]?=gV (.lst (ab ps)))(hk:k∈ps)(hl:↥ps<=1000)(q:Q (.int (ps.idxOf k:Kb),S)):wO (Me.index.fn (.ref l) [.int (k:Ki)] S) Q:=by
 show ac ?_ q;have c:(aN (.int (k:Ki))&&(ab ps).all aN)=true:=by
  rw[Kc];show#[rfl,KD.mpr λx g=>?_]
  obtain⟨i,_,rfl⟩:=Kn.mp g;rfl
 have hd:decide ((ab ps).length<=1000000)=true:=Ld (by rw[show(ab ps).length=↥ps from J4 ..];omega)
 have b:(ab ps).findIdx? (λz=>kq z (.int (k:Ki)))=gV (ps.idxOf k):=by
  unfold ab;rw[List.findIdx?_map];rw[Mv];have a:=LG hk;show#[a,?_,λj d=>?_]
  ·change kq (.int ((ps[ps.idxOf k]:Kb):Ki)) (.int (k:Ki))=true;rw[MV];show((k:Ki)==(k:Ki))=true;show Lk _
  ·change ¬ kq (.int ((ps[j]:Kb):Ki)) (.int (k:Ki))=true;intro z;have z:(((ps[j]:Kb):Ki)==(k:Ki))=true:=z;have z:ps[j]=k:=by have:=eq_of_beq z;omega
   have f:=List.not_of_lt_findIdx (p:=λy=>y==k) (xs:=ps) (i:=j) d
   simp[z]at f
 change kL (.ref l) (.int (k:Ki)) S=_;unfold kL;rw[show cp S (.ref l)=gV (ab ps)from aC e]
 dsimp only;rw[c,hd,b];rfl
def nh {bs:J2 Ki}:∀{v u:Wd}{ps:J2 Kb},(∀k∈ps,k<↥u)->ae bs (u++v) ps=ae bs u ps
 |[],u,ps,_=>by rw[Ln]
 |p::v,u,ps,h=>by
  rw[show u++p::v=(u++[p])++v by simp,nh (λk hk=>by rw[Kh];show Kw (h k hk) (NG _ _)),qN h]
def io (ps:J2 Kb):(Kj ↥ps).map (λk=>ps.getD k 0)=ps:=by
 show Mu (by rw[J4,KL]) λk b a=>?_
 rw[NF,OJ,Kk,Ke a];rfl
def lI {n:Kb}{xs ys:J2 Kb}(h:Ord n ys)(p:xs.Perm ys):Ord n xs:=#[p.nodup_iff.mpr h.nd,λx a=>h.lt x (p.mem_iff.mp a)]
def Fs {a:Kb}{bs:J2 Ki}{U:J2 (T×W)}{u o ext:Wd}{ps b:J2 Kb}{c:Pl}(l:GoodB bs)(A:Cl bs U)(s:GoodW a ↥bs u)(H:Std U u)(go:GoodW a ↥bs o)(G:Std U o)(v:Ord ↥u ps)(r:o=ae bs u ps++ext)
  (f:Ord ↥o b) (d:↥b=↥o) (pm:c.Perm ((Kj ↥ps).map λk=>(b.idxOf k,ps.getD k 0))):LayA a bs U u (ae bs o b) c:=by
 have C:↥ps<=↥o:=by rw[r,Kh,aA];omega
 have mem:∀p∈c,∃k<↥ps,b.getD p.1 0=k/\p.2=ps.getD k 0:=λp j=>by
  obtain⟨k,hk,rfl⟩:=Kn.mp (pm.mem_iff.mp j);have hk:=Ky.mp hk;show#[k,hk,?_,rfl];have n:k∈b:=dz f d ∅
  have i:=LG n;change b.getD (b.idxOf k) 0=k;rw[Kk,Ke i];show MV i
 have op:Ord ↥u (c.map (·.2)):=by
  show lI v ?_;have:=pm.map (·.2)
  rw[K6]at this;show this.trans (TN (io ps))
 have w:(ae bs o b).length=↥o:=by rw[aA,d]
 have y:Ord (ae bs o b).length (c.map (·.1)):=by
  obtain⟨i1,_,_⟩:=oG f d;rw[w];have z:=pm.map (·.1)
  rw[K6]at z;show lI (ys:=(Kj ↥ps).map λk=>b.idxOf k) ?_ z
  have e:(Kj ↥ps).map (λk=>b.idxOf k)=(dY ↥o b).take ↥ps:=by
   unfold dY;rw[<- MD,List.take_range,RH C]
  rw[e];show#[i1.nd.sublist (N4 _ _),λx D=>i1.lt x (LW D)]
 show#[s,H,cU l go f.lt f.nd,G.part l A go f,op,y,?_];have q:c.map (·.2)=(c.map λp=>b.getD p.1 0).map λk=>ps.getD k 0:=by
  rw[K6];show Le λp j=>?_
  obtain⟨k,hk,m,t⟩:=mem p j;change p.2=ps.getD (b.getD p.1 0) 0;rw[m,t]
 have B:(c.map (·.1)).map (λk=>b.getD k 0)=c.map λp=>b.getD p.1 0:=by
  rw[K6];rfl
 have g:∀k∈c.map (λp=>b.getD p.1 0),k<↥ps:=λk hk=>by
  obtain⟨p,j,rfl⟩:=Kn.mp hk;obtain⟨k,hk,m,t⟩:=mem p j;rw[m];show hk
 have E:Ord ↥ps (c.map λp=>b.getD p.1 0):=by
  show#[?_,g];have:=op.nd;rw[q]at this;rw[L9,M6]at this;show L9.mpr (this.imp λh e=>h (by rw[e]))
 rw[q,<- bA l s v E,bA l go f (by rw[d,<- w];show y),B,r,nh λk hk=>by rw[aA];show g k hk]
section
variable{defs:J2 (KG×Df)}{fuel d:Kb}{S:aa}{r:Kb}
def JJ (G:Gen defs)(A:Is defs ("_law_shuffled": KG) 2 4 bB){Z:Fm}{n j:Kb}{z:Ki}{e:E}{Q:QW}(B:z=n)(D:n<=900)(u:n<fuel)(s:Fl S r)(w:∀P:W->Prop,P (.ref r)->wV Z j P)(b:∀Q:QW,Q (.int z,S)->wE (ar defs fuel (d+2)) e Z S Q)
  (k:∀(l:Kb) (ps:J2 Kb) S',S'[l]?=gV (.lst (ab ps))->Ord n ps->↥ps=n->↥S<=l->Fl S' r->Kp r S S'->Q (.ref l,S')) :
  wE (ar defs fuel (d+2)) (.own "_law_shuffled" 2 #v[.v j,.bi .list #v[.bi .range #v[e]]]) Z S Q:=by
 have f:∀Q:QW,(∀(t:Kb) S',S'[t]?=gV (.lst (ab (Kj n)))->↥S<=t->Ka S S'->Q (.ref t,S'))->wE (ar defs fuel (d+2)) (.bi .list #v[.bi .range #v[e]]) Z S Q:=λQ h=>sF B b ∅ h
 clear b;generalize E.bi .list #v[.bi .range #v[e]]=c at f ⊢;delta wE wA;show w _ (f _ λt S1 i _ a=>?_)
 dsimp only;show zP (d:=d) (λ(p:Kb)=>W.int (p:Ki)) G A (s.ka a) i (by rw[KL];omega) (by rw[KL];omega) λq ps g m pm y o C=>?_
 show k q ps g m (lI #[Nj,λp x=>Ky.mp x] pm) (by rw[pm.length_eq,KL]) (Lq a.len y) o ((a.kp r).trans C)
end
structure ShP (defs:J2 (KG×Df)):Prop where
 gen:Gen defs
 ways:Is defs ("_law_new_ways": KG) 6 11 bx
 world:Is defs ("_law_world": KG) 4 8 da
 shuf:Is defs ("_law_shuffled": KG) 2 4 bB
 share:Is defs ("_law_share": KG) 4 12 ev
section
variable{defs:J2 (KG×Df)}{fuel d:Kb}{S:aa}{r:Kb}{Q:QW}
def zQ (C:ShP defs)(hfu:20<fuel){Y:J2 W}{ns:J2 KG}{bs:J2 Ki}{b0:W}{a q:Kb}{U:J2 (T×W)}(hM:↥Y=a)(ha1:0<a)(ha3:a<=3)(hb:GoodB bs)(hnl:↥ns=↥bs)(hn3:↥bs<=3)(cl:Cl bs U)(e:S[q]?=gV (.dic U))(f:q≠r)(hf:Fl S r)
  (k:∀(u o:Wd) (s:Pl) S',LayA a bs U u o s->↥u<=9->↥o<=9->Fl S' r->Kp r S S'->Q (.tup [aw u,aw o,.tup (s.map eJ)],S')) :
  wO (aL (ar defs fuel (d+4)) "_law_share" 4 [.ref r,.tup [.tup Y,.tup (Ku aG ns bs),b0],.ref q,.int 9] S) Q:=by
 have G:=C.gen;show az C.share rfl rfl λQ' hR=>?_
 replace k:∀(u o:Wd) (s:Pl) S',LayA a bs U u o s->↥u<=9->↥o<=9->Fl S' r->Kp r S S'->Q' (.rt (.tup [aw u,aw o,.tup (s.map eJ)]),S'):=λu o s S' h1 h2 h3 h4 h5=>hR _ _ (k u o s S' h1 h2 h3 h4 h5)
 clear hR;change wZ _ _ ev [gV (.ref r),gV (.tup [.tup Y,.tup (Ku aG ns bs),b0]),gV (.ref q),gV (.int 9),td,td,td,td,td,td,td,td] S Q';have hN:(Ku aG ns bs).length=↥bs:=by rw[NP];omega
 have hqS:=bF e;generalize L:W.tup [.tup Y,.tup (Ku aG ns bs),b0]=R;unfold ev;nofun
 left;show ac d7 ?_;show bE (d:=d+2) G.pick hf #v[] #v[] λv S1 v0 v1 f1 k1=>?_
 obtain⟨m,rfl⟩:∃m:Kb,v=m:=#[v.toNat,∅]
 subst L;show Cj (d:=d) G C.ways C.world hM ha1 ha3 hN hn3 ∅ (k1.get _ _ f e) f f1 λu S2 hul gu su f2 k2=>hK _ _ ?_
 clear hK K;have e2:=k2.get _ _ f (k1.get _ _ f e);have kk:=k1.trans k2;have hul:↥u<=9:=∅
 clear k1 k2 f1;generalize L:W.tup [.tup Y,.tup (Ku aG ns bs),b0]=R;have ul:(u.map bN).length=↥u:=J4 ..;generalize hU:aw u=Uz;nofun
 delta wS;rw[wE];show JJ (d:=d+1) G C.shuf (n:=↥u) rfl ∅ ∅ f2 (λP h=>h) (λQ h=>by
  delta wE wA wV wG;subst hU;show aF ?_;rw[ul];show h) λl ps S3 e3 hO hpl hl f3 k3=>?_
 delta wP wE wA wV wG;subst hU;show aF (ac d7 ?_);rw[ul];show bE (d:=d+2) G.pick f3 ∅ ∅ λv t v0 v1 f4 k4=>?_
 have hrt:=f2.lt;have hlr:l≠r:=∅
 have e4:=k4.get _ _ hlr e3;have q4:=k4.get _ _ f (k3.get _ _ f e2);delta wN;obtain⟨m2,rfl⟩:∃m:Kb,v=m:=#[v.toNat,∅]
 show ac (show rC (.ref l) td (gV (m2:Ki)) t=gV (.ref ↥t,t++[O.lst (ab (ps.take m2))]) by simp only[rC,aC e4,dS];unfold ab;rw[MD]) (hK _ _ ?_)
 clear hK K;have k5:Kp r S (t++[O.lst (ab (ps.take m2))]):=((kk.trans k3).trans k4).trans .push;have j:Ord ↥u (ps.take m2):=#[hO.nd.sublist (N4 _ _),λp hp=>hO.lt p (LW hp)]
 have hl':(ps.take m2).length<=↥u:=jy j;generalize ps.take m2=ps at k5 j hl';have V:(t++[O.lst (ab ps)])[↥t]?=gV (.lst (ab ps)):=aj;have q5:=au (u:=O.lst (ab ps)) q4;have f5:=f4.ka (Ka.push (o:=O.lst (ab ps)));have r5:r<↥t:=f4.lt;generalize t++[O.lst (ab ps)]=S5 at k5 V q5 f5 ⊢;generalize ↥t=l5 at V r5 ⊢;have h5:=bF V;clear q4 e4 k4 f4 hlr hl f3 k3 kk hpl hO e3 e2 f2 hul;subst L;nofun
 left;show uI (d:=d+1) G hb hnl gu j.lt j.nd ∅ V λS6 k6=>hK _ _ ?_
 clear hK K;have q6:=k6.get _ _ q5;have e6:=k6.get _ _ V;have f6:=f5.ka k6;have kk:=k5.trans (k6.kp r);clear k6 k5 f5 V q5;have gp:=cU hb gu j.lt j.nd;have sp:=su.part hb cl gu j;have pl:(ae bs u ps).length=↥ps:=aA ..;have pnl:(ab ps).length=↥ps:=J4 ..;generalize hU:aw u=Uz;nofun
 show lh rfl rfl ?_;delta wE wA wV wG;show ac d7 ?_;show gS e6 (ac mL ?_);rw[pnl];show bE (d:=d+2) G.pick f6 ∅ ∅ λc S7 c0 c1 f7 k7=>?_
 have e7:=k7.get _ _ ∅ e6
 have q7:=k7.get _ _ f q6;have kk7:=kk.trans k7;show#[c,λi Z S'=>∃(x:Wd) (a7 a8 a9:J9 W),Z=[gV (.ref r),gV (W.tup [.tup Y,.tup (Ku aG ns bs),b0]),gV (.ref q),gV (.int 9),gV Uz,gV (.ref l5),gV (aw (ae bs u ps++x)),a7,a8,a9,td,td]/\↥x<=i/\GoodW a ↥bs (ae bs u ps++x)/\Std U (ae bs u ps++x)/\S'[l5]?=gV (.lst (ab ps))/\S'[q]?=gV (.dic U)/\Fl S' r/\Kp r S S',rfl,∅,?_,?_,?_]
 ·show#[[],td,td,td,by rw[Ln],Kl _,by rw[Ln];show gp,by rw[Ln];show sp,e7,q7,f7,kk7]
 ·rintro i Z S8 hi ⟨x,a7,a8,a9,rfl,hx,E,sx,e8,q8,f8,k8⟩ Q2 hn _;clear hK;have A:(ae bs u ps++x).length<=9:=by rw[Kh,pl];omega
  have hst:∀p:Pt,∃y:Wd,↥y=↥x+1/\ae bs u ps++x++[p]=ae bs u ps++y:=λp=>#[x++[p],by rw[Kh,Lj],by rw[L4]]
  have hno:∃y:Wd,↥y=↥x/\ae bs u ps++x=ae bs u ps++y:=#[x,rfl,rfl];generalize ae bs u ps++x=o at E sx A hst hno;delta Kv;show st ?_;left;show ak #v[] rfl (aF ?_)
  rw[hM];show bE (d:=d+2) G.pick f8 ∅ ∅ λv S9 v0 v1 f9 X=>?_
  have e9:=X.get _ _ ∅ e8
  have q9:=X.get _ _ f q8;show st ?_;left;show lp (d:=d+1) G C.ways hN hn3 E ∅ q9 f f9 λw b hw f10 g=>?_
  have e10:=g.get _ _ ∅ e9
  have q10:=g.get _ _ f q9;have kz:=(k8.trans X).trans g;nofun
  delta wS wT wE wA wV wG;rcases hw with rfl|⟨to,rfl,htl,hto,hbp⟩
  ·show ac (show bh .isnot .non .non b=gV (.bl false,b)from rfl) ?_
   delta wB;obtain⟨y,hy,J⟩:=hno;show aq (Q0:=Q2) (λz=>by cases z) (λ_ Q5 M _=>bu (M _ _ (hK _ _ (bu (hn _ _ #[y,_,_,_,by rw[J],∅,J▸E,J▸sx,e10,q10,f10,kz])))))
  ·show ac (show bh .isnot (.tup (ah to)) .non b=gV (.bl true,b)from rfl) ?_
   delta wB;show aq (Q0:=Q2) (λ_ Q5 M _=>?_) (λz=>by cases z)
   show st ?_;left;obtain⟨y,hy,J⟩:=hst (v,to);show ac (i4 (u:=o) (p:=(v,to)) ∅) (bu (M _ _ (hK _ _ (bu (hn _ _ #[y,gV (.int i),gV (.int v),gV (.tup (ah to)),by rw[J],∅,?_,?_,e10,q10,f10,kz])))))
   ·rw[<- J];show E.snoc #[v0,v1] htl hto
   ·rw[<- J];show sx.snoc hbp
 ·rintro Z S8 ⟨x,a7,a8,a9,rfl,hx,E,sx,e8,q8,f8,k8⟩;have A:(ae bs u ps++x).length<=9:=by rw[Kh,pl];omega
  show hK _ _ ?_;clear hK K;have eo:∃ext,ae bs u ps++x=ae bs u ps++ext:=#[x,rfl];generalize ae bs u ps++x=o at E sx A eo;obtain⟨ext,eo⟩:=eo;have ol:(o.map bN).length=↥o:=J4 ..;have hpo:↥ps<=↥o:=by rw[eo,Kh,pl];omega
  generalize hO2:aw o=O2;nofun
  delta wS;show JJ (d:=d+1) G C.shuf (n:=↥o) rfl ∅ ∅ f8 (λP h=>h) (λQ h=>by
   delta wE wA wV wG;subst hO2;show aF ?_;rw[ol];show h) λl9 H S9 e9 pO pL hl9 f9 X=>hK _ _ ?_
  clear hK K;subst hO2;delta Kv;have e9':=X.get _ _ ∅ e8
  have ppl:(ab H).length=↥H:=J4 ..;show st ?_;delta wS;show ig ↥ps (λ_=>true) (λk=>eJ (H.idxOf k,ps.getD k 0)) [gV (.ref l9),gV (.ref l5)] rfl rfl rfl rfl ∅ ?_ (λk hk b g=>?_) λb g=>?_
  ·delta wE wA wV wG;show gS e9' #[?_,.refl];rw[pnl]
  ·delta eG wC wE wA wV wG;show#[λ_=>jJ (g.get _ _ e9') (Kq k) (by rw[Kz];show fe (ap (d:=0) hk)) #[cM (g.get _ _ e9),HI (g.get _ _ e9) (dz pO pL (Kw hk hpo)) ∅ #[rfl,rfl,.refl]],λz=>by cases z]
  rw[aU];show st ?_;left;have B:=g.trans (Ka.push (o:=O.lst ((Kj ↥ps).map λk=>eJ (H.idxOf k,ps.getD k 0))))
  have I:(b++[O.lst ((Kj ↥ps).map λk=>eJ (H.idxOf k,ps.getD k 0))])[↥b]?=gV (.lst (((Kj ↥ps).map λk=>(H.idxOf k,ps.getD k 0)).map eJ)):=by
   rw[K6];show aj
  have D:=B.get _ _ e9;have FK:=f9.ka B;generalize(b++[O.lst ((Kj ↥ps).map λk=>eJ (H.idxOf k,ps.getD k 0))])=S11 at B I D FK ⊢
  generalize ↥b=l11 at I ⊢;show uI (d:=d+1) G hb hnl E pO.lt pO.nd ∅ D λS12 N=>?_
  have kz:=(k8.trans X).trans ((B.trans N).kp r);show zP (d:=d+1) eJ G C.shuf (FK.ka N) (N.get _ _ I) (by rw[J4,KL];omega) (by rw[J4,KL];omega) λq13 s S13 e13 pm h13 Hw k13=>?_
  show bZ e13 ?_;subst hU;show k u (ae bs o H) s S13 (Fs hb cl gu su E sx j eo pO pL pm) ∅ (by rw[aA,pL];show A) Hw (kz.trans k13)
end
section
variable{M:KG->FF}{Z:Fm}{S:aa}
def zR {α:Type}{c e:E}{m:Es}{f:J2 (J9 Kb)}{Q:QW}(L:J2 α)(i j:α->W)(p:α->KR)(g:α->W)(R:Fm)(t:cH e=true)(s:cH c=true)(oc:lL m=true)(hc:dO f Z=td::td::td::R)(hl:↥L<=1000000)
  (o:wE M e Z S λq=>q.1=.tup (L.map λx=>W.tup [i x,j x])/\Ka S q.2)
  (d:∀x∈L,∀S',Ka S S'->eG M c m (td::gV (i x)::gV (j x)::R) S' (λy _ l=>p x=true/\y=g x/\Ka S' l) (λ_ l=>p x=false/\Ka S' l))
  (k:∀S',Ka S S'->Q (.ref ↥S',S'++[.lst ((L.filter p).map g)])):Wp (aB M (.comp c (.tp [1,2]) (.seq e) m f) Z S) Q:=by
 obtain⟨w,S1,n,rfl,r⟩:=br t o;show zx (mi:=.its (L.map λx=>W.tup [i x,j x])) L (λx=>W.tup [i x,j x]) p g (λZ=>∃a b,Z=td::a::b::R) (λx=>td::gV (i x)::gV (j x)::R) (λx Z S h=>by
  obtain⟨a,b,rfl⟩:=h;show#[rfl,_,_,rfl]) s oc (by rw[hc];show#[_,_,rfl]) hl (by revert i6 d6 n) r (λ_ _ _=>rfl) rfl d k
def ni (a n:Kb):cg (a:Ki) n=(Kj n).map λi=>W.int ((a+i:Kb)):=by
 unfold cg;show Le λi _=>?_
 rw[Int.natCast_add]
def Cv {a d e:E}{h:Es}{c:J2 (J9 Kb)}{Q:QW}(m n:Kb)(p:Kb->KR)(g:Kb->W)(R:Fm)(t:cH d=true)(u:cH e=true)(s:cH a=true)(oc:lL h=true)(hc:dO c Z=td::td::R)(z:m<=1000000)(hl:n<=1000000)
  (l:wE M d Z S λq=>q.1=.int m/\wE M e Z q.2 λq=>q.1=.int n/\Ka S q.2)
  (b:∀x<n-m,∀S',Ka S S'->eG M a h (td::gV (.int ((m+x:Kb)))::R) S' (λy _ f=>p x=true/\y=g x/\Ka S' f) (λ_ f=>p x=false/\Ka S' f))
  (k:∀S',Ka S S'->Q (.ref ↥S',S'++[.lst (((Kj (n-m)).filter p).map g)])):Wp (aB M (.comp a (.nm 1) (.rng2 #v[d,e]) h c) Z S) Q:=by
 obtain⟨w,S1,d,rfl,j⟩:=br t l;obtain⟨w,f,e,rfl,r⟩:=br u j;show oD (mi:=.its (cg m (n-m))) (Kj (n-m)) (λi=>W.int ((m+i:Kb))) p g R s oc hc (by rw[KL];omega) ?_ r (λi S' _=>by rw[<- ni];rfl) (by rw[<- ni];rfl) (λx o=>b x (Ky.mp o)) k
 revert i6 cC cu fN iRng2 d e;rw[KC #[∅,∅,∅,∅],show((n:Ki)-(m:Ki)).toNat=n-m by omega]
end
section
variable{S:aa}
def Cw {p:Kb}{ps:J2 Kb}:bh .isin (.int p) (.tup (ab ps)) S=gV (.bl (decide (p∈ps)),S):=by
 change cD .isin (.int p) (.tup (ab ps)) S=_;have a:(aN (.int p)&&(ab ps).all aN)=true:=by rw[ju];rfl
 revert cD rB xn cp a MW KM iX
def zS {u v:Wd}:bh .ne (aw u) (aw v) S=gV (.bl (!decide (u=v)),S):=by
 show((eM (fE S (17+2)) (u.map bN) (v.map bN)).map (λc=>!c)).map _=_
 rw[iW];rfl
def Dk {u v:Wd}{ps a:J2 Kb}(d:u=v)(e:ps=a):fE S (19+1) (.tup [aw u,.tup (ab ps)]) (.tup [aw v,.tup (ab a)])=gV true:=by
 subst d e;change eM (fE S (17+2)) [aw u,.tup (ab ps)] [aw u,.tup (ab ps)]=_;have b:fE S (17+2) (aw u) (aw u)=gV true:=by
  change eM (fE S (16+2)) (u.map bN) (u.map bN)=_;rw[iW,Ld rfl]
 have c:fE S (17+2) (.tup (ab ps)) (.tup (ab ps))=gV true:=by
  change eM (fE S (16+2)) (ab ps) (ab ps)=_;rw[vM,jt,Ld rfl]
 revert eM b c;rfl
def Ft {u v:Wd}{ps a:J2 Kb}(b:u=v)(d:ps=a):bh .ne (.tup [aw u,.tup (ab ps)]) (.tup [aw v,.tup (ab a)]) S=gV (.bl false,S):=by
 show((fE S (19+1) (.tup [aw u,.tup (ab ps)]) (.tup [aw v,.tup (ab a)])).map (λc=>!c)).map _=_
 rw[Dk b d];rfl
def Fu {u v:Wd}{ps a:J2 Kb}(b:u=v)(c:ps=a):bh .eq (.tup [aw u,.tup (ab ps)]) (.tup [aw v,.tup (ab a)]) S=gV (.bl true,S):=by
 show(fE S (19+1) (.tup [aw u,.tup (ab ps)]) (.tup [aw v,.tup (ab a)])).map _=_;rw[Dk b c];rfl
end
abbrev fA (m:Kb)(a:J2 Kb):Pl:=(Kj m).map λj=>(j,a.getD j 0)
abbrev ip (m:Kb):Pl:=(Kj m).map λj=>(j,j)
def jA (m:Kb)(a:J2 Kb):(fA m a).map (·.1)=Kj m:=by
 unfold fA;rw[K6];show(Le λ_ _=>rfl).trans (RA _)
def oM {m:Kb}{a:J2 Kb}(h:↥a=m):(fA m a).map (·.2)=a:=by
 unfold fA;rw[K6,<- h];show io a
def Cy {m:Kb}{a:J2 Kb}(h:↥a=m):cy m (fA m a)=a:=by
 have nd:((fA m a).map (·.1)).Nodup:=by rw[jA];show Nj
 show(Le λj b=>?_).trans (by rw[<- h];show io a)
 show lF nd (p:=(j,a.getD j 0)) (Kn.mpr #[j,b,rfl])
def qR (m:Kb):ip m=fA m (Kj m):=by
 show Le λj a=>?_
 have a:=Ky.mp a;rw[Kk,LO a];rfl
section
variable{a:Kb}{bs:J2 Ki}{U:J2 (T×W)}{one other w:Wd}{L0:Pl}{pl:J2 Kb}
def LaidOk.told (A:LayA a bs U one other L0)(h:LaidOk a bs U one other L0 w pl):LayA a bs U w other (fA ↥other pl):=by
 show#[h.gw,h.sw,A.g2,A.s2,?_,?_,?_]
 ·rw[oM h.len];show h.ord
 ·rw[jA];show jx (Kl _)
 ·rw[oM h.len,jA,h.part,iZ A.g2]
def LaidOk.first (A:LayA a bs U one other L0)(h:LaidOk a bs U one other L0 w pl):LayA a bs U w one (ip ↥one):=by
 obtain⟨t,e⟩:=h.ext;have hl:↥one<=↥w:=by rw[e,Kh];omega
 have b:(Kj ↥one).length=↥one:=KL ..;rw[qR];show#[h.gw,h.sw,A.g1,A.s1,?_,?_,?_]
 ·rw[oM b];show jx hl
 ·rw[jA];show jx (Kl _)
 ·rw[oM b,jA,lD h.gw _ hl,iZ A.g1,e,R5]
def LaidOk.again {w2:Wd}{b:J2 Kb}(f:↥pl=↥other)(h:LaidOk a bs U w other (fA ↥other pl) w2 b):w2=w/\b=pl:=by
 obtain⟨c,d⟩:=h.all λj e=>by rw[jA];show Ky.mpr e
 show#[c,by rw[d,Cy f]]
def LayA.turn (A:LayA a bs U one other L0):LayA a bs U other one (L0.map λp=>(p.2,p.1)):=by
 have b:(L0.map λp=>(p.2,p.1)).map (·.1)=L0.map (·.2):=by rw[K6];rfl
 have c:(L0.map λp=>(p.2,p.1)).map (·.2)=L0.map (·.1):=by rw[K6];rfl
 show#[A.g2,A.s2,A.g1,A.s1,by rw[c];show A.oj,by rw[b];show A.op,by rw[b,c];show A.same.symm]
end
structure RgP (defs:J2 (KG×Df)):Prop where
 lay:LayP defs
 gen:Gen defs
 last:Is defs ("_law_last_may": KG) 4 8 bz
 may:Is defs ("_law_may": KG) 3 4 eU
 right:Is defs ("_law_right": KG) 5 9 eA
section
variable{defs:J2 (KG×Df)}{fuel d:Kb}{S:aa}{Q:QW}
def uK (N:RgP defs)(hfu:20<fuel){L ns:J2 KG}{bs:J2 Ki}{a q:Kb}{B:J2 Wd}{one b:Wd}{l:Pl}{G:J2 (T×W)}(hb:GoodB bs)(V:↥ns=↥bs)(hb3:↥bs<=3)(hgs:∀g∈B,GoodW a ↥bs g/\↥g=3)(h64:↥B<=100)
  (hno:∀U,HasD U (aW bs B)->¬ wc a bs U (↥bs+1)) (hkv:HasD G (aW bs B)) (e:S[q]?=gV (.dic G)) (A:LayA a bs G one b l) (h1:↥one<=9) (h2:↥b<=9)
  (k:∀S',Ka S S'->Q (.bl true,S')) :
  wO (aL (ar defs fuel (d+6)) "_law_right" 5 [.tup [.tup (L.map W.str),.tup (Ku aG ns bs),.tup (B.map aw)],.ref q,aw one,aw b,.tup (l.map eJ)] S) Q:=by
 show az N.right rfl rfl λH hR=>?_
 replace k:∀S',Ka S S'->H (.rt (.bl true),S'):=λS' a=>hR _ _ (k S' a)
 clear hR;change wZ _ _ eA [gV (.tup [.tup (L.map W.str),.tup (Ku aG ns bs),.tup (B.map aw)]),gV (.ref q),gV (aw one),gV (aw b),gV (.tup (l.map eJ)),td,td,td,td] S H;have Y:∀{S:aa}{Q:QW}{one b:Wd}{l:Pl},LayA a bs G one b l->↥one+↥b<=400->(∀w i S',LaidOk a bs G one b l w i->↥w<=↥one+↥b->Ka S S'->Q (.tup [aw w,.tup (ab i)],S'))->wO (aL (ar defs fuel (d+5)) "laid" 4 [.tup [.tup (L.map W.str),.tup (Ku aG ns bs),.tup (B.map aw)],aw one,aw b,.tup (l.map eJ)] S) Q:=
  λA hl k=>Fq (d:=d) N.lay hfu hb V hb3 hgs h64 hno hkv A hl k
 have MY:∀{S:aa}{Q:QW}{w:Wd},GoodW a ↥bs w->Std G w->↥w<=1000->S[q]?=gV (.dic G)->Q (.bl true,S)->wO (aL (ar defs fuel (d+5)) "_law_may" 3 [.tup [.tup (L.map W.str),.tup (Ku aG ns bs),.tup (B.map aw)],.ref q,aw w] S) Q:=
  λg s hl e k=>vU (d:=d+3) N.last N.may g hl e s k
 have PT:∀{S:aa}{Q:QW}{w:Wd}{ps:J2 Kb},GoodW a ↥bs w->Ord ↥w ps->↥ps<1000->(∀S',Ka S S'->Q (aw (ae bs w ps),S'))->wO (aL (ar defs fuel (d+5)) "_law_part" 3 [.tup [.tup (L.map W.str),.tup (Ku aG ns bs),.tup (B.map aw)],aw w,.tup (ab ps)] S) Q:=
  λg o hl k=>se (d:=d+3) N.gen hb V g o.lt o.nd hl k
 generalize W.tup [.tup (L.map W.str),.tup (Ku aG ns bs),.tup (B.map aw)]=R at Y MY PT ⊢;have ol:(one.map bN).length=↥one:=J4 ..;have tl:(b.map bN).length=↥b:=J4 ..;delta eA;show st ?_;left;show Y A ∅ λw i S1 ok hwl k1=>?_
 delta wU;show ac (show dc [5,6] [aw w,.tup (ab i)] [gV R,gV (.ref q),gV (aw one),gV (aw b),gV (.tup (l.map eJ)),td,td,td,td]=gV [gV R,gV (.ref q),gV (aw one),gV (aw b),gV (.tup (l.map eJ)),gV (aw w),gV (.tup (ab i)),td,td]from rfl) ?_
 obtain⟨t,ext⟩:=ok.ext;have wl:(w.map bN).length=↥w:=J4 ..;have X:(ab i).length=↥i:=J4 ..;have J:=ok.len;have e1:=k1.get _ _ e;nofun
 delta wS wT wE wA wP wN wV wG;show aF ?_;rw[ol];show ac (show rC (aw w) td (gV (↥one:Ki)) S1=gV (aw one,S1) by
  unfold aw;revert rC dS;rw[ext,<- MD,R5]) (ac zS ?_)
 rw[Ld rfl];delta wB;show#[λz=>(by cases z),λ_=>?_]
 show aF (aF ?_);rw[X,tl,J];show ac EN ?_;rw[Lk];show#[λz=>(by cases z),λ_=>?_]
 show Fh ok.ord.nd ∅ (zJ aj ∅ (aF ?_))
 rw[X];show ac EN ?_;rw[Lk];show aq (Q0:=H) (λz=>by cases z) (λ_ Q2 f _=>bu (f _ _ (hK _ _ ?_)))
 clear hK f K;have e2:=au (u:=O.sti ↥i) e1;have k2:=k1.trans (Ka.push (o:=O.sti ↥i));generalize S1++[O.sti ↥i]=S2 at e2 k2 ⊢;clear e1 k1;nofun
 delta wS wT wE wA wV wG;show MY ok.gw ok.sw ∅ e2 ?_
 show ac (show dJ S2 (.bl true)=gV true from rfl) ?_
 show#[λz=>(by cases z),λ_=>?_]
 show PT ok.gw ok.ord ∅ λS3 k3=>?_
 rw[ok.part];show ac zS ?_;rw[Ld rfl];show aq (Q0:=H) (λz=>by cases z) (λ_ Q2 f _=>bu (f _ _ (hK _ _ ?_)))
 clear hK f K;have e3:=k3.get _ _ e2;have r:=k2.trans k3;clear e2 k2 k3;nofun
 delta wS wT wA;have hL0:↥l<=900:=by
  have:=jy A.op;rw[J4]at this;omega
 show zR l (λp=>.int (p.2:Kb)) (λp=>.int (p.1:Kb)) (λ_=>true) (λ_=>.bl true) [gV (.tup (ab i))] rfl rfl rfl rfl ∅ #[rfl,.refl] (λp hp S4 k4=>?_) λS4 k4=>?_
 ·delta eG wC wE wA wV wG;have hj:p.1<↥i:=by rw[J];show A.oj.lt _ (Kn.mpr #[p,hp,rfl])
  show#[λ_=>ak (Kq _) (by rw[Kz];show fe (ap (d:=0) hj)) (ac la ?_),λz=>by cases z]
  rw[ok.pairs p hp,Lk];show#[rfl,rfl,.refl]
 rw[aU,ga];show lG aj ?_;show ac (show dJ _ (.bl true)=gV true from rfl) ?_
 show aq (Q0:=H) (λz=>by cases z) (λ_ Q2 f _=>bu (f _ _ (hK _ _ ?_)))
 clear hK f K;have k5:=k4.trans (Ka.push (o:=O.lst (KU ↥l (.bl true))));generalize S4++[O.lst (KU ↥l (.bl true))]=S5 at k5 ⊢;have e5:=k5.get _ _ e3;replace r:=r.trans k5;clear k4 k5 e3;nofun
 delta wS wT wA;show Cv ↥one ↥w (λ_=>true) (λ_=>.bl true) [gV (.tup (ab i))] rfl rfl rfl rfl rfl ∅ ∅ ?_ (λx hx S6 k6=>?_) λS6 k6=>?_
 ·delta wE wA wV wG;show aF #[by rw[ol],aF #[by rw[wl],.refl]]
 ·delta eG wC wE wA wV wG;show#[λ_=>ac Cw ?_,λz=>by cases z]
  rw[Ld (ok.new (↥one+x) ∅ ∅)]
  show#[rfl,rfl,.refl]
 rw[aU,ga];show lG aj ?_;show ac (show dJ _ (.bl true)=gV true from rfl) ?_
 show aq (Q0:=H) (λz=>by cases z) (λ_ Q2 f _=>bu (f _ _ (hK _ _ ?_)))
 clear hK f K;have k7:=k6.trans (Ka.push (o:=O.lst (KU (Kj (↥w-↥one)).length (.bl true))));generalize S6++[O.lst (KU (Kj (↥w-↥one)).length (.bl true))]=S7 at k7 ⊢;have e7:=k7.get _ _ e5;replace r:=r.trans k7;clear k6 k7 e5;show st ?_;delta wS wE wA;show ig ↥b (λ_=>true) (λj=>eJ (j,i.getD j 0)) [gV (.tup (ab i))] rfl rfl rfl rfl ∅ ?_ (λj hj M I=>?_) λM I=>?_
 ·delta wE wA wV wG;show aF #[by rw[tl],.refl]
 ·delta eG wC wE wA wV wG;show#[λ_=>ak (Kq _) (by rw[Kz];show fe (ap (d:=0) ∅)) #[rfl,rfl,.refl],λz=>by cases z]
 rw[aU];show bZ aj ?_;have D:=I.trans (Ka.push (o:=O.lst ((Kj ↥b).map λj=>eJ (j,i.getD j 0))))
 generalize M++[O.lst ((Kj ↥b).map λj=>eJ (j,i.getD j 0))]=S9 at D ⊢
 have e9:=D.get _ _ e7;replace r:=r.trans D;clear I D e7;have et:((Kj ↥b).map λj=>eJ (j,i.getD j 0))=(fA ↥b i).map eJ:=by
  unfold fA;rw[K6];rfl
 rw[et];nofun
 delta wS wT wE wA wV wG Kv;show Y (ok.told A) ∅ λw2 n S10 y _ C=>?_
 obtain⟨a1,a2⟩:=y.again J;show ac (Ft a1 a2) ?_;show aq (Q0:=H) (λz=>by cases z) (λ_ Q2 f _=>bu (f _ _ (hK _ _ ?_)))
 clear hK f K a1 a2 y;replace r:=r.trans C;clear C e9 et;show st ?_;delta wS wE wA;show ig ↥one (λ_=>true) (λj=>eJ (j,j)) [] rfl rfl rfl rfl ∅ ?_ (λj hj M I=>?_) λM I=>?_
 ·delta wE wA wV wG;show aF #[by rw[ol],.refl]
 ·delta eG wC wE wA wV wG;show#[λ_=>#[rfl,rfl,.refl],λz=>by cases z]
 rw[aU];show bZ aj ?_;have D:=I.trans (Ka.push (o:=O.lst ((Kj ↥one).map λj=>eJ (j,j))))
 generalize M++[O.lst ((Kj ↥one).map λj=>eJ (j,j))]=S9 at D ⊢
 replace r:=r.trans D;clear I D;have et:((Kj ↥one).map λj=>eJ (j,j))=(ip ↥one).map eJ:=by
  unfold ip;rw[K6];rfl
 rw[et];have hx:∀(Z:Fm) (S:aa) (Q:QW),(∀P:W->Prop,P (aw one)->wV Z 2 P)->(∀S',Ka S S'->Q (.tup (ab (Kj ↥one)),S'))->wE (ar defs fuel (d+5)) (.bi .tuple #v[.bi .range #v[.bi .len #v[.v 2]]]) Z S Q:=λZ S Q hv h=>mW (m:=(↥one:Ki)) rfl (λQ q=>by
  delta wE wA;show hv _ (aF ?_);rw[ol];show q) ∅ h
 have hA:∀(Z:Fm) (Q:QW),(∀P:W->Prop,P R->wV Z 0 P)->(∀P:W->Prop,P (aw w)->wV Z 5 P)->(∀P:W->Prop,P (aw one)->wV Z 2 P)->(∀P:W->Prop,P (.tup ((ip ↥one).map eJ))->wV Z 8 P)->(∀w2 n S',LaidOk a bs G w one (ip ↥one) w2 n->Ka S9 S'->Q (.tup [aw w2,.tup (ab n)],S'))->wE (ar defs fuel (d+5)) (.own "laid" 4 #v[.v 0,.v 5,.v 2,.v 8]) Z S9 Q:=λZ Q v0 v5 v2 v8 h=>by
  delta wE wA;show v0 _ (v5 _ (v2 _ (v8 _ ?_)));show Y (ok.first A) ∅ λw2 n S' h1 _ h2=>h w2 n S' h1 h2
 generalize E.bi .tuple #v[.bi .range #v[.bi .len #v[.v 2]]]=c at hx ⊢;generalize E.own (("laid": KG)) 4 #v[.v 0,.v 5,.v 2,.v 8]=c2 at hA ⊢;show st ?_;delta wS;rw[wE];show hA _ _ (λP h=>h) (λP h=>h) (λP h=>h) (λP h=>h) λw2 n S10 y C=>?_
 dsimp only;rw[wE,wA,wE];show @id (∀P:W->Prop,P (aw w)->wV ([gV R,gV (.ref q),gV (aw one),gV (aw b),gV (.tup (l.map eJ)),gV (aw w),gV (.tup (ab i)),gV (.tup ((fA ↥b i).map eJ)),td].set 8 (gV (.tup ((ip ↥one).map eJ)))) 5 P) (λP h=>h) _ ?_
 rw[wA];show hx _ _ _ (λP h=>h) λS11 k11=>?_
 rw[wA];have h0:(Kj ↥one).length=↥one:=KL ..;rw[qR]at y;obtain⟨a1,a2⟩:=y.again h0;show ac (Fu a1 a2) ?_;show k _ ((r.trans C).trans k11)
end
abbrev lS (n:Kb)(brk:Ki->Ki->Ki->KR)(A D:Ki×Ki):KR:=decide (A=D)||(fB n).any λw=>(!brk w A.1 D.1 && !brk w A.2 D.2)||(!brk w D.1 A.1 && !brk w D.2 A.2)
abbrev Cz (n:Kb):J2 (Ki×Ki):=(fB n).flatMap λx=>(fB n).map λy=>(x,y)
abbrev uL (n:Kb)(bs:J2 Ki)(brk:Ki->Ki->Ki->KR)(fin:J2 (Ki×Ki)->KR):J2 Kb->J2 (Ki×Ki)->KR
 |[],C=>fin C
 |i::is,C=>(Cz n).all λA=>!(brk A.1 A.2 (bs.getD i 0)&&C.all λD=>lS n brk A D)||uL n bs brk fin is (A::C)
abbrev HJ (n:Kb)(brk:Ki->Ki->Ki->KR)(one:KR)(C:J2 (Ki×Ki)):KR:=one&&(Cz n).all λD=>decide (D.1=D.2) ||!(C.all λA=>lS n brk A D)
abbrev HK (bs:J2 Ki)(brk:Ki->Ki->Ki->KR)(one:KR):KR:=uL ↥bs bs brk (HJ ↥bs brk one) (Kj ↥bs) []
def zT {n:Kb}{bs:J2 Ki}{brk:Ki->Ki->Ki->KR}{fin:J2 (Ki×Ki)->KR}{R:Ki×Ki->Prop}(e:∀A D,R A->R D->lS n brk A D=true)(f:∀A,R A->A∈Cz n):∀(is:J2 Kb) (C:J2 (Ki×Ki)),(∀i∈is,∃A,R A/\brk A.1 A.2 (bs.getD i 0)=true)->(∀D∈C,R D)->uL n bs brk fin is C=true->∃d,(∀D∈d,R D)/\fin d=true
 |[],C,_,b,h=>#[C,b,h]
 |i::is,C,hi,b,h=>by
  obtain⟨A,c,g⟩:=hi i (by simp)
  unfold uL at h;have:=KD.mp h A (f A c);rw[g,Na,show(C.all λD=>lS n brk A D)=true from KD.mpr λD a=>e A D c (b D a)]at this
  show zT e f is (A::C) (λj k=>hi j (by simp[k])) (λD a=>by
   rcases KH.mp a with rfl|a
   ·show c
   ·show b D a) (by simpa using this)
def GoodP.at {a n s k:Kb}{p:Pt}(h:GoodP a n s p)(hk:k<s):0<=p.2.getD k 0/\p.2.getD k 0<(n:Ki):=h.way _ (Kt (ap (d:=0) (by rw[h.len];show hk)))
abbrev Fv (a n:Kb)(U:J2 (T×W))(brk:Ki->Ki->Ki->KR):Prop:=∀m0 m1 m2 x y z:Ki,(0<=m0/\m0<a)->(0<=m1/\m1<a)->(0<=m2/\m2<a)->(0<=x/\x<n)->(0<=y/\y<n)->(0<=z/\z<n)->bd U [(m0,[]),(m1,[x]),(m2,[y,z])]=brk x y z
def CA {a:Kb}{bs:J2 Ki}{U:J2 (T×W)}{brk:Ki->Ki->Ki->KR}{one:KR}(J:∀b∈bs,0<=b/\b<(↥bs:Ki))(p:Fv a ↥bs U brk)(n:one=true->a=1)(h:HK bs brk one=true):¬ wc a bs U (↥bs+1):=by
 rintro⟨Uz,P,Q,c,x⟩;have o:∀k,k<↥Uz->0<=(Uz.getD k (0,[])).1/\(Uz.getD k (0,[])).1<(a:Ki):=λk hk=>c.gu.mark k _ (ap (d:=(0,[])) hk)
 have r:∀k j,k<↥Uz->j<k->0<=(Uz.getD k (0,[])).2.getD j 0/\(Uz.getD k (0,[])).2.getD j 0<(↥bs:Ki):=λk j hk M=>c.gu.way k _ (ap (d:=(0,[])) hk) _ (Kt (ap (d:=0) (by rw[c.gu.len k _ (ap (d:=(0,[])) hk)];show M)))
 have s:∀k l,k<l->l<↥Uz->lS ↥bs brk (P.2.getD k 0,Q.2.getD k 0) (P.2.getD l 0,Q.2.getD l 0)=true/\lS ↥bs brk (P.2.getD l 0,Q.2.getD l 0) (P.2.getD k 0,Q.2.getD k 0)=true:=λk l f hl=>by
  have hk:k<↥Uz:=MB f hl;have E:=eu.mp c.mp l hl k f;have G:=eu.mp c.mq l hl k f;have t:fw U Uz P k l=brk ((Uz.getD l (0,[])).2.getD k 0) (P.2.getD k 0) (P.2.getD l 0):=p _ _ _ _ _ _ (o k hk) (o l hl) c.gp.mark (r l k hl f) (c.gp.at hk) (c.gp.at hl);have u:fw U Uz Q k l=brk ((Uz.getD l (0,[])).2.getD k 0) (Q.2.getD k 0) (Q.2.getD l 0):=p _ _ _ _ _ _ (o k hk) (o l hl) c.gq.mark (r l k hl f) (c.gq.at hk) (c.gq.at hl);rw[E]at t;rw[G]at u;have hw:=r l k hl f;unfold lS;constructor
  all_goals
   rw[Mp];show .inr (MQ.mpr #[_,aI hw.1 hw.2,?_]);dsimp only;rw[<- t,<- u];simp
 have y:∀A D:Ki×Ki,(∃k<↥Uz,A=(P.2.getD k 0,Q.2.getD k 0))->(∃k<↥Uz,D=(P.2.getD k 0,Q.2.getD k 0))->lS ↥bs brk A D=true:=by
  rintro A D ⟨k,hk,rfl⟩ ⟨l,hl,rfl⟩;rcases Re k l with h|rfl|h
  ·show(s k l h hl).1
  ·unfold lS;simp
  ·show(s l k h hk).2
 have z:∀A:Ki×Ki,(∃k<↥Uz,A=(P.2.getD k 0,Q.2.getD k 0))->A∈Cz ↥bs:=by
  rintro A ⟨k,hk,rfl⟩;have v:=c.gp.at hk;have w:=c.gq.at hk;show Mf.mpr #[_,aI v.1 v.2,Kn.mpr #[_,aI w.1 w.2,rfl]]
 obtain⟨C,q,e⟩:=zT (R:=λA=>∃k<↥Uz,A=(P.2.getD k 0,Q.2.getD k 0)) y z (Kj ↥bs) [] (λi hi=>by
  have hi:=Ky.mp hi;have:=x i ∅
  unfold oF at this;rw[KC hi]at this;obtain⟨k,hk,L⟩:=MQ.mp this;have hk:=Ky.mp hk;show#[_,#[k,hk,rfl],?_];rw[<- L];show(p _ _ _ _ _ _ (o k hk) c.gp.mark c.gq.mark (c.gp.at hk) (c.gq.at hk) (J _ (Kt (ap (d:=0) hi)))).symm) (λD g=>nomatch g) h
 unfold HJ at e;rw[Kc]at e;have I:=n e.1;subst I;have:=x ↥bs ∅
 unfold oF at this;rw[KS ∅]at this
 have m1:=c.gp.mark;have m2:=c.gq.mark;have B:P.1=Q.1:=∅
 have m:Dh P Q ↥Uz=false:=by simpa using this
 unfold Dh at m;rw[B,Lk,Na,Q7]at m;obtain⟨k,hk,hd⟩:=m;have hk:=Ky.mp hk;have g:=KD.mp e.2 _ (z _ #[k,hk,rfl]);rw[Mp]at g;rcases g with g|g
 ·have:=Lr g;dsimp only at this;rw[this]at hd;simp at hd
 ·rw[show(C.all λA=>lS ↥bs brk A (P.2.getD k 0,Q.2.getD k 0))=true from KD.mpr λA H=>y A _ (q A H) #[k,hk,rfl]]at g
  cases g
def i5 {a f:Kb}{bs:J2 Ki}{U:J2 (T×W)}(e:f<↥bs)(g:∀m0 m1 m2 x y:Ki,bd U [(m0,[]),(m1,[x]),(m2,[y,bs.getD f 0])]=false):¬ wc a bs U (↥bs+1):=by
 rintro⟨Uz,P,Q,h,d⟩;have:=d f ∅
 unfold oF at this;rw[KC e]at this;obtain⟨k,hk,b⟩:=MQ.mp this;have c:=g (Uz.getD k (0,[])).1 P.1 Q.1 (P.2.getD k 0) (Q.2.getD k 0);unfold Ck at b;rw[c]at b;cases b
def qS {a:Kb}{U:J2 (T×W)}(l:∀m0 m1 m2:Ki,bd U [(m0,[]),(m1,[0]),(m2,[0,0])]=true->m1=m2):¬ wc a [0] U 2:=by
 rintro⟨Uz,P,Q,d,g⟩;have z:∀{p:Pt}{k:Kb},GoodP a 1 ↥Uz p->k<↥Uz->p.2.getD k 0=0:=λh hk=>by
  have:=h.at hk;omega
 have f:=g 0 ∅
 have c:=g 1 ∅
 unfold oF at f c;rw[KC #v[]]at f
 rw[KS #v[]]at c
 obtain⟨k,hk,b⟩:=MQ.mp f;have hk:=Ky.mp hk;unfold Ck at b;rw[z d.gp hk,z d.gq hk]at b;have i:=l _ _ _ b;have:Dh P Q ↥Uz=true:=by
  unfold Dh;rw[i,Lk,Na];show KD.mpr λj e=>?_
  have e:=Ky.mp e;rw[z d.gp e,z d.gq e];rfl
 rw[this]at c;cases c
def zU {bs:J2 Ki}{a:Kb}{u:Wd}{t:J2 Kb}(c:GoodB bs)(e:GoodW a ↥bs u)(hl:↥u=3)(d:t∈am):cG bs (ae bs u t)=cG bs u:=by
 obtain⟨f,b⟩:=bT.mp d;rw[gE hl,gE (by rw[aA,b]),lB c e (by rw[hl];show f) (by rw[b,hl])]
abbrev qT (bs:J2 Ki)(x y z:Ki):J2 (Ki×Ki×Ki):=[(x,y,z),(y,x,bs.getD z.toNat 0),(bs.getD x.toNat 0,z,y),(z,bs.getD x.toNat 0,bs.getD y.toNat 0),(bs.getD y.toNat 0,bs.getD z.toNat 0,x),(bs.getD z.toNat 0,bs.getD y.toNat 0,bs.getD x.toNat 0)]
def j6 {bs:J2 Ki}{t:Ki×Ki×Ki}{x y z:Ki}{s:J2 Kb}(a:s∈am):∃t' p,p∈qT bs x y z/\ae bs (w3 t x y z) s=w3 t' p.1 p.2.1 p.2.2:=by
 obtain⟨m0,m1,m2⟩:=t;have a:s=[0,1,2]\/s=[0,2,1]\/s=[1,0,2]\/s=[1,2,0]\/s=[2,0,1]\/s=[2,1,0]:=by simpa [am]using a
 rcases a with rfl|rfl|rfl|rfl|rfl|rfl
 ·show#[(m0,m1,m2),(x,y,z),by simp[qT],rfl]
 ·show#[(m0,m2,m1),(y,x,bs.getD z.toNat 0),by simp[qT],rfl]
 ·show#[(m1,m0,m2),(bs.getD x.toNat 0,z,y),by simp[qT],rfl]
 ·show#[(m1,m2,m0),(z,bs.getD x.toNat 0,bs.getD y.toNat 0),by simp[qT],rfl]
 ·show#[(m2,m0,m1),(bs.getD y.toNat 0,bs.getD z.toNat 0,x),by simp[qT],rfl]
 ·show#[(m2,m1,m0),(bs.getD z.toNat 0,bs.getD y.toNat 0,bs.getD x.toNat 0),by simp[qT],rfl]
def zV {t t':Ki×Ki×Ki}{x y z a b c:Ki}(h:w3 t x y z=w3 t' a b c):x=a/\y=b/\z=c:=by
 unfold w3 at h;simp only[RK,Nt,and_true,true_and]at h;obtain⟨_,⟨_,d⟩,_,e,f⟩:=h;show#[d,e,f]
abbrev vV (k:Hy)(a:J2 Ki):J2 Ki:=cq k.1 a ↥k.1
def CB:∀k∈KT,∀a∈fX k.1,∀x∈fB ↥k.1,∀y∈fB ↥k.1,∀z∈fB ↥k.1,∀p∈qT (vV k a) x y z,qB (vV k a) (k.2.1.map (ie a)) p.1 p.2.1 p.2.2=qB (vV k a) (k.2.1.map (ie a)) x y z:=by decide +kernel
def Fw:∀k∈KT,∀a∈fX k.1,HK (vV k a) (qB (vV k a) (k.2.1.map (ie a))) (decide (k.2.2=1))=true:=by decide +kernel
def sG {bs:J2 Ki}{P:Ki->Prop}{x y z:Ki}{p:Ki×Ki×Ki}(b:∀v,P v->P (bs.getD v.toNat 0))(c:P x)(d:P y)(e:P z)(a:p∈qT bs x y z):P p.1/\P p.2.1/\P p.2.2:=by
 have a:p=(x,y,z)\/p=(y,x,bs.getD z.toNat 0)\/p=(bs.getD x.toNat 0,z,y)\/p=(z,bs.getD x.toNat 0,bs.getD y.toNat 0)\/p=(bs.getD y.toNat 0,bs.getD z.toNat 0,x)\/p=(bs.getD z.toNat 0,bs.getD y.toNat 0,bs.getD x.toNat 0):=by simpa [qT]using a
 rcases a with rfl|rfl|rfl|rfl|rfl|rfl<;>show#[?_,?_,?_]<;>first|assumption|(apply b;assumption)
def GoodB.bk {bs:J2 Ki}(h:GoodB bs):∀v∈fB ↥bs,(0<=bs.getD v.toNat 0/\bs.getD v.toNat 0<(↥bs:Ki))/\bs.getD (bs.getD v.toNat 0).toNat 0=v:=by
 rcases h with rfl|rfl|rfl|rfl|rfl|rfl<;>decide
def Fx {l:J2 Ki}(h:↥l=2):∃y w,l=[y,w]:=match l,h with
 |[y,w],_=>#[y,w,rfl]
def Jx {m0 m1 m2:Ki}:(m0<=m1/\m1<=m2)\/(m0<=m2/\m2<=m1)\/(m1<=m0/\m0<=m2)\/(m1<=m2/\m2<=m0)\/(m2<=m0/\m0<=m1)\/(m2<=m1/\m1<=m0):=∅
def vW {bs:J2 Ki}{a:Kb}{m0 m1 m2 x y z:Ki}(b:0<=m0/\m0<a)(c:0<=m1/\m1<a)(d:0<=m2/\m2<a):∃s∈am,∃t p,Ris a t/\p∈qT bs x y z/\ae bs (w3 (m0,m1,m2) x y z) s=w3 t p.1 p.2.1 p.2.2:=by
 rcases Jx (m0:=m0) (m1:=m1) (m2:=m2)with⟨g1,g2⟩|⟨g1,g2⟩|⟨g1,g2⟩|⟨g1,g2⟩|⟨g1,g2⟩|⟨g1,g2⟩
 ·show#[[0,1,2],#v[],(m0,m1,m2),(x,y,z),#[b.1,g1,g2,d.2],by simp[qT],rfl]
 ·show#[[0,2,1],#v[],(m0,m2,m1),(y,x,bs.getD z.toNat 0),#[b.1,g1,g2,c.2],by simp[qT],rfl]
 ·show#[[1,0,2],#v[],(m1,m0,m2),(bs.getD x.toNat 0,z,y),#[c.1,g1,g2,d.2],by simp[qT],rfl]
 ·show#[[1,2,0],#v[],(m1,m2,m0),(z,bs.getD x.toNat 0,bs.getD y.toNat 0),#[c.1,g1,g2,b.2],by simp[qT],rfl]
 ·show#[[2,0,1],#v[],(m2,m0,m1),(bs.getD y.toNat 0,bs.getD z.toNat 0,x),#[d.1,g1,g2,c.2],by simp[qT],rfl]
 ·show#[[2,1,0],#v[],(m2,m1,m0),(bs.getD z.toNat 0,bs.getD y.toNat 0,bs.getD x.toNat 0),#[d.1,g1,g2,b.2],by simp[qT],rfl]
def oN {bs:J2 Ki}{a:J2 Wd}{U:J2 (T×W)}{w:Wd}(hd:HasD U (aW bs a)):bd U w=true↔w∈aW bs a:=by
 unfold bd;rw[hd.get,KP];show#[λh=>by
  obtain⟨c,b,e⟩:=Kn.mp h;show eh e▸b,λh=>Kn.mpr #[w,h,rfl]]
section
variable{a:Kb}{bs:J2 Ki}{ms ns:J2 KG}{gs:J2 Wd}{U:J2 (T×W)}
def vX (B:RuleAt a bs ms ns gs)(hd:HasD U (aW bs gs))(h:zj a bs gs):¬ wc a bs U (↥bs+1):=by
 have r:=B.size.good;obtain⟨d,L,c,N,j,k,g,ham,D⟩:=h;have hn:↥bs=↥d:=by rw[g];show gC ..
 have q:=CB (d,L,c) j N k;have J:=Fw (d,L,c) j N k;dsimp only[vV]at q J;rw[<- g]at q J;rw[<- hn]at q;show CA (brk:=qB bs (L.map (ie N))) (λb f=>?_) ?_ (λe=>?_) J
 ·obtain⟨i,hi,e⟩:=Oo f;have:=(r.bk (i:Ki) (aI ∅ ∅)).1
  rw[Kz,Kk,Ke hi,MP,e]at this;show this
 ·intro m0 m1 m2 x y z S T V u w A;have X:GoodW a ↥bs (w3 (m0,m1,m2) x y z):=De S T V u w A;rw[PL];change bd U (w3 (m0,m1,m2) x y z)=true↔_;rw[oN hd,<- Fc r B.mem X rfl,D];have kx:=q x (aI u.1 u.2) y (aI w.1 w.2) z (aI A.1 A.2);constructor
  ·rintro⟨O,Q,R,m,n,o,f,t,ht,e⟩;have M:=q O (aI m.1 m.2) Q (aI n.1 n.2) R (aI o.1 o.2);obtain⟨s1,H,Z⟩:=iS bs (w3 (m0,m1,m2) x y z);obtain⟨s2,I,e2⟩:=iS bs (w3 t O Q R);obtain⟨t1,p1,E,q1⟩:=j6 (bs:=bs) (t:=(m0,m1,m2)) (x:=x) (y:=y) (z:=z) H;obtain⟨t2,p2,G,q2⟩:=j6 (bs:=bs) (t:=t) (x:=O) (y:=Q) (z:=R) I;rw[Z,e2,q1,q2]at e;obtain⟨i1,i2,i3⟩:=zV e;rw[<- kx p1 E,i1,i2,i3,M p2 G];show f
  ·intro C;obtain⟨s,hs,t,p,l,W,e⟩:=vW (bs:=bs) (x:=x) (y:=y) (z:=z) S T V;obtain⟨r1,r2,r3⟩:=sG (P:=λv=>0<=v/\v<(↥bs:Ki)) (λv Y=>(r.bk v (aI Y.1 Y.2)).1) u w A W
   show#[p.1,p.2.1,p.2.2,r1,r2,r3,(kx p W).trans C,t,l,?_];rw[<- e,zU r X rfl hs]
 ·have:=Lr e;have:=B.size.pos;omega
def zW (hd:HasD U (aW bs gs))(h:B3 a bs gs):¬ wc a bs U (↥bs+1):=by
 obtain⟨rfl,f⟩:=h;show qS λm0 m1 m2 hw=>?_
 rw[oN hd]at hw;obtain⟨g,b,hw⟩:=Mf.mp hw;obtain⟨k,rfl⟩:=f g b;obtain⟨s,c,e⟩:=Kn.mp hw;have c:s=[0,1,2]\/s=[0,2,1]\/s=[1,0,2]\/s=[1,2,0]\/s=[2,0,1]\/s=[2,1,0]:=by simpa [am]using c
 have d:([(k,[]),(k,[0]),(k,[0,0])]:Wd)=[(m0,[]),(m1,[0]),(m2,[0,0])]:=by rcases c with rfl|rfl|rfl|rfl|rfl|rfl<;>show e
 simp only[RK,Nt,and_true,true_and]at d;omega
def vY (D:RuleAt a bs ms ns gs)(hd:HasD U (aW bs gs))(h:qt a bs gs):¬ wc a bs U (↥bs+1):=by
 have M:=D.size.good;have O:=D.size.n3;rcases h with rfl|⟨f,hf,C,N⟩
 ·show i5 (f:=0) O.1 λm0 m1 m2 x y=>?_
  rw[Nx];intro h;rw[oN hd]at h;simp[aW]at h
 ·show i5 (f:=f.toNat) ∅ λm0 m1 m2 x y=>?_
  rw[Nx,C];intro h;rw[oN hd]at h;obtain⟨g,k,h⟩:=Mf.mp h;obtain⟨S,q,i,p2,d,rfl,o,b⟩:=N g k;obtain⟨s,Q,e⟩:=Kn.mp h;obtain⟨p,G⟩:=S;obtain⟨u,R⟩:=p2;have z0:↥G=0:=d.len 0 _ rfl;have z2:↥R=2:=d.len 2 _ rfl;obtain rfl:G=[]:=MG z0;obtain⟨j,w2,rfl⟩:=Fx z2;have I:=d.way 1 _ rfl i (by simp)
  have J:=d.way 2 _ rfl j (by simp)
  have L:=d.way 2 _ rfl w2 (by simp)
  have A:∀v,((0<=v/\v<(↥bs:Ki))/\v≠f)->(0<=bs.getD v.toNat 0/\bs.getD v.toNat 0<(↥bs:Ki))/\bs.getD v.toNat 0≠f:=λv n=>by
   obtain⟨i1,E⟩:=M.bk v (aI n.1.1 n.1.2);show#[i1,λe=>?_]
   rw[e,C]at E;show n.2 E.symm
  obtain⟨s1,m,H⟩:=iS bs (w3 (p,q,u) i j w2);obtain⟨Z,w,l,T⟩:=j6 (bs:=bs) (t:=(p,q,u)) (x:=i) (y:=j) (z:=w2) m;obtain⟨W,X,Y⟩:=sG (P:=λv=>(0<=v/\v<(↥bs:Ki))/\v≠f) A #[I,o] #[J,λe=>b (by simp[e])] #[L,λe=>b (by simp[e])] l
  obtain⟨t2,p2,c,V⟩:=j6 (bs:=bs) (t:=Z) (x:=w.1) (y:=w.2.1) (z:=w.2.2) Q;obtain⟨_,_,r⟩:=sG (P:=λv=>(0<=v/\v<(↥bs:Ki))/\v≠f) A W X Y c
  have B:ae bs (cG bs (w3 (p,q,u) i j w2)) s=w3 (m0,m1,m2) x y f:=e;rw[H,T,V]at B;show r.2 (zV B).2.2
def Jy (b:RuleAt a bs ms ns gs)(hd:HasD U (aW bs gs))(h:Ce a bs gs):¬ wc a bs U (↥bs+1):=by
 rcases h with h|h|h
 ·show zW hd h
 ·show vY b hd h
 ·show vX b hd h
end
def zX {bs:J2 Ki}{b a:J2 Wd}{U:J2 (T×W)}(h:HasD U (aW bs b))(p:b.Perm a):HasD U (aW bs a):=by
 have q:(aW bs b).Perm (aW bs a):=p.flatMap_right _;show#[λt=>(h.iff t).trans (q.map ce).mem_iff,by rw[<- q.length_eq];show h.len]
structure Lw35 (defs:J2 (KG×Df)):Prop where
 gen:Gen defs
 flow:Is defs ("_law_flow": KG) 1 1 dQ
 bad:Is defs ("_law_bad": KG) 1 4 eR
 sh:ShP defs
 rg:RgP defs
 law:Is defs ("law": KG) 1 7 j3
section
variable{defs:J2 (KG×Df)}{fuel d:Kb}
def zY (hfu:50<fuel)(L:Lw35 defs){zs:J2 Ki}:∃S',ar defs fuel (d+9) "law" [.ref 0] [.fro (zs.map W.int)]=gV (.bl true,S'):=by
 suffices h:wO (aL (ar defs fuel (d+9)) "law" 1 [.ref 0] [.fro (zs.map W.int)]) (λp=>p.1=.bl true) by
  obtain⟨⟨v,S'⟩,e,q⟩:=bG h;cases(show v=.bl true from q)
  show#[S',e]
 have G:=L.gen;show az L.law rfl rfl λJ hR=>?_
 change wZ _ _ j3 [gV (.ref 0),td,td,td,td,td,td] [.fro (zs.map W.int)] J;unfold j3;nofun
 left;show E9 (d:=d+7) L.flow (ns:=zs) rfl λr S1 _ Q=>hK _ _ ?_
 clear hK K;nofun
 left;show zn (d:=d+1) ∅ G Q λw S2 hw C _=>hK _ _ ?_
 clear hK K Q;obtain⟨a,bs,I,ns,b,rfl,f,k⟩:=hw;have n:=f.size.good;have j:=f.nl;have H:=f.ml;have y:=f.size.pos;have E:=f.size.a3;have s:↥bs<=3:=by rcases n with rfl|rfl|rfl|rfl|rfl|rfl<;>decide
 have pm:(fW b).Perm b:=xF;have c:∀g∈fW b,GoodW a ↥bs g/\↥g=3:=λg hg=>mX n (f.mem g (pm.mem_iff.mp hg))
 have i:(fW b).length<=100:=by
  have h1:=cw b _ f.nd f.mem;have h2:=ox ⇑f;rw[pm.length_eq];omega
 have t:∀U:J2 (T×W),HasD U (aW bs (fW b))->¬ wc a bs U (↥bs+1):=λU h=>Jy f (zX h pm) k
 clear f pm k;unfold di;generalize fW b=gs at c i t;clear b;have ml:(I.map W.str).length=a:=by rw[J4,H]
 nofun
 left;show HC (d:=d+5) G L.bad n j c i λq U S3 M D hq V=>hK _ _ ?_
 clear hK K;have f3:=C.ka V;have B:q≠r:=by have:=C.lt;omega
 clear V hq C;have cl:=Di n c D;nofun
 left;show zQ (d:=d+4) L.sh ∅ ml y E n j s cl M B f3 λu o l S4 A S R f4 k4=>?_
 have N:=k4.get _ _ B M;delta wU;generalize m:W.tup [.tup (I.map W.str),.tup (Ku aG ns bs),.tup (gs.map aw)]=RR;show ac (show dc [4,5,6] [aw u,aw o,.tup (l.map eJ)] [gV (.ref 0),gV (.ref r),gV RR,gV (.ref q),td,td,td]=gV [gV (.ref 0),gV (.ref r),gV RR,gV (.ref q),gV (aw u),gV (aw o),gV (.tup (l.map eJ))]from rfl) ?_
 show hK _ _ ?_;clear hK K;have hL0:↥l<=900:=by
  have:=jy A.op;rw[J4]at this;omega
 nofun
 delta wS wT wE wA wV wG;subst m;show uK (d:=d+2) L.rg ∅ n j s c i t D N A S R λY k5=>?_
 show ac (show dJ Y (.bl true)=gV true from rfl) ?_
 show aq (Q0:=J) (λz=>by cases z) (λ_ Q2 x _=>bu (x _ _ (hK _ _ ?_)))
 clear hK x K;have e5:=k5.get _ _ N;generalize m:W.tup [.tup (I.map W.str),.tup (Ku aG ns bs),.tup (gs.map aw)]=RR;show st ?_;left;show zR l (λp=>.int (p.2:Kb)) (λp=>.int (p.1:Kb)) (λ_=>true) (λp=>eJ (p.2,p.1)) [] rfl rfl rfl rfl ∅ #[rfl,.refl] (λp hp Z X=>?_) λZ X=>?_
 ·delta eG wC wE wA wV wG;show#[λ_=>#[rfl,rfl,.refl],λz=>by cases z]
 rw[aU];show bZ aj ?_;have P:=(X.trans (Ka.push (o:=O.lst (l.map λp=>eJ (p.2,p.1))))).get _ _ e5
 have et:(l.map λp=>eJ (p.2,p.1))=(l.map λp=>(p.2,p.1)).map eJ:=by
  rw[K6];rfl
 rw[et]at P ⊢;subst m;show uK (d:=d+2) L.rg ∅ n j s c i t D P A.turn R S λS8 k8=>?_
 show hR _ _ rfl
end
abbrev Dl:Df:=#[["_law_script"],["_law_script","_law_flow_here","_law_rule","_law_bad_here","_law_one","_law_other","_law_pairs"],j3]
noncomputable abbrev Tw:=KG×Kb×Df×Kb
noncomputable abbrev tw (x:KG)(i:Kb)(d:Df)(a:Kb):Tw:=(x,i,d,a)
abbrev TL:J2 Tw:=[tw "is_whole" 5 #[["thing"],["thing"],fg] 72,tw "is_tuple_of" 6 #[["thing","size"],["thing","size"],cY] 79,tw "is_numbers" 7 #[["thing","size"],["thing","size"],dA] 84,tw "way" 9 #[["rule","world","i","j"],["rule","world","i","j"],uz] 91,tw "part" 11 #[["rule","world","points"],["rule","world","points"],fY] 96,tw "point_over" 12 #[["rule","world","ahead","point"],["rule","world","ahead","point"],bS] 101,tw "longer_orders" 13 #[["orders","size"],["orders","size","longer","order"],bn] 106,tw "barred_threes" 15 #[["rule"],["rule","orders","barred","figure","order"],bH] 113,tw "three_at" 16 #[["world","i","j","k"],["world","i","j","k","one","two"],cQ] 120,tw "first_bar" 17 #[["barred","world"],["barred","world","last","point"],db] 127,tw "laid" 19 #[["rule","one","other","pairs"],["rule","one","other","pairs","barred","order","world","places","number","wish","spread"],oI] 132,tw "share_part" 20 #[["rule","one","other","pairs"],["rule","one","other","pairs","ours","theirs"],dB] 137,tw "are_points" 21 #[["world","numbers"],["world","numbers"],dC] 142,tw "spread_wish" 22 #[["rule","barred","world","points","wish","order"],["rule","barred","world","points","wish","order","base","number","rest","there","fellow"],cZ] 147,tw "first_filling" 23 #[["barred","base","wish","order"],["barred","base","wish","order","number"],cf] 154,tw "place_of" 24 #[["rule","world","spread","number"],["rule","world","spread","number","there"],fj] 159,tw "point_behind" 25 #[["spread"],["spread","ways"],cz] 164,tw "_law_flow" 27 #[["_law_script"],["_law_script"],dQ] 171,tw "_law_pick" 28 #[["_law_flow_here","_law_many"],["_law_flow_here","_law_many","_law_cell","_law_digit"],cj] 178,tw "_law_shuffled" 29 #[["_law_flow_here","_law_things"],["_law_flow_here","_law_things","_law_left","_law_told"],bB] 185,tw "_law_names" 30 #[["_law_flow_here","_law_many"],["_law_flow_here","_law_many"],eg] 190,tw "_law_between" 31 #[["_law_rule","_law_world_here","_law_i","_law_j"],["_law_rule","_law_world_here","_law_i","_law_j"],cW] 197,tw "_law_part" 32 #[["_law_rule","_law_world_here","_law_points"],["_law_rule","_law_world_here","_law_points","_law_told","_law_k","_law_i"],cN] 202,tw "_law_turns" 33 #[[],[],fU] 209,tw "_law_figure" 34 #[["_law_rule","_law_three"],["_law_rule","_law_three"],dv] 214,tw "_law_bad" 35 #[["_law_rule"],["_law_rule","_law_bad_here","_law_three","_law_points"],eR] 221,tw "_law_may" 36 #[["_law_rule","_law_bad_here","_law_world_here"],["_law_rule","_law_bad_here","_law_world_here","_law_k"],eU] 228,tw "_law_last_may" 37 #[["_law_rule","_law_bad_here","_law_world_here","_law_k"],["_law_rule","_law_bad_here","_law_world_here","_law_k","_law_mark","_law_to","_law_j","_law_i"],bz] 235,tw "_law_backs" 38 #[["_law_flow_here","_law_many"],["_law_flow_here","_law_many","_law_menu"],d8] 242,tw "_law_rule_of" 39 #[["_law_flow_here","_law_marks","_law_backs_here","_law_barred"],["_law_flow_here","_law_marks","_law_backs_here","_law_barred","_law_names_here","_law_ways"],cX] 247,tw "_law_free_three" 40 #[["_law_flow_here","_law_marks","_law_ways"],["_law_flow_here","_law_marks","_law_ways","_law_told","_law_k"],bR] 252,tw "_law_sizes" 41 #[["_law_flow_here"],["_law_flow_here","_law_menu"],ee] 259,tw "_law_laying_kind" 42 #[["_law_flow_here"],["_law_flow_here","_law_menu"],bK] 266,tw "_law_breaks" 43 #[["_law_backs_here","_law_must","_law_to_one","_law_to_two","_law_between_here"],["_law_backs_here","_law_must","_law_to_one","_law_to_two","_law_between_here","_law_to","_law_pair","_law_x","_law_y","_law_z"],dw] 273,tw "_law_numbered" 44 #[["_law_flow_here","_law_backs_here","_law_must"],["_law_flow_here","_law_backs_here","_law_must","_law_many","_law_menu","_law_some","_law_numbers","_law_told","_law_k","_law_other","_law_u","_law_v"],be] 278,tw "_law_laying_rule" 45 #[["_law_flow_here"],["_law_flow_here","_law_form","_law_backs_here","_law_must","_law_most","_law_marks","_law_rule","_law_barred","_law_many","_law_at","_law_one","_law_two","_law_between_here","_law_some","_law_first"],bL] 285,tw "_law_rising" 46 #[["_law_marks"],["_law_marks","_law_told","_law_i","_law_j"],dy] 290,tw "_law_free_rule" 47 #[["_law_flow_here"],["_law_flow_here","_law_marks","_law_ways","_law_rule","_law_k","_law_own","_law_free","_law_barred","_law_three"],cb] 295,tw "_law_one_way_rule" 48 #[["_law_flow_here"],["_law_flow_here","_law_marks","_law_barred"],bD] 300,tw "_law_new_ways" 49 #[["_law_flow_here","_law_rule","_law_bad_here","_law_world_here","_law_mark","_law_to"],["_law_flow_here","_law_rule","_law_bad_here","_law_world_here","_law_mark","_law_to","_law_k","_law_left","_law_w","_law_seen","_law_i"],bx] 307,tw "_law_world" 50 #[["_law_flow_here","_law_rule","_law_bad_here","_law_many"],["_law_flow_here","_law_rule","_law_bad_here","_law_many","_law_world_here","_law_k","_law_mark","_law_to"],da] 314,tw "_law_share" 51 #[["_law_flow_here","_law_rule","_law_bad_here","_law_most"],["_law_flow_here","_law_rule","_law_bad_here","_law_most","_law_one","_law_some","_law_other","_law_k","_law_mark","_law_to","_law_places","_law_pairs"],ev] 319,tw "_law_right" 52 #[["_law_rule","_law_bad_here","_law_one","_law_other","_law_pairs"],["_law_rule","_law_bad_here","_law_one","_law_other","_law_pairs","_law_world_here","_law_places","_law_told","_law_first"],eA] 324,tw "law" 53 Dl 329]
abbrev jN:J2 (KG×Df):=TL.map λp=>(p.1,p.2.2.1)
abbrev Jz:J2 (KG×Kb):=TL.map λp=>(p.1,↥p.2.2.1.ps)
abbrev CC:J2 KG:=["range","len","list","tuple","int","set","dict","zip","sorted","isinstance","bool","str","all","min","enumerate"]
abbrev FM:Md:=#[Jz,CC]
abbrev BD (x:KG)(st:Nb)(df:Df):Prop:=∀(kV doc pm:J5) (an:J9 Kf) (cdv ct:J5) (us:J2 J5),↥us=↥df.ps->bindArgs (MA x x (dj st) (b6 st) (aP st) .none kV doc pm an cdv ct) #[us,[]]=pure (df.ps.zip us)
def JK {us:J2 J5}(h:↥us=0):us=[]:=Nh.mp h
def uc {us:J2 J5}{n:Kb}(h:↥us=n+1):∃a t,us=a::t/\↥t=n:=by
 cases us with
 |nil=>cases h
 |cons a t=>show#[a,t,rfl,T6 h]
def JL {us:J2 J5}(h:↥us=1):∃a,us=[a]:=by obtain⟨a,t,rfl,g⟩:=uc h;cases JK g;show#[a,rfl]
def JM {us:J2 J5}(h:↥us=2):∃a b,us=[a,b]:=by obtain⟨a,t,rfl,g⟩:=uc h;obtain⟨b,rfl⟩:=JL g;show#[a,b,rfl]
def JN {us:J2 J5}(h:↥us=3):∃a b c,us=[a,b,c]:=by obtain⟨a,t,rfl,g⟩:=uc h;obtain⟨b,c,rfl⟩:=JM g;show#[a,b,c,rfl]
def JO {us:J2 J5}(h:↥us=4):∃a b c d,us=[a,b,c,d]:=by obtain⟨a,t,rfl,g⟩:=uc h;obtain⟨b,c,d,rfl⟩:=JN g;show#[a,b,c,d,rfl]
def JP {us:J2 J5}(h:↥us=5):∃a b c d e,us=[a,b,c,d,e]:=by obtain⟨a,t,rfl,g⟩:=uc h;obtain⟨b,c,d,e,rfl⟩:=JO g;show#[a,b,c,d,e,rfl]
def JY {us:J2 J5}(h:↥us=6):∃a b c d e f,us=[a,b,c,d,e,f]:=by obtain⟨a,t,rfl,g⟩:=uc h;obtain⟨b,c,d,e,f,rfl⟩:=JP g;show#[a,b,c,d,e,f,rfl]
abbrev DG (p:Tw):Prop:=GX FM (md p.2.1) p.2.2.1/\FnScope p.2.2.1.N p.2.2.1.ps (aP (md p.2.1))/\BD p.1 (md p.2.1) p.2.2.1
def gc {α:Type}{F:α->Prop}{p:α}{L:J2 α}(a:F p)(b:∀q∈L,F q):∀q∈p::L,F q:=List.forall_mem_cons.mpr #[a,b]
def gn {α:Type}{F:α->Prop}:∀q∈([]:J2 α),F q:=λ_ h=>nomatch h
def JZ {p:Tw}(a:ud (cS 20 (yu FM (md p.2.1) p.2.2.1.N)) (b6 (md p.2.1))=gV p.2.2.1.body)(b:FnScope p.2.2.1.N p.2.2.1.ps (aP (md p.2.1)))(c:BD p.1 (md p.2.1) p.2.2.1):DG p:=#[a,b,c]
set_option maxHeartbeats 0 in
def Dm:∀p∈TL,DG p:=by
 unfold TL
 repeat show gc (JZ (by kernel_rfl) #[rfl,rfl,rfl,by decide +kernel,rfl,by decide +kernel,by decide +kernel] λ_ _ _ _ _ _ us h=>by
  first
   |(obtain⟨a,rfl⟩:=JL h;rfl)
   |(obtain⟨a,b,rfl⟩:=JM h;rfl)
   |(obtain⟨a,b,c,rfl⟩:=JN h;rfl)
   |(obtain⟨a,b,c,d,rfl⟩:=JO h;rfl)
   |(obtain⟨a,b,c,d,e,rfl⟩:=JP h;rfl)
   |(obtain⟨a,b,c,d,e,f,rfl⟩:=JY h;rfl)
   |(obtain rfl:=JK h;rfl)) ?_
 show gn
def J0 {f:KG}{m n:Kb}{b:Ss}(h:((jN.lookup f).map λd=>(↥d.ps,↥d.N,d.body))=gV (m,n,b)):Is jN f m n b:=by
 rw[J6]at h;obtain⟨d,c,a⟩:=h;rw[Nt,Nt]at a;show#[d,c,a.1,a.2.1,a.2.2]
set_option maxHeartbeats 0 in
def HL:Lw35 jN:=by
 repeat' first
  |show J0 (by kernel_rfl)
  |constructor
def lJ:∀(L:J2 Tw) (x:KG) (n:Kb),(L.map λp=>(p.1,↥p.2.2.1.ps)).lookup x=gV n->∃p∈L,p.1=x/\↥p.2.2.1.ps=n/\(L.map λp=>(p.1,p.2.2.1)).lookup x=gV p.2.2.1
 |[],x,n,h=>by cases h
 |p::L,x,n,h=>by
  rw[Lb,Mc]at h;rw[Lb,Mc];cases e:x==p.1 with
  |true=>
   rw[e]at h;cases h;show#[p,Mr ..,(eq_of_beq e).symm,rfl,rfl]
  |false=>
   rw[e]at h;obtain⟨q,a,b,c,d⟩:=lJ L x n h;show#[q,LH _ a,b,c,d]
section
variable{P:KQ}{w:K8}{K:Km}{mg:KG->J9 J5}{base:Lh}
abbrev zZ (K:Km)(mg:KG->J9 J5)(x:KG)(st:Nb)(df:Df):Prop:=∃(f:Kf) (fd:MR),Fun K x x st f fd/\mg x=gV (.ref f)/\LY K (.ref f)=true/\Binds K fd df.ps []
def Fy {h:Lh}{x:KG}{st:Nb}{df:Df}{f:Kf}{oc:J5}{od an:J9 Kf}{osl:Lm (J9 J5)}{kV doc pm cdv ct:J5}(X:K.In h)(G:h.Ns mainGlobals mg)
  (b:BD x st df)
  (a:NH K mainGlobals x=gV (gV (.ref f))) (l:K.lookup f=gV #[oc,od,.func (MA x x (dj st) (b6 st) (aP st) .none kV doc pm an cdv ct),osl]) (c:Nf K cdv x=true) (k:LY K (.ref f)=true):zZ K mg x st df:=
 have F:=w9 (st:=st) l c k
 #[f,_,F,Sz X G a,k,F.binds b]
def z4 {fuel:Kb}(j:MdOk w K mg FM)(D:∀p∈TL,zZ K mg p.1 (md p.2.1) p.2.2.1):∀d,CU P w K mg base FM jN fuel d
 |0=>λf n h=>by
  obtain⟨p,a,rfl,g,i⟩:=lJ TL f n h;obtain⟨c,e,F,m,kp,b⟩:=D p a;show#[c,e,p.2.2.1.ps,#[λvs H Q E z=>?_,λA outer s H args us vs Q E r q o t z=>?_],m,kp,b]
  all_goals
   obtain⟨_,_,_,_,_,_,_,_,z,_⟩:=z;cases z
 |d+1=>λf n h=>by
  obtain⟨p,a,rfl,g,i⟩:=lJ TL f n h;obtain⟨k,l,_⟩:=Dm p a;obtain⟨c,e,F,m,kp,b⟩:=D p a;show#[c,e,p.2.2.1.ps,?_,m,kp,b];rw[<- g];show CV F l i k j (z4 j D d)
def HM {h:Lh}(X:K.In h)(G:h.Ns mainGlobals mg)(z:∀y∈CC,NH K mainGlobals y=gV td):MdOk w K mg FM:=#[λy a=>PySem.W.mg_none_of X G (z y a)]
end
def Fz {l:PB}{w:K8}{K:Km}{h:Lh}{mg:KG->J9 J5}{d f:Kf}(X:K.In h)(G:h.Ns mainGlobals mg)(b:mg "law" = gV (.ref d))(i:MdOk w K mg FM)(D:∀p∈TL,zZ K mg p.1 (md p.2.1) p.2.2.1)
  {oc:J5}{od an:J9 Kf}{osl:Lm (J9 J5)}{kV doc pm cdv ct:J5} (a:NH K mainGlobals "law" = gV (gV (.ref f))) (j:K.lookup f=gV #[oc,od,.func (MA "law" "law" (dj (md 53)) (b6 (md 53)) (aP (md 53)) .none kV doc pm an cdv ct),osl]) (c:Nf K cdv "law" = true) (k:LY K (.ref f)=true) :
  ∃g:MR,(∀(s:J8) (v:J5),QT s g #[[v],[]] [("_law_script",v)])/\∀base:Lh,K.In base->base.Ns mainGlobals mg->FnOk l.prog w K mg base v4 9 d g ["_law_script"] (spF w K 1 (ar jN 100 9 "law")):=by
 have e:=b.symm.trans (Sz X G a);cases e;have F:=w9 (st:=md 53) j c k;show#[MA "law" "law" (dj (md 53)) (b6 (md 53)) (aP (md 53)) .none kV doc pm an cdv ct,λs v=>.of_eq rfl,λbase _ _=>CV (df:=Dl) F #[rfl,rfl,rfl,by decide +kernel,rfl,by decide +kernel,by decide +kernel] (by rfl) (by rfl) i (z4 i D 8)]
def JA {l:PB}{q:KQ}{loose:J2 KG}{XP:(KG->J9 J5)->Lh->Prop}{YP:K8->Lh->Prop}{d:DefRec}{K:QC->Km}(j:l.most=gV 63)(b:d.params.defaults=[])
  (i:∀(w:K8) (h:Lh),YP w h->(K w.params).In h)
  (F:∀(w:K8) (mg:KG->J9 J5) (fa:Kf) (h:Lh),(K w.params).In h->h.Ns mainGlobals mg->mg d.name=gV (.ref fa)->
   ∃c:MR,(∀(s:J8) (u:J5),QT s c #[[u],[]] [("_law_script",u)])/\∀base:Lh,(K w.params).In base->base.Ns mainGlobals mg->FnOk l.prog w (K w.params) mg base v4 9 fa c ["_law_script"] (spF w (K w.params) 1 (ar jN 100 9 "law"))) :
  Si q loose XP YP l.row.toRowW d [] (λf vs=>RW f vs):=
 L2.AC (n:=63) (k:=9) (x:="_law_script") (CX:=λ_=>v4) (sp:=λw=>spF w (K w.params) 1 (ar jN 100 9 "law")) j #v[] b #[rfl,#v[],#v[]] i F
  (λw H a ns hl e g=>Ez (zY (defs:=jN) (fuel:=100) (d:=0) #v[] HL) e g) λ_ _ _ _ _ z=>z
end Mi
open PySem PySem.W PyProof.Rows L2
namespace Mi
section
abbrev EL (K:Km)(p:Tw):Prop:=NH K mainGlobals p.1=gV (gV (.ref p.2.2.2))/\K.lookup p.2.2.2=gV (kf p.2.2.2 (md p.2.1) p.1 (IT p.2.1) (.ref (p.2.2.2-1))).2/\Nf K (.ref (p.2.2.2-1)) p.1=true/\LY K (.ref p.2.2.2)=true
def J1 {K:Km}{p:Tw}(e:NH K mainGlobals p.1=gV (gV (.ref p.2.2.2)))(l:K.lookup p.2.2.2=gV (kf p.2.2.2 (md p.2.1) p.1 (IT p.2.1) (.ref (p.2.2.2-1))).2)(c:Nf K (.ref (p.2.2.2-1)) p.1=true)(k:LY K (.ref p.2.2.2)=true):EL K p:=#[e,l,c,k]
def HN (P:QC):∀p∈TL,EL (K0 P) p:=by
 unfold TL
 repeat show gc (J1 (by kernel_rfl) (by kernel_rfl) (by kernel_rfl) (by kernel_rfl)) ?_
 show gn
def HP (P:QC):∀y∈CC,NH (K0 P) mainGlobals y=gV td:=by
 unfold CC
 repeat show gc (F:=λy=>NH (K0 P) mainGlobals y=gV td) (by kernel_rfl) ?_
 show gn
end
end Mi
end
end ZZ.Lean
open ZZ.Lean
theorem PySem.Challenge.cw_layworld_k35_whole_laid_worlds_holds : PySem.Challenge.rw_layworld_k35_whole_laid_worlds.Holds := by
 w_on
 show PySem.W.holds_law (Lp (Lp (Lp (Lp (Lp (Lp (Lp (Lp (Lp (Lp (Lp (Lp (Lp (Lp (Lp (Lp (Lp (Lp (Mi.s0) (by kernel_rfl)) (by kernel_rfl)) (by kernel_rfl)) (by kernel_rfl)) (by kernel_rfl)) (by kernel_rfl)) (by kernel_rfl)) (by kernel_rfl)) (by kernel_rfl)) (by kernel_rfl)) (by kernel_rfl)) (by kernel_rfl)) (by kernel_rfl)) (by kernel_rfl)) (by kernel_rfl)) (by kernel_rfl)) (by kernel_rfl)) (by kernel_rfl)) (λsaid=>?_)
 show PySem.W.holds_open (q:=Mi.vq) (loose:=Mi.lo) (Xt:=λs=>SH Mi.vq [] s&&Sj [] s) (XP:=PySem.W.XL Mi.vq []) (Yf:=Mi.hk.obs) (Ya:=Mi.hk.val) (YP:=Mi.hk.says) (N:=4194) Mi.hl Mi.hk.of Mi.hk.keeps (λs e=>PySem.W.xl_of s (Qc.mp e).1) TH (by rfl) (by rfl) (by rfl) (λs e=>PySem.W.recFacts_of (Qc.mp e).2) (by rfl) said (by decide +kernel) #[rfl,rfl,rfl,rfl,rfl,by decide +kernel] ?hw ?hc
 case hw=>w_witness2
 case hc=>
 show Mi.JA (l:=OM) (K:=Mi.K0) rfl rfl (λw h Yq=>PySem.W.kIn_of Yq) ?F
 case F=>
  intro w mg fa h KX G hmg;show Mi.Fz KX G hmg (Mi.HM KX G (Mi.HP w.params)) (λp hp=>let ⟨e,l,c,k⟩:=Mi.HN w.params p hp;Mi.Fy KX G (Mi.Dm p hp).2.2 e l c k)
   (f:=329) (oc:=.type "function") (od:=td) (an:=td) (osl:=#[]) (kV:=.none) (doc:=.none) (pm:=(.str "law_layworld_k35_whole_laid_worlds" 396)) (cdv:=.ref 328) (ct:=.none) (by kernel_rfl) (by kernel_rfl) (by kernel_rfl) (by kernel_rfl)
