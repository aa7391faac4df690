import PyProof.Rows.All
import Wide.All
import OpenK.AllK
import Wide.FinOn
import Lean
import PyProof.EqAt
import PyProof.EqKinds
import PyProof.TupleCall
import PyProof.ExcClass
import PySem.Challenge.RW_layworld_k52_things_that_are_no_sentence
import PyProof.StationsW
import PyProof.ExcClass3
import PyProof.ExcBaseAll.ValueError
import PyProof.ExcArgsOwn
import PyProof.ExcAttrAll.ValueError
import OpenK.KOwn
import KE.KIsNot
import PyProof.IsiTuple
import PyProof.RulesDel
import KE.KDictList
import PyProof.SetKind
import PyProof.IsRules
import KE.KSortTup
import PyProof.Cells
import PyProof.ZipIter
import PyProof.Draws
import PyProof.EnumMake
import PyProof.WalksEnum
noncomputable section
open Option renaming some->bt,none->gV
set_option hygiene false
local macro_rules|`(abbrev $i:declId $s:optDeclSig $v:declVal)=>`(noncomputable def $i:declId $s:optDeclSig $v:declVal)|`(def $i:declId $b* :$t $v:declVal)=>`(theorem $i:declId $b* :$t $v:declVal)|`(tactic|omega)=>`(tactic|first|lia|omega (config:={}))|`(tactic|show $e:term)=>`(tactic|refine $e:term)|`(tactic|left)=>`(tactic|dsimp only[wS,wE,wA,wV,wG,List.set])|`(tactic|nofun)=>`(tactic|refine bG λK hK=>?_)
local macro_rules|`(#v[])=>`((by decide))|`(#v[$x:term])=>`(.cons $x .nil)|`(#v[$x:term,$y:term,*])=>`(.cons $x #v[$y,*])
local macro_rules|`(#[$x:term])=>`(⟨$x⟩)|`(#[$x:term,$y:term,*])=>`(⟨$x,$y,*⟩)
local macro_rules|`(∅)=>`((by omega))
open _root_ renaming List->JS,Option->JX,Nat->J4,Int->Kk,Bool->Kn,if_pos->Ks,if_neg->Kv,decide_eq_false->KC,decide_eq_true_eq->KG,Array->KP,beq_self_eq_true->KS,False->KT,of_decide_eq_true->La,decide_eq_true->Lh,or_false->Lo,String->Ls,beq_eq_false_iff_ne->LH,beq_false_of_ne->L8,beq_iff_eq->Ma,if_false->Mx,if_true->MY,DecidableEq->Nk,of_decide_eq_false->NF,not_or->QN,Unit->Q5,True->Rk,dif_pos->Tb
open PySem renaming wpAny_bind->JT,Value->JU,Shared->JV,wpAny_pure->JZ,Addr->td,Str->J3,Expr->Kd,Program->Ke,World->Kr,Around->Kw,Heap->KB,wpAny_newObj_type->KI,wpAny_mono->KO,wpAny_callSpecial?_slot->KR,wpAny_call_entry->K3,wpAny_holding->K5,Spec->K8,wpAny_field->K9,FuncData->Lb,sizeLine_eq->Lf,Obj->Ll,DictEntry->Lm,Stmt->Lp,wpAny_truthy_bool->Lx,NameKind->Ly,Pos->LG,ClassData->LM,strKind->LV,codeAny_builtin->L6,wpAny_Call_Name_kw->Mb,wpAny_attempt->Mj,wpAny_typeNameOfWhole_keyiter->Ml,Builtin->Mm,wpAny_setState_of->Mn,codeAny_mono->Ms,wpAny_setField_rec->MA,wpAny_seqItems->MB,wpAny_passesOwn->MH,wpAny_ite_split->MK,Scope->MM,codeAny_call_builtin->MO,wpAny_standAt->MR,wpAny_typeNameOf_keyiter->MU,mem_of_lookup->MW,wpAny_setField->M2,wpAny_askSetting->M5,wpAny_isInstance->M6,wpAny_rule->M9,wpAny_loadPart_at->Ni,wpAny_call->No,SetTable->Nr,plainId_quiet->Nz,wpAny_typeOf->NK,wpAny_pyIter_list->NN,wpAny_dictEntries->NO,PassesOwn->NU,Params->NW,IsPair->NX,wpAny_execs_nil->N1,wpAny_loadPart'->N2,codeAny_of_tree->N3,wpAny_setEntries_of->N9,Env->Oe,GenState->Of,IsPart->Ol,isSubtype_stop->Ot,wpAny_fieldsOf->Ou,Model->OC,wpAny_of_eq->OE,wpAny_pyIter_slot->OF,wpAny_comprehension_free->OI,wpAny_pyHash_str->OJ,noFill_tuple_add->OK,Paired->OQ,call_meets->OS,CmpOp->OZ,wpAny_specialOf->O2,wpAny_dictEpoch->O4,pushCells_keeps->O5,wpAny_isTrue_Compare1->O6,builtinLookup_eq_fast->O7,wpAny_isOneOf_keyiter->Pa,Result->Pb,wpAny_loadPart->Pc,wpAny_runValue->Pe,wpAny_newTuple->Pf,wpAny_pyIter_keyiter->Pj,wpAny_letGo->Pk,wpAny_updateSeq_pair->Pm,wpAny_isSubtype_exc->Pu,rangeSize_one->Pz,seq_tuple_add->PB,wpAny_onRaise->PF,wpAny_handled->PH,IsZip->PJ,sub_set_self->P0,wpAny_pyIter_tuple->P2,wpAny_pyIter_ascii->P3,wpAny_assign_Name->P6,Operator->P8,BindsTo->Qb,Keyword->Qc,concat_meets->Qe,wpAny_sequenceKey->Qf,seqIndex_neg->Qg,list_append->Qh,ExcBaseFacts->Qk,fits_of_scanBound->Qm,wpAny_setEpoch_of->Qr,ItemsOf->Qv,wpAny_pyIter_enum->Qw,wpAny_pyHash_int->QA,wpAny_execs_cons->QC,wpAny_lookBehind->QJ,pastItsLine_dict->QK,isinstance_outer->QL,wpAny_forIn_list->QM,wpAny_getItem_of->QP,wpAny_pyIter_zip->QS,seqIndex_of->QY,wpAny_throw->QZ,wpAny_mkInt->Q1,call_isinstance->Q9,typeLookup_type->Rb,wpAny_updateSeq->Rc,wpAny_Name->Rl,wpAny_Compare1->Rm,wpAny_bindName->Rn,wpAny_load->Ro,typeIs_int->Rs,call->Rv,arm_exec_Raise->Rx,isSubtype_type->RA,entryFor_alias->RB,BoolOp->RE,callType_newIn->RF,Sem->RM,intBits_le_64->RN,evalPart_none->RP,call_list_seq->RQ,Tok->R4,small_one->R5,Walks->R7,call_range_1->Sc,wpAny_nsSet1->Sg,wpAny_mkText->Sh,Drawn->Sq,IsRangeIter->Sr,wpAny_point->SA,wpAny_alloc->SD,IsEnum->SX,OwnTail->SZ,IsRange->Tc,Flow->Tk
open PySem.Heap renaming get?_push_of_some->JW,get?_push_size->J7,lt_size->J8,get?_update_other->KN,get?_update_self->Ld,size_push->Li,SameBut->LW,ExtBut->Pi,get?_update_ne->Pv,get?_push_at->Ql
open Bool renaming and_eq_true->JY,false_ne_true->Kg,false_eq_true->Lk,true_and->Lw,or_eq_true->L5,eq_false_iff->MP,and_true->Nd,false_and->Nm,and_false->NL,false_or->NY,not_true->NZ,or_true->OT,and_eq_false_iff->O8,and_eq_true_iff->Pn,or_false->PD,not_eq_true'->Qx,eq_iff_iff->Ri,true_or->Sd
open Option renaming map_eq_some_iff->J0,isSome_iff_exists->Lj,map_some->Lv,bind_some->Mu,map_eq_none_iff->Nb,getD_some->OM,isSome_some->PX,getD_none->QF,map_map->RC,toList->R1
open PySem.W renaming Frag->J2,look_both->KL,keepIn->Lc,nsIn->LF,fnOf->LX,kia_one->ML,codeIn->M1,findIn->M7,mg_of->Ng,callWith_K->Oj,methodObj->OB,cellsFrom_some->OR,OpenLaw->O3,callWith_K0->Pr,subIn->PK,lookIn->Rp,WalkO->RS,recOk->RV,xlAt->Se
open List renaming mem_cons->J5,length_map->J6,length_append->Kb,getElem?_eq_some_iff->Kc,size_toArray->Ki,mem_cons_of_mem->Ko,mem_cons_self->Kq,getElem?_eq_getElem->Kt,mem_append_right->Ku,mem_singleton->Ky,not_mem_nil->Kz,getElem?_map->KA,lookup_cons->KD,set->KH,length_cons->KJ,all_cons->KM,getElem?_eq_none_iff->KQ,mem_append->KU,getElem?_append_left->KY,replicate->KZ,map_cons->K6,mem_append_left->Le,mem_of_getElem?->Lr,append_nil->Lu,any_cons->LB,find?_cons->LC,take_of_length_le->LD,range->LK,length_range->LL,all_eq_true->LS,getElem?_set->LY,getD_eq_getElem?_getD->LZ,replicate_succ->L3,map_append->L4,length_take->Mc,length_eq_zero_iff->Mo,getElem?_append_right->Mw,zip_cons_cons->Mz,mem_filter->MG,length_nil->MJ,flatten_cons->MN,mem_map->MQ,filterMap_cons->MV,mem_range->M0,getElem?_set_self->M8,drop_of_length_le->Nc,getElem?_eq_none->Nh,getElem?_set_ne->Nl,lookup->Nn,getElem_mem->Nu,rel_of_pairwise_cons->Nx,nodup_cons->NB,of_mem_zip->NC,findIdx?_eq_some_iff_getElem->NI,nodup_append->NM,length_filter_le->NS,forIn_cons->N4,contains_cons->Oo,forIn_nil->Oq,length_eraseIdx_of_lt->Os,pairwise_cons->Ov,filter_append->Ow,append_assoc->OD,length_drop->OL,ext_getElem->ON,range_succ_eq_map->OU,all_map->OV,foldl_cons->O0,nil_append->O1,take_succ->Pd,not_lt->Pg,nodup_nil->Pl,length_zipWith->Px,eraseDups_cons->Py,mem_filterMap->PQ,filterMap_map->PR,take_sublist->Qd,map_nil->Qj,zip_nil_left->Qp,ext_getElem?->Qs,map_map->Qt,take_add_one->Qy,any_toArray->QQ,any_eq_true->QR,isEmpty_iff->QT,filter_cons->QV,length_set->Q7,foldr_cons->Re,find?_some->Rf,foldl->Rt
open Nat renaming le_refl->J9,le_of_ble_eq_true->Kf,ne_of_lt->Kj,lt_of_lt_of_le->Km,le_trans->Kx,ne_of_gt->KW,lt_succ_self->K4,lt_irrefl->Lq,lt_succ_of_lt->Lz,le_succ->Mk,le_of_lt->Mr,zero_le->Mt,le_add_right->Nv,not_lt->PY,lt_of_le_of_lt->PZ,le_of_not_lt->QI,min_eq_right->QU,min_eq_left->Rh,add_assoc->R0,min_self->Si,sub_self->Sk,mod_lt->SW,ble->Th
open Array renaming length_toList->Kh,getElem?_toList->K7,getElem?_eq_some_iff->Ln,getElem?_eq_getElem->MF,getElem?_setIfInBounds_ne->NP,find?_toList->Oi,getElem?_eq_none->OW,toArray_toList->Ph,append_assoc->PN,forIn_toList->P1,toList_push->Qo,getD->RD,toList->R9
open PySem.Value renaming ref->Kl,none->K1,bool->LJ,isStrOf->Mf,builtin->Mh,type->Mp,str->Nt,int->Od,isInt->Sl
open Option.some renaming injEq->KF,inj->LP
open Int renaming toNat_natCast->Lg,natCast_nonneg->MC,emod_lt_of_pos->NE,emod_nonneg->N7,toNat_of_nonneg->N8,zero_add->OY,ediv_nonneg->Rg
open PySem.Around renaming under_plainId->LA,under->P9
open PySem.Builtin.Tuple renaming tupleExact->LN,tupleItemsOf->Np,tupleHashOf->Ox,tupleCompareSizes->Qz,tupleIsExact->Ry
open PySem.Builtin.SmallTypes renaming ownedTupleIsFree->LO,ownedTupleHandOut->Mq,nextOf->OA
open PySem.Str renaming ofString->LQ,length->SO,join->Tx
open PySem.Builtin.Range renaming rangeSize->LR,small->Oa
open PyProof.Rows renaming callWith_type1->LU,slot_tuple_getitem->L9,subscriptTail_builtinR->Na,AllBare->Ob,assignInOrder_cons->Oh,StrsAre->Pp,entry_tuple_getitem->Ps,lt_int->Pw,args_tuple_getitem->PU,assignInOrder_nil->P7,callWith_builtin1->QE,IsTup->QX,IntsAre->Rj,slicePart_none->Rq,Subscript_->Rr,tupleItemsOf_->RO,Call_->Tt
open ForInStep renaming yield->L7
open PySem.Obj renaming mapFields->Mg,data_mapFields->My,mapSeq->ND,isFreed_of_fields->NR,cls_mapFields->Qu
open PySem.Builtin.Slice renaming slicePlaces->MD,sliceAdjust->Nw,sliceApplied->Om,slicePartIndex->Q6,sliceFields->RG
open PySem.Builtin.List renaming listTooLong->MS,listExtendWith->Nj,listLengthHint->Oc,listSameRef->OH,listFitsIndex->Ru
open PySem.Heap.SameBut renaming update->MZ,refl->Qn
open PySem.SetTable renaming below->M3,grown->M4,fits->RY,fits_plain_off->R6,orStandIn->SU,relaid->Ts,laid->TB
open PySem.NameKind renaming cell->Nf,free->NA
open True renaming intro->Nq
open PySem.F renaming args_tuple_add_2->Ny,entry_tuple_add->NH,slot_tuple_add->NJ,excBase_ValueError->Op,plainAttrs_list->OO
open PySem.Builtin.Str renaming occurrences->NG,tooLong->RH,glued->Ti
open PySem.Challenge renaming pw_layworld_k52_things_that_are_no_sentence->NQ,rw_layworld_k52_things_that_are_no_sentence->NT
open PySem.SeqAt renaming EqAt->NV,notIn_listAt->PV,in_tupleAt->QG,in_listAt->Q8
open PySem.Builtin.Dict_items renaming ownsTuple->N5
open PySem.PassesOwn renaming never->N6,leaving->Tf
open PySem.Calls renaming Name_function_global->Og,call_function_entry->Oy,Constant_str->PP
open PySem.Code renaming quiet_builtin->On,isFrame->Qa,frames->Su
open Classical renaming byContradiction->Oz,propDecidable->R8,epsilon_spec->Sj,epsilon->Tj,em->TD
open PySem.Paired renaming length->OG,snoc->Sy
open Sum renaming inr->OP,inl->Po
open PySem.Env renaming kindOf->OX
open PySem.Builtin.Dict renaming showsAll->O9,dictSlotNone->RI,pendingCount->RJ
open PySem.Expr renaming Name->Pq
open PySem.EntryCells renaming newEntry->Pt
open PySem.SeqAt.EqAt renaming int_str->PL,str_int->PM,none_bool->Sv,bool_none->Sw,bool_bool->Sx,none_int->SE,none_str->SG,bool_int->SH,bool_str->SI,int_none->SJ,int_bool->SK,str_none->SL,str_bool->SM,int_int->SQ,str_str->SR,same->Tq
open PySem.ScopeKind renaming function->P4
open PySem.AutoListH renaming list___mul___list_int_3->P5
open PySem.AutoSeq1 renaming list_extend_list_list_0->Qi,sub_tuple_tuple->RW
open PySem.SetTable.below renaming go->Qq
open PyProof.Rows.IsTup renaming new->QD
open PySem.IsL renaming update->QH
open PySem.Builtin.Frozenset renaming updateFrom->Ra,newClass->Rz,sizeOf->RZ
open PySem.Moved renaming eq_with->RX
open Prod.mk renaming injEq->R3
open PySem.W.LeftO renaming of_split->Sf
open Sum.inr renaming inj->So
open PySem.Within renaming cons->Sz
open PySem.Txt renaming join->SC,mul->TC
open PySem.Heap.IsSliceOf renaming new->SN
open PySem.Walks renaming list->SV
open List.Pairwise renaming nil->SY
open PySem.Heap.Ns1 renaming of_empty->Ta
open Function renaming comp_def->Td
open PySem.Flow renaming next->Tl
open PySem.DictEntry renaming refKey->Tn
open List.Perm renaming nil_eq->To,swap->Tv
open PySem.W.XL renaming keeps->Tp
open PySem.Heap.DictOf renaming new->Tr
open Or renaming inr->Tu
open PySem.Value.ref renaming inj->Tz
open Nat.succ renaming inj->TF
set_option genSizeOf false
namespace ZZ.Lean
noncomputable section
set_option Elab.async false
set_option linter.all false
set_option maxRecDepth 100000
namespace L2
open PySem PySem.Spec PyProof.Rows
noncomputable abbrev eQ:=Sum Kk J3
abbrev kE:eQ->JU->Kn
 | .inl k,v=>Sl k v
 | .inr x,v=>Mf x v
abbrev Hy (w:Kr):eQ->Kk
 | .inl k=>hashInt k
 | .inr x=>hashStr w x
def aS:∀ {k:eQ} {v:JU},kE k v=true->(∃i t,k=Po i/\v=Od i t)\/(∃x t,k=OP x/\v=Nt x t)
 | .inl i,v,h=>by
  obtain⟨t,e⟩:=Value.isInt_shape (k:=i) (v:=v) h;exact .inl #[i,t,rfl,e]
 | .inr x,v,h=>by
  obtain⟨t,e⟩:=Value.isStrOf_shape (x:=x) (v:=v) h;exact .inr #[x,t,rfl,e]
def sy (i:Kk)(t:R4):kE (.inl i) (.int i t)=true:=by simp[kE,Sl]
def sA (x:J3)(t:R4):kE (.inr x) (.str x t)=true:=by simp[kE,Mf]
def BU (a b:Kk):decide ((Po a:eQ)=Po b)=(a==b):=by
 by_cases e:a=b
 ·subst e; simp
 ·have h:¬ (Po a:eQ)=Po b:=λq=>e (Sum.inl.inj q)
  rw[KC h];exact(LH.mpr e).symm
def BV (a b:J3):decide ((OP a:eQ)=OP b)=decide (a=b):=by
 by_cases e:a=b
 ·subst e; simp
 ·have h:¬ (OP a:eQ)=OP b:=λq=>e (So q)
  rw[KC h,KC e]
def BW (a:Kk)(b:J3):decide ((Po a:eQ)=OP b)=false:=KC (λq=>nomatch q)
def BX (a:J3)(b:Kk):decide ((OP a:eQ)=Po b)=false:=KC (λq=>nomatch q)
abbrev bI (prog:Ke)(w:Kr):PySem.KeyKind prog w eQ where
 is:=kE
 hash:=Hy w
 inj:=λv a b ha hb=>by
  rcases aS ha with⟨i,t,rfl,rfl⟩|⟨x,t,rfl,rfl⟩
  ·rcases aS hb with⟨j,u,rfl,e⟩|⟨y,u,rfl,e⟩
   ·injection e with e1 _; rw[e1]
   ·exact nomatch e
  ·rcases aS hb with⟨j,u,rfl,e⟩|⟨y,u,rfl,e⟩
   ·exact nomatch e
   ·injection e with e1 _; rw[e1]
 byValue:=λk v h=>by
  rcases aS h with⟨i,t,rfl,rfl⟩|⟨x,t,rfl,rfl⟩ <;> rfl
 pyHash:=λhv h=>by
  rcases aS hv with⟨i,t,rfl,rfl⟩|⟨x,t,rfl,rfl⟩
  ·exact QA h
  ·exact OJ h
 eqBool:=λhu hv h=>by
  rcases aS hu with⟨i,t,rfl,rfl⟩|⟨x,t,rfl,rfl⟩
  ·rcases aS hv with⟨j,u,rfl,rfl⟩|⟨y,u,rfl,rfl⟩
   ·rw[BU]at h; exact wpAny_eqBool_int h
   ·rw[BW]at h; exact PL i t y u _ _ _ _ h
  ·rcases aS hv with⟨j,u,rfl,rfl⟩|⟨y,u,rfl,rfl⟩
   ·rw[BX]at h; exact PM x t j u _ _ _ _ h
   ·rw[BV]at h; exact wpAny_eqBool_str h
 «strs»:=λk x t v h=>by
  rcases aS h with⟨i,u,rfl,e⟩|⟨y,u,rfl,e⟩
  ·exact nomatch e
  ·injection e with e1 _
   subst e1;cases v <;> rfl
def mL (prog:Ke)(w:Kr)(i:Kk)(t:R4):(bI prog w).is (.inl i) (.int i t)=true:=sy i t
def mM (prog:Ke)(w:Kr)(x:J3)(t:R4):(bI prog w).is (.inr x) (.str x t)=true:=sA x t
inductive V where
 | non|bl (b:Kn)|int (i:Kk)|str (x:J3)|byt (b:KP UInt8)|flt (b:UInt64)|ref (a:td)|ty (n:Ls)
 deriving Nk
abbrev RelV:V->JU->Prop
 | .non,u=>u=K1
 | .bl b,u=>u=LJ b
 | .int i,u=>∃t,u=Od i t
 | .str x,u=>∃t,u=Nt x t
 | .byt b,u=>∃t,u=Value.bytes b t
 | .flt b,u=>∃t,u=Value.float b t
 | .ref a,u=>u=Kl a
 | .ty n,u=>u=Mp n
noncomputable abbrev Vals:JS V->JS JU->Prop:=OQ RelV
def Vals.length {xs:JS V}{us:JS JU}(r:Vals xs us):xs.length=us.length:=OG r
def Vals.get:∀ {xs:JS V} {us:JS JU} {i:J4} {x:V},Vals xs us->xs[i]?=bt x->∃u,us[i]?=bt u/\RelV x u
 | _,_,_,_,.nil,e=>by simp at e
 | _,_,0,_,.cons r _,e=>by simp at e; subst e; exact#[_,rfl,r]
 | _,_,i+1,x,.cons _ t,e=>by
  obtain⟨u,h1,h2⟩:=Vals.get (i:=i) (x:=x) t (by simpa using e)
  exact#[u,by simpa using h1,h2]
def Vals.set {x:V}{u:JU}(r:RelV x u):∀ {xs:JS V} {us:JS JU} (i:J4),Vals xs us->Vals (xs.set i x) (us.set i u)
 | _,_,_,.nil=>.nil
 | _,_,0,.cons _ t=>.cons r t
 | _,_,i+1,.cons q t=>.cons q (Vals.set r i t)
def Vals.append:∀ {xs ys:JS V} {us ws:JS JU},Vals xs us->Vals ys ws->Vals (xs++ys) (us++ws)
 | _,_,_,_,.nil,s=>s
 | _,_,_,_,.cons r t,s=>.cons r (Vals.append t s)
def Vals.take:∀ {xs:JS V} {us:JS JU} (n:J4),Vals xs us->Vals (xs.take n) (us.take n)
 | _,_,0,_=>.nil
 | _,_,_+1,.nil=>.nil
 | _,_,n+1,.cons r t=>.cons r (Vals.take n t)
def Vals.drop:∀ {xs:JS V} {us:JS JU} (n:J4),Vals xs us->Vals (xs.drop n) (us.drop n)
 | _,_,0,r=>r
 | _,_,_+1,.nil=>.nil
 | _,_,n+1,.cons _ t=>Vals.drop n t
abbrev RelO:JX V->JX JU->Prop
 | some v,bt u=>RelV v u
 | none,gV=>Rk
 | _,_=>KT
abbrev KV {κ:Type}:JS (κ×V)->JS (κ×JU)->Prop:=OQ λ(p:κ×V) (q:κ×JU)=>p.1=q.1/\RelV p.2 q.2
abbrev kV:eQ->V
 | .inl i=>.int i
 | .inr x=>.str x
inductive HO where
 | lst (xs:JS V)
 | tup (xs:JS V)
 | dK (U:JS (eQ×V))|dT (U:JS (JS eQ×V))
 | set (S:Kk->Kn) (n:J4)
 | ins (C dx:td) (fs:JS (J3×V))
 | own (x:td)
 | xd (fs:JS (J3×V))
 | met (f x:td)
 | rng (lo hi:Kk)
 | frz (o:Ll) (u:HO)
 | tbl (ps:KP JU)
 | ext (φ:KB->Prop)
noncomputable abbrev Hp:=td->JX HO
abbrev ay (H:Hp)(a:td)(o:HO):Hp:=λb=>if b=a then bt o else H b
def ak {H:Hp}{a:td}{o:HO}:ay H a o a=bt o:=by unfold ay; rw[Ks rfl]
def aj {H:Hp}{a b:td}{o:HO}(h:b≠a):ay H a o b=H b:=by unfold ay; rw[Kv h]
def yr {H:Hp}{a:td}{o u:HO}:ay (ay H a o) a u=ay H a u:=by
 funext b; unfold ay; split <;> rfl
def cq {H:Hp}{a b:td}{o:HO}(h:H a=bt o)(h':H b=gV):a≠b:=by
 intro e; subst e; rw[h]at h'; cases h'
section
variable (P:Ke) (w:Kr)
abbrev NoD (h:KB)(a:td):Prop:=∃o,h.get? a=bt o/\o.dict=gV
def NoD.new (h:KB)(its:KP JU)(n:J4):NoD (h.push { cls:=.type "tuple",data:=.seq its n }) h.objs.size:=#[_,J7 _ rfl,rfl]
abbrev ObjOk (H:Hp)(h:KB)(a:td):HO->Prop
 | .lst xs=>xs.length<=sizeLine/\∃(its:JS JU) (n:J4),Vals xs its/\h.get? a=bt { cls:=.type "list",data:=.seq its.toArray n }
 | .tup xs=>(xs.length<=sizeLine/\NoD h a)/\∃its:JS JU,Vals xs its/\QX h a its.toArray
 | .dK U=>U.length<=sizeLine/\(a==sysModules)=false/\∃vs,KV U vs/\h.DictOf (bI P w) a vs
 | .dT U=>U.length<=sizeLine/\(a==sysModules)=false/\∃xs:JS (JS eQ×td×JU),
   OQ (λ(p:JS eQ×V) (q:JS eQ×td×JU)=>p.1=q.1/\H q.2.1=bt (.tup (p.1.map kV))/\RelV p.2 q.2.2) U xs/\
   ∃o es ep,h.get? a=bt o/\o.ExactDict/\o.data=.dict es ep/\es.toList=xs.map (entryOfKey (tupleKind (bI P w)))/\(xs.map (·.1)).Nodup
 | .set S n=>h.SetOf (intKind P w) a S n
 | .ins C dx fs=>H dx=bt (.own a)/\fs.length<=1000/\dx≠a/\h.get? a=bt (PySem.W.instObj C dx)/\
   ∃mA,h.Ns1 dx mA/\(∀f,RelO (fs.lookup f) (mA f))/\PySem.Within mA (fs.map (·.1))
 | .own _=>∃o,h.get? a=bt o
 | .xd fs=>∃mA,h.Ns1 a mA/\∀f,RelO (fs.lookup f) (mA f)
 | .rng lo hi=>∃t u v,h.get? a=bt { cls:=.type "range",data:=.fields [.int lo t,.int hi u,.int 1 v].toArray }
 | .frz o u=>h.get? a=bt o/\ObjOk H h a u
 | .tbl ps=>h.get? a=bt { cls:=.none,data:=.fields ps }
 | .met f x=>h.get? a=bt (OB (.ref f) (.ref x))
 | .ext φ=>φ h/\(∃o,h.get? a=bt o)/\∀h1 h2:KB,φ h1->(∀o,h1.get? a=bt o->h2.get? a=bt o)->φ h2
abbrev HOk (H:Hp)(h:KB):Prop:=∀a o,H a=bt o->ObjOk P w H h a o
end
section
variable{P:Ke}{w:Kr}{H H':Hp}{h h':KB}{a:td}{o:HO}
def ObjOk.lt (x:ObjOk P w H h a o):a < h.objs.size:=by
 cases o with
 | lst xs=>obtain⟨_,_,_,_,e⟩:=x; exact J8 e
 | tup xs=>obtain⟨_,_,_,p⟩:=x; exact p.lt
 | dK U=>obtain⟨_,_,_,_,o,_,_,e,_⟩:=x; exact J8 e
 | dT U=>obtain⟨_,_,_,_,o,_,_,e,_⟩:=x; exact J8 e
 | set S n=>obtain⟨o,_,_,_,e,_⟩:=x; exact J8 e
 | ins C dx fs=>obtain⟨_,_,_,e,_⟩:=x; exact J8 e
 | own y=>obtain⟨_,e⟩:=x; exact J8 e
 | xd fs=>obtain⟨_,⟨_,_,_,e,_⟩,_⟩:=x; exact J8 e
 | rng lo hi=>obtain⟨_,_,_,e⟩:=x; exact J8 e
 | frz ob u=>obtain⟨e,_⟩:=x; exact J8 e
 | tbl ps=>exact J8 (show h.get? a=bt _ from x)
 | met f y=>exact J8 (show h.get? a=bt _ from x)
 | ext φ=>obtain⟨_,⟨_,e⟩,_⟩:=x; exact J8 e
def Paired.mapP {α β:Type}{F G:α->β->Prop}:∀ {l₁:JS α} {l₂:JS β},OQ F l₁ l₂->(∀a b,F a b->G a b)->OQ G l₁ l₂
 | _,_,.nil,_=>.nil
 | _,_,.cons r t,f=>.cons (f _ _ r) (Paired.mapP t f)
def ObjOk.stay (x:ObjOk P w H h a o)(k:∀b u,(b=a\/H b=bt (.own a))->h.get? b=bt u->h'.get? b=bt u)
  (ho:∀b,H b=bt (.own a)->H' b=bt (.own a)) (ht:∀b xs,H b=bt (.tup xs)->H' b=bt (.tup xs)):ObjOk P w H' h' a o:=by
 induction o with
 | lst xs=>obtain⟨z,its,n,r,e⟩:=x; exact#[z,its,n,r,k _ _ (.inl rfl) e]
 | tup xs=>obtain⟨⟨z,ob',e',d⟩,its,r,ob,e,c⟩:=x; exact#[#[z,ob',k _ _ (.inl rfl) e',d],its,r,ob,k _ _ (.inl rfl) e,c]
 | dK U=>obtain⟨z,y,vs,r,ob,es,ep,e,c⟩:=x; exact#[z,y,vs,r,ob,es,ep,k _ _ (.inl rfl) e,c]
 | dT U=>
  obtain⟨z,y,xs,r,ob,es,ep,e,c⟩:=x;exact#[z,y,xs,Paired.mapP r λp q z=>#[z.1,ht _ _ z.2.1,z.2.2],ob,es,ep,k _ _ (.inl rfl) e,c]
 | set S n=>obtain⟨ob,es,ep,t,e,c⟩:=x; exact#[ob,es,ep,t,k _ _ (.inl rfl) e,c]
 | ins C dx fs=>
  obtain⟨d,z,ne,e,mA,⟨od,es,ep,e2,c⟩,r⟩:=x;exact#[ho _ d,z,ne,k _ _ (.inl rfl) e,mA,#[od,es,ep,k _ _ (.inr d) e2,c],r]
 | own y=>obtain⟨ob,e⟩:=x; exact#[ob,k _ _ (.inl rfl) e]
 | xd fs=>obtain⟨mA,⟨od,es,ep,e,c⟩,r⟩:=x; exact#[mA,#[od,es,ep,k _ _ (.inl rfl) e,c],r]
 | rng lo hi=>obtain⟨t,u,v,e⟩:=x; exact#[t,u,v,k _ _ (.inl rfl) e]
 | frz ob u ih=>obtain⟨e,q⟩:=x; exact#[k _ _ (.inl rfl) e,ih q]
 | tbl ps=>
  have e:h.get? a=bt { cls:=.none,data:=.fields ps }:=x;change h'.get? a=bt { cls:=.none,data:=.fields ps };exact k a _ (.inl rfl) e
 | met f y=>
  have e:h.get? a=bt (OB (.ref f) (.ref y)):=x;change h'.get? a=bt (OB (.ref f) (.ref y));exact k a _ (.inl rfl) e
 | ext φ=>obtain⟨p,⟨o,e⟩,st⟩:=x; exact#[st _ _ p λo q=>k _ _ (.inl rfl) q,#[o,k _ _ (.inl rfl) e],st]
def HOk.lt (x:HOk P w H h)(e:H a=bt o):a < h.objs.size:=(x a o e).lt
def HOk.fresh (x:HOk P w H h)(e:h.objs.size<=a):H a=gV:=by
 cases q:H a with
 | none=>rfl
 | some u=>exact absurd (Km (x.lt q) e) (Lq _)
def HOk.kept (x:HOk P w H h)(k:∀b u,h.get? b=bt u->h'.get? b=bt u):HOk P w H h':=λa o e=>
 (x a o e).stay (λb u _ q=>k b u q) (λ_ q=>q) λ_ _ q=>q
def HOk.laid (x:HOk P w H h)(k:∀b u,h.get? b=bt u->h'.get? b=bt u)(hp:h.objs.size<=a)(new:ObjOk P w (ay H a o) h' a o):HOk P w (ay H a o) h':=λb u e=>by
 have hn:=x.fresh hp
 by_cases hb:b=a
 ·subst hb; rw[ak]at e; cases e; exact new
 ·rw[aj hb]at e;exact(x b u e).stay (λc v _ q=>k c v q) (λc q=>by rw[aj (cq q hn)]; exact q) λc xs q=>by rw[aj (cq q hn)]; exact q
end
abbrev Rd (H:Hp)(a:td)(u:HO):Prop:=H a=bt u\/∃o,H a=bt (.frz o u)
def Rd.ok {P:Ke}{w:Kr}{H:Hp}{h:KB}{a:td}{u:HO}(r:Rd H a u)(x:HOk P w H h):ObjOk P w H h a u:=by
 rcases r with r|⟨o,r⟩
 ·exact x a u r
 ·obtain⟨_,q⟩:=x a _ r;exact q
abbrev EJ:JX HO->Prop
 | some (.lst _)=>Rk
 | some (.dK _)=>Rk
 | some (.dT _)=>Rk
 | some (.set _ _)=>Rk
 | some (.ins _ _ _)=>Rk
 | some (.ext _)=>Rk
 | _=>KT
section
variable{P:Ke}{w:Kr}{H:Hp}{h h':KB}{x e:td}{o':HO}
def HOk.write (ok:HOk P w H h)(mu:EJ (H x))(he:e=x\/H e=bt (.own x))(k:∀b u,b≠e->h.get? b=bt u->h'.get? b=bt u)(heo:∃u,h'.get? e=bt u)
  (new:ObjOk P w (ay H x o') h' x o'):HOk P w (ay H x o') h':=λb u q=>by
 have nown:∀c y,H c=bt (.own y)->c≠x:=λc y r z=>by subst z; rw[r]at mu; exact mu
 have ntup:∀c xs,H c=bt (.tup xs)->c≠x:=λc xs r z=>by subst z; rw[r]at mu; exact mu
 by_cases hb:b=x
 ·subst hb; rw[ak]at q; cases q; exact new
 ·rw[aj hb]at q
  by_cases hbe:b=e
  ·have q':H b=bt (.own x):=by
    rcases he with z|z
    ·exact absurd (hbe.trans z) hb
    ·rw[hbe]; exact z
   rw[q]at q'; cases q'
   obtain⟨v,hv⟩:=heo;exact#[v,by rw[hbe]; exact hv]
  ·show(ok b u q).stay (λc v hc r=>k c v ?_ r) (λc r=>by rw[aj (nown c b r)]; exact r) λc xs r=>by rw[aj (ntup c xs r)]; exact r
   rcases hc with rfl|hc
   ·exact hbe
   ·rintro rfl;rcases he with z|z
    ·exact nown c b hc z
    ·rw[hc]at z; cases z; exact hb rfl
end
structure Un (fs ex:JS td)(H H':Hp)(h h':KB):Prop where
 keep:∀b o,h.get? b=bt o->H b=gV->b∉fs->b∉ex->h'.get? b=bt o
 slot:∀b o,h.get? b=bt o->H b=gV->b∈fs->b∉ex->∃sl,h'.get? b=bt { o with slots:=sl }
 free:∀b o,h.get? b=bt o->H b=gV->b∉ex->H' b=gV
 there:∀b o,h.get? b=bt o->b∉ex->∃o',h'.get? b=bt o'
 tups:∀b xs,H b=bt (.tup xs)->H' b=bt (.tup xs)
 frzs:∀b o u,H b=bt (.frz o u)->H' b=bt (.frz o u)
 tbls:∀b ps,H b=bt (.tbl ps)->∃more,H' b=bt (.tbl (ps++more))
section
variable{fs fs' ex ex':JS td}{H H1 H2:Hp}{h h1 h2 h':KB}{a x e:td}{o:HO}
def Un.any (u:Un fs ex H H1 h h1){b:td}{ob:Ll}(q:h.get? b=bt ob)(n:H b=gV)(hx:b∉ex):∃sl,h1.get? b=bt { ob with slots:=sl }:=by
 by_cases hb:b∈fs
 ·exact u.slot b ob q n hb hx
 ·exact#[ob.slots,u.keep b ob q n hb hx]
def Un.trans (a:Un fs ex H H1 h h1)(b:Un fs ex H1 H2 h1 h2):Un fs ex H H2 h h2 where
 keep:=λc ob q n hc hx=>b.keep c ob (a.keep c ob q n hc hx) (a.free c ob q n hx) hc hx
 slot:=λc ob q n hc hx=>by
  obtain⟨sl,e1⟩:=a.slot c ob q n hc hx;obtain⟨sl',e2⟩:=b.slot c _ e1 (a.free c ob q n hx) hc hx;exact#[sl',e2]
 free:=λc ob q n hx=>by
  obtain⟨o',e1⟩:=a.there c ob q hx;exact b.free c o' e1 (a.free c ob q n hx) hx
 there:=λc ob q hx=>by
  obtain⟨o',e1⟩:=a.there c ob q hx;exact b.there c o' e1 hx
 tups:=λc xs q=>b.tups c xs (a.tups c xs q)
 frzs:=λc ob xs q=>b.frzs c ob xs (a.frzs c ob xs q)
 tbls:=λc ps q=>by
  obtain⟨m1,e1⟩:=a.tbls c ps q;obtain⟨m2,e2⟩:=b.tbls c _ e1;exact#[m1++m2,by rw[e2,PN]]
def Un.kept (k:∀b u,h.get? b=bt u->h'.get? b=bt u):Un fs ex H H h h':=
 #[λb ob q _ _ _=>k b ob q,λb ob q _ _ _=>#[ob.slots,k b ob q],λ_ _ _ n _=>n,λb ob q _=>#[ob,k b ob q],λ_ _ q=>q,λ_ _ _ q=>q,λ_ ps q=>#[#[],by rw[q]; simp]]
def Un.refl:Un fs ex H H h h:=Un.kept λ_ _ q=>q
def Un.laid (k:∀b u,h.get? b=bt u->h'.get? b=bt u)(hp:h.objs.size<=a)(hn:H a=gV):Un fs ex H (ay H a o) h h' where
 keep:=λb u q _ _ _=>k b u q
 slot:=λb u q _ _ _=>#[u.slots,k b u q]
 free:=λb u q n _=>by rw[aj (Kj (Km (J8 q) hp))]; exact n
 there:=λb u q _=>#[u,k b u q]
 tups:=λb xs q=>by rw[aj (cq q hn)]; exact q
 frzs:=λb u xs q=>by rw[aj (cq q hn)]; exact q
 tbls:=λb ps q=>#[#[],by rw[aj (cq q hn),q]; simp]
def Un.write (mu:EJ (H x))(he:e=x\/H e=bt (.own x))(k:∀b u,b≠e->h.get? b=bt u->h'.get? b=bt u)(heo:∃u,h'.get? e=bt u):Un fs ex H (ay H x o) h h':=by
 have hx:∀b,H b=gV->b≠x:=λb n z=>by subst z; rw[n]at mu; exact mu
 have hb:∀b,H b=gV->b≠e:=λb n z=>by
  subst z;rcases he with r|r
  ·exact hx b n r
  ·rw[n]at r; cases r
 have hm:∀b u,H b=bt u->¬ EJ (bt u)->b≠x:=λb u q nm z=>by subst z; rw[q]at mu; exact nm mu
 show#[λb u q n _ _=>k b u (hb b n) q,λb u q n _ _=>#[u.slots,k b u (hb b n) q],λb u q n _=>by rw[aj (hx b n)]; exact n,λb u q _=>?_,
  λb xs q=>by rw[aj (hm b _ q λz=>z)]; exact q,λb u xs q=>by rw[aj (hm b _ q λz=>z)]; exact q,λb ps q=>#[#[],by rw[aj (hm b _ q λz=>z),q]; simp]]
 by_cases hbe:b=e
 ·subst hbe; exact heo
 ·exact#[u,k b u hbe q]
end
abbrev Hh (h:KB)(H:Hp):JS td:=(LK h.objs.size).filter λa=>(H a).isSome
abbrev lA (h:KB)(H:Hp):KB:=PySem.W.hideAll h (Hh h H)
def sB (h:KB)(H:Hp):(lA h H).objs.size=h.objs.size:=PySem.W.hideAll_size _ _
def uy {h:KB}{H:Hp}{b:td}{o:Ll}(e:h.get? b=bt o)(n:H b=gV):(lA h H).get? b=bt o:=
 PySem.W.hideAll_get _ e λhm=>by
  have q:(H b).isSome=true:=(MG.mp hm).2;rw[n]at q; simp at q
def yt {h:KB}{H:Hp}{b:td}{o:Ll}(e:(lA h H).get? b=bt o):h.get? b=bt o/\H b=gV:=by
 have e':h.get? b=bt o:=PySem.W.of_hideAll (Hh h H) e;show#[e',?_];cases q:H b with
 | none=>rfl
 | some x=>
  have hm:b∈Hh h H:=MG.mpr #[M0.mpr (J8 e'),by simp[q]]
  have z:(lA h H).get? b=gV:=PySem.W.hideAll_none (Hh h H) hm;rw[z]at e; cases e
abbrev yu (g h:KB)(L:td):JS (td×Ll):=(LK h.objs.size).filterMap λa=>if a=L\/(g.get? a).isSome=true then gV else(h.get? a).map λo=>(a,o)
abbrev au (g h:KB)(L d:td):JS (td×Ll):=(yu g h L).filter λp=>decide (p.1≠d)
structure Mod (K:J2)(mg:J3->JX JU)(base:KB):Prop where
 kin:K.In base
 glob:base.Ns mainGlobals mg
 blt:∃mb,base.Ns builtinsNs mb/\∀x:J3,x≠"__name__"->mb x=bootBuiltins x
 nolimit:base.NoLimit
structure Cx where
 prog:Ke
 w:Kr
 K:J2
 mg:J3->JX JU
 base:KB
 A:Kw
 N:JS J3
 s₀:JV
 H₀:Hp
 env:Oe
 outer:JS Oe
 stack:JS Oe
 ex:JS td
 fn:J3->Kn
 calm:Kn
 pn:JS (td×Ll)
 xe:JU->JV->Prop
abbrev kF (l:JS Oe):JS td:=l.filterMap (·.frame)
noncomputable abbrev Cx.fs (X:Cx):JS td:=kF X.outer
abbrev Hi (sc:MM)(x:J3):Prop:=sc.names.lookup x=bt .local\/sc.names.lookup x=bt .cell\/sc.names.lookup x=bt .free
abbrev uz (sc:MM)(x:J3):Prop:=sc.names.lookup x=bt .local\/sc.names.lookup x=bt .cell
abbrev Hz (env:Oe)(h:KB)(m:J3->JX JU)(x:J3)(u:JU):Prop:=
 (env.kindOf x=bt .local/\m x=bt u)\/((env.kindOf x=bt .cell\/env.kindOf x=bt .free)/\∃c,env.cells.lookup x=bt c/\h.IsCell c (bt u))
structure Cx.Ok (X:Cx):Prop where
 mod:Mod X.K X.mg X.base
 kind:X.env.scope.kind=.function
 glob:X.env.globals=mainGlobals
 blt:X.env.builtins=builtinsNs
 above:X.s₀.heap.objs.size<=X.env.locals
 inj:∀x y c,X.env.cells.lookup x=bt c->X.env.cells.lookup y=bt c->x=y
 has:∀x,(X.env.kindOf x=bt .cell\/X.env.kindOf x=bt .free)->∃c,X.env.cells.lookup x=bt c
 cab:∀x c,X.fn x=true->X.env.cells.lookup x=bt c->X.s₀.heap.objs.size<=c
 hd:X.calm=true->X.A.handled=gV
 frames:X.A.frames=bt X.stack
 stk:X.stack=X.outer\/(X.stack=X.env::X.outer/\X.env.frame=bt X.env.locals)
 exf:∀b∈X.ex,b≠X.env.locals/\∀x c,X.env.cells.lookup x=bt c->c≠b
 bs:∀b o,X.base.get? b=bt o->X.s₀.heap.get? b=bt o/\X.H₀ b=gV
 bsz:X.base.objs.size<=X.s₀.heap.objs.size
 noex:∀b o,X.base.get? b=bt o->b∉X.ex
 exfs:∀b∈X.ex,b∉X.fs
 funs:X.s₀.heap.FunFrames X.base X.outer
 frf:∀b∈X.fs,X.H₀ b=gV
structure Inv (X:Cx)(J:JS (td×Ll))(Y:JS (JX V))(H:Hp)(s:JV):Prop where
 ok:X.Ok
 os:s.os=X.s₀.os
 bare:Ob s.gens
 base:Un X.fs X.ex X.H₀ H X.s₀.heap s.heap
 loc:∃m,s.heap.Ns X.env.locals m/\∀(i:J4) (x:J3) (v:V),X.N[i]?=bt x->Y[i]?=bt (bt v)->Hi X.env.scope x->∃u,RelV v u/\Hz X.env s.heap m x u
 cell:∀x c,X.env.cells.lookup x=bt c->∃v,s.heap.IsCell c v
 free:H X.env.locals=gV
 freeC:∀x c,X.env.cells.lookup x=bt c->H c=gV
 pin:∀p∈X.pn++J,s.heap.get? p.1=bt p.2/\H p.1=gV/\p.1≠X.env.locals/\p.1∉X.fs/\∀v,p.2.data≠.cell v
 hok:HOk X.prog X.w H s.heap
 len:Y.length=X.N.length
section
variable{X:Cx}{J:JS (td×Ll)}{Y:JS (JX V)}{H H':Hp}{s:JV}{h':KB}
def Cx.Ok.nofr (ok:X.Ok){b:td}{o:Ll}(e:X.base.get? b=bt o):b∉X.fs:=λhb=>by
 have:=(ok.funs.mem hb).1;rw[e]at this; cases this
def Inv.bs (I:Inv X J Y H s):∀b o,X.base.get? b=bt o->s.heap.get? b=bt o/\H b=gV:=λb o e=>
 #[I.base.keep b o (I.ok.bs b o e).1 (I.ok.bs b o e).2 (I.ok.nofr e) (I.ok.noex b o e),I.base.free b o (I.ok.bs b o e).1 (I.ok.bs b o e).2 (I.ok.noex b o e)]
def Inv.bk (I:Inv X J Y H s):∀b o,X.base.get? b=bt o->s.heap.get? b=bt o:=λb o e=>(I.bs b o e).1
def Inv.mod (I:Inv X J Y H s):Mod X.K X.mg X.base:=I.ok.mod
def Inv.kIn (I:Inv X J Y H s):X.K.In s.heap:=I.ok.mod.kin.keeps I.bk
def Inv.lt (I:Inv X J Y H s):X.env.locals < s.heap.objs.size:=let ⟨_,hn,_⟩:=I.loc; hn.lt
def Inv.sz (I:Inv X J Y H s):X.s₀.heap.objs.size<=s.heap.objs.size:=Kx I.ok.above (Mr I.lt)
def Inv.nofs (I:Inv X J Y H s){a:td}(h:s.heap.objs.size<=a):a∉X.fs:=λhb=>by
 obtain⟨_,o,ho,_⟩:=I.ok.funs.mem hb;exact absurd (Km (J8 ho) (Kx I.sz h)) (Lq _)
def Inv.cne (I:Inv X J Y H s):∀x c,X.env.cells.lookup x=bt c->c≠X.env.locals:=λx c e z=>by
 obtain⟨v,o,ho,hd⟩:=I.cell x c e;obtain⟨m,⟨o',es,ep,ho',hd',_⟩,_⟩:=I.loc;rw[z,ho']at ho; cases ho; rw[hd']at hd; cases hd
def Inv.funs (I:Inv X J Y H s):s.heap.FunFrames X.base X.outer:=by
 have all:∀(l:JS Oe),(∀b∈kF l,b∈X.fs)->X.s₀.heap.FunFrames X.base l->s.heap.FunFrames X.base l:=by
  intro l
  induction l with
  | nil=>intro _ _; trivial
  | cons env r ih=>
   intro hs hl;obtain⟨hk,⟨L,o,hf,hn,ho,hd⟩,hr⟩:=hl;have hL:L∈X.fs:=hs L (by unfold kF; rw[MV,hf]; exact Kq)
   obtain⟨sl,e⟩:=I.base.slot L o ho (I.ok.frf L hL) hL λz=>I.ok.exfs L z hL
   exact#[hk,#[L,_,hf,hn,e,hd],ih (λb hb=>hs b (by unfold kF; rw[MV,hf]; exact Ko _ hb)) hr]
 exact all X.outer (λ_ hb=>hb) I.ok.funs
def Inv.stack (I:Inv X J Y H s):s.heap.FunFrames X.base X.stack:=by
 rcases I.ok.stk with e|⟨e,hf⟩
 ·rw[e]; exact I.funs
 ·rw[e];obtain⟨m,hn,_⟩:=I.loc;show .cons (by rw[I.ok.kind]; decide) hf hn ?_ I.funs
  exact Heap.get?_none_of_le (Kx I.ok.bsz I.ok.above)
def Inv.stkSub (I:Inv X J Y H s):∀b∈kF X.stack,b∈X.env.locals::X.fs:=λb hb=>by
 rcases I.ok.stk with e|⟨e,hf⟩
 ·rw[e]at hb; exact Ko _ hb
 ·rw[e]at hb;unfold kF at hb;rw[MV,hf]at hb;exact hb
def Inv.stkFree (I:Inv X J Y H s):∀b∈kF X.stack,H b=gV:=λb hb=>by
 rcases J5.mp (I.stkSub b hb)with e|hb
 ·rw[e]; exact I.free
 ·obtain⟨_,o,ho,_⟩:=I.ok.funs.mem hb;exact I.base.free b o ho (I.ok.frf b hb) λz=>I.ok.exfs b z hb
def Inv.step {g':KP Of}{t':J4}{d':Sq}{ch:JS td}(I:Inv X J Y H s)
  (hch:∀b∈ch,(b∈X.ex\/X.s₀.heap.objs.size<=b)/\b≠X.env.locals/\(∀x c,X.env.cells.lookup x=bt c->c≠b)/\∀p∈X.pn++J,p.1≠b)
  (keep:∀b o,b≠X.env.locals->b∉X.fs->b∉ch->s.heap.get? b=bt o->H b=gV->h'.get? b=bt o)
  (slot:∀b o,b≠X.env.locals->b∈X.fs->b∉ch->s.heap.get? b=bt o->H b=gV->∃sl,h'.get? b=bt { o with slots:=sl }) (free:∀b o,b∉ch->s.heap.get? b=bt o->H b=gV->H' b=gV)
  (there:∀b o,b∉ch->s.heap.get? b=bt o->∃o',h'.get? b=bt o')
  (tups:∀b xs,H b=bt (.tup xs)->H' b=bt (.tup xs)) (frzs:∀b o u,H b=bt (.frz o u)->H' b=bt (.frz o u)) (tbls:∀b ps,H b=bt (.tbl ps)->∃more,H' b=bt (.tbl (ps++more)))
  (ns:∀m,s.heap.Ns X.env.locals m->h'.Ns X.env.locals m) (hok:HOk X.prog X.w H' h') (hg:Ob g') :
  Inv X J Y H' { s with heap:=h',gens:=g',drawn:=d',toks:=t' }:=by
 have neL:∀b o,X.s₀.heap.get? b=bt o->b≠X.env.locals:=λb o e=>Kj (Km (J8 e) I.ok.above)
 have neC:∀b o,X.s₀.heap.get? b=bt o->b∉X.ex->b∉ch:=λb o e hx hb=>by
  rcases(hch b hb).1 with z|z
  ·exact hx z
  ·exact absurd (Km (J8 e) z) (Lq _)
 have cellK:∀x c,X.env.cells.lookup x=bt c->∀v,s.heap.IsCell c v->h'.IsCell c v:=λx c e v #[o,ho,hd]=>by
  have nch:c∉ch:=λz=>(hch c z).2.2.1 x c e rfl
  by_cases hc:c∈X.fs
  ·obtain⟨sl,q⟩:=slot c o (I.cne x c e) hc nch ho (I.freeC x c e);exact#[_,q,hd]
  ·exact#[o,keep c o (I.cne x c e) hc nch ho (I.freeC x c e),hd]
 show#[I.ok,I.os,hg,#[λb o e n hb hx=>?_,λb o e n hb hx=>?_,λb o e n hx=>?_,λb o e hx=>?_,λb xs e=>tups b xs (I.base.tups b xs e),λb o xs e=>frzs b o xs (I.base.frzs b o xs e),λb ps e=>?_],?_,λx c e=>?_,?_,λx c e=>?_,λp hp=>?_,hok,I.len]
 ·exact keep b o (neL b o e) hb (neC b o e hx) (I.base.keep b o e n hb hx) (I.base.free b o e n hx)
 ·obtain⟨sl,e1⟩:=I.base.slot b o e n hb hx;obtain⟨sl',e2⟩:=slot b _ (neL b o e) hb (neC b o e hx) e1 (I.base.free b o e n hx);exact#[sl',e2]
 ·obtain⟨o',e1⟩:=I.base.there b o e hx;exact free b o' (neC b o e hx) e1 (I.base.free b o e n hx)
 ·obtain⟨o',e1⟩:=I.base.there b o e hx;exact there b o' (neC b o e hx) e1
 ·obtain⟨m1,e1⟩:=I.base.tbls b ps e;obtain⟨m2,e2⟩:=tbls b _ e1;exact#[m1++m2,by rw[e2,PN]]
 ·obtain⟨m,hn,hl⟩:=I.loc;show#[m,ns m hn,λi x v e1 e2 e3=>?_]
  obtain⟨u,r,l⟩:=hl i x v e1 e2 e3;show#[u,r,?_];rcases l with l|⟨k,c,e,z⟩
  ·exact .inl l
  ·exact .inr #[k,c,e,cellK x c e _ z]
 ·obtain⟨v,z⟩:=I.cell x c e;exact#[v,cellK x c e v z]
 ·obtain⟨m,⟨o,_,_,ho,_⟩,_⟩:=I.loc;exact free _ o (λz=>(hch _ z).2.1 rfl) ho I.free
 ·obtain⟨v,o,ho,hd⟩:=I.cell x c e;exact free c o (λz=>(hch c z).2.2.1 x c e rfl) ho (I.freeC x c e)
 ·obtain⟨e,n,ne,nf,d⟩:=I.pin p hp;have nch:p.1∉ch:=λz=>(hch p.1 z).2.2.2 p hp rfl
  exact#[keep p.1 p.2 ne nf nch e n,free p.1 p.2 nch e n,ne,nf,d]
def Inv.un {t':J4}(I:Inv X J Y H s)(u:Un X.fs [] H H' s.heap h')(hok:HOk X.prog X.w H' h'):Inv X J Y H' { s with heap:=h',toks:=t' }:=by
 obtain⟨m,⟨o,es,ep,ho,r⟩,_⟩:=id I.loc;obtain⟨sl,hL⟩:=u.any ho I.free (by simp)
 exact I.step (g':=s.gens) (d':=s.drawn) (ch:=[]) (λ_ z=>nomatch z) (λb o _ hb _ e n=>u.keep b o e n hb (by simp)) (λb o _ hb _ e n=>u.slot b o e n hb (by simp)) (λb o _ e n=>u.free b o e n (by simp)) (λb o _ e=>u.there b o e (by simp)) u.tups u.frzs u.tbls (λm' hm=>by
  obtain⟨o',es',ep',ho',r'⟩:=hm;rw[ho]at ho'; cases ho'
  exact#[_,es',ep',hL,r']) hok I.bare
def Inv.call {g':KP Of}{t':J4}{d':Sq}{ch:JS td}(I:Inv X J Y H s)(u:Un (kF X.stack) ch H H' s.heap h')(hok:HOk X.prog X.w H' h')(hg:Ob g')
  (hch:∀b∈ch,(b∈X.ex\/X.s₀.heap.objs.size<=b)/\b≠X.env.locals/\(∀x c,X.env.cells.lookup x=bt c->c≠b)/\∀p∈X.pn++J,p.1≠b) :
  Inv X J Y H' { s with heap:=h',gens:=g',drawn:=d',toks:=t' }:=by
 obtain⟨m,⟨o,es,ep,ho,r⟩,_⟩:=id I.loc;obtain⟨sl,hL⟩:=u.any ho I.free λz=>(hch _ z).2.1 rfl
 exact I.step (ch:=ch) hch (λb o hL hb hc e n=>u.keep b o e n (λz=>(J5.mp (I.stkSub b z)).elim hL hb) hc) (λb o _ _ hc e n=>u.any e n hc) (λb o hc e n=>u.free b o e n hc) (λb o hc e=>u.there b o e hc) u.tups u.frzs u.tbls (λm' hm=>by
  obtain⟨o',es',ep',ho',r'⟩:=hm;rw[ho]at ho'; cases ho'
  exact#[_,es',ep',hL,r']) hok hg
def Inv.turned {t':J4}{it:td}(I:Inv X J Y H s)(k:∀b o,b≠it->s.heap.get? b=bt o->h'.get? b=bt o)(hn:H it=gV)(hL:it≠X.env.locals)
  (h1:it∈X.ex\/X.s₀.heap.objs.size<=it) (h2:∀x c,X.env.cells.lookup x=bt c->c≠it) (h3:∀p∈X.pn++J,p.1≠it):Inv X J Y H { s with heap:=h',toks:=t' }:=by
 have nit:∀b u,H b=bt u->b≠it:=λb u e z=>by rw[z,hn]at e; cases e
 show I.step (g':=s.gens) (d':=s.drawn) (ch:=[it]) (λb hb=>?_) (λb o _ _ hc e _=>k b o (λz=>hc (by simp[z])) e) (λb o _ _ hc e _=>#[o.slots,k b o (λz=>hc (by simp[z])) e]) (λ_ _ _ _ n=>n)
  (λb o hc e=>#[o,k b o (λz=>hc (by simp[z])) e]) (λ_ _ e=>e) (λ_ _ _ e=>e) (λb ps e=>#[#[],by rw[e]; simp]) (λm hm=>?_) (λb u e=>?_) I.bare
 ·have e:b=it:=by simpa using hb
  subst e;exact#[h1,hL,h2,h3]
 ·obtain⟨o,es,ep,ho,r⟩:=hm;exact#[o,es,ep,k _ o (Ne.symm hL) ho,r]
 ·show(I.hok b u e).stay (λc v hc q=>k c v ?_ q) (λ_ q=>q) λ_ _ q=>q
  rcases hc with z|z
  ·rw[z]; exact nit b u e
  ·exact nit c _ z
def Inv.tok (I:Inv X J Y H s)(t:J4):Inv X J Y H { s with toks:=t }:=I.un (h':=s.heap) (t':=t) Un.refl I.hok
def Inv.kept {t':J4}(I:Inv X J Y H s)(k:∀b u,s.heap.get? b=bt u->h'.get? b=bt u):Inv X J Y H { s with heap:=h',toks:=t' }:=I.un (Un.kept k) (I.hok.kept k)
def Inv.laid {a:td}{o:HO}{t':J4}(I:Inv X J Y H s)(k:∀b u,s.heap.get? b=bt u->h'.get? b=bt u)(hp:s.heap.objs.size<=a)(new:ObjOk X.prog X.w (ay H a o) h' a o) :
  Inv X J Y (ay H a o) { s with heap:=h',toks:=t' }:=I.un (Un.laid k hp (I.hok.fresh hp)) (I.hok.laid k hp new)
def Inv.write {x e:td}{o:HO}{t':J4}(I:Inv X J Y H s)(mu:EJ (H x))(he:e=x\/H e=bt (.own x))(k:∀b u,b≠e->s.heap.get? b=bt u->h'.get? b=bt u)(heo:∃u,h'.get? e=bt u)
  (new:ObjOk X.prog X.w (ay H x o) h' x o):Inv X J Y (ay H x o) { s with heap:=h',toks:=t' }:=I.un (Un.write mu he k heo) (I.hok.write mu he k heo new)
def Inv.pins_of {J':JS (td×Ll)}(I:Inv X J Y H s)(h:∀p∈J',s.heap.get? p.1=bt p.2/\H p.1=gV/\p.1≠X.env.locals/\p.1∉X.fs/\∀v,p.2.data≠.cell v):Inv X J' Y H s:=
 #[I.ok,I.os,I.bare,I.base,I.loc,I.cell,I.free,I.freeC,λp hp=>(KU.mp hp).elim (λz=>I.pin p (Le _ z)) (h p),I.hok,I.len]
def iY {N:JS J3}(hN:N.Nodup){i j:J4}{x:J3}(a:N[i]?=bt x)(b:N[j]?=bt x):i=j:=by
 obtain⟨h1,e1⟩:=Kc.mp a;obtain⟨h2,e2⟩:=Kc.mp b;exact(List.getElem_inj hN).mp (e1.trans e2.symm)
def sC {Mqa:OC}{A:Kw}{E:JU->JV->Prop}{i:J4}{x:J3}{v:V}{u:JU}{Q:Q5->JV->Prop}(I:Inv X J Y H s)(hN:X.N.Nodup)(hi:X.N[i]?=bt x)(hx:uz X.env.scope x)(r:RelV v u)
  (h:∀s',Inv X J (Y.set i (bt v)) H s'->(∃a,LW a s.heap s'.heap/\(a=X.env.locals\/X.env.cells.lookup x=bt a))->Q () s') (hf:X.fn x=true\/X.env.scope.names.lookup x=bt .local):wpAny Mqa A (storeName X.env x u) Q E s:=by
 obtain⟨m,hn,hl⟩:=id I.loc;have hcls:(X.env.scope.kind==.class||(X.env.scope.kind==.module&&X.env.locals != X.env.globals))=false:=by rw[I.ok.kind]; rfl
 have hiσ:i < Y.length:=by rw[I.len]; exact(Kc.mp hi).1
 have cne:=I.cne;have tracked:∀ {a:td} {h':KB},(∃o,s.heap.get? a=bt o/\H a=gV)->LW a s.heap h'->HOk X.prog X.w H h':=λ{a h'} ha hs b ob e=>by
  obtain⟨_,_,hfree⟩:=ha;show(I.hok b ob e).stay (λc w' hc q=>(hs.2 c ?_).trans q) (λ_ q=>q) λ_ _ q=>q
  rintro rfl;rcases hc with rfl|hc
  ·rw[hfree]at e; cases e
  ·rw[hfree]at hc; cases hc
 rcases hx with hk|hk
 ·show wpAny_storeName_local hk hn (λh' hn' hs=>?_) hcls
  obtain⟨oL,_,_,hoL,_⟩:=id hn;show h _ #[I.ok,I.os,I.bare,#[λb o e n hb hx=>?_,λb o e n hb hx=>?_,I.base.free,λb o e hx=>?_,I.base.tups,I.base.frzs,I.base.tbls],#[_,hn',λj y v' e1 e2 e3=>?_],λy c e=>?_,I.free,I.freeC,λp hp=>?_,tracked #[oL,hoL,I.free] hs,by simpa using I.len] #[_,hs,.inl rfl]
  ·exact(hs.2 b (Kj (Km (J8 e) I.ok.above))).trans (I.base.keep b o e n hb hx)
  ·obtain⟨sl,e1⟩:=I.base.slot b o e n hb hx;exact#[sl,(hs.2 b (Kj (Km (J8 e) I.ok.above))).trans e1]
  ·obtain⟨o',e1⟩:=I.base.there b o e hx;exact#[o',(hs.2 b (Kj (Km (J8 e) I.ok.above))).trans e1]
  ·by_cases hj:j=i
   ·subst hj;rw[hi]at e1; cases e1
    rw[M8 hiσ]at e2;cases e2;exact#[u,r,.inl #[hk,by simp]]
   ·rw[Nl (Ne.symm hj)]at e2;obtain⟨u',r',q⟩:=hl j y v' e1 e2 e3;show#[u',r',?_];rcases q with⟨k,e⟩|⟨k,c,e,z⟩
    ·show .inl #[k,?_];have:y≠x:=λe=>hj (iY hN e1 (e ▸ hi))
     simp[this,e]
    ·exact .inr #[k,c,e,z.sameBut hs (cne y c e)]
  ·obtain⟨w',z⟩:=I.cell y c e;exact#[w',z.sameBut hs (cne y c e)]
  ·obtain⟨e,n,ne,nf,d⟩:=I.pin p hp;exact#[(hs.2 p.1 ne).trans e,n,ne,nf,d]
 ·have hfn:X.fn x=true:=by
   rcases hf with z|z
   ·exact z
   ·rw[z]at hk; cases hk
  obtain⟨c,hc⟩:=I.ok.has x (.inl hk);obtain⟨w',z⟩:=I.cell x c hc;show wpAny_storeName_cell I.ok.kind hk hc z (λh' hc' hs=>?_)
  obtain⟨oc,hoc,hocd⟩:=id z;show h { s with heap:=h' } #[I.ok,I.os,I.bare,#[λb o e n hb hx=>?_,λb o e n hb hx=>?_,I.base.free,λb o e hx=>?_,I.base.tups,I.base.frzs,I.base.tbls],#[m,hn.sameBut hs (Ne.symm (cne x c hc)),λj y v' e1 e2 e3=>?_],λy c' e=>?_,I.free,I.freeC,λp hp=>?_,tracked #[oc,hoc,I.freeC x c hc] hs,by simpa using I.len] #[c,hs,.inr hc]
  ·exact(hs.2 b (Kj (Km (J8 e) (I.ok.cab x c hfn hc)))).trans (I.base.keep b o e n hb hx)
  ·obtain⟨sl,e1⟩:=I.base.slot b o e n hb hx;exact#[sl,(hs.2 b (Kj (Km (J8 e) (I.ok.cab x c hfn hc)))).trans e1]
  ·obtain⟨o',e1⟩:=I.base.there b o e hx;exact#[o',(hs.2 b (Kj (Km (J8 e) (I.ok.cab x c hfn hc)))).trans e1]
  ·by_cases hj:j=i
   ·subst hj;rw[hi]at e1; cases e1
    rw[M8 hiσ]at e2;cases e2;exact#[u,r,.inr #[.inl hk,c,hc,hc']]
   ·rw[Nl (Ne.symm hj)]at e2;obtain⟨u',r',q⟩:=hl j y v' e1 e2 e3;show#[u',r',?_];rcases q with q|⟨k,c',e,z'⟩
    ·exact .inl q
    ·show .inr #[k,c',e,z'.sameBut hs ?_];rintro rfl;exact hj (iY hN e1 (I.ok.inj _ _ _ e hc ▸ hi))
  ·by_cases hcc:c'=c
   ·subst hcc; exact#[_,hc']
   ·obtain⟨w2,z2⟩:=I.cell y c' e;exact#[w2,z2.sameBut hs hcc]
  ·obtain⟨e,n,ne,nf,d⟩:=I.pin p hp;show#[(hs.2 p.1 ?_).trans e,n,ne,nf,d];intro q;rw[q,hoc]at e;have q':oc=p.2:=LP e;exact d w' (by rw[<- q']; exact hocd)
def cZ {Mqa:OC}{A:Kw}{E:JU->JV->Prop}{i:J4}{x:J3}{v:V}{u:JU}{Q:Q5->JV->Prop}(I:Inv X J Y H s)(hN:X.N.Nodup)(hi:X.N[i]?=bt x)(hx:uz X.env.scope x)(r:RelV v u)
  (h:∀s',Inv X J (Y.set i (bt v)) H s'->Q () s') (hf:X.fn x=true\/X.env.scope.names.lookup x=bt .local):wpAny Mqa A (storeName X.env x u) Q E s:=
 sC I hN hi hx r (λs' I' _=>h s' I') hf
def Inv.call' {s':JV}{ch:JS td}(I:Inv X J Y H s)(ho:s'.os=s.os)(u:Un (kF X.stack) ch H H' s.heap s'.heap)(hok:HOk X.prog X.w H' s'.heap)(hg:Ob s'.gens)
  (hch:∀b∈ch,(b∈X.ex\/X.s₀.heap.objs.size<=b)/\b≠X.env.locals/\(∀x c,X.env.cells.lookup x=bt c->c≠b)/\∀p∈X.pn++J,p.1≠b):Inv X J Y H' s':=by
 obtain⟨h',g',d',t',o'⟩:=s';have e:o'=s.os:=ho;subst e;exact I.call (g':=g') (t':=t') (d':=d') u hok hg hch
end
noncomputable abbrev XK:=JU->JX td->Hp->Prop
noncomputable abbrev St:=JS (JX V)
noncomputable abbrev VK:=V->Hp->Prop
noncomputable abbrev TE:=St->Hp->VK->Prop
noncomputable abbrev TT:=St->Hp->(Kn->Hp->Prop)->Prop
noncomputable abbrev TA:=St->Hp->(JS V->Hp->Prop)->Prop
structure Ends where
 nx:St->Hp->Prop
 rt:VK
 bk:St->Hp->Prop:=λ_ _=>KT
 ct:St->Hp->Prop:=λ_ _=>KT
noncomputable abbrev TS:=Ends->St->Hp->Prop
inductive EP (X:Cx)(J:JS (td×Ll))(Y:St)(Q:VK)(u:JU)(s':JV):Prop
 | mk (v:V) (H':Hp) (i:Inv X J Y H' s') (r:RelV v u) (q:Q v H'):EP X J Y Q u s'
inductive TP (X:Cx)(J:JS (td×Ll))(Y:St)(Q:Kn->Hp->Prop)(b:Kn)(s':JV):Prop
 | mk (H':Hp) (i:Inv X J Y H' s') (q:Q b H'):TP X J Y Q b s'
inductive AP (X:Cx)(J:JS (td×Ll))(Y:St)(Q:JS V->Hp->Prop)(us:JS JU)(s':JV):Prop
 | mk (vs:JS V) (H':Hp) (i:Inv X J Y H' s') (r:Vals vs us) (q:Q vs H'):AP X J Y Q us s'
abbrev SP (X:Cx)(J:JS (td×Ll))(D:Ends)(f:Tk)(s':JV):Prop:=
 match f with
 | .next=>∃Y' H',Inv X J Y' H' s'/\D.nx Y' H'
 | .brk=>∃Y' H',Inv X J Y' H' s'/\D.bk Y' H'
 | .cont=>∃Y' H',Inv X J Y' H' s'/\D.ct Y' H'
 | .ret u=>∃v Y' H',Inv X J Y' H' s'/\RelV v u/\D.rt v H'
abbrev PE (X:Cx)(e:Kd)(t:TE):Prop:=
 ∀(J:JS (td×Ll)) (s:JV) (Y:St) (H:Hp) (Q:VK),Inv X J Y H s->t Y H Q->wpAny (model X.prog X.w) X.A (eval e X.env) (EP X J Y Q) X.xe s
abbrev PT (X:Cx)(e:Kd)(t:TT):Prop:=
 ∀(J:JS (td×Ll)) (s:JV) (Y:St) (H:Hp) (Q:Kn->Hp->Prop),Inv X J Y H s->t Y H Q->wpAny (model X.prog X.w) X.A (isTrue e X.env (eval e X.env)) (TP X J Y Q) X.xe s
abbrev PW (X:Cx)(e:Kd)(t:TT):Prop:=
 ∀(whole:RM JU) (J:JS (td×Ll)) (s:JV) (Y:St) (H:Hp) (Q:Kn->Hp->Prop),Inv X J Y H s->t Y H Q->wpAny (model X.prog X.w) X.A (isTrue e X.env whole) (TP X J Y Q) X.xe s
def PW.pt {X:Cx}{e:Kd}{t:TT}(h:PW X e t):PT X e t:=h _
abbrev PA (X:Cx)(es:JS Kd)(t:TA):Prop:=
 ∀(pos:LG) (J:JS (td×Ll)) (s:JV) (Y:St) (H:Hp) (Q:JS V->Hp->Prop),Inv X J Y H s->t Y H Q->wpAny (model X.prog X.w) X.A (spliced (backTo pos (starEach es X.env))) (AP X J Y Q) X.xe s
abbrev PS (X:Cx)(st:Lp)(t:TS):Prop:=
 ∀(J:JS (td×Ll)) (s:JV) (Y:St) (H:Hp) (D:Ends),Inv X J Y H s->t D Y H->wpAny (model X.prog X.w) X.A (exec st X.env) (SP X J D) X.xe s
abbrev PSs (X:Cx)(st:JS Lp)(t:TS):Prop:=
 ∀(J:JS (td×Ll)) (s:JV) (Y:St) (H:Hp) (D:Ends),Inv X J Y H s->t D Y H->wpAny (model X.prog X.w) X.A (execs st X.env) (SP X J D) X.xe s
def aD {α:Type}{t:RM α}{Q Q':α->JV->Prop}{Mqa:OC}{A:Kw}{E:JU->JV->Prop}{s:JV}(h:wpAny Mqa A t Q E s)(hQ:∀a s,Q a s->Q' a s):wpAny Mqa A t Q' E s:=KO h hQ λ_ _ x=>x
section
variable{X:Cx}
def JR {a b:Kd}{ta tb:TE}(ha:PE X a ta)(hb:PE X b tb){J:JS (td×Ll)}{s:JV}{Y:St}{H:Hp}{R:V->V->Hp->Prop}(I:Inv X J Y H s)(h:ta Y H λx H1=>tb Y H1 λy H2=>R x y H2)
  {α:Type} {Q:α->JV->Prop} {f:JU->JU->RM α}
  (hf:∀v u s2 x y H2,Inv X J Y H2 s2->RelV x v->RelV y u->R x y H2->wpAny (model X.prog X.w) X.A (f v u) Q X.xe s2) :
  wpAny (model X.prog X.w) X.A (eval a X.env) (λv s₁=>wpAny (model X.prog X.w) X.A (eval b X.env) (λu s₂=>wpAny (model X.prog X.w) X.A (f v u) Q X.xe s₂) X.xe s₁) X.xe s:=by
 show aD (ha J s Y H _ I h) λv s1 #[x,H1,I1,r1,q1]=>?_
 show aD (hb J s1 Y H1 _ I1 q1) λu s2 #[y,H2,I2,r2,q2]=>?_
 exact hf v u s2 x y H2 I2 r1 r2 q2
abbrev mN (i:J4):TE:=λY H Q=>∃v,Y[i]?=bt (bt v)/\Q v H
abbrev tC (v:V):TE:=λ_ H Q=>Q v H
def fI {i:J4}{x:J3}{pos:LG}(hN:X.N[i]?=bt x)(hv:Hi X.env.scope x)(hd:(x==("__debug__" : J3))=false:=by decide)(hcd:(x==("__classdict__" : J3))=false:=by decide):PE X (.Name x pos) (mN i):=by
 intro J s Y H Q I h;obtain⟨v,e,h⟩:=h;obtain⟨m,hn,hl⟩:=I.loc;obtain⟨u,r,l⟩:=hl i x v hN e hv;have fin:EP X J Y Q u s:=#[v,H,I,r,h];rcases l with⟨hk,hm⟩|⟨hk,c,hc,hcell⟩
 ·exact Rl (wpAny_loadName_local I.ok.kind hk hn hm fin) hd
 ·rcases hk with hk|hk
  ·exact Rl (wpAny_loadName_cell I.ok.kind hk hc hcell fin) hd
  ·exact Rl (wpAny_loadName_free I.ok.kind hk hc hcell fin hcd) hd
def lB {i j pos}:PE X (.Constant (.int i) j pos) (tC (.int i)):=λ_ _ _ H _ I h=>wpAny_Constant_int #[.int i,H,I.tok _,#[_,rfl],h]
def mO {b j pos}:PE X (.Constant (.bool b) j pos) (tC (.bl b)):=λ_ _ _ H _ I h=>Constant_bool #[.bl b,H,I,rfl,h]
def lC {j pos}:PE X (.Constant .none j pos) (tC .non):=λ_ _ _ H _ I h=>Constant_none #[.non,H,I,rfl,h]
def lD {x j pos}:PE X (.Constant (.str x) j pos) (tC (.str x)):=λ_ _ _ H _ I h=>PP #[.str x,H,I.tok _,#[_,rfl],h]
abbrev Gl (X:Cx)(x:J3):Prop:=X.env.kindOf x=bt .globalImplicit
def bW {E:JU->JV->Prop}{J:JS (td×Ll)}{s:JV}{Y:St}{H:Hp}{x:J3}{u:JU}{pos:LG}{Q:JU->JV->Prop}(I:Inv X J Y H s)(hg:Gl X x)(hm:X.mg x=bt u)(h:Q u s)
  (hd:(x==("__debug__" : J3))=false:=by decide):wpAny (model X.prog X.w) X.A (eval (.Name x pos) X.env) Q E s:=
 Og I.ok.kind hg (Calls.loadGlobal_global (by rw[I.ok.glob]; exact I.mod.glob.keeps I.bk) hm h) hd
def fJ {E:JU->JV->Prop}{J:JS (td×Ll)}{s:JV}{Y:St}{H:Hp}{x:J3}{u:JU}{pos:LG}{Q:JU->JV->Prop}(I:Inv X J Y H s)(hg:Gl X x)(hm:X.mg x=gV)(hv:bootBuiltins x=bt u)(h:Q u s)
  (hn:x≠"__name__":=by decide) (hd:(x==("__debug__" : J3))=false:=by decide):wpAny (model X.prog X.w) X.A (eval (.Name x pos) X.env) Q E s:=by
 obtain⟨mb,h1,h2⟩:=I.mod.blt;exact Og I.ok.kind hg (Calls.loadGlobal_builtin (by rw[I.ok.glob]; exact I.mod.glob.keeps I.bk) hm (by rw[I.ok.blt]; exact h1.keeps I.bk) ((h2 x hn).trans hv) h) hd
def lE {x:J3}{v:V}{u:JU}{pos:LG}(hg:Gl X x)(hm:X.mg x=bt u)(r:RelV v u)(hd:(x==("__debug__" : J3))=false:=by decide):PE X (.Name x pos) (tC v):=
 λ_ _ _ H _ I h=>bW I hg hm #[v,H,I,r,h] hd
def qF {x:J3}{v:V}{u:JU}{pos:LG}(hg:Gl X x)(hm:X.mg x=gV)(hv:bootBuiltins x=bt u)(r:RelV v u)(hn:x≠"__name__":=by decide)(hd:(x==("__debug__" : J3))=false:=by decide):PE X (.Name x pos) (tC v):=
 λ_ _ _ H _ I h=>fJ I hg hm hv #[v,H,I,r,h] hn hd
variable{a b:Kd}{ta tb:TE}{pos:LG}
abbrev PC (X:Cx)(op:OZ)(a b:Kd)(t:TE):Prop:=
 ∀(J:JS (td×Ll)) (s:JV) (Y:St) (H:Hp) (Q:VK),Inv X J Y H s->t Y H Q->
  wpAny (model X.prog X.w) X.A (eval a X.env) (λv s₁=>wpAny (model X.prog X.w) X.A (eval b X.env) (λu s₂=>wpAny (model X.prog X.w) X.A (compareOp op v u) (EP X J Y Q) X.xe s₂) X.xe s₁) X.xe s
def mP (b:Kd){op:OZ}(h:op≠.In)(h2:op≠.NotIn):behindInMarks op b=false:=by
 have e1:(op==CmpOp.In)=false:=by cases op <;> first|rfl|exact absurd rfl h
 have e2:(op==CmpOp.NotIn)=false:=by cases op <;> first|rfl|exact absurd rfl h2
 cases b <;> simp[behindInMarks,e1,e2]
abbrev tB (t:TE):TT:=λY H Q=>t Y H λx H1=>∃c,x=.bl c/\Q c H1
def BY {op:OZ}{t:TE}(h:PC X op a b t)(h1:behindInMarks op b=false:=by first|exact mP _ #v[] #v[]|rfl):PE X (.Compare a [op] [b] pos) t:=λJ s Y H Q I hw=>Rm (h J s Y H Q I hw) h1
def BZ {op:OZ}{t:TE}(h:PC X op a b t)(h1:behindInMarks op b=false:=by first|exact mP _ #v[] #v[]|rfl):PT X (.Compare a [op] [b] pos) (tB t):=by
 intro J s Y H Q I hw;show O6 (aD (h J s Y H _ I hw) λv s1 h1=>aD h1 λu s2 h2=>aD h2 λc s3 #[x,H1,I1,r1,q1]=>?_) h1
 obtain⟨d,rfl,q⟩:=q1;cases r1;exact Lx #[H1,I1,q]
variable{tA tB':TT}{au:JS Kd}
abbrev EK (t u:TT):TT:=λY H Q=>t Y H λc H1=>if c=true then u Y H1 Q else Q false H1
abbrev Je (t u:TT):TT:=λY H Q=>t Y H λc H1=>if c=true then Q true H1 else u Y H1 Q
abbrev HA (t:TT):TT:=λY H Q=>t Y H λc H1=>Q (!c) H1
def yv (ha:PT X a tA):PW X (.BoolOp .And [a] pos) tA:=by
 intro wh J s Y H Q I h;show isTrue_and (aD (ha J s Y H Q I h) λc s1 e=>?_)
 cases c with
 | true=>exact isTrue_and_nil e
 | false=>exact e
def B0 (ha:PT X a tA):PW X (.BoolOp .Or [a] pos) tA:=by
 intro wh J s Y H Q I h;show isTrue_or (aD (ha J s Y H Q I h) λc s1 e=>?_)
 cases c with
 | false=>exact isTrue_or_nil e
 | true=>exact e
def B1 (ha:PT X a tA)(hb:PW X (.BoolOp .And (b::au) pos) tB'):PW X (.BoolOp .And (a::b::au) pos) (EK tA tB'):=by
 intro wh J s Y H Q I h;show isTrue_and (aD (ha J s Y H _ I h) λc s1 #[H1,I1,q1]=>?_)
 cases c with
 | true=>exact hb wh J s1 Y H1 Q I1 q1
 | false=>exact#[H1,I1,q1]
def EM (ha:PT X a tA)(hb:PW X (.BoolOp .Or (b::au) pos) tB'):PW X (.BoolOp .Or (a::b::au) pos) (Je tA tB'):=by
 intro wh J s Y H Q I h;show isTrue_or (aD (ha J s Y H _ I h) λc s1 #[H1,I1,q1]=>?_)
 cases c with
 | true=>exact#[H1,I1,q1]
 | false=>exact hb wh J s1 Y H1 Q I1 q1
def B2 (ha:PT X a tA):PT X (.UnaryOp .Not a pos) (HA tA):=by
 intro J s Y H Q I h;exact isTrue_not (aD (ha J s Y H (λc H1=>Q (!c) H1) I h) λ_ _ #[H1,i,q]=>#[H1,i,q])
abbrev EN (ta tb:TE):TE:=λY H Q=>ta Y H λx H1=>∃c,x=.bl c/\if c=true then tb Y H1 Q else Q (.bl false) H1
abbrev HB (ta tb:TE):TE:=λY H Q=>ta Y H λx H1=>∃c,x=.bl c/\if c=true then Q (.bl true) H1 else tb Y H1 Q
abbrev EO (ta:TE):TE:=λY H Q=>ta Y H λx H1=>∃c,x=.bl c/\Q (.bl (!c)) H1
def B3 {op}{t:TE}(h:PE X a t):PE X (.BoolOp op [a] pos) t:=λJ s Y H Q I hw=>BoolOp_one (h J s Y H Q I hw)
def B4 (ha:PE X a ta)(hb:PE X (.BoolOp .And (b::au) pos) tb):PE X (.BoolOp .And (a::b::au) pos) (EN ta tb):=by
 intro J s Y H Q I h;show BoolOp_and (aD (ha J s Y H _ I h) λv s1 #[x,H1,I1,r1,q1]=>?_)
 obtain⟨c,rfl,q1⟩:=q1;cases r1;show Lx ?_;cases c with
 | true=>exact hb J s1 Y H1 Q I1 q1
 | false=>exact#[.bl false,H1,I1,rfl,q1]
def EQ (ha:PE X a ta)(hb:PE X (.BoolOp .Or (b::au) pos) tb):PE X (.BoolOp .Or (a::b::au) pos) (HB ta tb):=by
 intro J s Y H Q I h;show BoolOp_or (aD (ha J s Y H _ I h) λv s1 #[x,H1,I1,r1,q1]=>?_)
 obtain⟨c,rfl,q1⟩:=q1;cases r1;show Lx ?_;cases c with
 | false=>exact hb J s1 Y H1 Q I1 q1
 | true=>exact#[.bl true,H1,I1,rfl,q1]
def B5 (ha:PE X a ta):PE X (.UnaryOp .Not a pos) (EO ta):=by
 intro J s Y H Q I h;show UnaryOp_ (aD (ha J s Y H _ I h) λv s1 #[x,H1,I1,r1,q1]=>?_)
 obtain⟨c,rfl,q1⟩:=q1;cases r1;exact not_of (Lx #[.bl (!c),H1,I1,rfl,q1])
abbrev Js (t:TT)(ta tb:TE):TE:=λY H Q=>t Y H λc H1=>if c=true then ta Y H1 Q else tb Y H1 Q
def uA {c:Kd}(hc:PT X c tA)(ha:PE X a ta)(hb:PE X b tb):PE X (.IfExp c a b pos) (Js tA ta tb):=by
 intro J s Y H Q I h;show wpAny_IfExp (aD (hc J s Y H _ I h) λd s1 #[H1,I1,q1]=>?_)
 cases d with
 | true=>exact ha J s1 Y H1 Q I1 q1
 | false=>exact hb J s1 Y H1 Q I1 q1
end
abbrev SqL (K:J2)(H:Hp)(a:td)(xs:JS V):Prop:=
 Rd H a (.lst xs)\/
  ∃(o:Ll) (its:KP JU) (n:J4),K.lookup a=bt o/\o.cls=.type "list"/\o.dict=gV/\o.data=.seq its n/\its.size<=sizeLine/\Vals xs its.toList
abbrev SqT (K:J2)(H:Hp)(a:td)(xs:JS V):Prop:=
 Rd H a (.tup xs)\/
  ∃(o:Ll) (its:KP JU) (n:J4),K.lookup a=bt o/\o.cls=.type "tuple"/\o.dict=gV/\o.data=.seq its n/\its.size<=sizeLine/\Vals xs its.toList
abbrev sD:JU->JX V
 | .none=>bt .non
 | .bool b=>bt (.bl b)
 | .int i _=>bt (.int i)
 | .str x _=>bt (.str x)
 | .bytes b _=>bt (.byt b)
 | .float b _=>bt (.flt b)
 | .ref a=>bt (.ref a)
 | .type n=>bt (.ty n)
 | _=>gV
def RelV.abs {x:V}{u:JU}(r:RelV x u):sD u=bt x:=by
 cases x with
 | non=>cases r; rfl
 | bl _=>cases r; rfl
 | int _=>obtain⟨t,rfl⟩:=r; rfl
 | str _=>obtain⟨t,rfl⟩:=r; rfl
 | byt _=>obtain⟨t,rfl⟩:=r; rfl
 | flt _=>obtain⟨t,rfl⟩:=r; rfl
 | ref _=>cases r; rfl
 | ty _=>cases r; rfl
def RelV.inj {x y:V}{u:JU}(r:RelV x u)(q:RelV y u):x=y:=LP (r.abs.symm.trans q.abs)
def Vals.inj:∀ {xs ys:JS V} {us:JS JU},Vals xs us->Vals ys us->xs=ys
 | _,_,_,.nil,.nil=>rfl
 | _,_,_,.cons r t,.cons r' t'=>by rw[r.inj r',Vals.inj t t']
section
variable{X:Cx}{J:JS (td×Ll)}{Y:St}{H:Hp}{s:JV}{a:td}{xs ys:JS V}
def SqL.of {K:J2}(h:H a=bt (.lst xs)):SqL K H a xs:=.inl (.inl h)
def SqT.of {K:J2}(h:H a=bt (.tup xs)):SqT K H a xs:=.inl (.inl h)
def Inv.list (I:Inv X J Y H s)(h:SqL X.K H a xs):∃its:JS JU,Vals xs its/\PlainL s.heap a its.toArray/\xs.length<=sizeLine:=by
 rcases h with h|⟨o,its,n,hk,hc,hd,hs,hz,r⟩
 ·obtain⟨z,its,n,r,e⟩:=h.ok I.hok;exact#[its,r,#[_,n,e,rfl,rfl,rfl],z]
 ·show#[its.toList,r,#[o,n,I.kIn a o hk,hc,hd,by simpa using hs],?_]
  have e:=r.length;simp only[Kh]at e;omega
def Inv.tuple (I:Inv X J Y H s)(h:SqT X.K H a xs):∃its:JS JU,Vals xs its/\QX s.heap a its.toArray/\xs.length<=sizeLine:=by
 rcases h with h|⟨o,its,n,hk,hc,hd,hs,hz,r⟩
 ·obtain⟨z,its,r,p⟩:=h.ok I.hok;exact#[its,r,p,z.1]
 ·show#[its.toList,r,#[o,I.kIn a o hk,hc,n,by simpa using hs],?_]
  have e:=r.length;simp only[Kh]at e;omega
def Inv.list_inj (I:Inv X J Y H s)(h:SqL X.K H a xs)(h':SqL X.K H a ys):xs=ys:=by
 obtain⟨its,r,⟨o,n,e,_,_,d⟩,_⟩:=I.list h;obtain⟨its',r',⟨o',n',e',_,_,d'⟩,_⟩:=I.list h';rw[e]at e'; cases e'
 rw[d]at d';injection d' with d1 _
 have:its=its':=by simpa using congrArg R9 d1
 subst this;exact r.inj r'
def Inv.tuple_inj (I:Inv X J Y H s)(h:SqT X.K H a xs)(h':SqT X.K H a ys):xs=ys:=by
 obtain⟨its,r,⟨o,e,_,n,d⟩,_⟩:=I.tuple h;obtain⟨its',r',⟨o',e',_,n',d'⟩,_⟩:=I.tuple h';rw[e]at e'; cases e'
 rw[d]at d';injection d' with d1 _
 have:its=its':=by simpa using congrArg R9 d1
 subst this;exact r.inj r'
end
noncomputable abbrev Cx.wish (X:Cx)(E:JU->JV->Prop):Cx:={ X with xe:=E }
noncomputable abbrev Cx.nox (X:Cx):Cx:=X.wish λ_ _=>KT
def Cx.Ok.wish {X:Cx}(ok:X.Ok)(E:JU->JV->Prop):(X.wish E).Ok:=
 #[ok.mod,ok.kind,ok.glob,ok.blt,ok.above,ok.inj,ok.has,ok.cab,ok.hd,ok.frames,ok.stk,ok.exf,ok.bs,ok.bsz,ok.noex,ok.exfs,ok.funs,ok.frf]
def Cx.Ok.unwish {X:Cx}{E:JU->JV->Prop}(ok:(X.wish E).Ok):X.Ok:=
 #[ok.mod,ok.kind,ok.glob,ok.blt,ok.above,ok.inj,ok.has,ok.cab,ok.hd,ok.frames,ok.stk,ok.exf,ok.bs,ok.bsz,ok.noex,ok.exfs,ok.funs,ok.frf]
section
variable{X:Cx}{J:JS (td×Ll)}{Y:St}{H:Hp}{s:JV}{E:JU->JV->Prop}
def Inv.wish (I:Inv X J Y H s)(E:JU->JV->Prop):Inv (X.wish E) J Y H s:=#[I.ok.wish E,I.os,I.bare,I.base,I.loc,I.cell,I.free,I.freeC,I.pin,I.hok,I.len]
def Inv.unwish (I:Inv (X.wish E) J Y H s):Inv X J Y H s:=#[I.ok.unwish,I.os,I.bare,I.base,I.loc,I.cell,I.free,I.freeC,I.pin,I.hok,I.len]
def SP.unwish {D:Ends}{f:Tk}{s':JV}(h:SP (X.wish E) J D f s'):SP X J D f s':=by
 cases f with
 | next=>obtain⟨Y',H',I,q⟩:=h; exact#[Y',H',I.unwish,q]
 | brk=>obtain⟨Y',H',I,q⟩:=h; exact#[Y',H',I.unwish,q]
 | cont=>obtain⟨Y',H',I,q⟩:=h; exact#[Y',H',I.unwish,q]
 | ret u=>obtain⟨v,Y',H',I,r,q⟩:=h; exact#[v,Y',H',I.unwish,r,q]
def PSs.nox {st:JS Lp}{t:TS}(h:PSs X.nox st t):PSs X st t:=λJ s Y H D I hw=>
 KO (h J s Y H D (I.wish _) hw) (λ_ _ q=>q.unwish) λ_ _ z=>KT.elim z
end
section
variable{X:Cx}{st:Lp}{au:JS Lp}{t u:TS}{e:Kd}{te:TE}{pos:LG}
abbrev uB:TS:=λD Y H=>D.nx Y H
abbrev ER (t u:TS):TS:=λD Y H=>t { D with nx:=u D } Y H
def yw:PSs X [] uB:=λ_ _ Y H _ I h=>N1 #[Y,H,I,h]
def iZ (h1:PS X st t)(h2:PSs X au u):PSs X (st::au) (ER t u):=by
 intro J s Y H D I h;show QC (aD (h1 J s Y H { D with nx:=u D } I h) λf s1 q=>?_)
 cases f with
 | next=>
  obtain⟨Y',H',I',q⟩:=q;exact h2 J s1 Y' H' D I' q
 | ret v=>exact q
 | brk=>exact q
 | cont=>exact q
def f8 (h1:PS X st t):PSs X [st] t:=by
 intro J s Y H D I h;show QC (aD (h1 J s Y H D I h) λf s1 q=>?_)
 cases f with
 | next=>exact N1 q
 | ret v=>exact q
 | brk=>exact q
 | cont=>exact q
abbrev B6:TS:=λD Y H=>D.bk Y H
abbrev ES:TS:=λD Y H=>D.ct Y H
def yy:PS X (.Pass pos) uB:=λ_ _ Y H _ I h=>wpAny_Pass #[Y,H,I,h]
def uC:PS X (.Break pos) B6:=λ_ _ Y H _ I h=>wpAny_Break #[Y,H,I,h]
def mQ:PS X (.Continue pos) ES:=λ_ _ Y H _ I h=>wpAny_Continue #[Y,H,I,h]
def Inv.quiet {J:JS (td×Ll)}{Y:St}{H:Hp}{s:JV}(I:Inv X J Y H s):interactive X.env=false:=by simp[interactive,I.ok.kind]
def B7 {x j pos pos'}:PS X (.Expr (.Constant (.str x) j pos) pos') uB:=λ_ s Y H _ I h=>wpAny_Expr (PP (show SP X _ _ .next { s with toks:=s.toks+1 } from#[Y,H,I.tok _,h])) I.quiet
abbrev AW (te:TE):TS:=λD Y H=>te Y H λ_ H1=>D.nx Y H1
def lF (he:PE X e te)(hs:swapsWith e gV pos.line X.env=pure false:=by rfl):PS X (.Expr e pos) (AW te):=by
 intro J s Y H D I h;exact wpAny_Expr_any (aD (he J s Y H _ I h) λv s1 #[x,H1,I1,r1,q1]=>#[Y,H1,I1,q1]) I.quiet hs
abbrev HC (te:TE):TS:=λD Y H=>te Y H D.rt
def B8 (he:PE X e te):PS X (.Return (bt e) pos) (HC te):=by
 intro J s Y H D I h;exact wpAny_Return_some (aD (he J s Y H _ I h) λv s1 #[x,H1,I1,r1,q1]=>#[x,Y,H1,I1,r1,q1])
abbrev ET:TS:=λD _ H=>D.rt .non H
def yz:PS X (.Return gV pos) ET:=λ_ _ Y H _ I h=>wpAny_Return_none #[.non,Y,H,I,rfl,h]
abbrev HD (c:TT)(t u:TS):TS:=λD Y H=>c Y H λb H1=>if b=true then t D Y H1 else u D Y H1
def uD {c:Kd}{a b:JS Lp}{tc:TT}(hc:PT X c tc)(ha:PSs X a t)(hb:PSs X b u):PS X (.If c a b pos) (HD tc t u):=by
 intro J s Y H D I h;show wpAny_If (aD (hc J s Y H _ I h) λd s1 #[H1,I1,q1]=>?_)
 cases d with
 | true=>exact ha J s1 Y H1 D I1 q1
 | false=>exact hb J s1 Y H1 D I1 q1
end
noncomputable abbrev TG:=V->St->Hp->(St->Hp->Prop)->Prop
noncomputable abbrev B9:=JS V->St->Hp->(St->Hp->Prop)->Prop
abbrev PG (X:Cx)(target:Kd)(t:TG):Prop:=
 ∀(J:JS (td×Ll)) (s:JV) (Y:St) (H:Hp) (v:V) (u:JU) (Q:St->Hp->Prop),Inv X J Y H s->RelV v u->t v Y H Q->
  wpAny (model X.prog X.w) X.A (assign target X.env u) (λ_ s'=>∃Y' H',Inv X J Y' H' s'/\Q Y' H') X.xe s
abbrev EU (X:Cx)(ts:JS Kd)(t:B9):Prop:=
 ∀(J:JS (td×Ll)) (s:JV) (Y:St) (H:Hp) (vs:JS V) (us:JS JU) (Q:St->Hp->Prop),Inv X J Y H s->Vals vs us->t vs Y H Q->
  wpAny (model X.prog X.w) X.A (assignInOrder ((assignEach ts X.env).map (·.2)) us) (λ_ s'=>∃Y' H',Inv X J Y' H' s'/\Q Y' H') X.xe s
noncomputable abbrev Cc:=V->V->V->Hp->(Hp->Prop)->Prop
abbrev Cd (X:Cx)(t:Cc):Prop:=
 ∀(J:JS (td×Ll)) (s:JV) (Y:St) (H:Hp) (o i v:V) (ov iv u:JU) (Q:Hp->Prop),Inv X J Y H s->RelV o ov->RelV i iv->RelV v u->t o i v H Q->
  wpAny (model X.prog X.w) X.A (setItem ov iv u) (λ_ s'=>∃H',Inv X J Y H' s'/\Q H') X.xe s
section
variable{X:Cx}{pos:LG}
abbrev EV (i:J4):TG:=λv Y H Q=>Q (Y.set i (bt v)) H
def qG {i:J4}{x:J3}(hN:X.N.Nodup)(hi:X.N[i]?=bt x)(hx:uz X.env.scope x)(hf:X.fn x=true\/X.env.scope.names.lookup x=bt .local):PG X (.Name x pos) (EV i):=by
 intro J s Y H v u Q I r h;exact P6 (cZ I hN hi hx r (λs' I'=>#[_,H,I',h]) hf)
abbrev HE:B9:=λvs Y H Q=>vs=[]/\Q Y H
abbrev EW (t:TG)(u:B9):B9:=λvs Y H Q=>∃v r,vs=v::r/\t v Y H λY' H'=>u r Y' H' Q
def yA:EU X [] HE:=by
 intro J s Y H vs us Q I r h;obtain⟨e,h⟩:=h;subst e;cases r;exact P7 #[Y,H,I,h]
def uE {e:Kd}{es:JS Kd}{t:TG}{u:B9}(h1:PG X e t)(h2:EU X es u)
  (hs:(assignEach (e::es) X.env).map (·.2)=assign e X.env::(assignEach es X.env).map (·.2):=by rfl):EU X (e::es) (EW t u):=by
 intro J s Y H vs us Q I r h;obtain⟨v,vr,e1,h⟩:=h;subst e1;cases r with
 | cons r rr=>
  rw[hs];show Oh (aD (h1 J s Y H _ _ _ I r h) λ_ s1 #[Y1,H1,I1,q1]=>?_)
  exact h2 J s1 Y1 H1 _ _ Q I1 rr q1
abbrev HF (K:J2)(n:J4)(t:B9):TG:=λv Y H Q=>∃a xs,v=.ref a/\SqT K H a xs/\xs.length=n/\t xs Y H Q
def Ce {es:JS Kd}{k:J4}{t:B9}{n:J4}(hc:X.calm=true)(h:EU X es t)
  (hn:(assignEach es X.env).length=n:=by rfl) (hst:(assignEach es X.env).findIdx? (·.1)=gV:=by rfl):PG X (.Tuple es k pos) (HF X.K n t):=by
 intro J s Y H v u Q I r hw;obtain⟨a,xs,e1,hq,hl,hw⟩:=hw;subst e1;cases r;obtain⟨its,rv,ht,hz⟩:=I.tuple hq;show assign_Tuple_tuple (I.ok.hd hc) ht (by simp[hn,<- hl,rv.length]) hst λh' hx=>?_
 have I1:Inv X J Y H { s with heap:=h' }:=I.kept (t':=s.toks) λb o e=>hx b o (Kj (J8 e)) e
 exact h J _ Y H xs _ Q I1 (by simpa using rv) hw
abbrev HG (to ti:TE)(t:Cc):TG:=λv Y H Q=>to Y H λo H1=>ti Y H1 λi H2=>t o i v H2 λH3=>Q Y H3
def Cf {o i:Kd}{to ti:TE}{t:Cc}(ho:PE X o to)(hi:PE X i ti)(hs:Cd X t)
  (ha:∀v,assign (.Subscript o i pos) X.env v=(do
   let ov <- holding [v] (eval o X.env)
   let iv <- holding [v,ov] (eval i X.env)
   standAt pos
   holding [v,ov,iv] (setItem ov iv v)
   release [v,ov,iv] []):=by intro _; rfl):PG X (.Subscript o i pos) (HG to ti t):=by
 intro J s Y H v u Q I r h;rw[ha];show JT (K5 (aD (ho J s Y H _ I h) λov s1 #[x,H1,I1,r1,q1]=>?_))
 show JT (K5 (aD (hi J s1 Y H1 _ I1 q1) λiv s2 #[y,H2,I2,r2,q2]=>?_))
 show JT (MR (JT (K5 (aD (hs J s2 Y H2 x y v ov iv u _ I2 r1 r2 r q2) λ_ s3 #[H3,I3,q3]=>?_))))
 exact wpAny_release #[Y,H3,I3,q3]
abbrev HH (te:TE)(g:TG):TS:=λD Y H=>te Y H λx H1=>g x Y H1 D.nx
def uF {tg e:Kd}{te:TE}{g:TG}(he:PE X e te)(hg:PG X tg g)(hs:swapsWithSole [tg] e pos.line X.env=pure false:=by rfl)(hw:swappedStores [tg] e X.env=pure gV:=by rfl)
  (h1:(assignEach [tg] X.env).map (·.2)=[assign tg X.env]:=by rfl):PS X (.Assign [tg] e pos) (HH te g):=by
 intro J s Y H D I h;show wpAny_Assign_stores (aD (he J s Y H _ I h) λv s1 #[x,H1,I1,r1,q1]=>?_) hs hw
 rw[h1];exact aD (hg J s1 Y H1 x v _ I1 r1 q1) λ_ s2 q=>q
abbrev HI (i j:J4)(ta:TA):TS:=λD Y H=>ta Y H λvs H1=>∃v w,vs=[v,w]/\D.nx ((Y.set i (bt v)).set j (bt w)) H1
def Cg {i j:J4}{x y:J3}{a b:Kd}{ta:TA}{px py pt:LG}{kt k2 pt2}(hc:X.calm=true)(hN:X.N.Nodup)(hi:X.N[i]?=bt x)(hj:X.N[j]?=bt y)(hij:i≠j)
  (hx:X.env.scope.names.lookup x=bt .local) (hy:X.env.scope.names.lookup y=bt .local) (ha:PA X [a,b] ta)
  (hw:swappedStores [.Tuple [.Name x px,.Name y py] kt pt] (.Tuple [a,b] k2 pt2) X.env=pure (bt [x,y]))
  (hs:swapsWithSole [.Tuple [.Name x px,.Name y py] kt pt] (.Tuple [a,b] k2 pt2) pos.line X.env=pure false:=by rfl) :
  PS X (.Assign [.Tuple [.Name x px,.Name y py] kt pt] (.Tuple [a,b] k2 pt2) pos) (HI i j ta):=by
 intro J s Y H D I h;rw[exec_Assign_arm];show JT (MR ?_);rw[hs];show JT (JZ ?_);rw[Kv #v[]]
 show JT (Tuple_ (aD (ha _ J s Y H _ I h) λus s1 #[vs,H1,I1,r1,q1]=>?_))
 obtain⟨v,w,e1,q1⟩:=q1;subst e1;obtain⟨u1,u2,rfl,rv,rw'⟩ : ∃u1 u2,us=[u1,u2]/\RelV v u1/\RelV w u2:=by
  cases r1 with
  | cons p q=>
   cases q with
   | cons p' q'=>
    cases q';exact#[_,_,rfl,p,p']
 show KI ?_ (by change 2<=sizeLine; decide)
 have I2:Inv X J Y H1 { s1 with heap:=s1.heap.push { cls:=.type "tuple",data:=.seq [u1,u2].toArray } }:=I1.kept (t':=s1.toks) λb o e=>JW _ e
 rw[hw];show JT (JZ ?_);change wpAny (model X.prog X.w) X.A (do rule "assign.swapped-stores"; let items <- unpackItems (.ref s1.heap.objs.size) 2 gV; assignInOrder [λv=>bindName X.env y v,λv=>bindName X.env x v] items.reverse; pure Tl) _ _ _
 show JT (M9 (JT (unpackItems_tuple (items:=[u1,u2].toArray) (I.ok.hd hc) (QD s1.heap _) λh' hx'=>?_)))
 have I3:=I2.kept (h':=h') (t':=s1.toks) λb o e=>hx' b o (Kj (J8 e)) e
 change wpAny _ _ (assignInOrder [λv=>bindName X.env y v,λv=>bindName X.env x v] [u2,u1] >>= λ_=>pure Tl) _ _ _
 show JT (Oh (Rn (cZ I3 hN hj (.inl hy) rw' (λs2 I4=>?_) (.inr hy))))
 show Oh (Rn (cZ I4 hN hi (.inl hx) rv (λs3 I5=>P7 (JZ ?_)) (.inr hx)))
 rw[List.set_comm _ _ (Ne.symm hij)]at I5;exact#[_,H1,I5,q1]
abbrev Ch (c:TT)(tb:TS):TS:=λD Y H=>∃W:J4->St->Hp->Prop,(∃m,W m Y H)/\∀m Y H,W m Y H->
 c Y H λb H1=>if b=true then ∃N:St->Hp->Prop,(∀Y' H',N Y' H'->∃m',m' < m/\W m' Y' H')/\tb { D with nx:=N,ct:=N,bk:=D.nx } Y H1 else D.nx Y H1
def uG {c:Kd}{body:JS Lp}{tc:TT}{tb:TS}(hp:NU (model X.prog X.w) X.A X.env X.xe)(hc:PT X c tc)(hb:PSs X body tb):PS X (.While c body [] pos) (Ch tc tb):=by
 intro J s Y H D I h;obtain⟨W,⟨m0,w0⟩,turn⟩:=h;show wpAny_While (codeAny_whileLoop (λn s'=>∃Y' H',Inv X J Y' H' s'/\W n Y' H') ?_ m0 #[Y,H,I,w0])
 rintro n s1 ⟨Y1,H1,I1,w1⟩;show MH hp (aD (hc J s1 Y1 H1 _ I1 (turn n Y1 H1 w1)) λb s2 #[H2,I2,q2]=>?_)
 cases b with
 | true=>
  obtain⟨N,hN,q2⟩:=q2;rw[Ks rfl];show MH hp (aD (hb J s2 Y1 H2 _ I2 q2) λf s3 q3=>?_)
  cases f with
  | next=>
   obtain⟨Y3,H3,I3,n3⟩:=q3;obtain⟨m',hm,w3⟩:=hN Y3 H3 n3;exact#[m',hm,Y3,H3,I3,w3]
  | cont=>
   obtain⟨Y3,H3,I3,n3⟩:=q3;obtain⟨m',hm,w3⟩:=hN Y3 H3 n3;exact#[m',hm,Y3,H3,I3,w3]
  | brk=>exact q3
  | ret v=>exact q3
 | false=>
  rw[Kv Kg];exact N1 #[Y1,H2,I2,q2]
end
structure It where
 go:J4->Hp->Prop
 yld:J4->Hp->V->Hp->Prop
 stop:J4->Hp->Prop
abbrev fK (X:Cx)(J:JS (td×Ll))(H:Hp)(b:td):Prop:=
 H b=gV/\b≠X.env.locals/\b∉X.fs/\(b∈X.ex\/X.s₀.heap.objs.size<=b)/\(∀x c,X.env.cells.lookup x=bt c->c≠b)/\∀p∈X.pn++J,p.1≠b
def Inv.fpOk {X:Cx}{J:JS (td×Ll)}{Y:St}{H H':Hp}{s:JV}{b:td}(I:Inv X J Y H s)(hb:s.heap.objs.size<=b)(hn:H' b=gV):fK X J H' b:=by
 show#[hn,KW (Km I.lt hb),I.nofs hb,.inr (Kx I.sz hb),λx c e z=>?_,λp hp z=>?_]
 ·obtain⟨v,q⟩:=I.cell x c e;exact absurd (Km q.lt (by rw[z]; exact hb)) (Lq _)
 ·exact absurd (Km (J8 (I.pin p hp).1) (by rw[z]; exact hb)) (Lq _)
structure Turn (P:Ke)(w:Kr)(K:J2)(tg:Kd)(tx:It)(fp:JS td)(it:td)(tn:J4->KB->Prop):Prop where
 mem:it∈fp
 obj:∀i h,tn i h->∀b∈fp,∃o,h.get? b=bt o/\∀v,o.data≠.cell v
 keep:∀i h h',tn i h->(∀b∈fp,∀o,h.get? b=bt o->h'.get? b=bt o)->tn i h'
 item:∀(X:Cx),X.prog=P->X.w=w->X.K=K->X.calm=true->∀(i:J4) (J:JS (td×Ll)) (s:JV) (Y:St) (H:Hp) (E:JU->JV->Prop),Inv X J Y H s->(∀b∈fp,fK X J H b)->tn i s.heap->tx.go i H->
  wpAny (model P w) X.A (pyNext (.ref it)) (λr s1=>∃u,r=bt u/\
   wpAny (model P w) X.A (letOwnedTupleGo tg (.ref it) u) (λ_ s2=>∃x H',Inv X J Y H' s2/\RelV x u/\tx.yld i H x H'/\tn (i+1) s2.heap/\∀b∈fp,H' b=gV) E s1) E s
 done:∀(X:Cx),X.prog=P->X.w=w->X.K=K->X.calm=true->∀(i:J4) (J:JS (td×Ll)) (s:JV) (Y:St) (H:Hp) (E:JU->JV->Prop),Inv X J Y H s->(∀b∈fp,fK X J H b)->tn i s.heap->tx.stop i H->
  wpAny (model P w) X.A (pyNext (.ref it)) (λr s1=>r=gV/\Inv X J Y H s1) E s
 self:∀(A:Kw) (i:J4) (s:JV) (Q:JU->JV->Prop) (E:JU->JV->Prop),tn i s.heap->Q (.ref it) s->wpAny (model P w) A (pyIter (.ref it)) Q E s
noncomputable abbrev TI:=St->Hp->(It->Hp->Prop)->Prop
abbrev EX (X:Cx)(J:JS (td×Ll))(Y:St)(tg:Kd)(R:It->Hp->Prop)(itv:JU)(s2:JV):Prop:=
 ∃(it:td) (fp:JS td) (tn:J4->KB->Prop) (tx:It) (H':Hp),itv=.ref it/\Inv X J Y H' s2/\Turn X.prog X.w X.K tg tx fp it tn/\tn 0 s2.heap/\(∀b∈fp,fK X J H' b)/\R tx H'
abbrev PI (X:Cx)(tg iter:Kd)(wi:TI):Prop:=
 ∀(J:JS (td×Ll)) (s:JV) (Y:St) (H:Hp) (R:It->Hp->Prop),Inv X J Y H s->wi Y H R->
  wpAny (model X.prog X.w) X.A (eval iter X.env) (λv s1=>wpAny (model X.prog X.w) X.A (pyIter v) (EX X J Y tg R) X.xe s1) X.xe s
def mR {Mqa:OC}{A:Kw}{E:JU->JV->Prop}{s:JV}{tg:Kd}{it:td}{u:JU}{o:Ll}{n:Ls}{vs:KP JU}{Q:Q5->JV->Prop}(ho:s.heap.get? it=bt o)(hc:o.cls=.type n)(hd:o.data=.fields vs)
    (hn:["enumerate","zip","dict_itemiterator","dict_reverseitemiterator","odict_iterator","itertools.zip_longest","itertools.pairwise"].contains n=false) (hQ:Q () s):wpAny Mqa A (letOwnedTupleGo tg (.ref it) u) Q E s:=by
  unfold letOwnedTupleGo;cases tg <;> first
    | exact JZ hQ
    | (cases u <;> first
        | exact JZ hQ
        | (show JT (Ro ho ?_)
           rw[hc,hd];change wpAny Mqa A (if (["enumerate","zip","dict_itemiterator","dict_reverseitemiterator","odict_iterator","itertools.zip_longest","itertools.pairwise"].contains n&&vs[0]?==bt (rawInt _))=true then _ else _) Q E s
           rw[Kv (by intro h; rw[hn,Nm]at h; cases h)]
           exact JZ hQ))
abbrev HJ (K:J2)(a:td):It:=
 #[λi H=>∃xs x,SqL K H a xs/\xs[i]?=bt x,λi H x H'=>H'=H/\∀xs,SqL K H a xs->xs[i]?=bt x,λi H=>∃xs,SqL K H a xs/\xs.length<=i]
abbrev HK (K:J2)(a:td):It:=
 #[λi H=>∃xs x,SqT K H a xs/\xs[i]?=bt x,λi H x H'=>H'=H/\∀xs,SqT K H a xs->xs[i]?=bt x,λi H=>∃xs,SqT K H a xs/\xs.length<=i]
abbrev EY (lo:Kk)(n:J4):It:=#[λi _=>i < n,λi H x H'=>H'=H/\x=.int (lo+i),λi _=>n<=i]
def sE {P:Ke}{w:Kr}{K:J2}{tg:Kd}(a it:td):Turn P w K tg (HJ K a) [it] it (λi h=>h.IsListIter it a i) where
 mem:=by simp
 obj:=λi h st b hb=>by
  have e:b=it:=by simpa using hb
  subst e;obtain⟨o,e,c,d⟩:=st;exact#[o,e,λv z=>by rw[d]at z; cases z]
 keep:=λi h h' st k=>st.at λo e=>k it (by simp) o e
 item:=by
  intro X hP hw hK hc i J s Y H E I hf st hg;subst hP hw hK;obtain⟨xs,x,hq,hx⟩:=hg;obtain⟨its,rv,p,hz⟩:=I.list hq;obtain⟨u,hu,ru⟩:=rv.get hx;obtain⟨f0,f1,f2,f3,f4,f5⟩:=hf it (by simp)
  show wpAny_pyNext_list_item st p.isList (x:=u) (by simpa using hu) λh' st' sb=>?_
  have I1:Inv X J Y H { s with heap:=h' }:=I.turned (t':=s.toks) (λb o hb e=>(sb.2 b hb).trans e) f0 f1 f3 f4 f5
  obtain⟨o,e,c,d⟩:=id st';exact#[u,rfl,mR (s:={ s with heap:=h' }) e c d #v[] #[x,H,I1,ru,#[rfl,λys hy=>by rw[I.list_inj hy hq]; exact hx],st',λb hb=>(hf b hb).1]]
 done:=by
  intro X hP hw hK hc i J s Y H E I hf st hg;subst hP hw hK;obtain⟨xs,hq,hx⟩:=hg;obtain⟨its,rv,p,hz⟩:=I.list hq;obtain⟨f0,f1,f2,f3,f4,f5⟩:=hf it (by simp)
  have hl:=rv.length;exact wpAny_pyNext_list_end (I.ok.hd hc) st p.isList (by simp; omega) λh' eb=>#[rfl,I.turned (t':=s.toks) (λb o hb e=>eb b o hb e) f0 f1 f3 f4 f5]
 self:=λ_ _ _ _ _ st h=>wpAny_pyIter_listiter st h
def oW {P:Ke}{w:Kr}{K:J2}{tg:Kd}(a it:td):Turn P w K tg (HK K a) [it] it (λi h=>h.IsTupleIter it a i) where
 mem:=by simp
 obj:=λi h st b hb=>by
  have e:b=it:=by simpa using hb
  subst e;obtain⟨o,e,c,d⟩:=st;exact#[o,e,λv z=>by rw[d]at z; cases z]
 keep:=λi h h' st k=>st.at λo e=>k it (by simp) o e
 item:=by
  intro X hP hw hK hc i J s Y H E I hf st hg;subst hP hw hK;obtain⟨xs,x,hq,hx⟩:=hg;obtain⟨its,rv,p,hz⟩:=I.tuple hq;obtain⟨u,hu,ru⟩:=rv.get hx;obtain⟨f0,f1,f2,f3,f4,f5⟩:=hf it (by simp)
  show wpAny_pyNext_tuple_item st (show s.heap.IsTuple a its.toArray from p) (x:=u) (by simpa using hu) λh' st' sb=>?_
  have I1:Inv X J Y H { s with heap:=h' }:=I.turned (t':=s.toks) (λb o hb e=>(sb.2 b hb).trans e) f0 f1 f3 f4 f5
  obtain⟨o,e,c,d⟩:=id st';exact#[u,rfl,mR (s:={ s with heap:=h' }) e c d #v[] #[x,H,I1,ru,#[rfl,λys hy=>by rw[I.tuple_inj hy hq]; exact hx],st',λb hb=>(hf b hb).1]]
 done:=by
  intro X hP hw hK hc i J s Y H E I hf st hg;subst hP hw hK;obtain⟨xs,hq,hx⟩:=hg;obtain⟨its,rv,p,hz⟩:=I.tuple hq;obtain⟨f0,f1,f2,f3,f4,f5⟩:=hf it (by simp)
  have hl:=rv.length;exact wpAny_pyNext_tuple_end (I.ok.hd hc) st (show s.heap.IsTuple a its.toArray from p) (by simp; omega) λh' eb=>#[rfl,I.turned (t':=s.toks) (λb o hb e=>eb b o hb e) f0 f1 f3 f4 f5]
 self:=λ_ _ _ _ _ st h=>wpAny_pyIter_tupleiter st h
def oX {P:Ke}{w:Kr}{K:J2}{tg:Kd}(it:td)(lo:Kk)(n:J4):Turn P w K tg (EY lo n) [it] it (λi h=>Sr h it (lo+(i:J4)*1) ((n:Kk) - (i:J4)) 1) where
 mem:=by simp
 obj:=λi h st b hb=>by
  have e:b=it:=by simpa using hb
  subst e;exact#[_,st,λv z=>by
   have z':Data.fields _=Data.cell v:=z;cases z']
 keep:=λi h h' st k=>k it (by simp) _ st
 item:=by
  intro X hP hw hK hc i J s Y H E I hf st hg;subst hP hw hK;obtain⟨f0,f1,f2,f3,f4,f5⟩:=hf it (by simp)
  have W:=Walks.range (prog:=X.prog) (w:=X.w) (I.ok.hd hc) it lo 1 n;show W.item i s _ _ hg st λv h' tk hv st' kk=>?_
  obtain⟨t,rfl⟩:=hv;have I1:Inv X J Y H { s with heap:=h',toks:=tk }:=I.turned (λb o hb e=>kk b o (by simpa using hb) e) f0 f1 f3 f4 f5
  show#[_,rfl,mR (s:={ s with heap:=h',toks:=tk }) (n:="range_iterator") st' rfl rfl #v[] #[.int (lo+i),H,I1,#[t,?_],#[rfl,rfl],st',λb hb=>(hf b hb).1]]
  rw[Int.mul_one]
 done:=by
  intro X hP hw hK hc i J s Y H E I hf st hg;subst hP hw hK;obtain⟨f0,f1,f2,f3,f4,f5⟩:=hf it (by simp)
  exact wpAny_pyNext_range_end (I.ok.hd hc) st (by have:n<=i:=hg; omega) λh' eb=>#[rfl,I.turned (t':=s.toks) (λb o hb e=>eb b o hb e) f0 f1 f3 f4 f5]
 self:=λ_ _ _ _ _ st h=>wpAny_pyIter_rangeiter st h
section
variable{X:Cx}{tg:Kd}
def mS {J:JS (td×Ll)}{Y:St}{H:Hp}{s:JV}{R:It->Hp->Prop}{E:JU->JV->Prop}{lo hi:Kk}{t u v:R4}{tk:J4}(I:Inv X J Y H s)(h1 : -(2 ^ 62)<=lo)(h2:lo < 2 ^ 62)(h3 : -(2 ^ 62)<=hi)(h4:hi < 2 ^ 62)
  (q:R (EY lo (hi - lo).toNat) H):wpAny (model X.prog X.w) X.A (pyIter (.ref s.heap.objs.size)) (EX X J Y tg R) E { s with heap:=s.heap.push { cls:=.type "range",data:=.fields [.int lo t,.int hi u,.int 1 v].toArray },toks:=tk }:=by
 show wpAny_pyIter_range (IsRange.new ..) (R5 h1 h2 h3 h4) ?_;have I1:Inv X J Y H { s with heap:=s.heap.push { cls:=.type "range",data:=.fields [.int lo t,.int hi u,.int 1 v].toArray },toks:=tk }:=I.kept λb o e=>JW _ e
 show#[(s.heap.push { cls:=.type "range",data:=.fields [.int lo t,.int hi u,.int 1 v].toArray }).objs.size,[(s.heap.push { cls:=.type "range",data:=.fields [.int lo t,.int hi u,.int 1 v].toArray }).objs.size],_,_,H,rfl,
  I1.kept (t':=tk) λb o e=>JW _ e,oX _ lo (hi - lo).toNat,?_,λb hb=>?_,q]
 ·have e1:lo+((0:J4):Kk)*1=lo:=by simp
  have e2:(((hi - lo).toNat:J4):Kk) - ((0:J4):Kk)=LR lo hi 1:=by rw[Pz]; split <;> omega
  change Sr _ _ (lo+((0:J4):Kk)*1) ((((hi - lo).toNat:J4):Kk) - ((0:J4):Kk)) 1;rw[e1,e2];exact J7 _ rfl
 ·have e:b=(s.heap.push { cls:=.type "range",data:=.fields [.int lo t,.int hi u,.int 1 v].toArray }).objs.size:=by simpa using hb
  subst e;exact I1.fpOk (J9 _) (I1.hok.fresh (J9 _))
abbrev EZ (ta:TA):TI:=λY H R=>ta Y H λvs H1=>∃j:Kk,vs=[.int j]/\-(2 ^ 62)<=j/\j < 2 ^ 62/\R (EY 0 j.toNat) H1
abbrev iRng2 (ta:TA):TI:=λY H R=>ta Y H λvs H1=>∃i j:Kk,vs=[.int i,.int j]/\(-(2 ^ 62)<=i/\i < 2 ^ 62/\-(2 ^ 62)<=j/\j < 2 ^ 62)/\R (EY i (j - i).toNat) H1
def sF {a:Kd}{ta:TA}{p pos:LG}(hg:Gl X "range")(hm:X.mg "range" = gV)(ha:PA X [a] ta)(hs:starEach [a] X.env=[(false,eval a X.env)]:=by rfl):PI X tg (.Call (.Name "range" p) [a] [] pos) (EZ ta):=by
 intro J s Y H R I h;show Tt (fJ I hg hm boot_range (LU (aD (ha pos J s Y H _ I h) λus s1 #[vs,H1,I1,r1,q1]=>?_) hs rfl))
 obtain⟨j,e,q1,q2,q⟩:=q1;subst e;cases r1 with
 | cons r rr=>
  cases rr;obtain⟨t,rfl⟩:=r;exact Sc (mS I1 ∅ ∅ q1 q2 (by simpa using q))
def sG {a b:Kd}{ta:TA}{p pos:LG}(hg:Gl X "range")(hm:X.mg "range" = gV)(ha:PA X [a,b] ta)(hs:starEach [a,b] X.env=[(false,eval a X.env),(false,eval b X.env)]:=by rfl)(hs2:starEach [b] X.env=[(false,eval b X.env)]:=by rfl) :
  PI X tg (.Call (.Name "range" p) [a,b] [] pos) (iRng2 ta):=by
 intro J s Y H R I h;show Tt (fJ I hg hm boot_range (LU (aD (ha pos J s Y H _ I h) λus s1 #[vs,H1,I1,r1,q1]=>?_) (by rw[hs,hs2]) (by rw[hs2]; rfl)))
 obtain⟨i,j,e,⟨q1,q2,q3,q4⟩,q⟩:=q1;subst e;cases r1 with
 | cons r rr=>
  cases rr with
  | cons r' rr=>
   cases rr;obtain⟨t,rfl⟩:=r;obtain⟨t',rfl⟩:=r';exact call_range_2 (mS I1 q1 q2 q3 q4 q)
abbrev HL (wi:TI)(g:TG)(tb:TS):TS:=λD Y H=>wi Y H λtx H1=>∃W:J4->J4->St->Hp->Prop,(∃m,W 0 m Y H1)/\∀i m Y H,W i m Y H->
 (tx.stop i H/\D.nx Y H)\/(tx.go i H/\∃N:St->Hp->Prop,(∀Y' H',N Y' H'->∃m',m' < m/\W (i+1) m' Y' H')/\∀x H',tx.yld i H x H'->g x Y H' λY2 H2=>tb { D with nx:=N,ct:=N,bk:=D.nx } Y2 H2)
abbrev gT (fp:JS td)(h:KB):JS (td×Ll):=fp.filterMap λb=>(h.get? b).map λo=>(b,o)
def dy {fp:JS td}{h:KB}{b:td}{o:Ll}(hb:b∈fp)(e:h.get? b=bt o):(b,o)∈gT fp h:=PQ.mpr #[b,hb,by rw[e]; rfl]
def sH {fp:JS td}{h:KB}{p:td×Ll}(hp:p∈gT fp h):p.1∈fp/\h.get? p.1=bt p.2:=by
 obtain⟨b,hb,e⟩:=PQ.mp hp;cases q:h.get? b with
 | none=>rw[q]at e; cases e
 | some o=>
  rw[q]at e;have e':(b,o)=p:=LP e;subst e';exact#[hb,q]
def Inv.pinned {J:JS (td×Ll)}{Y:St}{H:Hp}{s:JV}{fp:JS td}(I:Inv X J Y H s)(hf:∀b∈fp,fK X J H b)(ho:∀b∈fp,∃o,s.heap.get? b=bt o/\∀v,o.data≠.cell v):Inv X (J++gT fp s.heap) Y H s:=
 I.pins_of λp hp=>(KU.mp hp).elim (λz=>I.pin p (Ku _ z)) λz=>by
  obtain⟨hb,e⟩:=sH z;obtain⟨f0,f1,f2,_⟩:=hf p.1 hb;obtain⟨o,e',d⟩:=ho p.1 hb;rw[e]at e'; cases e'
  exact#[e,f0,f1,f2,d]
def Inv.unpinned {J pl:JS (td×Ll)}{Y:St}{H:Hp}{s:JV}(I:Inv X (J++pl) Y H s):Inv X J Y H s:=I.pins_of λp hp=>I.pin p (Ku _ (Le _ hp))
def uH {iter:Kd}{body:JS Lp}{wi:TI}{g:TG}{tb:TS}{pos:LG}(hp:NU (model X.prog X.w) X.A X.env X.xe)(hc:X.calm=true)(hi:PI X tg iter wi)(hg:PG X tg g)(hb:PSs X body tb)
  (hs:∀x,foldedSetIterable iter X.env x=pure x:=by intro _; rfl):PS X (.For tg iter body [] pos) (HL wi g tb):=by
 intro J s Y H D I h;show wpAny_For (aD (hi J s Y H _ I h) λv s1 h1=>aD h1 λitv s2 h2=>?_) hs
 obtain⟨it,fp,tn,tx,H2,e,I2,T,bG,f2,W,⟨m0,w0⟩,turn⟩:=h2;subst e;have stat:∀ {H':Hp},(∀b∈fp,H' b=gV)->∀b∈fp,fK X J H' b:=λhn b hb=>#[hn b hb,(f2 b hb).2]
 show codeAny_forLoop_any (λn s'=>∃i Y' H',Inv X J Y' H' s'/\tn i s'.heap/\(∀b∈fp,H' b=gV)/\W i n Y' H') ?_ m0 #[0,Y,H2,I2,bG,λb hb=>(f2 b hb).1,w0]
 rintro n s3 ⟨i,Y3,H3,I3,st3,fr3,w3⟩;rcases turn i n Y3 H3 w3 with⟨stop,qn⟩|⟨go,N,hN,step⟩
 ·show MH hp (aD (T.done X rfl rfl rfl hc i J s3 Y3 H3 X.xe I3 (stat fr3) st3 stop) λr s4 #[hr,I4]=>?_)
  subst hr;exact N1 #[Y3,H3,I4,qn]
 ·show MH hp (aD (T.item X rfl rfl rfl hc i J s3 Y3 H3 X.xe I3 (stat fr3) st3 go) λr s4 #[u,hr,h4]=>?_)
  subst hr;show MH hp (aD h4 λ_ s5 #[x,H5,I5,r5,y5,st5,fr5]=>?_)
  have I5':=I5.pinned (stat fr5) (T.obj _ _ st5);show MH hp (aD (hg _ s5 Y3 H5 x u _ I5' r5 (step x H5 y5)) λ_ s6 #[Y6,H6,I6,q6]=>?_)
  show MH hp (aD (hb _ s6 Y6 H6 _ I6 q6) λf s7 q7=>?_)
  have again:∀ {Y7:St} {H7:Hp},Inv X (J++gT fp s5.heap) Y7 H7 s7->N Y7 H7->∃m,m < n/\∃i Y' H',Inv X J Y' H' s7/\tn i s7.heap/\(∀b∈fp,H' b=gV)/\W i m Y' H':=λ{Y7 H7} I7 n7=>by
   obtain⟨m',hm,w7⟩:=hN Y7 H7 n7;show#[m',hm,i+1,Y7,H7,I7.unpinned,T.keep _ _ _ st5 λb hb o e=>(I7.pin (b,o) (Ku _ (Ku _ (dy hb e)))).1,λb hb=>?_,w7]
   obtain⟨o,e,d⟩:=T.obj _ _ st5 b hb;exact(I7.pin (b,o) (Ku _ (Ku _ (dy hb e)))).2.1
  cases f with
  | next=>obtain⟨Y7,H7,I7,n7⟩:=q7; exact again I7 n7
  | cont=>obtain⟨Y7,H7,I7,n7⟩:=q7; exact again I7 n7
  | brk=>obtain⟨Y7,H7,I7,q7⟩:=q7; exact#[Y7,H7,I7.unpinned,q7]
  | ret v=>obtain⟨x7,Y7,H7,I7,r7,q7⟩:=q7; exact#[x7,Y7,H7,I7.unpinned,r7,q7]
end
noncomputable abbrev R2:=V->V->Hp->VK->Prop
abbrev OpR (X:Cx)(f:JU->JU->RM JU)(r:R2):Prop:=
 ∀(J:JS (td×Ll)) (s:JV) (Y:St) (H:Hp) (x y:V) (v u:JU) (Q:VK),Inv X J Y H s->RelV x v->RelV y u->r x y H Q->
  wpAny (model X.prog X.w) X.A (f v u) (EP X J Y Q) X.xe s
abbrev HM (X:Cx)(f:JU->RM JU)(r:V->Hp->VK->Prop):Prop:=
 ∀(J:JS (td×Ll)) (s:JV) (Y:St) (H:Hp) (x:V) (v:JU) (Q:VK),Inv X J Y H s->RelV x v->r x H Q->
  wpAny (model X.prog X.w) X.A (f v) (EP X J Y Q) X.xe s
abbrev CallR (X:Cx)(f:JU)(r:JS V->Hp->VK->Prop):Prop:=
 ∀(J:JS (td×Ll)) (s:JV) (Y:St) (H:Hp) (xs:JS V) (us:JS JU) (Q:VK),Inv X J Y H s->Vals xs us->r xs H Q->
  wpAny (model X.prog X.w) X.A (call f us) (EP X J Y Q) X.xe s
abbrev HN (X:Cx)(r:V->Hp->(Kn->Hp->Prop)->Prop):Prop:=
 ∀(J:JS (td×Ll)) (s:JV) (Y:St) (H:Hp) (x:V) (v:JU) (Q:Kn->Hp->Prop),Inv X J Y H s->RelV x v->r x H Q->
  wpAny (model X.prog X.w) X.A (truthy v) (TP X J Y Q) X.xe s
abbrev Hj (r:R2)(ta tb:TE):TE:=λY H Q=>ta Y H λx H1=>tb Y H1 λy H2=>r x y H2 Q
abbrev Jt (r:V->Hp->VK->Prop)(ta:TE):TE:=λY H Q=>ta Y H λx H1=>r x H1 Q
abbrev rI (C:Kk->Kk->Prop)(g:Kk->Kk->V):R2:=λx y H Q=>∃i j,x=.int i/\y=.int j/\C i j/\Q (g i j) H
abbrev AX (g:Kk->Kk->V):R2:=λx y H Q=>∃i j,x=.int i/\y=.int j/\Q (g i j) H
abbrev rU (g:Kk->V):V->Hp->VK->Prop:=λx H Q=>∃i,x=.int i/\Q (g i) H
section
variable{X:Cx}{a b c:Kd}{ta tb tc:TE}{pos:LG}
def Ci (ha:PE X a ta)(hb:PE X b tb){J:JS (td×Ll)}{s:JV}{Y:St}{H:Hp}{R:V->V->Hp->Prop}(I:Inv X J Y H s)
  (h:ta Y H λx H1=>tb Y H1 λy H2=>R x y H2) {Q:JU->JV->Prop} {f:JU->JU->RM JU}
  (hf:∀v u s2 x y H2,Inv X J Y H2 s2->RelV x v->RelV y u->R x y H2->wpAny (model X.prog X.w) X.A (f v u) Q X.xe s2) :
  wpAny (model X.prog X.w) X.A (eval a X.env) (λv s₁=>wpAny (model X.prog X.w) X.A (eval b X.env) (λu s₂=>wpAny (model X.prog X.w) X.A (f v u) Q X.xe s₂) X.xe s₁) X.xe s:=by
 show aD (ha J s Y H _ I h) λv s1 #[x,H1,I1,r1,q1]=>?_
 show aD (hb J s1 Y H1 _ I1 q1) λu s2 #[y,H2,I2,r2,q2]=>?_
 exact hf v u s2 x y H2 I2 r1 r2 q2
def E1 {op:P8}{r:R2}(ho:OpR X (binaryOp op) r)(ha:PE X a ta)(hb:PE X b tb):PE X (.BinOp a op b pos) (Hj r ta tb):=by
 intro J s Y H Q I h;exact wpAny_BinOp (Ci ha hb I h λv u s2 x y H2 I2 rx ry q=>ho J s2 Y H2 x y v u Q I2 rx ry q)
def E2 {op:UnaryOp}{r:V->Hp->VK->Prop}(ho:HM X (unaryOp op) r)(ha:PE X a ta):PE X (.UnaryOp op a pos) (Jt r ta):=by
 intro J s Y H Q I h;exact UnaryOp_ (aD (ha J s Y H _ I h) λv s1 #[x,H1,I1,r1,q1]=>ho J s1 Y H1 x v Q I1 r1 q1)
def Hk {f:JU->JU->RM JU}{C:Kk->Kk->Prop}{g:Kk->Kk->Kk}
  (rule:∀(i j:Kk) (t u:R4) (s:JV) (Q:JU->JV->Prop) (E:JU->JV->Prop),C i j->Q (.int (g i j) s.toks) { s with toks:=s.toks+1 }->wpAny (model X.prog X.w) X.A (f (.int i t) (.int j u)) Q E s) :
  OpR X f (rI C λi j=>.int (g i j)):=by
 intro J s Y H x y v u Q I rx ry h;obtain⟨i,j,rfl,rfl,hc,q⟩:=h;obtain⟨t,rfl⟩:=rx;obtain⟨t',rfl⟩:=ry;exact rule i j t t' s _ _ hc #[.int (g i j),H,I.tok _,#[_,rfl],q]
def E3 {f:JU->JU->RM JU}{g:Kk->Kk->Kk}
  (rule:∀(i j:Kk) (t u:R4) (s:JV) (Q:JU->JV->Prop) (E:JU->JV->Prop),Q (.int (g i j) s.toks) { s with toks:=s.toks+1 }->wpAny (model X.prog X.w) X.A (f (.int i t) (.int j u)) Q E s) :
  OpR X f (AX λi j=>.int (g i j)):=by
 intro J s Y H x y v u Q I rx ry h;obtain⟨i,j,rfl,rfl,q⟩:=h;obtain⟨t,rfl⟩:=rx;obtain⟨t',rfl⟩:=ry;exact rule i j t t' s _ _ #[.int (g i j),H,I.tok _,#[_,rfl],q]
def yB {f:JU->JU->RM JU}{g:Kk->Kk->Kn}
  (rule:∀(i j:Kk) (t u:R4) (s:JV) (Q:JU->JV->Prop) (E:JU->JV->Prop),Q (.bool (g i j)) s->wpAny (model X.prog X.w) X.A (f (.int i t) (.int j u)) Q E s) :
  OpR X f (AX λi j=>.bl (g i j)):=by
 intro J s Y H x y v u Q I rx ry h;obtain⟨i,j,rfl,rfl,q⟩:=h;obtain⟨t,rfl⟩:=rx;obtain⟨t',rfl⟩:=ry;exact rule i j t t' s _ _ #[.bl (g i j),H,I,rfl,q]
abbrev HP (i j:Kk):Prop:=0 < j/\j < 1073741824
abbrev HQ (i j:Kk):Prop:=0<=j/\j<=1000000/\i.natAbs < 2 ^ 64
abbrev CMul (i j:Kk):Prop:=(-(2 ^ 64) < i/\i < 2 ^ 64)\/(-(2 ^ 64) < j/\j < 2 ^ 64)
def CMul.ok {i j:Kk}(h:CMul i j):IntMulOk i j:=by
 rcases h with⟨h1,h2⟩|⟨h1,h2⟩
 ·exact .of_left (RN h1 h2)
 ·exact .of_right (RN h1 h2)
def Cj:OpR X (binaryOp .Add) (AX λi j=>.int (i+j)):=E3 λ_ _ _ _ _ _ _ q=>add_int q
def Ck:OpR X (binaryOp .Sub) (AX λi j=>.int (i - j)):=E3 λ_ _ _ _ _ _ _ q=>sub_int q
def Cm:OpR X (binaryOp .Mult) (rI CMul λi j=>.int (i*j)):=Hk λ_ _ _ _ _ _ _ hc q=>mul_int q hc.ok
def yC:OpR X (binaryOp .FloorDiv) (rI HP λi j=>.int (i / j)):=Hk λi j _ _ _ _ _ hc q=>by
 have h1:(0:Kk) < j:=hc.1;have h2:j < 1073741824:=hc.2;exact floordiv_int ∅ (by rw[Int.fdiv_eq_ediv_of_nonneg i ∅]; exact q) (.inl (PyProof.noPylong_small ∅))
def Cn:OpR X (binaryOp .Mod) (rI (λ_ j=>0 < j) λi j=>.int (i % j)):=Hk λi j _ _ _ _ _ hc q=>by
 have h1:(0:Kk) < j:=hc;exact mod_int' ∅ (by rw[Int.fmod_eq_emod_of_nonneg i ∅]; exact q)
def Co:OpR X (binaryOp .Pow) (rI HQ λi j=>.int (i ^ j.toNat)):=Hk λ_ _ _ _ _ _ _ hc q=>pow_int_small hc.1 hc.2.1 hc.2.2 q
def Ju {f:JU->RM JU}{g:Kk->Kk}
  (rule:∀(i:Kk) (t:R4) (s:JV) (Q:JU->JV->Prop) (E:JU->JV->Prop),Q (.int (g i) s.toks) { s with toks:=s.toks+1 }->wpAny (model X.prog X.w) X.A (f (.int i t)) Q E s) :
  HM X f (rU λi=>.int (g i)):=by
 intro J s Y H x v Q I rx h;obtain⟨i,rfl,q⟩:=h;obtain⟨t,rfl⟩:=rx;exact rule i t s _ _ #[.int (g i),H,I.tok _,#[_,rfl],q]
def Cp:HM X (unaryOp .USub) (rU λi=>.int (-i)):=Ju λ_ _ _ _ _ q=>neg_int q
def oY {J:JS (td×Ll)}{Y:St}{H:Hp}{s:JV}{Q:VK}{k k':Kn}(I:Inv X J Y H s)(q:Q (.bl k) H)(e:k=k'):EP X J Y Q (.bool k') s:=by
 subst e;exact#[.bl k,H,I,rfl,q]
def E4:OpR X (compareOp .Lt) (AX λi j=>.bl (decide (i < j))):=yB λ_ _ _ _ _ _ _ q=>lt_int q
def E5:OpR X (compareOp .LtE) (AX λi j=>.bl (decide (i<=j))):=yB λ_ _ _ _ _ _ _ q=>le_int q
def E6:OpR X (compareOp .Gt) (AX λi j=>.bl (decide (j < i))):=yB λ_ _ _ _ _ _ _ q=>gt_int q
def E7:OpR X (compareOp .GtE) (AX λi j=>.bl (decide (j<=i))):=yB λ_ _ _ _ _ _ _ q=>ge_int q
def sI:OpR X (compareOp .In) (λx y H Q=>∃i j,x=.str i/\y=.str j/\Q (.bl (!(NG j i 0 j.length 1).isEmpty)) H):=by
 intro J s Y H x y v u Q I rx ry h;obtain⟨i,j,rfl,rfl,q⟩:=h;obtain⟨t,rfl⟩:=rx;obtain⟨t',rfl⟩:=ry;exact in_str (oY I q rfl)
def Cq:OpR X (compareOp .Is) (λx y H Q=>y=.non/\Q (.bl (decide (x=.non))) H):=by
 intro J s Y H x y v u Q I rx ry h;obtain⟨rfl,q⟩:=h;cases ry;show is_none_gen (oY I q ?_);cases x <;> first
  | (cases rx; rfl)
  | (obtain⟨t,rfl⟩:=rx; rfl)
def yD:OpR X (compareOp .IsNot) (λx y H Q=>y=.non/\Q (.bl (!decide (x=.non))) H):=by
 intro J s Y H x y v u Q I rx ry h;obtain⟨rfl,q⟩:=h;cases ry;show isnot_none_gen (oY I q ?_);cases x <;> first
  | (cases rx; rfl)
  | (obtain⟨t,rfl⟩:=rx; rfl)
def yE {op:OZ}{r:R2}(ho:OpR X (compareOp op) r)(ha:PE X a ta)(hb:PE X b tb)(hm:behindInMarks op b=false):PE X (.Compare a [op] [b] pos) (Hj r ta tb):=by
 intro J s Y H Q I h;exact Rm (Ci ha hb I h λv u s2 x y H2 I2 rx ry q=>ho J s2 Y H2 x y v u Q I2 rx ry q) hm
abbrev AY (t:TE):TT:=λY H Q=>t Y H λx H'=>∃k,x=.bl k/\Q k H'
def qH {op:OZ}{r:R2}(ho:OpR X (compareOp op) r)(ha:PE X a ta)(hb:PE X b tb)(hm:behindInMarks op b=false):PT X (.Compare a [op] [b] pos) (AY (Hj r ta tb)):=by
 intro J s Y H Q I h;show O6 (aD (ha J s Y H _ I h) λv s1 #[x,H1,I1,r1,q1]=>aD (hb J s1 Y H1 _ I1 q1) λu s2 #[y,H2,I2,r2,q2]=>
  aD (ho J s2 Y H2 x y v u _ I2 r1 r2 q2) λc s3 #[z,H3,I3,r3,k,e,q3]=>?_) hm
 subst e;cases r3;exact Lx #[H3,I3,q3]
abbrev oZ (r r':R2)(ta tb tc:TE):TE:=λY H Q=>ta Y H λx H1=>tb Y H1 λy H2=>r x y H2 λz H3=>∃k,z=.bl k/\
 (if k=true then tc Y H3 λw' H4=>r' y w' H4 Q else Q (.bl false) H3)
def uI {op op':OZ}{r r':R2}(ho:OpR X (compareOp op) r)(ho':OpR X (compareOp op') r')(ha:PE X a ta)(hb:PE X b tb)(hc:PE X c tc)
  (hm:lastMarks [op,op'] [b,c]=false:=by with_unfolding_all rfl):PE X (.Compare a [op,op'] [b,c] pos) (oZ r r' ta tb tc):=by
 intro J s Y H Q I h;show Compare_chain (aD (ha J s Y H _ I h) λv s1 #[x,H1,I1,r1,q1]=>chain_link (aD (hb J s1 Y H1 _ I1 q1) λu s2 #[y,H2,I2,r2,q2]=>
  aD (ho J s2 Y H2 x y v u _ I2 r1 r2 q2) λd s3 #[z,H3,I3,r3,k,e,q3]=>?_)) hm
 subst e;cases r3;show Lx ?_;cases k with
 | false=>exact ite_ff #[.bl false,H3,I3,rfl,q3]
 | true=>exact ite_tt (chain_last (aD (hc J s3 Y H3 _ I3 q3) λw' s4 #[z',H4,I4,r4,q4]=>ho' J s4 Y H4 y z' u w' Q I4 r2 r4 q4))
def uJ {op op':OZ}{r r':R2}(ho:OpR X (compareOp op) r)(ho':OpR X (compareOp op') r')(ha:PE X a ta)(hb:PE X b tb)(hc:PE X c tc)
  (hm:lastMarks [op,op'] [b,c]=false:=by with_unfolding_all rfl):PT X (.Compare a [op,op'] [b,c] pos) (AY (oZ r r' ta tb tc)):=by
 intro J s Y H Q I h;show isTrue_chain (aD (ha J s Y H _ I h) λv s1 #[x,H1,I1,r1,q1]=>test_link (aD (hb J s1 Y H1 _ I1 q1) λu s2 #[y,H2,I2,r2,q2]=>
  aD (ho J s2 Y H2 x y v u _ I2 r1 r2 q2) λd s3 #[z,H3,I3,r3,k,e,q3]=>?_)) hm
 subst e;cases r3;show Lx ?_;cases k with
 | false=>
  obtain⟨k',e',q'⟩:=q3;cases e';exact ite_ff #[H3,I3,q']
 | true=>
  show ite_tt (test_last (aD (hc J s3 Y H3 _ I3 q3) λw' s4 #[z',H4,I4,r4,q4]=>aD (ho' J s4 Y H4 y z' u w' _ I4 r2 r4 q4) λd' s5 #[z2,H5,I5,r5,k2,e2,q5]=>?_))
  subst e2;cases r5;exact Lx #[H5,I5,q5]
abbrev HR (K:J2)(x:V)(H:Hp)(k:Kn):Prop:=
 match x with
 | .non=>k=false
 | .bl b=>k=b
 | .int i=>k=(i != 0)
 | .str y=>y.length<=sizeLine/\k=((y.length:Kk) != 0)
 | .byt y=>y.size<=sizeLine/\k=((y.size:Kk) != 0)
 | .ref p=>(∃xs,SqL K H p xs/\k = !xs.isEmpty)\/(∃xs,SqT K H p xs/\k = !xs.isEmpty)\/∃U,H p=bt (.dK U)/\k = !U.isEmpty
 | _=>KT
def o4 {κ:Type}{U:JS (κ×V)}{vs:JS (κ×JU)}(r:KV U vs):(!vs.isEmpty) = !U.isEmpty:=by
 cases r <;> rfl
def ja {xs:JS V}{its:JS JU}(r:Vals xs its):(!its.toArray.isEmpty) = !xs.isEmpty:=by
 cases r <;> simp
def gU:(sizeLine:J4) < 2 ^ 63:=by rw[Lf]; decide
def Cr:HN X (λx H Q=>∃k,HR X.K x H k/\Q k H):=by
 intro J s Y H x v Q I rx h;obtain⟨k,e,q⟩:=h;have hl:=gU;have hs:sizeLine=16777216:=Lf;cases x with
 | non=>
  cases rx;have e':k=false:=e;subst e';exact truthy_none #[H,I,q]
 | bl b=>
  cases rx;have e':k=b:=e;subst e';exact Lx #[H,I,q]
 | int i=>
  obtain⟨t,rfl⟩:=rx;have e':k=(i != 0):=e;subst e';exact PySem.P.truthy_int #[H,I,q]
 | str y=>
  obtain⟨t,rfl⟩:=rx;obtain⟨hy,e'⟩ : y.length<=sizeLine/\k=((y.length:Kk) != 0):=e;subst e';exact PySem.P.truthy_str ∅ #[H,I.tok _,q]
 | byt y=>
  obtain⟨t,rfl⟩:=rx;obtain⟨hy,e'⟩ : y.size<=sizeLine/\k=((y.size:Kk) != 0):=e;subst e';exact PySem.W.truthy_bytes ∅ #[H,I.tok _,q]
 | ref p=>
  cases rx;have e':(∃xs,SqL X.K H p xs/\k = !xs.isEmpty)\/(∃xs,SqT X.K H p xs/\k = !xs.isEmpty)\/∃U,H p=bt (.dK U)/\k = !U.isEmpty:=e;rcases e' with⟨xs,hx,e'⟩|⟨xs,hx,e'⟩|⟨U,hx,e'⟩
  ·subst e';obtain⟨its,r,pl,hz⟩:=I.list hx;have hlen:=r.length;exact wpAny_truthy_list pl.isList (by simp only[Ki]; omega) #[H,I.tok _,by rw[ja r]; exact q]
  ·subst e';obtain⟨its,r,pl,hz⟩:=I.tuple hx;have hlen:=r.length;exact truthy_tuple pl (by simp only[Ki]; omega) #[H,I.tok _,by rw[ja r]; exact q]
  ·subst e';obtain⟨hz,hS,vs,r,m⟩ : U.length<=sizeLine/\(p==sysModules)=false/\∃vs,KV U vs/\s.heap.DictOf (bI X.prog X.w) p vs:=I.hok p _ hx;have hlen:U.length=vs.length:=OG r;exact wpAny_truthy_dict hS m ∅ #[H,I.tok _,by rw[o4 r]; exact q]
 | _=>exact(show KT from e).elim
def o5:OpR X (binaryOp .Add) (λx y H Q=>∃i j,x=.str i/\y=.str j/\i.length+j.length<=sizeLine/\Q (.str (i++j)) H):=by
 intro J s Y H x y v u Q I rx ry h;obtain⟨i,j,rfl,rfl,hz,q⟩:=h;obtain⟨t,rfl⟩:=rx;obtain⟨t',rfl⟩:=ry;exact add_str (λt' tk=>#[.str (i++j),H,I.tok _,#[_,rfl],q]) hz
def qI {x:V}{us:JS JU}(r:Vals [x] us):∃u,us=[u]/\RelV x u:=by
 cases r with
 | cons r1 r2=>cases r2; exact#[_,rfl,r1]
abbrev HS (K:J2)(x:V)(H:Hp)(n:J4):Prop:=
 match x with
 | .str y=>y.length<=sizeLine/\n=y.length
 | .byt y=>y.size<=sizeLine/\n=y.size
 | .ref p=>(∃xs,SqL K H p xs/\n=xs.length)\/∃xs,SqT K H p xs/\n=xs.length
 | _=>KT
def jb:CallR X (.builtin "len") (λxs H Q=>∃x n,xs=[x]/\HS X.K x H n/\Q (.int n) H):=by
 intro J s Y H xs us Q I r h;obtain⟨x,n,rfl,e,q⟩:=h;obtain⟨u,rfl,rx⟩:=qI r;have hl:=gU;have hs:sizeLine=16777216:=Lf;cases x with
 | str y=>
  obtain⟨t,rfl⟩:=rx;obtain⟨hy,e'⟩ : y.length<=sizeLine/\n=y.length:=e;subst e';exact len_str ∅ #[.int _,H,I.tok _,#[_,rfl],q]
 | byt y=>
  obtain⟨t,rfl⟩:=rx;obtain⟨hy,e'⟩ : y.size<=sizeLine/\n=y.size:=e;subst e';exact PySem.W.len_bytes ∅ #[.int _,H,I.tok _,#[_,rfl],q]
 | ref p=>
  cases rx;have e':(∃xs,SqL X.K H p xs/\n=xs.length)\/∃xs,SqT X.K H p xs/\n=xs.length:=e;rcases e' with⟨xs,hx,e'⟩|⟨xs,hx,e'⟩
  ·subst e';obtain⟨its,r',pl,hz⟩:=I.list hx;have hlen:=r'.length;exact Calls.call_len_list pl.isList (by simp only[Ki]; omega) #[.int xs.length,H,I.tok _,#[_,by simp only[Ki]; rw[hlen]],q]
  ·subst e';obtain⟨its,r',pl,hz⟩:=I.tuple hx;have hlen:=r'.length;exact len_tuple pl (by simp only[Ki]; omega) #[.int xs.length,H,I.tok _,#[_,by simp only[Ki]; rw[hlen]],q]
 | _=>exact(show KT from e).elim
end
def sJ {h:KB}{dx:td}{mA:J3->JX JU}(n:h.Ns1 dx mA):∃od,h.get? dx=bt od/\∀name,Rp name od=bt (mA name):=by
 obtain⟨o,es,ep,ho,hd,hk,_,hm⟩:=n;show#[o,ho,λname=>?_]
 have e:=hm name;unfold nsFind findBy at e;rw[<- Oi]at e;unfold Rp;rw[hd];dsimp only;split
 ·rename_i y q;rw[q]at e;exact congrArg bt e
 ·rename_i q;rw[q]at e;have a:es.toList.any (·.refKey)=false:=by
   rw[List.any_eq_false];intro y hy;obtain⟨z,t,hkey⟩:=hk y (Array.mem_toList_iff.mp hy);simp[Tn,hkey]
  have a':¬ es.toList.any (·.refKey)=true:=by rw[a]; exact Kg
  rw[Kv a'];exact congrArg bt e
abbrev gb (f:J3)(v:V):JS (J3×V)->JS (J3×V)
 | []=>[(f,v)]
 | (g,x)::r=>if g=f then(g,v)::r else(g,x)::gb f v r
def dZ (f g:J3)(v:V):∀fs:JS (J3×V),(gb f v fs).lookup g=if g=f then bt v else fs.lookup g
 | []=>by
  change Nn g [(f,v)]=_
  by_cases h:g=f
  ·have hb:(g==f)=true:=Ma.mpr h;simp only[Nn,hb,Ks h]
  ·have hb:(g==f)=false:=LH.mpr h;simp only[Nn,hb,Kv h]
 | (k,x)::r=>by
  have ih:=dZ f g v r;rw[show gb f v ((k,x)::r)=(if k=f then(k,v)::r else(k,x)::gb f v r)from rfl]
  by_cases hk:k=f
  ·rw[Ks hk]
   by_cases h:g=k
   ·have hb:(g==k)=true:=Ma.mpr h;simp only[Nn,hb,Ks (h.trans hk)]
   ·have hb:(g==k)=false:=LH.mpr h;simp only[Nn,hb,Kv (λe:g=f=>h (e.trans hk.symm))]
  ·rw[Kv hk]
   by_cases h:g=k
   ·have hb:(g==k)=true:=Ma.mpr h;simp only[Nn,hb,Kv (λe:g=f=>hk (h.symm.trans e))]
   ·have hb:(g==k)=false:=LH.mpr h;simp only[Nn,hb];exact ih
def gW (f:J3)(v:V):∀fs:JS (J3×V),f∈(gb f v fs).map (·.1)/\∀g,g∈fs.map (·.1)->g∈(gb f v fs).map (·.1)
 | []=>#[by simp[gb],λg h=>by simp at h]
 | (k,x)::r=>by
  obtain⟨i1,i2⟩:=gW f v r;rw[show gb f v ((k,x)::r)=(if k=f then(k,v)::r else(k,x)::gb f v r)from rfl]
  by_cases hk:k=f
  ·rw[Ks hk];subst hk;exact#[by simp,λg h=>by simpa using h]
  ·rw[Kv hk];show#[?_,λg h=>?_]
   ·rw[K6];exact Ko _ i1
   ·rw[K6]at h ⊢;rcases J5.mp h with e|e
    ·exact J5.mpr (.inl e)
    ·exact Ko _ (i2 g e)
def RelO.some_of {v:V}{o:JX JU}(r:RelO (bt v) o):∃u,o=bt u/\RelV v u:=by
 cases o with
 | none=>exact(show KT from r).elim
 | some u=>exact#[u,rfl,r]
section
variable{X:Cx}{J:JS (td×Ll)}{Y:St}{H:Hp}{s:JV}{a C dx:td}{fs:JS (J3×V)}{f:J3}{v:V}{A:Kw}{E:JU->JV->Prop}
def yF {prog:Ke}{w:Kr}{env:Oe}{e:Kd}{f:J3}{pos:LG}{s:JV}{Q:JU->JV->Prop}(hb:attributeBase e f env (eval e env)=eval e env)
  (h:wpAny (model prog w) A (eval e env) (λo s₁=>wpAny (model prog w) A (getAttr o f true) Q E s₁) E s):wpAny (model prog w) A (eval (.Attribute e f pos) env) Q E s:=
 Attribute_any_ h (by rw[arm_eval_Attribute,hb])
end
structure Room (k:J4)(A:Kw):Prop where
 hd:A.handled=gV
 dp:A.depth+3*k+5 < recursionLimit
 un:A.units+16*k+200 < cLine
def Room.mono {j k:J4}{A:Kw}(r:Room k A)(h:j<=k):Room j A:=#[r.hd,by have:=r.dp; omega,by have:=r.un; omega]
def Room.deeper {k:J4}{A:Kw}(r:Room (k+1) A)(env:Oe):Room k (A.deeper env):=
 #[r.hd,by have:=r.dp; show A.depth+1+3*k+5 < _; omega,by have:=r.un; show A.units+3+16*k+200 < _; omega]
def o6 {A:Kw}{C:td}{us:JS JU}{kw:JS (J3×JU)}:(A.under (.builtin "type.__call__" #[.ref C::us,kw])).depth=A.depth+1:=by
 first|rfl|simp[P9,Code.weight,Code.isCreation,Code.isGuard,Code.isCaller,Su,Qa,guardIds]
def o7 {A:Kw}{C:td}{us:JS JU}{kw:JS (J3×JU)}:(A.under (.builtin "type.__call__" #[.ref C::us,kw])).units=A.units+1:=by
 first|rfl|simp[P9,Code.cUnits,Su,Qa]
def Room.make {k:J4}{A:Kw}(r:Room (k+1) A)(C:td)(us:JS JU)(kw:JS (J3×JU)):Room k (A.under (.builtin "type.__call__" #[.ref C::us,kw])):=
 #[r.hd,by have:=r.dp; rw[o6]; omega,by have:=r.un; rw[o7]; omega]
def Room.depth {k:J4}{A:Kw}(r:Room k A):A.depth < recursionLimit:=by have:=r.dp; omega
abbrev yG:TA:=λ_ H Q=>Q [] H
abbrev uK (ta:TE)(tr:TA):TA:=λY H Q=>ta Y H λx H1=>tr Y H1 λxs H2=>Q (x::xs) H2
section
variable{X:Cx}{e:Kd}{es:JS Kd}{te:TE}{t:TA}{pos:LG}
def fL:PA X [] yG:=λ_ _ _ _ H Q I h=>Calls.spliced_nil #[[],H,I,.nil,h]
def bA (ha:PE X e te)(hr:PA X es t)(hs:starEach (e::es) X.env=(false,eval e X.env)::starEach es X.env:=by rfl):PA X (e::es) (uK te t):=by
 intro pos J s Y H Q I h;rw[hs];change wpAny _ _ (spliced ((false,eval e X.env)::backTo pos (starEach es X.env))) _ _ s;show Calls.spliced_cons (aD (ha J s Y H _ I h) λu s1 #[x,H1,I1,r1,q1]=>?_)
 exact aD (hr pos J s1 Y H1 _ I1 q1) λus s2 #[xs,H2,I2,r2,q2]=>#[x::xs,H2,I2,.cons r1 r2,q2]
abbrev HU (t:TA):TE:=λY H Q=>t Y H λxs H1=>xs.length<=sizeLine/\∀p,H1 p=gV->Q (.ref p) (ay H1 p (.tup xs))
abbrev HV (t:TA):TE:=λY H Q=>t Y H λxs H1=>xs.length<=sizeLine/\∀p,H1 p=gV->Q (.ref p) (ay H1 p (.lst xs))
def uL {x1}(h:PA X es t):PE X (.Tuple es x1 pos) (HU t):=by
 intro J s Y H Q I hq;show wpAny_Tuple_spliced (aD (h pos J s Y H _ I hq) λus s1 #[xs,H1,I1,r,z,q]=>#[by rw[<- r.length]; exact z,?_])
 have hf:H1 s1.heap.objs.size=gV:=I1.hok.fresh (J9 _);show#[.ref s1.heap.objs.size,ay H1 s1.heap.objs.size (.tup xs),I1.laid (t':=s1.toks) (λb u e=>JW _ e) (J9 _) ?_,rfl,q _ hf]
 exact#[#[z,NoD.new _ _ _],us,r,#[_,J7 _ rfl,rfl,_,rfl]]
def Cs (h:PA X es t):PE X (.List es pos) (HV t):=by
 intro J s Y H Q I hq;show wpAny_List_spliced (aD (h pos J s Y H _ I hq) λus s1 #[xs,H1,I1,r,z,q]=>#[by rw[<- r.length]; exact z,?_])
 have hf:H1 s1.heap.objs.size=gV:=I1.hok.fresh (J9 _);show#[.ref s1.heap.objs.size,ay H1 s1.heap.objs.size (.lst xs),I1.laid (t':=s1.toks) (λb u e=>JW _ e) (J9 _) ?_,rfl,q _ hf]
 exact#[z,us,0,r,J7 _ rfl]
end
noncomputable abbrev Sp:=JS V->Hp->VK->XK->Prop
noncomputable abbrev o8:=JS Oe->Hp->JV->XK->JU->JV->Prop
structure Env0 (P:Ke)(w:Kr)(K:J2)(mg:J3->JX JU)(base:KB)(A:Kw)(outer:JS Oe)(s:JV)(H:Hp):Prop where
 frames:A.frames=bt outer
 mod:Mod K mg base
 bs:∀b o,base.get? b=bt o->s.heap.get? b=bt o/\H b=gV
 bsz:base.objs.size<=s.heap.objs.size
 funs:s.heap.FunFrames base outer
 frf:∀b∈kF outer,H b=gV
 hok:HOk P w H s.heap
 bare:Ob s.gens
abbrev CE (outer:JS Oe)(P:Ke)(w:Kr)(H:Hp)(s:JV)(Q:VK)(u:JU)(s':JV):Prop:=
 ∃v H',s'.os=s.os/\Ob s'.gens/\Un (kF outer) [] H H' s.heap s'.heap/\HOk P w H' s'.heap/\RelV v u/\Q v H'
abbrev CR (CX:o8)(outer:JS Oe)(P:Ke)(w:Kr)(H:Hp)(s:JV)(Q:VK)(E:XK)(r:Pb)(s':JV):Prop:=
 match r with
 | .ok (.ret u)=>CE outer P w H s Q u s'
 | .ok _=>KT
 | .error e=>CX outer H s E e s'
structure FnOk (P:Ke)(w:Kr)(K:J2)(mg:J3->JX JU)(base:KB)(CX:o8)(k:J4)(f:td)(fd:Lb)(ps:JS J3)(sp:Sp):Prop where
 len:∀vs H Q E,sp vs H Q E->vs.length=ps.length
 run:∀(A:Kw) (outer:JS Oe) (s:JV) (H:Hp) (args:Args) (us:JS JU) (vs:JS V) (Q:VK) (E:XK),Room k A->Env0 P w K mg base A outer s H->Qb s fd args (ps.zip us)->Vals vs us->sp vs H Q E->
  codeAny (model P w) A (.call (.ref f) args) (CR CX outer P w H s Q E) s
def FnOk.imp {P:Ke}{w:Kr}{K:J2}{mg:J3->JX JU}{base:KB}{CX:o8}{k:J4}{f:td}{fd:Lb}{ps:JS J3}{sp sp':Sp}(F:FnOk P w K mg base CX k f fd ps sp)
  (h:∀vs H Q E,sp' vs H Q E->sp vs H Q E):FnOk P w K mg base CX k f fd ps sp':=
 #[λvs H Q E q=>F.len vs H Q E (h _ _ _ _ q),λA outer s H args us vs Q E hr he hb hv hs=>F.run A outer s H args us vs Q E hr he hb hv (h _ _ _ _ hs)]
def Env0.make {P:Ke}{w:Kr}{K:J2}{mg:J3->JX JU}{base:KB}{A:Kw}{outer:JS Oe}{s:JV}{H:Hp}(e:Env0 P w K mg base A outer s H)(C:td)(us:JS JU)(kw:JS (J3×JU)) :
  Env0 P w K mg base (A.under (.builtin "type.__call__" #[.ref C::us,kw])) outer s H:=#[by first|exact e.frames|(simpa [P9,Code.envs,Qa,pushEnvs]using e.frames),e.mod,e.bs,e.bsz,e.funs,e.frf,e.hok,e.bare]
section
variable{X:Cx}{J:JS (td×Ll)}{Y:St}{H:Hp}{s s':JV}
def Inv.env0 (I:Inv X J Y H s):Env0 X.prog X.w X.K X.mg X.base X.A X.stack s H:=
 #[I.ok.frames,I.ok.mod,I.bs,Kx I.ok.bsz I.sz,I.stack,I.stkFree,I.hok,I.bare]
def Inv.after {Q:VK}{u:JU}(I:Inv X J Y H s)(h:CE X.stack X.prog X.w H s Q u s'):EP X J Y Q u s':=by
 obtain⟨v,H',os,bare,un,hok,r,q⟩:=h;obtain⟨hh,g,d,t,os'⟩:=s';obtain rfl:os'=s.os:=os;exact#[v,H',I.call (h':=hh) (g':=g) (d':=d) (t':=t) (ch:=[]) un hok bare (λb z=>absurd z (by simp)),r,q]
end
abbrev uM (sp:Sp)(dvs:JS V)(E:XK)(t:TA):TE:=λY H Q=>t Y H λvs H1=>sp (vs++dvs) H1 Q E
abbrev Binds (K:J2)(fd:Lb)(ps:JS J3)(ds:JS JU):Prop:=
 ∀(s:JV) (us:JS JU),K.In s.heap->(us++ds).length=ps.length->Qb s fd #[us,[]] (ps.zip (us++ds))
def Binds.all {K:J2}{fd:Lb}{ps:JS J3}(h:∀us:JS JU,us.length=ps.length->bindArgs fd #[us,[]]=pure (ps.zip us)):Binds K fd ps []:=λs us _ hl=>by
 rw[Lu]at hl ⊢;exact .of_eq (h us hl)
abbrev fM (CX:o8)(X:Cx)(E:XK):Prop:=∀(J:JS (td×Ll)) (Y:St) (H:Hp) (s:JV) (e:JU) (s':JV),Inv X J Y H s->CX X.stack H s E e s'->X.xe e s'
section
variable{X:Cx}{CX:o8}{k:J4}{f C:td}{fd:Lb}{ps:JS J3}{sp:Sp}{dvs:JS V}{ds:JS JU}{E:XK}{x m:J3}{p pos apos:LG}{e o:Kd}{es:JS Kd}{ta:TE}{t:TA}
def uN {J:JS (td×Ll)}{Y:St}{H:Hp}{s:JV}{Q:VK}{us:JS JU}{vs:JS V}(F:FnOk X.prog X.w X.K X.mg X.base CX k f fd ps sp)(hr:Room k X.A)(hb:Binds X.K fd ps ds)(hd:Vals dvs ds)(hx:fM CX X E)
  (I:Inv X J Y H s) (r:Vals vs us) (h:sp (vs++dvs) H Q E):wpAny (model X.prog X.w) X.A (call (.ref f) us) (EP X J Y Q) X.xe s:=by
 have r2:Vals (vs++dvs) (us++ds):=r.append hd;have hl:(us++ds).length=ps.length:=by rw[<- r2.length]; exact F.len _ _ _ _ h
 show No (Ms (F.run X.A X.stack s H #[us,[]] (us++ds) (vs++dvs) Q E hr I.env0 (hb s us I.kIn hl) r2 h) λr s' hq=>?_)
 cases r with
 | error e=>exact hx J Y H s e s' I hq
 | ok fl=>
  cases fl with
  | ret u=>exact I.after hq
  | next=>exact KT.elim hq
  | brk=>exact KT.elim hq
  | cont=>exact KT.elim hq
def yH (F:FnOk X.prog X.w X.K X.mg X.base CX k f fd ps sp)(hr:Room k X.A)(hg:Gl X x)(hm:X.mg x=bt (.ref f))(hk:Lc X.K (.ref f)=true)(hb:Binds X.K fd ps ds)(hd:Vals dvs ds)(hx:fM CX X E)
  (ha:PA X (e::es) t) (hdb:(x==("__debug__" : J3))=false:=by decide) (he:starEach (e::es) X.env=(false,eval e X.env)::starEach es X.env:=by rfl) (hpl:(backTo pos (starEach es X.env)).any (·.1)=false:=by rfl) :
  PE X (.Call (.Name x p) (e::es) [] pos) (uM sp dvs E t):=by
 intro J s Y H Q I h;show Mb (bW I hg hm ?_ hdb);show Oj (h₀:=X.base) I.ok.mod.kin hk (aD (ha pos J s Y H _ I h) λus s1 #[vs,H1,I1,r,q]=>#[I1.kIn,?_]) he hpl
 exact uN F hr hb hd hx I1 r q
def uO (F:FnOk X.prog X.w X.K X.mg X.base CX k f fd ps sp)(hr:Room k X.A)(hg:Gl X x)(hm:X.mg x=bt (.ref f))(hk:Lc X.K (.ref f)=true)(hb:Binds X.K fd ps ds)(hd:Vals dvs ds)(hx:fM CX X E)
  (hdb:(x==("__debug__" : J3))=false:=by decide):PE X (.Call (.Name x p) [] [] pos) (uM sp dvs E yG):=by
 intro J s Y H Q I h;show Mb (bW I hg hm ?_ hdb);exact Pr I.kIn hk (uN (us:=[]) F hr hb hd hx I .nil h)
end
structure FnScope (N P:JS J3)(sc:MM):Prop where
 kind:sc.kind=.function
 co:sc.isCoroutine=false
 gen:sc.isGenerator=false
 nd:N.Nodup
 pre:N.take P.length=P
 par:∀x∈P,sc.names.lookup x=bt .local\/sc.names.lookup x=bt .cell
 nofree:∀y∈sc.names,y.2≠.free
def kG {kindOf:J3->JX Ly}{x:J3}:∀ {binds:JS (J3×JU)} {m:J3->JX JU},(∀v,(x,v)∉binds)->bindL kindOf binds m x=m x
 | [],_,_=>rfl
 | (n,v)::r,m,h=>by
  unfold bindL;rw[kG λw hw=>h w (Ko _ hw)]
  split
  ·have:x≠n:=by rintro rfl; exact h v Kq
   simp[this]
  ·rfl
def kH {kindOf:J3->JX Ly}{x:J3}:∀ {binds:JS (J3×JU)} {m:J3->JX JU},(∀v,(x,v)∉binds)->bindC kindOf binds m x=m x
 | [],_,_=>rfl
 | (n,v)::r,m,h=>by
  unfold bindC;rw[kH λw hw=>h w (Ko _ hw)]
  split
  ·rfl
  ·have:x≠n:=by rintro rfl; exact h v Kq
   simp[this]
def kI {kindOf:J3->JX Ly}{x:J3}{v:JU}:∀ {P:JS J3} {vs:JS JU} {i:J4} {m:J3->JX JU},P.Nodup->P[i]?=bt x->vs[i]?=bt v->kindOf x=bt .local->
  bindL kindOf (P.zip vs) m x=bt v
 | [],_,_,_,_,h,_,_=>by simp at h
 | _::_,[],_,_,_,_,h,_=>by simp at h
 | p::P,w::vs,0,m,nd,h1,h2,hk=>by
  simp at h1 h2; subst h1; subst h2
  change bindL kindOf ((p,w)::P.zip vs) m p=_;unfold bindL;rw[kG λv hv=>(NB.mp nd).1 (NC hv).1,Ks hk]
  simp
 | p::P,w::vs,i+1,m,nd,h1,h2,hk=>by
  change bindL kindOf ((p,w)::P.zip vs) m x=_;unfold bindL;exact kI (i:=i) (NB.mp nd).2 (by simpa using h1) (by simpa using h2) hk
def kJ {kindOf:J3->JX Ly}{x:J3}{v:JU}:∀ {P:JS J3} {vs:JS JU} {i:J4} {m:J3->JX JU},P.Nodup->P[i]?=bt x->vs[i]?=bt v->kindOf x≠bt .local->
  bindC kindOf (P.zip vs) m x=bt v
 | [],_,_,_,_,h,_,_=>by simp at h
 | _::_,[],_,_,_,_,h,_=>by simp at h
 | p::P,w::vs,0,m,nd,h1,h2,hk=>by
  simp at h1 h2; subst h1; subst h2
  change bindC kindOf ((p,w)::P.zip vs) m p=_;unfold bindC;rw[kH λv hv=>(NB.mp nd).1 (NC hv).1,Kv hk]
  simp
 | p::P,w::vs,i+1,m,nd,h1,h2,hk=>by
  change bindC kindOf ((p,w)::P.zip vs) m x=_;unfold bindC;exact kJ (i:=i) (NB.mp nd).2 (by simpa using h1) (by simpa using h2) hk
abbrev d0 (N:JS J3)(vs:JS V):St:=vs.map bt++KZ (N.length - vs.length) gV
abbrev d6 (CX:o8)(P:Ke)(w:Kr)(K:J2)(mg:J3->JX JU)(base:KB)(N:JS J3)(qual:J3)(scope:MM)(f:td)(cd:JU)(A:Kw)(outer:JS Oe)(s:JV)(H:Hp)(E:XK):Cx where
 prog:=P
 w:=w
 K:=K
 mg:=mg
 base:=base
 A:=A.deeper (envOfC qual scope s.heap.objs.size f cd)
 N:=N
 s₀:=s
 H₀:=H
 env:=envOfC qual scope s.heap.objs.size f cd
 outer:=outer
 stack:=envOfC qual scope s.heap.objs.size f cd::outer
 ex:=[]
 calm:=true
 fn:=λ_=>true
 pn:=[]
 xe:=λe s'=>wpAny (model P w) (A.deeper (envOfC qual scope s.heap.objs.size f cd)) (leaving (envOfC qual scope s.heap.objs.size f cd) e) (λ_ s''=>CX outer H s E e s'') (λe' s''=>CX outer H s E e' s'') s'
def mT {sc:MM}{n:J4}{x:J3}(h:sc.names.lookup x=bt .cell):∃c,(cellsFrom n sc.names []).lookup x=bt c:=by
 have q:=OR sc.names n [] (.inl h);exact Lj.mp q
def sK {CX:o8}{P:Ke}{w:Kr}{K:J2}{mg:J3->JX JU}{base:KB}{N ps:JS J3}{qual:J3}{scope:MM}{f:td}{cd:JU}{A:Kw}{outer:JS Oe}{s s1:JV}{H:Hp}{E:XK}{us:JS JU}{vs:JS V}
  (S:FnScope N ps scope) (hd:A.handled=gV) (e0:Env0 P w K mg base A outer s H) (hl:vs.length=ps.length) (r:Vals vs us)
  (x:InCallC s s.heap.objs.size (bindL (envOfC qual scope s.heap.objs.size f cd).kindOf (ps.zip us) λ_=>gV) (cellsFrom (s.heap.objs.size+1) scope.names []) (bindC (envOfC qual scope s.heap.objs.size f cd).kindOf (ps.zip us) λ_=>gV) s1) :
  Inv (d6 CX P w K mg base N qual scope f cd A outer s H E) [] (d0 N vs) H s1:=by
 have hpl:ps.length<=N.length:=by have:=congrArg List.length S.pre; rw[Mc]at this; omega
 obtain⟨h1,tk,rfl,hk⟩:=x.done;have noA:∀b:td,b∉(d6 CX P w K mg base N qual scope f cd A outer s H E).ex:=λb z=>absurd (show b∈([]:JS td)from z) (by simp)
 show#[#[e0.mod,S.kind,rfl,rfl,J9 _,λy z c h1 h2=>?_,λy hy=>?_,λy c _ h=>?_,λ_=>hd,Around.frames_deeper e0.frames,.inr #[rfl,rfl],λb z=>absurd z (noA b),e0.bs,e0.bsz,λb _ _=>noA b,λb z=>absurd z (noA b),e0.funs,e0.frf],
  rfl,e0.bare,Un.kept hk,#[_,x.toInCall.ns,λi y v h1 h2 h3=>?_],λy c h=>#[_,x.cell y c h],e0.hok.fresh (J9 _),λy c h=>?_,λp hp=>absurd (show p∈([]:JS (td×Ll))from hp) (by simp),e0.hok.kept hk,?_]
 ·exact name_of_addr x.apart (MW h1) (MW h2)
 ·have hy:scope.names.lookup y=bt .cell\/scope.names.lookup y=bt .free:=hy;rcases hy with hy|hy
  ·exact mT hy
  ·exact absurd rfl (S.nofree _ (MW hy))
 ·exact Mr (x.above y c (MW h))
 ·have hi:i < vs.length:=by
   unfold d0 at h2
   by_cases hi:i < vs.length
   ·exact hi
   ·rw[Mw (by simpa using hi)]at h2
    rw[List.getElem?_replicate]at h2;split at h2 <;> cases h2
  have ha:vs[i]?=bt v:=by
   unfold d0 at h2;rw[KY (by simpa using hi),KA]at h2
   cases e:vs[i]? with
   | none=>rw[e]at h2; cases h2
   | some a=>rw[e]at h2; cases h2; rfl
  obtain⟨u,hu,rv⟩:=r.get ha;have hp:ps[i]?=bt y:=by
   rw[<- S.pre,List.getElem?_take_of_lt ∅]; exact h1
  have ndP:ps.Nodup:=by rw[<- S.pre]; exact S.nd.sublist (Qd _ _)
  show#[u,rv,?_];rcases S.par y (Lr hp)with k|k
  ·exact .inl #[k,kI ndP hp hu k]
  ·obtain⟨c,e⟩:=mT (n:=s.heap.objs.size+1) k;show .inr #[.inl k,c,e,?_];have q:=x.cell y c e;rw[kJ ndP hp hu (by change scope.names.lookup y≠_; rw[k]; decide)]at q
   exact q
 ·exact e0.hok.fresh (Mr (x.above y c (MW h)))
 ·unfold d0;change _=N.length;rw[Kb,J6,List.length_replicate];omega
def AZ {CX:o8}{P:Ke}{w:Kr}{K:J2}{mg:J3->JX JU}{base:KB}{k:J4}{f:td}{name qual:J3}{params:Arguments}{body:JS Lp}{scope:MM}{dV kV doc pm cdv ct oc:JU}{an od:JX td}
  {osl:KP (JX JU)} {N ps:JS J3} {sp:Sp} (lk:K.lookup f=bt #[oc,od,.func (LX name qual params body scope dV kV doc pm an cdv ct),osl]) (hcd:M1 K cdv qual=true) (S:FnScope N ps scope)
  (len:∀vs H Q E,sp vs H Q E->vs.length=ps.length)
  (hbody:∀(A:Kw) (outer:JS Oe) (s:JV) (H:Hp) (vs:JS V) (Q:VK) (E:XK),Room k (A.deeper (envOfC qual scope s.heap.objs.size f cdv))->sp vs H Q E->
   ∃t,PSs (d6 CX P w K mg base N qual scope f cdv A outer s H E) body t/\t { nx:=λ_ H'=>Q .non H',rt:=Q } (d0 N vs) H) :
  FnOk P w K mg base CX (k+1) f (LX name qual params body scope dV kV doc pm an cdv ct) ps sp:=by
 show#[len,λA outer s H args us vs Q E hr e0 hb r hsp=>?_]
 have hl:=len _ _ _ _ hsp;have KX:K.In s.heap:=e0.mod.kin.keeps λb o e=>(e0.bs b o e).1
 have lim:s.heap.NoLimit:=e0.mod.nolimit.keeps λb o e=>(e0.bs b o e).1
 have hkind:∀y∈ps.zip us,scope.names.lookup y.1=bt .local\/(scope.names.lookup y.1=bt .cell/\((cellsFrom (s.heap.objs.size+1) scope.names []).lookup y.1).isSome=true):=λ#[n,v] hy=>by
  rcases S.par n (NC hy).1 with q|q
  ·exact .inl q
  ·exact .inr #[q,OR _ _ _ (.inl q)]
 show codeAny_call_function hr.depth (KX _ _ lk) rfl S.co S.gen rfl (PySem.W.codeRec_of KX hcd) (hb _ _ _ _ ?_);show wpAny_newFunctionEnv_cells S.kind hkind λenv he s1 x=>?_
 subst he;show#[lim.keeps x.toInCall.keep,codeAny_func ?_];obtain⟨t,ht,hq⟩:=hbody A outer s H vs Q E (hr.deeper _) hsp;have I:Inv (d6 CX P w K mg base N qual scope f cdv A outer s H E) [] (d0 N vs) H s1:=sK S hr.hd e0 hl r x;show KO (ht [] s1 (d0 N vs) H _ I hq) (λfl s' hs=>?_) λe s' hs=>hs
 have fin:∀ {Y':St} {H':Hp} {v:V} {u:JU},Inv (d6 CX P w K mg base N qual scope f cdv A outer s H E) [] Y' H' s'->RelV v u->Q v H'->CE outer P w H s Q u s':=
  λ{Y' H' v u} tx rv q=>#[v,H',tx.os,tx.bare,tx.base,tx.hok,rv,q]
 cases fl with
 | ret u=>
  obtain⟨v,Y',H',tx,rv,q⟩:=hs;exact fin tx rv q
 | next=>
  obtain⟨Y',H',tx,q⟩:=hs;exact fin (v:=V.non) (u:=K1) tx rfl q
 | brk=>
  obtain⟨_,_,_,q⟩:=hs;exact KT.elim q
 | cont=>
  obtain⟨_,_,_,q⟩:=hs;exact KT.elim q
section
variable{X:Cx}{x:J3}{p pos:LG}{e:Kd}{es:JS Kd}{t:TA}{id T:Ls}{r:JS V->Hp->VK->Prop}
abbrev Jf (r:JS V->Hp->VK->Prop)(t:TA):TE:=λY H Q=>t Y H λvs H1=>r vs H1 Q
def d7 (hc:CallR X (.builtin id) r)(hg:Gl X x)(hm:X.mg x=gV)(hv:bootBuiltins x=bt (.builtin id))(ha:PA X (e::es) t)(hn:x≠"__name__":=by decide)(hdb:(x==("__debug__" : J3))=false:=by decide)
  (he:starEach (e::es) X.env=(false,eval e X.env)::starEach es X.env:=by rfl) (hpl:(backTo pos (starEach es X.env)).any (·.1)=false:=by rfl):PE X (.Call (.Name x p) (e::es) [] pos) (Jf r t):=by
 intro J s Y H Q I h;show Mb (fJ I hg hm hv ?_ hn hdb);exact QE (aD (ha pos J s Y H _ I h) λus s1 #[vs,H1,I1,r1,q1]=>hc J s1 Y H1 vs us Q I1 r1 q1) he hpl
def sL (hc:CallR X (.type T) r)(hg:Gl X x)(hm:X.mg x=gV)(hv:bootBuiltins x=bt (.type T))(ha:PA X (e::es) t)(hn:x≠"__name__":=by decide)(hdb:(x==("__debug__" : J3))=false:=by decide)
  (he:starEach (e::es) X.env=(false,eval e X.env)::starEach es X.env:=by rfl) (hpl:(backTo pos (starEach es X.env)).any (·.1)=false:=by rfl):PE X (.Call (.Name x p) (e::es) [] pos) (Jf r t):=by
 intro J s Y H Q I h;show Mb (fJ I hg hm hv ?_ hn hdb);exact LU (aD (ha pos J s Y H _ I h) λus s1 #[vs,H1,I1,r1,q1]=>hc J s1 Y H1 vs us Q I1 r1 q1) he hpl
end
end L2
namespace HT
open PySem PyProof.Rows
section
open PySem.SeqAt
open PySem.AutoSeq1 (wpAny_loadPart')
open PySem.MeetsSeq PySem.MeetsSeq2 PySem.MeetsSeq3
end
section
variable{prog:Ke}{w:Kr}{A:Kw}{E:JU->JV->Prop}{s:JV}
def yI {t b:td}{vs ws:JS JU}{Q:JU->JV->Prop}(ht:QX s.heap t vs.toArray)(hb:QX s.heap b ws.toArray)(hv:vs≠[])
  (h1:ws=[]->Q (.ref t) s) (h2:ws≠[]->Q (.ref s.heap.objs.size) { s with heap:=s.heap.push { cls:=.type "tuple",data:=.seq (vs++ws).toArray } })
  (hsz:vs.length+ws.length<=sizeLine):wpAny (model prog w) A (binaryOp .Add (.ref t) (.ref b)) Q E s:=by
 obtain⟨⟨cls,dd,data,sl⟩,ho,hc,n,hd⟩:=id ht;obtain⟨⟨cls2,dd2,data2,sl2⟩,ho2,hc2,n2,hd2⟩:=id hb;simp only at hc hd hc2 hd2;subst hc hd hc2 hd2;have e:vs.toArray++ws.toArray=(vs++ws).toArray:=by simp
 by_cases hw:ws=[]
 ·exact Qe #[_,ho,rfl] #[_,ho2,rfl] OK PB NJ NH (Ny _ _)
   (tuple_addW1 t b vs.toArray ws.toArray n n2 dd dd2 sl sl2 (by simpa using hv) (by simp[hw])) #[ho,ho2,h1 hw]
 ·show Qe #[_,ho,rfl] #[_,ho2,rfl] OK PB NJ NH (Ny _ _)
   (tuple_addW2 t b vs.toArray ws.toArray n n2 dd dd2 sl sl2 (by simpa using hv) (by simpa using hw) (by rw[Ki,Ki]; exact hsz)) #[ho,ho2,?_]
  rw[e];exact h2 hw
abbrev bw (n d:J4):JX Kk->J4
 | none=>d
 | some v=>if v < 0 then(v+(n:Kk)).toNat else min v.toNat n
def mU (n d:J4):bw n d gV=d:=rfl
def qJ (n d k:J4):bw n d (bt (k:Kk))=min k n:=by
 show(if (k:Kk) < 0 then((k:Kk)+(n:Kk)).toNat else min (k:Kk).toNat n)=min k n
 rw[Kv ∅,Lg]
def Ct (n d:J4)(hd:d<=n)(o:JX Kk):bw n d o<=n:=by
 cases o with
 | none=>exact hd
 | some v=>
  show(if v < 0 then(v+(n:Kk)).toNat else min v.toNat n)<=n
  by_cases hv:v < 0
  ·rw[Ks hv]; omega
  ·rw[Kv hv]; exact Nat.min_le_right _ _
def qK (v:Kk)(n d:J4):(if v < 0 then max (v+(n:Kk)) 0 else min v (n:Kk))=((bw n d (bt v):J4):Kk):=by
 show(if v < 0 then max (v+(n:Kk)) 0 else min v (n:Kk))=(((if v < 0 then(v+(n:Kk)).toNat else min v.toNat n):J4):Kk)
 by_cases hv:v < 0
 ·simp only[Ks hv]; omega
 ·simp only[Kv hv]; omega
def o9 (lo hi:JX Kk)(n:J4):Nw lo hi 1 (n:Kk)=(((bw n 0 lo:J4):Kk),((bw n n hi:J4):Kk)):=by
 have h1:¬ ((1:Kk) < 0):=∅
 unfold Nw;simp only[h1,Mx];show Prod.ext ?_ ?_
 ·cases lo with
  | none=>rfl
  | some v=>exact qK v n 0
 ·cases hi with
  | none=>rfl
  | some v=>exact qK v n n
def pb (i j:J4):MD (i:Kk) (j:Kk) 1=j - i:=by
 unfold MD;have h1:(1:Kk) > 0:=∅
 simp only[h1,MY,Int.ediv_one];split <;> omega
def jc {v:JU}{o:JX Kk}{Q:JX Kk->JV->Prop}(p:Ol v o)(h:Q o s):wpAny (model prog w) A (Q6 v) Q E s:=by
 cases p with
 | none=>exact Rq h
 | int i t=>exact slicePart_int h
def c7 {sl:td}{vl vu:JU}{lo hi:JX Kk}{n:J4}{Q:Kk×Kk×J4->JV->Prop}(hs:s.heap.IsSliceOf sl vl vu .none)(pl:Ol vl lo)(pu:Ol vu hi)
  (h:Q (((bw n 0 lo:J4):Kk),1,bw n n hi - bw n 0 lo) s):wpAny (model prog w) A (Om (.ref sl) (pure (n:Kk))) Q E s:=by
 obtain⟨os,hos,hcs,hds⟩:=id hs;unfold Om RG;show JT (JT (K9 hos hds (x:=vl) rfl (JT (K9 hos hds (x:=vu) rfl (JT (K9 hos hds (x:=.none) rfl (JZ ?_)))))));show JT (Rq ?_);change wpAny _ _ (if ((1:Kk)==0)=true then _ else _) _ _ s
 rw[Kv #v[]]
 show JT (jc pl (JT (jc pu (JT (JZ ?_)))));change wpAny _ _ (match Nw lo hi 1 (n:Kk)with|(lo,hi)=>pure (lo,(1:Kk),MD lo hi 1)) _ _ s
 rw[o9 lo hi n];change wpAny _ _ (pure (((bw n 0 lo:J4):Kk),(1:Kk),MD ((bw n 0 lo:J4):Kk) ((bw n n hi:J4):Kk) 1)) _ _ s;rw[pb];exact JZ h
def uP (xs:KP JU)(i k:J4):((LK k).filterMap λ(m:J4)=>xs[((i:Kk)+(m:Kk)*1).toNat]?).toArray=((xs.toList.drop i).take k).toArray:=by
 have e:(λ(m:J4)=>xs[((i:Kk)+(m:Kk)*1).toNat]?)=λm=>xs[i+m]?:=by
  funext m
  have:((i:Kk)+(m:Kk)*1).toNat=i+m:=∅
  rw[this]
 rw[e];have:=pick_run xs i k;rw[PR]at this;have e2:((λx=>xs[x]?)∘λx=>i+x)=λm=>xs[i+m]?:=rfl
 rw[e2]at this;rw[this]
def gd {t sl:td}{items:KP JU}{vl vu:JU}{lo hi:JX Kk}{Q:JU->JV->Prop}(ht:QX s.heap t items)(hs:s.heap.IsSliceOf sl vl vu .none)(pl:Ol vl lo)(pu:Ol vu hi)
  (hw:¬ (bw items.size 0 lo=0/\bw items.size items.size hi=items.size))
  (h:Q (.ref s.heap.objs.size) { s with heap:=s.heap.push { cls:=.type "tuple",data:=.seq ((items.toList.drop (bw items.size 0 lo)).take (bw items.size items.size hi - bw items.size 0 lo)).toArray } })
  (hsz:items.size<=sizeLine):wpAny (model prog w) A (getItem (.ref t) (.ref sl)) Q E s:=by
 have htake:sizeOk (.seq ((items.toList.drop (bw items.size 0 lo)).take (bw items.size items.size hi - bw items.size 0 lo)).toArray):=by
  show((items.toList.drop (bw items.size 0 lo)).take (bw items.size items.size hi - bw items.size 0 lo)).toArray.size<=sizeLine;rw[Ki,Mc,OL,Kh];omega
 have hj:bw items.size items.size hi<=items.size:=Ct _ _ (J9 _) hi;obtain⟨os,hos,hcs,hds⟩:=id hs;have hTs:s.TypeIs (.ref sl) "slice":=#[os,hos,hcs];unfold getItem
 try with_reducible show K5 ?_
 first|refine JT (JZ ?_)|skip
 show JT (Qf ht.typeIs #v[] ?_)
 show JT (KR (name:=LQ "__getitem__") ht.typeIs L9
  (K3 L9 ht.typeIs Ps ?_ (PU _ _)))
 change wpAny _ _ (Np (.ref t) >>= _) _ _ s;show JT (RO ht ?_);show JT (NK hTs ?_);rw[Ks #v[]]
 show JT (c7 hs pl pu ?_);have hno:¬ ((((bw items.size 0 lo:J4):Kk)==0&&(1:Kk)==1&&(bw items.size items.size hi - bw items.size 0 lo)==items.size)=true):=by
  intro q;rw[JY,JY]at q;have q1:((bw items.size 0 lo:J4):Kk)=0:=eq_of_beq q.1.1;have q2:bw items.size items.size hi - bw items.size 0 lo=items.size:=eq_of_beq q.2;exact hw #[∅,∅]
 change wpAny _ _ (if (((bw items.size 0 lo:J4):Kk)==0&&(1:Kk)==1&&(bw items.size items.size hi - bw items.size 0 lo)==items.size)=true then _ else _) _ _ s
 rw[Kv hno,uP]
 first
  | exact JT (m:=LN _) (KI (JZ #[_,rfl,JZ h]) htake)
  | exact JT (m:=LN _) (KI (JT (JZ (JZ #[_,rfl,JZ h]))) htake)
  | exact JT (JT (m:=LN _) (KI (JZ (JZ #[_,rfl,JZ h])) htake))
  | exact JT (JT (m:=LN _) (KI (JZ #[_,rfl,JZ h]) htake))
end
end HT
namespace L2
open PySem PySem.Spec PyProof.Rows
noncomputable abbrev TO:=St->Hp->(JX Kk->Hp->Prop)->Prop
abbrev PO (X:Cx)(e:JX Kd)(t:TO):Prop:=
 ∀(J:JS (td×Ll)) (s:JV) (Y:St) (H:Hp) (Q:JX Kk->Hp->Prop),Inv X J Y H s->t Y H Q->
  wpAny (model X.prog X.w) X.A (evalPart e X.env) (λu s'=>∃o H',Inv X J Y H' s'/\Ol u o/\Q o H') X.xe s
abbrev yJ:TO:=λ_ H Q=>Q gV H
abbrev E8 (t:TE):TO:=λY H Q=>t Y H λx H1=>∃i,x=.int i/\Q (bt i) H1
section
variable{X:Cx}{e:Kd}{te:TE}{lo hi:JX Kd}{tl th:TO}{pos p2:LG}
def yK:PO X gV yJ:=by
 intro J s Y H Q I h;rw[RP];exact JZ #[gV,H,I,.none,h]
def yL (h:PE X e te):PO X (bt e) (E8 te):=by
 intro J s Y H Q I hw;rw[evalPart_some];show aD (h J s Y H _ I hw) λu s1 #[x,H1,I1,r1,q1]=>?_
 obtain⟨i,rfl,q⟩:=q1;obtain⟨t,rfl⟩:=r1;exact#[bt i,H1,I1,.int i t,q]
abbrev E9 (X:Cx)(r:V->JX Kk->JX Kk->Hp->VK->Prop):Prop:=
 ∀(J:JS (td×Ll)) (s:JV) (Y:St) (H:Hp) (x:V) (v vl vu:JU) (lo hi:JX Kk) (sl:td) (Q:VK),Inv X J Y H s->RelV x v->s.heap.IsSliceOf sl vl vu .none->Ol vl lo->Ol vu hi->r x lo hi H Q->
  ∃T id,typeLookup (.type T) "__getitem__" = pure (bt (.builtin id))/\s.TypeIs v T/\wpAny (model X.prog X.w) X.A (getItem v (.ref sl)) (EP X J Y Q) X.xe s
abbrev Jv (r:V->JX Kk->JX Kk->Hp->VK->Prop)(te:TE)(tl th:TO):TE:=λY H Q=>te Y H λx H1=>tl Y H1 λl H2=>th Y H2 λu H3=>r x l u H3 Q
def uQ {r:V->JX Kk->JX Kk->Hp->VK->Prop}(hr:E9 X r)(he:PE X e te)(hl:PO X lo tl)(hu:PO X hi th):PE X (.Subscript e (.Slice lo hi gV p2) pos) (Jv r te tl th):=by
 intro J s Y H Q I h;show Rr (aD (he J s Y H _ I h) λv s1 #[x,H1,I1,r1,q1]=>?_)
 show wpAny_Slice (aD (hl J s1 Y H1 _ I1 q1) λvl s2 #[l,H2,I2,pl,q2]=>aD (hu J s2 Y H2 _ I2 q2) λvu s3 #[u,H3,I3,pu,q3]=>?_)
 rw[RP];show JZ ?_;have I4:Inv X J Y H3 { s3 with heap:=s3.heap.push { cls:=.type "slice",data:=.fields [vl,vu,.none].toArray } }:=I3.kept (t':=s3.toks) λb ob q=>JW _ q
 obtain⟨T,id,hT,ht,hg⟩:=hr J { s3 with heap:=s3.heap.push { cls:=.type "slice",data:=.fields [vl,vu,.none].toArray } } Y H3 x v vl vu l u s3.heap.objs.size Q I4 r1 (SN ..) pl pu q3
 change wpAny (model X.prog X.w) X.A (subscriptTail e (.Slice lo hi gV p2) v (.ref s3.heap.objs.size)) (EP X J Y Q) X.xe { s3 with heap:=s3.heap.push { cls:=.type "slice",data:=.fields [vl,vu,.none].toArray } }
 exact tail_any (ops:=[.ref s3.heap.objs.size,v]) ht hT hg (by with_unfolding_all rfl)
abbrev jd (xs:JS V)(lo hi:JX Kk):JS V:=(xs.drop (HT.bw xs.length 0 lo)).take (HT.bw xs.length xs.length hi - HT.bw xs.length 0 lo)
def iq (xs:JS V)(lo hi:JX Kk):(jd xs lo hi).length<=xs.length:=by
 unfold jd;rw[Mc,OL];omega
abbrev HW (K:J2):V->JX Kk->JX Kk->Hp->VK->Prop:=λx lo hi H Q=>∃a xs,x=.ref a/\SqT K H a xs/\
 ¬ (HT.bw xs.length 0 lo=0/\HT.bw xs.length xs.length hi=xs.length)/\∀p,H p=gV->Q (.ref p) (ay H p (.tup (jd xs lo hi)))
def Cu:E9 X (HW X.K):=by
 intro J s Y H x v vl vu lo hi sl Q I rx hs pl pu h;obtain⟨a,xs,rfl,hx,hw,q⟩:=h;cases rx;obtain⟨its,r,ht,hz⟩:=I.tuple hx;have hlen:its.toArray.size=xs.length:=by rw[Ki]; exact r.length.symm
 show#["tuple",_,PyProof.Rows.slot_tuple_getitem.lookup,ht.typeIs,?_];show HT.gd ht hs pl pu (by rw[hlen]; exact hw) ?_ (by rw[hlen]; exact hz)
 rw[hlen];show#[.ref s.heap.objs.size,_,I.laid (t':=s.toks) (o:=.tup (jd xs lo hi)) (λb ob q=>JW _ q) (J9 _) ?_,rfl,q _ (I.hok.fresh (J9 _))]
 exact#[#[Kx (iq xs lo hi) hz,NoD.new _ _ _],_,(r.drop (HT.bw xs.length 0 lo)).take (HT.bw xs.length xs.length hi - HT.bw xs.length 0 lo),QD _ _]
def Vals.nil_iff {xs:JS V}{us:JS JU}(r:Vals xs us):us=[]↔xs=[]:=by
 cases r with
 | nil=>simp
 | cons _ _=>simp
end
abbrev ur (n:J4)(i:Kk):JX J4:=if 0<=i then(if i < n then bt i.toNat else gV)else if -(n:Kk)<=i then bt (i+n).toNat else gV
abbrev oR {α:Type}(xs:JS α)(i:Kk):JX α:=(ur xs.length i).bind λj=>xs[j]?
def qL {n:J4}{i:Kk}{j:J4}(h:ur n i=bt j):seqIndex? i n=bt j/\j < n/\-(n:Kk)<=i/\i < n:=by
 unfold ur at h
 by_cases h0:0<=i
 ·rw[Ks h0]at h
  by_cases h1:i < n
  ·rw[Ks h1]at h;have e:i.toNat=j:=LP h;exact#[by rw[QY h0 h1,e],∅,∅,h1]
  ·rw[Kv h1]at h; cases h
 ·rw[Kv h0]at h
  by_cases h1 : -(n:Kk)<=i
  ·rw[Ks h1]at h;have e:(i+n).toNat=j:=LP h;exact#[by rw[Qg ∅ h1,e],∅,h1,∅]
  ·rw[Kv h1]at h; cases h
def lG {α:Type}{xs:JS α}{i:Kk}{v:α}(h:oR xs i=bt v):∃j,seqIndex? i xs.length=bt j/\xs[j]?=bt v/\j < xs.length/\-(xs.length:Kk)<=i/\i < xs.length:=by
 unfold oR at h;cases e:ur xs.length i with
 | none=>rw[e]at h; cases h
 | some j=>
  rw[e]at h;obtain⟨h1,h2,h3,h4⟩:=qL e;exact#[j,h1,h,h2,h3,h4]
def atI_nat {α:Type}{xs:JS α}{j:J4}{v:α}(h:xs[j]?=bt v):oR xs (j:Kk)=bt v:=by
 have hj:j < xs.length:=(Kc.mp h).1;have e:ur xs.length (j:Kk)=bt j:=by
  unfold ur;rw[Ks ∅,Ks ∅]; simp
 unfold oR; rw[e]; exact h
abbrev iI (b:Kd):Prop:=∀o i,subscripted b false o i=operate [o,i] (getItem o i)
abbrev IxR (X:Cx)(r:R2):Prop:=
 ∀(value slice:Kd) (J:JS (td×Ll)) (s:JV) (Y:St) (H:Hp) (x y:V) (v u:JU) (Q:VK),Inv X J Y H s->RelV x v->RelV y u->r x y H Q->
  subscripted slice false v u=operate [v,u] (getItem v u)->wpAny (model X.prog X.w) X.A (subscriptTail value slice v u) (EP X J Y Q) X.xe s
abbrev MtR (X:Cx)(id:Ls)(r:V->JS V->Hp->VK->Prop):Prop:=
 ∀(J:JS (td×Ll)) (s:JV) (Y:St) (H:Hp) (x:V) (xs:JS V) (v:JU) (us:JS JU) (Q:VK),Inv X J Y H s->RelV x v->Vals xs us->r x xs H Q->
  wpAny (model X.prog X.w) X.A (call (.builtin id) (v::us)) (EP X J Y Q) X.xe s
section
variable{X:Cx}{a b:Kd}{ta tb:TE}{pos:LG}
def Fa {r:R2}(hr:IxR X r)(ha:PE X a ta)(hb:PE X b tb)(hs:iI b):PE X (.Subscript a b pos) (Hj r ta tb):=by
 intro J s Y H Q I h;exact Rr (Ci ha hb I h λv u s2 x y H2 I2 rx ry q=>hr a b J s2 Y H2 x y v u Q I2 rx ry q (hs _ _))
abbrev HX (K:J2):R2:=λx y H Q=>∃p xs i v,x=.ref p/\y=.int i/\SqL K H p xs/\oR xs i=bt v/\Q v H
abbrev HY (K:J2):R2:=λx y H Q=>∃p xs i v,x=.ref p/\y=.int i/\SqT K H p xs/\oR xs i=bt v/\Q v H
abbrev HZ:R2:=λx y H Q=>∃z i c,x=.str z/\y=.int i/\z.length<=sizeLine/\oR z.cps.toList i=bt c/\Q (.str #[[c].toArray]) H
def yM:IxR X (HX X.K):=by
 intro value slice J s Y H x y v u Q I rx ry h hs;obtain⟨p,xs,i,z,rfl,rfl,hq,he,q⟩:=h;cases rx;obtain⟨t,rfl⟩:=ry;obtain⟨its,r,pl,hz⟩:=I.list hq;obtain⟨j,h1,h2,h3,h4,h5⟩:=lG he;obtain⟨w,ew,rw'⟩:=r.get h2;have hl:=r.length;have hn:=gU;have fin:EP X J Y Q w s:=#[z,H,I,rw',q]
 by_cases h0:0<=i
 ·have hj:i.toNat=j:=by
   rw[QY h0 h5]at h1;exact LP h1
  exact item_listR pl.isList h0 ∅ (by rw[hj]; simpa using ew) fin hs
 ·have hj:(i+(its.toArray.size:Kk)).toNat=j:=by
   rw[Qg ∅ h4]at h1
   rw[Ki,<- hl];exact LP h1
  exact Na (x:=w) pl.isList.typeIs slot_list_getitem.lookup
   (wpAny_getItem_list_neg (Q:=λr s'=>r=w/\EP X J Y Q r s') pl.isList ∅ (by rw[Ki] <;> omega) ∅ (by rw[hj]; simpa using ew) #[rfl,fin]) hs
def Cv:IxR X (HY X.K):=by
 intro value slice J s Y H x y v u Q I rx ry h hs;obtain⟨p,xs,i,z,rfl,rfl,hq,he,q⟩:=h;cases rx;obtain⟨t,rfl⟩:=ry;obtain⟨its,r,pl,hz⟩:=I.tuple hq;obtain⟨j,h1,h2,h3,h4,h5⟩:=lG he;obtain⟨w,ew,rw'⟩:=r.get h2;have hl:=r.length;have hn:=gU;have fin:EP X J Y Q w s:=#[z,H,I,rw',q];exact Na (x:=w) pl.typeIs slot_tuple_getitem.lookup
  (getItem_tuple (j:=j) (Q:=λr s'=>r=w/\EP X J Y Q r s') pl ∅ ∅ (by rw[Ki,<- hl]; exact h1) (by simpa using ew) #[rfl,fin]) hs
def Cw:IxR X HZ:=by
 intro value slice J s Y H x y v u Q I rx ry h hs;obtain⟨z,i,c,rfl,rfl,hz,he,q⟩:=h;obtain⟨t,rfl⟩:=rx;obtain⟨t',rfl⟩:=ry;obtain⟨j,h1,h2,h3,h4,h5⟩:=lG he;have hl:z.cps.toList.length=z.length:=by simp[SO]
 rw[hl]at h1 h4 h5;have hn:=gU;exact tail_any (typeIs_str s z t) slot_str_getitem.lookup (getItem_str (c:=c) (by
  have e1:decide (i < -(2 ^ 63:Kk))=false:=KC ∅
  have e2:decide (i>=2 ^ 63)=false:=KC ∅
  rw[e1,e2,PD]) (by rw[h1]; simpa using h2) #[.str #[[c].toArray],H,I.tok _,#[_,rfl],q]) hs
def pc (its:JS JU)(n j:J4)(u:JU):ND (·.setIfInBounds j u) { cls:=.type "list",data:=.seq its.toArray n }={ cls:=.type "list",data:=.seq (its.set j u).toArray n }:=by
 simp[ND]
def Inv.lst {J:JS (td×Ll)}{Y:St}{H:Hp}{s:JV}{p:td}{xs:JS V}(I:Inv X J Y H s)(h:H p=bt (.lst xs)) :
  ∃(its:JS JU) (n:J4),Vals xs its/\s.heap.get? p=bt { cls:=.type "list",data:=.seq its.toArray n }/\xs.length<=sizeLine:=by
 obtain⟨z,its,n,r,e⟩:=I.hok p _ h;exact#[its,n,r,e,z]
def Inv.lstUpd {J:JS (td×Ll)}{Y:St}{H:Hp}{s:JV}{p:td}{xs ys:JS V}{its its':JS JU}{n n':J4}{f:Ll->Ll}(I:Inv X J Y H s)(h:H p=bt (.lst xs))
  (ho:s.heap.get? p=bt { cls:=.type "list",data:=.seq its.toArray n }) (hf:f { cls:=.type "list",data:=.seq its.toArray n }={ cls:=.type "list",data:=.seq its'.toArray n' }) (r:Vals ys its') (hz:ys.length<=sizeLine) (t:J4) :
  Inv X J Y (ay H p (.lst ys)) { s with heap:=s.heap.update p f,toks:=t }:=by
 have e:(s.heap.update p f).get? p=bt { cls:=.type "list",data:=.seq its'.toArray n' }:=by
  rw[Ld f ho (by rw[hf] <;> rfl),hf]
 show I.write (x:=p) (e:=p) (by rw[h]; trivial) (.inl rfl) (λb u hb q=>(KN _ _ (Ne.symm hb)).trans q) #[_,e] ?_
 exact#[hz,its',n',r,e]
abbrev Fb:V->V->V->Hp->(Hp->Prop)->Prop:=λo i v H Q=>∃p xs k j,o=.ref p/\i=.int k/\H p=bt (.lst xs)/\ur xs.length k=bt j/\Q (ay H p (.lst (xs.set j v)))
def uR:Cd X Fb:=by
 intro J s Y H o i v ov iv u Q I ro ri rv h;obtain⟨p,xs,k,j,rfl,rfl,hp,hj,q⟩:=h;cases ro;obtain⟨t,rfl⟩:=ri;obtain⟨its,n,r,ho,hz⟩:=I.lst hp;obtain⟨h1,h2,h3,h4⟩:=qL hj;have hl:=r.length;have hn:=gU;have I':Inv X J Y (ay H p (.lst (xs.set j v))) { s with heap:=s.heap.update p (ND (·.setIfInBounds j u)) }:=
  I.lstUpd hp ho (pc its n j u) (r.set rv j) (by rw[Q7]; exact hz) s.toks
 by_cases h0:0<=k
 ·have hk:k.toNat=j:=by
   rw[QY h0 h4]at h1;exact LP h1
  exact PySem.W.ki_setAt ho h0 ∅ (by rw[Ki,<- hl]; exact h4) (by rw[hk]; exact#[_,I',q])
 ·have hk:(k+(its.toArray.size:Kk)).toNat=j:=by
   rw[Qg ∅ h3]at h1
   rw[Ki,<- hl];exact LP h1
  exact PySem.W.ki_setBack ho ∅ (by rw[Ki,<- hl]; exact h3) ∅ (by rw[hk]; exact#[_,I',q])
def lH (lo hi:JX Kk)(n:J4):(sliceBounds lo hi gV n).1=((HT.bw n 0 lo:J4):Kk)/\(sliceBounds lo hi gV n).2.1=((HT.bw n n hi:J4):Kk)/\(sliceBounds lo hi gV n).2.2=1:=by
 show#[?_,?_,rfl]
 ·cases lo with
  | none=>simp[sliceBounds,HT.bw]
  | some i=>
   simp only[sliceBounds,HT.bw,QF,show(1:Kk) > 0 by decide,MY]
   by_cases h:i < 0
   ·simp only[h,MY] <;> omega
   ·simp only[h,Mx] <;> omega
 ·cases hi with
  | none=>simp[sliceBounds,HT.bw]
  | some i=>
   simp only[sliceBounds,HT.bw,QF,show(1:Kk) > 0 by decide,MY]
   by_cases h:i < 0
   ·simp only[h,MY] <;> omega
   ·simp only[h,Mx] <;> omega
def ku (its:JS JU)(lo hi:JX Kk):slicePick its.toArray lo hi gV=((its.drop (HT.bw its.length 0 lo)).take (HT.bw its.length its.length hi - HT.bw its.length 0 lo)).toArray:=by
 obtain⟨h1,h2,h3⟩:=lH lo hi its.toArray.size;unfold slicePick;rw[h1,h2,h3];simp only[sliceRange_one,pick_run,Ki] <;> rfl
abbrev Ic (K:J2):V->JX Kk->JX Kk->Hp->VK->Prop:=λx lo hi H Q=>∃a xs,x=.ref a/\SqL K H a xs/\∀p,H p=gV->Q (.ref p) (ay H p (.lst (jd xs lo hi)))
def yN:E9 X (Ic X.K):=by
 intro J s Y H x v vl vu lo hi sl Q I rx hs pl pu h;obtain⟨a,xs,rfl,hx,q⟩:=h;cases rx;obtain⟨its,r,ht,hz⟩:=I.list hx;have hlen:=r.length;show#["list",_,slot_list_getitem.lookup,ht.isList.typeIs,?_];show wpAny_getItem_list_slice ht.isList hs pl pu .none (by simp) ?_ (by rw[Ki] <;> omega)
 rw[ku,<- hlen];show#[.ref s.heap.objs.size,_,I.laid (t':=s.toks) (o:=.lst (jd xs lo hi)) (λb ob q=>JW _ q) (J9 _) ?_,rfl,q _ (I.hok.fresh (J9 _))]
 exact#[Kx (iq xs lo hi) hz,_,0,(r.drop (HT.bw xs.length 0 lo)).take (HT.bw xs.length xs.length hi - HT.bw xs.length 0 lo),J7 _ rfl]
abbrev fu:V->Kn
 | .non=>true
 | .bl _=>true
 | .int _=>true
 | .str _=>true
 | _=>false
abbrev yO:V->V->Kn
 | .non,.non=>true
 | .bl a,.bl b=>a==b
 | .bl a,.int b=>(if a then 1 else 0)==b
 | .int a,.bl b=>a==(if b then 1 else 0)
 | .int a,.int b=>a==b
 | .str a,.str b=>a==b
 | _,_=>false
def Cy {A:Kw}{s:JV}{y x:V}{u v:JU}(ry:RelV y u)(rx:RelV x v)(fy:fu y=true)(fx:fu x=true):NV A s u v (yO y x):=by
 cases y with
 | non=>
  cases ry;cases x with
  | non=>cases rx; exact Tq _
  | bl b=>cases rx; exact Sv b
  | int b=>obtain⟨t,rfl⟩:=rx; exact SE b t
  | str b=>obtain⟨t,rfl⟩:=rx; exact SG b t
  | _=>exact absurd (show false=true from fx) Kg
 | bl a=>
  cases ry;cases x with
  | non=>cases rx; exact Sw a
  | bl b=>cases rx; exact Sx a b
  | int b=>obtain⟨t,rfl⟩:=rx; exact SH a b t
  | str b=>obtain⟨t,rfl⟩:=rx; exact SI a b t
  | _=>exact absurd (show false=true from fx) Kg
 | int a=>
  obtain⟨t',rfl⟩:=ry;cases x with
  | non=>cases rx; exact SJ a t'
  | bl b=>cases rx; exact SK a t' b
  | int b=>obtain⟨t,rfl⟩:=rx; exact SQ a t' b t
  | str b=>obtain⟨t,rfl⟩:=rx; exact PL a t' b t
  | _=>exact absurd (show false=true from fx) Kg
 | str a=>
  obtain⟨t',rfl⟩:=ry;cases x with
  | non=>cases rx; exact SL a t'
  | bl b=>cases rx; exact SM a t' b
  | int b=>obtain⟨t,rfl⟩:=rx; exact PM a t' b t
  | str b=>obtain⟨t,rfl⟩:=rx; exact SR a t' b t
  | _=>exact absurd (show false=true from fx) Kg
 | _=>exact absurd (show false=true from fy) Kg
abbrev pd (x:V)(u:JU):Kn:=match u with
 | .none=>yO .non x
 | .bool b=>yO (.bl b) x
 | .int i _=>yO (.int i) x
 | .str z _=>yO (.str z) x
 | _=>false
def uS {x y:V}{u:JU}(r:RelV y u)(f:fu y=true):pd x u=yO y x:=by
 cases y with
 | non=>cases r; rfl
 | bl b=>cases r; rfl
 | int i=>obtain⟨t,rfl⟩:=r; rfl
 | str z=>obtain⟨t,rfl⟩:=r; rfl
 | _=>exact absurd (show false=true from f) Kg
def gf {x:V}:∀ {xs:JS V} {us:JS JU},Vals xs us->xs.all fu=true->us.any (pd x)=xs.any λy=>yO y x
 | _,_,.nil,_=>rfl
 | y::xs,u::us,.cons r t,f=>by
  rw[KM,JY]at f;rw[LB,LB,uS r f.1,gf t f.2]
def d8 {A:Kw}{s:JV}{x:V}{v:JU}(rx:RelV x v)(fx:fu x=true):∀ {xs:JS V} {us:JS JU},Vals xs us->xs.all fu=true->∀u∈us,NV A s u v (pd x u)
 | _,_,.nil,_=>λu hu=>by cases hu
 | y::xs,u::us,.cons r t,f=>λu' hu=>by
  rw[KM,JY]at f;rcases J5.mp hu with rfl|hu
  ·rw[uS r f.1]; exact Cy r rx f.1 fx
  ·exact d8 rx fx t f.2 u' hu
abbrev Hl (x:V)(xs:JS V):Kn:=xs.any λy=>yO y x
abbrev Ig (K:J2)(neg:Kn):R2:=λx y H Q=>∃p xs,y=.ref p/\(SqL K H p xs\/SqT K H p xs)/\fu x=true/\xs.all fu=true/\Q (.bl (if neg then !Hl x xs else Hl x xs)) H
def sM:OpR X (compareOp .In) (Ig X.K false):=by
 intro J s Y H x y v u Q I rx ry h;obtain⟨p,xs,rfl,hq,fx,fs,q⟩:=h;cases ry;rcases hq with hq|hq
 ·obtain⟨its,r,pl,hz⟩:=I.list hq;show Q8 (pd x) pl.isList (λw hw=>d8 rx fx r fs w (by simpa using hw)) #[.bl _,H,I,rfl,?_]
  rw[show its.toArray.any (pd x)=its.any (pd x) by simp,gf r fs]
  exact q
 ·obtain⟨its,r,pl,hz⟩:=I.tuple hq;show QG (pd x) pl (λw hw=>d8 rx fx r fs w (by simpa using hw)) #[.bl _,H,I,rfl,?_]
  rw[show its.toArray.any (pd x)=its.any (pd x) by simp,gf r fs]
  exact q
def lI:OpR X (compareOp .NotIn) (Ig X.K true):=by
 intro J s Y H x y v u Q I rx ry h;obtain⟨p,xs,rfl,hq,fx,fs,q⟩:=h;cases ry;rcases hq with hq|hq
 ·obtain⟨its,r,pl,hz⟩:=I.list hq;show PV (pd x) pl.isList (λw hw=>d8 rx fx r fs w (by simpa using hw)) #[.bl _,H,I,rfl,?_]
  rw[show its.toArray.any (pd x)=its.any (pd x) by simp,gf r fs]
  exact q
 ·obtain⟨its,r,pl,hz⟩:=I.tuple hq;show SeqAt.notIn_tupleAt (pd x) pl (λw hw=>d8 rx fx r fs w (by simpa using hw)) #[.bl _,H,I,rfl,?_]
  rw[show its.toArray.any (pd x)=its.any (pd x) by simp,gf r fs]
  exact q
def lJ:CallR X (.type "list") (λxs H Q=>∃p ys,xs=[.ref p]/\(SqL X.K H p ys\/SqT X.K H p ys)/\∀l,H l=gV->Q (.ref l) (ay H l (.lst ys))):=by
 intro J s Y H xs us Q I r h;obtain⟨p,ys,rfl,hq,q⟩:=h;obtain⟨u,rfl,rx⟩:=qI r;cases rx;have fin:∀(its:JS JU),Vals ys its->ys.length<=sizeLine->∀(h':KB) (c':J4),(∀b o',s.heap.get? b=bt o'->h'.get? b=bt o')->
   h'.get? s.heap.objs.size=bt { cls:=.type "list",dict:=gV,data:=.seq its.toArray c',slots:=#[] }->EP X J Y Q (.ref s.heap.objs.size) { s with heap:=h' }:=λits r' hz h' c' kp e=>
  #[.ref s.heap.objs.size,_,I.laid (t':=s.toks) kp (J9 _) (show ObjOk X.prog X.w _ h' _ (.lst ys)from#[hz,its,c',r',e]),rfl,q _ (I.hok.fresh (J9 _))]
 rcases hq with hq|hq
 ·obtain⟨its,r',pl,hz⟩:=I.list hq;have hlen:=r'.length;obtain⟨o,ho,hc,n,hd⟩:=pl.isList;exact RQ p (.inl rfl) ho hc hd (λh' c' kp e=>fin its r' hz h' c' kp e) (by simp only[Ki] <;> omega)
 ·obtain⟨its,r',pl,hz⟩:=I.tuple hq;have hlen:=r'.length;obtain⟨o,ho,hc,n,hd⟩:=pl;exact RQ p (.inr rfl) ho hc hd (λh' c' kp e=>fin its r' hz h' c' kp e) (by simp only[Ki] <;> omega)
def fw:CallR X (.type "tuple") (λxs H Q=>∃p ys,xs=[.ref p]/\((SqL X.K H p ys/\∀l,H l=gV->Q (.ref l) (ay H l (.tup ys)))\/(SqT X.K H p ys/\Q (.ref p) H))):=by
 intro J s Y H xs us Q I r h;obtain⟨p,ys,rfl,h⟩:=h;obtain⟨u,rfl,rx⟩:=qI r;cases rx;rcases h with⟨hq,q⟩|⟨hq,q⟩
 ·obtain⟨its,r',pl,hz⟩:=I.list hq;have hlen:=r'.length;show call_tuple_list pl.isList (λh' kp=>?_) (by simp only[Ki] <;> omega)
  have I1:Inv X J Y H { s with heap:=h' }:=I.kept (t':=s.toks) kp
  have I2:Inv X J Y (ay H h'.objs.size (.tup ys)) { s with heap:=h'.push { cls:=.type "tuple",data:=.seq its.toArray } }:=
   I1.laid (t':=s.toks) (λb o e=>JW _ e) (J9 _) (show ObjOk X.prog X.w _ _ _ (.tup ys)from#[#[hz,NoD.new _ _ _],its,r',QD _ _])
  exact#[.ref h'.objs.size,_,I2,rfl,q _ (I1.hok.fresh (J9 _))]
 ·obtain⟨its,r',pl,hz⟩:=I.tuple hq;exact call_tuple_same pl #[.ref p,H,I,rfl,q]
abbrev Ih (K:J2)(T:Ls)(x:V)(H:Hp):Prop:=match x with
 | .str _=>T = "str"
 | .int _=>T = "int"
 | .ref p=>(T = "list"/\∃xs,SqL K H p xs)\/(T = "tuple"/\∃o,K.lookup p=bt o/\o.cls=.type "tuple"/\o.dict=gV)\/
   (T = "dict"/\((∃U,H p=bt (.dK U))\/∃U,H p=bt (.dT U)))\/(T = "set"/\∃S n,H p=bt (.set S n))
 | _=>KT
def uT {J:JS (td×Ll)}{Y:St}{H:Hp}{s:JV}{T:Ls}{x:V}{v:JU}(I:Inv X J Y H s)(r:RelV x v)(ty:Ih X.K T x H) :
  s.TypeIs v T/\∀a,v=.ref a->∃ob,s.heap.get? a=bt ob/\ob.dict=gV:=by
 cases x with
 | str z=>
  obtain⟨t,rfl⟩:=r;cases(show T = "str" from ty)
  exact#[typeIs_str s z t,λ_ e=>nomatch e]
 | int i=>
  obtain⟨t,rfl⟩:=r;cases(show T = "int" from ty)
  exact#[Rs s i t,λ_ e=>nomatch e]
 | ref p=>
  cases r;rcases ty with⟨rfl,xs,hq⟩|⟨rfl,o,hk,hc,hd⟩|⟨rfl,hk⟩|⟨rfl,S,n,hk⟩
  ·obtain⟨its,_,pl,_⟩:=I.list hq;show#[pl.isList.typeIs,λa e=>?_]
   cases e;obtain⟨o,n,e,c,hd,_⟩:=pl;exact#[o,e,hd]
  ·show#[#[o,I.kIn p o hk,hc],λa e=>?_]
   cases e;exact#[o,I.kIn _ o hk,hd]
  ·have z:∃o,s.heap.get? p=bt o/\o.ExactDict:=by
    rcases hk with⟨U,hk⟩|⟨U,hk⟩
    ·obtain⟨_,_,_,_,o,_,_,e,ex,_⟩:=I.hok p _ hk;exact#[o,e,ex]
    ·obtain⟨_,_,_,_,o,_,_,e,ex,_⟩:=I.hok p _ hk;exact#[o,e,ex]
   obtain⟨o,e,ex⟩:=z;show#[#[o,e,ex.1],λa e2=>?_]
   cases e2;exact#[o,e,ex.2.1]
  ·obtain⟨o,_,_,_,e,ex,_⟩:=I.hok p _ hk;show#[#[o,e,ex.1],λa e2=>?_]
   cases e2;exact#[o,e,ex.2.1]
 | _=>exact KT.elim ty
variable{o e:Kd}{es:JS Kd}{to:TE}{t:TA}{name:J3}{apos cpos:LG}{T id:Ls}{r:V->JS V->Hp->VK->Prop}
end
abbrev Jg (X:Cx)(id:Ls)(r:V->JS V->Hp->VK->Prop):Prop:=
 ∀(J:JS (td×Ll)) (s:JV) (Y:St) (H:Hp) (x:V) (xs:JS V) (v:JU) (us:JS JU) (Q:VK),Inv X J Y H s->RelV x v->Vals xs us->r x xs H Q->
  wpAny (model X.prog X.w) X.A (call (.builtin id) (v::us)) (EP X J Y Q) X.xe s
def Vals.one:∀ {x:V} {us:JS JU},Vals [x] us->∃u,us=[u]/\RelV x u
 | _,_,.cons r .nil=>#[_,rfl,r]
def Vals.rep {xs:JS V}{us:JS JU}(h:Vals xs us):∀k:J4,Vals (KZ k xs).flatten (KZ k us).flatten
 | 0=>.nil
 | k+1=>by
  rw[L3,L3,MN,MN];exact Vals.append h (Vals.rep h k)
def kK (its:JS JU):∀(k:J4) (acc:JS JU),
  Rt (λx1 x2=>x1++x2) acc.toArray (KZ k its.toArray)=(acc++(KZ k its).flatten).toArray
 | 0,acc=>by simp
 | k+1,acc=>by
  have e:acc.toArray++its.toArray=(acc++its).toArray:=by simp
  have e2:(acc++its)++(KZ k its).flatten=acc++(KZ (k+1) its).flatten:=by
   rw[L3,MN,OD]
  rw[<- e2,<- kK its k (acc++its),<- e,L3,O0]
section
variable{X:Cx}{J:JS (td×Ll)}{Y:St}{H:Hp}{s:JV}{l b:td}{xs ys zs:JS V}
def Inv.lset {its its':JS JU}{n:J4}{f:KP JU->KP JU}{t':J4}(I:Inv X J Y H s)(hH:H l=bt (.lst xs))
  (e:s.heap.get? l=bt { cls:=.type "list",data:=.seq its.toArray n }) (hf:f its.toArray=its'.toArray) (hv:Vals ys its') (hz:ys.length<=sizeLine) :
  Inv X J Y (ay H l (.lst ys)) { s with heap:=s.heap.update l (ND f),toks:=t' }:=by
 have q:=QH e f;rw[hf]at q;show I.write (x:=l) (e:=l) (by rw[hH]; exact trivial) (.inl rfl) (λb' u hb hu=>(KN s.heap (ND f) (Ne.symm hb)).trans hu) #[_,q] ?_
 exact#[hz,its',_,hv,q]
def Inv.lnew {its:JS JU}{t':J4}(I:Inv X J Y H s)(hv:Vals ys its)(hz:ys.length<=sizeLine) :
  Inv X J Y (ay H s.heap.objs.size (.lst ys)) { s with heap:=s.heap.push { cls:=.type "list",data:=.seq its.toArray },toks:=t' }:=
 I.laid (λ_ _ q=>JW _ q) (J9 _) #[hz,its,0,hv,J7 _ rfl]
def Inv.fresh (I:Inv X J Y H s):H s.heap.objs.size=gV:=I.hok.fresh (J9 _)
def Inv.lstM (I:Inv X J Y H s)(hH:H l=bt (.lst xs)):xs.length<=sizeLine/\∃(its:JS JU) (n:J4),Vals xs its/\xs.length=its.length/\s.heap.get? l=bt { cls:=.type "list",data:=.seq its.toArray n }:=by
 obtain⟨z,its,n,r,e⟩:=I.hok l _ hH;exact#[z,its,n,r,r.length,e]
def mV {n:J4}(h:n<=sizeLine):MS n=false:=by
 unfold MS;exact KC ∅
end
section
variable{X:Cx}
abbrev yP:V->JS V->Hp->VK->Prop:=λx vs H Q=>∃l xs y,x=.ref l/\vs=[y]/\H l=bt (.lst xs)/\xs.length < sizeLine/\Q .non (ay H l (.lst (xs++[y])))
def sN:Jg X "list.append" yP:=by
 intro J s Y H x vs v us Q I rx rv h;obtain⟨l,xs,y,rfl,rfl,hH,hz,q⟩:=h;cases rx;obtain⟨u,rfl,ru⟩:=rv.one;obtain⟨z,its,n,r,hl,e⟩:=I.lstM hH;show OS F.slot_list_append #[_,e,rfl] F.entry_list_append (F.args_list_append_2 _ _) (Qh l its.toArray n u (by rw[Ki]; omega)) #[e,?_]
 show#[.non,_,I.lset (its':=its++[u]) hH e (by simp) (r.append #v[ru]) ?_,rfl,q]
 rw[Kb,List.length_singleton];omega
abbrev yQ:V->JS V->Hp->VK->Prop:=λx vs H Q=>∃l b xs zs,x=.ref l/\vs=[.ref b]/\H l=bt (.lst xs)/\H b=bt (.lst zs)/\xs.length+zs.length<=sizeLine/\Q .non (ay H l (.lst (xs++zs)))
def sO:Jg X "list.extend" yQ:=by
 intro J s Y H x vs v us Q I rx rv h;obtain⟨l,b,xs,zs,rfl,rfl,hH,hB,hz,q⟩:=h;cases rx;obtain⟨u,rfl,ru⟩:=rv.one;cases ru;obtain⟨z,its,n,r,hl,e⟩:=I.lstM hH;obtain⟨z2,its2,n2,r2,hl2,e2⟩:=I.lstM hB;have hsz:its.toArray.size+its2.toArray.size<=sizeLine:=by rw[Ki,Ki]; omega
 have hlong:¬ (!its.toArray.isEmpty&&MS (its.toArray.size+its2.toArray.size))=true:=by
  rw[mV hsz,NL];exact Kg
 show OS F.slot_list_extend #[_,e,rfl] F.entry_list_extend (F.args_list_extend_2 _ _)
  (Qi l its.toArray n b its2.toArray n2 hlong (by rw[Ki]; omega) ∅) #[e,e2,?_]
 show#[.non,_,I.lset (its':=its++its2) hH e (by simp) (r.append r2) ?_,rfl,q]
 rw[Kb];omega
abbrev Ii:R2:=λx y H Q=>∃l b xs zs,x=.ref l/\y=.ref b/\H l=bt (.lst xs)/\H b=bt (.lst zs)/\xs.length+zs.length<=sizeLine/\∀p,H p=gV->Q (.ref p) (ay H p (.lst (xs++zs)))
def Cz:OpR X (binaryOp .Add) Ii:=by
 intro J s Y H x y v u Q I rx ry h;obtain⟨l,b,xs,zs,rfl,rfl,hH,hB,hz,q⟩:=h;cases rx;cases ry;obtain⟨z,its,n,r,hl,e⟩:=I.lstM hH;obtain⟨z2,its2,n2,r2,hl2,e2⟩:=I.lstM hB;show PySem.P.add_list e e2 ?_ (by rw[Ki,Ki]; omega)
 have ea:its.toArray++its2.toArray=(its++its2).toArray:=by simp
 rw[ea];exact#[.ref _,_,I.lnew (t':=s.toks) (r.append r2) (by rw[Kb]; omega),rfl,q _ I.fresh]
abbrev Ij:R2:=λx y H Q=>∃l k xs,x=.ref l/\y=.int k/\H l=bt (.lst xs)/\-(2 ^ 63)<=k/\k < 2 ^ 63/\xs.length*k.toNat<=sizeLine/\
 ∀p,H p=gV->Q (.ref p) (ay H p (.lst (KZ k.toNat xs).flatten))
def yR {α:Type}(xs:JS α)(k:J4):(KZ k xs).flatten.length=k*xs.length:=by
 induction k with
 | zero=>simp
 | succ k ih=>rw[L3,MN,Kb,ih,Nat.succ_mul,Nat.add_comm]
def CA:OpR X (binaryOp .Mult) Ij:=by
 intro J s Y H x y v u Q I rx ry h;obtain⟨l,k,xs,rfl,rfl,hH,h1,h2,hz,q⟩:=h;cases rx;obtain⟨t,rfl⟩:=ry;obtain⟨z,its,n,r,hl,e⟩:=I.lstM hH;have hlen:its.toArray.size*k.toNat<=sizeLine:=by rw[Ki,<- hl]; exact hz
 have hcap:¬ its.toArray.size*k.toNat > (2 ^ 63 - 1) / 8:=by
  have:(sizeLine:J4)<=(2 ^ 63 - 1) / 8:=by decide
  omega
 have hfit:¬ (!Ru k)=true:=by
  rw[fitsIndex_both h1 h2];exact Kg
 have hlong:¬ MS (its.toArray.size*k.toNat)=true:=by
  rw[mV hlen];exact Kg
 have hnew:Rt (λx1 x2=>x1++x2) #[] (KZ (if its.toArray.isEmpty=true then 0 else k.toNat) its.toArray)=(KZ k.toNat its).flatten.toArray:=by
  have f0:∀m:J4,Rt (λx1 x2=>x1++x2) #[] (KZ m its.toArray)=(KZ m its).flatten.toArray:=λm=>by
   have:=kK its m [];rw[O1]at this;exact this
  rw[f0];cases its with
  | nil=>simp
  | cons a r'=>rw[Kv (by simp)]
 show wpAny_binaryOp_repeat_ref (T:="list") (U:="int") #v[] #[_,e,rfl] (λs'=>Rs s' k t) noFill_list_mul F.fills_int_mul F.slot_int_rmul repeat_list F.slot_int_index.lookup
  (OS F.slot_int_rmul (Rs s k t) F.entry_int_rmul (F.args_int_rmul_2 _ _) (int___rmul___int_list k t l its.toArray n)
   #[e,rfl,#[_,e,rfl],OS F.slot_list_mul #[_,e,rfl] F.entry_list_mul (F.args_list_mul_2 _ _) (P5 l its.toArray n k t hfit hcap hlong) #[e,?_]])
 rw[hnew];exact#[.ref _,_,I.lnew (t':=s.toks) (r.rep k.toNat) (by rw[yR,Nat.mul_comm]; exact hz),rfl,q _ I.fresh]
end
section
variable{κ:Type} [Nk κ]
abbrev kz (U:JS (κ×V))(k:κ):JX V:=(U.find? λkv=>decide (kv.1=k)).map (·.2)
abbrev lK (U:JS (κ×V))(k:κ)(v:V):JS (κ×V):=
 if (U.any λkv=>decide (kv.1=k))=true then U.map (λkv=>if kv.1=k then(kv.1,v)else kv)else U++[(k,v)]
def je {p:κ×V}{r:JS (κ×V)}{k:κ}(e:p.1=k):kz (p::r) k=bt p.2:=by simp[kz,LC,e]
def jf {p:κ×V}{r:JS (κ×V)}{k:κ}(e:¬ p.1=k):kz (p::r) k=kz r k:=by simp[kz,LC,e]
def jg (k:κ):∀U:JS (κ×V),(U.any λkv=>decide (kv.1=k))=(kz U k).isSome
 | []=>rfl
 | p::r=>by
  rw[LB]
  by_cases e:p.1=k
  ·simp only[je e,Lh e,Sd,PX]
  ·rw[jf e,KC e,NY]; exact jg k r
def putK_new {U:JS (κ×V)}{k:κ}(v:V)(h:kz U k=gV):lK U k v=U++[(k,v)]:=by
 unfold lK;rw[jg,h];exact Kv #v[]
def KV.val {U:JS (κ×V)}{vs:JS (κ×JU)}(r:KV U vs)(k:κ):RelO (kz U k) (valueAt vs k):=by
 unfold KV at r
 induction r with
 | nil=>exact Nq
 | @cons p q ps qs h t ih=>
  obtain⟨h1,h2⟩:=h
  by_cases e:p.1=k
  ·have e':q.1=k:=h1.symm.trans e;have b:valueAt (q::qs) k=bt q.2:=by simp[valueAt,LC,e']
   rw[je e,b]; exact h2
  ·have e':¬ q.1=k:=λz=>e (h1.trans z)
   have b:valueAt (q::qs) k=valueAt qs k:=by simp[valueAt,LC,e']
   rw[jf e,b]; exact ih
def KV.any {U:JS (κ×V)}{vs:JS (κ×JU)}(r:KV U vs)(k:κ):(U.any λkv=>decide (kv.1=k))=vs.any λkv=>decide (kv.1=k):=by
 unfold KV at r
 induction r with
 | nil=>rfl
 | cons h t ih=>rw[LB,LB,ih,h.1]
def KV.repl {U:JS (κ×V)}{vs:JS (κ×JU)}(r:KV U vs)(k:κ){y:V}{u:JU}(ry:RelV y u) :
  KV (U.map λkv=>if kv.1=k then(kv.1,y)else kv) (vs.map λkv=>if kv.1=k then(kv.1,u)else kv):=by
 unfold KV at r ⊢
 induction r with
 | nil=>exact .nil
 | @cons p q ps qs h t ih=>
  rw[K6,K6];show .cons ?_ ih;obtain⟨h1,h2⟩:=h
  by_cases e:p.1=k
  ·rw[Ks e,Ks (h1.symm.trans e)]; exact#[h1,ry]
  ·rw[Kv e,Kv (λz=>e (h1.trans z))]; exact#[h1,h2]
def KV.put {U:JS (κ×V)}{vs:JS (κ×JU)}(r:KV U vs)(k:κ){y:V}{u:JU}(ry:RelV y u):KV (lK U k y) (stored vs k u):=by
 unfold lK stored;rw[r.any k]
 by_cases e:(vs.any λkv=>decide (kv.1=k))=true
 ·rw[Ks e,Ks e]; exact r.repl k ry
 ·rw[Kv e,Kv e]; exact Sy r #[rfl,ry]
end
def A6 {P:Ke}{w:Kr}{k:eQ}{u:JU}(r:RelV (kV k) u):(bI P w).is k u=true:=by
 cases k with
 | inl i=>obtain⟨t,e⟩:=(show ∃t,u=Od i t from r); subst e; exact mL P w i t
 | inr x=>obtain⟨t,e⟩:=(show ∃t,u=Nt x t from r); subst e; exact mM P w x t
section
variable{P:Ke}{w:Kr}{H:Hp}{h:KB}{a:td}
def Fc {u:HO}(ok:HOk P w H h)(e:Rd H a u):ObjOk P w H h a u:=e.ok ok
def A7 {U:JS (eQ×V)}(ok:HOk P w H h)(e:Rd H a (.dK U)):U.length<=sizeLine/\(a==sysModules)=false/\∃vs,KV U vs/\h.DictOf (bI P w) a vs:=
 show ObjOk P w H h a (.dK U)from Fc ok e
def Fd {U:JS (eQ×V)}(ok:HOk P w H h)(e:H a=bt (.dK U)):U.length<=sizeLine/\(a==sysModules)=false/\∃vs,KV U vs/\h.DictOf (bI P w) a vs:=A7 ok (.inl e)
end
section
variable{X:Cx}{J:JS (td×Ll)}{Y:St}{H:Hp}{s:JV}{a:td}{y v:V}{u r:JU}{o:JX V}{A:Kw}{E:JU->JV->Prop}
def Inv.big (I:Inv X J Y H s):sysModules < s.heap.objs.size:=by
 have h:mainGlobals < s.heap.objs.size:=(I.mod.glob.keeps I.bk).lt;exact Nat.lt_trans #v[] h
def lL {h':KB}{t':J4}{ob:HO}(I:Inv X J Y H s)(mu:EJ (H a))(hs:LW a s.heap h')(he:∃q,h'.get? a=bt q)(new:ObjOk X.prog X.w (ay H a ob) h' a ob) :
  Inv X J Y (ay H a ob) { s with heap:=h',toks:=t' }:=
 I.write (x:=a) (e:=a) mu (.inl rfl) (λb q hb z=>(hs.2 b hb).trans z) he new
def CB {P:Ke}{w:Kr}{H':Hp}{h':KB}{U:JS (eQ×V)}{vs:JS (eQ×JU)}(z:U.length<=sizeLine)(hd:(a==sysModules)=false)(rel:KV U vs)(dd:h'.DictOf (bI P w) a vs) :
  ObjOk P w H' h' a (.dK U):=#[z,hd,vs,rel,dd]
end
abbrev Ik (i:Kd):Prop:=∀ov iv,subscripted i false ov iv=operate [ov,iv] (getItem ov iv)
def yS {prog:Ke}{w:Kr}{A:Kw}{E:JU->JV->Prop}{s:JV}{env:Oe}{value slice:Kd}{pos:LG}{T id:Ls}{Q:JU->JV->Prop}
  (hl:typeLookup (.type T) "__getitem__" = pure (bt (.builtin id))) (hs:Ik slice)
  (h:wpAny (model prog w) A (eval value env) (λo s₁=>wpAny (model prog w) A (eval slice env) (λi s₂=>s₂.TypeIs o T/\wpAny (model prog w) A (getItem o i) Q E s₂) E s₁) E s) :
  wpAny (model prog w) A (eval (.Subscript value slice pos) env) Q E s:=by
 show Rr (KO h (λo s₁ h₁=>KO h₁ (λi s₂ h₂=>?_) λ_ _ x=>x) λ_ _ x=>x)
 obtain⟨hT,h₂⟩:=h₂;unfold subscriptTail;show JT ?_;rw[getitemInPython_of_ne hT.not_modules];show JT (O2 hT hl ?_);have fin:wpAny (model prog w) A (subscripted slice false o i) (λr s₃=>wpAny (model prog w) A (letTemporaryGo value o r >>= λ_=>pure r) Q E s₃) E s₂:=by
  rw[hs o i];exact wpAny_operating (KO h₂ (λr s₃ h₃=>JT (wpAny_letTemporaryGo (JZ h₃))) λ_ _ x=>x)
 first
  | exact JZ (JT fin)
  | exact JT (JZ (JT fin))
  | exact JT fin
def uU {P:Ke}{w:Kr}{H:Hp}(h:KB)(hb:sysModules < h.objs.size):ObjOk P w H (h.push { cls:=.type "dict",data:=.dict #[] }) h.objs.size (.dK []):=
 #[Mt _,LH.mpr (Ne.symm (Kj hb)),[],.nil,Tr h]
noncomputable abbrev VV:JS (V×V)->JS (JU×JU)->Prop:=OQ λp q=>RelV p.1 q.1/\RelV p.2 q.2
abbrev lM (U more:JS (eQ×V)):JS (eQ×V):=more.foldl (λacc kv=>lK acc kv.1 kv.2) U
def KV.merge:∀ {more:JS (eQ×V)} {rs:JS (eQ×JU)} {U:JS (eQ×V)} {vs:JS (eQ×JU)},KV more rs->KV U vs->KV (lM U more) (merged vs rs):=by
 intro more rs U vs r;unfold KV at r
 induction r generalizing U vs with
 | nil=>intro q; exact q
 | @cons p q ps qs h t ih=>
  intro r0;have e:KV (lK U p.1 p.2) (stored vs q.1 q.2):=by
   have:=r0.put p.1 h.2;rw[<- h.1]; exact this
  exact ih e
def jh {P:Ke}{w:Kr}:∀ {U:JS (eQ×V)} {ws:JS (JU×JU)},VV (U.map λkv=>(kV kv.1,kv.2)) ws->∃rs,Carries (bI P w) ws rs/\KV U rs
 | [],_,r=>by rw[Qj]at r; cases r; exact#[[],Nq,.nil]
 | p::U,_,r=>by
  rw[K6]at r;cases r with
  | @cons a b as bs h t=>
   obtain⟨rs,c,q⟩:=jh (P:=P) (w:=w) t;obtain⟨b1,b2⟩:=b;exact#[(p.1,b2)::rs,#[A6 h.1,rfl,c],.cons #[rfl,h.2] q]
end L2
namespace Att
open PySem PySem.W PySem.Calls PyProof.Rows
def iC {P:NW}{h:KB}:∀(ns:JS Kk) (vs:JS JU),WellAll P h vs (ns.map WData.int)->Rj vs ns:=by
 intro ns
 induction ns with
 | nil=>
  intro vs w;rw[Qj]at w;cases w;exact .nil
 | cons n ns ih=>
  intro vs w;rw[K6]at w;cases w with
  | cons a b=>
   cases a;exact .cons _ _ (ih _ b)
def sP {l:OpenLaw}{n:J4}(hn:l.most=bt n){P:NW}{h:KB}{args:JS WData}{vals:JS JU}
  (hpre:l.row.toRowW.claim.pre args=true) (hwl:WellAll P h vals args) :
  ∃a vs ns,vals=[Kl a]/\args=[WData.list (ns.map WData.int)]/\h.get? a=bt { cls:=.type "list",data:=.seq vs.toArray }/\Rj vs ns/\ns.length<=n:=by
 have hsh:WShape.hasAll [] args [.list .int]=true:=(pre_splitW hpre).1;have hc:l.pre.holds [] { args:=args }=true:=(pre_splitW hpre).2;obtain⟨d,r,rfl,h1,h2⟩:=hasAllW_cons hsh;obtain rfl:=hasAllW_nil h2;obtain⟨xs,rfl,h3⟩:=hasW_list h1;obtain⟨ns,rfl⟩:=items_int h3;have hlen:ns.length<=n:=by
  unfold OpenLaw.pre at hc;have h4:(WTm.not (.lt (.lit (.int (n:Kk))) (.len (.arg 0)))).holds [] { args:=[.list (ns.map .int)] }=true:=by
   have h4:=(holds_andW hc).1;rw[hn]at h4;exact h4
  have h5:=condW_of h4 (w_not (w_lt w_lit (w_len_list (w_arg rfl))));rw[J6]at h5;show QI λq=>?_
  have q':(n:Kk) < ((ns.length:J4):Kk):=∅
  first
   | (rw[Lh q']at h5; exact absurd h5 #v[])
   | (simp at h5; omega)
 cases hwl with
 | cons w1 w2=>
  cases w2;cases w1 with
  | list ho hall=>exact#[_,_,ns,rfl,rfl,ho,iC ns _ hall,hlen]
def sQ (l:OpenLaw)(args:JS WData):l.row.toRowW.claim.post args (.bool true) args=true:=
 postW_of (r:=l.row.toRowW) (X:=(true==true))
  (show WShape.has [] (.bool true) .bool=true by first|rfl|decide|simp[WShape.has,WShape.arms,WShape.armsAll])
  (show(WTm.eq .res (.lit (.bool true))).value [] { args:=args,res:=bt (.bool true),after:=args }=bt (.bool (true==true))from w_eq_bool (w_res rfl) w_lit) rfl
def attach_call {l:OpenLaw}{n:J4}{q:Ke}{loose:JS J3}{XP:(J3->JX JU)->KB->Prop}{YP:Kr->KB->Prop}{d:DefRec}
  (hn:l.most=bt n) (hdf:d.params.defaults=[])
  (call:∀(w:Kr) (s₀ s₁:JV) (mg mb:J3->JX JU) (fa:td) (o:Ll) (pm cd doc:JU) (a:td) (vs:JS JU) (ns:JS Kk),
   Ground q loose [] XP w s₀ mg mb s₁.heap->YP w s₁.heap->
   s₁.heap.get? fa=bt o->o.data=.func (docDef d.name d.params d.body d.scope pm cd doc)->s₁.heap.CodeRec cd d.name->mg d.name=bt (.ref fa)->
   s₁.heap.get? a=bt { cls:=.type "list",data:=.seq vs.toArray }->Rj vs ns->ns.length<=n->s₁.gens=#[]->
   codeAny (model l.prog w) callerA (.call (.ref fa) #[[.ref a],[]]) (λr s'=>r=.ok (.ret (.bool true))/\OldK s₁.heap s'.heap/\s'.os=s₁.os/\Ob s'.gens) s₁) :
  WalkO q loose XP YP l.row.toRowW d [] (λf vs=>Rv f vs):=by
 intro w s₀ s₁ mg mb G Yj fa o pm cd doc dV kV ho hd hcd hD hmg hg args vals as hpre hlay hrd hwl hlo;obtain rfl:dV=.none:=Dflts.none hD hdf;obtain rfl:kV=.none:=Dflts.noKw hD;obtain⟨a,vs,ns,rfl,rfl,hobj,hints,hlen⟩:=sP hn hpre hwl;show enter_call (Ms (call w s₀ s₁ mg mb fa o pm cd doc a vs ns G Yj ho (fd_plain hd) hcd hmg hobj hints hlen hg) λr s' hq=>?_)
 obtain⟨rfl,h2,h3,h4⟩:=hq;exact#[.inl #[.bool true,.bool true,[],rfl,λ_=>rfl,.bool true,sQ l _,λ_=>#[SY,λ_ hm=>(nomatch hm)]],h2,h3,h4]
end Att
namespace L2
open PySem PySem.Spec PyProof.Rows
def kL:∀ {vs:JS JU} {ns:JS Kk},Rj vs ns->Vals (ns.map V.int) vs
 | _,_,.nil=>.nil
 | _,_,.cons n t h=>.cons #[t,rfl] (kL h)
abbrev uV (H:Hp):Prop:=∀b,H b=gV\/∃o xs,H b=bt (.frz o (.lst xs))
def uW {P:Ke}{w:Kr}{K:J2}{mg mb:J3->JX JU}{CX:o8}{k:J4}{fa a:td}{fd:Lb}{x:J3}{sp:Sp}{s₁:JV}{vs:JS JU}{ns:JS Kk}
  (KX:K.In s₁.heap) (hns:s₁.heap.Ns mainGlobals mg) (hb:s₁.heap.Ns builtinsNs mb) (hbb:∀x:J3,x≠"__name__"->mb x=bootBuiltins x) (hlim:s₁.heap.NoLimit) (hg:s₁.gens=#[])
  (ha:s₁.heap.get? a=bt { cls:=.type "list",data:=.seq vs.toArray }) (hi:Rj vs ns) (hl:ns.length<=sizeLine) (hr:Room k callerA)
  (F:∀base:KB,K.In base->base.Ns mainGlobals mg->FnOk P w K mg base CX k fa fd [x] sp) (hbind:∀(s:JV) (u:JU),Qb s fd #[[u],[]] [(x,u)])
  (hsp:∀H:Hp,uV H->SqL K H a (ns.map V.int)->sp [.ref a] H (λv _=>v=.bl true) λ_ _ _=>KT)
  (hCX:∀H e s',CX [] H s₁ (λ_ _ _=>KT) e s'->KT) :
  codeAny (model P w) callerA (.call (.ref fa) #[[.ref a],[]]) (λr s'=>r=.ok (.ret (.bool true))/\OldK s₁.heap s'.heap/\s'.os=s₁.os/\Ob s'.gens) s₁:=by
 have rv:=kL hi;have lenV:=hi.length;have core:∀H:Hp,uV H->SqL K H a (ns.map V.int)->HOk P w H s₁.heap->(∀b,H b≠gV->b=a)->(H a≠gV->K.lookup a=gV)->
   codeAny (model P w) callerA (.call (.ref fa) #[[.ref a],[]]) (λr s'=>r=.ok (.ret (.bool true))/\OldK s₁.heap s'.heap/\s'.os=s₁.os/\Ob s'.gens) s₁:=by
  intro H hO hS hok hA hK;have base_of:∀ {b:td} {o:Ll},s₁.heap.get? b=bt o->H b=gV->(lA s₁.heap H).get? b=bt o:=λe n=>uy e n
  have noA:∀ {b:td} {o:Ll} {es:KP Lm} {ep:J4},s₁.heap.get? b=bt o->o.data=.dict es ep->H b=gV:=λ{b o es ep} e d=>by
   cases q:H b with
   | none=>rfl
   | some u=>
    have e':b=a:=hA b (by rw[q]; simp)
    subst e';rw[ha]at e; cases e
    have d':Data.seq vs.toArray _=Data.dict es ep:=d;cases d'
  have nsK:∀ {b:td} {m:J3->JX JU},s₁.heap.Ns b m->(lA s₁.heap H).Ns b m:=λ{b m} #[o,es,ep,e,d,r]=>#[o,es,ep,base_of e (noA e d),d,r]
  have hKb:K.In (lA s₁.heap H):=λb o e=>base_of (KX b o e) (by
   cases q:H b with
   | none=>rfl
   | some u=>
    have e':b=a:=hA b (by rw[q]; simp)
    subst e';rw[hK (by rw[q]; simp)]at e; cases e)
  have hM:Mod K mg (lA s₁.heap H):=#[hKb,nsK hns,#[mb,nsK hb,hbb],let ⟨mc,h1,h2⟩:=hlim; #[mc,nsK h1,h2]]
  have e0:Env0 P w K mg (lA s₁.heap H) callerA [] s₁ H:=#[rfl,hM,λb o e=>yt e,Nat.le_of_eq (sB _ _),trivial,λb hb=>absurd (show b∈([]:JS td)from hb) (by simp),hok,.of_eq hg]
  show Ms ((F _ hKb (nsK hns)).run callerA [] s₁ H #[[.ref a],[]] [.ref a] [.ref a] _ _ hr e0 (hbind s₁ (.ref a)) #v[rfl] (hsp H hO hS)) λr s' h=>?_
  cases r with
  | error e=>exact(hCX H e s' h).elim
  | ok fl=>
   cases fl with
   | next=>exact KT.elim h
   | brk=>exact KT.elim h
   | cont=>exact KT.elim h
   | ret u=>
    obtain⟨v,H',os,bare,un,hok',r',q⟩:=h;have q':v=.bl true:=q;subst q';obtain rfl:u=LJ true:=r';show#[rfl,OldK.of_keep λb o e=>?_,os,bare]
    cases q:H b with
    | none=>exact un.keep b o e q (by intro z; exact absurd (show b∈([]:JS td)from z) (by simp)) (by simp)
    | some u=>
     rcases hO b with z|⟨ob,xs,z⟩
     ·rw[q]at z; cases z
     ·have z2:=un.frzs b ob _ z;obtain⟨e1,_⟩:=hok b _ z;obtain⟨e2,_⟩:=hok' b _ z2;rw[e]at e1; cases e1
      exact e2
 cases hk:K.lookup a with
 | some o=>
  have e:=KX a o hk;rw[ha]at e;cases e;show core (λ_=>gV) (λ_=>.inl rfl) (.inr #[_,vs.toArray,_,hk,rfl,rfl,rfl,by rw[Ki,lenV]; exact hl,by simpa using rv]) (λb u z=>by have z':(gV:JX HO)=bt u:=z; cases z') (λb z=>absurd rfl z) λz=>absurd rfl z
 | none=>
  show core (λb=>if b=a then bt (.frz { cls:=.type "list",data:=.seq vs.toArray } (.lst (ns.map V.int)))else gV) (λb=>?_) (.inl (.inr #[{ cls:=.type "list",data:=.seq vs.toArray },Ks rfl])) (λb u z=>?_) (λb z=>?_) λ_=>hk
  ·by_cases hb:b=a
   ·exact .inr #[_,_,Ks hb]
   ·exact .inl (Kv hb)
  ·by_cases hb:b=a
   ·have z':=(Ks hb).symm.trans z;cases z';subst hb;exact#[ha,by rw[J6]; exact hl,vs,_,rv,ha]
   ·have z':=(Kv hb).symm.trans z;cases z'
  ·by_cases hb:b=a
   ·exact hb
   ·exact absurd (Kv hb) z
def yT {l:O3}{n k:J4}{q:Ke}{loose:JS J3}{XP:(J3->JX JU)->KB->Prop}{YP:Kr->KB->Prop}{d:DefRec}{K:NW->J2}{CX:Kr->o8}{sp:Kr->Sp}{x:J3}
  (hn:l.most=bt n) (hn2:n<=sizeLine) (hdf:d.params.defaults=[]) (hr:Room k callerA)
  (hY:∀(w:Kr) (h:KB),YP w h->(K w.params).In h)
  (F:∀(w:Kr) (mg:J3->JX JU) (fa:td) (h:KB),(K w.params).In h->h.Ns mainGlobals mg->mg d.name=bt (.ref fa)->
   ∃fd:Lb,(∀(s:JV) (u:JU),Qb s fd #[[u],[]] [(x,u)])/\
    ∀base:KB,(K w.params).In base->base.Ns mainGlobals mg->FnOk l.prog w (K w.params) mg base (CX w) k fa fd [x] (sp w))
  (hsp:∀(w:Kr) (H:Hp) (a:td) (ns:JS Kk),ns.length<=n->uV H->SqL (K w.params) H a (ns.map V.int)->sp w [.ref a] H (λv _=>v=.bl true) λ_ _ _=>KT)
  (hCX:∀(w:Kr) (H:Hp) (s:JV) (e:JU) (s':JV),CX w [] H s (λ_ _ _=>KT) e s'->KT) :
  RS q loose XP YP l.row.toRowW d [] (λf vs=>Rv f vs):=by
 show Att.attach_call hn hdf λw s₀ s₁ mg mb fa o pm cd doc a vs ns G Yj ho hd hcd hmg hobj hints hlen hg=>?_
 have KX:=hY w _ Yj;obtain⟨fd,hb,hF⟩:=F w mg fa _ KX G.T.g hmg;exact uW KX G.T.g G.T.b G.T.builtins G.T.nolimit hg hobj hints (Kx hlen hn2) hr hF hb (λH hO hS=>hsp w H a ns hlen hO hS) λH e s'=>hCX w H s₁ e s'
abbrev bX (s:Lp):Arguments:=match s with
 | .FunctionDef _ a _ _ _ _ _ _ _ _=>a
 | _=>{ posonlyargs:=[],args:=[],vararg:=gV,kwonlyargs:=[],kw_defaults:=[],kwarg:=gV,defaults:=[] }
abbrev aE (s:Lp):JS Lp:=match s with
 | .FunctionDef _ _ b _ _ _ _ _ _ _=>b
 | _=>[]
abbrev am (s:Lp):MM:=match s with
 | .FunctionDef _ _ _ _ _ _ sc _ _ _=>sc
 | _=>{ kind:=.function,names:=[],isGenerator:=false,isCoroutine:=false }
noncomputable abbrev ji:o8:=λ_ _ _ _ _ _=>KT
noncomputable abbrev E0:XK:=λ_ _ _=>KT
def qM {X:Cx}:fM ji X E0:=λ_ _ _ _ _ _ _ h=>h.elim
structure Fun (K:J2)(x qual:J3)(st:Lp)(f:td)(fd:Lb):Prop where
 ex:∃(oc:JU) (od:JX td) (kV doc pm:JU) (an:JX td) (cdv ct:JU) (osl:KP (JX JU)),
  fd=LX x qual (bX st) (aE st) (am st) .none kV doc pm an cdv ct/\K.lookup f=bt #[oc,od,.func fd,osl]/\M1 K cdv qual=true
 kp:Lc K (.ref f)=true
section
variable{P:Ke}{w:Kr}{K:J2}{mg:J3->JX JU}{base:KB}
def Fun.ok {x qual:J3}{st:Lp}{f:td}{fd:Lb}{N ps:JS J3}{k:J4}{sp:Sp}(F:Fun K x qual st f fd)(S:FnScope N ps (am st))(len:∀vs H Q E,sp vs H Q E->vs.length=ps.length)
  (hbody:∀(cdv:JU) (A:Kw) (outer:JS Oe) (s:JV) (H:Hp) (vs:JS V) (Q:VK) (E:XK),Room k (A.deeper (envOfC qual (am st) s.heap.objs.size f cdv))->sp vs H Q E->
   ∃t,PSs (d6 ji P w K mg base N qual (am st) f cdv A outer s H E).nox (aE st) t/\t { nx:=λ_ H'=>Q .non H',rt:=Q } (d0 N vs) H):FnOk P w K mg base ji (k+1) f fd ps sp:=by
 obtain⟨oc,od,kV,doc,pm,an,cdv,ct,osl,rfl,lk,hcd⟩:=F.ex;show AZ lk hcd S len λA outer s H vs Q E hr hsp=>?_
 obtain⟨t,h,q⟩:=hbody cdv A outer s H vs Q E hr hsp;exact#[t,h.nox,q]
def Fun.binds {x qual:J3}{st:Lp}{f:td}{fd:Lb}{ps:JS J3}(F:Fun K x qual st f fd)
  (h:∀(kV doc pm:JU) (an:JX td) (cdv ct:JU) (us:JS JU),us.length=ps.length->bindArgs (LX x qual (bX st) (aE st) (am st) .none kV doc pm an cdv ct) #[us,[]]=pure (ps.zip us)):Binds K fd ps []:=by
 obtain⟨oc,od,kV,doc,pm,an,cdv,ct,osl,rfl,lk,hcd⟩:=F.ex;exact .all (h kV doc pm an cdv ct)
def pe {x qual:J3}{st:Lp}{f:td}{oc:JU}{od an:JX td}{osl:KP (JX JU)}{kV doc pm cdv ct:JU}(l:K.lookup f=bt #[oc,od,.func (LX x qual (bX st) (aE st) (am st) .none kV doc pm an cdv ct),osl])
  (c:M1 K cdv qual=true) (k:Lc K (.ref f)=true):Fun K x qual st f (LX x qual (bX st) (aE st) (am st) .none kV doc pm an cdv ct):=#[#[oc,od,kV,doc,pm,an,cdv,ct,osl,rfl,l,c],k]
end
section
variable{X:Cx}
def pv (i:J4){x:J3}{pos:LG}(hN:X.N[i]?=bt x:=by rfl)(hv:Hi X.env.scope x)(hd:(x==("__debug__" : J3))=false:=by decide)
  (hcd:(x==("__classdict__" : J3))=false:=by decide):PE X (.Name x pos) (mN i):=fI hN hv hd hcd
end
end L2
open PySem PySem.W PyProof.Rows L2
set_option maxHeartbeats 0
namespace Mi
section
abbrev top (i:J4):Lp:=PySem.Challenge.pw_layworld_k52_things_that_are_no_sentence.main.body.getD i (.Pass #[0,0,0,0])
abbrev pw:Ke:=NQ
abbrev ge (P:NW)(n:J3)(t:J4)(v:JU):Lm:=#[PyData.keyHash P n,.str n t,v]
abbrev kd (a:J4)(es:JS Lm)(n:J4):td×Ll:=(a,#[.type "dict",gV,.dict es.toArray n,#[]])
abbrev kc (a:J4)(vs:JS JU):td×Ll:=(a,#[.type "code",gV,.fields vs.toArray,#[]])
abbrev kf (a:J4)(st:Lp)(n:J3)(pm cd:JU):td×Ll:=(a,#[.type "function",gV,.func (LX n n (bX st) (aE st) (am st) .none .none .none pm gV cd .none),#[]])
abbrev Il (i:J4):JU:=if i<=8 then(.str "layworld.kinds" 330)else if i<=13 then(.str "layworld.rules" 339)else if i<=25 then(.str "layworld.sentences" 361)else(.str "law_layworld_k52_things_that_are_no_sentence" 444)
abbrev kx (a:J4)(b:Kn)(i:J4)(s:J3)(t:J4)(l p:Kk)(m:J4)(R:J2):J2:=kc a [.str s t,.str s (t+1),.str "/claim/cut.py" (t+2),.int l 0,.int p 0,.int 0 0,.int 0 0,.int 3 0,.ref (if b then a - 5 else a - 3),.bool true,.int 181 0,.ref (if b then a - 4 else a - 2),.none,if b then .ref (a - 3)else .none,if b then .ref (a - 2)else .none,.ref (a - 1),.int m 0,.int l 0,.str "/claim/cut.py" (m+1)]::kf (a+1) (top i) s (Il i) (.ref a)::R
abbrev kq (a:J4)(vs:JS JU)(n:J4)(R:J2):J2:=(a,#[.type "tuple",gV,.seq vs.toArray n,#[]])::R
abbrev Ba:JS JU:=[(.str "marks" 345),(.str "ways" 346),(.str "bar" 347),(.str "some" 348),(.str "each" 349),(.str "not" 350),(.str "and" 351),(.str "or" 352),(.str "is" 353)]
abbrev Bb:JS JU:=[(.str "same" 367),(.str "mark" 368),(.str "way" 369)]
abbrev Bc:JS JU:=[(.str "some" 371),(.str "each" 372)]
abbrev kj (a:J4)(es:JS Lm)(n:J4)(R:J2):J2:=kd a es n::R
abbrev Bd (P:NW):JS Lm:=[ge P "same" 374 (.str "xx" 375),ge P "mark" 376 (.str "xm" 377),ge P "way" 378 (.str "xxw" 379),ge P "not" 380 (.str "i" 381),ge P "and" 382 (.str "ii" 383),ge P "or" 384 (.str "ii" 385),ge P "some" 386 (.str "xi" 387),ge P "each" 388 (.str "xi" 389)]
abbrev Im (i:J4):Lp:=match top i with
 | .ClassDef _ _ _ b ..=>b.getD 0 (.Pass #[0,0,0,0])
 | s=>s
abbrev ke (C:J4)(nm:J3)(N:J4)(bs bm sub:JS JU)(k0:J4)(t2 t3:J4):td×Ll:=(C,excClassObj nm nm C N bs bm true [] sub false gV gV (bt (.ref k0)) gV (bt (.str nm t2)) (bt (.str nm t3)) (bt (.bool true)) "ValueError.__new__")
abbrev kg (a:J4)(st:Lp)(q:J3)(pm cd:JU):td×Ll:=(a,#[.type "function",gV,.func (LX "__init__" q (bX st) (aE st) (am st) .none .none .none pm gV cd .none),#[]])
abbrev Jw (P:NW):J2:=[(2,#[.none,gV,.dict #[] 0,#[]]),
 kd 23 [ge P "__module__" 196 (.str "layworld.errors" 187),ge P "__firstlineno__" 200 (.int 2 199),ge P "__static_attributes__" 201 (.ref 22),ge P "__weakref__" 203 (.ref 25),ge P "__doc__" 204 .none] 3,
 ke 24 "LayError" 23 [(.type "ValueError")] [(.type "ValueError"),(.type "Exception"),(.type "BaseException"),(.type "object")] [(.ref 44),(.ref 63),(.ref 82),(.ref 101),(.ref 120)] 15 189 197,
 kd 100 [ge P "__module__" 289 (.str "layworld.errors" 187),ge P "__firstlineno__" 293 (.int 19 292),ge P "__init__" 301 (.ref 98),ge P "__static_attributes__" 303 (.ref 99),ge P "__doc__" 304 .none] 2,
 kc 97 [(.str "__init__" 294),(.str "NoSentence.__init__" 295),(.str "/claim/cut.py" 296),(.int 21 0),(.int 2 0),(.int 0 0),(.int 0 0),(.int 3 0),(.ref 92),(.bool true),(.int 181 0),(.ref 93),.none,(.ref 94),(.ref 95),(.ref 96),(.int 299 0),(.int 21 0),(.str "/claim/cut.py" 300)],
 kg 98 (Im 5) "NoSentence.__init__" (.str "layworld.errors" 187) (.ref 97),
 ke 101 "NoSentence" 100 [(.ref 24)] [(.ref 24),(.type "ValueError"),(.type "Exception"),(.type "BaseException"),(.type "object")] [] 85 282 290,
 ke 82 "BadText" 81 [(.ref 24)] [(.ref 24),(.type "ValueError"),(.type "Exception"),(.type "BaseException"),(.type "object")] [] 66 257 265,
 ke 120 "NoRow" 119 [(.ref 24)] [(.ref 24),(.type "ValueError"),(.type "Exception"),(.type "BaseException"),(.type "object")] [] 104 307 315,
 ke 44 "NoRule" 43 [(.ref 24)] [(.ref 24),(.type "ValueError"),(.type "Exception"),(.type "BaseException"),(.type "object")] [] 28 207 215,
 ke 63 "NoWorld" 62 [(.ref 24)] [(.ref 24),(.type "ValueError"),(.type "Exception"),(.type "BaseException"),(.type "object")] [] 47 232 240]
abbrev K0 (P:NW):J2:=kd 3 [ge P "__name__" 165 (.str "law_layworld_k52_things_that_are_no_sentence" 444),ge P "__doc__" 166 .none,ge P "__package__" 167 .none,ge P "__loader__" 168 (.builtin "__main__.__loader__#opaque"),ge P "__spec__" 169 .none,ge P "__annotations__" 170 (.ref 6),ge P "__builtins__" 171 (.ref 4),ge P "__file__" 173 (.str "/claim/cut.py" 172),ge P "__cached__" 174 .none,ge P "LayError" 206 (.ref 24),ge P "NoRule" 231 (.ref 44),ge P "NoWorld" 256 (.ref 63),ge P "BadText" 281 (.ref 82),ge P "NoSentence" 306 (.ref 101),ge P "NoRow" 329 (.ref 120),ge P "is_whole" 338 (.ref 129),ge P "LETTERS" 342 (.str "abcdefghijklmnopqrstuvwxyz" 341),ge P "LONGEST_NAME" 344 (.int 8 343),ge P "WORDS" 354 (.ref 130),ge P "is_name" 360 (.ref 135),ge P "LONGEST_POINT_NAME" 364 (.int 3 363),ge P "MOST_FREE_NAMES" 366 (.int 3 365),ge P "PLAIN" 370 (.ref 136),ge P "BINDING" 373 (.ref 137),ge P "FORMS" 398 (.ref 138),ge P "look_sentence" 409 (.ref 145),ge P "is_row" 415 (.ref 150),ge P "is_field" 424 (.ref 157),ge P "is_point_name" 431 (.ref 164),ge P "names_of" 437 (.ref 169),ge P "part_rows" 443 (.ref 174),ge P "_law_flow" 452 (.ref 181),ge P "_law_pick" 462 (.ref 188),ge P "_law_letters" 468 (.ref 193),ge P "_law_unlike" 477 (.ref 200),ge P "_law_rule" 483 (.ref 205),ge P "_law_place_names" 489 (.ref 210),ge P "_law_free" 495 (.ref 215),ge P "_law_is_short" 501 (.ref 220),ge P "_law_is_below" 509 (.ref 227),ge P "_law_row_fits" 519 (.ref 234),ge P "_law_first_bad" 529 (.ref 241),ge P "_law_thing" 535 (.ref 246),ge P "_law_near_row" 547 (.ref 253),ge P "_law_near_sentence" 556 (.ref 260),ge P "_law_answer" 568 (.ref 267),ge P "_law_right" 578 (.ref 274),ge P "law" 584 (.ref 279)] 48::(kx 128 true 8 "is_whole" 332 29 1 336
 (kq 130 Ba 0
 (kx 134 false 13 "is_name" 355 35 1 358
 (kq 136 Bb 0
 (kq 137 Bc 0
 (kj 138 (Bd P) 8
 (kx 144 true 20 "look_sentence" 399 45 2 407
 (kx 149 false 21 "is_row" 410 56 3 413
 (kx 156 true 22 "is_field" 416 66 3 422
 (kx 163 true 23 "is_point_name" 425 70 1 429
 (kx 168 false 24 "names_of" 432 72 2 435
 (kx 173 false 25 "part_rows" 438 82 1 441
 (kx 180 true 27 "_law_flow" 446 85 1 450
 (kx 187 true 28 "_law_pick" 453 87 2 460
 (kx 192 false 29 "_law_letters" 463 102 2 466
 (kx 199 true 30 "_law_unlike" 469 104 2 475
 (kx 204 false 31 "_law_rule" 478 110 1 481
 (kx 209 false 32 "_law_place_names" 484 122 3 487
 (kx 214 false 33 "_law_free" 490 131 2 493
 (kx 219 false 34 "_law_is_short" 496 141 1 499
 (kx 226 true 35 "_law_is_below" 502 145 2 507
 (kx 233 true 36 "_law_row_fits" 510 147 3 517
 (kx 240 true 37 "_law_first_bad" 520 164 2 527
 (kx 245 false 38 "_law_thing" 530 175 2 533
 (kx 252 true 39 "_law_near_row" 536 187 2 545
 (kx 259 true 40 "_law_near_sentence" 548 201 1 554
 (kx 266 true 41 "_law_answer" 557 210 2 566
 (kx 273 true 42 "_law_right" 569 221 2 576
 (kx 278 false 43 "law" 579 227 1 582 (Jw P))))))))))))))))))))))))))))))
abbrev Jh:JS J4:=[3,128,129,130,134,135,136,137,138,144,145,149,150,156,157,163,164,168,169,173,174,180,181,187,188,192,193,199,200,204,205,209,210,214,215,219,220,226,227,233,234,240,241,245,246,252,253,259,260,266,267,273,274,278,279,2,23,24,100,97,98,101,82,120,44,63]
abbrev vq:Ke:={ pw with main:={ pw.main with body:=[top 43] } }
abbrev lo:JS J3:=[("LayError" : J3),("NoRule" : J3),("NoWorld" : J3),("BadText" : J3),("NoSentence" : J3),("NoRow" : J3),("is_whole" : J3),("LETTERS" : J3),("LONGEST_NAME" : J3),("WORDS" : J3),("is_name" : J3),("LONGEST_POINT_NAME" : J3),("MOST_FREE_NAMES" : J3),("PLAIN" : J3),("BINDING" : J3),("FORMS" : J3),("look_sentence" : J3),("is_row" : J3),("is_field" : J3),("is_point_name" : J3),("names_of" : J3),("part_rows" : J3),("_law_flow" : J3),("_law_pick" : J3),("_law_letters" : J3),("_law_unlike" : J3),("_law_rule" : J3),("_law_place_names" : J3),("_law_free" : J3),("_law_is_short" : J3),("_law_is_below" : J3),("_law_row_fits" : J3),("_law_first_bad" : J3),("_law_thing" : J3),("_law_near_row" : J3),("_law_near_sentence" : J3),("_law_answer" : J3),("_law_right" : J3)]
def eK:∀P,Jh=(K0 P).map (·.1):=λ_=>by kernel_rfl
abbrev hk:PySem.W.Hook:=PySem.W.kHook K0 Jh eK
def hl:PySem.W.LeftO pw vq lo (λs=>Se vq [] s&&RV [] s) hk.obs hk.val 4904:=Sf "special-get-raises" (λw=>by kernel_rfl)
def s0:PySem.Challenge.rw_layworld_k52_things_that_are_no_sentence.row.wellSaid=true:=by kernel_rfl
end
end Mi
namespace Xc
open PySem
inductive Fly (h:KB)(e:td)(cls:JU)(dd:JX td)(a0 fl:JU):Prop
 | new {vs:KP JU} {sl:KP (JX JU)}:h.get? e=bt #[cls,dd,.fields vs,sl]->vs[0]?=bt a0->vs[1]?=bt .none->Fly h e cls dd a0 fl
 | on {vs ts:KP JU} {sl:KP (JX JU)} {T:td} {oT:Ll}:h.get? e=bt #[cls,dd,.fields vs,sl]->vs[0]?=bt a0->vs[1]?=bt (.ref T)->e < T->h.get? T=bt oT->oT.data=.fields ts->ts[3]?=bt fl->Fly h e cls dd a0 fl
structure Mv (fr:JS td)(e:td)(h h':KB):Prop where
 keep:∀b o,h.get? b=bt o->b∉fr->b≠e->(e < b->∀vs,o.data≠.fields vs)->h'.get? b=bt o
 fram:∀b o,h.get? b=bt o->b∈fr->(∀vs,o.data≠.fields vs)->∃sl,h'.get? b=bt { o with slots:=sl }
 size:h.objs.size<=h'.objs.size
def Mv.refl {fr:JS td}{e:td}{h:KB}:Mv fr e h h:=#[λ_ _ q _ _ _=>q,λ_ o q _ _=>#[o.slots,q],J9 _]
def Mv.trans {fr:JS td}{e:td}{h h' h2:KB}(x:Mv fr e h h')(y:Mv fr e h' h2):Mv fr e h h2:=
 #[λb o q n1 n2 n3=>y.keep b o (x.keep b o q n1 n2 n3) n1 n2 n3,λb o q m n=>let ⟨_,q1⟩:=x.fram b o q m n; let ⟨sl,q2⟩:=y.fram b _ q1 m n; #[sl,q2],Kx x.size y.size]
def Mv.funs {fr:JS td}{e:td}{h h' base:KB}{l:JS Oe}(x:Mv fr e h h')(f:h.FunFrames base l)(he:∃o vs,h.get? e=bt o/\o.data=.fields vs):h'.FunFrames base l:=
 f.of_keeps λb o hb hn=>by
  by_cases m:b∈fr
  ·obtain⟨sl,q⟩:=x.fram b o hb m hn;exact#[_,q,rfl]
  ·show#[o,x.keep b o hb m (λz=>?_) λ_=>hn,rfl]
   obtain⟨oe,vs,q1,q2⟩:=he;rw[z,q1]at hb;cases hb;exact hn vs q2
section
variable{Mqa:OC}{A:Kw}{E:JU->JV->Prop}{s:JV}{base:KB}{env:Oe}{outer:JS Oe}{L e:td}{cls a0 fl:JU}{dd:JX td}{Q:Q5->JV->Prop}
def qN {vs:KP JU}{sl:KP (JX JU)}{hadNext:Kn}{head:JU}(hfr:A.frames=bt (env::outer))(hl:s.heap.FunFrames base (env::outer))(hf:env.frame=bt L)
  (he:s.heap.get? e=bt #[cls,dd,.fields vs,sl]) (h0:vs[0]?=bt a0) (h1:1 < vs.size)
  (k:∀h',Mv ((env::outer).filterMap (·.frame)) e s.heap h'->Fly h' e cls dd a0 (rawInt L)->(∃o vs T,h'.get? e=bt o/\o.data=.fields vs/\vs[1]?=bt (.ref T))->Q () { s with heap:=h' }) :
  wpAny Mqa A (do let a <- frameOf env; let pl <- entryPlaceOf L hadNext; let b <- Pt head a .none (rawInt L) .none pl; setField (.ref e) 1 b) Q E s:=by
 have ne:e∉(env::outer).filterMap (·.frame):=λhm=>by
  obtain⟨_,o,ho,hnf⟩:=hl.mem hm;rw[he]at ho;cases ho;exact hnf vs rfl
 show JT (wpAny_frameOf_fun hfr hl hf λh1' hs=>?_)
 show JT (wpAny_entryPlaceOf λpl hpl=>?_)
 unfold Pt newFields;show JT (KI ?_ (hpl.sizeOk5 _ _ _ _ _));generalize hts:([head,.ref L,.none,rawInt L,.none]++(if pl.isEmpty then KZ 6 K1 else pl)).toArray=ts
 have t3:ts[3]?=bt (rawInt L):=by rw[<- hts]; simp
 have he1:h1'.get? e=bt #[cls,dd,.fields vs,sl]:=(hs.2.1 e ne).trans he;have lt:e < h1'.objs.size:=J8 he1;have he2:=JW (h:=h1') { cls:=.type "traceback",dict:=gV,data:=.fields ts } he1;have hT:=J7 h1' (o:={ cls:=.type "traceback",dict:=gV,data:=.fields ts }) rfl;have he3:=Ld (Mg (·.setIfInBounds 1 (Kl h1'.objs.size))) he2 rfl
 show M2 he2 rfl h1 (k _ #[λb o q n1 n2 n3=>?_,λb o q m n=>?_,?_] ?_ ?_)
 ·rw[KN _ _ (Ne.symm n2)];exact JW _ ((hs.2.1 b n1).trans q)
 ·obtain⟨sl,q2⟩:=hs.2.2 b o q;show#[sl,?_];rw[KN _ _ (λz:e=b=>ne (z ▸ m))]
  exact JW _ q2
 ·simp[hs.1]
 ·show .on (T:=h1'.objs.size) (oT:={ cls:=.type "traceback",dict:=gV,data:=.fields ts }) he3 (by rw[NP #v[]]; exact h0) (by simp[h1]) lt ?_ rfl t3
  rw[KN _ _ (Kj lt)];exact hT
 ·exact#[_,_,h1'.objs.size,he3,rfl,by simp[h1]]
def uX (hfr:A.frames=bt (env::outer))(hl:s.heap.FunFrames base (env::outer))(hf:env.frame=bt L)(x:Fly s.heap e cls dd a0 .none)
  (k:∀h',Mv ((env::outer).filterMap (·.frame)) e s.heap h'->Fly h' e cls dd a0 (rawInt L)->(∃o vs T,h'.get? e=bt o/\o.data=.fields vs/\vs[1]?=bt (.ref T))->Q () { s with heap:=h' }) :
  wpAny Mqa A (noteFrame (.ref e) env) Q E s:=by
 unfold noteFrame;simp only[hf];cases x with
 | new he h0 h1=>
  show JT (K9 he rfl h1 ?_);rw[Kv #v[]]
  exact qN hfr hl hf he h0 (Ln.mp h1).1 k
 | @on vs ts sl T oT he h0 h1 lt hT hd h3=>
  show JT (K9 he rfl h1 ?_);rw[Ks (show(Kl T != K1)=true from by simp)]
  show JT (K9 hT hd h3 ?_);rw[Kv (show ¬ ((K1==rawInt L)=true)from by simp[rawInt])]
  show JT (M2 hT hd (Ln.mp h3).1 ?_);have other:∀b,b≠T->(s.heap.update T (Mg (·.setIfInBounds 3 K1))).get? b=s.heap.get? b:=λb hb=>KN _ _ (Ne.symm hb)
  have mv:Mv ((env::outer).filterMap (·.frame)) e s.heap (s.heap.update T (Mg (·.setIfInBounds 3 K1))):=by
   show#[λb o q n1 n2 n3=>(other b λz=>?_).trans q,λb o q m n=>#[o.slots,(other b λz=>?_).trans q],by simp]
   ·rw[z,hT]at q;cases q;exact n3 (z ▸ lt) _ hd
   ·rw[z,hT]at q;cases q;exact n _ hd
  exact qN hfr (mv.funs hl #[_,_,he,rfl]) hf ((other e (Kj lt)).trans he) h0 (Ln.mp h1).1 λh' m2 f2 r2=>k h' (mv.trans m2) f2 r2
def jj {f:JX td}(fr:JS td)(x:Fly s.heap e cls dd a0 fl)(k:∀h',Mv fr e s.heap h'->Fly h' e cls dd a0 (f.elim K1 λf=>rawInt f)->Q () { s with heap:=h' }):wpAny Mqa A (setFlight (.ref e) f) Q E s:=by
 unfold setFlight;cases x with
 | new he h0 h1=>
  show JT (K9 he rfl h1 ?_);rw[Kv #v[]]
  exact JZ (k _ .refl (.new he h0 h1))
 | @on vs ts sl T oT he h0 h1 lt hT hd h3=>
  show JT (K9 he rfl h1 ?_);rw[Ks (show(Kl T != K1)=true from by simp)]
  have h3':=(Ln.mp h3).1;have other:∀b,b≠T->(s.heap.update T (Mg (·.setIfInBounds 3 (f.elim K1 λf=>rawInt f)))).get? b=s.heap.get? b:=λb hb=>KN _ _ (Ne.symm hb)
  show M2 hT hd h3' (k _ #[λb o q n1 n2 n3=>(other b λz=>?_).trans q,λb o q m n=>#[o.slots,(other b λz=>?_).trans q],by simp] ?_)
  ·rw[z,hT]at q;cases q;exact n3 (z ▸ lt) _ hd
  ·rw[z,hT]at q;cases q;exact n _ hd
  ·exact .on ((other e (Kj lt)).trans he) h0 h1 lt (Ld _ hT (NR (My hd _))) (My hd _) (by simp[h3'])
def yU (hfr:A.frames=bt (env::outer))(hl:s.heap.FunFrames base (env::outer))(hf:env.frame=bt L)(x:Fly s.heap e cls dd a0 .none)
  (k:∀h',Mv ((env::outer).filterMap (·.frame)) e s.heap h'->Fly h' e cls dd a0 .none->Q () { s with heap:=h' }):wpAny Mqa A (leaving env (.ref e)) Q E s:=by
 unfold leaving;show JT (uX hfr hl hf x λh1 m1 f1 _=>?_)
 exact jj _ f1 λh2 m2 f2=>k h2 (m1.trans m2) f2
end
end Xc
namespace Xc
open PySem PySem.Spec PySem.W
section
variable{prog:Ke}{w:Kr}{A:Kw}{E:JU->JV->Prop}{h:KB}{g:KP Of}{d:Sq}{t:J4}{os:OsState}
variable{nm q:J3}{C N f:td}{bs bm bmB:JS JU}{hdct:Kn}{sn:JS J3}{sub:JS JU}{ab:Kn}{col:JX Kn}{dd:JX td}{k0 k1 k2 k3 k5:JX JU}{B newId initId:Ls}
noncomputable abbrev gX (C t:td):Ll:={ cls:=.ref C,data:=.fields [.ref t,.none,.none,.none,.bool false,.none].toArray }
noncomputable abbrev fA (au:JS JU):Ll:={ cls:=.type "tuple",data:=.seq au.toArray }
abbrev Be (e:td)(Q:JU->JV->Prop)(E:JU->JV->Prop)(r:Pb)(s':JV):Prop:=match r with
 | .ok (.ret v)=>v=.none/\Q (.ref e) s'
 | .ok _=>KT
 | .error x=>E x s'
def kA (F:Qk B newId initId bmB)(T:SZ h bmB bm){au:JS JU}{Q:Fin->JV->Prop}
  (hC:h.get? C=bt (excClassObj nm q C N bs bm hdct sn sub ab col dd k0 k1 k2 k3 k5 newId)) (hi:Looks (model prog w) h (typeLookup (.ref C) "__init__") (bt (.ref f))) (hb:∀self,Looks (model prog w) h (bindSpecial (.ref f) self) (.ref f,[self]))
  (hq:codeAny (model prog w) (A) (.call (.ref f) #[.ref (h.objs.size+1)::au,[]]) (Be (h.objs.size+1) (λv s=>Q (.done (.ret v)) s) E) #[(h.push (fA au)).push (gX C h.objs.size),g,d,t,os]) (hrest:au.length<=sizeLine:=by size_fits) :
  wpAny (model prog w) A (Mm.«type.__call__» #[.ref C::au,[]]) Q E #[h,g,d,t,os]:=by
 repeat (first|with_reducible show Ni hC ?_|with_reducible show wpAny_madeBy_exc hC ?_|wp_step)
 show codeAny_call_builtin_code (On _ F.quiet) (wpAny_check_new_subT F T hC ?_);show codeAny_exc_new_subT F T hC ?_ hrest;change wpAny _ _ _ _ _ _;have k:∀b o,h.get? b=bt o->((h.push (fA au)).push (gX C h.objs.size)).get? b=bt o:=λb o e=>JW _ (JW _ e)
 have hC1:=k _ _ hC;have hget:((h.push (fA au)).push (gX C h.objs.size)).get? (h.objs.size+1)=bt (gX C h.objs.size):=by heap_get
 have hcC:(Kl C::bm).contains (.ref C)=true:=by simp
 have T1:=T.keeps k;unfold isInstance
 repeat (first|with_reducible show Ni hget ?_|(with_reducible show Pu hC1 ?_; rw[hcC])|wp_step)
 change wpAny _ _ (typeLookup (.ref C) _) _ _ _;show hi _ _ _ _ k ?_;show K5 (JT (hb (.ref (h.objs.size+1)) _ _ _ _ k ?_));show JT (No ?_);show Ms hq λr s' z=>?_
 rcases r with e|(_|_|_|v)
 ·exact z
 ·exact z.elim
 ·exact z.elim
 ·exact z.elim
 ·obtain⟨rfl,z⟩:=z;exact JZ (JZ z)
def uY (F:Qk B newId initId bmB)(T:SZ h bmB bm){au:JS JU}{Q:JU->JV->Prop}
  (hC:h.get? C=bt (excClassObj nm q C N bs bm hdct sn sub ab col dd k0 k1 k2 k3 k5 newId)) (hi:Looks (model prog w) h (typeLookup (.ref C) "__init__") (bt (.ref f))) (hb:∀self,Looks (model prog w) h (bindSpecial (.ref f) self) (.ref f,[self]))
  (hq:codeAny (model prog w) (A.under (.builtin "type.__call__" #[.ref C::au,[]])) (.call (.ref f) #[.ref (h.objs.size+1)::au,[]]) (Be (h.objs.size+1) Q E) #[(h.push (fA au)).push (gX C h.objs.size),g,d,t,os]) (hrest:au.length<=sizeLine:=by size_fits) :
  wpAny (model prog w) A (call (.ref C) au) Q E #[h,g,d,t,os]:=by
 have f1:=tc_lookup;have f2:=tc_bind (.ref C);have hT:(#[h,g,d,t,os] : JV).TypeIs (.ref C) "type":=#[_,hC,rfl];show No (N3 ?_);change wpAny _ _ (callAny (.ref C) _) _ _ _
 repeat (any_goals (first|assumption|with_reducible show Ni hC ?_|wp_step))
 show#[rfl,?_];exact codeAny_call_builtin_at (On _ (by decide +kernel)) entry_typeCall (wpAny_check_type_call_sub hC (kA (hrest:=hrest) F T hC hi hb hq))
end
end Xc
namespace Xc
open PySem PySem.Spec PySem.W PySem.Builtin.ObjectAttr
abbrev cO:JS JU->Kn
 | .ref _::r=>cO r
 | l=>l==[.type "ValueError",.type "Exception",.type "BaseException",.type "object"]
def mW (self:JU):refuseLoop self "__setattr__" [.type "ValueError",.type "Exception",.type "BaseException",.type "object"]=pure ():=by kernel_rfl
def jk (self:JU):∀ {l:JS JU},cO l=true->refuseLoop self "__setattr__" l=pure ()
 | .ref c::r,e=>by rw[refuseLoop_ref]; exact jk self (l:=r) e
 | [],e=>by cases e
 | .type n::r,e=>by
  have:(Mp n::r)=[.type "ValueError",.type "Exception",.type "BaseException",.type "object"]:=Ma.mp e;rw[this]; exact mW self
 | .none::r,e|.bool _::r,e|.int _ _::r,e|.str _ _::r,e|.builtin _::r,e|.float _ _::r,e=>by cases e
def bS:∀ {l:JS JU},cO l=true->l.contains (.type "object")=true/\l.isEmpty=false
 | .ref c::r,e=>#[by rw[Oo,(bS (l:=r) e).1,OT],rfl]
 | [],e=>by cases e
 | .type n::r,e=>by
  have:(Mp n::r)=[.type "ValueError",.type "Exception",.type "BaseException",.type "object"]:=Ma.mp e;rw[this]; exact#[by decide +kernel,rfl]
 | .none::r,e|.bool _::r,e|.int _ _::r,e|.str _ _::r,e|.builtin _::r,e|.float _ _::r,e=>by cases e
section
variable{prog:Ke}{w:Kr}{A:Kw}{K:Frag}{C x:td}{s:JV}{R:Pb->JV->Prop}
def Fe {ox:Ll}{od:JX Ll}{name:J3}{tk:R4}{v:JU}{cd:LM}(X:K.In s.heap)(I:InstAt s.heap x ox C od)(hc:clsIn K C=bt cd)(hm:cO cd.mro=true)(hf:findIn K (.ref C) name=bt gV)
  (h:wpAny (model prog w) A.in1 (storeInOwnDict (.ref x) (.ref C) (.str name tk) name v false) (λfin s'=>match fin with|.done f=>R (.ok f) s'|.again c'=>c'.quiet=true/\codeAny (model prog w) A c' R s') (λe s'=>R (.error e) s') s) :
  codeAny (model prog w) A (.call (.builtin "object.__setattr__") #[[.ref x,.str name tk,v],[]]) R s:=by
 have SF:=PySem.F.store_object;obtain⟨ho,ne⟩:=bS hm;have sub:Looks (model prog w) s.heap (isInstance (.ref x) (.type "object")) true:=I.type.andThen (looks_mroIn X (by unfold mroIn; rw[hc,Mu,Kv (by rw[ne]; decide),ho]))
 show MO SF.slot.plain SF.entry (@check_slot (model prog w) _ _ s "object.__setattr__" "object" "__setattr__" (.ref x) [.str name tk,v] [] _ SF.kind SF.split sub (SF.args (.ref x) (.str name tk) v) ?_);have hl:Looks (model prog w) s.heap (mroOf (.ref C)) cd.mro:=(looks_clsIn X hc).andThen .now;rw[osa_eq,refuse_eq];show JT (JT (I.type.here (JT (hl.here ?_))));rw[jk _ hm];exact JZ (JT (I.type.here (JT ((looks_findIn X hf).here (JT (Looks.here (r:=gV) .now h))))))
def uZ {E:JU->JV->Prop}{Q:Q5->JV->Prop}{vs:KP JU}{sl:KP (JX JU)}{name:J3}{v:JU}{cd:LM}(X:K.In s.heap)(hx:s.heap.get? x=bt #[.ref C,gV,.fields vs,sl])
  (hs:findIn K (.ref C) "__setattr__" = bt (bt (.builtin "object.__setattr__"))) (hc:clsIn K C=bt cd) (hm:cO cd.mro=true) (hd:cd.hasDict=true) (hf:findIn K (.ref C) name=bt gV)
  (k:∀h' tk,h'.get? x=bt #[.ref C,bt s.heap.objs.size,.fields vs,sl]->h'.Ns1 s.heap.objs.size (λy=>if y=name then bt v else gV)->(∀b o,b≠x->s.heap.get? b=bt o->h'.get? b=bt o)->h'.objs.size=s.heap.objs.size+1->
   Q () { s with heap:=h',toks:=tk }):wpAny (model prog w) A (setAttr (.ref x) name v) Q E s:=by
 have I:InstAt s.heap x #[.ref C,gV,.fields vs,sl] C gV:=#[hx,rfl,rfl,trivial];show set_plain X I hs (Fe (s:={ s with toks:=s.toks+1 }) X I hc hm hf ?_)
 unfold storeInOwnDict ownDictForStores instanceDict;show JT (JZ (JT (JT (Pc hx (JT (Looks.here (s:={ s with toks:=s.toks+1 }) (looks_clsIn X hc) ?_))))))
 rw[hd];have hx1:(s.heap.push { cls:=.type "dict",data:=.dict #[] }).get? x=bt #[.ref C,gV,.fields vs,sl]:=JW _ hx;have hxs:x≠s.heap.objs.size:=Kj (J8 hx);show JT (wpAny_alloc' ?_);show JT (wpAny_update' hx1 ?_);show JZ (a:=bt s.heap.objs.size) ?_;have hgd:((s.heap.push { cls:=.type "dict",data:=.dict #[] }).update x λo=>{ cls:=o.cls,dict:=bt s.heap.objs.size,data:=o.data,slots:=o.slots }).get? s.heap.objs.size=bt { cls:=.type "dict",data:=.dict #[] }:=
  (Pv _ _ _ _ hxs.symm).trans (Ql rfl rfl)
 have hnd:((s.heap.push { cls:=.type "dict",data:=.dict #[] }).update x λo=>{ cls:=o.cls,dict:=bt s.heap.objs.size,data:=o.data,slots:=o.slots }).Ns s.heap.objs.size (λ_=>gV):=
  #[_,#[],_,hgd,rfl,λe he=>absurd he (by simp),λ_=>rfl]
 change wpAny _ _ (storeInDict s.heap.objs.size (.str name _) name v) _ _ _;unfold storeInDict newKeyGuard;show JT (JZ (JT (Sg (Ta hnd) λh' hn' hs'=>?_)))
 obtain⟨oD,esD,epD,hoD,hdD,hcD⟩:=hn'.count (Sz name v Within.nil);show JT (QJ hoD (by rw[hdD]; exact QK (Kx hcD (by rw[KJ,MJ,Lf]; omega))) ?_)
 show JZ (k h' _ ?_ hn' (λb o hb q=>?_) ?_)
 ·exact(hs'.2 x hxs).trans (Ld _ hx1 rfl)
 ·exact(hs'.2 b (Kj (J8 q))).trans ((Pv _ _ _ _ hb).trans (JW _ q))
 ·rw[hs'.1]; simp
def sR {E:JU->JV->Prop}{Q:Q5->JV->Prop}{vs:KP JU}{sl:KP (JX JU)}{name:J3}{v:JU}{cd:LM}{dx:td}{mA:J3->JX JU}{ns:JS J3}(X:K.In s.heap)(hx:s.heap.get? x=bt #[.ref C,bt dx,.fields vs,sl])
  (hA:s.heap.Ns1 dx mA) (hw:Within mA ns) (hsz:ns.length<=100) (hne:dx≠x)
  (hs:findIn K (.ref C) "__setattr__" = bt (bt (.builtin "object.__setattr__"))) (hc:clsIn K C=bt cd) (hm:cO cd.mro=true) (hd:cd.hasDict=true) (hf:findIn K (.ref C) name=bt gV)
  (k:∀h' tk,h'.Ns1 dx (λy=>if y=name then bt v else mA y)->(∀b,b≠dx->h'.get? b=s.heap.get? b)->h'.objs.size=s.heap.objs.size->
   Q () { s with heap:=h',toks:=tk }):wpAny (model prog w) A (setAttr (.ref x) name v) Q E s:=by
 obtain⟨oA,esA,epA,hoA,rA⟩:=id hA;have I:InstAt s.heap x #[.ref C,bt dx,.fields vs,sl] C (bt oA):=#[hx,rfl,rfl,hoA];show set_plain X I hs (Fe (s:={ s with toks:=s.toks+1 }) X I hc hm hf ?_)
 unfold storeInOwnDict ownDictForStores instanceDict;show JT (JZ (JT (JT (Pc hx (JT (Looks.here (s:={ s with toks:=s.toks+1 }) (looks_clsIn X hc) ?_))))))
 rw[hd];show JZ (a:=bt dx) ?_;change wpAny _ _ (storeInDict dx (.str name _) name v) _ _ _;unfold storeInDict newKeyGuard;show JT (JZ (JT (Sg (s:={ s with toks:=s.toks+1 }) hA λh' hn' hs'=>?_)))
 obtain⟨oD,esD,epD,hoD,hdD,hcD⟩:=hn'.count (Sz name v hw);show JT (QJ hoD (by rw[hdD]; exact QK (Kx hcD (by rw[KJ,Lf]; omega))) ?_)
 exact JZ (k h' _ hn' (λb hb=>hs'.2 b hb) hs'.1)
def qO (self:JU):bindSpecial (.builtin "BaseException.__getattribute__") self=pure (.builtin "BaseException.__getattribute__",[self]):=PySem.F.attr_ValueError.ga.bind self
def ee:∀ {l:JS JU},cO l=true->l.contains (.type "BaseException")=true
 | .ref c::r,e=>by rw[Oo,ee (l:=r) e,OT]
 | [],e=>by cases e
 | .type n::r,e=>by
  have:(Mp n::r)=[.type "ValueError",.type "Exception",.type "BaseException",.type "object"]:=Ma.mp e;rw[this]; decide +kernel
 | .none::r,e|.bool _::r,e|.int _ _::r,e|.str _ _::r,e|.builtin _::r,e|.float _ _::r,e=>by cases e
def Io {E:JU->JV->Prop}{Q:JU->JV->Prop}{vs:KP JU}{sl:KP (JX JU)}{name:J3}{v:JU}{cd:LM}{dx:td}{mA:J3->JX JU}{expr:Kn}(X:K.In s.heap)(hx:s.heap.get? x=bt #[.ref C,bt dx,.fields vs,sl])
  (hA:s.heap.Ns1 dx mA) (hg:findIn K (.ref C) "__getattribute__" = bt (bt (.builtin "BaseException.__getattribute__"))) (hh:findIn K (.ref C) "__getattr__" = bt gV)
  (hc:clsIn K C=bt cd) (hm:cO cd.mro=true) (hd:cd.hasDict=true) (hf:findIn K (.ref C) name=bt gV) (hv:mA name=bt v) (hv':handedIn v=true)
  (k:Q v { s with toks:=s.toks+1 }):wpAny (model prog w) A (getAttr (.ref x) name expr) Q E s:=by
 obtain⟨oA,hoA,hlo⟩:=L2.sJ hA;have I:InstAt s.heap x #[.ref C,bt dx,.fields vs,sl] C (bt oA):=#[hx,rfl,rfl,hoA];have I':InstAt ({ s with toks:=s.toks+1 }:JV).heap x #[.ref C,bt dx,.fields vs,sl] C (bt oA):=I
 have hl:Looks (model prog w) s.heap (mroOf (.ref C)) cd.mro:=(looks_clsIn X hc).andThen .now;have ne:=(bS hm).2;have sub:Looks (model prog w) s.heap (isInstance (.ref x) (.type "BaseException")) true:=I.type.andThen (looks_mroIn X (by unfold mroIn; rw[hc,Mu,Kv (by rw[ne]; decide),ee hm]))
 have hk:builtinKind "BaseException.__getattribute__" = bt .slot:=by decide +kernel
 have hsp:splitId "BaseException.__getattribute__" = bt ("BaseException","__getattribute__"):=by decide +kernel
 unfold getAttr getAttrBy;show JT (Sh (K5 (JT (I'.type.here (JT (Looks.here (s:={ s with toks:=s.toks+1 }) (looks_findIn X hg) ?_))))))
 have hx2:(onTheHeap (Kl C)&&Mh "BaseException.__getattribute__" == Mh "object.__getattribute__")=false:=by
  rw[show(Mh "BaseException.__getattribute__" == Mh "object.__getattribute__")=false from by decide +kernel,NL]
 dsimp only;rw[hx2];change wpAny _ _ (getAttrByItsOwn _ _ _ _ _ _) _ _ _;unfold getAttrByItsOwn hookBefore;show JT (Looks.here (s:={ s with toks:=s.toks+1 }) (looks_findIn X hh) ?_)
 have hx3:(expr&&onTheHeap (Mh "BaseException.__getattribute__"))=false:=by cases expr <;> rfl
 unfold callGetattribute boundAndCalled;rw[hx3,qO];show JT (Mj (K5 (JT (JZ (No ?_)))));show MO PySem.F.attr_ValueError.ga.plain F.entry_bexc_ga (@check_slot (model prog w) _ _ { s with toks:=s.toks+1 } "BaseException.__getattribute__" "BaseException" "__getattribute__" (.ref x) [.str name s.toks] [] _ hk hsp sub (F.args_bexc_ga (.ref x) (.str name s.toks)) ?_)
 have hlk:lookIn name oA=bt (bt v):=by rw[hlo,hv]
 have L1:Looks (model prog w) s.heap _ _:=looks_find X I (findObj_own (by unfold hasDictIn; rw[hc]; exact hd) hf rfl hlk)
 have L0:Looks (model prog w) s.heap _ _:=I.type;show JT (JZ (JT (JZ (JT (L0.here (s:={ s with toks:=s.toks+1 }) (JT (L1.here (s:={ s with toks:=s.toks+1 }) ?_)))))))
 show JZ ?_;change wpAny _ _ (handedOut v) _ _ _;rw[handedOut_of hv']; exact JZ k
end
section
variable{prog:Ke}{w:Kr}{A:Kw}{E:JU->JV->Prop}{h:KB}{g:KP Of}{d:Sq}{t:J4}{os:OsState}
variable{nm q:J3}{C N e:td}{bs bm bmB:JS JU}{hdct:Kn}{sn:JS J3}{sub:JS JU}{ab:Kn}{col:JX Kn}{dd dx:JX td}{k0 k1 k2 k3 k5:JX JU}{B newId initId:Ls}
def Ff (F:Qk B newId initId bmB)(T:SZ h bmB bm){au:JS JU}{vs:KP JU}{sl:KP (JX JU)}{Q:JU->JV->Prop}
  (hC:h.get? C=bt (excClassObj nm q C N bs bm hdct sn sub ab col dd k0 k1 k2 k3 k5 newId)) (he:h.get? e=bt #[.ref C,dx,.fields vs,sl]) {t0:td} (h0:vs[0]?=bt (.ref t0))
  (hq:Q .none #[(h.push (fA au)).update e (Mg (·.setIfInBounds 0 (.ref h.objs.size))),g,d,t,os]) (hrest:au.length<=sizeLine:=by size_fits) :
  wpAny (model prog w) A (call (.builtin initId) (.ref e::au)) Q E #[h,g,d,t,os]:=by
 have he1:(h.push (fA au)).get? e=bt #[.ref C,dx,.fields vs,sl]:=JW _ he;show No (MO F.init.plain F.initEntry (wpAny_check_init_subT F T hC he rfl ?_));have hz:=(Ln.mp h0).1
 wp_walk
 rw[h0]
 wp_walk
 exact hq
end
section
variable{prog:Ke}{w:Kr}{A:Kw}{K:Frag}{CL:td}{s:JV}{E:JU->JV->Prop}{pl:RM Kn}{Q:JU×JS JU->JV->Prop}{mc:JU}{name:J3}
def Fg {v:JU}(X:K.In s.heap)(hg:specialIn K (.ref CL) "__getattribute__" = bt (bt (.builtin "type.__getattribute__")))(hr:readsIn K CL mc=true)(e:findCls K (.ref CL) mc name=bt (.val v))(hh:handedIn v=true)
  (k:Q (v,[]) { s with toks:=s.toks+1 }):wpAny (model prog w) A (getMethod (.ref CL) name pl) Q E s:=method_cls X hg (cls_value X hr e hh k)
end
section
variable{Mqa:OC}{A:Kw}{E:JU->JV->Prop}{s:JV}{env:Oe}
variable{nm q:J3}{C N:td}{bs bm:JS JU}{hdct:Kn}{sn:JS J3}{sub:JS JU}{ab:Kn}{col:JX Kn}{dd:JX td}{k0 k1 k2 k3 k5:JX JU}{newId:Ls}
def u4 {x:RM JU}{Q:Tk->JV->Prop}(hbase:bm.contains (.type "BaseException")=true)(hh:A.handled=gV)
  (h:wpAny Mqa A x (λv s1=>∃e dx vs sl,v=.ref e/\s1.heap.get? C=bt (excClassObj nm q C N bs bm hdct sn sub ab col dd k0 k1 k2 k3 k5 newId)/\s1.heap.get? e=bt #[.ref C,dx,.fields vs,sl]/\vs[1]?=bt .none/\E (.ref e) s1) E s) :
  wpAny Mqa A (raiseStmt env (bt x) gV) Q E s:=by
 have hcB:(Kl C::bm).contains (.type "BaseException")=true:=by rw[Oo,hbase,OT]
 unfold raiseStmt;show JT (KO h (λv s1 h1=>?_) λ_ _ x=>x)
 obtain⟨e,dx,vs,sl,rfl,hC,he,hv,hE⟩:=h1;obtain⟨hp,g,d,tk,os⟩:=s1
 repeat (first|with_reducible show Ni he ?_|with_reducible show Ni hC ?_|(with_reducible show Pu hC ?_; rw[hcB])|with_reducible show K9 he rfl hv ?_|wp_step)
 exact wpAny_raiseNew_none hh hE
end
section
variable{prog:Ke}{w:Kr}{A:Kw}{s:JV}{E:JU->JV->Prop}{env:Oe}{base:KB}{outer:JS Oe}{L e:td}{cls a0:JU}{dd:JX td}
def CC {t:Kd}{n:J3}{b0:Lp}{suite:JS Lp}{pos:LG}{au:JS ExceptHandler}{Q:Tk->JV->Prop}(hfr:A.frames=bt (env::outer))(hl:s.heap.FunFrames base (env::outer))(hf:env.frame=bt L)(x:Fly s.heap e cls dd a0 .none)
  (ht:∀h',Mv ((env::outer).filterMap (·.frame)) e s.heap h'->Fly h' e cls dd a0 .none->wpAny (model prog w) (A.mark (bt (.ref e))) (eval t env) (λc s1=>wpAny (model prog w) (A.mark (bt (.ref e))) (excMatches (.ref e) c) (λb s2=>b=true/\
   Fly s2.heap e cls dd a0 .none/\∀h3,Mv ((env::outer).filterMap (·.frame)) e s2.heap h3->Fly h3 e cls dd a0 .none->
    wpAny (model prog w) (A.mark (bt (.ref e))) (storeName env n (.ref e)) (λ_ s3=>wpAny (model prog w) (A.mark (bt (.ref e))) (execs (b0::suite) env)
     (λf s4=>wpAny (model prog w) A (do bindName env n .none; unbindBehindTheSuite env n pos) (λ_ s5=>Q f s5) E s4) (λ_ _=>KT) s3) (λ_ _=>KT) { s2 with heap:=h3 }) (λ_ _=>KT) s1) (λ_ _=>KT) { s with heap:=h' }) :
  wpAny (model prog w) A (noteFrame (.ref e) env) (λ_ s2=>wpAny (model prog w) A (setFlight (.ref e) gV) (λ_ s3=>wpAny (model prog w) A (handleBy (.ref e) env (.ExceptHandler (bt t) (bt n) (b0::suite) pos::au)) Q E s3) E s2) E s:=by
 show uX hfr hl hf x λh1 m1 f1 _=>jj ((env::outer).filterMap (·.frame)) f1 λh2 m2 f2=>?_
 show wpAny_handleBy_cons (codeAny_handlers_test ?_) (by intro q; cases q)
 show KO (ht h2 (m1.trans m2) f2) (λc s1 h=>?_) λ_ _ z=>z.elim
 show KO h (λb s2 #[hb,fl,h3]=>?_) λ_ _ z=>z.elim
 subst hb;show codeAny_handlers_suite_as (jj ((env::outer).filterMap (·.frame)) fl λh4 m4 f4=>?_)
 show KO (h3 h4 m4 f4) (λ_ s3 h5=>?_) λ_ _ z=>z.elim
 exact KO h5 (λf s4 h6=>h6) λ_ _ z=>z.elim
end
structure XK (K:Frag)(C:td)(cd:LM):Prop where
 cls:clsIn K C=bt cd
 mro:cO cd.mro=true
 dct:cd.hasDict=true
 ga:findIn K (.ref C) "__getattribute__" = bt (bt (.builtin "BaseException.__getattribute__"))
 hk:findIn K (.ref C) "__getattr__" = bt gV
 kl:findIn K (.ref C) "__class__" = bt (bt (.builtin "object.__class__"))
 gg:specialIn K (.builtin "object.__class__") "__get__" = bt (bt (.builtin "getset_descriptor.__get__"))
 tk:takesIn K (.builtin "object.__class__")=bt true
section
variable{prog:Ke}{w:Kr}{A:Kw}{K:Frag}{C x:td}{s:JV}{E:JU->JV->Prop}{cd:LM}{ox:Ll}{od:JX Ll}
def XK.top (Yj:XK K C cd):mroIn K C (.type "object")=bt true:=by
 unfold mroIn;rw[Yj.cls,Mu,Kv (by rw[(bS Yj.mro).2]; decide),(bS Yj.mro).1]
def XK.base (Yj:XK K C cd):mroIn K C (.type "BaseException")=bt true:=by
 unfold mroIn;rw[Yj.cls,Mu,Kv (by rw[(bS Yj.mro).2]; decide),ee Yj.mro]
def Fh {name:J3}{tk:R4}{fill expr:Kn}{Q:JU->JV->Prop}(Yj:XK K C cd)(X:K.In s.heap)(I:InstAt s.heap x ox C od)
  (h:wpAny (model prog w) A.in1 (Mm.«object.__getattribute__» #[[.ref x,.str name tk],[]]) (λfin s'=>match fin with|.done (.ret v)=>wpAny (model prog w) A (handedOut v) Q E s'|_=>KT) (λ_ _=>KT) s) :
  wpAny (model prog w) A (getAttrBy (.ref x) (.str name tk) fill expr) Q E s:=by
 have sub:Looks (model prog w) s.heap (isInstance (.ref x) (.type "BaseException")) true:=I.type.andThen (looks_mroIn X Yj.base);have hk:builtinKind "BaseException.__getattribute__" = bt .slot:=by decide +kernel
 have hsp:splitId "BaseException.__getattribute__" = bt ("BaseException","__getattribute__"):=by decide +kernel
 unfold getAttrBy;show K5 (JT (I.type.here (JT (Looks.here (looks_findIn X Yj.ga) ?_))));have hx2:(onTheHeap (Kl C)&&Mh "BaseException.__getattribute__" == Mh "object.__getattribute__")=false:=by
  rw[show(Mh "BaseException.__getattribute__" == Mh "object.__getattribute__")=false from by decide +kernel,NL]
 dsimp only;rw[hx2];change wpAny _ _ (getAttrByItsOwn _ _ _ _ _ _) _ _ _;unfold getAttrByItsOwn hookBefore;show JT (Looks.here (looks_findIn X Yj.hk) ?_);have hx3:(expr&&onTheHeap (Mh "BaseException.__getattribute__"))=false:=by cases expr <;> rfl
 unfold callGetattribute boundAndCalled;rw[hx3,qO];show JT (Mj (K5 (JT (JZ (No ?_)))));show MO PySem.F.attr_ValueError.ga.plain F.entry_bexc_ga (@check_slot (model prog w) _ _ s "BaseException.__getattribute__" "BaseException" "__getattribute__" (.ref x) [.str name tk] [] _ hk hsp sub (F.args_bexc_ga (.ref x) (.str name tk)) ?_);show KO h (λfin s' z=>?_) λ_ _ z=>z.elim
 rcases fin with(_|_|_|_)|_ <;> first|exact z|exact z.elim
def pf (Yj:XK K C cd):findObj K C od "__class__" = bt (.bind (.builtin "getset_descriptor.__get__") (.builtin "object.__class__")):=by
 unfold findObj;rw[Yj.cls,Mu,Yj.kl,Mu];simp only[Yj.gg,Yj.tk,Mu,MY,Lv]
def CD {Q:JX JU->JV->Prop}(Yj:XK K C cd)(X:K.In s.heap)(I:InstAt s.heap x ox C od)(h:Q (bt (.ref C)) { s with toks:=s.toks+1 }):wpAny (model prog w) A (getAttr? (.ref x) "__class__") Q E s:=by
 have I':InstAt ({ s with toks:=s.toks+1 }:JV).heap x ox C od:=I
 have L1:Looks (model prog w) s.heap _ _:=looks_find X I (pf Yj);have L0:Looks (model prog w) s.heap _ _:=I.type;unfold getAttr? getAttrBy?;show JT (Sh (JT (Mj (Fh (s:={ s with toks:=s.toks+1 }) Yj X I ?_))))
 show JT (JZ (JT (JZ (JT (L0.here (s:={ s with toks:=s.toks+1 }) (JT (L1.here (s:={ s with toks:=s.toks+1 }) ?_)))))))
 change wpAny _ _ (holding [.builtin "object.__class__"] (call (.builtin "getset_descriptor.__get__") [.builtin "object.__class__",.ref x,.ref C]) >>= ret) _ _ _;show JT (K5 (No (class_get (s:={ s with toks:=s.toks+1 }) X I Yj.top ?_)))
 exact JZ (handed_on rfl (JZ h))
structure XT (K:Frag)(C:td)(c:JU)(b:Kn):Prop where
 ty:∀(Mqa:OC) h',K.In h'->Looks Mqa h' (typeOf c) (.type "type")
 is:∀(Mqa:OC) h',K.In h'->Looks Mqa h' (isType c) true
 sub:subIn K (.ref C) c=bt b
 eq:(Kl C==c)=true->b=true
def fN {D:td}{cd:LM}(hc:clsIn K D=bt cd)(Mqa:OC)(h':KB)(X:K.In h'):Looks Mqa h' (isType (.ref D)) true:=by
 unfold clsIn at hc;split at hc
 ·rename_i c' d' cd' sl' ho;intro A' Q' E' s' k q;unfold isType loadHead;exact JT (Pc (k _ _ (X _ _ ho)) (JZ q))
 ·cases hc
def ir {c:JU}{b:Kn}{dep:Kk}{tk:R4}{Q:Fin->JV->Prop}(Yj:XK K C cd)(T:XT K C c b)(X:K.In s.heap)(I:InstAt s.heap x ox C od)(h:∀tk',Q (.done (.ret (.bool b))) { s with toks:=tk' }) :
  wpAny (model prog w) A (Mm.«isinstance.nested» #[[.ref x,c,.int dep tk],[]]) Q E s:=by
 have hisD:=fN Yj.cls (model prog w) s.heap X;have his:=T.is (model prog w) s.heap X;have hty:Looks (model prog w) s.heap (typeOf c) (.type "type"):=T.ty (model prog w) s.heap X;have hsub:Looks (model prog w) s.heap (isSubtype (.ref C) c) b:=looks_subIn X T.sub;obtain⟨h0,g,d,tt,os⟩:=s;have L0:Looks (model prog w) h0 _ _:=I.type;have LI:Looks (model prog w) h0 (isInstance (.ref x) c) b:=L0.andThen hsub;unfold Mm.«isinstance.nested»;show JT (L0.at ?_)
 by_cases q:(Kl C==c)=true
 ·rw[Ks q];cases T.eq q;exact JT (M9 (JT (JZ (JZ (h tt)))))
 ·rw[Kv q];show JT (hty.at ?_);rw[Ks #v[]]
  k_delta "plainIsInstance"
  show JT (JT (his.at ?_));simp only[NZ,Lk,Mx];show JT (LI.at ?_);cases b with
  | true=>
   simp only[MY];exact JZ (JZ (h tt))
  | false=>
   simp only[Lk,Mx];show JT (CD Yj X I ?_);show JT (hisD.at ?_);simp only[NZ,Lk,Mx];show JT (M9 ?_);show hsub.at ?_;exact JZ (h _)
def Fi {c:JU}{b:Kn}{Q:JU->JV->Prop}(Yj:XK K C cd)(T:XT K C c b)(X:K.In s.heap)(I:InstAt s.heap x ox C od)(h:∀tk',Q (.bool b) { s with toks:=tk' }):wpAny (model prog w) A (call (.builtin "isinstance") [.ref x,c]) Q E s:=
 Q9 (S:=λ_ R s=>(K.In s.heap/\InstAt s.heap x ox C od)/\∀tk',R (.ok (.ret (.bool b))) { s with toks:=tk' })
  (λ_ _ _ _ _ hs=>QL (ir Yj T hs.1.1 hs.1.2 hs.2) (by intro q; cases q)) #[#[X,I],h]
inductive XTs (K:Frag)(C:td):JS JU->JS Kn->Prop
 | nil:XTs K C [] []
 | cons {c:JU} {b:Kn} {cs:JS JU} {bs:JS Kn}:XT K C c b->XTs K C cs bs->XTs K C (c::cs) (b::bs)
def XTs.all {cs:JS JU}{bs:JS Kn}(Yj:XK K C cd)(T:XTs K C cs bs):AnswersAll (λs=>K.In s.heap/\InstAt s.heap x ox C od) (.ref x) cs bs:=by
 induction T with
 | nil=>trivial
 | cons t _ ih=>exact#[λ_ _ _ _ _ _ _ hs=>ir Yj t hs.1.1 hs.1.2 hs.2,ih]
def iD {tp:td}{nt:J4}{dt:JX td}{st:KP (JX JU)}{cs:JS JU}{bs:JS Kn}{tk:R4}{Q:Fin->JV->Prop}(Yj:XK K C cd)(T:XTs K C cs bs)(hne:C≠tp)(htp:s.heap.get? tp=bt { cls:=.type "tuple",dict:=dt,data:=.seq cs.toArray nt,slots:=st })(X:K.In s.heap)(I:InstAt s.heap x ox C od)
  (hq:∀tk',Q (.done (.ret (.bool (bs.any id)))) { s with toks:=tk' }):wpAny (model prog w) A (Mm.«isinstance.nested» #[[.ref x,.ref tp,.int 0 tk],[]]) Q E s:=by
 obtain⟨h,g,d,t,os⟩:=s;have hT2:(#[h,g,d,t,os] : JV).TypeIs (.ref tp) "tuple":=#[_,htp,rfl];have f1:=F.isi_sub_tuple;have L0:Looks (model prog w) h _ _:=I.type;have ne:(Kl C==Kl tp)=false:=MP.mpr λq=>hne (Tz (Ma.mp q))
 unfold Mm.«isinstance.nested»;show JT (L0.at ?_);rw[Kv (λq=>by rw[ne]at q; exact Bool.noConfusion q)]
 repeat (any_goals (first|assumption|wp_step))
 show wpAny_arrayLoop ?_;simp only[OM,List.toList_toArray];show isinstance_items (dep:=0) (P:=λs=>K.In s.heap/\InstAt s.heap x ox C od) (λ_ _ z=>z) cs bs _ _ (T.all Yj) #[X,I] λtk'=>?_
 cases hv:bs.any id with
 | true=>
  simp only[MY]
  repeat (any_goals (first|assumption|wp_step))
  exact hv ▸ hq tk'
 | false=>
  simp only[Lk,Mx]
  repeat (any_goals (first|assumption|wp_step))
  exact hv ▸ hq tk'
def u5 {tp:td}{nt:J4}{dt:JX td}{st:KP (JX JU)}{cs:JS JU}{bs:JS Kn}{Q:JU->JV->Prop}(Yj:XK K C cd)(T:XTs K C cs bs)(hne:C≠tp)(htp:s.heap.get? tp=bt { cls:=.type "tuple",dict:=dt,data:=.seq cs.toArray nt,slots:=st })(X:K.In s.heap)(I:InstAt s.heap x ox C od)
  (h:∀tk',Q (.bool (bs.any id)) { s with toks:=tk' }):wpAny (model prog w) A (call (.builtin "isinstance") [.ref x,.ref tp]) Q E s:=
 Q9 (S:=λ_ R s=>(K.In s.heap/\InstAt s.heap x ox C od/\s.heap.get? tp=bt { cls:=.type "tuple",dict:=dt,data:=.seq cs.toArray nt,slots:=st })/\∀tk',R (.ok (.ret (.bool (bs.any id)))) { s with toks:=tk' })
  (λ_ _ _ _ _ hs=>QL (iD Yj T hne hs.1.2.2 hs.1.1 hs.1.2.1 hs.2) (by intro q; cases q)) #[#[X,I,htp],h]
end
end Xc
namespace Xc
open PySem PySem.Spec PySem.W PySem.Builtin.ObjectAttr L2 PyProof.Rows
noncomputable abbrev Ji:JS JU:=[.type "ValueError",.type "Exception",.type "BaseException",.type "object"]
abbrev Fx (e C:td)(dd:JX td)(h:KB):Prop:=∃vs sl t0,h.get? e=bt #[.ref C,dd,.fields vs,sl]/\vs[0]?=bt (.ref t0)/\vs[1]?=bt .none
def Fx.ok {P:Ke}{w:Kr}{H:Hp}{h:KB}{e C:td}{dd:JX td}(x:Fx e C dd h):ObjOk P w H h e (.ext (Fx e C dd)):=
 #[x,let ⟨_,_,_,q,_⟩:=x; #[_,q],λh1 h2 y k=>let ⟨vs,sl,t0,q,r⟩:=y; #[vs,sl,t0,k _ q,r]]
structure XC (K:Frag)(C:td)(cd:LM):Prop extends XK K C cd where
 obj:∃nm q N bs bm sn sub ab col dd k0 k1 k2 k3 k5,K.lookup C=bt (excClassObj nm q C N bs bm true sn sub ab col dd k0 k1 k2 k3 k5 "ValueError.__new__")/\tailIn K Ji bm=true/\bm.contains (.type "BaseException")=true
 sa:findIn K (.ref C) "__setattr__" = bt (bt (.builtin "object.__setattr__"))
section
variable{X:Cx}{x:J3}{p pos apos:LG}{a:Kd}{es:JS Kd}{t:TA}{CL:td}{mc:JU}
abbrev u6 (K:Frag)(t:TA):TE:=λY H Q=>t Y H λvs H1=>∃e C cd dd au,vs=.ref e::au/\au.length<=sizeLine/\XC K C cd/\H1 e=bt (.ext (Fx e C dd))/\Q .non H1
def u7 {pl:RM Kn}(hgl:Gl X x)(hmg:X.mg x=bt (.ref CL))(hg:specialIn X.K (.ref CL) "__getattribute__" = bt (bt (.builtin "type.__getattribute__")))(hr:readsIn X.K CL mc=true)
  (hf:findCls X.K (.ref CL) mc "__init__" = bt (.val (.builtin "ValueError.__init__"))) (ha:PA X (a::es) t)
  (hst:starEach (a::es) X.env=(false,eval a X.env)::starEach es X.env:=by rfl) (hpl:(backTo pos (starEach es X.env)).any (·.1)=false:=by rfl)
  (ht:eval (.Call (.Attribute (.Name x p) "__init__" apos) (a::es) [] pos) X.env=(do
   let ov <- eval (.Name x p) X.env
   standAt apos.atName
   let (f,first) <- holding [ov] (getMethod ov "__init__" pl)
   callWith pos f first (backTo pos (starEach (a::es) X.env)) (backToKw pos (keywordEach [] X.env))):=by rfl) (hdb:(x==("__debug__" : J3))=false:=by decide) :
  PE X (.Call (.Attribute (.Name x p) "__init__" apos) (a::es) [] pos) (u6 X.K t):=by
 intro J s Y H Q I h;show PySem.W.methodCall_KW (pl:=pl) (bW I hgl hmg ?_ hdb) ht;show Fg I.kIn hg hr hf (by decide +kernel) ?_
 have I0:=I.tok (s.toks+1);show callWith_builtin1 (aD (ha pos J _ Y H _ I0 h) λus s1 #[vs,H1,I1,r1,q1]=>?_) hst hpl
 obtain⟨e,C,cd,dd,au,rfl,hz,Yj,he,hq⟩:=q1;obtain⟨u,us',rfl,ru,rr⟩ : ∃u us',us=u::us'/\RelV (.ref e) u/\Vals au us':=by
  cases r1 with
  | cons a b=>exact#[_,_,rfl,a,b]
 obtain rfl:u=Kl e:=ru;obtain⟨nm,q,N,bs,bm,sn,sub,ab,col,dd',k0,k1,k2,k3,k5,lk,tl,_⟩:=Yj.obj;obtain⟨⟨ws,sl,t0,o1,o2,o3⟩,_,_⟩:=I1.hok e _ he;have X1:=I1.kIn;obtain⟨hh,g,d,tk,os⟩:=s1;show Ff Op (tail_of_in X1 tl) (X1 _ _ lk) o1 o2 ?_ (by rw[<- rr.length]; exact hz)
 have o1':(hh.push (fA us')).get? e=bt #[.ref C,dd,.fields ws,sl]:=JW _ o1;have o1'':=Ld (Mg (·.setIfInBounds 0 (.ref hh.objs.size))) o1' rfl
 have nf:Fx e C dd ((hh.push (fA us')).update e (Mg (·.setIfInBounds 0 (.ref hh.objs.size)))):=
  #[_,sl,hh.objs.size,o1'',by simp[(Ln.mp o2).1],by rw[NP #v[]]; exact o3]
 have I2:=I1.write (o:=.ext (Fx e C dd)) (t':=tk) (h':=(hh.push (fA us')).update e (Mg (·.setIfInBounds 0 (.ref hh.objs.size)))) (x:=e) (e:=e) (by rw[he]; trivial) (.inl rfl)
  (λb u hb q=>by rw[KN _ _ (Ne.symm hb)]; exact JW _ q) #[_,o1''] nf.ok
 have eH:ay H1 e (.ext (Fx e C dd))=H1:=by
  funext b
  unfold ay;split
  ·rename_i z; rw[z,he]
  ·rfl
 rw[eH]at I2;exact#[.non,H1,I2,rfl,hq]
end
abbrev Dx (dx:td)(fs:JS (J3×V))(h:KB):Prop:=∃mA,h.Ns1 dx mA/\(∀f,RelO (fs.lookup f) (mA f))/\Within mA (fs.map (·.1))
def Dx.ok {P:Ke}{w:Kr}{H:Hp}{h:KB}{dx:td}{fs:JS (J3×V)}(x:Dx dx fs h):ObjOk P w H h dx (.ext (Dx dx fs)):=
 #[x,let ⟨_,⟨o,_,_,q,_⟩,_⟩:=x; #[o,q],λh1 h2 y k=>let ⟨mA,⟨o,es,ep,q,r⟩,z⟩:=y; #[mA,#[o,es,ep,k _ q,r],z]]
section
variable{X:Cx}{J:JS (td×Ll)}{Y:L2.St}{H:Hp}{s:JV}{h':KB}{e dx:td}{φ ψ χ:KB->Prop}{t':J4}
def yV (I:L2.Inv X J Y H s)(he:H e=bt (.ext φ))(hd:s.heap.objs.size<=dx)(k:∀b u,b≠e->s.heap.get? b=bt u->h'.get? b=bt u)
  (o1:∀H',ObjOk X.prog X.w H' h' e (.ext ψ)) (o2:∀H',ObjOk X.prog X.w H' h' dx (.ext χ)):L2.Inv X J Y (ay (ay H e (.ext ψ)) dx (.ext χ)) { s with heap:=h',toks:=t' }:=by
 have nd:H dx=gV:=I.hok.fresh hd;have ne:dx≠e:=λz=>by rw[z,he]at nd; cases nd
 have oth:∀b,b≠e->b≠dx->ay (ay H e (.ext ψ)) dx (.ext χ) b=H b:=λb h1 h2=>by rw[aj h2,aj h1]
 have lt:∀b o,s.heap.get? b=bt o->b≠dx:=λb o q z=>absurd (J8 q) (by rw[z]; exact PY.mpr hd)
 have ne':∀b,H b=gV->b≠e:=λb q z=>by rw[z,he]at q; cases q
 have ind:∀b u,H b=bt u->b≠dx:=λb u q z=>by rw[z,nd]at q; cases q
 show I.un #[λb o q n _ _=>k b o (ne' b n) q,λb o q n _ _=>#[o.slots,k b o (ne' b n) q],λb o q n _=>by rw[oth b (ne' b n) (lt b o q)]; exact n,λb o q _=>?_,λb xs q=>?_,λb o u q=>?_,λb ps q=>#[#[],?_]] λb u q=>?_
 ·by_cases z:b=e
  ·rw[z]; exact let ⟨_,w,_⟩:=o1 H; w
  ·exact#[o,k b o z q]
 ·rw[oth b (λz=>by rw[z,he]at q; cases q) (ind b _ q)]; exact q
 ·rw[oth b (λz=>by rw[z,he]at q; cases q) (ind b _ q)]; exact q
 ·rw[oth b (λz=>by rw[z,he]at q; cases q) (ind b _ q),q]; simp
 ·by_cases z1:b=dx
  ·rw[z1,ak]at q;cases q;rw[z1];exact o2 _
  ·rw[aj z1]at q
   by_cases z2:b=e
   ·rw[z2,ak]at q;cases q;rw[z2];exact o1 _
   ·rw[aj z2]at q;show(I.hok b u q).stay (λc v hc r=>k c v ?_ r) (λc r=>?_) λc xs r=>?_
    ·rcases hc with z|z
     ·rw[z]; exact z2
     ·exact λz'=>by rw[z',he]at z; cases z
    ·rw[oth c (λz=>by rw[z,he]at r; cases r) (ind c _ r)]; exact r
    ·rw[oth c (λz=>by rw[z,he]at r; cases r) (ind c _ r)]; exact r
end
section
variable{X:Cx}{o value:Kd}{ta tv:TE}{f:J3}{pos pos':LG}
abbrev Bf (K:Frag)(ta tv:TE)(f:J3):TS:=λD Y H=>tv Y H λy H1=>ta Y H1 λx H2=>∃e C cd,x=.ref e/\XC K C cd/\findIn K (.ref C) f=bt gV/\
 ((H2 e=bt (.ext (Fx e C gV))/\∀dx,H2 dx=gV->D.nx Y (ay (ay H2 e (.ext (Fx e C (bt dx)))) dx (.ext (Dx dx [(f,y)]))))\/
  (∃dx fs,H2 e=bt (.ext (Fx e C (bt dx)))/\dx≠e/\fs.length<=100/\H2 dx=bt (.ext (Dx dx fs))/\D.nx Y (ay H2 dx (.ext (Dx dx (gb f y fs))))))
def yW (ha:PE X o ta)(hv:PE X value tv)(hs:swapsWith value (bt (.Attribute o f pos')) pos.line X.env=pure false):PS X (.Assign [.Attribute o f pos'] value pos) (Bf X.K ta tv f):=by
 intro J s Y H D I h;show plainObj_wpAny_Assign_Attribute (aD (hv J s Y H _ I h) λu s1 #[y,H1,I1,ry,q]=>aD (ha J s1 Y H1 _ I1 q) λov s2 #[x,H2,I2,rx,e,C,cd,ex,Yj,hf,q2]=>?_) hs
 subst ex;obtain rfl:ov=Kl e:=rx;rcases q2 with⟨he,hq⟩|⟨dx,fs,he,hne,hl,hd,hq⟩
 ·obtain⟨⟨ws,sl,t0,o1,o2,o3⟩,_,_⟩:=I2.hok e _ he;show uZ I2.kIn o1 Yj.sa Yj.cls Yj.mro Yj.dct hf λh' tk g1 g2 g3 g4=>?_
  have fx:Fx e C (bt s2.heap.objs.size) h':=#[ws,sl,t0,g1,o2,o3];have dd:Dx s2.heap.objs.size [(f,y)] h':=#[_,g2,λg=>?_,?_]
  ·exact#[Y,_,yV I2 he (J9 _) g3 (λ_=>fx.ok) (λ_=>dd.ok),hq _ (I2.hok.fresh (J9 _))]
  ·change RelO ((gb f y []).lookup g) (if g=f then bt u else gV)
   rw[dZ]
   by_cases q:g=f
   ·rw[Ks q,Ks q]; exact ry
   ·rw[Kv q,Kv q]; trivial
  ·intro g hg
   by_cases q:g=f
   ·rw[q]; exact Kq
   ·exact absurd (show(if g=f then bt u else gV)=gV by rw[Kv q]) hg
 ·obtain⟨⟨ws,sl,t0,o1,o2,o3⟩,_,_⟩:=I2.hok e _ he;obtain⟨⟨mA,n1,n2,n3⟩,_,_⟩:=I2.hok dx _ hd;show sR I2.kIn o1 n1 n3 (by rw[J6]; exact hl) hne Yj.sa Yj.cls Yj.mro Yj.dct hf λh' tk g2 g3 g4=>?_
  have dd:Dx dx (gb f y fs) h':=#[_,g2,λg=>?_,?_]
  ·exact#[Y,_,I2.write (o:=.ext (Dx dx (gb f y fs))) (x:=dx) (e:=dx) (by rw[hd]; trivial) (.inl rfl) (λb u hb q=>by rw[g3 b hb]; exact q) (let ⟨_,⟨o,_,_,q,_⟩,_⟩:=dd; #[o,q]) dd.ok,hq]
  ·change RelO ((gb f y fs).lookup g) (if g=f then bt u else mA g)
   rw[dZ]
   by_cases q:g=f
   ·rw[Ks q,Ks q]; exact ry
   ·rw[Kv q,Kv q]; exact n2 g
  ·intro g hg
   by_cases q:g=f
   ·rw[q]; exact(gW f y fs).1
   ·show(gW f y fs).2 g (n3 g λz=>hg ?_)
    show(if g=f then bt u else mA g)=gV
    rw[Kv q]; exact z
end
structure XM (K:Frag)(C f:td)(cd:LM):Prop extends XC K C cd where
 init:findIn K (.ref C) "__init__" = bt (bt (.ref f))
 fn:typeIn K (.ref f)=bt (.type "function")
 kp:keepIn K (.ref C)=true
section
variable{X:Cx}{CX:o8}{k:J4}{f C:td}{cd:LM}{fd:Lb}{ps:JS J3}{sp:Sp}{E:L2.XK}{x:J3}{p pos:LG}{a:Kd}{es:JS Kd}{t:TA}
def kM {J:JS (td×Ll)}{Y:L2.St}{H:Hp}{s:JV}{Q:VK}{us:JS JU}{vs:JS V}(Mqa:XM X.K C f cd)(F:FnOk X.prog X.w X.K X.mg X.base CX k f fd ps sp)(hr:Room (k+1) X.A)(hb:Binds X.K fd ps [])
  (hx:fM CX X E) (I:L2.Inv X J Y H s) (r:Vals vs us) (hz:us.length<=sizeLine)
  (h:∀e,H e=gV->s.heap.objs.size<=e->sp (.ref e::vs) (ay H e (.ext (Fx e C gV))) (λv H2=>v=.non/\Q (.ref e) H2) E) :
  wpAny (model X.prog X.w) X.A (call (.ref C) us) (EP X J Y Q) X.xe s:=by
 have hq:=h (s.heap.objs.size+1) (I.hok.fresh (Mk _)) (Mk _);obtain⟨nm,q,N,bs,bm,sn,sub,ab,col,dd',k0,k1,k2,k3,k5,lk,tl,_⟩:=Mqa.obj;have I1:L2.Inv X J Y (ay H (s.heap.objs.size+1) (.ext (Fx (s.heap.objs.size+1) C gV))) { s with heap:=(s.heap.push (fA us)).push (gX C s.heap.objs.size) }:=by
  show I.laid (t':=s.toks) (λb u e=>JW _ (JW _ e)) (Mk _) (Fx.ok #[[.ref s.heap.objs.size,.none,.none,.none,.bool false,.none].toArray,#[],s.heap.objs.size,?_,rfl,rfl])
  exact Ql (by simp) rfl
 have r2:Vals (V.ref (s.heap.objs.size+1)::vs) (Kl (s.heap.objs.size+1)::us):=.cons rfl r;have hl:(Kl (s.heap.objs.size+1)::us++[]).length=ps.length:=by
  have e:=r2.length;rw[F.len _ _ _ _ hq]at e;rw[Lu];exact e.symm
 have X0:=I.kIn;have hb2:=hb _ (Kl (s.heap.objs.size+1)::us) I1.kIn hl;rw[Lu]at hb2;have run:=F.run _ X.stack _ _ #[Kl (s.heap.objs.size+1)::us,[]] (Kl (s.heap.objs.size+1)::us) _ _ E (hr.make C us []) (I1.env0.make C us []) hb2 r2 hq;obtain⟨hh,g,d,tk,os⟩:=s;show uY Op (tail_of_in X0 tl) (X0 _ _ lk) (looks_findIn X0 Mqa.init) (λself=>bind_fn X0 self Mqa.fn) (Ms run λr s' hq'=>?_) hz
 cases r with
 | error e=>exact hx J Y _ _ e s' I1 hq'
 | ok fl=>
  cases fl with
  | ret u=>
   obtain⟨v,H',I3,rv,ev,q3⟩:=I1.after hq';subst ev;exact#[rv,#[V.ref (hh.objs.size+1),H',I3,rfl,q3]]
  | next=>exact KT.elim hq'
  | brk=>exact KT.elim hq'
  | cont=>exact KT.elim hq'
end
abbrev Ex (e C:td)(dd:JX td)(h:KB):Prop:=∃vs sl,h.get? e=bt #[.ref C,dd,.fields vs,sl]
def Ex.ok {P:Ke}{w:Kr}{H:Hp}{h:KB}{e C:td}{dd:JX td}(x:Ex e C dd h):ObjOk P w H h e (.ext (Ex e C dd)):=
 #[x,let ⟨_,_,q⟩:=x; #[_,q],λh1 h2 y k=>let ⟨vs,sl,q⟩:=y; #[vs,sl,k _ q]]
def Fly.ex {h:KB}{e C:td}{dd:JX td}{a0 fl:JU}(x:Fly h e (.ref C) dd a0 fl):Ex e C dd h:=by
 cases x with
 | new q _ _=>exact#[_,_,q]
 | on q _ _ _ _ _ _=>exact#[_,_,q]
abbrev ce (h:KB)(b:td):Kn:=match h.get? b with
 | some #[_,_,.fields _,_]=>true
 | _=>false
def c8 {h:KB}{b:td}{o:Ll}(q:h.get? b=bt o)(n:ce h b=false):∀vs,o.data≠.fields vs:=λvs e=>by
 obtain⟨c,d,dt,sl⟩:=o;cases e;simp[ce,q]at n
def sS {h:KB}{b:td}(n:ce h b=true):∃o vs,h.get? b=bt o/\o.data=.fields vs:=by
 unfold ce at n;split at n
 ·rename_i q; exact#[_,_,q,rfl]
 ·cases n
def u8 {P:Ke}{w:Kr}{H:Hp}{h:KB}{a:td}{o:HO}(x:ObjOk P w H h a o):∃ob,h.get? a=bt ob:=by
 cases o with
 | lst xs=>obtain⟨_,_,_,_,e⟩:=x; exact#[_,e]
 | tup xs=>obtain⟨⟨_,_,e,_⟩,_⟩:=x; exact#[_,e]
 | dK U=>obtain⟨_,_,_,_,o,_,_,e,_⟩:=x; exact#[_,e]
 | dT U=>obtain⟨_,_,_,_,o,_,_,e,_⟩:=x; exact#[_,e]
 | set S n=>obtain⟨o,_,_,_,e,_⟩:=x; exact#[_,e]
 | ins C dx fs=>obtain⟨_,_,_,e,_⟩:=x; exact#[_,e]
 | own y=>exact x
 | xd fs=>obtain⟨_,⟨_,_,_,e,_⟩,_⟩:=x; exact#[_,e]
 | rng lo hi=>obtain⟨_,_,_,e⟩:=x; exact#[_,e]
 | frz ob u=>obtain⟨e,_⟩:=x; exact#[_,e]
 | tbl ps=>exact#[_,(show h.get? a=bt _ from x)]
 | met f y=>exact#[_,(show h.get? a=bt _ from x)]
 | ext φ=>obtain⟨_,e,_⟩:=x; exact e
structure Air (X:Cx)(J:JS (td×Ll))(Y:L2.St)(H:Hp)(s:JV)(a C:td)(dd:JX td)(a0:JU):Prop where
 inv:L2.Inv X J Y H s
 fly:Fly s.heap a (.ref C) dd a0 .none
 new:X.s₀.heap.objs.size<=a
 ext:H a=bt (.ext (Ex a C dd))
 low:∀b u,H b=bt u->a < b->ce s.heap b=false
 pin:∀p∈X.pn++J,a < p.1->ce s.heap p.1=false
section
variable{X:Cx}{J:JS (td×Ll)}{Y:L2.St}{H:Hp}{s:JV}{a C:td}{dd:JX td}{a0:JU}{h':KB}
def Air.mv (Yj:Air X J Y H s a C dd a0)(m:Mv (kF X.stack) a s.heap h')(f:Fly h' a (.ref C) dd a0 .none):Air X J Y H { s with heap:=h' } a C dd a0:=by
 have I:=Yj.inv;have fr:∀b∈kF X.stack,∃o,s.heap.get? b=bt o/\∀vs,o.data≠.fields vs:=λb hb=>(I.stack.mem hb).2
 have keepH:∀b u o,H b=bt u->b≠a->s.heap.get? b=bt o->h'.get? b=bt o:=λb u o hb ne q=>
  m.keep b o q (λz=>by rw[I.stkFree b z]at hb; cases hb) ne λlt=>c8 q (Yj.low b u hb lt)
 have same:∀b o,s.heap.get? b=bt o->ce s.heap b=false->b≠a->ce h' b=false:=λb o q n ne=>by
  by_cases hb:b∈kF X.stack
  ·obtain⟨sl,q'⟩:=m.fram b o q hb (c8 q n);unfold ce;rw[q'];obtain⟨c,d,dt,sl'⟩:=o;cases dt <;> first|rfl|(simp[ce,q]at n)
  ·unfold ce at n ⊢;rw[m.keep b o q hb ne λ_=>c8 q n]
   rw[q]at n;exact n
 have tx:L2.Inv X J Y H { s with heap:=h' }:=by
  show I.call (ch:=(LK s.heap.objs.size).filter λb=>decide (a < b)&&ce s.heap b) (g':=s.gens) (t':=s.toks) (d':=s.drawn) #[λb o q n nf nc=>?_,λb o q n hb nc=>?_,λb o q n _=>n,λb o q nc=>?_,λ_ _ q=>q,λ_ _ _ q=>q,λb ps q=>#[#[],by rw[q]; simp]] (λb u q=>?_) I.bare λb hb=>?_
  ·show m.keep b o q nf (λz=>by rw[z,Yj.ext]at n; cases n) λlt=>?_
   cases hr:ce s.heap b with
   | false=>exact c8 q hr
   | true=>exact absurd (MG.mpr #[M0.mpr (J8 q),by simp[lt,hr]]) nc
  ·obtain⟨o',q',n'⟩:=fr b hb;rw[q]at q';cases q';exact m.fram b o q hb n'
  ·by_cases hb:b∈kF X.stack
   ·obtain⟨o',q',n'⟩:=fr b hb;rw[q]at q';cases q';exact let ⟨sl,z⟩:=m.fram b o q hb n'; #[_,z]
   ·by_cases z:b=a
    ·rw[z]; exact let ⟨_,_,w⟩:=f.ex; #[_,w]
    ·show#[o,m.keep b o q hb z λlt=>?_]
     cases hr:ce s.heap b with
     | false=>exact c8 q hr
     | true=>exact absurd (MG.mpr #[M0.mpr (J8 q),by simp[lt,hr]]) nc
  ·by_cases z:b=a
   ·rw[z,Yj.ext]at q;cases q;rw[z];exact f.ex.ok
   ·show(I.hok b u q).stay (λc v hc r=>?_) (λ_ r=>r) λ_ _ r=>r
    rcases hc with hc|hc
    ·rw[hc]at r ⊢; exact keepH b u v q z r
    ·exact keepH c _ v hc (λz'=>by rw[z',Yj.ext]at hc; cases hc) r
  ·obtain⟨h1,h2⟩:=MG.mp hb;rw[JY]at h2;have lt:=La h2.1;obtain⟨o,vs,q,hd⟩:=sS h2.2;show#[.inr (Mr (PZ Yj.new lt)),λz=>?_,λx c hx z=>?_,λp hp z=>?_]
   ·obtain⟨mm,⟨o',es,ep,ho,hd',_⟩,_⟩:=I.loc;rw[<- z,q]at ho;cases ho;rw[hd]at hd';cases hd'
   ·obtain⟨v,o',ho,hd'⟩:=I.cell x c hx;rw[z,q]at ho;cases ho;rw[hd]at hd';cases hd'
   ·have:=Yj.pin p hp (by rw[z]; exact lt)
    rw[z,h2.2]at this;cases this
 show#[tx,f,Yj.new,Yj.ext,λb u hb lt=>?_,λp hp lt=>?_]
 ·have hlt:=I.hok.lt hb;cases q:s.heap.get? b with
  | none=>
   obtain⟨o,e'⟩:=u8 (I.hok b u hb);rw[q]at e'; cases e'
  | some o=>exact same b o q (Yj.low b u hb lt) (KW lt)
 ·exact same p.1 p.2 (I.pin p hp).1 (Yj.pin p hp lt) (KW lt)
end
inductive CXx (P:Ke)(w:Kr)(outer:JS Oe)(H:Hp)(s:JV)(E:L2.XK)(e:JU)(s':JV):Prop
 | mk (a C:td) (dd:JX td) (a0:JU) (H':Hp) (he:e=.ref a) (new:s.heap.objs.size<=a) (os:s'.os=s.os) (bare:Ob s'.gens) (un:Un (kF outer) [] H H' s.heap s'.heap) (hok:HOk P w H' s'.heap)
   (fly:Fly s'.heap a (.ref C) dd a0 .none) (ext:H' a=bt (.ext (Ex a C dd))) (low:∀b u,H' b=bt u->a < b->ce s'.heap b=false) (q:E (.ref C) dd H'):CXx P w outer H s E e s'
section
variable{X:Cx}{J:JS (td×Ll)}{Y:L2.St}{H:Hp}{s s':JV}{E:L2.XK}{e:JU}
def CF (I:L2.Inv X J Y H s)(h:CXx X.prog X.w X.stack H s E e s'):∃a C dd a0 H',e=.ref a/\Air X J Y H' s' a C dd a0/\E (.ref C) dd H':=by
 obtain⟨a,C,dd,a0,H',he,new,os,bare,un,hok,fly,ext,low,q⟩:=h;show#[a,C,dd,a0,H',he,#[?_,fly,Kx I.sz new,ext,low,λp hp lt=>?_],q]
 ·obtain⟨hh,g,d,t,os'⟩:=s';obtain rfl:os'=s.os:=os;exact I.call (h':=hh) (g':=g) (d':=d) (t':=t) (ch:=[]) un hok bare (λb z=>absurd z (by simp))
 ·exact absurd (J8 (I.pin p hp).1) (PY.mpr (Kx new (Mr lt)))
end
section
variable{P:Ke}{w:Kr}{K:J2}{mg:J3->JX JU}{base:KB}{N:JS J3}{qual:J3}{scope:MM}{f:td}{cd:JU}{A:Kw}{outer:JS Oe}{s0 s:JV}{H0 H:Hp}{E:L2.XK}{J:JS (td×Ll)}{Y:L2.St}{a C:td}{dd:JX td}{a0:JU}
def CG (Yj:Air (d6 (CXx P w) P w K mg base N qual scope f cd A outer s0 H0 E) J Y H s a C dd a0)(q:E (.ref C) dd H):(d6 (CXx P w) P w K mg base N qual scope f cd A outer s0 H0 E).xe (.ref a) s:=by
 have I:=Yj.inv;show yU (L:=s0.heap.objs.size) (base:=base) I.ok.frames I.stack rfl Yj.fly λh' m f'=>?_
 have Zx:=Yj.mv m f';have tx:=Zx.inv;exact#[a,C,dd,a0,H,rfl,Yj.new,tx.os,tx.bare,tx.base,tx.hok,f',Zx.ext,Zx.low,q]
end
abbrev XQ (n:J4)(C:td)(H1:Hp)(Ew:L2.XK):VK:=λv H2=>∃e dd,v=.ref e/\n<=e/\H2 e=bt (.ext (Fx e C dd))/\(∀b u,H2 b=bt u->(∃u',H1 b=bt u')\/b=e\/∃fs,u=.ext (Dx b fs))/\Ew (.ref C) dd (ay H2 e (.ext (Ex e C dd)))
abbrev u9 (C:td)(sp:Sp)(E Ew:L2.XK)(t:TA):TS:=λ_ Y H=>t Y H λvs H1=>vs.length<=sizeLine/\∀n e,H1 e=gV->n<=e->
 sp (.ref e::vs) (ay H1 e (.ext (Fx e C gV))) (λv H2=>v=.non/\XQ n C H1 Ew (.ref e) H2) E
section
variable{X:Cx}{CX:o8}{k:J4}{f C:td}{cd:LM}{fd:Lb}{ps:JS J3}{sp:Sp}{E Ew:L2.XK}{x:J3}{p cpos pos:LG}{a:Kd}{es:JS Kd}{t:TA}
def mX {J:JS (td×Ll)}{Y:L2.St}{H1 H2:Hp}{s1 s2:JV}{e:td}{dd:JX td}(I1:L2.Inv X J Y H1 s1)(he:s1.heap.objs.size<=e)(I2:L2.Inv X J Y H2 s2)(h2:H2 e=bt (.ext (Fx e C dd)))
  (hl:∀b u,H2 b=bt u->(∃u',H1 b=bt u')\/b=e\/∃fs,u=.ext (Dx b fs)):∃ws sl a0,s2.heap.get? e=bt #[.ref C,dd,.fields ws,sl]/\ws[1]?=bt .none/\Air X J Y (ay H2 e (.ext (Ex e C dd))) s2 e C dd a0:=by
 obtain⟨⟨ws,sl,t0,o1,o2,o3⟩,_,_⟩:=I2.hok e _ h2;show#[ws,sl,.ref t0,o1,o3,#[?_,.new o1 o2 o3,Kx I1.sz he,ak,λb u hb lt=>?_,λp hp lt=>?_]]
 ·have tx:=I2.write (o:=.ext (Ex e C dd)) (t':=s2.toks) (h':=s2.heap) (x:=e) (e:=e) (by rw[h2]; trivial) (.inl rfl) (λb u _ q=>q) #[_,o1] (Ex.ok #[ws,sl,o1])
  exact tx
 ·rw[aj (KW lt)]at hb;rcases hl b u hb with⟨u',z⟩|z|⟨fs,z⟩
  ·exact absurd (I1.hok.lt z) (PY.mpr (Kx he (Mr lt)))
  ·exact absurd z (KW lt)
  ·subst z;obtain⟨⟨mA,⟨o,es',ep,q,qd,_⟩,_⟩,_⟩:=I2.hok b _ hb;unfold ce;rw[q];obtain⟨c,d,dt,sl'⟩:=o;cases qd;rfl
 ·exact absurd (J8 (I1.pin p hp).1) (PY.mpr (Kx he (Mr lt)))
def vc (hh:X.A.handled=gV)(Mqa:XM X.K C f cd)(F:FnOk X.prog X.w X.K X.mg X.base CX k f fd ps sp)(hr:Room (k+1) X.A)(hg:Gl X x)(hm:X.mg x=bt (.ref C))(hb:Binds X.K fd ps [])(hx:fM CX X E)
  (hw:∀J Y H s a C dd a0,Air X J Y H s a C dd a0->Ew (.ref C) dd H->X.xe (.ref a) s)
  (ha:PA X (a::es) t) (hdb:(x==("__debug__" : J3))=false:=by decide) (he:starEach (a::es) X.env=(false,eval a X.env)::starEach es X.env:=by rfl) (hpl:(backTo cpos (starEach es X.env)).any (·.1)=false:=by rfl) :
  PS X (.Raise (bt (.Call (.Name x p) (a::es) [] cpos)) gV pos) (u9 C sp E Ew t):=by
 intro J s Y H D I h;obtain⟨nm,q,N,bs,bm,sn,sub,ab,col,dd',k0,k1,k2,k3,k5,lk,tl,hbase⟩:=Mqa.obj;rw[Rx];show JT (MR (u4 (C:=C) (nm:=nm) (q:=q) (N:=N) (bs:=bs) (bm:=bm) (hdct:=true) (sn:=sn) (sub:=sub) (ab:=ab) (col:=col) (dd:=dd') (k0:=k0) (k1:=k1) (k2:=k2) (k3:=k3) (k5:=k5) (newId:="ValueError.__new__") hbase hh (JT ?_)));show KO (Q:=λv s'=>∃e dx vs sl,v=.ref e/\s'.heap.get? C=bt (excClassObj nm q C N bs bm true sn sub ab col dd' k0 k1 k2 k3 k5 "ValueError.__new__")/\s'.heap.get? e=bt #[.ref C,dx,.fields vs,sl]/\vs[1]?=bt .none/\X.xe (.ref e) s') ?_ (λv s3 h3=>JT (MR (JZ h3))) λ_ _ z=>z
 show Mb (bW I hg hm ?_ hdb);show Oj (h₀:=X.base) I.ok.mod.kin Mqa.kp (aD (ha cpos J s Y H _ I h) λus s1 #[vs,H1,I1,r,q]=>#[I1.kIn,?_]) he hpl
 show KO (kM (Q:=XQ s1.heap.objs.size C H1 Ew) Mqa F hr hb hx I1 r (by have:=r.length; have:=q.1; simp only[O1]; omega) λe n le=>q.2 _ e n le) (λv s2 #[v',H2,I2,rv,e,dd,ev,le,h2,hl,hE]=>?_) λ_ _ z=>z
 subst ev;obtain rfl:v=Kl e:=rv;obtain⟨ws,sl,a0,g1,g2,Yj⟩:=mX I1 le I2 h2 hl;exact#[e,dd,ws,sl,rfl,I2.kIn _ _ lk,g1,g2,hw _ _ _ _ _ _ _ _ Yj hE]
def sT (hh:X.A.handled=gV)(Mqa:XM X.K C f cd)(F:FnOk X.prog X.w X.K X.mg X.base CX k f fd ps sp)(hr:Room (k+1) X.A)(hg:Gl X x)(hm:X.mg x=bt (.ref C))(hb:Binds X.K fd ps [])(hx:fM CX X E)
  (hw:∀J Y H s a C dd a0,Air X J Y H s a C dd a0->Ew (.ref C) dd H->X.xe (.ref a) s) (hdb:(x==("__debug__" : J3))=false:=by decide) :
  PS X (.Raise (bt (.Call (.Name x p) [] [] cpos)) gV pos) (u9 C sp E Ew yG):=by
 intro J s Y H D I h;obtain⟨nm,q,N,bs,bm,sn,sub,ab,col,dd',k0,k1,k2,k3,k5,lk,tl,hbase⟩:=Mqa.obj;rw[Rx];show JT (MR (u4 (C:=C) (nm:=nm) (q:=q) (N:=N) (bs:=bs) (bm:=bm) (hdct:=true) (sn:=sn) (sub:=sub) (ab:=ab) (col:=col) (dd:=dd') (k0:=k0) (k1:=k1) (k2:=k2) (k3:=k3) (k5:=k5) (newId:="ValueError.__new__") hbase hh (JT ?_)));show KO (Q:=λv s'=>∃e dx vs sl,v=.ref e/\s'.heap.get? C=bt (excClassObj nm q C N bs bm true sn sub ab col dd' k0 k1 k2 k3 k5 "ValueError.__new__")/\s'.heap.get? e=bt #[.ref C,dx,.fields vs,sl]/\vs[1]?=bt .none/\X.xe (.ref e) s') ?_ (λv s3 h3=>JT (MR (JZ h3))) λ_ _ z=>z
 show Mb (bW I hg hm ?_ hdb);show Pr I.kIn Mqa.kp ?_;show KO (kM (us:=[]) (Q:=XQ s.heap.objs.size C H Ew) Mqa F hr hb hx I .nil (Mt _) λe n le=>h.2 _ e n le) (λv s2 #[v',H2,I2,rv,e,dd,ev,le,h2,hl,hE]=>?_) λ_ _ z=>z
 subst ev;obtain rfl:v=Kl e:=rv;obtain⟨ws,sl,a0,g1,g2,Yj⟩:=mX I le I2 h2 hl;exact#[e,dd,ws,sl,rfl,I2.kIn _ _ lk,g1,g2,hw _ _ _ _ _ _ _ _ Yj hE]
end
noncomputable abbrev qP (X:Cx)(a:td):Cx:={ X with A:=X.A.mark (bt (.ref a)),calm:=false,xe:=λ_ _=>KT }
section
variable{X:Cx}{J:JS (td×Ll)}{Y:L2.St}{H:Hp}{s:JV}{a C:td}{dd:JX td}{a0:JU}
def vd (I:L2.Inv X J Y H s):L2.Inv (qP X a) J Y H s:=by
 obtain⟨ok,i2,i3,i4,i5,i6,i7,i8,i9,i10,i11⟩:=I;show#[#[ok.mod,ok.kind,ok.glob,ok.blt,ok.above,ok.inj,ok.has,ok.cab,(λz=>nomatch z),ok.frames,ok.stk,ok.exf,ok.bs,ok.bsz,ok.noex,ok.exfs,ok.funs,ok.frf],i2,i3,i4,i5,i6,i7,i8,i9,i10,i11]
def yX (ok:X.Ok)(I:L2.Inv (qP X a) J Y H s):L2.Inv X J Y H s:=by
 obtain⟨_,i2,i3,i4,i5,i6,i7,i8,i9,i10,i11⟩:=I;exact#[ok,i2,i3,i4,i5,i6,i7,i8,i9,i10,i11]
def vf {Mqa:OC}{A:Kw}{E:JU->JV->Prop}{i:J4}{n:J3}{pos:LG}{Q:Q5->JV->Prop}(I:L2.Inv X J Y H s)(hN:X.N.Nodup)(hi:X.N[i]?=bt n)(hx:X.env.scope.names.lookup n=bt .local)
  (h:∀s',L2.Inv X J (Y.set i gV) H s'->Q () s'):wpAny Mqa A (do bindName X.env n .none; unbindBehindTheSuite X.env n pos) Q E s:=by
 unfold bindName unbindBehindTheSuite;show JT (JT (K5 (SA (JT (cZ (v:=.non) I hN hi (.inl hx) rfl (λs1 I1=>SA ?_) (.inr hx))))))
 show PF ?_;obtain⟨m,hn,hl⟩:=I1.loc;have hiσ:i < Y.length:=by rw[I.len]; exact(Kc.mp hi).1
 obtain⟨u,ru,lk⟩:=hl i n .non hi (by rw[M8 hiσ]) (.inl hx)
 have hv:m n=bt u:=by
  rcases lk with⟨_,z⟩|⟨z,_⟩
  ·exact z
  ·have z':X.env.scope.names.lookup n=bt .cell\/X.env.scope.names.lookup n=bt .free:=z;rw[hx]at z';rcases z' with z'|z' <;> cases z'
 show wpAny_unbindName_local hx hn hv (by rw[show X.env.scope.kind=.function from I.ok.kind]; rfl) λh' u' hn' hs=>h _ ?_
 obtain⟨ok,i2,i3,i4,i5,i6,i7,i8,i9,i10,i11⟩:=id I1;obtain⟨oL,_,_,hoL,_⟩:=id hn;have cne:=I1.cne;show#[ok,i2,i3,#[λb o e n hb hx=>?_,λb o e n hb hx=>?_,i4.free,λb o e hx=>?_,i4.tups,i4.frzs,i4.tbls],#[_,hn',λj y v' e1 e2 e3=>?_],λy c e=>?_,i7,i8,λp hp=>?_,λb ob e=>?_,?_]
 ·exact(hs.2 b (Kj (Km (J8 e) ok.above))).trans (i4.keep b o e n hb hx)
 ·obtain⟨sl,e1⟩:=i4.slot b o e n hb hx;exact#[sl,(hs.2 b (Kj (Km (J8 e) ok.above))).trans e1]
 ·obtain⟨o',e1⟩:=i4.there b o e hx;exact#[o',(hs.2 b (Kj (Km (J8 e) ok.above))).trans e1]
 ·have hj:j≠i:=λz=>by
   rw[z,M8 hiσ]at e2;cases e2
  rw[Nl (Ne.symm hj)]at e2;obtain⟨u2,r',q⟩:=hl j y v' e1 (by rw[Nl (Ne.symm hj)]; exact e2) e3
  show#[u2,r',?_];rcases q with⟨k,e⟩|⟨k,c,e,z⟩
  ·show .inl #[k,?_];have:y≠n:=λe=>hj (iY hN e1 (e ▸ hi))
   simp[this,e]
  ·exact .inr #[k,c,e,z.sameBut hs (cne y c e)]
 ·obtain⟨w',z⟩:=i6 y c e;exact#[w',z.sameBut hs (cne y c e)]
 ·obtain⟨e,n,ne,nf,d⟩:=i9 p hp;exact#[(hs.2 p.1 ne).trans e,n,ne,nf,d]
 ·show(i10 b ob e).stay (λc w' hc q=>(hs.2 c ?_).trans q) (λ_ q=>q) λ_ _ q=>q
  rintro rfl;rcases hc with hc|hc
  ·rw[<- hc,i7]at e; cases e
  ·rw[i7]at hc; cases hc
 ·rw[Q7]; exact I.len
end
structure XD (K:Frag)(D:td):Prop where
 tup:∀(Mqa:OC) h,K.In h->Looks Mqa h (isInstance (.ref D) (.type "tuple")) false
 exc:∀(Mqa:OC) h,K.In h->Looks Mqa h (isExcClass (.ref D)) true
def CH {Mqa:OC}{A:Kw}{K:Frag}{C e:td}{s:JV}{E:JU->JV->Prop}{D:td}{b:Kn}{Q:Kn->JV->Prop}(X:K.In s.heap)(I:Looks Mqa s.heap (typeOf (.ref e)) (.ref C))(T:XD K D)
  (hs:subIn K (.ref C) (.ref D)=bt b) (hq:Q b s):wpAny Mqa A (excMatches (.ref e) (.ref D)) Q E s:=by
 unfold excMatches;show JT ((T.tup Mqa _ X).here (JT (JZ ?_)));show JT ?_;simp only[N4,Oq];show JT (JT ((T.exc Mqa _ X).here ?_));show JZ (JZ ?_);show JT (I.here ?_);show JT (JT (JT ((looks_subIn X hs).here ?_)));cases b
 ·exact JZ (JZ (JZ hq))
 ·exact JZ (JZ (JZ hq))
section
variable{X:Cx}{J:JS (td×Ll)}{Y:L2.St}{H:Hp}{s:JV}
inductive Caught (X:Cx)(J:JS (td×Ll))(D:td)(i:J4)(b0:Lp)(suite:JS Lp)(Q:Tk->JV->Prop)(e:JU)(s1:JV):Prop
 | mk (a C:td) (dd:JX td) (a0:JU) (Y':L2.St) (H':Hp) (he:e=.ref a) (air:Air X J Y' H' s1 a C dd a0) (sub:subIn X.K (.ref C) (.ref D)=bt true)
   (run:∀s2,L2.Inv (qP X a) J (Y'.set i (bt (.ref a))) H' s2->wpAny (model X.prog X.w) (qP X a).A (execs (b0::suite) X.env)
    (λf s3=>∃Y3 H3,L2.Inv (qP X a) J Y3 H3 s3/\∀s4,L2.Inv X J (Y3.set i gV) H3 s4->Q f s4) (λ_ _=>KT) s2):Caught X J D i b0 suite Q e s1
def Fj {body suite:JS Lp}{b0:Lp}{c n:J3}{np hpos pos:LG}{D:td}{i:J4}{Q:Tk->JV->Prop}(hst:X.stack=X.env::X.outer)(hfr:X.env.frame=bt X.env.locals)(hN:X.N.Nodup)(hi:X.N[i]?=bt n)
  (hx:X.env.scope.names.lookup n=bt .local) (hg:Gl X c) (hm:X.mg c=bt (.ref D)) (T:XD X.K D)
  (hb:wpAny (model X.prog X.w) X.A (execs body X.env) Q (Caught X J D i b0 suite Q) s) (hdb:(c==("__debug__" : J3))=false:=by decide) :
  wpAny (model X.prog X.w) X.A (exec (.Try body [.ExceptHandler (bt (.Name c np)) (bt n) (b0::suite) hpos] [] [] pos) X.env) Q X.xe s:=by
 show wpAny_Try_except (KO hb (λf s1 q=>?_) λe s1 #[a,C,dd,a0,Y',H',he,Yj,sub,run]=>?_)
 ·cases f with
  | next=>exact JZ q
  | _=>exact q
 ·subst he;have I:=Yj.inv;have F0:X.A.frames=bt (X.env::X.outer):=by rw[<- hst]; exact I.ok.frames
  show CC (base:=X.base) F0 (by rw[<- hst]; exact I.stack) hfr Yj.fly λh1 m1 f1=>?_
  rw[<- hst]at m1;have Yx:=Yj.mv m1 f1;have I1:L2.Inv (qP X a) J Y' H' { s1 with heap:=h1 }:=vd Yx.inv
  show bW (X:=qP X a) I1 hg hm ?_ hdb;obtain⟨ws,sl,g1⟩:=f1.ex;show CH I1.kIn ((Looks.ld g1).andThen .now) T sub #[rfl,f1,λh3 m3 f3=>?_]
  rw[<- hst]at m3;have Yz:=Yx.mv m3 f3;have I2:L2.Inv (qP X a) J Y' H' { s1 with heap:=h3 }:=vd Yz.inv
  show cZ (X:=qP X a) (v:=.ref a) I2 hN hi (.inl hx) rfl (λs3 I3=>?_) (.inr hx)
  show KO (run s3 I3) (λf s4 #[Y3,H3,I4,q]=>?_) λ_ _ z=>z
  exact vf (yX Yj.inv.ok I4) hN hi hx λs5 I5=>q s5 I5
end
abbrev Ez (H:Hp)(a C:td)(dd:JX td):Prop:=(∃o,H a=bt (.frz o (.ext (Ex a C dd))))/\(dd=gV\/∃dx fs o,dd=bt dx/\H dx=bt (.frz o (.ext (Dx dx fs))))
def Bg {P:Ke}{w:Kr}{H:Hp}{h:KB}{a C:td}{dd:JX td}(x:Ez H a C dd)(k:HOk P w H h):∃ox od,InstAt h a ox C od:=by
 obtain⟨o0,x1⟩:=x.1;obtain⟨_,⟨ws,sl,q⟩,_,_⟩:=k a _ x1;rcases x.2 with rfl|⟨dx,fs,_,rfl,e⟩
 ·exact#[_,gV,#[q,rfl,rfl,trivial]]
 ·obtain⟨_,⟨mA,⟨o,_,_,q2,_⟩,_⟩,_⟩:=k dx _ e;exact#[_,bt o,#[q,rfl,rfl,q2]]
section
variable{X:Cx}
def kN:CallR X (.builtin "isinstance") (λvs H Q=>∃a C cd dd c b,vs=[.ref a,c]/\XK X.K C cd/\Ez H a C dd/\((∃D,c=.ref D/\XT X.K C (.ref D) b)\/(∃T,c=.ty T/\XT X.K C (.type T) b))/\Q (.bl b) H):=by
 intro J s Y H vs us Q I r ⟨a,C,cd,dd,c,b,ev,Yj,x,hc,hq⟩;subst ev;obtain⟨u,v,rfl,ru,rv⟩ : ∃u v,us=[u,v]/\RelV (.ref a) u/\RelV c v:=by
  cases r with
  | cons r1 r'=>cases r' with
   | cons r2 r''=>cases r''; exact#[_,_,rfl,r1,r2]
 obtain rfl:u=Kl a:=ru;obtain⟨ox,od,tx⟩:=Bg x I.hok;rcases hc with⟨D,rfl,T⟩|⟨D,rfl,T⟩
 ·obtain rfl:v=Kl D:=rv;exact Fi Yj T I.kIn tx λtk=>#[.bl b,H,I.tok tk,rfl,hq]
 ·obtain rfl:v=Mp D:=rv;exact Fi Yj T I.kIn tx λtk=>#[.bl b,H,I.tok tk,rfl,hq]
def kO:∀ {ds:JS td} {us:JS JU},Vals (ds.map V.ref) us->us=ds.map Kl
 | [],_,r=>by cases r; rfl
 | d::ds,_,r=>by
  cases r with
  | cons a b=>rw[kO b,show _=Kl d from a]; rfl
def pg:CallR X (.builtin "isinstance") (λvs H Q=>∃(a C:td) (cd:LM) (dd:JX td) (tp:td) (ds:JS td) (bs:JS Kn),vs=[.ref a,.ref tp]/\XK X.K C cd/\Ez H a C dd/\H tp=bt (.tup (ds.map V.ref))/\X.base.get? C≠gV/\XTs X.K C (ds.map Kl) bs/\Q (.bl (bs.any id)) H):=by
 intro J s Y H vs us Q I r ⟨a,C,cd,dd,tp,ds,bs,ev,Yj,x,ht,hC,T,hq⟩;subst ev;obtain⟨u,v,rfl,ru,rv⟩ : ∃u v,us=[u,v]/\RelV (.ref a) u/\RelV (.ref tp) v:=by
  cases r with
  | cons r1 r'=>cases r' with
   | cons r2 r''=>cases r''; exact#[_,_,rfl,r1,r2]
 obtain rfl:u=Kl a:=ru;obtain rfl:v=Kl tp:=rv;obtain⟨ox,od,tx⟩:=Bg x I.hok;obtain⟨_,its,rl,o,q,qc,n,qd⟩:=I.hok tp _ ht;obtain rfl:=kO rl;have ne:C≠tp:=λz=>by
  cases e:X.base.get? C with
  | none=>exact hC e
  | some o=>rw[z]at e; have:=(I.bs tp o e).2; rw[ht]at this; cases this
 obtain⟨c,d',dt,sl⟩:=o;cases qc;cases qd;exact u5 Yj T ne q I.kIn tx λtk=>#[.bl (bs.any id),H,I.tok tk,rfl,hq]
def ph {y:V}{v:JU}(r:RelV y v):handedIn v=true:=by
 cases y with
 | non=>rw[show v=_ from r]; rfl
 | bl b=>rw[show v=_ from r]; rfl
 | int i=>obtain⟨t,rfl⟩:=r; rfl
 | str x=>obtain⟨t,rfl⟩:=r; rfl
 | byt b=>obtain⟨t,rfl⟩:=r; rfl
 | flt b=>obtain⟨t,rfl⟩:=r; rfl
 | ref a=>rw[show v=_ from r]; rfl
 | ty n=>rw[show v=_ from r]; rfl
abbrev CI (K:Frag)(te:TE)(f:J3):TE:=λY H Q=>te Y H λv H1=>∃a C cd dx fs y o o',v=.ref a/\XK K C cd/\findIn K (.ref C) f=bt gV/\H1 a=bt (.frz o (.ext (Ex a C (bt dx))))/\H1 dx=bt (.frz o' (.ext (Dx dx fs)))/\fs.lookup f=bt y/\Q y H1
def vg {e:Kd}{te:TE}{f:J3}{pos:LG}(he:PE X e te)(hb:attributeBase e f X.env (eval e X.env)=eval e X.env):PE X (.Attribute e f pos) (CI X.K te f):=by
 intro J s Y H Q I h;show yF hb (aD (he J s Y H _ I h) λu s1 #[x,H1,I1,rx,a,C,cd,dx,fs,y,o,o',ex,Yj,hf,e1,e2,hl,hq]=>?_)
 subst ex;obtain rfl:u=Kl a:=rx;obtain⟨_,⟨ws,sl,q⟩,_,_⟩:=I1.hok a _ e1;obtain⟨_,⟨mA,n1,n2,_⟩,_,_⟩:=I1.hok dx _ e2;have z:=n2 f;rw[hl]at z;cases hv:mA f with
 | none=>rw[hv]at z; exact z.elim
 | some v=>
  rw[hv]at z;exact Io I1.kIn q n1 Yj.ga Yj.hk Yj.cls Yj.mro Yj.dct hf hv (ph z) #[y,H1,I1.tok _,z,hq]
end
structure XL (K:Frag)(CL:td)(mc:JU):Prop where
 ga:specialIn K (.ref CL) "__getattribute__" = bt (bt (.builtin "type.__getattribute__"))
 rd:readsIn K CL mc=true
 fc:findCls K (.ref CL) mc "__init__" = bt (.val (.builtin "ValueError.__init__"))
abbrev vh (K:Frag)(g:J3):Sp:=λvs H Q _=>∃e y C cd,vs=[.ref e,y]/\XC K C cd/\findIn K (.ref C) g=bt gV/\H e=bt (.ext (Fx e C gV))/\∀dx,H dx=gV->Q .non (ay (ay H e (.ext (Fx e C (bt dx)))) dx (.ext (Dx dx [(g,y)])))
abbrev yY (K:Frag):Sp:=λvs H Q _=>∃e C cd,vs=[.ref e]/\XC K C cd/\H e=bt (.ext (Fx e C gV))/\Q .non H
end Xc
namespace Mi
open PySem PySem.Spec PyProof.Rows L2
abbrev jl (t:Nr)(n:J4):Kn:=decide (M3 t.place 0=0)&&(LK n).all λi=>decide (M3 t.place (t.place.getD i 0+1)=i+1)
abbrev fO (w:Kr):Kn:=w.params.followText "set-order"
abbrev Jx (w:Kr)(e:Kk×JU):Prop:=∃x tk,e=(hashStr w x,.str x tk)
structure Tabs (w:Kr)(xs:JS J3)(es:KP (Kk×JU))(t:Nr):Prop where
 el:∀e∈es.toList,Jx w e
 pm:(es.toList.map λe=>strOf e.2).Perm xs
 nd:xs.Nodup
 few:xs.length < scanBound
 fit:t.fits es.size=true
 led:t.led = !fO w
 pl:t.plain=true->es.size=0
abbrev b7 (w:Kr)(xs:JS J3)(o:Ll):Prop:=o.ExactSet/\∃es ep t,o.data=.set es ep t/\Tabs w xs es t
section
variable{prog:Ke}{w:Kr}{A:Kw}{E:JU->JV->Prop}{s:JV}{xs:JS J3}{es:KP (Kk×JU)}{t:Nr}
def yZ {x y:J3}{tk:R4}:(LV prog w).is x (.str y tk)=true↔y=x:=by
 show(y==x)=true↔y=x;exact Ma
def Tabs.elems (h:Tabs w xs es t):ElemsOf (LV prog w) es.toList:=λe he=>by
 obtain⟨x,tk,rfl⟩:=h.el e he;exact#[#[x,yZ.mpr rfl,rfl],rfl]
def Tabs.size (h:Tabs w xs es t):es.size=xs.length:=by rw[<- h.pm.length_eq,J6,Kh]
def Tabs.has (h:Tabs w xs es t)(x:J3):(∃e∈es.toList,(LV prog w).is x e.2=true)↔x∈xs:=by
 rw[<- h.pm.mem_iff,MQ];constructor
 ·rintro⟨e,he,q⟩;obtain⟨y,tk,rfl⟩:=h.el e he;exact#[_,he,yZ.mp q]
 ·rintro⟨e,he,q⟩;obtain⟨y,tk,rfl⟩:=h.el e he;exact#[_,he,yZ.mpr q]
def pk (t:Nr)(es:KP (Kk×JU))(h:Kk)(x:JU):(layNew t es h x).2.1.led=t.led:=by
 unfold layNew;split
 ·unfold SU;dsimp only;split <;> rfl
 ·rfl
def sU (t:Nr)(es:KP (Kk×JU))(n:J4):(relayAll t es n).2.1.led=t.led/\((relayAll t es n).2.1.plain=true->t.plain=true):=by
 unfold relayAll;split
 ·rename_i t' order h;dsimp only;split
  ·unfold Ts TB at h;rw[Option.bind_eq_bind,Option.bind_eq_some_iff]at h;obtain⟨ow,_,h⟩:=h;cases h;exact#[rfl,λz=>z]
  ·exact#[rfl,λz=>by cases z]
 ·exact#[rfl,λz=>by cases z]
def qQ {a:td}{o:Ll}{es1:KP (Kk×JU)}{ep:J4}{t1:Nr}{Q:Q5->JV->Prop}(ho:s.heap.get? a=bt o)(hex:o.ExactSet)(hd:o.data=.set es ep t)(T:Tabs w xs es1 t1)
  (h:∀h',LW a s.heap h'->h'.get? a=bt { o with data:=.set es1 (ep+1) t1 }->Q () { s with heap:=h' }):wpAny (model prog w) A (storeSet a es1 t1) Q E s:=by
 show wpAny_storeSet_of ho hd (h _ (MZ ..) ?_) (by rw[T.size]; exact Qm T.few)
 have:=Ld (Obj.putSet es1 t1) ho (by rw[putSet_of es1 t1 hd]; rfl)
 rw[putSet_of es1 t1 hd]at this;exact this
def y4 {a:td}{o:Ll}{x:J3}{tk:R4}{Q:Kn->JV->Prop}(ho:s.heap.get? a=bt o)(hS:b7 w xs o)(hr:xs.length+1 < scanBound)
  (h:∀b h' o',LW a s.heap h'->h'.get? a=bt o'->b7 w (if x∈xs then xs else xs++[x]) o'->Q b { s with heap:=h' }):wpAny (model prog w) A (setAddHashed a (.str x tk) (hashStr w x)) Q E s:=by
 obtain⟨hex,es,ep,t,hd,T⟩:=hS;have hk:(LV prog w).is x (.str x tk)=true:=yZ.mpr rfl;have hx:=T.has (prog:=prog) x;unfold setAddHashed setAddHashedIn;show K5 (JT (Mn ho hd T.fit ?_));dsimp only;rw[byScan_of (knd:=LV prog w) rfl (by rw[T.size]; exact T.few) T.elems]
 simp only[↓reduceIte];unfold setAddByScan;show JT (JT (M9 (JT (wpAny_setScan_of (knd:=LV prog w) hk ho hd T.fit T.elems ?_))));cases q:es.toList.findIdx? (λe=>(LV prog w).is x e.2)with
 | some j=>
  obtain⟨hj,hp,_⟩:=NI.mp q;have hm:x∈xs:=hx.mp #[_,Nu hj,hp];dsimp only;have:=h false s.heap o (Qn ..) ho (by rw[Ks hm]; exact#[hex,es,ep,t,hd,T])
  exact JZ (JZ this)
 | none=>
  have hm:x∉xs:=λz=>by
   obtain⟨e,he,hp⟩:=hx.mpr z;rw[List.findIdx?_eq_none_iff.mp q e he]at hp;cases hp
  rw[Kv hm]at h;dsimp only;have lp:=layNew_perm t es (hashStr w x) (.str x tk);have lf:=layNew_fits t es (hashStr w x) (.str x tk);have ll:=pk t es (hashStr w x) (.str x tk);have hgen:∀(b:Kn) {s₁:JV} {Q':Q5->JV->Prop},Q' () s₁->wpAny (model prog w) A (match b with|true=>rule "set.scan.the-table-gave-way"|false=>pure ()) Q' E s₁:=λb s₁ Q' hq=>by cases b <;> first|exact JZ hq|exact M9 hq
  generalize hL:layNew t es (hashStr w x) (.str x tk)=L at lp lf ll ⊢;obtain⟨es1,t1,dm,gv⟩:=L;dsimp only at lp lf ll ⊢;rw[Qo]at lp;have T1:∀p,Tabs w (xs++[x]) es1 { t1 with plain:=p }\/p=true:=λp=>by
   cases p with
   | true=>exact .inr rfl
   | false=>
    show .inl #[λe he=>?_,(lp.map λe=>strOf e.2).trans ?_,?_,by simpa using hr,R6 lf,ll.trans T.led,λz=>by cases z]
    ·rcases KU.mp (lp.mem_iff.mp he)with he|he
     ·exact T.el e he
     ·rw[Ky.mp he]; exact#[x,tk,rfl]
    ·rw[L4];exact T.pm.append_right _
    ·exact NM.mpr #[T.nd,by simp,λy hy z hz e=>hm (by rw[Ky.mp hz]at e; exact e ▸ hy)]
  have fin:∀(g:Kn->RM Q5),(∀(b:Kn) (s₁:JV) (Q':Q5->JV->Prop),Q' () s₁->wpAny (model prog w) A (g b) Q' E s₁)->∀t2:Nr,Tabs w (xs++[x]) es1 t2->wpAny (model prog w) A (do
    storeSet a es1 t2
    if (!dm&&t2.tooFull)=true then do
      g (relayAll t2 es1 (M4 es1.size)).2.2
      storeSet a (relayAll t2 es1 (M4 es1.size)).1 (relayAll t2 es1 (M4 es1.size)).2.1
      pure (bt true)
     else pure (bt true)) (λr s'=>wpAny (model prog w) A (match r with|some b=>pure b|none=>setAddHashedIn a (.str x tk) (hashStr w x) 99999) Q E s') E s:=λg hg t2 T2=>by
   show JT (qQ ho hex hd T2 λh1 sb1 o1=>?_)
   show MK (λ_=>?_) (λ_=>JZ (JZ (h _ _ _ sb1 o1 #[hex,_,_,_,rfl,T2])))
   have rp:=relayAll_perm t2 es1 (M4 es1.size);have rf:=relayAll_fits t2 es1 (M4 es1.size);have rt:=sU t2 es1 (M4 es1.size);generalize hR:relayAll t2 es1 (M4 es1.size)=R at rp rf rt ⊢;obtain⟨es2,t3,g2⟩:=R;dsimp only at rp rf rt ⊢;have T3:Tabs w (xs++[x]) es2 t3:=#[λe he=>T2.el e (rp.mem_iff.mp he),(rp.map _).trans T2.pm,T2.nd,T2.few,rf,rt.1.trans T2.led,λz=>by
    have:=T2.pl (rt.2 z);rw[<- Kh,rp.length_eq,Kh]; exact this]
   show JT (hg _ _ _ ?_);show JT (qQ o1 hex rfl T3 λh2 sb2 o2=>?_)
   exact JZ (JZ (h _ _ _ (sb1.trans sb2) o2 #[hex,_,_,_,rfl,T3]))
  show JT (hgen _ ?_);split
  ·show JT ?_;rw[hashByValue_scannable 8 rfl];show JZ ?_;exact fin _ (λb _ _ hq=>hgen b hq) _ ((T1 false).resolve_right Kg)
  ·rename_i hp;show JT (JZ ?_);have e:({ t1 with plain:=false }:Nr)=t1:=by
    obtain⟨_,_,_,_,_,_,p⟩:=t1;cases p with
    | false=>rfl
    | true=>exact absurd rfl hp
   simp only[↓reduceIte];exact fin _ (λb _ _ hq=>hgen b hq) _ (e ▸ (T1 false).resolve_right Kg)
end
inductive W where
 | non|bl (b:Kn)|int (i:Kk)|str (x:J3)|tup (xs:JS W)|ref (i:J4)
inductive T where
 | int (i:Kk)|str (x:J3)|tup (xs:JS T)
mutual
def T.beq:T->T->Kn
 | .int i,.int j=>i==j
 | .str x,.str y=>x==y
 | .tup xs,.tup ys=>T.beqs xs ys
 | _,_=>false
def T.beqs:JS T->JS T->Kn
 | [],[]=>true
 | x::xs,y::ys=>T.beq x y&&T.beqs xs ys
 | _,_=>false
end
mutual
theorem T.beq_iff:∀x y:T,T.beq x y=true↔x=y
 | .int i,.int j=>by simp[T.beq]
 | .str x,.str y=>by simp[T.beq]
 | .tup xs,.tup ys=>by simp[T.beq,T.beqs_iff xs ys]
 | .int _,.str _|.int _,.tup _|.str _,.int _|.str _,.tup _|.tup _,.int _|.tup _,.str _=>by simp[T.beq]
theorem T.beqs_iff:∀xs ys:JS T,T.beqs xs ys=true↔xs=ys
 | [],[]=>by simp[T.beqs]
 | x::xs,y::ys=>by simp[T.beqs,T.beq_iff x y,T.beqs_iff xs ys]
 | [],_::_|_::_,[]=>by simp[T.beqs]
end
noncomputable instance:Nk T:=λx y=>decidable_of_iff (T.beq x y=true) (T.beq_iff x y)
mutual
def T.w:T->W
 | .int i=>.int i
 | .str x=>.str x
 | .tup xs=>.tup (T.ws xs)
def T.ws:JS T->JS W
 | []=>[]
 | x::xs=>T.w x::T.ws xs
end
mutual
def W.t:W->JX T
 | .int i=>bt (.int i)
 | .str x=>bt (.str x)
 | .tup xs=>(W.ts xs).map .tup
 | _=>gV
def W.ts:JS W->JX (JS T)
 | []=>bt []
 | x::xs=>match W.t x,W.ts xs with
  | some y,bt ys=>bt (y::ys)
  | _,_=>gV
end
mutual
theorem W.t_w:∀ {w:W} {k:T},W.t w=bt k->k.w=w
 | .int i,_,h=>by cases h; rfl
 | .str x,_,h=>by cases h; rfl
 | .tup xs,_,h=>by
  simp only[W.t,J0]at h;obtain⟨ks,h1,h2⟩:=h;subst h2;simp only[T.w,W.ts_w h1]
 | .non,_,h|.bl _,_,h|.ref _,_,h=>by cases h
theorem W.ts_w:∀ {ws:JS W} {ks:JS T},W.ts ws=bt ks->T.ws ks=ws
 | [],_,h=>by cases h; rfl
 | w::ws,_,h=>by
  simp only[W.ts]at h;split at h
  ·rename_i y ys h1 h2;cases h;simp only[T.ws,W.t_w h1,W.ts_w h2]
  ·cases h
end
mutual
def T.depth:T->J4
 | .tup xs=>T.depths xs+1
 | _=>0
def T.depths:JS T->J4
 | []=>0
 | x::xs=>max (T.depth x) (T.depths xs)
end
mutual
def T.draws:T->J4
 | .tup xs=>T.drawss xs+1
 | _=>1
def T.drawss:JS T->J4
 | []=>0
 | x::xs=>T.draws x+T.drawss xs
end
mutual
def mY (wd:Kr):T->Kk
 | .int i=>hashInt i
 | .str x=>hashStr wd x
 | .tup xs=>reduceHash (Ox (jm wd xs))
def jm (wd:Kr):JS T->JS Kk
 | []=>[]
 | x::xs=>mY wd x::jm wd xs
end
abbrev T.isTup:T->Kn
 | .tup _=>true
 | _=>false
abbrev aO:J4:=6
inductive O where
 | lst (xs:JS W)
 | fro (xs:JS W)
 | sts (xs:JS J3)
 | rng (lo hi:Kk)
 | dic (U:JS (T×W))
 | frd (U:JS (T×W))
 | dis (U:JS (J3×Kk))
 | exc (cn:J3) (C:td) (gs:JS J3) (ws:JS W)
noncomputable abbrev aa:=JS O
noncomputable abbrev Fm:=JS (JX W)
section
variable (K:J2) (A:JS td) (H:Hp)
mutual
inductive Rel:W->V->Prop
 | non:Rel .non .non
 | bl {b:Kn}:Rel (.bl b) (.bl b)
 | int {i:Kk}:Rel (.int i) (.int i)
 | str {x:J3}:Rel (.str x) (.str x)
 | tup {ws:JS W} {a:td} {vs:JS V}:SqT K H a vs->RelL ws vs->Rel (.tup ws) (.ref a)
 | ref {i:J4} {a:td}:A[i]?=bt a->Rel (.ref i) (.ref a)
inductive RelL:JS W->JS V->Prop
 | nil:RelL [] []
 | cons {w:W} {v:V} {ws:JS W} {vs:JS V}:Rel w v->RelL ws vs->RelL (w::ws) (v::vs)
end
end
section
variable{K:J2}{A A' A'':JS td}{H H' H'':Hp}
structure Ext (K:J2)(A:JS td)(H:Hp)(A':JS td)(H':Hp):Prop where
 ad:∀(i:J4) (a:td),A[i]?=bt a->A'[i]?=bt a
 tp:∀(a:td) (vs:JS V),SqT K H a vs->SqT K H' a vs
 fz:∀(a:td) (o:Ll) (u:HO),H a=bt (.frz o u)->H' a=bt (.frz o u)
def Ext.refl:Ext K A H A H:=#[λ_ _ h=>h,λ_ _ h=>h,λ_ _ _ h=>h]
def Ext.trans (e:Ext K A H A' H')(f:Ext K A' H' A'' H''):Ext K A H A'' H'':=#[λi a h=>f.ad i a (e.ad i a h),λa vs h=>f.tp a vs (e.tp a vs h),λa o u h=>f.fz a o u (e.fz a o u h)]
mutual
theorem Rel.mono (e:Ext K A H A' H'):∀ {w:W} {v:V},Rel K A H w v->Rel K A' H' w v
 | _,_,.non=>.non
 | _,_,.bl=>.bl
 | _,_,.int=>.int
 | _,_,.str=>.str
 | _,_,.tup h r=>.tup (e.tp _ _ h) (RelL.mono e r)
 | _,_,.ref h=>.ref (e.ad _ _ h)
theorem RelL.mono (e:Ext K A H A' H'):∀ {ws:JS W} {vs:JS V},RelL K A H ws vs->RelL K A' H' ws vs
 | _,_,.nil=>.nil
 | _,_,.cons r t=>.cons (Rel.mono e r) (RelL.mono e t)
end
def RelL.length:∀ {ws:JS W} {vs:JS V},RelL K A H ws vs->ws.length=vs.length
 | _,_,.nil=>rfl
 | _,_,.cons _ t=>by simp[RelL.length t]
def RelL.get:∀ {ws:JS W} {vs:JS V} {i:J4} {w:W},RelL K A H ws vs->ws[i]?=bt w->∃v,vs[i]?=bt v/\Rel K A H w v
 | _,_,_,_,.nil,e=>by simp at e
 | _,_,0,_,.cons r _,e=>by simp at e; subst e; exact#[_,rfl,r]
 | _,_,i+1,w,.cons _ t,e=>by
  obtain⟨u,h1,h2⟩:=RelL.get (i:=i) (w:=w) t (by simpa using e)
  exact#[u,by simpa using h1,h2]
def RelL.append:∀ {xs ys:JS W} {us ws:JS V},RelL K A H xs us->RelL K A H ys ws->RelL K A H (xs++ys) (us++ws)
 | _,_,_,_,.nil,s=>s
 | _,_,_,_,.cons r t,s=>.cons r (RelL.append t s)
def RelL.take:∀ {xs:JS W} {us:JS V} (n:J4),RelL K A H xs us->RelL K A H (xs.take n) (us.take n)
 | _,_,0,_=>.nil
 | _,_,_+1,.nil=>.nil
 | _,_,n+1,.cons r t=>.cons r (RelL.take n t)
def RelL.drop:∀ {xs:JS W} {us:JS V} (n:J4),RelL K A H xs us->RelL K A H (xs.drop n) (us.drop n)
 | _,_,0,r=>r
 | _,_,_+1,.nil=>.nil
 | _,_,n+1,.cons _ t=>RelL.drop n t
def RelL.set {x:W}{u:V}(r:Rel K A H x u):∀ {xs:JS W} {us:JS V} (i:J4),RelL K A H xs us->RelL K A H (xs.set i x) (us.set i u)
 | _,_,_,.nil=>.nil
 | _,_,0,.cons _ t=>.cons r t
 | _,_,i+1,.cons q t=>.cons q (RelL.set r i t)
def RelL.rep {xs:JS W}{us:JS V}(h:RelL K A H xs us):∀k:J4,RelL K A H (KZ k xs).flatten (KZ k us).flatten
 | 0=>.nil
 | k+1=>by
  rw[L3,L3,MN,MN];exact RelL.append h (RelL.rep h k)
abbrev FroL (K:J2)(H:Hp)(a:td)(vs:JS V):Prop:=
 (∃o,H a=bt (.frz o (.lst vs)))\/
  ∃(o:Ll) (its:KP JU) (n:J4),K.lookup a=bt o/\o.cls=.type "list"/\o.dict=gV/\o.data=.seq its n/\its.size<=sizeLine/\Vals vs its.toList
def FroL.sq {a:td}{vs:JS V}(h:FroL K H a vs):SqL K H a vs:=by
 rcases h with⟨o,h⟩|h
 ·exact .inl (.inr #[o,h])
 ·exact .inr h
abbrev vi (wd:Kr)(x:T×td×JU):Lm:=#[mY wd x.1,.ref x.2.1,x.2.2]
abbrev DicAt (wd:Kr)(a:td)(xs:JS (T×td×JU))(h:KB):Prop:=
 xs.length<=sizeLine/\(a==sysModules)=false/\(xs.map (·.1)).Nodup/\∃o es ep,h.get? a=bt o/\o.ExactDict/\o.data=.dict es ep/\es.toList=xs.map (vi wd)
abbrev dU (wd:Kr)(a:td)(xs:JS (T×td×JU)):HO:=.ext (DicAt wd a xs)
abbrev KRel (K:J2)(A:JS td)(H:Hp):JS (T×W)->JS (T×td×JU)->Prop:=
 OQ λ(p:T×W) (q:T×td×JU)=>p.1=q.1/\p.1.isTup=true/\p.1.depth<=aO/\Rel K A H p.1.w (.ref q.2.1)/\∃v,Rel K A H p.2 v/\RelV v q.2.2
def KRel.mono (e:Ext K A H A' H'){U:JS (T×W)}{xs:JS (T×td×JU)}(h:KRel K A H U xs):KRel K A' H' U xs:=
 Paired.mapP h λ_ _ #[h1,h2,h3,h4,v,h5,h6]=>#[h1,h2,h3,h4.mono e,v,h5.mono e,h6]
variable{wd:Kr}
abbrev cf (U:JS (J3×Kk)):JS (eQ×V):=U.map λp=>(.inr p.1,.int p.2)
abbrev ObjRel (wd:Kr)(K:J2)(A:JS td)(H:Hp)(a:td):O->Prop
 | .lst ws=>∃vs,H a=bt (.lst vs)/\RelL K A H ws vs
 | .fro ws=>∃vs,FroL K H a vs/\RelL K A H ws vs
 | .sts xs=>∃o φ,H a=bt (.frz o (.ext φ))/\b7 wd xs o
 | .rng lo hi=>H a=bt (.rng lo hi)
 | .dis U=>H a=bt (.dK (cf U))
 | .dic U=>∃xs,H a=bt (dU wd a xs)/\KRel K A H U xs
 | .frd U=>∃o xs,H a=bt (.frz o (dU wd a xs))/\KRel K A H U xs
 | .exc _ C gs ws=>∃o dd,H a=bt (.frz o (.ext (Xc.Ex a C dd)))/\((dd=gV/\gs=[])\/∃dx od vs,dd=bt dx/\H dx=bt (.frz od (.ext (Xc.Dx dx (gs.zip vs))))/\RelL K A H ws vs)
abbrev O.mut:O->Kn
 | .fro _=>false
 | .sts _=>false
 | .rng _ _=>false
 | .frd _=>false
 | .exc _ _ _ _=>false
 | _=>true
structure StoreOk (wd:Kr)(K:J2)(A:JS td)(H:Hp)(S:aa):Prop where
 len:A.length=S.length
 nd:∀(i j:J4) (a:td) (o u:O),S[i]?=bt o->o.mut=true->S[j]?=bt u->u.mut=true->A[i]?=bt a->A[j]?=bt a->i=j
 obj:∀(i:J4) (o:O) (a:td),S[i]?=bt o->A[i]?=bt a->ObjRel wd K A H a o
abbrev EnvRel (K:J2)(A:JS td)(H:Hp)(Z:Fm)(Y:L2.St):Prop:=
 Z.length=Y.length/\∀(i:J4) (w:W),Z[i]?=bt (bt w)->∃v,Y[i]?=bt (bt v)/\Rel K A H w v
def EnvRel.mono {Z:Fm}{Y:L2.St}(e:Ext K A H A' H')(h:EnvRel K A H Z Y):EnvRel K A' H' Z Y:=
 #[h.1,λi w q=>let ⟨v,a,b⟩:=h.2 i w q; #[v,a,b.mono e]]
def EnvRel.set {Z:Fm}{Y:L2.St}{w:W}{v:V}(h:EnvRel K A H Z Y)(r:Rel K A H w v)(i:J4):EnvRel K A H (Z.set i (bt w)) (Y.set i (bt v)):=by
 show#[by simp[h.1],λj w' q=>?_]
 rw[LY]at q ⊢
 by_cases e:i=j
 ·subst e;rw[Ks rfl]at q ⊢
  by_cases hl:i < Z.length
  ·rw[Ks hl]at q;rw[Ks (h.1 ▸ hl)];cases q;exact#[v,rfl,r]
  ·rw[Kv hl]at q; cases q
 ·rw[Kv e]at q ⊢;exact h.2 j w' q
abbrev Wr (H:Hp)(p:td):Prop:=H p=gV\/(∃xs,H p=bt (.lst xs))\/(∃φ,H p=bt (.ext φ))\/∃ks,H p=bt (.dK ks)
def Wr.lst {p:td}{xs:JS V}(h:H p=bt (.lst xs)):Wr H p:=.inr (.inl #[xs,h])
def Wr.ext {p:td}{φ:KB->Prop}(h:H p=bt (.ext φ)):Wr H p:=.inr (.inr (.inl #[φ,h]))
def Wr.dk {p:td}{ks:JS (eQ×V)}(h:H p=bt (.dK ks)):Wr H p:=.inr (.inr (.inr #[ks,h]))
def Wr.ne_tup {p a:td}{xs:JS V}(hp:Wr H p)(h:H a=bt (.tup xs)):a≠p:=by
 intro e; subst e
 rcases hp with q|⟨xs,q⟩|⟨φ,q⟩|⟨ks,q⟩ <;> (rw[h]at q; cases q)
def Wr.ne_frz {p a:td}{o:Ll}{u:HO}(hp:Wr H p)(h:H a=bt (.frz o u)):a≠p:=by
 intro e; subst e
 rcases hp with q|⟨xs,q⟩|⟨φ,q⟩|⟨ks,q⟩ <;> (rw[h]at q; cases q)
def Wr.ne_rng {p a:td}{lo hi:Kk}(hp:Wr H p)(h:H a=bt (.rng lo hi)):a≠p:=by
 intro e; subst e
 rcases hp with q|⟨xs,q⟩|⟨φ,q⟩|⟨ks,q⟩ <;> (rw[h]at q; cases q)
def qR {p:td}{o:HO}(hp:Wr H p){a:td}{vs:JS V}(h:SqT K H a vs):SqT K (ay H p o) a vs:=by
 rcases h with(h|⟨o',h⟩)|h
 ·exact .inl (.inl (by rw[aj (hp.ne_tup h)]; exact h))
 ·exact .inl (.inr #[o',by rw[aj (hp.ne_frz h)]; exact h])
 ·exact .inr h
def vj {p:td}{o:HO}(hp:Wr H p){a:td}{vs:JS V}(h:FroL K H a vs):FroL K (ay H p o) a vs:=by
 rcases h with⟨o',h⟩|h
 ·exact .inl #[o',by rw[aj (hp.ne_frz h)]; exact h]
 ·exact .inr h
def aL {p:td}{o:HO}(hp:Wr H p):Ext K A H A (ay H p o):=#[λ_ _ h=>h,λ_ _ h=>qR hp h,λ_ _ _ h=>by rw[aj (hp.ne_frz h)]; exact h]
def cr {p:td}{o:HO}(hp:H p=gV):Ext K A H (A++[p]) (ay H p o):=
 #[λi a h=>by rw[KY (Kc.mp h).1]; exact h,λ_ _ h=>qR (.inl hp) h,λ_ _ _ h=>by rw[aj (Wr.ne_frz (.inl hp) h)]; exact h]
def ObjRel.keep {p a:td}{o:HO}{b:O}(hp:Wr H p)(hne:b.mut=true->a≠p)(e:Ext K A H A' (ay H p o))(h:ObjRel wd K A H a b):ObjRel wd K A' (ay H p o) a b:=by
 cases b with
 | lst ws=>
  obtain⟨vs,q,r⟩:=h;exact#[vs,by rw[aj (hne rfl)]; exact q,r.mono e]
 | fro ws=>
  obtain⟨vs,q,r⟩:=h;exact#[vs,vj hp q,r.mono e]
 | sts xs=>
  obtain⟨ob,φ,q,r⟩:=h;exact#[ob,φ,by rw[aj (hp.ne_frz q)]; exact q,r]
 | rng lo hi=>
  have h:H a=bt (.rng lo hi):=h;change ay H p o a=bt (.rng lo hi);rw[aj (hp.ne_rng h)];exact h
 | dic U=>
  obtain⟨xs,q,r⟩:=h;exact#[xs,by rw[aj (hne rfl)]; exact q,r.mono e]
 | frd U=>
  obtain⟨ob,xs,q,r⟩:=h;exact#[ob,xs,by rw[aj (hp.ne_frz q)]; exact q,r.mono e]
 | dis U=>
  have h:H a=bt (.dK (cf U)):=h;change ay H p o a=bt (.dK (cf U));rw[aj (hne rfl)];exact h
 | exc cn C gs ws=>
  obtain⟨ob,dd,q,r⟩:=h;show#[ob,dd,by rw[aj (hp.ne_frz q)]; exact q,?_]
  rcases r with r|⟨dx,od,vs,e1,e2,e3⟩
  ·exact .inl r
  ·exact .inr #[dx,od,vs,e1,by rw[aj (hp.ne_frz e2)]; exact e2,e3.mono e]
def ObjRel.there {a:td}{b:O}(h:ObjRel wd K A H a b)(hm:b.mut=true):H a≠gV:=by
 cases b with
 | lst ws=>obtain⟨vs,q,r⟩:=h; rw[q]; intro z; cases z
 | fro ws=>cases hm
 | sts ws=>cases hm
 | rng lo hi=>cases hm
 | dic U=>obtain⟨vs,q,r⟩:=h; rw[q]; intro z; cases z
 | dis U=>have q:H a=bt (.dK (cf U)):=h; rw[q]; intro z; cases z
 | frd ws=>cases hm
 | exc cn C gs ws=>cases hm
def ObjRel.wr {a:td}{b:O}(h:ObjRel wd K A H a b)(hm:b.mut=true):Wr H a:=by
 cases b with
 | lst ws=>obtain⟨vs,q,r⟩:=h; exact .lst q
 | fro ws=>cases hm
 | sts ws=>cases hm
 | rng lo hi=>cases hm
 | dic U=>obtain⟨vs,q,r⟩:=h; exact .ext q
 | dis U=>exact .dk h
 | frd ws=>cases hm
 | exc cn C gs ws=>cases hm
def StoreOk.lay {S:aa}{p:td}{o:HO}(h:StoreOk wd K A H S)(hp:H p=gV):StoreOk wd K A (ay H p o) S:=
 #[h.len,h.nd,λi b a e ea=>(h.obj i b a e ea).keep (.inl hp) (λhm z=>(h.obj i b a e ea).there hm (z ▸ hp)) (aL (.inl hp))]
def StoreOk.pushO {S:aa}{p:td}{n:O}{u:HO}(h:StoreOk wd K A H S)(hp:H p=gV)(r:ObjRel wd K (A++[p]) (ay H p u) p n):StoreOk wd K (A++[p]) (ay H p u) (S++[n]):=by
 have ex:Ext K A H (A++[p]) (ay H p u):=cr hp;have old:∀ {i:J4} {o:O} {a:td},(S++[n])[i]?=bt o->(A++[p])[i]?=bt a->i < S.length->S[i]?=bt o/\A[i]?=bt a:=λ{i o a} e ea hl=>by
  rw[KY hl]at e;rw[KY (h.len ▸ hl)]at ea;exact#[e,ea]
 have new:∀ {i:J4} {o:O} {a:td},(S++[n])[i]?=bt o->(A++[p])[i]?=bt a->¬ i < S.length->i=S.length/\o=n/\a=p:=λ{i o a} e ea hl=>by
  have hi:i=S.length:=by
   have:=(Kc.mp e).1;simp at this;omega
  subst hi;simp at e;rw[<- h.len]at ea;simp at ea;exact#[rfl,e.symm,ea.symm]
 show#[by simp[h.len],λi j a o u e1 m1 e2 m2 a1 a2=>?_,λi o a e ea=>?_]
 ·by_cases hi:i < S.length <;> by_cases hj:j < S.length
  ·obtain⟨x1,y1⟩:=old e1 a1 hi;obtain⟨x2,y2⟩:=old e2 a2 hj;exact h.nd i j a o u x1 m1 x2 m2 y1 y2
  ·obtain⟨x1,y1⟩:=old e1 a1 hi;obtain⟨_,_,z⟩:=new e2 a2 hj;subst z;exact absurd hp ((h.obj i o a x1 y1).there m1)
  ·obtain⟨x2,y2⟩:=old e2 a2 hj;obtain⟨_,_,z⟩:=new e1 a1 hi;subst z;exact absurd hp ((h.obj j u a x2 y2).there m2)
  ·rw[(new e1 a1 hi).1,(new e2 a2 hj).1]
 ·by_cases hi:i < S.length
  ·obtain⟨x1,y1⟩:=old e ea hi;exact(h.obj i o a x1 y1).keep (.inl hp) (λhm z=>(h.obj i o a x1 y1).there hm (z ▸ hp)) ex
  ·obtain⟨_,rfl,rfl⟩:=new e ea hi;exact r
def StoreOk.push {S:aa}{p:td}{ws:JS W}{vs:JS V}(h:StoreOk wd K A H S)(hp:H p=gV)(r:RelL K A H ws vs):StoreOk wd K (A++[p]) (ay H p (.lst vs)) (S++[.lst ws]):=
 h.pushO hp #[vs,ak,r.mono (cr hp)]
def StoreOk.writeO {S:aa}{i:J4}{p:td}{o0 n:O}{u:HO}(h:StoreOk wd K A H S)(e:S[i]?=bt o0)(m0:o0.mut=true)(ea:A[i]?=bt p)(r:ObjRel wd K A (ay H p u) p n) :
  StoreOk wd K A (ay H p u) (S.set i n)/\Ext K A H A (ay H p u):=by
 have hw:Wr H p:=(h.obj i _ p e ea).wr m0;have ex:Ext K A H A (ay H p u):=aL hw;have hl:i < S.length:=(Kc.mp e).1;show#[#[by simp[h.len],λj k a o u e1 m1 e2 m2 a1 a2=>?_,λj o a e1 a1=>?_],ex]
 ·have get:∀ {j:J4} {o:O},(S.set i n)[j]?=bt o->o.mut=true->∃o',S[j]?=bt o'/\o'.mut=true:=λ{j o} q m=>by
   rw[LY]at q
   by_cases z:i=j
   ·subst z; exact#[_,e,m0]
   ·rw[Kv z]at q; exact#[o,q,m]
  obtain⟨o',x1,m1'⟩:=get e1 m1;obtain⟨u',x2,m2'⟩:=get e2 m2;exact h.nd j k a o' u' x1 m1' x2 m2' a1 a2
 ·rw[LY]at e1
  by_cases z:i=j
  ·subst z;rw[Ks rfl,Ks hl]at e1;cases e1;rw[ea]at a1; cases a1
   exact r
  ·rw[Kv z]at e1;exact(h.obj j o a e1 a1).keep hw (λhm q=>z (h.nd i j p _ o e m0 e1 hm ea (q ▸ a1))) ex
def StoreOk.write {S:aa}{i:J4}{p:td}{ws:JS W}{us:JS V}{ws0:JS W}(h:StoreOk wd K A H S)(e:S[i]?=bt (.lst ws0))(ea:A[i]?=bt p)(r:RelL K A H ws us) :
  StoreOk wd K A (ay H p (.lst us)) (S.set i (.lst ws))/\Ext K A H A (ay H p (.lst us)):=
 h.writeO e rfl ea #[us,ak,r.mono (aL ((h.obj i _ p e ea).wr rfl))]
end
abbrev fP (S:aa)(i:J4):JX (JS W):=match S[i]? with
 | some (.lst xs)=>bt xs
 | some (.fro xs)=>bt xs
 | _=>gV
abbrev mZ (S:aa)(i:J4):JX (JS W):=match S[i]? with
 | some (.lst xs)=>bt xs
 | _=>gV
abbrev lN (S:aa)(xs:JS W):JX (W×aa):=if xs.length<=sizeLine then bt (.ref S.length,S++[.lst xs])else gV
abbrev lO (S:aa)(xs:JS W):JX (W×aa):=if xs.length<=sizeLine then bt (.tup xs,S)else gV
abbrev y6 (j:Kk):Kn:=decide (0 < j)&&decide (j < 1073741824)
abbrev sV (i j:Kk):Kn:=(decide (-(2 ^ 64) < i)&&decide (i < 2 ^ 64))||(decide (-(2 ^ 64) < j)&&decide (j < 2 ^ 64))
abbrev Fk (i j:Kk):Kn:=decide (0<=j)&&decide (j<=1000000)&&decide (i.natAbs < 2 ^ 64)
inductive BOp where|add|sub|mul|fdiv|mod|pow
 deriving Nk
abbrev yn (c:Kk->Kk->Kn)(f:Kk->Kk->Kk)(x y:W)(S:aa):JX (W×aa):=match x,y with
 | .int i,.int j=>if c i j then bt (.int (f i j),S)else gV
 | _,_=>gV
abbrev vk (x y:W)(S:aa):JX (W×aa):=match x with
 | .int i=>match y with
  | .int j=>bt (.int (i+j),S)
  | _=>gV
 | .str x=>match y with
  | .str y=>if x.length+y.length<=sizeLine then bt (.str (x++y),S)else gV
  | _=>gV
 | .tup xs=>match y with
  | .tup ys=>lO S (xs++ys)
  | _=>gV
 | .ref i=>match y with
  | .ref j=>match mZ S i,mZ S j with
   | some xs,bt ys=>lN S (xs++ys)
   | _,_=>gV
  | _=>gV
 | _=>gV
abbrev y8 (x y:W)(S:aa):JX (W×aa):=match x with
 | .str x=>match y with
  | .int k=>if k < 2 ^ 24/\-(2 ^ 24)<=k/\x.length*k.toNat<=sizeLine then bt (.str (TC x k),S)else gV
  | _=>gV
 | .ref i=>match y with
  | .int k=>match mZ S i with
   | some xs=>if k < 2 ^ 24/\-(2 ^ 24)<=k/\xs.length*k.toNat<=sizeLine then lN S (KZ k.toNat xs).flatten else gV
   | none=>gV
  | _=>gV
 | x=>yn sV (· * ·) x y S
abbrev gS:BOp->W->W->aa->JX (W×aa)
 | .add,x,y,S=>vk x y S
 | .sub,x,y,S=>yn (λ_ _=>true) (· - ·) x y S
 | .mul,x,y,S=>y8 x y S
 | .fdiv,x,y,S=>yn (λ_ j=>y6 j) (· / ·) x y S
 | .mod,x,y,S=>yn (λ_ j=>decide (0 < j)) (· % ·) x y S
 | .pow,x,y,S=>yn Fk (λi j=>i ^ j.toNat) x y S
abbrev BOp.py:BOp->P8
 | .add=>.Add|.sub=>.Sub|.mul=>.Mult|.fdiv=>.FloorDiv|.mod=>.Mod|.pow=>.Pow
section
variable (X:Cx)
inductive PostE (J:JS (td×Ll))(Y:L2.St)(A:JS td)(H:Hp)(S':aa)(w:W)(u:JU)(s':JV):Prop
 | mk (v:V) (H':Hp) (A':JS td) (i:Inv X J Y H' s') (r:RelV v u) (e:Ext X.K A H A' H') (so:StoreOk X.w X.K A' H' S') (rl:Rel X.K A' H' w v):PostE J Y A H S' w u s'
noncomputable abbrev FE:=Fm->aa->JX (W×aa)
abbrev LOp (f:JU->JU->RM JU)(g:W->W->aa->JX (W×aa)):Prop:=
 ∀(J:JS (td×Ll)) (s:JV) (Y:L2.St) (H:Hp) (A:JS td) (S:aa) (x y:W) (a b:V) (u v:JU) (w:W) (S':aa),Inv X J Y H s->StoreOk X.w X.K A H S->
  Rel X.K A H x a->RelV a u->Rel X.K A H y b->RelV b v->g x y S=bt (w,S')->wpAny (model X.prog X.w) X.A (f u v) (PostE X J Y A H S' w) X.xe s
end
section
variable{X:Cx}
def jn {S:aa}{i:J4}{xs:JS W}(h:mZ S i=bt xs):S[i]?=bt (.lst xs):=by
 unfold mZ at h;split at h
 ·cases h; assumption
 ·cases h
def dz {A:JS td}{H:Hp}{S:aa}{i:J4}{xs:JS W}{a:td}(so:StoreOk X.w X.K A H S)(h:mZ S i=bt xs)(ea:A[i]?=bt a):∃vs,H a=bt (.lst vs)/\RelL X.K A H xs vs:=
 so.obj i _ a (jn h) ea
def aV {A:JS td}{H:Hp}{S:aa}{i:J4}{xs:JS W}{a:td}(so:StoreOk X.w X.K A H S)(h:fP S i=bt xs)(ea:A[i]?=bt a):∃vs,SqL X.K H a vs/\RelL X.K A H xs vs:=by
 unfold fP at h;split at h
 ·cases h;obtain⟨vs,q,r⟩:=so.obj i _ a (by assumption) ea
  exact#[vs,.of q,r]
 ·cases h;obtain⟨vs,q,r⟩:=so.obj i _ a (by assumption) ea
  exact#[vs,q.sq,r]
 ·cases h
def iJ {S S':aa}{xs:JS W}{w:W}(h:lN S xs=bt (w,S')):xs.length<=sizeLine/\w=.ref S.length/\S'=S++[.lst xs]:=by
 unfold lN at h;split at h
 ·cases h; exact#[by assumption,rfl,rfl]
 ·cases h
def qS {S S':aa}{xs:JS W}{w:W}(h:lO S xs=bt (w,S')):xs.length<=sizeLine/\w=.tup xs/\S'=S:=by
 unfold lO at h;split at h
 ·cases h; exact#[by assumption,rfl,rfl]
 ·cases h
def y9 {A:JS td}{H:Hp}{S:aa}{ws:JS W}{vs:JS V}{Q:VK}{p:td}(so:StoreOk X.w X.K A H S)(r:RelL X.K A H ws vs)(hp:H p=gV)
  (q:∀v H' A',Ext X.K A H A' H'->StoreOk X.w X.K A' H' (S++[.lst ws])->Rel X.K A' H' (.ref S.length) v->Q v H'):Q (.ref p) (ay H p (.lst vs)):=
 q _ _ (A++[p]) (cr hp) (so.push hp r) (.ref (by rw[<- so.len]; simp))
def zd {A:JS td}{H:Hp}{S:aa}{ws:JS W}{vs:JS V}{Q:VK}{p:td}(so:StoreOk X.w X.K A H S)(r:RelL X.K A H ws vs)(hp:H p=gV)
  (q:∀v H' A',Ext X.K A H A' H'->StoreOk X.w X.K A' H' S->Rel X.K A' H' (.tup ws) v->Q v H'):Q (.ref p) (ay H p (.tup vs)):=
 q _ _ A (aL (.inl hp)) (so.lay hp) (.tup (.of ak) (r.mono (aL (.inl hp))))
abbrev Fn (K:J2):R2:=λx y H Q=>∃a b xs ys,x=.ref a/\y=.ref b/\SqT K H a xs/\SqT K H b ys/\xs.length+ys.length<=sizeLine/\
 (xs=[]->Q (.ref b) H)/\(ys=[]->Q (.ref a) H)/\(∀p,H p=gV->Q (.ref p) (ay H p (.tup (xs++ys))))
def ze:OpR X (binaryOp .Add) (Fn X.K):=by
 intro J s Y H x y v u Q I rx ry h;obtain⟨a,b,xs,ys,rfl,rfl,ha,hb,hz,q0,q1,q2⟩:=h;cases rx;cases ry;obtain⟨its,r1,p1,_⟩:=I.tuple ha;obtain⟨its2,r2,p2,_⟩:=I.tuple hb
 by_cases hx:xs=[]
 ·obtain⟨⟨cls,dd,data,sl⟩,ho,hc,n,hd⟩:=id p1;obtain⟨⟨cls2,dd2,data2,sl2⟩,ho2,hc2,n2,hd2⟩:=id p2;simp only at hc hd hc2 hd2;subst hc hd hc2 hd2;exact Qe #[_,ho,rfl] #[_,ho2,rfl] OK PB NJ NH (Ny _ _)
   (tuple_addW0 a b its.toArray its2.toArray n n2 dd dd2 sl sl2 (by simp[r1.nil_iff.mpr hx])) #[ho,ho2,#[.ref b,H,I,rfl,q0 hx]]
 ·show HT.yI p1 p2 (λz=>hx (r1.nil_iff.mp z)) (λz=>#[.ref a,H,I,rfl,q1 (r2.nil_iff.mp z)]) (λz=>?_) (by rw[<- r1.length,<- r2.length]; exact hz)
  show#[.ref s.heap.objs.size,_,I.laid (t':=s.toks) (o:=.tup (xs++ys)) (λb ob q=>JW _ q) (J9 _) ?_,rfl,q2 _ (I.hok.fresh (J9 _))]
  exact#[#[by rw[Kb]; exact hz,NoD.new _ _ _],_,r1.append r2,QD _ _]
def RelL.nil_iff {K:J2}{A:JS td}{H:Hp}{ws:JS W}{vs:JS V}(r:RelL K A H ws vs):vs=[]↔ws=[]:=by
 cases r <;> simp
def po:OpR X (binaryOp .Mult) (λx y H Q=>∃z k,x=.str z/\y=.int k/\MulOk z k/\Q (.str (TC z k)) H):=by
 intro J s Y H x y v u Q I rx ry h;obtain⟨z,k,rfl,rfl,ok,q⟩:=h;obtain⟨t,rfl⟩:=rx;obtain⟨t',rfl⟩:=ry;exact SB.mul ok λt2 k2=>#[.str _,H,I.tok _,#[_,rfl],q]
def vm {x:J3}{k:Kk}(h1:k < 16777216)(h2 : -16777216<=k)(h3:x.length*k.toNat<=sizeLine):MulOk x k:=by
 have hs:sizeLine=16777216:=Lf;rw[hs]at h3;show#[?_,λa b=>?_,λ_ _=>?_]
 ·rw[Bool.or_eq_false_iff];exact#[KC ∅,KC ∅]
 ·have hk:0 < k:=∅
  have e:(x.length:Kk)*k=((x.length*k.toNat:J4):Kk):=by
   rw[Int.natCast_mul,N8 ∅]
  intro hgt;have h4:(2 ^ 63 - 1:Kk) < (x.length:Kk)*k:=(Int.ediv_lt_iff_lt_mul hk).mp hgt;rw[e]at h4;generalize x.length*k.toNat=z at h3 h4;omega
 ·unfold RH;rw[hs];exact KC ∅
inductive EndV (wd:Kr)(K:J2)(A:JS td)(H:Hp)(S':aa)(w:W)(v:V)(H':Hp):Prop
 | mk (A':JS td) (e:Ext K A H A' H') (so:StoreOk wd K A' H' S') (r:Rel K A' H' w v):EndV wd K A H S' w v H'
def EndV.here {A:JS td}{H:Hp}{S:aa}{w:W}{v:V}(so:StoreOk X.w X.K A H S)(r:Rel X.K A H w v):EndV X.w X.K A H S w v H:=#[A,.refl,so,r]
def EndV.lst {A:JS td}{H:Hp}{S:aa}{ws:JS W}{vs:JS V}{p:td}(so:StoreOk X.w X.K A H S)(r:RelL X.K A H ws vs)(hp:H p=gV):EndV X.w X.K A H (S++[.lst ws]) (.ref S.length) (.ref p) (ay H p (.lst vs)):=
 y9 (Q:=EndV X.w X.K A H (S++[.lst ws]) (.ref S.length)) so r hp λv H' A' a b c=>#[A',a,b,c]
def EndV.tup {A:JS td}{H:Hp}{S:aa}{ws:JS W}{vs:JS V}{p:td}(so:StoreOk X.w X.K A H S)(r:RelL X.K A H ws vs)(hp:H p=gV):EndV X.w X.K A H S (.tup ws) (.ref p) (ay H p (.tup vs)):=
 zd (Q:=EndV X.w X.K A H S (.tup ws)) so r hp λv H' A' a b c=>#[A',a,b,c]
def EP.post {J:JS (td×Ll)}{Y:L2.St}{A:JS td}{H:Hp}{S':aa}{w:W}{u:JU}{s':JV}(h:EP X J Y (EndV X.w X.K A H S' w) u s'):PostE X J Y A H S' w u s':=by
 obtain⟨v,H',I',r,A',x,y,z⟩:=h;exact#[v,H',A',I',r,x,y,z]
def OpR.go {f:JU->JU->RM JU}{r:R2}(h:OpR X f r){J:JS (td×Ll)}{Y:L2.St}{A:JS td}{H:Hp}{S':aa}{w:W}{s:JV}{a b:V}{u v:JU}(I:Inv X J Y H s)(ru:RelV a u)(rv:RelV b v)
  (q:r a b H (EndV X.w X.K A H S' w)):wpAny (model X.prog X.w) X.A (f u v) (PostE X J Y A H S' w) X.xe s:=aD (h J s Y H a b u v _ I ru rv q) λ_ _=>EP.post
def zf:LOp X (binaryOp .Add) (gS .add):=by
 intro J s Y H A S x y a b u v w S' I so rx ru ry rv e;cases rx with
 | int=>cases ry with
  | int=>cases e; exact OpR.go Cj I ru rv #[_,_,rfl,rfl,.here so .int]
  | _=>cases e
 | str=>cases ry with
  | str=>
   dsimp only[gS,vk]at e;split at e
   ·cases e; exact OpR.go o5 I ru rv #[_,_,rfl,rfl,by assumption,.here so .str]
   ·cases e
  | _=>cases e
 | tup h1 r1=>cases ry with
  | tup h2 r2=>
   obtain⟨hl,rfl,rfl⟩:=qS (show lO S _=_ from e)
   rw[Kb,r1.length,r2.length]at hl;show OpR.go ze I ru rv #[_,_,_,_,rfl,rfl,h1,h2,hl,λz=>?_,λz=>?_,λp hp=>.tup so (r1.append r2) hp]
   ·have z':=r1.nil_iff.mp z;subst z';exact .here so (.tup h2 r2)
   ·have z':=r2.nil_iff.mp z;subst z';rw[Lu];exact .here so (.tup h1 r1)
  | _=>cases e
 | ref h1=>cases ry with
  | ref h2=>
   dsimp only[gS,vk]at e;split at e
   ·obtain⟨hl,rfl,rfl⟩:=iJ e;obtain⟨vs,q1,r1⟩:=dz so (by assumption) h1
    obtain⟨us,q2,r2⟩:=dz so (by assumption) h2
    rw[Kb,r1.length,r2.length]at hl;exact OpR.go Cz I ru rv #[_,_,_,_,rfl,rfl,q1,q2,hl,λp hp=>.lst so (r1.append r2) hp]
   ·cases e
  | _=>cases e
 | _=>cases e
def m5 {f:JU->JU->RM JU}{c:Kk->Kk->Kn}{g:Kk->Kk->Kk}{r:R2}(h:OpR X f r)(hr:∀i j H Q,c i j=true->Q (.int (g i j)) H->r (.int i) (.int j) H Q):LOp X f (yn c g):=by
 intro J s Y H A S x y a b u v w S' I so rx ru ry rv e;cases rx with
 | int=>cases ry with
  | int=>
   unfold yn at e;dsimp only at e;split at e
   ·cases e; exact OpR.go h I ru rv (hr _ _ _ _ (by assumption) (.here so .int))
   ·cases e
  | _=>cases e
 | _=>cases e
def zh:LOp X (binaryOp .Sub) (gS .sub):=m5 Ck λ_ _ _ _ _ q=>#[_,_,rfl,rfl,q]
def zj {i j:Kk}(h:sV i j=true):CMul i j:=by
 unfold sV at h;rw[L5,JY,JY,KG,KG,KG,KG]at h;exact h
def zm:LOp X (binaryOp .Mult) (gS .mul):=by
 have hI:LOp X (binaryOp .Mult) (yn sV (· * ·)):=m5 Cm λ_ _ _ _ h q=>#[_,_,rfl,rfl,zj h,q]
 intro J s Y H A S x y a b u v w S' I so rx ru ry rv e;cases x with
 | str z=>
  cases rx with
  | str=>cases ry with
   | int=>
    dsimp only[gS,y8]at e;split at e
    ·rename_i hc;cases e; exact OpR.go po I ru rv #[_,_,rfl,rfl,vm ∅ ∅ hc.2.2,.here so .str]
    ·cases e
   | _=>cases e
 | ref z=>
  cases rx with
  | ref h1=>cases ry with
   | int=>
    dsimp only[gS,y8]at e;split at e
    ·split at e
     ·rename_i hc;obtain⟨hl,rfl,rfl⟩:=iJ e;obtain⟨vs,q1,r1⟩:=dz so (by assumption) h1
      rw[r1.length]at hc;exact OpR.go CA I ru rv #[_,_,_,rfl,rfl,q1,∅,∅,hc.2.2,λp hp=>.lst so (r1.rep _) hp]
     ·cases e
    ·cases e
   | _=>cases e
 | _=>exact hI _ _ _ _ _ _ _ _ _ _ _ _ _ _ I so rx ru ry rv e
def vn:LOp X (binaryOp .FloorDiv) (gS .fdiv):=m5 yC λ_ _ _ _ h q=>#[_,_,rfl,rfl,by
 unfold y6 at h;rw[JY,KG,KG]at h;exact h,q]
def zo:LOp X (binaryOp .Mod) (gS .mod):=m5 Cn λ_ _ _ _ h q=>#[_,_,rfl,rfl,La h,q]
def zp:LOp X (binaryOp .Pow) (gS .pow):=m5 Co λ_ _ _ _ h q=>#[_,_,rfl,rfl,by
 unfold Fk at h;rw[JY,JY,KG,KG,KG]at h;exact#[h.1.1,h.1.2,h.2],q]
def qT (o:BOp):LOp X (binaryOp o.py) (gS o):=by
 cases o
 ·exact zf
 ·exact zh
 ·exact zm
 ·exact vn
 ·exact zo
 ·exact zp
end
abbrev m6 (f:W->W->JX Kn):JS W->JS W->JX Kn
 | [],[]=>bt true
 | [],_::_=>bt false
 | _::_,[]=>bt false
 | x::xs,y::ys=>match f x y,m6 f xs ys with
  | some a,bt b=>bt (a&&b)
  | _,_=>gV
abbrev b2 (b:Kn):Kk:=if b then 1 else 0
abbrev pr (S:aa):J4->W->W->JX Kn
 | _,.non,y=>match y with
  | .non=>bt true
  | _=>gV
 | _,.bl a,y=>match y with
  | .bl b=>bt (a==b)
  | _=>gV
 | _,.int a,y=>match y with
  | .int b=>bt (a==b)
  | _=>gV
 | _,.str a,y=>match y with
  | .str b=>bt (a==b)
  | _=>gV
 | 0,_,_=>gV
 | d+1,.tup xs,y=>match y with
  | .tup ys=>m6 (pr S d) xs ys
  | _=>gV
 | d+1,.ref i,y=>match y with
  | .ref j=>match mZ S i,mZ S j with
   | some xs,bt ys=>if xs.length=ys.length then m6 (pr S d) xs ys else bt false
   | _,_=>gV
  | _=>gV
section
variable{X:Cx}{J:JS (td×Ll)}{Y:L2.St}{H:Hp}{s:JV}{A:JS td}{S:aa}
abbrev RU (K:J2)(A:JS td)(H:Hp)(w:W)(u:JU):Prop:=∃v,Rel K A H w v/\RelV v u
def qU {ws:JS W}{vs:JS V}{us:JS JU}(r:RelL X.K A H ws vs)(q:Vals vs us):∀(j:J4) (h1:j < ws.length) (h2:j < us.length),RU X.K A H ws[j] us[j]:=by
 induction ws generalizing vs us with
 | nil=>intro j h1; simp at h1
 | cons w ws ih=>
  cases r with
  | cons r1 rr=>
   cases q with
   | cons q1 qq=>
    intro j h1 h2;cases j with
    | zero=>exact#[_,r1,q1]
    | succ j=>exact ih rr qq j (by simpa using h1) (by simpa using h2)
def vo {ws:JS W}{u:JU}(I:Inv X J Y H s)(h:RU X.K A H (.tup ws) u):∃a its,u=.ref a/\QX s.heap a its/\its.size=ws.length/\ws.length<=sizeLine/\∀(j:J4) (h1:j < ws.length) (h2:j < its.size),RU X.K A H ws[j] its[j]:=by
 obtain⟨v,r,q⟩:=h;cases r with
 | tup sq rl=>
  obtain⟨its,rv,ht,hz⟩:=I.tuple sq;show#[_,its.toArray,q,ht,by rw[Ki,<- rv.length,rl.length],by rw[rl.length]; exact hz,λj h1 h2=>?_]
  have:=qU rl rv j h1 (by simpa using h2)
  simpa using this
def vp {i:J4}{ws:JS W}{u:JU}(I:Inv X J Y H s)(so:StoreOk X.w X.K A H S)(e:mZ S i=bt ws)(h:RU X.K A H (.ref i) u):∃a its,u=.ref a/\A[i]?=bt a/\s.heap.IsList a its/\its.size=ws.length/\ws.length<=sizeLine/\∀(j:J4) (h1:j < ws.length) (h2:j < its.size),RU X.K A H ws[j] its[j]:=by
 obtain⟨v,r,q⟩:=h;cases r with
 | ref ea=>
  obtain⟨vs,hq,rl⟩:=dz so e ea;obtain⟨its,rv,ht,hz⟩:=I.list (.of hq);show#[_,its.toArray,q,ea,ht.isList,by rw[Ki,<- rv.length,rl.length],by rw[rl.length]; exact hz,λj h1 h2=>?_]
  have:=qU rl rv j h1 (by simpa using h2)
  simpa using this
def jo {f:W->W->JX Kn}:∀ {xs ys:JS W} {k:Kn},m6 f xs ys=bt k->∃e:J4->Kn,(∀(j:J4) (h1:j < xs.length) (h2:j < ys.length),f xs[j] ys[j]=bt (e j))/\
  k=((LK (min xs.length ys.length)).all e&&xs.length==ys.length)
 | [],[],k,h=>#[λ_=>true,λj h1=>by simp at h1,by cases h; rfl]
 | [],_::_,k,h=>#[λ_=>true,λj h1=>by simp at h1,by cases h; simp]
 | _::_,[],k,h=>#[λ_=>true,λj h1 h2=>by simp at h2,by cases h; simp]
 | x::xs,y::ys,k,h=>by
  dsimp only[m6]at h;split at h
  ·rename_i a b ha hb;cases h;obtain⟨e,h1,h2⟩:=jo hb;show#[λj=>match j with|0=>a|j+1=>e j,λj hj1 hj2=>?_,?_]
   ·cases j with
    | zero=>exact ha
    | succ j=>exact h1 j (by simpa using hj1) (by simpa using hj2)
   ·subst h2;simp only[KJ,Nat.add_min_add_right,OU,KM,OV,Bool.and_assoc];congr 2;simp
  ·cases h
def zq (I:Inv X J Y H s)(so:StoreOk X.w X.K A H S):∀(d:J4) {x y:W} {v:V} {k:Kn},Rel X.K A H x v->Rel X.K A H y v->pr S d x y=bt k->k=true:=by
 intro d
 induction d with
 | zero=>
  intro x y v k rx ry e;cases rx with
  | non=>cases ry; cases e; rfl
  | bl=>cases ry; cases e; exact KS _
  | int=>cases ry; cases e; exact KS _
  | str=>cases ry; cases e; exact KS _
  | tup _ _=>cases e
  | ref _=>cases e
 | succ d ih=>
  have lists:∀ {xs ys:JS W} {vs:JS V} {k:Kn},RelL X.K A H xs vs->RelL X.K A H ys vs->m6 (pr S d) xs ys=bt k->k=true:=by
   intro xs
   induction xs with
   | nil=>
    intro ys vs k r1 r2 e;cases r1; cases r2; cases e; rfl
   | cons x xs ihx=>
    intro ys vs k r1 r2 e;cases r1 with
    | cons p1 q1=>
     cases r2 with
     | cons p2 q2=>
      dsimp only[m6]at e;split at e
      ·rename_i a b ha hb;cases e;rw[ih p1 p2 ha,ihx q1 q2 hb];rfl
      ·cases e
  intro x y v k rx ry e;cases rx with
  | non=>cases ry; cases e; rfl
  | bl=>cases ry; cases e; exact KS _
  | int=>cases ry; cases e; exact KS _
  | str=>cases ry; cases e; exact KS _
  | tup h1 r1=>
   cases ry with
   | tup h2 r2=>
    rw[I.tuple_inj h1 h2]at r1;exact lists r1 r2 e
   | ref ea=>cases e
  | ref ea=>
   cases ry with
   | tup h2 r2=>cases e
   | ref eb=>
    dsimp only[pr]at e;split at e
    ·rename_i xs ys hx hy;have:=so.nd _ _ _ _ _ (jn hx) rfl (jn hy) rfl ea eb;subst this;rw[hx]at hy; cases hy
     rw[Ks rfl]at e;obtain⟨vs,q,r⟩:=dz so hx ea;exact lists r r e
    ·cases e
def ba (A:Kw):A.in1.units=A.units+1:=rfl
noncomputable abbrev EA (B:Kw)(s:JV)(u v:JU)(k:Kn):Prop:=SeqAt.RcAt B s u v k/\SeqAt.RcNeAt B s u v (!k)/\NV B s u v k
open SeqAt in
def Bh (I:Inv X J Y H s)(so:StoreOk X.w X.K A H S):∀(d:J4) (B:Kw) {x y:W} {u v:JU} {k:Kn},B.units+d < cLine->RU X.K A H x u->RU X.K A H y v->pr S d x y=bt k->EA B s u v k:=by
 have non:∀ {B:Kw} {y:W} {u v:JU} {k:Kn} {d:J4},RU X.K A H .non u->RU X.K A H y v->pr S d .non y=bt k->EA B s u v k:=by
  intro B y u v k d ⟨_,rx,ra⟩ ⟨_,ry,rb⟩ e;cases rx;cases(show u=K1 from ra)
  cases y with
  | non=>
   have e:bt (true)=bt k:=by cases d <;> exact e
   cases e;cases ry;cases(show v=K1 from rb)
   exact#[.none_none,.none_none,.same _]
  | _=>cases d <;> cases e
 have bl:∀ {B:Kw} {b:Kn} {y:W} {u v:JU} {k:Kn} {d:J4},RU X.K A H (.bl b) u->RU X.K A H y v->pr S d (.bl b) y=bt k->EA B s u v k:=by
  intro B b y u v k d ⟨_,rx,ra⟩ ⟨_,ry,rb⟩ e;cases rx;cases(show u=LJ _ from ra)
  cases y with
  | bl c=>
   have e:bt (b==c)=bt k:=by cases d <;> exact e
   cases e;cases ry;cases(show v=LJ _ from rb)
   exact#[.bool_bool _ _,.bool_bool _ _,.bool_bool _ _]
  | _=>cases d <;> cases e
 have int:∀ {B:Kw} {b:Kk} {y:W} {u v:JU} {k:Kn} {d:J4},RU X.K A H (.int b) u->RU X.K A H y v->pr S d (.int b) y=bt k->EA B s u v k:=by
  intro B b y u v k d ⟨_,rx,ra⟩ ⟨_,ry,rb⟩ e;cases rx;obtain⟨t0,rfl⟩ : ∃t,u=Od _ t:=ra;cases y with
  | int c=>
   have e:bt (b==c)=bt k:=by cases d <;> exact e
   cases e;cases ry;obtain⟨t,rfl⟩ : ∃t,v=Od _ t:=rb;exact#[.int_int _ _ _ _,.int_int _ _ _ _,.int_int _ _ _ _]
  | _=>cases d <;> cases e
 have str:∀ {B:Kw} {b:J3} {y:W} {u v:JU} {k:Kn} {d:J4},RU X.K A H (.str b) u->RU X.K A H y v->pr S d (.str b) y=bt k->EA B s u v k:=by
  intro B b y u v k d ⟨_,rx,ra⟩ ⟨_,ry,rb⟩ e;cases rx;obtain⟨t0,rfl⟩ : ∃t,u=Nt _ t:=ra;cases y with
  | str c=>
   have e:bt (b==c)=bt k:=by cases d <;> exact e
   cases e;cases ry;obtain⟨t,rfl⟩ : ∃t,v=Nt _ t:=rb;exact#[.str_str _ _ _ _,.str_str _ _ _ _,.str_str _ _ _ _]
  | _=>cases d <;> cases e
 intro d
 induction d with
 | zero=>
  intro B x y u v k hu rx ry e;cases x with
  | non=>exact non rx ry e
  | bl b=>exact bl rx ry e
  | int b=>exact int rx ry e
  | str b=>exact str rx ry e
  | _=>cases e
 | succ d ih=>
  intro B x y u v k hu rx ry e;have hu0:B.units < cLine:=∅
  have hu1:B.in1.units+d < cLine:=by rw[ba]; omega
  have rx0:=rx;have ry0:=ry;have fin:∀ {a b:td},u=.ref a->v=.ref b->RcAt B s u v k->RcNeAt B s u v (!k)->EA B s u v k:=by
   intro a b ea eb h1 h2;subst ea eb;show#[h1,h2,?_]
   by_cases hab:a=b
   ·subst hab;obtain⟨v1,q1,z1⟩:=rx0;obtain⟨v2,q2,z2⟩:=ry0;have e12:v1=v2:=z1.inj z2;subst e12;have:=zq I so (d+1) q1 q2 e;subst this;exact EqAt.same _
   ·exact EqAt.of_refs hab h1
  cases x with
  | non=>exact non rx ry e
  | bl b=>exact bl rx ry e
  | int b=>exact int rx ry e
  | str b=>exact str rx ry e
  | tup xs=>
   cases y with
   | tup ys=>
    obtain⟨a,its,rfl,ht,hs,_,hi⟩:=vo I rx;obtain⟨b,its2,rfl,ht2,hs2,_,hi2⟩:=vo I ry;obtain⟨f,h1,h2⟩:=jo (show m6 (pr S d) xs ys=bt k from e)
    have he:∀j (h1:j < its.size) (h2:j < its2.size),EqAt B.in1 s its[j] its2[j] (f j):=λj j1 j2=>
     (ih B.in1 hu1 (hi j (hs ▸ j1) j1) (hi2 j (hs2 ▸ j2) j2) (h1 j (hs ▸ j1) (hs2 ▸ j2))).2.2
    rw[<- hs,<- hs2]at h2;subst h2;exact fin rfl rfl (RcAt.tuples ht ht2 hu0 he) (RcNeAt.tuples ht ht2 hu0 he)
   | _=>cases e
  | ref i=>
   cases y with
   | ref j=>
    dsimp only[pr]at e;split at e
    ·rename_i ws ws2 hw hw2;obtain⟨a,its,rfl,_,hl,hs,_,hi⟩:=vp I so hw rx;obtain⟨b,its2,rfl,_,hl2,hs2,_,hi2⟩:=vp I so hw2 ry;split at e
     ·rename_i hlen;obtain⟨f,h1,h2⟩:=jo e;have he:∀j (h1:j < its.size) (h2:j < its2.size),EqAt B.in1 s its[j] its2[j] (f j):=λj j1 j2=>
       (ih B.in1 hu1 (hi j (hs ▸ j1) j1) (hi2 j (hs2 ▸ j2) j2) (h1 j (hs ▸ j1) (hs2 ▸ j2))).2.2
      have hk:k=(LK its.size).all f:=by rw[h2,hs,hlen]; simp
      subst hk;exact fin rfl rfl (RcAt.lists hl hl2 (by rw[hs,hs2,hlen]) hu0 he) (RcNeAt.lists hl hl2 (by rw[hs,hs2,hlen]) hu0 he)
     ·rename_i hlen;cases e;have hb:(its.size != its2.size)=true:=by rw[hs,hs2]; simpa using hlen
      exact fin rfl rfl (RcAt.lists_lengths hl hl2 hb hu0) (RcNeAt.lists_lengths hl hl2 hb hu0)
    ·cases e
   | _=>cases e
end
abbrev Bj (fe fl:W->W->JX Kn):JS W->JS W->JX Kn
 | [],[]=>bt false
 | [],_::_=>bt true
 | _::_,[]=>bt false
 | x::xs,y::ys=>match fe x y with
  | some true=>Bj fe fl xs ys
  | some false=>fl x y
  | none=>gV
abbrev Jy (S:aa):J4->W->W->JX Kn
 | _,.int a,.int b=>bt (decide (a < b))
 | _,.str a,.str b=>bt (decide (a.cps.toList < b.cps.toList))
 | d+1,.tup xs,.tup ys=>Bj (pr S d) (Jy S d) xs ys
 | _,_,_=>gV
abbrev LtAt (B:Kw)(s:JV)(u v:JU)(k:Kn):Prop:=
 ∀(prog:Ke) (w:Kr) (E:JU->JV->Prop) (Q:JU->JV->Prop),Q (.bool k) s->wpAny (model prog w) B (richCompare .Lt u v) Q E s
inductive LexR (B:Kw)(s:JV):JS JU->JS JU->Kn->Prop
 | nn:LexR B s [] [] false
 | nc {v:JU} {vs:JS JU}:LexR B s [] (v::vs) true
 | cn {v:JU} {vs:JS JU}:LexR B s (v::vs) [] false
 | eq {u v:JU} {us vs:JS JU} {k:Kn}:NV B s u v true->LexR B s us vs k->LexR B s (u::us) (v::vs) k
 | ne {u v:JU} {us vs:JS JU} {k:Kn}:NV B s u v false->LtAt B s u v k->LexR B s (u::us) (v::vs) k
section
open PySem.SeqAt
open PySem.AutoSeq1 (wpAny_loadPart')
open PySem.MeetsSeq PySem.MeetsSeq2 PySem.MeetsSeq3
def lP (l b:td)(items items2:KP JU)(n n2:J4)(dd dd2:JX td)(sl sl2:KP (JX JU))(k:Kn) :
  Meets (Mm.«tuple.__lt__» #[[.ref l,.ref b],[]])
   (λB R s=>s.heap.get? l=bt { cls:=.type "tuple",dict:=dd,data:=.seq items n,slots:=sl }/\s.heap.get? b=bt { cls:=.type "tuple",dict:=dd2,data:=.seq items2 n2,slots:=sl2 }/\
    LexR B.in1 s items.toList items2.toList k/\R (.ok (.ret (.bool k))) s):=
 .of_wp λprog w A R s h=>by
  obtain⟨hp,g,d,tk,os⟩:=s; obtain⟨hl,hb,hx,h⟩:=h
  have f2:=RW;have z1:items.toList.length=items.size:=by simp
  have z2:items2.toList.length=items2.size:=by simp
  wp_walk using N2 hl,N2 hb,QM _ (λau b s'=>b.1=gV/\s'=#[hp,g,d,tk,os]/\∃(vs ws:JS JU),au=vs.zip ws/\
   LexR A.in1 #[hp,g,d,tk,os] vs ws k/\vs.length+items2.size=ws.length+items.size) _
  case turn=>
   rintro⟨y,x⟩ au b s' ⟨hb',rfl,vs,ws,hz,hlx,hlen⟩;cases hlx with
   | nn=>rw[Qp]at hz; cases hz
   | nc=>rw[Qp]at hz; cases hz
   | cn=>rw[List.zip_nil_right]at hz; cases hz
   | eq he hr=>
    rw[Mz]at hz;injection hz with hyx hrest
    injection hyx with hy hx
    subst hy hx;simp only[KJ]at hlen;show JT (he prog w _ _ ?_)
    wp_walk
    exact#[rfl,rfl,_,_,hrest,hr,∅]
   | ne he hr=>
    rw[Mz]at hz;injection hz with hyx hrest
    injection hyx with hy hx
    subst hy hx;show JT (he prog w _ _ ?_);have hri:=hr prog w
    wp_walk using hri
    exact#[_,rfl,by simpa using h]
  case fin=>
   rintro⟨b1,b2⟩ s' ⟨hb',rfl,vs,ws,hz,hlx,hlen⟩;simp only at hb';subst hb';have hv:k=decide (items.size < items2.size):=by
    cases hlx with
    | nn=>simp only[MJ]at hlen; exact(KC ∅).symm
    | nc=>simp only[MJ,KJ]at hlen; exact(Lh ∅).symm
    | cn=>simp only[MJ,KJ]at hlen; exact(KC ∅).symm
    | eq _ _=>rw[Mz]at hz; cases hz
    | ne _ _=>rw[Mz]at hz; cases hz
   subst hv
   wp_walk
   exact#[_,rfl,by simpa [Qz]using h]
  case h=>
   exact#[rfl,rfl,items.toList,items2.toList,rfl,hx,∅]
end
def LtAt.tuples {B:Kw}{s:JV}{l b:td}{items items2:KP JU}{k:Kn}(hl:QX s.heap l items)(hb:QX s.heap b items2)(hu:B.units < cLine)(hx:LexR B.in1 s items.toList items2.toList k) :
  LtAt B s (.ref l) (.ref b) k:=λprog w E Q h=>by
 obtain⟨⟨cls,dd,data,sl⟩,ho,hc,n,hd⟩:=id hl;obtain⟨⟨cls2,dd2,data2,sl2⟩,ho2,hc2,n2,hd2⟩:=id hb;simp only at hc hd hc2 hd2;subst hc hd hc2 hd2;exact richCompare_meets_room (op:=.Lt) #[_,ho,rfl] #[_,ho2,rfl] PySem.F.slot_tuple_lt PySem.F.entry_tuple_lt (PySem.F.args_tuple_lt_2 _ _) (lP l b items items2 n n2 dd dd2 sl sl2 k)
  #[ho,ho2,hx,show LJ k≠Value.notImplemented/\Q (.bool k) s from#[(λx=>nomatch x),h]] hu
inductive COp where|eq|ne|lt|le|gt|ge|isin|notin|is|isnot
 deriving Nk
abbrev COp.py:COp->OZ
 | .eq=>.Eq|.ne=>.NotEq|.lt=>.Lt|.le=>.LtE|.gt=>.Gt|.ge=>.GtE|.isin=>.In|.notin=>.NotIn|.is=>.Is|.isnot=>.IsNot
abbrev c9:W->Kn
 | .non=>true
 | .bl _=>true
 | .int _=>true
 | .str _=>true
 | _=>false
abbrev CJ:W->W->Kn
 | .non,.non=>true
 | .bl a,.bl b=>a==b
 | .bl a,.int b=>b2 a==b
 | .int a,.bl b=>a==b2 b
 | .int a,.int b=>a==b
 | .str a,.str b=>a==b
 | _,_=>false
abbrev eh (S:aa):W->JX (JS W)
 | .tup xs=>bt xs
 | .ref i=>fP S i
 | _=>gV
noncomputable abbrev da:J4:=20
abbrev CM (x y:W)(S:aa):JX Kn:=match eh S y with
 | some ys=>if c9 x&&ys.all c9 then bt (ys.any λz=>CJ z x)else gV
 | none=>gV
abbrev sW:W->Kn
 | .non=>true
 | _=>false
abbrev vt (f:Kk->Kk->Kn):W->W->JX Kn
 | .int i,.int j=>bt (f i j)
 | _,_=>gV
abbrev Ip:W->W->JX Kn
 | .bl a,.bl b=>bt (!(a==b))
 | _,_=>gV
abbrev yo:COp->W->W->aa->JX Kn
 | .eq,x,y,S=>pr S da x y
 | .ne,x,y,S=>(pr S da x y).map (!·)
 | .lt,x,y,_=>vt (λi j=>decide (i < j)) x y
 | .le,x,y,_=>vt (λi j=>decide (i<=j)) x y
 | .gt,x,y,_=>vt (λi j=>decide (j < i)) x y
 | .ge,x,y,_=>vt (λi j=>decide (j<=i)) x y
 | .isin,x,y,S=>CM x y S
 | .notin,x,y,S=>(CM x y S).map (!·)
 | .is,x,y,_=>if sW y then bt (sW x)else gV
 | .isnot,x,y,_=>if sW y then bt (!sW x)else Ip x y
abbrev db (o:COp)(x y:W)(S:aa):JX (W×aa):=(yo o x y S).map λk=>(.bl k,S)
section
variable{X:Cx}
def gh {J:JS (td×Ll)}{Y:L2.St}{H:Hp}{s:JV}{A:JS td}{S:aa}{k:Kn}(I:Inv X J Y H s)(so:StoreOk X.w X.K A H S):PostE X J Y A H S (.bl k) (.bool k) s:=
 #[.bl k,H,A,I,rfl,.refl,so,.bl]
def zr {o:COp}{x y w:W}{S S':aa}(h:db o x y S=bt (w,S')):∃k,yo o x y S=bt k/\w=.bl k/\S'=S:=by
 unfold db at h;rw[J0]at h;obtain⟨k,h1,h2⟩:=h;cases h2;exact#[k,h1,rfl,rfl]
def m7 {A:JS td}{H:Hp}{w:W}{v:V}(r:Rel X.K A H w v)(f:c9 w=true):fu v=true:=by
 cases r <;> first|rfl|cases f
def kP {A:JS td}{H:Hp}:∀ {ws:JS W} {vs:JS V},RelL X.K A H ws vs->ws.all c9=true->vs.all fu=true
 | _,_,.nil,_=>rfl
 | _,_,.cons r t,f=>by
  rw[KM,JY]at f ⊢;exact#[m7 r f.1,kP t f.2]
def zt {A:JS td}{H:Hp}{x y:W}{u v:V}(r:Rel X.K A H x u)(q:Rel X.K A H y v)(fx:c9 x=true)(fy:c9 y=true):yO u v=CJ x y:=by
 cases r <;> cases q <;> first|rfl|cases fx|cases fy
def qV {A:JS td}{H:Hp}{y:W}{v:V}(q:Rel X.K A H y v)(fy:c9 y=true):∀ {ws:JS W} {vs:JS V},RelL X.K A H ws vs->ws.all c9=true->Hl v vs=ws.any λz=>CJ z y
 | _,_,.nil,_=>rfl
 | _,_,.cons r t,f=>by
  rw[KM,JY]at f;have:=qV q fy t f.2;unfold Hl at this ⊢;rw[LB,LB,zt r q f.1 fy,this]
def lQ {J:JS (td×Ll)}{Y:L2.St}{H:Hp}{s:JV}{A:JS td}{S:aa}{y:W}{b:V}{ys:JS W}(so:StoreOk X.w X.K A H S)(r:Rel X.K A H y b)(e:eh S y=bt ys):∃p vs,b=.ref p/\(SqL X.K H p vs\/SqT X.K H p vs)/\RelL X.K A H ys vs:=by
 cases r with
 | tup h1 r1=>cases e; exact#[_,_,rfl,.inr h1,r1]
 | ref ea=>
  obtain⟨vs,h1,r1⟩:=aV so e ea;exact#[_,vs,rfl,.inl h1,r1]
 | _=>cases e
def vw {neg:Kn}{o:OZ}(ho:OpR X (compareOp o) (Ig X.K neg)){J:JS (td×Ll)}{Y:L2.St}{H:Hp}{s:JV}{A:JS td}{S:aa}{x y:W}{a b:V}{u v:JU}{ys:JS W}(I:Inv X J Y H s)(so:StoreOk X.w X.K A H S)
  (rx:Rel X.K A H x a) (ru:RelV a u) (ry:Rel X.K A H y b) (rv:RelV b v) (e:eh S y=bt ys) (f:(c9 x&&ys.all c9)=true) :
  wpAny (model X.prog X.w) X.A (compareOp o u v) (PostE X J Y A H S (.bl (if neg then !ys.any λz=>CJ z x else ys.any λz=>CJ z x))) X.xe s:=by
 obtain⟨p,vs,rfl,hq,rl⟩:=lQ (J:=J) (Y:=Y) (s:=s) so ry e;rw[JY]at f;show OpR.go ho I ru rv #[p,vs,rfl,hq,m7 rx f.1,kP rl f.2,?_];rw[qV rx f.1 rl f.2];exact .here so .bl
def gj (hu:X.A.units+da < cLine)(o:COp):LOp X (compareOp o.py) (db o):=by
 intro J s Y H A S x y a b u v w S' I so rx ru ry rv e;obtain⟨k,ek,e1,e2⟩:=zr e;subst e1;subst e2;clear e
 rename aa=>S
 have twoI:∀ {f:Kk->Kk->Kn},vt f x y=bt k->∃i j,x=.int i/\y=.int j/\k=f i j:=by
  intro f h;cases x with
  | int i=>cases y with
   | int j=>cases h; exact#[i,j,rfl,rfl,rfl]
   | _=>cases h
  | _=>cases h
 have hu1:X.A.units+1 < cLine:=by have:da=20:=rfl; omega
 have ofSq:∀ {c:Kn},CM x y S=bt c->(∃ys,eh S y=bt ys/\(c9 x&&ys.all c9)=true/\c=ys.any λz=>CJ z x):=by
  intro c h;unfold CM at h;split at h
  ·split at h
   ·cases h; exact#[_,by assumption,by assumption,rfl]
   ·cases h
  ·cases h
 have ofN:∀ {c:Kn},(if sW y then bt c else gV)=bt k->y=.non/\k=c:=by
  intro c h;cases y with
  | non=>cases h; exact#[rfl,rfl]
  | _=>cases h
 cases o with
 | eq=>exact(Bh I so da X.A hu #[a,rx,ru] #[b,ry,rv] ek).1 _ _ _ _ (gh I so)
 | ne=>
  obtain⟨k',h1,rfl⟩:=J0.mp ek;exact(Bh I so da X.A hu #[a,rx,ru] #[b,ry,rv] h1).2.1 _ _ _ _ (gh I so)
 | lt=>
  obtain⟨i,j,rfl,rfl,rfl⟩:=twoI ek;cases rx; cases ry
  exact OpR.go E4 I ru rv #[_,_,rfl,rfl,.here so .bl]
 | le=>
  obtain⟨i,j,rfl,rfl,rfl⟩:=twoI ek;cases rx; cases ry
  exact OpR.go E5 I ru rv #[_,_,rfl,rfl,.here so .bl]
 | gt=>
  obtain⟨i,j,rfl,rfl,rfl⟩:=twoI ek;cases rx; cases ry
  exact OpR.go E6 I ru rv #[_,_,rfl,rfl,.here so .bl]
 | ge=>
  obtain⟨i,j,rfl,rfl,rfl⟩:=twoI ek;cases rx; cases ry
  exact OpR.go E7 I ru rv #[_,_,rfl,rfl,.here so .bl]
 | isin=>
  obtain⟨ys,h1,h2,rfl⟩:=ofSq ek;exact vw (neg:=false) sM I so rx ru ry rv h1 h2
 | notin=>
  obtain⟨c,h,rfl⟩:=J0.mp ek;obtain⟨ys,h1,h2,rfl⟩:=ofSq h;exact vw (neg:=true) lI I so rx ru ry rv h1 h2
 | is=>
  obtain⟨rfl,rfl⟩:=ofN ek;cases ry;show OpR.go Cq I ru rv #[rfl,?_];cases rx <;> exact .here so .bl
 | isnot=>
  cases y with
  | non=>
   have ek:bt (!sW x)=bt k:=ek;cases ek;cases ry;show OpR.go yD I ru rv #[rfl,?_];cases rx <;> exact .here so .bl
  | bl b'=>
   cases x with
   | bl a'=>
    have ek:bt (!(a'==b'))=bt k:=ek;cases ek;cases rx;cases ry;obtain rfl:u=LJ a':=ru;obtain rfl:v=LJ b':=rv;show wpAny_isNot_plain rfl ?_;have e:(!(LJ a'==LJ b')) = !(a'==b'):=by cases a' <;> cases b' <;> rfl
    rw[e];exact gh I so
   | _=>cases ek
  | _=>cases x <;> cases ek
end
end Mi
namespace HT
open PySem PyProof.Rows
section
variable{prog:Ke}{w:Kr}{A:Kw}{E:JU->JV->Prop}{s:JV}
def fq {t sl:td}{items:KP JU}{vl vu:JU}{lo hi:JX Kk}{Q:JU->JV->Prop}(ht:QX s.heap t items)(hs:s.heap.IsSliceOf sl vl vu .none)(pl:Ol vl lo)(pu:Ol vu hi)
  (hw:bw items.size 0 lo=0/\bw items.size items.size hi=items.size) (h:Q (.ref t) s):wpAny (model prog w) A (getItem (.ref t) (.ref sl)) Q E s:=by
 obtain⟨os,hos,hcs,hds⟩:=id hs;have hTs:s.TypeIs (.ref sl) "slice":=#[os,hos,hcs];unfold getItem
 try with_reducible show K5 ?_
 first|refine JT (JZ ?_)|skip
 show JT (Qf ht.typeIs #v[] ?_)
 show JT (KR (name:=LQ "__getitem__") ht.typeIs L9
  (K3 L9 ht.typeIs Ps ?_ (PU _ _)))
 change wpAny _ _ (Np (.ref t) >>= _) _ _ s;show JT (RO ht ?_);show JT (NK hTs ?_);rw[Ks #v[]]
 show JT (c7 hs pl pu ?_);have hyes:((((bw items.size 0 lo:J4):Kk)==0&&(1:Kk)==1&&(bw items.size items.size hi - bw items.size 0 lo)==items.size)=true):=by
  rw[hw.1,hw.2];simp
 change wpAny _ _ (if (((bw items.size 0 lo:J4):Kk)==0&&(1:Kk)==1&&(bw items.size items.size hi - bw items.size 0 lo)==items.size)=true then _ else _) _ _ s
 rw[Ks hyes];unfold Ry;show JT (JT (NK ht.typeIs (JZ ?_)));rw[Ks #v[]]
 exact JT (M9 (JT (JZ (JZ #[_,rfl,JZ h]))))
end
end HT
namespace Mi
open PySem PySem.Spec PyProof.Rows L2
abbrev ut (x y:W)(S:aa):JX (W×aa):=match x,y with
 | .tup xs,.int i=>(oR xs i).map λw=>(w,S)
 | .ref r,.int i=>match fP S r with
  | some xs=>(oR xs i).map λw=>(w,S)
  | none=>gV
 | .str x,.int i=>if x.length<=sizeLine then(oR x.cps.toList i).map λc=>(.str #[[c].toArray],S)else gV
 | _,_=>gV
abbrev jp (xs:JS W)(lo hi:JX Kk):JS W:=(xs.drop (HT.bw xs.length 0 lo)).take (HT.bw xs.length xs.length hi - HT.bw xs.length 0 lo)
abbrev CN (x:W)(lo hi:JX Kk)(S:aa):JX (W×aa):=match x with
 | .tup xs=>bt (.tup (jp xs lo hi),S)
 | .ref r=>match fP S r with
  | some xs=>bt (.ref S.length,S++[.lst (jp xs lo hi)])
  | none=>gV
 | _=>gV
abbrev sX (o i v:W)(S:aa):JX aa:=match o,i with
 | .ref r,.int k=>match mZ S r with
  | some xs=>match ur xs.length k with
   | some j=>bt (S.set r (.lst (xs.set j v)))
   | none=>gV
  | none=>gV
 | _,_=>gV
section
variable (X:Cx)
abbrev LIx (g:W->W->aa->JX (W×aa)):Prop:=
 ∀(value slice:Kd) (J:JS (td×Ll)) (s:JV) (Y:L2.St) (H:Hp) (A:JS td) (S:aa) (x y:W) (a b:V) (u v:JU) (w:W) (S':aa),Inv X J Y H s->StoreOk X.w X.K A H S->
  Rel X.K A H x a->RelV a u->Rel X.K A H y b->RelV b v->g x y S=bt (w,S')->subscripted slice false u v=operate [u,v] (getItem u v)->wpAny (model X.prog X.w) X.A (subscriptTail value slice u v) (PostE X J Y A H S' w) X.xe s
abbrev LSl (g:W->JX Kk->JX Kk->aa->JX (W×aa)):Prop:=
 ∀(J:JS (td×Ll)) (s:JV) (Y:L2.St) (H:Hp) (A:JS td) (S:aa) (x:W) (a:V) (v vl vu:JU) (lo hi:JX Kk) (sl:td) (w:W) (S':aa),Inv X J Y H s->StoreOk X.w X.K A H S->
  Rel X.K A H x a->RelV a v->s.heap.IsSliceOf sl vl vu .none->Ol vl lo->Ol vu hi->g x lo hi S=bt (w,S')->
  ∃T id,typeLookup (.type T) "__getitem__" = pure (bt (.builtin id))/\s.TypeIs v T/\wpAny (model X.prog X.w) X.A (getItem v (.ref sl)) (PostE X J Y A H S' w) X.xe s
abbrev LSet (g:W->W->W->aa->JX aa):Prop:=
 ∀(J:JS (td×Ll)) (s:JV) (Y:L2.St) (H:Hp) (A:JS td) (S:aa) (o i x:W) (ao ai ax:V) (uo ui ux:JU) (S':aa),Inv X J Y H s->StoreOk X.w X.K A H S->
  Rel X.K A H o ao->RelV ao uo->Rel X.K A H i ai->RelV ai ui->Rel X.K A H x ax->RelV ax ux->g o i x S=bt S'->
  wpAny (model X.prog X.w) X.A (setItem uo ui ux) (λ_ s'=>∃H' A',Inv X J Y H' s'/\Ext X.K A H A' H'/\StoreOk X.w X.K A' H' S') X.xe s
abbrev LCall (f:JU)(g:JS W->aa->JX (W×aa)):Prop:=
 ∀(J:JS (td×Ll)) (s:JV) (Y:L2.St) (H:Hp) (A:JS td) (S:aa) (xs:JS W) (vs:JS V) (us:JS JU) (w:W) (S':aa),Inv X J Y H s->StoreOk X.w X.K A H S->
  RelL X.K A H xs vs->Vals vs us->g xs S=bt (w,S')->wpAny (model X.prog X.w) X.A (call f us) (PostE X J Y A H S' w) X.xe s
abbrev LMeth (id:Ls)(g:W->JS W->aa->JX (W×aa)):Prop:=
 ∀(J:JS (td×Ll)) (s:JV) (Y:L2.St) (H:Hp) (A:JS td) (S:aa) (x:W) (a:V) (u:JU) (xs:JS W) (vs:JS V) (us:JS JU) (w:W) (S':aa),Inv X J Y H s->StoreOk X.w X.K A H S->
  Rel X.K A H x a->RelV a u->RelL X.K A H xs vs->Vals vs us->g x xs S=bt (w,S')->wpAny (model X.prog X.w) X.A (call (.builtin id) (u::us)) (PostE X J Y A H S' w) X.xe s
end
section
variable{X:Cx}{J:JS (td×Ll)}{Y:L2.St}{H:Hp}{s:JV}{A:JS td}{S:aa}
def IxR.go {r:R2}(h:IxR X r){S':aa}{w:W}{a b:V}{u v:JU}{value slice:Kd}(I:Inv X J Y H s)(ru:RelV a u)(rv:RelV b v)(q:r a b H (EndV X.w X.K A H S' w))(hs:subscripted slice false u v=operate [u,v] (getItem u v)) :
  wpAny (model X.prog X.w) X.A (subscriptTail value slice u v) (PostE X J Y A H S' w) X.xe s:=aD (h value slice J s Y H a b u v _ I ru rv q hs) λ_ _=>EP.post
def CallR.go {f:JU}{r:JS V->Hp->VK->Prop}(h:CallR X f r){S':aa}{w:W}{vs:JS V}{us:JS JU}(I:Inv X J Y H s)(rv:Vals vs us)(q:r vs H (EndV X.w X.K A H S' w)) :
  wpAny (model X.prog X.w) X.A (call f us) (PostE X J Y A H S' w) X.xe s:=aD (h J s Y H vs us _ I rv q) λ_ _=>EP.post
def MtR.go {id:Ls}{r:V->JS V->Hp->VK->Prop}(h:MtR X id r){S':aa}{w:W}{a:V}{u:JU}{vs:JS V}{us:JS JU}(I:Inv X J Y H s)(ru:RelV a u)(rv:Vals vs us)(q:r a vs H (EndV X.w X.K A H S' w)) :
  wpAny (model X.prog X.w) X.A (call (.builtin id) (u::us)) (PostE X J Y A H S' w) X.xe s:=aD (h J s Y H a vs u us _ I ru rv q) λ_ _=>EP.post
def qW {xs:JS W}{vs:JS V}{i:Kk}{w:W}(r:RelL X.K A H xs vs)(e:oR xs i=bt w):∃v,oR vs i=bt v/\Rel X.K A H w v:=by
 unfold oR at e ⊢;rw[r.length]at e;cases q:ur vs.length i with
 | none=>rw[q]at e; cases e
 | some j=>
  rw[q]at e;obtain⟨v,h1,h2⟩:=r.get (show xs[j]?=bt w from e)
  exact#[v,h1,h2]
def Jz (hu:X.A.units+10 < cLine):LIx X ut:=by
 intro value slice J s Y H A S x y a b u v w S' I so rx ru ry rv e hs;cases rx with
 | tup h1 r1=>cases ry with
  | int=>
   (dsimp only[ut]at e; simp only[J0]at e)
   obtain⟨w',e1,e2⟩:=e;cases e2;obtain⟨z,h2,r2⟩:=qW r1 e1;exact IxR.go Cv I ru rv #[_,_,_,_,rfl,rfl,h1,h2,.here so r2] hs
  | _=>cases e
 | ref ea=>cases ry with
  | int=>
   dsimp only[ut]at e;split at e
   ·rename_i ws hw;rw[J0]at e;obtain⟨w',e1,e2⟩:=e;cases e2;obtain⟨vs,h1,r1⟩:=aV so hw ea;obtain⟨z,h2,r2⟩:=qW r1 e1;exact IxR.go yM I ru rv #[_,_,_,_,rfl,rfl,h1,h2,.here so r2] hs
   ·cases e
  | _=>cases e
 | str=>cases ry with
  | int=>
   dsimp only[ut]at e;split at e
   ·rw[J0]at e;obtain⟨c,e1,e2⟩:=e;cases e2;exact IxR.go Cw I ru rv #[_,_,_,rfl,rfl,by assumption,e1,.here so .str] hs
   ·cases e
  | _=>cases e
 | _=>cases ry <;> cases e
def lR {xs:JS W}{vs:JS V}{lo hi:JX Kk}(r:RelL X.K A H xs vs):RelL X.K A H (jp xs lo hi) (jd vs lo hi):=by
 unfold jp jd;rw[r.length];exact(r.drop _).take _
def zu:E9 X (λx lo hi H Q=>∃a xs,x=.ref a/\SqT X.K H a xs/\(jd xs lo hi=xs->Q (.ref a) H)/\∀p,H p=gV->Q (.ref p) (ay H p (.tup (jd xs lo hi)))):=by
 intro J s Y H x v vl vu lo hi sl Q I rx hs pl pu h;obtain⟨a,xs,rfl,hx,q0,q⟩:=h
 by_cases hw:(HT.bw xs.length 0 lo=0/\HT.bw xs.length xs.length hi=xs.length)
 ·cases rx;obtain⟨its,r,ht,hz⟩:=I.tuple hx;have hlen:its.toArray.size=xs.length:=by rw[Ki]; exact r.length.symm
  show#["tuple",_,PyProof.Rows.slot_tuple_getitem.lookup,ht.typeIs,?_];show HT.fq ht hs pl pu (by rw[hlen]; exact hw) #[.ref a,H,I,rfl,q0 ?_]
  unfold jd;rw[hw.1,hw.2];simp
 ·exact Cu J s Y H (.ref a) v vl vu lo hi sl Q I rx hs pl pu #[a,xs,rfl,hx,hw,q]
def JA:LSl X CN:=by
 intro J s Y H A S x a v vl vu lo hi sl w S' I so rx rv hs pl pu e;cases rx with
 | tup h1 r1=>
  cases e;obtain⟨T,id,z1,z2,z3⟩:=zu J s Y H _ v vl vu lo hi sl (EndV X.w X.K A H S (.tup (jp _ lo hi))) I rv hs pl pu #[_,_,rfl,h1,λq=>.here so (.tup h1 (by have:=lR (lo:=lo) (hi:=hi) r1; rw[q]at this; exact this)),λp hp=>.tup so (lR r1) hp]
  exact#[T,id,z1,z2,aD z3 λ_ _=>EP.post]
 | ref ea=>
  dsimp only[CN]at e;split at e
  ·rename_i ws hw;cases e;obtain⟨vs,h1,r1⟩:=aV so hw ea;obtain⟨T,id,z1,z2,z3⟩:=yN J s Y H _ v vl vu lo hi sl (EndV X.w X.K A H (S++[.lst (jp ws lo hi)]) (.ref S.length)) I rv hs pl pu #[_,_,rfl,h1,λp hp=>.lst so (lR r1) hp]
   exact#[T,id,z1,z2,aD z3 λ_ _=>EP.post]
  ·cases e
 | _=>cases e
def lset (hu:X.A.units+10 < cLine):LSet X sX:=by
 intro J s Y H A S o i x ao ai ax uo ui ux S' I so ro ruo ri rui rx rux e;cases ro with
 | ref ea=>cases ri with
  | int=>
   dsimp only[sX]at e;split at e
   ·rename_i ws hw;split at e
    ·rename_i j hj;cases e;obtain⟨vs,h1,r1⟩:=dz so hw ea;rw[r1.length]at hj;obtain⟨so',ex⟩:=so.write (jn hw) ea (r1.set rx j);exact aD (uR J s Y H _ _ _ uo ui ux (λH'=>H'=ay H _ (.lst (vs.set j ax))) I ruo rui rux #[_,_,_,_,rfl,rfl,h1,hj,rfl]) λ_ s' #[H',I',e']=>#[_,A,e' ▸ I',ex,so']
    ·cases e
   ·cases e
  | _=>cases e
 | _=>cases ri <;> cases e
abbrev m8 (xs:JS W)(S:aa):JX (W×aa):=match xs with
 | [.tup ys]=>bt (.int ys.length,S)
 | [.str y]=>if y.length<=sizeLine then bt (.int y.length,S)else gV
 | [.ref i]=>(fP S i).map λys=>(.int ys.length,S)
 | _=>gV
def sY:LCall X (.builtin "len") m8:=by
 intro J s Y H A S xs vs us w S' I so rl rv e;cases rl with
 | nil=>cases e
 | cons r t=>
  cases t with
  | cons _ _=>cases r <;> cases e
  | nil=>
   cases r with
   | tup h1 r1=>cases e; rw[r1.length]; exact CallR.go jb I rv #[_,_,rfl,.inr #[_,h1,rfl],.here so .int]
   | str=>
    dsimp only[m8]at e;split at e
    ·cases e; exact CallR.go jb I rv #[_,_,rfl,#[by assumption,rfl],.here so .int]
    ·cases e
   | ref ea=>
    (dsimp only[m8]at e; simp only[J0]at e)
    obtain⟨ws,hw,e2⟩:=e;cases e2;obtain⟨vs',h1,r1⟩:=aV so hw ea;rw[r1.length];exact CallR.go jb I rv #[_,_,rfl,.inl #[_,h1,rfl],.here so .int]
   | _=>cases e
abbrev gk (xs:JS W)(S:aa):JX (W×aa):=match xs with
 | [x]=>match eh S x with
  | some ys=>bt (.ref S.length,S++[.lst ys])
  | none=>gV
 | _=>gV
def fQ:LCall X (.type "list") gk:=by
 intro J s Y H A S xs vs us w S' I so rl rv e;cases rl with
 | nil=>cases e
 | cons r t=>
  cases t with
  | cons _ _=>cases e
  | nil=>
   dsimp only[gk]at e;split at e
   ·rename_i ys hy;cases e;obtain⟨p,vs',rfl,hq,r1⟩:=lQ (J:=J) (Y:=Y) (s:=s) so r hy;exact CallR.go lJ I rv #[p,vs',rfl,hq,λl hl=>.lst so r1 hl]
   ·cases e
abbrev jq (xs:JS W)(S:aa):JX (W×aa):=match xs with
 | [.tup ys]=>bt (.tup ys,S)
 | [.ref i]=>match fP S i with
  | some ys=>bt (.tup ys,S)
  | none=>gV
 | _=>gV
def iu:LCall X (.type "tuple") jq:=by
 intro J s Y H A S xs vs us w S' I so rl rv e;cases rl with
 | nil=>cases e
 | cons r t=>
  cases t with
  | cons _ _=>cases r <;> cases e
  | nil=>
   cases r with
   | tup h1 r1=>cases e; exact CallR.go fw I rv #[_,_,rfl,.inr #[h1,.here so (.tup h1 r1)]]
   | ref ea=>
    dsimp only[jq]at e;split at e
    ·rename_i ys hy;cases e;obtain⟨vs',h1,r1⟩:=aV so hy ea;exact CallR.go fw I rv #[_,_,rfl,.inl #[h1,λl hl=>.tup so r1 hl]]
    ·cases e
   | _=>cases e
abbrev gl (x:W)(xs:JS W)(S:aa):JX (W×aa):=match x,xs with
 | .ref i,[y]=>match mZ S i with
  | some ys=>if ys.length < sizeLine then bt (.non,S.set i (.lst (ys++[y])))else gV
  | none=>gV
 | _,_=>gV
def kQ {i:J4}{p:td}{ws ws0:JS W}{us:JS V}(so:StoreOk X.w X.K A H S)(e:mZ S i=bt ws0)(ea:A[i]?=bt p)(r:RelL X.K A H ws us){w:W}{v:V}(rw':Rel X.K A H w v) :
  EndV X.w X.K A H (S.set i (.lst ws)) w v (ay H p (.lst us)):=by
 obtain⟨so',ex⟩:=so.write (jn e) ea r;exact#[A,ex,so',rw'.mono ex]
def lS:LMeth X "list.append" gl:=by
 intro J s Y H A S x a u xs vs us w S' I so rx ru rl rv e;cases rx with
 | ref ea=>
  cases rl with
  | nil=>cases e
  | cons r t=>
   cases t with
   | cons _ _=>cases e
   | nil=>
    dsimp only[gl]at e;split at e
    ·rename_i ys hy;split at e
     ·rename_i hl;cases e;obtain⟨vs',h1,r1⟩:=dz so hy ea;rw[r1.length]at hl;exact MtR.go sN I ru rv #[_,_,_,rfl,rfl,h1,hl,kQ so hy ea (r1.append #v[r]) .non]
     ·cases e
    ·cases e
 | _=>cases e
abbrev iK (x:W)(xs:JS W)(S:aa):JX (W×aa):=match x,xs with
 | .ref i,[.ref j]=>match mZ S i,mZ S j with
  | some ys,bt zs=>if ys.length+zs.length<=sizeLine then bt (.non,S.set i (.lst (ys++zs)))else gV
  | _,_=>gV
 | _,_=>gV
def lT:LMeth X "list.extend" iK:=by
 intro J s Y H A S x a u xs vs us w S' I so rx ru rl rv e;cases rx with
 | ref ea=>
  cases rl with
  | nil=>cases e
  | cons r t=>
   cases t with
   | cons _ _=>cases r <;> cases e
   | nil=>
    cases r with
    | ref eb=>
     dsimp only[iK]at e;split at e
     ·rename_i ys zs hy hz;split at e
      ·rename_i hl;cases e;obtain⟨vs',h1,r1⟩:=dz so hy ea;obtain⟨vs2,h2,r2⟩:=dz so hz eb;rw[r1.length,r2.length]at hl;exact MtR.go sO I ru rv #[_,_,_,_,rfl,rfl,h1,h2,hl,kQ so hy ea (r1.append r2) .non]
      ·cases e
     ·cases e
    | _=>cases e
 | _=>cases e
abbrev gY:JS W->JX (JS J3)
 | []=>bt []
 | .str x::xs=>(gY xs).map (x :: ·)
 | _::_=>gV
abbrev qX (x:W)(xs:JS W)(S:aa):JX (W×aa):=match x,xs with
 | .str x,[y]=>match eh S y with
  | some ys=>match gY ys with
   | some zs=>if (zs.map (·.length)).sum+zs.length*x.length<=16777216 then bt (.str (SC x zs),S)else gV
   | none=>gV
  | none=>gV
 | _,_=>gV
def jr:∀ {ws:JS W} {vs:JS V} {us:JS JU} {zs:JS J3},RelL X.K A H ws vs->Vals vs us->gY ws=bt zs->Pp us zs
 | _,_,_,zs,.nil,.nil,e=>by cases e; exact .nil
 | _,_,_,zs,.cons r t,.cons q p,e=>by
  cases r with
  | str=>
   (dsimp only[gY]at e; simp only[J0]at e)
   obtain⟨z,e1,e2⟩:=e;subst e2;obtain⟨tk,rfl⟩ : ∃t,_=Nt _ t:=q;exact .cons _ tk (jr t p e1)
  | _=>cases e
def pA:LMeth X "str.join" qX:=by
 intro J s Y H A S x a u xs vs us w S' I so rx ru rl rv e;cases rx with
 | str=>
  cases rl with
  | nil=>cases e
  | cons r t=>
   cases t with
   | cons _ _=>cases e
   | nil=>
    simp only[qX]at e;split at e
    ·rename_i ys hy;split at e
     ·rename_i zs hz;split at e
      ·rename_i hl;cases e;obtain⟨p,vs',rfl,hq,r1⟩:=lQ (J:=J) (Y:=Y) (s:=s) so r hy;obtain⟨t0,rfl⟩ : ∃t,u=Nt _ t:=ru;obtain⟨u1,rfl,ru1⟩:=qI rv;have ru1':u1=Kl p:=ru1;subst ru1';rcases hq with hq|hq
       ·obtain⟨its,rr,pl,hz'⟩:=I.list hq;exact join_list pl.isList (by simpa using jr r1 rr hz) hl λt' k=>#[.str _,H,A,I.tok _,#[_,rfl],.refl,so,.str]
       ·obtain⟨its,rr,pl,hz'⟩:=I.tuple hq;exact join_tuple pl (by simpa using jr r1 rr hz) hl λt' k=>#[.str _,H,A,I.tok _,#[_,rfl],.refl,so,.str]
      ·cases e
     ·cases e
    ·cases e
 | _=>cases e
abbrev ei (S:aa):W->JX Kn
 | .non=>bt false
 | .bl b=>bt b
 | .int i=>bt (i != 0)
 | .str y=>if y.length<=sizeLine then bt ((y.length:Kk) != 0)else gV
 | .tup xs=>bt (!xs.isEmpty)
 | .ref i=>(fP S i).map λxs=>!xs.isEmpty
def iw {ws:JS W}{vs:JS V}(r:RelL X.K A H ws vs):(!ws.isEmpty) = !vs.isEmpty:=by cases r <;> rfl
def Iq {x:W}{a:V}{u:JU}{k:Kn}{Q:Kn->JV->Prop}(I:Inv X J Y H s)(so:StoreOk X.w X.K A H S)(rx:Rel X.K A H x a)(ru:RelV a u)(e:ei S x=bt k)(hq:∀s',Inv X J Y H s'->Q k s') :
  wpAny (model X.prog X.w) X.A (truthy u) Q X.xe s:=by
 show aD (Cr J s Y H a u (λb H'=>b=k/\H'=H) I ru #[k,?_,rfl,rfl]) λb s' #[H',I',e1,e2]=>?_
 ·cases rx with
  | non=>cases e; rfl
  | bl=>cases e; rfl
  | int=>cases e; rfl
  | str=>
   simp only[ei]at e;split at e
   ·cases e; exact#[by assumption,rfl]
   ·cases e
  | tup h1 r1=>cases e; exact .inr (.inl #[_,h1,iw r1])
  | ref ea=>
   simp only[ei,J0]at e;obtain⟨ws,hw,e2⟩:=e;subst e2;obtain⟨vs,h1,r1⟩:=aV so hw ea;exact .inl #[_,h1,iw r1]
 ·subst e1 e2;exact hq s' I'
end
abbrev iE (xs:JS J3)(x:J3):JS J3:=if x∈xs then xs else xs++[x]
abbrev bJ (ss:JS J3):JS J3:=ss.foldl iE []
def sZ {ss:JS J3}{x:J3}:bJ (ss++[x])=iE (bJ ss) x:=by unfold bJ; rw[List.foldl_append]; rfl
def vx {xs:JS J3}{x:J3}:(iE xs x).length<=xs.length+1:=by
 unfold iE;split
 ·exact Mk _
 ·simp
def m9:∀ss:JS J3,(bJ ss).length<=ss.length:=λss=>by
 unfold bJ
 suffices h:∀(ss acc:JS J3),(ss.foldl iE acc).length<=acc.length+ss.length by simpa using h ss []
 intro ss
 induction ss with
 | nil=>intro acc; simp
 | cons x ss ih=>
  intro acc;have h1:=ih (iE acc x);have h2:=vx (xs:=acc) (x:=x);simp only[O0,KJ];omega
abbrev bK (w:Kr):Ll:={ cls:=.type "set",dict:=gV,data:=.set #[] 0 (.fresh 0 0 (!fO w)) }
def tf {w:Kr}:b7 w [] (bK w):=#[#[rfl,rfl,rfl],#[],0,_,rfl,#[λe he=>by simp at he,by simp,.nil,#v[],rfl,rfl,λ_=>rfl]]
section
variable{prog:Ke}{w:Kr}{A:Kw}{E:JU->JV->Prop}{s:JV}{R:Pb->JV->Prop}{I:td}{fp wr:JS td}{G:KP Of->KP Of->Prop}{n:J4}{P:J4->JU->Prop}{St:J4->JV->Prop}
def vy (W:WalksS prog w A.in1 I fp wr G n P St){D:td}(hD:D∉fp){ss:JS J3}(hl:ss.length=n)(hP:∀i v,P i v->∃x tk,ss[i]?=bt x/\v=.str x tk)(hb:n+1 < scanBound) :
  ∀(k i:J4) (s:JV) (o:Ll),n - i=k->i<=n->St i s->s.heap.get? D=bt o->b7 w (bJ (ss.take i)) o->
   (∀s' o',Moved (D::wr) G s s'->s'.heap.get? D=bt o'->b7 w (bJ ss) o'->R (.ok (.ret .none)) s')->codeAny (model prog w) A (.builtin "set.update.loop" #[[.ref D,.ref I],[]]) R s:=by
 have hw:D∉wr:=λz=>hD (W.sub _ z)
 have up:∀b∈wr,b∈D::wr:=λb z=>Ko _ z
 intro k
 induction k with
 | zero=>
  intro i s o hk hi st ho hS hR;obtain rfl:i=n:=∅
  show L6 F.entry_set_update_loop ?_;rw[LA F.plain_set_update_loop _];change wpAny _ A.in1 (pyNext (.ref I) >>= _) _ _ s;show JT (W.done s _ _ st λs' mv=>?_)
  exact JZ (hR s' o (mv.mono up) (mv.heap D _ hw ho) (by rw[LD ∅]at hS; exact hS))
 | succ k ih=>
  intro i s o hk hi st ho hS hR;have hlt:i < n:=∅
  show L6 F.entry_set_update_loop ?_;rw[LA F.plain_set_update_loop _];change wpAny _ A.in1 (pyNext (.ref I) >>= _) _ _ s;show JT (W.item i s _ _ hlt st λv s1 pv st1 mv=>?_)
  obtain⟨x,tk,hx,rfl⟩:=hP i v pv;change wpAny _ A.in1 (holding [Nt x tk] (setAdd D (.str x tk)) >>= _) _ _ s1;show JT (K5 ?_);unfold setAdd;show K5 (JT (OJ ?_));have hlen:(bJ (ss.take i)).length+1 < scanBound:=by
   have:=m9 (ss.take i);rw[Mc]at this;omega
  have o1:s1.heap.get? D=bt o:=mv.heap D _ hw ho;show y4 (s:={ s1 with toks:=s1.toks+1 }) o1 hS hlen λb h' o' sb ho' hS'=>?_
  show JZ #[Nz F.plain_set_update_loop _,ih (i+1) { s1 with heap:=h',toks:=s1.toks+1 } o' ∅ hlt (W.frame _ s1 _ _ st1 (Mk _) λc hc u q=>?_) ho' ?_ λs2 o2 mv2 ho2 hS2=>?_]
  ·rw[sb.2 c λz=>hD (z ▸ hc)]; exact q
  ·rw[Pd,hx];change b7 w (bJ (ss.take i++[x])) o';rw[sZ];exact hS'
  ·show hR s2 o2 (Moved.trans W.gtrans ((mv.mono up).then_heap (Mk _) λc u hc q=>?_) mv2) ho2 hS2
   rw[sb.2 c λz=>hc (z ▸ Kq)]
   exact q
def vz (a:JU){Q₁:JU->JV->Prop}(h:Q₁ (.ref s.heap.objs.size) { s with heap:=s.heap.push (bK w) }):codeAny (model prog w) A (.call (.builtin "set.__new__") #[[.type "set",a],[]]) (wants Q₁ E) s:=by
 show N3 ?_;change wpAny _ A.in1 (checkBuiltinCall "set.__new__" #[[.type "set",a],[]] >>= λ_=>again (.builtin "set.__new__" #[[.type "set",a],[]])) _ _ s
 show JT (OE (F.newCall_set_1 a) (JZ #[Nz F.plain_set_new _,L6 F.entry_set_new ?_]));rw[LA F.plain_set_new _];unfold Mm.«set.__new__» Rz;have hsub:=P0;obtain⟨hp,g,d,tk,os⟩:=s;dsimp only
 wp_walk
 show M5 (JZ ?_);dsimp only;simp only[newObj];exact JT (SD (JZ (JZ h)))
set_option maxHeartbeats 4000000 in
def vA {l:td}{its:KP JU}{ss:JS J3}{Q:JU->JV->Prop}(hh:A.handled=gV)(hl:s.heap.IsList l its)(hi:Pp its.toList ss)(hb:ss.length+1 < scanBound)
  (h:∀h' tk o,h'.get? s.heap.objs.size=bt o->b7 w (bJ ss) o->(∀b u,s.heap.get? b=bt u->h'.get? b=bt u)->Q (.ref s.heap.objs.size) { s with heap:=h',toks:=tk }):wpAny (model prog w) A (call (.type "set") [.ref l]) Q E s:=by
 obtain⟨c,tl,hmro⟩:=F.called_set.mro;have hmade:=F.called_set.made;have hsub:=F.called_set.sub;have hn1:=F.called_set.notType;have hn2:=F.called_set.canCreate;have hct:=F.typeCall_set_1 (.ref l);show No (N3 ?_);change wpAny _ _ (callAny (.type "set") _) _ _ _;show JZ #[On _ (by decide +kernel),L6 F.entry_type_call ?_]
 rw[Around.under_plain (weight_type_call_type "set" [.ref l] []) rfl]
 repeat (any_goals (first|assumption|wp_step))
 show Ms (vz (w:=w) (.ref l) (E:=E) (Q₁:=λobj s1=>obj=.ref s.heap.objs.size/\s1={ s with heap:=s.heap.push (bK w) }) #[rfl,rfl]) λr s1 hr=>?_
 match r,hr with
 | .ok (.ret obj),hr=>
  obtain⟨rfl,rfl⟩:=hr;have oS:(s.heap.push (bK w)).get? s.heap.objs.size=bt (bK w):=J7 _ rfl;have tS:Shared.TypeIs { s with heap:=s.heap.push (bK w) } (.ref s.heap.objs.size) "set":=#[_,oS,rfl]
  have hli:=F.called_set.init.lookup;have hbi:=F.called_set.init.bind (.ref s.heap.objs.size)
  repeat (any_goals (first|assumption|wp_step))
  show Ms (MO (R:=wants (λr s2=>r=.none/\∃h' tk o,s2={ s with heap:=h',toks:=tk }/\h'.get? s.heap.objs.size=bt o/\b7 w (bJ ss) o/\∀b u,s.heap.get? b=bt u->h'.get? b=bt u) E) F.called_set.init.plain F.entry_set_init (check_set_init_1 tS ?_)) λr2 s2 hr2=>?_
  ·obtain⟨⟨oc,od,ot,osl⟩,hol,hcl,nl,hdl⟩:=id hl;simp only at hcl hdl;subst hcl hdl;have hol1:=JW (bK w) hol;have l1:(s.heap.push (bK w)).IsList l its:=#[_,hol1,rfl,nl,rfl];have e1:=F.sub_list_set;have e2:=F.sub_list_frozenset;have e3:(Mp "list" == Mp "dict")=false:=by decide
   unfold Mm.«set.__init__» noKeywords Ra;generalize hPI:pyIter=PI
   wp_walk
   subst hPI;show NN l1 (JT (Pe ?_));have ls:l < s.heap.objs.size:=J8 hol;have sz:(s.heap.push (bK w)).objs.size=s.heap.objs.size+1:=Li ..;have ne:l≠(s.heap.push (bK w)).objs.size:=by rw[sz]; exact Kj (Lz ls)
   show vy ((SV (A:=A.in1.in1.in1) (by simp[hh]) _ l ne its).toS) (D:=s.heap.objs.size) (ss:=ss) (by rw[sz]; simp only[J5,Kz,Lo,QN]; exact#[Kj (K4 _),KW ls]) (by rw[<- hi.length,Kh]) (λi v q=>?_) (by rw[<- Kh,hi.length]; exact hb) _ 0 _ (bK w) rfl (Mt _)
    #[#[_,J7 _ rfl,rfl,rfl],l1.push _] (JW _ oS) tf λs3 o3 mv ho3 hS3=>?_
   ·obtain⟨x,tk,e,hx⟩:=hi.item i v (by rw[K7]; exact q)
    exact#[x,tk,hx,e]
   ·rw[RX mv];show JZ (JZ #[rfl,s3.heap,s3.toks,o3,rfl,ho3,hS3,λb u q=>?_])
    have hb:=J8 q;exact mv.heap b u (by rw[sz]; simp only[J5,Kz,Lo,QN]; exact#[Kj hb,Kj (Lz hb)]) (JW _ (JW _ q))
  ·match r2,hr2 with
   | .ok (.ret r),hr2=>
    obtain⟨rfl,h',tk,o,rfl,g1,g2,g3⟩:=hr2
    repeat (any_goals (first|assumption|wp_step))
    exact h h' tk o g1 g2 g3
   | .ok .next,hr2=>exact hr2.elim
   | .ok .brk,hr2=>exact hr2.elim
   | .ok .cont,hr2=>exact hr2.elim
   | .error e,hr2=>exact hr2
 | .ok .next,hr=>exact hr.elim
 | .ok .brk,hr=>exact hr.elim
 | .ok .cont,hr=>exact hr.elim
 | .error e,hr=>exact hr
end
def eB:Slot "set_iterator" "__next__" "set_iterator.__next__":=.of (owner:="set_iterator") (n:="__next__") (by rw[Rb,O7]; kernel_rfl) (by decide +kernel) (by decide +kernel) (by decide +kernel) (by first|exact .inl (by decide +kernel)|exact .inr (by decide +kernel)) (by rw[RA]; kernel_rfl)
def nh:Slot "set_iterator" "__iter__" "set_iterator.__iter__":=.of (owner:="set_iterator") (n:="__iter__") (by rw[Rb,O7]; kernel_rfl) (by decide +kernel) (by decide +kernel) (by decide +kernel) (by first|exact .inl (by decide +kernel)|exact .inr (by decide +kernel)) (by rw[RA]; kernel_rfl)
def tj:entryFor table "set_iterator.__next__" = bt Mm.«set_iterator.__next__»:=entryFor_of_tree (by kernel_rfl)
def pB:entryFor table "set.__iter__" = bt Mm.«frozenset.__iter__»:=RB (id':="frozenset.__iter__") (by kernel_rfl) rfl (by decide +kernel) (by kernel_rfl)
def vB (a:JU):argsOk "set_iterator.__next__" #[[a],[]]:=by unfold argsOk; kernel_rfl
section
variable{α:Type}{prog:Ke}{w:Kr}{A:Kw}{E:JU->JV->Prop}{s:JV}
def tm {src:Source}{n:J4}{Q:J4->JV->Prop}(hn:n≠0)(h:∀i dr,i < n->Q i { s with drawn:=dr }):wpAny (model prog w) A (choose src n) Q E s:=λ_ _ _=>#[hn,h _ _ (SW _ (Nat.pos_of_ne_zero hn))]
def jt:∀ {l:JS α} {i:J4} (h:i < l.length),(l[i]::l.eraseIdx i).Perm l
 | x::l,0,_=>.refl _
 | x::l,i+1,h=>(Tv _ _ _).trans ((jt (l:=l) (i:=i) (by simpa using h)).cons x)
def ju:∀(n:J4) (xs:JS α) {s:JV} {Q:JS α->JV->Prop},xs.length=n->(∀ys dr,ys.Perm xs->Q ys { s with drawn:=dr })->wpAny (model prog w) A (drawOrder n xs) Q E s
 | 0,xs,s,Q,hl,h=>by
  obtain rfl:=Mo.mp hl;exact JZ (h [] s.drawn .nil)
 | n+1,[],s,Q,hl,h=>by cases hl
 | n+1,x::xs,s,Q,hl,h=>by
  unfold drawOrder;show JT (tm (by simp) λi dr hi=>?_)
  rw[Kt hi];dsimp only;show JT (ju n _ (by rw[Os hi,hl]; rfl) λys dr' hp=>JZ (h _ dr' ?_))
  exact(hp.cons _).trans (jt hi)
def qY {next:J4->J4}:∀(f k:J4) (lf9:JS α) (out:KP α),f=lf9.length->(pickOrder.go next f k lf9 out).toList.Perm (out.toList++lf9)
 | 0,k,lf9,out,h=>by
  obtain rfl:=Mo.mp h.symm;simp[pickOrder.go]
 | f+1,k,lf9,out,h=>by
  unfold pickOrder.go;have hp:0 < lf9.length:=∅
  have hi:next k % lf9.length < lf9.length:=SW _ hp;rw[Kt hi];dsimp only;show(qY f (k+1) _ _ (by rw[Os hi]; omega)).trans ?_
  rw[Qo,OD];exact(jt hi).append_left _
def eR {next:J4->J4}{xs:KP α}:(pickOrder next xs).toList.Perm xs.toList:=by
 have:=qY (next:=next) xs.size 0 xs.toList #[] (by simp)
 simpa [pickOrder]using this
abbrev SIt (I:td)(f r:JU)(i n ep:J4)(h:KB):Prop:=h.get? I=bt { cls:=.type "set_iterator",data:=.fields [f,.int i 0,r,.int n 0,.int ep 0].toArray }
def SIt.type {I:td}{f r:JU}{i n ep:J4}(x:SIt I f r i n ep s.heap):s.TypeIs (.ref I) "set_iterator":=#[_,x,rfl]
def ni {I:td}{Q:JX JU->JV->Prop}{f r:JU}{i n ep:J4}(x:SIt I f r i n ep s.heap)(h:wpAny (model prog w) A.in1 (Mm.«set_iterator.__next__» #[[.ref I],[]]) (λfin s'=>∃v,fin=.done (.ret v)/\Q (bt v) s') (λe s'=>wpAny (model prog w) A (do if <- isInstance e (.type "StopIteration")then pure gV else throw e) Q E s') s):wpAny (model prog w) A (pyNext (.ref I)) Q E s:=by
 unfold pyNext;show JT (Mj (KR (name:=LQ "__next__") x.type eB (K3 eB x.type tj ?_ (vB _))));exact KO h (λ_ _ #[v,e,q]=>#[v,e,JZ q]) λ_ _ q=>q
abbrev Fo (prog:Ke)(w:Kr)(A:Kw)(Q:JX JU->JV->Prop)(E:JU->JV->Prop)(e:JU)(s':JV):Prop:=wpAny (model prog w) A (do if <- isInstance e (.type "StopIteration")then pure gV else throw e) Q E s'
def nj {Q:JX JU->JV->Prop}{Q2:PySem.Fin->JV->Prop}(hh:A.handled=gV)(h:∀h',(∀b o,s.heap.get? b=bt o->h'.get? b=bt o)->Q gV { s with heap:=h' }):wpAny (model prog w) A.in1 (newExc (.type "StopIteration") [] >>= λx=>raiseNew x) Q2 (Fo prog w A Q E) s:=by
 show JT ?_;simp only[newExc,newTuple];show JT (KI ?_ (by size_fits))
 show JT (m:=firstArgMember _ _) (OE (a:=K1) (by first|rfl|(simp only[firstArgMember]; rfl)) ?_)
 show KI ?_ (by size_fits)
 simp only[raiseNew];show JT (PH ?_);rw[show A.in1.handled=gV from hh]
 show JT (JZ (QZ ?_));show JT (M6 (T:="StopIteration") (b:=true) #[_,J7 _ rfl,rfl] Ot ?_);exact JZ (h _ λb o e=>JW _ (JW _ e))
section
variable{I a:td}{f r:JU}{i n ep sl:J4}{o:Ll}{es:KP (Kk×JU)}{t:Nr}{Q:JX JU->JV->Prop}
def eS {Q:Q5->JV->Prop}{vs:KP JU}{k:J4}{v:JU}(x:s.heap.get? I=bt { cls:=.type "set_iterator",data:=.fields vs })(hk:k < vs.size)(h:∀h',h'.get? I=bt { cls:=.type "set_iterator",data:=.fields (vs.setIfInBounds k v) }->LW I s.heap h'->Q () { s with heap:=h' }):wpAny (model prog w) A (setField (.ref I) k v) Q E s:=MA x hk h
def eT (x:SIt I (.int sl 0) (.ref a) i n ep s.heap)(ho:s.heap.get? a=bt o)(hd:o.data=.set es ep t)(hf:t.fits es.size=true)(hn:es.size=n)(hh:A.handled=gV){rs:JX (JU×J4)}
  (hx:∀Q':JX (JU×J4)->JV->Prop,Q' rs s->wpAny (model prog w) A.in1 (setNext a sl i ep) Q' (Fo prog w A Q E) s)
  (h1:∀v sl',rs=bt (v,sl')->∀h',SIt I (.int sl' 0) (.ref a) (i+1) n ep h'->(∀b o,b≠I->s.heap.get? b=bt o->h'.get? b=bt o)->Q (bt v) { s with heap:=h' })
  (h2:rs=gV->∀h',(∀b o,b≠I->s.heap.get? b=bt o->h'.get? b=bt o)->Q gV { s with heap:=h' }):wpAny (model prog w) A (pyNext (.ref I)) Q E s:=by
 show ni x ?_;show JT (JZ ?_);change wpAny _ _ (fieldsOf (.ref I) >>= _) _ _ s;show JT (Ou x rfl ?_);show JT (N9 ho hd hf ?_);rw[Kv (by simp[hn])]
 show JT (hx _ ?_);cases rs with
 | some p=>
  obtain⟨v,sl'⟩:=p;dsimp only;show JT (eS x (by simp) λh' x' sb'=>?_)
  show JT (eS x' (by simp) λh2 x2 sb2=>?_)
  show JZ #[v,rfl,h1 v sl' rfl h2 ?_ λb o hb e=>?_]
  ·simpa [SIt,rawInt]using x2
  ·rw[sb2.2 b hb,sb'.2 b hb]; exact e
 | none=>
  dsimp only;show JT (eS x (by simp) λh' x' sb'=>?_)
  show nj hh λh'' k=>h2 rfl h'' λb o hb e=>k b o (by rw[sb'.2 b hb]; exact e)
def kR {tp:td}{ps:JS J4}(x:SIt I (.ref tp) (.ref a) i n ep s.heap)(ho:s.heap.get? a=bt o)(hd:o.data=.set es ep t)(hf:t.fits es.size=true)(hn:es.size=n)(hh:A.handled=gV)
  (ht:s.heap.get? tp=bt { cls:=.type "tuple",data:=.seq (ps.map λk=>rawInt (k:J4)).toArray 0 })
  (h1:∀p e,ps[i]?=bt p->es[p]?=bt e->∀h',SIt I (.ref tp) (.ref a) (i+1) n ep h'->(∀b o,b≠I->s.heap.get? b=bt o->h'.get? b=bt o)->Q (bt e.2) { s with heap:=h' })
  (hp:∀p,ps[i]?=bt p->∃e,es[p]?=bt e)
  (h2:ps[i]?=gV->∀h',(∀b o,b≠I->s.heap.get? b=bt o->h'.get? b=bt o)->Q gV { s with heap:=h' }):wpAny (model prog w) A (pyNext (.ref I)) Q E s:=by
 show ni x ?_;show JT (JZ ?_);change wpAny _ _ (fieldsOf (.ref I) >>= _) _ _ s;show JT (Ou x rfl ?_);show JT (N9 ho hd hf ?_);rw[Kv (by simp[hn])]
 show JT (MB ht rfl ?_);dsimp only;have hg:(ps.map λk=>rawInt (k:J4)).toArray[(i:Kk).toNat]?=(ps[i]?).map λk=>rawInt (k:J4):=by simp
 rw[hg];cases q:ps[i]? with
 | some p=>
  obtain⟨e,he⟩:=hp p q;change wpAny _ _ (setNextDrawn a (p:Kk).toNat (ep:Kk).toNat >>= _) _ _ s;unfold setNextDrawn;show JT (JT (Mn ho hd hf ?_));dsimp only;rw[Kv (by simp)]
  simp only[Lg,he];show JZ ?_;show JT (eS x (by simp) λh' x' sb'=>?_)
  show JZ #[e.2,rfl,h1 p e q he h' ?_ λb o hb z=>?_]
  ·simpa [SIt,rawInt]using x'
  ·rw[sb'.2 b hb]; exact z
 | none=>
  dsimp only[Option.map_none];show JT (eS x (by simp) λh' x' sb'=>?_)
  show JT (eS x' (by simp) λh3 x3 sb3=>?_)
  show nj hh λh'' k=>h2 q h'' λb o hb e=>k b o (by rw[sb3.2 b hb,sb'.2 b hb]; exact e)
def kU {E:JU->JV->Prop}{Q:JX (JU×J4)->JV->Prop}(ho:s.heap.get? a=bt o)(hd:o.data=.set es ep t)(hf:t.fits es.size=true)(hb:fO w=true)(h:Q ((((pickOrder (w.params.setOrder a ep) es).toList.map (·.2))[i]?).map λv=>(v,sl)) s):wpAny (model prog w) A (setNext a sl i ep) Q E s:=by
 unfold setNext;show JT (Mn ho hd hf ?_);dsimp only;have ask1:∀ {Q:Kn->JV->Prop},Q true s->wpAny (model prog w) A setsByText Q E s:=λ{Q} hq=>by
  unfold setsByText;show JT (M5 (JZ ?_));change Q (fO w) s;rw[hb]; exact hq
 show JT (ask1 ?_);rw[Ks rfl,Kv (by simp)]
 show JT ?_;unfold setWalk;show JT (Mn ho hd hf ?_);dsimp only;show JT (ask1 ?_);rw[Ks rfl];show JT (M5 (JZ (JZ ?_)));have e:(((pickOrder (w.params.setOrder a ep) es)[i]?).map λe=>(e.2,sl))=((((pickOrder (w.params.setOrder a ep) es).toList.map (·.2))[i]?).map λv=>(v,sl)):=by
  rw[KA,K7,RC]; rfl
 change Q (((pickOrder (w.params.setOrder a ep) es)[i]?).map λe=>(e.2,sl)) s
 rw[e]; exact h
def nk {E:JU->JV->Prop}{Q:JX (JU×J4)->JV->Prop}(ho:s.heap.get? a=bt o)(hd:o.data=.set es ep t)(hf:t.fits es.size=true)(hb:fO w=false)(hl:t.led=true)(h1:es.size<=1)(hi:i=0/\sl=0\/i=es.size/\sl=(t.place.getD 0 0)+1)
  (h:Q (((es.toList.map (·.2))[i]?).map λv=>(v,t.place.getD 0 0+1)) s):wpAny (model prog w) A (setNext a sl i ep) Q E s:=by
 unfold setNext;show JT (Mn ho hd hf ?_);dsimp only;have ask1:∀ {Q:Kn->JV->Prop},Q false s->wpAny (model prog w) A setsByText Q E s:=λ{Q} hq=>by
  unfold setsByText;show JT (M5 (JZ ?_));change Q (fO w) s;rw[hb]; exact hq
 show JT (ask1 ?_);rw[Kv Kg];show MK (λhc=>absurd hc (by change ¬ ((!t.plain&&decide (es.size > 1))=true); simp; omega)) (λ_=>?_)
 show JT ?_;change wpAny _ _ (if (!t.led && !es.isEmpty)=true then unsupported "set:maker-not-led" else pure ()) _ _ s
 rw[Kv (by simp[hl])]
 show JZ (JZ ?_);obtain⟨es⟩:=es;obtain⟨mk,pl,dm,fg,ld,mv,pn⟩:=t;obtain⟨pl⟩:=pl;simp only[RY,JY,Ma]at hf
 match es,pl,hf.1,h1 with
 | [],[],_,_=>
  have:i=0:=by rcases hi with z|z <;> simpa using z.1
  subst this;exact h
 | [e],[j],_,_=>
  rcases hi with⟨rfl,rfl⟩|⟨rfl,rfl⟩
  ·exact h
  ·have e1:M3 [j].toArray (j+1)=1:=by
    change Qq [j].toArray (j+1) 1 0 1=1;simp[Qq]
   have e2:(({ mask:=mk,place:=[j].toArray,dummies:=dm,finger:=fg,led:=ld,moves:=mv,plain:=pn }:Nr).place.getD 0 0)=j:=rfl;change Q (match ([e].toArray:KP (Kk×JU))[M3 [j].toArray (j+1)]?,([j].toArray:KP J4)[M3 [j].toArray (j+1)]? with|some (_,x),bt j=>bt (x,j+1)|_,_=>gV) s
   rw[e1];exact h
 | e::e'::es,_,_,z=>simp at z
 | [],_::_,z,_=>simp at z
 | [_],[],z,_=>simp at z
 | [_],_::_::_,z,_=>simp at z
def jv {E:JU->JV->Prop}{Q:JX (JU×J4)->JV->Prop}(ho:s.heap.get? a=bt o)(hd:o.data=.set es ep t)(hf:t.fits es.size=true)(hb:fO w=false)(hl:t.led=true)(hp:t.plain=true)(hw:M3 t.place sl=i)
  (h:Q (((es.toList.map (·.2))[i]?).map λv=>(v,t.place.getD i 0+1)) s):wpAny (model prog w) A (setNext a sl i ep) Q E s:=by
 unfold setNext;show JT (Mn ho hd hf ?_);dsimp only;have ask1:∀ {Q:Kn->JV->Prop},Q false s->wpAny (model prog w) A setsByText Q E s:=λ{Q} hq=>by
  unfold setsByText;show JT (M5 (JZ ?_));change Q (fO w) s;rw[hb]; exact hq
 show JT (ask1 ?_);rw[Kv Kg];show MK (λhc=>absurd hc (by change ¬ ((!t.plain&&decide (es.size > 1))=true); simp[hp])) (λ_=>?_)
 show JT ?_;change wpAny _ _ (if (!t.led && !es.isEmpty)=true then unsupported "set:maker-not-led" else pure ()) _ _ s
 rw[Kv (by simp[hl])]
 show JZ (JZ ?_);rw[hw];have hz:t.place.size=es.size:=by
  simp only[RY,JY,Ma]at hf;exact hf.1
 rw[KA,K7]at h
 by_cases hi:i < es.size
 ·have e1:es[i]?=bt es[i]:=by simp[hi]
  have e2:t.place[i]?=bt (t.place.getD i 0):=by simp[RD,hz,hi]
  rw[e1]at h ⊢;rw[e2];exact h
 ·have e1:es[i]?=gV:=by simp; omega
  rw[e1]at h ⊢;exact h
end
end
def tq:entryFor table "set_iterator.__iter__" = bt Mm.«dict_keyiterator.__iter__»:=RB (id':="dict_keyiterator.__iter__") (by kernel_rfl) rfl (by decide +kernel) (by kernel_rfl)
def vC (a:JU):argsOk "set_iterator.__iter__" #[[a],[]]:=by unfold argsOk; kernel_rfl
section
variable{prog:Ke}{w:Kr}{A:Kw}{E:JU->JV->Prop}{s:JV}{I a tp:td}{f r:JU}{i n ep sl:J4}{o:Ll}{es:KP (Kk×JU)}{t:Nr}
def gm {Q:JU->JV->Prop}(x:SIt I f r i n ep s.heap)(h:Q (.ref I) s):wpAny (model prog w) A (pyIter (.ref I)) Q E s:=by
 show OF x.type nh (K3 nh x.type tq ?_ (vC _));change wpAny _ _ (ret (.ref I)) _ _ s;exact JZ #[_,rfl,"set_iterator",_,x.type,eB.lookup,h]
def nq {b x y:td}(h:b∉[x]):b≠x:=λz=>h (by simp[z])
def pE (hh:A.handled=gV)(hne:a≠I)(hd:o.data=.set es ep t)(hf:t.fits es.size=true)(hb:fO w=true) :
  R7 prog w A I [I,a] [I] es.size (λi v=>((pickOrder (w.params.setOrder a ep) es).toList.map (·.2))[i]?=bt v) (λi h=>SIt I (.int 0 0) (.ref a) i es.size ep h/\h.get? a=bt o) where
 sub:=λb hb=>by simp at hb; simp[hb]
 frame:=λ_ _ _ st hk=>#[hk I (by simp) _ st.1,hk a (by simp) _ st.2]
 item:=λi s Q E hi st hQ=>by
  have hl:((pickOrder (w.params.setOrder a ep) es).toList.map (·.2)).length=es.size:=by rw[J6,eR.length_eq,Kh]
  show eT (sl:=0) st.1 st.2 hd hf rfl hh (λQ' hq=>kU st.2 hd hf hb hq) (λv sl' e h' x' k=>?_) λe h' k=>?_
  ·obtain⟨v',q,e⟩:=J0.mp e;cases e;exact hQ v h' s.toks q #[x',k a _ hne st.2] λb o hb e=>k b o (nq (y:=b) hb) e
  ·rw[Nb,KQ]at e;omega
 done:=λs Q E st hQ=>by
  have hl:((pickOrder (w.params.setOrder a ep) es).toList.map (·.2)).length=es.size:=by rw[J6,eR.length_eq,Kh]
  show eT (sl:=0) st.1 st.2 hd hf rfl hh (λQ' hq=>kU st.2 hd hf hb hq) (λv sl' e h' x' k=>?_) λe h' k=>hQ h' s.toks λb o hb e=>k b o (nq (y:=b) hb) e
  obtain⟨v',q,e⟩:=J0.mp e;have:=(Kc.mp q).1;omega
 self:=λ_ _ _ _ st hQ=>gm st.1 hQ
def tu (hh:A.handled=gV)(hne:a≠I)(hd:o.data=.set es ep t)(hf:t.fits es.size=true)(hb:fO w=false)(hl:t.led=true)(h1:es.size<=1) :
  R7 prog w A I [I,a] [I] es.size (λi v=>(es.toList.map (·.2))[i]?=bt v) (λi h=>SIt I (.int ((if i=0 then 0 else t.place.getD 0 0+1:J4):Kk) 0) (.ref a) i es.size ep h/\h.get? a=bt o) where
 sub:=λb hb=>by simp at hb; simp[hb]
 frame:=λ_ _ _ st hk=>#[hk I (by simp) _ st.1,hk a (by simp) _ st.2]
 item:=λi s Q E hi st hQ=>by
  have i0:i=0:=∅
  subst i0;show eT st.1 st.2 hd hf rfl hh (λQ' hq=>nk st.2 hd hf hb hl h1 (.inl #[rfl,rfl]) hq) (λv sl' e h' x' k=>?_) λe h' k=>?_
  ·obtain⟨v',q,e⟩:=J0.mp e;cases e;exact hQ v h' s.toks q #[x',k a _ hne st.2] λb o hb e=>k b o (nq (y:=b) hb) e
  ·rw[Nb,KQ,J6,Kh]at e;omega
 done:=λs Q E st hQ=>by
  show eT st.1 st.2 hd hf rfl hh (λQ' hq=>nk st.2 hd hf hb hl h1 ?_ hq) (λv sl' e h' x' k=>?_) λe h' k=>hQ h' s.toks λb o hb e=>k b o (nq (y:=b) hb) e
  ·by_cases h0:es.size=0
   ·exact .inl #[h0,by rw[Ks h0]]
   ·exact .inr #[rfl,by rw[Kv h0]]
  ·obtain⟨v',q,e⟩:=J0.mp e;have:=(Kc.mp q).1;rw[J6,Kh]at this;omega
 self:=λ_ _ _ _ st hQ=>gm st.1 hQ
def nr (hh:A.handled=gV)(hne:a≠I)(hd:o.data=.set es ep t)(hf:t.fits es.size=true)(hb:fO w=false)(hl:t.led=true)(hp:t.plain=true)(hw:jl t es.size=true) :
  R7 prog w A I [I,a] [I] es.size (λi v=>(es.toList.map (·.2))[i]?=bt v) (λi h=>SIt I (.int ((if i=0 then 0 else t.place.getD (i - 1) 0+1:J4):Kk) 0) (.ref a) i es.size ep h/\h.get? a=bt o):=by
 have go:∀i,i<=es.size->M3 t.place (if i=0 then 0 else t.place.getD (i - 1) 0+1)=i:=λi hi=>by
  simp only[jl,JY,KG,LS,M0]at hw
  by_cases h0:i=0
  ·rw[Ks h0,h0]; exact hw.1
  ·rw[Kv h0,hw.2 (i - 1) ∅]; omega
 exact {
  sub:=λb hb=>by simp at hb; simp[hb]
  frame:=λ_ _ _ st hk=>#[hk I (by simp) _ st.1,hk a (by simp) _ st.2]
  item:=λi s Q E hi st hQ=>by
   show eT st.1 st.2 hd hf rfl hh (λQ' hq=>jv st.2 hd hf hb hl hp (go i ∅) hq) (λv sl' e h' x' k=>?_) λe h' k=>?_
   ·obtain⟨v',q,e⟩:=J0.mp e;cases e;exact hQ v h' s.toks q #[by rw[Kv (Nat.succ_ne_zero i)]; exact x',k a _ hne st.2] λb o hb e=>k b o (nq (y:=b) hb) e
   ·rw[Nb,KQ,J6,Kh]at e;omega
  done:=λs Q E st hQ=>by
   show eT st.1 st.2 hd hf rfl hh (λQ' hq=>jv st.2 hd hf hb hl hp (go _ (J9 _)) hq) (λv sl' e h' x' k=>?_) λe h' k=>hQ h' s.toks λb o hb e=>k b o (nq (y:=b) hb) e
   obtain⟨v',q,e⟩:=J0.mp e;have:=(Kc.mp q).1;rw[J6,Kh]at this;omega
  self:=λ_ _ _ _ st hQ=>gm st.1 hQ }
def nu {ps:JS J4}(hh:A.handled=gV)(hne:a≠I)(hnt:tp≠I)(hd:o.data=.set es ep t)(hf:t.fits es.size=true)(hp:ps.Perm (LK es.size)) :
  R7 prog w A I [I,a,tp] [I] es.size (λi v=>(ps.map λp=>(es.getD p (0,.none)).2)[i]?=bt v) (λi h=>SIt I (.ref tp) (.ref a) i es.size ep h/\h.get? a=bt o/\h.get? tp=bt { cls:=.type "tuple",data:=.seq (ps.map λk=>rawInt (k:J4)).toArray 0 }) where
 sub:=λb hb=>by simp at hb; simp[hb]
 frame:=λ_ _ _ st hk=>#[hk I (by simp) _ st.1,hk a (by simp) _ st.2.1,hk tp (by simp) _ st.2.2]
 item:=λi s Q E hi st hQ=>by
  have lt:∀ {p},ps[i]?=bt p->p < es.size:=λq=>M0.mp (hp.mem_iff.mp (Lr q))
  show kR st.1 st.2.1 hd hf rfl hh st.2.2 (λp e q qe h' x' k=>?_) (λp q=>#[es[p]'(lt q),by simp[lt q]]) λe h' k=>?_
  ·show hQ e.2 h' s.toks ?_ #[x',k a _ hne st.2.1,k tp _ hnt st.2.2] λb o hb e=>k b o (nq (y:=b) hb) e
   rw[KA,q];simp[RD,lt q];rw[MF (lt q)]at qe;cases qe; rfl
  ·rw[KQ,hp.length_eq,LL]at e;omega
 done:=λs Q E st hQ=>by
  show kR st.1 st.2.1 hd hf rfl hh st.2.2 (λp e q qe h' x' k=>?_) (λp q=>?_) λe h' k=>hQ h' s.toks λb o hb e=>k b o (nq (y:=b) hb) e
  ·have:=(Kc.mp q).1;rw[hp.length_eq,LL]at this;omega
  ·have:=(Kc.mp q).1;rw[hp.length_eq,LL]at this;omega
 self:=λ_ _ _ _ st hQ=>gm st.1 hQ
end
def nv:∀ {l:JS JU},(∀v∈l,∃x tk,v=.str x tk)->Pp l (l.map strOf)
 | [],_=>.nil
 | v::l,h=>by
  obtain⟨x,tk,rfl⟩:=h v (.head _);exact .cons x tk (nv λe he=>h e (.tail _ he))
section
variable{prog:Ke}{w:Kr}{A:Kw}{E:JU->JV->Prop}{s:JV}{a:td}{o:Ll}{xs:JS J3}{es:KP (Kk×JU)}{ep:J4}{t:Nr}
structure SetWalk (prog:Ke)(w:Kr)(A:Kw)(s:JV)(a:td)(es:KP (Kk×JU))(I:td)(h':KB):Prop where
 ex:∃(fp:JS td) (St:J4->KB->Prop) (us:JS JU) (n:J4),us.Perm (es.toList.map (·.2))/\us.length=n/\R7 prog w A I fp [I] n (λi v=>us[i]?=bt v) St/\St 0 h'/\∀b∈fp,b=a\/s.heap.objs.size<=b/\b < h'.objs.size
 new:s.heap.objs.size<=I
 keep:∀b u,s.heap.get? b=bt u->h'.get? b=bt u
def vD {Q:JU->JV->Prop}(hh:A.handled=gV)(ho:s.heap.get? a=bt o)(hex:o.ExactSet)(hd:o.data=.set es ep t)(hz:es.size<=sizeLine)(fit:t.fits es.size=true)(led:t.led = !fO w)(pl:t.plain=true->es.size=0\/jl t es.size=true)(h:∀I h' dr,SetWalk prog w A s a es I h'->Q (.ref I) { s with heap:=h',drawn:=dr }):wpAny (model prog w) A (pyIter (.ref a)) Q E s:=by
 have hT:s.TypeIs (.ref a) "set":=#[o,ho,hex.1];have ha:a < s.heap.objs.size:=J8 ho;show OF hT F.slot_set_iter (K3 F.slot_set_iter hT pB ?_ (F.args_set_iter_1 _));unfold Mm.«frozenset.__iter__»;show JT (JT (JZ ?_));change wpAny _ _ (pure a) _ _ s;show JZ ?_;unfold RZ setDrawn;show JT (JT (N9 ho hd fit (JZ ?_)));show JT (JT (Mn ho hd fit ?_));dsimp only;unfold setsByText;show JT (JT (M5 (JZ (JZ ?_))));have oI:∀(f:JU) (h0:KB),(h0.push { cls:=.type "set_iterator",data:=.fields [f,rawInt 0,.ref a,rawInt es.size,rawInt ep].toArray }).get? h0.objs.size=bt { cls:=.type "set_iterator",data:=.fields [f,rawInt 0,.ref a,rawInt es.size,rawInt ep].toArray }:=λf h0=>J7 _ rfl
 show MK (λhc=>?_) (λhc=>?_)
 ·show JT (ju es.size _ LL λps dr hp=>?_)
  show JT (Pf ?_ (by rw[J6,hp.length_eq,LL]; exact hz))
  have o1:=JW (seqObj "tuple" (ps.map λk=>rawInt (k:J4)).toArray 0) ho
  show JT (Qr o1 hd fit ?_);show JT (KI (JZ #[_,rfl,"set_iterator",_,#[_,oI _ _,rfl],eB.lookup,?_]));have z1:(s.heap.push (seqObj "tuple" (ps.map λk=>rawInt (k:J4)).toArray 0)).objs.size=s.heap.objs.size+1:=Li ..
  have W:=nu (prog:=prog) (w:=w) (A:=A) (a:=a) (I:=(s.heap.push (seqObj "tuple" (ps.map λk=>rawInt (k:J4)).toArray 0)).objs.size) (tp:=s.heap.objs.size) (ps:=ps) hh (by rw[z1]; exact Kj (Lz ha)) (by rw[z1]; exact Kj (K4 _)) hd fit hp
  have eL:(ps.map λp=>(es.getD p (0,K1)).2).length=es.size:=by rw[J6,hp.length_eq,LL]
  show h _ _ dr #[#[_,_,ps.map λp=>(es.getD p (0,K1)).2,_,?_,eL,W,#[oI _ _,JW _ o1,JW _ (J7 _ rfl)],λb hb=>?_],by rw[z1]; exact Mk _,λb u e=>JW _ (JW _ e)]
  ·show(hp.map _).trans ?_;have e:((LK es.size).map λp=>(es.getD p (0,K1)).2)=es.toList.map λe=>e.2:=by
    apply ON
    ·simp
    ·intro k h1 h2;simp only[J6,LL]at h1;simp[RD,h1]
   rw[e]
  ·rw[Li,z1];simp only[J5,Kz,Lo]at hb;rcases hb with rfl|rfl|rfl
   ·exact .inr #[by rw[z1]; exact Mk _,by rw[z1]; exact K4 _]
   ·exact .inl rfl
   ·exact .inr #[J9 _,Lz (K4 _)]
 ·show JT (JZ (JT (Qr ho hd fit ?_)));show JT (KI (JZ #[_,rfl,"set_iterator",_,#[_,oI _ _,rfl],eB.lookup,?_]));have near:∀b∈[s.heap.objs.size,a],b=a\/s.heap.objs.size<=b/\b < (s.heap.push { cls:=.type "set_iterator",data:=.fields [rawInt 0,rawInt 0,.ref a,rawInt es.size,rawInt ep].toArray }).objs.size:=λb hb=>by
   rw[Li];simp only[J5,Kz,Lo]at hb;rcases hb with rfl|rfl
   ·exact .inr #[J9 _,K4 _]
   ·exact .inl rfl
  cases hb:fO w with
  | true=>
   have W:=pE (prog:=prog) (A:=A) (I:=s.heap.objs.size) hh (Kj ha) hd fit hb;have eL:((pickOrder (w.params.setOrder a ep) es).toList.map (·.2)).length=es.size:=by rw[J6,eR.length_eq,Kh]
   show h _ _ s.drawn #[#[[s.heap.objs.size,a],_,(pickOrder (w.params.setOrder a ep) es).toList.map (·.2),_,eR.map _,eL,W,#[oI _ _,JW _ ho],near],J9 _,λb u e=>JW _ e]
  | false=>
   have hl:t.led=true:=by rw[led,hb]; rfl
   have eL:(es.toList.map (·.2)).length=es.size:=by rw[J6,Kh]
   by_cases hpw:t.plain=true/\jl t es.size=true
   ·have W:=nr (prog:=prog) (A:=A) (I:=s.heap.objs.size) hh (Kj ha) hd fit hb hl hpw.1 hpw.2;show h _ _ s.drawn #[#[[s.heap.objs.size,a],_,es.toList.map (·.2),_,.refl _,eL,W,#[oI _ _,JW _ ho],near],J9 _,λb u e=>JW _ e]
   have h1:es.size<=1:=by
    cases hp:t.plain with
    | true=>
     rcases pl hp with z|z
     ·rw[z]; exact Mt _
     ·exact absurd #[hp,z] hpw
    | false=>
     show QI λz=>hc ?_
     show((!fO w)&&((!t.plain)&&decide (es.size > 1)))=true;rw[hb,hp]
     simpa using z
   have W:=tu (prog:=prog) (A:=A) (I:=s.heap.objs.size) hh (Kj ha) hd fit hb hl h1;show h _ _ s.drawn #[#[[s.heap.objs.size,a],_,es.toList.map (·.2),_,.refl _,eL,W,#[oI _ _,JW _ ho],near],J9 _,λb u e=>JW _ e]
def vE {Q:Kn->JV->Prop}(hT:s.TypeIs (.ref a) "set")(h:Q false s):wpAny (model prog w) A (Oc (.ref a)) Q E s:=by
 unfold Oc;show JT (O2 hT F.slot_set_len.lookup ?_);generalize hid:("set.__len__" : Ls)=k0
 wp_delta
 rw[show splitId k0=bt ("set","__len__")from by subst hid; decide +kernel]
 subst hid;show JT (M6 (T:="set") (b:=true) hT P0 ?_);show MK (λz=>absurd z #v[]) (λ_=>MK (λ_=>?_) (λz=>absurd (by decide +kernel) z))
 exact JT (NK hT (JZ h))
def nw {Q:JS JU->JV->Prop}(hh:A.handled=gV)(ho:s.heap.get? a=bt o)(hex:o.ExactSet)(hd:o.data=.set es ep t)(hz:es.size<=sizeLine)(fit:t.fits es.size=true)(led:t.led = !fO w)(pl:t.plain=true->es.size=0\/jl t es.size=true)
  (hQ:∀h' tk dr us,(∀b u,s.heap.get? b=bt u->h'.get? b=bt u)->s.heap.objs.size<=h'.objs.size->us.Perm (es.toList.map (·.2))->Q us { s with heap:=h',toks:=tk,drawn:=dr }):wpAny (model prog w) A (collect (.ref a)) Q E s:=by
 have ha:a < s.heap.objs.size:=J8 ho;unfold collect;show JT (Pe (L6 F.entry_proto_collect ?_));rw[LA F.plain_proto_collect _];change wpAny _ A.in1 (newList [] >>= λl=>again (.builtin "list.__iadd__" #[[l,.ref a],[]])) _ _ s
 show JT (KI ?_);have oL:(s.heap.push { cls:=.type "list",data:=.seq ([]:JS JU).toArray }).get? s.heap.objs.size=bt { cls:=.type "list",data:=.seq #[] 0 }:=J7 _ rfl;have o1:=JW { cls:=.type "list",data:=.seq ([]:JS JU).toArray } ho;have z1:(s.heap.push { cls:=.type "list",data:=.seq ([]:JS JU).toArray }).objs.size=s.heap.objs.size+1:=Li ..;show JZ #[Nz F.plain_list_iadd _,L6 F.entry_list_iadd ?_];rw[LA F.plain_list_iadd _];change wpAny _ A.in1 (Nj (.ref s.heap.objs.size) (.ref a) (.ref s.heap.objs.size)) _ _ _;unfold Nj;show JT (NK (T:="set") #[o,o1,hex.1] ?_);have n1:OH (.ref s.heap.objs.size) (.ref a)=false:=by
  have:s.heap.objs.size≠a:=KW ha;simp[OH,this]
 have n2:(Mp "set" == Mp "list")=false:=by decide
 have n3:(Mp "set" == Mp "tuple")=false:=by decide
 simp only[n1,n2,n3,PD,Lk,Mx];show JT (vD (A:=A.in1) (by simp[hh]) o1 hex hd hz fit led pl λI h' dr W=>?_)
 obtain⟨⟨fp,St,us,n,hP,hn,W,st,hfp⟩,hI,kp⟩:=W;rw[z1]at hI;have oa:=kp a o o1;show JT (K5 (vE #[o,oa,hex.1] ?_));have oL1:=kp _ _ oL;have hD:s.heap.objs.size∉fp:=λz=>by
  rcases hfp _ z with e|⟨e,_⟩
  ·exact KW ha e
  ·rw[z1]at e; exact Nat.not_succ_le_self _ e
 show MK (λ_=>?_) (λz=>absurd (by decide +kernel) z)
 show JT (M9 (JT ?_));change wpAny _ _ (updateSeq s.heap.objs.size (·.push .none) >>= λ_=>updateSeq s.heap.objs.size (·.pop)) _ _ _
 show JT (Rc oL1 rfl ?_);have oL2:=Ld (ND (·.push K1)) oL1 rfl
 show Rc (hz:=by seq_fits) oL2 rfl ?_
 have oL3:=Ld (ND (·.pop)) oL2 rfl
 have hnl:n<=sizeLine:=by rw[<- hn,hP.length_eq,J6,Kh]; exact hz
 show JZ #[Nz PySem.F.plain_extend_loop _,codeAny_extend_loopS W.toS hnl s.heap.objs.size hD (.ref s.heap.objs.size) n 0 _ #[] _ rfl (Mt _) (W.frame 0 _ _ st λb hb u e=>?_) oL3 (ItemsOf.nil _) λs' acc c' mv oS hacc=>?_]
 ·have hb':b≠s.heap.objs.size:=λz=>hD (z ▸ hb)
  exact(KN _ _ (Ne.symm hb')).trans ((KN _ _ (Ne.symm hb')).trans e)
 ·rw[RX mv];change wpAny (model prog w) A (do
    let o <- load s.heap.objs.size
    match o.data with
    | .seq xs _=>pure xs.toList
    | _=>unsupported "internal:collect") Q E _
  show JT (Ro oS (JZ ?_));have eU:acc.toList=us:=by
   apply Qs;intro i
   by_cases hi:i < n
   ·have h1:i < acc.size:=by rw[hacc.1]; exact hi
    have:=hacc.2 i acc[i] (by simp[h1])
    rw[this,K7]; simp[h1]
   ·rw[Nh (by rw[Kh,hacc.1]; omega),Nh ∅]
  rw[eU];show hQ _ _ dr us (λb u e=>?_) (Mr (J8 oS)) hP
  have hb:=J8 e;have hb':b≠s.heap.objs.size:=Kj hb;show mv.heap b u (λz=>?_) ((KN _ _ (Ne.symm hb')).trans ((KN _ _ (Ne.symm hb')).trans (kp b u (JW _ e))))
  simp only[J5,Kz,Lo]at z;rcases z with z|z
  ·exact hb' z
  ·rw[z]at hb; exact Lq _ (Km (Lz hb) hI)
def ny {Q:JS JU->JV->Prop}(hh:A.handled=gV)(ho:s.heap.get? a=bt o)(hS:b7 w xs o)
  (hQ:∀h' tk dr us ss,(∀b u,s.heap.get? b=bt u->h'.get? b=bt u)->s.heap.objs.size<=h'.objs.size->Pp us ss->ss.Perm xs->Q us { s with heap:=h',toks:=tk,drawn:=dr }):wpAny (model prog w) A (collect (.ref a)) Q E s:=by
 obtain⟨hex,es,ep,t,hd,T⟩:=hS;show nw hh ho hex hd (by rw[T.size]; exact Qm T.few) T.fit T.led (λz=>.inl (T.pl z)) λh' tk dr us h1 h2 hP=>?_
 show hQ h' tk dr us (us.map strOf) h1 h2 ?_ ?_
 ·show nv λu hu=>?_
  obtain⟨e,he,rfl⟩:=MQ.mp (hP.mem_iff.mp hu);obtain⟨x,tk,rfl⟩:=T.el e he;exact#[x,tk,rfl]
 ·show(hP.map strOf).trans ?_;rw[Qt];exact T.pm
end
abbrev oU (x y:J3):Kn:=!ltCps y.cps.toList x.cps.toList
def iL {x y:J3}:oU x y=true↔¬ y.cps.toList < x.cps.toList:=by unfold oU; rw[ltCps_eq]; simp
def kW (x y z:J3)(h:oU x y=true)(h':oU y z=true):oU x z=true:=by
 rw[iL,Pg]at *
 exact List.le_trans h h'
def tz (x y:J3):(oU x y||oU y x)=true:=by
 rw[L5,iL,iL,Pg,Pg];exact List.le_total _ _
def vF {x y:J3}(h:oU x y=true)(h':oU y x=true):x=y:=by
 rw[iL,Pg]at *
 have:=List.le_antisymm h h';cases x; cases y
 exact congrArg Str.mk (Array.toList_inj.mp this)
abbrev cJ (xs:JS J3):JS J3:=xs.mergeSort oU
def dA {xs:JS J3}:(cJ xs).Perm xs:=List.mergeSort_perm _ _
def jw {xs:JS J3}:(cJ xs).Pairwise λa b=>oU a b=true:=List.pairwise_mergeSort kW tz _
def vG:∀ {a b:JS J3},a.Perm b->(a.Pairwise λa b=>oU a b=true)->(b.Pairwise λa b=>oU a b=true)->a=b
 | [],b,p,_,_=>(To p)
 | x::a,[],p,_,_=>absurd p.length_eq (by simp)
 | x::a,y::b,p,h,h'=>by
  have e:x=y:=by
   rcases J5.mp (p.mem_iff.mp (Kq))with e|e
   ·exact e
   ·rcases J5.mp (p.mem_iff.mpr (Kq))with e'|e'
    ·exact e'.symm
    ·exact vF (Nx h e') (Nx h' e)
  subst e;rw[vG ((List.perm_cons x).mp p) (Ov.mp h).2 (Ov.mp h').2]
def jx:∀ {l:JS J3} {p:J3},risingS p l=true->(p::l).Pairwise λa b=>oU a b=true
 | [],p,_=>by simp
 | x::r,p,h=>by
  unfold risingS at h;rw[JY]at h;have ih:=jx h.2;show Ov.mpr #[λy hy=>?_,ih]
  have px:oU p x=true:=h.1;rcases J5.mp hy with e|e
  ·rw[e]; exact px
  ·exact kW _ _ _ px (Nx ih e)
def tD {ss xs:JS J3}(p:ss.Perm xs)(h:sortedS ss=true):ss=cJ xs:=by
 show vG (p.trans dA.symm) ?_ jw;cases ss with
 | nil=>exact .nil
 | cons x r=>exact jx h
section
variable{prog:Ke}{w:Kr}{A:Kw}{E:JU->JV->Prop}{s:JV}{a:td}{o:Ll}{xs:JS J3}
def pG {Q:JU->JV->Prop}(hh:A.handled=gV)(ho:s.heap.get? a=bt o)(hS:b7 w xs o)(h64:xs.length < 64)
  (h:∀D h' tk dr c us,(∀b u,s.heap.get? b=bt u->h'.get? b=bt u)->s.heap.objs.size<=D->h'.get? D=bt (seqObj "list" us.toArray c)->Pp us (cJ xs)->Q (.ref D) { s with heap:=h',toks:=tk,drawn:=dr }) :
  wpAny (model prog w) A (call (.builtin "sorted") [.ref a]) Q E s:=by
 show Oy kind_sorted plain_sorted entry_sorted (args_sorted1 _) ?_;unfold Mm.«sorted»;show JT (m:=checkCount "sorted" 1 1 _) (JZ ?_);show JT (ny (A:=A.in1) (by simp[hh]) ho hS λh1 tk dr us ss kp hle hU hP=>?_)
 have hul:us.length < 64:=by rw[hU.length,hP.length_eq]; exact h64
 show JT (wpAny_newList ?_ (by rw[Lf]; omega))
 have oL:(h1.push (seqObj "list" us.toArray 0)).get? h1.objs.size=bt (seqObj "list" us.toArray 0):=J7 _ rfl;show JT (K5 (K3 slot_list_sort #[_,oL,rfl] entry_list_sort (list_sort_treeK strKind_oneLt oL hU.keysOf (λv₁ v₂ au e=>keyKind_strs (by rw[<- e]; exact hU)) hul λst' q1 q2=>#[_,rfl,?_]) (args_list_sort _)))
 obtain⟨ss',g1,g2,g3⟩:=sorted_out_str hU q1 q2;obtain⟨c,oD⟩:=sortedHeap_at (out:=(arrOf st').map (·.2)) oL
 show JZ #[_,rfl,h _ _ tk dr c ((arrOf st').map (·.2)).toList (λb u e=>?_) hle (by rw[Ph]; exact oD) (tD (g2.trans hP) g3 ▸ g1)]
 have lt:=J8 (kp b u e);exact(sortedHeap_old (Kj (Km (J8 e) hle)) (by rw[size_push']; exact Lz lt)).trans (JW _ (kp b u e))
end
abbrev nz:JS W->JX (JS J3)
 | []=>bt []
 | .str x::ws=>(nz ws).map (x :: ·)
 | _::_=>gV
def nA:∀ {ws:JS W} {ss:JS J3},nz ws=bt ss->ws=ss.map .str
 | [],_,h=>by cases h; rfl
 | .str x::ws,_,h=>by
  obtain⟨ss,h1,rfl⟩:=J0.mp h;rw[nA h1]; rfl
 | .non::_,_,h|.bl _::_,_,h|.int _::_,_,h|.tup _::_,_,h|.ref _::_,_,h=>by cases h
def kX:∀ {ss:JS J3},nz (ss.map .str)=bt ss
 | []=>rfl
 | x::ss=>by simp only[K6,nz,kX,Lv]
abbrev EB (S:aa)(i:J4):JX (JS J3):=match S[i]? with
 | some (.sts xs)=>bt xs
 | _=>gV
abbrev zv (S:aa)(i:J4):JX (Kk×Kk):=match S[i]? with
 | some (.rng lo hi)=>bt (lo,hi)
 | _=>gV
abbrev lU (xs:JS W)(S:aa):JX (W×aa):=match xs with
 | [.ref i]=>match fP S i with
  | some ws=>match nz ws with
   | some ss=>if ss.length+1 < scanBound then bt (.ref S.length,S++[.sts (bJ ss)])else gV
   | none=>gV
  | none=>gV
 | _=>gV
abbrev gp (xs:JS W)(S:aa):JX (W×aa):=match xs with
 | [.ref i]=>match EB S i with
  | some ss=>if ss.length < 64 then bt (.ref S.length,S++[.lst ((cJ ss).map .str)])else gV
  | none=>gV
 | _=>gV
abbrev pH (xs:JS W)(S:aa):JX (W×aa):=match xs with
 | [.int j]=>if -(2 ^ 62)<=j/\j < 2 ^ 62 then bt (.ref S.length,S++[.rng 0 j])else gV
 | _=>gV
abbrev Fp (lo:Kk)(n:J4):JS W:=(LK n).map λ(k:J4)=>.int (lo+(k:Kk))
abbrev nB (xs:JS W)(S:aa):JX (W×aa):=match xs with
 | [.ref i]=>match zv S i with
  | some (lo,hi)=>if -(2 ^ 62)<=lo/\lo < 2 ^ 62/\-(2 ^ 62)<=hi/\hi < 2 ^ 62/\(hi - lo).toNat<=sizeLine then bt (.ref S.length,S++[.lst (Fp lo (hi - lo).toNat)])else gV
  | none=>gk [.ref i] S
 | xs=>gk xs S
section
variable{X:Cx}{J:JS (td×Ll)}{Y:L2.St}{H:Hp}{s:JV}{A:JS td}{S:aa}
def Inv.drawn (I:Inv X J Y H s)(d:Sq):Inv X J Y H { s with drawn:=d }:=#[I.ok,I.os,I.bare,I.base,I.loc,I.cell,I.free,I.freeC,I.pin,I.hok,I.len]
def gq {h':KB}{tk:J4}{dr:Sq}{D:td}{n:O}{u:HO}(I:Inv X J Y H s)(so:StoreOk X.w X.K A H S)(hk:∀b o,s.heap.get? b=bt o->h'.get? b=bt o)(hD:s.heap.objs.size<=D)(new:ObjOk X.prog X.w (ay H D u) h' D u)
  (r:H D=gV->ObjRel X.w X.K (A++[D]) (ay H D u) D n):PostE X J Y A H (S++[n]) (.ref S.length) (.ref D) { s with heap:=h',toks:=tk,drawn:=dr }:=by
 have hn:H D=gV:=I.hok.fresh hD;show#[.ref D,_,A++[D],Mi.Inv.drawn (I.laid (a:=D) (o:=u) (t':=tk) hk hD new) dr,rfl,cr hn,so.pushO hn (r hn),.ref ?_];rw[<- so.len]; simp
def kY:∀ {ss:JS J3} {vs:JS V} {us:JS JU},RelL X.K A H (ss.map .str) vs->Vals vs us->Pp us ss
 | [],_,_,.nil,rv=>by cases rv; exact .nil
 | x::ss,_,_,.cons r t,rv=>by
  cases rv with
  | cons ru rv=>
   cases r;obtain⟨tk,rfl⟩:=ru;exact .cons x tk (kY t rv)
def kZ:∀ {ss:JS J3} {us:JS JU},Pp us ss->Vals (ss.map V.str) us
 | _,_,.nil=>.nil
 | _,_,.cons x tk h=>.cons #[tk,rfl] (kZ h)
def nC:∀ {ss:JS J3},RelL X.K A H (ss.map .str) (ss.map V.str)
 | []=>.nil
 | x::ss=>.cons .str nC
def lV:∀ {vs:JS V} {us:JS JU},vs.length=us.length->(∀(i:J4) v u,vs[i]?=bt v->us[i]?=bt u->L2.RelV v u)->Vals vs us
 | [],[],_,_=>.nil
 | v::vs,u::us,hl,h=>.cons (h 0 v u rfl rfl) (lV (by simpa using hl) λi v u a b=>h (i+1) v u (by simpa using a) (by simpa using b))
 | [],_::_,hl,_=>by cases hl
 | _::_,[],hl,_=>by cases hl
def lW {K:J2}{lo:Kk}:∀(l:JS J4),RelL K A H (l.map λ(k:J4)=>W.int (lo+(k:Kk))) (l.map λ(k:J4)=>V.int (lo+(k:Kk)))
 | []=>.nil
 | _::l=>.cons .int (lW l)
def gr {xs:JS W}{vs:JS V}{us:JS JU}{i:J4}(rl:RelL X.K A H [.ref i] vs)(rv:Vals vs us):∃a,A[i]?=bt a/\us=[.ref a]:=by
 cases rl with
 | cons r t=>
  cases t;cases r with
  | @ref _ a ea=>
   cases rv with
   | cons ru rv=>
    cases rv;obtain rfl:_=Kl a:=ru;exact#[a,ea,rfl]
def tF (hh:X.A.handled=gV):LCall X (.type "set") lU:=by
 intro J s Y H A S xs vs us w S' I so rl rv e;unfold lU at e;split at e
 ·rename_i i;obtain⟨a,ea,rfl⟩:=gr (xs:=[]) rl rv;split at e
  ·rename_i ws hw;split at e
   ·rename_i ss hs;split at e
    ·rename_i hb;cases e;obtain⟨vs',h1,r1⟩:=aV so hw ea;obtain⟨its,rv',p,_⟩:=I.list h1;rw[nA hs]at r1;show vA hh p.isList (by simpa using kY r1 rv') hb λh' tk o ho hS hk=>?_
     show gq (dr:=s.drawn) (u:=.frz o (.ext λh=>h.get? s.heap.objs.size=bt o)) I so hk (J9 _) #[ho,ho,#[o,ho],λh1 h2 q k=>k _ q] λ_=>#[o,_,ak,hS]
    ·cases e
   ·cases e
  ·cases e
 ·cases e
def vH {i:J4}{ss:JS J3}{a:td}(I:Inv X J Y H s)(so:StoreOk X.w X.K A H S)(h:EB S i=bt ss)(ea:A[i]?=bt a):∃o,s.heap.get? a=bt o/\b7 X.w ss o:=by
 unfold EB at h;split at h
 ·rename_i xs hx;cases h;obtain⟨o,φ,q,r⟩:=so.obj i _ a hx ea;exact#[o,(show ObjOk X.prog X.w H s.heap a (.frz o (.ext φ))from I.hok a _ q).1,r]
 ·cases h
def kB (hh:X.A.handled=gV):LCall X (.builtin "sorted") gp:=by
 intro J s Y H A S xs vs us w S' I so rl rv e;unfold gp at e;split at e
 ·rename_i i;obtain⟨a,ea,rfl⟩:=gr (xs:=[]) rl rv;split at e
  ·rename_i ss hs;split at e
   ·rename_i hb;cases e;obtain⟨o,ho,hS⟩:=vH I so hs ea;show pG hh ho hS hb λD h' tk dr c us hk hD oD hU=>?_
    have hl:us.length<=sizeLine:=by rw[hU.length,dA.length_eq,Lf]; omega
    show gq (u:=.lst ((cJ ss).map V.str)) I so hk hD #[by rw[J6,<- hU.length]; exact hl,us,c,kZ hU,oD] λhn=>#[_,ak,nC]
   ·cases e
  ·cases e
 ·cases e
def nD:LCall X (.type "range") pH:=by
 intro J s Y H A S xs vs us w S' I so rl rv e;unfold pH at e;split at e
 ·rename_i j;split at e
  ·rename_i hb;cases e;cases rl with
   | cons r t=>
    cases t;cases r;cases rv with
    | cons ru rv=>
     cases rv;obtain⟨tk,rfl⟩:=ru;exact Sc (gq (dr:=s.drawn) (u:=.rng 0 j) I so (λb o e=>JW _ e) (J9 _) #[_,_,_,J7 _ rfl] λ_=>ak)
  ·cases e
 ·cases e
def nE (hh:X.A.handled=gV):LCall X (.type "list") nB:=by
 intro J s Y H A S xs vs us w S' I so rl rv e;unfold nB at e;split at e
 ·rename_i i;split at e
  ·rename_i lo hi hr;split at e
   ·rename_i hb;cases e;obtain⟨a,ea,rfl⟩:=gr (xs:=[]) rl rv;obtain⟨b1,b2,b3,b4,b5⟩:=hb;have hH:H a=bt (.rng lo hi):=by
     unfold zv at hr;split at hr
     ·rename_i hx; cases hr; exact so.obj i _ a hx ea
     ·cases hr
    obtain⟨t,u,v,ho⟩:=I.hok a _ hH;have hn:LR lo hi 1=((hi - lo).toNat:J4):=by rw[Pz]; split <;> omega
    show call_list_range hh ho (R5 b1 b2 b3 b4) hn b5 λh' tk acc c hk hD hacc=>?_
    have hv:Vals ((LK (hi - lo).toNat).map λ(k:J4)=>V.int (lo+(k:Kk))) acc.toList:=by
     show lV (by rw[J6,LL,Kh,hacc.1]) λi v u e1 e2=>?_
     rw[KA,J0]at e1;obtain⟨k,e1,rfl⟩:=e1;obtain⟨hk,rfl⟩:=Kc.mp e1;obtain⟨t,rfl⟩:=hacc.2 i u (by rw[<- K7]; exact e2)
     exact#[t,by simp]
    show gq (dr:=s.drawn) (u:=.lst ((LK (hi - lo).toNat).map λ(k:J4)=>V.int (lo+(k:Kk)))) I so hk (J9 _) #[by simpa using b5,acc.toList,c,hv,by simpa using hD] λhn=>#[_,ak,?_]
    exact lW _
   ·cases e
  ·exact fQ J s Y H A S _ vs us w S' I so rl rv e
 ·exact fQ J s Y H A S _ vs us w S' I so rl rv e
end
mutual
inductive IsT (h:KB):T->JU->Prop
 | int {i:Kk} {t:R4}:IsT h (.int i) (.int i t)
 | str {x:J3} {t:R4}:IsT h (.str x) (.str x t)
 | tup {ks:JS T} {a:td} {o:Ll} {items:KP JU} {n:J4}:h.get? a=bt o->o.cls=.type "tuple"->o.data=.seq items n->IsTs h ks items.toList->IsT h (.tup ks) (.ref a)
inductive IsTs (h:KB):JS T->JS JU->Prop
 | nil:IsTs h [] []
 | cons {k:T} {v:JU} {ks:JS T} {vs:JS JU}:IsT h k v->IsTs h ks vs->IsTs h (k::ks) (v::vs)
end
mutual
theorem IsT.inj {h:KB}:∀ {x y:T} {v:JU},IsT h x v->IsT h y v->x=y
 | _,_,_,.int,h2=>by cases h2; rfl
 | _,_,_,.str,h2=>by cases h2; rfl
 | _,_,_,.tup a1 _ d1 t1,h2=>by
  cases h2 with
  | tup a2 _ d2 t2=>
   rw[a1]at a2; cases a2
   rw[d1]at d2; cases d2
   rw[IsTs.inj t1 t2]
theorem IsTs.inj {h:KB}:∀ {x y:JS T} {v:JS JU},IsTs h x v->IsTs h y v->x=y
 | _,_,_,.nil,h2=>by cases h2; rfl
 | _,_,_,.cons a b,h2=>by
  cases h2 with
  | cons c d=>rw[IsT.inj a c,IsTs.inj b d]
end
mutual
theorem IsT.keeps {h h':KB}{d:td}{o:Ll}{es:KP Lm}{ep:J4}(ho:h.get? d=bt o)(hd:o.data=.dict es ep)(hs:LW d h h'):∀ {x:T} {v:JU},IsT h x v->IsT h' x v
 | _,_,.int=>.int
 | _,_,.str=>.str
 | _,_,.tup (a:=a) a1 c1 d1 t1=>by
  have hne:a≠d:=by
   rintro rfl;rw[a1]at ho; cases ho
   rw[d1]at hd; cases hd
  exact .tup ((hs.2 a hne).trans a1) c1 d1 (IsTs.keeps ho hd hs t1)
theorem IsTs.keeps {h h':KB}{d:td}{o:Ll}{es:KP Lm}{ep:J4}(ho:h.get? d=bt o)(hd:o.data=.dict es ep)(hs:LW d h h'):∀ {x:JS T} {v:JS JU},IsTs h x v->IsTs h' x v
 | _,_,.nil=>.nil
 | _,_,.cons a b=>.cons (IsT.keeps ho hd hs a) (IsTs.keeps ho hd hs b)
end
def IsTs.length {h:KB}:∀ {x:JS T} {v:JS JU},IsTs h x v->x.length=v.length
 | _,_,.nil=>rfl
 | _,_,.cons _ b=>by simp[IsTs.length b]
def IsTs.get {h:KB}:∀ {x:JS T} {v:JS JU},IsTs h x v->∀(j:J4) (h1:j < x.length) (h2:j < v.length),IsT h x[j] v[j]
 | _,_,.cons a _,0,_,_=>a
 | _,_,.cons _ b,j+1,h1,h2=>IsTs.get b j (by simpa using h1) (by simpa using h2)
def jy:∀ {ks:JS T} (j:J4) (h:j < ks.length),(ks[j]).depth<=T.depths ks
 | k::ks,0,_=>by simp only[T.depths,List.getElem_cons_zero]; omega
 | k::ks,j+1,h=>by
  have:=jy (ks:=ks) j (by simpa using h)
  simp only[T.depths,List.getElem_cons_succ]; omega
section
variable{prog:Ke}{w:Kr}{E:JU->JV->Prop}
mutual
theorem nF:∀(k:T) (v:JU) (A:Kw) (s:JV) (Q:Kk->JV->Prop),IsT s.heap k v->A.units+k.depth < cLine->Q (mY w k) { s with toks:=s.toks+k.draws }->wpAny (model prog w) A (pyHash v) Q E s
 | .int i,_,A,s,Q,x,_,h=>by cases x; exact QA h
 | .str y,_,A,s,Q,x,_,h=>by cases x; exact OJ h
 | .tup ks,_,A,s,Q,x,hu,h=>by
  cases x with
  | @tup _ a o items n hg hc hd hw=>
   simp only[T.depth]at hu;show PySem.W.pyHash_slot (T:="tuple") #[_,hg,hc] F.slot_tuple_hash F.entry_tuple_hash (F.args_tuple_hash_1 _) (beq_builtin_none _) (.inr ∅) ?_
   change wpAny _ _ (Np (.ref a) >>= _) _ _ s;show JT (wpAny_tupleItemsOf hg hd ?_);show JT ?_;rw[<- P1];show jA ks items.toList A.in1 s #[] _ hw (by rw[ba]; omega) λb hb=>?_
   change wpAny _ _ (retInt (Ox b.toList)) _ _ _;rw[hb];show JT (Q1 (JZ #[_,_,rfl,?_]))
   simpa [T.draws,R0,mY]using h
theorem jA:∀(ks:JS T) (vs:JS JU) (A:Kw) (s:JV) (b:KP Kk) (Q:KP Kk->JV->Prop),IsTs s.heap ks vs->A.units+T.depths ks < cLine->
  (∀b',b'.toList=b.toList++jm w ks->Q b' { s with toks:=s.toks+T.drawss ks })->
  wpAny (model prog w) A (forIn vs b λx r=>do let h <- pyHash x; pure PUnit.unit; pure (L7 (r.push h))) Q E s
 | [],_,A,s,b,Q,x,_,h=>by cases x; exact JZ (h b (by simp[jm]))
 | k::ks,_,A,s,b,Q,x,hu,h=>by
  cases x with
  | cons x1 x2=>
   simp only[T.depths]at hu;rw[N4];show JT (JT (nF k _ A s _ x1 ∅ ?_))
   show JT (JZ (JZ ?_));show jA ks _ A _ _ Q x2 ∅ λb' hb=>?_
   have:=h b' (by simp[hb,jm])
   simpa [T.drawss,R0]using this
end
open SeqAt in
def vI:∀(d:J4) (x y:T) (u v:JU) (B:Kw) (s:JV),x.depth<=d->IsT s.heap x u->IsT s.heap y v->B.units+d < cLine->B.units+y.depth < cLine->EqAt B s u v (decide (x=y))
 | d,.int i,y,_,_,B,s,_,h1,h2,hu,hv=>by
  cases h1;cases h2 with
  | int=>
   rename_i j t2;have:decide (T.int i=T.int j)=(i==j):=by by_cases e:i=j <;> simp[e]
   rw[this]; exact .int_int _ _ _ _
  | str=>rw[KC (by simp)]; exact .int_str _ _ _ _
  | tup a c dd t=>rw[KC (by simp)]; exact .int_tuple _ _ #[_,a,c,_,dd] (by simp only[T.depth]at hv; omega)
 | d,.str z,y,_,_,B,s,_,h1,h2,hu,hv=>by
  cases h1;cases h2 with
  | int=>rw[KC (by simp)]; exact .str_int _ _ _ _
  | str=>
   rename_i z2 t2;have:decide (T.str z=T.str z2)=(z==z2):=by by_cases e:z=z2 <;> simp[e]
   rw[this]; exact .str_str _ _ _ _
  | tup a c dd t=>rw[KC (by simp)]; exact .str_tuple _ _ #[_,a,c,_,dd] (by simp only[T.depth]at hv; omega)
 | 0,.tup ks,y,_,_,B,s,hd,h1,h2,hu,hv=>by simp[T.depth]at hd
 | d+1,.tup ks,y,_,_,B,s,hd,h1,h2,hu,hv=>by
  have h1':=h1;cases h1 with
  | @tup _ a o items n a1 c1 d1 t1=>
   have hT:s.heap.IsTuple a items:=#[_,a1,c1,_,d1];simp only[T.depth]at hd;cases h2 with
   | int=>rw[KC (by simp)]; exact .tuple_int _ _ hT ∅
   | str=>rw[KC (by simp)]; exact .tuple_str _ _ hT ∅
   | @tup ks2 b o2 items2 n2 a2 c2 d2 t2=>
    have hT2:s.heap.IsTuple b items2:=#[_,a2,c2,_,d2]
    by_cases hab:a=b
    ·subst hab;have:T.tup ks=T.tup ks2:=h1'.inj (.tup a2 c2 d2 t2);rw[Lh this];exact EqAt.same _
    ·show EqAt.of_refs hab ?_;simp only[T.depth]at hv;have l1:items.size=ks.length:=by rw[<- Kh,t1.length]
     have l2:items2.size=ks2.length:=by rw[<- Kh,t2.length]
     let e:J4->Kn:=λj=>if h:j < ks.length/\j < ks2.length then decide (ks[j]'h.1=ks2[j]'h.2)else true
     have he:∀j (h1:j < items.size) (h2:j < items2.size),EqAt B.in1 s items[j] items2[j] (e j):=λj j1 j2=>by
      have g1:=t1.get j (l1 ▸ j1) (by simpa using j1)
      have g2:=t2.get j (l2 ▸ j2) (by simpa using j2)
      have q1:=jy (ks:=ks) j (l1 ▸ j1);have q2:=jy (ks:=ks2) j (l2 ▸ j2);have:=vI d _ _ _ _ B.in1 s ∅ g1 g2 (by rw[ba]; omega) (by rw[ba]; omega)
      change EqAt B.in1 s items[j] items2[j] (if h:j < ks.length/\j < ks2.length then decide (ks[j]'h.1=ks2[j]'h.2)else true)
      rw[Tb #[l1 ▸ j1,l2 ▸ j2]]
      simpa using this
     have:=RcAt.tuples hT hT2 ∅ he
     have hk:((LK (min items.size items2.size)).all e&&items.size==items2.size)=decide (T.tup ks=T.tup ks2):=by
      rw[l1,l2]
      by_cases hl:ks.length=ks2.length
      ·by_cases hq:ks=ks2
       ·subst hq;simp only[Si,KS,Nd,decide_true,LS,M0];intro j hj;show(if h:j < ks.length/\j < ks.length then decide (ks[j]'h.1=ks[j]'h.2)else true)=true
        rw[Tb #[hj,hj]]; simp
       ·rw[KC (by simpa using hq)]
        have:∃j,∃h:j < ks.length,ks[j]≠ks2[j]'(hl ▸ h):=by
         apply Oz;intro hn;exact hq (ON hl λj h1 h2=>Oz λz=>hn #[j,h1,z])
        obtain⟨j,hj,hne⟩:=this;rw[O8];apply Or.inl;rw[List.all_eq_false];show#[j,by rw[M0,<- hl,Si]; exact hj,?_]
        show ¬ (if h:j < ks.length/\j < ks2.length then decide (ks[j]'h.1=ks2[j]'h.2)else true)=true
        rw[Tb #[hj,hl ▸ hj]]
        simpa using hne
      ·rw[KC (by simp; intro z; exact hl (by rw[z])),O8]
       right
       simpa using hl
     rw[hk]at this;exact this
def k8 {n:J4}{v:JU}(h:∀a,v≠.ref a):eqIsQuiet n v=pure true:=by
 cases v with
 | ref a=>exact absurd rfl (h a)
 | _=>first|rfl|simp[eqIsQuiet]|(unfold eqIsQuiet; rfl)
def qZ:∀(d:J4) (k:T) (v:JU) (A:Kw) (s:JV) (Q:Kn->JV->Prop),k.depth<=d->IsT s.heap k v->Q true s->wpAny (model prog w) A (eqIsQuiet d v) Q E s
 | d,.int i,_,A,s,Q,_,x,h=>by cases x; rw[k8 (λa=>by simp)]; exact JZ h
 | d,.str i,_,A,s,Q,_,x,h=>by cases x; rw[k8 (λa=>by simp)]; exact JZ h
 | 0,.tup ks,_,A,s,Q,hd,x,h=>by simp[T.depth]at hd
 | d+1,.tup ks,_,A,s,Q,hd,x,h=>by
  cases x with
  | @tup _ a o items n ho hc hdt hi=>
   simp only[T.depth]at hd;have hT:s.TypeIs (.ref a) "tuple":=#[_,ho,hc];unfold eqIsQuiet;show JT (O2 hT F.slot_tuple_eq.lookup ?_);change wpAny _ _ (isInstance (.ref a) (.type "tuple") >>= _) _ _ s;show JT (M6 hT isSubtype_tuple_tuple ?_);simp only[NZ,Lk,Mx];show JT (MB ho hdt ?_);show JT ?_;change wpAny _ _ (forIn items _ _) _ _ s;rw[<- P1];show QM _ (λau r s'=>r.1=gV/\s'=s/\∃kk,IsTs s.heap kk au/\T.depths kk<=d) _ ?_ ?_ _ _ #[rfl,rfl,ks,hi,∅]
   ·rintro v au r s' ⟨hr,rfl,kk,hall,hdk⟩;cases hall with
    | cons q1 q2=>
     simp only[T.depths]at hdk;show JT (qZ d _ v _ _ _ ∅ q1 ?_)
     simp only[NZ,Lk,Mx];exact JZ #[rfl,rfl,_,q2,∅]
   ·rintro⟨r1,r2⟩ s' ⟨hr,rfl,_⟩;simp only at hr;subst hr;exact JZ h
end
abbrev cu (prog:Ke)(w:Kr):HeapKind prog w T where
 is:=λh k a=>IsT h k (.ref a)/\k.depth<=aO
 hash:=mY w
 draws:=T.draws
 room:=λA=>A.units+aO < cLine
 inj:=λhx hy=>hx.1.inj hy.1
 keeps:=λx ho hd hs=>#[x.1.keeps ho hd hs,x.2]
 pyHash:=λhu hk h=>nF _ _ _ _ _ hk.1 (by have:=hk.2; omega) h
 eqBool:=λhu hx hy h=>vI aO _ _ _ _ _ _ hx.2 hx.1 hy.1 hu (by have:=hy.2; omega) _ _ _ _ h
 quiet:=λhk h=>qZ 8 _ _ _ _ _ (by have:=hk.2; unfold aO at this; omega) hk.1 h
abbrev lX (S:aa)(i:J4):JX (JS (T×W)):=match S[i]? with
 | some (.dic U)=>bt U
 | some (.frd U)=>bt U
 | _=>gV
abbrev zw (S:aa)(i:J4):JX (JS (T×W)):=match S[i]? with
 | some (.dic U)=>bt U
 | _=>gV
abbrev dB (U:JS (T×W))(k:T):JX W:=(U.find? λp=>decide (p.1=k)).map (·.2)
abbrev tH (U:JS (T×W))(k:T)(v:W):JS (T×W):=
 if (U.any λp=>decide (p.1=k))=true then U.map (λp=>if p.1=k then(p.1,v)else p)else U++[(k,v)]
abbrev nG (w:W):JX T:=match W.t w with
 | some k=>if k.isTup=true/\k.depth<=aO then bt k else gV
 | none=>gV
def eV {w:W}{k:T}(h:nG w=bt k):k.w=w/\k.isTup=true/\k.depth<=aO:=by
 unfold nG at h;split at h
 ·rename_i k' hk;split at h
  ·rename_i hc;cases h;exact#[W.t_w hk,hc.1,hc.2]
  ·cases h
 ·cases h
def nH (U:JS (T×W))(k:T)(v:W):(tH U k v).length<=U.length+1:=by
 unfold tH;split
 ·rw[J6]; omega
 ·rw[Kb,KJ,MJ]; omega
section
variable{X:Cx}{J:JS (td×Ll)}{Y:L2.St}{H:Hp}{s:JV}{A:JS td}{S:aa}
mutual
theorem gZ (I:Inv X J Y H s):∀(k:T) {v:V} {u:JU},Rel X.K A H k.w v->RelV v u->IsT s.heap k u
 | .int i,_,_,r,q=>by
  cases r;obtain⟨t,rfl⟩ : ∃t,_=Od _ t:=q;exact .int
 | .str x,_,_,r,q=>by
  cases r;obtain⟨t,rfl⟩ : ∃t,_=Nt _ t:=q;exact .str
 | .tup ks,_,_,r,q=>by
  simp only[T.w]at r;cases r with
  | tup sq rl=>
   obtain⟨its,rv,⟨o,h1,h2,n,h3⟩,hz⟩:=I.tuple sq;obtain rfl:_=Kl _:=q;exact .tup h1 h2 h3 (iM I ks rl (by simpa using rv))
theorem iM (I:Inv X J Y H s):∀(ks:JS T) {vs:JS V} {us:JS JU},RelL X.K A H (T.ws ks) vs->Vals vs us->IsTs s.heap ks us
 | [],_,_,r,q=>by
  simp only[T.ws]at r;cases r; cases q; exact .nil
 | k::ks,_,_,r,q=>by
  simp only[T.ws]at r;cases r with
  | cons r1 r2=>
   cases q with
   | cons q1 q2=>exact .cons (gZ I k r1 q1) (iM I ks r2 q2)
end
def lY (I:Inv X J Y H s){k:T}{b:td}(r:Rel X.K A H k.w (.ref b))(hd:k.depth<=aO):(cu X.prog X.w).is s.heap k b:=#[gZ I k r rfl,hd]
def lZ {w:W}{k:T}{v:V}{u:JU}(hk:nG w=bt k)(r:Rel X.K A H w v)(q:RelV v u):∃b,v=.ref b/\u=.ref b/\Rel X.K A H k.w (.ref b):=by
 obtain⟨h1,h2,h3⟩:=eV hk;subst h1;cases k with
 | tup ks=>
  simp only[T.w]at r;cases r with
  | tup a b=>exact#[_,rfl,q,by simp only[T.w]; exact .tup a b]
 | _=>cases h2
def KRel.is {U:JS (T×W)}{xs:JS (T×td×JU)}(I:Inv X J Y H s)(r:KRel X.K A H U xs):∀x∈xs,(cu X.prog X.w).is s.heap x.1 x.2.1:=by
 unfold KRel at r
 induction r with
 | nil=>intro x hx; exact nomatch hx
 | @cons p q ps qs h t ih=>
  intro x hx;rcases J5.mp hx with e|hx
  ·subst e;obtain⟨h1,h2,h3,h4,_⟩:=h;rw[h1]at h3 h4;exact lY I h4 h3
  ·exact ih x hx
def KRel.length {U:JS (T×W)}{xs:JS (T×td×JU)}(r:KRel X.K A H U xs):U.length=xs.length:=OG r
def KRel.val {U:JS (T×W)}{xs:JS (T×td×JU)}(r:KRel X.K A H U xs)(k:T) :
  (∀w,dB U k=bt w->∃p v,atKey xs k=bt p/\Rel X.K A H w v/\RelV v p.2)/\(dB U k=gV->atKey xs k=gV):=by
 unfold KRel at r
 induction r with
 | nil=>exact#[λw h=>(nomatch h),λ_=>rfl]
 | @cons p q ps qs h t ih=>
  obtain⟨h1,_,_,_,v,h5,h6⟩:=h
  by_cases e:p.1=k
  ·have e':q.1=k:=h1.symm.trans e;have a1:dB (p::ps) k=bt p.2:=by simp[dB,LC,e]
   have a2:atKey (q::qs) k=bt q.2:=by simp[atKey,LC,e']
   rw[a1,a2];exact#[λw hw=>(by cases hw; exact#[_,v,rfl,h5,h6]),λh=>nomatch h]
  ·have e':¬ q.1=k:=λz=>e (h1.trans z)
   have a1:dB (p::ps) k=dB ps k:=by simp[dB,LC,e]
   have a2:atKey (q::qs) k=atKey qs k:=by simp[atKey,LC,e']
   rw[a1,a2];exact ih
def KRel.repl {U:JS (T×W)}{xs:JS (T×td×JU)}(r:KRel X.K A H U xs)(k:T){w:W}{v:V}{u:JU}(rw':Rel X.K A H w v)(rv:RelV v u) :
  KRel X.K A H (U.map λp=>if p.1=k then(p.1,w)else p) (xs.map (putAt k u)):=by
 unfold KRel at r ⊢
 induction r with
 | nil=>exact .nil
 | @cons p q ps qs h t ih=>
  rw[K6,K6];show .cons ?_ ih;obtain⟨h1,h2,h3,h4,h5⟩:=h;unfold putAt
  by_cases e:p.1=k
  ·rw[Ks e,Ks (h1.symm.trans e)]; exact#[h1,h2,h3,h4,v,rw',rv]
  ·rw[Kv e,Kv (λz=>e (h1.trans z))]; exact#[h1,h2,h3,h4,h5]
def nI (k:T):∀U:JS (T×W),(U.any λp=>decide (p.1=k))=(dB U k).isSome
 | []=>rfl
 | p::r=>by
  rw[LB]
  by_cases e:p.1=k
  ·have a1:dB (p::r) k=bt p.2:=by simp[dB,LC,e]
   rw[a1,Lh e]; rfl
  ·have a1:dB (p::r) k=dB r k:=by simp[dB,LC,e]
   rw[a1,KC e,NY]; exact nI k r
def KRel.put {U:JS (T×W)}{xs:JS (T×td×JU)}(r:KRel X.K A H U xs){k:T}{b:td}{w:W}{v:V}{u:JU}(h1:k.isTup=true)(h2:k.depth<=aO)(h3:Rel X.K A H k.w (.ref b))(rw':Rel X.K A H w v)(rv:RelV v u) :
  KRel X.K A H (tH U k w) (storedH xs k b u):=by
 have e:(U.any λp=>decide (p.1=k))=(atKey xs k).isSome:=by
  rw[nI];cases q:dB U k with
  | none=>rw[(r.val k).2 q]; rfl
  | some x=>obtain⟨p,_,h,_⟩:=(r.val k).1 x q; rw[h]; rfl
 unfold tH storedH;rw[e]
 by_cases q:(atKey xs k).isSome=true
 ·rw[Ks q,Ks q]; exact r.repl k rw' rv
 ·rw[Kv q,Kv q]; exact Sy r #[rfl,h1,h2,h3,v,rw',rv]
def DicAt.of {h:KB}{a:td}{xs:JS (T×td×JU)}(hz:xs.length<=sizeLine)(hs:(a==sysModules)=false)(d:h.DictOfH (cu X.prog X.w) a xs):DicAt X.w a xs h:=
 let ⟨o,es,ep,h1,h2,h3,h4,_,h6⟩:=d; #[hz,hs,h6,o,es,ep,h1,h2,h3,h4]
def DicAt.stay {wd:Kr}{h h':KB}{a:td}{xs:JS (T×td×JU)}(d:DicAt wd a xs h)(k:∀o,h.get? a=bt o->h'.get? a=bt o):DicAt wd a xs h':=
 let ⟨h0,hs,hn,o,es,ep,h1,h2⟩:=d; #[h0,hs,hn,o,es,ep,k _ h1,h2]
def DicAt.ok {P:Ke}{h:KB}{wd:Kr}{a:td}{xs:JS (T×td×JU)}(d:DicAt wd a xs h):ObjOk P wd H h a (dU wd a xs):=
 #[d,let ⟨_,_,_,o,_,_,h1,_⟩:=d; #[o,h1],λ_ _ p k=>p.stay k]
def cg {a:td}{xs:JS (T×td×JU)}(I:Inv X J Y H s)(e:Rd H a (dU X.w a xs)):DicAt X.w a xs s.heap:=(show ObjOk X.prog X.w H s.heap a (dU X.w a xs)from e.ok I.hok).1
def DicAt.dict {U:JS (T×W)}{a:td}{xs:JS (T×td×JU)}(d:DicAt X.w a xs s.heap)(I:Inv X J Y H s)(r:KRel X.K A H U xs):s.heap.DictOfH (cu X.prog X.w) a xs:=
 let ⟨_,_,hn,o,es,ep,h1,h2,h3,h4⟩:=d; #[o,es,ep,h1,h2,h3,h4,r.is I,hn]
def g0 {i:J4}{U:JS (T×W)}{a:td}(so:StoreOk X.w X.K A H S)(e:lX S i=bt U)(ea:A[i]?=bt a):∃xs,Rd H a (dU X.w a xs)/\KRel X.K A H U xs:=by
 unfold lX at e;split at e
 ·rename_i k h;cases e;obtain⟨xs,q,r⟩:=so.obj i _ a h ea;exact#[xs,.inl q,r]
 ·rename_i k h;cases e;obtain⟨o,xs,q,r⟩:=so.obj i _ a h ea;exact#[xs,.inr #[o,q],r]
 ·cases e
def q8 {i:J4}{U:JS (T×W)}(e:zw S i=bt U):S[i]?=bt (.dic U):=by
 unfold zw at e;split at e
 ·rename_i h; cases e; exact h
 ·cases e
def zx {i:J4}{U:JS (T×W)}{a:td}(so:StoreOk X.w X.K A H S)(e:zw S i=bt U)(ea:A[i]?=bt a):∃xs,H a=bt (dU X.w a xs)/\KRel X.K A H U xs:=
 so.obj i _ a (q8 e) ea
def q9 {B:Kw}(hu:B.units+10 < cLine):(cu X.prog X.w).room B.in1:=by
 change B.in1.units+aO < cLine;rw[ba]; unfold aO; omega
def jB (k:J3):∀U:JS (J3×Kk),kz (cf U) (.inr k)=(U.lookup k).map V.int
 | []=>rfl
 | p::r=>by
  obtain⟨x,n⟩:=p
  by_cases e:k=x
  ·subst e;rw[List.lookup_cons_self];exact je rfl
  ·rw[KD,L8 e];exact(jf (λz=>e (So z).symm)).trans (jB k r)
abbrev nJ (x y:W)(S:aa):JX (W×aa):=match x,y with
 | .ref r,.str k=>match S[r]? with
  | some (.dis U)=>(U.lookup k).map λn=>(.int n,S)
  | _=>gV
 | .ref r,.tup ks=>match lX S r,nG (.tup ks)with
  | some U,bt k=>(dB U k).map λw=>(w,S)
  | _,_=>gV
 | x,y=>ut x y S
def Ir (hu:X.A.units+10 < cLine):LIx X nJ:=by
 intro value slice J s Y H A S x y a b u v w S' I so rx ru ry rv e hs
 by_cases hxy:∃r ks,x=.ref r/\y=.tup ks
 ·obtain⟨r,ks,rfl,rfl⟩:=hxy;simp only[nJ]at e;split at e
  ·rename_i U k hk1 hk2;rw[J0]at e;obtain⟨w',e1,e2⟩:=e;cases e2;cases rx with
   | ref ea=>
    obtain⟨xs,rd,kr⟩:=g0 so hk1 ea;have d:=cg I rd;have dd:=d.dict I kr;obtain⟨bk,rfl,rfl,rk⟩:=lZ hk2 ry rv;obtain⟨p,vv,h1,h2,h3⟩:=(kr.val k).1 _ e1;obtain rfl:u=Kl _:=ru;show Na (x:=p.2) dd.typeIs slot_dict_getitem.lookup
     (wpAny_getItem_heap (Q:=λr s'=>r=p.2/\PostE X J Y A H S w r s') (q9 hu) (lY I rk (eV hk2).2.2) dd h1 #[rfl,vv,H,A,I.tok _,h3,.refl,so,h2]) hs
  ·cases e
 ·by_cases hz:∃r k,x=.ref r/\y=.str k
  ·obtain⟨r,k,rfl,rfl⟩:=hz;dsimp only[nJ]at e;split at e
   ·rename_i U hS;rw[J0]at e;obtain⟨n,e1,e2⟩:=e;cases e2;cases rx with
    | ref ea=>
     have hH:H _=bt (.dK (cf U)):=so.obj r _ _ hS ea;obtain⟨z,hd,vs,rel,dd⟩:=A7 I.hok (.inl hH);obtain⟨w',hw,rw'⟩:=RelO.some_of (v:=.int n) (o:=valueAt vs (.inr k)) (by rw[show bt (V.int n)=kz (cf U) (.inr k) by rw[jB,e1]; rfl]; exact rel.val _)
     cases ry;obtain rfl:u=Kl _:=ru;exact Na (x:=w') dd.typeIs slot_dict_getitem.lookup (QP (k:=OP k) (A6 rv) dd.mapOf hw #[rfl,.int n,H,A,I.tok _,rw',.refl,so,.int]) hs
   ·cases e
  have:nJ x y S=ut x y S:=by
   cases x <;> cases y <;> first|rfl|exact absurd #[_,_,rfl,rfl] hxy|exact absurd #[_,_,rfl,rfl] hz
  rw[this]at e;exact Jz hu value slice J s Y H A S x y a b u v w S' I so rx ru ry rv e hs
abbrev l0 (o i v:W)(S:aa):JX aa:=match o,i with
 | .ref r,.tup ks=>match zw S r,nG (.tup ks)with
  | some U,bt k=>if U.length < sizeLine then bt (S.set r (.dic (tH U k v)))else gV
  | _,_=>gV
 | o,i=>sX o i v S
def Fq (hu:X.A.units+10 < cLine):LSet X l0:=by
 intro J s Y H A S o i x ao ai ax uo ui ux S' I so ro ruo ri rui rx rux e
 by_cases hxy:∃r ks,o=.ref r/\i=.tup ks
 ·obtain⟨r,ks,rfl,rfl⟩:=hxy;dsimp only[l0]at e;split at e
  ·rename_i U k hk1 hk2;split at e
   ·rename_i hl;cases e;cases ro with
    | ref ea=>
     obtain⟨xs,hH,kr⟩:=zx so hk1 ea;have d:=cg I (.inl hH);have dd:=d.dict I kr;obtain⟨bk,rfl,rfl,rk⟩:=lZ hk2 ri rui;obtain⟨q1,q2,q3⟩:=eV hk2;obtain rfl:uo=Kl _:=ruo;have hz:xs.length<=sizeLine:=by rw[<- kr.length]; omega
     show wpAny_setItem_heap (hsz:=hz) (q9 hu) (lY I rk q3) dd λh' dd' hs=>?_
     have kr':=kr.put q2 q3 rk rx rux;have hz':(storedH xs k bk ux).length<=sizeLine:=by
      rw[<- kr'.length];have:=nH U k x;omega
     have dn:DicAt X.w _ (storedH xs k bk ux) h':=.of hz' d.2.1 dd';obtain⟨so',ex⟩:=so.writeO (q8 hk1) rfl ea (u:=dU X.w _ (storedH xs k bk ux)) (n:=.dic (tH U k x)) #[_,ak,kr'.mono (aL (.ext hH))];exact#[_,A,lL I (by rw[hH]; exact Nq) hs (let ⟨q,_,_,hq,_⟩:=dd'; #[q,hq]) dn.ok,ex,so']
   ·cases e
  ·cases e
 ·have:l0 o i x S=sX o i x S:=by
   cases o <;> cases i <;> first|rfl|exact absurd #[_,_,rfl,rfl] hxy
  rw[this]at e;exact lset hu J s Y H A S o i x ao ai ax uo ui ux S' I so ro ruo ri rui rx rux e
abbrev Hm (x:W)(i:J4)(S:aa):JX Kn:=match W.t x,fP S i with
 | some k,bt ys=>match W.ts ys with
  | some ks=>if k.depth<=aO/\T.depths ks<=aO then bt (decide (k∈ks))else gV
  | none=>gV
 | _,_=>gV
abbrev CO (x:W)(ys:JS W):JX Kn:=match W.t x,W.ts ys with
 | some k,bt ks=>if k.depth<=aO/\T.depths ks<=aO then bt (decide (k∈ks))else gV
 | _,_=>gV
def l3 {h:KB}:∀ {ks:JS T} {vs:JS JU},IsTs h ks vs->∀v∈vs,∃k∈ks,IsT h k v
 | _,_,.cons a b,v,hv=>by
  rcases J5.mp hv with rfl|hv
  ·exact#[_,.head _,a]
  ·obtain⟨k,hk,q⟩:=l3 b v hv;exact#[k,.tail _ hk,q]
abbrev yp (h:KB)(k:T)(v:JU):Kn:=@decide (IsT h k v) (R8 _)
def pI {h:KB}{k k':T}{v:JU}(x:IsT h k' v):yp h k v=decide (k'=k):=by
 unfold yp
 by_cases e:k'=k
 ·subst e; simp[x]
 ·have:¬ IsT h k v:=λy=>e (x.inj y)
  simp[e,this]
def l4 {h:KB}{k:T}:∀ {ks:JS T} {vs:JS JU},IsTs h ks vs->vs.any (yp h k)=decide (k∈ks)
 | _,_,.nil=>by simp
 | _,_,.cons (k:=k') a b=>by
  rw[LB,pI a,l4 b]
  by_cases e:k'=k
  ·simp[e]
  ·have:¬ k=k':=λz=>e z.symm
   simp[e,this]
def jC:∀ {ks:JS T} {k:T},k∈ks->k.depth<=T.depths ks
 | x::ks,k,h=>by
  simp only[T.depths];rcases J5.mp h with rfl|h
  ·omega
  ·have:=jC h; omega
def vJ {x:W}{i:J4}{a b:V}{u v:JU}{c:Kn}(hu:X.A.units+10 < cLine)(I:Inv X J Y H s)(so:StoreOk X.w X.K A H S)(rx:Rel X.K A H x a)(ru:RelV a u)(ry:Rel X.K A H (.ref i) b)(rv:RelV b v)(e:Hm x i S=bt c) :
  ∃l its k ks,v=.ref l/\s.heap.IsList l its/\(∀y,y∈its->NV X.A.in1 s y u (yp s.heap k y))/\its.any (yp s.heap k)=c/\c=decide (k∈(ks:JS T)):=by
 unfold Hm at e;split at e
 ·rename_i k ys h1 h2;split at e
  ·rename_i ks h3;split at e
   ·rename_i h4;cases e;cases ry with
    | ref ea=>
     obtain⟨vs,g1,g2⟩:=aV so h2 ea;obtain⟨its,rv',p,_⟩:=I.list g1;obtain rfl:v=Kl _:=rv;have hT:IsTs s.heap ks its:=iM I ks ((W.ts_w h3).symm ▸ g2) rv';have hk:IsT s.heap k u:=gZ I k ((W.t_w h1).symm ▸ rx) ru;show#[_,its.toArray,k,ks,rfl,p.isList,λy hy=>?_,by rw[QQ]; exact l4 hT,rfl]
     obtain⟨k',hk',q⟩:=l3 hT y (by simpa using hy)
     rw[pI q];have:=jC hk';have kl:aO=6:=rfl;exact vI aO k' k _ _ _ _ ∅ q hk (by rw[ba]; omega) (by rw[ba]; omega)
   ·cases e
  ·cases e
 ·cases e
def zy {x:W}{ys:JS W}{a b:V}{u v:JU}{c:Kn}(hu:X.A.units+10 < cLine)(I:Inv X J Y H s)(rx:Rel X.K A H x a)(ru:RelV a u)(ry:Rel X.K A H (.tup ys) b)(rv:RelV b v)(e:CO x ys=bt c) :
  ∃l its k,v=.ref l/\s.heap.IsTuple l its/\(∀y,y∈its->NV X.A.in1 s y u (yp s.heap k y))/\its.any (yp s.heap k)=c:=by
 unfold CO at e;split at e
 ·rename_i k ks h1 h3;split at e
  ·rename_i h4;cases e;cases ry with
   | @tup _ l vs g1 g2=>
    obtain⟨its,rv',p,_⟩:=I.tuple g1;obtain rfl:v=Kl _:=rv;have hT:IsTs s.heap ks its:=iM I ks ((W.ts_w h3).symm ▸ g2) rv';have hk:IsT s.heap k u:=gZ I k ((W.t_w h1).symm ▸ rx) ru;show#[_,its.toArray,k,rfl,p,λy hy=>?_,by rw[QQ]; exact l4 hT]
    obtain⟨k',hk',q⟩:=l3 hT y (by simpa using hy)
    rw[pI q];have:=jC hk';have kl:aO=6:=rfl;exact vI aO k' k _ _ _ _ ∅ q hk (by rw[ba]; omega) (by rw[ba]; omega)
  ·cases e
 ·cases e
abbrev zz (o:COp)(x y:W)(S:aa):JX (W×aa):=match o,y with
 | .isin,.ref i=>match lX S i with
  | some U=>(nG x).map λk=>(.bl (dB U k).isSome,S)
  | none=>match x with
   | .tup xs=>(Hm (.tup xs) i S).map λb=>(.bl (b),S)
   | x=>db .isin x (.ref i) S
 | .notin,.ref i=>match lX S i with
  | some U=>(nG x).map λk=>(.bl (!(dB U k).isSome),S)
  | none=>match x with
   | .tup xs=>(Hm (.tup xs) i S).map λb=>(.bl (!b),S)
   | x=>db .notin x (.ref i) S
 | .isin,.tup ys=>match x with
  | .tup xs=>(CO (.tup xs) ys).map λb=>(.bl b,S)
  | x=>db .isin x (.tup ys) S
 | o,y=>db o x y S
def vK (hu:X.A.units+da < cLine)(o:COp):LOp X (compareOp o.py) (zz o):=by
 intro J s Y H A S x y a b u v w S' I so rx ru ry rv e;have get:∀ {i:J4} {U:JS (T×W)} {k:T},y=.ref i->lX S i=bt U->nG x=bt k->∃d c xs,v=.ref d/\u=.ref c/\(d==sysModules)=false/\(cu X.prog X.w).is s.heap k c/\s.heap.DictOfH (cu X.prog X.w) d xs/\(dB U k).isSome=(atKey xs k).isSome:=by
  intro i U k hy hk1 hk2;subst hy;cases ry with
  | ref ea=>
   obtain⟨xs,rd,kr⟩:=g0 so hk1 ea;have d:=cg I rd;obtain⟨bk,rfl,rfl,rk⟩:=lZ hk2 rx ru;obtain rfl:v=Kl _:=rv;show#[_,bk,xs,rfl,rfl,d.2.1,lY I rk (eV hk2).2.2,d.dict I kr,?_];cases q:dB U k with
   | none=>rw[(kr.val k).2 q]; rfl
   | some w'=>obtain⟨p,_,h1,_⟩:=(kr.val k).1 _ q; rw[h1]; rfl
 have old:db o x y S=bt (w,S')->wpAny (model X.prog X.w) X.A (compareOp o.py u v) (PostE X J Y A H S' w) X.xe s:=λh=>gj hu o J s Y H A S x y a b u v w S' I so rx ru ry rv h
 have hu':X.A.units+10 < cLine:=by have:da=20:=rfl; omega
 unfold zz at e;split at e
 ·split at e
  ·rename_i U hk1;rw[J0]at e;obtain⟨k,hk2,e2⟩:=e;cases e2;obtain⟨d,c,xs,rfl,rfl,q1,q2,q3,q4⟩:=get rfl hk1 hk2;rw[q4];exact wpAny_in_heap (q9 hu') q2 q1 q3 #[.bl _,H,A,I.tok _,rfl,.refl,so,.bl]
  ·split at e
   ·rw[J0]at e;obtain⟨c,hc,e⟩:=e;cases e;obtain⟨l,its,k,ks,rfl,p1,p2,p3,_⟩:=vJ hu' I so rx ru ry rv hc;show Q8 (yp s.heap k) p1 p2 ?_;rw[p3];exact#[.bl _,H,A,I,rfl,.refl,so,.bl]
   ·exact old e
 ·split at e
  ·rename_i U hk1;rw[J0]at e;obtain⟨k,hk2,e2⟩:=e;cases e2;obtain⟨d,c,xs,rfl,rfl,q1,q2,q3,q4⟩:=get rfl hk1 hk2;rw[q4];exact wpAny_notIn_heap (q9 hu') q2 q1 q3 #[.bl _,H,A,I.tok _,rfl,.refl,so,.bl]
  ·split at e
   ·rw[J0]at e;obtain⟨c,hc,e⟩:=e;cases e;obtain⟨l,its,k,ks,rfl,p1,p2,p3,_⟩:=vJ hu' I so rx ru ry rv hc;show PV (yp s.heap k) p1 p2 ?_;rw[p3];exact#[.bl _,H,A,I,rfl,.refl,so,.bl]
   ·exact old e
 ·split at e
  ·rw[J0]at e;obtain⟨c,hc,e⟩:=e;cases e;obtain⟨l,its,k,rfl,p1,p2,p3⟩:=zy hu' I rx ru ry rv hc;show QG (yp s.heap k) p1 p2 ?_;rw[p3];exact#[.bl _,H,A,I,rfl,.refl,so,.bl]
  ·exact old e
 ·exact old e
end
abbrev RawD (d:td)(es:KP Lm)(ep:J4)(h:KB):Prop:=∃o,h.get? d=bt o/\o.ExactDict/\o.data=.dict es ep
def RawD.at {d:td}{es:KP Lm}{ep:J4}{h h':KB}(x:RawD d es ep h)(e:∀o,h.get? d=bt o->h'.get? d=bt o):RawD d es ep h':=let ⟨o,ho,r⟩:=x; #[o,e _ ho,r]
def RawD.lt {d:td}{es:KP Lm}{ep:J4}{h:KB}(x:RawD d es ep h):d < h.objs.size:=let ⟨_,ho,_⟩:=x; J8 ho
def RawD.type {d:td}{es:KP Lm}{ep:J4}{s:JV}(x:RawD d es ep s.heap):s.TypeIs (.ref d) "dict":=let ⟨o,ho,hc,_⟩:=x; #[o,ho,hc.1]
section
variable{prog:Ke}{w:Kr}{A:Kw}{E:JU->JV->Prop}{s:JV}{it d:td}{i ep:J4}{es:KP Lm}
def nK {Q:JU->JV->Prop}(hd:(d==sysModules)=false)(hm:RawD d es ep s.heap)
  (hQ:Q (.ref s.heap.objs.size) { s with heap:=s.heap.push { cls:=.type "dict_keyiterator",data:=.fields [.ref d,.int 0 0,.int es.size 0,.int ep 0].toArray } }):wpAny (model prog w) A (pyIter (.ref d)) Q E s:=by
 have hT:=hm.type;obtain⟨o,ho,hc,hdat⟩:=id hm;show OF hT F.slot_dict_iter (K3 F.slot_dict_iter hT F.entry_dict_iter ?_ (F.args_dict_iter_1 _));unfold Mm.«dict.__iter__» RI;show JT (JT (wpAny_notOrdered_dict hT ?_));change wpAny _ _ (pure (Kl d)) _ _ s;show JZ ?_;change wpAny _ _ (O9 d >>= _) _ _ s;unfold O9;rw[Kv (by rw[hd]; exact Kg)]
 show JT (JZ (JT (NO ho hdat (JT (O4 ho hdat ?_)))));show JT (KI (JZ #[_,rfl,"dict_keyiterator",_,#[_,J7 _ rfl,rfl],F.slot_dict_keyiterator_next.lookup,?_]))
 simpa [rawInt]using hQ
def nL {Q:JX JU->JV->Prop}(hit:s.heap.IsKeyIter it d i es.size ep)(hm:RawD d es ep s.heap)(hi:i < es.size)
  (hQ:∀h',h'.IsKeyIter it d (i+1) es.size ep->LW it s.heap h'->Q (bt es[i].key) { s with heap:=h' }):wpAny (model prog w) A (pyNext (.ref it)) Q E s:=by
 obtain⟨o,ho,hc,hd⟩:=id hit;obtain⟨od,hod,hcd,hdd⟩:=id hm;unfold pyNext;show JT (Mj (KR (name:=LQ "__next__") hit.typeIs F.slot_dict_keyiterator_next
  (K3 F.slot_dict_keyiterator_next hit.typeIs F.entry_dict_keyiterator_next ?_ (F.args_dict_keyiterator_next_1 _))))
 show JT (JZ (JT (JT ?_)))
 first|refine JT (Ml hit.typeIs (JZ ?_))|refine JT (MU hit.typeIs (JZ ?_))
 show JT (Ou ho hd ?_);have hown:N5 "dict_keyiterator" = false:=by decide
 simp only[hown,Lk,Mx];change wpAny _ _ (if (Kl d==K1)=true then _ else _) _ _ s
 rw[Kv (show ¬ ((Kl d==K1)=true)from Kg)]
 show JT (JZ (JT (NO hod hdd ?_)));rw[Kv (by simp)]
 show JT (JZ (JT (O4 hod hdd ?_)));rw[Kv (by simp)]
 show JZ ?_;simp only[show ¬ ((i:Kk) < 0)from by omega,Mx,Lg,MF hi]
 show JT ?_
 first|refine JT (Ml hit.typeIs (JZ ?_))|refine JT (MU hit.typeIs (JZ ?_))
 show JT (Pa hit.typeIs ?_);change wpAny _ _ (setField (.ref it) 1 (rawInt ((i:Kk)+1)) >>= _) _ _ s;show JT (M2 ho hd (by simp) ?_)
 have hit':(s.heap.update it (Mg (·.setIfInBounds 1 (rawInt ((i:Kk)+1))))).IsKeyIter it d (i+1) es.size ep:=
  #[_,Ld _ ho (NR (My hd _)),(Qu ..).trans hc,by rw[My hd]; simp[rawInt]]
 show JT (K5 ?_);show JT (Pa (s:={ s with heap:=s.heap.update it (Mg (·.setIfInBounds 1 (rawInt ((i:Kk)+1)))) }) hit'.typeIs ?_)
 change wpAny _ _ (pure es[i].key) _ _ _;exact JZ (JZ #[_,rfl,JZ (hQ _ hit' (MZ ..))])
def rc {Q:JX JU->JV->Prop}(hh:A.handled=gV)(hit:s.heap.IsKeyIter it d i es.size ep)(hm:RawD d es ep s.heap)(hge:es.size<=i)
  (hQ:∀h',Pi it s.heap h'->Q gV { s with heap:=h' }):wpAny (model prog w) A (pyNext (.ref it)) Q E s:=by
 obtain⟨o,ho,hc,hd⟩:=id hit;obtain⟨od,hod,hcd,hdd⟩:=id hm;unfold pyNext;show JT (Mj (KR (name:=LQ "__next__") hit.typeIs F.slot_dict_keyiterator_next
  (K3 F.slot_dict_keyiterator_next hit.typeIs F.entry_dict_keyiterator_next ?_ (F.args_dict_keyiterator_next_1 _))))
 show JT (JZ (JT (JT ?_)))
 first|refine JT (Ml hit.typeIs (JZ ?_))|refine JT (MU hit.typeIs (JZ ?_))
 show JT (Ou ho hd ?_);have hown:N5 "dict_keyiterator" = false:=by decide
 simp only[hown,Lk,Mx];change wpAny _ _ (if (Kl d==K1)=true then _ else _) _ _ s
 rw[Kv (show ¬ ((Kl d==K1)=true)from Kg)]
 show JT (JZ (JT (NO hod hdd ?_)));rw[Kv (by simp)]
 show JT (JZ (JT (O4 hod hdd ?_)));rw[Kv (by simp)]
 show JZ ?_;simp only[show ¬ ((i:Kk) < 0)from by omega,Mx,Lg,OW hge]
 show JT ?_
 first|refine JT (Ml hit.typeIs (JZ ?_))|refine JT (MU hit.typeIs (JZ ?_))
 change wpAny _ _ (setField (.ref it) 0 .none >>= _) _ _ s;show JT (M2 ho hd (by simp) ?_)
 change wpAny _ _ (newExc (.type "StopIteration") [] >>= _) _ _ _;show JT ?_;simp only[newExc,newTuple];show JT (KI ?_ (by size_fits))
 show JT (m:=firstArgMember _ _) (OE (a:=K1) (by first|rfl|(simp only[firstArgMember]; rfl)) ?_)
 show KI ?_ (by size_fits)
 simp only[raiseNew];show JT (PH ?_);rw[show A.in1.handled=gV from hh]
 show JT (JZ (QZ ?_));show JT (M6 (T:="StopIteration") (b:=true) #[_,J7 _ rfl,rfl] Ot ?_);exact JZ (hQ _ (((MZ ..).extBut.push _).push _))
def tJ (hh:A.handled=gV)(I d:td)(hne:d≠I)(es:KP Lm)(ep:J4) :
  R7 prog w A I [I,d] [I] es.size (λi v=>∃e,es[i]?=bt e/\e.key=v) (λi h=>h.IsKeyIter I d i es.size ep/\RawD d es ep h) where
 sub:=λb hb=>by simp at hb; simp[hb]
 frame:=λ_ _ _ st hk=>#[st.1.at λo e=>hk I (by simp) o e,st.2.at λo e=>hk d (by simp) o e]
 item:=λi s Q E hi st hQ=>
  nL st.1 st.2 hi λh' hit' hs'=>hQ _ h' s.toks #[es[i],by simp[hi],rfl] #[hit',st.2.at λo e=>(hs'.2 d hne).trans e] λb o hb e=>hs'.extBut b o (λh=>hb (by simp[h])) e
 done:=λs Q E st hQ=>rc hh st.1 st.2 (J9 _) λh' he'=>hQ h' s.toks λb o hb e=>he' b o (λh=>hb (by simp[h])) e
 self:=λ_ _ _ _ st hQ=>Pj st.1 hQ
def zA (lo:(d==sysModules)=false):PySem.W.KdlSrc prog w "dict" d d es.size (λi v=>∃e,es[i]?=bt e/\e.key=v) (RawD d es ep) where
 type:=λ_ hm=>hm.type
 there:=λ_ hm=>#[hm.lt,hm.lt]
 keep:=λ_ _ hm hk=>hm.at λo e=>hk d (.inl rfl) o e
 notList:=by decide
 notTuple:=by decide
 hint:=λ_ _ _ _ hm hq=>PySem.W.kdl_hint_dict hm.type hq
 iter:=λ_ _ hh hm=>#[_,_,(λ_ _ hq=>nK lo hm hq),tJ hh _ d (Kj hm.lt) es ep,#[#[_,J7 _ rfl,rfl,rfl],hm.at λo e=>JW _ e]]
end
mutual
def EC:T->T->JX Kn
 | .int a,.int b=>bt (decide (a < b))
 | .str a,.str b=>bt (decide (a.cps.toList < b.cps.toList))
 | .tup xs,.tup ys=>zB xs ys
 | _,_=>gV
def zB:JS T->JS T->JX Kn
 | [],[]=>bt false
 | [],_::_=>bt true
 | _::_,[]=>bt false
 | x::xs,y::ys=>if x=y then zB xs ys else EC x y
end
def Ft {B:Kw}{s:JV}{d:J4}(hu:B.units+d < cLine)(hl:∀(x y:T) (u v:JU) (k:Kn),x.depth<=d->y.depth<=d->IsT s.heap x u->IsT s.heap y v->EC x y=bt k->LtAt B s u v k) :
  ∀(xs ys:JS T) (us vs:JS JU) (k:Kn),T.depths xs<=d->T.depths ys<=d->IsTs s.heap xs us->IsTs s.heap ys vs->zB xs ys=bt k->LexR B s us vs k
 | [],[],_,_,k,_,_,h1,h2,e=>by cases h1; cases h2; cases e; exact .nn
 | [],y::ys,_,_,k,_,_,h1,h2,e=>by cases h1; cases h2; cases e; exact .nc
 | x::xs,[],_,_,k,_,_,h1,h2,e=>by cases h1; cases h2; cases e; exact .cn
 | x::xs,y::ys,_,_,k,d1,d2,h1,h2,e=>by
  simp only[T.depths]at d1 d2;cases h1 with
  | cons p1 q1=>
   cases h2 with
   | cons p2 q2=>
    have he:=vI d x y _ _ B s ∅ p1 p2 hu ∅
    dsimp only[zB]at e
    by_cases hxy:x=y
    ·rw[Ks hxy]at e;rw[Lh hxy]at he;exact .eq he (Ft hu hl xs ys _ _ k ∅ ∅ q1 q2 e)
    ·rw[Kv hxy]at e;rw[KC hxy]at he;exact .ne he (hl x y _ _ k ∅ ∅ p1 p2 e)
def Iu:∀(d:J4) (x y:T) (u v:JU) (B:Kw) (s:JV) (k:Kn),x.depth<=d->y.depth<=d->IsT s.heap x u->IsT s.heap y v->B.units+d < cLine->EC x y=bt k->LtAt B s u v k:=by
 intro d
 induction d with
 | zero=>
  intro x y u v B s k d1 d2 h1 h2 hu e;cases h1 with
  | int=>cases h2 with
   | int=>cases e; exact λprog w E Q h=>(Pw h:wpAny (model prog w) B (compareOp .Lt _ _) Q E s)
   | _=>cases e
  | str=>cases h2 with
   | str=>cases e; exact λprog w E Q h=>(lt_str h:wpAny (model prog w) B (compareOp .Lt _ _) Q E s)
   | _=>cases e
  | tup _ _ _ _=>simp[T.depth]at d1
 | succ d ih=>
  intro x y u v B s k d1 d2 h1 h2 hu e;cases h1 with
  | int=>cases h2 with
   | int=>cases e; exact λprog w E Q h=>(Pw h:wpAny (model prog w) B (compareOp .Lt _ _) Q E s)
   | _=>cases e
  | str=>cases h2 with
   | str=>cases e; exact λprog w E Q h=>(lt_str h:wpAny (model prog w) B (compareOp .Lt _ _) Q E s)
   | _=>cases e
  | tup a1 c1 e1 t1=>cases h2 with
   | tup a2 c2 e2 t2=>
    simp only[T.depth]at d1 d2;have hu1:B.in1.units+d < cLine:=by rw[ba]; omega
    exact LtAt.tuples #[_,a1,c1,_,e1] #[_,a2,c2,_,e2] ∅ (Ft hu1 (λx y u v k q1 q2 q3 q4 q5=>ih x y u v B.in1 s k q1 q2 q3 q4 hu1 q5) _ _ _ _ k ∅ ∅ t1 t2 e)
   | _=>cases e
abbrev dW (o:COp)(x y:W)(S:aa):JX (W×aa):=match o,y with
 | .isin,.str j=>match x with
  | .str i=>bt (.bl (!(NG j i 0 j.length 1).isEmpty),S)
  | _=>gV
 | .lt,.tup ys=>match W.t x,W.t (.tup ys)with
  | some a,bt b=>if a.depth<=aO/\b.depth<=aO then(EC a b).map λk=>(.bl k,S)else gV
  | _,_=>gV
 | .is,.bl b=>match x with
  | .bl a=>bt (.bl (a==b),S)
  | _=>gV
 | o,y=>zz o x y S
section
variable{X:Cx}
def jD (hu:X.A.units+da < cLine)(o:COp):LOp X (compareOp o.py) (dW o):=by
 intro J s Y H A S x y a b u v w S' I so rx ru ry rv e;unfold dW at e;split at e
 ·split at e
  ·cases e;cases rx; cases ry
   exact OpR.go sI I ru rv #[_,_,rfl,rfl,.here so .bl]
  ·cases e
 ·split at e
  ·rename_i ys k1 k2 h1 h2;split at e
   ·rename_i hd;rw[J0]at e;obtain⟨k,hk,e⟩:=e;cases e;have t1:=gZ I k1 (by rw[W.t_w h1]; exact rx) ru
    have t2:=gZ I k2 (by rw[W.t_w h2]; exact ry) rv
    exact Iu aO k1 k2 u v X.A s k hd.1 hd.2 t1 t2 (by have:da=20:=rfl; have:aO=6:=rfl; omega) hk _ _ _ _ (gh I so)
   ·cases e
  ·cases e
 ·split at e
  ·rename_i b' _ a';cases e;cases rx;cases ry;obtain rfl:u=LJ a':=ru;obtain rfl:v=LJ b':=rv;show wpAny_is_plain rfl ?_;have e:(LJ a'==LJ b')=(a'==b'):=by cases a' <;> cases b' <;> rfl
   rw[e];exact gh I so
  ·cases e
 ·exact vK hu _ J s Y H A S x y a b u v w S' I so rx ru ry rv e
abbrev Jj (x:J3):It:=#[λi _=>i < x.cps.size,λi H v H'=>H'=H/\∃c,x.cps[i]?=bt c/\v=.str #[[c].toArray],λi _=>x.cps.size<=i]
def vL {P:Ke}{w:Kr}{K:J2}{tg:Kd}(x:J3)(t:R4)(it:td):Turn P w K tg (Jj x) [it] it (λi h=>h.IsStrIter it "str_ascii_iterator" x t i) where
 mem:=by simp
 obj:=λi h st b hb=>by
  have e:b=it:=by simpa using hb
  subst e;obtain⟨o,e,c,d⟩:=st;exact#[o,e,λv z=>by rw[d]at z; cases z]
 keep:=λi h h' #[o,e,c] k=>#[o,k it (by simp) o e,c]
 item:=by
  intro X hP hw hK hc i J s Y H E I hf st hg;subst hP hw hK;obtain⟨f0,f1,f2,f3,f4,f5⟩:=hf it (by simp)
  obtain⟨c0,hx⟩ : ∃c,x.cps[i]?=bt c:=#[_,MF hg];show wpAny_pyNext_ascii_item st hx λh' st' sb=>?_
  have I1:Inv X J Y H { s with heap:=h',toks:=s.toks+1 }:=I.turned (t':=s.toks+1) (λb o hb e=>(sb.2 b hb).trans e) f0 f1 f3 f4 f5
  obtain⟨o,e,c,d⟩:=id st';exact#[_,rfl,mR (s:={ s with heap:=h',toks:=s.toks+1 }) e c d #v[] #[.str #[[c0].toArray],H,I1,#[_,rfl],#[rfl,_,hx,rfl],st',λb hb=>(hf b hb).1]]
 done:=by
  intro X hP hw hK hc i J s Y H E I hf st hg;subst hP hw hK;obtain⟨f0,f1,f2,f3,f4,f5⟩:=hf it (by simp)
  exact wpAny_pyNext_ascii_end (I.ok.hd hc) st (OW hg) λh' eb=>#[rfl,I.turned (t':=s.toks) (λb o hb e=>eb b o hb e) f0 f1 f3 f4 f5]
 self:=λ_ _ _ _ _ st h=>wpAny_pyIter_striter_ascii st h
end
open PySem.W (KasT kas_sort kas_ask kas_cmp kas_item kas_asc kas_desc kas_tail3 kas_descPart kas_count kas_place kas_bin kas_rev)
abbrev Fu {α:Type}(lt:J4->J4->Kn):KasT α->α
 | .ret a=>a
 | .ask i j k=>Fu lt (k (lt i j))
section
variable{prog:Ke}{w:Kr}{A:Kw}{E:JU->JV->Prop}{s:JV}{vs:JS JU}
abbrev Iv (lt:J4->J4->Kn){β:Type}(d:β)(vs:JS β):JS β:=if vs.length < 2 then vs else(Fu lt (kas_sort vs.length)).toList.map λi=>vs.getD i d
end
end Mi
namespace Mi
open PySem PySem.Spec PyProof.Rows L2
abbrev Fv:T->Ls
 | .int _=>"int"|.str _=>"str"|.tup _=>"tuple"
abbrev pJ:T->JX T
 | .tup (x::_)=>bt x
 | _=>gV
abbrev JB (ks:JS T):JX J4:=
 if ks.all (λk=>Fv k == "int")then bt 0
 else if ks.all (λk=>Fv k == "str")then bt 1
 else if ks.all (λk=>(pJ k).any λf=>Fv f == "int")then bt 2
 else if ks.all (λk=>(pJ k).any λf=>Fv f == "str")then bt 3
 else if ks.all (λk=>(pJ k).any λf=>Fv f == "tuple")then bt 4
 else gV
abbrev Fw (ks:JS T):Kn:=ks.all λx=>ks.all λy=>(EC x y).isSome
abbrev JC (ks:JS T)(i j:J4):Kn:=(EC (ks.getD i (.int 0)) (ks.getD j (.int 0))).getD false
abbrev CP (S:aa):W->JX (JS W)
 | .tup xs=>bt xs
 | .ref i=>match fP S i with
  | some xs=>bt xs
  | none=>(lX S i).map λU=>U.map λp=>p.1.w
 | _=>gV
abbrev zC:J4:=8
abbrev CQ (ks:JS T):Kn:=decide (ks.length < 64)&&decide (T.depths ks<=zC)&&(decide (ks.length < 2)||((JB ks).isSome&&Fw ks))
abbrev Hn (xs:JS W)(S:aa):JX (W×aa):=match xs with
 | [x]=>match CP S x with
  | some ws=>match W.ts ws with
   | some ks=>if CQ ks then bt (.ref S.length,S++[.lst (Iv (JC ks) .non ws)])else gV
   | none=>gV
  | none=>gV
 | _=>gV
abbrev nM (xs:JS W)(S:aa):JX (W×aa):=match xs with
 | [.ref i]=>match lX S i with
  | some U=>bt (.ref S.length,S++[.lst (U.map λp=>p.1.w)])
  | none=>gk [.ref i] S
 | xs=>gk xs S
abbrev pK (xs:JS W)(S:aa):JX (W×aa):=match xs with
 | [.ref i]=>match lX S i with
  | some U=>bt (.int U.length,S)
  | none=>m8 [.ref i] S
 | xs=>m8 xs S
abbrev fR:JS W->JX (JS Kn)
 | []=>bt []
 | .bl b::ws=>(fR ws).map (b :: ·)
 | _::_=>gV
abbrev CS (xs:JS W)(S:aa):JX (W×aa):=match xs with
 | [.ref i]=>match fP S i with
  | some ws=>(fR ws).map λbs=>(.bl (bs.all id),S)
  | none=>gV
 | _=>gV
section
variable{X:Cx}{J:JS (td×Ll)}{Y:L2.St}{H:Hp}{s:JV}{A:JS td}{S:aa}
def DicAt.raw {wd:Kr}{a:td}{xs:JS (T×td×JU)}{h:KB}(d:DicAt wd a xs h):∃es ep,RawD a es ep h/\es.toList=xs.map (vi wd):=
 let ⟨_,_,_,o,es,ep,h1,h2,h3,h4⟩:=d; #[es,ep,#[o,h1,h2,h3],h4]
def KRel.keysL {U:JS (T×W)}{xs:JS (T×td×JU)}(r:KRel X.K A H U xs):RelL X.K A H (U.map λp=>p.1.w) (xs.map λq=>V.ref q.2.1):=by
 unfold KRel at r
 induction r with
 | nil=>exact .nil
 | cons h t ih=>exact .cons h.2.2.2.1 ih
def tK (xs:JS (T×td×JU)):Vals (xs.map λq=>V.ref q.2.1) (xs.map λq=>Kl q.2.1):=by
 induction xs with
 | nil=>exact .nil
 | cons x xs ih=>exact .cons rfl ih
def pL {wd:Kr}{es:KP Lm}{xs:JS (T×td×JU)}(he:es.toList=xs.map (vi wd)){acc:KP JU}(ha:Qv (λi v=>∃e,es[i]?=bt e/\e.key=v) acc es.size):acc.toList=xs.map λq=>Kl q.2.1:=by
 have hl:es.size=xs.length:=by rw[<- Kh,he,J6]
 apply ON
 ·rw[Kh,ha.1,J6,hl]
 ·intro i h1 h2;rw[Kh]at h1;obtain⟨e,q1,q2⟩:=ha.2 i acc[i] (by simp[h1])
  rw[<- K7,he,KA]at q1;rw[J6]at h2;rw[Kt h2]at q1;simp only[Lv,KF]at q1;subst q1;rw[List.getElem_map,Array.getElem_toList];exact q2.symm
def tL {h':KB}{tk c:J4}{D:td}{ws:JS W}{vs:JS V}{us:JS JU}(I:Inv X J Y H s)(so:StoreOk X.w X.K A H S)(r:RelL X.K A H ws vs)(rv:Vals vs us)(hz:us.length<=sizeLine)(hk:∀b o,s.heap.get? b=bt o->h'.get? b=bt o)(hD:s.heap.objs.size<=D)
  (ho:h'.get? D=bt { cls:=.type "list",data:=.seq us.toArray c }):PostE X J Y A H (S++[.lst ws]) (.ref S.length) (.ref D) { s with heap:=h',toks:=tk }:=by
 have hn:H D=gV:=I.hok.fresh hD;show#[.ref D,_,A++[D],I.laid (a:=D) (o:=.lst vs) (t':=tk) hk hD #[by rw[L2.Vals.length rv]; exact hz,us,c,rv,ho],rfl,cr hn,so.push hn r,.ref ?_]
 rw[<- so.len]; simp
def nN (hh:X.A.handled=gV):LCall X (.type "list") nM:=by
 intro J s Y H A S xs vs us w S' I so rl rv e
 by_cases hd:∃i U,xs=[.ref i]/\lX S i=bt U
 ·obtain⟨i,U,rfl,hk⟩:=hd
  (dsimp only[nM]at e; simp only[hk]at e)
  cases e;cases rl with
  | cons r t=>
   cases t;cases rv with
   | cons ru rv2=>
    cases rv2;cases r with
    | ref ea=>
     obtain⟨xs,rd,kr⟩:=g0 so hk ea;have d:=cg I rd;obtain⟨es,ep,raw,he⟩:=d.raw;obtain rfl:_=Kl _:=ru;have hl:es.size=xs.length:=by rw[<- Kh,he,J6]
     show PySem.W.kdl_call (zA d.2.1) hh raw (by rw[hl]; exact d.1) λh' tk acc' c' hk' hD ha=>?_
     have ea':=pL he ha;show tL (us:=acc'.toList) I so kr.keysL (ea' ▸ tK xs) (by rw[ea',J6]; exact d.1) hk' (J9 _) (c:=c') ?_
     simpa using hD
 ·have:nM xs S=gk xs S:=by
   unfold nM;split
   ·rename_i i;split
    ·rename_i U hk;exact absurd #[i,U,rfl,hk] hd
    ·rfl
   ·rfl
  rw[this]at e;exact fQ J s Y H A S xs vs us w S' I so rl rv e
end
open PySem.W (KasT kas_sort kas_asc kas_desc kas_tail3 kas_descPart kas_count kas_place kas_bin kas_rev)
abbrev gt (p:KP J4)(i:J4):J4:=p.getD i 0
end Mi
namespace Mi
open PySem PySem.Spec PyProof.Rows L2
abbrev jE (xs:JS W)(S:aa):JX (W×aa):=match xs with
 | [.ref i]=>match zv S i with
  | some (lo,hi)=>if -(2 ^ 62)<=lo/\lo < 2 ^ 62/\-(2 ^ 62)<=hi/\hi < 2 ^ 62/\(hi - lo).toNat<=sizeLine then bt (.tup (Fp lo (hi - lo).toNat),S)else gV
  | none=>jq [.ref i] S
 | xs=>jq xs S
section
variable{prog:Ke}{w:Kr}{A:Kw}{E:JU->JV->Prop}{s:JV}
def kC {Q:JS JU->JV->Prop}{r:td}{a b c:Kk}{t u v:R4}{n:J4}(hh:A.handled=gV)(hr:Tc s.heap r a b c t u v)(hsmall:Oa a b c=true)
  (hn:LR a b c=n) (hlen:n<=2 ^ 24)
  (hQ:∀h' tk (acc:KP JU),(∀b o,s.heap.get? b=bt o->h'.get? b=bt o)->s.heap.objs.size<=h'.objs.size->Qv (λi v=>∃t,v=.int (a+i*c) t) acc n->Q acc.toList { s with heap:=h',toks:=tk }):wpAny (model prog w) A (collect (.ref r)) Q E s:=by
 unfold collect;show JT (Pe (L6 F.entry_proto_collect ?_));rw[LA F.plain_proto_collect _];change wpAny _ A.in1 (newList [] >>= λl=>again (.builtin "list.__iadd__" #[[l,.ref r],[]])) _ _ s
 show JT (KI ?_);show JZ #[Nz F.plain_list_iadd _,L6 F.entry_list_iadd ?_];rw[LA F.plain_list_iadd _];change wpAny _ A.in1 (Nj (.ref s.heap.objs.size) (.ref r) (.ref s.heap.objs.size)) _ _ _;have hS:(s.heap.push { cls:=.type "list",data:=.seq ([]:JS JU).toArray }).get? s.heap.objs.size=bt { cls:=.type "list",data:=.seq #[] 0 }:=J7 _ rfl;have fin':∀s',(∃h' tk acc c',s'={ s with heap:=h',toks:=tk }/\(∀b o,s.heap.get? b=bt o->h'.get? b=bt o)/\h'.get? s.heap.objs.size=bt { cls:=.type "list",dict:=gV,data:=.seq acc c',slots:=#[] }/\Qv (λi v=>∃t,v=.int (a+i*c) t) acc n)->wpAny (model prog w) A (do
   let o <- load s.heap.objs.size
   match o.data with
   | .seq xs _=>pure xs.toList
   | _=>unsupported "internal:collect") Q E s':=by
  rintro s' ⟨h',tk,acc,c',rfl,hk,hS',hacc⟩;exact JT (Ro hS' (JZ (hQ h' tk acc hk (Mr (J8 hS')) hacc)))
 show KO (wpAny_extend_range (A:=A) (s:={ s with heap:=s.heap.push { cls:=.type "list",data:=.seq ([]:JS JU).toArray } }) (R:=λr s'=>r=.ok (.ret (.ref s.heap.objs.size))/\∃h' tk acc c',s'={ s with heap:=h',toks:=tk }/\(∀b o,s.heap.get? b=bt o->h'.get? b=bt o)/\h'.get? s.heap.objs.size=bt { cls:=.type "list",dict:=gV,data:=.seq acc c',slots:=#[] }/\Qv (λi v=>∃t,v=.int (a+i*c) t) acc n) hh (JW _ hr) hsmall hn hlen _ _ 0 hS λh' tk acc' c' hk hS' hacc=>#[rfl,h',tk,acc',c',rfl,λb o e=>hk b o (Kj (J8 e)) (JW _ e),hS',hacc]) (λfin s' h=>?_) (λe s' h=>?_)
 ·cases fin with
  | done f=>
   obtain⟨e,h⟩:=h;cases e;exact fin' s' h
  | again c'=>exact#[h.1,Ms h.2 λr s'' hr=>by obtain⟨rfl,hr⟩:=hr; exact fin' s'' hr]
 ·exact absurd h.1 (by simp)
def g6 {Q₁:JU->JV->Prop}{r:td}{a b c:Kk}{t u v:R4}{n:J4}(hh:A.handled=gV)(hr:Tc s.heap r a b c t u v)(hsmall:Oa a b c=true)
  (hn:LR a b c=n) (hlen:n<=2 ^ 24)
  (h:∀(h':KB) (tk:J4) (acc:KP JU),(∀b o,s.heap.get? b=bt o->h'.get? b=bt o)->s.heap.objs.size<=h'.objs.size->Qv (λi v=>∃t,v=.int (a+i*c) t) acc n->Q₁ (.ref h'.objs.size) { s with heap:=h'.push { cls:=.type "tuple",data:=.seq acc },toks:=tk }) :
  codeAny (model prog w) A (.call (.builtin "tuple.__new__") #[[.type "tuple",.ref r],[]]) (wants Q₁ E) s:=by
 show N3 ?_;change wpAny _ A.in1 (do checkBuiltinCall "tuple.__new__" #[[.type "tuple",.ref r],[]]; again (.builtin "tuple.__new__" #[[.type "tuple",.ref r],[]])) _ _ s
 show JT (OE (F.newCall_tuple_1 _) (JZ #[Nz F.plain_tuple_new _,L6 F.entry_tuple_new ?_]));rw[LA F.plain_tuple_new _];have hsub:=PySem.sub_tuple_self;have hinit:=PySem.init_tuple_lookup;have hmh:=PySem.madeHere_tuple;have hTI:s.TypeIs (.ref r) "range":=#[_,hr,rfl];have hh1:A.in1.handled=gV:=by simp[hh]
 wp_walk using NK hTI,kC (A:=A.in1) hh1 hr hsmall hn hlen
 intro h' tk acc hk hle hacc;change wpAny _ _ (LN acc.toList.toArray >>= λv=>ret v) _ _ _
 unfold LN;show JT (KI ?_ (by change acc.toList.toArray.size<=sizeLine; simp only[Ph]; rw[hacc.1,Lf]; omega))
 show JZ ?_;have e:acc.toList.toArray=acc:=by simp
 rw[e];exact h h' tk acc hk hle hacc
def g9 {Q:JU->JV->Prop}{r:td}{a b c:Kk}{t u v:R4}{n:J4}(hh:A.handled=gV)(hr:Tc s.heap r a b c t u v)(hsmall:Oa a b c=true)
  (hn:LR a b c=n) (hlen:n<=2 ^ 24)
  (hQ:∀(h':KB) (tk:J4) (acc:KP JU),(∀b o,s.heap.get? b=bt o->h'.get? b=bt o)->s.heap.objs.size<=h'.objs.size->Qv (λi v=>∃t,v=.int (a+i*c) t) acc n->Q (.ref h'.objs.size) { s with heap:=h'.push { cls:=.type "tuple",data:=.seq acc },toks:=tk }) :
  wpAny (model prog w) A (call (.type "tuple") [.ref r]) Q E s:=by
 show callType_codes (Q₁:=λobj s₁=>s₁.TypeIs obj "tuple"/\Q obj s₁) F.called_tuple (F.typeCall_tuple_1 _) F.entry_object_init
  (g6 (by simp[hh]) hr hsmall hn hlen λh' tk acc hk hle hacc=>#[#[_,J7 _ rfl,rfl],hQ h' tk acc hk hle hacc]) λobj s₁ h₁=>?_
 exact#[h₁.1,F.args_object_init_2 obj _,object_init_meets F.called_tuple.init.lookup F.called_tuple.made #v[] prog w A.in1 _ s₁ #[h₁.1,rfl,h₁.2]]
end
section
variable{X:Cx}{J:JS (td×Ll)}{Y:L2.St}{H:Hp}{s:JV}{A:JS td}{S:aa}
def l5 (hh:X.A.handled=gV):LCall X (.type "tuple") jE:=by
 intro J s Y H A S xs vs us w S' I so rl rv e;unfold jE at e;split at e
 ·rename_i i;split at e
  ·rename_i lo hi hr;split at e
   ·rename_i hb;cases e;obtain⟨a,ea,rfl⟩:=gr (xs:=[]) rl rv;obtain⟨b1,b2,b3,b4,b5⟩:=hb;have hH:H a=bt (.rng lo hi):=by
     unfold zv at hr;split at hr
     ·rename_i hx; cases hr; exact so.obj i _ a hx ea
     ·cases hr
    obtain⟨t,u,v,ho⟩:=I.hok a _ hH;have hn:LR lo hi 1=((hi - lo).toNat:J4):=by rw[Pz]; split <;> omega
    show g9 hh ho (R5 b1 b2 b3 b4) hn b5 λh' tk acc hk hle hacc=>?_
    have hv:Vals ((LK (hi - lo).toNat).map λ(k:J4)=>V.int (lo+(k:Kk))) acc.toList:=by
     show lV (by rw[J6,LL,Kh,hacc.1]) λi v u e1 e2=>?_
     rw[KA,J0]at e1;obtain⟨k,e1,rfl⟩:=e1;obtain⟨hk,rfl⟩:=Kc.mp e1;obtain⟨t,rfl⟩:=hacc.2 i u (by rw[<- K7]; exact e2)
     exact#[t,by simp]
    have hnn:H h'.objs.size=gV:=I.hok.fresh hle;show#[.ref h'.objs.size,_,A,I.laid (a:=h'.objs.size) (o:=.tup ((LK (hi - lo).toNat).map λ(k:J4)=>V.int (lo+(k:Kk)))) (t':=tk) (λb o e=>JW _ (hk b o e)) hle #[#[by simpa using b5,NoD.new _ _ _],acc.toList,hv,?_],rfl,aL (.inl hnn),so.lay hnn,.tup (.inl (.inl ak)) (lW _)]
    exact#[_,J7 _ rfl,rfl,0,by simp]
   ·cases e
  ·exact iu J s Y H A S _ vs us w S' I so rl rv e
 ·exact iu J s Y H A S _ vs us w S' I so rl rv e
def la:∀ {ws:JS W} {bs:JS Kn},fR ws=bt bs->ws=bs.map W.bl
 | [],bs,h=>by cases h; rfl
 | .bl b::ws,bs,h=>by
  (dsimp only[fR]at h; simp only[J0]at h)
  obtain⟨r,h1,h2⟩:=h;subst h2;rw[la h1]; rfl
 | .non::_,_,h|.int _::_,_,h|.str _::_,_,h|.tup _::_,_,h|.ref _::_,_,h=>by cases h
def pM {bs:JS Kn}{vs:JS V}{us:JS JU}(r:RelL X.K A H (bs.map W.bl) vs)(rv:Vals vs us):us=bs.map LJ:=by
 induction bs generalizing vs us with
 | nil=>cases r; cases rv; rfl
 | cons b bs ih=>
  cases r with
  | cons r1 r2=>
   cases rv with
   | cons v1 v2=>
    cases r1;obtain rfl:_=LJ b:=v1;rw[ih r2 v2]; rfl
def tM (bs:JS Kn):(LK bs.length).all (λi=>bs.getD i false)=bs.all id:=by
 induction bs with
 | nil=>rfl
 | cons b bs ih=>simp[OU,OV,Td]at ih ⊢; rw[ih]
def CT {id:Ls}{fb:JS Kn->Kn}{g:JS W->aa->JX (W×aa)}(hg:∀xs S,g xs S=match xs with|[.ref i]=>(match fP S i with|some ws=>(fR ws).map λbs=>(.bl (fb bs),S)|none=>gV)|_=>gV)
  (hcall:∀ {s:JV} {x:JU} {Q:JU->JV->Prop} {E:JU->JV->Prop} {bs:JS Kn},wpAny (model X.prog X.w) X.A.in1 (pyIter x) (λit s₂=>∃I fp wr P St,it=.ref I/\R7 X.prog X.w X.A.in1 I fp wr bs.length P St/\St 0 s₂.heap/\TruthOf X.prog X.w X.A.in1 P (λi=>bs.getD i false)/\
   ∀h' tk,(∀b o,b∉wr->s₂.heap.get? b=bt o->h'.get? b=bt o)->Q (.bool (fb bs)) { s₂ with heap:=h',toks:=tk }) E s->wpAny (model X.prog X.w) X.A (call (.builtin id) [x]) Q E s)
  (hh:X.A.handled=gV):LCall X (.builtin id) g:=by
 intro J s Y H A S xs vs us w S' I so rl rv e;rw[hg]at e;cases rl with
 | nil=>cases e
 | cons r t=>
  cases t with
  | cons _ _=>cases r <;> cases e
  | nil=>
   cases rv with
   | cons ru rv2=>
    cases rv2;cases r with
    | @ref ri ad ea=>
     simp only at e;split at e
     ·rename_i ws hw;rw[J0]at e;obtain⟨bs,e1,e2⟩:=e;cases e2;obtain⟨vs',h1,r1⟩:=aV so hw ea;obtain⟨its,rv1,p,hz⟩:=I.list h1;obtain rfl:_=Kl _:=ru;rw[la e1]at r1;have hits:=pM r1 rv1;show hcall (bs:=bs) ?_;show NN p.isList ?_;have hlt:ad < s.heap.objs.size:=by obtain⟨_,ho,_⟩:=p.isList; exact J8 ho
      have W:=SV (prog:=X.prog) (w:=X.w) (A:=X.A.in1) hh s.heap.objs.size ad (Kj hlt) its.toArray;have hsz:its.toArray.size=bs.length:=by rw[Ki,hits,J6]
      rw[hsz]at W;show#[_,_,_,_,_,rfl,W,#[#[_,J7 _ rfl,rfl,rfl],?_],λi v s' Q E hi hq=>?_,λh' tk hk=>?_]
      ·obtain⟨o,ho,hc⟩:=p.isList;exact#[o,JW _ ho,hc]
      ·have hb:bs[i]?.map LJ=bt v:=by rw[<- KA,<- hits]; simpa using hi
       cases q:bs[i]? with
       | none=>rw[q]at hb; cases hb
       | some b=>
        rw[q]at hb;cases hb;have eb:bs.getD i false=b:=by simp[q]
        have hq:Q (bs.getD i false) s':=hq;rw[eb]at hq;exact Lx hq
      ·show#[.bl (fb bs),H,A,I.kept (λb o e=>hk b o (λz=>?_) (JW _ e)),rfl,.refl,so,.bl]
       have hb:=J8 e;rw[Ky.mp z]at hb;exact Lq _ hb
     ·cases e
    | _=>cases e
def tN (hh:X.A.handled=gV):LCall X (.builtin "all") CS:=
 CT (fb:=λbs=>bs.all id) (λxs S=>rfl) (λ{s x Q E bs} h=>call_all_walk (KO h (λit s₂ #[I,fp,wr,P,St',a,b,c,d,f]=>#[I,fp,wr,_,P,St',_,a,b,c,d,λh' tk hk=>by rw[tM]; exact f h' tk hk]) λ_ _ e=>e)) hh
end
noncomputable abbrev FA:=Fm->aa->JX (JS W×aa)
noncomputable abbrev FT:=Fm->aa->JX (Kn×aa)
inductive Out where
 | nx (Z:Fm)|rt (w:W)|bk (Z:Fm)|ct (Z:Fm)
noncomputable abbrev FS:=Fm->aa->JX (Out×aa)
section
variable (X:Cx)
inductive tE (f:FE)(Y:L2.St)(H:Hp)(Q:VK):Prop
 | mk (A:JS td) (Z:Fm) (S:aa) (w:W) (S':aa) (er:EnvRel X.K A H Z Y) (so:StoreOk X.w X.K A H S) (e:f Z S=bt (w,S')) (q:∀v H',EndV X.w X.K A H S' w v H'->Q v H'):tE f Y H Q
abbrev EndB (A:JS td)(H:Hp)(S':aa)(k:Kn):Kn->Hp->Prop:=λb H'=>b=k/\∃A',Ext X.K A H A' H'/\StoreOk X.w X.K A' H' S'
inductive tT (f:FT)(Y:L2.St)(H:Hp)(Q:Kn->Hp->Prop):Prop
 | mk (A:JS td) (Z:Fm) (S:aa) (k:Kn) (S':aa) (er:EnvRel X.K A H Z Y) (so:StoreOk X.w X.K A H S) (e:f Z S=bt (k,S')) (q:∀b H',EndB X A H S' k b H'->Q b H'):tT f Y H Q
inductive EndA (A:JS td)(H:Hp)(S':aa)(ws:JS W)(vs:JS V)(H':Hp):Prop
 | mk (A':JS td) (e:Ext X.K A H A' H') (so:StoreOk X.w X.K A' H' S') (r:RelL X.K A' H' ws vs):EndA A H S' ws vs H'
inductive tA (f:FA)(Y:L2.St)(H:Hp)(Q:JS V->Hp->Prop):Prop
 | mk (A:JS td) (Z:Fm) (S:aa) (ws:JS W) (S':aa) (er:EnvRel X.K A H Z Y) (so:StoreOk X.w X.K A H S) (e:f Z S=bt (ws,S')) (q:∀vs H',EndA X A H S' ws vs H'->Q vs H'):tA f Y H Q
inductive EndF (A:JS td)(H:Hp)(o:Out)(S':aa)(c:Fm->Out)(Y':L2.St)(H':Hp):Prop
 | mk (Z':Fm) (A':JS td) (eo:o=c Z') (e:Ext X.K A H A' H') (so:StoreOk X.w X.K A' H' S') (er:EnvRel X.K A' H' Z' Y'):EndF A H o S' c Y' H'
inductive EndR (A:JS td)(H:Hp)(o:Out)(S':aa)(v:V)(H':Hp):Prop
 | mk (w:W) (A':JS td) (eo:o=.rt w) (e:Ext X.K A H A' H') (so:StoreOk X.w X.K A' H' S') (r:Rel X.K A' H' w v):EndR A H o S' v H'
abbrev EndS (A:JS td)(H:Hp)(o:Out)(S':aa):Ends where
 nx:=EndF X A H o S' .nx
 rt:=EndR X A H o S'
 bk:=EndF X A H o S' .bk
 ct:=EndF X A H o S' .ct
structure Imp (E D:Ends):Prop where
 nx:∀Y H,E.nx Y H->D.nx Y H
 rt:∀v H,E.rt v H->D.rt v H
 bk:∀Y H,E.bk Y H->D.bk Y H
 ct:∀Y H,E.ct Y H->D.ct Y H
inductive tS (f:FS)(D:Ends)(Y:L2.St)(H:Hp):Prop
 | mk (A:JS td) (Z:Fm) (S:aa) (o:Out) (S':aa) (er:EnvRel X.K A H Z Y) (so:StoreOk X.w X.K A H S) (e:f Z S=bt (o,S')) (d:Imp (EndS X A H o S') D):tS f D Y H
noncomputable abbrev GE (e:Kd)(f:FE):Prop:=PE X e (tE X f)
noncomputable abbrev GT (e:Kd)(f:FT):Prop:=PT X e (tT X f)
noncomputable abbrev GW (e:Kd)(f:FT):Prop:=PW X e (tT X f)
noncomputable abbrev GA (es:JS Kd)(f:FA):Prop:=PA X es (tA X f)
noncomputable abbrev GS (st:Lp)(f:FS):Prop:=PS X st (tS X f)
noncomputable abbrev GSs (sts:JS Lp)(f:FS):Prop:=PSs X sts (tS X f)
end
def Imp.trans {E D F:Ends}(a:Imp E D)(b:Imp D F):Imp E F:=#[λ_ _ h=>b.nx _ _ (a.nx _ _ h),λ_ _ h=>b.rt _ _ (a.rt _ _ h),λ_ _ h=>b.bk _ _ (a.bk _ _ h),λ_ _ h=>b.ct _ _ (a.ct _ _ h)]
section
variable{X:Cx}
def GE.of {e:Kd}{t:TE}{f:FE}(h:PE X e t)(hf:∀(Y:L2.St) (H:Hp) (A:JS td) (Z:Fm) (S:aa) (w:W) (S':aa),EnvRel X.K A H Z Y->StoreOk X.w X.K A H S->f Z S=bt (w,S')->∀Q:VK,(∀v H',EndV X.w X.K A H S' w v H'->Q v H')->t Y H Q):GE X e f:=
 λJ s Y H Q I #[A,Z,S,w,S',er,so,e1,hq]=>h J s Y H Q I (hf Y H A Z S w S' er so e1 Q hq)
def GT.of {e:Kd}{t:TT}{f:FT}(h:PT X e t)(hf:∀(Y:L2.St) (H:Hp) (A:JS td) (Z:Fm) (S:aa) (k:Kn) (S':aa),EnvRel X.K A H Z Y->StoreOk X.w X.K A H S->f Z S=bt (k,S')->∀Q:Kn->Hp->Prop,(∀b H',EndB X A H S' k b H'->Q b H')->t Y H Q):GT X e f:=
 λJ s Y H Q I #[A,Z,S,w,S',er,so,e1,hq]=>h J s Y H Q I (hf Y H A Z S w S' er so e1 Q hq)
def GW.of {e:Kd}{t:TT}{f:FT}(h:PW X e t)(hf:∀(Y:L2.St) (H:Hp) (A:JS td) (Z:Fm) (S:aa) (k:Kn) (S':aa),EnvRel X.K A H Z Y->StoreOk X.w X.K A H S->f Z S=bt (k,S')->∀Q:Kn->Hp->Prop,(∀b H',EndB X A H S' k b H'->Q b H')->t Y H Q):GW X e f:=
 λwh J s Y H Q I #[A,Z,S,w,S',er,so,e1,hq]=>h wh J s Y H Q I (hf Y H A Z S w S' er so e1 Q hq)
def GA.of {es:JS Kd}{t:TA}{f:FA}(h:PA X es t)(hf:∀(Y:L2.St) (H:Hp) (A:JS td) (Z:Fm) (S:aa) (ws:JS W) (S':aa),EnvRel X.K A H Z Y->StoreOk X.w X.K A H S->f Z S=bt (ws,S')->∀Q:JS V->Hp->Prop,(∀vs H',EndA X A H S' ws vs H'->Q vs H')->t Y H Q):GA X es f:=
 λpos J s Y H Q I #[A,Z,S,w,S',er,so,e1,hq]=>h pos J s Y H Q I (hf Y H A Z S w S' er so e1 Q hq)
def GS.of {st:Lp}{t:TS}{f:FS}(h:PS X st t)(hf:∀(Y:L2.St) (H:Hp) (A:JS td) (Z:Fm) (S:aa) (o:Out) (S':aa),EnvRel X.K A H Z Y->StoreOk X.w X.K A H S->f Z S=bt (o,S')->∀D:Ends,Imp (EndS X A H o S') D->t D Y H):GS X st f:=
 λJ s Y H D I #[A,Z,S,o,S',er,so,e1,hq]=>h J s Y H D I (hf Y H A Z S o S' er so e1 D hq)
def GSs.of {st:JS Lp}{t:TS}{f:FS}(h:PSs X st t)(hf:∀(Y:L2.St) (H:Hp) (A:JS td) (Z:Fm) (S:aa) (o:Out) (S':aa),EnvRel X.K A H Z Y->StoreOk X.w X.K A H S->f Z S=bt (o,S')->∀D:Ends,Imp (EndS X A H o S') D->t D Y H):GSs X st f:=
 λJ s Y H D I #[A,Z,S,o,S',er,so,e1,hq]=>h J s Y H D I (hf Y H A Z S o S' er so e1 D hq)
def EndV.after {A A1:JS td}{H H1:Hp}{S':aa}{w:W}{v:V}{H':Hp}(e:Ext X.K A H A1 H1)(h:EndV X.w X.K A1 H1 S' w v H'):EndV X.w X.K A H S' w v H':=by
 obtain⟨A',x,y,z⟩:=h;exact#[A',e.trans x,y,z]
def EndB.after {A A1:JS td}{H H1:Hp}{S':aa}{k b:Kn}{H':Hp}(e:Ext X.K A H A1 H1)(h:EndB X A1 H1 S' k b H'):EndB X A H S' k b H':=by
 obtain⟨h1,A',x,y⟩:=h;exact#[h1,A',e.trans x,y]
def EndS.after {A A1:JS td}{H H1:Hp}{S':aa}{o:Out}(e:Ext X.K A H A1 H1):Imp (EndS X A1 H1 o S') (EndS X A H o S'):=
 #[λ_ _ #[Z',A',a,b,c,d]=>#[Z',A',a,e.trans b,c,d],λ_ _ #[Z',A',a,b,c,d]=>#[Z',A',a,e.trans b,c,d],λ_ _ #[Z',A',a,b,c,d]=>#[Z',A',a,e.trans b,c,d],λ_ _ #[Z',A',a,b,c,d]=>#[Z',A',a,e.trans b,c,d]]
abbrev fC (w:W):FE:=λ_ S=>bt (w,S)
abbrev fV (i:J4):FE:=λZ S=>match Z[i]? with
 | some (bt w)=>bt (w,S)
 | _=>gV
def dX {e:Kd}{v:V}{w:W}(h:PE X e (tC v))(r:∀A H,Rel X.K A H w v):GE X e (fC w):=
 GE.of h λY H A Z S w' S' er so e Q hq=>by cases e; exact hq _ _ (.here so (r A H))
def CU {i:J4}{e:Kd}(h:PE X e (mN i)):GE X e (fV i):=GE.of h λY H A Z S w S' er so e Q hq=>by
 unfold fV at e;split at e
 ·rename_i w' hw;cases e;obtain⟨v,h1,h2⟩:=er.2 i _ hw;exact#[v,h1,hq _ _ (.here so h2)]
 ·cases e
abbrev zD (g:W->W->aa->JX (W×aa))(fa fb:FE):FE:=λZ S=>match fa Z S with
 | some (x,S1)=>match fb Z S1 with
  | some (y,S2)=>g x y S2
  | none=>gV
 | none=>gV
def two {fa fb:FE}{g:W->W->aa->JX (W×aa)}{Z:Fm}{S:aa}{r:W×aa}(e:zD g fa fb Z S=bt r):∃x S1 y S2,fa Z S=bt (x,S1)/\fb Z S1=bt (y,S2)/\g x y S2=bt r:=by
 unfold zD at e;split at e
 ·rename_i x S1 h1;split at e
  ·rename_i y S2 h2;exact#[x,S1,y,S2,h1,h2,e]
  ·cases e
 ·cases e
def dc {fa fb:FE}{Z:Fm}{S S1 S2:aa}{x y:W}{Y:L2.St}{H:Hp}{A:JS td}{R:V->V->Hp->Prop}(er:EnvRel X.K A H Z Y)(so:StoreOk X.w X.K A H S)(h1:fa Z S=bt (x,S1))(h2:fb Z S1=bt (y,S2))
  (h:∀a b H2 A2,Ext X.K A H A2 H2->StoreOk X.w X.K A2 H2 S2->Rel X.K A2 H2 x a->Rel X.K A2 H2 y b->R a b H2):tE X fa Y H λa H1=>tE X fb Y H1 λb H2=>R a b H2:=by
 show#[A,Z,S,x,S1,er,so,h1,λa H1 #[A1,e1,o1,r1]=>?_]
 show#[A1,Z,S1,y,S2,er.mono e1,o1,h2,λb H2 #[A2,e2,o2,r2]=>?_]
 exact h a b H2 A2 (e1.trans e2) o2 (r1.mono e2) r2
inductive rOp (X:Cx)(g:W->W->aa->JX (W×aa))(a b:V)(H:Hp)(Q:VK):Prop
 | mk (A:JS td) (S:aa) (x y w:W) (S':aa) (so:StoreOk X.w X.K A H S) (rx:Rel X.K A H x a) (ry:Rel X.K A H y b) (e:g x y S=bt (w,S')) (q:∀v H',EndV X.w X.K A H S' w v H'->Q v H'):rOp X g a b H Q
inductive rCall (X:Cx)(g:JS W->aa->JX (W×aa))(vs:JS V)(H:Hp)(Q:VK):Prop
 | mk (A:JS td) (S:aa) (ws:JS W) (w:W) (S':aa) (so:StoreOk X.w X.K A H S) (rl:RelL X.K A H ws vs) (e:g ws S=bt (w,S')) (q:∀v H',EndV X.w X.K A H S' w v H'->Q v H'):rCall X g vs H Q
def LOp.opr {f:JU->JU->RM JU}{g:W->W->aa->JX (W×aa)}(h:LOp X f g):OpR X f (rOp X g):=by
 intro J s Y H a b u v Q I ru rv ⟨A,S,x,y,w,S',so,rx,ry,e,hq⟩;exact aD (h J s Y H A S x y a b u v w S' I so rx ru ry rv e) λu' s' #[v',H',A',I',r',e1,o1,z1]=>#[v',H',I',r',hq v' H' #[A',e1,o1,z1]]
def Bk {a b:Kd}{op:P8}{pos:LG}{fa fb:FE}{g:W->W->aa->JX (W×aa)}(ho:LOp X (binaryOp op) g)(ha:GE X a fa)(hb:GE X b fb):GE X (.BinOp a op b pos) (zD g fa fb):=
 GE.of (E1 ho.opr ha hb) λY H A Z S w S' er so e Q hq=>by
  obtain⟨x,S1,y,S2,h1,h2,h3⟩:=two e;exact dc er so h1 h2 λa b H2 A2 e2 o2 r1 r2=>#[A2,S2,x,y,w,S',o2,r1,r2,h3,λv H' z=>hq v H' (z.after e2)]
abbrev vM (fa:FE):FE:=λZ S=>match fa Z S with
 | some (.int i,S1)=>bt (.int (-i),S1)
 | _=>gV
def vN {a:Kd}{pos:LG}{fa:FE}(ha:GE X a fa):GE X (.UnaryOp .USub a pos) (vM fa):=
 GE.of (E2 Cp ha) λY H A Z S w S' er so e Q hq=>by
  unfold vM at e;split at e
  ·rename_i i S1 h1;cases e;show#[A,Z,S,_,_,er,so,h1,λv H1 #[A1,e1,o1,r1]=>?_]
   cases r1;exact#[_,rfl,hq _ _ #[A1,e1,o1,.int]]
  ·cases e
abbrev tP (o:COp)(fa fb:FE):FE:=zD (dW o) fa fb
def CV {a b:Kd}{o:COp}{pos:LG}{fa fb:FE}(hu:X.A.units+da < cLine)(ha:GE X a fa)(hb:GE X b fb)(hm:behindInMarks o.py b=false):GE X (.Compare a [o.py] [b] pos) (tP o fa fb):=
 GE.of (yE (jD hu o).opr ha hb hm) λY H A Z S w S' er so e Q hq=>by
  obtain⟨x,S1,y,S2,h1,h2,h3⟩:=two e;exact dc er so h1 h2 λa b H2 A2 e2 o2 r1 r2=>#[A2,S2,x,y,w,S',o2,r1,r2,h3,λv H' z=>hq v H' (z.after e2)]
abbrev fS (f:FE):FT:=λZ S=>match f Z S with
 | some (.bl k,S')=>bt (k,S')
 | _=>gV
def CW {a b:Kd}{o:COp}{pos:LG}{fa fb:FE}(hu:X.A.units+da < cLine)(ha:GE X a fa)(hb:GE X b fb)(hm:behindInMarks o.py b=false):GT X (.Compare a [o.py] [b] pos) (fS (tP o fa fb)):=
 GT.of (qH (jD hu o).opr ha hb hm) λY H A Z S k S' er so e Q hq=>by
  unfold fS at e;split at e
  ·rename_i k' S'' h0;cases e;obtain⟨x,S1,y,S2,h1,h2,h3⟩:=two h0;show dc er so h1 h2 λa b H2 A2 e2 o2 r1 r2=>#[A2,S2,x,y,_,_,o2,r1,r2,h3,λv H' #[A',z1,z2,z3]=>?_]
   cases z3;exact#[k,rfl,hq _ _ #[rfl,A',e2.trans z1,z2]]
  ·cases e
abbrev eC (o o':COp)(fa fb fc:FE):FE:=λZ S=>match fa Z S with
 | some (x,S1)=>match fb Z S1 with
  | some (y,S2)=>match yo o x y S2 with
   | some true=>match fc Z S2 with
    | some (z,S3)=>db o' y z S3
    | none=>gV
   | some false=>bt (.bl false,S2)
   | none=>gV
  | none=>gV
 | none=>gV
def jF {o o':COp}{fa fb fc:FE}{Y:L2.St}{H:Hp}{A:JS td}{Z:Fm}{S:aa}{w:W}{S':aa}(er:EnvRel X.K A H Z Y)(so:StoreOk X.w X.K A H S)(e:eC o o' fa fb fc Z S=bt (w,S'))(Q:VK)(hq:∀v H',EndV X.w X.K A H S' w v H'->Q v H') :
  oZ (rOp X (db o))
   (rOp X (db o')) (tE X fa) (tE X fb) (tE X fc) Y H Q:=by
 unfold eC at e;split at e
 ·rename_i x S1 h1;split at e
  ·rename_i y S2 h2;show dc er so h1 h2 λa b H2 A2 e2 o2 r1 r2=>?_
   split at e
   ·rename_i hc;split at e
    ·rename_i z S3 h3;show#[A2,S2,x,y,.bl true,S2,o2,r1,r2,by simp[db,hc],λv H3 #[A3,z1,z2,z3]=>?_]
     cases z3;show#[true,rfl,?_];rw[Ks rfl];show#[A3,Z,S2,z,S3,er.mono (e2.trans z1),z2,h3,λc H4 #[A4,y1,y2,y3]=>?_]
     exact#[A4,S3,y,z,w,S',y2,(r2.mono z1).mono y1,y3,e,λv H' q=>hq v H' (q.after ((e2.trans z1).trans y1))]
    ·cases e
   ·rename_i hc;cases e;show#[A2,S',x,y,.bl false,S',o2,r1,r2,by simp[db,hc],λv H3 #[A3,z1,z2,z3]=>?_]
    cases z3;show#[false,rfl,?_];rw[Kv Kg];exact hq _ _ #[A3,e2.trans z1,z2,.bl]
   ·cases e
  ·cases e
 ·cases e
def vO {a b c:Kd}{o o':COp}{pos:LG}{fa fb fc:FE}(hu:X.A.units+da < cLine)(ha:GE X a fa)(hb:GE X b fb)(hc:GE X c fc)(hm:lastMarks [o.py,o'.py] [b,c]=false):GE X (.Compare a [o.py,o'.py] [b,c] pos) (eC o o' fa fb fc):=
 GE.of (uI (gj hu o).opr (gj hu o').opr ha hb hc hm) λY H A Z S w S' er so e Q hq=>jF er so e Q hq
def vP {a b c:Kd}{o o':COp}{pos:LG}{fa fb fc:FE}(hu:X.A.units+da < cLine)(ha:GE X a fa)(hb:GE X b fb)(hc:GE X c fc)(hm:lastMarks [o.py,o'.py] [b,c]=false):GT X (.Compare a [o.py,o'.py] [b,c] pos) (fS (eC o o' fa fb fc)):=
 GT.of (uJ (gj hu o).opr (gj hu o').opr ha hb hc hm) λY H A Z S k S' er so e Q hq=>by
  unfold fS at e;split at e
  ·rename_i k' S'' h0;cases e;show jF er so h0 (λx H'=>∃k,x=.bl k/\Q k H') λv H' #[A',z1,z2,z3]=>?_
   cases z3;exact#[_,rfl,hq _ _ #[rfl,A',z1,z2]]
  ·cases e
abbrev de (f:FE):FT:=λZ S=>match f Z S with
 | some (w,S')=>(ei S' w).map λk=>(k,S')
 | none=>gV
def aG {e:Kd}{f:FE}(h:GE X e f)(he:∀whole,isTrue e X.env whole=(do let v <- whole; standAt e.pos; holding [v] (truthy v))):GT X e (de f):=by
 intro J s Y H Q I ⟨A,Z,S,k,S',er,so,e1,hq⟩;unfold de at e1;split at e1
 ·rename_i w S1 h1;rw[J0]at e1;obtain⟨k',ek,e2⟩:=e1;cases e2;show isTrue_plain (aD (h J s Y H (EndV X.w X.K A H _ w) I #[A,Z,S,w,_,er,so,h1,λ_ _ z=>z]) λv s1 #[x,H1,I1,r1,A1,e1,o1,z1]=>?_) (he _)
  exact Iq I1 o1 z1 r1 ek λs' I'=>#[H1,I',hq _ _ #[rfl,A1,e1,o1]]
 ·cases e1
abbrev vQ (f g:FT):FT:=λZ S=>match f Z S with
 | some (true,S1)=>g Z S1
 | some (false,S1)=>bt (false,S1)
 | none=>gV
abbrev Fy (f g:FT):FT:=λZ S=>match f Z S with
 | some (true,S1)=>bt (true,S1)
 | some (false,S1)=>g Z S1
 | none=>gV
abbrev zE (f:FT):FT:=λZ S=>match f Z S with
 | some (k,S1)=>bt (!k,S1)
 | none=>gV
def vR {f g:FT}{Y:L2.St}{H:Hp}{A:JS td}{Z:Fm}{S:aa}{k:Kn}{S':aa}(er:EnvRel X.K A H Z Y)(so:StoreOk X.w X.K A H S)(e:vQ f g Z S=bt (k,S'))(Q:Kn->Hp->Prop)(hq:∀b H',EndB X A H S' k b H'->Q b H') :
  EK (tT X f) (tT X g) Y H Q:=by
 unfold vQ at e;split at e
 ·rename_i S1 h1;show#[A,Z,S,true,S1,er,so,h1,λb H1 #[z0,A1,z1,z2]=>?_]
  subst z0;rw[Ks rfl];exact#[A1,Z,S1,k,S',er.mono z1,z2,e,λb H' q=>hq b H' (q.after z1)]
 ·rename_i S1 h1;cases e;show#[A,Z,S,false,_,er,so,h1,λb H1 #[z0,A1,z1,z2]=>?_]
  subst z0;rw[Kv Kg];exact hq _ _ #[rfl,A1,z1,z2]
 ·cases e
def zF {f g:FT}{Y:L2.St}{H:Hp}{A:JS td}{Z:Fm}{S:aa}{k:Kn}{S':aa}(er:EnvRel X.K A H Z Y)(so:StoreOk X.w X.K A H S)(e:Fy f g Z S=bt (k,S'))(Q:Kn->Hp->Prop)(hq:∀b H',EndB X A H S' k b H'->Q b H') :
  Je (tT X f) (tT X g) Y H Q:=by
 unfold Fy at e;split at e
 ·rename_i S1 h1;cases e;show#[A,Z,S,true,_,er,so,h1,λb H1 #[z0,A1,z1,z2]=>?_]
  subst z0;rw[Ks rfl];exact hq _ _ #[rfl,A1,z1,z2]
 ·rename_i S1 h1;show#[A,Z,S,false,S1,er,so,h1,λb H1 #[z0,A1,z1,z2]=>?_]
  subst z0;rw[Kv Kg];exact#[A1,Z,S1,k,S',er.mono z1,z2,e,λb H' q=>hq b H' (q.after z1)]
 ·cases e
def re {a:Kd}{pos:LG}{f:FT}(h:GT X a f):GW X (.BoolOp .And [a] pos) f:=yv h
def vS {a:Kd}{pos:LG}{f:FT}(h:GT X a f):GW X (.BoolOp .Or [a] pos) f:=B0 h
def vT {a b:Kd}{r:JS Kd}{pos:LG}{f g:FT}(h:GT X a f)(h2:GW X (.BoolOp .And (b::r) pos) g):GW X (.BoolOp .And (a::b::r) pos) (vQ f g):=
 GW.of (B1 h h2) λY H A Z S k S' er so e Q hq=>vR er so e Q hq
def Bl {a b:Kd}{r:JS Kd}{pos:LG}{f g:FT}(h:GT X a f)(h2:GW X (.BoolOp .Or (b::r) pos) g):GW X (.BoolOp .Or (a::b::r) pos) (Fy f g):=
 GW.of (EM h h2) λY H A Z S k S' er so e Q hq=>zF er so e Q hq
def vU {a:Kd}{pos:LG}{f:FT}(h:GT X a f):GT X (.UnaryOp .Not a pos) (zE f):=
 GT.of (B2 h) λY H A Z S k S' er so e Q hq=>by
  unfold zE at e;split at e
  ·rename_i k1 S1 h1;cases e;show#[A,Z,S,k1,_,er,so,h1,λb H1 #[z0,A1,z1,z2]=>?_]
   subst z0;exact hq _ _ #[rfl,A1,z1,z2]
  ·cases e
abbrev rg (f g:FE):FE:=λZ S=>match f Z S with
 | some (.bl true,S1)=>g Z S1
 | some (.bl false,S1)=>bt (.bl false,S1)
 | _=>gV
abbrev zG (f g:FE):FE:=λZ S=>match f Z S with
 | some (.bl true,S1)=>bt (.bl true,S1)
 | some (.bl false,S1)=>g Z S1
 | _=>gV
abbrev rh (f:FE):FE:=λZ S=>match f Z S with
 | some (.bl k,S1)=>bt (.bl (!k),S1)
 | _=>gV
def vV {a:Kd}{op:RE}{pos:LG}{f:FE}(h:GE X a f):GE X (.BoolOp op [a] pos) f:=B3 h
def vW {a b:Kd}{r:JS Kd}{pos:LG}{f g:FE}(h:GE X a f)(h2:GE X (.BoolOp .And (b::r) pos) g):GE X (.BoolOp .And (a::b::r) pos) (rg f g):=
 GE.of (B4 h h2) λY H A Z S w S' er so e Q hq=>by
  unfold rg at e;split at e
  ·rename_i S1 h1;show#[A,Z,S,_,S1,er,so,h1,λv H1 #[A1,z1,z2,z3]=>?_]
   cases z3;show#[true,rfl,?_];rw[Ks rfl];exact#[A1,Z,S1,w,S',er.mono z1,z2,e,λb H' q=>hq b H' (q.after z1)]
  ·rename_i S1 h1;cases e;show#[A,Z,S,_,_,er,so,h1,λv H1 #[A1,z1,z2,z3]=>?_]
   cases z3;show#[false,rfl,?_];rw[Kv Kg];exact hq _ _ #[A1,z1,z2,.bl]
  ·cases e
def Bm {a b:Kd}{r:JS Kd}{pos:LG}{f g:FE}(h:GE X a f)(h2:GE X (.BoolOp .Or (b::r) pos) g):GE X (.BoolOp .Or (a::b::r) pos) (zG f g):=
 GE.of (EQ h h2) λY H A Z S w S' er so e Q hq=>by
  unfold zG at e;split at e
  ·rename_i S1 h1;cases e;show#[A,Z,S,_,_,er,so,h1,λv H1 #[A1,z1,z2,z3]=>?_]
   cases z3;show#[true,rfl,?_];rw[Ks rfl];exact hq _ _ #[A1,z1,z2,.bl]
  ·rename_i S1 h1;show#[A,Z,S,_,S1,er,so,h1,λv H1 #[A1,z1,z2,z3]=>?_]
   cases z3;show#[false,rfl,?_];rw[Kv Kg];exact#[A1,Z,S1,w,S',er.mono z1,z2,e,λb H' q=>hq b H' (q.after z1)]
  ·cases e
def vX {a:Kd}{pos:LG}{f:FE}(h:GE X a f):GE X (.UnaryOp .Not a pos) (rh f):=
 GE.of (B5 h) λY H A Z S w S' er so e Q hq=>by
  unfold rh at e;split at e
  ·rename_i k1 S1 h1;cases e;show#[A,Z,S,_,_,er,so,h1,λb H1 #[A1,z1,z2,z3]=>?_]
   cases z3;exact#[_,rfl,hq _ _ #[A1,z1,z2,.bl]]
  ·cases e
abbrev zH (c:FT)(f g:FE):FE:=λZ S=>match c Z S with
 | some (true,S1)=>f Z S1
 | some (false,S1)=>g Z S1
 | none=>gV
def CY {c a b:Kd}{pos:LG}{fc:FT}{f g:FE}(hc:GT X c fc)(ha:GE X a f)(hb:GE X b g):GE X (.IfExp c a b pos) (zH fc f g):=
 GE.of (uA hc ha hb) λY H A Z S w S' er so e Q hq=>by
  unfold zH at e;split at e
  ·rename_i S1 h1;show#[A,Z,S,_,S1,er,so,h1,λb H1 #[z0,A1,z1,z2]=>?_]
   subst z0;rw[Ks rfl];exact#[A1,Z,S1,w,S',er.mono z1,z2,e,λb H' q=>hq b H' (q.after z1)]
  ·rename_i S1 h1;show#[A,Z,S,_,S1,er,so,h1,λb H1 #[z0,A1,z1,z2]=>?_]
   subst z0;rw[Kv Kg];exact#[A1,Z,S1,w,S',er.mono z1,z2,e,λb H' q=>hq b H' (q.after z1)]
  ·cases e
abbrev gu:FA:=λ_ S=>bt ([],S)
abbrev bZ (f:FE)(g:FA):FA:=λZ S=>match f Z S with
 | some (w,S1)=>match g Z S1 with
  | some (ws,S2)=>bt (w::ws,S2)
  | none=>gV
 | none=>gV
def vY:GA X [] gu:=GA.of fL λY H A Z S ws S' er so e Q hq=>by cases e; exact hq _ _ #[A,.refl,so,.nil]
def rj {e:Kd}{es:JS Kd}{f:FE}{g:FA}(h:GE X e f)(h2:GA X es g)(hs:starEach (e::es) X.env=(false,eval e X.env)::starEach es X.env):GA X (e::es) (bZ f g):=
 GA.of (bA h h2 hs) λY H A Z S ws S' er so e Q hq=>by
  unfold bZ at e;split at e
  ·rename_i w S1 h1;split at e
   ·rename_i ws2 S2 h2;cases e;show#[A,Z,S,w,S1,er,so,h1,λv H1 #[A1,z1,z2,z3]=>?_]
    show#[A1,Z,S1,ws2,_,er.mono z1,z2,h2,λvs H2 #[A2,y1,y2,y3]=>?_]
    exact hq _ _ #[A2,z1.trans y1,y2,.cons (z3.mono y1) y3]
   ·cases e
  ·cases e
abbrev tQ (f:FA):FE:=λZ S=>match f Z S with
 | some (ws,S1)=>lO S1 ws
 | none=>gV
abbrev vZ (f:FA):FE:=λZ S=>match f Z S with
 | some (ws,S1)=>lN S1 ws
 | none=>gV
def pN {es:JS Kd}{k:J4}{pos:LG}{f:FA}(h:GA X es f):GE X (.Tuple es k pos) (tQ f):=
 GE.of (uL h) λY H A Z S w S' er so e Q hq=>by
  unfold tQ at e;split at e
  ·rename_i ws S1 h1;obtain⟨hl,rfl,rfl⟩:=qS e;show#[A,Z,S,ws,_,er,so,h1,λvs H1 #[A1,z1,z2,z3]=>#[by rw[<- z3.length]; exact hl,λp hp=>?_]]
   exact hq _ _ (EndV.after z1 (.tup z2 z3 hp))
  ·cases e
def v3 {es:JS Kd}{pos:LG}{f:FA}(h:GA X es f):GE X (.List es pos) (vZ f):=
 GE.of (Cs h) λY H A Z S w S' er so e Q hq=>by
  unfold vZ at e;split at e
  ·rename_i ws S1 h1;obtain⟨hl,rfl,rfl⟩:=iJ e;show#[A,Z,S,ws,_,er,so,h1,λvs H1 #[A1,z1,z2,z3]=>#[by rw[<- z3.length]; exact hl,λp hp=>?_]]
   exact hq _ _ (EndV.after z1 (.lst z2 z3 hp))
  ·cases e
abbrev iy (g:JS W->aa->JX (W×aa))(f:FA):FE:=λZ S=>match f Z S with
 | some (ws,S1)=>g ws S1
 | none=>gV
def LCall.callr {v:JU}{g:JS W->aa->JX (W×aa)}(h:LCall X v g):CallR X v (rCall X g):=by
 intro J s Y H vs us Q I rv ⟨A,S,ws,w,S',so,rl,e,hq⟩;exact aD (h J s Y H A S ws vs us w S' I so rl rv e) λu' s' #[v',H',A',I',r',e1,o1,z1]=>#[v',H',I',r',hq v' H' #[A',e1,o1,z1]]
def lb {g:JS W->aa->JX (W×aa)}{f:FA}{Y:L2.St}{H:Hp}{A:JS td}{Z:Fm}{S:aa}{w:W}{S':aa}(er:EnvRel X.K A H Z Y)(so:StoreOk X.w X.K A H S)(e:iy g f Z S=bt (w,S'))(Q:VK)(hq:∀v H',EndV X.w X.K A H S' w v H'->Q v H') :
  tA X f Y H λvs H1=>rCall X g vs H1 Q:=by
 unfold iy at e;split at e
 ·rename_i ws S1 h1;exact#[A,Z,S,ws,S1,er,so,h1,λvs H1 #[A1,z1,z2,z3]=>#[A1,S1,ws,w,S',z2,z3,e,λv H' q=>hq v H' (q.after z1)]]
 ·cases e
def v4 {id:Ls}{x:J3}{e:Kd}{es:JS Kd}{p pos:LG}{f:FA}{g:JS W->aa->JX (W×aa)}(hc:LCall X (.builtin id) g)(hg:Gl X x)(hm:X.mg x=gV)(hv:bootBuiltins x=bt (.builtin id))(ha:GA X (e::es) f)
  (hn:x≠"__name__") (hdb:(x==("__debug__" : J3))=false) (hs:starEach (e::es) X.env=(false,eval e X.env)::starEach es X.env) (hpl:(backTo pos (starEach es X.env)).any (·.1)=false):GE X (.Call (.Name x p) (e::es) [] pos) (iy g f):=
 GE.of (d7 hc.callr hg hm hv ha hn hdb hs hpl) λY H A Z S w S' er so e Q hq=>lb er so e Q hq
def rm {id:Ls}{x:J3}{e:Kd}{es:JS Kd}{p pos:LG}{f:FA}{g:JS W->aa->JX (W×aa)}(hc:LCall X (.type id) g)(hg:Gl X x)(hm:X.mg x=gV)(hv:bootBuiltins x=bt (.type id))(ha:GA X (e::es) f)
  (hn:x≠"__name__") (hdb:(x==("__debug__" : J3))=false) (hs:starEach (e::es) X.env=(false,eval e X.env)::starEach es X.env) (hpl:(backTo pos (starEach es X.env)).any (·.1)=false):GE X (.Call (.Name x p) (e::es) [] pos) (iy g f):=
 GE.of (sL hc.callr hg hm hv ha hn hdb hs hpl) λY H A Z S w S' er so e Q hq=>lb er so e Q hq
end
end Mi
namespace Mi
open PySem PySem.Spec PyProof.Rows L2 Xc
inductive EndX (wd:Kr)(K:J2)(A:JS td)(H:Hp)(S':aa)(C:td)(gs:JS J3)(ws:JS W)(cls:JU)(dd:JX td)(H':Hp):Prop
 | no (A':JS td) (ec:cls=.ref C) (eg:gs=[]) (ed:dd=gV) (e:Ext K A H A' H') (so:StoreOk wd K A' H' S'):EndX wd K A H S' C gs ws cls dd H'
 | at(A':JS td) (dx:td) (vs:JS V) (ec:cls=.ref C) (ed:dd=bt dx) (hd:H' dx=bt (.ext (Dx dx (gs.zip vs)))) (nd:∀(j:J4) (o:O),S'[j]?=bt o->o.mut=true->A'[j]?≠bt dx) (e:Ext K A H A' H') (so:StoreOk wd K A' H' S') (r:RelL K A' H' ws vs):EndX wd K A H S' C gs ws cls dd H'
section
variable{X:Cx}{A:JS td}{H H1:Hp}{S':aa}{C:td}{cd:LM}{ws:JS W}{vs:JS V}{Ew:L2.XK}{g g2:J3}{n:J4}{e:td}
def CZ (Yj:XC X.K C cd)(hf:M7 X.K (.ref C) g=bt gV)(h:EndA X A H S' ws vs H1)(hl:ws.length=1)(he:H1 e=gV)(hn:n<=e)(hq:∀cls dd H',EndX X.w X.K A H S' C [g] ws cls dd H'->Ew cls dd H') :
  vh X.K g (.ref e::vs) (ay H1 e (.ext (Fx e C gV))) (λv H2=>v=.non/\XQ n C H1 Ew (.ref e) H2) E0:=by
 obtain⟨A',ex,so,r⟩:=h;obtain⟨v,rfl⟩ : ∃v,vs=[v]:=by
  have:=r.length
  match vs,this with
  | [v],_=>exact#[v,rfl]
  | [],q=>rw[hl]at q; cases q
  | _::_::_,q=>rw[hl]at q; cases q
 show#[e,v,C,cd,rfl,Yj,hf,ak,λdx nd=>#[rfl,e,bt dx,rfl,hn,?_,λb u q=>?_,?_]]
 ·have ne:dx≠e:=λz=>by rw[z,ak]at nd; cases nd
  rw[aj (Ne.symm ne),ak]
 ·by_cases z1:b=dx
  ·rw[z1,ak]at q;cases q;exact .inr (.inr #[_,by rw[z1]])
  ·rw[aj z1]at q
   by_cases z2:b=e
   ·exact .inr (.inl z2)
   ·rw[aj z2,aj z2]at q;exact .inl #[u,q]
 ·have ne:dx≠e:=λz=>by rw[z,ak]at nd; cases nd
  have nd1:H1 dx=gV:=by rw[aj ne]at nd; exact nd
  have eq:ay (ay (ay (ay H1 e (.ext (Fx e C gV))) e (.ext (Fx e C (bt dx)))) dx (.ext (Dx dx [(g,v)]))) e (.ext (Ex e C (bt dx)))=ay (ay H1 e (.ext (Ex e C (bt dx)))) dx (.ext (Dx dx [(g,v)])):=by
   funext b
   by_cases z2:b=e
   ·rw[z2,ak,aj (Ne.symm ne),ak]
   ·rw[aj z2]
    by_cases z1:b=dx
    ·rw[z1,ak,ak]
    ·rw[aj z1,aj z1,aj z2,aj z2,aj z2]
  rw[eq];have e1:Ext X.K A' H1 A' (ay H1 e (.ext (Ex e C (bt dx)))):=aL (.inl he);have n2:ay H1 e (.ext (Ex e C (bt dx))) dx=gV:=by rw[aj ne]; exact nd1
  have e2:Ext X.K A' (ay H1 e (.ext (Ex e C (bt dx)))) A' (ay (ay H1 e (.ext (Ex e C (bt dx)))) dx (.ext (Dx dx [(g,v)]))):=aL (.inl n2);exact hq _ _ _ (.at A' dx [v] rfl rfl ak (λj o ej mj ea=>(so.obj j o dx ej ea).there mj nd1) (ex.trans (e1.trans e2)) ((so.lay he).lay n2) (r.mono (e1.trans e2)))
def C0 (Yj:XC X.K C cd)(h:EndA X A H S' ws vs H1)(hl:ws.length=0)(he:H1 e=gV)(hn:n<=e)(hq:∀cls dd H',EndX X.w X.K A H S' C [] ws cls dd H'->Ew cls dd H') :
  yY X.K (.ref e::vs) (ay H1 e (.ext (Fx e C gV))) (λv H2=>v=.non/\XQ n C H1 Ew (.ref e) H2) E0:=by
 obtain⟨A',ex,so,r⟩:=h;obtain rfl:vs=[]:=by
  have:=r.length
  match vs,this with
  | [],_=>rfl
  | _::_,q=>rw[hl]at q; cases q
 show#[e,C,cd,rfl,Yj,ak,rfl,e,gV,rfl,hn,ak,λb u q=>?_,?_]
 ·by_cases z2:b=e
  ·exact .inr (.inl z2)
  ·rw[aj z2]at q;exact .inl #[u,q]
 ·rw[yr];exact hq _ _ _ (.no A' rfl rfl rfl (ex.trans (aL (.inl he))) (so.lay he))
end
end Mi
namespace Mi
open PySem PySem.Spec PyProof.Rows L2
abbrev tyOk (T:Ls)(S:aa):W->Kn
 | .str _=>T == "str"
 | .ref i=>(T == "list" && (fP S i).isSome)||(T == "dict" && (lX S i).isSome)
 | _=>false
abbrev ED (T:Ls)(g:W->JS W->aa->JX (W×aa))(fo:FE)(f:FA):FE:=λZ S=>match fo Z S with
 | some (x,S1)=>if tyOk T S1 x then match f Z S1 with
  | some (ws,S2)=>g x ws S2
  | none=>gV
  else gV
 | none=>gV
abbrev Iw (fa fb:FE):FE:=zD nJ fa fb
noncomputable abbrev FO:=Fm->aa->JX (JX Kk×aa)
abbrev C3:FO:=λ_ S=>bt (gV,S)
abbrev rn (f:FE):FO:=λZ S=>match f Z S with
 | some (.int i,S1)=>bt (bt i,S1)
 | _=>gV
abbrev Fz (fa:FE)(fl fh:FO):FE:=λZ S=>match fa Z S with
 | some (x,S1)=>match fl Z S1 with
  | some (lo,S2)=>match fh Z S2 with
   | some (hi,S3)=>CN x lo hi S3
   | none=>gV
  | none=>gV
 | none=>gV
section
variable{X:Cx}
inductive rMeth (X:Cx)(g:W->JS W->aa->JX (W×aa))(a:V)(vs:JS V)(H:Hp)(Q:VK):Prop
 | mk (A:JS td) (S:aa) (x:W) (ws:JS W) (w:W) (S':aa) (so:StoreOk X.w X.K A H S) (rx:Rel X.K A H x a) (rl:RelL X.K A H ws vs) (e:g x ws S=bt (w,S')) (q:∀v H',EndV X.w X.K A H S' w v H'->Q v H'):rMeth X g a vs H Q
def LMeth.mtr {id:Ls}{g:W->JS W->aa->JX (W×aa)}(h:LMeth X id g):MtR X id (rMeth X g):=by
 intro J s Y H a vs u us Q I ru rv ⟨A,S,x,ws,w,S',so,rx,rl,e,hq⟩;exact aD (h J s Y H A S x a u ws vs us w S' I so rx ru rl rv e) λu' s' #[v',H',A',I',r',e1,o1,z1]=>#[v',H',I',r',hq v' H' #[A',e1,o1,z1]]
def tyOk.is {J:JS (td×Ll)}{Y:L2.St}{s:JV}{A:JS td}{H:Hp}{S:aa}{T:Ls}{x:W}{a:V}{v:JU}(I:Inv X J Y H s)(so:StoreOk X.w X.K A H S)(r:Rel X.K A H x a)(rv:RelV a v)(h:tyOk T S x=true) :
  s.TypeIs v T/\∀b,v=.ref b->∃ob,s.heap.get? b=bt ob/\ob.dict=gV:=by
 cases r with
 | str=>exact uT I rv (show Ih X.K T (.str _) H from eq_of_beq h)
 | ref ea=>
  simp only[tyOk,L5,JY]at h;rcases h with⟨h1,h2⟩|⟨h1,h2⟩
  ·obtain⟨xs,hx⟩:=Lj.mp h2;obtain⟨vs,h3,_⟩:=aV so hx ea;exact uT I rv (show Ih X.K T (.ref _) H from .inl #[eq_of_beq h1,vs,h3])
  ·obtain⟨U,hx⟩:=Lj.mp h2;obtain⟨xs,rd,_⟩:=g0 so hx ea;obtain⟨_,_,_,o,es,ep,q1,q2,q3,q4⟩:=cg I rd;have e:=eq_of_beq h1;subst e;obtain rfl:v=Kl _:=rv;exact#[#[o,q1,q2.1],λb e=>by cases e; exact#[o,q1,q2.2.1]]
 | _=>cases h
def v6 {o e:Kd}{es:JS Kd}{name:J3}{apos cpos:LG}{T id:Ls}{g:W->JS W->aa->JX (W×aa)}{fo:FE}{f:FA}(pa:PlainAttrs T)(slot:Slot T name id)(hty:typeOf (.builtin id)=pure (.type "method_descriptor"))(hm:LMeth X id g)
  (ho:GE X o fo) (ha:GA X (e::es) f) (hbase:attributeBase o name X.env (eval o X.env)=eval o X.env)
  (hfew:((backTo cpos (starEach (e::es) X.env)).all (λx=>!x.1)&&(backToKw cpos (keywordEach [] X.env)).all (λx=>x.1.isSome)
   && decide ((e::es).length+([]:JS Qc).length+(if ([]:JS Qc).isEmpty then 0 else 1) < 30))=true)
  (hline:(apos.endLine==cpos.line)=true) (hs:starEach (e::es) X.env=(false,eval e X.env)::starEach es X.env) (hplain:(backTo cpos (starEach es X.env)).any (·.1)=false) :
  GE X (.Call (.Attribute o name apos) (e::es) [] cpos) (ED T g fo f):=by
 intro J s Y H Q I ⟨A,Z,S,w,S',er,so,e,hq⟩;unfold ED at e;split at e
 ·rename_i x S1 h1;split at e
  ·rename_i ht;split at e
   ·rename_i ws S2 h2;show wpAny_Call_method_late hbase hfew hline rfl (aD (ho J s Y H (EndV X.w X.K A H S1 x) I #[A,Z,S,_,_,er,so,h1,λ_ _ z=>z]) λv s1 #[a,H1,I1,r1,A1,e1,o1,z1]=>?_)
    obtain⟨t1,t2⟩:=tyOk.is I1 o1 z1 r1 ht;show#[T,id,pa,slot,hty,t1,t2,?_];have hA:=ha cpos J s1 Y H1 (EndA X A1 H1 S2 ws) I1 #[A1,Z,S1,ws,S2,er.mono e1,o1,h2,λ_ _ z=>z]
    rw[hs]at hA ⊢;show Calls.callWith_builtin (by show(false||(backTo cpos (starEach es X.env)).any (·.1))=false; rw[hplain] <;> rfl) (Calls.evalArgs_plain ?_)
    show aD hA λus s2 #[vs,H2,I2,r2,A2,e2,o2,z2]=>?_
    show aD (hm J s2 Y H2 A2 S2 x a v ws vs us w S' I2 o2 (z1.mono e2) r1 z2 r2 e) λu' s' #[v',H',A',I',r',e3,o3,z3]=>?_
    exact#[v',H',I',r',hq v' H' #[A',(e1.trans e2).trans e3,o3,z3]]
   ·cases e
  ·cases e
 ·cases e
def LIx.ixr {g:W->W->aa->JX (W×aa)}(h:LIx X g):IxR X (rOp X g):=by
 intro value slice J s Y H a b u v Q I ru rv ⟨A,S,x,y,w,S',so,rx,ry,e,hq⟩ hs;exact aD (h value slice J s Y H A S x y a b u v w S' I so rx ru ry rv e hs) λu' s' #[v',H',A',I',r',e1,o1,z1]=>#[v',H',I',r',hq v' H' #[A',e1,o1,z1]]
def FB {a b:Kd}{pos:LG}{fa fb:FE}(hu:X.A.units+10 < cLine)(ha:GE X a fa)(hb:GE X b fb)(hs:iI b):GE X (.Subscript a b pos) (Iw fa fb):=
 GE.of (Fa (Ir hu).ixr ha hb hs) λY H A Z S w S' er so e Q hq=>by
  obtain⟨x,S1,y,S2,h1,h2,h3⟩:=two e;exact dc er so h1 h2 λa b H2 A2 e2 o2 r1 r2=>#[A2,S2,x,y,w,S',o2,r1,r2,h3,λv H' z=>hq v H' (z.after e2)]
inductive tO (X:Cx)(f:FO)(Y:L2.St)(H:Hp)(Q:JX Kk->Hp->Prop):Prop
 | mk (A:JS td) (Z:Fm) (S:aa) (k:JX Kk) (S':aa) (er:EnvRel X.K A H Z Y) (so:StoreOk X.w X.K A H S) (e:f Z S=bt (k,S')) (q:∀H' A',Ext X.K A H A' H'->StoreOk X.w X.K A' H' S'->Q k H'):tO X f Y H Q
noncomputable abbrev GO (X:Cx)(e:JX Kd)(f:FO):Prop:=PO X e (tO X f)
def zI:GO X gV C3:=λJ s Y H Q I #[A,Z,S,k,S',er,so,e,hq]=>by
 cases e;exact yK J s Y H Q I (hq H A .refl so)
def zJ {e:Kd}{f:FE}(h:GE X e f):GO X (bt e) (rn f):=λJ s Y H Q I #[A,Z,S,k,S',er,so,e,hq]=>by
 unfold rn at e;split at e
 ·rename_i i S1 h1;cases e;show yL h J s Y H Q I #[A,Z,S,_,_,er,so,h1,λv H1 #[A1,z1,z2,z3]=>?_]
  cases z3;exact#[i,rfl,hq H1 A1 z1 z2]
 ·cases e
inductive rSl (X:Cx)(g:W->JX Kk->JX Kk->aa->JX (W×aa))(a:V)(lo hi:JX Kk)(H:Hp)(Q:VK):Prop
 | mk (A:JS td) (S:aa) (x w:W) (S':aa) (so:StoreOk X.w X.K A H S) (rx:Rel X.K A H x a) (e:g x lo hi S=bt (w,S')) (q:∀v H',EndV X.w X.K A H S' w v H'->Q v H'):rSl X g a lo hi H Q
def LSl.slr {g:W->JX Kk->JX Kk->aa->JX (W×aa)}(h:LSl X g):E9 X (rSl X g):=by
 intro J s Y H a v vl vu lo hi sl Q I rv hs pl pu ⟨A,S,x,w,S',so,rx,e,hq⟩;obtain⟨T,id,h1,h2,h3⟩:=h J s Y H A S x a v vl vu lo hi sl w S' I so rx rv hs pl pu e;exact#[T,id,h1,h2,aD h3 λu' s' #[v',H',A',I',r',e1,o1,z1]=>#[v',H',I',r',hq v' H' #[A',e1,o1,z1]]]
def FC {a:Kd}{lo hi:JX Kd}{p2 pos:LG}{fa:FE}{fl fh:FO}(ha:GE X a fa)(hl:GO X lo fl)(hh:GO X hi fh):GE X (.Subscript a (.Slice lo hi gV p2) pos) (Fz fa fl fh):=
 GE.of (uQ JA.slr ha hl hh) λY H A Z S w S' er so e Q hq=>by
  unfold Fz at e;split at e
  ·rename_i x S1 h1;split at e
   ·rename_i l S2 h2;split at e
    ·rename_i h S3 h3;show#[A,Z,S,x,S1,er,so,h1,λv H1 #[A1,z1,z2,z3]=>?_]
     show#[A1,Z,S1,l,S2,er.mono z1,z2,h2,λH2 A2 y1 y2=>?_]
     show#[A2,Z,S2,h,S3,er.mono (z1.trans y1),y2,h3,λH3 A3 x1 x2=>?_]
     exact#[A3,S3,x,w,S',x2,(z3.mono y1).mono x1,e,λv H' q=>hq v H' (q.after ((z1.trans y1).trans x1))]
    ·cases e
   ·cases e
  ·cases e
noncomputable abbrev FF:=JS W->aa->JX (W×aa)
inductive spF (wd:Kr)(K:J2)(n:J4)(g:FF)(vs:JS V)(H:Hp)(Q:VK)(E:XK):Prop
 | mk (A:JS td) (S:aa) (ws:JS W) (w:W) (S':aa) (so:StoreOk wd K A H S) (rl:RelL K A H ws vs) (hl:ws.length=n) (e:g ws S=bt (w,S')) (q:∀v H',EndV wd K A H S' w v H'->Q v H'):spF wd K n g vs H Q E
abbrev dC (n:J4)(g:FF)(f:FA):FE:=λZ S=>match f Z S with
 | some (ws,S1)=>if ws.length=n then g ws S1 else gV
 | none=>gV
def nO {n:J4}{g:FF}{f:FA}{Y:L2.St}{H:Hp}{A:JS td}{Z:Fm}{S:aa}{w:W}{S':aa}{E:XK}(er:EnvRel X.K A H Z Y)(so:StoreOk X.w X.K A H S)(e:dC n g f Z S=bt (w,S'))(Q:VK)(hq:∀v H',EndV X.w X.K A H S' w v H'->Q v H') :
  uM (spF X.w X.K n g) [] E (tA X f) Y H Q:=by
 unfold dC at e;split at e
 ·rename_i ws S1 h1;split at e
  ·rename_i hl;show#[A,Z,S,ws,S1,er,so,h1,λvs H1 #[A1,z1,z2,z3]=>?_]
   change spF X.w X.K n g (vs++[]) H1 Q E;rw[Lu];exact#[A1,S1,ws,w,S',z2,z3,hl,e,λv H' q=>hq v H' (q.after z1)]
  ·cases e
 ·cases e
def C4 {k n:J4}{fa:td}{fd:Lb}{ps:JS J3}{g:FF}{x:J3}{e:Kd}{es:JS Kd}{p pos:LG}{f:FA}(F:FnOk X.prog X.w X.K X.mg X.base ji k fa fd ps (spF X.w X.K n g))(hr:Room k X.A)(hg:Gl X x)(hm:X.mg x=bt (.ref fa))(hk:Lc X.K (.ref fa)=true)
  (hb:Binds X.K fd ps []) (ha:GA X (e::es) f) (hdb:(x==("__debug__" : J3))=false) (he:starEach (e::es) X.env=(false,eval e X.env)::starEach es X.env) (hpl:(backTo pos (starEach es X.env)).any (·.1)=false) :
  GE X (.Call (.Name x p) (e::es) [] pos) (dC n g f):=
 GE.of (yH F hr hg hm hk hb .nil qM ha hdb he hpl) λY H A Z S w S' er so e Q hq=>nO er so e Q hq
def zK {k n:J4}{fa:td}{fd:Lb}{ps:JS J3}{g:FF}{x:J3}{p pos:LG}(F:FnOk X.prog X.w X.K X.mg X.base ji k fa fd ps (spF X.w X.K n g))(hr:Room k X.A)(hg:Gl X x)(hm:X.mg x=bt (.ref fa))(hk:Lc X.K (.ref fa)=true)
  (hb:Binds X.K fd ps []) (hdb:(x==("__debug__" : J3))=false):GE X (.Call (.Name x p) [] [] pos) (dC n g gu):=
 GE.of (uO F hr hg hm hk hb .nil qM hdb) λY H A Z S w S' er so e Q hq=>by
  obtain⟨A1,S1,ws,w1,S1',a1,a2,a3,a4,a5⟩:=nO (f:=gu) (E:=E0) er so e Q hq |> λ#[A,Z,S,ws,S',b1,b2,b3,b4]=>b4 [] H (by cases b3; exact#[A,.refl,b2,.nil])
  exact#[A1,S1,ws,w1,S1',a1,a2,a3,a4,a5]
def gw:GSs X [] (λZ S=>bt (.nx Z,S)):=GSs.of yw λY H A Z S o S' er so e D hd=>by cases e; exact hd.nx _ _ #[Z,A,rfl,.refl,so,er]
abbrev iF (f g:FS):FS:=λZ S=>match f Z S with
 | some (.nx Z',S1)=>g Z' S1
 | some (.rt w,S1)=>bt (.rt w,S1)
 | some (.bk Z',S1)=>bt (.bk Z',S1)
 | some (.ct Z',S1)=>bt (.ct Z',S1)
 | none=>gV
def jG {st:Lp}{sts:JS Lp}{f g:FS}(h:GS X st f)(h2:GSs X sts g):GSs X (st::sts) (iF f g):=GSs.of (iZ h h2) λY H A Z S o S' er so e D hd=>by
 unfold iF at e;split at e
 ·rename_i Z1 S1 h1;show#[A,Z,S,_,_,er,so,h1,#[λY' H' #[Z',A',e1,e2,e3,e4]=>?_,λv H' #[w,A',e1,_,_,_]=>(by cases e1),λv H' #[w,A',e1,_,_,_]=>(by cases e1),λv H' #[w,A',e1,_,_,_]=>(by cases e1)]]
  cases e1;exact#[A',_,S1,o,S',e4,e3,e,(EndS.after e2).trans hd]
 ·rename_i w S1 h1;cases e;exact#[A,Z,S,_,_,er,so,h1,#[λY' H' #[w,A',e1,_,_,_]=>(by cases e1),hd.rt,hd.bk,hd.ct]]
 ·rename_i w S1 h1;cases e;exact#[A,Z,S,_,_,er,so,h1,#[λY' H' #[w,A',e1,_,_,_]=>(by cases e1),hd.rt,hd.bk,hd.ct]]
 ·rename_i w S1 h1;cases e;exact#[A,Z,S,_,_,er,so,h1,#[λY' H' #[w,A',e1,_,_,_]=>(by cases e1),hd.rt,hd.bk,hd.ct]]
 ·cases e
abbrev nP (f:FE):FS:=λZ S=>match f Z S with
 | some (_,S1)=>bt (.nx Z,S1)
 | none=>gV
def FD {e:Kd}{pos:LG}{f:FE}(h:GE X e f)(hs:swapsWith e gV pos.line X.env=pure false):GS X (.Expr e pos) (nP f):=GS.of (lF h hs) λY H A Z S o S' er so e D hd=>by
 unfold nP at e;split at e
 ·rename_i w S1 h1;cases e;exact#[A,Z,S,w,_,er,so,h1,λv H1 #[A1,z1,z2,z3]=>hd.nx _ _ #[Z,A1,rfl,z1,z2,er.mono z1]]
 ·cases e
abbrev v7:FS:=λZ S=>bt (.nx Z,S)
def C5 {x:J3}{j:J4}{pos pos':LG}:GS X (.Expr (.Constant (.str x) j pos) pos') v7:=GS.of B7 λY H A Z S o S' er so e D hd=>by cases e; exact hd.nx _ _ #[Z,A,rfl,.refl,so,er]
def zL {pos:LG}:GS X (.Pass pos) v7:=GS.of yy λY H A Z S o S' er so e D hd=>by cases e; exact hd.nx _ _ #[Z,A,rfl,.refl,so,er]
def v8 {pos:LG}:GS X (.Break pos) (λZ S=>bt (.bk Z,S)):=GS.of uC λY H A Z S o S' er so e D hd=>by cases e; exact hd.bk _ _ #[Z,A,rfl,.refl,so,er]
def zM {pos:LG}:GS X (.Continue pos) (λZ S=>bt (.ct Z,S)):=GS.of mQ λY H A Z S o S' er so e D hd=>by cases e; exact hd.ct _ _ #[Z,A,rfl,.refl,so,er]
abbrev nQ (f:FE):FS:=λZ S=>match f Z S with
 | some (w,S1)=>bt (.rt w,S1)
 | none=>gV
def pO {e:Kd}{pos:LG}{f:FE}(h:GE X e f):GS X (.Return (bt e) pos) (nQ f):=GS.of (B8 h) λY H A Z S o S' er so e D hd=>by
 unfold nQ at e;split at e
 ·rename_i w S1 h1;cases e;exact#[A,Z,S,w,_,er,so,h1,λv H1 #[A1,z1,z2,z3]=>hd.rt _ _ #[w,A1,rfl,z1,z2,z3]]
 ·cases e
def zN {pos:LG}:GS X (.Return gV pos) (λZ S=>bt (.rt .non,S)):=GS.of yz λY H A Z S o S' er so e D hd=>by cases e; exact hd.rt _ _ #[_,A,rfl,.refl,so,.non]
abbrev gy (c:FT)(f g:FS):FS:=λZ S=>match c Z S with
 | some (true,S1)=>f Z S1
 | some (false,S1)=>g Z S1
 | none=>gV
def Bn {c:Kd}{a b:JS Lp}{pos:LG}{fc:FT}{f g:FS}(hc:GT X c fc)(ha:GSs X a f)(hb:GSs X b g):GS X (.If c a b pos) (gy fc f g):=GS.of (uD hc ha hb) λY H A Z S o S' er so e D hd=>by
 unfold gy at e;split at e
 ·rename_i S1 h1;show#[A,Z,S,_,S1,er,so,h1,λb H1 #[z0,A1,z1,z2]=>?_]
  subst z0;rw[Ks rfl];exact#[A1,Z,S1,o,S',er.mono z1,z2,e,(EndS.after z1).trans hd]
 ·rename_i S1 h1;show#[A,Z,S,_,S1,er,so,h1,λb H1 #[z0,A1,z1,z2]=>?_]
  subst z0;rw[Kv Kg];exact#[A1,Z,S1,o,S',er.mono z1,z2,e,(EndS.after z1).trans hd]
 ·cases e
noncomputable abbrev FG:=W->Fm->aa->JX (Fm×aa)
inductive tG (X:Cx)(f:FG)(v:V)(Y:L2.St)(H:Hp)(Q:L2.St->Hp->Prop):Prop
 | mk (A:JS td) (Z:Fm) (S:aa) (w:W) (Z':Fm) (S':aa) (er:EnvRel X.K A H Z Y) (so:StoreOk X.w X.K A H S) (r:Rel X.K A H w v) (e:f w Z S=bt (Z',S')) (q:∀Y' H' A',Ext X.K A H A' H'->StoreOk X.w X.K A' H' S'->EnvRel X.K A' H' Z' Y'->Q Y' H'):tG X f v Y H Q
noncomputable abbrev GG (X:Cx)(tg:Kd)(f:FG):Prop:=PG X tg (tG X f)
abbrev zO (i:J4):FG:=λw Z S=>bt (Z.set i (bt w),S)
def iN {i:J4}{x:J3}{pos:LG}(hN:X.N.Nodup)(hi:X.N[i]?=bt x)(hx:uz X.env.scope x)(hf:X.fn x=true\/X.env.scope.names.lookup x=bt .local):GG X (.Name x pos) (zO i):=by
 intro J s Y H v u Q I r ⟨A,Z,S,w,Z',S',er,so,rw',e,hq⟩;cases e;exact qG hN hi hx hf J s Y H v u Q I r (hq _ _ A .refl so (er.set rw' i))
abbrev fT:JS J4->JS W->Fm->JX Fm
 | [],[],Z=>bt Z
 | i::is,w::ws,Z=>fT is ws (Z.set i (bt w))
 | _,_,_=>gV
abbrev C6 (is:JS J4):FG:=λw Z S=>match w with
 | .tup ws=>(fT is ws Z).map λZ'=>(Z',S)
 | _=>gV
def tR:∀ {ts:JS Kd} {is:JS J4},(∀x∈ts,∃y p,x=.Name y p)->OQ (λ(t:Kd) (i:J4)=>∃x p,t=Pq x p/\X.N[i]?=bt x/\uz X.env.scope x/\(X.fn x=true\/X.env.scope.names.lookup x=bt .local)) ts is->X.N.Nodup->
  EU X ts (λvs Y H Q=>∃A Z ws Z' S,EnvRel X.K A H Z Y/\StoreOk X.w X.K A H S/\RelL X.K A H ws vs/\fT is ws Z=bt Z'/\∀Y',EnvRel X.K A H Z' Y'->Q Y' H):=by
 intro ts
 induction ts with
 | nil=>
  intro is _ h hN;cases h;intro J s Y H vs us Q I r ⟨A,Z,ws,Z',S,er,so,rl,e,hq⟩;cases rl with
  | nil=>cases e; exact yA J s Y H [] us Q I r #[rfl,hq _ er]
  | cons _ _=>cases e
 | cons t ts ih=>
  intro is hs h hN;cases h with
  | cons h1 h2=>
   obtain⟨x,p,rfl,hi,hl,hf⟩:=h1;have:=ih (λy hy=>hs y (Ko _ hy)) h2 hN
   intro J s Y H vs us Q I r ⟨A,Z,ws,Z',S,er,so,rl,e,hq⟩;cases rl with
   | nil=>cases e
   | cons r1 r2=>
    show uE (qG hN hi hl hf) this rfl J s Y H _ us Q I r #[_,_,rfl,?_];exact#[A,_,_,Z',S,er.set r1 _,so,r2,e,hq]
def v9 {ts:JS Kd}{is:JS J4}{k:J4}{pos:LG}(hc:X.calm=true)(hs:∀x∈ts,∃y p,x=.Name y p)(h:OQ (λ(t:Kd) (i:J4)=>∃x p,t=Pq x p/\X.N[i]?=bt x/\uz X.env.scope x/\(X.fn x=true\/X.env.scope.names.lookup x=bt .local)) ts is)(hN:X.N.Nodup)
  (hn:(assignEach ts X.env).length=ts.length) (hst:(assignEach ts X.env).findIdx? (·.1)=gV):GG X (.Tuple ts k pos) (C6 is):=by
 intro J s Y H v u Q I r ⟨A,Z,S,w,Z',S',er,so,rw',e,hq⟩;unfold C6 at e;split at e
 ·rw[J0]at e;obtain⟨Z1,e1,e2⟩:=e;cases e2;cases rw' with
  | tup h1 r1=>
   have hl:∀(is:JS J4) (ws:JS W) (Z Z':Fm),fT is ws Z=bt Z'->is.length=ws.length:=by
    intro is
    induction is with
    | nil=>intro ws Z Z' e; cases ws <;> first|rfl|cases e
    | cons i is ih=>intro ws Z Z' e; cases ws <;> first|cases e|(simp; exact ih _ _ _ e)
   exact Ce hc (tR hs h hN) hn hst J s Y H _ u Q I r #[_,_,rfl,h1,by rw[<- r1.length,<- hl _ _ _ _ e1,<- OG h],A,Z,_,_,_,er,so,r1,e1,λY' z=>hq _ _ A .refl so z]
 ·cases e
abbrev zP (fo fi:FE):FG:=λw Z S=>match fo Z S with
 | some (o,S1)=>match fi Z S1 with
  | some (i,S2)=>match l0 o i w S2 with
   | some S3=>bt (Z,S3)
   | none=>gV
  | none=>gV
 | none=>gV
inductive rSet (X:Cx)(g:W->W->W->aa->JX aa)(ao ai av:V)(H:Hp)(Q:Hp->Prop):Prop
 | mk (A:JS td) (S:aa) (o i w:W) (S':aa) (so:StoreOk X.w X.K A H S) (r1:Rel X.K A H o ao) (r2:Rel X.K A H i ai) (r3:Rel X.K A H w av) (e:g o i w S=bt S') (q:∀H' A',Ext X.K A H A' H'->StoreOk X.w X.K A' H' S'->Q H'):rSet X g ao ai av H Q
def LSet.pset {g:W->W->W->aa->JX aa}(h:LSet X g):Cd X (rSet X g):=by
 intro J s Y H ao ai av uo ui uv Q I ro ri rv ⟨A,S,o,i,w,S',so,r1,r2,r3,e,hq⟩;exact aD (h J s Y H A S o i w ao ai av uo ui uv S' I so r1 ro r2 ri r3 rv e) λ_ s' #[H',A',I',e1,o1]=>#[H',I',hq H' A' e1 o1]
def C7 {o i:Kd}{pos:LG}{fo fi:FE}(hu:X.A.units+10 < cLine)(ho:GE X o fo)(hi:GE X i fi)(ha:∀v,assign (.Subscript o i pos) X.env v=(do
   let ov <- holding [v] (eval o X.env)
   let iv <- holding [v,ov] (eval i X.env)
   standAt pos
   holding [v,ov,iv] (setItem ov iv v)
   release [v,ov,iv] [])):GG X (.Subscript o i pos) (zP fo fi):=by
 intro J s Y H v u Q I r ⟨A,Z,S,w,Z',S',er,so,rw',e,hq⟩;unfold zP at e;split at e
 ·rename_i o' S1 h1;split at e
  ·rename_i i' S2 h2;split at e
   ·rename_i S3 h3;cases e;show Cf ho hi (Fq hu).pset ha J s Y H v u Q I r ?_;show#[A,Z,S,o',S1,er,so,h1,λa H1 #[A1,e1,o1,r1]=>?_]
    show#[A1,Z,S1,i',S2,er.mono e1,o1,h2,λb H2 #[A2,e2,o2,r2]=>?_]
    exact#[A2,S2,o',i',w,_,o2,r1.mono e2,r2,rw'.mono (e1.trans e2),h3,λH' A' z1 z2=>hq Y H' A' ((e1.trans e2).trans z1) z2 (er.mono ((e1.trans e2).trans z1))]
   ·cases e
  ·cases e
 ·cases e
abbrev dE (f:FE)(g:FG):FS:=λZ S=>match f Z S with
 | some (w,S1)=>match g w Z S1 with
  | some (Z',S2)=>bt (.nx Z',S2)
  | none=>gV
 | none=>gV
def l6 {tg e:Kd}{pos:LG}{f:FE}{g:FG}(h:GE X e f)(hg:GG X tg g)(hs:swapsWithSole [tg] e pos.line X.env=pure false)(hw:swappedStores [tg] e X.env=pure gV)(h1:(assignEach [tg] X.env).map (·.2)=[assign tg X.env]) :
  GS X (.Assign [tg] e pos) (dE f g):=GS.of (uF h hg hs hw h1) λY H A Z S o S' er so e D hd=>by
 unfold dE at e;split at e
 ·rename_i w S1 h1;split at e
  ·rename_i Z1 S2 h2;cases e;show#[A,Z,S,w,S1,er,so,h1,λv H1 #[A1,z1,z2,z3]=>?_]
   exact#[A1,Z,S1,w,Z1,_,er.mono z1,z2,z3,h2,λY' H' A' y1 y2 y3=>hd.nx _ _ #[Z1,A',rfl,z1.trans y1,y2,y3]]
  ·cases e
 ·cases e
abbrev wa (i j:J4)(f:FA):FS:=λZ S=>match f Z S with
 | some ([x,y],S1)=>bt (.nx ((Z.set i (bt x)).set j (bt y)),S1)
 | _=>gV
def C8 {i j:J4}{x y:J3}{a b:Kd}{f:FA}{px py pt pos:LG}{kt k2:J4}{pt2:LG}(hc:X.calm=true)(hN:X.N.Nodup)(hi:X.N[i]?=bt x)(hj:X.N[j]?=bt y)(hij:i≠j)
  (hx:X.env.scope.names.lookup x=bt .local) (hy:X.env.scope.names.lookup y=bt .local) (ha:GA X [a,b] f)
  (hw:swappedStores [.Tuple [.Name x px,.Name y py] kt pt] (.Tuple [a,b] k2 pt2) X.env=pure (bt [x,y]))
  (hs:swapsWithSole [.Tuple [.Name x px,.Name y py] kt pt] (.Tuple [a,b] k2 pt2) pos.line X.env=pure false) :
  GS X (.Assign [.Tuple [.Name x px,.Name y py] kt pt] (.Tuple [a,b] k2 pt2) pos) (wa i j f):=GS.of (Cg hc hN hi hj hij hx hy ha hw hs) λY H A Z S o S' er so e D hd=>by
 unfold wa at e;split at e
 ·rename_i x y S1 h1;cases e;show#[A,Z,S,_,_,er,so,h1,λvs H1 #[A1,z1,z2,z3]=>?_]
  cases z3 with
  | cons r1 t=>
   cases t with
   | cons r2 t=>
    cases t;exact#[_,_,rfl,hd.nx _ _ #[_,A1,rfl,z1,z2,((er.mono z1).set r1 i).set r2 j]]
 ·cases e
abbrev l7 (c:FT)(b:FS):J4->FS
 | 0,_,_=>gV
 | n+1,Z,S=>match c Z S with
  | some (true,S1)=>match b Z S1 with
   | some (.nx Z',S2)=>l7 c b n Z' S2
   | some (.ct Z',S2)=>l7 c b n Z' S2
   | some (.bk Z',S2)=>bt (.nx Z',S2)
   | some (.rt w,S2)=>bt (.rt w,S2)
   | none=>gV
  | some (false,S1)=>bt (.nx Z,S1)
  | none=>gV
def wb {c:Kd}{body:JS Lp}{pos:LG}{fc:FT}{fb:FS}(n:J4)(hp:NU (model X.prog X.w) X.A X.env X.xe)(hc:GT X c fc)(hb:GSs X body fb):GS X (.While c body [] pos) (l7 fc fb n):=GS.of (uG hp hc hb) λY H A Z S o S' er so e D hd=>by
 show#[λm Y1 H1=>∃A1 Z1 S1,Ext X.K A H A1 H1/\EnvRel X.K A1 H1 Z1 Y1/\StoreOk X.w X.K A1 H1 S1/\l7 fc fb m Z1 S1=bt (o,S'),#[n,A,Z,S,.refl,er,so,e],?_]
 rintro m Y1 H1 ⟨A1,Z1,S1,e1,er1,so1,w1⟩;cases m with
 | zero=>cases w1
 | succ m=>
  dsimp only[l7]at w1;split at w1
  ·rename_i S2 h1;show#[A1,Z1,S1,_,S2,er1,so1,h1,λb H2 #[z0,A2,z1,z2]=>?_]
   subst z0;rw[Ks rfl];show#[λY3 H3=>∃A3 Z3 S3,Ext X.K A H A3 H3/\EnvRel X.K A3 H3 Z3 Y3/\StoreOk X.w X.K A3 H3 S3/\l7 fc fb m Z3 S3=bt (o,S'),λY' H' h=>#[m,K4 _,h],?_]
   split at w1
   ·rename_i Z3 S3 h3;show#[A2,Z1,S2,_,S3,er1.mono z1,z2,h3,#[λY' H' #[Z',A',y0,y1,y2,y3]=>?_,λv H' #[w,A',y0,_,_,_]=>(by cases y0),λv H' #[w,A',y0,_,_,_]=>(by cases y0),λv H' #[w,A',y0,_,_,_]=>(by cases y0)]]
    cases y0;exact#[A',_,S3,(e1.trans z1).trans y1,y3,y2,w1]
   ·rename_i Z3 S3 h3;show#[A2,Z1,S2,_,S3,er1.mono z1,z2,h3,#[λv H' #[w,A',y0,_,_,_]=>(by cases y0),λv H' #[w,A',y0,_,_,_]=>(by cases y0),λv H' #[w,A',y0,_,_,_]=>(by cases y0),λY' H' #[Z',A',y0,y1,y2,y3]=>?_]]
    cases y0;exact#[A',_,S3,(e1.trans z1).trans y1,y3,y2,w1]
   ·rename_i Z3 S3 h3;cases w1;show#[A2,Z1,S2,_,_,er1.mono z1,z2,h3,#[λv H' #[w,A',y0,_,_,_]=>(by cases y0),λv H' #[w,A',y0,_,_,_]=>(by cases y0),λY' H' #[Z',A',y0,y1,y2,y3]=>?_,λv H' #[w,A',y0,_,_,_]=>(by cases y0)]]
    cases y0;exact hd.nx _ _ #[_,A',rfl,(e1.trans z1).trans y1,y2,y3]
   ·rename_i w3 S3 h3;cases w1;show#[A2,Z1,S2,_,_,er1.mono z1,z2,h3,#[λv H' #[w,A',y0,_,_,_]=>(by cases y0),λv H' #[w,A',y0,y1,y2,y3]=>?_,λv H' #[w,A',y0,_,_,_]=>(by cases y0),λv H' #[w,A',y0,_,_,_]=>(by cases y0)]]
    cases y0;exact hd.rt _ _ #[_,A',rfl,(e1.trans z1).trans y1,y2,y3]
   ·cases w1
  ·rename_i S2 h1;cases w1;show#[A1,Z1,S1,_,_,er1,so1,h1,λb H2 #[z0,A2,z1,z2]=>?_]
   subst z0;rw[Kv Kg];exact hd.nx _ _ #[_,A2,rfl,e1.trans z1,z2,er1.mono z1]
  ·cases w1
end
end Mi
namespace Mi
open PySem PySem.Spec PyProof.Rows L2 Xc
noncomputable abbrev FX:=Fm->aa->JX (J3×JS W×aa)
noncomputable abbrev Cl:=J3->JX (td×JS J3)
inductive tX (X:Cx)(cl:Cl)(Ew:L2.XK)(fx:FX)(Y:L2.St)(H:Hp):Prop
 | mk (A:JS td) (Z:Fm) (S:aa) (cn:J3) (ws:JS W) (S':aa) (C:td) (gs:JS J3) (er:EnvRel X.K A H Z Y) (so:StoreOk X.w X.K A H S) (e:fx Z S=bt (cn,ws,S')) (hc:cl cn=bt (C,gs))
   (q:∀cls dd H',EndX X.w X.K A H S' C gs ws cls dd H'->Ew cls dd H'):tX X cl Ew fx Y H
abbrev GX (X:Cx)(cl:Cl)(Ew:L2.XK)(st:Lp)(f:FS)(fx:FX):Prop:=PS X st λD Y H=>tS X f D Y H\/tX X cl Ew fx Y H
abbrev Bo (X:Cx)(cl:Cl)(Ew:L2.XK)(sts:JS Lp)(f:FS)(fx:FX):Prop:=PSs X sts λD Y H=>tS X f D Y H\/tX X cl Ew fx Y H
abbrev Jk:FX:=λ_ _=>gV
abbrev Jl:FS:=λ_ _=>gV
abbrev jH (cn:J3)(k:J4)(f:FA):FX:=λZ S=>match f Z S with
 | some (ws,S1)=>if ws.length=k then bt (cn,ws,S1)else gV
 | none=>gV
def nR {cn:J3}{k:J4}{f:FA}{Z:Fm}{S:aa}{r:J3×JS W×aa}(h:jH cn k f Z S=bt r):r.1=cn/\f Z S=bt r.2/\r.2.1.length=k:=by
 unfold jH at h;split at h
 ·rename_i ws S1 e;split at h
  ·rename_i hl; cases h; exact#[rfl,e,hl]
  ·cases h
 ·cases h
section
variable{X:Cx}{cl:Cl}{Ew:L2.XK}
def nS {st:Lp}{f:FS}(h:GS X st f):GX X cl Ew st f Jk:=λJ s Y H D I q=>by
 rcases q with q|⟨_,_,_,_,_,_,_,_,_,_,e,_⟩
 ·exact h J s Y H D I q
 ·cases e
def zQ:Bo X cl Ew [] (λZ S=>bt (.nx Z,S)) Jk:=λJ s Y H D I q=>by
 rcases q with q|⟨_,_,_,_,_,_,_,_,_,_,e,_⟩
 ·exact gw J s Y H D I q
 ·cases e
abbrev rq (f:FS)(fx gx:FX):FX:=λZ S=>match f Z S with
 | some (.nx Z',S1)=>gx Z' S1
 | some _=>gV
 | none=>fx Z S
def EndX.after {A A1:JS td}{H H1:Hp}{S':aa}{C:td}{gs:JS J3}{ws:JS W}{cls:JU}{dd:JX td}{H':Hp}(e:Ext X.K A H A1 H1)(h:EndX X.w X.K A1 H1 S' C gs ws cls dd H'):EndX X.w X.K A H S' C gs ws cls dd H':=by
 cases h with
 | no A' ec eg ed e' so=>exact .no A' ec eg ed (e.trans e') so
 | «at» A' dx vs ec ed hd nd e' so r=>exact .at A' dx vs ec ed hd nd (e.trans e') so r
def wc {st:Lp}{sts:JS Lp}{f g:FS}{fx gx:FX}(h:GX X cl Ew st f fx)(h2:Bo X cl Ew sts g gx):Bo X cl Ew (st::sts) (iF f g) (rq f fx gx):=λJ s Y H D I q=>by
 show iZ h h2 J s Y H D I ?_;rcases q with⟨A,Z,S,o,S',er,so,e,d⟩|⟨A,Z,S,cn,ws,S',C,gs,er,so,e,hc,q⟩
 ·apply Or.inl;unfold iF at e;split at e
  ·rename_i Z' S1 e1;show#[A,Z,S,_,S1,er,so,e1,#[λY' H' #[Z2,A',eo,ex,so',er']=>?_,λv H' #[_,_,eo,_,_,_]=>(by cases eo),λY' H' #[_,_,eo,_,_,_]=>(by cases eo),λY' H' #[_,_,eo,_,_,_]=>(by cases eo)]]
   cases eo;have di:=EndS.after (o:=o) (S':=S') ex;exact .inl #[A',Z',S1,o,S',er',so',e,#[λa b z=>d.nx a b (di.nx a b z),λa b z=>d.rt a b (di.rt a b z),λa b z=>d.bk a b (di.bk a b z),λa b z=>d.ct a b (di.ct a b z)]]
  ·rename_i w S1 e1;cases e;exact#[A,Z,S,_,_,er,so,e1,#[λY' H' #[_,_,eo,_,_,_]=>(by cases eo),d.rt,d.bk,d.ct]]
  ·rename_i w S1 e1;cases e;exact#[A,Z,S,_,_,er,so,e1,#[λY' H' #[_,_,eo,_,_,_]=>(by cases eo),d.rt,d.bk,d.ct]]
  ·rename_i w S1 e1;cases e;exact#[A,Z,S,_,_,er,so,e1,#[λY' H' #[_,_,eo,_,_,_]=>(by cases eo),d.rt,d.bk,d.ct]]
  ·cases e
 ·unfold rq at e;split at e
  ·rename_i Z' S1 e1;apply Or.inl;show#[A,Z,S,_,S1,er,so,e1,#[λY' H' #[Z2,A',eo,ex,so',er']=>?_,λv H' #[_,_,eo,_,_,_]=>(by cases eo),λY' H' #[_,_,eo,_,_,_]=>(by cases eo),λY' H' #[_,_,eo,_,_,_]=>(by cases eo)]]
   cases eo;exact .inr #[A',Z',S1,cn,ws,S',C,gs,er',so',e,hc,λcls dd H2 z=>q cls dd H2 (z.after ex)]
  ·cases e
  ·exact .inr #[A,Z,S,cn,ws,S',C,gs,er,so,e,hc,q]
end
section
variable{X:Cx}{cl:Cl}{Ew:L2.XK}{k:J4}{f C:td}{cd:LM}{fd:Lb}{ps:JS J3}{x g:J3}{p cpos pos:LG}{a:Kd}{es:JS Kd}{fa:FA}
abbrev zR (X:Cx)(Ew:L2.XK):Prop:=∀J Y H s a C dd a0,Air X J Y H s a C dd a0->Ew (.ref C) dd H->X.xe (.ref a) s
def tU (hh:X.A.handled=gV)(Mqa:XM X.K C f cd)(hf:M7 X.K (.ref C) g=bt gV)(F:FnOk X.prog X.w X.K X.mg X.base ji k f fd ps (vh X.K g))(hr:Room (k+1) X.A)(hg:Gl X x)(hm:X.mg x=bt (.ref C))(hb:Binds X.K fd ps [])
  (hw:zR X Ew) (hc:cl x=bt (C,[g])) (ha:GA X (a::es) fa) (hdb:(x==("__debug__" : J3))=false) (he:starEach (a::es) X.env=(false,eval a X.env)::starEach es X.env) (hpl:(backTo cpos (starEach es X.env)).any (·.1)=false) :
  GX X cl Ew (.Raise (bt (.Call (.Name x p) (a::es) [] cpos)) gV pos) Jl (jH x 1 fa):=λJ s Y H D I q=>by
 rcases q with⟨_,_,_,_,_,_,_,e,_⟩|⟨A,Z,S,cn,ws,S',C',gs,er,so,e,hc',q⟩
 ·cases e
 ·obtain⟨e0,e1,e2⟩:=nR e;dsimp only at e0 e1 e2;subst e0;rw[hc]at hc';cases hc';show vc (E:=E0) hh Mqa F hr hg hm hb qM hw ha hdb he hpl J s Y H D I #[A,Z,S,ws,S',er,so,e1,λvs H1 en=>#[?_,λn e he hn=>CZ Mqa.toXC hf en e2 he hn q]]
  obtain⟨A',ex,so',r⟩:=en;rw[<- r.length,e2,Lf];decide
def tV (hh:X.A.handled=gV)(Mqa:XM X.K C f cd)(F:FnOk X.prog X.w X.K X.mg X.base ji k f fd ps (yY X.K))(hr:Room (k+1) X.A)(hg:Gl X x)(hm:X.mg x=bt (.ref C))(hb:Binds X.K fd ps [])
  (hw:zR X Ew) (hc:cl x=bt (C,[])) (hdb:(x==("__debug__" : J3))=false):GX X cl Ew (.Raise (bt (.Call (.Name x p) [] [] cpos)) gV pos) Jl (λ_ S=>bt (x,[],S)):=λJ s Y H D I q=>by
 rcases q with⟨_,_,_,_,_,_,_,e,_⟩|⟨A,Z,S,cn,ws,S',C',gs,er,so,e,hc',q⟩
 ·cases e
 ·cases e;rw[hc]at hc';cases hc';exact sT (E:=E0) hh Mqa F hr hg hm hb qM hw hdb J s Y H D I #[Mt _,λn e he hn=>C0 (A:=A) (H:=H) Mqa.toXC #[A,.refl,so,.nil] rfl he hn q]
end
section
variable{X:Cx}{cl:Cl}{Ew:L2.XK}
abbrev zS (c:FT)(f g:FX):FX:=λZ S=>match c Z S with
 | some (true,S1)=>f Z S1
 | some (false,S1)=>g Z S1
 | none=>gV
def FH {c:Kd}{a b:JS Lp}{pos:LG}{fc:FT}{f g:FS}{fx gx:FX}(hc:GT X c fc)(ha:Bo X cl Ew a f fx)(hb:Bo X cl Ew b g gx):GX X cl Ew (.If c a b pos) (gy fc f g) (zS fc fx gx):=λJ s Y H D I q=>by
 show uD hc ha hb J s Y H D I ?_;rcases q with⟨A,Z,S,o,S',er,so,e,d⟩|⟨A,Z,S,cn,ws,S',C,gs,er,so,e,hcl,q⟩
 ·unfold gy at e;split at e
  ·rename_i S1 h1;show#[A,Z,S,_,S1,er,so,h1,λb H1 #[z0,A1,z1,z2]=>?_]
   subst z0;rw[Ks rfl];exact .inl #[A1,Z,S1,o,S',er.mono z1,z2,e,(EndS.after z1).trans d]
  ·rename_i S1 h1;show#[A,Z,S,_,S1,er,so,h1,λb H1 #[z0,A1,z1,z2]=>?_]
   subst z0;rw[Kv #v[]]
   exact .inl #[A1,Z,S1,o,S',er.mono z1,z2,e,(EndS.after z1).trans d]
  ·cases e
 ·unfold zS at e;split at e
  ·rename_i S1 h1;show#[A,Z,S,_,S1,er,so,h1,λb H1 #[z0,A1,z1,z2]=>?_]
   subst z0;rw[Ks rfl];exact .inr #[A1,Z,S1,cn,ws,S',C,gs,er.mono z1,z2,e,hcl,λcls dd H2 z=>q cls dd H2 (z.after z1)]
  ·rename_i S1 h1;show#[A,Z,S,_,S1,er,so,h1,λb H1 #[z0,A1,z1,z2]=>?_]
   subst z0;rw[Kv #v[]]
   exact .inr #[A1,Z,S1,cn,ws,S',C,gs,er.mono z1,z2,e,hcl,λcls dd H2 z=>q cls dd H2 (z.after z1)]
  ·cases e
end
noncomputable abbrev FJ:=JS W->aa->JX (J3×JS W×aa)
inductive spX (wd:Kr)(K:J2)(cl:Cl)(n:J4)(g:FF)(gx:FJ)(vs:JS V)(H:Hp)(Q:VK)(E:L2.XK):Prop
 | ok (h:spF wd K n g vs H Q E):spX wd K cl n g gx vs H Q E
 | xc (A:JS td) (S:aa) (ws:JS W) (cn:J3) (us:JS W) (S':aa) (C:td) (gs:JS J3) (so:StoreOk wd K A H S) (rl:RelL K A H ws vs) (hl:ws.length=n) (e:gx ws S=bt (cn,us,S')) (hc:cl cn=bt (C,gs))
   (q:∀cls dd H',EndX wd K A H S' C gs us cls dd H'->E cls dd H'):spX wd K cl n g gx vs H Q E
section
variable{X:Cx}{cl:Cl}{Ew:L2.XK}
abbrev gA (n:J4)(gx:FJ)(f:FA):FX:=λZ S=>match f Z S with
 | some (ws,S1)=>if ws.length=n then gx ws S1 else gV
 | none=>gV
end
end Mi
namespace Mi
open PySem PySem.Spec PyProof.Rows L2
inductive MI where
 | its (ws:JS W)
 | live (r:J4)
 | zl (r q:J4)
abbrev gB (xs ys:JS W):JS W:=List.zipWith (λx y=>.tup [x,y]) xs ys
abbrev MI.at (S:aa)(i:J4):MI->JX (JX W)
 | .its ws=>bt ws[i]?
 | .live r=>match fP S r with
  | some xs=>bt xs[i]?
  | none=>gV
 | .zl r q=>match fP S r,fP S q with
  | some xs,bt ys=>bt (gB xs ys)[i]?
  | _,_=>gV
abbrev MI.len (S:aa):MI->JX J4
 | .its ws=>bt ws.length
 | .live r=>(fP S r).map (·.length)
 | .zl r q=>match fP S r,fP S q with
  | some xs,bt ys=>bt (gB xs ys).length
  | _,_=>gV
noncomputable abbrev FI:=Fm->aa->JX (MI×aa)
structure MIt (wd:Kr)(K:J2)(mi:MI)(tx:It)(A0:JS td)(H0:Hp):Prop where
 go:∀A H S i w,Ext K A0 H0 A H->StoreOk wd K A H S->mi.at S i=bt (bt w)->tx.go i H/\∀x H',tx.yld i H x H'->Ext K A H A H'/\StoreOk wd K A H' S/\Rel K A H' w x
 stop:∀A H S i,Ext K A0 H0 A H->StoreOk wd K A H S->mi.at S i=bt gV->tx.stop i H
inductive tI (X:Cx)(f:FI)(Y:L2.St)(H:Hp)(R:It->Hp->Prop):Prop
 | mk (A:JS td) (Z:Fm) (S:aa) (mi:MI) (S':aa) (er:EnvRel X.K A H Z Y) (so:StoreOk X.w X.K A H S) (e:f Z S=bt (mi,S')) (q:∀tx H' A',Ext X.K A H A' H'->StoreOk X.w X.K A' H' S'->MIt X.w X.K mi tx A' H'->R tx H'):tI X f Y H R
noncomputable abbrev GI (X:Cx)(tg iter:Kd)(f:FI):Prop:=PI X tg iter (tI X f)
abbrev zT (f:FE):FI:=λZ S=>match f Z S with
 | some (.tup ws,S1)=>bt (.its ws,S1)
 | some (.ref r,S1)=>match fP S1 r with
  | some _=>bt (.live r,S1)
  | none=>gV
 | _=>gV
abbrev b8 (lo:Kk)(n:J4):JS W:=(LK n).map λ(k:J4)=>.int (lo+(k:Kk))
abbrev pP (f:FA):FI:=λZ S=>match f Z S with
 | some ([.int j],S1)=>if -(2 ^ 62)<=j/\j < 2 ^ 62 then bt (.its (b8 0 j.toNat),S1)else gV
 | _=>gV
abbrev iRng2 (f:FA):FI:=λZ S=>match f Z S with
 | some ([.int i,.int j],S1)=>if -(2 ^ 62)<=i/\i < 2 ^ 62/\-(2 ^ 62)<=j/\j < 2 ^ 62 then bt (.its (b8 i (j - i).toNat),S1)else gV
 | _=>gV
abbrev bq (mi:MI)(g:FG)(b:FS):J4->J4->FS
 | 0,i,Z,S=>match mi.at S i with
  | some gV=>bt (.nx Z,S)
  | _=>gV
 | n+1,i,Z,S=>match mi.at S i with
  | some (bt w)=>match g w Z S with
   | some (Z1,S1)=>match b Z1 S1 with
    | some (.nx Z2,S2)=>bq mi g b n (i+1) Z2 S2
    | some (.ct Z2,S2)=>bq mi g b n (i+1) Z2 S2
    | some (.bk Z2,S2)=>bt (.nx Z2,S2)
    | some (.rt w,S2)=>bt (.rt w,S2)
    | none=>gV
   | none=>gV
  | _=>gV
abbrev iG (fi:FI)(g:FG)(b:FS):FS:=λZ S=>match fi Z S with
 | some (mi,S1)=>match mi.len S1 with
  | some n=>bq mi g b n 0 Z S1
  | none=>gV
 | none=>gV
section
variable{X:Cx}
def zU {A:JS td}{H:Hp}{ws:JS W}{a:td}{vs:JS V}(h:SqT X.K H a vs)(r:RelL X.K A H ws vs):MIt X.w X.K (.its ws) (HK X.K a) A H:=by
 show#[λA' H' S i w e so hi=>?_,λA' H' S i e so hi=>?_]
 ·simp only[MI.at,KF]at hi;obtain⟨v,h1,h2⟩:=(r.mono e).get hi;show#[#[vs,v,e.tp _ _ h,h1],λx H2 #[z1,z2]=>?_]
  subst z1;have:=z2 vs (e.tp _ _ h);rw[h1]at this; cases this
  exact#[.refl,so,h2]
 ·simp only[MI.at,KF]at hi;show#[vs,e.tp _ _ h,?_];rw[<- r.length];exact KQ.mp hi
def zV {A:JS td}{H:Hp}{r:J4}{a:td}(ea:A[r]?=bt a):MIt X.w X.K (.live r) (HJ X.K a) A H:=by
 show#[λA' H' S i w e so hi=>?_,λA' H' S i e so hi=>?_]
 ·simp only[MI.at]at hi;split at hi
  ·rename_i xs hx;simp only[KF]at hi;obtain⟨vs,h1,r1⟩:=aV so hx (e.ad _ _ ea);obtain⟨v,h2,h3⟩:=r1.get hi;show#[#[vs,v,h1,h2],λx H2 #[z1,z2]=>?_]
   subst z1;have:=z2 vs h1;rw[h2]at this; cases this
   exact#[.refl,so,h3]
  ·cases hi
 ·simp only[MI.at]at hi;split at hi
  ·rename_i xs hx;simp only[KF]at hi;obtain⟨vs,h1,r1⟩:=aV so hx (e.ad _ _ ea);show#[vs,h1,?_];rw[<- r1.length];exact KQ.mp hi
  ·cases hi
def cv {lo:Kk}{n i:J4}:(b8 lo n)[i]?=if i < n then bt (.int (lo+i))else gV:=by
 unfold b8;rw[KA]
 by_cases h:i < n
 ·rw[Ks h,List.getElem?_range h]; rfl
 ·rw[Kv h,KQ.mpr (by simp; omega)]; rfl
def rz {A:JS td}{H:Hp}{lo:Kk}{n:J4}:MIt X.w X.K (.its (b8 lo n)) (EY lo n) A H:=by
 show#[λA' H' S i w e so hi=>?_,λA' H' S i e so hi=>?_]
 ·simp only[MI.at,KF]at hi;rw[cv]at hi;split at hi
  ·cases hi;show#[by assumption,λx H2 #[z1,z2]=>?_]
   subst z1 z2;exact#[.refl,so,.int]
  ·cases hi
 ·simp only[MI.at,KF]at hi;rw[cv]at hi;split at hi
  ·cases hi
  ·change n<=i;omega
def nT {tg:Kd}{J:JS (td×Ll)}{Y:L2.St}{H1:Hp}{s1:JV}{R:It->Hp->Prop}{a:td}{xs:JS V}{v:JU}(I1:Inv X J Y H1 s1)(r1:RelV (.ref a) v)(hq:SqL X.K H1 a xs)(q:R (HJ X.K a) H1) :
  wpAny (model X.prog X.w) X.A (pyIter v) (EX X J Y tg R) X.xe s1:=by
 cases r1;obtain⟨its,rv,p,hz⟩:=I1.list hq;show NN p.isList ?_;show#[s1.heap.objs.size,[s1.heap.objs.size],_,_,H1,rfl,I1.kept (t':=s1.toks) λb o e=>JW _ e,sE a _,#[_,J7 _ rfl,rfl,rfl],λb hb=>?_,q]
 have e:b=s1.heap.objs.size:=by simpa using hb
 subst e;exact I1.fpOk (J9 _) (I1.hok.fresh (J9 _))
def pQ {tg:Kd}{J:JS (td×Ll)}{Y:L2.St}{H1:Hp}{s1:JV}{R:It->Hp->Prop}{a:td}{xs:JS V}{v:JU}(I1:Inv X J Y H1 s1)(r1:RelV (.ref a) v)(hq:SqT X.K H1 a xs)(q:R (HK X.K a) H1) :
  wpAny (model X.prog X.w) X.A (pyIter v) (EX X J Y tg R) X.xe s1:=by
 cases r1;obtain⟨its,rv,p,hz⟩:=I1.tuple hq;show P2 (show s1.heap.IsTuple a its.toArray from p) ?_
 show#[s1.heap.objs.size,[s1.heap.objs.size],_,_,H1,rfl,I1.kept (t':=s1.toks) λb o e=>JW _ e,oW a _,#[_,J7 _ rfl,rfl,rfl],λb hb=>?_,q]
 have e:b=s1.heap.objs.size:=by simpa using hb
 subst e;exact I1.fpOk (J9 _) (I1.hok.fresh (J9 _))
def zW {tg a:Kd}{f:FA}{p pos:LG}(hg:Gl X "range")(hm:X.mg "range" = gV)(ha:GA X [a] f)(hs:starEach [a] X.env=[(false,eval a X.env)]):GI X tg (.Call (.Name "range" p) [a] [] pos) (pP f):=by
 intro J s Y H R I ⟨A,Z,S,mi,S',er,so,e,hq⟩;unfold pP at e;split at e
 ·rename_i j S1 h1;split at e
  ·rename_i hj;cases e;show sF hg hm ha hs J s Y H R I #[A,Z,S,_,_,er,so,h1,λvs H1 #[A1,z1,z2,z3]=>?_]
   cases z3 with
   | cons r1 t=>
    cases t;cases r1;exact#[j,rfl,hj.1,hj.2,hq _ _ A1 z1 z2 rz]
  ·cases e
 ·cases e
def zX {tg a b:Kd}{f:FA}{p pos:LG}(hg:Gl X "range")(hm:X.mg "range" = gV)(ha:GA X [a,b] f)(hs:starEach [a,b] X.env=[(false,eval a X.env),(false,eval b X.env)])(hs2:starEach [b] X.env=[(false,eval b X.env)]):GI X tg (.Call (.Name "range" p) [a,b] [] pos) (iRng2 f):=by
 intro J s Y H R I ⟨A,Z,S,mi,S',er,so,e,hq⟩;unfold iRng2 at e;split at e
 ·rename_i i j S1 h1;split at e
  ·rename_i hj;cases e;show sG hg hm ha hs hs2 J s Y H R I #[A,Z,S,_,_,er,so,h1,λvs H1 #[A1,z1,z2,z3]=>?_]
   cases z3 with
   | cons r1 t=>
    cases t with
    | cons r2 t=>
     cases t;cases r1;cases r2;exact#[i,j,rfl,hj,hq _ _ A1 z1 z2 rz]
  ·cases e
 ·cases e
def C9 {tg l:Kd}{f:FE}(h:GE X l f):GI X tg l (zT f):=by
 intro J s Y H R I ⟨A,Z,S,mi,S',er,so,e,hq⟩;unfold zT at e;split at e
 ·rename_i ws S1 h1;cases e;show aD (h J s Y H (EndV X.w X.K A H _ (.tup ws)) I #[A,Z,S,_,_,er,so,h1,λ_ _ z=>z]) λv s1 #[x,H1,I1,r1,A1,e1,o1,z1]=>?_
  cases z1 with
  | tup hq1 rl=>
   show pQ I1 r1 hq1 (hq _ _ A1 e1 o1 (zU hq1 rl))
 ·rename_i r S1 h1;split at e
  ·rename_i ys hy;cases e;show aD (h J s Y H (EndV X.w X.K A H _ (.ref r)) I #[A,Z,S,_,_,er,so,h1,λ_ _ z=>z]) λv s1 #[x,H1,I1,r1,A1,e1,o1,z1]=>?_
   cases z1 with
   | ref ea=>
    obtain⟨vs,hl,_⟩:=aV o1 hy ea;exact nT I1 r1 hl (hq _ _ A1 e1 o1 (zV ea))
  ·cases e
 ·cases e
def Db {tg iter:Kd}{body:JS Lp}{pos:LG}{fi:FI}{g:FG}{fb:FS}(hp:NU (model X.prog X.w) X.A X.env X.xe)(hc:X.calm=true)(hi:GI X tg iter fi)(hg:GG X tg g)(hb:GSs X body fb)
  (hs:∀x,foldedSetIterable iter X.env x=pure x):GS X (.For tg iter body [] pos) (iG fi g fb):=GS.of (uH hp hc hi hg hb hs) λY H A Z S o S' er so e D hd=>by
 unfold iG at e;split at e
 ·rename_i mi S1 h1;split at e
  ·rename_i n hn;show#[A,Z,S,mi,S1,er,so,h1,λtx H1 A1 z1 z2 mit=>?_]
   show#[λi m Y2 H2=>∃A2 Z2 S2,Ext X.K A1 H1 A2 H2/\EnvRel X.K A2 H2 Z2 Y2/\StoreOk X.w X.K A2 H2 S2/\bq mi g fb m i Z2 S2=bt (o,S'),#[n,A1,Z,S1,.refl,er.mono z1,z2,e],?_]
   rintro i m Y2 H2 ⟨A2,Z2,S2,e2,er2,so2,w2⟩;cases m with
   | zero=>
    dsimp only[bq]at w2;split at w2
    ·rename_i hs;cases w2;exact .inl #[mit.stop A2 H2 _ i e2 so2 hs,hd.nx _ _ #[_,A2,rfl,z1.trans e2,so2,er2]]
    ·cases w2
   | succ m=>
    dsimp only[bq]at w2;split at w2
    ·rename_i w hw;obtain⟨go,yl⟩:=mit.go A2 H2 S2 i w e2 so2 hw;show .inr #[go,λY3 H3=>∃A3 Z3 S3,Ext X.K A1 H1 A3 H3/\EnvRel X.K A3 H3 Z3 Y3/\StoreOk X.w X.K A3 H3 S3/\bq mi g fb m (i+1) Z3 S3=bt (o,S'),λY' H' h=>#[m,K4 _,h],λx H3 hy=>?_]
     obtain⟨x1,x2,x3⟩:=yl x H3 hy;split at w2
     ·rename_i Z3 S3 h3;show#[A2,Z2,S2,w,Z3,S3,er2.mono x1,x2,x3,h3,λY4 H4 A4 y1 y2 y3=>?_]
      have ex:Ext X.K A1 H1 A4 H4:=(e2.trans x1).trans y1;split at w2
      ·rename_i Z5 S5 h5;show#[A4,Z3,S3,_,S5,y3,y2,h5,#[λY' H' #[Z',A',u0,u1,u2,u3]=>?_,λv H' #[w,A',y0,_,_,_]=>(by cases y0),λv H' #[w,A',y0,_,_,_]=>(by cases y0),λv H' #[w,A',y0,_,_,_]=>(by cases y0)]]
       cases u0;exact#[A',_,S5,ex.trans u1,u3,u2,w2]
      ·rename_i Z5 S5 h5;show#[A4,Z3,S3,_,S5,y3,y2,h5,#[λv H' #[w,A',y0,_,_,_]=>(by cases y0),λv H' #[w,A',y0,_,_,_]=>(by cases y0),λv H' #[w,A',y0,_,_,_]=>(by cases y0),λY' H' #[Z',A',u0,u1,u2,u3]=>?_]]
       cases u0;exact#[A',_,S5,ex.trans u1,u3,u2,w2]
      ·rename_i Z5 S5 h5;cases w2;show#[A4,Z3,S3,_,_,y3,y2,h5,#[λv H' #[w,A',y0,_,_,_]=>(by cases y0),λv H' #[w,A',y0,_,_,_]=>(by cases y0),λY' H' #[Z',A',u0,u1,u2,u3]=>?_,λv H' #[w,A',y0,_,_,_]=>(by cases y0)]]
       cases u0;exact hd.nx _ _ #[_,A',rfl,(z1.trans ex).trans u1,u2,u3]
      ·rename_i w5 S5 h5;cases w2;show#[A4,Z3,S3,_,_,y3,y2,h5,#[λv H' #[w,A',y0,_,_,_]=>(by cases y0),λv H' #[w,A',u0,u1,u2,u3]=>?_,λv H' #[w,A',y0,_,_,_]=>(by cases y0),λv H' #[w,A',y0,_,_,_]=>(by cases y0)]]
       cases u0;exact hd.rt _ _ #[_,A',rfl,(z1.trans ex).trans u1,u2,u3]
      ·cases w2
     ·cases w2
    ·cases w2
  ·cases e
 ·cases e
end
section
variable{prog:Ke}{w:Kr}{B:Kw}{E:JU->JV->Prop}{s:JV}
def zY {d:td}{es:KP Lm}{ep:J4}{Q:JU->JV->Prop}(hd:(d==sysModules)=false)(hm:RawD d es ep s.heap)(hfit:(es.size:Kk) < 2 ^ 63)
  (h:Q (.int es.size (s.toks+1)) { s with toks:=s.toks+1+1 }):wpAny (model prog w) B (call (.builtin "len") [.ref d]) Q E s:=by
 have hT:=hm.type;obtain⟨o,ho,hc,hdat⟩:=id hm;show Oy kind_len plain_len entry_len (args_len1 _) ?_;unfold Mm.«len»;show JT (m:=oneArg "len" _) (JZ ?_);show JT (m:=callSpecial? (.ref d) (LQ "__len__")) (KR (name:=LQ "__len__") hT F.slot_dict_len (K3 F.slot_dict_len hT F.entry_dict_len ?_ (F.args_dict_len_1 _)));change wpAny _ _ (dictSize d >>= _) _ _ s;unfold dictSize;show JT (JT (NO ho hdat (JZ ?_)));change wpAny _ _ (RJ d >>= _) _ _ s;show JT (wpAny_pendingCount_other hd ?_);show wpAny_ret_mkInt ?_;rw[Nat.add_zero];change wpAny _ _ _ _ _ { s with toks:=s.toks+1 }
 show JT (K5 (JZ ?_));show JT (Pk ?_);change wpAny _ _ (if ((es.size:J4):Kk) < 0 then _ else _) _ _ _
 rw[Kv ∅]
 change wpAny _ _ (if ((es.size:J4):Kk)>=2 ^ 63 then _ else _) _ _ _
 rw[Kv ∅]
 exact JT (Q1 (JZ #[_,rfl,h]))
end
section
variable{X:Cx}{J:JS (td×Ll)}{Y:L2.St}{H:Hp}{s:JV}{A:JS td}{S:aa}
def pR:LCall X (.builtin "len") pK:=by
 intro J s Y H A S xs vs us w S' I so rl rv e
 by_cases hd:∃i U,xs=[.ref i]/\lX S i=bt U
 ·obtain⟨i,U,rfl,hk⟩:=hd
  (dsimp only[pK]at e; simp only[hk]at e)
  cases e;cases rl with
  | cons r t=>
   cases t;cases rv with
   | cons ru rv2=>
    cases rv2;cases r with
    | ref ea=>
     obtain⟨xs,rd,kr⟩:=g0 so hk ea;have d:=cg I rd;obtain⟨es,ep,raw,he⟩:=d.raw;obtain rfl:_=Kl _:=ru;have hl:es.size=xs.length:=by rw[<- Kh,he,J6]
     have hz:=d.1;have hs:sizeLine=16777216:=Lf;show zY d.2.1 raw ∅ #[.int U.length,H,A,I.tok _,#[_,by rw[kr.length,hl]],.refl,so,.int]
 ·have:pK xs S=m8 xs S:=by
   unfold pK;split
   ·rename_i i;split
    ·rename_i U hk;exact absurd #[i,U,rfl,hk] hd
    ·rfl
   ·rfl
  rw[this]at e;exact sY J s Y H A S xs vs us w S' I so rl rv e
abbrev Ho (S:aa):W->JX Ls
 | .non=>bt "NoneType"|.bl _=>bt "bool"|.int _=>bt "int"|.str _=>bt "str"|.tup _=>bt "tuple"
 | .ref i=>match fP S i with
  | some _=>bt "list"
  | none=>(lX S i).map λ_=>"dict"
abbrev nU:JS Ls:=["bool","int","str","tuple","list","dict"]
abbrev rB (S:aa)(x:W)(c:Ls):JX Kn:=match Ho S x with
 | some t=>if nU.contains c then bt (t==c||(t == "bool" && c == "int"))else gV
 | none=>gV
def fU {K:J2}{t c:Ls}(ht:t∈["NoneType","bool","int","str","tuple","list","dict"])(hc:c∈nU):PySem.W.kitOne K (.type t) (.type c)=bt (t==c||(t == "bool" && c == "int")):=by
 simp only[nU,J5,Kz,Lo]at ht hc;rcases ht with rfl|rfl|rfl|rfl|rfl|rfl|rfl <;> rcases hc with rfl|rfl|rfl|rfl|rfl|rfl <;> rfl
def we:CallR X (.builtin "isinstance") (λvs H Q=>∃A S x v c b,vs=[v,.ty c]/\StoreOk X.w X.K A H S/\Rel X.K A H x v/\rB S x c=bt b/\Q (.bl b) H):=by
 intro J s Y H vs us Q I rv ⟨A,S,x,v,c,b,e1,so,rx,e2,hq⟩;subst e1;cases rv with
 | cons r1 rv2=>cases rv2 with
  | cons r2 rv3=>
   cases rv3;obtain rfl:_=Mp c:=r2;unfold rB at e2;split at e2
   ·rename_i t ht;split at e2
    ·rename_i hc;cases e2;have hc':c∈nU:=by simpa using hc
     have fin:∀tk,EP X J Y Q (.bool (t==c||(t == "bool" && c == "int"))) { s with toks:=tk }:=λtk=>#[.bl _,H,I.tok _,rfl,hq]
     cases rx with
     | non=>cases ht; cases(show _=K1 from r1); exact ML PySem.W.kitx_none I.kIn Nq (fU (by simp) hc') (λz=>nomatch z) fin
     | bl=>cases ht; cases(show _=LJ _ from r1); exact ML PySem.W.kitx_bool I.kIn Nq (fU (by simp) hc') (λz=>nomatch z) fin
     | int=>cases ht; obtain⟨t',q⟩:=(show ∃t,_=Od _ t from r1); cases q; exact ML PySem.W.kitx_int I.kIn Nq (fU (by simp) hc') (λz=>nomatch z) fin
     | str=>cases ht; obtain⟨t',q⟩:=(show ∃t,_=Nt _ t from r1); cases q; exact ML PySem.W.kitx_str I.kIn Nq (fU (by simp) hc') (λz=>nomatch z) fin
     | tup h1 r1'=>
      cases ht;obtain⟨its,rv,⟨o,q1,q2,_⟩,hz⟩:=I.tuple h1;cases(show _=Kl _ from r1)
      exact ML PySem.W.kitx_tuple I.kIn #[o,q1,q2] (fU (by simp) hc') (λz=>nomatch z) fin
     | ref ea=>
      cases(show _=Kl _ from r1)
      dsimp only[Ho]at ht;split at ht
      ·rename_i ws hw;cases ht;obtain⟨vs,h1,_⟩:=aV so hw ea;obtain⟨its,rv,p,hz⟩:=I.list h1;obtain⟨o,q1,q2,_⟩:=p.isList;exact ML PySem.W.kitx_list I.kIn #[o,q1,q2] (fU (by simp) hc') (λz=>nomatch z) fin
      ·rw[J0]at ht;obtain⟨U,hk,rfl⟩:=ht;obtain⟨xs,rd,kr⟩:=g0 so hk ea;obtain⟨es,ep,⟨o,q1,q2,_⟩,he⟩:=(cg I rd).raw;exact ML PySem.W.kitx_dict I.kIn #[o,q1,q2.1] (fU (by simp) hc') (λz=>nomatch z) fin
    ·cases e2
   ·cases e2
abbrev wf (c:Ls)(f:FE):FE:=λZ S=>match f Z S with
 | some (x,S1)=>(rB S1 x c).map λb=>(.bl b,S1)
 | none=>gV
def Dc {cn:J3}{c:Ls}{e:Kd}{p p2 pos:LG}{f:FE}(hg:Gl X "isinstance")(hm:X.mg "isinstance" = gV)(hg2:Gl X cn)(hm2:X.mg cn=gV)(hv2:bootBuiltins cn=bt (.type c))(hn2:cn≠"__name__")(hd2:(cn==("__debug__" : J3))=false)
  (he:GE X e f) (hs:starEach [e,.Name cn p2] X.env=(false,eval e X.env)::starEach [.Name cn p2] X.env):GE X (.Call (.Name "isinstance" p) [e,.Name cn p2] [] pos) (wf c f):=
 GE.of (d7 (we) hg hm rfl (bA he (bA (qF (v:=.ty c) hg2 hm2 hv2 rfl hn2 hd2) fL) hs) #v[] #v[] hs rfl) λY H A Z S w S' er so e Q hq=>by
  unfold wf at e;split at e
  ·rename_i x1 S1 h1;rw[J0]at e;obtain⟨b,e1,e2⟩:=e;cases e2;exact#[A,Z,S,x1,_,er,so,h1,λv H1 #[A1,z1,z2,z3]=>#[A1,_,x1,v,c,b,rfl,z2,z3,e1,hq _ _ #[A1,z1,z2,.bl]]]
  ·cases e
end
abbrev lc:JS W->JX (JS (J3×Kk))
 | []=>bt []
 | .str k::.int v::ws=>(lc ws).map ((k,v) :: ·)
 | _=>gV
abbrev Bp:FE:=λ_ S=>bt (.ref S.length,S++[.dic []])
abbrev nV (f:FA):FE:=λZ S=>match f Z (S++[.dis []])with
 | some (ws,S1)=>match S1[S.length]? with
  | some (.dis [])=>match lc ws with
   | some U=>if (U.map (·.1)).Nodup/\U.length<=15 then bt (.ref S.length,S1.set S.length (.dis U))else gV
   | none=>gV
  | _=>gV
 | none=>gV
def putK_new {U:JS (J3×Kk)}{k:J3}{n:Kk}(h:k∉U.map (·.1)):lK (cf U) (.inr k) (.int n)=cf (U++[(k,n)]):=by
 have e:((cf U).any λkv=>decide (kv.1=(.inr k:eQ)))=false:=by
  rw[jg,jB];cases hl:U.lookup k with
  | none=>rfl
  | some m=>
   show absurd ?_ h;have:=List.lookup_eq_some_iff.mp hl;obtain⟨l1,l2,q,_⟩:=this;rw[q]; simp
 unfold lK;rw[e,Kv Kg];simp[cf]
def lg:∀(more U:JS (J3×Kk)),((U++more).map (·.1)).Nodup->lM (cf U) (cf more)=cf (U++more)
 | [],U,_=>by rw[Lu]; rfl
 | (k,n)::more,U,h=>by
  have h2:((U++[(k,n)])++more).map (·.1)=(U++(k,n)::more).map (·.1):=by simp
  have hk:k∉U.map (·.1):=λz=>by
   rw[L4,NM]at h;exact h.2.2 _ z k (by simp) rfl
  change lM (lK (cf U) (.inr k) (.int n)) (cf more)=_;rw[putK_new hk,lg more _ (h2 ▸ h)];simp
section
variable (K:J2) (A:JS td) (H:Hp)
inductive RelP:JS W->JS (V×V)->Prop
 | nil:RelP [] []
 | cons {k v:W} {a b:V} {ws:JS W} {ps:JS (V×V)}:Rel K A H k a->Rel K A H v b->RelP ws ps->RelP (k::v::ws) ((a,b)::ps)
end
section
variable{X:Cx}{J:JS (td×Ll)}{Y:L2.St}{H:Hp}{s:JV}{A:JS td}{S:aa}
abbrev Ix (X:Cx)(A:JS td)(H:Hp)(S':aa)(ws:JS W):JS (V×V)->Hp->Prop:=λps H'=>∃A',Ext X.K A H A' H'/\StoreOk X.w X.K A' H' S'/\RelP X.K A' H' ws ps
abbrev FK (X:Cx)(pos:LG)(keys:JS (JX Kd))(values:JS Kd)(f:FA):Prop:=
 ∀(J:JS (td×Ll)) (s:JV) (Y:L2.St) (H:Hp) (A:JS td) (Z:Fm) (S:aa) (ws:JS W) (S':aa),Inv X J Y H s->EnvRel X.K A H Z Y->StoreOk X.w X.K A H S->f Z S=bt (ws,S')->
  wpAny (model X.prog X.w) X.A (evalPairs (pairTrees keys values X.env pos)) (λvs s'=>∃ps H',Inv X J Y H' s'/\VV ps vs/\Ix X A H S' ws ps H') X.xe s
def zZ {pos:LG}:FK X pos [] [] gu:=λJ s Y H A Z S ws S' I er so e=>by
 cases e;exact pairTrees_nil_walk #[[],H,I,.nil,A,.refl,so,.nil]
def wg {pos:LG}{k v:Kd}{ks:JS (JX Kd)}{vs:JS Kd}{fk fv:FE}{f:FA}(hk:GE X k fk)(hv:GE X v fv)(hr:FK X pos ks vs f):FK X pos (bt k::ks) (v::vs) (bZ fk (bZ fv f)):=λJ s Y H A Z S ws S' I er so e=>by
 unfold bZ at e;split at e
 ·rename_i w1 S1 h1;split at e
  ·rename_i w2 S2 h2;cases e;split at h2
   ·rename_i w3 S3 h3;split at h2
    ·rename_i w4 S4 h4;cases h2;show pairTrees_cons_walk (aD (hk J s Y H (EndV X.w X.K A H S1 w1) I #[A,Z,S,_,_,er,so,h1,λ_ _ z=>z]) λu s1 #[x,H1,I1,r1,A1,e1,o1,z1]=>
      aD (hv J s1 Y H1 (EndV X.w X.K A1 H1 S3 w3) I1 #[A1,Z,S1,_,_,er.mono e1,o1,h3,λ_ _ z=>z]) λu2 s2 #[x2,H2,I2,r2,A2,e2,o2,z2]=>
      aD (hr J s2 Y H2 A2 Z S3 _ _ I2 (er.mono (e1.trans e2)) o2 h4) λvs' s3 #[ps,H3,I3,rel,A3,e3,o3,z3]=>?_)
     exact#[(x,x2)::ps,H3,I3,.cons #[r1,r2] rel,A3,e1.trans (e2.trans e3),o3,.cons (z1.mono (e2.trans e3)) (z2.mono e3) z3]
    ·cases h2
   ·cases h2
  ·cases e
 ·cases e
def De {A:JS td}{H:Hp}{ws:JS W}{ps:JS (V×V)}(h:RelP X.K A H ws ps):∀ {U:JS (J3×Kk)},lc ws=bt U->ps=(cf U).map (λkv=>(kV kv.1,kv.2)):=by
 induction h with
 | nil=>intro U e; cases e; rfl
 | @cons k v a b ws ps h1 h2 h3 ih=>
  intro U e;unfold lc at e;split at e
  ·rename_i z; cases z
  ·rename_i z;cases z;rw[J0]at e;obtain⟨r,e1,rfl⟩:=e;cases h1;cases h2;rw[ih e1];rfl
  ·cases e
def z5 {pos:LG}:GE X (.Dict [] [] pos) Bp:=λJ s Y H Q I #[A,Z,S,w,S',er,so,e,hq]=>by
 cases e;have hn:=I.hok.fresh (J9 s.heap.objs.size);have dn:DicAt X.w s.heap.objs.size [] (s.heap.push { cls:=.type "dict",data:=.dict #[] }):=#[Mt _,LH.mpr (Ne.symm (Kj I.big)),Pl,_,#[],0,J7 _ rfl,#[rfl,rfl,rfl],rfl,rfl];show wpAny_Dict_empty #[.ref s.heap.objs.size,_,I.laid (a:=s.heap.objs.size) (o:=dU X.w s.heap.objs.size []) (t':=s.toks) (λ_ _ q=>JW _ q) (J9 _) dn.ok,rfl,hq _ _ #[A++[s.heap.objs.size],cr hn,so.pushO hn #[[],ak,.nil],.ref ?_]]
 rw[<- so.len]; simp
def z6 {pos:LG}{keys:JS (JX Kd)}{values:JS Kd}{f:FA}(hu:X.A.units+10 < cLine)(h:FK X pos keys values f)(hall:keys.all (·.isSome)=true)(hl:keys.length=values.length)(h0:keys≠[])(h15:keys.length<=15):GE X (.Dict keys values pos) (nV f):=by
 intro J s Y H Q I ⟨A,Z,S,w,S',er,so,e,hq⟩;unfold nV at e;split at e
 ·rename_i ws S1 h1;split at e
  ·rename_i hS1;split at e
   ·rename_i U hp;split at e
    ·rename_i hd0;cases e;have hn:=I.hok.fresh (J9 s.heap.objs.size);have I1:=I.laid (a:=s.heap.objs.size) (o:=.dK []) (h':=s.heap.push { cls:=.type "dict",data:=.dict #[] }) (t':=s.toks) (λ_ _ q=>JW _ q) (J9 _) (uU s.heap I.big)
     have ex0:Ext X.K A H (A++[s.heap.objs.size]) (ay H s.heap.objs.size (.dK [])):=cr hn;have so0:StoreOk X.w X.K (A++[s.heap.objs.size]) (ay H s.heap.objs.size (.dK [])) (S++[.dis []]):=so.pushO hn ak;show wpAny_Dict_walk (knd:=bI X.prog X.w) hall hl h0 h15 (aD (h J _ Y _ _ Z _ _ _ I1 (er.mono ex0) so0 h1) λvs s2 #[ps,H2,I2,vv,A2,ex2,so2,rp]=>?_)
     have ea:A2[S.length]?=bt s.heap.objs.size:=ex2.ad _ _ (by rw[<- so.len]; simp)
     have e:H2 s.heap.objs.size=bt (.dK []):=so2.obj _ _ _ hS1 ea;have ep:=De rp hp;subst ep;obtain⟨rs,c,rk⟩:=jh (P:=X.prog) (w:=X.w) vv;obtain⟨z,hd,vs0,r0,dd⟩:=Fd I2.hok e;cases r0;have em:lM [] (cf U)=cf U:=lg U [] hd0.1;have hk:(cf U).length<=15:=by rw[cf,J6]; exact hd0.2
     obtain⟨so',ex'⟩:=so2.writeO (n:=.dis U) (u:=.dK (cf U)) hS1 rfl ea ak;show#[rs,c,dd,λh' dd' hs=>#[.ref s.heap.objs.size,_,?_,rfl,hq _ _ #[A2,ex0.trans (ex2.trans ex'),so',.ref (ex'.ad _ _ ea)]]]
     have hz:(cf U).length<=sizeLine:=by rw[Lf]; omega
     have he:∃q,h'.get? s.heap.objs.size=bt q:=let ⟨q,_,_,hq,_⟩:=dd'; #[q,hq]
     exact lL I2 (by rw[e]; exact Nq) hs he (CB hz hd (em ▸ rk.merge .nil) dd')
    ·cases e
   ·cases e
  ·cases e
 ·cases e
end
abbrev Jm (wd:Kr)(a:td)(o:Ll)(xs:JS (T×td×JU)):It:=
 #[λi H=>H a=bt (.frz o (dU wd a xs))/\i < xs.length,λi H x H'=>H'=H/\∃q,xs[i]?=bt q/\x=.ref q.2.1,λi H=>H a=bt (.frz o (dU wd a xs))/\xs.length<=i]
def tW {P:Ke}{w:Kr}{K:J2}{tg:Kd}(a it:td){o:Ll}{es:KP Lm}{ep:J4}{xs:JS (T×td×JU)}(hx:o.ExactDict)(hd:o.data=.dict es ep)(he:es.toList=xs.map (vi w)) :
  Turn P w K tg (Jm w a o xs) [it] it (λi h=>h.IsKeyIter it a i es.size ep) where
 mem:=by simp
 obj:=λi h st b hb=>by
  have e:b=it:=by simpa using hb
  subst e;obtain⟨o,e,c,d⟩:=st;exact#[o,e,λv z=>by rw[d]at z; cases z]
 keep:=λi h h' st k=>st.at λo e=>k it (by simp) o e
 item:=by
  intro X hP hw hK hc i J s Y H E I hf st hg;subst hP hw hK;obtain⟨hH,hi⟩:=hg;have ho:s.heap.get? a=bt o:=(show ObjOk X.prog X.w H s.heap a (.frz o (dU X.w a xs))from I.hok a _ hH).1
  have hl:es.size=xs.length:=by rw[<- Kh,he,J6]
  have hi':i < es.size:=∅
  obtain⟨f0,f1,f2,f3,f4,f5⟩:=hf it (by simp)
  have hk:es[i].key=.ref (xs[i]).2.1:=by
   have:es.toList[i]?=bt (vi X.w xs[i]):=by rw[he,KA,Kt hi]; rfl
   rw[K7,MF hi']at this;have:=LP this;rw[this]; rfl
  show nL st #[o,ho,hx,hd] hi' λh' st' sb=>?_
  have I1:Inv X J Y H { s with heap:=h' }:=I.turned (t':=s.toks) (λb o hb e=>(sb.2 b hb).trans e) f0 f1 f3 f4 f5
  obtain⟨o',e,c,d⟩:=id st';exact#[_,rfl,mR (s:={ s with heap:=h' }) e c d #v[] #[.ref (xs[i]).2.1,H,I1,hk,#[rfl,xs[i],Kt hi,rfl],st',λb hb=>(hf b hb).1]]
 done:=by
  intro X hP hw hK hc i J s Y H E I hf st hg;subst hP hw hK;obtain⟨hH,hi⟩:=hg;have ho:s.heap.get? a=bt o:=(show ObjOk X.prog X.w H s.heap a (.frz o (dU X.w a xs))from I.hok a _ hH).1
  have hl:es.size=xs.length:=by rw[<- Kh,he,J6]
  obtain⟨f0,f1,f2,f3,f4,f5⟩:=hf it (by simp)
  exact rc (I.ok.hd hc) st #[o,ho,hx,hd] ∅ λh' eb=>#[rfl,I.turned (t':=s.toks) (λb o hb e=>eb b o hb e) f0 f1 f3 f4 f5]
 self:=λ_ _ _ _ _ st h=>Pj st h
abbrev fB (f:FE):FI:=λZ S=>match f Z S with
 | some (.tup ws,S1)=>bt (.its ws,S1)
 | some (.str x,S1)=>if (x.cps.all λc=>decide (c < 128))=true then bt (.its (x.cps.toList.map λc=>.str #[[c].toArray]),S1)else gV
 | some (.ref r,S1)=>match fP S1 r with
  | some _=>bt (.live r,S1)
  | none=>match lX S1 r with
   | some U=>bt (.its (U.map λp=>p.1.w),S1.set r (.frd U))
   | none=>gV
 | _=>gV
section
variable{X:Cx}{J:JS (td×Ll)}{Y:L2.St}{H:Hp}{s:JV}{A:JS td}{S:aa}
def wj {a:td}{o:Ll}{U:JS (T×W)}{xs:JS (T×td×JU)}(hH:H a=bt (.frz o (dU X.w a xs)))(kr:KRel X.K A H U xs):MIt X.w X.K (.its (U.map λp=>p.1.w)) (Jm X.w a o xs) A H:=by
 show#[λA' H' S i w e so hi=>?_,λA' H' S i e so hi=>?_]
 ·simp only[MI.at,KF]at hi;obtain⟨v,h1,h2⟩:=((kr.mono e).keysL).get hi;rw[KA,J0]at h1;obtain⟨q,q1,q2⟩:=h1;show#[#[e.fz _ _ _ hH,(Kc.mp q1).1],λx H2 #[z1,q',z2,z3]=>?_]
  subst z1 z3;rw[q1]at z2; cases z2
  exact#[.refl,so,by rw[q2]; exact h2]
 ·simp only[MI.at,KF]at hi;show#[e.fz _ _ _ hH,?_];have:=KQ.mp hi;rw[J6,kr.length]at this;exact this
def z7 {x:J3}:MIt X.w X.K (.its (x.cps.toList.map λc=>.str #[[c].toArray])) (Jj x) A H:=by
 show#[λA' H' S i w e so hi=>?_,λA' H' S i e so hi=>?_]
 ·simp only[MI.at,KF]at hi;rw[KA,J0]at hi;obtain⟨c,hc,rfl⟩:=hi;rw[K7]at hc;show#[(Ln.mp hc).1,λv H2 #[z1,c',z2,z3]=>?_]
  subst z1 z3;rw[hc]at z2; cases z2
  exact#[.refl,so,.str]
 ·simp only[MI.at,KF]at hi;rw[KA,Nb,K7]at hi;exact Array.getElem?_eq_none_iff.mp hi
def z8 {tg l:Kd}{f:FE}(h:GE X l f):GI X tg l (fB f):=by
 intro J s Y H R I ⟨A,Z,S,mi,S',er,so,e,hq⟩
 by_cases hs:∃x S1,f Z S=bt (.str x,S1)
 ·obtain⟨x,S1,h1⟩:=hs;simp only[fB,h1]at e;split at e
  ·rename_i ha;cases e;show aD (h J s Y H (EndV X.w X.K A H _ (.str x)) I #[A,Z,S,_,_,er,so,h1,λ_ _ z=>z]) λv s1 #[x',H1,I1,r1,A1,e1,o1,z1]=>?_
   cases z1;obtain⟨tk,rfl⟩:=r1;show P3 ha ?_;show#[s1.heap.objs.size,[s1.heap.objs.size],_,_,H1,rfl,I1.kept (t':=s1.toks) λb o e=>JW _ e,vL x tk _,#[_,J7 _ rfl,rfl,rfl],λb hb=>?_,hq _ _ A1 e1 o1 z7]
   have e:b=s1.heap.objs.size:=by simpa using hb
   subst e;exact I1.fpOk (J9 _) (I1.hok.fresh (J9 _))
  ·cases e
 by_cases hd:∃r S1 U,f Z S=bt (.ref r,S1)/\fP S1 r=gV/\lX S1 r=bt U
 ·obtain⟨r,S1,U,h1,h2,h3⟩:=hd;simp only[fB,h1,h2,h3]at e;cases e;show aD (h J s Y H (EndV X.w X.K A H S1 (.ref r)) I #[A,Z,S,_,_,er,so,h1,λ_ _ z=>z]) λv s1 #[x,H1,I1,r1,A1,e1,o1,z1]=>?_
  cases z1 with
  | @ref _ a ea=>
   obtain rfl:v=Kl a:=r1;have fz:∃o xs H2,Inv X J Y H2 s1/\Ext X.K A1 H1 A1 H2/\StoreOk X.w X.K A1 H2 (S1.set r (.frd U))/\H2 a=bt (.frz o (dU X.w a xs))/\KRel X.K A1 H2 U xs:=by
    unfold lX at h3;split at h3
    ·rename_i k hk;cases h3;obtain⟨xs,hH,kr⟩:=o1.obj r _ a hk ea;have d:=cg I1 (.inl hH);obtain⟨_,_,_,o,es,ep,q1,q2,q3,q4⟩:=id d;obtain⟨so',ex⟩:=o1.writeO hk rfl ea (u:=.frz o (dU X.w a xs)) (n:=.frd U) #[o,xs,ak,kr.mono (aL (.ext hH))];exact#[o,xs,_,lL (h':=s1.heap) (t':=s1.toks) (ob:=.frz o (dU X.w a xs)) I1 (by rw[hH]; exact Nq) (Qn _ _) #[o,q1] #[q1,d.ok],ex,so',ak,kr.mono ex]
    ·rename_i k hk;cases h3;obtain⟨o,xs,hH,kr⟩:=o1.obj r _ a hk ea;have:S1.set r (.frd U)=S1:=by
      apply Qs;intro j;rw[LY];split
      ·rename_i e; subst e
       split
       ·exact hk.symm
       ·rename_i h; exact absurd (Kc.mp hk).1 h
      ·rfl
     rw[this];exact#[o,xs,H1,I1,.refl,o1,hH,kr]
    ·cases h3
   obtain⟨o,xs,H2,I2,ex,so2,hH,kr⟩:=fz;have d:=cg I2 (.inr #[o,hH]);have ho:s1.heap.get? a=bt o:=(show ObjOk X.prog X.w H2 s1.heap a (.frz o (dU X.w a xs))from I2.hok a _ hH).1
   obtain⟨_,hsm,_,o',es,ep,q1,q2,q3,q4⟩:=id d;rw[ho]at q1;cases q1;show nK hsm #[o,ho,q2,q3] ?_;show#[s1.heap.objs.size,[s1.heap.objs.size],_,_,H2,rfl,I2.kept (t':=s1.toks) λb o e=>JW _ e,tW a _ q2 q3 q4,#[_,J7 _ rfl,rfl,rfl],λb hb=>?_,hq _ _ A1 (e1.trans ex) so2 (wj hH kr)]
   have e:b=s1.heap.objs.size:=by simpa using hb
   subst e;exact I2.fpOk (J9 _) (I2.hok.fresh (J9 _))
 ·have:fB f Z S=zT f Z S:=by
   unfold fB zT;cases hf:f Z S with
   | none=>rfl
   | some p=>
    obtain⟨w,S1⟩:=p;cases w with
    | ref r=>
     cases h2:fP S1 r with
     | some _=>simp only[h2]
     | none=>
      cases h3:lX S1 r with
      | none=>simp only[h2,h3]
      | some U=>exact absurd #[r,S1,U,hf,h2,h3] hd
    | str x=>exact absurd #[x,S1,hf] hs
    | _=>rfl
  rw[this]at e;exact C9 h J s Y H R I #[A,Z,S,mi,S',er,so,e,hq]
end
abbrev Dg (xs:JS W)(S:aa):JX (W×aa):=match xs with
 | [.ref i]=>match EB S i with
  | some ss=>bt (.int ss.length,S)
  | none=>gV
 | _=>gV
section
variable{X:Cx}
def pS:LCall X (.builtin "len") Dg:=by
 intro J s Y H A S xs vs us w S' I so rl rv e;unfold Dg at e;split at e
 ·rename_i i;obtain⟨a,ea,rfl⟩:=gr (xs:=[]) rl rv;split at e
  ·rename_i ss hs;cases e;obtain⟨o,ho,hex,es,ep,t,hd,tb⟩:=vH I so hs ea;have hz:es.size=ss.length:=by
    have:=tb.pm.length_eq
    rwa [J6,Kh]at this
   have hf:=tb.few;exact call_len_set ho hex hd tb.fit (by rw[hz]; have h2:scanBound<=2 ^ 40:=#v[]; omega) #[.int ss.length,H,A,I.tok _,#[_,by rw[hz]],.refl,so,.int]
  ·cases e
 ·cases e
end
section
variable{Mqa:OC}{A:Kw}{E:JU->JV->Prop}{s:JV}
def nW {scope:MM}{g:td}{cl:JS (J3×td)}{qual:J3}{outer:Oe}{Q:Oe->JV->Prop}
  (h:Q (newEnv scope s.heap.objs.size g (cellsFrom (s.heap.objs.size+1) scope.names cl) qual gV .none (bt outer) builtinsNs) { s with heap:=pushCells (s.heap.push { cls:=.type "dict",data:=.dict #[] }) scope.names }) :
  wpAny Mqa A (newFunctionEnv scope g cl [] qual gV .none (bt outer)) Q E s:=by
 simp only[newFunctionEnv,PX,MY];show JT (SD ?_);show JT (wpAny_layCells _ (λname kind cells=>by cases hkc:kind==Nf <;> simp[hkc]) _ _ _ _ ?_)
 rw[show({ s with heap:=s.heap.push { cls:=.type "dict",data:=.dict #[] } }:JV).heap.objs.size=s.heap.objs.size+1 from Li ..]
 rw[Oq];exact JT (JZ (JZ h))
def wk {names:JS (J3×Ly)}{h2:KB}:(pushCells (h2.push { cls:=.type "dict",data:=.dict #[] }) names).Ns h2.objs.size (λ_=>gV):=
 Heap.Ns.keeps (h:=h2.push { cls:=.type "dict",data:=.dict #[] }) #[_,#[],0,J7 _ rfl,rfl,by simp[StrKeys],λ_=>rfl] (O5 names _)
def dg:∀(names:JS (J3×Ly)) (m:J4) (acc:JS (J3×td)) {x:J3} {c:td},(cellsFrom m names acc).lookup x=bt c->
  (acc.lookup x=bt c/\(x,Nf)∉names)\/(m<=c/\(x,Nf)∈names/\∀h:KB,h.objs.size=m->(pushCells h names).IsCell c gV)
 | [],_,_,_,_,hm=>.inl #[hm,λz=>nomatch z]
 | (name,kind)::r,m,acc,x,c,hm=>by
  unfold cellsFrom at hm;split at hm
  ·rename_i hk;have hc:kind=.cell:=eq_of_beq hk;subst hc;rcases dg r _ _ hm with⟨z,zn⟩|⟨z1,z2,z3⟩
   ·rw[KD]at z;split at z
    ·rename_i e;cases z;have:=eq_of_beq e;subst this;show .inr #[J9 _,Kq,λh e=>?_]
     subst e;exact(show(h.push { cls:=.type "cell",data:=.cell gV }).IsCell h.objs.size gV from#[_,J7 _ rfl,rfl]).keeps (O5 r _)
    ·rename_i e;show .inl #[z,λy=>?_]
     rcases J5.mp y with y|y
     ·cases y; simp at e
     ·exact zn y
   ·show .inr #[Nat.le_of_succ_le z1,Ko _ z2,λh e=>?_]
    exact z3 _ (by rw[Li,e])
  ·rename_i hk;rcases dg r _ _ hm with⟨z,zn⟩|⟨z1,z2,z3⟩
   ·show .inl #[z,λy=>?_]
    rcases J5.mp y with y|y
    ·cases y; exact hk rfl
    ·exact zn y
   ·show .inr #[z1,Ko _ z2,λh e=>?_]
    unfold pushCells;rw[Kv hk];exact z3 h e
def hG:∀(names:JS (J3×Ly)) (m:J4) (acc:JS (J3×td)),(∀x c,acc.lookup x=bt c->c < m)->(∀x y c,acc.lookup x=bt c->acc.lookup y=bt c->x=y)->
  ∀x y c,(cellsFrom m names acc).lookup x=bt c->(cellsFrom m names acc).lookup y=bt c->x=y
 | [],_,_,_,h=>h
 | (name,kind)::r,m,acc,hl,h=>by
  unfold cellsFrom;split
  ·show hG r (m+1) _ (λx c e=>?_) λx y c e1 e2=>?_
   ·rw[KD]at e;split at e
    ·cases e; exact K4 _
    ·exact Lz (hl x c e)
   ·rw[KD]at e1 e2;split at e1 <;> split at e2
    ·rename_i _ z1 _ z2;rw[eq_of_beq z1,eq_of_beq z2]
    ·cases e1;exact absurd (hl y _ e2) (Lq _)
    ·cases e2;exact absurd (hl x _ e1) (Lq _)
    ·exact h x y c e1 e2
  ·exact hG r m acc hl h
def hW:∀(names:JS (J3×Ly)) (m:J4) (acc:JS (J3×td)) {n:J3},(n,Nf)∈names\/(∃c,acc.lookup n=bt c)->∃c,(cellsFrom m names acc).lookup n=bt c
 | [],_,_,_,h=>h.elim (λz=>nomatch z) id
 | (name,kind)::r,m,acc,n,h=>by
  unfold cellsFrom;split
  ·show hW r (m+1) _ ?_;rw[KD];split
   ·exact .inr #[_,rfl]
   ·rename_i e;rcases h with z|z
    ·rcases J5.mp z with y|y
     ·cases y; simp at e
     ·exact .inl y
    ·exact .inr z
  ·rename_i hk;show hW r m acc ?_;rcases h with z|z
   ·rcases J5.mp z with y|y
    ·cases y; exact absurd rfl hk
    ·exact .inl y
   ·exact .inr z
end
abbrev aW (mi:MI)(g:FG)(c:FT)(f:FE):J4->J4->Fm->aa->JX (JS W×aa)
 | 0,i,_,S=>match mi.at S i with
  | some gV=>bt ([],S)
  | _=>gV
 | n+1,i,Z,S=>match mi.at S i with
  | some (bt w)=>match g w Z S with
   | some (Z1,S1)=>match c Z1 S1 with
    | some (true,S2)=>match f Z1 S2 with
     | some (y,S3)=>match aW mi g c f n (i+1) Z1 S3 with
      | some (ys,S4)=>bt (y::ys,S4)
      | none=>gV
     | none=>gV
    | some (false,S2)=>aW mi g c f n (i+1) Z1 S2
    | none=>gV
   | none=>gV
  | _=>gV
abbrev eD (cap:JS (JX J4))(Z:Fm):Fm:=cap.map λo=>match o with
 | some j=>(Z[j]?).join
 | none=>gV
abbrev jI (fi:FI)(g:FG)(c:FT)(f:FE)(cap:JS (JX J4)):FE:=λZ S=>match fi Z S with
 | some (mi,S1)=>match mi.len S1 with
  | some n=>match aW mi g c f n 0 (eD cap Z) S1 with
   | some (ys,S2)=>lN S2 ys
   | none=>gV
  | none=>gV
 | none=>gV
abbrev Bq:FT:=λ_ S=>bt (true,S)
abbrev ko (X:Cx)(scope:MM)(cl:JS (J3×td))(C:td)(N:JS J3)(s0:JV)(H0:Hp)(ex:JS td):Cx:=
 { X with env:=compEnvC scope (cellsFrom (C+1) scope.names cl) C X.env,N:=N,s₀:=s0,H₀:=H0,outer:=X.stack,stack:=X.stack,ex:=ex,fn:=λx=>scope.names.any λy=>y.1==x&&y.2==.cell,pn:=[],xe:=λ_ _=>KT }
structure CompOk (X:Cx)(scope:MM)(cl:JS (J3×td))(N:JS J3)(cap:JS (JX J4)):Prop where
 clos:closureFor scope X.env=pure cl
 kind:scope.kind=.function
 names:∀y∈scope.names,y.2=.local->scope.names.lookup y.1=bt .local
 sub:∀x c,cl.lookup x=bt c->X.env.cells.lookup x=bt c
 has:∀m x,((relabel scope X.env).names.lookup x=bt .cell\/(relabel scope X.env).names.lookup x=bt .free)->∃c,(cellsFrom m scope.names cl).lookup x=bt c
 len:cap.length=N.length
 cap:∀(i j:J4) (x:J3),cap[i]?=bt (bt j)->N[i]?=bt x->X.N[j]?=bt x/\(X.env.kindOf x=bt .cell\/X.env.kindOf x=bt .free)/\((relabel scope X.env).names.lookup x=bt .cell\/(relabel scope X.env).names.lookup x=bt .free)/\(x,Nf)∉scope.names
def CompOk.of {X:Cx}{scope:MM}{cl:JS (J3×td)}{N:JS J3}{cap:JS (JX J4)}(ck:CompOk X scope cl N cap){m:J4}{x:J3}{c:td}(z:(cellsFrom m scope.names cl).lookup x=bt c):X.env.cells.lookup x=bt c\/m<=c:=
 (dg _ _ _ z).elim (λq=>.inl (ck.sub x c q.1)) λq=>.inr q.1
def ft {prog:Ke}{w:Kr}{A:Kw}{R:Pb->JV->Prop}{s:JV}{elt target iter:Kd}{ifs:JS Kd}{scope:MM}{pos:LG}{it acc:JU}{env:Oe}(I:J4->JV->Prop)
    (turn:∀n s,I n s->wpAny (model prog w) A (pyNext it) (λr s₁=>match r with
      | none=>R (.ok .next) s₁
      | some v=>wpAny (model prog w) A (letOwnedTupleGo target it v) (λ_ s₁=>wpAny (model prog w) A (assign target env v) (λ_ s₂=>
          wpAny (model prog w) A (forIn ifs true λc r=>if r=true then do let ok <- isTrue c env (eval c env); pure (L7 ok)else pure (L7 r)) (λok s₃=>
            if ok=true then wpAny (model prog w) A (eval elt env) (λx s₄=>
              wpAny (model prog w) A (call (.builtin "list.append") [acc,x]) (λ_ s₅=>∃m,m < n/\I m s₅) (λ_ _=>KT) s₄) (λ_ _=>KT) s₃
            else ∃m,m < n/\I m s₃) (λ_ _=>KT) s₂) (λ_ _=>KT) s₁) (λ_ _=>KT) s₁) (λ_ _=>KT) s)
    (n:J4) (h:I n s) :
    codeAny (model prog w) A (.compLoop (.ListComp elt [#[target,iter,ifs,0]] scope pos) 0 it acc env) R s:=by
  show codeAny_loop rfl I (λn s hI=>?_) n h
  change wpAny _ A ((compTurn (.ListComp elt [#[target,iter,ifs,0]] scope pos) 0 it acc env).onRaise (λx=>do noteFrame x env; theTreesLotGoes x)) _ _ s
  show wpAny_noted ?_;rw[compTurn_list];show JT (MR (JT (KO (turn n s hI) (λr s₁ h₁=>?_) λ_ _ h'=>h'.elim)))
  cases r with
  | none=>exact JZ h₁
  | some v=>
    show JT (KO h₁ (λ_ s₁ h₁=>?_) λ_ _ h'=>h'.elim)
    show JT (KO h₁ (λ_ s₂ h₂=>JT (KO h₂ (λok s₃ h₃=>?_) λ_ _ h'=>h'.elim)) λ_ _ h'=>h'.elim)
    cases ok with
    | false=>exact JZ #[rfl,h₃]
    | true=>
      exact JT (JT (KO h₃ (λx s₄ h₄=>JT (KO h₄ (λ_ s₅ h₅=>JZ (JZ #[rfl,h₅])) λ_ _ h'=>h'.elim)) λ_ _ h'=>h'.elim))
section
variable{X:Cx}{J:JS (td×Ll)}{Y:L2.St}{H:Hp}{s:JV}
def Inv.adopt {D:td}{o:HO}(I:Inv X J Y H s)(hn:H D=gV)(h1:D∈X.ex\/X.s₀.heap.objs.size<=D)(hL:D≠X.env.locals)(h2:∀x c,X.env.cells.lookup x=bt c->c≠D)(h3:∀p∈X.pn++J,p.1≠D)
  (new:ObjOk X.prog X.w (ay H D o) s.heap D o):Inv X J Y (ay H D o) s:=by
 have nit:∀b u,H b=bt u->b≠D:=λb u e z=>by rw[z,hn]at e; cases e
 have key:Inv X J Y (ay H D o) { s with heap:=s.heap,gens:=s.gens,drawn:=s.drawn,toks:=s.toks }:=by
  show I.step (g':=s.gens) (d':=s.drawn) (t':=s.toks) (h':=s.heap) (ch:=[D]) (λb hb=>?_) (λb o _ _ hc e _=>e) (λb o _ _ hc e _=>#[o.slots,e]) (λb o hc e n=>?_)
   (λb o hc e=>#[o,e]) (λb xs e=>?_) (λb o xs e=>?_) (λb ps e=>#[#[],?_]) (λm hm=>hm) (λb u e=>?_) I.bare
  ·have e:b=D:=by simpa using hb
   subst e;exact#[h1,hL,h2,h3]
  ·rw[aj (λz=>hc (by simp[z]))]; exact n
  ·rw[aj (nit b _ e)]; exact e
  ·rw[aj (nit b _ e)]; exact e
  ·rw[aj (nit b _ e),e]; simp
  ·by_cases hb:b=D
   ·subst hb; rw[ak]at e; cases e; exact new
   ·rw[aj hb]at e;show(I.hok b u e).stay (λc v hc q=>q) (λc q=>?_) λc xs q=>?_
    ·rw[aj (nit c _ q)]; exact q
    ·rw[aj (nit c _ q)]; exact q
 exact key
def Dh {scope:MM}{cl:JS (J3×td)}{N:JS J3}{cap:JS (JX J4)}{C:td}{s0:JV}{ex:JS td}(I:Inv X J Y H s)(ck:CompOk X scope cl N cap)(hs:s.heap.objs.size<=s0.heap.objs.size)(hC:s0.heap.objs.size<=C)(hlt:∀x c,X.env.cells.lookup x=bt c->c < C+1)
  (hk:∀b o,s.heap.get? b=bt o->s0.heap.get? b=bt o) (hex:∀b∈ex,(b < C)/\(∀x c,X.env.cells.lookup x=bt c->c≠b)/\(∀o,X.base.get? b≠bt o)/\b∉kF X.stack) :
  (ko X scope cl C N s0 H ex).Ok where
 mod:=I.ok.mod
 kind:=ck.kind
 glob:=I.ok.glob
 blt:=I.ok.blt
 above:=hC
 inj:=hG scope.names (C+1) cl (λx c h=>hlt x c (ck.sub x c h)) λx y c h1 h2=>I.ok.inj x y c (ck.sub x c h1) (ck.sub y c h2)
 has:=λx h=>ck.has _ x h
 cab:=λx c h hc=>by
  obtain⟨⟨y,k⟩,hy,e⟩:=QR.mp h;rw[JY]at e;have e1:y=x:=eq_of_beq e.1;have e2:k=.cell:=eq_of_beq e.2;subst e1 e2;rcases dg _ _ _ hc with q|q
  ·exact absurd hy q.2
  ·exact Kx hC (Kx (Mk _) q.1)
 hd:=I.ok.hd
 frames:=I.ok.frames
 stk:=.inl rfl
 exf:=λb hb=>#[Kj (hex b hb).1,λx c h=>(ck.of h).elim (λq=>(hex b hb).2.1 x c q) λq z=>absurd (Km (Lz (hex b hb).1) q) (z ▸ Lq _)]
 bs:=λb o e=>#[hk b o (I.bk b o e),(I.bs b o e).2]
 bsz:=Kx (Kx I.ok.bsz I.sz) hs
 noex:=λb o e hb=>(hex b hb).2.2.1 o e
 exfs:=λb hb=>(hex b hb).2.2.2
 funs:=I.stack.of_keeps λb o e _=>#[o,hk b o e,rfl]
 frf:=I.stkFree
structure BlockOk (X:Cx)(scope:MM)(cl:JS (J3×td))(N:JS J3)(tg elt:Kd)(ifs:JS Kd)(g:FG)(c:FT)(f:FE):Prop where
 tgt:∀C s0 H0 ex,GG (ko X scope cl C N s0 H0 ex) tg g
 tst:∀C s0 H0 ex J s Y H Q,Inv (ko X scope cl C N s0 H0 ex) J Y H s->tT (ko X scope cl C N s0 H0 ex) c Y H Q->
  wpAny (model X.prog X.w) X.A (forIn ifs true λc r=>if r=true then do let ok <- isTrue c (compEnvC scope (cellsFrom (C+1) scope.names cl) C X.env) (eval c (compEnvC scope (cellsFrom (C+1) scope.names cl) C X.env)); pure (L7 ok)else pure (L7 r)) (TP (ko X scope cl C N s0 H0 ex) J Y Q) (λ_ _=>KT) s
 elt:∀C s0 H0 ex,GE (ko X scope cl C N s0 H0 ex) elt f
def l8 {prog:Ke}{w:Kr}{B:Kw}{s:JV}{E:JU->JV->Prop}{Q:JU->JV->Prop}{D:td}{its:JS JU}{n:J4}{u:JU}(e:s.heap.get? D=bt { cls:=.type "list",data:=.seq its.toArray n })(hz:its.length < sizeLine)
  (h:∀h' n',h'.get? D=bt { cls:=.type "list",data:=.seq (its++[u]).toArray n' }->(∀b o,b≠D->s.heap.get? b=bt o->h'.get? b=bt o)->Q .none { s with heap:=h' }) :
  wpAny (model prog w) B (call (.builtin "list.append") [.ref D,u]) Q E s:=by
 show OS F.slot_list_append #[_,e,rfl] F.entry_list_append (F.args_list_append_2 _ _) (Qh D its.toArray n u (by rw[Ki]; omega)) #[e,?_]
 have q:=QH e (λa=>a.push u)
 have e2:its.toArray.push u=(its++[u]).toArray:=by simp
 rw[e2]at q;exact h _ _ q (λb o hb ho=>(KN s.heap (ND λa=>a.push u) (Ne.symm hb)).trans ho)
def lh {scope:MM}{cl:JS (J3×td)}{N:JS J3}{cap:JS (JX J4)}{tg elt iter:Kd}{ifs:JS Kd}{g:FG}{c:FT}{f:FE}{pos:LG}{A:JS td}{Z:Fm}{S S':aa}{mi:MI}{n:J4}{ws:JS W}{E:JU->JV->Prop}
  {it:td} {fp:JS td} {tn:J4->KB->Prop} {tx:It} {RR:JU->td->Pb->JV->Prop}
  (I:Inv X J Y H s) (hc:X.calm=true) (er:EnvRel X.K A H Z Y) (so:StoreOk X.w X.K A H S) (ck:CompOk X scope cl N cap) (bk:BlockOk X scope cl N tg elt ifs g c f)
  (T:Turn X.prog X.w X.K tg tx fp it tn) (t0:tn 0 s.heap) (hfp:∀b∈fp,fK X J H b) (mit:MIt X.w X.K mi tx A H) (e:aW mi g c f n 0 (eD cap Z) S=bt (ws,S')) (hz:ws.length<=sizeLine)
  (fin:∀D C s' H' A' vs m,s'.heap.Ns C m->H' D=gV->D≠C->C≠X.env.locals->C∉X.fs->H' C=gV->X.s₀.heap.objs.size<=C->(∀x c,X.env.cells.lookup x=bt c->c≠C)->(∀p∈X.pn++J,p.1≠C)->
   Inv X J Y (ay H' D (.lst vs)) s'->Ext X.K A H A' H'->StoreOk X.w X.K A' H' S'->RelL X.K A' H' ws vs->RR (.ref D) C (.ok .next) s') :
  wpAny (model X.prog X.w) X.A (newList []) (λacc s₃=>wpAny (model X.prog X.w) X.A (newFunctionEnv scope X.env.globals cl [] X.env.qual gV .none (bt X.env)) (λcenv s₄=>
   codeAny (model X.prog X.w) X.A (.compStart (.ListComp elt [#[tg,iter,ifs,0]] scope pos) 0 (.ref it) acc { cenv with scope:=relabel scope X.env }) (RR acc cenv.locals) s₄) E s₃) E s:=by
 show KI (nW ?_);dsimp only;generalize hH2:s.heap.push { cls:=.type "list",dict:=gV,data:=.seq ([]:JS JU).toArray }=h2;obtain⟨h₁,hh₁⟩ : ∃h₁,h₁=pushCells (h2.push { cls:=.type "dict",data:=.dict #[] }) scope.names:=#[_,rfl];rw[<- hh₁];have hns₁:=wk (names:=scope.names) (h2:=h2);rw[<- hh₁]at hns₁;have hCs:h2.objs.size=s.heap.objs.size+1:=by rw[<- hH2,Li]
 have k2:∀b o,s.heap.get? b=bt o->h2.get? b=bt o:=λb o z=>hH2 ▸ JW _ z
 have lt2:∀b o,h2.get? b=bt o->b < h2.objs.size:=λb o z=>J8 z
 have k1:∀b o,h2.get? b=bt o->h₁.get? b=bt o:=λb o z=>hh₁ ▸ O5 _ _ b o (JW _ z)
 have hD2:h2.get? s.heap.objs.size=bt { cls:=.type "list",data:=.seq ([]:JS JU).toArray }:=hH2 ▸ J7 _ rfl;have hDC:s.heap.objs.size≠h2.objs.size:=by rw[hCs]; omega
 have fresh:∀a,s.heap.objs.size<=a->H a=gV:=λa ha=>I.hok.fresh ha
 have cellLt:∀x c,X.env.cells.lookup x=bt c->c < s.heap.objs.size:=λx c z=>let ⟨_,q⟩:=I.cell x c z; q.lt
 have fpLt:∀b∈fp,b < s.heap.objs.size:=λb hb=>let ⟨_,q,_⟩:=T.obj 0 s.heap t0 b hb; J8 q
 have stkLt:∀b∈kF X.stack,b < s.heap.objs.size:=λb hb=>let ⟨_,o,q,_⟩:=I.stack.mem hb; J8 q
 have baseLt:∀b o,X.base.get? b=bt o->b < s.heap.objs.size:=λb o z=>J8 (I.bk b o z)
 have fpStk:∀b∈fp,b∉kF X.stack:=λb hb z=>by
  rcases J5.mp (I.stkSub b z)with q|q
  ·exact(hfp b hb).2.1 q
  ·exact(hfp b hb).2.2.1 q
 have fpBase:∀b∈fp,∀o,X.base.get? b≠bt o:=λb hb o z=>by
  rcases(hfp b hb).2.2.2.1 with q|q
  ·exact I.ok.noex b o z q
  ·exact absurd (Km (J8 (I.ok.bs b o z).1) q) (Lq _)
 have ltD:∀ {b:td},b < s.heap.objs.size->b < h2.objs.size:=λhb=>by rw[hCs]; exact Lz hb
 have ltC:∀ {b:td},b < s.heap.objs.size->b≠h2.objs.size:=λhb=>Kj (ltD hb)
 have ownNe:∀ {b c:td},b<=s.heap.objs.size->h2.objs.size+1<=c->c≠b:=λhb hc=>KW (PZ hb (Km (by rw[hCs]; omega:s.heap.objs.size < h2.objs.size+1) hc))
 let s3:JV:={ s with heap:=h2 }
 have ok':(ko X scope cl h2.objs.size N s3 H (fp++[s.heap.objs.size])).Ok:=by
  show Dh I ck (show s.heap.objs.size<=h2.objs.size by rw[hCs]; omega) (J9 _) (λx c z=>Lz (ltD (cellLt x c z))) k2 λb hb=>?_
  rcases KU.mp hb with hb|hb
  ·exact#[ltD (fpLt b hb),(hfp b hb).2.2.2.2.1,fpBase b hb,fpStk b hb]
  ·have eb:b=s.heap.objs.size:=by simpa using hb
   subst eb;exact#[(by rw[hCs]; exact K4 _),λx c z=>Kj (cellLt x c z),λo z=>Lq _ (baseLt _ o z),λz=>Lq _ (stkLt _ z)]
 obtain⟨m0,hn0,hl0⟩:=I.loc;have I0:Inv (ko X scope cl h2.objs.size N s3 H (fp++[s.heap.objs.size])) [] (cap.map λo=>match o with|some j=>(Y[j]?).join|none=>gV) H { s3 with heap:=h₁ }:=by
  show#[ok',rfl,I.bare,Un.kept k1,#[_,hns₁,λi x v e1 e2 e3=>?_],λx cc z=>?_,fresh _ (show s.heap.objs.size<=h2.objs.size by rw[hCs]; exact Mk _),λx cc z=>(ck.of z).elim (I.freeC x cc) λq=>fresh _ (show s.heap.objs.size<=cc by omega),λp hp=>absurd hp (by simp[ko]),(I.hok.kept k2).kept k1,by rw[J6]; exact ck.len]
  ·rw[KA]at e2;cases q:cap[i]? with
   | none=>rw[q]at e2; cases e2
   | some oj=>
    rw[q]at e2;cases oj with
    | none=>cases e2
    | some j=>
     obtain⟨z1,z2,z3,z4⟩:=ck.cap i j x q e1;have e2':(Y[j]?).join=bt v:=by simpa using e2
     have e2'':Y[j]?=bt (bt v):=by
      cases r:Y[j]? with
      | none=>rw[r]at e2'; cases e2'
      | some y=>rw[r]at e2'; exact congrArg bt e2'
     obtain⟨u,ru,lk⟩:=hl0 j x v z1 e2'' (by
      rcases z2 with z|z
      ·exact .inr (.inl z)
      ·exact .inr (.inr z))
     show#[u,ru,?_];rcases lk with⟨zk,_⟩|⟨_,cc,zc,zi⟩
     ·rcases z2 with z|z <;> (rw[zk]at z; cases z)
     ·obtain⟨c2,hc2⟩:=ck.has (h2.objs.size+1) x z3;have:=(dg _ _ _ hc2).elim (λq=>ck.sub x c2 q.1) λq=>absurd q.2.1 z4
      rw[zc]at this; cases this
      show .inr #[z3,cc,hc2,?_];obtain⟨o,ho,hd⟩:=zi;exact#[o,k1 _ _ (k2 _ _ ho),hd]
  ·rcases dg _ _ _ z with q|q
   ·obtain⟨v,o,ho,hd⟩:=I.cell x cc (ck.sub x cc q.1);exact#[v,o,k1 _ _ (k2 _ _ ho),hd]
   ·exact#[gV,hh₁ ▸ q.2.2 _ (Li ..)]
 have er0:EnvRel X.K A H (eD cap Z) (cap.map λo=>match o with|some j=>(Y[j]?).join|none=>gV):=by
  show#[by simp[eD],λi w q=>?_]
  unfold eD at q;rw[KA]at q ⊢;cases r:cap[i]? with
  | none=>rw[r]at q; cases q
  | some oj=>
   rw[r]at q;cases oj with
   | none=>cases q
   | some j=>
    have q':(Z[j]?).join=bt w:=by simpa using q
    have q'':Z[j]?=bt (bt w):=by
     cases z:Z[j]? with
     | none=>rw[z]at q'; cases q'
     | some y=>rw[z]at q'; exact congrArg bt q'
    obtain⟨v,z1,z2⟩:=er.2 j w q'';exact#[v,by simp[z1],z2]
 have t1:tn 0 h₁:=T.keep 0 s.heap h₁ t0 λb hb o z=>k1 b o (k2 b o z)
 have fpOk':∀ {H':Hp} {pp:JS (td×Ll)},(∀b∈fp,H' b=gV)->(∀p∈pp,p.1=s.heap.objs.size)->∀b∈fp,fK (ko X scope cl h2.objs.size N s3 H (fp++[s.heap.objs.size])) pp H' b:=λhn hp b hb=>
  #[hn b hb,ltC (fpLt b hb),fpStk b hb,.inl (Le _ hb),λx cc z=>(ck.of z).elim (λq=>(hfp b hb).2.2.2.2.1 x cc q) (ownNe (Mr (fpLt b hb))),λp hpp=>by
   rw[hp p (by simpa [ko]using hpp)]
   exact(Kj (fpLt b hb)).symm]
 have DinEx:s.heap.objs.size∈fp++[s.heap.objs.size]:=Ku _ (by simp)
 have cellD:∀x c,(cellsFrom (h2.objs.size+1) scope.names cl).lookup x=bt c->c≠s.heap.objs.size:=λx cc z=>(ck.of z).elim (λq=>Kj (cellLt x cc q)) (ownNe (J9 _))
 have fpD:∀b∈fp,b≠s.heap.objs.size:=λb hb=>Kj (fpLt b hb)
 have theEnd:∀s' Y' H' A' vs its nn,Inv (ko X scope cl h2.objs.size N s3 H (fp++[s.heap.objs.size])) [] Y' H' s'->s'.heap.get? s.heap.objs.size=bt { cls:=.type "list",data:=.seq its nn }->∀(hits:∃l:JS JU,its=l.toArray/\Vals vs l),H' s.heap.objs.size=gV->Ext X.K A H A' H'->StoreOk X.w X.K A' H' S'->RelL X.K A' H' ws vs->
   RR (.ref s.heap.objs.size) h2.objs.size (.ok .next) s':=by
  intro s' Y' H' A' vs its nn I' hD hits hDn ex so' rl;obtain⟨l,rfl,rv⟩:=hits;obtain⟨m,hn,_⟩:=id I'.loc;have un:Un (kF X.stack) (fp++[s.heap.objs.size]) H H' s.heap s'.heap:=(Un.kept k2).trans I'.base;have hch:∀b∈fp++[s.heap.objs.size],(b∈X.ex\/X.s₀.heap.objs.size<=b)/\b≠X.env.locals/\(∀x c,X.env.cells.lookup x=bt c->c≠b)/\∀p∈X.pn++J,p.1≠b:=λb hb=>by
   rcases KU.mp hb with hb|hb
   ·exact#[(hfp b hb).2.2.2.1,(hfp b hb).2.1,(hfp b hb).2.2.2.2.1,(hfp b hb).2.2.2.2.2]
   ·have eb:b=s.heap.objs.size:=by simpa using hb
    subst eb;exact#[.inr I.sz,(Kj I.lt).symm,λx cc z=>Kj (cellLt x cc z),λp hp=>Kj (J8 (I.pin p hp).1)]
  have I2:Inv X J Y H' s':=I.call' (show s'.os=s.os from I'.os) un I'.hok I'.bare hch
  have I3:Inv X J Y (ay H' s.heap.objs.size (.lst vs)) s':=Inv.adopt I2 hDn (hch _ DinEx).1 (hch _ DinEx).2.1 (hch _ DinEx).2.2.1 (hch _ DinEx).2.2.2 #[by rw[<- rl.length]; exact hz,l,nn,rv,hD]
  have hCle:s.heap.objs.size<=h2.objs.size:=by rw[hCs]; exact Mk _
  exact fin _ _ s' H' A' vs m hn hDn hDC (KW (Km I.lt hCle)) (I.nofs hCle) I'.free (Kx I.sz hCle) (λx cc z=>Kj (Km (cellLt x cc z) hCle))
   (λp hp=>Kj (Km (J8 (I.pin p hp).1) hCle)) I3 ex so' rl
 have loop:∀s4:JV,s4={ s3 with heap:=h₁ }->
   codeAny (model X.prog X.w) X.A (.compLoop (.ListComp elt [#[tg,iter,ifs,0]] scope pos) 0 (.ref it) (.ref s.heap.objs.size) (compEnvC scope (cellsFrom (h2.objs.size+1) scope.names cl) h2.objs.size X.env)) (RR (.ref s.heap.objs.size) h2.objs.size) s4:=by
  rintro s4 rfl;show ft (λk s5=>∃i Y5 H5 A5 Z5 S5 done its nn vs ys,Inv (ko X scope cl h2.objs.size N s3 H (fp++[s.heap.objs.size])) [] Y5 H5 s5/\tn i s5.heap/\(∀b∈fp,H5 b=gV)/\s5.heap.get? s.heap.objs.size=bt { cls:=.type "list",data:=.seq (its:JS JU).toArray nn }/\H5 s.heap.objs.size=gV/\Vals vs its/\
   Ext X.K A H A5 H5/\EnvRel X.K A5 H5 Z5 Y5/\StoreOk X.w X.K A5 H5 S5/\RelL X.K A5 H5 done vs/\ws=done++ys/\aW mi g c f k i Z5 S5=bt (ys,S')) ?_ n
   #[0,_,H,A,_,S,[],[],0,[],ws,I0,t1,λb hb=>(hfp b hb).1,k1 _ _ hD2,fresh _ (J9 _),.nil,.refl,er0,so,.nil,rfl,e]
  rintro k s5 ⟨i,Y5,H5,A5,Z5,S5,done,its,nn,vs,ys,I5,t5,f5,d5,n5,v5,e5,er5,so5,rl5,hw5,w5⟩;have pinD:Inv (ko X scope cl h2.objs.size N s3 H (fp++[s.heap.objs.size])) [(s.heap.objs.size,{ cls:=.type "list",data:=.seq its.toArray nn })] Y5 H5 s5:=I5.pins_of λp hp=>by
   have hp':p=(s.heap.objs.size,{ cls:=.type "list",data:=.seq its.toArray nn }):=by simpa using hp
   subst hp';exact#[d5,n5,hDC,λz=>Lq _ (stkLt _ z),λv z=>by cases z]
  have oneD:∀p∈[(s.heap.objs.size,({ cls:=.type "list",data:=.seq its.toArray nn }:Ll))],p.1=s.heap.objs.size:=λp hp=>by
   have hp':p=(s.heap.objs.size,{ cls:=.type "list",data:=.seq its.toArray nn }):=by simpa using hp
   rw[hp']
  cases k with
  | zero=>
   dsimp only[aW]at w5;split at w5
   ·rename_i hst;cases w5;rw[Lu]at hw5;subst hw5;show aD (T.done (ko X scope cl h2.objs.size N s3 H (fp++[s.heap.objs.size])) rfl rfl rfl hc i _ s5 Y5 H5 _ pinD (fpOk' f5 oneD) t5 (mit.stop A5 H5 _ i e5 so5 hst)) λr s6 #[hr,I6]=>?_
    subst hr;have p6:=I6.pin _ (Ku _ (Ky.mpr rfl));exact theEnd s6 Y5 H5 A5 vs _ nn (I6.pins_of λp hp=>absurd hp (by simp)) p6.1 #[its,rfl,v5] n5 e5 so5 rl5
   ·cases w5
  | succ k=>
   dsimp only[aW]at w5;split at w5
   ·rename_i w hw;obtain⟨go,yl⟩:=mit.go A5 H5 S5 i w e5 so5 hw;show aD (T.item (ko X scope cl h2.objs.size N s3 H (fp++[s.heap.objs.size])) rfl rfl rfl hc i _ s5 Y5 H5 _ pinD (fpOk' f5 oneD) t5 go) λr s6 #[u,hr,h6]=>?_
    subst hr;show aD h6 λ_ s7 #[x,H7,I7,r7,y7,t7,f7]=>?_
    obtain⟨x1,x2,x3⟩:=yl x H7 y7;have I7':=I7.pinned (fpOk' f7 oneD) (T.obj _ _ t7);split at w5
    ·rename_i Z8 S8 h8;show aD (bk.tgt _ _ _ _ _ s7 Y5 H7 x u (λY' H'=>∃A',Ext X.K A5 H5 A' H'/\StoreOk X.w X.K A' H' S8/\EnvRel X.K A' H' Z8 Y') I7' r7 #[A5,Z5,S5,w,Z8,S8,er5.mono x1,x2,x3,h8,λY' H' A' q1 q2 q3=>#[A',x1.trans q1,q2,q3]]) λ_ s8 #[Y8,H8,I8,A8,e58,so8,er8]=>?_
     have e8:Ext X.K A H A8 H8:=e5.trans e58;have pD:∀ {Y':L2.St} {H':Hp} {s':JV},Inv (ko X scope cl h2.objs.size N s3 H (fp++[s.heap.objs.size])) ([(s.heap.objs.size,{ cls:=.type "list",data:=.seq its.toArray nn })]++gT fp s7.heap) Y' H' s'->s'.heap.get? s.heap.objs.size=bt { cls:=.type "list",data:=.seq its.toArray nn }/\H' s.heap.objs.size=gV:=λI'=>
      let q:=I'.pin _ (Ku _ (Le _ (Ky.mpr rfl)))
      #[q.1,q.2.1]
     have pF:∀ {Y':L2.St} {H':Hp} {s':JV},Inv (ko X scope cl h2.objs.size N s3 H (fp++[s.heap.objs.size])) ([(s.heap.objs.size,{ cls:=.type "list",data:=.seq its.toArray nn })]++gT fp s7.heap) Y' H' s'->(∀b∈fp,H' b=gV)/\∀b∈fp,∀o,s7.heap.get? b=bt o->s'.heap.get? b=bt o:=λI'=>
      #[λb hb=>by
       obtain⟨o,eo,_⟩:=T.obj _ _ t7 b hb;exact(I'.pin (b,o) (Ku _ (Ku _ (dy hb eo)))).2.1,
       λb hb o eo=>(I'.pin (b,o) (Ku _ (Ku _ (dy hb eo)))).1]
     split at w5
     ·rename_i S9 h9;show aD (bk.tst _ _ _ _ _ s8 Y8 H8 (λb H'=>b=true/\∃A',Ext X.K A8 H8 A' H'/\StoreOk X.w X.K A' H' S9) I8 #[A8,Z8,S8,true,S9,er8,so8,h9,λb H' #[z0,A',z1,z2]=>#[z0,A',z1,z2]]) λb s9 #[H9,I9,z0,A9,e9,so9]=>?_
      subst z0;rw[Ks rfl];split at w5
      ·rename_i y S10 h10;split at w5
       ·rename_i ys' S4 h11;cases w5;show aD (bk.elt _ _ _ _ _ s9 Y8 H9 (EndV X.w X.K A9 H9 S10 y) I9 #[A9,Z8,S9,y,S10,er8.mono e9,so9,h10,λ_ _ z=>z]) λu10 s10 #[v10,H10,I10,r10,A10,e10,so10,rl10]=>?_
        obtain⟨d10,n10⟩:=pD I10;obtain⟨f10,k10⟩:=pF I10;have hlen:its.length < sizeLine:=by
         have l1:=v5.length;have l2:=rl5.length;rw[hw5,Kb,KJ]at hz;omega
        show l8 d10 hlen λh' n' hd' hk'=>?_
        have Ib:Inv (ko X scope cl h2.objs.size N s3 H (fp++[s.heap.objs.size])) [] Y8 H10 { s10 with heap:=h' }:=by
         have Ia:Inv (ko X scope cl h2.objs.size N s3 H (fp++[s.heap.objs.size])) [] Y8 H10 s10:=I10.pins_of λp hp=>absurd hp (by simp)
         exact Ia.turned (t':=s10.toks) (it:=s.heap.objs.size) hk' n10 hDC (.inl DinEx) cellD (λp hp=>absurd hp (by simp[ko]))
        show#[k,K4 k,i+1,Y8,H10,A10,Z8,S10,done++[y],its++[u10],n',vs++[v10],ys',Ib,?_,f10,hd',n10,v5.append #v[r10],(e8.trans e9).trans e10,(er8.mono e9).mono e10,so10,?_,?_,h11]
        ·exact T.keep (i+1) s7.heap h' t7 λb hb o eo=>hk' b o (fpD b hb) (k10 b hb o eo)
        ·exact(rl5.mono ((e58.trans e9).trans e10)).append #v[rl10]
        ·rw[hw5,OD]; rfl
       ·cases w5
      ·cases w5
     ·rename_i S9 h9;show aD (bk.tst _ _ _ _ _ s8 Y8 H8 (λb H'=>b=false/\∃A',Ext X.K A8 H8 A' H'/\StoreOk X.w X.K A' H' S9) I8 #[A8,Z8,S8,false,S9,er8,so8,h9,λb H' #[z0,A',z1,z2]=>#[z0,A',z1,z2]]) λb s9 #[H9,I9,z0,A9,e9,so9]=>?_
      subst z0;rw[Kv Kg];obtain⟨d9,n9⟩:=pD I9;obtain⟨f9,k9⟩:=pF I9;show#[k,K4 k,i+1,Y8,H9,A9,Z8,S9,done,its,nn,vs,ys,I9.pins_of λp hp=>absurd hp (by simp),T.keep (i+1) s7.heap _ t7 k9,f9,d9,n9,v5,e8.trans e9,er8.mono e9,so9,rl5.mono (e58.trans e9),hw5,w5]
     ·cases w5
    ·cases w5
   ·cases w5
 exact codeAny_compStart_list (loop _ rfl) (T.self X.A 0 _ _ _ t1 (loop _ rfl))
def nX {fi:FI}{g:FG}{c:FT}{f:FE}{cap:JS (JX J4)}{Z:Fm}{S:aa}{w:W}{S':aa}(e:jI fi g c f cap Z S=bt (w,S')) :
  ∃mi S1 n ys S2,fi Z S=bt (mi,S1)/\mi.len S1=bt n/\aW mi g c f n 0 (eD cap Z) S1=bt (ys,S2)/\ys.length<=sizeLine/\w=.ref S2.length/\S'=S2++[.lst ys]:=by
 unfold jI at e;split at e
 ·rename_i mi S1 h1;split at e
  ·rename_i n h2;split at e
   ·rename_i ys S2 h3;obtain⟨h4,h5,h6⟩:=iJ e;exact#[mi,S1,n,ys,S2,h1,h2,h3,h4,h5,h6]
   ·cases e
  ·cases e
 ·cases e
def z9 {scope:MM}{N:JS J3}{cap:JS (JX J4)}{tg elt iter:Kd}{ifs:JS Kd}{fi:FI}{g:FG}{c:FT}{f:FE}{pos:LG}(hc:X.calm=true)(hi:GI X tg iter fi)(hck:X.Ok->∃cl,CompOk X scope cl N cap/\BlockOk X scope cl N tg elt ifs g c f)
  (hs:∀x,foldedSetIterable iter X.env x=pure x):GE X (.ListComp elt [#[tg,iter,ifs,0]] scope pos) (jI fi g c f cap):=by
 intro J s Y H Q I ⟨A,Z,S,w,S',er,so,e,hq⟩;obtain⟨mi,S1,n,ys,S2,h1,h2,h3,h4,rfl,rfl⟩:=nX e;obtain⟨cl,ck,bk⟩:=hck I.ok;rw[eval_ListComp];show OI (use:=gV) rfl hs ck.clos ck.kind ck.names (aD (hi J s Y H (λtx H'=>∃A',Ext X.K A H A' H'/\StoreOk X.w X.K A' H' S1/\MIt X.w X.K mi tx A' H') I #[A,Z,S,mi,S1,er,so,h1,λtx H' A' z1 z2 z3=>#[A',z1,z2,z3]]) λv s1 q1=>aD q1 λitv s2 q2=>?_)
 obtain⟨it,fp,tn,tx,H2,rfl,I2,T,t0,hfp,A2,e2,so2,mit⟩:=q2;show lh (RR:=λacc C=>compPost (model X.prog X.w) X.A X.xe gV (EP X J Y Q) acc C) I2 hc (er.mono e2) so2 ck bk T t0 hfp mit h3 h4 ?_
 intro D C s' H' A' vs m hn hDn hDC hCL hCf hCn hCs hCc hCp I3 ex so3 rl;show#[m,hn,λh' hs'=>?_]
 have I4:Inv X J Y (ay H' D (.lst vs)) { s' with heap:=h' }:=I3.turned (t':=s'.toks) (it:=C) (λb o hb eo=>hs'.extBut b o hb eo) (by rw[aj (Ne.symm hDC)]; exact hCn) hCL (.inr hCs) hCc hCp
 exact#[.ref D,_,I4,rfl,hq _ _ (EndV.after (e2.trans ex) (.lst so3 rl hDn))]
def pT {scope:MM}{N:JS J3}{cap:JS (JX J4)}{tg elt iter:Kd}{ifs:JS Kd}{fi:FI}{g:FG}{c:FT}{f:FE}{pos py spos:LG}{y:J3}{i:J4}(hc:X.calm=true)(hi:GI X tg iter fi)(hck:X.Ok->∃cl,CompOk X scope cl N cap/\BlockOk X scope cl N tg elt ifs g c f)
  (hs:∀x,foldedSetIterable iter X.env x=pure x) (hsw:swapsWith (.ListComp elt [#[tg,iter,ifs,0]] scope pos) (bt (.Name y py)) spos.line X.env=pure true) (hN:X.N.Nodup) (hy:X.N[i]?=bt y) (hl:X.env.scope.names.lookup y=bt .local) :
  GS X (.Assign [.Name y py] (.ListComp elt [#[tg,iter,ifs,0]] scope pos) spos) (dE (jI fi g c f cap) (zO i)):=by
 intro J s Y H Dd I ⟨A,Z,S,o,S',er,so,e,hd⟩;unfold dE at e;split at e
 ·rename_i w S0 h0;simp only[zO]at e;cases e;obtain⟨mi,S1,n,ys,S2,h1,h2,h3,h4,rfl,rfl⟩:=nX h0;obtain⟨cl,ck,bk⟩:=hck I.ok;rw[exec_Assign_Name_used _ _ _ _ hsw];show JT (MR (JT ?_));change wpAny _ X.A (do let _ <- comprehension (.ListComp elt [⟨tg,iter,ifs,0⟩] scope pos) scope X.env _ (newList []) false (eval iter X.env) (bt (assign (.Name y py) X.env))) _ _ s
  show JT (KO (OI (use:=bt (assign (.Name y py) X.env)) (Q:=λ_ s'=>SP X J Dd .next s') rfl hs ck.clos ck.kind ck.names
   (aD (hi J s Y H (λtx H'=>∃A',Ext X.K A H A' H'/\StoreOk X.w X.K A' H' S1/\MIt X.w X.K mi tx A' H') I #[A,Z,S,mi,S1,er,so,h1,λtx H' A' z1 z2 z3=>#[A',z1,z2,z3]]) λv s1 q1=>aD q1 λitv s2 q2=>?_)) (λ_ s' hq=>JZ (JZ hq)) λ_ _ e=>e)
  obtain⟨it,fp,tn,tx,H2,rfl,I2,T,t0,hfp,A2,e2,so2,mit⟩:=q2;show lh (RR:=λacc C=>compPost (model X.prog X.w) X.A X.xe (bt (assign (.Name y py) X.env)) (λ_ s'=>SP X J Dd .next s') acc C) I2 hc (er.mono e2) so2 ck bk T t0 hfp mit h3 h4 ?_
  intro D C s' H' A' vs m hn hDn hDC hCL hCf hCn hCs hCc hCp I3 ex so3 rl;obtain⟨oC,esC,epC,hoC,hdC,hrC⟩:=id hn;have I3':Inv X (J++[(C,oC)]) Y (ay H' D (.lst vs)) s':=I3.pins_of λp hp=>by
   rcases KU.mp hp with hp|hp
   ·exact I3.pin p (Ku _ hp)
   ·have hp':p=(C,oC):=by simpa using hp
    subst hp';exact#[hoC,by rw[aj (Ne.symm hDC)]; exact hCn,hCL,hCf,λv z=>by rw[hdC]at z; cases z]
  change wpAny _ X.A (assign (.Name y py) X.env (.ref D)) _ _ _;show P6 (cZ I3' hN hy (.inl hl) (v:=.ref D) rfl (λs4 I4=>?_) (.inr hl))
  have pC:=I4.pin (C,oC) (Ku _ (Ku _ (Ky.mpr rfl)));show#[m,#[oC,esC,epC,pC.1,hdC,hrC],λh' hs'=>?_]
  have I5:Inv X J (Y.set i (bt (.ref D))) (ay H' D (.lst vs)) s4:=I4.pins_of λp hp=>I4.pin p (Ku _ (Le _ hp))
  have I6:Inv X J (Y.set i (bt (.ref D))) (ay H' D (.lst vs)) { s4 with heap:=h' }:=I5.turned (t':=s4.toks) (it:=C) (λb o hb eo=>hs'.extBut b o hb eo) (by rw[aj (Ne.symm hDC)]; exact hCn) hCL (.inr hCs) hCc hCp
  obtain⟨Af,f1,f2,f3⟩:=EndV.after (e2.trans ex) (EndV.lst so3 rl hDn);exact#[_,_,I6,hd.nx _ _ #[_,Af,rfl,f1,f2,(er.mono f1).set f3 i]]
 ·cases e
end
open PySem.Builtin.SmallTypes (nextOf)
structure Zap (z p q i j:td):Prop where
 pz:p≠z
 qz:q≠z
 iz:i≠z
 jz:j≠z
 pq:p≠q
 pi:p≠i
 pj:p≠j
 qi:q≠i
 qj:q≠j
 ij:i≠j
section
variable{prog:Ke}{w:Kr}
structure Zit (prog:Ke)(w:Kr)(it:td)(T:J4->KB->Prop)(C:KB->Prop)(i:J4)(Uq:JX (JU->Prop)):Prop where
 keep:∀j h h',T j h->(∀o,h.get? it=bt o->h'.get? it=bt o)->T j h'
 next:∀V,Uq=bt V->∀(B:Kw) (s:JV) (Q:JU->JV->Prop) (E:JU->JV->Prop),T i s.heap->C s.heap->(∀u h' tk,V u->T (i+1) h'->LW it s.heap h'->Q u { s with heap:=h',toks:=tk })->wpAny (model prog w) B (nextOf (.ref it)) Q E s
 stop:Uq=gV->∀(B:Kw) (s:JV) (Q:JU->JV->Prop) (E:JU->JV->Prop),B.handled=gV->T i s.heap->C s.heap->(∀h' e,Pi it s.heap h'->(∃o,h'.get? e=bt o/\o.cls=.type "StopIteration")->E (.ref e) { s with heap:=h' })->wpAny (model prog w) B (nextOf (.ref it)) Q E s
variable{B:Kw}{E:JU->JV->Prop}{s:JV}{z p q i1 i2:td}{T1 T2:J4->KB->Prop}{C1 C2:KB->Prop}{i:J4}{a b:JU}
abbrev Zc (z q i1 i2:td)(C:KB->Prop):Prop:=∀h h',C h->(∀c o,c≠z->c≠q->c≠i1->c≠i2->h.get? c=bt o->h'.get? c=bt o)->C h'
def jJ {U1 U2:JX (JU->Prop)}{Q:JU->JV->Prop}(D:Zap z p q i1 i2)(Zz:Zit prog w i1 T1 C1 i U1)(Z2':∀V1,U1=bt V1->Zit prog w i2 T2 C2 i U2)(k1:Zc z q i1 i2 C1)(k2:Zc z q i1 i2 C2)(hh:B.handled=gV)
  (hz:PJ s.heap z p q .none) (hp:NX s.heap p (.ref i1) (.ref i2)) (hq:NX s.heap q a b) (t1:T1 i s.heap) (t2:T2 i s.heap) (c1:C1 s.heap) (c2:C2 s.heap)
  (hI:∀V1 V2,U1=bt V1->U2=bt V2->∀u v h' tk,V1 u->V2 v->PJ h' z p q (rawInt s.heap.objs.size)->NX h' q u v->T1 (i+1) h'->T2 (i+1) h'->NX h' s.heap.objs.size u v->
   (∀c o,c≠z->c≠q->c≠i1->c≠i2->s.heap.get? c=bt o->h'.get? c=bt o)->Q (.ref s.heap.objs.size) { s with heap:=h',toks:=tk })
  (hE:U1=gV\/U2=gV->∀h' tk e,(∀c o,c≠z->c≠q->c≠i1->c≠i2->s.heap.get? c=bt o->h'.get? c=bt o)->(∃o,h'.get? e=bt o/\o.cls=.type "StopIteration")->E (.ref e) { s with heap:=h',toks:=tk }) :
  wpAny (model prog w) B (Mm.«zip.__next__» #[[.ref z],[]]) (λfin s'=>∃v,fin=.done (.ret v)/\Q v s') E s:=by
 change wpAny _ _ (field (.ref z) 2 >>= _) _ _ s;show JT (K9 hz rfl (x:=.bool false) rfl ?_);change wpAny _ _ (field (.ref z) 3 >>= _) _ _ s;show JT (K9 hz rfl (x:=.ref p) rfl (JT (MB hp rfl ?_)));change wpAny _ _ (LO (.ref z) >>= _) _ _ s;unfold LO;show JT (JT (K9 hz rfl (x:=.none) rfl (JZ ?_)));simp only[MY];show JT (M9 (JT (K9 hz rfl (x:=.ref q) rfl ?_)));show JT (MA hz (by simp) λg1 zz1 s1=>?_)
 replace zz1:PJ g1 z p q .ellipsis:=zz1;show JT ?_;simp only[List.zipIdx_cons,List.zipIdx_nil,N4,Oq];show JT (JT (PF ?_));change wpAny _ _ (nextOf (.ref i1) >>= _) _ _ _;have up1:∀c o,c≠z->s.heap.get? c=bt o->g1.get? c=bt o:=λc o hc e=>s1.extBut c o hc e
 have t1':T1 i g1:=Zz.keep _ _ _ t1 λo e=>up1 _ _ D.iz e
 have c1':C1 g1:=k1 _ _ c1 λc o hc _ _ _ e=>up1 c o hc e
 have fin:∀(g:KB) (tk:J4) (it e:td),(it=i1\/it=i2)->U1=gV\/U2=gV->PJ g z p q .ellipsis->(∀c o,c≠z->c≠q->c≠i1->c≠i2->s.heap.get? c=bt o->g.get? c=bt o)->(∃o,g.get? e=bt o/\o.cls=.type "StopIteration")->
   wpAny (model prog w) B (setField (.ref z) 0 .none) (λ_ s''=>E (.ref e) s'') E { s with heap:=g,toks:=tk }:=λg tk it e _ hu gz kg #[oe,he,hc]=>by
  have ne:e≠z:=λx=>by subst x; rw[gz]at he; cases he; simp at hc
  exact MA gz (by simp) λg' _ sb=>hE hu g' tk e (λc o a1 a2 a3 a4 x=>sb.extBut _ _ a1 (kg c o a1 a2 a3 a4 x)) #[oe,sb.extBut _ _ ne he,hc]
 cases hu1:U1 with
 | none=>
  show JT (Zz.stop hu1 _ _ _ _ hh t1' c1' λg2 e eb he=>?_)
  exact fin g2 s.toks i1 e (.inl rfl) (.inl hu1) (eb _ _ D.iz.symm zz1) (λc o a1 _ a3 _ x=>eb _ _ a3 (up1 c o a1 x)) he
 | some V1=>
  have Zq:=Z2' V1 hu1;show JT (Zz.next V1 hu1 _ _ _ _ t1' c1' λu g2 tk2 hu t12 s2=>JZ ?_)
  have q2:NX g2 q a b:=s2.extBut _ _ D.qi (up1 _ _ D.qz hq);show JT (MB q2 rfl (JT (Pm q2 λg3 q3 s3=>?_)))
  replace q3:NX g3 q u b:=q3;show JT (Pk (JZ ?_));show JT (JT (PF ?_));change wpAny _ _ (nextOf (.ref i2) >>= _) _ _ _;have up3:∀c o,c≠z->c≠q->c≠i1->s.heap.get? c=bt o->g3.get? c=bt o:=λc o a1 a2 a3 x=>s3.extBut _ _ a2 (s2.extBut _ _ a3 (up1 c o a1 x))
  have zz3:PJ g3 z p q .ellipsis:=s3.extBut _ _ D.qz.symm (s2.extBut _ _ D.iz.symm zz1);have t2':T2 i g3:=Zq.keep _ _ _ t2 λo e=>up3 _ _ D.jz D.qj.symm D.ij.symm e
  have c2':C2 g3:=k2 _ _ c2 λc o a1 a2 a3 _ e=>up3 c o a1 a2 a3 e
  cases hu2:U2 with
  | none=>
   show JT (Zq.stop hu2 _ _ _ _ hh t2' c2' λg4 e eb he=>?_)
   exact fin g4 tk2 i2 e (.inr rfl) (.inr hu2) (eb _ _ D.jz.symm zz3) (λc o a1 a2 a3 a4 x=>eb _ _ a4 (up3 c o a1 a2 a3 x)) he
  | some V2=>
   show JT (Zq.next V2 hu2 _ _ _ _ t2' c2' λv g4 tk4 hv t24 s4=>JZ ?_)
   have q4:NX g4 q u b:=s4.extBut _ _ D.qj q3;show JT (MB q4 rfl (JT (Pm q4 λg5 q5 s5=>?_)))
   replace q5:NX g5 q u v:=q5;show JT (Pk (JZ (JZ ?_)));show JT (MB q5 rfl (JT (Pf ?_)));have sz:g5.objs.size=s.heap.objs.size:=by rw[s5.1,s4.1,s3.1,s2.1,s1.1]
   have zz5:PJ g5 z p q .ellipsis:=s5.extBut _ _ D.qz.symm (s4.extBut _ _ D.jz.symm zz3);have t15:T1 (i+1) g5:=Zz.keep _ _ _ t12 λo e=>s5.extBut _ _ D.qi.symm (s4.extBut _ _ D.ij (s3.extBut _ _ D.qi.symm e))
   have t25:T2 (i+1) g5:=Zq.keep _ _ _ t24 λo e=>s5.extBut _ _ D.qj.symm e
   have zlt:z < g5.objs.size:=J8 zz5;change wpAny _ _ (Mq (.ref z) (.ref g5.objs.size) >>= _) _ _ _;show JT ?_;unfold Mq;have zz6:PJ (g5.push { cls:=.type "tuple",data:=.seq [u,v].toArray }) z p q .ellipsis:=JW _ zz5;show JT (MA zz6 (by simp) λg7 zz7 s7=>?_)
   replace zz7:PJ g7 z p q (rawInt g5.objs.size):=zz7;show MA zz7 (by simp) λg8 zz8 s8=>?_
   replace zz8:PJ g8 z p q (rawInt g5.objs.size):=zz8;have up8:∀c o,c≠z->g5.get? c=bt o->g8.get? c=bt o:=λc o hc e=>s8.extBut _ _ hc (s7.extBut _ _ hc (JW _ e))
   have n8:NX g8 g5.objs.size u v:=s8.extBut _ _ (KW zlt) (s7.extBut _ _ (KW zlt) (J7 _ rfl));rw[sz]at zz8 n8;show JZ #[_,rfl,?_];change Q (.ref g5.objs.size) _;rw[sz];exact hI V1 V2 hu1 hu2 u v g8 tk4 hu hv zz8 (up8 _ _ D.qz q5) (Zz.keep _ _ _ t15 λo e=>up8 _ _ D.iz e) (Zq.keep _ _ _ t25 λo e=>up8 _ _ D.jz e) n8 λc o a1 a2 a3 a4 e=>up8 c o a1 (s5.extBut _ _ a2 (s4.extBut _ _ a4 (up3 c o a1 a2 a3 e)))
end
end Mi
namespace Mi
open PySem PySem.Spec PyProof.Rows L2
open PySem.Builtin.SmallTypes (nextOf)
abbrev cQ (prog:Ke)(w:Kr)(v:JU)(o:Ll)(C:KB->Prop):Prop:=∀(B:Kw) (s:JV) (Q:JU->JV->Prop) (E:JU->JV->Prop),C s.heap->Q (.ref s.heap.objs.size) { s with heap:=s.heap.push o }->wpAny (model prog w) B (pyIter v) Q E s
abbrev FL (h:KB)(o1 o2:Ll):KB:=(h.push o1).push o2
abbrev FM (h:KB)(o1 o2:Ll):KB:=(FL h o1 o2).push { cls:=.type "tuple",data:=.seq [.ref h.objs.size,.ref (h.push o1).objs.size].toArray }
abbrev FN (h:KB)(o1 o2:Ll):KB:=(FM h o1 o2).push { cls:=.type "tuple",data:=.seq [.none,.none].toArray }
abbrev Br (h:KB)(o1 o2:Ll):KB:=(FN h o1 o2).push { cls:=.type "zip",data:=.fields [.none,.bool false,.bool false,.ref (FL h o1 o2).objs.size,.ref (FM h o1 o2).objs.size].toArray }
section
variable{prog:Ke}{w:Kr}{B:Kw}{E:JU->JV->Prop}{s:JV}{v1 v2:JU}{o1 o2:Ll}{C1 C2:KB->Prop}
def pU (h1:cQ prog w v1 o1 C1)(h2:cQ prog w v2 o2 C2)(k2:∀h o,C2 h->C2 (h.push o)) :
  MeetsIn prog w (Mm.«zip.__new__» #[[.type "zip",v1,v2],[]]) (λ_ R s=>C1 s.heap/\C2 s.heap/\R (.ok (.ret (.ref (FN s.heap o1 o2).objs.size))) { s with heap:=Br s.heap o1 o2 }):=
 .of_wp λA R s h=>by
  obtain⟨hp,g,d,tk,os⟩:=s;obtain⟨c1,c2,h⟩:=h;have hsub:=sub_zip;have d1:∀(B:Kw) (Q:JU->JV->Prop) (E:JU->JV->Prop),Q (.ref hp.objs.size) #[hp.push o1,g,d,tk,os]->wpAny (model prog w) B (pyIter v1) Q E #[hp,g,d,tk,os]:=λB Q E q=>h1 B #[hp,g,d,tk,os] Q E c1 q
  have d2:∀(B:Kw) (Q:JU->JV->Prop) (E:JU->JV->Prop),Q (.ref (hp.push o1).objs.size) #[(hp.push o1).push o2,g,d,tk,os]->wpAny (model prog w) B (pyIter v2) Q E #[hp.push o1,g,d,tk,os]:=λB Q E q=>h2 B #[hp.push o1,g,d,tk,os] Q E (k2 _ _ c2) q
  wp_walk using d1 _ _ _,d2 _ _ _
  exact#[_,rfl,h]
def wl {Q:JU->JV->Prop}(h1:cQ prog w v1 o1 C1)(h2:cQ prog w v2 o2 C2)(k2:∀h o,C2 h->C2 (h.push o))(c1:C1 s.heap)(c2:C2 s.heap)(n1:o1.isFreed=false)(n2:o2.isFreed=false)
  (h:∀h',PJ h' (s.heap.objs.size+4) (s.heap.objs.size+2) (s.heap.objs.size+3) .none->NX h' (s.heap.objs.size+2) (.ref s.heap.objs.size) (.ref (s.heap.objs.size+1))->NX h' (s.heap.objs.size+3) .none .none->
   h'.get? s.heap.objs.size=bt o1->h'.get? (s.heap.objs.size+1)=bt o2->h'.objs.size=s.heap.objs.size+5->(∀c o,s.heap.get? c=bt o->h'.get? c=bt o)->Q (.ref (s.heap.objs.size+4)) { s with heap:=h' }) :
  wpAny (model prog w) B (call (.type "zip") [v1,v2]) Q E s:=by
 show RF F.called_zip #v[] (F.typeCall_zip_2 _ _) (F.newCall_zip_2 _ _) (λobj=>F.args_object_init_3 obj _ _) F.entry_zip_new (pU h1 h2 k2) #[c1,c2,?_]
 have e1:(s.heap.push o1).objs.size=s.heap.objs.size+1:=Li ..;have e2:(FL s.heap o1 o2).objs.size=s.heap.objs.size+2:=by unfold FL; rw[Li,e1]
 have e3:(FM s.heap o1 o2).objs.size=s.heap.objs.size+3:=by unfold FM; rw[Li,e2]
 have e4:(FN s.heap o1 o2).objs.size=s.heap.objs.size+4:=by unfold FN; rw[Li,e3]
 have e5:(Br s.heap o1 o2).objs.size=s.heap.objs.size+5:=by unfold Br; rw[Li,e4]
 have g5:(Br s.heap o1 o2).get? (FN s.heap o1 o2).objs.size=bt _:=J7 _ rfl;have g4:(Br s.heap o1 o2).get? (FM s.heap o1 o2).objs.size=bt _:=JW _ (J7 _ rfl);have g3:(Br s.heap o1 o2).get? (FL s.heap o1 o2).objs.size=bt _:=JW _ (JW _ (J7 _ rfl));have g2:(Br s.heap o1 o2).get? (s.heap.push o1).objs.size=bt o2:=JW _ (JW _ (JW _ (J7 _ n2)));have g1:(Br s.heap o1 o2).get? s.heap.objs.size=bt o1:=JW _ (JW _ (JW _ (JW _ (J7 _ n1))));rw[e2,e3,e4]at g5;rw[e1,e2]at g3;rw[e3]at g4;rw[e1]at g2;change _/\_;rw[e4];exact#[#[_,g5,rfl],h _ g5 g3 g4 g1 g2 e5 λc o x=>JW _ (JW _ (JW _ (JW _ (JW _ x))))]
end
end Mi
namespace Mi
open PySem PySem.Spec PyProof.Rows L2
open PySem.Builtin.SmallTypes (nextOf)
section
variable{prog:Ke}{w:Kr}{A:Kw}{E:JU->JV->Prop}{s:JV}
def FP {it t:td}{i:J4}{items:KP JU}{x:JU}{Q:JU->JV->Prop}(hit:s.heap.IsTupleIter it t i)(ht:s.heap.IsTuple t items)(hx:items[i]?=bt x)
  (hQ:∀h',h'.IsTupleIter it t (i+1)->LW it s.heap h'->Q x { s with heap:=h' }):wpAny (model prog w) A (nextOf (.ref it)) Q E s:=by
 obtain⟨o,ho,hc,hd⟩:=id hit;obtain⟨ot,hot,_,nt,hdt⟩:=ht;unfold OA;show JT (KR (name:=LQ "__next__") hit.typeIs F.slot_tuple_iterator_next (K3 F.slot_tuple_iterator_next hit.typeIs F.entry_tuple_iterator_next ?_ (F.args_tuple_iterator_next_1 _)));change wpAny _ _ (field (.ref it) 0 >>= _) _ _ s;show JT (K9 ho hd (x:=.ref t) rfl ?_);change wpAny _ _ (if (Kl t==K1)=true then _ else _) _ _ s
 rw[Kv (show ¬ ((Kl t==K1)=true)from Kg)]
 change wpAny _ _ (field (.ref it) 1 >>= _) _ _ s;show JT (K9 ho hd (x:=.int i 0) rfl (JT (MB hot hdt ?_)));simp only[Lg,hx];show JT (M2 ho hd (by simp) (JZ #[x,rfl,JZ (hQ _ #[_,Ld _ ho (NR (My hd _)),(Qu ..).trans hc,?_] (MZ ..))]))
 rw[My hd]; simp[rawInt]
def FQ {it t:td}{i:J4}{items:KP JU}{Q:JU->JV->Prop}(hh:A.handled=gV)(hit:s.heap.IsTupleIter it t i)(ht:s.heap.IsTuple t items)(hx:items[i]?=gV)
  (hE:∀h' e,Pi it s.heap h'->(∃o,h'.get? e=bt o/\o.cls=.type "StopIteration")->E (.ref e) { s with heap:=h' }):wpAny (model prog w) A (nextOf (.ref it)) Q E s:=by
 obtain⟨o,ho,hc,hd⟩:=id hit;obtain⟨ot,hot,_,nt,hdt⟩:=ht;unfold OA;show JT (KR (name:=LQ "__next__") hit.typeIs F.slot_tuple_iterator_next (K3 F.slot_tuple_iterator_next hit.typeIs F.entry_tuple_iterator_next ?_ (F.args_tuple_iterator_next_1 _)));change wpAny _ _ (field (.ref it) 0 >>= _) _ _ s;show JT (K9 ho hd (x:=.ref t) rfl ?_);change wpAny _ _ (if (Kl t==K1)=true then _ else _) _ _ s
 rw[Kv (show ¬ ((Kl t==K1)=true)from Kg)]
 change wpAny _ _ (field (.ref it) 1 >>= _) _ _ s;show JT (K9 ho hd (x:=.int i 0) rfl (JT (MB hot hdt ?_)));simp only[Lg,hx];show JT (M9 (JT (M2 ho hd (by simp) ?_)))
 change wpAny _ _ (newExc (.type "StopIteration") [] >>= _) _ _ _;show JT ?_;simp only[newExc,newTuple];show JT (KI ?_ (by size_fits))
 show JT (m:=firstArgMember _ _) (OE (a:=K1) (by first|rfl|(simp only[firstArgMember]; rfl)) (KI ?_ (by size_fits)))
 simp only[raiseNew];show JT (PH ?_)
 first|rw[show A.in1.handled=gV from hh]|rw[hh]
 exact JT (JZ (QZ (hE _ _ (((MZ ..).extBut.push _).push _) #[_,J7 _ rfl,rfl])))
end
inductive Zs where|tup (a:td)|lst (a:td)|txt (x:J3)
abbrev Zs.T (it:td):Zs->J4->KB->Prop
 | .tup a,i,h=>h.IsTupleIter it a i
 | .lst a,i,h=>h.IsListIter it a i
 | .txt x,i,h=>∃t,h.IsStrIter it "str_ascii_iterator" x t i\/h.IsStrIter it "str_iterator" x t i
abbrev Zs.at (K:J2)(H:Hp)(i:J4)(v:V):Zs->Prop
 | .tup a=>∃xs,SqT K H a xs/\xs[i]?=bt v
 | .lst a=>∃xs,SqL K H a xs/\xs[i]?=bt v
 | .txt x=>∃c,x.cps[i]?=bt c/\v=.str #[[c].toArray]
abbrev Zs.out (K:J2)(H:Hp)(i:J4):Zs->Prop
 | .tup a=>∃xs,SqT K H a xs/\xs.length<=i
 | .lst a=>∃xs,SqL K H a xs/\xs.length<=i
 | .txt x=>x.cps.size<=i
def Zs.keep {S:Zs}{it:td}{j:J4}{h h':KB}(t:S.T it j h)(k:∀o,h.get? it=bt o->h'.get? it=bt o):S.T it j h':=by
 cases S with
 | tup a=>exact t.at k
 | lst a=>exact t.at k
 | txt x=>
  obtain⟨tk,t⟩:=t;exact#[tk,t.imp (λ#[o,e,r]=>#[o,k _ e,r]) λ#[o,e,r]=>#[o,k _ e,r]]
section
variable{X:Cx}{J:JS (td×Ll)}{Y:L2.St}{H:Hp}{s:JV}
def wm (I:Inv X J Y H s){a b:td}{o:Ll}(h:X.K.lookup a=bt o)(f:fK X J H b):a≠b:=λz=>by
 subst z;have hb:=I.ok.mod.kin a o h;rcases f.2.2.2.1 with q|q
 ·exact I.ok.noex a o hb q
 ·exact absurd (Km (J8 (I.ok.bs a o hb).1) q) (Lq _)
end
end Mi
namespace Mi
open PySem PySem.Spec PyProof.Rows L2
open PySem.Builtin.SmallTypes (nextOf)
section
variable{X:Cx}{J:JS (td×Ll)}{Y:L2.St}{H:Hp}{s:JV}{h':KB}
def wn {a b:td}{u:HO}(h:Rd H a u)(f:H b=gV):a≠b:=λz=>by
 subst z;rcases h with h|⟨o,h⟩ <;> (rw[f]at h; cases h)
def Inv.turnedL {t':J4}{ch:JS td}(I:Inv X J Y H s)(k:∀b o,b∉ch->s.heap.get? b=bt o->h'.get? b=bt o)(hf:∀b∈ch,fK X J H b):Inv X J Y H { s with heap:=h',toks:=t' }:=by
 have nit:∀b u,H b=bt u->b∉ch:=λb u e z=>by have:=(hf b z).1; rw[e]at this; cases this
 show I.step (g':=s.gens) (d':=s.drawn) (ch:=ch) (λb hb=>?_) (λb o _ _ hc e _=>k b o hc e) (λb o _ _ hc e _=>#[o.slots,k b o hc e]) (λ_ _ _ _ n=>n) (λb o hc e=>#[o,k b o hc e]) (λ_ _ e=>e) (λ_ _ _ e=>e) (λb ps e=>#[#[],by rw[e]; simp]) (λm hm=>?_) (λb u e=>?_) I.bare
 ·obtain⟨_,f1,_,f3,f4,f5⟩:=hf b hb;exact#[f3,f1,f4,f5]
 ·obtain⟨o,es,ep,ho,r⟩:=hm;exact#[o,es,ep,k _ o (λz=>(hf _ z).2.1 rfl) ho,r]
 ·show(I.hok b u e).stay (λc v hc q=>k c v ?_ q) (λ_ q=>q) λ_ _ q=>q
  rcases hc with z|z
  ·rw[z]; exact nit b u e
  ·exact nit c _ z
def Zs.zit {S:Zs}{it z q i1 i2:td}{i:J4}{Uq:JX V}(I:Inv X J Y H s)(hf:∀b∈[z,q,i1,i2],fK X J H b)(g:match Uq with|some v=>S.at X.K H i v|none=>S.out X.K H i) :
  ∃C,Zit X.prog X.w it (S.T it) C i (Uq.map λv u=>RelV v u)/\C s.heap/\Zc z q i1 i2 C:=by
 have zc:∀(a:td) (P:KB->Prop),(∀h h',P h->(∀o,h.get? a=bt o->h'.get? a=bt o)->P h')->(∀b∈[z,q,i1,i2],a≠b)->Zc z q i1 i2 P:=λa P hP hn h h' p k=>
  hP h h' p λo e=>k a o (hn z (by simp)) (hn q (by simp)) (hn i1 (by simp)) (hn i2 (by simp)) e
 have sep:∀ {a:td} {u:HO} {o:Ll} {b:td},(Rd H a u\/X.K.lookup a=bt o)->b∈[z,q,i1,i2]->a≠b:=λh hb=>h.elim (λr=>wn r (hf _ hb).1) λr=>wm I r (hf _ hb)
 cases S with
 | tup a=>
  obtain⟨xs,hq,hx⟩ : ∃xs,SqT X.K H a xs/\(match Uq with|some v=>xs[i]?=bt v|none=>xs.length<=i):=by
   cases Uq <;> exact g
  obtain⟨its,rv,p,_⟩:=I.tuple hq;have hne:∀b∈[z,q,i1,i2],a≠b:=λb hb=>by
   rcases hq with r|⟨o,_,_,r,_⟩
   ·exact wn r (hf b hb).1
   ·exact wm I r (hf b hb)
  show#[λh=>h.IsTuple a its.toArray,#[λj h h' t k=>Zs.keep (S:=.tup a) t k,λV hV B s2 Q E t c hQ=>?_,λhU B s2 Q E hh t c hE=>?_],p,zc a _ (λh h' #[o,e,r] k=>#[o,k _ e,r]) hne]
  ·cases Uq with
   | none=>cases hV
   | some v=>
    cases hV;obtain⟨u,hu,ru⟩:=rv.get hx;exact FP t c (x:=u) (by simpa using hu) λh' t' sb=>hQ u h' s2.toks ru t' sb
  ·cases Uq with
   | some v=>cases hU
   | none=>
    have:=L2.Vals.length rv;have hx':xs.length<=i:=hx;exact FQ hh t c (by simp; omega) hE
 | lst a=>
  obtain⟨xs,hq,hx⟩ : ∃xs,SqL X.K H a xs/\(match Uq with|some v=>xs[i]?=bt v|none=>xs.length<=i):=by
   cases Uq <;> exact g
  obtain⟨its,rv,p,_⟩:=I.list hq;have hne:∀b∈[z,q,i1,i2],a≠b:=λb hb=>by
   rcases hq with r|⟨o,_,_,r,_⟩
   ·exact wn r (hf b hb).1
   ·exact wm I r (hf b hb)
  show#[λh=>h.IsList a its.toArray,#[λj h h' t k=>Zs.keep (S:=.lst a) t k,λV hV B s2 Q E t c hQ=>?_,λhU B s2 Q E hh t c hE=>?_],p.isList,zc a _ (λh h' #[o,e,r] k=>#[o,k _ e,r]) hne]
  ·cases Uq with
   | none=>cases hV
   | some v=>
    cases hV;obtain⟨u,hu,ru⟩:=rv.get hx;exact wpAny_nextOf_list_item t c (x:=u) (by simpa using hu) λh' t' sb=>hQ u h' s2.toks ru t' sb
  ·cases Uq with
   | some v=>cases hU
   | none=>
    have:=L2.Vals.length rv;have hx':xs.length<=i:=hx;exact wpAny_nextOf_list_end hh t c (by simp; omega) hE
 | txt x=>
  show#[λ_=>Rk,#[λj h h' t k=>Zs.keep (S:=.txt x) t k,λV hV B s2 Q E t _ hQ=>?_,λhU B s2 Q E hh t _ hE=>?_],trivial,λ_ _ _ _=>trivial]
  ·cases Uq with
   | none=>cases hV
   | some v=>
    cases hV;obtain⟨c,hc,rfl⟩ : ∃c,x.cps[i]?=bt c/\v=.str #[[c].toArray]:=g;obtain⟨tk,t|t⟩:=t
    ·exact wpAny_nextOf_ascii_item t hc λh' t' sb=>hQ _ h' _ #[_,rfl] #[tk,.inl t'] sb
    ·exact wpAny_nextOf_wide_item t hc λh' t' sb=>hQ _ h' _ #[_,rfl] #[tk,.inr t'] sb
  ·cases Uq with
   | some v=>cases hU
   | none=>
    have hx:x.cps[i]?=gV:=by simpa using(show x.cps.size<=i from g)
    obtain⟨tk,t|t⟩:=t
    ·exact wpAny_nextOf_ascii_end hh t hx hE
    ·exact wpAny_nextOf_wide_end hh t hx hE
end
abbrev Zs.is (K:J2)(H:Hp)(i:J4)(v:V):Zs->Prop
 | .tup a=>∀xs,SqT K H a xs->xs[i]?=bt v
 | .lst a=>∀xs,SqL K H a xs->xs[i]?=bt v
 | .txt x=>∃c,x.cps[i]?=bt c/\v=.str #[[c].toArray]
def Zs.at_is {S:Zs}{X:Cx}{J:JS (td×Ll)}{Y:L2.St}{H:Hp}{s:JV}{i:J4}{v:V}(I:Inv X J Y H s)(h:S.at X.K H i v):S.is X.K H i v:=by
 cases S with
 | tup a=>obtain⟨xs,hq,hx⟩:=h; exact λys hy=>by rw[I.tuple_inj hy hq]; exact hx
 | lst a=>obtain⟨xs,hq,hx⟩:=h; exact λys hy=>by rw[I.list_inj hy hq]; exact hx
 | txt x=>exact h
abbrev Hq (K:J2)(S1 S2:Zs):It:=
 #[λi H=>∃x y,S1.at K H i x/\S2.at K H i y,λi H v H'=>∃p x y,S1.is K H i x/\S2.is K H i y/\v=.ref p/\H p=gV/\H'=ay H p (.tup [x,y]),λi H=>S1.out K H i\/(∃x,S1.at K H i x)/\S2.out K H i]
def wo {P:Ke}{w:Kr}{K:J2}{els:JS Kd}{k0:J4}{tp:LG}{S1 S2:Zs}{z p q i1 i2:td}(D:Zap z p q i1 i2) :
  Turn P w K (.Tuple els k0 tp) (Hq K S1 S2) [z,p,q,i1,i2] z (λi h=>PJ h z p q .none/\NX h p (.ref i1) (.ref i2)/\(∃a b,NX h q a b)/\S1.T i1 i h/\S2.T i2 i h) where
 mem:=by simp
 obj:=λi h #[a,b,#[u,v,c],d,e] b' hb=>by
  have it:∀ {S:Zs} {it:td},S.T it i h->∃o,h.get? it=bt o/\∀v,o.data≠.cell v:=λ{S it} t=>by
   cases S with
   | tup a=>obtain⟨o,e,_,d⟩:=t; exact#[o,e,λv z=>by rw[d]at z; cases z]
   | lst a=>obtain⟨o,e,_,d⟩:=t; exact#[o,e,λv z=>by rw[d]at z; cases z]
   | txt x=>obtain⟨tk,⟨o,e,_,d⟩|⟨o,e,_,d⟩⟩:=t <;> exact#[o,e,λv z=>by rw[d]at z; cases z]
  simp only[J5,Kz,Lo]at hb;rcases hb with rfl|rfl|rfl|rfl|rfl
  ·exact#[_,a,λv z=>by cases z]
  ·exact#[_,b,λv z=>by cases z]
  ·exact#[_,c,λv z=>by cases z]
  ·exact it d
  ·exact it e
 keep:=λi h h' #[a,b,#[u,v,c],d,e] k=>#[k z (by simp) _ a,k p (by simp) _ b,#[u,v,k q (by simp) _ c],Zs.keep d (k i1 (by simp)),Zs.keep e (k i2 (by simp))]
 item:=by
  intro X hP hw hK hc i J s Y H E I hf st hg;subst hP hw hK;obtain⟨x,y,g1,g2⟩:=hg;obtain⟨a,b,⟨u,v,c⟩,d,e⟩:=st;have hf4:∀b∈[z,q,i1,i2],fK X J H b:=λb hb=>hf b (by simp only[J5,Kz,Lo]at hb ⊢; rcases hb with h|h|h|h <;> simp[h])
  obtain⟨C1,Zz,c1,k1⟩:=Zs.zit (it:=i1) (Uq:=bt x) I hf4 g1;obtain⟨C2,Zq,c2,k2⟩:=Zs.zit (it:=i2) (Uq:=bt y) I hf4 g2;have hT:s.TypeIs (.ref z) "zip":=#[_,a,rfl];unfold pyNext;show JT (Mj (KR (name:=LQ "__next__") hT F.slot_zip_next (K3 F.slot_zip_next hT F.entry_zip_next ?_ (F.args_zip_next_1 _))));show jJ D Zz (λ_ _=>Zq) k1 k2 (I.ok.hd hc) a b c d e c1 c2 (λV1 V2 e1 e2 u1 u2 g tk r1 r2 zg qg t1 t2 ng kp=>?_) (λz=>by rcases z with z|z <;> cases z)
  cases e1;cases e2;show JZ #[_,rfl,?_];show wpAny_letOwnedTupleGo_zip (s:={ s with heap:=g,toks:=tk }) zg λg' zg' sb=>?_
  have N0:H s.heap.objs.size=gV:=I.hok.fresh (J9 _);have lt:∀ {b:td},b∈[z,p,q,i1,i2]->s.heap.objs.size≠b:=λ{b} hb=>by
   have:∃o,s.heap.get? b=bt o:=by
    have it:∀ {S:Zs} {it:td},S.T it i s.heap->∃o,s.heap.get? it=bt o:=λ{S it} t=>by
     cases S with
     | tup a=>obtain⟨o,e,_⟩:=t; exact#[o,e]
     | lst a=>obtain⟨o,e,_⟩:=t; exact#[o,e]
     | txt x=>obtain⟨tk,⟨o,e,_⟩|⟨o,e,_⟩⟩:=t <;> exact#[o,e]
    simp only[J5,Kz,Lo]at hb;rcases hb with rfl|rfl|rfl|rfl|rfl
    ·exact#[_,a]
    ·exact#[_,b]
    ·exact#[_,c]
    ·exact it d
    ·exact it e
   obtain⟨o,e⟩:=this;exact KW (J8 e)
  have up:∀b o,b∉[z,q,i1,i2]->s.heap.get? b=bt o->g'.get? b=bt o:=λb o hb e=>by
   simp only[J5,Kz,Lo,QN]at hb;exact sb.extBut _ _ hb.1 (kp b o hb.1 hb.2.1 hb.2.2.1 hb.2.2.2 e)
  have I1:Inv X J Y H { s with heap:=g',toks:=tk }:=Mi.Inv.turnedL I up hf4
  have ng':NX g' s.heap.objs.size u1 u2:=sb.extBut _ _ (lt (by simp)) ng
  have I2:Inv X J Y (ay H s.heap.objs.size (.tup [x,y])) { s with heap:=g',toks:=tk }:=by
   show Mi.Inv.adopt I1 N0 (.inr I.sz) (KW I.lt) (λw c e=>?_) (λp hp=>?_) #[#[by change 2<=sizeLine; decide,#[_,ng',rfl]],[u1,u2],.cons r1 #v[r2],#[_,ng',rfl,0,rfl]]
   ·obtain⟨v,q⟩:=I.cell w c e;exact Kj q.lt
   ·exact Kj (J8 (I.pin p hp).1)
  show#[.ref s.heap.objs.size,_,I2,rfl,#[s.heap.objs.size,x,y,Zs.at_is I g1,Zs.at_is I g2,rfl,N0,rfl],#[zg',up p _ ?_ b,#[u1,u2,sb.extBut _ _ D.qz qg],Zs.keep t1 λo e=>sb.extBut _ _ D.iz e,Zs.keep t2 λo e=>sb.extBut _ _ D.jz e],λb hb=>?_]
  ·simp only[J5,Kz,Lo,QN];exact#[D.pz,D.pq,D.pi,D.pj]
  ·rw[aj (Ne.symm (lt hb))];exact(hf b hb).1
 done:=by
  intro X hP hw hK hc i J s Y H E I hf st hg;subst hP hw hK;obtain⟨a,b,⟨u,v,c⟩,d,e⟩:=st;have hf4:∀b∈[z,q,i1,i2],fK X J H b:=λb hb=>hf b (by simp only[J5,Kz,Lo]at hb ⊢; rcases hb with h|h|h|h <;> simp[h])
  have hT:s.TypeIs (.ref z) "zip":=#[_,a,rfl];unfold pyNext;show JT (Mj (KR (name:=LQ "__next__") hT F.slot_zip_next (K3 F.slot_zip_next hT F.entry_zip_next ?_ (F.args_zip_next_1 _))));have ends:∀h' tk e,(∀c o,c≠z->c≠q->c≠i1->c≠i2->s.heap.get? c=bt o->h'.get? c=bt o)->(∃o,h'.get? e=bt o/\o.cls=.type "StopIteration")->
    wpAny (model X.prog X.w) X.A (do if <- isInstance (.ref e) (.type "StopIteration")then pure (gV:JX JU)else throw (.ref e)) (λr s1=>r=gV/\Inv X J Y H s1) E { s with heap:=h',toks:=tk }:=λh' tk e k #[o,ho,hc]=>
   JT (M6 (T:="StopIteration") (b:=true) #[o,ho,hc] Ot (JZ #[rfl,Mi.Inv.turnedL I (λb o hb e=>by
    simp only[J5,Kz,Lo,QN]at hb;exact k b o hb.1 hb.2.1 hb.2.2.1 hb.2.2.2 e) hf4]))
  rcases hg with g1|⟨⟨x,g1⟩,g2⟩
  ·obtain⟨C1,Zz,c1,k1⟩:=Zs.zit (it:=i1) (Uq:=gV) I hf4 g1;exact jJ (U2:=gV) D Zz (λV1 e1=>by cases e1) k1 (C2:=λ_=>Rk) (λ_ _ _ _=>trivial) (I.ok.hd hc) a b c d e c1 trivial (λV1 V2 e1 _=>by cases e1) λ_ h' tk e k he=>ends h' tk e k he
  ·obtain⟨C1,Zz,c1,k1⟩:=Zs.zit (it:=i1) (Uq:=bt x) I hf4 g1;obtain⟨C2,Zq,c2,k2⟩:=Zs.zit (it:=i2) (Uq:=gV) I hf4 g2;exact jJ D Zz (λ_ _=>Zq) k1 k2 (I.ok.hd hc) a b c d e c1 c2 (λV1 V2 _ e2=>by cases e2) λ_ h' tk e k he=>ends h' tk e k he
 self:=λ_ _ _ _ _ st h=>QS st.1 h
end Mi
namespace Mi
open PySem PySem.Spec PyProof.Rows L2
abbrev Bs:W->JX (JS W)
 | .tup xs=>bt xs
 | .str x=>bt (x.cps.toList.map λc=>.str #[[c].toArray])
 | _=>gV
abbrev Aa (f:FA):FI:=λZ S=>match f Z S with
 | some ([x,y],S1)=>match Bs x,Bs y with
  | some xs,bt ys=>bt (.its (gB xs ys),S1)
  | _,_=>match x,y with
   | .ref r,.ref q=>match fP S1 r,fP S1 q with
    | some _,bt _=>bt (.zl r q,S1)
    | _,_=>gV
   | _,_=>gV
 | _=>gV
section
variable{X:Cx}{J:JS (td×Ll)}{Y:L2.St}{H:Hp}{s:JV}{A:JS td}
abbrev ZRel (K:J2)(A:JS td)(H:Hp)(xs:JS W):Zs->Prop
 | .tup a=>∃vs,SqT K H a vs/\RelL K A H xs vs
 | .lst a=>KT
 | .txt x=>xs=x.cps.toList.map λc=>.str #[[c].toArray]
def ZRel.mono {K:J2}{A A':JS td}{H H':Hp}{xs:JS W}{S:Zs}(e:Ext K A H A' H')(h:ZRel K A H xs S):ZRel K A' H' xs S:=by
 cases S with
 | tup a=>obtain⟨vs,h1,h2⟩:=h; exact#[vs,e.tp _ _ h1,h2.mono e]
 | lst a=>exact h
 | txt x=>exact h
def ZRel.at {K:J2}{xs:JS W}{S:Zs}{i:J4}{w:W}(h:ZRel K A H xs S)(hi:xs[i]?=bt w):∃v,S.at K H i v/\Rel K A H w v:=by
 cases S with
 | tup a=>obtain⟨vs,h1,h2⟩:=h; obtain⟨v,h3,h4⟩:=h2.get hi; exact#[v,#[vs,h1,h3],h4]
 | lst a=>exact h.elim
 | txt x=>
  have h:xs=x.cps.toList.map λc=>.str #[[c].toArray]:=h
  subst h;rw[KA,J0]at hi;obtain⟨c,hc,rfl⟩:=hi;exact#[.str #[[c].toArray],#[c,by rw[<- K7]; exact hc,rfl],.str]
def ZRel.is {K:J2}{xs:JS W}{S:Zs}{i:J4}{w:W}{v:V}(h:ZRel K A H xs S)(hi:xs[i]?=bt w)(z:S.is K H i v):Rel K A H w v:=by
 obtain⟨v',h1,h2⟩:=h.at hi;cases S with
 | tup a=>
  obtain⟨vs,q,e⟩:=h1;have:=z vs q;rw[e]at this; cases this
  exact h2
 | lst a=>exact h.elim
 | txt x=>
  obtain⟨c,e,rfl⟩:=h1;obtain⟨c',e',rfl⟩:=z;rw[e]at e'; cases e'
  exact h2
def ZRel.out {K:J2}{xs:JS W}{S:Zs}{i:J4}(h:ZRel K A H xs S)(hi:xs.length<=i):S.out K H i:=by
 cases S with
 | tup a=>obtain⟨vs,h1,h2⟩:=h; exact#[vs,h1,by rw[<- h2.length]; exact hi]
 | lst a=>exact h.elim
 | txt x=>
  have h:xs=x.cps.toList.map λc=>.str #[[c].toArray]:=h
  subst h;change x.cps.size<=i
  simpa using hi
def nY {xs ys:JS W}{i:J4}{w:W}(h:(gB xs ys)[i]?=bt w):∃x y,xs[i]?=bt x/\ys[i]?=bt y/\w=.tup [x,y]:=by
 unfold gB at h;rw[List.getElem?_zipWith]at h;split at h
 ·rename_i x y e1 e2;cases h;exact#[x,y,e1,e2,rfl]
 ·cases h
def Ab {S1 S2:Zs}{xs ys:JS W}(z1:ZRel X.K A H xs S1)(z2:ZRel X.K A H ys S2):MIt X.w X.K (.its (gB xs ys)) (Hq X.K S1 S2) A H:=by
 show#[λA' H' S i w e so hi=>?_,λA' H' S i e so hi=>?_]
 ·simp only[MI.at,KF]at hi;obtain⟨x,y,e1,e2,rfl⟩:=nY hi;obtain⟨v,g1,r1⟩:=(z1.mono e).at e1;obtain⟨u,g2,r2⟩:=(z2.mono e).at e2;show#[#[v,u,g1,g2],λp H2 #[a,v',u',q1,q2,hp,hn,hH]=>?_]
  subst hp hH;have ex:Ext X.K A' H' A' (ay H' a (.tup [v',u'])):=aL (.inl hn);exact#[ex,so.lay hn,.tup (.of ak) #v[((z1.mono e).is e1 q1).mono ex,((z2.mono e).is e2 q2).mono ex]]
 ·simp only[MI.at,KF,KQ,gB,Px]at hi
  by_cases h1:xs.length<=i
  ·exact .inl ((z1.mono e).out h1)
  ·have hx:i < xs.length:=∅
   obtain⟨v,g1,_⟩:=(z1.mono e).at (Kt hx);exact .inr #[#[v,g1],(z2.mono e).out ∅]
def wp {r q:J4}{a b:td}(ea:A[r]?=bt a)(eb:A[q]?=bt b):MIt X.w X.K (.zl r q) (Hq X.K (.lst a) (.lst b)) A H:=by
 show#[λA' H' S i w e so hi=>?_,λA' H' S i e so hi=>?_]
 ·simp only[MI.at]at hi;split at hi
  ·rename_i xs ys hx hy;simp only[KF]at hi;obtain⟨x,y,e1,e2,rfl⟩:=nY hi;obtain⟨vs,h1,r1⟩:=aV so hx (e.ad _ _ ea);obtain⟨us,h2,r2⟩:=aV so hy (e.ad _ _ eb);obtain⟨v,g1,q1⟩:=r1.get e1;obtain⟨u,g2,q2⟩:=r2.get e2;show#[#[v,u,#[vs,h1,g1],#[us,h2,g2]],λp H2 #[c,v',u',z1,z2,hp,hn,hH]=>?_]
   subst hp hH;have t1:=z1 vs h1;rw[g1]at t1; cases t1
   have t2:=z2 us h2;rw[g2]at t2; cases t2
   have ex:Ext X.K A' H' A' (ay H' c (.tup [v,u])):=aL (.inl hn);exact#[ex,so.lay hn,.tup (.of ak) #v[q1.mono ex,q2.mono ex]]
  ·cases hi
 ·simp only[MI.at]at hi;split at hi
  ·rename_i xs ys hx hy;simp only[KF,KQ,gB,Px]at hi;obtain⟨vs,h1,r1⟩:=aV so hx (e.ad _ _ ea);obtain⟨us,h2,r2⟩:=aV so hy (e.ad _ _ eb)
   by_cases hl:xs.length<=i
   ·exact .inl #[vs,h1,by rw[<- r1.length]; exact hl]
   ·have hx':i < xs.length:=∅
    obtain⟨v,g1,_⟩:=r1.get (Kt hx');exact .inr #[#[v,vs,h1,g1],us,h2,by rw[<- r2.length]; omega]
  ·cases hi
def l9 {x:W}{v:V}{u:JU}{xs:JS W}(I:Inv X J Y H s)(r:Rel X.K A H x v)(ru:RelV v u)(e:Bs x=bt xs) :
  ∃(S:Zs) (o:Ll) (C:KB->Prop),ZRel X.K A H xs S/\cQ X.prog X.w u o C/\C s.heap/\(∀h o,C h->C (h.push o))/\o.isFreed=false/\∀it h,h.get? it=bt o->S.T it 0 h:=by
 cases r with
 | @tup ws a vs hq rl=>
  cases e;obtain⟨its,rv,p,_⟩:=I.tuple hq;obtain rfl:u=Kl a:=ru;exact#[.tup a,{ cls:=.type "tuple_iterator",data:=.fields [.ref a,.int 0 0].toArray },λh=>h.IsTuple a its.toArray,#[vs,hq,rl],λB s Q E c hQ=>P2 c hQ,p,λh o #[ot,e,r]=>#[ot,JW _ e,r],rfl,λit h e=>#[_,e,rfl,rfl]]
 | @str x=>
  cases e;obtain⟨t,rfl⟩:=ru;cases ha:x.cps.all (· < 128)with
  | false=>exact#[.txt x,{ cls:=.type "str_iterator",data:=.fields [.str x t,.int 0 0].toArray },λ_=>Rk,rfl,λB s Q E _ hQ=>wpAny_pyIter_wide ha hQ,trivial,λ_ _ _=>trivial,rfl,λit h e=>#[t,.inr #[_,e,rfl,rfl]]]
  | true=>exact#[.txt x,{ cls:=.type "str_ascii_iterator",data:=.fields [.str x t,.int 0 0].toArray },λ_=>Rk,rfl,λB s Q E _ hQ=>P3 ha hQ,trivial,λ_ _ _=>trivial,rfl,λit h e=>#[t,.inl #[_,e,rfl,rfl]]]
 | _=>cases e
def wq:bootBuiltins "zip" = bt (.type "zip"):=rfl
def rC {a:td}{xs:JS V}{u:JU}(I:Inv X J Y H s)(ru:RelV (.ref a) u)(hq:SqL X.K H a xs) :
  ∃(o:Ll) (C:KB->Prop),cQ X.prog X.w u o C/\C s.heap/\(∀h o,C h->C (h.push o))/\o.isFreed=false/\∀it h,h.get? it=bt o->(Zs.lst a).T it 0 h:=by
 obtain⟨its,rv,p,_⟩:=I.list hq;obtain rfl:u=Kl a:=ru;exact#[{ cls:=.type "list_iterator",data:=.fields [.ref a,.int 0 0].toArray },λh=>h.IsList a its.toArray,λB s Q E c hQ=>NN c hQ,p.isList,λh o #[ot,e,r]=>#[ot,JW _ e,r],rfl,λit h e=>#[_,e,rfl,rfl]]
def Di {els:JS Kd}{k0:J4}{tp:LG}{a b:Kd}{f:FA}{p pos:LG}(hg:Gl X "zip")(hm:X.mg "zip" = gV)(ha:GA X [a,b] f)(hs:starEach [a,b] X.env=[(false,eval a X.env),(false,eval b X.env)])(hs2:starEach [b] X.env=[(false,eval b X.env)]) :
  GI X (.Tuple els k0 tp) (.Call (.Name "zip" p) [a,b] [] pos) (Aa f):=by
 intro J s Y H R I ⟨A,Z,S,mi,S',er,so,e,hq⟩;have fin:∀ {s1:JV} {H1:Hp} {u v:JU} {Sa Sb:Zs} {oa ob:Ll} {Ca Cb:KB->Prop},Inv X J Y H1 s1->cQ X.prog X.w u oa Ca->Ca s1.heap->oa.isFreed=false->(∀it h,h.get? it=bt oa->Sa.T it 0 h)->cQ X.prog X.w v ob Cb->Cb s1.heap->(∀h o,Cb h->Cb (h.push o))->ob.isFreed=false->(∀it h,h.get? it=bt ob->Sb.T it 0 h)->R (Hq X.K Sa Sb) H1->
   wpAny (model X.prog X.w) X.A (call (.type "zip") [u,v]) (λv s=>wpAny (model X.prog X.w) X.A (pyIter v) (EX X J Y (.Tuple els k0 tp) R) X.xe s) X.xe s1:=λ{s1 H1 u v Sa Sb oa ob Ca Cb} I1 ia ca na ta ib cb kb nb tb hR=>by
  show wl ia ib kb ca cb na nb λh' hz hp hq' g1 g2 hsz kp=>?_
  have I2:Inv X J Y H1 { s1 with heap:=h' }:=I1.kept (t':=s1.toks) kp
  show QS (s:={ s1 with heap:=h' }) hz ?_
  have D:Zap (s1.heap.objs.size+4) (s1.heap.objs.size+2) (s1.heap.objs.size+3) s1.heap.objs.size (s1.heap.objs.size+1):=by constructor <;> (intro z; simp at z)
  show#[s1.heap.objs.size+4,_,_,_,H1,rfl,I2,wo (S1:=Sa) (S2:=Sb) D,#[hz,hp,#[_,_,hq'],ta _ _ g1,tb _ _ g2],λb hb=>?_,hR]
  have hb':s1.heap.objs.size<=b:=by
   simp only[J5,Kz,Lo]at hb;rcases hb with rfl|rfl|rfl|rfl|rfl
   ·exact Nv _ _
   ·exact Nv _ _
   ·exact Nv _ _
   ·exact J9 _
   ·exact Nv _ _
  exact I1.fpOk hb' (I1.hok.fresh hb')
 unfold Aa at e;split at e
 ·rename_i x y S1 h1;show Tt (fJ I hg hm wq (LU (aD (ha pos J s Y H _ I #[A,Z,S,_,_,er,so,h1,λ_ _ z=>z]) λus s1 #[vs,H1,I1,r1,A1,z1,z2,z3]=>?_) (by rw[hs,hs2]) (by rw[hs2]; rfl)))
  cases z3 with
  | cons ra t=>
   cases t with
   | cons rb t=>
    cases t;cases r1 with
    | cons ua t=>
     cases t with
     | cons ub t=>
      cases t;split at e
      ·rename_i xs ys e1 e2;cases e;obtain⟨Sa,oa,Ca,za,ia,ca,ka,na,ta⟩:=l9 I1 ra ua e1;obtain⟨Sb,ob,Cb,zb,ib,cb,kb,nb,tb⟩:=l9 I1 rb ub e2;exact fin I1 ia ca na ta ib cb kb nb tb (hq _ _ A1 z1 z2 (Ab za zb))
      ·split at e
       ·rename_i r q;split at e
        ·rename_i xs ys hx hy;cases e;cases ra with
         | @ref _ a ea=>
          cases rb with
          | @ref _ b eb=>
           obtain⟨va,q1,_⟩:=aV z2 hx ea;obtain⟨vb,q2,_⟩:=aV z2 hy eb;obtain⟨oa,Ca,ia,ca,ka,na,ta⟩:=rC I1 ua q1;obtain⟨ob,Cb,ib,cb,kb,nb,tb⟩:=rC I1 ub q2;exact fin I1 ia ca na ta ib cb kb nb tb (hq _ _ A1 z1 z2 (wp ea eb))
        ·cases e
       ·cases e
 ·cases e
end
open PySem.Builtin.SmallTypes (nextOf)
section
variable{prog:Ke}{w:Kr}{B:Kw}{E:JU->JV->Prop}{s:JV}{e it:td}{T:J4->KB->Prop}{C:KB->Prop}{i:J4}{old:JU}
structure EnAt (h0 h:KB)(e it:td)(fs:KP JU)(T:KB->Prop):Prop where
 here:h.get? e=bt { cls:=.type "enumerate",dict:=gV,data:=.fields fs,slots:=#[] }
 turn:T h
 kept:∀b o,b≠e->b≠it->h0.get? b=bt o->h.get? b=bt o
def EnAt.put {h0:KB}{fs:KP JU}{T:KB->Prop}{k:J4}{v:JU}{Q:Q5->JV->Prop}(x:EnAt h0 s.heap e it fs T)(hne:e≠it)(kT:∀h h',T h->(∀o,h.get? it=bt o->h'.get? it=bt o)->T h')(hk:k < fs.size)
  (q:∀h',EnAt h0 h' e it (fs.setIfInBounds k v) T->LW e s.heap h'->Q () { s with heap:=h' }):wpAny (model prog w) B (setField (.ref e) k v) Q E s:=
 MA x.here hk λh' y sb=>q h' #[y,kT _ _ x.turn λo z=>sb.extBut _ _ (Ne.symm hne) z,λb o h1 h2 z=>sb.extBut b o h1 (x.kept b o h1 h2 z)] sb
def li {Uq:JX (JU->Prop)}{Q:JU->JV->Prop}(Zx:Zit prog w it T C i Uq)(hh:B.handled=gV)(he:SX s.heap e it (i:Kk) old)(t:T i s.heap)(c:C s.heap)(hne:e≠it)
  (hI:∀V,Uq=bt V->∀u h' tk tk0,V u->IsEnumOut h' e it ((i:Kk)+1) u s.heap.objs.size->T (i+1) h'->h'.get? s.heap.objs.size=bt { cls:=.type "tuple",data:=.seq [.int i tk0,u].toArray }->
   (∀b o,b≠e->b≠it->s.heap.get? b=bt o->h'.get? b=bt o)->Q (.ref s.heap.objs.size) { s with heap:=h',toks:=tk })
  (hE:Uq=gV->∀h' x,Pi it s.heap h'->(∃o,h'.get? x=bt o/\o.cls=.type "StopIteration")->E (.ref x) { s with heap:=h' }) :
  wpAny (model prog w) B (Mm.«enumerate.__next__» #[[.ref e],[]]) (λfin s'=>∃v,fin=.done (.ret v)/\Q v s') E s:=by
 obtain⟨hp,g,d,tk,os⟩:=s;change wpAny _ _ (field (.ref e) 2 >>= _) _ _ _;show JT (K9 he rfl (x:=.ref it) rfl (JT ?_));cases Uq with
 | none=>exact Zx.stop rfl _ _ _ _ hh t c λh' x a b=>hE rfl h' x a b
 | some V=>
  show Zx.next V rfl _ _ _ _ t c λu ha tka hu ta sba=>?_
  have kT:=Zx.keep (i+1);have xa:EnAt hp ha e it [.none,.bool false,.ref it,rawInt i,.none,old].toArray (T (i+1)):=#[(sba.2 e hne).trans he,ta,λb o _ h2 z=>sba.extBut b o h2 z]
  have za:ha.objs.size=hp.objs.size:=sba.1;clear sba ta;change wpAny _ _ (field (.ref e) 3 >>= _) _ _ #[ha,g,d,tka,os];show JT (K9 xa.here rfl (x:=rawInt i) rfl ?_);change wpAny _ _ (field (.ref e) 4 >>= _) _ _ #[ha,g,d,tka,os];show JT (K9 xa.here rfl (x:=.none) rfl ?_);change wpAny _ _ (mkInt i >>= _) _ _ #[ha,g,d,tka,os];show JT (Q1 (JT (xa.put (s:=#[ha,g,d,tka+1,os]) hne kT (by simp) λhb xb sb1=>JT (xb.put (s:=#[hb,g,d,tka+1,os]) hne kT (by simp) λhc xc sb2=>JT (Pf ?_)))))
  have zc:hc.objs.size=hp.objs.size:=by rw[sb2.1,<- za]; exact sb1.1
  have hel:hp.objs.size≠e:=KW (J8 he);have new:=J7 hc (o:={ cls:=.type "tuple",data:=.seq [.int i tka,u].toArray }) rfl;have xd:EnAt hp (hc.push { cls:=.type "tuple",data:=.seq [.int i tka,u].toArray }) e it [.none,.bool false,.ref it,rawInt ((i:Kk)+1),.none,old].toArray (T (i+1)):=#[JW _ xc.here,kT _ _ xc.turn λo z=>JW _ z,λb o h1 h2 z=>JW _ (xc.kept b o h1 h2 z)]
  rw[zc]at new;change wpAny _ _ (LO (.ref e) >>= _) _ _ #[hc.push _,g,d,tka+1,os];rw[zc];generalize hc.push { cls:=.type "tuple",data:=.seq [.int i tka,u].toArray }=hd at new xd ⊢;clear zc sb2 xc sb1 xb hb xa za;show JT ?_;unfold LO;show JT (K9 xd.here rfl (x:=.none) rfl (JZ ?_));simp only[MY];show JT (M9 (JT (K9 xd.here rfl (x:=old) rfl (JT (xd.put (s:=#[hd,g,d,tka+1,os]) hne kT (by simp) λh1 x1 s1=>JT ?_)))))
  unfold Mq;show JT (x1.put (s:=#[h1,g,d,tka+1,os]) hne kT (by simp) λh2 x2 s2=>x2.put (s:=#[h2,g,d,tka+1,os]) hne kT (by simp) λh3 x3 s3=>JT (Pk (JZ #[_,rfl,hI V rfl u h3 (tka+1) tka hu x3.here x3.turn ?_ x3.kept])))
  exact s3.extBut _ _ hel (s2.extBut _ _ hel (s1.extBut _ _ hel new))
variable{v:JU}{o:Ll}
def nZ (h1:cQ prog w v o C) :
  MeetsIn prog w (Mm.«enumerate.__new__» #[[.type "enumerate",v],[]]) (λ_ R s=>C s.heap/\R (.ok (.ret (.ref (s.heap.push o).objs.size))) { s with heap:=(s.heap.push o).push { cls:=.type "enumerate",data:=.fields [.none,.bool false,.ref s.heap.objs.size,rawInt 0,.none,.none].toArray } }):=
 .of_wp λA R s h=>by
  obtain⟨hp,g,d,tk,os⟩:=s;obtain⟨c,h⟩:=h;have hsub:=sub_enumerate;have d1:∀(B:Kw) (Q:JU->JV->Prop) (E:JU->JV->Prop),Q (.ref hp.objs.size) #[hp.push o,g,d,tk,os]->wpAny (model prog w) B (pyIter v) Q E #[hp,g,d,tk,os]:=λB Q E q=>h1 B #[hp,g,d,tk,os] Q E c q
  wp_walk
  show wpAny_stack_any λst=>JZ ?_
  split
  ·rename_i c _ _ _ _ _;cases(c==Mp "enumerate")
   ·wp_walk using d1 _ _ _
    exact#[_,rfl,h]
   ·wp_walk using d1 _ _ _
    exact#[_,rfl,h]
  ·wp_walk using d1 _ _ _
   exact#[_,rfl,h]
def tY {Q:JU->JV->Prop}(h1:cQ prog w v o C)(c:C s.heap)(n1:o.isFreed=false)
  (h:∀h',SX h' (s.heap.objs.size+1) s.heap.objs.size 0 .none->h'.get? s.heap.objs.size=bt o->(∀b o,s.heap.get? b=bt o->h'.get? b=bt o)->Q (.ref (s.heap.objs.size+1)) { s with heap:=h' }) :
  wpAny (model prog w) B (call (.type "enumerate") [v]) Q E s:=by
 show RF F.called_enumerate #v[] (F.typeCall_enumerate_1 _) (F.newCall_enumerate_1 _) (λobj=>F.args_object_init_2 obj _) F.entry_enumerate_new (nZ h1) #[c,?_]
 have hz:(s.heap.push o).objs.size=s.heap.objs.size+1:=Li ..;change _/\_;rw[hz];have he:SX ((s.heap.push o).push { cls:=.type "enumerate",data:=.fields [.none,.bool false,.ref s.heap.objs.size,rawInt 0,.none,.none].toArray }) (s.heap.objs.size+1) s.heap.objs.size 0 .none:=by
  have:=J7 (s.heap.push o) (o:={ cls:=.type "enumerate",data:=.fields [.none,.bool false,.ref s.heap.objs.size,rawInt 0,.none,.none].toArray }) rfl;rw[hz]at this; exact this
 exact#[#[_,he,rfl],h _ he (JW _ (J7 _ n1)) λb o x=>JW _ (JW _ x)]
end
abbrev Jn (K:J2)(S1:Zs):It:=
 #[λi H=>∃x,S1.at K H i x,λi H v H'=>∃p x,S1.is K H i x/\v=.ref p/\H p=gV/\H'=ay H p (.tup [.int i,x]),λi H=>S1.out K H i]
def tZ {P:Ke}{w:Kr}{K:J2}{els:JS Kd}{k0:J4}{tp:LG}{S1:Zs}{z i1:td}(D:z≠i1) :
  Turn P w K (.Tuple els k0 tp) (Jn K S1) [z,i1] z (λi h=>(∃old,SX h z i1 i old)/\S1.T i1 i h) where
 mem:=by simp
 obj:=λi h #[#[old,a],d] b' hb=>by
  have it:∀ {S:Zs} {it:td},S.T it i h->∃o,h.get? it=bt o/\∀v,o.data≠.cell v:=λ{S it} t=>by
   cases S with
   | tup a=>obtain⟨o,e,_,d⟩:=t; exact#[o,e,λv z=>by rw[d]at z; cases z]
   | lst a=>obtain⟨o,e,_,d⟩:=t; exact#[o,e,λv z=>by rw[d]at z; cases z]
   | txt x=>obtain⟨tk,⟨o,e,_,d⟩|⟨o,e,_,d⟩⟩:=t <;> exact#[o,e,λv z=>by rw[d]at z; cases z]
  simp only[J5,Kz,Lo]at hb;rcases hb with rfl|rfl
  ·exact#[_,a,λv z=>by cases z]
  ·exact it d
 keep:=λi h h' #[#[old,a],d] k=>#[#[old,k z (by simp) _ a],Zs.keep d (k i1 (by simp))]
 item:=by
  intro X hP hw hK hc i J s Y H E I hf st hg;subst hP hw hK;obtain⟨x,g1⟩:=hg;obtain⟨⟨old,a⟩,d⟩:=st;have hf4:∀b∈[z,z,i1,i1],fK X J H b:=λb hb=>hf b (by simp only[J5,Kz,Lo]at hb ⊢; rcases hb with h|h|h|h <;> simp[h])
  obtain⟨C1,Zz,c1,k1⟩:=Zs.zit (it:=i1) (Uq:=bt x) I hf4 g1;have hT:s.TypeIs (.ref z) "enumerate":=#[_,a,rfl];unfold pyNext;show JT (Mj (KR (name:=LQ "__next__") hT F.slot_enumerate_next (K3 F.slot_enumerate_next hT F.entry_enumerate_next ?_ (F.args_enumerate_next_1 _))));show li Zz (I.ok.hd hc) a d c1 D (λV e1 u g tk tk0 r1 zg t1 ng kp=>?_) (λz=>by cases z)
  cases e1;show JZ #[_,rfl,?_];show wpAny_letOwnedTupleGo_enum (s:={ s with heap:=g,toks:=tk }) zg λg' zg' sb=>?_
  have N0:H s.heap.objs.size=gV:=I.hok.fresh (J9 _);have lt:∀ {b:td},b∈[z,i1]->s.heap.objs.size≠b:=λ{b} hb=>by
   have:∃o,s.heap.get? b=bt o:=by
    have it:∀ {S:Zs} {it:td},S.T it i s.heap->∃o,s.heap.get? it=bt o:=λ{S it} t=>by
     cases S with
     | tup a=>obtain⟨o,e,_⟩:=t; exact#[o,e]
     | lst a=>obtain⟨o,e,_⟩:=t; exact#[o,e]
     | txt x=>obtain⟨tk,⟨o,e,_⟩|⟨o,e,_⟩⟩:=t <;> exact#[o,e]
    simp only[J5,Kz,Lo]at hb;rcases hb with rfl|rfl
    ·exact#[_,a]
    ·exact it d
   obtain⟨o,e⟩:=this;exact KW (J8 e)
  have up:∀b o,b∉[z,i1]->s.heap.get? b=bt o->g'.get? b=bt o:=λb o hb e=>by
   simp only[J5,Kz,Lo,QN]at hb;exact sb.extBut _ _ hb.1 (kp b o hb.1 hb.2 e)
  have I1:Inv X J Y H { s with heap:=g',toks:=tk }:=Mi.Inv.turnedL I up hf
  have ng':g'.get? s.heap.objs.size=bt { cls:=.type "tuple",data:=.seq [.int i tk0,u].toArray }:=sb.extBut _ _ (lt (by simp)) ng
  have I2:Inv X J Y (ay H s.heap.objs.size (.tup [.int i,x])) { s with heap:=g',toks:=tk }:=by
   show Mi.Inv.adopt I1 N0 (.inr I.sz) (KW I.lt) (λw c e=>?_) (λp hp=>?_) #[#[by change 2<=sizeLine; decide,#[_,ng',rfl]],[.int i tk0,u],.cons #[_,rfl] #v[r1],#[_,ng',rfl,0,rfl]]
   ·obtain⟨v,q⟩:=I.cell w c e;exact Kj q.lt
   ·exact Kj (J8 (I.pin p hp).1)
  show#[.ref s.heap.objs.size,_,I2,rfl,#[s.heap.objs.size,x,Zs.at_is I g1,rfl,N0,rfl],#[#[_,zg'],Zs.keep t1 λo e=>sb.extBut _ _ (Ne.symm D) e],λb hb=>?_]
  rw[aj (Ne.symm (lt hb))];exact(hf b hb).1
 done:=by
  intro X hP hw hK hc i J s Y H E I hf st hg;subst hP hw hK;obtain⟨⟨old,a⟩,d⟩:=st;have hf4:∀b∈[z,z,i1,i1],fK X J H b:=λb hb=>hf b (by simp only[J5,Kz,Lo]at hb ⊢; rcases hb with h|h|h|h <;> simp[h])
  obtain⟨C1,Zz,c1,k1⟩:=Zs.zit (it:=i1) (Uq:=gV) I hf4 hg;have hT:s.TypeIs (.ref z) "enumerate":=#[_,a,rfl];unfold pyNext;show JT (Mj (KR (name:=LQ "__next__") hT F.slot_enumerate_next (K3 F.slot_enumerate_next hT F.entry_enumerate_next ?_ (F.args_enumerate_next_1 _))));show li Zz (I.ok.hd hc) a d c1 D (λV e1=>by cases e1) λ_ h' e k #[o,ho,hc]=>?_
  exact JT (M6 (T:="StopIteration") (b:=true) #[o,ho,hc] Ot (JZ #[rfl,Mi.Inv.turnedL (t':=s.toks) I (λb o hb e=>by
    simp only[J5,Kz,Lo,QN]at hb;exact k b o hb.2 e) hf]))
 self:=λ_ _ _ _ _ st h=>by obtain⟨⟨old,a⟩,_⟩:=st; exact Qw a h
abbrev ma (xs:JS W):JS W:=xs.zipIdx.map λp=>.tup [.int (p.2:J4),p.1]
def n0 {xs:JS W}{i:J4}{w:W}(h:(ma xs)[i]?=bt w):∃x,xs[i]?=bt x/\w=.tup [.int i,x]:=by
 unfold ma at h;rw[KA,List.getElem?_zipIdx,RC,J0]at h;obtain⟨x,h1,rfl⟩:=h;exact#[x,h1,by simp]
abbrev Ac (f:FA):FI:=λZ S=>match f Z S with
 | some ([x],S1)=>match Bs x with
  | some xs=>bt (.its (ma xs),S1)
  | none=>gV
 | _=>gV
section
variable{X:Cx}{J:JS (td×Ll)}{Y:L2.St}{H:Hp}{s:JV}{A:JS td}
def wt {S1:Zs}{xs:JS W}(z1:ZRel X.K A H xs S1):MIt X.w X.K (.its (ma xs)) (Jn X.K S1) A H:=by
 show#[λA' H' S i w e so hi=>?_,λA' H' S i e so hi=>?_]
 ·simp only[MI.at,KF]at hi;obtain⟨x,e1,rfl⟩:=n0 hi;obtain⟨v,g1,r1⟩:=(z1.mono e).at e1;show#[#[v,g1],λp H2 #[a,v',q1,hp,hn,hH]=>?_]
  subst hp hH;have ex:Ext X.K A' H' A' (ay H' a (.tup [.int i,v'])):=aL (.inl hn);exact#[ex,so.lay hn,.tup (.of ak) #v[.int,((z1.mono e).is e1 q1).mono ex]]
 ·simp only[MI.at,KF,KQ,ma,J6,List.length_zipIdx]at hi;exact(z1.mono e).out hi
def t4:bootBuiltins "enumerate" = bt (.type "enumerate"):=rfl
def Ad {els:JS Kd}{k0:J4}{tp:LG}{a:Kd}{f:FA}{p pos:LG}(hg:Gl X "enumerate")(hm:X.mg "enumerate" = gV)(ha:GA X [a] f)(hs:starEach [a] X.env=[(false,eval a X.env)]) :
  GI X (.Tuple els k0 tp) (.Call (.Name "enumerate" p) [a] [] pos) (Ac f):=by
 intro J s Y H R I ⟨A,Z,S,mi,S',er,so,e,hq⟩;unfold Ac at e;split at e
 ·rename_i x S1 h1;split at e
  ·rename_i xs e1;cases e;show Tt (fJ I hg hm t4 (LU (aD (ha pos J s Y H _ I #[A,Z,S,_,_,er,so,h1,λ_ _ z=>z]) λus s1 #[vs,H1,I1,r1,A1,z1,z2,z3]=>?_) (by rw[hs]; rfl) (by rfl)))
   cases z3 with
   | cons ra t=>
    cases t;cases r1 with
    | cons ua t=>
     cases t;obtain⟨Sa,oa,Ca,za,ia,ca,ka,na,ta⟩:=l9 I1 ra ua e1;show tY ia ca na λh' hz g1 kp=>?_
     have I2:Inv X J Y H1 { s1 with heap:=h' }:=I1.kept (t':=s1.toks) kp
     show Qw (s:={ s1 with heap:=h' }) hz ?_
     show#[s1.heap.objs.size+1,_,_,_,H1,rfl,I2,tZ (S1:=Sa) (i1:=s1.heap.objs.size) (by simp),#[#[_,hz],ta _ _ g1],λb hb=>?_,hq _ _ A1 z1 z2 (wt za)]
     have hb':s1.heap.objs.size<=b:=by
      simp only[J5,Kz,Lo]at hb;rcases hb with rfl|rfl
      ·exact Nv _ _
      ·exact J9 _
     exact I1.fpOk hb' (I1.hok.fresh hb')
  ·cases e
 ·cases e
end
end Mi
namespace Mi
open PySem PySem.Spec PyProof.Rows L2
abbrev wu (U:JS (J3×W))(f:FE):FE:=λZ S=>match f Z S with
 | some (.str k,S1)=>match U.lookup k with
  | some w=>bt (w,S1)
  | none=>gV
 | _=>gV
abbrev n4 (U:JS (J3×W))(f:FE):FE:=λZ S=>match f Z S with
 | some (.str k,S1)=>bt (.bl (!(U.lookup k).isSome),S1)
 | _=>gV
abbrev ww (X:Cx)(x:J3)(w:W):Prop:=∃v u,X.mg x=bt u/\RelV v u/\∀A H,Rel X.K A H w v
abbrev pV (X:Cx)(x:J3)(U:JS (J3×W)):Prop:=∃a o es ep,X.mg x=bt (.ref a)/\X.K.lookup a=bt o/\o.ExactDict/\o.data=.dict es ep/\(∀e∈es,∃k t,e.key=.str k t/\e.hash=hashStr X.w k)/\
 (∀k w,U.lookup k=bt w->∃v u,findBy Mf es k=bt u/\RelV v u/\∀A H,Rel X.K A H w v)/\(a==sysModules)=false/\∀k,(findBy Mf es k).isSome=(U.lookup k).isSome
section
variable{X:Cx}
def Dj {x:J3}{w:W}{pos:LG}(hg:Gl X x)(hd:(x==("__debug__" : J3))=false)(h:ww X x w):GE X (.Name x pos) (fC w):=by
 obtain⟨v,u,hm,r,rel⟩:=h;exact dX (lE hg hm r hd) rel
def Dk {x:J3}{U:JS (J3×W)}{b:Kd}{p pos:LG}{f:FE}(hg:Gl X x)(hd:(x==("__debug__" : J3))=false)(G:pV X x U)(hb:GE X b f)(hs:iI b):GE X (.Subscript (.Name x p) b pos) (wu U f):=by
 intro J s Y H Q I ⟨A,Z,S,w,S',er,so,e,hq⟩;obtain⟨a,o,es,ep,hm,hk,hex,hdat,hkeys,hv,_⟩:=G;unfold wu at e;split at e
 ·rename_i k S1 h1;split at e
  ·rename_i w' hl;cases e;obtain⟨v,u,hf,ru,rel⟩:=hv k w hl;show yS PySem.F.slot_dict_getitem.lookup hs (bW I hg hm ?_ hd);show aD (hb J s Y H (EndV X.w X.K A H S' (.str k)) I #[A,Z,S,_,_,er,so,h1,λ_ _ z=>z]) λiv s2 #[y,H2,I2,ry,A2,e2,o2,z2]=>?_
   cases z2;obtain⟨t,rfl⟩:=ry;have ho:s2.heap.get? a=bt o:=I2.kIn a o hk;have mp:s2.heap.MapOf (LV X.prog X.w) a (λk=>findBy Mf es k):=#[o,es,ep,ho,hex,hdat,λe he=>by
    obtain⟨k',t',e1,e2⟩:=hkeys e he;exact#[k',by rw[e1]; exact KS _,e2],λ_=>rfl]
   show#[#[o,ho,hex.1],QP (knd:=LV X.prog X.w) (k:=k) (by exact KS _) mp hf #[v,H2,I2.tok _,ru,hq _ _ #[A2,e2,o2,rel _ _]]]
  ·cases e
 ·cases e
def wx {x:J3}{U:JS (J3×W)}{b:Kd}{p:LG}{f:FE}(hg:Gl X x)(hd:(x==("__debug__" : J3))=false)(G:pV X x U)(hb:GE X b f):PC X .NotIn b (.Name x p) (tE X (n4 U f)):=by
 intro J s Y H Q I ⟨A,Z,S,w,S',er,so,e,hq⟩;obtain⟨a,o,es,ep,hm,hk,hex,hdat,hkeys,hv,hs,hsome⟩:=G;unfold n4 at e;split at e
 ·rename_i k S1 h1;cases e;show aD (hb J s Y H (EndV X.w X.K A H S' (.str k)) I #[A,Z,S,_,_,er,so,h1,λ_ _ z=>z]) λiv s2 #[y,H2,I2,ry,A2,e2,o2,z2]=>?_
  cases z2;obtain⟨t,rfl⟩:=ry;have ho:s2.heap.get? a=bt o:=I2.kIn a o hk;have mp:s2.heap.MapOf (LV X.prog X.w) a (λk=>findBy Mf es k):=#[o,es,ep,ho,hex,hdat,λe he=>by
   obtain⟨k',t',e1,e2⟩:=hkeys e he;exact#[k',by rw[e1]; exact KS _,e2],λ_=>rfl]
  show bW I2 hg hm (wpAny_notIn_of (knd:=LV X.prog X.w) (k:=k) (by exact KS _) hs mp ?_) hd
  rw[hsome];exact#[.bl (!(U.lookup k).isSome),H2,I2.tok _,rfl,hq _ _ #[A2,e2,o2,.bl]]
 ·cases e
def Dl {x:J3}{U:JS (J3×W)}{b:Kd}{p pos:LG}{f:FE}(hg:Gl X x)(hd:(x==("__debug__" : J3))=false)(G:pV X x U)(hb:GE X b f):GE X (.Compare b [.NotIn] [.Name x p] pos) (n4 U f):=BY (wx hg hd G hb) rfl
def Dm {x:J3}{U:JS (J3×W)}{b:Kd}{p pos:LG}{f:FE}(hg:Gl X x)(hd:(x==("__debug__" : J3))=false)(G:pV X x U)(hb:GE X b f):GT X (.Compare b [.NotIn] [.Name x p] pos) (fS (n4 U f)):=
 GT.of (BZ (wx hg hd G hb) rfl) λY H A Z S k S' er so e Q hq=>by
  unfold fS at e;split at e
  ·rename_i k' S'' h0;cases e;show#[A,Z,S,_,_,er,so,h0,λv H' #[A',z1,z2,z3]=>?_]
   cases z3;exact#[k,rfl,hq _ _ #[rfl,A',z1,z2]]
  ·cases e
end
abbrev Bt (g1 g2:JS W->aa->JX (W×aa))(xs:JS W)(S:aa):JX (W×aa):=match g1 xs S with
 | some r=>bt r
 | none=>g2 xs S
def n6 {X:Cx}{f:JU}{g1 g2:JS W->aa->JX (W×aa)}(h1:LCall X f g1)(h2:LCall X f g2):LCall X f (Bt g1 g2):=by
 intro J s Y H A S xs vs us w S' I so rl rv e;unfold Bt at e;split at e
 ·rename_i r hr;cases e;exact h1 J s Y H A S xs vs us w S' I so rl rv hr
 ·exact h2 J s Y H A S xs vs us w S' I so rl rv e
inductive Bi where|len|list|tuple|set|sorted|range|all
 deriving Nk
abbrev Bi.fn:Bi->JS W->aa->JX (W×aa)
 | .len=>Bt pK Dg|.list=>Bt nB nM|.tuple=>jE|.set=>lU|.sorted=>gp|.range=>pH|.all=>CS
abbrev Bi.name:Bi->J3
 | .len=>"len"|.list=>"list"|.tuple=>"tuple"|.set=>"set"|.sorted=>"sorted"|.range=>"range"|.all=>"all"
inductive Me where|append|extend|join
 deriving Nk
abbrev Me.fn:Me->W->JS W->aa->JX (W×aa)
 | .append=>gl|.extend=>iK|.join=>qX
abbrev Me.name:Me->J3
 | .append=>"append"|.extend=>"extend"|.join=>"join"
abbrev Me.ty:Me->Ls
 | .append=>"list"|.extend=>"list"|.join=>"str"
inductive Tg where
 | nm (i:J4)|tp (is:JS J4)
set_option genSizeOf false in
set_option genInjectivity false in
mutual
inductive E where
 | c (w:W)|v (i:J4)|sem (g:FE)
 | op (o:BOp) (a b:E)
 | cmp (o:COp) (a b:E)
 | and (a b:E)|or (a b:E)|not (a:E)
 | own (f:J3) (n:J4) (es:Es)|bi (b:Bi) (es:Es)|me (m:Me) (o:E) (es:Es)
 | ix (a b:E)|sl (a:E) (lo hi:Ep)|tup (es:Es)|lst (es:Es)
 | isi (c:Ls) (a:E)|gix (U:JS (J3×W)) (b:E)|gni (U:JS (J3×W)) (b:E)
 | neg (a:E)|dnew|disp (es:Es)|chn (o o':COp) (a b d:E)|ite (t a b:E)
 | comp (elt:E) (tg:Tg) (it:Ie) (cs:Es) (cap:JS (JX J4))
inductive Es where
 | nil|cons (e:E) (es:Es)
inductive Ep where
 | no|yes (e:E)
inductive Ie where
 | seq (e:E)|rng (es:Es)|zip (es:Es)|rng2 (es:Es)|enu (es:Es)
end
set_option genSizeOf false in
set_option genInjectivity false in
mutual
inductive Sm where
 | sem (g:(J3->FF)->FS)|set (i:J4) (e:E)|asg (is:JS J4) (e:E)|par (i j:J4) (es:Es)|put (o k e:E)
 | ex (e:E)|ret (e:E)|retN|pass|brk|cont|bad
 | ite (t:E) (a b:Ss)|whl (t:E) (b:Ss)|loop (tg:Tg) (it:Ie) (b:Ss)
inductive Ss where
 | nil|cons (s:Sm) (ss:Ss)
end
abbrev t6:Tg->FG
 | .nm i=>zO i
 | .tp is=>C6 is
section
variable (M:J3->FF)
mutual
def ap:E->FE
 | .c w=>fC w
 | .v i=>fV i
 | .sem g=>g
 | .op o a b=>zD (gS o) (ap a) (ap b)
 | .cmp o a b=>tP o (ap a) (ap b)
 | .and a b=>rg (ap a) (ap b)
 | .or a b=>zG (ap a) (ap b)
 | .not a=>rh (ap a)
 | .own f n es=>dC n (M f) (aZ es)
 | .bi b es=>iy b.fn (aZ es)
 | .me m o es=>ED m.ty m.fn (ap o) (aZ es)
 | .ix a b=>Iw (ap a) (ap b)
 | .sl a lo hi=>Fz (ap a) (rD lo) (rD hi)
 | .tup es=>tQ (aZ es)
 | .lst es=>vZ (aZ es)
 | .isi c a=>wf c (ap a)
 | .gix U b=>wu U (ap b)
 | .gni U b=>n4 U (ap b)
 | .neg a=>vM (ap a)
 | .dnew=>Bp
 | .disp es=>nV (aZ es)
 | .chn o o' a b d=>eC o o' (ap a) (ap b) (ap d)
 | .ite t a b=>zH (bz t) (ap a) (ap b)
 | .comp elt tg it cs cap=>jI (kD it) (t6 tg) (Ae cs) (ap elt) cap
def bz:E->FT
 | .cmp o a b=>fS (tP o (ap a) (ap b))
 | .and a b=>vQ (bz a) (bz b)
 | .or a b=>Fy (bz a) (bz b)
 | .not a=>zE (bz a)
 | .c w=>de (fC w)
 | .v i=>de (fV i)
 | .sem g=>de g
 | .op o a b=>de (zD (gS o) (ap a) (ap b))
 | .own f n es=>de (dC n (M f) (aZ es))
 | .bi b es=>de (iy b.fn (aZ es))
 | .me m o es=>de (ED m.ty m.fn (ap o) (aZ es))
 | .ix a b=>de (Iw (ap a) (ap b))
 | .sl a lo hi=>de (Fz (ap a) (rD lo) (rD hi))
 | .tup es=>de (tQ (aZ es))
 | .lst es=>de (vZ (aZ es))
 | .isi c a=>de (wf c (ap a))
 | .gix U b=>de (wu U (ap b))
 | .gni U b=>fS (n4 U (ap b))
 | .neg a=>de (vM (ap a))
 | .dnew=>λ_ _=>gV
 | .disp _=>λ_ _=>gV
 | .chn o o' a b d=>fS (eC o o' (ap a) (ap b) (ap d))
 | .ite _ _ _=>λ_ _=>gV
 | .comp _ _ _ _ _=>λ_ _=>gV
def aZ:Es->FA
 | .nil=>gu
 | .cons e es=>bZ (ap e) (aZ es)
def Ae:Es->FT
 | .nil=>Bq
 | .cons e .nil=>bz e
 | .cons _ (.cons _ _)=>λ_ _=>gV
def rD:Ep->FO
 | .no=>C3
 | .yes e=>rn (ap e)
def kD:Ie->FI
 | .seq e=>fB (ap e)
 | .rng es=>pP (aZ es)
 | .zip es=>Aa (aZ es)
 | .rng2 es=>iRng2 (aZ es)
 | .enu es=>Ac (aZ es)
end
variable (fuel:J4)
mutual
def bH:Sm->FS
 | .sem g=>g M
 | .set i e=>dE (ap M e) (zO i)
 | .asg is e=>dE (ap M e) (C6 is)
 | .par i j es=>wa i j (aZ M es)
 | .put o k e=>dE (ap M e) (zP (ap M o) (ap M k))
 | .ex e=>nP (ap M e)
 | .ret e=>nQ (ap M e)
 | .retN=>λ_ S=>bt (.rt .non,S)
 | .pass=>v7
 | .brk=>λZ S=>bt (.bk Z,S)
 | .cont=>λZ S=>bt (.ct Z,S)
 | .bad=>λ_ _=>gV
 | .ite t a b=>gy (bz M t) (bL a) (bL b)
 | .whl t b=>l7 (bz M t) (bL b) fuel
 | .loop tg it b=>iG (kD M it) (t6 tg) (bL b)
def bL:Ss->FS
 | .nil=>λZ S=>bt (.nx Z,S)
 | .cons s ss=>iF (bH s) (bL ss)
end
end
structure Gam where
 sc:JS (J3×Ly)
 N:JS J3
 fns:JS (J3×J4)
 blt:JS J3
 dfn:Kn
 own:JS J3
 cst:JS (J3×W)
 gds:JS (J3×JS (J3×W))
abbrev Dn:JX Ly->Kn
 | some .local=>true|some .cell=>true|some .free=>true|_=>false
abbrev Ag:JX Ly->Kn
 | some .cell=>true|some .free=>true|_=>false
abbrev eE (names outer:JS (J3×Ly)):JS (J3×Ly):=names.map λ(n,k)=>if (k==.free&&outer.lookup n==bt .cell)then(n,.cell)else(n,k)
abbrev slot (Γ:Gam)(x:J3):JX J4:=if Dn (Γ.sc.lookup x) && !(x==("__debug__" : J3)) && !(x==("__classdict__" : J3))then Γ.N.findIdx? (· == x)else gV
abbrev rE:P8->JX BOp
 | .Add=>bt .add|.Sub=>bt .sub|.Mult=>bt .mul|.FloorDiv=>bt .fdiv|.Mod=>bt .mod|.Pow=>bt .pow|_=>gV
abbrev iA:OZ->JX COp
 | .Eq=>bt .eq|.NotEq=>bt .ne|.Lt=>bt .lt|.LtE=>bt .le|.Gt=>bt .gt|.GtE=>bt .ge|.In=>bt .isin|.NotIn=>bt .notin|.Is=>bt .is|.IsNot=>bt .isnot
abbrev Ah (x:J3):JX Bi:=[Bi.len,.list,.tuple,.set,.sorted,.range,.all].find? λb=>b.name==x
abbrev Ai (x:J3):JX Me:=[Me.append,.extend,.join].find? λb=>b.name==x
abbrev FR (Γ:Gam)(x:J3):Kn:=Γ.sc.lookup x==bt .globalImplicit && !(x==("__debug__" : J3))
abbrev wy (x:J3):JX Ls:=if x==("bool" : J3)then bt "bool" else if x==("int" : J3)then bt "int" else if x==("str" : J3)then bt "str" else if x==("tuple" : J3)then bt "tuple" else if x==("list" : J3)then bt "list" else if x==("dict" : J3)then bt "dict" else gV
abbrev rF:JS (JX Kd)->JS Kd->JS Kd
 | some k::ks,v::vs=>k::v::rF ks vs
 | _,_=>[]
abbrev Aj (Γ:Gam)(f:Kd->JX E):JS Kd->JX E
 | [a,.Name c _]=>if FR Γ c&&Γ.blt.contains c then match wy c,f a with
  | some cs,bt a'=>bt (.isi cs a')
  | _,_=>gV
  else gV
 | _=>gV
abbrev eW:Kd->Kn
 | .Name _ _=>true|.Constant _ _ _=>true|.Subscript _ _ _=>true|_=>false
abbrev br (Γ:Gam)(x:J3):Kn:=Γ.sc.lookup x==bt .globalImplicit && !(x==("__debug__" : J3))
abbrev aR (Γ:Gam)(x:J3):JX J4:=if (Γ.sc.lookup x==bt .local)||((Γ.dfn||Γ.own.contains x)&&Γ.sc.lookup x==bt .cell)then Γ.N.findIdx? (· == x)else gV
abbrev cA (f:Kd->JX E)(es:JS Kd):JX Es:=es.foldr (λe acc=>match f e,acc with|some e',bt es'=>bt (.cons e' es')|_,_=>gV) (bt .nil)
abbrev cB (f:Kd->JX E)(op:RE):JS Kd->JX E
 | []=>gV
 | [a]=>f a
 | a::b::au=>match f a,cB f op (b::au)with
  | some a',bt b'=>bt (match op with|.And=>.and a' b'|.Or=>.or a' b')
  | _,_=>gV
abbrev cP (f:Kd->JX E):JX Kd->JX Ep
 | none=>bt .no
 | some e=>(f e).map .yes
abbrev isTup:Kd->Kn
 | .Tuple _ _ _=>true
 | _=>false
abbrev cI (Γ:Gam)(f:Kd->JX E)(tg:Kd):Kd->JX Ie
 | .Call (.Name x p) [a] [] q=>if x==("range" : J3)&&br Γ x&&Γ.blt.contains x then(cA f [a]).map .rng else if x==("enumerate" : J3)&&br Γ x&&Γ.blt.contains x&&isTup tg then(cA f [a]).map .enu else(f (.Call (.Name x p) [a] [] q)).map .seq
 | .Call (.Name x p) [a,b] [] q=>if x==("zip" : J3)&&br Γ x&&Γ.blt.contains x&&isTup tg then(cA f [a,b]).map .zip else if x==("range" : J3)&&br Γ x&&Γ.blt.contains x then(cA f [a,b]).map .rng2 else(f (.Call (.Name x p) [a,b] [] q)).map .seq
 | e=>(f e).map .seq
abbrev Do (Γ:Gam):JS Kd->JX (JS J4)
 | []=>bt []
 | .Name x _::ts=>match aR Γ x,Do Γ ts with
  | some i,bt is=>bt (i::is)
  | _,_=>gV
 | _::_=>gV
abbrev cT (Γ:Gam):Kd->JX Tg
 | .Name x _=>(aR Γ x).map .nm
 | .Tuple ts _ _=>(Do Γ ts).map .tp
 | _=>gV
abbrev fD (names:JS (J3×Ly)):JS J3:=(names.filter λp=>p.2==.local||p.2==.cell||p.2==.free).map (·.1)
abbrev eX (Γ:Gam)(names:JS (J3×Ly)):JS (JX J4):=(fD names).map λx=>if names.lookup x==bt .local||names.lookup x==bt .cell then gV else Γ.N.findIdx? (· == x)
abbrev wz (Γ:Gam)(scope:MM):Kn:=
 (scope.kind==.function)&&scope.names.all (λy=>!(y.2==.local)||scope.names.lookup y.1==bt .local)&&scope.names.all (λy=>!(y.2==.cell)||scope.names.lookup y.1==bt .cell) &&
 scope.names.all (λy=>!(y.2==.free)||(Ag (Γ.sc.lookup y.1)&&scope.names.lookup y.1==bt .free&&(Γ.N.findIdx? (· == y.1)).isSome))&&decide (fD scope.names).Nodup
abbrev fE (Γ:Gam)(scope:MM):Gam:={ Γ with sc:=eE scope.names Γ.sc,N:=fD scope.names,dfn:=false,own:=(scope.names.filter λp=>p.2==.cell).map (·.1) }
abbrev wD (f:Kd->JX E)(keys:JS (JX Kd))(values:JS Kd):JX E:=
 if keys.isEmpty&&values.isEmpty then bt .dnew
 else if keys.all (·.isSome)&&decide (keys.length=values.length)&&decide (keys.length<=15)then(cA f (rF keys values)).map .disp else gV
abbrev wF (Γ:Gam):Kd->JX (JS (J3×W))
 | .Name x _=>if br Γ x then Γ.gds.lookup x else gV
 | _=>gV
abbrev cE:J4->Gam->Kd->JX E
 | 0,_,_=>gV
 | n+1,Γ,e=>match e with
  | .Constant (.int i) _ _=>bt (.c (.int i))
  | .Constant (.str x) _ _=>bt (.c (.str x))
  | .Constant (.bool b) _ _=>bt (.c (.bl b))
  | .Constant .none _ _=>bt (.c .non)
  | .Name x _=>match slot Γ x with
   | some i=>bt (.v i)
   | none=>if br Γ x then(Γ.cst.lookup x).map .c else gV
  | .BinOp a op b _=>match rE op,cE n Γ a,cE n Γ b with
   | some o,bt a',bt b'=>bt (.op o a' b')
   | _,_,_=>gV
  | .UnaryOp .Not a _=>(cE n Γ a).map .not
  | .UnaryOp .USub a _=>(cE n Γ a).map .neg
  | .BoolOp op vs _=>cB (cE n Γ) op vs
  | .Compare a [op] [b] _=>match wF Γ b with
   | some U=>if op==.NotIn then(cE n Γ a).map (.gni U)else gV
   | none=>match iA op,cE n Γ a,cE n Γ b with
    | some o,bt a',bt b'=>bt (.cmp o a' b')
    | _,_,_=>gV
  | .Compare a [op,op'] [b,d] _=>match iA op,iA op',cE n Γ a,cE n Γ b,cE n Γ d with
   | some o,bt o',bt a',bt b',bt d'=>bt (.chn o o' a' b' d')
   | _,_,_,_,_=>gV
  | .IfExp t a b _=>match cE n Γ t,cE n Γ a,cE n Γ b with
   | some t',bt a',bt b'=>bt (.ite t' a' b')
   | _,_,_=>gV
  | .Call (.Name f _) args [] _=>if br Γ f then match Γ.fns.lookup f with
    | some k=>(cA (cE n Γ) args).map (.own f k)
    | none=>if f==("isinstance" : J3)then(if Γ.blt.contains f then Aj Γ (cE n Γ) args else gV)else match Ah f,args with
     | some b,a::as=>if Γ.blt.contains f then(cA (cE n Γ) (a::as)).map (.bi b)else gV
     | _,_=>gV
   else gV
  | .Call (.Attribute o m apos) (a::as) [] cpos=>match Ai m,cE n Γ o,cA (cE n Γ) (a::as)with
   | some m',bt o',bt es=>if eW o&&(apos.endLine==cpos.line)&&decide ((a::as).length < 29)then bt (.me m' o' es)else gV
   | _,_,_=>gV
  | .Subscript a (.Slice lo hi gV _) _=>match cE n Γ a,cP (cE n Γ) lo,cP (cE n Γ) hi with
   | some a',bt lo',bt hi'=>bt (.sl a' lo' hi')
   | _,_,_=>gV
  | .Subscript a b _=>match wF Γ a with
   | some U=>(cE n Γ b).map (.gix U)
   | none=>match cE n Γ a,cE n Γ b with
    | some a',bt b'=>bt (.ix a' b')
    | _,_=>gV
  | .Tuple es _ _=>(cA (cE n Γ) es).map .tup
  | .List es _=>(cA (cE n Γ) es).map .lst
  | .Dict keys values _=>wD (cE n Γ) keys values
  | .ListComp elt [#[tg,iter,ifs,asy]] scope _=>if (asy==0)&&(wz Γ scope&&decide (ifs.length<=1))then
    match cI Γ (cE n Γ) tg iter,cT (fE Γ scope) tg,cA (cE n (fE Γ scope)) ifs,cE n (fE Γ scope) elt with
    | some it,bt t,bt cs,bt el=>bt (.comp el t it cs (eX Γ scope.names))
    | _,_,_,_=>gV
   else gV
  | _=>gV
structure CtxOk (M:J3->FF)(X:Cx)(Γ:Gam):Prop where
 names:X.env.scope.names=Γ.sc
 kind:X.env.scope.kind=.function
 N:X.N=Γ.N
 nd:Γ.N.Nodup
 calm:X.calm=true
 xe:NU (model X.prog X.w) X.A X.env X.xe
 un:X.A.units+da < cLine
 dfn:Γ.dfn=true->∀x,X.fn x=true
 own:∀x∈Γ.own,X.fn x=true
 blt:∀x∈Γ.blt,X.mg x=gV
 cst:∀x w,Γ.cst.lookup x=bt w->ww X x w
 gds:∀x U,Γ.gds.lookup x=bt U->pV X x U
 fns:∀f n,Γ.fns.lookup f=bt n->∃k fa fd ps,FnOk X.prog X.w X.K X.mg X.base ji k fa fd ps (spF X.w X.K n (M f))/\Room k X.A/\X.mg f=bt (.ref fa)/\Lc X.K (.ref fa)=true/\Binds X.K fd ps []
def ah {α:Type}{x:α}{P:Prop}(h:(gV:JX α)=bt x):P:=nomatch h
abbrev dF:Kd->Kn
 | .Starred _ _=>false
 | _=>true
def aq {e:Kd}{es:JS Kd}{env:Oe}(h:dF e=true):starEach (e::es) env=(false,eval e env)::starEach es env:=by
 cases e <;> first|rfl|cases h
def aT {env:Oe}{pos:LG}:∀ {es:JS Kd},es.all dF=true->(backTo pos (starEach es env)).any (·.1)=false
 | [],_=>rfl
 | e::es,h=>by
  rw[KM,JY]at h;rw[aq h.1];show(false||(backTo pos (starEach es env)).any (·.1))=false
  rw[aT h.2];rfl
def og {env:Oe}{pos:LG}:∀ {es:JS Kd},es.all dF=true->(backTo pos (starEach es env)).all (λx=>!x.1)=true
 | [],_=>rfl
 | e::es,h=>by
  rw[KM,JY]at h;rw[aq h.1];show(true&&(backTo pos (starEach es env)).all (λx=>!x.1))=true
  rw[og h.2];rfl
def hX {n:J4}{Γ:Gam}{e:Kd}{e':E}(h:cE n Γ e=bt e'):dF e=true:=by
 cases n with
 | zero=>cases h
 | succ n=>cases e <;> first|rfl|(exact ah h)
def dG {f:Kd->JX E}{e:Kd}{es:JS Kd}{r:Es}(h:cA f (e::es)=bt r):∃e' es',f e=bt e'/\cA f es=bt es'/\r=.cons e' es':=by
 simp only[cA,Re]at h;split at h
 ·rename_i e' es' h1 h2;cases h;exact#[e',es',h1,h2,rfl]
 ·cases h
def aX {n:J4}{Γ:Gam}:∀ {es:JS Kd} {r:Es},cA (cE n Γ) es=bt r->es.all dF=true
 | [],_,_=>rfl
 | e::es,r,h=>by
  obtain⟨e',es',h1,h2,_⟩:=dG h;rw[KM,hX h1,aX h2];rfl
def a7 {N:JS J3}{x:J3}{i:J4}(h:N.findIdx? (· == x)=bt i):N[i]?=bt x:=by
 obtain⟨hl,h1,_⟩:=NI.mp h;rw[Kt hl];exact congrArg bt (eq_of_beq h1)
section
variable{M:J3->FF}{X:Cx}{Γ:Gam}
def iO {e:Kd}:GT X e (λ_ _=>gV):=λJ s Y H Q I #[A,Z,S,k,S',er,so,e1,hq]=>by cases e1
def oh {x:J3}(h:Dn (X.env.scope.names.lookup x)=true):Hi X.env.scope x:=by
 unfold Dn at h;split at h
 ·exact .inl (by assumption)
 ·exact .inr (.inl (by assumption))
 ·exact .inr (.inr (by assumption))
 ·cases h
def wH (K:CtxOk M X Γ){x:J3}{pos:LG}{i:J4}(h:slot Γ x=bt i):GE X (.Name x pos) (fV i):=by
 unfold slot at h;split at h
 ·rename_i hc;rw[JY,JY]at hc;obtain⟨⟨h1,h2⟩,h3⟩:=hc;show CU (fI (by rw[K.N]; exact a7 h) (oh (by rw[K.names]; exact h1)) (by simpa using h2) (by simpa using h3))
 ·cases h
def cK (K:CtxOk M X Γ){x:J3}(h:br Γ x=true):Gl X x/\(x==("__debug__" : J3))=false:=by
 unfold br at h;rw[JY]at h;show#[?_,by simpa using h.2]
 change X.env.scope.names.lookup x=_;rw[K.names];exact eq_of_beq h.1
def jK {o:OZ}{c:COp}(h:iA o=bt c):c.py=o:=by
 cases o <;> (simp only[iA,KF]at h; subst h; rfl)
def wI {o:P8}{c:BOp}(h:rE o=bt c):c.py=o:=by
 cases o <;> simp only[rE,KF]at h <;> first|(subst h; rfl)|cases h
def t8 {x:J3}{b:Bi}(h:Ah x=bt b):b.name=x:=by
 have:=Rf h;exact eq_of_beq this
def t9 {x:J3}{b:Me}(h:Ai x=bt b):b.name=x:=by
 have:=Rf h;exact eq_of_beq this
def bD {n:J4}(ih:∀ {e:Kd} {e':E},cE n Γ e=bt e'->GE X e (ap M e')):∀ {es:JS Kd} {r:Es},cA (cE n Γ) es=bt r->GA X es (aZ M r)
 | [],r,h=>by cases h; exact vY
 | e::es,r,h=>by
  obtain⟨e',es',h1,h2,rfl⟩:=dG h;exact rj (ih h1) (bD ih h2) (aq (hX h1))
def FU (K:CtxOk M X Γ){n:J4}{f:J3}{p pos:LG}{args:JS Kd}{k:J4}{r:Es}(hg:br Γ f=true)(hf:Γ.fns.lookup f=bt k)(ha:cA (cE n Γ) args=bt r)(h:GA X args (aZ M r)):GE X (.Call (.Name f p) args [] pos) (dC k (M f) (aZ M r)):=by
 obtain⟨d,fa,fd,ps,F,hr,hm,hk,hb⟩:=K.fns f k hf;obtain⟨g1,g2⟩:=cK K hg;cases args with
 | nil=>cases ha; exact zK F hr g1 hm hk hb g2
 | cons a as=>
  have ns:=aX ha;rw[KM,JY]at ns;exact C4 F hr g1 hm hk hb h g2 (aq ns.1) (aT ns.2)
def Iy (K:CtxOk M X Γ){n:J4}{f:J3}{p pos:LG}{a:Kd}{as:JS Kd}{b:Bi}{r:Es}(hg:br Γ f=true)(hb:Ah f=bt b)(hc:Γ.blt.contains f=true)(ha:cA (cE n Γ) (a::as)=bt r)(h:GA X (a::as) (aZ M r)):GE X (.Call (.Name f p) (a::as) [] pos) (iy b.fn (aZ M r)):=by
 obtain⟨g1,g2⟩:=cK K hg;have hm:X.mg f=gV:=K.blt f (by simpa using hc)
 have ns:=aX ha;rw[KM,JY]at ns;have e:=t8 hb;subst e;have hu:X.A.units+12 < cLine:=by have:=K.un; have:da=20:=rfl; omega
 have calm:∀ {f:JU} {g:JS W->aa->JX (W×aa)},(X.A.handled=gV->LCall X f g)->LCall X f g:=λh J s Y H A S xs vs us w S' I=>h (I.ok.hd K.calm) J s Y H A S xs vs us w S' I
 cases b with
 | len=>exact v4 (n6 pR pS) g1 hm PySem.boot_len h #v[] g2 (aq ns.1) (aT ns.2)
 | list=>exact rm (calm λhh=>n6 (nE hh) (nN hh)) g1 hm rfl h #v[] g2 (aq ns.1) (aT ns.2)
 | tuple=>exact rm (calm l5) g1 hm rfl h #v[] g2 (aq ns.1) (aT ns.2)
 | set=>exact rm (calm tF) g1 hm rfl h #v[] g2 (aq ns.1) (aT ns.2)
 | sorted=>exact v4 (calm λhh=>kB hh) g1 hm rfl h #v[] g2 (aq ns.1) (aT ns.2)
 | range=>exact rm nD g1 hm rfl h #v[] g2 (aq ns.1) (aT ns.2)
 | all=>exact v4 (calm tN) g1 hm rfl h #v[] g2 (aq ns.1) (aT ns.2)
def wJ {x:J3}{c:Ls}(h:wy x=bt c):bootBuiltins x=bt (.type c)/\x≠"__name__":=by
 unfold wy at h;split at h
 ·rename_i e; cases h; rw[eq_of_beq e]; exact#[rfl,#v[]]
 ·split at h
  ·rename_i e; cases h; rw[eq_of_beq e]; exact#[rfl,#v[]]
  ·split at h
   ·rename_i e; cases h; rw[eq_of_beq e]; exact#[rfl,#v[]]
   ·split at h
    ·rename_i e; cases h; rw[eq_of_beq e]; exact#[rfl,#v[]]
    ·split at h
     ·rename_i e; cases h; rw[eq_of_beq e]; exact#[rfl,#v[]]
     ·split at h
      ·rename_i e; cases h; rw[eq_of_beq e]; exact#[rfl,#v[]]
      ·cases h
def FV (K:CtxOk M X Γ){n:J4}{f:J3}{p pos:LG}{args:JS Kd}{r:E}(hg:br Γ f=true)(hb:(f==("isinstance" : J3))=true)(hc:Γ.blt.contains f=true)(ih:∀ {e:Kd} {e':E},cE n Γ e=bt e'->GE X e (ap M e'))(h:Aj Γ (cE n Γ) args=bt r) :
  GE X (.Call (.Name f p) args [] pos) (ap M r)/\∃a c,r=.isi c a:=by
 obtain⟨g1,g2⟩:=cK K hg;have hm:X.mg f=gV:=K.blt f (by simpa using hc)
 have e:=eq_of_beq hb;subst e;unfold Aj at h;split at h
 ·rename_i a c q;split at h
  ·rename_i hcc;rw[JY]at hcc;obtain⟨g3,g4⟩:=cK K (x:=c) hcc.1;have hm2:X.mg c=gV:=K.blt c (by simpa using hcc.2)
   split at h
   ·rename_i cs a' h1 h2;cases h;obtain⟨b1,b2⟩:=wJ h1;exact#[Dc g1 hm g3 hm2 b1 b2 g4 (ih h2) (aq (hX h2)),a',cs,rfl]
   ·cases h
  ·cases h
 ·cases h
def hZ {o:Kd}{name:J3}{env:Oe}(h:eW o=true):attributeBase o name env (eval o env)=eval o env:=by
 cases o <;> first|rfl|cases h
def rG {n:J4}{pos:LG}(ih:∀ {e:Kd} {e':E},cE n Γ e=bt e'->GE X e (ap M e')):∀(keys:JS (JX Kd)) (values:JS Kd) {r:Es},keys.all (·.isSome)=true->keys.length=values.length->cA (cE n Γ) (rF keys values)=bt r->FK X pos keys values (aZ M r)
 | [],[],r,_,_,h=>by cases h; exact zZ
 | [],_::_,r,_,hl,_=>by cases hl
 | _::_,[],r,_,hl,_=>by cases hl
 | none::_,_::_,r,ha,_,_=>by cases ha
 | some k::ks,v::vs,r,ha,hl,h=>by
  dsimp only[rF]at h;obtain⟨e1,es1,h1,h2,rfl⟩:=dG h;obtain⟨e2,es2,h3,h4,rfl⟩:=dG h2;rw[KM,JY]at ha;exact wg (ih h1) (ih h3) (rG ih ks vs ha.2 (by simpa using hl) h4)
def Iz (K:CtxOk M X Γ){n:J4}{m:J3}{apos cpos:LG}{o a:Kd}{as:JS Kd}{b:Me}{o':E}{r:Es}(hm:Ai m=bt b)(hr:eW o=true)(hl:(apos.endLine==cpos.line)=true)(hn:(a::as).length < 29)(ho:GE X o (ap M o'))(ha:cA (cE n Γ) (a::as)=bt r)(h:GA X (a::as) (aZ M r)) :
  GE X (.Call (.Attribute o m apos) (a::as) [] cpos) (ED b.ty b.fn (ap M o') (aZ M r)):=by
 have ns:=aX ha;have ns':=ns;rw[KM,JY]at ns;have few:((backTo cpos (starEach (a::as) X.env)).all (λx=>!x.1)&&(backToKw cpos (keywordEach [] X.env)).all (λx=>x.1.isSome)&&decide ((a::as).length+([]:JS Qc).length+(if ([]:JS Qc).isEmpty then 0 else 1) < 30))=true:=by
  rw[og ns',Lw,JY];exact#[rfl,Lh (by simp only[MJ,List.isEmpty_nil,MY]; omega)]
 have e:=t9 hm;subst e;cases b with
 | append=>exact v6 OO PySem.F.slot_list_append PySem.F.type_list_append lS ho h (hZ hr) few hl (aq ns.1) (aT ns.2)
 | extend=>exact v6 OO PySem.F.slot_list_extend PySem.F.type_list_extend lT ho h (hZ hr) few hl (aq ns.1) (aT ns.2)
 | join=>exact v6 PySem.F.plainAttrs_str PySem.F.slot_str_join PySem.F.type_str_join pA ho h (hZ hr) few hl (aq ns.1) (aT ns.2)
def gC {n:J4}{Γ:Gam}{e:Kd}{e':E}{op:OZ}(h:cE n Γ e=bt e'):behindInMarks op e=false:=by
 cases n with
 | zero=>cases h
 | succ n=>cases e <;> first|rfl|(exact ah h)
def jL {n:J4}{Γ:Gam}{e:Kd}{e':E}(h:cE n Γ e=bt e'):iI e:=by
 cases n with
 | zero=>cases h
 | succ n=>cases e <;> first|(intro o i; rfl)|(exact ah h)
def iP {n:J4}{Γ:Gam}{f:Kd->JX E}{e:Kd}{i:Ie}{env:Oe}{tg:Kd}(hf:∀el k p,f (.Set el k p)=gV)(h:cI Γ f tg e=bt i):∀x,foldedSetIterable e env x=pure x:=by
 intro x;cases e <;> first|rfl|(simp[cI,hf]at h)
def md {n:J4}{op:RE}{pos:LG}(ih:∀ {e:Kd} {e':E},cE n Γ e=bt e'->GE X e (ap M e')):∀ {vs:JS Kd} {r:E},cB (cE n Γ) op vs=bt r->GE X (.BoolOp op vs pos) (ap M r)
 | [],r,h=>by cases h
 | [a],r,h=>vV (ih h)
 | a::b::au,r,h=>by
  simp only[cB]at h;split at h
  ·rename_i a' b' h1 h2;cases h;cases op with
   | And=>exact vW (ih h1) (md ih h2)
   | Or=>exact Bm (ih h1) (md ih h2)
  ·cases h
def mf {n:J4}{op:RE}{pos:LG}(ih:∀ {e:Kd} {e':E},cE n Γ e=bt e'->GT X e (bz M e')):∀ {vs:JS Kd} {r:E},cB (cE n Γ) op vs=bt r->GW X (.BoolOp op vs pos) (bz M r)
 | [],r,h=>by cases h
 | [a],r,h=>by
  cases op with
  | And=>exact re (ih h)
  | Or=>exact vS (ih h)
 | a::b::au,r,h=>by
  simp only[cB]at h;split at h
  ·rename_i a' b' h1 h2;cases h;cases op with
   | And=>exact vT (ih h1) (mf ih h2)
   | Or=>exact Bl (ih h1) (mf ih h2)
  ·cases h
def wK {n:J4}(ih:∀ {e:Kd} {e':E},cE n Γ e=bt e'->GE X e (ap M e')){o:JX Kd}{p:Ep}(h:cP (cE n Γ) o=bt p):GO X o (rD M p):=by
 cases o with
 | none=>cases h; exact zI
 | some e=>
  simp only[cP,J0]at h;obtain⟨e',h1,rfl⟩:=h;exact zJ (ih h1)
def mh (K:CtxOk M X Γ){n:J4}(ih:∀ {e:Kd} {e':E},cE n Γ e=bt e'->GE X e (ap M e')){tg e:Kd}{i:Ie}(h:cI Γ (cE n Γ) tg e=bt i):GI X tg e (kD M i):=by
 have gen:(cE n Γ e).map Ie.seq=bt i->GI X tg e (kD M i):=λh=>by
  rw[J0]at h;obtain⟨e',h1,rfl⟩:=h;exact z8 (ih h1)
 unfold cI at h;split at h
 ·rename_i x p a pos;split at h
  ·rename_i hc;rw[JY,JY]at hc;obtain⟨⟨h1,h2⟩,h3⟩:=hc;have hx:=eq_of_beq h1;subst hx;rw[J0]at h;obtain⟨r,hr,rfl⟩:=h;have ns:=aX hr;rw[KM,JY]at ns;exact zW (cK K h2).1 (K.blt _ (by simpa using h3)) (bD ih hr) (aq ns.1)
  ·split at h
   ·rename_i hc;rw[JY,JY,JY]at hc;obtain⟨⟨⟨h1,h2⟩,h3⟩,h4⟩:=hc;have hx:=eq_of_beq h1;subst hx;rw[J0]at h;obtain⟨r,hr,rfl⟩:=h;have ns:=aX hr;rw[KM,JY]at ns;cases tg with
    | Tuple els k0 tp=>exact Ad (cK K h2).1 (K.blt _ (by simpa using h3)) (bD ih hr) (aq ns.1)
    | _=>cases h4
   ·exact gen h
 ·rename_i x p a b pos;split at h
  ·rename_i hc;rw[JY,JY,JY]at hc;obtain⟨⟨⟨h1,h2⟩,h3⟩,h4⟩:=hc;have hx:=eq_of_beq h1;subst hx;rw[J0]at h;obtain⟨r,hr,rfl⟩:=h;have ns:=aX hr;rw[KM,KM,JY,JY]at ns;cases tg with
   | Tuple els k0 tp=>exact Di (cK K h2).1 (K.blt _ (by simpa using h3)) (bD ih hr) (by rw[aq ns.1,aq ns.2.1]; rfl) (aq ns.2.1)
   | _=>cases h4
  ·split at h
   ·rename_i hc;rw[JY,JY]at hc;obtain⟨⟨h1,h2⟩,h3⟩:=hc;have hx:=eq_of_beq h1;subst hx;rw[J0]at h;obtain⟨r,hr,rfl⟩:=h;have ns:=aX hr;rw[KM,KM,JY,JY]at ns;exact zX (cK K h2).1 (K.blt _ (by simpa using h3)) (bD ih hr) (by rw[aq ns.1,aq ns.2.1]; rfl) (aq ns.2.1)
   ·exact gen h
 ·exact gen h
def iQ (K:CtxOk M X Γ){x:J3}{i:J4}(h:aR Γ x=bt i):X.N[i]?=bt x/\uz X.env.scope x/\(X.fn x=true\/X.env.scope.names.lookup x=bt .local):=by
 unfold aR at h;split at h
 ·rename_i hc;show#[by rw[K.N]; exact a7 h,?_]
  unfold L2.uz;rw[K.names];rw[L5,JY]at hc;rcases hc with hc|⟨hd,hc⟩
  ·have:=eq_of_beq hc;exact#[.inl this,.inr this]
  ·rw[L5]at hd;exact#[.inr (eq_of_beq hc),.inl (hd.elim (λhd=>K.dfn hd x) λhd=>K.own x (by simpa using hd))]
 ·cases h
def jM (K:CtxOk M X Γ):∀ {ts:JS Kd} {is:JS J4},Do Γ ts=bt is->(∀x∈ts,∃y p,x=Pq y p)/\OQ (λ(t:Kd) (i:J4)=>∃x p,t=Pq x p/\X.N[i]?=bt x/\uz X.env.scope x/\(X.fn x=true\/X.env.scope.names.lookup x=bt .local)) ts is
 | [],is,h=>by cases h; exact#[λx hx=>by simp at hx,.nil]
 | t::ts,is,h=>by
  cases t with
  | Name x p=>
   dsimp only[Do]at h;split at h
   ·rename_i i is' h1 h2;cases h;obtain⟨a,b⟩:=jM K h2;exact#[λy hy=>(J5.mp hy).elim (λe=>#[x,p,e]) (a y),.cons #[x,p,rfl,iQ K h1] b]
   ·cases h
  | _=>cases h
def cw {env:Oe}:∀ {ts:JS Kd},(∀x∈ts,∃y p,x=Pq y p)->(assignEach ts env).length=ts.length/\(assignEach ts env).findIdx? (·.1)=gV
 | [],_=>#[rfl,rfl]
 | t::ts,h=>by
  obtain⟨y,p,rfl⟩:=h t Kq;obtain⟨a,b⟩:=cw (env:=env) λx hx=>h x (Ko _ hx)
  show#[by show(assignEach ts env).length+1=ts.length+1; rw[a],?_]
  change List.findIdx? (·.1) ((false,assign (.Name y p) env)::assignEach ts env)=gV
  rw[List.findIdx?_cons,b];rfl
def ol (K:CtxOk M X Γ){tg:Kd}{t:Tg}(h:cT Γ tg=bt t):GG X tg (t6 t):=by
 have hN:X.N.Nodup:=by rw[K.N]; exact K.nd
 cases tg with
 | Name x p=>
  dsimp only[cT]at h; simp only[J0]at h
  obtain⟨i,h1,rfl⟩:=h;obtain⟨a,b,c⟩:=iQ K h1;exact iN hN a b c
 | Tuple ts k p=>
  dsimp only[cT]at h; simp only[J0]at h
  obtain⟨is,h1,rfl⟩:=h;obtain⟨a,b⟩:=jM K h1;exact v9 K.calm a b hN (cw a).1 (cw a).2
 | _=>cases h
end
abbrev cR (env:Oe):JS (J3×Ly)->JS (J3×td)->JS (J3×td)
 | [],cs=>cs
 | (n,k)::r,cs=>cR env r (if k==.free then(n,(env.cells.lookup n).getD 0)::cs else cs)
def ic {env:Oe}:∀(names:JS (J3×Ly)) (cs:JS (J3×td)),(∀y∈names,y.2=.free->(env.cells.lookup y.1).isSome=true)->
  (forIn names cs λx r=>match x with|(name,kind)=>if (kind==NA)=true then do let a <- cellOf env name; pure (L7 ((name,a)::r))else pure (L7 r):RM (JS (J3×td)))=pure (cR env names cs)
 | [],cs,_=>by rw[Oq]; rfl
 | (n,k)::r,cs,h=>by
  rw[N4];have hr:=λy hy=>h y (Ko _ hy)
  by_cases hk:(k==NA)=true
  ·obtain⟨c,hc⟩:=Lj.mp (h (n,k) Kq (eq_of_beq hk));have e1:cellOf env n=pure c:=by unfold cellOf; rw[hc]
   simp only[hk,MY,e1,pure_bind];rw[ic r _ hr];simp only[cR,hk,MY,hc,OM]
  ·have hk':(k==NA)=false:=by simpa using hk
   simp only[hk',Lk,Mx,pure_bind];rw[ic r _ hr];simp only[cR,hk',Lk,Mx]
def iH {scope:MM}{env:Oe}(h:∀y∈scope.names,y.2=.free->(env.cells.lookup y.1).isSome=true):closureFor scope env=pure (cR env scope.names []):=by
 have:=ic scope.names [] h;unfold closureFor;simp only[this,pure_bind]
def jN {env:Oe}:∀(names:JS (J3×Ly)) (cs:JS (J3×td)),(∀y∈names,y.2=.free->(env.cells.lookup y.1).isSome=true)->(∀x c,cs.lookup x=bt c->env.cells.lookup x=bt c)->
  ∀x c,(cR env names cs).lookup x=bt c->env.cells.lookup x=bt c
 | [],cs,_,h,x,c,e=>h x c e
 | (n,k)::r,cs,hn,h,x,c,e=>by
  show jN r _ (λy hy=>hn y (Ko _ hy)) (λx c e=>?_) x c e
  split at e
  ·rename_i hk;rw[KD]at e;split at e
   ·rename_i hx;cases e;have:=eq_of_beq hx;subst this;obtain⟨c,hc⟩:=Lj.mp (hn (x,k) Kq (eq_of_beq hk));rw[hc]; rfl
   ·exact h x c e
  ·exact h x c e
def iB {env:Oe}{x:J3}:∀(names:JS (J3×Ly)) (cs:JS (J3×td)),(∃c,cs.lookup x=bt c)->∃c,(cR env names cs).lookup x=bt c
 | [],cs,h=>h
 | (n,k)::r,cs,h=>by
  show iB r _ ?_;split
  ·rw[KD];split
   ·exact#[_,rfl]
   ·exact h
  ·exact h
def jO {env:Oe}{x:J3}:∀(names:JS (J3×Ly)) (cs:JS (J3×td)),(x,NA)∈names->∃c,(cR env names cs).lookup x=bt c
 | [],cs,h=>by simp at h
 | (n,k)::r,cs,h=>by
  rcases J5.mp h with e|h
  ·cases e;show iB r _ ?_;simp[KD]
  ·exact jO r _ h
def jP {x:J3}{k:Ly}:∀ {l:JS (J3×Ly)},l.lookup x=bt k->(x,k)∈l
 | [],h=>by simp at h
 | (n,j)::r,h=>by
  rw[KD]at h;split at h
  ·rename_i hx;cases h;have:=eq_of_beq hx;subst this;exact Kq
  ·exact Ko _ (jP h)
def cU {X:Cx}{M:J3->FF}{Γ:Gam}(K:CtxOk M X Γ)(scope:MM):(relabel scope X.env).names=eE scope.names Γ.sc:=by
 unfold relabel eE OX;rw[K.kind,K.names];show List.map_congr_left λ#[n,k] _=>?_
 have e:(P4==P4)=true:=rfl;simp only[e,Nd]
def cx {outer:JS (J3×Ly)}{x:J3}:∀ {names:JS (J3×Ly)},(eE names outer).lookup x=(names.lookup x).map λk=>if (k==.free&&outer.lookup x==bt .cell)then .cell else k
 | []=>rfl
 | (n,k)::r=>by
  have ih:=cx (outer:=outer) (x:=x) (names:=r);change Nn x ((if (k==NA&&outer.lookup n==bt .cell)=true then(n,Nf)else(n,k))::eE r outer)=_
  cases hx:x==n with
  | true=>
   have:=eq_of_beq hx;subst this;simp only[KD,KS,Lv];split <;> simp[KD]
  | false=>
   simp only[KD,hx];split <;> (simp only[KD,hx]; exact ih)
section
variable{M:J3->FF}{X:Cx}{Γ:Gam}
structure ScOk (Γ:Gam)(scope:MM):Prop where
 kind:scope.kind=.function
 names:∀y∈scope.names,y.2=.local->scope.names.lookup y.1=bt .local
 cell:∀y∈scope.names,y.2=.cell->scope.names.lookup y.1=bt .cell
 free:∀y∈scope.names,y.2=.free->Ag (Γ.sc.lookup y.1)=true/\scope.names.lookup y.1=bt .free/\(Γ.N.findIdx? (· == y.1)).isSome=true
 nd:(fD scope.names).Nodup
def rH {scope:MM}(h:wz Γ scope=true):ScOk Γ scope:=by
 unfold wz at h;rw[JY,JY,JY,JY]at h;obtain⟨⟨⟨⟨h1,h2⟩,h3⟩,h4⟩,h5⟩:=h;show#[eq_of_beq h1,λy hy e=>?_,λy hy e=>?_,λy hy e=>?_,La h5]
 ·have:=LS.mp h2 y hy;rw[e]at this
  simpa using this
 ·have:=LS.mp h3 y hy;rw[e]at this
  simpa using this
 ·have:=LS.mp h4 y hy;rw[e]at this;simp only[KS,NZ,NY,JY]at this;exact#[this.1.1,eq_of_beq this.1.2,this.2]
def rJ {o:JX Ly}(h:Ag o=true):o=bt .cell\/o=bt .free:=by
 unfold Ag at h;split at h
 ·exact .inl rfl
 ·exact .inr rfl
 ·cases h
def lj (K:CtxOk M X Γ)(ok:X.Ok){scope:MM}(sc:ScOk Γ scope):CompOk X scope (cR X.env scope.names []) (fD scope.names) (eX Γ scope.names):=by
 have cells:∀y∈scope.names,y.2=.free->(X.env.cells.lookup y.1).isSome=true:=λy hy e=>by
  have hk:=rJ (sc.free y hy e).1;obtain⟨c,hc⟩:=ok.has y.1 (by unfold OX; rw[K.names]; exact hk)
  rw[hc]; rfl
 have relab:∀x,((relabel scope X.env).names.lookup x=bt .cell\/(relabel scope X.env).names.lookup x=bt .free)->(x,Nf)∈scope.names\/(x,NA)∈scope.names:=λx h=>by
  rw[cU K,cx]at h;cases q:scope.names.lookup x with
  | none=>rw[q]at h; rcases h with h|h <;> cases h
  | some k=>
   rw[q]at h;have hm:=jP q;cases k with
   | free=>exact .inr hm
   | cell=>exact .inl hm
   | _=>rcases h with h|h <;> simp at h
 show#[iH cells,sc.kind,sc.names,jN _ _ cells (λx c e=>by cases e),λm x h=>hW _ _ _ ((relab x h).imp id λz=>jO _ _ z),by simp[eX],λi j x hi hx=>?_]
 unfold eX at hi;rw[KA,hx]at hi;simp only[Lv,KF]at hi;split at hi
 ·cases hi
 ·rename_i hl;have hx2:x∈fD scope.names:=Lr hx;unfold fD at hx2;obtain⟨⟨x',k⟩,hf,e⟩:=MQ.mp hx2;obtain⟨hm,hk⟩:=MG.mp hf;have e':x'=x:=e;subst e';have hkf:k=.free:=by
   simp only[L5]at hk;rcases hk with(hk|hk)|hk
   ·have:k=.local:=eq_of_beq hk;subst this;have:=sc.names (x',.local) hm rfl;rw[this]at hl;simp at hl
   ·have:k=.cell:=eq_of_beq hk;subst this;have:=sc.cell (x',.cell) hm rfl;rw[this]at hl;simp at hl
   ·exact eq_of_beq hk
  subst hkf;obtain⟨f1,f2,f3⟩:=sc.free _ hm rfl;show#[by rw[K.N]; exact a7 hi,by unfold OX; rw[K.names]; exact rJ f1,?_,λz=>by rw[sc.cell _ z rfl]at f2; cases f2]
  rw[cU K,cx,f2];simp only[Lv,KF,KS,Lw];split
  ·exact .inl rfl
  ·exact .inr rfl
def dh (K:CtxOk M X Γ){scope:MM}(sc:ScOk Γ scope)(C:td)(s0:JV)(H0:Hp)(ex:JS td):CtxOk M (ko X scope (cR X.env scope.names []) C (fD scope.names) s0 H0 ex) (fE Γ scope) where
 names:=cU K scope
 kind:=sc.kind
 N:=rfl
 nd:=sc.nd
 calm:=K.calm
 xe:=N6
 un:=K.un
 dfn:=λh=>by cases h
 own:=λx h=>by
  obtain⟨⟨y,k⟩,hy,e⟩:=MQ.mp h;obtain⟨hm,hk⟩:=MG.mp hy;have e':y=x:=e;subst e';exact QR.mpr #[(y,k),hm,by simpa using hk]
 blt:=K.blt
 cst:=K.cst
 gds:=K.gds
 fns:=K.fns
def om {cs:Es}{n:J4}{ifs:JS Kd}{Γ:Gam}(hl:ifs.length<=1)(hc:cA (cE n Γ) ifs=bt cs){Yj:Cx}(ih:∀ {e:Kd} {e':E},cE n Γ e=bt e'->GT Yj e (bz M e'))(hx:Yj.xe=λ_ _=>KT) :
  ∀J s Y H Q,Inv Yj J Y H s->tT Yj (Ae M cs) Y H Q->
  wpAny (model Yj.prog Yj.w) Yj.A (forIn ifs true λc r=>if r=true then do let ok <- isTrue c Yj.env (eval c Yj.env); pure (L7 ok)else pure (L7 r)) (TP Yj J Y Q) (λ_ _=>KT) s:=by
 intro J s Y H Q I h
 match ifs,hl,hc with
 | [],_,hc=>
  cases hc;obtain⟨A,Z,S,k,S',er,so,e,hq⟩:=h;cases e;exact wpAny_tests_nil #[H,I,hq _ _ #[rfl,A,.refl,so]]
 | [c],_,hc=>
  obtain⟨e',es',h1,h2,rfl⟩:=dG hc;cases h2;have:=ih h1 J s Y H Q I h;rw[hx]at this;exact wpAny_tests_one this
def aM:∀(n:J4) {Γ:Gam} {X:Cx} {e:Kd} {e':E},CtxOk M X Γ->cE n Γ e=bt e'->GE X e (ap M e')/\GT X e (bz M e'):=by
 intro n
 induction n with
 | zero=>intro Γ X e e' K h; cases h
 | succ n ih=>
  intro Γ X e e' K h;have ihE:∀ {e:Kd} {e':E},cE n Γ e=bt e'->GE X e (ap M e'):=λq=>(ih K q).1
  have ihT:∀ {e:Kd} {e':E},cE n Γ e=bt e'->GT X e (bz M e'):=λq=>(ih K q).2
  have hu10:X.A.units+10 < cLine:=by have:=K.un; have:da=20:=rfl; omega
  cases e with
  | Constant c k p=>
   cases c <;> cases h
   all_goals first
    | exact#[dX lC (λ_ _=>.non),aG (dX lC (λ_ _=>.non)) λ_=>rfl]
    | exact#[dX mO (λ_ _=>.bl),aG (dX mO (λ_ _=>.bl)) λ_=>rfl]
    | exact#[dX lB (λ_ _=>.int),aG (dX lB (λ_ _=>.int)) λ_=>rfl]
    | exact#[dX lD (λ_ _=>.str),aG (dX lD (λ_ _=>.str)) λ_=>rfl]
  | Name x p=>
   replace h:(match slot Γ x with|some i=>bt (E.v i)|none=>if br Γ x then(Γ.cst.lookup x).map E.c else gV)=bt e':=h
   split at h
   ·rename_i i h1;cases h;exact#[wH K h1,aG (wH K h1) λ_=>rfl]
   ·split at h
    ·rename_i hg;rw[J0]at h;obtain⟨w,h1,rfl⟩:=h;obtain⟨g1,g2⟩:=cK K hg;have g:=Dj (pos:=p) g1 g2 (K.cst x w h1);exact#[g,aG g λ_=>rfl]
    ·cases h
  | BinOp a op b p=>
   replace h:(match rE op,cE n Γ a,cE n Γ b with|some o,bt a',bt b'=>bt (E.op o a' b')|_,_,_=>gV)=bt e':=h
   split at h
   ·rename_i o a' b' h1 h2 h3;cases h;have e:=wI h1;subst e;exact#[Bk (qT o) (ihE h2) (ihE h3),aG (Bk (qT o) (ihE h2) (ihE h3)) λ_=>rfl]
   ·cases h
  | UnaryOp op a p=>
   cases op with
   | Not=>
    replace h:(cE n Γ a).map E.not=bt e':=h;rw[J0]at h;obtain⟨a',h1,rfl⟩:=h;exact#[vX (ihE h1),vU (ihT h1)]
   | USub=>
    replace h:(cE n Γ a).map E.neg=bt e':=h;rw[J0]at h;obtain⟨a',h1,rfl⟩:=h;exact#[vN (ihE h1),aG (vN (ihE h1)) λ_=>rfl]
   | _=>exact ah h
  | BoolOp op vs p=>
   replace h:cB (cE n Γ) op vs=bt e':=h;exact#[md ihE h,(mf ihT h).pt]
  | Compare a ops cs p=>
   match ops,cs,h with
   | [op],[b],h=>
    replace h:(match wF Γ b with|some U=>if op==.NotIn then(cE n Γ a).map (E.gni U)else gV|none=>match iA op,cE n Γ a,cE n Γ b with|some o,bt a',bt b'=>bt (E.cmp o a' b')|_,_,_=>gV)=bt e':=h
    split at h
    ·rename_i U hk;split at h
     ·rename_i hop;rw[J0]at h;obtain⟨a',h1,rfl⟩:=h;have hop':op=.NotIn:=by cases op <;> first|rfl|cases hop
      subst hop';cases b with
      | Name y py=>
       replace hk:(if br Γ y then Γ.gds.lookup y else gV)=bt U:=hk
       split at hk
       ·rename_i hg;obtain⟨g1,g2⟩:=cK K hg;exact#[Dl (p:=py) (pos:=p) g1 g2 (K.gds _ _ hk) (ihE h1),Dm (p:=py) (pos:=p) g1 g2 (K.gds _ _ hk) (ihE h1)]
       ·cases hk
      | _=>exact ah hk
     ·cases h
    ·split at h
     ·rename_i o a' b' h1 h2 h3;cases h;have e:=jK h1;subst e;exact#[CV K.un (ihE h2) (ihE h3) (gC h3),CW K.un (ihE h2) (ihE h3) (gC h3)]
     ·cases h
   | [],_,h=>exact ah h
   | [_],[],h=>exact ah h
   | [_],_::_::_,h=>exact ah h
   | [op,op'],[b,d],h=>
    replace h:(match iA op,iA op',cE n Γ a,cE n Γ b,cE n Γ d with|some o,bt o',bt a',bt b',bt d'=>bt (E.chn o o' a' b' d')|_,_,_,_,_=>gV)=bt e':=h
    split at h
    ·rename_i o o' a' b' d' h1 h2 h3 h4 h5;cases h;have e:=jK h1;subst e;have e:=jK h2;subst e;exact#[vO K.un (ihE h3) (ihE h4) (ihE h5) (gC h5),vP K.un (ihE h3) (ihE h4) (ihE h5) (gC h5)]
    ·cases h
   | [_,_],[],h=>exact ah h
   | [_,_],[_],h=>exact ah h
   | [_,_],_::_::_::_,h=>exact ah h
   | _::_::_::_,_,h=>exact ah h
  | IfExp t a b p=>
   replace h:(match cE n Γ t,cE n Γ a,cE n Γ b with|some t',bt a',bt b'=>bt (E.ite t' a' b')|_,_,_=>gV)=bt e':=h
   split at h
   ·rename_i t' a' b' h1 h2 h3;cases h;exact#[CY (ihT h1) (ihE h2) (ihE h3),iO]
   ·cases h
  | Call f args kws p=>
   cases kws with
   | cons _ _=>cases f <;> first|(exact ah h)|(cases args <;> (exact ah h))
   | nil=>
    cases f with
    | Name x q=>
     replace h:(if br Γ x then match Γ.fns.lookup x with|some k=>(cA (cE n Γ) args).map (E.own x k)|none=>if x==("isinstance" : J3)then(if Γ.blt.contains x then Aj Γ (cE n Γ) args else gV)else match (generalizing:=false) Ah x,args with|some b,a::as=>if Γ.blt.contains x then(cA (cE n Γ) (a::as)).map (E.bi b)else gV|_,_=>gV else gV)=bt e':=h
     split at h
     ·rename_i hg;split at h
      ·rename_i k hk;rw[J0]at h;obtain⟨r,hr,rfl⟩:=h;have g:=FU (pos:=p) (p:=q) K hg hk hr (bD ihE hr);exact#[g,aG g λ_=>rfl]
      ·split at h
       ·rename_i his;split at h
        ·rename_i hc;obtain⟨g,a',c',rfl⟩:=FV (pos:=p) (p:=q) K hg his hc ihE h;exact#[g,aG g λ_=>rfl]
        ·cases h
       ·split at h
        ·rename_i bb a as hb;split at h
         ·rename_i hc;rw[J0]at h;obtain⟨r,hr,rfl⟩:=h;have g:=Iy (pos:=p) (p:=q) K hg hb hc hr (bD ihE hr);exact#[g,aG g λ_=>rfl]
         ·cases h
        ·cases h
     ·cases h
    | Attribute o m q=>
     cases args with
     | nil=>exact ah h
     | cons a as=>
      replace h:(match Ai m,cE n Γ o,cA (cE n Γ) (a::as)with|some m',bt o',bt es=>if eW o&&(q.endLine==p.line)&&decide ((a::as).length < 29)then bt (E.me m' o' es)else gV|_,_,_=>gV)=bt e':=h
      split at h
      ·rename_i m' o' es h1 h2 h3;split at h
       ·rename_i hc;rw[JY,JY,KG]at hc;cases h;have g:=Iz K (cpos:=p) (apos:=q) h1 hc.1.1 hc.1.2 hc.2 (ihE h2) h3 (bD ihE h3);exact#[g,aG g λ_=>rfl]
       ·cases h
      ·cases h
    | _=>exact ah h
  | Subscript a b p=>
   have plain:(match wF Γ a with|some U=>(cE n Γ b).map (E.gix U)|none=>match cE n Γ a,cE n Γ b with|some a',bt b'=>bt (E.ix a' b')|_,_=>gV)=bt e'->GE X (.Subscript a b p) (ap M e')/\GT X (.Subscript a b p) (bz M e'):=λh=>by
    split at h
    ·rename_i U hk;rw[J0]at h;obtain⟨b',h1,rfl⟩:=h;unfold wF at hk;split at hk
     ·rename_i y py;split at hk
      ·rename_i hg;obtain⟨g1,g2⟩:=cK K hg;have g:=Dk (p:=py) (pos:=p) g1 g2 (K.gds _ _ hk) (ihE h1) (jL h1);exact#[g,aG g λ_=>rfl]
      ·cases hk
     ·cases hk
    ·split at h
     ·rename_i a' b' h1 h2;cases h;have g:=FB (pos:=p) hu10 (ihE h1) (ihE h2) (jL h2);exact#[g,aG g λ_=>rfl]
     ·cases h
   cases b with
   | Slice lo hi st q=>
    cases st with
    | none=>
     replace h:(match cE n Γ a,cP (cE n Γ) lo,cP (cE n Γ) hi with|some a',bt lo',bt hi'=>bt (E.sl a' lo' hi')|_,_,_=>gV)=bt e':=h
     split at h
     ·rename_i a' lo' hi' h1 h2 h3;cases h;have g:=FC (pos:=p) (p2:=q) (ihE h1) (wK ihE h2) (wK ihE h3);exact#[g,aG g λ_=>rfl]
     ·cases h
    | some z=>exact plain h
   | _=>exact plain h
  | Tuple es k p=>
   replace h:(cA (cE n Γ) es).map E.tup=bt e':=h;rw[J0]at h;obtain⟨r,h1,rfl⟩:=h;exact#[pN (bD ihE h1),aG (pN (bD ihE h1)) λ_=>rfl]
  | List es p=>
   replace h:(cA (cE n Γ) es).map E.lst=bt e':=h;rw[J0]at h;obtain⟨r,h1,rfl⟩:=h;exact#[v3 (bD ihE h1),aG (v3 (bD ihE h1)) λ_=>rfl]
  | Dict keys values p=>
   replace h:wD (cE n Γ) keys values=bt e':=h;unfold wD at h;split at h
   ·rename_i hc;cases h;rw[JY]at hc;have k0:keys=[]:=QT.mp hc.1;have v0:values=[]:=QT.mp hc.2;subst k0 v0;exact#[z5,iO]
   ·rename_i hc0;split at h
    ·rename_i hc;rw[JY,JY,KG,KG]at hc;rw[J0]at h;obtain⟨r,hr,rfl⟩:=h;have h0:keys≠[]:=λz=>by
      subst z;have v0:values=[]:=Mo.mp hc.1.2.symm;subst v0;exact hc0 rfl
     exact#[z6 (pos:=p) hu10 (rG ihE keys values hc.1.1 hc.1.2 hr) hc.1.1 hc.1.2 h0 hc.2,iO]
    ·cases h
  | ListComp elt gens scope p=>
   match gens,h with
   | [#[tg,iter,ifs,asy]],h=>
    replace h:(if (asy==0)&&(wz Γ scope&&decide (ifs.length<=1))then match cI Γ (cE n Γ) tg iter,cT (fE Γ scope) tg,cA (cE n (fE Γ scope)) ifs,cE n (fE Γ scope) elt with|some it,bt t,bt cs,bt el=>bt (E.comp el t it cs (eX Γ scope.names))|_,_,_,_=>gV else gV)=bt e':=h
    split at h
    ·rename_i hc;rw[JY,JY,KG]at hc;have e0:asy=0:=eq_of_beq hc.1;subst e0;replace hc:=hc.2;split at h
     ·rename_i it t cs el h1 h2 h3 h4;cases h;have sc:=rH hc.1;show#[z9 K.calm (mh K ihE h1) (λok=>#[_,lj K ok sc,?_]) (iP (n:=n) (λel k p=>by cases n <;> rfl) h1),iO]
      show#[λC s0 H0 ex=>ol (dh K sc C s0 H0 ex) h2,λC s0 H0 ex J s Y H Q I q=>?_,λC s0 H0 ex=>(ih (dh K sc C s0 H0 ex) h4).1]
      exact om hc.2 h3 (λz=>(ih (dh K sc C s0 H0 ex) z).2) rfl J s Y H Q I q
     ·cases h
    ·cases h
   | [],h=>exact ah h
   | #[_,_,_,_]::_::_,h=>exact ah h
  | _=>exact ah h
end
noncomputable abbrev aB:J4:=30
abbrev Bu:Kd->Kn
 | .Constant (.str _) _ _=>true
 | _=>false
abbrev ie:Kd->Kn
 | .ListComp _ _ _ _=>true
 | _=>false
abbrev rK:Kd->Kn
 | .Slice _ _ _ _=>true
 | _=>false
abbrev eF (f:Lp->JX Sm)(ss:JS Lp):JX Ss:=ss.foldr (λs acc=>match f s,acc with|some s',bt ss'=>bt (.cons s' ss')|_,_=>gV) (bt .nil)
abbrev Dp (Γ:Gam):JS Kd->Kd->JX Sm
 | [.Name x px,.Name y py],.Tuple [a,b] _ _=>match Γ.N.findIdx? (· == x),Γ.N.findIdx? (· == y),cA (cE aB Γ) [a,b]with
  | some i,bt j,bt es=>if !(i==j)&&(Γ.sc.lookup x==bt .local)&&(Γ.sc.lookup y==bt .local)&&(py.line==px.line) && !([a,b].all (foldedForSure 8)) && !([a,b].all (constantsAlone 8))then bt (.par i j es)else gV
  | _,_,_=>gV
 | _,_=>gV
abbrev cS:J4->Gam->Lp->JX Sm
 | 0,_,_=>gV
 | n+1,Γ,st=>match st with
  | .Assign [.Name x _] e _=>match aR Γ x,cE aB Γ e with
   | some i,bt e'=>bt (.set i e')
   | _,_=>gV
  | .Assign [.Tuple ts _ _] e _=>if isTup e then Dp Γ ts e else if ie e then gV else match Do Γ ts,cE aB Γ e with
   | some is,bt e'=>bt (.asg is e')
   | _,_=>gV
  | .Assign [.Subscript o k _] e _=>if rK k then gV else match cE aB Γ o,cE aB Γ k,cE aB Γ e with
   | some o',bt k',bt e'=>bt (.put o' k' e')
   | _,_,_=>gV
  | .Expr e _=>if Bu e then bt .pass else if ie e then gV else(cE aB Γ e).map .ex
  | .Return (bt e) _=>(cE aB Γ e).map .ret
  | .Return gV _=>bt .retN
  | .Pass _=>bt .pass
  | .Raise _ _ _=>bt .bad
  | .Break _=>bt .brk
  | .Continue _=>bt .cont
  | .If t a b _=>match cE aB Γ t,eF (cS n Γ) a,eF (cS n Γ) b with
   | some t',bt a',bt b'=>bt (.ite t' a' b')
   | _,_,_=>gV
  | .While t b [] _=>match cE aB Γ t,eF (cS n Γ) b with
   | some t',bt b'=>bt (.whl t' b')
   | _,_=>gV
  | .For tg it b [] _=>match cT Γ tg,cI Γ (cE aB Γ) tg it,eF (cS n Γ) b with
   | some t,bt i,bt b'=>bt (.loop t i b')
   | _,_,_=>gV
  | _=>gV
section
variable{M:J3->FF}{X:Cx}{Γ:Gam}{fuel:J4}
def gE {f:Lp->JX Sm}{s:Lp}{ss:JS Lp}{r:Ss}(h:eF f (s::ss)=bt r):∃s' ss',f s=bt s'/\eF f ss=bt ss'/\r=.cons s' ss':=by
 simp only[eF,Re]at h;split at h
 ·rename_i e' es' h1 h2;cases h;exact#[e',es',h1,h2,rfl]
 ·cases h
def dH {n:J4}(ih:∀ {st:Lp} {s':Sm},cS n Γ st=bt s'->GS X st (bH M fuel s')):∀ {ss:JS Lp} {r:Ss},eF (cS n Γ) ss=bt r->GSs X ss (bL M fuel r)
 | [],r,h=>by cases h; exact gw
 | s::ss,r,h=>by
  obtain⟨s',ss',h1,h2,rfl⟩:=gE h;exact jG (ih h1) (dH ih h2)
def jQ {e:Kd}{t:JX Kd}{l:J4}{env:Oe}(h:ie e=false)(n:J4){Γ:Gam}{e':E}(hc:cE n Γ e=bt e'):swapsWith e t l env=pure false:=by
 cases n with
 | zero=>cases hc
 | succ n=>cases e <;> first|(exfalso; exact ah hc)|rfl|cases h
def pW (K:CtxOk M X Γ){n:J4}{elt:Kd}{gens:JS Comprehension}{scope:MM}{p:LG}{e':E}(h:cE (n+1) Γ (.ListComp elt gens scope p)=bt e') :
  ∃tg iter ifs fi g c f cap,gens=[#[tg,iter,ifs,0]]/\ap M e'=jI fi g c f cap/\GI X tg iter fi/\(X.Ok->∃cl,CompOk X scope cl (fD scope.names) cap/\BlockOk X scope cl (fD scope.names) tg elt ifs g c f)/\∀x,foldedSetIterable iter X.env x=pure x:=by
 match gens,h with
 | [#[tg,iter,ifs,asy]],h=>
  replace h:(if (asy==0)&&(wz Γ scope&&decide (ifs.length<=1))then match cI Γ (cE n Γ) tg iter,cT (fE Γ scope) tg,cA (cE n (fE Γ scope)) ifs,cE n (fE Γ scope) elt with|some it,bt t,bt cs,bt el=>bt (E.comp el t it cs (eX Γ scope.names))|_,_,_,_=>gV else gV)=bt e':=h
  split at h
  ·rename_i hc;rw[JY,JY,KG]at hc;have e0:asy=0:=eq_of_beq hc.1;subst e0;replace hc:=hc.2;split at h
   ·rename_i it t cs el h1 h2 h3 h4;cases h;have sc:=rH hc.1;show#[tg,iter,ifs,_,_,_,_,_,rfl,rfl,mh K (λz=>(aM n K z).1) h1,λok=>#[_,lj K ok sc,?_],iP (n:=n) (λel k p=>by cases n <;> rfl) h1]
    show#[λC s0 H0 ex=>ol (dh K sc C s0 H0 ex) h2,λC s0 H0 ex J s Y H Q I q=>?_,λC s0 H0 ex=>(aM n (dh K sc C s0 H0 ex) h4).1]
    exact om hc.2 h3 (λz=>(aM n (dh K sc C s0 H0 ex) z).2) rfl J s Y H Q I q
   ·cases h
  ·cases h
 | [],h=>exact ah h
 | #[_,_,_,_]::_::_,h=>exact ah h
def FW (K:CtxOk M X Γ){x:J3}{px pos:LG}{e:Kd}{i:J4}{e':E}(hi:aR Γ x=bt i)(he:cE aB Γ e=bt e'):GS X (.Assign [.Name x px] e pos) (dE (ap M e') (zO i)):=by
 obtain⟨a,b,c⟩:=iQ K hi;have hN:X.N.Nodup:=by rw[K.N]; exact K.nd
 have plain:swapsWith e (bt (.Name x px)) pos.line X.env=pure false->GS X (.Assign [.Name x px] e pos) (dE (ap M e') (zO i)):=λhs=>l6 (aM _ K he).1 (iN hN a b c) hs (by cases e <;> rfl) rfl
 cases hc:ie e with
 | false=>exact plain (jQ hc _ he)
 | true=>
  cases e with
  | ListComp elt gens scope p=>
   cases hsw:(X.env.blockKind==.function&&X.env.kindOf x==bt .local&&px.line==p.line && !(scope.names.any λ(n,k)=>n==x&&(k==.local||k==.cell)))with
   | false=>
    show plain ?_;show(pure (X.env.blockKind==.function&&X.env.kindOf x==bt .local&&px.line==p.line && !(scope.names.any λ(n,k)=>n==x&&(k==.local||k==.cell))):RM Kn)=pure false
    rw[hsw]
   | true=>
    have hsw':swapsWith (.ListComp elt gens scope p) (bt (.Name x px)) pos.line X.env=pure true:=by
     show(pure (X.env.blockKind==.function&&X.env.kindOf x==bt .local&&px.line==p.line && !(scope.names.any λ(n,k)=>n==x&&(k==.local||k==.cell))):RM Kn)=pure true
     rw[hsw]
    rw[JY,JY,JY]at hsw;have hl:X.env.scope.names.lookup x=bt .local:=eq_of_beq hsw.1.1.2;obtain⟨tg,iter,ifs,fi,g,c',f,cap,rfl,e2,gi,hck,hs⟩:=pW K he;rw[e2];exact pT K.calm gi hck hs hsw' hN a hl
  | _=>cases hc
def oo (K:CtxOk M X Γ){x y:J3}{px py pt pt2:LG}{kt k2:J4}{a b:Kd}(hxy:x≠y)(hx:Γ.sc.lookup x=bt .local)(hy:Γ.sc.lookup y=bt .local)(hl:(py.line==px.line)=true)(h1:[a,b].all (foldedForSure 8)=false)(h2:[a,b].all (constantsAlone 8)=false)(hs:dF a=true)(hs2:dF b=true) :
  swappedStores [.Tuple [.Name x px,.Name y py] kt pt] (.Tuple [a,b] k2 pt2) X.env=pure (bt [x,y]):=by
 have kx:(X.env.kindOf x==bt .local)=true:=by unfold OX; rw[K.names,hx]; rfl
 have ky:(X.env.kindOf y==bt .local)=true:=by unfold OX; rw[K.names,hy]; rfl
 have bk:(X.env.blockKind != .function)=false:=by
  unfold Env.blockKind;rw[K.kind];rfl
 have hp:(px.line==px.line)=true:=by simp
 have ed:([x,y].eraseDups.length != [x,y].length)=false:=by
  have:(y==x)=false:=by simpa using Ne.symm hxy
  simp[Py,this]
 have kx':X.env.kindOf x=bt .local:=eq_of_beq kx;have ky':X.env.kindOf y=bt .local:=eq_of_beq ky;have hl':py.line=px.line:=eq_of_beq hl;have bk':X.env.blockKind=.function:=by simpa using bk
 have yx:(y==x)=false:=by simpa using Ne.symm hxy
 have h1':(foldedForSure 8 a&&foldedForSure 8 b)=false:=by simpa using h1
 have h2':(constantsAlone 8 a&&constantsAlone 8 b)=false:=by simpa using h2
 unfold swappedStores;simp only[LB,List.any_nil,PD,MV,List.filterMap_nil,kx',ky',bk',List.head?_cons,Lv,OM,KJ,MJ,KM,List.all_nil,Nd,h1',h2'];show Eq.trans (Kv ?_) (Eq.trans (Kv ?_) ?_)
 ·decide
 ·rw[L5];rintro(hh|hh)
  ·clear h1 h2 h1' h2';cases a <;> first|(cases hh; done)|(cases hs; done)
  ·clear h1 h2 h1' h2';cases b <;> first|(cases hh; done)|(cases hs2; done)
 ·dsimp only[Expr.pos]; simp[hl',yx,Py]
def iR (fuel:J4)(K:CtxOk M X Γ):∀(n:J4) {st:Lp} {s':Sm},cS n Γ st=bt s'->GS X st (bH M fuel s'):=by
 have hN:X.N.Nodup:=by rw[K.N]; exact K.nd
 have own:NU (model X.prog X.w) X.A X.env X.xe:=K.xe;intro n
 induction n with
 | zero=>intro st s' h; cases h
 | succ n ih=>
  intro st s' h;cases st with
  | Expr e p=>
   replace h:(if Bu e then bt Sm.pass else if ie e then gV else(cE aB Γ e).map Sm.ex)=bt s':=h
   split at h
   ·rename_i hd;cases h;cases e with
    | Constant c k q=>
     cases c with
     | str x=>exact C5
     | _=>cases hd
    | _=>cases hd
   ·split at h
    ·cases h
    ·rename_i hd hc;rw[J0]at h;obtain⟨e',h1,rfl⟩:=h;exact FD (aM _ K h1).1 (jQ (by simpa using hc) _ h1)
  | Return o p=>
   cases o with
   | none=>cases h; exact zN
   | some e=>
    replace h:(cE aB Γ e).map Sm.ret=bt s':=h;rw[J0]at h;obtain⟨e',h1,rfl⟩:=h;exact pO (aM _ K h1).1
  | Pass p=>cases h; exact zL
  | Raise exc cause pos=>cases h; exact λJ s D Y H I #[A,Z,S,o,S',er,so,e,hq]=>nomatch e
  | Break p=>cases h; exact v8
  | Continue p=>cases h; exact zM
  | If t a b p=>
   replace h:(match cE aB Γ t,eF (cS n Γ) a,eF (cS n Γ) b with|some t',bt a',bt b'=>bt (Sm.ite t' a' b')|_,_,_=>gV)=bt s':=h
   split at h
   ·rename_i t' a' b' h1 h2 h3;cases h;exact Bn (aM _ K h1).2 (dH ih h2) (dH ih h3)
   ·cases h
  | While t b o p=>
   cases o with
   | cons _ _=>exact ah h
   | nil=>
    replace h:(match cE aB Γ t,eF (cS n Γ) b with|some t',bt b'=>bt (Sm.whl t' b')|_,_=>gV)=bt s':=h
    split at h
    ·rename_i t' b' h1 h2;cases h;exact wb fuel own (aM _ K h1).2 (dH ih h2)
    ·cases h
  | For tg it b o p=>
   cases o with
   | cons _ _=>exact ah h
   | nil=>
    replace h:(match cT Γ tg,cI Γ (cE aB Γ) tg it,eF (cS n Γ) b with|some t,bt i,bt b'=>bt (Sm.loop t i b')|_,_,_=>gV)=bt s':=h
    split at h
    ·rename_i t i b' h1 h2 h3;cases h;exact Db own K.calm (mh K (λz=>(aM _ K z).1) h2) (ol K h1) (dH ih h3) (iP (n:=aB) (λel k p=>rfl) h2)
    ·cases h
  | Assign ts e p=>
   match ts,h with
   | [],h=>exact ah h
   | a::_::_,h=>cases a <;> exact ah h
   | [t],h=>
    cases t with
    | Name x px=>
     replace h:(match aR Γ x,cE aB Γ e with|some i,bt e'=>bt (Sm.set i e')|_,_=>gV)=bt s':=h
     split at h
     ·rename_i i e' h1 h2;cases h;exact FW K h1 h2
     ·cases h
    | Subscript o k q=>
     replace h:(if rK k then gV else match cE aB Γ o,cE aB Γ k,cE aB Γ e with|some o',bt k',bt e'=>bt (Sm.put o' k' e')|_,_,_=>gV)=bt s':=h
     split at h
     ·cases h
     ·rename_i hc;split at h
      ·rename_i o' k' e' h1 h2 h3;cases h;show l6 (aM _ K h3).1 (C7 (by have:=K.un; have:da=20:=rfl; omega) (aM _ K h1).1 (aM _ K h2).1 ?_) (by cases e <;> rfl) (by cases e <;> rfl) rfl
       intro v;cases k <;> first|rfl|exact absurd rfl hc
      ·cases h
    | Tuple ts' k q=>
     have par:∀ {x y:J3} {px py:LG} {a b:PySem.Expr} {k2:J4} {q2:LG},(match Γ.N.findIdx? (· == x),Γ.N.findIdx? (· == y),cA (cE aB Γ) [a,b]with
       | some i,bt j,bt es=>if !(i==j)&&(Γ.sc.lookup x==bt .local)&&(Γ.sc.lookup y==bt .local)&&(py.line==px.line) && !([a,b].all (foldedForSure 8)) && !([a,b].all (constantsAlone 8))then bt (Sm.par i j es)else gV
       | _,_,_=>gV)=bt s'->GS X (.Assign [.Tuple [.Name x px,.Name y py] k q] (.Tuple [a,b] k2 q2) p) (bH M fuel s'):=λ{x y px py a b k2 q2} h=>by
      split at h
      ·rename_i i j es h1 h2 h3;split at h
       ·rename_i hc;cases h;rw[JY,JY,JY,JY,JY]at hc;obtain⟨⟨⟨⟨⟨c1,c2⟩,c3⟩,c4⟩,c5⟩,c6⟩:=hc;have hij:i≠j:=by simpa using c1
        have ns:=aX h3;rw[KM,KM,JY,JY]at ns;have hi:X.N[i]?=bt x:=by rw[K.N]; exact a7 h1
        have hj:X.N[j]?=bt y:=by rw[K.N]; exact a7 h2
        show C8 K.calm hN hi hj hij (by rw[K.names]; exact eq_of_beq c2) (by rw[K.names]; exact eq_of_beq c3) (bD (λz=>(aM _ K z).1) h3) (oo K ?_ (eq_of_beq c2) (eq_of_beq c3) c4 (by rw[<- Qx]; exact c5) (by rw[<- Qx]; exact c6) ns.1 ns.2.1) rfl
        rintro rfl;rw[h1]at h2;cases h2;exact hij rfl
       ·cases h
      ·cases h
     replace h:(if isTup e then Dp Γ ts' e else if ie e then gV else match Do Γ ts',cE aB Γ e with|some is,bt e'=>bt (Sm.asg is e')|_,_=>gV)=bt s':=h
     split at h
     ·unfold Dp at h;split at h
      ·exact par h
      ·cases h
     ·split at h
      ·cases h
      ·rename_i hc1 hc2;split at h
       ·rename_i is e' h1 h2;cases h;show l6 (aM _ K h2).1 (ol (tg:=.Tuple ts' k q) (t:=.tp is) K (by(dsimp only[cT]; simp[h1]))) (jQ (t:=bt (.Tuple ts' k q)) (l:=p.line) (env:=X.env) (by simpa using hc2) _ h2) ?_ rfl
        cases e <;> first|rfl|exact absurd rfl hc1
       ·cases h
    | _=>exact ah h
  | _=>exact ah h
end
structure Df where
 ps:JS J3
 N:JS J3
 body:Ss
abbrev a9 (N:JS J3)(ws:JS W):Fm:=ws.map bt++KZ (N.length - ws.length) gV
abbrev ag (defs:JS (J3×Df))(fuel:J4):J4->J3->FF
 | 0,_,_,_=>gV
 | d+1,f,ws,S=>match defs.lookup f with
  | some df=>if ws.length=df.ps.length then match bL (ag defs fuel d) fuel df.body (a9 df.N ws) S with
    | some (.rt w,S')=>bt (w,S')
    | some (.nx _,S')=>bt (.non,S')
    | _=>gV
   else gV
  | none=>gV
structure Md where
 fns:JS (J3×J4)
 blt:JS J3
 cst:JS (J3×W)
 gds:JS (J3×JS (J3×W))
abbrev dQ (Mqa:Md)(st:Lp)(N:JS J3):Gam:={ sc:=(am st).names,N:=N,fns:=Mqa.fns,blt:=Mqa.blt,dfn:=true,own:=[],cst:=Mqa.cst,gds:=Mqa.gds }
abbrev FY (Mqa:Md)(st:Lp)(df:Df):Prop:=eF (cS 20 (dQ Mqa st df.N)) (aE st)=bt df.body
def bT {K:J2}{A:JS td}{H:Hp}{ws:JS W}{vs:JS V}{N:JS J3}(r:RelL K A H ws vs):EnvRel K A H (a9 N ws) (d0 N vs):=by
 show#[by simp[a9,L2.d0,r.length],λi w h=>?_]
 unfold a9 at h;unfold L2.d0
 by_cases hi:i < ws.length
 ·rw[KY (by simpa using hi),KA]at h
  rw[KY (by rw[J6,<- r.length]; exact hi),KA]
  cases q:ws[i]? with
  | none=>rw[q]at h; cases h
  | some w'=>
   rw[q]at h;simp only[Lv,KF]at h;subst h;obtain⟨v,h1,h2⟩:=r.get q;exact#[v,by rw[h1]; rfl,h2]
 ·rw[Mw (by simpa using hi)]at h
  have:=Lr h;simp at this
section
variable{P:Ke}{w:Kr}{K:J2}{mg:J3->JX JU}{base:KB}
abbrev rL (P:Ke)(w:Kr)(K:J2)(mg:J3->JX JU)(base:KB)(Mqa:Md)(defs:JS (J3×Df))(fuel d:J4):Prop:=
 ∀f n,Mqa.fns.lookup f=bt n->∃fa fd ps,FnOk P w K mg base ji (d+2) fa fd ps (spF w K n (ag defs fuel d f))/\mg f=bt (.ref fa)/\Lc K (.ref fa)=true/\Binds K fd ps []
structure MdOk (w:Kr)(K:J2)(mg:J3->JX JU)(Mqa:Md):Prop where
 blt:∀y∈Mqa.blt,mg y=gV
 cst:∀X:Cx,X.w=w->X.K=K->X.mg=mg->∀x w,Mqa.cst.lookup x=bt w->ww X x w
 gds:∀X:Cx,X.w=w->X.K=K->X.mg=mg->∀x U,Mqa.gds.lookup x=bt U->pV X x U
def Bv {Mqa:Md}{defs:JS (J3×Df)}{fuel d:J4}{x qual:J3}{st:Lp}{f:td}{fd:Lb}{df:Df}(F:Fun K x qual st f fd)(S:FnScope df.N df.ps (am st))(hd:defs.lookup x=bt df)(hc:FY Mqa st df)
  (hb:MdOk w K mg Mqa) (prev:rL P w K mg base Mqa defs fuel d):FnOk P w K mg base ji (d+3) f fd df.ps (spF w K df.ps.length (ag defs fuel (d+1) x)):=by
 show F.ok S (λvs H Q E h=>?_) (λcdv A outer s H vs Q E hr h=>?_)
 ·obtain⟨A,S,ws,w',S',_,rl,hl,_⟩:=h;rw[<- rl.length]; exact hl
 ·obtain⟨A',St,ws,w',S',so,rl,hl,e,hq⟩:=h;have K':CtxOk (ag defs fuel d) (d6 ji P w K mg base df.N qual (am st) f cdv A outer s H E).nox (dQ Mqa st df.N):=by
   show#[rfl,S.kind,rfl,S.nd,rfl,N6,?_,λ_ _=>rfl,λ_ h=>(nomatch h),hb.blt,hb.cst _ rfl rfl rfl,hb.gds _ rfl rfl rfl,λg n hg=>?_]
   ·have:=hr.un;show(A.deeper _).units+20 < cLine;omega
   ·obtain⟨fa,fd',ps',h1,h2,h3,h4⟩:=prev g n hg;exact#[d+2,fa,fd',ps',h1,hr,h2,h3,h4]
  show#[tS _ (bL (ag defs fuel d) fuel df.body),dH (λz=>iR fuel K' 20 z) hc,?_]
  (dsimp only[ag]at e; simp only[hd]at e)
  rw[Ks hl]at e;split at e
  ·rename_i w1 S1 h1;cases e;show#[A',a9 df.N ws,St,_,_,bT rl,so,h1,#[λY' H' #[_,_,z,_,_,_]=>(by cases z),λv H' #[w2,A2,z0,z1,z2,z3]=>?_,λY' H' #[_,_,z,_,_,_]=>(by cases z),λY' H' #[_,_,z,_,_,_]=>(by cases z)]]
   cases z0;exact hq v H' #[A2,z1,z2,z3]
  ·rename_i Z1 S1 h1;cases e;show#[A',a9 df.N ws,St,_,_,bT rl,so,h1,#[λY' H' #[w2,A2,z0,z1,z2,z3]=>?_,λY' H' #[_,_,z,_,_,_]=>(by cases z),λY' H' #[_,_,z,_,_,_]=>(by cases z),λY' H' #[_,_,z,_,_,_]=>(by cases z)]]
   exact hq _ H' #[A2,z1,z2,.non]
  ·cases e
def ud {H:Hp}{a:td}{ns:JS Kk}(hO:uV H)(hS:SqL K H a (ns.map V.int)):StoreOk w K [a] H [.fro (ns.map W.int)]/\RelL K [a] H [.ref 0] [.ref a]:=by
 have rl:∀ns:JS Kk,RelL K [a] H (ns.map W.int) (ns.map V.int):=by
  intro ns
  induction ns with
  | nil=>exact .nil
  | cons n ns ih=>exact .cons .int ih
 have fr:FroL K H a (ns.map V.int):=by
  rcases hS with(h|⟨o,h⟩)|h
  ·rcases hO a with z|⟨o,xs,z⟩ <;> (rw[z]at h; cases h)
  ·exact .inl #[o,h]
  ·exact .inr h
 show#[#[rfl,λi j b o u e1 m1 e2 m2 _ _=>?_,λi o b e1 e2=>?_],.cons (.ref rfl) .nil]
 ·cases i with
  | zero=>simp at e1; subst e1; cases m1
  | succ i=>simp at e1
 ·cases i with
  | zero=>
   simp at e1 e2;subst e1 e2;exact#[_,fr,rl ns]
  | succ i=>simp at e1
def Dq {g:FF}{H:Hp}{a:td}{ns:JS Kk}(h:∃S',g [.ref 0] [.fro (ns.map W.int)]=bt (.bl true,S'))(hO:uV H)(hS:SqL K H a (ns.map V.int)):spF w K 1 g [.ref a] H (λv _=>v=.bl true) λ_ _ _=>KT:=by
 obtain⟨S',e⟩:=h;obtain⟨so,rl⟩:=ud hO hS;exact#[[a],_,_,_,S',so,rl,rfl,e,λv H' #[A',z1,z2,z3]=>by cases z3; rfl]
end
end Mi
namespace Mi
open PySem PySem.Spec PyProof.Rows L2 Xc
abbrev rM (N:JS J3)(fs:FS):FF:=λws S=>match fs (a9 N ws) S with
 | some (.rt w,S')=>bt (w,S')
 | some (.nx _,S')=>bt (.non,S')
 | _=>gV
abbrev Bw (N:JS J3)(fx:FX):FJ:=λws S=>fx (a9 N ws) S
section
variable{P:Ke}{w:Kr}{K:J2}{mg:J3->JX JU}{base:KB}{cl:Cl}
def Dr {N ps:JS J3}{x qual:J3}{st:Lp}{f:td}{fd:Lb}{k:J4}{fs:FS}{fx:FX}(F:Fun K x qual st f fd)(S:FnScope N ps (am st))
  (body:∀(cdv:JU) (A:Kw) (outer:JS Oe) (s:JV) (H:Hp) (E:L2.XK),Room k (A.deeper (envOfC qual (am st) s.heap.objs.size f cdv))->Bo (d6 (CXx P w) P w K mg base N qual (am st) f cdv A outer s H E) cl E (aE st) fs fx) :
  FnOk P w K mg base (CXx P w) (k+1) f fd ps (spX w K cl ps.length (rM N fs) (Bw N fx)):=by
 obtain⟨oc,od,kV,doc,pm,an,cdv,ct,osl,rfl,lk,hcd⟩:=F.ex;show AZ lk hcd S (λvs H Q E h=>?_) λA outer s H vs Q E hr hsp=>#[_,body cdv A outer s H E hr,?_]
 ·rcases h with⟨A,S,ws,w',S',_,rl,hl,_⟩|⟨A,S,ws,_,_,_,_,_,_,rl,hl,_⟩
  ·rw[<- rl.length]; exact hl
  ·rw[<- rl.length]; exact hl
 ·rcases hsp with⟨A',St,ws,w',S',so,rl,hl,e,hq⟩|⟨A',St,ws,cn,us,S',C,gs,so,rl,hl,e,hc,hq⟩
  ·apply Or.inl;unfold rM at e;split at e
   ·rename_i w1 S1 h1;cases e;show#[A',a9 N ws,St,_,_,bT rl,so,h1,#[λY' H' #[_,_,z,_,_,_]=>(by cases z),λv H' #[w2,A2,z0,z1,z2,z3]=>?_,λY' H' #[_,_,z,_,_,_]=>(by cases z),λY' H' #[_,_,z,_,_,_]=>(by cases z)]]
    cases z0;exact hq v H' #[A2,z1,z2,z3]
   ·rename_i Z1 S1 h1;cases e;show#[A',a9 N ws,St,_,_,bT rl,so,h1,#[λY' H' #[w2,A2,z0,z1,z2,z3]=>?_,λY' H' #[_,_,z,_,_,_]=>(by cases z),λY' H' #[_,_,z,_,_,_]=>(by cases z),λY' H' #[_,_,z,_,_,_]=>(by cases z)]]
    exact hq _ H' #[A2,z1,z2,.non]
   ·cases e
  ·exact .inr #[A',a9 N ws,St,cn,us,S',C,gs,bT rl,so,e,hc,hq]
def Ak {N:JS J3}{qual:J3}{scope:MM}{f:td}{cd:JU}{A:Kw}{outer:JS Oe}{s0:JV}{H0:Hp}{E:L2.XK}:zR (d6 (CXx P w) P w K mg base N qual scope f cd A outer s0 H0 E) E:=
 λ_ _ _ _ _ _ _ _ Yj q=>CG Yj q
end
def Ds {P:Ke}{w:Kr}{K:J2}{mg:J3->JX JU}{base:KB}{N:JS J3}{qual:J3}{scope:MM}{f:td}{cd:JU}{A:Kw}{outer:JS Oe}{s0:JV}{H0:Hp}{E:L2.XK} :
  NU (model P w) (d6 (CXx P w) P w K mg base N qual scope f cd A outer s0 H0 E).A (d6 (CXx P w) P w K mg base N qual scope f cd A outer s0 H0 E).env (d6 (CXx P w) P w K mg base N qual scope f cd A outer s0 H0 E).xe:=Tf
abbrev dI (mi:MI)(g:FG)(b:FS)(bx:FX):J4->J4->FX
 | 0,_,_,_=>gV
 | n+1,i,Z,S=>match mi.at S i with
  | some (bt w)=>match g w Z S with
   | some (Z1,S1)=>match b Z1 S1 with
    | some (.nx Z2,S2)=>dI mi g b bx n (i+1) Z2 S2
    | some (.ct Z2,S2)=>dI mi g b bx n (i+1) Z2 S2
    | some _=>gV
    | none=>bx Z1 S1
   | none=>gV
  | _=>gV
abbrev rN (fi:FI)(g:FG)(b:FS)(bx:FX):FX:=λZ S=>match fi Z S with
 | some (mi,S1)=>match mi.len S1 with
  | some n=>dI mi g b bx n 0 Z S1
  | none=>gV
 | none=>gV
def Dt {X:Cx}{cl:Cl}{Ew:L2.XK}{tg iter:Kd}{body:JS Lp}{pos:LG}{fi:FI}{g:FG}{fb:FS}{fx:FX}(hp:NU (model X.prog X.w) X.A X.env X.xe)(hc:X.calm=true)(hi:GI X tg iter fi)(hg:GG X tg g)(hb:Bo X cl Ew body fb fx)
  (hs:∀x,foldedSetIterable iter X.env x=pure x):GX X cl Ew (.For tg iter body [] pos) (iG fi g fb) (rN fi g fb fx):=λJ s Y H D I q=>by
 show uH hp hc hi hg hb hs J s Y H D I ?_;rcases q with⟨A,Z,S,o,S',er,so,e,hd⟩|⟨A,Z,S,cn,ws,S',C,gs,er,so,e,hcl,q⟩
 ·unfold iG at e;split at e
  ·rename_i mi S1 h1;split at e
   ·rename_i n hn;show#[A,Z,S,mi,S1,er,so,h1,λtx H1 A1 z1 z2 mit=>?_]
    show#[λi m Y2 H2=>∃A2 Z2 S2,Ext X.K A1 H1 A2 H2/\EnvRel X.K A2 H2 Z2 Y2/\StoreOk X.w X.K A2 H2 S2/\bq mi g fb m i Z2 S2=bt (o,S'),#[n,A1,Z,S1,.refl,er.mono z1,z2,e],?_]
    rintro i m Y2 H2 ⟨A2,Z2,S2,e2,er2,so2,w2⟩;cases m with
    | zero=>
     dsimp only[bq]at w2;split at w2
     ·rename_i hs;cases w2;exact .inl #[mit.stop A2 H2 _ i e2 so2 hs,hd.nx _ _ #[_,A2,rfl,z1.trans e2,so2,er2]]
     ·cases w2
    | succ m=>
     dsimp only[bq]at w2;split at w2
     ·rename_i w hw;obtain⟨go,yl⟩:=mit.go A2 H2 S2 i w e2 so2 hw;show .inr #[go,λY3 H3=>∃A3 Z3 S3,Ext X.K A1 H1 A3 H3/\EnvRel X.K A3 H3 Z3 Y3/\StoreOk X.w X.K A3 H3 S3/\bq mi g fb m (i+1) Z3 S3=bt (o,S'),λY' H' h=>#[m,K4 _,h],λx H3 hy=>?_]
      obtain⟨x1,x2,x3⟩:=yl x H3 hy;split at w2
      ·rename_i Z3 S3 h3;show#[A2,Z2,S2,w,Z3,S3,er2.mono x1,x2,x3,h3,λY4 H4 A4 y1 y2 y3=>?_]
       have ex:Ext X.K A1 H1 A4 H4:=(e2.trans x1).trans y1;split at w2
       ·rename_i Z5 S5 h5;show .inl #[A4,Z3,S3,_,S5,y3,y2,h5,#[λY' H' #[Z',A',u0,u1,u2,u3]=>?_,λv H' #[w,A',y0,_,_,_]=>(by cases y0),λv H' #[w,A',y0,_,_,_]=>(by cases y0),λv H' #[w,A',y0,_,_,_]=>(by cases y0)]]
        cases u0;exact#[A',_,S5,ex.trans u1,u3,u2,w2]
       ·rename_i Z5 S5 h5;show .inl #[A4,Z3,S3,_,S5,y3,y2,h5,#[λv H' #[w,A',y0,_,_,_]=>(by cases y0),λv H' #[w,A',y0,_,_,_]=>(by cases y0),λv H' #[w,A',y0,_,_,_]=>(by cases y0),λY' H' #[Z',A',u0,u1,u2,u3]=>?_]]
        cases u0;exact#[A',_,S5,ex.trans u1,u3,u2,w2]
       ·rename_i Z5 S5 h5;cases w2;show .inl #[A4,Z3,S3,_,_,y3,y2,h5,#[λv H' #[w,A',y0,_,_,_]=>(by cases y0),λv H' #[w,A',y0,_,_,_]=>(by cases y0),λY' H' #[Z',A',u0,u1,u2,u3]=>?_,λv H' #[w,A',y0,_,_,_]=>(by cases y0)]]
        cases u0;exact hd.nx _ _ #[_,A',rfl,(z1.trans ex).trans u1,u2,u3]
       ·rename_i w5 S5 h5;cases w2;show .inl #[A4,Z3,S3,_,_,y3,y2,h5,#[λv H' #[w,A',y0,_,_,_]=>(by cases y0),λv H' #[w,A',u0,u1,u2,u3]=>?_,λv H' #[w,A',y0,_,_,_]=>(by cases y0),λv H' #[w,A',y0,_,_,_]=>(by cases y0)]]
        cases u0;exact hd.rt _ _ #[_,A',rfl,(z1.trans ex).trans u1,u2,u3]
       ·cases w2
      ·cases w2
     ·cases w2
   ·cases e
  ·cases e
 ·unfold rN at e;split at e
  ·rename_i mi S1 h1;split at e
   ·rename_i n hn;show#[A,Z,S,mi,S1,er,so,h1,λtx H1 A1 z1 z2 mit=>?_]
    show#[λi m Y2 H2=>∃A2 Z2 S2,Ext X.K A1 H1 A2 H2/\EnvRel X.K A2 H2 Z2 Y2/\StoreOk X.w X.K A2 H2 S2/\dI mi g fb fx m i Z2 S2=bt (cn,ws,S'),#[n,A1,Z,S1,.refl,er.mono z1,z2,e],?_]
    rintro i m Y2 H2 ⟨A2,Z2,S2,e2,er2,so2,w2⟩;cases m with
    | zero=>cases w2
    | succ m=>
     dsimp only[dI]at w2;split at w2
     ·rename_i w hw;obtain⟨go,yl⟩:=mit.go A2 H2 S2 i w e2 so2 hw;show .inr #[go,λY3 H3=>∃A3 Z3 S3,Ext X.K A1 H1 A3 H3/\EnvRel X.K A3 H3 Z3 Y3/\StoreOk X.w X.K A3 H3 S3/\dI mi g fb fx m (i+1) Z3 S3=bt (cn,ws,S'),λY' H' h=>#[m,K4 _,h],λx H3 hy=>?_]
      obtain⟨x1,x2,x3⟩:=yl x H3 hy;split at w2
      ·rename_i Z3 S3 h3;show#[A2,Z2,S2,w,Z3,S3,er2.mono x1,x2,x3,h3,λY4 H4 A4 y1 y2 y3=>?_]
       have ex:Ext X.K A1 H1 A4 H4:=(e2.trans x1).trans y1;split at w2
       ·rename_i Z5 S5 h5;show .inl #[A4,Z3,S3,_,S5,y3,y2,h5,#[λY' H' #[Z',A',u0,u1,u2,u3]=>?_,λv H' #[w,A',y0,_,_,_]=>(by cases y0),λv H' #[w,A',y0,_,_,_]=>(by cases y0),λv H' #[w,A',y0,_,_,_]=>(by cases y0)]]
        cases u0;exact#[A',_,S5,ex.trans u1,u3,u2,w2]
       ·rename_i Z5 S5 h5;show .inl #[A4,Z3,S3,_,S5,y3,y2,h5,#[λv H' #[w,A',y0,_,_,_]=>(by cases y0),λv H' #[w,A',y0,_,_,_]=>(by cases y0),λv H' #[w,A',y0,_,_,_]=>(by cases y0),λY' H' #[Z',A',u0,u1,u2,u3]=>?_]]
        cases u0;exact#[A',_,S5,ex.trans u1,u3,u2,w2]
       ·cases w2
       ·exact .inr #[A4,Z3,S3,cn,ws,S',C,gs,y3,y2,w2,hcl,λcls dd H5 z=>q cls dd H5 ((z.after ex).after z1)]
      ·cases w2
     ·cases w2
   ·cases e
  ·cases e
end Mi
namespace Mi
open PySem PySem.Spec PyProof.Rows L2
abbrev Wp {α:Type}(o:JX α)(Q:α->Prop):Prop:=∃a,o=bt a/\Q a
def ac {α:Type}{a:α}{Q:α->Prop}:Wp (bt a) Q↔Q a:=#[λ#[b,e,h]=>(by cases e; exact h),λh=>#[a,rfl,h]]
def ae {α:Type}{Q:α->Prop}:Wp (gV:JX α) Q↔KT:=#[λ#[b,e,h]=>(by cases e),λh=>h.elim]
def Wp.mono {α:Type}{o:JX α}{Q Q':α->Prop}(h:Wp o Q)(k:∀a,Q a->Q' a):Wp o Q':=let ⟨a,e,q⟩:=h; #[a,e,k a q]
def IA {α β:Type}{o:JX α}{f:α->β}{Q:β->Prop}:Wp (o.map f) Q↔Wp o λa=>Q (f a):=by cases o <;> simp[ac,ae]
section
variable{M:J3->FF}{fuel:J4}{Z:Fm}{S:aa}
noncomputable abbrev QW:=W×aa->Prop
def JD {w:W}{Q:QW}:Wp (ap M (.c w) Z S) Q↔Q (w,S):=by(dsimp only[ap]; simp[fC,ac,ae])
def Jo {i:J4}{Q:QW}:Wp (ap M (.v i) Z S) Q↔∃w,Z[i]?=bt (bt w)/\Q (w,S):=by
 (dsimp only[ap]; simp only[fV])
 rcases h:Z[i]? with _|_|w <;> simp[ac,ae]
def wL {g:W->W->aa->JX (W×aa)}{a b:FE}{Q:QW}:Wp (zD g a b Z S) Q↔Wp (a Z S) λp=>Wp (b Z p.2) λq=>Wp (g p.1 q.1 q.2) Q:=by
 unfold zD;rcases h:a Z S with _|⟨x,S1⟩
 ·simp[ac,ae]
 ·rcases h2:b Z S1 with _|⟨y,S2⟩ <;> simp[ac,ae,h2]
def IB {o:BOp}{a b:E}{Q:QW}:Wp (ap M (.op o a b) Z S) Q↔Wp (ap M a Z S) λp=>Wp (ap M b Z p.2) λq=>Wp (gS o p.1 q.1 q.2) Q:=by dsimp only[ap]; exact wL
def Bx {o:COp}{a b:E}{Q:QW}:Wp (ap M (.cmp o a b) Z S) Q↔Wp (ap M a Z S) λp=>Wp (ap M b Z p.2) λq=>Wp (dW o p.1 q.1 q.2) Q:=by dsimp only[ap]; exact wL
def IC {a b:E}{Q:QW}:Wp (ap M (.ix a b) Z S) Q↔Wp (ap M a Z S) λp=>Wp (ap M b Z p.2) λq=>Wp (nJ p.1 q.1 q.2) Q:=by dsimp only[ap]; exact wL
def FZ {a b:E}{Q:QW}:Wp (ap M (.and a b) Z S) Q↔Wp (ap M a Z S) λp=>∃k,p.1=.bl k/\(k=true->Wp (ap M b Z p.2) Q)/\(k=false->Q (.bl false,p.2)):=by
 (dsimp only[ap]; dsimp only[rg])
 rcases h:ap M a Z S with _|⟨x,S1⟩
 ·simp[ac,ae]
 ·cases x <;> simp[ac,ae]
  rename_i b; cases b <;> simp[ac,ae]
def ID {a b:E}{Q:QW}:Wp (ap M (.or a b) Z S) Q↔Wp (ap M a Z S) λp=>∃k,p.1=.bl k/\(k=true->Q (.bl true,p.2))/\(k=false->Wp (ap M b Z p.2) Q):=by
 (dsimp only[ap]; dsimp only[zG])
 rcases h:ap M a Z S with _|⟨x,S1⟩
 ·simp[ac,ae]
 ·cases x <;> simp[ac,ae]
  rename_i b; cases b <;> simp[ac,ae]
def F1 {a:E}{Q:QW}:Wp (ap M (.not a) Z S) Q↔Wp (ap M a Z S) λp=>∃k,p.1=.bl k/\Q (.bl (!k),p.2):=by
 (dsimp only[ap]; dsimp only[rh])
 rcases h:ap M a Z S with _|⟨x,S1⟩
 ·simp[ac,ae]
 ·cases x <;> simp[ac,ae]
  rename_i k; cases k <;> simp
def F3 {t a b:E}{Q:QW}:Wp (ap M (.ite t a b) Z S) Q↔Wp (bz M t Z S) λp=>(p.1=true->Wp (ap M a Z p.2) Q)/\(p.1=false->Wp (ap M b Z p.2) Q):=by
 (dsimp only[ap]; simp only[zH])
 rcases h:bz M t Z S with _|⟨x,S1⟩
 ·simp[ac,ae]
 ·cases x <;> simp[ac,ae]
def By {f:J3}{n:J4}{es:Es}{Q:QW}:Wp (ap M (.own f n es) Z S) Q↔Wp (aZ M es Z S) λp=>p.1.length=n/\Wp (M f p.1 p.2) Q:=by
 (dsimp only[ap]; dsimp only[dC])
 rcases h:aZ M es Z S with _|⟨x,S1⟩
 ·simp[ac,ae]
 ·by_cases hl:x.length=n <;> simp[ac,ae,hl]
def F4 {b:Bi}{es:Es}{Q:QW}:Wp (ap M (.bi b es) Z S) Q↔Wp (aZ M es Z S) λp=>Wp (b.fn p.1 p.2) Q:=by
 (dsimp only[ap]; dsimp only[iy])
 rcases h:aZ M es Z S with _|⟨x,S1⟩ <;> simp[ac,ae]
def IE {m:Me}{o:E}{es:Es}{Q:QW}:Wp (ap M (.me m o es) Z S) Q↔Wp (ap M o Z S) λp=>tyOk m.ty p.2 p.1=true/\Wp (aZ M es Z p.2) λq=>Wp (m.fn p.1 q.1 q.2) Q:=by
 (dsimp only[ap]; dsimp only[ED])
 rcases h:ap M o Z S with _|⟨x,S1⟩
 ·simp[ac,ae]
 ·by_cases ht:tyOk m.ty S1 x=true
  ·rcases h2:aZ M es Z S1 with _|⟨y,S2⟩ <;> simp[ac,ae,ht,h2]
  ·simp[ac,ae,ht]
def IF {a:E}{lo hi:Ep}{Q:QW}:Wp (ap M (.sl a lo hi) Z S) Q↔Wp (ap M a Z S) λp=>Wp (rD M lo Z p.2) λq=>Wp (rD M hi Z q.2) λr=>Wp (CN p.1 q.1 r.1 r.2) Q:=by
 (dsimp only[ap]; dsimp only[Fz])
 rcases h:ap M a Z S with _|⟨x,S1⟩
 ·simp[ac,ae]
 ·rcases h2:rD M lo Z S1 with _|⟨y,S2⟩
  ·simp[ac,ae,h2]
  ·rcases h3:rD M hi Z S2 with _|⟨z,S3⟩ <;> simp[ac,ae,h2,h3]
def IG {Q:JX Kk×aa->Prop}:Wp (rD M .no Z S) Q↔Q (gV,S):=by(dsimp only[rD]; simp[C3,ac,ae])
def F5 {a:E}{Q:JX Kk×aa->Prop}:Wp (rD M (.yes a) Z S) Q↔Wp (ap M a Z S) λp=>∃i,p.1=.int i/\Q (bt i,p.2):=by
 (dsimp only[rD]; simp only[rn])
 rcases h:ap M a Z S with _|⟨x,S1⟩
 ·simp[ac,ae]
 ·cases x <;> simp[ac,ae]
def F6 {es:Es}{Q:QW}:Wp (ap M (.tup es) Z S) Q↔Wp (aZ M es Z S) λp=>p.1.length<=sizeLine/\Q (.tup p.1,p.2):=by
 (dsimp only[ap]; (dsimp only[tQ]; simp only[lO]))
 rcases h:aZ M es Z S with _|⟨x,S1⟩
 ·simp[ac,ae]
 ·by_cases hl:x.length<=sizeLine <;> simp[ac,ae,hl]
def F7 {es:Es}{Q:QW}:Wp (ap M (.lst es) Z S) Q↔Wp (aZ M es Z S) λp=>p.1.length<=sizeLine/\Q (.ref p.2.length,p.2++[.lst p.1]):=by
 (dsimp only[ap]; (dsimp only[vZ]; simp only[lN]))
 rcases h:aZ M es Z S with _|⟨x,S1⟩
 ·simp[ac,ae]
 ·by_cases hl:x.length<=sizeLine <;> simp[ac,ae,hl]
def Bz {c:Ls}{a:E}{Q:QW}:Wp (ap M (.isi c a) Z S) Q↔Wp (ap M a Z S) λp=>∃k,rB p.2 p.1 c=bt k/\Q (.bl k,p.2):=by
 (dsimp only[ap]; simp only[wf])
 rcases h:ap M a Z S with _|⟨x,S1⟩
 ·simp[ac,ae]
 ·cases h2:rB S1 x c <;> simp[ac,ae,h2]
  rename_i k; cases k <;> simp
def F8 {a:E}{Q:QW}:Wp (ap M (.neg a) Z S) Q↔Wp (ap M a Z S) λp=>∃i,p.1=.int i/\Q (.int (-i),p.2):=by
 (dsimp only[ap]; simp only[vM])
 rcases h:ap M a Z S with _|⟨x,S1⟩
 ·simp[ac,ae]
 ·cases x <;> simp[ac,ae]
def Du {es:Es}{Q:QW}:Wp (ap M (.disp es) Z S) Q↔Wp (aZ M es Z (S++[.dis []])) λp=>p.2[S.length]?=bt (.dis [])/\∃U,lc p.1=bt U/\((U.map (·.1)).Nodup/\U.length<=15)/\Q (.ref S.length,p.2.set S.length (.dis U)):=by
 have e:ap M (.disp es) Z S=nV (aZ M es) Z S:=by dsimp only[ap]
 rw[e];unfold nV;cases aZ M es Z (S++[.dis []])with
 | none=>simp[ae]
 | some p=>
  obtain⟨x,S1⟩:=p;simp only[ac];constructor
  ·intro h;split at h
   ·rename_i h1;split at h
    ·rename_i U h2;split at h
     ·rename_i h3;rw[ac]at h;exact#[h1,U,h2,h3,h]
     ·exact(ae.mp h).elim
    ·exact(ae.mp h).elim
   ·exact(ae.mp h).elim
  ·rintro⟨h1,U,h2,h3,q⟩;rw[h1,h2];dsimp only;rw[Ks h3,ac];exact q
def F9 {U:JS (J3×W)}{b:E}{Q:QW}:Wp (ap M (.gix U b) Z S) Q↔Wp (ap M b Z S) λp=>∃k w,p.1=.str k/\U.lookup k=bt w/\Q (w,p.2):=by
 (dsimp only[ap]; simp only[wu])
 rcases h:ap M b Z S with _|⟨x,S1⟩
 ·simp[ac,ae]
 ·cases x with
  | str k=>cases h2:U.lookup k <;> simp[ac,ae,h2]
  | _=>simp[ac,ae]
def Ga {U:JS (J3×W)}{b:E}{Q:QW}:Wp (ap M (.gni U b) Z S) Q↔Wp (ap M b Z S) λp=>∃k,p.1=.str k/\Q (.bl (!(U.lookup k).isSome),p.2):=by
 (dsimp only[ap]; simp only[n4])
 rcases h:ap M b Z S with _|⟨x,S1⟩
 ·simp[ac,ae]
 ·cases x <;> simp[ac,ae]
def Gb {U:JS (J3×W)}{b:E}{Q:Kn×aa->Prop}:Wp (bz M (.gni U b) Z S) Q↔Wp (ap M b Z S) λp=>∃k,p.1=.str k/\Q (!(U.lookup k).isSome,p.2):=by
 (dsimp only[bz]; simp only[fS,n4])
 rcases h:ap M b Z S with _|⟨x,S1⟩
 ·simp[ac,ae]
 ·cases x <;> simp[ac,ae]
def BA {o o':COp}{a b d:E}{Q:QW}(h:Wp (ap M a Z S) λp=>Wp (ap M b Z p.2) λq=>∃k,yo o p.1 q.1 q.2=bt k/\(k=true->Wp (ap M d Z q.2) λr=>Wp (db o' q.1 r.1 r.2) Q)/\(k=false->Q (.bl false,q.2))):Wp (ap M (.chn o o' a b d) Z S) Q:=by
 obtain⟨⟨x,S1⟩,e1,⟨y,S2⟩,e2,k,e3,h1,h2⟩:=h;have e:ap M (.chn o o' a b d) Z S=eC o o' (ap M a) (ap M b) (ap M d) Z S:=by dsimp only[ap]
 rw[e];unfold eC;rw[e1];dsimp only;rw[e2];dsimp only;rw[e3];cases k with
 | false=>exact#[_,rfl,h2 rfl]
 | true=>
  obtain⟨⟨z,S3⟩,e4,⟨r,e5,q⟩⟩:=h1 rfl;dsimp only;rw[e4];exact#[_,e5,q]
def Gc {Q:JS W×aa->Prop}:Wp (aZ M .nil Z S) Q↔Q ([],S):=by(dsimp only[aZ]; (dsimp only[gu]; simp[ac,ae]))
def Dv {e:E}{es:Es}{Q:JS W×aa->Prop}:Wp (aZ M (.cons e es) Z S) Q↔Wp (ap M e Z S) λp=>Wp (aZ M es Z p.2) λq=>Q (p.1::q.1,q.2):=by
 (dsimp only[aZ]; dsimp only[bZ])
 rcases h:ap M e Z S with _|⟨x,S1⟩
 ·simp[ac,ae]
 ·rcases h2:aZ M es Z S1 with _|⟨y,S2⟩ <;> simp[ac,ae,h2]
noncomputable abbrev QB:=Kn×aa->Prop
def BB {f:FE}{Q:QB}:Wp (fS f Z S) Q↔Wp (f Z S) λp=>∃k,p.1=.bl k/\Q (k,p.2):=by
 unfold fS;rcases h:f Z S with _|⟨x,S1⟩
 ·simp[ac,ae]
 ·cases x <;> simp[ac,ae]
  rename_i k; cases k <;> simp
def rO {f:FE}{Q:QB}:Wp (de f Z S) Q↔Wp (f Z S) λp=>∃k,ei p.2 p.1=bt k/\Q (k,p.2):=by
 unfold de;rcases h:f Z S with _|⟨x,S1⟩
 ·simp[ac,ae]
 ·cases h2:ei S1 x <;> simp[ac,ae,h2]
  rename_i k; cases k <;> simp
def Gd {o:COp}{a b:E}{Q:QB}:Wp (bz M (.cmp o a b) Z S) Q↔Wp (ap M (.cmp o a b) Z S) λp=>∃k,p.1=.bl k/\Q (k,p.2):=by dsimp only[bz,ap]; exact BB
def Ge {o o':COp}{a b d:E}{Q:QB}:Wp (bz M (.chn o o' a b d) Z S) Q↔Wp (ap M (.chn o o' a b d) Z S) λp=>∃k,p.1=.bl k/\Q (k,p.2):=by dsimp only[bz,ap]; exact BB
def Gg {a b:E}{Q:QB}:Wp (bz M (.and a b) Z S) Q↔Wp (bz M a Z S) λp=>(p.1=true->Wp (bz M b Z p.2) Q)/\(p.1=false->Q (false,p.2)):=by
 (dsimp only[bz]; simp only[vQ])
 rcases h:bz M a Z S with _|⟨x,S1⟩
 ·simp[ac,ae]
 ·cases x <;> simp[ac,ae]
def IH {a b:E}{Q:QB}:Wp (bz M (.or a b) Z S) Q↔Wp (bz M a Z S) λp=>(p.1=true->Q (true,p.2))/\(p.1=false->Wp (bz M b Z p.2) Q):=by
 (dsimp only[bz]; simp only[Fy])
 rcases h:bz M a Z S with _|⟨x,S1⟩
 ·simp[ac,ae]
 ·cases x <;> simp[ac,ae]
def Gh {a:E}{Q:QB}:Wp (bz M (.not a) Z S) Q↔Wp (bz M a Z S) λp=>Q (!p.1,p.2):=by
 (dsimp only[bz]; simp only[zE])
 rcases h:bz M a Z S with _|⟨x,S1⟩ <;> simp[ac,ae]
def JE {i:J4}{Q:QB}:Wp (bz M (.v i) Z S) Q↔Wp (ap M (.v i) Z S) λp=>∃k,ei p.2 p.1=bt k/\Q (k,p.2):=by dsimp only[bz,ap]; exact rO
def Gi {f:J3}{n:J4}{es:Es}{Q:QB}:Wp (bz M (.own f n es) Z S) Q↔Wp (ap M (.own f n es) Z S) λp=>∃k,ei p.2 p.1=bt k/\Q (k,p.2):=by dsimp only[bz,ap]; exact rO
def II {b:Bi}{es:Es}{Q:QB}:Wp (bz M (.bi b es) Z S) Q↔Wp (ap M (.bi b es) Z S) λp=>∃k,ei p.2 p.1=bt k/\Q (k,p.2):=by dsimp only[bz,ap]; exact rO
def Gj {c:Ls}{a:E}{Q:QB}:Wp (bz M (.isi c a) Z S) Q↔Wp (ap M (.isi c a) Z S) λp=>∃k,ei p.2 p.1=bt k/\Q (k,p.2):=by dsimp only[bz,ap]; exact rO
noncomputable abbrev QO:=Out×aa->Prop
def Gk {Q:QO}:Wp (bL M fuel .nil Z S) Q↔Q (.nx Z,S):=by(dsimp only[bL]; simp[ac,ae])
def Dw {s:Sm}{ss:Ss}{Q:QO}:Wp (bL M fuel (.cons s ss) Z S) Q↔Wp (bH M fuel s Z S) λp=>(∀Z',p.1=.nx Z'->Wp (bL M fuel ss Z' p.2) Q)/\((∀Z',p.1≠.nx Z')->Q p):=by
 (dsimp only[bL]; simp only[iF])
 rcases h:bH M fuel s Z S with _|⟨o,S1⟩
 ·simp[ac,ae]
 ·cases o <;> simp[ac,ae]
def wM {f:FE}{g:FG}{Q:QO}:Wp (dE f g Z S) Q↔Wp (f Z S) λp=>Wp (g p.1 Z p.2) λq=>Q (.nx q.1,q.2):=by
 unfold dE;rcases h:f Z S with _|⟨x,S1⟩
 ·simp[ac,ae]
 ·rcases h2:g x Z S1 with _|⟨y,S2⟩ <;> simp[ac,ae,h2]
def Dy {i:J4}{e:E}{Q:QO}:Wp (bH M fuel (.set i e) Z S) Q↔Wp (ap M e Z S) λp=>Q (.nx (Z.set i (bt p.1)),p.2):=by
 dsimp only[bH]; rw[wM]; simp[zO,ac,ae]
def Dz {is:JS J4}{e:E}{Q:QO}:Wp (bH M fuel (.asg is e) Z S) Q↔Wp (ap M e Z S) λp=>∃ws Z',p.1=.tup ws/\fT is ws Z=bt Z'/\Q (.nx Z',p.2):=by
 dsimp only[bH]; rw[wM]
 constructor
 ·show λh=>h.mono λp hp=>?_
  obtain⟨w,S1⟩:=p;obtain⟨q,h1,h2⟩:=hp;cases w with
  | tup ws=>
   simp only[C6,J0]at h1;obtain⟨Z',h3,rfl⟩:=h1;exact#[ws,Z',rfl,h3,h2]
  | _=>cases h1
 ·show λh=>h.mono λp hp=>?_
  obtain⟨w,S1⟩:=p;obtain⟨ws,Z',h0,h1,h2⟩:=hp;subst h0;exact#[(Z',S1),by simp[C6,h1],h2]
def DA {i j:J4}{es:Es}{Q:QO}:Wp (bH M fuel (.par i j es) Z S) Q↔Wp (aZ M es Z S) λp=>∃x y,p.1=[x,y]/\Q (.nx ((Z.set i (bt x)).set j (bt y)),p.2):=by
 (dsimp only[bH]; dsimp only[wa])
 rcases h:aZ M es Z S with _|⟨x,S1⟩
 ·simp[ae]
 ·match x with
  | []=>simp[ac,ae]
  | [_]=>simp[ac,ae]
  | [a,b]=>
   simp only[ac];exact#[λh=>#[a,b,rfl,h],λ#[x,y,e,h]=>by cases e; exact h]
  | _::_::_::_=>simp[ac,ae]
def DB {o k e:E}{Q:QO}:Wp (bH M fuel (.put o k e) Z S) Q↔Wp (ap M e Z S) λp=>Wp (ap M o Z p.2) λq=>Wp (ap M k Z q.2) λr=>∃S',l0 q.1 r.1 p.1 r.2=bt S'/\Q (.nx Z,S'):=by
 dsimp only[bH]; rw[wM]
 rcases h:ap M e Z S with _|⟨x,S1⟩
 ·simp[ac,ae]
 ·simp only[ac];unfold zP;rcases h2:ap M o Z S1 with _|⟨y,S2⟩
  ·simp[ac,ae]
  ·rcases h3:ap M k Z S2 with _|⟨z,S3⟩
   ·simp[ac,ae,h3]
   ·cases h4:l0 y z x S3 <;> simp[ac,ae,h3,h4]
def Gm {e:E}{Q:QO}:Wp (bH M fuel (.ex e) Z S) Q↔Wp (ap M e Z S) λp=>Q (.nx Z,p.2):=by
 (dsimp only[bH]; simp only[nP])
 rcases h:ap M e Z S with _|⟨x,S1⟩ <;> simp[ac,ae]
def DC {e:E}{Q:QO}:Wp (bH M fuel (.ret e) Z S) Q↔Wp (ap M e Z S) λp=>Q (.rt p.1,p.2):=by
 (dsimp only[bH]; simp only[nQ])
 rcases h:ap M e Z S with _|⟨x,S1⟩ <;> simp[ac,ae]
def DD {t:E}{a b:Ss}{Q:QO}:Wp (bH M fuel (.ite t a b) Z S) Q↔Wp (bz M t Z S) λp=>(p.1=true->Wp (bL M fuel a Z p.2) Q)/\(p.1=false->Wp (bL M fuel b Z p.2) Q):=by
 (dsimp only[bH]; simp only[gy])
 rcases h:bz M t Z S with _|⟨x,S1⟩
 ·simp[ac,ae]
 ·cases x <;> simp[ac,ae]
abbrev wQ (I:Fm->aa->Prop)(Q:QO)(o:Out×aa):Prop:=match o.1 with
 | .nx Z'=>I Z' o.2
 | .ct Z'=>I Z' o.2
 | .bk Z'=>Q (.nx Z',o.2)
 | .rt w=>Q (.rt w,o.2)
def ig {mi:MI}{g:FG}{b:FS}{xs:JS W}{Q:QO}(I:J4->Fm->aa->Prop)(hat:∀i Z S,I i Z S->mi.at S i=bt xs[i]?)
  (hstep:∀i w Z S,xs[i]?=bt w->I i Z S->Wp (g w Z S) λq=>Wp (b q.1 q.2) (wQ (I (i+1)) Q)) (hend:∀Z S,I xs.length Z S->Q (.nx Z,S)):∀(n i:J4) (Z:Fm) (S:aa),i+n=xs.length->I i Z S->Wp (bq mi g b n i Z S) Q
 | 0,i,Z,S,hl,hI=>by
  have e:mi.at S i=bt gV:=by rw[hat i Z S hI,Nh ∅]
  simp only[bq,e];have hi:i=xs.length:=∅
  exact ac.mpr (hend Z S (hi ▸ hI))
 | n+1,i,Z,S,hl,hI=>by
  have hi:i < xs.length:=∅
  have e:mi.at S i=bt (bt xs[i]):=by rw[hat i Z S hI,Kt hi]
  obtain⟨⟨Z1,S1⟩,h1,⟨o,S2⟩,h2,h3⟩:=hstep i xs[i] Z S (Kt hi) hI;simp only[bq,e,h1,h2];cases o with
  | nx Z2=>exact ig I hat hstep hend n (i+1) Z2 S2 ∅ h3
  | ct Z2=>exact ig I hat hstep hend n (i+1) Z2 S2 ∅ h3
  | bk Z2=>exact ac.mpr h3
  | rt w=>exact ac.mpr h3
def Gn {fi:FI}{g:FG}{b:FS}{Q:QO}:Wp (iG fi g b Z S) Q↔Wp (fi Z S) λp=>∃n,p.1.len p.2=bt n/\Wp (bq p.1 g b n 0 Z p.2) Q:=by
 unfold iG;rcases h:fi Z S with _|⟨mi,S1⟩
 ·simp[ae]
 ·cases h2:mi.len S1 <;> simp[ac,ae,h2]
def ci {mi:MI}{g:FG}{c:FT}{f:FE}{xs:JS W}{Q:JS W×aa->Prop}(I:J4->JS W->Fm->aa->Prop)(hat:∀i ys Z S,I i ys Z S->mi.at S i=bt xs[i]?)
  (hstep:∀i w ys Z S,xs[i]?=bt w->I i ys Z S->Wp (g w Z S) λq=>Wp (c q.1 q.2) λk=>(k.1=true->Wp (f q.1 k.2) λy=>I (i+1) (ys++[y.1]) q.1 y.2)/\(k.1=false->I (i+1) ys q.1 k.2))
  (hend:∀ys Z S,I xs.length ys Z S->Q (ys,S)):∀(n i:J4) (ys:JS W) (Z:Fm) (S:aa),i+n=xs.length->I i ys Z S->Wp (aW mi g c f n i Z S) λp=>Q (ys++p.1,p.2)
 | 0,i,ys,Z,S,hl,hI=>by
  have e:mi.at S i=bt gV:=by rw[hat i ys Z S hI,Nh ∅]
  simp only[aW,e];show ac.mpr ?_;have:i=xs.length:=∅
  simpa using hend ys Z S (this ▸ hI)
 | n+1,i,ys,Z,S,hl,hI=>by
  have hi:i < xs.length:=∅
  have e:mi.at S i=bt (bt xs[i]):=by rw[hat i ys Z S hI,Kt hi]
  obtain⟨⟨Z1,S1⟩,h1,⟨k,S2⟩,h2,h3,h4⟩:=hstep i xs[i] ys Z S (Kt hi) hI;simp only[aW,e,h1,h2];cases k with
  | true=>
   obtain⟨⟨y,S3⟩,h5,h6⟩:=h3 rfl;simp only[h5];obtain⟨⟨zs,S4⟩,h7,h8⟩:=ci I hat hstep hend n (i+1) (ys++[y]) Z1 S3 ∅ h6
   simp only[h7];exact ac.mpr (by simpa using h8)
  | false=>exact ci I hat hstep hend n (i+1) ys Z1 S2 ∅ (h4 rfl)
def wR {elt:E}{tg:Tg}{it:Ie}{cs:Es}{cap:JS (JX J4)}{Q:QW}:Wp (ap M (.comp elt tg it cs cap) Z S) Q↔Wp (kD M it Z S) λp=>∃n,p.1.len p.2=bt n/\Wp (aW p.1 (t6 tg) (Ae M cs) (ap M elt) n 0 (eD cap Z) p.2) λq=>q.1.length<=sizeLine/\Q (.ref q.2.length,q.2++[.lst q.1]):=by
 (dsimp only[ap]; simp only[jI,lN])
 rcases h:kD M it Z S with _|⟨mi,S1⟩
 ·simp[ae]
 ·rcases h2:mi.len S1 with _|n
  ·simp[ac,ae,h2]
  ·rcases h3:aW mi (t6 tg) (Ae M cs) (ap M elt) n 0 (eD cap Z) S1 with _|⟨ys,S2⟩
   ·simp[ac,ae,h2,h3]
   ·by_cases hl:ys.length<=sizeLine <;> simp[ac,ae,h2,h3,hl]
def Go {Q:QB}:Wp (Ae M .nil Z S) Q↔Q (true,S):=by(dsimp only[Ae]; simp[Bq,ac])
def Gp {e:E}{Q:QB}:Wp (Ae M #v[e] Z S) Q↔Wp (bz M e Z S) Q:=by dsimp only[Ae]; exact Iff.rfl
def jR {c:FT}{b:FS}{Q:QO}(I:J4->Fm->aa->Prop)(hstep:∀m Z S,I m Z S->Wp (c Z S) λk=>(k.1=true->∃m',m=m'+1/\Wp (b Z k.2) (wQ (I m') Q))/\(k.1=false->Q (.nx Z,k.2))) :
  ∀(n m:J4) (Z:Fm) (S:aa),m < n->I m Z S->Wp (l7 c b n Z S) Q
 | 0,m,Z,S,h,_=>∅
 | n+1,m,Z,S,h,hI=>by
  obtain⟨⟨k,S1⟩,h1,h2,h3⟩:=hstep m Z S hI;simp only[l7,h1];cases k with
  | false=>exact ac.mpr (h3 rfl)
  | true=>
   obtain⟨m',rfl,⟨o,S2⟩,h5,h6⟩:=h2 rfl;simp only[h5];cases o with
   | nx Z2=>exact jR I hstep n m' Z2 S2 ∅ h6
   | ct Z2=>exact jR I hstep n m' Z2 S2 ∅ h6
   | bk Z2=>exact ac.mpr h6
   | rt w=>exact ac.mpr h6
def ue {defs:JS (J3×Df)}{d:J4}{f:J3}{ws:JS W}{df:Df}{Q:QW}(h:defs.lookup f=bt df)(hl:ws.length=df.ps.length)
  (hb:Wp (bL (ag defs fuel d) fuel df.body (a9 df.N ws) S) λp=>match p.1 with|.rt w=>Q (w,p.2)|.nx _=>Q (.non,p.2)|_=>KT):Wp (ag defs fuel (d+1) f ws S) Q:=by
 obtain⟨⟨o,S1⟩,h1,h2⟩:=hb;simp only[ag,h,Ks hl,h1];cases o with
 | rt w=>exact ac.mpr h2
 | nx Z=>exact ac.mpr h2
 | bk _=>exact h2.elim
 | ct _=>exact h2.elim
end
section
variable{S:aa}{Q:QW}
def cL {a b:Kk}:gS .add (.int a) (.int b) S=bt (.int (a+b),S):=rfl
def BC {a b:Kk}:gS .sub (.int a) (.int b) S=bt (.int (a - b),S):=rfl
def ml {c:Kk->Kk->Kn}{f:Kk->Kk->Kk}{i j:Kk}(h:c i j=true):yn c f (.int i) (.int j) S=bt (.int (f i j),S):=by
 unfold yn;dsimp only;rw[Ks h]
def wW {a b:Kk}(h : -(2 ^ 64) < b)(h2:b < 2 ^ 64):gS .mul (.int a) (.int b) S=bt (.int (a*b),S):=ml (c:=sV) (f:=(· * ·)) (by
 unfold sV;simp only[L5,JY,KG];exact .inr #[h,h2])
def oq {a b:Kk}(h:0 < b):gS .mod (.int a) (.int b) S=bt (.int (a % b),S):=ml (c:=λ_ j=>decide (0 < j)) (f:=(· % ·)) (Lh h)
def wY {a b:Kk}(h:0 < b)(h2:b < 1073741824):gS .fdiv (.int a) (.int b) S=bt (.int (a / b),S):=ml (c:=λ_ j=>y6 j) (f:=(· / ·)) (by
 unfold y6;simp only[JY,KG];exact#[h,h2])
def DE:gS .pow (.int 10) (.int 18) S=bt (.int 1000000000000000000,S):=rfl
def DF {xs ys:JS W}(h:(xs++ys).length<=sizeLine):gS .add (.tup xs) (.tup ys) S=bt (.tup (xs++ys),S):=by simp only[gS,vk,lO]; rw[Ks h]
def w6 {i j:J4}{xs ys:JS W}(h1:S[i]?=bt (.lst xs))(h2:S[j]?=bt (.lst ys))(h:(xs++ys).length<=sizeLine):gS .add (.ref i) (.ref j) S=bt (.ref S.length,S++[.lst (xs++ys)]):=by
 simp only[gS,vk,mZ,h1,h2,lN]; rw[Ks h]
def pX {a b:Kk}:dW .eq (.int a) (.int b) S=bt (.bl (a==b),S):=rfl
def IJ {a b:Kk}:dW .ne (.int a) (.int b) S=bt (.bl (!(a==b)),S):=rfl
def ou {a b:Kk}:dW .lt (.int a) (.int b) S=bt (.bl (decide (a < b)),S):=rfl
def w8 {a b:Kk}:dW .gt (.int a) (.int b) S=bt (.bl (decide (a > b)),S):=rfl
def IK {a b:Kk}:dW .ge (.int a) (.int b) S=bt (.bl (decide (a>=b)),S):=rfl
def Gq {a b:J3}:dW .eq (.str a) (.str b) S=bt (.bl (a==b),S):=rfl
def Gr {a b:J3}:dW .ne (.str a) (.str b) S=bt (.bl (!(a==b)),S):=rfl
def aF {r:J4}{xs:JS W}(h:S[r]?=bt (.lst xs)):fP S r=bt xs:=by simp[fP,h]
def Al {r:J4}{xs:JS W}(h:S[r]?=bt (.fro xs)):fP S r=bt xs:=by simp[fP,h]
def iS {r:J4}{xs:JS W}(h:S[r]?=bt (.lst xs)):mZ S r=bt xs:=by simp[mZ,h]
def rP {r:J4}{xs:JS W}(h:S[r]?=bt (.lst xs)):lX S r=gV:=by simp[lX,h]
def atI_nat {α:Type}{xs:JS α}{j:J4}{w:α}(h:xs[j]?=bt w):oR xs (j:Kk)=bt w:=by
 have hl:=(Kc.mp h).1;unfold oR ur;rw[Ks (MC j),Ks (by exact_mod_cast hl)]
 simpa using h
def mn {α:Type}{xs:JS α}{i:Kk}{w:α}(h0:0<=i)(h:xs[i.toNat]?=bt w):oR xs i=bt w:=by
 have:=atI_nat h
 rwa [N8 h0]at this
def w9 {r:J4}{xs:JS W}{i:Kk}{w:W}(h:S[r]?=bt (.lst xs))(h0:0<=i)(hw:xs[i.toNat]?=bt w):nJ (.ref r) (.int i) S=bt (w,S):=by
 change ut (.ref r) (.int i) S=_;simp[ut,aF h,mn h0 hw]
def dj {xs:JS W}{i:Kk}{w:W}(h0:0<=i)(hw:xs[i.toNat]?=bt w):nJ (.tup xs) (.int i) S=bt (w,S):=by
 change ut (.tup xs) (.int i) S=_;simp[ut,mn h0 hw]
def BE {x:J3}{i:Kk}{c:J4}(hz:x.length<=sizeLine)(h0:0<=i)(hw:x.cps.toList[i.toNat]?=bt c):nJ (.str x) (.int i) S=bt (.str #[[c].toArray],S):=by
 change ut (.str x) (.int i) S=_;simp[ut,hz,mn h0 hw]
def Gs {r:J4}{xs:JS W}{i:Kk}{w:W}(h:S[r]?=bt (.lst xs))(h0:0<=i)(hi:i.toNat < xs.length):l0 (.ref r) (.int i) w S=bt (S.set r (.lst (xs.set i.toNat w))):=by
 change sX (.ref r) (.int i) w S=_;have:ur xs.length i=bt i.toNat:=by
  unfold ur;rw[Ks h0,Ks ∅]
 simp[sX,iS h,this]
def xg {r:J4}{xs:JS W}(h:S[r]?=bt (.lst xs)):Bi.len.fn [.ref r] S=bt (.int xs.length,S):=by
 (dsimp only[Bi.fn,Bt,pK,m8]; simp[rP h,aF h])
def Gu {r:J4}{xs:JS W}{y:W}(h:S[r]?=bt (.lst xs))(hl:xs.length < sizeLine):gl (.ref r) [y] S=bt (.non,S.set r (.lst (xs++[y]))):=by
 simp[gl,iS h,hl]
def xh {r:J4}{xs:JS W}(h:S[r]?=bt (.lst xs)):jE [.ref r] S=bt (.tup xs,S):=by
 (dsimp only[jE,jq]; simp[zv,h,aF h])
def jS {r:J4}{xs:JS W}(h:S[r]?=bt (.lst xs)):tyOk "list" S (.ref r)=true:=by simp[tyOk,aF h]
def ik {r:J4}{o o':O}(h:S[r]?=bt o):(S.set r o')[r]?=bt o':=by
 rw[LY,Ks rfl,Ks (Kc.mp h).1]
def eG {r j:J4}{o':O}(h:r≠j):(S.set r o')[j]?=S[j]?:=by rw[LY,Kv h]
def al {o:O}:(S++[o])[S.length]?=bt o:=by simp
def bg {j:J4}{o u:O}(h:S[j]?=bt o):(S++[u])[j]?=bt o:=by rw[KY (Kc.mp h).1]; exact h
def lm {j:J4}{o:O}(h:S[j]?=bt o):j < S.length:=(Kc.mp h).1
structure Kp (r:J4)(S S':aa):Prop where
 get:∀j o,j≠r->S[j]?=bt o->S'[j]?=bt o
 len:S.length<=S'.length
def Kp.refl {r:J4}{S:aa}:Kp r S S:=#[λ_ _ _ h=>h,J9 _]
def Kp.trans {r:J4}{S S' S'':aa}(a:Kp r S S')(b:Kp r S' S''):Kp r S S'':=#[λj o n h=>b.get j o n (a.get j o n h),Kx a.len b.len]
def Kp.set {r:J4}{S:aa}{o:O}:Kp r S (S.set r o):=#[λj u n h=>by rw[eG (Ne.symm n)]; exact h,by simp]
def Kp.push {r:J4}{S:aa}{o:O}:Kp r S (S++[o]):=#[λj u n h=>bg h,by simp]
def Kp.late {r t:J4}{S0 S:aa}{o:O}(a:Kp r S0 S)(h:S0.length<=t):Kp r S0 (S.set t o):=
 #[λj u n e=>by
  have:=lm e;rw[eG ∅]; exact a.get j u n e,by simpa using a.len]
end
abbrev wO {α:Type}(o:JX α)(Q:α->Prop):Prop:=match o with
 | some a=>Q a
 | none=>KT
def aN {α:Type}{o:JX α}{Q:α->Prop}(h:wO o Q):Wp o Q:=by
 cases o with
 | none=>exact h.elim
 | some a=>exact#[a,rfl,h]
def Gv {α:Type}{o:JX α}{Q:α->Prop}(h:Wp o Q):wO o Q:=by
 obtain⟨a,rfl,q⟩:=h;exact q
def af {α:Type}{o:JX α}{a:α}{Q:α->Prop}(e:o=bt a)(h:Q a):wO o Q:=by subst e; exact h
abbrev wB:W->(Kn->Prop)->Prop
 | .bl k,Q=>Q k
 | _,_=>KT
abbrev wN:W->(Kk->Prop)->Prop
 | .int k,Q=>Q k
 | _,_=>KT
abbrev wX:W->(J3->Prop)->Prop
 | .str k,Q=>Q k
 | _,_=>KT
abbrev wU:W->(JS W->Prop)->Prop
 | .tup k,Q=>Q k
 | _,_=>KT
def oy {w:W}{Q:Kn->Prop}(h:wB w Q):∃k,w=.bl k/\Q k:=by cases w <;> first|exact h.elim|exact#[_,rfl,h]
def BF {w:W}{Q:Kk->Prop}(h:wN w Q):∃k,w=.int k/\Q k:=by cases w <;> first|exact h.elim|exact#[_,rfl,h]
def xj {w:W}{Q:J3->Prop}(h:wX w Q):∃k,w=.str k/\Q k:=by cases w <;> first|exact h.elim|exact#[_,rfl,h]
def Gw {w:W}{Q:JS W->Prop}(h:wU w Q):∃k,w=.tup k/\Q k:=by cases w <;> first|exact h.elim|exact#[_,rfl,h]
abbrev w2:JS W->(W->W->Prop)->Prop
 | [x,y],Q=>Q x y
 | _,_=>KT
def Gx {xs:JS W}{Q:W->W->Prop}(h:w2 xs Q):∃x y,xs=[x,y]/\Q x y:=by
 match xs,h with
 | [x,y],h=>exact#[x,y,rfl,h]
abbrev wG:JX W->(W->Prop)->Prop
 | some w,Q=>Q w
 | none,_=>KT
abbrev wV:Fm->J4->(W->Prop)->Prop
 | [],_,_=>KT
 | o::_,0,Q=>wG o Q
 | _::Z,n+1,Q=>wV Z n Q
def xl {Q:W->Prop}:∀ {Z:Fm} {i:J4},wV Z i Q->∃w,Z[i]?=bt (bt w)/\Q w
 | [],i,h=>h.elim
 | some w::Z,0,h=>#[w,rfl,h]
 | none::Z,0,h=>h.elim
 | x::Z,n+1,h=>by
  obtain⟨w,e2,q⟩:=xl (Z:=Z) (i:=n) h;exact#[w,e2,q]
abbrev bu (M:J3->FF)(f:J3)(n:J4)(ws:JS W)(S:aa):JX (W×aa):=if ws.length=n then M f ws S else gV
section
variable (M:J3->FF) (fuel:J4)
mutual
def wE:E->Fm->aa->QW->Prop
 | .c w,_,S,Q=>Q (w,S)
 | .v i,Z,S,Q=>wV Z i λw=>Q (w,S)
 | .sem g,Z,S,Q=>wO (g Z S) Q
 | .op o a b,Z,S,Q=>wE a Z S λp=>wE b Z p.2 λq=>wO (gS o p.1 q.1 q.2) Q
 | .cmp o a b,Z,S,Q=>wE a Z S λp=>wE b Z p.2 λq=>wO (dW o p.1 q.1 q.2) Q
 | .and a b,Z,S,Q=>wE a Z S λp=>wB p.1 λk=>(k=true->wE b Z p.2 Q)/\(k=false->Q (.bl false,p.2))
 | .or a b,Z,S,Q=>wE a Z S λp=>wB p.1 λk=>(k=true->Q (.bl true,p.2))/\(k=false->wE b Z p.2 Q)
 | .not a,Z,S,Q=>wE a Z S λp=>wB p.1 λk=>Q (.bl (!k),p.2)
 | .own f n es,Z,S,Q=>wA es Z S λp=>wO (bu M f n p.1 p.2) Q
 | .bi b es,Z,S,Q=>wA es Z S λp=>wO (b.fn p.1 p.2) Q
 | .me m o es,Z,S,Q=>wE o Z S λp=>tyOk m.ty p.2 p.1=true/\wA es Z p.2 λq=>wO (m.fn p.1 q.1 q.2) Q
 | .ix a b,Z,S,Q=>wE a Z S λp=>wE b Z p.2 λq=>wO (nJ p.1 q.1 q.2) Q
 | .sl a lo hi,Z,S,Q=>wE a Z S λp=>wP lo Z p.2 λq=>wP hi Z q.2 λr=>wO (CN p.1 q.1 r.1 r.2) Q
 | .tup es,Z,S,Q=>wA es Z S λp=>Q (.tup p.1,p.2)
 | .lst es,Z,S,Q=>wA es Z S λp=>Q (.ref p.2.length,p.2++[.lst p.1])
 | .isi c a,Z,S,Q=>wE a Z S λp=>wO (rB p.2 p.1 c) λk=>Q (.bl k,p.2)
 | .neg a,Z,S,Q=>wE a Z S λp=>wN p.1 λi=>Q (.int (-i),p.2)
 | .dnew,_,S,Q=>Q (.ref S.length,S++[.dic []])
 | .disp es,Z,S,Q=>wA es Z (S++[.dis []]) λp=>p.2[S.length]?=bt (.dis [])/\wO (lc p.1) λU=>((U.map (·.1)).Nodup/\U.length<=15)/\Q (.ref S.length,p.2.set S.length (.dis U))
 | .gix U b,Z,S,Q=>wE b Z S λp=>wX p.1 λk=>wO (U.lookup k) λw=>Q (w,p.2)
 | .gni U b,Z,S,Q=>wE b Z S λp=>wX p.1 λk=>Q (.bl (!(U.lookup k).isSome),p.2)
 | .chn o o' a b d,Z,S,Q=>wE a Z S λp=>wE b Z p.2 λq=>wO (yo o p.1 q.1 q.2) λk=>(k=true->wE d Z q.2 λr=>wO (db o' q.1 r.1 r.2) Q)/\(k=false->Q (.bl false,q.2))
 | .ite t a b,Z,S,Q=>wT t Z S λp=>(p.1=true->wE a Z p.2 Q)/\(p.1=false->wE b Z p.2 Q)
 | .comp elt tg it cs cap,Z,S,Q=>Wp (ap M (.comp elt tg it cs cap) Z S) Q
def wT:E->Fm->aa->QB->Prop
 | .cmp o a b,Z,S,Q=>wE a Z S λp=>wE b Z p.2 λq=>wO (dW o p.1 q.1 q.2) λr=>wB r.1 λk=>Q (k,r.2)
 | .and a b,Z,S,Q=>wT a Z S λp=>(p.1=true->wT b Z p.2 Q)/\(p.1=false->Q (false,p.2))
 | .or a b,Z,S,Q=>wT a Z S λp=>(p.1=true->Q (true,p.2))/\(p.1=false->wT b Z p.2 Q)
 | .not a,Z,S,Q=>wT a Z S λp=>Q (!p.1,p.2)
 | .isi c a,Z,S,Q=>wE a Z S λp=>wO (rB p.2 p.1 c) λk=>Q (k,p.2)
 | .c w,Z,S,Q=>Wp (bz M (.c w) Z S) Q
 | .v i,Z,S,Q=>wV Z i λw=>wO (ei S w) λk=>Q (k,S)
 | .sem g,Z,S,Q=>wO (g Z S) λq=>wO (ei q.2 q.1) λk=>Q (k,q.2)
 | .op o a b,Z,S,Q=>Wp (bz M (.op o a b) Z S) Q
 | .own f n es,Z,S,Q=>wA es Z S λp=>wO (bu M f n p.1 p.2) λq=>wO (ei q.2 q.1) λk=>Q (k,q.2)
 | .bi b es,Z,S,Q=>wA es Z S λp=>wO (b.fn p.1 p.2) λq=>wO (ei q.2 q.1) λk=>Q (k,q.2)
 | .me m o es,Z,S,Q=>Wp (bz M (.me m o es) Z S) Q
 | .ix a b,Z,S,Q=>Wp (bz M (.ix a b) Z S) Q
 | .sl a lo hi,Z,S,Q=>Wp (bz M (.sl a lo hi) Z S) Q
 | .tup es,Z,S,Q=>Wp (bz M (.tup es) Z S) Q
 | .lst es,Z,S,Q=>Wp (bz M (.lst es) Z S) Q
 | .neg a,Z,S,Q=>Wp (bz M (.neg a) Z S) Q
 | .dnew,Z,S,Q=>Wp (bz M .dnew Z S) Q
 | .disp es,Z,S,Q=>Wp (bz M (.disp es) Z S) Q
 | .gix U b,Z,S,Q=>Wp (bz M (.gix U b) Z S) Q
 | .gni U b,Z,S,Q=>wE b Z S λp=>wX p.1 λk=>Q (!(U.lookup k).isSome,p.2)
 | .chn o o' a b d,Z,S,Q=>wE a Z S λp=>wE b Z p.2 λq=>wO (yo o p.1 q.1 q.2) λk=>(k=true->wE d Z q.2 λr=>wO (db o' q.1 r.1 r.2) λs=>wB s.1 λc=>Q (c,s.2))/\(k=false->Q (false,q.2))
 | .ite t a b,Z,S,Q=>Wp (bz M (.ite t a b) Z S) Q
 | .comp elt tg it cs cap,Z,S,Q=>Wp (bz M (.comp elt tg it cs cap) Z S) Q
def wA:Es->Fm->aa->(JS W×aa->Prop)->Prop
 | .nil,_,S,Q=>Q ([],S)
 | .cons e es,Z,S,Q=>wE e Z S λp=>wA es Z p.2 λq=>Q (p.1::q.1,q.2)
def wP:Ep->Fm->aa->(JX Kk×aa->Prop)->Prop
 | .no,_,S,Q=>Q (gV,S)
 | .yes a,Z,S,Q=>wE a Z S λp=>wN p.1 λi=>Q (bt i,p.2)
end
abbrev oz (K:Fm->aa->Prop)(Q:QO)(p:Out×aa):Prop:=match p.1 with
 | .nx Z=>K Z p.2
 | o=>Q (o,p.2)
mutual
def wS:Sm->Fm->aa->(Fm->aa->Prop)->QO->Prop
 | .sem g,Z,S,K,Q=>wO (g M Z S) (oz K Q)
 | .set i e,Z,S,K,_=>wE M e Z S λp=>K (Z.set i (bt p.1)) p.2
 | .asg is e,Z,S,K,_=>wE M e Z S λp=>wU p.1 λws=>wO (fT is ws Z) λZ'=>K Z' p.2
 | .par i j es,Z,S,K,_=>wA M es Z S λp=>w2 p.1 λx y=>K ((Z.set i (bt x)).set j (bt y)) p.2
 | .put o k e,Z,S,K,_=>wE M e Z S λp=>wE M o Z p.2 λq=>wE M k Z q.2 λr=>wO (l0 q.1 r.1 p.1 r.2) λS'=>K Z S'
 | .ex e,Z,S,K,_=>wE M e Z S λp=>K Z p.2
 | .ret e,Z,S,_,Q=>wE M e Z S λp=>Q (.rt p.1,p.2)
 | .retN,_,S,_,Q=>Q (.rt .non,S)
 | .pass,Z,S,K,_=>K Z S
 | .brk,Z,S,_,Q=>Q (.bk Z,S)
 | .cont,Z,S,_,Q=>Q (.ct Z,S)
 | .bad,_,_,_,_=>KT
 | .ite t a b,Z,S,K,Q=>wT M t Z S λp=>∀Q':QO,(∀Z' S',K Z' S'->Q' (.nx Z',S'))->(∀o S',(∀Z',o≠.nx Z')->Q (o,S')->Q' (o,S'))->(p.1=true->Am a Z p.2 Q')/\(p.1=false->Am b Z p.2 Q')
 | .whl t b,Z,S,K,Q=>Wp (bH M fuel (.whl t b) Z S) (oz K Q)
 | .loop tg it b,Z,S,K,Q=>Wp (bH M fuel (.loop tg it b) Z S) (oz K Q)
def Am:Ss->Fm->aa->QO->Prop
 | .nil,Z,S,Q=>Q (.nx Z,S)
 | .cons s ss,Z,S,Q=>wS s Z S (λZ' S'=>Am ss Z' S' Q) Q
end
end
abbrev EE:Es->J4
 | .nil=>0
 | .cons _ es=>EE es+1
mutual
def dw:E->Kn
 | .c _|.v _|.sem _|.comp _ _ _ _ _|.dnew=>true
 | .op _ a b|.cmp _ a b|.and a b|.or a b|.ix a b=>dw a&&dw b
 | .chn _ _ a b c|.ite a b c=>dw a&&dw b&&dw c
 | .neg a|.not a|.isi _ a|.gix _ a|.gni _ a=>dw a
 | .own _ n es=>EE es==n&&pY es
 | .bi _ es|.disp es=>pY es
 | .me _ o es=>dw o&&pY es
 | .sl a lo hi=>dw a&&IL lo&&IL hi
 | .tup es|.lst es=>decide (EE es<=1000)&&pY es
def pY:Es->Kn
 | .nil=>true
 | .cons e es=>dw e&&pY es
def IL:Ep->Kn
 | .no=>true
 | .yes e=>dw e
end
mutual
def Jp:Sm->Kn
 | .set _ e|.asg _ e|.ex e|.ret e=>dw e
 | .put o k e=>dw o&&dw k&&dw e
 | .par _ _ es=>pY es
 | .ite t a b=>dw t&&gF a&&gF b
 | _=>true
def gF:Ss->Kn
 | .nil=>true
 | .cons s ss=>Jp s&&gF ss
end
section
variable{M:J3->FF}{fuel:J4}
def eY:∀ {es:Es} {Z:Fm} {S S':aa} {ws:JS W},aZ M es Z S=bt (ws,S')->ws.length=EE es
 | .nil,Z,S,S',ws,h=>by dsimp only[aZ]at h; cases h; rfl
 | .cons e es,Z,S,S',ws,h=>by
  dsimp only[aZ]at h;unfold bZ at h;split at h
  ·split at h
   ·rename_i h2; cases h; rw[KJ,eY h2]; rfl
   ·cases h
  ·cases h
def pZ {n:J4}(h:decide (n<=1000)=true):n<=sizeLine:=Kx (La h) (by rw[Lf]; decide)
def Gy {g:FE}{Z:Fm}{S:aa}{Q:QB}(h:wO (g Z S) λq=>wO (ei q.2 q.1) λk=>Q (k,q.2)):Wp (de g Z S) Q:=by
 obtain⟨⟨w,S1⟩,e,hq⟩:=aN h;obtain⟨k,e2,q⟩:=aN hq;show#[(k,S1),?_,q];unfold de;rw[e];dsimp only;rw[e2];rfl
def bo {a b:Kn}(h:(a&&b)=true):a=true:=by cases a <;> first|rfl|cases h
def bU {a b:Kn}(h:(a&&b)=true):b=true:=by cases a <;> first|exact h|cases h
mutual
theorem aw:∀(e:E) {Z:Fm} {S:aa} {Q:QW},dw e=true->wE M e Z S Q->Wp (ap M e Z S) Q
 | .c w,Z,S,Q,k,h=>JD.mpr h
 | .v i,Z,S,Q,k,h=>Jo.mpr (xl h)
 | .sem g,Z,S,Q,k,h=>aN h
 | .op o a b,Z,S,Q,k,h=>IB.mpr ((aw a (bo k) h).mono λp hp=>(aw b (bU k) hp).mono λq hq=>aN hq)
 | .cmp o a b,Z,S,Q,k,h=>Bx.mpr ((aw a (bo k) h).mono λp hp=>(aw b (bU k) hp).mono λq hq=>aN hq)
 | .and a b,Z,S,Q,k,h=>FZ.mpr ((aw a (bo k) h).mono λp hp=>let ⟨c,e,h1,h2⟩:=oy hp; #[c,e,λz=>aw b (bU k) (h1 z),h2])
 | .or a b,Z,S,Q,k,h=>ID.mpr ((aw a (bo k) h).mono λp hp=>let ⟨c,e,h1,h2⟩:=oy hp; #[c,e,h1,λz=>aw b (bU k) (h2 z)])
 | .not a,Z,S,Q,k,h=>F1.mpr ((aw a k h).mono λp hp=>oy hp)
 | .own f n es,Z,S,Q,k,h=>By.mpr (by
   obtain⟨⟨ws,S1⟩,e,hq⟩:=fF es (bU k) h;have hl:ws.length=n:=(eY e).trans (eq_of_beq (bo k));simp only[bu,Ks hl]at hq;exact#[_,e,hl,aN hq])
 | .bi b es,Z,S,Q,k,h=>F4.mpr ((fF es k h).mono λp hp=>aN hp)
 | .me m o es,Z,S,Q,k,h=>IE.mpr ((aw o (bo k) h).mono λp hp=>#[hp.1,(fF es (bU k) hp.2).mono λq hq=>aN hq])
 | .ix a b,Z,S,Q,k,h=>IC.mpr ((aw a (bo k) h).mono λp hp=>(aw b (bU k) hp).mono λq hq=>aN hq)
 | .sl a lo hi,Z,S,Q,k,h=>IF.mpr ((aw a (bo (bo k)) h).mono λp hp=>(BG lo (bU (bo k)) hp).mono λq hq=>(BG hi (bU k) hq).mono λr hr=>aN hr)
 | .tup es,Z,S,Q,k,h=>F6.mpr (by
   obtain⟨⟨ws,S1⟩,e,hq⟩:=fF es (bU k) h;exact#[_,e,by rw[eY e]; exact pZ (bo k),hq])
 | .lst es,Z,S,Q,k,h=>F7.mpr (by
   obtain⟨⟨ws,S1⟩,e,hq⟩:=fF es (bU k) h;exact#[_,e,by rw[eY e]; exact pZ (bo k),hq])
 | .isi c a,Z,S,Q,k,h=>Bz.mpr ((aw a k h).mono λp hp=>aN hp)
 | .neg a,Z,S,Q,k,h=>F8.mpr ((aw a k h).mono λp hp=>BF hp)
 | .dnew,Z,S,Q,k,h=>#[_,rfl,h]
 | .disp es,Z,S,Q,k,h=>Du.mpr ((fF es k h).mono λp hp=>#[hp.1,let ⟨U,e,q⟩:=aN hp.2; #[U,e,q]])
 | .gix U b,Z,S,Q,k,h=>F9.mpr ((aw b k h).mono λp hp=>let ⟨c,e,h1⟩:=xj hp; let ⟨w,e2,h2⟩:=aN h1; #[c,w,e,e2,h2])
 | .gni U b,Z,S,Q,k,h=>Ga.mpr ((aw b k h).mono λp hp=>xj hp)
 | .chn o o' a b d,Z,S,Q,k,h=>BA ((aw a (bo (bo k)) h).mono λp hp=>(aw b (bU (bo k)) hp).mono λq hq=>let ⟨c,e,h1,h2⟩:=aN hq; #[c,e,λz=>(aw d (bU k) (h1 z)).mono λr hr=>aN hr,h2])
 | .ite t a b,Z,S,Q,k,h=>F3.mpr ((gG t (bo (bo k)) h).mono λp hp=>#[λz=>aw a (bU (bo k)) (hp.1 z),λz=>aw b (bU k) (hp.2 z)])
 | .comp elt tg it cs cap,Z,S,Q,k,h=>h
theorem fF:∀(es:Es) {Z:Fm} {S:aa} {Q:JS W×aa->Prop},pY es=true->wA M es Z S Q->Wp (aZ M es Z S) Q
 | .nil,Z,S,Q,k,h=>Gc.mpr h
 | .cons e es,Z,S,Q,k,h=>Dv.mpr ((aw e (bo k) h).mono λp hp=>fF es (bU k) hp)
theorem BG:∀(e:Ep) {Z:Fm} {S:aa} {Q:JX Kk×aa->Prop},IL e=true->wP M e Z S Q->Wp (rD M e Z S) Q
 | .no,Z,S,Q,k,h=>IG.mpr h
 | .yes a,Z,S,Q,k,h=>F5.mpr ((aw a k h).mono λp hp=>BF hp)
theorem gG:∀(e:E) {Z:Fm} {S:aa} {Q:QB},dw e=true->wT M e Z S Q->Wp (bz M e Z S) Q
 | .cmp o a b,Z,S,Q,k,h=>Gd.mpr (Bx.mpr ((aw a (bo k) h).mono λp hp=>(aw b (bU k) hp).mono λq hq=>(aN hq).mono λr hr=>oy hr))
 | .and a b,Z,S,Q,k,h=>Gg.mpr ((gG a (bo k) h).mono λp hp=>#[λz=>gG b (bU k) (hp.1 z),hp.2])
 | .or a b,Z,S,Q,k,h=>IH.mpr ((gG a (bo k) h).mono λp hp=>#[hp.1,λz=>gG b (bU k) (hp.2 z)])
 | .not a,Z,S,Q,k,h=>Gh.mpr (gG a k h)
 | .isi c a,Z,S,Q,k,h=>Gj.mpr (Bz.mpr ((aw a k h).mono λp hp=>let ⟨b,e,q⟩:=aN hp; #[b,e,b,rfl,q]))
 | .v i,Z,S,Q,k,h=>JE.mpr (Jo.mpr (let ⟨w,e,q⟩:=xl h; #[w,e,aN q]))
 | .sem g,Z,S,Q,k,h=>Gy h
 | .own f n es,Z,S,Q,k,h=>Gi.mpr (By.mpr (by
   obtain⟨⟨ws,S1⟩,e,hq⟩:=fF es (bU k) h;have hl:ws.length=n:=(eY e).trans (eq_of_beq (bo k));simp only[bu,Ks hl]at hq;exact#[_,e,hl,(aN hq).mono λq hq=>aN hq]))
 | .c w,Z,S,Q,k,h=>h
 | .op o a b,Z,S,Q,k,h=>h
 | .bi b es,Z,S,Q,k,h=>II.mpr (F4.mpr ((fF es k h).mono λp hp=>(aN hp).mono λq hq=>aN hq))
 | .me m o es,Z,S,Q,k,h=>h
 | .ix a b,Z,S,Q,k,h=>h
 | .sl a lo hi,Z,S,Q,k,h=>h
 | .tup es,Z,S,Q,k,h=>h
 | .lst es,Z,S,Q,k,h=>h
 | .neg a,Z,S,Q,k,h=>h
 | .dnew,Z,S,Q,k,h=>h
 | .disp es,Z,S,Q,k,h=>h
 | .gix U b,Z,S,Q,k,h=>h
 | .gni U b,Z,S,Q,k,h=>Gb.mpr ((aw b k h).mono λp hp=>xj hp)
 | .chn o o' a b d,Z,S,Q,k,h=>Ge.mpr (BA ((aw a (bo (bo k)) h).mono λp hp=>(aw b (bU (bo k)) hp).mono λq hq=>let ⟨c,e,h1,h2⟩:=aN hq; #[c,e,λz=>(aw d (bU k) (h1 z)).mono λr hr=>(aN hr).mono λs hs=>oy hs,λz=>#[false,rfl,h2 z]]))
 | .ite t a b,Z,S,Q,k,h=>h
 | .comp elt tg it cs cap,Z,S,Q,k,h=>h
end
mutual
theorem Gz:∀(s:Sm) {Z:Fm} {S:aa} {K:Fm->aa->Prop} {Q:QO},Jp s=true->wS M fuel s Z S K Q->Wp (bH M fuel s Z S) (oz K Q)
 | .sem g,Z,S,K,Q,k,h=>aN h
 | .set i e,Z,S,K,Q,k,h=>Dy.mpr (aw e k h)
 | .asg is e,Z,S,K,Q,k,h=>Dz.mpr ((aw e k h).mono λp hp=>let ⟨ws,e1,h1⟩:=Gw hp; let ⟨Z',e2,h2⟩:=aN h1; #[ws,Z',e1,e2,h2])
 | .par i j es,Z,S,K,Q,k,h=>DA.mpr ((fF es k h).mono λp hp=>Gx hp)
 | .put o i e,Z,S,K,Q,k,h=>DB.mpr ((aw e (bU k) h).mono λp hp=>(aw o (bo (bo k)) hp).mono λq hq=>(aw i (bU (bo k)) hq).mono λr hr=>aN hr)
 | .ex e,Z,S,K,Q,k,h=>Gm.mpr (aw e k h)
 | .ret e,Z,S,K,Q,k,h=>DC.mpr (aw e k h)
 | .retN,Z,S,K,Q,k,h=>#[_,rfl,h]
 | .pass,Z,S,K,Q,k,h=>#[_,rfl,h]
 | .brk,Z,S,K,Q,k,h=>#[_,rfl,h]
 | .cont,Z,S,K,Q,k,h=>#[_,rfl,h]
 | .bad,Z,S,K,Q,k,h=>h.elim
 | .ite t a b,Z,S,K,Q,k,h=>DD.mpr ((gG t (bo (bo k)) h).mono λp hp=>by
   obtain⟨h1,h2⟩:=hp (oz K Q) (λZ' S' z=>z) (λo S' hn z=>by cases o <;> first|exact z|exact absurd rfl (hn _))
   exact#[λz=>fW a (bU (bo k)) (h1 z),λz=>fW b (bU k) (h2 z)])
 | .whl t b,Z,S,K,Q,k,h=>h
 | .loop tg it b,Z,S,K,Q,k,h=>h
theorem fW:∀(ss:Ss) {Z:Fm} {S:aa} {Q:QO},gF ss=true->Am M fuel ss Z S Q->Wp (bL M fuel ss Z S) Q
 | .nil,Z,S,Q,k,h=>Gk.mpr h
 | .cons s ss,Z,S,Q,k,h=>Dw.mpr ((Gz s (bo k) h).mono λp hp=>by
   obtain⟨o,S1⟩:=p;cases o with
   | nx Z'=>exact#[λZ2 e=>by cases e; exact fW ss (bU k) hp,λz=>absurd rfl (z Z')]
   | _=>exact#[λZ2 e=>(by cases e),λ_=>hp])
end
structure wZ (M:J3->FF)(fuel:J4)(ss:Ss)(Z:Fm)(S:aa)(Q:QO):Prop where
 out:Am M fuel ss Z S Q
def GB {ss:Ss}{Z:Fm}{S:aa}{Q:QO}:Am M fuel ss Z S Q=wZ M fuel ss Z S Q:=propext #[λh=>#[h],λh=>h.out]
def DH {defs:JS (J3×Df)}{d:J4}{f:J3}{n:J4}{ws:JS W}{df:Df}{S:aa}{Q:QW}(h:defs.lookup f=bt df)(hn:ws.length=n)(hl:ws.length=df.ps.length)(ok:gF df.body=true)
  (hb:∀Q':QO,(∀w S',Q (w,S')->Q' (.rt w,S'))->wZ (ag defs fuel d) fuel df.body (a9 df.N ws) S Q'):wO (bu (ag defs fuel (d+1)) f n ws S) Q:=by
 unfold bu;rw[Ks hn];exact Gv (ue h hl ((fW _ ok (hb (λp=>match p.1 with|.rt w=>Q (w,p.2)|_=>KT) λw S' q=>q).out).mono λp hp=>by
  obtain⟨o,S1⟩:=p;cases o <;> first|exact hp|exact hp.elim))
end
end Mi
namespace Mi
open PySem PySem.Spec PyProof.Rows L2 Xc
abbrev uu:W->JX W
 | .tup [.non,w]=>bt w
 | .non=>bt .non
 | _=>gV
abbrev xV:W->JX (J3×JS W)
 | .tup (.str c::ws)=>bt (c,ws)
 | _=>gV
def GC {w w':W}(h:uu w=bt w'):xV w=gV:=by
 unfold uu at h;split at h
 ·rfl
 ·rfl
 ·cases h
abbrev Hr:Out->JX Out
 | .rt w=>(uu w).map .rt
 | o=>bt o
abbrev xO:Out->JX (J3×JS W)
 | .rt w=>xV w
 | _=>gV
abbrev dY (F:FS):FS:=λZ S=>match F Z S with
 | some (o,S')=>(Hr o).map λo'=>(o',S')
 | none=>gV
abbrev xF (F:FS):FX:=λZ S=>match F Z S with
 | some (o,S')=>(xO o).map λp=>(p.1,p.2,S')
 | none=>gV
def mo (w:W):Hr (.rt w)=gV\/∃w',Hr (.rt w)=bt (.rt w')/\xO (.rt w)=gV:=by
 cases h:uu w with
 | none=>
  show .inl ?_;show(uu w).map _=gV;rw[h];rfl
 | some w'=>
  show .inr #[w',?_,GC h];show(uu w).map _=_;rw[h];rfl
section
variable{X:Cx}{cl:Cl}{Ew:L2.XK}
def GX.mono {st:Lp}{f f':FS}{fx fx':FX}(h:GX X cl Ew st f fx)(hf:∀Z S r,f' Z S=bt r->f Z S=bt r)(hx:∀Z S r,fx' Z S=bt r->fx Z S=bt r):GX X cl Ew st f' fx':=λJ s Y H D I q=>h J s Y H D I (by
 rcases q with⟨A,Z,S,o,S',er,so,e,d⟩|⟨A,Z,S,cn,ws,S',C,gs,er,so,e,hc,q⟩
 ·exact .inl #[A,Z,S,o,S',er,so,hf _ _ _ e,d]
 ·exact .inr #[A,Z,S,cn,ws,S',C,gs,er,so,hx _ _ _ e,hc,q])
end
def An (f g:FS):dY (iF f g)=iF (dY f) (dY g):=by
 funext Z S
 unfold dY iF;dsimp only;cases f Z S with
 | none=>rfl
 | some p=>
  obtain⟨o,S1⟩:=p;cases o with
  | rt w=>rcases mo w with e|⟨w',e,_⟩ <;> (dsimp only; rw[e]; rfl)
  | _=>rfl
def DI (f g:FS):xF (iF f g)=rq (dY f) (xF f) (xF g):=by
 funext Z S
 unfold xF iF rq dY;dsimp only;cases f Z S with
 | none=>rfl
 | some p=>
  obtain⟨o,S1⟩:=p;cases o with
  | rt w=>rcases mo w with e|⟨w',e,e2⟩ <;> dsimp only <;> rw[e] <;> first|rfl|(rw[e2]; rfl)
  | _=>rfl
def DJ (c:FT)(f g:FS):dY (gy c f g)=gy c (dY f) (dY g):=by
 funext Z S
 unfold dY gy;dsimp only;cases c Z S with
 | none=>rfl
 | some p=>obtain⟨b,S1⟩:=p; cases b <;> rfl
def GD (c:FT)(f g:FS):xF (gy c f g)=zS c (xF f) (xF g):=by
 funext Z S
 unfold xF gy zS;dsimp only;cases c Z S with
 | none=>rfl
 | some p=>obtain⟨b,S1⟩:=p; cases b <;> rfl
def oB (mi:MI)(g:FG)(b:FS):∀(n i:J4) (Z:Fm) (S:aa),dY (bq mi g b n i) Z S=bq mi g (dY b) n i Z S
 | 0,i,Z,S=>by
  unfold dY;dsimp only[bq];cases mi.at S i with
  | none=>rfl
  | some o=>cases o <;> rfl
 | n+1,i,Z,S=>by
  have ih:=oB mi g b n;unfold dY at ih ⊢;dsimp only[bq];cases mi.at S i with
  | none=>rfl
  | some o=>
   cases o with
   | none=>rfl
   | some w=>
    dsimp only;cases g w Z S with
    | none=>rfl
    | some p=>
     dsimp only;cases b p.1 p.2 with
     | none=>rfl
     | some q=>
      obtain⟨o,S2⟩:=q;cases o with
      | nx Z2=>exact ih (i+1) Z2 S2
      | ct Z2=>exact ih (i+1) Z2 S2
      | bk Z2=>rfl
      | rt w=>rcases mo w with e|⟨w',e,_⟩ <;> (dsimp only; rw[e]; rfl)
def Ao (fi:FI)(g:FG)(b:FS):dY (iG fi g b)=iG fi g (dY b):=by
 funext Z S
 have h:=oB;unfold dY at h ⊢;unfold iG;cases fi Z S with
 | none=>rfl
 | some p=>
  obtain⟨mi,S1⟩:=p;dsimp only;cases mi.len S1 with
  | none=>rfl
  | some n=>exact h mi g b n 0 Z S1
def rQ (mi:MI)(g:FG)(b:FS):∀(n i:J4) (Z:Fm) (S:aa),xF (bq mi g b n i) Z S=dI mi g (dY b) (xF b) n i Z S
 | 0,i,Z,S=>by
  unfold xF;dsimp only[bq,dI];cases mi.at S i with
  | none=>rfl
  | some o=>cases o <;> rfl
 | n+1,i,Z,S=>by
  have ih:=rQ mi g b n;unfold xF at ih ⊢;dsimp only[bq,dI];cases mi.at S i with
  | none=>rfl
  | some o=>
   cases o with
   | none=>rfl
   | some w=>
    dsimp only;cases g w Z S with
    | none=>rfl
    | some p=>
     dsimp only;unfold dY at ih ⊢
     try dsimp only at ih ⊢
     cases hb:b p.1 p.2 with
     | none=>rfl
     | some q=>
      obtain⟨o,S2⟩:=q;cases o with
      | nx Z2=>exact ih (i+1) Z2 S2
      | ct Z2=>exact ih (i+1) Z2 S2
      | bk Z2=>rfl
      | rt w=>rcases mo w with e|⟨w',e,e2⟩ <;> dsimp only <;> rw[e] <;> first|rfl|(rw[e2]; rfl)
def DL (fi:FI)(g:FG)(b:FS):xF (iG fi g b)=rN fi g (dY b) (xF b):=by
 funext Z S
 have h:=rQ;unfold xF at h ⊢;unfold iG rN;cases fi Z S with
 | none=>rfl
 | some p=>
  obtain⟨mi,S1⟩:=p;dsimp only;cases mi.len S1 with
  | none=>rfl
  | some n=>exact h mi g b n 0 Z S1
abbrev mq:Sm->Kn
 | .set _ _|.asg _ _|.par _ _ _|.put _ _ _|.ex _|.pass=>true
 | _=>false
section
variable{M:J3->FF}{fuel:J4}
def qa {f:FE}{g:FG}{Z:Fm}{S:aa}{o:Out}{S':aa}(h:dE f g Z S=bt (o,S')):∃Z',o=.nx Z':=by
 unfold dE at h;split at h
 ·split at h
  ·cases h; exact#[_,rfl]
  ·cases h
 ·cases h
def oE {s:Sm}(hp:mq s=true){Z:Fm}{S:aa}{o:Out}{S':aa}(h:bH M fuel s Z S=bt (o,S')):∃Z',o=.nx Z':=by
 cases s with
 | set i e=>dsimp only[bH]at h; exact qa h
 | asg is e=>dsimp only[bH]at h; exact qa h
 | put a b c=>dsimp only[bH]at h; exact qa h
 | par i j es=>
  dsimp only[bH]at h;unfold wa at h;split at h
  ·cases h; exact#[_,rfl]
  ·cases h
 | ex e=>
  dsimp only[bH]at h;unfold nP at h;split at h
  ·cases h; exact#[_,rfl]
  ·cases h
 | pass=>cases h; exact#[_,rfl]
 | _=>cases hp
def uf {s:Sm}(hp:mq s=true){Z:Fm}{S:aa}{r:Out×aa}(h:dY (bH M fuel s) Z S=bt r):bH M fuel s Z S=bt r:=by
 unfold dY at h;split at h
 ·rename_i o S' e;obtain⟨Z',rfl⟩:=oE hp e;rw[e];exact h
 ·cases h
def xn {s:Sm}(hp:mq s=true){Z:Fm}{S:aa}:xF (bH M fuel s) Z S=gV:=by
 unfold xF;split
 ·rename_i o S' e;obtain⟨Z',rfl⟩:=oE hp e;rfl
 ·rfl
end
abbrev GF (Γ:Gam)(st:Lp):JX Sm:=match cS 20 Γ st with
 | some s'=>if mq s' then bt s' else gV
 | none=>gV
abbrev cX (R:JS (J3×J4)):J4->Gam->Lp->JX Sm
 | 0,_,_=>gV
 | n+1,Γ,st=>match st with
  | .Return (bt e) _=>(cE aB Γ e).map λe'=>.ret (.tup #v[.c .non,e'])
  | .Raise (bt (.Call (.Name c _) args [] _)) gV _=>if br Γ c&&(R.lookup c==bt args.length)then(cA (cE aB Γ) args).map λes=>.ret (.tup (.cons (.c (.str c)) es))else gV
  | .If t a b _=>match cE aB Γ t,eF (cX R n Γ) a,eF (cX R n Γ) b with
   | some t',bt a',bt b'=>bt (.ite t' a' b')
   | _,_,_=>gV
  | .For tg it b [] _=>match cT Γ tg,cI Γ (cE aB Γ) tg it,eF (cX R n Γ) b with
   | some t,bt i,bt b'=>bt (.loop t i b')
   | _,_,_=>gV
  | st=>GF Γ st
inductive RK (X:Cx)(cl:Cl)(c:J3):J4->Prop
 | zero {k:J4} {f C:td} {cd:LM} {fd:Lb} {ps:JS J3} (Mqa:XM X.K C f cd) (F:FnOk X.prog X.w X.K X.mg X.base ji k f fd ps (yY X.K)) (hr:Room (k+1) X.A) (hm:X.mg c=bt (.ref C)) (hb:Binds X.K fd ps []) (hc:cl c=bt (C,[])):RK X cl c 0
 | one {k:J4} {f C:td} {cd:LM} {fd:Lb} {ps:JS J3} {g:J3} (Mqa:XM X.K C f cd) (hf:M7 X.K (.ref C) g=bt gV) (F:FnOk X.prog X.w X.K X.mg X.base ji k f fd ps (vh X.K g)) (hr:Room (k+1) X.A) (hm:X.mg c=bt (.ref C)) (hb:Binds X.K fd ps []) (hc:cl c=bt (C,[g])):RK X cl c 1
structure XOk (X:Cx)(R:JS (J3×J4))(cl:Cl)(Ew:L2.XK):Prop where
 hh:X.A.handled=gV
 w:zR X Ew
 rk:∀c k,R.lookup c=bt k->RK X cl c k
section
variable{M:J3->FF}{X:Cx}{Γ:Gam}{fuel:J4}{R:JS (J3×J4)}{cl:Cl}{Ew:L2.XK}
def mr (K:CtxOk M X Γ){st:Lp}{s':Sm}(h:GF Γ st=bt s'):GX X cl Ew st (dY (bH M fuel s')) (xF (bH M fuel s')):=by
 unfold GF at h;split at h
 ·rename_i s1 h1;split at h
  ·rename_i hp;cases h;exact(nS (iR fuel K 20 h1)).mono (λZ S r e=>uf hp e) λZ S r e=>by rw[xn hp]at e; cases e
  ·cases h
 ·cases h
def ug {S S':aa}{ws:JS W}{w:W}(h:lO S ws=bt (w,S')):w=.tup ws/\S'=S:=by
 unfold lO at h;split at h
 ·cases h; exact#[rfl,rfl]
 ·cases h
def gH {e:E}{es:Es}{c w:W}{Z:Fm}{S S':aa}(h:ap M (.tup (.cons (.c c) es)) Z S=bt (w,S')):∃ws,aZ M es Z S=bt (ws,S')/\w=.tup (c::ws):=by
 dsimp only[ap,aZ]at h;unfold tQ at h;split at h
 ·rename_i ws S1 e1;obtain⟨rfl,rfl⟩:=ug h;unfold bZ at e1;dsimp only[fC]at e1;split at e1
  ·rename_i ws2 S2 e2;cases e1;exact#[_,e2,rfl]
  ·cases e1
 ·cases h
def gI {f:FE}{Z:Fm}{S:aa}{o:Out}{S':aa}(h:nQ f Z S=bt (o,S')):∃w,f Z S=bt (w,S')/\o=.rt w:=by
 unfold nQ at h;split at h
 ·rename_i w S1 e; cases h; exact#[w,e,rfl]
 ·cases h
def DM {e':E}{Z:Fm}{S:aa}{r:Out×aa}(h:dY (bH M fuel (.ret (.tup #v[.c .non,e']))) Z S=bt r):nQ (ap M e') Z S=bt r:=by
 unfold dY at h;split at h
 ·rename_i o S' e;obtain⟨w,e1,rfl⟩:=gI e;obtain⟨ws,e2,rfl⟩:=gH (e:=e') e1;dsimp only[aZ]at e2;unfold bZ at e2;split at e2
  ·rename_i w2 S2 e3;dsimp only[gu]at e2;cases e2;cases h;unfold nQ;rw[e3]
  ·cases e2
 ·cases h
def DN {e':E}{Z:Fm}{S:aa}:xF (bH M fuel (.ret (.tup #v[.c .non,e']))) Z S=gV:=by
 unfold xF;split
 ·rename_i o S' e;obtain⟨w,e1,rfl⟩:=gI e;obtain⟨ws,e2,rfl⟩:=gH (e:=e') e1;rfl
 ·rfl
def xo {f:Kd->JX E}:∀ {es:JS Kd} {r:Es},cA f es=bt r->EE r=es.length
 | [],_,h=>by cases h; rfl
 | e::es,r,h=>by
  obtain⟨e',es',h1,h2,rfl⟩:=dG h;change EE es'+1=_;rw[xo h2];rfl
def xp {c:J3}{es:Es}{Z:Fm}{S:aa}:dY (bH M fuel (.ret (.tup (.cons (.c (.str c)) es)))) Z S=gV:=by
 unfold dY;split
 ·rename_i o S' e;obtain⟨w,e1,rfl⟩:=gI e;obtain⟨ws,e2,rfl⟩:=gH (e:=.dnew) e1;rfl
 ·rfl
def Ap {c:J3}{es:Es}{Z:Fm}{S:aa}{r:J3×JS W×aa}(h:xF (bH M fuel (.ret (.tup (.cons (.c (.str c)) es)))) Z S=bt r):∃ws S',aZ M es Z S=bt (ws,S')/\r=(c,ws,S'):=by
 unfold xF at h;split at h
 ·rename_i o S' e;obtain⟨w,e1,rfl⟩:=gI e;obtain⟨ws,e2,rfl⟩:=gH (e:=.dnew) e1;cases h;exact#[ws,S',e2,rfl]
 ·cases h
def Aq (K:CtxOk M X Γ)(Zx:XOk X R cl Ew){c:J3}{args:JS Kd}{p cpos pos:LG}{s':Sm}(h:(if br Γ c&&(R.lookup c==bt args.length)then(cA (cE aB Γ) args).map λes=>Sm.ret (.tup (.cons (.c (.str c)) es))else gV)=bt s') :
  GX X cl Ew (.Raise (bt (.Call (.Name c p) args [] cpos)) gV pos) (dY (bH M fuel s')) (xF (bH M fuel s')):=by
 split at h
 ·rename_i hc;rw[JY]at hc;obtain⟨g1,g2⟩:=cK K hc.1;have hl:R.lookup c=bt args.length:=eq_of_beq hc.2;rw[J0]at h;obtain⟨es,h1,rfl⟩:=h;have ga:=bD (λz=>(aM aB K z).1) h1
  have rk:=Zx.rk c _ hl;have ln:=xo h1;have ns:=aX h1;have hx:∀k,args.length=k->∀Z S r,xF (bH M fuel (.ret (.tup (.cons (.c (.str c)) es)))) Z S=bt r->jH c k (aZ M es) Z S=bt r:=λk hk Z S r e=>by
   obtain⟨ws,S',e1,rfl⟩:=Ap e;unfold jH;rw[e1];dsimp only;rw[Ks ((eY e1).trans (ln.trans hk))]
  have ho:∀(f:FS) Z S r,dY (bH M fuel (.ret (.tup (.cons (.c (.str c)) es)))) Z S=bt r->f Z S=bt r:=λf Z S r e=>by rw[xp]at e; cases e
  generalize hk:args.length=k at rk;cases rk with
  | zero Mqa F hr hm hb hcl=>
   obtain rfl:args=[]:=Mo.mp hk;show(tV (p:=p) (cpos:=cpos) (pos:=pos) Zx.hh Mqa F hr g1 hm hb Zx.w hcl g2).mono (ho _) λZ S r e=>?_
   have q:=hx 0 hk Z S r e;cases h1;cases q;rfl
  | one Mqa hf F hr hm hb hcl=>
   cases args with
   | nil=>cases hk
   | cons a as=>
    rw[KM,JY]at ns;exact(tU (p:=p) (cpos:=cpos) (pos:=pos) Zx.hh Mqa hf F hr g1 hm hb Zx.w hcl ga g2 (aq ns.1) (aT ns.2)).mono (ho _) (hx 1 hk)
 ·cases h
def gJ {n:J4}(ih:∀ {st:Lp} {s':Sm},cX R n Γ st=bt s'->GX X cl Ew st (dY (bH M fuel s')) (xF (bH M fuel s'))):∀ {ss:JS Lp} {r:Ss},eF (cX R n Γ) ss=bt r->Bo X cl Ew ss (dY (bL M fuel r)) (xF (bL M fuel r))
 | [],r,h=>by
  cases h;exact zQ
 | s::ss,r,h=>by
  obtain⟨s',ss',h1,h2,rfl⟩:=gE h;have g:=wc (ih h1) (gJ ih h2);rw[<- An,<- DI]at g;exact g
def Ar (fuel:J4)(K:CtxOk M X Γ)(Zx:XOk X R cl Ew):∀(n:J4) {st:Lp} {s':Sm},cX R n Γ st=bt s'->GX X cl Ew st (dY (bH M fuel s')) (xF (bH M fuel s')):=by
 intro n
 induction n with
 | zero=>intro st s' h; cases h
 | succ n ih=>
  intro st s' h;cases st with
  | Return o p=>
   cases o with
   | none=>exact mr K h
   | some e=>
    replace h:(cE aB Γ e).map (λe'=>Sm.ret (.tup #v[.c .non,e']))=bt s':=h
    rw[J0]at h;obtain⟨e',h1,rfl⟩:=h;exact(nS (pO (aM _ K h1).1)).mono (λZ S r e=>DM e) λZ S r e=>by rw[DN]at e; cases e
  | Raise exc cause pos=>
   have bad:GF Γ (.Raise exc cause pos)=gV:=rfl;have plain:GF Γ (.Raise exc cause pos)=bt s'->GX X cl Ew (.Raise exc cause pos) (dY (bH M fuel s')) (xF (bH M fuel s')):=λz=>by rw[bad]at z; cases z
   cases cause with
   | some _=>cases exc with
    | none=>exact plain h
    | some e=>cases e with
     | Call f args kw cpos=>cases f with
      | Name c p=>cases kw <;> exact plain h
      | _=>exact plain h
     | _=>exact plain h
   | none=>cases exc with
    | none=>exact plain h
    | some e=>cases e with
     | Call f args kw cpos=>cases f with
      | Name c p=>cases kw with
       | nil=>exact Aq K Zx h
       | cons _ _=>exact plain h
      | _=>exact plain h
     | _=>exact plain h
  | If t a b p=>
   replace h:(match cE aB Γ t,eF (cX R n Γ) a,eF (cX R n Γ) b with|some t',bt a',bt b'=>bt (Sm.ite t' a' b')|_,_,_=>gV)=bt s':=h
   split at h
   ·rename_i t' a' b' h1 h2 h3;cases h;have g:=FH (pos:=p) (aM _ K h1).2 (gJ ih h2) (gJ ih h3);rw[<- DJ,<- GD]at g;exact g
   ·cases h
  | For tg it b o p=>
   cases o with
   | cons _ _=>exact mr K h
   | nil=>
    replace h:(match cT Γ tg,cI Γ (cE aB Γ) tg it,eF (cX R n Γ) b with|some t,bt i,bt b'=>bt (Sm.loop t i b')|_,_,_=>gV)=bt s':=h
    split at h
    ·rename_i t i b' h1 h2 h3;cases h;have g:=Dt (pos:=p) K.xe K.calm (mh K (λz=>(aM _ K z).1) h2) (ol K h1) (gJ ih h3) (iP (n:=aB) (λel k p=>rfl) h2)
     rw[<- Ao,<- DL]at g;exact g
    ·cases h
  | _=>exact mr K h
end
abbrev oV (g:FF):FF:=λws S=>match g ws S with
 | some (w,S')=>(uu w).map λv=>(v,S')
 | none=>gV
abbrev xG (g:FF):FJ:=λws S=>match g ws S with
 | some (w,S')=>(xV w).map λp=>(p.1,p.2,S')
 | none=>gV
section
variable{P:Ke}{w:Kr}{K:J2}{mg:J3->JX JU}{base:KB}
inductive CK (P:Ke)(w:Kr)(K:J2)(mg:J3->JX JU)(base:KB)(cl:Cl)(c:J3):J4->Prop
 | zero {f C:td} {cd:LM} {fd:Lb} {ps:JS J3} (Mqa:XM K C f cd) (F:FnOk P w K mg base ji 1 f fd ps (yY K)) (hm:mg c=bt (.ref C)) (hb:Binds K fd ps []) (hc:cl c=bt (C,[])):CK P w K mg base cl c 0
 | one {f C:td} {cd:LM} {fd:Lb} {ps:JS J3} {g:J3} (Mqa:XM K C f cd) (hf:M7 K (.ref C) g=bt gV) (F:FnOk P w K mg base ji 1 f fd ps (vh K g)) (hm:mg c=bt (.ref C)) (hb:Binds K fd ps []) (hc:cl c=bt (C,[g])):CK P w K mg base cl c 1
def CK.rk {cl:Cl}{c:J3}{n:J4}(h:CK P w K mg base cl c n){X:Cx}(e1:X.prog=P)(e2:X.w=w)(e3:X.K=K)(e4:X.mg=mg)(e5:X.base=base)(hr:Room 2 X.A):RK X cl c n:=by
 subst e1 e2 e3 e4 e5;cases h with
 | zero Mqa F hm hb hc=>exact .zero Mqa F hr hm hb hc
 | one Mqa hf F hm hb hc=>exact .one Mqa hf F hr hm hb hc
def DO {Mqa:Md}{R:JS (J3×J4)}{cl:Cl}{defs:JS (J3×Df)}{fuel d:J4}{x x' qual:J3}{st:Lp}{f:td}{fd:Lb}{df:Df}(F:Fun K x qual st f fd)(S:FnScope df.N df.ps (am st))(hd:defs.lookup x'=bt df)
  (hc:eF (cX R 20 (dQ Mqa st df.N)) (aE st)=bt df.body) (hb:MdOk w K mg Mqa) (prev:rL P w K mg base Mqa defs fuel d) (ck:∀c k,R.lookup c=bt k->CK P w K mg base cl c k) :
  FnOk P w K mg base (CXx P w) (d+3) f fd df.ps (spX w K cl df.ps.length (oV (ag defs fuel (d+1) x')) (xG (ag defs fuel (d+1) x'))):=by
 have F2:=Dr (P:=P) (w:=w) (mg:=mg) (base:=base) (cl:=cl) (k:=d+2) (fs:=dY (bL (ag defs fuel d) fuel df.body)) (fx:=xF (bL (ag defs fuel d) fuel df.body)) F S λcdv A outer s H E hr=>by
  have K':CtxOk (ag defs fuel d) (d6 (CXx P w) P w K mg base df.N qual (am st) f cdv A outer s H E) (dQ Mqa st df.N):=by
   show#[rfl,S.kind,rfl,S.nd,rfl,Ds,?_,λ_ _=>rfl,λ_ h=>(nomatch h),hb.blt,hb.cst _ rfl rfl rfl,hb.gds _ rfl rfl rfl,λg n hg=>?_]
   ·have:=hr.un;show(A.deeper _).units+20 < cLine;omega
   ·obtain⟨fa,fd',ps',h1,h2,h3,h4⟩:=prev g n hg;exact#[d+2,fa,fd',ps',h1,hr,h2,h3,h4]
  exact gJ (λz=>Ar fuel K' #[hr.hd,Ak,λc k h=>(ck c k h).rk rfl rfl rfl rfl rfl (hr.mono (Nat.le_add_left _ _))] 20 z) hc
 show F2.imp λvs H Q E h=>?_
 have key:∀ {ws:JS W} {S:aa} {wv:W} {S':aa},ws.length=df.ps.length->ag defs fuel (d+1) x' ws S=bt (wv,S')->(∃o,bL (ag defs fuel d) fuel df.body (a9 df.N ws) S=bt (o,S')/\(o=.rt wv\/(wv=.non/\∃Z,o=.nx Z))):=λ{ws S wv S'} hl e=>by
  dsimp only[ag]at e;rw[hd]at e;dsimp only at e;rw[Ks hl]at e;split at e
  ·rename_i w1 S1 h1; cases e; exact#[_,h1,.inl rfl]
  ·rename_i Z1 S1 h1; cases e; exact#[_,h1,.inr #[rfl,_,rfl]]
  ·cases e
 rcases h with⟨A,St,ws,w',S',so,rl,hl,e,hq⟩|⟨A,St,ws,cn,us,S',C,gs,so,rl,hl,e,hc',hq⟩
 ·show .ok #[A,St,ws,w',S',so,rl,hl,?_,hq];unfold oV at e;split at e
  ·rename_i w1 S1 e1;rw[J0]at e;obtain⟨v,e2,e3⟩:=e;cases e3;obtain⟨o,e4,rfl|⟨rfl,Z,rfl⟩⟩:=key hl e1
   ·unfold rM dY;rw[e4];dsimp only[Hr];rw[e2];rfl
   ·cases e2;unfold rM dY;rw[e4];rfl
  ·cases e
 ·show .xc A St ws cn us S' C gs so rl hl ?_ hc' hq;unfold xG at e;split at e
  ·rename_i w1 S1 e1;rw[J0]at e;obtain⟨v,e2,e3⟩:=e;cases e3;obtain⟨o,e4,rfl|⟨rfl,Z,rfl⟩⟩:=key hl e1
   ·unfold Bw xF;rw[e4];dsimp only[xO];rw[e2];rfl
   ·cases e2
  ·cases e
abbrev GH (f:J3)(n:J4):Ss:=.cons (.sem λM Z S=>match M f ((Z.take n).filterMap id) S with
 | some (w,S')=>(uu w).map λv=>(.rt v,S')
 | none=>gV) .nil
def qb {N:JS J3}{ws:JS W}{n:J4}(h:ws.length=n):((a9 N ws).take n).filterMap id=ws:=by
 subst h;unfold a9;rw[List.take_append_of_le_length (by simp),LD (by simp),PR]
 induction ws with
 | nil=>rfl
 | cons w ws ih=>simp[MV]
def DP {cl:Cl}{defs:JS (J3×Df)}{fuel d n k k':J4}{x x':J3}{f:td}{fd:Lb}{ps:JS J3}{df:Df}(F:FnOk P w K mg base (CXx P w) k f fd ps (spX w K cl n (oV (ag defs fuel d x')) (xG (ag defs fuel d x'))))(hd:defs.lookup x=bt df)(hn:df.ps.length=n)(hb:df.body=GH x' n)(hk:k<=k') :
  FnOk P w K mg base ji k' f fd ps (spF w K n (ag defs fuel (d+1) x)):=by
 have conv:∀vs H Q (E E':L2.XK),spF w K n (ag defs fuel (d+1) x) vs H Q E->spX w K cl n (oV (ag defs fuel d x')) (xG (ag defs fuel d x')) vs H Q E':=λvs H Q E E' #[A,S0,ws,w',S',so,rl,hl,e,hq]=>by
  show .ok #[A,S0,ws,w',S',so,rl,hl,?_,hq];dsimp only[ag]at e;rw[hd]at e;dsimp only at e;rw[Ks (hl.trans hn.symm),hb]at e;dsimp only[GH,bL,bH,iF]at e;rw[qb hl]at e;unfold oV;cases h:ag defs fuel d x' ws S0 with
  | none=>rw[h]at e; cases e
  | some p=>
   obtain⟨w1,S1⟩:=p;rw[h]at e;dsimp only at e ⊢;cases h2:uu w1 with
   | none=>rw[h2]at e; cases e
   | some v=>rw[h2]at e; cases e; rfl
 show#[λvs H Q E z=>F.len vs H Q E (conv vs H Q E E z),λA outer s H args us vs Q E hr he hbd hv z=>?_]
 show Ms (F.run A outer s H args us vs Q (λ_ _ _=>KT) (hr.mono hk) he hbd hv (conv vs H Q E _ z)) λr s' h=>?_
 cases r with
 | error e=>obtain⟨_,_,_,_,_,_,_,_,_,_,_,_,_,_,q⟩:=h; exact q.elim
 | ok fl=>cases fl <;> exact h
end
section
variable{K:J2}{wd:Kr}{A A':JS td}{H:Hp}{S:aa}
def EnvRel.unset {Z:Fm}{Y:L2.St}(h:EnvRel K A H Z Y)(i:J4):EnvRel K A H (Z.set i gV) (Y.set i gV):=by
 show#[by simp[h.1],λj w q=>?_]
 rw[LY]at q ⊢
 by_cases e:i=j
 ·subst e;rw[Ks rfl]at q;split at q <;> cases q
 ·rw[Kv e]at q ⊢;exact h.2 j w q
def ObjRel.grow {a:td}{b:O}(e:Ext K A H A' H)(h:ObjRel wd K A H a b):ObjRel wd K A' H a b:=by
 cases b with
 | exc cn C gs ws=>
  obtain⟨ob,dd,q,r⟩:=h;show#[ob,dd,q,?_];rcases r with r|⟨dx,od,vs,e1,e2,e3⟩
  ·exact .inl r
  ·exact .inr #[dx,od,vs,e1,e2,e3.mono e]
 | _=>first|exact h|(obtain⟨vs,q,r⟩:=h; exact#[vs,q,r.mono e])|(obtain⟨ob,xs,q,r⟩:=h; exact#[ob,xs,q,r.mono e])
def gK {p:td}:Ext K A H (A++[p]) H:=#[λi a h=>by rw[KY (Kc.mp h).1]; exact h,λ_ _ h=>h,λ_ _ _ h=>h]
def StoreOk.pushN {p:td}{n:O}(h:StoreOk wd K A H S)(hm:n.mut=false)(r:ObjRel wd K (A++[p]) H p n):StoreOk wd K (A++[p]) H (S++[n]):=by
 have old:∀ {i:J4} {o:O} {a:td},(S++[n])[i]?=bt o->(A++[p])[i]?=bt a->i < S.length->S[i]?=bt o/\A[i]?=bt a:=λ{i o a} e ea hl=>by
  rw[KY hl]at e;rw[KY (h.len ▸ hl)]at ea;exact#[e,ea]
 have new:∀ {i:J4} {o:O},(S++[n])[i]?=bt o->¬ i < S.length->i=S.length/\o=n:=λ{i o} e hl=>by
  have hi:i=S.length:=by
   have:=(Kc.mp e).1;simp at this;omega
  subst hi;simp at e;exact#[rfl,e.symm]
 show#[by simp[h.len],λi j a o u e1 m1 e2 m2 a1 a2=>?_,λi o a e ea=>?_]
 ·by_cases hi:i < S.length
  ·by_cases hj:j < S.length
   ·obtain⟨x1,y1⟩:=old e1 a1 hi;obtain⟨x2,y2⟩:=old e2 a2 hj;exact h.nd i j a o u x1 m1 x2 m2 y1 y2
   ·rw[(new e2 hj).2,hm]at m2; cases m2
  ·rw[(new e1 hi).2,hm]at m1; cases m1
 ·by_cases hi:i < S.length
  ·obtain⟨x1,y1⟩:=old e ea hi;exact(h.obj i o a x1 y1).grow gK
  ·obtain⟨rfl,rfl⟩:=new e hi;rw[<- h.len]at ea;simp at ea;subst ea;exact r
def StoreOk.frz {p:td}{φ:KB->Prop}{u:HO}(h:StoreOk wd K A H S)(hp:H p=bt (.ext φ))(hn:∀(j:J4) (o:O),S[j]?=bt o->o.mut=true->A[j]?≠bt p):StoreOk wd K A (ay H p u) S:=
 #[h.len,h.nd,λi b a e ea=>(h.obj i b a e ea).keep (.ext hp) (λhm z=>hn i b e hm (z ▸ ea)) (aL (.ext hp))]
end
section
variable{X:Cx}{J:JS (td×Ll)}{Y:L2.St}{s:JV}{A:JS td}{H H':Hp}{S1:aa}{C a:td}{gs:JS J3}{ws:JS W}{dd:JX td}
def rR {φ:KB->Prop}(I:L2.Inv X J Y H s)(ha:H a=bt (.ext φ)):∃o,L2.Inv X J Y (ay H a (.frz o (.ext φ))) s:=by
 have z:=I.hok a _ ha;obtain⟨x,⟨o,ho⟩,st⟩:=z;exact#[o,I.write (o:=.frz o (.ext φ)) (t':=s.toks) (h':=s.heap) (x:=a) (e:=a) (by rw[ha]; trivial) (.inl rfl) (λb u _ q=>q) #[_,ho] #[ho,x,#[o,ho],st]]
def rS {φ ψ:KB->Prop}(h:bt (HO.ext φ)=bt (HO.ext ψ)):φ=ψ:=by cases h; rfl
def xq (I:L2.Inv X J Y H' s)(ha:H' a=bt (.ext (Ex a C dd))){A':JS td}(so:StoreOk X.w X.K A' H' S1)(j:J4)(o:O)(ej:S1[j]?=bt o)(mj:o.mut=true):A'[j]?≠bt a:=λea=>by
 have r:=so.obj j o a ej ea;obtain⟨⟨vs,sl,x⟩,_⟩:=I.hok a _ ha;cases o with
 | lst ws=>obtain⟨us,q,_⟩:=r; rw[ha]at q; cases q
 | dis U=>have q:H' a=bt (.dK (cf U)):=r; rw[ha]at q; cases q
 | dic U=>
  obtain⟨xs,q,_⟩:=r;rw[ha]at q;have e:=rS q;have y:DicAt X.w a xs s.heap:=by rw[<- e]; exact#[vs,sl,x]
  obtain⟨_,_,_,ob,es,ep,g1,g2,g3,_⟩:=y;rw[x]at g1;cases g1;cases g3
 | _=>cases mj
def DQ (cn:J3)(I:L2.Inv X J Y H' s)(ha:H' a=bt (.ext (Ex a C dd)))(q:EndX X.w X.K A H S1 C gs ws (.ref C) dd H'):∃A2 H2,L2.Inv X J Y H2 s/\Ext X.K A H A2 H2/\A2[S1.length]?=bt a/\StoreOk X.w X.K A2 H2 (S1++[.exc cn C gs ws]):=by
 obtain⟨oa,I2⟩:=rR I ha;cases q with
 | no A' ec eg ed e so=>
  subst ed eg;show#[A'++[a],_,I2,(e.trans (aL (.ext ha))).trans gK,by rw[<- so.len]; simp,?_]
  exact(so.frz ha (xq I ha so)).pushN rfl #[oa,gV,ak,.inl #[rfl,rfl]]
 | «at» A' dx vs ec ed hd nd e so r=>
  subst ed;have ne:dx≠a:=λz=>by
   subst z;rw[ha]at hd;have e:=rS hd;obtain⟨⟨vs',sl,x⟩,_⟩:=I.hok dx _ ha;have y:Dx dx (gs.zip vs) s.heap:=by rw[<- e]; exact#[vs',sl,x]
   obtain⟨mA,⟨o,es,ep,g1,g2,_⟩,_⟩:=y;rw[x]at g1;cases g1;cases g2
  have hd2:ay H' a (.frz oa (.ext (Ex a C (bt dx)))) dx=bt (.ext (Dx dx (gs.zip vs))):=by rw[aj ne]; exact hd
  obtain⟨od,I3⟩:=rR I2 hd2;have x1:Ext X.K A' H' A' (ay H' a (.frz oa (.ext (Ex a C (bt dx))))):=aL (.ext ha);have x2:=aL (K:=X.K) (A:=A') (o:=.frz od (.ext (Dx dx (gs.zip vs)))) (Wr.ext hd2);show#[A'++[a],_,I3,((e.trans x1).trans x2).trans gK,by rw[<- so.len]; simp,?_]
  show((so.frz ha (xq I ha so)).frz hd2 nd).pushN rfl #[oa,bt dx,by rw[aj (Ne.symm ne),ak],.inr #[dx,od,vs,rfl,ak,?_]]
  exact r.mono ((x1.trans x2).trans gK)
noncomputable abbrev Cx.tr (X:Cx)(J:JS (td×Ll))(E:JU->JV->Prop):Cx:={ X with pn:=X.pn++J,xe:=E }
def DR {E:JU->JV->Prop}(I:L2.Inv X J Y H s):L2.Inv (Cx.tr X J E) [] Y H s:=by
 obtain⟨ok,i2,i3,i4,i5,i6,i7,i8,i9,i10,i11⟩:=I;exact#[#[ok.mod,ok.kind,ok.glob,ok.blt,ok.above,ok.inj,ok.has,ok.cab,ok.hd,ok.frames,ok.stk,ok.exf,ok.bs,ok.bsz,ok.noex,ok.exfs,ok.funs,ok.frf],i2,i3,i4,i5,i6,i7,i8,λp hp=>i9 p (by rw[Lu]at hp; exact hp),i10,i11]
def gL {E:JU->JV->Prop}{J1:JS (td×Ll)}(I:L2.Inv (Cx.tr X J E) J1 Y H s):L2.Inv X J Y H s:=by
 obtain⟨ok,i2,i3,i4,i5,i6,i7,i8,i9,i10,i11⟩:=I;exact#[#[ok.mod,ok.kind,ok.glob,ok.blt,ok.above,ok.inj,ok.has,ok.cab,ok.hd,ok.frames,ok.stk,ok.exf,ok.bs,ok.bsz,ok.noex,ok.exfs,ok.funs,ok.frf],i2,i3,i4,i5,i6,i7,i8,λp hp=>i9 p (Le _ hp),i10,i11]
def DS {E:JU->JV->Prop}{D:Ends}{f:Tk}(h:SP (Cx.tr X J E) [] D f s):SP X J D f s:=by
 cases f with
 | next=>obtain⟨Y',H',I,q⟩:=h; exact#[Y',H',gL I,q]
 | brk=>obtain⟨Y',H',I,q⟩:=h; exact#[Y',H',gL I,q]
 | cont=>obtain⟨Y',H',I,q⟩:=h; exact#[Y',H',gL I,q]
 | ret u=>obtain⟨v,Y',H',I,r,q⟩:=h; exact#[v,Y',H',gL I,r,q]
def As {E:JU->JV->Prop}{J1:JS (td×Ll)}{a0:JU}(Yj:Air (Cx.tr X J E) J1 Y H s a C dd a0):Air X J Y H s a C dd a0:=
 #[gL Yj.inv,Yj.fly,Yj.new,Yj.ext,Yj.low,λp hp=>Yj.pin p (Le _ hp)]
end
abbrev xr (f:FS)(fx:FX)(sb:J3->Kn)(cl:Cl)(i:J4)(h:FS):FS:=λZ S=>match f Z S with
  | some r=>bt r
  | none=>match fx Z S with
    | some (cn,ws,S1)=>match cl cn with
      | some (C,gs)=>if sb cn=true then(match h (Z.set i (bt (.ref S1.length))) (S1++[.exc cn C gs ws])with
        | some (.nx Z',S2)=>bt (.nx (Z'.set i gV),S2)
        | some (.rt w,S2)=>bt (.rt w,S2)
        | _=>gV)else gV
      | none=>gV
    | none=>gV
abbrev MX (X:Cx)(cl:Cl)(Ew:L2.XK)(Y0:L2.St)(f:FS)(fx:FX):TS:=λD Y H=>Y=Y0/\(tS X f D Y H\/tX X cl Ew fx Y H)
def xu (X Yj:Cx)(eK:Yj.K=X.K)(ew:Yj.w=X.w){A:JS td}{H:Hp}{o:Out}{S':aa}{D:Ends}(d:Imp (EndS X A H o S') D):Imp (EndS Yj A H o S') D:=
 #[λ_ _ #[Z',A',eo,e,so,er]=>d.nx _ _ #[Z',A',eo,eK ▸ e,eK ▸ ew ▸ so,eK ▸ er],λ_ _ #[w,A',eo,e,so,r]=>d.rt _ _ #[w,A',eo,eK ▸ e,eK ▸ ew ▸ so,eK ▸ r],
  λ_ _ #[Z',A',eo,e,so,er]=>d.bk _ _ #[Z',A',eo,eK ▸ e,eK ▸ ew ▸ so,eK ▸ er],λ_ _ #[Z',A',eo,e,so,er]=>d.ct _ _ #[Z',A',eo,eK ▸ e,eK ▸ ew ▸ so,eK ▸ er]]
def DU {X:Cx}{cl:Cl}{body suite:JS Lp}{b0:Lp}{c n:J3}{np hpos pos:LG}{D:td}{i:J4}{f:FS}{fx:FX}{h:FS}{sb:J3->Kn}
  (hst:X.stack=X.env::X.outer) (hfr:X.env.frame=bt X.env.locals) (hN:X.N.Nodup) (hi:X.N[i]?=bt n) (hx:X.env.scope.names.lookup n=bt .local) (hg:Gl X c) (hm:X.mg c=bt (.ref D)) (T:XD X.K D) (hdb:(c==("__debug__" : J3))=false)
  (hs:∀cn C gs,cl cn=bt (C,gs)->sb cn=true->PK X.K (.ref C) (.ref D)=bt true)
  (hb:∀J E Y0 Ew,(∀J1 H s a C dd a0,Air (Cx.tr X J E) J1 Y0 H s a C dd a0->Ew (.ref C) dd H->E (.ref a) s)->PSs (Cx.tr X J E) body (MX (Cx.tr X J E) cl Ew Y0 f fx))
  (hh:∀a,GSs (qP X a) (b0::suite) h):GS X (.Try body [.ExceptHandler (bt (.Name c np)) (bt n) (b0::suite) hpos] [] [] pos) (xr f fx sb cl i h):=by
 intro J s Y H Dd I ⟨A,Z,S,o,S',er,so,e,d⟩;show Fj (X:=X) (J:=J) (Q:=SP X J Dd) hst hfr hN hi hx hg hm T ?_ hdb;have run:∀Ew:L2.XK,(∀J1 H s a C dd a0,Air (Cx.tr X J (Caught X J D i b0 suite (SP X J Dd))) J1 Y H s a C dd a0->Ew (.ref C) dd H->Caught X J D i b0 suite (SP X J Dd) (.ref a) s)->MX (Cx.tr X J (Caught X J D i b0 suite (SP X J Dd))) cl Ew Y f fx Dd Y H->
   wpAny (model X.prog X.w) X.A (execs body X.env) (SP X J Dd) (Caught X J D i b0 suite (SP X J Dd)) s:=λEw hw q=>
  KO (hb J _ Y Ew hw [] s Y H Dd (DR I) q) (λfl s1 z=>DS z) λ_ _ z=>z
 unfold xr at e;split at e
 ·rename_i r h1;cases e;exact run (λ_ _ _=>KT) (λ_ _ _ _ _ _ _ _ z=>z.elim) #[rfl,.inl #[A,Z,S,o,S',er,so,h1,xu X (Cx.tr X J (Caught X J D i b0 suite (SP X J Dd))) rfl rfl d]]
 ·rename_i h1;split at e
  ·rename_i cn ws S1 h2;split at e
   ·rename_i C gs h3;split at e
    ·rename_i h4;show run (λcls dd H'=>EndX X.w X.K A H S1 C gs ws cls dd H') (λJ1 H' s1 a C' dd a0 Yj q=>?_) #[rfl,.inr #[A,Z,S,cn,ws,S1,C,gs,er,so,h2,h3,λ_ _ _ z=>z]]
     obtain rfl:C'=C:=by
      cases q with
      | no A' ec eg ed e so=>cases ec; rfl
      | «at» A' dx vs ec ed hd nd e so r=>cases ec; rfl
     have Yq:=As Yj;show#[a,C',dd,a0,Y,H',rfl,Yq,hs cn C' gs h3 h4,λs2 I2=>?_]
     obtain⟨A2,H2,I3,ex,ea,so2⟩:=DQ cn I2 Yq.ext q;have er2:EnvRel X.K A2 H2 (Z.set i (bt (.ref S1.length))) (Y.set i (bt (.ref a))):=(er.mono ex).set (.ref ea) i;have fin:∀o2 S2,h (Z.set i (bt (.ref S1.length))) (S1++[.exc cn C' gs ws])=bt (o2,S2)->Imp (EndS (qP X a) A2 H2 o2 S2) { nx:=λY' H'=>Dd.nx (Y'.set i gV) H',rt:=Dd.rt,bk:=λ_ _=>KT,ct:=λ_ _=>KT }->
       wpAny (model X.prog X.w) (qP X a).A (execs (b0::suite) X.env) (λf s3=>∃Y3 H3,L2.Inv (qP X a) J Y3 H3 s3/\∀s4,L2.Inv X J (Y3.set i gV) H3 s4->SP X J Dd f s4) (λ_ _=>KT) s2:=λo2 S2 e2 im=>by
      show KO (hh a J s2 _ H2 _ I3 #[A2,_,_,o2,S2,er2,so2,e2,im]) (λfl s3 z=>?_) λ_ _ z=>z
      cases fl with
      | next=>obtain⟨Y',H3,I4,q⟩:=z; exact#[Y',H3,I4,λs4 I5=>#[_,_,I5,q]]
      | ret u=>obtain⟨v,Y',H3,I4,r,q⟩:=z; exact#[Y',H3,I4,λs4 I5=>#[v,_,_,I5,r,q]]
      | brk=>obtain⟨Y',H3,I4,q⟩:=z; exact q.elim
      | cont=>obtain⟨Y',H3,I4,q⟩:=z; exact q.elim
     split at e
     ·rename_i Z' S2 h5;cases e;show fin _ _ h5 #[λY' H3 #[Z2,A3,eo,e3,so3,er3]=>?_,λv H3 #[w,A3,eo,_,_,_]=>(by cases eo),λY' H3 #[Z2,A3,eo,_,_,_]=>(by cases eo),λY' H3 #[Z2,A3,eo,_,_,_]=>(by cases eo)]
      cases eo;exact d.nx _ _ #[_,A3,rfl,ex.trans e3,so3,er3.unset i]
     ·rename_i w S2 h5;cases e;show fin _ _ h5 #[λY' H3 #[Z2,A3,eo,_,_,_]=>(by cases eo),λv H3 #[w2,A3,eo,e3,so3,r3]=>?_,λY' H3 #[Z2,A3,eo,_,_,_]=>(by cases eo),λY' H3 #[Z2,A3,eo,_,_,_]=>(by cases eo)]
      cases eo;exact d.rt _ _ #[_,A3,rfl,ex.trans e3,so3,r3]
     ·cases e
    ·cases e
   ·cases e
  ·cases e
section
variable{X:Cx}{cl:Cl}{Ew:L2.XK}{Y0:L2.St}
abbrev ME (X:Cx)(cl:Cl)(Ew:L2.XK)(Y0:L2.St)(e:Kd)(f:FE)(fx:FX):Prop:=PE X e λY H Q=>Y=Y0/\(tE X f Y H Q\/tX X cl Ew fx Y H)
abbrev MT (X:Cx)(cl:Cl)(Ew:L2.XK)(Y0:L2.St)(e:Kd)(f:FT)(fx:FX):Prop:=PT X e λY H Q=>Y=Y0/\(tT X f Y H Q\/tX X cl Ew fx Y H)
def At {CX:o8}{k:J4}{f:td}{fd:Lb}{ps:JS J3}{sp:Sp}{E:L2.XK}{J:JS (td×Ll)}{H:Hp}{s:JV}{Q:VK}{us:JS JU}{vs:JS V}(F:FnOk X.prog X.w X.K X.mg X.base CX k f fd ps sp)(hr:Room k X.A)(hb:Binds X.K fd ps [])
  (hx:∀J H s e s',L2.Inv X J Y0 H s->CX X.stack H s E e s'->X.xe e s') (I:L2.Inv X J Y0 H s) (r:Vals vs us) (h:sp vs H Q E):wpAny (model X.prog X.w) X.A (call (.ref f) us) (EP X J Y0 Q) X.xe s:=by
 have hl:(us++[]).length=ps.length:=by rw[Lu,<- r.length]; exact F.len _ _ _ _ h
 have b:=hb s us I.kIn hl;rw[Lu]at b;show No (Ms (F.run X.A X.stack s H #[us,[]] us vs Q E hr I.env0 b r h) λr s' hq=>?_)
 cases r with
 | error e=>exact hx J H s e s' I hq
 | ok fl=>
  cases fl with
  | ret u=>exact I.after hq
  | next=>exact KT.elim hq
  | brk=>exact KT.elim hq
  | cont=>exact KT.elim hq
def DV {k n:J4}{fa:td}{fd:Lb}{ps:JS J3}{g:FF}{gx:FJ}{x:J3}{e:Kd}{es:JS Kd}{p pos:LG}{f:FA}(F:FnOk X.prog X.w X.K X.mg X.base (CXx X.prog X.w) k fa fd ps (spX X.w X.K cl n g gx))(hr:Room k X.A)(hg:Gl X x)(hm:X.mg x=bt (.ref fa))
  (hk:Lc X.K (.ref fa)=true) (hb:Binds X.K fd ps []) (hw:∀J H s a C dd a0,Air X J Y0 H s a C dd a0->Ew (.ref C) dd H->X.xe (.ref a) s) (ha:GA X (e::es) f) (hdb:(x==("__debug__" : J3))=false) (he:starEach (e::es) X.env=(false,eval e X.env)::starEach es X.env) (hpl:(backTo pos (starEach es X.env)).any (·.1)=false) :
  ME X cl Ew Y0 (.Call (.Name x p) (e::es) [] pos) (dC n g f) (gA n gx f):=by
 have hx:∀J H s e s',L2.Inv X J Y0 H s->CXx X.prog X.w X.stack H s Ew e s'->X.xe e s':=λJ H s e s' I h=>by
  obtain⟨a,C,dd,a0,H',rfl,Yj,q⟩:=CF I h;exact hw _ _ _ _ _ _ _ Yj q
 intro J s Y H Q I ⟨es0,q⟩;subst es0;show Mb (bW I hg hm ?_ hdb);have go:∀ {A:JS td} {Z:Fm} {S:aa} {ws:JS W} {S1:aa},EnvRel X.K A H Z Y->StoreOk X.w X.K A H S->f Z S=bt (ws,S1)->(∀vs H1,EndA X A H S1 ws vs H1->spX X.w X.K cl n g gx vs H1 Q Ew)->wpAny (model X.prog X.w) X.A (callWith pos (.ref fa) [] (backTo pos (starEach (e::es) X.env)) (backToKw pos (keywordEach [] X.env))) (EP X J Y Q) X.xe s:=λ{A Z S ws S1} er so h1 h2=>
  Oj (h₀:=X.base) I.ok.mod.kin hk (aD (ha pos J s Y H (λvs H1=>spX X.w X.K cl n g gx vs H1 Q Ew) I #[A,Z,S,ws,S1,er,so,h1,h2]) λus s1 #[vs,H1,I1,r,q]=>#[I1.kIn,At F hr hb hx I1 r q]) he hpl
 rcases q with⟨A,Z,S,w,S',er,so,e1,q⟩|⟨A,Z,S,cn,ws,S',C,gs,er,so,e1,hc,q⟩
 ·unfold dC at e1;split at e1
  ·rename_i ws S1 h1;split at e1
   ·rename_i hl;exact go er so h1 λvs H1 #[A1,ex,so1,r]=>.ok #[A1,S1,ws,w,S',so1,r,hl,e1,λv H2 z=>q v H2 (z.after ex)]
   ·cases e1
  ·cases e1
 ·unfold gA at e1;split at e1
  ·rename_i us S1 h1;split at e1
   ·rename_i hl;exact go er so h1 λvs H1 #[A1,ex,so1,r]=>.xc A1 S1 us cn ws S' C gs so1 r hl e1 hc λcls dd H2 z=>q cls dd H2 (z.after ex)
   ·cases e1
  ·cases e1
def DY {a b:Kd}{o:COp}{pos:LG}{fa fb:FE}{fx:FX}(hu:X.A.units+da < cLine)(ha:ME X cl Ew Y0 a fa fx)(hb:GE X b fb)(hm:behindInMarks o.py b=false):MT X cl Ew Y0 (.Compare a [o.py] [b] pos) (fS (tP o fa fb)) fx:=by
 intro J s Y H Q I ⟨es0,q⟩;show qH (jD hu o).opr ha hb hm J s Y H Q I ?_;show#[es0,?_];rcases q with⟨A,Z,S,k,S',er,so,e,hq⟩|q
 ·apply Or.inl;unfold fS at e;split at e
  ·rename_i k' S'' h0;cases e;obtain⟨x,S1,y,S2,h1,h2,h3⟩:=two h0;show dc er so h1 h2 λa b H2 A2 e2 o2 r1 r2=>#[A2,S2,x,y,_,_,o2,r1,r2,h3,λv H' #[A',z1,z2,z3]=>?_]
   cases z3;exact#[k,rfl,hq _ _ #[rfl,A',e2.trans z1,z2]]
  ·cases e
 ·exact .inr q
def GJ {c:Kd}{a b:JS Lp}{pos:LG}{fc:FT}{f g:FS}{fx:FX}(hc:MT X cl Ew Y0 c fc fx)(ha:GSs X a f)(hb:GSs X b g):PS X (.If c a b pos) (MX X cl Ew Y0 (gy fc f g) fx):=by
 intro J s Y H D I ⟨es0,q⟩;show uD hc ha hb J s Y H D I #[es0,?_];rcases q with⟨A,Z,S,o,S',er,so,e,d⟩|q
 ·apply Or.inl;unfold gy at e;split at e
  ·rename_i S1 h1;show#[A,Z,S,_,S1,er,so,h1,λb H1 #[z0,A1,z1,z2]=>?_]
   subst z0;rw[Ks rfl];exact#[A1,Z,S1,o,S',er.mono z1,z2,e,(EndS.after z1).trans d]
  ·rename_i S1 h1;show#[A,Z,S,_,S1,er,so,h1,λb H1 #[z0,A1,z1,z2]=>?_]
   subst z0;rw[Kv #v[]]
   exact#[A1,Z,S1,o,S',er.mono z1,z2,e,(EndS.after z1).trans d]
  ·cases e
 ·exact .inr q
def GK {e:Kd}{pos:LG}{f:FE}{fx:FX}(h:ME X cl Ew Y0 e f fx)(hs:swapsWith e gV pos.line X.env=pure false):PS X (.Expr e pos) (MX X cl Ew Y0 (nP f) fx):=by
 intro J s Y H D I ⟨es0,q⟩;show lF h hs J s Y H D I #[es0,?_];rcases q with⟨A,Z,S,o,S',er,so,e,d⟩|q
 ·apply Or.inl;unfold nP at e;split at e
  ·rename_i w S1 h1;cases e;exact#[A,Z,S,w,_,er,so,h1,λv H1 #[A1,z1,z2,z3]=>d.nx _ _ #[Z,A1,rfl,z1,z2,er.mono z1]]
  ·cases e
 ·exact .inr q
def xw {tg e:Kd}{pos:LG}{f:FE}{fx:FX}{g:FG}(h:ME X cl Ew Y0 e f fx)(hg:GG X tg g)(hs:swapsWithSole [tg] e pos.line X.env=pure false)(hw:swappedStores [tg] e X.env=pure gV)(h1:(assignEach [tg] X.env).map (·.2)=[assign tg X.env]) :
  PS X (.Assign [tg] e pos) (MX X cl Ew Y0 (dE f g) fx):=by
 intro J s Y H D I ⟨es0,q⟩;show uF h hg hs hw h1 J s Y H D I #[es0,?_];rcases q with⟨A,Z,S,o,S',er,so,e,hd⟩|q
 ·apply Or.inl;unfold dE at e;split at e
  ·rename_i w S1 h1;split at e
   ·rename_i Z1 S2 h2;cases e;show#[A,Z,S,w,S1,er,so,h1,λv H1 #[A1,z1,z2,z3]=>?_]
    exact#[A1,Z,S1,w,Z1,_,er.mono z1,z2,z3,h2,λY' H' A' y1 y2 y3=>hd.nx _ _ #[Z1,A',rfl,z1.trans y1,y2,y3]]
   ·cases e
  ·cases e
 ·exact .inr q
end
abbrev eI (cn D:J3):Kn:=D==cn||D==("LayError" : J3)||D==("ValueError" : J3)
abbrev EF (i:J4)(cl:Cl)(k:J3->JS J3->JS W->JX W):FE:=λZ S=>match Z[i]? with
 | some (bt (.ref j))=>match S[j]? with
  | some (.exc cn C gs ws)=>if cl cn=bt (C,gs)then(k cn gs ws).map λw=>(w,S)else gV
  | _=>gV
 | _=>gV
abbrev gM (cl:Cl)(sb:J3->Kn)(i:J4):FE:=EF i cl λcn _ _=>bt (.bl (sb cn))
abbrev uh (cl:Cl)(g:J3)(i:J4):FE:=EF i cl λ_ gs ws=>(gs.zip ws).lookup g
def gN {i:J4}{cl:Cl}{k:J3->JS J3->JS W->JX W}{Z:Fm}{S S':aa}{w:W}(h:EF i cl k Z S=bt (w,S')):∃j cn C gs ws,Z[i]?=bt (bt (.ref j))/\S[j]?=bt (.exc cn C gs ws)/\cl cn=bt (C,gs)/\k cn gs ws=bt w/\S'=S:=by
 unfold EF at h;split at h
 ·rename_i j h1;split at h
  ·rename_i cn C gs ws h2;split at h
   ·rename_i h3;rw[J0]at h;obtain⟨w',h4,h5⟩:=h;cases h5;exact#[j,cn,C,gs,ws,h1,h2,h3,h4,rfl]
   ·cases h
  ·cases h
 ·cases h
structure HCtx (X:Cx)(Γ:Gam)(cls:JS J3)(cl:Cl):Prop where
 names:X.env.scope.names=Γ.sc
 N:X.N=Γ.N
 nd:Γ.N.Nodup
 un:X.A.units+da < cLine
 dfn:∀x,X.fn x=true
 blt:∀x∈Γ.blt,X.mg x=gV
 xk:∀cn C gs,cl cn=bt (C,gs)->(∃cd,XK X.K C cd)/\X.base.get? C≠gV/\XT X.K C (.type "ValueError") true/\∀g∈gs,M7 X.K (.ref C) g=bt gV
 xt:∀D∈cls,∃Da,X.mg D=bt (.ref Da)/\∀cn C gs,cl cn=bt (C,gs)->XT X.K C (.ref Da) (eI cn D)
section
variable{X:Cx}{Γ:Gam}{cls:JS J3}{cl:Cl}
def Au (K:HCtx X Γ cls cl){x:J3}(h:br Γ x=true):Gl X x/\(x==("__debug__" : J3))=false:=by
 unfold br at h;rw[JY]at h;show#[?_,by simpa using h.2]
 change X.env.scope.names.lookup x=_;rw[K.names];exact eq_of_beq h.1
def lq (K:HCtx X Γ cls cl){x:J3}{pos:LG}{i:J4}(h:slot Γ x=bt i):PE X (.Name x pos) (mN i):=by
 unfold slot at h;split at h
 ·rename_i hc;rw[JY,JY]at hc;obtain⟨⟨h1,h2⟩,h3⟩:=hc;exact fI (by rw[K.N]; exact a7 h) (oh (by rw[K.names]; exact h1)) (by simpa using h2) (by simpa using h3)
 ·cases h
def Av (K:HCtx X Γ cls cl){x:J3}{i:J4}(h:aR Γ x=bt i):X.N[i]?=bt x/\uz X.env.scope x/\(X.fn x=true\/X.env.scope.names.lookup x=bt .local):=by
 unfold aR at h;split at h
 ·rename_i hc;show#[by rw[K.N]; exact a7 h,?_,.inl (K.dfn x)]
  unfold L2.uz;rw[K.names];rw[L5,JY]at hc;rcases hc with hc|⟨hd,hc⟩
  ·exact .inl (eq_of_beq hc)
  ·exact .inr (eq_of_beq hc)
 ·cases h
def ObjRel.xin {wd:Kr}{K:J2}{A:JS td}{H:Hp}{a:td}{cn:J3}{C:td}{gs:JS J3}{ws:JS W}(h:ObjRel wd K A H a (.exc cn C gs ws)):∃dd,Ez H a C dd:=by
 obtain⟨o,dd,q,r⟩:=h;show#[dd,#[o,q],?_];rcases r with⟨rfl,_⟩|⟨dx,od,vs,rfl,e,_⟩
 ·exact .inl rfl
 ·exact .inr #[dx,_,od,rfl,e]
def Aw {H:Hp}{a C p:td}{dd:JX td}{u:HO}(h:Ez H a C dd)(hp:H p=gV):Ez (L2.ay H p u) a C dd:=by
 obtain⟨⟨o,h1⟩,h2⟩:=h;have ne:∀ {b v},H b=bt v->b≠p:=λhb z=>by rw[z,hp]at hb; cases hb
 show#[#[o,by rw[aj (ne h1)]; exact h1],?_]
 rcases h2 with rfl|⟨dx,fs,o',rfl,e⟩
 ·exact .inl rfl
 ·exact .inr #[dx,fs,o',rfl,by rw[aj (ne e)]; exact e]
def DZ (K:HCtx X Γ cls cl){x D:J3}{i:J4}{p p1 p2 pos:LG}(hg:Gl X "isinstance")(hm:X.mg "isinstance" = gV)(hs:slot Γ x=bt i)(gD:Gl X D)(dD:(D==("__debug__" : J3))=false)(hD:D∈cls) :
  GE X (.Call (.Name "isinstance" p) [.Name x p1,.Name D p2] [] pos) (gM cl (λcn=>eI cn D) i):=by
 obtain⟨Da,mD,xt⟩:=K.xt D hD;show GE.of (d7 kN hg hm rfl (bA (lq K hs) (bA (lE (v:=.ref Da) gD mD rfl dD) fL)) #v[] #v[] rfl rfl) λY H A Z S w S' er so e Q hq=>?_
 obtain⟨j,cn,C,gs,ws,h1,h2,h3,h4,rfl⟩:=gN e;cases h4;obtain⟨v,e1,r⟩:=er.2 i _ h1;cases r with
 | @ref _ a ea=>
  obtain⟨dd,xi⟩:=(so.obj j _ a h2 ea).xin;obtain⟨⟨cd,xk⟩,_,_,_⟩:=K.xk cn C gs h3;exact#[_,e1,a,C,cd,dd,.ref Da,_,rfl,xk,xi,.inl #[Da,rfl,xt cn C gs h3],hq _ _ (.here so .bl)]
def D0 (K:HCtx X Γ cls cl){x:J3}{i:J4}{p p1 p2 pos:LG}(hg:Gl X "isinstance")(hm:X.mg "isinstance" = gV)(hs:slot Γ x=bt i)(gD:Gl X "ValueError")(mD:X.mg "ValueError" = gV) :
  GE X (.Call (.Name "isinstance" p) [.Name x p1,.Name "ValueError" p2] [] pos) (gM cl (λ_=>true) i):=by
 show GE.of (d7 kN hg hm rfl (bA (lq K hs) (bA (qF (v:=.ty "ValueError") (u:=.type "ValueError") gD mD rfl rfl #v[] #v[]) fL)) #v[] #v[] rfl rfl) λY H A Z S w S' er so e Q hq=>?_
 obtain⟨j,cn,C,gs,ws,h1,h2,h3,h4,rfl⟩:=gN e;cases h4;obtain⟨v,e1,r⟩:=er.2 i _ h1;cases r with
 | @ref _ a ea=>
  obtain⟨dd,xi⟩:=(so.obj j _ a h2 ea).xin;obtain⟨⟨cd,xk⟩,_,xv,_⟩:=K.xk cn C gs h3;exact#[_,e1,a,C,cd,dd,.ty "ValueError",true,rfl,xk,xi,.inr #[_,rfl,xv],hq _ _ (.here so .bl)]
abbrev eZ:JS Kd->JX (JS J3)
 | []=>bt []
 | .Name x _::es=>(eZ es).map (x :: ·)
 | _::_=>gV
def xy (K:HCtx X Γ cls cl):∀ {es:JS Kd} {ds:JS J3},eZ es=bt ds->(ds.all λD=>br Γ D&&cls.contains D)=true->
  ∃das:JS td,das.length=ds.length/\PA X es (λ_ H Q=>Q (das.map V.ref) H)/\∀cn C gs,cl cn=bt (C,gs)->∃bs,XTs X.K C (das.map Kl) bs/\bs.any id=ds.any (eI cn)
 | [],ds,h,_=>by
  cases h;exact#[[],rfl,fL,λ_ _ _ _=>#[[],.nil,rfl]]
 | e::es,ds,h,ha=>by
  cases e with
  | Name x p=>
   replace h:(eZ es).map (x :: ·)=bt ds:=h
   rw[J0]at h;obtain⟨ds',h1,rfl⟩:=h;rw[KM,JY,JY]at ha;obtain⟨⟨a1,a2⟩,a3⟩:=ha;obtain⟨das,l,pa,q⟩:=xy K h1 a3;obtain⟨g1,g2⟩:=Au K a1;obtain⟨Da,mD,xt⟩:=K.xt x (by simpa using a2)
   show#[Da::das,by simp[l],bA (lE (v:=.ref Da) g1 mD rfl g2) pa,λcn C gs hc=>?_]
   obtain⟨bs,b1,b2⟩:=q cn C gs hc;exact#[_::bs,.cons (xt cn C gs hc) b1,by rw[LB,LB,b2]; rfl]
  | _=>cases h
def D1 (K:HCtx X Γ cls cl){x:J3}{es:JS Kd}{ds:JS J3}{i k:J4}{p p1 p2 pos:LG}(hg:Gl X "isinstance")(hm:X.mg "isinstance" = gV)(hs:slot Γ x=bt i)(hd:eZ es=bt ds)(ha:(ds.all λD=>br Γ D&&cls.contains D)=true)(hl:ds.length<=1000) :
  GE X (.Call (.Name "isinstance" p) [.Name x p1,.Tuple es k p2] [] pos) (gM cl (λcn=>ds.any (eI cn)) i):=by
 obtain⟨das,l,pa,q⟩:=xy K hd ha;show GE.of (d7 pg hg hm rfl (bA (lq K hs) (bA (uL pa) fL)) #v[] #v[] rfl rfl) λY H A Z S w S' er so e Q hq=>?_
 obtain⟨j,cn,C,gs,ws,h1,h2,h3,h4,rfl⟩:=gN e;cases h4;obtain⟨v,e1,r⟩:=er.2 i _ h1;cases r with
 | @ref _ a ea=>
  obtain⟨dd,xi⟩:=(so.obj j _ a h2 ea).xin;obtain⟨⟨cd,xk⟩,xb,_,_⟩:=K.xk cn C gs h3;obtain⟨bs,b1,b2⟩:=q cn C gs h3;show#[_,e1,by rw[J6,l]; exact pZ (Lh hl),λtp ht=>#[a,C,cd,dd,tp,das,bs,rfl,xk,Aw xi ht,ak,xb,b1,?_]]
  rw[b2];exact hq _ _ #[A,aL (.inl ht),so.lay ht,.bl]
def oF {K:J2}{A:JS td}{H:Hp}{g:J3}{w:W}:∀ {gs:JS J3} {ws:JS W} {vs:JS V},RelL K A H ws vs->(gs.zip ws).lookup g=bt w->g∈gs/\∃v,(gs.zip vs).lookup g=bt v/\Rel K A H w v
 | [],_,_,_,h=>by cases h
 | _::_,_,_,.nil,h=>by cases h
 | y::gs,w'::ws,v'::vs,.cons r t,h=>by
  rw[Mz,KD]at h;rw[Mz,KD];cases e:g==y with
  | true=>
   rw[e]at h;cases h;exact#[by rw[eq_of_beq e]; exact Kq,v',rfl,r]
  | false=>
   rw[e]at h;obtain⟨h1,h2⟩:=oF t h;exact#[Ko _ h1,h2]
def D2 (K:HCtx X Γ cls cl){x g:J3}{i:J4}{p pos:LG}(hs:slot Γ x=bt i):GE X (.Attribute (.Name x p) g pos) (uh cl g i):=by
 show GE.of (vg (lq K hs) rfl) λY H A Z S w S' er so e Q hq=>?_
 obtain⟨j,cn,C,gs,ws,h1,h2,h3,h4,rfl⟩:=gN e;obtain⟨v,e1,r⟩:=er.2 i _ h1;cases r with
 | @ref _ a ea=>
  obtain⟨⟨cd,xk⟩,xb,_,hf⟩:=K.xk cn C gs h3;obtain⟨o,dd,q,au⟩:=so.obj j _ a h2 ea;rcases au with⟨_,rfl⟩|⟨dx,od,vs,rfl,e2,rl⟩
  ·cases h4
  ·obtain⟨hm,y,z1,z2⟩:=oF rl h4;exact#[_,e1,a,C,cd,dx,_,y,o,od,rfl,xk,hf g hm,q,e2,z1,hq _ _ (.here so z2)]
end
abbrev D3 (Γ:Gam)(cls:JS J3)(cl:Cl)(i:J4):Kd->JX E
 | .Name D _=>if br Γ D&&cls.contains D then bt (.sem (gM cl (λcn=>eI cn D) i))else if br Γ D&&(D==("ValueError" : J3))&&Γ.blt.contains D then bt (.sem (gM cl (λ_=>true) i))else gV
 | .Tuple es _ _=>match eZ es with
  | some ds=>if (ds.all λD=>br Γ D&&cls.contains D)&&decide (ds.length<=1000)then bt (.sem (gM cl (λcn=>ds.any (eI cn)) i))else gV
  | none=>gV
 | _=>gV
abbrev qf (cls:JS J3)(cl:Cl)(n:J3)(i:J4)(Γ:Gam):J4->Kd->JX E
 | 0,_=>gV
 | k+1,e=>match e with
  | .Constant (.int j) _ _=>bt (.c (.int j))
  | .Constant (.str x) _ _=>bt (.c (.str x))
  | .Constant (.bool b) _ _=>bt (.c (.bl b))
  | .Constant .none _ _=>bt (.c .non)
  | .Name x _=>match slot Γ x with
   | some j=>bt (.v j)
   | none=>gV
  | .UnaryOp .Not a _=>(qf cls cl n i Γ k a).map .not
  | .BoolOp op vs _=>cB (qf cls cl n i Γ k) op vs
  | .Tuple es _ _=>(cA (qf cls cl n i Γ k) es).map .tup
  | .Attribute (.Name x _) g _=>if x==n&&slot Γ n==bt i then bt (.sem (uh cl g i))else gV
  | .Call (.Name f _) [.Name x _,c] [] _=>if f==("isinstance" : J3)&&br Γ f&&Γ.blt.contains f&&x==n&&slot Γ n==bt i then D3 Γ cls cl i c else gV
  | _=>gV
abbrev BH (cls:JS J3)(cl:Cl)(n:J3)(i:J4)(Γ:Gam):J4->Lp->JX Sm
 | 0,_=>gV
 | k+1,st=>match st with
  | .Assign [.Name x _] e _=>match aR Γ x,qf cls cl n i Γ 20 e with
   | some j,bt e'=>bt (.set j e')
   | _,_=>gV
  | .Return (bt e) _=>(qf cls cl n i Γ 20 e).map .ret
  | .If t a b _=>match qf cls cl n i Γ 20 t,eF (BH cls cl n i Γ k) a,eF (BH cls cl n i Γ k) b with
   | some t',bt a',bt b'=>bt (.ite t' a' b')
   | _,_,_=>gV
  | _=>gV
section
variable{M:J3->FF}{fuel:J4}{X:Cx}{Γ:Gam}{cls:JS J3}{cl:Cl}{n:J3}{i:J4}
def mw {f:Kd->JX E}{op:RE}{pos:LG}(ih:∀ {e:Kd} {e':E},f e=bt e'->GE X e (ap M e')):∀ {vs:JS Kd} {r:E},cB f op vs=bt r->GE X (.BoolOp op vs pos) (ap M r)
 | [],r,h=>by cases h
 | [a],r,h=>vV (ih h)
 | a::b::au,r,h=>by
  simp only[cB]at h;split at h
  ·rename_i a' b' h1 h2;cases h;cases op with
   | And=>exact vW (ih h1) (mw ih h2)
   | Or=>exact Bm (ih h1) (mw ih h2)
  ·cases h
def mx {f:Kd->JX E}{op:RE}{pos:LG}(ih:∀ {e:Kd} {e':E},f e=bt e'->GT X e (bz M e')):∀ {vs:JS Kd} {r:E},cB f op vs=bt r->GW X (.BoolOp op vs pos) (bz M r)
 | [],r,h=>by cases h
 | [a],r,h=>by
  cases op with
  | And=>exact re (ih h)
  | Or=>exact vS (ih h)
 | a::b::au,r,h=>by
  simp only[cB]at h;split at h
  ·rename_i a' b' h1 h2;cases h;cases op with
   | And=>exact vT (ih h1) (mx ih h2)
   | Or=>exact Bl (ih h1) (mx ih h2)
  ·cases h
def xz {f:Kd->JX E}(ns:∀ {e:Kd} {e':E},f e=bt e'->dF e=true)(ih:∀ {e:Kd} {e':E},f e=bt e'->GE X e (ap M e')):∀ {es:JS Kd} {r:Es},cA f es=bt r->GA X es (aZ M r)
 | [],r,h=>by cases h; exact vY
 | e::es,r,h=>by
  obtain⟨e',es',h1,h2,rfl⟩:=dG h;exact rj (ih h1) (xz ns ih h2) (aq (ns h1))
def qh {k:J4}{e:Kd}{e':E}(h:qf cls cl n i Γ k e=bt e'):dF e=true:=by
 cases k with
 | zero=>cases h
 | succ k=>cases e <;> first|rfl|(exact ah h)
def GL (K:HCtx X Γ cls cl){p p1 pos:LG}{c:Kd}{r:E}(hg:br Γ ("isinstance" : J3)=true)(hb:Γ.blt.contains ("isinstance" : J3)=true)(hs:slot Γ n=bt i)(h:D3 Γ cls cl i c=bt r):∃g,r=.sem g/\GE X (.Call (.Name "isinstance" p) [.Name n p1,c] [] pos) g:=by
 obtain⟨g1,g2⟩:=Au K hg;have hm:X.mg "isinstance" = gV:=K.blt _ (by simpa using hb)
 cases c with
 | Name D q=>
  replace h:(if br Γ D&&cls.contains D then bt (E.sem (gM cl (λcn=>eI cn D) i))else if br Γ D&&(D==("ValueError" : J3))&&Γ.blt.contains D then bt (E.sem (gM cl (λ_=>true) i))else gV)=bt r:=h
  split at h
  ·rename_i hc;rw[JY]at hc;obtain⟨g3,g4⟩:=Au K hc.1;cases h;exact#[_,rfl,DZ K g1 hm hs g3 g4 (by simpa using hc.2)]
  ·split at h
   ·rename_i hc;rw[JY,JY]at hc;obtain⟨g3,g4⟩:=Au K hc.1.1;have e:=eq_of_beq hc.1.2;subst e;cases h;exact#[_,rfl,D0 K g1 hm hs g3 (K.blt _ (by simpa using hc.2))]
   ·cases h
 | Tuple es k q=>
  replace h:(match eZ es with|some ds=>if (ds.all λD=>br Γ D&&cls.contains D)&&decide (ds.length<=1000)then bt (E.sem (gM cl (λcn=>ds.any (eI cn)) i))else gV|none=>gV)=bt r:=h
  split at h
  ·rename_i ds hd;split at h
   ·rename_i hc;rw[JY,KG]at hc;cases h;exact#[_,rfl,D1 K g1 hm hs hd hc.1 hc.2]
   ·cases h
  ·cases h
 | _=>cases h
def jT (K:HCtx X Γ cls cl):∀(k:J4) {e:Kd} {e':E},qf cls cl n i Γ k e=bt e'->GE X e (ap M e')/\GT X e (bz M e'):=by
 intro k
 induction k with
 | zero=>intro e e' h; cases h
 | succ k ih=>
  intro e e' h;cases e with
  | Constant c j p=>
   cases c <;> cases h
   all_goals first
    | exact#[dX lC (λ_ _=>.non),aG (dX lC (λ_ _=>.non)) λ_=>rfl]
    | exact#[dX mO (λ_ _=>.bl),aG (dX mO (λ_ _=>.bl)) λ_=>rfl]
    | exact#[dX lB (λ_ _=>.int),aG (dX lB (λ_ _=>.int)) λ_=>rfl]
    | exact#[dX lD (λ_ _=>.str),aG (dX lD (λ_ _=>.str)) λ_=>rfl]
  | Name x p=>
   replace h:(match slot Γ x with|some j=>bt (E.v j)|none=>gV)=bt e':=h
   split at h
   ·rename_i j h1;cases h;exact#[CU (lq K h1),aG (CU (lq K h1)) λ_=>rfl]
   ·cases h
  | UnaryOp op a p=>
   cases op with
   | Not=>
    replace h:(qf cls cl n i Γ k a).map E.not=bt e':=h;rw[J0]at h;obtain⟨a',h1,rfl⟩:=h;exact#[vX (ih h1).1,vU (ih h1).2]
   | _=>exact ah h
  | BoolOp op vs p=>
   replace h:cB (qf cls cl n i Γ k) op vs=bt e':=h;exact#[mw (λz=>(ih z).1) h,(mx (λz=>(ih z).2) h).pt]
  | Tuple es j p=>
   replace h:(cA (qf cls cl n i Γ k) es).map E.tup=bt e':=h;rw[J0]at h;obtain⟨r,h1,rfl⟩:=h;have g:=pN (k:=j) (pos:=p) (xz (λz=>qh z) (λz=>(ih z).1) h1)
   exact#[g,aG g λ_=>rfl]
  | Attribute o g p=>
   cases o with
   | Name x q=>
    replace h:(if x==n&&slot Γ n==bt i then bt (E.sem (uh cl g i))else gV)=bt e':=h
    split at h
    ·rename_i hc;rw[JY]at hc;have e:=eq_of_beq hc.1;subst e;cases h;have g:=D2 (g:=g) (p:=q) (pos:=p) K (eq_of_beq hc.2);exact#[g,aG g λ_=>rfl]
    ·cases h
   | _=>exact ah h
  | Call f args kws p=>
   cases kws with
   | cons _ _=>cases f <;> first|(exact ah h)|(match args,h with|[],h=>exact ah h|[a],h=>(cases a <;> exact ah h)|[a,b],h=>(cases a <;> exact ah h)|a::b::c::d,h=>(cases a <;> exact ah h))
   | nil=>
    cases f with
    | Name x q=>
     match args,h with
     | [],h=>exact ah h
     | [a],h=>cases a <;> exact ah h
     | a::b::c::d,h=>cases a <;> exact ah h
     | [a,c],hh=>
      cases a with
      | Name y q2=>
       replace hh:(if x==("isinstance" : J3)&&br Γ x&&Γ.blt.contains x&&y==n&&slot Γ n==bt i then D3 Γ cls cl i c else gV)=bt e':=hh
       split at hh
       ·rename_i hc;rw[JY,JY,JY,JY]at hc;obtain⟨⟨⟨⟨c1,c2⟩,c3⟩,c4⟩,c5⟩:=hc;have e:=eq_of_beq c1;subst e;have e:=eq_of_beq c4;subst e;obtain⟨g,rfl,z⟩:=GL (p:=q) (p1:=q2) (pos:=p) K c2 c3 (eq_of_beq c5) hh;exact#[z,aG z λ_=>rfl]
       ·cases hh
      | _=>exact ah hh
    | _=>exact ah h
  | _=>exact ah h
def D4 {k:J4}{e:Kd}{e':E}{t:JX Kd}{l:J4}{env:Oe}(h:qf cls cl n i Γ k e=bt e'):swapsWith e t l env=pure false:=by
 cases k with
 | zero=>cases h
 | succ k=>cases e <;> first|(exfalso; exact ah h)|rfl
def iT {k:J4}(ih:∀ {st:Lp} {s':Sm},BH cls cl n i Γ k st=bt s'->GS X st (bH M fuel s')):∀ {ss:JS Lp} {r:Ss},eF (BH cls cl n i Γ k) ss=bt r->GSs X ss (bL M fuel r)
 | [],r,h=>by cases h; exact gw
 | s::ss,r,h=>by
  obtain⟨s',ss',h1,h2,rfl⟩:=gE h;exact jG (ih h1) (iT ih h2)
def xA (fuel:J4)(K:HCtx X Γ cls cl):∀(k:J4) {st:Lp} {s':Sm},BH cls cl n i Γ k st=bt s'->GS X st (bH M fuel s'):=by
 have hN:X.N.Nodup:=by rw[K.N]; exact K.nd
 intro k
 induction k with
 | zero=>intro st s' h; cases h
 | succ k ih=>
  intro st s' h;cases st with
  | Return o p=>
   cases o with
   | none=>exact ah h
   | some e=>
    replace h:(qf cls cl n i Γ 20 e).map Sm.ret=bt s':=h;rw[J0]at h;obtain⟨e',h1,rfl⟩:=h;exact pO (jT K _ h1).1
  | If t a b p=>
   replace h:(match qf cls cl n i Γ 20 t,eF (BH cls cl n i Γ k) a,eF (BH cls cl n i Γ k) b with|some t',bt a',bt b'=>bt (Sm.ite t' a' b')|_,_,_=>gV)=bt s':=h
   split at h
   ·rename_i t' a' b' h1 h2 h3;cases h;exact Bn (jT K _ h1).2 (iT ih h2) (iT ih h3)
   ·cases h
  | Assign ts e p=>
   match ts,h with
   | [],h=>exact ah h
   | a::_::_,h=>cases a <;> exact ah h
   | [t],h=>
    cases t with
    | Name x px=>
     replace h:(match aR Γ x,qf cls cl n i Γ 20 e with|some j,bt e'=>bt (Sm.set j e')|_,_=>gV)=bt s':=h
     split at h
     ·rename_i j e' h1 h2;cases h;obtain⟨a,b,c⟩:=Av K h1;exact l6 (jT K _ h2).1 (iN hN a b c) (show swapsWith e (bt (.Name x px)) p.line X.env=pure false from D4 h2) (by cases e <;> rfl) rfl
     ·cases h
    | _=>exact ah h
  | _=>exact ah h
end
end Mi
namespace Mi
open PySem PySem.Spec PyProof.Rows L2
section
variable{M:J3->FF}{fuel:J4}{Z:Fm}{S:aa}{K:Fm->aa->Prop}{Q:QO}
abbrev BI (M:J3->FF)(fuel:J4)(b:Ss)(Z:Fm)(S:aa)(I:Fm->aa->Prop)(Q:QO):Prop:=∀Q':QO,(∀Z' S',I Z' S'->Q' (.nx Z',S'))->(∀w S',Q (.rt w,S')->Q' (.rt w,S'))->wZ M fuel b Z S Q'
def jU {tg:Tg}{it:Ie}{b:Ss}{mi:MI}{S1:aa}{xs:JS W}(I:J4->Fm->aa->Prop)(ok:gF b=true)(hi:kD M it Z S=bt (mi,S1))(hat:∀i Z S,I i Z S->mi.at S i=bt xs[i]?)(hl:mi.len S1=bt xs.length)(h0:I 0 Z S1)
  (hstep:∀(i:J4) (w:W) (Z:Fm) (S:aa),xs[i]?=bt w->I i Z S->wO (t6 tg w Z S) λq=>BI M fuel b q.1 q.2 (I (i+1)) Q) (hend:∀Z S,I xs.length Z S->K Z S):Wp (bH M fuel (.loop tg it b) Z S) (oz K Q):=by
 rw[bH,Gn];show#[_,hi,xs.length,hl,?_];show ig (Q:=oz K Q) I hat (λi w Z S h1 h2=>?_) (λZ S h=>hend Z S h) _ 0 Z S1 ∅ h0
 exact(aN (hstep i w Z S h1 h2)).mono λq hq=>fW b ok (wZ.out (hq _ (λ_ _ h=>h) λ_ _ h=>h))
def b9 {e:E}{Q:QW}(ok:dw e=true)(h:wE M e Z S Q):∃w S',ap M e Z S=bt (w,S')/\Q (w,S'):=let ⟨⟨w,S'⟩,a,b⟩:=aw e ok h; #[w,S',a,b]
def rT {i0:J4}{e:E}{b:Ss}(j:Kk)(I:J4->Fm->aa->Prop)(oe:dw e=true)(ok:gF b=true)(hj : -(2 ^ 62)<=j/\j < 2 ^ 62)(he:wE M e Z S λp=>p.1=.int j/\I 0 Z p.2)
  (hstep:∀(i:J4) (Z:Fm) (S:aa),(i:Kk) < j->I i Z S->BI M fuel b (Z.set i0 (bt (.int i))) S (I (i+1)) Q) (hend:∀Z S,I j.toNat Z S->K Z S):Wp (bH M fuel (.loop (.nm i0) (.rng #v[e]) b) Z S) (oz K Q):=by
 obtain⟨w,S1,e1,rfl,h0⟩:=b9 oe he;have hl:(b8 0 j.toNat).length=j.toNat:=by simp[b8]
 show jU (mi:=.its (b8 0 j.toNat)) (S1:=S1) (xs:=b8 0 j.toNat) I ok ?_ (λ_ _ _ _=>rfl) rfl h0 (λi w Z S hw hI=>?_) λZ S hI=>hend Z S (hl ▸ hI)
 ·simp only[kD,aZ,bZ,gu,pP,e1];rw[Ks hj]
 ·rw[cv]at hw;split at hw
  ·rename_i hk;cases hw;rw[OY];exact hstep i Z S ∅ hI
  ·cases hw
def Ax {tg:Tg}{e:E}{b:Ss}(t:J4)(xs:JS W)(I:J4->Fm->aa->Prop)(oe:dw e=true)(ok:gF b=true)(he:wE M e Z S λp=>p.1=.ref t/\I 0 Z p.2)(hat:∀i Z S,I i Z S->S[t]?=bt (.lst xs))
  (hstep:∀(i:J4) (w:W) (Z:Fm) (S:aa),xs[i]?=bt w->I i Z S->wO (t6 tg w Z S) λq=>BI M fuel b q.1 q.2 (I (i+1)) Q) (hend:∀Z S,I xs.length Z S->K Z S):Wp (bH M fuel (.loop tg (.seq e) b) Z S) (oz K Q):=by
 obtain⟨w,S1,e1,rfl,h0⟩:=b9 oe he;exact jU (mi:=.live t) (S1:=S1) I ok (by simp only[kD,fB,e1,aF (hat _ _ _ h0)]) (λi Z S h=>by simp only[MI.at,aF (hat _ _ _ h)]) (by simp only[MI.len,aF (hat _ _ _ h0),Lv]) h0 hstep hend
def GM {t:E}{b:Ss}(I:J4->Fm->aa->Prop)(m:J4)(ot:dw t=true)(ok:gF b=true)(hm:m < fuel)(h0:I m Z S)
  (hstep:∀m Z S,I m Z S->wT M t Z S λk=>(k.1=true->∃m',m=m'+1/\BI M fuel b Z k.2 (I m') Q)/\(k.1=false->K Z k.2)):Wp (bH M fuel (.whl t b) Z S) (oz K Q):=by
 rw[bH];show jR (Q:=oz K Q) I (λm Z S hI=>(gG t ot (hstep m Z S hI)).mono λk hk=>#[λz=>?_,λz=>hk.2 z]) fuel m Z S hm h0
 obtain⟨m',e,h⟩:=hk.1 z;exact#[m',e,fW b ok (wZ.out (h _ (λ_ _ h=>h) λ_ _ h=>h))]
abbrev wC (M:J3->FF):Es->Fm->aa->QB->Prop
 | .nil,_,S,Q=>Q (true,S)
 | .cons e .nil,Z,S,Q=>wT M e Z S Q
 | .cons _ (.cons _ _),_,_,_=>KT
def BJ {cs:Es}{Q:QB}(ok:pY cs=true)(h:wC M cs Z S Q):Wp (Ae M cs Z S) Q:=by
 match cs,h,ok with
 | .nil,h,_=>exact Go.mpr h
 | .cons e .nil,h,ok=>exact Gp.mpr (gG e (bo ok) h)
abbrev rV (M:J3->FF)(elt:E)(cs:Es)(Z:Fm)(S:aa)(G:W->Fm->aa->Prop)(N:Fm->aa->Prop):Prop:=wC M cs Z S λk=>(k.1=true->wE M elt Z k.2 λy=>G y.1 Z y.2)/\(k.1=false->N Z k.2)
def qk {elt:E}{tg:Tg}{it:Ie}{cs:Es}{cap:JS (JX J4)}{mi:MI}{S1:aa}{xs:JS W}{Q:QW}(I:J4->JS W->Fm->aa->Prop)(oe:dw elt=true)(oc:pY cs=true)(hi:kD M it Z S=bt (mi,S1))(hat:∀i ys Z S,I i ys Z S->mi.at S i=bt xs[i]?)(hl:mi.len S1=bt xs.length)(h0:I 0 [] (eD cap Z) S1)
  (hstep:∀(i:J4) (w:W) (ys:JS W) (Z:Fm) (S:aa),xs[i]?=bt w->I i ys Z S->wO (t6 tg w Z S) λq=>rV M elt cs q.1 q.2 (λy=>I (i+1) (ys++[y])) (I (i+1) ys))
  (hend:∀ys Z S,I xs.length ys Z S->ys.length<=sizeLine/\Q (.ref S.length,S++[.lst ys])):Wp (ap M (.comp elt tg it cs cap) Z S) Q:=by
 rw[wR];show#[_,hi,xs.length,hl,?_];show(ci (xs:=xs) (Q:=λq=>q.1.length<=sizeLine/\Q (.ref q.2.length,q.2++[.lst q.1])) I hat (λi w ys Z S h1 h2=>?_) hend xs.length 0 [] _ S1 ∅ h0).mono λq hq=>by simpa using hq
 exact(aN (hstep i w ys Z S h1 h2)).mono λq hq=>(BJ oc hq).mono λk hk=>#[λz=>aw elt oe (hk.1 z),hk.2]
def rW {elt e:E}{i0:J4}{cs:Es}{cap:JS (JX J4)}{Q:QW}(j:Kk)(I:J4->JS W->Fm->aa->Prop)(oi:dw e=true)(oe:dw elt=true)(oc:pY cs=true)(hj : -(2 ^ 62)<=j/\j < 2 ^ 62)(he:wE M e Z S λp=>p.1=.int j/\I 0 [] (eD cap Z) p.2)
  (hstep:∀(i:J4) (ys:JS W) (Z:Fm) (S:aa),(i:Kk) < j->I i ys Z S->rV M elt cs (Z.set i0 (bt (.int i))) S (λy=>I (i+1) (ys++[y])) (I (i+1) ys))
  (hend:∀ys Z S,I j.toNat ys Z S->ys.length<=sizeLine/\Q (.ref S.length,S++[.lst ys])):Wp (ap M (.comp elt (.nm i0) (.rng #v[e]) cs cap) Z S) Q:=by
 obtain⟨w,S1,e1,rfl,h0⟩:=b9 oi he;have hl:(b8 0 j.toNat).length=j.toNat:=by simp[b8]
 show qk (mi:=.its (b8 0 j.toNat)) (S1:=S1) (xs:=b8 0 j.toNat) I oe oc ?_ (λ_ _ _ _ _=>rfl) rfl h0 (λi w ys Z S hw hI=>?_) λys Z S hI=>hend ys Z S (hl ▸ hI)
 ·simp only[kD,aZ,bZ,gu,pP,e1];rw[Ks hj]
 ·rw[cv]at hw;split at hw
  ·rename_i hk;cases hw;rw[OY];exact hstep i ys Z S ∅ hI
  ·cases hw
def Ay {elt e:E}{tg:Tg}{cs:Es}{cap:JS (JX J4)}{Q:QW}(t:J4)(xs:JS W)(I:J4->JS W->Fm->aa->Prop)(oi:dw e=true)(oe:dw elt=true)(oc:pY cs=true)(he:wE M e Z S λp=>p.1=.ref t/\I 0 [] (eD cap Z) p.2)(hat:∀i ys Z S,I i ys Z S->S[t]?=bt (.lst xs))
  (hstep:∀(i:J4) (w:W) (ys:JS W) (Z:Fm) (S:aa),xs[i]?=bt w->I i ys Z S->wO (t6 tg w Z S) λq=>rV M elt cs q.1 q.2 (λy=>I (i+1) (ys++[y])) (I (i+1) ys))
  (hend:∀ys Z S,I xs.length ys Z S->ys.length<=sizeLine/\Q (.ref S.length,S++[.lst ys])):Wp (ap M (.comp elt tg (.seq e) cs cap) Z S) Q:=by
 obtain⟨w,S1,e1,rfl,h0⟩:=b9 oi he;exact qk (mi:=.live t) (S1:=S1) I oe oc (by simp only[kD,fB,e1,aF (hat _ _ _ _ h0)]) (λi ys Z S h=>by simp only[MI.at,aF (hat _ _ _ _ h)]) (by simp only[MI.len,aF (hat _ _ _ _ h0),Lv]) h0 hstep hend
def st {s:Sm}{ss:Ss}(h:wS M fuel s Z S (λZ' S'=>wZ M fuel ss Z' S' Q) Q):wZ M fuel (.cons s ss) Z S Q:=#[by
 dsimp only[Am];simp only[GB];exact h]
def cV (h:Q (.nx Z,S)):wZ M fuel .nil Z S Q:=#[h]
def aK {t:Kn}{a b:Ss}{Q Q0:QO}{K:Fm->aa->Prop}(ha:t=true->∀Q':QO,(∀Z' S',K Z' S'->Q' (.nx Z',S'))->(∀w S',Q (.rt w,S')->Q' (.rt w,S'))->wZ M fuel a Z S Q')(hb:t=false->∀Q':QO,(∀Z' S',K Z' S'->Q' (.nx Z',S'))->(∀w S',Q (.rt w,S')->Q' (.rt w,S'))->wZ M fuel b Z S Q') :
  ∀Q':QO,(∀Z' S',K Z' S'->Q' (.nx Z',S'))->(∀o S',(∀Z',o≠.nx Z')->Q (o,S')->Q' (o,S'))->(t=true->Am M fuel a Z S Q')/\(t=false->Am M fuel b Z S Q'):=
 λQ' h1 h2=>#[λe=>(ha e Q' h1 λw S'=>h2 (.rt w) S' (λ_ z=>nomatch z)).out,λe=>(hb e Q' h1 λw S'=>h2 (.rt w) S' (λ_ z=>nomatch z)).out]
end
end Mi
namespace Mi
open PySem PySem.Spec PyProof.Rows L2 Xc
inductive BK where
 | test (f:J3) (k:J4) (es:Es) (a:Ss)|ex (f:J3) (k:J4) (es:Es)|set (j:J4) (f:J3) (k:J4) (es:Es)|asg (js:JS J4) (f:J3) (k:J4) (es:Es)
abbrev BK.fs (M:J3->FF):BK->FS
 | .test f k es a=>gy (fS (tP .is (dC k (oV (M f)) (aZ M es)) (fC (.bl true)))) (bL M 0 a) (bL M 0 .nil)
 | .ex f k es=>nP (dC k (oV (M f)) (aZ M es))
 | .set j f k es=>dE (dC k (oV (M f)) (aZ M es)) (zO j)
 | .asg js f k es=>dE (dC k (oV (M f)) (aZ M es)) (C6 js)
abbrev BK.fx (M:J3->FF):BK->FX
 | .test f k es _=>gA k (xG (M f)) (aZ M es)
 | .ex f k es=>gA k (xG (M f)) (aZ M es)
 | .set _ f k es=>gA k (xG (M f)) (aZ M es)
 | .asg _ f k es=>gA k (xG (M f)) (aZ M es)
abbrev EG (cl:Cl)(c:J3)(i:J4)(b:BK)(h:Ss):(J3->FF)->FS:=λM=>xr (b.fs M) (b.fx M) (λcn=>eI cn c) cl i (bL M 0 h)
abbrev oG (XF:JS (J3×J3×J4))(Γ:Gam):Kd->JX (J3×J4×Es)
 | .Call (.Name f _) (a::as) [] _=>if br Γ f then match XF.lookup f,cA (cE aB Γ) (a::as)with
  | some (f',k),bt es=>bt (f',k,es)
  | _,_=>gV
  else gV
 | _=>gV
abbrev IM:JS Kd->Kn
 | [.Constant (.bool true) _ _]=>true
 | _=>false
abbrev IN (XF:JS (J3×J3×J4))(Γ:Gam):JS Lp->JX BK
 | [.If (.Compare e [.Is] cs _) a [] _]=>if IM cs then match oG XF Γ e,eF (cS 20 Γ) a with
  | some (f,k,es),bt a'=>bt (.test f k es a')
  | _,_=>gV
  else gV
 | [.Expr e _]=>match oG XF Γ e with
  | some (f,k,es)=>bt (.ex f k es)
  | none=>gV
 | [.Assign [.Name x _] e _]=>match aR Γ x,oG XF Γ e with
  | some j,bt (f,k,es)=>bt (.set j f k es)
  | _,_=>gV
 | [.Assign [.Tuple ts _ _] e _]=>match Do Γ ts,oG XF Γ e with
  | some js,bt (f,k,es)=>bt (.asg js f k es)
  | _,_=>gV
 | _=>gV
abbrev EH (XF:JS (J3×J3×J4))(cls:JS J3)(cl:Cl)(Γ:Gam):Lp->JX Sm
 | .Try body [.ExceptHandler (bt (.Name c _)) (bt n) (b0::suite) _] [] [] _=>if br Γ c&&cls.contains c&&(Γ.sc.lookup n==bt .local)then match Γ.N.findIdx? (· == n)with
  | some i=>match IN XF Γ body,eF (BH cls cl n i Γ 20) (b0::suite)with
   | some b,bt h=>bt (.sem (EG cl c i b h))
   | _,_=>gV
  | none=>gV
  else gV
 | st=>cS 20 Γ st
section
variable{X:Cx}
def GA.nox {es:JS Kd}{f:FA}(h:GA X.nox es f):GA X es f:=λpos J s Y H Q I #[A,Z,S,ws,S',er,so,e,q]=>
 KO (h pos J s Y H Q (I.wish _) #[A,Z,S,ws,S',er,so,e,λvs H' #[A',x,y,z]=>q vs H' #[A',x,y,z]]) (λ_ _ #[v,H',I',r,q]=>#[v,H',I'.unwish,r,q]) λ_ _ z=>KT.elim z
def GSs.nox {st:JS Lp}{f:FS}(h:GSs X.nox st f):GSs X st f:=λJ s Y H D I #[A,Z,S,o,S',er,so,e,d]=>
 KO (h J s Y H D (I.wish _) #[A,Z,S,o,S',er,so,e,xu X X.nox rfl rfl d]) (λ_ _ q=>q.unwish) λ_ _ z=>KT.elim z
end
structure TOk (M:J3->FF)(X:Cx)(Γ:Gam)(XF:JS (J3×J3×J4))(cls:JS J3)(cl:Cl):Prop where
 st:X.stack=X.env::X.outer
 fr:X.env.frame=bt X.env.locals
 hc:∀a,HCtx (qP X a) Γ cls cl
 xd:∀c∈cls,∃D,X.mg c=bt (.ref D)/\XD X.K D
 xf:∀f f' k,XF.lookup f=bt (f',k)->∃d fa fd ps,FnOk X.prog X.w X.K X.mg X.base (CXx X.prog X.w) d fa fd ps (spX X.w X.K cl k (oV (M f')) (xG (M f')))/\Room d X.A/\X.mg f=bt (.ref fa)/\Lc X.K (.ref fa)=true/\Binds X.K fd ps []
section
variable{M:J3->FF}{X:Cx}{Γ:Gam}{fuel:J4}{XF:JS (J3×J3×J4)}{cls:JS J3}{cl:Cl}
def xB (K:CtxOk M X Γ)(J:JS (td×Ll))(E:JU->JV->Prop):CtxOk M (Cx.tr X J E).nox Γ:=#[K.names,K.kind,K.N,K.nd,K.calm,N6,K.un,K.dfn,K.own,K.blt,K.cst,K.gds,K.fns]
def my (K:CtxOk M X Γ)(T:TOk M X Γ XF cls cl){e:Kd}{f:J3}{k:J4}{es:Es}(h:oG XF Γ e=bt (f,k,es)){J:JS (td×Ll)}{E:JU->JV->Prop}{Y0:L2.St}{Ew:L2.XK}
  (hw:∀J1 H s a C dd a0,Air (Cx.tr X J E) J1 Y0 H s a C dd a0->Ew (.ref C) dd H->E (.ref a) s):ME (Cx.tr X J E) cl Ew Y0 e (dC k (oV (M f)) (aZ M es)) (gA k (xG (M f)) (aZ M es))/\(∀t l env,swapsWith e t l env=pure false)/\∀t,swappedStores [t] e (Cx.tr X J E).env=pure gV:=by
 cases e with
 | Call fn args kws pos=>
  cases fn with
  | Name x p=>
   cases args with
   | nil=>cases kws <;> exact ah h
   | cons a as=>
    cases kws with
    | cons _ _=>exact ah h
    | nil=>
     replace h:(if br Γ x then match XF.lookup x,cA (cE aB Γ) (a::as)with|some (f',k),bt es=>bt (f',k,es)|_,_=>gV else gV)=bt (f,k,es):=h
     split at h
     ·rename_i hg;split at h
      ·rename_i f' k' es' h1 h2;cases h;obtain⟨d,fa,fd,ps,F,hr,hm,hk,hb⟩:=T.xf x f k h1;have K':=xB K J E;obtain⟨g1,g2⟩:=cK K hg;have ns:=aX h2;rw[KM,JY]at ns;exact#[DV (X:=Cx.tr X J E) F hr g1 hm hk hb hw (GA.nox (bD (λz=>(aM aB K' z).1) h2)) g2 (aq ns.1) (aT ns.2),λ_ _ _=>rfl,λt=>by cases t <;> rfl]
      ·cases h
     ·cases h
  | _=>exact ah h
 | _=>exact ah h
def IP (K:CtxOk M X Γ)(T:TOk M X Γ XF cls cl){body:JS Lp}{b:BK}(h:IN XF Γ body=bt b)(J:JS (td×Ll))(E:JU->JV->Prop)(Y0:L2.St)(Ew:L2.XK)
  (hw:∀J1 H s a C dd a0,Air (Cx.tr X J E) J1 Y0 H s a C dd a0->Ew (.ref C) dd H->E (.ref a) s):PSs (Cx.tr X J E) body (MX (Cx.tr X J E) cl Ew Y0 (b.fs M) (b.fx M)):=by
 have K':=xB K J E;have hN:X.N.Nodup:=by rw[K.N]; exact K.nd
 unfold IN at h;split at h
 ·rename_i e cs p a p2;split at h
  ·rename_i ht;split at h
   ·rename_i f k es a' h1 h2;cases h
    match cs,ht with
    | [.Constant (.bool true) k0 p0],_=>
     obtain⟨m,_,_⟩:=my K T h1 hw;exact f8 (GJ (DY (o:=.is) (X:=Cx.tr X J E) K.un m (dX mO (λ_ _=>.bl)) rfl) (GSs.nox (dH (λz=>iR 0 K' 20 z) h2)) gw)
   ·cases h
  ·cases h
 ·rename_i e p;split at h
  ·rename_i f k es h1;cases h;obtain⟨m,s1,_⟩:=my K T h1 hw;exact f8 (GK m (s1 _ _ _))
  ·cases h
 ·rename_i x px e p;split at h
  ·rename_i j f k es h1 h2;cases h;obtain⟨m,s1,s2⟩:=my K T h2 hw;obtain⟨a,b,c⟩:=iQ K h1;exact f8 (xw m (iN (X:=Cx.tr X J E) hN a b c) (show swapsWith e (bt (.Name x px)) p.line X.env=pure false from s1 _ _ _) (s2 _) rfl)
  ·cases h
 ·rename_i ts k0 p0 e p;split at h
  ·rename_i js f k es h1 h2;cases h;obtain⟨m,s1,s2⟩:=my K T h2 hw;obtain⟨a,b⟩:=jM K h1;exact f8 (xw m (v9 (X:=Cx.tr X J E) K.calm a b hN (cw a).1 (cw a).2) (show swapsWith e (bt (.Tuple ts k0 p0)) p.line X.env=pure false from s1 _ _ _) (s2 _) rfl)
  ·cases h
 ·cases h
def IQ (fuel:J4)(K:CtxOk M X Γ)(T:TOk M X Γ XF cls cl){st:Lp}{s':Sm}(h:EH XF cls cl Γ st=bt s'):GS X st (bH M fuel s'):=by
 have hN:X.N.Nodup:=by rw[K.N]; exact K.nd
 unfold EH at h;split at h
 ·rename_i body c cp n b0 suite hp p;split at h
  ·rename_i hc;rw[JY,JY]at hc;obtain⟨⟨c1,c2⟩,c3⟩:=hc;split at h
   ·rename_i i hi;split at h
    ·rename_i b hs h1 h2;cases h;obtain⟨g1,g2⟩:=cK K c1;have c2':c∈cls:=by simpa using c2
     obtain⟨D,m,xd⟩:=T.xd c c2';show DU (D:=D) T.st T.fr hN (by rw[K.N]; exact a7 hi) (by rw[K.names]; exact eq_of_beq c3) g1 m xd g2 (λcn C gs q1 q2=>?_) (λJ E Y0 Ew hw=>IP K T h1 J E Y0 Ew hw) λa=>iT (λz=>xA 0 (T.hc a) 20 z) h2
     obtain⟨Da,m',xt⟩:=(T.hc 0).xt c c2';have e:bt (Kl D)=bt (Kl Da):=m.symm.trans m';cases e;have:=(xt cn C gs q1).sub;rw[q2]at this;exact this
    ·cases h
   ·cases h
  ·cases h
 ·exact iR fuel K 20 h
def rX (K:CtxOk M X Γ)(T:TOk M X Γ XF cls cl):∀ {ss:JS Lp} {r:Ss},eF (EH XF cls cl Γ) ss=bt r->GSs X ss (bL M fuel r)
 | [],r,h=>by cases h; exact gw
 | s::ss,r,h=>by
  obtain⟨s',ss',h1,h2,rfl⟩:=gE h;exact jG (IQ fuel K T h1) (rX K T h2)
end
structure XCls (K:J2)(mg:J3->JX JU)(base:KB)(cls:JS J3)(cl:Cl):Prop where
 xk:∀cn C gs,cl cn=bt (C,gs)->(∃cd,XK K C cd)/\base.get? C≠gV/\XT K C (.type "ValueError") true/\∀g∈gs,M7 K (.ref C) g=bt gV
 xt:∀D∈cls,∃Da,mg D=bt (.ref Da)/\XD K Da/\∀cn C gs,cl cn=bt (C,gs)->XT K C (.ref Da) (eI cn D)
section
variable{P:Ke}{w:Kr}{K:J2}{mg:J3->JX JU}{base:KB}
abbrev GN (P:Ke)(w:Kr)(K:J2)(mg:J3->JX JU)(base:KB)(XF:JS (J3×J3×J4))(cl:Cl)(defs:JS (J3×Df))(fuel d:J4):Prop:=
 ∀f f' n,XF.lookup f=bt (f',n)->∃fa fd ps,FnOk P w K mg base (CXx P w) (d+2) fa fd ps (spX w K cl n (oV (ag defs fuel d f')) (xG (ag defs fuel d f')))/\mg f=bt (.ref fa)/\Lc K (.ref fa)=true/\Binds K fd ps []
def D5 {Mqa:Md}{XF:JS (J3×J3×J4)}{cls:JS J3}{cl:Cl}{defs:JS (J3×Df)}{fuel d:J4}{x qual:J3}{st:Lp}{f:td}{fd:Lb}{df:Df}(F:Fun K x qual st f fd)(S:FnScope df.N df.ps (am st))(hd:defs.lookup x=bt df)
  (hc:eF (EH XF cls cl (dQ Mqa st df.N)) (aE st)=bt df.body) (hb:MdOk w K mg Mqa) (prev:rL P w K mg base Mqa defs fuel d) (px:GN P w K mg base XF cl defs fuel d) (Zx:XCls K mg base cls cl) :
  FnOk P w K mg base ji (d+3) f fd df.ps (spF w K df.ps.length (ag defs fuel (d+1) x)):=by
 show F.ok S (λvs H Q E h=>?_) (λcdv A outer s H vs Q E hr h=>?_)
 ·obtain⟨A,S,ws,w',S',_,rl,hl,_⟩:=h;rw[<- rl.length]; exact hl
 ·obtain⟨A',St,ws,w',S',so,rl,hl,e,hq⟩:=h;have un:(A.deeper (envOfC qual (am st) s.heap.objs.size f cdv)).units+20 < cLine:=by
   have:=hr.un;omega
  have K':CtxOk (ag defs fuel d) (d6 ji P w K mg base df.N qual (am st) f cdv A outer s H E).nox (dQ Mqa st df.N):=by
   show#[rfl,S.kind,rfl,S.nd,rfl,N6,un,λ_ _=>rfl,λ_ h=>(nomatch h),hb.blt,hb.cst _ rfl rfl rfl,hb.gds _ rfl rfl rfl,λg n hg=>?_]
   obtain⟨fa,fd',ps',h1,h2,h3,h4⟩:=prev g n hg;exact#[d+2,fa,fd',ps',h1,hr,h2,h3,h4]
  have T:TOk (ag defs fuel d) (d6 ji P w K mg base df.N qual (am st) f cdv A outer s H E).nox (dQ Mqa st df.N) XF cls cl:=by
   show#[rfl,rfl,λa=>#[rfl,rfl,S.nd,un,λ_=>rfl,hb.blt,Zx.xk,λD hD=>?_],λc hc=>?_,λg g' n hg=>?_]
   ·obtain⟨Da,h1,_,h3⟩:=Zx.xt D hD;exact#[Da,h1,h3]
   ·obtain⟨Da,h1,h2,_⟩:=Zx.xt c hc;exact#[Da,h1,h2]
   ·obtain⟨fa,fd',ps',h1,h2,h3,h4⟩:=px g g' n hg;exact#[d+2,fa,fd',ps',h1,hr,h2,h3,h4]
  show#[tS _ (bL (ag defs fuel d) fuel df.body),rX K' T hc,?_]
  (dsimp only[ag]at e; simp only[hd]at e)
  rw[Ks hl]at e;split at e
  ·rename_i w1 S1 h1;cases e;show#[A',a9 df.N ws,St,_,_,bT rl,so,h1,#[λY' H' #[_,_,z,_,_,_]=>(by cases z),λv H' #[w2,A2,z0,z1,z2,z3]=>?_,λY' H' #[_,_,z,_,_,_]=>(by cases z),λY' H' #[_,_,z,_,_,_]=>(by cases z)]]
   cases z0;exact hq v H' #[A2,z1,z2,z3]
  ·rename_i Z1 S1 h1;cases e;show#[A',a9 df.N ws,St,_,_,bT rl,so,h1,#[λY' H' #[w2,A2,z0,z1,z2,z3]=>?_,λY' H' #[_,_,z,_,_,_]=>(by cases z),λY' H' #[_,_,z,_,_,_]=>(by cases z),λY' H' #[_,_,z,_,_,_]=>(by cases z)]]
   exact hq _ H' #[A2,z1,z2,.non]
  ·cases e
end
section
variable{M:J3->FF}{cl:Cl}{c:J3}{i:J4}{h:Ss}{Z:Fm}{S:aa}{K:Fm->aa->Prop}{Q:QO}
abbrev IR (i:J4)(K:Fm->aa->Prop)(Q:QO)(p:Out×aa):Prop:=match p.1 with
 | .nx Z'=>K (Z'.set i gV) p.2
 | .rt w=>Q (.rt w,p.2)
 | _=>KT
def GP {b:BK}{cn:J3}{ws:JS W}{S1:aa}{C:td}{gs:JS J3}(ok:gF h=true)(h1:b.fs M Z S=gV)(h2:b.fx M Z S=bt (cn,ws,S1))(h3:cl cn=bt (C,gs))(h4:eI cn c=true)
  (hh:wZ M 0 h (Z.set i (bt (.ref S1.length))) (S1++[.exc cn C gs ws]) (IR i K Q)):wO (EG cl c i b h M Z S) (oz K Q):=by
 obtain⟨⟨o,S2⟩,e,q⟩:=fW h ok hh.out;unfold EG xr;simp only[h1,h2,h3,h4,MY,e];cases o with
 | nx Z'=>exact q
 | rt w=>exact q
 | bk Z'=>exact q.elim
 | ct Z'=>exact q.elim
def GQ {b:BK}{o:Out}{S1:aa}(h1:b.fs M Z S=bt (o,S1))(q:oz K Q (o,S1)):wO (EG cl c i b h M Z S) (oz K Q):=by
 unfold EG xr;simp only[h1];exact q
end
end Mi
namespace Mi
open PySem PySem.Spec PySem.W PyProof.Rows L2 Xc
structure DK (K:Frag)(D:td):Prop where
 hc:(clsIn K D).isSome=true
 ty:typeIn K (.ref D)=bt (.type "type")
 st:subIn K (.type "type") (.type "tuple")=bt false
 se:subIn K (.ref D) (.type "BaseException")=bt true
def DK.xd {K:Frag}{D:td}(h:DK K D):XD K D:=
 let ⟨_,hc⟩:=Lj.mp h.hc
 #[λMqa h' X=>(looks_typeIn X h.ty).andThen (looks_subIn X h.st),λMqa h' X=>(fN hc Mqa h' X).andThen (looks_subIn X h.se)]
def DK.xt {K:Frag}{C D:td}{b:Kn}(h:DK K D)(sub:subIn K (.ref C) (.ref D)=bt b)(eq:(!(Kl C==Kl D)||b)=true):XT K C (.ref D) b:=
 let ⟨_,hc⟩:=Lj.mp h.hc
 #[λMqa h' X=>looks_typeIn X h.ty,λMqa h' X=>fN hc Mqa h' X,sub,λz=>by rw[z]at eq; exact eq]
def GR {K:Frag}{C:td}{T:Ls}{b:Kn}(ty:typeOf (.type T)=pure (.type "type"))(sub:subIn K (.ref C) (.type T)=bt b):XT K C (.type T) b:=
 #[λMqa h X=>.of_pure ty,λMqa h X=>.of_pure rfl,sub,λz=>by cases z]
structure XE (K:Frag)(C N f:td)(nm:J3)(bs bm sub:JS JU)(k0 t2 t3:J4)(gs:JS J3):Prop where
 lk:K.lookup C=bt (excClassObj nm nm C N bs bm true [] sub false gV gV (bt (.ref k0)) gV (bt (.str nm t2)) (bt (.str nm t3)) (bt (.bool true)) "ValueError.__new__")
 mro:cO (.ref C::bm)=true
 tl:tailIn K Ji bm=true
 bb:bm.contains (.type "BaseException")=true
 ga:findIn K (.ref C) "__getattribute__" = bt (bt (.builtin "BaseException.__getattribute__"))
 hk:findIn K (.ref C) "__getattr__" = bt gV
 kl:findIn K (.ref C) "__class__" = bt (bt (.builtin "object.__class__"))
 gg:specialIn K (.builtin "object.__class__") "__get__" = bt (bt (.builtin "getset_descriptor.__get__"))
 tk:takesIn K (.builtin "object.__class__")=bt true
 sa:findIn K (.ref C) "__setattr__" = bt (bt (.builtin "object.__setattr__"))
 init:findIn K (.ref C) "__init__" = bt (bt (.ref f))
 fn:typeIn K (.ref f)=bt (.type "function")
 kp:keepIn K (.ref C)=true
 ve:subIn K (.ref C) (.type "ValueError")=bt true
 at':(gs.all λg=>findIn K (.ref C) g==bt gV)=true
section
variable{K:Frag}{C N f:td}{nm:J3}{bs bm sub:JS JU}{k0 t2 t3:J4}{gs:JS J3}
def XE.xm (h:XE K C N f nm bs bm sub k0 t2 t3 gs):∃cd,XM K C f cd:=by
 have hc:clsIn K C=bt { name:=nm,bases:=bs,mro:=.ref C::bm,ns:=N,qualname:=nm,hasDict:=true,slotNames:=[],subclasses:=sub,abstract:=false,collection:=gV,hasDel:=false }:=by
  unfold clsIn;rw[h.lk]
 exact#[_,{ cls:=hc,mro:=h.mro,dct:=rfl,ga:=h.ga,hk:=h.hk,kl:=h.kl,gg:=h.gg,tk:=h.tk,obj:=#[_,_,_,_,_,_,_,_,_,_,_,_,_,_,_,h.lk,h.tl,h.bb],sa:=h.sa,init:=h.init,fn:=h.fn,kp:=h.kp }]
def XE.fd (h:XE K C N f nm bs bm sub k0 t2 t3 gs):∀g∈gs,findIn K (.ref C) g=bt gV:=λg hg=>eq_of_beq (LS.mp h.at' g hg)
def XE.all {base:KB}(h:XE K C N f nm bs bm sub k0 t2 t3 gs)(X:K.In base):(∃cd,XK K C cd)/\base.get? C≠gV/\XT K C (.type "ValueError") true/\∀g∈gs,findIn K (.ref C) g=bt gV:=by
 obtain⟨cd,m⟩:=h.xm;show#[#[cd,m.toXC.toXK],?_,GR rfl h.ve,h.fd];rw[X _ _ h.lk];exact λe=>nomatch e
end
def eJ {α:Type}{x:J3}{v:α}:∀ {l:JS (J3×α)},l.lookup x=bt v->(x,v)∈l
 | [],h=>nomatch h
 | (y,u)::l,h=>by
  rw[KD]at h;split at h
  ·rename_i e;cases h;have:=eq_of_beq e;subst this;exact Kq
  ·exact Ko _ (eJ h)
def GU {o:Kd}{name:J3}{apos pos:LG}{args:JS Kd}{env:Oe}(hb:attributeBase o name env (eval o env)=eval o env)(hform:methodCallForm (args.length+([]:JS Qc).length) (backTo pos (starEach args env)) (backToKw pos (keywordEach [] env))=true)(hline:(apos.endLine==pos.line)=true) :
  eval (.Call (.Attribute o name apos) args [] pos) env=(do
   let ov <- eval o env
   standAt apos.atName
   let (f,first) <- holding [ov] (getMethod ov name (do return(<- importBound o env).getD true))
   callWith pos f first (backTo pos (starEach args env)) (backToKw pos (keywordEach [] env))):=by
 have hpos:methodCallPos true o env apos pos=pure pos:=by unfold methodCallPos; simp[hline]
 rw[arm_eval_Call,hb];unfold methodCall calleeOf;rw[hform,hpos];simp only[MY,pure_bind]
section
variable{P:Ke}{w:Kr}{K:Frag}{mg:J3->JX JU}{base:KB}{x qual L self y z g h:J3}{st:Lp}{f CL:td}{fd:Lb}{mc:JU}{k:J4}
def D6 (F:Fun K x qual st f fd)(S:FnScope [self,y] [self,y] (am st))(hb:∃p1 p2 p3 p4 p5 p6 p7 p8 p9 p10,aE st=[.Expr (.Call (.Attribute (.Name L p1) "__init__" p2) [.Name self p3,.Name y p4] [] p5) p6,.Assign [.Attribute (.Name self p7) g p8] (.Name y p9) p10]/\(p2.endLine==p5.line)=true)
  (hgl:(am st).names.lookup L=bt .globalImplicit) (hs:(am st).names.lookup self=bt .local) (hy:(am st).names.lookup y=bt .local) (hmg:mg L=bt (.ref CL)) (Zx:XL K CL mc)
  (hdb:(L==("__debug__" : J3))=false) (d1:(self==("__debug__" : J3))=false) (d2:(self==("__classdict__" : J3))=false) (d3:(y==("__debug__" : J3))=false) (d4:(y==("__classdict__" : J3))=false):FnOk P w K mg base ji (k+1) f fd [self,y] (vh K g):=by
 obtain⟨p1,p2,p3,p4,p5,p6,p7,p8,p9,p10,hb,hl⟩:=hb;show F.ok S (λvs H Q E #[_,_,_,_,q,_]=>by rw[q]; rfl) λcdv A outer s H vs Q E hr hq=>?_
 rw[hb];obtain⟨e,v,C,cd,rfl,Yj,hf,he,hk⟩:=hq;show#[ER (AW (u6 K (uK (mN 0) (uK (mN 1) yG)))) (Bf K (mN 0) (mN 1) g),iZ (lF (u7 hgl hmg Zx.ga Zx.rd Zx.fc (bA (fI rfl (.inl hs) d1 d2) (bA (fI rfl (.inl hy) d3 d4) fL)) (hdb:=hdb) (ht:=GU rfl rfl hl)) rfl) (f8 (yW (fI rfl (.inl hs) d1 d2) (fI rfl (.inl hy) d3 d4) rfl)),?_];show#[.ref e,rfl,v,rfl,e,C,cd,gV,[v],rfl,?_,Yj,he,v,rfl,.ref e,rfl,e,C,cd,rfl,Yj,hf,.inl #[he,hk]];rw[Lf];change 1<=_;decide
end
end Mi
namespace Mi
open PySem PySem.Spec PyProof.Rows L2
abbrev cy:Ss:=
 #v[.ret (.lst #v[.bi .list #v[.v 0],.c (.int 0),.c (.int 0),.c (.int 1),.c (.int 0)])]
abbrev bE:Ss:=
 #v[.ite (.and (.cmp .eq (.ix (.v 0) (.c (.int 2))) (.c (.int 0))) (.cmp .lt (.ix (.v 0) (.c (.int 1))) (.bi .len #v[.ix (.v 0) (.c (.int 0))]))) #v[.set 2 (.ix (.ix (.v 0) (.c (.int 0))) (.ix (.v 0) (.c (.int 1)))),.put (.v 0) (.c (.int 1)) (.op .add (.ix (.v 0) (.c (.int 1))) (.c (.int 1))),.ite (.cmp .ge (.v 2) (.op .pow (.c (.int 10)) (.c (.int 18)))) #v[.put (.v 0) (.c (.int 2)) (.v 2)] #v[.put (.v 0) (.c (.int 3)) (.op .mod (.op .add (.op .add (.op .mul (.ix (.v 0) (.c (.int 3))) (.c (.int 40013))) (.op .mod (.v 2) (.c (.int 1000003)))) (.c (.int 1))) (.c (.int 2147483647)))]] .nil,.ite (.cmp .gt (.ix (.v 0) (.c (.int 2))) (.c (.int 0))) #v[.set 3 (.op .mod (.ix (.v 0) (.c (.int 2))) (.v 1)),.put (.v 0) (.c (.int 2)) (.op .fdiv (.ix (.v 0) (.c (.int 2))) (.v 1)),.ret (.v 3)] .nil,.put (.v 0) (.c (.int 4)) (.op .add (.ix (.v 0) (.c (.int 4))) (.c (.int 1))),.put (.v 0) (.c (.int 3)) (.op .mod (.op .add (.op .add (.op .mul (.ix (.v 0) (.c (.int 3))) (.c (.int 48271))) (.c (.int 12820163))) (.ix (.v 0) (.c (.int 4)))) (.c (.int 2147483647))),.ret (.op .mod (.op .fdiv (.op .mod (.op .mul (.op .add (.op .mod (.ix (.v 0) (.c (.int 3))) (.c (.int 65521))) (.c (.int 1))) (.op .add (.op .fdiv (.ix (.v 0) (.c (.int 3))) (.c (.int 65521))) (.c (.int 7919)))) (.c (.int 1000003))) (.c (.int 7))) (.v 1))]
abbrev bY:Ss:=
 #v[.ret (.me .join (.c (.str "")) #v[.comp (.ix (.c (.str "abcdefghijklmnopqrstuvwxyz")) (.own "_law_pick" 2 #v[.v 2,.c (.int 26)])) (.nm 1) (.rng #v[.v 1]) .nil [gV,gV,bt 0]])]
abbrev Is (defs:JS (J3×Df))(f:J3)(np nn:J4)(b:Ss):Prop:=∃df:Df,defs.lookup f=bt df/\df.ps.length=np/\df.N.length=nn/\df.body=b
def aH {defs:JS (J3×Df)}{fuel d:J4}{f:J3}{np nn:J4}{b:Ss}{ws:JS W}{S:aa}{Q:QW}(h:Is defs f np nn b)(hl:ws.length=np)(ok:gF b=true)
  (hb:∀Q':QO,(∀w S',Q (w,S')->Q' (.rt w,S'))->wZ (ag defs fuel d) fuel b (ws.map bt++KZ (nn - np) gV) S Q'):wO (bu (ag defs fuel (d+1)) f np ws S) Q:=by
 obtain⟨df,h1,h2,h3,h4⟩:=h;subst h4;show DH h1 hl (hl.trans h2.symm) ok λQ' hR=>?_
 have:=hb Q' hR;unfold a9;rw[h3,hl];exact this
structure Gen (defs:JS (J3×Df)):Prop where
 pick:Is defs ("_law_pick" : J3) 2 4 bE
 letters:Is defs ("_law_letters" : J3) 2 2 bY
structure FlA (S:aa)(r q:J4)(ns:JS Kk)(i c x n:Kk):Prop where
 at_r:S[r]?=bt (.lst [.ref q,.int i,.int c,.int x,.int n])
 at_q:S[q]?=bt (.lst (ns.map W.int))
 lt:q < r
 i0:0<=i
 c0:0<=c
 x0:0<=x
 x1:x < 2147483647
def FlA.ne {S:aa}{r q:J4}{ns:JS Kk}{i c x n:Kk}(h:FlA S r q ns i c x n):q≠r:=Kj h.lt
abbrev Fl (S:aa)(r:J4):Prop:=∃(q:J4) (ns:JS Kk) (i c x n:Kk),FlA S r q ns i c x n
def FlA.put {S:aa}{r q:J4}{ns:JS Kk}{i c x n i' c' x' n':Kk}(h:FlA S r q ns i c x n)(h1:0<=i')(h2:0<=c')(h3:0<=x')(h4:x' < 2147483647):FlA (S.set r (.lst [.ref q,.int i',.int c',.int x',.int n'])) r q ns i' c' x' n':=
 #[ik h.at_r,by rw[eG (Ne.symm h.ne)]; exact h.at_q,h.lt,h1,h2,h3,h4]
def Fl.keep {S S':aa}{r:J4}(h:Fl S r)(h1:S'[r]?=S[r]?)(k:Kp r S S'):Fl S' r:=
 let ⟨q,ns,i,c,x,n,f⟩:=h; #[q,ns,i,c,x,n,by rw[h1]; exact f.at_r,k.get _ _ f.ne f.at_q,f.lt,f.i0,f.c0,f.x0,f.x1]
def Fl.lt {S:aa}{r:J4}(h:Fl S r):r < S.length:=let ⟨_,_,_,_,_,_,f⟩:=h; lm f.at_r
structure Ka (S S':aa):Prop where
 get:∀(j:J4) (o:O),S[j]?=bt o->S'[j]?=bt o
 len:S.length<=S'.length
def Ka.refl {S:aa}:Ka S S:=#[λ_ _ h=>h,J9 _]
def Ka.trans {S S' S'':aa}(a:Ka S S')(b:Ka S' S''):Ka S S'':=#[λj o h=>b.get j o (a.get j o h),Kx a.len b.len]
def Ka.push {S:aa}{o:O}:Ka S (S++[o]):=#[λj u h=>bg h,by simp]
def Ka.late {t:J4}{S0 S:aa}{o:O}(a:Ka S0 S)(h:S0.length<=t):Ka S0 (S.set t o):=
 #[λj u e=>by have:=lm e; rw[eG ∅]; exact a.get j u e,by simpa using a.len]
def Ka.kp {S S':aa}(a:Ka S S')(r:J4):Kp r S S':=#[λj o _ h=>a.get j o h,a.len]
def Fl.ka {S S':aa}{r:J4}(h:Fl S r)(k:Ka S S'):Fl S' r:=h.keep (by obtain⟨q,ns,i,c,x,n,f⟩:=h; rw[k.get _ _ f.at_r,f.at_r]) (k.kp r)
def Fl.own {S:aa}{r t:J4}{o:O}(h:Fl S r)(ht:r < t):Fl (S.set t o) r:=by
 obtain⟨q,ns,i,c,x,n,f⟩:=h;have:=f.lt;exact#[q,ns,i,c,x,n,by rw[eG ∅]; exact f.at_r,by rw[eG ∅]; exact f.at_q,f.lt,f.i0,f.c0,f.x0,f.x1]
def dJ {S:aa}{r:J4}{xs:JS W}{i:J4}{w:W}{Q:QW}(h:S[r]?=bt (.lst xs))(hw:xs[i]?=bt w)(q:Q (w,S)):wO (nJ (.ref r) (.int (i:Kk)) S) Q:=af (w9 h (MC i) (by rw[Lg]; exact hw)) q
def lr {S:aa}{r:J4}{xs:JS W}{i:J4}{w:W}{Q:aa->Prop}(h:S[r]?=bt (.lst xs))(hi:Th (i+1) xs.length=true)(q:Q (S.set r (.lst (xs.set i w)))):wO (l0 (.ref r) (.int (i:Kk)) w S) Q:=af (Gs h (MC i) (by rw[Lg]; exact Kf hi)) (by rw[Lg]; exact q)
section
variable{defs:JS (J3×Df)}{fuel d:J4}{S:aa}{r:J4}{Q:QW}
def aY (hd:Is defs ("_law_pick" : J3) 2 4 bE){m:Kk}(hf:Fl S r)(h0:0 < m)(h1:m < 1073741824)(k:∀v S',0<=v->v < m->Fl S' r->Kp r S S'->Q (.int v,S')) :
  wO (bu (ag defs fuel (d+1)) "_law_pick" 2 [.ref r,.int m] S) Q:=by
 obtain⟨q,ns,i,c,x,n,f⟩:=hf;show aH hd rfl rfl λQ' hR=>?_
 replace k:∀v S',0<=v->v < m->Fl S' r->Kp r S S'->Q' (.rt (.int v),S'):=λv S' a b c e=>hR _ _ (k v S' a b c e)
 clear hR;change wZ _ _ bE [bt (.ref r),bt (.int m),gV,gV] S Q';have au:∀(S1:aa) (w2:JX W) (i1 c1 x1 n1:Kk),FlA S1 r q ns i1 c1 x1 n1->Kp r S S1->wZ (ag defs fuel d) fuel (match bE with|.cons _ ss=>ss|.nil=>.nil) [bt (.ref r),bt (.int m),w2,gV] S1 Q':=by
  intro S1 w2 i1 c1 x1 n1 f1 k1;dsimp only[bE];show st ?_;dsimp only[wS,wT,wE,wV,wG];show dJ (i:=2) f1.at_r rfl ?_;dsimp only[w8,wO,wB];show aK (Q0:=Q') (λhg Q2 hn hr=>?_) (λhg Q2 hn hr=>?_)
  ·clear hn;show st ?_;dsimp only[wS,wE,wV,wG];show dJ (i:=2) f1.at_r rfl (af (oq h0) ?_);show st ?_;dsimp only[wS,wE,wV,wG,KH];show dJ (i:=2) f1.at_r rfl (af (wY h0 h1) (lr (i:=2) f1.at_r rfl ?_));show st ?_;dsimp only[wS,wE,wV,wG,KH];exact hr _ _ (k _ _ (N7 _ ∅) (NE _ h0) #[q,ns,i1,c1 / m,x1,n1,f1.put f1.i0 (Rg f1.c0 ∅) f1.x0 f1.x1] (k1.trans .set))
  ·show cV (hn _ _ ?_);clear hn hr;have f2:FlA (S1.set r (.lst [.ref q,.int i1,.int c1,.int x1,.int (n1+1)])) r q ns i1 c1 x1 (n1+1):=f1.put f1.i0 f1.c0 f1.x0 f1.x1;show st ?_;dsimp only[wS,wE,wV,wG];show dJ (i:=4) f1.at_r rfl ?_;dsimp only[cL,wO];show lr (i:=4) f1.at_r rfl ?_;show st ?_;dsimp only[wS,wE,wV,wG,KH];show dJ (i:=3) f2.at_r rfl (af (wW #v[] #v[]) ?_)
   dsimp only[cL,wO];show dJ (i:=4) f2.at_r rfl ?_;dsimp only[cL,wO];show(lr (i:=3) f2.at_r rfl ?_);have f3:FlA ((S1.set r (.lst [.ref q,.int i1,.int c1,.int x1,.int (n1+1)])).set r (.lst [.ref q,.int i1,.int c1,.int ((x1*48271+12820163+(n1+1)) % 2147483647),.int (n1+1)])) r q ns i1 c1 ((x1*48271+12820163+(n1+1)) % 2147483647) (n1+1):=f2.put f1.i0 f1.c0 (N7 _ #v[]) (NE _ #v[])
   dsimp only[KH];generalize(x1*48271+12820163+(n1+1)) % 2147483647=y at f3 ⊢;have b1:y / 65521+7919 < 2 ^ 64:=by
    have:=f3.x1;have:=Int.ediv_le_self 65521 f3.x0;omega
   have b2 : -(2 ^ 64) < y / 65521+7919:=by
    have:=Rg f3.x0 (show(0:Kk)<=65521 by decide)
    omega
   show st ?_;dsimp only[wS,wE,wV,wG,KH];show dJ (i:=3) f3.at_r rfl (af (oq #v[]) ?_)
   dsimp only[cL,wO];show dJ (i:=3) f3.at_r rfl ?_;dsimp only[cL,wO];show af (wW b2 b1) ?_;show af (oq h0) ?_;exact k _ _ (N7 _ ∅) (NE _ h0) #[q,ns,_,_,_,_,f3] (k1.trans (Kp.set.trans .set))
 dsimp only[bE]at au ⊢;show st ?_;dsimp only[wS,wT,wE,wV,wG,wA];show dJ (i:=2) f.at_r rfl ?_;dsimp only[pX,wO,wB];have skip:∀Q2:QO,(∀Z' S',wZ (ag defs fuel d) fuel _ Z' S' Q'->Q2 (.nx Z',S'))->Q2 (.nx [bt (.ref r),bt (.int m),gV,gV],S):=λQ2 hn=>hn _ _ (au S gV i c x n f .refl)
 show#[λ_=>?_,λ_ Q2 hn hr=>#[λz=>(by cases z),λ_=>(cV (skip Q2 hn)).out]]
 show dJ (i:=1) f.at_r rfl (dJ (i:=0) f.at_r rfl (af (xg f.at_q) ?_));dsimp only[ou,wO,wB];show aK (Q0:=Q') (λhl Q2 hn _=>?_) (λhg Q2 hn hr=>cV (skip Q2 hn))
 clear skip;have hl':i.toNat < ns.length:=by
  have:=La hl;rw[J6]at this;have:=f.i0;omega
 have hcell:(ns.map W.int)[i.toNat]?=bt (.int ns[i.toNat]):=by simp[hl']
 generalize ns[i.toNat]=cell at hcell;have f1:FlA (S.set r (.lst [.ref q,.int (i+1),.int c,.int x,.int n])) r q ns (i+1) c x n:=f.put (by have:=f.i0; omega) f.c0 f.x0 f.x1
 show st ?_;dsimp only[wS,wE,wV,wG];show dJ (i:=0) f.at_r rfl (dJ (i:=1) f.at_r rfl (af (w9 f.at_q f.i0 hcell) ?_));show st ?_;dsimp only[wS,wE,wV,wG,KH];show dJ (i:=1) f.at_r rfl ?_;dsimp only[cL,wO];show lr (i:=1) f.at_r rfl ?_;show st ?_;dsimp only[wS,wT,wE,wV,wG,DE,IK,wO,wB];show aK (Q0:=Q') (λhg Q3 hn3 _=>?_) (λhg Q3 hn3 _=>?_)
 ·show st ?_;dsimp only[wS,wE,wV,wG];show lr (i:=2) f1.at_r rfl (cV (hn3 _ _ (cV (hn _ _ ?_))));exact au _ _ (i+1) cell x n (f1.put f1.i0 (by have:=La hg; omega) f.x0 f.x1) (Kp.set.trans .set)
 ·show st ?_;dsimp only[wS,wE,wV,wG];show dJ (i:=3) f1.at_r rfl (af (wW #v[] #v[]) (af (oq #v[]) ?_))
  dsimp only[cL,wO];show lr (i:=3) f1.at_r rfl (cV (hn3 _ _ (cV (hn _ _ ?_))));exact au _ _ (i+1) c _ n (f1.put f1.i0 f.c0 (N7 _ #v[]) (NE _ #v[])) (Kp.set.trans .set)
end
abbrev dr:J4->Ss->Ss
 | 0,ss=>ss
 | n+1,.cons _ ss=>dr n ss
 | _,.nil=>.nil
def cj {α:Type}{a:α}{Q:α->Prop}:wO (bt a) Q=Q a:=rfl
def bG {M:J3->FF}{fuel:J4}{Z:Fm}{S:aa}{Q:QO}{s:Sm}{ss:Ss}(h:∀K:Fm->aa->Prop,(∀Z' S',wZ M fuel ss Z' S' Q->K Z' S')->wS M fuel s Z S K Q):wZ M fuel (.cons s ss) Z S Q:=st (h _ λ_ _ h=>h)
def jV {M:J3->FF}{fuel:J4}{Z:Fm}{S:aa}{i:J4}{e:E}{K:Fm->aa->Prop}{Q:QO}(h:wE M e Z S λp=>K (Z.set i (bt p.1)) p.2):wS M fuel (.set i e) Z S K Q:=h
def cz {n:J4}(h:Th n 1000=true):n<=sizeLine:=Kx (Kf h) (by rw[Lf]; decide)
def few {n:J4}(h:n<=1000):n<=sizeLine:=Kx h (by rw[Lf]; decide)
def gO {S:aa}{r:J4}{xs:JS W}{i:Kk}{w:W}{Q:QW}(h:S[r]?=bt (.lst xs))(h0:0<=i)(hw:xs[i.toNat]?=bt w)(q:Q (w,S)):wO (nJ (.ref r) (.int i) S) Q:=af (w9 h h0 hw) q
def dR {S:aa}{xs:JS W}{i:Kk}{w:W}{Q:QW}(h0:0<=i)(hw:xs[i.toNat]?=bt w)(q:Q (w,S)):wO (nJ (.tup xs) (.int i) S) Q:=af (dj h0 hw) q
def rY {S:aa}{r:J4}{xs:JS W}{y:W}{Q:QW}(h:S[r]?=bt (.lst xs))(hl:xs.length < 1000)(q:Q (.non,S.set r (.lst (xs++[y])))):wO (Me.append.fn (.ref r) [y] S) Q:=af (Gu h (Km hl (cz rfl))) q
def BL {S:aa}{r:J4}{xs:JS W}{Q:QW}(h:S[r]?=bt (.lst xs))(q:Q (.int xs.length,S)):wO (Bi.len.fn [.ref r] S) Q:=af (xg h) q
def fX {S:aa}{xs:JS W}{Q:QW}(q:Q (.int xs.length,S)):wO (Bi.len.fn [.tup xs] S) Q:=q
def xC {S:aa}{r:J4}{xs:JS W}{Q:QW}(h:S[r]?=bt (.lst xs))(q:Q (.tup xs,S)):wO (Bi.tuple.fn [.ref r] S) Q:=af (xh h) q
section
variable{M:J3->FF}{fuel:J4}{Z:Fm}{S S1:aa}{K:Fm->aa->Prop}
def bf {t:E}{a:Ss}{Q:QO}(ht:∀Q:QB,Q (false,S1)->wT M t Z S Q)(h:K Z S1):wS M fuel (.ite t a .nil) Z S K Q:=by
 dsimp only[wS];exact ht _ λQ' h1 h2=>#[λz=>(by cases z),λ_=>(cV (h1 _ _ h)).out]
def eM {t:E}{a b:Ss}{Q:QO}(ht:∀Q:QB,Q (true,S1)->wT M t Z S Q)(h:∀Q':QO,(∀Z' S',K Z' S'->Q' (.nx Z',S'))->(∀w S',Q (.rt w,S')->Q' (.rt w,S'))->wZ M fuel a Z S1 Q'):wS M fuel (.ite t a b) Z S K Q:=by
 dsimp only[wS];exact ht _ λQ' h1 h2=>#[λ_=>(h Q' h1 λw S' q=>h2 (.rt w) S' (λ_ z=>nomatch z) q).out,λz=>(by cases z)]
end
def D7:∀k:Fin 26,("abcdefghijklmnopqrstuvwxyz" : J3).cps.toList[k.val]?=bt (97+k.val):=by decide
def Az:("abcdefghijklmnopqrstuvwxyz" : J3).length<=sizeLine:=by decide
def jW:∀cs:JS J4,gY (cs.map λc=>W.str #[[c].toArray])=bt (cs.map λc=>(#[[c].toArray] : J3))
 | []=>rfl
 | c::cs=>by simp[gY,jW cs]
def lu:∀cs:JS J4,((cs.map λc=>(#[[c].toArray] : J3)).map (·.length)).sum=cs.length
 | []=>rfl
 | c::cs=>by
  have:=lu cs;simp only[K6,List.sum_cons,KJ];rw[this];change 1+cs.length=_;omega
def jX (a b:J3):(a++b).cps.toList=a.cps.toList++b.cps.toList:=Array.toList_append
def jY:∀cs:JS J4,(Tx "" (cs.map λc=>(#[[c].toArray] : J3))).cps.toList=cs
 | []=>rfl
 | [c]=>rfl
 | c::d::cs=>by
  have ih:=jY (d::cs);show(((#[[c].toArray] : J3)++("" : J3)++Tx "" ((d::cs).map λc=>(#[[c].toArray] : J3))).cps).toList=_
  rw[jX,jX,ih];rfl
def oH (cs:JS J4):(SC "" (cs.map λc=>(#[[c].toArray] : J3))).cps.toList=cs:=by
 show(Ti "" _).cps.toList=_;rw[StrLaws.glued_eq_join];exact jY cs
abbrev BM (y:J3):Prop:=∀c∈y.cps.toList,97<=c/\c<=122
abbrev Name (y:J3):Prop:=1<=y.cps.toList.length/\y.cps.toList.length<=8/\BM y
def rZ (y:J3):y.length=y.cps.toList.length:=by simp[SO]
def mz {α:Type}{f:α->W}{xs:JS α}{i:J4}(h:i < xs.length):∃x∈xs,(xs.map f)[i]?=bt (f x):=#[xs[i],Nu _,by rw[KA,Kt h]; rfl]
section
variable{defs:JS (J3×Df)}{fuel d:J4}{S:aa}{r:J4}{Q:QW}
def uj (G:Gen defs){m:Kk}(hf:Fl S r)(h0:0<=m)(h1:m<=1000)(k:∀y S',y.cps.toList.length=m.toNat->BM y->Fl S' r->Kp r S S'->Q (.str y,S')) :
  wO (bu (ag defs fuel (d+2)) "_law_letters" 2 [.ref r,.int m] S) Q:=by
 show aH G.letters rfl rfl λQ' hR=>?_
 change wZ _ _ bY [bt (.ref r),bt (.int m)] S Q';dsimp only[bY];show st ?_;dsimp only[wS,wE,wA];show#[rfl,rW m (λi ys Z S'=>(∃a,Z=[gV,a,bt (.ref r)])/\Fl S' r/\Kp r S S'/\∃cs:JS J4,ys=cs.map (λc=>W.str #[[c].toArray])/\cs.length=i/\∀c∈cs,97<=c/\c<=122) rfl rfl rfl #[∅,∅] #[rfl,#[gV,rfl],hf,.refl,[],rfl,rfl,λ_ h=>nomatch h] ?_ ?_]
 ·rintro i ys Z S1 hi ⟨⟨a,rfl⟩,f1,k1,cs,rfl,hl,hc⟩;dsimp only[rV,wC,wE,wA,wV,wG,KH];show#[λ_=>aY (d:=d) G.pick f1 #v[] #v[] λv S2 h2 h3 f2 k2=>?_,λz=>by cases z]
  have ha:=D7 #[v.toNat,∅]
  show af (BE Az h2 ha) #[#[_,rfl],f2,k1.trans k2,cs++[97+v.toNat],by simp,by simp[hl],λc hx=>?_]
  rcases KU.mp hx with h|h
  ·exact hc c h
  ·rw[Ky.mp h]; omega
 ·rintro ys Z S1 ⟨_,f1,k1,cs,rfl,hl,hc⟩;show#[by rw[J6,hl,Lf]; omega,?_]
  have hz:((cs.map λc=>(#[[c].toArray] : J3)).map (·.length)).sum+(cs.map λc=>(#[[c].toArray] : J3)).length*("" : J3).length<=16777216:=by
   rw[lu,show("" : J3).length=0 from rfl,Nat.mul_zero]
   omega
  show af (a:=(.str (SC "" (cs.map λc=>(#[[c].toArray] : J3))),S1++[.lst (cs.map λc=>W.str #[[c].toArray])])) ?_ (hR _ _ (k _ _ (by rw[oH,hl]) (λc h=>hc c (by rw[oH]at h; exact h)) (f1.ka .push) (k1.trans .push)))
  simp only[Me.fn,qX,eh,aF al,jW];rw[Ks hz]
end
def xD {α:Type}[Nk α]:∀(l m:JS α),l.Nodup->(∀x∈l,x∈m)->l.length<=m.length
 | [],_,_,_=>Mt _
 | x::l,m,hn,hs=>by
  rw[NB]at hn;have hx:x∈m:=hs x (.head _);have h1:=xD l (m.erase x) hn.2 λy hy=>(List.mem_erase_of_ne (λ(e:y=x)=>hn.1 (by rw[<- e]; exact hy))).mpr (hs y (.tail _ hy))
  rw[List.length_erase_of_mem hx]at h1;have:=List.length_pos_of_mem hx;rw[KJ]; omega
abbrev bV:JS J3:=["marks","ways","bar","some","each","not","and","or","is"]
def oJ (zs:JS J3):(zs.map W.str).all c9=true:=by
 rw[LS];intro x hx;obtain⟨z,_,rfl⟩:=MQ.mp hx;rfl
def r6 (zs:JS J3)(y:J3):((zs.map W.str).any λz=>CJ z (.str y))=decide (y∈zs):=by
 induction zs with
 | nil=>rfl
 | cons z zs ih=>
  rw[K6,LB,ih];show((z==y)||_)=_
  by_cases h:z=y
  ·subst h; simp
  ·have:(z==y)=false:=by simpa using h
   rw[this,NY];have h2:(y∈z::zs)=(y∈zs):=by simp[Ne.symm h]
   simp only[h2]
def lv {S:aa}{t:J4}{zs:JS J3}{y:J3}(h:S[t]?=bt (.lst (zs.map W.str))):dW .isin (.str y) (.ref t) S=bt (.bl (decide (y∈zs)),S):=by
 (dsimp only[dW,zz,db,yo,CM,eh]; simp only[rP h,aF h])
 rw[Ks (by rw[oJ]; rfl),r6]
 rfl
def D8 {S:aa}{k:J4}:gS .mul (.str #[[k].toArray]) (.int 1) S=bt (.str #[[k].toArray],S):=by
 dsimp only[gS,y8];rw[Ks #[#v[],#v[],by change 1*1<=sizeLine; rw[Lf]; decide]]
 rfl
def xE {xs:JS W}{k:J4}:jp xs gV (bt (k:Kk))=xs.take k:=by
 unfold jp;rw[HT.mU,HT.qJ,List.drop_zero,Nat.sub_zero]
 by_cases h:k<=xs.length
 ·rw[Rh h]
 ·rw[QU ∅,LD (J9 _),LD ∅]
def xH {xs:JS W}{k:J4}:jp xs (bt (k:Kk)) gV=xs.drop k:=by
 unfold jp;rw[HT.mU,HT.qJ]
 by_cases h:k<=xs.length
 ·rw[Rh h,LD (by rw[OL]; exact J9 _)]
 ·rw[QU ∅,Nc (J9 _),Nc ∅]; exact List.take_nil
abbrev il:JS (J3×W):=[("same",(.str "xx")),("mark",(.str "xm")),("way",(.str "xxw")),("not",(.str "i")),("and",(.str "ii")),("or",(.str "ii")),("some",(.str "xi")),("each",(.str "xi"))]
abbrev dL:Ss:=
 #v[.ret (.and (.isi "int" (.v 0)) (.not (.isi "bool" (.v 0))))]
abbrev e6:Ss:=
 #v[.ite (.or (.cmp .isin (.v 0) (.c (.tup [(.str "marks"),(.str "ways"),(.str "bar"),(.str "some"),(.str "each"),(.str "not"),(.str "and"),(.str "or"),(.str "is")]))) (.not (.chn .le .le (.c (.int 1)) (.bi .len #v[.v 0]) (.c (.int 8))))) #v[.ret (.c (.bl false))] .nil,.ret (.bi .all #v[.comp (.cmp .isin (.v 1) (.c (.str "abcdefghijklmnopqrstuvwxyz"))) (.nm 1) (.seq (.v 0)) .nil [gV,gV]])]
abbrev gP:Ss:=
 #v[.ite (.or (.not (.isi "tuple" (.v 1))) (.not (.v 1))) #v[.ret (.c (.bl false))] .nil,.ite (.or (.not (.isi "str" (.ix (.v 1) (.c (.int 0))))) (.gni il (.ix (.v 1) (.c (.int 0))))) #v[.ret (.c (.bl false))] .nil,.set 3 (.gix il (.ix (.v 1) (.c (.int 0)))),.ite (.cmp .ne (.bi .len #v[.v 1]) (.op .add (.bi .len #v[.v 3]) (.c (.int 1)))) #v[.ret (.c (.bl false))] .nil,.set 4 (.disp #v[.c (.str "m"),.bi .len #v[.ix (.v 0) (.c (.int 0))],.c (.str "w"),.bi .len #v[.ix (.v 0) (.c (.int 1))],.c (.str "i"),.v 2]),.ret (.bi .all #v[.comp (.own "is_field" 3 #v[.v 1,.v 2,.v 3]) (.tp [1,2]) (.zip #v[.sl (.v 1) (.yes (.c (.int 1))) .no,.v 3]) .nil [gV,gV,gV,bt 4]])]
abbrev dM:Ss:=
 #v[.ite (.cmp .eq (.v 1) (.c (.str "x"))) #v[.ret (.own "is_point_name" 1 #v[.v 0])] .nil,.ret (.and (.own "is_whole" 1 #v[.v 0]) (.chn .le .lt (.c (.int 0)) (.v 0) (.ix (.v 2) (.v 1))))]
abbrev bB:Ss:=
 #v[.ret (.and (.isi "str" (.v 0)) (.and (.cmp .le (.bi .len #v[.v 0]) (.c (.int 3))) (.own "is_name" 1 #v[.v 0])))]
abbrev dN:Ss:=
 #v[.ite (.cmp .isin (.ix (.v 0) (.c (.int 0))) (.c (.tup [(.str "same"),(.str "mark"),(.str "way")]))) #v[.set 2 (.comp (.v 1) (.tp [1,2]) (.zip #v[.sl (.v 0) (.yes (.c (.int 1))) .no,.gix il (.ix (.v 0) (.c (.int 0)))]) #v[.cmp .eq (.v 2) (.c (.str "x"))] [gV,gV,gV])] #v[.set 2 (.lst .nil),.loop (.nm 3) (.seq (.own "part_rows" 1 #v[.v 0])) #v[.ex (.me .extend (.v 2) #v[.ix (.v 1) (.v 3)])]],.ite (.cmp .isin (.ix (.v 0) (.c (.int 0))) (.c (.tup [(.str "some"),(.str "each")]))) #v[.set 2 (.comp (.v 1) (.nm 1) (.seq (.v 2)) #v[.cmp .ne (.v 1) (.ix (.v 2) (.c (.int 1)))] [gV,gV,bt 0])] .nil,.ret (.bi .sorted #v[.bi .set #v[.v 2]])]
abbrev cM:Ss:=
 #v[.ret (.comp (.v 1) (.tp [1,2]) (.zip #v[.sl (.v 0) (.yes (.c (.int 1))) .no,.gix il (.ix (.v 0) (.c (.int 0)))]) #v[.cmp .eq (.v 2) (.c (.str "i"))] [gV,gV,gV])]
abbrev bM:Ss:=
 #v[.set 2 (.c (.int 0)),.whl (.or (.cmp .isin (.v 0) (.v 1)) (.cmp .isin (.v 0) (.tup #v[.c (.str "marks"),.c (.str "ways"),.c (.str "bar"),.c (.str "some"),.c (.str "each"),.c (.str "not"),.c (.str "and"),.c (.str "or"),.c (.str "is")]))) #v[.set 0 (.op .mul (.ix (.c (.str "qxyzabcdefghijklmnoprstuvw")) (.op .mod (.v 2) (.c (.int 26)))) (.op .add (.c (.int 1)) (.op .fdiv (.v 2) (.c (.int 26))))),.set 2 (.op .add (.v 2) (.c (.int 1)))],.ret (.v 0)]
abbrev cN:Ss:=
 #v[.asg [1,2] (.ix (.lst #v[.tup #v[.c (.int 1),.c (.int 1)],.tup #v[.c (.int 1),.c (.int 2)],.tup #v[.c (.int 1),.c (.int 3)],.tup #v[.c (.int 2),.c (.int 1)],.tup #v[.c (.int 2),.c (.int 2)],.tup #v[.c (.int 2),.c (.int 3)],.tup #v[.c (.int 3),.c (.int 1)],.tup #v[.c (.int 3),.c (.int 2)]]) (.own "_law_pick" 2 #v[.v 0,.c (.int 8)])),.set 3 (.lst #v[.c (.str "mark"),.c (.str "way"),.c (.str "bars"),.c (.str "somes"),.c (.str "eachx"),.c (.str "no"),.c (.str "an"),.c (.str "o"),.c (.str "isa"),.c (.str "x"),.c (.str "y"),.c (.str "waysx"),.c (.str "nott"),.c (.str "andor")]),.set 4 (.lst .nil),.loop (.nm 5) (.rng #v[.op .add (.v 1) (.v 2)]) #v[.set 6 (.own "_law_letters" 2 #v[.v 0,.op .add (.c (.int 1)) (.own "_law_pick" 2 #v[.v 0,.c (.int 8)])]),.ite (.cmp .eq (.own "_law_pick" 2 #v[.v 0,.c (.int 4)]) (.c (.int 0))) #v[.set 6 (.ix (.v 3) (.own "_law_pick" 2 #v[.v 0,.c (.int 14)]))] .nil,.ex (.me .append (.v 4) #v[.own "_law_unlike" 2 #v[.v 6,.v 4]])],.set 7 (.ix (.lst #v[.lst #v[.lst #v[.c (.int 0)]],.lst #v[.lst #v[.c (.int 0),.c (.int 1)],.lst #v[.c (.int 1),.c (.int 0)]],.lst #v[.lst #v[.c (.int 0),.c (.int 1),.c (.int 2)],.lst #v[.c (.int 1),.c (.int 0),.c (.int 2)],.lst #v[.c (.int 0),.c (.int 2),.c (.int 1)]]]) (.op .sub (.v 2) (.c (.int 1)))),.set 7 (.ix (.v 7) (.own "_law_pick" 2 #v[.v 0,.bi .len #v[.v 7]])),.ret (.tup #v[.bi .tuple #v[.sl (.v 4) .no (.yes (.v 1))],.bi .tuple #v[.comp (.tup #v[.ix (.v 4) (.op .add (.v 3) (.v 1)),.ix (.v 2) (.v 1)]) (.nm 1) (.rng #v[.v 2]) .nil [gV,gV,bt 7,bt 1,bt 4]],.tup .nil])]
abbrev gQ:Ss:=
 #v[.set 4 (.comp (.v 1) (.nm 1) (.seq (.op .add (.bi .list #v[.ix (.v 1) (.c (.int 0))]) (.comp (.ix (.v 1) (.c (.int 0))) (.nm 1) (.seq (.ix (.v 1) (.c (.int 1)))) .nil [gV,gV]))) #v[.cmp .lt (.bi .len #v[.v 1]) (.c (.int 4))] [gV,gV]),.set 5 (.lst .nil),.loop (.nm 6) (.rng #v[.v 2]) #v[.set 3 (.own "_law_letters" 2 #v[.v 0,.op .add (.c (.int 1)) (.own "_law_pick" 2 #v[.v 0,.c (.int 3)])]),.ite (.cmp .eq (.own "_law_pick" 2 #v[.v 0,.c (.int 4)]) (.c (.int 0))) #v[.set 3 (.ix (.op .add (.lst #v[.c (.str "no"),.c (.str "an"),.c (.str "so"),.c (.str "ors"),.c (.str "iss"),.c (.str "nt"),.c (.str "b"),.c (.str "ea")]) (.v 4)) (.own "_law_pick" 2 #v[.v 0,.op .add (.c (.int 8)) (.bi .len #v[.v 4])]))] .nil,.ex (.me .append (.v 5) #v[.own "_law_unlike" 2 #v[.v 3,.v 5]])],.ret (.v 5)]
abbrev dO:Ss:=
 #v[.ite (.cmp .eq (.ix (.v 0) (.c (.int 0))) (.c (.str "mark"))) #v[.ret (.lst #v[.ix (.v 0) (.c (.int 1))])] .nil,.ite (.or (.cmp .eq (.ix (.v 0) (.c (.int 0))) (.c (.str "same"))) (.cmp .eq (.ix (.v 0) (.c (.int 0))) (.c (.str "way")))) #v[.ret (.bi .sorted #v[.bi .set #v[.lst #v[.ix (.v 0) (.c (.int 1)),.ix (.v 0) (.c (.int 2))]]])] .nil,.ite (.cmp .eq (.ix (.v 0) (.c (.int 0))) (.c (.str "not"))) #v[.ret (.bi .list #v[.ix (.v 1) (.ix (.v 0) (.c (.int 1)))])] .nil,.ite (.or (.cmp .eq (.ix (.v 0) (.c (.int 0))) (.c (.str "and"))) (.cmp .eq (.ix (.v 0) (.c (.int 0))) (.c (.str "or")))) #v[.ret (.bi .sorted #v[.bi .set #v[.op .add (.ix (.v 1) (.ix (.v 0) (.c (.int 1)))) (.ix (.v 1) (.ix (.v 0) (.c (.int 2))))]])] .nil,.ret (.comp (.v 1) (.nm 1) (.seq (.ix (.v 1) (.ix (.v 0) (.c (.int 2))))) #v[.cmp .ne (.v 1) (.ix (.v 2) (.c (.int 1)))] [gV,gV,bt 0])]
abbrev bN:Ss:=
 #v[.ite (.or (.not (.isi "str" (.v 0))) (.or (.not (.chn .le .le (.c (.int 1)) (.bi .len #v[.v 0]) (.c (.int 3)))) (.cmp .isin (.v 0) (.lst #v[.c (.str "bar"),.c (.str "not"),.c (.str "and"),.c (.str "or"),.c (.str "is")])))) #v[.ret (.c (.bl false))] .nil,.ret (.bi .all #v[.comp (.cmp .isin (.v 1) (.c (.str "abcdefghijklmnopqrstuvwxyz"))) (.nm 1) (.seq (.v 0)) .nil [gV,gV]])]
abbrev bO:Ss:=
 #v[.ret (.and (.isi "int" (.v 0)) (.and (.not (.isi "bool" (.v 0))) (.chn .le .lt (.c (.int 0)) (.v 0) (.v 1))))]
abbrev bP:Ss:=
 #v[.ite (.or (.not (.isi "tuple" (.v 1))) (.or (.cmp .lt (.bi .len #v[.v 1]) (.c (.int 2))) (.not (.isi "str" (.ix (.v 1) (.c (.int 0))))))) #v[.ret (.c (.bl false))] .nil,.set 3 (.ix (.v 1) (.c (.int 0))),.ite (.and (.cmp .isin (.v 3) (.lst #v[.c (.str "same"),.c (.str "mark"),.c (.str "way"),.c (.str "some"),.c (.str "each")])) (.not (.own "_law_is_short" 1 #v[.ix (.v 1) (.c (.int 1))]))) #v[.ret (.c (.bl false))] .nil,.ite (.cmp .eq (.v 3) (.c (.str "same"))) #v[.ret (.and (.cmp .eq (.bi .len #v[.v 1]) (.c (.int 3))) (.own "_law_is_short" 1 #v[.ix (.v 1) (.c (.int 2))]))] .nil,.ite (.cmp .eq (.v 3) (.c (.str "mark"))) #v[.ret (.and (.cmp .eq (.bi .len #v[.v 1]) (.c (.int 3))) (.own "_law_is_below" 2 #v[.ix (.v 1) (.c (.int 2)),.bi .len #v[.ix (.v 0) (.c (.int 0))]]))] .nil,.ite (.cmp .eq (.v 3) (.c (.str "way"))) #v[.ret (.and (.cmp .eq (.bi .len #v[.v 1]) (.c (.int 4))) (.and (.own "_law_is_short" 1 #v[.ix (.v 1) (.c (.int 2))]) (.own "_law_is_below" 2 #v[.ix (.v 1) (.c (.int 3)),.bi .len #v[.ix (.v 0) (.c (.int 1))]])))] .nil,.ite (.cmp .eq (.v 3) (.c (.str "not"))) #v[.ret (.and (.cmp .eq (.bi .len #v[.v 1]) (.c (.int 2))) (.own "_law_is_below" 2 #v[.ix (.v 1) (.c (.int 1)),.v 2]))] .nil,.ite (.or (.cmp .eq (.v 3) (.c (.str "and"))) (.cmp .eq (.v 3) (.c (.str "or")))) #v[.ret (.and (.cmp .eq (.bi .len #v[.v 1]) (.c (.int 3))) (.and (.own "_law_is_below" 2 #v[.ix (.v 1) (.c (.int 1)),.v 2]) (.own "_law_is_below" 2 #v[.ix (.v 1) (.c (.int 2)),.v 2])))] .nil,.ret (.and (.cmp .isin (.v 3) (.lst #v[.c (.str "some"),.c (.str "each")])) (.and (.cmp .eq (.bi .len #v[.v 1]) (.c (.int 3))) (.own "_law_is_below" 2 #v[.ix (.v 1) (.c (.int 2)),.v 2])))]
abbrev bC:Ss:=
 #v[.ite (.or (.not (.isi "tuple" (.v 1))) (.cmp .eq (.bi .len #v[.v 1]) (.c (.int 0)))) #v[.ret (.c (.int 0))] .nil,.set 2 (.lst .nil),.loop (.nm 3) (.rng #v[.bi .len #v[.v 1]]) #v[.ite (.not (.own "_law_row_fits" 3 #v[.v 0,.ix (.v 1) (.v 3),.v 3])) #v[.ret (.v 3)] .nil,.ex (.me .append (.v 2) #v[.own "_law_free" 2 #v[.ix (.v 1) (.v 3),.v 2]]),.ite (.cmp .gt (.bi .len #v[.ix (.v 2) (.v 3)]) (.c (.int 3))) #v[.ret (.v 3)] .nil],.ret (.c .non)]
abbrev bh:Ss:=
 #v[.set 2 (.own "_law_pick" 2 #v[.v 0,.c (.int 10)]),.ite (.and (.cmp .lt (.v 2) (.c (.int 3))) (.cmp .gt (.v 1) (.c (.int 0)))) #v[.set 3 (.comp (.own "_law_thing" 2 #v[.v 3,.op .sub (.v 2) (.c (.int 1))]) (.nm 1) (.rng #v[.own "_law_pick" 2 #v[.v 0,.c (.int 6)]]) .nil [gV,gV,bt 1,bt 0]),.ite (.cmp .eq (.v 2) (.c (.int 0))) #v[.ret (.v 3)] .nil,.ret (.bi .tuple #v[.v 3])] .nil,.ite (.cmp .lt (.v 2) (.c (.int 6))) #v[.ret (.ix (.lst #v[.c (.str "x"),.c (.str "y"),.c (.str "ab"),.c (.str "abc"),.c (.str ""),.c (.str "is"),.c (.str "same"),.c (.str "abcd"),.c (.str "X"),.c (.str "1")]) (.own "_law_pick" 2 #v[.v 0,.c (.int 10)]))] .nil,.ite (.cmp .lt (.v 2) (.c (.int 9))) #v[.ret (.ix (.lst #v[.c (.int 0),.c (.int 1),.c (.int 2),.c (.int 3),.neg (.c (.int 1)),.op .pow (.c (.int 10)) (.c (.int 18))]) (.own "_law_pick" 2 #v[.v 0,.c (.int 6)]))] .nil,.ret (.ix (.lst #v[.c .non,.c (.bl true),.c (.bl false)]) (.own "_law_pick" 2 #v[.v 0,.c (.int 3)]))]
abbrev bQ:Ss:=
 #v[.set 2 (.ix (.lst #v[.c (.str "same"),.c (.str "mark"),.c (.str "way"),.c (.str "not"),.c (.str "and"),.c (.str "or"),.c (.str "some"),.c (.str "each"),.c (.str "is"),.c (.str ""),.c (.str "nots")]) (.own "_law_pick" 2 #v[.v 0,.c (.int 11)])),.set 3 (.lst .nil),.loop (.nm 4) (.rng #v[.ix (.lst #v[.c (.int 2),.c (.int 2),.c (.int 2),.c (.int 3),.c (.int 1),.c (.int 2),.own "_law_pick" 2 #v[.v 0,.c (.int 5)]]) (.own "_law_pick" 2 #v[.v 0,.c (.int 7)])]) #v[.set 5 (.own "_law_pick" 2 #v[.v 0,.c (.int 12)]),.ite (.cmp .lt (.v 5) (.c (.int 5))) #v[.ex (.me .append (.v 3) #v[.ix (.lst #v[.c (.str "x"),.c (.str "y"),.c (.str "z"),.c (.str "ab"),.c (.str "abc"),.c (.str "u")]) (.own "_law_pick" 2 #v[.v 0,.c (.int 6)])])] #v[.ite (.cmp .lt (.v 5) (.c (.int 11))) #v[.ex (.me .append (.v 3) #v[.own "_law_pick" 2 #v[.v 0,.op .add (.c (.int 1)) (.v 1)]])] #v[.ex (.me .append (.v 3) #v[.own "_law_thing" 2 #v[.v 0,.c (.int 1)]])]]],.ite (.cmp .eq (.own "_law_pick" 2 #v[.v 0,.c (.int 24)]) (.c (.int 0))) #v[.ret (.op .add (.lst #v[.v 2]) (.v 3))] .nil,.ret (.op .add (.tup #v[.v 2]) (.bi .tuple #v[.v 3]))]
abbrev aU:Ss:=
 #v[.ite (.cmp .eq (.own "_law_pick" 2 #v[.v 0,.c (.int 4)]) (.c (.int 0))) #v[.ret (.own "_law_thing" 2 #v[.v 0,.c (.int 3)])] .nil,.set 1 (.lst #v[.ix (.lst #v[.tup #v[.c (.str "same"),.c (.str "x"),.c (.str "y")],.tup #v[.c (.str "mark"),.c (.str "z"),.c (.int 0)],.tup #v[.c (.str "way"),.c (.str "x"),.c (.str "u"),.c (.int 0)]]) (.own "_law_pick" 2 #v[.v 0,.c (.int 3)])]),.loop (.nm 2) (.rng2 #v[.c (.int 1),.op .add (.c (.int 1)) (.own "_law_pick" 2 #v[.v 0,.c (.int 5)])]) #v[.ex (.me .append (.v 1) #v[.own "_law_near_row" 2 #v[.v 0,.v 2]])],.ite (.cmp .eq (.own "_law_pick" 2 #v[.v 0,.c (.int 16)]) (.c (.int 0))) #v[.ret (.v 1)] .nil,.ret (.bi .tuple #v[.v 1])]
abbrev b6:Ss:=
 #v[.set 2 (.own "_law_first_bad" 2 #v[.v 0,.v 1]),.set 3 (.own "_law_answer" 2 #v[.v 0,.v 1]),.ite (.cmp .is (.v 2) (.c .non)) #v[.ret (.cmp .is (.v 3) (.c (.bl true)))] .nil,.ret (.and (.isi "tuple" (.v 3)) (.and (.own "_law_is_below" 2 #v[.ix (.v 3) (.c (.int 0)),.op .add (.v 2) (.c (.int 1))]) (.cmp .eq (.v 3) (.tup #v[.v 2,.c (.bl true)]))))]
abbrev iU:Ss:=
 #v[.set 1 (.own "_law_flow" 1 #v[.v 0]),.set 2 (.own "_law_rule" 1 #v[.v 1]),.set 3 (.own "_law_near_sentence" 1 #v[.v 1]),.set 4 (.own "_law_near_sentence" 1 #v[.v 1]),.ret (.bi .all #v[.comp (.own "_law_right" 2 #v[.v 2,.v 1]) (.nm 1) (.seq (.lst #v[.v 3,.v 4,.v 3,.tup .nil,.v 3])) .nil [gV,gV,bt 2]])]
structure Sn (defs:JS (J3×Df)):Prop where
 gen:Gen defs
 whole:Is defs ("is_whole" : J3) 1 1 dL
 name:Is defs ("is_name" : J3) 1 1 e6
 row:Is defs ("is_row" : J3) 3 5 gP
 field:Is defs ("is_field" : J3) 3 3 dM
 point_name:Is defs ("is_point_name" : J3) 1 1 bB
 names_of:Is defs ("names_of" : J3) 2 4 dN
 part_rows:Is defs ("part_rows" : J3) 1 1 cM
 l_unlike:Is defs ("_law_unlike" : J3) 2 3 bM
 l_rule:Is defs ("_law_rule" : J3) 1 8 cN
 l_free:Is defs ("_law_free" : J3) 2 2 dO
 l_short:Is defs ("_law_is_short" : J3) 1 1 bN
 l_below:Is defs ("_law_is_below" : J3) 2 2 bO
 l_row_fits:Is defs ("_law_row_fits" : J3) 3 4 bP
 l_first_bad:Is defs ("_law_first_bad" : J3) 2 4 bC
 l_thing:Is defs ("_law_thing" : J3) 2 4 bh
 l_near_row:Is defs ("_law_near_row" : J3) 2 6 bQ
 l_near_sentence:Is defs ("_law_near_sentence" : J3) 1 3 aU
abbrev EI:J3:="qxyzabcdefghijklmnoprstuvw"
def AA:EI.cps.toList.length=26:=rfl
def D9:EI.cps.toList.Nodup:=by decide
abbrev eN:JS J3:=EI.cps.toList.map λc=>#[[c].toArray]
def xI:eN.Nodup:=by
 unfold eN List.Nodup;rw[List.pairwise_map];exact D9.imp λh e=>h (by injection e with e; injection e with e; injection e)
def uk:eN.length=26:=rfl
def jZ {S:aa}{zs:JS J3}{y:J3}:dW .isin (.str y) (.tup (zs.map W.str)) S=bt (.bl (decide (y∈zs)),S):=by
 show(CM (.str y) (.tup (zs.map W.str)) S).map (λk=>(W.bl k,S))=_
 simp only[CM,eh];rw[Ks (by rw[oJ]; rfl),r6]
 rfl
abbrev uw (y:J3):Prop:=y.length<=1000
section
variable{defs:JS (J3×Df)}{fuel d:J4}{S:aa}{r:J4}{Q:QW}
def xJ (hfu:30 < fuel)(hd:Is defs ("_law_unlike" : J3) 2 3 bM){y:J3}{t:J4}{ys:JS J3}(hy:uw y)(ht:S[t]?=bt (.lst (ys.map W.str)))(hl:ys.length<=10)(k:∀y,uw y->Q (.str y,S)) :
  wO (bu (ag defs fuel (d+1)) "_law_unlike" 2 [.str y,.ref t] S) Q:=by
 show aH hd rfl rfl λQ' hR=>?_
 change wZ _ _ bM [bt (.str y),bt (.ref t),gV] S Q';dsimp only[bM];show st ?_;dsimp only[wS,wE,wV,wG,KH];show st ?_;show GM (λmm Z S'=>∃(s:J4) (y:J3),Z=[bt (.str y),bt (.ref t),bt (.int s)]/\S'=S/\mm+s=22/\s<=20/\uw y/\(∀k,k+1=s->eN[k]?=bt y)/\∀k,k+1 < s->∀c,eN[k]?=bt c->c∈bV++ys) 22 rfl rfl ∅ #[0,y,rfl,rfl,rfl,∅,hy,λk h=>absurd h ∅,λk h=>absurd h ∅] ?_
 rintro mm Z S' ⟨s,y',rfl,rfl,hm,hs,hy',hc1,hc2⟩;have go:y'∈bV++ys->∃m',mm=m'+1/\BI (ag defs fuel d) fuel #v[.set 0 (.op .mul (.ix (.c (.str "qxyzabcdefghijklmnoprstuvw")) (.op .mod (.v 2) (.c (.int 26)))) (.op .add (.c (.int 1)) (.op .fdiv (.v 2) (.c (.int 26))))),.set 2 (.op .add (.v 2) (.c (.int 1)))] [bt (.str y'),bt (.ref t),bt (.int s)] S' (λZ S''=>∃(s:J4) (y:J3),Z=[bt (.str y),bt (.ref t),bt (.int s)]/\S''=S'/\m'+s=22/\s<=20/\uw y/\(∀k,k+1=s->eN[k]?=bt y)/\∀k,k+1 < s->∀c,eN[k]?=bt c->c∈bV++ys) Q':=by
  intro hin;have all:∀k,k < s->∀c,eN[k]?=bt c->c∈bV++ys:=λk hk c hc=>by
   by_cases h:k+1 < s
   ·exact hc2 k h c hc
   ·have:=hc1 k ∅
    rw[hc]at this;cases this;exact hin
  have hs19:s<=19:=by
   have h7:=xD (eN.take s) (bV++ys) (xI.sublist (Qd _ _)) λx hx=>by
    obtain⟨k,hk,e⟩:=List.mem_iff_getElem.mp hx;rw[Mc]at hk;exact all k ∅ x (by rw[List.getElem_take]at e; rw[<- e]; exact Kt _)
   rw[Mc,Kb,uk]at h7;have:bV.length=9:=rfl;omega
  show#[mm - 1,∅,λQ2 hn _=>?_]
  have em:((s:Kk) % 26)=s:=Int.emod_eq_of_lt ∅ ∅
  have ed:((s:Kk) / 26)=0:=Int.ediv_eq_zero_of_lt ∅ ∅
  obtain⟨c,ec⟩ : ∃c,EI.cps.toList[s]?=bt c:=#[_,Kt (by rw[AA]; omega)]
  have ec2:eN[s]?=bt #[[c].toArray]:=by unfold eN; rw[KA,ec]; rfl
  show st ?_;dsimp only[wS,wE,wV,wG,KH];show af (oq #v[]) ?_
  rw[em];have ec:EI.cps.toList[(s:Kk).toNat]?=bt c:=ec;show af (BE (x:=EI) (i:=(s:Kk)) (c:=c) (cz rfl) (MC s) ec) ?_;have e2:gS .fdiv (.int s) (.int 26) S'=bt (.int 0,S'):=by
   rw[wY ∅ ∅,ed]
  dsimp only;rw[e2];dsimp only[cL,cj];rw[show(1:Kk)+0=1 from rfl]
  show af D8 ?_;show st ?_;dsimp only[wS,wE,wV,wG,KH,cL,cj];exact cV (hn _ _ #[s+1,_,rfl,rfl,∅,∅,show 1<=1000 by decide,λk hk=>by rw[show k=s by omega]; exact ec2,λk hk=>all k ∅])
 dsimp only[wT,wE,wV,wG,wA];show af (lv ht) #[λh=>#[λ_=>go (Ku _ (La h)),λz=>(by cases z)],λh=>?_]
 show af (jZ (zs:=bV)) #[λh=>go (Le _ (La h)),λh2=>?_]
 show st ?_;exact hR _ _ (k _ hy')
end
abbrev BN (w:W):Prop:=∃(ms:JS J3) (ns:JS (J3×Kk)),w=.tup [.tup (ms.map W.str),.tup (ns.map λp=>.tup [.str p.1,.int p.2]),.tup []]/\1<=ms.length/\ms.length<=3/\1<=ns.length/\ns.length<=3/\(∀m∈ms,uw m)/\∀p∈ns,uw p.1
abbrev xK:JS W:=[.tup [.int 1,.int 1],.tup [.int 1,.int 2],.tup [.int 1,.int 3],.tup [.int 2,.int 1],.tup [.int 2,.int 2],.tup [.int 2,.int 3],.tup [.int 3,.int 1],.tup [.int 3,.int 2]]
def xL:∀k:J4,k < 8->∃a b:J4,xK[k]?=bt (.tup [.int (a:Kk),.int (b:Kk)])/\1<=a/\a<=3/\1<=b/\b<=3
 | 0,_=>#[1,1,rfl,#v[]]
 | 1,_=>#[1,2,rfl,#v[]]
 | 2,_=>#[1,3,rfl,#v[]]
 | 3,_=>#[2,1,rfl,#v[]]
 | 4,_=>#[2,2,rfl,#v[]]
 | 5,_=>#[2,3,rfl,#v[]]
 | 6,_=>#[3,1,rfl,#v[]]
 | 7,_=>#[3,2,rfl,#v[]]
 | n+8,h=>absurd h ∅
abbrev lw:JS J3:=["mark","way","bars","somes","eachx","no","an","o","isa","x","y","waysx","nott","andor"]
def xM:∀y∈lw,uw y:=by
 have h:lw.all (λy=>Th y.length 1000)=true:=rfl
 intro y hy;exact Kf (LS.mp h y hy)
abbrev ff:JS W->Es
 | []=>.nil
 | w::ws=>.cons (.c w) (ff ws)
def fj {M:J3->FF}{Z:Fm}{S:aa}:∀ {ws:JS W} {Q:JS W×aa->Prop},Q (ws,S)->wA M (ff ws) Z S Q
 | [],Q,q=>q
 | w::ws,Q,q=>fj (ws:=ws) q
def xN {M:J3->FF}{Z:Fm}{S:aa}{ws:JS W}{Q:QW}(q:Q (.ref S.length,S++[.lst ws])):wE M (.lst (ff ws)) Z S Q:=by dsimp only[wE]; exact fj q
section
variable{defs:JS (J3×Df)}{fuel d:J4}{S:aa}{r:J4}{Q:QW}
def AB {M:J3->FF}{Z:Fm}{b:J4}(b1:1<=b)(b3:b<=3)(hb:Z[2]?=bt (bt (.int b)))(k:∀(u:J4) (rs:JS J4) (S':aa),Ka S S'->S'[u]?=bt (.lst (rs.map W.ref))->S.length<=u->1<=rs.length->rs.length<=3->(∀t∈rs,S.length<=t/\∃bs:JS Kk,S'[t]?=bt (.lst (bs.map W.int))/\bs.length=b)->Q (.ref u,S')) :
  wE M (.ix (.lst #v[.lst #v[.lst #v[.c (.int 0)]],.lst #v[.lst #v[.c (.int 0),.c (.int 1)],.lst #v[.c (.int 1),.c (.int 0)]],.lst #v[.lst #v[.c (.int 0),.c (.int 1),.c (.int 2)],.lst #v[.c (.int 1),.c (.int 0),.c (.int 2)],.lst #v[.c (.int 0),.c (.int 2),.c (.int 1)]]]) (.op .sub (.v 2) (.c (.int 1)))) Z S Q:=by
 have hv:∀Q:W->Prop,Q (.int b)->wV Z 2 Q:=λQ q=>by
  match Z,hb with
  | _::_::x::Z,hb=>
   cases(show x=bt (.int b) by simpa using hb)
   exact q
 dsimp only[wE,wA];show hv _ ?_;dsimp only[BC,cj];rcases(show b=1\/b=2\/b=3 by omega)with rfl|rfl|rfl
 ·show dJ (i:=0) al rfl (k _ [_] _ ?_ (by repeat (first|exact al|refine bg ?_)) ?_ (Kf rfl) (Kf rfl) ?_)
  ·repeat (first|exact Ka.refl|refine Ka.trans ?_ Ka.push)
  ·simp only[Kb]; omega
  ·intro t ht;cases Ky.mp ht;show#[J9 _,[0],?_,rfl]
   repeat (first|exact al|refine bg ?_)
 ·show dJ (i:=1) al rfl (k _ [_,_] _ ?_ (by repeat (first|exact al|refine bg ?_)) ?_ (Kf rfl) (Kf rfl) ?_)
  ·repeat (first|exact Ka.refl|refine Ka.trans ?_ Ka.push)
  ·simp only[Kb]; omega
  ·intro t ht;rcases J5.mp ht with rfl|ht
   ·show#[by simp only[Kb]; omega,[0,1],?_,rfl]
    repeat (first|exact al|refine bg ?_)
   ·cases Ky.mp ht;show#[by simp only[Kb]; omega,[1,0],?_,rfl]
    repeat (first|exact al|refine bg ?_)
 ·show dJ (i:=2) al rfl (k _ [_,_,_] _ ?_ (by repeat (first|exact al|refine bg ?_)) ?_ (Kf rfl) (Kf rfl) ?_)
  ·repeat (first|exact Ka.refl|refine Ka.trans ?_ Ka.push)
  ·simp only[Kb]; omega
  ·intro t ht;rcases J5.mp ht with rfl|ht
   ·show#[by simp only[Kb]; omega,[0,1,2],?_,rfl]
    repeat (first|exact al|refine bg ?_)
   ·rcases J5.mp ht with rfl|ht
    ·show#[by simp only[Kb]; omega,[1,0,2],?_,rfl]
     repeat (first|exact al|refine bg ?_)
    ·cases Ky.mp ht;show#[by simp only[Kb]; omega,[0,2,1],?_,rfl]
     repeat (first|exact al|refine bg ?_)
def Ea (hfu:30 < fuel)(L:Sn defs)(hf:Fl S r)(k:∀w S',BN w->Fl S' r->Kp r S S'->Q (w,S')) :
  wO (bu (ag defs fuel (d+3)) "_law_rule" 1 [.ref r] S) Q:=by
 show aH L.l_rule rfl rfl λQ' hR=>?_
 replace k:∀w S',BN w->Fl S' r->Kp r S S'->Q' (.rt w,S'):=λw S' a b c=>hR _ _ (k w S' a b c)
 clear hR;change wZ _ _ cN [bt (.ref r),gV,gV,gV,gV,gV,gV,gV] S Q';dsimp only[cN];show st ?_;left;show aY (d:=d+1) L.gen.pick (hf.ka .push) #v[] #v[] λv S1 v0 v1 f1 k1=>?_
 have e1:S1[S.length]?=bt (.lst xK):=k1.get _ _ (KW hf.lt) al;obtain⟨a,b,e2,a1,a3,b1,b3⟩:=xL v.toNat ∅
 show gO e1 v0 e2 ?_;replace k1:Kp r S S1:=Kp.push.trans k1;clear e1 e2 v0 v1;dsimp only[wU];have hset:fT [1,2] [.int a,.int b] [bt (.ref r),gV,gV,gV,gV,gV,gV,gV]=bt [bt (.ref r),bt (.int a),bt (.int b),gV,gV,gV,gV,gV]:=rfl;show af hset ?_;show st (jV (xN (ws:=lw.map W.str) ?_));dsimp only[KH];show st ?_;left;show st ?_;have hr1:=f1.lt;have hS1:=k1.len;generalize ht3:S1.length=t3 at hr1;show rT ((a:Kk)+b) (λi Z S'=>∃x5 x6 ,∃ys:JS J3,Z=[bt (.ref r),bt (.int a),bt (.int b),bt (.ref t3),bt (.ref (t3+1)),x5,x6,gV]/\S'[t3]?=bt (.lst (lw.map W.str))/\S'[t3+1]?=bt (.lst (ys.map W.str))/\ys.length=i/\(∀y∈ys,uw y)/\Fl S' r/\Kp r S S') rfl rfl ∅ ?_ ?_ ?_
 ·dsimp only[wE,wV,wG,cL,cj];show#[rfl,gV,gV,[],by rw[<- ht3]; simp,?_,?_,rfl,λ_ h=>(nomatch h),(f1.ka .push).ka .push,k1.trans (Kp.push.trans .push)]
  ·rw[<- ht3]; exact bg al
  ·rw[show t3+1=(S1++[O.lst (lw.map W.str)]).length by simp[ht3]]; exact al
 ·rintro i Z S2 hi ⟨x5,x6,ys,rfl,e3,e4,hl,hs,f2,k2⟩ Q2 hn _;show st ?_;left;show aY (d:=d+1) L.gen.pick f2 #v[] #v[] λv S3 v0 v1 f3 k3=>?_
  dsimp only[cL,cj];show uj (d:=d) L.gen f3 ∅ ∅ λy S4 hy0 hs0 f4 k4=>?_
  have hy:uw y:=by unfold uw; rw[rZ,hy0]; omega
  have kk4:=k3.trans k4;have au:∀(y:J3) (S5:aa),uw y->Fl S5 r->Kp r S4 S5->wZ (ag defs fuel (d+2)) fuel #v[.ex (.me .append (.v 4) #v[.own "_law_unlike" 2 #v[.v 6,.v 4]])] [bt (.ref r),bt (.int a),bt (.int b),bt (.ref t3),bt (.ref (t3+1)),bt (.int i),bt (.str y),gV] S5 Q2:=by
   intro y S5 hy f5 k5;have kk:=kk4.trans k5;have e5:=kk.get _ _ ∅ e4
   show st ?_;left;show#[jS e5,xJ (d:=d+1) hfu L.l_unlike hy e5 ∅ λz hz=>?_]
   show rY e5 (by rw[J6]; omega) (cV (hn _ _ #[_,_,ys++[z],rfl,?_,?_,by simp[hl],?_,f5.own ∅,(k2.trans kk).late ∅]))
   ·rw[eG ∅]; exact kk.get _ _ ∅ e3
   ·rw[ik e5,L4]; rfl
   ·intro u hu;rcases KU.mp hu with h|h
    ·exact hs u h
    ·rw[Ky.mp h]; exact hz
  show st ?_;dsimp only[wS,wT,wE,wA,wV,wG,KH];show aY (d:=d+1) L.gen.pick f4 #v[] #v[] λu S5 u0 u1 f5 k5=>?_
  dsimp only[pX,cj,wB];show aK (Q0:=Q2) (λhg Q3 hn3 hr=>?_) (λhg Q3 hn3 hr=>cV (hn3 _ _ (au _ _ hy f5 k5)))
  show st ?_;left;show aY (d:=d+1) L.gen.pick f5 #v[] #v[] λx S6 x0 x1 f6 k6=>?_
  obtain⟨z,hz,ez⟩:=mz (f:=W.str) (xs:=lw) (i:=x.toNat) (show _ < 14 by omega)
  exact gO ((kk4.trans (k5.trans k6)).get _ _ ∅ e3) x0 ez (cV (hn3 _ _ (au _ _ (xM z hz) f6 (k5.trans k6))))
 ·rintro Z S2 ⟨x5,x6,ys,rfl,e3,e4,hl,hs,f2,k2⟩;clear e3 f1 k1 hf;have hr2:=f2.lt;have hk2:=k2.len;have tail:∀(t7:J4) (bs:JS Kk) (S3:aa),S3[t7]?=bt (.lst (bs.map W.int))->bs.length=b->Fl S3 r->Kp r S2 S3->wZ (ag defs fuel (d+2)) fuel #v[.ret (.tup #v[.bi .tuple #v[.sl (.v 4) .no (.yes (.v 1))],.bi .tuple #v[.comp (.tup #v[.ix (.v 4) (.op .add (.v 3) (.v 1)),.ix (.v 2) (.v 1)]) (.nm 1) (.rng #v[.v 2]) .nil [gV,gV,bt 7,bt 1,bt 4]],.tup .nil])] [bt (.ref r),bt (.int a),bt (.int b),bt (.ref t3),bt (.ref (t3+1)),x5,x6,bt (.ref t7)] S3 Q':=by
   intro t7 bs S3 e7 hb f3 k3;have e5:=k3.get _ _ ∅ e4
   show st ?_;dsimp only[wS,wE,wA,wP,wV,wG,wN];show af (show CN (.ref (t3+1)) gV (bt (a:Kk)) S3=bt (.ref S3.length,S3++[.lst ((ys.take a).map W.str)]) by simp only[CN,aF e5,xE,List.map_take]) ?_
   show af (xh al) ?_;dsimp only;show rW (b:Kk) (λi zs Z S'=>(∃x,Z=[gV,x,bt (.ref t7),bt (.int a),bt (.ref (t3+1))])/\S'=S3++[.lst ((ys.take a).map W.str)]/\∃ns:JS (J3×Kk),zs=ns.map (λp=>.tup [.str p.1,.int p.2])/\ns.length=i/\∀p∈ns,uw p.1) rfl rfl rfl ∅ #[rfl,#[gV,rfl],rfl,[],rfl,rfl,λ_ h=>nomatch h] ?_ ?_
   ·rintro i zs Z _ hi ⟨⟨x,rfl⟩,rfl,ns,rfl,hn,hq⟩;dsimp only[rV,wC,wE,wA,wV,wG,KH,cL,cj];show#[λ_=>?_,λz=>by cases z]
    obtain⟨y,hy,ey⟩:=mz (f:=W.str) (xs:=ys) (i:=((a:Kk)+i).toNat) ∅
    obtain⟨c,hc,ec⟩:=mz (f:=W.int) (xs:=bs) (i:=((i:Kk)).toNat) ∅
    show gO (bg e5) ∅ ey (gO (bg e7) ∅ ec #[#[_,rfl],rfl,ns++[(y,c)],by simp,by simp[hn],?_])
    intro p hp;rcases KU.mp hp with h|h
    ·exact hq p h
    ·rw[Ky.mp h]; exact hs y hy
   ·rintro zs Z _ ⟨_,rfl,ns,rfl,hn,hq⟩;show#[by rw[J6,hn,Lg]; exact Kx (show b<=1000 by omega) (cz rfl),?_]
    show af (xh al) ?_;show k _ _ #[ys.take a,ns,rfl,?_,?_,?_,?_,λm hm=>hs m (List.mem_of_mem_take hm),hq] ((f3.ka .push).ka .push) (k2.trans (k3.trans (Kp.push.trans .push)))
    all_goals first|(rw[Mc]; omega)|omega
  have one:∀(u:J4) (rs:JS J4) (S3:aa),S3[u]?=bt (.lst (rs.map W.ref))->1<=rs.length->rs.length<=3->u≠r->(∀t∈rs,r < t/\∃bs:JS Kk,S3[t]?=bt (.lst (bs.map W.int))/\bs.length=b)->Fl S3 r->Kp r S2 S3->wZ (ag defs fuel (d+2)) fuel #v[.set 7 (.ix (.v 7) (.own "_law_pick" 2 #v[.v 0,.bi .len #v[.v 7]])),.ret (.tup #v[.bi .tuple #v[.sl (.v 4) .no (.yes (.v 1))],.bi .tuple #v[.comp (.tup #v[.ix (.v 4) (.op .add (.v 3) (.v 1)),.ix (.v 2) (.v 1)]) (.nm 1) (.rng #v[.v 2]) .nil [gV,gV,bt 7,bt 1,bt 4]],.tup .nil])] [bt (.ref r),bt (.int a),bt (.int b),bt (.ref t3),bt (.ref (t3+1)),x5,x6,bt (.ref u)] S3 Q':=by
   intro u rs S3 eu h1 h3 hu hbs f3 k3;show st ?_;left;show af (xg eu) (aY (d:=d+1) L.gen.pick f3 (by rw[J6]; omega) (by rw[J6]; omega) λv S4 v0 v1 f4 k4=>?_)
   rw[J6]at v1;obtain⟨t,ht,et⟩:=mz (f:=W.ref) (xs:=rs) (i:=v.toNat) ∅
   obtain⟨hrt,bs,eb,hb⟩:=hbs t ht;show gO (k4.get _ _ hu eu) v0 et ?_;dsimp only[KH];exact tail t bs S4 (k4.get _ _ ∅ eb) hb f4 (k3.trans k4)
  show st (jV (AB b1 b3 rfl λu rs S3 a1 a2 a3 a4 a5 a6=>?_))
  dsimp only[KH];exact one u rs S3 a2 a4 a5 ∅ (λt ht=>#[by have:=(a6 t ht).1; omega,(a6 t ht).2]) (f2.ka a1) (a1.kp r)
end
def AC {n:J4}(h:n<=1000000):n<=sizeLine:=by rw[Lf]; omega
section
variable{M:J3->FF}{Z:Fm}{S:aa}
def xP {α:Type}{elt:E}{tg:Tg}{it:Ie}{cs:Es}{cap:JS (JX J4)}{mi:MI}{S1:aa}{Q:QW}(L:JS α)(f:α->W)(p:α->Kn)(g:α->W)(tx:Fm->Prop)(fr:α->Fm)(hJ:∀x Z S,tx Z->t6 tg (f x) Z S=bt (fr x,S)/\tx (fr x))(oe:dw elt=true)(oc:pY cs=true)(hc:tx (eD cap Z))(hl:L.length<=1000000)(hi:kD M it Z S=bt (mi,S1))(k1:Ka S S1)(hat:∀i S',Ka S1 S'->mi.at S' i=bt (L.map f)[i]?)(hn:mi.len S1=bt (L.map f).length)
  (hstep:∀x∈L,∀S',Ka S S'->rV M elt cs (fr x) S' (λy _ S2=>p x=true/\y=g x/\Ka S' S2) (λ_ S2=>p x=false/\Ka S' S2))
  (k:∀S',Ka S S'->Q (.ref S'.length,S'++[.lst ((L.filter p).map g)])):Wp (ap M (.comp elt tg it cs cap) Z S) Q:=by
 rw[wR];show#[_,hi,_,hn,?_];show(ci (xs:=L.map f) (Q:=λq=>q.1.length<=sizeLine/\Q (.ref q.2.length,q.2++[.lst q.1])) (λi ys Z' S'=>tx Z'/\ys=((L.take i).filter p).map g/\Ka S1 S') (λi ys Z' S' h=>hat i S' h.2.2) (λi w ys Z' S' hw h=>?_) (λys Z' S' h=>?_) (L.map f).length 0 [] _ S1 ∅ #[hc,rfl,.refl]).mono λq hq=>by simpa using hq
 ·obtain⟨hj,rfl,k2⟩:=h;rw[KA,J0]at hw;obtain⟨x,hx,rfl⟩:=hw;obtain⟨h1,h2⟩:=hJ x Z' S' hj;show#[_,h1,?_];show(BJ oc (hstep x (Lr hx) S' (k1.trans k2))).mono λc hc=>#[λz=>(aw elt oe (hc.1 z)).mono λy hy=>#[h2,?_,k2.trans hy.2.2],λz=>#[h2,?_,k2.trans (hc.2 z).2]]
  ·rw[Qy,hx,Ow,show(R1 (bt x)).filter p=[x]from List.filter_cons_of_pos hy.1,L4,hy.2.1]; rfl
  ·rw[Qy,hx,Ow,show(R1 (bt x)).filter p=[]from List.filter_cons_of_neg (by rw[(hc.2 z).1]; exact Kg),Lu]
 ·obtain⟨_,rfl,k2⟩:=h;dsimp only;rw[show(L.map f).length=L.length from J6 ..,List.take_length]
  show#[AC ?_,k S' (k1.trans k2)];rw[J6];exact Kx (NS _ _) hl
def xQ {α:Type}{elt:E}{it:Ie}{cs:Es}{cap:JS (JX J4)}{mi:MI}{S1:aa}{Q:QW}(L:JS α)(f:α->W)(p:α->Kn)(g:α->W)(R:Fm)(oe:dw elt=true)(oc:pY cs=true)(hc:eD cap Z=gV::gV::R)(hl:L.length<=1000000)(hi:kD M it Z S=bt (mi,S1))(k1:Ka S S1)(hat:∀i S',Ka S1 S'->mi.at S' i=bt (L.map f)[i]?)(hn:mi.len S1=bt (L.map f).length)
  (hstep:∀x∈L,∀S',Ka S S'->rV M elt cs (gV::bt (f x)::R) S' (λy _ S2=>p x=true/\y=g x/\Ka S' S2) (λ_ S2=>p x=false/\Ka S' S2))
  (k:∀S',Ka S S'->Q (.ref S'.length,S'++[.lst ((L.filter p).map g)])):Wp (ap M (.comp elt (.nm 1) it cs cap) Z S) Q:=
 xP L f p g (λZ=>∃a,Z=gV::a::R) (λx=>gV::bt (f x)::R) (λ_ _ _ h=>let ⟨_,e⟩:=h; e ▸ #[rfl,_,rfl]) oe oc #[_,hc] hl hi k1 hat hn hstep k
def Eb {α:Type}{elt e:E}{cs:Es}{cap:JS (JX J4)}{Q:QW}(L:JS α)(f:α->W)(p:α->Kn)(g:α->W)(R:Fm)(oi:dw e=true)(oe:dw elt=true)(oc:pY cs=true)(hc:eD cap Z=gV::gV::R)(hl:L.length<=1000000)
  (he:wE M e Z S λq=>∃t,q.1=.ref t/\q.2[t]?=bt (.lst (L.map f))/\Ka S q.2)
  (hstep:∀x∈L,∀S',Ka S S'->rV M elt cs (gV::bt (f x)::R) S' (λy _ S2=>p x=true/\y=g x/\Ka S' S2) (λ_ S2=>p x=false/\Ka S' S2))
  (k:∀S',Ka S S'->Q (.ref S'.length,S'++[.lst ((L.filter p).map g)])):Wp (ap M (.comp elt (.nm 1) (.seq e) cs cap) Z S) Q:=by
 obtain⟨w,S1,e1,t,rfl,ht,k1⟩:=b9 oi he;exact xQ (mi:=.live t) L f p g R oe oc hc hl (by simp only[kD,fB,e1,aF ht]) k1 (λi S' h=>by simp only[MI.at,aF (h.get _ _ ht)]) (by simp only[MI.len,aF ht,Lv]) hstep k
def j3 {α:Type}(L:JS α):L.filter (λ_=>true)=L:=List.filter_eq_self.mpr λ_ _=>rfl
end
abbrev xR (c:J4):Kn:=decide (97<=c)&&decide (c<=122)
structure Asc (x:J3):Prop where
 lo:(x.cps.all λc=>decide (c < 128))=true
 len:x.length<=1000
inductive Thg (S:aa):W->Prop
 | non:Thg S .non
 | bl {b:Kn}:Thg S (.bl b)
 | int {i:Kk}:Thg S (.int i)
 | str {x:J3} (h:Asc x):Thg S (.str x)
 | tup {xs:JS W} (h:∀x∈xs,Thg S x) (hl:xs.length<=100):Thg S (.tup xs)
 | lst {l:J4} (h:∃xs,S[l]?=bt (O.lst xs)):Thg S (.ref l)
def Thg.mono {S S':aa}{w:W}(h:Thg S w)(k:∀l:J4,(∃xs,S[l]?=bt (O.lst xs))->∃xs,S'[l]?=bt (O.lst xs)):Thg S' w:=by
 induction h with
 | non=>exact .non
 | bl=>exact .bl
 | int=>exact .int
 | str h=>exact .str h
 | tup h hl ih=>exact .tup ih hl
 | lst h=>exact .lst (k _ h)
def Thg.ka {S S':aa}{w:W}(h:Thg S w)(k:Ka S S'):Thg S' w:=h.mono λ_ #[xs,e]=>#[xs,k.get _ _ e]
def Thg.kp {S S':aa}{w:W}{r:J4}(h:Thg S w)(k:Kp r S S')(f:Fl S' r):Thg S' w:=h.mono λl #[xs,e]=>by
 by_cases z:l=r
 ·subst z;obtain⟨_,_,_,_,_,_,f⟩:=f;exact#[_,f.at_r]
 ·exact#[xs,k.get _ _ z e]
abbrev xS:W->Kn|.int _=>true|_=>false
abbrev GV:W->Kn|.bl _=>true|_=>false
abbrev dS:W->Kn|.str _=>true|_=>false
def dP {S:aa}{l:J4}{c:Ls}(h:∃xs,S[l]?=bt (.lst xs))(hc:nU.contains c=true):rB S (.ref l) c=bt ("list" == c||("list" == "bool" && c == "int")):=by
 obtain⟨xs,e⟩:=h;have e2:Ho S (.ref l)=bt "list":=by simp only[Ho,aF e]
 unfold rB;rw[e2];exact Ks hc
def Thg.n {S:aa}{w:W}(h:Thg S w):rB S w "int" = bt (xS w||GV w):=by
 cases h with
 | lst h=>exact dP h rfl
 | _=>rfl
def Thg.b {S:aa}{w:W}(h:Thg S w):rB S w "bool" = bt (GV w):=by
 cases h with
 | lst h=>exact dP h rfl
 | _=>rfl
def Thg.s {S:aa}{w:W}(h:Thg S w):rB S w "str" = bt (dS w):=by
 cases h with
 | lst h=>exact dP h rfl
 | _=>rfl
def ql (L:JS Kn):fR (L.map W.bl)=bt L:=by
 induction L with
 | nil=>rfl
 | cons b L ih=>rw[K6]; dsimp only[fR]; rw[ih]; rfl
def qm {S:aa}{l:J4}{L:JS Kn}{Q:QW}(h:S[l]?=bt (.lst (L.map W.bl)))(q:Q (.bl (L.all id),S)):wO (Bi.all.fn [.ref l] S) Q:=by
 show af ?_ q;simp only[Bi.fn,CS,aF h,ql,Lv]
def xT {S:aa}{y:J3}{Q:QW}(h:y.length<=1000)(q:Q (.int y.length,S)):wO (Bi.len.fn [.str y] S) Q:=by
 show af (a:=(.int y.length,S)) ?_ q;dsimp only[Bi.fn,Bt,pK,m8];rw[Ks (Kx h (by rw[Lf]; decide))]
def Ec:∀k:Fin 128,(!(NG "abcdefghijklmnopqrstuvwxyz" #[[k.val].toArray] 0 ("abcdefghijklmnopqrstuvwxyz" : J3).length 1).isEmpty)=xR k.val:=by decide +kernel
def AD {S:aa}{c:J4}(h:c < 128):dW .isin (.str #[[c].toArray]) (.str "abcdefghijklmnopqrstuvwxyz") S=bt (.bl (xR c),S):=by
 rw[<- Ec #[c,h]]; rfl
abbrev qo (x:J3):Kn:=x.cps.toList.all xR
abbrev cW:JS J3:=["bar","not","and","or","is"]
abbrev qp (x:J3):Kn:=(decide (1<=(x.length:Kk))&&decide ((x.length:Kk)<=3))&&(!decide (x∈cW)&&qo x)
abbrev az:W->Kn|.str x=>qp x|_=>false
abbrev aI (n:Kk):W->Kn|.int i=>decide (0<=i)&&decide (i < n)|_=>false
section
variable{M:J3->FF}{Z:Fm}{S:aa}{Q:QW}
def r8 {x:J3}(h:Asc x)(k:∀S',Ka S S'->Q (.bl (qo x),S')) :
  wE M (.bi .all #v[.comp (.cmp .isin (.v 1) (.c (.str "abcdefghijklmnopqrstuvwxyz"))) (.nm 1) (.seq (.v 0)) .nil [gV,gV]]) [bt (.str x)] S Q:=by
 have hl:x.cps.toList.length<=1000:=by have:=h.len; rwa [rZ]at this
 have ha:∀c∈x.cps.toList,c < 128:=λc hc=>by
  have:=h.lo;rw[<- Array.all_toList,LS]at this;exact La (this c hc)
 dsimp only[wE,wA];show xQ (mi:=.its (x.cps.toList.map λc=>W.str #[[c].toArray])) (S1:=S) x.cps.toList (λc=>W.str #[[c].toArray]) (λ_=>true) (λc=>.bl (xR c)) [] rfl rfl rfl ∅ ?_ .refl (λ_ _ _=>rfl) rfl (λc hc S' k'=>?_) λS' k'=>?_
 ·have e1:ap M (.v 0) [bt (.str x)] S=bt (.str x,S):=rfl;simp only[kD,fB,e1,h.lo,MY]
 ·dsimp only[rV,wC,wE,wV,wG];exact#[λ_=>af (AD (ha c hc)) #[rfl,rfl,.refl],λz=>by cases z]
 ·rw[j3];show qm (L:=x.cps.toList.map xR) (by rw[Qt]; exact al) ?_
  rw[OV];exact k _ (k'.trans .push)
end
section
variable{defs:JS (J3×Df)}{fuel d:J4}{S:aa}{Q:QW}
def r9 (L:Sn defs){w:W}(h:Thg S w)(k:Q (.bl (xS w),S)):wO (bu (ag defs fuel (d+1)) "is_whole" 1 [w] S) Q:=by
 show aH L.whole rfl rfl λQ' hR=>?_
 replace k:=hR _ _ k;change wZ _ _ dL [bt w] S Q';dsimp only[dL];show st ?_;dsimp only[wS,wE,wV,wG];show af h.n #[λz=>af h.b ?_,λz=>?_]
 ·cases w <;> first|exact k|cases z
 ·cases w <;> first|exact k|cases z
def sd (L:Sn defs){w:W}{n:Kk}(h:Thg S w)(k:Q (.bl (aI n w),S)):wO (bu (ag defs fuel (d+1)) "_law_is_below" 2 [w,.int n] S) Q:=by
 show aH L.l_below rfl rfl λQ' hR=>?_
 replace k:=hR _ _ k;change wZ _ _ bO [bt w,bt (.int n)] S Q';dsimp only[bO];show st ?_;dsimp only[wS,wE,wV,wG];show af h.n #[λz=>af h.b ?_,λz=>?_]
 ·cases w with
  | int i=>
   show#[λ_=>?_,λz=>by cases z]
   show af (show yo .le (.int 0) (.int i) S=bt (decide (0<=i))from rfl) #[λz=>af (show db .lt (.int i) (.int n) S=bt (.bl (decide (i < n)),S)from rfl) ?_,λz=>?_]
   ·rw[aI,z,Lw]at k; exact k
   ·rw[aI,z,Nm]at k; exact k
  | bl b=>exact#[λz=>(by cases z),λ_=>k]
  | _=>cases z
 ·cases w <;> first|exact k|cases z
end
section
variable (M:J3->FF) (Z:Fm)
abbrev Te (t:E)(S:aa)(c:Kn):Prop:=∀Q:QB,(∀S',Ka S S'->Q (c,S'))->wT M t Z S Q
abbrev Ve (e:E)(S:aa)(w:W):Prop:=∀Q:QW,(∀S',Ka S S'->Q (w,S'))->wE M e Z S Q
end
section
variable{M:J3->FF}{Z:Fm}{S:aa}{a b:E}{x y:Kn}
def aQ (ha:Te M Z a S x)(hb:x=false->∀S',Ka S S'->Te M Z b S' y):Te M Z (.or a b) S (x||y):=λQ k=>by
 dsimp only[wT];show ha _ λS' k'=>#[λz=>?_,λz=>hb z S' k' _ λS2 k2=>?_]
 ·have z:x=true:=z;subst z; exact k S' k'
 ·have z:x=false:=z;subst z; exact k S2 (k'.trans k2)
def Ed (ha:Te M Z a S x)(hb:x=true->∀S',Ka S S'->Te M Z b S' y):Te M Z (.and a b) S (x&&y):=λQ k=>by
 dsimp only[wT];show ha _ λS' k'=>#[λz=>hb z S' k' _ λS2 k2=>?_,λz=>?_]
 ·have z:x=true:=z;subst z; exact k S2 (k'.trans k2)
 ·have z:x=false:=z;subst z; exact k S' k'
def ar (ha:Te M Z a S x):Te M Z (.not a) S (!x):=λQ k=>by
 dsimp only[wT];exact ha _ k
def bj (ha:Ve M Z a S (.bl x))(hb:x=true->∀S',Ka S S'->Ve M Z b S' (.bl y)):Ve M Z (.and a b) S (.bl (x&&y)):=λQ k=>by
 dsimp only[wE];show ha _ λS' k'=>#[λz=>hb z S' k' _ λS2 k2=>?_,λz=>?_]
 ·subst z; exact k S2 (k'.trans k2)
 ·subst z; exact k S' k'
def qr {f:J3}{n:J4}{es:Es}(h:Ve M Z (.own f n es) S (.bl x)):Te M Z (.own f n es) S x:=λQ k=>h (λq=>wO (ei q.2 q.1) λk=>Q (k,q.2)) λS' k'=>k S' k'
def bc {o:COp}(h:Ve M Z (.cmp o a b) S (.bl x)):Te M Z (.cmp o a b) S x:=λQ k=>by
 have:=h (λr=>wB r.1 λk=>Q (k,r.2)) λS' k'=>k S' k'
 dsimp only[wE]at this;dsimp only[wT];exact this
def aJ {c:Ls}{w:W}(ha:∀Q:QW,Q (w,S)->wE M a Z S Q)(h:rB S w c=bt x):Te M Z (.isi c a) S x:=λQ k=>by
 dsimp only[wT];exact ha _ (af h (k S .refl))
def qt {c:Ls}{w:W}(ha:∀Q:QW,Q (w,S)->wE M a Z S Q)(h:rB S w c=bt x):Ve M Z (.isi c a) S (.bl x):=λQ k=>by
 dsimp only[wE];exact ha _ (af h (k S .refl))
def cY {o:COp}{v w r:W}(ha:∀Q:QW,Q (v,S)->wE M a Z S Q)(hb:∀Q:QW,Q (w,S)->wE M b Z S Q)(h:dW o v w S=bt (r,S)):Ve M Z (.cmp o a b) S r:=λQ k=>by
 dsimp only[wE];exact ha _ (hb _ (af h (k S .refl)))
def mB {v:J3}{zs:JS J3}(ha:∀Q:QW,Q (.str v,S)->wE M a Z S Q):Ve M Z (.cmp .isin a (.lst (ff (zs.map W.str)))) S (.bl (decide (v∈zs))):=λQ k=>by
 dsimp only[wE];exact ha _ (fj (af (lv al) (k _ .push)))
def xU {d:E}{i j n:Kk}(ha:∀Q:QW,Q (.int i,S)->wE M a Z S Q)(hb:∀Q:QW,Q (.int j,S)->wE M b Z S Q)(hd:∀Q:QW,Q (.int n,S)->wE M d Z S Q):Te M Z (.chn .le .le a b d) S (decide (i<=j)&&decide (j<=n)):=λQ k=>by
 dsimp only[wT];show ha _ (hb _ ?_);show af (show yo .le (.int i) (.int j) S=bt (decide (i<=j))from rfl) #[λz=>hd _ (af (show db .le (.int j) (.int n) S=bt (.bl (decide (j<=n)),S)from rfl) ?_),λz=>?_]
 ·rw[z,Lw]at k; exact k S .refl
 ·rw[z,Nm]at k; exact k S .refl
def Ee {d:E}{i j n:Kk}(ha:∀Q:QW,Q (.int i,S)->wE M a Z S Q)(hb:∀Q:QW,Q (.int j,S)->wE M b Z S Q)(hd:∀Q:QW,Q (.int n,S)->wE M d Z S Q):Ve M Z (.chn .le .lt a b d) S (.bl (decide (i<=j)&&decide (j < n))):=λQ k=>by
 dsimp only[wE];show ha _ (hb _ ?_);show af (show yo .le (.int i) (.int j) S=bt (decide (i<=j))from rfl) #[λz=>hd _ (af (show db .lt (.int j) (.int n) S=bt (.bl (decide (j < n)),S)from rfl) ?_),λz=>?_]
 ·rw[z,Lw]at k; exact k S .refl
 ·rw[z,Nm]at k; exact k S .refl
def lx {c:Kn}(h:x=c)(k:Ve M Z a S (.bl x)):Ve M Z a S (.bl c):=h ▸ k
def a8 {c:Kn}(h:x=c)(k:Te M Z a S x):Te M Z a S c:=h ▸ k
def eO {fuel:J4}{t e:E}{w:W}{K:Fm->aa->Prop}{Q:QO}(ht:Te M Z t S x)(hr:x=true->∀S',Ka S S'->Ve M Z e S' w/\∀S2,Ka S' S2->Q (.rt w,S2))(hk:x=false->∀S',Ka S S'->K Z S'):wS M fuel (.ite t #v[.ret e] .nil) Z S K Q:=by
 dsimp only[wS];show ht _ λS' k' Q' h1 h2=>#[λz=>?_,λz=>(cV (h1 _ _ (hk z S' k'))).out]
 obtain⟨v,q⟩:=hr z S' k';show(st (Q:=Q') ?_).out;dsimp only[wS];exact v _ λS2 k2=>h2 (.rt w) S2 (λ_ z=>nomatch z) (q S2 k2)
def fY {w:W}:Ve M Z (.c w) S w:=λQ k=>k S .refl
def dq {fuel:J4}{e:E}{w:W}{ss:Ss}{Q:QO}(h:Ve M Z e S w)(q:∀S',Ka S S'->Q (.rt w,S')):wZ M fuel (.cons (.ret e) ss) Z S Q:=by
 show st ?_;dsimp only[wS];exact h _ q
end
section
variable{defs:JS (J3×Df)}{fuel d:J4}{S:aa}{Q:QW}
def io {x:J3}{e:E}{Z:Fm}{M:J3->FF}(h:Asc x)(hv:∀Q:QW,Q (.str x,S)->wE M e Z S Q):∀Q:QW,Q (.int (x.length:Kk),S)->wE M (.bi .len #v[e]) Z S Q:=λQ q=>by
 dsimp only[wE,wA];exact hv _ (xT h.len q)
def AE (L:Sn defs){w:W}(h:Thg S w)(k:∀S',Ka S S'->Q (.bl (az w),S')):wO (bu (ag defs fuel (d+1)) "_law_is_short" 1 [w] S) Q:=by
 show aH L.l_short rfl rfl λQ' hR=>?_
 replace k:∀S',Ka S S'->Q' (.rt (.bl (az w)),S'):=λS' a=>hR _ _ (k S' a)
 clear hR;change wZ _ _ bN [bt w] S Q';dsimp only[bN];nofun
 by_cases hw:dS w=true
 ·cases w with
  | str x=>
   cases h with
   | str h=>
    show eO (aQ (ar (aJ (λQ q=>q) rfl)) λ_ S1 k1=>aQ (ar (xU (λQ q=>q) (io h λQ q=>q) (λQ q=>q))) λ_ S2 k2=>bc (mB (zs:=cW) (λQ q=>q))) (λz S' k'=>#[fY,λS2 k2=>?_]) λz S' k'=>hK _ _ (dq (λQ q=>r8 h q) λS2 k2=>?_)
    ·have e:az (.str x)=false:=by
      show((decide (1<=(x.length:Kk))&&decide ((x.length:Kk)<=3))&&(!decide (x∈cW)&&qo x))=false;generalize(decide (1<=(x.length:Kk))&&decide ((x.length:Kk)<=3))=p at z ⊢;generalize decide (x∈cW)=q at z ⊢;cases p <;> cases q <;> first|rfl|cases z
     rw[<- e]; exact k S2 (k'.trans k2)
    ·have e:az (.str x)=qo x:=by
      show((decide (1<=(x.length:Kk))&&decide ((x.length:Kk)<=3))&&(!decide (x∈cW)&&qo x))=_;generalize(decide (1<=(x.length:Kk))&&decide ((x.length:Kk)<=3))=p at z ⊢;generalize decide (x∈cW)=q at z ⊢;cases p <;> cases q <;> first|rfl|cases z
     rw[<- e]; exact k S2 (k'.trans k2)
  | _=>cases hw
 ·have hw:dS w=false:=MP.mpr hw;show eO (x:=true) (a8 (by rw[hw]; rfl) (aQ (y:=true) (ar (aJ (w:=w) (λQ q=>q) h.s)) λz=>by rw[hw]at z; cases z)) (λz S' k'=>#[fY,λS2 k2=>?_]) λz=>by cases z
  have e:az w=false:=by cases w <;> first|rfl|cases hw
  rw[<- e]; exact k S2 (k'.trans k2)
end
abbrev gR (x:J3):Kn:=!(decide (x∈bV) || !(decide (1<=(x.length:Kk))&&decide ((x.length:Kk)<=8)))&&qo x
def oK:∀y∈bV,y.length<=3->y∈cW:=by decide
def oM:∀y∈cW,y∈bV:=by decide
def qv (x:J3):(decide ((x.length:Kk)<=3)&&gR x)=qp x:=by
 unfold gR qp
 by_cases h:(x.length:Kk)<=3
 ·have h8:(x.length:Kk)<=8:=∅
  have e:decide (x∈bV)=decide (x∈cW):=decide_eq_decide.mpr #[λz=>oK x z ∅,oM x]
  rw[e,Lh h,Lh h8,Nd,Lw];cases decide (1<=(x.length:Kk)) <;> cases decide (x∈cW) <;> rfl
 ·rw[KC h,NL]; rfl
abbrev mC (a n i:Kk):JS (J3×Kk):=[("m",a),("w",n),("i",i)]
abbrev aA (a n i:Kk)(c:J4)(w:W):Kn:=if (#[[c].toArray] : J3) = "x" then az w else match (mC a n i).lookup #[[c].toArray]with
 | some b=>aI b w
 | none=>false
abbrev cC:JS (J3×J3):=[("same","xx"),("mark","xm"),("way","xxw"),("not","i"),("and","ii"),("or","ii"),("some","xi"),("each","xi")]
def j4 (x:J3):∀l:JS (J3×J3),(l.map λp=>(p.1,W.str p.2)).lookup x=(l.lookup x).map W.str
 | []=>rfl
 | p::l=>by
  obtain⟨y,f⟩:=p;rw[K6,KD,KD,j4 x l];cases x==y <;> rfl
def j5 (x:J3):il.lookup x=(cC.lookup x).map W.str:=j4 x cC
abbrev aP (a n i:Kk):W->Kn
 | .tup (.str x::fs)=>match cC.lookup x with
  | some f=>((((W.str x::fs).length:J4):Kk)==(f.length:Kk)+1)&&(fs.zip f.cps.toList).all λp=>aA a n i p.2 p.1
  | none=>false
 | _=>false
section
variable{defs:JS (J3×Df)}{fuel d:J4}{S:aa}{Q:QW}
def Ef (L:Sn defs){x:J3}(h:Asc x)(k:∀S',Ka S S'->Q (.bl (gR x),S')):wO (bu (ag defs fuel (d+1)) "is_name" 1 [.str x] S) Q:=by
 show aH L.name rfl rfl λQ' hR=>?_
 replace k:∀S',Ka S S'->Q' (.rt (.bl (gR x)),S'):=λS' a=>hR _ _ (k S' a)
 clear hR;change wZ _ _ e6 [bt (.str x)] S Q';dsimp only[e6];nofun
 show eO (aQ (bc (cY (λQ q=>q) (λQ q=>q) (jZ (zs:=bV)))) λ_ S1 k1=>ar (xU (λQ q=>q) (io h λQ q=>q) (λQ q=>q))) (λz S' k'=>#[fY,λS2 k2=>?_]) λz S' k'=>hK _ _ (dq (λQ q=>r8 h q) λS2 k2=>?_)
 ·have e:gR x=false:=by unfold gR; rw[z]; rfl
  rw[<- e]; exact k S2 (k'.trans k2)
 ·have e:gR x=qo x:=by unfold gR; rw[z]; rfl
  rw[<- e]; exact k S2 (k'.trans k2)
def AF (L:Sn defs){w:W}(h:Thg S w)(k:∀S',Ka S S'->Q (.bl (az w),S')):wO (bu (ag defs fuel (d+2)) "is_point_name" 1 [w] S) Q:=by
 show aH L.point_name rfl rfl λQ' hR=>?_
 replace k:∀S',Ka S S'->Q' (.rt (.bl (az w)),S'):=λS' a=>hR _ _ (k S' a)
 clear hR;change wZ _ _ bB [bt w] S Q';dsimp only[bB]
 by_cases hw:dS w=true
 ·cases w with
  | str x=>
   cases h with
   | str h=>
    show dq (lx (x:=true&&(decide ((x.length:Kk)<=3)&&gR x)) (by rw[Lw]; exact qv x) (bj (qt (λQ q=>q) rfl) λ_ S1 k1=>bj (cY (io h λQ q=>q) (λQ q=>q) rfl) λ_ S2 k2=>λQ q=>?_)) k
    dsimp only[wE,wA,wV,wG];exact Ef L h q
  | _=>cases hw
 ·have hw:dS w=false:=MP.mpr hw;have e:az w=false:=by cases w <;> first|rfl|cases hw
  rw[e]at k;exact dq (lx (x:=dS w&&true) (by rw[hw]; rfl) (bj (y:=true) (qt (w:=w) (λQ q=>q) h.s) λz=>by rw[hw]at z; cases z)) k
def AG (L:Sn defs){w:W}{c t:J4}{a n i:Kk}(h:Thg S w)(ht:S[t]?=bt (.dis (mC a n i)))(hc:(#[[c].toArray] : J3) = "x"\/((mC a n i).lookup #[[c].toArray]).isSome=true)(k:∀S',Ka S S'->Q (.bl (aA a n i c w),S')):wO (bu (ag defs fuel (d+3)) "is_field" 3 [w,.str #[[c].toArray],.ref t] S) Q:=by
 show aH L.field rfl rfl λQ' hR=>?_
 replace k:∀S',Ka S S'->Q' (.rt (.bl (aA a n i c w)),S'):=λS' a=>hR _ _ (k S' a)
 clear hR;change wZ _ _ dM [bt w,bt (.str #[[c].toArray]),bt (.ref t)] S Q';dsimp only[dM];nofun
 show eO (x:=(#[[c].toArray] : J3) == "x") (w:=.bl (az w)) (bc (cY (v:=.str #[[c].toArray]) (w:=.str "x") (λQ q=>q) (λQ q=>q) rfl)) (λz S1 k1=>#[λQ q=>?_,λS2 k2=>?_]) λz S1 k1=>hK _ _ ?_
 ·dsimp only[wE,wA,wV,wG];exact AF (d:=d) L (h.ka k1) q
 ·have e:aA a n i c w=az w:=by unfold aA; rw[Ks (eq_of_beq z)]
  rw[e]at k;exact k S2 (k1.trans k2)
 ·have hx:¬ (#[[c].toArray] : J3) = "x":=λe=>by rw[e,KS]at z; cases z
  have hs:=hc.resolve_left hx;obtain⟨b,hb⟩:=Lj.mp hs;have e:aA a n i c w=aI b w:=by unfold aA; rw[Kv hx,hb]
  rw[e]at k
  by_cases hw:xS w=true
  ·cases w with
   | int j=>
    show dq (lx (x:=true&&(decide (0<=j)&&decide (j < b))) rfl (bj (λQ q=>?_) λ_ S2 k2=>Ee (λQ q=>q) (λQ q=>q) λQ q=>?_)) λS2 k2=>k S2 (k1.trans k2)
    ·dsimp only[wE,wA,wV,wG];exact r9 (d:=d+1) L .int (q _ .refl)
    ·dsimp only[wE,wV,wG];show af (a:=(.int b,S2)) ?_ q;dsimp only[nJ];rw[k2.get _ _ (k1.get _ _ ht)];dsimp only;rw[hb]; rfl
   | _=>cases hw
  ·have hw:xS w=false:=MP.mpr hw;have e:aI b w=false:=by cases w <;> first|rfl|cases hw
   rw[e]at k;show dq (lx (x:=xS w&&true) (by rw[hw]; rfl) (bj (y:=true) (λQ q=>?_) λz=>by rw[hw]at z; cases z)) λS2 k2=>k S2 (k1.trans k2)
   dsimp only[wE,wA,wV,wG];exact r9 (d:=d+1) L (h.ka k1) (q _ .refl)
end
section
variable{M:J3->FF}{Z:Fm}{S:aa}{a b:E}{x y:Kn}
def AH {j:J4}{w:W}(hv:∀Q:W->Prop,Q w->wV Z j Q)(h:ei S w=bt x):Te M Z (.v j) S x:=λQ k=>by
 dsimp only[wT];exact hv _ (af h (k S .refl))
def xW {U:JS (J3×W)}{v:J3}(ha:∀Q:QW,Q (.str v,S)->wE M a Z S Q):Te M Z (.gni U a) S (!(U.lookup v).isSome):=λQ k=>by
 dsimp only[wT];exact ha _ (k S .refl)
def Eg {α:Type}{elt a b:E}{cap:JS (JX J4)}(L:JS α)(f g:α->W)(c:α->Kn)(R:Fm)(oa:dw a=true)(ob:dw b=true)(oe:dw elt=true)(hc:eD cap Z=gV::gV::gV::R)(hl:L.length<=1000000)(xs ys:JS W)(u:W)(hu:Bs u=bt ys)(hx:gB xs ys=L.map λx=>W.tup [f x,g x])
  (he:wE M a Z S λq=>wE M b Z q.2 λq2=>q.1=.tup xs/\q2.1=u/\Ka S q2.2)
  (hstep:∀x∈L,∀S',Ka S S'->Ve M (gV::bt (f x)::bt (g x)::R) elt S' (.bl (c x))):Ve M Z (.bi .all #v[.comp elt (.tp [1,2]) (.zip #v[a,b]) .nil cap]) S (.bl (L.all c)):=λQ k=>by
 obtain⟨w,S0,e1,h1⟩:=b9 oa he;obtain⟨w2,S1,e2,rfl,rfl,k1⟩:=b9 ob h1;dsimp only[wE,wA];show xP (mi:=.its (gB xs ys)) L (λx=>W.tup [f x,g x]) (λ_=>true) (λx=>.bl (c x)) (λZ=>∃a b,Z=gV::a::b::R) (λx=>gV::bt (f x)::bt (g x)::R) (λ_ _ _ h=>let ⟨_,_,e⟩:=h; e ▸ #[rfl,_,_,rfl]) oe rfl #[_,_,hc] hl (by have hu':Bs w2=bt ys:=hu; have e2':ap M b Z S0=bt (w2,S1):=e2; simp only[kD,aZ,bZ,gu,Aa,e1,e2',hu',show Bs (.tup xs)=bt xs from rfl]) k1 (λi S' _=>by rw[<- hx]; rfl) (by rw[<- hx]; rfl) (λx hx S' k'=>?_) λS' k'=>?_
 ·dsimp only[rV,wC];exact#[λ_=>hstep x hx S' k' _ λS2 k2=>#[rfl,rfl,k2],λz=>by cases z]
 ·rw[j3];show qm (L:=L.map c) (by rw[Qt]; exact al) ?_
  rw[OV];exact k _ (k'.trans .push)
def sf:∀(xs:JS W) (cs:JS J4),gB xs (cs.map λc=>W.str #[[c].toArray])=(xs.zip cs).map λp=>W.tup [p.1,.str #[[p.2].toArray]]
 | [],_=>by unfold gB; simp
 | _::_,[]=>by unfold gB; simp
 | x::xs,c::cs=>by
  have:=sf xs cs;unfold gB at this ⊢
  simpa using this
end
def xX:∀p∈cC,(p.2.cps.all λc=>decide (c < 128))=true/\p.2.length<=1000/\∀c∈p.2.cps.toList,(#[[c].toArray] : J3)∈(["x","m","w","i"]:JS J3):=by decide +kernel
def Eh {a n i:Kk}{c:J4}(h:(#[[c].toArray] : J3)∈(["x","m","w","i"]:JS J3)):(#[[c].toArray] : J3) = "x"\/((mC a n i).lookup #[[c].toArray]).isSome=true:=by
 rcases J5.mp h with h|h
 ·exact .inl h
 ·right;rcases J5.mp h with h|h
  ·rw[h]; rfl
  ·rcases J5.mp h with h|h
   ·rw[h]; rfl
   ·rw[Ky.mp h]; rfl
def mE {α β:Type}[BEq α][LawfulBEq α]{x:α}{y:β}:∀ {l:JS (α×β)},l.lookup x=bt y->(x,y)∈l
 | (z,v)::l,h=>by
  rw[KD]at h;cases e:x==z with
  | true=>rw[e]at h; cases h; rw[eq_of_beq e]; exact Kq
  | false=>rw[e]at h; exact Ko _ (mE h)
section
variable{defs:JS (J3×Df)}{fuel d:J4}{S:aa}{Q:QW}
def GY (L:Sn defs){Mqa N:JS W}{b0 w:W}{a n i:Kk}(hM:(Mqa.length:Kk)=a)(hN:(N.length:Kk)=n)(h:Thg S w)(k:∀S',Ka S S'->Q (.bl (aP a n i w),S')):wO (bu (ag defs fuel (d+4)) "is_row" 3 [.tup [.tup Mqa,.tup N,b0],w,.int i] S) Q:=by
 show aH L.row rfl rfl λQ' hR=>?_
 replace k:∀S',Ka S S'->Q' (.rt (.bl (aP a n i w)),S'):=λS' a=>hR _ _ (k S' a)
 clear hR;change wZ _ _ gP [bt (.tup [.tup Mqa,.tup N,b0]),bt w,bt (.int i),gV,gV] S Q';dsimp only[gP];nofun
 cases h with
 | @tup xs hx hl=>
  cases xs with
  | nil=>exact eO (x:=true) (a8 (x:=(!true)||(!false)) rfl (aQ (ar (aJ (λQ q=>q) rfl)) λ_ S1 k1=>ar (AH (λQ q=>q) rfl))) (λ_ S1 k1=>#[fY,λS2 k2=>k S2 (k1.trans k2)]) λz=>by cases z
  | cons y ys=>
   show eO (x:=false) (w:=.non) (a8 (x:=(!true)||(!true)) rfl (aQ (ar (aJ (λQ q=>q) rfl)) λ_ S1 k1=>ar (AH (λQ q=>q) rfl))) (λz=>by cases z) λ_ S1 k1=>hK _ _ ?_
   clear hK K;have hy:=hx y Kq;nofun
   have ix:∀ {S:aa} (Q:QW),Q (y,S)->wE (ag defs fuel (d+3)) (.ix (.v 1) (.c (.int 0))) [bt (.tup [.tup Mqa,.tup N,b0]),bt (.tup (y::ys)),bt (.int i),gV,gV] S Q:=λQ q=>by
    dsimp only[wE,wV,wG];exact dR #v[] rfl q
   by_cases hw:dS y=true
   ·cases y with
    | str x=>
     cases hf:cC.lookup x with
     | none=>
      have e:aP a n i (.tup (.str x::ys))=false:=by dsimp only[aP]; rw[hf]
      rw[e]at k;show eO (x:=true) (a8 (x:=(!true)||true) rfl (aQ (x:=!true) (ar (aJ ix rfl)) λ_ S2 k2=>a8 (by rw[j5,hf]; rfl) (xW ix))) (λ_ S2 k2=>#[fY,λS3 k3=>k S3 (k1.trans (k2.trans k3))]) λz=>by cases z
     | some f=>
      show eO (x:=false) (w:=.non) (a8 (x:=(!true)||false) rfl (aQ (x:=!true) (ar (aJ ix rfl)) λ_ S2 k2=>a8 (by rw[j5,hf]; rfl) (xW ix))) (λz=>by cases z) λ_ S2 k2=>hK _ _ ?_
      clear hK K;obtain⟨fa,fl,fc⟩:=xX (x,f) (mE hf);have hfa:Asc f:=#[fa,fl];nofun
      dsimp only[wS,wE,wV,wG,KH];show dR #v[] rfl ?_
      show af (a:=W.str f) (by rw[j5,hf]; rfl) ?_
      show hK _ _ ?_;clear hK K;have he:aP a n i (.tup (.str x::ys))=(((((W.str x::ys).length:J4):Kk)==(f.length:Kk)+1)&&(ys.zip f.cps.toList).all λp=>aA a n i p.2 p.1):=by dsimp only[aP]; rw[hf]
      nofun
      show eO (x:=!((((W.str x::ys).length:J4):Kk)==(f.length:Kk)+1)) (w:=.bl false) (bc λQ q=>?_) (λz S3 k3=>#[fY,λS4 k4=>?_]) λz S3 k3=>hK _ _ ?_
      ·dsimp only[wE,wA,wV,wG];show xT fl ?_;exact af (a:=(.int ((f.length:Kk)+1),S2)) rfl (af IJ (q _ .refl))
      ·rw[he,show((((W.str x::ys).length:J4):Kk)==(f.length:Kk)+1)=false by cases e:((((W.str x::ys).length:J4):Kk)==(f.length:Kk)+1) <;> first|rfl|(rw[e]at z; cases z),Nm]at k
       exact k S4 (k1.trans (k2.trans (k3.trans k4)))
      ·clear hK K;rw[he,show((((W.str x::ys).length:J4):Kk)==(f.length:Kk)+1)=true by cases e:((((W.str x::ys).length:J4):Kk)==(f.length:Kk)+1) <;> first|rfl|(rw[e]at z; cases z),Lw]at k
       nofun
       left;show dR #v[] rfl (fX (dR #v[] rfl (fX ?_)))
       subst hM hN;show#[al,af (a:=mC Mqa.length N.length i) rfl #[#[show(["m","w","i"]:JS J3).Nodup from#v[],Kf rfl],hK _ _ ?_]]
       clear hK K;have e4:(KH (S3++[O.dis []]) S3.length (.dis (mC Mqa.length N.length i)))[S3.length]?=bt (.dis (mC Mqa.length N.length i)):=ik al;have k4:Ka S3 (KH (S3++[O.dis []]) S3.length (.dis (mC Mqa.length N.length i))):=Ka.push.late (J9 _);generalize KH (S3++[O.dis []]) S3.length (.dis (mC Mqa.length N.length i))=S4 at e4 k4;have kk:=k1.trans (k2.trans (k3.trans k4));show dq (Eg (ys.zip f.cps.toList) (λp=>p.1) (λp=>W.str #[[p.2].toArray]) (λp=>aA Mqa.length N.length i p.2 p.1) [bt (.ref S3.length)] rfl rfl rfl rfl ?_ ys (f.cps.toList.map λc=>W.str #[[c].toArray]) (.str f) rfl (sf _ _) ?_ λp hp S5 k5 Q q=>?_) λS5 k5=>k S5 (kk.trans k5)
       ·rw[List.length_zip];have:ys.length<=100:=by rw[KJ]at hl; omega
        omega
       ·dsimp only[wE,wP,wV,wG,wN];show af (a:=(.tup ys,S4)) ?_ #[rfl,rfl,.refl];change bt (W.tup (jp (W.str x::ys) (bt ((1:J4):Kk)) gV),S4)=_;rw[xH]; rfl
       ·dsimp only[wE,wA,wV,wG];exact AG (d:=d) L (((hx p.1 (Ko _ (NC hp).1)).ka kk).ka k5) (k5.get _ _ e4) (Eh (fc p.2 (NC hp).2)) q
    | _=>cases hw
   ·have hw:dS y=false:=MP.mpr hw;have e:aP a n i (.tup (y::ys))=false:=by cases y <;> first|rfl|cases hw
    rw[e]at k;show eO (x:=true) (a8 (x:=(!dS y)||true) (OT _) (aQ (y:=true) (ar (aJ ix (hy.ka k1).s)) λz=>by rw[hw]at z; cases z)) (λ_ S2 k2=>#[fY,λS3 k3=>k S3 (k1.trans (k2.trans k3))]) λz=>by cases z
 | lst h=>exact eO (x:=true) (a8 (x:=(!false)||true) rfl (aQ (y:=true) (ar (aJ (λQ q=>q) (dP h rfl))) λz=>by cases z)) (λ_ S1 k1=>#[fY,λS2 k2=>k S2 (k1.trans k2)]) λz=>by cases z
 | _=>exact eO (x:=true) (a8 (x:=(!false)||true) rfl (aQ (y:=true) (ar (aJ (λQ q=>q) rfl)) λz=>by cases z)) (λ_ S1 k1=>#[fY,λS2 k2=>k S2 (k1.trans k2)]) λz=>by cases z
end
section
variable{a n i:Kk}{w:W}{r:JS W}
def qw:aA a n i 120 w=az w:=Ks #v[]
def IS:aA a n i 109 w=aI a w:=by unfold aA; rw[Kv #v[]]; rfl
def IT:aA a n i 119 w=aI n w:=by unfold aA; rw[Kv #v[]]; rfl
def qx:aA a n i 105 w=aI i w:=by unfold aA; rw[Kv #v[]]; rfl
def qy {x f:J3}{k:J4}{cs:JS J4}(hf:cC.lookup x=bt f)(hk:f.length=k)(hc:f.cps.toList=cs):aP a n i (.tup (.str x::r))=((r.length==k)&&(r.zip cs).all λp=>aA a n i p.2 p.1):=by
 dsimp only[aP];rw[hf];dsimp only;rw[hc];congr 1;subst hk;rw[KJ,Ri,Ma,Ma];omega
def GZ (h:(r.length==1)=true):∃u,r=[u]:=by
 match r,h with
 | [u],_=>exact#[u,rfl]
def mF (h:(r.length==2)=true):∃u v,r=[u,v]:=by
 match r,h with
 | [u,v],_=>exact#[u,v,rfl]
def Ei (h:(r.length==3)=true):∃u v w,r=[u,v,w]:=by
 match r,h with
 | [u,v,w],_=>exact#[u,v,w,rfl]
def IU {x f:J3}{p:W->Kn}{c:J4}(hf:cC.lookup x=bt f)(hk:f.length=1)(hc:f.cps.toList=[c])(h1:∀w,aA a n i c w=p w):aP a n i (.tup (.str x::r))=((r.length==1)&&p (r.getD 0 .non)):=by
 rw[qy hf hk hc];cases h:(r.length==1)
 ·rfl
 ·obtain⟨u,rfl⟩:=GZ h;show(true&&(aA a n i c u&&true))=_;rw[h1,Nd]; rfl
def ul {x f:J3}{p q:W->Kn}{c e:J4}(hf:cC.lookup x=bt f)(hk:f.length=2)(hc:f.cps.toList=[c,e])(h1:∀w,aA a n i c w=p w)(h2:∀w,aA a n i e w=q w):aP a n i (.tup (.str x::r))=((r.length==2)&&(p (r.getD 0 .non)&&q (r.getD 1 .non))):=by
 rw[qy hf hk hc];cases h:(r.length==2)
 ·rfl
 ·obtain⟨u,v,rfl⟩:=mF h;show(true&&(aA a n i c u&&(aA a n i e v&&true)))=_;rw[h1,h2,Nd]; rfl
def IV {x f:J3}{p q s:W->Kn}{c e g:J4}(hf:cC.lookup x=bt f)(hk:f.length=3)(hc:f.cps.toList=[c,e,g])(h1:∀w,aA a n i c w=p w)(h2:∀w,aA a n i e w=q w)(h3:∀w,aA a n i g w=s w):aP a n i (.tup (.str x::r))=((r.length==3)&&(p (r.getD 0 .non)&&(q (r.getD 1 .non)&&s (r.getD 2 .non)))):=by
 rw[qy hf hk hc];cases h:(r.length==3)
 ·rfl
 ·obtain⟨u,v,w,rfl⟩:=Ei h;show(true&&(aA a n i c u&&(aA a n i e v&&(aA a n i g w&&true))))=_;rw[h1,h2,h3,Nd]; rfl
def j6:aP a n i (.tup (.str "same" :: r))=((r.length==2)&&(az (r.getD 0 .non)&&az (r.getD 1 .non))):=ul (f:="xx") rfl rfl rfl (λ_=>qw) (λ_=>qw)
def j7:aP a n i (.tup (.str "mark" :: r))=((r.length==2)&&(az (r.getD 0 .non)&&aI a (r.getD 1 .non))):=ul (f:="xm") rfl rfl rfl (λ_=>qw) (λ_=>IS)
def mG:aP a n i (.tup (.str "way" :: r))=((r.length==3)&&(az (r.getD 0 .non)&&(az (r.getD 1 .non)&&aI n (r.getD 2 .non)))):=IV (f:="xxw") rfl rfl rfl (λ_=>qw) (λ_=>qw) (λ_=>IT)
def sg:aP a n i (.tup (.str "not" :: r))=((r.length==1)&&aI i (r.getD 0 .non)):=IU (f:="i") rfl rfl rfl (λ_=>qx)
def si {x:J3}(h:x = "and"\/x = "or"):aP a n i (.tup (.str x::r))=((r.length==2)&&(aI i (r.getD 0 .non)&&aI i (r.getD 1 .non))):=by
 rcases h with rfl|rfl
 ·exact ul (f:="ii") rfl rfl rfl (λ_=>qx) (λ_=>qx)
 ·exact ul (f:="ii") rfl rfl rfl (λ_=>qx) (λ_=>qx)
def mH {x:J3}(h:x = "some"\/x = "each"):aP a n i (.tup (.str x::r))=((r.length==2)&&(az (r.getD 0 .non)&&aI i (r.getD 1 .non))):=by
 rcases h with rfl|rfl
 ·exact ul (f:="xi") rfl rfl rfl (λ_=>qw) (λ_=>qx)
 ·exact ul (f:="xi") rfl rfl rfl (λ_=>qw) (λ_=>qx)
def oN {x:J3}(h:x∉cC.map (·.1)):aP a n i (.tup (.str x::r))=false:=by
 have e:cC.lookup x=gV:=by
  cases e:cC.lookup x with
  | none=>rfl
  | some f=>exact absurd (List.mem_map_of_mem (f:=λp:J3×J3=>p.1) (mE e)) h
 dsimp only[aP];rw[e]
end
section
variable{M:J3->FF}{fuel:J4}{Z:Fm}{S:aa}{K:Fm->aa->Prop}{Q:QO}
def fG {t:E}{a:Ss}(ht:Te M Z t S false)(hk:∀S',Ka S S'->K Z S'):wS M fuel (.ite t a .nil) Z S K Q:=by
 dsimp only[wS];exact ht _ λS' k' Q' h1 h2=>#[λz=>(by cases z),λ_=>(cV (h1 _ _ (hk S' k'))).out]
def bR {t e:E}{a b:Ss}{w:W}(ht:Te M Z t S true)(hr:∀S',Ka S S'->Ve M Z e S' w)(q:∀S',Ka S S'->Q (.rt w,S')):wS M fuel (.ite t (.cons (.ret e) a) b) Z S K Q:=by
 dsimp only[wS];show ht _ λS' k' Q' h1 h2=>#[λz=>?_,λz=>(by cases z)]
 show(st (Q:=Q') ?_).out;dsimp only[wS];exact hr S' k' _ λS2 k2=>h2 (.rt w) S2 (λ_ z=>nomatch z) (q S2 (k'.trans k2))
def fH {x y:J3}{b:Kn}{j:J4}(hv:∀Q:W->Prop,Q (.str x)->wV Z j Q)(h:(x==y)=b):Te M Z (.cmp .eq (.v j) (.c (.str y))) S b:=a8 h (bc (cY (v:=.str x) (w:=.str y) (λQ q=>hv _ q) (λQ q=>q) rfl))
def xY {x y z:J3}{b:Kn}{j:J4}(hv:∀Q:W->Prop,Q (.str x)->wV Z j Q)(h:((x==y)||(x==z))=b):Te M Z (.or (.cmp .eq (.v j) (.c (.str y))) (.cmp .eq (.v j) (.c (.str z)))) S b:=a8 h (aQ (fH hv rfl) λ_ S' k'=>fH hv rfl)
def eP {e:E}{xs:JS W}{k:Kk}(hv:∀Q:QW,Q (.tup xs,S)->wE M e Z S Q):Ve M Z (.cmp .eq (.bi .len #v[e]) (.c (.int k))) S (.bl ((xs.length:Kk)==k)):=λQ q=>by
 dsimp only[wE,wA];exact hv _ (fX (af pX (q _ .refl)))
end
def xZ:∀p∈cC,1<=p.2.length:=by decide
def AI {a n i:Kk}{x:J3}:aP a n i (.tup [.str x])=false:=by
 dsimp only[aP];cases hf:cC.lookup x with
 | none=>rfl
 | some f=>
  have h:=xZ (x,f) (mE hf);have e:((((W.str x::[]).length:J4):Kk)==(f.length:Kk)+1)=false:=by
   rw[LH];intro z;have:(([W.str x].length:J4):Kk)=1:=rfl;have h:1<=f.length:=h;omega
  dsimp only;rw[e]; rfl
def j8 {y u:W}{r:JS W}{k:J4}:((((y::u::r).length:J4):Kk)==((k+1:J4):Kk))=((u::r).length==k):=by
 rw[Ri,Ma,Ma,KJ];omega
abbrev sj:JS J3:=["same","mark","way","some","each"]
def um {a n i:Kk}{x:J3}{u:W}{r:JS W}(h:x∈sj)(hu:az u=false):aP a n i (.tup (.str x::u::r))=false:=by
 have f:∀(b c:Kn),(b&&(az ((u::r).getD 0 .non)&&c))=false:=λb c=>by
  show(b&&(az u&&c))=false;rw[hu,Nm,NL]
 rcases J5.mp h with rfl|h
 ·rw[j6]; exact f _ _
 rcases J5.mp h with rfl|h
 ·rw[j7]; exact f _ _
 rcases J5.mp h with rfl|h
 ·rw[mG]; exact f _ _
 rcases J5.mp h with rfl|h
 ·rw[mH (.inl rfl)]; exact f _ _
 ·rw[mH (.inr (Ky.mp h))]; exact f _ _
section
variable{defs:JS (J3×Df)}{fuel d:J4}{S:aa}{Q:QW}
def Ej (L:Sn defs){Mqa N:JS W}{b0 w:W}{a n i:Kk}(hM:(Mqa.length:Kk)=a)(hN:(N.length:Kk)=n)(h:Thg S w)(k:∀S',Ka S S'->Q (.bl (aP a n i w),S')):wO (bu (ag defs fuel (d+2)) "_law_row_fits" 3 [.tup [.tup Mqa,.tup N,b0],w,.int i] S) Q:=by
 show aH L.l_row_fits rfl rfl λQ' hR=>?_
 replace k:∀S',Ka S S'->Q' (.rt (.bl (aP a n i w)),S'):=λS' a=>hR _ _ (k S' a)
 clear hR;change wZ _ _ bP [bt (.tup [.tup Mqa,.tup N,b0]),bt w,bt (.int i),gV] S Q';unfold bP;nofun
 have no:aP a n i w=false->Te (ag defs fuel (d+1)) [bt (.tup [.tup Mqa,.tup N,b0]),bt w,bt (.int i),gV] (.or (.not (.isi "tuple" (.v 1))) (.or (.cmp .lt (.bi .len #v[.v 1]) (.c (.int 2))) (.not (.isi "str" (.ix (.v 1) (.c (.int 0))))))) S true->_:=λe t=>bR (K:=K) (Q:=Q') (a:=.nil) (b:=.nil) (fuel:=fuel) (w:=.bl false) t (λS' k'=>fY) λS' k'=>e ▸ k S' k'
 cases h with
 | @tup xs hx hl=>
  match xs,hx,hl with
  | [],_,_=>exact no rfl (a8 (x:=(!true)||(true||true)) rfl (aQ (ar (aJ (λQ q=>q) rfl)) λ_ S1 k1=>aQ (y:=true) (bc λQ q=>q S1 .refl) λz=>by cases z))
  | [y],_,_=>exact no (by cases y <;> first|rfl|exact AI) (a8 (x:=(!true)||(true||true)) rfl (aQ (ar (aJ (λQ q=>q) rfl)) λ_ S1 k1=>aQ (y:=true) (bc λQ q=>q S1 .refl) λz=>by cases z))
  | y::u::r,hx,hl=>
   have hy:=hx y Kq;have hu:=hx u (Ko _ Kq);have hr:∀w∈r,Thg S w:=λw hw=>hx w (Ko _ (Ko _ hw))
   have l2:∀ {S:aa} (Q:QW),Q (.bl false,S)->wE (ag defs fuel (d+1)) (.cmp .lt (.bi .len #v[.v 1]) (.c (.int 2))) [bt (.tup [.tup Mqa,.tup N,b0]),bt (.tup (y::u::r)),bt (.int i),gV] S Q:=λQ q=>by
    dsimp only[wE,wA,wV,wG];show fX (af ou ?_);rw[show decide ((((y::u::r).length:J4):Kk) < 2)=false from KC (by rw[KJ,KJ]; omega)]
    exact q
   have ix:∀ {S:aa} (Q:QW),Q (y,S)->wE (ag defs fuel (d+1)) (.ix (.v 1) (.c (.int 0))) [bt (.tup [.tup Mqa,.tup N,b0]),bt (.tup (y::u::r)),bt (.int i),gV] S Q:=λQ q=>by
    dsimp only[wE,wV,wG];exact dR #v[] rfl q
   by_cases hw:dS y=true
   ·cases y with
    | str x=>
     clear no;show fG (a8 (x:=(!true)||(false||(!true))) rfl (aQ (ar (aJ (λQ q=>q) rfl)) λ_ S1 k1=>aQ (bc λQ q=>l2 _ (q _ .refl)) λ_ S2 k2=>ar (aJ ix rfl))) λS1 k1=>hK _ _ ?_
     clear hK K l2;nofun
     dsimp only[wS];show ix _ (hK _ _ ?_);clear hK K ix;dsimp only[KH];have sh:∀ {S':aa} {v:W} {j:Kk},Ka S S'->Thg S v->0<=j->(W.str x::u::r)[j.toNat]?=bt v->Ve (ag defs fuel (d+1)) [bt (.tup [.tup Mqa,.tup N,b0]),bt (.tup (.str x::u::r)),bt (.int i),bt (.str x)] (.own "_law_is_short" 1 #v[.ix (.v 1) (.c (.int j))]) S' (.bl (az v)):=λk' hv h0 hj Q q=>by
      dsimp only[wE,wA,wV,wG];exact dR h0 hj (AE (d:=d) L (hv.ka k') q)
     have be:∀ {S':aa} {v:W} {j b:Kk} {e:E},Ka S S'->Thg S v->0<=j->(W.str x::u::r)[j.toNat]?=bt v->(∀Q:QW,Q (.int b,S')->wE (ag defs fuel (d+1)) e [bt (.tup [.tup Mqa,.tup N,b0]),bt (.tup (.str x::u::r)),bt (.int i),bt (.str x)] S' Q)->Ve (ag defs fuel (d+1)) [bt (.tup [.tup Mqa,.tup N,b0]),bt (.tup (.str x::u::r)),bt (.int i),bt (.str x)] (.own "_law_is_below" 2 #v[.ix (.v 1) (.c (.int j)),e]) S' (.bl (aI b v)):=λk' hv h0 hj he Q q=>by
      dsimp only[wE,wA,wV,wG];exact dR h0 hj (he _ (sd (d:=d) L (hv.ka k') (q _ .refl)))
     nofun
     show eO (x:=decide (x∈sj) && !az u) (w:=.bl false) (Ed (bc (mB (zs:=sj) (λQ q=>q))) λ_ S2 k2=>ar (qr (sh (k1.trans k2) hu #v[] rfl))) (λz S2 k2=>#[fY,λS3 k3=>?_]) λz S2 k2=>hK _ _ ?_
     ·rw[JY]at z;have e:=um (a:=a) (n:=n) (i:=i) (r:=r) (La z.1) (u:=u) (by cases e:az u <;> first|rfl|(rw[e]at z; cases z.2))
      rw[e]at k;exact k S3 (k1.trans (k2.trans k3))
     clear hK K;have kk:=k1.trans k2;have hs:x∈sj->az u=true:=λh=>by
      rw[Lh h,Lw]at z;cases e:az u <;> first|rfl|(rw[e]at z; cases z)
     clear z
     by_cases h1:x = "same"
     ·subst h1;have e:aP a n i (.tup (.str "same" :: u::r))=(((((W.str "same" :: u::r).length:J4):Kk)==3)&&az (r.getD 0 .non)):=by rw[j6,<- j8,show(u::r).getD 0 .non=u from rfl,hs #v[],Lw]; rfl
      rw[e]at k;show bG λK hK=>bR (fH (x:="same") (λQ q=>q) rfl) (λS3 k3=>bj (eP λQ q=>q) λhl S4 k4=>?_) λS3 k3=>k S3 (kk.trans k3)
      obtain⟨_,v,e2⟩:=mF (j8.symm.trans hl);cases e2;exact sh (kk.trans (k3.trans k4)) (hr v Kq) #v[] rfl
     show bG λK hK=>fG (fH (x:=x) (λQ q=>q) (L8 h1)) λS3 k3=>hK _ _ ?_
     clear hK K;replace kk:=kk.trans k3
     by_cases h2:x = "mark"
     ·subst h2;have e:aP a n i (.tup (.str "mark" :: u::r))=(((((W.str "mark" :: u::r).length:J4):Kk)==3)&&aI a (r.getD 0 .non)):=by rw[j7,<- j8,show(u::r).getD 0 .non=u from rfl,hs #v[],Lw]; rfl
      rw[e]at k;show bG λK hK=>bR (fH (x:="mark") (λQ q=>q) rfl) (λS3 k3=>bj (eP λQ q=>q) λhl S4 k4=>?_) λS3 k3=>k S3 (kk.trans k3)
      obtain⟨_,v,e2⟩:=mF (j8.symm.trans hl);cases e2;show be (kk.trans (k3.trans k4)) (hr v Kq) #v[] rfl λQ q=>?_
      dsimp only[wE,wA,wV,wG];exact dR #v[] rfl (fX (by rw[hM]; exact q))
     show bG λK hK=>fG (fH (x:=x) (λQ q=>q) (L8 h2)) λS3 k3=>hK _ _ ?_
     clear hK K;replace kk:=kk.trans k3
     by_cases h3:x = "way"
     ·subst h3;have e:aP a n i (.tup (.str "way" :: u::r))=(((((W.str "way" :: u::r).length:J4):Kk)==4)&&(az (r.getD 0 .non)&&aI n (r.getD 1 .non))):=by rw[mG,<- j8,show(u::r).getD 0 .non=u from rfl,hs #v[],Lw]; rfl
      rw[e]at k;show bG λK hK=>bR (fH (x:="way") (λQ q=>q) rfl) (λS3 k3=>bj (eP λQ q=>q) λhl S4 k4=>?_) λS3 k3=>k S3 (kk.trans k3)
      obtain⟨_,v,v2,e2⟩:=Ei (j8.symm.trans hl);cases e2;show bj (sh (kk.trans (k3.trans k4)) (hr v Kq) #v[] rfl) λ_ S5 k5=>be (kk.trans (k3.trans (k4.trans k5))) (hr v2 (Ko _ Kq)) #v[] rfl λQ q=>?_
      dsimp only[wE,wA,wV,wG];exact dR #v[] rfl (fX (by rw[hN]; exact q))
     show bG λK hK=>fG (fH (x:=x) (λQ q=>q) (L8 h3)) λS3 k3=>hK _ _ ?_
     clear hK K;replace kk:=kk.trans k3
     by_cases h4:x = "not"
     ·subst h4;have e:aP a n i (.tup (.str "not" :: u::r))=(((((W.str "not" :: u::r).length:J4):Kk)==2)&&aI i u):=by rw[sg,<- j8]; rfl
      rw[e]at k;exact bG λK hK=>bR (fH (x:="not") (λQ q=>q) rfl) (λS3 k3=>bj (eP λQ q=>q) λhl S4 k4=>be (kk.trans (k3.trans k4)) hu #v[] rfl λQ q=>q) λS3 k3=>k S3 (kk.trans k3)
     show bG λK hK=>fG (fH (x:=x) (λQ q=>q) (L8 h4)) λS3 k3=>hK _ _ ?_
     clear hK K;replace kk:=kk.trans k3
     by_cases h5:x = "and"\/x = "or"
     ·have e:aP a n i (.tup (.str x::u::r))=(((((W.str x::u::r).length:J4):Kk)==3)&&(aI i u&&aI i (r.getD 0 .non))):=by rw[si h5,<- j8]; rfl
      rw[e]at k;show bG λK hK=>bR (xY (x:=x) (λQ q=>q) (by rcases h5 with rfl|rfl <;> rfl)) (λS3 k3=>bj (eP λQ q=>q) λhl S4 k4=>?_) λS3 k3=>k S3 (kk.trans k3)
      obtain⟨_,v,e2⟩:=mF (j8.symm.trans hl);cases e2;exact bj (be (kk.trans (k3.trans k4)) hu #v[] rfl λQ q=>q) λ_ S5 k5=>be (kk.trans (k3.trans (k4.trans k5))) (hr v Kq) #v[] rfl λQ q=>q
     have h5a:x≠"and":=λe=>h5 (.inl e)
     have h5b:x≠"or":=λe=>h5 (.inr e)
     show bG λK hK=>fG (xY (x:=x) (λQ q=>q) (by rw[L8 h5a,L8 h5b]; rfl)) λS3 k3=>hK _ _ ?_
     clear hK K;replace kk:=kk.trans k3
     by_cases h6:x = "some"\/x = "each"
     ·have e:aP a n i (.tup (.str x::u::r))=(decide (x∈(["some","each"]:JS J3))&&(((((W.str x::u::r).length:J4):Kk)==3)&&aI i (r.getD 0 .non))):=by rw[mH h6,<- j8,show(u::r).getD 0 .non=u from rfl,hs (by rcases h6 with rfl|rfl <;> decide),Lw,Lh (by rcases h6 with rfl|rfl <;> decide),Lw]; rfl
      rw[e]at k;show dq (bj (mB (zs:=["some","each"]) λQ q=>q) λ_ S3 k3=>bj (eP λQ q=>q) λhl S4 k4=>?_) λS3 k3=>k S3 (kk.trans k3)
      obtain⟨_,v,e2⟩:=mF (j8.symm.trans hl);cases e2;exact be (kk.trans (k3.trans k4)) (hr v Kq) #v[] rfl λQ q=>q
     ·have h6a:x≠"some":=λe=>h6 (.inl e)
      have h6b:x≠"each":=λe=>h6 (.inr e)
      have hn:x∉(["some","each"]:JS J3):=λz=>by
       rcases J5.mp z with z|z
       ·exact h6a z
       ·exact h6b (Ky.mp z)
      have e:aP a n i (.tup (.str x::u::r))=false:=oN λz=>by
       rcases J5.mp z with z|z
       ·exact h1 z
       rcases J5.mp z with z|z
       ·exact h2 z
       rcases J5.mp z with z|z
       ·exact h3 z
       rcases J5.mp z with z|z
       ·exact h4 z
       rcases J5.mp z with z|z
       ·exact h5a z
       rcases J5.mp z with z|z
       ·exact h5b z
       exact hn z
      rw[e]at k;exact dq (lx (x:=decide (x∈(["some","each"]:JS J3))&&true) (by rw[KC hn]; rfl) (bj (y:=true) (mB (zs:=["some","each"]) λQ q=>q) λz=>absurd (La z) hn)) λS3 k3=>k S3 (kk.trans k3)
    | _=>cases hw
   ·have hw:dS y=false:=MP.mpr hw;exact no (by cases y <;> first|rfl|cases hw) (a8 (x:=(!true)||(false||(!dS y))) (by rw[hw]; rfl) (aQ (ar (aJ (λQ q=>q) rfl)) λ_ S1 k1=>aQ (bc λQ q=>l2 _ (q _ .refl)) λ_ S2 k2=>ar (aJ ix ((hy.ka k1).ka k2).s)))
 | lst h=>exact no rfl (a8 (x:=(!false)||true) rfl (aQ (y:=true) (ar (aJ (λQ q=>q) (dP h rfl))) λz=>by cases z))
 | _=>exact no rfl (a8 (x:=(!false)||true) rfl (aQ (y:=true) (ar (aJ (λQ q=>q) rfl)) λz=>by cases z))
end
def Jq {i:J4}{w:W}{Z:Fm}{S:aa}{Q:Fm×aa->Prop}(q:Q (Z.set i (bt w),S)):wO (t6 (.nm i) w Z S) Q:=q
inductive Rw where
 | same (x y:J3)
 | mark (x:J3) (m:Kk)
 | way (x y:J3) (m:Kk)
 | no (i:J4)
 | two (b:Kn) (i j:J4)
 | qu (b:Kn) (x:J3) (i:J4)
abbrev Rw.w:Rw->W
 | .same x y=>.tup [.str "same",.str x,.str y]
 | .mark x m=>.tup [.str "mark",.str x,.int m]
 | .way x y m=>.tup [.str "way",.str x,.str y,.int m]
 | .no i=>.tup [.str "not",.int i]
 | .two b i j=>.tup [.str (match b with|true=>"and"|false=>"or"),.int i,.int j]
 | .qu b x i=>.tup [.str (match b with|true=>"some"|false=>"each"),.str x,.int i]
abbrev Rw.ok (k:J4):Rw->Prop
 | .no i=>i < k
 | .two _ i j=>i < k/\j < k
 | .qu _ _ i=>i < k
 | _=>Rk
structure SS (l:JS J3):Prop where
 nd:l.Nodup
 pw:l.Pairwise λa b=>oU a b=true
def AJ {l:JS J3}{x:J3}(h:l.Nodup)(hx:x∉l):(l++[x]).Nodup:=by
 rw[NM];exact#[h,by simp,λa ha b hb=>by rw[Ky.mp hb]; exact λe=>hx (e ▸ ha)]
def AK {l:JS J3}{x:J3}(h:l.Nodup):(iE l x).Nodup:=by
 unfold iE
 by_cases hx:x∈l
 ·rw[Ks hx]; exact h
 ·rw[Kv hx]; exact AJ h hx
def sk:∀(l acc:JS J3),acc.Nodup->(l.foldl iE acc).Nodup
 | [],_,h=>h
 | x::l,acc,h=>sk l (iE acc x) (AK h)
def Ek (l:JS J3):(bJ l).Nodup:=sk l [] Pl
def sm:∀(l acc:JS J3),(acc++l).Nodup->l.foldl iE acc=acc++l
 | [],acc,_=>by simp
 | x::l,acc,h=>by
  have hx:x∉acc:=λhx=>by
   rw[NM]at h;exact h.2.2 x hx x (.head _) rfl
  rw[O0,iE,Kv hx,sm l (acc++[x]) (by simpa using h)]
  simp
def SS.eq {l:JS J3}(h:SS l):cJ (bJ l)=l:=by
 rw[show bJ l=l from sm l [] h.nd]
 exact vG dA jw h.pw
def SS.srt (l:JS J3):SS (cJ (bJ l)):=#[dA.nodup_iff.mpr (Ek l),jw]
def SS.one (x:J3):SS [x]:=#[by simp,by simp]
def SS.flt {l:JS J3}{p:J3->Kn}(h:SS l):SS (l.filter p):=#[h.nd.filter _,h.pw.filter _]
def SS.nil:SS []:=#[Pl,.nil]
abbrev bn (fs:JS (JS J3)):Rw->JS J3
 | .same x y=>cJ (bJ [x,y])
 | .mark x _=>[x]
 | .way x y _=>cJ (bJ [x,y])
 | .no i=>fs.getD i []
 | .two _ i j=>cJ (bJ (fs.getD i []++fs.getD j []))
 | .qu _ x i=>(fs.getD i []).filter λy=>!(y==x)
abbrev Gf (fs:JS (JS J3)):Prop:=∀f∈fs,SS f/\f.length<=10
def Gf.at {fs:JS (JS J3)}(g:Gf fs)(i:J4):SS (fs.getD i [])/\(fs.getD i []).length<=10:=by
 rw[LZ];cases e:fs[i]? with
 | none=>exact#[.nil,Mt _]
 | some f=>exact g f (Lr e)
def Gf.len {fs:JS (JS J3)}(g:Gf fs)(i:J4):(fs.getD i []).length<=10:=(g.at i).2
def Gf.free {fs:JS (JS J3)}(g:Gf fs){x:Rw}:SS (bn fs x):=by
 cases x with
 | same x y=>exact .srt _
 | mark x m=>exact .one _
 | way x y m=>exact .srt _
 | no i=>exact(g.at i).1
 | two b i j=>exact .srt _
 | qu b x i=>exact(g.at i).1.flt
abbrev Fs (S:aa)(t:J4)(fs:JS (JS J3)):Prop:=∃rs:JS J4,S[t]?=bt (.lst (rs.map W.ref))/\rs.length=fs.length/\∀(i:J4) (r:J4),rs[i]?=bt r->t < r/\S[r]?=bt (.lst ((fs.getD i []).map W.str))
def Fs.ka {S S':aa}{t:J4}{fs:JS (JS J3)}(h:Fs S t fs)(a:Ka S S'):Fs S' t fs:=let ⟨rs,e,l,h⟩:=h; #[rs,a.get _ _ e,l,λi r hr=>#[(h i r hr).1,a.get _ _ (h i r hr).2]]
def Fs.lt {S:aa}{t:J4}{fs:JS (JS J3)}(h:Fs S t fs):t < S.length:=let ⟨_,e,_⟩:=h; lm e
def Fs.lst {S:aa}{t:J4}{fs:JS (JS J3)}(h:Fs S t fs):tyOk "list" S (.ref t)=true:=let ⟨_,e,_⟩:=h; jS e
def qA {S:aa}{t:J4}{fs:JS (JS J3)}{Q:QW}(h:Fs S t fs){i:J4}(hi:i < fs.length)(q:∀r,t < r->S[r]?=bt (.lst ((fs.getD i []).map W.str))->Q (.ref r,S)):wO (nJ (.ref t) (.int (i:Kk)) S) Q:=by
 obtain⟨rs,e,l,h⟩:=h;have hr:rs[i]?=bt (rs[i]'∅):=Kt _
 exact dJ (i:=i) e (by rw[KA,hr]; rfl) (q _ (h i _ hr).1 (h i _ hr).2)
def x4 {S:aa}{t r:J4}{fs:JS (JS J3)}{f:JS J3}{Q:QW}(h:Fs S t fs)(hl:fs.length < 1000)(htr:t < r)(hr:S[r]?=bt (.lst (f.map W.str)))(q:∀o,Fs (S.set t o) t (fs++[f])->Q (.non,S.set t o)):wO (Me.append.fn (.ref t) [.ref r] S) Q:=by
 obtain⟨rs,e,l,h⟩:=h;show rY e (by rw[J6]; omega) (q _ #[rs++[r],by rw[ik e,L4]; rfl,by simp[l],λi u hu=>?_])
 rw[LZ];rw[List.getElem?_append]at hu ⊢
 by_cases hi:i < rs.length
 ·rw[Ks hi]at hu;rw[Ks ∅]
  have:=h i u hu;rw[LZ]at this;exact#[this.1,by rw[eG ∅]; exact this.2]
 ·rw[Kv hi]at hu;rw[Kv ∅]
  obtain⟨h0,e0⟩:=Kc.mp hu;simp at h0;have hi0:i - fs.length=0:=∅
  rw[hi0];simp at e0;subst e0;exact#[htr,by rw[eG ∅]; exact hr]
def iV {S:aa}{t:J4}{zs:JS J3}{Q:QW}(h:S[t]?=bt (.lst (zs.map W.str)))(hl:zs.length<=60)(q:Q (.ref (S.length+1),(S++[.sts (bJ zs)])++[.lst ((cJ (bJ zs)).map W.str)])):wO (Bi.set.fn [.ref t] S) λp=>wO (Bi.sorted.fn [p.1] p.2) Q:=by
 show af (a:=(.ref S.length,S++[.sts (bJ zs)])) ?_ (af ?_ q)
 ·simp only[Bi.fn,lU,aF h,kX];rw[Ks (show zs.length+1 < scanBound by change zs.length+1 < 4096; omega)]
 ·have e:EB (S++[.sts (bJ zs)]) S.length=bt (bJ zs):=by simp only[EB,al]
  simp only[Bi.fn,gp,e];rw[Ks (by have:=m9 zs; omega),Kb]
  rfl
section
variable{M:J3->FF}{fuel:J4}{Z:Fm}{S:aa}{K:Fm->aa->Prop}
def oO {t:E}{a b:Ss}{Q:QO}(ht:∀Q:QB,Q (false,S)->wT M t Z S Q)(h:∀Q':QO,(∀Z' S',K Z' S'->Q' (.nx Z',S'))->(∀w S',Q (.rt w,S')->Q' (.rt w,S'))->wZ M fuel b Z S Q'):wS M fuel (.ite t a b) Z S K Q:=by
 dsimp only[wS];exact ht _ λQ' h1 h2=>#[λz=>(by cases z),λ_=>(h Q' h1 λw S'=>h2 (.rt w) S' (λ_ z=>nomatch z)).out]
def bF {ws:JS W}{a b:J3}{k:Kn}(hw:ws[0]?=bt (.str a))(hk:(a==b)=k):∀Q:QB,Q (k,S)->wT M (.cmp .eq (.ix (.v 0) (.c (.int 0))) (.c (.str b))) (bt (.tup ws)::Z) S Q:=λQ q=>by
 dsimp only[wT,wE,wV,wG];show af (dj (i:=0) #v[] hw) ?_
 dsimp only[Gq,cj,wB];rw[hk]; exact q
def cD {ws:JS W}{a b c:J3}{k:Kn}(hw:ws[0]?=bt (.str a))(hk:(a==b||a==c)=k):∀Q:QB,Q (k,S)->wT M (.or (.cmp .eq (.ix (.v 0) (.c (.int 0))) (.c (.str b))) (.cmp .eq (.ix (.v 0) (.c (.int 0))) (.c (.str c)))) (bt (.tup ws)::Z) S Q:=λQ q=>by
 subst hk;change wT M (.cmp .eq (.ix (.v 0) (.c (.int 0))) (.c (.str b))) (bt (.tup ws)::Z) S λp=>(p.1=true->Q (true,p.2))/\(p.1=false->wT M (.cmp .eq (.ix (.v 0) (.c (.int 0))) (.c (.str c))) (bt (.tup ws)::Z) p.2 Q)
 show bF hw rfl _ #[λe=>?_,λe=>bF hw rfl _ ?_]
 ·rw[show(a==b)=true from e,Sd]at q; exact q
 ·rw[show(a==b)=false from e,NY]at q; exact q
def x8 {e:E}{i0:J4}{t:J4}{zs:JS J3}{ws:JS W}{x:J3}{Q:QW}(oe:dw e=true)(he:∀Q:QW,Q (.ref t,S)->wE M e Z S Q)(hz:S[t]?=bt (.lst (zs.map W.str)))(hl:zs.length<=1000)(hρ:(Z[i0]?).join=bt (.tup ws))(hx:ws[1]?=bt (.str x))(q:Q (.ref S.length,S++[.lst ((zs.filter λy=>!(y==x)).map W.str)])) :
  Wp (ap M (.comp (.v 1) (.nm 1) (.seq e) #v[.cmp .ne (.v 1) (.ix (.v 2) (.c (.int 1)))] [gV,gV,bt i0]) Z S) Q:=by
 show Ay t (zs.map W.str) (λi ys Z S'=>(∃a,Z=[gV,a,bt (.tup ws)])/\S'=S/\ys=((zs.take i).filter λy=>!(y==x)).map W.str) oe rfl rfl (he _ #[rfl,#[gV,by simp only[eD,List.map,hρ]],rfl,rfl]) (λi ys Z S' h=>h.2.1 ▸ hz) ?_ ?_
 ·rintro i w ys Z _ hi ⟨⟨a,rfl⟩,rfl,rfl⟩;rw[KA]at hi;cases e:zs[i]? with
  | none=>rw[e]at hi; cases hi
  | some y=>
   rw[e]at hi;cases hi;show Jq ?_;dsimp only[rV,wC,wT,wE,wV,wG,KH];show af (dj (i:=1) #v[] hx) ?_
   dsimp only[Gr,cj,wB];rw[Pd,e,Ow];show#[λh=>#[#[_,rfl],rfl,?_],λh=>#[#[_,rfl],rfl,?_]]
   ·rw[L4,show(bt y).toList=[y]from rfl,QV,Ks h]; rfl
   ·rw[L4,show(bt y).toList=[y]from rfl,QV,Kv (by rw[h]; decide),List.filter_nil,Qj,Lu]
 ·rintro ys Z _ ⟨_,rfl,rfl⟩;rw[LD (show zs.length<=(zs.map W.str).length by rw[J6]; exact J9 _)]
  show#[?_,q];rw[J6];exact Kx (Kx (NS _ _) hl) (cz rfl)
end
def j9 {S:aa}{a b:O}:Ka S ((S++[a])++[b]):=Ka.push.trans .push
def x9 {S:aa}{t:J4}{xs:JS W}{Q:QW}(h:S[t]?=bt (.lst xs))(q:Q (.ref S.length,S++[.lst xs])):wO (Bi.list.fn [.ref t] S) Q:=af (by
 have:zv S t=gV:=by simp only[zv,h]
 simp only[Bi.fn,Bt,nB,this,gk,eh,aF h]) q
section
variable{defs:JS (J3×Df)}{fuel d:J4}{S:aa}{r:J4}{Q:QW}
def El (L:Sn defs){fs:JS (JS J3)}{t:J4}{x:Rw}(F:Fs S t fs)(g:Gf fs)(ok:x.ok fs.length)(k:∀u S',S.length<=u->Ka S S'->S'[u]?=bt (.lst ((bn fs x).map W.str))->Q (.ref u,S')) :
  wO (bu (ag defs fuel (d+1)) "_law_free" 2 [x.w,.ref t] S) Q:=by
 show aH L.l_free rfl rfl λQ' hR=>?_
 replace k:∀u S',S.length<=u->Ka S S'->S'[u]?=bt (.lst ((bn fs x).map W.str))->Q' (.rt (.ref u),S'):=λu S' a b c=>hR _ _ (k u S' a b c)
 clear hR;change wZ _ _ dO [bt x.w,bt (.ref t)] S Q';dsimp only[dO];cases x with
 | mark x m=>
  dsimp only[Rw.w];show st (eM (bF rfl rfl) λQ2 _ hr=>st ?_)
  left;exact af (dj (i:=1) #v[] rfl) (hr _ _ (k _ _ (J9 _) .push al))
 | same x y=>
  dsimp only[Rw.w];show st (bf (bF rfl rfl) (st (eM (cD rfl rfl) λQ2 _ hr=>st ?_)))
  left;show af (dj (i:=1) #v[] rfl) (af (dj (i:=2) #v[] rfl) ?_)
  show iV (zs:=[x,y]) al (Kf rfl) (hr _ _ (k _ _ ?_ (Ka.push.trans j9) ?_))
  ·simp only[Kb]; omega
  ·rw[show(S++[O.lst [W.str x,W.str y]]).length+1=((S++[O.lst [W.str x,W.str y]])++[O.sts (bJ [x,y])]).length by simp]
   exact al
 | way x y m=>
  dsimp only[Rw.w];show st (bf (bF rfl rfl) (st (eM (cD rfl rfl) λQ2 _ hr=>st ?_)))
  left;show af (dj (i:=1) #v[] rfl) (af (dj (i:=2) #v[] rfl) ?_)
  show iV (zs:=[x,y]) al (Kf rfl) (hr _ _ (k _ _ ?_ (Ka.push.trans j9) ?_))
  ·simp only[Kb]; omega
  ·rw[show(S++[O.lst [W.str x,W.str y]]).length+1=((S++[O.lst [W.str x,W.str y]])++[O.sts (bJ [x,y])]).length by simp]
   exact al
 | no i=>
  dsimp only[Rw.w];show st (bf (bF rfl rfl) (st (bf (cD rfl rfl) (st (eM (bF rfl rfl) λQ2 _ hr=>st ?_)))))
  left;show af (dj (i:=1) #v[] rfl) (qA F ok λu _ eu=>?_)
  exact x9 eu (hr _ _ (k _ _ (J9 _) .push al))
 | two b i j=>
  obtain⟨oi,oj⟩:=ok;have hl:(fs.getD i []++fs.getD j []).length<=60:=by
   have:=g.len i;have:=g.len j;rw[Kb]; omega
  have go:∀(a:J3) Q2,(∀w S',Q' (.rt w,S')->Q2 (.rt w,S'))->wZ (ag defs fuel d) fuel #v[.ret (.bi .sorted #v[.bi .set #v[.op .add (.ix (.v 1) (.ix (.v 0) (.c (.int 1)))) (.ix (.v 1) (.ix (.v 0) (.c (.int 2))))]])] [bt (.tup [.str a,.int i,.int j]),bt (.ref t)] S Q2:=by
   intro a Q2 hr;show st ?_;left;show af (dj (i:=1) #v[] rfl) (qA F oi λu _ eu=>af (dj (i:=2) #v[] rfl) (qA F oj λv _ ev=>af (w6 eu ev ?_) ?_))
   ·rw[Kb]at hl;rw[Kb,J6,J6]; exact Kx (show _<=1000 by omega) (cz rfl)
   rw[<- L4];show iV al hl (hr _ _ (k _ _ ?_ (Ka.push.trans j9) ?_))
   ·simp only[Kb]; omega
   ·rw[show ∀(X:aa) (o:O),X.length+1=(X++[o]).length from λX o=>by simp]
    exact al
  cases b
  ·exact st (bf (bF rfl rfl) (st (bf (cD rfl rfl) (st (bf (bF rfl rfl) (st (eM (cD rfl rfl) λQ2 _ hr=>go _ Q2 hr)))))))
  ·exact st (bf (bF rfl rfl) (st (bf (cD rfl rfl) (st (bf (bF rfl rfl) (st (eM (cD rfl rfl) λQ2 _ hr=>go _ Q2 hr)))))))
 | qu b x i=>
  have go:∀(a:J3),wZ (ag defs fuel d) fuel #v[.ret (.comp (.v 1) (.nm 1) (.seq (.ix (.v 1) (.ix (.v 0) (.c (.int 2))))) #v[.cmp .ne (.v 1) (.ix (.v 2) (.c (.int 1)))] [gV,gV,bt 0])] [bt (.tup [.str a,.str x,.int i]),bt (.ref t)] S Q':=by
   intro a;show st ?_;dsimp only[wS,wE];have hi:i < fs.length:=ok;obtain⟨u,eu,hq⟩ : ∃u,S[u]?=bt (.lst ((fs.getD i []).map W.str))/\nJ (.ref t) (.int (i:Kk)) S=bt (.ref u,S):=by
    have:=aN (qA (Q:=λp=>∃u,S[u]?=bt (.lst ((fs.getD i []).map W.str))/\p=(.ref u,S)) F hi λu _ eu=>#[u,eu,rfl])
    obtain⟨p,e,u,eu,rfl⟩:=this;exact#[u,eu,e]
   show x8 (t:=u) (ws:=[.str a,.str x,.int i]) (x:=x) rfl (λQ q=>?_) eu (Kx (g.len i) #v[]) rfl rfl (k _ _ (J9 _) .push al)
   dsimp only[wE,wV,wG];exact af (dj (i:=2) #v[] rfl) (af hq q)
  cases b
  ·exact st (bf (bF rfl rfl) (st (bf (cD rfl rfl) (st (bf (bF rfl rfl) (st (bf (cD rfl rfl) (go _))))))))
  ·exact st (bf (bF rfl rfl) (st (bf (cD rfl rfl) (st (bf (bF rfl rfl) (st (bf (cD rfl rfl) (go _))))))))
end
abbrev Rw.parts:Rw->JS J4
 | .no i=>[i]
 | .two _ i j=>[i,j]
 | .qu _ _ i=>[i]
 | _=>[]
def bv {M:J3->FF}{Z:Fm}{S:aa}{ws:JS W}{a:J3}{k:Kn}(zs:JS J3)(hw:ws[0]?=bt (.str a))(hk:decide (a∈zs)=k):∀Q:QB,Q (k,S)->wT M (.cmp .isin (.ix (.v 0) (.c (.int 0))) (.c (.tup (zs.map W.str)))) (bt (.tup ws)::Z) S Q:=λQ q=>by
 dsimp only[wT,wE,wV,wG];show af (dj (i:=0) #v[] hw) (af jZ ?_)
 dsimp only[wB];rw[hk]; exact q
def G0 {S:aa}{t u:J4}{xs ys:JS W}{Q:QW}(h:S[t]?=bt (.lst xs))(h2:S[u]?=bt (.lst ys))(hl:xs.length+ys.length<=1000)(q:Q (.non,S.set t (.lst (xs++ys)))):wO (Me.extend.fn (.ref t) [.ref u] S) Q:=af (by simp only[Me.fn,iK,iS h,iS h2]; rw[Ks (Kx hl (cz rfl))]) q
section
variable{defs:JS (J3×Df)}{fuel d:J4}{S:aa}{r:J4}{Q:QW}
def AL (L:Sn defs){x:Rw}(k:Q (.ref S.length,S++[.lst (x.parts.map λ(i:J4)=>W.int (i:Kk))])):wO (bu (ag defs fuel (d+1)) "part_rows" 1 [x.w] S) Q:=by
 show aH L.part_rows rfl rfl λQ' hR=>?_
 change wZ _ _ cM [bt x.w] S Q';dsimp only[cM];show st ?_;dsimp only[wS,wE];have k:=hR _ _ k;cases x with
 | same x y=>exact#[_,rfl,k]
 | mark x m=>exact#[_,rfl,k]
 | way x y m=>exact#[_,rfl,k]
 | no i=>exact#[_,rfl,k]
 | two b i j=>cases b <;> exact#[_,rfl,k]
 | qu b x i=>cases b <;> exact#[_,rfl,k]
def qB (L:Sn defs){fs:JS (JS J3)}{t:J4}{x:Rw}(F:Fs S t fs)(g:Gf fs)(ok:x.ok fs.length)(k:∀u S',S.length<=u->Ka S S'->S'[u]?=bt (.lst ((bn fs x).map W.str))->Q (.ref u,S')) :
  wO (bu (ag defs fuel (d+2)) "names_of" 2 [x.w,.ref t] S) Q:=by
 show aH L.names_of rfl rfl λQ' hR=>?_
 replace k:∀u S',S.length<=u->Ka S S'->S'[u]?=bt (.lst ((bn fs x).map W.str))->Q' (.rt (.ref u),S'):=λu S' a b c=>hR _ _ (k u S' a b c)
 clear hR;change wZ _ _ dN [bt x.w,bt (.ref t),gV,gV] S Q';dsimp only[dN];have tail:∀(ns:JS J3) (t2:J4) (S2:aa) (a:JX W),Ka S S2->S2[t2]?=bt (.lst (ns.map W.str))->ns.length<=60->cJ (bJ ns)=bn fs x->wZ (ag defs fuel (d+1)) fuel #v[.ret (.bi .sorted #v[.bi .set #v[.v 2]])] [bt x.w,bt (.ref t),bt (.ref t2),a] S2 Q':=by
  intro ns t2 S2 a k2 e2 hl he;show st ?_;left;show iV e2 hl (k _ _ (by have:=k2.len; omega) (k2.trans j9) ?_)
  rw[show S2.length+1=(S2++[O.sts (bJ ns)]).length by simp,<- he]
  exact al
 have gath:∀(K:Fm->aa->Prop) (is:JS J4),x.parts=is->(∀i∈is,i < fs.length)->is.length<=2->(∀a S2,Ka S S2->S2[S.length]?=bt (.lst ((is.flatMap λi=>fs.getD i []).map W.str))->K [bt x.w,bt (.ref t),bt (.ref S.length),a] S2)->
   ∀Q2:QO,(∀Z' S',K Z' S'->Q2 (.nx Z',S'))->wZ (ag defs fuel (d+1)) fuel #v[.set 2 (.lst .nil),.loop (.nm 3) (.seq (.own "part_rows" 1 #v[.v 0])) #v[.ex (.me .extend (.v 2) #v[.ix (.v 1) (.v 3)])]] [bt x.w,bt (.ref t),gV,gV] S Q2:=by
  intro K is hp hi hl hK Q2 hn;have hF:=F.lt;show st ?_;left;show st ?_;have hlen:(S++[O.lst []]).length=S.length+1:=by simp
  show Ax (S.length+1) (is.map λ(i:J4)=>W.int (i:Kk)) (λn Z S'=>(∃a,Z=[bt x.w,bt (.ref t),bt (.ref S.length),a])/\Ka S S'/\S'[S.length]?=bt (.lst (((is.take n).flatMap λi=>fs.getD i []).map W.str))/\S'[S.length+1]?=bt (.lst (is.map λ(i:J4)=>W.int (i:Kk)))) rfl rfl ?_ (λi Z S' h=>h.2.2.2) ?_ ?_
  ·dsimp only[wE,wA,wV,wG];show AL (d:=d) L ?_;rw[hp];exact#[by rw[hlen],#[gV,rfl],j9,by rw[List.take_zero]; exact bg al,by rw[<- hlen]; exact al]
  ·rintro n w Z S1 hw ⟨⟨a,rfl⟩,k1,e1,e2⟩;rw[KA]at hw;cases e:is[n]? with
   | none=>rw[e]at hw; cases hw
   | some i=>
    rw[e]at hw;cases hw;show Jq λQ3 hn3 _=>?_
    dsimp only[KH];show st ?_;left;have hb:∀l:JS J4,(l.flatMap λi=>fs.getD i []).length<=10*l.length:=λl=>by
     induction l with
     | nil=>exact Mt _
     | cons i l ih=>
      have:=g.len i;rw[List.flatMap_cons,Kb,KJ]; omega
    have h1:=hb (is.take n);rw[Mc]at h1;have h2:=g.len i;show#[jS e1,qA (F.ka k1) (hi i (Lr e)) λu hu eu=>G0 e1 eu (by rw[J6,J6]; omega) (cV (hn3 _ _ #[#[_,rfl],k1.late (J9 _),?_,?_]))]
    ·rw[ik e1,Pd,e,List.flatMap_append,L4,show(bt i).toList=[i]from rfl,List.flatMap_singleton]
    ·rw[eG ∅]; exact e2
  ·rintro Z S1 ⟨⟨a,rfl⟩,k1,e1,e2⟩;rw[J6,LD (J9 _)]at e1;exact cV (hn _ _ (hK a S1 k1 e1))
 have key {ns:JS J3} (h:ns=bn fs x):cJ (bJ ns)=bn fs x:=by rw[h]; exact g.free.eq
 cases x with
 | same x y=>
  show st (eM (bv ["same","mark","way"] rfl rfl) λQ2 hn _=>st (show wS _ _ _ _ _ _ _ from ?_))
  show jV #[_,rfl,cV (hn _ _ (st (bf (bv ["some","each"] rfl rfl) (tail [x,y] _ _ _ .push al (Kf rfl) rfl))))]
 | mark x m=>
  show st (eM (bv ["same","mark","way"] rfl rfl) λQ2 hn _=>st (show wS _ _ _ _ _ _ _ from ?_))
  show jV #[_,rfl,cV (hn _ _ (st (bf (bv ["some","each"] rfl rfl) (tail [x] _ _ _ .push al (Kf rfl) (key rfl)))))]
 | way x y m=>
  show st (eM (bv ["same","mark","way"] rfl rfl) λQ2 hn _=>st (show wS _ _ _ _ _ _ _ from ?_))
  show jV #[_,rfl,cV (hn _ _ (st (bf (bv ["some","each"] rfl rfl) (tail [x,y] _ _ _ .push al (Kf rfl) rfl))))]
 | no i=>
  show st (oO (bv ["same","mark","way"] rfl rfl) (λQ2 hn _=>gath _ [i] rfl (λj hj=>by rw[Ky.mp hj]; exact ok) (Kf rfl) (λa S2 k2 e2=>?_) Q2 hn))
  show st (bf (bv ["some","each"] rfl rfl) (tail (fs.getD i []) _ _ _ k2 (by simpa using e2) (Kx (g.len i) #v[]) (key rfl)))
 | two b i j=>
  have hl:(fs.getD i []++fs.getD j []).length<=60:=by
   have:=g.len i;have:=g.len j;rw[Kb]; omega
  have hi:∀l∈[i,j],l < fs.length:=λl hl=>by
   rcases J5.mp hl with rfl|h
   ·exact ok.1
   ·rw[Ky.mp h]; exact ok.2
  cases b
  ·show st (oO (bv ["same","mark","way"] rfl rfl) (λQ2 hn _=>gath _ [i,j] rfl hi (Kf rfl) (λa S2 k2 e2=>?_) Q2 hn))
   show st (bf (bv ["some","each"] rfl rfl) (tail (fs.getD i []++fs.getD j []) _ _ _ k2 (by simpa using e2) hl rfl))
  ·show st (oO (bv ["same","mark","way"] rfl rfl) (λQ2 hn _=>gath _ [i,j] rfl hi (Kf rfl) (λa S2 k2 e2=>?_) Q2 hn))
   show st (bf (bv ["some","each"] rfl rfl) (tail (fs.getD i []++fs.getD j []) _ _ _ k2 (by simpa using e2) hl rfl))
 | qu b x i=>
  have hl:((fs.getD i []).filter λy=>!(y==x)).length<=60:=Kx (NS _ _) (Kx (g.len i) #v[])
  have hv:∀(a:J3) (c:JX W) (S2:aa),∀Q:QW,Q (.ref S.length,S2)->wE (ag defs fuel (d+1)) (.v 2) [bt (.tup [.str a,.str x,.int i]),bt (.ref t),bt (.ref S.length),c] S2 Q:=λa c S2 Q q=>by dsimp only[wE,wV,wG]; exact q
  have hi:∀l∈[i],l < fs.length:=λl hl=>by rw[Ky.mp hl]; exact ok
  cases b
  ·show st (oO (bv ["same","mark","way"] rfl rfl) (λQ2 hn _=>gath _ [i] rfl hi (Kf rfl) (λa S2 k2 e2=>?_) Q2 hn))
   show st (eM (bv ["some","each"] rfl rfl) λQ3 hn3 _=>st (jV ?_))
   dsimp only[wE];exact x8 (zs:=fs.getD i []) (ws:=[.str "each",.str x,.int i]) (x:=x) rfl (hv _ _ _) (by simpa using e2) (Kx (g.len i) #v[]) rfl rfl (cV (hn3 _ _ (tail _ _ _ _ (k2.trans .push) al hl (key rfl))))
  ·show st (oO (bv ["same","mark","way"] rfl rfl) (λQ2 hn _=>gath _ [i] rfl hi (Kf rfl) (λa S2 k2 e2=>?_) Q2 hn))
   show st (eM (bv ["some","each"] rfl rfl) λQ3 hn3 _=>st (jV ?_))
   dsimp only[wE];exact x8 (zs:=fs.getD i []) (ws:=[.str "some",.str x,.int i]) (x:=x) rfl (hv _ _ _) (by simpa using e2) (Kx (g.len i) #v[]) rfl rfl (cV (hn3 _ _ (tail _ _ _ _ (k2.trans .push) al hl (key rfl))))
end
def cm {w:W}(h:az w=true):∃x,w=.str x:=by
 cases w with
 | str x=>exact#[x,rfl]
 | _=>cases h
def ip {b:Kk}{w:W}(h:aI b w=true):∃j:Kk,w=.int j/\0<=j/\j < b:=by
 cases w with
 | int j=>
  have h:(decide (0<=j)&&decide (j < b))=true:=h;rw[JY,KG,KG]at h;exact#[j,rfl,h]
 | _=>cases h
def fm {i:J4}{w:W}(h:aI (i:Kk) w=true):∃j:J4,w=.int (j:Kk)/\j < i:=by
 obtain⟨j,rfl,h0,h1⟩:=ip h;exact#[j.toNat,by rw[N8 h0],∅]
def Em {a n:Kk}{i:J4}{w:W}(h:aP a n (i:Kk) w=true):∃x:Rw,w=x.w/\x.ok i:=by
 match w,h with
 | .tup (.str x::r),h=>
  by_cases h1:x = "same"
  ·subst h1;rw[j6,JY,JY]at h;obtain⟨u,v,rfl⟩:=mF h.1;obtain⟨y,rfl⟩:=cm h.2.1;obtain⟨z,rfl⟩:=cm h.2.2;exact#[.same y z,rfl,trivial]
  by_cases h2:x = "mark"
  ·subst h2;rw[j7,JY,JY]at h;obtain⟨u,v,rfl⟩:=mF h.1;obtain⟨y,rfl⟩:=cm h.2.1;obtain⟨z,rfl,_⟩:=ip h.2.2;exact#[.mark y z,rfl,trivial]
  by_cases h3:x = "way"
  ·subst h3;rw[mG,JY,JY,JY]at h;obtain⟨u,v,v2,rfl⟩:=Ei h.1;obtain⟨y,rfl⟩:=cm h.2.1;obtain⟨y2,rfl⟩:=cm h.2.2.1;obtain⟨z,rfl,_⟩:=ip h.2.2.2;exact#[.way y y2 z,rfl,trivial]
  by_cases h4:x = "not"
  ·subst h4;rw[sg,JY]at h;obtain⟨u,rfl⟩:=GZ h.1;obtain⟨j,rfl,hj⟩:=fm h.2;exact#[.no j,rfl,hj]
  by_cases h5:x = "and"\/x = "or"
  ·rw[si h5,JY,JY]at h;obtain⟨u,v,rfl⟩:=mF h.1;obtain⟨j,rfl,hj⟩:=fm h.2.1;obtain⟨l,rfl,hl⟩:=fm h.2.2;rcases h5 with rfl|rfl
   ·exact#[.two true j l,rfl,hj,hl]
   ·exact#[.two false j l,rfl,hj,hl]
  by_cases h6:x = "some"\/x = "each"
  ·rw[mH h6,JY,JY]at h;obtain⟨u,v,rfl⟩:=mF h.1;obtain⟨y,rfl⟩:=cm h.2.1;obtain⟨l,rfl,hl⟩:=fm h.2.2;rcases h6 with rfl|rfl
   ·exact#[.qu true y l,rfl,hl]
   ·exact#[.qu false y l,rfl,hl]
  ·rw[oN λz=>?_]at h
   ·cases h
   rcases J5.mp z with z|z
   ·exact h1 z
   rcases J5.mp z with z|z
   ·exact h2 z
   rcases J5.mp z with z|z
   ·exact h3 z
   rcases J5.mp z with z|z
   ·exact h4 z
   rcases J5.mp z with z|z
   ·exact h5 (.inl z)
   rcases J5.mp z with z|z
   ·exact h5 (.inr z)
   rcases J5.mp z with z|z
   ·exact h6 (.inl z)
   exact h6 (.inr (Ky.mp z))
abbrev du (i:J4)(w:W):Rw:=@Tj Rw #[.no 0] λx=>w=x.w/\x.ok i
def sr {a n:Kk}{i:J4}{w:W}(h:aP a n (i:Kk) w=true):w=(du i w).w/\(du i w).ok i:=@Sj Rw (λx=>w=x.w/\x.ok i) (Em h)
abbrev cF (a n:Kk):J4->JS (JS J3)->JS W->JX J4
 | _,_,[]=>gV
 | i,fs,w::ws=>if aP a n (i:Kk) w=true then(if 3 < (bn fs (du i w)).length then bt i else cF a n (i+1) (fs++[bn fs (du i w)]) ws)else bt i
abbrev cG (a n:Kk):W->JX J4
 | .tup (w::ws)=>cF a n 0 [] (w::ws)
 | _=>bt 0
abbrev AM:JX J4->W
 | none=>.non
 | some i=>.int (i:J4)
def oP {a n:Kk}{i:J4}{fs:JS (JS J3)}{w:W}{ws:JS W}(h:aP a n (i:Kk) w=false):cF a n i fs (w::ws)=bt i:=by
 dsimp only[cF]; rw[h,Kv Kg]
def ly {a n:Kk}{i:J4}{fs:JS (JS J3)}{w:W}{ws:JS W}(h:aP a n (i:Kk) w=true)(h2:3 < (bn fs (du i w)).length):cF a n i fs (w::ws)=bt i:=by
 dsimp only[cF]; rw[Ks h,Ks h2]
def su {a n:Kk}{i:J4}{fs:JS (JS J3)}{w:W}{ws:JS W}(h:aP a n (i:Kk) w=true)(h2:¬ 3 < (bn fs (du i w)).length):cF a n i fs (w::ws)=cF a n (i+1) (fs++[bn fs (du i w)]) ws:=by
 conv=>lhs; unfold cF
 rw[Ks h,Kv h2]
def Gf.snoc {fs:JS (JS J3)}{f:JS J3}(g:Gf fs)(h:SS f)(hl:f.length<=10):Gf (fs++[f]):=λx hx=>by
 rcases KU.mp hx with h'|h'
 ·exact g x h'
 ·rw[Ky.mp h']; exact#[h,hl]
def sv {xs:JS W}{i:J4}{x:W}(h:xs[i]?=bt x):xs.drop i=x::xs.drop (i+1):=by
 obtain⟨hl,rfl⟩:=Kc.mp h;exact List.drop_eq_getElem_cons hl
section
variable{defs:JS (J3×Df)}{fuel d:J4}{S:aa}{Q:QW}
def AN (L:Sn defs){Mqa N:JS W}{b0 w:W}{a n:Kk}(hM:(Mqa.length:Kk)=a)(hN:(N.length:Kk)=n)(h:Thg S w)(k:∀S',Ka S S'->Q (AM (cG a n w),S')):wO (bu (ag defs fuel (d+3)) "_law_first_bad" 2 [.tup [.tup Mqa,.tup N,b0],w] S) Q:=by
 show aH L.l_first_bad rfl rfl λQ' hR=>?_
 replace k:∀S',Ka S S'->Q' (.rt (AM (cG a n w)),S'):=λS' a=>hR _ _ (k S' a)
 clear hR;change wZ _ _ bC [bt (.tup [.tup Mqa,.tup N,b0]),bt w,gV,gV] S Q';have fk:=λ(S:aa) (Q:QW) (s:Kk) (x:W) (h:Thg S x)=>Ej (defs:=defs) (fuel:=fuel) (d:=d) (S:=S) (Q:=Q) (b0:=b0) (i:=s) L hM hN h
 generalize W.tup [.tup Mqa,.tup N,b0]=R at fk;dsimp only[bC];nofun
 cases h with
 | @tup xs hx hl=>
  cases xs with
  | nil=>exact bR (a8 (x:=(!true)||(((([]:JS W).length:J4):Kk)==0)) rfl (aQ (ar (aJ (λQ q=>q) rfl)) λ_ S1 k1=>bc (eP λQ q=>q))) (λS1 k1=>fY) λS1 k1=>k S1 k1
  | cons y ys=>
   show fG (a8 (x:=(!true)||((((y::ys).length:J4):Kk)==0)) (by rw[KJ,show((((ys.length+1):J4):Kk)==0)=false from LH.mpr ∅]; rfl) (aQ (ar (aJ (λQ q=>q) rfl)) λ_ S1 k1=>bc (eP λQ q=>q))) λS1 k1=>hK _ _ ?_
   clear hK K;have ek:cG a n (.tup (y::ys))=cF a n 0 [] (y::ys):=rfl;rw[ek]at k;generalize hxs:y::ys=xs at *
   show st ?_;dsimp only[wS,wE,wA,KH];nofun
   show rT (xs.length:Kk) (λi Z S'=>∃a3 fs,Z=[bt R,bt (.tup xs),bt (.ref S1.length),a3]/\Fs S' S1.length fs/\Gf fs/\fs.length=i/\cF a n 0 [] xs=cF a n i fs (xs.drop i)/\Ka S S') rfl rfl ∅ ?_ ?_ ?_
   ·dsimp only[wE,wA,wV,wG];show fX #[rfl,gV,[],rfl,#[[],al,rfl,λi r h=>(nomatch h)],λf hf=>(nomatch hf),rfl,rfl,k1.trans .push]
   ·rintro i Z S2 hi ⟨a3,fs,rfl,F,g,hlen,hsc,kk⟩ Q2 hn hr;clear hK;obtain⟨x,hxi⟩ : ∃x,xs[i]?=bt x:=#[_,Kt ∅]
    have hx2:Thg S2 x:=(hx x (Lr hxi)).ka kk;have ix:∀ {S:aa} (Q:QW),Q (x,S)->wE (ag defs fuel (d+2)) (.ix (.v 1) (.v 3)) [bt R,bt (.tup xs),bt (.ref S1.length),bt (.int (i:J4))] S Q:=λQ q=>by
     dsimp only[wE,wV,wG];exact dR (MC i) (by rw[Lg]; exact hxi) q
    rw[sv hxi]at hsc;dsimp only[KH];nofun
    show eO (x:=!aP a n (i:Kk) x) (w:=.int (i:J4)) (ar (qr λQ q=>?_)) (λz S3 k3=>#[λQ q=>q S3 .refl,λS4 k4=>?_]) λz S3 k3=>hK _ _ ?_
    ·change wE _ (.ix (.v 1) (.v 3)) _ S2 λp=>wO (bu _ "_law_row_fits" 3 [R,p.1,.int (i:J4)] p.2) Q
     exact ix _ (fk S2 Q i x hx2 q)
    ·rw[oP (by cases e:aP a n (i:Kk) x <;> first|rfl|(rw[e]at z; cases z))]at hsc
     rw[hsc]at k;exact hr _ _ (k S4 (kk.trans (k3.trans k4)))
    clear hK K;have hrow:aP a n (i:Kk) x=true:=by cases e:aP a n (i:Kk) x <;> first|rfl|(rw[e]at z; cases z)
    obtain⟨ew,hok⟩:=sr hrow;have hF:=(F.ka k3).lt;nofun
    left;show#[(F.ka k3).lst,dR (MC i) (by rw[Lg]; exact hxi) ?_]
    rw[ew];show El (d:=d+1) L (F.ka k3) g (hlen ▸ hok) λu S4 hu k4 eu=>?_
    show x4 ((F.ka k3).ka k4) ∅ (Km hF hu) eu λo F'=>hK _ _ ?_
    clear hK K;have g':=g.free (x:=du i x);have hl1:((bn fs (du i x)).length:Kk) > 3\/¬ ((bn fs (du i x)).length:Kk) > 3:=TD _;have kk':Ka S (S4.set S1.length o):=(kk.trans (k3.trans k4)).late k1.len;have ge:(fs++[bn fs (du i x)]).getD i []=bn fs (du i x):=by rw[<- hlen,LZ,Mw (J9 _),Sk]; rfl
    nofun
    show eO (x:=decide (((bn fs (du i x)).length:Kk) > 3)) (w:=.int (i:J4)) (bc λQ q=>?_) (λz S5 k5=>#[λQ q=>q S5 .refl,λS6 k6=>?_]) λz S5 k5=>hK _ _ (cV (hn _ _ #[_,fs++[bn fs (du i x)],rfl,F'.ka k5,g.snoc g' ?_,by rw[Kb,hlen]; rfl,?_,kk'.trans k5]))
    ·dsimp only[wE,wA,wV,wG];show qA F' (i:=i) (by rw[Kb,hlen]; exact K4 _) λr _ er=>?_
     rw[ge]at er;show BL er ?_;rw[J6];exact af w8 (q _ .refl)
    ·rw[ly hrow (by have:=La z; omega)]at hsc
     rw[hsc]at k;exact hr _ _ (k S6 (kk'.trans (k5.trans k6)))
    ·have:=NF z; omega
    ·rw[hsc,su hrow (by have:=NF z; omega)]
   ·rintro Z S2 ⟨a3,fs,rfl,F,g,hlen,hsc,kk⟩;show hK _ _ (dq fY λS3 k3=>?_)
    rw[Nc ∅]at hsc
    rw[hsc]at k;exact k S3 (kk.trans k3)
 | lst h=>exact bR (a8 (x:=(!false)||true) rfl (aQ (y:=true) (ar (aJ (λQ q=>q) (dP h rfl))) λz=>by cases z)) (λS1 k1=>fY) λS1 k1=>k S1 k1
 | _=>exact bR (a8 (x:=(!false)||true) rfl (aQ (y:=true) (ar (aJ (λQ q=>q) rfl)) λz=>by cases z)) (λS1 k1=>fY) λS1 k1=>k S1 k1
end
abbrev aC:Ss:=
 #v[.ite (.or (.not (.isi "tuple" (.v 1))) (.not (.v 1))) #v[.ret (.tup #v[.c (.str "NoSentence"),.c (.int 0)])] .nil,.set 2 (.lst .nil),.loop (.tp [3,4]) (.enu #v[.v 1]) #v[.ite (.not (.own "is_row" 3 #v[.v 0,.v 4,.v 3])) #v[.ret (.tup #v[.c (.str "NoSentence"),.v 3])] .nil,.ex (.me .append (.v 2) #v[.own "names_of" 2 #v[.v 4,.v 2]]),.ite (.cmp .gt (.bi .len #v[.ix (.v 2) (.v 3)]) (.c (.int 3))) #v[.ret (.tup #v[.c (.str "NoSentence"),.v 3])] .nil],.ret (.tup #v[.c .non,.c (.bl true)])]
abbrev mI:JX J4->W
 | none=>.tup [.non,.bl true]
 | some i=>.tup [.str "NoSentence",.int (i:J4)]
section
variable{M:J3->FF}{fuel:J4}{Z:Fm}{S:aa}{K:Fm->aa->Prop}{Q:QO}
def AO {a:E}{tg:Tg}{b:Ss}(xs:JS W)(I:J4->Fm->aa->Prop)(oa:dw a=true)(ok:gF b=true)(he:wE M a Z S λp=>Bs p.1=bt xs/\I 0 Z p.2)
  (hstep:∀(i:J4) (x:W) (Z:Fm) (S:aa),xs[i]?=bt x->I i Z S->wO (t6 tg (.tup [.int i,x]) Z S) λq=>BI M fuel b q.1 q.2 (I (i+1)) Q) (hend:∀Z S,I xs.length Z S->K Z S):Wp (bH M fuel (.loop tg (.enu #v[a]) b) Z S) (oz K Q):=by
 obtain⟨x,S1,e1,h1,h0⟩:=b9 oa he;have hl:(ma xs).length=xs.length:=by simp[ma]
 show jU (mi:=.its (ma xs)) (S1:=S1) (xs:=ma xs) I ok (by simp only[kD,aZ,bZ,gu,Ac,e1,h1]) (λ_ _ _ _=>rfl) rfl h0 (λi w Z S hw hI=>?_) λZ S hI=>hend Z S (hl ▸ hI)
 obtain⟨y,hy,rfl⟩:=n0 hw;exact hstep i y Z S hy hI
end
section
variable{defs:JS (J3×Df)}{fuel d:J4}{S:aa}{Q:QW}
def En (L:Sn defs)(hg:Is defs ("look_sentence!" : J3) 2 5 aC){Mqa N:JS W}{b0 w:W}{a n:Kk}(hM:(Mqa.length:Kk)=a)(hN:(N.length:Kk)=n)(h:Thg S w)(k:∀S',Ka S S'->Q (mI (cG a n w),S')):wO (bu (ag defs fuel (d+5)) "look_sentence!" 2 [.tup [.tup Mqa,.tup N,b0],w] S) Q:=by
 show aH hg rfl rfl λQ' hR=>?_
 replace k:∀S',Ka S S'->Q' (.rt (mI (cG a n w)),S'):=λS' a=>hR _ _ (k S' a)
 clear hR;change wZ _ _ aC [bt (.tup [.tup Mqa,.tup N,b0]),bt w,gV,gV,gV] S Q';have fk:=λ(S:aa) (Q:QW) (s:Kk) (x:W) (h:Thg S x)=>GY (defs:=defs) (fuel:=fuel) (d:=d) (S:=S) (Q:=Q) (b0:=b0) (i:=s) L hM hN h
 generalize W.tup [.tup Mqa,.tup N,b0]=R at fk;dsimp only[aC];nofun
 have r0:∀ {Z:Fm} {S:aa},Ve (ag defs fuel (d+4)) Z (.tup #v[.c (.str "NoSentence"),.c (.int 0)]) S (mI (bt 0)):=λQ q=>by dsimp only[wE,wA]; exact q _ .refl
 cases h with
 | @tup xs hx hl=>
  cases xs with
  | nil=>exact bR (a8 (x:=(!true)||(!false)) rfl (aQ (ar (aJ (λQ q=>q) rfl)) λ_ S1 k1=>ar (AH (λQ q=>q) rfl))) (λS1 k1=>r0) λS1 k1=>k S1 k1
  | cons y ys=>
   show fG (a8 (x:=(!true)||(!true)) rfl (aQ (ar (aJ (λQ q=>q) rfl)) λ_ S1 k1=>ar (AH (λQ q=>q) rfl))) λS1 k1=>hK _ _ ?_
   clear hK K;have ek:cG a n (.tup (y::ys))=cF a n 0 [] (y::ys):=rfl;rw[ek]at k;generalize hxs:y::ys=xs at *
   show st ?_;dsimp only[wS,wE,wA,KH];nofun
   show AO xs (λi Z S'=>∃a3 a4 fs,Z=[bt R,bt (.tup xs),bt (.ref S1.length),a3,a4]/\Fs S' S1.length fs/\Gf fs/\fs.length=i/\cF a n 0 [] xs=cF a n i fs (xs.drop i)/\Ka S S') rfl rfl ?_ ?_ ?_
   ·exact#[rfl,gV,gV,[],rfl,#[[],al,rfl,λi r h=>(nomatch h)],λf hf=>(nomatch hf),rfl,rfl,k1.trans .push]
   ·rintro i x Z S2 hxi ⟨a3,a4,fs,rfl,F,g,hlen,hsc,kk⟩;show af (show t6 (.tp [3,4]) (.tup [.int (i:J4),x]) [bt R,bt (.tup xs),bt (.ref S1.length),a3,a4] S2=bt ([bt R,bt (.tup xs),bt (.ref S1.length),bt (.int (i:J4)),bt x],S2)from rfl) ?_
    intro Q2 hn hr;clear hK;have hi:=(Kc.mp hxi).1;have hx2:Thg S2 x:=(hx x (Lr hxi)).ka kk;have ri:∀ {S:aa},Ve (ag defs fuel (d+4)) [bt R,bt (.tup xs),bt (.ref S1.length),bt (.int (i:J4)),bt x] (.tup #v[.c (.str "NoSentence"),.v 3]) S (mI (bt i)):=λQ q=>by dsimp only[wE,wA,wV,wG]; exact q _ .refl
    rw[sv hxi]at hsc;nofun
    show eO (x:=!aP a n (i:Kk) x) (w:=mI (bt i)) (ar (qr λQ q=>?_)) (λz S3 k3=>#[ri,λS4 k4=>?_]) λz S3 k3=>hK _ _ ?_
    ·dsimp only[wE,wA,wV,wG];exact fk S2 Q i x hx2 q
    ·rw[oP (by cases e:aP a n (i:Kk) x <;> first|rfl|(rw[e]at z; cases z))]at hsc
     rw[hsc]at k;exact hr _ _ (k S4 (kk.trans (k3.trans k4)))
    clear hK K;have hrow:aP a n (i:Kk) x=true:=by cases e:aP a n (i:Kk) x <;> first|rfl|(rw[e]at z; cases z)
    obtain⟨ew,hok⟩:=sr hrow;have hF:=(F.ka k3).lt;nofun
    left;show#[(F.ka k3).lst,?_];have fr:=qB (d:=d+2) (fuel:=fuel) (S:=S3) (Q:=λq=>wO (Me.append.fn (.ref S1.length) [q.1] q.2) λp=>K [bt R,bt (.tup xs),bt (.ref S1.length),bt (.int (i:J4)),bt x] p.2) (x:=du i x) L (F.ka k3) g (hlen ▸ hok) λu S4 hu k4 eu=>?_
    ·rw[<- ew]at fr;exact fr
    show x4 ((F.ka k3).ka k4) ∅ (Km hF hu) eu λo F'=>hK _ _ ?_
    clear hK K;have g':=g.free (x:=du i x);have kk':Ka S (S4.set S1.length o):=(kk.trans (k3.trans k4)).late k1.len;have ge:(fs++[bn fs (du i x)]).getD i []=bn fs (du i x):=by rw[<- hlen,LZ,Mw (J9 _),Sk]; rfl
    nofun
    show eO (x:=decide (((bn fs (du i x)).length:Kk) > 3)) (w:=mI (bt i)) (bc λQ q=>?_) (λz S5 k5=>#[ri,λS6 k6=>?_]) λz S5 k5=>hK _ _ (cV (hn _ _ #[_,_,fs++[bn fs (du i x)],rfl,F'.ka k5,g.snoc g' ?_,by rw[Kb,hlen]; rfl,?_,kk'.trans k5]))
    ·dsimp only[wE,wA,wV,wG];show qA F' (i:=i) (by rw[Kb,hlen]; exact K4 _) λr _ er=>?_
     rw[ge]at er;show BL er ?_;rw[J6];exact af w8 (q _ .refl)
    ·rw[ly hrow (by have:=La z; omega)]at hsc
     rw[hsc]at k;exact hr _ _ (k S6 (kk'.trans (k5.trans k6)))
    ·have:=NF z; omega
    ·rw[hsc,su hrow (by have:=NF z; omega)]
   ·rintro Z S2 ⟨a3,a4,fs,rfl,F,g,hlen,hsc,kk⟩;show hK _ _ (dq (w:=mI gV) (λQ q=>by dsimp only[wE,wA]; exact q _ .refl) λS3 k3=>?_)
    rw[Nc (J9 _)]at hsc;rw[hsc]at k;exact k S3 (kk.trans k3)
 | lst h=>exact bR (a8 (x:=(!false)||true) rfl (aQ (y:=true) (ar (aJ (λQ q=>q) (dP h rfl))) λz=>by cases z)) (λS1 k1=>r0) λS1 k1=>k S1 k1
 | _=>exact bR (a8 (x:=(!false)||true) rfl (aQ (y:=true) (ar (aJ (λQ q=>q) rfl)) λz=>by cases z)) (λS1 k1=>r0) λS1 k1=>k S1 k1
end
section
variable{M:J3->FF}{f:J3}{k:J4}{es:Es}{a:Ss}{Z:Fm}{S S1 S2:aa}{ws:JS W}{v:W}
def G1 {cn:J3}{us:JS W}(h1:aZ M es Z S=bt (ws,S1))(hl:ws.length=k)(h2:M f ws S1=bt (v,S2))(h3:xV v=bt (cn,us)):dC k (oV (M f)) (aZ M es) Z S=gV/\gA k (xG (M f)) (aZ M es) Z S=bt (cn,us,S2):=by
 have h4:uu v=gV:=by
  cases e:uu v with
  | none=>rfl
  | some w=>rw[GC e]at h3; cases h3
 constructor
 ·unfold dC;rw[h1];dsimp only;rw[Ks hl];unfold oV;rw[h2];dsimp only;rw[h4];rfl
 ·unfold gA;rw[h1];dsimp only;rw[Ks hl];unfold xG;rw[h2];dsimp only;rw[h3];rfl
def Eo {j:J4}{w:W}(h1:aZ M es Z S=bt (ws,S1))(hl:ws.length=k)(h2:M f ws S1=bt (v,S2))(h3:uu v=bt w):(BK.set j f k es).fs M Z S=bt (.nx (Z.set j (bt w)),S2):=by
 have e1:dC k (oV (M f)) (aZ M es) Z S=bt (w,S2):=by
  unfold dC;rw[h1];dsimp only;rw[Ks hl];unfold oV;rw[h2];dsimp only;rw[h3];rfl
 dsimp only[BK.fs];unfold dE;rw[e1];rfl
def G2 {j:J4}{cn:J3}{us:JS W}(h1:aZ M es Z S=bt (ws,S1))(hl:ws.length=k)(h2:M f ws S1=bt (v,S2))(h3:xV v=bt (cn,us)):(BK.set j f k es).fs M Z S=gV/\(BK.set j f k es).fx M Z S=bt (cn,us,S2):=by
 obtain⟨e1,e2⟩:=G1 h1 hl h2 h3;show#[?_,e2];dsimp only[BK.fs];unfold dE;rw[e1]
end
section
variable{cl:Cl}{cn:J3}{C:td}{gs:JS J3}{ws:JS W}{Z:Fm}{S:aa}{i j:J4}
def qC {sb:J3->Kn}(h1:Z[i]?=bt (bt (.ref j)))(h2:S[j]?=bt (.exc cn C gs ws))(h3:cl cn=bt (C,gs)):gM cl sb i Z S=bt (.bl (sb cn),S):=by
 unfold gM EF;rw[h1];dsimp only;rw[h2];dsimp only;rw[Ks h3];rfl
def Er {g:J3}{w:W}(h1:Z[i]?=bt (bt (.ref j)))(h2:S[j]?=bt (.exc cn C gs ws))(h3:cl cn=bt (C,gs))(h4:(gs.zip ws).lookup g=bt w):uh cl g i Z S=bt (w,S):=by
 unfold uh EF;rw[h1];dsimp only;rw[h2];dsimp only;rw[Ks h3,h4];rfl
end
abbrev kh (cl:Cl):Ss:=
 .cons (.set 5 (.and (.sem (gM cl (λcn=>eI cn "LayError") 4)) (.sem (gM cl (λ_=>true) 4))))
 #v[.set 2 (.tup #v[.sem (uh cl "row" 4),.and (.v 5) (.not (.sem (gM cl (λcn=>([("BadText" : J3),"NoRow","NoRule","NoWorld"]:JS J3).any (eI cn)) 4)))])]
abbrev fZ:BK:=.set 3 "look_sentence!" 2 #v[.v 0,.v 1]
abbrev bp (cl:Cl):Ss:=
 .cons (.set 2 (.c .non))
 #v[.set 3 (.c .non),.sem (EG cl "NoSentence" 4 fZ (kh cl)),.ite (.cmp .is (.v 2) (.c .non)) #v[.ret (.cmp .is (.v 3) (.c (.bl true)))] .nil,.ret (.v 2)]
abbrev AQ:JX J4->W
 | none=>.bl true
 | some i=>.tup [.int (i:J4),.bl true]
section
variable{defs:JS (J3×Df)}{fuel d:J4}{S:aa}{Q:QW}
def ya {cl:Cl}{C:td}(hc:cl "NoSentence" = bt (C,[("row" : J3)]))(L:Sn defs)(hx:Is defs ("look_sentence!" : J3) 2 5 aC)(hg:Is defs ("_law_answer" : J3) 2 6 (bp cl)){Mqa N:JS W}{b0 w:W}{a n:Kk}(hM:(Mqa.length:Kk)=a)(hN:(N.length:Kk)=n)(h:Thg S w)
  (k:∀S',Ka S S'->Q (AQ (cG a n w),S')):wO (bu (ag defs fuel (d+6)) "_law_answer" 2 [.tup [.tup Mqa,.tup N,b0],w] S) Q:=by
 show aH hg rfl rfl λQ' hR=>?_
 replace k:∀S',Ka S S'->Q' (.rt (AQ (cG a n w)),S'):=λS' a=>hR _ _ (k S' a)
 clear hR;change wZ _ _ (bp cl) [bt (.tup [.tup Mqa,.tup N,b0]),bt w,gV,gV,gV,gV] S Q';have lk:=En (fuel:=fuel) (d:=d) (S:=S) (Q:=λp=>p.1=mI (cG a n w)/\Ka S p.2) (b0:=b0) L hx hM hN h λS' a=>#[rfl,a]
 generalize W.tup [.tup Mqa,.tup N,b0]=R at lk;unfold bu at lk;rw[Ks (show[R,w].length=2 from rfl)]at lk
 obtain⟨⟨v,S1⟩,e0,ev,kk⟩:=aN lk;dsimp only at ev kk;dsimp only[bp];show st ?_;dsimp only[wS,wE,KH];show st ?_;dsimp only[wS,wE,KH];nofun
 dsimp only[wS];have eA:aZ (ag defs fuel (d+5)) #v[.v 0,.v 1] [bt R,bt w,bt .non,bt .non,gV,gV] S=bt ([R,w],S):=rfl;cases ef:cG a n w with
 | none=>
  rw[ef]at ev k;subst ev;show GQ (o:=.nx [bt R,bt w,bt .non,bt (.bl true),gV,gV]) (S1:=S1) ?_ (hK _ _ ?_)
  ·unfold fZ;exact(Eo (k:=2) eA rfl e0 rfl).trans rfl
  ·show bG λK2 hK2=>bR (bc (cY (λQ q=>q) (λQ q=>q) rfl)) (λS2 k2=>cY (λQ q=>q) (λQ q=>q) rfl) λS2 k2=>k S2 (kk.trans k2)
 | some j=>
  rw[ef]at ev k;subst ev;obtain⟨x1,x2⟩:=G2 (k:=2) (j:=3) eA rfl e0 (show xV (mI (bt j))=bt (("NoSentence" : J3),[W.int j])from rfl)
  show GP (b:=fZ) rfl x1 x2 hc #v[] ?_
  dsimp only[kh];have hs:(S1++[O.exc "NoSentence" C ["row"] [.int j]])[S1.length]?=bt (O.exc "NoSentence" C ["row"] [.int j]):=al;have kS:Ka S (S1++[O.exc "NoSentence" C ["row"] [.int j]]):=kk.trans .push;generalize S1++[O.exc "NoSentence" C ["row"] [.int j]]=S2 at hs kS;show st ?_;dsimp only[wS,wE,KH];show af (qC rfl hs hc) ?_;dsimp only[wB];show#[λ_=>af (qC rfl hs hc) ?_,λz=>absurd z #v[]]
  show st ?_;left;show af (Er (w:=.int j) rfl hs hc rfl) ?_;dsimp only[wB];show#[λ_=>af (qC rfl hs hc) ?_,λz=>by cases z]
  dsimp only[wB];show cV (hK _ _ ?_);exact bG λK2 hK2=>fG (bc (cY (λQ q=>q) (λQ q=>q) rfl)) λS3 k3=>hK2 _ _ (dq (λQ q=>q S3 .refl) λS4 k4=>k S4 (kS.trans (k3.trans k4)))
def AR {cl:Cl}{C:td}(hc:cl "NoSentence" = bt (C,[("row" : J3)]))(L:Sn defs)(hx:Is defs ("look_sentence!" : J3) 2 5 aC)(ha:Is defs ("_law_answer" : J3) 2 6 (bp cl))(hg:Is defs ("_law_right" : J3) 2 4 b6){Mqa N:JS W}{b0 w:W}(h:Thg S w)
  (k:∀S',Ka S S'->Q (.bl true,S')):wO (bu (ag defs fuel (d+7)) "_law_right" 2 [.tup [.tup Mqa,.tup N,b0],w] S) Q:=by
 show aH hg rfl rfl λQ' hR=>?_
 replace k:∀S',Ka S S'->Q' (.rt (.bl true),S'):=λS' a=>hR _ _ (k S' a)
 clear hR;change wZ _ _ b6 [bt (.tup [.tup Mqa,.tup N,b0]),bt w,gV,gV] S Q';dsimp only[b6];nofun
 left;show AN (d:=d+3) L rfl rfl h λS1 k1=>hK _ _ ?_
 clear hK K;nofun
 left;show ya (d:=d) hc L hx ha rfl rfl (h.ka k1) λS2 k2=>hK _ _ ?_
 clear hK K;have kk:=k1.trans k2;generalize W.tup [.tup Mqa,.tup N,b0]=R;cases cG Mqa.length N.length w with
 | none=>exact bG λK hK=>bR (bc (cY (λQ q=>q) (λQ q=>q) rfl)) (λS3 k3=>cY (λQ q=>q) (λQ q=>q) rfl) λS3 k3=>k S3 (kk.trans k3)
 | some j=>
  show bG λK hK=>fG (bc (cY (λQ q=>q) (λQ q=>q) rfl)) λS3 k3=>hK _ _ (dq (lx (x:=true&&(true&&true)) rfl (bj (qt (λQ q=>q) rfl) λ_ S4 k4=>bj (λQ q=>?_) λ_ S5 k5=>λQ q=>?_)) λS4 k4=>k S4 (kk.trans (k3.trans k4)))
  ·dsimp only[wE,wA,wV,wG,AQ,AM];show dR #v[] rfl (af cL (sd (d:=d+5) L .int ?_))
   have e:aI ((j:Kk)+1) (.int (j:J4))=true:=by
    show(decide (0<=(j:Kk))&&decide ((j:Kk) < (j:Kk)+1))=true;rw[Lh ∅,Lh ∅]; rfl
   rw[e];exact q _ .refl
  ·dsimp only[wE,wA,wV,wG,AQ,AM];show af (a:=(.bl true,S5)) ?_ (q _ .refl);change bt (W.bl (((j:Kk)==(j:Kk))&&(true&&true)),S5)=_;rw[KS]; rfl
end
section
variable{M:J3->FF}{fuel:J4}{Z:Fm}{S:aa}{K:Fm->aa->Prop}{Q:QO}
def yb {i0:J4}{e:E}{b:Ss}(oe:dw e=true)(ok:gF b=true)(he:wE M e Z S λp=>∃(j:Kk) (I:J4->Fm->aa->Prop),p.1=.int j/\(-(2 ^ 62)<=j/\j < 2 ^ 62)/\I 0 Z p.2/\
  (∀(i:J4) (Z:Fm) (S:aa),(i:Kk) < j->I i Z S->BI M fuel b (Z.set i0 (bt (.int i))) S (I (i+1)) Q)/\∀Z S,I j.toNat Z S->K Z S):Wp (bH M fuel (.loop (.nm i0) (.rng #v[e]) b) Z S) (oz K Q):=by
 obtain⟨w,S1,e1,j,I,rfl,hj,h0,hs,hend⟩:=b9 oe he;have hl:(b8 0 j.toNat).length=j.toNat:=by simp[b8]
 show jU (mi:=.its (b8 0 j.toNat)) (S1:=S1) (xs:=b8 0 j.toNat) I ok ?_ (λ_ _ _ _=>rfl) rfl h0 (λi w Z S hw hI=>?_) λZ S hI=>hend Z S (hl ▸ hI)
 ·(dsimp only[kD,aZ,bZ,gu,pP]; simp only[e1])
  rw[Ks hj]
 ·rw[cv]at hw;split at hw
  ·rename_i hk;cases hw;rw[OY];exact hs i Z S ∅ hI
  ·cases hw
def uq {i0:J4}{a b:E}{bd:Ss}(i:Kk)(oa:dw a=true)(ob:dw b=true)(ok:gF bd=true)(he:wE M a Z S λp=>p.1=.int i/\wE M b Z p.2 λq=>∃(j:Kk) (I:J4->Fm->aa->Prop),q.1=.int j/\(-(2 ^ 62)<=i/\i < 2 ^ 62/\-(2 ^ 62)<=j/\j < 2 ^ 62)/\I 0 Z q.2/\
  (∀(k:J4) (Z:Fm) (S:aa),(k:Kk) < j - i->I k Z S->BI M fuel bd (Z.set i0 (bt (.int (i+k)))) S (I (k+1)) Q)/\∀Z S,I (j - i).toNat Z S->K Z S):Wp (bH M fuel (.loop (.nm i0) (.rng2 #v[a,b]) bd) Z S) (oz K Q):=by
 obtain⟨w,S1,e1,rfl,h1⟩:=b9 oa he;obtain⟨w,S2,e2,j,I,rfl,hj,h0,hstep,hend⟩:=b9 ob h1;have hl:(b8 i (j - i).toNat).length=(j - i).toNat:=by simp[b8]
 show jU (mi:=.its (b8 i (j - i).toNat)) (S1:=S2) (xs:=b8 i (j - i).toNat) I ok ?_ (λ_ _ _ _=>rfl) rfl h0 (λk w Z S hw hI=>?_) λZ S hI=>hend Z S (hl ▸ hI)
 ·simp only[kD,aZ,bZ,gu,iRng2,e1,e2];rw[Ks hj]
 ·rw[cv]at hw;split at hw
  ·rename_i hk;cases hw;exact hstep k Z S ∅ hI
  ·cases hw
def yc {elt e:E}{i0:J4}{cs:Es}{cap:JS (JX J4)}{Q:QW}(oi:dw e=true)(oe:dw elt=true)(oc:pY cs=true)(he:wE M e Z S λp=>∃(j:Kk) (I:J4->JS W->Fm->aa->Prop),p.1=.int j/\(-(2 ^ 62)<=j/\j < 2 ^ 62)/\I 0 [] (eD cap Z) p.2/\
  (∀(i:J4) (ys:JS W) (Z:Fm) (S:aa),(i:Kk) < j->I i ys Z S->rV M elt cs (Z.set i0 (bt (.int i))) S (λy=>I (i+1) (ys++[y])) (I (i+1) ys))/\
  ∀ys Z S,I j.toNat ys Z S->ys.length<=sizeLine/\Q (.ref S.length,S++[.lst ys])):Wp (ap M (.comp elt (.nm i0) (.rng #v[e]) cs cap) Z S) Q:=by
 obtain⟨w,S1,e1,j,I,rfl,hj,h0,hstep,hend⟩:=b9 oi he;have hl:(b8 0 j.toNat).length=j.toNat:=by simp[b8]
 show qk (mi:=.its (b8 0 j.toNat)) (S1:=S1) (xs:=b8 0 j.toNat) I oe oc ?_ (λ_ _ _ _ _=>rfl) rfl h0 (λi w ys Z S hw hI=>?_) λys Z S hI=>hend ys Z S (hl ▸ hI)
 ·simp only[kD,aZ,bZ,gu,pP,e1];rw[Ks hj]
 ·rw[cv]at hw;split at hw
  ·rename_i hk;cases hw;rw[OY];exact hstep i ys Z S ∅ hI
  ·cases hw
end
def Thg.set {S:aa}{w:W}{t:J4}{ys:JS W}(h:Thg S w)(ht:t < S.length):Thg (S.set t (.lst ys)) w:=h.mono λl #[xs,e]=>by
 by_cases z:l=t
 ·subst z;exact#[ys,by rw[LY]; simp[ht]]
 ·exact#[xs,by rw[eG (Ne.symm z)]; exact e]
section
variable{defs:JS (J3×Df)}{fuel d:J4}{S:aa}{r:J4}{Q:QW}
def Et (hd:Is defs ("_law_flow" : J3) 1 1 cy){ns:JS Kk}{u:J4}(hu:S[u]?=bt (.fro (ns.map W.int)))(k:∀r S',Ka S S'->Fl S' r->Q (.ref r,S')) :
  wO (bu (ag defs fuel (d+1)) "_law_flow" 1 [.ref u] S) Q:=by
 show aH hd rfl rfl λQ' hR=>?_
 change wZ _ _ cy [bt (.ref u)] S Q';dsimp only[cy];show st ?_;left;have e:Bi.list.fn [.ref u] S=bt (.ref S.length,S++[.lst (ns.map W.int)]):=by
  have h1:zv S u=gV:=by simp[zv,hu]
  simp only[Bi.fn,Bt,nB,h1,gk,eh,Al hu]
 show af e (hR _ _ (k _ _ (Ka.push.trans .push) #[S.length,ns,0,0,1,0,?_,?_,?_,#v[],#v[],#v[],#v[]]))
 ·exact al
 ·exact bg al
 ·simp
def iW (L:Sn defs){Z:Fm}{ws:JS W}{j:J4}{m:Kk}(hm:(ws.length:Kk)=m)(h0:0 < m)(h1:m < 1073741824)(hv:∀P:W->Prop,P (.ref r)->wV Z j P)(hf:Fl S r)(k:∀w S',w∈ws->Fl S' r->Kp r S S'->Q (w,S')) :
  wE (ag defs fuel (d+1)) (.ix (.lst (ff ws)) (.own "_law_pick" 2 #v[.v j,.c (.int m)])) Z S Q:=by
 dsimp only[wE,wA];show fj (hv _ ?_);show aY (d:=d) L.gen.pick (hf.ka .push) h0 h1 λv S1 v0 v1 f1 k1=>?_
 have hl:v.toNat < ws.length:=∅
 exact gO (k1.get _ _ (KW hf.lt) al) v0 (Kt hl) (k _ _ (Nu hl) f1 (Kp.push.trans k1))
end
abbrev IW:JS J3:=["x","y","ab","abc","","is","same","abcd","X","1"]
abbrev G3:JS J3:=["x","y","z","ab","abc","u"]
abbrev Hs:JS J3:=["same","mark","way","not","and","or","some","each","is","","nots"]
def qD:∀x∈IW++(G3++Hs),(x.cps.all λc=>decide (c < 128))=true/\x.length<=1000:=by decide +kernel
def IX {x:J3}(h:x∈IW):Asc x:=let ⟨a,b⟩:=qD x (Le _ h); #[a,b]
def G4 {x:J3}(h:x∈G3):Asc x:=let ⟨a,b⟩:=qD x (Ku _ (Le _ h)); #[a,b]
def G5 {x:J3}(h:x∈Hs):Asc x:=let ⟨a,b⟩:=qD x (Ku _ (Ku _ h)); #[a,b]
section
variable{defs:JS (J3×Df)}{fuel d:J4}{S:aa}{r:J4}{Q:QW}
def Eu {Z:Fm}{M:J3->FF}{Q:QW}(q:∀w:Kk,Q (.ref S.length,S++[.lst [.int 0,.int 1,.int 2,.int 3,.int (-1),.int w]])):wE M (.lst #v[.c (.int 0),.c (.int 1),.c (.int 2),.c (.int 3),.neg (.c (.int 1)),.op .pow (.c (.int 10)) (.c (.int 18))]) Z S Q:=by
 dsimp only[wE,wA,wN];exact af (a:=(.int (10 ^ 18),S)) rfl (q _)
def yd (L:Sn defs){dd:J4}{Q':QO}{x1 x3:JX W}{v:Kk}(hf:Fl S r)(k:∀w S',Thg S' w->Fl S' r->Kp r S S'->Q' (.rt w,S')) :
  wZ (ag defs fuel (dd+1)) fuel (dr 2 bh) [bt (.ref r),x1,bt (.int v),x3] S Q':=by
 nofun
 dsimp only[wS,wT,wE,wV,wG];show af ou ?_;show aK (Q0:=Q') (λz Q2 _ hr=>st ?_) (λz Q2 hn _=>cV (hn _ _ (hK _ _ ?_)))
 ·dsimp only[wS];show iW (d:=dd) (ws:=IW.map W.str) L rfl #v[] #v[] (λP p=>p) hf λw S1 hw f1 k1=>hr _ _ (k w S1 ?_ f1 k1)
  obtain⟨x,hx,rfl⟩:=MQ.mp hw;exact .str (IX hx)
 clear hK K hn;nofun
 dsimp only[wS,wT,wE,wV,wG];show af ou ?_;show aK (Q0:=Q') (λz Q3 _ hr=>st ?_) (λz Q3 hn _=>cV (hn _ _ (hK _ _ ?_)))
 ·change wE _ (.lst _) _ S λp=>wE _ (.own "_law_pick" 2 #v[.v 0,.c (.int 6)]) _ p.2 λq=>wO (nJ p.1 q.1 q.2) _
  show Eu λw=>?_
  dsimp only[wE,wA,wV,wG];show aY (d:=dd) L.gen.pick (hf.ka .push) #v[] #v[] λv S1 v0 v1 f1 k1=>?_
  have hl:v.toNat < [W.int 0,.int 1,.int 2,.int 3,.int (-1),.int w].length:=by change v.toNat < 6; omega
  show gO (k1.get _ _ (KW hf.lt) al) v0 (Kt hl) (hr _ _ (k _ _ ?_ f1 (Kp.push.trans k1)));have hm:=Nu hl;generalize[W.int 0,.int 1,.int 2,.int 3,.int (-1),.int w][v.toNat]=y at hm;simp only[J5,Kz,Lo]at hm;rcases hm with rfl|rfl|rfl|rfl|rfl|rfl <;> exact .int
 clear hK K hn;show st ?_;dsimp only[wS];show iW (d:=dd) (ws:=[.non,.bl true,.bl false]) L rfl #v[] #v[] (λP p=>p) hf λw S1 hw f1 k1=>k w S1 ?_ f1 k1
 simp only[J5,Kz,Lo]at hw;rcases hw with rfl|rfl|rfl
 ·exact .non
 ·exact .bl
 ·exact .bl
def sw (L:Sn defs):∀(m:J4) (d:J4) (S:aa) (Q:QW),Fl S r->(∀w S',Thg S' w->Fl S' r->Kp r S S'->Q (w,S'))->wO (bu (ag defs fuel (d+m+2)) "_law_thing" 2 [.ref r,.int (m:J4)] S) Q:=by
 intro m
 induction m with
 | zero=>
  intro d S Q hf k;show aH L.l_thing rfl rfl λQ' hR=>?_
  replace k:∀w S',Thg S' w->Fl S' r->Kp r S S'->Q' (.rt w,S'):=λw S' a b c=>hR _ _ (k w S' a b c)
  clear hR;change wZ _ _ bh [bt (.ref r),bt (.int ((0:J4):Kk)),gV,gV] S Q';unfold bh;nofun
  left;show aY (d:=d+0) L.gen.pick hf #v[] #v[] λv S1 v0 v1 f1 k1=>hK _ _ ?_
  clear hK K;have lf:=yd (defs:=defs) (fuel:=fuel) (S:=S1) (dd:=d+0) (Q':=Q') (x1:=bt (.int ((0:J4):Kk))) (x3:=gV) (v:=v) L f1 λw S' a b c=>k w S' a b (k1.trans c)
  nofun
  dsimp only[wS,wT,wE,wV,wG];show af ou #[λz=>af w8 ?_,λz=>?_]
  ·exact aK (Q0:=Q') (λz=>by cases z) (λz Q2 hn _=>cV (hn _ _ (hK _ _ lf)))
  ·exact aK (Q0:=Q') (λz=>by cases z) (λz Q2 hn _=>cV (hn _ _ (hK _ _ lf)))
 | succ m ih=>
  intro d S Q hf k;show aH L.l_thing rfl rfl λQ' hR=>?_
  replace k:∀w S',Thg S' w->Fl S' r->Kp r S S'->Q' (.rt w,S'):=λw S' a b c=>hR _ _ (k w S' a b c)
  clear hR;change wZ _ _ bh [bt (.ref r),bt (.int ((m+1:J4):Kk)),gV,gV] S Q';unfold bh;nofun
  left;show aY (d:=d+(m+1)) L.gen.pick hf #v[] #v[] λv S1 v0 v1 f1 k1=>hK _ _ ?_
  clear hK K;have lf:=yd (defs:=defs) (fuel:=fuel) (S:=S1) (dd:=d+(m+1)) (Q':=Q') (x1:=bt (.int ((m+1:J4):Kk))) (x3:=gV) (v:=v) L f1 λw S' a b c=>k w S' a b (k1.trans c)
  nofun
  dsimp only[wS,wT,wE,wV,wG];show af ou #[λz=>af w8 ?_,λz=>?_]
  ·show aK (Q0:=Q') (λz2 Q2 _ hr=>?_) (λz2 Q2 hn _=>cV (hn _ _ (hK _ _ lf)))
   show bG λK2 hK2=>?_
   dsimp only[wS];show yc rfl rfl rfl ?_;dsimp only[wE,wA,wV,wG];show aY (d:=d+(m+1)) L.gen.pick f1 #v[] #v[] λu S2 u0 u1 f2 k2=>?_
   show#[u,λi ys Z S'=>(∃a1,Z=[gV,a1,bt (.int ((m+1:J4):Kk)),bt (.ref r)])/\ys.length=i/\(∀y∈ys,Thg S' y)/\Fl S' r/\Kp r S S',rfl,∅,#[#[gV,rfl],rfl,λ_ h=>(nomatch h),f2,k1.trans k2],?_,?_]
   ·rintro i ys Z S3 hi ⟨⟨a1,rfl⟩,hl,hy,f3,k3⟩;dsimp only[rV,wC,wE,wA,wV,wG,KH];show#[λ_=>af (a:=(.int ((m:J4):Kk),S3)) ?_ ?_,λz=>by cases z]
    ·rw[BC,show((m+1:J4):Kk) - 1=(m:Kk) by omega]
    ·show ih d S3 _ f3 λw S4 hw f4 k4=>#[#[_,rfl],by rw[Kb,hl]; rfl,λy hy'=>?_,f4,k3.trans k4]
     rcases KU.mp hy' with h|h
     ·exact(hy y h).kp k4 f4
     ·rw[Ky.mp h]; exact hw
   ·rintro ys Z S3 ⟨_,hl,hy,f3,k3⟩;show#[AC ∅,hK2 _ _ ?_]
    clear hK2 K2;dsimp only[KH];show bG λK2 hK2=>?_
    dsimp only[wS,wT,wE,wV,wG];show af pX ?_;show aK (Q0:=Q2) (λz3 Q3 _ hr3=>st ?_) (λz3 Q3 hn3 _=>cV (hn3 _ _ (hK2 _ _ (st ?_))))
    ·exact hr3 _ _ (hr _ _ (k _ _ (.lst #[ys,al]) (f3.ka .push) (k3.trans .push)))
    ·left;exact xC al (hr _ _ (k _ _ (.tup (λy h=>(hy y h).ka .push) ∅) (f3.ka .push) (k3.trans .push)))
  ·exact aK (Q0:=Q') (λz=>by cases z) (λz Q2 hn _=>cV (hn _ _ (hK _ _ lf)))
structure ThL (S0 S:aa)(r t:J4)(ys:JS W):Prop where
 at_:S[t]?=bt (.lst ys)
 th:∀y∈ys,Thg S y
 fl:Fl S r
 kp:Kp r S0 S
 lo:S0.length<=t
 rt:r < t
def ThL.on {S0 S S':aa}{t:J4}{ys:JS W}(h:ThL S0 S r t ys)(f:Fl S' r)(k:Kp r S S'):ThL S0 S' r t ys:=#[k.get _ _ (KW h.rt) h.at_,λy hy=>(h.th y hy).kp k f,f,h.kp.trans k,h.lo,h.rt]
def ThL.app {S0 S:aa}{t:J4}{ys:JS W}{y:W}(h:ThL S0 S r t ys)(hy:Thg S y):ThL S0 (S.set t (.lst (ys++[y]))) r t (ys++[y]):=
 #[ik h.at_,λz hz=>by
  rcases KU.mp hz with hz|hz
  ·exact(h.th z hz).set (lm h.at_)
  ·rw[Ky.mp hz]; exact hy.set (lm h.at_),h.fl.own h.rt,h.kp.late h.lo,h.lo,h.rt]
def qE (L:Sn defs){n:J4}(hn:n<=10)(hf:Fl S r)(k:∀w S',Thg S' w->Fl S' r->Kp r S S'->Q (w,S')):wO (bu (ag defs fuel (d+4)) "_law_near_row" 2 [.ref r,.int (n:J4)] S) Q:=by
 show aH L.l_near_row rfl rfl λQ' hR=>?_
 replace k:∀w S',Thg S' w->Fl S' r->Kp r S S'->Q' (.rt w,S'):=λw S' a b c=>hR _ _ (k w S' a b c)
 clear hR;change wZ _ _ bQ [bt (.ref r),bt (.int (n:J4)),gV,gV,gV,gV] S Q';unfold bQ;nofun
 dsimp only[wS];show iW (d:=d+2) (ws:=Hs.map W.str) L rfl #v[] #v[] (λP p=>p) hf λw S1 hw f1 k1=>hK _ _ ?_
 clear hK K;obtain⟨x,hx,rfl⟩:=MQ.mp hw;have hx:=G5 hx;dsimp only[KH];show st ?_;dsimp only[wS,wE,wA,KH];have T0:ThL S (S1++[.lst []]) r S1.length []:=#[al,λ_ h=>(nomatch h),f1.ka .push,k1.trans .push,k1.len,f1.lt]
 generalize S1++[O.lst []]=S2 at T0;generalize S1.length=t at T0;clear f1 k1 hw;nofun
 show yb rfl rfl ?_;dsimp only[wE,wA,wV,wG];show aY (d:=d+2) L.gen.pick T0.fl #v[] #v[] λu S3 u0 u1 f3 k3=>?_
 show aY (d:=d+2) L.gen.pick (f3.ka .push) #v[] #v[] λv S4 v0 v1 f4 k4=>?_
 have e4:=k4.get _ _ (KW f3.lt) (al (S:=S3) (o:=.lst [.int 2,.int 2,.int 2,.int 3,.int 1,.int 2,.int u]));have T1:ThL S S4 r t []:=(T0.on f3 k3).on f4 (Kp.push.trans k4);obtain⟨j,hj,j0,j1⟩ : ∃j:Kk,[W.int 2,.int 2,.int 2,.int 3,.int 1,.int 2,.int u][v.toNat]?=bt (.int j)/\0<=j/\j<=10:=by
  have:v=0\/v=1\/v=2\/v=3\/v=4\/v=5\/v=6:=∅
  rcases this with rfl|rfl|rfl|rfl|rfl|rfl|rfl
  ·exact#[2,rfl,#v[],#v[]]
  ·exact#[2,rfl,#v[],#v[]]
  ·exact#[2,rfl,#v[],#v[]]
  ·exact#[3,rfl,#v[],#v[]]
  ·exact#[1,rfl,#v[],#v[]]
  ·exact#[2,rfl,#v[],#v[]]
  ·exact#[u,rfl,∅,∅]
 show gO e4 v0 hj ?_;show#[j,λi Z S'=>(∃a4 a5,Z=[bt (.ref r),bt (.int (n:J4)),bt (.str x),bt (.ref t),a4,a5])/\∃ys,ys.length=i/\ThL S S' r t ys,rfl,∅,#[#[gV,gV,rfl],[],rfl,T1],?_,?_]
 ·rintro i Z S5 hi ⟨⟨a4,a5,rfl⟩,ys,hl,T⟩ Q2 hn2 _;clear hK;dsimp only[KH];nofun
  left;show aY (d:=d+2) L.gen.pick T.fl #v[] #v[] λp S6 p0 p1 f6 k6=>hK _ _ ?_
  clear hK K;have T6:=T.on f6 k6;have fin:∀(y:W) (S7:aa) (G:QW),Thg S7 y->Fl S7 r->Kp r S6 S7->(∀S8,ThL S S8 r t (ys++[y])->G (.non,S8))->wO (Me.append.fn (.ref t) [y] S7) G:=λy S7 G hy f7 k7 g=>by
   have T7:=T6.on f7 k7;exact rY T7.at_ ∅ (g _ (T7.app hy))
  have len:∀y:W,(ys++[y]).length=i+1:=λy=>by rw[Kb,hl]; rfl
  have ty6:tyOk "list" S6 (.ref t)=true:=jS T6.at_;nofun
  dsimp only[wS,wT,wE,wV,wG];show af ou ?_;show aK (Q0:=Q2) (λz Q3 hn3 _=>st ?_) (λz Q3 hn3 _=>?_)
  ·change tyOk "list" S6 (.ref t)=true/\wE _ (.ix (.lst (ff (G3.map W.str))) _) _ S6 λp=>wO (Me.append.fn (.ref t) [p.1] p.2) _
   show#[ty6,iW (d:=d+2) (ws:=G3.map W.str) L rfl #v[] #v[] (λP p=>p) f6 λw S7 hw f7 k7=>?_]
   obtain⟨y,hy,rfl⟩:=MQ.mp hw;exact fin _ S7 _ (.str (G4 hy)) f7 k7 λS8 T8=>cV (hn3 _ _ (hK _ _ (cV (hn2 _ _ #[#[_,_,rfl],_,len _,T8]))))
  ·show bG λK2 hK2=>?_
   dsimp only[wS,wT,wE,wV,wG];show af ou ?_;show aK (Q0:=Q3) (λz Q4 hn4 _=>st ?_) (λz Q4 hn4 _=>st ?_)
   ·left;show#[ty6,aY (d:=d+2) L.gen.pick f6 ∅ ∅ λw S7 _ _ f7 k7=>?_]
    exact fin _ S7 _ .int f7 k7 λS8 T8=>cV (hn4 _ _ (hK2 _ _ (cV (hn3 _ _ (hK _ _ (cV (hn2 _ _ #[#[_,_,rfl],_,len _,T8])))))))
   ·left;show#[ty6,sw L 1 d S6 _ f6 λw S7 hw f7 k7=>?_]
    exact fin _ S7 _ hw f7 k7 λS8 T8=>cV (hn4 _ _ (hK2 _ _ (cV (hn3 _ _ (hK _ _ (cV (hn2 _ _ #[#[_,_,rfl],_,len _,T8])))))))
 ·rintro Z S5 ⟨⟨a4,a5,rfl⟩,ys,hl,T⟩;show hK _ _ ?_;clear hK K;nofun
  dsimp only[wS,wT,wE,wA,wV,wG];show aY (d:=d+2) L.gen.pick T.fl #v[] #v[] λp S6 p0 p1 f6 k6=>af pX ?_
  have T6:=T.on f6 k6;show aK (Q0:=Q') (λz Q3 _ hr=>st ?_) (λz Q3 hn3 _=>cV (hn3 _ _ (hK _ _ (st ?_))))
  ·left;show af (w6 (al (S:=S6) (o:=.lst [.str x])) (bg T6.at_) (AC (by rw[Kb]; show 1+_<=_; omega))) (hr _ _ (k _ _ (.lst #[_,al]) ((f6.ka .push).ka .push) (T6.kp.trans (Kp.push.trans .push))))
  ·left;show xC T6.at_ (af (DF (AC (by rw[Kb]; show 1+_<=_; omega))) (k _ _ (.tup (λy hy=>?_) (by rw[Kb]; show 1+_<=_; omega)) f6 T6.kp))
   rcases KU.mp hy with hy|hy
   ·rw[Ky.mp hy]; exact .str hx
   ·exact T6.th y hy
end
abbrev lz:JS W:=[.tup [.str "same",.str "x",.str "y"],.tup [.str "mark",.str "z",.int 0],.tup [.str "way",.str "x",.str "u",.int 0]]
def AS {S:aa}:∀w∈lz,Thg S w:=by
 have s:∀x∈(G3++Hs),Thg S (.str x):=λx hx=>by
  rcases KU.mp hx with h|h
  ·exact .str (G4 h)
  ·exact .str (G5 h)
 intro w hw;simp only[lz,J5,Kz,Lo]at hw;rcases hw with rfl|rfl|rfl
 ·show .tup (λx hx=>?_) (Kf rfl)
  simp only[J5,Kz,Lo]at hx;rcases hx with rfl|rfl|rfl <;> exact s _ #v[]
 ·show .tup (λx hx=>?_) (Kf rfl)
  simp only[J5,Kz,Lo]at hx;rcases hx with rfl|rfl|rfl
  ·exact s _ #v[]
  ·exact s _ #v[]
  ·exact .int
 ·show .tup (λx hx=>?_) (Kf rfl)
  simp only[J5,Kz,Lo]at hx;rcases hx with rfl|rfl|rfl|rfl
  ·exact s _ #v[]
  ·exact s _ #v[]
  ·exact s _ #v[]
  ·exact .int
section
variable{defs:JS (J3×Df)}{fuel d:J4}{S:aa}{r:J4}{Q:QW}
def ki (L:Sn defs)(hf:Fl S r)(k:∀w S',Thg S' w->Fl S' r->Kp r S S'->Q (w,S')):wO (bu (ag defs fuel (d+6)) "_law_near_sentence" 1 [.ref r] S) Q:=by
 show aH L.l_near_sentence rfl rfl λQ' hR=>?_
 replace k:∀w S',Thg S' w->Fl S' r->Kp r S S'->Q' (.rt w,S'):=λw S' a b c=>hR _ _ (k w S' a b c)
 clear hR;change wZ _ _ aU [bt (.ref r),gV,gV] S Q';unfold aU;nofun
 dsimp only[wS,wT,wE,wA,wV,wG];show aY (d:=d+4) L.gen.pick hf #v[] #v[] λp S1 p0 p1 f1 k1=>af pX ?_
 show aK (Q0:=Q') (λz Q3 _ hr=>st ?_) (λz Q3 hn3 _=>cV (hn3 _ _ (hK _ _ ?_)))
 ·left;exact sw L 3 d S1 _ f1 λw S2 hw f2 k2=>hr _ _ (k w S2 hw f2 (k1.trans k2))
 clear hK K hn3;nofun
 left;show aY (d:=d+4) L.gen.pick (f1.ka .push) #v[] #v[] λv S2 v0 v1 f2 k2=>?_
 have e2:S2[S1.length]?=bt (.lst lz):=k2.get _ _ (KW f1.lt) al;have hl:v.toNat < lz.length:=by change v.toNat < 3; omega
 show gO e2 v0 (Kt hl) (hK _ _ ?_);have hw:=AS (S:=S2++[.lst [lz[v.toNat]]]) _ (Nu hl);generalize lz[v.toNat]=w0 at hw;clear hK K e2;have kk:Kp r S S2:=k1.trans (Kp.push.trans k2);have T0:ThL S (S2++[.lst [w0]]) r S2.length [w0]:=#[al,λy hy=>by rw[Ky.mp hy]; exact hw,f2.ka .push,kk.trans .push,kk.len,f2.lt]
 dsimp only;generalize S2++[O.lst [w0]]=S3 at T0;generalize S2.length=t at T0;nofun
 show uq 1 rfl rfl rfl ?_;dsimp only[wE,wA,wV,wG];show#[rfl,aY (d:=d+4) L.gen.pick T0.fl #v[] #v[] λu S4 u0 u1 f4 k4=>af cL ?_]
 show#[1+u,λi Z S'=>(∃a2,Z=[bt (.ref r),bt (.ref t),a2])/\∃ys,ys.length=i+1/\ThL S S' r t ys,rfl,∅,#[#[gV,rfl],[w0],rfl,T0.on f4 k4],?_,?_]
 ·rintro i Z S5 hi ⟨⟨a2,rfl⟩,ys,hy,T⟩ Q2 hn2 _;clear hK;dsimp only[KH];show st ?_;left;show#[jS T.at_,?_];rw[show(1:Kk)+(i:Kk)=((i+1:J4):Kk) by omega]
  show qE (d:=d+1) L ∅ T.fl λw S6 hw6 f6 k6=>?_
  have T6:=T.on f6 k6;exact rY T6.at_ ∅ (cV (hn2 _ _ #[#[_,rfl],ys++[w],by rw[Kb,hy]; rfl,T6.app hw6]))
 ·rintro Z S5 ⟨⟨a2,rfl⟩,ys,hy,T⟩;show hK _ _ ?_;clear hK K;nofun
  dsimp only[wS,wT,wE,wA,wV,wG];show aY (d:=d+4) L.gen.pick T.fl #v[] #v[] λp S6 p0 p1 f6 k6=>af pX ?_
  have T6:=T.on f6 k6;show aK (Q0:=Q') (λz Q3 _ hr=>st ?_) (λz Q3 hn3 _=>cV (hn3 _ _ (hK _ _ (st ?_))))
  ·exact hr _ _ (k _ _ (.lst #[_,T6.at_]) f6 T6.kp)
  ·left;exact xC T6.at_ (k _ _ (.tup T6.th ∅) f6 T6.kp)
end
structure Lw52 (cl:Cl)(defs:JS (J3×Df)):Prop where
 sn:Sn defs
 lookx:Is defs ("look_sentence!" : J3) 2 5 aC
 answer:Is defs ("_law_answer" : J3) 2 6 (bp cl)
 right:Is defs ("_law_right" : J3) 2 4 b6
 flow:Is defs ("_law_flow" : J3) 1 1 cy
 law:Is defs ("law" : J3) 1 5 iU
section
variable{defs:JS (J3×Df)}{fuel d:J4}
def ye (hfu:50 < fuel){cl:Cl}{C:td}(hc:cl "NoSentence" = bt (C,[("row" : J3)]))(L:Lw52 cl defs){zs:JS Kk}:∃S',ag defs fuel (d+8) "law" [.ref 0] [.fro (zs.map W.int)]=bt (.bl true,S'):=by
 suffices h:wO (bu (ag defs fuel (d+8)) "law" 1 [.ref 0] [.fro (zs.map W.int)]) (λp=>p.1=.bl true) by
  obtain⟨⟨v,S'⟩,e,q⟩:=aN h;cases(show v=.bl true from q)
  exact#[S',e]
 show aH L.law rfl rfl λQ' hR=>?_
 change wZ _ _ iU [bt (.ref 0),gV,gV,gV,gV] [.fro (zs.map W.int)] Q';unfold iU;nofun
 left;show Et (d:=d+6) L.flow (ns:=zs) rfl λr S1 _ f1=>hK _ _ ?_
 clear hK K;nofun
 left;show Ea (d:=d+4) ∅ L.sn f1 λw S2 hw f2 k2=>hK _ _ ?_
 clear hK K;obtain⟨ms,ns,rfl,_⟩:=hw;generalize ms.map W.str=Mqa;generalize(ns.map λp=>W.tup [.str p.1,.int p.2])=N
 nofun
 left;show ki (d:=d+1) L.sn f2 λa S3 ha f3 k3=>hK _ _ ?_
 clear hK K;nofun
 left;show ki (d:=d+1) L.sn f3 λb S4 hb f4 k4=>hK _ _ ?_
 clear hK K;have ha:=ha.kp k4 f4;show st ?_;dsimp only[wS,wE,wA];have rk:=λ(S:aa) (Q:QW) (w:W) (h:Thg S w) (k:∀S',Ka S S'->Q (.bl true,S'))=>AR (defs:=defs) (fuel:=fuel) (d:=d) (S:=S) (Q:=Q) (Mqa:=Mqa) (N:=N) (b0:=.tup []) hc L.sn L.lookx L.answer L.right h k
 generalize W.tup [.tup Mqa,.tup N,.tup []]=R at rk;show Eb (L:=[a,b,a,.tup [],a]) (f:=id) (p:=λ_=>true) (g:=λ_=>.bl true) (R:=[bt R]) rfl rfl rfl rfl (Kf rfl) ?_ (λx hx S' k'=>?_) λS' k'=>?_
 ·dsimp only[wE,wA,wV,wG];exact#[_,rfl,al,.push]
 ·dsimp only[rV,wC,wE,wA,wV,wG];have hx':Thg S4 x:=by
   simp only[J5,Kz,Lo]at hx;rcases hx with rfl|rfl|rfl|rfl|rfl
   ·exact ha
   ·exact hb
   ·exact ha
   ·exact .tup (λ_ h=>(nomatch h)) (Mt _)
   ·exact ha
  exact#[λ_=>rk S' _ x (hx'.ka k') λS2 k2=>#[rfl,rfl,k2],λz=>by cases z]
 ·rw[j3];exact qm (L:=[true,true,true,true,true]) al (hR _ _ rfl)
end
abbrev BO:Df:=#[["_law_script"],["_law_script","_law_flow_here","_law_rule_here","_law_one","_law_other"],iU]
noncomputable abbrev Tw:=J3×J4×Df×J4
noncomputable abbrev tw (x:J3)(i:J4)(d:Df)(a:J4):Tw:=(x,i,d,a)
abbrev RL:JS (J3×td×JS J3):=[("NoSentence",101,["row"])]
abbrev sx:Cl:=λcn=>RL.lookup cn
abbrev IY:JS (J3×td):=[("LayError",24),("NoSentence",101),("BadText",82),("NoRow",120),("NoRule",44),("NoWorld",63)]
abbrev yf:JS J3:=IY.map (·.1)
abbrev RT:JS (J3×J4):=RL.map λp=>(p.1,p.2.2.length)
abbrev TL:JS Tw:=[tw "is_whole" 8 #[["thing"],["thing"],dL] 129,tw "is_name" 13 #[["text"],["text"],e6] 135,tw "is_row" 21 #[["rule","thing","ahead"],["rule","thing","ahead","form","bounds"],gP] 150,tw "is_field" 22 #[["thing","kind","bounds"],["thing","kind","bounds"],dM] 157,tw "is_point_name" 23 #[["thing"],["thing"],bB] 164,tw "names_of" 24 #[["row","free"],["row","free","names","number"],dN] 169,tw "part_rows" 25 #[["row"],["row"],cM] 174,tw "_law_flow" 27 #[["_law_script"],["_law_script"],cy] 181,tw "_law_pick" 28 #[["_law_flow_here","_law_many"],["_law_flow_here","_law_many","_law_cell","_law_digit"],bE] 188,tw "_law_letters" 29 #[["_law_flow_here","_law_many"],["_law_flow_here","_law_many"],bY] 193,tw "_law_unlike" 30 #[["_law_name","_law_names"],["_law_name","_law_names","_law_spare"],bM] 200,tw "_law_rule" 31 #[["_law_flow_here"],["_law_flow_here","_law_marks","_law_many","_law_near","_law_names","_law_k","_law_name","_law_backs"],cN] 205,tw "_law_place_names" 32 #[["_law_flow_here","_law_rule_here","_law_many"],["_law_flow_here","_law_rule_here","_law_many","_law_name","_law_short","_law_names","_law_k"],gQ] 210,tw "_law_free" 33 #[["_law_row","_law_frees"],["_law_row","_law_frees"],dO] 215,tw "_law_is_short" 34 #[["_law_thing_here"],["_law_thing_here"],bN] 220,tw "_law_is_below" 35 #[["_law_thing_here","_law_many"],["_law_thing_here","_law_many"],bO] 227,tw "_law_row_fits" 36 #[["_law_rule_here","_law_row","_law_at"],["_law_rule_here","_law_row","_law_at","_law_word"],bP] 234,tw "_law_first_bad" 37 #[["_law_rule_here","_law_thing_here"],["_law_rule_here","_law_thing_here","_law_frees","_law_at"],bC] 241,tw "_law_thing" 38 #[["_law_flow_here","_law_deep"],["_law_flow_here","_law_deep","_law_form","_law_things"],bh] 246,tw "_law_near_row" 39 #[["_law_flow_here","_law_k"],["_law_flow_here","_law_k","_law_word","_law_things","_law_at","_law_form"],bQ] 253,tw "_law_near_sentence" 40 #[["_law_flow_here"],["_law_flow_here","_law_rows","_law_k"],aU] 260,tw "_law_right" 42 #[["_law_rule_here","_law_thing_here"],["_law_rule_here","_law_thing_here","_law_due","_law_found"],b6] 274,tw "law" 43 BO 279]
abbrev TT:JS Tw:=[tw "_law_answer" 41 #[["_law_rule_here","_law_thing_here"],["_law_rule_here","_law_thing_here","_law_caught","_law_found","e","_law_good"],(bp sx)] 267]
abbrev TW:JS Tw:=[tw "look_sentence" 20 #[["rule","thing"],["rule","thing","free","number","row"],(GH "look_sentence!" 2)] 145]
abbrev TX:JS (J3×J3×J4×Df):=[("look_sentence","look_sentence!",20,#[["rule","thing"],["rule","thing","free","number","row"],aC])]
abbrev TA:JS Tw:=TL++(TT++TW)
abbrev dv:JS (J3×Df):=(TA.map λp=>(p.1,p.2.2.1))++TX.map λp=>(p.2.1,p.2.2.2)
abbrev IZ:JS (J3×J4):=TA.map λp=>(p.1,p.2.2.1.ps.length)
abbrev G6:JS (J3×J3×J4):=TX.map λp=>(p.1,p.2.1,p.2.2.2.ps.length)
abbrev AT:JS J3:=["range","len","list","tuple","int","set","sorted","isinstance","bool","str","all","min","zip","enumerate","ValueError"]
abbrev AU:JS (J3×W):=[("LETTERS",.str "abcdefghijklmnopqrstuvwxyz"),("LONGEST_NAME",.int 8),("WORDS",.tup (bV.map W.str)),("LONGEST_POINT_NAME",.int 3),("MOST_FREE_NAMES",.int 3),("PLAIN",.tup ((["same","mark","way"]:JS J3).map W.str)),("BINDING",.tup ((["some","each"]:JS J3).map W.str))]
abbrev AV:JS (J3×JS (J3×W)):=[("FORMS",il)]
abbrev yq:Md:=#[IZ,AT,AU,AV]
abbrev BD (x:J3)(st:Lp)(df:Df):Prop:=∀(kV doc pm:JU) (an:JX td) (cdv ct:JU) (us:JS JU),us.length=df.ps.length->bindArgs (LX x x (bX st) (aE st) (am st) .none kV doc pm an cdv ct) #[us,[]]=pure (df.ps.zip us)
def Ht {us:JS JU}(h:us.length=0):us=[]:=Mo.mp h
def uc {us:JS JU}{n:J4}(h:us.length=n+1):∃a t,us=a::t/\t.length=n:=by
 cases us with
 | nil=>cases h
 | cons a t=>exact#[a,t,rfl,TF h]
def Hu {us:JS JU}(h:us.length=1):∃a,us=[a]:=by obtain⟨a,t,rfl,g⟩:=uc h; cases Ht g; exact#[a,rfl]
def G7 {us:JS JU}(h:us.length=2):∃a b,us=[a,b]:=by obtain⟨a,t,rfl,g⟩:=uc h; obtain⟨b,rfl⟩:=Hu g; exact#[a,b,rfl]
def Hv {us:JS JU}(h:us.length=3):∃a b c,us=[a,b,c]:=by obtain⟨a,t,rfl,g⟩:=uc h; obtain⟨b,c,rfl⟩:=G7 g; exact#[a,b,c,rfl]
def Hw {us:JS JU}(h:us.length=4):∃a b c d,us=[a,b,c,d]:=by obtain⟨a,t,rfl,g⟩:=uc h; obtain⟨b,c,d,rfl⟩:=Hv g; exact#[a,b,c,d,rfl]
def Hx {us:JS JU}(h:us.length=5):∃a b c d e,us=[a,b,c,d,e]:=by obtain⟨a,t,rfl,g⟩:=uc h; obtain⟨b,c,d,e,rfl⟩:=Hw g; exact#[a,b,c,d,e,rfl]
def Ja {us:JS JU}(h:us.length=6):∃a b c d e f,us=[a,b,c,d,e,f]:=by obtain⟨a,t,rfl,g⟩:=uc h; obtain⟨b,c,d,e,f,rfl⟩:=Hx g; exact#[a,b,c,d,e,f,rfl]
abbrev DG (p:Tw):Prop:=FY yq (top p.2.1) p.2.2.1/\FnScope p.2.2.1.N p.2.2.1.ps (am (top p.2.1))/\BD p.1 (top p.2.1) p.2.2.1
def gc {α:Type}{F:α->Prop}{p:α}{L:JS α}(a:F p)(b:∀q∈L,F q):∀q∈p::L,F q:=List.forall_mem_cons.mpr #[a,b]
def gn {α:Type}{F:α->Prop}:∀q∈([]:JS α),F q:=λ_ h=>nomatch h
def JF {p:Tw}(a:eF (cS 20 (dQ yq (top p.2.1) p.2.2.1.N)) (aE (top p.2.1))=bt p.2.2.1.body)(b:FnScope p.2.2.1.N p.2.2.1.ps (am (top p.2.1)))(c:BD p.1 (top p.2.1) p.2.2.1):DG p:=#[a,b,c]
set_option maxHeartbeats 0 in
def BP:∀p∈TL,DG p:=by
 unfold TL
 repeat show gc (JF (by kernel_rfl) #[rfl,rfl,rfl,by decide +kernel,rfl,by decide +kernel,by decide +kernel] λ_ _ _ _ _ _ us h=>by
  first
   | (obtain⟨a,rfl⟩:=Hu h; rfl)
   | (obtain⟨a,b,rfl⟩:=G7 h; rfl)
   | (obtain⟨a,b,c,rfl⟩:=Hv h; rfl)
   | (obtain⟨a,b,c,d,rfl⟩:=Hw h; rfl)
   | (obtain⟨a,b,c,d,e,rfl⟩:=Hx h; rfl)
   | (obtain⟨a,b,c,d,e,f,rfl⟩:=Ja h; rfl)
   | (obtain rfl:=Ht h; rfl)) ?_
 exact gn
abbrev DT (p:Tw):Prop:=eF (EH G6 yf sx (dQ yq (top p.2.1) p.2.2.1.N)) (aE (top p.2.1))=bt p.2.2.1.body/\FnScope p.2.2.1.N p.2.2.1.ps (am (top p.2.1))/\BD p.1 (top p.2.1) p.2.2.1
def JG {p:Tw}(a:eF (EH G6 yf sx (dQ yq (top p.2.1) p.2.2.1.N)) (aE (top p.2.1))=bt p.2.2.1.body)(b:FnScope p.2.2.1.N p.2.2.1.ps (am (top p.2.1)))(c:BD p.1 (top p.2.1) p.2.2.1):DT p:=#[a,b,c]
set_option maxHeartbeats 0 in
def BQ:∀p∈TT,DT p:=by
 unfold TT
 repeat show gc (JG (by kernel_rfl) #[rfl,rfl,rfl,by decide +kernel,rfl,by decide +kernel,by decide +kernel] λ_ _ _ _ _ _ us h=>by
  first
   | (obtain⟨a,rfl⟩:=Hu h; rfl)
   | (obtain⟨a,b,rfl⟩:=G7 h; rfl)
   | (obtain⟨a,b,c,rfl⟩:=Hv h; rfl)
   | (obtain⟨a,b,c,d,rfl⟩:=Hw h; rfl)
   | (obtain⟨a,b,c,d,e,rfl⟩:=Hx h; rfl)
   | (obtain⟨a,b,c,d,e,f,rfl⟩:=Ja h; rfl)
   | (obtain rfl:=Ht h; rfl)) ?_
 exact gn
abbrev DW (p:Tw):Prop:=(∃f',G6.lookup p.1=bt (f',p.2.2.1.ps.length)/\p.2.2.1.body=GH f' p.2.2.1.ps.length)/\BD p.1 (top p.2.1) p.2.2.1
def JH {p:Tw}(f':J3)(a:G6.lookup p.1=bt (f',p.2.2.1.ps.length))(b:p.2.2.1.body=GH f' p.2.2.1.ps.length)(c:BD p.1 (top p.2.1) p.2.2.1):DW p:=#[#[f',a,b],c]
def BR:∀p∈TW,DW p:=by
 unfold TW;show gc (JH "look_sentence!" (by kernel_rfl) (by rfl) (λ_ _ _ _ _ _ us h=>by
  first
   | (obtain⟨a,rfl⟩:=Hu h; rfl)
   | (obtain⟨a,b,rfl⟩:=G7 h; rfl)
   | (obtain⟨a,b,c,rfl⟩:=Hv h; rfl)
   | (obtain⟨a,b,c,d,rfl⟩:=Hw h; rfl)
   | (obtain⟨a,b,c,d,e,rfl⟩:=Hx h; rfl)
   | (obtain⟨a,b,c,d,e,f,rfl⟩:=Ja h; rfl)
   | (obtain rfl:=Ht h; rfl))) ?_
 exact gn
abbrev DX (p:J3×J3×J4×Df):Prop:=eF (cX RT 20 (dQ yq (top p.2.2.1) p.2.2.2.N)) (aE (top p.2.2.1))=bt p.2.2.2.body/\FnScope p.2.2.2.N p.2.2.2.ps (am (top p.2.2.1))/\dv.lookup p.2.1=bt p.2.2.2/\∃q∈TA,q.1=p.1/\q.2.1=p.2.2.1/\q.2.2.1.ps=p.2.2.2.ps
def JI {p:J3×J3×J4×Df}(a:eF (cX RT 20 (dQ yq (top p.2.2.1) p.2.2.2.N)) (aE (top p.2.2.1))=bt p.2.2.2.body)(b:FnScope p.2.2.2.N p.2.2.2.ps (am (top p.2.2.1)))(c:dv.lookup p.2.1=bt p.2.2.2)(d:∃q∈TA,q.1=p.1/\q.2.1=p.2.2.1/\q.2.2.1.ps=p.2.2.2.ps):DX p:=#[a,b,c,d]
def Jb {q:Tw}(h:q∈TW):q∈TA:=Ku _ (Ku _ h)
set_option maxHeartbeats 0 in
def BS:∀p∈TX,DX p:=by
 unfold TX;show gc (JI (by kernel_rfl) #[rfl,rfl,rfl,by decide +kernel,rfl,by decide +kernel,by decide +kernel] (by kernel_rfl) #[_,Jb (.head _),rfl,rfl,rfl]) ?_
 exact gn
def JJ {f:J3}{m n:J4}{b:Ss}(h:((dv.lookup f).map λd=>(d.ps.length,d.N.length,d.body))=bt (m,n,b)):Is dv f m n b:=by
 rw[J0]at h;obtain⟨d,h1,h2⟩:=h;rw[R3,R3]at h2;exact#[d,h1,h2.1,h2.2.1,h2.2.2]
set_option maxHeartbeats 0 in
def G8:Lw52 sx dv:=by
 repeat' first
  | exact JJ (by kernel_rfl)
  | constructor
def km:∀(L:JS Tw) (x:J3) (n:J4),(L.map λp=>(p.1,p.2.2.1.ps.length)).lookup x=bt n->∃p∈L,p.1=x/\p.2.2.1.ps.length=n/\(L.map λp=>(p.1,p.2.2.1)).lookup x=bt p.2.2.1
 | [],x,n,h=>by cases h
 | p::L,x,n,h=>by
  rw[K6,KD]at h;rw[K6,KD];cases e:x==p.1 with
  | true=>
   rw[e]at h;cases h;exact#[p,Kq ..,(eq_of_beq e).symm,rfl,rfl]
  | false=>
   rw[e]at h;obtain⟨q,h1,h2,h3,h4⟩:=km L x n h;exact#[q,Ko _ h1,h2,h3,h4]
section
variable{P:Ke}{w:Kr}{K:J2}{mg:J3->JX JU}{base:KB}
abbrev yg (K:J2)(mg:J3->JX JU)(x:J3)(st:Lp)(df:Df):Prop:=∃(f:td) (fd:Lb),Fun K x x st f fd/\mg x=bt (.ref f)/\Lc K (.ref f)=true/\Binds K fd df.ps []
def Ev {h:KB}{x:J3}{st:Lp}{df:Df}{f:td}{oc:JU}{od an:JX td}{osl:KP (JX JU)}{kV doc pm cdv ct:JU}(X:K.In h)(G:h.Ns mainGlobals mg)
  (b:BD x st df)
  (a:LF K mainGlobals x=bt (bt (.ref f))) (l:K.lookup f=bt #[oc,od,.func (LX x x (bX st) (aE st) (am st) .none kV doc pm an cdv ct),osl]) (c:M1 K cdv x=true) (k:Lc K (.ref f)=true):yg K mg x st df:=
 have F:=pe (st:=st) l c k
 #[f,_,F,Ng X G a,k,F.binds b]
def mJ:∀(L:JS (J3×J3×J4×Df)) (x y:J3) (n:J4),(L.map λp=>(p.1,p.2.1,p.2.2.2.ps.length)).lookup x=bt (y,n)->∃p∈L,p.1=x/\p.2.1=y/\p.2.2.2.ps.length=n
 | [],x,y,n,h=>by cases h
 | p::L,x,y,n,h=>by
  rw[K6,KD]at h;cases e:x==p.1 with
  | true=>
   rw[e]at h;cases h;exact#[p,Kq ..,(eq_of_beq e).symm,rfl,rfl]
  | false=>
   rw[e]at h;obtain⟨q,h1,h2⟩:=mJ L x y n h;exact#[q,Ko _ h1,h2]
def mK {x:J3}{df:Df}(h:(TA.map λp=>(p.1,p.2.2.1)).lookup x=bt df):dv.lookup x=bt df:=by
 unfold dv;rw[List.lookup_append,h];rfl
def yh {fuel:J4}(hb:MdOk w K mg yq)(D:∀p∈TA,yg K mg p.1 (top p.2.1) p.2.2.1)(Zx:XCls K mg base yf sx)(ck:∀c k,RT.lookup c=bt k->CK P w K mg base sx c k):∀d,rL P w K mg base yq dv fuel d/\GN P w K mg base G6 sx dv fuel d
 | 0=>by
  show#[λf n h=>?_,λf f' n h=>?_]
  ·obtain⟨p,h1,rfl,h2,h3⟩:=km TA f n h;obtain⟨fa,fd,F,m,kp,b⟩:=D p h1;show#[fa,fd,p.2.2.1.ps,#[λvs H Q E z=>?_,λA outer s H args us vs Q E hr he hbd hv z=>?_],m,kp,b]
   all_goals
    obtain⟨_,_,_,_,_,_,_,_,z,_⟩:=z;cases z
  ·obtain⟨p,h1,rfl,rfl,h2⟩:=mJ TX f f' n h;obtain⟨_,_,_,q,hq,e1,e2,e3⟩:=BS p h1;obtain⟨fa,fd,F,m,kp,b⟩:=D q hq;rw[e1]at m;show#[fa,fd,q.2.2.1.ps,#[λvs H Q E z=>?_,λA outer s H args us vs Q E hr he hbd hv z=>?_],m,kp,b]
   all_goals
    rcases z with⟨_,_,_,_,_,_,_,_,z,_⟩|⟨_,_,_,_,_,_,_,_,_,_,_,z,_⟩
    ·cases z
    ·cases z
 | d+1=>by
  obtain⟨ih,ix⟩:=yh hb D Zx ck d;show#[λf n h=>?_,λf f' n h=>?_]
  ·obtain⟨p,h1,rfl,h2,h3⟩:=km TA f n h;rcases KU.mp h1 with q|q
   ·obtain⟨g1,g2,_⟩:=BP p q;obtain⟨fa,fd,F,m,kp,b⟩:=D p h1;show#[fa,fd,p.2.2.1.ps,?_,m,kp,b];rw[<- h2];exact Bv F g2 (mK h3) g1 hb ih
   ·rcases KU.mp q with q|q
    ·obtain⟨g1,g2,_⟩:=BQ p q;obtain⟨fa,fd,F,m,kp,b⟩:=D p h1;show#[fa,fd,p.2.2.1.ps,?_,m,kp,b];rw[<- h2];exact D5 F g2 (mK h3) g1 hb ih ix Zx
    ·obtain⟨⟨f',g1,g2⟩,_⟩:=BR p q;obtain⟨fa,fd,ps,F,m,kp,b⟩:=ix p.1 f' _ g1;rw[h2]at F g2;exact#[fa,fd,ps,DP F (mK h3) h2 g2 (Mk _),m,kp,b]
  ·obtain⟨p,h1,rfl,rfl,h2⟩:=mJ TX f f' n h;obtain⟨g1,g2,g3,q,hq,e1,e2,e3⟩:=BS p h1;obtain⟨fa,fd,F,m,kp,b⟩:=D q hq;rw[e1]at m;rw[e2]at F;rw[e3]at b;show#[fa,fd,p.2.2.2.ps,?_,m,kp,b];rw[<- h2];exact DO F g2 g3 g1 hb ih ck
abbrev CE (K:J2)(p:J3×W):Prop:=∃v u,LF K mainGlobals p.1=bt (bt u)/\RelV v u/\∀A H,Rel K A H p.2 v
def yi {x:J3}{w:W}:∀ {l:JS (J3×W)},l.lookup x=bt w->(x,w)∈l
 | [],h=>nomatch h
 | (y,v)::l,h=>by
  rw[KD]at h;split at h
  ·rename_i e;cases h;have:=eq_of_beq e;subst this;exact Kq
  ·exact Ko _ (yi h)
def iX {u:JU}{z:J3}(h:L2.sD u=bt (V.str z)):RelV (.str z) u:=by
 cases u with
 | str x t=>cases h; exact#[_,rfl]
 | _=>cases h
def oQ:∀ {us:JS JU} {zs:JS J3},us.map L2.sD=zs.map (λz=>bt (V.str z))->Vals (zs.map V.str) us
 | [],[],_=>.nil
 | [],_::_,h=>by cases h
 | _::_,[],h=>by cases h
 | u::us,z::zs,h=>by
  rw[K6,K6]at h;injection h with h1 h2
  exact .cons (iX h1) (oQ h2)
def yj {A:JS td}{H:Hp}:∀zs:JS J3,RelL K A H (zs.map W.str) (zs.map V.str)
 | []=>.nil
 | _::zs=>.cons .str (yj zs)
def yk {x:J3}{zs:JS J3}{a:td}{its:KP JU}{n:J4}(e:LF K mainGlobals x=bt (bt (.ref a)))(l:K.lookup a=bt #[.type "tuple",gV,.seq its n,#[]])(hz:its.size<=1000)(hv:its.toList.map L2.sD=zs.map (λz=>bt (V.str z))):CE K (x,.tup (zs.map W.str)):=
 #[.ref a,.ref a,e,rfl,λA H=>.tup (.inr #[_,its,n,l,rfl,rfl,rfl,Kx hz (cz rfl),oQ hv]) (yj zs)]
def G9 {x:J3}{z:J3}{t:J4}(e:LF K mainGlobals x=bt (bt (.str z t))):CE K (x,.str z):=#[.str z,_,e,#[_,rfl],λ_ _=>.str]
def ym {x:J3}{z:Kk}{t:J4}(e:LF K mainGlobals x=bt (bt (.int z t))):CE K (x,.int z):=#[.int z,_,e,#[_,rfl],λ_ _=>.int]
abbrev Ha (w:Kr)(e:Lm)(p:J3×J3):Prop:=e.hash=hashStr w p.1/\L2.sD e.key=bt (V.str p.1)/\L2.sD e.val=bt (V.str p.2)
inductive EntsOk (w:Kr):JS Lm->JS (J3×J3)->Prop
 | nil:EntsOk w [] []
 | cons {e:Lm} {p:J3×J3} {es:JS Lm} {ps:JS (J3×J3)}:Ha w e p->EntsOk w es ps->EntsOk w (e::es) (p::ps)
def EntsOk.key {w:Kr}:∀ {es:JS Lm} {ps:JS (J3×J3)},EntsOk w es ps->∀e∈es,∃k t,e.key=.str k t/\e.hash=hashStr w k
 | _,_,.nil,e,he=>nomatch he
 | _,_,.cons h t,e,he=>by
  rcases J5.mp he with rfl|he
  ·obtain⟨tk,ek⟩:=iX h.2.1;exact#[_,tk,ek,h.1]
  ·exact t.key e he
def EntsOk.find {w:Kr}{k:J3}:∀ {es:JS Lm} {ps:JS (J3×J3)},EntsOk w es ps->(∀v,(ps.map λp=>(p.1,W.str p.2)).lookup k=bt v->∃e y t,es.find? (λe=>Mf k e.key)=bt e/\e.val=.str y t/\v=.str y)/\(es.find? (λe=>Mf k e.key)).isSome=((ps.map λp=>(p.1,W.str p.2)).lookup k).isSome
 | _,_,.nil=>#[λv h=>(nomatch h),rfl]
 | e::es,p::ps,.cons h t=>by
  obtain⟨tk,ek⟩:=iX h.2.1;obtain⟨tv,ev⟩:=iX h.2.2;rw[K6,KD,LC,ek]
  by_cases hk:k=p.1
  ·subst hk;rw[KS,show Mf p.1 (.str p.1 tk)=true from KS _]
   exact#[λv hl=>(by cases hl; exact#[e,_,tv,rfl,ev,rfl]),rfl]
  ·rw[show(k==p.1)=false from L8 hk,show Mf k (.str p.1 tk)=false from L8 (Ne.symm hk)]
   exact t.find
abbrev Jc (w:Kr)(K:J2)(p:J3×JS (J3×W)):Prop:=∃(a:td) (es:KP Lm) (ep:J4) (ps:JS (J3×J3)),LF K mainGlobals p.1=bt (bt (.ref a))/\K.lookup a=bt #[.type "dict",gV,.dict es ep,#[]]/\EntsOk w es.toList ps/\p.2=ps.map (λp=>(p.1,W.str p.2))/\(a==sysModules)=false
def Hb {h:KB}{x:J3}{U:JS (J3×W)}(X:K.In h)(G:h.Ns mainGlobals mg)(g:Jc w K (x,U))(Yj:Cx)(hw:Yj.w=w)(hK:Yj.K=K)(hm:Yj.mg=mg):pV Yj x U:=by
 subst hw hK hm;obtain⟨a,es,ep,ps,e,l,hv,e2,hs⟩:=g;have e2:U=ps.map (λp=>(p.1,W.str p.2)):=e2
 subst e2;show#[a,_,es,ep,Ng X G e,l,#[rfl,rfl,rfl],rfl,λe he=>hv.key e (by simpa using he),λk v hk=>?_,hs,λk=>?_]
 ·obtain⟨e,y,t,h1,h2,rfl⟩:=(hv.find (k:=k)).1 v hk;show#[.str y,.str y t,?_,#[t,rfl],λA H=>.str]
  unfold findBy;rw[<- Oi,h1];exact congrArg bt h2
 ·unfold findBy;rw[Option.isSome_map,<- Oi];exact(hv.find (k:=k)).2
def Hc {h:KB}(X:K.In h)(G:h.Ns mainGlobals mg)(z:∀y∈AT,LF K mainGlobals y=bt gV)(c:∀p∈AU,CE K p)(g:∀p∈AV,Jc w K p):MdOk w K mg yq:=#[λy hy=>PySem.W.mg_none_of X G (z y hy),λYj h1 h2 h3 x v h=>by
 subst h2 h3;obtain⟨v',u,e,r,q⟩:=c _ (yi h);exact#[v',u,Ng X G e,r,q],λYj h1 h2 h3 x v h=>Hb X G (g _ (eJ h)) Yj h1 h2 h3]
end
def Ey {l:O3}{w:Kr}{K:J2}{h:KB}{mg:J3->JX JU}{fa f:td}(X:K.In h)(G:h.Ns mainGlobals mg)(hfa:mg "law" = bt (.ref fa))(hb:MdOk w K mg yq)(D:∀p∈TA,yg K mg p.1 (top p.2.1) p.2.2.1)(Zx:∀base:KB,K.In base->XCls K mg base yf sx)(ck:∀(base:KB) c k,RT.lookup c=bt k->CK l.prog w K mg base sx c k)
  {oc:JU} {od an:JX td} {osl:KP (JX JU)} {kV doc pm cdv ct:JU} (a:LF K mainGlobals "law" = bt (bt (.ref f))) (l':K.lookup f=bt #[oc,od,.func (LX "law" "law" (bX (top 43)) (aE (top 43)) (am (top 43)) .none kV doc pm an cdv ct),osl]) (c:M1 K cdv "law" = true) (k:Lc K (.ref f)=true) :
  ∃fd:Lb,(∀(s:JV) (v:JU),Qb s fd #[[v],[]] [("_law_script",v)])/\∀base:KB,K.In base->base.Ns mainGlobals mg->FnOk l.prog w K mg base ji 10 fa fd ["_law_script"] (spF w K 1 (ag dv 100 8 "law")):=by
 have e:=hfa.symm.trans (Ng X G a);cases e;have F:=pe (st:=top 43) l' c k;exact#[LX "law" "law" (bX (top 43)) (aE (top 43)) (am (top 43)) .none kV doc pm an cdv ct,λs v=>.of_eq rfl,λbase kb _=>Bv (df:=BO) F #[rfl,rfl,rfl,by decide +kernel,rfl,by decide +kernel,by decide +kernel] (by rfl) (by rfl) hb (yh hb D (Zx base kb) (ck base) 7).1]
def Jd {l:O3}{q:Ke}{loose:JS J3}{XP:(J3->JX JU)->KB->Prop}{YP:Kr->KB->Prop}{d:DefRec}{K:NW->J2}(hn:l.most=bt 63)(hdf:d.params.defaults=[])
  (hY:∀(w:Kr) (h:KB),YP w h->(K w.params).In h)
  (F:∀(w:Kr) (mg:J3->JX JU) (fa:td) (h:KB),(K w.params).In h->h.Ns mainGlobals mg->mg d.name=bt (.ref fa)->
   ∃fd:Lb,(∀(s:JV) (u:JU),Qb s fd #[[u],[]] [("_law_script",u)])/\∀base:KB,(K w.params).In base->base.Ns mainGlobals mg->FnOk l.prog w (K w.params) mg base ji 10 fa fd ["_law_script"] (spF w (K w.params) 1 (ag dv 100 8 "law"))) :
  RS q loose XP YP l.row.toRowW d [] (λf vs=>Rv f vs):=
 L2.yT (n:=63) (k:=10) (x:="_law_script") (CX:=λ_=>ji) (sp:=λw=>spF w (K w.params) 1 (ag dv 100 8 "law")) hn #v[] hdf #[rfl,#v[],#v[]] hY F
  (λw H a ns hl hO hS=>Dq (ye (defs:=dv) (fuel:=100) (d:=0) #v[] (cl:=sx) (C:=101) rfl G8) hO hS) λ_ _ _ _ _ z=>z
end Mi
open PySem PySem.W PyProof.Rows L2
namespace Mi
section
abbrev EL (K:J2)(p:Tw):Prop:=LF K mainGlobals p.1=bt (bt (.ref p.2.2.2))/\K.lookup p.2.2.2=bt (kf p.2.2.2 (top p.2.1) p.1 (Il p.2.1) (.ref (p.2.2.2 - 1))).2/\M1 K (.ref (p.2.2.2 - 1)) p.1=true/\Lc K (.ref p.2.2.2)=true
def JK {K:J2}{p:Tw}(e:LF K mainGlobals p.1=bt (bt (.ref p.2.2.2)))(l:K.lookup p.2.2.2=bt (kf p.2.2.2 (top p.2.1) p.1 (Il p.2.1) (.ref (p.2.2.2 - 1))).2)(c:M1 K (.ref (p.2.2.2 - 1)) p.1=true)(k:Lc K (.ref p.2.2.2)=true):EL K p:=#[e,l,c,k]
def Hd (P:NW):∀p∈TA,EL (K0 P) p:=by
 unfold TA TL TT TW;dsimp only[List.cons_append,O1]
 repeat show gc (JK (by kernel_rfl) (by kernel_rfl) (by kernel_rfl) (by kernel_rfl)) ?_
 exact gn
def He (P:NW):∀y∈AT,LF (K0 P) mainGlobals y=bt gV:=by
 unfold AT
 repeat show gc (F:=λy=>LF (K0 P) mainGlobals y=bt gV) (by kernel_rfl) ?_
 exact gn
def Hf (P:NW):∀p∈AU,CE (K0 P) p:=by
 unfold AU;show gc (G9 (t:=341) (by kernel_rfl)) ?_
 show gc (ym (t:=343) (by kernel_rfl)) ?_
 show gc (yk (a:=130) (its:=Ba.toArray) (n:=0) (by kernel_rfl) (by kernel_rfl) (Kf rfl) rfl) ?_
 show gc (ym (t:=363) (by kernel_rfl)) ?_
 show gc (ym (t:=365) (by kernel_rfl)) ?_
 show gc (yk (a:=136) (its:=Bb.toArray) (n:=0) (by kernel_rfl) (by kernel_rfl) (Kf rfl) rfl) ?_
 show gc (yk (a:=137) (its:=Bc.toArray) (n:=0) (by kernel_rfl) (by kernel_rfl) (Kf rfl) rfl) ?_
 exact gn
def Hg (w:Kr):∀p∈AV,Jc w (K0 w.params) p:=by
 unfold AV;show gc #[138,(Bd w.params).toArray,8,cC,by kernel_rfl,by kernel_rfl,.cons #[rfl,rfl,rfl] (.cons #[rfl,rfl,rfl] (.cons #[rfl,rfl,rfl] (.cons #[rfl,rfl,rfl] (.cons #[rfl,rfl,rfl] (.cons #[rfl,rfl,rfl] (.cons #[rfl,rfl,rfl] (.cons #[rfl,rfl,rfl] (.nil)))))))),rfl,rfl] ?_
 exact gn
def JL:∀p∈TA,BD p.1 (top p.2.1) p.2.2.1:=λp hp=>(KU.mp hp).elim (λq=>(BP p q).2.2) λq=>(KU.mp q).elim (λq=>(BQ p q).2.2) λq=>(BR p q).2
def JM (P:NW):Xc.XL (K0 P) 24 (.type "type"):=#[by kernel_rfl,by kernel_rfl,by kernel_rfl]
def cH (P:NW):XE (K0 P) 101 100 98 "NoSentence" [(.ref 24)] [(.ref 24),(.type "ValueError"),(.type "Exception"),(.type "BaseException"),(.type "object")] [] 85 282 290 ["row"]:=
 #[by kernel_rfl,by kernel_rfl,by kernel_rfl,by kernel_rfl,by kernel_rfl,by kernel_rfl,by kernel_rfl,by kernel_rfl,by kernel_rfl,by kernel_rfl,by kernel_rfl,by kernel_rfl,by kernel_rfl,by kernel_rfl,by kernel_rfl]
abbrev Jr (K:J2)(q:J3×td):Prop:=LF K mainGlobals q.1=bt (bt (.ref q.2))/\DK K q.2/\∀p∈RL,PK K (.ref p.2.1) (.ref q.2)=bt (eI p.1 q.1)/\(!(Kl p.2.1==Kl q.2)||eI p.1 q.1)=true
def JN {K:J2}{q:J3×td}(a:LF K mainGlobals q.1=bt (bt (.ref q.2)))(b:DK K q.2)(c:∀p∈RL,PK K (.ref p.2.1) (.ref q.2)=bt (eI p.1 q.1)/\(!(Kl p.2.1==Kl q.2)||eI p.1 q.1)=true):Jr K q:=#[a,b,c]
def JO (P:NW):∀q∈IY,Jr (K0 P) q:=by
 unfold IY
 repeat show gc (JN (by kernel_rfl) #[by kernel_rfl,by kernel_rfl,by kernel_rfl,by kernel_rfl] (gc #[by kernel_rfl,by kernel_rfl] gn)) ?_
 exact gn
def JP {w:Kr}{mg:J3->JX JU}{h:KB}(KX:(K0 w.params).In h)(G:h.Ns mainGlobals mg)(base:KB)(kb:(K0 w.params).In base):XCls (K0 w.params) mg base yf sx:=by
 have a:∀p∈RL,(∃cd,Xc.XK (K0 w.params) p.2.1 cd)/\base.get? p.2.1≠gV/\Xc.XT (K0 w.params) p.2.1 (.type "ValueError") true/\∀g∈p.2.2,M7 (K0 w.params) (.ref p.2.1) g=bt gV:=(gc ((cH w.params).all kb) gn);show#[λcn C gs hc=>a _ (eJ hc),λD hD=>?_]
 obtain⟨q,hq,rfl⟩:=MQ.mp hD;obtain⟨e,dk,x⟩:=JO w.params q hq;exact#[q.2,Ng KX G e,dk.xd,λcn C gs hc=>let ⟨x1,x2⟩:=x _ (eJ hc); dk.xt x1 x2]
def kn {P:Ke}{w:Kr}{mg:J3->JX JU}{h:KB}(KX:(K0 w.params).In h)(G:h.Ns mainGlobals mg)(base:KB):CK P w (K0 w.params) mg base sx "NoSentence" 1:=by
 have F:=(pe (st:=Im 5) (oc:=.type "function") (od:=gV) (an:=gV) (osl:=#[]) (kV:=.none) (doc:=.none) (pm:=(.str "layworld.errors" 187)) (cdv:=(.ref 97)) (ct:=.none) (by kernel_rfl) (by kernel_rfl) (by kernel_rfl):Fun (K0 w.params) "__init__" "NoSentence.__init__" (Im 5) 98 _)
 have hm:mg "LayError" = bt (.ref 24):=Ng KX G (by kernel_rfl)
 obtain⟨cd,m⟩:=(cH w.params).xm;exact .one m ((cH w.params).fd _ Kq) (D6 (k:=0) F #[rfl,rfl,rfl,by decide +kernel,rfl,by decide +kernel,by decide +kernel] #[_,_,_,_,_,_,_,_,_,_,rfl,rfl] rfl rfl rfl hm (JM _) #v[] #v[] #v[] #v[] #v[]) (Ng KX G (by kernel_rfl)) (F.binds λ_ _ _ _ _ _ us h=>by obtain⟨a,b,rfl⟩:=G7 h; rfl) rfl
def JQ {P:Ke}{w:Kr}{mg:J3->JX JU}{h:KB}(KX:(K0 w.params).In h)(G:h.Ns mainGlobals mg)(base:KB):∀c k,RT.lookup c=bt k->CK P w (K0 w.params) mg base sx c k:=λc k h=>
 have a:∀p∈RT,CK P w (K0 w.params) mg base sx p.1 p.2:=(gc (kn KX G base) gn)
 a _ (eJ h)
end
end Mi
end
end ZZ.Lean
open ZZ.Lean
theorem PySem.Challenge.cw_layworld_k52_things_that_are_no_sentence_holds : PySem.Challenge.rw_layworld_k52_things_that_are_no_sentence.Holds := by
 w_on
 show PySem.W.holds_law (KL (KL (KL (KL (KL (KL (KL (KL (KL (KL (KL (KL (KL (KL (KL (KL (KL (KL (Mi.s0) (by kernel_rfl)) (by kernel_rfl)) (by kernel_rfl)) (by kernel_rfl)) (by kernel_rfl)) (by kernel_rfl)) (by kernel_rfl)) (by kernel_rfl)) (by kernel_rfl)) (by kernel_rfl)) (by kernel_rfl)) (by kernel_rfl)) (by kernel_rfl)) (by kernel_rfl)) (by kernel_rfl)) (by kernel_rfl)) (by kernel_rfl)) (by kernel_rfl)) (λsaid=>?_)
 show PySem.W.holds_open (q:=Mi.vq) (loose:=Mi.lo) (Xt:=λs=>Se Mi.vq [] s&&RV [] s) (XP:=PySem.W.XL Mi.vq []) (Yf:=Mi.hk.obs) (Ya:=Mi.hk.val) (YP:=Mi.hk.says) (N:=4904) Mi.hl Mi.hk.of Mi.hk.keeps (λs e=>PySem.W.xl_of s (Pn.mp e).1) Tp (by rfl) (by rfl) (by rfl) (λs e=>PySem.W.recFacts_of (Pn.mp e).2) (by rfl) said (by decide +kernel) #[rfl,rfl,rfl,rfl,rfl,by decide +kernel] ?hw ?hc
 case hw=>w_witness2
 case hc=>
 show Mi.Jd (l:=NT) (K:=Mi.K0) rfl rfl (λw h Yj=>PySem.W.kIn_of Yj) ?F
 case F=>
  intro w mg fa h KX G hmg;exact Mi.Ey KX G hmg (Mi.Hc KX G (Mi.He w.params) (Mi.Hf w.params) (Mi.Hg w)) (λp hp=>let ⟨e,l,c,k⟩:=Mi.Hd w.params p hp; Mi.Ev KX G (Mi.JL p hp) e l c k) (Mi.JP KX G) (Mi.JQ KX G)
   (f:=279) (oc:=.type "function") (od:=gV) (an:=gV) (osl:=#[]) (kV:=.none) (doc:=.none) (pm:=(.str "law_layworld_k52_things_that_are_no_sentence" 444)) (cdv:=.ref 278) (ct:=.none) (by kernel_rfl) (by kernel_rfl) (by kernel_rfl) (by kernel_rfl)
