import PyProof.Rows.All
import Wide.All
import OpenK.AllK
import Wide.FinOn
import Lean
import PyProof.EqAt
import PyProof.EqKinds
import PyProof.TupleCall
import PyProof.ExcClass
import PySem.Challenge.RW_layworld_k51_sentences_looked_at
import PyProof.StationsW
import PyProof.ExcClass3
import PyProof.ExcBaseAll.ValueError
import PyProof.ExcArgsOwn
import PyProof.ExcAttrAll.ValueError
import OpenK.KOwn
import KE.KIsNot
import PyProof.IsiTuple
import PyProof.RulesDel
import KE.KDictList
import PyProof.SetKind
import PyProof.IsRules
import KE.KSortTup
import PyProof.CallStr
import PyProof.Cells
import PyProof.ZipIter
import PyProof.Draws
import PyProof.EnumMake
import PyProof.WalksEnum
noncomputable section
open Option renaming some->bt,none->gV
set_option hygiene false
local macro_rules|`(abbrev $i:declId $s:optDeclSig $v:declVal)=>`(noncomputable def $i:declId $s:optDeclSig $v:declVal)|`(def $i:declId $b* :$t $v:declVal)=>`(theorem $i:declId $b* :$t $v:declVal)|`(tactic|omega)=>`(tactic|first|lia|omega (config:={}))|`(tactic|show $e:term)=>`(tactic|refine $e:term)|`(tactic|left)=>`(tactic|dsimp only[wS,wE,wA,wV,wG,List.set])|`(tactic|nofun)=>`(tactic|refine bh λK hK=>?_)
local macro_rules|`(#v[])=>`((by decide))|`(#v[$x:term])=>`(.cons $x .nil)|`(#v[$x:term,$y:term,*])=>`(.cons $x #v[$y,*])
local macro_rules|`(#[$x:term])=>`(⟨$x⟩)|`(#[$x:term,$y:term,*])=>`(⟨$x,$y,*⟩)
local macro_rules|`(∅)=>`((by omega))
open _root_ renaming List->Kg,Option->Kk,Nat->Kt,Int->KD,decide_eq_true_eq->KN,if_pos->KQ,Bool->KR,if_neg->KY,beq_self_eq_true->Li,False->Lj,decide_eq_false->Lo,decide_eq_true->Lp,of_decide_eq_true->Lq,Array->Ls,String->LR,or_false->L8,beq_eq_false_iff_ne->Mp,beq_false_of_ne->Mu,beq_iff_eq->Mx,of_decide_eq_false->MV,if_true->Nf,DecidableEq->Ny,if_false->NZ,not_or->QU,Unit->Ra,True->Rs
open PySem renaming wpAny_bind->Kh,Value->Ki,Shared->Km,Addr->Kn,wpAny_pure->Kq,Str->Ks,Expr->KC,Program->KF,World->KS,Around->K1,Heap->K7,wpAny_mono->Lf,wpAny_newObj_type->Lg,Spec->Lr,wpAny_field->Lu,FuncData->Lv,wpAny_callSpecial?_slot->Lx,wpAny_holding->Ly,sizeLine_eq->LF,Obj->LJ,wpAny_call_entry->LL,Stmt->LO,wpAny_truthy_bool->LV,NameKind->LW,Pos->L9,ClassData->Mb,strKind->Mm,codeAny_builtin->Mt,wpAny_Call_Name_kw->My,DictEntry->MG,wpAny_setState_of->MH,codeAny_mono->MO,wpAny_setField_rec->MU,wpAny_passesOwn->MY,wpAny_ite_split->MZ,Scope->M1,Builtin->M4,codeAny_call_builtin->M5,wpAny_standAt->M8,wpAny_attempt->Nb,mem_of_lookup->Nd,wpAny_askSetting->Nj,wpAny_seqItems->Nk,wpAny_rule->Nn,wpAny_loadPart_at->Nw,wpAny_call->NC,SetTable->ND,plainId_quiet->NK,wpAny_typeOf->N1,wpAny_setField->N5,wpAny_pyIter_list->N8,PassesOwn->Ob,Params->Od,wpAny_isInstance->Oe,IsPair->Of,wpAny_execs_nil->Oh,IsPart->Oi,codeAny_of_tree->Oj,wpAny_setEntries_of->Oo,Env->Ov,GenState->Ow,Model->ON,wpAny_comprehension_free->OQ,noFill_tuple_add->OR,Paired->OY,call_meets->O0,CmpOp->Pa,pushCells_keeps->Pg,wpAny_isTrue_Compare1->Pi,builtinLookup_eq_fast->Pk,Result->Pl,wpAny_loadPart->Pm,wpAny_of_eq->Po,wpAny_runValue->Pp,isSubtype_stop->Pq,wpAny_newTuple->Pr,wpAny_updateSeq_pair->Pu,wpAny_isSubtype_exc->PK,rangeSize_one->PR,seq_tuple_add->PU,wpAny_onRaise->PZ,IsZip->P0,sub_set_self->Qb,wpAny_pyIter_tuple->Qc,wpAny_pyIter_ascii->Qd,wpAny_assign_Name->Qi,Operator->Qk,BindsTo->Qn,Keyword->Qo,concat_meets->Qq,wpAny_sequenceKey->Qr,seqIndex_neg->Qs,list_append->Qt,ExcBaseFacts->Qy,fits_of_scanBound->QA,wpAny_pyIter_slot->QE,wpAny_setEpoch_of->QF,wpAny_pyIter_enum->QG,wpAny_pyHash_str->QK,wpAny_execs_cons->QL,wpAny_lookBehind->QR,pastItsLine_dict->QS,isinstance_outer->QT,wpAny_getItem_of->QV,wpAny_pyIter_zip->QY,seqIndex_of->Q6,wpAny_letGo->Q8,wpAny_loadPart'->Rb,wpAny_specialOf->Rf,call_isinstance->Rg,typeLookup_type->Rj,wpAny_updateSeq->Rk,ItemsOf->Rr,wpAny_Name->Rt,wpAny_Compare1->Ru,wpAny_bindName->Rv,wpAny_load->Rx,typeIs_str->RB,typeIs_int->RD,call->RG,arm_exec_Raise->RH,isSubtype_type->RM,entryFor_alias->RN,wpAny_fieldsOf->RO,BoolOp->RS,callType_newIn->RV,Sem->R1,intBits_le_64->R3,evalPart_none->R5,call_list_seq->R8,wpAny_handled->Sd,small_one->Sj,Tok->Sl,call_range_1->Sq,wpAny_nsSet1->Sv,wpAny_mkText->Sw,Drawn->SD,IsRangeIter->SE,wpAny_point->SL,wpAny_alloc->SN,wpAny_throw->SO,Walks->SQ,IsEnum->Tk,OwnTail->Tn,IsRange->Tq,Flow->Tv
open Bool renaming and_eq_true->Kj,false_ne_true->KL,true_and->LU,or_eq_true->Ms,false_eq_true->Mz,eq_false_iff->M6,false_and->NA,and_true->NM,and_false->N4,false_or->OO,or_true->O1,and_eq_true_iff->Py,or_false->PV,not_true->PY,not_eq_true'->QH,eq_iff_iff->Rp,true_or->Sr
open PySem.Heap renaming get?_push_of_some->Kl,lt_size->Ky,get?_push_size->KA,get?_update_other->Le,size_push->LC,get?_update_self->LG,SameBut->M2,get?_update_ne->PL,get?_push_at->Qz,ExtBut->Q7
open Option renaming map_eq_some_iff->Ko,isSome_iff_exists->LD,map_some->L5,bind_some->MR,map_eq_none_iff->No,getD_none->OS,getD_some->OT,isSome_some->P9,map_none->Rh,map_map->RP,toList->Sg
open PySem.W renaming Frag->Kr,look_both->Ld,keepIn->Lw,nsIn->L7,fnOf->Mo,kia_one->M0,codeIn->Ng,findIn->Nl,mg_of->Nt,callWith_K->OA,methodObj->OM,cellsFrom_some->OZ,OpenLaw->Pd,callWith_K0->PF,recOk->PX,subIn->P1,xlAt->Qx,lookIn->Ry,WalkO->R9
open Nat renaming le_of_ble_eq_true->Ku,le_refl->Kz,ne_of_lt->KH,lt_of_lt_of_le->KI,le_trans->KJ,ne_of_gt->K9,lt_succ_self->Ln,lt_irrefl->LP,lt_succ_of_lt->LQ,le_succ->MF,le_of_lt->MN,zero_le->MP,le_add_right->NF,not_lt->O2,not_lt_zero->Ph,lt_of_le_of_lt->Qa,eq_zero_or_pos->Qg,lt_trans->Qv,le_of_not_lt->QQ,min_eq_right->QZ,succ_le_succ->Q5,min_eq_left->Ro,sub_self->Sy,mod_lt->Tj,ble->TV
open List renaming length_map->Kv,length_append->Kw,mem_cons->Kx,getElem?_eq_some_iff->KB,size_toArray->KG,mem_cons_of_mem->KM,set->KO,mem_cons_self->KP,getElem?_eq_getElem->KT,mem_singleton->KU,mem_append_right->KW,getElem?_map->K4,lookup_cons->K5,not_mem_nil->K6,all_cons->La,mem_append->Lb,mem_of_getElem?->Lc,length_cons->Lh,getElem?_append_left->Lk,getElem?_eq_none_iff->Ll,replicate->Lm,map_cons->Lz,map_append->LB,append_nil->LK,all_eq_true->LN,length_take->LS,mem_append_left->LZ,getD_eq_getElem?_getD->L4,take_of_length_le->L6,length_range->Ma,range->Mh,any_cons->Ml,replicate_succ->Mq,mem_map->MD,length_eq_zero_iff->MJ,mem_filter->MK,getElem?_append_right->MS,flatten_cons->M3,getElem?_set->M7,filterMap_cons->Nc,getElem?_set_self->Nm,drop_of_length_le->Np,getElem?_eq_none->Nu,length_filter_le->Nv,getElem?_set_ne->Nz,lookup->NB,length_drop->NE,rel_of_pairwise_cons->NH,nodup_cons->NN,of_mem_zip->NO,find?_cons->NP,findIdx?_eq_some_iff_getElem->NW,mem_range->NX,append_assoc->N3,nodup_append->N6,mem_of_mem_take->Og,contains_cons->OE,forIn_nil->OG,length_eraseIdx_of_lt->OH,pairwise_cons->OI,filter_append->OJ,getElem_mem->OU,range_succ_eq_map->O3,all_map->O4,map_map->O5,foldl_cons->Pb,nil_append->Pc,length_nil->Pe,forIn_cons->Pf,take_succ->Pn,not_lt->Ps,mem_iff_getElem->Pv,getElem?_append->Pw,mem_of_mem_drop->Px,length_zipWith->PN,eraseDups_cons->PP,mem_filterMap->P6,filterMap_map->P7,zip_cons_cons->Qf,take_sublist->Qp,map_nil->Qw,take_add_one->QJ,any_eq_true->QX,filter_cons->Q4,length_set->Re,foldr_cons->Rl,find?_some->Rm,foldl->RE,nodup_nil->RW
open PySem.Value renaming ref->KZ,none->LA,bool->Mg,type->Mn,isStrOf->MB,builtin->MC,str->MQ,int->Nq,isInt->Sz
open Array renaming length_toList->K3,getElem?_toList->LH,getElem?_eq_some_iff->LM,getElem?_setIfInBounds_ne->Oa,find?_toList->Oz,getElem?_eq_getElem->OK,toArray_toList->Pt,append_assoc->P4,toList_push->QC,all_toList->Q1,getD->RQ,toList->So
open Option.some renaming injEq->K8,inj->Mr
open Int renaming toNat_natCast->LX,natCast_nonneg->MA,toNat_of_nonneg->NI,emod_lt_of_pos->NS,eq_ofNat_of_zero_le->NV,emod_nonneg->Om,zero_add->QI,le_refl->Q9,ediv_nonneg->Rn
open PySem.Str renaming ofString->LY,length->Tc,join->TN
open PySem.Around renaming under_plainId->L3,under->Ql
open PySem.Builtin.Tuple renaming tupleExact->Mc,tupleItemsOf->OC,tupleIsExact->RI,tupleHashOf->RY
open PySem.Builtin.SmallTypes renaming ownedTupleIsFree->Mf,ownedTupleHandOut->MM,nextOf->OL
open PySem.Builtin.Range renaming rangeSize->Mj,small->Op
open PyProof.Rows renaming callWith_type1->Mk,slot_tuple_getitem->Mw,subscriptTail_builtinR->N2,AllBare->Oq,assignInOrder_cons->Oy,StrsAre->PB,entry_tuple_getitem->PH,args_tuple_getitem->P8,assignInOrder_nil->Qj,callWith_builtin1->QN,IntsAre->Rq,slicePart_none->Rz,Subscript_->RA,tupleItemsOf_->R4,IsTup->Si,Call_->TJ
open ForInStep renaming yield->ML
open PySem.Builtin.Slice renaming slicePlaces->MW,sliceAdjust->NG,sliceApplied->OB,slicePartIndex->Rc,sliceFields->RX
open PySem.Builtin.List renaming listTooLong->M9,listExtendWith->Nx,listLengthHint->Os,listSameRef->OP,listFitsIndex->RF
open PySem.Obj renaming mapFields->Na,mapSeq->NQ,data_mapFields->NR,isFreed_of_fields->Pj
open PySem.SetTable renaming below->Nh,grown->Ni,fits->Se,fits_plain_off->Sk,orStandIn->Th,relaid->TH,laid->TR
open PySem.NameKind renaming cell->Nr,free->NL
open PySem.F renaming args_tuple_add_2->NJ,entry_tuple_add->NU,slot_tuple_add->NY,plainAttrs_str->N9,excBase_ValueError->OF,plainAttrs_list->OW,slot_str_upper->O7,type_str_upper->O8
open PySem.Builtin.Str renaming occurrences->NT,tooLong->PM,tooLong->RZ,glued->Tt
open PySem.StrLaws renaming sliceText->N7
open True renaming intro->Oc
open PySem.PassesOwn renaming never->Ol,leaving->Ts
open PySem.Heap.SameBut renaming update->On,refl->Tp
open PySem.Challenge renaming pw_layworld_k51_sentences_looked_at->Ot,rw_layworld_k51_sentences_looked_at->Ou
open PySem.Calls renaming Name_function_global->Ox,callWith_builtin->O6,Constant_str->P5
open PySem.Code renaming quiet_builtin->OD,isFrame->Qm,frames->SG
open PySem.Txt renaming upper->OV,join->SM,mul->TU
open Sum renaming inr->OX,inl->Pz
open PySem.Env renaming kindOf->O9
open PySem.Expr renaming Name->PD
open PySem.EntryCells renaming newEntry->PJ
open PySem.Paired renaming length->PQ
open PySem.SeqAt.EqAt renaming int_str->P2,str_int->P3,none_bool->SH,bool_none->SI,bool_bool->SJ,none_int->SR,none_str->SU,bool_int->SV,bool_str->SW,int_none->SX,int_bool->SY,str_none->SZ,str_bool->Ta,int_int->Td,str_str->Tf,same->TD
open PySem.ScopeKind renaming function->Qe
open PySem.AutoListH renaming list___mul___list_int_3->Qh
open PySem.AutoSeq1 renaming list_extend_list_list_0->Qu
open PySem.SetTable.below renaming go->QD
open PyProof.Rows.IsTup renaming new->QM
open PySem.IsL renaming update->QP
open PySem.Builtin.Frozenset renaming updateFrom->Ri,newClass->RJ,sizeOf->Sf
open PySem.SeqAt renaming EqAt->RC
open PySem.Moved renaming eq_with->Sc
open Prod.mk renaming injEq->Sh
open PySem.W.LeftO renaming of_split->Su
open Classical renaming epsilon_spec->Sx,epsilon->Tu,em->TY
open Sum.inr renaming inj->SA
open PySem.Within renaming cons->SK
open PySem.Heap.IsSliceOf renaming new->Tb
open PySem.Walks renaming list->Ti
open List.Pairwise renaming nil->Tl
open PySem.Heap.Ns1 renaming of_empty->To
open Function renaming comp_def->Tr
open PySem.Flow renaming next->Tx
open PySem.DictEntry renaming refKey->Tz
open List.Perm renaming nil_eq->TB,swap->TM
open PySem.W.XL renaming keeps->TC
open PySem.Heap.DictOf renaming new->TF
open Or renaming inr->TK
open PySem.Value.ref renaming inj->TQ
open Nat.succ renaming inj->TZ
set_option genSizeOf false
namespace ZZ.Lean
noncomputable section
set_option Elab.async false
set_option linter.all false
set_option maxRecDepth 100000
namespace L2
open PySem PySem.Spec PyProof.Rows
noncomputable abbrev ft:=Sum KD Ks
abbrev kW:ft->Ki->KR
 | .inl k,v=>Sz k v
 | .inr x,v=>MB x v
abbrev HM (w:KS):ft->KD
 | .inl k=>hashInt k
 | .inr x=>hashStr w x
def aW:∀ {k:ft} {v:Ki},kW k v=true->(∃i t,k=Pz i/\v=Nq i t)\/(∃x t,k=OX x/\v=MQ x t)
 | .inl i,v,h=>by
  obtain⟨t,e⟩:=Value.isInt_shape (k:=i) (v:=v) h;exact .inl #[i,t,rfl,e]
 | .inr x,v,h=>by
  obtain⟨t,e⟩:=Value.isStrOf_shape (x:=x) (v:=v) h;exact .inr #[x,t,rfl,e]
def sI (i:KD)(t:Sl):kW (.inl i) (.int i t)=true:=by simp[kW,Sz]
def sJ (x:Ks)(t:Sl):kW (.inr x) (.str x t)=true:=by simp[kW,MB]
def BX (a b:KD):decide ((Pz a:ft)=Pz b)=(a==b):=by
 by_cases e:a=b
 ·subst e; simp
 ·have h:¬ (Pz a:ft)=Pz b:=λq=>e (Sum.inl.inj q)
  rw[Lo h];exact(Mp.mpr e).symm
def BY (a b:Ks):decide ((OX a:ft)=OX b)=decide (a=b):=by
 by_cases e:a=b
 ·subst e; simp
 ·have h:¬ (OX a:ft)=OX b:=λq=>e (SA q)
  rw[Lo h,Lo e]
def BZ (a:KD)(b:Ks):decide ((Pz a:ft)=OX b)=false:=Lo (λq=>nomatch q)
def B0 (a:Ks)(b:KD):decide ((OX a:ft)=Pz b)=false:=Lo (λq=>nomatch q)
abbrev bO (prog:KF)(w:KS):PySem.KeyKind prog w ft where
 is:=kW
 hash:=HM w
 inj:=λv a b ha hb=>by
  rcases aW ha with⟨i,t,rfl,rfl⟩|⟨x,t,rfl,rfl⟩
  ·rcases aW hb with⟨j,u,rfl,e⟩|⟨y,u,rfl,e⟩
   ·injection e with e1 _; rw[e1]
   ·exact nomatch e
  ·rcases aW hb with⟨j,u,rfl,e⟩|⟨y,u,rfl,e⟩
   ·exact nomatch e
   ·injection e with e1 _; rw[e1]
 byValue:=λk v h=>by
  rcases aW h with⟨i,t,rfl,rfl⟩|⟨x,t,rfl,rfl⟩ <;> rfl
 pyHash:=λhv h=>by
  rcases aW hv with⟨i,t,rfl,rfl⟩|⟨x,t,rfl,rfl⟩
  ·exact wpAny_pyHash_int h
  ·exact QK h
 eqBool:=λhu hv h=>by
  rcases aW hu with⟨i,t,rfl,rfl⟩|⟨x,t,rfl,rfl⟩
  ·rcases aW hv with⟨j,u,rfl,rfl⟩|⟨y,u,rfl,rfl⟩
   ·rw[BX]at h; exact wpAny_eqBool_int h
   ·rw[BZ]at h; exact P2 i t y u _ _ _ _ h
  ·rcases aW hv with⟨j,u,rfl,rfl⟩|⟨y,u,rfl,rfl⟩
   ·rw[B0]at h; exact P3 x t j u _ _ _ _ h
   ·rw[BY]at h; exact wpAny_eqBool_str h
 «strs»:=λk x t v h=>by
  rcases aW h with⟨i,u,rfl,e⟩|⟨y,u,rfl,e⟩
  ·exact nomatch e
  ·injection e with e1 _
   subst e1;cases v <;> rfl
def nr (prog:KF)(w:KS)(i:KD)(t:Sl):(bO prog w).is (.inl i) (.int i t)=true:=sI i t
def nu (prog:KF)(w:KS)(x:Ks)(t:Sl):(bO prog w).is (.inr x) (.str x t)=true:=sJ x t
inductive V where
 | non|bl (b:KR)|int (i:KD)|str (x:Ks)|byt (b:Ls UInt8)|flt (b:UInt64)|ref (a:Kn)|ty (n:LR)
 deriving Ny
abbrev RelV:V->Ki->Prop
 | .non,u=>u=LA
 | .bl b,u=>u=Mg b
 | .int i,u=>∃t,u=Nq i t
 | .str x,u=>∃t,u=MQ x t
 | .byt b,u=>∃t,u=Value.bytes b t
 | .flt b,u=>∃t,u=Value.float b t
 | .ref a,u=>u=KZ a
 | .ty n,u=>u=Mn n
noncomputable abbrev Vals:Kg V->Kg Ki->Prop:=OY RelV
def Vals.length {xs:Kg V}{us:Kg Ki}(r:Vals xs us):xs.length=us.length:=PQ r
def Vals.get:∀ {xs:Kg V} {us:Kg Ki} {i:Kt} {x:V},Vals xs us->xs[i]?=bt x->∃u,us[i]?=bt u/\RelV x u
 | _,_,_,_,.nil,e=>by simp at e
 | _,_,0,_,.cons r _,e=>by simp at e; subst e; exact#[_,rfl,r]
 | _,_,i+1,x,.cons _ t,e=>by
  obtain⟨u,h1,h2⟩:=Vals.get (i:=i) (x:=x) t (by simpa using e)
  exact#[u,by simpa using h1,h2]
def Vals.set {x:V}{u:Ki}(r:RelV x u):∀ {xs:Kg V} {us:Kg Ki} (i:Kt),Vals xs us->Vals (xs.set i x) (us.set i u)
 | _,_,_,.nil=>.nil
 | _,_,0,.cons _ t=>.cons r t
 | _,_,i+1,.cons q t=>.cons q (Vals.set r i t)
def Vals.append:∀ {xs ys:Kg V} {us ws:Kg Ki},Vals xs us->Vals ys ws->Vals (xs++ys) (us++ws)
 | _,_,_,_,.nil,s=>s
 | _,_,_,_,.cons r t,s=>.cons r (Vals.append t s)
def Vals.take:∀ {xs:Kg V} {us:Kg Ki} (n:Kt),Vals xs us->Vals (xs.take n) (us.take n)
 | _,_,0,_=>.nil
 | _,_,_+1,.nil=>.nil
 | _,_,n+1,.cons r t=>.cons r (Vals.take n t)
def Vals.drop:∀ {xs:Kg V} {us:Kg Ki} (n:Kt),Vals xs us->Vals (xs.drop n) (us.drop n)
 | _,_,0,r=>r
 | _,_,_+1,.nil=>.nil
 | _,_,n+1,.cons _ t=>Vals.drop n t
abbrev RelO:Kk V->Kk Ki->Prop
 | some v,bt u=>RelV v u
 | none,gV=>Rs
 | _,_=>Lj
abbrev KV {κ:Type}:Kg (κ×V)->Kg (κ×Ki)->Prop:=OY λ(p:κ×V) (q:κ×Ki)=>p.1=q.1/\RelV p.2 q.2
abbrev kV:ft->V
 | .inl i=>.int i
 | .inr x=>.str x
inductive HO where
 | lst (xs:Kg V)
 | tup (xs:Kg V)
 | dK (U:Kg (ft×V))|dT (U:Kg (Kg ft×V))
 | set (S:KD->KR) (n:Kt)
 | ins (C dx:Kn) (fs:Kg (Ks×V))
 | own (x:Kn)
 | xd (fs:Kg (Ks×V))
 | met (f x:Kn)
 | rng (lo hi:KD)
 | frz (o:LJ) (u:HO)
 | tbl (ps:Ls Ki)
 | ext (φ:K7->Prop)
noncomputable abbrev Hp:=Kn->Kk HO
abbrev aE (H:Hp)(a:Kn)(o:HO):Hp:=λb=>if b=a then bt o else H b
def am {H:Hp}{a:Kn}{o:HO}:aE H a o a=bt o:=by unfold aE; rw[KQ rfl]
def al {H:Hp}{a b:Kn}{o:HO}(h:b≠a):aE H a o b=H b:=by unfold aE; rw[KY h]
def yA {H:Hp}{a:Kn}{o u:HO}:aE (aE H a o) a u=aE H a u:=by
 funext b; unfold aE; split <;> rfl
def cD {H:Hp}{a b:Kn}{o:HO}(h:H a=bt o)(h':H b=gV):a≠b:=by
 intro e; subst e; rw[h]at h'; cases h'
section
variable (P:KF) (w:KS)
abbrev NoD (h:K7)(a:Kn):Prop:=∃o,h.get? a=bt o/\o.dict=gV
def NoD.new (h:K7)(its:Ls Ki)(n:Kt):NoD (h.push { cls:=.type "tuple",data:=.seq its n }) h.objs.size:=#[_,KA _ rfl,rfl]
abbrev ObjOk (H:Hp)(h:K7)(a:Kn):HO->Prop
 | .lst xs=>xs.length<=sizeLine/\∃(its:Kg Ki) (n:Kt),Vals xs its/\h.get? a=bt { cls:=.type "list",data:=.seq its.toArray n }
 | .tup xs=>(xs.length<=sizeLine/\NoD h a)/\∃its:Kg Ki,Vals xs its/\Si h a its.toArray
 | .dK U=>U.length<=sizeLine/\(a==sysModules)=false/\∃vs,KV U vs/\h.DictOf (bO P w) a vs
 | .dT U=>U.length<=sizeLine/\(a==sysModules)=false/\∃xs:Kg (Kg ft×Kn×Ki),
   OY (λ(p:Kg ft×V) (q:Kg ft×Kn×Ki)=>p.1=q.1/\H q.2.1=bt (.tup (p.1.map kV))/\RelV p.2 q.2.2) U xs/\
   ∃o es ep,h.get? a=bt o/\o.ExactDict/\o.data=.dict es ep/\es.toList=xs.map (entryOfKey (tupleKind (bO P w)))/\(xs.map (·.1)).Nodup
 | .set S n=>h.SetOf (intKind P w) a S n
 | .ins C dx fs=>H dx=bt (.own a)/\fs.length<=1000/\dx≠a/\h.get? a=bt (PySem.W.instObj C dx)/\
   ∃mA,h.Ns1 dx mA/\(∀f,RelO (fs.lookup f) (mA f))/\PySem.Within mA (fs.map (·.1))
 | .own _=>∃o,h.get? a=bt o
 | .xd fs=>∃mA,h.Ns1 a mA/\∀f,RelO (fs.lookup f) (mA f)
 | .rng lo hi=>∃t u v,h.get? a=bt { cls:=.type "range",data:=.fields [.int lo t,.int hi u,.int 1 v].toArray }
 | .frz o u=>h.get? a=bt o/\ObjOk H h a u
 | .tbl ps=>h.get? a=bt { cls:=.none,data:=.fields ps }
 | .met f x=>h.get? a=bt (OM (.ref f) (.ref x))
 | .ext φ=>φ h/\(∃o,h.get? a=bt o)/\∀h1 h2:K7,φ h1->(∀o,h1.get? a=bt o->h2.get? a=bt o)->φ h2
abbrev HOk (H:Hp)(h:K7):Prop:=∀a o,H a=bt o->ObjOk P w H h a o
end
section
variable{P:KF}{w:KS}{H H':Hp}{h h':K7}{a:Kn}{o:HO}
def ObjOk.lt (x:ObjOk P w H h a o):a < h.objs.size:=by
 cases o with
 | lst xs=>obtain⟨_,_,_,_,e⟩:=x; exact Ky e
 | tup xs=>obtain⟨_,_,_,p⟩:=x; exact p.lt
 | dK U=>obtain⟨_,_,_,_,o,_,_,e,_⟩:=x; exact Ky e
 | dT U=>obtain⟨_,_,_,_,o,_,_,e,_⟩:=x; exact Ky e
 | set S n=>obtain⟨o,_,_,_,e,_⟩:=x; exact Ky e
 | ins C dx fs=>obtain⟨_,_,_,e,_⟩:=x; exact Ky e
 | own y=>obtain⟨_,e⟩:=x; exact Ky e
 | xd fs=>obtain⟨_,⟨_,_,_,e,_⟩,_⟩:=x; exact Ky e
 | rng lo hi=>obtain⟨_,_,_,e⟩:=x; exact Ky e
 | frz ob u=>obtain⟨e,_⟩:=x; exact Ky e
 | tbl ps=>exact Ky (show h.get? a=bt _ from x)
 | met f y=>exact Ky (show h.get? a=bt _ from x)
 | ext φ=>obtain⟨_,⟨_,e⟩,_⟩:=x; exact Ky e
def Paired.mapP {α β:Type}{F G:α->β->Prop}:∀ {l₁:Kg α} {l₂:Kg β},OY F l₁ l₂->(∀a b,F a b->G a b)->OY G l₁ l₂
 | _,_,.nil,_=>.nil
 | _,_,.cons r t,f=>.cons (f _ _ r) (Paired.mapP t f)
def ObjOk.stay (x:ObjOk P w H h a o)(k:∀b u,(b=a\/H b=bt (.own a))->h.get? b=bt u->h'.get? b=bt u)
  (ho:∀b,H b=bt (.own a)->H' b=bt (.own a)) (ht:∀b xs,H b=bt (.tup xs)->H' b=bt (.tup xs)):ObjOk P w H' h' a o:=by
 induction o with
 | lst xs=>obtain⟨z,its,n,r,e⟩:=x; exact#[z,its,n,r,k _ _ (.inl rfl) e]
 | tup xs=>obtain⟨⟨z,ob',e',d⟩,its,r,ob,e,c⟩:=x; exact#[#[z,ob',k _ _ (.inl rfl) e',d],its,r,ob,k _ _ (.inl rfl) e,c]
 | dK U=>obtain⟨z,y,vs,r,ob,es,ep,e,c⟩:=x; exact#[z,y,vs,r,ob,es,ep,k _ _ (.inl rfl) e,c]
 | dT U=>
  obtain⟨z,y,xs,r,ob,es,ep,e,c⟩:=x;exact#[z,y,xs,Paired.mapP r λp q z=>#[z.1,ht _ _ z.2.1,z.2.2],ob,es,ep,k _ _ (.inl rfl) e,c]
 | set S n=>obtain⟨ob,es,ep,t,e,c⟩:=x; exact#[ob,es,ep,t,k _ _ (.inl rfl) e,c]
 | ins C dx fs=>
  obtain⟨d,z,ne,e,mA,⟨od,es,ep,e2,c⟩,r⟩:=x;exact#[ho _ d,z,ne,k _ _ (.inl rfl) e,mA,#[od,es,ep,k _ _ (.inr d) e2,c],r]
 | own y=>obtain⟨ob,e⟩:=x; exact#[ob,k _ _ (.inl rfl) e]
 | xd fs=>obtain⟨mA,⟨od,es,ep,e,c⟩,r⟩:=x; exact#[mA,#[od,es,ep,k _ _ (.inl rfl) e,c],r]
 | rng lo hi=>obtain⟨t,u,v,e⟩:=x; exact#[t,u,v,k _ _ (.inl rfl) e]
 | frz ob u ih=>obtain⟨e,q⟩:=x; exact#[k _ _ (.inl rfl) e,ih q]
 | tbl ps=>
  have e:h.get? a=bt { cls:=.none,data:=.fields ps }:=x;change h'.get? a=bt { cls:=.none,data:=.fields ps };exact k a _ (.inl rfl) e
 | met f y=>
  have e:h.get? a=bt (OM (.ref f) (.ref y)):=x;change h'.get? a=bt (OM (.ref f) (.ref y));exact k a _ (.inl rfl) e
 | ext φ=>obtain⟨p,⟨o,e⟩,st⟩:=x; exact#[st _ _ p λo q=>k _ _ (.inl rfl) q,#[o,k _ _ (.inl rfl) e],st]
def HOk.lt (x:HOk P w H h)(e:H a=bt o):a < h.objs.size:=(x a o e).lt
def HOk.fresh (x:HOk P w H h)(e:h.objs.size<=a):H a=gV:=by
 cases q:H a with
 | none=>rfl
 | some u=>exact absurd (KI (x.lt q) e) (LP _)
def HOk.kept (x:HOk P w H h)(k:∀b u,h.get? b=bt u->h'.get? b=bt u):HOk P w H h':=λa o e=>
 (x a o e).stay (λb u _ q=>k b u q) (λ_ q=>q) λ_ _ q=>q
def HOk.laid (x:HOk P w H h)(k:∀b u,h.get? b=bt u->h'.get? b=bt u)(hp:h.objs.size<=a)(new:ObjOk P w (aE H a o) h' a o):HOk P w (aE H a o) h':=λb u e=>by
 have hn:=x.fresh hp
 by_cases hb:b=a
 ·subst hb; rw[am]at e; cases e; exact new
 ·rw[al hb]at e;exact(x b u e).stay (λc v _ q=>k c v q) (λc q=>by rw[al (cD q hn)]; exact q) λc xs q=>by rw[al (cD q hn)]; exact q
end
abbrev Rd (H:Hp)(a:Kn)(u:HO):Prop:=H a=bt u\/∃o,H a=bt (.frz o u)
def Rd.ok {P:KF}{w:KS}{H:Hp}{h:K7}{a:Kn}{u:HO}(r:Rd H a u)(x:HOk P w H h):ObjOk P w H h a u:=by
 rcases r with r|⟨o,r⟩
 ·exact x a u r
 ·obtain⟨_,q⟩:=x a _ r;exact q
abbrev EU:Kk HO->Prop
 | some (.lst _)=>Rs
 | some (.dK _)=>Rs
 | some (.dT _)=>Rs
 | some (.set _ _)=>Rs
 | some (.ins _ _ _)=>Rs
 | some (.ext _)=>Rs
 | _=>Lj
section
variable{P:KF}{w:KS}{H:Hp}{h h':K7}{x e:Kn}{o':HO}
def HOk.write (ok:HOk P w H h)(mu:EU (H x))(he:e=x\/H e=bt (.own x))(k:∀b u,b≠e->h.get? b=bt u->h'.get? b=bt u)(heo:∃u,h'.get? e=bt u)
  (new:ObjOk P w (aE H x o') h' x o'):HOk P w (aE H x o') h':=λb u q=>by
 have nown:∀c y,H c=bt (.own y)->c≠x:=λc y r z=>by subst z; rw[r]at mu; exact mu
 have ntup:∀c xs,H c=bt (.tup xs)->c≠x:=λc xs r z=>by subst z; rw[r]at mu; exact mu
 by_cases hb:b=x
 ·subst hb; rw[am]at q; cases q; exact new
 ·rw[al hb]at q
  by_cases hbe:b=e
  ·have q':H b=bt (.own x):=by
    rcases he with z|z
    ·exact absurd (hbe.trans z) hb
    ·rw[hbe]; exact z
   rw[q]at q'; cases q'
   obtain⟨v,hv⟩:=heo;exact#[v,by rw[hbe]; exact hv]
  ·show(ok b u q).stay (λc v hc r=>k c v ?_ r) (λc r=>by rw[al (nown c b r)]; exact r) λc xs r=>by rw[al (ntup c xs r)]; exact r
   rcases hc with rfl|hc
   ·exact hbe
   ·rintro rfl;rcases he with z|z
    ·exact nown c b hc z
    ·rw[hc]at z; cases z; exact hb rfl
end
structure Un (fs ex:Kg Kn)(H H':Hp)(h h':K7):Prop where
 keep:∀b o,h.get? b=bt o->H b=gV->b∉fs->b∉ex->h'.get? b=bt o
 slot:∀b o,h.get? b=bt o->H b=gV->b∈fs->b∉ex->∃sl,h'.get? b=bt { o with slots:=sl }
 free:∀b o,h.get? b=bt o->H b=gV->b∉ex->H' b=gV
 there:∀b o,h.get? b=bt o->b∉ex->∃o',h'.get? b=bt o'
 tups:∀b xs,H b=bt (.tup xs)->H' b=bt (.tup xs)
 frzs:∀b o u,H b=bt (.frz o u)->H' b=bt (.frz o u)
 tbls:∀b ps,H b=bt (.tbl ps)->∃more,H' b=bt (.tbl (ps++more))
section
variable{fs fs' ex ex':Kg Kn}{H H1 H2:Hp}{h h1 h2 h':K7}{a x e:Kn}{o:HO}
def Un.any (u:Un fs ex H H1 h h1){b:Kn}{ob:LJ}(q:h.get? b=bt ob)(n:H b=gV)(hx:b∉ex):∃sl,h1.get? b=bt { ob with slots:=sl }:=by
 by_cases hb:b∈fs
 ·exact u.slot b ob q n hb hx
 ·exact#[ob.slots,u.keep b ob q n hb hx]
def Un.trans (a:Un fs ex H H1 h h1)(b:Un fs ex H1 H2 h1 h2):Un fs ex H H2 h h2 where
 keep:=λc ob q n hc hx=>b.keep c ob (a.keep c ob q n hc hx) (a.free c ob q n hx) hc hx
 slot:=λc ob q n hc hx=>by
  obtain⟨sl,e1⟩:=a.slot c ob q n hc hx;obtain⟨sl',e2⟩:=b.slot c _ e1 (a.free c ob q n hx) hc hx;exact#[sl',e2]
 free:=λc ob q n hx=>by
  obtain⟨o',e1⟩:=a.there c ob q hx;exact b.free c o' e1 (a.free c ob q n hx) hx
 there:=λc ob q hx=>by
  obtain⟨o',e1⟩:=a.there c ob q hx;exact b.there c o' e1 hx
 tups:=λc xs q=>b.tups c xs (a.tups c xs q)
 frzs:=λc ob xs q=>b.frzs c ob xs (a.frzs c ob xs q)
 tbls:=λc ps q=>by
  obtain⟨m1,e1⟩:=a.tbls c ps q;obtain⟨m2,e2⟩:=b.tbls c _ e1;exact#[m1++m2,by rw[e2,P4]]
def Un.kept (k:∀b u,h.get? b=bt u->h'.get? b=bt u):Un fs ex H H h h':=
 #[λb ob q _ _ _=>k b ob q,λb ob q _ _ _=>#[ob.slots,k b ob q],λ_ _ _ n _=>n,λb ob q _=>#[ob,k b ob q],λ_ _ q=>q,λ_ _ _ q=>q,λ_ ps q=>#[#[],by rw[q]; simp]]
def Un.refl:Un fs ex H H h h:=Un.kept λ_ _ q=>q
def Un.laid (k:∀b u,h.get? b=bt u->h'.get? b=bt u)(hp:h.objs.size<=a)(hn:H a=gV):Un fs ex H (aE H a o) h h' where
 keep:=λb u q _ _ _=>k b u q
 slot:=λb u q _ _ _=>#[u.slots,k b u q]
 free:=λb u q n _=>by rw[al (KH (KI (Ky q) hp))]; exact n
 there:=λb u q _=>#[u,k b u q]
 tups:=λb xs q=>by rw[al (cD q hn)]; exact q
 frzs:=λb u xs q=>by rw[al (cD q hn)]; exact q
 tbls:=λb ps q=>#[#[],by rw[al (cD q hn),q]; simp]
def Un.write (mu:EU (H x))(he:e=x\/H e=bt (.own x))(k:∀b u,b≠e->h.get? b=bt u->h'.get? b=bt u)(heo:∃u,h'.get? e=bt u):Un fs ex H (aE H x o) h h':=by
 have hx:∀b,H b=gV->b≠x:=λb n z=>by subst z; rw[n]at mu; exact mu
 have hb:∀b,H b=gV->b≠e:=λb n z=>by
  subst z;rcases he with r|r
  ·exact hx b n r
  ·rw[n]at r; cases r
 have hm:∀b u,H b=bt u->¬ EU (bt u)->b≠x:=λb u q nm z=>by subst z; rw[q]at mu; exact nm mu
 show#[λb u q n _ _=>k b u (hb b n) q,λb u q n _ _=>#[u.slots,k b u (hb b n) q],λb u q n _=>by rw[al (hx b n)]; exact n,λb u q _=>?_,
  λb xs q=>by rw[al (hm b _ q λz=>z)]; exact q,λb u xs q=>by rw[al (hm b _ q λz=>z)]; exact q,λb ps q=>#[#[],by rw[al (hm b _ q λz=>z),q]; simp]]
 by_cases hbe:b=e
 ·subst hbe; exact heo
 ·exact#[u,k b u hbe q]
end
abbrev Hw (h:K7)(H:Hp):Kg Kn:=(Mh h.objs.size).filter λa=>(H a).isSome
abbrev lU (h:K7)(H:Hp):K7:=PySem.W.hideAll h (Hw h H)
def sK (h:K7)(H:Hp):(lU h H).objs.size=h.objs.size:=PySem.W.hideAll_size _ _
def uP {h:K7}{H:Hp}{b:Kn}{o:LJ}(e:h.get? b=bt o)(n:H b=gV):(lU h H).get? b=bt o:=
 PySem.W.hideAll_get _ e λhm=>by
  have q:(H b).isSome=true:=(MK.mp hm).2;rw[n]at q; simp at q
def yB {h:K7}{H:Hp}{b:Kn}{o:LJ}(e:(lU h H).get? b=bt o):h.get? b=bt o/\H b=gV:=by
 have e':h.get? b=bt o:=PySem.W.of_hideAll (Hw h H) e;show#[e',?_];cases q:H b with
 | none=>rfl
 | some x=>
  have hm:b∈Hw h H:=MK.mpr #[NX.mpr (Ky e'),by simp[q]]
  have z:(lU h H).get? b=gV:=PySem.W.hideAll_none (Hw h H) hm;rw[z]at e; cases e
abbrev yC (g h:K7)(L:Kn):Kg (Kn×LJ):=(Mh h.objs.size).filterMap λa=>if a=L\/(g.get? a).isSome=true then gV else(h.get? a).map λo=>(a,o)
abbrev aF (g h:K7)(L d:Kn):Kg (Kn×LJ):=(yC g h L).filter λp=>decide (p.1≠d)
structure Mod (K:Kr)(mg:Ks->Kk Ki)(base:K7):Prop where
 kin:K.In base
 glob:base.Ns mainGlobals mg
 blt:∃mb,base.Ns builtinsNs mb/\∀x:Ks,x≠"__name__"->mb x=bootBuiltins x
 nolimit:base.NoLimit
structure Cx where
 prog:KF
 w:KS
 K:Kr
 mg:Ks->Kk Ki
 base:K7
 A:K1
 N:Kg Ks
 s₀:Km
 H₀:Hp
 env:Ov
 outer:Kg Ov
 stack:Kg Ov
 ex:Kg Kn
 fn:Ks->KR
 calm:KR
 pn:Kg (Kn×LJ)
 xe:Ki->Km->Prop
abbrev kX (l:Kg Ov):Kg Kn:=l.filterMap (·.frame)
noncomputable abbrev Cx.fs (X:Cx):Kg Kn:=kX X.outer
abbrev Hx (sc:M1)(x:Ks):Prop:=sc.names.lookup x=bt .local\/sc.names.lookup x=bt .cell\/sc.names.lookup x=bt .free
abbrev uQ (sc:M1)(x:Ks):Prop:=sc.names.lookup x=bt .local\/sc.names.lookup x=bt .cell
abbrev HN (env:Ov)(h:K7)(m:Ks->Kk Ki)(x:Ks)(u:Ki):Prop:=
 (env.kindOf x=bt .local/\m x=bt u)\/((env.kindOf x=bt .cell\/env.kindOf x=bt .free)/\∃c,env.cells.lookup x=bt c/\h.IsCell c (bt u))
structure Cx.Ok (X:Cx):Prop where
 mod:Mod X.K X.mg X.base
 kind:X.env.scope.kind=.function
 glob:X.env.globals=mainGlobals
 blt:X.env.builtins=builtinsNs
 above:X.s₀.heap.objs.size<=X.env.locals
 inj:∀x y c,X.env.cells.lookup x=bt c->X.env.cells.lookup y=bt c->x=y
 has:∀x,(X.env.kindOf x=bt .cell\/X.env.kindOf x=bt .free)->∃c,X.env.cells.lookup x=bt c
 cab:∀x c,X.fn x=true->X.env.cells.lookup x=bt c->X.s₀.heap.objs.size<=c
 hd:X.calm=true->X.A.handled=gV
 frames:X.A.frames=bt X.stack
 stk:X.stack=X.outer\/(X.stack=X.env::X.outer/\X.env.frame=bt X.env.locals)
 exf:∀b∈X.ex,b≠X.env.locals/\∀x c,X.env.cells.lookup x=bt c->c≠b
 bs:∀b o,X.base.get? b=bt o->X.s₀.heap.get? b=bt o/\X.H₀ b=gV
 bsz:X.base.objs.size<=X.s₀.heap.objs.size
 noex:∀b o,X.base.get? b=bt o->b∉X.ex
 exfs:∀b∈X.ex,b∉X.fs
 funs:X.s₀.heap.FunFrames X.base X.outer
 frf:∀b∈X.fs,X.H₀ b=gV
structure Inv (X:Cx)(J:Kg (Kn×LJ))(Y:Kg (Kk V))(H:Hp)(s:Km):Prop where
 ok:X.Ok
 os:s.os=X.s₀.os
 bare:Oq s.gens
 base:Un X.fs X.ex X.H₀ H X.s₀.heap s.heap
 loc:∃m,s.heap.Ns X.env.locals m/\∀(i:Kt) (x:Ks) (v:V),X.N[i]?=bt x->Y[i]?=bt (bt v)->Hx X.env.scope x->∃u,RelV v u/\HN X.env s.heap m x u
 cell:∀x c,X.env.cells.lookup x=bt c->∃v,s.heap.IsCell c v
 free:H X.env.locals=gV
 freeC:∀x c,X.env.cells.lookup x=bt c->H c=gV
 pin:∀p∈X.pn++J,s.heap.get? p.1=bt p.2/\H p.1=gV/\p.1≠X.env.locals/\p.1∉X.fs/\∀v,p.2.data≠.cell v
 hok:HOk X.prog X.w H s.heap
 len:Y.length=X.N.length
section
variable{X:Cx}{J:Kg (Kn×LJ)}{Y:Kg (Kk V)}{H H':Hp}{s:Km}{h':K7}
def Cx.Ok.nofr (ok:X.Ok){b:Kn}{o:LJ}(e:X.base.get? b=bt o):b∉X.fs:=λhb=>by
 have:=(ok.funs.mem hb).1;rw[e]at this; cases this
def Inv.bs (I:Inv X J Y H s):∀b o,X.base.get? b=bt o->s.heap.get? b=bt o/\H b=gV:=λb o e=>
 #[I.base.keep b o (I.ok.bs b o e).1 (I.ok.bs b o e).2 (I.ok.nofr e) (I.ok.noex b o e),I.base.free b o (I.ok.bs b o e).1 (I.ok.bs b o e).2 (I.ok.noex b o e)]
def Inv.bk (I:Inv X J Y H s):∀b o,X.base.get? b=bt o->s.heap.get? b=bt o:=λb o e=>(I.bs b o e).1
def Inv.mod (I:Inv X J Y H s):Mod X.K X.mg X.base:=I.ok.mod
def Inv.kIn (I:Inv X J Y H s):X.K.In s.heap:=I.ok.mod.kin.keeps I.bk
def Inv.lt (I:Inv X J Y H s):X.env.locals < s.heap.objs.size:=let ⟨_,hn,_⟩:=I.loc; hn.lt
def Inv.sz (I:Inv X J Y H s):X.s₀.heap.objs.size<=s.heap.objs.size:=KJ I.ok.above (MN I.lt)
def Inv.nofs (I:Inv X J Y H s){a:Kn}(h:s.heap.objs.size<=a):a∉X.fs:=λhb=>by
 obtain⟨_,o,ho,_⟩:=I.ok.funs.mem hb;exact absurd (KI (Ky ho) (KJ I.sz h)) (LP _)
def Inv.cne (I:Inv X J Y H s):∀x c,X.env.cells.lookup x=bt c->c≠X.env.locals:=λx c e z=>by
 obtain⟨v,o,ho,hd⟩:=I.cell x c e;obtain⟨m,⟨o',es,ep,ho',hd',_⟩,_⟩:=I.loc;rw[z,ho']at ho; cases ho; rw[hd']at hd; cases hd
def Inv.funs (I:Inv X J Y H s):s.heap.FunFrames X.base X.outer:=by
 have all:∀(l:Kg Ov),(∀b∈kX l,b∈X.fs)->X.s₀.heap.FunFrames X.base l->s.heap.FunFrames X.base l:=by
  intro l
  induction l with
  | nil=>intro _ _; trivial
  | cons env r ih=>
   intro hs hl;obtain⟨hk,⟨L,o,hf,hn,ho,hd⟩,hr⟩:=hl;have hL:L∈X.fs:=hs L (by unfold kX; rw[Nc,hf]; exact KP)
   obtain⟨sl,e⟩:=I.base.slot L o ho (I.ok.frf L hL) hL λz=>I.ok.exfs L z hL
   exact#[hk,#[L,_,hf,hn,e,hd],ih (λb hb=>hs b (by unfold kX; rw[Nc,hf]; exact KM _ hb)) hr]
 exact all X.outer (λ_ hb=>hb) I.ok.funs
def Inv.stack (I:Inv X J Y H s):s.heap.FunFrames X.base X.stack:=by
 rcases I.ok.stk with e|⟨e,hf⟩
 ·rw[e]; exact I.funs
 ·rw[e];obtain⟨m,hn,_⟩:=I.loc;show .cons (by rw[I.ok.kind]; decide) hf hn ?_ I.funs
  exact Heap.get?_none_of_le (KJ I.ok.bsz I.ok.above)
def Inv.stkSub (I:Inv X J Y H s):∀b∈kX X.stack,b∈X.env.locals::X.fs:=λb hb=>by
 rcases I.ok.stk with e|⟨e,hf⟩
 ·rw[e]at hb; exact KM _ hb
 ·rw[e]at hb;unfold kX at hb;rw[Nc,hf]at hb;exact hb
def Inv.stkFree (I:Inv X J Y H s):∀b∈kX X.stack,H b=gV:=λb hb=>by
 rcases Kx.mp (I.stkSub b hb)with e|hb
 ·rw[e]; exact I.free
 ·obtain⟨_,o,ho,_⟩:=I.ok.funs.mem hb;exact I.base.free b o ho (I.ok.frf b hb) λz=>I.ok.exfs b z hb
def Inv.step {g':Ls Ow}{t':Kt}{d':SD}{ch:Kg Kn}(I:Inv X J Y H s)
  (hch:∀b∈ch,(b∈X.ex\/X.s₀.heap.objs.size<=b)/\b≠X.env.locals/\(∀x c,X.env.cells.lookup x=bt c->c≠b)/\∀p∈X.pn++J,p.1≠b)
  (keep:∀b o,b≠X.env.locals->b∉X.fs->b∉ch->s.heap.get? b=bt o->H b=gV->h'.get? b=bt o)
  (slot:∀b o,b≠X.env.locals->b∈X.fs->b∉ch->s.heap.get? b=bt o->H b=gV->∃sl,h'.get? b=bt { o with slots:=sl }) (free:∀b o,b∉ch->s.heap.get? b=bt o->H b=gV->H' b=gV)
  (there:∀b o,b∉ch->s.heap.get? b=bt o->∃o',h'.get? b=bt o')
  (tups:∀b xs,H b=bt (.tup xs)->H' b=bt (.tup xs)) (frzs:∀b o u,H b=bt (.frz o u)->H' b=bt (.frz o u)) (tbls:∀b ps,H b=bt (.tbl ps)->∃more,H' b=bt (.tbl (ps++more)))
  (ns:∀m,s.heap.Ns X.env.locals m->h'.Ns X.env.locals m) (hok:HOk X.prog X.w H' h') (hg:Oq g') :
  Inv X J Y H' { s with heap:=h',gens:=g',drawn:=d',toks:=t' }:=by
 have neL:∀b o,X.s₀.heap.get? b=bt o->b≠X.env.locals:=λb o e=>KH (KI (Ky e) I.ok.above)
 have neC:∀b o,X.s₀.heap.get? b=bt o->b∉X.ex->b∉ch:=λb o e hx hb=>by
  rcases(hch b hb).1 with z|z
  ·exact hx z
  ·exact absurd (KI (Ky e) z) (LP _)
 have cellK:∀x c,X.env.cells.lookup x=bt c->∀v,s.heap.IsCell c v->h'.IsCell c v:=λx c e v #[o,ho,hd]=>by
  have nch:c∉ch:=λz=>(hch c z).2.2.1 x c e rfl
  by_cases hc:c∈X.fs
  ·obtain⟨sl,q⟩:=slot c o (I.cne x c e) hc nch ho (I.freeC x c e);exact#[_,q,hd]
  ·exact#[o,keep c o (I.cne x c e) hc nch ho (I.freeC x c e),hd]
 show#[I.ok,I.os,hg,#[λb o e n hb hx=>?_,λb o e n hb hx=>?_,λb o e n hx=>?_,λb o e hx=>?_,λb xs e=>tups b xs (I.base.tups b xs e),λb o xs e=>frzs b o xs (I.base.frzs b o xs e),λb ps e=>?_],?_,λx c e=>?_,?_,λx c e=>?_,λp hp=>?_,hok,I.len]
 ·exact keep b o (neL b o e) hb (neC b o e hx) (I.base.keep b o e n hb hx) (I.base.free b o e n hx)
 ·obtain⟨sl,e1⟩:=I.base.slot b o e n hb hx;obtain⟨sl',e2⟩:=slot b _ (neL b o e) hb (neC b o e hx) e1 (I.base.free b o e n hx);exact#[sl',e2]
 ·obtain⟨o',e1⟩:=I.base.there b o e hx;exact free b o' (neC b o e hx) e1 (I.base.free b o e n hx)
 ·obtain⟨o',e1⟩:=I.base.there b o e hx;exact there b o' (neC b o e hx) e1
 ·obtain⟨m1,e1⟩:=I.base.tbls b ps e;obtain⟨m2,e2⟩:=tbls b _ e1;exact#[m1++m2,by rw[e2,P4]]
 ·obtain⟨m,hn,hl⟩:=I.loc;show#[m,ns m hn,λi x v e1 e2 e3=>?_]
  obtain⟨u,r,l⟩:=hl i x v e1 e2 e3;show#[u,r,?_];rcases l with l|⟨k,c,e,z⟩
  ·exact .inl l
  ·exact .inr #[k,c,e,cellK x c e _ z]
 ·obtain⟨v,z⟩:=I.cell x c e;exact#[v,cellK x c e v z]
 ·obtain⟨m,⟨o,_,_,ho,_⟩,_⟩:=I.loc;exact free _ o (λz=>(hch _ z).2.1 rfl) ho I.free
 ·obtain⟨v,o,ho,hd⟩:=I.cell x c e;exact free c o (λz=>(hch c z).2.2.1 x c e rfl) ho (I.freeC x c e)
 ·obtain⟨e,n,ne,nf,d⟩:=I.pin p hp;have nch:p.1∉ch:=λz=>(hch p.1 z).2.2.2 p hp rfl
  exact#[keep p.1 p.2 ne nf nch e n,free p.1 p.2 nch e n,ne,nf,d]
def Inv.un {t':Kt}(I:Inv X J Y H s)(u:Un X.fs [] H H' s.heap h')(hok:HOk X.prog X.w H' h'):Inv X J Y H' { s with heap:=h',toks:=t' }:=by
 obtain⟨m,⟨o,es,ep,ho,r⟩,_⟩:=id I.loc;obtain⟨sl,hL⟩:=u.any ho I.free (by simp)
 exact I.step (g':=s.gens) (d':=s.drawn) (ch:=[]) (λ_ z=>nomatch z) (λb o _ hb _ e n=>u.keep b o e n hb (by simp)) (λb o _ hb _ e n=>u.slot b o e n hb (by simp)) (λb o _ e n=>u.free b o e n (by simp)) (λb o _ e=>u.there b o e (by simp)) u.tups u.frzs u.tbls (λm' hm=>by
  obtain⟨o',es',ep',ho',r'⟩:=hm;rw[ho]at ho'; cases ho'
  exact#[_,es',ep',hL,r']) hok I.bare
def Inv.call {g':Ls Ow}{t':Kt}{d':SD}{ch:Kg Kn}(I:Inv X J Y H s)(u:Un (kX X.stack) ch H H' s.heap h')(hok:HOk X.prog X.w H' h')(hg:Oq g')
  (hch:∀b∈ch,(b∈X.ex\/X.s₀.heap.objs.size<=b)/\b≠X.env.locals/\(∀x c,X.env.cells.lookup x=bt c->c≠b)/\∀p∈X.pn++J,p.1≠b) :
  Inv X J Y H' { s with heap:=h',gens:=g',drawn:=d',toks:=t' }:=by
 obtain⟨m,⟨o,es,ep,ho,r⟩,_⟩:=id I.loc;obtain⟨sl,hL⟩:=u.any ho I.free λz=>(hch _ z).2.1 rfl
 exact I.step (ch:=ch) hch (λb o hL hb hc e n=>u.keep b o e n (λz=>(Kx.mp (I.stkSub b z)).elim hL hb) hc) (λb o _ _ hc e n=>u.any e n hc) (λb o hc e n=>u.free b o e n hc) (λb o hc e=>u.there b o e hc) u.tups u.frzs u.tbls (λm' hm=>by
  obtain⟨o',es',ep',ho',r'⟩:=hm;rw[ho]at ho'; cases ho'
  exact#[_,es',ep',hL,r']) hok hg
def Inv.turned {t':Kt}{it:Kn}(I:Inv X J Y H s)(k:∀b o,b≠it->s.heap.get? b=bt o->h'.get? b=bt o)(hn:H it=gV)(hL:it≠X.env.locals)
  (h1:it∈X.ex\/X.s₀.heap.objs.size<=it) (h2:∀x c,X.env.cells.lookup x=bt c->c≠it) (h3:∀p∈X.pn++J,p.1≠it):Inv X J Y H { s with heap:=h',toks:=t' }:=by
 have nit:∀b u,H b=bt u->b≠it:=λb u e z=>by rw[z,hn]at e; cases e
 show I.step (g':=s.gens) (d':=s.drawn) (ch:=[it]) (λb hb=>?_) (λb o _ _ hc e _=>k b o (λz=>hc (by simp[z])) e) (λb o _ _ hc e _=>#[o.slots,k b o (λz=>hc (by simp[z])) e]) (λ_ _ _ _ n=>n)
  (λb o hc e=>#[o,k b o (λz=>hc (by simp[z])) e]) (λ_ _ e=>e) (λ_ _ _ e=>e) (λb ps e=>#[#[],by rw[e]; simp]) (λm hm=>?_) (λb u e=>?_) I.bare
 ·have e:b=it:=by simpa using hb
  subst e;exact#[h1,hL,h2,h3]
 ·obtain⟨o,es,ep,ho,r⟩:=hm;exact#[o,es,ep,k _ o (Ne.symm hL) ho,r]
 ·show(I.hok b u e).stay (λc v hc q=>k c v ?_ q) (λ_ q=>q) λ_ _ q=>q
  rcases hc with z|z
  ·rw[z]; exact nit b u e
  ·exact nit c _ z
def Inv.tok (I:Inv X J Y H s)(t:Kt):Inv X J Y H { s with toks:=t }:=I.un (h':=s.heap) (t':=t) Un.refl I.hok
def Inv.kept {t':Kt}(I:Inv X J Y H s)(k:∀b u,s.heap.get? b=bt u->h'.get? b=bt u):Inv X J Y H { s with heap:=h',toks:=t' }:=I.un (Un.kept k) (I.hok.kept k)
def Inv.laid {a:Kn}{o:HO}{t':Kt}(I:Inv X J Y H s)(k:∀b u,s.heap.get? b=bt u->h'.get? b=bt u)(hp:s.heap.objs.size<=a)(new:ObjOk X.prog X.w (aE H a o) h' a o) :
  Inv X J Y (aE H a o) { s with heap:=h',toks:=t' }:=I.un (Un.laid k hp (I.hok.fresh hp)) (I.hok.laid k hp new)
def Inv.write {x e:Kn}{o:HO}{t':Kt}(I:Inv X J Y H s)(mu:EU (H x))(he:e=x\/H e=bt (.own x))(k:∀b u,b≠e->s.heap.get? b=bt u->h'.get? b=bt u)(heo:∃u,h'.get? e=bt u)
  (new:ObjOk X.prog X.w (aE H x o) h' x o):Inv X J Y (aE H x o) { s with heap:=h',toks:=t' }:=I.un (Un.write mu he k heo) (I.hok.write mu he k heo new)
def Inv.pins_of {J':Kg (Kn×LJ)}(I:Inv X J Y H s)(h:∀p∈J',s.heap.get? p.1=bt p.2/\H p.1=gV/\p.1≠X.env.locals/\p.1∉X.fs/\∀v,p.2.data≠.cell v):Inv X J' Y H s:=
 #[I.ok,I.os,I.bare,I.base,I.loc,I.cell,I.free,I.freeC,λp hp=>(Lb.mp hp).elim (λz=>I.pin p (LZ _ z)) (h p),I.hok,I.len]
def jt {N:Kg Ks}(hN:N.Nodup){i j:Kt}{x:Ks}(a:N[i]?=bt x)(b:N[j]?=bt x):i=j:=by
 obtain⟨h1,e1⟩:=KB.mp a;obtain⟨h2,e2⟩:=KB.mp b;exact(List.getElem_inj hN).mp (e1.trans e2.symm)
def sL {Mqa:ON}{A:K1}{E:Ki->Km->Prop}{i:Kt}{x:Ks}{v:V}{u:Ki}{Q:Ra->Km->Prop}(I:Inv X J Y H s)(hN:X.N.Nodup)(hi:X.N[i]?=bt x)(hx:uQ X.env.scope x)(r:RelV v u)
  (h:∀s',Inv X J (Y.set i (bt v)) H s'->(∃a,M2 a s.heap s'.heap/\(a=X.env.locals\/X.env.cells.lookup x=bt a))->Q () s') (hf:X.fn x=true\/X.env.scope.names.lookup x=bt .local):wpAny Mqa A (storeName X.env x u) Q E s:=by
 obtain⟨m,hn,hl⟩:=id I.loc;have hcls:(X.env.scope.kind==.class||(X.env.scope.kind==.module&&X.env.locals != X.env.globals))=false:=by rw[I.ok.kind]; rfl
 have hiσ:i < Y.length:=by rw[I.len]; exact(KB.mp hi).1
 have cne:=I.cne;have tracked:∀ {a:Kn} {h':K7},(∃o,s.heap.get? a=bt o/\H a=gV)->M2 a s.heap h'->HOk X.prog X.w H h':=λ{a h'} ha hs b ob e=>by
  obtain⟨_,_,hfree⟩:=ha;show(I.hok b ob e).stay (λc w' hc q=>(hs.2 c ?_).trans q) (λ_ q=>q) λ_ _ q=>q
  rintro rfl;rcases hc with rfl|hc
  ·rw[hfree]at e; cases e
  ·rw[hfree]at hc; cases hc
 rcases hx with hk|hk
 ·show wpAny_storeName_local hk hn (λh' hn' hs=>?_) hcls
  obtain⟨oL,_,_,hoL,_⟩:=id hn;show h _ #[I.ok,I.os,I.bare,#[λb o e n hb hx=>?_,λb o e n hb hx=>?_,I.base.free,λb o e hx=>?_,I.base.tups,I.base.frzs,I.base.tbls],#[_,hn',λj y v' e1 e2 e3=>?_],λy c e=>?_,I.free,I.freeC,λp hp=>?_,tracked #[oL,hoL,I.free] hs,by simpa using I.len] #[_,hs,.inl rfl]
  ·exact(hs.2 b (KH (KI (Ky e) I.ok.above))).trans (I.base.keep b o e n hb hx)
  ·obtain⟨sl,e1⟩:=I.base.slot b o e n hb hx;exact#[sl,(hs.2 b (KH (KI (Ky e) I.ok.above))).trans e1]
  ·obtain⟨o',e1⟩:=I.base.there b o e hx;exact#[o',(hs.2 b (KH (KI (Ky e) I.ok.above))).trans e1]
  ·by_cases hj:j=i
   ·subst hj;rw[hi]at e1; cases e1
    rw[Nm hiσ]at e2;cases e2;exact#[u,r,.inl #[hk,by simp]]
   ·rw[Nz (Ne.symm hj)]at e2;obtain⟨u',r',q⟩:=hl j y v' e1 e2 e3;show#[u',r',?_];rcases q with⟨k,e⟩|⟨k,c,e,z⟩
    ·show .inl #[k,?_];have:y≠x:=λe=>hj (jt hN e1 (e ▸ hi))
     simp[this,e]
    ·exact .inr #[k,c,e,z.sameBut hs (cne y c e)]
  ·obtain⟨w',z⟩:=I.cell y c e;exact#[w',z.sameBut hs (cne y c e)]
  ·obtain⟨e,n,ne,nf,d⟩:=I.pin p hp;exact#[(hs.2 p.1 ne).trans e,n,ne,nf,d]
 ·have hfn:X.fn x=true:=by
   rcases hf with z|z
   ·exact z
   ·rw[z]at hk; cases hk
  obtain⟨c,hc⟩:=I.ok.has x (.inl hk);obtain⟨w',z⟩:=I.cell x c hc;show wpAny_storeName_cell I.ok.kind hk hc z (λh' hc' hs=>?_)
  obtain⟨oc,hoc,hocd⟩:=id z;show h { s with heap:=h' } #[I.ok,I.os,I.bare,#[λb o e n hb hx=>?_,λb o e n hb hx=>?_,I.base.free,λb o e hx=>?_,I.base.tups,I.base.frzs,I.base.tbls],#[m,hn.sameBut hs (Ne.symm (cne x c hc)),λj y v' e1 e2 e3=>?_],λy c' e=>?_,I.free,I.freeC,λp hp=>?_,tracked #[oc,hoc,I.freeC x c hc] hs,by simpa using I.len] #[c,hs,.inr hc]
  ·exact(hs.2 b (KH (KI (Ky e) (I.ok.cab x c hfn hc)))).trans (I.base.keep b o e n hb hx)
  ·obtain⟨sl,e1⟩:=I.base.slot b o e n hb hx;exact#[sl,(hs.2 b (KH (KI (Ky e) (I.ok.cab x c hfn hc)))).trans e1]
  ·obtain⟨o',e1⟩:=I.base.there b o e hx;exact#[o',(hs.2 b (KH (KI (Ky e) (I.ok.cab x c hfn hc)))).trans e1]
  ·by_cases hj:j=i
   ·subst hj;rw[hi]at e1; cases e1
    rw[Nm hiσ]at e2;cases e2;exact#[u,r,.inr #[.inl hk,c,hc,hc']]
   ·rw[Nz (Ne.symm hj)]at e2;obtain⟨u',r',q⟩:=hl j y v' e1 e2 e3;show#[u',r',?_];rcases q with q|⟨k,c',e,z'⟩
    ·exact .inl q
    ·show .inr #[k,c',e,z'.sameBut hs ?_];rintro rfl;exact hj (jt hN e1 (I.ok.inj _ _ _ e hc ▸ hi))
  ·by_cases hcc:c'=c
   ·subst hcc; exact#[_,hc']
   ·obtain⟨w2,z2⟩:=I.cell y c' e;exact#[w2,z2.sameBut hs hcc]
  ·obtain⟨e,n,ne,nf,d⟩:=I.pin p hp;show#[(hs.2 p.1 ?_).trans e,n,ne,nf,d];intro q;rw[q,hoc]at e;have q':oc=p.2:=Mr e;exact d w' (by rw[<- q']; exact hocd)
def dh {Mqa:ON}{A:K1}{E:Ki->Km->Prop}{i:Kt}{x:Ks}{v:V}{u:Ki}{Q:Ra->Km->Prop}(I:Inv X J Y H s)(hN:X.N.Nodup)(hi:X.N[i]?=bt x)(hx:uQ X.env.scope x)(r:RelV v u)
  (h:∀s',Inv X J (Y.set i (bt v)) H s'->Q () s') (hf:X.fn x=true\/X.env.scope.names.lookup x=bt .local):wpAny Mqa A (storeName X.env x u) Q E s:=
 sL I hN hi hx r (λs' I' _=>h s' I') hf
def Inv.call' {s':Km}{ch:Kg Kn}(I:Inv X J Y H s)(ho:s'.os=s.os)(u:Un (kX X.stack) ch H H' s.heap s'.heap)(hok:HOk X.prog X.w H' s'.heap)(hg:Oq s'.gens)
  (hch:∀b∈ch,(b∈X.ex\/X.s₀.heap.objs.size<=b)/\b≠X.env.locals/\(∀x c,X.env.cells.lookup x=bt c->c≠b)/\∀p∈X.pn++J,p.1≠b):Inv X J Y H' s':=by
 obtain⟨h',g',d',t',o'⟩:=s';have e:o'=s.os:=ho;subst e;exact I.call (g':=g') (t':=t') (d':=d') u hok hg hch
end
noncomputable abbrev XK:=Ki->Kk Kn->Hp->Prop
noncomputable abbrev St:=Kg (Kk V)
noncomputable abbrev VK:=V->Hp->Prop
noncomputable abbrev TE:=St->Hp->VK->Prop
noncomputable abbrev TT:=St->Hp->(KR->Hp->Prop)->Prop
noncomputable abbrev TA:=St->Hp->(Kg V->Hp->Prop)->Prop
structure Ends where
 nx:St->Hp->Prop
 rt:VK
 bk:St->Hp->Prop:=λ_ _=>Lj
 ct:St->Hp->Prop:=λ_ _=>Lj
noncomputable abbrev TS:=Ends->St->Hp->Prop
inductive EP (X:Cx)(J:Kg (Kn×LJ))(Y:St)(Q:VK)(u:Ki)(s':Km):Prop
 | mk (v:V) (H':Hp) (i:Inv X J Y H' s') (r:RelV v u) (q:Q v H'):EP X J Y Q u s'
inductive TP (X:Cx)(J:Kg (Kn×LJ))(Y:St)(Q:KR->Hp->Prop)(b:KR)(s':Km):Prop
 | mk (H':Hp) (i:Inv X J Y H' s') (q:Q b H'):TP X J Y Q b s'
inductive AP (X:Cx)(J:Kg (Kn×LJ))(Y:St)(Q:Kg V->Hp->Prop)(us:Kg Ki)(s':Km):Prop
 | mk (vs:Kg V) (H':Hp) (i:Inv X J Y H' s') (r:Vals vs us) (q:Q vs H'):AP X J Y Q us s'
abbrev SP (X:Cx)(J:Kg (Kn×LJ))(D:Ends)(f:Tv)(s':Km):Prop:=
 match f with
 | .next=>∃Y' H',Inv X J Y' H' s'/\D.nx Y' H'
 | .brk=>∃Y' H',Inv X J Y' H' s'/\D.bk Y' H'
 | .cont=>∃Y' H',Inv X J Y' H' s'/\D.ct Y' H'
 | .ret u=>∃v Y' H',Inv X J Y' H' s'/\RelV v u/\D.rt v H'
abbrev PE (X:Cx)(e:KC)(t:TE):Prop:=
 ∀(J:Kg (Kn×LJ)) (s:Km) (Y:St) (H:Hp) (Q:VK),Inv X J Y H s->t Y H Q->wpAny (model X.prog X.w) X.A (eval e X.env) (EP X J Y Q) X.xe s
abbrev PT (X:Cx)(e:KC)(t:TT):Prop:=
 ∀(J:Kg (Kn×LJ)) (s:Km) (Y:St) (H:Hp) (Q:KR->Hp->Prop),Inv X J Y H s->t Y H Q->wpAny (model X.prog X.w) X.A (isTrue e X.env (eval e X.env)) (TP X J Y Q) X.xe s
abbrev PW (X:Cx)(e:KC)(t:TT):Prop:=
 ∀(whole:R1 Ki) (J:Kg (Kn×LJ)) (s:Km) (Y:St) (H:Hp) (Q:KR->Hp->Prop),Inv X J Y H s->t Y H Q->wpAny (model X.prog X.w) X.A (isTrue e X.env whole) (TP X J Y Q) X.xe s
def PW.pt {X:Cx}{e:KC}{t:TT}(h:PW X e t):PT X e t:=h _
abbrev PA (X:Cx)(es:Kg KC)(t:TA):Prop:=
 ∀(pos:L9) (J:Kg (Kn×LJ)) (s:Km) (Y:St) (H:Hp) (Q:Kg V->Hp->Prop),Inv X J Y H s->t Y H Q->wpAny (model X.prog X.w) X.A (spliced (backTo pos (starEach es X.env))) (AP X J Y Q) X.xe s
abbrev PS (X:Cx)(st:LO)(t:TS):Prop:=
 ∀(J:Kg (Kn×LJ)) (s:Km) (Y:St) (H:Hp) (D:Ends),Inv X J Y H s->t D Y H->wpAny (model X.prog X.w) X.A (exec st X.env) (SP X J D) X.xe s
abbrev PSs (X:Cx)(st:Kg LO)(t:TS):Prop:=
 ∀(J:Kg (Kn×LJ)) (s:Km) (Y:St) (H:Hp) (D:Ends),Inv X J Y H s->t D Y H->wpAny (model X.prog X.w) X.A (execs st X.env) (SP X J D) X.xe s
def aK {α:Type}{t:R1 α}{Q Q':α->Km->Prop}{Mqa:ON}{A:K1}{E:Ki->Km->Prop}{s:Km}(h:wpAny Mqa A t Q E s)(hQ:∀a s,Q a s->Q' a s):wpAny Mqa A t Q' E s:=Lf h hQ λ_ _ x=>x
section
variable{X:Cx}
def Kf {a b:KC}{ta tb:TE}(ha:PE X a ta)(hb:PE X b tb){J:Kg (Kn×LJ)}{s:Km}{Y:St}{H:Hp}{R:V->V->Hp->Prop}(I:Inv X J Y H s)(h:ta Y H λx H1=>tb Y H1 λy H2=>R x y H2)
  {α:Type} {Q:α->Km->Prop} {f:Ki->Ki->R1 α}
  (hf:∀v u s2 x y H2,Inv X J Y H2 s2->RelV x v->RelV y u->R x y H2->wpAny (model X.prog X.w) X.A (f v u) Q X.xe s2) :
  wpAny (model X.prog X.w) X.A (eval a X.env) (λv s₁=>wpAny (model X.prog X.w) X.A (eval b X.env) (λu s₂=>wpAny (model X.prog X.w) X.A (f v u) Q X.xe s₂) X.xe s₁) X.xe s:=by
 show aK (ha J s Y H _ I h) λv s1 #[x,H1,I1,r1,q1]=>?_
 show aK (hb J s1 Y H1 _ I1 q1) λu s2 #[y,H2,I2,r2,q2]=>?_
 exact hf v u s2 x y H2 I2 r1 r2 q2
abbrev nv (i:Kt):TE:=λY H Q=>∃v,Y[i]?=bt (bt v)/\Q v H
abbrev tC (v:V):TE:=λ_ H Q=>Q v H
def fX {i:Kt}{x:Ks}{pos:L9}(hN:X.N[i]?=bt x)(hv:Hx X.env.scope x)(hd:(x==("__debug__" : Ks))=false:=by decide)(hcd:(x==("__classdict__" : Ks))=false:=by decide):PE X (.Name x pos) (nv i):=by
 intro J s Y H Q I h;obtain⟨v,e,h⟩:=h;obtain⟨m,hn,hl⟩:=I.loc;obtain⟨u,r,l⟩:=hl i x v hN e hv;have fin:EP X J Y Q u s:=#[v,H,I,r,h];rcases l with⟨hk,hm⟩|⟨hk,c,hc,hcell⟩
 ·exact Rt (wpAny_loadName_local I.ok.kind hk hn hm fin) hd
 ·rcases hk with hk|hk
  ·exact Rt (wpAny_loadName_cell I.ok.kind hk hc hcell fin) hd
  ·exact Rt (wpAny_loadName_free I.ok.kind hk hc hcell fin hcd) hd
def lV {i j pos}:PE X (.Constant (.int i) j pos) (tC (.int i)):=λ_ _ _ H _ I h=>wpAny_Constant_int #[.int i,H,I.tok _,#[_,rfl],h]
def nw {b j pos}:PE X (.Constant (.bool b) j pos) (tC (.bl b)):=λ_ _ _ H _ I h=>Constant_bool #[.bl b,H,I,rfl,h]
def lW {j pos}:PE X (.Constant .none j pos) (tC .non):=λ_ _ _ H _ I h=>Constant_none #[.non,H,I,rfl,h]
def lX {x j pos}:PE X (.Constant (.str x) j pos) (tC (.str x)):=λ_ _ _ H _ I h=>P5 #[.str x,H,I.tok _,#[_,rfl],h]
abbrev Gl (X:Cx)(x:Ks):Prop:=X.env.kindOf x=bt .globalImplicit
def ce {E:Ki->Km->Prop}{J:Kg (Kn×LJ)}{s:Km}{Y:St}{H:Hp}{x:Ks}{u:Ki}{pos:L9}{Q:Ki->Km->Prop}(I:Inv X J Y H s)(hg:Gl X x)(hm:X.mg x=bt u)(h:Q u s)
  (hd:(x==("__debug__" : Ks))=false:=by decide):wpAny (model X.prog X.w) X.A (eval (.Name x pos) X.env) Q E s:=
 Ox I.ok.kind hg (Calls.loadGlobal_global (by rw[I.ok.glob]; exact I.mod.glob.keeps I.bk) hm h) hd
def fY {E:Ki->Km->Prop}{J:Kg (Kn×LJ)}{s:Km}{Y:St}{H:Hp}{x:Ks}{u:Ki}{pos:L9}{Q:Ki->Km->Prop}(I:Inv X J Y H s)(hg:Gl X x)(hm:X.mg x=gV)(hv:bootBuiltins x=bt u)(h:Q u s)
  (hn:x≠"__name__":=by decide) (hd:(x==("__debug__" : Ks))=false:=by decide):wpAny (model X.prog X.w) X.A (eval (.Name x pos) X.env) Q E s:=by
 obtain⟨mb,h1,h2⟩:=I.mod.blt;exact Ox I.ok.kind hg (Calls.loadGlobal_builtin (by rw[I.ok.glob]; exact I.mod.glob.keeps I.bk) hm (by rw[I.ok.blt]; exact h1.keeps I.bk) ((h2 x hn).trans hv) h) hd
def lY {x:Ks}{v:V}{u:Ki}{pos:L9}(hg:Gl X x)(hm:X.mg x=bt u)(r:RelV v u)(hd:(x==("__debug__" : Ks))=false:=by decide):PE X (.Name x pos) (tC v):=
 λ_ _ _ H _ I h=>ce I hg hm #[v,H,I,r,h] hd
def qT {x:Ks}{v:V}{u:Ki}{pos:L9}(hg:Gl X x)(hm:X.mg x=gV)(hv:bootBuiltins x=bt u)(r:RelV v u)(hn:x≠"__name__":=by decide)(hd:(x==("__debug__" : Ks))=false:=by decide):PE X (.Name x pos) (tC v):=
 λ_ _ _ H _ I h=>fY I hg hm hv #[v,H,I,r,h] hn hd
variable{a b:KC}{ta tb:TE}{pos:L9}
abbrev PC (X:Cx)(op:Pa)(a b:KC)(t:TE):Prop:=
 ∀(J:Kg (Kn×LJ)) (s:Km) (Y:St) (H:Hp) (Q:VK),Inv X J Y H s->t Y H Q->
  wpAny (model X.prog X.w) X.A (eval a X.env) (λv s₁=>wpAny (model X.prog X.w) X.A (eval b X.env) (λu s₂=>wpAny (model X.prog X.w) X.A (compareOp op v u) (EP X J Y Q) X.xe s₂) X.xe s₁) X.xe s
def ny (b:KC){op:Pa}(h:op≠.In)(h2:op≠.NotIn):behindInMarks op b=false:=by
 have e1:(op==CmpOp.In)=false:=by cases op <;> first|rfl|exact absurd rfl h
 have e2:(op==CmpOp.NotIn)=false:=by cases op <;> first|rfl|exact absurd rfl h2
 cases b <;> simp[behindInMarks,e1,e2]
abbrev tB (t:TE):TT:=λY H Q=>t Y H λx H1=>∃c,x=.bl c/\Q c H1
def B1 {op:Pa}{t:TE}(h:PC X op a b t)(h1:behindInMarks op b=false:=by first|exact ny _ #v[] #v[]|rfl):PE X (.Compare a [op] [b] pos) t:=λJ s Y H Q I hw=>Ru (h J s Y H Q I hw) h1
def B2 {op:Pa}{t:TE}(h:PC X op a b t)(h1:behindInMarks op b=false:=by first|exact ny _ #v[] #v[]|rfl):PT X (.Compare a [op] [b] pos) (tB t):=by
 intro J s Y H Q I hw;show Pi (aK (h J s Y H _ I hw) λv s1 h1=>aK h1 λu s2 h2=>aK h2 λc s3 #[x,H1,I1,r1,q1]=>?_) h1
 obtain⟨d,rfl,q⟩:=q1;cases r1;exact LV #[H1,I1,q]
variable{tA tB':TT}{aF:Kg KC}
abbrev EV (t u:TT):TT:=λY H Q=>t Y H λc H1=>if c=true then u Y H1 Q else Q false H1
abbrev Jv (t u:TT):TT:=λY H Q=>t Y H λc H1=>if c=true then Q true H1 else u Y H1 Q
abbrev HP (t:TT):TT:=λY H Q=>t Y H λc H1=>Q (!c) H1
def yD (ha:PT X a tA):PW X (.BoolOp .And [a] pos) tA:=by
 intro wh J s Y H Q I h;show isTrue_and (aK (ha J s Y H Q I h) λc s1 e=>?_)
 cases c with
 | true=>exact isTrue_and_nil e
 | false=>exact e
def B3 (ha:PT X a tA):PW X (.BoolOp .Or [a] pos) tA:=by
 intro wh J s Y H Q I h;show isTrue_or (aK (ha J s Y H Q I h) λc s1 e=>?_)
 cases c with
 | false=>exact isTrue_or_nil e
 | true=>exact e
def B4 (ha:PT X a tA)(hb:PW X (.BoolOp .And (b::aF) pos) tB'):PW X (.BoolOp .And (a::b::aF) pos) (EV tA tB'):=by
 intro wh J s Y H Q I h;show isTrue_and (aK (ha J s Y H _ I h) λc s1 #[H1,I1,q1]=>?_)
 cases c with
 | true=>exact hb wh J s1 Y H1 Q I1 q1
 | false=>exact#[H1,I1,q1]
def EW (ha:PT X a tA)(hb:PW X (.BoolOp .Or (b::aF) pos) tB'):PW X (.BoolOp .Or (a::b::aF) pos) (Jv tA tB'):=by
 intro wh J s Y H Q I h;show isTrue_or (aK (ha J s Y H _ I h) λc s1 #[H1,I1,q1]=>?_)
 cases c with
 | true=>exact#[H1,I1,q1]
 | false=>exact hb wh J s1 Y H1 Q I1 q1
def B5 (ha:PT X a tA):PT X (.UnaryOp .Not a pos) (HP tA):=by
 intro J s Y H Q I h;exact isTrue_not (aK (ha J s Y H (λc H1=>Q (!c) H1) I h) λ_ _ #[H1,i,q]=>#[H1,i,q])
abbrev EX (ta tb:TE):TE:=λY H Q=>ta Y H λx H1=>∃c,x=.bl c/\if c=true then tb Y H1 Q else Q (.bl false) H1
abbrev HQ (ta tb:TE):TE:=λY H Q=>ta Y H λx H1=>∃c,x=.bl c/\if c=true then Q (.bl true) H1 else tb Y H1 Q
abbrev EY (ta:TE):TE:=λY H Q=>ta Y H λx H1=>∃c,x=.bl c/\Q (.bl (!c)) H1
def B6 {op}{t:TE}(h:PE X a t):PE X (.BoolOp op [a] pos) t:=λJ s Y H Q I hw=>BoolOp_one (h J s Y H Q I hw)
def B7 (ha:PE X a ta)(hb:PE X (.BoolOp .And (b::aF) pos) tb):PE X (.BoolOp .And (a::b::aF) pos) (EX ta tb):=by
 intro J s Y H Q I h;show BoolOp_and (aK (ha J s Y H _ I h) λv s1 #[x,H1,I1,r1,q1]=>?_)
 obtain⟨c,rfl,q1⟩:=q1;cases r1;show LV ?_;cases c with
 | true=>exact hb J s1 Y H1 Q I1 q1
 | false=>exact#[.bl false,H1,I1,rfl,q1]
def EZ (ha:PE X a ta)(hb:PE X (.BoolOp .Or (b::aF) pos) tb):PE X (.BoolOp .Or (a::b::aF) pos) (HQ ta tb):=by
 intro J s Y H Q I h;show BoolOp_or (aK (ha J s Y H _ I h) λv s1 #[x,H1,I1,r1,q1]=>?_)
 obtain⟨c,rfl,q1⟩:=q1;cases r1;show LV ?_;cases c with
 | false=>exact hb J s1 Y H1 Q I1 q1
 | true=>exact#[.bl true,H1,I1,rfl,q1]
def B8 (ha:PE X a ta):PE X (.UnaryOp .Not a pos) (EY ta):=by
 intro J s Y H Q I h;show UnaryOp_ (aK (ha J s Y H _ I h) λv s1 #[x,H1,I1,r1,q1]=>?_)
 obtain⟨c,rfl,q1⟩:=q1;cases r1;exact not_of (LV #[.bl (!c),H1,I1,rfl,q1])
abbrev JM (t:TT)(ta tb:TE):TE:=λY H Q=>t Y H λc H1=>if c=true then ta Y H1 Q else tb Y H1 Q
def uR {c:KC}(hc:PT X c tA)(ha:PE X a ta)(hb:PE X b tb):PE X (.IfExp c a b pos) (JM tA ta tb):=by
 intro J s Y H Q I h;show wpAny_IfExp (aK (hc J s Y H _ I h) λd s1 #[H1,I1,q1]=>?_)
 cases d with
 | true=>exact ha J s1 Y H1 Q I1 q1
 | false=>exact hb J s1 Y H1 Q I1 q1
end
abbrev SqL (K:Kr)(H:Hp)(a:Kn)(xs:Kg V):Prop:=
 Rd H a (.lst xs)\/
  ∃(o:LJ) (its:Ls Ki) (n:Kt),K.lookup a=bt o/\o.cls=.type "list"/\o.dict=gV/\o.data=.seq its n/\its.size<=sizeLine/\Vals xs its.toList
abbrev SqT (K:Kr)(H:Hp)(a:Kn)(xs:Kg V):Prop:=
 Rd H a (.tup xs)\/
  ∃(o:LJ) (its:Ls Ki) (n:Kt),K.lookup a=bt o/\o.cls=.type "tuple"/\o.dict=gV/\o.data=.seq its n/\its.size<=sizeLine/\Vals xs its.toList
abbrev sM:Ki->Kk V
 | .none=>bt .non
 | .bool b=>bt (.bl b)
 | .int i _=>bt (.int i)
 | .str x _=>bt (.str x)
 | .bytes b _=>bt (.byt b)
 | .float b _=>bt (.flt b)
 | .ref a=>bt (.ref a)
 | .type n=>bt (.ty n)
 | _=>gV
def RelV.abs {x:V}{u:Ki}(r:RelV x u):sM u=bt x:=by
 cases x with
 | non=>cases r; rfl
 | bl _=>cases r; rfl
 | int _=>obtain⟨t,rfl⟩:=r; rfl
 | str _=>obtain⟨t,rfl⟩:=r; rfl
 | byt _=>obtain⟨t,rfl⟩:=r; rfl
 | flt _=>obtain⟨t,rfl⟩:=r; rfl
 | ref _=>cases r; rfl
 | ty _=>cases r; rfl
def RelV.inj {x y:V}{u:Ki}(r:RelV x u)(q:RelV y u):x=y:=Mr (r.abs.symm.trans q.abs)
def Vals.inj:∀ {xs ys:Kg V} {us:Kg Ki},Vals xs us->Vals ys us->xs=ys
 | _,_,_,.nil,.nil=>rfl
 | _,_,_,.cons r t,.cons r' t'=>by rw[r.inj r',Vals.inj t t']
section
variable{X:Cx}{J:Kg (Kn×LJ)}{Y:St}{H:Hp}{s:Km}{a:Kn}{xs ys:Kg V}
def SqL.of {K:Kr}(h:H a=bt (.lst xs)):SqL K H a xs:=.inl (.inl h)
def SqT.of {K:Kr}(h:H a=bt (.tup xs)):SqT K H a xs:=.inl (.inl h)
def Inv.list (I:Inv X J Y H s)(h:SqL X.K H a xs):∃its:Kg Ki,Vals xs its/\PlainL s.heap a its.toArray/\xs.length<=sizeLine:=by
 rcases h with h|⟨o,its,n,hk,hc,hd,hs,hz,r⟩
 ·obtain⟨z,its,n,r,e⟩:=h.ok I.hok;exact#[its,r,#[_,n,e,rfl,rfl,rfl],z]
 ·show#[its.toList,r,#[o,n,I.kIn a o hk,hc,hd,by simpa using hs],?_]
  have e:=r.length;simp only[K3]at e;omega
def Inv.tuple (I:Inv X J Y H s)(h:SqT X.K H a xs):∃its:Kg Ki,Vals xs its/\Si s.heap a its.toArray/\xs.length<=sizeLine:=by
 rcases h with h|⟨o,its,n,hk,hc,hd,hs,hz,r⟩
 ·obtain⟨z,its,r,p⟩:=h.ok I.hok;exact#[its,r,p,z.1]
 ·show#[its.toList,r,#[o,I.kIn a o hk,hc,n,by simpa using hs],?_]
  have e:=r.length;simp only[K3]at e;omega
def Inv.list_inj (I:Inv X J Y H s)(h:SqL X.K H a xs)(h':SqL X.K H a ys):xs=ys:=by
 obtain⟨its,r,⟨o,n,e,_,_,d⟩,_⟩:=I.list h;obtain⟨its',r',⟨o',n',e',_,_,d'⟩,_⟩:=I.list h';rw[e]at e'; cases e'
 rw[d]at d';injection d' with d1 _
 have:its=its':=by simpa using congrArg So d1
 subst this;exact r.inj r'
def Inv.tuple_inj (I:Inv X J Y H s)(h:SqT X.K H a xs)(h':SqT X.K H a ys):xs=ys:=by
 obtain⟨its,r,⟨o,e,_,n,d⟩,_⟩:=I.tuple h;obtain⟨its',r',⟨o',e',_,n',d'⟩,_⟩:=I.tuple h';rw[e]at e'; cases e'
 rw[d]at d';injection d' with d1 _
 have:its=its':=by simpa using congrArg So d1
 subst this;exact r.inj r'
end
noncomputable abbrev Cx.wish (X:Cx)(E:Ki->Km->Prop):Cx:={ X with xe:=E }
noncomputable abbrev Cx.nox (X:Cx):Cx:=X.wish λ_ _=>Lj
def Cx.Ok.wish {X:Cx}(ok:X.Ok)(E:Ki->Km->Prop):(X.wish E).Ok:=
 #[ok.mod,ok.kind,ok.glob,ok.blt,ok.above,ok.inj,ok.has,ok.cab,ok.hd,ok.frames,ok.stk,ok.exf,ok.bs,ok.bsz,ok.noex,ok.exfs,ok.funs,ok.frf]
def Cx.Ok.unwish {X:Cx}{E:Ki->Km->Prop}(ok:(X.wish E).Ok):X.Ok:=
 #[ok.mod,ok.kind,ok.glob,ok.blt,ok.above,ok.inj,ok.has,ok.cab,ok.hd,ok.frames,ok.stk,ok.exf,ok.bs,ok.bsz,ok.noex,ok.exfs,ok.funs,ok.frf]
section
variable{X:Cx}{J:Kg (Kn×LJ)}{Y:St}{H:Hp}{s:Km}{E:Ki->Km->Prop}
def Inv.wish (I:Inv X J Y H s)(E:Ki->Km->Prop):Inv (X.wish E) J Y H s:=#[I.ok.wish E,I.os,I.bare,I.base,I.loc,I.cell,I.free,I.freeC,I.pin,I.hok,I.len]
def Inv.unwish (I:Inv (X.wish E) J Y H s):Inv X J Y H s:=#[I.ok.unwish,I.os,I.bare,I.base,I.loc,I.cell,I.free,I.freeC,I.pin,I.hok,I.len]
def SP.unwish {D:Ends}{f:Tv}{s':Km}(h:SP (X.wish E) J D f s'):SP X J D f s':=by
 cases f with
 | next=>obtain⟨Y',H',I,q⟩:=h; exact#[Y',H',I.unwish,q]
 | brk=>obtain⟨Y',H',I,q⟩:=h; exact#[Y',H',I.unwish,q]
 | cont=>obtain⟨Y',H',I,q⟩:=h; exact#[Y',H',I.unwish,q]
 | ret u=>obtain⟨v,Y',H',I,r,q⟩:=h; exact#[v,Y',H',I.unwish,r,q]
def PSs.nox {st:Kg LO}{t:TS}(h:PSs X.nox st t):PSs X st t:=λJ s Y H D I hw=>
 Lf (h J s Y H D (I.wish _) hw) (λ_ _ q=>q.unwish) λ_ _ z=>Lj.elim z
end
section
variable{X:Cx}{st:LO}{aF:Kg LO}{t u:TS}{e:KC}{te:TE}{pos:L9}
abbrev uS:TS:=λD Y H=>D.nx Y H
abbrev E1 (t u:TS):TS:=λD Y H=>t { D with nx:=u D } Y H
def yE:PSs X [] uS:=λ_ _ Y H _ I h=>Oh #[Y,H,I,h]
def ju (h1:PS X st t)(h2:PSs X aF u):PSs X (st::aF) (E1 t u):=by
 intro J s Y H D I h;show QL (aK (h1 J s Y H { D with nx:=u D } I h) λf s1 q=>?_)
 cases f with
 | next=>
  obtain⟨Y',H',I',q⟩:=q;exact h2 J s1 Y' H' D I' q
 | ret v=>exact q
 | brk=>exact q
 | cont=>exact q
def gA (h1:PS X st t):PSs X [st] t:=by
 intro J s Y H D I h;show QL (aK (h1 J s Y H D I h) λf s1 q=>?_)
 cases f with
 | next=>exact Oh q
 | ret v=>exact q
 | brk=>exact q
 | cont=>exact q
abbrev B9:TS:=λD Y H=>D.bk Y H
abbrev E2:TS:=λD Y H=>D.ct Y H
def yF:PS X (.Pass pos) uS:=λ_ _ Y H _ I h=>wpAny_Pass #[Y,H,I,h]
def uT:PS X (.Break pos) B9:=λ_ _ Y H _ I h=>wpAny_Break #[Y,H,I,h]
def nz:PS X (.Continue pos) E2:=λ_ _ Y H _ I h=>wpAny_Continue #[Y,H,I,h]
def Inv.quiet {J:Kg (Kn×LJ)}{Y:St}{H:Hp}{s:Km}(I:Inv X J Y H s):interactive X.env=false:=by simp[interactive,I.ok.kind]
def Cc {x j pos pos'}:PS X (.Expr (.Constant (.str x) j pos) pos') uS:=λ_ s Y H _ I h=>wpAny_Expr (P5 (show SP X _ _ .next { s with toks:=s.toks+1 } from#[Y,H,I.tok _,h])) I.quiet
abbrev A6 (te:TE):TS:=λD Y H=>te Y H λ_ H1=>D.nx Y H1
def lZ (he:PE X e te)(hs:swapsWith e gV pos.line X.env=pure false:=by rfl):PS X (.Expr e pos) (A6 te):=by
 intro J s Y H D I h;exact wpAny_Expr_any (aK (he J s Y H _ I h) λv s1 #[x,H1,I1,r1,q1]=>#[Y,H1,I1,q1]) I.quiet hs
abbrev HR (te:TE):TS:=λD Y H=>te Y H D.rt
def Cd (he:PE X e te):PS X (.Return (bt e) pos) (HR te):=by
 intro J s Y H D I h;exact wpAny_Return_some (aK (he J s Y H _ I h) λv s1 #[x,H1,I1,r1,q1]=>#[x,Y,H1,I1,r1,q1])
abbrev E3:TS:=λD _ H=>D.rt .non H
def yG:PS X (.Return gV pos) E3:=λ_ _ Y H _ I h=>wpAny_Return_none #[.non,Y,H,I,rfl,h]
abbrev HS (c:TT)(t u:TS):TS:=λD Y H=>c Y H λb H1=>if b=true then t D Y H1 else u D Y H1
def uU {c:KC}{a b:Kg LO}{tc:TT}(hc:PT X c tc)(ha:PSs X a t)(hb:PSs X b u):PS X (.If c a b pos) (HS tc t u):=by
 intro J s Y H D I h;show wpAny_If (aK (hc J s Y H _ I h) λd s1 #[H1,I1,q1]=>?_)
 cases d with
 | true=>exact ha J s1 Y H1 D I1 q1
 | false=>exact hb J s1 Y H1 D I1 q1
end
noncomputable abbrev TG:=V->St->Hp->(St->Hp->Prop)->Prop
noncomputable abbrev Ce:=Kg V->St->Hp->(St->Hp->Prop)->Prop
abbrev PG (X:Cx)(target:KC)(t:TG):Prop:=
 ∀(J:Kg (Kn×LJ)) (s:Km) (Y:St) (H:Hp) (v:V) (u:Ki) (Q:St->Hp->Prop),Inv X J Y H s->RelV v u->t v Y H Q->
  wpAny (model X.prog X.w) X.A (assign target X.env u) (λ_ s'=>∃Y' H',Inv X J Y' H' s'/\Q Y' H') X.xe s
abbrev E4 (X:Cx)(ts:Kg KC)(t:Ce):Prop:=
 ∀(J:Kg (Kn×LJ)) (s:Km) (Y:St) (H:Hp) (vs:Kg V) (us:Kg Ki) (Q:St->Hp->Prop),Inv X J Y H s->Vals vs us->t vs Y H Q->
  wpAny (model X.prog X.w) X.A (assignInOrder ((assignEach ts X.env).map (·.2)) us) (λ_ s'=>∃Y' H',Inv X J Y' H' s'/\Q Y' H') X.xe s
noncomputable abbrev Cf:=V->V->V->Hp->(Hp->Prop)->Prop
abbrev Cg (X:Cx)(t:Cf):Prop:=
 ∀(J:Kg (Kn×LJ)) (s:Km) (Y:St) (H:Hp) (o i v:V) (ov iv u:Ki) (Q:Hp->Prop),Inv X J Y H s->RelV o ov->RelV i iv->RelV v u->t o i v H Q->
  wpAny (model X.prog X.w) X.A (setItem ov iv u) (λ_ s'=>∃H',Inv X J Y H' s'/\Q H') X.xe s
section
variable{X:Cx}{pos:L9}
abbrev E5 (i:Kt):TG:=λv Y H Q=>Q (Y.set i (bt v)) H
def qU {i:Kt}{x:Ks}(hN:X.N.Nodup)(hi:X.N[i]?=bt x)(hx:uQ X.env.scope x)(hf:X.fn x=true\/X.env.scope.names.lookup x=bt .local):PG X (.Name x pos) (E5 i):=by
 intro J s Y H v u Q I r h;exact Qi (dh I hN hi hx r (λs' I'=>#[_,H,I',h]) hf)
abbrev HU:Ce:=λvs Y H Q=>vs=[]/\Q Y H
abbrev E6 (t:TG)(u:Ce):Ce:=λvs Y H Q=>∃v r,vs=v::r/\t v Y H λY' H'=>u r Y' H' Q
def yH:E4 X [] HU:=by
 intro J s Y H vs us Q I r h;obtain⟨e,h⟩:=h;subst e;cases r;exact Qj #[Y,H,I,h]
def uV {e:KC}{es:Kg KC}{t:TG}{u:Ce}(h1:PG X e t)(h2:E4 X es u)
  (hs:(assignEach (e::es) X.env).map (·.2)=assign e X.env::(assignEach es X.env).map (·.2):=by rfl):E4 X (e::es) (E6 t u):=by
 intro J s Y H vs us Q I r h;obtain⟨v,vr,e1,h⟩:=h;subst e1;cases r with
 | cons r rr=>
  rw[hs];show Oy (aK (h1 J s Y H _ _ _ I r h) λ_ s1 #[Y1,H1,I1,q1]=>?_)
  exact h2 J s1 Y1 H1 _ _ Q I1 rr q1
abbrev HV (K:Kr)(n:Kt)(t:Ce):TG:=λv Y H Q=>∃a xs,v=.ref a/\SqT K H a xs/\xs.length=n/\t xs Y H Q
def Ch {es:Kg KC}{k:Kt}{t:Ce}{n:Kt}(hc:X.calm=true)(h:E4 X es t)
  (hn:(assignEach es X.env).length=n:=by rfl) (hst:(assignEach es X.env).findIdx? (·.1)=gV:=by rfl):PG X (.Tuple es k pos) (HV X.K n t):=by
 intro J s Y H v u Q I r hw;obtain⟨a,xs,e1,hq,hl,hw⟩:=hw;subst e1;cases r;obtain⟨its,rv,ht,hz⟩:=I.tuple hq;show assign_Tuple_tuple (I.ok.hd hc) ht (by simp[hn,<- hl,rv.length]) hst λh' hx=>?_
 have I1:Inv X J Y H { s with heap:=h' }:=I.kept (t':=s.toks) λb o e=>hx b o (KH (Ky e)) e
 exact h J _ Y H xs _ Q I1 (by simpa using rv) hw
abbrev HW (to ti:TE)(t:Cf):TG:=λv Y H Q=>to Y H λo H1=>ti Y H1 λi H2=>t o i v H2 λH3=>Q Y H3
def Ci {o i:KC}{to ti:TE}{t:Cf}(ho:PE X o to)(hi:PE X i ti)(hs:Cg X t)
  (ha:∀v,assign (.Subscript o i pos) X.env v=(do
   let ov <- holding [v] (eval o X.env)
   let iv <- holding [v,ov] (eval i X.env)
   standAt pos
   holding [v,ov,iv] (setItem ov iv v)
   release [v,ov,iv] []):=by intro _; rfl):PG X (.Subscript o i pos) (HW to ti t):=by
 intro J s Y H v u Q I r h;rw[ha];show Kh (Ly (aK (ho J s Y H _ I h) λov s1 #[x,H1,I1,r1,q1]=>?_))
 show Kh (Ly (aK (hi J s1 Y H1 _ I1 q1) λiv s2 #[y,H2,I2,r2,q2]=>?_))
 show Kh (M8 (Kh (Ly (aK (hs J s2 Y H2 x y v ov iv u _ I2 r1 r2 r q2) λ_ s3 #[H3,I3,q3]=>?_))))
 exact wpAny_release #[Y,H3,I3,q3]
abbrev HX (te:TE)(g:TG):TS:=λD Y H=>te Y H λx H1=>g x Y H1 D.nx
def uW {tg e:KC}{te:TE}{g:TG}(he:PE X e te)(hg:PG X tg g)(hs:swapsWithSole [tg] e pos.line X.env=pure false:=by rfl)(hw:swappedStores [tg] e X.env=pure gV:=by rfl)
  (h1:(assignEach [tg] X.env).map (·.2)=[assign tg X.env]:=by rfl):PS X (.Assign [tg] e pos) (HX te g):=by
 intro J s Y H D I h;show wpAny_Assign_stores (aK (he J s Y H _ I h) λv s1 #[x,H1,I1,r1,q1]=>?_) hs hw
 rw[h1];exact aK (hg J s1 Y H1 x v _ I1 r1 q1) λ_ s2 q=>q
abbrev HY (i j:Kt)(ta:TA):TS:=λD Y H=>ta Y H λvs H1=>∃v w,vs=[v,w]/\D.nx ((Y.set i (bt v)).set j (bt w)) H1
def Cj {i j:Kt}{x y:Ks}{a b:KC}{ta:TA}{px py pt:L9}{kt k2 pt2}(hc:X.calm=true)(hN:X.N.Nodup)(hi:X.N[i]?=bt x)(hj:X.N[j]?=bt y)(hij:i≠j)
  (hx:X.env.scope.names.lookup x=bt .local) (hy:X.env.scope.names.lookup y=bt .local) (ha:PA X [a,b] ta)
  (hw:swappedStores [.Tuple [.Name x px,.Name y py] kt pt] (.Tuple [a,b] k2 pt2) X.env=pure (bt [x,y]))
  (hs:swapsWithSole [.Tuple [.Name x px,.Name y py] kt pt] (.Tuple [a,b] k2 pt2) pos.line X.env=pure false:=by rfl) :
  PS X (.Assign [.Tuple [.Name x px,.Name y py] kt pt] (.Tuple [a,b] k2 pt2) pos) (HY i j ta):=by
 intro J s Y H D I h;rw[exec_Assign_arm];show Kh (M8 ?_);rw[hs];show Kh (Kq ?_);rw[KY #v[]]
 show Kh (Tuple_ (aK (ha _ J s Y H _ I h) λus s1 #[vs,H1,I1,r1,q1]=>?_))
 obtain⟨v,w,e1,q1⟩:=q1;subst e1;obtain⟨u1,u2,rfl,rv,rw'⟩ : ∃u1 u2,us=[u1,u2]/\RelV v u1/\RelV w u2:=by
  cases r1 with
  | cons p q=>
   cases q with
   | cons p' q'=>
    cases q';exact#[_,_,rfl,p,p']
 show Lg ?_ (by change 2<=sizeLine; decide)
 have I2:Inv X J Y H1 { s1 with heap:=s1.heap.push { cls:=.type "tuple",data:=.seq [u1,u2].toArray } }:=I1.kept (t':=s1.toks) λb o e=>Kl _ e
 rw[hw];show Kh (Kq ?_);change wpAny (model X.prog X.w) X.A (do rule "assign.swapped-stores"; let items <- unpackItems (.ref s1.heap.objs.size) 2 gV; assignInOrder [λv=>bindName X.env y v,λv=>bindName X.env x v] items.reverse; pure Tx) _ _ _
 show Kh (Nn (Kh (unpackItems_tuple (items:=[u1,u2].toArray) (I.ok.hd hc) (QM s1.heap _) λh' hx'=>?_)))
 have I3:=I2.kept (h':=h') (t':=s1.toks) λb o e=>hx' b o (KH (Ky e)) e
 change wpAny _ _ (assignInOrder [λv=>bindName X.env y v,λv=>bindName X.env x v] [u2,u1] >>= λ_=>pure Tx) _ _ _
 show Kh (Oy (Rv (dh I3 hN hj (.inl hy) rw' (λs2 I4=>?_) (.inr hy))))
 show Oy (Rv (dh I4 hN hi (.inl hx) rv (λs3 I5=>Qj (Kq ?_)) (.inr hx)))
 rw[List.set_comm _ _ (Ne.symm hij)]at I5;exact#[_,H1,I5,q1]
abbrev Ck (c:TT)(tb:TS):TS:=λD Y H=>∃W:Kt->St->Hp->Prop,(∃m,W m Y H)/\∀m Y H,W m Y H->
 c Y H λb H1=>if b=true then ∃N:St->Hp->Prop,(∀Y' H',N Y' H'->∃m',m' < m/\W m' Y' H')/\tb { D with nx:=N,ct:=N,bk:=D.nx } Y H1 else D.nx Y H1
def uX {c:KC}{body:Kg LO}{tc:TT}{tb:TS}(hp:Ob (model X.prog X.w) X.A X.env X.xe)(hc:PT X c tc)(hb:PSs X body tb):PS X (.While c body [] pos) (Ck tc tb):=by
 intro J s Y H D I h;obtain⟨W,⟨m0,w0⟩,turn⟩:=h;show wpAny_While (codeAny_whileLoop (λn s'=>∃Y' H',Inv X J Y' H' s'/\W n Y' H') ?_ m0 #[Y,H,I,w0])
 rintro n s1 ⟨Y1,H1,I1,w1⟩;show MY hp (aK (hc J s1 Y1 H1 _ I1 (turn n Y1 H1 w1)) λb s2 #[H2,I2,q2]=>?_)
 cases b with
 | true=>
  obtain⟨N,hN,q2⟩:=q2;rw[KQ rfl];show MY hp (aK (hb J s2 Y1 H2 _ I2 q2) λf s3 q3=>?_)
  cases f with
  | next=>
   obtain⟨Y3,H3,I3,n3⟩:=q3;obtain⟨m',hm,w3⟩:=hN Y3 H3 n3;exact#[m',hm,Y3,H3,I3,w3]
  | cont=>
   obtain⟨Y3,H3,I3,n3⟩:=q3;obtain⟨m',hm,w3⟩:=hN Y3 H3 n3;exact#[m',hm,Y3,H3,I3,w3]
  | brk=>exact q3
  | ret v=>exact q3
 | false=>
  rw[KY KL];exact Oh #[Y1,H2,I2,q2]
end
structure It where
 go:Kt->Hp->Prop
 yld:Kt->Hp->V->Hp->Prop
 stop:Kt->Hp->Prop
abbrev fZ (X:Cx)(J:Kg (Kn×LJ))(H:Hp)(b:Kn):Prop:=
 H b=gV/\b≠X.env.locals/\b∉X.fs/\(b∈X.ex\/X.s₀.heap.objs.size<=b)/\(∀x c,X.env.cells.lookup x=bt c->c≠b)/\∀p∈X.pn++J,p.1≠b
def Inv.fpOk {X:Cx}{J:Kg (Kn×LJ)}{Y:St}{H H':Hp}{s:Km}{b:Kn}(I:Inv X J Y H s)(hb:s.heap.objs.size<=b)(hn:H' b=gV):fZ X J H' b:=by
 show#[hn,K9 (KI I.lt hb),I.nofs hb,.inr (KJ I.sz hb),λx c e z=>?_,λp hp z=>?_]
 ·obtain⟨v,q⟩:=I.cell x c e;exact absurd (KI q.lt (by rw[z]; exact hb)) (LP _)
 ·exact absurd (KI (Ky (I.pin p hp).1) (by rw[z]; exact hb)) (LP _)
structure Turn (P:KF)(w:KS)(K:Kr)(tg:KC)(tx:It)(fp:Kg Kn)(it:Kn)(tn:Kt->K7->Prop):Prop where
 mem:it∈fp
 obj:∀i h,tn i h->∀b∈fp,∃o,h.get? b=bt o/\∀v,o.data≠.cell v
 keep:∀i h h',tn i h->(∀b∈fp,∀o,h.get? b=bt o->h'.get? b=bt o)->tn i h'
 item:∀(X:Cx),X.prog=P->X.w=w->X.K=K->X.calm=true->∀(i:Kt) (J:Kg (Kn×LJ)) (s:Km) (Y:St) (H:Hp) (E:Ki->Km->Prop),Inv X J Y H s->(∀b∈fp,fZ X J H b)->tn i s.heap->tx.go i H->
  wpAny (model P w) X.A (pyNext (.ref it)) (λr s1=>∃u,r=bt u/\
   wpAny (model P w) X.A (letOwnedTupleGo tg (.ref it) u) (λ_ s2=>∃x H',Inv X J Y H' s2/\RelV x u/\tx.yld i H x H'/\tn (i+1) s2.heap/\∀b∈fp,H' b=gV) E s1) E s
 done:∀(X:Cx),X.prog=P->X.w=w->X.K=K->X.calm=true->∀(i:Kt) (J:Kg (Kn×LJ)) (s:Km) (Y:St) (H:Hp) (E:Ki->Km->Prop),Inv X J Y H s->(∀b∈fp,fZ X J H b)->tn i s.heap->tx.stop i H->
  wpAny (model P w) X.A (pyNext (.ref it)) (λr s1=>r=gV/\Inv X J Y H s1) E s
 self:∀(A:K1) (i:Kt) (s:Km) (Q:Ki->Km->Prop) (E:Ki->Km->Prop),tn i s.heap->Q (.ref it) s->wpAny (model P w) A (pyIter (.ref it)) Q E s
noncomputable abbrev TI:=St->Hp->(It->Hp->Prop)->Prop
abbrev E7 (X:Cx)(J:Kg (Kn×LJ))(Y:St)(tg:KC)(R:It->Hp->Prop)(itv:Ki)(s2:Km):Prop:=
 ∃(it:Kn) (fp:Kg Kn) (tn:Kt->K7->Prop) (tx:It) (H':Hp),itv=.ref it/\Inv X J Y H' s2/\Turn X.prog X.w X.K tg tx fp it tn/\tn 0 s2.heap/\(∀b∈fp,fZ X J H' b)/\R tx H'
abbrev PI (X:Cx)(tg iter:KC)(wi:TI):Prop:=
 ∀(J:Kg (Kn×LJ)) (s:Km) (Y:St) (H:Hp) (R:It->Hp->Prop),Inv X J Y H s->wi Y H R->
  wpAny (model X.prog X.w) X.A (eval iter X.env) (λv s1=>wpAny (model X.prog X.w) X.A (pyIter v) (E7 X J Y tg R) X.xe s1) X.xe s
def qV {Mqa:ON}{A:K1}{E:Ki->Km->Prop}{s:Km}{tg:KC}{it:Kn}{u:Ki}{o:LJ}{n:LR}{vs:Ls Ki}{Q:Ra->Km->Prop}(ho:s.heap.get? it=bt o)(hc:o.cls=.type n)(hd:o.data=.fields vs)
    (hn:["enumerate","zip","dict_itemiterator","dict_reverseitemiterator","odict_iterator","itertools.zip_longest","itertools.pairwise"].contains n=false) (hQ:Q () s):wpAny Mqa A (letOwnedTupleGo tg (.ref it) u) Q E s:=by
  unfold letOwnedTupleGo;cases tg <;> first
    | exact Kq hQ
    | (cases u <;> first
        | exact Kq hQ
        | (show Kh (Rx ho ?_)
           rw[hc,hd];change wpAny Mqa A (if (["enumerate","zip","dict_itemiterator","dict_reverseitemiterator","odict_iterator","itertools.zip_longest","itertools.pairwise"].contains n&&vs[0]?==bt (rawInt _))=true then _ else _) Q E s
           rw[KY (by intro h; rw[hn,NA]at h; cases h)]
           exact Kq hQ))
abbrev HZ (K:Kr)(a:Kn):It:=
 #[λi H=>∃xs x,SqL K H a xs/\xs[i]?=bt x,λi H x H'=>H'=H/\∀xs,SqL K H a xs->xs[i]?=bt x,λi H=>∃xs,SqL K H a xs/\xs.length<=i]
abbrev Ic (K:Kr)(a:Kn):It:=
 #[λi H=>∃xs x,SqT K H a xs/\xs[i]?=bt x,λi H x H'=>H'=H/\∀xs,SqT K H a xs->xs[i]?=bt x,λi H=>∃xs,SqT K H a xs/\xs.length<=i]
abbrev E8 (lo:KD)(n:Kt):It:=#[λi _=>i < n,λi H x H'=>H'=H/\x=.int (lo+i),λi _=>n<=i]
def sN {P:KF}{w:KS}{K:Kr}{tg:KC}(a it:Kn):Turn P w K tg (HZ K a) [it] it (λi h=>h.IsListIter it a i) where
 mem:=by simp
 obj:=λi h st b hb=>by
  have e:b=it:=by simpa using hb
  subst e;obtain⟨o,e,c,d⟩:=st;exact#[o,e,λv z=>by rw[d]at z; cases z]
 keep:=λi h h' st k=>st.at λo e=>k it (by simp) o e
 item:=by
  intro X hP hw hK hc i J s Y H E I hf st hg;subst hP hw hK;obtain⟨xs,x,hq,hx⟩:=hg;obtain⟨its,rv,p,hz⟩:=I.list hq;obtain⟨u,hu,ru⟩:=rv.get hx;obtain⟨f0,f1,f2,f3,f4,f5⟩:=hf it (by simp)
  show wpAny_pyNext_list_item st p.isList (x:=u) (by simpa using hu) λh' st' sb=>?_
  have I1:Inv X J Y H { s with heap:=h' }:=I.turned (t':=s.toks) (λb o hb e=>(sb.2 b hb).trans e) f0 f1 f3 f4 f5
  obtain⟨o,e,c,d⟩:=id st';exact#[u,rfl,qV (s:={ s with heap:=h' }) e c d #v[] #[x,H,I1,ru,#[rfl,λys hy=>by rw[I.list_inj hy hq]; exact hx],st',λb hb=>(hf b hb).1]]
 done:=by
  intro X hP hw hK hc i J s Y H E I hf st hg;subst hP hw hK;obtain⟨xs,hq,hx⟩:=hg;obtain⟨its,rv,p,hz⟩:=I.list hq;obtain⟨f0,f1,f2,f3,f4,f5⟩:=hf it (by simp)
  have hl:=rv.length;exact wpAny_pyNext_list_end (I.ok.hd hc) st p.isList (by simp; omega) λh' eb=>#[rfl,I.turned (t':=s.toks) (λb o hb e=>eb b o hb e) f0 f1 f3 f4 f5]
 self:=λ_ _ _ _ _ st h=>wpAny_pyIter_listiter st h
def pA {P:KF}{w:KS}{K:Kr}{tg:KC}(a it:Kn):Turn P w K tg (Ic K a) [it] it (λi h=>h.IsTupleIter it a i) where
 mem:=by simp
 obj:=λi h st b hb=>by
  have e:b=it:=by simpa using hb
  subst e;obtain⟨o,e,c,d⟩:=st;exact#[o,e,λv z=>by rw[d]at z; cases z]
 keep:=λi h h' st k=>st.at λo e=>k it (by simp) o e
 item:=by
  intro X hP hw hK hc i J s Y H E I hf st hg;subst hP hw hK;obtain⟨xs,x,hq,hx⟩:=hg;obtain⟨its,rv,p,hz⟩:=I.tuple hq;obtain⟨u,hu,ru⟩:=rv.get hx;obtain⟨f0,f1,f2,f3,f4,f5⟩:=hf it (by simp)
  show wpAny_pyNext_tuple_item st (show s.heap.IsTuple a its.toArray from p) (x:=u) (by simpa using hu) λh' st' sb=>?_
  have I1:Inv X J Y H { s with heap:=h' }:=I.turned (t':=s.toks) (λb o hb e=>(sb.2 b hb).trans e) f0 f1 f3 f4 f5
  obtain⟨o,e,c,d⟩:=id st';exact#[u,rfl,qV (s:={ s with heap:=h' }) e c d #v[] #[x,H,I1,ru,#[rfl,λys hy=>by rw[I.tuple_inj hy hq]; exact hx],st',λb hb=>(hf b hb).1]]
 done:=by
  intro X hP hw hK hc i J s Y H E I hf st hg;subst hP hw hK;obtain⟨xs,hq,hx⟩:=hg;obtain⟨its,rv,p,hz⟩:=I.tuple hq;obtain⟨f0,f1,f2,f3,f4,f5⟩:=hf it (by simp)
  have hl:=rv.length;exact wpAny_pyNext_tuple_end (I.ok.hd hc) st (show s.heap.IsTuple a its.toArray from p) (by simp; omega) λh' eb=>#[rfl,I.turned (t':=s.toks) (λb o hb e=>eb b o hb e) f0 f1 f3 f4 f5]
 self:=λ_ _ _ _ _ st h=>wpAny_pyIter_tupleiter st h
def pB {P:KF}{w:KS}{K:Kr}{tg:KC}(it:Kn)(lo:KD)(n:Kt):Turn P w K tg (E8 lo n) [it] it (λi h=>SE h it (lo+(i:Kt)*1) ((n:KD) - (i:Kt)) 1) where
 mem:=by simp
 obj:=λi h st b hb=>by
  have e:b=it:=by simpa using hb
  subst e;exact#[_,st,λv z=>by
   have z':Data.fields _=Data.cell v:=z;cases z']
 keep:=λi h h' st k=>k it (by simp) _ st
 item:=by
  intro X hP hw hK hc i J s Y H E I hf st hg;subst hP hw hK;obtain⟨f0,f1,f2,f3,f4,f5⟩:=hf it (by simp)
  have W:=Walks.range (prog:=X.prog) (w:=X.w) (I.ok.hd hc) it lo 1 n;show W.item i s _ _ hg st λv h' tk hv st' kk=>?_
  obtain⟨t,rfl⟩:=hv;have I1:Inv X J Y H { s with heap:=h',toks:=tk }:=I.turned (λb o hb e=>kk b o (by simpa using hb) e) f0 f1 f3 f4 f5
  show#[_,rfl,qV (s:={ s with heap:=h',toks:=tk }) (n:="range_iterator") st' rfl rfl #v[] #[.int (lo+i),H,I1,#[t,?_],#[rfl,rfl],st',λb hb=>(hf b hb).1]]
  rw[Int.mul_one]
 done:=by
  intro X hP hw hK hc i J s Y H E I hf st hg;subst hP hw hK;obtain⟨f0,f1,f2,f3,f4,f5⟩:=hf it (by simp)
  exact wpAny_pyNext_range_end (I.ok.hd hc) st (by have:n<=i:=hg; omega) λh' eb=>#[rfl,I.turned (t':=s.toks) (λb o hb e=>eb b o hb e) f0 f1 f3 f4 f5]
 self:=λ_ _ _ _ _ st h=>wpAny_pyIter_rangeiter st h
section
variable{X:Cx}{tg:KC}
def nA {J:Kg (Kn×LJ)}{Y:St}{H:Hp}{s:Km}{R:It->Hp->Prop}{E:Ki->Km->Prop}{lo hi:KD}{t u v:Sl}{tk:Kt}(I:Inv X J Y H s)(h1 : -(2 ^ 62)<=lo)(h2:lo < 2 ^ 62)(h3 : -(2 ^ 62)<=hi)(h4:hi < 2 ^ 62)
  (q:R (E8 lo (hi - lo).toNat) H):wpAny (model X.prog X.w) X.A (pyIter (.ref s.heap.objs.size)) (E7 X J Y tg R) E { s with heap:=s.heap.push { cls:=.type "range",data:=.fields [.int lo t,.int hi u,.int 1 v].toArray },toks:=tk }:=by
 show wpAny_pyIter_range (IsRange.new ..) (Sj h1 h2 h3 h4) ?_;have I1:Inv X J Y H { s with heap:=s.heap.push { cls:=.type "range",data:=.fields [.int lo t,.int hi u,.int 1 v].toArray },toks:=tk }:=I.kept λb o e=>Kl _ e
 show#[(s.heap.push { cls:=.type "range",data:=.fields [.int lo t,.int hi u,.int 1 v].toArray }).objs.size,[(s.heap.push { cls:=.type "range",data:=.fields [.int lo t,.int hi u,.int 1 v].toArray }).objs.size],_,_,H,rfl,
  I1.kept (t':=tk) λb o e=>Kl _ e,pB _ lo (hi - lo).toNat,?_,λb hb=>?_,q]
 ·have e1:lo+((0:Kt):KD)*1=lo:=by simp
  have e2:(((hi - lo).toNat:Kt):KD) - ((0:Kt):KD)=Mj lo hi 1:=by rw[PR]; split <;> omega
  change SE _ _ (lo+((0:Kt):KD)*1) ((((hi - lo).toNat:Kt):KD) - ((0:Kt):KD)) 1;rw[e1,e2];exact KA _ rfl
 ·have e:b=(s.heap.push { cls:=.type "range",data:=.fields [.int lo t,.int hi u,.int 1 v].toArray }).objs.size:=by simpa using hb
  subst e;exact I1.fpOk (Kz _) (I1.hok.fresh (Kz _))
abbrev E9 (ta:TA):TI:=λY H R=>ta Y H λvs H1=>∃j:KD,vs=[.int j]/\-(2 ^ 62)<=j/\j < 2 ^ 62/\R (E8 0 j.toNat) H1
abbrev iRng2 (ta:TA):TI:=λY H R=>ta Y H λvs H1=>∃i j:KD,vs=[.int i,.int j]/\(-(2 ^ 62)<=i/\i < 2 ^ 62/\-(2 ^ 62)<=j/\j < 2 ^ 62)/\R (E8 i (j - i).toNat) H1
def sO {a:KC}{ta:TA}{p pos:L9}(hg:Gl X "range")(hm:X.mg "range" = gV)(ha:PA X [a] ta)(hs:starEach [a] X.env=[(false,eval a X.env)]:=by rfl):PI X tg (.Call (.Name "range" p) [a] [] pos) (E9 ta):=by
 intro J s Y H R I h;show TJ (fY I hg hm boot_range (Mk (aK (ha pos J s Y H _ I h) λus s1 #[vs,H1,I1,r1,q1]=>?_) hs rfl))
 obtain⟨j,e,q1,q2,q⟩:=q1;subst e;cases r1 with
 | cons r rr=>
  cases rr;obtain⟨t,rfl⟩:=r;exact Sq (nA I1 ∅ ∅ q1 q2 (by simpa using q))
def sP {a b:KC}{ta:TA}{p pos:L9}(hg:Gl X "range")(hm:X.mg "range" = gV)(ha:PA X [a,b] ta)(hs:starEach [a,b] X.env=[(false,eval a X.env),(false,eval b X.env)]:=by rfl)(hs2:starEach [b] X.env=[(false,eval b X.env)]:=by rfl) :
  PI X tg (.Call (.Name "range" p) [a,b] [] pos) (iRng2 ta):=by
 intro J s Y H R I h;show TJ (fY I hg hm boot_range (Mk (aK (ha pos J s Y H _ I h) λus s1 #[vs,H1,I1,r1,q1]=>?_) (by rw[hs,hs2]) (by rw[hs2]; rfl)))
 obtain⟨i,j,e,⟨q1,q2,q3,q4⟩,q⟩:=q1;subst e;cases r1 with
 | cons r rr=>
  cases rr with
  | cons r' rr=>
   cases rr;obtain⟨t,rfl⟩:=r;obtain⟨t',rfl⟩:=r';exact call_range_2 (nA I1 q1 q2 q3 q4 q)
abbrev Ig (wi:TI)(g:TG)(tb:TS):TS:=λD Y H=>wi Y H λtx H1=>∃W:Kt->Kt->St->Hp->Prop,(∃m,W 0 m Y H1)/\∀i m Y H,W i m Y H->
 (tx.stop i H/\D.nx Y H)\/(tx.go i H/\∃N:St->Hp->Prop,(∀Y' H',N Y' H'->∃m',m' < m/\W (i+1) m' Y' H')/\∀x H',tx.yld i H x H'->g x Y H' λY2 H2=>tb { D with nx:=N,ct:=N,bk:=D.nx } Y2 H2)
abbrev ie (fp:Kg Kn)(h:K7):Kg (Kn×LJ):=fp.filterMap λb=>(h.get? b).map λo=>(b,o)
def dG {fp:Kg Kn}{h:K7}{b:Kn}{o:LJ}(hb:b∈fp)(e:h.get? b=bt o):(b,o)∈ie fp h:=P6.mpr #[b,hb,by rw[e]; rfl]
def sQ {fp:Kg Kn}{h:K7}{p:Kn×LJ}(hp:p∈ie fp h):p.1∈fp/\h.get? p.1=bt p.2:=by
 obtain⟨b,hb,e⟩:=P6.mp hp;cases q:h.get? b with
 | none=>rw[q]at e; cases e
 | some o=>
  rw[q]at e;have e':(b,o)=p:=Mr e;subst e';exact#[hb,q]
def Inv.pinned {J:Kg (Kn×LJ)}{Y:St}{H:Hp}{s:Km}{fp:Kg Kn}(I:Inv X J Y H s)(hf:∀b∈fp,fZ X J H b)(ho:∀b∈fp,∃o,s.heap.get? b=bt o/\∀v,o.data≠.cell v):Inv X (J++ie fp s.heap) Y H s:=
 I.pins_of λp hp=>(Lb.mp hp).elim (λz=>I.pin p (KW _ z)) λz=>by
  obtain⟨hb,e⟩:=sQ z;obtain⟨f0,f1,f2,_⟩:=hf p.1 hb;obtain⟨o,e',d⟩:=ho p.1 hb;rw[e]at e'; cases e'
  exact#[e,f0,f1,f2,d]
def Inv.unpinned {J pl:Kg (Kn×LJ)}{Y:St}{H:Hp}{s:Km}(I:Inv X (J++pl) Y H s):Inv X J Y H s:=I.pins_of λp hp=>I.pin p (KW _ (LZ _ hp))
def uY {iter:KC}{body:Kg LO}{wi:TI}{g:TG}{tb:TS}{pos:L9}(hp:Ob (model X.prog X.w) X.A X.env X.xe)(hc:X.calm=true)(hi:PI X tg iter wi)(hg:PG X tg g)(hb:PSs X body tb)
  (hs:∀x,foldedSetIterable iter X.env x=pure x:=by intro _; rfl):PS X (.For tg iter body [] pos) (Ig wi g tb):=by
 intro J s Y H D I h;show wpAny_For (aK (hi J s Y H _ I h) λv s1 h1=>aK h1 λitv s2 h2=>?_) hs
 obtain⟨it,fp,tn,tx,H2,e,I2,T,bh,f2,W,⟨m0,w0⟩,turn⟩:=h2;subst e;have stat:∀ {H':Hp},(∀b∈fp,H' b=gV)->∀b∈fp,fZ X J H' b:=λhn b hb=>#[hn b hb,(f2 b hb).2]
 show codeAny_forLoop_any (λn s'=>∃i Y' H',Inv X J Y' H' s'/\tn i s'.heap/\(∀b∈fp,H' b=gV)/\W i n Y' H') ?_ m0 #[0,Y,H2,I2,bh,λb hb=>(f2 b hb).1,w0]
 rintro n s3 ⟨i,Y3,H3,I3,st3,fr3,w3⟩;rcases turn i n Y3 H3 w3 with⟨stop,qn⟩|⟨go,N,hN,step⟩
 ·show MY hp (aK (T.done X rfl rfl rfl hc i J s3 Y3 H3 X.xe I3 (stat fr3) st3 stop) λr s4 #[hr,I4]=>?_)
  subst hr;exact Oh #[Y3,H3,I4,qn]
 ·show MY hp (aK (T.item X rfl rfl rfl hc i J s3 Y3 H3 X.xe I3 (stat fr3) st3 go) λr s4 #[u,hr,h4]=>?_)
  subst hr;show MY hp (aK h4 λ_ s5 #[x,H5,I5,r5,y5,st5,fr5]=>?_)
  have I5':=I5.pinned (stat fr5) (T.obj _ _ st5);show MY hp (aK (hg _ s5 Y3 H5 x u _ I5' r5 (step x H5 y5)) λ_ s6 #[Y6,H6,I6,q6]=>?_)
  show MY hp (aK (hb _ s6 Y6 H6 _ I6 q6) λf s7 q7=>?_)
  have again:∀ {Y7:St} {H7:Hp},Inv X (J++ie fp s5.heap) Y7 H7 s7->N Y7 H7->∃m,m < n/\∃i Y' H',Inv X J Y' H' s7/\tn i s7.heap/\(∀b∈fp,H' b=gV)/\W i m Y' H':=λ{Y7 H7} I7 n7=>by
   obtain⟨m',hm,w7⟩:=hN Y7 H7 n7;show#[m',hm,i+1,Y7,H7,I7.unpinned,T.keep _ _ _ st5 λb hb o e=>(I7.pin (b,o) (KW _ (KW _ (dG hb e)))).1,λb hb=>?_,w7]
   obtain⟨o,e,d⟩:=T.obj _ _ st5 b hb;exact(I7.pin (b,o) (KW _ (KW _ (dG hb e)))).2.1
  cases f with
  | next=>obtain⟨Y7,H7,I7,n7⟩:=q7; exact again I7 n7
  | cont=>obtain⟨Y7,H7,I7,n7⟩:=q7; exact again I7 n7
  | brk=>obtain⟨Y7,H7,I7,q7⟩:=q7; exact#[Y7,H7,I7.unpinned,q7]
  | ret v=>obtain⟨x7,Y7,H7,I7,r7,q7⟩:=q7; exact#[x7,Y7,H7,I7.unpinned,r7,q7]
end
noncomputable abbrev R2:=V->V->Hp->VK->Prop
abbrev OpR (X:Cx)(f:Ki->Ki->R1 Ki)(r:R2):Prop:=
 ∀(J:Kg (Kn×LJ)) (s:Km) (Y:St) (H:Hp) (x y:V) (v u:Ki) (Q:VK),Inv X J Y H s->RelV x v->RelV y u->r x y H Q->
  wpAny (model X.prog X.w) X.A (f v u) (EP X J Y Q) X.xe s
abbrev Ih (X:Cx)(f:Ki->R1 Ki)(r:V->Hp->VK->Prop):Prop:=
 ∀(J:Kg (Kn×LJ)) (s:Km) (Y:St) (H:Hp) (x:V) (v:Ki) (Q:VK),Inv X J Y H s->RelV x v->r x H Q->
  wpAny (model X.prog X.w) X.A (f v) (EP X J Y Q) X.xe s
abbrev CallR (X:Cx)(f:Ki)(r:Kg V->Hp->VK->Prop):Prop:=
 ∀(J:Kg (Kn×LJ)) (s:Km) (Y:St) (H:Hp) (xs:Kg V) (us:Kg Ki) (Q:VK),Inv X J Y H s->Vals xs us->r xs H Q->
  wpAny (model X.prog X.w) X.A (call f us) (EP X J Y Q) X.xe s
abbrev Ii (X:Cx)(r:V->Hp->(KR->Hp->Prop)->Prop):Prop:=
 ∀(J:Kg (Kn×LJ)) (s:Km) (Y:St) (H:Hp) (x:V) (v:Ki) (Q:KR->Hp->Prop),Inv X J Y H s->RelV x v->r x H Q->
  wpAny (model X.prog X.w) X.A (truthy v) (TP X J Y Q) X.xe s
abbrev Hy (r:R2)(ta tb:TE):TE:=λY H Q=>ta Y H λx H1=>tb Y H1 λy H2=>r x y H2 Q
abbrev JN (r:V->Hp->VK->Prop)(ta:TE):TE:=λY H Q=>ta Y H λx H1=>r x H1 Q
abbrev rI (C:KD->KD->Prop)(g:KD->KD->V):R2:=λx y H Q=>∃i j,x=.int i/\y=.int j/\C i j/\Q (g i j) H
abbrev A7 (g:KD->KD->V):R2:=λx y H Q=>∃i j,x=.int i/\y=.int j/\Q (g i j) H
abbrev rU (g:KD->V):V->Hp->VK->Prop:=λx H Q=>∃i,x=.int i/\Q (g i) H
section
variable{X:Cx}{a b c:KC}{ta tb tc:TE}{pos:L9}
def Cm (ha:PE X a ta)(hb:PE X b tb){J:Kg (Kn×LJ)}{s:Km}{Y:St}{H:Hp}{R:V->V->Hp->Prop}(I:Inv X J Y H s)
  (h:ta Y H λx H1=>tb Y H1 λy H2=>R x y H2) {Q:Ki->Km->Prop} {f:Ki->Ki->R1 Ki}
  (hf:∀v u s2 x y H2,Inv X J Y H2 s2->RelV x v->RelV y u->R x y H2->wpAny (model X.prog X.w) X.A (f v u) Q X.xe s2) :
  wpAny (model X.prog X.w) X.A (eval a X.env) (λv s₁=>wpAny (model X.prog X.w) X.A (eval b X.env) (λu s₂=>wpAny (model X.prog X.w) X.A (f v u) Q X.xe s₂) X.xe s₁) X.xe s:=by
 show aK (ha J s Y H _ I h) λv s1 #[x,H1,I1,r1,q1]=>?_
 show aK (hb J s1 Y H1 _ I1 q1) λu s2 #[y,H2,I2,r2,q2]=>?_
 exact hf v u s2 x y H2 I2 r1 r2 q2
def Fa {op:Qk}{r:R2}(ho:OpR X (binaryOp op) r)(ha:PE X a ta)(hb:PE X b tb):PE X (.BinOp a op b pos) (Hy r ta tb):=by
 intro J s Y H Q I h;exact wpAny_BinOp (Cm ha hb I h λv u s2 x y H2 I2 rx ry q=>ho J s2 Y H2 x y v u Q I2 rx ry q)
def Fb {op:UnaryOp}{r:V->Hp->VK->Prop}(ho:Ih X (unaryOp op) r)(ha:PE X a ta):PE X (.UnaryOp op a pos) (JN r ta):=by
 intro J s Y H Q I h;exact UnaryOp_ (aK (ha J s Y H _ I h) λv s1 #[x,H1,I1,r1,q1]=>ho J s1 Y H1 x v Q I1 r1 q1)
def Hz {f:Ki->Ki->R1 Ki}{C:KD->KD->Prop}{g:KD->KD->KD}
  (rule:∀(i j:KD) (t u:Sl) (s:Km) (Q:Ki->Km->Prop) (E:Ki->Km->Prop),C i j->Q (.int (g i j) s.toks) { s with toks:=s.toks+1 }->wpAny (model X.prog X.w) X.A (f (.int i t) (.int j u)) Q E s) :
  OpR X f (rI C λi j=>.int (g i j)):=by
 intro J s Y H x y v u Q I rx ry h;obtain⟨i,j,rfl,rfl,hc,q⟩:=h;obtain⟨t,rfl⟩:=rx;obtain⟨t',rfl⟩:=ry;exact rule i j t t' s _ _ hc #[.int (g i j),H,I.tok _,#[_,rfl],q]
def Fc {f:Ki->Ki->R1 Ki}{g:KD->KD->KD}
  (rule:∀(i j:KD) (t u:Sl) (s:Km) (Q:Ki->Km->Prop) (E:Ki->Km->Prop),Q (.int (g i j) s.toks) { s with toks:=s.toks+1 }->wpAny (model X.prog X.w) X.A (f (.int i t) (.int j u)) Q E s) :
  OpR X f (A7 λi j=>.int (g i j)):=by
 intro J s Y H x y v u Q I rx ry h;obtain⟨i,j,rfl,rfl,q⟩:=h;obtain⟨t,rfl⟩:=rx;obtain⟨t',rfl⟩:=ry;exact rule i j t t' s _ _ #[.int (g i j),H,I.tok _,#[_,rfl],q]
def yI {f:Ki->Ki->R1 Ki}{g:KD->KD->KR}
  (rule:∀(i j:KD) (t u:Sl) (s:Km) (Q:Ki->Km->Prop) (E:Ki->Km->Prop),Q (.bool (g i j)) s->wpAny (model X.prog X.w) X.A (f (.int i t) (.int j u)) Q E s) :
  OpR X f (A7 λi j=>.bl (g i j)):=by
 intro J s Y H x y v u Q I rx ry h;obtain⟨i,j,rfl,rfl,q⟩:=h;obtain⟨t,rfl⟩:=rx;obtain⟨t',rfl⟩:=ry;exact rule i j t t' s _ _ #[.bl (g i j),H,I,rfl,q]
abbrev Ij (i j:KD):Prop:=0 < j/\j < 1073741824
abbrev Ik (i j:KD):Prop:=0<=j/\j<=1000000/\i.natAbs < 2 ^ 64
abbrev CMul (i j:KD):Prop:=(-(2 ^ 64) < i/\i < 2 ^ 64)\/(-(2 ^ 64) < j/\j < 2 ^ 64)
def CMul.ok {i j:KD}(h:CMul i j):IntMulOk i j:=by
 rcases h with⟨h1,h2⟩|⟨h1,h2⟩
 ·exact .of_left (R3 h1 h2)
 ·exact .of_right (R3 h1 h2)
def Cn:OpR X (binaryOp .Add) (A7 λi j=>.int (i+j)):=Fc λ_ _ _ _ _ _ _ q=>add_int q
def Co:OpR X (binaryOp .Sub) (A7 λi j=>.int (i - j)):=Fc λ_ _ _ _ _ _ _ q=>sub_int q
def Cp:OpR X (binaryOp .Mult) (rI CMul λi j=>.int (i*j)):=Hz λ_ _ _ _ _ _ _ hc q=>mul_int q hc.ok
def yJ:OpR X (binaryOp .FloorDiv) (rI Ij λi j=>.int (i / j)):=Hz λi j _ _ _ _ _ hc q=>by
 have h1:(0:KD) < j:=hc.1;have h2:j < 1073741824:=hc.2;exact floordiv_int ∅ (by rw[Int.fdiv_eq_ediv_of_nonneg i ∅]; exact q) (.inl (PyProof.noPylong_small ∅))
def Cq:OpR X (binaryOp .Mod) (rI (λ_ j=>0 < j) λi j=>.int (i % j)):=Hz λi j _ _ _ _ _ hc q=>by
 have h1:(0:KD) < j:=hc;exact mod_int' ∅ (by rw[Int.fmod_eq_emod_of_nonneg i ∅]; exact q)
def Cr:OpR X (binaryOp .Pow) (rI Ik λi j=>.int (i ^ j.toNat)):=Hz λ_ _ _ _ _ _ _ hc q=>pow_int_small hc.1 hc.2.1 hc.2.2 q
def JO {f:Ki->R1 Ki}{g:KD->KD}
  (rule:∀(i:KD) (t:Sl) (s:Km) (Q:Ki->Km->Prop) (E:Ki->Km->Prop),Q (.int (g i) s.toks) { s with toks:=s.toks+1 }->wpAny (model X.prog X.w) X.A (f (.int i t)) Q E s) :
  Ih X f (rU λi=>.int (g i)):=by
 intro J s Y H x v Q I rx h;obtain⟨i,rfl,q⟩:=h;obtain⟨t,rfl⟩:=rx;exact rule i t s _ _ #[.int (g i),H,I.tok _,#[_,rfl],q]
def Cs:Ih X (unaryOp .USub) (rU λi=>.int (-i)):=JO λ_ _ _ _ _ q=>neg_int q
def pE {J:Kg (Kn×LJ)}{Y:St}{H:Hp}{s:Km}{Q:VK}{k k':KR}(I:Inv X J Y H s)(q:Q (.bl k) H)(e:k=k'):EP X J Y Q (.bool k') s:=by
 subst e;exact#[.bl k,H,I,rfl,q]
def Fd:OpR X (compareOp .Lt) (A7 λi j=>.bl (decide (i < j))):=yI λ_ _ _ _ _ _ _ q=>lt_int q
def Fe:OpR X (compareOp .LtE) (A7 λi j=>.bl (decide (i<=j))):=yI λ_ _ _ _ _ _ _ q=>le_int q
def Ff:OpR X (compareOp .Gt) (A7 λi j=>.bl (decide (j < i))):=yI λ_ _ _ _ _ _ _ q=>gt_int q
def Fg:OpR X (compareOp .GtE) (A7 λi j=>.bl (decide (j<=i))):=yI λ_ _ _ _ _ _ _ q=>ge_int q
def sR:OpR X (compareOp .In) (λx y H Q=>∃i j,x=.str i/\y=.str j/\Q (.bl (!(NT j i 0 j.length 1).isEmpty)) H):=by
 intro J s Y H x y v u Q I rx ry h;obtain⟨i,j,rfl,rfl,q⟩:=h;obtain⟨t,rfl⟩:=rx;obtain⟨t',rfl⟩:=ry;exact in_str (pE I q rfl)
def Ct:OpR X (compareOp .Is) (λx y H Q=>y=.non/\Q (.bl (decide (x=.non))) H):=by
 intro J s Y H x y v u Q I rx ry h;obtain⟨rfl,q⟩:=h;cases ry;show is_none_gen (pE I q ?_);cases x <;> first
  | (cases rx; rfl)
  | (obtain⟨t,rfl⟩:=rx; rfl)
def yK:OpR X (compareOp .IsNot) (λx y H Q=>y=.non/\Q (.bl (!decide (x=.non))) H):=by
 intro J s Y H x y v u Q I rx ry h;obtain⟨rfl,q⟩:=h;cases ry;show isnot_none_gen (pE I q ?_);cases x <;> first
  | (cases rx; rfl)
  | (obtain⟨t,rfl⟩:=rx; rfl)
def yL {op:Pa}{r:R2}(ho:OpR X (compareOp op) r)(ha:PE X a ta)(hb:PE X b tb)(hm:behindInMarks op b=false):PE X (.Compare a [op] [b] pos) (Hy r ta tb):=by
 intro J s Y H Q I h;exact Ru (Cm ha hb I h λv u s2 x y H2 I2 rx ry q=>ho J s2 Y H2 x y v u Q I2 rx ry q) hm
abbrev Ba (t:TE):TT:=λY H Q=>t Y H λx H'=>∃k,x=.bl k/\Q k H'
def qW {op:Pa}{r:R2}(ho:OpR X (compareOp op) r)(ha:PE X a ta)(hb:PE X b tb)(hm:behindInMarks op b=false):PT X (.Compare a [op] [b] pos) (Ba (Hy r ta tb)):=by
 intro J s Y H Q I h;show Pi (aK (ha J s Y H _ I h) λv s1 #[x,H1,I1,r1,q1]=>aK (hb J s1 Y H1 _ I1 q1) λu s2 #[y,H2,I2,r2,q2]=>
  aK (ho J s2 Y H2 x y v u _ I2 r1 r2 q2) λc s3 #[z,H3,I3,r3,k,e,q3]=>?_) hm
 subst e;cases r3;exact LV #[H3,I3,q3]
abbrev pG (r r':R2)(ta tb tc:TE):TE:=λY H Q=>ta Y H λx H1=>tb Y H1 λy H2=>r x y H2 λz H3=>∃k,z=.bl k/\
 (if k=true then tc Y H3 λw' H4=>r' y w' H4 Q else Q (.bl false) H3)
def uZ {op op':Pa}{r r':R2}(ho:OpR X (compareOp op) r)(ho':OpR X (compareOp op') r')(ha:PE X a ta)(hb:PE X b tb)(hc:PE X c tc)
  (hm:lastMarks [op,op'] [b,c]=false:=by with_unfolding_all rfl):PE X (.Compare a [op,op'] [b,c] pos) (pG r r' ta tb tc):=by
 intro J s Y H Q I h;show Compare_chain (aK (ha J s Y H _ I h) λv s1 #[x,H1,I1,r1,q1]=>chain_link (aK (hb J s1 Y H1 _ I1 q1) λu s2 #[y,H2,I2,r2,q2]=>
  aK (ho J s2 Y H2 x y v u _ I2 r1 r2 q2) λd s3 #[z,H3,I3,r3,k,e,q3]=>?_)) hm
 subst e;cases r3;show LV ?_;cases k with
 | false=>exact ite_ff #[.bl false,H3,I3,rfl,q3]
 | true=>exact ite_tt (chain_last (aK (hc J s3 Y H3 _ I3 q3) λw' s4 #[z',H4,I4,r4,q4]=>ho' J s4 Y H4 y z' u w' Q I4 r2 r4 q4))
def u4 {op op':Pa}{r r':R2}(ho:OpR X (compareOp op) r)(ho':OpR X (compareOp op') r')(ha:PE X a ta)(hb:PE X b tb)(hc:PE X c tc)
  (hm:lastMarks [op,op'] [b,c]=false:=by with_unfolding_all rfl):PT X (.Compare a [op,op'] [b,c] pos) (Ba (pG r r' ta tb tc)):=by
 intro J s Y H Q I h;show isTrue_chain (aK (ha J s Y H _ I h) λv s1 #[x,H1,I1,r1,q1]=>test_link (aK (hb J s1 Y H1 _ I1 q1) λu s2 #[y,H2,I2,r2,q2]=>
  aK (ho J s2 Y H2 x y v u _ I2 r1 r2 q2) λd s3 #[z,H3,I3,r3,k,e,q3]=>?_)) hm
 subst e;cases r3;show LV ?_;cases k with
 | false=>
  obtain⟨k',e',q'⟩:=q3;cases e';exact ite_ff #[H3,I3,q']
 | true=>
  show ite_tt (test_last (aK (hc J s3 Y H3 _ I3 q3) λw' s4 #[z',H4,I4,r4,q4]=>aK (ho' J s4 Y H4 y z' u w' _ I4 r2 r4 q4) λd' s5 #[z2,H5,I5,r5,k2,e2,q5]=>?_))
  subst e2;cases r5;exact LV #[H5,I5,q5]
abbrev Il (K:Kr)(x:V)(H:Hp)(k:KR):Prop:=
 match x with
 | .non=>k=false
 | .bl b=>k=b
 | .int i=>k=(i != 0)
 | .str y=>y.length<=sizeLine/\k=((y.length:KD) != 0)
 | .byt y=>y.size<=sizeLine/\k=((y.size:KD) != 0)
 | .ref p=>(∃xs,SqL K H p xs/\k = !xs.isEmpty)\/(∃xs,SqT K H p xs/\k = !xs.isEmpty)\/∃U,H p=bt (.dK U)/\k = !U.isEmpty
 | _=>Lj
def pH {κ:Type}{U:Kg (κ×V)}{vs:Kg (κ×Ki)}(r:KV U vs):(!vs.isEmpty) = !U.isEmpty:=by
 cases r <;> rfl
def jv {xs:Kg V}{its:Kg Ki}(r:Vals xs its):(!its.toArray.isEmpty) = !xs.isEmpty:=by
 cases r <;> simp
def ig:(sizeLine:Kt) < 2 ^ 63:=by rw[LF]; decide
def Cu:Ii X (λx H Q=>∃k,Il X.K x H k/\Q k H):=by
 intro J s Y H x v Q I rx h;obtain⟨k,e,q⟩:=h;have hl:=ig;have hs:sizeLine=16777216:=LF;cases x with
 | non=>
  cases rx;have e':k=false:=e;subst e';exact truthy_none #[H,I,q]
 | bl b=>
  cases rx;have e':k=b:=e;subst e';exact LV #[H,I,q]
 | int i=>
  obtain⟨t,rfl⟩:=rx;have e':k=(i != 0):=e;subst e';exact PySem.P.truthy_int #[H,I,q]
 | str y=>
  obtain⟨t,rfl⟩:=rx;obtain⟨hy,e'⟩ : y.length<=sizeLine/\k=((y.length:KD) != 0):=e;subst e';exact PySem.P.truthy_str ∅ #[H,I.tok _,q]
 | byt y=>
  obtain⟨t,rfl⟩:=rx;obtain⟨hy,e'⟩ : y.size<=sizeLine/\k=((y.size:KD) != 0):=e;subst e';exact PySem.W.truthy_bytes ∅ #[H,I.tok _,q]
 | ref p=>
  cases rx;have e':(∃xs,SqL X.K H p xs/\k = !xs.isEmpty)\/(∃xs,SqT X.K H p xs/\k = !xs.isEmpty)\/∃U,H p=bt (.dK U)/\k = !U.isEmpty:=e;rcases e' with⟨xs,hx,e'⟩|⟨xs,hx,e'⟩|⟨U,hx,e'⟩
  ·subst e';obtain⟨its,r,pl,hz⟩:=I.list hx;have hlen:=r.length;exact wpAny_truthy_list pl.isList (by simp only[KG]; omega) #[H,I.tok _,by rw[jv r]; exact q]
  ·subst e';obtain⟨its,r,pl,hz⟩:=I.tuple hx;have hlen:=r.length;exact truthy_tuple pl (by simp only[KG]; omega) #[H,I.tok _,by rw[jv r]; exact q]
  ·subst e';obtain⟨hz,hS,vs,r,m⟩ : U.length<=sizeLine/\(p==sysModules)=false/\∃vs,KV U vs/\s.heap.DictOf (bO X.prog X.w) p vs:=I.hok p _ hx;have hlen:U.length=vs.length:=PQ r;exact wpAny_truthy_dict hS m ∅ #[H,I.tok _,by rw[pH r]; exact q]
 | _=>exact(show Lj from e).elim
def pI:OpR X (binaryOp .Add) (λx y H Q=>∃i j,x=.str i/\y=.str j/\i.length+j.length<=sizeLine/\Q (.str (i++j)) H):=by
 intro J s Y H x y v u Q I rx ry h;obtain⟨i,j,rfl,rfl,hz,q⟩:=h;obtain⟨t,rfl⟩:=rx;obtain⟨t',rfl⟩:=ry;exact add_str (λt' tk=>#[.str (i++j),H,I.tok _,#[_,rfl],q]) hz
def jw {x:V}{us:Kg Ki}(r:Vals [x] us):∃u,us=[u]/\RelV x u:=by
 cases r with
 | cons r1 r2=>cases r2; exact#[_,rfl,r1]
def kY:CallR X (.type "int") (λxs H Q=>(∃i,xs=[.int i]/\Q (.int i) H)\/∃k,xs=[.bl k]/\Q (.int (if k then 1 else 0)) H):=by
 intro J s Y H xs us Q I r h;rcases h with⟨i,rfl,q⟩|⟨k,rfl,q⟩
 ·obtain⟨u,rfl,t,rfl⟩:=jw r;exact call_int_int #[.int i,H,I,#[_,rfl],q]
 ·obtain⟨u,rfl,r1⟩:=jw r;cases r1;exact call_int_bool #[.int (if k then 1 else 0),H,I.tok _,#[_,rfl],q]
abbrev Im (K:Kr)(x:V)(H:Hp)(n:Kt):Prop:=
 match x with
 | .str y=>y.length<=sizeLine/\n=y.length
 | .byt y=>y.size<=sizeLine/\n=y.size
 | .ref p=>(∃xs,SqL K H p xs/\n=xs.length)\/∃xs,SqT K H p xs/\n=xs.length
 | _=>Lj
def jx:CallR X (.builtin "len") (λxs H Q=>∃x n,xs=[x]/\Im X.K x H n/\Q (.int n) H):=by
 intro J s Y H xs us Q I r h;obtain⟨x,n,rfl,e,q⟩:=h;obtain⟨u,rfl,rx⟩:=jw r;have hl:=ig;have hs:sizeLine=16777216:=LF;cases x with
 | str y=>
  obtain⟨t,rfl⟩:=rx;obtain⟨hy,e'⟩ : y.length<=sizeLine/\n=y.length:=e;subst e';exact len_str ∅ #[.int _,H,I.tok _,#[_,rfl],q]
 | byt y=>
  obtain⟨t,rfl⟩:=rx;obtain⟨hy,e'⟩ : y.size<=sizeLine/\n=y.size:=e;subst e';exact PySem.W.len_bytes ∅ #[.int _,H,I.tok _,#[_,rfl],q]
 | ref p=>
  cases rx;have e':(∃xs,SqL X.K H p xs/\n=xs.length)\/∃xs,SqT X.K H p xs/\n=xs.length:=e;rcases e' with⟨xs,hx,e'⟩|⟨xs,hx,e'⟩
  ·subst e';obtain⟨its,r',pl,hz⟩:=I.list hx;have hlen:=r'.length;exact Calls.call_len_list pl.isList (by simp only[KG]; omega) #[.int xs.length,H,I.tok _,#[_,by simp only[KG]; rw[hlen]],q]
  ·subst e';obtain⟨its,r',pl,hz⟩:=I.tuple hx;have hlen:=r'.length;exact len_tuple pl (by simp only[KG]; omega) #[.int xs.length,H,I.tok _,#[_,by simp only[KG]; rw[hlen]],q]
 | _=>exact(show Lj from e).elim
end
def sS {h:K7}{dx:Kn}{mA:Ks->Kk Ki}(n:h.Ns1 dx mA):∃od,h.get? dx=bt od/\∀name,Ry name od=bt (mA name):=by
 obtain⟨o,es,ep,ho,hd,hk,_,hm⟩:=n;show#[o,ho,λname=>?_]
 have e:=hm name;unfold nsFind findBy at e;rw[<- Oz]at e;unfold Ry;rw[hd];dsimp only;split
 ·rename_i y q;rw[q]at e;exact congrArg bt e
 ·rename_i q;rw[q]at e;have a:es.toList.any (·.refKey)=false:=by
   rw[List.any_eq_false];intro y hy;obtain⟨z,t,hkey⟩:=hk y (Array.mem_toList_iff.mp hy);simp[Tz,hkey]
  have a':¬ es.toList.any (·.refKey)=true:=by rw[a]; exact KL
  rw[KY a'];exact congrArg bt e
abbrev gB (f:Ks)(v:V):Kg (Ks×V)->Kg (Ks×V)
 | []=>[(f,v)]
 | (g,x)::r=>if g=f then(g,v)::r else(g,x)::gB f v r
def ei (f g:Ks)(v:V):∀fs:Kg (Ks×V),(gB f v fs).lookup g=if g=f then bt v else fs.lookup g
 | []=>by
  change NB g [(f,v)]=_
  by_cases h:g=f
  ·have hb:(g==f)=true:=Mx.mpr h;simp only[NB,hb,KQ h]
  ·have hb:(g==f)=false:=Mp.mpr h;simp only[NB,hb,KY h]
 | (k,x)::r=>by
  have ih:=ei f g v r;rw[show gB f v ((k,x)::r)=(if k=f then(k,v)::r else(k,x)::gB f v r)from rfl]
  by_cases hk:k=f
  ·rw[KQ hk]
   by_cases h:g=k
   ·have hb:(g==k)=true:=Mx.mpr h;simp only[NB,hb,KQ (h.trans hk)]
   ·have hb:(g==k)=false:=Mp.mpr h;simp only[NB,hb,KY (λe:g=f=>h (e.trans hk.symm))]
  ·rw[KY hk]
   by_cases h:g=k
   ·have hb:(g==k)=true:=Mx.mpr h;simp only[NB,hb,KY (λe:g=f=>hk (h.symm.trans e))]
   ·have hb:(g==k)=false:=Mp.mpr h;simp only[NB,hb];exact ih
def ik (f:Ks)(v:V):∀fs:Kg (Ks×V),f∈(gB f v fs).map (·.1)/\∀g,g∈fs.map (·.1)->g∈(gB f v fs).map (·.1)
 | []=>#[by simp[gB],λg h=>by simp at h]
 | (k,x)::r=>by
  obtain⟨i1,i2⟩:=ik f v r;rw[show gB f v ((k,x)::r)=(if k=f then(k,v)::r else(k,x)::gB f v r)from rfl]
  by_cases hk:k=f
  ·rw[KQ hk];subst hk;exact#[by simp,λg h=>by simpa using h]
  ·rw[KY hk];show#[?_,λg h=>?_]
   ·rw[Lz];exact KM _ i1
   ·rw[Lz]at h ⊢;rcases Kx.mp h with e|e
    ·exact Kx.mpr (.inl e)
    ·exact KM _ (i2 g e)
def RelO.some_of {v:V}{o:Kk Ki}(r:RelO (bt v) o):∃u,o=bt u/\RelV v u:=by
 cases o with
 | none=>exact(show Lj from r).elim
 | some u=>exact#[u,rfl,r]
section
variable{X:Cx}{J:Kg (Kn×LJ)}{Y:St}{H:Hp}{s:Km}{a C dx:Kn}{fs:Kg (Ks×V)}{f:Ks}{v:V}{A:K1}{E:Ki->Km->Prop}
def yM {prog:KF}{w:KS}{env:Ov}{e:KC}{f:Ks}{pos:L9}{s:Km}{Q:Ki->Km->Prop}(hb:attributeBase e f env (eval e env)=eval e env)
  (h:wpAny (model prog w) A (eval e env) (λo s₁=>wpAny (model prog w) A (getAttr o f true) Q E s₁) E s):wpAny (model prog w) A (eval (.Attribute e f pos) env) Q E s:=
 Attribute_any_ h (by rw[arm_eval_Attribute,hb])
end
structure Room (k:Kt)(A:K1):Prop where
 hd:A.handled=gV
 dp:A.depth+3*k+5 < recursionLimit
 un:A.units+16*k+200 < cLine
def Room.mono {j k:Kt}{A:K1}(r:Room k A)(h:j<=k):Room j A:=#[r.hd,by have:=r.dp; omega,by have:=r.un; omega]
def Room.deeper {k:Kt}{A:K1}(r:Room (k+1) A)(env:Ov):Room k (A.deeper env):=
 #[r.hd,by have:=r.dp; show A.depth+1+3*k+5 < _; omega,by have:=r.un; show A.units+3+16*k+200 < _; omega]
def pJ {A:K1}{C:Kn}{us:Kg Ki}{kw:Kg (Ks×Ki)}:(A.under (.builtin "type.__call__" #[.ref C::us,kw])).depth=A.depth+1:=by
 first|rfl|simp[Ql,Code.weight,Code.isCreation,Code.isGuard,Code.isCaller,SG,Qm,guardIds]
def pK {A:K1}{C:Kn}{us:Kg Ki}{kw:Kg (Ks×Ki)}:(A.under (.builtin "type.__call__" #[.ref C::us,kw])).units=A.units+1:=by
 first|rfl|simp[Ql,Code.cUnits,SG,Qm]
def Room.make {k:Kt}{A:K1}(r:Room (k+1) A)(C:Kn)(us:Kg Ki)(kw:Kg (Ks×Ki)):Room k (A.under (.builtin "type.__call__" #[.ref C::us,kw])):=
 #[r.hd,by have:=r.dp; rw[pJ]; omega,by have:=r.un; rw[pK]; omega]
def Room.depth {k:Kt}{A:K1}(r:Room k A):A.depth < recursionLimit:=by have:=r.dp; omega
abbrev yN:TA:=λ_ H Q=>Q [] H
abbrev u5 (ta:TE)(tr:TA):TA:=λY H Q=>ta Y H λx H1=>tr Y H1 λxs H2=>Q (x::xs) H2
section
variable{X:Cx}{e:KC}{es:Kg KC}{te:TE}{t:TA}{pos:L9}
def f8:PA X [] yN:=λ_ _ _ _ H Q I h=>Calls.spliced_nil #[[],H,I,.nil,h]
def bD (ha:PE X e te)(hr:PA X es t)(hs:starEach (e::es) X.env=(false,eval e X.env)::starEach es X.env:=by rfl):PA X (e::es) (u5 te t):=by
 intro pos J s Y H Q I h;rw[hs];change wpAny _ _ (spliced ((false,eval e X.env)::backTo pos (starEach es X.env))) _ _ s;show Calls.spliced_cons (aK (ha J s Y H _ I h) λu s1 #[x,H1,I1,r1,q1]=>?_)
 exact aK (hr pos J s1 Y H1 _ I1 q1) λus s2 #[xs,H2,I2,r2,q2]=>#[x::xs,H2,I2,.cons r1 r2,q2]
abbrev Io (t:TA):TE:=λY H Q=>t Y H λxs H1=>xs.length<=sizeLine/\∀p,H1 p=gV->Q (.ref p) (aE H1 p (.tup xs))
abbrev Ip (t:TA):TE:=λY H Q=>t Y H λxs H1=>xs.length<=sizeLine/\∀p,H1 p=gV->Q (.ref p) (aE H1 p (.lst xs))
def u6 {x1}(h:PA X es t):PE X (.Tuple es x1 pos) (Io t):=by
 intro J s Y H Q I hq;show wpAny_Tuple_spliced (aK (h pos J s Y H _ I hq) λus s1 #[xs,H1,I1,r,z,q]=>#[by rw[<- r.length]; exact z,?_])
 have hf:H1 s1.heap.objs.size=gV:=I1.hok.fresh (Kz _);show#[.ref s1.heap.objs.size,aE H1 s1.heap.objs.size (.tup xs),I1.laid (t':=s1.toks) (λb u e=>Kl _ e) (Kz _) ?_,rfl,q _ hf]
 exact#[#[z,NoD.new _ _ _],us,r,#[_,KA _ rfl,rfl,_,rfl]]
def Cv (h:PA X es t):PE X (.List es pos) (Ip t):=by
 intro J s Y H Q I hq;show wpAny_List_spliced (aK (h pos J s Y H _ I hq) λus s1 #[xs,H1,I1,r,z,q]=>#[by rw[<- r.length]; exact z,?_])
 have hf:H1 s1.heap.objs.size=gV:=I1.hok.fresh (Kz _);show#[.ref s1.heap.objs.size,aE H1 s1.heap.objs.size (.lst xs),I1.laid (t':=s1.toks) (λb u e=>Kl _ e) (Kz _) ?_,rfl,q _ hf]
 exact#[z,us,0,r,KA _ rfl]
end
noncomputable abbrev Sp:=Kg V->Hp->VK->XK->Prop
noncomputable abbrev pL:=Kg Ov->Hp->Km->XK->Ki->Km->Prop
structure Env0 (P:KF)(w:KS)(K:Kr)(mg:Ks->Kk Ki)(base:K7)(A:K1)(outer:Kg Ov)(s:Km)(H:Hp):Prop where
 frames:A.frames=bt outer
 mod:Mod K mg base
 bs:∀b o,base.get? b=bt o->s.heap.get? b=bt o/\H b=gV
 bsz:base.objs.size<=s.heap.objs.size
 funs:s.heap.FunFrames base outer
 frf:∀b∈kX outer,H b=gV
 hok:HOk P w H s.heap
 bare:Oq s.gens
abbrev CE (outer:Kg Ov)(P:KF)(w:KS)(H:Hp)(s:Km)(Q:VK)(u:Ki)(s':Km):Prop:=
 ∃v H',s'.os=s.os/\Oq s'.gens/\Un (kX outer) [] H H' s.heap s'.heap/\HOk P w H' s'.heap/\RelV v u/\Q v H'
abbrev CR (CX:pL)(outer:Kg Ov)(P:KF)(w:KS)(H:Hp)(s:Km)(Q:VK)(E:XK)(r:Pl)(s':Km):Prop:=
 match r with
 | .ok (.ret u)=>CE outer P w H s Q u s'
 | .ok _=>Lj
 | .error e=>CX outer H s E e s'
structure FnOk (P:KF)(w:KS)(K:Kr)(mg:Ks->Kk Ki)(base:K7)(CX:pL)(k:Kt)(f:Kn)(fd:Lv)(ps:Kg Ks)(sp:Sp):Prop where
 len:∀vs H Q E,sp vs H Q E->vs.length=ps.length
 run:∀(A:K1) (outer:Kg Ov) (s:Km) (H:Hp) (args:Args) (us:Kg Ki) (vs:Kg V) (Q:VK) (E:XK),Room k A->Env0 P w K mg base A outer s H->Qn s fd args (ps.zip us)->Vals vs us->sp vs H Q E->
  codeAny (model P w) A (.call (.ref f) args) (CR CX outer P w H s Q E) s
def FnOk.imp {P:KF}{w:KS}{K:Kr}{mg:Ks->Kk Ki}{base:K7}{CX:pL}{k:Kt}{f:Kn}{fd:Lv}{ps:Kg Ks}{sp sp':Sp}(F:FnOk P w K mg base CX k f fd ps sp)
  (h:∀vs H Q E,sp' vs H Q E->sp vs H Q E):FnOk P w K mg base CX k f fd ps sp':=
 #[λvs H Q E q=>F.len vs H Q E (h _ _ _ _ q),λA outer s H args us vs Q E hr he hb hv hs=>F.run A outer s H args us vs Q E hr he hb hv (h _ _ _ _ hs)]
def Env0.make {P:KF}{w:KS}{K:Kr}{mg:Ks->Kk Ki}{base:K7}{A:K1}{outer:Kg Ov}{s:Km}{H:Hp}(e:Env0 P w K mg base A outer s H)(C:Kn)(us:Kg Ki)(kw:Kg (Ks×Ki)) :
  Env0 P w K mg base (A.under (.builtin "type.__call__" #[.ref C::us,kw])) outer s H:=#[by first|exact e.frames|(simpa [Ql,Code.envs,Qm,pushEnvs]using e.frames),e.mod,e.bs,e.bsz,e.funs,e.frf,e.hok,e.bare]
section
variable{X:Cx}{J:Kg (Kn×LJ)}{Y:St}{H:Hp}{s s':Km}
def Inv.env0 (I:Inv X J Y H s):Env0 X.prog X.w X.K X.mg X.base X.A X.stack s H:=
 #[I.ok.frames,I.ok.mod,I.bs,KJ I.ok.bsz I.sz,I.stack,I.stkFree,I.hok,I.bare]
def Inv.after {Q:VK}{u:Ki}(I:Inv X J Y H s)(h:CE X.stack X.prog X.w H s Q u s'):EP X J Y Q u s':=by
 obtain⟨v,H',os,bare,un,hok,r,q⟩:=h;obtain⟨hh,g,d,t,os'⟩:=s';obtain rfl:os'=s.os:=os;exact#[v,H',I.call (h':=hh) (g':=g) (d':=d) (t':=t) (ch:=[]) un hok bare (λb z=>absurd z (by simp)),r,q]
end
abbrev u7 (sp:Sp)(dvs:Kg V)(E:XK)(t:TA):TE:=λY H Q=>t Y H λvs H1=>sp (vs++dvs) H1 Q E
abbrev Binds (K:Kr)(fd:Lv)(ps:Kg Ks)(ds:Kg Ki):Prop:=
 ∀(s:Km) (us:Kg Ki),K.In s.heap->(us++ds).length=ps.length->Qn s fd #[us,[]] (ps.zip (us++ds))
def Binds.all {K:Kr}{fd:Lv}{ps:Kg Ks}(h:∀us:Kg Ki,us.length=ps.length->bindArgs fd #[us,[]]=pure (ps.zip us)):Binds K fd ps []:=λs us _ hl=>by
 rw[LK]at hl ⊢;exact .of_eq (h us hl)
abbrev gb (CX:pL)(X:Cx)(E:XK):Prop:=∀(J:Kg (Kn×LJ)) (Y:St) (H:Hp) (s:Km) (e:Ki) (s':Km),Inv X J Y H s->CX X.stack H s E e s'->X.xe e s'
section
variable{X:Cx}{CX:pL}{k:Kt}{f C:Kn}{fd:Lv}{ps:Kg Ks}{sp:Sp}{dvs:Kg V}{ds:Kg Ki}{E:XK}{x m:Ks}{p pos apos:L9}{e o:KC}{es:Kg KC}{ta:TE}{t:TA}
def u8 {J:Kg (Kn×LJ)}{Y:St}{H:Hp}{s:Km}{Q:VK}{us:Kg Ki}{vs:Kg V}(F:FnOk X.prog X.w X.K X.mg X.base CX k f fd ps sp)(hr:Room k X.A)(hb:Binds X.K fd ps ds)(hd:Vals dvs ds)(hx:gb CX X E)
  (I:Inv X J Y H s) (r:Vals vs us) (h:sp (vs++dvs) H Q E):wpAny (model X.prog X.w) X.A (call (.ref f) us) (EP X J Y Q) X.xe s:=by
 have r2:Vals (vs++dvs) (us++ds):=r.append hd;have hl:(us++ds).length=ps.length:=by rw[<- r2.length]; exact F.len _ _ _ _ h
 show NC (MO (F.run X.A X.stack s H #[us,[]] (us++ds) (vs++dvs) Q E hr I.env0 (hb s us I.kIn hl) r2 h) λr s' hq=>?_)
 cases r with
 | error e=>exact hx J Y H s e s' I hq
 | ok fl=>
  cases fl with
  | ret u=>exact I.after hq
  | next=>exact Lj.elim hq
  | brk=>exact Lj.elim hq
  | cont=>exact Lj.elim hq
def yO (F:FnOk X.prog X.w X.K X.mg X.base CX k f fd ps sp)(hr:Room k X.A)(hg:Gl X x)(hm:X.mg x=bt (.ref f))(hk:Lw X.K (.ref f)=true)(hb:Binds X.K fd ps ds)(hd:Vals dvs ds)(hx:gb CX X E)
  (ha:PA X (e::es) t) (hdb:(x==("__debug__" : Ks))=false:=by decide) (he:starEach (e::es) X.env=(false,eval e X.env)::starEach es X.env:=by rfl) (hpl:(backTo pos (starEach es X.env)).any (·.1)=false:=by rfl) :
  PE X (.Call (.Name x p) (e::es) [] pos) (u7 sp dvs E t):=by
 intro J s Y H Q I h;show My (ce I hg hm ?_ hdb);show OA (h₀:=X.base) I.ok.mod.kin hk (aK (ha pos J s Y H _ I h) λus s1 #[vs,H1,I1,r,q]=>#[I1.kIn,?_]) he hpl
 exact u8 F hr hb hd hx I1 r q
def u9 (F:FnOk X.prog X.w X.K X.mg X.base CX k f fd ps sp)(hr:Room k X.A)(hg:Gl X x)(hm:X.mg x=bt (.ref f))(hk:Lw X.K (.ref f)=true)(hb:Binds X.K fd ps ds)(hd:Vals dvs ds)(hx:gb CX X E)
  (hdb:(x==("__debug__" : Ks))=false:=by decide):PE X (.Call (.Name x p) [] [] pos) (u7 sp dvs E yN):=by
 intro J s Y H Q I h;show My (ce I hg hm ?_ hdb);exact PF I.kIn hk (u8 (us:=[]) F hr hb hd hx I .nil h)
end
structure FnScope (N P:Kg Ks)(sc:M1):Prop where
 kind:sc.kind=.function
 co:sc.isCoroutine=false
 gen:sc.isGenerator=false
 nd:N.Nodup
 pre:N.take P.length=P
 par:∀x∈P,sc.names.lookup x=bt .local\/sc.names.lookup x=bt .cell
 nofree:∀y∈sc.names,y.2≠.free
def kZ {kindOf:Ks->Kk LW}{x:Ks}:∀ {binds:Kg (Ks×Ki)} {m:Ks->Kk Ki},(∀v,(x,v)∉binds)->bindL kindOf binds m x=m x
 | [],_,_=>rfl
 | (n,v)::r,m,h=>by
  unfold bindL;rw[kZ λw hw=>h w (KM _ hw)]
  split
  ·have:x≠n:=by rintro rfl; exact h v KP
   simp[this]
  ·rfl
def k8 {kindOf:Ks->Kk LW}{x:Ks}:∀ {binds:Kg (Ks×Ki)} {m:Ks->Kk Ki},(∀v,(x,v)∉binds)->bindC kindOf binds m x=m x
 | [],_,_=>rfl
 | (n,v)::r,m,h=>by
  unfold bindC;rw[k8 λw hw=>h w (KM _ hw)]
  split
  ·rfl
  ·have:x≠n:=by rintro rfl; exact h v KP
   simp[this]
def la {kindOf:Ks->Kk LW}{x:Ks}{v:Ki}:∀ {P:Kg Ks} {vs:Kg Ki} {i:Kt} {m:Ks->Kk Ki},P.Nodup->P[i]?=bt x->vs[i]?=bt v->kindOf x=bt .local->
  bindL kindOf (P.zip vs) m x=bt v
 | [],_,_,_,_,h,_,_=>by simp at h
 | _::_,[],_,_,_,_,h,_=>by simp at h
 | p::P,w::vs,0,m,nd,h1,h2,hk=>by
  simp at h1 h2; subst h1; subst h2
  change bindL kindOf ((p,w)::P.zip vs) m p=_;unfold bindL;rw[kZ λv hv=>(NN.mp nd).1 (NO hv).1,KQ hk]
  simp
 | p::P,w::vs,i+1,m,nd,h1,h2,hk=>by
  change bindL kindOf ((p,w)::P.zip vs) m x=_;unfold bindL;exact la (i:=i) (NN.mp nd).2 (by simpa using h1) (by simpa using h2) hk
def lb {kindOf:Ks->Kk LW}{x:Ks}{v:Ki}:∀ {P:Kg Ks} {vs:Kg Ki} {i:Kt} {m:Ks->Kk Ki},P.Nodup->P[i]?=bt x->vs[i]?=bt v->kindOf x≠bt .local->
  bindC kindOf (P.zip vs) m x=bt v
 | [],_,_,_,_,h,_,_=>by simp at h
 | _::_,[],_,_,_,_,h,_=>by simp at h
 | p::P,w::vs,0,m,nd,h1,h2,hk=>by
  simp at h1 h2; subst h1; subst h2
  change bindC kindOf ((p,w)::P.zip vs) m p=_;unfold bindC;rw[k8 λv hv=>(NN.mp nd).1 (NO hv).1,KY hk]
  simp
 | p::P,w::vs,i+1,m,nd,h1,h2,hk=>by
  change bindC kindOf ((p,w)::P.zip vs) m x=_;unfold bindC;exact lb (i:=i) (NN.mp nd).2 (by simpa using h1) (by simpa using h2) hk
abbrev eB (N:Kg Ks)(vs:Kg V):St:=vs.map bt++Lm (N.length - vs.length) gV
abbrev eC (CX:pL)(P:KF)(w:KS)(K:Kr)(mg:Ks->Kk Ki)(base:K7)(N:Kg Ks)(qual:Ks)(scope:M1)(f:Kn)(cd:Ki)(A:K1)(outer:Kg Ov)(s:Km)(H:Hp)(E:XK):Cx where
 prog:=P
 w:=w
 K:=K
 mg:=mg
 base:=base
 A:=A.deeper (envOfC qual scope s.heap.objs.size f cd)
 N:=N
 s₀:=s
 H₀:=H
 env:=envOfC qual scope s.heap.objs.size f cd
 outer:=outer
 stack:=envOfC qual scope s.heap.objs.size f cd::outer
 ex:=[]
 calm:=true
 fn:=λ_=>true
 pn:=[]
 xe:=λe s'=>wpAny (model P w) (A.deeper (envOfC qual scope s.heap.objs.size f cd)) (leaving (envOfC qual scope s.heap.objs.size f cd) e) (λ_ s''=>CX outer H s E e s'') (λe' s''=>CX outer H s E e' s'') s'
def nB {sc:M1}{n:Kt}{x:Ks}(h:sc.names.lookup x=bt .cell):∃c,(cellsFrom n sc.names []).lookup x=bt c:=by
 have q:=OZ sc.names n [] (.inl h);exact LD.mp q
def sT {CX:pL}{P:KF}{w:KS}{K:Kr}{mg:Ks->Kk Ki}{base:K7}{N ps:Kg Ks}{qual:Ks}{scope:M1}{f:Kn}{cd:Ki}{A:K1}{outer:Kg Ov}{s s1:Km}{H:Hp}{E:XK}{us:Kg Ki}{vs:Kg V}
  (S:FnScope N ps scope) (hd:A.handled=gV) (e0:Env0 P w K mg base A outer s H) (hl:vs.length=ps.length) (r:Vals vs us)
  (x:InCallC s s.heap.objs.size (bindL (envOfC qual scope s.heap.objs.size f cd).kindOf (ps.zip us) λ_=>gV) (cellsFrom (s.heap.objs.size+1) scope.names []) (bindC (envOfC qual scope s.heap.objs.size f cd).kindOf (ps.zip us) λ_=>gV) s1) :
  Inv (eC CX P w K mg base N qual scope f cd A outer s H E) [] (eB N vs) H s1:=by
 have hpl:ps.length<=N.length:=by have:=congrArg List.length S.pre; rw[LS]at this; omega
 obtain⟨h1,tk,rfl,hk⟩:=x.done;have noA:∀b:Kn,b∉(eC CX P w K mg base N qual scope f cd A outer s H E).ex:=λb z=>absurd (show b∈([]:Kg Kn)from z) (by simp)
 show#[#[e0.mod,S.kind,rfl,rfl,Kz _,λy z c h1 h2=>?_,λy hy=>?_,λy c _ h=>?_,λ_=>hd,Around.frames_deeper e0.frames,.inr #[rfl,rfl],λb z=>absurd z (noA b),e0.bs,e0.bsz,λb _ _=>noA b,λb z=>absurd z (noA b),e0.funs,e0.frf],
  rfl,e0.bare,Un.kept hk,#[_,x.toInCall.ns,λi y v h1 h2 h3=>?_],λy c h=>#[_,x.cell y c h],e0.hok.fresh (Kz _),λy c h=>?_,λp hp=>absurd (show p∈([]:Kg (Kn×LJ))from hp) (by simp),e0.hok.kept hk,?_]
 ·exact name_of_addr x.apart (Nd h1) (Nd h2)
 ·have hy:scope.names.lookup y=bt .cell\/scope.names.lookup y=bt .free:=hy;rcases hy with hy|hy
  ·exact nB hy
  ·exact absurd rfl (S.nofree _ (Nd hy))
 ·exact MN (x.above y c (Nd h))
 ·have hi:i < vs.length:=by
   unfold eB at h2
   by_cases hi:i < vs.length
   ·exact hi
   ·rw[MS (by simpa using hi)]at h2
    rw[List.getElem?_replicate]at h2;split at h2 <;> cases h2
  have ha:vs[i]?=bt v:=by
   unfold eB at h2;rw[Lk (by simpa using hi),K4]at h2
   cases e:vs[i]? with
   | none=>rw[e]at h2; cases h2
   | some a=>rw[e]at h2; cases h2; rfl
  obtain⟨u,hu,rv⟩:=r.get ha;have hp:ps[i]?=bt y:=by
   rw[<- S.pre,List.getElem?_take_of_lt ∅]; exact h1
  have ndP:ps.Nodup:=by rw[<- S.pre]; exact S.nd.sublist (Qp _ _)
  show#[u,rv,?_];rcases S.par y (Lc hp)with k|k
  ·exact .inl #[k,la ndP hp hu k]
  ·obtain⟨c,e⟩:=nB (n:=s.heap.objs.size+1) k;show .inr #[.inl k,c,e,?_];have q:=x.cell y c e;rw[lb ndP hp hu (by change scope.names.lookup y≠_; rw[k]; decide)]at q
   exact q
 ·exact e0.hok.fresh (MN (x.above y c (Nd h)))
 ·unfold eB;change _=N.length;rw[Kw,Kv,List.length_replicate];omega
def Bb {CX:pL}{P:KF}{w:KS}{K:Kr}{mg:Ks->Kk Ki}{base:K7}{k:Kt}{f:Kn}{name qual:Ks}{params:Arguments}{body:Kg LO}{scope:M1}{dV kV doc pm cdv ct oc:Ki}{an od:Kk Kn}
  {osl:Ls (Kk Ki)} {N ps:Kg Ks} {sp:Sp} (lk:K.lookup f=bt #[oc,od,.func (Mo name qual params body scope dV kV doc pm an cdv ct),osl]) (hcd:Ng K cdv qual=true) (S:FnScope N ps scope)
  (len:∀vs H Q E,sp vs H Q E->vs.length=ps.length)
  (hbody:∀(A:K1) (outer:Kg Ov) (s:Km) (H:Hp) (vs:Kg V) (Q:VK) (E:XK),Room k (A.deeper (envOfC qual scope s.heap.objs.size f cdv))->sp vs H Q E->
   ∃t,PSs (eC CX P w K mg base N qual scope f cdv A outer s H E) body t/\t { nx:=λ_ H'=>Q .non H',rt:=Q } (eB N vs) H) :
  FnOk P w K mg base CX (k+1) f (Mo name qual params body scope dV kV doc pm an cdv ct) ps sp:=by
 show#[len,λA outer s H args us vs Q E hr e0 hb r hsp=>?_]
 have hl:=len _ _ _ _ hsp;have KX:K.In s.heap:=e0.mod.kin.keeps λb o e=>(e0.bs b o e).1
 have lim:s.heap.NoLimit:=e0.mod.nolimit.keeps λb o e=>(e0.bs b o e).1
 have hkind:∀y∈ps.zip us,scope.names.lookup y.1=bt .local\/(scope.names.lookup y.1=bt .cell/\((cellsFrom (s.heap.objs.size+1) scope.names []).lookup y.1).isSome=true):=λ#[n,v] hy=>by
  rcases S.par n (NO hy).1 with q|q
  ·exact .inl q
  ·exact .inr #[q,OZ _ _ _ (.inl q)]
 show codeAny_call_function hr.depth (KX _ _ lk) rfl S.co S.gen rfl (PySem.W.codeRec_of KX hcd) (hb _ _ _ _ ?_);show wpAny_newFunctionEnv_cells S.kind hkind λenv he s1 x=>?_
 subst he;show#[lim.keeps x.toInCall.keep,codeAny_func ?_];obtain⟨t,ht,hq⟩:=hbody A outer s H vs Q E (hr.deeper _) hsp;have I:Inv (eC CX P w K mg base N qual scope f cdv A outer s H E) [] (eB N vs) H s1:=sT S hr.hd e0 hl r x;show Lf (ht [] s1 (eB N vs) H _ I hq) (λfl s' hs=>?_) λe s' hs=>hs
 have fin:∀ {Y':St} {H':Hp} {v:V} {u:Ki},Inv (eC CX P w K mg base N qual scope f cdv A outer s H E) [] Y' H' s'->RelV v u->Q v H'->CE outer P w H s Q u s':=
  λ{Y' H' v u} tx rv q=>#[v,H',tx.os,tx.bare,tx.base,tx.hok,rv,q]
 cases fl with
 | ret u=>
  obtain⟨v,Y',H',tx,rv,q⟩:=hs;exact fin tx rv q
 | next=>
  obtain⟨Y',H',tx,q⟩:=hs;exact fin (v:=V.non) (u:=LA) tx rfl q
 | brk=>
  obtain⟨_,_,_,q⟩:=hs;exact Lj.elim q
 | cont=>
  obtain⟨_,_,_,q⟩:=hs;exact Lj.elim q
section
variable{X:Cx}{x:Ks}{p pos:L9}{e:KC}{es:Kg KC}{t:TA}{id T:LR}{r:Kg V->Hp->VK->Prop}
abbrev Jw (r:Kg V->Hp->VK->Prop)(t:TA):TE:=λY H Q=>t Y H λvs H1=>r vs H1 Q
def eD (hc:CallR X (.builtin id) r)(hg:Gl X x)(hm:X.mg x=gV)(hv:bootBuiltins x=bt (.builtin id))(ha:PA X (e::es) t)(hn:x≠"__name__":=by decide)(hdb:(x==("__debug__" : Ks))=false:=by decide)
  (he:starEach (e::es) X.env=(false,eval e X.env)::starEach es X.env:=by rfl) (hpl:(backTo pos (starEach es X.env)).any (·.1)=false:=by rfl):PE X (.Call (.Name x p) (e::es) [] pos) (Jw r t):=by
 intro J s Y H Q I h;show My (fY I hg hm hv ?_ hn hdb);exact QN (aK (ha pos J s Y H _ I h) λus s1 #[vs,H1,I1,r1,q1]=>hc J s1 Y H1 vs us Q I1 r1 q1) he hpl
def sU (hc:CallR X (.type T) r)(hg:Gl X x)(hm:X.mg x=gV)(hv:bootBuiltins x=bt (.type T))(ha:PA X (e::es) t)(hn:x≠"__name__":=by decide)(hdb:(x==("__debug__" : Ks))=false:=by decide)
  (he:starEach (e::es) X.env=(false,eval e X.env)::starEach es X.env:=by rfl) (hpl:(backTo pos (starEach es X.env)).any (·.1)=false:=by rfl):PE X (.Call (.Name x p) (e::es) [] pos) (Jw r t):=by
 intro J s Y H Q I h;show My (fY I hg hm hv ?_ hn hdb);exact Mk (aK (ha pos J s Y H _ I h) λus s1 #[vs,H1,I1,r1,q1]=>hc J s1 Y H1 vs us Q I1 r1 q1) he hpl
end
end L2
namespace HT
open PySem PyProof.Rows
section
open PySem.SeqAt
open PySem.AutoSeq1 (wpAny_loadPart')
open PySem.MeetsSeq PySem.MeetsSeq2 PySem.MeetsSeq3
end
section
variable{prog:KF}{w:KS}{A:K1}{E:Ki->Km->Prop}{s:Km}
def yP {t b:Kn}{vs ws:Kg Ki}{Q:Ki->Km->Prop}(ht:Si s.heap t vs.toArray)(hb:Si s.heap b ws.toArray)(hv:vs≠[])
  (h1:ws=[]->Q (.ref t) s) (h2:ws≠[]->Q (.ref s.heap.objs.size) { s with heap:=s.heap.push { cls:=.type "tuple",data:=.seq (vs++ws).toArray } })
  (hsz:vs.length+ws.length<=sizeLine):wpAny (model prog w) A (binaryOp .Add (.ref t) (.ref b)) Q E s:=by
 obtain⟨⟨cls,dd,data,sl⟩,ho,hc,n,hd⟩:=id ht;obtain⟨⟨cls2,dd2,data2,sl2⟩,ho2,hc2,n2,hd2⟩:=id hb;simp only at hc hd hc2 hd2;subst hc hd hc2 hd2;have e:vs.toArray++ws.toArray=(vs++ws).toArray:=by simp
 by_cases hw:ws=[]
 ·exact Qq #[_,ho,rfl] #[_,ho2,rfl] OR PU NY NU (NJ _ _)
   (tuple_addW1 t b vs.toArray ws.toArray n n2 dd dd2 sl sl2 (by simpa using hv) (by simp[hw])) #[ho,ho2,h1 hw]
 ·show Qq #[_,ho,rfl] #[_,ho2,rfl] OR PU NY NU (NJ _ _)
   (tuple_addW2 t b vs.toArray ws.toArray n n2 dd dd2 sl sl2 (by simpa using hv) (by simpa using hw) (by rw[KG,KG]; exact hsz)) #[ho,ho2,?_]
  rw[e];exact h2 hw
abbrev bB (n d:Kt):Kk KD->Kt
 | none=>d
 | some v=>if v < 0 then(v+(n:KD)).toNat else min v.toNat n
def nC (n d:Kt):bB n d gV=d:=rfl
def qX (n d k:Kt):bB n d (bt (k:KD))=min k n:=by
 show(if (k:KD) < 0 then((k:KD)+(n:KD)).toNat else min (k:KD).toNat n)=min k n
 rw[KY ∅,LX]
def Cw (n d:Kt)(hd:d<=n)(o:Kk KD):bB n d o<=n:=by
 cases o with
 | none=>exact hd
 | some v=>
  show(if v < 0 then(v+(n:KD)).toNat else min v.toNat n)<=n
  by_cases hv:v < 0
  ·rw[KQ hv]; omega
  ·rw[KY hv]; exact Nat.min_le_right _ _
def qY (v:KD)(n d:Kt):(if v < 0 then max (v+(n:KD)) 0 else min v (n:KD))=((bB n d (bt v):Kt):KD):=by
 show(if v < 0 then max (v+(n:KD)) 0 else min v (n:KD))=(((if v < 0 then(v+(n:KD)).toNat else min v.toNat n):Kt):KD)
 by_cases hv:v < 0
 ·simp only[KQ hv]; omega
 ·simp only[KY hv]; omega
def pM (lo hi:Kk KD)(n:Kt):NG lo hi 1 (n:KD)=(((bB n 0 lo:Kt):KD),((bB n n hi:Kt):KD)):=by
 have h1:¬ ((1:KD) < 0):=∅
 unfold NG;simp only[h1,NZ];show Prod.ext ?_ ?_
 ·cases lo with
  | none=>rfl
  | some v=>exact qY v n 0
 ·cases hi with
  | none=>rfl
  | some v=>exact qY v n n
def pN (i j:Kt):MW (i:KD) (j:KD) 1=j - i:=by
 unfold MW;have h1:(1:KD) > 0:=∅
 simp only[h1,Nf,Int.ediv_one];split <;> omega
def jy {v:Ki}{o:Kk KD}{Q:Kk KD->Km->Prop}(p:Oi v o)(h:Q o s):wpAny (model prog w) A (Rc v) Q E s:=by
 cases p with
 | none=>exact Rz h
 | int i t=>exact slicePart_int h
def dj {sl:Kn}{vl vu:Ki}{lo hi:Kk KD}{n:Kt}{Q:KD×KD×Kt->Km->Prop}(hs:s.heap.IsSliceOf sl vl vu .none)(pl:Oi vl lo)(pu:Oi vu hi)
  (h:Q (((bB n 0 lo:Kt):KD),1,bB n n hi - bB n 0 lo) s):wpAny (model prog w) A (OB (.ref sl) (pure (n:KD))) Q E s:=by
 obtain⟨os,hos,hcs,hds⟩:=id hs;unfold OB RX;show Kh (Kh (Lu hos hds (x:=vl) rfl (Kh (Lu hos hds (x:=vu) rfl (Kh (Lu hos hds (x:=.none) rfl (Kq ?_)))))));show Kh (Rz ?_);change wpAny _ _ (if ((1:KD)==0)=true then _ else _) _ _ s
 rw[KY #v[]]
 show Kh (jy pl (Kh (jy pu (Kh (Kq ?_)))));change wpAny _ _ (match NG lo hi 1 (n:KD)with|(lo,hi)=>pure (lo,(1:KD),MW lo hi 1)) _ _ s
 rw[pM lo hi n];change wpAny _ _ (pure (((bB n 0 lo:Kt):KD),(1:KD),MW ((bB n 0 lo:Kt):KD) ((bB n n hi:Kt):KD) 1)) _ _ s;rw[pN];exact Kq h
def vc (xs:Ls Ki)(i k:Kt):((Mh k).filterMap λ(m:Kt)=>xs[((i:KD)+(m:KD)*1).toNat]?).toArray=((xs.toList.drop i).take k).toArray:=by
 have e:(λ(m:Kt)=>xs[((i:KD)+(m:KD)*1).toNat]?)=λm=>xs[i+m]?:=by
  funext m
  have:((i:KD)+(m:KD)*1).toNat=i+m:=∅
  rw[this]
 rw[e];have:=pick_run xs i k;rw[P7]at this;have e2:((λx=>xs[x]?)∘λx=>i+x)=λm=>xs[i+m]?:=rfl
 rw[e2]at this;rw[this]
def gC {t sl:Kn}{items:Ls Ki}{vl vu:Ki}{lo hi:Kk KD}{Q:Ki->Km->Prop}(ht:Si s.heap t items)(hs:s.heap.IsSliceOf sl vl vu .none)(pl:Oi vl lo)(pu:Oi vu hi)
  (hw:¬ (bB items.size 0 lo=0/\bB items.size items.size hi=items.size))
  (h:Q (.ref s.heap.objs.size) { s with heap:=s.heap.push { cls:=.type "tuple",data:=.seq ((items.toList.drop (bB items.size 0 lo)).take (bB items.size items.size hi - bB items.size 0 lo)).toArray } })
  (hsz:items.size<=sizeLine):wpAny (model prog w) A (getItem (.ref t) (.ref sl)) Q E s:=by
 have htake:sizeOk (.seq ((items.toList.drop (bB items.size 0 lo)).take (bB items.size items.size hi - bB items.size 0 lo)).toArray):=by
  show((items.toList.drop (bB items.size 0 lo)).take (bB items.size items.size hi - bB items.size 0 lo)).toArray.size<=sizeLine;rw[KG,LS,NE,K3];omega
 have hj:bB items.size items.size hi<=items.size:=Cw _ _ (Kz _) hi;obtain⟨os,hos,hcs,hds⟩:=id hs;have hTs:s.TypeIs (.ref sl) "slice":=#[os,hos,hcs];unfold getItem
 try with_reducible show Ly ?_
 first|refine Kh (Kq ?_)|skip
 show Kh (Qr ht.typeIs #v[] ?_)
 show Kh (Lx (name:=LY "__getitem__") ht.typeIs Mw
  (LL Mw ht.typeIs PH ?_ (P8 _ _)))
 change wpAny _ _ (OC (.ref t) >>= _) _ _ s;show Kh (R4 ht ?_);show Kh (N1 hTs ?_);rw[KQ #v[]]
 show Kh (dj hs pl pu ?_);have hno:¬ ((((bB items.size 0 lo:Kt):KD)==0&&(1:KD)==1&&(bB items.size items.size hi - bB items.size 0 lo)==items.size)=true):=by
  intro q;rw[Kj,Kj]at q;have q1:((bB items.size 0 lo:Kt):KD)=0:=eq_of_beq q.1.1;have q2:bB items.size items.size hi - bB items.size 0 lo=items.size:=eq_of_beq q.2;exact hw #[∅,∅]
 change wpAny _ _ (if (((bB items.size 0 lo:Kt):KD)==0&&(1:KD)==1&&(bB items.size items.size hi - bB items.size 0 lo)==items.size)=true then _ else _) _ _ s
 rw[KY hno,vc]
 first
  | exact Kh (m:=Mc _) (Lg (Kq #[_,rfl,Kq h]) htake)
  | exact Kh (m:=Mc _) (Lg (Kh (Kq (Kq #[_,rfl,Kq h]))) htake)
  | exact Kh (Kh (m:=Mc _) (Lg (Kq (Kq #[_,rfl,Kq h])) htake))
  | exact Kh (Kh (m:=Mc _) (Lg (Kq #[_,rfl,Kq h]) htake))
end
end HT
namespace L2
open PySem PySem.Spec PyProof.Rows
noncomputable abbrev TO:=St->Hp->(Kk KD->Hp->Prop)->Prop
abbrev PO (X:Cx)(e:Kk KC)(t:TO):Prop:=
 ∀(J:Kg (Kn×LJ)) (s:Km) (Y:St) (H:Hp) (Q:Kk KD->Hp->Prop),Inv X J Y H s->t Y H Q->
  wpAny (model X.prog X.w) X.A (evalPart e X.env) (λu s'=>∃o H',Inv X J Y H' s'/\Oi u o/\Q o H') X.xe s
abbrev yQ:TO:=λ_ H Q=>Q gV H
abbrev Fh (t:TE):TO:=λY H Q=>t Y H λx H1=>∃i,x=.int i/\Q (bt i) H1
section
variable{X:Cx}{e:KC}{te:TE}{lo hi:Kk KC}{tl th:TO}{pos p2:L9}
def yR:PO X gV yQ:=by
 intro J s Y H Q I h;rw[R5];exact Kq #[gV,H,I,.none,h]
def yS (h:PE X e te):PO X (bt e) (Fh te):=by
 intro J s Y H Q I hw;rw[evalPart_some];show aK (h J s Y H _ I hw) λu s1 #[x,H1,I1,r1,q1]=>?_
 obtain⟨i,rfl,q⟩:=q1;obtain⟨t,rfl⟩:=r1;exact#[bt i,H1,I1,.int i t,q]
abbrev Fi (X:Cx)(r:V->Kk KD->Kk KD->Hp->VK->Prop):Prop:=
 ∀(J:Kg (Kn×LJ)) (s:Km) (Y:St) (H:Hp) (x:V) (v vl vu:Ki) (lo hi:Kk KD) (sl:Kn) (Q:VK),Inv X J Y H s->RelV x v->s.heap.IsSliceOf sl vl vu .none->Oi vl lo->Oi vu hi->r x lo hi H Q->
  ∃T id,typeLookup (.type T) "__getitem__" = pure (bt (.builtin id))/\s.TypeIs v T/\wpAny (model X.prog X.w) X.A (getItem v (.ref sl)) (EP X J Y Q) X.xe s
abbrev JP (r:V->Kk KD->Kk KD->Hp->VK->Prop)(te:TE)(tl th:TO):TE:=λY H Q=>te Y H λx H1=>tl Y H1 λl H2=>th Y H2 λu H3=>r x l u H3 Q
def vd {r:V->Kk KD->Kk KD->Hp->VK->Prop}(hr:Fi X r)(he:PE X e te)(hl:PO X lo tl)(hu:PO X hi th):PE X (.Subscript e (.Slice lo hi gV p2) pos) (JP r te tl th):=by
 intro J s Y H Q I h;show RA (aK (he J s Y H _ I h) λv s1 #[x,H1,I1,r1,q1]=>?_)
 show wpAny_Slice (aK (hl J s1 Y H1 _ I1 q1) λvl s2 #[l,H2,I2,pl,q2]=>aK (hu J s2 Y H2 _ I2 q2) λvu s3 #[u,H3,I3,pu,q3]=>?_)
 rw[R5];show Kq ?_;have I4:Inv X J Y H3 { s3 with heap:=s3.heap.push { cls:=.type "slice",data:=.fields [vl,vu,.none].toArray } }:=I3.kept (t':=s3.toks) λb ob q=>Kl _ q
 obtain⟨T,id,hT,ht,hg⟩:=hr J { s3 with heap:=s3.heap.push { cls:=.type "slice",data:=.fields [vl,vu,.none].toArray } } Y H3 x v vl vu l u s3.heap.objs.size Q I4 r1 (Tb ..) pl pu q3
 change wpAny (model X.prog X.w) X.A (subscriptTail e (.Slice lo hi gV p2) v (.ref s3.heap.objs.size)) (EP X J Y Q) X.xe { s3 with heap:=s3.heap.push { cls:=.type "slice",data:=.fields [vl,vu,.none].toArray } }
 exact tail_any (ops:=[.ref s3.heap.objs.size,v]) ht hT hg (by with_unfolding_all rfl)
abbrev jA (xs:Kg V)(lo hi:Kk KD):Kg V:=(xs.drop (HT.bB xs.length 0 lo)).take (HT.bB xs.length xs.length hi - HT.bB xs.length 0 lo)
def iL (xs:Kg V)(lo hi:Kk KD):(jA xs lo hi).length<=xs.length:=by
 unfold jA;rw[LS,NE];omega
abbrev Iq (K:Kr):V->Kk KD->Kk KD->Hp->VK->Prop:=λx lo hi H Q=>∃a xs,x=.ref a/\SqT K H a xs/\
 ¬ (HT.bB xs.length 0 lo=0/\HT.bB xs.length xs.length hi=xs.length)/\∀p,H p=gV->Q (.ref p) (aE H p (.tup (jA xs lo hi)))
def Cy:Fi X (Iq X.K):=by
 intro J s Y H x v vl vu lo hi sl Q I rx hs pl pu h;obtain⟨a,xs,rfl,hx,hw,q⟩:=h;cases rx;obtain⟨its,r,ht,hz⟩:=I.tuple hx;have hlen:its.toArray.size=xs.length:=by rw[KG]; exact r.length.symm
 show#["tuple",_,PyProof.Rows.slot_tuple_getitem.lookup,ht.typeIs,?_];show HT.gC ht hs pl pu (by rw[hlen]; exact hw) ?_ (by rw[hlen]; exact hz)
 rw[hlen];show#[.ref s.heap.objs.size,_,I.laid (t':=s.toks) (o:=.tup (jA xs lo hi)) (λb ob q=>Kl _ q) (Kz _) ?_,rfl,q _ (I.hok.fresh (Kz _))]
 exact#[#[KJ (iL xs lo hi) hz,NoD.new _ _ _],_,(r.drop (HT.bB xs.length 0 lo)).take (HT.bB xs.length xs.length hi - HT.bB xs.length 0 lo),QM _ _]
def Vals.nil_iff {xs:Kg V}{us:Kg Ki}(r:Vals xs us):us=[]↔xs=[]:=by
 cases r with
 | nil=>simp
 | cons _ _=>simp
end
abbrev uM (n:Kt)(i:KD):Kk Kt:=if 0<=i then(if i < n then bt i.toNat else gV)else if -(n:KD)<=i then bt (i+n).toNat else gV
abbrev pg {α:Type}(xs:Kg α)(i:KD):Kk α:=(uM xs.length i).bind λj=>xs[j]?
def qZ {n:Kt}{i:KD}{j:Kt}(h:uM n i=bt j):seqIndex? i n=bt j/\j < n/\-(n:KD)<=i/\i < n:=by
 unfold uM at h
 by_cases h0:0<=i
 ·rw[KQ h0]at h
  by_cases h1:i < n
  ·rw[KQ h1]at h;have e:i.toNat=j:=Mr h;exact#[by rw[Q6 h0 h1,e],∅,∅,h1]
  ·rw[KY h1]at h; cases h
 ·rw[KY h0]at h
  by_cases h1 : -(n:KD)<=i
  ·rw[KQ h1]at h;have e:(i+n).toNat=j:=Mr h;exact#[by rw[Qs ∅ h1,e],∅,h1,∅]
  ·rw[KY h1]at h; cases h
def l0 {α:Type}{xs:Kg α}{i:KD}{v:α}(h:pg xs i=bt v):∃j,seqIndex? i xs.length=bt j/\xs[j]?=bt v/\j < xs.length/\-(xs.length:KD)<=i/\i < xs.length:=by
 unfold pg at h;cases e:uM xs.length i with
 | none=>rw[e]at h; cases h
 | some j=>
  rw[e]at h;obtain⟨h1,h2,h3,h4⟩:=qZ e;exact#[j,h1,h,h2,h3,h4]
def atI_nat {α:Type}{xs:Kg α}{j:Kt}{v:α}(h:xs[j]?=bt v):pg xs (j:KD)=bt v:=by
 have hj:j < xs.length:=(KB.mp h).1;have e:uM xs.length (j:KD)=bt j:=by
  unfold uM;rw[KQ ∅,KQ ∅]; simp
 unfold pg; rw[e]; exact h
abbrev jc (b:KC):Prop:=∀o i,subscripted b false o i=operate [o,i] (getItem o i)
abbrev IxR (X:Cx)(r:R2):Prop:=
 ∀(value slice:KC) (J:Kg (Kn×LJ)) (s:Km) (Y:St) (H:Hp) (x y:V) (v u:Ki) (Q:VK),Inv X J Y H s->RelV x v->RelV y u->r x y H Q->
  subscripted slice false v u=operate [v,u] (getItem v u)->wpAny (model X.prog X.w) X.A (subscriptTail value slice v u) (EP X J Y Q) X.xe s
abbrev MtR (X:Cx)(id:LR)(r:V->Kg V->Hp->VK->Prop):Prop:=
 ∀(J:Kg (Kn×LJ)) (s:Km) (Y:St) (H:Hp) (x:V) (xs:Kg V) (v:Ki) (us:Kg Ki) (Q:VK),Inv X J Y H s->RelV x v->Vals xs us->r x xs H Q->
  wpAny (model X.prog X.w) X.A (call (.builtin id) (v::us)) (EP X J Y Q) X.xe s
section
variable{X:Cx}{a b:KC}{ta tb:TE}{pos:L9}
def Fj {r:R2}(hr:IxR X r)(ha:PE X a ta)(hb:PE X b tb)(hs:jc b):PE X (.Subscript a b pos) (Hy r ta tb):=by
 intro J s Y H Q I h;exact RA (Cm ha hb I h λv u s2 x y H2 I2 rx ry q=>hr a b J s2 Y H2 x y v u Q I2 rx ry q (hs _ _))
abbrev Ir (K:Kr):R2:=λx y H Q=>∃p xs i v,x=.ref p/\y=.int i/\SqL K H p xs/\pg xs i=bt v/\Q v H
abbrev Iu (K:Kr):R2:=λx y H Q=>∃p xs i v,x=.ref p/\y=.int i/\SqT K H p xs/\pg xs i=bt v/\Q v H
abbrev Iv:R2:=λx y H Q=>∃z i c,x=.str z/\y=.int i/\z.length<=sizeLine/\pg z.cps.toList i=bt c/\Q (.str #[[c].toArray]) H
def yT:IxR X (Ir X.K):=by
 intro value slice J s Y H x y v u Q I rx ry h hs;obtain⟨p,xs,i,z,rfl,rfl,hq,he,q⟩:=h;cases rx;obtain⟨t,rfl⟩:=ry;obtain⟨its,r,pl,hz⟩:=I.list hq;obtain⟨j,h1,h2,h3,h4,h5⟩:=l0 he;obtain⟨w,ew,rw'⟩:=r.get h2;have hl:=r.length;have hn:=ig;have fin:EP X J Y Q w s:=#[z,H,I,rw',q]
 by_cases h0:0<=i
 ·have hj:i.toNat=j:=by
   rw[Q6 h0 h5]at h1;exact Mr h1
  exact item_listR pl.isList h0 ∅ (by rw[hj]; simpa using ew) fin hs
 ·have hj:(i+(its.toArray.size:KD)).toNat=j:=by
   rw[Qs ∅ h4]at h1
   rw[KG,<- hl];exact Mr h1
  exact N2 (x:=w) pl.isList.typeIs slot_list_getitem.lookup
   (wpAny_getItem_list_neg (Q:=λr s'=>r=w/\EP X J Y Q r s') pl.isList ∅ (by rw[KG] <;> omega) ∅ (by rw[hj]; simpa using ew) #[rfl,fin]) hs
def Cz:IxR X (Iu X.K):=by
 intro value slice J s Y H x y v u Q I rx ry h hs;obtain⟨p,xs,i,z,rfl,rfl,hq,he,q⟩:=h;cases rx;obtain⟨t,rfl⟩:=ry;obtain⟨its,r,pl,hz⟩:=I.tuple hq;obtain⟨j,h1,h2,h3,h4,h5⟩:=l0 he;obtain⟨w,ew,rw'⟩:=r.get h2;have hl:=r.length;have hn:=ig;have fin:EP X J Y Q w s:=#[z,H,I,rw',q];exact N2 (x:=w) pl.typeIs slot_tuple_getitem.lookup
  (getItem_tuple (j:=j) (Q:=λr s'=>r=w/\EP X J Y Q r s') pl ∅ ∅ (by rw[KG,<- hl]; exact h1) (by simpa using ew) #[rfl,fin]) hs
def CA:IxR X Iv:=by
 intro value slice J s Y H x y v u Q I rx ry h hs;obtain⟨z,i,c,rfl,rfl,hz,he,q⟩:=h;obtain⟨t,rfl⟩:=rx;obtain⟨t',rfl⟩:=ry;obtain⟨j,h1,h2,h3,h4,h5⟩:=l0 he;have hl:z.cps.toList.length=z.length:=by simp[Tc]
 rw[hl]at h1 h4 h5;have hn:=ig;exact tail_any (RB s z t) slot_str_getitem.lookup (getItem_str (c:=c) (by
  have e1:decide (i < -(2 ^ 63:KD))=false:=Lo ∅
  have e2:decide (i>=2 ^ 63)=false:=Lo ∅
  rw[e1,e2,PV]) (by rw[h1]; simpa using h2) #[.str #[[c].toArray],H,I.tok _,#[_,rfl],q]) hs
def pO (its:Kg Ki)(n j:Kt)(u:Ki):NQ (·.setIfInBounds j u) { cls:=.type "list",data:=.seq its.toArray n }={ cls:=.type "list",data:=.seq (its.set j u).toArray n }:=by
 simp[NQ]
def Inv.lst {J:Kg (Kn×LJ)}{Y:St}{H:Hp}{s:Km}{p:Kn}{xs:Kg V}(I:Inv X J Y H s)(h:H p=bt (.lst xs)) :
  ∃(its:Kg Ki) (n:Kt),Vals xs its/\s.heap.get? p=bt { cls:=.type "list",data:=.seq its.toArray n }/\xs.length<=sizeLine:=by
 obtain⟨z,its,n,r,e⟩:=I.hok p _ h;exact#[its,n,r,e,z]
def Inv.lstUpd {J:Kg (Kn×LJ)}{Y:St}{H:Hp}{s:Km}{p:Kn}{xs ys:Kg V}{its its':Kg Ki}{n n':Kt}{f:LJ->LJ}(I:Inv X J Y H s)(h:H p=bt (.lst xs))
  (ho:s.heap.get? p=bt { cls:=.type "list",data:=.seq its.toArray n }) (hf:f { cls:=.type "list",data:=.seq its.toArray n }={ cls:=.type "list",data:=.seq its'.toArray n' }) (r:Vals ys its') (hz:ys.length<=sizeLine) (t:Kt) :
  Inv X J Y (aE H p (.lst ys)) { s with heap:=s.heap.update p f,toks:=t }:=by
 have e:(s.heap.update p f).get? p=bt { cls:=.type "list",data:=.seq its'.toArray n' }:=by
  rw[LG f ho (by rw[hf] <;> rfl),hf]
 show I.write (x:=p) (e:=p) (by rw[h]; trivial) (.inl rfl) (λb u hb q=>(Le _ _ (Ne.symm hb)).trans q) #[_,e] ?_
 exact#[hz,its',n',r,e]
abbrev Fk:V->V->V->Hp->(Hp->Prop)->Prop:=λo i v H Q=>∃p xs k j,o=.ref p/\i=.int k/\H p=bt (.lst xs)/\uM xs.length k=bt j/\Q (aE H p (.lst (xs.set j v)))
def vf:Cg X Fk:=by
 intro J s Y H o i v ov iv u Q I ro ri rv h;obtain⟨p,xs,k,j,rfl,rfl,hp,hj,q⟩:=h;cases ro;obtain⟨t,rfl⟩:=ri;obtain⟨its,n,r,ho,hz⟩:=I.lst hp;obtain⟨h1,h2,h3,h4⟩:=qZ hj;have hl:=r.length;have hn:=ig;have I':Inv X J Y (aE H p (.lst (xs.set j v))) { s with heap:=s.heap.update p (NQ (·.setIfInBounds j u)) }:=
  I.lstUpd hp ho (pO its n j u) (r.set rv j) (by rw[Re]; exact hz) s.toks
 by_cases h0:0<=k
 ·have hk:k.toNat=j:=by
   rw[Q6 h0 h4]at h1;exact Mr h1
  exact PySem.W.ki_setAt ho h0 ∅ (by rw[KG,<- hl]; exact h4) (by rw[hk]; exact#[_,I',q])
 ·have hk:(k+(its.toArray.size:KD)).toNat=j:=by
   rw[Qs ∅ h3]at h1
   rw[KG,<- hl];exact Mr h1
  exact PySem.W.ki_setBack ho ∅ (by rw[KG,<- hl]; exact h3) ∅ (by rw[hk]; exact#[_,I',q])
def l3 (lo hi:Kk KD)(n:Kt):(sliceBounds lo hi gV n).1=((HT.bB n 0 lo:Kt):KD)/\(sliceBounds lo hi gV n).2.1=((HT.bB n n hi:Kt):KD)/\(sliceBounds lo hi gV n).2.2=1:=by
 show#[?_,?_,rfl]
 ·cases lo with
  | none=>simp[sliceBounds,HT.bB]
  | some i=>
   simp only[sliceBounds,HT.bB,OS,show(1:KD) > 0 by decide,Nf]
   by_cases h:i < 0
   ·simp only[h,Nf] <;> omega
   ·simp only[h,NZ] <;> omega
 ·cases hi with
  | none=>simp[sliceBounds,HT.bB]
  | some i=>
   simp only[sliceBounds,HT.bB,OS,show(1:KD) > 0 by decide,Nf]
   by_cases h:i < 0
   ·simp only[h,Nf] <;> omega
   ·simp only[h,NZ] <;> omega
def kL (its:Kg Ki)(lo hi:Kk KD):slicePick its.toArray lo hi gV=((its.drop (HT.bB its.length 0 lo)).take (HT.bB its.length its.length hi - HT.bB its.length 0 lo)).toArray:=by
 obtain⟨h1,h2,h3⟩:=l3 lo hi its.toArray.size;unfold slicePick;rw[h1,h2,h3];simp only[sliceRange_one,pick_run,KG] <;> rfl
abbrev Iw (K:Kr):V->Kk KD->Kk KD->Hp->VK->Prop:=λx lo hi H Q=>∃a xs,x=.ref a/\SqL K H a xs/\∀p,H p=gV->Q (.ref p) (aE H p (.lst (jA xs lo hi)))
def yU:Fi X (Iw X.K):=by
 intro J s Y H x v vl vu lo hi sl Q I rx hs pl pu h;obtain⟨a,xs,rfl,hx,q⟩:=h;cases rx;obtain⟨its,r,ht,hz⟩:=I.list hx;have hlen:=r.length;show#["list",_,slot_list_getitem.lookup,ht.isList.typeIs,?_];show wpAny_getItem_list_slice ht.isList hs pl pu .none (by simp) ?_ (by rw[KG] <;> omega)
 rw[kL,<- hlen];show#[.ref s.heap.objs.size,_,I.laid (t':=s.toks) (o:=.lst (jA xs lo hi)) (λb ob q=>Kl _ q) (Kz _) ?_,rfl,q _ (I.hok.fresh (Kz _))]
 exact#[KJ (iL xs lo hi) hz,_,0,(r.drop (HT.bB xs.length 0 lo)).take (HT.bB xs.length xs.length hi - HT.bB xs.length 0 lo),KA _ rfl]
abbrev fO:V->KR
 | .non=>true
 | .bl _=>true
 | .int _=>true
 | .str _=>true
 | _=>false
abbrev yV:V->V->KR
 | .non,.non=>true
 | .bl a,.bl b=>a==b
 | .bl a,.int b=>(if a then 1 else 0)==b
 | .int a,.bl b=>a==(if b then 1 else 0)
 | .int a,.int b=>a==b
 | .str a,.str b=>a==b
 | _,_=>false
def CB {A:K1}{s:Km}{y x:V}{u v:Ki}(ry:RelV y u)(rx:RelV x v)(fy:fO y=true)(fx:fO x=true):RC A s u v (yV y x):=by
 cases y with
 | non=>
  cases ry;cases x with
  | non=>cases rx; exact TD _
  | bl b=>cases rx; exact SH b
  | int b=>obtain⟨t,rfl⟩:=rx; exact SR b t
  | str b=>obtain⟨t,rfl⟩:=rx; exact SU b t
  | _=>exact absurd (show false=true from fx) KL
 | bl a=>
  cases ry;cases x with
  | non=>cases rx; exact SI a
  | bl b=>cases rx; exact SJ a b
  | int b=>obtain⟨t,rfl⟩:=rx; exact SV a b t
  | str b=>obtain⟨t,rfl⟩:=rx; exact SW a b t
  | _=>exact absurd (show false=true from fx) KL
 | int a=>
  obtain⟨t',rfl⟩:=ry;cases x with
  | non=>cases rx; exact SX a t'
  | bl b=>cases rx; exact SY a t' b
  | int b=>obtain⟨t,rfl⟩:=rx; exact Td a t' b t
  | str b=>obtain⟨t,rfl⟩:=rx; exact P2 a t' b t
  | _=>exact absurd (show false=true from fx) KL
 | str a=>
  obtain⟨t',rfl⟩:=ry;cases x with
  | non=>cases rx; exact SZ a t'
  | bl b=>cases rx; exact Ta a t' b
  | int b=>obtain⟨t,rfl⟩:=rx; exact P3 a t' b t
  | str b=>obtain⟨t,rfl⟩:=rx; exact Tf a t' b t
  | _=>exact absurd (show false=true from fx) KL
 | _=>exact absurd (show false=true from fy) KL
abbrev pP (x:V)(u:Ki):KR:=match u with
 | .none=>yV .non x
 | .bool b=>yV (.bl b) x
 | .int i _=>yV (.int i) x
 | .str z _=>yV (.str z) x
 | _=>false
def vg {x y:V}{u:Ki}(r:RelV y u)(f:fO y=true):pP x u=yV y x:=by
 cases y with
 | non=>cases r; rfl
 | bl b=>cases r; rfl
 | int i=>obtain⟨t,rfl⟩:=r; rfl
 | str z=>obtain⟨t,rfl⟩:=r; rfl
 | _=>exact absurd (show false=true from f) KL
def gE {x:V}:∀ {xs:Kg V} {us:Kg Ki},Vals xs us->xs.all fO=true->us.any (pP x)=xs.any λy=>yV y x
 | _,_,.nil,_=>rfl
 | y::xs,u::us,.cons r t,f=>by
  rw[La,Kj]at f;rw[Ml,Ml,vg r f.1,gE t f.2]
def eE {A:K1}{s:Km}{x:V}{v:Ki}(rx:RelV x v)(fx:fO x=true):∀ {xs:Kg V} {us:Kg Ki},Vals xs us->xs.all fO=true->∀u∈us,RC A s u v (pP x u)
 | _,_,.nil,_=>λu hu=>by cases hu
 | y::xs,u::us,.cons r t,f=>λu' hu=>by
  rw[La,Kj]at f;rcases Kx.mp hu with rfl|hu
  ·rw[vg r f.1]; exact CB r rx f.1 fx
  ·exact eE rx fx t f.2 u' hu
abbrev HA (x:V)(xs:Kg V):KR:=xs.any λy=>yV y x
abbrev Ix (K:Kr)(neg:KR):R2:=λx y H Q=>∃p xs,y=.ref p/\(SqL K H p xs\/SqT K H p xs)/\fO x=true/\xs.all fO=true/\Q (.bl (if neg then !HA x xs else HA x xs)) H
def sV:OpR X (compareOp .In) (Ix X.K false):=by
 intro J s Y H x y v u Q I rx ry h;obtain⟨p,xs,rfl,hq,fx,fs,q⟩:=h;cases ry;rcases hq with hq|hq
 ·obtain⟨its,r,pl,hz⟩:=I.list hq;show SeqAt.in_listAt (pP x) pl.isList (λw hw=>eE rx fx r fs w (by simpa using hw)) #[.bl _,H,I,rfl,?_]
  rw[show its.toArray.any (pP x)=its.any (pP x) by simp,gE r fs]
  exact q
 ·obtain⟨its,r,pl,hz⟩:=I.tuple hq;show SeqAt.in_tupleAt (pP x) pl (λw hw=>eE rx fx r fs w (by simpa using hw)) #[.bl _,H,I,rfl,?_]
  rw[show its.toArray.any (pP x)=its.any (pP x) by simp,gE r fs]
  exact q
def l4:OpR X (compareOp .NotIn) (Ix X.K true):=by
 intro J s Y H x y v u Q I rx ry h;obtain⟨p,xs,rfl,hq,fx,fs,q⟩:=h;cases ry;rcases hq with hq|hq
 ·obtain⟨its,r,pl,hz⟩:=I.list hq;show SeqAt.notIn_listAt (pP x) pl.isList (λw hw=>eE rx fx r fs w (by simpa using hw)) #[.bl _,H,I,rfl,?_]
  rw[show its.toArray.any (pP x)=its.any (pP x) by simp,gE r fs]
  exact q
 ·obtain⟨its,r,pl,hz⟩:=I.tuple hq;show SeqAt.notIn_tupleAt (pP x) pl (λw hw=>eE rx fx r fs w (by simpa using hw)) #[.bl _,H,I,rfl,?_]
  rw[show its.toArray.any (pP x)=its.any (pP x) by simp,gE r fs]
  exact q
def l5:CallR X (.type "list") (λxs H Q=>∃p ys,xs=[.ref p]/\(SqL X.K H p ys\/SqT X.K H p ys)/\∀l,H l=gV->Q (.ref l) (aE H l (.lst ys))):=by
 intro J s Y H xs us Q I r h;obtain⟨p,ys,rfl,hq,q⟩:=h;obtain⟨u,rfl,rx⟩:=jw r;cases rx;have fin:∀(its:Kg Ki),Vals ys its->ys.length<=sizeLine->∀(h':K7) (c':Kt),(∀b o',s.heap.get? b=bt o'->h'.get? b=bt o')->
   h'.get? s.heap.objs.size=bt { cls:=.type "list",dict:=gV,data:=.seq its.toArray c',slots:=#[] }->EP X J Y Q (.ref s.heap.objs.size) { s with heap:=h' }:=λits r' hz h' c' kp e=>
  #[.ref s.heap.objs.size,_,I.laid (t':=s.toks) kp (Kz _) (show ObjOk X.prog X.w _ h' _ (.lst ys)from#[hz,its,c',r',e]),rfl,q _ (I.hok.fresh (Kz _))]
 rcases hq with hq|hq
 ·obtain⟨its,r',pl,hz⟩:=I.list hq;have hlen:=r'.length;obtain⟨o,ho,hc,n,hd⟩:=pl.isList;exact R8 p (.inl rfl) ho hc hd (λh' c' kp e=>fin its r' hz h' c' kp e) (by simp only[KG] <;> omega)
 ·obtain⟨its,r',pl,hz⟩:=I.tuple hq;have hlen:=r'.length;obtain⟨o,ho,hc,n,hd⟩:=pl;exact R8 p (.inr rfl) ho hc hd (λh' c' kp e=>fin its r' hz h' c' kp e) (by simp only[KG] <;> omega)
def fP:CallR X (.type "tuple") (λxs H Q=>∃p ys,xs=[.ref p]/\((SqL X.K H p ys/\∀l,H l=gV->Q (.ref l) (aE H l (.tup ys)))\/(SqT X.K H p ys/\Q (.ref p) H))):=by
 intro J s Y H xs us Q I r h;obtain⟨p,ys,rfl,h⟩:=h;obtain⟨u,rfl,rx⟩:=jw r;cases rx;rcases h with⟨hq,q⟩|⟨hq,q⟩
 ·obtain⟨its,r',pl,hz⟩:=I.list hq;have hlen:=r'.length;show call_tuple_list pl.isList (λh' kp=>?_) (by simp only[KG] <;> omega)
  have I1:Inv X J Y H { s with heap:=h' }:=I.kept (t':=s.toks) kp
  have I2:Inv X J Y (aE H h'.objs.size (.tup ys)) { s with heap:=h'.push { cls:=.type "tuple",data:=.seq its.toArray } }:=
   I1.laid (t':=s.toks) (λb o e=>Kl _ e) (Kz _) (show ObjOk X.prog X.w _ _ _ (.tup ys)from#[#[hz,NoD.new _ _ _],its,r',QM _ _])
  exact#[.ref h'.objs.size,_,I2,rfl,q _ (I1.hok.fresh (Kz _))]
 ·obtain⟨its,r',pl,hz⟩:=I.tuple hq;exact call_tuple_same pl #[.ref p,H,I,rfl,q]
abbrev Iy (K:Kr)(T:LR)(x:V)(H:Hp):Prop:=match x with
 | .str _=>T = "str"
 | .int _=>T = "int"
 | .ref p=>(T = "list"/\∃xs,SqL K H p xs)\/(T = "tuple"/\∃o,K.lookup p=bt o/\o.cls=.type "tuple"/\o.dict=gV)\/
   (T = "dict"/\((∃U,H p=bt (.dK U))\/∃U,H p=bt (.dT U)))\/(T = "set"/\∃S n,H p=bt (.set S n))
 | _=>Lj
def vh {J:Kg (Kn×LJ)}{Y:St}{H:Hp}{s:Km}{T:LR}{x:V}{v:Ki}(I:Inv X J Y H s)(r:RelV x v)(ty:Iy X.K T x H) :
  s.TypeIs v T/\∀a,v=.ref a->∃ob,s.heap.get? a=bt ob/\ob.dict=gV:=by
 cases x with
 | str z=>
  obtain⟨t,rfl⟩:=r;cases(show T = "str" from ty)
  exact#[RB s z t,λ_ e=>nomatch e]
 | int i=>
  obtain⟨t,rfl⟩:=r;cases(show T = "int" from ty)
  exact#[RD s i t,λ_ e=>nomatch e]
 | ref p=>
  cases r;rcases ty with⟨rfl,xs,hq⟩|⟨rfl,o,hk,hc,hd⟩|⟨rfl,hk⟩|⟨rfl,S,n,hk⟩
  ·obtain⟨its,_,pl,_⟩:=I.list hq;show#[pl.isList.typeIs,λa e=>?_]
   cases e;obtain⟨o,n,e,c,hd,_⟩:=pl;exact#[o,e,hd]
  ·show#[#[o,I.kIn p o hk,hc],λa e=>?_]
   cases e;exact#[o,I.kIn _ o hk,hd]
  ·have z:∃o,s.heap.get? p=bt o/\o.ExactDict:=by
    rcases hk with⟨U,hk⟩|⟨U,hk⟩
    ·obtain⟨_,_,_,_,o,_,_,e,ex,_⟩:=I.hok p _ hk;exact#[o,e,ex]
    ·obtain⟨_,_,_,_,o,_,_,e,ex,_⟩:=I.hok p _ hk;exact#[o,e,ex]
   obtain⟨o,e,ex⟩:=z;show#[#[o,e,ex.1],λa e2=>?_]
   cases e2;exact#[o,e,ex.2.1]
  ·obtain⟨o,_,_,_,e,ex,_⟩:=I.hok p _ hk;show#[#[o,e,ex.1],λa e2=>?_]
   cases e2;exact#[o,e,ex.2.1]
 | _=>exact Lj.elim ty
variable{o e:KC}{es:Kg KC}{to:TE}{t:TA}{name:Ks}{apos cpos:L9}{T id:LR}{r:V->Kg V->Hp->VK->Prop}
end
abbrev Jx (X:Cx)(id:LR)(r:V->Kg V->Hp->VK->Prop):Prop:=
 ∀(J:Kg (Kn×LJ)) (s:Km) (Y:St) (H:Hp) (x:V) (xs:Kg V) (v:Ki) (us:Kg Ki) (Q:VK),Inv X J Y H s->RelV x v->Vals xs us->r x xs H Q->
  wpAny (model X.prog X.w) X.A (call (.builtin id) (v::us)) (EP X J Y Q) X.xe s
def Vals.one:∀ {x:V} {us:Kg Ki},Vals [x] us->∃u,us=[u]/\RelV x u
 | _,_,.cons r .nil=>#[_,rfl,r]
def Vals.rep {xs:Kg V}{us:Kg Ki}(h:Vals xs us):∀k:Kt,Vals (Lm k xs).flatten (Lm k us).flatten
 | 0=>.nil
 | k+1=>by
  rw[Mq,Mq,M3,M3];exact Vals.append h (Vals.rep h k)
def lc (its:Kg Ki):∀(k:Kt) (acc:Kg Ki),
  RE (λx1 x2=>x1++x2) acc.toArray (Lm k its.toArray)=(acc++(Lm k its).flatten).toArray
 | 0,acc=>by simp
 | k+1,acc=>by
  have e:acc.toArray++its.toArray=(acc++its).toArray:=by simp
  have e2:(acc++its)++(Lm k its).flatten=acc++(Lm (k+1) its).flatten:=by
   rw[Mq,M3,N3]
  rw[<- e2,<- lc its k (acc++its),<- e,Mq,Pb]
section
variable{X:Cx}{J:Kg (Kn×LJ)}{Y:St}{H:Hp}{s:Km}{l b:Kn}{xs ys zs:Kg V}
def Inv.lset {its its':Kg Ki}{n:Kt}{f:Ls Ki->Ls Ki}{t':Kt}(I:Inv X J Y H s)(hH:H l=bt (.lst xs))
  (e:s.heap.get? l=bt { cls:=.type "list",data:=.seq its.toArray n }) (hf:f its.toArray=its'.toArray) (hv:Vals ys its') (hz:ys.length<=sizeLine) :
  Inv X J Y (aE H l (.lst ys)) { s with heap:=s.heap.update l (NQ f),toks:=t' }:=by
 have q:=QP e f;rw[hf]at q;show I.write (x:=l) (e:=l) (by rw[hH]; exact trivial) (.inl rfl) (λb' u hb hu=>(Le s.heap (NQ f) (Ne.symm hb)).trans hu) #[_,q] ?_
 exact#[hz,its',_,hv,q]
def Inv.lnew {its:Kg Ki}{t':Kt}(I:Inv X J Y H s)(hv:Vals ys its)(hz:ys.length<=sizeLine) :
  Inv X J Y (aE H s.heap.objs.size (.lst ys)) { s with heap:=s.heap.push { cls:=.type "list",data:=.seq its.toArray },toks:=t' }:=
 I.laid (λ_ _ q=>Kl _ q) (Kz _) #[hz,its,0,hv,KA _ rfl]
def Inv.fresh (I:Inv X J Y H s):H s.heap.objs.size=gV:=I.hok.fresh (Kz _)
def Inv.lstM (I:Inv X J Y H s)(hH:H l=bt (.lst xs)):xs.length<=sizeLine/\∃(its:Kg Ki) (n:Kt),Vals xs its/\xs.length=its.length/\s.heap.get? l=bt { cls:=.type "list",data:=.seq its.toArray n }:=by
 obtain⟨z,its,n,r,e⟩:=I.hok l _ hH;exact#[z,its,n,r,r.length,e]
def nD {n:Kt}(h:n<=sizeLine):M9 n=false:=by
 unfold M9;exact Lo ∅
end
section
variable{X:Cx}
abbrev yW:V->Kg V->Hp->VK->Prop:=λx vs H Q=>∃l xs y,x=.ref l/\vs=[y]/\H l=bt (.lst xs)/\xs.length < sizeLine/\Q .non (aE H l (.lst (xs++[y])))
def sW:Jx X "list.append" yW:=by
 intro J s Y H x vs v us Q I rx rv h;obtain⟨l,xs,y,rfl,rfl,hH,hz,q⟩:=h;cases rx;obtain⟨u,rfl,ru⟩:=rv.one;obtain⟨z,its,n,r,hl,e⟩:=I.lstM hH;show O0 F.slot_list_append #[_,e,rfl] F.entry_list_append (F.args_list_append_2 _ _) (Qt l its.toArray n u (by rw[KG]; omega)) #[e,?_]
 show#[.non,_,I.lset (its':=its++[u]) hH e (by simp) (r.append #v[ru]) ?_,rfl,q]
 rw[Kw,List.length_singleton];omega
abbrev yX:V->Kg V->Hp->VK->Prop:=λx vs H Q=>∃l b xs zs,x=.ref l/\vs=[.ref b]/\H l=bt (.lst xs)/\H b=bt (.lst zs)/\xs.length+zs.length<=sizeLine/\Q .non (aE H l (.lst (xs++zs)))
def sX:Jx X "list.extend" yX:=by
 intro J s Y H x vs v us Q I rx rv h;obtain⟨l,b,xs,zs,rfl,rfl,hH,hB,hz,q⟩:=h;cases rx;obtain⟨u,rfl,ru⟩:=rv.one;cases ru;obtain⟨z,its,n,r,hl,e⟩:=I.lstM hH;obtain⟨z2,its2,n2,r2,hl2,e2⟩:=I.lstM hB;have hsz:its.toArray.size+its2.toArray.size<=sizeLine:=by rw[KG,KG]; omega
 have hlong:¬ (!its.toArray.isEmpty&&M9 (its.toArray.size+its2.toArray.size))=true:=by
  rw[nD hsz,N4];exact KL
 show O0 F.slot_list_extend #[_,e,rfl] F.entry_list_extend (F.args_list_extend_2 _ _)
  (Qu l its.toArray n b its2.toArray n2 hlong (by rw[KG]; omega) ∅) #[e,e2,?_]
 show#[.non,_,I.lset (its':=its++its2) hH e (by simp) (r.append r2) ?_,rfl,q]
 rw[Kw];omega
abbrev Iz:R2:=λx y H Q=>∃l b xs zs,x=.ref l/\y=.ref b/\H l=bt (.lst xs)/\H b=bt (.lst zs)/\xs.length+zs.length<=sizeLine/\∀p,H p=gV->Q (.ref p) (aE H p (.lst (xs++zs)))
def CC:OpR X (binaryOp .Add) Iz:=by
 intro J s Y H x y v u Q I rx ry h;obtain⟨l,b,xs,zs,rfl,rfl,hH,hB,hz,q⟩:=h;cases rx;cases ry;obtain⟨z,its,n,r,hl,e⟩:=I.lstM hH;obtain⟨z2,its2,n2,r2,hl2,e2⟩:=I.lstM hB;show PySem.P.add_list e e2 ?_ (by rw[KG,KG]; omega)
 have ea:its.toArray++its2.toArray=(its++its2).toArray:=by simp
 rw[ea];exact#[.ref _,_,I.lnew (t':=s.toks) (r.append r2) (by rw[Kw]; omega),rfl,q _ I.fresh]
abbrev IA:R2:=λx y H Q=>∃l k xs,x=.ref l/\y=.int k/\H l=bt (.lst xs)/\-(2 ^ 63)<=k/\k < 2 ^ 63/\xs.length*k.toNat<=sizeLine/\
 ∀p,H p=gV->Q (.ref p) (aE H p (.lst (Lm k.toNat xs).flatten))
def yY {α:Type}(xs:Kg α)(k:Kt):(Lm k xs).flatten.length=k*xs.length:=by
 induction k with
 | zero=>simp
 | succ k ih=>rw[Mq,M3,Kw,ih,Nat.succ_mul,Nat.add_comm]
def CD:OpR X (binaryOp .Mult) IA:=by
 intro J s Y H x y v u Q I rx ry h;obtain⟨l,k,xs,rfl,rfl,hH,h1,h2,hz,q⟩:=h;cases rx;obtain⟨t,rfl⟩:=ry;obtain⟨z,its,n,r,hl,e⟩:=I.lstM hH;have hlen:its.toArray.size*k.toNat<=sizeLine:=by rw[KG,<- hl]; exact hz
 have hcap:¬ its.toArray.size*k.toNat > (2 ^ 63 - 1) / 8:=by
  have:(sizeLine:Kt)<=(2 ^ 63 - 1) / 8:=by decide
  omega
 have hfit:¬ (!RF k)=true:=by
  rw[fitsIndex_both h1 h2];exact KL
 have hlong:¬ M9 (its.toArray.size*k.toNat)=true:=by
  rw[nD hlen];exact KL
 have hnew:RE (λx1 x2=>x1++x2) #[] (Lm (if its.toArray.isEmpty=true then 0 else k.toNat) its.toArray)=(Lm k.toNat its).flatten.toArray:=by
  have f0:∀m:Kt,RE (λx1 x2=>x1++x2) #[] (Lm m its.toArray)=(Lm m its).flatten.toArray:=λm=>by
   have:=lc its m [];rw[Pc]at this;exact this
  rw[f0];cases its with
  | nil=>simp
  | cons a r'=>rw[KY (by simp)]
 show wpAny_binaryOp_repeat_ref (T:="list") (U:="int") #v[] #[_,e,rfl] (λs'=>RD s' k t) noFill_list_mul F.fills_int_mul F.slot_int_rmul repeat_list F.slot_int_index.lookup
  (O0 F.slot_int_rmul (RD s k t) F.entry_int_rmul (F.args_int_rmul_2 _ _) (int___rmul___int_list k t l its.toArray n)
   #[e,rfl,#[_,e,rfl],O0 F.slot_list_mul #[_,e,rfl] F.entry_list_mul (F.args_list_mul_2 _ _) (Qh l its.toArray n k t hfit hcap hlong) #[e,?_]])
 rw[hnew];exact#[.ref _,_,I.lnew (t':=s.toks) (r.rep k.toNat) (by rw[yY,Nat.mul_comm]; exact hz),rfl,q _ I.fresh]
end
section
variable{κ:Type} [Ny κ]
abbrev kM (U:Kg (κ×V))(k:κ):Kk V:=(U.find? λkv=>decide (kv.1=k)).map (·.2)
abbrev l6 (U:Kg (κ×V))(k:κ)(v:V):Kg (κ×V):=
 if (U.any λkv=>decide (kv.1=k))=true then U.map (λkv=>if kv.1=k then(kv.1,v)else kv)else U++[(k,v)]
def jB {p:κ×V}{r:Kg (κ×V)}{k:κ}(e:p.1=k):kM (p::r) k=bt p.2:=by simp[kM,NP,e]
def jC {p:κ×V}{r:Kg (κ×V)}{k:κ}(e:¬ p.1=k):kM (p::r) k=kM r k:=by simp[kM,NP,e]
def jD (k:κ):∀U:Kg (κ×V),(U.any λkv=>decide (kv.1=k))=(kM U k).isSome
 | []=>rfl
 | p::r=>by
  rw[Ml]
  by_cases e:p.1=k
  ·simp only[jB e,Lp e,Sr,P9]
  ·rw[jC e,Lo e,OO]; exact jD k r
def putK_new {U:Kg (κ×V)}{k:κ}(v:V)(h:kM U k=gV):l6 U k v=U++[(k,v)]:=by
 unfold l6;rw[jD,h];exact KY #v[]
def KV.val {U:Kg (κ×V)}{vs:Kg (κ×Ki)}(r:KV U vs)(k:κ):RelO (kM U k) (valueAt vs k):=by
 unfold KV at r
 induction r with
 | nil=>exact Oc
 | @cons p q ps qs h t ih=>
  obtain⟨h1,h2⟩:=h
  by_cases e:p.1=k
  ·have e':q.1=k:=h1.symm.trans e;have b:valueAt (q::qs) k=bt q.2:=by simp[valueAt,NP,e']
   rw[jB e,b]; exact h2
  ·have e':¬ q.1=k:=λz=>e (h1.trans z)
   have b:valueAt (q::qs) k=valueAt qs k:=by simp[valueAt,NP,e']
   rw[jC e,b]; exact ih
def KV.any {U:Kg (κ×V)}{vs:Kg (κ×Ki)}(r:KV U vs)(k:κ):(U.any λkv=>decide (kv.1=k))=vs.any λkv=>decide (kv.1=k):=by
 unfold KV at r
 induction r with
 | nil=>rfl
 | cons h t ih=>rw[Ml,Ml,ih,h.1]
def KV.repl {U:Kg (κ×V)}{vs:Kg (κ×Ki)}(r:KV U vs)(k:κ){y:V}{u:Ki}(ry:RelV y u) :
  KV (U.map λkv=>if kv.1=k then(kv.1,y)else kv) (vs.map λkv=>if kv.1=k then(kv.1,u)else kv):=by
 unfold KV at r ⊢
 induction r with
 | nil=>exact .nil
 | @cons p q ps qs h t ih=>
  rw[Lz,Lz];show .cons ?_ ih;obtain⟨h1,h2⟩:=h
  by_cases e:p.1=k
  ·rw[KQ e,KQ (h1.symm.trans e)]; exact#[h1,ry]
  ·rw[KY e,KY (λz=>e (h1.trans z))]; exact#[h1,h2]
def KV.put {U:Kg (κ×V)}{vs:Kg (κ×Ki)}(r:KV U vs)(k:κ){y:V}{u:Ki}(ry:RelV y u):KV (l6 U k y) (stored vs k u):=by
 unfold l6 stored;rw[r.any k]
 by_cases e:(vs.any λkv=>decide (kv.1=k))=true
 ·rw[KQ e,KQ e]; exact r.repl k ry
 ·rw[KY e,KY e]; exact Paired.snoc r #[rfl,ry]
end
def Bc {P:KF}{w:KS}{k:ft}{u:Ki}(r:RelV (kV k) u):(bO P w).is k u=true:=by
 cases k with
 | inl i=>obtain⟨t,e⟩:=(show ∃t,u=Nq i t from r); subst e; exact nr P w i t
 | inr x=>obtain⟨t,e⟩:=(show ∃t,u=MQ x t from r); subst e; exact nu P w x t
section
variable{P:KF}{w:KS}{H:Hp}{h:K7}{a:Kn}
def Fn {u:HO}(ok:HOk P w H h)(e:Rd H a u):ObjOk P w H h a u:=e.ok ok
def Bd {U:Kg (ft×V)}(ok:HOk P w H h)(e:Rd H a (.dK U)):U.length<=sizeLine/\(a==sysModules)=false/\∃vs,KV U vs/\h.DictOf (bO P w) a vs:=
 show ObjOk P w H h a (.dK U)from Fn ok e
def Fo {U:Kg (ft×V)}(ok:HOk P w H h)(e:H a=bt (.dK U)):U.length<=sizeLine/\(a==sysModules)=false/\∃vs,KV U vs/\h.DictOf (bO P w) a vs:=Bd ok (.inl e)
end
section
variable{X:Cx}{J:Kg (Kn×LJ)}{Y:St}{H:Hp}{s:Km}{a:Kn}{y v:V}{u r:Ki}{o:Kk V}{A:K1}{E:Ki->Km->Prop}
def Inv.big (I:Inv X J Y H s):sysModules < s.heap.objs.size:=by
 have h:mainGlobals < s.heap.objs.size:=(I.mod.glob.keeps I.bk).lt;exact Qv #v[] h
def yZ {h':K7}{t':Kt}{ob:HO}(I:Inv X J Y H s)(mu:EU (H a))(hs:M2 a s.heap h')(he:∃q,h'.get? a=bt q)(new:ObjOk X.prog X.w (aE H a ob) h' a ob) :
  Inv X J Y (aE H a ob) { s with heap:=h',toks:=t' }:=
 I.write (x:=a) (e:=a) mu (.inl rfl) (λb q hb z=>(hs.2 b hb).trans z) he new
def CF {P:KF}{w:KS}{H':Hp}{h':K7}{U:Kg (ft×V)}{vs:Kg (ft×Ki)}(z:U.length<=sizeLine)(hd:(a==sysModules)=false)(rel:KV U vs)(dd:h'.DictOf (bO P w) a vs) :
  ObjOk P w H' h' a (.dK U):=#[z,hd,vs,rel,dd]
end
abbrev IB (i:KC):Prop:=∀ov iv,subscripted i false ov iv=operate [ov,iv] (getItem ov iv)
def y4 {prog:KF}{w:KS}{A:K1}{E:Ki->Km->Prop}{s:Km}{env:Ov}{value slice:KC}{pos:L9}{T id:LR}{Q:Ki->Km->Prop}
  (hl:typeLookup (.type T) "__getitem__" = pure (bt (.builtin id))) (hs:IB slice)
  (h:wpAny (model prog w) A (eval value env) (λo s₁=>wpAny (model prog w) A (eval slice env) (λi s₂=>s₂.TypeIs o T/\wpAny (model prog w) A (getItem o i) Q E s₂) E s₁) E s) :
  wpAny (model prog w) A (eval (.Subscript value slice pos) env) Q E s:=by
 show RA (Lf h (λo s₁ h₁=>Lf h₁ (λi s₂ h₂=>?_) λ_ _ x=>x) λ_ _ x=>x)
 obtain⟨hT,h₂⟩:=h₂;unfold subscriptTail;show Kh ?_;rw[getitemInPython_of_ne hT.not_modules];show Kh (Rf hT hl ?_);have fin:wpAny (model prog w) A (subscripted slice false o i) (λr s₃=>wpAny (model prog w) A (letTemporaryGo value o r >>= λ_=>pure r) Q E s₃) E s₂:=by
  rw[hs o i];exact wpAny_operating (Lf h₂ (λr s₃ h₃=>Kh (wpAny_letTemporaryGo (Kq h₃))) λ_ _ x=>x)
 first
  | exact Kq (Kh fin)
  | exact Kh (Kq (Kh fin))
  | exact Kh fin
def vi {P:KF}{w:KS}{H:Hp}(h:K7)(hb:sysModules < h.objs.size):ObjOk P w H (h.push { cls:=.type "dict",data:=.dict #[] }) h.objs.size (.dK []):=
 #[MP _,Mp.mpr (Ne.symm (KH hb)),[],.nil,TF h]
noncomputable abbrev VV:Kg (V×V)->Kg (Ki×Ki)->Prop:=OY λp q=>RelV p.1 q.1/\RelV p.2 q.2
abbrev l7 (U more:Kg (ft×V)):Kg (ft×V):=more.foldl (λacc kv=>l6 acc kv.1 kv.2) U
def KV.merge:∀ {more:Kg (ft×V)} {rs:Kg (ft×Ki)} {U:Kg (ft×V)} {vs:Kg (ft×Ki)},KV more rs->KV U vs->KV (l7 U more) (merged vs rs):=by
 intro more rs U vs r;unfold KV at r
 induction r generalizing U vs with
 | nil=>intro q; exact q
 | @cons p q ps qs h t ih=>
  intro r0;have e:KV (l6 U p.1 p.2) (stored vs q.1 q.2):=by
   have:=r0.put p.1 h.2;rw[<- h.1]; exact this
  exact ih e
def jE {P:KF}{w:KS}:∀ {U:Kg (ft×V)} {ws:Kg (Ki×Ki)},VV (U.map λkv=>(kV kv.1,kv.2)) ws->∃rs,Carries (bO P w) ws rs/\KV U rs
 | [],_,r=>by rw[Qw]at r; cases r; exact#[[],Oc,.nil]
 | p::U,_,r=>by
  rw[Lz]at r;cases r with
  | @cons a b as bs h t=>
   obtain⟨rs,c,q⟩:=jE (P:=P) (w:=w) t;obtain⟨b1,b2⟩:=b;exact#[(p.1,b2)::rs,#[Bc h.1,rfl,c],.cons #[rfl,h.2] q]
end L2
namespace Att
open PySem PySem.W PySem.Calls PyProof.Rows
def iW {P:Od}{h:K7}:∀(ns:Kg KD) (vs:Kg Ki),WellAll P h vs (ns.map WData.int)->Rq vs ns:=by
 intro ns
 induction ns with
 | nil=>
  intro vs w;rw[Qw]at w;cases w;exact .nil
 | cons n ns ih=>
  intro vs w;rw[Lz]at w;cases w with
  | cons a b=>
   cases a;exact .cons _ _ (ih _ b)
def sY {l:OpenLaw}{n:Kt}(hn:l.most=bt n){P:Od}{h:K7}{args:Kg WData}{vals:Kg Ki}
  (hpre:l.row.toRowW.claim.pre args=true) (hwl:WellAll P h vals args) :
  ∃a vs ns,vals=[KZ a]/\args=[WData.list (ns.map WData.int)]/\h.get? a=bt { cls:=.type "list",data:=.seq vs.toArray }/\Rq vs ns/\ns.length<=n:=by
 have hsh:WShape.hasAll [] args [.list .int]=true:=(pre_splitW hpre).1;have hc:l.pre.holds [] { args:=args }=true:=(pre_splitW hpre).2;obtain⟨d,r,rfl,h1,h2⟩:=hasAllW_cons hsh;obtain rfl:=hasAllW_nil h2;obtain⟨xs,rfl,h3⟩:=hasW_list h1;obtain⟨ns,rfl⟩:=items_int h3;have hlen:ns.length<=n:=by
  unfold OpenLaw.pre at hc;have h4:(WTm.not (.lt (.lit (.int (n:KD))) (.len (.arg 0)))).holds [] { args:=[.list (ns.map .int)] }=true:=by
   have h4:=(holds_andW hc).1;rw[hn]at h4;exact h4
  have h5:=condW_of h4 (w_not (w_lt w_lit (w_len_list (w_arg rfl))));rw[Kv]at h5;show QQ λq=>?_
  have q':(n:KD) < ((ns.length:Kt):KD):=∅
  first
   | (rw[Lp q']at h5; exact absurd h5 #v[])
   | (simp at h5; omega)
 cases hwl with
 | cons w1 w2=>
  cases w2;cases w1 with
  | list ho hall=>exact#[_,_,ns,rfl,rfl,ho,iW ns _ hall,hlen]
def sZ (l:OpenLaw)(args:Kg WData):l.row.toRowW.claim.post args (.bool true) args=true:=
 postW_of (r:=l.row.toRowW) (X:=(true==true))
  (show WShape.has [] (.bool true) .bool=true by first|rfl|decide|simp[WShape.has,WShape.arms,WShape.armsAll])
  (show(WTm.eq .res (.lit (.bool true))).value [] { args:=args,res:=bt (.bool true),after:=args }=bt (.bool (true==true))from w_eq_bool (w_res rfl) w_lit) rfl
def attach_call {l:OpenLaw}{n:Kt}{q:KF}{loose:Kg Ks}{XP:(Ks->Kk Ki)->K7->Prop}{YP:KS->K7->Prop}{d:DefRec}
  (hn:l.most=bt n) (hdf:d.params.defaults=[])
  (call:∀(w:KS) (s₀ s₁:Km) (mg mb:Ks->Kk Ki) (fa:Kn) (o:LJ) (pm cd doc:Ki) (a:Kn) (vs:Kg Ki) (ns:Kg KD),
   Ground q loose [] XP w s₀ mg mb s₁.heap->YP w s₁.heap->
   s₁.heap.get? fa=bt o->o.data=.func (docDef d.name d.params d.body d.scope pm cd doc)->s₁.heap.CodeRec cd d.name->mg d.name=bt (.ref fa)->
   s₁.heap.get? a=bt { cls:=.type "list",data:=.seq vs.toArray }->Rq vs ns->ns.length<=n->s₁.gens=#[]->
   codeAny (model l.prog w) callerA (.call (.ref fa) #[[.ref a],[]]) (λr s'=>r=.ok (.ret (.bool true))/\OldK s₁.heap s'.heap/\s'.os=s₁.os/\Oq s'.gens) s₁) :
  WalkO q loose XP YP l.row.toRowW d [] (λf vs=>RG f vs):=by
 intro w s₀ s₁ mg mb G Yj fa o pm cd doc dV kV ho hd hcd hD hmg hg args vals as hpre hlay hrd hwl hlo;obtain rfl:dV=.none:=Dflts.none hD hdf;obtain rfl:kV=.none:=Dflts.noKw hD;obtain⟨a,vs,ns,rfl,rfl,hobj,hints,hlen⟩:=sY hn hpre hwl;show enter_call (MO (call w s₀ s₁ mg mb fa o pm cd doc a vs ns G Yj ho (fd_plain hd) hcd hmg hobj hints hlen hg) λr s' hq=>?_)
 obtain⟨rfl,h2,h3,h4⟩:=hq;exact#[.inl #[.bool true,.bool true,[],rfl,λ_=>rfl,.bool true,sZ l _,λ_=>#[Tl,λ_ hm=>(nomatch hm)]],h2,h3,h4]
end Att
namespace L2
open PySem PySem.Spec PyProof.Rows
def lg:∀ {vs:Kg Ki} {ns:Kg KD},Rq vs ns->Vals (ns.map V.int) vs
 | _,_,.nil=>.nil
 | _,_,.cons n t h=>.cons #[t,rfl] (lg h)
abbrev vj (H:Hp):Prop:=∀b,H b=gV\/∃o xs,H b=bt (.frz o (.lst xs))
def vk {P:KF}{w:KS}{K:Kr}{mg mb:Ks->Kk Ki}{CX:pL}{k:Kt}{fa a:Kn}{fd:Lv}{x:Ks}{sp:Sp}{s₁:Km}{vs:Kg Ki}{ns:Kg KD}
  (KX:K.In s₁.heap) (hns:s₁.heap.Ns mainGlobals mg) (hb:s₁.heap.Ns builtinsNs mb) (hbb:∀x:Ks,x≠"__name__"->mb x=bootBuiltins x) (hlim:s₁.heap.NoLimit) (hg:s₁.gens=#[])
  (ha:s₁.heap.get? a=bt { cls:=.type "list",data:=.seq vs.toArray }) (hi:Rq vs ns) (hl:ns.length<=sizeLine) (hr:Room k callerA)
  (F:∀base:K7,K.In base->base.Ns mainGlobals mg->FnOk P w K mg base CX k fa fd [x] sp) (hbind:∀(s:Km) (u:Ki),Qn s fd #[[u],[]] [(x,u)])
  (hsp:∀H:Hp,vj H->SqL K H a (ns.map V.int)->sp [.ref a] H (λv _=>v=.bl true) λ_ _ _=>Lj)
  (hCX:∀H e s',CX [] H s₁ (λ_ _ _=>Lj) e s'->Lj) :
  codeAny (model P w) callerA (.call (.ref fa) #[[.ref a],[]]) (λr s'=>r=.ok (.ret (.bool true))/\OldK s₁.heap s'.heap/\s'.os=s₁.os/\Oq s'.gens) s₁:=by
 have rv:=lg hi;have lenV:=hi.length;have core:∀H:Hp,vj H->SqL K H a (ns.map V.int)->HOk P w H s₁.heap->(∀b,H b≠gV->b=a)->(H a≠gV->K.lookup a=gV)->
   codeAny (model P w) callerA (.call (.ref fa) #[[.ref a],[]]) (λr s'=>r=.ok (.ret (.bool true))/\OldK s₁.heap s'.heap/\s'.os=s₁.os/\Oq s'.gens) s₁:=by
  intro H hO hS hok hA hK;have base_of:∀ {b:Kn} {o:LJ},s₁.heap.get? b=bt o->H b=gV->(lU s₁.heap H).get? b=bt o:=λe n=>uP e n
  have noA:∀ {b:Kn} {o:LJ} {es:Ls MG} {ep:Kt},s₁.heap.get? b=bt o->o.data=.dict es ep->H b=gV:=λ{b o es ep} e d=>by
   cases q:H b with
   | none=>rfl
   | some u=>
    have e':b=a:=hA b (by rw[q]; simp)
    subst e';rw[ha]at e; cases e
    have d':Data.seq vs.toArray _=Data.dict es ep:=d;cases d'
  have nsK:∀ {b:Kn} {m:Ks->Kk Ki},s₁.heap.Ns b m->(lU s₁.heap H).Ns b m:=λ{b m} #[o,es,ep,e,d,r]=>#[o,es,ep,base_of e (noA e d),d,r]
  have hKb:K.In (lU s₁.heap H):=λb o e=>base_of (KX b o e) (by
   cases q:H b with
   | none=>rfl
   | some u=>
    have e':b=a:=hA b (by rw[q]; simp)
    subst e';rw[hK (by rw[q]; simp)]at e; cases e)
  have hM:Mod K mg (lU s₁.heap H):=#[hKb,nsK hns,#[mb,nsK hb,hbb],let ⟨mc,h1,h2⟩:=hlim; #[mc,nsK h1,h2]]
  have e0:Env0 P w K mg (lU s₁.heap H) callerA [] s₁ H:=#[rfl,hM,λb o e=>yB e,Nat.le_of_eq (sK _ _),trivial,λb hb=>absurd (show b∈([]:Kg Kn)from hb) (by simp),hok,.of_eq hg]
  show MO ((F _ hKb (nsK hns)).run callerA [] s₁ H #[[.ref a],[]] [.ref a] [.ref a] _ _ hr e0 (hbind s₁ (.ref a)) #v[rfl] (hsp H hO hS)) λr s' h=>?_
  cases r with
  | error e=>exact(hCX H e s' h).elim
  | ok fl=>
   cases fl with
   | next=>exact Lj.elim h
   | brk=>exact Lj.elim h
   | cont=>exact Lj.elim h
   | ret u=>
    obtain⟨v,H',os,bare,un,hok',r',q⟩:=h;have q':v=.bl true:=q;subst q';obtain rfl:u=Mg true:=r';show#[rfl,OldK.of_keep λb o e=>?_,os,bare]
    cases q:H b with
    | none=>exact un.keep b o e q (by intro z; exact absurd (show b∈([]:Kg Kn)from z) (by simp)) (by simp)
    | some u=>
     rcases hO b with z|⟨ob,xs,z⟩
     ·rw[q]at z; cases z
     ·have z2:=un.frzs b ob _ z;obtain⟨e1,_⟩:=hok b _ z;obtain⟨e2,_⟩:=hok' b _ z2;rw[e]at e1; cases e1
      exact e2
 cases hk:K.lookup a with
 | some o=>
  have e:=KX a o hk;rw[ha]at e;cases e;show core (λ_=>gV) (λ_=>.inl rfl) (.inr #[_,vs.toArray,_,hk,rfl,rfl,rfl,by rw[KG,lenV]; exact hl,by simpa using rv]) (λb u z=>by have z':(gV:Kk HO)=bt u:=z; cases z') (λb z=>absurd rfl z) λz=>absurd rfl z
 | none=>
  show core (λb=>if b=a then bt (.frz { cls:=.type "list",data:=.seq vs.toArray } (.lst (ns.map V.int)))else gV) (λb=>?_) (.inl (.inr #[{ cls:=.type "list",data:=.seq vs.toArray },KQ rfl])) (λb u z=>?_) (λb z=>?_) λ_=>hk
  ·by_cases hb:b=a
   ·exact .inr #[_,_,KQ hb]
   ·exact .inl (KY hb)
  ·by_cases hb:b=a
   ·have z':=(KQ hb).symm.trans z;cases z';subst hb;exact#[ha,by rw[Kv]; exact hl,vs,_,rv,ha]
   ·have z':=(KY hb).symm.trans z;cases z'
  ·by_cases hb:b=a
   ·exact hb
   ·exact absurd (KY hb) z
def y6 {l:Pd}{n k:Kt}{q:KF}{loose:Kg Ks}{XP:(Ks->Kk Ki)->K7->Prop}{YP:KS->K7->Prop}{d:DefRec}{K:Od->Kr}{CX:KS->pL}{sp:KS->Sp}{x:Ks}
  (hn:l.most=bt n) (hn2:n<=sizeLine) (hdf:d.params.defaults=[]) (hr:Room k callerA)
  (hY:∀(w:KS) (h:K7),YP w h->(K w.params).In h)
  (F:∀(w:KS) (mg:Ks->Kk Ki) (fa:Kn) (h:K7),(K w.params).In h->h.Ns mainGlobals mg->mg d.name=bt (.ref fa)->
   ∃fd:Lv,(∀(s:Km) (u:Ki),Qn s fd #[[u],[]] [(x,u)])/\
    ∀base:K7,(K w.params).In base->base.Ns mainGlobals mg->FnOk l.prog w (K w.params) mg base (CX w) k fa fd [x] (sp w))
  (hsp:∀(w:KS) (H:Hp) (a:Kn) (ns:Kg KD),ns.length<=n->vj H->SqL (K w.params) H a (ns.map V.int)->sp w [.ref a] H (λv _=>v=.bl true) λ_ _ _=>Lj)
  (hCX:∀(w:KS) (H:Hp) (s:Km) (e:Ki) (s':Km),CX w [] H s (λ_ _ _=>Lj) e s'->Lj) :
  R9 q loose XP YP l.row.toRowW d [] (λf vs=>RG f vs):=by
 show Att.attach_call hn hdf λw s₀ s₁ mg mb fa o pm cd doc a vs ns G Yj ho hd hcd hmg hobj hints hlen hg=>?_
 have KX:=hY w _ Yj;obtain⟨fd,hb,hF⟩:=F w mg fa _ KX G.T.g hmg;exact vk KX G.T.g G.T.b G.T.builtins G.T.nolimit hg hobj hints (KJ hlen hn2) hr hF hb (λH hO hS=>hsp w H a ns hlen hO hS) λH e s'=>hCX w H s₁ e s'
abbrev cf (s:LO):Arguments:=match s with
 | .FunctionDef _ a _ _ _ _ _ _ _ _=>a
 | _=>{ posonlyargs:=[],args:=[],vararg:=gV,kwonlyargs:=[],kw_defaults:=[],kwarg:=gV,defaults:=[] }
abbrev aM (s:LO):Kg LO:=match s with
 | .FunctionDef _ _ b _ _ _ _ _ _ _=>b
 | _=>[]
abbrev ap (s:LO):M1:=match s with
 | .FunctionDef _ _ _ _ _ _ sc _ _ _=>sc
 | _=>{ kind:=.function,names:=[],isGenerator:=false,isCoroutine:=false }
noncomputable abbrev jF:pL:=λ_ _ _ _ _ _=>Lj
noncomputable abbrev E0:XK:=λ_ _ _=>Lj
def q8 {X:Cx}:gb jF X E0:=λ_ _ _ _ _ _ _ h=>h.elim
structure Fun (K:Kr)(x qual:Ks)(st:LO)(f:Kn)(fd:Lv):Prop where
 ex:∃(oc:Ki) (od:Kk Kn) (kV doc pm:Ki) (an:Kk Kn) (cdv ct:Ki) (osl:Ls (Kk Ki)),
  fd=Mo x qual (cf st) (aM st) (ap st) .none kV doc pm an cdv ct/\K.lookup f=bt #[oc,od,.func fd,osl]/\Ng K cdv qual=true
 kp:Lw K (.ref f)=true
section
variable{P:KF}{w:KS}{K:Kr}{mg:Ks->Kk Ki}{base:K7}
def Fun.ok {x qual:Ks}{st:LO}{f:Kn}{fd:Lv}{N ps:Kg Ks}{k:Kt}{sp:Sp}(F:Fun K x qual st f fd)(S:FnScope N ps (ap st))(len:∀vs H Q E,sp vs H Q E->vs.length=ps.length)
  (hbody:∀(cdv:Ki) (A:K1) (outer:Kg Ov) (s:Km) (H:Hp) (vs:Kg V) (Q:VK) (E:XK),Room k (A.deeper (envOfC qual (ap st) s.heap.objs.size f cdv))->sp vs H Q E->
   ∃t,PSs (eC jF P w K mg base N qual (ap st) f cdv A outer s H E).nox (aM st) t/\t { nx:=λ_ H'=>Q .non H',rt:=Q } (eB N vs) H):FnOk P w K mg base jF (k+1) f fd ps sp:=by
 obtain⟨oc,od,kV,doc,pm,an,cdv,ct,osl,rfl,lk,hcd⟩:=F.ex;show Bb lk hcd S len λA outer s H vs Q E hr hsp=>?_
 obtain⟨t,h,q⟩:=hbody cdv A outer s H vs Q E hr hsp;exact#[t,h.nox,q]
def Fun.binds {x qual:Ks}{st:LO}{f:Kn}{fd:Lv}{ps:Kg Ks}(F:Fun K x qual st f fd)
  (h:∀(kV doc pm:Ki) (an:Kk Kn) (cdv ct:Ki) (us:Kg Ki),us.length=ps.length->bindArgs (Mo x qual (cf st) (aM st) (ap st) .none kV doc pm an cdv ct) #[us,[]]=pure (ps.zip us)):Binds K fd ps []:=by
 obtain⟨oc,od,kV,doc,pm,an,cdv,ct,osl,rfl,lk,hcd⟩:=F.ex;exact .all (h kV doc pm an cdv ct)
def pQ {x qual:Ks}{st:LO}{f:Kn}{oc:Ki}{od an:Kk Kn}{osl:Ls (Kk Ki)}{kV doc pm cdv ct:Ki}(l:K.lookup f=bt #[oc,od,.func (Mo x qual (cf st) (aM st) (ap st) .none kV doc pm an cdv ct),osl])
  (c:Ng K cdv qual=true) (k:Lw K (.ref f)=true):Fun K x qual st f (Mo x qual (cf st) (aM st) (ap st) .none kV doc pm an cdv ct):=#[#[oc,od,kV,doc,pm,an,cdv,ct,osl,rfl,l,c],k]
end
section
variable{X:Cx}
def pv (i:Kt){x:Ks}{pos:L9}(hN:X.N[i]?=bt x:=by rfl)(hv:Hx X.env.scope x)(hd:(x==("__debug__" : Ks))=false:=by decide)
  (hcd:(x==("__classdict__" : Ks))=false:=by decide):PE X (.Name x pos) (nv i):=fX hN hv hd hcd
end
abbrev JQ (H H':Hp):Prop:=∀b o,H b=bt o->H' b=bt o
end L2
open PySem PySem.W PyProof.Rows L2
set_option maxHeartbeats 0
namespace Mi
section
abbrev top (i:Kt):LO:=PySem.Challenge.pw_layworld_k51_sentences_looked_at.main.body.getD i (.Pass #[0,0,0,0])
abbrev pw:KF:=Ot
abbrev ge (P:Od)(n:Ks)(t:Kt)(v:Ki):MG:=#[PyData.keyHash P n,.str n t,v]
abbrev kd (a:Kt)(es:Kg MG)(n:Kt):Kn×LJ:=(a,#[.type "dict",gV,.dict es.toArray n,#[]])
abbrev kc (a:Kt)(vs:Kg Ki):Kn×LJ:=(a,#[.type "code",gV,.fields vs.toArray,#[]])
abbrev kf (a:Kt)(st:LO)(n:Ks)(pm cd:Ki):Kn×LJ:=(a,#[.type "function",gV,.func (Mo n n (cf st) (aM st) (ap st) .none .none .none pm gV cd .none),#[]])
abbrev IC (i:Kt):Ki:=if i<=8 then(.str "layworld.kinds" 330)else if i<=13 then(.str "layworld.rules" 339)else if i<=25 then(.str "layworld.sentences" 361)else(.str "law_layworld_k51_sentences_looked_at" 444)
abbrev kx (a:Kt)(b:KR)(i:Kt)(s:Ks)(t:Kt)(l p:KD)(m:Kt)(R:Kr):Kr:=kc a [.str s t,.str s (t+1),.str "/claim/cut.py" (t+2),.int l 0,.int p 0,.int 0 0,.int 0 0,.int 3 0,.ref (if b then a - 5 else a - 3),.bool true,.int 181 0,.ref (if b then a - 4 else a - 2),.none,if b then .ref (a - 3)else .none,if b then .ref (a - 2)else .none,.ref (a - 1),.int m 0,.int l 0,.str "/claim/cut.py" (m+1)]::kf (a+1) (top i) s (IC i) (.ref a)::R
abbrev kq (a:Kt)(vs:Kg Ki)(n:Kt)(R:Kr):Kr:=(a,#[.type "tuple",gV,.seq vs.toArray n,#[]])::R
abbrev Be:Kg Ki:=[(.str "marks" 345),(.str "ways" 346),(.str "bar" 347),(.str "some" 348),(.str "each" 349),(.str "not" 350),(.str "and" 351),(.str "or" 352),(.str "is" 353)]
abbrev Bf:Kg Ki:=[(.str "same" 367),(.str "mark" 368),(.str "way" 369)]
abbrev Bg:Kg Ki:=[(.str "some" 371),(.str "each" 372)]
abbrev kj (a:Kt)(es:Kg MG)(n:Kt)(R:Kr):Kr:=kd a es n::R
abbrev Bh (P:Od):Kg MG:=[ge P "same" 374 (.str "xx" 375),ge P "mark" 376 (.str "xm" 377),ge P "way" 378 (.str "xxw" 379),ge P "not" 380 (.str "i" 381),ge P "and" 382 (.str "ii" 383),ge P "or" 384 (.str "ii" 385),ge P "some" 386 (.str "xi" 387),ge P "each" 388 (.str "xi" 389)]
abbrev ID (i:Kt):LO:=match top i with
 | .ClassDef _ _ _ b ..=>b.getD 0 (.Pass #[0,0,0,0])
 | s=>s
abbrev ke (C:Kt)(nm:Ks)(N:Kt)(bs bm sub:Kg Ki)(k0:Kt)(t2 t3:Kt):Kn×LJ:=(C,excClassObj nm nm C N bs bm true [] sub false gV gV (bt (.ref k0)) gV (bt (.str nm t2)) (bt (.str nm t3)) (bt (.bool true)) "ValueError.__new__")
abbrev kg (a:Kt)(st:LO)(q:Ks)(pm cd:Ki):Kn×LJ:=(a,#[.type "function",gV,.func (Mo "__init__" q (cf st) (aM st) (ap st) .none .none .none pm gV cd .none),#[]])
abbrev JR (P:Od):Kr:=[(2,#[.none,gV,.dict #[] 0,#[]]),
 kd 23 [ge P "__module__" 196 (.str "layworld.errors" 187),ge P "__firstlineno__" 200 (.int 2 199),ge P "__static_attributes__" 201 (.ref 22),ge P "__weakref__" 203 (.ref 25),ge P "__doc__" 204 .none] 3,
 ke 24 "LayError" 23 [(.type "ValueError")] [(.type "ValueError"),(.type "Exception"),(.type "BaseException"),(.type "object")] [(.ref 44),(.ref 63),(.ref 82),(.ref 101),(.ref 120)] 15 189 197,
 kd 100 [ge P "__module__" 289 (.str "layworld.errors" 187),ge P "__firstlineno__" 293 (.int 19 292),ge P "__init__" 301 (.ref 98),ge P "__static_attributes__" 303 (.ref 99),ge P "__doc__" 304 .none] 2,
 kc 97 [(.str "__init__" 294),(.str "NoSentence.__init__" 295),(.str "/claim/cut.py" 296),(.int 21 0),(.int 2 0),(.int 0 0),(.int 0 0),(.int 3 0),(.ref 92),(.bool true),(.int 181 0),(.ref 93),.none,(.ref 94),(.ref 95),(.ref 96),(.int 299 0),(.int 21 0),(.str "/claim/cut.py" 300)],
 kg 98 (ID 5) "NoSentence.__init__" (.str "layworld.errors" 187) (.ref 97),
 ke 101 "NoSentence" 100 [(.ref 24)] [(.ref 24),(.type "ValueError"),(.type "Exception"),(.type "BaseException"),(.type "object")] [] 85 282 290,
 ke 82 "BadText" 81 [(.ref 24)] [(.ref 24),(.type "ValueError"),(.type "Exception"),(.type "BaseException"),(.type "object")] [] 66 257 265,
 ke 120 "NoRow" 119 [(.ref 24)] [(.ref 24),(.type "ValueError"),(.type "Exception"),(.type "BaseException"),(.type "object")] [] 104 307 315,
 ke 44 "NoRule" 43 [(.ref 24)] [(.ref 24),(.type "ValueError"),(.type "Exception"),(.type "BaseException"),(.type "object")] [] 28 207 215,
 ke 63 "NoWorld" 62 [(.ref 24)] [(.ref 24),(.type "ValueError"),(.type "Exception"),(.type "BaseException"),(.type "object")] [] 47 232 240]
abbrev K0 (P:Od):Kr:=kd 3 [ge P "__name__" 165 (.str "law_layworld_k51_sentences_looked_at" 444),ge P "__doc__" 166 .none,ge P "__package__" 167 .none,ge P "__loader__" 168 (.builtin "__main__.__loader__#opaque"),ge P "__spec__" 169 .none,ge P "__annotations__" 170 (.ref 6),ge P "__builtins__" 171 (.ref 4),ge P "__file__" 173 (.str "/claim/cut.py" 172),ge P "__cached__" 174 .none,ge P "LayError" 206 (.ref 24),ge P "NoRule" 231 (.ref 44),ge P "NoWorld" 256 (.ref 63),ge P "BadText" 281 (.ref 82),ge P "NoSentence" 306 (.ref 101),ge P "NoRow" 329 (.ref 120),ge P "is_whole" 338 (.ref 129),ge P "LETTERS" 342 (.str "abcdefghijklmnopqrstuvwxyz" 341),ge P "LONGEST_NAME" 344 (.int 8 343),ge P "WORDS" 354 (.ref 130),ge P "is_name" 360 (.ref 135),ge P "LONGEST_POINT_NAME" 364 (.int 3 363),ge P "MOST_FREE_NAMES" 366 (.int 3 365),ge P "PLAIN" 370 (.ref 136),ge P "BINDING" 373 (.ref 137),ge P "FORMS" 398 (.ref 138),ge P "look_sentence" 409 (.ref 145),ge P "is_row" 415 (.ref 150),ge P "is_field" 424 (.ref 157),ge P "is_point_name" 431 (.ref 164),ge P "names_of" 437 (.ref 169),ge P "part_rows" 443 (.ref 174),ge P "_law_flow" 452 (.ref 181),ge P "_law_pick" 462 (.ref 188),ge P "_law_letters" 468 (.ref 193),ge P "_law_unlike" 477 (.ref 200),ge P "_law_rule" 483 (.ref 205),ge P "_law_place_names" 489 (.ref 210),ge P "_law_free" 495 (.ref 215),ge P "_law_frees" 504 (.ref 222),ge P "_law_ahead" 512 (.ref 229),ge P "_law_row" 526 (.ref 236),ge P "_law_sentence" 540 (.ref 243),ge P "_law_is_short" 546 (.ref 248),ge P "_law_is_below" 554 (.ref 255),ge P "_law_row_fits" 564 (.ref 262),ge P "_law_first_bad" 574 (.ref 269),ge P "_law_odd_name" 583 (.ref 276),ge P "_law_odd_number" 593 (.ref 283),ge P "_law_odd_row" 606 (.ref 290),ge P "_law_changed" 621 (.ref 297),ge P "_law_answer" 633 (.ref 304),ge P "_law_right" 643 (.ref 311),ge P "law" 655 (.ref 318)] 53::(kx 128 true 8 "is_whole" 332 29 1 336
 (kq 130 Be 0
 (kx 134 false 13 "is_name" 355 35 1 358
 (kq 136 Bf 0
 (kq 137 Bg 0
 (kj 138 (Bh P) 8
 (kx 144 true 20 "look_sentence" 399 45 2 407
 (kx 149 false 21 "is_row" 410 56 3 413
 (kx 156 true 22 "is_field" 416 66 3 422
 (kx 163 true 23 "is_point_name" 425 70 1 429
 (kx 168 false 24 "names_of" 432 72 2 435
 (kx 173 false 25 "part_rows" 438 82 1 441
 (kx 180 true 27 "_law_flow" 446 85 1 450
 (kx 187 true 28 "_law_pick" 453 87 2 460
 (kx 192 false 29 "_law_letters" 463 102 2 466
 (kx 199 true 30 "_law_unlike" 469 104 2 475
 (kx 204 false 31 "_law_rule" 478 110 1 481
 (kx 209 false 32 "_law_place_names" 484 122 3 487
 (kx 214 false 33 "_law_free" 490 131 2 493
 (kx 228 true 35 "_law_ahead" 505 146 2 510
 (kx 235 true 36 "_law_row" 513 148 4 524
 (kx 242 true 37 "_law_sentence" 527 161 3 538
 (kx 247 false 38 "_law_is_short" 541 172 1 544
 (kx 254 true 39 "_law_is_below" 547 176 2 552
 (kx 261 true 40 "_law_row_fits" 555 178 3 562
 (kx 268 true 41 "_law_first_bad" 565 195 2 572
 (kx 275 true 42 "_law_odd_name" 575 206 2 581
 (kx 282 true 43 "_law_odd_number" 584 210 3 591
 (kx 289 true 44 "_law_odd_row" 594 213 3 604
 (kx 296 true 45 "_law_changed" 607 236 3 619
 (kx 303 true 46 "_law_answer" 622 248 2 631
 (kx 310 true 47 "_law_right" 634 259 2 641
 (kx 317 true 48 "law" 644 265 1 653 (JR P))))))))))))))))))))))))))))))))))
abbrev Jy:Kg Kt:=[3,128,129,130,134,135,136,137,138,144,145,149,150,156,157,163,164,168,169,173,174,180,181,187,188,192,193,199,200,204,205,209,210,214,215,228,229,235,236,242,243,247,248,254,255,261,262,268,269,275,276,282,283,289,290,296,297,303,304,310,311,317,318,2,23,24,100,97,98,101,82,120,44,63]
abbrev vq:KF:={ pw with main:={ pw.main with body:=[top 48] } }
abbrev lo:Kg Ks:=[("LayError" : Ks),("NoRule" : Ks),("NoWorld" : Ks),("BadText" : Ks),("NoSentence" : Ks),("NoRow" : Ks),("is_whole" : Ks),("LETTERS" : Ks),("LONGEST_NAME" : Ks),("WORDS" : Ks),("is_name" : Ks),("LONGEST_POINT_NAME" : Ks),("MOST_FREE_NAMES" : Ks),("PLAIN" : Ks),("BINDING" : Ks),("FORMS" : Ks),("look_sentence" : Ks),("is_row" : Ks),("is_field" : Ks),("is_point_name" : Ks),("names_of" : Ks),("part_rows" : Ks),("_law_flow" : Ks),("_law_pick" : Ks),("_law_letters" : Ks),("_law_unlike" : Ks),("_law_rule" : Ks),("_law_place_names" : Ks),("_law_free" : Ks),("_law_frees" : Ks),("_law_ahead" : Ks),("_law_row" : Ks),("_law_sentence" : Ks),("_law_is_short" : Ks),("_law_is_below" : Ks),("_law_row_fits" : Ks),("_law_first_bad" : Ks),("_law_odd_name" : Ks),("_law_odd_number" : Ks),("_law_odd_row" : Ks),("_law_changed" : Ks),("_law_answer" : Ks),("_law_right" : Ks)]
def eK:∀P,Jy=(K0 P).map (·.1):=λ_=>by kernel_rfl
abbrev hk:PySem.W.Hook:=PySem.W.kHook K0 Jy eK
noncomputable abbrev hP (w:KS)(b:KR):Prop:=(fencedOpening treeTable pw w 5274).map (λs₀=>(topFrom treeTable pw (w.withFollow "special-get-raises" b) 5274 s₀).map (λs=>(openSeen vq lo (importedModules pw.main.body) (λs=>Qx vq [] s&&PX [] s) true s,hk.obs s)))=bt (bt (openGood vq lo,hk.val (w.withFollow "special-get-raises" b)))
def JS (w:KS):hP w false:=by kernel_rfl
def JT (w:KS):hP w true:=by kernel_rfl
def hZ {α β γ:Type}{o:Kk α}{f:α->β}{g:α->γ}{x:β}{y:γ}(h1:o.map f=bt x)(h2:o.map g=bt y):o.map (λs=>(f s,g s))=bt (x,y):=by
 cases o with
 | none=>cases h1
 | some a=>cases h1; cases h2; rfl
def hl:PySem.W.LeftO pw vq lo (λs=>Qx vq [] s&&PX [] s) hk.obs hk.val 5274:=Su "special-get-raises" λw=>hZ (JS w) (JT w)
def s0:PySem.Challenge.rw_layworld_k51_sentences_looked_at.row.wellSaid=true:=by kernel_rfl
end
end Mi
namespace Xc
open PySem
inductive Fly (h:K7)(e:Kn)(cls:Ki)(dd:Kk Kn)(a0 fl:Ki):Prop
 | new {vs:Ls Ki} {sl:Ls (Kk Ki)}:h.get? e=bt #[cls,dd,.fields vs,sl]->vs[0]?=bt a0->vs[1]?=bt .none->Fly h e cls dd a0 fl
 | on {vs ts:Ls Ki} {sl:Ls (Kk Ki)} {T:Kn} {oT:LJ}:h.get? e=bt #[cls,dd,.fields vs,sl]->vs[0]?=bt a0->vs[1]?=bt (.ref T)->e < T->h.get? T=bt oT->oT.data=.fields ts->ts[3]?=bt fl->Fly h e cls dd a0 fl
structure Mv (fr:Kg Kn)(e:Kn)(h h':K7):Prop where
 keep:∀b o,h.get? b=bt o->b∉fr->b≠e->(e < b->∀vs,o.data≠.fields vs)->h'.get? b=bt o
 fram:∀b o,h.get? b=bt o->b∈fr->(∀vs,o.data≠.fields vs)->∃sl,h'.get? b=bt { o with slots:=sl }
 size:h.objs.size<=h'.objs.size
def Mv.refl {fr:Kg Kn}{e:Kn}{h:K7}:Mv fr e h h:=#[λ_ _ q _ _ _=>q,λ_ o q _ _=>#[o.slots,q],Kz _]
def Mv.trans {fr:Kg Kn}{e:Kn}{h h' h2:K7}(x:Mv fr e h h')(y:Mv fr e h' h2):Mv fr e h h2:=
 #[λb o q n1 n2 n3=>y.keep b o (x.keep b o q n1 n2 n3) n1 n2 n3,λb o q m n=>let ⟨_,q1⟩:=x.fram b o q m n; let ⟨sl,q2⟩:=y.fram b _ q1 m n; #[sl,q2],KJ x.size y.size]
def Mv.funs {fr:Kg Kn}{e:Kn}{h h' base:K7}{l:Kg Ov}(x:Mv fr e h h')(f:h.FunFrames base l)(he:∃o vs,h.get? e=bt o/\o.data=.fields vs):h'.FunFrames base l:=
 f.of_keeps λb o hb hn=>by
  by_cases m:b∈fr
  ·obtain⟨sl,q⟩:=x.fram b o hb m hn;exact#[_,q,rfl]
  ·show#[o,x.keep b o hb m (λz=>?_) λ_=>hn,rfl]
   obtain⟨oe,vs,q1,q2⟩:=he;rw[z,q1]at hb;cases hb;exact hn vs q2
section
variable{Mqa:ON}{A:K1}{E:Ki->Km->Prop}{s:Km}{base:K7}{env:Ov}{outer:Kg Ov}{L e:Kn}{cls a0 fl:Ki}{dd:Kk Kn}{Q:Ra->Km->Prop}
def q9 {vs:Ls Ki}{sl:Ls (Kk Ki)}{hadNext:KR}{head:Ki}(hfr:A.frames=bt (env::outer))(hl:s.heap.FunFrames base (env::outer))(hf:env.frame=bt L)
  (he:s.heap.get? e=bt #[cls,dd,.fields vs,sl]) (h0:vs[0]?=bt a0) (h1:1 < vs.size)
  (k:∀h',Mv ((env::outer).filterMap (·.frame)) e s.heap h'->Fly h' e cls dd a0 (rawInt L)->(∃o vs T,h'.get? e=bt o/\o.data=.fields vs/\vs[1]?=bt (.ref T))->Q () { s with heap:=h' }) :
  wpAny Mqa A (do let a <- frameOf env; let pl <- entryPlaceOf L hadNext; let b <- PJ head a .none (rawInt L) .none pl; setField (.ref e) 1 b) Q E s:=by
 have ne:e∉(env::outer).filterMap (·.frame):=λhm=>by
  obtain⟨_,o,ho,hnf⟩:=hl.mem hm;rw[he]at ho;cases ho;exact hnf vs rfl
 show Kh (wpAny_frameOf_fun hfr hl hf λh1' hs=>?_)
 show Kh (wpAny_entryPlaceOf λpl hpl=>?_)
 unfold PJ newFields;show Kh (Lg ?_ (hpl.sizeOk5 _ _ _ _ _));generalize hts:([head,.ref L,.none,rawInt L,.none]++(if pl.isEmpty then Lm 6 LA else pl)).toArray=ts
 have t3:ts[3]?=bt (rawInt L):=by rw[<- hts]; simp
 have he1:h1'.get? e=bt #[cls,dd,.fields vs,sl]:=(hs.2.1 e ne).trans he;have lt:e < h1'.objs.size:=Ky he1;have he2:=Kl (h:=h1') { cls:=.type "traceback",dict:=gV,data:=.fields ts } he1;have hT:=KA h1' (o:={ cls:=.type "traceback",dict:=gV,data:=.fields ts }) rfl;have he3:=LG (Na (·.setIfInBounds 1 (KZ h1'.objs.size))) he2 rfl
 show N5 he2 rfl h1 (k _ #[λb o q n1 n2 n3=>?_,λb o q m n=>?_,?_] ?_ ?_)
 ·rw[Le _ _ (Ne.symm n2)];exact Kl _ ((hs.2.1 b n1).trans q)
 ·obtain⟨sl,q2⟩:=hs.2.2 b o q;show#[sl,?_];rw[Le _ _ (λz:e=b=>ne (z ▸ m))]
  exact Kl _ q2
 ·simp[hs.1]
 ·show .on (T:=h1'.objs.size) (oT:={ cls:=.type "traceback",dict:=gV,data:=.fields ts }) he3 (by rw[Oa #v[]]; exact h0) (by simp[h1]) lt ?_ rfl t3
  rw[Le _ _ (KH lt)];exact hT
 ·exact#[_,_,h1'.objs.size,he3,rfl,by simp[h1]]
def vm (hfr:A.frames=bt (env::outer))(hl:s.heap.FunFrames base (env::outer))(hf:env.frame=bt L)(x:Fly s.heap e cls dd a0 .none)
  (k:∀h',Mv ((env::outer).filterMap (·.frame)) e s.heap h'->Fly h' e cls dd a0 (rawInt L)->(∃o vs T,h'.get? e=bt o/\o.data=.fields vs/\vs[1]?=bt (.ref T))->Q () { s with heap:=h' }) :
  wpAny Mqa A (noteFrame (.ref e) env) Q E s:=by
 unfold noteFrame;simp only[hf];cases x with
 | new he h0 h1=>
  show Kh (Lu he rfl h1 ?_);rw[KY #v[]]
  exact q9 hfr hl hf he h0 (LM.mp h1).1 k
 | @on vs ts sl T oT he h0 h1 lt hT hd h3=>
  show Kh (Lu he rfl h1 ?_);rw[KQ (show(KZ T != LA)=true from by simp)]
  show Kh (Lu hT hd h3 ?_);rw[KY (show ¬ ((LA==rawInt L)=true)from by simp[rawInt])]
  show Kh (N5 hT hd (LM.mp h3).1 ?_);have other:∀b,b≠T->(s.heap.update T (Na (·.setIfInBounds 3 LA))).get? b=s.heap.get? b:=λb hb=>Le _ _ (Ne.symm hb)
  have mv:Mv ((env::outer).filterMap (·.frame)) e s.heap (s.heap.update T (Na (·.setIfInBounds 3 LA))):=by
   show#[λb o q n1 n2 n3=>(other b λz=>?_).trans q,λb o q m n=>#[o.slots,(other b λz=>?_).trans q],by simp]
   ·rw[z,hT]at q;cases q;exact n3 (z ▸ lt) _ hd
   ·rw[z,hT]at q;cases q;exact n _ hd
  exact q9 hfr (mv.funs hl #[_,_,he,rfl]) hf ((other e (KH lt)).trans he) h0 (LM.mp h1).1 λh' m2 f2 r2=>k h' (mv.trans m2) f2 r2
def jG {f:Kk Kn}(fr:Kg Kn)(x:Fly s.heap e cls dd a0 fl)(k:∀h',Mv fr e s.heap h'->Fly h' e cls dd a0 (f.elim LA λf=>rawInt f)->Q () { s with heap:=h' }):wpAny Mqa A (setFlight (.ref e) f) Q E s:=by
 unfold setFlight;cases x with
 | new he h0 h1=>
  show Kh (Lu he rfl h1 ?_);rw[KY #v[]]
  exact Kq (k _ .refl (.new he h0 h1))
 | @on vs ts sl T oT he h0 h1 lt hT hd h3=>
  show Kh (Lu he rfl h1 ?_);rw[KQ (show(KZ T != LA)=true from by simp)]
  have h3':=(LM.mp h3).1;have other:∀b,b≠T->(s.heap.update T (Na (·.setIfInBounds 3 (f.elim LA λf=>rawInt f)))).get? b=s.heap.get? b:=λb hb=>Le _ _ (Ne.symm hb)
  show N5 hT hd h3' (k _ #[λb o q n1 n2 n3=>(other b λz=>?_).trans q,λb o q m n=>#[o.slots,(other b λz=>?_).trans q],by simp] ?_)
  ·rw[z,hT]at q;cases q;exact n3 (z ▸ lt) _ hd
  ·rw[z,hT]at q;cases q;exact n _ hd
  ·exact .on ((other e (KH lt)).trans he) h0 h1 lt (LG _ hT (Pj (NR hd _))) (NR hd _) (by simp[h3'])
def y8 (hfr:A.frames=bt (env::outer))(hl:s.heap.FunFrames base (env::outer))(hf:env.frame=bt L)(x:Fly s.heap e cls dd a0 .none)
  (k:∀h',Mv ((env::outer).filterMap (·.frame)) e s.heap h'->Fly h' e cls dd a0 .none->Q () { s with heap:=h' }):wpAny Mqa A (leaving env (.ref e)) Q E s:=by
 unfold leaving;show Kh (vm hfr hl hf x λh1 m1 f1 _=>?_)
 exact jG _ f1 λh2 m2 f2=>k h2 (m1.trans m2) f2
end
end Xc
namespace Xc
open PySem PySem.Spec PySem.W
section
variable{prog:KF}{w:KS}{A:K1}{E:Ki->Km->Prop}{h:K7}{g:Ls Ow}{d:SD}{t:Kt}{os:OsState}
variable{nm q:Ks}{C N f:Kn}{bs bm bmB:Kg Ki}{hdct:KR}{sn:Kg Ks}{sub:Kg Ki}{ab:KR}{col:Kk KR}{dd:Kk Kn}{k0 k1 k2 k3 k5:Kk Ki}{B newId initId:LR}
noncomputable abbrev il (C t:Kn):LJ:={ cls:=.ref C,data:=.fields [.ref t,.none,.none,.none,.bool false,.none].toArray }
noncomputable abbrev fQ (aF:Kg Ki):LJ:={ cls:=.type "tuple",data:=.seq aF.toArray }
abbrev Bj (e:Kn)(Q:Ki->Km->Prop)(E:Ki->Km->Prop)(r:Pl)(s':Km):Prop:=match r with
 | .ok (.ret v)=>v=.none/\Q (.ref e) s'
 | .ok _=>Lj
 | .error x=>E x s'
def kN (F:Qy B newId initId bmB)(T:Tn h bmB bm){aF:Kg Ki}{Q:Fin->Km->Prop}
  (hC:h.get? C=bt (excClassObj nm q C N bs bm hdct sn sub ab col dd k0 k1 k2 k3 k5 newId)) (hi:Looks (model prog w) h (typeLookup (.ref C) "__init__") (bt (.ref f))) (hb:∀self,Looks (model prog w) h (bindSpecial (.ref f) self) (.ref f,[self]))
  (hq:codeAny (model prog w) (A) (.call (.ref f) #[.ref (h.objs.size+1)::aF,[]]) (Bj (h.objs.size+1) (λv s=>Q (.done (.ret v)) s) E) #[(h.push (fQ aF)).push (il C h.objs.size),g,d,t,os]) (hrest:aF.length<=sizeLine:=by size_fits) :
  wpAny (model prog w) A (M4.«type.__call__» #[.ref C::aF,[]]) Q E #[h,g,d,t,os]:=by
 repeat (first|with_reducible show Nw hC ?_|with_reducible show wpAny_madeBy_exc hC ?_|wp_step)
 show codeAny_call_builtin_code (OD _ F.quiet) (wpAny_check_new_subT F T hC ?_);show codeAny_exc_new_subT F T hC ?_ hrest;change wpAny _ _ _ _ _ _;have k:∀b o,h.get? b=bt o->((h.push (fQ aF)).push (il C h.objs.size)).get? b=bt o:=λb o e=>Kl _ (Kl _ e)
 have hC1:=k _ _ hC;have hget:((h.push (fQ aF)).push (il C h.objs.size)).get? (h.objs.size+1)=bt (il C h.objs.size):=by heap_get
 have hcC:(KZ C::bm).contains (.ref C)=true:=by simp
 have T1:=T.keeps k;unfold isInstance
 repeat (first|with_reducible show Nw hget ?_|(with_reducible show PK hC1 ?_; rw[hcC])|wp_step)
 change wpAny _ _ (typeLookup (.ref C) _) _ _ _;show hi _ _ _ _ k ?_;show Ly (Kh (hb (.ref (h.objs.size+1)) _ _ _ _ k ?_));show Kh (NC ?_);show MO hq λr s' z=>?_
 rcases r with e|(_|_|_|v)
 ·exact z
 ·exact z.elim
 ·exact z.elim
 ·exact z.elim
 ·obtain⟨rfl,z⟩:=z;exact Kq (Kq z)
def vn (F:Qy B newId initId bmB)(T:Tn h bmB bm){aF:Kg Ki}{Q:Ki->Km->Prop}
  (hC:h.get? C=bt (excClassObj nm q C N bs bm hdct sn sub ab col dd k0 k1 k2 k3 k5 newId)) (hi:Looks (model prog w) h (typeLookup (.ref C) "__init__") (bt (.ref f))) (hb:∀self,Looks (model prog w) h (bindSpecial (.ref f) self) (.ref f,[self]))
  (hq:codeAny (model prog w) (A.under (.builtin "type.__call__" #[.ref C::aF,[]])) (.call (.ref f) #[.ref (h.objs.size+1)::aF,[]]) (Bj (h.objs.size+1) Q E) #[(h.push (fQ aF)).push (il C h.objs.size),g,d,t,os]) (hrest:aF.length<=sizeLine:=by size_fits) :
  wpAny (model prog w) A (call (.ref C) aF) Q E #[h,g,d,t,os]:=by
 have f1:=tc_lookup;have f2:=tc_bind (.ref C);have hT:(#[h,g,d,t,os] : Km).TypeIs (.ref C) "type":=#[_,hC,rfl];show NC (Oj ?_);change wpAny _ _ (callAny (.ref C) _) _ _ _
 repeat (any_goals (first|assumption|with_reducible show Nw hC ?_|wp_step))
 show#[rfl,?_];exact codeAny_call_builtin_at (OD _ (by decide +kernel)) entry_typeCall (wpAny_check_type_call_sub hC (kN (hrest:=hrest) F T hC hi hb hq))
end
end Xc
namespace Xc
open PySem PySem.Spec PySem.W PySem.Builtin.ObjectAttr
abbrev cZ:Kg Ki->KR
 | .ref _::r=>cZ r
 | l=>l==[.type "ValueError",.type "Exception",.type "BaseException",.type "object"]
def nE (self:Ki):refuseLoop self "__setattr__" [.type "ValueError",.type "Exception",.type "BaseException",.type "object"]=pure ():=by kernel_rfl
def jH (self:Ki):∀ {l:Kg Ki},cZ l=true->refuseLoop self "__setattr__" l=pure ()
 | .ref c::r,e=>by rw[refuseLoop_ref]; exact jH self (l:=r) e
 | [],e=>by cases e
 | .type n::r,e=>by
  have:(Mn n::r)=[.type "ValueError",.type "Exception",.type "BaseException",.type "object"]:=Mx.mp e;rw[this]; exact nE self
 | .none::r,e|.bool _::r,e|.int _ _::r,e|.str _ _::r,e|.builtin _::r,e|.float _ _::r,e=>by cases e
def b6:∀ {l:Kg Ki},cZ l=true->l.contains (.type "object")=true/\l.isEmpty=false
 | .ref c::r,e=>#[by rw[OE,(b6 (l:=r) e).1,O1],rfl]
 | [],e=>by cases e
 | .type n::r,e=>by
  have:(Mn n::r)=[.type "ValueError",.type "Exception",.type "BaseException",.type "object"]:=Mx.mp e;rw[this]; exact#[by decide +kernel,rfl]
 | .none::r,e|.bool _::r,e|.int _ _::r,e|.str _ _::r,e|.builtin _::r,e|.float _ _::r,e=>by cases e
section
variable{prog:KF}{w:KS}{A:K1}{K:Frag}{C x:Kn}{s:Km}{R:Pl->Km->Prop}
def Fp {ox:LJ}{od:Kk LJ}{name:Ks}{tk:Sl}{v:Ki}{cd:Mb}(X:K.In s.heap)(I:InstAt s.heap x ox C od)(hc:clsIn K C=bt cd)(hm:cZ cd.mro=true)(hf:findIn K (.ref C) name=bt gV)
  (h:wpAny (model prog w) A.in1 (storeInOwnDict (.ref x) (.ref C) (.str name tk) name v false) (λfin s'=>match fin with|.done f=>R (.ok f) s'|.again c'=>c'.quiet=true/\codeAny (model prog w) A c' R s') (λe s'=>R (.error e) s') s) :
  codeAny (model prog w) A (.call (.builtin "object.__setattr__") #[[.ref x,.str name tk,v],[]]) R s:=by
 have SF:=PySem.F.store_object;obtain⟨ho,ne⟩:=b6 hm;have sub:Looks (model prog w) s.heap (isInstance (.ref x) (.type "object")) true:=I.type.andThen (looks_mroIn X (by unfold mroIn; rw[hc,MR,KY (by rw[ne]; decide),ho]))
 show M5 SF.slot.plain SF.entry (@check_slot (model prog w) _ _ s "object.__setattr__" "object" "__setattr__" (.ref x) [.str name tk,v] [] _ SF.kind SF.split sub (SF.args (.ref x) (.str name tk) v) ?_);have hl:Looks (model prog w) s.heap (mroOf (.ref C)) cd.mro:=(looks_clsIn X hc).andThen .now;rw[osa_eq,refuse_eq];show Kh (Kh (I.type.here (Kh (hl.here ?_))));rw[jH _ hm];exact Kq (Kh (I.type.here (Kh ((looks_findIn X hf).here (Kh (Looks.here (r:=gV) .now h))))))
def vo {E:Ki->Km->Prop}{Q:Ra->Km->Prop}{vs:Ls Ki}{sl:Ls (Kk Ki)}{name:Ks}{v:Ki}{cd:Mb}(X:K.In s.heap)(hx:s.heap.get? x=bt #[.ref C,gV,.fields vs,sl])
  (hs:findIn K (.ref C) "__setattr__" = bt (bt (.builtin "object.__setattr__"))) (hc:clsIn K C=bt cd) (hm:cZ cd.mro=true) (hd:cd.hasDict=true) (hf:findIn K (.ref C) name=bt gV)
  (k:∀h' tk,h'.get? x=bt #[.ref C,bt s.heap.objs.size,.fields vs,sl]->h'.Ns1 s.heap.objs.size (λy=>if y=name then bt v else gV)->(∀b o,b≠x->s.heap.get? b=bt o->h'.get? b=bt o)->h'.objs.size=s.heap.objs.size+1->
   Q () { s with heap:=h',toks:=tk }):wpAny (model prog w) A (setAttr (.ref x) name v) Q E s:=by
 have I:InstAt s.heap x #[.ref C,gV,.fields vs,sl] C gV:=#[hx,rfl,rfl,trivial];show set_plain X I hs (Fp (s:={ s with toks:=s.toks+1 }) X I hc hm hf ?_)
 unfold storeInOwnDict ownDictForStores instanceDict;show Kh (Kq (Kh (Kh (Pm hx (Kh (Looks.here (s:={ s with toks:=s.toks+1 }) (looks_clsIn X hc) ?_))))))
 rw[hd];have hx1:(s.heap.push { cls:=.type "dict",data:=.dict #[] }).get? x=bt #[.ref C,gV,.fields vs,sl]:=Kl _ hx;have hxs:x≠s.heap.objs.size:=KH (Ky hx);show Kh (wpAny_alloc' ?_);show Kh (wpAny_update' hx1 ?_);show Kq (a:=bt s.heap.objs.size) ?_;have hgd:((s.heap.push { cls:=.type "dict",data:=.dict #[] }).update x λo=>{ cls:=o.cls,dict:=bt s.heap.objs.size,data:=o.data,slots:=o.slots }).get? s.heap.objs.size=bt { cls:=.type "dict",data:=.dict #[] }:=
  (PL _ _ _ _ hxs.symm).trans (Qz rfl rfl)
 have hnd:((s.heap.push { cls:=.type "dict",data:=.dict #[] }).update x λo=>{ cls:=o.cls,dict:=bt s.heap.objs.size,data:=o.data,slots:=o.slots }).Ns s.heap.objs.size (λ_=>gV):=
  #[_,#[],_,hgd,rfl,λe he=>absurd he (by simp),λ_=>rfl]
 change wpAny _ _ (storeInDict s.heap.objs.size (.str name _) name v) _ _ _;unfold storeInDict newKeyGuard;show Kh (Kq (Kh (Sv (To hnd) λh' hn' hs'=>?_)))
 obtain⟨oD,esD,epD,hoD,hdD,hcD⟩:=hn'.count (SK name v Within.nil);show Kh (QR hoD (by rw[hdD]; exact QS (KJ hcD (by rw[Lh,Pe,LF]; omega))) ?_)
 show Kq (k h' _ ?_ hn' (λb o hb q=>?_) ?_)
 ·exact(hs'.2 x hxs).trans (LG _ hx1 rfl)
 ·exact(hs'.2 b (KH (Ky q))).trans ((PL _ _ _ _ hb).trans (Kl _ q))
 ·rw[hs'.1]; simp
def tf {E:Ki->Km->Prop}{Q:Ra->Km->Prop}{vs:Ls Ki}{sl:Ls (Kk Ki)}{name:Ks}{v:Ki}{cd:Mb}{dx:Kn}{mA:Ks->Kk Ki}{ns:Kg Ks}(X:K.In s.heap)(hx:s.heap.get? x=bt #[.ref C,bt dx,.fields vs,sl])
  (hA:s.heap.Ns1 dx mA) (hw:Within mA ns) (hsz:ns.length<=100) (hne:dx≠x)
  (hs:findIn K (.ref C) "__setattr__" = bt (bt (.builtin "object.__setattr__"))) (hc:clsIn K C=bt cd) (hm:cZ cd.mro=true) (hd:cd.hasDict=true) (hf:findIn K (.ref C) name=bt gV)
  (k:∀h' tk,h'.Ns1 dx (λy=>if y=name then bt v else mA y)->(∀b,b≠dx->h'.get? b=s.heap.get? b)->h'.objs.size=s.heap.objs.size->
   Q () { s with heap:=h',toks:=tk }):wpAny (model prog w) A (setAttr (.ref x) name v) Q E s:=by
 obtain⟨oA,esA,epA,hoA,rA⟩:=id hA;have I:InstAt s.heap x #[.ref C,bt dx,.fields vs,sl] C (bt oA):=#[hx,rfl,rfl,hoA];show set_plain X I hs (Fp (s:={ s with toks:=s.toks+1 }) X I hc hm hf ?_)
 unfold storeInOwnDict ownDictForStores instanceDict;show Kh (Kq (Kh (Kh (Pm hx (Kh (Looks.here (s:={ s with toks:=s.toks+1 }) (looks_clsIn X hc) ?_))))))
 rw[hd];show Kq (a:=bt dx) ?_;change wpAny _ _ (storeInDict dx (.str name _) name v) _ _ _;unfold storeInDict newKeyGuard;show Kh (Kq (Kh (Sv (s:={ s with toks:=s.toks+1 }) hA λh' hn' hs'=>?_)))
 obtain⟨oD,esD,epD,hoD,hdD,hcD⟩:=hn'.count (SK name v hw);show Kh (QR hoD (by rw[hdD]; exact QS (KJ hcD (by rw[Lh,LF]; omega))) ?_)
 exact Kq (k h' _ hn' (λb hb=>hs'.2 b hb) hs'.1)
def rc (self:Ki):bindSpecial (.builtin "BaseException.__getattribute__") self=pure (.builtin "BaseException.__getattribute__",[self]):=PySem.F.attr_ValueError.ga.bind self
def eF:∀ {l:Kg Ki},cZ l=true->l.contains (.type "BaseException")=true
 | .ref c::r,e=>by rw[OE,eF (l:=r) e,O1]
 | [],e=>by cases e
 | .type n::r,e=>by
  have:(Mn n::r)=[.type "ValueError",.type "Exception",.type "BaseException",.type "object"]:=Mx.mp e;rw[this]; decide +kernel
 | .none::r,e|.bool _::r,e|.int _ _::r,e|.str _ _::r,e|.builtin _::r,e|.float _ _::r,e=>by cases e
def IE {E:Ki->Km->Prop}{Q:Ki->Km->Prop}{vs:Ls Ki}{sl:Ls (Kk Ki)}{name:Ks}{v:Ki}{cd:Mb}{dx:Kn}{mA:Ks->Kk Ki}{expr:KR}(X:K.In s.heap)(hx:s.heap.get? x=bt #[.ref C,bt dx,.fields vs,sl])
  (hA:s.heap.Ns1 dx mA) (hg:findIn K (.ref C) "__getattribute__" = bt (bt (.builtin "BaseException.__getattribute__"))) (hh:findIn K (.ref C) "__getattr__" = bt gV)
  (hc:clsIn K C=bt cd) (hm:cZ cd.mro=true) (hd:cd.hasDict=true) (hf:findIn K (.ref C) name=bt gV) (hv:mA name=bt v) (hv':handedIn v=true)
  (k:Q v { s with toks:=s.toks+1 }):wpAny (model prog w) A (getAttr (.ref x) name expr) Q E s:=by
 obtain⟨oA,hoA,hlo⟩:=L2.sS hA;have I:InstAt s.heap x #[.ref C,bt dx,.fields vs,sl] C (bt oA):=#[hx,rfl,rfl,hoA];have I':InstAt ({ s with toks:=s.toks+1 }:Km).heap x #[.ref C,bt dx,.fields vs,sl] C (bt oA):=I
 have hl:Looks (model prog w) s.heap (mroOf (.ref C)) cd.mro:=(looks_clsIn X hc).andThen .now;have ne:=(b6 hm).2;have sub:Looks (model prog w) s.heap (isInstance (.ref x) (.type "BaseException")) true:=I.type.andThen (looks_mroIn X (by unfold mroIn; rw[hc,MR,KY (by rw[ne]; decide),eF hm]))
 have hk:builtinKind "BaseException.__getattribute__" = bt .slot:=by decide +kernel
 have hsp:splitId "BaseException.__getattribute__" = bt ("BaseException","__getattribute__"):=by decide +kernel
 unfold getAttr getAttrBy;show Kh (Sw (Ly (Kh (I'.type.here (Kh (Looks.here (s:={ s with toks:=s.toks+1 }) (looks_findIn X hg) ?_))))))
 have hx2:(onTheHeap (KZ C)&&MC "BaseException.__getattribute__" == MC "object.__getattribute__")=false:=by
  rw[show(MC "BaseException.__getattribute__" == MC "object.__getattribute__")=false from by decide +kernel,N4]
 dsimp only;rw[hx2];change wpAny _ _ (getAttrByItsOwn _ _ _ _ _ _) _ _ _;unfold getAttrByItsOwn hookBefore;show Kh (Looks.here (s:={ s with toks:=s.toks+1 }) (looks_findIn X hh) ?_)
 have hx3:(expr&&onTheHeap (MC "BaseException.__getattribute__"))=false:=by cases expr <;> rfl
 unfold callGetattribute boundAndCalled;rw[hx3,rc];show Kh (Nb (Ly (Kh (Kq (NC ?_)))));show M5 PySem.F.attr_ValueError.ga.plain F.entry_bexc_ga (@check_slot (model prog w) _ _ { s with toks:=s.toks+1 } "BaseException.__getattribute__" "BaseException" "__getattribute__" (.ref x) [.str name s.toks] [] _ hk hsp sub (F.args_bexc_ga (.ref x) (.str name s.toks)) ?_)
 have hlk:lookIn name oA=bt (bt v):=by rw[hlo,hv]
 have L1:Looks (model prog w) s.heap _ _:=looks_find X I (findObj_own (by unfold hasDictIn; rw[hc]; exact hd) hf rfl hlk)
 have L0:Looks (model prog w) s.heap _ _:=I.type;show Kh (Kq (Kh (Kq (Kh (L0.here (s:={ s with toks:=s.toks+1 }) (Kh (L1.here (s:={ s with toks:=s.toks+1 }) ?_)))))))
 show Kq ?_;change wpAny _ _ (handedOut v) _ _ _;rw[handedOut_of hv']; exact Kq k
end
section
variable{prog:KF}{w:KS}{A:K1}{E:Ki->Km->Prop}{h:K7}{g:Ls Ow}{d:SD}{t:Kt}{os:OsState}
variable{nm q:Ks}{C N e:Kn}{bs bm bmB:Kg Ki}{hdct:KR}{sn:Kg Ks}{sub:Kg Ki}{ab:KR}{col:Kk KR}{dd dx:Kk Kn}{k0 k1 k2 k3 k5:Kk Ki}{B newId initId:LR}
def Fq (F:Qy B newId initId bmB)(T:Tn h bmB bm){aF:Kg Ki}{vs:Ls Ki}{sl:Ls (Kk Ki)}{Q:Ki->Km->Prop}
  (hC:h.get? C=bt (excClassObj nm q C N bs bm hdct sn sub ab col dd k0 k1 k2 k3 k5 newId)) (he:h.get? e=bt #[.ref C,dx,.fields vs,sl]) {t0:Kn} (h0:vs[0]?=bt (.ref t0))
  (hq:Q .none #[(h.push (fQ aF)).update e (Na (·.setIfInBounds 0 (.ref h.objs.size))),g,d,t,os]) (hrest:aF.length<=sizeLine:=by size_fits) :
  wpAny (model prog w) A (call (.builtin initId) (.ref e::aF)) Q E #[h,g,d,t,os]:=by
 have he1:(h.push (fQ aF)).get? e=bt #[.ref C,dx,.fields vs,sl]:=Kl _ he;show NC (M5 F.init.plain F.initEntry (wpAny_check_init_subT F T hC he rfl ?_));have hz:=(LM.mp h0).1
 wp_walk
 rw[h0]
 wp_walk
 exact hq
end
section
variable{prog:KF}{w:KS}{A:K1}{K:Frag}{CL:Kn}{s:Km}{E:Ki->Km->Prop}{pl:R1 KR}{Q:Ki×Kg Ki->Km->Prop}{mc:Ki}{name:Ks}
def Ft {v:Ki}(X:K.In s.heap)(hg:specialIn K (.ref CL) "__getattribute__" = bt (bt (.builtin "type.__getattribute__")))(hr:readsIn K CL mc=true)(e:findCls K (.ref CL) mc name=bt (.val v))(hh:handedIn v=true)
  (k:Q (v,[]) { s with toks:=s.toks+1 }):wpAny (model prog w) A (getMethod (.ref CL) name pl) Q E s:=method_cls X hg (cls_value X hr e hh k)
end
section
variable{Mqa:ON}{A:K1}{E:Ki->Km->Prop}{s:Km}{env:Ov}
variable{nm q:Ks}{C N:Kn}{bs bm:Kg Ki}{hdct:KR}{sn:Kg Ks}{sub:Kg Ki}{ab:KR}{col:Kk KR}{dd:Kk Kn}{k0 k1 k2 k3 k5:Kk Ki}{newId:LR}
def vp {x:R1 Ki}{Q:Tv->Km->Prop}(hbase:bm.contains (.type "BaseException")=true)(hh:A.handled=gV)
  (h:wpAny Mqa A x (λv s1=>∃e dx vs sl,v=.ref e/\s1.heap.get? C=bt (excClassObj nm q C N bs bm hdct sn sub ab col dd k0 k1 k2 k3 k5 newId)/\s1.heap.get? e=bt #[.ref C,dx,.fields vs,sl]/\vs[1]?=bt .none/\E (.ref e) s1) E s) :
  wpAny Mqa A (raiseStmt env (bt x) gV) Q E s:=by
 have hcB:(KZ C::bm).contains (.type "BaseException")=true:=by rw[OE,hbase,O1]
 unfold raiseStmt;show Kh (Lf h (λv s1 h1=>?_) λ_ _ x=>x)
 obtain⟨e,dx,vs,sl,rfl,hC,he,hv,hE⟩:=h1;obtain⟨hp,g,d,tk,os⟩:=s1
 repeat (first|with_reducible show Nw he ?_|with_reducible show Nw hC ?_|(with_reducible show PK hC ?_; rw[hcB])|with_reducible show Lu he rfl hv ?_|wp_step)
 exact wpAny_raiseNew_none hh hE
end
section
variable{prog:KF}{w:KS}{A:K1}{s:Km}{E:Ki->Km->Prop}{env:Ov}{base:K7}{outer:Kg Ov}{L e:Kn}{cls a0:Ki}{dd:Kk Kn}
def CG {t:KC}{n:Ks}{b0:LO}{suite:Kg LO}{pos:L9}{aF:Kg ExceptHandler}{Q:Tv->Km->Prop}(hfr:A.frames=bt (env::outer))(hl:s.heap.FunFrames base (env::outer))(hf:env.frame=bt L)(x:Fly s.heap e cls dd a0 .none)
  (ht:∀h',Mv ((env::outer).filterMap (·.frame)) e s.heap h'->Fly h' e cls dd a0 .none->wpAny (model prog w) (A.mark (bt (.ref e))) (eval t env) (λc s1=>wpAny (model prog w) (A.mark (bt (.ref e))) (excMatches (.ref e) c) (λb s2=>b=true/\
   Fly s2.heap e cls dd a0 .none/\∀h3,Mv ((env::outer).filterMap (·.frame)) e s2.heap h3->Fly h3 e cls dd a0 .none->
    wpAny (model prog w) (A.mark (bt (.ref e))) (storeName env n (.ref e)) (λ_ s3=>wpAny (model prog w) (A.mark (bt (.ref e))) (execs (b0::suite) env)
     (λf s4=>wpAny (model prog w) A (do bindName env n .none; unbindBehindTheSuite env n pos) (λ_ s5=>Q f s5) E s4) (λ_ _=>Lj) s3) (λ_ _=>Lj) { s2 with heap:=h3 }) (λ_ _=>Lj) s1) (λ_ _=>Lj) { s with heap:=h' }) :
  wpAny (model prog w) A (noteFrame (.ref e) env) (λ_ s2=>wpAny (model prog w) A (setFlight (.ref e) gV) (λ_ s3=>wpAny (model prog w) A (handleBy (.ref e) env (.ExceptHandler (bt t) (bt n) (b0::suite) pos::aF)) Q E s3) E s2) E s:=by
 show vm hfr hl hf x λh1 m1 f1 _=>jG ((env::outer).filterMap (·.frame)) f1 λh2 m2 f2=>?_
 show wpAny_handleBy_cons (codeAny_handlers_test ?_) (by intro q; cases q)
 show Lf (ht h2 (m1.trans m2) f2) (λc s1 h=>?_) λ_ _ z=>z.elim
 show Lf h (λb s2 #[hb,fl,h3]=>?_) λ_ _ z=>z.elim
 subst hb;show codeAny_handlers_suite_as (jG ((env::outer).filterMap (·.frame)) fl λh4 m4 f4=>?_)
 show Lf (h3 h4 m4 f4) (λ_ s3 h5=>?_) λ_ _ z=>z.elim
 exact Lf h5 (λf s4 h6=>h6) λ_ _ z=>z.elim
end
structure XK (K:Frag)(C:Kn)(cd:Mb):Prop where
 cls:clsIn K C=bt cd
 mro:cZ cd.mro=true
 dct:cd.hasDict=true
 ga:findIn K (.ref C) "__getattribute__" = bt (bt (.builtin "BaseException.__getattribute__"))
 hk:findIn K (.ref C) "__getattr__" = bt gV
 kl:findIn K (.ref C) "__class__" = bt (bt (.builtin "object.__class__"))
 gg:specialIn K (.builtin "object.__class__") "__get__" = bt (bt (.builtin "getset_descriptor.__get__"))
 tk:takesIn K (.builtin "object.__class__")=bt true
section
variable{prog:KF}{w:KS}{A:K1}{K:Frag}{C x:Kn}{s:Km}{E:Ki->Km->Prop}{cd:Mb}{ox:LJ}{od:Kk LJ}
def XK.top (Yj:XK K C cd):mroIn K C (.type "object")=bt true:=by
 unfold mroIn;rw[Yj.cls,MR,KY (by rw[(b6 Yj.mro).2]; decide),(b6 Yj.mro).1]
def XK.base (Yj:XK K C cd):mroIn K C (.type "BaseException")=bt true:=by
 unfold mroIn;rw[Yj.cls,MR,KY (by rw[(b6 Yj.mro).2]; decide),eF Yj.mro]
def Fu {name:Ks}{tk:Sl}{fill expr:KR}{Q:Ki->Km->Prop}(Yj:XK K C cd)(X:K.In s.heap)(I:InstAt s.heap x ox C od)
  (h:wpAny (model prog w) A.in1 (M4.«object.__getattribute__» #[[.ref x,.str name tk],[]]) (λfin s'=>match fin with|.done (.ret v)=>wpAny (model prog w) A (handedOut v) Q E s'|_=>Lj) (λ_ _=>Lj) s) :
  wpAny (model prog w) A (getAttrBy (.ref x) (.str name tk) fill expr) Q E s:=by
 have sub:Looks (model prog w) s.heap (isInstance (.ref x) (.type "BaseException")) true:=I.type.andThen (looks_mroIn X Yj.base);have hk:builtinKind "BaseException.__getattribute__" = bt .slot:=by decide +kernel
 have hsp:splitId "BaseException.__getattribute__" = bt ("BaseException","__getattribute__"):=by decide +kernel
 unfold getAttrBy;show Ly (Kh (I.type.here (Kh (Looks.here (looks_findIn X Yj.ga) ?_))));have hx2:(onTheHeap (KZ C)&&MC "BaseException.__getattribute__" == MC "object.__getattribute__")=false:=by
  rw[show(MC "BaseException.__getattribute__" == MC "object.__getattribute__")=false from by decide +kernel,N4]
 dsimp only;rw[hx2];change wpAny _ _ (getAttrByItsOwn _ _ _ _ _ _) _ _ _;unfold getAttrByItsOwn hookBefore;show Kh (Looks.here (looks_findIn X Yj.hk) ?_);have hx3:(expr&&onTheHeap (MC "BaseException.__getattribute__"))=false:=by cases expr <;> rfl
 unfold callGetattribute boundAndCalled;rw[hx3,rc];show Kh (Nb (Ly (Kh (Kq (NC ?_)))));show M5 PySem.F.attr_ValueError.ga.plain F.entry_bexc_ga (@check_slot (model prog w) _ _ s "BaseException.__getattribute__" "BaseException" "__getattribute__" (.ref x) [.str name tk] [] _ hk hsp sub (F.args_bexc_ga (.ref x) (.str name tk)) ?_);show Lf h (λfin s' z=>?_) λ_ _ z=>z.elim
 rcases fin with(_|_|_|_)|_ <;> first|exact z|exact z.elim
def pR (Yj:XK K C cd):findObj K C od "__class__" = bt (.bind (.builtin "getset_descriptor.__get__") (.builtin "object.__class__")):=by
 unfold findObj;rw[Yj.cls,MR,Yj.kl,MR];simp only[Yj.gg,Yj.tk,MR,Nf,L5]
def CH {Q:Kk Ki->Km->Prop}(Yj:XK K C cd)(X:K.In s.heap)(I:InstAt s.heap x ox C od)(h:Q (bt (.ref C)) { s with toks:=s.toks+1 }):wpAny (model prog w) A (getAttr? (.ref x) "__class__") Q E s:=by
 have I':InstAt ({ s with toks:=s.toks+1 }:Km).heap x ox C od:=I
 have L1:Looks (model prog w) s.heap _ _:=looks_find X I (pR Yj);have L0:Looks (model prog w) s.heap _ _:=I.type;unfold getAttr? getAttrBy?;show Kh (Sw (Kh (Nb (Fu (s:={ s with toks:=s.toks+1 }) Yj X I ?_))))
 show Kh (Kq (Kh (Kq (Kh (L0.here (s:={ s with toks:=s.toks+1 }) (Kh (L1.here (s:={ s with toks:=s.toks+1 }) ?_)))))))
 change wpAny _ _ (holding [.builtin "object.__class__"] (call (.builtin "getset_descriptor.__get__") [.builtin "object.__class__",.ref x,.ref C]) >>= ret) _ _ _;show Kh (Ly (NC (class_get (s:={ s with toks:=s.toks+1 }) X I Yj.top ?_)))
 exact Kq (handed_on rfl (Kq h))
structure XT (K:Frag)(C:Kn)(c:Ki)(b:KR):Prop where
 ty:∀(Mqa:ON) h',K.In h'->Looks Mqa h' (typeOf c) (.type "type")
 is:∀(Mqa:ON) h',K.In h'->Looks Mqa h' (isType c) true
 sub:subIn K (.ref C) c=bt b
 eq:(KZ C==c)=true->b=true
def gd {D:Kn}{cd:Mb}(hc:clsIn K D=bt cd)(Mqa:ON)(h':K7)(X:K.In h'):Looks Mqa h' (isType (.ref D)) true:=by
 unfold clsIn at hc;split at hc
 ·rename_i c' d' cd' sl' ho;intro A' Q' E' s' k q;unfold isType loadHead;exact Kh (Pm (k _ _ (X _ _ ho)) (Kq q))
 ·cases hc
def iM {c:Ki}{b:KR}{dep:KD}{tk:Sl}{Q:Fin->Km->Prop}(Yj:XK K C cd)(T:XT K C c b)(X:K.In s.heap)(I:InstAt s.heap x ox C od)(h:∀tk',Q (.done (.ret (.bool b))) { s with toks:=tk' }) :
  wpAny (model prog w) A (M4.«isinstance.nested» #[[.ref x,c,.int dep tk],[]]) Q E s:=by
 have hisD:=gd Yj.cls (model prog w) s.heap X;have his:=T.is (model prog w) s.heap X;have hty:Looks (model prog w) s.heap (typeOf c) (.type "type"):=T.ty (model prog w) s.heap X;have hsub:Looks (model prog w) s.heap (isSubtype (.ref C) c) b:=looks_subIn X T.sub;obtain⟨h0,g,d,tt,os⟩:=s;have L0:Looks (model prog w) h0 _ _:=I.type;have LI:Looks (model prog w) h0 (isInstance (.ref x) c) b:=L0.andThen hsub;unfold M4.«isinstance.nested»;show Kh (L0.at ?_)
 by_cases q:(KZ C==c)=true
 ·rw[KQ q];cases T.eq q;exact Kh (Nn (Kh (Kq (Kq (h tt)))))
 ·rw[KY q];show Kh (hty.at ?_);rw[KQ #v[]]
  k_delta "plainIsInstance"
  show Kh (Kh (his.at ?_));simp only[PY,Mz,NZ];show Kh (LI.at ?_);cases b with
  | true=>
   simp only[Nf];exact Kq (Kq (h tt))
  | false=>
   simp only[Mz,NZ];show Kh (CH Yj X I ?_);show Kh (hisD.at ?_);simp only[PY,Mz,NZ];show Kh (Nn ?_);show hsub.at ?_;exact Kq (h _)
def Fv {c:Ki}{b:KR}{Q:Ki->Km->Prop}(Yj:XK K C cd)(T:XT K C c b)(X:K.In s.heap)(I:InstAt s.heap x ox C od)(h:∀tk',Q (.bool b) { s with toks:=tk' }):wpAny (model prog w) A (call (.builtin "isinstance") [.ref x,c]) Q E s:=
 Rg (S:=λ_ R s=>(K.In s.heap/\InstAt s.heap x ox C od)/\∀tk',R (.ok (.ret (.bool b))) { s with toks:=tk' })
  (λ_ _ _ _ _ hs=>QT (iM Yj T hs.1.1 hs.1.2 hs.2) (by intro q; cases q)) #[#[X,I],h]
inductive XTs (K:Frag)(C:Kn):Kg Ki->Kg KR->Prop
 | nil:XTs K C [] []
 | cons {c:Ki} {b:KR} {cs:Kg Ki} {bs:Kg KR}:XT K C c b->XTs K C cs bs->XTs K C (c::cs) (b::bs)
def XTs.all {cs:Kg Ki}{bs:Kg KR}(Yj:XK K C cd)(T:XTs K C cs bs):AnswersAll (λs=>K.In s.heap/\InstAt s.heap x ox C od) (.ref x) cs bs:=by
 induction T with
 | nil=>trivial
 | cons t _ ih=>exact#[λ_ _ _ _ _ _ _ hs=>iM Yj t hs.1.1 hs.1.2 hs.2,ih]
def iX {tp:Kn}{nt:Kt}{dt:Kk Kn}{st:Ls (Kk Ki)}{cs:Kg Ki}{bs:Kg KR}{tk:Sl}{Q:Fin->Km->Prop}(Yj:XK K C cd)(T:XTs K C cs bs)(hne:C≠tp)(htp:s.heap.get? tp=bt { cls:=.type "tuple",dict:=dt,data:=.seq cs.toArray nt,slots:=st })(X:K.In s.heap)(I:InstAt s.heap x ox C od)
  (hq:∀tk',Q (.done (.ret (.bool (bs.any id)))) { s with toks:=tk' }):wpAny (model prog w) A (M4.«isinstance.nested» #[[.ref x,.ref tp,.int 0 tk],[]]) Q E s:=by
 obtain⟨h,g,d,t,os⟩:=s;have hT2:(#[h,g,d,t,os] : Km).TypeIs (.ref tp) "tuple":=#[_,htp,rfl];have f1:=F.isi_sub_tuple;have L0:Looks (model prog w) h _ _:=I.type;have ne:(KZ C==KZ tp)=false:=M6.mpr λq=>hne (TQ (Mx.mp q))
 unfold M4.«isinstance.nested»;show Kh (L0.at ?_);rw[KY (λq=>by rw[ne]at q; exact Bool.noConfusion q)]
 repeat (any_goals (first|assumption|wp_step))
 show wpAny_arrayLoop ?_;simp only[OT,List.toList_toArray];show isinstance_items (dep:=0) (P:=λs=>K.In s.heap/\InstAt s.heap x ox C od) (λ_ _ z=>z) cs bs _ _ (T.all Yj) #[X,I] λtk'=>?_
 cases hv:bs.any id with
 | true=>
  simp only[Nf]
  repeat (any_goals (first|assumption|wp_step))
  exact hv ▸ hq tk'
 | false=>
  simp only[Mz,NZ]
  repeat (any_goals (first|assumption|wp_step))
  exact hv ▸ hq tk'
def vt {tp:Kn}{nt:Kt}{dt:Kk Kn}{st:Ls (Kk Ki)}{cs:Kg Ki}{bs:Kg KR}{Q:Ki->Km->Prop}(Yj:XK K C cd)(T:XTs K C cs bs)(hne:C≠tp)(htp:s.heap.get? tp=bt { cls:=.type "tuple",dict:=dt,data:=.seq cs.toArray nt,slots:=st })(X:K.In s.heap)(I:InstAt s.heap x ox C od)
  (h:∀tk',Q (.bool (bs.any id)) { s with toks:=tk' }):wpAny (model prog w) A (call (.builtin "isinstance") [.ref x,.ref tp]) Q E s:=
 Rg (S:=λ_ R s=>(K.In s.heap/\InstAt s.heap x ox C od/\s.heap.get? tp=bt { cls:=.type "tuple",dict:=dt,data:=.seq cs.toArray nt,slots:=st })/\∀tk',R (.ok (.ret (.bool (bs.any id)))) { s with toks:=tk' })
  (λ_ _ _ _ _ hs=>QT (iX Yj T hne hs.1.2.2 hs.1.1 hs.1.2.1 hs.2) (by intro q; cases q)) #[#[X,I,htp],h]
end
end Xc
namespace Xc
open PySem PySem.Spec PySem.W PySem.Builtin.ObjectAttr L2 PyProof.Rows
noncomputable abbrev Jz:Kg Ki:=[.type "ValueError",.type "Exception",.type "BaseException",.type "object"]
abbrev Fx (e C:Kn)(dd:Kk Kn)(h:K7):Prop:=∃vs sl t0,h.get? e=bt #[.ref C,dd,.fields vs,sl]/\vs[0]?=bt (.ref t0)/\vs[1]?=bt .none
def Fx.ok {P:KF}{w:KS}{H:Hp}{h:K7}{e C:Kn}{dd:Kk Kn}(x:Fx e C dd h):ObjOk P w H h e (.ext (Fx e C dd)):=
 #[x,let ⟨_,_,_,q,_⟩:=x; #[_,q],λh1 h2 y k=>let ⟨vs,sl,t0,q,r⟩:=y; #[vs,sl,t0,k _ q,r]]
structure XC (K:Frag)(C:Kn)(cd:Mb):Prop extends XK K C cd where
 obj:∃nm q N bs bm sn sub ab col dd k0 k1 k2 k3 k5,K.lookup C=bt (excClassObj nm q C N bs bm true sn sub ab col dd k0 k1 k2 k3 k5 "ValueError.__new__")/\tailIn K Jz bm=true/\bm.contains (.type "BaseException")=true
 sa:findIn K (.ref C) "__setattr__" = bt (bt (.builtin "object.__setattr__"))
section
variable{X:Cx}{x:Ks}{p pos apos:L9}{a:KC}{es:Kg KC}{t:TA}{CL:Kn}{mc:Ki}
abbrev vw (K:Frag)(t:TA):TE:=λY H Q=>t Y H λvs H1=>∃e C cd dd aF,vs=.ref e::aF/\aF.length<=sizeLine/\XC K C cd/\H1 e=bt (.ext (Fx e C dd))/\Q .non H1
def vx {pl:R1 KR}(hgl:Gl X x)(hmg:X.mg x=bt (.ref CL))(hg:specialIn X.K (.ref CL) "__getattribute__" = bt (bt (.builtin "type.__getattribute__")))(hr:readsIn X.K CL mc=true)
  (hf:findCls X.K (.ref CL) mc "__init__" = bt (.val (.builtin "ValueError.__init__"))) (ha:PA X (a::es) t)
  (hst:starEach (a::es) X.env=(false,eval a X.env)::starEach es X.env:=by rfl) (hpl:(backTo pos (starEach es X.env)).any (·.1)=false:=by rfl)
  (ht:eval (.Call (.Attribute (.Name x p) "__init__" apos) (a::es) [] pos) X.env=(do
   let ov <- eval (.Name x p) X.env
   standAt apos.atName
   let (f,first) <- holding [ov] (getMethod ov "__init__" pl)
   callWith pos f first (backTo pos (starEach (a::es) X.env)) (backToKw pos (keywordEach [] X.env))):=by rfl) (hdb:(x==("__debug__" : Ks))=false:=by decide) :
  PE X (.Call (.Attribute (.Name x p) "__init__" apos) (a::es) [] pos) (vw X.K t):=by
 intro J s Y H Q I h;show PySem.W.methodCall_KW (pl:=pl) (ce I hgl hmg ?_ hdb) ht;show Ft I.kIn hg hr hf (by decide +kernel) ?_
 have I0:=I.tok (s.toks+1);show callWith_builtin1 (aK (ha pos J _ Y H _ I0 h) λus s1 #[vs,H1,I1,r1,q1]=>?_) hst hpl
 obtain⟨e,C,cd,dd,aF,rfl,hz,Yj,he,hq⟩:=q1;obtain⟨u,us',rfl,ru,rr⟩ : ∃u us',us=u::us'/\RelV (.ref e) u/\Vals aF us':=by
  cases r1 with
  | cons a b=>exact#[_,_,rfl,a,b]
 obtain rfl:u=KZ e:=ru;obtain⟨nm,q,N,bs,bm,sn,sub,ab,col,dd',k0,k1,k2,k3,k5,lk,tl,_⟩:=Yj.obj;obtain⟨⟨ws,sl,t0,o1,o2,o3⟩,_,_⟩:=I1.hok e _ he;have X1:=I1.kIn;obtain⟨hh,g,d,tk,os⟩:=s1;show Fq OF (tail_of_in X1 tl) (X1 _ _ lk) o1 o2 ?_ (by rw[<- rr.length]; exact hz)
 have o1':(hh.push (fQ us')).get? e=bt #[.ref C,dd,.fields ws,sl]:=Kl _ o1;have o1'':=LG (Na (·.setIfInBounds 0 (.ref hh.objs.size))) o1' rfl
 have nf:Fx e C dd ((hh.push (fQ us')).update e (Na (·.setIfInBounds 0 (.ref hh.objs.size)))):=
  #[_,sl,hh.objs.size,o1'',by simp[(LM.mp o2).1],by rw[Oa #v[]]; exact o3]
 have I2:=I1.write (o:=.ext (Fx e C dd)) (t':=tk) (h':=(hh.push (fQ us')).update e (Na (·.setIfInBounds 0 (.ref hh.objs.size)))) (x:=e) (e:=e) (by rw[he]; trivial) (.inl rfl)
  (λb u hb q=>by rw[Le _ _ (Ne.symm hb)]; exact Kl _ q) #[_,o1''] nf.ok
 have eH:aE H1 e (.ext (Fx e C dd))=H1:=by
  funext b
  unfold aE;split
  ·rename_i z; rw[z,he]
  ·rfl
 rw[eH]at I2;exact#[.non,H1,I2,rfl,hq]
end
abbrev Dx (dx:Kn)(fs:Kg (Ks×V))(h:K7):Prop:=∃mA,h.Ns1 dx mA/\(∀f,RelO (fs.lookup f) (mA f))/\Within mA (fs.map (·.1))
def Dx.ok {P:KF}{w:KS}{H:Hp}{h:K7}{dx:Kn}{fs:Kg (Ks×V)}(x:Dx dx fs h):ObjOk P w H h dx (.ext (Dx dx fs)):=
 #[x,let ⟨_,⟨o,_,_,q,_⟩,_⟩:=x; #[o,q],λh1 h2 y k=>let ⟨mA,⟨o,es,ep,q,r⟩,z⟩:=y; #[mA,#[o,es,ep,k _ q,r],z]]
section
variable{X:Cx}{J:Kg (Kn×LJ)}{Y:L2.St}{H:Hp}{s:Km}{h':K7}{e dx:Kn}{φ ψ χ:K7->Prop}{t':Kt}
def y9 (I:L2.Inv X J Y H s)(he:H e=bt (.ext φ))(hd:s.heap.objs.size<=dx)(k:∀b u,b≠e->s.heap.get? b=bt u->h'.get? b=bt u)
  (o1:∀H',ObjOk X.prog X.w H' h' e (.ext ψ)) (o2:∀H',ObjOk X.prog X.w H' h' dx (.ext χ)):L2.Inv X J Y (aE (aE H e (.ext ψ)) dx (.ext χ)) { s with heap:=h',toks:=t' }:=by
 have nd:H dx=gV:=I.hok.fresh hd;have ne:dx≠e:=λz=>by rw[z,he]at nd; cases nd
 have oth:∀b,b≠e->b≠dx->aE (aE H e (.ext ψ)) dx (.ext χ) b=H b:=λb h1 h2=>by rw[al h2,al h1]
 have lt:∀b o,s.heap.get? b=bt o->b≠dx:=λb o q z=>absurd (Ky q) (by rw[z]; exact O2.mpr hd)
 have ne':∀b,H b=gV->b≠e:=λb q z=>by rw[z,he]at q; cases q
 have ind:∀b u,H b=bt u->b≠dx:=λb u q z=>by rw[z,nd]at q; cases q
 show I.un #[λb o q n _ _=>k b o (ne' b n) q,λb o q n _ _=>#[o.slots,k b o (ne' b n) q],λb o q n _=>by rw[oth b (ne' b n) (lt b o q)]; exact n,λb o q _=>?_,λb xs q=>?_,λb o u q=>?_,λb ps q=>#[#[],?_]] λb u q=>?_
 ·by_cases z:b=e
  ·rw[z]; exact let ⟨_,w,_⟩:=o1 H; w
  ·exact#[o,k b o z q]
 ·rw[oth b (λz=>by rw[z,he]at q; cases q) (ind b _ q)]; exact q
 ·rw[oth b (λz=>by rw[z,he]at q; cases q) (ind b _ q)]; exact q
 ·rw[oth b (λz=>by rw[z,he]at q; cases q) (ind b _ q),q]; simp
 ·by_cases z1:b=dx
  ·rw[z1,am]at q;cases q;rw[z1];exact o2 _
  ·rw[al z1]at q
   by_cases z2:b=e
   ·rw[z2,am]at q;cases q;rw[z2];exact o1 _
   ·rw[al z2]at q;show(I.hok b u q).stay (λc v hc r=>k c v ?_ r) (λc r=>?_) λc xs r=>?_
    ·rcases hc with z|z
     ·rw[z]; exact z2
     ·exact λz'=>by rw[z',he]at z; cases z
    ·rw[oth c (λz=>by rw[z,he]at r; cases r) (ind c _ r)]; exact r
    ·rw[oth c (λz=>by rw[z,he]at r; cases r) (ind c _ r)]; exact r
end
section
variable{X:Cx}{o value:KC}{ta tv:TE}{f:Ks}{pos pos':L9}
abbrev Bk (K:Frag)(ta tv:TE)(f:Ks):TS:=λD Y H=>tv Y H λy H1=>ta Y H1 λx H2=>∃e C cd,x=.ref e/\XC K C cd/\findIn K (.ref C) f=bt gV/\
 ((H2 e=bt (.ext (Fx e C gV))/\∀dx,H2 dx=gV->D.nx Y (aE (aE H2 e (.ext (Fx e C (bt dx)))) dx (.ext (Dx dx [(f,y)]))))\/
  (∃dx fs,H2 e=bt (.ext (Fx e C (bt dx)))/\dx≠e/\fs.length<=100/\H2 dx=bt (.ext (Dx dx fs))/\D.nx Y (aE H2 dx (.ext (Dx dx (gB f y fs))))))
def zd (ha:PE X o ta)(hv:PE X value tv)(hs:swapsWith value (bt (.Attribute o f pos')) pos.line X.env=pure false):PS X (.Assign [.Attribute o f pos'] value pos) (Bk X.K ta tv f):=by
 intro J s Y H D I h;show plainObj_wpAny_Assign_Attribute (aK (hv J s Y H _ I h) λu s1 #[y,H1,I1,ry,q]=>aK (ha J s1 Y H1 _ I1 q) λov s2 #[x,H2,I2,rx,e,C,cd,ex,Yj,hf,q2]=>?_) hs
 subst ex;obtain rfl:ov=KZ e:=rx;rcases q2 with⟨he,hq⟩|⟨dx,fs,he,hne,hl,hd,hq⟩
 ·obtain⟨⟨ws,sl,t0,o1,o2,o3⟩,_,_⟩:=I2.hok e _ he;show vo I2.kIn o1 Yj.sa Yj.cls Yj.mro Yj.dct hf λh' tk g1 g2 g3 g4=>?_
  have fx:Fx e C (bt s2.heap.objs.size) h':=#[ws,sl,t0,g1,o2,o3];have dd:Dx s2.heap.objs.size [(f,y)] h':=#[_,g2,λg=>?_,?_]
  ·exact#[Y,_,y9 I2 he (Kz _) g3 (λ_=>fx.ok) (λ_=>dd.ok),hq _ (I2.hok.fresh (Kz _))]
  ·change RelO ((gB f y []).lookup g) (if g=f then bt u else gV)
   rw[ei]
   by_cases q:g=f
   ·rw[KQ q,KQ q]; exact ry
   ·rw[KY q,KY q]; trivial
  ·intro g hg
   by_cases q:g=f
   ·rw[q]; exact KP
   ·exact absurd (show(if g=f then bt u else gV)=gV by rw[KY q]) hg
 ·obtain⟨⟨ws,sl,t0,o1,o2,o3⟩,_,_⟩:=I2.hok e _ he;obtain⟨⟨mA,n1,n2,n3⟩,_,_⟩:=I2.hok dx _ hd;show tf I2.kIn o1 n1 n3 (by rw[Kv]; exact hl) hne Yj.sa Yj.cls Yj.mro Yj.dct hf λh' tk g2 g3 g4=>?_
  have dd:Dx dx (gB f y fs) h':=#[_,g2,λg=>?_,?_]
  ·exact#[Y,_,I2.write (o:=.ext (Dx dx (gB f y fs))) (x:=dx) (e:=dx) (by rw[hd]; trivial) (.inl rfl) (λb u hb q=>by rw[g3 b hb]; exact q) (let ⟨_,⟨o,_,_,q,_⟩,_⟩:=dd; #[o,q]) dd.ok,hq]
  ·change RelO ((gB f y fs).lookup g) (if g=f then bt u else mA g)
   rw[ei]
   by_cases q:g=f
   ·rw[KQ q,KQ q]; exact ry
   ·rw[KY q,KY q]; exact n2 g
  ·intro g hg
   by_cases q:g=f
   ·rw[q]; exact(ik f y fs).1
   ·show(ik f y fs).2 g (n3 g λz=>hg ?_)
    show(if g=f then bt u else mA g)=gV
    rw[KY q]; exact z
end
structure XM (K:Frag)(C f:Kn)(cd:Mb):Prop extends XC K C cd where
 init:findIn K (.ref C) "__init__" = bt (bt (.ref f))
 fn:typeIn K (.ref f)=bt (.type "function")
 kp:keepIn K (.ref C)=true
section
variable{X:Cx}{CX:pL}{k:Kt}{f C:Kn}{cd:Mb}{fd:Lv}{ps:Kg Ks}{sp:Sp}{E:L2.XK}{x:Ks}{p pos:L9}{a:KC}{es:Kg KC}{t:TA}
def lh {J:Kg (Kn×LJ)}{Y:L2.St}{H:Hp}{s:Km}{Q:VK}{us:Kg Ki}{vs:Kg V}(Mqa:XM X.K C f cd)(F:FnOk X.prog X.w X.K X.mg X.base CX k f fd ps sp)(hr:Room (k+1) X.A)(hb:Binds X.K fd ps [])
  (hx:gb CX X E) (I:L2.Inv X J Y H s) (r:Vals vs us) (hz:us.length<=sizeLine)
  (h:∀e,H e=gV->s.heap.objs.size<=e->sp (.ref e::vs) (aE H e (.ext (Fx e C gV))) (λv H2=>v=.non/\Q (.ref e) H2) E) :
  wpAny (model X.prog X.w) X.A (call (.ref C) us) (EP X J Y Q) X.xe s:=by
 have hq:=h (s.heap.objs.size+1) (I.hok.fresh (MF _)) (MF _);obtain⟨nm,q,N,bs,bm,sn,sub,ab,col,dd',k0,k1,k2,k3,k5,lk,tl,_⟩:=Mqa.obj;have I1:L2.Inv X J Y (aE H (s.heap.objs.size+1) (.ext (Fx (s.heap.objs.size+1) C gV))) { s with heap:=(s.heap.push (fQ us)).push (il C s.heap.objs.size) }:=by
  show I.laid (t':=s.toks) (λb u e=>Kl _ (Kl _ e)) (MF _) (Fx.ok #[[.ref s.heap.objs.size,.none,.none,.none,.bool false,.none].toArray,#[],s.heap.objs.size,?_,rfl,rfl])
  exact Qz (by simp) rfl
 have r2:Vals (V.ref (s.heap.objs.size+1)::vs) (KZ (s.heap.objs.size+1)::us):=.cons rfl r;have hl:(KZ (s.heap.objs.size+1)::us++[]).length=ps.length:=by
  have e:=r2.length;rw[F.len _ _ _ _ hq]at e;rw[LK];exact e.symm
 have X0:=I.kIn;have hb2:=hb _ (KZ (s.heap.objs.size+1)::us) I1.kIn hl;rw[LK]at hb2;have run:=F.run _ X.stack _ _ #[KZ (s.heap.objs.size+1)::us,[]] (KZ (s.heap.objs.size+1)::us) _ _ E (hr.make C us []) (I1.env0.make C us []) hb2 r2 hq;obtain⟨hh,g,d,tk,os⟩:=s;show vn OF (tail_of_in X0 tl) (X0 _ _ lk) (looks_findIn X0 Mqa.init) (λself=>bind_fn X0 self Mqa.fn) (MO run λr s' hq'=>?_) hz
 cases r with
 | error e=>exact hx J Y _ _ e s' I1 hq'
 | ok fl=>
  cases fl with
  | ret u=>
   obtain⟨v,H',I3,rv,ev,q3⟩:=I1.after hq';subst ev;exact#[rv,#[V.ref (hh.objs.size+1),H',I3,rfl,q3]]
  | next=>exact Lj.elim hq'
  | brk=>exact Lj.elim hq'
  | cont=>exact Lj.elim hq'
end
abbrev Ex (e C:Kn)(dd:Kk Kn)(h:K7):Prop:=∃vs sl,h.get? e=bt #[.ref C,dd,.fields vs,sl]
def Ex.ok {P:KF}{w:KS}{H:Hp}{h:K7}{e C:Kn}{dd:Kk Kn}(x:Ex e C dd h):ObjOk P w H h e (.ext (Ex e C dd)):=
 #[x,let ⟨_,_,q⟩:=x; #[_,q],λh1 h2 y k=>let ⟨vs,sl,q⟩:=y; #[vs,sl,k _ q]]
def Fly.ex {h:K7}{e C:Kn}{dd:Kk Kn}{a0 fl:Ki}(x:Fly h e (.ref C) dd a0 fl):Ex e C dd h:=by
 cases x with
 | new q _ _=>exact#[_,_,q]
 | on q _ _ _ _ _ _=>exact#[_,_,q]
abbrev cu (h:K7)(b:Kn):KR:=match h.get? b with
 | some #[_,_,.fields _,_]=>true
 | _=>false
def dn {h:K7}{b:Kn}{o:LJ}(q:h.get? b=bt o)(n:cu h b=false):∀vs,o.data≠.fields vs:=λvs e=>by
 obtain⟨c,d,dt,sl⟩:=o;cases e;simp[cu,q]at n
def tj {h:K7}{b:Kn}(n:cu h b=true):∃o vs,h.get? b=bt o/\o.data=.fields vs:=by
 unfold cu at n;split at n
 ·rename_i q; exact#[_,_,q,rfl]
 ·cases n
def vy {P:KF}{w:KS}{H:Hp}{h:K7}{a:Kn}{o:HO}(x:ObjOk P w H h a o):∃ob,h.get? a=bt ob:=by
 cases o with
 | lst xs=>obtain⟨_,_,_,_,e⟩:=x; exact#[_,e]
 | tup xs=>obtain⟨⟨_,_,e,_⟩,_⟩:=x; exact#[_,e]
 | dK U=>obtain⟨_,_,_,_,o,_,_,e,_⟩:=x; exact#[_,e]
 | dT U=>obtain⟨_,_,_,_,o,_,_,e,_⟩:=x; exact#[_,e]
 | set S n=>obtain⟨o,_,_,_,e,_⟩:=x; exact#[_,e]
 | ins C dx fs=>obtain⟨_,_,_,e,_⟩:=x; exact#[_,e]
 | own y=>exact x
 | xd fs=>obtain⟨_,⟨_,_,_,e,_⟩,_⟩:=x; exact#[_,e]
 | rng lo hi=>obtain⟨_,_,_,e⟩:=x; exact#[_,e]
 | frz ob u=>obtain⟨e,_⟩:=x; exact#[_,e]
 | tbl ps=>exact#[_,(show h.get? a=bt _ from x)]
 | met f y=>exact#[_,(show h.get? a=bt _ from x)]
 | ext φ=>obtain⟨_,e,_⟩:=x; exact e
structure Air (X:Cx)(J:Kg (Kn×LJ))(Y:L2.St)(H:Hp)(s:Km)(a C:Kn)(dd:Kk Kn)(a0:Ki):Prop where
 inv:L2.Inv X J Y H s
 fly:Fly s.heap a (.ref C) dd a0 .none
 new:X.s₀.heap.objs.size<=a
 ext:H a=bt (.ext (Ex a C dd))
 low:∀b u,H b=bt u->a < b->cu s.heap b=false
 pin:∀p∈X.pn++J,a < p.1->cu s.heap p.1=false
section
variable{X:Cx}{J:Kg (Kn×LJ)}{Y:L2.St}{H:Hp}{s:Km}{a C:Kn}{dd:Kk Kn}{a0:Ki}{h':K7}
def Air.mv (Yj:Air X J Y H s a C dd a0)(m:Mv (kX X.stack) a s.heap h')(f:Fly h' a (.ref C) dd a0 .none):Air X J Y H { s with heap:=h' } a C dd a0:=by
 have I:=Yj.inv;have fr:∀b∈kX X.stack,∃o,s.heap.get? b=bt o/\∀vs,o.data≠.fields vs:=λb hb=>(I.stack.mem hb).2
 have keepH:∀b u o,H b=bt u->b≠a->s.heap.get? b=bt o->h'.get? b=bt o:=λb u o hb ne q=>
  m.keep b o q (λz=>by rw[I.stkFree b z]at hb; cases hb) ne λlt=>dn q (Yj.low b u hb lt)
 have same:∀b o,s.heap.get? b=bt o->cu s.heap b=false->b≠a->cu h' b=false:=λb o q n ne=>by
  by_cases hb:b∈kX X.stack
  ·obtain⟨sl,q'⟩:=m.fram b o q hb (dn q n);unfold cu;rw[q'];obtain⟨c,d,dt,sl'⟩:=o;cases dt <;> first|rfl|(simp[cu,q]at n)
  ·unfold cu at n ⊢;rw[m.keep b o q hb ne λ_=>dn q n]
   rw[q]at n;exact n
 have tx:L2.Inv X J Y H { s with heap:=h' }:=by
  show I.call (ch:=(Mh s.heap.objs.size).filter λb=>decide (a < b)&&cu s.heap b) (g':=s.gens) (t':=s.toks) (d':=s.drawn) #[λb o q n nf nc=>?_,λb o q n hb nc=>?_,λb o q n _=>n,λb o q nc=>?_,λ_ _ q=>q,λ_ _ _ q=>q,λb ps q=>#[#[],by rw[q]; simp]] (λb u q=>?_) I.bare λb hb=>?_
  ·show m.keep b o q nf (λz=>by rw[z,Yj.ext]at n; cases n) λlt=>?_
   cases hr:cu s.heap b with
   | false=>exact dn q hr
   | true=>exact absurd (MK.mpr #[NX.mpr (Ky q),by simp[lt,hr]]) nc
  ·obtain⟨o',q',n'⟩:=fr b hb;rw[q]at q';cases q';exact m.fram b o q hb n'
  ·by_cases hb:b∈kX X.stack
   ·obtain⟨o',q',n'⟩:=fr b hb;rw[q]at q';cases q';exact let ⟨sl,z⟩:=m.fram b o q hb n'; #[_,z]
   ·by_cases z:b=a
    ·rw[z]; exact let ⟨_,_,w⟩:=f.ex; #[_,w]
    ·show#[o,m.keep b o q hb z λlt=>?_]
     cases hr:cu s.heap b with
     | false=>exact dn q hr
     | true=>exact absurd (MK.mpr #[NX.mpr (Ky q),by simp[lt,hr]]) nc
  ·by_cases z:b=a
   ·rw[z,Yj.ext]at q;cases q;rw[z];exact f.ex.ok
   ·show(I.hok b u q).stay (λc v hc r=>?_) (λ_ r=>r) λ_ _ r=>r
    rcases hc with hc|hc
    ·rw[hc]at r ⊢; exact keepH b u v q z r
    ·exact keepH c _ v hc (λz'=>by rw[z',Yj.ext]at hc; cases hc) r
  ·obtain⟨h1,h2⟩:=MK.mp hb;rw[Kj]at h2;have lt:=Lq h2.1;obtain⟨o,vs,q,hd⟩:=tj h2.2;show#[.inr (MN (Qa Yj.new lt)),λz=>?_,λx c hx z=>?_,λp hp z=>?_]
   ·obtain⟨mm,⟨o',es,ep,ho,hd',_⟩,_⟩:=I.loc;rw[<- z,q]at ho;cases ho;rw[hd]at hd';cases hd'
   ·obtain⟨v,o',ho,hd'⟩:=I.cell x c hx;rw[z,q]at ho;cases ho;rw[hd]at hd';cases hd'
   ·have:=Yj.pin p hp (by rw[z]; exact lt)
    rw[z,h2.2]at this;cases this
 show#[tx,f,Yj.new,Yj.ext,λb u hb lt=>?_,λp hp lt=>?_]
 ·have hlt:=I.hok.lt hb;cases q:s.heap.get? b with
  | none=>
   obtain⟨o,e'⟩:=vy (I.hok b u hb);rw[q]at e'; cases e'
  | some o=>exact same b o q (Yj.low b u hb lt) (K9 lt)
 ·exact same p.1 p.2 (I.pin p hp).1 (Yj.pin p hp lt) (K9 lt)
end
inductive CXx (P:KF)(w:KS)(outer:Kg Ov)(H:Hp)(s:Km)(E:L2.XK)(e:Ki)(s':Km):Prop
 | mk (a C:Kn) (dd:Kk Kn) (a0:Ki) (H':Hp) (he:e=.ref a) (new:s.heap.objs.size<=a) (os:s'.os=s.os) (bare:Oq s'.gens) (un:Un (kX outer) [] H H' s.heap s'.heap) (hok:HOk P w H' s'.heap)
   (fly:Fly s'.heap a (.ref C) dd a0 .none) (ext:H' a=bt (.ext (Ex a C dd))) (low:∀b u,H' b=bt u->a < b->cu s'.heap b=false) (q:E (.ref C) dd H'):CXx P w outer H s E e s'
section
variable{X:Cx}{J:Kg (Kn×LJ)}{Y:L2.St}{H:Hp}{s s':Km}{E:L2.XK}{e:Ki}
def CI (I:L2.Inv X J Y H s)(h:CXx X.prog X.w X.stack H s E e s'):∃a C dd a0 H',e=.ref a/\Air X J Y H' s' a C dd a0/\E (.ref C) dd H':=by
 obtain⟨a,C,dd,a0,H',he,new,os,bare,un,hok,fly,ext,low,q⟩:=h;show#[a,C,dd,a0,H',he,#[?_,fly,KJ I.sz new,ext,low,λp hp lt=>?_],q]
 ·obtain⟨hh,g,d,t,os'⟩:=s';obtain rfl:os'=s.os:=os;exact I.call (h':=hh) (g':=g) (d':=d) (t':=t) (ch:=[]) un hok bare (λb z=>absurd z (by simp))
 ·exact absurd (Ky (I.pin p hp).1) (O2.mpr (KJ new (MN lt)))
end
section
variable{P:KF}{w:KS}{K:Kr}{mg:Ks->Kk Ki}{base:K7}{N:Kg Ks}{qual:Ks}{scope:M1}{f:Kn}{cd:Ki}{A:K1}{outer:Kg Ov}{s0 s:Km}{H0 H:Hp}{E:L2.XK}{J:Kg (Kn×LJ)}{Y:L2.St}{a C:Kn}{dd:Kk Kn}{a0:Ki}
def CJ (Yj:Air (eC (CXx P w) P w K mg base N qual scope f cd A outer s0 H0 E) J Y H s a C dd a0)(q:E (.ref C) dd H):(eC (CXx P w) P w K mg base N qual scope f cd A outer s0 H0 E).xe (.ref a) s:=by
 have I:=Yj.inv;show y8 (L:=s0.heap.objs.size) (base:=base) I.ok.frames I.stack rfl Yj.fly λh' m f'=>?_
 have Zx:=Yj.mv m f';have tx:=Zx.inv;exact#[a,C,dd,a0,H,rfl,Yj.new,tx.os,tx.bare,tx.base,tx.hok,f',Zx.ext,Zx.low,q]
end
abbrev XQ (n:Kt)(C:Kn)(H1:Hp)(Ew:L2.XK):VK:=λv H2=>∃e dd,v=.ref e/\n<=e/\H2 e=bt (.ext (Fx e C dd))/\(∀b u,H2 b=bt u->(∃u',H1 b=bt u')\/b=e\/∃fs,u=.ext (Dx b fs))/\Ew (.ref C) dd (aE H2 e (.ext (Ex e C dd)))
abbrev vz (C:Kn)(sp:Sp)(E Ew:L2.XK)(t:TA):TS:=λ_ Y H=>t Y H λvs H1=>vs.length<=sizeLine/\∀n e,H1 e=gV->n<=e->
 sp (.ref e::vs) (aE H1 e (.ext (Fx e C gV))) (λv H2=>v=.non/\XQ n C H1 Ew (.ref e) H2) E
section
variable{X:Cx}{CX:pL}{k:Kt}{f C:Kn}{cd:Mb}{fd:Lv}{ps:Kg Ks}{sp:Sp}{E Ew:L2.XK}{x:Ks}{p cpos pos:L9}{a:KC}{es:Kg KC}{t:TA}
def nF {J:Kg (Kn×LJ)}{Y:L2.St}{H1 H2:Hp}{s1 s2:Km}{e:Kn}{dd:Kk Kn}(I1:L2.Inv X J Y H1 s1)(he:s1.heap.objs.size<=e)(I2:L2.Inv X J Y H2 s2)(h2:H2 e=bt (.ext (Fx e C dd)))
  (hl:∀b u,H2 b=bt u->(∃u',H1 b=bt u')\/b=e\/∃fs,u=.ext (Dx b fs)):∃ws sl a0,s2.heap.get? e=bt #[.ref C,dd,.fields ws,sl]/\ws[1]?=bt .none/\Air X J Y (aE H2 e (.ext (Ex e C dd))) s2 e C dd a0:=by
 obtain⟨⟨ws,sl,t0,o1,o2,o3⟩,_,_⟩:=I2.hok e _ h2;show#[ws,sl,.ref t0,o1,o3,#[?_,.new o1 o2 o3,KJ I1.sz he,am,λb u hb lt=>?_,λp hp lt=>?_]]
 ·have tx:=I2.write (o:=.ext (Ex e C dd)) (t':=s2.toks) (h':=s2.heap) (x:=e) (e:=e) (by rw[h2]; trivial) (.inl rfl) (λb u _ q=>q) #[_,o1] (Ex.ok #[ws,sl,o1])
  exact tx
 ·rw[al (K9 lt)]at hb;rcases hl b u hb with⟨u',z⟩|z|⟨fs,z⟩
  ·exact absurd (I1.hok.lt z) (O2.mpr (KJ he (MN lt)))
  ·exact absurd z (K9 lt)
  ·subst z;obtain⟨⟨mA,⟨o,es',ep,q,qd,_⟩,_⟩,_⟩:=I2.hok b _ hb;unfold cu;rw[q];obtain⟨c,d,dt,sl'⟩:=o;cases qd;rfl
 ·exact absurd (Ky (I1.pin p hp).1) (O2.mpr (KJ he (MN lt)))
def vA (hh:X.A.handled=gV)(Mqa:XM X.K C f cd)(F:FnOk X.prog X.w X.K X.mg X.base CX k f fd ps sp)(hr:Room (k+1) X.A)(hg:Gl X x)(hm:X.mg x=bt (.ref C))(hb:Binds X.K fd ps [])(hx:gb CX X E)
  (hw:∀J Y H s a C dd a0,Air X J Y H s a C dd a0->Ew (.ref C) dd H->X.xe (.ref a) s)
  (ha:PA X (a::es) t) (hdb:(x==("__debug__" : Ks))=false:=by decide) (he:starEach (a::es) X.env=(false,eval a X.env)::starEach es X.env:=by rfl) (hpl:(backTo cpos (starEach es X.env)).any (·.1)=false:=by rfl) :
  PS X (.Raise (bt (.Call (.Name x p) (a::es) [] cpos)) gV pos) (vz C sp E Ew t):=by
 intro J s Y H D I h;obtain⟨nm,q,N,bs,bm,sn,sub,ab,col,dd',k0,k1,k2,k3,k5,lk,tl,hbase⟩:=Mqa.obj;rw[RH];show Kh (M8 (vp (C:=C) (nm:=nm) (q:=q) (N:=N) (bs:=bs) (bm:=bm) (hdct:=true) (sn:=sn) (sub:=sub) (ab:=ab) (col:=col) (dd:=dd') (k0:=k0) (k1:=k1) (k2:=k2) (k3:=k3) (k5:=k5) (newId:="ValueError.__new__") hbase hh (Kh ?_)));show Lf (Q:=λv s'=>∃e dx vs sl,v=.ref e/\s'.heap.get? C=bt (excClassObj nm q C N bs bm true sn sub ab col dd' k0 k1 k2 k3 k5 "ValueError.__new__")/\s'.heap.get? e=bt #[.ref C,dx,.fields vs,sl]/\vs[1]?=bt .none/\X.xe (.ref e) s') ?_ (λv s3 h3=>Kh (M8 (Kq h3))) λ_ _ z=>z
 show My (ce I hg hm ?_ hdb);show OA (h₀:=X.base) I.ok.mod.kin Mqa.kp (aK (ha cpos J s Y H _ I h) λus s1 #[vs,H1,I1,r,q]=>#[I1.kIn,?_]) he hpl
 show Lf (lh (Q:=XQ s1.heap.objs.size C H1 Ew) Mqa F hr hb hx I1 r (by have:=r.length; have:=q.1; simp only[Pc]; omega) λe n le=>q.2 _ e n le) (λv s2 #[v',H2,I2,rv,e,dd,ev,le,h2,hl,hE]=>?_) λ_ _ z=>z
 subst ev;obtain rfl:v=KZ e:=rv;obtain⟨ws,sl,a0,g1,g2,Yj⟩:=nF I1 le I2 h2 hl;exact#[e,dd,ws,sl,rfl,I2.kIn _ _ lk,g1,g2,hw _ _ _ _ _ _ _ _ Yj hE]
def tm (hh:X.A.handled=gV)(Mqa:XM X.K C f cd)(F:FnOk X.prog X.w X.K X.mg X.base CX k f fd ps sp)(hr:Room (k+1) X.A)(hg:Gl X x)(hm:X.mg x=bt (.ref C))(hb:Binds X.K fd ps [])(hx:gb CX X E)
  (hw:∀J Y H s a C dd a0,Air X J Y H s a C dd a0->Ew (.ref C) dd H->X.xe (.ref a) s) (hdb:(x==("__debug__" : Ks))=false:=by decide) :
  PS X (.Raise (bt (.Call (.Name x p) [] [] cpos)) gV pos) (vz C sp E Ew yN):=by
 intro J s Y H D I h;obtain⟨nm,q,N,bs,bm,sn,sub,ab,col,dd',k0,k1,k2,k3,k5,lk,tl,hbase⟩:=Mqa.obj;rw[RH];show Kh (M8 (vp (C:=C) (nm:=nm) (q:=q) (N:=N) (bs:=bs) (bm:=bm) (hdct:=true) (sn:=sn) (sub:=sub) (ab:=ab) (col:=col) (dd:=dd') (k0:=k0) (k1:=k1) (k2:=k2) (k3:=k3) (k5:=k5) (newId:="ValueError.__new__") hbase hh (Kh ?_)));show Lf (Q:=λv s'=>∃e dx vs sl,v=.ref e/\s'.heap.get? C=bt (excClassObj nm q C N bs bm true sn sub ab col dd' k0 k1 k2 k3 k5 "ValueError.__new__")/\s'.heap.get? e=bt #[.ref C,dx,.fields vs,sl]/\vs[1]?=bt .none/\X.xe (.ref e) s') ?_ (λv s3 h3=>Kh (M8 (Kq h3))) λ_ _ z=>z
 show My (ce I hg hm ?_ hdb);show PF I.kIn Mqa.kp ?_;show Lf (lh (us:=[]) (Q:=XQ s.heap.objs.size C H Ew) Mqa F hr hb hx I .nil (MP _) λe n le=>h.2 _ e n le) (λv s2 #[v',H2,I2,rv,e,dd,ev,le,h2,hl,hE]=>?_) λ_ _ z=>z
 subst ev;obtain rfl:v=KZ e:=rv;obtain⟨ws,sl,a0,g1,g2,Yj⟩:=nF I le I2 h2 hl;exact#[e,dd,ws,sl,rfl,I2.kIn _ _ lk,g1,g2,hw _ _ _ _ _ _ _ _ Yj hE]
end
noncomputable abbrev re (X:Cx)(a:Kn):Cx:={ X with A:=X.A.mark (bt (.ref a)),calm:=false,xe:=λ_ _=>Lj }
section
variable{X:Cx}{J:Kg (Kn×LJ)}{Y:L2.St}{H:Hp}{s:Km}{a C:Kn}{dd:Kk Kn}{a0:Ki}
def vB (I:L2.Inv X J Y H s):L2.Inv (re X a) J Y H s:=by
 obtain⟨ok,i2,i3,i4,i5,i6,i7,i8,i9,i10,i11⟩:=I;show#[#[ok.mod,ok.kind,ok.glob,ok.blt,ok.above,ok.inj,ok.has,ok.cab,(λz=>nomatch z),ok.frames,ok.stk,ok.exf,ok.bs,ok.bsz,ok.noex,ok.exfs,ok.funs,ok.frf],i2,i3,i4,i5,i6,i7,i8,i9,i10,i11]
def ze (ok:X.Ok)(I:L2.Inv (re X a) J Y H s):L2.Inv X J Y H s:=by
 obtain⟨_,i2,i3,i4,i5,i6,i7,i8,i9,i10,i11⟩:=I;exact#[ok,i2,i3,i4,i5,i6,i7,i8,i9,i10,i11]
def vC {Mqa:ON}{A:K1}{E:Ki->Km->Prop}{i:Kt}{n:Ks}{pos:L9}{Q:Ra->Km->Prop}(I:L2.Inv X J Y H s)(hN:X.N.Nodup)(hi:X.N[i]?=bt n)(hx:X.env.scope.names.lookup n=bt .local)
  (h:∀s',L2.Inv X J (Y.set i gV) H s'->Q () s'):wpAny Mqa A (do bindName X.env n .none; unbindBehindTheSuite X.env n pos) Q E s:=by
 unfold bindName unbindBehindTheSuite;show Kh (Kh (Ly (SL (Kh (dh (v:=.non) I hN hi (.inl hx) rfl (λs1 I1=>SL ?_) (.inr hx))))))
 show PZ ?_;obtain⟨m,hn,hl⟩:=I1.loc;have hiσ:i < Y.length:=by rw[I.len]; exact(KB.mp hi).1
 obtain⟨u,ru,lk⟩:=hl i n .non hi (by rw[Nm hiσ]) (.inl hx)
 have hv:m n=bt u:=by
  rcases lk with⟨_,z⟩|⟨z,_⟩
  ·exact z
  ·have z':X.env.scope.names.lookup n=bt .cell\/X.env.scope.names.lookup n=bt .free:=z;rw[hx]at z';rcases z' with z'|z' <;> cases z'
 show wpAny_unbindName_local hx hn hv (by rw[show X.env.scope.kind=.function from I.ok.kind]; rfl) λh' u' hn' hs=>h _ ?_
 obtain⟨ok,i2,i3,i4,i5,i6,i7,i8,i9,i10,i11⟩:=id I1;obtain⟨oL,_,_,hoL,_⟩:=id hn;have cne:=I1.cne;show#[ok,i2,i3,#[λb o e n hb hx=>?_,λb o e n hb hx=>?_,i4.free,λb o e hx=>?_,i4.tups,i4.frzs,i4.tbls],#[_,hn',λj y v' e1 e2 e3=>?_],λy c e=>?_,i7,i8,λp hp=>?_,λb ob e=>?_,?_]
 ·exact(hs.2 b (KH (KI (Ky e) ok.above))).trans (i4.keep b o e n hb hx)
 ·obtain⟨sl,e1⟩:=i4.slot b o e n hb hx;exact#[sl,(hs.2 b (KH (KI (Ky e) ok.above))).trans e1]
 ·obtain⟨o',e1⟩:=i4.there b o e hx;exact#[o',(hs.2 b (KH (KI (Ky e) ok.above))).trans e1]
 ·have hj:j≠i:=λz=>by
   rw[z,Nm hiσ]at e2;cases e2
  rw[Nz (Ne.symm hj)]at e2;obtain⟨u2,r',q⟩:=hl j y v' e1 (by rw[Nz (Ne.symm hj)]; exact e2) e3
  show#[u2,r',?_];rcases q with⟨k,e⟩|⟨k,c,e,z⟩
  ·show .inl #[k,?_];have:y≠n:=λe=>hj (jt hN e1 (e ▸ hi))
   simp[this,e]
  ·exact .inr #[k,c,e,z.sameBut hs (cne y c e)]
 ·obtain⟨w',z⟩:=i6 y c e;exact#[w',z.sameBut hs (cne y c e)]
 ·obtain⟨e,n,ne,nf,d⟩:=i9 p hp;exact#[(hs.2 p.1 ne).trans e,n,ne,nf,d]
 ·show(i10 b ob e).stay (λc w' hc q=>(hs.2 c ?_).trans q) (λ_ q=>q) λ_ _ q=>q
  rintro rfl;rcases hc with hc|hc
  ·rw[<- hc,i7]at e; cases e
  ·rw[i7]at hc; cases hc
 ·rw[Re]; exact I.len
end
structure XD (K:Frag)(D:Kn):Prop where
 tup:∀(Mqa:ON) h,K.In h->Looks Mqa h (isInstance (.ref D) (.type "tuple")) false
 exc:∀(Mqa:ON) h,K.In h->Looks Mqa h (isExcClass (.ref D)) true
def CM {Mqa:ON}{A:K1}{K:Frag}{C e:Kn}{s:Km}{E:Ki->Km->Prop}{D:Kn}{b:KR}{Q:KR->Km->Prop}(X:K.In s.heap)(I:Looks Mqa s.heap (typeOf (.ref e)) (.ref C))(T:XD K D)
  (hs:subIn K (.ref C) (.ref D)=bt b) (hq:Q b s):wpAny Mqa A (excMatches (.ref e) (.ref D)) Q E s:=by
 unfold excMatches;show Kh ((T.tup Mqa _ X).here (Kh (Kq ?_)));show Kh ?_;simp only[Pf,OG];show Kh (Kh ((T.exc Mqa _ X).here ?_));show Kq (Kq ?_);show Kh (I.here ?_);show Kh (Kh (Kh ((looks_subIn X hs).here ?_)));cases b
 ·exact Kq (Kq (Kq hq))
 ·exact Kq (Kq (Kq hq))
section
variable{X:Cx}{J:Kg (Kn×LJ)}{Y:L2.St}{H:Hp}{s:Km}
inductive Caught (X:Cx)(J:Kg (Kn×LJ))(D:Kn)(i:Kt)(b0:LO)(suite:Kg LO)(Q:Tv->Km->Prop)(e:Ki)(s1:Km):Prop
 | mk (a C:Kn) (dd:Kk Kn) (a0:Ki) (Y':L2.St) (H':Hp) (he:e=.ref a) (air:Air X J Y' H' s1 a C dd a0) (sub:subIn X.K (.ref C) (.ref D)=bt true)
   (run:∀s2,L2.Inv (re X a) J (Y'.set i (bt (.ref a))) H' s2->wpAny (model X.prog X.w) (re X a).A (execs (b0::suite) X.env)
    (λf s3=>∃Y3 H3,L2.Inv (re X a) J Y3 H3 s3/\∀s4,L2.Inv X J (Y3.set i gV) H3 s4->Q f s4) (λ_ _=>Lj) s2):Caught X J D i b0 suite Q e s1
def Fw {body suite:Kg LO}{b0:LO}{c n:Ks}{np hpos pos:L9}{D:Kn}{i:Kt}{Q:Tv->Km->Prop}(hst:X.stack=X.env::X.outer)(hfr:X.env.frame=bt X.env.locals)(hN:X.N.Nodup)(hi:X.N[i]?=bt n)
  (hx:X.env.scope.names.lookup n=bt .local) (hg:Gl X c) (hm:X.mg c=bt (.ref D)) (T:XD X.K D)
  (hb:wpAny (model X.prog X.w) X.A (execs body X.env) Q (Caught X J D i b0 suite Q) s) (hdb:(c==("__debug__" : Ks))=false:=by decide) :
  wpAny (model X.prog X.w) X.A (exec (.Try body [.ExceptHandler (bt (.Name c np)) (bt n) (b0::suite) hpos] [] [] pos) X.env) Q X.xe s:=by
 show wpAny_Try_except (Lf hb (λf s1 q=>?_) λe s1 #[a,C,dd,a0,Y',H',he,Yj,sub,run]=>?_)
 ·cases f with
  | next=>exact Kq q
  | _=>exact q
 ·subst he;have I:=Yj.inv;have F0:X.A.frames=bt (X.env::X.outer):=by rw[<- hst]; exact I.ok.frames
  show CG (base:=X.base) F0 (by rw[<- hst]; exact I.stack) hfr Yj.fly λh1 m1 f1=>?_
  rw[<- hst]at m1;have Yq:=Yj.mv m1 f1;have I1:L2.Inv (re X a) J Y' H' { s1 with heap:=h1 }:=vB Yq.inv
  show ce (X:=re X a) I1 hg hm ?_ hdb;obtain⟨ws,sl,g1⟩:=f1.ex;show CM I1.kIn ((Looks.ld g1).andThen .now) T sub #[rfl,f1,λh3 m3 f3=>?_]
  rw[<- hst]at m3;have Yx:=Yq.mv m3 f3;have I2:L2.Inv (re X a) J Y' H' { s1 with heap:=h3 }:=vB Yx.inv
  show dh (X:=re X a) (v:=.ref a) I2 hN hi (.inl hx) rfl (λs3 I3=>?_) (.inr hx)
  show Lf (run s3 I3) (λf s4 #[Y3,H3,I4,q]=>?_) λ_ _ z=>z
  exact vC (ze Yj.inv.ok I4) hN hi hx λs5 I5=>q s5 I5
end
abbrev EK (H:Hp)(a C:Kn)(dd:Kk Kn):Prop:=(∃o,H a=bt (.frz o (.ext (Ex a C dd))))/\(dd=gV\/∃dx fs o,dd=bt dx/\H dx=bt (.frz o (.ext (Dx dx fs))))
def Bl {P:KF}{w:KS}{H:Hp}{h:K7}{a C:Kn}{dd:Kk Kn}(x:EK H a C dd)(k:HOk P w H h):∃ox od,InstAt h a ox C od:=by
 obtain⟨o0,x1⟩:=x.1;obtain⟨_,⟨ws,sl,q⟩,_,_⟩:=k a _ x1;rcases x.2 with rfl|⟨dx,fs,_,rfl,e⟩
 ·exact#[_,gV,#[q,rfl,rfl,trivial]]
 ·obtain⟨_,⟨mA,⟨o,_,_,q2,_⟩,_⟩,_⟩:=k dx _ e;exact#[_,bt o,#[q,rfl,rfl,q2]]
section
variable{X:Cx}
def li:CallR X (.builtin "isinstance") (λvs H Q=>∃a C cd dd c b,vs=[.ref a,c]/\XK X.K C cd/\EK H a C dd/\((∃D,c=.ref D/\XT X.K C (.ref D) b)\/(∃T,c=.ty T/\XT X.K C (.type T) b))/\Q (.bl b) H):=by
 intro J s Y H vs us Q I r ⟨a,C,cd,dd,c,b,ev,Yj,x,hc,hq⟩;subst ev;obtain⟨u,v,rfl,ru,rv⟩ : ∃u v,us=[u,v]/\RelV (.ref a) u/\RelV c v:=by
  cases r with
  | cons r1 r'=>cases r' with
   | cons r2 r''=>cases r''; exact#[_,_,rfl,r1,r2]
 obtain rfl:u=KZ a:=ru;obtain⟨ox,od,tx⟩:=Bl x I.hok;rcases hc with⟨D,rfl,T⟩|⟨D,rfl,T⟩
 ·obtain rfl:v=KZ D:=rv;exact Fv Yj T I.kIn tx λtk=>#[.bl b,H,I.tok tk,rfl,hq]
 ·obtain rfl:v=Mn D:=rv;exact Fv Yj T I.kIn tx λtk=>#[.bl b,H,I.tok tk,rfl,hq]
def lj:∀ {ds:Kg Kn} {us:Kg Ki},Vals (ds.map V.ref) us->us=ds.map KZ
 | [],_,r=>by cases r; rfl
 | d::ds,_,r=>by
  cases r with
  | cons a b=>rw[lj b,show _=KZ d from a]; rfl
def pS:CallR X (.builtin "isinstance") (λvs H Q=>∃(a C:Kn) (cd:Mb) (dd:Kk Kn) (tp:Kn) (ds:Kg Kn) (bs:Kg KR),vs=[.ref a,.ref tp]/\XK X.K C cd/\EK H a C dd/\H tp=bt (.tup (ds.map V.ref))/\X.base.get? C≠gV/\XTs X.K C (ds.map KZ) bs/\Q (.bl (bs.any id)) H):=by
 intro J s Y H vs us Q I r ⟨a,C,cd,dd,tp,ds,bs,ev,Yj,x,ht,hC,T,hq⟩;subst ev;obtain⟨u,v,rfl,ru,rv⟩ : ∃u v,us=[u,v]/\RelV (.ref a) u/\RelV (.ref tp) v:=by
  cases r with
  | cons r1 r'=>cases r' with
   | cons r2 r''=>cases r''; exact#[_,_,rfl,r1,r2]
 obtain rfl:u=KZ a:=ru;obtain rfl:v=KZ tp:=rv;obtain⟨ox,od,tx⟩:=Bl x I.hok;obtain⟨_,its,rl,o,q,qc,n,qd⟩:=I.hok tp _ ht;obtain rfl:=lj rl;have ne:C≠tp:=λz=>by
  cases e:X.base.get? C with
  | none=>exact hC e
  | some o=>rw[z]at e; have:=(I.bs tp o e).2; rw[ht]at this; cases this
 obtain⟨c,d',dt,sl⟩:=o;cases qc;cases qd;exact vt Yj T ne q I.kIn tx λtk=>#[.bl (bs.any id),H,I.tok tk,rfl,hq]
def pT {y:V}{v:Ki}(r:RelV y v):handedIn v=true:=by
 cases y with
 | non=>rw[show v=_ from r]; rfl
 | bl b=>rw[show v=_ from r]; rfl
 | int i=>obtain⟨t,rfl⟩:=r; rfl
 | str x=>obtain⟨t,rfl⟩:=r; rfl
 | byt b=>obtain⟨t,rfl⟩:=r; rfl
 | flt b=>obtain⟨t,rfl⟩:=r; rfl
 | ref a=>rw[show v=_ from r]; rfl
 | ty n=>rw[show v=_ from r]; rfl
abbrev CN (K:Frag)(te:TE)(f:Ks):TE:=λY H Q=>te Y H λv H1=>∃a C cd dx fs y o o',v=.ref a/\XK K C cd/\findIn K (.ref C) f=bt gV/\H1 a=bt (.frz o (.ext (Ex a C (bt dx))))/\H1 dx=bt (.frz o' (.ext (Dx dx fs)))/\fs.lookup f=bt y/\Q y H1
def vD {e:KC}{te:TE}{f:Ks}{pos:L9}(he:PE X e te)(hb:attributeBase e f X.env (eval e X.env)=eval e X.env):PE X (.Attribute e f pos) (CN X.K te f):=by
 intro J s Y H Q I h;show yM hb (aK (he J s Y H _ I h) λu s1 #[x,H1,I1,rx,a,C,cd,dx,fs,y,o,o',ex,Yj,hf,e1,e2,hl,hq]=>?_)
 subst ex;obtain rfl:u=KZ a:=rx;obtain⟨_,⟨ws,sl,q⟩,_,_⟩:=I1.hok a _ e1;obtain⟨_,⟨mA,n1,n2,_⟩,_,_⟩:=I1.hok dx _ e2;have z:=n2 f;rw[hl]at z;cases hv:mA f with
 | none=>rw[hv]at z; exact z.elim
 | some v=>
  rw[hv]at z;exact IE I1.kIn q n1 Yj.ga Yj.hk Yj.cls Yj.mro Yj.dct hf hv (pT z) #[y,H1,I1.tok _,z,hq]
end
structure XL (K:Frag)(CL:Kn)(mc:Ki):Prop where
 ga:specialIn K (.ref CL) "__getattribute__" = bt (bt (.builtin "type.__getattribute__"))
 rd:readsIn K CL mc=true
 fc:findCls K (.ref CL) mc "__init__" = bt (.val (.builtin "ValueError.__init__"))
abbrev vE (K:Frag)(g:Ks):Sp:=λvs H Q _=>∃e y C cd,vs=[.ref e,y]/\XC K C cd/\findIn K (.ref C) g=bt gV/\H e=bt (.ext (Fx e C gV))/\∀dx,H dx=gV->Q .non (aE (aE H e (.ext (Fx e C (bt dx)))) dx (.ext (Dx dx [(g,y)])))
abbrev zf (K:Frag):Sp:=λvs H Q _=>∃e C cd,vs=[.ref e]/\XC K C cd/\H e=bt (.ext (Fx e C gV))/\Q .non H
end Xc
namespace Mi
open PySem PySem.Spec PyProof.Rows L2
abbrev jI (t:ND)(n:Kt):KR:=decide (Nh t.place 0=0)&&(Mh n).all λi=>decide (Nh t.place (t.place.getD i 0+1)=i+1)
abbrev gf (w:KS):KR:=w.params.followText "set-order"
abbrev JU (w:KS)(e:KD×Ki):Prop:=∃x tk,e=(hashStr w x,.str x tk)
structure Tabs (w:KS)(xs:Kg Ks)(es:Ls (KD×Ki))(t:ND):Prop where
 el:∀e∈es.toList,JU w e
 pm:(es.toList.map λe=>strOf e.2).Perm xs
 nd:xs.Nodup
 few:xs.length < scanBound
 fit:t.fits es.size=true
 led:t.led = !gf w
 pl:t.plain=true->es.size=0
abbrev cq (w:KS)(xs:Kg Ks)(o:LJ):Prop:=o.ExactSet/\∃es ep t,o.data=.set es ep t/\Tabs w xs es t
section
variable{prog:KF}{w:KS}{A:K1}{E:Ki->Km->Prop}{s:Km}{xs:Kg Ks}{es:Ls (KD×Ki)}{t:ND}
def zh {x y:Ks}{tk:Sl}:(Mm prog w).is x (.str y tk)=true↔y=x:=by
 show(y==x)=true↔y=x;exact Mx
def Tabs.elems (h:Tabs w xs es t):ElemsOf (Mm prog w) es.toList:=λe he=>by
 obtain⟨x,tk,rfl⟩:=h.el e he;exact#[#[x,zh.mpr rfl,rfl],rfl]
def Tabs.size (h:Tabs w xs es t):es.size=xs.length:=by rw[<- h.pm.length_eq,Kv,K3]
def Tabs.has (h:Tabs w xs es t)(x:Ks):(∃e∈es.toList,(Mm prog w).is x e.2=true)↔x∈xs:=by
 rw[<- h.pm.mem_iff,MD];constructor
 ·rintro⟨e,he,q⟩;obtain⟨y,tk,rfl⟩:=h.el e he;exact#[_,he,zh.mp q]
 ·rintro⟨e,he,q⟩;obtain⟨y,tk,rfl⟩:=h.el e he;exact#[_,he,zh.mpr q]
def pU (t:ND)(es:Ls (KD×Ki))(h:KD)(x:Ki):(layNew t es h x).2.1.led=t.led:=by
 unfold layNew;split
 ·unfold Th;dsimp only;split <;> rfl
 ·rfl
def tq (t:ND)(es:Ls (KD×Ki))(n:Kt):(relayAll t es n).2.1.led=t.led/\((relayAll t es n).2.1.plain=true->t.plain=true):=by
 unfold relayAll;split
 ·rename_i t' order h;dsimp only;split
  ·unfold TH TR at h;rw[Option.bind_eq_bind,Option.bind_eq_some_iff]at h;obtain⟨ow,_,h⟩:=h;cases h;exact#[rfl,λz=>z]
  ·exact#[rfl,λz=>by cases z]
 ·exact#[rfl,λz=>by cases z]
def rg {a:Kn}{o:LJ}{es1:Ls (KD×Ki)}{ep:Kt}{t1:ND}{Q:Ra->Km->Prop}(ho:s.heap.get? a=bt o)(hex:o.ExactSet)(hd:o.data=.set es ep t)(T:Tabs w xs es1 t1)
  (h:∀h',M2 a s.heap h'->h'.get? a=bt { o with data:=.set es1 (ep+1) t1 }->Q () { s with heap:=h' }):wpAny (model prog w) A (storeSet a es1 t1) Q E s:=by
 show wpAny_storeSet_of ho hd (h _ (On ..) ?_) (by rw[T.size]; exact QA T.few)
 have:=LG (Obj.putSet es1 t1) ho (by rw[putSet_of es1 t1 hd]; rfl)
 rw[putSet_of es1 t1 hd]at this;exact this
def zj {a:Kn}{o:LJ}{x:Ks}{tk:Sl}{Q:KR->Km->Prop}(ho:s.heap.get? a=bt o)(hS:cq w xs o)(hr:xs.length+1 < scanBound)
  (h:∀b h' o',M2 a s.heap h'->h'.get? a=bt o'->cq w (if x∈xs then xs else xs++[x]) o'->Q b { s with heap:=h' }):wpAny (model prog w) A (setAddHashed a (.str x tk) (hashStr w x)) Q E s:=by
 obtain⟨hex,es,ep,t,hd,T⟩:=hS;have hk:(Mm prog w).is x (.str x tk)=true:=zh.mpr rfl;have hx:=T.has (prog:=prog) x;unfold setAddHashed setAddHashedIn;show Ly (Kh (MH ho hd T.fit ?_));dsimp only;rw[byScan_of (knd:=Mm prog w) rfl (by rw[T.size]; exact T.few) T.elems]
 simp only[↓reduceIte];unfold setAddByScan;show Kh (Kh (Nn (Kh (wpAny_setScan_of (knd:=Mm prog w) hk ho hd T.fit T.elems ?_))));cases q:es.toList.findIdx? (λe=>(Mm prog w).is x e.2)with
 | some j=>
  obtain⟨hj,hp,_⟩:=NW.mp q;have hm:x∈xs:=hx.mp #[_,OU hj,hp];dsimp only;have:=h false s.heap o (Tp ..) ho (by rw[KQ hm]; exact#[hex,es,ep,t,hd,T])
  exact Kq (Kq this)
 | none=>
  have hm:x∉xs:=λz=>by
   obtain⟨e,he,hp⟩:=hx.mpr z;rw[List.findIdx?_eq_none_iff.mp q e he]at hp;cases hp
  rw[KY hm]at h;dsimp only;have lp:=layNew_perm t es (hashStr w x) (.str x tk);have lf:=layNew_fits t es (hashStr w x) (.str x tk);have ll:=pU t es (hashStr w x) (.str x tk);have hgen:∀(b:KR) {s₁:Km} {Q':Ra->Km->Prop},Q' () s₁->wpAny (model prog w) A (match b with|true=>rule "set.scan.the-table-gave-way"|false=>pure ()) Q' E s₁:=λb s₁ Q' hq=>by cases b <;> first|exact Kq hq|exact Nn hq
  generalize hL:layNew t es (hashStr w x) (.str x tk)=L at lp lf ll ⊢;obtain⟨es1,t1,dm,gv⟩:=L;dsimp only at lp lf ll ⊢;rw[QC]at lp;have T1:∀p,Tabs w (xs++[x]) es1 { t1 with plain:=p }\/p=true:=λp=>by
   cases p with
   | true=>exact .inr rfl
   | false=>
    show .inl #[λe he=>?_,(lp.map λe=>strOf e.2).trans ?_,?_,by simpa using hr,Sk lf,ll.trans T.led,λz=>by cases z]
    ·rcases Lb.mp (lp.mem_iff.mp he)with he|he
     ·exact T.el e he
     ·rw[KU.mp he]; exact#[x,tk,rfl]
    ·rw[LB];exact T.pm.append_right _
    ·exact N6.mpr #[T.nd,by simp,λy hy z hz e=>hm (by rw[KU.mp hz]at e; exact e ▸ hy)]
  have fin:∀(g:KR->R1 Ra),(∀(b:KR) (s₁:Km) (Q':Ra->Km->Prop),Q' () s₁->wpAny (model prog w) A (g b) Q' E s₁)->∀t2:ND,Tabs w (xs++[x]) es1 t2->wpAny (model prog w) A (do
    storeSet a es1 t2
    if (!dm&&t2.tooFull)=true then do
      g (relayAll t2 es1 (Ni es1.size)).2.2
      storeSet a (relayAll t2 es1 (Ni es1.size)).1 (relayAll t2 es1 (Ni es1.size)).2.1
      pure (bt true)
     else pure (bt true)) (λr s'=>wpAny (model prog w) A (match r with|some b=>pure b|none=>setAddHashedIn a (.str x tk) (hashStr w x) 99999) Q E s') E s:=λg hg t2 T2=>by
   show Kh (rg ho hex hd T2 λh1 sb1 o1=>?_)
   show MZ (λ_=>?_) (λ_=>Kq (Kq (h _ _ _ sb1 o1 #[hex,_,_,_,rfl,T2])))
   have rp:=relayAll_perm t2 es1 (Ni es1.size);have rf:=relayAll_fits t2 es1 (Ni es1.size);have rt:=tq t2 es1 (Ni es1.size);generalize hR:relayAll t2 es1 (Ni es1.size)=R at rp rf rt ⊢;obtain⟨es2,t3,g2⟩:=R;dsimp only at rp rf rt ⊢;have T3:Tabs w (xs++[x]) es2 t3:=#[λe he=>T2.el e (rp.mem_iff.mp he),(rp.map _).trans T2.pm,T2.nd,T2.few,rf,rt.1.trans T2.led,λz=>by
    have:=T2.pl (rt.2 z);rw[<- K3,rp.length_eq,K3]; exact this]
   show Kh (hg _ _ _ ?_);show Kh (rg o1 hex rfl T3 λh2 sb2 o2=>?_)
   exact Kq (Kq (h _ _ _ (sb1.trans sb2) o2 #[hex,_,_,_,rfl,T3]))
  show Kh (hgen _ ?_);split
  ·show Kh ?_;rw[hashByValue_scannable 8 rfl];show Kq ?_;exact fin _ (λb _ _ hq=>hgen b hq) _ ((T1 false).resolve_right KL)
  ·rename_i hp;show Kh (Kq ?_);have e:({ t1 with plain:=false }:ND)=t1:=by
    obtain⟨_,_,_,_,_,_,p⟩:=t1;cases p with
    | false=>rfl
    | true=>exact absurd rfl hp
   simp only[↓reduceIte];exact fin _ (λb _ _ hq=>hgen b hq) _ (e ▸ (T1 false).resolve_right KL)
end
inductive W where
 | non|bl (b:KR)|int (i:KD)|str (x:Ks)|tup (xs:Kg W)|ref (i:Kt)
inductive T where
 | int (i:KD)|str (x:Ks)|tup (xs:Kg T)
mutual
def T.beq:T->T->KR
 | .int i,.int j=>i==j
 | .str x,.str y=>x==y
 | .tup xs,.tup ys=>T.beqs xs ys
 | _,_=>false
def T.beqs:Kg T->Kg T->KR
 | [],[]=>true
 | x::xs,y::ys=>T.beq x y&&T.beqs xs ys
 | _,_=>false
end
mutual
theorem T.beq_iff:∀x y:T,T.beq x y=true↔x=y
 | .int i,.int j=>by simp[T.beq]
 | .str x,.str y=>by simp[T.beq]
 | .tup xs,.tup ys=>by simp[T.beq,T.beqs_iff xs ys]
 | .int _,.str _|.int _,.tup _|.str _,.int _|.str _,.tup _|.tup _,.int _|.tup _,.str _=>by simp[T.beq]
theorem T.beqs_iff:∀xs ys:Kg T,T.beqs xs ys=true↔xs=ys
 | [],[]=>by simp[T.beqs]
 | x::xs,y::ys=>by simp[T.beqs,T.beq_iff x y,T.beqs_iff xs ys]
 | [],_::_|_::_,[]=>by simp[T.beqs]
end
noncomputable instance:Ny T:=λx y=>decidable_of_iff (T.beq x y=true) (T.beq_iff x y)
mutual
def T.w:T->W
 | .int i=>.int i
 | .str x=>.str x
 | .tup xs=>.tup (T.ws xs)
def T.ws:Kg T->Kg W
 | []=>[]
 | x::xs=>T.w x::T.ws xs
end
mutual
def W.t:W->Kk T
 | .int i=>bt (.int i)
 | .str x=>bt (.str x)
 | .tup xs=>(W.ts xs).map .tup
 | _=>gV
def W.ts:Kg W->Kk (Kg T)
 | []=>bt []
 | x::xs=>match W.t x,W.ts xs with
  | some y,bt ys=>bt (y::ys)
  | _,_=>gV
end
mutual
def T.depth:T->Kt
 | .tup xs=>T.depths xs+1
 | _=>0
def T.depths:Kg T->Kt
 | []=>0
 | x::xs=>max (T.depth x) (T.depths xs)
end
mutual
def Bm (wd:KS):T->KD
 | .int i=>hashInt i
 | .str x=>hashStr wd x
 | .tup xs=>reduceHash (RY (vF wd xs))
def vF (wd:KS):Kg T->Kg KD
 | []=>[]
 | x::xs=>Bm wd x::vF wd xs
end
abbrev T.isTup:T->KR
 | .tup _=>true
 | _=>false
abbrev CO:Kt:=6
inductive O where
 | lst (xs:Kg W)
 | fro (xs:Kg W)
 | sts (xs:Kg Ks)
 | rng (lo hi:KD)
 | dic (U:Kg (T×W))
 | frd (U:Kg (T×W))
 | dis (U:Kg (Ks×KD))
 | exc (cn:Ks) (C:Kn) (gs:Kg Ks) (ws:Kg W)
noncomputable abbrev aa:=Kg O
noncomputable abbrev Fm:=Kg (Kk W)
section
variable (K:Kr) (A:Kg Kn) (H:Hp)
mutual
inductive Rel:W->V->Prop
 | non:Rel .non .non
 | bl {b:KR}:Rel (.bl b) (.bl b)
 | int {i:KD}:Rel (.int i) (.int i)
 | str {x:Ks}:Rel (.str x) (.str x)
 | tup {ws:Kg W} {a:Kn} {vs:Kg V}:SqT K H a vs->RelL ws vs->Rel (.tup ws) (.ref a)
 | ref {i:Kt} {a:Kn}:A[i]?=bt a->Rel (.ref i) (.ref a)
inductive RelL:Kg W->Kg V->Prop
 | nil:RelL [] []
 | cons {w:W} {v:V} {ws:Kg W} {vs:Kg V}:Rel w v->RelL ws vs->RelL (w::ws) (v::vs)
end
end
section
variable{K:Kr}{A A' A'':Kg Kn}{H H' H'':Hp}
structure Ext (K:Kr)(A:Kg Kn)(H:Hp)(A':Kg Kn)(H':Hp):Prop where
 ad:∀(i:Kt) (a:Kn),A[i]?=bt a->A'[i]?=bt a
 tp:∀(a:Kn) (vs:Kg V),SqT K H a vs->SqT K H' a vs
 fz:∀(a:Kn) (o:LJ) (u:HO),H a=bt (.frz o u)->H' a=bt (.frz o u)
def Ext.refl:Ext K A H A H:=#[λ_ _ h=>h,λ_ _ h=>h,λ_ _ _ h=>h]
def Ext.trans (e:Ext K A H A' H')(f:Ext K A' H' A'' H''):Ext K A H A'' H'':=#[λi a h=>f.ad i a (e.ad i a h),λa vs h=>f.tp a vs (e.tp a vs h),λa o u h=>f.fz a o u (e.fz a o u h)]
mutual
theorem Rel.mono (e:Ext K A H A' H'):∀ {w:W} {v:V},Rel K A H w v->Rel K A' H' w v
 | _,_,.non=>.non
 | _,_,.bl=>.bl
 | _,_,.int=>.int
 | _,_,.str=>.str
 | _,_,.tup h r=>.tup (e.tp _ _ h) (RelL.mono e r)
 | _,_,.ref h=>.ref (e.ad _ _ h)
theorem RelL.mono (e:Ext K A H A' H'):∀ {ws:Kg W} {vs:Kg V},RelL K A H ws vs->RelL K A' H' ws vs
 | _,_,.nil=>.nil
 | _,_,.cons r t=>.cons (Rel.mono e r) (RelL.mono e t)
end
def RelL.length:∀ {ws:Kg W} {vs:Kg V},RelL K A H ws vs->ws.length=vs.length
 | _,_,.nil=>rfl
 | _,_,.cons _ t=>by simp[RelL.length t]
def RelL.get:∀ {ws:Kg W} {vs:Kg V} {i:Kt} {w:W},RelL K A H ws vs->ws[i]?=bt w->∃v,vs[i]?=bt v/\Rel K A H w v
 | _,_,_,_,.nil,e=>by simp at e
 | _,_,0,_,.cons r _,e=>by simp at e; subst e; exact#[_,rfl,r]
 | _,_,i+1,w,.cons _ t,e=>by
  obtain⟨u,h1,h2⟩:=RelL.get (i:=i) (w:=w) t (by simpa using e)
  exact#[u,by simpa using h1,h2]
def RelL.append:∀ {xs ys:Kg W} {us ws:Kg V},RelL K A H xs us->RelL K A H ys ws->RelL K A H (xs++ys) (us++ws)
 | _,_,_,_,.nil,s=>s
 | _,_,_,_,.cons r t,s=>.cons r (RelL.append t s)
def RelL.take:∀ {xs:Kg W} {us:Kg V} (n:Kt),RelL K A H xs us->RelL K A H (xs.take n) (us.take n)
 | _,_,0,_=>.nil
 | _,_,_+1,.nil=>.nil
 | _,_,n+1,.cons r t=>.cons r (RelL.take n t)
def RelL.drop:∀ {xs:Kg W} {us:Kg V} (n:Kt),RelL K A H xs us->RelL K A H (xs.drop n) (us.drop n)
 | _,_,0,r=>r
 | _,_,_+1,.nil=>.nil
 | _,_,n+1,.cons _ t=>RelL.drop n t
def RelL.set {x:W}{u:V}(r:Rel K A H x u):∀ {xs:Kg W} {us:Kg V} (i:Kt),RelL K A H xs us->RelL K A H (xs.set i x) (us.set i u)
 | _,_,_,.nil=>.nil
 | _,_,0,.cons _ t=>.cons r t
 | _,_,i+1,.cons q t=>.cons q (RelL.set r i t)
def RelL.rep {xs:Kg W}{us:Kg V}(h:RelL K A H xs us):∀k:Kt,RelL K A H (Lm k xs).flatten (Lm k us).flatten
 | 0=>.nil
 | k+1=>by
  rw[Mq,Mq,M3,M3];exact RelL.append h (RelL.rep h k)
abbrev FroL (K:Kr)(H:Hp)(a:Kn)(vs:Kg V):Prop:=
 (∃o,H a=bt (.frz o (.lst vs)))\/
  ∃(o:LJ) (its:Ls Ki) (n:Kt),K.lookup a=bt o/\o.cls=.type "list"/\o.dict=gV/\o.data=.seq its n/\its.size<=sizeLine/\Vals vs its.toList
def FroL.sq {a:Kn}{vs:Kg V}(h:FroL K H a vs):SqL K H a vs:=by
 rcases h with⟨o,h⟩|h
 ·exact .inl (.inr #[o,h])
 ·exact .inr h
abbrev Fy (wd:KS)(x:T×Kn×Ki):MG:=#[Bm wd x.1,.ref x.2.1,x.2.2]
abbrev DicAt (wd:KS)(a:Kn)(xs:Kg (T×Kn×Ki))(h:K7):Prop:=
 xs.length<=sizeLine/\(a==sysModules)=false/\(xs.map (·.1)).Nodup/\∃o es ep,h.get? a=bt o/\o.ExactDict/\o.data=.dict es ep/\es.toList=xs.map (Fy wd)
abbrev vG (wd:KS)(a:Kn)(xs:Kg (T×Kn×Ki)):HO:=.ext (DicAt wd a xs)
abbrev KRel (K:Kr)(A:Kg Kn)(H:Hp):Kg (T×W)->Kg (T×Kn×Ki)->Prop:=
 OY λ(p:T×W) (q:T×Kn×Ki)=>p.1=q.1/\p.1.isTup=true/\p.1.depth<=CO/\Rel K A H p.1.w (.ref q.2.1)/\∃v,Rel K A H p.2 v/\RelV v q.2.2
def KRel.mono (e:Ext K A H A' H'){U:Kg (T×W)}{xs:Kg (T×Kn×Ki)}(h:KRel K A H U xs):KRel K A' H' U xs:=
 Paired.mapP h λ_ _ #[h1,h2,h3,h4,v,h5,h6]=>#[h1,h2,h3,h4.mono e,v,h5.mono e,h6]
variable{wd:KS}
abbrev cx (U:Kg (Ks×KD)):Kg (ft×V):=U.map λp=>(.inr p.1,.int p.2)
abbrev ObjRel (wd:KS)(K:Kr)(A:Kg Kn)(H:Hp)(a:Kn):O->Prop
 | .lst ws=>∃vs,H a=bt (.lst vs)/\RelL K A H ws vs
 | .fro ws=>∃vs,FroL K H a vs/\RelL K A H ws vs
 | .sts xs=>∃o φ,H a=bt (.frz o (.ext φ))/\cq wd xs o
 | .rng lo hi=>H a=bt (.rng lo hi)
 | .dis U=>H a=bt (.dK (cx U))
 | .dic U=>∃xs,H a=bt (vG wd a xs)/\KRel K A H U xs
 | .frd U=>∃o xs,H a=bt (.frz o (vG wd a xs))/\KRel K A H U xs
 | .exc _ C gs ws=>∃o dd,H a=bt (.frz o (.ext (Xc.Ex a C dd)))/\((dd=gV/\gs=[])\/∃dx od vs,dd=bt dx/\H dx=bt (.frz od (.ext (Xc.Dx dx (gs.zip vs))))/\RelL K A H ws vs)
abbrev O.mut:O->KR
 | .fro _=>false
 | .sts _=>false
 | .rng _ _=>false
 | .frd _=>false
 | .exc _ _ _ _=>false
 | _=>true
structure StoreOk (wd:KS)(K:Kr)(A:Kg Kn)(H:Hp)(S:aa):Prop where
 len:A.length=S.length
 nd:∀(i j:Kt) (a:Kn) (o u:O),S[i]?=bt o->o.mut=true->S[j]?=bt u->u.mut=true->A[i]?=bt a->A[j]?=bt a->i=j
 obj:∀(i:Kt) (o:O) (a:Kn),S[i]?=bt o->A[i]?=bt a->ObjRel wd K A H a o
abbrev EnvRel (K:Kr)(A:Kg Kn)(H:Hp)(Z:Fm)(Y:L2.St):Prop:=
 Z.length=Y.length/\∀(i:Kt) (w:W),Z[i]?=bt (bt w)->∃v,Y[i]?=bt (bt v)/\Rel K A H w v
def EnvRel.mono {Z:Fm}{Y:L2.St}(e:Ext K A H A' H')(h:EnvRel K A H Z Y):EnvRel K A' H' Z Y:=
 #[h.1,λi w q=>let ⟨v,a,b⟩:=h.2 i w q; #[v,a,b.mono e]]
def EnvRel.set {Z:Fm}{Y:L2.St}{w:W}{v:V}(h:EnvRel K A H Z Y)(r:Rel K A H w v)(i:Kt):EnvRel K A H (Z.set i (bt w)) (Y.set i (bt v)):=by
 show#[by simp[h.1],λj w' q=>?_]
 rw[M7]at q ⊢
 by_cases e:i=j
 ·subst e;rw[KQ rfl]at q ⊢
  by_cases hl:i < Z.length
  ·rw[KQ hl]at q;rw[KQ (h.1 ▸ hl)];cases q;exact#[v,rfl,r]
  ·rw[KY hl]at q; cases q
 ·rw[KY e]at q ⊢;exact h.2 j w' q
abbrev Wr (H:Hp)(p:Kn):Prop:=H p=gV\/(∃xs,H p=bt (.lst xs))\/(∃φ,H p=bt (.ext φ))\/∃ks,H p=bt (.dK ks)
def Wr.lst {p:Kn}{xs:Kg V}(h:H p=bt (.lst xs)):Wr H p:=.inr (.inl #[xs,h])
def Wr.ext {p:Kn}{φ:K7->Prop}(h:H p=bt (.ext φ)):Wr H p:=.inr (.inr (.inl #[φ,h]))
def Wr.dk {p:Kn}{ks:Kg (ft×V)}(h:H p=bt (.dK ks)):Wr H p:=.inr (.inr (.inr #[ks,h]))
def Wr.ne_tup {p a:Kn}{xs:Kg V}(hp:Wr H p)(h:H a=bt (.tup xs)):a≠p:=by
 intro e; subst e
 rcases hp with q|⟨xs,q⟩|⟨φ,q⟩|⟨ks,q⟩ <;> (rw[h]at q; cases q)
def Wr.ne_frz {p a:Kn}{o:LJ}{u:HO}(hp:Wr H p)(h:H a=bt (.frz o u)):a≠p:=by
 intro e; subst e
 rcases hp with q|⟨xs,q⟩|⟨φ,q⟩|⟨ks,q⟩ <;> (rw[h]at q; cases q)
def Wr.ne_rng {p a:Kn}{lo hi:KD}(hp:Wr H p)(h:H a=bt (.rng lo hi)):a≠p:=by
 intro e; subst e
 rcases hp with q|⟨xs,q⟩|⟨φ,q⟩|⟨ks,q⟩ <;> (rw[h]at q; cases q)
def rh {p:Kn}{o:HO}(hp:Wr H p){a:Kn}{vs:Kg V}(h:SqT K H a vs):SqT K (aE H p o) a vs:=by
 rcases h with(h|⟨o',h⟩)|h
 ·exact .inl (.inl (by rw[al (hp.ne_tup h)]; exact h))
 ·exact .inl (.inr #[o',by rw[al (hp.ne_frz h)]; exact h])
 ·exact .inr h
def vH {p:Kn}{o:HO}(hp:Wr H p){a:Kn}{vs:Kg V}(h:FroL K H a vs):FroL K (aE H p o) a vs:=by
 rcases h with⟨o',h⟩|h
 ·exact .inl #[o',by rw[al (hp.ne_frz h)]; exact h]
 ·exact .inr h
def aX {p:Kn}{o:HO}(hp:Wr H p):Ext K A H A (aE H p o):=#[λ_ _ h=>h,λ_ _ h=>rh hp h,λ_ _ _ h=>by rw[al (hp.ne_frz h)]; exact h]
def eG {p:Kn}{o:HO}(hp:H p=gV):Ext K A H (A++[p]) (aE H p o):=
 #[λi a h=>by rw[Lk (KB.mp h).1]; exact h,λ_ _ h=>rh (.inl hp) h,λ_ _ _ h=>by rw[al (Wr.ne_frz (.inl hp) h)]; exact h]
def ObjRel.keep {p a:Kn}{o:HO}{b:O}(hp:Wr H p)(hne:b.mut=true->a≠p)(e:Ext K A H A' (aE H p o))(h:ObjRel wd K A H a b):ObjRel wd K A' (aE H p o) a b:=by
 cases b with
 | lst ws=>
  obtain⟨vs,q,r⟩:=h;exact#[vs,by rw[al (hne rfl)]; exact q,r.mono e]
 | fro ws=>
  obtain⟨vs,q,r⟩:=h;exact#[vs,vH hp q,r.mono e]
 | sts xs=>
  obtain⟨ob,φ,q,r⟩:=h;exact#[ob,φ,by rw[al (hp.ne_frz q)]; exact q,r]
 | rng lo hi=>
  have h:H a=bt (.rng lo hi):=h;change aE H p o a=bt (.rng lo hi);rw[al (hp.ne_rng h)];exact h
 | dic U=>
  obtain⟨xs,q,r⟩:=h;exact#[xs,by rw[al (hne rfl)]; exact q,r.mono e]
 | frd U=>
  obtain⟨ob,xs,q,r⟩:=h;exact#[ob,xs,by rw[al (hp.ne_frz q)]; exact q,r.mono e]
 | dis U=>
  have h:H a=bt (.dK (cx U)):=h;change aE H p o a=bt (.dK (cx U));rw[al (hne rfl)];exact h
 | exc cn C gs ws=>
  obtain⟨ob,dd,q,r⟩:=h;show#[ob,dd,by rw[al (hp.ne_frz q)]; exact q,?_]
  rcases r with r|⟨dx,od,vs,e1,e2,e3⟩
  ·exact .inl r
  ·exact .inr #[dx,od,vs,e1,by rw[al (hp.ne_frz e2)]; exact e2,e3.mono e]
def ObjRel.there {a:Kn}{b:O}(h:ObjRel wd K A H a b)(hm:b.mut=true):H a≠gV:=by
 cases b with
 | lst ws=>obtain⟨vs,q,r⟩:=h; rw[q]; intro z; cases z
 | fro ws=>cases hm
 | sts ws=>cases hm
 | rng lo hi=>cases hm
 | dic U=>obtain⟨vs,q,r⟩:=h; rw[q]; intro z; cases z
 | dis U=>have q:H a=bt (.dK (cx U)):=h; rw[q]; intro z; cases z
 | frd ws=>cases hm
 | exc cn C gs ws=>cases hm
def ObjRel.wr {a:Kn}{b:O}(h:ObjRel wd K A H a b)(hm:b.mut=true):Wr H a:=by
 cases b with
 | lst ws=>obtain⟨vs,q,r⟩:=h; exact .lst q
 | fro ws=>cases hm
 | sts ws=>cases hm
 | rng lo hi=>cases hm
 | dic U=>obtain⟨vs,q,r⟩:=h; exact .ext q
 | dis U=>exact .dk h
 | frd ws=>cases hm
 | exc cn C gs ws=>cases hm
def StoreOk.lay {S:aa}{p:Kn}{o:HO}(h:StoreOk wd K A H S)(hp:H p=gV):StoreOk wd K A (aE H p o) S:=
 #[h.len,h.nd,λi b a e ea=>(h.obj i b a e ea).keep (.inl hp) (λhm z=>(h.obj i b a e ea).there hm (z ▸ hp)) (aX (.inl hp))]
def StoreOk.pushO {S:aa}{p:Kn}{n:O}{u:HO}(h:StoreOk wd K A H S)(hp:H p=gV)(r:ObjRel wd K (A++[p]) (aE H p u) p n):StoreOk wd K (A++[p]) (aE H p u) (S++[n]):=by
 have ex:Ext K A H (A++[p]) (aE H p u):=eG hp;have old:∀ {i:Kt} {o:O} {a:Kn},(S++[n])[i]?=bt o->(A++[p])[i]?=bt a->i < S.length->S[i]?=bt o/\A[i]?=bt a:=λ{i o a} e ea hl=>by
  rw[Lk hl]at e;rw[Lk (h.len ▸ hl)]at ea;exact#[e,ea]
 have new:∀ {i:Kt} {o:O} {a:Kn},(S++[n])[i]?=bt o->(A++[p])[i]?=bt a->¬ i < S.length->i=S.length/\o=n/\a=p:=λ{i o a} e ea hl=>by
  have hi:i=S.length:=by
   have:=(KB.mp e).1;simp at this;omega
  subst hi;simp at e;rw[<- h.len]at ea;simp at ea;exact#[rfl,e.symm,ea.symm]
 show#[by simp[h.len],λi j a o u e1 m1 e2 m2 a1 a2=>?_,λi o a e ea=>?_]
 ·by_cases hi:i < S.length <;> by_cases hj:j < S.length
  ·obtain⟨x1,y1⟩:=old e1 a1 hi;obtain⟨x2,y2⟩:=old e2 a2 hj;exact h.nd i j a o u x1 m1 x2 m2 y1 y2
  ·obtain⟨x1,y1⟩:=old e1 a1 hi;obtain⟨_,_,z⟩:=new e2 a2 hj;subst z;exact absurd hp ((h.obj i o a x1 y1).there m1)
  ·obtain⟨x2,y2⟩:=old e2 a2 hj;obtain⟨_,_,z⟩:=new e1 a1 hi;subst z;exact absurd hp ((h.obj j u a x2 y2).there m2)
  ·rw[(new e1 a1 hi).1,(new e2 a2 hj).1]
 ·by_cases hi:i < S.length
  ·obtain⟨x1,y1⟩:=old e ea hi;exact(h.obj i o a x1 y1).keep (.inl hp) (λhm z=>(h.obj i o a x1 y1).there hm (z ▸ hp)) ex
  ·obtain⟨_,rfl,rfl⟩:=new e ea hi;exact r
def StoreOk.push {S:aa}{p:Kn}{ws:Kg W}{vs:Kg V}(h:StoreOk wd K A H S)(hp:H p=gV)(r:RelL K A H ws vs):StoreOk wd K (A++[p]) (aE H p (.lst vs)) (S++[.lst ws]):=
 h.pushO hp #[vs,am,r.mono (eG hp)]
def StoreOk.writeO {S:aa}{i:Kt}{p:Kn}{o0 n:O}{u:HO}(h:StoreOk wd K A H S)(e:S[i]?=bt o0)(m0:o0.mut=true)(ea:A[i]?=bt p)(r:ObjRel wd K A (aE H p u) p n) :
  StoreOk wd K A (aE H p u) (S.set i n)/\Ext K A H A (aE H p u):=by
 have hw:Wr H p:=(h.obj i _ p e ea).wr m0;have ex:Ext K A H A (aE H p u):=aX hw;have hl:i < S.length:=(KB.mp e).1;show#[#[by simp[h.len],λj k a o u e1 m1 e2 m2 a1 a2=>?_,λj o a e1 a1=>?_],ex]
 ·have get:∀ {j:Kt} {o:O},(S.set i n)[j]?=bt o->o.mut=true->∃o',S[j]?=bt o'/\o'.mut=true:=λ{j o} q m=>by
   rw[M7]at q
   by_cases z:i=j
   ·subst z; exact#[_,e,m0]
   ·rw[KY z]at q; exact#[o,q,m]
  obtain⟨o',x1,m1'⟩:=get e1 m1;obtain⟨u',x2,m2'⟩:=get e2 m2;exact h.nd j k a o' u' x1 m1' x2 m2' a1 a2
 ·rw[M7]at e1
  by_cases z:i=j
  ·subst z;rw[KQ rfl,KQ hl]at e1;cases e1;rw[ea]at a1; cases a1
   exact r
  ·rw[KY z]at e1;exact(h.obj j o a e1 a1).keep hw (λhm q=>z (h.nd i j p _ o e m0 e1 hm ea (q ▸ a1))) ex
def StoreOk.write {S:aa}{i:Kt}{p:Kn}{ws:Kg W}{us:Kg V}{ws0:Kg W}(h:StoreOk wd K A H S)(e:S[i]?=bt (.lst ws0))(ea:A[i]?=bt p)(r:RelL K A H ws us) :
  StoreOk wd K A (aE H p (.lst us)) (S.set i (.lst ws))/\Ext K A H A (aE H p (.lst us)):=
 h.writeO e rfl ea #[us,am,r.mono (aX ((h.obj i _ p e ea).wr rfl))]
end
abbrev gF (S:aa)(i:Kt):Kk (Kg W):=match S[i]? with
 | some (.lst xs)=>bt xs
 | some (.fro xs)=>bt xs
 | _=>gV
abbrev nk (S:aa)(i:Kt):Kk (Kg W):=match S[i]? with
 | some (.lst xs)=>bt xs
 | _=>gV
abbrev l8 (S:aa)(xs:Kg W):Kk (W×aa):=if xs.length<=sizeLine then bt (.ref S.length,S++[.lst xs])else gV
abbrev l9 (S:aa)(xs:Kg W):Kk (W×aa):=if xs.length<=sizeLine then bt (.tup xs,S)else gV
abbrev zm (j:KD):KR:=decide (0 < j)&&decide (j < 1073741824)
abbrev tu (i j:KD):KR:=(decide (-(2 ^ 64) < i)&&decide (i < 2 ^ 64))||(decide (-(2 ^ 64) < j)&&decide (j < 2 ^ 64))
abbrev Fz (i j:KD):KR:=decide (0<=j)&&decide (j<=1000000)&&decide (i.natAbs < 2 ^ 64)
inductive BOp where|add|sub|mul|fdiv|mod|pow
 deriving Ny
abbrev yw (c:KD->KD->KR)(f:KD->KD->KD)(x y:W)(S:aa):Kk (W×aa):=match x,y with
 | .int i,.int j=>if c i j then bt (.int (f i j),S)else gV
 | _,_=>gV
abbrev tz (x y:W)(S:aa):Kk (W×aa):=match x with
 | .int i=>match y with
  | .int j=>bt (.int (i+j),S)
  | _=>gV
 | .str x=>match y with
  | .str y=>if x.length+y.length<=sizeLine then bt (.str (x++y),S)else gV
  | _=>gV
 | .tup xs=>match y with
  | .tup ys=>l9 S (xs++ys)
  | _=>gV
 | .ref i=>match y with
  | .ref j=>match nk S i,nk S j with
   | some xs,bt ys=>l8 S (xs++ys)
   | _,_=>gV
  | _=>gV
 | _=>gV
abbrev zo (x y:W)(S:aa):Kk (W×aa):=match x with
 | .str x=>match y with
  | .int k=>if k < 2 ^ 24/\-(2 ^ 24)<=k/\x.length*k.toNat<=sizeLine then bt (.str (TU x k),S)else gV
  | _=>gV
 | .ref i=>match y with
  | .int k=>match nk S i with
   | some xs=>if k < 2 ^ 24/\-(2 ^ 24)<=k/\xs.length*k.toNat<=sizeLine then l8 S (Lm k.toNat xs).flatten else gV
   | none=>gV
  | _=>gV
 | x=>yw tu (· * ·) x y S
abbrev gh:BOp->W->W->aa->Kk (W×aa)
 | .add,x,y,S=>tz x y S
 | .sub,x,y,S=>yw (λ_ _=>true) (· - ·) x y S
 | .mul,x,y,S=>zo x y S
 | .fdiv,x,y,S=>yw (λ_ j=>zm j) (· / ·) x y S
 | .mod,x,y,S=>yw (λ_ j=>decide (0 < j)) (· % ·) x y S
 | .pow,x,y,S=>yw Fz (λi j=>i ^ j.toNat) x y S
abbrev BOp.py:BOp->Qk
 | .add=>.Add|.sub=>.Sub|.mul=>.Mult|.fdiv=>.FloorDiv|.mod=>.Mod|.pow=>.Pow
section
variable (X:Cx)
inductive PostE (J:Kg (Kn×LJ))(Y:L2.St)(A:Kg Kn)(H:Hp)(S':aa)(w:W)(u:Ki)(s':Km):Prop
 | mk (v:V) (H':Hp) (A':Kg Kn) (i:Inv X J Y H' s') (r:RelV v u) (e:Ext X.K A H A' H') (so:StoreOk X.w X.K A' H' S') (rl:Rel X.K A' H' w v):PostE J Y A H S' w u s'
noncomputable abbrev FE:=Fm->aa->Kk (W×aa)
abbrev LOp (f:Ki->Ki->R1 Ki)(g:W->W->aa->Kk (W×aa)):Prop:=
 ∀(J:Kg (Kn×LJ)) (s:Km) (Y:L2.St) (H:Hp) (A:Kg Kn) (S:aa) (x y:W) (a b:V) (u v:Ki) (w:W) (S':aa),Inv X J Y H s->StoreOk X.w X.K A H S->
  Rel X.K A H x a->RelV a u->Rel X.K A H y b->RelV b v->g x y S=bt (w,S')->wpAny (model X.prog X.w) X.A (f u v) (PostE X J Y A H S' w) X.xe s
end
section
variable{X:Cx}
def jJ {S:aa}{i:Kt}{xs:Kg W}(h:nk S i=bt xs):S[i]?=bt (.lst xs):=by
 unfold nk at h;split at h
 ·cases h; assumption
 ·cases h
def c7 {A:Kg Kn}{H:Hp}{S:aa}{i:Kt}{xs:Kg W}{a:Kn}(so:StoreOk X.w X.K A H S)(h:nk S i=bt xs)(ea:A[i]?=bt a):∃vs,H a=bt (.lst vs)/\RelL X.K A H xs vs:=
 so.obj i _ a (jJ h) ea
def ba {A:Kg Kn}{H:Hp}{S:aa}{i:Kt}{xs:Kg W}{a:Kn}(so:StoreOk X.w X.K A H S)(h:gF S i=bt xs)(ea:A[i]?=bt a):∃vs,SqL X.K H a vs/\RelL X.K A H xs vs:=by
 unfold gF at h;split at h
 ·cases h;obtain⟨vs,q,r⟩:=so.obj i _ a (by assumption) ea
  exact#[vs,.of q,r]
 ·cases h;obtain⟨vs,q,r⟩:=so.obj i _ a (by assumption) ea
  exact#[vs,q.sq,r]
 ·cases h
def jd {S S':aa}{xs:Kg W}{w:W}(h:l8 S xs=bt (w,S')):xs.length<=sizeLine/\w=.ref S.length/\S'=S++[.lst xs]:=by
 unfold l8 at h;split at h
 ·cases h; exact#[by assumption,rfl,rfl]
 ·cases h
def rj {S S':aa}{xs:Kg W}{w:W}(h:l9 S xs=bt (w,S')):xs.length<=sizeLine/\w=.tup xs/\S'=S:=by
 unfold l9 at h;split at h
 ·cases h; exact#[by assumption,rfl,rfl]
 ·cases h
def zp {A:Kg Kn}{H:Hp}{S:aa}{ws:Kg W}{vs:Kg V}{Q:VK}{p:Kn}(so:StoreOk X.w X.K A H S)(r:RelL X.K A H ws vs)(hp:H p=gV)
  (q:∀v H' A',Ext X.K A H A' H'->StoreOk X.w X.K A' H' (S++[.lst ws])->Rel X.K A' H' (.ref S.length) v->Q v H'):Q (.ref p) (aE H p (.lst vs)):=
 q _ _ (A++[p]) (eG hp) (so.push hp r) (.ref (by rw[<- so.len]; simp))
def zq {A:Kg Kn}{H:Hp}{S:aa}{ws:Kg W}{vs:Kg V}{Q:VK}{p:Kn}(so:StoreOk X.w X.K A H S)(r:RelL X.K A H ws vs)(hp:H p=gV)
  (q:∀v H' A',Ext X.K A H A' H'->StoreOk X.w X.K A' H' S->Rel X.K A' H' (.tup ws) v->Q v H'):Q (.ref p) (aE H p (.tup vs)):=
 q _ _ A (aX (.inl hp)) (so.lay hp) (.tup (.of am) (r.mono (aX (.inl hp))))
abbrev FB (K:Kr):R2:=λx y H Q=>∃a b xs ys,x=.ref a/\y=.ref b/\SqT K H a xs/\SqT K H b ys/\xs.length+ys.length<=sizeLine/\
 (xs=[]->Q (.ref b) H)/\(ys=[]->Q (.ref a) H)/\(∀p,H p=gV->Q (.ref p) (aE H p (.tup (xs++ys))))
def zr:OpR X (binaryOp .Add) (FB X.K):=by
 intro J s Y H x y v u Q I rx ry h;obtain⟨a,b,xs,ys,rfl,rfl,ha,hb,hz,q0,q1,q2⟩:=h;cases rx;cases ry;obtain⟨its,r1,p1,_⟩:=I.tuple ha;obtain⟨its2,r2,p2,_⟩:=I.tuple hb
 by_cases hx:xs=[]
 ·obtain⟨⟨cls,dd,data,sl⟩,ho,hc,n,hd⟩:=id p1;obtain⟨⟨cls2,dd2,data2,sl2⟩,ho2,hc2,n2,hd2⟩:=id p2;simp only at hc hd hc2 hd2;subst hc hd hc2 hd2;exact Qq #[_,ho,rfl] #[_,ho2,rfl] OR PU NY NU (NJ _ _)
   (tuple_addW0 a b its.toArray its2.toArray n n2 dd dd2 sl sl2 (by simp[r1.nil_iff.mpr hx])) #[ho,ho2,#[.ref b,H,I,rfl,q0 hx]]
 ·show HT.yP p1 p2 (λz=>hx (r1.nil_iff.mp z)) (λz=>#[.ref a,H,I,rfl,q1 (r2.nil_iff.mp z)]) (λz=>?_) (by rw[<- r1.length,<- r2.length]; exact hz)
  show#[.ref s.heap.objs.size,_,I.laid (t':=s.toks) (o:=.tup (xs++ys)) (λb ob q=>Kl _ q) (Kz _) ?_,rfl,q2 _ (I.hok.fresh (Kz _))]
  exact#[#[by rw[Kw]; exact hz,NoD.new _ _ _],_,r1.append r2,QM _ _]
def RelL.nil_iff {K:Kr}{A:Kg Kn}{H:Hp}{ws:Kg W}{vs:Kg V}(r:RelL K A H ws vs):vs=[]↔ws=[]:=by
 cases r <;> simp
def pV:OpR X (binaryOp .Mult) (λx y H Q=>∃z k,x=.str z/\y=.int k/\MulOk z k/\Q (.str (TU z k)) H):=by
 intro J s Y H x y v u Q I rx ry h;obtain⟨z,k,rfl,rfl,ok,q⟩:=h;obtain⟨t,rfl⟩:=rx;obtain⟨t',rfl⟩:=ry;exact SB.mul ok λt2 k2=>#[.str _,H,I.tok _,#[_,rfl],q]
def vI {x:Ks}{k:KD}(h1:k < 16777216)(h2 : -16777216<=k)(h3:x.length*k.toNat<=sizeLine):MulOk x k:=by
 have hs:sizeLine=16777216:=LF;rw[hs]at h3;show#[?_,λa b=>?_,λ_ _=>?_]
 ·rw[Bool.or_eq_false_iff];exact#[Lo ∅,Lo ∅]
 ·have hk:0 < k:=∅
  have e:(x.length:KD)*k=((x.length*k.toNat:Kt):KD):=by
   rw[Int.natCast_mul,NI ∅]
  intro hgt;have h4:(2 ^ 63 - 1:KD) < (x.length:KD)*k:=(Int.ediv_lt_iff_lt_mul hk).mp hgt;rw[e]at h4;generalize x.length*k.toNat=z at h3 h4;omega
 ·unfold RZ;rw[hs];exact Lo ∅
inductive EndV (wd:KS)(K:Kr)(A:Kg Kn)(H:Hp)(S':aa)(w:W)(v:V)(H':Hp):Prop
 | mk (A':Kg Kn) (e:Ext K A H A' H') (so:StoreOk wd K A' H' S') (r:Rel K A' H' w v):EndV wd K A H S' w v H'
def EndV.here {A:Kg Kn}{H:Hp}{S:aa}{w:W}{v:V}(so:StoreOk X.w X.K A H S)(r:Rel X.K A H w v):EndV X.w X.K A H S w v H:=#[A,.refl,so,r]
def EndV.lst {A:Kg Kn}{H:Hp}{S:aa}{ws:Kg W}{vs:Kg V}{p:Kn}(so:StoreOk X.w X.K A H S)(r:RelL X.K A H ws vs)(hp:H p=gV):EndV X.w X.K A H (S++[.lst ws]) (.ref S.length) (.ref p) (aE H p (.lst vs)):=
 zp (Q:=EndV X.w X.K A H (S++[.lst ws]) (.ref S.length)) so r hp λv H' A' a b c=>#[A',a,b,c]
def EndV.tup {A:Kg Kn}{H:Hp}{S:aa}{ws:Kg W}{vs:Kg V}{p:Kn}(so:StoreOk X.w X.K A H S)(r:RelL X.K A H ws vs)(hp:H p=gV):EndV X.w X.K A H S (.tup ws) (.ref p) (aE H p (.tup vs)):=
 zq (Q:=EndV X.w X.K A H S (.tup ws)) so r hp λv H' A' a b c=>#[A',a,b,c]
def EP.post {J:Kg (Kn×LJ)}{Y:L2.St}{A:Kg Kn}{H:Hp}{S':aa}{w:W}{u:Ki}{s':Km}(h:EP X J Y (EndV X.w X.K A H S' w) u s'):PostE X J Y A H S' w u s':=by
 obtain⟨v,H',I',r,A',x,y,z⟩:=h;exact#[v,H',A',I',r,x,y,z]
def OpR.go {f:Ki->Ki->R1 Ki}{r:R2}(h:OpR X f r){J:Kg (Kn×LJ)}{Y:L2.St}{A:Kg Kn}{H:Hp}{S':aa}{w:W}{s:Km}{a b:V}{u v:Ki}(I:Inv X J Y H s)(ru:RelV a u)(rv:RelV b v)
  (q:r a b H (EndV X.w X.K A H S' w)):wpAny (model X.prog X.w) X.A (f u v) (PostE X J Y A H S' w) X.xe s:=aK (h J s Y H a b u v _ I ru rv q) λ_ _=>EP.post
def zt:LOp X (binaryOp .Add) (gh .add):=by
 intro J s Y H A S x y a b u v w S' I so rx ru ry rv e;cases rx with
 | int=>cases ry with
  | int=>cases e; exact OpR.go Cn I ru rv #[_,_,rfl,rfl,.here so .int]
  | _=>cases e
 | str=>cases ry with
  | str=>
   dsimp only[gh,tz]at e;split at e
   ·cases e; exact OpR.go pI I ru rv #[_,_,rfl,rfl,by assumption,.here so .str]
   ·cases e
  | _=>cases e
 | tup h1 r1=>cases ry with
  | tup h2 r2=>
   obtain⟨hl,rfl,rfl⟩:=rj (show l9 S _=_ from e)
   rw[Kw,r1.length,r2.length]at hl;show OpR.go zr I ru rv #[_,_,_,_,rfl,rfl,h1,h2,hl,λz=>?_,λz=>?_,λp hp=>.tup so (r1.append r2) hp]
   ·have z':=r1.nil_iff.mp z;subst z';exact .here so (.tup h2 r2)
   ·have z':=r2.nil_iff.mp z;subst z';rw[LK];exact .here so (.tup h1 r1)
  | _=>cases e
 | ref h1=>cases ry with
  | ref h2=>
   dsimp only[gh,tz]at e;split at e
   ·obtain⟨hl,rfl,rfl⟩:=jd e;obtain⟨vs,q1,r1⟩:=c7 so (by assumption) h1
    obtain⟨us,q2,r2⟩:=c7 so (by assumption) h2
    rw[Kw,r1.length,r2.length]at hl;exact OpR.go CC I ru rv #[_,_,_,_,rfl,rfl,q1,q2,hl,λp hp=>.lst so (r1.append r2) hp]
   ·cases e
  | _=>cases e
 | _=>cases e
def nG {f:Ki->Ki->R1 Ki}{c:KD->KD->KR}{g:KD->KD->KD}{r:R2}(h:OpR X f r)(hr:∀i j H Q,c i j=true->Q (.int (g i j)) H->r (.int i) (.int j) H Q):LOp X f (yw c g):=by
 intro J s Y H A S x y a b u v w S' I so rx ru ry rv e;cases rx with
 | int=>cases ry with
  | int=>
   unfold yw at e;dsimp only at e;split at e
   ·cases e; exact OpR.go h I ru rv (hr _ _ _ _ (by assumption) (.here so .int))
   ·cases e
  | _=>cases e
 | _=>cases e
def zu:LOp X (binaryOp .Sub) (gh .sub):=nG Co λ_ _ _ _ _ q=>#[_,_,rfl,rfl,q]
def zv {i j:KD}(h:tu i j=true):CMul i j:=by
 unfold tu at h;rw[Ms,Kj,Kj,KN,KN,KN,KN]at h;exact h
def zw:LOp X (binaryOp .Mult) (gh .mul):=by
 have hI:LOp X (binaryOp .Mult) (yw tu (· * ·)):=nG Cp λ_ _ _ _ h q=>#[_,_,rfl,rfl,zv h,q]
 intro J s Y H A S x y a b u v w S' I so rx ru ry rv e;cases x with
 | str z=>
  cases rx with
  | str=>cases ry with
   | int=>
    dsimp only[gh,zo]at e;split at e
    ·rename_i hc;cases e; exact OpR.go pV I ru rv #[_,_,rfl,rfl,vI ∅ ∅ hc.2.2,.here so .str]
    ·cases e
   | _=>cases e
 | ref z=>
  cases rx with
  | ref h1=>cases ry with
   | int=>
    dsimp only[gh,zo]at e;split at e
    ·split at e
     ·rename_i hc;obtain⟨hl,rfl,rfl⟩:=jd e;obtain⟨vs,q1,r1⟩:=c7 so (by assumption) h1
      rw[r1.length]at hc;exact OpR.go CD I ru rv #[_,_,_,rfl,rfl,q1,∅,∅,hc.2.2,λp hp=>.lst so (r1.rep _) hp]
     ·cases e
    ·cases e
   | _=>cases e
 | _=>exact hI _ _ _ _ _ _ _ _ _ _ _ _ _ _ I so rx ru ry rv e
def vJ:LOp X (binaryOp .FloorDiv) (gh .fdiv):=nG yJ λ_ _ _ _ h q=>#[_,_,rfl,rfl,by
 unfold zm at h;rw[Kj,KN,KN]at h;exact h,q]
def zx:LOp X (binaryOp .Mod) (gh .mod):=nG Cq λ_ _ _ _ h q=>#[_,_,rfl,rfl,Lq h,q]
def zy:LOp X (binaryOp .Pow) (gh .pow):=nG Cr λ_ _ _ _ h q=>#[_,_,rfl,rfl,by
 unfold Fz at h;rw[Kj,Kj,KN,KN,KN]at h;exact#[h.1.1,h.1.2,h.2],q]
def rm (o:BOp):LOp X (binaryOp o.py) (gh o):=by
 cases o
 ·exact zt
 ·exact zu
 ·exact zw
 ·exact vJ
 ·exact zx
 ·exact zy
end
abbrev kO (f:W->W->Kk KR):Kg W->Kg W->Kk KR
 | [],[]=>bt true
 | [],_::_=>bt false
 | _::_,[]=>bt false
 | x::xs,y::ys=>match f x y,kO f xs ys with
  | some a,bt b=>bt (a&&b)
  | _,_=>gV
abbrev b2 (b:KR):KD:=if b then 1 else 0
abbrev iN (S:aa):Kt->W->W->Kk KR
 | _,.non,y=>match y with
  | .non=>bt true
  | .int _|.str _|.tup _=>bt false
  | _=>gV
 | _,.bl a,y=>match y with
  | .bl b=>bt (a==b)
  | .int b=>bt ((if a then 1 else 0)==b)
  | .str _|.tup _=>bt false
  | _=>gV
 | _,.int a,y=>match y with
  | .int b=>bt (a==b)
  | .str _|.tup _=>bt false
  | _=>gV
 | _,.str a,y=>match y with
  | .str b=>bt (a==b)
  | .int _|.tup _=>bt false
  | _=>gV
 | 0,_,_=>gV
 | d+1,.tup xs,y=>match y with
  | .tup ys=>kO (iN S d) xs ys
  | .int _|.str _=>bt false
  | _=>gV
 | d+1,.ref i,y=>match y with
  | .ref j=>match nk S i,nk S j with
   | some xs,bt ys=>if xs.length=ys.length then kO (iN S d) xs ys else bt false
   | _,_=>gV
  | .int _|.str _|.tup _=>match nk S i with
   | some _=>bt false
   | none=>gV
  | _=>gV
section
variable{X:Cx}{J:Kg (Kn×LJ)}{Y:L2.St}{H:Hp}{s:Km}{A:Kg Kn}{S:aa}
abbrev RU (K:Kr)(A:Kg Kn)(H:Hp)(w:W)(u:Ki):Prop:=∃v,Rel K A H w v/\RelV v u
def rn {ws:Kg W}{vs:Kg V}{us:Kg Ki}(r:RelL X.K A H ws vs)(q:Vals vs us):∀(j:Kt) (h1:j < ws.length) (h2:j < us.length),RU X.K A H ws[j] us[j]:=by
 induction ws generalizing vs us with
 | nil=>intro j h1; simp at h1
 | cons w ws ih=>
  cases r with
  | cons r1 rr=>
   cases q with
   | cons q1 qq=>
    intro j h1 h2;cases j with
    | zero=>exact#[_,r1,q1]
    | succ j=>exact ih rr qq j (by simpa using h1) (by simpa using h2)
def dH {ws:Kg W}{u:Ki}(I:Inv X J Y H s)(h:RU X.K A H (.tup ws) u):∃a its,u=.ref a/\Si s.heap a its/\its.size=ws.length/\ws.length<=sizeLine/\∀(j:Kt) (h1:j < ws.length) (h2:j < its.size),RU X.K A H ws[j] its[j]:=by
 obtain⟨v,r,q⟩:=h;cases r with
 | tup sq rl=>
  obtain⟨its,rv,ht,hz⟩:=I.tuple sq;show#[_,its.toArray,q,ht,by rw[KG,<- rv.length,rl.length],by rw[rl.length]; exact hz,λj h1 h2=>?_]
  have:=rn rl rv j h1 (by simpa using h2)
  simpa using this
def jK {i:Kt}{ws:Kg W}{u:Ki}(I:Inv X J Y H s)(so:StoreOk X.w X.K A H S)(e:nk S i=bt ws)(h:RU X.K A H (.ref i) u):∃a its,u=.ref a/\A[i]?=bt a/\s.heap.IsList a its/\its.size=ws.length/\ws.length<=sizeLine/\∀(j:Kt) (h1:j < ws.length) (h2:j < its.size),RU X.K A H ws[j] its[j]:=by
 obtain⟨v,r,q⟩:=h;cases r with
 | ref ea=>
  obtain⟨vs,hq,rl⟩:=c7 so e ea;obtain⟨its,rv,ht,hz⟩:=I.list (.of hq);show#[_,its.toArray,q,ea,ht.isList,by rw[KG,<- rv.length,rl.length],by rw[rl.length]; exact hz,λj h1 h2=>?_]
  have:=rn rl rv j h1 (by simpa using h2)
  simpa using this
def jL {f:W->W->Kk KR}:∀ {xs ys:Kg W} {k:KR},kO f xs ys=bt k->∃e:Kt->KR,(∀(j:Kt) (h1:j < xs.length) (h2:j < ys.length),f xs[j] ys[j]=bt (e j))/\
  k=((Mh (min xs.length ys.length)).all e&&xs.length==ys.length)
 | [],[],k,h=>#[λ_=>true,λj h1=>by simp at h1,by cases h; rfl]
 | [],_::_,k,h=>#[λ_=>true,λj h1=>by simp at h1,by cases h; simp]
 | _::_,[],k,h=>#[λ_=>true,λj h1 h2=>by simp at h2,by cases h; simp]
 | x::xs,y::ys,k,h=>by
  dsimp only[kO]at h;split at h
  ·rename_i a b ha hb;cases h;obtain⟨e,h1,h2⟩:=jL hb;show#[λj=>match j with|0=>a|j+1=>e j,λj hj1 hj2=>?_,?_]
   ·cases j with
    | zero=>exact ha
    | succ j=>exact h1 j (by simpa using hj1) (by simpa using hj2)
   ·subst h2;simp only[Lh,Nat.add_min_add_right,O3,La,O4,Bool.and_assoc];congr 2;simp
  ·cases h
def vK (I:Inv X J Y H s){a:Kn}{vs us:Kg V}(h1:SqT X.K H a vs)(h2:H a=bt (.lst us)):Lj:=by
 obtain⟨its,_,⟨o,e,c,_⟩,_⟩:=I.tuple h1;obtain⟨_,_,n,_,e2⟩:=(show ObjOk X.prog X.w H s.heap a (.lst us)from I.hok a _ h2)
 rw[e]at e2;cases e2;have c':Mn "list" = Mn "tuple":=c;exact absurd c' #v[]
def zz (I:Inv X J Y H s)(so:StoreOk X.w X.K A H S):∀(d:Kt) {x y:W} {v:V} {k:KR},Rel X.K A H x v->Rel X.K A H y v->iN S d x y=bt k->k=true:=by
 intro d
 induction d with
 | zero=>
  intro x y v k rx ry e;cases rx with
  | non=>cases ry; cases e; rfl
  | bl=>cases ry; cases e; exact Li _
  | int=>cases ry; cases e; exact Li _
  | str=>cases ry; cases e; exact Li _
  | tup _ _=>cases e
  | ref _=>cases e
 | succ d ih=>
  have lists:∀ {xs ys:Kg W} {vs:Kg V} {k:KR},RelL X.K A H xs vs->RelL X.K A H ys vs->kO (iN S d) xs ys=bt k->k=true:=by
   intro xs
   induction xs with
   | nil=>
    intro ys vs k r1 r2 e;cases r1; cases r2; cases e; rfl
   | cons x xs ihx=>
    intro ys vs k r1 r2 e;cases r1 with
    | cons p1 q1=>
     cases r2 with
     | cons p2 q2=>
      dsimp only[kO]at e;split at e
      ·rename_i a b ha hb;cases e;rw[ih p1 p2 ha,ihx q1 q2 hb];rfl
      ·cases e
  intro x y v k rx ry e;cases rx with
  | non=>cases ry; cases e; rfl
  | bl=>cases ry; cases e; exact Li _
  | int=>cases ry; cases e; exact Li _
  | str=>cases ry; cases e; exact Li _
  | tup h1 r1=>
   cases ry with
   | tup h2 r2=>
    rw[I.tuple_inj h1 h2]at r1;exact lists r1 r2 e
   | ref ea=>cases e
  | ref ea=>
   cases ry with
   | tup h2 r2=>
    dsimp only[iN]at e;split at e
    ·rename_i xs hx;obtain⟨vs,q,r⟩:=c7 so hx ea;exact(vK I h2 q).elim
    ·cases e
   | ref eb=>
    dsimp only[iN]at e;split at e
    ·rename_i xs ys hx hy;have:=so.nd _ _ _ _ _ (jJ hx) rfl (jJ hy) rfl ea eb;subst this;rw[hx]at hy; cases hy
     rw[KQ rfl]at e;obtain⟨vs,q,r⟩:=c7 so hx ea;exact lists r r e
    ·cases e
def tD (A:K1):A.in1.units=A.units+1:=rfl
noncomputable abbrev EM (B:K1)(s:Km)(u v:Ki)(k:KR):Prop:=SeqAt.RcAt B s u v k/\SeqAt.RcNeAt B s u v (!k)/\RC B s u v k
open SeqAt in
def Bn (I:Inv X J Y H s)(so:StoreOk X.w X.K A H S):∀(d:Kt) (B:K1) {x y:W} {u v:Ki} {k:KR},B.units+d < cLine->RU X.K A H x u->RU X.K A H y v->iN S d x y=bt k->EM B s u v k:=by
 have non:∀ {B:K1} {y:W} {u v:Ki} {k:KR} {d:Kt},B.units < cLine->RU X.K A H .non u->RU X.K A H y v->iN S d .non y=bt k->EM B s u v k:=by
  intro B y u v k d hB ⟨_,rx,ra⟩ ⟨_,ry,rb⟩ e;cases rx;cases(show u=LA from ra)
  cases y with
  | non=>
   have e:bt (true)=bt k:=by cases d <;> exact e
   cases e;cases ry;cases(show v=LA from rb)
   exact#[.none_none,.none_none,.same _]
  | int c=>
   have e:bt false=bt k:=by cases d <;> exact e
   cases e;cases ry;obtain⟨t,rfl⟩ : ∃t,v=Nq _ t:=rb;exact#[.none_int _ _,.none_int _ _,.none_int _ _]
  | str c=>
   have e:bt false=bt k:=by cases d <;> exact e
   cases e;cases ry;obtain⟨t,rfl⟩ : ∃t,v=MQ _ t:=rb;exact#[.none_str _ _,.none_str _ _,.none_str _ _]
  | tup c=>
   have e:bt false=bt k:=by cases d <;> exact e
   cases e;obtain⟨a,its,rfl,ht,_⟩:=dH I #[_,ry,rb];exact#[.none_tuple ht hB,.none_tuple ht hB,.none_tuple ht hB]
  | _=>cases d <;> cases e
 have bl:∀ {B:K1} {b:KR} {y:W} {u v:Ki} {k:KR} {d:Kt},B.units < cLine->RU X.K A H (.bl b) u->RU X.K A H y v->iN S d (.bl b) y=bt k->EM B s u v k:=by
  intro B b y u v k d hB ⟨_,rx,ra⟩ ⟨_,ry,rb⟩ e;cases rx;cases(show u=Mg _ from ra)
  cases y with
  | bl c=>
   have e:bt (b==c)=bt k:=by cases d <;> exact e
   cases e;cases ry;cases(show v=Mg _ from rb)
   exact#[.bool_bool _ _,.bool_bool _ _,.bool_bool _ _]
  | int c=>
   have e:bt ((if b then 1 else 0)==c)=bt k:=by cases d <;> exact e
   cases e;cases ry;obtain⟨t,rfl⟩ : ∃t,v=Nq _ t:=rb;exact#[.bool_int _ _ _,.bool_int _ _ _,.bool_int _ _ _]
  | str c=>
   have e:bt false=bt k:=by cases d <;> exact e
   cases e;cases ry;obtain⟨t,rfl⟩ : ∃t,v=MQ _ t:=rb;exact#[.bool_str _ _ _,.bool_str _ _ _,.bool_str _ _ _]
  | tup c=>
   have e:bt false=bt k:=by cases d <;> exact e
   cases e;obtain⟨a,its,rfl,ht,_⟩:=dH I #[_,ry,rb];exact#[.bool_tuple _ ht hB,.bool_tuple _ ht hB,.bool_tuple _ ht hB]
  | _=>cases d <;> cases e
 have int:∀ {B:K1} {b:KD} {y:W} {u v:Ki} {k:KR} {d:Kt},B.units < cLine->RU X.K A H (.int b) u->RU X.K A H y v->iN S d (.int b) y=bt k->EM B s u v k:=by
  intro B b y u v k d hB ⟨_,rx,ra⟩ ⟨_,ry,rb⟩ e;cases rx;obtain⟨t0,rfl⟩ : ∃t,u=Nq _ t:=ra;cases y with
  | int c=>
   have e:bt (b==c)=bt k:=by cases d <;> exact e
   cases e;cases ry;obtain⟨t,rfl⟩ : ∃t,v=Nq _ t:=rb;exact#[.int_int _ _ _ _,.int_int _ _ _ _,.int_int _ _ _ _]
  | str c=>
   have e:bt false=bt k:=by cases d <;> exact e
   cases e;cases ry;obtain⟨t,rfl⟩ : ∃t,v=MQ _ t:=rb;exact#[.int_str _ _ _ _,.int_str _ _ _ _,.int_str _ _ _ _]
  | tup c=>
   have e:bt false=bt k:=by cases d <;> exact e
   cases e;obtain⟨a,its,rfl,ht,_⟩:=dH I #[_,ry,rb];exact#[.int_tuple _ _ ht hB,.int_tuple _ _ ht hB,.int_tuple _ _ ht hB]
  | _=>cases d <;> cases e
 have str:∀ {B:K1} {b:Ks} {y:W} {u v:Ki} {k:KR} {d:Kt},B.units < cLine->RU X.K A H (.str b) u->RU X.K A H y v->iN S d (.str b) y=bt k->EM B s u v k:=by
  intro B b y u v k d hB ⟨_,rx,ra⟩ ⟨_,ry,rb⟩ e;cases rx;obtain⟨t0,rfl⟩ : ∃t,u=MQ _ t:=ra;cases y with
  | str c=>
   have e:bt (b==c)=bt k:=by cases d <;> exact e
   cases e;cases ry;obtain⟨t,rfl⟩ : ∃t,v=MQ _ t:=rb;exact#[.str_str _ _ _ _,.str_str _ _ _ _,.str_str _ _ _ _]
  | int c=>
   have e:bt false=bt k:=by cases d <;> exact e
   cases e;cases ry;obtain⟨t,rfl⟩ : ∃t,v=Nq _ t:=rb;exact#[.str_int _ _ _ _,.str_int _ _ _ _,.str_int _ _ _ _]
  | tup c=>
   have e:bt false=bt k:=by cases d <;> exact e
   cases e;obtain⟨a,its,rfl,ht,_⟩:=dH I #[_,ry,rb];exact#[.str_tuple _ _ ht hB,.str_tuple _ _ ht hB,.str_tuple _ _ ht hB]
  | _=>cases d <;> cases e
 intro d
 induction d with
 | zero=>
  intro B x y u v k hu rx ry e;cases x with
  | non=>exact non ∅ rx ry e
  | bl b=>exact bl ∅ rx ry e
  | int b=>exact int ∅ rx ry e
  | str b=>exact str ∅ rx ry e
  | _=>cases e
 | succ d ih=>
  intro B x y u v k hu rx ry e;have hu0:B.units < cLine:=∅
  have hu1:B.in1.units+d < cLine:=by rw[tD]; omega
  have rx0:=rx;have ry0:=ry;have fin:∀ {a b:Kn},u=.ref a->v=.ref b->RcAt B s u v k->RcNeAt B s u v (!k)->EM B s u v k:=by
   intro a b ea eb h1 h2;subst ea eb;show#[h1,h2,?_]
   by_cases hab:a=b
   ·subst hab;obtain⟨v1,q1,z1⟩:=rx0;obtain⟨v2,q2,z2⟩:=ry0;have e12:v1=v2:=z1.inj z2;subst e12;have:=zz I so (d+1) q1 q2 e;subst this;exact EqAt.same _
   ·exact EqAt.of_refs hab h1
  cases x with
  | non=>exact non ∅ rx ry e
  | bl b=>exact bl ∅ rx ry e
  | int b=>exact int ∅ rx ry e
  | str b=>exact str ∅ rx ry e
  | tup xs=>
   cases y with
   | tup ys=>
    obtain⟨a,its,rfl,ht,hs,_,hi⟩:=dH I rx;obtain⟨b,its2,rfl,ht2,hs2,_,hi2⟩:=dH I ry;obtain⟨f,h1,h2⟩:=jL (show kO (iN S d) xs ys=bt k from e)
    have he:∀j (h1:j < its.size) (h2:j < its2.size),EqAt B.in1 s its[j] its2[j] (f j):=λj j1 j2=>
     (ih B.in1 hu1 (hi j (hs ▸ j1) j1) (hi2 j (hs2 ▸ j2) j2) (h1 j (hs ▸ j1) (hs2 ▸ j2))).2.2
    rw[<- hs,<- hs2]at h2;subst h2;exact fin rfl rfl (RcAt.tuples ht ht2 hu0 he) (RcNeAt.tuples ht ht2 hu0 he)
   | int c=>
    cases e;obtain⟨a,its,rfl,ht,_⟩:=dH I rx;obtain⟨_,r2,q2⟩:=ry;cases r2;obtain⟨t,rfl⟩ : ∃t,v=Nq _ t:=q2;exact#[.tuple_int _ _ ht hu0,.tuple_int _ _ ht hu0,.tuple_int _ _ ht hu0]
   | str c=>
    cases e;obtain⟨a,its,rfl,ht,_⟩:=dH I rx;obtain⟨_,r2,q2⟩:=ry;cases r2;obtain⟨t,rfl⟩ : ∃t,v=MQ _ t:=q2;exact#[.tuple_str _ _ ht hu0,.tuple_str _ _ ht hu0,.tuple_str _ _ ht hu0]
   | _=>cases e
  | ref i=>
   cases y with
   | ref j=>
    dsimp only[iN]at e;split at e
    ·rename_i ws ws2 hw hw2;obtain⟨a,its,rfl,_,hl,hs,_,hi⟩:=jK I so hw rx;obtain⟨b,its2,rfl,_,hl2,hs2,_,hi2⟩:=jK I so hw2 ry;split at e
     ·rename_i hlen;obtain⟨f,h1,h2⟩:=jL e;have he:∀j (h1:j < its.size) (h2:j < its2.size),EqAt B.in1 s its[j] its2[j] (f j):=λj j1 j2=>
       (ih B.in1 hu1 (hi j (hs ▸ j1) j1) (hi2 j (hs2 ▸ j2) j2) (h1 j (hs ▸ j1) (hs2 ▸ j2))).2.2
      have hk:k=(Mh its.size).all f:=by rw[h2,hs,hlen]; simp
      subst hk;exact fin rfl rfl (RcAt.lists hl hl2 (by rw[hs,hs2,hlen]) hu0 he) (RcNeAt.lists hl hl2 (by rw[hs,hs2,hlen]) hu0 he)
     ·rename_i hlen;cases e;have hb:(its.size != its2.size)=true:=by rw[hs,hs2]; simpa using hlen
      exact fin rfl rfl (RcAt.lists_lengths hl hl2 hb hu0) (RcNeAt.lists_lengths hl hl2 hb hu0)
    ·cases e
   | int c=>
    dsimp only[iN]at e;split at e
    ·rename_i ws hw;cases e;obtain⟨a,its,rfl,_,hl,_⟩:=jK I so hw rx;obtain⟨_,r2,q2⟩:=ry;cases r2;obtain⟨t,rfl⟩ : ∃t,v=Nq _ t:=q2;exact#[.list_int _ _ hl hu0,.list_int _ _ hl hu0,.list_int _ _ hl hu0]
    ·cases e
   | str c=>
    dsimp only[iN]at e;split at e
    ·rename_i ws hw;cases e;obtain⟨a,its,rfl,_,hl,_⟩:=jK I so hw rx;obtain⟨_,r2,q2⟩:=ry;cases r2;obtain⟨t,rfl⟩ : ∃t,v=MQ _ t:=q2;exact#[.list_str _ _ hl hu0,.list_str _ _ hl hu0,.list_str _ _ hl hu0]
    ·cases e
   | tup ys=>
    dsimp only[iN]at e;split at e
    ·rename_i ws hw;cases e;obtain⟨a,its,rfl,_,hl,_⟩:=jK I so hw rx;obtain⟨b,its2,rfl,ht2,_⟩:=dH I ry;exact fin rfl rfl (.list_tuple hl ht2 hu0) (.list_tuple hl ht2 hu0)
    ·cases e
   | _=>cases e
end
abbrev Bo (fe fl:W->W->Kk KR):Kg W->Kg W->Kk KR
 | [],[]=>bt false
 | [],_::_=>bt true
 | _::_,[]=>bt false
 | x::xs,y::ys=>match fe x y with
  | some true=>Bo fe fl xs ys
  | some false=>fl x y
  | none=>gV
abbrev JV (S:aa):Kt->W->W->Kk KR
 | _,.int a,.int b=>bt (decide (a < b))
 | _,.str a,.str b=>bt (decide (a.cps.toList < b.cps.toList))
 | d+1,.tup xs,.tup ys=>Bo (iN S d) (JV S d) xs ys
 | _,_,_=>gV
section
open PySem.SeqAt
open PySem.AutoSeq1 (wpAny_loadPart')
open PySem.MeetsSeq PySem.MeetsSeq2 PySem.MeetsSeq3
end
inductive COp where|eq|ne|lt|le|gt|ge|isin|notin|is|isnot
 deriving Ny
abbrev COp.py:COp->Pa
 | .eq=>.Eq|.ne=>.NotEq|.lt=>.Lt|.le=>.LtE|.gt=>.Gt|.ge=>.GtE|.isin=>.In|.notin=>.NotIn|.is=>.Is|.isnot=>.IsNot
abbrev dq:W->KR
 | .non=>true
 | .bl _=>true
 | .int _=>true
 | .str _=>true
 | _=>false
abbrev CP:W->W->KR
 | .non,.non=>true
 | .bl a,.bl b=>a==b
 | .bl a,.int b=>b2 a==b
 | .int a,.bl b=>a==b2 b
 | .int a,.int b=>a==b
 | .str a,.str b=>a==b
 | _,_=>false
abbrev dY (S:aa):W->Kk (Kg W)
 | .tup xs=>bt xs
 | .ref i=>gF S i
 | _=>gV
noncomputable abbrev d8:Kt:=20
abbrev CQ (x y:W)(S:aa):Kk KR:=match dY S y with
 | some ys=>if dq x&&ys.all dq then bt (ys.any λz=>CP z x)else gV
 | none=>gV
abbrev tF:W->KR
 | .non=>true
 | _=>false
abbrev vL (f:KD->KD->KR):W->W->Kk KR
 | .int i,.int j=>bt (f i j)
 | _,_=>gV
abbrev IF:W->W->Kk KR
 | .bl a,.bl b=>bt (!(a==b))
 | _,_=>gV
abbrev yy:COp->W->W->aa->Kk KR
 | .eq,x,y,S=>iN S d8 x y
 | .ne,x,y,S=>(iN S d8 x y).map (!·)
 | .lt,x,y,_=>vL (λi j=>decide (i < j)) x y
 | .le,x,y,_=>vL (λi j=>decide (i<=j)) x y
 | .gt,x,y,_=>vL (λi j=>decide (j < i)) x y
 | .ge,x,y,_=>vL (λi j=>decide (j<=i)) x y
 | .isin,x,y,S=>CQ x y S
 | .notin,x,y,S=>(CQ x y S).map (!·)
 | .is,x,y,_=>if tF y then bt (tF x)else gV
 | .isnot,x,y,_=>if tF y then bt (!tF x)else IF x y
abbrev fL (o:COp)(x y:W)(S:aa):Kk (W×aa):=(yy o x y S).map λk=>(.bl k,S)
section
variable{X:Cx}
def je {J:Kg (Kn×LJ)}{Y:L2.St}{H:Hp}{s:Km}{A:Kg Kn}{S:aa}{k:KR}(I:Inv X J Y H s)(so:StoreOk X.w X.K A H S):PostE X J Y A H S (.bl k) (.bool k) s:=
 #[.bl k,H,A,I,rfl,.refl,so,.bl]
def zA {o:COp}{x y w:W}{S S':aa}(h:fL o x y S=bt (w,S')):∃k,yy o x y S=bt k/\w=.bl k/\S'=S:=by
 unfold fL at h;rw[Ko]at h;obtain⟨k,h1,h2⟩:=h;cases h2;exact#[k,h1,rfl,rfl]
def nH {A:Kg Kn}{H:Hp}{w:W}{v:V}(r:Rel X.K A H w v)(f:dq w=true):fO v=true:=by
 cases r <;> first|rfl|cases f
def lm {A:Kg Kn}{H:Hp}:∀ {ws:Kg W} {vs:Kg V},RelL X.K A H ws vs->ws.all dq=true->vs.all fO=true
 | _,_,.nil,_=>rfl
 | _,_,.cons r t,f=>by
  rw[La,Kj]at f ⊢;exact#[nH r f.1,lm t f.2]
def zB {A:Kg Kn}{H:Hp}{x y:W}{u v:V}(r:Rel X.K A H x u)(q:Rel X.K A H y v)(fx:dq x=true)(fy:dq y=true):yV u v=CP x y:=by
 cases r <;> cases q <;> first|rfl|cases fx|cases fy
def rq {A:Kg Kn}{H:Hp}{y:W}{v:V}(q:Rel X.K A H y v)(fy:dq y=true):∀ {ws:Kg W} {vs:Kg V},RelL X.K A H ws vs->ws.all dq=true->HA v vs=ws.any λz=>CP z y
 | _,_,.nil,_=>rfl
 | _,_,.cons r t,f=>by
  rw[La,Kj]at f;have:=rq q fy t f.2;unfold HA at this ⊢;rw[Ml,Ml,zB r q f.1 fy,this]
def ma {J:Kg (Kn×LJ)}{Y:L2.St}{H:Hp}{s:Km}{A:Kg Kn}{S:aa}{y:W}{b:V}{ys:Kg W}(so:StoreOk X.w X.K A H S)(r:Rel X.K A H y b)(e:dY S y=bt ys):∃p vs,b=.ref p/\(SqL X.K H p vs\/SqT X.K H p vs)/\RelL X.K A H ys vs:=by
 cases r with
 | tup h1 r1=>cases e; exact#[_,_,rfl,.inr h1,r1]
 | ref ea=>
  obtain⟨vs,h1,r1⟩:=ba so e ea;exact#[_,vs,rfl,.inl h1,r1]
 | _=>cases e
def vM {neg:KR}{o:Pa}(ho:OpR X (compareOp o) (Ix X.K neg)){J:Kg (Kn×LJ)}{Y:L2.St}{H:Hp}{s:Km}{A:Kg Kn}{S:aa}{x y:W}{a b:V}{u v:Ki}{ys:Kg W}(I:Inv X J Y H s)(so:StoreOk X.w X.K A H S)
  (rx:Rel X.K A H x a) (ru:RelV a u) (ry:Rel X.K A H y b) (rv:RelV b v) (e:dY S y=bt ys) (f:(dq x&&ys.all dq)=true) :
  wpAny (model X.prog X.w) X.A (compareOp o u v) (PostE X J Y A H S (.bl (if neg then !ys.any λz=>CP z x else ys.any λz=>CP z x))) X.xe s:=by
 obtain⟨p,vs,rfl,hq,rl⟩:=ma (J:=J) (Y:=Y) (s:=s) so ry e;rw[Kj]at f;show OpR.go ho I ru rv #[p,vs,rfl,hq,nH rx f.1,lm rl f.2,?_];rw[rq rx f.1 rl f.2];exact .here so .bl
def gG (hu:X.A.units+d8 < cLine)(o:COp):LOp X (compareOp o.py) (fL o):=by
 intro J s Y H A S x y a b u v w S' I so rx ru ry rv e;obtain⟨k,ek,e1,e2⟩:=zA e;subst e1;subst e2;clear e
 rename aa=>S
 have twoI:∀ {f:KD->KD->KR},vL f x y=bt k->∃i j,x=.int i/\y=.int j/\k=f i j:=by
  intro f h;cases x with
  | int i=>cases y with
   | int j=>cases h; exact#[i,j,rfl,rfl,rfl]
   | _=>cases h
  | _=>cases h
 have hu1:X.A.units+1 < cLine:=by have:d8=20:=rfl; omega
 have ofSq:∀ {c:KR},CQ x y S=bt c->(∃ys,dY S y=bt ys/\(dq x&&ys.all dq)=true/\c=ys.any λz=>CP z x):=by
  intro c h;unfold CQ at h;split at h
  ·split at h
   ·cases h; exact#[_,by assumption,by assumption,rfl]
   ·cases h
  ·cases h
 have ofN:∀ {c:KR},(if tF y then bt c else gV)=bt k->y=.non/\k=c:=by
  intro c h;cases y with
  | non=>cases h; exact#[rfl,rfl]
  | _=>cases h
 cases o with
 | eq=>exact(Bn I so d8 X.A hu #[a,rx,ru] #[b,ry,rv] ek).1 _ _ _ _ (je I so)
 | ne=>
  obtain⟨k',h1,rfl⟩:=Ko.mp ek;exact(Bn I so d8 X.A hu #[a,rx,ru] #[b,ry,rv] h1).2.1 _ _ _ _ (je I so)
 | lt=>
  obtain⟨i,j,rfl,rfl,rfl⟩:=twoI ek;cases rx; cases ry
  exact OpR.go Fd I ru rv #[_,_,rfl,rfl,.here so .bl]
 | le=>
  obtain⟨i,j,rfl,rfl,rfl⟩:=twoI ek;cases rx; cases ry
  exact OpR.go Fe I ru rv #[_,_,rfl,rfl,.here so .bl]
 | gt=>
  obtain⟨i,j,rfl,rfl,rfl⟩:=twoI ek;cases rx; cases ry
  exact OpR.go Ff I ru rv #[_,_,rfl,rfl,.here so .bl]
 | ge=>
  obtain⟨i,j,rfl,rfl,rfl⟩:=twoI ek;cases rx; cases ry
  exact OpR.go Fg I ru rv #[_,_,rfl,rfl,.here so .bl]
 | isin=>
  obtain⟨ys,h1,h2,rfl⟩:=ofSq ek;exact vM (neg:=false) sV I so rx ru ry rv h1 h2
 | notin=>
  obtain⟨c,h,rfl⟩:=Ko.mp ek;obtain⟨ys,h1,h2,rfl⟩:=ofSq h;exact vM (neg:=true) l4 I so rx ru ry rv h1 h2
 | is=>
  obtain⟨rfl,rfl⟩:=ofN ek;cases ry;show OpR.go Ct I ru rv #[rfl,?_];cases rx <;> exact .here so .bl
 | isnot=>
  cases y with
  | non=>
   have ek:bt (!tF x)=bt k:=ek;cases ek;cases ry;show OpR.go yK I ru rv #[rfl,?_];cases rx <;> exact .here so .bl
  | bl b'=>
   cases x with
   | bl a'=>
    have ek:bt (!(a'==b'))=bt k:=ek;cases ek;cases rx;cases ry;obtain rfl:u=Mg a':=ru;obtain rfl:v=Mg b':=rv;show wpAny_isNot_plain rfl ?_;have e:(!(Mg a'==Mg b')) = !(a'==b'):=by cases a' <;> cases b' <;> rfl
    rw[e];exact je I so
   | _=>cases ek
  | _=>cases x <;> cases ek
end
end Mi
namespace HT
open PySem PyProof.Rows
section
variable{prog:KF}{w:KS}{A:K1}{E:Ki->Km->Prop}{s:Km}
def fM {t sl:Kn}{items:Ls Ki}{vl vu:Ki}{lo hi:Kk KD}{Q:Ki->Km->Prop}(ht:Si s.heap t items)(hs:s.heap.IsSliceOf sl vl vu .none)(pl:Oi vl lo)(pu:Oi vu hi)
  (hw:bB items.size 0 lo=0/\bB items.size items.size hi=items.size) (h:Q (.ref t) s):wpAny (model prog w) A (getItem (.ref t) (.ref sl)) Q E s:=by
 obtain⟨os,hos,hcs,hds⟩:=id hs;have hTs:s.TypeIs (.ref sl) "slice":=#[os,hos,hcs];unfold getItem
 try with_reducible show Ly ?_
 first|refine Kh (Kq ?_)|skip
 show Kh (Qr ht.typeIs #v[] ?_)
 show Kh (Lx (name:=LY "__getitem__") ht.typeIs Mw
  (LL Mw ht.typeIs PH ?_ (P8 _ _)))
 change wpAny _ _ (OC (.ref t) >>= _) _ _ s;show Kh (R4 ht ?_);show Kh (N1 hTs ?_);rw[KQ #v[]]
 show Kh (dj hs pl pu ?_);have hyes:((((bB items.size 0 lo:Kt):KD)==0&&(1:KD)==1&&(bB items.size items.size hi - bB items.size 0 lo)==items.size)=true):=by
  rw[hw.1,hw.2];simp
 change wpAny _ _ (if (((bB items.size 0 lo:Kt):KD)==0&&(1:KD)==1&&(bB items.size items.size hi - bB items.size 0 lo)==items.size)=true then _ else _) _ _ s
 rw[KQ hyes];unfold RI;show Kh (Kh (N1 ht.typeIs (Kq ?_)));rw[KQ #v[]]
 exact Kh (Nn (Kh (Kq (Kq #[_,rfl,Kq h]))))
end
end HT
namespace Mi
open PySem PySem.Spec PyProof.Rows L2
abbrev uN (x y:W)(S:aa):Kk (W×aa):=match x,y with
 | .tup xs,.int i=>(pg xs i).map λw=>(w,S)
 | .ref r,.int i=>match gF S r with
  | some xs=>(pg xs i).map λw=>(w,S)
  | none=>gV
 | .str x,.int i=>if x.length<=sizeLine then(pg x.cps.toList i).map λc=>(.str #[[c].toArray],S)else gV
 | _,_=>gV
abbrev du (xs:Kg W)(lo hi:Kk KD):Kg W:=(xs.drop (HT.bB xs.length 0 lo)).take (HT.bB xs.length xs.length hi - HT.bB xs.length 0 lo)
abbrev md (x:W)(lo hi:Kk KD)(S:aa):Kk (W×aa):=match x with
 | .tup xs=>bt (.tup (du xs lo hi),S)
 | .str x=>if (N7 x lo hi).length<=sizeLine then bt (.str (N7 x lo hi),S)else gV
 | .ref r=>match gF S r with
  | some xs=>bt (.ref S.length,S++[.lst (du xs lo hi)])
  | none=>gV
 | _=>gV
abbrev vN (o i v:W)(S:aa):Kk aa:=match o,i with
 | .ref r,.int k=>match nk S r with
  | some xs=>match uM xs.length k with
   | some j=>bt (S.set r (.lst (xs.set j v)))
   | none=>gV
  | none=>gV
 | _,_=>gV
section
variable (X:Cx)
abbrev LIx (g:W->W->aa->Kk (W×aa)):Prop:=
 ∀(value slice:KC) (J:Kg (Kn×LJ)) (s:Km) (Y:L2.St) (H:Hp) (A:Kg Kn) (S:aa) (x y:W) (a b:V) (u v:Ki) (w:W) (S':aa),Inv X J Y H s->StoreOk X.w X.K A H S->
  Rel X.K A H x a->RelV a u->Rel X.K A H y b->RelV b v->g x y S=bt (w,S')->subscripted slice false u v=operate [u,v] (getItem u v)->wpAny (model X.prog X.w) X.A (subscriptTail value slice u v) (PostE X J Y A H S' w) X.xe s
abbrev LSl (g:W->Kk KD->Kk KD->aa->Kk (W×aa)):Prop:=
 ∀(J:Kg (Kn×LJ)) (s:Km) (Y:L2.St) (H:Hp) (A:Kg Kn) (S:aa) (x:W) (a:V) (v vl vu:Ki) (lo hi:Kk KD) (sl:Kn) (w:W) (S':aa),Inv X J Y H s->StoreOk X.w X.K A H S->
  Rel X.K A H x a->RelV a v->s.heap.IsSliceOf sl vl vu .none->Oi vl lo->Oi vu hi->g x lo hi S=bt (w,S')->
  ∃T id,typeLookup (.type T) "__getitem__" = pure (bt (.builtin id))/\s.TypeIs v T/\wpAny (model X.prog X.w) X.A (getItem v (.ref sl)) (PostE X J Y A H S' w) X.xe s
abbrev LSet (g:W->W->W->aa->Kk aa):Prop:=
 ∀(J:Kg (Kn×LJ)) (s:Km) (Y:L2.St) (H:Hp) (A:Kg Kn) (S:aa) (o i x:W) (ao ai ax:V) (uo ui ux:Ki) (S':aa),Inv X J Y H s->StoreOk X.w X.K A H S->
  Rel X.K A H o ao->RelV ao uo->Rel X.K A H i ai->RelV ai ui->Rel X.K A H x ax->RelV ax ux->g o i x S=bt S'->
  wpAny (model X.prog X.w) X.A (setItem uo ui ux) (λ_ s'=>∃H' A',Inv X J Y H' s'/\Ext X.K A H A' H'/\StoreOk X.w X.K A' H' S') X.xe s
abbrev LCall (f:Ki)(g:Kg W->aa->Kk (W×aa)):Prop:=
 ∀(J:Kg (Kn×LJ)) (s:Km) (Y:L2.St) (H:Hp) (A:Kg Kn) (S:aa) (xs:Kg W) (vs:Kg V) (us:Kg Ki) (w:W) (S':aa),Inv X J Y H s->StoreOk X.w X.K A H S->
  RelL X.K A H xs vs->Vals vs us->g xs S=bt (w,S')->wpAny (model X.prog X.w) X.A (call f us) (PostE X J Y A H S' w) X.xe s
abbrev LMeth (id:LR)(g:W->Kg W->aa->Kk (W×aa)):Prop:=
 ∀(J:Kg (Kn×LJ)) (s:Km) (Y:L2.St) (H:Hp) (A:Kg Kn) (S:aa) (x:W) (a:V) (u:Ki) (xs:Kg W) (vs:Kg V) (us:Kg Ki) (w:W) (S':aa),Inv X J Y H s->StoreOk X.w X.K A H S->
  Rel X.K A H x a->RelV a u->RelL X.K A H xs vs->Vals vs us->g x xs S=bt (w,S')->wpAny (model X.prog X.w) X.A (call (.builtin id) (u::us)) (PostE X J Y A H S' w) X.xe s
end
section
variable{X:Cx}{J:Kg (Kn×LJ)}{Y:L2.St}{H:Hp}{s:Km}{A:Kg Kn}{S:aa}
def IxR.go {r:R2}(h:IxR X r){S':aa}{w:W}{a b:V}{u v:Ki}{value slice:KC}(I:Inv X J Y H s)(ru:RelV a u)(rv:RelV b v)(q:r a b H (EndV X.w X.K A H S' w))(hs:subscripted slice false u v=operate [u,v] (getItem u v)) :
  wpAny (model X.prog X.w) X.A (subscriptTail value slice u v) (PostE X J Y A H S' w) X.xe s:=aK (h value slice J s Y H a b u v _ I ru rv q hs) λ_ _=>EP.post
def CallR.go {f:Ki}{r:Kg V->Hp->VK->Prop}(h:CallR X f r){S':aa}{w:W}{vs:Kg V}{us:Kg Ki}(I:Inv X J Y H s)(rv:Vals vs us)(q:r vs H (EndV X.w X.K A H S' w)) :
  wpAny (model X.prog X.w) X.A (call f us) (PostE X J Y A H S' w) X.xe s:=aK (h J s Y H vs us _ I rv q) λ_ _=>EP.post
def MtR.go {id:LR}{r:V->Kg V->Hp->VK->Prop}(h:MtR X id r){S':aa}{w:W}{a:V}{u:Ki}{vs:Kg V}{us:Kg Ki}(I:Inv X J Y H s)(ru:RelV a u)(rv:Vals vs us)(q:r a vs H (EndV X.w X.K A H S' w)) :
  wpAny (model X.prog X.w) X.A (call (.builtin id) (u::us)) (PostE X J Y A H S' w) X.xe s:=aK (h J s Y H a vs u us _ I ru rv q) λ_ _=>EP.post
def rz {xs:Kg W}{vs:Kg V}{i:KD}{w:W}(r:RelL X.K A H xs vs)(e:pg xs i=bt w):∃v,pg vs i=bt v/\Rel X.K A H w v:=by
 unfold pg at e ⊢;rw[r.length]at e;cases q:uM vs.length i with
 | none=>rw[q]at e; cases e
 | some j=>
  rw[q]at e;obtain⟨v,h1,h2⟩:=r.get (show xs[j]?=bt w from e)
  exact#[v,h1,h2]
def JW (hu:X.A.units+10 < cLine):LIx X uN:=by
 intro value slice J s Y H A S x y a b u v w S' I so rx ru ry rv e hs;cases rx with
 | tup h1 r1=>cases ry with
  | int=>
   (dsimp only[uN]at e; simp only[Ko]at e)
   obtain⟨w',e1,e2⟩:=e;cases e2;obtain⟨z,h2,r2⟩:=rz r1 e1;exact IxR.go Cz I ru rv #[_,_,_,_,rfl,rfl,h1,h2,.here so r2] hs
  | _=>cases e
 | ref ea=>cases ry with
  | int=>
   dsimp only[uN]at e;split at e
   ·rename_i ws hw;rw[Ko]at e;obtain⟨w',e1,e2⟩:=e;cases e2;obtain⟨vs,h1,r1⟩:=ba so hw ea;obtain⟨z,h2,r2⟩:=rz r1 e1;exact IxR.go yT I ru rv #[_,_,_,_,rfl,rfl,h1,h2,.here so r2] hs
   ·cases e
  | _=>cases e
 | str=>cases ry with
  | int=>
   dsimp only[uN]at e;split at e
   ·rw[Ko]at e;obtain⟨c,e1,e2⟩:=e;cases e2;exact IxR.go CA I ru rv #[_,_,_,rfl,rfl,by assumption,e1,.here so .str] hs
   ·cases e
  | _=>cases e
 | _=>cases ry <;> cases e
def mf {xs:Kg W}{vs:Kg V}{lo hi:Kk KD}(r:RelL X.K A H xs vs):RelL X.K A H (du xs lo hi) (jA vs lo hi):=by
 unfold du jA;rw[r.length];exact(r.drop _).take _
def zC:Fi X (λx lo hi H Q=>∃a xs,x=.ref a/\SqT X.K H a xs/\(jA xs lo hi=xs->Q (.ref a) H)/\∀p,H p=gV->Q (.ref p) (aE H p (.tup (jA xs lo hi)))):=by
 intro J s Y H x v vl vu lo hi sl Q I rx hs pl pu h;obtain⟨a,xs,rfl,hx,q0,q⟩:=h
 by_cases hw:(HT.bB xs.length 0 lo=0/\HT.bB xs.length xs.length hi=xs.length)
 ·cases rx;obtain⟨its,r,ht,hz⟩:=I.tuple hx;have hlen:its.toArray.size=xs.length:=by rw[KG]; exact r.length.symm
  show#["tuple",_,PyProof.Rows.slot_tuple_getitem.lookup,ht.typeIs,?_];show HT.fM ht hs pl pu (by rw[hlen]; exact hw) #[.ref a,H,I,rfl,q0 ?_]
  unfold jA;rw[hw.1,hw.2];simp
 ·exact Cy J s Y H (.ref a) v vl vu lo hi sl Q I rx hs pl pu #[a,xs,rfl,hx,hw,q]
def nI {v:Ki}{o:Kk KD}(p:Oi v o):∃l:Kk (KD×Sl),partValue l=v/\l.map (·.1)=o:=by
 cases p with
 | none=>exact#[gV,rfl,rfl]
 | int i t=>exact#[bt (i,t),rfl,rfl]
abbrev mh (x:W)(xs:Kg W)(S:aa):Kk (W×aa):=match x,xs with
 | .str x,[]=>if PM (OV x).length=false then bt (.str (OV x),S)else gV
 | _,_=>gV
def iO:LMeth X "str.upper" mh:=by
 intro J s Y H A S x a u xs vs us w S' I so rx ru rl rv e;unfold mh at e;split at e
 ·rename_i x;split at e
  ·rename_i hl;cases e;cases rx;obtain⟨t,rfl⟩:=ru;cases rl;cases rv;exact SC.upper hl #[.str _,H,A,I.tok _,#[_,rfl],.refl,so,.str]
  ·cases e
 ·cases e
def JX:LSl X md:=by
 intro J s Y H A S x a v vl vu lo hi sl w S' I so rx rv hs pl pu e;cases rx with
 | tup h1 r1=>
  cases e;obtain⟨T,id,z1,z2,z3⟩:=zC J s Y H _ v vl vu lo hi sl (EndV X.w X.K A H S (.tup (du _ lo hi))) I rv hs pl pu #[_,_,rfl,h1,λq=>.here so (.tup h1 (by have:=mf (lo:=lo) (hi:=hi) r1; rw[q]at this; exact this)),λp hp=>.tup so (mf r1) hp]
  exact#[T,id,z1,z2,aK z3 λ_ _=>EP.post]
 | @str y=>
  dsimp only[md]at e;split at e
  rotate_left
  ·cases e
  rename_i hl;cases e;obtain⟨t,rfl⟩:=rv;obtain⟨l,rfl,rfl⟩:=nI pl;obtain⟨u,rfl,rfl⟩:=nI pu;show#["str",_,PyProof.Rows.slot_str_getitem.lookup,RB s y t,?_];show wpAny_getItem_str_slice (l:=l) (u:=u) (st:=gV) hs rfl ?_;unfold N7 at hl ⊢;unfold sliceMade slicePicked;dsimp only[Rh,OS];split
  ·exact#[.str _,H,A,I,#[_,rfl],.refl,so,.str]
  ·rename_i hc;rw[KY hc]at hl;exact#[hl,.str _,H,A,I.tok _,#[_,rfl],.refl,so,.str]
 | ref ea=>
  dsimp only[md]at e;split at e
  ·rename_i ws hw;cases e;obtain⟨vs,h1,r1⟩:=ba so hw ea;obtain⟨T,id,z1,z2,z3⟩:=yU J s Y H _ v vl vu lo hi sl (EndV X.w X.K A H (S++[.lst (du ws lo hi)]) (.ref S.length)) I rv hs pl pu #[_,_,rfl,h1,λp hp=>.lst so (mf r1) hp]
   exact#[T,id,z1,z2,aK z3 λ_ _=>EP.post]
  ·cases e
 | _=>cases e
def lset (hu:X.A.units+10 < cLine):LSet X vN:=by
 intro J s Y H A S o i x ao ai ax uo ui ux S' I so ro ruo ri rui rx rux e;cases ro with
 | ref ea=>cases ri with
  | int=>
   dsimp only[vN]at e;split at e
   ·rename_i ws hw;split at e
    ·rename_i j hj;cases e;obtain⟨vs,h1,r1⟩:=c7 so hw ea;rw[r1.length]at hj;obtain⟨so',ex⟩:=so.write (jJ hw) ea (r1.set rx j);exact aK (vf J s Y H _ _ _ uo ui ux (λH'=>H'=aE H _ (.lst (vs.set j ax))) I ruo rui rux #[_,_,_,_,rfl,rfl,h1,hj,rfl]) λ_ s' #[H',I',e']=>#[_,A,e' ▸ I',ex,so']
    ·cases e
   ·cases e
  | _=>cases e
 | _=>cases ri <;> cases e
abbrev tH (xs:Kg W)(S:aa):Kk (W×aa):=match xs with
 | [.tup ys]=>bt (.int ys.length,S)
 | [.str y]=>if y.length<=sizeLine then bt (.int y.length,S)else gV
 | [.ref i]=>(gF S i).map λys=>(.int ys.length,S)
 | _=>gV
def tJ:LCall X (.builtin "len") tH:=by
 intro J s Y H A S xs vs us w S' I so rl rv e;cases rl with
 | nil=>cases e
 | cons r t=>
  cases t with
  | cons _ _=>cases r <;> cases e
  | nil=>
   cases r with
   | tup h1 r1=>cases e; rw[r1.length]; exact CallR.go jx I rv #[_,_,rfl,.inr #[_,h1,rfl],.here so .int]
   | str=>
    dsimp only[tH]at e;split at e
    ·cases e; exact CallR.go jx I rv #[_,_,rfl,#[by assumption,rfl],.here so .int]
    ·cases e
   | ref ea=>
    (dsimp only[tH]at e; simp only[Ko]at e)
    obtain⟨ws,hw,e2⟩:=e;cases e2;obtain⟨vs',h1,r1⟩:=ba so hw ea;rw[r1.length];exact CallR.go jx I rv #[_,_,rfl,.inl #[_,h1,rfl],.here so .int]
   | _=>cases e
abbrev iP (xs:Kg W)(S:aa):Kk (W×aa):=match xs with
 | [x]=>match dY S x with
  | some ys=>bt (.ref S.length,S++[.lst ys])
  | none=>gV
 | _=>gV
def gj:LCall X (.type "list") iP:=by
 intro J s Y H A S xs vs us w S' I so rl rv e;cases rl with
 | nil=>cases e
 | cons r t=>
  cases t with
  | cons _ _=>cases e
  | nil=>
   dsimp only[iP]at e;split at e
   ·rename_i ys hy;cases e;obtain⟨p,vs',rfl,hq,r1⟩:=ma (J:=J) (Y:=Y) (s:=s) so r hy;exact CallR.go l5 I rv #[p,vs',rfl,hq,λl hl=>.lst so r1 hl]
   ·cases e
abbrev jM (xs:Kg W)(S:aa):Kk (W×aa):=match xs with
 | [.tup ys]=>bt (.tup ys,S)
 | [.ref i]=>match gF S i with
  | some ys=>bt (.tup ys,S)
  | none=>gV
 | _=>gV
def iQ:LCall X (.type "tuple") jM:=by
 intro J s Y H A S xs vs us w S' I so rl rv e;cases rl with
 | nil=>cases e
 | cons r t=>
  cases t with
  | cons _ _=>cases r <;> cases e
  | nil=>
   cases r with
   | tup h1 r1=>cases e; exact CallR.go fP I rv #[_,_,rfl,.inr #[h1,.here so (.tup h1 r1)]]
   | ref ea=>
    dsimp only[jM]at e;split at e
    ·rename_i ys hy;cases e;obtain⟨vs',h1,r1⟩:=ba so hy ea;exact CallR.go fP I rv #[_,_,rfl,.inl #[h1,λl hl=>.tup so r1 hl]]
    ·cases e
   | _=>cases e
abbrev FC (xs:Kg W)(S:aa):Kk (W×aa):=match xs with
 | [.int i]=>bt (.int i,S)
 | [.bl b]=>bt (.int (if b then 1 else 0),S)
 | _=>gV
def tK:LCall X (.type "int") FC:=by
 intro J s Y H A S xs vs us w S' I so rl rv e;cases rl with
 | nil=>cases e
 | cons r t=>
  cases t with
  | cons _ _=>cases r <;> cases e
  | nil=>
   cases r with
   | int=>cases e; exact CallR.go kY I rv (.inl #[_,rfl,.here so .int])
   | bl=>cases e; exact CallR.go kY I rv (.inr #[_,rfl,.here so .int])
   | _=>cases e
abbrev gH (x:W)(xs:Kg W)(S:aa):Kk (W×aa):=match x,xs with
 | .ref i,[y]=>match nk S i with
  | some ys=>if ys.length < sizeLine then bt (.non,S.set i (.lst (ys++[y])))else gV
  | none=>gV
 | _,_=>gV
def lq {i:Kt}{p:Kn}{ws ws0:Kg W}{us:Kg V}(so:StoreOk X.w X.K A H S)(e:nk S i=bt ws0)(ea:A[i]?=bt p)(r:RelL X.K A H ws us){w:W}{v:V}(rw':Rel X.K A H w v) :
  EndV X.w X.K A H (S.set i (.lst ws)) w v (aE H p (.lst us)):=by
 obtain⟨so',ex⟩:=so.write (jJ e) ea r;exact#[A,ex,so',rw'.mono ex]
def ml:LMeth X "list.append" gH:=by
 intro J s Y H A S x a u xs vs us w S' I so rx ru rl rv e;cases rx with
 | ref ea=>
  cases rl with
  | nil=>cases e
  | cons r t=>
   cases t with
   | cons _ _=>cases e
   | nil=>
    dsimp only[gH]at e;split at e
    ·rename_i ys hy;split at e
     ·rename_i hl;cases e;obtain⟨vs',h1,r1⟩:=c7 so hy ea;rw[r1.length]at hl;exact MtR.go sW I ru rv #[_,_,_,rfl,rfl,h1,hl,lq so hy ea (r1.append #v[r]) .non]
     ·cases e
    ·cases e
 | _=>cases e
abbrev jf (x:W)(xs:Kg W)(S:aa):Kk (W×aa):=match x,xs with
 | .ref i,[.ref j]=>match nk S i,nk S j with
  | some ys,bt zs=>if ys.length+zs.length<=sizeLine then bt (.non,S.set i (.lst (ys++zs)))else gV
  | _,_=>gV
 | _,_=>gV
def mn:LMeth X "list.extend" jf:=by
 intro J s Y H A S x a u xs vs us w S' I so rx ru rl rv e;cases rx with
 | ref ea=>
  cases rl with
  | nil=>cases e
  | cons r t=>
   cases t with
   | cons _ _=>cases r <;> cases e
   | nil=>
    cases r with
    | ref eb=>
     dsimp only[jf]at e;split at e
     ·rename_i ys zs hy hz;split at e
      ·rename_i hl;cases e;obtain⟨vs',h1,r1⟩:=c7 so hy ea;obtain⟨vs2,h2,r2⟩:=c7 so hz eb;rw[r1.length,r2.length]at hl;exact MtR.go sX I ru rv #[_,_,_,_,rfl,rfl,h1,h2,hl,lq so hy ea (r1.append r2) .non]
      ·cases e
     ·cases e
    | _=>cases e
 | _=>cases e
abbrev io:Kg W->Kk (Kg Ks)
 | []=>bt []
 | .str x::xs=>(io xs).map (x :: ·)
 | _::_=>gV
abbrev rB (x:W)(xs:Kg W)(S:aa):Kk (W×aa):=match x,xs with
 | .str x,[y]=>match dY S y with
  | some ys=>match io ys with
   | some zs=>if (zs.map (·.length)).sum+zs.length*x.length<=16777216 then bt (.str (SM x zs),S)else gV
   | none=>gV
  | none=>gV
 | _,_=>gV
def jN:∀ {ws:Kg W} {vs:Kg V} {us:Kg Ki} {zs:Kg Ks},RelL X.K A H ws vs->Vals vs us->io ws=bt zs->PB us zs
 | _,_,_,zs,.nil,.nil,e=>by cases e; exact .nil
 | _,_,_,zs,.cons r t,.cons q p,e=>by
  cases r with
  | str=>
   (dsimp only[io]at e; simp only[Ko]at e)
   obtain⟨z,e1,e2⟩:=e;subst e2;obtain⟨tk,rfl⟩ : ∃t,_=MQ _ t:=q;exact .cons _ tk (jN t p e1)
  | _=>cases e
def pW:LMeth X "str.join" rB:=by
 intro J s Y H A S x a u xs vs us w S' I so rx ru rl rv e;cases rx with
 | str=>
  cases rl with
  | nil=>cases e
  | cons r t=>
   cases t with
   | cons _ _=>cases e
   | nil=>
    simp only[rB]at e;split at e
    ·rename_i ys hy;split at e
     ·rename_i zs hz;split at e
      ·rename_i hl;cases e;obtain⟨p,vs',rfl,hq,r1⟩:=ma (J:=J) (Y:=Y) (s:=s) so r hy;obtain⟨t0,rfl⟩ : ∃t,u=MQ _ t:=ru;obtain⟨u1,rfl,ru1⟩:=jw rv;have ru1':u1=KZ p:=ru1;subst ru1';rcases hq with hq|hq
       ·obtain⟨its,rr,pl,hz'⟩:=I.list hq;exact join_list pl.isList (by simpa using jN r1 rr hz) hl λt' k=>#[.str _,H,A,I.tok _,#[_,rfl],.refl,so,.str]
       ·obtain⟨its,rr,pl,hz'⟩:=I.tuple hq;exact join_tuple pl (by simpa using jN r1 rr hz) hl λt' k=>#[.str _,H,A,I.tok _,#[_,rfl],.refl,so,.str]
      ·cases e
     ·cases e
    ·cases e
 | _=>cases e
abbrev eI (S:aa):W->Kk KR
 | .non=>bt false
 | .bl b=>bt b
 | .int i=>bt (i != 0)
 | .str y=>if y.length<=sizeLine then bt ((y.length:KD) != 0)else gV
 | .tup xs=>bt (!xs.isEmpty)
 | .ref i=>(gF S i).map λxs=>!xs.isEmpty
def iR {ws:Kg W}{vs:Kg V}(r:RelL X.K A H ws vs):(!ws.isEmpty) = !vs.isEmpty:=by cases r <;> rfl
def IG {x:W}{a:V}{u:Ki}{k:KR}{Q:KR->Km->Prop}(I:Inv X J Y H s)(so:StoreOk X.w X.K A H S)(rx:Rel X.K A H x a)(ru:RelV a u)(e:eI S x=bt k)(hq:∀s',Inv X J Y H s'->Q k s') :
  wpAny (model X.prog X.w) X.A (truthy u) Q X.xe s:=by
 show aK (Cu J s Y H a u (λb H'=>b=k/\H'=H) I ru #[k,?_,rfl,rfl]) λb s' #[H',I',e1,e2]=>?_
 ·cases rx with
  | non=>cases e; rfl
  | bl=>cases e; rfl
  | int=>cases e; rfl
  | str=>
   simp only[eI]at e;split at e
   ·cases e; exact#[by assumption,rfl]
   ·cases e
  | tup h1 r1=>cases e; exact .inr (.inl #[_,h1,iR r1])
  | ref ea=>
   simp only[eI,Ko]at e;obtain⟨ws,hw,e2⟩:=e;subst e2;obtain⟨vs,h1,r1⟩:=ba so hw ea;exact .inl #[_,h1,iR r1]
 ·subst e1 e2;exact hq s' I'
end
abbrev iY (xs:Kg Ks)(x:Ks):Kg Ks:=if x∈xs then xs else xs++[x]
abbrev bL (ss:Kg Ks):Kg Ks:=ss.foldl iY []
def tL {ss:Kg Ks}{x:Ks}:bL (ss++[x])=iY (bL ss) x:=by unfold bL; rw[List.foldl_append]; rfl
def vO {xs:Kg Ks}{x:Ks}:(iY xs x).length<=xs.length+1:=by
 unfold iY;split
 ·exact MF _
 ·simp
def jO:∀ss:Kg Ks,(bL ss).length<=ss.length:=λss=>by
 unfold bL
 suffices h:∀(ss acc:Kg Ks),(ss.foldl iY acc).length<=acc.length+ss.length by simpa using h ss []
 intro ss
 induction ss with
 | nil=>intro acc; simp
 | cons x ss ih=>
  intro acc;have h1:=ih (iY acc x);have h2:=vO (xs:=acc) (x:=x);simp only[Pb,Lh];omega
abbrev bP (w:KS):LJ:={ cls:=.type "set",dict:=gV,data:=.set #[] 0 (.fresh 0 0 (!gf w)) }
def tM {w:KS}:cq w [] (bP w):=#[#[rfl,rfl,rfl],#[],0,_,rfl,#[λe he=>by simp at he,by simp,.nil,#v[],rfl,rfl,λ_=>rfl]]
section
variable{prog:KF}{w:KS}{A:K1}{E:Ki->Km->Prop}{s:Km}{R:Pl->Km->Prop}{I:Kn}{fp wr:Kg Kn}{G:Ls Ow->Ls Ow->Prop}{n:Kt}{P:Kt->Ki->Prop}{St:Kt->Km->Prop}
def vP (W:WalksS prog w A.in1 I fp wr G n P St){D:Kn}(hD:D∉fp){ss:Kg Ks}(hl:ss.length=n)(hP:∀i v,P i v->∃x tk,ss[i]?=bt x/\v=.str x tk)(hb:n+1 < scanBound) :
  ∀(k i:Kt) (s:Km) (o:LJ),n - i=k->i<=n->St i s->s.heap.get? D=bt o->cq w (bL (ss.take i)) o->
   (∀s' o',Moved (D::wr) G s s'->s'.heap.get? D=bt o'->cq w (bL ss) o'->R (.ok (.ret .none)) s')->codeAny (model prog w) A (.builtin "set.update.loop" #[[.ref D,.ref I],[]]) R s:=by
 have hw:D∉wr:=λz=>hD (W.sub _ z)
 have up:∀b∈wr,b∈D::wr:=λb z=>KM _ z
 intro k
 induction k with
 | zero=>
  intro i s o hk hi st ho hS hR;obtain rfl:i=n:=∅
  show Mt F.entry_set_update_loop ?_;rw[L3 F.plain_set_update_loop _];change wpAny _ A.in1 (pyNext (.ref I) >>= _) _ _ s;show Kh (W.done s _ _ st λs' mv=>?_)
  exact Kq (hR s' o (mv.mono up) (mv.heap D _ hw ho) (by rw[L6 ∅]at hS; exact hS))
 | succ k ih=>
  intro i s o hk hi st ho hS hR;have hlt:i < n:=∅
  show Mt F.entry_set_update_loop ?_;rw[L3 F.plain_set_update_loop _];change wpAny _ A.in1 (pyNext (.ref I) >>= _) _ _ s;show Kh (W.item i s _ _ hlt st λv s1 pv st1 mv=>?_)
  obtain⟨x,tk,hx,rfl⟩:=hP i v pv;change wpAny _ A.in1 (holding [MQ x tk] (setAdd D (.str x tk)) >>= _) _ _ s1;show Kh (Ly ?_);unfold setAdd;show Ly (Kh (QK ?_));have hlen:(bL (ss.take i)).length+1 < scanBound:=by
   have:=jO (ss.take i);rw[LS]at this;omega
  have o1:s1.heap.get? D=bt o:=mv.heap D _ hw ho;show zj (s:={ s1 with toks:=s1.toks+1 }) o1 hS hlen λb h' o' sb ho' hS'=>?_
  show Kq #[NK F.plain_set_update_loop _,ih (i+1) { s1 with heap:=h',toks:=s1.toks+1 } o' ∅ hlt (W.frame _ s1 _ _ st1 (MF _) λc hc u q=>?_) ho' ?_ λs2 o2 mv2 ho2 hS2=>?_]
  ·rw[sb.2 c λz=>hD (z ▸ hc)]; exact q
  ·rw[Pn,hx];change cq w (bL (ss.take i++[x])) o';rw[tL];exact hS'
  ·show hR s2 o2 (Moved.trans W.gtrans ((mv.mono up).then_heap (MF _) λc u hc q=>?_) mv2) ho2 hS2
   rw[sb.2 c λz=>hc (z ▸ KP)]
   exact q
def vQ (a:Ki){Q₁:Ki->Km->Prop}(h:Q₁ (.ref s.heap.objs.size) { s with heap:=s.heap.push (bP w) }):codeAny (model prog w) A (.call (.builtin "set.__new__") #[[.type "set",a],[]]) (wants Q₁ E) s:=by
 show Oj ?_;change wpAny _ A.in1 (checkBuiltinCall "set.__new__" #[[.type "set",a],[]] >>= λ_=>again (.builtin "set.__new__" #[[.type "set",a],[]])) _ _ s
 show Kh (Po (F.newCall_set_1 a) (Kq #[NK F.plain_set_new _,Mt F.entry_set_new ?_]));rw[L3 F.plain_set_new _];unfold M4.«set.__new__» RJ;have hsub:=Qb;obtain⟨hp,g,d,tk,os⟩:=s;dsimp only
 wp_walk
 show Nj (Kq ?_);dsimp only;simp only[newObj];exact Kh (SN (Kq (Kq h)))
set_option maxHeartbeats 4000000 in
def vR {l:Kn}{its:Ls Ki}{ss:Kg Ks}{Q:Ki->Km->Prop}(hh:A.handled=gV)(hl:s.heap.IsList l its)(hi:PB its.toList ss)(hb:ss.length+1 < scanBound)
  (h:∀h' tk o,h'.get? s.heap.objs.size=bt o->cq w (bL ss) o->(∀b u,s.heap.get? b=bt u->h'.get? b=bt u)->Q (.ref s.heap.objs.size) { s with heap:=h',toks:=tk }):wpAny (model prog w) A (call (.type "set") [.ref l]) Q E s:=by
 obtain⟨c,tl,hmro⟩:=F.called_set.mro;have hmade:=F.called_set.made;have hsub:=F.called_set.sub;have hn1:=F.called_set.notType;have hn2:=F.called_set.canCreate;have hct:=F.typeCall_set_1 (.ref l);show NC (Oj ?_);change wpAny _ _ (callAny (.type "set") _) _ _ _;show Kq #[OD _ (by decide +kernel),Mt F.entry_type_call ?_]
 rw[Around.under_plain (weight_type_call_type "set" [.ref l] []) rfl]
 repeat (any_goals (first|assumption|wp_step))
 show MO (vQ (w:=w) (.ref l) (E:=E) (Q₁:=λobj s1=>obj=.ref s.heap.objs.size/\s1={ s with heap:=s.heap.push (bP w) }) #[rfl,rfl]) λr s1 hr=>?_
 match r,hr with
 | .ok (.ret obj),hr=>
  obtain⟨rfl,rfl⟩:=hr;have oS:(s.heap.push (bP w)).get? s.heap.objs.size=bt (bP w):=KA _ rfl;have tS:Shared.TypeIs { s with heap:=s.heap.push (bP w) } (.ref s.heap.objs.size) "set":=#[_,oS,rfl]
  have hli:=F.called_set.init.lookup;have hbi:=F.called_set.init.bind (.ref s.heap.objs.size)
  repeat (any_goals (first|assumption|wp_step))
  show MO (M5 (R:=wants (λr s2=>r=.none/\∃h' tk o,s2={ s with heap:=h',toks:=tk }/\h'.get? s.heap.objs.size=bt o/\cq w (bL ss) o/\∀b u,s.heap.get? b=bt u->h'.get? b=bt u) E) F.called_set.init.plain F.entry_set_init (check_set_init_1 tS ?_)) λr2 s2 hr2=>?_
  ·obtain⟨⟨oc,od,ot,osl⟩,hol,hcl,nl,hdl⟩:=id hl;simp only at hcl hdl;subst hcl hdl;have hol1:=Kl (bP w) hol;have l1:(s.heap.push (bP w)).IsList l its:=#[_,hol1,rfl,nl,rfl];have e1:=F.sub_list_set;have e2:=F.sub_list_frozenset;have e3:(Mn "list" == Mn "dict")=false:=by decide
   unfold M4.«set.__init__» noKeywords Ri;generalize hPI:pyIter=PI
   wp_walk
   subst hPI;show N8 l1 (Kh (Pp ?_));have ls:l < s.heap.objs.size:=Ky hol;have sz:(s.heap.push (bP w)).objs.size=s.heap.objs.size+1:=LC ..;have ne:l≠(s.heap.push (bP w)).objs.size:=by rw[sz]; exact KH (LQ ls)
   show vP ((Ti (A:=A.in1.in1.in1) (by simp[hh]) _ l ne its).toS) (D:=s.heap.objs.size) (ss:=ss) (by rw[sz]; simp only[Kx,K6,L8,QU]; exact#[KH (Ln _),K9 ls]) (by rw[<- hi.length,K3]) (λi v q=>?_) (by rw[<- K3,hi.length]; exact hb) _ 0 _ (bP w) rfl (MP _)
    #[#[_,KA _ rfl,rfl,rfl],l1.push _] (Kl _ oS) tM λs3 o3 mv ho3 hS3=>?_
   ·obtain⟨x,tk,e,hx⟩:=hi.item i v (by rw[LH]; exact q)
    exact#[x,tk,hx,e]
   ·rw[Sc mv];show Kq (Kq #[rfl,s3.heap,s3.toks,o3,rfl,ho3,hS3,λb u q=>?_])
    have hb:=Ky q;exact mv.heap b u (by rw[sz]; simp only[Kx,K6,L8,QU]; exact#[KH hb,KH (LQ hb)]) (Kl _ (Kl _ q))
  ·match r2,hr2 with
   | .ok (.ret r),hr2=>
    obtain⟨rfl,h',tk,o,rfl,g1,g2,g3⟩:=hr2
    repeat (any_goals (first|assumption|wp_step))
    exact h h' tk o g1 g2 g3
   | .ok .next,hr2=>exact hr2.elim
   | .ok .brk,hr2=>exact hr2.elim
   | .ok .cont,hr2=>exact hr2.elim
   | .error e,hr2=>exact hr2
 | .ok .next,hr=>exact hr.elim
 | .ok .brk,hr=>exact hr.elim
 | .ok .cont,hr=>exact hr.elim
 | .error e,hr=>exact hr
end
def eJ:Slot "set_iterator" "__next__" "set_iterator.__next__":=.of (owner:="set_iterator") (n:="__next__") (by rw[Rj,Pk]; kernel_rfl) (by decide +kernel) (by decide +kernel) (by decide +kernel) (by first|exact .inl (by decide +kernel)|exact .inr (by decide +kernel)) (by rw[RM]; kernel_rfl)
def nJ:Slot "set_iterator" "__iter__" "set_iterator.__iter__":=.of (owner:="set_iterator") (n:="__iter__") (by rw[Rj,Pk]; kernel_rfl) (by decide +kernel) (by decide +kernel) (by decide +kernel) (by first|exact .inl (by decide +kernel)|exact .inr (by decide +kernel)) (by rw[RM]; kernel_rfl)
def tN:entryFor table "set_iterator.__next__" = bt M4.«set_iterator.__next__»:=entryFor_of_tree (by kernel_rfl)
def pX:entryFor table "set.__iter__" = bt M4.«frozenset.__iter__»:=RN (id':="frozenset.__iter__") (by kernel_rfl) rfl (by decide +kernel) (by kernel_rfl)
def vS (a:Ki):argsOk "set_iterator.__next__" #[[a],[]]:=by unfold argsOk; kernel_rfl
section
variable{α:Type}{prog:KF}{w:KS}{A:K1}{E:Ki->Km->Prop}{s:Km}
def tP {src:Source}{n:Kt}{Q:Kt->Km->Prop}(hn:n≠0)(h:∀i dr,i < n->Q i { s with drawn:=dr }):wpAny (model prog w) A (choose src n) Q E s:=λ_ _ _=>#[hn,h _ _ (Tj _ (Nat.pos_of_ne_zero hn))]
def jP:∀ {l:Kg α} {i:Kt} (h:i < l.length),(l[i]::l.eraseIdx i).Perm l
 | x::l,0,_=>.refl _
 | x::l,i+1,h=>(TM _ _ _).trans ((jP (l:=l) (i:=i) (by simpa using h)).cons x)
def jQ:∀(n:Kt) (xs:Kg α) {s:Km} {Q:Kg α->Km->Prop},xs.length=n->(∀ys dr,ys.Perm xs->Q ys { s with drawn:=dr })->wpAny (model prog w) A (drawOrder n xs) Q E s
 | 0,xs,s,Q,hl,h=>by
  obtain rfl:=MJ.mp hl;exact Kq (h [] s.drawn .nil)
 | n+1,[],s,Q,hl,h=>by cases hl
 | n+1,x::xs,s,Q,hl,h=>by
  unfold drawOrder;show Kh (tP (by simp) λi dr hi=>?_)
  rw[KT hi];dsimp only;show Kh (jQ n _ (by rw[OH hi,hl]; rfl) λys dr' hp=>Kq (h _ dr' ?_))
  exact(hp.cons _).trans (jP hi)
def rC {next:Kt->Kt}:∀(f k:Kt) (lf9:Kg α) (out:Ls α),f=lf9.length->(pickOrder.go next f k lf9 out).toList.Perm (out.toList++lf9)
 | 0,k,lf9,out,h=>by
  obtain rfl:=MJ.mp h.symm;simp[pickOrder.go]
 | f+1,k,lf9,out,h=>by
  unfold pickOrder.go;have hp:0 < lf9.length:=∅
  have hi:next k % lf9.length < lf9.length:=Tj _ hp;rw[KT hi];dsimp only;show(rC f (k+1) _ _ (by rw[OH hi]; omega)).trans ?_
  rw[QC,N3];exact(jP hi).append_left _
def fu {next:Kt->Kt}{xs:Ls α}:(pickOrder next xs).toList.Perm xs.toList:=by
 have:=rC (next:=next) xs.size 0 xs.toList #[] (by simp)
 simpa [pickOrder]using this
abbrev SIt (I:Kn)(f r:Ki)(i n ep:Kt)(h:K7):Prop:=h.get? I=bt { cls:=.type "set_iterator",data:=.fields [f,.int i 0,r,.int n 0,.int ep 0].toArray }
def SIt.type {I:Kn}{f r:Ki}{i n ep:Kt}(x:SIt I f r i n ep s.heap):s.TypeIs (.ref I) "set_iterator":=#[_,x,rfl]
def nK {I:Kn}{Q:Kk Ki->Km->Prop}{f r:Ki}{i n ep:Kt}(x:SIt I f r i n ep s.heap)(h:wpAny (model prog w) A.in1 (M4.«set_iterator.__next__» #[[.ref I],[]]) (λfin s'=>∃v,fin=.done (.ret v)/\Q (bt v) s') (λe s'=>wpAny (model prog w) A (do if <- isInstance e (.type "StopIteration")then pure gV else throw e) Q E s') s):wpAny (model prog w) A (pyNext (.ref I)) Q E s:=by
 unfold pyNext;show Kh (Nb (Lx (name:=LY "__next__") x.type eJ (LL eJ x.type tN ?_ (vS _))));exact Lf h (λ_ _ #[v,e,q]=>#[v,e,Kq q]) λ_ _ q=>q
abbrev FD (prog:KF)(w:KS)(A:K1)(Q:Kk Ki->Km->Prop)(E:Ki->Km->Prop)(e:Ki)(s':Km):Prop:=wpAny (model prog w) A (do if <- isInstance e (.type "StopIteration")then pure gV else throw e) Q E s'
def nL {Q:Kk Ki->Km->Prop}{Q2:PySem.Fin->Km->Prop}(hh:A.handled=gV)(h:∀h',(∀b o,s.heap.get? b=bt o->h'.get? b=bt o)->Q gV { s with heap:=h' }):wpAny (model prog w) A.in1 (newExc (.type "StopIteration") [] >>= λx=>raiseNew x) Q2 (FD prog w A Q E) s:=by
 show Kh ?_;simp only[newExc,newTuple];show Kh (Lg ?_ (by size_fits))
 show Kh (m:=firstArgMember _ _) (Po (a:=LA) (by first|rfl|(simp only[firstArgMember]; rfl)) ?_)
 show Lg ?_ (by size_fits)
 simp only[raiseNew];show Kh (Sd ?_);rw[show A.in1.handled=gV from hh]
 show Kh (Kq (SO ?_));show Kh (Oe (T:="StopIteration") (b:=true) #[_,KA _ rfl,rfl] Pq ?_);exact Kq (h _ λb o e=>Kl _ (Kl _ e))
section
variable{I a:Kn}{f r:Ki}{i n ep sl:Kt}{o:LJ}{es:Ls (KD×Ki)}{t:ND}{Q:Kk Ki->Km->Prop}
def fw {Q:Ra->Km->Prop}{vs:Ls Ki}{k:Kt}{v:Ki}(x:s.heap.get? I=bt { cls:=.type "set_iterator",data:=.fields vs })(hk:k < vs.size)(h:∀h',h'.get? I=bt { cls:=.type "set_iterator",data:=.fields (vs.setIfInBounds k v) }->M2 I s.heap h'->Q () { s with heap:=h' }):wpAny (model prog w) A (setField (.ref I) k v) Q E s:=MU x hk h
def fA (x:SIt I (.int sl 0) (.ref a) i n ep s.heap)(ho:s.heap.get? a=bt o)(hd:o.data=.set es ep t)(hf:t.fits es.size=true)(hn:es.size=n)(hh:A.handled=gV){rs:Kk (Ki×Kt)}
  (hx:∀Q':Kk (Ki×Kt)->Km->Prop,Q' rs s->wpAny (model prog w) A.in1 (setNext a sl i ep) Q' (FD prog w A Q E) s)
  (h1:∀v sl',rs=bt (v,sl')->∀h',SIt I (.int sl' 0) (.ref a) (i+1) n ep h'->(∀b o,b≠I->s.heap.get? b=bt o->h'.get? b=bt o)->Q (bt v) { s with heap:=h' })
  (h2:rs=gV->∀h',(∀b o,b≠I->s.heap.get? b=bt o->h'.get? b=bt o)->Q gV { s with heap:=h' }):wpAny (model prog w) A (pyNext (.ref I)) Q E s:=by
 show nK x ?_;show Kh (Kq ?_);change wpAny _ _ (fieldsOf (.ref I) >>= _) _ _ s;show Kh (RO x rfl ?_);show Kh (Oo ho hd hf ?_);rw[KY (by simp[hn])]
 show Kh (hx _ ?_);cases rs with
 | some p=>
  obtain⟨v,sl'⟩:=p;dsimp only;show Kh (fw x (by simp) λh' x' sb'=>?_)
  show Kh (fw x' (by simp) λh2 x2 sb2=>?_)
  show Kq #[v,rfl,h1 v sl' rfl h2 ?_ λb o hb e=>?_]
  ·simpa [SIt,rawInt]using x2
  ·rw[sb2.2 b hb,sb'.2 b hb]; exact e
 | none=>
  dsimp only;show Kh (fw x (by simp) λh' x' sb'=>?_)
  show nL hh λh'' k=>h2 rfl h'' λb o hb e=>k b o (by rw[sb'.2 b hb]; exact e)
def lr {tp:Kn}{ps:Kg Kt}(x:SIt I (.ref tp) (.ref a) i n ep s.heap)(ho:s.heap.get? a=bt o)(hd:o.data=.set es ep t)(hf:t.fits es.size=true)(hn:es.size=n)(hh:A.handled=gV)
  (ht:s.heap.get? tp=bt { cls:=.type "tuple",data:=.seq (ps.map λk=>rawInt (k:Kt)).toArray 0 })
  (h1:∀p e,ps[i]?=bt p->es[p]?=bt e->∀h',SIt I (.ref tp) (.ref a) (i+1) n ep h'->(∀b o,b≠I->s.heap.get? b=bt o->h'.get? b=bt o)->Q (bt e.2) { s with heap:=h' })
  (hp:∀p,ps[i]?=bt p->∃e,es[p]?=bt e)
  (h2:ps[i]?=gV->∀h',(∀b o,b≠I->s.heap.get? b=bt o->h'.get? b=bt o)->Q gV { s with heap:=h' }):wpAny (model prog w) A (pyNext (.ref I)) Q E s:=by
 show nK x ?_;show Kh (Kq ?_);change wpAny _ _ (fieldsOf (.ref I) >>= _) _ _ s;show Kh (RO x rfl ?_);show Kh (Oo ho hd hf ?_);rw[KY (by simp[hn])]
 show Kh (Nk ht rfl ?_);dsimp only;have hg:(ps.map λk=>rawInt (k:Kt)).toArray[(i:KD).toNat]?=(ps[i]?).map λk=>rawInt (k:Kt):=by simp
 rw[hg];cases q:ps[i]? with
 | some p=>
  obtain⟨e,he⟩:=hp p q;change wpAny _ _ (setNextDrawn a (p:KD).toNat (ep:KD).toNat >>= _) _ _ s;unfold setNextDrawn;show Kh (Kh (MH ho hd hf ?_));dsimp only;rw[KY (by simp)]
  simp only[LX,he];show Kq ?_;show Kh (fw x (by simp) λh' x' sb'=>?_)
  show Kq #[e.2,rfl,h1 p e q he h' ?_ λb o hb z=>?_]
  ·simpa [SIt,rawInt]using x'
  ·rw[sb'.2 b hb]; exact z
 | none=>
  dsimp only[Rh];show Kh (fw x (by simp) λh' x' sb'=>?_)
  show Kh (fw x' (by simp) λh3 x3 sb3=>?_)
  show nL hh λh'' k=>h2 q h'' λb o hb e=>k b o (by rw[sb3.2 b hb,sb'.2 b hb]; exact e)
def lu {E:Ki->Km->Prop}{Q:Kk (Ki×Kt)->Km->Prop}(ho:s.heap.get? a=bt o)(hd:o.data=.set es ep t)(hf:t.fits es.size=true)(hb:gf w=true)(h:Q ((((pickOrder (w.params.setOrder a ep) es).toList.map (·.2))[i]?).map λv=>(v,sl)) s):wpAny (model prog w) A (setNext a sl i ep) Q E s:=by
 unfold setNext;show Kh (MH ho hd hf ?_);dsimp only;have ask1:∀ {Q:KR->Km->Prop},Q true s->wpAny (model prog w) A setsByText Q E s:=λ{Q} hq=>by
  unfold setsByText;show Kh (Nj (Kq ?_));change Q (gf w) s;rw[hb]; exact hq
 show Kh (ask1 ?_);rw[KQ rfl,KY (by simp)]
 show Kh ?_;unfold setWalk;show Kh (MH ho hd hf ?_);dsimp only;show Kh (ask1 ?_);rw[KQ rfl];show Kh (Nj (Kq (Kq ?_)));have e:(((pickOrder (w.params.setOrder a ep) es)[i]?).map λe=>(e.2,sl))=((((pickOrder (w.params.setOrder a ep) es).toList.map (·.2))[i]?).map λv=>(v,sl)):=by
  rw[K4,LH,RP]; rfl
 change Q (((pickOrder (w.params.setOrder a ep) es)[i]?).map λe=>(e.2,sl)) s
 rw[e]; exact h
def nM {E:Ki->Km->Prop}{Q:Kk (Ki×Kt)->Km->Prop}(ho:s.heap.get? a=bt o)(hd:o.data=.set es ep t)(hf:t.fits es.size=true)(hb:gf w=false)(hl:t.led=true)(h1:es.size<=1)(hi:i=0/\sl=0\/i=es.size/\sl=(t.place.getD 0 0)+1)
  (h:Q (((es.toList.map (·.2))[i]?).map λv=>(v,t.place.getD 0 0+1)) s):wpAny (model prog w) A (setNext a sl i ep) Q E s:=by
 unfold setNext;show Kh (MH ho hd hf ?_);dsimp only;have ask1:∀ {Q:KR->Km->Prop},Q false s->wpAny (model prog w) A setsByText Q E s:=λ{Q} hq=>by
  unfold setsByText;show Kh (Nj (Kq ?_));change Q (gf w) s;rw[hb]; exact hq
 show Kh (ask1 ?_);rw[KY KL];show MZ (λhc=>absurd hc (by change ¬ ((!t.plain&&decide (es.size > 1))=true); simp; omega)) (λ_=>?_)
 show Kh ?_;change wpAny _ _ (if (!t.led && !es.isEmpty)=true then unsupported "set:maker-not-led" else pure ()) _ _ s
 rw[KY (by simp[hl])]
 show Kq (Kq ?_);obtain⟨es⟩:=es;obtain⟨mk,pl,dm,fg,ld,mv,pn⟩:=t;obtain⟨pl⟩:=pl;simp only[Se,Kj,Mx]at hf
 match es,pl,hf.1,h1 with
 | [],[],_,_=>
  have:i=0:=by rcases hi with z|z <;> simpa using z.1
  subst this;exact h
 | [e],[j],_,_=>
  rcases hi with⟨rfl,rfl⟩|⟨rfl,rfl⟩
  ·exact h
  ·have e1:Nh [j].toArray (j+1)=1:=by
    change QD [j].toArray (j+1) 1 0 1=1;simp[QD]
   have e2:(({ mask:=mk,place:=[j].toArray,dummies:=dm,finger:=fg,led:=ld,moves:=mv,plain:=pn }:ND).place.getD 0 0)=j:=rfl;change Q (match ([e].toArray:Ls (KD×Ki))[Nh [j].toArray (j+1)]?,([j].toArray:Ls Kt)[Nh [j].toArray (j+1)]? with|some (_,x),bt j=>bt (x,j+1)|_,_=>gV) s
   rw[e1];exact h
 | e::e'::es,_,_,z=>simp at z
 | [],_::_,z,_=>simp at z
 | [_],[],z,_=>simp at z
 | [_],_::_::_,z,_=>simp at z
def jR {E:Ki->Km->Prop}{Q:Kk (Ki×Kt)->Km->Prop}(ho:s.heap.get? a=bt o)(hd:o.data=.set es ep t)(hf:t.fits es.size=true)(hb:gf w=false)(hl:t.led=true)(hp:t.plain=true)(hw:Nh t.place sl=i)
  (h:Q (((es.toList.map (·.2))[i]?).map λv=>(v,t.place.getD i 0+1)) s):wpAny (model prog w) A (setNext a sl i ep) Q E s:=by
 unfold setNext;show Kh (MH ho hd hf ?_);dsimp only;have ask1:∀ {Q:KR->Km->Prop},Q false s->wpAny (model prog w) A setsByText Q E s:=λ{Q} hq=>by
  unfold setsByText;show Kh (Nj (Kq ?_));change Q (gf w) s;rw[hb]; exact hq
 show Kh (ask1 ?_);rw[KY KL];show MZ (λhc=>absurd hc (by change ¬ ((!t.plain&&decide (es.size > 1))=true); simp[hp])) (λ_=>?_)
 show Kh ?_;change wpAny _ _ (if (!t.led && !es.isEmpty)=true then unsupported "set:maker-not-led" else pure ()) _ _ s
 rw[KY (by simp[hl])]
 show Kq (Kq ?_);rw[hw];have hz:t.place.size=es.size:=by
  simp only[Se,Kj,Mx]at hf;exact hf.1
 rw[K4,LH]at h
 by_cases hi:i < es.size
 ·have e1:es[i]?=bt es[i]:=by simp[hi]
  have e2:t.place[i]?=bt (t.place.getD i 0):=by simp[RQ,hz,hi]
  rw[e1]at h ⊢;rw[e2];exact h
 ·have e1:es[i]?=gV:=by simp; omega
  rw[e1]at h ⊢;exact h
end
end
def tQ:entryFor table "set_iterator.__iter__" = bt M4.«dict_keyiterator.__iter__»:=RN (id':="dict_keyiterator.__iter__") (by kernel_rfl) rfl (by decide +kernel) (by kernel_rfl)
def vT (a:Ki):argsOk "set_iterator.__iter__" #[[a],[]]:=by unfold argsOk; kernel_rfl
section
variable{prog:KF}{w:KS}{A:K1}{E:Ki->Km->Prop}{s:Km}{I a tp:Kn}{f r:Ki}{i n ep sl:Kt}{o:LJ}{es:Ls (KD×Ki)}{t:ND}
def gI {Q:Ki->Km->Prop}(x:SIt I f r i n ep s.heap)(h:Q (.ref I) s):wpAny (model prog w) A (pyIter (.ref I)) Q E s:=by
 show QE x.type nJ (LL nJ x.type tQ ?_ (vT _));change wpAny _ _ (ret (.ref I)) _ _ s;exact Kq #[_,rfl,"set_iterator",_,x.type,eJ.lookup,h]
def nN {b x y:Kn}(h:b∉[x]):b≠x:=λz=>h (by simp[z])
def pY (hh:A.handled=gV)(hne:a≠I)(hd:o.data=.set es ep t)(hf:t.fits es.size=true)(hb:gf w=true) :
  SQ prog w A I [I,a] [I] es.size (λi v=>((pickOrder (w.params.setOrder a ep) es).toList.map (·.2))[i]?=bt v) (λi h=>SIt I (.int 0 0) (.ref a) i es.size ep h/\h.get? a=bt o) where
 sub:=λb hb=>by simp at hb; simp[hb]
 frame:=λ_ _ _ st hk=>#[hk I (by simp) _ st.1,hk a (by simp) _ st.2]
 item:=λi s Q E hi st hQ=>by
  have hl:((pickOrder (w.params.setOrder a ep) es).toList.map (·.2)).length=es.size:=by rw[Kv,fu.length_eq,K3]
  show fA (sl:=0) st.1 st.2 hd hf rfl hh (λQ' hq=>lu st.2 hd hf hb hq) (λv sl' e h' x' k=>?_) λe h' k=>?_
  ·obtain⟨v',q,e⟩:=Ko.mp e;cases e;exact hQ v h' s.toks q #[x',k a _ hne st.2] λb o hb e=>k b o (nN (y:=b) hb) e
  ·rw[No,Ll]at e;omega
 done:=λs Q E st hQ=>by
  have hl:((pickOrder (w.params.setOrder a ep) es).toList.map (·.2)).length=es.size:=by rw[Kv,fu.length_eq,K3]
  show fA (sl:=0) st.1 st.2 hd hf rfl hh (λQ' hq=>lu st.2 hd hf hb hq) (λv sl' e h' x' k=>?_) λe h' k=>hQ h' s.toks λb o hb e=>k b o (nN (y:=b) hb) e
  obtain⟨v',q,e⟩:=Ko.mp e;have:=(KB.mp q).1;omega
 self:=λ_ _ _ _ st hQ=>gI st.1 hQ
def tR (hh:A.handled=gV)(hne:a≠I)(hd:o.data=.set es ep t)(hf:t.fits es.size=true)(hb:gf w=false)(hl:t.led=true)(h1:es.size<=1) :
  SQ prog w A I [I,a] [I] es.size (λi v=>(es.toList.map (·.2))[i]?=bt v) (λi h=>SIt I (.int ((if i=0 then 0 else t.place.getD 0 0+1:Kt):KD) 0) (.ref a) i es.size ep h/\h.get? a=bt o) where
 sub:=λb hb=>by simp at hb; simp[hb]
 frame:=λ_ _ _ st hk=>#[hk I (by simp) _ st.1,hk a (by simp) _ st.2]
 item:=λi s Q E hi st hQ=>by
  have i0:i=0:=∅
  subst i0;show fA st.1 st.2 hd hf rfl hh (λQ' hq=>nM st.2 hd hf hb hl h1 (.inl #[rfl,rfl]) hq) (λv sl' e h' x' k=>?_) λe h' k=>?_
  ·obtain⟨v',q,e⟩:=Ko.mp e;cases e;exact hQ v h' s.toks q #[x',k a _ hne st.2] λb o hb e=>k b o (nN (y:=b) hb) e
  ·rw[No,Ll,Kv,K3]at e;omega
 done:=λs Q E st hQ=>by
  show fA st.1 st.2 hd hf rfl hh (λQ' hq=>nM st.2 hd hf hb hl h1 ?_ hq) (λv sl' e h' x' k=>?_) λe h' k=>hQ h' s.toks λb o hb e=>k b o (nN (y:=b) hb) e
  ·by_cases h0:es.size=0
   ·exact .inl #[h0,by rw[KQ h0]]
   ·exact .inr #[rfl,by rw[KY h0]]
  ·obtain⟨v',q,e⟩:=Ko.mp e;have:=(KB.mp q).1;rw[Kv,K3]at this;omega
 self:=λ_ _ _ _ st hQ=>gI st.1 hQ
def nO (hh:A.handled=gV)(hne:a≠I)(hd:o.data=.set es ep t)(hf:t.fits es.size=true)(hb:gf w=false)(hl:t.led=true)(hp:t.plain=true)(hw:jI t es.size=true) :
  SQ prog w A I [I,a] [I] es.size (λi v=>(es.toList.map (·.2))[i]?=bt v) (λi h=>SIt I (.int ((if i=0 then 0 else t.place.getD (i - 1) 0+1:Kt):KD) 0) (.ref a) i es.size ep h/\h.get? a=bt o):=by
 have go:∀i,i<=es.size->Nh t.place (if i=0 then 0 else t.place.getD (i - 1) 0+1)=i:=λi hi=>by
  simp only[jI,Kj,KN,LN,NX]at hw
  by_cases h0:i=0
  ·rw[KQ h0,h0]; exact hw.1
  ·rw[KY h0,hw.2 (i - 1) ∅]; omega
 exact {
  sub:=λb hb=>by simp at hb; simp[hb]
  frame:=λ_ _ _ st hk=>#[hk I (by simp) _ st.1,hk a (by simp) _ st.2]
  item:=λi s Q E hi st hQ=>by
   show fA st.1 st.2 hd hf rfl hh (λQ' hq=>jR st.2 hd hf hb hl hp (go i ∅) hq) (λv sl' e h' x' k=>?_) λe h' k=>?_
   ·obtain⟨v',q,e⟩:=Ko.mp e;cases e;exact hQ v h' s.toks q #[by rw[KY (Nat.succ_ne_zero i)]; exact x',k a _ hne st.2] λb o hb e=>k b o (nN (y:=b) hb) e
   ·rw[No,Ll,Kv,K3]at e;omega
  done:=λs Q E st hQ=>by
   show fA st.1 st.2 hd hf rfl hh (λQ' hq=>jR st.2 hd hf hb hl hp (go _ (Kz _)) hq) (λv sl' e h' x' k=>?_) λe h' k=>hQ h' s.toks λb o hb e=>k b o (nN (y:=b) hb) e
   obtain⟨v',q,e⟩:=Ko.mp e;have:=(KB.mp q).1;rw[Kv,K3]at this;omega
  self:=λ_ _ _ _ st hQ=>gI st.1 hQ }
def nP {ps:Kg Kt}(hh:A.handled=gV)(hne:a≠I)(hnt:tp≠I)(hd:o.data=.set es ep t)(hf:t.fits es.size=true)(hp:ps.Perm (Mh es.size)) :
  SQ prog w A I [I,a,tp] [I] es.size (λi v=>(ps.map λp=>(es.getD p (0,.none)).2)[i]?=bt v) (λi h=>SIt I (.ref tp) (.ref a) i es.size ep h/\h.get? a=bt o/\h.get? tp=bt { cls:=.type "tuple",data:=.seq (ps.map λk=>rawInt (k:Kt)).toArray 0 }) where
 sub:=λb hb=>by simp at hb; simp[hb]
 frame:=λ_ _ _ st hk=>#[hk I (by simp) _ st.1,hk a (by simp) _ st.2.1,hk tp (by simp) _ st.2.2]
 item:=λi s Q E hi st hQ=>by
  have lt:∀ {p},ps[i]?=bt p->p < es.size:=λq=>NX.mp (hp.mem_iff.mp (Lc q))
  show lr st.1 st.2.1 hd hf rfl hh st.2.2 (λp e q qe h' x' k=>?_) (λp q=>#[es[p]'(lt q),by simp[lt q]]) λe h' k=>?_
  ·show hQ e.2 h' s.toks ?_ #[x',k a _ hne st.2.1,k tp _ hnt st.2.2] λb o hb e=>k b o (nN (y:=b) hb) e
   rw[K4,q];simp[RQ,lt q];rw[OK (lt q)]at qe;cases qe; rfl
  ·rw[Ll,hp.length_eq,Ma]at e;omega
 done:=λs Q E st hQ=>by
  show lr st.1 st.2.1 hd hf rfl hh st.2.2 (λp e q qe h' x' k=>?_) (λp q=>?_) λe h' k=>hQ h' s.toks λb o hb e=>k b o (nN (y:=b) hb) e
  ·have:=(KB.mp q).1;rw[hp.length_eq,Ma]at this;omega
  ·have:=(KB.mp q).1;rw[hp.length_eq,Ma]at this;omega
 self:=λ_ _ _ _ st hQ=>gI st.1 hQ
end
def nQ:∀ {l:Kg Ki},(∀v∈l,∃x tk,v=.str x tk)->PB l (l.map strOf)
 | [],_=>.nil
 | v::l,h=>by
  obtain⟨x,tk,rfl⟩:=h v (.head _);exact .cons x tk (nQ λe he=>h e (.tail _ he))
section
variable{prog:KF}{w:KS}{A:K1}{E:Ki->Km->Prop}{s:Km}{a:Kn}{o:LJ}{xs:Kg Ks}{es:Ls (KD×Ki)}{ep:Kt}{t:ND}
structure SetWalk (prog:KF)(w:KS)(A:K1)(s:Km)(a:Kn)(es:Ls (KD×Ki))(I:Kn)(h':K7):Prop where
 ex:∃(fp:Kg Kn) (St:Kt->K7->Prop) (us:Kg Ki) (n:Kt),us.Perm (es.toList.map (·.2))/\us.length=n/\SQ prog w A I fp [I] n (λi v=>us[i]?=bt v) St/\St 0 h'/\∀b∈fp,b=a\/s.heap.objs.size<=b/\b < h'.objs.size
 new:s.heap.objs.size<=I
 keep:∀b u,s.heap.get? b=bt u->h'.get? b=bt u
def vU {Q:Ki->Km->Prop}(hh:A.handled=gV)(ho:s.heap.get? a=bt o)(hex:o.ExactSet)(hd:o.data=.set es ep t)(hz:es.size<=sizeLine)(fit:t.fits es.size=true)(led:t.led = !gf w)(pl:t.plain=true->es.size=0\/jI t es.size=true)(h:∀I h' dr,SetWalk prog w A s a es I h'->Q (.ref I) { s with heap:=h',drawn:=dr }):wpAny (model prog w) A (pyIter (.ref a)) Q E s:=by
 have hT:s.TypeIs (.ref a) "set":=#[o,ho,hex.1];have ha:a < s.heap.objs.size:=Ky ho;show QE hT F.slot_set_iter (LL F.slot_set_iter hT pX ?_ (F.args_set_iter_1 _));unfold M4.«frozenset.__iter__»;show Kh (Kh (Kq ?_));change wpAny _ _ (pure a) _ _ s;show Kq ?_;unfold Sf setDrawn;show Kh (Kh (Oo ho hd fit (Kq ?_)));show Kh (Kh (MH ho hd fit ?_));dsimp only;unfold setsByText;show Kh (Kh (Nj (Kq (Kq ?_))));have oI:∀(f:Ki) (h0:K7),(h0.push { cls:=.type "set_iterator",data:=.fields [f,rawInt 0,.ref a,rawInt es.size,rawInt ep].toArray }).get? h0.objs.size=bt { cls:=.type "set_iterator",data:=.fields [f,rawInt 0,.ref a,rawInt es.size,rawInt ep].toArray }:=λf h0=>KA _ rfl
 show MZ (λhc=>?_) (λhc=>?_)
 ·show Kh (jQ es.size _ Ma λps dr hp=>?_)
  show Kh (Pr ?_ (by rw[Kv,hp.length_eq,Ma]; exact hz))
  have o1:=Kl (seqObj "tuple" (ps.map λk=>rawInt (k:Kt)).toArray 0) ho
  show Kh (QF o1 hd fit ?_);show Kh (Lg (Kq #[_,rfl,"set_iterator",_,#[_,oI _ _,rfl],eJ.lookup,?_]));have z1:(s.heap.push (seqObj "tuple" (ps.map λk=>rawInt (k:Kt)).toArray 0)).objs.size=s.heap.objs.size+1:=LC ..
  have W:=nP (prog:=prog) (w:=w) (A:=A) (a:=a) (I:=(s.heap.push (seqObj "tuple" (ps.map λk=>rawInt (k:Kt)).toArray 0)).objs.size) (tp:=s.heap.objs.size) (ps:=ps) hh (by rw[z1]; exact KH (LQ ha)) (by rw[z1]; exact KH (Ln _)) hd fit hp
  have eL:(ps.map λp=>(es.getD p (0,LA)).2).length=es.size:=by rw[Kv,hp.length_eq,Ma]
  show h _ _ dr #[#[_,_,ps.map λp=>(es.getD p (0,LA)).2,_,?_,eL,W,#[oI _ _,Kl _ o1,Kl _ (KA _ rfl)],λb hb=>?_],by rw[z1]; exact MF _,λb u e=>Kl _ (Kl _ e)]
  ·show(hp.map _).trans ?_;have e:((Mh es.size).map λp=>(es.getD p (0,LA)).2)=es.toList.map λe=>e.2:=by
    apply List.ext_getElem
    ·simp
    ·intro k h1 h2;simp only[Kv,Ma]at h1;simp[RQ,h1]
   rw[e]
  ·rw[LC,z1];simp only[Kx,K6,L8]at hb;rcases hb with rfl|rfl|rfl
   ·exact .inr #[by rw[z1]; exact MF _,by rw[z1]; exact Ln _]
   ·exact .inl rfl
   ·exact .inr #[Kz _,LQ (Ln _)]
 ·show Kh (Kq (Kh (QF ho hd fit ?_)));show Kh (Lg (Kq #[_,rfl,"set_iterator",_,#[_,oI _ _,rfl],eJ.lookup,?_]));have near:∀b∈[s.heap.objs.size,a],b=a\/s.heap.objs.size<=b/\b < (s.heap.push { cls:=.type "set_iterator",data:=.fields [rawInt 0,rawInt 0,.ref a,rawInt es.size,rawInt ep].toArray }).objs.size:=λb hb=>by
   rw[LC];simp only[Kx,K6,L8]at hb;rcases hb with rfl|rfl
   ·exact .inr #[Kz _,Ln _]
   ·exact .inl rfl
  cases hb:gf w with
  | true=>
   have W:=pY (prog:=prog) (A:=A) (I:=s.heap.objs.size) hh (KH ha) hd fit hb;have eL:((pickOrder (w.params.setOrder a ep) es).toList.map (·.2)).length=es.size:=by rw[Kv,fu.length_eq,K3]
   show h _ _ s.drawn #[#[[s.heap.objs.size,a],_,(pickOrder (w.params.setOrder a ep) es).toList.map (·.2),_,fu.map _,eL,W,#[oI _ _,Kl _ ho],near],Kz _,λb u e=>Kl _ e]
  | false=>
   have hl:t.led=true:=by rw[led,hb]; rfl
   have eL:(es.toList.map (·.2)).length=es.size:=by rw[Kv,K3]
   by_cases hpw:t.plain=true/\jI t es.size=true
   ·have W:=nO (prog:=prog) (A:=A) (I:=s.heap.objs.size) hh (KH ha) hd fit hb hl hpw.1 hpw.2;show h _ _ s.drawn #[#[[s.heap.objs.size,a],_,es.toList.map (·.2),_,.refl _,eL,W,#[oI _ _,Kl _ ho],near],Kz _,λb u e=>Kl _ e]
   have h1:es.size<=1:=by
    cases hp:t.plain with
    | true=>
     rcases pl hp with z|z
     ·rw[z]; exact MP _
     ·exact absurd #[hp,z] hpw
    | false=>
     show QQ λz=>hc ?_
     show((!gf w)&&((!t.plain)&&decide (es.size > 1)))=true;rw[hb,hp]
     simpa using z
   have W:=tR (prog:=prog) (A:=A) (I:=s.heap.objs.size) hh (KH ha) hd fit hb hl h1;show h _ _ s.drawn #[#[[s.heap.objs.size,a],_,es.toList.map (·.2),_,.refl _,eL,W,#[oI _ _,Kl _ ho],near],Kz _,λb u e=>Kl _ e]
def vV {Q:KR->Km->Prop}(hT:s.TypeIs (.ref a) "set")(h:Q false s):wpAny (model prog w) A (Os (.ref a)) Q E s:=by
 unfold Os;show Kh (Rf hT F.slot_set_len.lookup ?_);generalize hid:("set.__len__" : LR)=k0
 wp_delta
 rw[show splitId k0=bt ("set","__len__")from by subst hid; decide +kernel]
 subst hid;show Kh (Oe (T:="set") (b:=true) hT Qb ?_);show MZ (λz=>absurd z #v[]) (λ_=>MZ (λ_=>?_) (λz=>absurd (by decide +kernel) z))
 exact Kh (N1 hT (Kq h))
def nR {Q:Kg Ki->Km->Prop}(hh:A.handled=gV)(ho:s.heap.get? a=bt o)(hex:o.ExactSet)(hd:o.data=.set es ep t)(hz:es.size<=sizeLine)(fit:t.fits es.size=true)(led:t.led = !gf w)(pl:t.plain=true->es.size=0\/jI t es.size=true)
  (hQ:∀h' tk dr us,(∀b u,s.heap.get? b=bt u->h'.get? b=bt u)->s.heap.objs.size<=h'.objs.size->us.Perm (es.toList.map (·.2))->Q us { s with heap:=h',toks:=tk,drawn:=dr }):wpAny (model prog w) A (collect (.ref a)) Q E s:=by
 have ha:a < s.heap.objs.size:=Ky ho;unfold collect;show Kh (Pp (Mt F.entry_proto_collect ?_));rw[L3 F.plain_proto_collect _];change wpAny _ A.in1 (newList [] >>= λl=>again (.builtin "list.__iadd__" #[[l,.ref a],[]])) _ _ s
 show Kh (Lg ?_);have oL:(s.heap.push { cls:=.type "list",data:=.seq ([]:Kg Ki).toArray }).get? s.heap.objs.size=bt { cls:=.type "list",data:=.seq #[] 0 }:=KA _ rfl;have o1:=Kl { cls:=.type "list",data:=.seq ([]:Kg Ki).toArray } ho;have z1:(s.heap.push { cls:=.type "list",data:=.seq ([]:Kg Ki).toArray }).objs.size=s.heap.objs.size+1:=LC ..;show Kq #[NK F.plain_list_iadd _,Mt F.entry_list_iadd ?_];rw[L3 F.plain_list_iadd _];change wpAny _ A.in1 (Nx (.ref s.heap.objs.size) (.ref a) (.ref s.heap.objs.size)) _ _ _;unfold Nx;show Kh (N1 (T:="set") #[o,o1,hex.1] ?_);have n1:OP (.ref s.heap.objs.size) (.ref a)=false:=by
  have:s.heap.objs.size≠a:=K9 ha;simp[OP,this]
 have n2:(Mn "set" == Mn "list")=false:=by decide
 have n3:(Mn "set" == Mn "tuple")=false:=by decide
 simp only[n1,n2,n3,PV,Mz,NZ];show Kh (vU (A:=A.in1) (by simp[hh]) o1 hex hd hz fit led pl λI h' dr W=>?_)
 obtain⟨⟨fp,St,us,n,hP,hn,W,st,hfp⟩,hI,kp⟩:=W;rw[z1]at hI;have oa:=kp a o o1;show Kh (Ly (vV #[o,oa,hex.1] ?_));have oL1:=kp _ _ oL;have hD:s.heap.objs.size∉fp:=λz=>by
  rcases hfp _ z with e|⟨e,_⟩
  ·exact K9 ha e
  ·rw[z1]at e; exact Nat.not_succ_le_self _ e
 show MZ (λ_=>?_) (λz=>absurd (by decide +kernel) z)
 show Kh (Nn (Kh ?_));change wpAny _ _ (updateSeq s.heap.objs.size (·.push .none) >>= λ_=>updateSeq s.heap.objs.size (·.pop)) _ _ _
 show Kh (Rk oL1 rfl ?_);have oL2:=LG (NQ (·.push LA)) oL1 rfl
 show Rk (hz:=by seq_fits) oL2 rfl ?_
 have oL3:=LG (NQ (·.pop)) oL2 rfl
 have hnl:n<=sizeLine:=by rw[<- hn,hP.length_eq,Kv,K3]; exact hz
 show Kq #[NK PySem.F.plain_extend_loop _,codeAny_extend_loopS W.toS hnl s.heap.objs.size hD (.ref s.heap.objs.size) n 0 _ #[] _ rfl (MP _) (W.frame 0 _ _ st λb hb u e=>?_) oL3 (ItemsOf.nil _) λs' acc c' mv oS hacc=>?_]
 ·have hb':b≠s.heap.objs.size:=λz=>hD (z ▸ hb)
  exact(Le _ _ (Ne.symm hb')).trans ((Le _ _ (Ne.symm hb')).trans e)
 ·rw[Sc mv];change wpAny (model prog w) A (do
    let o <- load s.heap.objs.size
    match o.data with
    | .seq xs _=>pure xs.toList
    | _=>unsupported "internal:collect") Q E _
  show Kh (Rx oS (Kq ?_));have eU:acc.toList=us:=by
   apply List.ext_getElem?;intro i
   by_cases hi:i < n
   ·have h1:i < acc.size:=by rw[hacc.1]; exact hi
    have:=hacc.2 i acc[i] (by simp[h1])
    rw[this,LH]; simp[h1]
   ·rw[Nu (by rw[K3,hacc.1]; omega),Nu ∅]
  rw[eU];show hQ _ _ dr us (λb u e=>?_) (MN (Ky oS)) hP
  have hb:=Ky e;have hb':b≠s.heap.objs.size:=KH hb;show mv.heap b u (λz=>?_) ((Le _ _ (Ne.symm hb')).trans ((Le _ _ (Ne.symm hb')).trans (kp b u (Kl _ e))))
  simp only[Kx,K6,L8]at z;rcases z with z|z
  ·exact hb' z
  ·rw[z]at hb; exact LP _ (KI (LQ hb) hI)
def nS {Q:Kg Ki->Km->Prop}(hh:A.handled=gV)(ho:s.heap.get? a=bt o)(hS:cq w xs o)
  (hQ:∀h' tk dr us ss,(∀b u,s.heap.get? b=bt u->h'.get? b=bt u)->s.heap.objs.size<=h'.objs.size->PB us ss->ss.Perm xs->Q us { s with heap:=h',toks:=tk,drawn:=dr }):wpAny (model prog w) A (collect (.ref a)) Q E s:=by
 obtain⟨hex,es,ep,t,hd,T⟩:=hS;show nR hh ho hex hd (by rw[T.size]; exact QA T.few) T.fit T.led (λz=>.inl (T.pl z)) λh' tk dr us h1 h2 hP=>?_
 show hQ h' tk dr us (us.map strOf) h1 h2 ?_ ?_
 ·show nQ λu hu=>?_
  obtain⟨e,he,rfl⟩:=MD.mp (hP.mem_iff.mp hu);obtain⟨x,tk,rfl⟩:=T.el e he;exact#[x,tk,rfl]
 ·show(hP.map strOf).trans ?_;rw[O5];exact T.pm
end
abbrev ph (x y:Ks):KR:=!ltCps y.cps.toList x.cps.toList
def jg {x y:Ks}:ph x y=true↔¬ y.cps.toList < x.cps.toList:=by unfold ph; rw[ltCps_eq]; simp
def lv (x y z:Ks)(h:ph x y=true)(h':ph y z=true):ph x z=true:=by
 rw[jg,Ps]at *
 exact List.le_trans h h'
def tU (x y:Ks):(ph x y||ph y x)=true:=by
 rw[Ms,jg,jg,Ps,Ps];exact List.le_total _ _
def vW {x y:Ks}(h:ph x y=true)(h':ph y x=true):x=y:=by
 rw[jg,Ps]at *
 have:=List.le_antisymm h h';cases x; cases y
 exact congrArg Str.mk (Array.toList_inj.mp this)
abbrev cF (xs:Kg Ks):Kg Ks:=xs.mergeSort ph
def cG {xs:Kg Ks}:(cF xs).Perm xs:=List.mergeSort_perm _ _
def jS {xs:Kg Ks}:(cF xs).Pairwise λa b=>ph a b=true:=List.pairwise_mergeSort lv tU _
def vX:∀ {a b:Kg Ks},a.Perm b->(a.Pairwise λa b=>ph a b=true)->(b.Pairwise λa b=>ph a b=true)->a=b
 | [],b,p,_,_=>(TB p)
 | x::a,[],p,_,_=>absurd p.length_eq (by simp)
 | x::a,y::b,p,h,h'=>by
  have e:x=y:=by
   rcases Kx.mp (p.mem_iff.mp (KP))with e|e
   ·exact e
   ·rcases Kx.mp (p.mem_iff.mpr (KP))with e'|e'
    ·exact e'.symm
    ·exact vW (NH h e') (NH h' e)
  subst e;rw[vX ((List.perm_cons x).mp p) (OI.mp h).2 (OI.mp h').2]
def jT:∀ {l:Kg Ks} {p:Ks},risingS p l=true->(p::l).Pairwise λa b=>ph a b=true
 | [],p,_=>by simp
 | x::r,p,h=>by
  unfold risingS at h;rw[Kj]at h;have ih:=jT h.2;show OI.mpr #[λy hy=>?_,ih]
  have px:ph p x=true:=h.1;rcases Kx.mp hy with e|e
  ·rw[e]; exact px
  ·exact lv _ _ _ px (NH ih e)
def tV {ss xs:Kg Ks}(p:ss.Perm xs)(h:sortedS ss=true):ss=cF xs:=by
 show vX (p.trans cG.symm) ?_ jS;cases ss with
 | nil=>exact .nil
 | cons x r=>exact jT h
section
variable{prog:KF}{w:KS}{A:K1}{E:Ki->Km->Prop}{s:Km}{a:Kn}{o:LJ}{xs:Kg Ks}
def pZ {Q:Ki->Km->Prop}(hh:A.handled=gV)(ho:s.heap.get? a=bt o)(hS:cq w xs o)(h64:xs.length < 64)
  (h:∀D h' tk dr c us,(∀b u,s.heap.get? b=bt u->h'.get? b=bt u)->s.heap.objs.size<=D->h'.get? D=bt (seqObj "list" us.toArray c)->PB us (cF xs)->Q (.ref D) { s with heap:=h',toks:=tk,drawn:=dr }) :
  wpAny (model prog w) A (call (.builtin "sorted") [.ref a]) Q E s:=by
 show Calls.call_function_entry kind_sorted plain_sorted entry_sorted (args_sorted1 _) ?_;unfold M4.«sorted»;show Kh (m:=checkCount "sorted" 1 1 _) (Kq ?_);show Kh (nS (A:=A.in1) (by simp[hh]) ho hS λh1 tk dr us ss kp hle hU hP=>?_)
 have hul:us.length < 64:=by rw[hU.length,hP.length_eq]; exact h64
 show Kh (wpAny_newList ?_ (by rw[LF]; omega))
 have oL:(h1.push (seqObj "list" us.toArray 0)).get? h1.objs.size=bt (seqObj "list" us.toArray 0):=KA _ rfl;show Kh (Ly (LL slot_list_sort #[_,oL,rfl] entry_list_sort (list_sort_treeK strKind_oneLt oL hU.keysOf (λv₁ v₂ aF e=>keyKind_strs (by rw[<- e]; exact hU)) hul λst' q1 q2=>#[_,rfl,?_]) (args_list_sort _)))
 obtain⟨ss',g1,g2,g3⟩:=sorted_out_str hU q1 q2;obtain⟨c,oD⟩:=sortedHeap_at (out:=(arrOf st').map (·.2)) oL
 show Kq #[_,rfl,h _ _ tk dr c ((arrOf st').map (·.2)).toList (λb u e=>?_) hle (by rw[Pt]; exact oD) (tV (g2.trans hP) g3 ▸ g1)]
 have lt:=Ky (kp b u e);exact(sortedHeap_old (KH (KI (Ky e) hle)) (by rw[size_push']; exact LQ lt)).trans (Kl _ (kp b u e))
end
abbrev nT:Kg W->Kk (Kg Ks)
 | []=>bt []
 | .str x::ws=>(nT ws).map (x :: ·)
 | _::_=>gV
def nU:∀ {ws:Kg W} {ss:Kg Ks},nT ws=bt ss->ws=ss.map .str
 | [],_,h=>by cases h; rfl
 | .str x::ws,_,h=>by
  obtain⟨ss,h1,rfl⟩:=Ko.mp h;rw[nU h1]; rfl
 | .non::_,_,h|.bl _::_,_,h|.int _::_,_,h|.tup _::_,_,h|.ref _::_,_,h=>by cases h
def lw:∀ {ss:Kg Ks},nT (ss.map .str)=bt ss
 | []=>rfl
 | x::ss=>by simp only[Lz,nT,lw,L5]
abbrev EN (S:aa)(i:Kt):Kk (Kg Ks):=match S[i]? with
 | some (.sts xs)=>bt xs
 | _=>gV
abbrev zD (S:aa)(i:Kt):Kk (KD×KD):=match S[i]? with
 | some (.rng lo hi)=>bt (lo,hi)
 | _=>gV
abbrev mo (xs:Kg W)(S:aa):Kk (W×aa):=match xs with
 | [.ref i]=>match gF S i with
  | some ws=>match nT ws with
   | some ss=>if ss.length+1 < scanBound then bt (.ref S.length,S++[.sts (bL ss)])else gV
   | none=>gV
  | none=>gV
 | _=>gV
abbrev gJ (xs:Kg W)(S:aa):Kk (W×aa):=match xs with
 | [.ref i]=>match EN S i with
  | some ss=>if ss.length < 64 then bt (.ref S.length,S++[.lst ((cF ss).map .str)])else gV
  | none=>gV
 | _=>gV
abbrev qa (xs:Kg W)(S:aa):Kk (W×aa):=match xs with
 | [.int j]=>if -(2 ^ 62)<=j/\j < 2 ^ 62 then bt (.ref S.length,S++[.rng 0 j])else gV
 | _=>gV
abbrev FH (lo:KD)(n:Kt):Kg W:=(Mh n).map λ(k:Kt)=>.int (lo+(k:KD))
abbrev lx (xs:Kg W)(S:aa):Kk (W×aa):=match xs with
 | [.ref i]=>match zD S i with
  | some (lo,hi)=>if -(2 ^ 62)<=lo/\lo < 2 ^ 62/\-(2 ^ 62)<=hi/\hi < 2 ^ 62/\(hi - lo).toNat<=sizeLine then bt (.ref S.length,S++[.lst (FH lo (hi - lo).toNat)])else gV
  | none=>iP [.ref i] S
 | xs=>iP xs S
section
variable{X:Cx}{J:Kg (Kn×LJ)}{Y:L2.St}{H:Hp}{s:Km}{A:Kg Kn}{S:aa}
def Inv.drawn (I:Inv X J Y H s)(d:SD):Inv X J Y H { s with drawn:=d }:=#[I.ok,I.os,I.bare,I.base,I.loc,I.cell,I.free,I.freeC,I.pin,I.hok,I.len]
def gK {h':K7}{tk:Kt}{dr:SD}{D:Kn}{n:O}{u:HO}(I:Inv X J Y H s)(so:StoreOk X.w X.K A H S)(hk:∀b o,s.heap.get? b=bt o->h'.get? b=bt o)(hD:s.heap.objs.size<=D)(new:ObjOk X.prog X.w (aE H D u) h' D u)
  (r:H D=gV->ObjRel X.w X.K (A++[D]) (aE H D u) D n):PostE X J Y A H (S++[n]) (.ref S.length) (.ref D) { s with heap:=h',toks:=tk,drawn:=dr }:=by
 have hn:H D=gV:=I.hok.fresh hD;show#[.ref D,_,A++[D],Mi.Inv.drawn (I.laid (a:=D) (o:=u) (t':=tk) hk hD new) dr,rfl,eG hn,so.pushO hn (r hn),.ref ?_];rw[<- so.len]; simp
def ly:∀ {ss:Kg Ks} {vs:Kg V} {us:Kg Ki},RelL X.K A H (ss.map .str) vs->Vals vs us->PB us ss
 | [],_,_,.nil,rv=>by cases rv; exact .nil
 | x::ss,_,_,.cons r t,rv=>by
  cases rv with
  | cons ru rv=>
   cases r;obtain⟨tk,rfl⟩:=ru;exact .cons x tk (ly t rv)
def lz:∀ {ss:Kg Ks} {us:Kg Ki},PB us ss->Vals (ss.map V.str) us
 | _,_,.nil=>.nil
 | _,_,.cons x tk h=>.cons #[tk,rfl] (lz h)
def nV:∀ {ss:Kg Ks},RelL X.K A H (ss.map .str) (ss.map V.str)
 | []=>.nil
 | x::ss=>.cons .str nV
def mq:∀ {vs:Kg V} {us:Kg Ki},vs.length=us.length->(∀(i:Kt) v u,vs[i]?=bt v->us[i]?=bt u->L2.RelV v u)->Vals vs us
 | [],[],_,_=>.nil
 | v::vs,u::us,hl,h=>.cons (h 0 v u rfl rfl) (mq (by simpa using hl) λi v u a b=>h (i+1) v u (by simpa using a) (by simpa using b))
 | [],_::_,hl,_=>by cases hl
 | _::_,[],hl,_=>by cases hl
def mr {K:Kr}{lo:KD}:∀(l:Kg Kt),RelL K A H (l.map λ(k:Kt)=>W.int (lo+(k:KD))) (l.map λ(k:Kt)=>V.int (lo+(k:KD)))
 | []=>.nil
 | _::l=>.cons .int (mr l)
def gL {xs:Kg W}{vs:Kg V}{us:Kg Ki}{i:Kt}(rl:RelL X.K A H [.ref i] vs)(rv:Vals vs us):∃a,A[i]?=bt a/\us=[.ref a]:=by
 cases rl with
 | cons r t=>
  cases t;cases r with
  | @ref _ a ea=>
   cases rv with
   | cons ru rv=>
    cases rv;obtain rfl:_=KZ a:=ru;exact#[a,ea,rfl]
def tW (hh:X.A.handled=gV):LCall X (.type "set") mo:=by
 intro J s Y H A S xs vs us w S' I so rl rv e;unfold mo at e;split at e
 ·rename_i i;obtain⟨a,ea,rfl⟩:=gL (xs:=[]) rl rv;split at e
  ·rename_i ws hw;split at e
   ·rename_i ss hs;split at e
    ·rename_i hb;cases e;obtain⟨vs',h1,r1⟩:=ba so hw ea;obtain⟨its,rv',p,_⟩:=I.list h1;rw[nU hs]at r1;show vR hh p.isList (by simpa using ly r1 rv') hb λh' tk o ho hS hk=>?_
     show gK (dr:=s.drawn) (u:=.frz o (.ext λh=>h.get? s.heap.objs.size=bt o)) I so hk (Kz _) #[ho,ho,#[o,ho],λh1 h2 q k=>k _ q] λ_=>#[o,_,am,hS]
    ·cases e
   ·cases e
  ·cases e
 ·cases e
def vY {i:Kt}{ss:Kg Ks}{a:Kn}(I:Inv X J Y H s)(so:StoreOk X.w X.K A H S)(h:EN S i=bt ss)(ea:A[i]?=bt a):∃o,s.heap.get? a=bt o/\cq X.w ss o:=by
 unfold EN at h;split at h
 ·rename_i xs hx;cases h;obtain⟨o,φ,q,r⟩:=so.obj i _ a hx ea;exact#[o,(show ObjOk X.prog X.w H s.heap a (.frz o (.ext φ))from I.hok a _ q).1,r]
 ·cases h
def kP (hh:X.A.handled=gV):LCall X (.builtin "sorted") gJ:=by
 intro J s Y H A S xs vs us w S' I so rl rv e;unfold gJ at e;split at e
 ·rename_i i;obtain⟨a,ea,rfl⟩:=gL (xs:=[]) rl rv;split at e
  ·rename_i ss hs;split at e
   ·rename_i hb;cases e;obtain⟨o,ho,hS⟩:=vY I so hs ea;show pZ hh ho hS hb λD h' tk dr c us hk hD oD hU=>?_
    have hl:us.length<=sizeLine:=by rw[hU.length,cG.length_eq,LF]; omega
    show gK (u:=.lst ((cF ss).map V.str)) I so hk hD #[by rw[Kv,<- hU.length]; exact hl,us,c,lz hU,oD] λhn=>#[_,am,nV]
   ·cases e
  ·cases e
 ·cases e
def nW:LCall X (.type "range") qa:=by
 intro J s Y H A S xs vs us w S' I so rl rv e;unfold qa at e;split at e
 ·rename_i j;split at e
  ·rename_i hb;cases e;cases rl with
   | cons r t=>
    cases t;cases r;cases rv with
    | cons ru rv=>
     cases rv;obtain⟨tk,rfl⟩:=ru;exact Sq (gK (dr:=s.drawn) (u:=.rng 0 j) I so (λb o e=>Kl _ e) (Kz _) #[_,_,_,KA _ rfl] λ_=>am)
  ·cases e
 ·cases e
def nX (hh:X.A.handled=gV):LCall X (.type "list") lx:=by
 intro J s Y H A S xs vs us w S' I so rl rv e;unfold lx at e;split at e
 ·rename_i i;split at e
  ·rename_i lo hi hr;split at e
   ·rename_i hb;cases e;obtain⟨a,ea,rfl⟩:=gL (xs:=[]) rl rv;obtain⟨b1,b2,b3,b4,b5⟩:=hb;have hH:H a=bt (.rng lo hi):=by
     unfold zD at hr;split at hr
     ·rename_i hx; cases hr; exact so.obj i _ a hx ea
     ·cases hr
    obtain⟨t,u,v,ho⟩:=I.hok a _ hH;have hn:Mj lo hi 1=((hi - lo).toNat:Kt):=by rw[PR]; split <;> omega
    show call_list_range hh ho (Sj b1 b2 b3 b4) hn b5 λh' tk acc c hk hD hacc=>?_
    have hv:Vals ((Mh (hi - lo).toNat).map λ(k:Kt)=>V.int (lo+(k:KD))) acc.toList:=by
     show mq (by rw[Kv,Ma,K3,hacc.1]) λi v u e1 e2=>?_
     rw[K4,Ko]at e1;obtain⟨k,e1,rfl⟩:=e1;obtain⟨hk,rfl⟩:=KB.mp e1;obtain⟨t,rfl⟩:=hacc.2 i u (by rw[<- LH]; exact e2)
     exact#[t,by simp]
    show gK (dr:=s.drawn) (u:=.lst ((Mh (hi - lo).toNat).map λ(k:Kt)=>V.int (lo+(k:KD)))) I so hk (Kz _) #[by simpa using b5,acc.toList,c,hv,by simpa using hD] λhn=>#[_,am,?_]
    exact mr _
   ·cases e
  ·exact gj J s Y H A S _ vs us w S' I so rl rv e
 ·exact gj J s Y H A S _ vs us w S' I so rl rv e
end
abbrev CS (S:aa)(i:Kt):Kk (Kg (T×W)):=match S[i]? with
 | some (.dic U)=>bt U
 | some (.frd U)=>bt U
 | _=>gV
section
variable{X:Cx}{J:Kg (Kn×LJ)}{Y:L2.St}{H:Hp}{s:Km}{A:Kg Kn}{S:aa}
def rD {a:Kn}{xs:Kg (T×Kn×Ki)}(I:Inv X J Y H s)(e:Rd H a (vG X.w a xs)):DicAt X.w a xs s.heap:=(show ObjOk X.prog X.w H s.heap a (vG X.w a xs)from e.ok I.hok).1
def vZ {i:Kt}{U:Kg (T×W)}{a:Kn}(so:StoreOk X.w X.K A H S)(e:CS S i=bt U)(ea:A[i]?=bt a):∃xs,Rd H a (vG X.w a xs)/\KRel X.K A H U xs:=by
 unfold CS at e;split at e
 ·rename_i k h;cases e;obtain⟨xs,q,r⟩:=so.obj i _ a h ea;exact#[xs,.inl q,r]
 ·rename_i k h;cases e;obtain⟨o,xs,q,r⟩:=so.obj i _ a h ea;exact#[xs,.inr #[o,q],r]
 ·cases e
def jU (k:Ks):∀U:Kg (Ks×KD),kM (cx U) (.inr k)=(U.lookup k).map V.int
 | []=>rfl
 | p::r=>by
  obtain⟨x,n⟩:=p
  by_cases e:k=x
  ·subst e;rw[List.lookup_cons_self];exact jB rfl
  ·rw[K5,Mu e];exact(jC (λz=>e (SA z).symm)).trans (jU k r)
abbrev nq (x y:W)(S:aa):Kk (W×aa):=match x,y with
 | .ref r,.str k=>match S[r]? with
  | some (.dis U)=>(U.lookup k).map λn=>(.int n,S)
  | _=>gV
 | x,y=>uN x y S
def IH (hu:X.A.units+10 < cLine):LIx X nq:=by
 intro value slice J s Y H A S x y a b u v w S' I so rx ru ry rv e hs
 by_cases hz:∃r k,x=.ref r/\y=.str k
 ·obtain⟨r,k,rfl,rfl⟩:=hz;dsimp only[nq]at e;split at e
  ·rename_i U hS;rw[Ko]at e;obtain⟨n,e1,e2⟩:=e;cases e2;cases rx with
   | ref ea=>
    have hH:H _=bt (.dK (cx U)):=so.obj r _ _ hS ea;obtain⟨z,hd,vs,rel,dd⟩:=Bd I.hok (.inl hH);obtain⟨w',hw,rw'⟩:=RelO.some_of (v:=.int n) (o:=valueAt vs (.inr k)) (by rw[show bt (V.int n)=kM (cx U) (.inr k) by rw[jU,e1]; rfl]; exact rel.val _)
    cases ry;obtain rfl:u=KZ _:=ru;exact N2 (x:=w') dd.typeIs slot_dict_getitem.lookup (QV (k:=OX k) (Bc rv) dd.mapOf hw #[rfl,.int n,H,A,I.tok _,rw',.refl,so,.int]) hs
  ·cases e
 have:nq x y S=uN x y S:=by
  cases x <;> cases y <;> first|rfl|exact absurd #[_,_,rfl,rfl] hz
 rw[this]at e;exact JW hu value slice J s Y H A S x y a b u v w S' I so rx ru ry rv e hs
abbrev qb (o i v:W)(S:aa):Kk aa:=vN o i v S
def FJ (hu:X.A.units+10 < cLine):LSet X qb:=lset hu
abbrev CT (o:COp)(x y:W)(S:aa):Kk (W×aa):=fL o x y S
def v3 (hu:X.A.units+d8 < cLine)(o:COp):LOp X (compareOp o.py) (CT o):=gG hu o
end
abbrev II (d:Kn)(es:Ls MG)(ep:Kt)(h:K7):Prop:=∃o,h.get? d=bt o/\o.ExactDict/\o.data=.dict es ep
mutual
def IJ:T->T->Kk KR
 | .int a,.int b=>bt (decide (a < b))
 | .str a,.str b=>bt (decide (a.cps.toList < b.cps.toList))
 | .tup xs,.tup ys=>FK xs ys
 | _,_=>gV
def FK:Kg T->Kg T->Kk KR
 | [],[]=>bt false
 | [],_::_=>bt true
 | _::_,[]=>bt false
 | x::xs,y::ys=>if x=y then FK xs ys else IJ x y
end
abbrev dv (o:COp)(x y:W)(S:aa):Kk (W×aa):=match o,y with
 | .isin,.str j=>match x with
  | .str i=>bt (.bl (!(NT j i 0 j.length 1).isEmpty),S)
  | _=>gV
 | .is,.bl b=>match x with
  | .bl a=>bt (.bl (a==b),S)
  | _=>gV
 | o,y=>CT o x y S
section
variable{X:Cx}
def jV (hu:X.A.units+d8 < cLine)(o:COp):LOp X (compareOp o.py) (dv o):=by
 intro J s Y H A S x y a b u v w S' I so rx ru ry rv e;unfold dv at e;split at e
 ·split at e
  ·cases e;cases rx; cases ry
   exact OpR.go sR I ru rv #[_,_,rfl,rfl,.here so .bl]
  ·cases e
 ·split at e
  ·rename_i b' _ a';cases e;cases rx;cases ry;obtain rfl:u=Mg a':=ru;obtain rfl:v=Mg b':=rv;show wpAny_is_plain rfl ?_;have e:(Mg a'==Mg b')=(a'==b'):=by cases a' <;> cases b' <;> rfl
   rw[e];exact je I so
  ·cases e
 ·exact v3 hu _ J s Y H A S x y a b u v w S' I so rx ru ry rv e
abbrev JA (x:Ks):It:=#[λi _=>i < x.cps.size,λi H v H'=>H'=H/\∃c,x.cps[i]?=bt c/\v=.str #[[c].toArray],λi _=>x.cps.size<=i]
def v4 {P:KF}{w:KS}{K:Kr}{tg:KC}(x:Ks)(t:Sl)(it:Kn):Turn P w K tg (JA x) [it] it (λi h=>h.IsStrIter it "str_ascii_iterator" x t i) where
 mem:=by simp
 obj:=λi h st b hb=>by
  have e:b=it:=by simpa using hb
  subst e;obtain⟨o,e,c,d⟩:=st;exact#[o,e,λv z=>by rw[d]at z; cases z]
 keep:=λi h h' #[o,e,c] k=>#[o,k it (by simp) o e,c]
 item:=by
  intro X hP hw hK hc i J s Y H E I hf st hg;subst hP hw hK;obtain⟨f0,f1,f2,f3,f4,f5⟩:=hf it (by simp)
  obtain⟨c0,hx⟩ : ∃c,x.cps[i]?=bt c:=#[_,OK hg];show wpAny_pyNext_ascii_item st hx λh' st' sb=>?_
  have I1:Inv X J Y H { s with heap:=h',toks:=s.toks+1 }:=I.turned (t':=s.toks+1) (λb o hb e=>(sb.2 b hb).trans e) f0 f1 f3 f4 f5
  obtain⟨o,e,c,d⟩:=id st';exact#[_,rfl,qV (s:={ s with heap:=h',toks:=s.toks+1 }) e c d #v[] #[.str #[[c0].toArray],H,I1,#[_,rfl],#[rfl,_,hx,rfl],st',λb hb=>(hf b hb).1]]
 done:=by
  intro X hP hw hK hc i J s Y H E I hf st hg;subst hP hw hK;obtain⟨f0,f1,f2,f3,f4,f5⟩:=hf it (by simp)
  exact wpAny_pyNext_ascii_end (I.ok.hd hc) st (Array.getElem?_eq_none hg) λh' eb=>#[rfl,I.turned (t':=s.toks) (λb o hb e=>eb b o hb e) f0 f1 f3 f4 f5]
 self:=λ_ _ _ _ _ st h=>wpAny_pyIter_striter_ascii st h
end
open PySem.W (KasT kas_sort kas_ask kas_cmp kas_item kas_asc kas_desc kas_tail3 kas_descPart kas_count kas_place kas_bin kas_rev)
abbrev FL {α:Type}(lt:Kt->Kt->KR):KasT α->α
 | .ret a=>a
 | .ask i j k=>FL lt (k (lt i j))
section
variable{prog:KF}{w:KS}{A:K1}{E:Ki->Km->Prop}{s:Km}{vs:Kg Ki}
abbrev IK (lt:Kt->Kt->KR){β:Type}(d:β)(vs:Kg β):Kg β:=if vs.length < 2 then vs else(FL lt (kas_sort vs.length)).toList.map λi=>vs.getD i d
end
end Mi
namespace Mi
open PySem PySem.Spec PyProof.Rows L2
abbrev FM:T->LR
 | .int _=>"int"|.str _=>"str"|.tup _=>"tuple"
abbrev qf:T->Kk T
 | .tup (x::_)=>bt x
 | _=>gV
abbrev JY (ks:Kg T):Kk Kt:=
 if ks.all (λk=>FM k == "int")then bt 0
 else if ks.all (λk=>FM k == "str")then bt 1
 else if ks.all (λk=>(qf k).any λf=>FM f == "int")then bt 2
 else if ks.all (λk=>(qf k).any λf=>FM f == "str")then bt 3
 else if ks.all (λk=>(qf k).any λf=>FM f == "tuple")then bt 4
 else gV
abbrev Bp (ks:Kg T):KR:=ks.all λx=>ks.all λy=>(IJ x y).isSome
abbrev JB (ks:Kg T)(i j:Kt):KR:=(IJ (ks.getD i (.int 0)) (ks.getD j (.int 0))).getD false
abbrev CU (S:aa):W->Kk (Kg W)
 | .tup xs=>bt xs
 | .ref i=>match gF S i with
  | some xs=>bt xs
  | none=>(CS S i).map λU=>U.map λp=>p.1.w
 | _=>gV
abbrev rE:Kt:=8
abbrev CV (ks:Kg T):KR:=decide (ks.length < 64)&&decide (T.depths ks<=rE)&&(decide (ks.length < 2)||((JY ks).isSome&&Bp ks))
abbrev HB (xs:Kg W)(S:aa):Kk (W×aa):=match xs with
 | [x]=>match CU S x with
  | some ws=>match W.ts ws with
   | some ks=>if CV ks then bt (.ref S.length,S++[.lst (IK (JB ks) .non ws)])else gV
   | none=>gV
  | none=>gV
 | _=>gV
abbrev v6 (xs:Kg W)(S:aa):Kk (W×aa):=iP xs S
abbrev zE (xs:Kg W)(S:aa):Kk (W×aa):=tH xs S
abbrev IL (ks:Kg T):Kt:=argBest (JB ks) (ks.length - 1)
abbrev JZ (xs:Kg W)(S:aa):Kk (W×aa):=match xs with
 | [.ref i]=>match gF S i with
  | some ws=>match W.ts ws with
   | some ks=>if T.depths ks<=rE/\Bp ks=true then(ws[IL ks]?).map λw=>(w,S)else gV
   | none=>gV
  | none=>gV
 | _=>gV
abbrev gk:Kg W->Kk (Kg KR)
 | []=>bt []
 | .bl b::ws=>(gk ws).map (b :: ·)
 | _::_=>gV
abbrev CW (xs:Kg W)(S:aa):Kk (W×aa):=match xs with
 | [.ref i]=>match gF S i with
  | some ws=>(gk ws).map λbs=>(.bl (bs.all id),S)
  | none=>gV
 | _=>gV
section
variable{X:Cx}{J:Kg (Kn×LJ)}{Y:L2.St}{H:Hp}{s:Km}{A:Kg Kn}{S:aa}
def DicAt.raw {wd:KS}{a:Kn}{xs:Kg (T×Kn×Ki)}{h:K7}(d:DicAt wd a xs h):∃es ep,II a es ep h/\es.toList=xs.map (Fy wd):=
 let ⟨_,_,_,o,es,ep,h1,h2,h3,h4⟩:=d; #[es,ep,#[o,h1,h2,h3],h4]
def nY (hh:X.A.handled=gV):LCall X (.type "list") v6:=gj
end
open PySem.W (KasT kas_sort kas_asc kas_desc kas_tail3 kas_descPart kas_count kas_place kas_bin kas_rev)
abbrev gt (p:Ls Kt)(i:Kt):Kt:=p.getD i 0
end Mi
namespace Mi
open PySem PySem.Spec PyProof.Rows L2
abbrev jW (xs:Kg W)(S:aa):Kk (W×aa):=match xs with
 | [.ref i]=>match zD S i with
  | some (lo,hi)=>if -(2 ^ 62)<=lo/\lo < 2 ^ 62/\-(2 ^ 62)<=hi/\hi < 2 ^ 62/\(hi - lo).toNat<=sizeLine then bt (.tup (FH lo (hi - lo).toNat),S)else gV
  | none=>jM [.ref i] S
 | xs=>jM xs S
section
variable{prog:KF}{w:KS}{A:K1}{E:Ki->Km->Prop}{s:Km}
def kQ {Q:Kg Ki->Km->Prop}{r:Kn}{a b c:KD}{t u v:Sl}{n:Kt}(hh:A.handled=gV)(hr:Tq s.heap r a b c t u v)(hsmall:Op a b c=true)
  (hn:Mj a b c=n) (hlen:n<=2 ^ 24)
  (hQ:∀h' tk (acc:Ls Ki),(∀b o,s.heap.get? b=bt o->h'.get? b=bt o)->s.heap.objs.size<=h'.objs.size->Rr (λi v=>∃t,v=.int (a+i*c) t) acc n->Q acc.toList { s with heap:=h',toks:=tk }):wpAny (model prog w) A (collect (.ref r)) Q E s:=by
 unfold collect;show Kh (Pp (Mt F.entry_proto_collect ?_));rw[L3 F.plain_proto_collect _];change wpAny _ A.in1 (newList [] >>= λl=>again (.builtin "list.__iadd__" #[[l,.ref r],[]])) _ _ s
 show Kh (Lg ?_);show Kq #[NK F.plain_list_iadd _,Mt F.entry_list_iadd ?_];rw[L3 F.plain_list_iadd _];change wpAny _ A.in1 (Nx (.ref s.heap.objs.size) (.ref r) (.ref s.heap.objs.size)) _ _ _;have hS:(s.heap.push { cls:=.type "list",data:=.seq ([]:Kg Ki).toArray }).get? s.heap.objs.size=bt { cls:=.type "list",data:=.seq #[] 0 }:=KA _ rfl;have fin':∀s',(∃h' tk acc c',s'={ s with heap:=h',toks:=tk }/\(∀b o,s.heap.get? b=bt o->h'.get? b=bt o)/\h'.get? s.heap.objs.size=bt { cls:=.type "list",dict:=gV,data:=.seq acc c',slots:=#[] }/\Rr (λi v=>∃t,v=.int (a+i*c) t) acc n)->wpAny (model prog w) A (do
   let o <- load s.heap.objs.size
   match o.data with
   | .seq xs _=>pure xs.toList
   | _=>unsupported "internal:collect") Q E s':=by
  rintro s' ⟨h',tk,acc,c',rfl,hk,hS',hacc⟩;exact Kh (Rx hS' (Kq (hQ h' tk acc hk (MN (Ky hS')) hacc)))
 show Lf (wpAny_extend_range (A:=A) (s:={ s with heap:=s.heap.push { cls:=.type "list",data:=.seq ([]:Kg Ki).toArray } }) (R:=λr s'=>r=.ok (.ret (.ref s.heap.objs.size))/\∃h' tk acc c',s'={ s with heap:=h',toks:=tk }/\(∀b o,s.heap.get? b=bt o->h'.get? b=bt o)/\h'.get? s.heap.objs.size=bt { cls:=.type "list",dict:=gV,data:=.seq acc c',slots:=#[] }/\Rr (λi v=>∃t,v=.int (a+i*c) t) acc n) hh (Kl _ hr) hsmall hn hlen _ _ 0 hS λh' tk acc' c' hk hS' hacc=>#[rfl,h',tk,acc',c',rfl,λb o e=>hk b o (KH (Ky e)) (Kl _ e),hS',hacc]) (λfin s' h=>?_) (λe s' h=>?_)
 ·cases fin with
  | done f=>
   obtain⟨e,h⟩:=h;cases e;exact fin' s' h
  | again c'=>exact#[h.1,MO h.2 λr s'' hr=>by obtain⟨rfl,hr⟩:=hr; exact fin' s'' hr]
 ·exact absurd h.1 (by simp)
def ip {Q₁:Ki->Km->Prop}{r:Kn}{a b c:KD}{t u v:Sl}{n:Kt}(hh:A.handled=gV)(hr:Tq s.heap r a b c t u v)(hsmall:Op a b c=true)
  (hn:Mj a b c=n) (hlen:n<=2 ^ 24)
  (h:∀(h':K7) (tk:Kt) (acc:Ls Ki),(∀b o,s.heap.get? b=bt o->h'.get? b=bt o)->s.heap.objs.size<=h'.objs.size->Rr (λi v=>∃t,v=.int (a+i*c) t) acc n->Q₁ (.ref h'.objs.size) { s with heap:=h'.push { cls:=.type "tuple",data:=.seq acc },toks:=tk }) :
  codeAny (model prog w) A (.call (.builtin "tuple.__new__") #[[.type "tuple",.ref r],[]]) (wants Q₁ E) s:=by
 show Oj ?_;change wpAny _ A.in1 (do checkBuiltinCall "tuple.__new__" #[[.type "tuple",.ref r],[]]; again (.builtin "tuple.__new__" #[[.type "tuple",.ref r],[]])) _ _ s
 show Kh (Po (F.newCall_tuple_1 _) (Kq #[NK F.plain_tuple_new _,Mt F.entry_tuple_new ?_]));rw[L3 F.plain_tuple_new _];have hsub:=PySem.sub_tuple_self;have hinit:=PySem.init_tuple_lookup;have hmh:=PySem.madeHere_tuple;have hTI:s.TypeIs (.ref r) "range":=#[_,hr,rfl];have hh1:A.in1.handled=gV:=by simp[hh]
 wp_walk using N1 hTI,kQ (A:=A.in1) hh1 hr hsmall hn hlen
 intro h' tk acc hk hle hacc;change wpAny _ _ (Mc acc.toList.toArray >>= λv=>ret v) _ _ _
 unfold Mc;show Kh (Lg ?_ (by change acc.toList.toArray.size<=sizeLine; simp only[Pt]; rw[hacc.1,LF]; omega))
 show Kq ?_;have e:acc.toList.toArray=acc:=by simp
 rw[e];exact h h' tk acc hk hle hacc
def iq {Q:Ki->Km->Prop}{r:Kn}{a b c:KD}{t u v:Sl}{n:Kt}(hh:A.handled=gV)(hr:Tq s.heap r a b c t u v)(hsmall:Op a b c=true)
  (hn:Mj a b c=n) (hlen:n<=2 ^ 24)
  (hQ:∀(h':K7) (tk:Kt) (acc:Ls Ki),(∀b o,s.heap.get? b=bt o->h'.get? b=bt o)->s.heap.objs.size<=h'.objs.size->Rr (λi v=>∃t,v=.int (a+i*c) t) acc n->Q (.ref h'.objs.size) { s with heap:=h'.push { cls:=.type "tuple",data:=.seq acc },toks:=tk }) :
  wpAny (model prog w) A (call (.type "tuple") [.ref r]) Q E s:=by
 show callType_codes (Q₁:=λobj s₁=>s₁.TypeIs obj "tuple"/\Q obj s₁) F.called_tuple (F.typeCall_tuple_1 _) F.entry_object_init
  (ip (by simp[hh]) hr hsmall hn hlen λh' tk acc hk hle hacc=>#[#[_,KA _ rfl,rfl],hQ h' tk acc hk hle hacc]) λobj s₁ h₁=>?_
 exact#[h₁.1,F.args_object_init_2 obj _,object_init_meets F.called_tuple.init.lookup F.called_tuple.made #v[] prog w A.in1 _ s₁ #[h₁.1,rfl,h₁.2]]
end
section
variable{X:Cx}{J:Kg (Kn×LJ)}{Y:L2.St}{H:Hp}{s:Km}{A:Kg Kn}{S:aa}
def mw (hh:X.A.handled=gV):LCall X (.type "tuple") jW:=by
 intro J s Y H A S xs vs us w S' I so rl rv e;unfold jW at e;split at e
 ·rename_i i;split at e
  ·rename_i lo hi hr;split at e
   ·rename_i hb;cases e;obtain⟨a,ea,rfl⟩:=gL (xs:=[]) rl rv;obtain⟨b1,b2,b3,b4,b5⟩:=hb;have hH:H a=bt (.rng lo hi):=by
     unfold zD at hr;split at hr
     ·rename_i hx; cases hr; exact so.obj i _ a hx ea
     ·cases hr
    obtain⟨t,u,v,ho⟩:=I.hok a _ hH;have hn:Mj lo hi 1=((hi - lo).toNat:Kt):=by rw[PR]; split <;> omega
    show iq hh ho (Sj b1 b2 b3 b4) hn b5 λh' tk acc hk hle hacc=>?_
    have hv:Vals ((Mh (hi - lo).toNat).map λ(k:Kt)=>V.int (lo+(k:KD))) acc.toList:=by
     show mq (by rw[Kv,Ma,K3,hacc.1]) λi v u e1 e2=>?_
     rw[K4,Ko]at e1;obtain⟨k,e1,rfl⟩:=e1;obtain⟨hk,rfl⟩:=KB.mp e1;obtain⟨t,rfl⟩:=hacc.2 i u (by rw[<- LH]; exact e2)
     exact#[t,by simp]
    have hnn:H h'.objs.size=gV:=I.hok.fresh hle;show#[.ref h'.objs.size,_,A,I.laid (a:=h'.objs.size) (o:=.tup ((Mh (hi - lo).toNat).map λ(k:Kt)=>V.int (lo+(k:KD)))) (t':=tk) (λb o e=>Kl _ (hk b o e)) hle #[#[by simpa using b5,NoD.new _ _ _],acc.toList,hv,?_],rfl,aX (.inl hnn),so.lay hnn,.tup (.inl (.inl am)) (mr _)]
    exact#[_,KA _ rfl,rfl,0,by simp]
   ·cases e
  ·exact iQ J s Y H A S _ vs us w S' I so rl rv e
 ·exact iQ J s Y H A S _ vs us w S' I so rl rv e
def lA:∀ {ws:Kg W} {bs:Kg KR},gk ws=bt bs->ws=bs.map W.bl
 | [],bs,h=>by cases h; rfl
 | .bl b::ws,bs,h=>by
  (dsimp only[gk]at h; simp only[Ko]at h)
  obtain⟨r,h1,h2⟩:=h;subst h2;rw[lA h1]; rfl
 | .non::_,_,h|.int _::_,_,h|.str _::_,_,h|.tup _::_,_,h|.ref _::_,_,h=>by cases h
def qh {bs:Kg KR}{vs:Kg V}{us:Kg Ki}(r:RelL X.K A H (bs.map W.bl) vs)(rv:Vals vs us):us=bs.map Mg:=by
 induction bs generalizing vs us with
 | nil=>cases r; cases rv; rfl
 | cons b bs ih=>
  cases r with
  | cons r1 r2=>
   cases rv with
   | cons v1 v2=>
    cases r1;obtain rfl:_=Mg b:=v1;rw[ih r2 v2]; rfl
def tY (bs:Kg KR):(Mh bs.length).all (λi=>bs.getD i false)=bs.all id:=by
 induction bs with
 | nil=>rfl
 | cons b bs ih=>simp[O3,O4,Tr]at ih ⊢; rw[ih]
def CY {id:LR}{fb:Kg KR->KR}{g:Kg W->aa->Kk (W×aa)}(hg:∀xs S,g xs S=match xs with|[.ref i]=>(match gF S i with|some ws=>(gk ws).map λbs=>(.bl (fb bs),S)|none=>gV)|_=>gV)
  (hcall:∀ {s:Km} {x:Ki} {Q:Ki->Km->Prop} {E:Ki->Km->Prop} {bs:Kg KR},wpAny (model X.prog X.w) X.A.in1 (pyIter x) (λit s₂=>∃I fp wr P St,it=.ref I/\SQ X.prog X.w X.A.in1 I fp wr bs.length P St/\St 0 s₂.heap/\TruthOf X.prog X.w X.A.in1 P (λi=>bs.getD i false)/\
   ∀h' tk,(∀b o,b∉wr->s₂.heap.get? b=bt o->h'.get? b=bt o)->Q (.bool (fb bs)) { s₂ with heap:=h',toks:=tk }) E s->wpAny (model X.prog X.w) X.A (call (.builtin id) [x]) Q E s)
  (hh:X.A.handled=gV):LCall X (.builtin id) g:=by
 intro J s Y H A S xs vs us w S' I so rl rv e;rw[hg]at e;cases rl with
 | nil=>cases e
 | cons r t=>
  cases t with
  | cons _ _=>cases r <;> cases e
  | nil=>
   cases rv with
   | cons ru rv2=>
    cases rv2;cases r with
    | @ref ri ad ea=>
     simp only at e;split at e
     ·rename_i ws hw;rw[Ko]at e;obtain⟨bs,e1,e2⟩:=e;cases e2;obtain⟨vs',h1,r1⟩:=ba so hw ea;obtain⟨its,rv1,p,hz⟩:=I.list h1;obtain rfl:_=KZ _:=ru;rw[lA e1]at r1;have hits:=qh r1 rv1;show hcall (bs:=bs) ?_;show N8 p.isList ?_;have hlt:ad < s.heap.objs.size:=by obtain⟨_,ho,_⟩:=p.isList; exact Ky ho
      have W:=Ti (prog:=X.prog) (w:=X.w) (A:=X.A.in1) hh s.heap.objs.size ad (KH hlt) its.toArray;have hsz:its.toArray.size=bs.length:=by rw[KG,hits,Kv]
      rw[hsz]at W;show#[_,_,_,_,_,rfl,W,#[#[_,KA _ rfl,rfl,rfl],?_],λi v s' Q E hi hq=>?_,λh' tk hk=>?_]
      ·obtain⟨o,ho,hc⟩:=p.isList;exact#[o,Kl _ ho,hc]
      ·have hb:bs[i]?.map Mg=bt v:=by rw[<- K4,<- hits]; simpa using hi
       cases q:bs[i]? with
       | none=>rw[q]at hb; cases hb
       | some b=>
        rw[q]at hb;cases hb;have eb:bs.getD i false=b:=by simp[q]
        have hq:Q (bs.getD i false) s':=hq;rw[eb]at hq;exact LV hq
      ·show#[.bl (fb bs),H,A,I.kept (λb o e=>hk b o (λz=>?_) (Kl _ e)),rfl,.refl,so,.bl]
       have hb:=Ky e;rw[KU.mp z]at hb;exact LP _ hb
     ·cases e
    | _=>cases e
def tZ (hh:X.A.handled=gV):LCall X (.builtin "all") CW:=
 CY (fb:=λbs=>bs.all id) (λxs S=>rfl) (λ{s x Q E bs} h=>call_all_walk (Lf h (λit s₂ #[I,fp,wr,P,St',a,b,c,d,f]=>#[I,fp,wr,_,P,St',_,a,b,c,d,λh' tk hk=>by rw[tY]; exact f h' tk hk]) λ_ _ e=>e)) hh
end
noncomputable abbrev FA:=Fm->aa->Kk (Kg W×aa)
noncomputable abbrev FT:=Fm->aa->Kk (KR×aa)
inductive Out where
 | nx (Z:Fm)|rt (w:W)|bk (Z:Fm)|ct (Z:Fm)
noncomputable abbrev FS:=Fm->aa->Kk (Out×aa)
section
variable (X:Cx)
inductive tE (f:FE)(Y:L2.St)(H:Hp)(Q:VK):Prop
 | mk (A:Kg Kn) (Z:Fm) (S:aa) (w:W) (S':aa) (er:EnvRel X.K A H Z Y) (so:StoreOk X.w X.K A H S) (e:f Z S=bt (w,S')) (q:∀v H',EndV X.w X.K A H S' w v H'->Q v H'):tE f Y H Q
abbrev EndB (A:Kg Kn)(H:Hp)(S':aa)(k:KR):KR->Hp->Prop:=λb H'=>b=k/\∃A',Ext X.K A H A' H'/\StoreOk X.w X.K A' H' S'
inductive tT (f:FT)(Y:L2.St)(H:Hp)(Q:KR->Hp->Prop):Prop
 | mk (A:Kg Kn) (Z:Fm) (S:aa) (k:KR) (S':aa) (er:EnvRel X.K A H Z Y) (so:StoreOk X.w X.K A H S) (e:f Z S=bt (k,S')) (q:∀b H',EndB X A H S' k b H'->Q b H'):tT f Y H Q
inductive EndA (A:Kg Kn)(H:Hp)(S':aa)(ws:Kg W)(vs:Kg V)(H':Hp):Prop
 | mk (A':Kg Kn) (e:Ext X.K A H A' H') (so:StoreOk X.w X.K A' H' S') (r:RelL X.K A' H' ws vs):EndA A H S' ws vs H'
inductive tA (f:FA)(Y:L2.St)(H:Hp)(Q:Kg V->Hp->Prop):Prop
 | mk (A:Kg Kn) (Z:Fm) (S:aa) (ws:Kg W) (S':aa) (er:EnvRel X.K A H Z Y) (so:StoreOk X.w X.K A H S) (e:f Z S=bt (ws,S')) (q:∀vs H',EndA X A H S' ws vs H'->Q vs H'):tA f Y H Q
inductive EndF (A:Kg Kn)(H:Hp)(o:Out)(S':aa)(c:Fm->Out)(Y':L2.St)(H':Hp):Prop
 | mk (Z':Fm) (A':Kg Kn) (eo:o=c Z') (e:Ext X.K A H A' H') (so:StoreOk X.w X.K A' H' S') (er:EnvRel X.K A' H' Z' Y'):EndF A H o S' c Y' H'
inductive EndR (A:Kg Kn)(H:Hp)(o:Out)(S':aa)(v:V)(H':Hp):Prop
 | mk (w:W) (A':Kg Kn) (eo:o=.rt w) (e:Ext X.K A H A' H') (so:StoreOk X.w X.K A' H' S') (r:Rel X.K A' H' w v):EndR A H o S' v H'
abbrev EndS (A:Kg Kn)(H:Hp)(o:Out)(S':aa):Ends where
 nx:=EndF X A H o S' .nx
 rt:=EndR X A H o S'
 bk:=EndF X A H o S' .bk
 ct:=EndF X A H o S' .ct
structure Imp (E D:Ends):Prop where
 nx:∀Y H,E.nx Y H->D.nx Y H
 rt:∀v H,E.rt v H->D.rt v H
 bk:∀Y H,E.bk Y H->D.bk Y H
 ct:∀Y H,E.ct Y H->D.ct Y H
inductive tS (f:FS)(D:Ends)(Y:L2.St)(H:Hp):Prop
 | mk (A:Kg Kn) (Z:Fm) (S:aa) (o:Out) (S':aa) (er:EnvRel X.K A H Z Y) (so:StoreOk X.w X.K A H S) (e:f Z S=bt (o,S')) (d:Imp (EndS X A H o S') D):tS f D Y H
noncomputable abbrev GE (e:KC)(f:FE):Prop:=PE X e (tE X f)
noncomputable abbrev GT (e:KC)(f:FT):Prop:=PT X e (tT X f)
noncomputable abbrev GW (e:KC)(f:FT):Prop:=PW X e (tT X f)
noncomputable abbrev GA (es:Kg KC)(f:FA):Prop:=PA X es (tA X f)
noncomputable abbrev GS (st:LO)(f:FS):Prop:=PS X st (tS X f)
noncomputable abbrev GSs (sts:Kg LO)(f:FS):Prop:=PSs X sts (tS X f)
end
def Imp.trans {E D F:Ends}(a:Imp E D)(b:Imp D F):Imp E F:=#[λ_ _ h=>b.nx _ _ (a.nx _ _ h),λ_ _ h=>b.rt _ _ (a.rt _ _ h),λ_ _ h=>b.bk _ _ (a.bk _ _ h),λ_ _ h=>b.ct _ _ (a.ct _ _ h)]
section
variable{X:Cx}
def GE.of {e:KC}{t:TE}{f:FE}(h:PE X e t)(hf:∀(Y:L2.St) (H:Hp) (A:Kg Kn) (Z:Fm) (S:aa) (w:W) (S':aa),EnvRel X.K A H Z Y->StoreOk X.w X.K A H S->f Z S=bt (w,S')->∀Q:VK,(∀v H',EndV X.w X.K A H S' w v H'->Q v H')->t Y H Q):GE X e f:=
 λJ s Y H Q I #[A,Z,S,w,S',er,so,e1,hq]=>h J s Y H Q I (hf Y H A Z S w S' er so e1 Q hq)
def GT.of {e:KC}{t:TT}{f:FT}(h:PT X e t)(hf:∀(Y:L2.St) (H:Hp) (A:Kg Kn) (Z:Fm) (S:aa) (k:KR) (S':aa),EnvRel X.K A H Z Y->StoreOk X.w X.K A H S->f Z S=bt (k,S')->∀Q:KR->Hp->Prop,(∀b H',EndB X A H S' k b H'->Q b H')->t Y H Q):GT X e f:=
 λJ s Y H Q I #[A,Z,S,w,S',er,so,e1,hq]=>h J s Y H Q I (hf Y H A Z S w S' er so e1 Q hq)
def GW.of {e:KC}{t:TT}{f:FT}(h:PW X e t)(hf:∀(Y:L2.St) (H:Hp) (A:Kg Kn) (Z:Fm) (S:aa) (k:KR) (S':aa),EnvRel X.K A H Z Y->StoreOk X.w X.K A H S->f Z S=bt (k,S')->∀Q:KR->Hp->Prop,(∀b H',EndB X A H S' k b H'->Q b H')->t Y H Q):GW X e f:=
 λwh J s Y H Q I #[A,Z,S,w,S',er,so,e1,hq]=>h wh J s Y H Q I (hf Y H A Z S w S' er so e1 Q hq)
def GA.of {es:Kg KC}{t:TA}{f:FA}(h:PA X es t)(hf:∀(Y:L2.St) (H:Hp) (A:Kg Kn) (Z:Fm) (S:aa) (ws:Kg W) (S':aa),EnvRel X.K A H Z Y->StoreOk X.w X.K A H S->f Z S=bt (ws,S')->∀Q:Kg V->Hp->Prop,(∀vs H',EndA X A H S' ws vs H'->Q vs H')->t Y H Q):GA X es f:=
 λpos J s Y H Q I #[A,Z,S,w,S',er,so,e1,hq]=>h pos J s Y H Q I (hf Y H A Z S w S' er so e1 Q hq)
def GS.of {st:LO}{t:TS}{f:FS}(h:PS X st t)(hf:∀(Y:L2.St) (H:Hp) (A:Kg Kn) (Z:Fm) (S:aa) (o:Out) (S':aa),EnvRel X.K A H Z Y->StoreOk X.w X.K A H S->f Z S=bt (o,S')->∀D:Ends,Imp (EndS X A H o S') D->t D Y H):GS X st f:=
 λJ s Y H D I #[A,Z,S,o,S',er,so,e1,hq]=>h J s Y H D I (hf Y H A Z S o S' er so e1 D hq)
def GSs.of {st:Kg LO}{t:TS}{f:FS}(h:PSs X st t)(hf:∀(Y:L2.St) (H:Hp) (A:Kg Kn) (Z:Fm) (S:aa) (o:Out) (S':aa),EnvRel X.K A H Z Y->StoreOk X.w X.K A H S->f Z S=bt (o,S')->∀D:Ends,Imp (EndS X A H o S') D->t D Y H):GSs X st f:=
 λJ s Y H D I #[A,Z,S,o,S',er,so,e1,hq]=>h J s Y H D I (hf Y H A Z S o S' er so e1 D hq)
def EndV.after {A A1:Kg Kn}{H H1:Hp}{S':aa}{w:W}{v:V}{H':Hp}(e:Ext X.K A H A1 H1)(h:EndV X.w X.K A1 H1 S' w v H'):EndV X.w X.K A H S' w v H':=by
 obtain⟨A',x,y,z⟩:=h;exact#[A',e.trans x,y,z]
def EndB.after {A A1:Kg Kn}{H H1:Hp}{S':aa}{k b:KR}{H':Hp}(e:Ext X.K A H A1 H1)(h:EndB X A1 H1 S' k b H'):EndB X A H S' k b H':=by
 obtain⟨h1,A',x,y⟩:=h;exact#[h1,A',e.trans x,y]
def EndS.after {A A1:Kg Kn}{H H1:Hp}{S':aa}{o:Out}(e:Ext X.K A H A1 H1):Imp (EndS X A1 H1 o S') (EndS X A H o S'):=
 #[λ_ _ #[Z',A',a,b,c,d]=>#[Z',A',a,e.trans b,c,d],λ_ _ #[Z',A',a,b,c,d]=>#[Z',A',a,e.trans b,c,d],λ_ _ #[Z',A',a,b,c,d]=>#[Z',A',a,e.trans b,c,d],λ_ _ #[Z',A',a,b,c,d]=>#[Z',A',a,e.trans b,c,d]]
abbrev fC (w:W):FE:=λ_ S=>bt (w,S)
abbrev fV (i:Kt):FE:=λZ S=>match Z[i]? with
 | some (bt w)=>bt (w,S)
 | _=>gV
def ee {e:KC}{v:V}{w:W}(h:PE X e (tC v))(r:∀A H,Rel X.K A H w v):GE X e (fC w):=
 GE.of h λY H A Z S w' S' er so e Q hq=>by cases e; exact hq _ _ (.here so (r A H))
def CZ {i:Kt}{e:KC}(h:PE X e (nv i)):GE X e (fV i):=GE.of h λY H A Z S w S' er so e Q hq=>by
 unfold fV at e;split at e
 ·rename_i w' hw;cases e;obtain⟨v,h1,h2⟩:=er.2 i _ hw;exact#[v,h1,hq _ _ (.here so h2)]
 ·cases e
abbrev zF (g:W->W->aa->Kk (W×aa))(fa fb:FE):FE:=λZ S=>match fa Z S with
 | some (x,S1)=>match fb Z S1 with
  | some (y,S2)=>g x y S2
  | none=>gV
 | none=>gV
def two {fa fb:FE}{g:W->W->aa->Kk (W×aa)}{Z:Fm}{S:aa}{r:W×aa}(e:zF g fa fb Z S=bt r):∃x S1 y S2,fa Z S=bt (x,S1)/\fb Z S1=bt (y,S2)/\g x y S2=bt r:=by
 unfold zF at e;split at e
 ·rename_i x S1 h1;split at e
  ·rename_i y S2 h2;exact#[x,S1,y,S2,h1,h2,e]
  ·cases e
 ·cases e
def dw {fa fb:FE}{Z:Fm}{S S1 S2:aa}{x y:W}{Y:L2.St}{H:Hp}{A:Kg Kn}{R:V->V->Hp->Prop}(er:EnvRel X.K A H Z Y)(so:StoreOk X.w X.K A H S)(h1:fa Z S=bt (x,S1))(h2:fb Z S1=bt (y,S2))
  (h:∀a b H2 A2,Ext X.K A H A2 H2->StoreOk X.w X.K A2 H2 S2->Rel X.K A2 H2 x a->Rel X.K A2 H2 y b->R a b H2):tE X fa Y H λa H1=>tE X fb Y H1 λb H2=>R a b H2:=by
 show#[A,Z,S,x,S1,er,so,h1,λa H1 #[A1,e1,o1,r1]=>?_]
 show#[A1,Z,S1,y,S2,er.mono e1,o1,h2,λb H2 #[A2,e2,o2,r2]=>?_]
 exact h a b H2 A2 (e1.trans e2) o2 (r1.mono e2) r2
inductive rOp (X:Cx)(g:W->W->aa->Kk (W×aa))(a b:V)(H:Hp)(Q:VK):Prop
 | mk (A:Kg Kn) (S:aa) (x y w:W) (S':aa) (so:StoreOk X.w X.K A H S) (rx:Rel X.K A H x a) (ry:Rel X.K A H y b) (e:g x y S=bt (w,S')) (q:∀v H',EndV X.w X.K A H S' w v H'->Q v H'):rOp X g a b H Q
inductive rCall (X:Cx)(g:Kg W->aa->Kk (W×aa))(vs:Kg V)(H:Hp)(Q:VK):Prop
 | mk (A:Kg Kn) (S:aa) (ws:Kg W) (w:W) (S':aa) (so:StoreOk X.w X.K A H S) (rl:RelL X.K A H ws vs) (e:g ws S=bt (w,S')) (q:∀v H',EndV X.w X.K A H S' w v H'->Q v H'):rCall X g vs H Q
def LOp.opr {f:Ki->Ki->R1 Ki}{g:W->W->aa->Kk (W×aa)}(h:LOp X f g):OpR X f (rOp X g):=by
 intro J s Y H a b u v Q I ru rv ⟨A,S,x,y,w,S',so,rx,ry,e,hq⟩;exact aK (h J s Y H A S x y a b u v w S' I so rx ru ry rv e) λu' s' #[v',H',A',I',r',e1,o1,z1]=>#[v',H',I',r',hq v' H' #[A',e1,o1,z1]]
def Bq {a b:KC}{op:Qk}{pos:L9}{fa fb:FE}{g:W->W->aa->Kk (W×aa)}(ho:LOp X (binaryOp op) g)(ha:GE X a fa)(hb:GE X b fb):GE X (.BinOp a op b pos) (zF g fa fb):=
 GE.of (Fa ho.opr ha hb) λY H A Z S w S' er so e Q hq=>by
  obtain⟨x,S1,y,S2,h1,h2,h3⟩:=two e;exact dw er so h1 h2 λa b H2 A2 e2 o2 r1 r2=>#[A2,S2,x,y,w,S',o2,r1,r2,h3,λv H' z=>hq v H' (z.after e2)]
abbrev v7 (fa:FE):FE:=λZ S=>match fa Z S with
 | some (.int i,S1)=>bt (.int (-i),S1)
 | _=>gV
def v8 {a:KC}{pos:L9}{fa:FE}(ha:GE X a fa):GE X (.UnaryOp .USub a pos) (v7 fa):=
 GE.of (Fb Cs ha) λY H A Z S w S' er so e Q hq=>by
  unfold v7 at e;split at e
  ·rename_i i S1 h1;cases e;show#[A,Z,S,_,_,er,so,h1,λv H1 #[A1,e1,o1,r1]=>?_]
   cases r1;exact#[_,rfl,hq _ _ #[A1,e1,o1,.int]]
  ·cases e
abbrev t6 (o:COp)(fa fb:FE):FE:=zF (dv o) fa fb
def C0 {a b:KC}{o:COp}{pos:L9}{fa fb:FE}(hu:X.A.units+d8 < cLine)(ha:GE X a fa)(hb:GE X b fb)(hm:behindInMarks o.py b=false):GE X (.Compare a [o.py] [b] pos) (t6 o fa fb):=
 GE.of (yL (jV hu o).opr ha hb hm) λY H A Z S w S' er so e Q hq=>by
  obtain⟨x,S1,y,S2,h1,h2,h3⟩:=two e;exact dw er so h1 h2 λa b H2 A2 e2 o2 r1 r2=>#[A2,S2,x,y,w,S',o2,r1,r2,h3,λv H' z=>hq v H' (z.after e2)]
abbrev gl (f:FE):FT:=λZ S=>match f Z S with
 | some (.bl k,S')=>bt (k,S')
 | _=>gV
def C3 {a b:KC}{o:COp}{pos:L9}{fa fb:FE}(hu:X.A.units+d8 < cLine)(ha:GE X a fa)(hb:GE X b fb)(hm:behindInMarks o.py b=false):GT X (.Compare a [o.py] [b] pos) (gl (t6 o fa fb)):=
 GT.of (qW (jV hu o).opr ha hb hm) λY H A Z S k S' er so e Q hq=>by
  unfold gl at e;split at e
  ·rename_i k' S'' h0;cases e;obtain⟨x,S1,y,S2,h1,h2,h3⟩:=two h0;show dw er so h1 h2 λa b H2 A2 e2 o2 r1 r2=>#[A2,S2,x,y,_,_,o2,r1,r2,h3,λv H' #[A',z1,z2,z3]=>?_]
   cases z3;exact#[k,rfl,hq _ _ #[rfl,A',e2.trans z1,z2]]
  ·cases e
abbrev eM (o o':COp)(fa fb fc:FE):FE:=λZ S=>match fa Z S with
 | some (x,S1)=>match fb Z S1 with
  | some (y,S2)=>match yy o x y S2 with
   | some true=>match fc Z S2 with
    | some (z,S3)=>fL o' y z S3
    | none=>gV
   | some false=>bt (.bl false,S2)
   | none=>gV
  | none=>gV
 | none=>gV
def jX {o o':COp}{fa fb fc:FE}{Y:L2.St}{H:Hp}{A:Kg Kn}{Z:Fm}{S:aa}{w:W}{S':aa}(er:EnvRel X.K A H Z Y)(so:StoreOk X.w X.K A H S)(e:eM o o' fa fb fc Z S=bt (w,S'))(Q:VK)(hq:∀v H',EndV X.w X.K A H S' w v H'->Q v H') :
  pG (rOp X (fL o))
   (rOp X (fL o')) (tE X fa) (tE X fb) (tE X fc) Y H Q:=by
 unfold eM at e;split at e
 ·rename_i x S1 h1;split at e
  ·rename_i y S2 h2;show dw er so h1 h2 λa b H2 A2 e2 o2 r1 r2=>?_
   split at e
   ·rename_i hc;split at e
    ·rename_i z S3 h3;show#[A2,S2,x,y,.bl true,S2,o2,r1,r2,by simp[fL,hc],λv H3 #[A3,z1,z2,z3]=>?_]
     cases z3;show#[true,rfl,?_];rw[KQ rfl];show#[A3,Z,S2,z,S3,er.mono (e2.trans z1),z2,h3,λc H4 #[A4,y1,y2,y3]=>?_]
     exact#[A4,S3,y,z,w,S',y2,(r2.mono z1).mono y1,y3,e,λv H' q=>hq v H' (q.after ((e2.trans z1).trans y1))]
    ·cases e
   ·rename_i hc;cases e;show#[A2,S',x,y,.bl false,S',o2,r1,r2,by simp[fL,hc],λv H3 #[A3,z1,z2,z3]=>?_]
    cases z3;show#[false,rfl,?_];rw[KY KL];exact hq _ _ #[A3,e2.trans z1,z2,.bl]
   ·cases e
  ·cases e
 ·cases e
def v9 {a b c:KC}{o o':COp}{pos:L9}{fa fb fc:FE}(hu:X.A.units+d8 < cLine)(ha:GE X a fa)(hb:GE X b fb)(hc:GE X c fc)(hm:lastMarks [o.py,o'.py] [b,c]=false):GE X (.Compare a [o.py,o'.py] [b,c] pos) (eM o o' fa fb fc):=
 GE.of (uZ (gG hu o).opr (gG hu o').opr ha hb hc hm) λY H A Z S w S' er so e Q hq=>jX er so e Q hq
def wa {a b c:KC}{o o':COp}{pos:L9}{fa fb fc:FE}(hu:X.A.units+d8 < cLine)(ha:GE X a fa)(hb:GE X b fb)(hc:GE X c fc)(hm:lastMarks [o.py,o'.py] [b,c]=false):GT X (.Compare a [o.py,o'.py] [b,c] pos) (gl (eM o o' fa fb fc)):=
 GT.of (u4 (gG hu o).opr (gG hu o').opr ha hb hc hm) λY H A Z S k S' er so e Q hq=>by
  unfold gl at e;split at e
  ·rename_i k' S'' h0;cases e;show jX er so h0 (λx H'=>∃k,x=.bl k/\Q k H') λv H' #[A',z1,z2,z3]=>?_
   cases z3;exact#[_,rfl,hq _ _ #[rfl,A',z1,z2]]
  ·cases e
abbrev dy (f:FE):FT:=λZ S=>match f Z S with
 | some (w,S')=>(eI S' w).map λk=>(k,S')
 | none=>gV
def aN {e:KC}{f:FE}(h:GE X e f)(he:∀whole,isTrue e X.env whole=(do let v <- whole; standAt e.pos; holding [v] (truthy v))):GT X e (dy f):=by
 intro J s Y H Q I ⟨A,Z,S,k,S',er,so,e1,hq⟩;unfold dy at e1;split at e1
 ·rename_i w S1 h1;rw[Ko]at e1;obtain⟨k',ek,e2⟩:=e1;cases e2;show isTrue_plain (aK (h J s Y H (EndV X.w X.K A H _ w) I #[A,Z,S,w,_,er,so,h1,λ_ _ z=>z]) λv s1 #[x,H1,I1,r1,A1,e1,o1,z1]=>?_) (he _)
  exact IG I1 o1 z1 r1 ek λs' I'=>#[H1,I',hq _ _ #[rfl,A1,e1,o1]]
 ·cases e1
abbrev wb (f g:FT):FT:=λZ S=>match f Z S with
 | some (true,S1)=>g Z S1
 | some (false,S1)=>bt (false,S1)
 | none=>gV
abbrev FN (f g:FT):FT:=λZ S=>match f Z S with
 | some (true,S1)=>bt (true,S1)
 | some (false,S1)=>g Z S1
 | none=>gV
abbrev zG (f:FT):FT:=λZ S=>match f Z S with
 | some (k,S1)=>bt (!k,S1)
 | none=>gV
def wc {f g:FT}{Y:L2.St}{H:Hp}{A:Kg Kn}{Z:Fm}{S:aa}{k:KR}{S':aa}(er:EnvRel X.K A H Z Y)(so:StoreOk X.w X.K A H S)(e:wb f g Z S=bt (k,S'))(Q:KR->Hp->Prop)(hq:∀b H',EndB X A H S' k b H'->Q b H') :
  EV (tT X f) (tT X g) Y H Q:=by
 unfold wb at e;split at e
 ·rename_i S1 h1;show#[A,Z,S,true,S1,er,so,h1,λb H1 #[z0,A1,z1,z2]=>?_]
  subst z0;rw[KQ rfl];exact#[A1,Z,S1,k,S',er.mono z1,z2,e,λb H' q=>hq b H' (q.after z1)]
 ·rename_i S1 h1;cases e;show#[A,Z,S,false,_,er,so,h1,λb H1 #[z0,A1,z1,z2]=>?_]
  subst z0;rw[KY KL];exact hq _ _ #[rfl,A1,z1,z2]
 ·cases e
def zH {f g:FT}{Y:L2.St}{H:Hp}{A:Kg Kn}{Z:Fm}{S:aa}{k:KR}{S':aa}(er:EnvRel X.K A H Z Y)(so:StoreOk X.w X.K A H S)(e:FN f g Z S=bt (k,S'))(Q:KR->Hp->Prop)(hq:∀b H',EndB X A H S' k b H'->Q b H') :
  Jv (tT X f) (tT X g) Y H Q:=by
 unfold FN at e;split at e
 ·rename_i S1 h1;cases e;show#[A,Z,S,true,_,er,so,h1,λb H1 #[z0,A1,z1,z2]=>?_]
  subst z0;rw[KQ rfl];exact hq _ _ #[rfl,A1,z1,z2]
 ·rename_i S1 h1;show#[A,Z,S,false,S1,er,so,h1,λb H1 #[z0,A1,z1,z2]=>?_]
  subst z0;rw[KY KL];exact#[A1,Z,S1,k,S',er.mono z1,z2,e,λb H' q=>hq b H' (q.after z1)]
 ·cases e
def rF {a:KC}{pos:L9}{f:FT}(h:GT X a f):GW X (.BoolOp .And [a] pos) f:=yD h
def we {a:KC}{pos:L9}{f:FT}(h:GT X a f):GW X (.BoolOp .Or [a] pos) f:=B3 h
def wf {a b:KC}{r:Kg KC}{pos:L9}{f g:FT}(h:GT X a f)(h2:GW X (.BoolOp .And (b::r) pos) g):GW X (.BoolOp .And (a::b::r) pos) (wb f g):=
 GW.of (B4 h h2) λY H A Z S k S' er so e Q hq=>wc er so e Q hq
def Br {a b:KC}{r:Kg KC}{pos:L9}{f g:FT}(h:GT X a f)(h2:GW X (.BoolOp .Or (b::r) pos) g):GW X (.BoolOp .Or (a::b::r) pos) (FN f g):=
 GW.of (EW h h2) λY H A Z S k S' er so e Q hq=>zH er so e Q hq
def wg {a:KC}{pos:L9}{f:FT}(h:GT X a f):GT X (.UnaryOp .Not a pos) (zG f):=
 GT.of (B5 h) λY H A Z S k S' er so e Q hq=>by
  unfold zG at e;split at e
  ·rename_i k1 S1 h1;cases e;show#[A,Z,S,k1,_,er,so,h1,λb H1 #[z0,A1,z1,z2]=>?_]
   subst z0;exact hq _ _ #[rfl,A1,z1,z2]
  ·cases e
abbrev rG (f g:FE):FE:=λZ S=>match f Z S with
 | some (.bl true,S1)=>g Z S1
 | some (.bl false,S1)=>bt (.bl false,S1)
 | _=>gV
abbrev zI (f g:FE):FE:=λZ S=>match f Z S with
 | some (.bl true,S1)=>bt (.bl true,S1)
 | some (.bl false,S1)=>g Z S1
 | _=>gV
abbrev rH (f:FE):FE:=λZ S=>match f Z S with
 | some (.bl k,S1)=>bt (.bl (!k),S1)
 | _=>gV
def wj {a:KC}{op:RS}{pos:L9}{f:FE}(h:GE X a f):GE X (.BoolOp op [a] pos) f:=B6 h
def wk {a b:KC}{r:Kg KC}{pos:L9}{f g:FE}(h:GE X a f)(h2:GE X (.BoolOp .And (b::r) pos) g):GE X (.BoolOp .And (a::b::r) pos) (rG f g):=
 GE.of (B7 h h2) λY H A Z S w S' er so e Q hq=>by
  unfold rG at e;split at e
  ·rename_i S1 h1;show#[A,Z,S,_,S1,er,so,h1,λv H1 #[A1,z1,z2,z3]=>?_]
   cases z3;show#[true,rfl,?_];rw[KQ rfl];exact#[A1,Z,S1,w,S',er.mono z1,z2,e,λb H' q=>hq b H' (q.after z1)]
  ·rename_i S1 h1;cases e;show#[A,Z,S,_,_,er,so,h1,λv H1 #[A1,z1,z2,z3]=>?_]
   cases z3;show#[false,rfl,?_];rw[KY KL];exact hq _ _ #[A1,z1,z2,.bl]
  ·cases e
def Bs {a b:KC}{r:Kg KC}{pos:L9}{f g:FE}(h:GE X a f)(h2:GE X (.BoolOp .Or (b::r) pos) g):GE X (.BoolOp .Or (a::b::r) pos) (zI f g):=
 GE.of (EZ h h2) λY H A Z S w S' er so e Q hq=>by
  unfold zI at e;split at e
  ·rename_i S1 h1;cases e;show#[A,Z,S,_,_,er,so,h1,λv H1 #[A1,z1,z2,z3]=>?_]
   cases z3;show#[true,rfl,?_];rw[KQ rfl];exact hq _ _ #[A1,z1,z2,.bl]
  ·rename_i S1 h1;show#[A,Z,S,_,S1,er,so,h1,λv H1 #[A1,z1,z2,z3]=>?_]
   cases z3;show#[false,rfl,?_];rw[KY KL];exact#[A1,Z,S1,w,S',er.mono z1,z2,e,λb H' q=>hq b H' (q.after z1)]
  ·cases e
def wl {a:KC}{pos:L9}{f:FE}(h:GE X a f):GE X (.UnaryOp .Not a pos) (rH f):=
 GE.of (B8 h) λY H A Z S w S' er so e Q hq=>by
  unfold rH at e;split at e
  ·rename_i k1 S1 h1;cases e;show#[A,Z,S,_,_,er,so,h1,λb H1 #[A1,z1,z2,z3]=>?_]
   cases z3;exact#[_,rfl,hq _ _ #[A1,z1,z2,.bl]]
  ·cases e
abbrev zJ (c:FT)(f g:FE):FE:=λZ S=>match c Z S with
 | some (true,S1)=>f Z S1
 | some (false,S1)=>g Z S1
 | none=>gV
def C4 {c a b:KC}{pos:L9}{fc:FT}{f g:FE}(hc:GT X c fc)(ha:GE X a f)(hb:GE X b g):GE X (.IfExp c a b pos) (zJ fc f g):=
 GE.of (uR hc ha hb) λY H A Z S w S' er so e Q hq=>by
  unfold zJ at e;split at e
  ·rename_i S1 h1;show#[A,Z,S,_,S1,er,so,h1,λb H1 #[z0,A1,z1,z2]=>?_]
   subst z0;rw[KQ rfl];exact#[A1,Z,S1,w,S',er.mono z1,z2,e,λb H' q=>hq b H' (q.after z1)]
  ·rename_i S1 h1;show#[A,Z,S,_,S1,er,so,h1,λb H1 #[z0,A1,z1,z2]=>?_]
   subst z0;rw[KY KL];exact#[A1,Z,S1,w,S',er.mono z1,z2,e,λb H' q=>hq b H' (q.after z1)]
  ·cases e
abbrev gM:FA:=λ_ S=>bt ([],S)
abbrev cH (f:FE)(g:FA):FA:=λZ S=>match f Z S with
 | some (w,S1)=>match g Z S1 with
  | some (ws,S2)=>bt (w::ws,S2)
  | none=>gV
 | none=>gV
def wm:GA X [] gM:=GA.of f8 λY H A Z S ws S' er so e Q hq=>by cases e; exact hq _ _ #[A,.refl,so,.nil]
def rJ {e:KC}{es:Kg KC}{f:FE}{g:FA}(h:GE X e f)(h2:GA X es g)(hs:starEach (e::es) X.env=(false,eval e X.env)::starEach es X.env):GA X (e::es) (cH f g):=
 GA.of (bD h h2 hs) λY H A Z S ws S' er so e Q hq=>by
  unfold cH at e;split at e
  ·rename_i w S1 h1;split at e
   ·rename_i ws2 S2 h2;cases e;show#[A,Z,S,w,S1,er,so,h1,λv H1 #[A1,z1,z2,z3]=>?_]
    show#[A1,Z,S1,ws2,_,er.mono z1,z2,h2,λvs H2 #[A2,y1,y2,y3]=>?_]
    exact hq _ _ #[A2,z1.trans y1,y2,.cons (z3.mono y1) y3]
   ·cases e
  ·cases e
abbrev t8 (f:FA):FE:=λZ S=>match f Z S with
 | some (ws,S1)=>l9 S1 ws
 | none=>gV
abbrev wn (f:FA):FE:=λZ S=>match f Z S with
 | some (ws,S1)=>l8 S1 ws
 | none=>gV
def qk {es:Kg KC}{k:Kt}{pos:L9}{f:FA}(h:GA X es f):GE X (.Tuple es k pos) (t8 f):=
 GE.of (u6 h) λY H A Z S w S' er so e Q hq=>by
  unfold t8 at e;split at e
  ·rename_i ws S1 h1;obtain⟨hl,rfl,rfl⟩:=rj e;show#[A,Z,S,ws,_,er,so,h1,λvs H1 #[A1,z1,z2,z3]=>#[by rw[<- z3.length]; exact hl,λp hp=>?_]]
   exact hq _ _ (EndV.after z1 (.tup z2 z3 hp))
  ·cases e
def wo {es:Kg KC}{pos:L9}{f:FA}(h:GA X es f):GE X (.List es pos) (wn f):=
 GE.of (Cv h) λY H A Z S w S' er so e Q hq=>by
  unfold wn at e;split at e
  ·rename_i ws S1 h1;obtain⟨hl,rfl,rfl⟩:=jd e;show#[A,Z,S,ws,_,er,so,h1,λvs H1 #[A1,z1,z2,z3]=>#[by rw[<- z3.length]; exact hl,λp hp=>?_]]
   exact hq _ _ (EndV.after z1 (.lst z2 z3 hp))
  ·cases e
abbrev iS (g:Kg W->aa->Kk (W×aa))(f:FA):FE:=λZ S=>match f Z S with
 | some (ws,S1)=>g ws S1
 | none=>gV
def LCall.callr {v:Ki}{g:Kg W->aa->Kk (W×aa)}(h:LCall X v g):CallR X v (rCall X g):=by
 intro J s Y H vs us Q I rv ⟨A,S,ws,w,S',so,rl,e,hq⟩;exact aK (h J s Y H A S ws vs us w S' I so rl rv e) λu' s' #[v',H',A',I',r',e1,o1,z1]=>#[v',H',I',r',hq v' H' #[A',e1,o1,z1]]
def lB {g:Kg W->aa->Kk (W×aa)}{f:FA}{Y:L2.St}{H:Hp}{A:Kg Kn}{Z:Fm}{S:aa}{w:W}{S':aa}(er:EnvRel X.K A H Z Y)(so:StoreOk X.w X.K A H S)(e:iS g f Z S=bt (w,S'))(Q:VK)(hq:∀v H',EndV X.w X.K A H S' w v H'->Q v H') :
  tA X f Y H λvs H1=>rCall X g vs H1 Q:=by
 unfold iS at e;split at e
 ·rename_i ws S1 h1;exact#[A,Z,S,ws,S1,er,so,h1,λvs H1 #[A1,z1,z2,z3]=>#[A1,S1,ws,w,S',z2,z3,e,λv H' q=>hq v H' (q.after z1)]]
 ·cases e
def wp {id:LR}{x:Ks}{e:KC}{es:Kg KC}{p pos:L9}{f:FA}{g:Kg W->aa->Kk (W×aa)}(hc:LCall X (.builtin id) g)(hg:Gl X x)(hm:X.mg x=gV)(hv:bootBuiltins x=bt (.builtin id))(ha:GA X (e::es) f)
  (hn:x≠"__name__") (hdb:(x==("__debug__" : Ks))=false) (hs:starEach (e::es) X.env=(false,eval e X.env)::starEach es X.env) (hpl:(backTo pos (starEach es X.env)).any (·.1)=false):GE X (.Call (.Name x p) (e::es) [] pos) (iS g f):=
 GE.of (eD hc.callr hg hm hv ha hn hdb hs hpl) λY H A Z S w S' er so e Q hq=>lB er so e Q hq
def lC {id:LR}{x:Ks}{e:KC}{es:Kg KC}{p pos:L9}{f:FA}{g:Kg W->aa->Kk (W×aa)}(hc:LCall X (.type id) g)(hg:Gl X x)(hm:X.mg x=gV)(hv:bootBuiltins x=bt (.type id))(ha:GA X (e::es) f)
  (hn:x≠"__name__") (hdb:(x==("__debug__" : Ks))=false) (hs:starEach (e::es) X.env=(false,eval e X.env)::starEach es X.env) (hpl:(backTo pos (starEach es X.env)).any (·.1)=false):GE X (.Call (.Name x p) (e::es) [] pos) (iS g f):=
 GE.of (sU hc.callr hg hm hv ha hn hdb hs hpl) λY H A Z S w S' er so e Q hq=>lB er so e Q hq
end
end Mi
namespace Mi
open PySem PySem.Spec PyProof.Rows L2 Xc
inductive EndX (wd:KS)(K:Kr)(A:Kg Kn)(H:Hp)(S':aa)(C:Kn)(gs:Kg Ks)(ws:Kg W)(cls:Ki)(dd:Kk Kn)(H':Hp):Prop
 | no (A':Kg Kn) (ec:cls=.ref C) (eg:gs=[]) (ed:dd=gV) (e:Ext K A H A' H') (so:StoreOk wd K A' H' S'):EndX wd K A H S' C gs ws cls dd H'
 | at(A':Kg Kn) (dx:Kn) (vs:Kg V) (ec:cls=.ref C) (ed:dd=bt dx) (hd:H' dx=bt (.ext (Dx dx (gs.zip vs)))) (nd:∀(j:Kt) (o:O),S'[j]?=bt o->o.mut=true->A'[j]?≠bt dx) (e:Ext K A H A' H') (so:StoreOk wd K A' H' S') (r:RelL K A' H' ws vs):EndX wd K A H S' C gs ws cls dd H'
section
variable{X:Cx}{A:Kg Kn}{H H1:Hp}{S':aa}{C:Kn}{cd:Mb}{ws:Kg W}{vs:Kg V}{Ew:L2.XK}{g g2:Ks}{n:Kt}{e:Kn}
def C5 (Yj:XC X.K C cd)(hf:Nl X.K (.ref C) g=bt gV)(h:EndA X A H S' ws vs H1)(hl:ws.length=1)(he:H1 e=gV)(hn:n<=e)(hq:∀cls dd H',EndX X.w X.K A H S' C [g] ws cls dd H'->Ew cls dd H') :
  vE X.K g (.ref e::vs) (aE H1 e (.ext (Fx e C gV))) (λv H2=>v=.non/\XQ n C H1 Ew (.ref e) H2) E0:=by
 obtain⟨A',ex,so,r⟩:=h;obtain⟨v,rfl⟩ : ∃v,vs=[v]:=by
  have:=r.length
  match vs,this with
  | [v],_=>exact#[v,rfl]
  | [],q=>rw[hl]at q; cases q
  | _::_::_,q=>rw[hl]at q; cases q
 show#[e,v,C,cd,rfl,Yj,hf,am,λdx nd=>#[rfl,e,bt dx,rfl,hn,?_,λb u q=>?_,?_]]
 ·have ne:dx≠e:=λz=>by rw[z,am]at nd; cases nd
  rw[al (Ne.symm ne),am]
 ·by_cases z1:b=dx
  ·rw[z1,am]at q;cases q;exact .inr (.inr #[_,by rw[z1]])
  ·rw[al z1]at q
   by_cases z2:b=e
   ·exact .inr (.inl z2)
   ·rw[al z2,al z2]at q;exact .inl #[u,q]
 ·have ne:dx≠e:=λz=>by rw[z,am]at nd; cases nd
  have nd1:H1 dx=gV:=by rw[al ne]at nd; exact nd
  have eq:aE (aE (aE (aE H1 e (.ext (Fx e C gV))) e (.ext (Fx e C (bt dx)))) dx (.ext (Dx dx [(g,v)]))) e (.ext (Ex e C (bt dx)))=aE (aE H1 e (.ext (Ex e C (bt dx)))) dx (.ext (Dx dx [(g,v)])):=by
   funext b
   by_cases z2:b=e
   ·rw[z2,am,al (Ne.symm ne),am]
   ·rw[al z2]
    by_cases z1:b=dx
    ·rw[z1,am,am]
    ·rw[al z1,al z1,al z2,al z2,al z2]
  rw[eq];have e1:Ext X.K A' H1 A' (aE H1 e (.ext (Ex e C (bt dx)))):=aX (.inl he);have n2:aE H1 e (.ext (Ex e C (bt dx))) dx=gV:=by rw[al ne]; exact nd1
  have e2:Ext X.K A' (aE H1 e (.ext (Ex e C (bt dx)))) A' (aE (aE H1 e (.ext (Ex e C (bt dx)))) dx (.ext (Dx dx [(g,v)]))):=aX (.inl n2);exact hq _ _ _ (.at A' dx [v] rfl rfl am (λj o ej mj ea=>(so.obj j o dx ej ea).there mj nd1) (ex.trans (e1.trans e2)) ((so.lay he).lay n2) (r.mono (e1.trans e2)))
def C6 (Yj:XC X.K C cd)(h:EndA X A H S' ws vs H1)(hl:ws.length=0)(he:H1 e=gV)(hn:n<=e)(hq:∀cls dd H',EndX X.w X.K A H S' C [] ws cls dd H'->Ew cls dd H') :
  zf X.K (.ref e::vs) (aE H1 e (.ext (Fx e C gV))) (λv H2=>v=.non/\XQ n C H1 Ew (.ref e) H2) E0:=by
 obtain⟨A',ex,so,r⟩:=h;obtain rfl:vs=[]:=by
  have:=r.length
  match vs,this with
  | [],_=>rfl
  | _::_,q=>rw[hl]at q; cases q
 show#[e,C,cd,rfl,Yj,am,rfl,e,gV,rfl,hn,am,λb u q=>?_,?_]
 ·by_cases z2:b=e
  ·exact .inr (.inl z2)
  ·rw[al z2]at q;exact .inl #[u,q]
 ·rw[yA];exact hq _ _ _ (.no A' rfl rfl rfl (ex.trans (aX (.inl he))) (so.lay he))
end
end Mi
namespace Mi
open PySem PySem.Spec PyProof.Rows L2
abbrev tyOk (T:LR)(S:aa):W->KR
 | .str _=>T == "str"
 | .ref i=>(T == "list" && (gF S i).isSome)||(T == "dict" && (CS S i).isSome)
 | _=>false
abbrev Bt (T:LR)(g:W->Kg W->aa->Kk (W×aa))(fo:FE)(f:FA):FE:=λZ S=>match fo Z S with
 | some (x,S1)=>if tyOk T S1 x then match f Z S1 with
  | some (ws,S2)=>g x ws S2
  | none=>gV
  else gV
 | none=>gV
abbrev IM (fa fb:FE):FE:=zF nq fa fb
noncomputable abbrev FO:=Fm->aa->Kk (Kk KD×aa)
abbrev C7:FO:=λ_ S=>bt (gV,S)
abbrev rK (f:FE):FO:=λZ S=>match f Z S with
 | some (.int i,S1)=>bt (bt i,S1)
 | _=>gV
abbrev FP (fa:FE)(fl fh:FO):FE:=λZ S=>match fa Z S with
 | some (x,S1)=>match fl Z S1 with
  | some (lo,S2)=>match fh Z S2 with
   | some (hi,S3)=>md x lo hi S3
   | none=>gV
  | none=>gV
 | none=>gV
section
variable{X:Cx}
inductive rMeth (X:Cx)(g:W->Kg W->aa->Kk (W×aa))(a:V)(vs:Kg V)(H:Hp)(Q:VK):Prop
 | mk (A:Kg Kn) (S:aa) (x:W) (ws:Kg W) (w:W) (S':aa) (so:StoreOk X.w X.K A H S) (rx:Rel X.K A H x a) (rl:RelL X.K A H ws vs) (e:g x ws S=bt (w,S')) (q:∀v H',EndV X.w X.K A H S' w v H'->Q v H'):rMeth X g a vs H Q
def LMeth.mtr {id:LR}{g:W->Kg W->aa->Kk (W×aa)}(h:LMeth X id g):MtR X id (rMeth X g):=by
 intro J s Y H a vs u us Q I ru rv ⟨A,S,x,ws,w,S',so,rx,rl,e,hq⟩;exact aK (h J s Y H A S x a u ws vs us w S' I so rx ru rl rv e) λu' s' #[v',H',A',I',r',e1,o1,z1]=>#[v',H',I',r',hq v' H' #[A',e1,o1,z1]]
def tyOk.is {J:Kg (Kn×LJ)}{Y:L2.St}{s:Km}{A:Kg Kn}{H:Hp}{S:aa}{T:LR}{x:W}{a:V}{v:Ki}(I:Inv X J Y H s)(so:StoreOk X.w X.K A H S)(r:Rel X.K A H x a)(rv:RelV a v)(h:tyOk T S x=true) :
  s.TypeIs v T/\∀b,v=.ref b->∃ob,s.heap.get? b=bt ob/\ob.dict=gV:=by
 cases r with
 | str=>exact vh I rv (show Iy X.K T (.str _) H from eq_of_beq h)
 | ref ea=>
  simp only[tyOk,Ms,Kj]at h;rcases h with⟨h1,h2⟩|⟨h1,h2⟩
  ·obtain⟨xs,hx⟩:=LD.mp h2;obtain⟨vs,h3,_⟩:=ba so hx ea;exact vh I rv (show Iy X.K T (.ref _) H from .inl #[eq_of_beq h1,vs,h3])
  ·obtain⟨U,hx⟩:=LD.mp h2;obtain⟨xs,rd,_⟩:=vZ so hx ea;obtain⟨_,_,_,o,es,ep,q1,q2,q3,q4⟩:=rD I rd;have e:=eq_of_beq h1;subst e;obtain rfl:v=KZ _:=rv;exact#[#[o,q1,q2.1],λb e=>by cases e; exact#[o,q1,q2.2.1]]
 | _=>cases h
def C8 {o:KC}{name:Ks}{apos cpos:L9}{T id:LR}{g:W->Kg W->aa->Kk (W×aa)}{fo:FE}(pa:PlainAttrs T)(slot:Slot T name id)(hty:typeOf (.builtin id)=pure (.type "method_descriptor"))(hm:LMeth X id g)
  (ho:GE X o fo) (hbase:attributeBase o name X.env (eval o X.env)=eval o X.env) (hline:(apos.endLine==cpos.line)=true) :
  GE X (.Call (.Attribute o name apos) [] [] cpos) (Bt T g fo gM):=by
 intro J s Y H Q I ⟨A,Z,S,w,S',er,so,e,hq⟩;unfold Bt at e;split at e
 ·rename_i x S1 h1;split at e
  ·rename_i ht;dsimp only[gM]at e;show wpAny_Call_method0_late hbase hline (aK (ho J s Y H (EndV X.w X.K A H S1 x) I #[A,Z,S,_,_,er,so,h1,λ_ _ z=>z]) λv s1 #[a,H1,I1,r1,A1,e1,o1,z1]=>?_)
   obtain⟨t1,t2⟩:=tyOk.is I1 o1 z1 r1 ht;show#[T,id,pa,slot,hty,t1,t2,O6 rfl (PySem.evalArgs_none ?_)];show aK (hm J s1 Y H1 A1 S1 x a v [] [] [] w S' I1 o1 z1 r1 .nil .nil e) λu' s' #[v',H',A',I',r',e3,o3,z3]=>?_
   exact#[v',H',I',r',hq v' H' #[A',e1.trans e3,o3,z3]]
  ·cases e
 ·cases e
def rL {o e:KC}{es:Kg KC}{name:Ks}{apos cpos:L9}{T id:LR}{g:W->Kg W->aa->Kk (W×aa)}{fo:FE}{f:FA}(pa:PlainAttrs T)(slot:Slot T name id)(hty:typeOf (.builtin id)=pure (.type "method_descriptor"))(hm:LMeth X id g)
  (ho:GE X o fo) (ha:GA X (e::es) f) (hbase:attributeBase o name X.env (eval o X.env)=eval o X.env)
  (hfew:((backTo cpos (starEach (e::es) X.env)).all (λx=>!x.1)&&(backToKw cpos (keywordEach [] X.env)).all (λx=>x.1.isSome)
   && decide ((e::es).length+([]:Kg Qo).length+(if ([]:Kg Qo).isEmpty then 0 else 1) < 30))=true)
  (hline:(apos.endLine==cpos.line)=true) (hs:starEach (e::es) X.env=(false,eval e X.env)::starEach es X.env) (hplain:(backTo cpos (starEach es X.env)).any (·.1)=false) :
  GE X (.Call (.Attribute o name apos) (e::es) [] cpos) (Bt T g fo f):=by
 intro J s Y H Q I ⟨A,Z,S,w,S',er,so,e,hq⟩;unfold Bt at e;split at e
 ·rename_i x S1 h1;split at e
  ·rename_i ht;split at e
   ·rename_i ws S2 h2;show wpAny_Call_method_late hbase hfew hline rfl (aK (ho J s Y H (EndV X.w X.K A H S1 x) I #[A,Z,S,_,_,er,so,h1,λ_ _ z=>z]) λv s1 #[a,H1,I1,r1,A1,e1,o1,z1]=>?_)
    obtain⟨t1,t2⟩:=tyOk.is I1 o1 z1 r1 ht;show#[T,id,pa,slot,hty,t1,t2,?_];have hA:=ha cpos J s1 Y H1 (EndA X A1 H1 S2 ws) I1 #[A1,Z,S1,ws,S2,er.mono e1,o1,h2,λ_ _ z=>z]
    rw[hs]at hA ⊢;show O6 (by show(false||(backTo cpos (starEach es X.env)).any (·.1))=false; rw[hplain] <;> rfl) (Calls.evalArgs_plain ?_)
    show aK hA λus s2 #[vs,H2,I2,r2,A2,e2,o2,z2]=>?_
    show aK (hm J s2 Y H2 A2 S2 x a v ws vs us w S' I2 o2 (z1.mono e2) r1 z2 r2 e) λu' s' #[v',H',A',I',r',e3,o3,z3]=>?_
    exact#[v',H',I',r',hq v' H' #[A',(e1.trans e2).trans e3,o3,z3]]
   ·cases e
  ·cases e
 ·cases e
def LIx.ixr {g:W->W->aa->Kk (W×aa)}(h:LIx X g):IxR X (rOp X g):=by
 intro value slice J s Y H a b u v Q I ru rv ⟨A,S,x,y,w,S',so,rx,ry,e,hq⟩ hs;exact aK (h value slice J s Y H A S x y a b u v w S' I so rx ru ry rv e hs) λu' s' #[v',H',A',I',r',e1,o1,z1]=>#[v',H',I',r',hq v' H' #[A',e1,o1,z1]]
def FQ {a b:KC}{pos:L9}{fa fb:FE}(hu:X.A.units+10 < cLine)(ha:GE X a fa)(hb:GE X b fb)(hs:jc b):GE X (.Subscript a b pos) (IM fa fb):=
 GE.of (Fj (IH hu).ixr ha hb hs) λY H A Z S w S' er so e Q hq=>by
  obtain⟨x,S1,y,S2,h1,h2,h3⟩:=two e;exact dw er so h1 h2 λa b H2 A2 e2 o2 r1 r2=>#[A2,S2,x,y,w,S',o2,r1,r2,h3,λv H' z=>hq v H' (z.after e2)]
inductive tO (X:Cx)(f:FO)(Y:L2.St)(H:Hp)(Q:Kk KD->Hp->Prop):Prop
 | mk (A:Kg Kn) (Z:Fm) (S:aa) (k:Kk KD) (S':aa) (er:EnvRel X.K A H Z Y) (so:StoreOk X.w X.K A H S) (e:f Z S=bt (k,S')) (q:∀H' A',Ext X.K A H A' H'->StoreOk X.w X.K A' H' S'->Q k H'):tO X f Y H Q
noncomputable abbrev GO (X:Cx)(e:Kk KC)(f:FO):Prop:=PO X e (tO X f)
def zK:GO X gV C7:=λJ s Y H Q I #[A,Z,S,k,S',er,so,e,hq]=>by
 cases e;exact yR J s Y H Q I (hq H A .refl so)
def zL {e:KC}{f:FE}(h:GE X e f):GO X (bt e) (rK f):=λJ s Y H Q I #[A,Z,S,k,S',er,so,e,hq]=>by
 unfold rK at e;split at e
 ·rename_i i S1 h1;cases e;show yS h J s Y H Q I #[A,Z,S,_,_,er,so,h1,λv H1 #[A1,z1,z2,z3]=>?_]
  cases z3;exact#[i,rfl,hq H1 A1 z1 z2]
 ·cases e
inductive rSl (X:Cx)(g:W->Kk KD->Kk KD->aa->Kk (W×aa))(a:V)(lo hi:Kk KD)(H:Hp)(Q:VK):Prop
 | mk (A:Kg Kn) (S:aa) (x w:W) (S':aa) (so:StoreOk X.w X.K A H S) (rx:Rel X.K A H x a) (e:g x lo hi S=bt (w,S')) (q:∀v H',EndV X.w X.K A H S' w v H'->Q v H'):rSl X g a lo hi H Q
def LSl.slr {g:W->Kk KD->Kk KD->aa->Kk (W×aa)}(h:LSl X g):Fi X (rSl X g):=by
 intro J s Y H a v vl vu lo hi sl Q I rv hs pl pu ⟨A,S,x,w,S',so,rx,e,hq⟩;obtain⟨T,id,h1,h2,h3⟩:=h J s Y H A S x a v vl vu lo hi sl w S' I so rx rv hs pl pu e;exact#[T,id,h1,h2,aK h3 λu' s' #[v',H',A',I',r',e1,o1,z1]=>#[v',H',I',r',hq v' H' #[A',e1,o1,z1]]]
def FR {a:KC}{lo hi:Kk KC}{p2 pos:L9}{fa:FE}{fl fh:FO}(ha:GE X a fa)(hl:GO X lo fl)(hh:GO X hi fh):GE X (.Subscript a (.Slice lo hi gV p2) pos) (FP fa fl fh):=
 GE.of (vd JX.slr ha hl hh) λY H A Z S w S' er so e Q hq=>by
  unfold FP at e;split at e
  ·rename_i x S1 h1;split at e
   ·rename_i l S2 h2;split at e
    ·rename_i h S3 h3;show#[A,Z,S,x,S1,er,so,h1,λv H1 #[A1,z1,z2,z3]=>?_]
     show#[A1,Z,S1,l,S2,er.mono z1,z2,h2,λH2 A2 y1 y2=>?_]
     show#[A2,Z,S2,h,S3,er.mono (z1.trans y1),y2,h3,λH3 A3 x1 x2=>?_]
     exact#[A3,S3,x,w,S',x2,(z3.mono y1).mono x1,e,λv H' q=>hq v H' (q.after ((z1.trans y1).trans x1))]
    ·cases e
   ·cases e
  ·cases e
noncomputable abbrev FF:=Kg W->aa->Kk (W×aa)
inductive spF (wd:KS)(K:Kr)(n:Kt)(g:FF)(vs:Kg V)(H:Hp)(Q:VK)(E:XK):Prop
 | mk (A:Kg Kn) (S:aa) (ws:Kg W) (w:W) (S':aa) (so:StoreOk wd K A H S) (rl:RelL K A H ws vs) (hl:ws.length=n) (e:g ws S=bt (w,S')) (q:∀v H',EndV wd K A H S' w v H'->Q v H'):spF wd K n g vs H Q E
abbrev dI (n:Kt)(g:FF)(f:FA):FE:=λZ S=>match f Z S with
 | some (ws,S1)=>if ws.length=n then g ws S1 else gV
 | none=>gV
def nZ {n:Kt}{g:FF}{f:FA}{Y:L2.St}{H:Hp}{A:Kg Kn}{Z:Fm}{S:aa}{w:W}{S':aa}{E:XK}(er:EnvRel X.K A H Z Y)(so:StoreOk X.w X.K A H S)(e:dI n g f Z S=bt (w,S'))(Q:VK)(hq:∀v H',EndV X.w X.K A H S' w v H'->Q v H') :
  u7 (spF X.w X.K n g) [] E (tA X f) Y H Q:=by
 unfold dI at e;split at e
 ·rename_i ws S1 h1;split at e
  ·rename_i hl;show#[A,Z,S,ws,S1,er,so,h1,λvs H1 #[A1,z1,z2,z3]=>?_]
   change spF X.w X.K n g (vs++[]) H1 Q E;rw[LK];exact#[A1,S1,ws,w,S',z2,z3,hl,e,λv H' q=>hq v H' (q.after z1)]
  ·cases e
 ·cases e
def C9 {k n:Kt}{fa:Kn}{fd:Lv}{ps:Kg Ks}{g:FF}{x:Ks}{e:KC}{es:Kg KC}{p pos:L9}{f:FA}(F:FnOk X.prog X.w X.K X.mg X.base jF k fa fd ps (spF X.w X.K n g))(hr:Room k X.A)(hg:Gl X x)(hm:X.mg x=bt (.ref fa))(hk:Lw X.K (.ref fa)=true)
  (hb:Binds X.K fd ps []) (ha:GA X (e::es) f) (hdb:(x==("__debug__" : Ks))=false) (he:starEach (e::es) X.env=(false,eval e X.env)::starEach es X.env) (hpl:(backTo pos (starEach es X.env)).any (·.1)=false) :
  GE X (.Call (.Name x p) (e::es) [] pos) (dI n g f):=
 GE.of (yO F hr hg hm hk hb .nil q8 ha hdb he hpl) λY H A Z S w S' er so e Q hq=>nZ er so e Q hq
def zM {k n:Kt}{fa:Kn}{fd:Lv}{ps:Kg Ks}{g:FF}{x:Ks}{p pos:L9}(F:FnOk X.prog X.w X.K X.mg X.base jF k fa fd ps (spF X.w X.K n g))(hr:Room k X.A)(hg:Gl X x)(hm:X.mg x=bt (.ref fa))(hk:Lw X.K (.ref fa)=true)
  (hb:Binds X.K fd ps []) (hdb:(x==("__debug__" : Ks))=false):GE X (.Call (.Name x p) [] [] pos) (dI n g gM):=
 GE.of (u9 F hr hg hm hk hb .nil q8 hdb) λY H A Z S w S' er so e Q hq=>by
  obtain⟨A1,S1,ws,w1,S1',a1,a2,a3,a4,a5⟩:=nZ (f:=gM) (E:=E0) er so e Q hq |> λ#[A,Z,S,ws,S',b1,b2,b3,b4]=>b4 [] H (by cases b3; exact#[A,.refl,b2,.nil])
  exact#[A1,S1,ws,w1,S1',a1,a2,a3,a4,a5]
def gN:GSs X [] (λZ S=>bt (.nx Z,S)):=GSs.of yE λY H A Z S o S' er so e D hd=>by cases e; exact hd.nx _ _ #[Z,A,rfl,.refl,so,er]
abbrev iZ (f g:FS):FS:=λZ S=>match f Z S with
 | some (.nx Z',S1)=>g Z' S1
 | some (.rt w,S1)=>bt (.rt w,S1)
 | some (.bk Z',S1)=>bt (.bk Z',S1)
 | some (.ct Z',S1)=>bt (.ct Z',S1)
 | none=>gV
def jY {st:LO}{sts:Kg LO}{f g:FS}(h:GS X st f)(h2:GSs X sts g):GSs X (st::sts) (iZ f g):=GSs.of (ju h h2) λY H A Z S o S' er so e D hd=>by
 unfold iZ at e;split at e
 ·rename_i Z1 S1 h1;show#[A,Z,S,_,_,er,so,h1,#[λY' H' #[Z',A',e1,e2,e3,e4]=>?_,λv H' #[w,A',e1,_,_,_]=>(by cases e1),λv H' #[w,A',e1,_,_,_]=>(by cases e1),λv H' #[w,A',e1,_,_,_]=>(by cases e1)]]
  cases e1;exact#[A',_,S1,o,S',e4,e3,e,(EndS.after e2).trans hd]
 ·rename_i w S1 h1;cases e;exact#[A,Z,S,_,_,er,so,h1,#[λY' H' #[w,A',e1,_,_,_]=>(by cases e1),hd.rt,hd.bk,hd.ct]]
 ·rename_i w S1 h1;cases e;exact#[A,Z,S,_,_,er,so,h1,#[λY' H' #[w,A',e1,_,_,_]=>(by cases e1),hd.rt,hd.bk,hd.ct]]
 ·rename_i w S1 h1;cases e;exact#[A,Z,S,_,_,er,so,h1,#[λY' H' #[w,A',e1,_,_,_]=>(by cases e1),hd.rt,hd.bk,hd.ct]]
 ·cases e
abbrev n0 (f:FE):FS:=λZ S=>match f Z S with
 | some (_,S1)=>bt (.nx Z,S1)
 | none=>gV
def FU {e:KC}{pos:L9}{f:FE}(h:GE X e f)(hs:swapsWith e gV pos.line X.env=pure false):GS X (.Expr e pos) (n0 f):=GS.of (lZ h hs) λY H A Z S o S' er so e D hd=>by
 unfold n0 at e;split at e
 ·rename_i w S1 h1;cases e;exact#[A,Z,S,w,_,er,so,h1,λv H1 #[A1,z1,z2,z3]=>hd.nx _ _ #[Z,A1,rfl,z1,z2,er.mono z1]]
 ·cases e
abbrev wq:FS:=λZ S=>bt (.nx Z,S)
def Db {x:Ks}{j:Kt}{pos pos':L9}:GS X (.Expr (.Constant (.str x) j pos) pos') wq:=GS.of Cc λY H A Z S o S' er so e D hd=>by cases e; exact hd.nx _ _ #[Z,A,rfl,.refl,so,er]
def zN {pos:L9}:GS X (.Pass pos) wq:=GS.of yF λY H A Z S o S' er so e D hd=>by cases e; exact hd.nx _ _ #[Z,A,rfl,.refl,so,er]
def wt {pos:L9}:GS X (.Break pos) (λZ S=>bt (.bk Z,S)):=GS.of uT λY H A Z S o S' er so e D hd=>by cases e; exact hd.bk _ _ #[Z,A,rfl,.refl,so,er]
def zO {pos:L9}:GS X (.Continue pos) (λZ S=>bt (.ct Z,S)):=GS.of nz λY H A Z S o S' er so e D hd=>by cases e; exact hd.ct _ _ #[Z,A,rfl,.refl,so,er]
abbrev n4 (f:FE):FS:=λZ S=>match f Z S with
 | some (w,S1)=>bt (.rt w,S1)
 | none=>gV
def ql {e:KC}{pos:L9}{f:FE}(h:GE X e f):GS X (.Return (bt e) pos) (n4 f):=GS.of (Cd h) λY H A Z S o S' er so e D hd=>by
 unfold n4 at e;split at e
 ·rename_i w S1 h1;cases e;exact#[A,Z,S,w,_,er,so,h1,λv H1 #[A1,z1,z2,z3]=>hd.rt _ _ #[w,A1,rfl,z1,z2,z3]]
 ·cases e
def zP {pos:L9}:GS X (.Return gV pos) (λZ S=>bt (.rt .non,S)):=GS.of yG λY H A Z S o S' er so e D hd=>by cases e; exact hd.rt _ _ #[_,A,rfl,.refl,so,.non]
abbrev gO (c:FT)(f g:FS):FS:=λZ S=>match c Z S with
 | some (true,S1)=>f Z S1
 | some (false,S1)=>g Z S1
 | none=>gV
def Bu {c:KC}{a b:Kg LO}{pos:L9}{fc:FT}{f g:FS}(hc:GT X c fc)(ha:GSs X a f)(hb:GSs X b g):GS X (.If c a b pos) (gO fc f g):=GS.of (uU hc ha hb) λY H A Z S o S' er so e D hd=>by
 unfold gO at e;split at e
 ·rename_i S1 h1;show#[A,Z,S,_,S1,er,so,h1,λb H1 #[z0,A1,z1,z2]=>?_]
  subst z0;rw[KQ rfl];exact#[A1,Z,S1,o,S',er.mono z1,z2,e,(EndS.after z1).trans hd]
 ·rename_i S1 h1;show#[A,Z,S,_,S1,er,so,h1,λb H1 #[z0,A1,z1,z2]=>?_]
  subst z0;rw[KY KL];exact#[A1,Z,S1,o,S',er.mono z1,z2,e,(EndS.after z1).trans hd]
 ·cases e
noncomputable abbrev FG:=W->Fm->aa->Kk (Fm×aa)
inductive tG (X:Cx)(f:FG)(v:V)(Y:L2.St)(H:Hp)(Q:L2.St->Hp->Prop):Prop
 | mk (A:Kg Kn) (Z:Fm) (S:aa) (w:W) (Z':Fm) (S':aa) (er:EnvRel X.K A H Z Y) (so:StoreOk X.w X.K A H S) (r:Rel X.K A H w v) (e:f w Z S=bt (Z',S')) (q:∀Y' H' A',Ext X.K A H A' H'->StoreOk X.w X.K A' H' S'->EnvRel X.K A' H' Z' Y'->Q Y' H'):tG X f v Y H Q
noncomputable abbrev GG (X:Cx)(tg:KC)(f:FG):Prop:=PG X tg (tG X f)
abbrev zQ (i:Kt):FG:=λw Z S=>bt (Z.set i (bt w),S)
def jh {i:Kt}{x:Ks}{pos:L9}(hN:X.N.Nodup)(hi:X.N[i]?=bt x)(hx:uQ X.env.scope x)(hf:X.fn x=true\/X.env.scope.names.lookup x=bt .local):GG X (.Name x pos) (zQ i):=by
 intro J s Y H v u Q I r ⟨A,Z,S,w,Z',S',er,so,rw',e,hq⟩;cases e;exact qU hN hi hx hf J s Y H v u Q I r (hq _ _ A .refl so (er.set rw' i))
abbrev gm:Kg Kt->Kg W->Fm->Kk Fm
 | [],[],Z=>bt Z
 | i::is,w::ws,Z=>gm is ws (Z.set i (bt w))
 | _,_,_=>gV
abbrev Dc (is:Kg Kt):FG:=λw Z S=>match w with
 | .tup ws=>(gm is ws Z).map λZ'=>(Z',S)
 | _=>gV
def t9:∀ {ts:Kg KC} {is:Kg Kt},(∀x∈ts,∃y p,x=.Name y p)->OY (λ(t:KC) (i:Kt)=>∃x p,t=PD x p/\X.N[i]?=bt x/\uQ X.env.scope x/\(X.fn x=true\/X.env.scope.names.lookup x=bt .local)) ts is->X.N.Nodup->
  E4 X ts (λvs Y H Q=>∃A Z ws Z' S,EnvRel X.K A H Z Y/\StoreOk X.w X.K A H S/\RelL X.K A H ws vs/\gm is ws Z=bt Z'/\∀Y',EnvRel X.K A H Z' Y'->Q Y' H):=by
 intro ts
 induction ts with
 | nil=>
  intro is _ h hN;cases h;intro J s Y H vs us Q I r ⟨A,Z,ws,Z',S,er,so,rl,e,hq⟩;cases rl with
  | nil=>cases e; exact yH J s Y H [] us Q I r #[rfl,hq _ er]
  | cons _ _=>cases e
 | cons t ts ih=>
  intro is hs h hN;cases h with
  | cons h1 h2=>
   obtain⟨x,p,rfl,hi,hl,hf⟩:=h1;have:=ih (λy hy=>hs y (KM _ hy)) h2 hN
   intro J s Y H vs us Q I r ⟨A,Z,ws,Z',S,er,so,rl,e,hq⟩;cases rl with
   | nil=>cases e
   | cons r1 r2=>
    show uV (qU hN hi hl hf) this rfl J s Y H _ us Q I r #[_,_,rfl,?_];exact#[A,_,_,Z',S,er.set r1 _,so,r2,e,hq]
def wu {ts:Kg KC}{is:Kg Kt}{k:Kt}{pos:L9}(hc:X.calm=true)(hs:∀x∈ts,∃y p,x=.Name y p)(h:OY (λ(t:KC) (i:Kt)=>∃x p,t=PD x p/\X.N[i]?=bt x/\uQ X.env.scope x/\(X.fn x=true\/X.env.scope.names.lookup x=bt .local)) ts is)(hN:X.N.Nodup)
  (hn:(assignEach ts X.env).length=ts.length) (hst:(assignEach ts X.env).findIdx? (·.1)=gV):GG X (.Tuple ts k pos) (Dc is):=by
 intro J s Y H v u Q I r ⟨A,Z,S,w,Z',S',er,so,rw',e,hq⟩;unfold Dc at e;split at e
 ·rw[Ko]at e;obtain⟨Z1,e1,e2⟩:=e;cases e2;cases rw' with
  | tup h1 r1=>
   have hl:∀(is:Kg Kt) (ws:Kg W) (Z Z':Fm),gm is ws Z=bt Z'->is.length=ws.length:=by
    intro is
    induction is with
    | nil=>intro ws Z Z' e; cases ws <;> first|rfl|cases e
    | cons i is ih=>intro ws Z Z' e; cases ws <;> first|cases e|(simp; exact ih _ _ _ e)
   exact Ch hc (t9 hs h hN) hn hst J s Y H _ u Q I r #[_,_,rfl,h1,by rw[<- r1.length,<- hl _ _ _ _ e1,<- PQ h],A,Z,_,_,_,er,so,r1,e1,λY' z=>hq _ _ A .refl so z]
 ·cases e
abbrev zR (fo fi:FE):FG:=λw Z S=>match fo Z S with
 | some (o,S1)=>match fi Z S1 with
  | some (i,S2)=>match qb o i w S2 with
   | some S3=>bt (Z,S3)
   | none=>gV
  | none=>gV
 | none=>gV
inductive rSet (X:Cx)(g:W->W->W->aa->Kk aa)(ao ai av:V)(H:Hp)(Q:Hp->Prop):Prop
 | mk (A:Kg Kn) (S:aa) (o i w:W) (S':aa) (so:StoreOk X.w X.K A H S) (r1:Rel X.K A H o ao) (r2:Rel X.K A H i ai) (r3:Rel X.K A H w av) (e:g o i w S=bt S') (q:∀H' A',Ext X.K A H A' H'->StoreOk X.w X.K A' H' S'->Q H'):rSet X g ao ai av H Q
def LSet.pset {g:W->W->W->aa->Kk aa}(h:LSet X g):Cg X (rSet X g):=by
 intro J s Y H ao ai av uo ui uv Q I ro ri rv ⟨A,S,o,i,w,S',so,r1,r2,r3,e,hq⟩;exact aK (h J s Y H A S o i w ao ai av uo ui uv S' I so r1 ro r2 ri r3 rv e) λ_ s' #[H',A',I',e1,o1]=>#[H',I',hq H' A' e1 o1]
def De {o i:KC}{pos:L9}{fo fi:FE}(hu:X.A.units+10 < cLine)(ho:GE X o fo)(hi:GE X i fi)(ha:∀v,assign (.Subscript o i pos) X.env v=(do
   let ov <- holding [v] (eval o X.env)
   let iv <- holding [v,ov] (eval i X.env)
   standAt pos
   holding [v,ov,iv] (setItem ov iv v)
   release [v,ov,iv] [])):GG X (.Subscript o i pos) (zR fo fi):=by
 intro J s Y H v u Q I r ⟨A,Z,S,w,Z',S',er,so,rw',e,hq⟩;unfold zR at e;split at e
 ·rename_i o' S1 h1;split at e
  ·rename_i i' S2 h2;split at e
   ·rename_i S3 h3;cases e;show Ci ho hi (FJ hu).pset ha J s Y H v u Q I r ?_;show#[A,Z,S,o',S1,er,so,h1,λa H1 #[A1,e1,o1,r1]=>?_]
    show#[A1,Z,S1,i',S2,er.mono e1,o1,h2,λb H2 #[A2,e2,o2,r2]=>?_]
    exact#[A2,S2,o',i',w,_,o2,r1.mono e2,r2,rw'.mono (e1.trans e2),h3,λH' A' z1 z2=>hq Y H' A' ((e1.trans e2).trans z1) z2 (er.mono ((e1.trans e2).trans z1))]
   ·cases e
  ·cases e
 ·cases e
abbrev dJ (f:FE)(g:FG):FS:=λZ S=>match f Z S with
 | some (w,S1)=>match g w Z S1 with
  | some (Z',S2)=>bt (.nx Z',S2)
  | none=>gV
 | none=>gV
def mx {tg e:KC}{pos:L9}{f:FE}{g:FG}(h:GE X e f)(hg:GG X tg g)(hs:swapsWithSole [tg] e pos.line X.env=pure false)(hw:swappedStores [tg] e X.env=pure gV)(h1:(assignEach [tg] X.env).map (·.2)=[assign tg X.env]) :
  GS X (.Assign [tg] e pos) (dJ f g):=GS.of (uW h hg hs hw h1) λY H A Z S o S' er so e D hd=>by
 unfold dJ at e;split at e
 ·rename_i w S1 h1;split at e
  ·rename_i Z1 S2 h2;cases e;show#[A,Z,S,w,S1,er,so,h1,λv H1 #[A1,z1,z2,z3]=>?_]
   exact#[A1,Z,S1,w,Z1,_,er.mono z1,z2,z3,h2,λY' H' A' y1 y2 y3=>hd.nx _ _ #[Z1,A',rfl,z1.trans y1,y2,y3]]
  ·cases e
 ·cases e
abbrev ww (i j:Kt)(f:FA):FS:=λZ S=>match f Z S with
 | some ([x,y],S1)=>bt (.nx ((Z.set i (bt x)).set j (bt y)),S1)
 | _=>gV
def Dg {i j:Kt}{x y:Ks}{a b:KC}{f:FA}{px py pt pos:L9}{kt k2:Kt}{pt2:L9}(hc:X.calm=true)(hN:X.N.Nodup)(hi:X.N[i]?=bt x)(hj:X.N[j]?=bt y)(hij:i≠j)
  (hx:X.env.scope.names.lookup x=bt .local) (hy:X.env.scope.names.lookup y=bt .local) (ha:GA X [a,b] f)
  (hw:swappedStores [.Tuple [.Name x px,.Name y py] kt pt] (.Tuple [a,b] k2 pt2) X.env=pure (bt [x,y]))
  (hs:swapsWithSole [.Tuple [.Name x px,.Name y py] kt pt] (.Tuple [a,b] k2 pt2) pos.line X.env=pure false) :
  GS X (.Assign [.Tuple [.Name x px,.Name y py] kt pt] (.Tuple [a,b] k2 pt2) pos) (ww i j f):=GS.of (Cj hc hN hi hj hij hx hy ha hw hs) λY H A Z S o S' er so e D hd=>by
 unfold ww at e;split at e
 ·rename_i x y S1 h1;cases e;show#[A,Z,S,_,_,er,so,h1,λvs H1 #[A1,z1,z2,z3]=>?_]
  cases z3 with
  | cons r1 t=>
   cases t with
   | cons r2 t=>
    cases t;exact#[_,_,rfl,hd.nx _ _ #[_,A1,rfl,z1,z2,((er.mono z1).set r1 i).set r2 j]]
 ·cases e
abbrev my (c:FT)(b:FS):Kt->FS
 | 0,_,_=>gV
 | n+1,Z,S=>match c Z S with
  | some (true,S1)=>match b Z S1 with
   | some (.nx Z',S2)=>my c b n Z' S2
   | some (.ct Z',S2)=>my c b n Z' S2
   | some (.bk Z',S2)=>bt (.nx Z',S2)
   | some (.rt w,S2)=>bt (.rt w,S2)
   | none=>gV
  | some (false,S1)=>bt (.nx Z,S1)
  | none=>gV
def wx {c:KC}{body:Kg LO}{pos:L9}{fc:FT}{fb:FS}(n:Kt)(hp:Ob (model X.prog X.w) X.A X.env X.xe)(hc:GT X c fc)(hb:GSs X body fb):GS X (.While c body [] pos) (my fc fb n):=GS.of (uX hp hc hb) λY H A Z S o S' er so e D hd=>by
 show#[λm Y1 H1=>∃A1 Z1 S1,Ext X.K A H A1 H1/\EnvRel X.K A1 H1 Z1 Y1/\StoreOk X.w X.K A1 H1 S1/\my fc fb m Z1 S1=bt (o,S'),#[n,A,Z,S,.refl,er,so,e],?_]
 rintro m Y1 H1 ⟨A1,Z1,S1,e1,er1,so1,w1⟩;cases m with
 | zero=>cases w1
 | succ m=>
  dsimp only[my]at w1;split at w1
  ·rename_i S2 h1;show#[A1,Z1,S1,_,S2,er1,so1,h1,λb H2 #[z0,A2,z1,z2]=>?_]
   subst z0;rw[KQ rfl];show#[λY3 H3=>∃A3 Z3 S3,Ext X.K A H A3 H3/\EnvRel X.K A3 H3 Z3 Y3/\StoreOk X.w X.K A3 H3 S3/\my fc fb m Z3 S3=bt (o,S'),λY' H' h=>#[m,Ln _,h],?_]
   split at w1
   ·rename_i Z3 S3 h3;show#[A2,Z1,S2,_,S3,er1.mono z1,z2,h3,#[λY' H' #[Z',A',y0,y1,y2,y3]=>?_,λv H' #[w,A',y0,_,_,_]=>(by cases y0),λv H' #[w,A',y0,_,_,_]=>(by cases y0),λv H' #[w,A',y0,_,_,_]=>(by cases y0)]]
    cases y0;exact#[A',_,S3,(e1.trans z1).trans y1,y3,y2,w1]
   ·rename_i Z3 S3 h3;show#[A2,Z1,S2,_,S3,er1.mono z1,z2,h3,#[λv H' #[w,A',y0,_,_,_]=>(by cases y0),λv H' #[w,A',y0,_,_,_]=>(by cases y0),λv H' #[w,A',y0,_,_,_]=>(by cases y0),λY' H' #[Z',A',y0,y1,y2,y3]=>?_]]
    cases y0;exact#[A',_,S3,(e1.trans z1).trans y1,y3,y2,w1]
   ·rename_i Z3 S3 h3;cases w1;show#[A2,Z1,S2,_,_,er1.mono z1,z2,h3,#[λv H' #[w,A',y0,_,_,_]=>(by cases y0),λv H' #[w,A',y0,_,_,_]=>(by cases y0),λY' H' #[Z',A',y0,y1,y2,y3]=>?_,λv H' #[w,A',y0,_,_,_]=>(by cases y0)]]
    cases y0;exact hd.nx _ _ #[_,A',rfl,(e1.trans z1).trans y1,y2,y3]
   ·rename_i w3 S3 h3;cases w1;show#[A2,Z1,S2,_,_,er1.mono z1,z2,h3,#[λv H' #[w,A',y0,_,_,_]=>(by cases y0),λv H' #[w,A',y0,y1,y2,y3]=>?_,λv H' #[w,A',y0,_,_,_]=>(by cases y0),λv H' #[w,A',y0,_,_,_]=>(by cases y0)]]
    cases y0;exact hd.rt _ _ #[_,A',rfl,(e1.trans z1).trans y1,y2,y3]
   ·cases w1
  ·rename_i S2 h1;cases w1;show#[A1,Z1,S1,_,_,er1,so1,h1,λb H2 #[z0,A2,z1,z2]=>?_]
   subst z0;rw[KY KL];exact hd.nx _ _ #[_,A2,rfl,e1.trans z1,z2,er1.mono z1]
  ·cases w1
abbrev zS (xs:Kg W)(S:aa):Kk (W×aa):=match xs with
 | [.int i]=>if i.natAbs < 1000 then bt (.str (LY (toString i)),S)else gV
 | _=>gV
def ud:LCall X (.type "str") zS:=by
 intro J s Y H A S xs vs us w S' I so rl rv e;cases rl with
 | nil=>cases e
 | cons r t=>
  cases t with
  | cons _ _=>cases r <;> cases e
  | nil=>
   cases r with
   | int=>
    rename_i i;unfold zS at e;dsimp only at e;split at e
    ·rename_i hi;cases e;show CallR.go (r:=λxs H Q=>xs=[.int i]/\Q (.str (LY (toString i))) H) ?_ I rv #[rfl,.here so .str]
     intro J s Y H xs us Q I r h;obtain⟨rfl,q⟩:=h;obtain⟨u,rfl,t,rfl⟩:=jw r;show P.str_of_int ?_ #[.str _,H,I.tok _,#[_,rfl],q];have hp:i.natAbs < 2 ^ 10:=∅
     by_cases h0:i.natAbs=0
     ·rw[h0]; decide
     ·have:=(Nat.log2_lt h0).mpr hp;omega
    ·cases e
   | _=>cases e
end
end Mi
namespace Mi
open PySem PySem.Spec PyProof.Rows L2 Xc
noncomputable abbrev FX:=Fm->aa->Kk (Ks×Kg W×aa)
noncomputable abbrev Cl:=Ks->Kk (Kn×Kg Ks)
inductive tX (X:Cx)(cl:Cl)(Ew:L2.XK)(fx:FX)(Y:L2.St)(H:Hp):Prop
 | mk (A:Kg Kn) (Z:Fm) (S:aa) (cn:Ks) (ws:Kg W) (S':aa) (C:Kn) (gs:Kg Ks) (er:EnvRel X.K A H Z Y) (so:StoreOk X.w X.K A H S) (e:fx Z S=bt (cn,ws,S')) (hc:cl cn=bt (C,gs))
   (q:∀cls dd H',EndX X.w X.K A H S' C gs ws cls dd H'->Ew cls dd H'):tX X cl Ew fx Y H
abbrev GX (X:Cx)(cl:Cl)(Ew:L2.XK)(st:LO)(f:FS)(fx:FX):Prop:=PS X st λD Y H=>tS X f D Y H\/tX X cl Ew fx Y H
abbrev Bv (X:Cx)(cl:Cl)(Ew:L2.XK)(sts:Kg LO)(f:FS)(fx:FX):Prop:=PSs X sts λD Y H=>tS X f D Y H\/tX X cl Ew fx Y H
abbrev JC:FX:=λ_ _=>gV
abbrev JD:FS:=λ_ _=>gV
abbrev jZ (cn:Ks)(k:Kt)(f:FA):FX:=λZ S=>match f Z S with
 | some (ws,S1)=>if ws.length=k then bt (cn,ws,S1)else gV
 | none=>gV
def n6 {cn:Ks}{k:Kt}{f:FA}{Z:Fm}{S:aa}{r:Ks×Kg W×aa}(h:jZ cn k f Z S=bt r):r.1=cn/\f Z S=bt r.2/\r.2.1.length=k:=by
 unfold jZ at h;split at h
 ·rename_i ws S1 e;split at h
  ·rename_i hl; cases h; exact#[rfl,e,hl]
  ·cases h
 ·cases h
section
variable{X:Cx}{cl:Cl}{Ew:L2.XK}
def og {st:LO}{f:FS}(h:GS X st f):GX X cl Ew st f JC:=λJ s Y H D I q=>by
 rcases q with q|⟨_,_,_,_,_,_,_,_,_,_,e,_⟩
 ·exact h J s Y H D I q
 ·cases e
def zT:Bv X cl Ew [] (λZ S=>bt (.nx Z,S)) JC:=λJ s Y H D I q=>by
 rcases q with q|⟨_,_,_,_,_,_,_,_,_,_,e,_⟩
 ·exact gN J s Y H D I q
 ·cases e
abbrev rM (f:FS)(fx gx:FX):FX:=λZ S=>match f Z S with
 | some (.nx Z',S1)=>gx Z' S1
 | some _=>gV
 | none=>fx Z S
def EndX.after {A A1:Kg Kn}{H H1:Hp}{S':aa}{C:Kn}{gs:Kg Ks}{ws:Kg W}{cls:Ki}{dd:Kk Kn}{H':Hp}(e:Ext X.K A H A1 H1)(h:EndX X.w X.K A1 H1 S' C gs ws cls dd H'):EndX X.w X.K A H S' C gs ws cls dd H':=by
 cases h with
 | no A' ec eg ed e' so=>exact .no A' ec eg ed (e.trans e') so
 | «at» A' dx vs ec ed hd nd e' so r=>exact .at A' dx vs ec ed hd nd (e.trans e') so r
def wy {st:LO}{sts:Kg LO}{f g:FS}{fx gx:FX}(h:GX X cl Ew st f fx)(h2:Bv X cl Ew sts g gx):Bv X cl Ew (st::sts) (iZ f g) (rM f fx gx):=λJ s Y H D I q=>by
 show ju h h2 J s Y H D I ?_;rcases q with⟨A,Z,S,o,S',er,so,e,d⟩|⟨A,Z,S,cn,ws,S',C,gs,er,so,e,hc,q⟩
 ·apply Or.inl;unfold iZ at e;split at e
  ·rename_i Z' S1 e1;show#[A,Z,S,_,S1,er,so,e1,#[λY' H' #[Z2,A',eo,ex,so',er']=>?_,λv H' #[_,_,eo,_,_,_]=>(by cases eo),λY' H' #[_,_,eo,_,_,_]=>(by cases eo),λY' H' #[_,_,eo,_,_,_]=>(by cases eo)]]
   cases eo;have di:=EndS.after (o:=o) (S':=S') ex;exact .inl #[A',Z',S1,o,S',er',so',e,#[λa b z=>d.nx a b (di.nx a b z),λa b z=>d.rt a b (di.rt a b z),λa b z=>d.bk a b (di.bk a b z),λa b z=>d.ct a b (di.ct a b z)]]
  ·rename_i w S1 e1;cases e;exact#[A,Z,S,_,_,er,so,e1,#[λY' H' #[_,_,eo,_,_,_]=>(by cases eo),d.rt,d.bk,d.ct]]
  ·rename_i w S1 e1;cases e;exact#[A,Z,S,_,_,er,so,e1,#[λY' H' #[_,_,eo,_,_,_]=>(by cases eo),d.rt,d.bk,d.ct]]
  ·rename_i w S1 e1;cases e;exact#[A,Z,S,_,_,er,so,e1,#[λY' H' #[_,_,eo,_,_,_]=>(by cases eo),d.rt,d.bk,d.ct]]
  ·cases e
 ·unfold rM at e;split at e
  ·rename_i Z' S1 e1;apply Or.inl;show#[A,Z,S,_,S1,er,so,e1,#[λY' H' #[Z2,A',eo,ex,so',er']=>?_,λv H' #[_,_,eo,_,_,_]=>(by cases eo),λY' H' #[_,_,eo,_,_,_]=>(by cases eo),λY' H' #[_,_,eo,_,_,_]=>(by cases eo)]]
   cases eo;exact .inr #[A',Z',S1,cn,ws,S',C,gs,er',so',e,hc,λcls dd H2 z=>q cls dd H2 (z.after ex)]
  ·cases e
  ·exact .inr #[A,Z,S,cn,ws,S',C,gs,er,so,e,hc,q]
end
section
variable{X:Cx}{cl:Cl}{Ew:L2.XK}{k:Kt}{f C:Kn}{cd:Mb}{fd:Lv}{ps:Kg Ks}{x g:Ks}{p cpos pos:L9}{a:KC}{es:Kg KC}{fa:FA}
abbrev zU (X:Cx)(Ew:L2.XK):Prop:=∀J Y H s a C dd a0,Air X J Y H s a C dd a0->Ew (.ref C) dd H->X.xe (.ref a) s
def ue (hh:X.A.handled=gV)(Mqa:XM X.K C f cd)(hf:Nl X.K (.ref C) g=bt gV)(F:FnOk X.prog X.w X.K X.mg X.base jF k f fd ps (vE X.K g))(hr:Room (k+1) X.A)(hg:Gl X x)(hm:X.mg x=bt (.ref C))(hb:Binds X.K fd ps [])
  (hw:zU X Ew) (hc:cl x=bt (C,[g])) (ha:GA X (a::es) fa) (hdb:(x==("__debug__" : Ks))=false) (he:starEach (a::es) X.env=(false,eval a X.env)::starEach es X.env) (hpl:(backTo cpos (starEach es X.env)).any (·.1)=false) :
  GX X cl Ew (.Raise (bt (.Call (.Name x p) (a::es) [] cpos)) gV pos) JD (jZ x 1 fa):=λJ s Y H D I q=>by
 rcases q with⟨_,_,_,_,_,_,_,e,_⟩|⟨A,Z,S,cn,ws,S',C',gs,er,so,e,hc',q⟩
 ·cases e
 ·obtain⟨e0,e1,e2⟩:=n6 e;dsimp only at e0 e1 e2;subst e0;rw[hc]at hc';cases hc';show vA (E:=E0) hh Mqa F hr hg hm hb q8 hw ha hdb he hpl J s Y H D I #[A,Z,S,ws,S',er,so,e1,λvs H1 en=>#[?_,λn e he hn=>C5 Mqa.toXC hf en e2 he hn q]]
  obtain⟨A',ex,so',r⟩:=en;rw[<- r.length,e2,LF];decide
def uf (hh:X.A.handled=gV)(Mqa:XM X.K C f cd)(F:FnOk X.prog X.w X.K X.mg X.base jF k f fd ps (zf X.K))(hr:Room (k+1) X.A)(hg:Gl X x)(hm:X.mg x=bt (.ref C))(hb:Binds X.K fd ps [])
  (hw:zU X Ew) (hc:cl x=bt (C,[])) (hdb:(x==("__debug__" : Ks))=false):GX X cl Ew (.Raise (bt (.Call (.Name x p) [] [] cpos)) gV pos) JD (λ_ S=>bt (x,[],S)):=λJ s Y H D I q=>by
 rcases q with⟨_,_,_,_,_,_,_,e,_⟩|⟨A,Z,S,cn,ws,S',C',gs,er,so,e,hc',q⟩
 ·cases e
 ·cases e;rw[hc]at hc';cases hc';exact tm (E:=E0) hh Mqa F hr hg hm hb q8 hw hdb J s Y H D I #[MP _,λn e he hn=>C6 (A:=A) (H:=H) Mqa.toXC #[A,.refl,so,.nil] rfl he hn q]
end
section
variable{X:Cx}{cl:Cl}{Ew:L2.XK}
abbrev zV (c:FT)(f g:FX):FX:=λZ S=>match c Z S with
 | some (true,S1)=>f Z S1
 | some (false,S1)=>g Z S1
 | none=>gV
def FV {c:KC}{a b:Kg LO}{pos:L9}{fc:FT}{f g:FS}{fx gx:FX}(hc:GT X c fc)(ha:Bv X cl Ew a f fx)(hb:Bv X cl Ew b g gx):GX X cl Ew (.If c a b pos) (gO fc f g) (zV fc fx gx):=λJ s Y H D I q=>by
 show uU hc ha hb J s Y H D I ?_;rcases q with⟨A,Z,S,o,S',er,so,e,d⟩|⟨A,Z,S,cn,ws,S',C,gs,er,so,e,hcl,q⟩
 ·unfold gO at e;split at e
  ·rename_i S1 h1;show#[A,Z,S,_,S1,er,so,h1,λb H1 #[z0,A1,z1,z2]=>?_]
   subst z0;rw[KQ rfl];exact .inl #[A1,Z,S1,o,S',er.mono z1,z2,e,(EndS.after z1).trans d]
  ·rename_i S1 h1;show#[A,Z,S,_,S1,er,so,h1,λb H1 #[z0,A1,z1,z2]=>?_]
   subst z0;rw[KY #v[]]
   exact .inl #[A1,Z,S1,o,S',er.mono z1,z2,e,(EndS.after z1).trans d]
  ·cases e
 ·unfold zV at e;split at e
  ·rename_i S1 h1;show#[A,Z,S,_,S1,er,so,h1,λb H1 #[z0,A1,z1,z2]=>?_]
   subst z0;rw[KQ rfl];exact .inr #[A1,Z,S1,cn,ws,S',C,gs,er.mono z1,z2,e,hcl,λcls dd H2 z=>q cls dd H2 (z.after z1)]
  ·rename_i S1 h1;show#[A,Z,S,_,S1,er,so,h1,λb H1 #[z0,A1,z1,z2]=>?_]
   subst z0;rw[KY #v[]]
   exact .inr #[A1,Z,S1,cn,ws,S',C,gs,er.mono z1,z2,e,hcl,λcls dd H2 z=>q cls dd H2 (z.after z1)]
  ·cases e
end
noncomputable abbrev FW:=Kg W->aa->Kk (Ks×Kg W×aa)
inductive spX (wd:KS)(K:Kr)(cl:Cl)(n:Kt)(g:FF)(gx:FW)(vs:Kg V)(H:Hp)(Q:VK)(E:L2.XK):Prop
 | ok (h:spF wd K n g vs H Q E):spX wd K cl n g gx vs H Q E
 | xc (A:Kg Kn) (S:aa) (ws:Kg W) (cn:Ks) (us:Kg W) (S':aa) (C:Kn) (gs:Kg Ks) (so:StoreOk wd K A H S) (rl:RelL K A H ws vs) (hl:ws.length=n) (e:gx ws S=bt (cn,us,S')) (hc:cl cn=bt (C,gs))
   (q:∀cls dd H',EndX wd K A H S' C gs us cls dd H'->E cls dd H'):spX wd K cl n g gx vs H Q E
section
variable{X:Cx}{cl:Cl}{Ew:L2.XK}
abbrev gP (n:Kt)(gx:FW)(f:FA):FX:=λZ S=>match f Z S with
 | some (ws,S1)=>if ws.length=n then gx ws S1 else gV
 | none=>gV
end
end Mi
namespace Mi
open PySem PySem.Spec PyProof.Rows L2
inductive MI where
 | its (ws:Kg W)
 | live (r:Kt)
 | zl (r q:Kt)
abbrev gQ (xs ys:Kg W):Kg W:=List.zipWith (λx y=>.tup [x,y]) xs ys
abbrev MI.at (S:aa)(i:Kt):MI->Kk (Kk W)
 | .its ws=>bt ws[i]?
 | .live r=>match gF S r with
  | some xs=>bt xs[i]?
  | none=>gV
 | .zl r q=>match gF S r,gF S q with
  | some xs,bt ys=>bt (gQ xs ys)[i]?
  | _,_=>gV
abbrev MI.len (S:aa):MI->Kk Kt
 | .its ws=>bt ws.length
 | .live r=>(gF S r).map (·.length)
 | .zl r q=>match gF S r,gF S q with
  | some xs,bt ys=>bt (gQ xs ys).length
  | _,_=>gV
noncomputable abbrev FI:=Fm->aa->Kk (MI×aa)
structure MIt (wd:KS)(K:Kr)(mi:MI)(tx:It)(A0:Kg Kn)(H0:Hp):Prop where
 go:∀A H S i w,Ext K A0 H0 A H->StoreOk wd K A H S->mi.at S i=bt (bt w)->tx.go i H/\∀x H',tx.yld i H x H'->Ext K A H A H'/\StoreOk wd K A H' S/\Rel K A H' w x
 stop:∀A H S i,Ext K A0 H0 A H->StoreOk wd K A H S->mi.at S i=bt gV->tx.stop i H
inductive tI (X:Cx)(f:FI)(Y:L2.St)(H:Hp)(R:It->Hp->Prop):Prop
 | mk (A:Kg Kn) (Z:Fm) (S:aa) (mi:MI) (S':aa) (er:EnvRel X.K A H Z Y) (so:StoreOk X.w X.K A H S) (e:f Z S=bt (mi,S')) (q:∀tx H' A',Ext X.K A H A' H'->StoreOk X.w X.K A' H' S'->MIt X.w X.K mi tx A' H'->R tx H'):tI X f Y H R
noncomputable abbrev GI (X:Cx)(tg iter:KC)(f:FI):Prop:=PI X tg iter (tI X f)
abbrev zW (f:FE):FI:=λZ S=>match f Z S with
 | some (.tup ws,S1)=>bt (.its ws,S1)
 | some (.ref r,S1)=>match gF S1 r with
  | some _=>bt (.live r,S1)
  | none=>gV
 | _=>gV
abbrev eN (lo:KD)(n:Kt):Kg W:=(Mh n).map λ(k:Kt)=>.int (lo+(k:KD))
abbrev ug (f:FA):FI:=λZ S=>match f Z S with
 | some ([.int j],S1)=>if -(2 ^ 62)<=j/\j < 2 ^ 62 then bt (.its (eN 0 j.toNat),S1)else gV
 | _=>gV
abbrev iRng2 (f:FA):FI:=λZ S=>match f Z S with
 | some ([.int i,.int j],S1)=>if -(2 ^ 62)<=i/\i < 2 ^ 62/\-(2 ^ 62)<=j/\j < 2 ^ 62 then bt (.its (eN i (j - i).toNat),S1)else gV
 | _=>gV
abbrev bw (mi:MI)(g:FG)(b:FS):Kt->Kt->FS
 | 0,i,Z,S=>match mi.at S i with
  | some gV=>bt (.nx Z,S)
  | _=>gV
 | n+1,i,Z,S=>match mi.at S i with
  | some (bt w)=>match g w Z S with
   | some (Z1,S1)=>match b Z1 S1 with
    | some (.nx Z2,S2)=>bw mi g b n (i+1) Z2 S2
    | some (.ct Z2,S2)=>bw mi g b n (i+1) Z2 S2
    | some (.bk Z2,S2)=>bt (.nx Z2,S2)
    | some (.rt w,S2)=>bt (.rt w,S2)
    | none=>gV
   | none=>gV
  | _=>gV
abbrev ja (fi:FI)(g:FG)(b:FS):FS:=λZ S=>match fi Z S with
 | some (mi,S1)=>match mi.len S1 with
  | some n=>bw mi g b n 0 Z S1
  | none=>gV
 | none=>gV
section
variable{X:Cx}
def zX {A:Kg Kn}{H:Hp}{ws:Kg W}{a:Kn}{vs:Kg V}(h:SqT X.K H a vs)(r:RelL X.K A H ws vs):MIt X.w X.K (.its ws) (Ic X.K a) A H:=by
 show#[λA' H' S i w e so hi=>?_,λA' H' S i e so hi=>?_]
 ·simp only[MI.at,K8]at hi;obtain⟨v,h1,h2⟩:=(r.mono e).get hi;show#[#[vs,v,e.tp _ _ h,h1],λx H2 #[z1,z2]=>?_]
  subst z1;have:=z2 vs (e.tp _ _ h);rw[h1]at this; cases this
  exact#[.refl,so,h2]
 ·simp only[MI.at,K8]at hi;show#[vs,e.tp _ _ h,?_];rw[<- r.length];exact Ll.mp hi
def zY {A:Kg Kn}{H:Hp}{r:Kt}{a:Kn}(ea:A[r]?=bt a):MIt X.w X.K (.live r) (HZ X.K a) A H:=by
 show#[λA' H' S i w e so hi=>?_,λA' H' S i e so hi=>?_]
 ·simp only[MI.at]at hi;split at hi
  ·rename_i xs hx;simp only[K8]at hi;obtain⟨vs,h1,r1⟩:=ba so hx (e.ad _ _ ea);obtain⟨v,h2,h3⟩:=r1.get hi;show#[#[vs,v,h1,h2],λx H2 #[z1,z2]=>?_]
   subst z1;have:=z2 vs h1;rw[h2]at this; cases this
   exact#[.refl,so,h3]
  ·cases hi
 ·simp only[MI.at]at hi;split at hi
  ·rename_i xs hx;simp only[K8]at hi;obtain⟨vs,h1,r1⟩:=ba so hx (e.ad _ _ ea);show#[vs,h1,?_];rw[<- r1.length];exact Ll.mp hi
  ·cases hi
def eO {lo:KD}{n i:Kt}:(eN lo n)[i]?=if i < n then bt (.int (lo+i))else gV:=by
 unfold eN;rw[K4]
 by_cases h:i < n
 ·rw[KQ h,List.getElem?_range h]; rfl
 ·rw[KY h,Ll.mpr (by simp; omega)]; rfl
def rN {A:Kg Kn}{H:Hp}{lo:KD}{n:Kt}:MIt X.w X.K (.its (eN lo n)) (E8 lo n) A H:=by
 show#[λA' H' S i w e so hi=>?_,λA' H' S i e so hi=>?_]
 ·simp only[MI.at,K8]at hi;rw[eO]at hi;split at hi
  ·cases hi;show#[by assumption,λx H2 #[z1,z2]=>?_]
   subst z1 z2;exact#[.refl,so,.int]
  ·cases hi
 ·simp only[MI.at,K8]at hi;rw[eO]at hi;split at hi
  ·cases hi
  ·change n<=i;omega
def oh {tg:KC}{J:Kg (Kn×LJ)}{Y:L2.St}{H1:Hp}{s1:Km}{R:It->Hp->Prop}{a:Kn}{xs:Kg V}{v:Ki}(I1:Inv X J Y H1 s1)(r1:RelV (.ref a) v)(hq:SqL X.K H1 a xs)(q:R (HZ X.K a) H1) :
  wpAny (model X.prog X.w) X.A (pyIter v) (E7 X J Y tg R) X.xe s1:=by
 cases r1;obtain⟨its,rv,p,hz⟩:=I1.list hq;show N8 p.isList ?_;show#[s1.heap.objs.size,[s1.heap.objs.size],_,_,H1,rfl,I1.kept (t':=s1.toks) λb o e=>Kl _ e,sN a _,#[_,KA _ rfl,rfl,rfl],λb hb=>?_,q]
 have e:b=s1.heap.objs.size:=by simpa using hb
 subst e;exact I1.fpOk (Kz _) (I1.hok.fresh (Kz _))
def qm {tg:KC}{J:Kg (Kn×LJ)}{Y:L2.St}{H1:Hp}{s1:Km}{R:It->Hp->Prop}{a:Kn}{xs:Kg V}{v:Ki}(I1:Inv X J Y H1 s1)(r1:RelV (.ref a) v)(hq:SqT X.K H1 a xs)(q:R (Ic X.K a) H1) :
  wpAny (model X.prog X.w) X.A (pyIter v) (E7 X J Y tg R) X.xe s1:=by
 cases r1;obtain⟨its,rv,p,hz⟩:=I1.tuple hq;show Qc (show s1.heap.IsTuple a its.toArray from p) ?_
 show#[s1.heap.objs.size,[s1.heap.objs.size],_,_,H1,rfl,I1.kept (t':=s1.toks) λb o e=>Kl _ e,pA a _,#[_,KA _ rfl,rfl,rfl],λb hb=>?_,q]
 have e:b=s1.heap.objs.size:=by simpa using hb
 subst e;exact I1.fpOk (Kz _) (I1.hok.fresh (Kz _))
def zZ {tg a:KC}{f:FA}{p pos:L9}(hg:Gl X "range")(hm:X.mg "range" = gV)(ha:GA X [a] f)(hs:starEach [a] X.env=[(false,eval a X.env)]):GI X tg (.Call (.Name "range" p) [a] [] pos) (ug f):=by
 intro J s Y H R I ⟨A,Z,S,mi,S',er,so,e,hq⟩;unfold ug at e;split at e
 ·rename_i j S1 h1;split at e
  ·rename_i hj;cases e;show sO hg hm ha hs J s Y H R I #[A,Z,S,_,_,er,so,h1,λvs H1 #[A1,z1,z2,z3]=>?_]
   cases z3 with
   | cons r1 t=>
    cases t;cases r1;exact#[j,rfl,hj.1,hj.2,hq _ _ A1 z1 z2 rN]
  ·cases e
 ·cases e
def z5 {tg a b:KC}{f:FA}{p pos:L9}(hg:Gl X "range")(hm:X.mg "range" = gV)(ha:GA X [a,b] f)(hs:starEach [a,b] X.env=[(false,eval a X.env),(false,eval b X.env)])(hs2:starEach [b] X.env=[(false,eval b X.env)]):GI X tg (.Call (.Name "range" p) [a,b] [] pos) (iRng2 f):=by
 intro J s Y H R I ⟨A,Z,S,mi,S',er,so,e,hq⟩;unfold iRng2 at e;split at e
 ·rename_i i j S1 h1;split at e
  ·rename_i hj;cases e;show sP hg hm ha hs hs2 J s Y H R I #[A,Z,S,_,_,er,so,h1,λvs H1 #[A1,z1,z2,z3]=>?_]
   cases z3 with
   | cons r1 t=>
    cases t with
    | cons r2 t=>
     cases t;cases r1;cases r2;exact#[i,j,rfl,hj,hq _ _ A1 z1 z2 rN]
  ·cases e
 ·cases e
def Dh {tg l:KC}{f:FE}(h:GE X l f):GI X tg l (zW f):=by
 intro J s Y H R I ⟨A,Z,S,mi,S',er,so,e,hq⟩;unfold zW at e;split at e
 ·rename_i ws S1 h1;cases e;show aK (h J s Y H (EndV X.w X.K A H _ (.tup ws)) I #[A,Z,S,_,_,er,so,h1,λ_ _ z=>z]) λv s1 #[x,H1,I1,r1,A1,e1,o1,z1]=>?_
  cases z1 with
  | tup hq1 rl=>
   show qm I1 r1 hq1 (hq _ _ A1 e1 o1 (zX hq1 rl))
 ·rename_i r S1 h1;split at e
  ·rename_i ys hy;cases e;show aK (h J s Y H (EndV X.w X.K A H _ (.ref r)) I #[A,Z,S,_,_,er,so,h1,λ_ _ z=>z]) λv s1 #[x,H1,I1,r1,A1,e1,o1,z1]=>?_
   cases z1 with
   | ref ea=>
    obtain⟨vs,hl,_⟩:=ba o1 hy ea;exact oh I1 r1 hl (hq _ _ A1 e1 o1 (zY ea))
  ·cases e
 ·cases e
def Di {tg iter:KC}{body:Kg LO}{pos:L9}{fi:FI}{g:FG}{fb:FS}(hp:Ob (model X.prog X.w) X.A X.env X.xe)(hc:X.calm=true)(hi:GI X tg iter fi)(hg:GG X tg g)(hb:GSs X body fb)
  (hs:∀x,foldedSetIterable iter X.env x=pure x):GS X (.For tg iter body [] pos) (ja fi g fb):=GS.of (uY hp hc hi hg hb hs) λY H A Z S o S' er so e D hd=>by
 unfold ja at e;split at e
 ·rename_i mi S1 h1;split at e
  ·rename_i n hn;show#[A,Z,S,mi,S1,er,so,h1,λtx H1 A1 z1 z2 mit=>?_]
   show#[λi m Y2 H2=>∃A2 Z2 S2,Ext X.K A1 H1 A2 H2/\EnvRel X.K A2 H2 Z2 Y2/\StoreOk X.w X.K A2 H2 S2/\bw mi g fb m i Z2 S2=bt (o,S'),#[n,A1,Z,S1,.refl,er.mono z1,z2,e],?_]
   rintro i m Y2 H2 ⟨A2,Z2,S2,e2,er2,so2,w2⟩;cases m with
   | zero=>
    dsimp only[bw]at w2;split at w2
    ·rename_i hs;cases w2;exact .inl #[mit.stop A2 H2 _ i e2 so2 hs,hd.nx _ _ #[_,A2,rfl,z1.trans e2,so2,er2]]
    ·cases w2
   | succ m=>
    dsimp only[bw]at w2;split at w2
    ·rename_i w hw;obtain⟨go,yl⟩:=mit.go A2 H2 S2 i w e2 so2 hw;show .inr #[go,λY3 H3=>∃A3 Z3 S3,Ext X.K A1 H1 A3 H3/\EnvRel X.K A3 H3 Z3 Y3/\StoreOk X.w X.K A3 H3 S3/\bw mi g fb m (i+1) Z3 S3=bt (o,S'),λY' H' h=>#[m,Ln _,h],λx H3 hy=>?_]
     obtain⟨x1,x2,x3⟩:=yl x H3 hy;split at w2
     ·rename_i Z3 S3 h3;show#[A2,Z2,S2,w,Z3,S3,er2.mono x1,x2,x3,h3,λY4 H4 A4 y1 y2 y3=>?_]
      have ex:Ext X.K A1 H1 A4 H4:=(e2.trans x1).trans y1;split at w2
      ·rename_i Z5 S5 h5;show#[A4,Z3,S3,_,S5,y3,y2,h5,#[λY' H' #[Z',A',u0,u1,u2,u3]=>?_,λv H' #[w,A',y0,_,_,_]=>(by cases y0),λv H' #[w,A',y0,_,_,_]=>(by cases y0),λv H' #[w,A',y0,_,_,_]=>(by cases y0)]]
       cases u0;exact#[A',_,S5,ex.trans u1,u3,u2,w2]
      ·rename_i Z5 S5 h5;show#[A4,Z3,S3,_,S5,y3,y2,h5,#[λv H' #[w,A',y0,_,_,_]=>(by cases y0),λv H' #[w,A',y0,_,_,_]=>(by cases y0),λv H' #[w,A',y0,_,_,_]=>(by cases y0),λY' H' #[Z',A',u0,u1,u2,u3]=>?_]]
       cases u0;exact#[A',_,S5,ex.trans u1,u3,u2,w2]
      ·rename_i Z5 S5 h5;cases w2;show#[A4,Z3,S3,_,_,y3,y2,h5,#[λv H' #[w,A',y0,_,_,_]=>(by cases y0),λv H' #[w,A',y0,_,_,_]=>(by cases y0),λY' H' #[Z',A',u0,u1,u2,u3]=>?_,λv H' #[w,A',y0,_,_,_]=>(by cases y0)]]
       cases u0;exact hd.nx _ _ #[_,A',rfl,(z1.trans ex).trans u1,u2,u3]
      ·rename_i w5 S5 h5;cases w2;show#[A4,Z3,S3,_,_,y3,y2,h5,#[λv H' #[w,A',y0,_,_,_]=>(by cases y0),λv H' #[w,A',u0,u1,u2,u3]=>?_,λv H' #[w,A',y0,_,_,_]=>(by cases y0),λv H' #[w,A',y0,_,_,_]=>(by cases y0)]]
       cases u0;exact hd.rt _ _ #[_,A',rfl,(z1.trans ex).trans u1,u2,u3]
      ·cases w2
     ·cases w2
    ·cases w2
  ·cases e
 ·cases e
end
section
variable{X:Cx}{J:Kg (Kn×LJ)}{Y:L2.St}{H:Hp}{s:Km}{A:Kg Kn}{S:aa}
def qo:LCall X (.builtin "len") zE:=tJ
abbrev HC (S:aa):W->Kk LR
 | .non=>bt "NoneType"|.bl _=>bt "bool"|.int _=>bt "int"|.str _=>bt "str"|.tup _=>bt "tuple"
 | .ref i=>match gF S i with
  | some _=>bt "list"
  | none=>(CS S i).map λ_=>"dict"
abbrev ol:Kg LR:=["bool","int","str","tuple","list","dict"]
abbrev pk (S:aa)(x:W)(c:LR):Kk KR:=match HC S x with
 | some t=>if ol.contains c then bt (t==c||(t == "bool" && c == "int"))else gV
 | none=>gV
def gp {K:Kr}{t c:LR}(ht:t∈["NoneType","bool","int","str","tuple","list","dict"])(hc:c∈ol):PySem.W.kitOne K (.type t) (.type c)=bt (t==c||(t == "bool" && c == "int")):=by
 simp only[ol,Kx,K6,L8]at ht hc;rcases ht with rfl|rfl|rfl|rfl|rfl|rfl|rfl <;> rcases hc with rfl|rfl|rfl|rfl|rfl|rfl <;> rfl
def wz:CallR X (.builtin "isinstance") (λvs H Q=>∃A S x v c b,vs=[v,.ty c]/\StoreOk X.w X.K A H S/\Rel X.K A H x v/\pk S x c=bt b/\Q (.bl b) H):=by
 intro J s Y H vs us Q I rv ⟨A,S,x,v,c,b,e1,so,rx,e2,hq⟩;subst e1;cases rv with
 | cons r1 rv2=>cases rv2 with
  | cons r2 rv3=>
   cases rv3;obtain rfl:_=Mn c:=r2;unfold pk at e2;split at e2
   ·rename_i t ht;split at e2
    ·rename_i hc;cases e2;have hc':c∈ol:=by simpa using hc
     have fin:∀tk,EP X J Y Q (.bool (t==c||(t == "bool" && c == "int"))) { s with toks:=tk }:=λtk=>#[.bl _,H,I.tok _,rfl,hq]
     cases rx with
     | non=>cases ht; cases(show _=LA from r1); exact M0 PySem.W.kitx_none I.kIn Oc (gp (by simp) hc') (λz=>nomatch z) fin
     | bl=>cases ht; cases(show _=Mg _ from r1); exact M0 PySem.W.kitx_bool I.kIn Oc (gp (by simp) hc') (λz=>nomatch z) fin
     | int=>cases ht; obtain⟨t',q⟩:=(show ∃t,_=Nq _ t from r1); cases q; exact M0 PySem.W.kitx_int I.kIn Oc (gp (by simp) hc') (λz=>nomatch z) fin
     | str=>cases ht; obtain⟨t',q⟩:=(show ∃t,_=MQ _ t from r1); cases q; exact M0 PySem.W.kitx_str I.kIn Oc (gp (by simp) hc') (λz=>nomatch z) fin
     | tup h1 r1'=>
      cases ht;obtain⟨its,rv,⟨o,q1,q2,_⟩,hz⟩:=I.tuple h1;cases(show _=KZ _ from r1)
      exact M0 PySem.W.kitx_tuple I.kIn #[o,q1,q2] (gp (by simp) hc') (λz=>nomatch z) fin
     | ref ea=>
      cases(show _=KZ _ from r1)
      dsimp only[HC]at ht;split at ht
      ·rename_i ws hw;cases ht;obtain⟨vs,h1,_⟩:=ba so hw ea;obtain⟨its,rv,p,hz⟩:=I.list h1;obtain⟨o,q1,q2,_⟩:=p.isList;exact M0 PySem.W.kitx_list I.kIn #[o,q1,q2] (gp (by simp) hc') (λz=>nomatch z) fin
      ·rw[Ko]at ht;obtain⟨U,hk,rfl⟩:=ht;obtain⟨xs,rd,kr⟩:=vZ so hk ea;obtain⟨es,ep,⟨o,q1,q2,_⟩,he⟩:=(rD I rd).raw;exact M0 PySem.W.kitx_dict I.kIn #[o,q1,q2.1] (gp (by simp) hc') (λz=>nomatch z) fin
    ·cases e2
   ·cases e2
abbrev wD (c:LR)(f:FE):FE:=λZ S=>match f Z S with
 | some (x,S1)=>(pk S1 x c).map λb=>(.bl b,S1)
 | none=>gV
def Dj {cn:Ks}{c:LR}{e:KC}{p p2 pos:L9}{f:FE}(hg:Gl X "isinstance")(hm:X.mg "isinstance" = gV)(hg2:Gl X cn)(hm2:X.mg cn=gV)(hv2:bootBuiltins cn=bt (.type c))(hn2:cn≠"__name__")(hd2:(cn==("__debug__" : Ks))=false)
  (he:GE X e f) (hs:starEach [e,.Name cn p2] X.env=(false,eval e X.env)::starEach [.Name cn p2] X.env):GE X (.Call (.Name "isinstance" p) [e,.Name cn p2] [] pos) (wD c f):=
 GE.of (eD (wz) hg hm rfl (bD he (bD (qT (v:=.ty c) hg2 hm2 hv2 rfl hn2 hd2) f8) hs) #v[] #v[] hs rfl) λY H A Z S w S' er so e Q hq=>by
  unfold wD at e;split at e
  ·rename_i x1 S1 h1;rw[Ko]at e;obtain⟨b,e1,e2⟩:=e;cases e2;exact#[A,Z,S,x1,_,er,so,h1,λv H1 #[A1,z1,z2,z3]=>#[A1,_,x1,v,c,b,rfl,z2,z3,e1,hq _ _ #[A1,z1,z2,.bl]]]
  ·cases e
end
abbrev lD:Kg W->Kk (Kg (Ks×KD))
 | []=>bt []
 | .str k::.int v::ws=>(lD ws).map ((k,v) :: ·)
 | _=>gV
abbrev om (f:FA):FE:=λZ S=>match f Z (S++[.dis []])with
 | some (ws,S1)=>match S1[S.length]? with
  | some (.dis [])=>match lD ws with
   | some U=>if (U.map (·.1)).Nodup/\U.length<=15 then bt (.ref S.length,S1.set S.length (.dis U))else gV
   | none=>gV
  | _=>gV
 | none=>gV
def putK_new {U:Kg (Ks×KD)}{k:Ks}{n:KD}(h:k∉U.map (·.1)):l6 (cx U) (.inr k) (.int n)=cx (U++[(k,n)]):=by
 have e:((cx U).any λkv=>decide (kv.1=(.inr k:ft)))=false:=by
  rw[jD,jU];cases hl:U.lookup k with
  | none=>rfl
  | some m=>
   show absurd ?_ h;have:=List.lookup_eq_some_iff.mp hl;obtain⟨l1,l2,q,_⟩:=this;rw[q]; simp
 unfold l6;rw[e,KY KL];simp[cx]
def lE:∀(more U:Kg (Ks×KD)),((U++more).map (·.1)).Nodup->l7 (cx U) (cx more)=cx (U++more)
 | [],U,_=>by rw[LK]; rfl
 | (k,n)::more,U,h=>by
  have h2:((U++[(k,n)])++more).map (·.1)=(U++(k,n)::more).map (·.1):=by simp
  have hk:k∉U.map (·.1):=λz=>by
   rw[LB,N6]at h;exact h.2.2 _ z k (by simp) rfl
  change l7 (l6 (cx U) (.inr k) (.int n)) (cx more)=_;rw[putK_new hk,lE more _ (h2 ▸ h)];simp
section
variable (K:Kr) (A:Kg Kn) (H:Hp)
inductive RelP:Kg W->Kg (V×V)->Prop
 | nil:RelP [] []
 | cons {k v:W} {a b:V} {ws:Kg W} {ps:Kg (V×V)}:Rel K A H k a->Rel K A H v b->RelP ws ps->RelP (k::v::ws) ((a,b)::ps)
end
section
variable{X:Cx}{J:Kg (Kn×LJ)}{Y:L2.St}{H:Hp}{s:Km}{A:Kg Kn}{S:aa}
abbrev IN (X:Cx)(A:Kg Kn)(H:Hp)(S':aa)(ws:Kg W):Kg (V×V)->Hp->Prop:=λps H'=>∃A',Ext X.K A H A' H'/\StoreOk X.w X.K A' H' S'/\RelP X.K A' H' ws ps
abbrev FY (X:Cx)(pos:L9)(keys:Kg (Kk KC))(values:Kg KC)(f:FA):Prop:=
 ∀(J:Kg (Kn×LJ)) (s:Km) (Y:L2.St) (H:Hp) (A:Kg Kn) (Z:Fm) (S:aa) (ws:Kg W) (S':aa),Inv X J Y H s->EnvRel X.K A H Z Y->StoreOk X.w X.K A H S->f Z S=bt (ws,S')->
  wpAny (model X.prog X.w) X.A (evalPairs (pairTrees keys values X.env pos)) (λvs s'=>∃ps H',Inv X J Y H' s'/\VV ps vs/\IN X A H S' ws ps H') X.xe s
def z6 {pos:L9}:FY X pos [] [] gM:=λJ s Y H A Z S ws S' I er so e=>by
 cases e;exact pairTrees_nil_walk #[[],H,I,.nil,A,.refl,so,.nil]
def wF {pos:L9}{k v:KC}{ks:Kg (Kk KC)}{vs:Kg KC}{fk fv:FE}{f:FA}(hk:GE X k fk)(hv:GE X v fv)(hr:FY X pos ks vs f):FY X pos (bt k::ks) (v::vs) (cH fk (cH fv f)):=λJ s Y H A Z S ws S' I er so e=>by
 unfold cH at e;split at e
 ·rename_i w1 S1 h1;split at e
  ·rename_i w2 S2 h2;cases e;split at h2
   ·rename_i w3 S3 h3;split at h2
    ·rename_i w4 S4 h4;cases h2;show pairTrees_cons_walk (aK (hk J s Y H (EndV X.w X.K A H S1 w1) I #[A,Z,S,_,_,er,so,h1,λ_ _ z=>z]) λu s1 #[x,H1,I1,r1,A1,e1,o1,z1]=>
      aK (hv J s1 Y H1 (EndV X.w X.K A1 H1 S3 w3) I1 #[A1,Z,S1,_,_,er.mono e1,o1,h3,λ_ _ z=>z]) λu2 s2 #[x2,H2,I2,r2,A2,e2,o2,z2]=>
      aK (hr J s2 Y H2 A2 Z S3 _ _ I2 (er.mono (e1.trans e2)) o2 h4) λvs' s3 #[ps,H3,I3,rel,A3,e3,o3,z3]=>?_)
     exact#[(x,x2)::ps,H3,I3,.cons #[r1,r2] rel,A3,e1.trans (e2.trans e3),o3,.cons (z1.mono (e2.trans e3)) (z2.mono e3) z3]
    ·cases h2
   ·cases h2
  ·cases e
 ·cases e
def Dk {A:Kg Kn}{H:Hp}{ws:Kg W}{ps:Kg (V×V)}(h:RelP X.K A H ws ps):∀ {U:Kg (Ks×KD)},lD ws=bt U->ps=(cx U).map (λkv=>(kV kv.1,kv.2)):=by
 induction h with
 | nil=>intro U e; cases e; rfl
 | @cons k v a b ws ps h1 h2 h3 ih=>
  intro U e;unfold lD at e;split at e
  ·rename_i z; cases z
  ·rename_i z;cases z;rw[Ko]at e;obtain⟨r,e1,rfl⟩:=e;cases h1;cases h2;rw[ih e1];rfl
  ·cases e
def z7 {pos:L9}{keys:Kg (Kk KC)}{values:Kg KC}{f:FA}(hu:X.A.units+10 < cLine)(h:FY X pos keys values f)(hall:keys.all (·.isSome)=true)(hl:keys.length=values.length)(h0:keys≠[])(h15:keys.length<=15):GE X (.Dict keys values pos) (om f):=by
 intro J s Y H Q I ⟨A,Z,S,w,S',er,so,e,hq⟩;unfold om at e;split at e
 ·rename_i ws S1 h1;split at e
  ·rename_i hS1;split at e
   ·rename_i U hp;split at e
    ·rename_i hd0;cases e;have hn:=I.hok.fresh (Kz s.heap.objs.size);have I1:=I.laid (a:=s.heap.objs.size) (o:=.dK []) (h':=s.heap.push { cls:=.type "dict",data:=.dict #[] }) (t':=s.toks) (λ_ _ q=>Kl _ q) (Kz _) (vi s.heap I.big)
     have ex0:Ext X.K A H (A++[s.heap.objs.size]) (aE H s.heap.objs.size (.dK [])):=eG hn;have so0:StoreOk X.w X.K (A++[s.heap.objs.size]) (aE H s.heap.objs.size (.dK [])) (S++[.dis []]):=so.pushO hn am;show wpAny_Dict_walk (knd:=bO X.prog X.w) hall hl h0 h15 (aK (h J _ Y _ _ Z _ _ _ I1 (er.mono ex0) so0 h1) λvs s2 #[ps,H2,I2,vv,A2,ex2,so2,rp]=>?_)
     have ea:A2[S.length]?=bt s.heap.objs.size:=ex2.ad _ _ (by rw[<- so.len]; simp)
     have e:H2 s.heap.objs.size=bt (.dK []):=so2.obj _ _ _ hS1 ea;have ep:=Dk rp hp;subst ep;obtain⟨rs,c,rk⟩:=jE (P:=X.prog) (w:=X.w) vv;obtain⟨z,hd,vs0,r0,dd⟩:=Fo I2.hok e;cases r0;have em:l7 [] (cx U)=cx U:=lE U [] hd0.1;have hk:(cx U).length<=15:=by rw[cx,Kv]; exact hd0.2
     obtain⟨so',ex'⟩:=so2.writeO (n:=.dis U) (u:=.dK (cx U)) hS1 rfl ea am;show#[rs,c,dd,λh' dd' hs=>#[.ref s.heap.objs.size,_,?_,rfl,hq _ _ #[A2,ex0.trans (ex2.trans ex'),so',.ref (ex'.ad _ _ ea)]]]
     have hz:(cx U).length<=sizeLine:=by rw[LF]; omega
     have he:∃q,h'.get? s.heap.objs.size=bt q:=let ⟨q,_,_,hq,_⟩:=dd'; #[q,hq]
     exact yZ I2 (by rw[e]; exact Oc) hs he (CF hz hd (em ▸ rk.merge .nil) dd')
    ·cases e
   ·cases e
  ·cases e
 ·cases e
end
abbrev fR (f:FE):FI:=λZ S=>match f Z S with
 | some (.tup ws,S1)=>bt (.its ws,S1)
 | some (.str x,S1)=>if (x.cps.all λc=>decide (c < 128))=true then bt (.its (x.cps.toList.map λc=>.str #[[c].toArray]),S1)else gV
 | some (.ref r,S1)=>match gF S1 r with
  | some _=>bt (.live r,S1)
  | none=>gV
 | _=>gV
section
variable{X:Cx}{J:Kg (Kn×LJ)}{Y:L2.St}{H:Hp}{s:Km}{A:Kg Kn}{S:aa}
def z8 {x:Ks}:MIt X.w X.K (.its (x.cps.toList.map λc=>.str #[[c].toArray])) (JA x) A H:=by
 show#[λA' H' S i w e so hi=>?_,λA' H' S i e so hi=>?_]
 ·simp only[MI.at,K8]at hi;rw[K4,Ko]at hi;obtain⟨c,hc,rfl⟩:=hi;rw[LH]at hc;show#[(LM.mp hc).1,λv H2 #[z1,c',z2,z3]=>?_]
  subst z1 z3;rw[hc]at z2; cases z2
  exact#[.refl,so,.str]
 ·simp only[MI.at,K8]at hi;rw[K4,No,LH]at hi;exact Array.getElem?_eq_none_iff.mp hi
def z9 {tg l:KC}{f:FE}(h:GE X l f):GI X tg l (fR f):=by
 intro J s Y H R I ⟨A,Z,S,mi,S',er,so,e,hq⟩
 by_cases hs:∃x S1,f Z S=bt (.str x,S1)
 ·obtain⟨x,S1,h1⟩:=hs;simp only[fR,h1]at e;split at e
  ·rename_i ha;cases e;show aK (h J s Y H (EndV X.w X.K A H _ (.str x)) I #[A,Z,S,_,_,er,so,h1,λ_ _ z=>z]) λv s1 #[x',H1,I1,r1,A1,e1,o1,z1]=>?_
   cases z1;obtain⟨tk,rfl⟩:=r1;show Qd ha ?_;show#[s1.heap.objs.size,[s1.heap.objs.size],_,_,H1,rfl,I1.kept (t':=s1.toks) λb o e=>Kl _ e,v4 x tk _,#[_,KA _ rfl,rfl,rfl],λb hb=>?_,hq _ _ A1 e1 o1 z8]
   have e:b=s1.heap.objs.size:=by simpa using hb
   subst e;exact I1.fpOk (Kz _) (I1.hok.fresh (Kz _))
  ·cases e
 have:fR f Z S=zW f Z S:=by
  unfold fR zW;cases hf:f Z S with
  | none=>rfl
  | some p=>
   obtain⟨w,S1⟩:=p;cases w with
   | str x=>exact absurd #[x,S1,hf] hs
   | _=>rfl
 rw[this]at e;exact Dh h J s Y H R I #[A,Z,S,mi,S',er,so,e,hq]
end
abbrev Dl (xs:Kg W)(S:aa):Kk (W×aa):=match xs with
 | [.ref i]=>match EN S i with
  | some ss=>bt (.int ss.length,S)
  | none=>gV
 | _=>gV
section
variable{X:Cx}
def qp:LCall X (.builtin "len") Dl:=by
 intro J s Y H A S xs vs us w S' I so rl rv e;unfold Dl at e;split at e
 ·rename_i i;obtain⟨a,ea,rfl⟩:=gL (xs:=[]) rl rv;split at e
  ·rename_i ss hs;cases e;obtain⟨o,ho,hex,es,ep,t,hd,tb⟩:=vY I so hs ea;have hz:es.size=ss.length:=by
    have:=tb.pm.length_eq
    rwa [Kv,K3]at this
   have hf:=tb.few;exact call_len_set ho hex hd tb.fit (by rw[hz]; have h2:scanBound<=2 ^ 40:=#v[]; omega) #[.int ss.length,H,A,I.tok _,#[_,by rw[hz]],.refl,so,.int]
  ·cases e
 ·cases e
end
section
variable{Mqa:ON}{A:K1}{E:Ki->Km->Prop}{s:Km}
def oo {scope:M1}{g:Kn}{cl:Kg (Ks×Kn)}{qual:Ks}{outer:Ov}{Q:Ov->Km->Prop}
  (h:Q (newEnv scope s.heap.objs.size g (cellsFrom (s.heap.objs.size+1) scope.names cl) qual gV .none (bt outer) builtinsNs) { s with heap:=pushCells (s.heap.push { cls:=.type "dict",data:=.dict #[] }) scope.names }) :
  wpAny Mqa A (newFunctionEnv scope g cl [] qual gV .none (bt outer)) Q E s:=by
 simp only[newFunctionEnv,P9,Nf];show Kh (SN ?_);show Kh (wpAny_layCells _ (λname kind cells=>by cases hkc:kind==Nr <;> simp[hkc]) _ _ _ _ ?_)
 rw[show({ s with heap:=s.heap.push { cls:=.type "dict",data:=.dict #[] } }:Km).heap.objs.size=s.heap.objs.size+1 from LC ..]
 rw[OG];exact Kh (Kq (Kq h))
def wH {names:Kg (Ks×LW)}{h2:K7}:(pushCells (h2.push { cls:=.type "dict",data:=.dict #[] }) names).Ns h2.objs.size (λ_=>gV):=
 Heap.Ns.keeps (h:=h2.push { cls:=.type "dict",data:=.dict #[] }) #[_,#[],0,KA _ rfl,rfl,by simp[StrKeys],λ_=>rfl] (Pg names _)
def dz:∀(names:Kg (Ks×LW)) (m:Kt) (acc:Kg (Ks×Kn)) {x:Ks} {c:Kn},(cellsFrom m names acc).lookup x=bt c->
  (acc.lookup x=bt c/\(x,Nr)∉names)\/(m<=c/\(x,Nr)∈names/\∀h:K7,h.objs.size=m->(pushCells h names).IsCell c gV)
 | [],_,_,_,_,hm=>.inl #[hm,λz=>nomatch z]
 | (name,kind)::r,m,acc,x,c,hm=>by
  unfold cellsFrom at hm;split at hm
  ·rename_i hk;have hc:kind=.cell:=eq_of_beq hk;subst hc;rcases dz r _ _ hm with⟨z,zn⟩|⟨z1,z2,z3⟩
   ·rw[K5]at z;split at z
    ·rename_i e;cases z;have:=eq_of_beq e;subst this;show .inr #[Kz _,KP,λh e=>?_]
     subst e;exact(show(h.push { cls:=.type "cell",data:=.cell gV }).IsCell h.objs.size gV from#[_,KA _ rfl,rfl]).keeps (Pg r _)
    ·rename_i e;show .inl #[z,λy=>?_]
     rcases Kx.mp y with y|y
     ·cases y; simp at e
     ·exact zn y
   ·show .inr #[Nat.le_of_succ_le z1,KM _ z2,λh e=>?_]
    exact z3 _ (by rw[LC,e])
  ·rename_i hk;rcases dz r _ _ hm with⟨z,zn⟩|⟨z1,z2,z3⟩
   ·show .inl #[z,λy=>?_]
    rcases Kx.mp y with y|y
    ·cases y; exact hk rfl
    ·exact zn y
   ·show .inr #[z1,KM _ z2,λh e=>?_]
    unfold pushCells;rw[KY hk];exact z3 h e
def ir:∀(names:Kg (Ks×LW)) (m:Kt) (acc:Kg (Ks×Kn)),(∀x c,acc.lookup x=bt c->c < m)->(∀x y c,acc.lookup x=bt c->acc.lookup y=bt c->x=y)->
  ∀x y c,(cellsFrom m names acc).lookup x=bt c->(cellsFrom m names acc).lookup y=bt c->x=y
 | [],_,_,_,h=>h
 | (name,kind)::r,m,acc,hl,h=>by
  unfold cellsFrom;split
  ·show ir r (m+1) _ (λx c e=>?_) λx y c e1 e2=>?_
   ·rw[K5]at e;split at e
    ·cases e; exact Ln _
    ·exact LQ (hl x c e)
   ·rw[K5]at e1 e2;split at e1 <;> split at e2
    ·rename_i _ z1 _ z2;rw[eq_of_beq z1,eq_of_beq z2]
    ·cases e1;exact absurd (hl y _ e2) (LP _)
    ·cases e2;exact absurd (hl x _ e1) (LP _)
    ·exact h x y c e1 e2
  ·exact ir r m acc hl h
def iu:∀(names:Kg (Ks×LW)) (m:Kt) (acc:Kg (Ks×Kn)) {n:Ks},(n,Nr)∈names\/(∃c,acc.lookup n=bt c)->∃c,(cellsFrom m names acc).lookup n=bt c
 | [],_,_,_,h=>h.elim (λz=>nomatch z) id
 | (name,kind)::r,m,acc,n,h=>by
  unfold cellsFrom;split
  ·show iu r (m+1) _ ?_;rw[K5];split
   ·exact .inr #[_,rfl]
   ·rename_i e;rcases h with z|z
    ·rcases Kx.mp z with y|y
     ·cases y; simp at e
     ·exact .inl y
    ·exact .inr z
  ·rename_i hk;show iu r m acc ?_;rcases h with z|z
   ·rcases Kx.mp z with y|y
    ·cases y; exact absurd rfl hk
    ·exact .inl y
   ·exact .inr z
end
abbrev aY (mi:MI)(g:FG)(c:FT)(f:FE):Kt->Kt->Fm->aa->Kk (Kg W×aa)
 | 0,i,_,S=>match mi.at S i with
  | some gV=>bt ([],S)
  | _=>gV
 | n+1,i,Z,S=>match mi.at S i with
  | some (bt w)=>match g w Z S with
   | some (Z1,S1)=>match c Z1 S1 with
    | some (true,S2)=>match f Z1 S2 with
     | some (y,S3)=>match aY mi g c f n (i+1) Z1 S3 with
      | some (ys,S4)=>bt (y::ys,S4)
      | none=>gV
     | none=>gV
    | some (false,S2)=>aY mi g c f n (i+1) Z1 S2
    | none=>gV
   | none=>gV
  | _=>gV
abbrev eP (cap:Kg (Kk Kt))(Z:Fm):Fm:=cap.map λo=>match o with
 | some j=>(Z[j]?).join
 | none=>gV
abbrev j3 (fi:FI)(g:FG)(c:FT)(f:FE)(cap:Kg (Kk Kt)):FE:=λZ S=>match fi Z S with
 | some (mi,S1)=>match mi.len S1 with
  | some n=>match aY mi g c f n 0 (eP cap Z) S1 with
   | some (ys,S2)=>l8 S2 ys
   | none=>gV
  | none=>gV
 | none=>gV
abbrev Bw:FT:=λ_ S=>bt (true,S)
abbrev kK (X:Cx)(scope:M1)(cl:Kg (Ks×Kn))(C:Kn)(N:Kg Ks)(s0:Km)(H0:Hp)(ex:Kg Kn):Cx:=
 { X with env:=compEnvC scope (cellsFrom (C+1) scope.names cl) C X.env,N:=N,s₀:=s0,H₀:=H0,outer:=X.stack,stack:=X.stack,ex:=ex,fn:=λx=>scope.names.any λy=>y.1==x&&y.2==.cell,pn:=[],xe:=λ_ _=>Lj }
structure CompOk (X:Cx)(scope:M1)(cl:Kg (Ks×Kn))(N:Kg Ks)(cap:Kg (Kk Kt)):Prop where
 clos:closureFor scope X.env=pure cl
 kind:scope.kind=.function
 names:∀y∈scope.names,y.2=.local->scope.names.lookup y.1=bt .local
 sub:∀x c,cl.lookup x=bt c->X.env.cells.lookup x=bt c
 has:∀m x,((relabel scope X.env).names.lookup x=bt .cell\/(relabel scope X.env).names.lookup x=bt .free)->∃c,(cellsFrom m scope.names cl).lookup x=bt c
 len:cap.length=N.length
 cap:∀(i j:Kt) (x:Ks),cap[i]?=bt (bt j)->N[i]?=bt x->X.N[j]?=bt x/\(X.env.kindOf x=bt .cell\/X.env.kindOf x=bt .free)/\((relabel scope X.env).names.lookup x=bt .cell\/(relabel scope X.env).names.lookup x=bt .free)/\(x,Nr)∉scope.names
def CompOk.of {X:Cx}{scope:M1}{cl:Kg (Ks×Kn)}{N:Kg Ks}{cap:Kg (Kk Kt)}(ck:CompOk X scope cl N cap){m:Kt}{x:Ks}{c:Kn}(z:(cellsFrom m scope.names cl).lookup x=bt c):X.env.cells.lookup x=bt c\/m<=c:=
 (dz _ _ _ z).elim (λq=>.inl (ck.sub x c q.1)) λq=>.inr q.1
def fN {prog:KF}{w:KS}{A:K1}{R:Pl->Km->Prop}{s:Km}{elt target iter:KC}{ifs:Kg KC}{scope:M1}{pos:L9}{it acc:Ki}{env:Ov}(I:Kt->Km->Prop)
    (turn:∀n s,I n s->wpAny (model prog w) A (pyNext it) (λr s₁=>match r with
      | none=>R (.ok .next) s₁
      | some v=>wpAny (model prog w) A (letOwnedTupleGo target it v) (λ_ s₁=>wpAny (model prog w) A (assign target env v) (λ_ s₂=>
          wpAny (model prog w) A (forIn ifs true λc r=>if r=true then do let ok <- isTrue c env (eval c env); pure (ML ok)else pure (ML r)) (λok s₃=>
            if ok=true then wpAny (model prog w) A (eval elt env) (λx s₄=>
              wpAny (model prog w) A (call (.builtin "list.append") [acc,x]) (λ_ s₅=>∃m,m < n/\I m s₅) (λ_ _=>Lj) s₄) (λ_ _=>Lj) s₃
            else ∃m,m < n/\I m s₃) (λ_ _=>Lj) s₂) (λ_ _=>Lj) s₁) (λ_ _=>Lj) s₁) (λ_ _=>Lj) s)
    (n:Kt) (h:I n s) :
    codeAny (model prog w) A (.compLoop (.ListComp elt [#[target,iter,ifs,0]] scope pos) 0 it acc env) R s:=by
  show codeAny_loop rfl I (λn s hI=>?_) n h
  change wpAny _ A ((compTurn (.ListComp elt [#[target,iter,ifs,0]] scope pos) 0 it acc env).onRaise (λx=>do noteFrame x env; theTreesLotGoes x)) _ _ s
  show wpAny_noted ?_;rw[compTurn_list];show Kh (M8 (Kh (Lf (turn n s hI) (λr s₁ h₁=>?_) λ_ _ h'=>h'.elim)))
  cases r with
  | none=>exact Kq h₁
  | some v=>
    show Kh (Lf h₁ (λ_ s₁ h₁=>?_) λ_ _ h'=>h'.elim)
    show Kh (Lf h₁ (λ_ s₂ h₂=>Kh (Lf h₂ (λok s₃ h₃=>?_) λ_ _ h'=>h'.elim)) λ_ _ h'=>h'.elim)
    cases ok with
    | false=>exact Kq #[rfl,h₃]
    | true=>
      exact Kh (Kh (Lf h₃ (λx s₄ h₄=>Kh (Lf h₄ (λ_ s₅ h₅=>Kq (Kq #[rfl,h₅])) λ_ _ h'=>h'.elim)) λ_ _ h'=>h'.elim))
section
variable{X:Cx}{J:Kg (Kn×LJ)}{Y:L2.St}{H:Hp}{s:Km}
def Inv.adopt {D:Kn}{o:HO}(I:Inv X J Y H s)(hn:H D=gV)(h1:D∈X.ex\/X.s₀.heap.objs.size<=D)(hL:D≠X.env.locals)(h2:∀x c,X.env.cells.lookup x=bt c->c≠D)(h3:∀p∈X.pn++J,p.1≠D)
  (new:ObjOk X.prog X.w (aE H D o) s.heap D o):Inv X J Y (aE H D o) s:=by
 have nit:∀b u,H b=bt u->b≠D:=λb u e z=>by rw[z,hn]at e; cases e
 have key:Inv X J Y (aE H D o) { s with heap:=s.heap,gens:=s.gens,drawn:=s.drawn,toks:=s.toks }:=by
  show I.step (g':=s.gens) (d':=s.drawn) (t':=s.toks) (h':=s.heap) (ch:=[D]) (λb hb=>?_) (λb o _ _ hc e _=>e) (λb o _ _ hc e _=>#[o.slots,e]) (λb o hc e n=>?_)
   (λb o hc e=>#[o,e]) (λb xs e=>?_) (λb o xs e=>?_) (λb ps e=>#[#[],?_]) (λm hm=>hm) (λb u e=>?_) I.bare
  ·have e:b=D:=by simpa using hb
   subst e;exact#[h1,hL,h2,h3]
  ·rw[al (λz=>hc (by simp[z]))]; exact n
  ·rw[al (nit b _ e)]; exact e
  ·rw[al (nit b _ e)]; exact e
  ·rw[al (nit b _ e),e]; simp
  ·by_cases hb:b=D
   ·subst hb; rw[am]at e; cases e; exact new
   ·rw[al hb]at e;show(I.hok b u e).stay (λc v hc q=>q) (λc q=>?_) λc xs q=>?_
    ·rw[al (nit c _ q)]; exact q
    ·rw[al (nit c _ q)]; exact q
 exact key
def Dm {scope:M1}{cl:Kg (Ks×Kn)}{N:Kg Ks}{cap:Kg (Kk Kt)}{C:Kn}{s0:Km}{ex:Kg Kn}(I:Inv X J Y H s)(ck:CompOk X scope cl N cap)(hs:s.heap.objs.size<=s0.heap.objs.size)(hC:s0.heap.objs.size<=C)(hlt:∀x c,X.env.cells.lookup x=bt c->c < C+1)
  (hk:∀b o,s.heap.get? b=bt o->s0.heap.get? b=bt o) (hex:∀b∈ex,(b < C)/\(∀x c,X.env.cells.lookup x=bt c->c≠b)/\(∀o,X.base.get? b≠bt o)/\b∉kX X.stack) :
  (kK X scope cl C N s0 H ex).Ok where
 mod:=I.ok.mod
 kind:=ck.kind
 glob:=I.ok.glob
 blt:=I.ok.blt
 above:=hC
 inj:=ir scope.names (C+1) cl (λx c h=>hlt x c (ck.sub x c h)) λx y c h1 h2=>I.ok.inj x y c (ck.sub x c h1) (ck.sub y c h2)
 has:=λx h=>ck.has _ x h
 cab:=λx c h hc=>by
  obtain⟨⟨y,k⟩,hy,e⟩:=QX.mp h;rw[Kj]at e;have e1:y=x:=eq_of_beq e.1;have e2:k=.cell:=eq_of_beq e.2;subst e1 e2;rcases dz _ _ _ hc with q|q
  ·exact absurd hy q.2
  ·exact KJ hC (KJ (MF _) q.1)
 hd:=I.ok.hd
 frames:=I.ok.frames
 stk:=.inl rfl
 exf:=λb hb=>#[KH (hex b hb).1,λx c h=>(ck.of h).elim (λq=>(hex b hb).2.1 x c q) λq z=>absurd (KI (LQ (hex b hb).1) q) (z ▸ LP _)]
 bs:=λb o e=>#[hk b o (I.bk b o e),(I.bs b o e).2]
 bsz:=KJ (KJ I.ok.bsz I.sz) hs
 noex:=λb o e hb=>(hex b hb).2.2.1 o e
 exfs:=λb hb=>(hex b hb).2.2.2
 funs:=I.stack.of_keeps λb o e _=>#[o,hk b o e,rfl]
 frf:=I.stkFree
structure BlockOk (X:Cx)(scope:M1)(cl:Kg (Ks×Kn))(N:Kg Ks)(tg elt:KC)(ifs:Kg KC)(g:FG)(c:FT)(f:FE):Prop where
 tgt:∀C s0 H0 ex,GG (kK X scope cl C N s0 H0 ex) tg g
 tst:∀C s0 H0 ex J s Y H Q,Inv (kK X scope cl C N s0 H0 ex) J Y H s->tT (kK X scope cl C N s0 H0 ex) c Y H Q->
  wpAny (model X.prog X.w) X.A (forIn ifs true λc r=>if r=true then do let ok <- isTrue c (compEnvC scope (cellsFrom (C+1) scope.names cl) C X.env) (eval c (compEnvC scope (cellsFrom (C+1) scope.names cl) C X.env)); pure (ML ok)else pure (ML r)) (TP (kK X scope cl C N s0 H0 ex) J Y Q) (λ_ _=>Lj) s
 elt:∀C s0 H0 ex,GE (kK X scope cl C N s0 H0 ex) elt f
def mz {prog:KF}{w:KS}{B:K1}{s:Km}{E:Ki->Km->Prop}{Q:Ki->Km->Prop}{D:Kn}{its:Kg Ki}{n:Kt}{u:Ki}(e:s.heap.get? D=bt { cls:=.type "list",data:=.seq its.toArray n })(hz:its.length < sizeLine)
  (h:∀h' n',h'.get? D=bt { cls:=.type "list",data:=.seq (its++[u]).toArray n' }->(∀b o,b≠D->s.heap.get? b=bt o->h'.get? b=bt o)->Q .none { s with heap:=h' }) :
  wpAny (model prog w) B (call (.builtin "list.append") [.ref D,u]) Q E s:=by
 show O0 F.slot_list_append #[_,e,rfl] F.entry_list_append (F.args_list_append_2 _ _) (Qt D its.toArray n u (by rw[KG]; omega)) #[e,?_]
 have q:=QP e (λa=>a.push u)
 have e2:its.toArray.push u=(its++[u]).toArray:=by simp
 rw[e2]at q;exact h _ _ q (λb o hb ho=>(Le s.heap (NQ λa=>a.push u) (Ne.symm hb)).trans ho)
def lF {scope:M1}{cl:Kg (Ks×Kn)}{N:Kg Ks}{cap:Kg (Kk Kt)}{tg elt iter:KC}{ifs:Kg KC}{g:FG}{c:FT}{f:FE}{pos:L9}{A:Kg Kn}{Z:Fm}{S S':aa}{mi:MI}{n:Kt}{ws:Kg W}{E:Ki->Km->Prop}
  {it:Kn} {fp:Kg Kn} {tn:Kt->K7->Prop} {tx:It} {RR:Ki->Kn->Pl->Km->Prop}
  (I:Inv X J Y H s) (hc:X.calm=true) (er:EnvRel X.K A H Z Y) (so:StoreOk X.w X.K A H S) (ck:CompOk X scope cl N cap) (bk:BlockOk X scope cl N tg elt ifs g c f)
  (T:Turn X.prog X.w X.K tg tx fp it tn) (t0:tn 0 s.heap) (hfp:∀b∈fp,fZ X J H b) (mit:MIt X.w X.K mi tx A H) (e:aY mi g c f n 0 (eP cap Z) S=bt (ws,S')) (hz:ws.length<=sizeLine)
  (fin:∀D C s' H' A' vs m,s'.heap.Ns C m->H' D=gV->D≠C->C≠X.env.locals->C∉X.fs->H' C=gV->X.s₀.heap.objs.size<=C->(∀x c,X.env.cells.lookup x=bt c->c≠C)->(∀p∈X.pn++J,p.1≠C)->
   Inv X J Y (aE H' D (.lst vs)) s'->Ext X.K A H A' H'->StoreOk X.w X.K A' H' S'->RelL X.K A' H' ws vs->RR (.ref D) C (.ok .next) s') :
  wpAny (model X.prog X.w) X.A (newList []) (λacc s₃=>wpAny (model X.prog X.w) X.A (newFunctionEnv scope X.env.globals cl [] X.env.qual gV .none (bt X.env)) (λcenv s₄=>
   codeAny (model X.prog X.w) X.A (.compStart (.ListComp elt [#[tg,iter,ifs,0]] scope pos) 0 (.ref it) acc { cenv with scope:=relabel scope X.env }) (RR acc cenv.locals) s₄) E s₃) E s:=by
 show Lg (oo ?_);dsimp only;generalize hH2:s.heap.push { cls:=.type "list",dict:=gV,data:=.seq ([]:Kg Ki).toArray }=h2;obtain⟨h₁,hh₁⟩ : ∃h₁,h₁=pushCells (h2.push { cls:=.type "dict",data:=.dict #[] }) scope.names:=#[_,rfl];rw[<- hh₁];have hns₁:=wH (names:=scope.names) (h2:=h2);rw[<- hh₁]at hns₁;have hCs:h2.objs.size=s.heap.objs.size+1:=by rw[<- hH2,LC]
 have k2:∀b o,s.heap.get? b=bt o->h2.get? b=bt o:=λb o z=>hH2 ▸ Kl _ z
 have lt2:∀b o,h2.get? b=bt o->b < h2.objs.size:=λb o z=>Ky z
 have k1:∀b o,h2.get? b=bt o->h₁.get? b=bt o:=λb o z=>hh₁ ▸ Pg _ _ b o (Kl _ z)
 have hD2:h2.get? s.heap.objs.size=bt { cls:=.type "list",data:=.seq ([]:Kg Ki).toArray }:=hH2 ▸ KA _ rfl;have hDC:s.heap.objs.size≠h2.objs.size:=by rw[hCs]; omega
 have fresh:∀a,s.heap.objs.size<=a->H a=gV:=λa ha=>I.hok.fresh ha
 have cellLt:∀x c,X.env.cells.lookup x=bt c->c < s.heap.objs.size:=λx c z=>let ⟨_,q⟩:=I.cell x c z; q.lt
 have fpLt:∀b∈fp,b < s.heap.objs.size:=λb hb=>let ⟨_,q,_⟩:=T.obj 0 s.heap t0 b hb; Ky q
 have stkLt:∀b∈kX X.stack,b < s.heap.objs.size:=λb hb=>let ⟨_,o,q,_⟩:=I.stack.mem hb; Ky q
 have baseLt:∀b o,X.base.get? b=bt o->b < s.heap.objs.size:=λb o z=>Ky (I.bk b o z)
 have fpStk:∀b∈fp,b∉kX X.stack:=λb hb z=>by
  rcases Kx.mp (I.stkSub b z)with q|q
  ·exact(hfp b hb).2.1 q
  ·exact(hfp b hb).2.2.1 q
 have fpBase:∀b∈fp,∀o,X.base.get? b≠bt o:=λb hb o z=>by
  rcases(hfp b hb).2.2.2.1 with q|q
  ·exact I.ok.noex b o z q
  ·exact absurd (KI (Ky (I.ok.bs b o z).1) q) (LP _)
 have ltD:∀ {b:Kn},b < s.heap.objs.size->b < h2.objs.size:=λhb=>by rw[hCs]; exact LQ hb
 have ltC:∀ {b:Kn},b < s.heap.objs.size->b≠h2.objs.size:=λhb=>KH (ltD hb)
 have ownNe:∀ {b c:Kn},b<=s.heap.objs.size->h2.objs.size+1<=c->c≠b:=λhb hc=>K9 (Qa hb (KI (by rw[hCs]; omega:s.heap.objs.size < h2.objs.size+1) hc))
 let s3:Km:={ s with heap:=h2 }
 have ok':(kK X scope cl h2.objs.size N s3 H (fp++[s.heap.objs.size])).Ok:=by
  show Dm I ck (show s.heap.objs.size<=h2.objs.size by rw[hCs]; omega) (Kz _) (λx c z=>LQ (ltD (cellLt x c z))) k2 λb hb=>?_
  rcases Lb.mp hb with hb|hb
  ·exact#[ltD (fpLt b hb),(hfp b hb).2.2.2.2.1,fpBase b hb,fpStk b hb]
  ·have eb:b=s.heap.objs.size:=by simpa using hb
   subst eb;exact#[(by rw[hCs]; exact Ln _),λx c z=>KH (cellLt x c z),λo z=>LP _ (baseLt _ o z),λz=>LP _ (stkLt _ z)]
 obtain⟨m0,hn0,hl0⟩:=I.loc;have I0:Inv (kK X scope cl h2.objs.size N s3 H (fp++[s.heap.objs.size])) [] (cap.map λo=>match o with|some j=>(Y[j]?).join|none=>gV) H { s3 with heap:=h₁ }:=by
  show#[ok',rfl,I.bare,Un.kept k1,#[_,hns₁,λi x v e1 e2 e3=>?_],λx cc z=>?_,fresh _ (show s.heap.objs.size<=h2.objs.size by rw[hCs]; exact MF _),λx cc z=>(ck.of z).elim (I.freeC x cc) λq=>fresh _ (show s.heap.objs.size<=cc by omega),λp hp=>absurd hp (by simp[kK]),(I.hok.kept k2).kept k1,by rw[Kv]; exact ck.len]
  ·rw[K4]at e2;cases q:cap[i]? with
   | none=>rw[q]at e2; cases e2
   | some oj=>
    rw[q]at e2;cases oj with
    | none=>cases e2
    | some j=>
     obtain⟨z1,z2,z3,z4⟩:=ck.cap i j x q e1;have e2':(Y[j]?).join=bt v:=by simpa using e2
     have e2'':Y[j]?=bt (bt v):=by
      cases r:Y[j]? with
      | none=>rw[r]at e2'; cases e2'
      | some y=>rw[r]at e2'; exact congrArg bt e2'
     obtain⟨u,ru,lk⟩:=hl0 j x v z1 e2'' (by
      rcases z2 with z|z
      ·exact .inr (.inl z)
      ·exact .inr (.inr z))
     show#[u,ru,?_];rcases lk with⟨zk,_⟩|⟨_,cc,zc,zi⟩
     ·rcases z2 with z|z <;> (rw[zk]at z; cases z)
     ·obtain⟨c2,hc2⟩:=ck.has (h2.objs.size+1) x z3;have:=(dz _ _ _ hc2).elim (λq=>ck.sub x c2 q.1) λq=>absurd q.2.1 z4
      rw[zc]at this; cases this
      show .inr #[z3,cc,hc2,?_];obtain⟨o,ho,hd⟩:=zi;exact#[o,k1 _ _ (k2 _ _ ho),hd]
  ·rcases dz _ _ _ z with q|q
   ·obtain⟨v,o,ho,hd⟩:=I.cell x cc (ck.sub x cc q.1);exact#[v,o,k1 _ _ (k2 _ _ ho),hd]
   ·exact#[gV,hh₁ ▸ q.2.2 _ (LC ..)]
 have er0:EnvRel X.K A H (eP cap Z) (cap.map λo=>match o with|some j=>(Y[j]?).join|none=>gV):=by
  show#[by simp[eP],λi w q=>?_]
  unfold eP at q;rw[K4]at q ⊢;cases r:cap[i]? with
  | none=>rw[r]at q; cases q
  | some oj=>
   rw[r]at q;cases oj with
   | none=>cases q
   | some j=>
    have q':(Z[j]?).join=bt w:=by simpa using q
    have q'':Z[j]?=bt (bt w):=by
     cases z:Z[j]? with
     | none=>rw[z]at q'; cases q'
     | some y=>rw[z]at q'; exact congrArg bt q'
    obtain⟨v,z1,z2⟩:=er.2 j w q'';exact#[v,by simp[z1],z2]
 have t1:tn 0 h₁:=T.keep 0 s.heap h₁ t0 λb hb o z=>k1 b o (k2 b o z)
 have fpOk':∀ {H':Hp} {pp:Kg (Kn×LJ)},(∀b∈fp,H' b=gV)->(∀p∈pp,p.1=s.heap.objs.size)->∀b∈fp,fZ (kK X scope cl h2.objs.size N s3 H (fp++[s.heap.objs.size])) pp H' b:=λhn hp b hb=>
  #[hn b hb,ltC (fpLt b hb),fpStk b hb,.inl (LZ _ hb),λx cc z=>(ck.of z).elim (λq=>(hfp b hb).2.2.2.2.1 x cc q) (ownNe (MN (fpLt b hb))),λp hpp=>by
   rw[hp p (by simpa [kK]using hpp)]
   exact(KH (fpLt b hb)).symm]
 have DinEx:s.heap.objs.size∈fp++[s.heap.objs.size]:=KW _ (by simp)
 have cellD:∀x c,(cellsFrom (h2.objs.size+1) scope.names cl).lookup x=bt c->c≠s.heap.objs.size:=λx cc z=>(ck.of z).elim (λq=>KH (cellLt x cc q)) (ownNe (Kz _))
 have fpD:∀b∈fp,b≠s.heap.objs.size:=λb hb=>KH (fpLt b hb)
 have theEnd:∀s' Y' H' A' vs its nn,Inv (kK X scope cl h2.objs.size N s3 H (fp++[s.heap.objs.size])) [] Y' H' s'->s'.heap.get? s.heap.objs.size=bt { cls:=.type "list",data:=.seq its nn }->∀(hits:∃l:Kg Ki,its=l.toArray/\Vals vs l),H' s.heap.objs.size=gV->Ext X.K A H A' H'->StoreOk X.w X.K A' H' S'->RelL X.K A' H' ws vs->
   RR (.ref s.heap.objs.size) h2.objs.size (.ok .next) s':=by
  intro s' Y' H' A' vs its nn I' hD hits hDn ex so' rl;obtain⟨l,rfl,rv⟩:=hits;obtain⟨m,hn,_⟩:=id I'.loc;have un:Un (kX X.stack) (fp++[s.heap.objs.size]) H H' s.heap s'.heap:=(Un.kept k2).trans I'.base;have hch:∀b∈fp++[s.heap.objs.size],(b∈X.ex\/X.s₀.heap.objs.size<=b)/\b≠X.env.locals/\(∀x c,X.env.cells.lookup x=bt c->c≠b)/\∀p∈X.pn++J,p.1≠b:=λb hb=>by
   rcases Lb.mp hb with hb|hb
   ·exact#[(hfp b hb).2.2.2.1,(hfp b hb).2.1,(hfp b hb).2.2.2.2.1,(hfp b hb).2.2.2.2.2]
   ·have eb:b=s.heap.objs.size:=by simpa using hb
    subst eb;exact#[.inr I.sz,(KH I.lt).symm,λx cc z=>KH (cellLt x cc z),λp hp=>KH (Ky (I.pin p hp).1)]
  have I2:Inv X J Y H' s':=I.call' (show s'.os=s.os from I'.os) un I'.hok I'.bare hch
  have I3:Inv X J Y (aE H' s.heap.objs.size (.lst vs)) s':=Inv.adopt I2 hDn (hch _ DinEx).1 (hch _ DinEx).2.1 (hch _ DinEx).2.2.1 (hch _ DinEx).2.2.2 #[by rw[<- rl.length]; exact hz,l,nn,rv,hD]
  have hCle:s.heap.objs.size<=h2.objs.size:=by rw[hCs]; exact MF _
  exact fin _ _ s' H' A' vs m hn hDn hDC (K9 (KI I.lt hCle)) (I.nofs hCle) I'.free (KJ I.sz hCle) (λx cc z=>KH (KI (cellLt x cc z) hCle))
   (λp hp=>KH (KI (Ky (I.pin p hp).1) hCle)) I3 ex so' rl
 have loop:∀s4:Km,s4={ s3 with heap:=h₁ }->
   codeAny (model X.prog X.w) X.A (.compLoop (.ListComp elt [#[tg,iter,ifs,0]] scope pos) 0 (.ref it) (.ref s.heap.objs.size) (compEnvC scope (cellsFrom (h2.objs.size+1) scope.names cl) h2.objs.size X.env)) (RR (.ref s.heap.objs.size) h2.objs.size) s4:=by
  rintro s4 rfl;show fN (λk s5=>∃i Y5 H5 A5 Z5 S5 done its nn vs ys,Inv (kK X scope cl h2.objs.size N s3 H (fp++[s.heap.objs.size])) [] Y5 H5 s5/\tn i s5.heap/\(∀b∈fp,H5 b=gV)/\s5.heap.get? s.heap.objs.size=bt { cls:=.type "list",data:=.seq (its:Kg Ki).toArray nn }/\H5 s.heap.objs.size=gV/\Vals vs its/\
   Ext X.K A H A5 H5/\EnvRel X.K A5 H5 Z5 Y5/\StoreOk X.w X.K A5 H5 S5/\RelL X.K A5 H5 done vs/\ws=done++ys/\aY mi g c f k i Z5 S5=bt (ys,S')) ?_ n
   #[0,_,H,A,_,S,[],[],0,[],ws,I0,t1,λb hb=>(hfp b hb).1,k1 _ _ hD2,fresh _ (Kz _),.nil,.refl,er0,so,.nil,rfl,e]
  rintro k s5 ⟨i,Y5,H5,A5,Z5,S5,done,its,nn,vs,ys,I5,t5,f5,d5,n5,v5,e5,er5,so5,rl5,hw5,w5⟩;have pinD:Inv (kK X scope cl h2.objs.size N s3 H (fp++[s.heap.objs.size])) [(s.heap.objs.size,{ cls:=.type "list",data:=.seq its.toArray nn })] Y5 H5 s5:=I5.pins_of λp hp=>by
   have hp':p=(s.heap.objs.size,{ cls:=.type "list",data:=.seq its.toArray nn }):=by simpa using hp
   subst hp';exact#[d5,n5,hDC,λz=>LP _ (stkLt _ z),λv z=>by cases z]
  have oneD:∀p∈[(s.heap.objs.size,({ cls:=.type "list",data:=.seq its.toArray nn }:LJ))],p.1=s.heap.objs.size:=λp hp=>by
   have hp':p=(s.heap.objs.size,{ cls:=.type "list",data:=.seq its.toArray nn }):=by simpa using hp
   rw[hp']
  cases k with
  | zero=>
   dsimp only[aY]at w5;split at w5
   ·rename_i hst;cases w5;rw[LK]at hw5;subst hw5;show aK (T.done (kK X scope cl h2.objs.size N s3 H (fp++[s.heap.objs.size])) rfl rfl rfl hc i _ s5 Y5 H5 _ pinD (fpOk' f5 oneD) t5 (mit.stop A5 H5 _ i e5 so5 hst)) λr s6 #[hr,I6]=>?_
    subst hr;have p6:=I6.pin _ (KW _ (KU.mpr rfl));exact theEnd s6 Y5 H5 A5 vs _ nn (I6.pins_of λp hp=>absurd hp (by simp)) p6.1 #[its,rfl,v5] n5 e5 so5 rl5
   ·cases w5
  | succ k=>
   dsimp only[aY]at w5;split at w5
   ·rename_i w hw;obtain⟨go,yl⟩:=mit.go A5 H5 S5 i w e5 so5 hw;show aK (T.item (kK X scope cl h2.objs.size N s3 H (fp++[s.heap.objs.size])) rfl rfl rfl hc i _ s5 Y5 H5 _ pinD (fpOk' f5 oneD) t5 go) λr s6 #[u,hr,h6]=>?_
    subst hr;show aK h6 λ_ s7 #[x,H7,I7,r7,y7,t7,f7]=>?_
    obtain⟨x1,x2,x3⟩:=yl x H7 y7;have I7':=I7.pinned (fpOk' f7 oneD) (T.obj _ _ t7);split at w5
    ·rename_i Z8 S8 h8;show aK (bk.tgt _ _ _ _ _ s7 Y5 H7 x u (λY' H'=>∃A',Ext X.K A5 H5 A' H'/\StoreOk X.w X.K A' H' S8/\EnvRel X.K A' H' Z8 Y') I7' r7 #[A5,Z5,S5,w,Z8,S8,er5.mono x1,x2,x3,h8,λY' H' A' q1 q2 q3=>#[A',x1.trans q1,q2,q3]]) λ_ s8 #[Y8,H8,I8,A8,e58,so8,er8]=>?_
     have e8:Ext X.K A H A8 H8:=e5.trans e58;have pD:∀ {Y':L2.St} {H':Hp} {s':Km},Inv (kK X scope cl h2.objs.size N s3 H (fp++[s.heap.objs.size])) ([(s.heap.objs.size,{ cls:=.type "list",data:=.seq its.toArray nn })]++ie fp s7.heap) Y' H' s'->s'.heap.get? s.heap.objs.size=bt { cls:=.type "list",data:=.seq its.toArray nn }/\H' s.heap.objs.size=gV:=λI'=>
      let q:=I'.pin _ (KW _ (LZ _ (KU.mpr rfl)))
      #[q.1,q.2.1]
     have pF:∀ {Y':L2.St} {H':Hp} {s':Km},Inv (kK X scope cl h2.objs.size N s3 H (fp++[s.heap.objs.size])) ([(s.heap.objs.size,{ cls:=.type "list",data:=.seq its.toArray nn })]++ie fp s7.heap) Y' H' s'->(∀b∈fp,H' b=gV)/\∀b∈fp,∀o,s7.heap.get? b=bt o->s'.heap.get? b=bt o:=λI'=>
      #[λb hb=>by
       obtain⟨o,eo,_⟩:=T.obj _ _ t7 b hb;exact(I'.pin (b,o) (KW _ (KW _ (dG hb eo)))).2.1,
       λb hb o eo=>(I'.pin (b,o) (KW _ (KW _ (dG hb eo)))).1]
     split at w5
     ·rename_i S9 h9;show aK (bk.tst _ _ _ _ _ s8 Y8 H8 (λb H'=>b=true/\∃A',Ext X.K A8 H8 A' H'/\StoreOk X.w X.K A' H' S9) I8 #[A8,Z8,S8,true,S9,er8,so8,h9,λb H' #[z0,A',z1,z2]=>#[z0,A',z1,z2]]) λb s9 #[H9,I9,z0,A9,e9,so9]=>?_
      subst z0;rw[KQ rfl];split at w5
      ·rename_i y S10 h10;split at w5
       ·rename_i ys' S4 h11;cases w5;show aK (bk.elt _ _ _ _ _ s9 Y8 H9 (EndV X.w X.K A9 H9 S10 y) I9 #[A9,Z8,S9,y,S10,er8.mono e9,so9,h10,λ_ _ z=>z]) λu10 s10 #[v10,H10,I10,r10,A10,e10,so10,rl10]=>?_
        obtain⟨d10,n10⟩:=pD I10;obtain⟨f10,k10⟩:=pF I10;have hlen:its.length < sizeLine:=by
         have l1:=v5.length;have l2:=rl5.length;rw[hw5,Kw,Lh]at hz;omega
        show mz d10 hlen λh' n' hd' hk'=>?_
        have Ib:Inv (kK X scope cl h2.objs.size N s3 H (fp++[s.heap.objs.size])) [] Y8 H10 { s10 with heap:=h' }:=by
         have Ia:Inv (kK X scope cl h2.objs.size N s3 H (fp++[s.heap.objs.size])) [] Y8 H10 s10:=I10.pins_of λp hp=>absurd hp (by simp)
         exact Ia.turned (t':=s10.toks) (it:=s.heap.objs.size) hk' n10 hDC (.inl DinEx) cellD (λp hp=>absurd hp (by simp[kK]))
        show#[k,Ln k,i+1,Y8,H10,A10,Z8,S10,done++[y],its++[u10],n',vs++[v10],ys',Ib,?_,f10,hd',n10,v5.append #v[r10],(e8.trans e9).trans e10,(er8.mono e9).mono e10,so10,?_,?_,h11]
        ·exact T.keep (i+1) s7.heap h' t7 λb hb o eo=>hk' b o (fpD b hb) (k10 b hb o eo)
        ·exact(rl5.mono ((e58.trans e9).trans e10)).append #v[rl10]
        ·rw[hw5,N3]; rfl
       ·cases w5
      ·cases w5
     ·rename_i S9 h9;show aK (bk.tst _ _ _ _ _ s8 Y8 H8 (λb H'=>b=false/\∃A',Ext X.K A8 H8 A' H'/\StoreOk X.w X.K A' H' S9) I8 #[A8,Z8,S8,false,S9,er8,so8,h9,λb H' #[z0,A',z1,z2]=>#[z0,A',z1,z2]]) λb s9 #[H9,I9,z0,A9,e9,so9]=>?_
      subst z0;rw[KY KL];obtain⟨d9,n9⟩:=pD I9;obtain⟨f9,k9⟩:=pF I9;show#[k,Ln k,i+1,Y8,H9,A9,Z8,S9,done,its,nn,vs,ys,I9.pins_of λp hp=>absurd hp (by simp),T.keep (i+1) s7.heap _ t7 k9,f9,d9,n9,v5,e8.trans e9,er8.mono e9,so9,rl5.mono (e58.trans e9),hw5,w5]
     ·cases w5
    ·cases w5
   ·cases w5
 exact codeAny_compStart_list (loop _ rfl) (T.self X.A 0 _ _ _ t1 (loop _ rfl))
def oq {fi:FI}{g:FG}{c:FT}{f:FE}{cap:Kg (Kk Kt)}{Z:Fm}{S:aa}{w:W}{S':aa}(e:j3 fi g c f cap Z S=bt (w,S')) :
  ∃mi S1 n ys S2,fi Z S=bt (mi,S1)/\mi.len S1=bt n/\aY mi g c f n 0 (eP cap Z) S1=bt (ys,S2)/\ys.length<=sizeLine/\w=.ref S2.length/\S'=S2++[.lst ys]:=by
 unfold j3 at e;split at e
 ·rename_i mi S1 h1;split at e
  ·rename_i n h2;split at e
   ·rename_i ys S2 h3;obtain⟨h4,h5,h6⟩:=jd e;exact#[mi,S1,n,ys,S2,h1,h2,h3,h4,h5,h6]
   ·cases e
  ·cases e
 ·cases e
def Aa {scope:M1}{N:Kg Ks}{cap:Kg (Kk Kt)}{tg elt iter:KC}{ifs:Kg KC}{fi:FI}{g:FG}{c:FT}{f:FE}{pos:L9}(hc:X.calm=true)(hi:GI X tg iter fi)(hck:X.Ok->∃cl,CompOk X scope cl N cap/\BlockOk X scope cl N tg elt ifs g c f)
  (hs:∀x,foldedSetIterable iter X.env x=pure x):GE X (.ListComp elt [#[tg,iter,ifs,0]] scope pos) (j3 fi g c f cap):=by
 intro J s Y H Q I ⟨A,Z,S,w,S',er,so,e,hq⟩;obtain⟨mi,S1,n,ys,S2,h1,h2,h3,h4,rfl,rfl⟩:=oq e;obtain⟨cl,ck,bk⟩:=hck I.ok;rw[eval_ListComp];show OQ (use:=gV) rfl hs ck.clos ck.kind ck.names (aK (hi J s Y H (λtx H'=>∃A',Ext X.K A H A' H'/\StoreOk X.w X.K A' H' S1/\MIt X.w X.K mi tx A' H') I #[A,Z,S,mi,S1,er,so,h1,λtx H' A' z1 z2 z3=>#[A',z1,z2,z3]]) λv s1 q1=>aK q1 λitv s2 q2=>?_)
 obtain⟨it,fp,tn,tx,H2,rfl,I2,T,t0,hfp,A2,e2,so2,mit⟩:=q2;show lF (RR:=λacc C=>compPost (model X.prog X.w) X.A X.xe gV (EP X J Y Q) acc C) I2 hc (er.mono e2) so2 ck bk T t0 hfp mit h3 h4 ?_
 intro D C s' H' A' vs m hn hDn hDC hCL hCf hCn hCs hCc hCp I3 ex so3 rl;show#[m,hn,λh' hs'=>?_]
 have I4:Inv X J Y (aE H' D (.lst vs)) { s' with heap:=h' }:=I3.turned (t':=s'.toks) (it:=C) (λb o hb eo=>hs'.extBut b o hb eo) (by rw[al (Ne.symm hDC)]; exact hCn) hCL (.inr hCs) hCc hCp
 exact#[.ref D,_,I4,rfl,hq _ _ (EndV.after (e2.trans ex) (.lst so3 rl hDn))]
def qr {scope:M1}{N:Kg Ks}{cap:Kg (Kk Kt)}{tg elt iter:KC}{ifs:Kg KC}{fi:FI}{g:FG}{c:FT}{f:FE}{pos py spos:L9}{y:Ks}{i:Kt}(hc:X.calm=true)(hi:GI X tg iter fi)(hck:X.Ok->∃cl,CompOk X scope cl N cap/\BlockOk X scope cl N tg elt ifs g c f)
  (hs:∀x,foldedSetIterable iter X.env x=pure x) (hsw:swapsWith (.ListComp elt [#[tg,iter,ifs,0]] scope pos) (bt (.Name y py)) spos.line X.env=pure true) (hN:X.N.Nodup) (hy:X.N[i]?=bt y) (hl:X.env.scope.names.lookup y=bt .local) :
  GS X (.Assign [.Name y py] (.ListComp elt [#[tg,iter,ifs,0]] scope pos) spos) (dJ (j3 fi g c f cap) (zQ i)):=by
 intro J s Y H Dd I ⟨A,Z,S,o,S',er,so,e,hd⟩;unfold dJ at e;split at e
 ·rename_i w S0 h0;simp only[zQ]at e;cases e;obtain⟨mi,S1,n,ys,S2,h1,h2,h3,h4,rfl,rfl⟩:=oq h0;obtain⟨cl,ck,bk⟩:=hck I.ok;rw[exec_Assign_Name_used _ _ _ _ hsw];show Kh (M8 (Kh ?_));change wpAny _ X.A (do let _ <- comprehension (.ListComp elt [⟨tg,iter,ifs,0⟩] scope pos) scope X.env _ (newList []) false (eval iter X.env) (bt (assign (.Name y py) X.env))) _ _ s
  show Kh (Lf (OQ (use:=bt (assign (.Name y py) X.env)) (Q:=λ_ s'=>SP X J Dd .next s') rfl hs ck.clos ck.kind ck.names
   (aK (hi J s Y H (λtx H'=>∃A',Ext X.K A H A' H'/\StoreOk X.w X.K A' H' S1/\MIt X.w X.K mi tx A' H') I #[A,Z,S,mi,S1,er,so,h1,λtx H' A' z1 z2 z3=>#[A',z1,z2,z3]]) λv s1 q1=>aK q1 λitv s2 q2=>?_)) (λ_ s' hq=>Kq (Kq hq)) λ_ _ e=>e)
  obtain⟨it,fp,tn,tx,H2,rfl,I2,T,t0,hfp,A2,e2,so2,mit⟩:=q2;show lF (RR:=λacc C=>compPost (model X.prog X.w) X.A X.xe (bt (assign (.Name y py) X.env)) (λ_ s'=>SP X J Dd .next s') acc C) I2 hc (er.mono e2) so2 ck bk T t0 hfp mit h3 h4 ?_
  intro D C s' H' A' vs m hn hDn hDC hCL hCf hCn hCs hCc hCp I3 ex so3 rl;obtain⟨oC,esC,epC,hoC,hdC,hrC⟩:=id hn;have I3':Inv X (J++[(C,oC)]) Y (aE H' D (.lst vs)) s':=I3.pins_of λp hp=>by
   rcases Lb.mp hp with hp|hp
   ·exact I3.pin p (KW _ hp)
   ·have hp':p=(C,oC):=by simpa using hp
    subst hp';exact#[hoC,by rw[al (Ne.symm hDC)]; exact hCn,hCL,hCf,λv z=>by rw[hdC]at z; cases z]
  change wpAny _ X.A (assign (.Name y py) X.env (.ref D)) _ _ _;show Qi (dh I3' hN hy (.inl hl) (v:=.ref D) rfl (λs4 I4=>?_) (.inr hl))
  have pC:=I4.pin (C,oC) (KW _ (KW _ (KU.mpr rfl)));show#[m,#[oC,esC,epC,pC.1,hdC,hrC],λh' hs'=>?_]
  have I5:Inv X J (Y.set i (bt (.ref D))) (aE H' D (.lst vs)) s4:=I4.pins_of λp hp=>I4.pin p (KW _ (LZ _ hp))
  have I6:Inv X J (Y.set i (bt (.ref D))) (aE H' D (.lst vs)) { s4 with heap:=h' }:=I5.turned (t':=s4.toks) (it:=C) (λb o hb eo=>hs'.extBut b o hb eo) (by rw[al (Ne.symm hDC)]; exact hCn) hCL (.inr hCs) hCc hCp
  obtain⟨Af,f1,f2,f3⟩:=EndV.after (e2.trans ex) (EndV.lst so3 rl hDn);exact#[_,_,I6,hd.nx _ _ #[_,Af,rfl,f1,f2,(er.mono f1).set f3 i]]
 ·cases e
end
open PySem.Builtin.SmallTypes (nextOf)
structure Zap (z p q i j:Kn):Prop where
 pz:p≠z
 qz:q≠z
 iz:i≠z
 jz:j≠z
 pq:p≠q
 pi:p≠i
 pj:p≠j
 qi:q≠i
 qj:q≠j
 ij:i≠j
section
variable{prog:KF}{w:KS}
structure Zit (prog:KF)(w:KS)(it:Kn)(T:Kt->K7->Prop)(C:K7->Prop)(i:Kt)(Uq:Kk (Ki->Prop)):Prop where
 keep:∀j h h',T j h->(∀o,h.get? it=bt o->h'.get? it=bt o)->T j h'
 next:∀V,Uq=bt V->∀(B:K1) (s:Km) (Q:Ki->Km->Prop) (E:Ki->Km->Prop),T i s.heap->C s.heap->(∀u h' tk,V u->T (i+1) h'->M2 it s.heap h'->Q u { s with heap:=h',toks:=tk })->wpAny (model prog w) B (nextOf (.ref it)) Q E s
 stop:Uq=gV->∀(B:K1) (s:Km) (Q:Ki->Km->Prop) (E:Ki->Km->Prop),B.handled=gV->T i s.heap->C s.heap->(∀h' e,Q7 it s.heap h'->(∃o,h'.get? e=bt o/\o.cls=.type "StopIteration")->E (.ref e) { s with heap:=h' })->wpAny (model prog w) B (nextOf (.ref it)) Q E s
variable{B:K1}{E:Ki->Km->Prop}{s:Km}{z p q i1 i2:Kn}{T1 T2:Kt->K7->Prop}{C1 C2:K7->Prop}{i:Kt}{a b:Ki}
abbrev Zc (z q i1 i2:Kn)(C:K7->Prop):Prop:=∀h h',C h->(∀c o,c≠z->c≠q->c≠i1->c≠i2->h.get? c=bt o->h'.get? c=bt o)->C h'
def j4 {U1 U2:Kk (Ki->Prop)}{Q:Ki->Km->Prop}(D:Zap z p q i1 i2)(Zq:Zit prog w i1 T1 C1 i U1)(Z2':∀V1,U1=bt V1->Zit prog w i2 T2 C2 i U2)(k1:Zc z q i1 i2 C1)(k2:Zc z q i1 i2 C2)(hh:B.handled=gV)
  (hz:P0 s.heap z p q .none) (hp:Of s.heap p (.ref i1) (.ref i2)) (hq:Of s.heap q a b) (t1:T1 i s.heap) (t2:T2 i s.heap) (c1:C1 s.heap) (c2:C2 s.heap)
  (hI:∀V1 V2,U1=bt V1->U2=bt V2->∀u v h' tk,V1 u->V2 v->P0 h' z p q (rawInt s.heap.objs.size)->Of h' q u v->T1 (i+1) h'->T2 (i+1) h'->Of h' s.heap.objs.size u v->
   (∀c o,c≠z->c≠q->c≠i1->c≠i2->s.heap.get? c=bt o->h'.get? c=bt o)->Q (.ref s.heap.objs.size) { s with heap:=h',toks:=tk })
  (hE:U1=gV\/U2=gV->∀h' tk e,(∀c o,c≠z->c≠q->c≠i1->c≠i2->s.heap.get? c=bt o->h'.get? c=bt o)->(∃o,h'.get? e=bt o/\o.cls=.type "StopIteration")->E (.ref e) { s with heap:=h',toks:=tk }) :
  wpAny (model prog w) B (M4.«zip.__next__» #[[.ref z],[]]) (λfin s'=>∃v,fin=.done (.ret v)/\Q v s') E s:=by
 change wpAny _ _ (field (.ref z) 2 >>= _) _ _ s;show Kh (Lu hz rfl (x:=.bool false) rfl ?_);change wpAny _ _ (field (.ref z) 3 >>= _) _ _ s;show Kh (Lu hz rfl (x:=.ref p) rfl (Kh (Nk hp rfl ?_)));change wpAny _ _ (Mf (.ref z) >>= _) _ _ s;unfold Mf;show Kh (Kh (Lu hz rfl (x:=.none) rfl (Kq ?_)));simp only[Nf];show Kh (Nn (Kh (Lu hz rfl (x:=.ref q) rfl ?_)));show Kh (MU hz (by simp) λg1 zz1 s1=>?_)
 replace zz1:P0 g1 z p q .ellipsis:=zz1;show Kh ?_;simp only[List.zipIdx_cons,List.zipIdx_nil,Pf,OG];show Kh (Kh (PZ ?_));change wpAny _ _ (nextOf (.ref i1) >>= _) _ _ _;have up1:∀c o,c≠z->s.heap.get? c=bt o->g1.get? c=bt o:=λc o hc e=>s1.extBut c o hc e
 have t1':T1 i g1:=Zq.keep _ _ _ t1 λo e=>up1 _ _ D.iz e
 have c1':C1 g1:=k1 _ _ c1 λc o hc _ _ _ e=>up1 c o hc e
 have fin:∀(g:K7) (tk:Kt) (it e:Kn),(it=i1\/it=i2)->U1=gV\/U2=gV->P0 g z p q .ellipsis->(∀c o,c≠z->c≠q->c≠i1->c≠i2->s.heap.get? c=bt o->g.get? c=bt o)->(∃o,g.get? e=bt o/\o.cls=.type "StopIteration")->
   wpAny (model prog w) B (setField (.ref z) 0 .none) (λ_ s''=>E (.ref e) s'') E { s with heap:=g,toks:=tk }:=λg tk it e _ hu gz kg #[oe,he,hc]=>by
  have ne:e≠z:=λx=>by subst x; rw[gz]at he; cases he; simp at hc
  exact MU gz (by simp) λg' _ sb=>hE hu g' tk e (λc o a1 a2 a3 a4 x=>sb.extBut _ _ a1 (kg c o a1 a2 a3 a4 x)) #[oe,sb.extBut _ _ ne he,hc]
 cases hu1:U1 with
 | none=>
  show Kh (Zq.stop hu1 _ _ _ _ hh t1' c1' λg2 e eb he=>?_)
  exact fin g2 s.toks i1 e (.inl rfl) (.inl hu1) (eb _ _ D.iz.symm zz1) (λc o a1 _ a3 _ x=>eb _ _ a3 (up1 c o a1 x)) he
 | some V1=>
  have Zz:=Z2' V1 hu1;show Kh (Zq.next V1 hu1 _ _ _ _ t1' c1' λu g2 tk2 hu t12 s2=>Kq ?_)
  have q2:Of g2 q a b:=s2.extBut _ _ D.qi (up1 _ _ D.qz hq);show Kh (Nk q2 rfl (Kh (Pu q2 λg3 q3 s3=>?_)))
  replace q3:Of g3 q u b:=q3;show Kh (Q8 (Kq ?_));show Kh (Kh (PZ ?_));change wpAny _ _ (nextOf (.ref i2) >>= _) _ _ _;have up3:∀c o,c≠z->c≠q->c≠i1->s.heap.get? c=bt o->g3.get? c=bt o:=λc o a1 a2 a3 x=>s3.extBut _ _ a2 (s2.extBut _ _ a3 (up1 c o a1 x))
  have zz3:P0 g3 z p q .ellipsis:=s3.extBut _ _ D.qz.symm (s2.extBut _ _ D.iz.symm zz1);have t2':T2 i g3:=Zz.keep _ _ _ t2 λo e=>up3 _ _ D.jz D.qj.symm D.ij.symm e
  have c2':C2 g3:=k2 _ _ c2 λc o a1 a2 a3 _ e=>up3 c o a1 a2 a3 e
  cases hu2:U2 with
  | none=>
   show Kh (Zz.stop hu2 _ _ _ _ hh t2' c2' λg4 e eb he=>?_)
   exact fin g4 tk2 i2 e (.inr rfl) (.inr hu2) (eb _ _ D.jz.symm zz3) (λc o a1 a2 a3 a4 x=>eb _ _ a4 (up3 c o a1 a2 a3 x)) he
  | some V2=>
   show Kh (Zz.next V2 hu2 _ _ _ _ t2' c2' λv g4 tk4 hv t24 s4=>Kq ?_)
   have q4:Of g4 q u b:=s4.extBut _ _ D.qj q3;show Kh (Nk q4 rfl (Kh (Pu q4 λg5 q5 s5=>?_)))
   replace q5:Of g5 q u v:=q5;show Kh (Q8 (Kq (Kq ?_)));show Kh (Nk q5 rfl (Kh (Pr ?_)));have sz:g5.objs.size=s.heap.objs.size:=by rw[s5.1,s4.1,s3.1,s2.1,s1.1]
   have zz5:P0 g5 z p q .ellipsis:=s5.extBut _ _ D.qz.symm (s4.extBut _ _ D.jz.symm zz3);have t15:T1 (i+1) g5:=Zq.keep _ _ _ t12 λo e=>s5.extBut _ _ D.qi.symm (s4.extBut _ _ D.ij (s3.extBut _ _ D.qi.symm e))
   have t25:T2 (i+1) g5:=Zz.keep _ _ _ t24 λo e=>s5.extBut _ _ D.qj.symm e
   have zlt:z < g5.objs.size:=Ky zz5;change wpAny _ _ (MM (.ref z) (.ref g5.objs.size) >>= _) _ _ _;show Kh ?_;unfold MM;have zz6:P0 (g5.push { cls:=.type "tuple",data:=.seq [u,v].toArray }) z p q .ellipsis:=Kl _ zz5;show Kh (MU zz6 (by simp) λg7 zz7 s7=>?_)
   replace zz7:P0 g7 z p q (rawInt g5.objs.size):=zz7;show MU zz7 (by simp) λg8 zz8 s8=>?_
   replace zz8:P0 g8 z p q (rawInt g5.objs.size):=zz8;have up8:∀c o,c≠z->g5.get? c=bt o->g8.get? c=bt o:=λc o hc e=>s8.extBut _ _ hc (s7.extBut _ _ hc (Kl _ e))
   have n8:Of g8 g5.objs.size u v:=s8.extBut _ _ (K9 zlt) (s7.extBut _ _ (K9 zlt) (KA _ rfl));rw[sz]at zz8 n8;show Kq #[_,rfl,?_];change Q (.ref g5.objs.size) _;rw[sz];exact hI V1 V2 hu1 hu2 u v g8 tk4 hu hv zz8 (up8 _ _ D.qz q5) (Zq.keep _ _ _ t15 λo e=>up8 _ _ D.iz e) (Zz.keep _ _ _ t25 λo e=>up8 _ _ D.jz e) n8 λc o a1 a2 a3 a4 e=>up8 c o a1 (s5.extBut _ _ a2 (s4.extBut _ _ a4 (up3 c o a1 a2 a3 e)))
end
end Mi
namespace Mi
open PySem PySem.Spec PyProof.Rows L2
open PySem.Builtin.SmallTypes (nextOf)
abbrev c8 (prog:KF)(w:KS)(v:Ki)(o:LJ)(C:K7->Prop):Prop:=∀(B:K1) (s:Km) (Q:Ki->Km->Prop) (E:Ki->Km->Prop),C s.heap->Q (.ref s.heap.objs.size) { s with heap:=s.heap.push o }->wpAny (model prog w) B (pyIter v) Q E s
abbrev FZ (h:K7)(o1 o2:LJ):K7:=(h.push o1).push o2
abbrev F3 (h:K7)(o1 o2:LJ):K7:=(FZ h o1 o2).push { cls:=.type "tuple",data:=.seq [.ref h.objs.size,.ref (h.push o1).objs.size].toArray }
abbrev F4 (h:K7)(o1 o2:LJ):K7:=(F3 h o1 o2).push { cls:=.type "tuple",data:=.seq [.none,.none].toArray }
abbrev Bx (h:K7)(o1 o2:LJ):K7:=(F4 h o1 o2).push { cls:=.type "zip",data:=.fields [.none,.bool false,.bool false,.ref (FZ h o1 o2).objs.size,.ref (F3 h o1 o2).objs.size].toArray }
section
variable{prog:KF}{w:KS}{B:K1}{E:Ki->Km->Prop}{s:Km}{v1 v2:Ki}{o1 o2:LJ}{C1 C2:K7->Prop}
def qt (h1:c8 prog w v1 o1 C1)(h2:c8 prog w v2 o2 C2)(k2:∀h o,C2 h->C2 (h.push o)) :
  MeetsIn prog w (M4.«zip.__new__» #[[.type "zip",v1,v2],[]]) (λ_ R s=>C1 s.heap/\C2 s.heap/\R (.ok (.ret (.ref (F4 s.heap o1 o2).objs.size))) { s with heap:=Bx s.heap o1 o2 }):=
 .of_wp λA R s h=>by
  obtain⟨hp,g,d,tk,os⟩:=s;obtain⟨c1,c2,h⟩:=h;have hsub:=sub_zip;have d1:∀(B:K1) (Q:Ki->Km->Prop) (E:Ki->Km->Prop),Q (.ref hp.objs.size) #[hp.push o1,g,d,tk,os]->wpAny (model prog w) B (pyIter v1) Q E #[hp,g,d,tk,os]:=λB Q E q=>h1 B #[hp,g,d,tk,os] Q E c1 q
  have d2:∀(B:K1) (Q:Ki->Km->Prop) (E:Ki->Km->Prop),Q (.ref (hp.push o1).objs.size) #[(hp.push o1).push o2,g,d,tk,os]->wpAny (model prog w) B (pyIter v2) Q E #[hp.push o1,g,d,tk,os]:=λB Q E q=>h2 B #[hp.push o1,g,d,tk,os] Q E (k2 _ _ c2) q
  wp_walk using d1 _ _ _,d2 _ _ _
  exact#[_,rfl,h]
def wI {Q:Ki->Km->Prop}(h1:c8 prog w v1 o1 C1)(h2:c8 prog w v2 o2 C2)(k2:∀h o,C2 h->C2 (h.push o))(c1:C1 s.heap)(c2:C2 s.heap)(n1:o1.isFreed=false)(n2:o2.isFreed=false)
  (h:∀h',P0 h' (s.heap.objs.size+4) (s.heap.objs.size+2) (s.heap.objs.size+3) .none->Of h' (s.heap.objs.size+2) (.ref s.heap.objs.size) (.ref (s.heap.objs.size+1))->Of h' (s.heap.objs.size+3) .none .none->
   h'.get? s.heap.objs.size=bt o1->h'.get? (s.heap.objs.size+1)=bt o2->h'.objs.size=s.heap.objs.size+5->(∀c o,s.heap.get? c=bt o->h'.get? c=bt o)->Q (.ref (s.heap.objs.size+4)) { s with heap:=h' }) :
  wpAny (model prog w) B (call (.type "zip") [v1,v2]) Q E s:=by
 show RV F.called_zip #v[] (F.typeCall_zip_2 _ _) (F.newCall_zip_2 _ _) (λobj=>F.args_object_init_3 obj _ _) F.entry_zip_new (qt h1 h2 k2) #[c1,c2,?_]
 have e1:(s.heap.push o1).objs.size=s.heap.objs.size+1:=LC ..;have e2:(FZ s.heap o1 o2).objs.size=s.heap.objs.size+2:=by unfold FZ; rw[LC,e1]
 have e3:(F3 s.heap o1 o2).objs.size=s.heap.objs.size+3:=by unfold F3; rw[LC,e2]
 have e4:(F4 s.heap o1 o2).objs.size=s.heap.objs.size+4:=by unfold F4; rw[LC,e3]
 have e5:(Bx s.heap o1 o2).objs.size=s.heap.objs.size+5:=by unfold Bx; rw[LC,e4]
 have g5:(Bx s.heap o1 o2).get? (F4 s.heap o1 o2).objs.size=bt _:=KA _ rfl;have g4:(Bx s.heap o1 o2).get? (F3 s.heap o1 o2).objs.size=bt _:=Kl _ (KA _ rfl);have g3:(Bx s.heap o1 o2).get? (FZ s.heap o1 o2).objs.size=bt _:=Kl _ (Kl _ (KA _ rfl));have g2:(Bx s.heap o1 o2).get? (s.heap.push o1).objs.size=bt o2:=Kl _ (Kl _ (Kl _ (KA _ n2)));have g1:(Bx s.heap o1 o2).get? s.heap.objs.size=bt o1:=Kl _ (Kl _ (Kl _ (Kl _ (KA _ n1))));rw[e2,e3,e4]at g5;rw[e1,e2]at g3;rw[e3]at g4;rw[e1]at g2;change _/\_;rw[e4];exact#[#[_,g5,rfl],h _ g5 g3 g4 g1 g2 e5 λc o x=>Kl _ (Kl _ (Kl _ (Kl _ (Kl _ x))))]
end
end Mi
namespace Mi
open PySem PySem.Spec PyProof.Rows L2
open PySem.Builtin.SmallTypes (nextOf)
section
variable{prog:KF}{w:KS}{A:K1}{E:Ki->Km->Prop}{s:Km}
def F5 {it t:Kn}{i:Kt}{items:Ls Ki}{x:Ki}{Q:Ki->Km->Prop}(hit:s.heap.IsTupleIter it t i)(ht:s.heap.IsTuple t items)(hx:items[i]?=bt x)
  (hQ:∀h',h'.IsTupleIter it t (i+1)->M2 it s.heap h'->Q x { s with heap:=h' }):wpAny (model prog w) A (nextOf (.ref it)) Q E s:=by
 obtain⟨o,ho,hc,hd⟩:=id hit;obtain⟨ot,hot,_,nt,hdt⟩:=ht;unfold OL;show Kh (Lx (name:=LY "__next__") hit.typeIs F.slot_tuple_iterator_next (LL F.slot_tuple_iterator_next hit.typeIs F.entry_tuple_iterator_next ?_ (F.args_tuple_iterator_next_1 _)));change wpAny _ _ (field (.ref it) 0 >>= _) _ _ s;show Kh (Lu ho hd (x:=.ref t) rfl ?_);change wpAny _ _ (if (KZ t==LA)=true then _ else _) _ _ s
 rw[KY (show ¬ ((KZ t==LA)=true)from KL)]
 change wpAny _ _ (field (.ref it) 1 >>= _) _ _ s;show Kh (Lu ho hd (x:=.int i 0) rfl (Kh (Nk hot hdt ?_)));simp only[LX,hx];show Kh (N5 ho hd (by simp) (Kq #[x,rfl,Kq (hQ _ #[_,LG _ ho (Pj (NR hd _)),(Obj.cls_mapFields ..).trans hc,?_] (On ..))]))
 rw[NR hd]; simp[rawInt]
def F6 {it t:Kn}{i:Kt}{items:Ls Ki}{Q:Ki->Km->Prop}(hh:A.handled=gV)(hit:s.heap.IsTupleIter it t i)(ht:s.heap.IsTuple t items)(hx:items[i]?=gV)
  (hE:∀h' e,Q7 it s.heap h'->(∃o,h'.get? e=bt o/\o.cls=.type "StopIteration")->E (.ref e) { s with heap:=h' }):wpAny (model prog w) A (nextOf (.ref it)) Q E s:=by
 obtain⟨o,ho,hc,hd⟩:=id hit;obtain⟨ot,hot,_,nt,hdt⟩:=ht;unfold OL;show Kh (Lx (name:=LY "__next__") hit.typeIs F.slot_tuple_iterator_next (LL F.slot_tuple_iterator_next hit.typeIs F.entry_tuple_iterator_next ?_ (F.args_tuple_iterator_next_1 _)));change wpAny _ _ (field (.ref it) 0 >>= _) _ _ s;show Kh (Lu ho hd (x:=.ref t) rfl ?_);change wpAny _ _ (if (KZ t==LA)=true then _ else _) _ _ s
 rw[KY (show ¬ ((KZ t==LA)=true)from KL)]
 change wpAny _ _ (field (.ref it) 1 >>= _) _ _ s;show Kh (Lu ho hd (x:=.int i 0) rfl (Kh (Nk hot hdt ?_)));simp only[LX,hx];show Kh (Nn (Kh (N5 ho hd (by simp) ?_)))
 change wpAny _ _ (newExc (.type "StopIteration") [] >>= _) _ _ _;show Kh ?_;simp only[newExc,newTuple];show Kh (Lg ?_ (by size_fits))
 show Kh (m:=firstArgMember _ _) (Po (a:=LA) (by first|rfl|(simp only[firstArgMember]; rfl)) (Lg ?_ (by size_fits)))
 simp only[raiseNew];show Kh (Sd ?_)
 first|rw[show A.in1.handled=gV from hh]|rw[hh]
 exact Kh (Kq (SO (hE _ _ (((On ..).extBut.push _).push _) #[_,KA _ rfl,rfl])))
end
inductive Zs where|tup (a:Kn)|lst (a:Kn)|txt (x:Ks)
abbrev Zs.T (it:Kn):Zs->Kt->K7->Prop
 | .tup a,i,h=>h.IsTupleIter it a i
 | .lst a,i,h=>h.IsListIter it a i
 | .txt x,i,h=>∃t,h.IsStrIter it "str_ascii_iterator" x t i\/h.IsStrIter it "str_iterator" x t i
abbrev Zs.at (K:Kr)(H:Hp)(i:Kt)(v:V):Zs->Prop
 | .tup a=>∃xs,SqT K H a xs/\xs[i]?=bt v
 | .lst a=>∃xs,SqL K H a xs/\xs[i]?=bt v
 | .txt x=>∃c,x.cps[i]?=bt c/\v=.str #[[c].toArray]
abbrev Zs.out (K:Kr)(H:Hp)(i:Kt):Zs->Prop
 | .tup a=>∃xs,SqT K H a xs/\xs.length<=i
 | .lst a=>∃xs,SqL K H a xs/\xs.length<=i
 | .txt x=>x.cps.size<=i
def Zs.keep {S:Zs}{it:Kn}{j:Kt}{h h':K7}(t:S.T it j h)(k:∀o,h.get? it=bt o->h'.get? it=bt o):S.T it j h':=by
 cases S with
 | tup a=>exact t.at k
 | lst a=>exact t.at k
 | txt x=>
  obtain⟨tk,t⟩:=t;exact#[tk,t.imp (λ#[o,e,r]=>#[o,k _ e,r]) λ#[o,e,r]=>#[o,k _ e,r]]
section
variable{X:Cx}{J:Kg (Kn×LJ)}{Y:L2.St}{H:Hp}{s:Km}
def wJ (I:Inv X J Y H s){a b:Kn}{o:LJ}(h:X.K.lookup a=bt o)(f:fZ X J H b):a≠b:=λz=>by
 subst z;have hb:=I.ok.mod.kin a o h;rcases f.2.2.2.1 with q|q
 ·exact I.ok.noex a o hb q
 ·exact absurd (KI (Ky (I.ok.bs a o hb).1) q) (LP _)
end
end Mi
namespace Mi
open PySem PySem.Spec PyProof.Rows L2
open PySem.Builtin.SmallTypes (nextOf)
section
variable{X:Cx}{J:Kg (Kn×LJ)}{Y:L2.St}{H:Hp}{s:Km}{h':K7}
def wK {a b:Kn}{u:HO}(h:Rd H a u)(f:H b=gV):a≠b:=λz=>by
 subst z;rcases h with h|⟨o,h⟩ <;> (rw[f]at h; cases h)
def Inv.turnedL {t':Kt}{ch:Kg Kn}(I:Inv X J Y H s)(k:∀b o,b∉ch->s.heap.get? b=bt o->h'.get? b=bt o)(hf:∀b∈ch,fZ X J H b):Inv X J Y H { s with heap:=h',toks:=t' }:=by
 have nit:∀b u,H b=bt u->b∉ch:=λb u e z=>by have:=(hf b z).1; rw[e]at this; cases this
 show I.step (g':=s.gens) (d':=s.drawn) (ch:=ch) (λb hb=>?_) (λb o _ _ hc e _=>k b o hc e) (λb o _ _ hc e _=>#[o.slots,k b o hc e]) (λ_ _ _ _ n=>n) (λb o hc e=>#[o,k b o hc e]) (λ_ _ e=>e) (λ_ _ _ e=>e) (λb ps e=>#[#[],by rw[e]; simp]) (λm hm=>?_) (λb u e=>?_) I.bare
 ·obtain⟨_,f1,_,f3,f4,f5⟩:=hf b hb;exact#[f3,f1,f4,f5]
 ·obtain⟨o,es,ep,ho,r⟩:=hm;exact#[o,es,ep,k _ o (λz=>(hf _ z).2.1 rfl) ho,r]
 ·show(I.hok b u e).stay (λc v hc q=>k c v ?_ q) (λ_ q=>q) λ_ _ q=>q
  rcases hc with z|z
  ·rw[z]; exact nit b u e
  ·exact nit c _ z
def Zs.zit {S:Zs}{it z q i1 i2:Kn}{i:Kt}{Uq:Kk V}(I:Inv X J Y H s)(hf:∀b∈[z,q,i1,i2],fZ X J H b)(g:match Uq with|some v=>S.at X.K H i v|none=>S.out X.K H i) :
  ∃C,Zit X.prog X.w it (S.T it) C i (Uq.map λv u=>RelV v u)/\C s.heap/\Zc z q i1 i2 C:=by
 have zc:∀(a:Kn) (P:K7->Prop),(∀h h',P h->(∀o,h.get? a=bt o->h'.get? a=bt o)->P h')->(∀b∈[z,q,i1,i2],a≠b)->Zc z q i1 i2 P:=λa P hP hn h h' p k=>
  hP h h' p λo e=>k a o (hn z (by simp)) (hn q (by simp)) (hn i1 (by simp)) (hn i2 (by simp)) e
 have sep:∀ {a:Kn} {u:HO} {o:LJ} {b:Kn},(Rd H a u\/X.K.lookup a=bt o)->b∈[z,q,i1,i2]->a≠b:=λh hb=>h.elim (λr=>wK r (hf _ hb).1) λr=>wJ I r (hf _ hb)
 cases S with
 | tup a=>
  obtain⟨xs,hq,hx⟩ : ∃xs,SqT X.K H a xs/\(match Uq with|some v=>xs[i]?=bt v|none=>xs.length<=i):=by
   cases Uq <;> exact g
  obtain⟨its,rv,p,_⟩:=I.tuple hq;have hne:∀b∈[z,q,i1,i2],a≠b:=λb hb=>by
   rcases hq with r|⟨o,_,_,r,_⟩
   ·exact wK r (hf b hb).1
   ·exact wJ I r (hf b hb)
  show#[λh=>h.IsTuple a its.toArray,#[λj h h' t k=>Zs.keep (S:=.tup a) t k,λV hV B s2 Q E t c hQ=>?_,λhU B s2 Q E hh t c hE=>?_],p,zc a _ (λh h' #[o,e,r] k=>#[o,k _ e,r]) hne]
  ·cases Uq with
   | none=>cases hV
   | some v=>
    cases hV;obtain⟨u,hu,ru⟩:=rv.get hx;exact F5 t c (x:=u) (by simpa using hu) λh' t' sb=>hQ u h' s2.toks ru t' sb
  ·cases Uq with
   | some v=>cases hU
   | none=>
    have:=L2.Vals.length rv;have hx':xs.length<=i:=hx;exact F6 hh t c (by simp; omega) hE
 | lst a=>
  obtain⟨xs,hq,hx⟩ : ∃xs,SqL X.K H a xs/\(match Uq with|some v=>xs[i]?=bt v|none=>xs.length<=i):=by
   cases Uq <;> exact g
  obtain⟨its,rv,p,_⟩:=I.list hq;have hne:∀b∈[z,q,i1,i2],a≠b:=λb hb=>by
   rcases hq with r|⟨o,_,_,r,_⟩
   ·exact wK r (hf b hb).1
   ·exact wJ I r (hf b hb)
  show#[λh=>h.IsList a its.toArray,#[λj h h' t k=>Zs.keep (S:=.lst a) t k,λV hV B s2 Q E t c hQ=>?_,λhU B s2 Q E hh t c hE=>?_],p.isList,zc a _ (λh h' #[o,e,r] k=>#[o,k _ e,r]) hne]
  ·cases Uq with
   | none=>cases hV
   | some v=>
    cases hV;obtain⟨u,hu,ru⟩:=rv.get hx;exact wpAny_nextOf_list_item t c (x:=u) (by simpa using hu) λh' t' sb=>hQ u h' s2.toks ru t' sb
  ·cases Uq with
   | some v=>cases hU
   | none=>
    have:=L2.Vals.length rv;have hx':xs.length<=i:=hx;exact wpAny_nextOf_list_end hh t c (by simp; omega) hE
 | txt x=>
  show#[λ_=>Rs,#[λj h h' t k=>Zs.keep (S:=.txt x) t k,λV hV B s2 Q E t _ hQ=>?_,λhU B s2 Q E hh t _ hE=>?_],trivial,λ_ _ _ _=>trivial]
  ·cases Uq with
   | none=>cases hV
   | some v=>
    cases hV;obtain⟨c,hc,rfl⟩ : ∃c,x.cps[i]?=bt c/\v=.str #[[c].toArray]:=g;obtain⟨tk,t|t⟩:=t
    ·exact wpAny_nextOf_ascii_item t hc λh' t' sb=>hQ _ h' _ #[_,rfl] #[tk,.inl t'] sb
    ·exact wpAny_nextOf_wide_item t hc λh' t' sb=>hQ _ h' _ #[_,rfl] #[tk,.inr t'] sb
  ·cases Uq with
   | some v=>cases hU
   | none=>
    have hx:x.cps[i]?=gV:=by simpa using(show x.cps.size<=i from g)
    obtain⟨tk,t|t⟩:=t
    ·exact wpAny_nextOf_ascii_end hh t hx hE
    ·exact wpAny_nextOf_wide_end hh t hx hE
end
abbrev Zs.is (K:Kr)(H:Hp)(i:Kt)(v:V):Zs->Prop
 | .tup a=>∀xs,SqT K H a xs->xs[i]?=bt v
 | .lst a=>∀xs,SqL K H a xs->xs[i]?=bt v
 | .txt x=>∃c,x.cps[i]?=bt c/\v=.str #[[c].toArray]
def Zs.at_is {S:Zs}{X:Cx}{J:Kg (Kn×LJ)}{Y:L2.St}{H:Hp}{s:Km}{i:Kt}{v:V}(I:Inv X J Y H s)(h:S.at X.K H i v):S.is X.K H i v:=by
 cases S with
 | tup a=>obtain⟨xs,hq,hx⟩:=h; exact λys hy=>by rw[I.tuple_inj hy hq]; exact hx
 | lst a=>obtain⟨xs,hq,hx⟩:=h; exact λys hy=>by rw[I.list_inj hy hq]; exact hx
 | txt x=>exact h
abbrev HD (K:Kr)(S1 S2:Zs):It:=
 #[λi H=>∃x y,S1.at K H i x/\S2.at K H i y,λi H v H'=>∃p x y,S1.is K H i x/\S2.is K H i y/\v=.ref p/\H p=gV/\H'=aE H p (.tup [x,y]),λi H=>S1.out K H i\/(∃x,S1.at K H i x)/\S2.out K H i]
def wL {P:KF}{w:KS}{K:Kr}{els:Kg KC}{k0:Kt}{tp:L9}{S1 S2:Zs}{z p q i1 i2:Kn}(D:Zap z p q i1 i2) :
  Turn P w K (.Tuple els k0 tp) (HD K S1 S2) [z,p,q,i1,i2] z (λi h=>P0 h z p q .none/\Of h p (.ref i1) (.ref i2)/\(∃a b,Of h q a b)/\S1.T i1 i h/\S2.T i2 i h) where
 mem:=by simp
 obj:=λi h #[a,b,#[u,v,c],d,e] b' hb=>by
  have it:∀ {S:Zs} {it:Kn},S.T it i h->∃o,h.get? it=bt o/\∀v,o.data≠.cell v:=λ{S it} t=>by
   cases S with
   | tup a=>obtain⟨o,e,_,d⟩:=t; exact#[o,e,λv z=>by rw[d]at z; cases z]
   | lst a=>obtain⟨o,e,_,d⟩:=t; exact#[o,e,λv z=>by rw[d]at z; cases z]
   | txt x=>obtain⟨tk,⟨o,e,_,d⟩|⟨o,e,_,d⟩⟩:=t <;> exact#[o,e,λv z=>by rw[d]at z; cases z]
  simp only[Kx,K6,L8]at hb;rcases hb with rfl|rfl|rfl|rfl|rfl
  ·exact#[_,a,λv z=>by cases z]
  ·exact#[_,b,λv z=>by cases z]
  ·exact#[_,c,λv z=>by cases z]
  ·exact it d
  ·exact it e
 keep:=λi h h' #[a,b,#[u,v,c],d,e] k=>#[k z (by simp) _ a,k p (by simp) _ b,#[u,v,k q (by simp) _ c],Zs.keep d (k i1 (by simp)),Zs.keep e (k i2 (by simp))]
 item:=by
  intro X hP hw hK hc i J s Y H E I hf st hg;subst hP hw hK;obtain⟨x,y,g1,g2⟩:=hg;obtain⟨a,b,⟨u,v,c⟩,d,e⟩:=st;have hf4:∀b∈[z,q,i1,i2],fZ X J H b:=λb hb=>hf b (by simp only[Kx,K6,L8]at hb ⊢; rcases hb with h|h|h|h <;> simp[h])
  obtain⟨C1,Zq,c1,k1⟩:=Zs.zit (it:=i1) (Uq:=bt x) I hf4 g1;obtain⟨C2,Zz,c2,k2⟩:=Zs.zit (it:=i2) (Uq:=bt y) I hf4 g2;have hT:s.TypeIs (.ref z) "zip":=#[_,a,rfl];unfold pyNext;show Kh (Nb (Lx (name:=LY "__next__") hT F.slot_zip_next (LL F.slot_zip_next hT F.entry_zip_next ?_ (F.args_zip_next_1 _))));show j4 D Zq (λ_ _=>Zz) k1 k2 (I.ok.hd hc) a b c d e c1 c2 (λV1 V2 e1 e2 u1 u2 g tk r1 r2 zg qg t1 t2 ng kp=>?_) (λz=>by rcases z with z|z <;> cases z)
  cases e1;cases e2;show Kq #[_,rfl,?_];show wpAny_letOwnedTupleGo_zip (s:={ s with heap:=g,toks:=tk }) zg λg' zg' sb=>?_
  have N0:H s.heap.objs.size=gV:=I.hok.fresh (Kz _);have lt:∀ {b:Kn},b∈[z,p,q,i1,i2]->s.heap.objs.size≠b:=λ{b} hb=>by
   have:∃o,s.heap.get? b=bt o:=by
    have it:∀ {S:Zs} {it:Kn},S.T it i s.heap->∃o,s.heap.get? it=bt o:=λ{S it} t=>by
     cases S with
     | tup a=>obtain⟨o,e,_⟩:=t; exact#[o,e]
     | lst a=>obtain⟨o,e,_⟩:=t; exact#[o,e]
     | txt x=>obtain⟨tk,⟨o,e,_⟩|⟨o,e,_⟩⟩:=t <;> exact#[o,e]
    simp only[Kx,K6,L8]at hb;rcases hb with rfl|rfl|rfl|rfl|rfl
    ·exact#[_,a]
    ·exact#[_,b]
    ·exact#[_,c]
    ·exact it d
    ·exact it e
   obtain⟨o,e⟩:=this;exact K9 (Ky e)
  have up:∀b o,b∉[z,q,i1,i2]->s.heap.get? b=bt o->g'.get? b=bt o:=λb o hb e=>by
   simp only[Kx,K6,L8,QU]at hb;exact sb.extBut _ _ hb.1 (kp b o hb.1 hb.2.1 hb.2.2.1 hb.2.2.2 e)
  have I1:Inv X J Y H { s with heap:=g',toks:=tk }:=Mi.Inv.turnedL I up hf4
  have ng':Of g' s.heap.objs.size u1 u2:=sb.extBut _ _ (lt (by simp)) ng
  have I2:Inv X J Y (aE H s.heap.objs.size (.tup [x,y])) { s with heap:=g',toks:=tk }:=by
   show Mi.Inv.adopt I1 N0 (.inr I.sz) (K9 I.lt) (λw c e=>?_) (λp hp=>?_) #[#[by change 2<=sizeLine; decide,#[_,ng',rfl]],[u1,u2],.cons r1 #v[r2],#[_,ng',rfl,0,rfl]]
   ·obtain⟨v,q⟩:=I.cell w c e;exact KH q.lt
   ·exact KH (Ky (I.pin p hp).1)
  show#[.ref s.heap.objs.size,_,I2,rfl,#[s.heap.objs.size,x,y,Zs.at_is I g1,Zs.at_is I g2,rfl,N0,rfl],#[zg',up p _ ?_ b,#[u1,u2,sb.extBut _ _ D.qz qg],Zs.keep t1 λo e=>sb.extBut _ _ D.iz e,Zs.keep t2 λo e=>sb.extBut _ _ D.jz e],λb hb=>?_]
  ·simp only[Kx,K6,L8,QU];exact#[D.pz,D.pq,D.pi,D.pj]
  ·rw[al (Ne.symm (lt hb))];exact(hf b hb).1
 done:=by
  intro X hP hw hK hc i J s Y H E I hf st hg;subst hP hw hK;obtain⟨a,b,⟨u,v,c⟩,d,e⟩:=st;have hf4:∀b∈[z,q,i1,i2],fZ X J H b:=λb hb=>hf b (by simp only[Kx,K6,L8]at hb ⊢; rcases hb with h|h|h|h <;> simp[h])
  have hT:s.TypeIs (.ref z) "zip":=#[_,a,rfl];unfold pyNext;show Kh (Nb (Lx (name:=LY "__next__") hT F.slot_zip_next (LL F.slot_zip_next hT F.entry_zip_next ?_ (F.args_zip_next_1 _))));have ends:∀h' tk e,(∀c o,c≠z->c≠q->c≠i1->c≠i2->s.heap.get? c=bt o->h'.get? c=bt o)->(∃o,h'.get? e=bt o/\o.cls=.type "StopIteration")->
    wpAny (model X.prog X.w) X.A (do if <- isInstance (.ref e) (.type "StopIteration")then pure (gV:Kk Ki)else throw (.ref e)) (λr s1=>r=gV/\Inv X J Y H s1) E { s with heap:=h',toks:=tk }:=λh' tk e k #[o,ho,hc]=>
   Kh (Oe (T:="StopIteration") (b:=true) #[o,ho,hc] Pq (Kq #[rfl,Mi.Inv.turnedL I (λb o hb e=>by
    simp only[Kx,K6,L8,QU]at hb;exact k b o hb.1 hb.2.1 hb.2.2.1 hb.2.2.2 e) hf4]))
  rcases hg with g1|⟨⟨x,g1⟩,g2⟩
  ·obtain⟨C1,Zq,c1,k1⟩:=Zs.zit (it:=i1) (Uq:=gV) I hf4 g1;exact j4 (U2:=gV) D Zq (λV1 e1=>by cases e1) k1 (C2:=λ_=>Rs) (λ_ _ _ _=>trivial) (I.ok.hd hc) a b c d e c1 trivial (λV1 V2 e1 _=>by cases e1) λ_ h' tk e k he=>ends h' tk e k he
  ·obtain⟨C1,Zq,c1,k1⟩:=Zs.zit (it:=i1) (Uq:=bt x) I hf4 g1;obtain⟨C2,Zz,c2,k2⟩:=Zs.zit (it:=i2) (Uq:=gV) I hf4 g2;exact j4 D Zq (λ_ _=>Zz) k1 k2 (I.ok.hd hc) a b c d e c1 c2 (λV1 V2 _ e2=>by cases e2) λ_ h' tk e k he=>ends h' tk e k he
 self:=λ_ _ _ _ _ st h=>QY st.1 h
end Mi
namespace Mi
open PySem PySem.Spec PyProof.Rows L2
abbrev By:W->Kk (Kg W)
 | .tup xs=>bt xs
 | .str x=>bt (x.cps.toList.map λc=>.str #[[c].toArray])
 | _=>gV
abbrev Ab (f:FA):FI:=λZ S=>match f Z S with
 | some ([x,y],S1)=>match By x,By y with
  | some xs,bt ys=>bt (.its (gQ xs ys),S1)
  | _,_=>match x,y with
   | .ref r,.ref q=>match gF S1 r,gF S1 q with
    | some _,bt _=>bt (.zl r q,S1)
    | _,_=>gV
   | _,_=>gV
 | _=>gV
section
variable{X:Cx}{J:Kg (Kn×LJ)}{Y:L2.St}{H:Hp}{s:Km}{A:Kg Kn}
abbrev ZRel (K:Kr)(A:Kg Kn)(H:Hp)(xs:Kg W):Zs->Prop
 | .tup a=>∃vs,SqT K H a vs/\RelL K A H xs vs
 | .lst a=>Lj
 | .txt x=>xs=x.cps.toList.map λc=>.str #[[c].toArray]
def ZRel.mono {K:Kr}{A A':Kg Kn}{H H':Hp}{xs:Kg W}{S:Zs}(e:Ext K A H A' H')(h:ZRel K A H xs S):ZRel K A' H' xs S:=by
 cases S with
 | tup a=>obtain⟨vs,h1,h2⟩:=h; exact#[vs,e.tp _ _ h1,h2.mono e]
 | lst a=>exact h
 | txt x=>exact h
def ZRel.at {K:Kr}{xs:Kg W}{S:Zs}{i:Kt}{w:W}(h:ZRel K A H xs S)(hi:xs[i]?=bt w):∃v,S.at K H i v/\Rel K A H w v:=by
 cases S with
 | tup a=>obtain⟨vs,h1,h2⟩:=h; obtain⟨v,h3,h4⟩:=h2.get hi; exact#[v,#[vs,h1,h3],h4]
 | lst a=>exact h.elim
 | txt x=>
  have h:xs=x.cps.toList.map λc=>.str #[[c].toArray]:=h
  subst h;rw[K4,Ko]at hi;obtain⟨c,hc,rfl⟩:=hi;exact#[.str #[[c].toArray],#[c,by rw[<- LH]; exact hc,rfl],.str]
def ZRel.is {K:Kr}{xs:Kg W}{S:Zs}{i:Kt}{w:W}{v:V}(h:ZRel K A H xs S)(hi:xs[i]?=bt w)(z:S.is K H i v):Rel K A H w v:=by
 obtain⟨v',h1,h2⟩:=h.at hi;cases S with
 | tup a=>
  obtain⟨vs,q,e⟩:=h1;have:=z vs q;rw[e]at this; cases this
  exact h2
 | lst a=>exact h.elim
 | txt x=>
  obtain⟨c,e,rfl⟩:=h1;obtain⟨c',e',rfl⟩:=z;rw[e]at e'; cases e'
  exact h2
def ZRel.out {K:Kr}{xs:Kg W}{S:Zs}{i:Kt}(h:ZRel K A H xs S)(hi:xs.length<=i):S.out K H i:=by
 cases S with
 | tup a=>obtain⟨vs,h1,h2⟩:=h; exact#[vs,h1,by rw[<- h2.length]; exact hi]
 | lst a=>exact h.elim
 | txt x=>
  have h:xs=x.cps.toList.map λc=>.str #[[c].toArray]:=h
  subst h;change x.cps.size<=i
  simpa using hi
def ou {xs ys:Kg W}{i:Kt}{w:W}(h:(gQ xs ys)[i]?=bt w):∃x y,xs[i]?=bt x/\ys[i]?=bt y/\w=.tup [x,y]:=by
 unfold gQ at h;rw[List.getElem?_zipWith]at h;split at h
 ·rename_i x y e1 e2;cases h;exact#[x,y,e1,e2,rfl]
 ·cases h
def Ac {S1 S2:Zs}{xs ys:Kg W}(z1:ZRel X.K A H xs S1)(z2:ZRel X.K A H ys S2):MIt X.w X.K (.its (gQ xs ys)) (HD X.K S1 S2) A H:=by
 show#[λA' H' S i w e so hi=>?_,λA' H' S i e so hi=>?_]
 ·simp only[MI.at,K8]at hi;obtain⟨x,y,e1,e2,rfl⟩:=ou hi;obtain⟨v,g1,r1⟩:=(z1.mono e).at e1;obtain⟨u,g2,r2⟩:=(z2.mono e).at e2;show#[#[v,u,g1,g2],λp H2 #[a,v',u',q1,q2,hp,hn,hH]=>?_]
  subst hp hH;have ex:Ext X.K A' H' A' (aE H' a (.tup [v',u'])):=aX (.inl hn);exact#[ex,so.lay hn,.tup (.of am) #v[((z1.mono e).is e1 q1).mono ex,((z2.mono e).is e2 q2).mono ex]]
 ·simp only[MI.at,K8,Ll,gQ,PN]at hi
  by_cases h1:xs.length<=i
  ·exact .inl ((z1.mono e).out h1)
  ·have hx:i < xs.length:=∅
   obtain⟨v,g1,_⟩:=(z1.mono e).at (KT hx);exact .inr #[#[v,g1],(z2.mono e).out ∅]
def wM {r q:Kt}{a b:Kn}(ea:A[r]?=bt a)(eb:A[q]?=bt b):MIt X.w X.K (.zl r q) (HD X.K (.lst a) (.lst b)) A H:=by
 show#[λA' H' S i w e so hi=>?_,λA' H' S i e so hi=>?_]
 ·simp only[MI.at]at hi;split at hi
  ·rename_i xs ys hx hy;simp only[K8]at hi;obtain⟨x,y,e1,e2,rfl⟩:=ou hi;obtain⟨vs,h1,r1⟩:=ba so hx (e.ad _ _ ea);obtain⟨us,h2,r2⟩:=ba so hy (e.ad _ _ eb);obtain⟨v,g1,q1⟩:=r1.get e1;obtain⟨u,g2,q2⟩:=r2.get e2;show#[#[v,u,#[vs,h1,g1],#[us,h2,g2]],λp H2 #[c,v',u',z1,z2,hp,hn,hH]=>?_]
   subst hp hH;have t1:=z1 vs h1;rw[g1]at t1; cases t1
   have t2:=z2 us h2;rw[g2]at t2; cases t2
   have ex:Ext X.K A' H' A' (aE H' c (.tup [v,u])):=aX (.inl hn);exact#[ex,so.lay hn,.tup (.of am) #v[q1.mono ex,q2.mono ex]]
  ·cases hi
 ·simp only[MI.at]at hi;split at hi
  ·rename_i xs ys hx hy;simp only[K8,Ll,gQ,PN]at hi;obtain⟨vs,h1,r1⟩:=ba so hx (e.ad _ _ ea);obtain⟨us,h2,r2⟩:=ba so hy (e.ad _ _ eb)
   by_cases hl:xs.length<=i
   ·exact .inl #[vs,h1,by rw[<- r1.length]; exact hl]
   ·have hx':i < xs.length:=∅
    obtain⟨v,g1,_⟩:=r1.get (KT hx');exact .inr #[#[v,vs,h1,g1],us,h2,by rw[<- r2.length]; omega]
  ·cases hi
def mB {x:W}{v:V}{u:Ki}{xs:Kg W}(I:Inv X J Y H s)(r:Rel X.K A H x v)(ru:RelV v u)(e:By x=bt xs) :
  ∃(S:Zs) (o:LJ) (C:K7->Prop),ZRel X.K A H xs S/\c8 X.prog X.w u o C/\C s.heap/\(∀h o,C h->C (h.push o))/\o.isFreed=false/\∀it h,h.get? it=bt o->S.T it 0 h:=by
 cases r with
 | @tup ws a vs hq rl=>
  cases e;obtain⟨its,rv,p,_⟩:=I.tuple hq;obtain rfl:u=KZ a:=ru;exact#[.tup a,{ cls:=.type "tuple_iterator",data:=.fields [.ref a,.int 0 0].toArray },λh=>h.IsTuple a its.toArray,#[vs,hq,rl],λB s Q E c hQ=>Qc c hQ,p,λh o #[ot,e,r]=>#[ot,Kl _ e,r],rfl,λit h e=>#[_,e,rfl,rfl]]
 | @str x=>
  cases e;obtain⟨t,rfl⟩:=ru;cases ha:x.cps.all (· < 128)with
  | false=>exact#[.txt x,{ cls:=.type "str_iterator",data:=.fields [.str x t,.int 0 0].toArray },λ_=>Rs,rfl,λB s Q E _ hQ=>wpAny_pyIter_wide ha hQ,trivial,λ_ _ _=>trivial,rfl,λit h e=>#[t,.inr #[_,e,rfl,rfl]]]
  | true=>exact#[.txt x,{ cls:=.type "str_ascii_iterator",data:=.fields [.str x t,.int 0 0].toArray },λ_=>Rs,rfl,λB s Q E _ hQ=>Qd ha hQ,trivial,λ_ _ _=>trivial,rfl,λit h e=>#[t,.inl #[_,e,rfl,rfl]]]
 | _=>cases e
def wQ:bootBuiltins "zip" = bt (.type "zip"):=rfl
def rO {a:Kn}{xs:Kg V}{u:Ki}(I:Inv X J Y H s)(ru:RelV (.ref a) u)(hq:SqL X.K H a xs) :
  ∃(o:LJ) (C:K7->Prop),c8 X.prog X.w u o C/\C s.heap/\(∀h o,C h->C (h.push o))/\o.isFreed=false/\∀it h,h.get? it=bt o->(Zs.lst a).T it 0 h:=by
 obtain⟨its,rv,p,_⟩:=I.list hq;obtain rfl:u=KZ a:=ru;exact#[{ cls:=.type "list_iterator",data:=.fields [.ref a,.int 0 0].toArray },λh=>h.IsList a its.toArray,λB s Q E c hQ=>N8 c hQ,p.isList,λh o #[ot,e,r]=>#[ot,Kl _ e,r],rfl,λit h e=>#[_,e,rfl,rfl]]
def Dn {els:Kg KC}{k0:Kt}{tp:L9}{a b:KC}{f:FA}{p pos:L9}(hg:Gl X "zip")(hm:X.mg "zip" = gV)(ha:GA X [a,b] f)(hs:starEach [a,b] X.env=[(false,eval a X.env),(false,eval b X.env)])(hs2:starEach [b] X.env=[(false,eval b X.env)]) :
  GI X (.Tuple els k0 tp) (.Call (.Name "zip" p) [a,b] [] pos) (Ab f):=by
 intro J s Y H R I ⟨A,Z,S,mi,S',er,so,e,hq⟩;have fin:∀ {s1:Km} {H1:Hp} {u v:Ki} {Sa Sb:Zs} {oa ob:LJ} {Ca Cb:K7->Prop},Inv X J Y H1 s1->c8 X.prog X.w u oa Ca->Ca s1.heap->oa.isFreed=false->(∀it h,h.get? it=bt oa->Sa.T it 0 h)->c8 X.prog X.w v ob Cb->Cb s1.heap->(∀h o,Cb h->Cb (h.push o))->ob.isFreed=false->(∀it h,h.get? it=bt ob->Sb.T it 0 h)->R (HD X.K Sa Sb) H1->
   wpAny (model X.prog X.w) X.A (call (.type "zip") [u,v]) (λv s=>wpAny (model X.prog X.w) X.A (pyIter v) (E7 X J Y (.Tuple els k0 tp) R) X.xe s) X.xe s1:=λ{s1 H1 u v Sa Sb oa ob Ca Cb} I1 ia ca na ta ib cb kb nb tb hR=>by
  show wI ia ib kb ca cb na nb λh' hz hp hq' g1 g2 hsz kp=>?_
  have I2:Inv X J Y H1 { s1 with heap:=h' }:=I1.kept (t':=s1.toks) kp
  show QY (s:={ s1 with heap:=h' }) hz ?_
  have D:Zap (s1.heap.objs.size+4) (s1.heap.objs.size+2) (s1.heap.objs.size+3) s1.heap.objs.size (s1.heap.objs.size+1):=by constructor <;> (intro z; simp at z)
  show#[s1.heap.objs.size+4,_,_,_,H1,rfl,I2,wL (S1:=Sa) (S2:=Sb) D,#[hz,hp,#[_,_,hq'],ta _ _ g1,tb _ _ g2],λb hb=>?_,hR]
  have hb':s1.heap.objs.size<=b:=by
   simp only[Kx,K6,L8]at hb;rcases hb with rfl|rfl|rfl|rfl|rfl
   ·exact NF _ _
   ·exact NF _ _
   ·exact NF _ _
   ·exact Kz _
   ·exact NF _ _
  exact I1.fpOk hb' (I1.hok.fresh hb')
 unfold Ab at e;split at e
 ·rename_i x y S1 h1;show TJ (fY I hg hm wQ (Mk (aK (ha pos J s Y H _ I #[A,Z,S,_,_,er,so,h1,λ_ _ z=>z]) λus s1 #[vs,H1,I1,r1,A1,z1,z2,z3]=>?_) (by rw[hs,hs2]) (by rw[hs2]; rfl)))
  cases z3 with
  | cons ra t=>
   cases t with
   | cons rb t=>
    cases t;cases r1 with
    | cons ua t=>
     cases t with
     | cons ub t=>
      cases t;split at e
      ·rename_i xs ys e1 e2;cases e;obtain⟨Sa,oa,Ca,za,ia,ca,ka,na,ta⟩:=mB I1 ra ua e1;obtain⟨Sb,ob,Cb,zb,ib,cb,kb,nb,tb⟩:=mB I1 rb ub e2;exact fin I1 ia ca na ta ib cb kb nb tb (hq _ _ A1 z1 z2 (Ac za zb))
      ·split at e
       ·rename_i r q;split at e
        ·rename_i xs ys hx hy;cases e;cases ra with
         | @ref _ a ea=>
          cases rb with
          | @ref _ b eb=>
           obtain⟨va,q1,_⟩:=ba z2 hx ea;obtain⟨vb,q2,_⟩:=ba z2 hy eb;obtain⟨oa,Ca,ia,ca,ka,na,ta⟩:=rO I1 ua q1;obtain⟨ob,Cb,ib,cb,kb,nb,tb⟩:=rO I1 ub q2;exact fin I1 ia ca na ta ib cb kb nb tb (hq _ _ A1 z1 z2 (wM ea eb))
        ·cases e
       ·cases e
 ·cases e
end
open PySem.Builtin.SmallTypes (nextOf)
section
variable{prog:KF}{w:KS}{B:K1}{E:Ki->Km->Prop}{s:Km}{e it:Kn}{T:Kt->K7->Prop}{C:K7->Prop}{i:Kt}{old:Ki}
structure EnAt (h0 h:K7)(e it:Kn)(fs:Ls Ki)(T:K7->Prop):Prop where
 here:h.get? e=bt { cls:=.type "enumerate",dict:=gV,data:=.fields fs,slots:=#[] }
 turn:T h
 kept:∀b o,b≠e->b≠it->h0.get? b=bt o->h.get? b=bt o
def EnAt.put {h0:K7}{fs:Ls Ki}{T:K7->Prop}{k:Kt}{v:Ki}{Q:Ra->Km->Prop}(x:EnAt h0 s.heap e it fs T)(hne:e≠it)(kT:∀h h',T h->(∀o,h.get? it=bt o->h'.get? it=bt o)->T h')(hk:k < fs.size)
  (q:∀h',EnAt h0 h' e it (fs.setIfInBounds k v) T->M2 e s.heap h'->Q () { s with heap:=h' }):wpAny (model prog w) B (setField (.ref e) k v) Q E s:=
 MU x.here hk λh' y sb=>q h' #[y,kT _ _ x.turn λo z=>sb.extBut _ _ (Ne.symm hne) z,λb o h1 h2 z=>sb.extBut b o h1 (x.kept b o h1 h2 z)] sb
def lG {Uq:Kk (Ki->Prop)}{Q:Ki->Km->Prop}(Zx:Zit prog w it T C i Uq)(hh:B.handled=gV)(he:Tk s.heap e it (i:KD) old)(t:T i s.heap)(c:C s.heap)(hne:e≠it)
  (hI:∀V,Uq=bt V->∀u h' tk tk0,V u->IsEnumOut h' e it ((i:KD)+1) u s.heap.objs.size->T (i+1) h'->h'.get? s.heap.objs.size=bt { cls:=.type "tuple",data:=.seq [.int i tk0,u].toArray }->
   (∀b o,b≠e->b≠it->s.heap.get? b=bt o->h'.get? b=bt o)->Q (.ref s.heap.objs.size) { s with heap:=h',toks:=tk })
  (hE:Uq=gV->∀h' x,Q7 it s.heap h'->(∃o,h'.get? x=bt o/\o.cls=.type "StopIteration")->E (.ref x) { s with heap:=h' }) :
  wpAny (model prog w) B (M4.«enumerate.__next__» #[[.ref e],[]]) (λfin s'=>∃v,fin=.done (.ret v)/\Q v s') E s:=by
 obtain⟨hp,g,d,tk,os⟩:=s;change wpAny _ _ (field (.ref e) 2 >>= _) _ _ _;show Kh (Lu he rfl (x:=.ref it) rfl (Kh ?_));cases Uq with
 | none=>exact Zx.stop rfl _ _ _ _ hh t c λh' x a b=>hE rfl h' x a b
 | some V=>
  show Zx.next V rfl _ _ _ _ t c λu ha tka hu ta sba=>?_
  have kT:=Zx.keep (i+1);have xa:EnAt hp ha e it [.none,.bool false,.ref it,rawInt i,.none,old].toArray (T (i+1)):=#[(sba.2 e hne).trans he,ta,λb o _ h2 z=>sba.extBut b o h2 z]
  have za:ha.objs.size=hp.objs.size:=sba.1;clear sba ta;change wpAny _ _ (field (.ref e) 3 >>= _) _ _ #[ha,g,d,tka,os];show Kh (Lu xa.here rfl (x:=rawInt i) rfl ?_);change wpAny _ _ (field (.ref e) 4 >>= _) _ _ #[ha,g,d,tka,os];show Kh (Lu xa.here rfl (x:=.none) rfl ?_);change wpAny _ _ (mkInt i >>= _) _ _ #[ha,g,d,tka,os];show Kh (wpAny_mkInt (Kh (xa.put (s:=#[ha,g,d,tka+1,os]) hne kT (by simp) λhb xb sb1=>Kh (xb.put (s:=#[hb,g,d,tka+1,os]) hne kT (by simp) λhc xc sb2=>Kh (Pr ?_)))))
  have zc:hc.objs.size=hp.objs.size:=by rw[sb2.1,<- za]; exact sb1.1
  have hel:hp.objs.size≠e:=K9 (Ky he);have new:=KA hc (o:={ cls:=.type "tuple",data:=.seq [.int i tka,u].toArray }) rfl;have xd:EnAt hp (hc.push { cls:=.type "tuple",data:=.seq [.int i tka,u].toArray }) e it [.none,.bool false,.ref it,rawInt ((i:KD)+1),.none,old].toArray (T (i+1)):=#[Kl _ xc.here,kT _ _ xc.turn λo z=>Kl _ z,λb o h1 h2 z=>Kl _ (xc.kept b o h1 h2 z)]
  rw[zc]at new;change wpAny _ _ (Mf (.ref e) >>= _) _ _ #[hc.push _,g,d,tka+1,os];rw[zc];generalize hc.push { cls:=.type "tuple",data:=.seq [.int i tka,u].toArray }=hd at new xd ⊢;clear zc sb2 xc sb1 xb hb xa za;show Kh ?_;unfold Mf;show Kh (Lu xd.here rfl (x:=.none) rfl (Kq ?_));simp only[Nf];show Kh (Nn (Kh (Lu xd.here rfl (x:=old) rfl (Kh (xd.put (s:=#[hd,g,d,tka+1,os]) hne kT (by simp) λh1 x1 s1=>Kh ?_)))))
  unfold MM;show Kh (x1.put (s:=#[h1,g,d,tka+1,os]) hne kT (by simp) λh2 x2 s2=>x2.put (s:=#[h2,g,d,tka+1,os]) hne kT (by simp) λh3 x3 s3=>Kh (Q8 (Kq #[_,rfl,hI V rfl u h3 (tka+1) tka hu x3.here x3.turn ?_ x3.kept])))
  exact s3.extBut _ _ hel (s2.extBut _ _ hel (s1.extBut _ _ hel new))
variable{v:Ki}{o:LJ}
def oy (h1:c8 prog w v o C) :
  MeetsIn prog w (M4.«enumerate.__new__» #[[.type "enumerate",v],[]]) (λ_ R s=>C s.heap/\R (.ok (.ret (.ref (s.heap.push o).objs.size))) { s with heap:=(s.heap.push o).push { cls:=.type "enumerate",data:=.fields [.none,.bool false,.ref s.heap.objs.size,rawInt 0,.none,.none].toArray } }):=
 .of_wp λA R s h=>by
  obtain⟨hp,g,d,tk,os⟩:=s;obtain⟨c,h⟩:=h;have hsub:=sub_enumerate;have d1:∀(B:K1) (Q:Ki->Km->Prop) (E:Ki->Km->Prop),Q (.ref hp.objs.size) #[hp.push o,g,d,tk,os]->wpAny (model prog w) B (pyIter v) Q E #[hp,g,d,tk,os]:=λB Q E q=>h1 B #[hp,g,d,tk,os] Q E c q
  wp_walk
  show wpAny_stack_any λst=>Kq ?_
  split
  ·rename_i c _ _ _ _ _;cases(c==Mn "enumerate")
   ·wp_walk using d1 _ _ _
    exact#[_,rfl,h]
   ·wp_walk using d1 _ _ _
    exact#[_,rfl,h]
  ·wp_walk using d1 _ _ _
   exact#[_,rfl,h]
def uh {Q:Ki->Km->Prop}(h1:c8 prog w v o C)(c:C s.heap)(n1:o.isFreed=false)
  (h:∀h',Tk h' (s.heap.objs.size+1) s.heap.objs.size 0 .none->h'.get? s.heap.objs.size=bt o->(∀b o,s.heap.get? b=bt o->h'.get? b=bt o)->Q (.ref (s.heap.objs.size+1)) { s with heap:=h' }) :
  wpAny (model prog w) B (call (.type "enumerate") [v]) Q E s:=by
 show RV F.called_enumerate #v[] (F.typeCall_enumerate_1 _) (F.newCall_enumerate_1 _) (λobj=>F.args_object_init_2 obj _) F.entry_enumerate_new (oy h1) #[c,?_]
 have hz:(s.heap.push o).objs.size=s.heap.objs.size+1:=LC ..;change _/\_;rw[hz];have he:Tk ((s.heap.push o).push { cls:=.type "enumerate",data:=.fields [.none,.bool false,.ref s.heap.objs.size,rawInt 0,.none,.none].toArray }) (s.heap.objs.size+1) s.heap.objs.size 0 .none:=by
  have:=KA (s.heap.push o) (o:={ cls:=.type "enumerate",data:=.fields [.none,.bool false,.ref s.heap.objs.size,rawInt 0,.none,.none].toArray }) rfl;rw[hz]at this; exact this
 exact#[#[_,he,rfl],h _ he (Kl _ (KA _ n1)) λb o x=>Kl _ (Kl _ x)]
end
abbrev JE (K:Kr)(S1:Zs):It:=
 #[λi H=>∃x,S1.at K H i x,λi H v H'=>∃p x,S1.is K H i x/\v=.ref p/\H p=gV/\H'=aE H p (.tup [.int i,x]),λi H=>S1.out K H i]
def uj {P:KF}{w:KS}{K:Kr}{els:Kg KC}{k0:Kt}{tp:L9}{S1:Zs}{z i1:Kn}(D:z≠i1) :
  Turn P w K (.Tuple els k0 tp) (JE K S1) [z,i1] z (λi h=>(∃old,Tk h z i1 i old)/\S1.T i1 i h) where
 mem:=by simp
 obj:=λi h #[#[old,a],d] b' hb=>by
  have it:∀ {S:Zs} {it:Kn},S.T it i h->∃o,h.get? it=bt o/\∀v,o.data≠.cell v:=λ{S it} t=>by
   cases S with
   | tup a=>obtain⟨o,e,_,d⟩:=t; exact#[o,e,λv z=>by rw[d]at z; cases z]
   | lst a=>obtain⟨o,e,_,d⟩:=t; exact#[o,e,λv z=>by rw[d]at z; cases z]
   | txt x=>obtain⟨tk,⟨o,e,_,d⟩|⟨o,e,_,d⟩⟩:=t <;> exact#[o,e,λv z=>by rw[d]at z; cases z]
  simp only[Kx,K6,L8]at hb;rcases hb with rfl|rfl
  ·exact#[_,a,λv z=>by cases z]
  ·exact it d
 keep:=λi h h' #[#[old,a],d] k=>#[#[old,k z (by simp) _ a],Zs.keep d (k i1 (by simp))]
 item:=by
  intro X hP hw hK hc i J s Y H E I hf st hg;subst hP hw hK;obtain⟨x,g1⟩:=hg;obtain⟨⟨old,a⟩,d⟩:=st;have hf4:∀b∈[z,z,i1,i1],fZ X J H b:=λb hb=>hf b (by simp only[Kx,K6,L8]at hb ⊢; rcases hb with h|h|h|h <;> simp[h])
  obtain⟨C1,Zq,c1,k1⟩:=Zs.zit (it:=i1) (Uq:=bt x) I hf4 g1;have hT:s.TypeIs (.ref z) "enumerate":=#[_,a,rfl];unfold pyNext;show Kh (Nb (Lx (name:=LY "__next__") hT F.slot_enumerate_next (LL F.slot_enumerate_next hT F.entry_enumerate_next ?_ (F.args_enumerate_next_1 _))));show lG Zq (I.ok.hd hc) a d c1 D (λV e1 u g tk tk0 r1 zg t1 ng kp=>?_) (λz=>by cases z)
  cases e1;show Kq #[_,rfl,?_];show wpAny_letOwnedTupleGo_enum (s:={ s with heap:=g,toks:=tk }) zg λg' zg' sb=>?_
  have N0:H s.heap.objs.size=gV:=I.hok.fresh (Kz _);have lt:∀ {b:Kn},b∈[z,i1]->s.heap.objs.size≠b:=λ{b} hb=>by
   have:∃o,s.heap.get? b=bt o:=by
    have it:∀ {S:Zs} {it:Kn},S.T it i s.heap->∃o,s.heap.get? it=bt o:=λ{S it} t=>by
     cases S with
     | tup a=>obtain⟨o,e,_⟩:=t; exact#[o,e]
     | lst a=>obtain⟨o,e,_⟩:=t; exact#[o,e]
     | txt x=>obtain⟨tk,⟨o,e,_⟩|⟨o,e,_⟩⟩:=t <;> exact#[o,e]
    simp only[Kx,K6,L8]at hb;rcases hb with rfl|rfl
    ·exact#[_,a]
    ·exact it d
   obtain⟨o,e⟩:=this;exact K9 (Ky e)
  have up:∀b o,b∉[z,i1]->s.heap.get? b=bt o->g'.get? b=bt o:=λb o hb e=>by
   simp only[Kx,K6,L8,QU]at hb;exact sb.extBut _ _ hb.1 (kp b o hb.1 hb.2 e)
  have I1:Inv X J Y H { s with heap:=g',toks:=tk }:=Mi.Inv.turnedL I up hf
  have ng':g'.get? s.heap.objs.size=bt { cls:=.type "tuple",data:=.seq [.int i tk0,u].toArray }:=sb.extBut _ _ (lt (by simp)) ng
  have I2:Inv X J Y (aE H s.heap.objs.size (.tup [.int i,x])) { s with heap:=g',toks:=tk }:=by
   show Mi.Inv.adopt I1 N0 (.inr I.sz) (K9 I.lt) (λw c e=>?_) (λp hp=>?_) #[#[by change 2<=sizeLine; decide,#[_,ng',rfl]],[.int i tk0,u],.cons #[_,rfl] #v[r1],#[_,ng',rfl,0,rfl]]
   ·obtain⟨v,q⟩:=I.cell w c e;exact KH q.lt
   ·exact KH (Ky (I.pin p hp).1)
  show#[.ref s.heap.objs.size,_,I2,rfl,#[s.heap.objs.size,x,Zs.at_is I g1,rfl,N0,rfl],#[#[_,zg'],Zs.keep t1 λo e=>sb.extBut _ _ (Ne.symm D) e],λb hb=>?_]
  rw[al (Ne.symm (lt hb))];exact(hf b hb).1
 done:=by
  intro X hP hw hK hc i J s Y H E I hf st hg;subst hP hw hK;obtain⟨⟨old,a⟩,d⟩:=st;have hf4:∀b∈[z,z,i1,i1],fZ X J H b:=λb hb=>hf b (by simp only[Kx,K6,L8]at hb ⊢; rcases hb with h|h|h|h <;> simp[h])
  obtain⟨C1,Zq,c1,k1⟩:=Zs.zit (it:=i1) (Uq:=gV) I hf4 hg;have hT:s.TypeIs (.ref z) "enumerate":=#[_,a,rfl];unfold pyNext;show Kh (Nb (Lx (name:=LY "__next__") hT F.slot_enumerate_next (LL F.slot_enumerate_next hT F.entry_enumerate_next ?_ (F.args_enumerate_next_1 _))));show lG Zq (I.ok.hd hc) a d c1 D (λV e1=>by cases e1) λ_ h' e k #[o,ho,hc]=>?_
  exact Kh (Oe (T:="StopIteration") (b:=true) #[o,ho,hc] Pq (Kq #[rfl,Mi.Inv.turnedL (t':=s.toks) I (λb o hb e=>by
    simp only[Kx,K6,L8,QU]at hb;exact k b o hb.2 e) hf]))
 self:=λ_ _ _ _ _ st h=>by obtain⟨⟨old,a⟩,_⟩:=st; exact QG a h
abbrev mC (xs:Kg W):Kg W:=xs.zipIdx.map λp=>.tup [.int (p.2:Kt),p.1]
def oz {xs:Kg W}{i:Kt}{w:W}(h:(mC xs)[i]?=bt w):∃x,xs[i]?=bt x/\w=.tup [.int i,x]:=by
 unfold mC at h;rw[K4,List.getElem?_zipIdx,RP,Ko]at h;obtain⟨x,h1,rfl⟩:=h;exact#[x,h1,by simp]
abbrev Ad (f:FA):FI:=λZ S=>match f Z S with
 | some ([x],S1)=>match By x with
  | some xs=>bt (.its (mC xs),S1)
  | none=>gV
 | _=>gV
section
variable{X:Cx}{J:Kg (Kn×LJ)}{Y:L2.St}{H:Hp}{s:Km}{A:Kg Kn}
def wR {S1:Zs}{xs:Kg W}(z1:ZRel X.K A H xs S1):MIt X.w X.K (.its (mC xs)) (JE X.K S1) A H:=by
 show#[λA' H' S i w e so hi=>?_,λA' H' S i e so hi=>?_]
 ·simp only[MI.at,K8]at hi;obtain⟨x,e1,rfl⟩:=oz hi;obtain⟨v,g1,r1⟩:=(z1.mono e).at e1;show#[#[v,g1],λp H2 #[a,v',q1,hp,hn,hH]=>?_]
  subst hp hH;have ex:Ext X.K A' H' A' (aE H' a (.tup [.int i,v'])):=aX (.inl hn);exact#[ex,so.lay hn,.tup (.of am) #v[.int,((z1.mono e).is e1 q1).mono ex]]
 ·simp only[MI.at,K8,Ll,mC,Kv,List.length_zipIdx]at hi;exact(z1.mono e).out hi
def uk:bootBuiltins "enumerate" = bt (.type "enumerate"):=rfl
def Ae {els:Kg KC}{k0:Kt}{tp:L9}{a:KC}{f:FA}{p pos:L9}(hg:Gl X "enumerate")(hm:X.mg "enumerate" = gV)(ha:GA X [a] f)(hs:starEach [a] X.env=[(false,eval a X.env)]) :
  GI X (.Tuple els k0 tp) (.Call (.Name "enumerate" p) [a] [] pos) (Ad f):=by
 intro J s Y H R I ⟨A,Z,S,mi,S',er,so,e,hq⟩;unfold Ad at e;split at e
 ·rename_i x S1 h1;split at e
  ·rename_i xs e1;cases e;show TJ (fY I hg hm uk (Mk (aK (ha pos J s Y H _ I #[A,Z,S,_,_,er,so,h1,λ_ _ z=>z]) λus s1 #[vs,H1,I1,r1,A1,z1,z2,z3]=>?_) (by rw[hs]; rfl) (by rfl)))
   cases z3 with
   | cons ra t=>
    cases t;cases r1 with
    | cons ua t=>
     cases t;obtain⟨Sa,oa,Ca,za,ia,ca,ka,na,ta⟩:=mB I1 ra ua e1;show uh ia ca na λh' hz g1 kp=>?_
     have I2:Inv X J Y H1 { s1 with heap:=h' }:=I1.kept (t':=s1.toks) kp
     show QG (s:={ s1 with heap:=h' }) hz ?_
     show#[s1.heap.objs.size+1,_,_,_,H1,rfl,I2,uj (S1:=Sa) (i1:=s1.heap.objs.size) (by simp),#[#[_,hz],ta _ _ g1],λb hb=>?_,hq _ _ A1 z1 z2 (wR za)]
     have hb':s1.heap.objs.size<=b:=by
      simp only[Kx,K6,L8]at hb;rcases hb with rfl|rfl
      ·exact NF _ _
      ·exact Kz _
     exact I1.fpOk hb' (I1.hok.fresh hb')
  ·cases e
 ·cases e
end
end Mi
namespace Mi
open PySem PySem.Spec PyProof.Rows L2
abbrev wW (U:Kg (Ks×W))(f:FE):FE:=λZ S=>match f Z S with
 | some (.str k,S1)=>match U.lookup k with
  | some w=>bt (w,S1)
  | none=>gV
 | _=>gV
abbrev oB (U:Kg (Ks×W))(f:FE):FE:=λZ S=>match f Z S with
 | some (.str k,S1)=>bt (.bl (!(U.lookup k).isSome),S1)
 | _=>gV
abbrev wY (X:Cx)(x:Ks)(w:W):Prop:=∃v u,X.mg x=bt u/\RelV v u/\∀A H,Rel X.K A H w v
abbrev qv (X:Cx)(x:Ks)(U:Kg (Ks×W)):Prop:=∃a o es ep,X.mg x=bt (.ref a)/\X.K.lookup a=bt o/\o.ExactDict/\o.data=.dict es ep/\(∀e∈es,∃k t,e.key=.str k t/\e.hash=hashStr X.w k)/\
 (∀k w,U.lookup k=bt w->∃v u,findBy MB es k=bt u/\RelV v u/\∀A H,Rel X.K A H w v)/\(a==sysModules)=false/\∀k,(findBy MB es k).isSome=(U.lookup k).isSome
section
variable{X:Cx}
def Do {x:Ks}{w:W}{pos:L9}(hg:Gl X x)(hd:(x==("__debug__" : Ks))=false)(h:wY X x w):GE X (.Name x pos) (fC w):=by
 obtain⟨v,u,hm,r,rel⟩:=h;exact ee (lY hg hm r hd) rel
def Dp {x:Ks}{U:Kg (Ks×W)}{b:KC}{p pos:L9}{f:FE}(hg:Gl X x)(hd:(x==("__debug__" : Ks))=false)(G:qv X x U)(hb:GE X b f)(hs:jc b):GE X (.Subscript (.Name x p) b pos) (wW U f):=by
 intro J s Y H Q I ⟨A,Z,S,w,S',er,so,e,hq⟩;obtain⟨a,o,es,ep,hm,hk,hex,hdat,hkeys,hv,_⟩:=G;unfold wW at e;split at e
 ·rename_i k S1 h1;split at e
  ·rename_i w' hl;cases e;obtain⟨v,u,hf,ru,rel⟩:=hv k w hl;show y4 PySem.F.slot_dict_getitem.lookup hs (ce I hg hm ?_ hd);show aK (hb J s Y H (EndV X.w X.K A H S' (.str k)) I #[A,Z,S,_,_,er,so,h1,λ_ _ z=>z]) λiv s2 #[y,H2,I2,ry,A2,e2,o2,z2]=>?_
   cases z2;obtain⟨t,rfl⟩:=ry;have ho:s2.heap.get? a=bt o:=I2.kIn a o hk;have mp:s2.heap.MapOf (Mm X.prog X.w) a (λk=>findBy MB es k):=#[o,es,ep,ho,hex,hdat,λe he=>by
    obtain⟨k',t',e1,e2⟩:=hkeys e he;exact#[k',by rw[e1]; exact Li _,e2],λ_=>rfl]
   show#[#[o,ho,hex.1],QV (knd:=Mm X.prog X.w) (k:=k) (by exact Li _) mp hf #[v,H2,I2.tok _,ru,hq _ _ #[A2,e2,o2,rel _ _]]]
  ·cases e
 ·cases e
def w6 {x:Ks}{U:Kg (Ks×W)}{b:KC}{p:L9}{f:FE}(hg:Gl X x)(hd:(x==("__debug__" : Ks))=false)(G:qv X x U)(hb:GE X b f):PC X .NotIn b (.Name x p) (tE X (oB U f)):=by
 intro J s Y H Q I ⟨A,Z,S,w,S',er,so,e,hq⟩;obtain⟨a,o,es,ep,hm,hk,hex,hdat,hkeys,hv,hs,hsome⟩:=G;unfold oB at e;split at e
 ·rename_i k S1 h1;cases e;show aK (hb J s Y H (EndV X.w X.K A H S' (.str k)) I #[A,Z,S,_,_,er,so,h1,λ_ _ z=>z]) λiv s2 #[y,H2,I2,ry,A2,e2,o2,z2]=>?_
  cases z2;obtain⟨t,rfl⟩:=ry;have ho:s2.heap.get? a=bt o:=I2.kIn a o hk;have mp:s2.heap.MapOf (Mm X.prog X.w) a (λk=>findBy MB es k):=#[o,es,ep,ho,hex,hdat,λe he=>by
   obtain⟨k',t',e1,e2⟩:=hkeys e he;exact#[k',by rw[e1]; exact Li _,e2],λ_=>rfl]
  show ce I2 hg hm (wpAny_notIn_of (knd:=Mm X.prog X.w) (k:=k) (by exact Li _) hs mp ?_) hd
  rw[hsome];exact#[.bl (!(U.lookup k).isSome),H2,I2.tok _,rfl,hq _ _ #[A2,e2,o2,.bl]]
 ·cases e
def Dq {x:Ks}{U:Kg (Ks×W)}{b:KC}{p pos:L9}{f:FE}(hg:Gl X x)(hd:(x==("__debug__" : Ks))=false)(G:qv X x U)(hb:GE X b f):GE X (.Compare b [.NotIn] [.Name x p] pos) (oB U f):=B1 (w6 hg hd G hb) rfl
def Dr {x:Ks}{U:Kg (Ks×W)}{b:KC}{p pos:L9}{f:FE}(hg:Gl X x)(hd:(x==("__debug__" : Ks))=false)(G:qv X x U)(hb:GE X b f):GT X (.Compare b [.NotIn] [.Name x p] pos) (gl (oB U f)):=
 GT.of (B2 (w6 hg hd G hb) rfl) λY H A Z S k S' er so e Q hq=>by
  unfold gl at e;split at e
  ·rename_i k' S'' h0;cases e;show#[A,Z,S,_,_,er,so,h0,λv H' #[A',z1,z2,z3]=>?_]
   cases z3;exact#[k,rfl,hq _ _ #[rfl,A',z1,z2]]
  ·cases e
end
abbrev Ag (g1 g2:Kg W->aa->Kk (W×aa))(xs:Kg W)(S:aa):Kk (W×aa):=match g1 xs S with
 | some r=>bt r
 | none=>g2 xs S
def oE {X:Cx}{f:Ki}{g1 g2:Kg W->aa->Kk (W×aa)}(h1:LCall X f g1)(h2:LCall X f g2):LCall X f (Ag g1 g2):=by
 intro J s Y H A S xs vs us w S' I so rl rv e;unfold Ag at e;split at e
 ·rename_i r hr;cases e;exact h1 J s Y H A S xs vs us w S' I so rl rv hr
 ·exact h2 J s Y H A S xs vs us w S' I so rl rv e
inductive Bi where|len|str|list|tuple|int|set|sorted|range|all
 deriving Ny
abbrev Bi.fn:Bi->Kg W->aa->Kk (W×aa)
 | .len=>Ag zE Dl|.str=>zS|.list=>Ag lx v6|.tuple=>jW|.int=>FC|.set=>mo|.sorted=>gJ|.range=>qa|.all=>CW
abbrev Bi.name:Bi->Ks
 | .len=>"len"|.str=>"str"|.list=>"list"|.tuple=>"tuple"|.int=>"int"|.set=>"set"|.sorted=>"sorted"|.range=>"range"|.all=>"all"
inductive Me where|append|extend|join|upper
 deriving Ny
abbrev Me.fn:Me->W->Kg W->aa->Kk (W×aa)
 | .append=>gH|.extend=>jf|.join=>rB|.upper=>mh
abbrev Me.name:Me->Ks
 | .append=>"append"|.extend=>"extend"|.join=>"join"|.upper=>"upper"
abbrev Me.ty:Me->LR
 | .append=>"list"|.extend=>"list"|.join=>"str"|.upper=>"str"
inductive Tg where
 | nm (i:Kt)|tp (is:Kg Kt)
set_option genSizeOf false in
set_option genInjectivity false in
mutual
inductive E where
 | c (w:W)|v (i:Kt)|sem (g:FE)
 | op (o:BOp) (a b:E)
 | cmp (o:COp) (a b:E)
 | and (a b:E)|or (a b:E)|not (a:E)
 | own (f:Ks) (n:Kt) (es:Es)|bi (b:Bi) (es:Es)|me (m:Me) (o:E) (es:Es)
 | ix (a b:E)|sl (a:E) (lo hi:Ep)|tup (es:Es)|lst (es:Es)
 | isi (c:LR) (a:E)|gix (U:Kg (Ks×W)) (b:E)|gni (U:Kg (Ks×W)) (b:E)
 | neg (a:E)|disp (es:Es)|chn (o o':COp) (a b d:E)|ite (t a b:E)
 | comp (elt:E) (tg:Tg) (it:Ie) (cs:Es) (cap:Kg (Kk Kt))
inductive Es where
 | nil|cons (e:E) (es:Es)
inductive Ep where
 | no|yes (e:E)
inductive Ie where
 | seq (e:E)|rng (es:Es)|zip (es:Es)|rng2 (es:Es)|enu (es:Es)
end
set_option genSizeOf false in
set_option genInjectivity false in
mutual
inductive Sm where
 | sem (g:(Ks->FF)->FS)|set (i:Kt) (e:E)|asg (is:Kg Kt) (e:E)|par (i j:Kt) (es:Es)|put (o k e:E)
 | ex (e:E)|ret (e:E)|retN|pass|brk|cont|bad
 | ite (t:E) (a b:Ss)|whl (t:E) (b:Ss)|loop (tg:Tg) (it:Ie) (b:Ss)
inductive Ss where
 | nil|cons (s:Sm) (ss:Ss)
end
abbrev ul:Tg->FG
 | .nm i=>zQ i
 | .tp is=>Dc is
section
variable (M:Ks->FF)
mutual
def ar:E->FE
 | .c w=>fC w
 | .v i=>fV i
 | .sem g=>g
 | .op o a b=>zF (gh o) (ar a) (ar b)
 | .cmp o a b=>t6 o (ar a) (ar b)
 | .and a b=>rG (ar a) (ar b)
 | .or a b=>zI (ar a) (ar b)
 | .not a=>rH (ar a)
 | .own f n es=>dI n (M f) (bg es)
 | .bi b es=>iS b.fn (bg es)
 | .me m o es=>Bt m.ty m.fn (ar o) (bg es)
 | .ix a b=>IM (ar a) (ar b)
 | .sl a lo hi=>FP (ar a) (rP lo) (rP hi)
 | .tup es=>t8 (bg es)
 | .lst es=>wn (bg es)
 | .isi c a=>wD c (ar a)
 | .gix U b=>wW U (ar b)
 | .gni U b=>oB U (ar b)
 | .neg a=>v7 (ar a)
 | .disp es=>om (bg es)
 | .chn o o' a b d=>eM o o' (ar a) (ar b) (ar d)
 | .ite t a b=>zJ (bE t) (ar a) (ar b)
 | .comp elt tg it cs cap=>j3 (lH it) (ul tg) (Ah cs) (ar elt) cap
def bE:E->FT
 | .cmp o a b=>gl (t6 o (ar a) (ar b))
 | .and a b=>wb (bE a) (bE b)
 | .or a b=>FN (bE a) (bE b)
 | .not a=>zG (bE a)
 | .c w=>dy (fC w)
 | .v i=>dy (fV i)
 | .sem g=>dy g
 | .op o a b=>dy (zF (gh o) (ar a) (ar b))
 | .own f n es=>dy (dI n (M f) (bg es))
 | .bi b es=>dy (iS b.fn (bg es))
 | .me m o es=>dy (Bt m.ty m.fn (ar o) (bg es))
 | .ix a b=>dy (IM (ar a) (ar b))
 | .sl a lo hi=>dy (FP (ar a) (rP lo) (rP hi))
 | .tup es=>dy (t8 (bg es))
 | .lst es=>dy (wn (bg es))
 | .isi c a=>dy (wD c (ar a))
 | .gix U b=>dy (wW U (ar b))
 | .gni U b=>gl (oB U (ar b))
 | .neg a=>dy (v7 (ar a))
 | .disp _=>λ_ _=>gV
 | .chn o o' a b d=>gl (eM o o' (ar a) (ar b) (ar d))
 | .ite _ _ _=>λ_ _=>gV
 | .comp _ _ _ _ _=>λ_ _=>gV
def bg:Es->FA
 | .nil=>gM
 | .cons e es=>cH (ar e) (bg es)
def Ah:Es->FT
 | .nil=>Bw
 | .cons e .nil=>bE e
 | .cons _ (.cons _ _)=>λ_ _=>gV
def rP:Ep->FO
 | .no=>C7
 | .yes e=>rK (ar e)
def lH:Ie->FI
 | .seq e=>fR (ar e)
 | .rng es=>ug (bg es)
 | .zip es=>Ab (bg es)
 | .rng2 es=>iRng2 (bg es)
 | .enu es=>Ad (bg es)
end
variable (fuel:Kt)
mutual
def bN:Sm->FS
 | .sem g=>g M
 | .set i e=>dJ (ar M e) (zQ i)
 | .asg is e=>dJ (ar M e) (Dc is)
 | .par i j es=>ww i j (bg M es)
 | .put o k e=>dJ (ar M e) (zR (ar M o) (ar M k))
 | .ex e=>n0 (ar M e)
 | .ret e=>n4 (ar M e)
 | .retN=>λ_ S=>bt (.rt .non,S)
 | .pass=>wq
 | .brk=>λZ S=>bt (.bk Z,S)
 | .cont=>λZ S=>bt (.ct Z,S)
 | .bad=>λ_ _=>gV
 | .ite t a b=>gO (bE M t) (bQ a) (bQ b)
 | .whl t b=>my (bE M t) (bQ b) fuel
 | .loop tg it b=>ja (lH M it) (ul tg) (bQ b)
def bQ:Ss->FS
 | .nil=>λZ S=>bt (.nx Z,S)
 | .cons s ss=>iZ (bN s) (bQ ss)
end
end
structure Gam where
 sc:Kg (Ks×LW)
 N:Kg Ks
 fns:Kg (Ks×Kt)
 blt:Kg Ks
 dfn:KR
 own:Kg Ks
 cst:Kg (Ks×W)
 gds:Kg (Ks×Kg (Ks×W))
abbrev Ds:Kk LW->KR
 | some .local=>true|some .cell=>true|some .free=>true|_=>false
abbrev Ai:Kk LW->KR
 | some .cell=>true|some .free=>true|_=>false
abbrev eQ (names outer:Kg (Ks×LW)):Kg (Ks×LW):=names.map λ(n,k)=>if (k==.free&&outer.lookup n==bt .cell)then(n,.cell)else(n,k)
abbrev slot (Γ:Gam)(x:Ks):Kk Kt:=if Ds (Γ.sc.lookup x) && !(x==("__debug__" : Ks)) && !(x==("__classdict__" : Ks))then Γ.N.findIdx? (· == x)else gV
abbrev rQ:Qk->Kk BOp
 | .Add=>bt .add|.Sub=>bt .sub|.Mult=>bt .mul|.FloorDiv=>bt .fdiv|.Mod=>bt .mod|.Pow=>bt .pow|_=>gV
abbrev iT:Pa->Kk COp
 | .Eq=>bt .eq|.NotEq=>bt .ne|.Lt=>bt .lt|.LtE=>bt .le|.Gt=>bt .gt|.GtE=>bt .ge|.In=>bt .isin|.NotIn=>bt .notin|.Is=>bt .is|.IsNot=>bt .isnot
abbrev Aj (x:Ks):Kk Bi:=[Bi.len,.str,.list,.tuple,.int,.set,.sorted,.range,.all].find? λb=>b.name==x
abbrev Ak (x:Ks):Kk Me:=[Me.append,.extend,.join,.upper].find? λb=>b.name==x
abbrev F7 (Γ:Gam)(x:Ks):KR:=Γ.sc.lookup x==bt .globalImplicit && !(x==("__debug__" : Ks))
abbrev w8 (x:Ks):Kk LR:=if x==("bool" : Ks)then bt "bool" else if x==("int" : Ks)then bt "int" else if x==("str" : Ks)then bt "str" else if x==("tuple" : Ks)then bt "tuple" else if x==("list" : Ks)then bt "list" else if x==("dict" : Ks)then bt "dict" else gV
abbrev rR:Kg (Kk KC)->Kg KC->Kg KC
 | some k::ks,v::vs=>k::v::rR ks vs
 | _,_=>[]
abbrev Al (Γ:Gam)(f:KC->Kk E):Kg KC->Kk E
 | [a,.Name c _]=>if F7 Γ c&&Γ.blt.contains c then match w8 c,f a with
  | some cs,bt a'=>bt (.isi cs a')
  | _,_=>gV
  else gV
 | _=>gV
abbrev cC:KC->KR
 | .Name _ _=>true|.Constant _ _ _=>true|.Subscript _ _ _=>true|_=>false
abbrev bz (Γ:Gam)(x:Ks):KR:=Γ.sc.lookup x==bt .globalImplicit && !(x==("__debug__" : Ks))
abbrev aV (Γ:Gam)(x:Ks):Kk Kt:=if (Γ.sc.lookup x==bt .local)||((Γ.dfn||Γ.own.contains x)&&Γ.sc.lookup x==bt .cell)then Γ.N.findIdx? (· == x)else gV
abbrev cA (f:KC->Kk E)(es:Kg KC):Kk Es:=es.foldr (λe acc=>match f e,acc with|some e',bt es'=>bt (.cons e' es')|_,_=>gV) (bt .nil)
abbrev cB (f:KC->Kk E)(op:RS):Kg KC->Kk E
 | []=>gV
 | [a]=>f a
 | a::b::aF=>match f a,cB f op (b::aF)with
  | some a',bt b'=>bt (match op with|.And=>.and a' b'|.Or=>.or a' b')
  | _,_=>gV
abbrev cP (f:KC->Kk E):Kk KC->Kk Ep
 | none=>bt .no
 | some e=>(f e).map .yes
abbrev isTup:KC->KR
 | .Tuple _ _ _=>true
 | _=>false
abbrev cI (Γ:Gam)(f:KC->Kk E)(tg:KC):KC->Kk Ie
 | .Call (.Name x p) [a] [] q=>if x==("range" : Ks)&&bz Γ x&&Γ.blt.contains x then(cA f [a]).map .rng else if x==("enumerate" : Ks)&&bz Γ x&&Γ.blt.contains x&&isTup tg then(cA f [a]).map .enu else(f (.Call (.Name x p) [a] [] q)).map .seq
 | .Call (.Name x p) [a,b] [] q=>if x==("zip" : Ks)&&bz Γ x&&Γ.blt.contains x&&isTup tg then(cA f [a,b]).map .zip else if x==("range" : Ks)&&bz Γ x&&Γ.blt.contains x then(cA f [a,b]).map .rng2 else(f (.Call (.Name x p) [a,b] [] q)).map .seq
 | e=>(f e).map .seq
abbrev Dt (Γ:Gam):Kg KC->Kk (Kg Kt)
 | []=>bt []
 | .Name x _::ts=>match aV Γ x,Dt Γ ts with
  | some i,bt is=>bt (i::is)
  | _,_=>gV
 | _::_=>gV
abbrev cT (Γ:Gam):KC->Kk Tg
 | .Name x _=>(aV Γ x).map .nm
 | .Tuple ts _ _=>(Dt Γ ts).map .tp
 | _=>gV
abbrev fS (names:Kg (Ks×LW)):Kg Ks:=(names.filter λp=>p.2==.local||p.2==.cell||p.2==.free).map (·.1)
abbrev fB (Γ:Gam)(names:Kg (Ks×LW)):Kg (Kk Kt):=(fS names).map λx=>if names.lookup x==bt .local||names.lookup x==bt .cell then gV else Γ.N.findIdx? (· == x)
abbrev w9 (Γ:Gam)(scope:M1):KR:=
 (scope.kind==.function)&&scope.names.all (λy=>!(y.2==.local)||scope.names.lookup y.1==bt .local)&&scope.names.all (λy=>!(y.2==.cell)||scope.names.lookup y.1==bt .cell) &&
 scope.names.all (λy=>!(y.2==.free)||(Ai (Γ.sc.lookup y.1)&&scope.names.lookup y.1==bt .free&&(Γ.N.findIdx? (· == y.1)).isSome))&&decide (fS scope.names).Nodup
abbrev fT (Γ:Gam)(scope:M1):Gam:={ Γ with sc:=eQ scope.names Γ.sc,N:=fS scope.names,dfn:=false,own:=(scope.names.filter λp=>p.2==.cell).map (·.1) }
abbrev xg (f:KC->Kk E)(keys:Kg (Kk KC))(values:Kg KC):Kk E:=
 if keys.isEmpty&&values.isEmpty then gV
 else if keys.all (·.isSome)&&decide (keys.length=values.length)&&decide (keys.length<=15)then(cA f (rR keys values)).map .disp else gV
abbrev xh (Γ:Gam):KC->Kk (Kg (Ks×W))
 | .Name x _=>if bz Γ x then Γ.gds.lookup x else gV
 | _=>gV
abbrev cE:Kt->Gam->KC->Kk E
 | 0,_,_=>gV
 | n+1,Γ,e=>match e with
  | .Constant (.int i) _ _=>bt (.c (.int i))
  | .Constant (.str x) _ _=>bt (.c (.str x))
  | .Constant (.bool b) _ _=>bt (.c (.bl b))
  | .Constant .none _ _=>bt (.c .non)
  | .Name x _=>match slot Γ x with
   | some i=>bt (.v i)
   | none=>if bz Γ x then(Γ.cst.lookup x).map .c else gV
  | .BinOp a op b _=>match rQ op,cE n Γ a,cE n Γ b with
   | some o,bt a',bt b'=>bt (.op o a' b')
   | _,_,_=>gV
  | .UnaryOp .Not a _=>(cE n Γ a).map .not
  | .UnaryOp .USub a _=>(cE n Γ a).map .neg
  | .BoolOp op vs _=>cB (cE n Γ) op vs
  | .Compare a [op] [b] _=>match xh Γ b with
   | some U=>if op==.NotIn then(cE n Γ a).map (.gni U)else gV
   | none=>match iT op,cE n Γ a,cE n Γ b with
    | some o,bt a',bt b'=>bt (.cmp o a' b')
    | _,_,_=>gV
  | .Compare a [op,op'] [b,d] _=>match iT op,iT op',cE n Γ a,cE n Γ b,cE n Γ d with
   | some o,bt o',bt a',bt b',bt d'=>bt (.chn o o' a' b' d')
   | _,_,_,_,_=>gV
  | .IfExp t a b _=>match cE n Γ t,cE n Γ a,cE n Γ b with
   | some t',bt a',bt b'=>bt (.ite t' a' b')
   | _,_,_=>gV
  | .Call (.Name f _) args [] _=>if bz Γ f then match Γ.fns.lookup f with
    | some k=>(cA (cE n Γ) args).map (.own f k)
    | none=>if f==("isinstance" : Ks)then(if Γ.blt.contains f then Al Γ (cE n Γ) args else gV)else match Aj f,args with
     | some b,a::as=>if Γ.blt.contains f then(cA (cE n Γ) (a::as)).map (.bi b)else gV
     | _,_=>gV
   else gV
  | .Call (.Attribute o m apos) [] [] cpos=>if (m==("upper" : Ks))&&cC o&&(apos.endLine==cpos.line)then(cE n Γ o).map λo'=>.me .upper o' .nil else gV
  | .Call (.Attribute o m apos) (a::as) [] cpos=>match Ak m,cE n Γ o,cA (cE n Γ) (a::as)with
   | some m',bt o',bt es=>if cC o&&(apos.endLine==cpos.line)&&decide ((a::as).length < 29)then bt (.me m' o' es)else gV
   | _,_,_=>gV
  | .Subscript a (.Slice lo hi gV _) _=>match cE n Γ a,cP (cE n Γ) lo,cP (cE n Γ) hi with
   | some a',bt lo',bt hi'=>bt (.sl a' lo' hi')
   | _,_,_=>gV
  | .Subscript a b _=>match xh Γ a with
   | some U=>(cE n Γ b).map (.gix U)
   | none=>match cE n Γ a,cE n Γ b with
    | some a',bt b'=>bt (.ix a' b')
    | _,_=>gV
  | .Tuple es _ _=>(cA (cE n Γ) es).map .tup
  | .List es _=>(cA (cE n Γ) es).map .lst
  | .Dict keys values _=>xg (cE n Γ) keys values
  | .ListComp elt [#[tg,iter,ifs,asy]] scope _=>if (asy==0)&&(w9 Γ scope&&decide (ifs.length<=1))then
    match cI Γ (cE n Γ) tg iter,cT (fT Γ scope) tg,cA (cE n (fT Γ scope)) ifs,cE n (fT Γ scope) elt with
    | some it,bt t,bt cs,bt el=>bt (.comp el t it cs (fB Γ scope.names))
    | _,_,_,_=>gV
   else gV
  | _=>gV
structure CtxOk (M:Ks->FF)(X:Cx)(Γ:Gam):Prop where
 names:X.env.scope.names=Γ.sc
 kind:X.env.scope.kind=.function
 N:X.N=Γ.N
 nd:Γ.N.Nodup
 calm:X.calm=true
 xe:Ob (model X.prog X.w) X.A X.env X.xe
 un:X.A.units+d8 < cLine
 dfn:Γ.dfn=true->∀x,X.fn x=true
 own:∀x∈Γ.own,X.fn x=true
 blt:∀x∈Γ.blt,X.mg x=gV
 cst:∀x w,Γ.cst.lookup x=bt w->wY X x w
 gds:∀x U,Γ.gds.lookup x=bt U->qv X x U
 fns:∀f n,Γ.fns.lookup f=bt n->∃k fa fd ps,FnOk X.prog X.w X.K X.mg X.base jF k fa fd ps (spF X.w X.K n (M f))/\Room k X.A/\X.mg f=bt (.ref fa)/\Lw X.K (.ref fa)=true/\Binds X.K fd ps []
def ak {α:Type}{x:α}{P:Prop}(h:(gV:Kk α)=bt x):P:=nomatch h
abbrev dL:KC->KR
 | .Starred _ _=>false
 | _=>true
def aq {e:KC}{es:Kg KC}{env:Ov}(h:dL e=true):starEach (e::es) env=(false,eval e env)::starEach es env:=by
 cases e <;> first|rfl|cases h
def aO {env:Ov}{pos:L9}:∀ {es:Kg KC},es.all dL=true->(backTo pos (starEach es env)).any (·.1)=false
 | [],_=>rfl
 | e::es,h=>by
  rw[La,Kj]at h;rw[aq h.1];show(false||(backTo pos (starEach es env)).any (·.1))=false
  rw[aO h.2];rfl
def oF {env:Ov}{pos:L9}:∀ {es:Kg KC},es.all dL=true->(backTo pos (starEach es env)).all (λx=>!x.1)=true
 | [],_=>rfl
 | e::es,h=>by
  rw[La,Kj]at h;rw[aq h.1];show(true&&(backTo pos (starEach es env)).all (λx=>!x.1))=true
  rw[oF h.2];rfl
def iw {n:Kt}{Γ:Gam}{e:KC}{e':E}(h:cE n Γ e=bt e'):dL e=true:=by
 cases n with
 | zero=>cases h
 | succ n=>cases e <;> first|rfl|(exact ak h)
def dM {f:KC->Kk E}{e:KC}{es:Kg KC}{r:Es}(h:cA f (e::es)=bt r):∃e' es',f e=bt e'/\cA f es=bt es'/\r=.cons e' es':=by
 simp only[cA,Rl]at h;split at h
 ·rename_i e' es' h1 h2;cases h;exact#[e',es',h1,h2,rfl]
 ·cases h
def aZ {n:Kt}{Γ:Gam}:∀ {es:Kg KC} {r:Es},cA (cE n Γ) es=bt r->es.all dL=true
 | [],_,_=>rfl
 | e::es,r,h=>by
  obtain⟨e',es',h1,h2,_⟩:=dM h;rw[La,iw h1,aZ h2];rfl
def a8 {N:Kg Ks}{x:Ks}{i:Kt}(h:N.findIdx? (· == x)=bt i):N[i]?=bt x:=by
 obtain⟨hl,h1,_⟩:=NW.mp h;rw[KT hl];exact congrArg bt (eq_of_beq h1)
section
variable{M:Ks->FF}{X:Cx}{Γ:Gam}
def mE {e:KC}:GT X e (λ_ _=>gV):=λJ s Y H Q I #[A,Z,S,k,S',er,so,e1,hq]=>by cases e1
def oG {x:Ks}(h:Ds (X.env.scope.names.lookup x)=true):Hx X.env.scope x:=by
 unfold Ds at h;split at h
 ·exact .inl (by assumption)
 ·exact .inr (.inl (by assumption))
 ·exact .inr (.inr (by assumption))
 ·cases h
def xj (K:CtxOk M X Γ){x:Ks}{pos:L9}{i:Kt}(h:slot Γ x=bt i):GE X (.Name x pos) (fV i):=by
 unfold slot at h;split at h
 ·rename_i hc;rw[Kj,Kj]at hc;obtain⟨⟨h1,h2⟩,h3⟩:=hc;show CZ (fX (by rw[K.N]; exact a8 h) (oG (by rw[K.names]; exact h1)) (by simpa using h2) (by simpa using h3))
 ·cases h
def cU (K:CtxOk M X Γ){x:Ks}(h:bz Γ x=true):Gl X x/\(x==("__debug__" : Ks))=false:=by
 unfold bz at h;rw[Kj]at h;show#[?_,by simpa using h.2]
 change X.env.scope.names.lookup x=_;rw[K.names];exact eq_of_beq h.1
def j5 {o:Pa}{c:COp}(h:iT o=bt c):c.py=o:=by
 cases o <;> (simp only[iT,K8]at h; subst h; rfl)
def xn {o:Qk}{c:BOp}(h:rQ o=bt c):c.py=o:=by
 cases o <;> simp only[rQ,K8]at h <;> first|(subst h; rfl)|cases h
def um {x:Ks}{b:Bi}(h:Aj x=bt b):b.name=x:=by
 have:=Rm h;exact eq_of_beq this
def uq {x:Ks}{b:Me}(h:Ak x=bt b):b.name=x:=by
 have:=Rm h;exact eq_of_beq this
def bH {n:Kt}(ih:∀ {e:KC} {e':E},cE n Γ e=bt e'->GE X e (ar M e')):∀ {es:Kg KC} {r:Es},cA (cE n Γ) es=bt r->GA X es (bg M r)
 | [],r,h=>by cases h; exact wm
 | e::es,r,h=>by
  obtain⟨e',es',h1,h2,rfl⟩:=dM h;exact rJ (ih h1) (bH ih h2) (aq (iw h1))
def F8 (K:CtxOk M X Γ){n:Kt}{f:Ks}{p pos:L9}{args:Kg KC}{k:Kt}{r:Es}(hg:bz Γ f=true)(hf:Γ.fns.lookup f=bt k)(ha:cA (cE n Γ) args=bt r)(h:GA X args (bg M r)):GE X (.Call (.Name f p) args [] pos) (dI k (M f) (bg M r)):=by
 obtain⟨d,fa,fd,ps,F,hr,hm,hk,hb⟩:=K.fns f k hf;obtain⟨g1,g2⟩:=cU K hg;cases args with
 | nil=>cases ha; exact zM F hr g1 hm hk hb g2
 | cons a as=>
  have ns:=aZ ha;rw[La,Kj]at ns;exact C9 F hr g1 hm hk hb h g2 (aq ns.1) (aO ns.2)
def IP (K:CtxOk M X Γ){n:Kt}{f:Ks}{p pos:L9}{a:KC}{as:Kg KC}{b:Bi}{r:Es}(hg:bz Γ f=true)(hb:Aj f=bt b)(hc:Γ.blt.contains f=true)(ha:cA (cE n Γ) (a::as)=bt r)(h:GA X (a::as) (bg M r)):GE X (.Call (.Name f p) (a::as) [] pos) (iS b.fn (bg M r)):=by
 obtain⟨g1,g2⟩:=cU K hg;have hm:X.mg f=gV:=K.blt f (by simpa using hc)
 have ns:=aZ ha;rw[La,Kj]at ns;have e:=um hb;subst e;have hu:X.A.units+12 < cLine:=by have:=K.un; have:d8=20:=rfl; omega
 have calm:∀ {f:Ki} {g:Kg W->aa->Kk (W×aa)},(X.A.handled=gV->LCall X f g)->LCall X f g:=λh J s Y H A S xs vs us w S' I=>h (I.ok.hd K.calm) J s Y H A S xs vs us w S' I
 cases b with
 | len=>exact wp (oE qo qp) g1 hm PySem.boot_len h #v[] g2 (aq ns.1) (aO ns.2)
 | list=>exact lC (calm λhh=>oE (nX hh) (nY hh)) g1 hm rfl h #v[] g2 (aq ns.1) (aO ns.2)
 | tuple=>exact lC (calm mw) g1 hm rfl h #v[] g2 (aq ns.1) (aO ns.2)
 | str=>exact lC ud g1 hm rfl h #v[] g2 (aq ns.1) (aO ns.2)
 | int=>exact lC tK g1 hm rfl h #v[] g2 (aq ns.1) (aO ns.2)
 | set=>exact lC (calm tW) g1 hm rfl h #v[] g2 (aq ns.1) (aO ns.2)
 | sorted=>exact wp (calm λhh=>kP hh) g1 hm rfl h #v[] g2 (aq ns.1) (aO ns.2)
 | range=>exact lC nW g1 hm rfl h #v[] g2 (aq ns.1) (aO ns.2)
 | all=>exact wp (calm tZ) g1 hm rfl h #v[] g2 (aq ns.1) (aO ns.2)
def xo {x:Ks}{c:LR}(h:w8 x=bt c):bootBuiltins x=bt (.type c)/\x≠"__name__":=by
 unfold w8 at h;split at h
 ·rename_i e; cases h; rw[eq_of_beq e]; exact#[rfl,#v[]]
 ·split at h
  ·rename_i e; cases h; rw[eq_of_beq e]; exact#[rfl,#v[]]
  ·split at h
   ·rename_i e; cases h; rw[eq_of_beq e]; exact#[rfl,#v[]]
   ·split at h
    ·rename_i e; cases h; rw[eq_of_beq e]; exact#[rfl,#v[]]
    ·split at h
     ·rename_i e; cases h; rw[eq_of_beq e]; exact#[rfl,#v[]]
     ·split at h
      ·rename_i e; cases h; rw[eq_of_beq e]; exact#[rfl,#v[]]
      ·cases h
def F9 (K:CtxOk M X Γ){n:Kt}{f:Ks}{p pos:L9}{args:Kg KC}{r:E}(hg:bz Γ f=true)(hb:(f==("isinstance" : Ks))=true)(hc:Γ.blt.contains f=true)(ih:∀ {e:KC} {e':E},cE n Γ e=bt e'->GE X e (ar M e'))(h:Al Γ (cE n Γ) args=bt r) :
  GE X (.Call (.Name f p) args [] pos) (ar M r)/\∃a c,r=.isi c a:=by
 obtain⟨g1,g2⟩:=cU K hg;have hm:X.mg f=gV:=K.blt f (by simpa using hc)
 have e:=eq_of_beq hb;subst e;unfold Al at h;split at h
 ·rename_i a c q;split at h
  ·rename_i hcc;rw[Kj]at hcc;obtain⟨g3,g4⟩:=cU K (x:=c) hcc.1;have hm2:X.mg c=gV:=K.blt c (by simpa using hcc.2)
   split at h
   ·rename_i cs a' h1 h2;cases h;obtain⟨b1,b2⟩:=xo h1;exact#[Dj g1 hm g3 hm2 b1 b2 g4 (ih h2) (aq (iw h2)),a',cs,rfl]
   ·cases h
  ·cases h
 ·cases h
def dA {o:KC}{name:Ks}{env:Ov}(h:cC o=true):attributeBase o name env (eval o env)=eval o env:=by
 cases o <;> first|rfl|cases h
def rS {n:Kt}{pos:L9}(ih:∀ {e:KC} {e':E},cE n Γ e=bt e'->GE X e (ar M e')):∀(keys:Kg (Kk KC)) (values:Kg KC) {r:Es},keys.all (·.isSome)=true->keys.length=values.length->cA (cE n Γ) (rR keys values)=bt r->FY X pos keys values (bg M r)
 | [],[],r,_,_,h=>by cases h; exact z6
 | [],_::_,r,_,hl,_=>by cases hl
 | _::_,[],r,_,hl,_=>by cases hl
 | none::_,_::_,r,ha,_,_=>by cases ha
 | some k::ks,v::vs,r,ha,hl,h=>by
  dsimp only[rR]at h;obtain⟨e1,es1,h1,h2,rfl⟩:=dM h;obtain⟨e2,es2,h3,h4,rfl⟩:=dM h2;rw[La,Kj]at ha;exact wF (ih h1) (ih h3) (rS ih ks vs ha.2 (by simpa using hl) h4)
def IQ (K:CtxOk M X Γ){n:Kt}{m:Ks}{apos cpos:L9}{o a:KC}{as:Kg KC}{b:Me}{o':E}{r:Es}(hm:Ak m=bt b)(hr:cC o=true)(hl:(apos.endLine==cpos.line)=true)(hn:(a::as).length < 29)(ho:GE X o (ar M o'))(ha:cA (cE n Γ) (a::as)=bt r)(h:GA X (a::as) (bg M r)) :
  GE X (.Call (.Attribute o m apos) (a::as) [] cpos) (Bt b.ty b.fn (ar M o') (bg M r)):=by
 have ns:=aZ ha;have ns':=ns;rw[La,Kj]at ns;have few:((backTo cpos (starEach (a::as) X.env)).all (λx=>!x.1)&&(backToKw cpos (keywordEach [] X.env)).all (λx=>x.1.isSome)&&decide ((a::as).length+([]:Kg Qo).length+(if ([]:Kg Qo).isEmpty then 0 else 1) < 30))=true:=by
  rw[oF ns',LU,Kj];exact#[rfl,Lp (by simp only[Pe,List.isEmpty_nil,Nf]; omega)]
 have e:=uq hm;subst e;cases b with
 | append=>exact rL OW PySem.F.slot_list_append PySem.F.type_list_append ml ho h (dA hr) few hl (aq ns.1) (aO ns.2)
 | extend=>exact rL OW PySem.F.slot_list_extend PySem.F.type_list_extend mn ho h (dA hr) few hl (aq ns.1) (aO ns.2)
 | join=>exact rL N9 PySem.F.slot_str_join PySem.F.type_str_join pW ho h (dA hr) few hl (aq ns.1) (aO ns.2)
 | upper=>exact rL N9 O7 O8 iO ho h (dA hr) few hl (aq ns.1) (aO ns.2)
def gR {n:Kt}{Γ:Gam}{e:KC}{e':E}{op:Pa}(h:cE n Γ e=bt e'):behindInMarks op e=false:=by
 cases n with
 | zero=>cases h
 | succ n=>cases e <;> first|rfl|(exact ak h)
def j6 {n:Kt}{Γ:Gam}{e:KC}{e':E}(h:cE n Γ e=bt e'):jc e:=by
 cases n with
 | zero=>cases h
 | succ n=>cases e <;> first|(intro o i; rfl)|(exact ak h)
def ji {n:Kt}{Γ:Gam}{f:KC->Kk E}{e:KC}{i:Ie}{env:Ov}{tg:KC}(hf:∀el k p,f (.Set el k p)=gV)(h:cI Γ f tg e=bt i):∀x,foldedSetIterable e env x=pure x:=by
 intro x;cases e <;> first|rfl|(simp[cI,hf]at h)
def mF {n:Kt}{op:RS}{pos:L9}(ih:∀ {e:KC} {e':E},cE n Γ e=bt e'->GE X e (ar M e')):∀ {vs:Kg KC} {r:E},cB (cE n Γ) op vs=bt r->GE X (.BoolOp op vs pos) (ar M r)
 | [],r,h=>by cases h
 | [a],r,h=>wj (ih h)
 | a::b::aF,r,h=>by
  simp only[cB]at h;split at h
  ·rename_i a' b' h1 h2;cases h;cases op with
   | And=>exact wk (ih h1) (mF ih h2)
   | Or=>exact Bs (ih h1) (mF ih h2)
  ·cases h
def mG {n:Kt}{op:RS}{pos:L9}(ih:∀ {e:KC} {e':E},cE n Γ e=bt e'->GT X e (bE M e')):∀ {vs:Kg KC} {r:E},cB (cE n Γ) op vs=bt r->GW X (.BoolOp op vs pos) (bE M r)
 | [],r,h=>by cases h
 | [a],r,h=>by
  cases op with
  | And=>exact rF (ih h)
  | Or=>exact we (ih h)
 | a::b::aF,r,h=>by
  simp only[cB]at h;split at h
  ·rename_i a' b' h1 h2;cases h;cases op with
   | And=>exact wf (ih h1) (mG ih h2)
   | Or=>exact Br (ih h1) (mG ih h2)
  ·cases h
def xp {n:Kt}(ih:∀ {e:KC} {e':E},cE n Γ e=bt e'->GE X e (ar M e')){o:Kk KC}{p:Ep}(h:cP (cE n Γ) o=bt p):GO X o (rP M p):=by
 cases o with
 | none=>cases h; exact zK
 | some e=>
  simp only[cP,Ko]at h;obtain⟨e',h1,rfl⟩:=h;exact zL (ih h1)
def mH (K:CtxOk M X Γ){n:Kt}(ih:∀ {e:KC} {e':E},cE n Γ e=bt e'->GE X e (ar M e')){tg e:KC}{i:Ie}(h:cI Γ (cE n Γ) tg e=bt i):GI X tg e (lH M i):=by
 have gen:(cE n Γ e).map Ie.seq=bt i->GI X tg e (lH M i):=λh=>by
  rw[Ko]at h;obtain⟨e',h1,rfl⟩:=h;exact z9 (ih h1)
 unfold cI at h;split at h
 ·rename_i x p a pos;split at h
  ·rename_i hc;rw[Kj,Kj]at hc;obtain⟨⟨h1,h2⟩,h3⟩:=hc;have hx:=eq_of_beq h1;subst hx;rw[Ko]at h;obtain⟨r,hr,rfl⟩:=h;have ns:=aZ hr;rw[La,Kj]at ns;exact zZ (cU K h2).1 (K.blt _ (by simpa using h3)) (bH ih hr) (aq ns.1)
  ·split at h
   ·rename_i hc;rw[Kj,Kj,Kj]at hc;obtain⟨⟨⟨h1,h2⟩,h3⟩,h4⟩:=hc;have hx:=eq_of_beq h1;subst hx;rw[Ko]at h;obtain⟨r,hr,rfl⟩:=h;have ns:=aZ hr;rw[La,Kj]at ns;cases tg with
    | Tuple els k0 tp=>exact Ae (cU K h2).1 (K.blt _ (by simpa using h3)) (bH ih hr) (aq ns.1)
    | _=>cases h4
   ·exact gen h
 ·rename_i x p a b pos;split at h
  ·rename_i hc;rw[Kj,Kj,Kj]at hc;obtain⟨⟨⟨h1,h2⟩,h3⟩,h4⟩:=hc;have hx:=eq_of_beq h1;subst hx;rw[Ko]at h;obtain⟨r,hr,rfl⟩:=h;have ns:=aZ hr;rw[La,La,Kj,Kj]at ns;cases tg with
   | Tuple els k0 tp=>exact Dn (cU K h2).1 (K.blt _ (by simpa using h3)) (bH ih hr) (by rw[aq ns.1,aq ns.2.1]; rfl) (aq ns.2.1)
   | _=>cases h4
  ·split at h
   ·rename_i hc;rw[Kj,Kj]at hc;obtain⟨⟨h1,h2⟩,h3⟩:=hc;have hx:=eq_of_beq h1;subst hx;rw[Ko]at h;obtain⟨r,hr,rfl⟩:=h;have ns:=aZ hr;rw[La,La,Kj,Kj]at ns;exact z5 (cU K h2).1 (K.blt _ (by simpa using h3)) (bH ih hr) (by rw[aq ns.1,aq ns.2.1]; rfl) (aq ns.2.1)
   ·exact gen h
 ·exact gen h
def jj (K:CtxOk M X Γ){x:Ks}{i:Kt}(h:aV Γ x=bt i):X.N[i]?=bt x/\uQ X.env.scope x/\(X.fn x=true\/X.env.scope.names.lookup x=bt .local):=by
 unfold aV at h;split at h
 ·rename_i hc;show#[by rw[K.N]; exact a8 h,?_]
  unfold L2.uQ;rw[K.names];rw[Ms,Kj]at hc;rcases hc with hc|⟨hd,hc⟩
  ·have:=eq_of_beq hc;exact#[.inl this,.inr this]
  ·rw[Ms]at hd;exact#[.inr (eq_of_beq hc),.inl (hd.elim (λhd=>K.dfn hd x) λhd=>K.own x (by simpa using hd))]
 ·cases h
def j7 (K:CtxOk M X Γ):∀ {ts:Kg KC} {is:Kg Kt},Dt Γ ts=bt is->(∀x∈ts,∃y p,x=PD y p)/\OY (λ(t:KC) (i:Kt)=>∃x p,t=PD x p/\X.N[i]?=bt x/\uQ X.env.scope x/\(X.fn x=true\/X.env.scope.names.lookup x=bt .local)) ts is
 | [],is,h=>by cases h; exact#[λx hx=>by simp at hx,.nil]
 | t::ts,is,h=>by
  cases t with
  | Name x p=>
   dsimp only[Dt]at h;split at h
   ·rename_i i is' h1 h2;cases h;obtain⟨a,b⟩:=j7 K h2;exact#[λy hy=>(Kx.mp hy).elim (λe=>#[x,p,e]) (a y),.cons #[x,p,rfl,jj K h1] b]
   ·cases h
  | _=>cases h
def cJ {env:Ov}:∀ {ts:Kg KC},(∀x∈ts,∃y p,x=PD y p)->(assignEach ts env).length=ts.length/\(assignEach ts env).findIdx? (·.1)=gV
 | [],_=>#[rfl,rfl]
 | t::ts,h=>by
  obtain⟨y,p,rfl⟩:=h t KP;obtain⟨a,b⟩:=cJ (env:=env) λx hx=>h x (KM _ hx)
  show#[by show(assignEach ts env).length+1=ts.length+1; rw[a],?_]
  change List.findIdx? (·.1) ((false,assign (.Name y p) env)::assignEach ts env)=gV
  rw[List.findIdx?_cons,b];rfl
def oH (K:CtxOk M X Γ){tg:KC}{t:Tg}(h:cT Γ tg=bt t):GG X tg (ul t):=by
 have hN:X.N.Nodup:=by rw[K.N]; exact K.nd
 cases tg with
 | Name x p=>
  dsimp only[cT]at h; simp only[Ko]at h
  obtain⟨i,h1,rfl⟩:=h;obtain⟨a,b,c⟩:=jj K h1;exact jh hN a b c
 | Tuple ts k p=>
  dsimp only[cT]at h; simp only[Ko]at h
  obtain⟨is,h1,rfl⟩:=h;obtain⟨a,b⟩:=j7 K h1;exact wu K.calm a b hN (cJ a).1 (cJ a).2
 | _=>cases h
end
abbrev c9 (env:Ov):Kg (Ks×LW)->Kg (Ks×Kn)->Kg (Ks×Kn)
 | [],cs=>cs
 | (n,k)::r,cs=>c9 env r (if k==.free then(n,(env.cells.lookup n).getD 0)::cs else cs)
def iA {env:Ov}:∀(names:Kg (Ks×LW)) (cs:Kg (Ks×Kn)),(∀y∈names,y.2=.free->(env.cells.lookup y.1).isSome=true)->
  (forIn names cs λx r=>match x with|(name,kind)=>if (kind==NL)=true then do let a <- cellOf env name; pure (ML ((name,a)::r))else pure (ML r):R1 (Kg (Ks×Kn)))=pure (c9 env names cs)
 | [],cs,_=>by rw[OG]; rfl
 | (n,k)::r,cs,h=>by
  rw[Pf];have hr:=λy hy=>h y (KM _ hy)
  by_cases hk:(k==NL)=true
  ·obtain⟨c,hc⟩:=LD.mp (h (n,k) KP (eq_of_beq hk));have e1:cellOf env n=pure c:=by unfold cellOf; rw[hc]
   simp only[hk,Nf,e1,pure_bind];rw[iA r _ hr];simp only[c9,hk,Nf,hc,OT]
  ·have hk':(k==NL)=false:=by simpa using hk
   simp only[hk',Mz,NZ,pure_bind];rw[iA r _ hr];simp only[c9,hk',Mz,NZ]
def jb {scope:M1}{env:Ov}(h:∀y∈scope.names,y.2=.free->(env.cells.lookup y.1).isSome=true):closureFor scope env=pure (c9 env scope.names []):=by
 have:=iA scope.names [] h;unfold closureFor;simp only[this,pure_bind]
def j8 {env:Ov}:∀(names:Kg (Ks×LW)) (cs:Kg (Ks×Kn)),(∀y∈names,y.2=.free->(env.cells.lookup y.1).isSome=true)->(∀x c,cs.lookup x=bt c->env.cells.lookup x=bt c)->
  ∀x c,(c9 env names cs).lookup x=bt c->env.cells.lookup x=bt c
 | [],cs,_,h,x,c,e=>h x c e
 | (n,k)::r,cs,hn,h,x,c,e=>by
  show j8 r _ (λy hy=>hn y (KM _ hy)) (λx c e=>?_) x c e
  split at e
  ·rename_i hk;rw[K5]at e;split at e
   ·rename_i hx;cases e;have:=eq_of_beq hx;subst this;obtain⟨c,hc⟩:=LD.mp (hn (x,k) KP (eq_of_beq hk));rw[hc]; rfl
   ·exact h x c e
  ·exact h x c e
def iU {env:Ov}{x:Ks}:∀(names:Kg (Ks×LW)) (cs:Kg (Ks×Kn)),(∃c,cs.lookup x=bt c)->∃c,(c9 env names cs).lookup x=bt c
 | [],cs,h=>h
 | (n,k)::r,cs,h=>by
  show iU r _ ?_;split
  ·rw[K5];split
   ·exact#[_,rfl]
   ·exact h
  ·exact h
def j9 {env:Ov}{x:Ks}:∀(names:Kg (Ks×LW)) (cs:Kg (Ks×Kn)),(x,NL)∈names->∃c,(c9 env names cs).lookup x=bt c
 | [],cs,h=>by simp at h
 | (n,k)::r,cs,h=>by
  rcases Kx.mp h with e|h
  ·cases e;show iU r _ ?_;simp[K5]
  ·exact j9 r _ h
def kh {x:Ks}{k:LW}:∀ {l:Kg (Ks×LW)},l.lookup x=bt k->(x,k)∈l
 | [],h=>by simp at h
 | (n,j)::r,h=>by
  rw[K5]at h;split at h
  ·rename_i hx;cases h;have:=eq_of_beq hx;subst this;exact KP
  ·exact KM _ (kh h)
def da {X:Cx}{M:Ks->FF}{Γ:Gam}(K:CtxOk M X Γ)(scope:M1):(relabel scope X.env).names=eQ scope.names Γ.sc:=by
 unfold relabel eQ O9;rw[K.kind,K.names];show List.map_congr_left λ#[n,k] _=>?_
 have e:(Qe==Qe)=true:=rfl;simp only[e,NM]
def cK {outer:Kg (Ks×LW)}{x:Ks}:∀ {names:Kg (Ks×LW)},(eQ names outer).lookup x=(names.lookup x).map λk=>if (k==.free&&outer.lookup x==bt .cell)then .cell else k
 | []=>rfl
 | (n,k)::r=>by
  have ih:=cK (outer:=outer) (x:=x) (names:=r);change NB x ((if (k==NL&&outer.lookup n==bt .cell)=true then(n,Nr)else(n,k))::eQ r outer)=_
  cases hx:x==n with
  | true=>
   have:=eq_of_beq hx;subst this;simp only[K5,Li,L5];split <;> simp[K5]
  | false=>
   simp only[K5,hx];split <;> (simp only[K5,hx]; exact ih)
section
variable{M:Ks->FF}{X:Cx}{Γ:Gam}
structure ScOk (Γ:Gam)(scope:M1):Prop where
 kind:scope.kind=.function
 names:∀y∈scope.names,y.2=.local->scope.names.lookup y.1=bt .local
 cell:∀y∈scope.names,y.2=.cell->scope.names.lookup y.1=bt .cell
 free:∀y∈scope.names,y.2=.free->Ai (Γ.sc.lookup y.1)=true/\scope.names.lookup y.1=bt .free/\(Γ.N.findIdx? (· == y.1)).isSome=true
 nd:(fS scope.names).Nodup
def rT {scope:M1}(h:w9 Γ scope=true):ScOk Γ scope:=by
 unfold w9 at h;rw[Kj,Kj,Kj,Kj]at h;obtain⟨⟨⟨⟨h1,h2⟩,h3⟩,h4⟩,h5⟩:=h;show#[eq_of_beq h1,λy hy e=>?_,λy hy e=>?_,λy hy e=>?_,Lq h5]
 ·have:=LN.mp h2 y hy;rw[e]at this
  simpa using this
 ·have:=LN.mp h3 y hy;rw[e]at this
  simpa using this
 ·have:=LN.mp h4 y hy;rw[e]at this;simp only[Li,PY,OO,Kj]at this;exact#[this.1.1,eq_of_beq this.1.2,this.2]
def rV {o:Kk LW}(h:Ai o=true):o=bt .cell\/o=bt .free:=by
 unfold Ai at h;split at h
 ·exact .inl rfl
 ·exact .inr rfl
 ·cases h
def lI (K:CtxOk M X Γ)(ok:X.Ok){scope:M1}(sc:ScOk Γ scope):CompOk X scope (c9 X.env scope.names []) (fS scope.names) (fB Γ scope.names):=by
 have cells:∀y∈scope.names,y.2=.free->(X.env.cells.lookup y.1).isSome=true:=λy hy e=>by
  have hk:=rV (sc.free y hy e).1;obtain⟨c,hc⟩:=ok.has y.1 (by unfold O9; rw[K.names]; exact hk)
  rw[hc]; rfl
 have relab:∀x,((relabel scope X.env).names.lookup x=bt .cell\/(relabel scope X.env).names.lookup x=bt .free)->(x,Nr)∈scope.names\/(x,NL)∈scope.names:=λx h=>by
  rw[da K,cK]at h;cases q:scope.names.lookup x with
  | none=>rw[q]at h; rcases h with h|h <;> cases h
  | some k=>
   rw[q]at h;have hm:=kh q;cases k with
   | free=>exact .inr hm
   | cell=>exact .inl hm
   | _=>rcases h with h|h <;> simp at h
 show#[jb cells,sc.kind,sc.names,j8 _ _ cells (λx c e=>by cases e),λm x h=>iu _ _ _ ((relab x h).imp id λz=>j9 _ _ z),by simp[fB],λi j x hi hx=>?_]
 unfold fB at hi;rw[K4,hx]at hi;simp only[L5,K8]at hi;split at hi
 ·cases hi
 ·rename_i hl;have hx2:x∈fS scope.names:=Lc hx;unfold fS at hx2;obtain⟨⟨x',k⟩,hf,e⟩:=MD.mp hx2;obtain⟨hm,hk⟩:=MK.mp hf;have e':x'=x:=e;subst e';have hkf:k=.free:=by
   simp only[Ms]at hk;rcases hk with(hk|hk)|hk
   ·have:k=.local:=eq_of_beq hk;subst this;have:=sc.names (x',.local) hm rfl;rw[this]at hl;simp at hl
   ·have:k=.cell:=eq_of_beq hk;subst this;have:=sc.cell (x',.cell) hm rfl;rw[this]at hl;simp at hl
   ·exact eq_of_beq hk
  subst hkf;obtain⟨f1,f2,f3⟩:=sc.free _ hm rfl;show#[by rw[K.N]; exact a8 hi,by unfold O9; rw[K.names]; exact rV f1,?_,λz=>by rw[sc.cell _ z rfl]at f2; cases f2]
  rw[da K,cK,f2];simp only[L5,K8,Li,LU];split
  ·exact .inl rfl
  ·exact .inr rfl
def dB (K:CtxOk M X Γ){scope:M1}(sc:ScOk Γ scope)(C:Kn)(s0:Km)(H0:Hp)(ex:Kg Kn):CtxOk M (kK X scope (c9 X.env scope.names []) C (fS scope.names) s0 H0 ex) (fT Γ scope) where
 names:=da K scope
 kind:=sc.kind
 N:=rfl
 nd:=sc.nd
 calm:=K.calm
 xe:=Ol
 un:=K.un
 dfn:=λh=>by cases h
 own:=λx h=>by
  obtain⟨⟨y,k⟩,hy,e⟩:=MD.mp h;obtain⟨hm,hk⟩:=MK.mp hy;have e':y=x:=e;subst e';exact QX.mpr #[(y,k),hm,by simpa using hk]
 blt:=K.blt
 cst:=K.cst
 gds:=K.gds
 fns:=K.fns
def oJ {cs:Es}{n:Kt}{ifs:Kg KC}{Γ:Gam}(hl:ifs.length<=1)(hc:cA (cE n Γ) ifs=bt cs){Yj:Cx}(ih:∀ {e:KC} {e':E},cE n Γ e=bt e'->GT Yj e (bE M e'))(hx:Yj.xe=λ_ _=>Lj) :
  ∀J s Y H Q,Inv Yj J Y H s->tT Yj (Ah M cs) Y H Q->
  wpAny (model Yj.prog Yj.w) Yj.A (forIn ifs true λc r=>if r=true then do let ok <- isTrue c Yj.env (eval c Yj.env); pure (ML ok)else pure (ML r)) (TP Yj J Y Q) (λ_ _=>Lj) s:=by
 intro J s Y H Q I h
 match ifs,hl,hc with
 | [],_,hc=>
  cases hc;obtain⟨A,Z,S,k,S',er,so,e,hq⟩:=h;cases e;exact wpAny_tests_nil #[H,I,hq _ _ #[rfl,A,.refl,so]]
 | [c],_,hc=>
  obtain⟨e',es',h1,h2,rfl⟩:=dM hc;cases h2;have:=ih h1 J s Y H Q I h;rw[hx]at this;exact wpAny_tests_one this
def aR:∀(n:Kt) {Γ:Gam} {X:Cx} {e:KC} {e':E},CtxOk M X Γ->cE n Γ e=bt e'->GE X e (ar M e')/\GT X e (bE M e'):=by
 intro n
 induction n with
 | zero=>intro Γ X e e' K h; cases h
 | succ n ih=>
  intro Γ X e e' K h;have ihE:∀ {e:KC} {e':E},cE n Γ e=bt e'->GE X e (ar M e'):=λq=>(ih K q).1
  have ihT:∀ {e:KC} {e':E},cE n Γ e=bt e'->GT X e (bE M e'):=λq=>(ih K q).2
  have hu10:X.A.units+10 < cLine:=by have:=K.un; have:d8=20:=rfl; omega
  cases e with
  | Constant c k p=>
   cases c <;> cases h
   all_goals first
    | exact#[ee lW (λ_ _=>.non),aN (ee lW (λ_ _=>.non)) λ_=>rfl]
    | exact#[ee nw (λ_ _=>.bl),aN (ee nw (λ_ _=>.bl)) λ_=>rfl]
    | exact#[ee lV (λ_ _=>.int),aN (ee lV (λ_ _=>.int)) λ_=>rfl]
    | exact#[ee lX (λ_ _=>.str),aN (ee lX (λ_ _=>.str)) λ_=>rfl]
  | Name x p=>
   replace h:(match slot Γ x with|some i=>bt (E.v i)|none=>if bz Γ x then(Γ.cst.lookup x).map E.c else gV)=bt e':=h
   split at h
   ·rename_i i h1;cases h;exact#[xj K h1,aN (xj K h1) λ_=>rfl]
   ·split at h
    ·rename_i hg;rw[Ko]at h;obtain⟨w,h1,rfl⟩:=h;obtain⟨g1,g2⟩:=cU K hg;have g:=Do (pos:=p) g1 g2 (K.cst x w h1);exact#[g,aN g λ_=>rfl]
    ·cases h
  | BinOp a op b p=>
   replace h:(match rQ op,cE n Γ a,cE n Γ b with|some o,bt a',bt b'=>bt (E.op o a' b')|_,_,_=>gV)=bt e':=h
   split at h
   ·rename_i o a' b' h1 h2 h3;cases h;have e:=xn h1;subst e;exact#[Bq (rm o) (ihE h2) (ihE h3),aN (Bq (rm o) (ihE h2) (ihE h3)) λ_=>rfl]
   ·cases h
  | UnaryOp op a p=>
   cases op with
   | Not=>
    replace h:(cE n Γ a).map E.not=bt e':=h;rw[Ko]at h;obtain⟨a',h1,rfl⟩:=h;exact#[wl (ihE h1),wg (ihT h1)]
   | USub=>
    replace h:(cE n Γ a).map E.neg=bt e':=h;rw[Ko]at h;obtain⟨a',h1,rfl⟩:=h;exact#[v8 (ihE h1),aN (v8 (ihE h1)) λ_=>rfl]
   | _=>exact ak h
  | BoolOp op vs p=>
   replace h:cB (cE n Γ) op vs=bt e':=h;exact#[mF ihE h,(mG ihT h).pt]
  | Compare a ops cs p=>
   match ops,cs,h with
   | [op],[b],h=>
    replace h:(match xh Γ b with|some U=>if op==.NotIn then(cE n Γ a).map (E.gni U)else gV|none=>match iT op,cE n Γ a,cE n Γ b with|some o,bt a',bt b'=>bt (E.cmp o a' b')|_,_,_=>gV)=bt e':=h
    split at h
    ·rename_i U hk;split at h
     ·rename_i hop;rw[Ko]at h;obtain⟨a',h1,rfl⟩:=h;have hop':op=.NotIn:=by cases op <;> first|rfl|cases hop
      subst hop';cases b with
      | Name y py=>
       replace hk:(if bz Γ y then Γ.gds.lookup y else gV)=bt U:=hk
       split at hk
       ·rename_i hg;obtain⟨g1,g2⟩:=cU K hg;exact#[Dq (p:=py) (pos:=p) g1 g2 (K.gds _ _ hk) (ihE h1),Dr (p:=py) (pos:=p) g1 g2 (K.gds _ _ hk) (ihE h1)]
       ·cases hk
      | _=>exact ak hk
     ·cases h
    ·split at h
     ·rename_i o a' b' h1 h2 h3;cases h;have e:=j5 h1;subst e;exact#[C0 K.un (ihE h2) (ihE h3) (gR h3),C3 K.un (ihE h2) (ihE h3) (gR h3)]
     ·cases h
   | [],_,h=>exact ak h
   | [_],[],h=>exact ak h
   | [_],_::_::_,h=>exact ak h
   | [op,op'],[b,d],h=>
    replace h:(match iT op,iT op',cE n Γ a,cE n Γ b,cE n Γ d with|some o,bt o',bt a',bt b',bt d'=>bt (E.chn o o' a' b' d')|_,_,_,_,_=>gV)=bt e':=h
    split at h
    ·rename_i o o' a' b' d' h1 h2 h3 h4 h5;cases h;have e:=j5 h1;subst e;have e:=j5 h2;subst e;exact#[v9 K.un (ihE h3) (ihE h4) (ihE h5) (gR h5),wa K.un (ihE h3) (ihE h4) (ihE h5) (gR h5)]
    ·cases h
   | [_,_],[],h=>exact ak h
   | [_,_],[_],h=>exact ak h
   | [_,_],_::_::_::_,h=>exact ak h
   | _::_::_::_,_,h=>exact ak h
  | IfExp t a b p=>
   replace h:(match cE n Γ t,cE n Γ a,cE n Γ b with|some t',bt a',bt b'=>bt (E.ite t' a' b')|_,_,_=>gV)=bt e':=h
   split at h
   ·rename_i t' a' b' h1 h2 h3;cases h;exact#[C4 (ihT h1) (ihE h2) (ihE h3),mE]
   ·cases h
  | Call f args kws p=>
   cases kws with
   | cons _ _=>cases f <;> first|(exact ak h)|(cases args <;> (exact ak h))
   | nil=>
    cases f with
    | Name x q=>
     replace h:(if bz Γ x then match Γ.fns.lookup x with|some k=>(cA (cE n Γ) args).map (E.own x k)|none=>if x==("isinstance" : Ks)then(if Γ.blt.contains x then Al Γ (cE n Γ) args else gV)else match (generalizing:=false) Aj x,args with|some b,a::as=>if Γ.blt.contains x then(cA (cE n Γ) (a::as)).map (E.bi b)else gV|_,_=>gV else gV)=bt e':=h
     split at h
     ·rename_i hg;split at h
      ·rename_i k hk;rw[Ko]at h;obtain⟨r,hr,rfl⟩:=h;have g:=F8 (pos:=p) (p:=q) K hg hk hr (bH ihE hr);exact#[g,aN g λ_=>rfl]
      ·split at h
       ·rename_i his;split at h
        ·rename_i hc;obtain⟨g,a',c',rfl⟩:=F9 (pos:=p) (p:=q) K hg his hc ihE h;exact#[g,aN g λ_=>rfl]
        ·cases h
       ·split at h
        ·rename_i bb a as hb;split at h
         ·rename_i hc;rw[Ko]at h;obtain⟨r,hr,rfl⟩:=h;have g:=IP (pos:=p) (p:=q) K hg hb hc hr (bH ihE hr);exact#[g,aN g λ_=>rfl]
         ·cases h
        ·cases h
     ·cases h
    | Attribute o m q=>
     cases args with
     | nil=>
      replace h:(if (m==("upper" : Ks))&&cC o&&(q.endLine==p.line)then(cE n Γ o).map λo'=>E.me .upper o' .nil else gV)=bt e':=h
      split at h
      ·rename_i hc;rw[Kj,Kj]at hc;rw[Ko]at h;obtain⟨o',h1,rfl⟩:=h;have e:=eq_of_beq hc.1.1;subst e;have g:GE X (.Call (.Attribute o ("upper" : Ks) q) [] [] p) (ar M (.me .upper o' .nil)):=C8 N9 O7 O8 iO (ihE h1) (dA hc.1.2) hc.2;exact#[g,aN g λ_=>rfl]
      ·cases h
     | cons a as=>
      replace h:(match Ak m,cE n Γ o,cA (cE n Γ) (a::as)with|some m',bt o',bt es=>if cC o&&(q.endLine==p.line)&&decide ((a::as).length < 29)then bt (E.me m' o' es)else gV|_,_,_=>gV)=bt e':=h
      split at h
      ·rename_i m' o' es h1 h2 h3;split at h
       ·rename_i hc;rw[Kj,Kj,KN]at hc;cases h;have g:=IQ K (cpos:=p) (apos:=q) h1 hc.1.1 hc.1.2 hc.2 (ihE h2) h3 (bH ihE h3);exact#[g,aN g λ_=>rfl]
       ·cases h
      ·cases h
    | _=>exact ak h
  | Subscript a b p=>
   have plain:(match xh Γ a with|some U=>(cE n Γ b).map (E.gix U)|none=>match cE n Γ a,cE n Γ b with|some a',bt b'=>bt (E.ix a' b')|_,_=>gV)=bt e'->GE X (.Subscript a b p) (ar M e')/\GT X (.Subscript a b p) (bE M e'):=λh=>by
    split at h
    ·rename_i U hk;rw[Ko]at h;obtain⟨b',h1,rfl⟩:=h;unfold xh at hk;split at hk
     ·rename_i y py;split at hk
      ·rename_i hg;obtain⟨g1,g2⟩:=cU K hg;have g:=Dp (p:=py) (pos:=p) g1 g2 (K.gds _ _ hk) (ihE h1) (j6 h1);exact#[g,aN g λ_=>rfl]
      ·cases hk
     ·cases hk
    ·split at h
     ·rename_i a' b' h1 h2;cases h;have g:=FQ (pos:=p) hu10 (ihE h1) (ihE h2) (j6 h2);exact#[g,aN g λ_=>rfl]
     ·cases h
   cases b with
   | Slice lo hi st q=>
    cases st with
    | none=>
     replace h:(match cE n Γ a,cP (cE n Γ) lo,cP (cE n Γ) hi with|some a',bt lo',bt hi'=>bt (E.sl a' lo' hi')|_,_,_=>gV)=bt e':=h
     split at h
     ·rename_i a' lo' hi' h1 h2 h3;cases h;have g:=FR (pos:=p) (p2:=q) (ihE h1) (xp ihE h2) (xp ihE h3);exact#[g,aN g λ_=>rfl]
     ·cases h
    | some z=>exact plain h
   | _=>exact plain h
  | Tuple es k p=>
   replace h:(cA (cE n Γ) es).map E.tup=bt e':=h;rw[Ko]at h;obtain⟨r,h1,rfl⟩:=h;exact#[qk (bH ihE h1),aN (qk (bH ihE h1)) λ_=>rfl]
  | List es p=>
   replace h:(cA (cE n Γ) es).map E.lst=bt e':=h;rw[Ko]at h;obtain⟨r,h1,rfl⟩:=h;exact#[wo (bH ihE h1),aN (wo (bH ihE h1)) λ_=>rfl]
  | Dict keys values p=>
   replace h:xg (cE n Γ) keys values=bt e':=h;unfold xg at h;split at h
   ·rename_i hc;cases h
   ·rename_i hc0;split at h
    ·rename_i hc;rw[Kj,Kj,KN,KN]at hc;rw[Ko]at h;obtain⟨r,hr,rfl⟩:=h;have h0:keys≠[]:=λz=>by
      subst z;have v0:values=[]:=MJ.mp hc.1.2.symm;subst v0;exact hc0 rfl
     exact#[z7 (pos:=p) hu10 (rS ihE keys values hc.1.1 hc.1.2 hr) hc.1.1 hc.1.2 h0 hc.2,mE]
    ·cases h
  | ListComp elt gens scope p=>
   match gens,h with
   | [#[tg,iter,ifs,asy]],h=>
    replace h:(if (asy==0)&&(w9 Γ scope&&decide (ifs.length<=1))then match cI Γ (cE n Γ) tg iter,cT (fT Γ scope) tg,cA (cE n (fT Γ scope)) ifs,cE n (fT Γ scope) elt with|some it,bt t,bt cs,bt el=>bt (E.comp el t it cs (fB Γ scope.names))|_,_,_,_=>gV else gV)=bt e':=h
    split at h
    ·rename_i hc;rw[Kj,Kj,KN]at hc;have e0:asy=0:=eq_of_beq hc.1;subst e0;replace hc:=hc.2;split at h
     ·rename_i it t cs el h1 h2 h3 h4;cases h;have sc:=rT hc.1;show#[Aa K.calm (mH K ihE h1) (λok=>#[_,lI K ok sc,?_]) (ji (n:=n) (λel k p=>by cases n <;> rfl) h1),mE]
      show#[λC s0 H0 ex=>oH (dB K sc C s0 H0 ex) h2,λC s0 H0 ex J s Y H Q I q=>?_,λC s0 H0 ex=>(ih (dB K sc C s0 H0 ex) h4).1]
      exact oJ hc.2 h3 (λz=>(ih (dB K sc C s0 H0 ex) z).2) rfl J s Y H Q I q
     ·cases h
    ·cases h
   | [],h=>exact ak h
   | #[_,_,_,_]::_::_,h=>exact ak h
  | _=>exact ak h
end
noncomputable abbrev aJ:Kt:=30
abbrev Bz:KC->KR
 | .Constant (.str _) _ _=>true
 | _=>false
abbrev iB:KC->KR
 | .ListComp _ _ _ _=>true
 | _=>false
abbrev rW:KC->KR
 | .Slice _ _ _ _=>true
 | _=>false
abbrev eR (f:LO->Kk Sm)(ss:Kg LO):Kk Ss:=ss.foldr (λs acc=>match f s,acc with|some s',bt ss'=>bt (.cons s' ss')|_,_=>gV) (bt .nil)
abbrev Du (Γ:Gam):Kg KC->KC->Kk Sm
 | [.Name x px,.Name y py],.Tuple [a,b] _ _=>match Γ.N.findIdx? (· == x),Γ.N.findIdx? (· == y),cA (cE aJ Γ) [a,b]with
  | some i,bt j,bt es=>if !(i==j)&&(Γ.sc.lookup x==bt .local)&&(Γ.sc.lookup y==bt .local)&&(py.line==px.line) && !([a,b].all (foldedForSure 8)) && !([a,b].all (constantsAlone 8))then bt (.par i j es)else gV
  | _,_,_=>gV
 | _,_=>gV
abbrev cS:Kt->Gam->LO->Kk Sm
 | 0,_,_=>gV
 | n+1,Γ,st=>match st with
  | .Assign [.Name x _] e _=>match aV Γ x,cE aJ Γ e with
   | some i,bt e'=>bt (.set i e')
   | _,_=>gV
  | .Assign [.Tuple ts _ _] e _=>if isTup e then Du Γ ts e else if iB e then gV else match Dt Γ ts,cE aJ Γ e with
   | some is,bt e'=>bt (.asg is e')
   | _,_=>gV
  | .Assign [.Subscript o k _] e _=>if rW k then gV else match cE aJ Γ o,cE aJ Γ k,cE aJ Γ e with
   | some o',bt k',bt e'=>bt (.put o' k' e')
   | _,_,_=>gV
  | .Expr e _=>if Bz e then bt .pass else if iB e then gV else(cE aJ Γ e).map .ex
  | .Return (bt e) _=>(cE aJ Γ e).map .ret
  | .Return gV _=>bt .retN
  | .Pass _=>bt .pass
  | .Raise _ _ _=>bt .bad
  | .Break _=>bt .brk
  | .Continue _=>bt .cont
  | .If t a b _=>match cE aJ Γ t,eR (cS n Γ) a,eR (cS n Γ) b with
   | some t',bt a',bt b'=>bt (.ite t' a' b')
   | _,_,_=>gV
  | .While t b [] _=>match cE aJ Γ t,eR (cS n Γ) b with
   | some t',bt b'=>bt (.whl t' b')
   | _,_=>gV
  | .For tg it b [] _=>match cT Γ tg,cI Γ (cE aJ Γ) tg it,eR (cS n Γ) b with
   | some t,bt i,bt b'=>bt (.loop t i b')
   | _,_,_=>gV
  | _=>gV
section
variable{M:Ks->FF}{X:Cx}{Γ:Gam}{fuel:Kt}
def gS {f:LO->Kk Sm}{s:LO}{ss:Kg LO}{r:Ss}(h:eR f (s::ss)=bt r):∃s' ss',f s=bt s'/\eR f ss=bt ss'/\r=.cons s' ss':=by
 simp only[eR,Rl]at h;split at h
 ·rename_i e' es' h1 h2;cases h;exact#[e',es',h1,h2,rfl]
 ·cases h
def dN {n:Kt}(ih:∀ {st:LO} {s':Sm},cS n Γ st=bt s'->GS X st (bN M fuel s')):∀ {ss:Kg LO} {r:Ss},eR (cS n Γ) ss=bt r->GSs X ss (bQ M fuel r)
 | [],r,h=>by cases h; exact gN
 | s::ss,r,h=>by
  obtain⟨s',ss',h1,h2,rfl⟩:=gS h;exact jY (ih h1) (dN ih h2)
def ki {e:KC}{t:Kk KC}{l:Kt}{env:Ov}(h:iB e=false)(n:Kt){Γ:Gam}{e':E}(hc:cE n Γ e=bt e'):swapsWith e t l env=pure false:=by
 cases n with
 | zero=>cases hc
 | succ n=>cases e <;> first|(exfalso; exact ak hc)|rfl|cases h
def qw (K:CtxOk M X Γ){n:Kt}{elt:KC}{gens:Kg Comprehension}{scope:M1}{p:L9}{e':E}(h:cE (n+1) Γ (.ListComp elt gens scope p)=bt e') :
  ∃tg iter ifs fi g c f cap,gens=[#[tg,iter,ifs,0]]/\ar M e'=j3 fi g c f cap/\GI X tg iter fi/\(X.Ok->∃cl,CompOk X scope cl (fS scope.names) cap/\BlockOk X scope cl (fS scope.names) tg elt ifs g c f)/\∀x,foldedSetIterable iter X.env x=pure x:=by
 match gens,h with
 | [#[tg,iter,ifs,asy]],h=>
  replace h:(if (asy==0)&&(w9 Γ scope&&decide (ifs.length<=1))then match cI Γ (cE n Γ) tg iter,cT (fT Γ scope) tg,cA (cE n (fT Γ scope)) ifs,cE n (fT Γ scope) elt with|some it,bt t,bt cs,bt el=>bt (E.comp el t it cs (fB Γ scope.names))|_,_,_,_=>gV else gV)=bt e':=h
  split at h
  ·rename_i hc;rw[Kj,Kj,KN]at hc;have e0:asy=0:=eq_of_beq hc.1;subst e0;replace hc:=hc.2;split at h
   ·rename_i it t cs el h1 h2 h3 h4;cases h;have sc:=rT hc.1;show#[tg,iter,ifs,_,_,_,_,_,rfl,rfl,mH K (λz=>(aR n K z).1) h1,λok=>#[_,lI K ok sc,?_],ji (n:=n) (λel k p=>by cases n <;> rfl) h1]
    show#[λC s0 H0 ex=>oH (dB K sc C s0 H0 ex) h2,λC s0 H0 ex J s Y H Q I q=>?_,λC s0 H0 ex=>(aR n (dB K sc C s0 H0 ex) h4).1]
    exact oJ hc.2 h3 (λz=>(aR n (dB K sc C s0 H0 ex) z).2) rfl J s Y H Q I q
   ·cases h
  ·cases h
 | [],h=>exact ak h
 | #[_,_,_,_]::_::_,h=>exact ak h
def Ga (K:CtxOk M X Γ){x:Ks}{px pos:L9}{e:KC}{i:Kt}{e':E}(hi:aV Γ x=bt i)(he:cE aJ Γ e=bt e'):GS X (.Assign [.Name x px] e pos) (dJ (ar M e') (zQ i)):=by
 obtain⟨a,b,c⟩:=jj K hi;have hN:X.N.Nodup:=by rw[K.N]; exact K.nd
 have plain:swapsWith e (bt (.Name x px)) pos.line X.env=pure false->GS X (.Assign [.Name x px] e pos) (dJ (ar M e') (zQ i)):=λhs=>mx (aR _ K he).1 (jh hN a b c) hs (by cases e <;> rfl) rfl
 cases hc:iB e with
 | false=>exact plain (ki hc _ he)
 | true=>
  cases e with
  | ListComp elt gens scope p=>
   cases hsw:(X.env.blockKind==.function&&X.env.kindOf x==bt .local&&px.line==p.line && !(scope.names.any λ(n,k)=>n==x&&(k==.local||k==.cell)))with
   | false=>
    show plain ?_;show(pure (X.env.blockKind==.function&&X.env.kindOf x==bt .local&&px.line==p.line && !(scope.names.any λ(n,k)=>n==x&&(k==.local||k==.cell))):R1 KR)=pure false
    rw[hsw]
   | true=>
    have hsw':swapsWith (.ListComp elt gens scope p) (bt (.Name x px)) pos.line X.env=pure true:=by
     show(pure (X.env.blockKind==.function&&X.env.kindOf x==bt .local&&px.line==p.line && !(scope.names.any λ(n,k)=>n==x&&(k==.local||k==.cell))):R1 KR)=pure true
     rw[hsw]
    rw[Kj,Kj,Kj]at hsw;have hl:X.env.scope.names.lookup x=bt .local:=eq_of_beq hsw.1.1.2;obtain⟨tg,iter,ifs,fi,g,c',f,cap,rfl,e2,gi,hck,hs⟩:=qw K he;rw[e2];exact qr K.calm gi hck hs hsw' hN a hl
  | _=>cases hc
def oK (K:CtxOk M X Γ){x y:Ks}{px py pt pt2:L9}{kt k2:Kt}{a b:KC}(hxy:x≠y)(hx:Γ.sc.lookup x=bt .local)(hy:Γ.sc.lookup y=bt .local)(hl:(py.line==px.line)=true)(h1:[a,b].all (foldedForSure 8)=false)(h2:[a,b].all (constantsAlone 8)=false)(hs:dL a=true)(hs2:dL b=true) :
  swappedStores [.Tuple [.Name x px,.Name y py] kt pt] (.Tuple [a,b] k2 pt2) X.env=pure (bt [x,y]):=by
 have kx:(X.env.kindOf x==bt .local)=true:=by unfold O9; rw[K.names,hx]; rfl
 have ky:(X.env.kindOf y==bt .local)=true:=by unfold O9; rw[K.names,hy]; rfl
 have bk:(X.env.blockKind != .function)=false:=by
  unfold Env.blockKind;rw[K.kind];rfl
 have hp:(px.line==px.line)=true:=by simp
 have ed:([x,y].eraseDups.length != [x,y].length)=false:=by
  have:(y==x)=false:=by simpa using Ne.symm hxy
  simp[PP,this]
 have kx':X.env.kindOf x=bt .local:=eq_of_beq kx;have ky':X.env.kindOf y=bt .local:=eq_of_beq ky;have hl':py.line=px.line:=eq_of_beq hl;have bk':X.env.blockKind=.function:=by simpa using bk
 have yx:(y==x)=false:=by simpa using Ne.symm hxy
 have h1':(foldedForSure 8 a&&foldedForSure 8 b)=false:=by simpa using h1
 have h2':(constantsAlone 8 a&&constantsAlone 8 b)=false:=by simpa using h2
 unfold swappedStores;simp only[Ml,List.any_nil,PV,Nc,List.filterMap_nil,kx',ky',bk',List.head?_cons,L5,OT,Lh,Pe,La,List.all_nil,NM,h1',h2'];show Eq.trans (KY ?_) (Eq.trans (KY ?_) ?_)
 ·decide
 ·rw[Ms];rintro(hh|hh)
  ·clear h1 h2 h1' h2';cases a <;> first|(cases hh; done)|(cases hs; done)
  ·clear h1 h2 h1' h2';cases b <;> first|(cases hh; done)|(cases hs2; done)
 ·dsimp only[Expr.pos]; simp[hl',yx,PP]
def jk (fuel:Kt)(K:CtxOk M X Γ):∀(n:Kt) {st:LO} {s':Sm},cS n Γ st=bt s'->GS X st (bN M fuel s'):=by
 have hN:X.N.Nodup:=by rw[K.N]; exact K.nd
 have own:Ob (model X.prog X.w) X.A X.env X.xe:=K.xe;intro n
 induction n with
 | zero=>intro st s' h; cases h
 | succ n ih=>
  intro st s' h;cases st with
  | Expr e p=>
   replace h:(if Bz e then bt Sm.pass else if iB e then gV else(cE aJ Γ e).map Sm.ex)=bt s':=h
   split at h
   ·rename_i hd;cases h;cases e with
    | Constant c k q=>
     cases c with
     | str x=>exact Db
     | _=>cases hd
    | _=>cases hd
   ·split at h
    ·cases h
    ·rename_i hd hc;rw[Ko]at h;obtain⟨e',h1,rfl⟩:=h;exact FU (aR _ K h1).1 (ki (by simpa using hc) _ h1)
  | Return o p=>
   cases o with
   | none=>cases h; exact zP
   | some e=>
    replace h:(cE aJ Γ e).map Sm.ret=bt s':=h;rw[Ko]at h;obtain⟨e',h1,rfl⟩:=h;exact ql (aR _ K h1).1
  | Pass p=>cases h; exact zN
  | Raise exc cause pos=>cases h; exact λJ s D Y H I #[A,Z,S,o,S',er,so,e,hq]=>nomatch e
  | Break p=>cases h; exact wt
  | Continue p=>cases h; exact zO
  | If t a b p=>
   replace h:(match cE aJ Γ t,eR (cS n Γ) a,eR (cS n Γ) b with|some t',bt a',bt b'=>bt (Sm.ite t' a' b')|_,_,_=>gV)=bt s':=h
   split at h
   ·rename_i t' a' b' h1 h2 h3;cases h;exact Bu (aR _ K h1).2 (dN ih h2) (dN ih h3)
   ·cases h
  | While t b o p=>
   cases o with
   | cons _ _=>exact ak h
   | nil=>
    replace h:(match cE aJ Γ t,eR (cS n Γ) b with|some t',bt b'=>bt (Sm.whl t' b')|_,_=>gV)=bt s':=h
    split at h
    ·rename_i t' b' h1 h2;cases h;exact wx fuel own (aR _ K h1).2 (dN ih h2)
    ·cases h
  | For tg it b o p=>
   cases o with
   | cons _ _=>exact ak h
   | nil=>
    replace h:(match cT Γ tg,cI Γ (cE aJ Γ) tg it,eR (cS n Γ) b with|some t,bt i,bt b'=>bt (Sm.loop t i b')|_,_,_=>gV)=bt s':=h
    split at h
    ·rename_i t i b' h1 h2 h3;cases h;exact Di own K.calm (mH K (λz=>(aR _ K z).1) h2) (oH K h1) (dN ih h3) (ji (n:=aJ) (λel k p=>rfl) h2)
    ·cases h
  | Assign ts e p=>
   match ts,h with
   | [],h=>exact ak h
   | a::_::_,h=>cases a <;> exact ak h
   | [t],h=>
    cases t with
    | Name x px=>
     replace h:(match aV Γ x,cE aJ Γ e with|some i,bt e'=>bt (Sm.set i e')|_,_=>gV)=bt s':=h
     split at h
     ·rename_i i e' h1 h2;cases h;exact Ga K h1 h2
     ·cases h
    | Subscript o k q=>
     replace h:(if rW k then gV else match cE aJ Γ o,cE aJ Γ k,cE aJ Γ e with|some o',bt k',bt e'=>bt (Sm.put o' k' e')|_,_,_=>gV)=bt s':=h
     split at h
     ·cases h
     ·rename_i hc;split at h
      ·rename_i o' k' e' h1 h2 h3;cases h;show mx (aR _ K h3).1 (De (by have:=K.un; have:d8=20:=rfl; omega) (aR _ K h1).1 (aR _ K h2).1 ?_) (by cases e <;> rfl) (by cases e <;> rfl) rfl
       intro v;cases k <;> first|rfl|exact absurd rfl hc
      ·cases h
    | Tuple ts' k q=>
     have par:∀ {x y:Ks} {px py:L9} {a b:PySem.Expr} {k2:Kt} {q2:L9},(match Γ.N.findIdx? (· == x),Γ.N.findIdx? (· == y),cA (cE aJ Γ) [a,b]with
       | some i,bt j,bt es=>if !(i==j)&&(Γ.sc.lookup x==bt .local)&&(Γ.sc.lookup y==bt .local)&&(py.line==px.line) && !([a,b].all (foldedForSure 8)) && !([a,b].all (constantsAlone 8))then bt (Sm.par i j es)else gV
       | _,_,_=>gV)=bt s'->GS X (.Assign [.Tuple [.Name x px,.Name y py] k q] (.Tuple [a,b] k2 q2) p) (bN M fuel s'):=λ{x y px py a b k2 q2} h=>by
      split at h
      ·rename_i i j es h1 h2 h3;split at h
       ·rename_i hc;cases h;rw[Kj,Kj,Kj,Kj,Kj]at hc;obtain⟨⟨⟨⟨⟨c1,c2⟩,c3⟩,c4⟩,c5⟩,c6⟩:=hc;have hij:i≠j:=by simpa using c1
        have ns:=aZ h3;rw[La,La,Kj,Kj]at ns;have hi:X.N[i]?=bt x:=by rw[K.N]; exact a8 h1
        have hj:X.N[j]?=bt y:=by rw[K.N]; exact a8 h2
        show Dg K.calm hN hi hj hij (by rw[K.names]; exact eq_of_beq c2) (by rw[K.names]; exact eq_of_beq c3) (bH (λz=>(aR _ K z).1) h3) (oK K ?_ (eq_of_beq c2) (eq_of_beq c3) c4 (by rw[<- QH]; exact c5) (by rw[<- QH]; exact c6) ns.1 ns.2.1) rfl
        rintro rfl;rw[h1]at h2;cases h2;exact hij rfl
       ·cases h
      ·cases h
     replace h:(if isTup e then Du Γ ts' e else if iB e then gV else match Dt Γ ts',cE aJ Γ e with|some is,bt e'=>bt (Sm.asg is e')|_,_=>gV)=bt s':=h
     split at h
     ·unfold Du at h;split at h
      ·exact par h
      ·cases h
     ·split at h
      ·cases h
      ·rename_i hc1 hc2;split at h
       ·rename_i is e' h1 h2;cases h;show mx (aR _ K h2).1 (oH (tg:=.Tuple ts' k q) (t:=.tp is) K (by(dsimp only[cT]; simp[h1]))) (ki (t:=bt (.Tuple ts' k q)) (l:=p.line) (env:=X.env) (by simpa using hc2) _ h2) ?_ rfl
        cases e <;> first|rfl|exact absurd rfl hc1
       ·cases h
    | _=>exact ak h
  | _=>exact ak h
end
structure Df where
 ps:Kg Ks
 N:Kg Ks
 body:Ss
abbrev bc (N:Kg Ks)(ws:Kg W):Fm:=ws.map bt++Lm (N.length - ws.length) gV
abbrev aj (defs:Kg (Ks×Df))(fuel:Kt):Kt->Ks->FF
 | 0,_,_,_=>gV
 | d+1,f,ws,S=>match defs.lookup f with
  | some df=>if ws.length=df.ps.length then match bQ (aj defs fuel d) fuel df.body (bc df.N ws) S with
    | some (.rt w,S')=>bt (w,S')
    | some (.nx _,S')=>bt (.non,S')
    | _=>gV
   else gV
  | none=>gV
structure Md where
 fns:Kg (Ks×Kt)
 blt:Kg Ks
 cst:Kg (Ks×W)
 gds:Kg (Ks×Kg (Ks×W))
abbrev dZ (Mqa:Md)(st:LO)(N:Kg Ks):Gam:={ sc:=(ap st).names,N:=N,fns:=Mqa.fns,blt:=Mqa.blt,dfn:=true,own:=[],cst:=Mqa.cst,gds:=Mqa.gds }
abbrev Gb (Mqa:Md)(st:LO)(df:Df):Prop:=eR (cS 20 (dZ Mqa st df.N)) (aM st)=bt df.body
def b7 {K:Kr}{A:Kg Kn}{H:Hp}{ws:Kg W}{vs:Kg V}{N:Kg Ks}(r:RelL K A H ws vs):EnvRel K A H (bc N ws) (eB N vs):=by
 show#[by simp[bc,L2.eB,r.length],λi w h=>?_]
 unfold bc at h;unfold L2.eB
 by_cases hi:i < ws.length
 ·rw[Lk (by simpa using hi),K4]at h
  rw[Lk (by rw[Kv,<- r.length]; exact hi),K4]
  cases q:ws[i]? with
  | none=>rw[q]at h; cases h
  | some w'=>
   rw[q]at h;simp only[L5,K8]at h;subst h;obtain⟨v,h1,h2⟩:=r.get q;exact#[v,by rw[h1]; rfl,h2]
 ·rw[MS (by simpa using hi)]at h
  have:=Lc h;simp at this
section
variable{P:KF}{w:KS}{K:Kr}{mg:Ks->Kk Ki}{base:K7}
abbrev rX (P:KF)(w:KS)(K:Kr)(mg:Ks->Kk Ki)(base:K7)(Mqa:Md)(defs:Kg (Ks×Df))(fuel d:Kt):Prop:=
 ∀f n,Mqa.fns.lookup f=bt n->∃fa fd ps,FnOk P w K mg base jF (d+2) fa fd ps (spF w K n (aj defs fuel d f))/\mg f=bt (.ref fa)/\Lw K (.ref fa)=true/\Binds K fd ps []
structure MdOk (w:KS)(K:Kr)(mg:Ks->Kk Ki)(Mqa:Md):Prop where
 blt:∀y∈Mqa.blt,mg y=gV
 cst:∀X:Cx,X.w=w->X.K=K->X.mg=mg->∀x w,Mqa.cst.lookup x=bt w->wY X x w
 gds:∀X:Cx,X.w=w->X.K=K->X.mg=mg->∀x U,Mqa.gds.lookup x=bt U->qv X x U
def BA {Mqa:Md}{defs:Kg (Ks×Df)}{fuel d:Kt}{x qual:Ks}{st:LO}{f:Kn}{fd:Lv}{df:Df}(F:Fun K x qual st f fd)(S:FnScope df.N df.ps (ap st))(hd:defs.lookup x=bt df)(hc:Gb Mqa st df)
  (hb:MdOk w K mg Mqa) (prev:rX P w K mg base Mqa defs fuel d):FnOk P w K mg base jF (d+3) f fd df.ps (spF w K df.ps.length (aj defs fuel (d+1) x)):=by
 show F.ok S (λvs H Q E h=>?_) (λcdv A outer s H vs Q E hr h=>?_)
 ·obtain⟨A,S,ws,w',S',_,rl,hl,_⟩:=h;rw[<- rl.length]; exact hl
 ·obtain⟨A',St,ws,w',S',so,rl,hl,e,hq⟩:=h;have K':CtxOk (aj defs fuel d) (eC jF P w K mg base df.N qual (ap st) f cdv A outer s H E).nox (dZ Mqa st df.N):=by
   show#[rfl,S.kind,rfl,S.nd,rfl,Ol,?_,λ_ _=>rfl,λ_ h=>(nomatch h),hb.blt,hb.cst _ rfl rfl rfl,hb.gds _ rfl rfl rfl,λg n hg=>?_]
   ·have:=hr.un;show(A.deeper _).units+20 < cLine;omega
   ·obtain⟨fa,fd',ps',h1,h2,h3,h4⟩:=prev g n hg;exact#[d+2,fa,fd',ps',h1,hr,h2,h3,h4]
  show#[tS _ (bQ (aj defs fuel d) fuel df.body),dN (λz=>jk fuel K' 20 z) hc,?_]
  (dsimp only[aj]at e; simp only[hd]at e)
  rw[KQ hl]at e;split at e
  ·rename_i w1 S1 h1;cases e;show#[A',bc df.N ws,St,_,_,b7 rl,so,h1,#[λY' H' #[_,_,z,_,_,_]=>(by cases z),λv H' #[w2,A2,z0,z1,z2,z3]=>?_,λY' H' #[_,_,z,_,_,_]=>(by cases z),λY' H' #[_,_,z,_,_,_]=>(by cases z)]]
   cases z0;exact hq v H' #[A2,z1,z2,z3]
  ·rename_i Z1 S1 h1;cases e;show#[A',bc df.N ws,St,_,_,b7 rl,so,h1,#[λY' H' #[w2,A2,z0,z1,z2,z3]=>?_,λY' H' #[_,_,z,_,_,_]=>(by cases z),λY' H' #[_,_,z,_,_,_]=>(by cases z),λY' H' #[_,_,z,_,_,_]=>(by cases z)]]
   exact hq _ H' #[A2,z1,z2,.non]
  ·cases e
def ur {H:Hp}{a:Kn}{ns:Kg KD}(hO:vj H)(hS:SqL K H a (ns.map V.int)):StoreOk w K [a] H [.fro (ns.map W.int)]/\RelL K [a] H [.ref 0] [.ref a]:=by
 have rl:∀ns:Kg KD,RelL K [a] H (ns.map W.int) (ns.map V.int):=by
  intro ns
  induction ns with
  | nil=>exact .nil
  | cons n ns ih=>exact .cons .int ih
 have fr:FroL K H a (ns.map V.int):=by
  rcases hS with(h|⟨o,h⟩)|h
  ·rcases hO a with z|⟨o,xs,z⟩ <;> (rw[z]at h; cases h)
  ·exact .inl #[o,h]
  ·exact .inr h
 show#[#[rfl,λi j b o u e1 m1 e2 m2 _ _=>?_,λi o b e1 e2=>?_],.cons (.ref rfl) .nil]
 ·cases i with
  | zero=>simp at e1; subst e1; cases m1
  | succ i=>simp at e1
 ·cases i with
  | zero=>
   simp at e1 e2;subst e1 e2;exact#[_,fr,rl ns]
  | succ i=>simp at e1
def Dv {g:FF}{H:Hp}{a:Kn}{ns:Kg KD}(h:∃S',g [.ref 0] [.fro (ns.map W.int)]=bt (.bl true,S'))(hO:vj H)(hS:SqL K H a (ns.map V.int)):spF w K 1 g [.ref a] H (λv _=>v=.bl true) λ_ _ _=>Lj:=by
 obtain⟨S',e⟩:=h;obtain⟨so,rl⟩:=ur hO hS;exact#[[a],_,_,_,S',so,rl,rfl,e,λv H' #[A',z1,z2,z3]=>by cases z3; rfl]
end
end Mi
namespace Mi
open PySem PySem.Spec PyProof.Rows L2 Xc
abbrev rY (N:Kg Ks)(fs:FS):FF:=λws S=>match fs (bc N ws) S with
 | some (.rt w,S')=>bt (w,S')
 | some (.nx _,S')=>bt (.non,S')
 | _=>gV
abbrev BB (N:Kg Ks)(fx:FX):FW:=λws S=>fx (bc N ws) S
section
variable{P:KF}{w:KS}{K:Kr}{mg:Ks->Kk Ki}{base:K7}{cl:Cl}
def Dw {N ps:Kg Ks}{x qual:Ks}{st:LO}{f:Kn}{fd:Lv}{k:Kt}{fs:FS}{fx:FX}(F:Fun K x qual st f fd)(S:FnScope N ps (ap st))
  (body:∀(cdv:Ki) (A:K1) (outer:Kg Ov) (s:Km) (H:Hp) (E:L2.XK),Room k (A.deeper (envOfC qual (ap st) s.heap.objs.size f cdv))->Bv (eC (CXx P w) P w K mg base N qual (ap st) f cdv A outer s H E) cl E (aM st) fs fx) :
  FnOk P w K mg base (CXx P w) (k+1) f fd ps (spX w K cl ps.length (rY N fs) (BB N fx)):=by
 obtain⟨oc,od,kV,doc,pm,an,cdv,ct,osl,rfl,lk,hcd⟩:=F.ex;show Bb lk hcd S (λvs H Q E h=>?_) λA outer s H vs Q E hr hsp=>#[_,body cdv A outer s H E hr,?_]
 ·rcases h with⟨A,S,ws,w',S',_,rl,hl,_⟩|⟨A,S,ws,_,_,_,_,_,_,rl,hl,_⟩
  ·rw[<- rl.length]; exact hl
  ·rw[<- rl.length]; exact hl
 ·rcases hsp with⟨A',St,ws,w',S',so,rl,hl,e,hq⟩|⟨A',St,ws,cn,us,S',C,gs,so,rl,hl,e,hc,hq⟩
  ·apply Or.inl;unfold rY at e;split at e
   ·rename_i w1 S1 h1;cases e;show#[A',bc N ws,St,_,_,b7 rl,so,h1,#[λY' H' #[_,_,z,_,_,_]=>(by cases z),λv H' #[w2,A2,z0,z1,z2,z3]=>?_,λY' H' #[_,_,z,_,_,_]=>(by cases z),λY' H' #[_,_,z,_,_,_]=>(by cases z)]]
    cases z0;exact hq v H' #[A2,z1,z2,z3]
   ·rename_i Z1 S1 h1;cases e;show#[A',bc N ws,St,_,_,b7 rl,so,h1,#[λY' H' #[w2,A2,z0,z1,z2,z3]=>?_,λY' H' #[_,_,z,_,_,_]=>(by cases z),λY' H' #[_,_,z,_,_,_]=>(by cases z),λY' H' #[_,_,z,_,_,_]=>(by cases z)]]
    exact hq _ H' #[A2,z1,z2,.non]
   ·cases e
  ·exact .inr #[A',bc N ws,St,cn,us,S',C,gs,b7 rl,so,e,hc,hq]
def Am {N:Kg Ks}{qual:Ks}{scope:M1}{f:Kn}{cd:Ki}{A:K1}{outer:Kg Ov}{s0:Km}{H0:Hp}{E:L2.XK}:zU (eC (CXx P w) P w K mg base N qual scope f cd A outer s0 H0 E) E:=
 λ_ _ _ _ _ _ _ _ Yj q=>CJ Yj q
end
def Dy {P:KF}{w:KS}{K:Kr}{mg:Ks->Kk Ki}{base:K7}{N:Kg Ks}{qual:Ks}{scope:M1}{f:Kn}{cd:Ki}{A:K1}{outer:Kg Ov}{s0:Km}{H0:Hp}{E:L2.XK} :
  Ob (model P w) (eC (CXx P w) P w K mg base N qual scope f cd A outer s0 H0 E).A (eC (CXx P w) P w K mg base N qual scope f cd A outer s0 H0 E).env (eC (CXx P w) P w K mg base N qual scope f cd A outer s0 H0 E).xe:=Ts
abbrev dO (mi:MI)(g:FG)(b:FS)(bx:FX):Kt->Kt->FX
 | 0,_,_,_=>gV
 | n+1,i,Z,S=>match mi.at S i with
  | some (bt w)=>match g w Z S with
   | some (Z1,S1)=>match b Z1 S1 with
    | some (.nx Z2,S2)=>dO mi g b bx n (i+1) Z2 S2
    | some (.ct Z2,S2)=>dO mi g b bx n (i+1) Z2 S2
    | some _=>gV
    | none=>bx Z1 S1
   | none=>gV
  | _=>gV
abbrev rZ (fi:FI)(g:FG)(b:FS)(bx:FX):FX:=λZ S=>match fi Z S with
 | some (mi,S1)=>match mi.len S1 with
  | some n=>dO mi g b bx n 0 Z S1
  | none=>gV
 | none=>gV
def Dz {X:Cx}{cl:Cl}{Ew:L2.XK}{tg iter:KC}{body:Kg LO}{pos:L9}{fi:FI}{g:FG}{fb:FS}{fx:FX}(hp:Ob (model X.prog X.w) X.A X.env X.xe)(hc:X.calm=true)(hi:GI X tg iter fi)(hg:GG X tg g)(hb:Bv X cl Ew body fb fx)
  (hs:∀x,foldedSetIterable iter X.env x=pure x):GX X cl Ew (.For tg iter body [] pos) (ja fi g fb) (rZ fi g fb fx):=λJ s Y H D I q=>by
 show uY hp hc hi hg hb hs J s Y H D I ?_;rcases q with⟨A,Z,S,o,S',er,so,e,hd⟩|⟨A,Z,S,cn,ws,S',C,gs,er,so,e,hcl,q⟩
 ·unfold ja at e;split at e
  ·rename_i mi S1 h1;split at e
   ·rename_i n hn;show#[A,Z,S,mi,S1,er,so,h1,λtx H1 A1 z1 z2 mit=>?_]
    show#[λi m Y2 H2=>∃A2 Z2 S2,Ext X.K A1 H1 A2 H2/\EnvRel X.K A2 H2 Z2 Y2/\StoreOk X.w X.K A2 H2 S2/\bw mi g fb m i Z2 S2=bt (o,S'),#[n,A1,Z,S1,.refl,er.mono z1,z2,e],?_]
    rintro i m Y2 H2 ⟨A2,Z2,S2,e2,er2,so2,w2⟩;cases m with
    | zero=>
     dsimp only[bw]at w2;split at w2
     ·rename_i hs;cases w2;exact .inl #[mit.stop A2 H2 _ i e2 so2 hs,hd.nx _ _ #[_,A2,rfl,z1.trans e2,so2,er2]]
     ·cases w2
    | succ m=>
     dsimp only[bw]at w2;split at w2
     ·rename_i w hw;obtain⟨go,yl⟩:=mit.go A2 H2 S2 i w e2 so2 hw;show .inr #[go,λY3 H3=>∃A3 Z3 S3,Ext X.K A1 H1 A3 H3/\EnvRel X.K A3 H3 Z3 Y3/\StoreOk X.w X.K A3 H3 S3/\bw mi g fb m (i+1) Z3 S3=bt (o,S'),λY' H' h=>#[m,Ln _,h],λx H3 hy=>?_]
      obtain⟨x1,x2,x3⟩:=yl x H3 hy;split at w2
      ·rename_i Z3 S3 h3;show#[A2,Z2,S2,w,Z3,S3,er2.mono x1,x2,x3,h3,λY4 H4 A4 y1 y2 y3=>?_]
       have ex:Ext X.K A1 H1 A4 H4:=(e2.trans x1).trans y1;split at w2
       ·rename_i Z5 S5 h5;show .inl #[A4,Z3,S3,_,S5,y3,y2,h5,#[λY' H' #[Z',A',u0,u1,u2,u3]=>?_,λv H' #[w,A',y0,_,_,_]=>(by cases y0),λv H' #[w,A',y0,_,_,_]=>(by cases y0),λv H' #[w,A',y0,_,_,_]=>(by cases y0)]]
        cases u0;exact#[A',_,S5,ex.trans u1,u3,u2,w2]
       ·rename_i Z5 S5 h5;show .inl #[A4,Z3,S3,_,S5,y3,y2,h5,#[λv H' #[w,A',y0,_,_,_]=>(by cases y0),λv H' #[w,A',y0,_,_,_]=>(by cases y0),λv H' #[w,A',y0,_,_,_]=>(by cases y0),λY' H' #[Z',A',u0,u1,u2,u3]=>?_]]
        cases u0;exact#[A',_,S5,ex.trans u1,u3,u2,w2]
       ·rename_i Z5 S5 h5;cases w2;show .inl #[A4,Z3,S3,_,_,y3,y2,h5,#[λv H' #[w,A',y0,_,_,_]=>(by cases y0),λv H' #[w,A',y0,_,_,_]=>(by cases y0),λY' H' #[Z',A',u0,u1,u2,u3]=>?_,λv H' #[w,A',y0,_,_,_]=>(by cases y0)]]
        cases u0;exact hd.nx _ _ #[_,A',rfl,(z1.trans ex).trans u1,u2,u3]
       ·rename_i w5 S5 h5;cases w2;show .inl #[A4,Z3,S3,_,_,y3,y2,h5,#[λv H' #[w,A',y0,_,_,_]=>(by cases y0),λv H' #[w,A',u0,u1,u2,u3]=>?_,λv H' #[w,A',y0,_,_,_]=>(by cases y0),λv H' #[w,A',y0,_,_,_]=>(by cases y0)]]
        cases u0;exact hd.rt _ _ #[_,A',rfl,(z1.trans ex).trans u1,u2,u3]
       ·cases w2
      ·cases w2
     ·cases w2
   ·cases e
  ·cases e
 ·unfold rZ at e;split at e
  ·rename_i mi S1 h1;split at e
   ·rename_i n hn;show#[A,Z,S,mi,S1,er,so,h1,λtx H1 A1 z1 z2 mit=>?_]
    show#[λi m Y2 H2=>∃A2 Z2 S2,Ext X.K A1 H1 A2 H2/\EnvRel X.K A2 H2 Z2 Y2/\StoreOk X.w X.K A2 H2 S2/\dO mi g fb fx m i Z2 S2=bt (cn,ws,S'),#[n,A1,Z,S1,.refl,er.mono z1,z2,e],?_]
    rintro i m Y2 H2 ⟨A2,Z2,S2,e2,er2,so2,w2⟩;cases m with
    | zero=>cases w2
    | succ m=>
     dsimp only[dO]at w2;split at w2
     ·rename_i w hw;obtain⟨go,yl⟩:=mit.go A2 H2 S2 i w e2 so2 hw;show .inr #[go,λY3 H3=>∃A3 Z3 S3,Ext X.K A1 H1 A3 H3/\EnvRel X.K A3 H3 Z3 Y3/\StoreOk X.w X.K A3 H3 S3/\dO mi g fb fx m (i+1) Z3 S3=bt (cn,ws,S'),λY' H' h=>#[m,Ln _,h],λx H3 hy=>?_]
      obtain⟨x1,x2,x3⟩:=yl x H3 hy;split at w2
      ·rename_i Z3 S3 h3;show#[A2,Z2,S2,w,Z3,S3,er2.mono x1,x2,x3,h3,λY4 H4 A4 y1 y2 y3=>?_]
       have ex:Ext X.K A1 H1 A4 H4:=(e2.trans x1).trans y1;split at w2
       ·rename_i Z5 S5 h5;show .inl #[A4,Z3,S3,_,S5,y3,y2,h5,#[λY' H' #[Z',A',u0,u1,u2,u3]=>?_,λv H' #[w,A',y0,_,_,_]=>(by cases y0),λv H' #[w,A',y0,_,_,_]=>(by cases y0),λv H' #[w,A',y0,_,_,_]=>(by cases y0)]]
        cases u0;exact#[A',_,S5,ex.trans u1,u3,u2,w2]
       ·rename_i Z5 S5 h5;show .inl #[A4,Z3,S3,_,S5,y3,y2,h5,#[λv H' #[w,A',y0,_,_,_]=>(by cases y0),λv H' #[w,A',y0,_,_,_]=>(by cases y0),λv H' #[w,A',y0,_,_,_]=>(by cases y0),λY' H' #[Z',A',u0,u1,u2,u3]=>?_]]
        cases u0;exact#[A',_,S5,ex.trans u1,u3,u2,w2]
       ·cases w2
       ·exact .inr #[A4,Z3,S3,cn,ws,S',C,gs,y3,y2,w2,hcl,λcls dd H5 z=>q cls dd H5 ((z.after ex).after z1)]
      ·cases w2
     ·cases w2
   ·cases e
  ·cases e
end Mi
namespace Mi
open PySem PySem.Spec PyProof.Rows L2
abbrev Wp {α:Type}(o:Kk α)(Q:α->Prop):Prop:=∃a,o=bt a/\Q a
def ac {α:Type}{a:α}{Q:α->Prop}:Wp (bt a) Q↔Q a:=#[λ#[b,e,h]=>(by cases e; exact h),λh=>#[a,rfl,h]]
def af {α:Type}{Q:α->Prop}:Wp (gV:Kk α) Q↔Lj:=#[λ#[b,e,h]=>(by cases e),λh=>h.elim]
def Wp.mono {α:Type}{o:Kk α}{Q Q':α->Prop}(h:Wp o Q)(k:∀a,Q a->Q' a):Wp o Q':=let ⟨a,e,q⟩:=h; #[a,e,k a q]
def IR {α β:Type}{o:Kk α}{f:α->β}{Q:β->Prop}:Wp (o.map f) Q↔Wp o λa=>Q (f a):=by cases o <;> simp[ac,af]
section
variable{M:Ks->FF}{fuel:Kt}{Z:Fm}{S:aa}
noncomputable abbrev QW:=W×aa->Prop
def J0 {w:W}{Q:QW}:Wp (ar M (.c w) Z S) Q↔Q (w,S):=by(dsimp only[ar]; simp[fC,ac,af])
def JF {i:Kt}{Q:QW}:Wp (ar M (.v i) Z S) Q↔∃w,Z[i]?=bt (bt w)/\Q (w,S):=by
 (dsimp only[ar]; simp only[fV])
 rcases h:Z[i]? with _|_|w <;> simp[ac,af]
def xq {g:W->W->aa->Kk (W×aa)}{a b:FE}{Q:QW}:Wp (zF g a b Z S) Q↔Wp (a Z S) λp=>Wp (b Z p.2) λq=>Wp (g p.1 q.1 q.2) Q:=by
 unfold zF;rcases h:a Z S with _|⟨x,S1⟩
 ·simp[ac,af]
 ·rcases h2:b Z S1 with _|⟨y,S2⟩ <;> simp[ac,af,h2]
def IS {o:BOp}{a b:E}{Q:QW}:Wp (ar M (.op o a b) Z S) Q↔Wp (ar M a Z S) λp=>Wp (ar M b Z p.2) λq=>Wp (gh o p.1 q.1 q.2) Q:=by dsimp only[ar]; exact xq
def BC {o:COp}{a b:E}{Q:QW}:Wp (ar M (.cmp o a b) Z S) Q↔Wp (ar M a Z S) λp=>Wp (ar M b Z p.2) λq=>Wp (dv o p.1 q.1 q.2) Q:=by dsimp only[ar]; exact xq
def IT {a b:E}{Q:QW}:Wp (ar M (.ix a b) Z S) Q↔Wp (ar M a Z S) λp=>Wp (ar M b Z p.2) λq=>Wp (nq p.1 q.1 q.2) Q:=by dsimp only[ar]; exact xq
def Gc {a b:E}{Q:QW}:Wp (ar M (.and a b) Z S) Q↔Wp (ar M a Z S) λp=>∃k,p.1=.bl k/\(k=true->Wp (ar M b Z p.2) Q)/\(k=false->Q (.bl false,p.2)):=by
 (dsimp only[ar]; dsimp only[rG])
 rcases h:ar M a Z S with _|⟨x,S1⟩
 ·simp[ac,af]
 ·cases x <;> simp[ac,af]
  rename_i b; cases b <;> simp[ac,af]
def IU {a b:E}{Q:QW}:Wp (ar M (.or a b) Z S) Q↔Wp (ar M a Z S) λp=>∃k,p.1=.bl k/\(k=true->Q (.bl true,p.2))/\(k=false->Wp (ar M b Z p.2) Q):=by
 (dsimp only[ar]; dsimp only[zI])
 rcases h:ar M a Z S with _|⟨x,S1⟩
 ·simp[ac,af]
 ·cases x <;> simp[ac,af]
  rename_i b; cases b <;> simp[ac,af]
def Gd {a:E}{Q:QW}:Wp (ar M (.not a) Z S) Q↔Wp (ar M a Z S) λp=>∃k,p.1=.bl k/\Q (.bl (!k),p.2):=by
 (dsimp only[ar]; dsimp only[rH])
 rcases h:ar M a Z S with _|⟨x,S1⟩
 ·simp[ac,af]
 ·cases x <;> simp[ac,af]
  rename_i k; cases k <;> simp
def Ge {t a b:E}{Q:QW}:Wp (ar M (.ite t a b) Z S) Q↔Wp (bE M t Z S) λp=>(p.1=true->Wp (ar M a Z p.2) Q)/\(p.1=false->Wp (ar M b Z p.2) Q):=by
 (dsimp only[ar]; simp only[zJ])
 rcases h:bE M t Z S with _|⟨x,S1⟩
 ·simp[ac,af]
 ·cases x <;> simp[ac,af]
def BE {f:Ks}{n:Kt}{es:Es}{Q:QW}:Wp (ar M (.own f n es) Z S) Q↔Wp (bg M es Z S) λp=>p.1.length=n/\Wp (M f p.1 p.2) Q:=by
 (dsimp only[ar]; dsimp only[dI])
 rcases h:bg M es Z S with _|⟨x,S1⟩
 ·simp[ac,af]
 ·by_cases hl:x.length=n <;> simp[ac,af,hl]
def Gg {b:Bi}{es:Es}{Q:QW}:Wp (ar M (.bi b es) Z S) Q↔Wp (bg M es Z S) λp=>Wp (b.fn p.1 p.2) Q:=by
 (dsimp only[ar]; dsimp only[iS])
 rcases h:bg M es Z S with _|⟨x,S1⟩ <;> simp[ac,af]
def IV {m:Me}{o:E}{es:Es}{Q:QW}:Wp (ar M (.me m o es) Z S) Q↔Wp (ar M o Z S) λp=>tyOk m.ty p.2 p.1=true/\Wp (bg M es Z p.2) λq=>Wp (m.fn p.1 q.1 q.2) Q:=by
 (dsimp only[ar]; dsimp only[Bt])
 rcases h:ar M o Z S with _|⟨x,S1⟩
 ·simp[ac,af]
 ·by_cases ht:tyOk m.ty S1 x=true
  ·rcases h2:bg M es Z S1 with _|⟨y,S2⟩ <;> simp[ac,af,ht,h2]
  ·simp[ac,af,ht]
def IW {a:E}{lo hi:Ep}{Q:QW}:Wp (ar M (.sl a lo hi) Z S) Q↔Wp (ar M a Z S) λp=>Wp (rP M lo Z p.2) λq=>Wp (rP M hi Z q.2) λr=>Wp (md p.1 q.1 r.1 r.2) Q:=by
 (dsimp only[ar]; dsimp only[FP])
 rcases h:ar M a Z S with _|⟨x,S1⟩
 ·simp[ac,af]
 ·rcases h2:rP M lo Z S1 with _|⟨y,S2⟩
  ·simp[ac,af,h2]
  ·rcases h3:rP M hi Z S2 with _|⟨z,S3⟩ <;> simp[ac,af,h2,h3]
def IX {Q:Kk KD×aa->Prop}:Wp (rP M .no Z S) Q↔Q (gV,S):=by(dsimp only[rP]; simp[C7,ac,af])
def Gh {a:E}{Q:Kk KD×aa->Prop}:Wp (rP M (.yes a) Z S) Q↔Wp (ar M a Z S) λp=>∃i,p.1=.int i/\Q (bt i,p.2):=by
 (dsimp only[rP]; simp only[rK])
 rcases h:ar M a Z S with _|⟨x,S1⟩
 ·simp[ac,af]
 ·cases x <;> simp[ac,af]
def Gi {es:Es}{Q:QW}:Wp (ar M (.tup es) Z S) Q↔Wp (bg M es Z S) λp=>p.1.length<=sizeLine/\Q (.tup p.1,p.2):=by
 (dsimp only[ar]; (dsimp only[t8]; simp only[l9]))
 rcases h:bg M es Z S with _|⟨x,S1⟩
 ·simp[ac,af]
 ·by_cases hl:x.length<=sizeLine <;> simp[ac,af,hl]
def Gj {es:Es}{Q:QW}:Wp (ar M (.lst es) Z S) Q↔Wp (bg M es Z S) λp=>p.1.length<=sizeLine/\Q (.ref p.2.length,p.2++[.lst p.1]):=by
 (dsimp only[ar]; (dsimp only[wn]; simp only[l8]))
 rcases h:bg M es Z S with _|⟨x,S1⟩
 ·simp[ac,af]
 ·by_cases hl:x.length<=sizeLine <;> simp[ac,af,hl]
def BF {c:LR}{a:E}{Q:QW}:Wp (ar M (.isi c a) Z S) Q↔Wp (ar M a Z S) λp=>∃k,pk p.2 p.1 c=bt k/\Q (.bl k,p.2):=by
 (dsimp only[ar]; simp only[wD])
 rcases h:ar M a Z S with _|⟨x,S1⟩
 ·simp[ac,af]
 ·cases h2:pk S1 x c <;> simp[ac,af,h2]
  rename_i k; cases k <;> simp
def Gk {a:E}{Q:QW}:Wp (ar M (.neg a) Z S) Q↔Wp (ar M a Z S) λp=>∃i,p.1=.int i/\Q (.int (-i),p.2):=by
 (dsimp only[ar]; simp only[v7])
 rcases h:ar M a Z S with _|⟨x,S1⟩
 ·simp[ac,af]
 ·cases x <;> simp[ac,af]
def DA {es:Es}{Q:QW}:Wp (ar M (.disp es) Z S) Q↔Wp (bg M es Z (S++[.dis []])) λp=>p.2[S.length]?=bt (.dis [])/\∃U,lD p.1=bt U/\((U.map (·.1)).Nodup/\U.length<=15)/\Q (.ref S.length,p.2.set S.length (.dis U)):=by
 have e:ar M (.disp es) Z S=om (bg M es) Z S:=by dsimp only[ar]
 rw[e];unfold om;cases bg M es Z (S++[.dis []])with
 | none=>simp[af]
 | some p=>
  obtain⟨x,S1⟩:=p;simp only[ac];constructor
  ·intro h;split at h
   ·rename_i h1;split at h
    ·rename_i U h2;split at h
     ·rename_i h3;rw[ac]at h;exact#[h1,U,h2,h3,h]
     ·exact(af.mp h).elim
    ·exact(af.mp h).elim
   ·exact(af.mp h).elim
  ·rintro⟨h1,U,h2,h3,q⟩;rw[h1,h2];dsimp only;rw[KQ h3,ac];exact q
def Gm {U:Kg (Ks×W)}{b:E}{Q:QW}:Wp (ar M (.gix U b) Z S) Q↔Wp (ar M b Z S) λp=>∃k w,p.1=.str k/\U.lookup k=bt w/\Q (w,p.2):=by
 (dsimp only[ar]; simp only[wW])
 rcases h:ar M b Z S with _|⟨x,S1⟩
 ·simp[ac,af]
 ·cases x with
  | str k=>cases h2:U.lookup k <;> simp[ac,af,h2]
  | _=>simp[ac,af]
def Gn {U:Kg (Ks×W)}{b:E}{Q:QW}:Wp (ar M (.gni U b) Z S) Q↔Wp (ar M b Z S) λp=>∃k,p.1=.str k/\Q (.bl (!(U.lookup k).isSome),p.2):=by
 (dsimp only[ar]; simp only[oB])
 rcases h:ar M b Z S with _|⟨x,S1⟩
 ·simp[ac,af]
 ·cases x <;> simp[ac,af]
def Go {U:Kg (Ks×W)}{b:E}{Q:KR×aa->Prop}:Wp (bE M (.gni U b) Z S) Q↔Wp (ar M b Z S) λp=>∃k,p.1=.str k/\Q (!(U.lookup k).isSome,p.2):=by
 (dsimp only[bE]; simp only[gl,oB])
 rcases h:ar M b Z S with _|⟨x,S1⟩
 ·simp[ac,af]
 ·cases x <;> simp[ac,af]
def BG {o o':COp}{a b d:E}{Q:QW}(h:Wp (ar M a Z S) λp=>Wp (ar M b Z p.2) λq=>∃k,yy o p.1 q.1 q.2=bt k/\(k=true->Wp (ar M d Z q.2) λr=>Wp (fL o' q.1 r.1 r.2) Q)/\(k=false->Q (.bl false,q.2))):Wp (ar M (.chn o o' a b d) Z S) Q:=by
 obtain⟨⟨x,S1⟩,e1,⟨y,S2⟩,e2,k,e3,h1,h2⟩:=h;have e:ar M (.chn o o' a b d) Z S=eM o o' (ar M a) (ar M b) (ar M d) Z S:=by dsimp only[ar]
 rw[e];unfold eM;rw[e1];dsimp only;rw[e2];dsimp only;rw[e3];cases k with
 | false=>exact#[_,rfl,h2 rfl]
 | true=>
  obtain⟨⟨z,S3⟩,e4,⟨r,e5,q⟩⟩:=h1 rfl;dsimp only;rw[e4];exact#[_,e5,q]
def Gp {Q:Kg W×aa->Prop}:Wp (bg M .nil Z S) Q↔Q ([],S):=by(dsimp only[bg]; (dsimp only[gM]; simp[ac,af]))
def DB {e:E}{es:Es}{Q:Kg W×aa->Prop}:Wp (bg M (.cons e es) Z S) Q↔Wp (ar M e Z S) λp=>Wp (bg M es Z p.2) λq=>Q (p.1::q.1,q.2):=by
 (dsimp only[bg]; dsimp only[cH])
 rcases h:ar M e Z S with _|⟨x,S1⟩
 ·simp[ac,af]
 ·rcases h2:bg M es Z S1 with _|⟨y,S2⟩ <;> simp[ac,af,h2]
noncomputable abbrev QB:=KR×aa->Prop
def BH {f:FE}{Q:QB}:Wp (gl f Z S) Q↔Wp (f Z S) λp=>∃k,p.1=.bl k/\Q (k,p.2):=by
 unfold gl;rcases h:f Z S with _|⟨x,S1⟩
 ·simp[ac,af]
 ·cases x <;> simp[ac,af]
  rename_i k; cases k <;> simp
def r6 {f:FE}{Q:QB}:Wp (dy f Z S) Q↔Wp (f Z S) λp=>∃k,eI p.2 p.1=bt k/\Q (k,p.2):=by
 unfold dy;rcases h:f Z S with _|⟨x,S1⟩
 ·simp[ac,af]
 ·cases h2:eI S1 x <;> simp[ac,af,h2]
  rename_i k; cases k <;> simp
def Gq {o:COp}{a b:E}{Q:QB}:Wp (bE M (.cmp o a b) Z S) Q↔Wp (ar M (.cmp o a b) Z S) λp=>∃k,p.1=.bl k/\Q (k,p.2):=by dsimp only[bE,ar]; exact BH
def Gr {o o':COp}{a b d:E}{Q:QB}:Wp (bE M (.chn o o' a b d) Z S) Q↔Wp (ar M (.chn o o' a b d) Z S) λp=>∃k,p.1=.bl k/\Q (k,p.2):=by dsimp only[bE,ar]; exact BH
def Gs {a b:E}{Q:QB}:Wp (bE M (.and a b) Z S) Q↔Wp (bE M a Z S) λp=>(p.1=true->Wp (bE M b Z p.2) Q)/\(p.1=false->Q (false,p.2)):=by
 (dsimp only[bE]; simp only[wb])
 rcases h:bE M a Z S with _|⟨x,S1⟩
 ·simp[ac,af]
 ·cases x <;> simp[ac,af]
def IY {a b:E}{Q:QB}:Wp (bE M (.or a b) Z S) Q↔Wp (bE M a Z S) λp=>(p.1=true->Q (true,p.2))/\(p.1=false->Wp (bE M b Z p.2) Q):=by
 (dsimp only[bE]; simp only[FN])
 rcases h:bE M a Z S with _|⟨x,S1⟩
 ·simp[ac,af]
 ·cases x <;> simp[ac,af]
def Gu {a:E}{Q:QB}:Wp (bE M (.not a) Z S) Q↔Wp (bE M a Z S) λp=>Q (!p.1,p.2):=by
 (dsimp only[bE]; simp only[zG])
 rcases h:bE M a Z S with _|⟨x,S1⟩ <;> simp[ac,af]
def td {i:Kt}{Q:QB}:Wp (bE M (.v i) Z S) Q↔Wp (ar M (.v i) Z S) λp=>∃k,eI p.2 p.1=bt k/\Q (k,p.2):=by dsimp only[bE,ar]; exact r6
def Gv {f:Ks}{n:Kt}{es:Es}{Q:QB}:Wp (bE M (.own f n es) Z S) Q↔Wp (ar M (.own f n es) Z S) λp=>∃k,eI p.2 p.1=bt k/\Q (k,p.2):=by dsimp only[bE,ar]; exact r6
def IZ {b:Bi}{es:Es}{Q:QB}:Wp (bE M (.bi b es) Z S) Q↔Wp (ar M (.bi b es) Z S) λp=>∃k,eI p.2 p.1=bt k/\Q (k,p.2):=by dsimp only[bE,ar]; exact r6
def Gw {c:LR}{a:E}{Q:QB}:Wp (bE M (.isi c a) Z S) Q↔Wp (ar M (.isi c a) Z S) λp=>∃k,eI p.2 p.1=bt k/\Q (k,p.2):=by dsimp only[bE,ar]; exact r6
noncomputable abbrev QO:=Out×aa->Prop
def Gx {Q:QO}:Wp (bQ M fuel .nil Z S) Q↔Q (.nx Z,S):=by(dsimp only[bQ]; simp[ac,af])
def DC {s:Sm}{ss:Ss}{Q:QO}:Wp (bQ M fuel (.cons s ss) Z S) Q↔Wp (bN M fuel s Z S) λp=>(∀Z',p.1=.nx Z'->Wp (bQ M fuel ss Z' p.2) Q)/\((∀Z',p.1≠.nx Z')->Q p):=by
 (dsimp only[bQ]; simp only[iZ])
 rcases h:bN M fuel s Z S with _|⟨o,S1⟩
 ·simp[ac,af]
 ·cases o <;> simp[ac,af]
def xr {f:FE}{g:FG}{Q:QO}:Wp (dJ f g Z S) Q↔Wp (f Z S) λp=>Wp (g p.1 Z p.2) λq=>Q (.nx q.1,q.2):=by
 unfold dJ;rcases h:f Z S with _|⟨x,S1⟩
 ·simp[ac,af]
 ·rcases h2:g x Z S1 with _|⟨y,S2⟩ <;> simp[ac,af,h2]
def DD {i:Kt}{e:E}{Q:QO}:Wp (bN M fuel (.set i e) Z S) Q↔Wp (ar M e Z S) λp=>Q (.nx (Z.set i (bt p.1)),p.2):=by
 dsimp only[bN]; rw[xr]; simp[zQ,ac,af]
def DE {is:Kg Kt}{e:E}{Q:QO}:Wp (bN M fuel (.asg is e) Z S) Q↔Wp (ar M e Z S) λp=>∃ws Z',p.1=.tup ws/\gm is ws Z=bt Z'/\Q (.nx Z',p.2):=by
 dsimp only[bN]; rw[xr]
 constructor
 ·show λh=>h.mono λp hp=>?_
  obtain⟨w,S1⟩:=p;obtain⟨q,h1,h2⟩:=hp;cases w with
  | tup ws=>
   simp only[Dc,Ko]at h1;obtain⟨Z',h3,rfl⟩:=h1;exact#[ws,Z',rfl,h3,h2]
  | _=>cases h1
 ·show λh=>h.mono λp hp=>?_
  obtain⟨w,S1⟩:=p;obtain⟨ws,Z',h0,h1,h2⟩:=hp;subst h0;exact#[(Z',S1),by simp[Dc,h1],h2]
def DF {i j:Kt}{es:Es}{Q:QO}:Wp (bN M fuel (.par i j es) Z S) Q↔Wp (bg M es Z S) λp=>∃x y,p.1=[x,y]/\Q (.nx ((Z.set i (bt x)).set j (bt y)),p.2):=by
 (dsimp only[bN]; dsimp only[ww])
 rcases h:bg M es Z S with _|⟨x,S1⟩
 ·simp[af]
 ·match x with
  | []=>simp[ac,af]
  | [_]=>simp[ac,af]
  | [a,b]=>
   simp only[ac];exact#[λh=>#[a,b,rfl,h],λ#[x,y,e,h]=>by cases e; exact h]
  | _::_::_::_=>simp[ac,af]
def DH {o k e:E}{Q:QO}:Wp (bN M fuel (.put o k e) Z S) Q↔Wp (ar M e Z S) λp=>Wp (ar M o Z p.2) λq=>Wp (ar M k Z q.2) λr=>∃S',qb q.1 r.1 p.1 r.2=bt S'/\Q (.nx Z,S'):=by
 dsimp only[bN]; rw[xr]
 rcases h:ar M e Z S with _|⟨x,S1⟩
 ·simp[ac,af]
 ·simp only[ac];unfold zR;rcases h2:ar M o Z S1 with _|⟨y,S2⟩
  ·simp[ac,af]
  ·rcases h3:ar M k Z S2 with _|⟨z,S3⟩
   ·simp[ac,af,h3]
   ·cases h4:qb y z x S3 <;> simp[ac,af,h3,h4]
def Gy {e:E}{Q:QO}:Wp (bN M fuel (.ex e) Z S) Q↔Wp (ar M e Z S) λp=>Q (.nx Z,p.2):=by
 (dsimp only[bN]; simp only[n0])
 rcases h:ar M e Z S with _|⟨x,S1⟩ <;> simp[ac,af]
def DI {e:E}{Q:QO}:Wp (bN M fuel (.ret e) Z S) Q↔Wp (ar M e Z S) λp=>Q (.rt p.1,p.2):=by
 (dsimp only[bN]; simp only[n4])
 rcases h:ar M e Z S with _|⟨x,S1⟩ <;> simp[ac,af]
def DJ {t:E}{a b:Ss}{Q:QO}:Wp (bN M fuel (.ite t a b) Z S) Q↔Wp (bE M t Z S) λp=>(p.1=true->Wp (bQ M fuel a Z p.2) Q)/\(p.1=false->Wp (bQ M fuel b Z p.2) Q):=by
 (dsimp only[bN]; simp only[gO])
 rcases h:bE M t Z S with _|⟨x,S1⟩
 ·simp[ac,af]
 ·cases x <;> simp[ac,af]
abbrev xu (I:Fm->aa->Prop)(Q:QO)(o:Out×aa):Prop:=match o.1 with
 | .nx Z'=>I Z' o.2
 | .ct Z'=>I Z' o.2
 | .bk Z'=>Q (.nx Z',o.2)
 | .rt w=>Q (.rt w,o.2)
def iC {mi:MI}{g:FG}{b:FS}{xs:Kg W}{Q:QO}(I:Kt->Fm->aa->Prop)(hat:∀i Z S,I i Z S->mi.at S i=bt xs[i]?)
  (hstep:∀i w Z S,xs[i]?=bt w->I i Z S->Wp (g w Z S) λq=>Wp (b q.1 q.2) (xu (I (i+1)) Q)) (hend:∀Z S,I xs.length Z S->Q (.nx Z,S)):∀(n i:Kt) (Z:Fm) (S:aa),i+n=xs.length->I i Z S->Wp (bw mi g b n i Z S) Q
 | 0,i,Z,S,hl,hI=>by
  have e:mi.at S i=bt gV:=by rw[hat i Z S hI,Nu ∅]
  simp only[bw,e];have hi:i=xs.length:=∅
  exact ac.mpr (hend Z S (hi ▸ hI))
 | n+1,i,Z,S,hl,hI=>by
  have hi:i < xs.length:=∅
  have e:mi.at S i=bt (bt xs[i]):=by rw[hat i Z S hI,KT hi]
  obtain⟨⟨Z1,S1⟩,h1,⟨o,S2⟩,h2,h3⟩:=hstep i xs[i] Z S (KT hi) hI;simp only[bw,e,h1,h2];cases o with
  | nx Z2=>exact iC I hat hstep hend n (i+1) Z2 S2 ∅ h3
  | ct Z2=>exact iC I hat hstep hend n (i+1) Z2 S2 ∅ h3
  | bk Z2=>exact ac.mpr h3
  | rt w=>exact ac.mpr h3
def Gz {fi:FI}{g:FG}{b:FS}{Q:QO}:Wp (ja fi g b Z S) Q↔Wp (fi Z S) λp=>∃n,p.1.len p.2=bt n/\Wp (bw p.1 g b n 0 Z p.2) Q:=by
 unfold ja;rcases h:fi Z S with _|⟨mi,S1⟩
 ·simp[af]
 ·cases h2:mi.len S1 <;> simp[ac,af,h2]
def cy {mi:MI}{g:FG}{c:FT}{f:FE}{xs:Kg W}{Q:Kg W×aa->Prop}(I:Kt->Kg W->Fm->aa->Prop)(hat:∀i ys Z S,I i ys Z S->mi.at S i=bt xs[i]?)
  (hstep:∀i w ys Z S,xs[i]?=bt w->I i ys Z S->Wp (g w Z S) λq=>Wp (c q.1 q.2) λk=>(k.1=true->Wp (f q.1 k.2) λy=>I (i+1) (ys++[y.1]) q.1 y.2)/\(k.1=false->I (i+1) ys q.1 k.2))
  (hend:∀ys Z S,I xs.length ys Z S->Q (ys,S)):∀(n i:Kt) (ys:Kg W) (Z:Fm) (S:aa),i+n=xs.length->I i ys Z S->Wp (aY mi g c f n i Z S) λp=>Q (ys++p.1,p.2)
 | 0,i,ys,Z,S,hl,hI=>by
  have e:mi.at S i=bt gV:=by rw[hat i ys Z S hI,Nu ∅]
  simp only[aY,e];show ac.mpr ?_;have:i=xs.length:=∅
  simpa using hend ys Z S (this ▸ hI)
 | n+1,i,ys,Z,S,hl,hI=>by
  have hi:i < xs.length:=∅
  have e:mi.at S i=bt (bt xs[i]):=by rw[hat i ys Z S hI,KT hi]
  obtain⟨⟨Z1,S1⟩,h1,⟨k,S2⟩,h2,h3,h4⟩:=hstep i xs[i] ys Z S (KT hi) hI;simp only[aY,e,h1,h2];cases k with
  | true=>
   obtain⟨⟨y,S3⟩,h5,h6⟩:=h3 rfl;simp only[h5];obtain⟨⟨zs,S4⟩,h7,h8⟩:=cy I hat hstep hend n (i+1) (ys++[y]) Z1 S3 ∅ h6
   simp only[h7];exact ac.mpr (by simpa using h8)
  | false=>exact cy I hat hstep hend n (i+1) ys Z1 S2 ∅ (h4 rfl)
def xw {elt:E}{tg:Tg}{it:Ie}{cs:Es}{cap:Kg (Kk Kt)}{Q:QW}:Wp (ar M (.comp elt tg it cs cap) Z S) Q↔Wp (lH M it Z S) λp=>∃n,p.1.len p.2=bt n/\Wp (aY p.1 (ul tg) (Ah M cs) (ar M elt) n 0 (eP cap Z) p.2) λq=>q.1.length<=sizeLine/\Q (.ref q.2.length,q.2++[.lst q.1]):=by
 (dsimp only[ar]; simp only[j3,l8])
 rcases h:lH M it Z S with _|⟨mi,S1⟩
 ·simp[af]
 ·rcases h2:mi.len S1 with _|n
  ·simp[ac,af,h2]
  ·rcases h3:aY mi (ul tg) (Ah M cs) (ar M elt) n 0 (eP cap Z) S1 with _|⟨ys,S2⟩
   ·simp[ac,af,h2,h3]
   ·by_cases hl:ys.length<=sizeLine <;> simp[ac,af,h2,h3,hl]
def GB {Q:QB}:Wp (Ah M .nil Z S) Q↔Q (true,S):=by(dsimp only[Ah]; simp[Bw,ac])
def GC {e:E}{Q:QB}:Wp (Ah M #v[e] Z S) Q↔Wp (bE M e Z S) Q:=by dsimp only[Ah]; exact Iff.rfl
def km {c:FT}{b:FS}{Q:QO}(I:Kt->Fm->aa->Prop)(hstep:∀m Z S,I m Z S->Wp (c Z S) λk=>(k.1=true->∃m',m=m'+1/\Wp (b Z k.2) (xu (I m') Q))/\(k.1=false->Q (.nx Z,k.2))) :
  ∀(n m:Kt) (Z:Fm) (S:aa),m < n->I m Z S->Wp (my c b n Z S) Q
 | 0,m,Z,S,h,_=>∅
 | n+1,m,Z,S,h,hI=>by
  obtain⟨⟨k,S1⟩,h1,h2,h3⟩:=hstep m Z S hI;simp only[my,h1];cases k with
  | false=>exact ac.mpr (h3 rfl)
  | true=>
   obtain⟨m',rfl,⟨o,S2⟩,h5,h6⟩:=h2 rfl;simp only[h5];cases o with
   | nx Z2=>exact km I hstep n m' Z2 S2 ∅ h6
   | ct Z2=>exact km I hstep n m' Z2 S2 ∅ h6
   | bk Z2=>exact ac.mpr h6
   | rt w=>exact ac.mpr h6
def ut {defs:Kg (Ks×Df)}{d:Kt}{f:Ks}{ws:Kg W}{df:Df}{Q:QW}(h:defs.lookup f=bt df)(hl:ws.length=df.ps.length)
  (hb:Wp (bQ (aj defs fuel d) fuel df.body (bc df.N ws) S) λp=>match p.1 with|.rt w=>Q (w,p.2)|.nx _=>Q (.non,p.2)|_=>Lj):Wp (aj defs fuel (d+1) f ws S) Q:=by
 obtain⟨⟨o,S1⟩,h1,h2⟩:=hb;simp only[aj,h,KQ hl,h1];cases o with
 | rt w=>exact ac.mpr h2
 | nx Z=>exact ac.mpr h2
 | bk _=>exact h2.elim
 | ct _=>exact h2.elim
end
section
variable{S:aa}{Q:QW}
def bn {a b:KD}:gh .add (.int a) (.int b) S=bt (.int (a+b),S):=rfl
def lJ {a b:KD}:gh .sub (.int a) (.int b) S=bt (.int (a - b),S):=rfl
def mI {c:KD->KD->KR}{f:KD->KD->KD}{i j:KD}(h:c i j=true):yw c f (.int i) (.int j) S=bt (.int (f i j),S):=by
 unfold yw;dsimp only;rw[KQ h]
def xy {a b:KD}(h : -(2 ^ 64) < b)(h2:b < 2 ^ 64):gh .mul (.int a) (.int b) S=bt (.int (a*b),S):=mI (c:=tu) (f:=(· * ·)) (by
 unfold tu;simp only[Ms,Kj,KN];exact .inr #[h,h2])
def oM {a b:KD}(h:0 < b):gh .mod (.int a) (.int b) S=bt (.int (a % b),S):=mI (c:=λ_ j=>decide (0 < j)) (f:=(· % ·)) (Lp h)
def xz {a b:KD}(h:0 < b)(h2:b < 1073741824):gh .fdiv (.int a) (.int b) S=bt (.int (a / b),S):=mI (c:=λ_ j=>zm j) (f:=(· / ·)) (by
 unfold zm;simp only[Kj,KN];exact#[h,h2])
def DL:gh .pow (.int 10) (.int 18) S=bt (.int 1000000000000000000,S):=rfl
def xA {x y:Ks}(h:x.length+y.length<=sizeLine):gh .add (.str x) (.str y) S=bt (.str (x++y),S):=by simp only[gh,tz]; rw[KQ h]
def eS {xs ys:Kg W}(h:(xs++ys).length<=sizeLine):gh .add (.tup xs) (.tup ys) S=bt (.tup (xs++ys),S):=by simp only[gh,tz,l9]; rw[KQ h]
def mJ {i j:Kt}{xs ys:Kg W}(h1:S[i]?=bt (.lst xs))(h2:S[j]?=bt (.lst ys))(h:(xs++ys).length<=sizeLine):gh .add (.ref i) (.ref j) S=bt (.ref S.length,S++[.lst (xs++ys)]):=by
 simp only[gh,tz,nk,h1,h2,l8]; rw[KQ h]
def iD {a b:KD}:dv .eq (.int a) (.int b) S=bt (.bl (a==b),S):=rfl
def Ja {a b:KD}:dv .ne (.int a) (.int b) S=bt (.bl (!(a==b)),S):=rfl
def uu {a b:KD}:dv .lt (.int a) (.int b) S=bt (.bl (decide (a < b)),S):=rfl
def An {a b:KD}:dv .gt (.int a) (.int b) S=bt (.bl (decide (a > b)),S):=rfl
def Jb {a b:KD}:dv .ge (.int a) (.int b) S=bt (.bl (decide (a>=b)),S):=rfl
def GD {a b:Ks}:dv .eq (.str a) (.str b) S=bt (.bl (a==b),S):=rfl
def GF {a b:Ks}:dv .ne (.str a) (.str b) S=bt (.bl (!(a==b)),S):=rfl
def aP {r:Kt}{xs:Kg W}(h:S[r]?=bt (.lst xs)):gF S r=bt xs:=by simp[gF,h]
def Ao {r:Kt}{xs:Kg W}(h:S[r]?=bt (.fro xs)):gF S r=bt xs:=by simp[gF,h]
def dP {r:Kt}{xs:Kg W}(h:S[r]?=bt (.lst xs)):nk S r=bt xs:=by simp[nk,h]
def r8 {r:Kt}{xs:Kg W}(h:S[r]?=bt (.lst xs)):CS S r=gV:=by simp[CS,h]
def atI_nat {α:Type}{xs:Kg α}{j:Kt}{w:α}(h:xs[j]?=bt w):pg xs (j:KD)=bt w:=by
 have hl:=(KB.mp h).1;unfold pg uM;rw[KQ (MA j),KQ (by exact_mod_cast hl)]
 simpa using h
def mK {α:Type}{xs:Kg α}{i:KD}{w:α}(h0:0<=i)(h:xs[i.toNat]?=bt w):pg xs i=bt w:=by
 have:=atI_nat h
 rwa [NI h0]at this
def xB {r:Kt}{xs:Kg W}{i:KD}{w:W}(h:S[r]?=bt (.lst xs))(h0:0<=i)(hw:xs[i.toNat]?=bt w):nq (.ref r) (.int i) S=bt (w,S):=by
 change uN (.ref r) (.int i) S=_;simp[uN,aP h,mK h0 hw]
def dC {xs:Kg W}{i:KD}{w:W}(h0:0<=i)(hw:xs[i.toNat]?=bt w):nq (.tup xs) (.int i) S=bt (w,S):=by
 change uN (.tup xs) (.int i) S=_;simp[uN,mK h0 hw]
def BI {x:Ks}{i:KD}{c:Kt}(hz:x.length<=sizeLine)(h0:0<=i)(hw:x.cps.toList[i.toNat]?=bt c):nq (.str x) (.int i) S=bt (.str #[[c].toArray],S):=by
 change uN (.str x) (.int i) S=_;simp[uN,hz,mK h0 hw]
def GH {r:Kt}{xs:Kg W}{i:KD}{w:W}(h:S[r]?=bt (.lst xs))(h0:0<=i)(hi:i.toNat < xs.length):qb (.ref r) (.int i) w S=bt (S.set r (.lst (xs.set i.toNat w))):=by
 change vN (.ref r) (.int i) w S=_;have:uM xs.length i=bt i.toNat:=by
  unfold uM;rw[KQ h0,KQ ∅]
 simp[vN,dP h,this]
def xC {r:Kt}{xs:Kg W}(h:S[r]?=bt (.lst xs)):Bi.len.fn [.ref r] S=bt (.int xs.length,S):=by
 (dsimp only[Bi.fn,Ag,zE,tH]; simp[r8 h,aP h])
def GJ {r:Kt}{xs:Kg W}{y:W}(h:S[r]?=bt (.lst xs))(hl:xs.length < sizeLine):gH (.ref r) [y] S=bt (.non,S.set r (.lst (xs++[y]))):=by
 simp[gH,dP h,hl]
def xD {r:Kt}{xs:Kg W}(h:S[r]?=bt (.lst xs)):jW [.ref r] S=bt (.tup xs,S):=by
 (dsimp only[jW,jM]; simp[zD,h,aP h])
def iE {r:Kt}{xs:Kg W}(h:S[r]?=bt (.lst xs)):tyOk "list" S (.ref r)=true:=by simp[tyOk,aP h]
def eT {r:Kt}{o o':O}(h:S[r]?=bt o):(S.set r o')[r]?=bt o':=by
 rw[M7,KQ rfl,KQ (KB.mp h).1]
def cv {r j:Kt}{o':O}(h:r≠j):(S.set r o')[j]?=S[j]?:=by rw[M7,KY h]
def ah {o:O}:(S++[o])[S.length]?=bt o:=by simp
def az {j:Kt}{o u:O}(h:S[j]?=bt o):(S++[u])[j]?=bt o:=by rw[Lk (KB.mp h).1]; exact h
def lK {j:Kt}{o:O}(h:S[j]?=bt o):j < S.length:=(KB.mp h).1
structure Kp (r:Kt)(S S':aa):Prop where
 get:∀j o,j≠r->S[j]?=bt o->S'[j]?=bt o
 len:S.length<=S'.length
def Kp.refl {r:Kt}{S:aa}:Kp r S S:=#[λ_ _ _ h=>h,Kz _]
def Kp.trans {r:Kt}{S S' S'':aa}(a:Kp r S S')(b:Kp r S' S''):Kp r S S'':=#[λj o n h=>b.get j o n (a.get j o n h),KJ a.len b.len]
def Kp.set {r:Kt}{S:aa}{o:O}:Kp r S (S.set r o):=#[λj u n h=>by rw[cv (Ne.symm n)]; exact h,by simp]
def Kp.push {r:Kt}{S:aa}{o:O}:Kp r S (S++[o]):=#[λj u n h=>az h,by simp]
def Kp.late {r t:Kt}{S0 S:aa}{o:O}(a:Kp r S0 S)(h:S0.length<=t):Kp r S0 (S.set t o):=
 #[λj u n e=>by
  have:=lK e;rw[cv ∅]; exact a.get j u n e,by simpa using a.len]
end
abbrev wO {α:Type}(o:Kk α)(Q:α->Prop):Prop:=match o with
 | some a=>Q a
 | none=>Lj
def aS {α:Type}{o:Kk α}{Q:α->Prop}(h:wO o Q):Wp o Q:=by
 cases o with
 | none=>exact h.elim
 | some a=>exact#[a,rfl,h]
def GK {α:Type}{o:Kk α}{Q:α->Prop}(h:Wp o Q):wO o Q:=by
 obtain⟨a,rfl,q⟩:=h;exact q
def ae {α:Type}{o:Kk α}{a:α}{Q:α->Prop}(e:o=bt a)(h:Q a):wO o Q:=by subst e; exact h
abbrev wB:W->(KR->Prop)->Prop
 | .bl k,Q=>Q k
 | _,_=>Lj
abbrev wN:W->(KD->Prop)->Prop
 | .int k,Q=>Q k
 | _,_=>Lj
abbrev wX:W->(Ks->Prop)->Prop
 | .str k,Q=>Q k
 | _,_=>Lj
abbrev wU:W->(Kg W->Prop)->Prop
 | .tup k,Q=>Q k
 | _,_=>Lj
def oN {w:W}{Q:KR->Prop}(h:wB w Q):∃k,w=.bl k/\Q k:=by cases w <;> first|exact h.elim|exact#[_,rfl,h]
def BJ {w:W}{Q:KD->Prop}(h:wN w Q):∃k,w=.int k/\Q k:=by cases w <;> first|exact h.elim|exact#[_,rfl,h]
def xE {w:W}{Q:Ks->Prop}(h:wX w Q):∃k,w=.str k/\Q k:=by cases w <;> first|exact h.elim|exact#[_,rfl,h]
def GL {w:W}{Q:Kg W->Prop}(h:wU w Q):∃k,w=.tup k/\Q k:=by cases w <;> first|exact h.elim|exact#[_,rfl,h]
abbrev w2:Kg W->(W->W->Prop)->Prop
 | [x,y],Q=>Q x y
 | _,_=>Lj
def GM {xs:Kg W}{Q:W->W->Prop}(h:w2 xs Q):∃x y,xs=[x,y]/\Q x y:=by
 match xs,h with
 | [x,y],h=>exact#[x,y,rfl,h]
abbrev wG:Kk W->(W->Prop)->Prop
 | some w,Q=>Q w
 | none,_=>Lj
abbrev wV:Fm->Kt->(W->Prop)->Prop
 | [],_,_=>Lj
 | o::_,0,Q=>wG o Q
 | _::Z,n+1,Q=>wV Z n Q
def xH {Q:W->Prop}:∀ {Z:Fm} {i:Kt},wV Z i Q->∃w,Z[i]?=bt (bt w)/\Q w
 | [],i,h=>h.elim
 | some w::Z,0,h=>#[w,rfl,h]
 | none::Z,0,h=>h.elim
 | x::Z,n+1,h=>by
  obtain⟨w,e2,q⟩:=xH (Z:=Z) (i:=n) h;exact#[w,e2,q]
abbrev bd (M:Ks->FF)(f:Ks)(n:Kt)(ws:Kg W)(S:aa):Kk (W×aa):=if ws.length=n then M f ws S else gV
section
variable (M:Ks->FF) (fuel:Kt)
mutual
def wE:E->Fm->aa->QW->Prop
 | .c w,_,S,Q=>Q (w,S)
 | .v i,Z,S,Q=>wV Z i λw=>Q (w,S)
 | .sem g,Z,S,Q=>wO (g Z S) Q
 | .op o a b,Z,S,Q=>wE a Z S λp=>wE b Z p.2 λq=>wO (gh o p.1 q.1 q.2) Q
 | .cmp o a b,Z,S,Q=>wE a Z S λp=>wE b Z p.2 λq=>wO (dv o p.1 q.1 q.2) Q
 | .and a b,Z,S,Q=>wE a Z S λp=>wB p.1 λk=>(k=true->wE b Z p.2 Q)/\(k=false->Q (.bl false,p.2))
 | .or a b,Z,S,Q=>wE a Z S λp=>wB p.1 λk=>(k=true->Q (.bl true,p.2))/\(k=false->wE b Z p.2 Q)
 | .not a,Z,S,Q=>wE a Z S λp=>wB p.1 λk=>Q (.bl (!k),p.2)
 | .own f n es,Z,S,Q=>wA es Z S λp=>wO (bd M f n p.1 p.2) Q
 | .bi b es,Z,S,Q=>wA es Z S λp=>wO (b.fn p.1 p.2) Q
 | .me m o es,Z,S,Q=>wE o Z S λp=>tyOk m.ty p.2 p.1=true/\wA es Z p.2 λq=>wO (m.fn p.1 q.1 q.2) Q
 | .ix a b,Z,S,Q=>wE a Z S λp=>wE b Z p.2 λq=>wO (nq p.1 q.1 q.2) Q
 | .sl a lo hi,Z,S,Q=>wE a Z S λp=>wP lo Z p.2 λq=>wP hi Z q.2 λr=>wO (md p.1 q.1 r.1 r.2) Q
 | .tup es,Z,S,Q=>wA es Z S λp=>Q (.tup p.1,p.2)
 | .lst es,Z,S,Q=>wA es Z S λp=>Q (.ref p.2.length,p.2++[.lst p.1])
 | .isi c a,Z,S,Q=>wE a Z S λp=>wO (pk p.2 p.1 c) λk=>Q (.bl k,p.2)
 | .neg a,Z,S,Q=>wE a Z S λp=>wN p.1 λi=>Q (.int (-i),p.2)
 | .disp es,Z,S,Q=>wA es Z (S++[.dis []]) λp=>p.2[S.length]?=bt (.dis [])/\wO (lD p.1) λU=>((U.map (·.1)).Nodup/\U.length<=15)/\Q (.ref S.length,p.2.set S.length (.dis U))
 | .gix U b,Z,S,Q=>wE b Z S λp=>wX p.1 λk=>wO (U.lookup k) λw=>Q (w,p.2)
 | .gni U b,Z,S,Q=>wE b Z S λp=>wX p.1 λk=>Q (.bl (!(U.lookup k).isSome),p.2)
 | .chn o o' a b d,Z,S,Q=>wE a Z S λp=>wE b Z p.2 λq=>wO (yy o p.1 q.1 q.2) λk=>(k=true->wE d Z q.2 λr=>wO (fL o' q.1 r.1 r.2) Q)/\(k=false->Q (.bl false,q.2))
 | .ite t a b,Z,S,Q=>wT t Z S λp=>(p.1=true->wE a Z p.2 Q)/\(p.1=false->wE b Z p.2 Q)
 | .comp elt tg it cs cap,Z,S,Q=>Wp (ar M (.comp elt tg it cs cap) Z S) Q
def wT:E->Fm->aa->QB->Prop
 | .cmp o a b,Z,S,Q=>wE a Z S λp=>wE b Z p.2 λq=>wO (dv o p.1 q.1 q.2) λr=>wB r.1 λk=>Q (k,r.2)
 | .and a b,Z,S,Q=>wT a Z S λp=>(p.1=true->wT b Z p.2 Q)/\(p.1=false->Q (false,p.2))
 | .or a b,Z,S,Q=>wT a Z S λp=>(p.1=true->Q (true,p.2))/\(p.1=false->wT b Z p.2 Q)
 | .not a,Z,S,Q=>wT a Z S λp=>Q (!p.1,p.2)
 | .isi c a,Z,S,Q=>wE a Z S λp=>wO (pk p.2 p.1 c) λk=>Q (k,p.2)
 | .c w,Z,S,Q=>Wp (bE M (.c w) Z S) Q
 | .v i,Z,S,Q=>wV Z i λw=>wO (eI S w) λk=>Q (k,S)
 | .sem g,Z,S,Q=>wO (g Z S) λq=>wO (eI q.2 q.1) λk=>Q (k,q.2)
 | .op o a b,Z,S,Q=>Wp (bE M (.op o a b) Z S) Q
 | .own f n es,Z,S,Q=>wA es Z S λp=>wO (bd M f n p.1 p.2) λq=>wO (eI q.2 q.1) λk=>Q (k,q.2)
 | .bi b es,Z,S,Q=>wA es Z S λp=>wO (b.fn p.1 p.2) λq=>wO (eI q.2 q.1) λk=>Q (k,q.2)
 | .me m o es,Z,S,Q=>Wp (bE M (.me m o es) Z S) Q
 | .ix a b,Z,S,Q=>Wp (bE M (.ix a b) Z S) Q
 | .sl a lo hi,Z,S,Q=>Wp (bE M (.sl a lo hi) Z S) Q
 | .tup es,Z,S,Q=>Wp (bE M (.tup es) Z S) Q
 | .lst es,Z,S,Q=>Wp (bE M (.lst es) Z S) Q
 | .neg a,Z,S,Q=>Wp (bE M (.neg a) Z S) Q
 | .disp es,Z,S,Q=>Wp (bE M (.disp es) Z S) Q
 | .gix U b,Z,S,Q=>Wp (bE M (.gix U b) Z S) Q
 | .gni U b,Z,S,Q=>wE b Z S λp=>wX p.1 λk=>Q (!(U.lookup k).isSome,p.2)
 | .chn o o' a b d,Z,S,Q=>wE a Z S λp=>wE b Z p.2 λq=>wO (yy o p.1 q.1 q.2) λk=>(k=true->wE d Z q.2 λr=>wO (fL o' q.1 r.1 r.2) λs=>wB s.1 λc=>Q (c,s.2))/\(k=false->Q (false,q.2))
 | .ite t a b,Z,S,Q=>Wp (bE M (.ite t a b) Z S) Q
 | .comp elt tg it cs cap,Z,S,Q=>Wp (bE M (.comp elt tg it cs cap) Z S) Q
def wA:Es->Fm->aa->(Kg W×aa->Prop)->Prop
 | .nil,_,S,Q=>Q ([],S)
 | .cons e es,Z,S,Q=>wE e Z S λp=>wA es Z p.2 λq=>Q (p.1::q.1,q.2)
def wP:Ep->Fm->aa->(Kk KD×aa->Prop)->Prop
 | .no,_,S,Q=>Q (gV,S)
 | .yes a,Z,S,Q=>wE a Z S λp=>wN p.1 λi=>Q (bt i,p.2)
end
abbrev po (K:Fm->aa->Prop)(Q:QO)(p:Out×aa):Prop:=match p.1 with
 | .nx Z=>K Z p.2
 | o=>Q (o,p.2)
mutual
def wS:Sm->Fm->aa->(Fm->aa->Prop)->QO->Prop
 | .sem g,Z,S,K,Q=>wO (g M Z S) (po K Q)
 | .set i e,Z,S,K,_=>wE M e Z S λp=>K (Z.set i (bt p.1)) p.2
 | .asg is e,Z,S,K,_=>wE M e Z S λp=>wU p.1 λws=>wO (gm is ws Z) λZ'=>K Z' p.2
 | .par i j es,Z,S,K,_=>wA M es Z S λp=>w2 p.1 λx y=>K ((Z.set i (bt x)).set j (bt y)) p.2
 | .put o k e,Z,S,K,_=>wE M e Z S λp=>wE M o Z p.2 λq=>wE M k Z q.2 λr=>wO (qb q.1 r.1 p.1 r.2) λS'=>K Z S'
 | .ex e,Z,S,K,_=>wE M e Z S λp=>K Z p.2
 | .ret e,Z,S,_,Q=>wE M e Z S λp=>Q (.rt p.1,p.2)
 | .retN,_,S,_,Q=>Q (.rt .non,S)
 | .pass,Z,S,K,_=>K Z S
 | .brk,Z,S,_,Q=>Q (.bk Z,S)
 | .cont,Z,S,_,Q=>Q (.ct Z,S)
 | .bad,_,_,_,_=>Lj
 | .ite t a b,Z,S,K,Q=>wT M t Z S λp=>∀Q':QO,(∀Z' S',K Z' S'->Q' (.nx Z',S'))->(∀o S',(∀Z',o≠.nx Z')->Q (o,S')->Q' (o,S'))->(p.1=true->Ap a Z p.2 Q')/\(p.1=false->Ap b Z p.2 Q')
 | .whl t b,Z,S,K,Q=>Wp (bN M fuel (.whl t b) Z S) (po K Q)
 | .loop tg it b,Z,S,K,Q=>Wp (bN M fuel (.loop tg it b) Z S) (po K Q)
def Ap:Ss->Fm->aa->QO->Prop
 | .nil,Z,S,Q=>Q (.nx Z,S)
 | .cons s ss,Z,S,Q=>wS s Z S (λZ' S'=>Ap ss Z' S' Q) Q
end
end
abbrev EO:Es->Kt
 | .nil=>0
 | .cons _ es=>EO es+1
mutual
def d0:E->KR
 | .c _|.v _|.sem _|.comp _ _ _ _ _=>true
 | .op _ a b|.cmp _ a b|.and a b|.or a b|.ix a b=>d0 a&&d0 b
 | .chn _ _ a b c|.ite a b c=>d0 a&&d0 b&&d0 c
 | .neg a|.not a|.isi _ a|.gix _ a|.gni _ a=>d0 a
 | .own _ n es=>EO es==n&&qx es
 | .bi _ es|.disp es=>qx es
 | .me _ o es=>d0 o&&qx es
 | .sl a lo hi=>d0 a&&Jc lo&&Jc hi
 | .tup es|.lst es=>decide (EO es<=1000)&&qx es
def qx:Es->KR
 | .nil=>true
 | .cons e es=>d0 e&&qx es
def Jc:Ep->KR
 | .no=>true
 | .yes e=>d0 e
end
mutual
def JG:Sm->KR
 | .set _ e|.asg _ e|.ex e|.ret e=>d0 e
 | .put o k e=>d0 o&&d0 k&&d0 e
 | .par _ _ es=>qx es
 | .ite t a b=>d0 t&&iF a&&iF b
 | _=>true
def iF:Ss->KR
 | .nil=>true
 | .cons s ss=>JG s&&iF ss
end
section
variable{M:Ks->FF}{fuel:Kt}
def fD:∀ {es:Es} {Z:Fm} {S S':aa} {ws:Kg W},bg M es Z S=bt (ws,S')->ws.length=EO es
 | .nil,Z,S,S',ws,h=>by dsimp only[bg]at h; cases h; rfl
 | .cons e es,Z,S,S',ws,h=>by
  dsimp only[bg]at h;unfold cH at h;split at h
  ·split at h
   ·rename_i h2; cases h; rw[Lh,fD h2]; rfl
   ·cases h
  ·cases h
def qy {n:Kt}(h:decide (n<=1000)=true):n<=sizeLine:=KJ (Lq h) (by rw[LF]; decide)
def GN {g:FE}{Z:Fm}{S:aa}{Q:QB}(h:wO (g Z S) λq=>wO (eI q.2 q.1) λk=>Q (k,q.2)):Wp (dy g Z S) Q:=by
 obtain⟨⟨w,S1⟩,e,hq⟩:=aS h;obtain⟨k,e2,q⟩:=aS hq;show#[(k,S1),?_,q];unfold dy;rw[e];dsimp only;rw[e2];rfl
def br {a b:KR}(h:(a&&b)=true):a=true:=by cases a <;> first|rfl|cases h
def b8 {a b:KR}(h:(a&&b)=true):b=true:=by cases a <;> first|exact h|cases h
mutual
theorem aB:∀(e:E) {Z:Fm} {S:aa} {Q:QW},d0 e=true->wE M e Z S Q->Wp (ar M e Z S) Q
 | .c w,Z,S,Q,k,h=>J0.mpr h
 | .v i,Z,S,Q,k,h=>JF.mpr (xH h)
 | .sem g,Z,S,Q,k,h=>aS h
 | .op o a b,Z,S,Q,k,h=>IS.mpr ((aB a (br k) h).mono λp hp=>(aB b (b8 k) hp).mono λq hq=>aS hq)
 | .cmp o a b,Z,S,Q,k,h=>BC.mpr ((aB a (br k) h).mono λp hp=>(aB b (b8 k) hp).mono λq hq=>aS hq)
 | .and a b,Z,S,Q,k,h=>Gc.mpr ((aB a (br k) h).mono λp hp=>let ⟨c,e,h1,h2⟩:=oN hp; #[c,e,λz=>aB b (b8 k) (h1 z),h2])
 | .or a b,Z,S,Q,k,h=>IU.mpr ((aB a (br k) h).mono λp hp=>let ⟨c,e,h1,h2⟩:=oN hp; #[c,e,h1,λz=>aB b (b8 k) (h2 z)])
 | .not a,Z,S,Q,k,h=>Gd.mpr ((aB a k h).mono λp hp=>oN hp)
 | .own f n es,Z,S,Q,k,h=>BE.mpr (by
   obtain⟨⟨ws,S1⟩,e,hq⟩:=fU es (b8 k) h;have hl:ws.length=n:=(fD e).trans (eq_of_beq (br k));simp only[bd,KQ hl]at hq;exact#[_,e,hl,aS hq])
 | .bi b es,Z,S,Q,k,h=>Gg.mpr ((fU es k h).mono λp hp=>aS hp)
 | .me m o es,Z,S,Q,k,h=>IV.mpr ((aB o (br k) h).mono λp hp=>#[hp.1,(fU es (b8 k) hp.2).mono λq hq=>aS hq])
 | .ix a b,Z,S,Q,k,h=>IT.mpr ((aB a (br k) h).mono λp hp=>(aB b (b8 k) hp).mono λq hq=>aS hq)
 | .sl a lo hi,Z,S,Q,k,h=>IW.mpr ((aB a (br (br k)) h).mono λp hp=>(BL lo (b8 (br k)) hp).mono λq hq=>(BL hi (b8 k) hq).mono λr hr=>aS hr)
 | .tup es,Z,S,Q,k,h=>Gi.mpr (by
   obtain⟨⟨ws,S1⟩,e,hq⟩:=fU es (b8 k) h;exact#[_,e,by rw[fD e]; exact qy (br k),hq])
 | .lst es,Z,S,Q,k,h=>Gj.mpr (by
   obtain⟨⟨ws,S1⟩,e,hq⟩:=fU es (b8 k) h;exact#[_,e,by rw[fD e]; exact qy (br k),hq])
 | .isi c a,Z,S,Q,k,h=>BF.mpr ((aB a k h).mono λp hp=>aS hp)
 | .neg a,Z,S,Q,k,h=>Gk.mpr ((aB a k h).mono λp hp=>BJ hp)
 | .disp es,Z,S,Q,k,h=>DA.mpr ((fU es k h).mono λp hp=>#[hp.1,let ⟨U,e,q⟩:=aS hp.2; #[U,e,q]])
 | .gix U b,Z,S,Q,k,h=>Gm.mpr ((aB b k h).mono λp hp=>let ⟨c,e,h1⟩:=xE hp; let ⟨w,e2,h2⟩:=aS h1; #[c,w,e,e2,h2])
 | .gni U b,Z,S,Q,k,h=>Gn.mpr ((aB b k h).mono λp hp=>xE hp)
 | .chn o o' a b d,Z,S,Q,k,h=>BG ((aB a (br (br k)) h).mono λp hp=>(aB b (b8 (br k)) hp).mono λq hq=>let ⟨c,e,h1,h2⟩:=aS hq; #[c,e,λz=>(aB d (b8 k) (h1 z)).mono λr hr=>aS hr,h2])
 | .ite t a b,Z,S,Q,k,h=>Ge.mpr ((gT t (br (br k)) h).mono λp hp=>#[λz=>aB a (b8 (br k)) (hp.1 z),λz=>aB b (b8 k) (hp.2 z)])
 | .comp elt tg it cs cap,Z,S,Q,k,h=>h
theorem fU:∀(es:Es) {Z:Fm} {S:aa} {Q:Kg W×aa->Prop},qx es=true->wA M es Z S Q->Wp (bg M es Z S) Q
 | .nil,Z,S,Q,k,h=>Gp.mpr h
 | .cons e es,Z,S,Q,k,h=>DB.mpr ((aB e (br k) h).mono λp hp=>fU es (b8 k) hp)
theorem BL:∀(e:Ep) {Z:Fm} {S:aa} {Q:Kk KD×aa->Prop},Jc e=true->wP M e Z S Q->Wp (rP M e Z S) Q
 | .no,Z,S,Q,k,h=>IX.mpr h
 | .yes a,Z,S,Q,k,h=>Gh.mpr ((aB a k h).mono λp hp=>BJ hp)
theorem gT:∀(e:E) {Z:Fm} {S:aa} {Q:QB},d0 e=true->wT M e Z S Q->Wp (bE M e Z S) Q
 | .cmp o a b,Z,S,Q,k,h=>Gq.mpr (BC.mpr ((aB a (br k) h).mono λp hp=>(aB b (b8 k) hp).mono λq hq=>(aS hq).mono λr hr=>oN hr))
 | .and a b,Z,S,Q,k,h=>Gs.mpr ((gT a (br k) h).mono λp hp=>#[λz=>gT b (b8 k) (hp.1 z),hp.2])
 | .or a b,Z,S,Q,k,h=>IY.mpr ((gT a (br k) h).mono λp hp=>#[hp.1,λz=>gT b (b8 k) (hp.2 z)])
 | .not a,Z,S,Q,k,h=>Gu.mpr (gT a k h)
 | .isi c a,Z,S,Q,k,h=>Gw.mpr (BF.mpr ((aB a k h).mono λp hp=>let ⟨b,e,q⟩:=aS hp; #[b,e,b,rfl,q]))
 | .v i,Z,S,Q,k,h=>td.mpr (JF.mpr (let ⟨w,e,q⟩:=xH h; #[w,e,aS q]))
 | .sem g,Z,S,Q,k,h=>GN h
 | .own f n es,Z,S,Q,k,h=>Gv.mpr (BE.mpr (by
   obtain⟨⟨ws,S1⟩,e,hq⟩:=fU es (b8 k) h;have hl:ws.length=n:=(fD e).trans (eq_of_beq (br k));simp only[bd,KQ hl]at hq;exact#[_,e,hl,(aS hq).mono λq hq=>aS hq]))
 | .c w,Z,S,Q,k,h=>h
 | .op o a b,Z,S,Q,k,h=>h
 | .bi b es,Z,S,Q,k,h=>IZ.mpr (Gg.mpr ((fU es k h).mono λp hp=>(aS hp).mono λq hq=>aS hq))
 | .me m o es,Z,S,Q,k,h=>h
 | .ix a b,Z,S,Q,k,h=>h
 | .sl a lo hi,Z,S,Q,k,h=>h
 | .tup es,Z,S,Q,k,h=>h
 | .lst es,Z,S,Q,k,h=>h
 | .neg a,Z,S,Q,k,h=>h
 | .disp es,Z,S,Q,k,h=>h
 | .gix U b,Z,S,Q,k,h=>h
 | .gni U b,Z,S,Q,k,h=>Go.mpr ((aB b k h).mono λp hp=>xE hp)
 | .chn o o' a b d,Z,S,Q,k,h=>Gr.mpr (BG ((aB a (br (br k)) h).mono λp hp=>(aB b (b8 (br k)) hp).mono λq hq=>let ⟨c,e,h1,h2⟩:=aS hq; #[c,e,λz=>(aB d (b8 k) (h1 z)).mono λr hr=>(aS hr).mono λs hs=>oN hs,λz=>#[false,rfl,h2 z]]))
 | .ite t a b,Z,S,Q,k,h=>h
 | .comp elt tg it cs cap,Z,S,Q,k,h=>h
end
mutual
theorem GP:∀(s:Sm) {Z:Fm} {S:aa} {K:Fm->aa->Prop} {Q:QO},JG s=true->wS M fuel s Z S K Q->Wp (bN M fuel s Z S) (po K Q)
 | .sem g,Z,S,K,Q,k,h=>aS h
 | .set i e,Z,S,K,Q,k,h=>DD.mpr (aB e k h)
 | .asg is e,Z,S,K,Q,k,h=>DE.mpr ((aB e k h).mono λp hp=>let ⟨ws,e1,h1⟩:=GL hp; let ⟨Z',e2,h2⟩:=aS h1; #[ws,Z',e1,e2,h2])
 | .par i j es,Z,S,K,Q,k,h=>DF.mpr ((fU es k h).mono λp hp=>GM hp)
 | .put o i e,Z,S,K,Q,k,h=>DH.mpr ((aB e (b8 k) h).mono λp hp=>(aB o (br (br k)) hp).mono λq hq=>(aB i (b8 (br k)) hq).mono λr hr=>aS hr)
 | .ex e,Z,S,K,Q,k,h=>Gy.mpr (aB e k h)
 | .ret e,Z,S,K,Q,k,h=>DI.mpr (aB e k h)
 | .retN,Z,S,K,Q,k,h=>#[_,rfl,h]
 | .pass,Z,S,K,Q,k,h=>#[_,rfl,h]
 | .brk,Z,S,K,Q,k,h=>#[_,rfl,h]
 | .cont,Z,S,K,Q,k,h=>#[_,rfl,h]
 | .bad,Z,S,K,Q,k,h=>h.elim
 | .ite t a b,Z,S,K,Q,k,h=>DJ.mpr ((gT t (br (br k)) h).mono λp hp=>by
   obtain⟨h1,h2⟩:=hp (po K Q) (λZ' S' z=>z) (λo S' hn z=>by cases o <;> first|exact z|exact absurd rfl (hn _))
   exact#[λz=>gq a (b8 (br k)) (h1 z),λz=>gq b (b8 k) (h2 z)])
 | .whl t b,Z,S,K,Q,k,h=>h
 | .loop tg it b,Z,S,K,Q,k,h=>h
theorem gq:∀(ss:Ss) {Z:Fm} {S:aa} {Q:QO},iF ss=true->Ap M fuel ss Z S Q->Wp (bQ M fuel ss Z S) Q
 | .nil,Z,S,Q,k,h=>Gx.mpr h
 | .cons s ss,Z,S,Q,k,h=>DC.mpr ((GP s (br k) h).mono λp hp=>by
   obtain⟨o,S1⟩:=p;cases o with
   | nx Z'=>exact#[λZ2 e=>by cases e; exact gq ss (b8 k) hp,λz=>absurd rfl (z Z')]
   | _=>exact#[λZ2 e=>(by cases e),λ_=>hp])
end
structure wZ (M:Ks->FF)(fuel:Kt)(ss:Ss)(Z:Fm)(S:aa)(Q:QO):Prop where
 out:Ap M fuel ss Z S Q
def GQ {ss:Ss}{Z:Fm}{S:aa}{Q:QO}:Ap M fuel ss Z S Q=wZ M fuel ss Z S Q:=propext #[λh=>#[h],λh=>h.out]
def DM {defs:Kg (Ks×Df)}{d:Kt}{f:Ks}{n:Kt}{ws:Kg W}{df:Df}{S:aa}{Q:QW}(h:defs.lookup f=bt df)(hn:ws.length=n)(hl:ws.length=df.ps.length)(ok:iF df.body=true)
  (hb:∀Q':QO,(∀w S',Q (w,S')->Q' (.rt w,S'))->wZ (aj defs fuel d) fuel df.body (bc df.N ws) S Q'):wO (bd (aj defs fuel (d+1)) f n ws S) Q:=by
 unfold bd;rw[KQ hn];exact GK (ut h hl ((gq _ ok (hb (λp=>match p.1 with|.rt w=>Q (w,p.2)|_=>Lj) λw S' q=>q).out).mono λp hp=>by
  obtain⟨o,S1⟩:=p;cases o <;> first|exact hp|exact hp.elim))
end
end Mi
namespace Mi
open PySem PySem.Spec PyProof.Rows L2 Xc
abbrev uO:W->Kk W
 | .tup [.non,w]=>bt w
 | .non=>bt .non
 | _=>gV
abbrev xV:W->Kk (Ks×Kg W)
 | .tup (.str c::ws)=>bt (c,ws)
 | _=>gV
def GR {w w':W}(h:uO w=bt w'):xV w=gV:=by
 unfold uO at h;split at h
 ·rfl
 ·rfl
 ·cases h
abbrev HE:Out->Kk Out
 | .rt w=>(uO w).map .rt
 | o=>bt o
abbrev xO:Out->Kk (Ks×Kg W)
 | .rt w=>xV w
 | _=>gV
abbrev eh (F:FS):FS:=λZ S=>match F Z S with
 | some (o,S')=>(HE o).map λo'=>(o',S')
 | none=>gV
abbrev xF (F:FS):FX:=λZ S=>match F Z S with
 | some (o,S')=>(xO o).map λp=>(p.1,p.2,S')
 | none=>gV
def mL (w:W):HE (.rt w)=gV\/∃w',HE (.rt w)=bt (.rt w')/\xO (.rt w)=gV:=by
 cases h:uO w with
 | none=>
  show .inl ?_;show(uO w).map _=gV;rw[h];rfl
 | some w'=>
  show .inr #[w',?_,GR h];show(uO w).map _=_;rw[h];rfl
section
variable{X:Cx}{cl:Cl}{Ew:L2.XK}
def GX.mono {st:LO}{f f':FS}{fx fx':FX}(h:GX X cl Ew st f fx)(hf:∀Z S r,f' Z S=bt r->f Z S=bt r)(hx:∀Z S r,fx' Z S=bt r->fx Z S=bt r):GX X cl Ew st f' fx':=λJ s Y H D I q=>h J s Y H D I (by
 rcases q with⟨A,Z,S,o,S',er,so,e,d⟩|⟨A,Z,S,cn,ws,S',C,gs,er,so,e,hc,q⟩
 ·exact .inl #[A,Z,S,o,S',er,so,hf _ _ _ e,d]
 ·exact .inr #[A,Z,S,cn,ws,S',C,gs,er,so,hx _ _ _ e,hc,q])
end
def Aq (f g:FS):eh (iZ f g)=iZ (eh f) (eh g):=by
 funext Z S
 unfold eh iZ;dsimp only;cases f Z S with
 | none=>rfl
 | some p=>
  obtain⟨o,S1⟩:=p;cases o with
  | rt w=>rcases mL w with e|⟨w',e,_⟩ <;> (dsimp only; rw[e]; rfl)
  | _=>rfl
def DN (f g:FS):xF (iZ f g)=rM (eh f) (xF f) (xF g):=by
 funext Z S
 unfold xF iZ rM eh;dsimp only;cases f Z S with
 | none=>rfl
 | some p=>
  obtain⟨o,S1⟩:=p;cases o with
  | rt w=>rcases mL w with e|⟨w',e,e2⟩ <;> dsimp only <;> rw[e] <;> first|rfl|(rw[e2]; rfl)
  | _=>rfl
def DO (c:FT)(f g:FS):eh (gO c f g)=gO c (eh f) (eh g):=by
 funext Z S
 unfold eh gO;dsimp only;cases c Z S with
 | none=>rfl
 | some p=>obtain⟨b,S1⟩:=p; cases b <;> rfl
def GU (c:FT)(f g:FS):xF (gO c f g)=zV c (xF f) (xF g):=by
 funext Z S
 unfold xF gO zV;dsimp only;cases c Z S with
 | none=>rfl
 | some p=>obtain⟨b,S1⟩:=p; cases b <;> rfl
def oO (mi:MI)(g:FG)(b:FS):∀(n i:Kt) (Z:Fm) (S:aa),eh (bw mi g b n i) Z S=bw mi g (eh b) n i Z S
 | 0,i,Z,S=>by
  unfold eh;dsimp only[bw];cases mi.at S i with
  | none=>rfl
  | some o=>cases o <;> rfl
 | n+1,i,Z,S=>by
  have ih:=oO mi g b n;unfold eh at ih ⊢;dsimp only[bw];cases mi.at S i with
  | none=>rfl
  | some o=>
   cases o with
   | none=>rfl
   | some w=>
    dsimp only;cases g w Z S with
    | none=>rfl
    | some p=>
     dsimp only;cases b p.1 p.2 with
     | none=>rfl
     | some q=>
      obtain⟨o,S2⟩:=q;cases o with
      | nx Z2=>exact ih (i+1) Z2 S2
      | ct Z2=>exact ih (i+1) Z2 S2
      | bk Z2=>rfl
      | rt w=>rcases mL w with e|⟨w',e,_⟩ <;> (dsimp only; rw[e]; rfl)
def Ar (fi:FI)(g:FG)(b:FS):eh (ja fi g b)=ja fi g (eh b):=by
 funext Z S
 have h:=oO;unfold eh at h ⊢;unfold ja;cases fi Z S with
 | none=>rfl
 | some p=>
  obtain⟨mi,S1⟩:=p;dsimp only;cases mi.len S1 with
  | none=>rfl
  | some n=>exact h mi g b n 0 Z S1
def r9 (mi:MI)(g:FG)(b:FS):∀(n i:Kt) (Z:Fm) (S:aa),xF (bw mi g b n i) Z S=dO mi g (eh b) (xF b) n i Z S
 | 0,i,Z,S=>by
  unfold xF;dsimp only[bw,dO];cases mi.at S i with
  | none=>rfl
  | some o=>cases o <;> rfl
 | n+1,i,Z,S=>by
  have ih:=r9 mi g b n;unfold xF at ih ⊢;dsimp only[bw,dO];cases mi.at S i with
  | none=>rfl
  | some o=>
   cases o with
   | none=>rfl
   | some w=>
    dsimp only;cases g w Z S with
    | none=>rfl
    | some p=>
     dsimp only;unfold eh at ih ⊢
     try dsimp only at ih ⊢
     cases hb:b p.1 p.2 with
     | none=>rfl
     | some q=>
      obtain⟨o,S2⟩:=q;cases o with
      | nx Z2=>exact ih (i+1) Z2 S2
      | ct Z2=>exact ih (i+1) Z2 S2
      | bk Z2=>rfl
      | rt w=>rcases mL w with e|⟨w',e,e2⟩ <;> dsimp only <;> rw[e] <;> first|rfl|(rw[e2]; rfl)
def DP (fi:FI)(g:FG)(b:FS):xF (ja fi g b)=rZ fi g (eh b) (xF b):=by
 funext Z S
 have h:=r9;unfold xF at h ⊢;unfold ja rZ;cases fi Z S with
 | none=>rfl
 | some p=>
  obtain⟨mi,S1⟩:=p;dsimp only;cases mi.len S1 with
  | none=>rfl
  | some n=>exact h mi g b n 0 Z S1
abbrev mM:Sm->KR
 | .set _ _|.asg _ _|.par _ _ _|.put _ _ _|.ex _|.pass=>true
 | _=>false
section
variable{M:Ks->FF}{fuel:Kt}
def qA {f:FE}{g:FG}{Z:Fm}{S:aa}{o:Out}{S':aa}(h:dJ f g Z S=bt (o,S')):∃Z',o=.nx Z':=by
 unfold dJ at h;split at h
 ·split at h
  ·cases h; exact#[_,rfl]
  ·cases h
 ·cases h
def oP {s:Sm}(hp:mM s=true){Z:Fm}{S:aa}{o:Out}{S':aa}(h:bN M fuel s Z S=bt (o,S')):∃Z',o=.nx Z':=by
 cases s with
 | set i e=>dsimp only[bN]at h; exact qA h
 | asg is e=>dsimp only[bN]at h; exact qA h
 | put a b c=>dsimp only[bN]at h; exact qA h
 | par i j es=>
  dsimp only[bN]at h;unfold ww at h;split at h
  ·cases h; exact#[_,rfl]
  ·cases h
 | ex e=>
  dsimp only[bN]at h;unfold n0 at h;split at h
  ·cases h; exact#[_,rfl]
  ·cases h
 | pass=>cases h; exact#[_,rfl]
 | _=>cases hp
def uw {s:Sm}(hp:mM s=true){Z:Fm}{S:aa}{r:Out×aa}(h:eh (bN M fuel s) Z S=bt r):bN M fuel s Z S=bt r:=by
 unfold eh at h;split at h
 ·rename_i o S' e;obtain⟨Z',rfl⟩:=oP hp e;rw[e];exact h
 ·cases h
def xI {s:Sm}(hp:mM s=true){Z:Fm}{S:aa}:xF (bN M fuel s) Z S=gV:=by
 unfold xF;split
 ·rename_i o S' e;obtain⟨Z',rfl⟩:=oP hp e;rfl
 ·rfl
end
abbrev GV (Γ:Gam)(st:LO):Kk Sm:=match cS 20 Γ st with
 | some s'=>if mM s' then bt s' else gV
 | none=>gV
abbrev cX (R:Kg (Ks×Kt)):Kt->Gam->LO->Kk Sm
 | 0,_,_=>gV
 | n+1,Γ,st=>match st with
  | .Return (bt e) _=>(cE aJ Γ e).map λe'=>.ret (.tup #v[.c .non,e'])
  | .Raise (bt (.Call (.Name c _) args [] _)) gV _=>if bz Γ c&&(R.lookup c==bt args.length)then(cA (cE aJ Γ) args).map λes=>.ret (.tup (.cons (.c (.str c)) es))else gV
  | .If t a b _=>match cE aJ Γ t,eR (cX R n Γ) a,eR (cX R n Γ) b with
   | some t',bt a',bt b'=>bt (.ite t' a' b')
   | _,_,_=>gV
  | .For tg it b [] _=>match cT Γ tg,cI Γ (cE aJ Γ) tg it,eR (cX R n Γ) b with
   | some t,bt i,bt b'=>bt (.loop t i b')
   | _,_,_=>gV
  | st=>GV Γ st
inductive RK (X:Cx)(cl:Cl)(c:Ks):Kt->Prop
 | zero {k:Kt} {f C:Kn} {cd:Mb} {fd:Lv} {ps:Kg Ks} (Mqa:XM X.K C f cd) (F:FnOk X.prog X.w X.K X.mg X.base jF k f fd ps (zf X.K)) (hr:Room (k+1) X.A) (hm:X.mg c=bt (.ref C)) (hb:Binds X.K fd ps []) (hc:cl c=bt (C,[])):RK X cl c 0
 | one {k:Kt} {f C:Kn} {cd:Mb} {fd:Lv} {ps:Kg Ks} {g:Ks} (Mqa:XM X.K C f cd) (hf:Nl X.K (.ref C) g=bt gV) (F:FnOk X.prog X.w X.K X.mg X.base jF k f fd ps (vE X.K g)) (hr:Room (k+1) X.A) (hm:X.mg c=bt (.ref C)) (hb:Binds X.K fd ps []) (hc:cl c=bt (C,[g])):RK X cl c 1
structure XOk (X:Cx)(R:Kg (Ks×Kt))(cl:Cl)(Ew:L2.XK):Prop where
 hh:X.A.handled=gV
 w:zU X Ew
 rk:∀c k,R.lookup c=bt k->RK X cl c k
section
variable{M:Ks->FF}{X:Cx}{Γ:Gam}{fuel:Kt}{R:Kg (Ks×Kt)}{cl:Cl}{Ew:L2.XK}
def mN (K:CtxOk M X Γ){st:LO}{s':Sm}(h:GV Γ st=bt s'):GX X cl Ew st (eh (bN M fuel s')) (xF (bN M fuel s')):=by
 unfold GV at h;split at h
 ·rename_i s1 h1;split at h
  ·rename_i hp;cases h;exact(og (jk fuel K 20 h1)).mono (λZ S r e=>uw hp e) λZ S r e=>by rw[xI hp]at e; cases e
  ·cases h
 ·cases h
def uy {S S':aa}{ws:Kg W}{w:W}(h:l9 S ws=bt (w,S')):w=.tup ws/\S'=S:=by
 unfold l9 at h;split at h
 ·cases h; exact#[rfl,rfl]
 ·cases h
def gU {e:E}{es:Es}{c w:W}{Z:Fm}{S S':aa}(h:ar M (.tup (.cons (.c c) es)) Z S=bt (w,S')):∃ws,bg M es Z S=bt (ws,S')/\w=.tup (c::ws):=by
 dsimp only[ar,bg]at h;unfold t8 at h;split at h
 ·rename_i ws S1 e1;obtain⟨rfl,rfl⟩:=uy h;unfold cH at e1;dsimp only[fC]at e1;split at e1
  ·rename_i ws2 S2 e2;cases e1;exact#[_,e2,rfl]
  ·cases e1
 ·cases h
def gW {f:FE}{Z:Fm}{S:aa}{o:Out}{S':aa}(h:n4 f Z S=bt (o,S')):∃w,f Z S=bt (w,S')/\o=.rt w:=by
 unfold n4 at h;split at h
 ·rename_i w S1 e; cases h; exact#[w,e,rfl]
 ·cases h
def DQ {e':E}{Z:Fm}{S:aa}{r:Out×aa}(h:eh (bN M fuel (.ret (.tup #v[.c .non,e']))) Z S=bt r):n4 (ar M e') Z S=bt r:=by
 unfold eh at h;split at h
 ·rename_i o S' e;obtain⟨w,e1,rfl⟩:=gW e;obtain⟨ws,e2,rfl⟩:=gU (e:=e') e1;dsimp only[bg]at e2;unfold cH at e2;split at e2
  ·rename_i w2 S2 e3;dsimp only[gM]at e2;cases e2;cases h;unfold n4;rw[e3]
  ·cases e2
 ·cases h
def DR {e':E}{Z:Fm}{S:aa}:xF (bN M fuel (.ret (.tup #v[.c .non,e']))) Z S=gV:=by
 unfold xF;split
 ·rename_i o S' e;obtain⟨w,e1,rfl⟩:=gW e;obtain⟨ws,e2,rfl⟩:=gU (e:=e') e1;rfl
 ·rfl
def xJ {f:KC->Kk E}:∀ {es:Kg KC} {r:Es},cA f es=bt r->EO r=es.length
 | [],_,h=>by cases h; rfl
 | e::es,r,h=>by
  obtain⟨e',es',h1,h2,rfl⟩:=dM h;change EO es'+1=_;rw[xJ h2];rfl
def xK {c:Ks}{es:Es}{Z:Fm}{S:aa}:eh (bN M fuel (.ret (.tup (.cons (.c (.str c)) es)))) Z S=gV:=by
 unfold eh;split
 ·rename_i o S' e;obtain⟨w,e1,rfl⟩:=gW e;obtain⟨ws,e2,rfl⟩:=gU (e:=.v 0) e1;rfl
 ·rfl
def As {c:Ks}{es:Es}{Z:Fm}{S:aa}{r:Ks×Kg W×aa}(h:xF (bN M fuel (.ret (.tup (.cons (.c (.str c)) es)))) Z S=bt r):∃ws S',bg M es Z S=bt (ws,S')/\r=(c,ws,S'):=by
 unfold xF at h;split at h
 ·rename_i o S' e;obtain⟨w,e1,rfl⟩:=gW e;obtain⟨ws,e2,rfl⟩:=gU (e:=.v 0) e1;cases h;exact#[ws,S',e2,rfl]
 ·cases h
def At (K:CtxOk M X Γ)(Zx:XOk X R cl Ew){c:Ks}{args:Kg KC}{p cpos pos:L9}{s':Sm}(h:(if bz Γ c&&(R.lookup c==bt args.length)then(cA (cE aJ Γ) args).map λes=>Sm.ret (.tup (.cons (.c (.str c)) es))else gV)=bt s') :
  GX X cl Ew (.Raise (bt (.Call (.Name c p) args [] cpos)) gV pos) (eh (bN M fuel s')) (xF (bN M fuel s')):=by
 split at h
 ·rename_i hc;rw[Kj]at hc;obtain⟨g1,g2⟩:=cU K hc.1;have hl:R.lookup c=bt args.length:=eq_of_beq hc.2;rw[Ko]at h;obtain⟨es,h1,rfl⟩:=h;have ga:=bH (λz=>(aR aJ K z).1) h1
  have rk:=Zx.rk c _ hl;have ln:=xJ h1;have ns:=aZ h1;have hx:∀k,args.length=k->∀Z S r,xF (bN M fuel (.ret (.tup (.cons (.c (.str c)) es)))) Z S=bt r->jZ c k (bg M es) Z S=bt r:=λk hk Z S r e=>by
   obtain⟨ws,S',e1,rfl⟩:=As e;unfold jZ;rw[e1];dsimp only;rw[KQ ((fD e1).trans (ln.trans hk))]
  have ho:∀(f:FS) Z S r,eh (bN M fuel (.ret (.tup (.cons (.c (.str c)) es)))) Z S=bt r->f Z S=bt r:=λf Z S r e=>by rw[xK]at e; cases e
  generalize hk:args.length=k at rk;cases rk with
  | zero Mqa F hr hm hb hcl=>
   obtain rfl:args=[]:=MJ.mp hk;show(uf (p:=p) (cpos:=cpos) (pos:=pos) Zx.hh Mqa F hr g1 hm hb Zx.w hcl g2).mono (ho _) λZ S r e=>?_
   have q:=hx 0 hk Z S r e;cases h1;cases q;rfl
  | one Mqa hf F hr hm hb hcl=>
   cases args with
   | nil=>cases hk
   | cons a as=>
    rw[La,Kj]at ns;exact(ue (p:=p) (cpos:=cpos) (pos:=pos) Zx.hh Mqa hf F hr g1 hm hb Zx.w hcl ga g2 (aq ns.1) (aO ns.2)).mono (ho _) (hx 1 hk)
 ·cases h
def gX {n:Kt}(ih:∀ {st:LO} {s':Sm},cX R n Γ st=bt s'->GX X cl Ew st (eh (bN M fuel s')) (xF (bN M fuel s'))):∀ {ss:Kg LO} {r:Ss},eR (cX R n Γ) ss=bt r->Bv X cl Ew ss (eh (bQ M fuel r)) (xF (bQ M fuel r))
 | [],r,h=>by
  cases h;exact zT
 | s::ss,r,h=>by
  obtain⟨s',ss',h1,h2,rfl⟩:=gS h;have g:=wy (ih h1) (gX ih h2);rw[<- Aq,<- DN]at g;exact g
def Au (fuel:Kt)(K:CtxOk M X Γ)(Zx:XOk X R cl Ew):∀(n:Kt) {st:LO} {s':Sm},cX R n Γ st=bt s'->GX X cl Ew st (eh (bN M fuel s')) (xF (bN M fuel s')):=by
 intro n
 induction n with
 | zero=>intro st s' h; cases h
 | succ n ih=>
  intro st s' h;cases st with
  | Return o p=>
   cases o with
   | none=>exact mN K h
   | some e=>
    replace h:(cE aJ Γ e).map (λe'=>Sm.ret (.tup #v[.c .non,e']))=bt s':=h
    rw[Ko]at h;obtain⟨e',h1,rfl⟩:=h;exact(og (ql (aR _ K h1).1)).mono (λZ S r e=>DQ e) λZ S r e=>by rw[DR]at e; cases e
  | Raise exc cause pos=>
   have bad:GV Γ (.Raise exc cause pos)=gV:=rfl;have plain:GV Γ (.Raise exc cause pos)=bt s'->GX X cl Ew (.Raise exc cause pos) (eh (bN M fuel s')) (xF (bN M fuel s')):=λz=>by rw[bad]at z; cases z
   cases cause with
   | some _=>cases exc with
    | none=>exact plain h
    | some e=>cases e with
     | Call f args kw cpos=>cases f with
      | Name c p=>cases kw <;> exact plain h
      | _=>exact plain h
     | _=>exact plain h
   | none=>cases exc with
    | none=>exact plain h
    | some e=>cases e with
     | Call f args kw cpos=>cases f with
      | Name c p=>cases kw with
       | nil=>exact At K Zx h
       | cons _ _=>exact plain h
      | _=>exact plain h
     | _=>exact plain h
  | If t a b p=>
   replace h:(match cE aJ Γ t,eR (cX R n Γ) a,eR (cX R n Γ) b with|some t',bt a',bt b'=>bt (Sm.ite t' a' b')|_,_,_=>gV)=bt s':=h
   split at h
   ·rename_i t' a' b' h1 h2 h3;cases h;have g:=FV (pos:=p) (aR _ K h1).2 (gX ih h2) (gX ih h3);rw[<- DO,<- GU]at g;exact g
   ·cases h
  | For tg it b o p=>
   cases o with
   | cons _ _=>exact mN K h
   | nil=>
    replace h:(match cT Γ tg,cI Γ (cE aJ Γ) tg it,eR (cX R n Γ) b with|some t,bt i,bt b'=>bt (Sm.loop t i b')|_,_,_=>gV)=bt s':=h
    split at h
    ·rename_i t i b' h1 h2 h3;cases h;have g:=Dz (pos:=p) K.xe K.calm (mH K (λz=>(aR _ K z).1) h2) (oH K h1) (gX ih h3) (ji (n:=aJ) (λel k p=>rfl) h2)
     rw[<- Ar,<- DP]at g;exact g
    ·cases h
  | _=>exact mN K h
end
abbrev pr (g:FF):FF:=λws S=>match g ws S with
 | some (w,S')=>(uO w).map λv=>(v,S')
 | none=>gV
abbrev xG (g:FF):FW:=λws S=>match g ws S with
 | some (w,S')=>(xV w).map λp=>(p.1,p.2,S')
 | none=>gV
section
variable{P:KF}{w:KS}{K:Kr}{mg:Ks->Kk Ki}{base:K7}
inductive CK (P:KF)(w:KS)(K:Kr)(mg:Ks->Kk Ki)(base:K7)(cl:Cl)(c:Ks):Kt->Prop
 | zero {f C:Kn} {cd:Mb} {fd:Lv} {ps:Kg Ks} (Mqa:XM K C f cd) (F:FnOk P w K mg base jF 1 f fd ps (zf K)) (hm:mg c=bt (.ref C)) (hb:Binds K fd ps []) (hc:cl c=bt (C,[])):CK P w K mg base cl c 0
 | one {f C:Kn} {cd:Mb} {fd:Lv} {ps:Kg Ks} {g:Ks} (Mqa:XM K C f cd) (hf:Nl K (.ref C) g=bt gV) (F:FnOk P w K mg base jF 1 f fd ps (vE K g)) (hm:mg c=bt (.ref C)) (hb:Binds K fd ps []) (hc:cl c=bt (C,[g])):CK P w K mg base cl c 1
def CK.rk {cl:Cl}{c:Ks}{n:Kt}(h:CK P w K mg base cl c n){X:Cx}(e1:X.prog=P)(e2:X.w=w)(e3:X.K=K)(e4:X.mg=mg)(e5:X.base=base)(hr:Room 2 X.A):RK X cl c n:=by
 subst e1 e2 e3 e4 e5;cases h with
 | zero Mqa F hm hb hc=>exact .zero Mqa F hr hm hb hc
 | one Mqa hf F hm hb hc=>exact .one Mqa hf F hr hm hb hc
def DS {Mqa:Md}{R:Kg (Ks×Kt)}{cl:Cl}{defs:Kg (Ks×Df)}{fuel d:Kt}{x x' qual:Ks}{st:LO}{f:Kn}{fd:Lv}{df:Df}(F:Fun K x qual st f fd)(S:FnScope df.N df.ps (ap st))(hd:defs.lookup x'=bt df)
  (hc:eR (cX R 20 (dZ Mqa st df.N)) (aM st)=bt df.body) (hb:MdOk w K mg Mqa) (prev:rX P w K mg base Mqa defs fuel d) (ck:∀c k,R.lookup c=bt k->CK P w K mg base cl c k) :
  FnOk P w K mg base (CXx P w) (d+3) f fd df.ps (spX w K cl df.ps.length (pr (aj defs fuel (d+1) x')) (xG (aj defs fuel (d+1) x'))):=by
 have F2:=Dw (P:=P) (w:=w) (mg:=mg) (base:=base) (cl:=cl) (k:=d+2) (fs:=eh (bQ (aj defs fuel d) fuel df.body)) (fx:=xF (bQ (aj defs fuel d) fuel df.body)) F S λcdv A outer s H E hr=>by
  have K':CtxOk (aj defs fuel d) (eC (CXx P w) P w K mg base df.N qual (ap st) f cdv A outer s H E) (dZ Mqa st df.N):=by
   show#[rfl,S.kind,rfl,S.nd,rfl,Dy,?_,λ_ _=>rfl,λ_ h=>(nomatch h),hb.blt,hb.cst _ rfl rfl rfl,hb.gds _ rfl rfl rfl,λg n hg=>?_]
   ·have:=hr.un;show(A.deeper _).units+20 < cLine;omega
   ·obtain⟨fa,fd',ps',h1,h2,h3,h4⟩:=prev g n hg;exact#[d+2,fa,fd',ps',h1,hr,h2,h3,h4]
  exact gX (λz=>Au fuel K' #[hr.hd,Am,λc k h=>(ck c k h).rk rfl rfl rfl rfl rfl (hr.mono (Nat.le_add_left _ _))] 20 z) hc
 show F2.imp λvs H Q E h=>?_
 have key:∀ {ws:Kg W} {S:aa} {wv:W} {S':aa},ws.length=df.ps.length->aj defs fuel (d+1) x' ws S=bt (wv,S')->(∃o,bQ (aj defs fuel d) fuel df.body (bc df.N ws) S=bt (o,S')/\(o=.rt wv\/(wv=.non/\∃Z,o=.nx Z))):=λ{ws S wv S'} hl e=>by
  dsimp only[aj]at e;rw[hd]at e;dsimp only at e;rw[KQ hl]at e;split at e
  ·rename_i w1 S1 h1; cases e; exact#[_,h1,.inl rfl]
  ·rename_i Z1 S1 h1; cases e; exact#[_,h1,.inr #[rfl,_,rfl]]
  ·cases e
 rcases h with⟨A,St,ws,w',S',so,rl,hl,e,hq⟩|⟨A,St,ws,cn,us,S',C,gs,so,rl,hl,e,hc',hq⟩
 ·show .ok #[A,St,ws,w',S',so,rl,hl,?_,hq];unfold pr at e;split at e
  ·rename_i w1 S1 e1;rw[Ko]at e;obtain⟨v,e2,e3⟩:=e;cases e3;obtain⟨o,e4,rfl|⟨rfl,Z,rfl⟩⟩:=key hl e1
   ·unfold rY eh;rw[e4];dsimp only[HE];rw[e2];rfl
   ·cases e2;unfold rY eh;rw[e4];rfl
  ·cases e
 ·show .xc A St ws cn us S' C gs so rl hl ?_ hc' hq;unfold xG at e;split at e
  ·rename_i w1 S1 e1;rw[Ko]at e;obtain⟨v,e2,e3⟩:=e;cases e3;obtain⟨o,e4,rfl|⟨rfl,Z,rfl⟩⟩:=key hl e1
   ·unfold BB xF;rw[e4];dsimp only[xO];rw[e2];rfl
   ·cases e2
  ·cases e
abbrev GY (f:Ks)(n:Kt):Ss:=.cons (.sem λM Z S=>match M f ((Z.take n).filterMap id) S with
 | some (w,S')=>(uO w).map λv=>(.rt v,S')
 | none=>gV) .nil
def qB {N:Kg Ks}{ws:Kg W}{n:Kt}(h:ws.length=n):((bc N ws).take n).filterMap id=ws:=by
 subst h;unfold bc;rw[List.take_append_of_le_length (by simp),L6 (by simp),P7]
 induction ws with
 | nil=>rfl
 | cons w ws ih=>simp[Nc]
def DU {cl:Cl}{defs:Kg (Ks×Df)}{fuel d n k k':Kt}{x x':Ks}{f:Kn}{fd:Lv}{ps:Kg Ks}{df:Df}(F:FnOk P w K mg base (CXx P w) k f fd ps (spX w K cl n (pr (aj defs fuel d x')) (xG (aj defs fuel d x'))))(hd:defs.lookup x=bt df)(hn:df.ps.length=n)(hb:df.body=GY x' n)(hk:k<=k') :
  FnOk P w K mg base jF k' f fd ps (spF w K n (aj defs fuel (d+1) x)):=by
 have conv:∀vs H Q (E E':L2.XK),spF w K n (aj defs fuel (d+1) x) vs H Q E->spX w K cl n (pr (aj defs fuel d x')) (xG (aj defs fuel d x')) vs H Q E':=λvs H Q E E' #[A,S0,ws,w',S',so,rl,hl,e,hq]=>by
  show .ok #[A,S0,ws,w',S',so,rl,hl,?_,hq];dsimp only[aj]at e;rw[hd]at e;dsimp only at e;rw[KQ (hl.trans hn.symm),hb]at e;dsimp only[GY,bQ,bN,iZ]at e;rw[qB hl]at e;unfold pr;cases h:aj defs fuel d x' ws S0 with
  | none=>rw[h]at e; cases e
  | some p=>
   obtain⟨w1,S1⟩:=p;rw[h]at e;dsimp only at e ⊢;cases h2:uO w1 with
   | none=>rw[h2]at e; cases e
   | some v=>rw[h2]at e; cases e; rfl
 show#[λvs H Q E z=>F.len vs H Q E (conv vs H Q E E z),λA outer s H args us vs Q E hr he hbd hv z=>?_]
 show MO (F.run A outer s H args us vs Q (λ_ _ _=>Lj) (hr.mono hk) he hbd hv (conv vs H Q E _ z)) λr s' h=>?_
 cases r with
 | error e=>obtain⟨_,_,_,_,_,_,_,_,_,_,_,_,_,_,q⟩:=h; exact q.elim
 | ok fl=>cases fl <;> exact h
end
section
variable{K:Kr}{wd:KS}{A A':Kg Kn}{H:Hp}{S:aa}
def EnvRel.unset {Z:Fm}{Y:L2.St}(h:EnvRel K A H Z Y)(i:Kt):EnvRel K A H (Z.set i gV) (Y.set i gV):=by
 show#[by simp[h.1],λj w q=>?_]
 rw[M7]at q ⊢
 by_cases e:i=j
 ·subst e;rw[KQ rfl]at q;split at q <;> cases q
 ·rw[KY e]at q ⊢;exact h.2 j w q
def ObjRel.grow {a:Kn}{b:O}(e:Ext K A H A' H)(h:ObjRel wd K A H a b):ObjRel wd K A' H a b:=by
 cases b with
 | exc cn C gs ws=>
  obtain⟨ob,dd,q,r⟩:=h;show#[ob,dd,q,?_];rcases r with r|⟨dx,od,vs,e1,e2,e3⟩
  ·exact .inl r
  ·exact .inr #[dx,od,vs,e1,e2,e3.mono e]
 | _=>first|exact h|(obtain⟨vs,q,r⟩:=h; exact#[vs,q,r.mono e])|(obtain⟨ob,xs,q,r⟩:=h; exact#[ob,xs,q,r.mono e])
def gY {p:Kn}:Ext K A H (A++[p]) H:=#[λi a h=>by rw[Lk (KB.mp h).1]; exact h,λ_ _ h=>h,λ_ _ _ h=>h]
def StoreOk.pushN {p:Kn}{n:O}(h:StoreOk wd K A H S)(hm:n.mut=false)(r:ObjRel wd K (A++[p]) H p n):StoreOk wd K (A++[p]) H (S++[n]):=by
 have old:∀ {i:Kt} {o:O} {a:Kn},(S++[n])[i]?=bt o->(A++[p])[i]?=bt a->i < S.length->S[i]?=bt o/\A[i]?=bt a:=λ{i o a} e ea hl=>by
  rw[Lk hl]at e;rw[Lk (h.len ▸ hl)]at ea;exact#[e,ea]
 have new:∀ {i:Kt} {o:O},(S++[n])[i]?=bt o->¬ i < S.length->i=S.length/\o=n:=λ{i o} e hl=>by
  have hi:i=S.length:=by
   have:=(KB.mp e).1;simp at this;omega
  subst hi;simp at e;exact#[rfl,e.symm]
 show#[by simp[h.len],λi j a o u e1 m1 e2 m2 a1 a2=>?_,λi o a e ea=>?_]
 ·by_cases hi:i < S.length
  ·by_cases hj:j < S.length
   ·obtain⟨x1,y1⟩:=old e1 a1 hi;obtain⟨x2,y2⟩:=old e2 a2 hj;exact h.nd i j a o u x1 m1 x2 m2 y1 y2
   ·rw[(new e2 hj).2,hm]at m2; cases m2
  ·rw[(new e1 hi).2,hm]at m1; cases m1
 ·by_cases hi:i < S.length
  ·obtain⟨x1,y1⟩:=old e ea hi;exact(h.obj i o a x1 y1).grow gY
  ·obtain⟨rfl,rfl⟩:=new e hi;rw[<- h.len]at ea;simp at ea;subst ea;exact r
def StoreOk.frz {p:Kn}{φ:K7->Prop}{u:HO}(h:StoreOk wd K A H S)(hp:H p=bt (.ext φ))(hn:∀(j:Kt) (o:O),S[j]?=bt o->o.mut=true->A[j]?≠bt p):StoreOk wd K A (aE H p u) S:=
 #[h.len,h.nd,λi b a e ea=>(h.obj i b a e ea).keep (.ext hp) (λhm z=>hn i b e hm (z ▸ ea)) (aX (.ext hp))]
end
section
variable{X:Cx}{J:Kg (Kn×LJ)}{Y:L2.St}{s:Km}{A:Kg Kn}{H H':Hp}{S1:aa}{C a:Kn}{gs:Kg Ks}{ws:Kg W}{dd:Kk Kn}
def sd {φ:K7->Prop}(I:L2.Inv X J Y H s)(ha:H a=bt (.ext φ)):∃o,L2.Inv X J Y (aE H a (.frz o (.ext φ))) s:=by
 have z:=I.hok a _ ha;obtain⟨x,⟨o,ho⟩,st⟩:=z;exact#[o,I.write (o:=.frz o (.ext φ)) (t':=s.toks) (h':=s.heap) (x:=a) (e:=a) (by rw[ha]; trivial) (.inl rfl) (λb u _ q=>q) #[_,ho] #[ho,x,#[o,ho],st]]
def sf {φ ψ:K7->Prop}(h:bt (HO.ext φ)=bt (HO.ext ψ)):φ=ψ:=by cases h; rfl
def xL (I:L2.Inv X J Y H' s)(ha:H' a=bt (.ext (Ex a C dd))){A':Kg Kn}(so:StoreOk X.w X.K A' H' S1)(j:Kt)(o:O)(ej:S1[j]?=bt o)(mj:o.mut=true):A'[j]?≠bt a:=λea=>by
 have r:=so.obj j o a ej ea;obtain⟨⟨vs,sl,x⟩,_⟩:=I.hok a _ ha;cases o with
 | lst ws=>obtain⟨us,q,_⟩:=r; rw[ha]at q; cases q
 | dis U=>have q:H' a=bt (.dK (cx U)):=r; rw[ha]at q; cases q
 | dic U=>
  obtain⟨xs,q,_⟩:=r;rw[ha]at q;have e:=sf q;have y:DicAt X.w a xs s.heap:=by rw[<- e]; exact#[vs,sl,x]
  obtain⟨_,_,_,ob,es,ep,g1,g2,g3,_⟩:=y;rw[x]at g1;cases g1;cases g3
 | _=>cases mj
def DV (cn:Ks)(I:L2.Inv X J Y H' s)(ha:H' a=bt (.ext (Ex a C dd)))(q:EndX X.w X.K A H S1 C gs ws (.ref C) dd H'):∃A2 H2,L2.Inv X J Y H2 s/\Ext X.K A H A2 H2/\A2[S1.length]?=bt a/\StoreOk X.w X.K A2 H2 (S1++[.exc cn C gs ws]):=by
 obtain⟨oa,I2⟩:=sd I ha;cases q with
 | no A' ec eg ed e so=>
  subst ed eg;show#[A'++[a],_,I2,(e.trans (aX (.ext ha))).trans gY,by rw[<- so.len]; simp,?_]
  exact(so.frz ha (xL I ha so)).pushN rfl #[oa,gV,am,.inl #[rfl,rfl]]
 | «at» A' dx vs ec ed hd nd e so r=>
  subst ed;have ne:dx≠a:=λz=>by
   subst z;rw[ha]at hd;have e:=sf hd;obtain⟨⟨vs',sl,x⟩,_⟩:=I.hok dx _ ha;have y:Dx dx (gs.zip vs) s.heap:=by rw[<- e]; exact#[vs',sl,x]
   obtain⟨mA,⟨o,es,ep,g1,g2,_⟩,_⟩:=y;rw[x]at g1;cases g1;cases g2
  have hd2:aE H' a (.frz oa (.ext (Ex a C (bt dx)))) dx=bt (.ext (Dx dx (gs.zip vs))):=by rw[al ne]; exact hd
  obtain⟨od,I3⟩:=sd I2 hd2;have x1:Ext X.K A' H' A' (aE H' a (.frz oa (.ext (Ex a C (bt dx))))):=aX (.ext ha);have x2:=aX (K:=X.K) (A:=A') (o:=.frz od (.ext (Dx dx (gs.zip vs)))) (Wr.ext hd2);show#[A'++[a],_,I3,((e.trans x1).trans x2).trans gY,by rw[<- so.len]; simp,?_]
  show((so.frz ha (xL I ha so)).frz hd2 nd).pushN rfl #[oa,bt dx,by rw[al (Ne.symm ne),am],.inr #[dx,od,vs,rfl,am,?_]]
  exact r.mono ((x1.trans x2).trans gY)
noncomputable abbrev Cx.tr (X:Cx)(J:Kg (Kn×LJ))(E:Ki->Km->Prop):Cx:={ X with pn:=X.pn++J,xe:=E }
def DY {E:Ki->Km->Prop}(I:L2.Inv X J Y H s):L2.Inv (Cx.tr X J E) [] Y H s:=by
 obtain⟨ok,i2,i3,i4,i5,i6,i7,i8,i9,i10,i11⟩:=I;exact#[#[ok.mod,ok.kind,ok.glob,ok.blt,ok.above,ok.inj,ok.has,ok.cab,ok.hd,ok.frames,ok.stk,ok.exf,ok.bs,ok.bsz,ok.noex,ok.exfs,ok.funs,ok.frf],i2,i3,i4,i5,i6,i7,i8,λp hp=>i9 p (by rw[LK]at hp; exact hp),i10,i11]
def gZ {E:Ki->Km->Prop}{J1:Kg (Kn×LJ)}(I:L2.Inv (Cx.tr X J E) J1 Y H s):L2.Inv X J Y H s:=by
 obtain⟨ok,i2,i3,i4,i5,i6,i7,i8,i9,i10,i11⟩:=I;exact#[#[ok.mod,ok.kind,ok.glob,ok.blt,ok.above,ok.inj,ok.has,ok.cab,ok.hd,ok.frames,ok.stk,ok.exf,ok.bs,ok.bsz,ok.noex,ok.exfs,ok.funs,ok.frf],i2,i3,i4,i5,i6,i7,i8,λp hp=>i9 p (LZ _ hp),i10,i11]
def DZ {E:Ki->Km->Prop}{D:Ends}{f:Tv}(h:SP (Cx.tr X J E) [] D f s):SP X J D f s:=by
 cases f with
 | next=>obtain⟨Y',H',I,q⟩:=h; exact#[Y',H',gZ I,q]
 | brk=>obtain⟨Y',H',I,q⟩:=h; exact#[Y',H',gZ I,q]
 | cont=>obtain⟨Y',H',I,q⟩:=h; exact#[Y',H',gZ I,q]
 | ret u=>obtain⟨v,Y',H',I,r,q⟩:=h; exact#[v,Y',H',gZ I,r,q]
def Av {E:Ki->Km->Prop}{J1:Kg (Kn×LJ)}{a0:Ki}(Yj:Air (Cx.tr X J E) J1 Y H s a C dd a0):Air X J Y H s a C dd a0:=
 #[gZ Yj.inv,Yj.fly,Yj.new,Yj.ext,Yj.low,λp hp=>Yj.pin p (LZ _ hp)]
end
abbrev xM (f:FS)(fx:FX)(sb:Ks->KR)(cl:Cl)(i:Kt)(h:FS):FS:=λZ S=>match f Z S with
  | some r=>bt r
  | none=>match fx Z S with
    | some (cn,ws,S1)=>match cl cn with
      | some (C,gs)=>if sb cn=true then(match h (Z.set i (bt (.ref S1.length))) (S1++[.exc cn C gs ws])with
        | some (.nx Z',S2)=>bt (.nx (Z'.set i gV),S2)
        | some (.rt w,S2)=>bt (.rt w,S2)
        | _=>gV)else gV
      | none=>gV
    | none=>gV
abbrev MX (X:Cx)(cl:Cl)(Ew:L2.XK)(Y0:L2.St)(f:FS)(fx:FX):TS:=λD Y H=>Y=Y0/\(tS X f D Y H\/tX X cl Ew fx Y H)
def xN (X Yj:Cx)(eK:Yj.K=X.K)(ew:Yj.w=X.w){A:Kg Kn}{H:Hp}{o:Out}{S':aa}{D:Ends}(d:Imp (EndS X A H o S') D):Imp (EndS Yj A H o S') D:=
 #[λ_ _ #[Z',A',eo,e,so,er]=>d.nx _ _ #[Z',A',eo,eK ▸ e,eK ▸ ew ▸ so,eK ▸ er],λ_ _ #[w,A',eo,e,so,r]=>d.rt _ _ #[w,A',eo,eK ▸ e,eK ▸ ew ▸ so,eK ▸ r],
  λ_ _ #[Z',A',eo,e,so,er]=>d.bk _ _ #[Z',A',eo,eK ▸ e,eK ▸ ew ▸ so,eK ▸ er],λ_ _ #[Z',A',eo,e,so,er]=>d.ct _ _ #[Z',A',eo,eK ▸ e,eK ▸ ew ▸ so,eK ▸ er]]
def D0 {X:Cx}{cl:Cl}{body suite:Kg LO}{b0:LO}{c n:Ks}{np hpos pos:L9}{D:Kn}{i:Kt}{f:FS}{fx:FX}{h:FS}{sb:Ks->KR}
  (hst:X.stack=X.env::X.outer) (hfr:X.env.frame=bt X.env.locals) (hN:X.N.Nodup) (hi:X.N[i]?=bt n) (hx:X.env.scope.names.lookup n=bt .local) (hg:Gl X c) (hm:X.mg c=bt (.ref D)) (T:XD X.K D) (hdb:(c==("__debug__" : Ks))=false)
  (hs:∀cn C gs,cl cn=bt (C,gs)->sb cn=true->P1 X.K (.ref C) (.ref D)=bt true)
  (hb:∀J E Y0 Ew,(∀J1 H s a C dd a0,Air (Cx.tr X J E) J1 Y0 H s a C dd a0->Ew (.ref C) dd H->E (.ref a) s)->PSs (Cx.tr X J E) body (MX (Cx.tr X J E) cl Ew Y0 f fx))
  (hh:∀a,GSs (re X a) (b0::suite) h):GS X (.Try body [.ExceptHandler (bt (.Name c np)) (bt n) (b0::suite) hpos] [] [] pos) (xM f fx sb cl i h):=by
 intro J s Y H Dd I ⟨A,Z,S,o,S',er,so,e,d⟩;show Fw (X:=X) (J:=J) (Q:=SP X J Dd) hst hfr hN hi hx hg hm T ?_ hdb;have run:∀Ew:L2.XK,(∀J1 H s a C dd a0,Air (Cx.tr X J (Caught X J D i b0 suite (SP X J Dd))) J1 Y H s a C dd a0->Ew (.ref C) dd H->Caught X J D i b0 suite (SP X J Dd) (.ref a) s)->MX (Cx.tr X J (Caught X J D i b0 suite (SP X J Dd))) cl Ew Y f fx Dd Y H->
   wpAny (model X.prog X.w) X.A (execs body X.env) (SP X J Dd) (Caught X J D i b0 suite (SP X J Dd)) s:=λEw hw q=>
  Lf (hb J _ Y Ew hw [] s Y H Dd (DY I) q) (λfl s1 z=>DZ z) λ_ _ z=>z
 unfold xM at e;split at e
 ·rename_i r h1;cases e;exact run (λ_ _ _=>Lj) (λ_ _ _ _ _ _ _ _ z=>z.elim) #[rfl,.inl #[A,Z,S,o,S',er,so,h1,xN X (Cx.tr X J (Caught X J D i b0 suite (SP X J Dd))) rfl rfl d]]
 ·rename_i h1;split at e
  ·rename_i cn ws S1 h2;split at e
   ·rename_i C gs h3;split at e
    ·rename_i h4;show run (λcls dd H'=>EndX X.w X.K A H S1 C gs ws cls dd H') (λJ1 H' s1 a C' dd a0 Yj q=>?_) #[rfl,.inr #[A,Z,S,cn,ws,S1,C,gs,er,so,h2,h3,λ_ _ _ z=>z]]
     obtain rfl:C'=C:=by
      cases q with
      | no A' ec eg ed e so=>cases ec; rfl
      | «at» A' dx vs ec ed hd nd e so r=>cases ec; rfl
     have Yz:=Av Yj;show#[a,C',dd,a0,Y,H',rfl,Yz,hs cn C' gs h3 h4,λs2 I2=>?_]
     obtain⟨A2,H2,I3,ex,ea,so2⟩:=DV cn I2 Yz.ext q;have er2:EnvRel X.K A2 H2 (Z.set i (bt (.ref S1.length))) (Y.set i (bt (.ref a))):=(er.mono ex).set (.ref ea) i;have fin:∀o2 S2,h (Z.set i (bt (.ref S1.length))) (S1++[.exc cn C' gs ws])=bt (o2,S2)->Imp (EndS (re X a) A2 H2 o2 S2) { nx:=λY' H'=>Dd.nx (Y'.set i gV) H',rt:=Dd.rt,bk:=λ_ _=>Lj,ct:=λ_ _=>Lj }->
       wpAny (model X.prog X.w) (re X a).A (execs (b0::suite) X.env) (λf s3=>∃Y3 H3,L2.Inv (re X a) J Y3 H3 s3/\∀s4,L2.Inv X J (Y3.set i gV) H3 s4->SP X J Dd f s4) (λ_ _=>Lj) s2:=λo2 S2 e2 im=>by
      show Lf (hh a J s2 _ H2 _ I3 #[A2,_,_,o2,S2,er2,so2,e2,im]) (λfl s3 z=>?_) λ_ _ z=>z
      cases fl with
      | next=>obtain⟨Y',H3,I4,q⟩:=z; exact#[Y',H3,I4,λs4 I5=>#[_,_,I5,q]]
      | ret u=>obtain⟨v,Y',H3,I4,r,q⟩:=z; exact#[Y',H3,I4,λs4 I5=>#[v,_,_,I5,r,q]]
      | brk=>obtain⟨Y',H3,I4,q⟩:=z; exact q.elim
      | cont=>obtain⟨Y',H3,I4,q⟩:=z; exact q.elim
     split at e
     ·rename_i Z' S2 h5;cases e;show fin _ _ h5 #[λY' H3 #[Z2,A3,eo,e3,so3,er3]=>?_,λv H3 #[w,A3,eo,_,_,_]=>(by cases eo),λY' H3 #[Z2,A3,eo,_,_,_]=>(by cases eo),λY' H3 #[Z2,A3,eo,_,_,_]=>(by cases eo)]
      cases eo;exact d.nx _ _ #[_,A3,rfl,ex.trans e3,so3,er3.unset i]
     ·rename_i w S2 h5;cases e;show fin _ _ h5 #[λY' H3 #[Z2,A3,eo,_,_,_]=>(by cases eo),λv H3 #[w2,A3,eo,e3,so3,r3]=>?_,λY' H3 #[Z2,A3,eo,_,_,_]=>(by cases eo),λY' H3 #[Z2,A3,eo,_,_,_]=>(by cases eo)]
      cases eo;exact d.rt _ _ #[_,A3,rfl,ex.trans e3,so3,r3]
     ·cases e
    ·cases e
   ·cases e
  ·cases e
section
variable{X:Cx}{cl:Cl}{Ew:L2.XK}{Y0:L2.St}
abbrev ME (X:Cx)(cl:Cl)(Ew:L2.XK)(Y0:L2.St)(e:KC)(f:FE)(fx:FX):Prop:=PE X e λY H Q=>Y=Y0/\(tE X f Y H Q\/tX X cl Ew fx Y H)
abbrev MT (X:Cx)(cl:Cl)(Ew:L2.XK)(Y0:L2.St)(e:KC)(f:FT)(fx:FX):Prop:=PT X e λY H Q=>Y=Y0/\(tT X f Y H Q\/tX X cl Ew fx Y H)
def Aw {CX:pL}{k:Kt}{f:Kn}{fd:Lv}{ps:Kg Ks}{sp:Sp}{E:L2.XK}{J:Kg (Kn×LJ)}{H:Hp}{s:Km}{Q:VK}{us:Kg Ki}{vs:Kg V}(F:FnOk X.prog X.w X.K X.mg X.base CX k f fd ps sp)(hr:Room k X.A)(hb:Binds X.K fd ps [])
  (hx:∀J H s e s',L2.Inv X J Y0 H s->CX X.stack H s E e s'->X.xe e s') (I:L2.Inv X J Y0 H s) (r:Vals vs us) (h:sp vs H Q E):wpAny (model X.prog X.w) X.A (call (.ref f) us) (EP X J Y0 Q) X.xe s:=by
 have hl:(us++[]).length=ps.length:=by rw[LK,<- r.length]; exact F.len _ _ _ _ h
 have b:=hb s us I.kIn hl;rw[LK]at b;show NC (MO (F.run X.A X.stack s H #[us,[]] us vs Q E hr I.env0 b r h) λr s' hq=>?_)
 cases r with
 | error e=>exact hx J H s e s' I hq
 | ok fl=>
  cases fl with
  | ret u=>exact I.after hq
  | next=>exact Lj.elim hq
  | brk=>exact Lj.elim hq
  | cont=>exact Lj.elim hq
def D1 {k n:Kt}{fa:Kn}{fd:Lv}{ps:Kg Ks}{g:FF}{gx:FW}{x:Ks}{e:KC}{es:Kg KC}{p pos:L9}{f:FA}(F:FnOk X.prog X.w X.K X.mg X.base (CXx X.prog X.w) k fa fd ps (spX X.w X.K cl n g gx))(hr:Room k X.A)(hg:Gl X x)(hm:X.mg x=bt (.ref fa))
  (hk:Lw X.K (.ref fa)=true) (hb:Binds X.K fd ps []) (hw:∀J H s a C dd a0,Air X J Y0 H s a C dd a0->Ew (.ref C) dd H->X.xe (.ref a) s) (ha:GA X (e::es) f) (hdb:(x==("__debug__" : Ks))=false) (he:starEach (e::es) X.env=(false,eval e X.env)::starEach es X.env) (hpl:(backTo pos (starEach es X.env)).any (·.1)=false) :
  ME X cl Ew Y0 (.Call (.Name x p) (e::es) [] pos) (dI n g f) (gP n gx f):=by
 have hx:∀J H s e s',L2.Inv X J Y0 H s->CXx X.prog X.w X.stack H s Ew e s'->X.xe e s':=λJ H s e s' I h=>by
  obtain⟨a,C,dd,a0,H',rfl,Yj,q⟩:=CI I h;exact hw _ _ _ _ _ _ _ Yj q
 intro J s Y H Q I ⟨es0,q⟩;subst es0;show My (ce I hg hm ?_ hdb);have go:∀ {A:Kg Kn} {Z:Fm} {S:aa} {ws:Kg W} {S1:aa},EnvRel X.K A H Z Y->StoreOk X.w X.K A H S->f Z S=bt (ws,S1)->(∀vs H1,EndA X A H S1 ws vs H1->spX X.w X.K cl n g gx vs H1 Q Ew)->wpAny (model X.prog X.w) X.A (callWith pos (.ref fa) [] (backTo pos (starEach (e::es) X.env)) (backToKw pos (keywordEach [] X.env))) (EP X J Y Q) X.xe s:=λ{A Z S ws S1} er so h1 h2=>
  OA (h₀:=X.base) I.ok.mod.kin hk (aK (ha pos J s Y H (λvs H1=>spX X.w X.K cl n g gx vs H1 Q Ew) I #[A,Z,S,ws,S1,er,so,h1,h2]) λus s1 #[vs,H1,I1,r,q]=>#[I1.kIn,Aw F hr hb hx I1 r q]) he hpl
 rcases q with⟨A,Z,S,w,S',er,so,e1,q⟩|⟨A,Z,S,cn,ws,S',C,gs,er,so,e1,hc,q⟩
 ·unfold dI at e1;split at e1
  ·rename_i ws S1 h1;split at e1
   ·rename_i hl;exact go er so h1 λvs H1 #[A1,ex,so1,r]=>.ok #[A1,S1,ws,w,S',so1,r,hl,e1,λv H2 z=>q v H2 (z.after ex)]
   ·cases e1
  ·cases e1
 ·unfold gP at e1;split at e1
  ·rename_i us S1 h1;split at e1
   ·rename_i hl;exact go er so h1 λvs H1 #[A1,ex,so1,r]=>.xc A1 S1 us cn ws S' C gs so1 r hl e1 hc λcls dd H2 z=>q cls dd H2 (z.after ex)
   ·cases e1
  ·cases e1
def D2 {a b:KC}{o:COp}{pos:L9}{fa fb:FE}{fx:FX}(hu:X.A.units+d8 < cLine)(ha:ME X cl Ew Y0 a fa fx)(hb:GE X b fb)(hm:behindInMarks o.py b=false):MT X cl Ew Y0 (.Compare a [o.py] [b] pos) (gl (t6 o fa fb)) fx:=by
 intro J s Y H Q I ⟨es0,q⟩;show qW (jV hu o).opr ha hb hm J s Y H Q I ?_;show#[es0,?_];rcases q with⟨A,Z,S,k,S',er,so,e,hq⟩|q
 ·apply Or.inl;unfold gl at e;split at e
  ·rename_i k' S'' h0;cases e;obtain⟨x,S1,y,S2,h1,h2,h3⟩:=two h0;show dw er so h1 h2 λa b H2 A2 e2 o2 r1 r2=>#[A2,S2,x,y,_,_,o2,r1,r2,h3,λv H' #[A',z1,z2,z3]=>?_]
   cases z3;exact#[k,rfl,hq _ _ #[rfl,A',e2.trans z1,z2]]
  ·cases e
 ·exact .inr q
def GZ {c:KC}{a b:Kg LO}{pos:L9}{fc:FT}{f g:FS}{fx:FX}(hc:MT X cl Ew Y0 c fc fx)(ha:GSs X a f)(hb:GSs X b g):PS X (.If c a b pos) (MX X cl Ew Y0 (gO fc f g) fx):=by
 intro J s Y H D I ⟨es0,q⟩;show uU hc ha hb J s Y H D I #[es0,?_];rcases q with⟨A,Z,S,o,S',er,so,e,d⟩|q
 ·apply Or.inl;unfold gO at e;split at e
  ·rename_i S1 h1;show#[A,Z,S,_,S1,er,so,h1,λb H1 #[z0,A1,z1,z2]=>?_]
   subst z0;rw[KQ rfl];exact#[A1,Z,S1,o,S',er.mono z1,z2,e,(EndS.after z1).trans d]
  ·rename_i S1 h1;show#[A,Z,S,_,S1,er,so,h1,λb H1 #[z0,A1,z1,z2]=>?_]
   subst z0;rw[KY #v[]]
   exact#[A1,Z,S1,o,S',er.mono z1,z2,e,(EndS.after z1).trans d]
  ·cases e
 ·exact .inr q
def G0 {e:KC}{pos:L9}{f:FE}{fx:FX}(h:ME X cl Ew Y0 e f fx)(hs:swapsWith e gV pos.line X.env=pure false):PS X (.Expr e pos) (MX X cl Ew Y0 (n0 f) fx):=by
 intro J s Y H D I ⟨es0,q⟩;show lZ h hs J s Y H D I #[es0,?_];rcases q with⟨A,Z,S,o,S',er,so,e,d⟩|q
 ·apply Or.inl;unfold n0 at e;split at e
  ·rename_i w S1 h1;cases e;exact#[A,Z,S,w,_,er,so,h1,λv H1 #[A1,z1,z2,z3]=>d.nx _ _ #[Z,A1,rfl,z1,z2,er.mono z1]]
  ·cases e
 ·exact .inr q
def xP {tg e:KC}{pos:L9}{f:FE}{fx:FX}{g:FG}(h:ME X cl Ew Y0 e f fx)(hg:GG X tg g)(hs:swapsWithSole [tg] e pos.line X.env=pure false)(hw:swappedStores [tg] e X.env=pure gV)(h1:(assignEach [tg] X.env).map (·.2)=[assign tg X.env]) :
  PS X (.Assign [tg] e pos) (MX X cl Ew Y0 (dJ f g) fx):=by
 intro J s Y H D I ⟨es0,q⟩;show uW h hg hs hw h1 J s Y H D I #[es0,?_];rcases q with⟨A,Z,S,o,S',er,so,e,hd⟩|q
 ·apply Or.inl;unfold dJ at e;split at e
  ·rename_i w S1 h1;split at e
   ·rename_i Z1 S2 h2;cases e;show#[A,Z,S,w,S1,er,so,h1,λv H1 #[A1,z1,z2,z3]=>?_]
    exact#[A1,Z,S1,w,Z1,_,er.mono z1,z2,z3,h2,λY' H' A' y1 y2 y3=>hd.nx _ _ #[Z1,A',rfl,z1.trans y1,y2,y3]]
   ·cases e
  ·cases e
 ·exact .inr q
end
abbrev eV (cn D:Ks):KR:=D==cn||D==("LayError" : Ks)||D==("ValueError" : Ks)
abbrev EQ (i:Kt)(cl:Cl)(k:Ks->Kg Ks->Kg W->Kk W):FE:=λZ S=>match Z[i]? with
 | some (bt (.ref j))=>match S[j]? with
  | some (.exc cn C gs ws)=>if cl cn=bt (C,gs)then(k cn gs ws).map λw=>(w,S)else gV
  | _=>gV
 | _=>gV
abbrev g0 (cl:Cl)(sb:Ks->KR)(i:Kt):FE:=EQ i cl λcn _ _=>bt (.bl (sb cn))
abbrev uz (cl:Cl)(g:Ks)(i:Kt):FE:=EQ i cl λ_ gs ws=>(gs.zip ws).lookup g
def g6 {i:Kt}{cl:Cl}{k:Ks->Kg Ks->Kg W->Kk W}{Z:Fm}{S S':aa}{w:W}(h:EQ i cl k Z S=bt (w,S')):∃j cn C gs ws,Z[i]?=bt (bt (.ref j))/\S[j]?=bt (.exc cn C gs ws)/\cl cn=bt (C,gs)/\k cn gs ws=bt w/\S'=S:=by
 unfold EQ at h;split at h
 ·rename_i j h1;split at h
  ·rename_i cn C gs ws h2;split at h
   ·rename_i h3;rw[Ko]at h;obtain⟨w',h4,h5⟩:=h;cases h5;exact#[j,cn,C,gs,ws,h1,h2,h3,h4,rfl]
   ·cases h
  ·cases h
 ·cases h
structure HCtx (X:Cx)(Γ:Gam)(cls:Kg Ks)(cl:Cl):Prop where
 names:X.env.scope.names=Γ.sc
 N:X.N=Γ.N
 nd:Γ.N.Nodup
 un:X.A.units+d8 < cLine
 dfn:∀x,X.fn x=true
 blt:∀x∈Γ.blt,X.mg x=gV
 xk:∀cn C gs,cl cn=bt (C,gs)->(∃cd,XK X.K C cd)/\X.base.get? C≠gV/\XT X.K C (.type "ValueError") true/\∀g∈gs,Nl X.K (.ref C) g=bt gV
 xt:∀D∈cls,∃Da,X.mg D=bt (.ref Da)/\∀cn C gs,cl cn=bt (C,gs)->XT X.K C (.ref Da) (eV cn D)
section
variable{X:Cx}{Γ:Gam}{cls:Kg Ks}{cl:Cl}
def Ax (K:HCtx X Γ cls cl){x:Ks}(h:bz Γ x=true):Gl X x/\(x==("__debug__" : Ks))=false:=by
 unfold bz at h;rw[Kj]at h;show#[?_,by simpa using h.2]
 change X.env.scope.names.lookup x=_;rw[K.names];exact eq_of_beq h.1
def lL (K:HCtx X Γ cls cl){x:Ks}{pos:L9}{i:Kt}(h:slot Γ x=bt i):PE X (.Name x pos) (nv i):=by
 unfold slot at h;split at h
 ·rename_i hc;rw[Kj,Kj]at hc;obtain⟨⟨h1,h2⟩,h3⟩:=hc;exact fX (by rw[K.N]; exact a8 h) (oG (by rw[K.names]; exact h1)) (by simpa using h2) (by simpa using h3)
 ·cases h
def Ay (K:HCtx X Γ cls cl){x:Ks}{i:Kt}(h:aV Γ x=bt i):X.N[i]?=bt x/\uQ X.env.scope x/\(X.fn x=true\/X.env.scope.names.lookup x=bt .local):=by
 unfold aV at h;split at h
 ·rename_i hc;show#[by rw[K.N]; exact a8 h,?_,.inl (K.dfn x)]
  unfold L2.uQ;rw[K.names];rw[Ms,Kj]at hc;rcases hc with hc|⟨hd,hc⟩
  ·exact .inl (eq_of_beq hc)
  ·exact .inr (eq_of_beq hc)
 ·cases h
def ObjRel.xin {wd:KS}{K:Kr}{A:Kg Kn}{H:Hp}{a:Kn}{cn:Ks}{C:Kn}{gs:Kg Ks}{ws:Kg W}(h:ObjRel wd K A H a (.exc cn C gs ws)):∃dd,EK H a C dd:=by
 obtain⟨o,dd,q,r⟩:=h;show#[dd,#[o,q],?_];rcases r with⟨rfl,_⟩|⟨dx,od,vs,rfl,e,_⟩
 ·exact .inl rfl
 ·exact .inr #[dx,_,od,rfl,e]
def Az {H:Hp}{a C p:Kn}{dd:Kk Kn}{u:HO}(h:EK H a C dd)(hp:H p=gV):EK (L2.aE H p u) a C dd:=by
 obtain⟨⟨o,h1⟩,h2⟩:=h;have ne:∀ {b v},H b=bt v->b≠p:=λhb z=>by rw[z,hp]at hb; cases hb
 show#[#[o,by rw[al (ne h1)]; exact h1],?_]
 rcases h2 with rfl|⟨dx,fs,o',rfl,e⟩
 ·exact .inl rfl
 ·exact .inr #[dx,fs,o',rfl,by rw[al (ne e)]; exact e]
def D3 (K:HCtx X Γ cls cl){x D:Ks}{i:Kt}{p p1 p2 pos:L9}(hg:Gl X "isinstance")(hm:X.mg "isinstance" = gV)(hs:slot Γ x=bt i)(gD:Gl X D)(dD:(D==("__debug__" : Ks))=false)(hD:D∈cls) :
  GE X (.Call (.Name "isinstance" p) [.Name x p1,.Name D p2] [] pos) (g0 cl (λcn=>eV cn D) i):=by
 obtain⟨Da,mD,xt⟩:=K.xt D hD;show GE.of (eD li hg hm rfl (bD (lL K hs) (bD (lY (v:=.ref Da) gD mD rfl dD) f8)) #v[] #v[] rfl rfl) λY H A Z S w S' er so e Q hq=>?_
 obtain⟨j,cn,C,gs,ws,h1,h2,h3,h4,rfl⟩:=g6 e;cases h4;obtain⟨v,e1,r⟩:=er.2 i _ h1;cases r with
 | @ref _ a ea=>
  obtain⟨dd,xi⟩:=(so.obj j _ a h2 ea).xin;obtain⟨⟨cd,xk⟩,_,_,_⟩:=K.xk cn C gs h3;exact#[_,e1,a,C,cd,dd,.ref Da,_,rfl,xk,xi,.inl #[Da,rfl,xt cn C gs h3],hq _ _ (.here so .bl)]
def D4 (K:HCtx X Γ cls cl){x:Ks}{i:Kt}{p p1 p2 pos:L9}(hg:Gl X "isinstance")(hm:X.mg "isinstance" = gV)(hs:slot Γ x=bt i)(gD:Gl X "ValueError")(mD:X.mg "ValueError" = gV) :
  GE X (.Call (.Name "isinstance" p) [.Name x p1,.Name "ValueError" p2] [] pos) (g0 cl (λ_=>true) i):=by
 show GE.of (eD li hg hm rfl (bD (lL K hs) (bD (qT (v:=.ty "ValueError") (u:=.type "ValueError") gD mD rfl rfl #v[] #v[]) f8)) #v[] #v[] rfl rfl) λY H A Z S w S' er so e Q hq=>?_
 obtain⟨j,cn,C,gs,ws,h1,h2,h3,h4,rfl⟩:=g6 e;cases h4;obtain⟨v,e1,r⟩:=er.2 i _ h1;cases r with
 | @ref _ a ea=>
  obtain⟨dd,xi⟩:=(so.obj j _ a h2 ea).xin;obtain⟨⟨cd,xk⟩,_,xv,_⟩:=K.xk cn C gs h3;exact#[_,e1,a,C,cd,dd,.ty "ValueError",true,rfl,xk,xi,.inr #[_,rfl,xv],hq _ _ (.here so .bl)]
abbrev fE:Kg KC->Kk (Kg Ks)
 | []=>bt []
 | .Name x _::es=>(fE es).map (x :: ·)
 | _::_=>gV
def xQ (K:HCtx X Γ cls cl):∀ {es:Kg KC} {ds:Kg Ks},fE es=bt ds->(ds.all λD=>bz Γ D&&cls.contains D)=true->
  ∃das:Kg Kn,das.length=ds.length/\PA X es (λ_ H Q=>Q (das.map V.ref) H)/\∀cn C gs,cl cn=bt (C,gs)->∃bs,XTs X.K C (das.map KZ) bs/\bs.any id=ds.any (eV cn)
 | [],ds,h,_=>by
  cases h;exact#[[],rfl,f8,λ_ _ _ _=>#[[],.nil,rfl]]
 | e::es,ds,h,ha=>by
  cases e with
  | Name x p=>
   replace h:(fE es).map (x :: ·)=bt ds:=h
   rw[Ko]at h;obtain⟨ds',h1,rfl⟩:=h;rw[La,Kj,Kj]at ha;obtain⟨⟨a1,a2⟩,a3⟩:=ha;obtain⟨das,l,pa,q⟩:=xQ K h1 a3;obtain⟨g1,g2⟩:=Ax K a1;obtain⟨Da,mD,xt⟩:=K.xt x (by simpa using a2)
   show#[Da::das,by simp[l],bD (lY (v:=.ref Da) g1 mD rfl g2) pa,λcn C gs hc=>?_]
   obtain⟨bs,b1,b2⟩:=q cn C gs hc;exact#[_::bs,.cons (xt cn C gs hc) b1,by rw[Ml,Ml,b2]; rfl]
  | _=>cases h
def D5 (K:HCtx X Γ cls cl){x:Ks}{es:Kg KC}{ds:Kg Ks}{i k:Kt}{p p1 p2 pos:L9}(hg:Gl X "isinstance")(hm:X.mg "isinstance" = gV)(hs:slot Γ x=bt i)(hd:fE es=bt ds)(ha:(ds.all λD=>bz Γ D&&cls.contains D)=true)(hl:ds.length<=1000) :
  GE X (.Call (.Name "isinstance" p) [.Name x p1,.Tuple es k p2] [] pos) (g0 cl (λcn=>ds.any (eV cn)) i):=by
 obtain⟨das,l,pa,q⟩:=xQ K hd ha;show GE.of (eD pS hg hm rfl (bD (lL K hs) (bD (u6 pa) f8)) #v[] #v[] rfl rfl) λY H A Z S w S' er so e Q hq=>?_
 obtain⟨j,cn,C,gs,ws,h1,h2,h3,h4,rfl⟩:=g6 e;cases h4;obtain⟨v,e1,r⟩:=er.2 i _ h1;cases r with
 | @ref _ a ea=>
  obtain⟨dd,xi⟩:=(so.obj j _ a h2 ea).xin;obtain⟨⟨cd,xk⟩,xb,_,_⟩:=K.xk cn C gs h3;obtain⟨bs,b1,b2⟩:=q cn C gs h3;show#[_,e1,by rw[Kv,l]; exact qy (Lp hl),λtp ht=>#[a,C,cd,dd,tp,das,bs,rfl,xk,Az xi ht,am,xb,b1,?_]]
  rw[b2];exact hq _ _ #[A,aX (.inl ht),so.lay ht,.bl]
def oQ {K:Kr}{A:Kg Kn}{H:Hp}{g:Ks}{w:W}:∀ {gs:Kg Ks} {ws:Kg W} {vs:Kg V},RelL K A H ws vs->(gs.zip ws).lookup g=bt w->g∈gs/\∃v,(gs.zip vs).lookup g=bt v/\Rel K A H w v
 | [],_,_,_,h=>by cases h
 | _::_,_,_,.nil,h=>by cases h
 | y::gs,w'::ws,v'::vs,.cons r t,h=>by
  rw[Qf,K5]at h;rw[Qf,K5];cases e:g==y with
  | true=>
   rw[e]at h;cases h;exact#[by rw[eq_of_beq e]; exact KP,v',rfl,r]
  | false=>
   rw[e]at h;obtain⟨h1,h2⟩:=oQ t h;exact#[KM _ h1,h2]
def D6 (K:HCtx X Γ cls cl){x g:Ks}{i:Kt}{p pos:L9}(hs:slot Γ x=bt i):GE X (.Attribute (.Name x p) g pos) (uz cl g i):=by
 show GE.of (vD (lL K hs) rfl) λY H A Z S w S' er so e Q hq=>?_
 obtain⟨j,cn,C,gs,ws,h1,h2,h3,h4,rfl⟩:=g6 e;obtain⟨v,e1,r⟩:=er.2 i _ h1;cases r with
 | @ref _ a ea=>
  obtain⟨⟨cd,xk⟩,xb,_,hf⟩:=K.xk cn C gs h3;obtain⟨o,dd,q,aF⟩:=so.obj j _ a h2 ea;rcases aF with⟨_,rfl⟩|⟨dx,od,vs,rfl,e2,rl⟩
  ·cases h4
  ·obtain⟨hm,y,z1,z2⟩:=oQ rl h4;exact#[_,e1,a,C,cd,dx,_,y,o,od,rfl,xk,hf g hm,q,e2,z1,hq _ _ (.here so z2)]
end
abbrev D7 (Γ:Gam)(cls:Kg Ks)(cl:Cl)(i:Kt):KC->Kk E
 | .Name D _=>if bz Γ D&&cls.contains D then bt (.sem (g0 cl (λcn=>eV cn D) i))else if bz Γ D&&(D==("ValueError" : Ks))&&Γ.blt.contains D then bt (.sem (g0 cl (λ_=>true) i))else gV
 | .Tuple es _ _=>match fE es with
  | some ds=>if (ds.all λD=>bz Γ D&&cls.contains D)&&decide (ds.length<=1000)then bt (.sem (g0 cl (λcn=>ds.any (eV cn)) i))else gV
  | none=>gV
 | _=>gV
abbrev qC (cls:Kg Ks)(cl:Cl)(n:Ks)(i:Kt)(Γ:Gam):Kt->KC->Kk E
 | 0,_=>gV
 | k+1,e=>match e with
  | .Constant (.int j) _ _=>bt (.c (.int j))
  | .Constant (.str x) _ _=>bt (.c (.str x))
  | .Constant (.bool b) _ _=>bt (.c (.bl b))
  | .Constant .none _ _=>bt (.c .non)
  | .Name x _=>match slot Γ x with
   | some j=>bt (.v j)
   | none=>gV
  | .UnaryOp .Not a _=>(qC cls cl n i Γ k a).map .not
  | .BoolOp op vs _=>cB (qC cls cl n i Γ k) op vs
  | .Tuple es _ _=>(cA (qC cls cl n i Γ k) es).map .tup
  | .Attribute (.Name x _) g _=>if x==n&&slot Γ n==bt i then bt (.sem (uz cl g i))else gV
  | .Call (.Name f _) [.Name x _,c] [] _=>if f==("isinstance" : Ks)&&bz Γ f&&Γ.blt.contains f&&x==n&&slot Γ n==bt i then D7 Γ cls cl i c else gV
  | _=>gV
abbrev BM (cls:Kg Ks)(cl:Cl)(n:Ks)(i:Kt)(Γ:Gam):Kt->LO->Kk Sm
 | 0,_=>gV
 | k+1,st=>match st with
  | .Assign [.Name x _] e _=>match aV Γ x,qC cls cl n i Γ 20 e with
   | some j,bt e'=>bt (.set j e')
   | _,_=>gV
  | .Return (bt e) _=>(qC cls cl n i Γ 20 e).map .ret
  | .If t a b _=>match qC cls cl n i Γ 20 t,eR (BM cls cl n i Γ k) a,eR (BM cls cl n i Γ k) b with
   | some t',bt a',bt b'=>bt (.ite t' a' b')
   | _,_,_=>gV
  | _=>gV
section
variable{M:Ks->FF}{fuel:Kt}{X:Cx}{Γ:Gam}{cls:Kg Ks}{cl:Cl}{n:Ks}{i:Kt}
def mO {f:KC->Kk E}{op:RS}{pos:L9}(ih:∀ {e:KC} {e':E},f e=bt e'->GE X e (ar M e')):∀ {vs:Kg KC} {r:E},cB f op vs=bt r->GE X (.BoolOp op vs pos) (ar M r)
 | [],r,h=>by cases h
 | [a],r,h=>wj (ih h)
 | a::b::aF,r,h=>by
  simp only[cB]at h;split at h
  ·rename_i a' b' h1 h2;cases h;cases op with
   | And=>exact wk (ih h1) (mO ih h2)
   | Or=>exact Bs (ih h1) (mO ih h2)
  ·cases h
def mP {f:KC->Kk E}{op:RS}{pos:L9}(ih:∀ {e:KC} {e':E},f e=bt e'->GT X e (bE M e')):∀ {vs:Kg KC} {r:E},cB f op vs=bt r->GW X (.BoolOp op vs pos) (bE M r)
 | [],r,h=>by cases h
 | [a],r,h=>by
  cases op with
  | And=>exact rF (ih h)
  | Or=>exact we (ih h)
 | a::b::aF,r,h=>by
  simp only[cB]at h;split at h
  ·rename_i a' b' h1 h2;cases h;cases op with
   | And=>exact wf (ih h1) (mP ih h2)
   | Or=>exact Br (ih h1) (mP ih h2)
  ·cases h
def xR {f:KC->Kk E}(ns:∀ {e:KC} {e':E},f e=bt e'->dL e=true)(ih:∀ {e:KC} {e':E},f e=bt e'->GE X e (ar M e')):∀ {es:Kg KC} {r:Es},cA f es=bt r->GA X es (bg M r)
 | [],r,h=>by cases h; exact wm
 | e::es,r,h=>by
  obtain⟨e',es',h1,h2,rfl⟩:=dM h;exact rJ (ih h1) (xR ns ih h2) (aq (ns h1))
def qD {k:Kt}{e:KC}{e':E}(h:qC cls cl n i Γ k e=bt e'):dL e=true:=by
 cases k with
 | zero=>cases h
 | succ k=>cases e <;> first|rfl|(exact ak h)
def G1 (K:HCtx X Γ cls cl){p p1 pos:L9}{c:KC}{r:E}(hg:bz Γ ("isinstance" : Ks)=true)(hb:Γ.blt.contains ("isinstance" : Ks)=true)(hs:slot Γ n=bt i)(h:D7 Γ cls cl i c=bt r):∃g,r=.sem g/\GE X (.Call (.Name "isinstance" p) [.Name n p1,c] [] pos) g:=by
 obtain⟨g1,g2⟩:=Ax K hg;have hm:X.mg "isinstance" = gV:=K.blt _ (by simpa using hb)
 cases c with
 | Name D q=>
  replace h:(if bz Γ D&&cls.contains D then bt (E.sem (g0 cl (λcn=>eV cn D) i))else if bz Γ D&&(D==("ValueError" : Ks))&&Γ.blt.contains D then bt (E.sem (g0 cl (λ_=>true) i))else gV)=bt r:=h
  split at h
  ·rename_i hc;rw[Kj]at hc;obtain⟨g3,g4⟩:=Ax K hc.1;cases h;exact#[_,rfl,D3 K g1 hm hs g3 g4 (by simpa using hc.2)]
  ·split at h
   ·rename_i hc;rw[Kj,Kj]at hc;obtain⟨g3,g4⟩:=Ax K hc.1.1;have e:=eq_of_beq hc.1.2;subst e;cases h;exact#[_,rfl,D4 K g1 hm hs g3 (K.blt _ (by simpa using hc.2))]
   ·cases h
 | Tuple es k q=>
  replace h:(match fE es with|some ds=>if (ds.all λD=>bz Γ D&&cls.contains D)&&decide (ds.length<=1000)then bt (E.sem (g0 cl (λcn=>ds.any (eV cn)) i))else gV|none=>gV)=bt r:=h
  split at h
  ·rename_i ds hd;split at h
   ·rename_i hc;rw[Kj,KN]at hc;cases h;exact#[_,rfl,D5 K g1 hm hs hd hc.1 hc.2]
   ·cases h
  ·cases h
 | _=>cases h
def kn (K:HCtx X Γ cls cl):∀(k:Kt) {e:KC} {e':E},qC cls cl n i Γ k e=bt e'->GE X e (ar M e')/\GT X e (bE M e'):=by
 intro k
 induction k with
 | zero=>intro e e' h; cases h
 | succ k ih=>
  intro e e' h;cases e with
  | Constant c j p=>
   cases c <;> cases h
   all_goals first
    | exact#[ee lW (λ_ _=>.non),aN (ee lW (λ_ _=>.non)) λ_=>rfl]
    | exact#[ee nw (λ_ _=>.bl),aN (ee nw (λ_ _=>.bl)) λ_=>rfl]
    | exact#[ee lV (λ_ _=>.int),aN (ee lV (λ_ _=>.int)) λ_=>rfl]
    | exact#[ee lX (λ_ _=>.str),aN (ee lX (λ_ _=>.str)) λ_=>rfl]
  | Name x p=>
   replace h:(match slot Γ x with|some j=>bt (E.v j)|none=>gV)=bt e':=h
   split at h
   ·rename_i j h1;cases h;exact#[CZ (lL K h1),aN (CZ (lL K h1)) λ_=>rfl]
   ·cases h
  | UnaryOp op a p=>
   cases op with
   | Not=>
    replace h:(qC cls cl n i Γ k a).map E.not=bt e':=h;rw[Ko]at h;obtain⟨a',h1,rfl⟩:=h;exact#[wl (ih h1).1,wg (ih h1).2]
   | _=>exact ak h
  | BoolOp op vs p=>
   replace h:cB (qC cls cl n i Γ k) op vs=bt e':=h;exact#[mO (λz=>(ih z).1) h,(mP (λz=>(ih z).2) h).pt]
  | Tuple es j p=>
   replace h:(cA (qC cls cl n i Γ k) es).map E.tup=bt e':=h;rw[Ko]at h;obtain⟨r,h1,rfl⟩:=h;have g:=qk (k:=j) (pos:=p) (xR (λz=>qD z) (λz=>(ih z).1) h1)
   exact#[g,aN g λ_=>rfl]
  | Attribute o g p=>
   cases o with
   | Name x q=>
    replace h:(if x==n&&slot Γ n==bt i then bt (E.sem (uz cl g i))else gV)=bt e':=h
    split at h
    ·rename_i hc;rw[Kj]at hc;have e:=eq_of_beq hc.1;subst e;cases h;have g:=D6 (g:=g) (p:=q) (pos:=p) K (eq_of_beq hc.2);exact#[g,aN g λ_=>rfl]
    ·cases h
   | _=>exact ak h
  | Call f args kws p=>
   cases kws with
   | cons _ _=>cases f <;> first|(exact ak h)|(match args,h with|[],h=>exact ak h|[a],h=>(cases a <;> exact ak h)|[a,b],h=>(cases a <;> exact ak h)|a::b::c::d,h=>(cases a <;> exact ak h))
   | nil=>
    cases f with
    | Name x q=>
     match args,h with
     | [],h=>exact ak h
     | [a],h=>cases a <;> exact ak h
     | a::b::c::d,h=>cases a <;> exact ak h
     | [a,c],hh=>
      cases a with
      | Name y q2=>
       replace hh:(if x==("isinstance" : Ks)&&bz Γ x&&Γ.blt.contains x&&y==n&&slot Γ n==bt i then D7 Γ cls cl i c else gV)=bt e':=hh
       split at hh
       ·rename_i hc;rw[Kj,Kj,Kj,Kj]at hc;obtain⟨⟨⟨⟨c1,c2⟩,c3⟩,c4⟩,c5⟩:=hc;have e:=eq_of_beq c1;subst e;have e:=eq_of_beq c4;subst e;obtain⟨g,rfl,z⟩:=G1 (p:=q) (p1:=q2) (pos:=p) K c2 c3 (eq_of_beq c5) hh;exact#[z,aN z λ_=>rfl]
       ·cases hh
      | _=>exact ak hh
    | _=>exact ak h
  | _=>exact ak h
def D8 {k:Kt}{e:KC}{e':E}{t:Kk KC}{l:Kt}{env:Ov}(h:qC cls cl n i Γ k e=bt e'):swapsWith e t l env=pure false:=by
 cases k with
 | zero=>cases h
 | succ k=>cases e <;> first|(exfalso; exact ak h)|rfl
def jl {k:Kt}(ih:∀ {st:LO} {s':Sm},BM cls cl n i Γ k st=bt s'->GS X st (bN M fuel s')):∀ {ss:Kg LO} {r:Ss},eR (BM cls cl n i Γ k) ss=bt r->GSs X ss (bQ M fuel r)
 | [],r,h=>by cases h; exact gN
 | s::ss,r,h=>by
  obtain⟨s',ss',h1,h2,rfl⟩:=gS h;exact jY (ih h1) (jl ih h2)
def xS (fuel:Kt)(K:HCtx X Γ cls cl):∀(k:Kt) {st:LO} {s':Sm},BM cls cl n i Γ k st=bt s'->GS X st (bN M fuel s'):=by
 have hN:X.N.Nodup:=by rw[K.N]; exact K.nd
 intro k
 induction k with
 | zero=>intro st s' h; cases h
 | succ k ih=>
  intro st s' h;cases st with
  | Return o p=>
   cases o with
   | none=>exact ak h
   | some e=>
    replace h:(qC cls cl n i Γ 20 e).map Sm.ret=bt s':=h;rw[Ko]at h;obtain⟨e',h1,rfl⟩:=h;exact ql (kn K _ h1).1
  | If t a b p=>
   replace h:(match qC cls cl n i Γ 20 t,eR (BM cls cl n i Γ k) a,eR (BM cls cl n i Γ k) b with|some t',bt a',bt b'=>bt (Sm.ite t' a' b')|_,_,_=>gV)=bt s':=h
   split at h
   ·rename_i t' a' b' h1 h2 h3;cases h;exact Bu (kn K _ h1).2 (jl ih h2) (jl ih h3)
   ·cases h
  | Assign ts e p=>
   match ts,h with
   | [],h=>exact ak h
   | a::_::_,h=>cases a <;> exact ak h
   | [t],h=>
    cases t with
    | Name x px=>
     replace h:(match aV Γ x,qC cls cl n i Γ 20 e with|some j,bt e'=>bt (Sm.set j e')|_,_=>gV)=bt s':=h
     split at h
     ·rename_i j e' h1 h2;cases h;obtain⟨a,b,c⟩:=Ay K h1;exact mx (kn K _ h2).1 (jh hN a b c) (show swapsWith e (bt (.Name x px)) p.line X.env=pure false from D8 h2) (by cases e <;> rfl) rfl
     ·cases h
    | _=>exact ak h
  | _=>exact ak h
end
end Mi
namespace Mi
open PySem PySem.Spec PyProof.Rows L2
section
variable{M:Ks->FF}{fuel:Kt}{Z:Fm}{S:aa}{K:Fm->aa->Prop}{Q:QO}
abbrev D9 (M:Ks->FF)(fuel:Kt)(b:Ss)(Z:Fm)(S:aa)(I:Fm->aa->Prop)(Q:QO):Prop:=∀Q':QO,(∀Z' S',I Z' S'->Q' (.nx Z',S'))->(∀w S',Q (.rt w,S')->Q' (.rt w,S'))->wZ M fuel b Z S Q'
def mQ {tg:Tg}{it:Ie}{b:Ss}{mi:MI}{S1:aa}{xs:Kg W}(I:Kt->Fm->aa->Prop)(ok:iF b=true)(hi:lH M it Z S=bt (mi,S1))(hat:∀i Z S,I i Z S->mi.at S i=bt xs[i]?)(hl:mi.len S1=bt xs.length)(h0:I 0 Z S1)
  (hstep:∀(i:Kt) (w:W) (Z:Fm) (S:aa),xs[i]?=bt w->I i Z S->wO (ul tg w Z S) λq=>D9 M fuel b q.1 q.2 (I (i+1)) Q) (hend:∀Z S,I xs.length Z S->K Z S):Wp (bN M fuel (.loop tg it b) Z S) (po K Q):=by
 rw[bN,Gz];show#[_,hi,xs.length,hl,?_];show iC (Q:=po K Q) I hat (λi w Z S h1 h2=>?_) (λZ S h=>hend Z S h) _ 0 Z S1 ∅ h0
 exact(aS (hstep i w Z S h1 h2)).mono λq hq=>gq b ok (wZ.out (hq _ (λ_ _ h=>h) λ_ _ h=>h))
def db {e:E}{Q:QW}(ok:d0 e=true)(h:wE M e Z S Q):∃w S',ar M e Z S=bt (w,S')/\Q (w,S'):=let ⟨⟨w,S'⟩,a,b⟩:=aB e ok h; #[w,S',a,b]
def mR {i0:Kt}{e:E}{b:Ss}(j:KD)(I:Kt->Fm->aa->Prop)(oe:d0 e=true)(ok:iF b=true)(hj : -(2 ^ 62)<=j/\j < 2 ^ 62)(he:wE M e Z S λp=>p.1=.int j/\I 0 Z p.2)
  (hstep:∀(i:Kt) (Z:Fm) (S:aa),(i:KD) < j->I i Z S->D9 M fuel b (Z.set i0 (bt (.int i))) S (I (i+1)) Q) (hend:∀Z S,I j.toNat Z S->K Z S):Wp (bN M fuel (.loop (.nm i0) (.rng #v[e]) b) Z S) (po K Q):=by
 obtain⟨w,S1,e1,rfl,h0⟩:=db oe he;have hl:(eN 0 j.toNat).length=j.toNat:=by simp[eN]
 show mQ (mi:=.its (eN 0 j.toNat)) (S1:=S1) (xs:=eN 0 j.toNat) I ok ?_ (λ_ _ _ _=>rfl) rfl h0 (λi w Z S hw hI=>?_) λZ S hI=>hend Z S (hl ▸ hI)
 ·simp only[lH,bg,cH,gM,ug,e1];rw[KQ hj]
 ·rw[eO]at hw;split at hw
  ·rename_i hk;cases hw;rw[QI];exact hstep i Z S ∅ hI
  ·cases hw
def sg {tg:Tg}{e:E}{b:Ss}(t:Kt)(xs:Kg W)(I:Kt->Fm->aa->Prop)(oe:d0 e=true)(ok:iF b=true)(he:wE M e Z S λp=>p.1=.ref t/\I 0 Z p.2)(hat:∀i Z S,I i Z S->S[t]?=bt (.lst xs))
  (hstep:∀(i:Kt) (w:W) (Z:Fm) (S:aa),xs[i]?=bt w->I i Z S->wO (ul tg w Z S) λq=>D9 M fuel b q.1 q.2 (I (i+1)) Q) (hend:∀Z S,I xs.length Z S->K Z S):Wp (bN M fuel (.loop tg (.seq e) b) Z S) (po K Q):=by
 obtain⟨w,S1,e1,rfl,h0⟩:=db oe he;exact mQ (mi:=.live t) (S1:=S1) I ok (by simp only[lH,fR,e1,aP (hat _ _ _ h0)]) (λi Z S h=>by simp only[MI.at,aP (hat _ _ _ h)]) (by simp only[MI.len,aP (hat _ _ _ h0),L5]) h0 hstep hend
def G2 {t:E}{b:Ss}(I:Kt->Fm->aa->Prop)(m:Kt)(ot:d0 t=true)(ok:iF b=true)(hm:m < fuel)(h0:I m Z S)
  (hstep:∀m Z S,I m Z S->wT M t Z S λk=>(k.1=true->∃m',m=m'+1/\D9 M fuel b Z k.2 (I m') Q)/\(k.1=false->K Z k.2)):Wp (bN M fuel (.whl t b) Z S) (po K Q):=by
 rw[bN];show km (Q:=po K Q) I (λm Z S hI=>(gT t ot (hstep m Z S hI)).mono λk hk=>#[λz=>?_,λz=>hk.2 z]) fuel m Z S hm h0
 obtain⟨m',e,h⟩:=hk.1 z;exact#[m',e,gq b ok (wZ.out (h _ (λ_ _ h=>h) λ_ _ h=>h))]
abbrev wC (M:Ks->FF):Es->Fm->aa->QB->Prop
 | .nil,_,S,Q=>Q (true,S)
 | .cons e .nil,Z,S,Q=>wT M e Z S Q
 | .cons _ (.cons _ _),_,_,_=>Lj
def BN {cs:Es}{Q:QB}(ok:qx cs=true)(h:wC M cs Z S Q):Wp (Ah M cs Z S) Q:=by
 match cs,h,ok with
 | .nil,h,_=>exact GB.mpr h
 | .cons e .nil,h,ok=>exact GC.mpr (gT e (br ok) h)
abbrev si (M:Ks->FF)(elt:E)(cs:Es)(Z:Fm)(S:aa)(G:W->Fm->aa->Prop)(N:Fm->aa->Prop):Prop:=wC M cs Z S λk=>(k.1=true->wE M elt Z k.2 λy=>G y.1 Z y.2)/\(k.1=false->N Z k.2)
def xT {elt:E}{tg:Tg}{it:Ie}{cs:Es}{cap:Kg (Kk Kt)}{mi:MI}{S1:aa}{xs:Kg W}{Q:QW}(I:Kt->Kg W->Fm->aa->Prop)(oe:d0 elt=true)(oc:qx cs=true)(hi:lH M it Z S=bt (mi,S1))(hat:∀i ys Z S,I i ys Z S->mi.at S i=bt xs[i]?)(hl:mi.len S1=bt xs.length)(h0:I 0 [] (eP cap Z) S1)
  (hstep:∀(i:Kt) (w:W) (ys:Kg W) (Z:Fm) (S:aa),xs[i]?=bt w->I i ys Z S->wO (ul tg w Z S) λq=>si M elt cs q.1 q.2 (λy=>I (i+1) (ys++[y])) (I (i+1) ys))
  (hend:∀ys Z S,I xs.length ys Z S->ys.length<=sizeLine/\Q (.ref S.length,S++[.lst ys])):Wp (ar M (.comp elt tg it cs cap) Z S) Q:=by
 rw[xw];show#[_,hi,xs.length,hl,?_];show(cy (xs:=xs) (Q:=λq=>q.1.length<=sizeLine/\Q (.ref q.2.length,q.2++[.lst q.1])) I hat (λi w ys Z S h1 h2=>?_) hend xs.length 0 [] _ S1 ∅ h0).mono λq hq=>by simpa using hq
 exact(aS (hstep i w ys Z S h1 h2)).mono λq hq=>(BN oc hq).mono λk hk=>#[λz=>aB elt oe (hk.1 z),hk.2]
def sj {elt e:E}{i0:Kt}{cs:Es}{cap:Kg (Kk Kt)}{Q:QW}(j:KD)(I:Kt->Kg W->Fm->aa->Prop)(oi:d0 e=true)(oe:d0 elt=true)(oc:qx cs=true)(hj : -(2 ^ 62)<=j/\j < 2 ^ 62)(he:wE M e Z S λp=>p.1=.int j/\I 0 [] (eP cap Z) p.2)
  (hstep:∀(i:Kt) (ys:Kg W) (Z:Fm) (S:aa),(i:KD) < j->I i ys Z S->si M elt cs (Z.set i0 (bt (.int i))) S (λy=>I (i+1) (ys++[y])) (I (i+1) ys))
  (hend:∀ys Z S,I j.toNat ys Z S->ys.length<=sizeLine/\Q (.ref S.length,S++[.lst ys])):Wp (ar M (.comp elt (.nm i0) (.rng #v[e]) cs cap) Z S) Q:=by
 obtain⟨w,S1,e1,rfl,h0⟩:=db oi he;have hl:(eN 0 j.toNat).length=j.toNat:=by simp[eN]
 show xT (mi:=.its (eN 0 j.toNat)) (S1:=S1) (xs:=eN 0 j.toNat) I oe oc ?_ (λ_ _ _ _ _=>rfl) rfl h0 (λi w ys Z S hw hI=>?_) λys Z S hI=>hend ys Z S (hl ▸ hI)
 ·simp only[lH,bg,cH,gM,ug,e1];rw[KQ hj]
 ·rw[eO]at hw;split at hw
  ·rename_i hk;cases hw;rw[QI];exact hstep i ys Z S ∅ hI
  ·cases hw
def AA {elt e:E}{tg:Tg}{cs:Es}{cap:Kg (Kk Kt)}{Q:QW}(t:Kt)(xs:Kg W)(I:Kt->Kg W->Fm->aa->Prop)(oi:d0 e=true)(oe:d0 elt=true)(oc:qx cs=true)(he:wE M e Z S λp=>p.1=.ref t/\I 0 [] (eP cap Z) p.2)(hat:∀i ys Z S,I i ys Z S->S[t]?=bt (.lst xs))
  (hstep:∀(i:Kt) (w:W) (ys:Kg W) (Z:Fm) (S:aa),xs[i]?=bt w->I i ys Z S->wO (ul tg w Z S) λq=>si M elt cs q.1 q.2 (λy=>I (i+1) (ys++[y])) (I (i+1) ys))
  (hend:∀ys Z S,I xs.length ys Z S->ys.length<=sizeLine/\Q (.ref S.length,S++[.lst ys])):Wp (ar M (.comp elt tg (.seq e) cs cap) Z S) Q:=by
 obtain⟨w,S1,e1,rfl,h0⟩:=db oi he;exact xT (mi:=.live t) (S1:=S1) I oe oc (by simp only[lH,fR,e1,aP (hat _ _ _ _ h0)]) (λi ys Z S h=>by simp only[MI.at,aP (hat _ _ _ _ h)]) (by simp only[MI.len,aP (hat _ _ _ _ h0),L5]) h0 hstep hend
def st {s:Sm}{ss:Ss}(h:wS M fuel s Z S (λZ' S'=>wZ M fuel ss Z' S' Q) Q):wZ M fuel (.cons s ss) Z S Q:=#[by
 dsimp only[Ap];simp only[GQ];exact h]
def cw (h:Q (.nx Z,S)):wZ M fuel .nil Z S Q:=#[h]
def aG {t:KR}{a b:Ss}{Q Q0:QO}{K:Fm->aa->Prop}(ha:t=true->∀Q':QO,(∀Z' S',K Z' S'->Q' (.nx Z',S'))->(∀w S',Q (.rt w,S')->Q' (.rt w,S'))->wZ M fuel a Z S Q')(hb:t=false->∀Q':QO,(∀Z' S',K Z' S'->Q' (.nx Z',S'))->(∀w S',Q (.rt w,S')->Q' (.rt w,S'))->wZ M fuel b Z S Q') :
  ∀Q':QO,(∀Z' S',K Z' S'->Q' (.nx Z',S'))->(∀o S',(∀Z',o≠.nx Z')->Q (o,S')->Q' (o,S'))->(t=true->Ap M fuel a Z S Q')/\(t=false->Ap M fuel b Z S Q'):=
 λQ' h1 h2=>#[λe=>(ha e Q' h1 λw S'=>h2 (.rt w) S' (λ_ z=>nomatch z)).out,λe=>(hb e Q' h1 λw S'=>h2 (.rt w) S' (λ_ z=>nomatch z)).out]
end
end Mi
namespace Mi
open PySem PySem.Spec PyProof.Rows L2 Xc
inductive BK where
 | test (f:Ks) (k:Kt) (es:Es) (a:Ss)|ex (f:Ks) (k:Kt) (es:Es)|set (j:Kt) (f:Ks) (k:Kt) (es:Es)|asg (js:Kg Kt) (f:Ks) (k:Kt) (es:Es)
abbrev BK.fs (M:Ks->FF):BK->FS
 | .test f k es a=>gO (gl (t6 .is (dI k (pr (M f)) (bg M es)) (fC (.bl true)))) (bQ M 0 a) (bQ M 0 .nil)
 | .ex f k es=>n0 (dI k (pr (M f)) (bg M es))
 | .set j f k es=>dJ (dI k (pr (M f)) (bg M es)) (zQ j)
 | .asg js f k es=>dJ (dI k (pr (M f)) (bg M es)) (Dc js)
abbrev BK.fx (M:Ks->FF):BK->FX
 | .test f k es _=>gP k (xG (M f)) (bg M es)
 | .ex f k es=>gP k (xG (M f)) (bg M es)
 | .set _ f k es=>gP k (xG (M f)) (bg M es)
 | .asg _ f k es=>gP k (xG (M f)) (bg M es)
abbrev ER (cl:Cl)(c:Ks)(i:Kt)(b:BK)(h:Ss):(Ks->FF)->FS:=λM=>xM (b.fs M) (b.fx M) (λcn=>eV cn c) cl i (bQ M 0 h)
abbrev oR (XF:Kg (Ks×Ks×Kt))(Γ:Gam):KC->Kk (Ks×Kt×Es)
 | .Call (.Name f _) (a::as) [] _=>if bz Γ f then match XF.lookup f,cA (cE aJ Γ) (a::as)with
  | some (f',k),bt es=>bt (f',k,es)
  | _,_=>gV
  else gV
 | _=>gV
abbrev Jd:Kg KC->KR
 | [.Constant (.bool true) _ _]=>true
 | _=>false
abbrev Je (XF:Kg (Ks×Ks×Kt))(Γ:Gam):Kg LO->Kk BK
 | [.If (.Compare e [.Is] cs _) a [] _]=>if Jd cs then match oR XF Γ e,eR (cS 20 Γ) a with
  | some (f,k,es),bt a'=>bt (.test f k es a')
  | _,_=>gV
  else gV
 | [.Expr e _]=>match oR XF Γ e with
  | some (f,k,es)=>bt (.ex f k es)
  | none=>gV
 | [.Assign [.Name x _] e _]=>match aV Γ x,oR XF Γ e with
  | some j,bt (f,k,es)=>bt (.set j f k es)
  | _,_=>gV
 | [.Assign [.Tuple ts _ _] e _]=>match Dt Γ ts,oR XF Γ e with
  | some js,bt (f,k,es)=>bt (.asg js f k es)
  | _,_=>gV
 | _=>gV
abbrev ES (XF:Kg (Ks×Ks×Kt))(cls:Kg Ks)(cl:Cl)(Γ:Gam):LO->Kk Sm
 | .Try body [.ExceptHandler (bt (.Name c _)) (bt n) (b0::suite) _] [] [] _=>if bz Γ c&&cls.contains c&&(Γ.sc.lookup n==bt .local)then match Γ.N.findIdx? (· == n)with
  | some i=>match Je XF Γ body,eR (BM cls cl n i Γ 20) (b0::suite)with
   | some b,bt h=>bt (.sem (ER cl c i b h))
   | _,_=>gV
  | none=>gV
  else gV
 | st=>cS 20 Γ st
section
variable{X:Cx}
def GA.nox {es:Kg KC}{f:FA}(h:GA X.nox es f):GA X es f:=λpos J s Y H Q I #[A,Z,S,ws,S',er,so,e,q]=>
 Lf (h pos J s Y H Q (I.wish _) #[A,Z,S,ws,S',er,so,e,λvs H' #[A',x,y,z]=>q vs H' #[A',x,y,z]]) (λ_ _ #[v,H',I',r,q]=>#[v,H',I'.unwish,r,q]) λ_ _ z=>Lj.elim z
def GSs.nox {st:Kg LO}{f:FS}(h:GSs X.nox st f):GSs X st f:=λJ s Y H D I #[A,Z,S,o,S',er,so,e,d]=>
 Lf (h J s Y H D (I.wish _) #[A,Z,S,o,S',er,so,e,xN X X.nox rfl rfl d]) (λ_ _ q=>q.unwish) λ_ _ z=>Lj.elim z
end
structure TOk (M:Ks->FF)(X:Cx)(Γ:Gam)(XF:Kg (Ks×Ks×Kt))(cls:Kg Ks)(cl:Cl):Prop where
 st:X.stack=X.env::X.outer
 fr:X.env.frame=bt X.env.locals
 hc:∀a,HCtx (re X a) Γ cls cl
 xd:∀c∈cls,∃D,X.mg c=bt (.ref D)/\XD X.K D
 xf:∀f f' k,XF.lookup f=bt (f',k)->∃d fa fd ps,FnOk X.prog X.w X.K X.mg X.base (CXx X.prog X.w) d fa fd ps (spX X.w X.K cl k (pr (M f')) (xG (M f')))/\Room d X.A/\X.mg f=bt (.ref fa)/\Lw X.K (.ref fa)=true/\Binds X.K fd ps []
section
variable{M:Ks->FF}{X:Cx}{Γ:Gam}{fuel:Kt}{XF:Kg (Ks×Ks×Kt)}{cls:Kg Ks}{cl:Cl}
def xU (K:CtxOk M X Γ)(J:Kg (Kn×LJ))(E:Ki->Km->Prop):CtxOk M (Cx.tr X J E).nox Γ:=#[K.names,K.kind,K.N,K.nd,K.calm,Ol,K.un,K.dfn,K.own,K.blt,K.cst,K.gds,K.fns]
def mS (K:CtxOk M X Γ)(T:TOk M X Γ XF cls cl){e:KC}{f:Ks}{k:Kt}{es:Es}(h:oR XF Γ e=bt (f,k,es)){J:Kg (Kn×LJ)}{E:Ki->Km->Prop}{Y0:L2.St}{Ew:L2.XK}
  (hw:∀J1 H s a C dd a0,Air (Cx.tr X J E) J1 Y0 H s a C dd a0->Ew (.ref C) dd H->E (.ref a) s):ME (Cx.tr X J E) cl Ew Y0 e (dI k (pr (M f)) (bg M es)) (gP k (xG (M f)) (bg M es))/\(∀t l env,swapsWith e t l env=pure false)/\∀t,swappedStores [t] e (Cx.tr X J E).env=pure gV:=by
 cases e with
 | Call fn args kws pos=>
  cases fn with
  | Name x p=>
   cases args with
   | nil=>cases kws <;> exact ak h
   | cons a as=>
    cases kws with
    | cons _ _=>exact ak h
    | nil=>
     replace h:(if bz Γ x then match XF.lookup x,cA (cE aJ Γ) (a::as)with|some (f',k),bt es=>bt (f',k,es)|_,_=>gV else gV)=bt (f,k,es):=h
     split at h
     ·rename_i hg;split at h
      ·rename_i f' k' es' h1 h2;cases h;obtain⟨d,fa,fd,ps,F,hr,hm,hk,hb⟩:=T.xf x f k h1;have K':=xU K J E;obtain⟨g1,g2⟩:=cU K hg;have ns:=aZ h2;rw[La,Kj]at ns;exact#[D1 (X:=Cx.tr X J E) F hr g1 hm hk hb hw (GA.nox (bH (λz=>(aR aJ K' z).1) h2)) g2 (aq ns.1) (aO ns.2),λ_ _ _=>rfl,λt=>by cases t <;> rfl]
      ·cases h
     ·cases h
  | _=>exact ak h
 | _=>exact ak h
def Jf (K:CtxOk M X Γ)(T:TOk M X Γ XF cls cl){body:Kg LO}{b:BK}(h:Je XF Γ body=bt b)(J:Kg (Kn×LJ))(E:Ki->Km->Prop)(Y0:L2.St)(Ew:L2.XK)
  (hw:∀J1 H s a C dd a0,Air (Cx.tr X J E) J1 Y0 H s a C dd a0->Ew (.ref C) dd H->E (.ref a) s):PSs (Cx.tr X J E) body (MX (Cx.tr X J E) cl Ew Y0 (b.fs M) (b.fx M)):=by
 have K':=xU K J E;have hN:X.N.Nodup:=by rw[K.N]; exact K.nd
 unfold Je at h;split at h
 ·rename_i e cs p a p2;split at h
  ·rename_i ht;split at h
   ·rename_i f k es a' h1 h2;cases h
    match cs,ht with
    | [.Constant (.bool true) k0 p0],_=>
     obtain⟨m,_,_⟩:=mS K T h1 hw;exact gA (GZ (D2 (o:=.is) (X:=Cx.tr X J E) K.un m (ee nw (λ_ _=>.bl)) rfl) (GSs.nox (dN (λz=>jk 0 K' 20 z) h2)) gN)
   ·cases h
  ·cases h
 ·rename_i e p;split at h
  ·rename_i f k es h1;cases h;obtain⟨m,s1,_⟩:=mS K T h1 hw;exact gA (G0 m (s1 _ _ _))
  ·cases h
 ·rename_i x px e p;split at h
  ·rename_i j f k es h1 h2;cases h;obtain⟨m,s1,s2⟩:=mS K T h2 hw;obtain⟨a,b,c⟩:=jj K h1;exact gA (xP m (jh (X:=Cx.tr X J E) hN a b c) (show swapsWith e (bt (.Name x px)) p.line X.env=pure false from s1 _ _ _) (s2 _) rfl)
  ·cases h
 ·rename_i ts k0 p0 e p;split at h
  ·rename_i js f k es h1 h2;cases h;obtain⟨m,s1,s2⟩:=mS K T h2 hw;obtain⟨a,b⟩:=j7 K h1;exact gA (xP m (wu (X:=Cx.tr X J E) K.calm a b hN (cJ a).1 (cJ a).2) (show swapsWith e (bt (.Tuple ts k0 p0)) p.line X.env=pure false from s1 _ _ _) (s2 _) rfl)
  ·cases h
 ·cases h
def Jg (fuel:Kt)(K:CtxOk M X Γ)(T:TOk M X Γ XF cls cl){st:LO}{s':Sm}(h:ES XF cls cl Γ st=bt s'):GS X st (bN M fuel s'):=by
 have hN:X.N.Nodup:=by rw[K.N]; exact K.nd
 unfold ES at h;split at h
 ·rename_i body c cp n b0 suite hp p;split at h
  ·rename_i hc;rw[Kj,Kj]at hc;obtain⟨⟨c1,c2⟩,c3⟩:=hc;split at h
   ·rename_i i hi;split at h
    ·rename_i b hs h1 h2;cases h;obtain⟨g1,g2⟩:=cU K c1;have c2':c∈cls:=by simpa using c2
     obtain⟨D,m,xd⟩:=T.xd c c2';show D0 (D:=D) T.st T.fr hN (by rw[K.N]; exact a8 hi) (by rw[K.names]; exact eq_of_beq c3) g1 m xd g2 (λcn C gs q1 q2=>?_) (λJ E Y0 Ew hw=>Jf K T h1 J E Y0 Ew hw) λa=>jl (λz=>xS 0 (T.hc a) 20 z) h2
     obtain⟨Da,m',xt⟩:=(T.hc 0).xt c c2';have e:bt (KZ D)=bt (KZ Da):=m.symm.trans m';cases e;have:=(xt cn C gs q1).sub;rw[q2]at this;exact this
    ·cases h
   ·cases h
  ·cases h
 ·exact jk fuel K 20 h
def sk (K:CtxOk M X Γ)(T:TOk M X Γ XF cls cl):∀ {ss:Kg LO} {r:Ss},eR (ES XF cls cl Γ) ss=bt r->GSs X ss (bQ M fuel r)
 | [],r,h=>by cases h; exact gN
 | s::ss,r,h=>by
  obtain⟨s',ss',h1,h2,rfl⟩:=gS h;exact jY (Jg fuel K T h1) (sk K T h2)
end
structure XCls (K:Kr)(mg:Ks->Kk Ki)(base:K7)(cls:Kg Ks)(cl:Cl):Prop where
 xk:∀cn C gs,cl cn=bt (C,gs)->(∃cd,XK K C cd)/\base.get? C≠gV/\XT K C (.type "ValueError") true/\∀g∈gs,Nl K (.ref C) g=bt gV
 xt:∀D∈cls,∃Da,mg D=bt (.ref Da)/\XD K Da/\∀cn C gs,cl cn=bt (C,gs)->XT K C (.ref Da) (eV cn D)
section
variable{P:KF}{w:KS}{K:Kr}{mg:Ks->Kk Ki}{base:K7}
abbrev G3 (P:KF)(w:KS)(K:Kr)(mg:Ks->Kk Ki)(base:K7)(XF:Kg (Ks×Ks×Kt))(cl:Cl)(defs:Kg (Ks×Df))(fuel d:Kt):Prop:=
 ∀f f' n,XF.lookup f=bt (f',n)->∃fa fd ps,FnOk P w K mg base (CXx P w) (d+2) fa fd ps (spX w K cl n (pr (aj defs fuel d f')) (xG (aj defs fuel d f')))/\mg f=bt (.ref fa)/\Lw K (.ref fa)=true/\Binds K fd ps []
def Ea {Mqa:Md}{XF:Kg (Ks×Ks×Kt)}{cls:Kg Ks}{cl:Cl}{defs:Kg (Ks×Df)}{fuel d:Kt}{x qual:Ks}{st:LO}{f:Kn}{fd:Lv}{df:Df}(F:Fun K x qual st f fd)(S:FnScope df.N df.ps (ap st))(hd:defs.lookup x=bt df)
  (hc:eR (ES XF cls cl (dZ Mqa st df.N)) (aM st)=bt df.body) (hb:MdOk w K mg Mqa) (prev:rX P w K mg base Mqa defs fuel d) (px:G3 P w K mg base XF cl defs fuel d) (Zx:XCls K mg base cls cl) :
  FnOk P w K mg base jF (d+3) f fd df.ps (spF w K df.ps.length (aj defs fuel (d+1) x)):=by
 show F.ok S (λvs H Q E h=>?_) (λcdv A outer s H vs Q E hr h=>?_)
 ·obtain⟨A,S,ws,w',S',_,rl,hl,_⟩:=h;rw[<- rl.length]; exact hl
 ·obtain⟨A',St,ws,w',S',so,rl,hl,e,hq⟩:=h;have un:(A.deeper (envOfC qual (ap st) s.heap.objs.size f cdv)).units+20 < cLine:=by
   have:=hr.un;omega
  have K':CtxOk (aj defs fuel d) (eC jF P w K mg base df.N qual (ap st) f cdv A outer s H E).nox (dZ Mqa st df.N):=by
   show#[rfl,S.kind,rfl,S.nd,rfl,Ol,un,λ_ _=>rfl,λ_ h=>(nomatch h),hb.blt,hb.cst _ rfl rfl rfl,hb.gds _ rfl rfl rfl,λg n hg=>?_]
   obtain⟨fa,fd',ps',h1,h2,h3,h4⟩:=prev g n hg;exact#[d+2,fa,fd',ps',h1,hr,h2,h3,h4]
  have T:TOk (aj defs fuel d) (eC jF P w K mg base df.N qual (ap st) f cdv A outer s H E).nox (dZ Mqa st df.N) XF cls cl:=by
   show#[rfl,rfl,λa=>#[rfl,rfl,S.nd,un,λ_=>rfl,hb.blt,Zx.xk,λD hD=>?_],λc hc=>?_,λg g' n hg=>?_]
   ·obtain⟨Da,h1,_,h3⟩:=Zx.xt D hD;exact#[Da,h1,h3]
   ·obtain⟨Da,h1,h2,_⟩:=Zx.xt c hc;exact#[Da,h1,h2]
   ·obtain⟨fa,fd',ps',h1,h2,h3,h4⟩:=px g g' n hg;exact#[d+2,fa,fd',ps',h1,hr,h2,h3,h4]
  show#[tS _ (bQ (aj defs fuel d) fuel df.body),sk K' T hc,?_]
  (dsimp only[aj]at e; simp only[hd]at e)
  rw[KQ hl]at e;split at e
  ·rename_i w1 S1 h1;cases e;show#[A',bc df.N ws,St,_,_,b7 rl,so,h1,#[λY' H' #[_,_,z,_,_,_]=>(by cases z),λv H' #[w2,A2,z0,z1,z2,z3]=>?_,λY' H' #[_,_,z,_,_,_]=>(by cases z),λY' H' #[_,_,z,_,_,_]=>(by cases z)]]
   cases z0;exact hq v H' #[A2,z1,z2,z3]
  ·rename_i Z1 S1 h1;cases e;show#[A',bc df.N ws,St,_,_,b7 rl,so,h1,#[λY' H' #[w2,A2,z0,z1,z2,z3]=>?_,λY' H' #[_,_,z,_,_,_]=>(by cases z),λY' H' #[_,_,z,_,_,_]=>(by cases z),λY' H' #[_,_,z,_,_,_]=>(by cases z)]]
   exact hq _ H' #[A2,z1,z2,.non]
  ·cases e
end
section
variable{M:Ks->FF}{cl:Cl}{c:Ks}{i:Kt}{h:Ss}{Z:Fm}{S:aa}{K:Fm->aa->Prop}{Q:QO}
abbrev Jh (i:Kt)(K:Fm->aa->Prop)(Q:QO)(p:Out×aa):Prop:=match p.1 with
 | .nx Z'=>K (Z'.set i gV) p.2
 | .rt w=>Q (.rt w,p.2)
 | _=>Lj
def G4 {b:BK}{cn:Ks}{ws:Kg W}{S1:aa}{C:Kn}{gs:Kg Ks}(ok:iF h=true)(h1:b.fs M Z S=gV)(h2:b.fx M Z S=bt (cn,ws,S1))(h3:cl cn=bt (C,gs))(h4:eV cn c=true)
  (hh:wZ M 0 h (Z.set i (bt (.ref S1.length))) (S1++[.exc cn C gs ws]) (Jh i K Q)):wO (ER cl c i b h M Z S) (po K Q):=by
 obtain⟨⟨o,S2⟩,e,q⟩:=gq h ok hh.out;unfold ER xM;simp only[h1,h2,h3,h4,Nf,e];cases o with
 | nx Z'=>exact q
 | rt w=>exact q
 | bk Z'=>exact q.elim
 | ct Z'=>exact q.elim
def G5 {b:BK}{o:Out}{S1:aa}(h1:b.fs M Z S=bt (o,S1))(q:po K Q (o,S1)):wO (ER cl c i b h M Z S) (po K Q):=by
 unfold ER xM;simp only[h1];exact q
end
end Mi
namespace Mi
open PySem PySem.Spec PySem.W PyProof.Rows L2 Xc
structure DK (K:Frag)(D:Kn):Prop where
 hc:(clsIn K D).isSome=true
 ty:typeIn K (.ref D)=bt (.type "type")
 st:subIn K (.type "type") (.type "tuple")=bt false
 se:subIn K (.ref D) (.type "BaseException")=bt true
def DK.xd {K:Frag}{D:Kn}(h:DK K D):XD K D:=
 let ⟨_,hc⟩:=LD.mp h.hc
 #[λMqa h' X=>(looks_typeIn X h.ty).andThen (looks_subIn X h.st),λMqa h' X=>(gd hc Mqa h' X).andThen (looks_subIn X h.se)]
def DK.xt {K:Frag}{C D:Kn}{b:KR}(h:DK K D)(sub:subIn K (.ref C) (.ref D)=bt b)(eq:(!(KZ C==KZ D)||b)=true):XT K C (.ref D) b:=
 let ⟨_,hc⟩:=LD.mp h.hc
 #[λMqa h' X=>looks_typeIn X h.ty,λMqa h' X=>gd hc Mqa h' X,sub,λz=>by rw[z]at eq; exact eq]
def G6 {K:Frag}{C:Kn}{T:LR}{b:KR}(ty:typeOf (.type T)=pure (.type "type"))(sub:subIn K (.ref C) (.type T)=bt b):XT K C (.type T) b:=
 #[λMqa h X=>.of_pure ty,λMqa h X=>.of_pure rfl,sub,λz=>by cases z]
structure XE (K:Frag)(C N f:Kn)(nm:Ks)(bs bm sub:Kg Ki)(k0 t2 t3:Kt)(gs:Kg Ks):Prop where
 lk:K.lookup C=bt (excClassObj nm nm C N bs bm true [] sub false gV gV (bt (.ref k0)) gV (bt (.str nm t2)) (bt (.str nm t3)) (bt (.bool true)) "ValueError.__new__")
 mro:cZ (.ref C::bm)=true
 tl:tailIn K Jz bm=true
 bb:bm.contains (.type "BaseException")=true
 ga:findIn K (.ref C) "__getattribute__" = bt (bt (.builtin "BaseException.__getattribute__"))
 hk:findIn K (.ref C) "__getattr__" = bt gV
 kl:findIn K (.ref C) "__class__" = bt (bt (.builtin "object.__class__"))
 gg:specialIn K (.builtin "object.__class__") "__get__" = bt (bt (.builtin "getset_descriptor.__get__"))
 tk:takesIn K (.builtin "object.__class__")=bt true
 sa:findIn K (.ref C) "__setattr__" = bt (bt (.builtin "object.__setattr__"))
 init:findIn K (.ref C) "__init__" = bt (bt (.ref f))
 fn:typeIn K (.ref f)=bt (.type "function")
 kp:keepIn K (.ref C)=true
 ve:subIn K (.ref C) (.type "ValueError")=bt true
 at':(gs.all λg=>findIn K (.ref C) g==bt gV)=true
section
variable{K:Frag}{C N f:Kn}{nm:Ks}{bs bm sub:Kg Ki}{k0 t2 t3:Kt}{gs:Kg Ks}
def XE.xm (h:XE K C N f nm bs bm sub k0 t2 t3 gs):∃cd,XM K C f cd:=by
 have hc:clsIn K C=bt { name:=nm,bases:=bs,mro:=.ref C::bm,ns:=N,qualname:=nm,hasDict:=true,slotNames:=[],subclasses:=sub,abstract:=false,collection:=gV,hasDel:=false }:=by
  unfold clsIn;rw[h.lk]
 exact#[_,{ cls:=hc,mro:=h.mro,dct:=rfl,ga:=h.ga,hk:=h.hk,kl:=h.kl,gg:=h.gg,tk:=h.tk,obj:=#[_,_,_,_,_,_,_,_,_,_,_,_,_,_,_,h.lk,h.tl,h.bb],sa:=h.sa,init:=h.init,fn:=h.fn,kp:=h.kp }]
def XE.fd (h:XE K C N f nm bs bm sub k0 t2 t3 gs):∀g∈gs,findIn K (.ref C) g=bt gV:=λg hg=>eq_of_beq (LN.mp h.at' g hg)
def XE.all {base:K7}(h:XE K C N f nm bs bm sub k0 t2 t3 gs)(X:K.In base):(∃cd,XK K C cd)/\base.get? C≠gV/\XT K C (.type "ValueError") true/\∀g∈gs,findIn K (.ref C) g=bt gV:=by
 obtain⟨cd,m⟩:=h.xm;show#[#[cd,m.toXC.toXK],?_,G6 rfl h.ve,h.fd];rw[X _ _ h.lk];exact λe=>nomatch e
end
def eW {α:Type}{x:Ks}{v:α}:∀ {l:Kg (Ks×α)},l.lookup x=bt v->(x,v)∈l
 | [],h=>nomatch h
 | (y,u)::l,h=>by
  rw[K5]at h;split at h
  ·rename_i e;cases h;have:=eq_of_beq e;subst this;exact KP
  ·exact KM _ (eW h)
def G7 {o:KC}{name:Ks}{apos pos:L9}{args:Kg KC}{env:Ov}(hb:attributeBase o name env (eval o env)=eval o env)(hform:methodCallForm (args.length+([]:Kg Qo).length) (backTo pos (starEach args env)) (backToKw pos (keywordEach [] env))=true)(hline:(apos.endLine==pos.line)=true) :
  eval (.Call (.Attribute o name apos) args [] pos) env=(do
   let ov <- eval o env
   standAt apos.atName
   let (f,first) <- holding [ov] (getMethod ov name (do return(<- importBound o env).getD true))
   callWith pos f first (backTo pos (starEach args env)) (backToKw pos (keywordEach [] env))):=by
 have hpos:methodCallPos true o env apos pos=pure pos:=by unfold methodCallPos; simp[hline]
 rw[arm_eval_Call,hb];unfold methodCall calleeOf;rw[hform,hpos];simp only[Nf,pure_bind]
section
variable{P:KF}{w:KS}{K:Frag}{mg:Ks->Kk Ki}{base:K7}{x qual L self y z g h:Ks}{st:LO}{f CL:Kn}{fd:Lv}{mc:Ki}{k:Kt}
def Eb (F:Fun K x qual st f fd)(S:FnScope [self,y] [self,y] (ap st))(hb:∃p1 p2 p3 p4 p5 p6 p7 p8 p9 p10,aM st=[.Expr (.Call (.Attribute (.Name L p1) "__init__" p2) [.Name self p3,.Name y p4] [] p5) p6,.Assign [.Attribute (.Name self p7) g p8] (.Name y p9) p10]/\(p2.endLine==p5.line)=true)
  (hgl:(ap st).names.lookup L=bt .globalImplicit) (hs:(ap st).names.lookup self=bt .local) (hy:(ap st).names.lookup y=bt .local) (hmg:mg L=bt (.ref CL)) (Zx:XL K CL mc)
  (hdb:(L==("__debug__" : Ks))=false) (d1:(self==("__debug__" : Ks))=false) (d2:(self==("__classdict__" : Ks))=false) (d3:(y==("__debug__" : Ks))=false) (d4:(y==("__classdict__" : Ks))=false):FnOk P w K mg base jF (k+1) f fd [self,y] (vE K g):=by
 obtain⟨p1,p2,p3,p4,p5,p6,p7,p8,p9,p10,hb,hl⟩:=hb;show F.ok S (λvs H Q E #[_,_,_,_,q,_]=>by rw[q]; rfl) λcdv A outer s H vs Q E hr hq=>?_
 rw[hb];obtain⟨e,v,C,cd,rfl,Yj,hf,he,hk⟩:=hq;show#[E1 (A6 (vw K (u5 (nv 0) (u5 (nv 1) yN)))) (Bk K (nv 0) (nv 1) g),ju (lZ (vx hgl hmg Zx.ga Zx.rd Zx.fc (bD (fX rfl (.inl hs) d1 d2) (bD (fX rfl (.inl hy) d3 d4) f8)) (hdb:=hdb) (ht:=G7 rfl rfl hl)) rfl) (gA (zd (fX rfl (.inl hs) d1 d2) (fX rfl (.inl hy) d3 d4) rfl)),?_];show#[.ref e,rfl,v,rfl,e,C,cd,gV,[v],rfl,?_,Yj,he,v,rfl,.ref e,rfl,e,C,cd,rfl,Yj,hf,.inl #[he,hk]];rw[LF];change 1<=_;decide
end
end Mi
namespace Mi
open PySem PySem.Spec PyProof.Rows L2
abbrev cL:Ss:=
 #v[.ret (.lst #v[.bi .list #v[.v 0],.c (.int 0),.c (.int 0),.c (.int 1),.c (.int 0)])]
abbrev bI:Ss:=
 #v[.ite (.and (.cmp .eq (.ix (.v 0) (.c (.int 2))) (.c (.int 0))) (.cmp .lt (.ix (.v 0) (.c (.int 1))) (.bi .len #v[.ix (.v 0) (.c (.int 0))]))) #v[.set 2 (.ix (.ix (.v 0) (.c (.int 0))) (.ix (.v 0) (.c (.int 1)))),.put (.v 0) (.c (.int 1)) (.op .add (.ix (.v 0) (.c (.int 1))) (.c (.int 1))),.ite (.cmp .ge (.v 2) (.op .pow (.c (.int 10)) (.c (.int 18)))) #v[.put (.v 0) (.c (.int 2)) (.v 2)] #v[.put (.v 0) (.c (.int 3)) (.op .mod (.op .add (.op .add (.op .mul (.ix (.v 0) (.c (.int 3))) (.c (.int 40013))) (.op .mod (.v 2) (.c (.int 1000003)))) (.c (.int 1))) (.c (.int 2147483647)))]] .nil,.ite (.cmp .gt (.ix (.v 0) (.c (.int 2))) (.c (.int 0))) #v[.set 3 (.op .mod (.ix (.v 0) (.c (.int 2))) (.v 1)),.put (.v 0) (.c (.int 2)) (.op .fdiv (.ix (.v 0) (.c (.int 2))) (.v 1)),.ret (.v 3)] .nil,.put (.v 0) (.c (.int 4)) (.op .add (.ix (.v 0) (.c (.int 4))) (.c (.int 1))),.put (.v 0) (.c (.int 3)) (.op .mod (.op .add (.op .add (.op .mul (.ix (.v 0) (.c (.int 3))) (.c (.int 48271))) (.c (.int 12820163))) (.ix (.v 0) (.c (.int 4)))) (.c (.int 2147483647))),.ret (.op .mod (.op .fdiv (.op .mod (.op .mul (.op .add (.op .mod (.ix (.v 0) (.c (.int 3))) (.c (.int 65521))) (.c (.int 1))) (.op .add (.op .fdiv (.ix (.v 0) (.c (.int 3))) (.c (.int 65521))) (.c (.int 7919)))) (.c (.int 1000003))) (.c (.int 7))) (.v 1))]
abbrev cg:Ss:=
 #v[.ret (.me .join (.c (.str "")) #v[.comp (.ix (.c (.str "abcdefghijklmnopqrstuvwxyz")) (.own "_law_pick" 2 #v[.v 2,.c (.int 26)])) (.nm 1) (.rng #v[.v 1]) .nil [gV,gV,bt 0]])]
abbrev Is (defs:Kg (Ks×Df))(f:Ks)(np nn:Kt)(b:Ss):Prop:=∃df:Df,defs.lookup f=bt df/\df.ps.length=np/\df.N.length=nn/\df.body=b
def aH {defs:Kg (Ks×Df)}{fuel d:Kt}{f:Ks}{np nn:Kt}{b:Ss}{ws:Kg W}{S:aa}{Q:QW}(h:Is defs f np nn b)(hl:ws.length=np)(ok:iF b=true)
  (hb:∀Q':QO,(∀w S',Q (w,S')->Q' (.rt w,S'))->wZ (aj defs fuel d) fuel b (ws.map bt++Lm (nn - np) gV) S Q'):wO (bd (aj defs fuel (d+1)) f np ws S) Q:=by
 obtain⟨df,h1,h2,h3,h4⟩:=h;subst h4;show DM h1 hl (hl.trans h2.symm) ok λQ' hR=>?_
 have:=hb Q' hR;unfold bc;rw[h3,hl];exact this
structure Gen (defs:Kg (Ks×Df)):Prop where
 pick:Is defs ("_law_pick" : Ks) 2 4 bI
 letters:Is defs ("_law_letters" : Ks) 2 2 cg
structure FlA (S:aa)(r q:Kt)(ns:Kg KD)(i c x n:KD):Prop where
 at_r:S[r]?=bt (.lst [.ref q,.int i,.int c,.int x,.int n])
 at_q:S[q]?=bt (.lst (ns.map W.int))
 lt:q < r
 i0:0<=i
 c0:0<=c
 x0:0<=x
 x1:x < 2147483647
def FlA.ne {S:aa}{r q:Kt}{ns:Kg KD}{i c x n:KD}(h:FlA S r q ns i c x n):q≠r:=KH h.lt
abbrev Fl (S:aa)(r:Kt):Prop:=∃(q:Kt) (ns:Kg KD) (i c x n:KD),FlA S r q ns i c x n
def FlA.put {S:aa}{r q:Kt}{ns:Kg KD}{i c x n i' c' x' n':KD}(h:FlA S r q ns i c x n)(h1:0<=i')(h2:0<=c')(h3:0<=x')(h4:x' < 2147483647):FlA (S.set r (.lst [.ref q,.int i',.int c',.int x',.int n'])) r q ns i' c' x' n':=
 #[eT h.at_r,by rw[cv (Ne.symm h.ne)]; exact h.at_q,h.lt,h1,h2,h3,h4]
def Fl.keep {S S':aa}{r:Kt}(h:Fl S r)(h1:S'[r]?=S[r]?)(k:Kp r S S'):Fl S' r:=
 let ⟨q,ns,i,c,x,n,f⟩:=h; #[q,ns,i,c,x,n,by rw[h1]; exact f.at_r,k.get _ _ f.ne f.at_q,f.lt,f.i0,f.c0,f.x0,f.x1]
def Fl.lt {S:aa}{r:Kt}(h:Fl S r):r < S.length:=let ⟨_,_,_,_,_,_,f⟩:=h; lK f.at_r
structure Ka (S S':aa):Prop where
 get:∀(j:Kt) (o:O),S[j]?=bt o->S'[j]?=bt o
 len:S.length<=S'.length
def Ka.refl {S:aa}:Ka S S:=#[λ_ _ h=>h,Kz _]
def Ka.trans {S S' S'':aa}(a:Ka S S')(b:Ka S' S''):Ka S S'':=#[λj o h=>b.get j o (a.get j o h),KJ a.len b.len]
def Ka.push {S:aa}{o:O}:Ka S (S++[o]):=#[λj u h=>az h,by simp]
def Ka.late {t:Kt}{S0 S:aa}{o:O}(a:Ka S0 S)(h:S0.length<=t):Ka S0 (S.set t o):=
 #[λj u e=>by have:=lK e; rw[cv ∅]; exact a.get j u e,by simpa using a.len]
def Ka.kp {S S':aa}(a:Ka S S')(r:Kt):Kp r S S':=#[λj o _ h=>a.get j o h,a.len]
def Fl.ka {S S':aa}{r:Kt}(h:Fl S r)(k:Ka S S'):Fl S' r:=h.keep (by obtain⟨q,ns,i,c,x,n,f⟩:=h; rw[k.get _ _ f.at_r,f.at_r]) (k.kp r)
def Fl.own {S:aa}{r t:Kt}{o:O}(h:Fl S r)(ht:r < t):Fl (S.set t o) r:=by
 obtain⟨q,ns,i,c,x,n,f⟩:=h;have:=f.lt;exact#[q,ns,i,c,x,n,by rw[cv ∅]; exact f.at_r,by rw[cv ∅]; exact f.at_q,f.lt,f.i0,f.c0,f.x0,f.x1]
def bM {S:aa}{r:Kt}{xs:Kg W}{i:Kt}{w:W}{Q:QW}(h:S[r]?=bt (.lst xs))(hw:xs[i]?=bt w)(q:Q (w,S)):wO (nq (.ref r) (.int (i:KD)) S) Q:=ae (xB h (MA i) (by rw[LX]; exact hw)) q
def lM {S:aa}{r:Kt}{xs:Kg W}{i:Kt}{w:W}{Q:aa->Prop}(h:S[r]?=bt (.lst xs))(hi:TV (i+1) xs.length=true)(q:Q (S.set r (.lst (xs.set i w)))):wO (qb (.ref r) (.int (i:KD)) w S) Q:=ae (GH h (MA i) (by rw[LX]; exact Ku hi)) (by rw[LX]; exact q)
section
variable{defs:Kg (Ks×Df)}{fuel d:Kt}{S:aa}{r:Kt}{Q:QW}
def aA (hd:Is defs ("_law_pick" : Ks) 2 4 bI){m:KD}(hf:Fl S r)(h0:0 < m)(h1:m < 1073741824)(k:∀v S',0<=v->v < m->Fl S' r->Kp r S S'->Q (.int v,S')) :
  wO (bd (aj defs fuel (d+1)) "_law_pick" 2 [.ref r,.int m] S) Q:=by
 obtain⟨q,ns,i,c,x,n,f⟩:=hf;show aH hd rfl rfl λQ' hR=>?_
 replace k:∀v S',0<=v->v < m->Fl S' r->Kp r S S'->Q' (.rt (.int v),S'):=λv S' a b c e=>hR _ _ (k v S' a b c e)
 clear hR;change wZ _ _ bI [bt (.ref r),bt (.int m),gV,gV] S Q';have aF:∀(S1:aa) (w2:Kk W) (i1 c1 x1 n1:KD),FlA S1 r q ns i1 c1 x1 n1->Kp r S S1->wZ (aj defs fuel d) fuel (match bI with|.cons _ ss=>ss|.nil=>.nil) [bt (.ref r),bt (.int m),w2,gV] S1 Q':=by
  intro S1 w2 i1 c1 x1 n1 f1 k1;dsimp only[bI];show st ?_;dsimp only[wS,wT,wE,wV,wG];show bM (i:=2) f1.at_r rfl ?_;dsimp only[An,wO,wB];show aG (Q0:=Q') (λhg Q2 hn hr=>?_) (λhg Q2 hn hr=>?_)
  ·clear hn;show st ?_;dsimp only[wS,wE,wV,wG];show bM (i:=2) f1.at_r rfl (ae (oM h0) ?_);show st ?_;dsimp only[wS,wE,wV,wG,KO];show bM (i:=2) f1.at_r rfl (ae (xz h0 h1) (lM (i:=2) f1.at_r rfl ?_));show st ?_;dsimp only[wS,wE,wV,wG,KO];exact hr _ _ (k _ _ (Om _ ∅) (NS _ h0) #[q,ns,i1,c1 / m,x1,n1,f1.put f1.i0 (Rn f1.c0 ∅) f1.x0 f1.x1] (k1.trans .set))
  ·show cw (hn _ _ ?_);clear hn hr;have f2:FlA (S1.set r (.lst [.ref q,.int i1,.int c1,.int x1,.int (n1+1)])) r q ns i1 c1 x1 (n1+1):=f1.put f1.i0 f1.c0 f1.x0 f1.x1;show st ?_;dsimp only[wS,wE,wV,wG];show bM (i:=4) f1.at_r rfl ?_;dsimp only[bn,wO];show lM (i:=4) f1.at_r rfl ?_;show st ?_;dsimp only[wS,wE,wV,wG,KO];show bM (i:=3) f2.at_r rfl (ae (xy #v[] #v[]) ?_)
   dsimp only[bn,wO];show bM (i:=4) f2.at_r rfl ?_;dsimp only[bn,wO];show(lM (i:=3) f2.at_r rfl ?_);have f3:FlA ((S1.set r (.lst [.ref q,.int i1,.int c1,.int x1,.int (n1+1)])).set r (.lst [.ref q,.int i1,.int c1,.int ((x1*48271+12820163+(n1+1)) % 2147483647),.int (n1+1)])) r q ns i1 c1 ((x1*48271+12820163+(n1+1)) % 2147483647) (n1+1):=f2.put f1.i0 f1.c0 (Om _ #v[]) (NS _ #v[])
   dsimp only[KO];generalize(x1*48271+12820163+(n1+1)) % 2147483647=y at f3 ⊢;have b1:y / 65521+7919 < 2 ^ 64:=by
    have:=f3.x1;have:=Int.ediv_le_self 65521 f3.x0;omega
   have b2 : -(2 ^ 64) < y / 65521+7919:=by
    have:=Rn f3.x0 (show(0:KD)<=65521 by decide)
    omega
   show st ?_;dsimp only[wS,wE,wV,wG,KO];show bM (i:=3) f3.at_r rfl (ae (oM #v[]) ?_)
   dsimp only[bn,wO];show bM (i:=3) f3.at_r rfl ?_;dsimp only[bn,wO];show ae (xy b2 b1) ?_;show ae (oM h0) ?_;exact k _ _ (Om _ ∅) (NS _ h0) #[q,ns,_,_,_,_,f3] (k1.trans (Kp.set.trans .set))
 dsimp only[bI]at aF ⊢;show st ?_;dsimp only[wS,wT,wE,wV,wG,wA];show bM (i:=2) f.at_r rfl ?_;dsimp only[iD,wO,wB];have skip:∀Q2:QO,(∀Z' S',wZ (aj defs fuel d) fuel _ Z' S' Q'->Q2 (.nx Z',S'))->Q2 (.nx [bt (.ref r),bt (.int m),gV,gV],S):=λQ2 hn=>hn _ _ (aF S gV i c x n f .refl)
 show#[λ_=>?_,λ_ Q2 hn hr=>#[λz=>(by cases z),λ_=>(cw (skip Q2 hn)).out]]
 show bM (i:=1) f.at_r rfl (bM (i:=0) f.at_r rfl (ae (xC f.at_q) ?_));dsimp only[uu,wO,wB];show aG (Q0:=Q') (λhl Q2 hn _=>?_) (λhg Q2 hn hr=>cw (skip Q2 hn))
 clear skip;have hl':i.toNat < ns.length:=by
  have:=Lq hl;rw[Kv]at this;have:=f.i0;omega
 have hcell:(ns.map W.int)[i.toNat]?=bt (.int ns[i.toNat]):=by simp[hl']
 generalize ns[i.toNat]=cell at hcell;have f1:FlA (S.set r (.lst [.ref q,.int (i+1),.int c,.int x,.int n])) r q ns (i+1) c x n:=f.put (by have:=f.i0; omega) f.c0 f.x0 f.x1
 show st ?_;dsimp only[wS,wE,wV,wG];show bM (i:=0) f.at_r rfl (bM (i:=1) f.at_r rfl (ae (xB f.at_q f.i0 hcell) ?_));show st ?_;dsimp only[wS,wE,wV,wG,KO];show bM (i:=1) f.at_r rfl ?_;dsimp only[bn,wO];show lM (i:=1) f.at_r rfl ?_;show st ?_;dsimp only[wS,wT,wE,wV,wG,DL,Jb,wO,wB];show aG (Q0:=Q') (λhg Q3 hn3 _=>?_) (λhg Q3 hn3 _=>?_)
 ·show st ?_;dsimp only[wS,wE,wV,wG];show lM (i:=2) f1.at_r rfl (cw (hn3 _ _ (cw (hn _ _ ?_))));exact aF _ _ (i+1) cell x n (f1.put f1.i0 (by have:=Lq hg; omega) f.x0 f.x1) (Kp.set.trans .set)
 ·show st ?_;dsimp only[wS,wE,wV,wG];show bM (i:=3) f1.at_r rfl (ae (xy #v[] #v[]) (ae (oM #v[]) ?_))
  dsimp only[bn,wO];show lM (i:=3) f1.at_r rfl (cw (hn3 _ _ (cw (hn _ _ ?_))));exact aF _ _ (i+1) c _ n (f1.put f1.i0 f.c0 (Om _ #v[]) (NS _ #v[])) (Kp.set.trans .set)
end
abbrev dr:Kt->Ss->Ss
 | 0,ss=>ss
 | n+1,.cons _ ss=>dr n ss
 | _,.nil=>.nil
def cz {α:Type}{a:α}{Q:α->Prop}:wO (bt a) Q=Q a:=rfl
def bh {M:Ks->FF}{fuel:Kt}{Z:Fm}{S:aa}{Q:QO}{s:Sm}{ss:Ss}(h:∀K:Fm->aa->Prop,(∀Z' S',wZ M fuel ss Z' S' Q->K Z' S')->wS M fuel s Z S K Q):wZ M fuel (.cons s ss) Z S Q:=st (h _ λ_ _ h=>h)
def g9 {M:Ks->FF}{fuel:Kt}{Z:Fm}{S:aa}{i:Kt}{e:E}{K:Fm->aa->Prop}{Q:QO}(h:wE M e Z S λp=>K (Z.set i (bt p.1)) p.2):wS M fuel (.set i e) Z S K Q:=h
def cM {n:Kt}(h:TV n 1000=true):n<=sizeLine:=KJ (Ku h) (by rw[LF]; decide)
def few {n:Kt}(h:n<=1000):n<=sizeLine:=KJ h (by rw[LF]; decide)
def eX {S:aa}{r:Kt}{xs:Kg W}{i:KD}{w:W}{Q:QW}(h:S[r]?=bt (.lst xs))(h0:0<=i)(hw:xs[i.toNat]?=bt w)(q:Q (w,S)):wO (nq (.ref r) (.int i) S) Q:=ae (xB h h0 hw) q
def bC {S:aa}{xs:Kg W}{i:KD}{w:W}{Q:QW}(h0:0<=i)(hw:xs[i.toNat]?=bt w)(q:Q (w,S)):wO (nq (.tup xs) (.int i) S) Q:=ae (dC h0 hw) q
def oU {S:aa}{r:Kt}{xs:Kg W}{y:W}{Q:QW}(h:S[r]?=bt (.lst xs))(hl:xs.length < 1000)(q:Q (.non,S.set r (.lst (xs++[y])))):wO (Me.append.fn (.ref r) [y] S) Q:=ae (GJ h (KI hl (cM rfl))) q
def lN {S:aa}{r:Kt}{xs:Kg W}{Q:QW}(h:S[r]?=bt (.lst xs))(q:Q (.int xs.length,S)):wO (Bi.len.fn [.ref r] S) Q:=ae (xC h) q
def bR {S:aa}{xs:Kg W}{Q:QW}(q:Q (.int xs.length,S)):wO (Bi.len.fn [.tup xs] S) Q:=q
def G8 {S:aa}{r:Kt}{xs:Kg W}{Q:QW}(h:S[r]?=bt (.lst xs))(q:Q (.tup xs,S)):wO (Bi.tuple.fn [.ref r] S) Q:=ae (xD h) q
section
variable{M:Ks->FF}{fuel:Kt}{Z:Fm}{S S1:aa}{K:Fm->aa->Prop}
def bo {t:E}{a:Ss}{Q:QO}(ht:∀Q:QB,Q (false,S1)->wT M t Z S Q)(h:K Z S1):wS M fuel (.ite t a .nil) Z S K Q:=by
 dsimp only[wS];exact ht _ λQ' h1 h2=>#[λz=>(by cases z),λ_=>(cw (h1 _ _ h)).out]
def eY {t:E}{a b:Ss}{Q:QO}(ht:∀Q:QB,Q (true,S1)->wT M t Z S Q)(h:∀Q':QO,(∀Z' S',K Z' S'->Q' (.nx Z',S'))->(∀w S',Q (.rt w,S')->Q' (.rt w,S'))->wZ M fuel a Z S1 Q'):wS M fuel (.ite t a b) Z S K Q:=by
 dsimp only[wS];exact ht _ λQ' h1 h2=>#[λ_=>(h Q' h1 λw S' q=>h2 (.rt w) S' (λ_ z=>nomatch z) q).out,λz=>(by cases z)]
end
def Ec:∀k:Fin 26,("abcdefghijklmnopqrstuvwxyz" : Ks).cps.toList[k.val]?=bt (97+k.val):=by decide
def AB:("abcdefghijklmnopqrstuvwxyz" : Ks).length<=sizeLine:=by decide
def ko:∀cs:Kg Kt,io (cs.map λc=>W.str #[[c].toArray])=bt (cs.map λc=>(#[[c].toArray] : Ks))
 | []=>rfl
 | c::cs=>by simp[io,ko cs]
def lO:∀cs:Kg Kt,((cs.map λc=>(#[[c].toArray] : Ks)).map (·.length)).sum=cs.length
 | []=>rfl
 | c::cs=>by
  have:=lO cs;simp only[Lz,List.sum_cons,Lh];rw[this];change 1+cs.length=_;omega
def ku (a b:Ks):(a++b).cps.toList=a.cps.toList++b.cps.toList:=Array.toList_append
def kz:∀cs:Kg Kt,(TN "" (cs.map λc=>(#[[c].toArray] : Ks))).cps.toList=cs
 | []=>rfl
 | [c]=>rfl
 | c::d::cs=>by
  have ih:=kz (d::cs);show(((#[[c].toArray] : Ks)++("" : Ks)++TN "" ((d::cs).map λc=>(#[[c].toArray] : Ks))).cps).toList=_
  rw[ku,ku,ih];rfl
def oV (cs:Kg Kt):(SM "" (cs.map λc=>(#[[c].toArray] : Ks))).cps.toList=cs:=by
 show(Tt "" _).cps.toList=_;rw[StrLaws.glued_eq_join];exact kz cs
abbrev xW (y:Ks):Prop:=∀c∈y.cps.toList,97<=c/\c<=122
abbrev Name (y:Ks):Prop:=1<=y.cps.toList.length/\y.cps.toList.length<=8/\xW y
def fF (y:Ks):y.length=y.cps.toList.length:=by simp[Tc]
def dQ {α:Type}{f:α->W}{xs:Kg α}{i:Kt}(h:i < xs.length):∃x∈xs,(xs.map f)[i]?=bt (f x):=#[xs[i],OU _,by rw[K4,KT h]; rfl]
section
variable{defs:Kg (Ks×Df)}{fuel d:Kt}{S:aa}{r:Kt}{Q:QW}
def lP (G:Gen defs){m:KD}(hf:Fl S r)(h0:0<=m)(h1:m<=1000)(k:∀y S',y.cps.toList.length=m.toNat->xW y->Fl S' r->Kp r S S'->Q (.str y,S')) :
  wO (bd (aj defs fuel (d+2)) "_law_letters" 2 [.ref r,.int m] S) Q:=by
 show aH G.letters rfl rfl λQ' hR=>?_
 change wZ _ _ cg [bt (.ref r),bt (.int m)] S Q';dsimp only[cg];show st ?_;dsimp only[wS,wE,wA];show#[rfl,sj m (λi ys Z S'=>(∃a,Z=[gV,a,bt (.ref r)])/\Fl S' r/\Kp r S S'/\∃cs:Kg Kt,ys=cs.map (λc=>W.str #[[c].toArray])/\cs.length=i/\∀c∈cs,97<=c/\c<=122) rfl rfl rfl #[∅,∅] #[rfl,#[gV,rfl],hf,.refl,[],rfl,rfl,λ_ h=>nomatch h] ?_ ?_]
 ·rintro i ys Z S1 hi ⟨⟨a,rfl⟩,f1,k1,cs,rfl,hl,hc⟩;dsimp only[si,wC,wE,wA,wV,wG,KO];show#[λ_=>aA (d:=d) G.pick f1 #v[] #v[] λv S2 h2 h3 f2 k2=>?_,λz=>by cases z]
  have ha:=Ec #[v.toNat,∅]
  show ae (BI AB h2 ha) #[#[_,rfl],f2,k1.trans k2,cs++[97+v.toNat],by simp,by simp[hl],λc hx=>?_]
  rcases Lb.mp hx with h|h
  ·exact hc c h
  ·rw[KU.mp h]; omega
 ·rintro ys Z S1 ⟨_,f1,k1,cs,rfl,hl,hc⟩;show#[by rw[Kv,hl,LF]; omega,?_]
  have hz:((cs.map λc=>(#[[c].toArray] : Ks)).map (·.length)).sum+(cs.map λc=>(#[[c].toArray] : Ks)).length*("" : Ks).length<=16777216:=by
   rw[lO,show("" : Ks).length=0 from rfl,Nat.mul_zero]
   omega
  show ae (a:=(.str (SM "" (cs.map λc=>(#[[c].toArray] : Ks))),S1++[.lst (cs.map λc=>W.str #[[c].toArray])])) ?_ (hR _ _ (k _ _ (by rw[oV,hl]) (λc h=>hc c (by rw[oV]at h; exact h)) (f1.ka .push) (k1.trans .push)))
  simp only[Me.fn,rB,dY,aP ah,ko];rw[KQ hz]
end
def xX {α:Type}[Ny α]:∀(l m:Kg α),l.Nodup->(∀x∈l,x∈m)->l.length<=m.length
 | [],_,_,_=>MP _
 | x::l,m,hn,hs=>by
  rw[NN]at hn;have hx:x∈m:=hs x (.head _);have h1:=xX l (m.erase x) hn.2 λy hy=>(List.mem_erase_of_ne (λ(e:y=x)=>hn.1 (by rw[<- e]; exact hy))).mpr (hs y (.tail _ hy))
  rw[List.length_erase_of_mem hx]at h1;have:=List.length_pos_of_mem hx;rw[Lh]; omega
abbrev bJ:Kg Ks:=["marks","ways","bar","some","each","not","and","or","is"]
def oW (zs:Kg Ks):(zs.map W.str).all dq=true:=by
 rw[LN];intro x hx;obtain⟨z,_,rfl⟩:=MD.mp hx;rfl
def sr (zs:Kg Ks)(y:Ks):((zs.map W.str).any λz=>CP z (.str y))=decide (y∈zs):=by
 induction zs with
 | nil=>rfl
 | cons z zs ih=>
  rw[Lz,Ml,ih];show((z==y)||_)=_
  by_cases h:z=y
  ·subst h; simp
  ·have:(z==y)=false:=by simpa using h
   rw[this,OO];have h2:(y∈z::zs)=(y∈zs):=by simp[Ne.symm h]
   simp only[h2]
def lQ {S:aa}{t:Kt}{zs:Kg Ks}{y:Ks}(h:S[t]?=bt (.lst (zs.map W.str))):dv .isin (.str y) (.ref t) S=bt (.bl (decide (y∈zs)),S):=by
 (dsimp only[dv,CT,fL,yy,CQ,dY]; simp only[r8 h,aP h])
 rw[KQ (by rw[oW]; rfl),sr]
 rfl
def Ed {S:aa}{k:Kt}:gh .mul (.str #[[k].toArray]) (.int 1) S=bt (.str #[[k].toArray],S):=by
 dsimp only[gh,zo];rw[KQ #[#v[],#v[],by change 1*1<=sizeLine; rw[LF]; decide]]
 rfl
def oX {xs:Kg W}{k:Kt}:du xs gV (bt (k:KD))=xs.take k:=by
 unfold du;rw[HT.nC,HT.qX,List.drop_zero,Nat.sub_zero]
 by_cases h:k<=xs.length
 ·rw[Ro h]
 ·rw[QZ ∅,L6 (Kz _),L6 ∅]
def oY {xs:Kg W}{k:Kt}:du xs (bt (k:KD)) gV=xs.drop k:=by
 unfold du;rw[HT.nC,HT.qX]
 by_cases h:k<=xs.length
 ·rw[Ro h,L6 (by rw[NE]; exact Kz _)]
 ·rw[QZ ∅,Np (Kz _),Np ∅]; exact List.take_nil
abbrev iG:Kg (Ks×W):=[("same",(.str "xx")),("mark",(.str "xm")),("way",(.str "xxw")),("not",(.str "i")),("and",(.str "ii")),("or",(.str "ii")),("some",(.str "xi")),("each",(.str "xi"))]
abbrev dR:Ss:=
 #v[.ret (.and (.isi "int" (.v 0)) (.not (.isi "bool" (.v 0))))]
abbrev fG:Ss:=
 #v[.ite (.or (.cmp .isin (.v 0) (.c (.tup [(.str "marks"),(.str "ways"),(.str "bar"),(.str "some"),(.str "each"),(.str "not"),(.str "and"),(.str "or"),(.str "is")]))) (.not (.chn .le .le (.c (.int 1)) (.bi .len #v[.v 0]) (.c (.int 8))))) #v[.ret (.c (.bl false))] .nil,.ret (.bi .all #v[.comp (.cmp .isin (.v 1) (.c (.str "abcdefghijklmnopqrstuvwxyz"))) (.nm 1) (.seq (.v 0)) .nil [gV,gV]])]
abbrev hG:Ss:=
 #v[.ite (.or (.not (.isi "tuple" (.v 1))) (.not (.v 1))) #v[.ret (.c (.bl false))] .nil,.ite (.or (.not (.isi "str" (.ix (.v 1) (.c (.int 0))))) (.gni iG (.ix (.v 1) (.c (.int 0))))) #v[.ret (.c (.bl false))] .nil,.set 3 (.gix iG (.ix (.v 1) (.c (.int 0)))),.ite (.cmp .ne (.bi .len #v[.v 1]) (.op .add (.bi .len #v[.v 3]) (.c (.int 1)))) #v[.ret (.c (.bl false))] .nil,.set 4 (.disp #v[.c (.str "m"),.bi .len #v[.ix (.v 0) (.c (.int 0))],.c (.str "w"),.bi .len #v[.ix (.v 0) (.c (.int 1))],.c (.str "i"),.v 2]),.ret (.bi .all #v[.comp (.own "is_field" 3 #v[.v 1,.v 2,.v 3]) (.tp [1,2]) (.zip #v[.sl (.v 1) (.yes (.c (.int 1))) .no,.v 3]) .nil [gV,gV,gV,bt 4]])]
abbrev dS:Ss:=
 #v[.ite (.cmp .eq (.v 1) (.c (.str "x"))) #v[.ret (.own "is_point_name" 1 #v[.v 0])] .nil,.ret (.and (.own "is_whole" 1 #v[.v 0]) (.chn .le .lt (.c (.int 0)) (.v 0) (.ix (.v 2) (.v 1))))]
abbrev bF:Ss:=
 #v[.ret (.and (.isi "str" (.v 0)) (.and (.cmp .le (.bi .len #v[.v 0]) (.c (.int 3))) (.own "is_name" 1 #v[.v 0])))]
abbrev dU:Ss:=
 #v[.ite (.cmp .isin (.ix (.v 0) (.c (.int 0))) (.c (.tup [(.str "same"),(.str "mark"),(.str "way")]))) #v[.set 2 (.comp (.v 1) (.tp [1,2]) (.zip #v[.sl (.v 0) (.yes (.c (.int 1))) .no,.gix iG (.ix (.v 0) (.c (.int 0)))]) #v[.cmp .eq (.v 2) (.c (.str "x"))] [gV,gV,gV])] #v[.set 2 (.lst .nil),.loop (.nm 3) (.seq (.own "part_rows" 1 #v[.v 0])) #v[.ex (.me .extend (.v 2) #v[.ix (.v 1) (.v 3)])]],.ite (.cmp .isin (.ix (.v 0) (.c (.int 0))) (.c (.tup [(.str "some"),(.str "each")]))) #v[.set 2 (.comp (.v 1) (.nm 1) (.seq (.v 2)) #v[.cmp .ne (.v 1) (.ix (.v 2) (.c (.int 1)))] [gV,gV,bt 0])] .nil,.ret (.bi .sorted #v[.bi .set #v[.v 2]])]
abbrev cV:Ss:=
 #v[.ret (.comp (.v 1) (.tp [1,2]) (.zip #v[.sl (.v 0) (.yes (.c (.int 1))) .no,.gix iG (.ix (.v 0) (.c (.int 0)))]) #v[.cmp .eq (.v 2) (.c (.str "i"))] [gV,gV,gV])]
abbrev bS:Ss:=
 #v[.set 2 (.c (.int 0)),.whl (.or (.cmp .isin (.v 0) (.v 1)) (.cmp .isin (.v 0) (.tup #v[.c (.str "marks"),.c (.str "ways"),.c (.str "bar"),.c (.str "some"),.c (.str "each"),.c (.str "not"),.c (.str "and"),.c (.str "or"),.c (.str "is")]))) #v[.set 0 (.op .mul (.ix (.c (.str "qxyzabcdefghijklmnoprstuvw")) (.op .mod (.v 2) (.c (.int 26)))) (.op .add (.c (.int 1)) (.op .fdiv (.v 2) (.c (.int 26))))),.set 2 (.op .add (.v 2) (.c (.int 1)))],.ret (.v 0)]
abbrev cW:Ss:=
 #v[.asg [1,2] (.ix (.lst #v[.tup #v[.c (.int 1),.c (.int 1)],.tup #v[.c (.int 1),.c (.int 2)],.tup #v[.c (.int 1),.c (.int 3)],.tup #v[.c (.int 2),.c (.int 1)],.tup #v[.c (.int 2),.c (.int 2)],.tup #v[.c (.int 2),.c (.int 3)],.tup #v[.c (.int 3),.c (.int 1)],.tup #v[.c (.int 3),.c (.int 2)]]) (.own "_law_pick" 2 #v[.v 0,.c (.int 8)])),.set 3 (.lst #v[.c (.str "mark"),.c (.str "way"),.c (.str "bars"),.c (.str "somes"),.c (.str "eachx"),.c (.str "no"),.c (.str "an"),.c (.str "o"),.c (.str "isa"),.c (.str "x"),.c (.str "y"),.c (.str "waysx"),.c (.str "nott"),.c (.str "andor")]),.set 4 (.lst .nil),.loop (.nm 5) (.rng #v[.op .add (.v 1) (.v 2)]) #v[.set 6 (.own "_law_letters" 2 #v[.v 0,.op .add (.c (.int 1)) (.own "_law_pick" 2 #v[.v 0,.c (.int 8)])]),.ite (.cmp .eq (.own "_law_pick" 2 #v[.v 0,.c (.int 4)]) (.c (.int 0))) #v[.set 6 (.ix (.v 3) (.own "_law_pick" 2 #v[.v 0,.c (.int 14)]))] .nil,.ex (.me .append (.v 4) #v[.own "_law_unlike" 2 #v[.v 6,.v 4]])],.set 7 (.ix (.lst #v[.lst #v[.lst #v[.c (.int 0)]],.lst #v[.lst #v[.c (.int 0),.c (.int 1)],.lst #v[.c (.int 1),.c (.int 0)]],.lst #v[.lst #v[.c (.int 0),.c (.int 1),.c (.int 2)],.lst #v[.c (.int 1),.c (.int 0),.c (.int 2)],.lst #v[.c (.int 0),.c (.int 2),.c (.int 1)]]]) (.op .sub (.v 2) (.c (.int 1)))),.set 7 (.ix (.v 7) (.own "_law_pick" 2 #v[.v 0,.bi .len #v[.v 7]])),.ret (.tup #v[.bi .tuple #v[.sl (.v 4) .no (.yes (.v 1))],.bi .tuple #v[.comp (.tup #v[.ix (.v 4) (.op .add (.v 3) (.v 1)),.ix (.v 2) (.v 1)]) (.nm 1) (.rng #v[.v 2]) .nil [gV,gV,bt 7,bt 1,bt 4]],.tup .nil])]
abbrev bp:Ss:=
 #v[.set 4 (.comp (.v 1) (.nm 1) (.seq (.op .add (.bi .list #v[.ix (.v 1) (.c (.int 0))]) (.comp (.ix (.v 1) (.c (.int 0))) (.nm 1) (.seq (.ix (.v 1) (.c (.int 1)))) .nil [gV,gV]))) #v[.cmp .lt (.bi .len #v[.v 1]) (.c (.int 4))] [gV,gV]),.set 5 (.lst .nil),.loop (.nm 6) (.rng #v[.v 2]) #v[.set 3 (.own "_law_letters" 2 #v[.v 0,.op .add (.c (.int 1)) (.own "_law_pick" 2 #v[.v 0,.c (.int 3)])]),.ite (.cmp .eq (.own "_law_pick" 2 #v[.v 0,.c (.int 4)]) (.c (.int 0))) #v[.set 3 (.ix (.op .add (.lst #v[.c (.str "no"),.c (.str "an"),.c (.str "so"),.c (.str "ors"),.c (.str "iss"),.c (.str "nt"),.c (.str "b"),.c (.str "ea")]) (.v 4)) (.own "_law_pick" 2 #v[.v 0,.op .add (.c (.int 8)) (.bi .len #v[.v 4])]))] .nil,.ex (.me .append (.v 5) #v[.own "_law_unlike" 2 #v[.v 3,.v 5]])],.ret (.v 5)]
abbrev dW:Ss:=
 #v[.ite (.cmp .eq (.ix (.v 0) (.c (.int 0))) (.c (.str "mark"))) #v[.ret (.lst #v[.ix (.v 0) (.c (.int 1))])] .nil,.ite (.or (.cmp .eq (.ix (.v 0) (.c (.int 0))) (.c (.str "same"))) (.cmp .eq (.ix (.v 0) (.c (.int 0))) (.c (.str "way")))) #v[.ret (.bi .sorted #v[.bi .set #v[.lst #v[.ix (.v 0) (.c (.int 1)),.ix (.v 0) (.c (.int 2))]]])] .nil,.ite (.cmp .eq (.ix (.v 0) (.c (.int 0))) (.c (.str "not"))) #v[.ret (.bi .list #v[.ix (.v 1) (.ix (.v 0) (.c (.int 1)))])] .nil,.ite (.or (.cmp .eq (.ix (.v 0) (.c (.int 0))) (.c (.str "and"))) (.cmp .eq (.ix (.v 0) (.c (.int 0))) (.c (.str "or")))) #v[.ret (.bi .sorted #v[.bi .set #v[.op .add (.ix (.v 1) (.ix (.v 0) (.c (.int 1)))) (.ix (.v 1) (.ix (.v 0) (.c (.int 2))))]])] .nil,.ret (.comp (.v 1) (.nm 1) (.seq (.ix (.v 1) (.ix (.v 0) (.c (.int 2))))) #v[.cmp .ne (.v 1) (.ix (.v 2) (.c (.int 1)))] [gV,gV,bt 0])]
abbrev cY:Ss:=
 #v[.ret (.ix (.lst #v[.op .sub (.v 1) (.c (.int 1)),.own "_law_pick" 2 #v[.v 0,.v 1]]) (.own "_law_pick" 2 #v[.v 0,.c (.int 2)]))]
abbrev fH:Ss:=
 #v[.set 4 (.own "_law_pick" 2 #v[.v 0,.c (.int 14)]),.set 5 (.ix (.v 2) (.own "_law_pick" 2 #v[.v 0,.bi .len #v[.v 2]])),.set 6 (.ix (.v 2) (.own "_law_pick" 2 #v[.v 0,.bi .len #v[.v 2]])),.ite (.or (.cmp .eq (.v 3) (.c (.int 0))) (.cmp .lt (.v 4) (.c (.int 5)))) #v[.set 7 (.lst #v[.tup #v[.c (.str "same"),.v 5,.v 6],.tup #v[.c (.str "mark"),.v 5,.own "_law_pick" 2 #v[.v 0,.bi .len #v[.ix (.v 1) (.c (.int 0))]]]]),.ex (.me .append (.v 7) #v[.tup #v[.c (.str "way"),.v 5,.v 6,.own "_law_pick" 2 #v[.v 0,.bi .len #v[.ix (.v 1) (.c (.int 1))]]]]),.ret (.ix (.v 7) (.own "_law_pick" 2 #v[.v 0,.c (.int 3)]))] .nil,.ite (.cmp .lt (.v 4) (.c (.int 7))) #v[.ret (.tup #v[.c (.str "not"),.own "_law_ahead" 2 #v[.v 0,.v 3]])] .nil,.ite (.cmp .lt (.v 4) (.c (.int 10))) #v[.ret (.tup #v[.ix (.lst #v[.c (.str "and"),.c (.str "or")]) (.own "_law_pick" 2 #v[.v 0,.c (.int 2)]),.own "_law_ahead" 2 #v[.v 0,.v 3],.own "_law_pick" 2 #v[.v 0,.v 3]])] .nil,.ret (.tup #v[.ix (.lst #v[.c (.str "some"),.c (.str "each")]) (.own "_law_pick" 2 #v[.v 0,.c (.int 2)]),.v 5,.own "_law_ahead" 2 #v[.v 0,.v 3]])]
abbrev bT:Ss:=
 #v[.set 3 (.own "_law_place_names" 3 #v[.v 0,.v 1,.op .add (.c (.int 1)) (.own "_law_pick" 2 #v[.v 0,.c (.int 5)])]),.set 4 (.lst .nil),.set 5 (.lst .nil),.loop (.nm 6) (.rng #v[.op .add (.c (.int 1)) (.own "_law_pick" 2 #v[.v 0,.v 2])]) #v[.set 7 (.own "_law_row" 4 #v[.v 0,.v 1,.v 3,.v 6]),.ite (.cmp .gt (.bi .len #v[.own "_law_free" 2 #v[.v 7,.v 5]]) (.c (.int 3))) #v[.set 7 (.tup #v[.c (.str "not"),.op .sub (.v 6) (.c (.int 1))])] .nil,.ex (.me .append (.v 4) #v[.v 7]),.ex (.me .append (.v 5) #v[.own "_law_free" 2 #v[.v 7,.v 5]])],.ret (.bi .tuple #v[.v 4])]
abbrev bU:Ss:=
 #v[.ite (.or (.not (.isi "str" (.v 0))) (.or (.not (.chn .le .le (.c (.int 1)) (.bi .len #v[.v 0]) (.c (.int 3)))) (.cmp .isin (.v 0) (.lst #v[.c (.str "bar"),.c (.str "not"),.c (.str "and"),.c (.str "or"),.c (.str "is")])))) #v[.ret (.c (.bl false))] .nil,.ret (.bi .all #v[.comp (.cmp .isin (.v 1) (.c (.str "abcdefghijklmnopqrstuvwxyz"))) (.nm 1) (.seq (.v 0)) .nil [gV,gV]])]
abbrev bV:Ss:=
 #v[.ret (.and (.isi "int" (.v 0)) (.and (.not (.isi "bool" (.v 0))) (.chn .le .lt (.c (.int 0)) (.v 0) (.v 1))))]
abbrev bW:Ss:=
 #v[.ite (.or (.not (.isi "tuple" (.v 1))) (.or (.cmp .lt (.bi .len #v[.v 1]) (.c (.int 2))) (.not (.isi "str" (.ix (.v 1) (.c (.int 0))))))) #v[.ret (.c (.bl false))] .nil,.set 3 (.ix (.v 1) (.c (.int 0))),.ite (.and (.cmp .isin (.v 3) (.lst #v[.c (.str "same"),.c (.str "mark"),.c (.str "way"),.c (.str "some"),.c (.str "each")])) (.not (.own "_law_is_short" 1 #v[.ix (.v 1) (.c (.int 1))]))) #v[.ret (.c (.bl false))] .nil,.ite (.cmp .eq (.v 3) (.c (.str "same"))) #v[.ret (.and (.cmp .eq (.bi .len #v[.v 1]) (.c (.int 3))) (.own "_law_is_short" 1 #v[.ix (.v 1) (.c (.int 2))]))] .nil,.ite (.cmp .eq (.v 3) (.c (.str "mark"))) #v[.ret (.and (.cmp .eq (.bi .len #v[.v 1]) (.c (.int 3))) (.own "_law_is_below" 2 #v[.ix (.v 1) (.c (.int 2)),.bi .len #v[.ix (.v 0) (.c (.int 0))]]))] .nil,.ite (.cmp .eq (.v 3) (.c (.str "way"))) #v[.ret (.and (.cmp .eq (.bi .len #v[.v 1]) (.c (.int 4))) (.and (.own "_law_is_short" 1 #v[.ix (.v 1) (.c (.int 2))]) (.own "_law_is_below" 2 #v[.ix (.v 1) (.c (.int 3)),.bi .len #v[.ix (.v 0) (.c (.int 1))]])))] .nil,.ite (.cmp .eq (.v 3) (.c (.str "not"))) #v[.ret (.and (.cmp .eq (.bi .len #v[.v 1]) (.c (.int 2))) (.own "_law_is_below" 2 #v[.ix (.v 1) (.c (.int 1)),.v 2]))] .nil,.ite (.or (.cmp .eq (.v 3) (.c (.str "and"))) (.cmp .eq (.v 3) (.c (.str "or")))) #v[.ret (.and (.cmp .eq (.bi .len #v[.v 1]) (.c (.int 3))) (.and (.own "_law_is_below" 2 #v[.ix (.v 1) (.c (.int 1)),.v 2]) (.own "_law_is_below" 2 #v[.ix (.v 1) (.c (.int 2)),.v 2])))] .nil,.ret (.and (.cmp .isin (.v 3) (.lst #v[.c (.str "some"),.c (.str "each")])) (.and (.cmp .eq (.bi .len #v[.v 1]) (.c (.int 3))) (.own "_law_is_below" 2 #v[.ix (.v 1) (.c (.int 2)),.v 2])))]
abbrev bG:Ss:=
 #v[.ite (.or (.not (.isi "tuple" (.v 1))) (.cmp .eq (.bi .len #v[.v 1]) (.c (.int 0)))) #v[.ret (.c (.int 0))] .nil,.set 2 (.lst .nil),.loop (.nm 3) (.rng #v[.bi .len #v[.v 1]]) #v[.ite (.not (.own "_law_row_fits" 3 #v[.v 0,.ix (.v 1) (.v 3),.v 3])) #v[.ret (.v 3)] .nil,.ex (.me .append (.v 2) #v[.own "_law_free" 2 #v[.ix (.v 1) (.v 3),.v 2]]),.ite (.cmp .gt (.bi .len #v[.ix (.v 2) (.v 3)]) (.c (.int 3))) #v[.ret (.v 3)] .nil],.ret (.c .non)]
abbrev bX:Ss:=
 #v[.set 2 (.lst #v[.c (.str ""),.c (.str "abcd"),.c (.str "is"),.c (.str "or"),.c (.str "and"),.c (.str "not"),.c (.str "bar"),.c (.str "A"),.c (.str "a1"),.c (.str "a b"),.c (.str " a"),.c (.str "a "),.c (.str "some"),.c (.str "each"),.c (.str "a-b")]),.set 2 (.op .add (.v 2) (.lst #v[.op .add (.v 1) (.c (.str "xxx")),.me .upper (.sl (.v 1) .no (.yes (.c (.int 1)))) .nil,.op .add (.v 1) (.c (.str " ")),.c (.int 3),.c (.int 0),.c .non,.c (.bl true),.lst #v[.v 1],.tup #v[.v 1],.c (.str "ways")])),.ret (.ix (.v 2) (.own "_law_pick" 2 #v[.v 0,.c (.int 25)]))]
abbrev bu:Ss:=
 #v[.set 3 (.lst #v[.v 2,.op .add (.v 2) (.c (.int 1)),.neg (.c (.int 1)),.op .sub (.v 1) (.c (.int 4)),.op .pow (.c (.int 10)) (.c (.int 18)),.c (.int 3),.c (.int 2),.c (.int 1),.c (.int 0),.c (.bl true),.c (.bl false),.bi .str #v[.v 1],.c .non,.c (.str "x"),.lst #v[.v 1],.tup #v[.v 1]]),.ret (.ix (.v 3) (.own "_law_pick" 2 #v[.v 0,.c (.int 16)]))]
abbrev ci:Ss:=
 #v[.set 3 (.own "_law_pick" 2 #v[.v 0,.c (.int 12)]),.ite (.cmp .eq (.v 3) (.c (.int 0))) #v[.ret (.ix (.lst #v[.tup .nil,.c .non,.c (.str "same"),.c (.int 0),.bi .list #v[.v 1],.tup #v[.v 1],.c (.bl true),.c (.str ""),.lst .nil,.tup #v[.c .non]]) (.own "_law_pick" 2 #v[.v 0,.c (.int 10)]))] .nil,.ite (.cmp .eq (.v 3) (.c (.int 1))) #v[.ret (.op .add (.v 1) (.tup #v[.ix (.lst #v[.c (.str "x"),.c (.int 0),.c .non]) (.own "_law_pick" 2 #v[.v 0,.c (.int 3)])]))] .nil,.ite (.cmp .eq (.v 3) (.c (.int 2))) #v[.ret (.sl (.v 1) .no (.yes (.op .sub (.bi .len #v[.v 1]) (.c (.int 1)))))] .nil,.ite (.cmp .eq (.v 3) (.c (.int 3))) #v[.set 4 (.lst #v[.c (.str "Same"),.c (.str "sames"),.c (.str "marks"),.c (.str "ways"),.c (.str "is"),.c (.str "nor"),.c (.str ""),.c (.str "s"),.c (.int 0),.c .non,.c (.bl true),.c (.str "every"),.c (.str "yes"),.c (.str " not")]),.ret (.op .add (.tup #v[.ix (.v 4) (.own "_law_pick" 2 #v[.v 0,.c (.int 14)])]) (.sl (.v 1) (.yes (.c (.int 1))) .no))] .nil,.ite (.cmp .eq (.v 3) (.c (.int 4))) #v[.set 4 (.lst #v[.c (.str "same"),.c (.str "mark"),.c (.str "way"),.c (.str "not"),.c (.str "and"),.c (.str "or"),.c (.str "some"),.c (.str "each")]),.ret (.op .add (.tup #v[.ix (.v 4) (.own "_law_pick" 2 #v[.v 0,.c (.int 8)])]) (.sl (.v 1) (.yes (.c (.int 1))) .no))] .nil,.set 5 (.op .add (.c (.int 1)) (.own "_law_pick" 2 #v[.v 0,.op .sub (.bi .len #v[.v 1]) (.c (.int 1))])),.set 6 (.ix (.v 1) (.v 5)),.ite (.cmp .eq (.own "_law_pick" 2 #v[.v 0,.c (.int 8)]) (.c (.int 0))) #v[.set 6 (.ix (.lst #v[.c (.int 0),.c (.str "x")]) (.bi .int #v[.isi "int" (.v 6)]))] #v[.ite (.isi "int" (.v 6)) #v[.set 6 (.own "_law_odd_number" 3 #v[.v 0,.v 6,.v 2])] #v[.set 6 (.own "_law_odd_name" 2 #v[.v 0,.v 6])]],.ret (.op .add (.op .add (.sl (.v 1) .no (.yes (.v 5))) (.tup #v[.v 6])) (.sl (.v 1) (.yes (.op .add (.v 5) (.c (.int 1)))) .no))]
abbrev cj:Ss:=
 #v[.ite (.cmp .eq (.own "_law_pick" 2 #v[.v 0,.c (.int 6)]) (.c (.int 0))) #v[.set 3 (.own "_law_place_names" 3 #v[.v 0,.v 1,.c (.int 4)]),.set 4 (.ix (.v 3) (.op .add (.c (.int 2)) (.own "_law_pick" 2 #v[.v 0,.c (.int 2)]))),.set 5 (.tup #v[.tup #v[.c (.str "same"),.ix (.v 3) (.c (.int 0)),.ix (.v 3) (.c (.int 1))],.tup #v[.c (.str "way"),.ix (.v 3) (.c (.int 2)),.v 4,.c (.int 0)]]),.ret (.op .add (.op .add (.v 2) (.v 5)) (.tup #v[.tup #v[.ix (.lst #v[.c (.str "and"),.c (.str "or")]) (.own "_law_pick" 2 #v[.v 0,.c (.int 2)]),.bi .len #v[.v 2],.op .add (.bi .len #v[.v 2]) (.c (.int 1))]]))] .nil,.set 6 (.v 2),.loop (.nm 7) (.rng #v[.op .add (.c (.int 1)) (.own "_law_pick" 2 #v[.v 0,.c (.int 2)])]) #v[.set 8 (.own "_law_pick" 2 #v[.v 0,.bi .len #v[.v 2]]),.ite (.cmp .eq (.ix (.v 6) (.v 8)) (.ix (.v 2) (.v 8))) #v[.set 6 (.op .add (.op .add (.sl (.v 6) .no (.yes (.v 8))) (.tup #v[.own "_law_odd_row" 3 #v[.v 0,.ix (.v 2) (.v 8),.v 8]])) (.sl (.v 6) (.yes (.op .add (.v 8) (.c (.int 1)))) .no))] .nil],.ret (.v 6)]
abbrev cm:Ss:=
 #v[.set 2 (.own "_law_first_bad" 2 #v[.v 0,.v 1]),.set 3 (.own "_law_answer" 2 #v[.v 0,.v 1]),.ite (.cmp .is (.v 2) (.c .non)) #v[.ret (.cmp .is (.v 3) (.c (.bl true)))] .nil,.ret (.and (.isi "tuple" (.v 3)) (.and (.own "_law_is_below" 2 #v[.ix (.v 3) (.c (.int 0)),.op .add (.v 2) (.c (.int 1))]) (.cmp .eq (.v 3) (.tup #v[.v 2,.c (.bl true)]))))]
abbrev jm:Ss:=
 #v[.set 1 (.own "_law_flow" 1 #v[.v 0]),.set 2 (.own "_law_rule" 1 #v[.v 1]),.set 3 (.own "_law_sentence" 3 #v[.v 1,.v 2,.ix (.lst #v[.c (.int 12),.c (.int 37)]) (.bi .int #v[.cmp .eq (.own "_law_pick" 2 #v[.v 1,.c (.int 8)]) (.c (.int 0))])]),.set 4 (.own "_law_changed" 3 #v[.v 1,.v 2,.v 3]),.loop (.nm 5) (.seq (.lst #v[.v 3,.v 4,.v 3,.v 4])) #v[.ite (.not (.own "_law_right" 2 #v[.v 2,.v 5])) #v[.ret (.c (.bl false))] .nil],.ret (.cmp .is (.own "_law_first_bad" 2 #v[.v 2,.v 3]) (.c .non))]
structure Sn (defs:Kg (Ks×Df)):Prop where
 gen:Gen defs
 whole:Is defs ("is_whole" : Ks) 1 1 dR
 name:Is defs ("is_name" : Ks) 1 1 fG
 row:Is defs ("is_row" : Ks) 3 5 hG
 field:Is defs ("is_field" : Ks) 3 3 dS
 point_name:Is defs ("is_point_name" : Ks) 1 1 bF
 names_of:Is defs ("names_of" : Ks) 2 4 dU
 part_rows:Is defs ("part_rows" : Ks) 1 1 cV
 l_unlike:Is defs ("_law_unlike" : Ks) 2 3 bS
 l_rule:Is defs ("_law_rule" : Ks) 1 8 cW
 l_place_names:Is defs ("_law_place_names" : Ks) 3 7 bp
 l_free:Is defs ("_law_free" : Ks) 2 2 dW
 l_ahead:Is defs ("_law_ahead" : Ks) 2 2 cY
 l_row:Is defs ("_law_row" : Ks) 4 8 fH
 l_sentence:Is defs ("_law_sentence" : Ks) 3 8 bT
 l_short:Is defs ("_law_is_short" : Ks) 1 1 bU
 l_below:Is defs ("_law_is_below" : Ks) 2 2 bV
 l_row_fits:Is defs ("_law_row_fits" : Ks) 3 4 bW
 l_first_bad:Is defs ("_law_first_bad" : Ks) 2 4 bG
 l_odd_name:Is defs ("_law_odd_name" : Ks) 2 3 bX
 l_odd_number:Is defs ("_law_odd_number" : Ks) 3 4 bu
 l_odd_row:Is defs ("_law_odd_row" : Ks) 3 7 ci
 l_changed:Is defs ("_law_changed" : Ks) 3 9 cj
abbrev ET:Ks:="qxyzabcdefghijklmnoprstuvw"
def AC:ET.cps.toList.length=26:=rfl
def Ee:ET.cps.toList.Nodup:=by decide
abbrev d6:Kg Ks:=ET.cps.toList.map λc=>#[[c].toArray]
def xY:d6.Nodup:=by
 unfold d6 List.Nodup;rw[List.pairwise_map];exact Ee.imp λh e=>h (by injection e with e; injection e with e; injection e)
def uA:d6.length=26:=rfl
def kA {S:aa}{zs:Kg Ks}{y:Ks}:dv .isin (.str y) (.tup (zs.map W.str)) S=bt (.bl (decide (y∈zs)),S):=by
 show(CQ (.str y) (.tup (zs.map W.str)) S).map (λk=>(W.bl k,S))=_
 simp only[CQ,dY];rw[KQ (by rw[oW]; rfl),sr]
 rfl
abbrev kR (c:Kt):KR:=decide (97<=c)&&decide (c<=122)
abbrev kU (x:Ks):KR:=x.cps.toList.all kR
structure SmN (m:Kt)(y:Ks):Prop where
 lo:1<=y.length
 hi:y.length<=m
 low:kU y=true
abbrev AD:Ks->Prop:=SmN 1000
def lR {y:Ks}(h:xW y):kU y=true:=LN.mpr λc hc=>by
 rw[kR,Lp (h c hc).1,Lp (h c hc).2]; rfl
def qE {m:Kt}{L:Kg Ks}(h:(L.all λy=>(decide (1<=y.length)&&decide (y.length<=m))&&kU y)=true):∀y∈L,SmN m y:=λy hy=>by
 have:=LN.mp h y hy;rw[Kj,Kj,KN,KN]at this;exact#[this.1.1,this.1.2,this.2]
def AE:∀y∈d6,SmN 3 y:=qE (by decide +kernel)
section
variable{defs:Kg (Ks×Df)}{fuel d:Kt}{S:aa}{r:Kt}{Q:QW}
def oZ (hfu:30 < fuel)(hd:Is defs ("_law_unlike" : Ks) 2 3 bS){m:Kt}(hm3:3<=m){y:Ks}{t:Kt}{ys:Kg Ks}(hy:SmN m y)(ht:S[t]?=bt (.lst (ys.map W.str)))(hl:ys.length<=10)(k:∀y,SmN m y->y∉bJ->Q (.str y,S)) :
  wO (bd (aj defs fuel (d+1)) "_law_unlike" 2 [.str y,.ref t] S) Q:=by
 show aH hd rfl rfl λQ' hR=>?_
 change wZ _ _ bS [bt (.str y),bt (.ref t),gV] S Q';dsimp only[bS];show st ?_;dsimp only[wS,wE,wV,wG,KO];show st ?_;show G2 (λmm Z S'=>∃(s:Kt) (y:Ks),Z=[bt (.str y),bt (.ref t),bt (.int s)]/\S'=S/\mm+s=22/\s<=20/\SmN m y/\(∀k,k+1=s->d6[k]?=bt y)/\∀k,k+1 < s->∀c,d6[k]?=bt c->c∈bJ++ys) 22 rfl rfl ∅ #[0,y,rfl,rfl,rfl,∅,hy,λk h=>absurd h ∅,λk h=>absurd h ∅] ?_
 rintro mm Z S' ⟨s,y',rfl,rfl,hm,hs,hy',hc1,hc2⟩;have go:y'∈bJ++ys->∃m',mm=m'+1/\D9 (aj defs fuel d) fuel #v[.set 0 (.op .mul (.ix (.c (.str "qxyzabcdefghijklmnoprstuvw")) (.op .mod (.v 2) (.c (.int 26)))) (.op .add (.c (.int 1)) (.op .fdiv (.v 2) (.c (.int 26))))),.set 2 (.op .add (.v 2) (.c (.int 1)))] [bt (.str y'),bt (.ref t),bt (.int s)] S' (λZ S''=>∃(s:Kt) (y:Ks),Z=[bt (.str y),bt (.ref t),bt (.int s)]/\S''=S'/\m'+s=22/\s<=20/\SmN m y/\(∀k,k+1=s->d6[k]?=bt y)/\∀k,k+1 < s->∀c,d6[k]?=bt c->c∈bJ++ys) Q':=by
  intro hin;have all:∀k,k < s->∀c,d6[k]?=bt c->c∈bJ++ys:=λk hk c hc=>by
   by_cases h:k+1 < s
   ·exact hc2 k h c hc
   ·have:=hc1 k ∅
    rw[hc]at this;cases this;exact hin
  have hs19:s<=19:=by
   have h7:=xX (d6.take s) (bJ++ys) (xY.sublist (Qp _ _)) λx hx=>by
    obtain⟨k,hk,e⟩:=Pv.mp hx;rw[LS]at hk;exact all k ∅ x (by rw[List.getElem_take]at e; rw[<- e]; exact KT _)
   rw[LS,Kw,uA]at h7;have:bJ.length=9:=rfl;omega
  show#[mm - 1,∅,λQ2 hn _=>?_]
  have em:((s:KD) % 26)=s:=Int.emod_eq_of_lt ∅ ∅
  have ed:((s:KD) / 26)=0:=Int.ediv_eq_zero_of_lt ∅ ∅
  obtain⟨c,ec⟩ : ∃c,ET.cps.toList[s]?=bt c:=#[_,KT (by rw[AC]; omega)]
  have ec2:d6[s]?=bt #[[c].toArray]:=by unfold d6; rw[K4,ec]; rfl
  show st ?_;dsimp only[wS,wE,wV,wG,KO];show ae (oM #v[]) ?_
  rw[em];have ec:ET.cps.toList[(s:KD).toNat]?=bt c:=ec;show ae (BI (x:=ET) (i:=(s:KD)) (c:=c) (cM rfl) (MA s) ec) ?_;have e2:gh .fdiv (.int s) (.int 26) S'=bt (.int 0,S'):=by
   rw[xz ∅ ∅,ed]
  dsimp only;rw[e2];dsimp only[bn,cz];rw[show(1:KD)+0=1 from rfl]
  show ae Ed ?_;show st ?_;dsimp only[wS,wE,wV,wG,KO,bn,cz];exact cw (hn _ _ #[s+1,_,rfl,rfl,∅,∅,(λz=>#[z.lo,KJ z.hi hm3,z.low]) (AE _ (Lc ec2)),λk hk=>by rw[show k=s by omega]; exact ec2,λk hk=>all k ∅])
 dsimp only[wT,wE,wV,wG,wA];show ae (lQ ht) #[λh=>#[λ_=>go (KW _ (Lq h)),λz=>(by cases z)],λh=>?_]
 show ae (kA (zs:=bJ)) #[λh=>go (LZ _ (Lq h)),λh2=>?_]
 show st ?_;exact hR _ _ (k _ hy' (MV h2))
end
abbrev o4 (w:W):Prop:=∃(ms:Kg Ks) (ns:Kg (Ks×KD)),w=.tup [.tup (ms.map W.str),.tup (ns.map λp=>.tup [.str p.1,.int p.2]),.tup []]/\1<=ms.length/\ms.length<=3/\1<=ns.length/\ns.length<=3/\(∀m∈ms,AD m)/\∀p∈ns,AD p.1
abbrev xZ:Kg W:=[.tup [.int 1,.int 1],.tup [.int 1,.int 2],.tup [.int 1,.int 3],.tup [.int 2,.int 1],.tup [.int 2,.int 2],.tup [.int 2,.int 3],.tup [.int 3,.int 1],.tup [.int 3,.int 2]]
def x4:∀k:Kt,k < 8->∃a b:Kt,xZ[k]?=bt (.tup [.int (a:KD),.int (b:KD)])/\1<=a/\a<=3/\1<=b/\b<=3
 | 0,_=>#[1,1,rfl,#v[]]
 | 1,_=>#[1,2,rfl,#v[]]
 | 2,_=>#[1,3,rfl,#v[]]
 | 3,_=>#[2,1,rfl,#v[]]
 | 4,_=>#[2,2,rfl,#v[]]
 | 5,_=>#[2,3,rfl,#v[]]
 | 6,_=>#[3,1,rfl,#v[]]
 | 7,_=>#[3,2,rfl,#v[]]
 | n+8,h=>absurd h ∅
abbrev o5:Kg Ks:=["mark","way","bars","somes","eachx","no","an","o","isa","x","y","waysx","nott","andor"]
def x9:∀y∈o5,AD y:=qE (by decide +kernel)
abbrev hW:Kg W->Es
 | []=>.nil
 | w::ws=>.cons (.c w) (hW ws)
def iH {M:Ks->FF}{Z:Fm}{S:aa}:∀ {ws:Kg W} {Q:Kg W×aa->Prop},Q (ws,S)->wA M (hW ws) Z S Q
 | [],Q,q=>q
 | w::ws,Q,q=>iH (ws:=ws) q
def kB {M:Ks->FF}{Z:Fm}{S:aa}{ws:Kg W}{Q:QW}(q:Q (.ref S.length,S++[.lst ws])):wE M (.lst (hW ws)) Z S Q:=by dsimp only[wE]; exact iH q
section
variable{defs:Kg (Ks×Df)}{fuel d:Kt}{S:aa}{r:Kt}{Q:QW}
def AF {M:Ks->FF}{Z:Fm}{b:Kt}(b1:1<=b)(b3:b<=3)(hb:Z[2]?=bt (bt (.int b)))(k:∀(u:Kt) (rs:Kg Kt) (S':aa),Ka S S'->S'[u]?=bt (.lst (rs.map W.ref))->S.length<=u->1<=rs.length->rs.length<=3->(∀t∈rs,S.length<=t/\∃bs:Kg KD,S'[t]?=bt (.lst (bs.map W.int))/\bs.length=b)->Q (.ref u,S')) :
  wE M (.ix (.lst #v[.lst #v[.lst #v[.c (.int 0)]],.lst #v[.lst #v[.c (.int 0),.c (.int 1)],.lst #v[.c (.int 1),.c (.int 0)]],.lst #v[.lst #v[.c (.int 0),.c (.int 1),.c (.int 2)],.lst #v[.c (.int 1),.c (.int 0),.c (.int 2)],.lst #v[.c (.int 0),.c (.int 2),.c (.int 1)]]]) (.op .sub (.v 2) (.c (.int 1)))) Z S Q:=by
 have hv:∀Q:W->Prop,Q (.int b)->wV Z 2 Q:=λQ q=>by
  match Z,hb with
  | _::_::x::Z,hb=>
   cases(show x=bt (.int b) by simpa using hb)
   exact q
 dsimp only[wE,wA];show hv _ ?_;dsimp only[lJ,cz];rcases(show b=1\/b=2\/b=3 by omega)with rfl|rfl|rfl
 ·show bM (i:=0) ah rfl (k _ [_] _ ?_ (by repeat (first|exact ah|refine az ?_)) ?_ (Ku rfl) (Ku rfl) ?_)
  ·repeat (first|exact Ka.refl|refine Ka.trans ?_ Ka.push)
  ·simp only[Kw]; omega
  ·intro t ht;cases KU.mp ht;show#[Kz _,[0],?_,rfl]
   repeat (first|exact ah|refine az ?_)
 ·show bM (i:=1) ah rfl (k _ [_,_] _ ?_ (by repeat (first|exact ah|refine az ?_)) ?_ (Ku rfl) (Ku rfl) ?_)
  ·repeat (first|exact Ka.refl|refine Ka.trans ?_ Ka.push)
  ·simp only[Kw]; omega
  ·intro t ht;rcases Kx.mp ht with rfl|ht
   ·show#[by simp only[Kw]; omega,[0,1],?_,rfl]
    repeat (first|exact ah|refine az ?_)
   ·cases KU.mp ht;show#[by simp only[Kw]; omega,[1,0],?_,rfl]
    repeat (first|exact ah|refine az ?_)
 ·show bM (i:=2) ah rfl (k _ [_,_,_] _ ?_ (by repeat (first|exact ah|refine az ?_)) ?_ (Ku rfl) (Ku rfl) ?_)
  ·repeat (first|exact Ka.refl|refine Ka.trans ?_ Ka.push)
  ·simp only[Kw]; omega
  ·intro t ht;rcases Kx.mp ht with rfl|ht
   ·show#[by simp only[Kw]; omega,[0,1,2],?_,rfl]
    repeat (first|exact ah|refine az ?_)
   ·rcases Kx.mp ht with rfl|ht
    ·show#[by simp only[Kw]; omega,[1,0,2],?_,rfl]
     repeat (first|exact ah|refine az ?_)
    ·cases KU.mp ht;show#[by simp only[Kw]; omega,[0,2,1],?_,rfl]
     repeat (first|exact ah|refine az ?_)
def Ef (hfu:30 < fuel)(L:Sn defs)(hf:Fl S r)(k:∀w S',o4 w->Fl S' r->Kp r S S'->Q (w,S')) :
  wO (bd (aj defs fuel (d+3)) "_law_rule" 1 [.ref r] S) Q:=by
 show aH L.l_rule rfl rfl λQ' hR=>?_
 replace k:∀w S',o4 w->Fl S' r->Kp r S S'->Q' (.rt w,S'):=λw S' a b c=>hR _ _ (k w S' a b c)
 clear hR;change wZ _ _ cW [bt (.ref r),gV,gV,gV,gV,gV,gV,gV] S Q';dsimp only[cW];show st ?_;left;show aA (d:=d+1) L.gen.pick (hf.ka .push) #v[] #v[] λv S1 v0 v1 f1 k1=>?_
 have e1:S1[S.length]?=bt (.lst xZ):=k1.get _ _ (K9 hf.lt) ah;obtain⟨a,b,e2,a1,a3,b1,b3⟩:=x4 v.toNat ∅
 show eX e1 v0 e2 ?_;replace k1:Kp r S S1:=Kp.push.trans k1;clear e1 e2 v0 v1;dsimp only[wU];have hset:gm [1,2] [.int a,.int b] [bt (.ref r),gV,gV,gV,gV,gV,gV,gV]=bt [bt (.ref r),bt (.int a),bt (.int b),gV,gV,gV,gV,gV]:=rfl;show ae hset ?_;show st (g9 (kB (ws:=o5.map W.str) ?_));dsimp only[KO];show st ?_;left;show st ?_;have hr1:=f1.lt;have hS1:=k1.len;generalize ht3:S1.length=t3 at hr1;show mR ((a:KD)+b) (λi Z S'=>∃x5 x6 ,∃ys:Kg Ks,Z=[bt (.ref r),bt (.int a),bt (.int b),bt (.ref t3),bt (.ref (t3+1)),x5,x6,gV]/\S'[t3]?=bt (.lst (o5.map W.str))/\S'[t3+1]?=bt (.lst (ys.map W.str))/\ys.length=i/\(∀y∈ys,AD y)/\Fl S' r/\Kp r S S') rfl rfl ∅ ?_ ?_ ?_
 ·dsimp only[wE,wV,wG,bn,cz];show#[rfl,gV,gV,[],by rw[<- ht3]; simp,?_,?_,rfl,λ_ h=>(nomatch h),(f1.ka .push).ka .push,k1.trans (Kp.push.trans .push)]
  ·rw[<- ht3]; exact az ah
  ·rw[show t3+1=(S1++[O.lst (o5.map W.str)]).length by simp[ht3]]; exact ah
 ·rintro i Z S2 hi ⟨x5,x6,ys,rfl,e3,e4,hl,hs,f2,k2⟩ Q2 hn _;show st ?_;left;show aA (d:=d+1) L.gen.pick f2 #v[] #v[] λv S3 v0 v1 f3 k3=>?_
  dsimp only[bn,cz];show lP (d:=d) L.gen f3 ∅ ∅ λy S4 hy0 hs0 f4 k4=>?_
  have hy:AD y:=#[by rw[fF,hy0]; omega,by rw[fF,hy0]; omega,lR hs0]
  have kk4:=k3.trans k4;have aF:∀(y:Ks) (S5:aa),AD y->Fl S5 r->Kp r S4 S5->wZ (aj defs fuel (d+2)) fuel #v[.ex (.me .append (.v 4) #v[.own "_law_unlike" 2 #v[.v 6,.v 4]])] [bt (.ref r),bt (.int a),bt (.int b),bt (.ref t3),bt (.ref (t3+1)),bt (.int i),bt (.str y),gV] S5 Q2:=by
   intro y S5 hy f5 k5;have kk:=kk4.trans k5;have e5:=kk.get _ _ ∅ e4
   show st ?_;left;show#[iE e5,oZ (d:=d+1) hfu L.l_unlike #v[] hy e5 ∅ λz hz _=>?_]
   show oU e5 (by rw[Kv]; omega) (cw (hn _ _ #[_,_,ys++[z],rfl,?_,?_,by simp[hl],?_,f5.own ∅,(k2.trans kk).late ∅]))
   ·rw[cv ∅]; exact kk.get _ _ ∅ e3
   ·rw[eT e5,LB]; rfl
   ·intro u hu;rcases Lb.mp hu with h|h
    ·exact hs u h
    ·rw[KU.mp h]; exact hz
  show st ?_;dsimp only[wS,wT,wE,wA,wV,wG,KO];show aA (d:=d+1) L.gen.pick f4 #v[] #v[] λu S5 u0 u1 f5 k5=>?_
  dsimp only[iD,cz,wB];show aG (Q0:=Q2) (λhg Q3 hn3 hr=>?_) (λhg Q3 hn3 hr=>cw (hn3 _ _ (aF _ _ hy f5 k5)))
  show st ?_;left;show aA (d:=d+1) L.gen.pick f5 #v[] #v[] λx S6 x0 x1 f6 k6=>?_
  obtain⟨z,hz,ez⟩:=dQ (f:=W.str) (xs:=o5) (i:=x.toNat) (show _ < 14 by omega)
  exact eX ((kk4.trans (k5.trans k6)).get _ _ ∅ e3) x0 ez (cw (hn3 _ _ (aF _ _ (x9 z hz) f6 (k5.trans k6))))
 ·rintro Z S2 ⟨x5,x6,ys,rfl,e3,e4,hl,hs,f2,k2⟩;clear e3 f1 k1 hf;have hr2:=f2.lt;have hk2:=k2.len;have tail:∀(t7:Kt) (bs:Kg KD) (S3:aa),S3[t7]?=bt (.lst (bs.map W.int))->bs.length=b->Fl S3 r->Kp r S2 S3->wZ (aj defs fuel (d+2)) fuel #v[.ret (.tup #v[.bi .tuple #v[.sl (.v 4) .no (.yes (.v 1))],.bi .tuple #v[.comp (.tup #v[.ix (.v 4) (.op .add (.v 3) (.v 1)),.ix (.v 2) (.v 1)]) (.nm 1) (.rng #v[.v 2]) .nil [gV,gV,bt 7,bt 1,bt 4]],.tup .nil])] [bt (.ref r),bt (.int a),bt (.int b),bt (.ref t3),bt (.ref (t3+1)),x5,x6,bt (.ref t7)] S3 Q':=by
   intro t7 bs S3 e7 hb f3 k3;have e5:=k3.get _ _ ∅ e4
   show st ?_;dsimp only[wS,wE,wA,wP,wV,wG,wN];show ae (show md (.ref (t3+1)) gV (bt (a:KD)) S3=bt (.ref S3.length,S3++[.lst ((ys.take a).map W.str)]) by simp only[md,aP e5,oX,List.map_take]) ?_
   show ae (xD ah) ?_;dsimp only;show sj (b:KD) (λi zs Z S'=>(∃x,Z=[gV,x,bt (.ref t7),bt (.int a),bt (.ref (t3+1))])/\S'=S3++[.lst ((ys.take a).map W.str)]/\∃ns:Kg (Ks×KD),zs=ns.map (λp=>.tup [.str p.1,.int p.2])/\ns.length=i/\∀p∈ns,AD p.1) rfl rfl rfl ∅ #[rfl,#[gV,rfl],rfl,[],rfl,rfl,λ_ h=>nomatch h] ?_ ?_
   ·rintro i zs Z _ hi ⟨⟨x,rfl⟩,rfl,ns,rfl,hn,hq⟩;dsimp only[si,wC,wE,wA,wV,wG,KO,bn,cz];show#[λ_=>?_,λz=>by cases z]
    obtain⟨y,hy,ey⟩:=dQ (f:=W.str) (xs:=ys) (i:=((a:KD)+i).toNat) ∅
    obtain⟨c,hc,ec⟩:=dQ (f:=W.int) (xs:=bs) (i:=((i:KD)).toNat) ∅
    show eX (az e5) ∅ ey (eX (az e7) ∅ ec #[#[_,rfl],rfl,ns++[(y,c)],by simp,by simp[hn],?_])
    intro p hp;rcases Lb.mp hp with h|h
    ·exact hq p h
    ·rw[KU.mp h]; exact hs y hy
   ·rintro zs Z _ ⟨_,rfl,ns,rfl,hn,hq⟩;show#[by rw[Kv,hn,LX]; exact KJ (show b<=1000 by omega) (cM rfl),?_]
    show ae (xD ah) ?_;show k _ _ #[ys.take a,ns,rfl,?_,?_,?_,?_,λm hm=>hs m (Og hm),hq] ((f3.ka .push).ka .push) (k2.trans (k3.trans (Kp.push.trans .push)))
    all_goals first|(rw[LS]; omega)|omega
  have one:∀(u:Kt) (rs:Kg Kt) (S3:aa),S3[u]?=bt (.lst (rs.map W.ref))->1<=rs.length->rs.length<=3->u≠r->(∀t∈rs,r < t/\∃bs:Kg KD,S3[t]?=bt (.lst (bs.map W.int))/\bs.length=b)->Fl S3 r->Kp r S2 S3->wZ (aj defs fuel (d+2)) fuel #v[.set 7 (.ix (.v 7) (.own "_law_pick" 2 #v[.v 0,.bi .len #v[.v 7]])),.ret (.tup #v[.bi .tuple #v[.sl (.v 4) .no (.yes (.v 1))],.bi .tuple #v[.comp (.tup #v[.ix (.v 4) (.op .add (.v 3) (.v 1)),.ix (.v 2) (.v 1)]) (.nm 1) (.rng #v[.v 2]) .nil [gV,gV,bt 7,bt 1,bt 4]],.tup .nil])] [bt (.ref r),bt (.int a),bt (.int b),bt (.ref t3),bt (.ref (t3+1)),x5,x6,bt (.ref u)] S3 Q':=by
   intro u rs S3 eu h1 h3 hu hbs f3 k3;show st ?_;left;show ae (xC eu) (aA (d:=d+1) L.gen.pick f3 (by rw[Kv]; omega) (by rw[Kv]; omega) λv S4 v0 v1 f4 k4=>?_)
   rw[Kv]at v1;obtain⟨t,ht,et⟩:=dQ (f:=W.ref) (xs:=rs) (i:=v.toNat) ∅
   obtain⟨hrt,bs,eb,hb⟩:=hbs t ht;show eX (k4.get _ _ hu eu) v0 et ?_;dsimp only[KO];exact tail t bs S4 (k4.get _ _ ∅ eb) hb f4 (k3.trans k4)
  show st (g9 (AF b1 b3 rfl λu rs S3 a1 a2 a3 a4 a5 a6=>?_))
  dsimp only[KO];exact one u rs S3 a2 a4 a5 ∅ (λt ht=>#[by have:=(a6 t ht).1; omega,(a6 t ht).2]) (f2.ka a1) (a1.kp r)
end
def gr {n:Kt}(h:n<=1000000):n<=sizeLine:=by rw[LF]; omega
section
variable{M:Ks->FF}{Z:Fm}{S:aa}
def ya {α:Type}{elt:E}{tg:Tg}{it:Ie}{cs:Es}{cap:Kg (Kk Kt)}{mi:MI}{S1:aa}{Q:QW}(L:Kg α)(f:α->W)(p:α->KR)(g:α->W)(tx:Fm->Prop)(fr:α->Fm)(hJ:∀x Z S,tx Z->ul tg (f x) Z S=bt (fr x,S)/\tx (fr x))(oe:d0 elt=true)(oc:qx cs=true)(hc:tx (eP cap Z))(hl:L.length<=1000000)(hi:lH M it Z S=bt (mi,S1))(k1:Ka S S1)(hat:∀i S',Ka S1 S'->mi.at S' i=bt (L.map f)[i]?)(hn:mi.len S1=bt (L.map f).length)
  (hstep:∀x∈L,∀S',Ka S S'->si M elt cs (fr x) S' (λy _ S2=>p x=true/\y=g x/\Ka S' S2) (λ_ S2=>p x=false/\Ka S' S2))
  (k:∀S',Ka S S'->Q (.ref S'.length,S'++[.lst ((L.filter p).map g)])):Wp (ar M (.comp elt tg it cs cap) Z S) Q:=by
 rw[xw];show#[_,hi,_,hn,?_];show(cy (xs:=L.map f) (Q:=λq=>q.1.length<=sizeLine/\Q (.ref q.2.length,q.2++[.lst q.1])) (λi ys Z' S'=>tx Z'/\ys=((L.take i).filter p).map g/\Ka S1 S') (λi ys Z' S' h=>hat i S' h.2.2) (λi w ys Z' S' hw h=>?_) (λys Z' S' h=>?_) (L.map f).length 0 [] _ S1 ∅ #[hc,rfl,.refl]).mono λq hq=>by simpa using hq
 ·obtain⟨hj,rfl,k2⟩:=h;rw[K4,Ko]at hw;obtain⟨x,hx,rfl⟩:=hw;obtain⟨h1,h2⟩:=hJ x Z' S' hj;show#[_,h1,?_];show(BN oc (hstep x (Lc hx) S' (k1.trans k2))).mono λc hc=>#[λz=>(aB elt oe (hc.1 z)).mono λy hy=>#[h2,?_,k2.trans hy.2.2],λz=>#[h2,?_,k2.trans (hc.2 z).2]]
  ·rw[QJ,hx,OJ,show(Sg (bt x)).filter p=[x]from List.filter_cons_of_pos hy.1,LB,hy.2.1]; rfl
  ·rw[QJ,hx,OJ,show(Sg (bt x)).filter p=[]from List.filter_cons_of_neg (by rw[(hc.2 z).1]; exact KL),LK]
 ·obtain⟨_,rfl,k2⟩:=h;dsimp only;rw[show(L.map f).length=L.length from Kv ..,List.take_length]
  show#[gr ?_,k S' (k1.trans k2)];rw[Kv];exact KJ (Nv _ _) hl
def qF {α:Type}{elt:E}{it:Ie}{cs:Es}{cap:Kg (Kk Kt)}{mi:MI}{S1:aa}{Q:QW}(L:Kg α)(f:α->W)(p:α->KR)(g:α->W)(R:Fm)(oe:d0 elt=true)(oc:qx cs=true)(hc:eP cap Z=gV::gV::R)(hl:L.length<=1000000)(hi:lH M it Z S=bt (mi,S1))(k1:Ka S S1)(hat:∀i S',Ka S1 S'->mi.at S' i=bt (L.map f)[i]?)(hn:mi.len S1=bt (L.map f).length)
  (hstep:∀x∈L,∀S',Ka S S'->si M elt cs (gV::bt (f x)::R) S' (λy _ S2=>p x=true/\y=g x/\Ka S' S2) (λ_ S2=>p x=false/\Ka S' S2))
  (k:∀S',Ka S S'->Q (.ref S'.length,S'++[.lst ((L.filter p).map g)])):Wp (ar M (.comp elt (.nm 1) it cs cap) Z S) Q:=
 ya L f p g (λZ=>∃a,Z=gV::a::R) (λx=>gV::bt (f x)::R) (λ_ _ _ h=>let ⟨_,e⟩:=h; e ▸ #[rfl,_,rfl]) oe oc #[_,hc] hl hi k1 hat hn hstep k
def Eg {α:Type}{elt e:E}{cs:Es}{cap:Kg (Kk Kt)}{Q:QW}(L:Kg α)(f:α->W)(p:α->KR)(g:α->W)(R:Fm)(oi:d0 e=true)(oe:d0 elt=true)(oc:qx cs=true)(hc:eP cap Z=gV::gV::R)(hl:L.length<=1000000)
  (he:wE M e Z S λq=>∃t,q.1=.ref t/\q.2[t]?=bt (.lst (L.map f))/\Ka S q.2)
  (hstep:∀x∈L,∀S',Ka S S'->si M elt cs (gV::bt (f x)::R) S' (λy _ S2=>p x=true/\y=g x/\Ka S' S2) (λ_ S2=>p x=false/\Ka S' S2))
  (k:∀S',Ka S S'->Q (.ref S'.length,S'++[.lst ((L.filter p).map g)])):Wp (ar M (.comp elt (.nm 1) (.seq e) cs cap) Z S) Q:=by
 obtain⟨w,S1,e1,t,rfl,ht,k1⟩:=db oi he;exact qF (mi:=.live t) L f p g R oe oc hc hl (by simp only[lH,fR,e1,aP ht]) k1 (λi S' h=>by simp only[MI.at,aP (h.get _ _ ht)]) (by simp only[MI.len,aP ht,L5]) hstep k
def Eh {α:Type}{elt e:E}{cs:Es}{cap:Kg (Kk Kt)}{Q:QW}(L:Kg α)(f:α->W)(p:α->KR)(g:α->W)(R:Fm)(oi:d0 e=true)(oe:d0 elt=true)(oc:qx cs=true)(hc:eP cap Z=gV::gV::R)(hl:L.length<=1000000)
  (he:wE M e Z S λq=>q.1=.tup (L.map f)/\Ka S q.2)
  (hstep:∀x∈L,∀S',Ka S S'->si M elt cs (gV::bt (f x)::R) S' (λy _ S2=>p x=true/\y=g x/\Ka S' S2) (λ_ S2=>p x=false/\Ka S' S2))
  (k:∀S',Ka S S'->Q (.ref S'.length,S'++[.lst ((L.filter p).map g)])):Wp (ar M (.comp elt (.nm 1) (.seq e) cs cap) Z S) Q:=by
 obtain⟨w,S1,e1,rfl,k1⟩:=db oi he;exact qF (mi:=.its (L.map f)) L f p g R oe oc hc hl (by simp only[lH,fR,e1]) k1 (λ_ _ _=>rfl) rfl hstep k
def kC {α:Type}(L:Kg α):L.filter (λ_=>true)=L:=List.filter_eq_self.mpr λ_ _=>rfl
end
structure Asc (x:Ks):Prop where
 lo:(x.cps.all λc=>decide (c < 128))=true
 len:x.length<=1000
inductive Thg (S:aa):W->Prop
 | non:Thg S .non
 | bl {b:KR}:Thg S (.bl b)
 | int {i:KD}:Thg S (.int i)
 | str {x:Ks} (h:Asc x):Thg S (.str x)
 | tup {xs:Kg W} (h:∀x∈xs,Thg S x) (hl:xs.length<=100):Thg S (.tup xs)
 | lst {l:Kt} (h:∃xs,S[l]?=bt (O.lst xs)):Thg S (.ref l)
def Thg.mono {S S':aa}{w:W}(h:Thg S w)(k:∀l:Kt,(∃xs,S[l]?=bt (O.lst xs))->∃xs,S'[l]?=bt (O.lst xs)):Thg S' w:=by
 induction h with
 | non=>exact .non
 | bl=>exact .bl
 | int=>exact .int
 | str h=>exact .str h
 | tup h hl ih=>exact .tup ih hl
 | lst h=>exact .lst (k _ h)
def Thg.ka {S S':aa}{w:W}(h:Thg S w)(k:Ka S S'):Thg S' w:=h.mono λ_ #[xs,e]=>#[xs,k.get _ _ e]
def Thg.kp {S S':aa}{w:W}{r:Kt}(h:Thg S w)(k:Kp r S S')(f:Fl S' r):Thg S' w:=h.mono λl #[xs,e]=>by
 by_cases z:l=r
 ·subst z;obtain⟨_,_,_,_,_,_,f⟩:=f;exact#[_,f.at_r]
 ·exact#[xs,k.get _ _ z e]
abbrev o6:W->KR|.int _=>true|_=>false
abbrev yb:W->KR|.bl _=>true|_=>false
abbrev d7:W->KR|.str _=>true|_=>false
def dX {S:aa}{l:Kt}{c:LR}(h:∃xs,S[l]?=bt (.lst xs))(hc:ol.contains c=true):pk S (.ref l) c=bt ("list" == c||("list" == "bool" && c == "int")):=by
 obtain⟨xs,e⟩:=h;have e2:HC S (.ref l)=bt "list":=by simp only[HC,aP e]
 unfold pk;rw[e2];exact KQ hc
def Thg.n {S:aa}{w:W}(h:Thg S w):pk S w "int" = bt (o6 w||yb w):=by
 cases h with
 | lst h=>exact dX h rfl
 | _=>rfl
def Thg.b {S:aa}{w:W}(h:Thg S w):pk S w "bool" = bt (yb w):=by
 cases h with
 | lst h=>exact dX h rfl
 | _=>rfl
def Thg.s {S:aa}{w:W}(h:Thg S w):pk S w "str" = bt (d7 w):=by
 cases h with
 | lst h=>exact dX h rfl
 | _=>rfl
def qG (L:Kg KR):gk (L.map W.bl)=bt L:=by
 induction L with
 | nil=>rfl
 | cons b L ih=>rw[Lz]; dsimp only[gk]; rw[ih]; rfl
def yc {S:aa}{l:Kt}{L:Kg KR}{Q:QW}(h:S[l]?=bt (.lst (L.map W.bl)))(q:Q (.bl (L.all id),S)):wO (Bi.all.fn [.ref l] S) Q:=by
 show ae ?_ q;simp only[Bi.fn,CW,aP h,qG,L5]
def qH {S:aa}{y:Ks}{Q:QW}(h:y.length<=1000)(q:Q (.int y.length,S)):wO (Bi.len.fn [.str y] S) Q:=by
 show ae (a:=(.int y.length,S)) ?_ q;dsimp only[Bi.fn,Ag,zE,tH];rw[KQ (KJ h (by rw[LF]; decide))]
def Ei:∀k:Fin 128,(!(NT "abcdefghijklmnopqrstuvwxyz" #[[k.val].toArray] 0 ("abcdefghijklmnopqrstuvwxyz" : Ks).length 1).isEmpty)=kR k.val:=by decide +kernel
def AG {S:aa}{c:Kt}(h:c < 128):dv .isin (.str #[[c].toArray]) (.str "abcdefghijklmnopqrstuvwxyz") S=bt (.bl (kR c),S):=by
 rw[<- Ei #[c,h]]; rfl
abbrev dc:Kg Ks:=["bar","not","and","or","is"]
abbrev aT (x:Ks):KR:=(decide (1<=(x.length:KD))&&decide ((x.length:KD)<=3))&&(!decide (x∈dc)&&kU x)
abbrev aC:W->KR|.str x=>aT x|_=>false
abbrev ay (n:KD):W->KR|.int i=>decide (0<=i)&&decide (i < n)|_=>false
section
variable{M:Ks->FF}{Z:Fm}{S:aa}{Q:QW}
def su {x:Ks}(h:Asc x)(k:∀S',Ka S S'->Q (.bl (kU x),S')) :
  wE M (.bi .all #v[.comp (.cmp .isin (.v 1) (.c (.str "abcdefghijklmnopqrstuvwxyz"))) (.nm 1) (.seq (.v 0)) .nil [gV,gV]]) [bt (.str x)] S Q:=by
 have hl:x.cps.toList.length<=1000:=by have:=h.len; rwa [fF]at this
 have ha:∀c∈x.cps.toList,c < 128:=λc hc=>by
  have:=h.lo;rw[<- Q1,LN]at this;exact Lq (this c hc)
 dsimp only[wE,wA];show qF (mi:=.its (x.cps.toList.map λc=>W.str #[[c].toArray])) (S1:=S) x.cps.toList (λc=>W.str #[[c].toArray]) (λ_=>true) (λc=>.bl (kR c)) [] rfl rfl rfl ∅ ?_ .refl (λ_ _ _=>rfl) rfl (λc hc S' k'=>?_) λS' k'=>?_
 ·have e1:ar M (.v 0) [bt (.str x)] S=bt (.str x,S):=rfl;simp only[lH,fR,e1,h.lo,Nf]
 ·dsimp only[si,wC,wE,wV,wG];exact#[λ_=>ae (AG (ha c hc)) #[rfl,rfl,.refl],λz=>by cases z]
 ·rw[kC];show yc (L:=x.cps.toList.map kR) (by rw[O5]; exact ah) ?_
  rw[O4];exact k _ (k'.trans .push)
end
section
variable{defs:Kg (Ks×Df)}{fuel d:Kt}{S:aa}{Q:QW}
def sv (L:Sn defs){w:W}(h:Thg S w)(k:Q (.bl (o6 w),S)):wO (bd (aj defs fuel (d+1)) "is_whole" 1 [w] S) Q:=by
 show aH L.whole rfl rfl λQ' hR=>?_
 replace k:=hR _ _ k;change wZ _ _ dR [bt w] S Q';dsimp only[dR];show st ?_;dsimp only[wS,wE,wV,wG];show ae h.n #[λz=>ae h.b ?_,λz=>?_]
 ·cases w <;> first|exact k|cases z
 ·cases w <;> first|exact k|cases z
def sw (L:Sn defs){w:W}{n:KD}(h:Thg S w)(k:Q (.bl (ay n w),S)):wO (bd (aj defs fuel (d+1)) "_law_is_below" 2 [w,.int n] S) Q:=by
 show aH L.l_below rfl rfl λQ' hR=>?_
 replace k:=hR _ _ k;change wZ _ _ bV [bt w,bt (.int n)] S Q';dsimp only[bV];show st ?_;dsimp only[wS,wE,wV,wG];show ae h.n #[λz=>ae h.b ?_,λz=>?_]
 ·cases w with
  | int i=>
   show#[λ_=>?_,λz=>by cases z]
   show ae (show yy .le (.int 0) (.int i) S=bt (decide (0<=i))from rfl) #[λz=>ae (show fL .lt (.int i) (.int n) S=bt (.bl (decide (i < n)),S)from rfl) ?_,λz=>?_]
   ·rw[ay,z,LU]at k; exact k
   ·rw[ay,z,NA]at k; exact k
  | bl b=>exact#[λz=>(by cases z),λ_=>k]
  | _=>cases z
 ·cases w <;> first|exact k|cases z
end
section
variable (M:Ks->FF) (Z:Fm)
abbrev Te (t:E)(S:aa)(c:KR):Prop:=∀Q:QB,(∀S',Ka S S'->Q (c,S'))->wT M t Z S Q
abbrev Ve (e:E)(S:aa)(w:W):Prop:=∀Q:QW,(∀S',Ka S S'->Q (w,S'))->wE M e Z S Q
end
section
variable{M:Ks->FF}{Z:Fm}{S:aa}{a b:E}{x y:KR}
def aU (ha:Te M Z a S x)(hb:x=false->∀S',Ka S S'->Te M Z b S' y):Te M Z (.or a b) S (x||y):=λQ k=>by
 dsimp only[wT];show ha _ λS' k'=>#[λz=>?_,λz=>hb z S' k' _ λS2 k2=>?_]
 ·have z:x=true:=z;subst z; exact k S' k'
 ·have z:x=false:=z;subst z; exact k S2 (k'.trans k2)
def Ej (ha:Te M Z a S x)(hb:x=true->∀S',Ka S S'->Te M Z b S' y):Te M Z (.and a b) S (x&&y):=λQ k=>by
 dsimp only[wT];show ha _ λS' k'=>#[λz=>hb z S' k' _ λS2 k2=>?_,λz=>?_]
 ·have z:x=true:=z;subst z; exact k S2 (k'.trans k2)
 ·have z:x=false:=z;subst z; exact k S' k'
def au (ha:Te M Z a S x):Te M Z (.not a) S (!x):=λQ k=>by
 dsimp only[wT];exact ha _ k
def bq (ha:Ve M Z a S (.bl x))(hb:x=true->∀S',Ka S S'->Ve M Z b S' (.bl y)):Ve M Z (.and a b) S (.bl (x&&y)):=λQ k=>by
 dsimp only[wE];show ha _ λS' k'=>#[λz=>hb z S' k' _ λS2 k2=>?_,λz=>?_]
 ·subst z; exact k S2 (k'.trans k2)
 ·subst z; exact k S' k'
def mT {f:Ks}{n:Kt}{es:Es}(h:Ve M Z (.own f n es) S (.bl x)):Te M Z (.own f n es) S x:=λQ k=>h (λq=>wO (eI q.2 q.1) λk=>Q (k,q.2)) λS' k'=>k S' k'
def bj {o:COp}(h:Ve M Z (.cmp o a b) S (.bl x)):Te M Z (.cmp o a b) S x:=λQ k=>by
 have:=h (λr=>wB r.1 λk=>Q (k,r.2)) λS' k'=>k S' k'
 dsimp only[wE]at this;dsimp only[wT];exact this
def aQ {c:LR}{w:W}(ha:∀Q:QW,Q (w,S)->wE M a Z S Q)(h:pk S w c=bt x):Te M Z (.isi c a) S x:=λQ k=>by
 dsimp only[wT];exact ha _ (ae h (k S .refl))
def qI {c:LR}{w:W}(ha:∀Q:QW,Q (w,S)->wE M a Z S Q)(h:pk S w c=bt x):Ve M Z (.isi c a) S (.bl x):=λQ k=>by
 dsimp only[wE];exact ha _ (ae h (k S .refl))
def de {o:COp}{v w r:W}(ha:∀Q:QW,Q (v,S)->wE M a Z S Q)(hb:∀Q:QW,Q (w,S)->wE M b Z S Q)(h:dv o v w S=bt (r,S)):Ve M Z (.cmp o a b) S r:=λQ k=>by
 dsimp only[wE];exact ha _ (hb _ (ae h (k S .refl)))
def mU {v:Ks}{zs:Kg Ks}(ha:∀Q:QW,Q (.str v,S)->wE M a Z S Q):Ve M Z (.cmp .isin a (.lst (hW (zs.map W.str)))) S (.bl (decide (v∈zs))):=λQ k=>by
 dsimp only[wE];exact ha _ (iH (ae (lQ ah) (k _ .push)))
def yd {d:E}{i j n:KD}(ha:∀Q:QW,Q (.int i,S)->wE M a Z S Q)(hb:∀Q:QW,Q (.int j,S)->wE M b Z S Q)(hd:∀Q:QW,Q (.int n,S)->wE M d Z S Q):Te M Z (.chn .le .le a b d) S (decide (i<=j)&&decide (j<=n)):=λQ k=>by
 dsimp only[wT];show ha _ (hb _ ?_);show ae (show yy .le (.int i) (.int j) S=bt (decide (i<=j))from rfl) #[λz=>hd _ (ae (show fL .le (.int j) (.int n) S=bt (.bl (decide (j<=n)),S)from rfl) ?_),λz=>?_]
 ·rw[z,LU]at k; exact k S .refl
 ·rw[z,NA]at k; exact k S .refl
def Ek {d:E}{i j n:KD}(ha:∀Q:QW,Q (.int i,S)->wE M a Z S Q)(hb:∀Q:QW,Q (.int j,S)->wE M b Z S Q)(hd:∀Q:QW,Q (.int n,S)->wE M d Z S Q):Ve M Z (.chn .le .lt a b d) S (.bl (decide (i<=j)&&decide (j < n))):=λQ k=>by
 dsimp only[wE];show ha _ (hb _ ?_);show ae (show yy .le (.int i) (.int j) S=bt (decide (i<=j))from rfl) #[λz=>hd _ (ae (show fL .lt (.int j) (.int n) S=bt (.bl (decide (j < n)),S)from rfl) ?_),λz=>?_]
 ·rw[z,LU]at k; exact k S .refl
 ·rw[z,NA]at k; exact k S .refl
def lS {c:KR}(h:x=c)(k:Ve M Z a S (.bl x)):Ve M Z a S (.bl c):=h ▸ k
def a7 {c:KR}(h:x=c)(k:Te M Z a S x):Te M Z a S c:=h ▸ k
def eZ {fuel:Kt}{t e:E}{w:W}{K:Fm->aa->Prop}{Q:QO}(ht:Te M Z t S x)(hr:x=true->∀S',Ka S S'->Ve M Z e S' w/\∀S2,Ka S' S2->Q (.rt w,S2))(hk:x=false->∀S',Ka S S'->K Z S'):wS M fuel (.ite t #v[.ret e] .nil) Z S K Q:=by
 dsimp only[wS];show ht _ λS' k' Q' h1 h2=>#[λz=>?_,λz=>(cw (h1 _ _ (hk z S' k'))).out]
 obtain⟨v,q⟩:=hr z S' k';show(st (Q:=Q') ?_).out;dsimp only[wS];exact v _ λS2 k2=>h2 (.rt w) S2 (λ_ z=>nomatch z) (q S2 k2)
def gu {w:W}:Ve M Z (.c w) S w:=λQ k=>k S .refl
def dE {fuel:Kt}{e:E}{w:W}{ss:Ss}{Q:QO}(h:Ve M Z e S w)(q:∀S',Ka S S'->Q (.rt w,S')):wZ M fuel (.cons (.ret e) ss) Z S Q:=by
 show st ?_;dsimp only[wS];exact h _ q
end
section
variable{defs:Kg (Ks×Df)}{fuel d:Kt}{S:aa}{Q:QW}
def iI {x:Ks}{e:E}{Z:Fm}{M:Ks->FF}(h:Asc x)(hv:∀Q:QW,Q (.str x,S)->wE M e Z S Q):∀Q:QW,Q (.int (x.length:KD),S)->wE M (.bi .len #v[e]) Z S Q:=λQ q=>by
 dsimp only[wE,wA];exact hv _ (qH h.len q)
def AH (L:Sn defs){w:W}(h:Thg S w)(k:∀S',Ka S S'->Q (.bl (aC w),S')):wO (bd (aj defs fuel (d+1)) "_law_is_short" 1 [w] S) Q:=by
 show aH L.l_short rfl rfl λQ' hR=>?_
 replace k:∀S',Ka S S'->Q' (.rt (.bl (aC w)),S'):=λS' a=>hR _ _ (k S' a)
 clear hR;change wZ _ _ bU [bt w] S Q';dsimp only[bU];nofun
 by_cases hw:d7 w=true
 ·cases w with
  | str x=>
   cases h with
   | str h=>
    show eZ (aU (au (aQ (λQ q=>q) rfl)) λ_ S1 k1=>aU (au (yd (λQ q=>q) (iI h λQ q=>q) (λQ q=>q))) λ_ S2 k2=>bj (mU (zs:=dc) (λQ q=>q))) (λz S' k'=>#[gu,λS2 k2=>?_]) λz S' k'=>hK _ _ (dE (λQ q=>su h q) λS2 k2=>?_)
    ·have e:aC (.str x)=false:=by
      show((decide (1<=(x.length:KD))&&decide ((x.length:KD)<=3))&&(!decide (x∈dc)&&kU x))=false;generalize(decide (1<=(x.length:KD))&&decide ((x.length:KD)<=3))=p at z ⊢;generalize decide (x∈dc)=q at z ⊢;cases p <;> cases q <;> first|rfl|cases z
     rw[<- e]; exact k S2 (k'.trans k2)
    ·have e:aC (.str x)=kU x:=by
      show((decide (1<=(x.length:KD))&&decide ((x.length:KD)<=3))&&(!decide (x∈dc)&&kU x))=_;generalize(decide (1<=(x.length:KD))&&decide ((x.length:KD)<=3))=p at z ⊢;generalize decide (x∈dc)=q at z ⊢;cases p <;> cases q <;> first|rfl|cases z
     rw[<- e]; exact k S2 (k'.trans k2)
  | _=>cases hw
 ·have hw:d7 w=false:=M6.mpr hw;show eZ (x:=true) (a7 (by rw[hw]; rfl) (aU (y:=true) (au (aQ (w:=w) (λQ q=>q) h.s)) λz=>by rw[hw]at z; cases z)) (λz S' k'=>#[gu,λS2 k2=>?_]) λz=>by cases z
  have e:aC w=false:=by cases w <;> first|rfl|cases hw
  rw[<- e]; exact k S2 (k'.trans k2)
end
abbrev hX (x:Ks):KR:=!(decide (x∈bJ) || !(decide (1<=(x.length:KD))&&decide ((x.length:KD)<=8)))&&kU x
def o7:∀y∈bJ,y.length<=3->y∈dc:=by decide
def iV:∀y∈dc,y∈bJ:=by decide
def qJ (x:Ks):(decide ((x.length:KD)<=3)&&hX x)=aT x:=by
 unfold hX aT
 by_cases h:(x.length:KD)<=3
 ·have h8:(x.length:KD)<=8:=∅
  have e:decide (x∈bJ)=decide (x∈dc):=decide_eq_decide.mpr #[λz=>o7 x z ∅,iV x]
  rw[e,Lp h,Lp h8,NM,LU];cases decide (1<=(x.length:KD)) <;> cases decide (x∈dc) <;> rfl
 ·rw[Lo h,N4]; rfl
abbrev mV (a n i:KD):Kg (Ks×KD):=[("m",a),("w",n),("i",i)]
abbrev aI (a n i:KD)(c:Kt)(w:W):KR:=if (#[[c].toArray] : Ks) = "x" then aC w else match (mV a n i).lookup #[[c].toArray]with
 | some b=>ay b w
 | none=>false
abbrev cN:Kg (Ks×Ks):=[("same","xx"),("mark","xm"),("way","xxw"),("not","i"),("and","ii"),("or","ii"),("some","xi"),("each","xi")]
def kD (x:Ks):∀l:Kg (Ks×Ks),(l.map λp=>(p.1,W.str p.2)).lookup x=(l.lookup x).map W.str
 | []=>rfl
 | p::l=>by
  obtain⟨y,f⟩:=p;rw[Lz,K5,K5,kD x l];cases x==y <;> rfl
def kE (x:Ks):iG.lookup x=(cN.lookup x).map W.str:=kD x cN
abbrev aD (a n i:KD):W->KR
 | .tup (.str x::fs)=>match cN.lookup x with
  | some f=>((((W.str x::fs).length:Kt):KD)==(f.length:KD)+1)&&(fs.zip f.cps.toList).all λp=>aI a n i p.2 p.1
  | none=>false
 | _=>false
section
variable{defs:Kg (Ks×Df)}{fuel d:Kt}{S:aa}{Q:QW}
def El (L:Sn defs){x:Ks}(h:Asc x)(k:∀S',Ka S S'->Q (.bl (hX x),S')):wO (bd (aj defs fuel (d+1)) "is_name" 1 [.str x] S) Q:=by
 show aH L.name rfl rfl λQ' hR=>?_
 replace k:∀S',Ka S S'->Q' (.rt (.bl (hX x)),S'):=λS' a=>hR _ _ (k S' a)
 clear hR;change wZ _ _ fG [bt (.str x)] S Q';dsimp only[fG];nofun
 show eZ (aU (bj (de (λQ q=>q) (λQ q=>q) (kA (zs:=bJ)))) λ_ S1 k1=>au (yd (λQ q=>q) (iI h λQ q=>q) (λQ q=>q))) (λz S' k'=>#[gu,λS2 k2=>?_]) λz S' k'=>hK _ _ (dE (λQ q=>su h q) λS2 k2=>?_)
 ·have e:hX x=false:=by unfold hX; rw[z]; rfl
  rw[<- e]; exact k S2 (k'.trans k2)
 ·have e:hX x=kU x:=by unfold hX; rw[z]; rfl
  rw[<- e]; exact k S2 (k'.trans k2)
def AI (L:Sn defs){w:W}(h:Thg S w)(k:∀S',Ka S S'->Q (.bl (aC w),S')):wO (bd (aj defs fuel (d+2)) "is_point_name" 1 [w] S) Q:=by
 show aH L.point_name rfl rfl λQ' hR=>?_
 replace k:∀S',Ka S S'->Q' (.rt (.bl (aC w)),S'):=λS' a=>hR _ _ (k S' a)
 clear hR;change wZ _ _ bF [bt w] S Q';dsimp only[bF]
 by_cases hw:d7 w=true
 ·cases w with
  | str x=>
   cases h with
   | str h=>
    show dE (lS (x:=true&&(decide ((x.length:KD)<=3)&&hX x)) (by rw[LU]; exact qJ x) (bq (qI (λQ q=>q) rfl) λ_ S1 k1=>bq (de (iI h λQ q=>q) (λQ q=>q) rfl) λ_ S2 k2=>λQ q=>?_)) k
    dsimp only[wE,wA,wV,wG];exact El L h q
  | _=>cases hw
 ·have hw:d7 w=false:=M6.mpr hw;have e:aC w=false:=by cases w <;> first|rfl|cases hw
  rw[e]at k;exact dE (lS (x:=d7 w&&true) (by rw[hw]; rfl) (bq (y:=true) (qI (w:=w) (λQ q=>q) h.s) λz=>by rw[hw]at z; cases z)) k
def AJ (L:Sn defs){w:W}{c t:Kt}{a n i:KD}(h:Thg S w)(ht:S[t]?=bt (.dis (mV a n i)))(hc:(#[[c].toArray] : Ks) = "x"\/((mV a n i).lookup #[[c].toArray]).isSome=true)(k:∀S',Ka S S'->Q (.bl (aI a n i c w),S')):wO (bd (aj defs fuel (d+3)) "is_field" 3 [w,.str #[[c].toArray],.ref t] S) Q:=by
 show aH L.field rfl rfl λQ' hR=>?_
 replace k:∀S',Ka S S'->Q' (.rt (.bl (aI a n i c w)),S'):=λS' a=>hR _ _ (k S' a)
 clear hR;change wZ _ _ dS [bt w,bt (.str #[[c].toArray]),bt (.ref t)] S Q';dsimp only[dS];nofun
 show eZ (x:=(#[[c].toArray] : Ks) == "x") (w:=.bl (aC w)) (bj (de (v:=.str #[[c].toArray]) (w:=.str "x") (λQ q=>q) (λQ q=>q) rfl)) (λz S1 k1=>#[λQ q=>?_,λS2 k2=>?_]) λz S1 k1=>hK _ _ ?_
 ·dsimp only[wE,wA,wV,wG];exact AI (d:=d) L (h.ka k1) q
 ·have e:aI a n i c w=aC w:=by unfold aI; rw[KQ (eq_of_beq z)]
  rw[e]at k;exact k S2 (k1.trans k2)
 ·have hx:¬ (#[[c].toArray] : Ks) = "x":=λe=>by rw[e,Li]at z; cases z
  have hs:=hc.resolve_left hx;obtain⟨b,hb⟩:=LD.mp hs;have e:aI a n i c w=ay b w:=by unfold aI; rw[KY hx,hb]
  rw[e]at k
  by_cases hw:o6 w=true
  ·cases w with
   | int j=>
    show dE (lS (x:=true&&(decide (0<=j)&&decide (j < b))) rfl (bq (λQ q=>?_) λ_ S2 k2=>Ek (λQ q=>q) (λQ q=>q) λQ q=>?_)) λS2 k2=>k S2 (k1.trans k2)
    ·dsimp only[wE,wA,wV,wG];exact sv (d:=d+1) L .int (q _ .refl)
    ·dsimp only[wE,wV,wG];show ae (a:=(.int b,S2)) ?_ q;dsimp only[nq];rw[k2.get _ _ (k1.get _ _ ht)];dsimp only;rw[hb]; rfl
   | _=>cases hw
  ·have hw:o6 w=false:=M6.mpr hw;have e:ay b w=false:=by cases w <;> first|rfl|cases hw
   rw[e]at k;show dE (lS (x:=o6 w&&true) (by rw[hw]; rfl) (bq (y:=true) (λQ q=>?_) λz=>by rw[hw]at z; cases z)) λS2 k2=>k S2 (k1.trans k2)
   dsimp only[wE,wA,wV,wG];exact sv (d:=d+1) L (h.ka k1) (q _ .refl)
end
section
variable{M:Ks->FF}{Z:Fm}{S:aa}{a b:E}{x y:KR}
def AK {j:Kt}{w:W}(hv:∀Q:W->Prop,Q w->wV Z j Q)(h:eI S w=bt x):Te M Z (.v j) S x:=λQ k=>by
 dsimp only[wT];exact hv _ (ae h (k S .refl))
def ye {U:Kg (Ks×W)}{v:Ks}(ha:∀Q:QW,Q (.str v,S)->wE M a Z S Q):Te M Z (.gni U a) S (!(U.lookup v).isSome):=λQ k=>by
 dsimp only[wT];exact ha _ (k S .refl)
def Em {α:Type}{elt a b:E}{cap:Kg (Kk Kt)}(L:Kg α)(f g:α->W)(c:α->KR)(R:Fm)(oa:d0 a=true)(ob:d0 b=true)(oe:d0 elt=true)(hc:eP cap Z=gV::gV::gV::R)(hl:L.length<=1000000)(xs ys:Kg W)(u:W)(hu:By u=bt ys)(hx:gQ xs ys=L.map λx=>W.tup [f x,g x])
  (he:wE M a Z S λq=>wE M b Z q.2 λq2=>q.1=.tup xs/\q2.1=u/\Ka S q2.2)
  (hstep:∀x∈L,∀S',Ka S S'->Ve M (gV::bt (f x)::bt (g x)::R) elt S' (.bl (c x))):Ve M Z (.bi .all #v[.comp elt (.tp [1,2]) (.zip #v[a,b]) .nil cap]) S (.bl (L.all c)):=λQ k=>by
 obtain⟨w,S0,e1,h1⟩:=db oa he;obtain⟨w2,S1,e2,rfl,rfl,k1⟩:=db ob h1;dsimp only[wE,wA];show ya (mi:=.its (gQ xs ys)) L (λx=>W.tup [f x,g x]) (λ_=>true) (λx=>.bl (c x)) (λZ=>∃a b,Z=gV::a::b::R) (λx=>gV::bt (f x)::bt (g x)::R) (λ_ _ _ h=>let ⟨_,_,e⟩:=h; e ▸ #[rfl,_,_,rfl]) oe rfl #[_,_,hc] hl (by have hu':By w2=bt ys:=hu; have e2':ar M b Z S0=bt (w2,S1):=e2; simp only[lH,bg,cH,gM,Ab,e1,e2',hu',show By (.tup xs)=bt xs from rfl]) k1 (λi S' _=>by rw[<- hx]; rfl) (by rw[<- hx]; rfl) (λx hx S' k'=>?_) λS' k'=>?_
 ·dsimp only[si,wC];exact#[λ_=>hstep x hx S' k' _ λS2 k2=>#[rfl,rfl,k2],λz=>by cases z]
 ·rw[kC];show yc (L:=L.map c) (by rw[O5]; exact ah) ?_
  rw[O4];exact k _ (k'.trans .push)
def sx:∀(xs:Kg W) (cs:Kg Kt),gQ xs (cs.map λc=>W.str #[[c].toArray])=(xs.zip cs).map λp=>W.tup [p.1,.str #[[p.2].toArray]]
 | [],_=>by unfold gQ; simp
 | _::_,[]=>by unfold gQ; simp
 | x::xs,c::cs=>by
  have:=sx xs cs;unfold gQ at this ⊢
  simpa using this
end
def yf:∀p∈cN,(p.2.cps.all λc=>decide (c < 128))=true/\p.2.length<=1000/\∀c∈p.2.cps.toList,(#[[c].toArray] : Ks)∈(["x","m","w","i"]:Kg Ks):=by decide +kernel
def En {a n i:KD}{c:Kt}(h:(#[[c].toArray] : Ks)∈(["x","m","w","i"]:Kg Ks)):(#[[c].toArray] : Ks) = "x"\/((mV a n i).lookup #[[c].toArray]).isSome=true:=by
 rcases Kx.mp h with h|h
 ·exact .inl h
 ·right;rcases Kx.mp h with h|h
  ·rw[h]; rfl
  ·rcases Kx.mp h with h|h
   ·rw[h]; rfl
   ·rw[KU.mp h]; rfl
def mW {α β:Type}[BEq α][LawfulBEq α]{x:α}{y:β}:∀ {l:Kg (α×β)},l.lookup x=bt y->(x,y)∈l
 | (z,v)::l,h=>by
  rw[K5]at h;cases e:x==z with
  | true=>rw[e]at h; cases h; rw[eq_of_beq e]; exact KP
  | false=>rw[e]at h; exact KM _ (mW h)
section
variable{defs:Kg (Ks×Df)}{fuel d:Kt}{S:aa}{Q:QW}
def G9 (L:Sn defs){Mqa N:Kg W}{b0 w:W}{a n i:KD}(hM:(Mqa.length:KD)=a)(hN:(N.length:KD)=n)(h:Thg S w)(k:∀S',Ka S S'->Q (.bl (aD a n i w),S')):wO (bd (aj defs fuel (d+4)) "is_row" 3 [.tup [.tup Mqa,.tup N,b0],w,.int i] S) Q:=by
 show aH L.row rfl rfl λQ' hR=>?_
 replace k:∀S',Ka S S'->Q' (.rt (.bl (aD a n i w)),S'):=λS' a=>hR _ _ (k S' a)
 clear hR;change wZ _ _ hG [bt (.tup [.tup Mqa,.tup N,b0]),bt w,bt (.int i),gV,gV] S Q';dsimp only[hG];nofun
 cases h with
 | @tup xs hx hl=>
  cases xs with
  | nil=>exact eZ (x:=true) (a7 (x:=(!true)||(!false)) rfl (aU (au (aQ (λQ q=>q) rfl)) λ_ S1 k1=>au (AK (λQ q=>q) rfl))) (λ_ S1 k1=>#[gu,λS2 k2=>k S2 (k1.trans k2)]) λz=>by cases z
  | cons y ys=>
   show eZ (x:=false) (w:=.non) (a7 (x:=(!true)||(!true)) rfl (aU (au (aQ (λQ q=>q) rfl)) λ_ S1 k1=>au (AK (λQ q=>q) rfl))) (λz=>by cases z) λ_ S1 k1=>hK _ _ ?_
   clear hK K;have hy:=hx y KP;nofun
   have ix:∀ {S:aa} (Q:QW),Q (y,S)->wE (aj defs fuel (d+3)) (.ix (.v 1) (.c (.int 0))) [bt (.tup [.tup Mqa,.tup N,b0]),bt (.tup (y::ys)),bt (.int i),gV,gV] S Q:=λQ q=>by
    dsimp only[wE,wV,wG];exact bC #v[] rfl q
   by_cases hw:d7 y=true
   ·cases y with
    | str x=>
     cases hf:cN.lookup x with
     | none=>
      have e:aD a n i (.tup (.str x::ys))=false:=by dsimp only[aD]; rw[hf]
      rw[e]at k;show eZ (x:=true) (a7 (x:=(!true)||true) rfl (aU (x:=!true) (au (aQ ix rfl)) λ_ S2 k2=>a7 (by rw[kE,hf]; rfl) (ye ix))) (λ_ S2 k2=>#[gu,λS3 k3=>k S3 (k1.trans (k2.trans k3))]) λz=>by cases z
     | some f=>
      show eZ (x:=false) (w:=.non) (a7 (x:=(!true)||false) rfl (aU (x:=!true) (au (aQ ix rfl)) λ_ S2 k2=>a7 (by rw[kE,hf]; rfl) (ye ix))) (λz=>by cases z) λ_ S2 k2=>hK _ _ ?_
      clear hK K;obtain⟨fa,fl,fc⟩:=yf (x,f) (mW hf);have hfa:Asc f:=#[fa,fl];nofun
      dsimp only[wS,wE,wV,wG,KO];show bC #v[] rfl ?_
      show ae (a:=W.str f) (by rw[kE,hf]; rfl) ?_
      show hK _ _ ?_;clear hK K;have he:aD a n i (.tup (.str x::ys))=(((((W.str x::ys).length:Kt):KD)==(f.length:KD)+1)&&(ys.zip f.cps.toList).all λp=>aI a n i p.2 p.1):=by dsimp only[aD]; rw[hf]
      nofun
      show eZ (x:=!((((W.str x::ys).length:Kt):KD)==(f.length:KD)+1)) (w:=.bl false) (bj λQ q=>?_) (λz S3 k3=>#[gu,λS4 k4=>?_]) λz S3 k3=>hK _ _ ?_
      ·dsimp only[wE,wA,wV,wG];show qH fl ?_;exact ae (a:=(.int ((f.length:KD)+1),S2)) rfl (ae Ja (q _ .refl))
      ·rw[he,show((((W.str x::ys).length:Kt):KD)==(f.length:KD)+1)=false by cases e:((((W.str x::ys).length:Kt):KD)==(f.length:KD)+1) <;> first|rfl|(rw[e]at z; cases z),NA]at k
       exact k S4 (k1.trans (k2.trans (k3.trans k4)))
      ·clear hK K;rw[he,show((((W.str x::ys).length:Kt):KD)==(f.length:KD)+1)=true by cases e:((((W.str x::ys).length:Kt):KD)==(f.length:KD)+1) <;> first|rfl|(rw[e]at z; cases z),LU]at k
       nofun
       left;show bC #v[] rfl (bR (bC #v[] rfl (bR ?_)))
       subst hM hN;show#[ah,ae (a:=mV Mqa.length N.length i) rfl #[#[show(["m","w","i"]:Kg Ks).Nodup from#v[],Ku rfl],hK _ _ ?_]]
       clear hK K;have e4:(KO (S3++[O.dis []]) S3.length (.dis (mV Mqa.length N.length i)))[S3.length]?=bt (.dis (mV Mqa.length N.length i)):=eT ah;have k4:Ka S3 (KO (S3++[O.dis []]) S3.length (.dis (mV Mqa.length N.length i))):=Ka.push.late (Kz _);generalize KO (S3++[O.dis []]) S3.length (.dis (mV Mqa.length N.length i))=S4 at e4 k4;have kk:=k1.trans (k2.trans (k3.trans k4));show dE (Em (ys.zip f.cps.toList) (λp=>p.1) (λp=>W.str #[[p.2].toArray]) (λp=>aI Mqa.length N.length i p.2 p.1) [bt (.ref S3.length)] rfl rfl rfl rfl ?_ ys (f.cps.toList.map λc=>W.str #[[c].toArray]) (.str f) rfl (sx _ _) ?_ λp hp S5 k5 Q q=>?_) λS5 k5=>k S5 (kk.trans k5)
       ·rw[List.length_zip];have:ys.length<=100:=by rw[Lh]at hl; omega
        omega
       ·dsimp only[wE,wP,wV,wG,wN];show ae (a:=(.tup ys,S4)) ?_ #[rfl,rfl,.refl];change bt (W.tup (du (W.str x::ys) (bt ((1:Kt):KD)) gV),S4)=_;rw[oY]; rfl
       ·dsimp only[wE,wA,wV,wG];exact AJ (d:=d) L (((hx p.1 (KM _ (NO hp).1)).ka kk).ka k5) (k5.get _ _ e4) (En (fc p.2 (NO hp).2)) q
    | _=>cases hw
   ·have hw:d7 y=false:=M6.mpr hw;have e:aD a n i (.tup (y::ys))=false:=by cases y <;> first|rfl|cases hw
    rw[e]at k;show eZ (x:=true) (a7 (x:=(!d7 y)||true) (O1 _) (aU (y:=true) (au (aQ ix (hy.ka k1).s)) λz=>by rw[hw]at z; cases z)) (λ_ S2 k2=>#[gu,λS3 k3=>k S3 (k1.trans (k2.trans k3))]) λz=>by cases z
 | lst h=>exact eZ (x:=true) (a7 (x:=(!false)||true) rfl (aU (y:=true) (au (aQ (λQ q=>q) (dX h rfl))) λz=>by cases z)) (λ_ S1 k1=>#[gu,λS2 k2=>k S2 (k1.trans k2)]) λz=>by cases z
 | _=>exact eZ (x:=true) (a7 (x:=(!false)||true) rfl (aU (y:=true) (au (aQ (λQ q=>q) rfl)) λz=>by cases z)) (λ_ S1 k1=>#[gu,λS2 k2=>k S2 (k1.trans k2)]) λz=>by cases z
end
section
variable{a n i:KD}{w:W}{r:Kg W}
def qK:aI a n i 120 w=aC w:=KQ #v[]
def Ji:aI a n i 109 w=ay a w:=by unfold aI; rw[KY #v[]]; rfl
def Jj:aI a n i 119 w=ay n w:=by unfold aI; rw[KY #v[]]; rfl
def qL:aI a n i 105 w=ay i w:=by unfold aI; rw[KY #v[]]; rfl
def qM {x f:Ks}{k:Kt}{cs:Kg Kt}(hf:cN.lookup x=bt f)(hk:f.length=k)(hc:f.cps.toList=cs):aD a n i (.tup (.str x::r))=((r.length==k)&&(r.zip cs).all λp=>aI a n i p.2 p.1):=by
 dsimp only[aD];rw[hf];dsimp only;rw[hc];congr 1;subst hk;rw[Lh,Rp,Mx,Mx];omega
def Ha (h:(r.length==1)=true):∃u,r=[u]:=by
 match r,h with
 | [u],_=>exact#[u,rfl]
def mX (h:(r.length==2)=true):∃u v,r=[u,v]:=by
 match r,h with
 | [u,v],_=>exact#[u,v,rfl]
def Eo (h:(r.length==3)=true):∃u v w,r=[u,v,w]:=by
 match r,h with
 | [u,v,w],_=>exact#[u,v,w,rfl]
def Jk {x f:Ks}{p:W->KR}{c:Kt}(hf:cN.lookup x=bt f)(hk:f.length=1)(hc:f.cps.toList=[c])(h1:∀w,aI a n i c w=p w):aD a n i (.tup (.str x::r))=((r.length==1)&&p (r.getD 0 .non)):=by
 rw[qM hf hk hc];cases h:(r.length==1)
 ·rfl
 ·obtain⟨u,rfl⟩:=Ha h;show(true&&(aI a n i c u&&true))=_;rw[h1,NM]; rfl
def uB {x f:Ks}{p q:W->KR}{c e:Kt}(hf:cN.lookup x=bt f)(hk:f.length=2)(hc:f.cps.toList=[c,e])(h1:∀w,aI a n i c w=p w)(h2:∀w,aI a n i e w=q w):aD a n i (.tup (.str x::r))=((r.length==2)&&(p (r.getD 0 .non)&&q (r.getD 1 .non))):=by
 rw[qM hf hk hc];cases h:(r.length==2)
 ·rfl
 ·obtain⟨u,v,rfl⟩:=mX h;show(true&&(aI a n i c u&&(aI a n i e v&&true)))=_;rw[h1,h2,NM]; rfl
def Jl {x f:Ks}{p q s:W->KR}{c e g:Kt}(hf:cN.lookup x=bt f)(hk:f.length=3)(hc:f.cps.toList=[c,e,g])(h1:∀w,aI a n i c w=p w)(h2:∀w,aI a n i e w=q w)(h3:∀w,aI a n i g w=s w):aD a n i (.tup (.str x::r))=((r.length==3)&&(p (r.getD 0 .non)&&(q (r.getD 1 .non)&&s (r.getD 2 .non)))):=by
 rw[qM hf hk hc];cases h:(r.length==3)
 ·rfl
 ·obtain⟨u,v,w,rfl⟩:=Eo h;show(true&&(aI a n i c u&&(aI a n i e v&&(aI a n i g w&&true))))=_;rw[h1,h2,h3,NM]; rfl
def ff:aD a n i (.tup (.str "same" :: r))=((r.length==2)&&(aC (r.getD 0 .non)&&aC (r.getD 1 .non))):=uB (f:="xx") rfl rfl rfl (λ_=>qK) (λ_=>qK)
def fj:aD a n i (.tup (.str "mark" :: r))=((r.length==2)&&(aC (r.getD 0 .non)&&ay a (r.getD 1 .non))):=uB (f:="xm") rfl rfl rfl (λ_=>qK) (λ_=>Ji)
def ic:aD a n i (.tup (.str "way" :: r))=((r.length==3)&&(aC (r.getD 0 .non)&&(aC (r.getD 1 .non)&&ay n (r.getD 2 .non)))):=Jl (f:="xxw") rfl rfl rfl (λ_=>qK) (λ_=>qK) (λ_=>Jj)
def jn:aD a n i (.tup (.str "not" :: r))=((r.length==1)&&ay i (r.getD 0 .non)):=Jk (f:="i") rfl rfl rfl (λ_=>qL)
def jo {x:Ks}(h:x = "and"\/x = "or"):aD a n i (.tup (.str x::r))=((r.length==2)&&(ay i (r.getD 0 .non)&&ay i (r.getD 1 .non))):=by
 rcases h with rfl|rfl
 ·exact uB (f:="ii") rfl rfl rfl (λ_=>qL) (λ_=>qL)
 ·exact uB (f:="ii") rfl rfl rfl (λ_=>qL) (λ_=>qL)
def iJ {x:Ks}(h:x = "some"\/x = "each"):aD a n i (.tup (.str x::r))=((r.length==2)&&(aC (r.getD 0 .non)&&ay i (r.getD 1 .non))):=by
 rcases h with rfl|rfl
 ·exact uB (f:="xi") rfl rfl rfl (λ_=>qK) (λ_=>qL)
 ·exact uB (f:="xi") rfl rfl rfl (λ_=>qK) (λ_=>qL)
def o8 {x:Ks}(h:x∉cN.map (·.1)):aD a n i (.tup (.str x::r))=false:=by
 have e:cN.lookup x=gV:=by
  cases e:cN.lookup x with
  | none=>rfl
  | some f=>exact absurd (List.mem_map_of_mem (f:=λp:Ks×Ks=>p.1) (mW e)) h
 dsimp only[aD];rw[e]
end
section
variable{M:Ks->FF}{fuel:Kt}{Z:Fm}{S:aa}{K:Fm->aa->Prop}{Q:QO}
def fm {t:E}{a:Ss}(ht:Te M Z t S false)(hk:∀S',Ka S S'->K Z S'):wS M fuel (.ite t a .nil) Z S K Q:=by
 dsimp only[wS];exact ht _ λS' k' Q' h1 h2=>#[λz=>(by cases z),λ_=>(cw (h1 _ _ (hk S' k'))).out]
def bY {t e:E}{a b:Ss}{w:W}(ht:Te M Z t S true)(hr:∀S',Ka S S'->Ve M Z e S' w)(q:∀S',Ka S S'->Q (.rt w,S')):wS M fuel (.ite t (.cons (.ret e) a) b) Z S K Q:=by
 dsimp only[wS];show ht _ λS' k' Q' h1 h2=>#[λz=>?_,λz=>(by cases z)]
 show(st (Q:=Q') ?_).out;dsimp only[wS];exact hr S' k' _ λS2 k2=>h2 (.rt w) S2 (λ_ z=>nomatch z) (q S2 (k'.trans k2))
def fW {x y:Ks}{b:KR}{j:Kt}(hv:∀Q:W->Prop,Q (.str x)->wV Z j Q)(h:(x==y)=b):Te M Z (.cmp .eq (.v j) (.c (.str y))) S b:=a7 h (bj (de (v:=.str x) (w:=.str y) (λQ q=>hv _ q) (λQ q=>q) rfl))
def yg {x y z:Ks}{b:KR}{j:Kt}(hv:∀Q:W->Prop,Q (.str x)->wV Z j Q)(h:((x==y)||(x==z))=b):Te M Z (.or (.cmp .eq (.v j) (.c (.str y))) (.cmp .eq (.v j) (.c (.str z)))) S b:=a7 h (aU (fW hv rfl) λ_ S' k'=>fW hv rfl)
def fq {e:E}{xs:Kg W}{k:KD}(hv:∀Q:QW,Q (.tup xs,S)->wE M e Z S Q):Ve M Z (.cmp .eq (.bi .len #v[e]) (.c (.int k))) S (.bl ((xs.length:KD)==k)):=λQ q=>by
 dsimp only[wE,wA];exact hv _ (bR (ae iD (q _ .refl)))
end
def yh:∀p∈cN,1<=p.2.length:=by decide
def AL {a n i:KD}{x:Ks}:aD a n i (.tup [.str x])=false:=by
 dsimp only[aD];cases hf:cN.lookup x with
 | none=>rfl
 | some f=>
  have h:=yh (x,f) (mW hf);have e:((((W.str x::[]).length:Kt):KD)==(f.length:KD)+1)=false:=by
   rw[Mp];intro z;have:(([W.str x].length:Kt):KD)=1:=rfl;have h:1<=f.length:=h;omega
  dsimp only;rw[e]; rfl
def kF {y u:W}{r:Kg W}{k:Kt}:((((y::u::r).length:Kt):KD)==((k+1:Kt):KD))=((u::r).length==k):=by
 rw[Rp,Mx,Mx,Lh];omega
abbrev sy:Kg Ks:=["same","mark","way","some","each"]
def uC {a n i:KD}{x:Ks}{u:W}{r:Kg W}(h:x∈sy)(hu:aC u=false):aD a n i (.tup (.str x::u::r))=false:=by
 have f:∀(b c:KR),(b&&(aC ((u::r).getD 0 .non)&&c))=false:=λb c=>by
  show(b&&(aC u&&c))=false;rw[hu,NA,N4]
 rcases Kx.mp h with rfl|h
 ·rw[ff]; exact f _ _
 rcases Kx.mp h with rfl|h
 ·rw[fj]; exact f _ _
 rcases Kx.mp h with rfl|h
 ·rw[ic]; exact f _ _
 rcases Kx.mp h with rfl|h
 ·rw[iJ (.inl rfl)]; exact f _ _
 ·rw[iJ (.inr (KU.mp h))]; exact f _ _
section
variable{defs:Kg (Ks×Df)}{fuel d:Kt}{S:aa}{Q:QW}
def Er (L:Sn defs){Mqa N:Kg W}{b0 w:W}{a n i:KD}(hM:(Mqa.length:KD)=a)(hN:(N.length:KD)=n)(h:Thg S w)(k:∀S',Ka S S'->Q (.bl (aD a n i w),S')):wO (bd (aj defs fuel (d+2)) "_law_row_fits" 3 [.tup [.tup Mqa,.tup N,b0],w,.int i] S) Q:=by
 show aH L.l_row_fits rfl rfl λQ' hR=>?_
 replace k:∀S',Ka S S'->Q' (.rt (.bl (aD a n i w)),S'):=λS' a=>hR _ _ (k S' a)
 clear hR;change wZ _ _ bW [bt (.tup [.tup Mqa,.tup N,b0]),bt w,bt (.int i),gV] S Q';unfold bW;nofun
 have no:aD a n i w=false->Te (aj defs fuel (d+1)) [bt (.tup [.tup Mqa,.tup N,b0]),bt w,bt (.int i),gV] (.or (.not (.isi "tuple" (.v 1))) (.or (.cmp .lt (.bi .len #v[.v 1]) (.c (.int 2))) (.not (.isi "str" (.ix (.v 1) (.c (.int 0))))))) S true->_:=λe t=>bY (K:=K) (Q:=Q') (a:=.nil) (b:=.nil) (fuel:=fuel) (w:=.bl false) t (λS' k'=>gu) λS' k'=>e ▸ k S' k'
 cases h with
 | @tup xs hx hl=>
  match xs,hx,hl with
  | [],_,_=>exact no rfl (a7 (x:=(!true)||(true||true)) rfl (aU (au (aQ (λQ q=>q) rfl)) λ_ S1 k1=>aU (y:=true) (bj λQ q=>q S1 .refl) λz=>by cases z))
  | [y],_,_=>exact no (by cases y <;> first|rfl|exact AL) (a7 (x:=(!true)||(true||true)) rfl (aU (au (aQ (λQ q=>q) rfl)) λ_ S1 k1=>aU (y:=true) (bj λQ q=>q S1 .refl) λz=>by cases z))
  | y::u::r,hx,hl=>
   have hy:=hx y KP;have hu:=hx u (KM _ KP);have hr:∀w∈r,Thg S w:=λw hw=>hx w (KM _ (KM _ hw))
   have l2:∀ {S:aa} (Q:QW),Q (.bl false,S)->wE (aj defs fuel (d+1)) (.cmp .lt (.bi .len #v[.v 1]) (.c (.int 2))) [bt (.tup [.tup Mqa,.tup N,b0]),bt (.tup (y::u::r)),bt (.int i),gV] S Q:=λQ q=>by
    dsimp only[wE,wA,wV,wG];show bR (ae uu ?_);rw[show decide ((((y::u::r).length:Kt):KD) < 2)=false from Lo (by rw[Lh,Lh]; omega)]
    exact q
   have ix:∀ {S:aa} (Q:QW),Q (y,S)->wE (aj defs fuel (d+1)) (.ix (.v 1) (.c (.int 0))) [bt (.tup [.tup Mqa,.tup N,b0]),bt (.tup (y::u::r)),bt (.int i),gV] S Q:=λQ q=>by
    dsimp only[wE,wV,wG];exact bC #v[] rfl q
   by_cases hw:d7 y=true
   ·cases y with
    | str x=>
     clear no;show fm (a7 (x:=(!true)||(false||(!true))) rfl (aU (au (aQ (λQ q=>q) rfl)) λ_ S1 k1=>aU (bj λQ q=>l2 _ (q _ .refl)) λ_ S2 k2=>au (aQ ix rfl))) λS1 k1=>hK _ _ ?_
     clear hK K l2;nofun
     dsimp only[wS];show ix _ (hK _ _ ?_);clear hK K ix;dsimp only[KO];have sh:∀ {S':aa} {v:W} {j:KD},Ka S S'->Thg S v->0<=j->(W.str x::u::r)[j.toNat]?=bt v->Ve (aj defs fuel (d+1)) [bt (.tup [.tup Mqa,.tup N,b0]),bt (.tup (.str x::u::r)),bt (.int i),bt (.str x)] (.own "_law_is_short" 1 #v[.ix (.v 1) (.c (.int j))]) S' (.bl (aC v)):=λk' hv h0 hj Q q=>by
      dsimp only[wE,wA,wV,wG];exact bC h0 hj (AH (d:=d) L (hv.ka k') q)
     have be:∀ {S':aa} {v:W} {j b:KD} {e:E},Ka S S'->Thg S v->0<=j->(W.str x::u::r)[j.toNat]?=bt v->(∀Q:QW,Q (.int b,S')->wE (aj defs fuel (d+1)) e [bt (.tup [.tup Mqa,.tup N,b0]),bt (.tup (.str x::u::r)),bt (.int i),bt (.str x)] S' Q)->Ve (aj defs fuel (d+1)) [bt (.tup [.tup Mqa,.tup N,b0]),bt (.tup (.str x::u::r)),bt (.int i),bt (.str x)] (.own "_law_is_below" 2 #v[.ix (.v 1) (.c (.int j)),e]) S' (.bl (ay b v)):=λk' hv h0 hj he Q q=>by
      dsimp only[wE,wA,wV,wG];exact bC h0 hj (he _ (sw (d:=d) L (hv.ka k') (q _ .refl)))
     nofun
     show eZ (x:=decide (x∈sy) && !aC u) (w:=.bl false) (Ej (bj (mU (zs:=sy) (λQ q=>q))) λ_ S2 k2=>au (mT (sh (k1.trans k2) hu #v[] rfl))) (λz S2 k2=>#[gu,λS3 k3=>?_]) λz S2 k2=>hK _ _ ?_
     ·rw[Kj]at z;have e:=uC (a:=a) (n:=n) (i:=i) (r:=r) (Lq z.1) (u:=u) (by cases e:aC u <;> first|rfl|(rw[e]at z; cases z.2))
      rw[e]at k;exact k S3 (k1.trans (k2.trans k3))
     clear hK K;have kk:=k1.trans k2;have hs:x∈sy->aC u=true:=λh=>by
      rw[Lp h,LU]at z;cases e:aC u <;> first|rfl|(rw[e]at z; cases z)
     clear z
     by_cases h1:x = "same"
     ·subst h1;have e:aD a n i (.tup (.str "same" :: u::r))=(((((W.str "same" :: u::r).length:Kt):KD)==3)&&aC (r.getD 0 .non)):=by rw[ff,<- kF,show(u::r).getD 0 .non=u from rfl,hs #v[],LU]; rfl
      rw[e]at k;show bh λK hK=>bY (fW (x:="same") (λQ q=>q) rfl) (λS3 k3=>bq (fq λQ q=>q) λhl S4 k4=>?_) λS3 k3=>k S3 (kk.trans k3)
      obtain⟨_,v,e2⟩:=mX (kF.symm.trans hl);cases e2;exact sh (kk.trans (k3.trans k4)) (hr v KP) #v[] rfl
     show bh λK hK=>fm (fW (x:=x) (λQ q=>q) (Mu h1)) λS3 k3=>hK _ _ ?_
     clear hK K;replace kk:=kk.trans k3
     by_cases h2:x = "mark"
     ·subst h2;have e:aD a n i (.tup (.str "mark" :: u::r))=(((((W.str "mark" :: u::r).length:Kt):KD)==3)&&ay a (r.getD 0 .non)):=by rw[fj,<- kF,show(u::r).getD 0 .non=u from rfl,hs #v[],LU]; rfl
      rw[e]at k;show bh λK hK=>bY (fW (x:="mark") (λQ q=>q) rfl) (λS3 k3=>bq (fq λQ q=>q) λhl S4 k4=>?_) λS3 k3=>k S3 (kk.trans k3)
      obtain⟨_,v,e2⟩:=mX (kF.symm.trans hl);cases e2;show be (kk.trans (k3.trans k4)) (hr v KP) #v[] rfl λQ q=>?_
      dsimp only[wE,wA,wV,wG];exact bC #v[] rfl (bR (by rw[hM]; exact q))
     show bh λK hK=>fm (fW (x:=x) (λQ q=>q) (Mu h2)) λS3 k3=>hK _ _ ?_
     clear hK K;replace kk:=kk.trans k3
     by_cases h3:x = "way"
     ·subst h3;have e:aD a n i (.tup (.str "way" :: u::r))=(((((W.str "way" :: u::r).length:Kt):KD)==4)&&(aC (r.getD 0 .non)&&ay n (r.getD 1 .non))):=by rw[ic,<- kF,show(u::r).getD 0 .non=u from rfl,hs #v[],LU]; rfl
      rw[e]at k;show bh λK hK=>bY (fW (x:="way") (λQ q=>q) rfl) (λS3 k3=>bq (fq λQ q=>q) λhl S4 k4=>?_) λS3 k3=>k S3 (kk.trans k3)
      obtain⟨_,v,v2,e2⟩:=Eo (kF.symm.trans hl);cases e2;show bq (sh (kk.trans (k3.trans k4)) (hr v KP) #v[] rfl) λ_ S5 k5=>be (kk.trans (k3.trans (k4.trans k5))) (hr v2 (KM _ KP)) #v[] rfl λQ q=>?_
      dsimp only[wE,wA,wV,wG];exact bC #v[] rfl (bR (by rw[hN]; exact q))
     show bh λK hK=>fm (fW (x:=x) (λQ q=>q) (Mu h3)) λS3 k3=>hK _ _ ?_
     clear hK K;replace kk:=kk.trans k3
     by_cases h4:x = "not"
     ·subst h4;have e:aD a n i (.tup (.str "not" :: u::r))=(((((W.str "not" :: u::r).length:Kt):KD)==2)&&ay i u):=by rw[jn,<- kF]; rfl
      rw[e]at k;exact bh λK hK=>bY (fW (x:="not") (λQ q=>q) rfl) (λS3 k3=>bq (fq λQ q=>q) λhl S4 k4=>be (kk.trans (k3.trans k4)) hu #v[] rfl λQ q=>q) λS3 k3=>k S3 (kk.trans k3)
     show bh λK hK=>fm (fW (x:=x) (λQ q=>q) (Mu h4)) λS3 k3=>hK _ _ ?_
     clear hK K;replace kk:=kk.trans k3
     by_cases h5:x = "and"\/x = "or"
     ·have e:aD a n i (.tup (.str x::u::r))=(((((W.str x::u::r).length:Kt):KD)==3)&&(ay i u&&ay i (r.getD 0 .non))):=by rw[jo h5,<- kF]; rfl
      rw[e]at k;show bh λK hK=>bY (yg (x:=x) (λQ q=>q) (by rcases h5 with rfl|rfl <;> rfl)) (λS3 k3=>bq (fq λQ q=>q) λhl S4 k4=>?_) λS3 k3=>k S3 (kk.trans k3)
      obtain⟨_,v,e2⟩:=mX (kF.symm.trans hl);cases e2;exact bq (be (kk.trans (k3.trans k4)) hu #v[] rfl λQ q=>q) λ_ S5 k5=>be (kk.trans (k3.trans (k4.trans k5))) (hr v KP) #v[] rfl λQ q=>q
     have h5a:x≠"and":=λe=>h5 (.inl e)
     have h5b:x≠"or":=λe=>h5 (.inr e)
     show bh λK hK=>fm (yg (x:=x) (λQ q=>q) (by rw[Mu h5a,Mu h5b]; rfl)) λS3 k3=>hK _ _ ?_
     clear hK K;replace kk:=kk.trans k3
     by_cases h6:x = "some"\/x = "each"
     ·have e:aD a n i (.tup (.str x::u::r))=(decide (x∈(["some","each"]:Kg Ks))&&(((((W.str x::u::r).length:Kt):KD)==3)&&ay i (r.getD 0 .non))):=by rw[iJ h6,<- kF,show(u::r).getD 0 .non=u from rfl,hs (by rcases h6 with rfl|rfl <;> decide),LU,Lp (by rcases h6 with rfl|rfl <;> decide),LU]; rfl
      rw[e]at k;show dE (bq (mU (zs:=["some","each"]) λQ q=>q) λ_ S3 k3=>bq (fq λQ q=>q) λhl S4 k4=>?_) λS3 k3=>k S3 (kk.trans k3)
      obtain⟨_,v,e2⟩:=mX (kF.symm.trans hl);cases e2;exact be (kk.trans (k3.trans k4)) (hr v KP) #v[] rfl λQ q=>q
     ·have h6a:x≠"some":=λe=>h6 (.inl e)
      have h6b:x≠"each":=λe=>h6 (.inr e)
      have hn:x∉(["some","each"]:Kg Ks):=λz=>by
       rcases Kx.mp z with z|z
       ·exact h6a z
       ·exact h6b (KU.mp z)
      have e:aD a n i (.tup (.str x::u::r))=false:=o8 λz=>by
       rcases Kx.mp z with z|z
       ·exact h1 z
       rcases Kx.mp z with z|z
       ·exact h2 z
       rcases Kx.mp z with z|z
       ·exact h3 z
       rcases Kx.mp z with z|z
       ·exact h4 z
       rcases Kx.mp z with z|z
       ·exact h5a z
       rcases Kx.mp z with z|z
       ·exact h5b z
       exact hn z
      rw[e]at k;exact dE (lS (x:=decide (x∈(["some","each"]:Kg Ks))&&true) (by rw[Lo hn]; rfl) (bq (y:=true) (mU (zs:=["some","each"]) λQ q=>q) λz=>absurd (Lq z) hn)) λS3 k3=>k S3 (kk.trans k3)
    | _=>cases hw
   ·have hw:d7 y=false:=M6.mpr hw;exact no (by cases y <;> first|rfl|cases hw) (a7 (x:=(!true)||(false||(!d7 y))) (by rw[hw]; rfl) (aU (au (aQ (λQ q=>q) rfl)) λ_ S1 k1=>aU (bj λQ q=>l2 _ (q _ .refl)) λ_ S2 k2=>au (aQ ix ((hy.ka k1).ka k2).s)))
 | lst h=>exact no rfl (a7 (x:=(!false)||true) rfl (aU (y:=true) (au (aQ (λQ q=>q) (dX h rfl))) λz=>by cases z))
 | _=>exact no rfl (a7 (x:=(!false)||true) rfl (aU (y:=true) (au (aQ (λQ q=>q) rfl)) λz=>by cases z))
end
def Jm {i:Kt}{w:W}{Z:Fm}{S:aa}{Q:Fm×aa->Prop}(q:Q (Z.set i (bt w),S)):wO (ul (.nm i) w Z S) Q:=q
inductive Rw where
 | same (x y:Ks)
 | mark (x:Ks) (m:KD)
 | way (x y:Ks) (m:KD)
 | no (i:Kt)
 | two (b:KR) (i j:Kt)
 | qu (b:KR) (x:Ks) (i:Kt)
abbrev Rw.w:Rw->W
 | .same x y=>.tup [.str "same",.str x,.str y]
 | .mark x m=>.tup [.str "mark",.str x,.int m]
 | .way x y m=>.tup [.str "way",.str x,.str y,.int m]
 | .no i=>.tup [.str "not",.int i]
 | .two b i j=>.tup [.str (match b with|true=>"and"|false=>"or"),.int i,.int j]
 | .qu b x i=>.tup [.str (match b with|true=>"some"|false=>"each"),.str x,.int i]
abbrev Rw.ok (k:Kt):Rw->Prop
 | .no i=>i < k
 | .two _ i j=>i < k/\j < k
 | .qu _ _ i=>i < k
 | _=>Rs
structure SS (l:Kg Ks):Prop where
 nd:l.Nodup
 pw:l.Pairwise λa b=>ph a b=true
def AM {l:Kg Ks}{x:Ks}(h:l.Nodup)(hx:x∉l):(l++[x]).Nodup:=by
 rw[N6];exact#[h,by simp,λa ha b hb=>by rw[KU.mp hb]; exact λe=>hx (e ▸ ha)]
def AN {l:Kg Ks}{x:Ks}(h:l.Nodup):(iY l x).Nodup:=by
 unfold iY
 by_cases hx:x∈l
 ·rw[KQ hx]; exact h
 ·rw[KY hx]; exact AM h hx
def sA:∀(l acc:Kg Ks),acc.Nodup->(l.foldl iY acc).Nodup
 | [],_,h=>h
 | x::l,acc,h=>sA l (iY acc x) (AN h)
def Et (l:Kg Ks):(bL l).Nodup:=sA l [] RW
def sB:∀(l acc:Kg Ks),(acc++l).Nodup->l.foldl iY acc=acc++l
 | [],acc,_=>by simp
 | x::l,acc,h=>by
  have hx:x∉acc:=λhx=>by
   rw[N6]at h;exact h.2.2 x hx x (.head _) rfl
  rw[Pb,iY,KY hx,sB l (acc++[x]) (by simpa using h)]
  simp
def SS.eq {l:Kg Ks}(h:SS l):cF (bL l)=l:=by
 rw[show bL l=l from sB l [] h.nd]
 exact vX cG jS h.pw
def SS.srt (l:Kg Ks):SS (cF (bL l)):=#[cG.nodup_iff.mpr (Et l),jS]
def SS.one (x:Ks):SS [x]:=#[by simp,by simp]
def SS.flt {l:Kg Ks}{p:Ks->KR}(h:SS l):SS (l.filter p):=#[h.nd.filter _,h.pw.filter _]
def SS.nil:SS []:=#[RW,.nil]
abbrev a9 (fs:Kg (Kg Ks)):Rw->Kg Ks
 | .same x y=>cF (bL [x,y])
 | .mark x _=>[x]
 | .way x y _=>cF (bL [x,y])
 | .no i=>fs.getD i []
 | .two _ i j=>cF (bL (fs.getD i []++fs.getD j []))
 | .qu _ x i=>(fs.getD i []).filter λy=>!(y==x)
abbrev Gf (fs:Kg (Kg Ks)):Prop:=∀f∈fs,SS f/\f.length<=10
def Gf.at {fs:Kg (Kg Ks)}(g:Gf fs)(i:Kt):SS (fs.getD i [])/\(fs.getD i []).length<=10:=by
 rw[L4];cases e:fs[i]? with
 | none=>exact#[.nil,MP _]
 | some f=>exact g f (Lc e)
def Gf.len {fs:Kg (Kg Ks)}(g:Gf fs)(i:Kt):(fs.getD i []).length<=10:=(g.at i).2
def Gf.free {fs:Kg (Kg Ks)}(g:Gf fs){x:Rw}:SS (a9 fs x):=by
 cases x with
 | same x y=>exact .srt _
 | mark x m=>exact .one _
 | way x y m=>exact .srt _
 | no i=>exact(g.at i).1
 | two b i j=>exact .srt _
 | qu b x i=>exact(g.at i).1.flt
abbrev Fs (S:aa)(t:Kt)(fs:Kg (Kg Ks)):Prop:=∃rs:Kg Kt,S[t]?=bt (.lst (rs.map W.ref))/\rs.length=fs.length/\∀(i:Kt) (r:Kt),rs[i]?=bt r->t < r/\S[r]?=bt (.lst ((fs.getD i []).map W.str))
def Fs.ka {S S':aa}{t:Kt}{fs:Kg (Kg Ks)}(h:Fs S t fs)(a:Ka S S'):Fs S' t fs:=let ⟨rs,e,l,h⟩:=h; #[rs,a.get _ _ e,l,λi r hr=>#[(h i r hr).1,a.get _ _ (h i r hr).2]]
def Fs.kp {S S':aa}{r t:Kt}{fs:Kg (Kg Ks)}(h:Fs S t fs)(hr:r < t)(a:Kp r S S'):Fs S' t fs:=let ⟨rs,e,l,h⟩:=h; #[rs,a.get _ _ (K9 hr) e,l,λi u hu=>#[(h i u hu).1,a.get _ _ (K9 (Qv hr (h i u hu).1)) (h i u hu).2]]
def Fs.lt {S:aa}{t:Kt}{fs:Kg (Kg Ks)}(h:Fs S t fs):t < S.length:=let ⟨_,e,_⟩:=h; lK e
def Fs.lst {S:aa}{t:Kt}{fs:Kg (Kg Ks)}(h:Fs S t fs):tyOk "list" S (.ref t)=true:=let ⟨_,e,_⟩:=h; iE e
def qN {S:aa}{t:Kt}{fs:Kg (Kg Ks)}{Q:QW}(h:Fs S t fs){i:Kt}(hi:i < fs.length)(q:∀r,t < r->S[r]?=bt (.lst ((fs.getD i []).map W.str))->Q (.ref r,S)):wO (nq (.ref t) (.int (i:KD)) S) Q:=by
 obtain⟨rs,e,l,h⟩:=h;have hr:rs[i]?=bt (rs[i]'∅):=KT _
 exact bM (i:=i) e (by rw[K4,hr]; rfl) (q _ (h i _ hr).1 (h i _ hr).2)
def qO {S:aa}{t r:Kt}{fs:Kg (Kg Ks)}{f:Kg Ks}{Q:QW}(h:Fs S t fs)(hl:fs.length < 1000)(htr:t < r)(hr:S[r]?=bt (.lst (f.map W.str)))(q:∀o,Fs (S.set t o) t (fs++[f])->Q (.non,S.set t o)):wO (Me.append.fn (.ref t) [.ref r] S) Q:=by
 obtain⟨rs,e,l,h⟩:=h;show oU e (by rw[Kv]; omega) (q _ #[rs++[r],by rw[eT e,LB]; rfl,by simp[l],λi u hu=>?_])
 rw[L4];rw[Pw]at hu ⊢
 by_cases hi:i < rs.length
 ·rw[KQ hi]at hu;rw[KQ ∅]
  have:=h i u hu;rw[L4]at this;exact#[this.1,by rw[cv ∅]; exact this.2]
 ·rw[KY hi]at hu;rw[KY ∅]
  obtain⟨h0,e0⟩:=KB.mp hu;simp at h0;have hi0:i - fs.length=0:=∅
  rw[hi0];simp at e0;subst e0;exact#[htr,by rw[cv ∅]; exact hr]
def jp {S:aa}{t:Kt}{zs:Kg Ks}{Q:QW}(h:S[t]?=bt (.lst (zs.map W.str)))(hl:zs.length<=60)(q:Q (.ref (S.length+1),(S++[.sts (bL zs)])++[.lst ((cF (bL zs)).map W.str)])):wO (Bi.set.fn [.ref t] S) λp=>wO (Bi.sorted.fn [p.1] p.2) Q:=by
 show ae (a:=(.ref S.length,S++[.sts (bL zs)])) ?_ (ae ?_ q)
 ·simp only[Bi.fn,mo,aP h,lw];rw[KQ (show zs.length+1 < scanBound by change zs.length+1 < 4096; omega)]
 ·have e:EN (S++[.sts (bL zs)]) S.length=bt (bL zs):=by simp only[EN,ah]
  simp only[Bi.fn,gJ,e];rw[KQ (by have:=jO zs; omega),Kw]
  rfl
section
variable{M:Ks->FF}{fuel:Kt}{Z:Fm}{S:aa}{K:Fm->aa->Prop}
def o9 {t:E}{a b:Ss}{Q:QO}(ht:∀Q:QB,Q (false,S)->wT M t Z S Q)(h:∀Q':QO,(∀Z' S',K Z' S'->Q' (.nx Z',S'))->(∀w S',Q (.rt w,S')->Q' (.rt w,S'))->wZ M fuel b Z S Q'):wS M fuel (.ite t a b) Z S K Q:=by
 dsimp only[wS];exact ht _ λQ' h1 h2=>#[λz=>(by cases z),λ_=>(h Q' h1 λw S'=>h2 (.rt w) S' (λ_ z=>nomatch z)).out]
def bK {ws:Kg W}{a b:Ks}{k:KR}(hw:ws[0]?=bt (.str a))(hk:(a==b)=k):∀Q:QB,Q (k,S)->wT M (.cmp .eq (.ix (.v 0) (.c (.int 0))) (.c (.str b))) (bt (.tup ws)::Z) S Q:=λQ q=>by
 dsimp only[wT,wE,wV,wG];show ae (dC (i:=0) #v[] hw) ?_
 dsimp only[GD,cz,wB];rw[hk]; exact q
def cO {ws:Kg W}{a b c:Ks}{k:KR}(hw:ws[0]?=bt (.str a))(hk:(a==b||a==c)=k):∀Q:QB,Q (k,S)->wT M (.or (.cmp .eq (.ix (.v 0) (.c (.int 0))) (.c (.str b))) (.cmp .eq (.ix (.v 0) (.c (.int 0))) (.c (.str c)))) (bt (.tup ws)::Z) S Q:=λQ q=>by
 subst hk;change wT M (.cmp .eq (.ix (.v 0) (.c (.int 0))) (.c (.str b))) (bt (.tup ws)::Z) S λp=>(p.1=true->Q (true,p.2))/\(p.1=false->wT M (.cmp .eq (.ix (.v 0) (.c (.int 0))) (.c (.str c))) (bt (.tup ws)::Z) p.2 Q)
 show bK hw rfl _ #[λe=>?_,λe=>bK hw rfl _ ?_]
 ·rw[show(a==b)=true from e,Sr]at q; exact q
 ·rw[show(a==b)=false from e,OO]at q; exact q
def yi {e:E}{i0:Kt}{t:Kt}{zs:Kg Ks}{ws:Kg W}{x:Ks}{Q:QW}(oe:d0 e=true)(he:∀Q:QW,Q (.ref t,S)->wE M e Z S Q)(hz:S[t]?=bt (.lst (zs.map W.str)))(hl:zs.length<=1000)(hρ:(Z[i0]?).join=bt (.tup ws))(hx:ws[1]?=bt (.str x))(q:Q (.ref S.length,S++[.lst ((zs.filter λy=>!(y==x)).map W.str)])) :
  Wp (ar M (.comp (.v 1) (.nm 1) (.seq e) #v[.cmp .ne (.v 1) (.ix (.v 2) (.c (.int 1)))] [gV,gV,bt i0]) Z S) Q:=by
 show AA t (zs.map W.str) (λi ys Z S'=>(∃a,Z=[gV,a,bt (.tup ws)])/\S'=S/\ys=((zs.take i).filter λy=>!(y==x)).map W.str) oe rfl rfl (he _ #[rfl,#[gV,by simp only[eP,List.map,hρ]],rfl,rfl]) (λi ys Z S' h=>h.2.1 ▸ hz) ?_ ?_
 ·rintro i w ys Z _ hi ⟨⟨a,rfl⟩,rfl,rfl⟩;rw[K4]at hi;cases e:zs[i]? with
  | none=>rw[e]at hi; cases hi
  | some y=>
   rw[e]at hi;cases hi;show Jm ?_;dsimp only[si,wC,wT,wE,wV,wG,KO];show ae (dC (i:=1) #v[] hx) ?_
   dsimp only[GF,cz,wB];rw[Pn,e,OJ];show#[λh=>#[#[_,rfl],rfl,?_],λh=>#[#[_,rfl],rfl,?_]]
   ·rw[LB,show(bt y).toList=[y]from rfl,Q4,KQ h]; rfl
   ·rw[LB,show(bt y).toList=[y]from rfl,Q4,KY (by rw[h]; decide),List.filter_nil,Qw,LK]
 ·rintro ys Z _ ⟨_,rfl,rfl⟩;rw[L6 (show zs.length<=(zs.map W.str).length by rw[Kv]; exact Kz _)]
  show#[?_,q];rw[Kv];exact KJ (KJ (Nv _ _) hl) (cM rfl)
end
def iK {S:aa}{a b:O}:Ka S ((S++[a])++[b]):=Ka.push.trans .push
def yj {S:aa}{t:Kt}{xs:Kg W}{Q:QW}(h:S[t]?=bt (.lst xs))(q:Q (.ref S.length,S++[.lst xs])):wO (Bi.list.fn [.ref t] S) Q:=ae (by
 have:zD S t=gV:=by simp only[zD,h]
 simp only[Bi.fn,Ag,lx,this,iP,dY,aP h]) q
section
variable{defs:Kg (Ks×Df)}{fuel d:Kt}{S:aa}{r:Kt}{Q:QW}
def qP (L:Sn defs){fs:Kg (Kg Ks)}{t:Kt}{x:Rw}(F:Fs S t fs)(g:Gf fs)(ok:x.ok fs.length)(k:∀u S',S.length<=u->Ka S S'->S'[u]?=bt (.lst ((a9 fs x).map W.str))->Q (.ref u,S')) :
  wO (bd (aj defs fuel (d+1)) "_law_free" 2 [x.w,.ref t] S) Q:=by
 show aH L.l_free rfl rfl λQ' hR=>?_
 replace k:∀u S',S.length<=u->Ka S S'->S'[u]?=bt (.lst ((a9 fs x).map W.str))->Q' (.rt (.ref u),S'):=λu S' a b c=>hR _ _ (k u S' a b c)
 clear hR;change wZ _ _ dW [bt x.w,bt (.ref t)] S Q';dsimp only[dW];cases x with
 | mark x m=>
  dsimp only[Rw.w];show st (eY (bK rfl rfl) λQ2 _ hr=>st ?_)
  left;exact ae (dC (i:=1) #v[] rfl) (hr _ _ (k _ _ (Kz _) .push ah))
 | same x y=>
  dsimp only[Rw.w];show st (bo (bK rfl rfl) (st (eY (cO rfl rfl) λQ2 _ hr=>st ?_)))
  left;show ae (dC (i:=1) #v[] rfl) (ae (dC (i:=2) #v[] rfl) ?_)
  show jp (zs:=[x,y]) ah (Ku rfl) (hr _ _ (k _ _ ?_ (Ka.push.trans iK) ?_))
  ·simp only[Kw]; omega
  ·rw[show(S++[O.lst [W.str x,W.str y]]).length+1=((S++[O.lst [W.str x,W.str y]])++[O.sts (bL [x,y])]).length by simp]
   exact ah
 | way x y m=>
  dsimp only[Rw.w];show st (bo (bK rfl rfl) (st (eY (cO rfl rfl) λQ2 _ hr=>st ?_)))
  left;show ae (dC (i:=1) #v[] rfl) (ae (dC (i:=2) #v[] rfl) ?_)
  show jp (zs:=[x,y]) ah (Ku rfl) (hr _ _ (k _ _ ?_ (Ka.push.trans iK) ?_))
  ·simp only[Kw]; omega
  ·rw[show(S++[O.lst [W.str x,W.str y]]).length+1=((S++[O.lst [W.str x,W.str y]])++[O.sts (bL [x,y])]).length by simp]
   exact ah
 | no i=>
  dsimp only[Rw.w];show st (bo (bK rfl rfl) (st (bo (cO rfl rfl) (st (eY (bK rfl rfl) λQ2 _ hr=>st ?_)))))
  left;show ae (dC (i:=1) #v[] rfl) (qN F ok λu _ eu=>?_)
  exact yj eu (hr _ _ (k _ _ (Kz _) .push ah))
 | two b i j=>
  obtain⟨oi,oj⟩:=ok;have hl:(fs.getD i []++fs.getD j []).length<=60:=by
   have:=g.len i;have:=g.len j;rw[Kw]; omega
  have go:∀(a:Ks) Q2,(∀w S',Q' (.rt w,S')->Q2 (.rt w,S'))->wZ (aj defs fuel d) fuel #v[.ret (.bi .sorted #v[.bi .set #v[.op .add (.ix (.v 1) (.ix (.v 0) (.c (.int 1)))) (.ix (.v 1) (.ix (.v 0) (.c (.int 2))))]])] [bt (.tup [.str a,.int i,.int j]),bt (.ref t)] S Q2:=by
   intro a Q2 hr;show st ?_;left;show ae (dC (i:=1) #v[] rfl) (qN F oi λu _ eu=>ae (dC (i:=2) #v[] rfl) (qN F oj λv _ ev=>ae (mJ eu ev ?_) ?_))
   ·rw[Kw]at hl;rw[Kw,Kv,Kv]; exact KJ (show _<=1000 by omega) (cM rfl)
   rw[<- LB];show jp ah hl (hr _ _ (k _ _ ?_ (Ka.push.trans iK) ?_))
   ·simp only[Kw]; omega
   ·rw[show ∀(X:aa) (o:O),X.length+1=(X++[o]).length from λX o=>by simp]
    exact ah
  cases b
  ·exact st (bo (bK rfl rfl) (st (bo (cO rfl rfl) (st (bo (bK rfl rfl) (st (eY (cO rfl rfl) λQ2 _ hr=>go _ Q2 hr)))))))
  ·exact st (bo (bK rfl rfl) (st (bo (cO rfl rfl) (st (bo (bK rfl rfl) (st (eY (cO rfl rfl) λQ2 _ hr=>go _ Q2 hr)))))))
 | qu b x i=>
  have go:∀(a:Ks),wZ (aj defs fuel d) fuel #v[.ret (.comp (.v 1) (.nm 1) (.seq (.ix (.v 1) (.ix (.v 0) (.c (.int 2))))) #v[.cmp .ne (.v 1) (.ix (.v 2) (.c (.int 1)))] [gV,gV,bt 0])] [bt (.tup [.str a,.str x,.int i]),bt (.ref t)] S Q':=by
   intro a;show st ?_;dsimp only[wS,wE];have hi:i < fs.length:=ok;obtain⟨u,eu,hq⟩ : ∃u,S[u]?=bt (.lst ((fs.getD i []).map W.str))/\nq (.ref t) (.int (i:KD)) S=bt (.ref u,S):=by
    have:=aS (qN (Q:=λp=>∃u,S[u]?=bt (.lst ((fs.getD i []).map W.str))/\p=(.ref u,S)) F hi λu _ eu=>#[u,eu,rfl])
    obtain⟨p,e,u,eu,rfl⟩:=this;exact#[u,eu,e]
   show yi (t:=u) (ws:=[.str a,.str x,.int i]) (x:=x) rfl (λQ q=>?_) eu (KJ (g.len i) #v[]) rfl rfl (k _ _ (Kz _) .push ah)
   dsimp only[wE,wV,wG];exact ae (dC (i:=2) #v[] rfl) (ae hq q)
  cases b
  ·exact st (bo (bK rfl rfl) (st (bo (cO rfl rfl) (st (bo (bK rfl rfl) (st (bo (cO rfl rfl) (go _))))))))
  ·exact st (bo (bK rfl rfl) (st (bo (cO rfl rfl) (st (bo (bK rfl rfl) (st (bo (cO rfl rfl) (go _))))))))
end
abbrev Rw.parts:Rw->Kg Kt
 | .no i=>[i]
 | .two _ i j=>[i,j]
 | .qu _ _ i=>[i]
 | _=>[]
def bA {M:Ks->FF}{Z:Fm}{S:aa}{ws:Kg W}{a:Ks}{k:KR}(zs:Kg Ks)(hw:ws[0]?=bt (.str a))(hk:decide (a∈zs)=k):∀Q:QB,Q (k,S)->wT M (.cmp .isin (.ix (.v 0) (.c (.int 0))) (.c (.tup (zs.map W.str)))) (bt (.tup ws)::Z) S Q:=λQ q=>by
 dsimp only[wT,wE,wV,wG];show ae (dC (i:=0) #v[] hw) (ae kA ?_)
 dsimp only[wB];rw[hk]; exact q
def Hb {S:aa}{t u:Kt}{xs ys:Kg W}{Q:QW}(h:S[t]?=bt (.lst xs))(h2:S[u]?=bt (.lst ys))(hl:xs.length+ys.length<=1000)(q:Q (.non,S.set t (.lst (xs++ys)))):wO (Me.extend.fn (.ref t) [.ref u] S) Q:=ae (by simp only[Me.fn,jf,dP h,dP h2]; rw[KQ (KJ hl (cM rfl))]) q
section
variable{defs:Kg (Ks×Df)}{fuel d:Kt}{S:aa}{r:Kt}{Q:QW}
def AO (L:Sn defs){x:Rw}(k:Q (.ref S.length,S++[.lst (x.parts.map λ(i:Kt)=>W.int (i:KD))])):wO (bd (aj defs fuel (d+1)) "part_rows" 1 [x.w] S) Q:=by
 show aH L.part_rows rfl rfl λQ' hR=>?_
 change wZ _ _ cV [bt x.w] S Q';dsimp only[cV];show st ?_;dsimp only[wS,wE];have k:=hR _ _ k;cases x with
 | same x y=>exact#[_,rfl,k]
 | mark x m=>exact#[_,rfl,k]
 | way x y m=>exact#[_,rfl,k]
 | no i=>exact#[_,rfl,k]
 | two b i j=>cases b <;> exact#[_,rfl,k]
 | qu b x i=>cases b <;> exact#[_,rfl,k]
def qQ (L:Sn defs){fs:Kg (Kg Ks)}{t:Kt}{x:Rw}(F:Fs S t fs)(g:Gf fs)(ok:x.ok fs.length)(k:∀u S',S.length<=u->Ka S S'->S'[u]?=bt (.lst ((a9 fs x).map W.str))->Q (.ref u,S')) :
  wO (bd (aj defs fuel (d+2)) "names_of" 2 [x.w,.ref t] S) Q:=by
 show aH L.names_of rfl rfl λQ' hR=>?_
 replace k:∀u S',S.length<=u->Ka S S'->S'[u]?=bt (.lst ((a9 fs x).map W.str))->Q' (.rt (.ref u),S'):=λu S' a b c=>hR _ _ (k u S' a b c)
 clear hR;change wZ _ _ dU [bt x.w,bt (.ref t),gV,gV] S Q';dsimp only[dU];have tail:∀(ns:Kg Ks) (t2:Kt) (S2:aa) (a:Kk W),Ka S S2->S2[t2]?=bt (.lst (ns.map W.str))->ns.length<=60->cF (bL ns)=a9 fs x->wZ (aj defs fuel (d+1)) fuel #v[.ret (.bi .sorted #v[.bi .set #v[.v 2]])] [bt x.w,bt (.ref t),bt (.ref t2),a] S2 Q':=by
  intro ns t2 S2 a k2 e2 hl he;show st ?_;left;show jp e2 hl (k _ _ (by have:=k2.len; omega) (k2.trans iK) ?_)
  rw[show S2.length+1=(S2++[O.sts (bL ns)]).length by simp,<- he]
  exact ah
 have gath:∀(K:Fm->aa->Prop) (is:Kg Kt),x.parts=is->(∀i∈is,i < fs.length)->is.length<=2->(∀a S2,Ka S S2->S2[S.length]?=bt (.lst ((is.flatMap λi=>fs.getD i []).map W.str))->K [bt x.w,bt (.ref t),bt (.ref S.length),a] S2)->
   ∀Q2:QO,(∀Z' S',K Z' S'->Q2 (.nx Z',S'))->wZ (aj defs fuel (d+1)) fuel #v[.set 2 (.lst .nil),.loop (.nm 3) (.seq (.own "part_rows" 1 #v[.v 0])) #v[.ex (.me .extend (.v 2) #v[.ix (.v 1) (.v 3)])]] [bt x.w,bt (.ref t),gV,gV] S Q2:=by
  intro K is hp hi hl hK Q2 hn;have hF:=F.lt;show st ?_;left;show st ?_;have hlen:(S++[O.lst []]).length=S.length+1:=by simp
  show sg (S.length+1) (is.map λ(i:Kt)=>W.int (i:KD)) (λn Z S'=>(∃a,Z=[bt x.w,bt (.ref t),bt (.ref S.length),a])/\Ka S S'/\S'[S.length]?=bt (.lst (((is.take n).flatMap λi=>fs.getD i []).map W.str))/\S'[S.length+1]?=bt (.lst (is.map λ(i:Kt)=>W.int (i:KD)))) rfl rfl ?_ (λi Z S' h=>h.2.2.2) ?_ ?_
  ·dsimp only[wE,wA,wV,wG];show AO (d:=d) L ?_;rw[hp];exact#[by rw[hlen],#[gV,rfl],iK,by rw[List.take_zero]; exact az ah,by rw[<- hlen]; exact ah]
  ·rintro n w Z S1 hw ⟨⟨a,rfl⟩,k1,e1,e2⟩;rw[K4]at hw;cases e:is[n]? with
   | none=>rw[e]at hw; cases hw
   | some i=>
    rw[e]at hw;cases hw;show Jm λQ3 hn3 _=>?_
    dsimp only[KO];show st ?_;left;have hb:∀l:Kg Kt,(l.flatMap λi=>fs.getD i []).length<=10*l.length:=λl=>by
     induction l with
     | nil=>exact MP _
     | cons i l ih=>
      have:=g.len i;rw[List.flatMap_cons,Kw,Lh]; omega
    have h1:=hb (is.take n);rw[LS]at h1;have h2:=g.len i;show#[iE e1,qN (F.ka k1) (hi i (Lc e)) λu hu eu=>Hb e1 eu (by rw[Kv,Kv]; omega) (cw (hn3 _ _ #[#[_,rfl],k1.late (Kz _),?_,?_]))]
    ·rw[eT e1,Pn,e,List.flatMap_append,LB,show(bt i).toList=[i]from rfl,List.flatMap_singleton]
    ·rw[cv ∅]; exact e2
  ·rintro Z S1 ⟨⟨a,rfl⟩,k1,e1,e2⟩;rw[Kv,L6 (Kz _)]at e1;exact cw (hn _ _ (hK a S1 k1 e1))
 have key {ns:Kg Ks} (h:ns=a9 fs x):cF (bL ns)=a9 fs x:=by rw[h]; exact g.free.eq
 cases x with
 | same x y=>
  show st (eY (bA ["same","mark","way"] rfl rfl) λQ2 hn _=>st (show wS _ _ _ _ _ _ _ from ?_))
  show g9 #[_,rfl,cw (hn _ _ (st (bo (bA ["some","each"] rfl rfl) (tail [x,y] _ _ _ .push ah (Ku rfl) rfl))))]
 | mark x m=>
  show st (eY (bA ["same","mark","way"] rfl rfl) λQ2 hn _=>st (show wS _ _ _ _ _ _ _ from ?_))
  show g9 #[_,rfl,cw (hn _ _ (st (bo (bA ["some","each"] rfl rfl) (tail [x] _ _ _ .push ah (Ku rfl) (key rfl)))))]
 | way x y m=>
  show st (eY (bA ["same","mark","way"] rfl rfl) λQ2 hn _=>st (show wS _ _ _ _ _ _ _ from ?_))
  show g9 #[_,rfl,cw (hn _ _ (st (bo (bA ["some","each"] rfl rfl) (tail [x,y] _ _ _ .push ah (Ku rfl) rfl))))]
 | no i=>
  show st (o9 (bA ["same","mark","way"] rfl rfl) (λQ2 hn _=>gath _ [i] rfl (λj hj=>by rw[KU.mp hj]; exact ok) (Ku rfl) (λa S2 k2 e2=>?_) Q2 hn))
  show st (bo (bA ["some","each"] rfl rfl) (tail (fs.getD i []) _ _ _ k2 (by simpa using e2) (KJ (g.len i) #v[]) (key rfl)))
 | two b i j=>
  have hl:(fs.getD i []++fs.getD j []).length<=60:=by
   have:=g.len i;have:=g.len j;rw[Kw]; omega
  have hi:∀l∈[i,j],l < fs.length:=λl hl=>by
   rcases Kx.mp hl with rfl|h
   ·exact ok.1
   ·rw[KU.mp h]; exact ok.2
  cases b
  ·show st (o9 (bA ["same","mark","way"] rfl rfl) (λQ2 hn _=>gath _ [i,j] rfl hi (Ku rfl) (λa S2 k2 e2=>?_) Q2 hn))
   show st (bo (bA ["some","each"] rfl rfl) (tail (fs.getD i []++fs.getD j []) _ _ _ k2 (by simpa using e2) hl rfl))
  ·show st (o9 (bA ["same","mark","way"] rfl rfl) (λQ2 hn _=>gath _ [i,j] rfl hi (Ku rfl) (λa S2 k2 e2=>?_) Q2 hn))
   show st (bo (bA ["some","each"] rfl rfl) (tail (fs.getD i []++fs.getD j []) _ _ _ k2 (by simpa using e2) hl rfl))
 | qu b x i=>
  have hl:((fs.getD i []).filter λy=>!(y==x)).length<=60:=KJ (Nv _ _) (KJ (g.len i) #v[])
  have hv:∀(a:Ks) (c:Kk W) (S2:aa),∀Q:QW,Q (.ref S.length,S2)->wE (aj defs fuel (d+1)) (.v 2) [bt (.tup [.str a,.str x,.int i]),bt (.ref t),bt (.ref S.length),c] S2 Q:=λa c S2 Q q=>by dsimp only[wE,wV,wG]; exact q
  have hi:∀l∈[i],l < fs.length:=λl hl=>by rw[KU.mp hl]; exact ok
  cases b
  ·show st (o9 (bA ["same","mark","way"] rfl rfl) (λQ2 hn _=>gath _ [i] rfl hi (Ku rfl) (λa S2 k2 e2=>?_) Q2 hn))
   show st (eY (bA ["some","each"] rfl rfl) λQ3 hn3 _=>st (g9 ?_))
   dsimp only[wE];exact yi (zs:=fs.getD i []) (ws:=[.str "each",.str x,.int i]) (x:=x) rfl (hv _ _ _) (by simpa using e2) (KJ (g.len i) #v[]) rfl rfl (cw (hn3 _ _ (tail _ _ _ _ (k2.trans .push) ah hl (key rfl))))
  ·show st (o9 (bA ["same","mark","way"] rfl rfl) (λQ2 hn _=>gath _ [i] rfl hi (Ku rfl) (λa S2 k2 e2=>?_) Q2 hn))
   show st (eY (bA ["some","each"] rfl rfl) λQ3 hn3 _=>st (g9 ?_))
   dsimp only[wE];exact yi (zs:=fs.getD i []) (ws:=[.str "some",.str x,.int i]) (x:=x) rfl (hv _ _ _) (by simpa using e2) (KJ (g.len i) #v[]) rfl rfl (cw (hn3 _ _ (tail _ _ _ _ (k2.trans .push) ah hl (key rfl))))
end
def b9 {w:W}(h:aC w=true):∃x,w=.str x:=by
 cases w with
 | str x=>exact#[x,rfl]
 | _=>cases h
def fI {b:KD}{w:W}(h:ay b w=true):∃j:KD,w=.int j/\0<=j/\j < b:=by
 cases w with
 | int j=>
  have h:(decide (0<=j)&&decide (j < b))=true:=h;rw[Kj,KN,KN]at h;exact#[j,rfl,h]
 | _=>cases h
def fJ {i:Kt}{w:W}(h:ay (i:KD) w=true):∃j:Kt,w=.int (j:KD)/\j < i:=by
 obtain⟨j,rfl,h0,h1⟩:=fI h;exact#[j.toNat,by rw[NI h0],∅]
def Eu {a n:KD}{i:Kt}{w:W}(h:aD a n (i:KD) w=true):∃x:Rw,w=x.w/\x.ok i:=by
 match w,h with
 | .tup (.str x::r),h=>
  by_cases h1:x = "same"
  ·subst h1;rw[ff,Kj,Kj]at h;obtain⟨u,v,rfl⟩:=mX h.1;obtain⟨y,rfl⟩:=b9 h.2.1;obtain⟨z,rfl⟩:=b9 h.2.2;exact#[.same y z,rfl,trivial]
  by_cases h2:x = "mark"
  ·subst h2;rw[fj,Kj,Kj]at h;obtain⟨u,v,rfl⟩:=mX h.1;obtain⟨y,rfl⟩:=b9 h.2.1;obtain⟨z,rfl,_⟩:=fI h.2.2;exact#[.mark y z,rfl,trivial]
  by_cases h3:x = "way"
  ·subst h3;rw[ic,Kj,Kj,Kj]at h;obtain⟨u,v,v2,rfl⟩:=Eo h.1;obtain⟨y,rfl⟩:=b9 h.2.1;obtain⟨y2,rfl⟩:=b9 h.2.2.1;obtain⟨z,rfl,_⟩:=fI h.2.2.2;exact#[.way y y2 z,rfl,trivial]
  by_cases h4:x = "not"
  ·subst h4;rw[jn,Kj]at h;obtain⟨u,rfl⟩:=Ha h.1;obtain⟨j,rfl,hj⟩:=fJ h.2;exact#[.no j,rfl,hj]
  by_cases h5:x = "and"\/x = "or"
  ·rw[jo h5,Kj,Kj]at h;obtain⟨u,v,rfl⟩:=mX h.1;obtain⟨j,rfl,hj⟩:=fJ h.2.1;obtain⟨l,rfl,hl⟩:=fJ h.2.2;rcases h5 with rfl|rfl
   ·exact#[.two true j l,rfl,hj,hl]
   ·exact#[.two false j l,rfl,hj,hl]
  by_cases h6:x = "some"\/x = "each"
  ·rw[iJ h6,Kj,Kj]at h;obtain⟨u,v,rfl⟩:=mX h.1;obtain⟨y,rfl⟩:=b9 h.2.1;obtain⟨l,rfl,hl⟩:=fJ h.2.2;rcases h6 with rfl|rfl
   ·exact#[.qu true y l,rfl,hl]
   ·exact#[.qu false y l,rfl,hl]
  ·rw[o8 λz=>?_]at h
   ·cases h
   rcases Kx.mp z with z|z
   ·exact h1 z
   rcases Kx.mp z with z|z
   ·exact h2 z
   rcases Kx.mp z with z|z
   ·exact h3 z
   rcases Kx.mp z with z|z
   ·exact h4 z
   rcases Kx.mp z with z|z
   ·exact h5 (.inl z)
   rcases Kx.mp z with z|z
   ·exact h5 (.inr z)
   rcases Kx.mp z with z|z
   ·exact h6 (.inl z)
   exact h6 (.inr (KU.mp z))
abbrev dg (i:Kt)(w:W):Rw:=@Tu Rw #[.no 0] λx=>w=x.w/\x.ok i
def mY {a n:KD}{i:Kt}{w:W}(h:aD a n (i:KD) w=true):w=(dg i w).w/\(dg i w).ok i:=@Sx Rw (λx=>w=x.w/\x.ok i) (Eu h)
abbrev bZ (a n:KD):Kt->Kg (Kg Ks)->Kg W->Kk Kt
 | _,_,[]=>gV
 | i,fs,w::ws=>if aD a n (i:KD) w=true then(if 3 < (a9 fs (dg i w)).length then bt i else bZ a n (i+1) (fs++[a9 fs (dg i w)]) ws)else bt i
abbrev cr (a n:KD):W->Kk Kt
 | .tup (w::ws)=>bZ a n 0 [] (w::ws)
 | _=>bt 0
abbrev AQ:Kk Kt->W
 | none=>.non
 | some i=>.int (i:Kt)
def pb {a n:KD}{i:Kt}{fs:Kg (Kg Ks)}{w:W}{ws:Kg W}(h:aD a n (i:KD) w=false):bZ a n i fs (w::ws)=bt i:=by
 dsimp only[bZ]; rw[h,KY KL]
def lT {a n:KD}{i:Kt}{fs:Kg (Kg Ks)}{w:W}{ws:Kg W}(h:aD a n (i:KD) w=true)(h2:3 < (a9 fs (dg i w)).length):bZ a n i fs (w::ws)=bt i:=by
 dsimp only[bZ]; rw[KQ h,KQ h2]
def mZ {a n:KD}{i:Kt}{fs:Kg (Kg Ks)}{w:W}{ws:Kg W}(h:aD a n (i:KD) w=true)(h2:¬ 3 < (a9 fs (dg i w)).length):bZ a n i fs (w::ws)=bZ a n (i+1) (fs++[a9 fs (dg i w)]) ws:=by
 conv=>lhs; unfold bZ
 rw[KQ h,KY h2]
def Gf.snoc {fs:Kg (Kg Ks)}{f:Kg Ks}(g:Gf fs)(h:SS f)(hl:f.length<=10):Gf (fs++[f]):=λx hx=>by
 rcases Lb.mp hx with h'|h'
 ·exact g x h'
 ·rw[KU.mp h']; exact#[h,hl]
def sC {xs:Kg W}{i:Kt}{x:W}(h:xs[i]?=bt x):xs.drop i=x::xs.drop (i+1):=by
 obtain⟨hl,rfl⟩:=KB.mp h;exact List.drop_eq_getElem_cons hl
section
variable{defs:Kg (Ks×Df)}{fuel d:Kt}{S:aa}{Q:QW}
def sD (L:Sn defs){Mqa N:Kg W}{b0 w:W}{a n:KD}(hM:(Mqa.length:KD)=a)(hN:(N.length:KD)=n)(h:Thg S w)(k:∀S',Ka S S'->Q (AQ (cr a n w),S')):wO (bd (aj defs fuel (d+3)) "_law_first_bad" 2 [.tup [.tup Mqa,.tup N,b0],w] S) Q:=by
 show aH L.l_first_bad rfl rfl λQ' hR=>?_
 replace k:∀S',Ka S S'->Q' (.rt (AQ (cr a n w)),S'):=λS' a=>hR _ _ (k S' a)
 clear hR;change wZ _ _ bG [bt (.tup [.tup Mqa,.tup N,b0]),bt w,gV,gV] S Q';have fk:=λ(S:aa) (Q:QW) (s:KD) (x:W) (h:Thg S x)=>Er (defs:=defs) (fuel:=fuel) (d:=d) (S:=S) (Q:=Q) (b0:=b0) (i:=s) L hM hN h
 generalize W.tup [.tup Mqa,.tup N,b0]=R at fk;dsimp only[bG];nofun
 cases h with
 | @tup xs hx hl=>
  cases xs with
  | nil=>exact bY (a7 (x:=(!true)||(((([]:Kg W).length:Kt):KD)==0)) rfl (aU (au (aQ (λQ q=>q) rfl)) λ_ S1 k1=>bj (fq λQ q=>q))) (λS1 k1=>gu) λS1 k1=>k S1 k1
  | cons y ys=>
   show fm (a7 (x:=(!true)||((((y::ys).length:Kt):KD)==0)) (by rw[Lh,show((((ys.length+1):Kt):KD)==0)=false from Mp.mpr ∅]; rfl) (aU (au (aQ (λQ q=>q) rfl)) λ_ S1 k1=>bj (fq λQ q=>q))) λS1 k1=>hK _ _ ?_
   clear hK K;have ek:cr a n (.tup (y::ys))=bZ a n 0 [] (y::ys):=rfl;rw[ek]at k;generalize hxs:y::ys=xs at *
   show st ?_;dsimp only[wS,wE,wA,KO];nofun
   show mR (xs.length:KD) (λi Z S'=>∃a3 fs,Z=[bt R,bt (.tup xs),bt (.ref S1.length),a3]/\Fs S' S1.length fs/\Gf fs/\fs.length=i/\bZ a n 0 [] xs=bZ a n i fs (xs.drop i)/\Ka S S') rfl rfl ∅ ?_ ?_ ?_
   ·dsimp only[wE,wA,wV,wG];show bR #[rfl,gV,[],rfl,#[[],ah,rfl,λi r h=>(nomatch h)],λf hf=>(nomatch hf),rfl,rfl,k1.trans .push]
   ·rintro i Z S2 hi ⟨a3,fs,rfl,F,g,hlen,hsc,kk⟩ Q2 hn hr;clear hK;obtain⟨x,hxi⟩ : ∃x,xs[i]?=bt x:=#[_,KT ∅]
    have hx2:Thg S2 x:=(hx x (Lc hxi)).ka kk;have ix:∀ {S:aa} (Q:QW),Q (x,S)->wE (aj defs fuel (d+2)) (.ix (.v 1) (.v 3)) [bt R,bt (.tup xs),bt (.ref S1.length),bt (.int (i:Kt))] S Q:=λQ q=>by
     dsimp only[wE,wV,wG];exact bC (MA i) (by rw[LX]; exact hxi) q
    rw[sC hxi]at hsc;dsimp only[KO];nofun
    show eZ (x:=!aD a n (i:KD) x) (w:=.int (i:Kt)) (au (mT λQ q=>?_)) (λz S3 k3=>#[λQ q=>q S3 .refl,λS4 k4=>?_]) λz S3 k3=>hK _ _ ?_
    ·change wE _ (.ix (.v 1) (.v 3)) _ S2 λp=>wO (bd _ "_law_row_fits" 3 [R,p.1,.int (i:Kt)] p.2) Q
     exact ix _ (fk S2 Q i x hx2 q)
    ·rw[pb (by cases e:aD a n (i:KD) x <;> first|rfl|(rw[e]at z; cases z))]at hsc
     rw[hsc]at k;exact hr _ _ (k S4 (kk.trans (k3.trans k4)))
    clear hK K;have hrow:aD a n (i:KD) x=true:=by cases e:aD a n (i:KD) x <;> first|rfl|(rw[e]at z; cases z)
    obtain⟨ew,hok⟩:=mY hrow;have hF:=(F.ka k3).lt;nofun
    left;show#[(F.ka k3).lst,bC (MA i) (by rw[LX]; exact hxi) ?_]
    rw[ew];show qP (d:=d+1) L (F.ka k3) g (hlen ▸ hok) λu S4 hu k4 eu=>?_
    show qO ((F.ka k3).ka k4) ∅ (KI hF hu) eu λo F'=>hK _ _ ?_
    clear hK K;have g':=g.free (x:=dg i x);have hl1:((a9 fs (dg i x)).length:KD) > 3\/¬ ((a9 fs (dg i x)).length:KD) > 3:=TY _;have kk':Ka S (S4.set S1.length o):=(kk.trans (k3.trans k4)).late k1.len;have ge:(fs++[a9 fs (dg i x)]).getD i []=a9 fs (dg i x):=by rw[<- hlen,L4,MS (Kz _),Sy]; rfl
    nofun
    show eZ (x:=decide (((a9 fs (dg i x)).length:KD) > 3)) (w:=.int (i:Kt)) (bj λQ q=>?_) (λz S5 k5=>#[λQ q=>q S5 .refl,λS6 k6=>?_]) λz S5 k5=>hK _ _ (cw (hn _ _ #[_,fs++[a9 fs (dg i x)],rfl,F'.ka k5,g.snoc g' ?_,by rw[Kw,hlen]; rfl,?_,kk'.trans k5]))
    ·dsimp only[wE,wA,wV,wG];show qN F' (i:=i) (by rw[Kw,hlen]; exact Ln _) λr _ er=>?_
     rw[ge]at er;show lN er ?_;rw[Kv];exact ae An (q _ .refl)
    ·rw[lT hrow (by have:=Lq z; omega)]at hsc
     rw[hsc]at k;exact hr _ _ (k S6 (kk'.trans (k5.trans k6)))
    ·have:=MV z; omega
    ·rw[hsc,mZ hrow (by have:=MV z; omega)]
   ·rintro Z S2 ⟨a3,fs,rfl,F,g,hlen,hsc,kk⟩;show hK _ _ (dE gu λS3 k3=>?_)
    rw[Np ∅]at hsc
    rw[hsc]at k;exact k S3 (kk.trans k3)
 | lst h=>exact bY (a7 (x:=(!false)||true) rfl (aU (y:=true) (au (aQ (λQ q=>q) (dX h rfl))) λz=>by cases z)) (λS1 k1=>gu) λS1 k1=>k S1 k1
 | _=>exact bY (a7 (x:=(!false)||true) rfl (aU (y:=true) (au (aQ (λQ q=>q) rfl)) λz=>by cases z)) (λS1 k1=>gu) λS1 k1=>k S1 k1
end
abbrev aL:Ss:=
 #v[.ite (.or (.not (.isi "tuple" (.v 1))) (.not (.v 1))) #v[.ret (.tup #v[.c (.str "NoSentence"),.c (.int 0)])] .nil,.set 2 (.lst .nil),.loop (.tp [3,4]) (.enu #v[.v 1]) #v[.ite (.not (.own "is_row" 3 #v[.v 0,.v 4,.v 3])) #v[.ret (.tup #v[.c (.str "NoSentence"),.v 3])] .nil,.ex (.me .append (.v 2) #v[.own "names_of" 2 #v[.v 4,.v 2]]),.ite (.cmp .gt (.bi .len #v[.ix (.v 2) (.v 3)]) (.c (.int 3))) #v[.ret (.tup #v[.c (.str "NoSentence"),.v 3])] .nil],.ret (.tup #v[.c .non,.c (.bl true)])]
abbrev m6:Kk Kt->W
 | none=>.tup [.non,.bl true]
 | some i=>.tup [.str "NoSentence",.int (i:Kt)]
section
variable{M:Ks->FF}{fuel:Kt}{Z:Fm}{S:aa}{K:Fm->aa->Prop}{Q:QO}
def AR {a:E}{tg:Tg}{b:Ss}(xs:Kg W)(I:Kt->Fm->aa->Prop)(oa:d0 a=true)(ok:iF b=true)(he:wE M a Z S λp=>By p.1=bt xs/\I 0 Z p.2)
  (hstep:∀(i:Kt) (x:W) (Z:Fm) (S:aa),xs[i]?=bt x->I i Z S->wO (ul tg (.tup [.int i,x]) Z S) λq=>D9 M fuel b q.1 q.2 (I (i+1)) Q) (hend:∀Z S,I xs.length Z S->K Z S):Wp (bN M fuel (.loop tg (.enu #v[a]) b) Z S) (po K Q):=by
 obtain⟨x,S1,e1,h1,h0⟩:=db oa he;have hl:(mC xs).length=xs.length:=by simp[mC]
 show mQ (mi:=.its (mC xs)) (S1:=S1) (xs:=mC xs) I ok (by simp only[lH,bg,cH,gM,Ad,e1,h1]) (λ_ _ _ _=>rfl) rfl h0 (λi w Z S hw hI=>?_) λZ S hI=>hend Z S (hl ▸ hI)
 obtain⟨y,hy,rfl⟩:=oz hw;exact hstep i y Z S hy hI
end
section
variable{defs:Kg (Ks×Df)}{fuel d:Kt}{S:aa}{Q:QW}
def Ev (L:Sn defs)(hg:Is defs ("look_sentence!" : Ks) 2 5 aL){Mqa N:Kg W}{b0 w:W}{a n:KD}(hM:(Mqa.length:KD)=a)(hN:(N.length:KD)=n)(h:Thg S w)(k:∀S',Ka S S'->Q (m6 (cr a n w),S')):wO (bd (aj defs fuel (d+5)) "look_sentence!" 2 [.tup [.tup Mqa,.tup N,b0],w] S) Q:=by
 show aH hg rfl rfl λQ' hR=>?_
 replace k:∀S',Ka S S'->Q' (.rt (m6 (cr a n w)),S'):=λS' a=>hR _ _ (k S' a)
 clear hR;change wZ _ _ aL [bt (.tup [.tup Mqa,.tup N,b0]),bt w,gV,gV,gV] S Q';have fk:=λ(S:aa) (Q:QW) (s:KD) (x:W) (h:Thg S x)=>G9 (defs:=defs) (fuel:=fuel) (d:=d) (S:=S) (Q:=Q) (b0:=b0) (i:=s) L hM hN h
 generalize W.tup [.tup Mqa,.tup N,b0]=R at fk;dsimp only[aL];nofun
 have r0:∀ {Z:Fm} {S:aa},Ve (aj defs fuel (d+4)) Z (.tup #v[.c (.str "NoSentence"),.c (.int 0)]) S (m6 (bt 0)):=λQ q=>by dsimp only[wE,wA]; exact q _ .refl
 cases h with
 | @tup xs hx hl=>
  cases xs with
  | nil=>exact bY (a7 (x:=(!true)||(!false)) rfl (aU (au (aQ (λQ q=>q) rfl)) λ_ S1 k1=>au (AK (λQ q=>q) rfl))) (λS1 k1=>r0) λS1 k1=>k S1 k1
  | cons y ys=>
   show fm (a7 (x:=(!true)||(!true)) rfl (aU (au (aQ (λQ q=>q) rfl)) λ_ S1 k1=>au (AK (λQ q=>q) rfl))) λS1 k1=>hK _ _ ?_
   clear hK K;have ek:cr a n (.tup (y::ys))=bZ a n 0 [] (y::ys):=rfl;rw[ek]at k;generalize hxs:y::ys=xs at *
   show st ?_;dsimp only[wS,wE,wA,KO];nofun
   show AR xs (λi Z S'=>∃a3 a4 fs,Z=[bt R,bt (.tup xs),bt (.ref S1.length),a3,a4]/\Fs S' S1.length fs/\Gf fs/\fs.length=i/\bZ a n 0 [] xs=bZ a n i fs (xs.drop i)/\Ka S S') rfl rfl ?_ ?_ ?_
   ·exact#[rfl,gV,gV,[],rfl,#[[],ah,rfl,λi r h=>(nomatch h)],λf hf=>(nomatch hf),rfl,rfl,k1.trans .push]
   ·rintro i x Z S2 hxi ⟨a3,a4,fs,rfl,F,g,hlen,hsc,kk⟩;show ae (show ul (.tp [3,4]) (.tup [.int (i:Kt),x]) [bt R,bt (.tup xs),bt (.ref S1.length),a3,a4] S2=bt ([bt R,bt (.tup xs),bt (.ref S1.length),bt (.int (i:Kt)),bt x],S2)from rfl) ?_
    intro Q2 hn hr;clear hK;have hi:=(KB.mp hxi).1;have hx2:Thg S2 x:=(hx x (Lc hxi)).ka kk;have ri:∀ {S:aa},Ve (aj defs fuel (d+4)) [bt R,bt (.tup xs),bt (.ref S1.length),bt (.int (i:Kt)),bt x] (.tup #v[.c (.str "NoSentence"),.v 3]) S (m6 (bt i)):=λQ q=>by dsimp only[wE,wA,wV,wG]; exact q _ .refl
    rw[sC hxi]at hsc;nofun
    show eZ (x:=!aD a n (i:KD) x) (w:=m6 (bt i)) (au (mT λQ q=>?_)) (λz S3 k3=>#[ri,λS4 k4=>?_]) λz S3 k3=>hK _ _ ?_
    ·dsimp only[wE,wA,wV,wG];exact fk S2 Q i x hx2 q
    ·rw[pb (by cases e:aD a n (i:KD) x <;> first|rfl|(rw[e]at z; cases z))]at hsc
     rw[hsc]at k;exact hr _ _ (k S4 (kk.trans (k3.trans k4)))
    clear hK K;have hrow:aD a n (i:KD) x=true:=by cases e:aD a n (i:KD) x <;> first|rfl|(rw[e]at z; cases z)
    obtain⟨ew,hok⟩:=mY hrow;have hF:=(F.ka k3).lt;nofun
    left;show#[(F.ka k3).lst,?_];have fr:=qQ (d:=d+2) (fuel:=fuel) (S:=S3) (Q:=λq=>wO (Me.append.fn (.ref S1.length) [q.1] q.2) λp=>K [bt R,bt (.tup xs),bt (.ref S1.length),bt (.int (i:Kt)),bt x] p.2) (x:=dg i x) L (F.ka k3) g (hlen ▸ hok) λu S4 hu k4 eu=>?_
    ·rw[<- ew]at fr;exact fr
    show qO ((F.ka k3).ka k4) ∅ (KI hF hu) eu λo F'=>hK _ _ ?_
    clear hK K;have g':=g.free (x:=dg i x);have kk':Ka S (S4.set S1.length o):=(kk.trans (k3.trans k4)).late k1.len;have ge:(fs++[a9 fs (dg i x)]).getD i []=a9 fs (dg i x):=by rw[<- hlen,L4,MS (Kz _),Sy]; rfl
    nofun
    show eZ (x:=decide (((a9 fs (dg i x)).length:KD) > 3)) (w:=m6 (bt i)) (bj λQ q=>?_) (λz S5 k5=>#[ri,λS6 k6=>?_]) λz S5 k5=>hK _ _ (cw (hn _ _ #[_,_,fs++[a9 fs (dg i x)],rfl,F'.ka k5,g.snoc g' ?_,by rw[Kw,hlen]; rfl,?_,kk'.trans k5]))
    ·dsimp only[wE,wA,wV,wG];show qN F' (i:=i) (by rw[Kw,hlen]; exact Ln _) λr _ er=>?_
     rw[ge]at er;show lN er ?_;rw[Kv];exact ae An (q _ .refl)
    ·rw[lT hrow (by have:=Lq z; omega)]at hsc
     rw[hsc]at k;exact hr _ _ (k S6 (kk'.trans (k5.trans k6)))
    ·have:=MV z; omega
    ·rw[hsc,mZ hrow (by have:=MV z; omega)]
   ·rintro Z S2 ⟨a3,a4,fs,rfl,F,g,hlen,hsc,kk⟩;show hK _ _ (dE (w:=m6 gV) (λQ q=>by dsimp only[wE,wA]; exact q _ .refl) λS3 k3=>?_)
    rw[Np (Kz _)]at hsc;rw[hsc]at k;exact k S3 (kk.trans k3)
 | lst h=>exact bY (a7 (x:=(!false)||true) rfl (aU (y:=true) (au (aQ (λQ q=>q) (dX h rfl))) λz=>by cases z)) (λS1 k1=>r0) λS1 k1=>k S1 k1
 | _=>exact bY (a7 (x:=(!false)||true) rfl (aU (y:=true) (au (aQ (λQ q=>q) rfl)) λz=>by cases z)) (λS1 k1=>r0) λS1 k1=>k S1 k1
end
section
variable{M:Ks->FF}{f:Ks}{k:Kt}{es:Es}{a:Ss}{Z:Fm}{S S1 S2:aa}{ws:Kg W}{v:W}
def Hc {cn:Ks}{us:Kg W}(h1:bg M es Z S=bt (ws,S1))(hl:ws.length=k)(h2:M f ws S1=bt (v,S2))(h3:xV v=bt (cn,us)):dI k (pr (M f)) (bg M es) Z S=gV/\gP k (xG (M f)) (bg M es) Z S=bt (cn,us,S2):=by
 have h4:uO v=gV:=by
  cases e:uO v with
  | none=>rfl
  | some w=>rw[GR e]at h3; cases h3
 constructor
 ·unfold dI;rw[h1];dsimp only;rw[KQ hl];unfold pr;rw[h2];dsimp only;rw[h4];rfl
 ·unfold gP;rw[h1];dsimp only;rw[KQ hl];unfold xG;rw[h2];dsimp only;rw[h3];rfl
def Ey {j:Kt}{w:W}(h1:bg M es Z S=bt (ws,S1))(hl:ws.length=k)(h2:M f ws S1=bt (v,S2))(h3:uO v=bt w):(BK.set j f k es).fs M Z S=bt (.nx (Z.set j (bt w)),S2):=by
 have e1:dI k (pr (M f)) (bg M es) Z S=bt (w,S2):=by
  unfold dI;rw[h1];dsimp only;rw[KQ hl];unfold pr;rw[h2];dsimp only;rw[h3];rfl
 dsimp only[BK.fs];unfold dJ;rw[e1];rfl
def Hd {j:Kt}{cn:Ks}{us:Kg W}(h1:bg M es Z S=bt (ws,S1))(hl:ws.length=k)(h2:M f ws S1=bt (v,S2))(h3:xV v=bt (cn,us)):(BK.set j f k es).fs M Z S=gV/\(BK.set j f k es).fx M Z S=bt (cn,us,S2):=by
 obtain⟨e1,e2⟩:=Hc h1 hl h2 h3;show#[?_,e2];dsimp only[BK.fs];unfold dJ;rw[e1]
end
section
variable{cl:Cl}{cn:Ks}{C:Kn}{gs:Kg Ks}{ws:Kg W}{Z:Fm}{S:aa}{i j:Kt}
def qR {sb:Ks->KR}(h1:Z[i]?=bt (bt (.ref j)))(h2:S[j]?=bt (.exc cn C gs ws))(h3:cl cn=bt (C,gs)):g0 cl sb i Z S=bt (.bl (sb cn),S):=by
 unfold g0 EQ;rw[h1];dsimp only;rw[h2];dsimp only;rw[KQ h3];rfl
def Ez {g:Ks}{w:W}(h1:Z[i]?=bt (bt (.ref j)))(h2:S[j]?=bt (.exc cn C gs ws))(h3:cl cn=bt (C,gs))(h4:(gs.zip ws).lookup g=bt w):uz cl g i Z S=bt (w,S):=by
 unfold uz EQ;rw[h1];dsimp only;rw[h2];dsimp only;rw[KQ h3,h4];rfl
end
abbrev kG (cl:Cl):Ss:=
 .cons (.set 5 (.and (.sem (g0 cl (λcn=>eV cn "LayError") 4)) (.sem (g0 cl (λ_=>true) 4))))
 #v[.set 2 (.tup #v[.sem (uz cl "row" 4),.and (.v 5) (.not (.sem (g0 cl (λcn=>([("BadText" : Ks),"NoRow","NoRule","NoWorld"]:Kg Ks).any (eV cn)) 4)))])]
abbrev gw:BK:=.set 3 "look_sentence!" 2 #v[.v 0,.v 1]
abbrev bv (cl:Cl):Ss:=
 .cons (.set 2 (.c .non))
 #v[.set 3 (.c .non),.sem (ER cl "NoSentence" 4 gw (kG cl)),.ite (.cmp .is (.v 2) (.c .non)) #v[.ret (.cmp .is (.v 3) (.c (.bl true)))] .nil,.ret (.v 2)]
abbrev AS:Kk Kt->W
 | none=>.bl true
 | some i=>.tup [.int (i:Kt),.bl true]
section
variable{defs:Kg (Ks×Df)}{fuel d:Kt}{S:aa}{Q:QW}
def yk {cl:Cl}{C:Kn}(hc:cl "NoSentence" = bt (C,[("row" : Ks)]))(L:Sn defs)(hx:Is defs ("look_sentence!" : Ks) 2 5 aL)(hg:Is defs ("_law_answer" : Ks) 2 6 (bv cl)){Mqa N:Kg W}{b0 w:W}{a n:KD}(hM:(Mqa.length:KD)=a)(hN:(N.length:KD)=n)(h:Thg S w)
  (k:∀S',Ka S S'->Q (AS (cr a n w),S')):wO (bd (aj defs fuel (d+6)) "_law_answer" 2 [.tup [.tup Mqa,.tup N,b0],w] S) Q:=by
 show aH hg rfl rfl λQ' hR=>?_
 replace k:∀S',Ka S S'->Q' (.rt (AS (cr a n w)),S'):=λS' a=>hR _ _ (k S' a)
 clear hR;change wZ _ _ (bv cl) [bt (.tup [.tup Mqa,.tup N,b0]),bt w,gV,gV,gV,gV] S Q';have lk:=Ev (fuel:=fuel) (d:=d) (S:=S) (Q:=λp=>p.1=m6 (cr a n w)/\Ka S p.2) (b0:=b0) L hx hM hN h λS' a=>#[rfl,a]
 generalize W.tup [.tup Mqa,.tup N,b0]=R at lk;unfold bd at lk;rw[KQ (show[R,w].length=2 from rfl)]at lk
 obtain⟨⟨v,S1⟩,e0,ev,kk⟩:=aS lk;dsimp only at ev kk;dsimp only[bv];show st ?_;dsimp only[wS,wE,KO];show st ?_;dsimp only[wS,wE,KO];nofun
 dsimp only[wS];have eA:bg (aj defs fuel (d+5)) #v[.v 0,.v 1] [bt R,bt w,bt .non,bt .non,gV,gV] S=bt ([R,w],S):=rfl;cases ef:cr a n w with
 | none=>
  rw[ef]at ev k;subst ev;show G5 (o:=.nx [bt R,bt w,bt .non,bt (.bl true),gV,gV]) (S1:=S1) ?_ (hK _ _ ?_)
  ·unfold gw;exact(Ey (k:=2) eA rfl e0 rfl).trans rfl
  ·show bh λK2 hK2=>bY (bj (de (λQ q=>q) (λQ q=>q) rfl)) (λS2 k2=>de (λQ q=>q) (λQ q=>q) rfl) λS2 k2=>k S2 (kk.trans k2)
 | some j=>
  rw[ef]at ev k;subst ev;obtain⟨x1,x2⟩:=Hd (k:=2) (j:=3) eA rfl e0 (show xV (m6 (bt j))=bt (("NoSentence" : Ks),[W.int j])from rfl)
  show G4 (b:=gw) rfl x1 x2 hc #v[] ?_
  dsimp only[kG];have hs:(S1++[O.exc "NoSentence" C ["row"] [.int j]])[S1.length]?=bt (O.exc "NoSentence" C ["row"] [.int j]):=ah;have kS:Ka S (S1++[O.exc "NoSentence" C ["row"] [.int j]]):=kk.trans .push;generalize S1++[O.exc "NoSentence" C ["row"] [.int j]]=S2 at hs kS;show st ?_;dsimp only[wS,wE,KO];show ae (qR rfl hs hc) ?_;dsimp only[wB];show#[λ_=>ae (qR rfl hs hc) ?_,λz=>absurd z #v[]]
  show st ?_;left;show ae (Ez (w:=.int j) rfl hs hc rfl) ?_;dsimp only[wB];show#[λ_=>ae (qR rfl hs hc) ?_,λz=>by cases z]
  dsimp only[wB];show cw (hK _ _ ?_);exact bh λK2 hK2=>fm (bj (de (λQ q=>q) (λQ q=>q) rfl)) λS3 k3=>hK2 _ _ (dE (λQ q=>q S3 .refl) λS4 k4=>k S4 (kS.trans (k3.trans k4)))
def AT {cl:Cl}{C:Kn}(hc:cl "NoSentence" = bt (C,[("row" : Ks)]))(L:Sn defs)(hx:Is defs ("look_sentence!" : Ks) 2 5 aL)(ha:Is defs ("_law_answer" : Ks) 2 6 (bv cl))(hg:Is defs ("_law_right" : Ks) 2 4 cm){Mqa N:Kg W}{b0 w:W}(h:Thg S w)
  (k:∀S',Ka S S'->Q (.bl true,S')):wO (bd (aj defs fuel (d+7)) "_law_right" 2 [.tup [.tup Mqa,.tup N,b0],w] S) Q:=by
 show aH hg rfl rfl λQ' hR=>?_
 replace k:∀S',Ka S S'->Q' (.rt (.bl true),S'):=λS' a=>hR _ _ (k S' a)
 clear hR;change wZ _ _ cm [bt (.tup [.tup Mqa,.tup N,b0]),bt w,gV,gV] S Q';dsimp only[cm];nofun
 left;show sD (d:=d+3) L rfl rfl h λS1 k1=>hK _ _ ?_
 clear hK K;nofun
 left;show yk (d:=d) hc L hx ha rfl rfl (h.ka k1) λS2 k2=>hK _ _ ?_
 clear hK K;have kk:=k1.trans k2;generalize W.tup [.tup Mqa,.tup N,b0]=R;cases cr Mqa.length N.length w with
 | none=>exact bh λK hK=>bY (bj (de (λQ q=>q) (λQ q=>q) rfl)) (λS3 k3=>de (λQ q=>q) (λQ q=>q) rfl) λS3 k3=>k S3 (kk.trans k3)
 | some j=>
  show bh λK hK=>fm (bj (de (λQ q=>q) (λQ q=>q) rfl)) λS3 k3=>hK _ _ (dE (lS (x:=true&&(true&&true)) rfl (bq (qI (λQ q=>q) rfl) λ_ S4 k4=>bq (λQ q=>?_) λ_ S5 k5=>λQ q=>?_)) λS4 k4=>k S4 (kk.trans (k3.trans k4)))
  ·dsimp only[wE,wA,wV,wG,AS,AQ];show bC #v[] rfl (ae bn (sw (d:=d+5) L .int ?_))
   have e:ay ((j:KD)+1) (.int (j:Kt))=true:=by
    show(decide (0<=(j:KD))&&decide ((j:KD) < (j:KD)+1))=true;rw[Lp ∅,Lp ∅]; rfl
   rw[e];exact q _ .refl
  ·dsimp only[wE,wA,wV,wG,AS,AQ];show ae (a:=(.bl true,S5)) ?_ (q _ .refl);change bt (W.bl (((j:KD)==(j:KD))&&(true&&true)),S5)=_;rw[Li]; rfl
end
abbrev He:Kg Ks:=["no","an","so","ors","iss","nt","b","ea"]
def Hf:∀y∈He,SmN 3 y:=qE (by decide +kernel)
def ym {y:Ks}(h:SmN 3 y)(ht:y∉bJ):aT y=true:=by
 unfold aT;rw[h.low,Lp (show(1:KD)<=(y.length:KD) by have:=h.lo; omega),Lp (show(y.length:KD)<=3 by have:=h.hi; omega),Lo λz=>ht (iV y z)]
 rfl
def pc {y:Ks}(h:aT y=true):SmN 3 y:=by
 unfold aT at h;rw[Kj,Kj,Kj,KN,KN]at h;exact#[by have:=h.1.1; omega,by have:=h.1.2; omega,h.2.2]
def SmN.asc {m:Kt}{y:Ks}(h:SmN m y)(hm:m<=1000):Asc y:=#[by
 rw[<- Q1,LN];intro c hc;have:=LN.mp (show y.cps.toList.all kR=true from h.low) c hc
 rw[kR,Kj,KN,KN]at this;exact Lp ∅,KJ h.hi hm]
def pd {S:aa}{ws:Kg W}{Q:QW}(q:Q (.ref S.length,S++[.lst ws])):wO (Bi.list.fn [.tup ws] S) Q:=ae (by simp only[Bi.fn,Ag,lx,v6,iP,dY]) q
section
variable{defs:Kg (Ks×Df)}{fuel d:Kt}{S:aa}{r:Kt}{Q:QW}
def sE (hfu:30 < fuel)(L:Sn defs){w:W}{m:KD}(hf:Fl S r)(hw:o4 w)(m0:0<=m)(m5:m<=5)(k:∀t (ys:Kg Ks) S',S.length<=t->S'[t]?=bt (.lst (ys.map W.str))->(ys.length:KD)=m->(∀y∈ys,aT y=true)->Fl S' r->Kp r S S'->Q (.ref t,S')) :
  wO (bd (aj defs fuel (d+3)) "_law_place_names" 3 [.ref r,w,.int m] S) Q:=by
 obtain⟨ms,ns,rfl,m1,m3,n1,n3,sm,sn⟩:=hw;show aH L.l_place_names rfl rfl λQ' hR=>?_
 replace k:∀t (ys:Kg Ks) S',S.length<=t->S'[t]?=bt (.lst (ys.map W.str))->(ys.length:KD)=m->(∀y∈ys,aT y=true)->Fl S' r->Kp r S S'->Q' (.rt (.ref t),S'):=λt ys S' a b c e f g=>hR _ _ (k t ys S' a b c e f g)
 clear hR;change wZ _ _ bp [bt (.ref r),bt (.tup [.tup (ms.map W.str),.tup (ns.map λp=>.tup [.str p.1,.int p.2]),.tup []]),bt (.int m),gV,gV,gV,gV] S Q'
 unfold bp;nofun
 dsimp only[wS,wE];show Eg (ms++ns.map (·.1)) W.str (λy=>decide ((y.length:KD) < 4)) W.str [] rfl rfl rfl rfl (by rw[Kw,Kv]; omega) ?_ (λx hx S' k'=>?_) λS1 k1=>hK _ _ ?_
 ·dsimp only[wE,wA,wV,wG];show bC (Q9 0) rfl (pd ?_);show Eh ns (λp=>.tup [.str p.1,.int p.2]) (λ_=>true) (λp=>.str p.1) [] rfl rfl rfl rfl ∅ ?_ (λx hx S' k'=>?_) λS' k'=>?_
  ·dsimp only[wE,wV,wG];exact bC #v[] rfl #[rfl,.refl]
  ·dsimp only[si,wC,wE,wV,wG];exact#[λ_=>bC (Q9 0) rfl #[rfl,rfl,.refl],λz=>by cases z]
  ·rw[kC];show ae (mJ (az (k'.get _ _ ah)) ah (gr (by rw[Kw,Kv,Kv]; omega))) #[_,rfl,?_,Ka.push.trans (k'.trans iK)]
   rw[LB,O5];exact ah
 ·have hs:AD x:=by
   rcases Lb.mp hx with h|h
   ·exact sm x h
   ·obtain⟨p,hp,rfl⟩:=MD.mp h;exact sn p hp
  dsimp only[si,wC,wT,wE,wA,wV,wG];show qH hs.hi (ae uu #[λz=>#[z,rfl,.refl],λz=>#[z,.refl]])
 generalize hss:((ms++ns.map (·.1)).filter λy=>decide ((y.length:KD) < 4))=ss
 have hs4:∀y∈ss,SmN 3 y:=λy hy=>by
  rw[<- hss,MK,KN]at hy;have h:AD y:=by
   rcases Lb.mp hy.1 with h|h
   ·exact sm y h
   ·obtain⟨p,hp,rfl⟩:=MD.mp h;exact sn p hp
  exact#[h.lo,by have:=hy.2; omega,h.low]
 have hl4:ss.length<=6:=by
  rw[<- hss];show KJ (Nv _ _) ?_;rw[Kw,Kv]; omega
 clear hK K hss sm sn;generalize W.tup [.tup (ms.map W.str),.tup (ns.map λp=>.tup [.str p.1,.int p.2]),.tup []]=w
 have f1:=hf.ka (k1.trans (.push (o:=.lst (ss.map W.str))));have kk1:Kp r S (S1++[.lst (ss.map W.str)]):=(k1.trans .push).kp r;have e4:(S1++[O.lst (ss.map W.str)])[S1.length]?=bt (.lst (ss.map W.str)):=ah;have hr4:r < S1.length:=KI hf.lt k1.len;generalize S1++[O.lst (ss.map W.str)]=S2 at *
 generalize S1.length=t4 at *
 show st ?_;left;nofun
 have hr1:=f1.lt;have hk1:=kk1.len;have h41:=lK e4;have e5:(S2++[O.lst []])[S2.length]?=bt (.lst (([]:Kg Ks).map W.str)):=ah;have e4':(S2++[O.lst []])[t4]?=bt (.lst (ss.map W.str)):=az e4;have f2:=f1.ka (.push (o:=.lst []));have kk2:=kk1.trans (.push (o:=.lst []));generalize S2++[O.lst []]=S3 at *
 generalize S2.length=t5 at *
 show mR m (λi Z S'=>∃x3 x6,∃ys:Kg Ks,Z=[bt (.ref r),bt w,bt (.int m),x3,bt (.ref t4),bt (.ref t5),x6]/\S'[t4]?=bt (.lst (ss.map W.str))/\S'[t5]?=bt (.lst (ys.map W.str))/\ys.length=i/\(∀y∈ys,aT y=true)/\Fl S' r/\Kp r S S') rfl rfl ∅ ?_ ?_ ?_
 ·dsimp only[wE,wV,wG];exact#[rfl,gV,gV,[],rfl,e4',e5,rfl,λ_ h=>(nomatch h),f2,kk2]
 ·clear hK e4' e5 f2 kk2;rintro i Z S2 hi ⟨x3,x6,ys,rfl,e2,e5,hl,hsh,f2,k2⟩ Q2 hn _;nofun
  left;show aA (d:=d+1) L.gen.pick f2 #v[] #v[] λv S3 v0 v1 f3 k3=>ae bn ?_
  show lP (d:=d) L.gen f3 ∅ ∅ λy S4 hy0 hs0 f4 k4=>hK _ _ ?_
  clear hK K;have hy:SmN 3 y:=#[by rw[fF,hy0]; omega,by rw[fF,hy0]; omega,lR hs0]
  have kk4:=k3.trans k4;have last:∀(y:Ks) (S5:aa),SmN 3 y->Fl S5 r->Kp r S4 S5->wZ (aj defs fuel (d+2)) fuel #v[.ex (.me .append (.v 5) #v[.own "_law_unlike" 2 #v[.v 3,.v 5]])] [bt (.ref r),bt w,bt (.int m),bt (.str y),bt (.ref t4),bt (.ref t5),bt (.int i)] S5 Q2:=by
   intro y S5 hy f5 k5;have kk:=kk4.trans k5;have e6:=kk.get _ _ ∅ e5
   show st ?_;left;show#[iE e6,oZ (d:=d+1) hfu L.l_unlike (Kz 3) hy e6 ∅ λz hz ht=>?_]
   show oU e6 (by rw[Kv]; omega) (cw (hn _ _ #[_,_,ys++[z],rfl,?_,?_,by simp[hl],λu hu=>?_,f5.own ∅,(k2.trans kk).late ∅]))
   ·rw[cv ∅]; exact kk.get _ _ ∅ e2
   ·rw[eT e6,LB]; rfl
   ·rcases Lb.mp hu with h|h
    ·exact hsh u h
    ·rw[KU.mp h]; exact ym hz ht
  nofun
  dsimp only[wS,wT,wE,wA,wV,wG,KO];show aA (d:=d+1) L.gen.pick f4 #v[] #v[] λu S5 u0 u1 f5 k5=>ae iD ?_
  show aG (Q0:=Q2) (λhg Q3 hn3 hr=>?_) (λhg Q3 hn3 hr=>cw (hn3 _ _ (hK _ _ (last _ _ hy f5 k5))))
  show st ?_;left;have e7:S5[t4]?=_:=(kk4.trans k5).get _ _ ∅ e2
  show ae (mJ (xs:=He.map W.str) ah (az e7) (gr (by rw[Kw,Kv,Kv,show He.length=8 from rfl]; omega))) ?_
  rw[<- LB];show lN (az (az e7)) (ae bn ?_);rw[Kv];show aA (d:=d+1) L.gen.pick ((f5.ka .push).ka .push) ∅ ∅ λx S6 x0 x1 f6 k6=>?_
  obtain⟨z,hz,ez⟩:=dQ (f:=W.str) (xs:=He++ss) (i:=x.toNat) (by rw[Kw,show He.length=8 from rfl]; omega)
  have hz':SmN 3 z:=by
   rcases Lb.mp hz with h|h
   ·exact Hf z h
   ·exact hs4 z h
  have hr5:=f5.lt;exact eX (k6.get _ _ (by rw[Kw]; omega) ah) x0 ez (cw (hn3 _ _ (hK _ _ (last _ _ hz' f6 (k5.trans (Kp.push.trans (Kp.push.trans k6)))))))
 ·rintro Z S2 ⟨x3,x6,ys,rfl,e2,e5,hl,hsh,f2,k2⟩;show hK _ _ (st ?_);dsimp only[wS,wE,wV,wG];exact k t5 ys S2 ∅ e5 ∅ hsh f2 k2
def m7 (L:Sn defs){n:Kt}(hf:Fl S r)(h0:0 < n)(h1:n < 100)(k:∀(j:Kt) S',j < n->Fl S' r->Kp r S S'->Q (.int j,S')) :
  wO (bd (aj defs fuel (d+2)) "_law_ahead" 2 [.ref r,.int n] S) Q:=by
 show aH L.l_ahead rfl rfl λQ' hR=>?_
 change wZ _ _ cY [bt (.ref r),bt (.int n)] S Q';dsimp only[cY];show st ?_;left;show ae lJ (aA (d:=d) L.gen.pick hf ∅ ∅ λv S1 a0 a1 f1 k1=>?_)
 show aA (d:=d) L.gen.pick (f1.ka .push) #v[] #v[] λu S2 b0 b1 f2 k2=>?_
 have e2:S2[S1.length]?=bt (.lst [.int (n - 1),.int v]):=k2.get _ _ (K9 f1.lt) ah;have kk:Kp r S S2:=k1.trans (Kp.push.trans k2);rcases(show u=0\/u=1 by omega)with rfl|rfl
 ·show bM (i:=0) e2 rfl (hR _ _ ?_);have:=k (n - 1) S2 ∅ f2 kk
  rwa [show((n - 1:Kt):KD)=(n:KD) - 1 by omega]at this
 ·show bM (i:=1) e2 rfl (hR _ _ ?_);have:=k v.toNat S2 ∅ f2 kk
  rwa [NI a0]at this
end
section
variable{a n:KD}{i:Kt}{x y:Ks}
def Jn {b m:KD}(h0:0<=m)(h1:m < b):ay b (.int m)=true:=by
 show(decide (0<=m)&&decide (m < b))=true;rw[Lp h0,Lp h1]; rfl
def HF {j i:Kt}(h:j < i):ay (i:KD) (.int (j:Kt))=true:=Jn (MA j) ∅
def AU (hx:aT x=true)(hy:aT y=true):aD a n (i:KD) (Rw.same x y).w=true:=ff.trans (by
 show(true&&(aT x&&aT y))=true;rw[hx,hy]; rfl)
def AV {m:KD}(hx:aT x=true)(h0:0<=m)(h1:m < a):aD a n (i:KD) (Rw.mark x m).w=true:=fj.trans (by
 show(true&&(aT x&&ay a (.int m)))=true;rw[hx,Jn h0 h1]; rfl)
def EA {m:KD}(hx:aT x=true)(hy:aT y=true)(h0:0<=m)(h1:m < n):aD a n (i:KD) (Rw.way x y m).w=true:=ic.trans (by
 show(true&&(aT x&&(aT y&&ay n (.int m))))=true;rw[hx,hy,Jn h0 h1]; rfl)
def BO {j:Kt}(h:j < i):aD a n (i:KD) (Rw.no j).w=true:=jn.trans (by
 show(true&&ay (i:KD) (.int (j:Kt)))=true;rw[HF h]; rfl)
def EB {b:KR}{j l:Kt}(h:j < i)(h2:l < i):aD a n (i:KD) (Rw.two b j l).w=true:=(jo (by cases b; exact .inr rfl; exact .inl rfl)).trans (by
 show(true&&(ay (i:KD) (.int (j:Kt))&&ay (i:KD) (.int (l:Kt))))=true;rw[HF h,HF h2]; rfl)
def Hg {b:KR}{j:Kt}(hx:aT x=true)(h:j < i):aD a n (i:KD) (Rw.qu b x j).w=true:=(iJ (by cases b; exact .inr rfl; exact .inl rfl)).trans (by
 show(true&&(aT x&&ay (i:KD) (.int (j:Kt))))=true;rw[hx,HF h]; rfl)
end
section
variable{defs:Kg (Ks×Df)}{fuel d:Kt}{S:aa}{r:Kt}{Q:QW}
def EC (L:Sn defs){Mqa N:Kg W}{n t:Kt}{ys:Kg Ks}(hf:Fl S r)(m1:1<=Mqa.length)(m3:Mqa.length<=3)(n1:1<=N.length)(n3:N.length<=3)(ht:S[t]?=bt (.lst (ys.map W.str)))(htr:t≠r)(y1:1<=ys.length)(y5:ys.length<=5)(hys:∀y∈ys,aT y=true)(hn:n < 100)(k:∀(x:Rw) S',x.ok n->aD (Mqa.length:Kt) (N.length:Kt) (n:Kt) x.w=true->Fl S' r->Kp r S S'->Q (x.w,S')) :
  wO (bd (aj defs fuel (d+3)) "_law_row" 4 [.ref r,.tup [.tup Mqa,.tup N,.tup []],.ref t,.int n] S) Q:=by
 show aH L.l_row rfl rfl λQ' hR=>?_
 replace k:∀(x:Rw) S',x.ok n->aD (Mqa.length:Kt) (N.length:Kt) (n:Kt) x.w=true->Fl S' r->Kp r S S'->Q' (.rt x.w,S'):=λx S' a b c e=>hR _ _ (k x S' a b c e)
 clear hR;change wZ _ _ fH [bt (.ref r),bt (.tup [.tup Mqa,.tup N,.tup []]),bt (.ref t),bt (.int n),gV,gV,gV,gV] S Q';unfold fH;nofun
 left;show aA (d:=d+1) L.gen.pick hf #v[] #v[] λf S1 v0 v1 f1 k1=>hK _ _ ?_
 clear hK K;nofun
 left;show lN (k1.get _ _ htr ht) (aA (d:=d+1) L.gen.pick f1 (by rw[Kv]; omega) (by rw[Kv]; omega) λi S2 i0 i1 f2 k2=>?_)
 rw[Kv]at i1;obtain⟨x,hx,ex⟩:=dQ (f:=W.str) (xs:=ys) (i:=i.toNat) ∅
 show eX ((k1.trans k2).get _ _ htr ht) i0 ex (hK _ _ ?_);clear hK K;nofun
 left;show lN ((k1.trans k2).get _ _ htr ht) (aA (d:=d+1) L.gen.pick f2 (by rw[Kv]; omega) (by rw[Kv]; omega) λj S3 j0 j1 f3 k3=>?_)
 rw[Kv]at j1;obtain⟨y,hy,ey⟩:=dQ (f:=W.str) (xs:=ys) (i:=j.toNat) ∅
 have kk:Kp r S S3:=k1.trans (k2.trans k3);show eX (kk.get _ _ htr ht) j0 ey (hK _ _ ?_);dsimp only;replace hx:=hys x hx;replace hy:=hys y hy;clear hK K ex ey i0 i1 j0 j1 i j ht htr f1 f2 k1 k2 k3;have plain:∀Q2:QO,(∀w S',Q' (.rt w,S')->Q2 (.rt w,S'))->wZ (aj defs fuel (d+2)) fuel #v[.set 7 (.lst #v[.tup #v[.c (.str "same"),.v 5,.v 6],.tup #v[.c (.str "mark"),.v 5,.own "_law_pick" 2 #v[.v 0,.bi .len #v[.ix (.v 1) (.c (.int 0))]]]]),.ex (.me .append (.v 7) #v[.tup #v[.c (.str "way"),.v 5,.v 6,.own "_law_pick" 2 #v[.v 0,.bi .len #v[.ix (.v 1) (.c (.int 1))]]]]),.ret (.ix (.v 7) (.own "_law_pick" 2 #v[.v 0,.c (.int 3)]))]
   [bt (.ref r),bt (.tup [.tup Mqa,.tup N,.tup []]),bt (.ref t),bt (.int n),bt (.int f),bt (.str x),bt (.str y),gV] S3 Q2:=by
  intro Q2 hQ;nofun
  left;show bC (Q9 0) rfl (bR (aA (d:=d+1) L.gen.pick f3 ∅ ∅ λu S4 u0 u1 f4 k4=>hK _ _ ?_))
  clear hK K;have hr4:=f4.lt;nofun
  left;show#[iE ah,bC #v[] rfl (bR (aA (d:=d+1) L.gen.pick (f4.ka .push) ∅ ∅ λv S5 v0 v1 f5 k5=>?_))]
  have e5:=k5.get _ _ (K9 hr4) (ah (S:=S4) (o:=.lst [(Rw.same x y).w,(Rw.mark x u).w]));show oU e5 (Ku rfl) (hK _ _ ?_);clear hK K;show st ?_;left;show aA (d:=d+1) L.gen.pick (f5.own hr4) #v[] #v[] λz S6 z0 z1 f6 k6=>?_
  have e6:S6[S4.length]?=bt (.lst ([Rw.same x y,Rw.mark x u,Rw.way x y v].map Rw.w)):=k6.get _ _ (K9 hr4) (eT e5);have kl:Kp r S S6:=(Kp.late (kk.trans (k4.trans (Kp.push.trans k5))) (KJ kk.len k4.len)).trans k6;obtain⟨q,hq,eq⟩:=dQ (f:=Rw.w) (xs:=[Rw.same x y,Rw.mark x u,Rw.way x y v]) (i:=z.toNat) (show _ < 3 by omega)
  have hk:=λ(h:Rw.ok n q) g=>k q _ h g f6 kl
  show eX e6 z0 eq (hQ _ _ ?_);simp only[Kx,K6,L8]at hq;rcases hq with rfl|rfl|rfl
  ·exact hk trivial (AU hx hy)
  ·exact hk trivial (AV hx u0 u1)
  ·exact hk trivial (EA hx hy v0 v1)
 show st ?_;dsimp only[wS,wT,wE,wA,wV,wG,KO];show ae iD #[λ_ Q2 hn hr=>#[λ_=>(plain Q2 λw S' h=>hr _ _ (λ_ z=>nomatch z) h).out,λz=>(by cases z)],λhk0=>?_]
 have hn0:0 < n:=by
  rcases Qg n with rfl|h
  ·cases hk0
  ·exact h
 show ae uu ?_;show aG (Q0:=Q') (λ_ Q2 _ hr=>plain Q2 hr) (λ_ Q2 hn2 hr=>cw (hn2 _ _ ?_))
 clear plain hn2 hr Q2;show st ?_;dsimp only[wS,wT,wE,wA,wV,wG];show ae uu ?_;show aG (Q0:=Q') (λ_ Q2 _ hr=>st ?_) (λ_ Q2 hn2 hr=>cw (hn2 _ _ ?_))
 ·left;exact m7 (d:=d) L f3 hn0 hn λj S4 h4 f4 k4=>hr _ _ (k (.no j) _ h4 (BO h4) f4 (kk.trans k4))
 clear hn2 hr Q2;show st ?_;dsimp only[wS,wT,wE,wA,wV,wG];show ae uu ?_;have two:∀ {a b:Ks} {u:KD} {S4 S5:aa} {Q:QW},(0<=u/\u < 2)->S5[S4.length]?=bt (.lst [.str a,.str b])->(∀c:KR,Q (.str (match c with|true=>a|false=>b),S5))->wO (nq (.ref S4.length) (.int u) S5) Q:=by
  intro a b u S4 S5 Q hu e h;rcases(show u=0\/u=1 by omega)with rfl|rfl
  ·exact bM (i:=0) e rfl (h true)
  ·exact bM (i:=1) e rfl (h false)
 have hr3:=f3.lt;show aG (Q0:=Q') (λ_ Q2 _ hr=>st ?_) (λ_ Q2 hn2 hr=>cw (hn2 _ _ ?_))
 ·left;show aA (d:=d+1) L.gen.pick (f3.ka .push) #v[] #v[] λu S4 u0 u1 f4 k4=>two #[u0,u1] (k4.get _ _ (K9 hr3) ah) λc=>?_
  show m7 (d:=d) L f4 hn0 hn λj S5 h5 f5 k5=>?_
  show aA (d:=d+1) L.gen.pick f5 ∅ ∅ λv S6 v0 v1 f6 k6=>hr _ _ ?_
  obtain⟨v,rfl⟩:=NV v0;exact k (.two c j v) S6 #[h5,∅] (EB h5 ∅) f6 (kk.trans (Kp.push.trans (k4.trans (k5.trans k6))))
 clear hn2 hr Q2;show st ?_;left;show aA (d:=d+1) L.gen.pick (f3.ka .push) #v[] #v[] λu S4 u0 u1 f4 k4=>two #[u0,u1] (k4.get _ _ (K9 hr3) ah) λc=>?_
 exact m7 (d:=d) L f4 hn0 hn λj S5 h5 f5 k5=>k (.qu c x j) S5 h5 (Hg hx h5) f5 (kk.trans (Kp.push.trans (k4.trans k5)))
end
section
variable{M:Ks->FF}{fuel:Kt}{Z:Fm}{S:aa}{K:Fm->aa->Prop}{Q:QO}
def pe {i0:Kt}{e:E}{b:Ss}(oe:d0 e=true)(ok:iF b=true)(he:wE M e Z S λp=>∃(j:KD) (I:Kt->Fm->aa->Prop),p.1=.int j/\(-(2 ^ 62)<=j/\j < 2 ^ 62)/\I 0 Z p.2/\
  (∀(i:Kt) (Z:Fm) (S:aa),(i:KD) < j->I i Z S->D9 M fuel b (Z.set i0 (bt (.int i))) S (I (i+1)) Q)/\∀Z S,I j.toNat Z S->K Z S):Wp (bN M fuel (.loop (.nm i0) (.rng #v[e]) b) Z S) (po K Q):=by
 obtain⟨w,S1,e1,j,I,rfl,hj,h0,hs,hend⟩:=db oe he;have hl:(eN 0 j.toNat).length=j.toNat:=by simp[eN]
 show mQ (mi:=.its (eN 0 j.toNat)) (S1:=S1) (xs:=eN 0 j.toNat) I ok ?_ (λ_ _ _ _=>rfl) rfl h0 (λi w Z S hw hI=>?_) λZ S hI=>hend Z S (hl ▸ hI)
 ·(dsimp only[lH,bg,cH,gM,ug]; simp only[e1])
  rw[KQ hj]
 ·rw[eO]at hw;split at hw
  ·rename_i hk;cases hw;rw[QI];exact hs i Z S ∅ hI
  ·cases hw
end
abbrev JH:W->Rw
 | .tup [.str _,.str x,.str y]=>.same x y
 | .tup [.str s,.str x,.int m]=>if s == "mark" then .mark x m else .qu (s == "some") x m.toNat
 | .tup [.str _,.str x,.str y,.int m]=>.way x y m
 | .tup [.str _,.int i]=>.no i.toNat
 | .tup [.str s,.int i,.int j]=>.two (s == "and") i.toNat j.toNat
 | _=>.no 0
def BP:∀x:Rw,JH x.w=x
 | .same _ _=>rfl
 | .mark _ _=>rfl
 | .way _ _ _=>rfl
 | .no _=>rfl
 | .two true _ _=>rfl
 | .two false _ _=>rfl
 | .qu true _ _=>rfl
 | .qu false _ _=>rfl
def BQ {a n:KD}{i:Kt}{x:Rw}(h:aD a n (i:KD) x.w=true):dg i x.w=x:=by
 have:=congrArg JH (mY h).1;rw[BP,BP]at this;exact this.symm
abbrev RowsOk (a n:KD)(rows:Kg Rw):Prop:=∀(i:Kt) (x:Rw),rows[i]?=bt x->aD a n (i:KD) x.w=true
def RowsOk.snoc {a n:KD}{rows:Kg Rw}{x:Rw}(h:RowsOk a n rows)(hx:aD a n ((rows.length:Kt):KD) x.w=true):RowsOk a n (rows++[x]):=λi y hy=>by
 rw[Pw]at hy
 by_cases hi:i < rows.length
 ·rw[KQ hi]at hy; exact h i y hy
 ·rw[KY hi]at hy;obtain⟨h0,e0⟩:=KB.mp hy;simp at h0 e0;subst e0;rw[show i=rows.length by omega]; exact hx
def Fs.low {S:aa}{t u:Kt}{o:O}{fs:Kg (Kg Ks)}(h:Fs S t fs)(hu:u < t):Fs (S.set u o) t fs:=let ⟨rs,e,l,h⟩:=h; #[rs,by rw[cv (KH hu)]; exact e,l,λi v hv=>#[(h i v hv).1,by rw[cv (KH (Qv hu (h i v hv).1))]; exact(h i v hv).2]]
def sF (l:Kg Ks):(cF (bL l)).length<=l.length:=by rw[cG.length_eq]; exact jO l
def uD {fs:Kg (Kg Ks)}{x:Rw}(ok:x.ok 0):(a9 fs x).length<=3:=by
 cases x with
 | same x y=>exact KJ (sF _) (Ku rfl)
 | mark x m=>exact Ku rfl
 | way x y m=>exact KJ (sF _) (Ku rfl)
 | no i=>exact absurd ok (Ph _)
 | two b i j=>exact absurd ok.1 (Ph _)
 | qu b x i=>exact absurd ok (Ph _)
structure Rws (a n:KD)(S S':aa)(r t t4:Kt)(Uq:Kg Ks)(rows:Kg Rw)(fs:Kg (Kg Ks)):Prop where
 at3:S'[t]?=bt (.lst (Uq.map W.str))
 at4:S'[t4]?=bt (.lst (rows.map Rw.w))
 F:Fs S' (t4+1) fs
 len:fs.length=rows.length
 ok:RowsOk a n rows
 g:Gf fs
 g3:∀f∈fs,f.length<=3
 sc:∀ws,bZ a n 0 [] (rows.map Rw.w++ws)=bZ a n rows.length fs ws
 fl:Fl S' r
 kp:Kp r S S'
def Rws.on {a n:KD}{S S1 S2:aa}{r t t4:Kt}{Uq:Kg Ks}{rows:Kg Rw}{fs:Kg (Kg Ks)}(h:Rws a n S S1 r t t4 Uq rows fs)(h1:t≠r)(h2:r < t4)(f:Fl S2 r)(k:Kp r S1 S2):Rws a n S S2 r t t4 Uq rows fs:=
 #[k.get _ _ h1 h.at3,k.get _ _ (K9 h2) h.at4,h.F.kp (LQ h2) k,h.len,h.ok,h.g,h.g3,h.sc,f,h.kp.trans k]
section
variable{defs:Kg (Ks×Df)}{fuel d:Kt}{S:aa}{r:Kt}{Q:QW}
def ED (hfu:30 < fuel)(L:Sn defs){Mqa N:Kg W}{m:KD}(hf:Fl S r)(hw:o4 (.tup [.tup Mqa,.tup N,.tup []]))(m0:0 < m)(m40:m<=40)(k:∀(rows:Kg Rw) S',RowsOk (Mqa.length:Kt) (N.length:Kt) rows->bZ (Mqa.length:Kt) (N.length:Kt) 0 [] (rows.map Rw.w)=gV->1<=rows.length->rows.length<=40->Fl S' r->Kp r S S'->Q (.tup (rows.map Rw.w),S')) :
  wO (bd (aj defs fuel (d+4)) "_law_sentence" 3 [.ref r,.tup [.tup Mqa,.tup N,.tup []],.int m] S) Q:=by
 have hlen:(1<=Mqa.length/\Mqa.length<=3)/\1<=N.length/\N.length<=3:=by
  obtain⟨ms,ns,e,h1,h2,h3,h4,_⟩:=hw;cases e;rw[Kv,Kv];exact#[#[h1,h2],h3,h4]
 show aH L.l_sentence rfl rfl λQ' hR=>?_
 replace k:=λrows S' a b c e f g=>hR _ _ (k rows S' a b c e f g)
 clear hR;change wZ _ _ bT [bt (.ref r),bt (.tup [.tup Mqa,.tup N,.tup []]),bt (.int m),gV,gV,gV,gV,gV] S Q';unfold bT;nofun
 left;show aA (d:=d+2) L.gen.pick hf #v[] #v[] λv S1 v0 v1 f1 k1=>ae bn ?_
 show sE (d:=d) hfu L f1 hw ∅ ∅ λt3 Uq S2 h3 e3 hl hU f2 k2=>hK _ _ ?_
 clear hK K;have rk:=λ(S:aa) (Q:QW) (n t:Kt)=>EC (defs:=defs) (fuel:=fuel) (d:=d) (S:=S) (r:=r) (Q:=Q) (n:=n) (t:=t) (ys:=Uq) L (Mqa:=Mqa) (N:=N)
 generalize W.tup [.tup Mqa,.tup N,.tup []]=w at rk;have kk2:Kp r S S2:=k1.trans k2;have hr1:=f1.lt;have hS2:=kk2.len;have h32:=lK e3;clear k1 k2 f1;show st ?_;left;show st ?_;left;have hr2:=f2.lt;have R0:Rws (Mqa.length:Kt) (N.length:Kt) S ((S2++[.lst []])++[.lst []]) r t3 S2.length Uq [] []:=#[az (az e3),az ah,#[[],by rw[show S2.length+1=(S2++[O.lst []]).length by simp]; exact ah,rfl,λi r h=>(nomatch h)],rfl,λi x h=>(nomatch h),λf h=>(nomatch h),λf h=>(nomatch h),λws=>rfl,(f2.ka .push).ka .push,kk2.trans (Kp.push.trans .push)]
 rw[show(S2++[O.lst []]).length=S2.length+1 by simp]
 dsimp only at h3;have h3r:t3≠r:=∅
 have h4:S.length<=S2.length:=hS2;generalize(S2++[O.lst []])++[O.lst []]=S3 at *
 generalize S2.length=t4 at *
 nofun
 show pe rfl rfl ?_;dsimp only[wE,wA,wV,wG];show aA (d:=d+2) L.gen.pick R0.fl m0 ∅ λv S4 v0 v1 f4 k4=>ae bn ?_
 show#[1+v,λi Z S'=>(∃x6 x7,Z=[bt (.ref r),bt w,bt (.int m),bt (.ref t3),bt (.ref t4),bt (.ref (t4+1)),x6,x7])/\∃rows fs,rows.length=i/\Rws (Mqa.length:Kt) (N.length:Kt) S S' r t3 t4 Uq rows fs,rfl,∅,#[#[gV,gV,rfl],[],[],rfl,R0.on h3r hr2 f4 k4],?_,?_]
 ·clear hK R0 f2 e3 kk2;rintro i Z S5 hi ⟨⟨x6,x7,rfl⟩,rows,fs,rfl,R⟩ Q2 hn _;dsimp only[KO];have aF:∀(x:Rw) (S6:aa),x.ok rows.length->aD (Mqa.length:Kt) (N.length:Kt) ((rows.length:Kt):KD) x.w=true->¬ 3 < (a9 fs x).length->Rws (Mqa.length:Kt) (N.length:Kt) S S6 r t3 t4 Uq rows fs->wZ (aj defs fuel (d+3)) fuel #v[.ex (.me .append (.v 4) #v[.v 7]),.ex (.me .append (.v 5) #v[.own "_law_free" 2 #v[.v 7,.v 5]])] [bt (.ref r),bt w,bt (.int m),bt (.ref t3),bt (.ref t4),bt (.ref (t4+1)),bt (.int (rows.length:Kt)),bt x.w] S6 Q2:=by
   intro x S6 hx hb h3 R;show st ?_;left;show#[iE R.at4,oU R.at4 (by rw[Kv]; omega) ?_]
   have F1:Fs (S6.set t4 (.lst (rows.map Rw.w++[x.w]))) (t4+1) fs:=R.F.low (Ln _);show st ?_;left;show#[F1.lst,qP (d:=d+2) L F1 R.g (by rw[R.len]; exact hx) λu S7 hu k7 eu=>?_]
   have hF:=F1.lt;have hlen:=R.len;show qO (F1.ka k7) ∅ ∅ eu λo F2=>cw (hn _ _ #[#[_,_,rfl],rows++[x],fs++[a9 fs x],by simp,?_,?_,F2,by simp[hlen],R.ok.snoc hb,R.g.snoc R.g.free ∅,?_,?_,?_,?_])
   ·rw[cv ∅]; exact k7.get _ _ (by rw[cv ∅]; exact R.at3)
   ·rw[cv ∅,k7.get _ _ (eT R.at4),LB]; rfl
   ·intro f hf;rcases Lb.mp hf with h|h
    ·exact R.g3 f h
    ·rw[KU.mp h]; omega
   ·intro ws;rw[LB,N3,R.sc,show[x].map Rw.w++ws=x.w::ws from rfl,mZ hb (by rw[BQ hb]; exact h3),BQ hb,Kw]
    rfl
   ·exact((R.fl.own ∅).ka k7).own ∅
   ·exact Kp.late ((Kp.late R.kp ∅).trans (k7.kp r)) ∅
  nofun
  left;show rk S5 _ rows.length t3 R.fl hlen.1.1 hlen.1.2 hlen.2.1 hlen.2.2 R.at3 h3r ∅ ∅ hU ∅ λx S6 hx hb f6 k6=>hK _ _ ?_
  clear hK K;have R6:=R.on h3r hr2 f6 k6;nofun
  dsimp only[wS,wT,wE,wA,wV,wG];show qP (d:=d+2) L R6.F R.g (by rw[R.len]; exact hx) λu S7 hu k7 eu=>?_
  have R7:=R6.on h3r hr2 (R6.fl.ka k7) (k7.kp r);show lN eu (ae An ?_);rw[Kv];show aG (Q0:=Q2) (λhg Q3 hn3 _=>?_) (λhg Q3 hn3 _=>cw (hn3 _ _ (hK _ _ (aF x S7 hx hb (by have:=MV hg; omega) R7))))
  have h1:1<=rows.length:=by
   rcases Qg rows.length with h|h
   ·rw[h]at hx;have:=Lq hg;have:=uD (fs:=fs) hx;omega
   ·exact h
  have hj:rows.length - 1 < rows.length:=∅
  show st ?_;left;show ae lJ (cw (hn3 _ _ (hK _ _ ?_)));have:=aF (.no (rows.length - 1)) S7 hj (BO hj) (O2.mpr (by
   show(fs.getD (rows.length - 1) []).length<=3;rw[L4];cases e:fs[rows.length - 1]? with
   | none=>exact MP _
   | some f=>exact R.g3 f (Lc e))) R7
  rw[show((rows.length:Kt):KD) - 1=((rows.length - 1:Kt):KD) by omega]
  exact this
 ·rintro Z S5 ⟨⟨x6,x7,rfl⟩,rows,fs,hl5,R⟩;show hK _ _ (st ?_);left;show G8 R.at4 (k rows S5 R.ok ?_ ∅ ∅ R.fl R.kp)
  have:=R.sc [];rw[LK]at this;exact this
end
def kH {x:Ks}(h:((x.cps.all λc=>decide (c < 128))&&decide (x.length<=1000))=true):Asc x:=by
 rw[Kj,KN]at h;exact#[h.1,h.2]
def Hh:∀k:Fin 26,(((OV #[[97+k.val].toArray]).cps.all λc=>decide (c < 128))&&decide ((OV #[[97+k.val].toArray]).length<=1000))=true:=by decide +kernel
def Hi:∀k:Fin 50,(((LY (toString (k.val:KD))).cps.all λc=>decide (c < 128))&&decide ((LY (toString (k.val:KD))).length<=1000))=true:=by decide +kernel
def Jo {x:Ks}(h:SmN 3 x):∃k:Fin 26,N7 x gV (bt 1)=#[[97+k.val].toArray]:=by
 have hl:=h.lo;have hw:x.cps.toList.all kR=true:=h.low;rw[fF]at hl;rw[StrLaws.sliceText_to #[#v[],∅]]
 cases e:x.cps.toList with
 | nil=>rw[e]at hl; exact absurd hl #v[]
 | cons c r=>
  rw[e,La,Kj,kR,Kj,KN,KN]at hw;show#[#[c - 97,∅],?_]
  rw[show 97+(c - 97)=c by omega]
  rfl
section
variable{defs:Kg (Ks×Df)}{fuel d:Kt}{S:aa}{r:Kt}{Q:QW}
def AW {x:Ks}{Q:QW}(h:SmN 3 x)(q:∀y,Asc y->Q (.str y,S)):wO (md (.str x) gV (bt 1) S) λp=>tyOk "str" p.2 p.1=true/\wO (Me.upper.fn p.1 [] p.2) Q:=by
 obtain⟨k,e⟩:=Jo h;have h1:md (.str x) gV (bt 1) S=bt (.str #[[97+k.val].toArray],S):=by
  dsimp only[md];rw[e,KQ (show(#[[97+k.val].toArray] : Ks).length<=sizeLine from gr (Ku rfl))]
 have a:=kH (Hh k);show ae h1 #[rfl,ae (a:=(.str (OV #[[97+k.val].toArray]),S)) ?_ (q _ a)];dsimp only[Me.fn,mh];rw[KQ];unfold PM;rw[Lo];have:=a.len;have:=gr (n:=(OV #[[97+k.val].toArray]).length) ∅
 omega
def fK (L:Sn defs){l:Kt}{ws:Kg W}{m:KD}(e:S[l]?=bt (.lst ws))(hlr:l≠r)(hw:∀w∈ws,Thg S w)(hm:(ws.length:KD)=m)(h0:0 < m)(h1:m < 1073741824)(hf:Fl S r)(k:∀w S',Thg S' w->Fl S' r->Kp r S S'->Q (w,S')) :
  wO (bd (aj defs fuel (d+1)) "_law_pick" 2 [.ref r,.int m] S) λq=>wO (nq (.ref l) q.1 q.2) Q:=by
 show aA (d:=d) L.gen.pick hf h0 h1 λv S1 v0 v1 f1 k1=>?_
 have hl:v.toNat < ws.length:=∅
 exact eX (k1.get _ _ hlr e) v0 (KT hl) (k _ _ ((hw _ (OU hl)).kp k1 f1) f1 k1)
abbrev JI:Kg Ks:=["","abcd","is","or","and","not","bar","A","a1","a b"," a","a ","some","each","a-b"]
def m8 {L:Kg Ks}(h:(L.all λx=>(x.cps.all λc=>decide (c < 128))&&decide (x.length<=1000))=true):∀x∈L,Asc x:=λx hx=>kH (LN.mp h x hx)
def EE:∀x∈JI,Asc x:=m8 (by decide +kernel)
def Asc.add {x y:Ks}{m:Kt}(h:SmN m x)(hm:m<=900)(hy:Asc y)(hl:y.length<=100):Asc (x++y):=by
 have hx:=h.asc ∅
 show#[?_,?_]
 ·show((x.cps++y.cps).all λc=>decide (c < 128))=true
  rw[Array.all_append,hx.lo,hy.lo]; rfl
 ·show(x.cps++y.cps).size<=1000;have:=h.hi;rw[Array.size_append];have a:x.cps.size=x.length:=rfl;have b:y.cps.size=y.length:=rfl;omega
def ag {S:aa}{ws:Kg W}{w:W}(h:Thg S w)(hs:∀x∈ws,Thg S x):∀x∈w::ws,Thg S x:=λx hx=>by
 rcases Kx.mp hx with rfl|h'
 ·exact h
 ·exact hs x h'
def bf {S:aa}:∀x∈([]:Kg W),Thg S x:=λ_ h=>nomatch h
def qS (L:Sn defs){x:Ks}(hx:SmN 3 x)(hf:Fl S r)(k:∀w S',Thg S' w->Fl S' r->Kp r S S'->Q (w,S')):wO (bd (aj defs fuel (d+2)) "_law_odd_name" 2 [.ref r,.str x] S) Q:=by
 show aH L.l_odd_name rfl rfl λQ' hR=>?_
 replace k:=λw S' a b c=>hR _ _ (k w S' a b c)
 clear hR;change wZ _ _ bX [bt (.ref r),bt (.str x),gV] S Q';dsimp only[bX];show st (g9 (kB (ws:=JI.map W.str) ?_));dsimp only[KO];have hr:=hf.lt;have xl:∀ {y:Ks},y.length<=100->x.length+y.length<=sizeLine:=λh=>gr (by have:=hx.hi; omega)
 have a3:Asc ("xxx" : Ks):=kH (by decide +kernel)
 have a1:Asc (" " : Ks):=kH (by decide +kernel)
 have aw:Asc ("ways" : Ks):=kH (by decide +kernel)
 nofun
 dsimp only[wS,wE,wA,wV,wG,wP,wN,KO];show ae (xA (xl #v[])) (AW hx λy hy=>ae (xA (xl #v[])) ?_)
 show ae (mJ (az (az ah)) ah (KJ (show _<=25 from Kz _) (gr #v[]))) (hK _ _ (st ?_))
 clear hK K;left;show fK (d:=d) L ah (by simp only[Kw]; omega) ?_ rfl #v[] #v[] ((((hf.ka .push).ka .push).ka .push).ka .push) λw S' hw f' k'=>k w S' hw f' (Kp.push.trans (Kp.push.trans (Kp.push.trans (Kp.push.trans k'))))
 intro w hw;rcases Lb.mp hw with h|h
 ·obtain⟨z,hz,rfl⟩:=MD.mp h;exact .str (EE z hz)
 have hx':=hx.asc #v[]
 show ag (.str (.add hx #v[] a3 #v[])) (ag (.str hy) (ag (.str (.add hx #v[] a1 #v[])) (ag .int (ag .int (ag .non (ag .bl (ag (.lst #[_,az (az ah)]) (ag (.tup (ag (.str hx') bf) (Ku rfl)) (ag (.str aw) bf))))))))) w h
def m9 (L:Sn defs){j i:KD}(j0:0<=j)(j1:j < 50)(hf:Fl S r)(k:∀w S',Thg S' w->Fl S' r->Kp r S S'->Q (w,S')):wO (bd (aj defs fuel (d+2)) "_law_odd_number" 3 [.ref r,.int j,.int i] S) Q:=by
 show aH L.l_odd_number rfl rfl λQ' hR=>?_
 replace k:=λw S' a b c=>hR _ _ (k w S' a b c)
 clear hR;change wZ _ _ bu [bt (.ref r),bt (.int j),bt (.int i),gV] S Q';dsimp only[bu];have hr:=hf.lt;have hs:Bi.str.fn [.int j] S=bt (.str (LY (toString j)),S):=by
  dsimp only[Bi.fn,zS];rw[KQ ∅]
 have as:Asc (LY (toString j)):=by
  obtain⟨n,rfl⟩:=NV j0;exact kH (Hi #[n,∅])
 have ax:Asc ("x" : Ks):=kH (by decide +kernel)
 nofun
 dsimp only[wS,wE,wA,wV,wG,wN,KO];show ae bn (ae lJ (ae (show gh .pow (.int 10) (.int 18) S=bt (.int 1000000000000000000,S)from rfl) (ae hs (hK _ _ (st ?_)))))
 clear hK K;left;show fK (d:=d) L ah (by simp only[Kw]; omega) ?_ rfl #v[] #v[] ((hf.ka .push).ka .push) λw S' hw f' k'=>k w S' hw f' (Kp.push.trans (Kp.push.trans k'))
 exact ag .int (ag .int (ag .int (ag .int (ag .int (ag .int (ag .int (ag .int (ag .int (ag .bl (ag .bl (ag (.str as) (ag .non (ag (.str ax) (ag (.lst #[_,az ah]) (ag (.tup (ag .int bf) (Ku rfl)) bf)))))))))))))))
end
abbrev Itm (w:W):Prop:=(∃x,w=.str x/\SmN 3 x)\/∃j:KD,w=.int j/\0<=j/\j < 50
def Itm.th {S:aa}{w:W}:Itm w->Thg S w
 | .inl #[_,e,h]=>e ▸ .str (h.asc #v[])
 | .inr #[_,e,_]=>e ▸ .int
abbrev HG (w:W):Prop:=(∃x,w=.str x)\/∃j,w=.int j
structure RowI (ws:Kg W):Prop where
 pl:∀w∈ws,HG w
 th:∀S,∀w∈ws,Thg S w
 it:∀i,1<=i->∀w,ws[i]?=bt w->Itm w
 lo:2<=ws.length
 hi:ws.length<=4
def uE {s:Ks}{fs:Kg W}(hs:Asc s)(hf:∀f∈fs,Itm f)(h1:1<=fs.length)(h3:fs.length<=3):RowI (.str s::fs):=
 #[λw hw=>by
  rcases Kx.mp hw with rfl|h
  ·exact .inl #[_,rfl]
  ·exact(hf w h).imp (λ#[x,e,_]=>#[x,e]) λ#[j,e,_]=>#[j,e],λS=>ag (.str hs) λx hx=>(hf x hx).th,λi hi w hw=>by
  cases i with
  | zero=>exact absurd hi #v[]
  | succ i=>exact hf w (Lc hw),Q5 h1,Q5 h3]
abbrev JJ:Kg Ks:=["same","mark","way","not","and","or","some","each"]
def cQ:∀x∈JJ,Asc x:=m8 (by decide +kernel)
def uF {w:W}(h:aC w=true):Itm w:=by
 obtain⟨x,rfl⟩:=b9 h;exact .inl #[x,rfl,pc h]
def uG {b:KD}{w:W}(hb:b < 50)(h:ay b w=true):Itm w:=by
 obtain⟨j,rfl,h0,h1⟩:=fI h;exact .inr #[j,rfl,h0,∅]
def uH {a:W}(h:Itm a):∀f∈[a],Itm f:=λf hf=>by rw[KU.mp hf]; exact h
def uI {a:W}{l:Kg W}(h:Itm a)(hl:∀f∈l,Itm f):∀f∈a::l,Itm f:=λf hf=>by
 rcases Kx.mp hf with rfl|h'
 ·exact h
 ·exact hl f h'
def uJ {a n:KD}{i:Kt}{x:Rw}(ha:a < 50)(hn:n < 50)(hi:i < 50)(h:aD a n (i:KD) x.w=true):∃ws,x.w=.tup ws/\RowI ws:=by
 have hi:(i:KD) < 50:=∅
 cases x with
 | same x y=>
  have h:=ff.symm.trans h;rw[Kj,Kj]at h;exact#[_,rfl,uE (cQ _ #v[]) (uI (uF h.2.1) (uH (uF h.2.2))) (Ku rfl) (Ku rfl)]
 | mark x m=>
  have h:=fj.symm.trans h;rw[Kj,Kj]at h;exact#[_,rfl,uE (cQ _ #v[]) (uI (uF h.2.1) (uH (uG ha h.2.2))) (Ku rfl) (Ku rfl)]
 | way x y m=>
  have h:=ic.symm.trans h;rw[Kj,Kj,Kj]at h;exact#[_,rfl,uE (cQ _ #v[]) (uI (uF h.2.1) (uI (uF h.2.2.1) (uH (uG hn h.2.2.2)))) (Ku rfl) (Ku rfl)]
 | no j=>
  have h:=jn.symm.trans h;rw[Kj]at h;exact#[_,rfl,uE (cQ _ #v[]) (uH (uG hi h.2)) (Ku rfl) (Ku rfl)]
 | two b j l=>
  have h:=(jo (by cases b; exact .inr rfl; exact .inl rfl)).symm.trans h
  rw[Kj,Kj]at h;exact#[_,rfl,uE (by cases b <;> exact cQ _ #v[]) (uI (uG hi h.2.1) (uH (uG hi h.2.2))) (Ku rfl) (Ku rfl)]
 | qu b x j=>
  have h:=(iJ (by cases b; exact .inr rfl; exact .inl rfl)).symm.trans h
  rw[Kj,Kj]at h;exact#[_,rfl,uE (by cases b <;> exact cQ _ #v[]) (uI (uF h.2.1) (uH (uG hi h.2.2))) (Ku rfl) (Ku rfl)]
def jq {ws:Kg W}{lo hi:Kk KD}:∀w∈du ws lo hi,w∈ws:=λw hw=>Px (Og hw)
def nh {ws:Kg W}{lo hi:Kk KD}:(du ws lo hi).length<=ws.length:=by
 unfold du;rw[LS,NE]; omega
def gy {S:aa}{xs ys:Kg W}(hx:∀w∈xs,Thg S w)(hy:∀w∈ys,Thg S w):∀w∈xs++ys,Thg S w:=λw hw=>by
 rcases Lb.mp hw with h|h
 ·exact hx w h
 ·exact hy w h
abbrev JK:Kg W:=[.str "Same",.str "sames",.str "marks",.str "ways",.str "is",.str "nor",.str "",.str "s",.int 0,.non,.bl true,.str "every",.str "yes",.str " not"]
def EF {S:aa}:∀w∈JK,Thg S w:=by
 have s:∀x∈(["Same","sames","marks","ways","is","nor","","s","every","yes"," not"]:Kg Ks),Thg S (.str x):=λx hx=>.str (m8 (by decide +kernel) x hx)
 exact ag (s _ #v[]) (ag (s _ #v[]) (ag (s _ #v[]) (ag (s _ #v[]) (ag (s _ #v[]) (ag (s _ #v[]) (ag (s _ #v[]) (ag (s _ #v[]) (ag .int (ag .non (ag .bl (ag (s _ #v[]) (ag (s _ #v[]) (ag (s _ #v[]) bf)))))))))))))
section
variable{defs:Kg (Ks×Df)}{fuel d:Kt}{S:aa}{r:Kt}{Q:QW}
def uK (L:Sn defs){ws:Kg W}{i:KD}(hw:RowI ws)(hf:Fl S r)(k:∀w S',Thg S' w->Fl S' r->Kp r S S'->Q (w,S')):wO (bd (aj defs fuel (d+3)) "_law_odd_row" 3 [.ref r,.tup ws,.int i] S) Q:=by
 show aH L.l_odd_row rfl rfl λQ' hR=>?_
 replace k:=λw S' a b c=>hR _ _ (k w S' a b c)
 clear hR;change wZ _ _ ci [bt (.ref r),bt (.tup ws),bt (.int i),gV,gV,gV,gV] S Q';unfold ci;have lo:=hw.lo;have hi:=hw.hi;nofun
 left;show aA (d:=d+1) L.gen.pick hf #v[] #v[] λv S1 v0 v1 f1 k1=>hK _ _ ?_
 clear hK K;dsimp only;have hr1:=f1.lt;nofun
 dsimp only[wS,wT,wE,wV,wG];show ae iD ?_;show aG (Q0:=Q') (λz Q2 _ hr=>st ?_) (λz Q2 hn _=>cw (hn _ _ (hK _ _ ?_)))
 ·left;show pd ?_;show fK (d:=d+1) L ah (by simp only[Kw]; omega) ?_ rfl #v[] #v[] (((f1.ka .push).ka .push).ka .push) λw S' hw f' k'=>hr _ _ (k w S' hw f' (k1.trans (Kp.push.trans (Kp.push.trans (Kp.push.trans k')))))
  have s0:∀ {S:aa},Thg S (.str "same"):=.str (kH (by decide +kernel))
  have s1:∀ {S:aa},Thg S (.str ""):=.str (kH (by decide +kernel))
  exact ag (.tup bf (MP _)) (ag .non (ag s0 (ag .int (ag (.lst #[_,az (az ah)]) (ag (.tup (ag (.tup (hw.th _) ∅) bf) (Ku rfl)) (ag .bl (ag s1 (ag (.lst #[_,az ah]) (ag (.tup (ag .non bf) (Ku rfl)) bf)))))))))
 clear hK K hn z;nofun
 dsimp only[wS,wT,wE,wV,wG];show ae iD ?_;show aG (Q0:=Q') (λz Q2 _ hr=>st ?_) (λz Q2 hn _=>cw (hn _ _ (hK _ _ ?_)))
 ·left;have s0:∀ {S:aa},Thg S (.str "x"):=.str (kH (by decide +kernel))
  show fK (d:=d+1) L ah ∅ (ag s0 (ag .int (ag .non bf))) rfl #v[] #v[] (f1.ka .push) λw S' hw' f' k'=>ae (eS (gr (by rw[Kw]; show _+1<=_; omega))) (hr _ _ (k _ S' (.tup (gy (hw.th _) (ag hw' bf)) (by rw[Kw]; show _+1<=_; omega)) f' (k1.trans (Kp.push.trans k'))))
 clear hK K hn z;nofun
 dsimp only[wS,wT,wE,wV,wG];show ae iD ?_;show aG (Q0:=Q') (λz Q2 _ hr=>st ?_) (λz Q2 hn _=>cw (hn _ _ (hK _ _ ?_)))
 ·dsimp only[wS,wE,wA,wV,wG,wP,wN];show bR (ae lJ (ae (show md (.tup ws) gV (bt ((ws.length:KD) - 1)) S1=bt (.tup (du ws gV (bt ((ws.length:KD) - 1))),S1)from rfl) (hr _ _ (k _ S1 (.tup (λw h=>hw.th _ w (jq w h)) (KJ nh ∅)) f1 k1))))
 clear hK K hn z;have word:∀(Q2:QO) (m:KD) (us:Kg W) (x5 x6:Kk W),(∀w S',Q' (.rt w,S')->Q2 (.rt w,S'))->(∀S,∀w∈us,Thg S w)->(us.length:KD)=m->0 < m->m < 1000->wZ (aj defs fuel (d+2)) fuel #v[.set 4 (.lst (hW us)),.ret (.op .add (.tup #v[.ix (.v 4) (.own "_law_pick" 2 #v[.v 0,.c (.int m)])]) (.sl (.v 1) (.yes (.c (.int 1))) .no))] [bt (.ref r),bt (.tup ws),bt (.int i),bt (.int v),gV,x5,x6] S1 Q2:=λQ2 m us x5 x6 hr hu hm m0 m1=>by
  show st (g9 (kB ?_));dsimp only[KO];show st ?_;dsimp only[wS,wE,wA,wV,wG,wP,wN];show fK (d:=d+1) L ah ∅ (hu _) hm m0 ∅ (f1.ka .push) λw S' hw' f' k'=>?_
  have cl:=nh (ws:=ws) (lo:=bt 1) (hi:=gV);show ae (show md (.tup ws) (bt 1) gV S'=bt (.tup (du ws (bt 1) gV),S')from rfl) (ae (eS (gr (by show(du ws (bt 1) gV).length+1<=_; omega))) (hr _ _ (k _ S' (.tup (ag hw' λw h=>hw.th _ w (jq w h)) (by show(du ws (bt 1) gV).length+1<=_; omega)) f' (k1.trans (Kp.push.trans k')))))
 nofun
 dsimp only[wS,wT,wE,wV,wG];show ae iD ?_;show aG (Q0:=Q') (λz Q2 _ hr=>word Q2 14 JK gV gV hr (λS=>EF) rfl #v[] #v[]) (λz Q2 hn _=>cw (hn _ _ (hK _ _ ?_)))
 clear hK K hn z;nofun
 dsimp only[wS,wT,wE,wV,wG];show ae iD ?_;show aG (Q0:=Q') (λz Q2 _ hr=>word Q2 8 (JJ.map W.str) gV gV hr (λS w h=>by obtain⟨x,hx,rfl⟩:=MD.mp h; exact .str (cQ x hx)) rfl #v[] #v[]) (λz Q2 hn _=>cw (hn _ _ (hK _ _ ?_)))
 clear hK K hn z word;nofun
 left;show bR (ae lJ (aA (d:=d+1) L.gen.pick f1 ∅ ∅ λs S2 s0 s1 f2 k2=>ae bn (hK _ _ ?_)))
 clear hK K;dsimp only at s1 ⊢;obtain⟨y,hy⟩ : ∃y,ws[(1+s).toNat]?=bt y:=#[_,KT ∅]
 have iy:=hw.it _ ∅ y hy
 nofun
 left;show bC ∅ hy (hK _ _ ?_)
 clear hK K;generalize(1:KD)+s=p;have fin:∀(u:W) (S4:aa),Thg S4 u->Fl S4 r->Kp r S1 S4->wZ (aj defs fuel (d+2)) fuel #v[.ret (.op .add (.op .add (.sl (.v 1) .no (.yes (.v 5))) (.tup #v[.v 6])) (.sl (.v 1) (.yes (.op .add (.v 5) (.c (.int 1)))) .no))] [bt (.ref r),bt (.tup ws),bt (.int i),bt (.int v),gV,bt (.int p),bt u] S4 Q':=λu S4 hu f4 k4=>by
  show st ?_;dsimp only[wS,wE,wA,wV,wG,wP,wN];have c1:=nh (ws:=ws) (lo:=gV) (hi:=bt p);have c2:=nh (ws:=ws) (lo:=bt (p+1)) (hi:=gV);show ae (show md (.tup ws) gV (bt p) S4=bt (.tup (du ws gV (bt p)),S4)from rfl) (ae (eS (gr (by rw[Kw]; show _+1<=_; omega))) (ae bn ?_))
  show ae (show md (.tup ws) (bt (p+1)) gV S4=bt (.tup (du ws (bt (p+1)) gV),S4)from rfl) (ae (eS (gr ?_)) (k _ S4 (.tup (gy (gy (λw h=>hw.th _ w (jq w h)) (ag hu bf)) λw h=>hw.th _ w (jq w h)) ?_) f4 (k1.trans k4)))
  all_goals (rw[Kw,Kw]; show _+1+_<=_; omega)
 nofun
 dsimp only[wS,wT,wE,wA,wV,wG];show aA (d:=d+1) L.gen.pick f2 #v[] #v[] λq S3 q0 q1 f3 k3=>ae iD ?_
 show aG (Q0:=Q') (λz Q2 hn _=>st ?_) (λz Q2 hn _=>st ?_)
 ·left;have s0:∀ {S:aa},Thg S (.str "x"):=.str (kH (by decide +kernel))
  have hy3:=iy.th (S:=S3++[.lst [.int 0,.str "x"]]);show ae hy3.n (ae (show Bi.int.fn [.bl (o6 y||yb y)] _=bt (.int (if (o6 y||yb y)=true then 1 else 0),_)from rfl) ?_)
  cases(o6 y||yb y)
  ·exact bM (i:=0) ah rfl (cw (hn _ _ (hK _ _ (fin _ _ .int (f3.ka .push) (k2.trans (k3.trans .push))))))
  ·exact bM (i:=1) ah rfl (cw (hn _ _ (hK _ _ (fin _ _ s0 (f3.ka .push) (k2.trans (k3.trans .push))))))
 ·rcases iy with⟨x,rfl,hx⟩|⟨j,rfl,j0,j1⟩
  ·dsimp only[wS,wT,wE,wA,wV,wG];show ae (show pk S3 (.str x) "int" = bt false from rfl) ?_
   show aG (Q0:=Q2) (λz=>by cases z) (λ_ Q3 hn3 _=>st ?_)
   left;exact qS (d:=d) L hx f3 λw S4 hw4 f4 k4=>cw (hn3 _ _ (cw (hn _ _ (hK _ _ (fin w S4 hw4 f4 (k2.trans (k3.trans k4)))))))
  ·dsimp only[wS,wT,wE,wA,wV,wG];show ae (show pk S3 (.int j) "int" = bt true from rfl) ?_
   show aG (Q0:=Q2) (λ_ Q3 hn3 _=>st ?_) (λz=>by cases z)
   left;exact m9 (d:=d) L j0 j1 f3 λw S4 hw4 f4 k4=>cw (hn3 _ _ (cw (hn _ _ (hK _ _ (fin w S4 hw4 f4 (k2.trans (k3.trans k4)))))))
end
def EG {S:aa}{d:Kt}{w f:W}(h:Thg S w)(hf:HG f):∃b,iN S (d+1) w f=bt b:=by
 rcases hf with⟨x,rfl⟩|⟨j,rfl⟩
 ·cases h with
  | lst h=>
   obtain⟨xs,e⟩:=h;exact#[false,by dsimp only[iN]; rw[dP e]]
  | _=>exact#[_,rfl]
 ·cases h with
  | lst h=>
   obtain⟨xs,e⟩:=h;exact#[false,by dsimp only[iN]; rw[dP e]]
  | _=>exact#[_,rfl]
def sG {S:aa}{d:Kt}:∀(xs ys:Kg W),(∀w∈xs,Thg S w)->(∀f∈ys,HG f)->∃b,kO (iN S (d+1)) xs ys=bt b
 | [],[],_,_=>#[_,rfl]
 | [],_::_,_,_=>#[_,rfl]
 | _::_,[],_,_=>#[_,rfl]
 | x::xs,y::ys,h1,h2=>by
  obtain⟨a,ea⟩:=EG (d:=d) (h1 x (.head _)) (h2 y (.head _));obtain⟨b,eb⟩:=sG (d:=d) xs ys (λw hw=>h1 w (.tail _ hw)) λf hf=>h2 f (.tail _ hf)
  exact#[a&&b,by dsimp only[kO]; rw[ea,eb]]
def Hj {S:aa}{w:W}{ys:Kg W}(h:Thg S w)(hy:∀f∈ys,HG f):∃b,dv .eq w (.tup ys) S=bt (.bl b,S):=by
 obtain⟨b,e⟩ : ∃b,iN S (19+1) w (.tup ys)=bt b:=by
  cases h with
  | lst h=>
   obtain⟨xs,e⟩:=h;exact#[false,by dsimp only[iN]; rw[dP e]]
  | tup h hl=>exact sG (d:=18) _ ys h hy
  | _=>exact#[_,rfl]
 exact#[b,by show(iN S (19+1) w (.tup ys)).map _=_; rw[e]; rfl]
section
variable{defs:Kg (Ks×Df)}{fuel d:Kt}{S:aa}{r:Kt}{Q:QW}
def uL (hfu:30 < fuel)(L:Sn defs){w:W}{R:Kg W}(hw:o4 w)(hR:∀w∈R,∃ws,w=.tup ws/\RowI ws)(h1:1<=R.length)(h40:R.length<=40)(hf:Fl S r)(k:∀w S',Thg S' w->Fl S' r->Kp r S S'->Q (w,S')):wO (bd (aj defs fuel (d+4)) "_law_changed" 3 [.ref r,w,.tup R] S) Q:=by
 have th:∀S,∀w∈R,Thg S w:=λS w hw=>by
  obtain⟨ws,rfl,h⟩:=hR w hw;exact .tup (h.th S) (by have:=h.hi; omega)
 show aH L.l_changed rfl rfl λQ' hR'=>?_
 replace k:=λw S' a b c=>hR' _ _ (k w S' a b c)
 clear hR';change wZ _ _ cj [bt (.ref r),bt w,bt (.tup R),gV,gV,gV,gV,gV,gV] S Q';unfold cj;nofun
 dsimp only[wS,wT,wE,wA,wV,wG];show aA (d:=d+2) L.gen.pick hf #v[] #v[] λv S1 v0 v1 f1 k1=>ae iD ?_
 show aG (Q0:=Q') (λz Q2 _ hr=>?_) (λz Q2 hn _=>cw (hn _ _ (hK _ _ ?_)))
 ·clear hK;nofun
  left;show sE (d:=d) hfu L f1 hw #v[] #v[] λt ys S2 h3 e3 hl hU f2 k2=>hK _ _ ?_
  clear hK K;obtain⟨y0,y1,y2,y3,rfl⟩ : ∃y0 y1 y2 y3,ys=[y0,y1,y2,y3]:=by
   match ys,hl with
   | [a,b,c,e],_=>exact#[a,b,c,e,rfl]
   | [],hl=>exact absurd hl #v[]
   | [_],hl=>exact absurd hl (by simp)
   | [_,_],hl=>exact absurd hl (by simp)
   | [_,_,_],hl=>exact absurd hl (by simp)
   | _::_::_::_::_::_,hl=>exact absurd hl (by simp only[Lh]; omega)
  have sh:∀y∈[y0,y1,y2,y3],∀S,Thg S (.str y):=λy hy S=>.str ((pc (hU y hy)).asc #v[])
  have htr:t≠r:=by have:=f1.lt; omega
  nofun
  left;show aA (d:=d+2) L.gen.pick f2 #v[] #v[] λu S3 u0 u1 f3 k3=>ae bn ?_
  have e3:=k3.get _ _ htr e3;obtain⟨y,hy,ey⟩:=dQ (f:=W.str) (xs:=[y0,y1,y2,y3]) (i:=(2+u).toNat) (by change _ < 4; omega)
  show eX e3 ∅ ey (hK _ _ ?_)
  clear hK K ey;nofun
  left;show bM (i:=0) e3 rfl (bM (i:=1) e3 rfl (bM (i:=2) e3 rfl (hK _ _ (st ?_))));clear hK K;left;have c4:∀S,∀w∈[W.tup [.str "same",.str y0,.str y1],.tup [.str "way",.str y2,.str y,.int 0]],Thg S w:=λS=>ag (.tup (ag (.str (cQ _ #v[])) (ag (sh y0 (by simp) S) (ag (sh y1 (by simp) S) bf))) (Ku rfl)) (ag (.tup (ag (.str (cQ _ #v[])) (ag (sh y2 (by simp) S) (ag (sh y hy S) (ag .int bf)))) (Ku rfl)) bf)
  show ae (eS (gr (by rw[Kw]; show _+2<=_; omega))) ?_
  show fK (d:=d+2) L ah (K9 f3.lt) (ag (.str (cQ _ #v[])) (ag (.str (cQ _ #v[])) bf)) rfl #v[] #v[] (f3.ka .push) λu S4 hu f4 k4=>bR (bR (ae bn ?_))
  show ae (eS (gr ?_)) (hr _ _ (k _ S4 (.tup (gy (gy (th S4) (c4 S4)) (ag (.tup (ag hu (ag .int (ag .int bf))) (Ku rfl)) bf)) ?_) f4 (k1.trans (k2.trans (k3.trans (Kp.push.trans k4))))))
  all_goals (rw[Kw,Kw]; show _+2+1<=_; omega)
 clear hK K hn z;show st ?_;left;nofun
 show pe rfl rfl ?_;dsimp only[wE,wA,wV,wG];show aA (d:=d+2) L.gen.pick f1 #v[] #v[] λu S2 u0 u1 f2 k2=>ae bn ?_
 show#[1+u,λi Z S'=>(∃xs x7 x8,Z=[bt (.ref r),bt w,bt (.tup R),gV,gV,gV,bt (.tup xs),x7,x8]/\xs.length=R.length/\∀x∈xs,Thg S' x)/\Fl S' r/\Kp r S S',rfl,∅,#[#[R,gV,gV,rfl,rfl,th _],f2,k1.trans k2],?_,?_]
 ·clear hK;rintro i Z S3 hi ⟨⟨xs,x7,x8,rfl,hl,hx⟩,f3,k3⟩ Q2 hn _;dsimp only[KO];nofun
  left;show bR (aA (d:=d+2) L.gen.pick f3 ∅ ∅ λp S4 p0 p1 f4 k4=>hK _ _ ?_)
  clear hK K;obtain⟨p,rfl⟩:=NV p0;have hx4:∀x∈xs,Thg S4 x:=λx h=>(hx x h).kp k4 f4
  obtain⟨a,ha⟩ : ∃a,xs[p]?=bt a:=#[_,KT ∅]
  obtain⟨b,hb⟩ : ∃b,R[p]?=bt b:=#[_,KT ∅]
  obtain⟨ws,rfl,hws⟩:=hR b (Lc hb);obtain⟨e,he⟩:=Hj (hx4 a (Lc ha)) hws.pl;nofun
  dsimp only[wS,wT,wE,wA,wV,wG];show bC p0 ha (bC p0 hb (ae he ?_));show aG (Q0:=Q2) (λ_ Q3 hn3 _=>st ?_) (λ_ Q3 hn3 _=>cw (hn3 _ _ (hK _ _ (cw (hn _ _ #[#[xs,_,_,rfl,hl,hx4],f4,k3.trans k4])))))
  dsimp only[wS,wE,wA,wV,wG,wP,wN,KO];show ae (show md (.tup xs) gV (bt (p:KD)) S4=bt (.tup (xs.take p),S4) by dsimp only[md]; rw[oX]) (bC p0 hb ?_)
  show uK (d:=d) L hws f4 λu S5 hu f5 k5=>?_
  have hx5:∀x∈xs,Thg S5 x:=λx h=>(hx4 x h).kp k5 f5
  have l1:(xs.take p).length<=40:=by rw[LS]; omega
  show ae (eS (gr (by rw[Kw]; show _+1<=_; omega))) (ae bn ?_)
  rw[show(p:KD)+1=((p+1:Kt):KD) by omega]
  show ae (show md (.tup xs) (bt ((p+1:Kt):KD)) gV S5=bt (.tup (xs.drop (p+1)),S5) by dsimp only[md]; rw[oY]) ?_
  have ll:((xs.take p++[u])++xs.drop (p+1)).length=R.length:=by
   rw[Kw,Kw,LS,NE];change _+1+_=_;omega
  show ae (eS (gr (by rw[ll]; omega))) (cw (hn3 _ _ (hK _ _ (cw (hn _ _ #[#[_,_,_,rfl,ll,gy (gy (λx h=>hx5 x (Og h)) (ag hu bf)) λx h=>hx5 x (Px h)],f5,k3.trans (k4.trans k5)])))))
 ·rintro Z S3 ⟨⟨xs,x7,x8,rfl,hl,hx⟩,f3,k3⟩;show hK _ _ (st ?_);exact k _ S3 (.tup hx ∅) f3 k3
end
structure Lw51 (cl:Cl)(defs:Kg (Ks×Df)):Prop where
 sn:Sn defs
 lookx:Is defs ("look_sentence!" : Ks) 2 5 aL
 answer:Is defs ("_law_answer" : Ks) 2 6 (bv cl)
 right:Is defs ("_law_right" : Ks) 2 4 cm
 flow:Is defs ("_law_flow" : Ks) 1 1 cL
 law:Is defs ("law" : Ks) 1 6 jm
section
variable{defs:Kg (Ks×Df)}{fuel d:Kt}
def EH {S:aa}{Q:QW}(hd:Is defs ("_law_flow" : Ks) 1 1 cL){ns:Kg KD}{u:Kt}(hu:S[u]?=bt (.fro (ns.map W.int)))(k:∀r S',Ka S S'->Fl S' r->Q (.ref r,S')) :
  wO (bd (aj defs fuel (d+1)) "_law_flow" 1 [.ref u] S) Q:=by
 show aH hd rfl rfl λQ' hR=>?_
 change wZ _ _ cL [bt (.ref u)] S Q';dsimp only[cL];show st ?_;left;have e:Bi.list.fn [.ref u] S=bt (.ref S.length,S++[.lst (ns.map W.int)]):=by
  have h1:zD S u=gV:=by simp[zD,hu]
  simp only[Bi.fn,Ag,lx,h1,iP,dY,Ao hu]
 show ae e (hR _ _ (k _ _ (Ka.push.trans .push) #[S.length,ns,0,0,1,0,?_,?_,?_,#v[],#v[],#v[],#v[]]))
 ·exact ah
 ·exact az ah
 ·simp
def yn (hfu:50 < fuel){cl:Cl}{C:Kn}(hc:cl "NoSentence" = bt (C,[("row" : Ks)]))(L:Lw51 cl defs){zs:Kg KD}:∃S',aj defs fuel (d+8) "law" [.ref 0] [.fro (zs.map W.int)]=bt (.bl true,S'):=by
 suffices h:wO (bd (aj defs fuel (d+8)) "law" 1 [.ref 0] [.fro (zs.map W.int)]) (λp=>p.1=.bl true) by
  obtain⟨⟨v,S'⟩,e,q⟩:=aS h;cases(show v=.bl true from q)
  exact#[S',e]
 show aH L.law rfl rfl λQ' hR=>?_
 change wZ _ _ jm [bt (.ref 0),gV,gV,gV,gV,gV] [.fro (zs.map W.int)] Q';unfold jm;nofun
 left;show EH (d:=d+6) L.flow (ns:=zs) rfl λr S1 _ f1=>hK _ _ ?_
 clear hK K;nofun
 left;show Ef (d:=d+4) ∅ L.sn f1 λw S2 hw f2 k2=>hK _ _ ?_
 clear hK K;have hw':=hw;obtain⟨ms,ns,rfl,m1,m3,n1,n3,_⟩:=hw';have hM:(ms.map W.str).length<=3:=by rw[Kv]; exact m3
 have hN:(ns.map λp=>W.tup [.str p.1,.int p.2]).length<=3:=by rw[Kv]; exact n3
 generalize ms.map W.str=Mqa at *
 generalize(ns.map λp=>W.tup [.str p.1,.int p.2])=N at *
 have rk:=λ(S:aa) (Q:QW) (w:W) (h:Thg S w) (k:∀S',Ka S S'->Q (.bl true,S'))=>AT (defs:=defs) (fuel:=fuel) (d:=d) (S:=S) (Q:=Q) (Mqa:=Mqa) (N:=N) (b0:=.tup []) hc L.sn L.lookx L.answer L.right h k
 have fk:=λ(S:aa) (Q:QW) (w:W)=>sD (defs:=defs) (fuel:=fuel) (d:=d+4) (S:=S) (Q:=Q) (Mqa:=Mqa) (N:=N) (b0:=.tup []) (w:=w) L.sn rfl rfl
 nofun
 left;show aA (d:=d+6) L.sn.gen.pick (f2.ka .push) #v[] #v[] λv S3 v0 v1 f3 k3=>ae iD ?_
 have e3:=k3.get _ _ (K9 f2.lt) (ah (S:=S2) (o:=.lst [.int 12,.int 37]));show ae (show Bi.int.fn [.bl (v==0)] S3=bt (.int (if (v==0)=true then 1 else 0),S3)from rfl) ?_
 have most:∀Q:QW,(∀m:KD,0 < m->m<=40->Q (.int m,S3))->wO (nq (.ref S2.length) (.int (if (v==0)=true then 1 else 0)) S3) Q:=λQ q=>by
  cases(v==0)
  ·exact bM (i:=0) e3 rfl (q 12 #v[] #v[])
  ·exact bM (i:=1) e3 rfl (q 37 #v[] #v[])
 show most _ λm m0 m40=>?_
 show ED (d:=d+3) ∅ L.sn f3 hw m0 m40 λrows S4 ok sc h1 h40 f4 k4=>hK _ _ ?_
 clear hK K most e3;have hR1:∀w∈rows.map Rw.w,∃ws,w=.tup ws/\RowI ws:=λw h=>by
  obtain⟨x,hx,rfl⟩:=MD.mp h;obtain⟨i,hi,e⟩:=Pv.mp hx;exact uJ ∅ ∅ ∅ (ok i x (by rw[<- e]; exact KT hi))
 have hlen:(rows.map Rw.w).length=rows.length:=Kv ..;have hfirst:cr (Mqa.length:Kt) (N.length:Kt) (.tup (rows.map Rw.w))=gV:=by
  cases rows with
  | nil=>exact absurd h1 #v[]
  | cons x xs=>exact sc
 have hth:∀S,Thg S (.tup (rows.map Rw.w)):=λS=>.tup (λw h=>by
  obtain⟨ws,rfl,hi⟩:=hR1 w h;exact .tup (hi.th S) (by have:=hi.hi; omega)) ∅
 generalize rows.map Rw.w=R at *
 generalize W.tup [.tup Mqa,.tup N,.tup []]=w at *
 nofun
 left;show uL (d:=d+3) ∅ L.sn hw hR1 ∅ ∅ f4 λo S5 ho f5 k5=>hK _ _ ?_
 clear hK K;dsimp only;nofun
 show sg S5.length [.tup R,o,.tup R,o] (λi Z S'=>(∃a,Z=[bt (.ref 0),bt (.ref r),bt w,bt (.tup R),bt o,a])/\Ka (S5++[.lst [.tup R,o,.tup R,o]]) S') rfl rfl ?_ ?_ ?_ ?_
 ·dsimp only[wE,wA,wV,wG];exact#[rfl,#[gV,rfl],.refl]
 ·rintro i Z S' ⟨_,k'⟩;exact k'.get _ _ ah
 ·rintro i x Z S' hx ⟨⟨a,rfl⟩,k'⟩;have hx':Thg S' x:=by
   have:=Lc hx;simp only[Kx,K6,L8]at this;have ho':=ho.ka (Ka.push.trans k');rcases this with rfl|rfl|rfl|rfl
   ·exact hth _
   ·exact ho'
   ·exact hth _
   ·exact ho'
  show Jm λQ2 hn _=>?_
  dsimp only[KO];nofun
  show fm (a7 (x:=!true) rfl (au (mT λQ q=>?_))) λS6 k6=>hK _ _ (cw (hn _ _ #[#[_,rfl],k'.trans k6]))
  dsimp only[wE,wA,wV,wG];exact rk S' Q x hx' q
 ·rintro Z S' ⟨⟨a,rfl⟩,k'⟩;show hK _ _ (st ?_);left;show fk S' _ (.tup R) (hth S') λS6 k6=>?_
  rw[hfirst];exact ae (show dv .is .non .non S6=bt (.bl true,S6)from rfl) (hR _ _ rfl)
end
abbrev BR:Df:=#[["_law_script"],["_law_script","_law_flow_here","_law_rule_here","_law_rows","_law_odd","_law_thing"],jm]
noncomputable abbrev Tw:=Ks×Kt×Df×Kt
noncomputable abbrev tw (x:Ks)(i:Kt)(d:Df)(a:Kt):Tw:=(x,i,d,a)
abbrev RL:Kg (Ks×Kn×Kg Ks):=[("NoSentence",101,["row"])]
abbrev sH:Cl:=λcn=>RL.lookup cn
abbrev Jp:Kg (Ks×Kn):=[("LayError",24),("NoSentence",101),("BadText",82),("NoRow",120),("NoRule",44),("NoWorld",63)]
abbrev yo:Kg Ks:=Jp.map (·.1)
abbrev RT:Kg (Ks×Kt):=RL.map λp=>(p.1,p.2.2.length)
abbrev TL:Kg Tw:=[tw "is_whole" 8 #[["thing"],["thing"],dR] 129,tw "is_name" 13 #[["text"],["text"],fG] 135,tw "is_row" 21 #[["rule","thing","ahead"],["rule","thing","ahead","form","bounds"],hG] 150,tw "is_field" 22 #[["thing","kind","bounds"],["thing","kind","bounds"],dS] 157,tw "is_point_name" 23 #[["thing"],["thing"],bF] 164,tw "names_of" 24 #[["row","free"],["row","free","names","number"],dU] 169,tw "part_rows" 25 #[["row"],["row"],cV] 174,tw "_law_flow" 27 #[["_law_script"],["_law_script"],cL] 181,tw "_law_pick" 28 #[["_law_flow_here","_law_many"],["_law_flow_here","_law_many","_law_cell","_law_digit"],bI] 188,tw "_law_letters" 29 #[["_law_flow_here","_law_many"],["_law_flow_here","_law_many"],cg] 193,tw "_law_unlike" 30 #[["_law_name","_law_names"],["_law_name","_law_names","_law_spare"],bS] 200,tw "_law_rule" 31 #[["_law_flow_here"],["_law_flow_here","_law_marks","_law_many","_law_near","_law_names","_law_k","_law_name","_law_backs"],cW] 205,tw "_law_place_names" 32 #[["_law_flow_here","_law_rule_here","_law_many"],["_law_flow_here","_law_rule_here","_law_many","_law_name","_law_short","_law_names","_law_k"],bp] 210,tw "_law_free" 33 #[["_law_row_here","_law_frees_here"],["_law_row_here","_law_frees_here"],dW] 215,tw "_law_ahead" 35 #[["_law_flow_here","_law_k"],["_law_flow_here","_law_k"],cY] 229,tw "_law_row" 36 #[["_law_flow_here","_law_rule_here","_law_names","_law_k"],["_law_flow_here","_law_rule_here","_law_names","_law_k","_law_form","_law_x","_law_y","_law_plain"],fH] 236,tw "_law_sentence" 37 #[["_law_flow_here","_law_rule_here","_law_most"],["_law_flow_here","_law_rule_here","_law_most","_law_names","_law_rows","_law_frees_here","_law_k","_law_row_here"],bT] 243,tw "_law_is_short" 38 #[["_law_thing"],["_law_thing"],bU] 248,tw "_law_is_below" 39 #[["_law_thing","_law_many"],["_law_thing","_law_many"],bV] 255,tw "_law_row_fits" 40 #[["_law_rule_here","_law_row_here","_law_at"],["_law_rule_here","_law_row_here","_law_at","_law_word"],bW] 262,tw "_law_first_bad" 41 #[["_law_rule_here","_law_thing"],["_law_rule_here","_law_thing","_law_frees_here","_law_at"],bG] 269,tw "_law_odd_name" 42 #[["_law_flow_here","_law_name"],["_law_flow_here","_law_name","_law_some"],bX] 276,tw "_law_odd_number" 43 #[["_law_flow_here","_law_number","_law_at"],["_law_flow_here","_law_number","_law_at","_law_some"],bu] 283,tw "_law_odd_row" 44 #[["_law_flow_here","_law_row_here","_law_at"],["_law_flow_here","_law_row_here","_law_at","_law_form","_law_words","_law_spot","_law_thing"],ci] 290,tw "_law_changed" 45 #[["_law_flow_here","_law_rule_here","_law_rows"],["_law_flow_here","_law_rule_here","_law_rows","_law_names","_law_last","_law_more","_law_found","_law_k","_law_at"],cj] 297,tw "_law_right" 47 #[["_law_rule_here","_law_thing"],["_law_rule_here","_law_thing","_law_due","_law_found"],cm] 311,tw "law" 48 BR 318]
abbrev TT:Kg Tw:=[tw "_law_answer" 46 #[["_law_rule_here","_law_thing"],["_law_rule_here","_law_thing","_law_caught","_law_found","e","_law_good"],(bv sH)] 304]
abbrev TW:Kg Tw:=[tw "look_sentence" 20 #[["rule","thing"],["rule","thing","free","number","row"],(GY "look_sentence!" 2)] 145]
abbrev TX:Kg (Ks×Ks×Kt×Df):=[("look_sentence","look_sentence!",20,#[["rule","thing"],["rule","thing","free","number","row"],aL])]
abbrev TA:Kg Tw:=TL++(TT++TW)
abbrev dF:Kg (Ks×Df):=(TA.map λp=>(p.1,p.2.2.1))++TX.map λp=>(p.2.1,p.2.2.2)
abbrev Jq:Kg (Ks×Kt):=TA.map λp=>(p.1,p.2.2.1.ps.length)
abbrev Hk:Kg (Ks×Ks×Kt):=TX.map λp=>(p.1,p.2.1,p.2.2.2.ps.length)
abbrev AX:Kg Ks:=["range","len","list","tuple","int","set","sorted","isinstance","bool","str","all","min","zip","enumerate","ValueError"]
abbrev AY:Kg (Ks×W):=[("LETTERS",.str "abcdefghijklmnopqrstuvwxyz"),("LONGEST_NAME",.int 8),("WORDS",.tup (bJ.map W.str)),("LONGEST_POINT_NAME",.int 3),("MOST_FREE_NAMES",.int 3),("PLAIN",.tup ((["same","mark","way"]:Kg Ks).map W.str)),("BINDING",.tup ((["some","each"]:Kg Ks).map W.str))]
abbrev AZ:Kg (Ks×Kg (Ks×W)):=[("FORMS",iG)]
abbrev yz:Md:=#[Jq,AX,AY,AZ]
abbrev BD (x:Ks)(st:LO)(df:Df):Prop:=∀(kV doc pm:Ki) (an:Kk Kn) (cdv ct:Ki) (us:Kg Ki),us.length=df.ps.length->bindArgs (Mo x x (cf st) (aM st) (ap st) .none kV doc pm an cdv ct) #[us,[]]=pure (df.ps.zip us)
def HH {us:Kg Ki}(h:us.length=0):us=[]:=MJ.mp h
def uc {us:Kg Ki}{n:Kt}(h:us.length=n+1):∃a t,us=a::t/\t.length=n:=by
 cases us with
 | nil=>cases h
 | cons a t=>exact#[a,t,rfl,TZ h]
def HI {us:Kg Ki}(h:us.length=1):∃a,us=[a]:=by obtain⟨a,t,rfl,g⟩:=uc h; cases HH g; exact#[a,rfl]
def Hl {us:Kg Ki}(h:us.length=2):∃a b,us=[a,b]:=by obtain⟨a,t,rfl,g⟩:=uc h; obtain⟨b,rfl⟩:=HI g; exact#[a,b,rfl]
def HJ {us:Kg Ki}(h:us.length=3):∃a b c,us=[a,b,c]:=by obtain⟨a,t,rfl,g⟩:=uc h; obtain⟨b,c,rfl⟩:=Hl g; exact#[a,b,c,rfl]
def HK {us:Kg Ki}(h:us.length=4):∃a b c d,us=[a,b,c,d]:=by obtain⟨a,t,rfl,g⟩:=uc h; obtain⟨b,c,d,rfl⟩:=HJ g; exact#[a,b,c,d,rfl]
def HL {us:Kg Ki}(h:us.length=5):∃a b c d e,us=[a,b,c,d,e]:=by obtain⟨a,t,rfl,g⟩:=uc h; obtain⟨b,c,d,e,rfl⟩:=HK g; exact#[a,b,c,d,e,rfl]
def Jr {us:Kg Ki}(h:us.length=6):∃a b c d e f,us=[a,b,c,d,e,f]:=by obtain⟨a,t,rfl,g⟩:=uc h; obtain⟨b,c,d,e,f,rfl⟩:=HL g; exact#[a,b,c,d,e,f,rfl]
abbrev DG (p:Tw):Prop:=Gb yz (top p.2.1) p.2.2.1/\FnScope p.2.2.1.N p.2.2.1.ps (ap (top p.2.1))/\BD p.1 (top p.2.1) p.2.2.1
def gc {α:Type}{F:α->Prop}{p:α}{L:Kg α}(a:F p)(b:∀q∈L,F q):∀q∈p::L,F q:=List.forall_mem_cons.mpr #[a,b]
def gn {α:Type}{F:α->Prop}:∀q∈([]:Kg α),F q:=λ_ h=>nomatch h
def J2 {p:Tw}(a:eR (cS 20 (dZ yz (top p.2.1) p.2.2.1.N)) (aM (top p.2.1))=bt p.2.2.1.body)(b:FnScope p.2.2.1.N p.2.2.1.ps (ap (top p.2.1)))(c:BD p.1 (top p.2.1) p.2.2.1):DG p:=#[a,b,c]
set_option maxHeartbeats 0 in
def BS:∀p∈TL,DG p:=by
 unfold TL
 repeat show gc (J2 (by kernel_rfl) #[rfl,rfl,rfl,by decide +kernel,rfl,by decide +kernel,by decide +kernel] λ_ _ _ _ _ _ us h=>by
  first
   | (obtain⟨a,rfl⟩:=HI h; rfl)
   | (obtain⟨a,b,rfl⟩:=Hl h; rfl)
   | (obtain⟨a,b,c,rfl⟩:=HJ h; rfl)
   | (obtain⟨a,b,c,d,rfl⟩:=HK h; rfl)
   | (obtain⟨a,b,c,d,e,rfl⟩:=HL h; rfl)
   | (obtain⟨a,b,c,d,e,f,rfl⟩:=Jr h; rfl)
   | (obtain rfl:=HH h; rfl)) ?_
 exact gn
abbrev DT (p:Tw):Prop:=eR (ES Hk yo sH (dZ yz (top p.2.1) p.2.2.1.N)) (aM (top p.2.1))=bt p.2.2.1.body/\FnScope p.2.2.1.N p.2.2.1.ps (ap (top p.2.1))/\BD p.1 (top p.2.1) p.2.2.1
def J3 {p:Tw}(a:eR (ES Hk yo sH (dZ yz (top p.2.1) p.2.2.1.N)) (aM (top p.2.1))=bt p.2.2.1.body)(b:FnScope p.2.2.1.N p.2.2.1.ps (ap (top p.2.1)))(c:BD p.1 (top p.2.1) p.2.2.1):DT p:=#[a,b,c]
set_option maxHeartbeats 0 in
def BU:∀p∈TT,DT p:=by
 unfold TT
 repeat show gc (J3 (by kernel_rfl) #[rfl,rfl,rfl,by decide +kernel,rfl,by decide +kernel,by decide +kernel] λ_ _ _ _ _ _ us h=>by
  first
   | (obtain⟨a,rfl⟩:=HI h; rfl)
   | (obtain⟨a,b,rfl⟩:=Hl h; rfl)
   | (obtain⟨a,b,c,rfl⟩:=HJ h; rfl)
   | (obtain⟨a,b,c,d,rfl⟩:=HK h; rfl)
   | (obtain⟨a,b,c,d,e,rfl⟩:=HL h; rfl)
   | (obtain⟨a,b,c,d,e,f,rfl⟩:=Jr h; rfl)
   | (obtain rfl:=HH h; rfl)) ?_
 exact gn
abbrev DW (p:Tw):Prop:=(∃f',Hk.lookup p.1=bt (f',p.2.2.1.ps.length)/\p.2.2.1.body=GY f' p.2.2.1.ps.length)/\BD p.1 (top p.2.1) p.2.2.1
def J4 {p:Tw}(f':Ks)(a:Hk.lookup p.1=bt (f',p.2.2.1.ps.length))(b:p.2.2.1.body=GY f' p.2.2.1.ps.length)(c:BD p.1 (top p.2.1) p.2.2.1):DW p:=#[#[f',a,b],c]
def BV:∀p∈TW,DW p:=by
 unfold TW;show gc (J4 "look_sentence!" (by kernel_rfl) (by rfl) (λ_ _ _ _ _ _ us h=>by
  first
   | (obtain⟨a,rfl⟩:=HI h; rfl)
   | (obtain⟨a,b,rfl⟩:=Hl h; rfl)
   | (obtain⟨a,b,c,rfl⟩:=HJ h; rfl)
   | (obtain⟨a,b,c,d,rfl⟩:=HK h; rfl)
   | (obtain⟨a,b,c,d,e,rfl⟩:=HL h; rfl)
   | (obtain⟨a,b,c,d,e,f,rfl⟩:=Jr h; rfl)
   | (obtain rfl:=HH h; rfl))) ?_
 exact gn
abbrev DX (p:Ks×Ks×Kt×Df):Prop:=eR (cX RT 20 (dZ yz (top p.2.2.1) p.2.2.2.N)) (aM (top p.2.2.1))=bt p.2.2.2.body/\FnScope p.2.2.2.N p.2.2.2.ps (ap (top p.2.2.1))/\dF.lookup p.2.1=bt p.2.2.2/\∃q∈TA,q.1=p.1/\q.2.1=p.2.2.1/\q.2.2.1.ps=p.2.2.2.ps
def J5 {p:Ks×Ks×Kt×Df}(a:eR (cX RT 20 (dZ yz (top p.2.2.1) p.2.2.2.N)) (aM (top p.2.2.1))=bt p.2.2.2.body)(b:FnScope p.2.2.2.N p.2.2.2.ps (ap (top p.2.2.1)))(c:dF.lookup p.2.1=bt p.2.2.2)(d:∃q∈TA,q.1=p.1/\q.2.1=p.2.2.1/\q.2.2.1.ps=p.2.2.2.ps):DX p:=#[a,b,c,d]
def Js {q:Tw}(h:q∈TW):q∈TA:=KW _ (KW _ h)
set_option maxHeartbeats 0 in
def BW:∀p∈TX,DX p:=by
 unfold TX;show gc (J5 (by kernel_rfl) #[rfl,rfl,rfl,by decide +kernel,rfl,by decide +kernel,by decide +kernel] (by kernel_rfl) #[_,Js (.head _),rfl,rfl,rfl]) ?_
 exact gn
def J6 {f:Ks}{m n:Kt}{b:Ss}(h:((dF.lookup f).map λd=>(d.ps.length,d.N.length,d.body))=bt (m,n,b)):Is dF f m n b:=by
 rw[Ko]at h;obtain⟨d,h1,h2⟩:=h;rw[Sh,Sh]at h2;exact#[d,h1,h2.1,h2.2.1,h2.2.2]
set_option maxHeartbeats 0 in
def Hm:Lw51 sH dF:=by
 repeat' first
  | exact J6 (by kernel_rfl)
  | constructor
def kI:∀(L:Kg Tw) (x:Ks) (n:Kt),(L.map λp=>(p.1,p.2.2.1.ps.length)).lookup x=bt n->∃p∈L,p.1=x/\p.2.2.1.ps.length=n/\(L.map λp=>(p.1,p.2.2.1)).lookup x=bt p.2.2.1
 | [],x,n,h=>by cases h
 | p::L,x,n,h=>by
  rw[Lz,K5]at h;rw[Lz,K5];cases e:x==p.1 with
  | true=>
   rw[e]at h;cases h;exact#[p,KP ..,(eq_of_beq e).symm,rfl,rfl]
  | false=>
   rw[e]at h;obtain⟨q,h1,h2,h3,h4⟩:=kI L x n h;exact#[q,KM _ h1,h2,h3,h4]
section
variable{P:KF}{w:KS}{K:Kr}{mg:Ks->Kk Ki}{base:K7}
abbrev yp (K:Kr)(mg:Ks->Kk Ki)(x:Ks)(st:LO)(df:Df):Prop:=∃(f:Kn) (fd:Lv),Fun K x x st f fd/\mg x=bt (.ref f)/\Lw K (.ref f)=true/\Binds K fd df.ps []
def EI {h:K7}{x:Ks}{st:LO}{df:Df}{f:Kn}{oc:Ki}{od an:Kk Kn}{osl:Ls (Kk Ki)}{kV doc pm cdv ct:Ki}(X:K.In h)(G:h.Ns mainGlobals mg)
  (b:BD x st df)
  (a:L7 K mainGlobals x=bt (bt (.ref f))) (l:K.lookup f=bt #[oc,od,.func (Mo x x (cf st) (aM st) (ap st) .none kV doc pm an cdv ct),osl]) (c:Ng K cdv x=true) (k:Lw K (.ref f)=true):yp K mg x st df:=
 have F:=pQ (st:=st) l c k
 #[f,_,F,Nt X G a,k,F.binds b]
def ni:∀(L:Kg (Ks×Ks×Kt×Df)) (x y:Ks) (n:Kt),(L.map λp=>(p.1,p.2.1,p.2.2.2.ps.length)).lookup x=bt (y,n)->∃p∈L,p.1=x/\p.2.1=y/\p.2.2.2.ps.length=n
 | [],x,y,n,h=>by cases h
 | p::L,x,y,n,h=>by
  rw[Lz,K5]at h;cases e:x==p.1 with
  | true=>
   rw[e]at h;cases h;exact#[p,KP ..,(eq_of_beq e).symm,rfl,rfl]
  | false=>
   rw[e]at h;obtain⟨q,h1,h2⟩:=ni L x y n h;exact#[q,KM _ h1,h2]
def nj {x:Ks}{df:Df}(h:(TA.map λp=>(p.1,p.2.2.1)).lookup x=bt df):dF.lookup x=bt df:=by
 unfold dF;rw[List.lookup_append,h];rfl
def yq {fuel:Kt}(hb:MdOk w K mg yz)(D:∀p∈TA,yp K mg p.1 (top p.2.1) p.2.2.1)(Zx:XCls K mg base yo sH)(ck:∀c k,RT.lookup c=bt k->CK P w K mg base sH c k):∀d,rX P w K mg base yz dF fuel d/\G3 P w K mg base Hk sH dF fuel d
 | 0=>by
  show#[λf n h=>?_,λf f' n h=>?_]
  ·obtain⟨p,h1,rfl,h2,h3⟩:=kI TA f n h;obtain⟨fa,fd,F,m,kp,b⟩:=D p h1;show#[fa,fd,p.2.2.1.ps,#[λvs H Q E z=>?_,λA outer s H args us vs Q E hr he hbd hv z=>?_],m,kp,b]
   all_goals
    obtain⟨_,_,_,_,_,_,_,_,z,_⟩:=z;cases z
  ·obtain⟨p,h1,rfl,rfl,h2⟩:=ni TX f f' n h;obtain⟨_,_,_,q,hq,e1,e2,e3⟩:=BW p h1;obtain⟨fa,fd,F,m,kp,b⟩:=D q hq;rw[e1]at m;show#[fa,fd,q.2.2.1.ps,#[λvs H Q E z=>?_,λA outer s H args us vs Q E hr he hbd hv z=>?_],m,kp,b]
   all_goals
    rcases z with⟨_,_,_,_,_,_,_,_,z,_⟩|⟨_,_,_,_,_,_,_,_,_,_,_,z,_⟩
    ·cases z
    ·cases z
 | d+1=>by
  obtain⟨ih,ix⟩:=yq hb D Zx ck d;show#[λf n h=>?_,λf f' n h=>?_]
  ·obtain⟨p,h1,rfl,h2,h3⟩:=kI TA f n h;rcases Lb.mp h1 with q|q
   ·obtain⟨g1,g2,_⟩:=BS p q;obtain⟨fa,fd,F,m,kp,b⟩:=D p h1;show#[fa,fd,p.2.2.1.ps,?_,m,kp,b];rw[<- h2];exact BA F g2 (nj h3) g1 hb ih
   ·rcases Lb.mp q with q|q
    ·obtain⟨g1,g2,_⟩:=BU p q;obtain⟨fa,fd,F,m,kp,b⟩:=D p h1;show#[fa,fd,p.2.2.1.ps,?_,m,kp,b];rw[<- h2];exact Ea F g2 (nj h3) g1 hb ih ix Zx
    ·obtain⟨⟨f',g1,g2⟩,_⟩:=BV p q;obtain⟨fa,fd,ps,F,m,kp,b⟩:=ix p.1 f' _ g1;rw[h2]at F g2;exact#[fa,fd,ps,DU F (nj h3) h2 g2 (MF _),m,kp,b]
  ·obtain⟨p,h1,rfl,rfl,h2⟩:=ni TX f f' n h;obtain⟨g1,g2,g3,q,hq,e1,e2,e3⟩:=BW p h1;obtain⟨fa,fd,F,m,kp,b⟩:=D q hq;rw[e1]at m;rw[e2]at F;rw[e3]at b;show#[fa,fd,p.2.2.2.ps,?_,m,kp,b];rw[<- h2];exact DS F g2 g3 g1 hb ih ck
abbrev CE (K:Kr)(p:Ks×W):Prop:=∃v u,L7 K mainGlobals p.1=bt (bt u)/\RelV v u/\∀A H,Rel K A H p.2 v
def yr {x:Ks}{w:W}:∀ {l:Kg (Ks×W)},l.lookup x=bt w->(x,w)∈l
 | [],h=>nomatch h
 | (y,v)::l,h=>by
  rw[K5]at h;split at h
  ·rename_i e;cases h;have:=eq_of_beq e;subst this;exact KP
  ·exact KM _ (yr h)
def jr {u:Ki}{z:Ks}(h:L2.sM u=bt (V.str z)):RelV (.str z) u:=by
 cases u with
 | str x t=>cases h; exact#[_,rfl]
 | _=>cases h
def pf:∀ {us:Kg Ki} {zs:Kg Ks},us.map L2.sM=zs.map (λz=>bt (V.str z))->Vals (zs.map V.str) us
 | [],[],_=>.nil
 | [],_::_,h=>by cases h
 | _::_,[],h=>by cases h
 | u::us,z::zs,h=>by
  rw[Lz,Lz]at h;injection h with h1 h2
  exact .cons (jr h1) (pf h2)
def yt {A:Kg Kn}{H:Hp}:∀zs:Kg Ks,RelL K A H (zs.map W.str) (zs.map V.str)
 | []=>.nil
 | _::zs=>.cons .str (yt zs)
def yu {x:Ks}{zs:Kg Ks}{a:Kn}{its:Ls Ki}{n:Kt}(e:L7 K mainGlobals x=bt (bt (.ref a)))(l:K.lookup a=bt #[.type "tuple",gV,.seq its n,#[]])(hz:its.size<=1000)(hv:its.toList.map L2.sM=zs.map (λz=>bt (V.str z))):CE K (x,.tup (zs.map W.str)):=
 #[.ref a,.ref a,e,rfl,λA H=>.tup (.inr #[_,its,n,l,rfl,rfl,rfl,KJ hz (cM rfl),pf hv]) (yt zs)]
def Hn {x:Ks}{z:Ks}{t:Kt}(e:L7 K mainGlobals x=bt (bt (.str z t))):CE K (x,.str z):=#[.str z,_,e,#[_,rfl],λ_ _=>.str]
def yv {x:Ks}{z:KD}{t:Kt}(e:L7 K mainGlobals x=bt (bt (.int z t))):CE K (x,.int z):=#[.int z,_,e,#[_,rfl],λ_ _=>.int]
abbrev Ho (w:KS)(e:MG)(p:Ks×Ks):Prop:=e.hash=hashStr w p.1/\L2.sM e.key=bt (V.str p.1)/\L2.sM e.val=bt (V.str p.2)
inductive EntsOk (w:KS):Kg MG->Kg (Ks×Ks)->Prop
 | nil:EntsOk w [] []
 | cons {e:MG} {p:Ks×Ks} {es:Kg MG} {ps:Kg (Ks×Ks)}:Ho w e p->EntsOk w es ps->EntsOk w (e::es) (p::ps)
def EntsOk.key {w:KS}:∀ {es:Kg MG} {ps:Kg (Ks×Ks)},EntsOk w es ps->∀e∈es,∃k t,e.key=.str k t/\e.hash=hashStr w k
 | _,_,.nil,e,he=>nomatch he
 | _,_,.cons h t,e,he=>by
  rcases Kx.mp he with rfl|he
  ·obtain⟨tk,ek⟩:=jr h.2.1;exact#[_,tk,ek,h.1]
  ·exact t.key e he
def EntsOk.find {w:KS}{k:Ks}:∀ {es:Kg MG} {ps:Kg (Ks×Ks)},EntsOk w es ps->(∀v,(ps.map λp=>(p.1,W.str p.2)).lookup k=bt v->∃e y t,es.find? (λe=>MB k e.key)=bt e/\e.val=.str y t/\v=.str y)/\(es.find? (λe=>MB k e.key)).isSome=((ps.map λp=>(p.1,W.str p.2)).lookup k).isSome
 | _,_,.nil=>#[λv h=>(nomatch h),rfl]
 | e::es,p::ps,.cons h t=>by
  obtain⟨tk,ek⟩:=jr h.2.1;obtain⟨tv,ev⟩:=jr h.2.2;rw[Lz,K5,NP,ek]
  by_cases hk:k=p.1
  ·subst hk;rw[Li,show MB p.1 (.str p.1 tk)=true from Li _]
   exact#[λv hl=>(by cases hl; exact#[e,_,tv,rfl,ev,rfl]),rfl]
  ·rw[show(k==p.1)=false from Mu hk,show MB k (.str p.1 tk)=false from Mu (Ne.symm hk)]
   exact t.find
abbrev Jt (w:KS)(K:Kr)(p:Ks×Kg (Ks×W)):Prop:=∃(a:Kn) (es:Ls MG) (ep:Kt) (ps:Kg (Ks×Ks)),L7 K mainGlobals p.1=bt (bt (.ref a))/\K.lookup a=bt #[.type "dict",gV,.dict es ep,#[]]/\EntsOk w es.toList ps/\p.2=ps.map (λp=>(p.1,W.str p.2))/\(a==sysModules)=false
def Hq {h:K7}{x:Ks}{U:Kg (Ks×W)}(X:K.In h)(G:h.Ns mainGlobals mg)(g:Jt w K (x,U))(Yj:Cx)(hw:Yj.w=w)(hK:Yj.K=K)(hm:Yj.mg=mg):qv Yj x U:=by
 subst hw hK hm;obtain⟨a,es,ep,ps,e,l,hv,e2,hs⟩:=g;have e2:U=ps.map (λp=>(p.1,W.str p.2)):=e2
 subst e2;show#[a,_,es,ep,Nt X G e,l,#[rfl,rfl,rfl],rfl,λe he=>hv.key e (by simpa using he),λk v hk=>?_,hs,λk=>?_]
 ·obtain⟨e,y,t,h1,h2,rfl⟩:=(hv.find (k:=k)).1 v hk;show#[.str y,.str y t,?_,#[t,rfl],λA H=>.str]
  unfold findBy;rw[<- Oz,h1];exact congrArg bt h2
 ·unfold findBy;rw[Option.isSome_map,<- Oz];exact(hv.find (k:=k)).2
def Hr {h:K7}(X:K.In h)(G:h.Ns mainGlobals mg)(z:∀y∈AX,L7 K mainGlobals y=bt gV)(c:∀p∈AY,CE K p)(g:∀p∈AZ,Jt w K p):MdOk w K mg yz:=#[λy hy=>PySem.W.mg_none_of X G (z y hy),λYj h1 h2 h3 x v h=>by
 subst h2 h3;obtain⟨v',u,e,r,q⟩:=c _ (yr h);exact#[v',u,Nt X G e,r,q],λYj h1 h2 h3 x v h=>Hq X G (g _ (eW h)) Yj h1 h2 h3]
end
def EJ {l:Pd}{w:KS}{K:Kr}{h:K7}{mg:Ks->Kk Ki}{fa f:Kn}(X:K.In h)(G:h.Ns mainGlobals mg)(hfa:mg "law" = bt (.ref fa))(hb:MdOk w K mg yz)(D:∀p∈TA,yp K mg p.1 (top p.2.1) p.2.2.1)(Zx:∀base:K7,K.In base->XCls K mg base yo sH)(ck:∀(base:K7) c k,RT.lookup c=bt k->CK l.prog w K mg base sH c k)
  {oc:Ki} {od an:Kk Kn} {osl:Ls (Kk Ki)} {kV doc pm cdv ct:Ki} (a:L7 K mainGlobals "law" = bt (bt (.ref f))) (l':K.lookup f=bt #[oc,od,.func (Mo "law" "law" (cf (top 48)) (aM (top 48)) (ap (top 48)) .none kV doc pm an cdv ct),osl]) (c:Ng K cdv "law" = true) (k:Lw K (.ref f)=true) :
  ∃fd:Lv,(∀(s:Km) (v:Ki),Qn s fd #[[v],[]] [("_law_script",v)])/\∀base:K7,K.In base->base.Ns mainGlobals mg->FnOk l.prog w K mg base jF 10 fa fd ["_law_script"] (spF w K 1 (aj dF 100 8 "law")):=by
 have e:=hfa.symm.trans (Nt X G a);cases e;have F:=pQ (st:=top 48) l' c k;exact#[Mo "law" "law" (cf (top 48)) (aM (top 48)) (ap (top 48)) .none kV doc pm an cdv ct,λs v=>.of_eq rfl,λbase kb _=>BA (df:=BR) F #[rfl,rfl,rfl,by decide +kernel,rfl,by decide +kernel,by decide +kernel] (by rfl) (by rfl) hb (yq hb D (Zx base kb) (ck base) 7).1]
def Ju {l:Pd}{q:KF}{loose:Kg Ks}{XP:(Ks->Kk Ki)->K7->Prop}{YP:KS->K7->Prop}{d:DefRec}{K:Od->Kr}(hn:l.most=bt 63)(hdf:d.params.defaults=[])
  (hY:∀(w:KS) (h:K7),YP w h->(K w.params).In h)
  (F:∀(w:KS) (mg:Ks->Kk Ki) (fa:Kn) (h:K7),(K w.params).In h->h.Ns mainGlobals mg->mg d.name=bt (.ref fa)->
   ∃fd:Lv,(∀(s:Km) (u:Ki),Qn s fd #[[u],[]] [("_law_script",u)])/\∀base:K7,(K w.params).In base->base.Ns mainGlobals mg->FnOk l.prog w (K w.params) mg base jF 10 fa fd ["_law_script"] (spF w (K w.params) 1 (aj dF 100 8 "law"))) :
  R9 q loose XP YP l.row.toRowW d [] (λf vs=>RG f vs):=
 L2.y6 (n:=63) (k:=10) (x:="_law_script") (CX:=λ_=>jF) (sp:=λw=>spF w (K w.params) 1 (aj dF 100 8 "law")) hn #v[] hdf #[rfl,#v[],#v[]] hY F
  (λw H a ns hl hO hS=>Dv (yn (defs:=dF) (fuel:=100) (d:=0) #v[] (cl:=sH) (C:=101) rfl Hm) hO hS) λ_ _ _ _ _ z=>z
end Mi
open PySem PySem.W PyProof.Rows L2
namespace Mi
section
abbrev EL (K:Kr)(p:Tw):Prop:=L7 K mainGlobals p.1=bt (bt (.ref p.2.2.2))/\K.lookup p.2.2.2=bt (kf p.2.2.2 (top p.2.1) p.1 (IC p.2.1) (.ref (p.2.2.2 - 1))).2/\Ng K (.ref (p.2.2.2 - 1)) p.1=true/\Lw K (.ref p.2.2.2)=true
def J7 {K:Kr}{p:Tw}(e:L7 K mainGlobals p.1=bt (bt (.ref p.2.2.2)))(l:K.lookup p.2.2.2=bt (kf p.2.2.2 (top p.2.1) p.1 (IC p.2.1) (.ref (p.2.2.2 - 1))).2)(c:Ng K (.ref (p.2.2.2 - 1)) p.1=true)(k:Lw K (.ref p.2.2.2)=true):EL K p:=#[e,l,c,k]
def Hs (P:Od):∀p∈TA,EL (K0 P) p:=by
 unfold TA TL TT TW;dsimp only[List.cons_append,Pc]
 repeat show gc (J7 (by kernel_rfl) (by kernel_rfl) (by kernel_rfl) (by kernel_rfl)) ?_
 exact gn
def Ht (P:Od):∀y∈AX,L7 (K0 P) mainGlobals y=bt gV:=by
 unfold AX
 repeat show gc (F:=λy=>L7 (K0 P) mainGlobals y=bt gV) (by kernel_rfl) ?_
 exact gn
def Hu (P:Od):∀p∈AY,CE (K0 P) p:=by
 unfold AY;show gc (Hn (t:=341) (by kernel_rfl)) ?_
 show gc (yv (t:=343) (by kernel_rfl)) ?_
 show gc (yu (a:=130) (its:=Be.toArray) (n:=0) (by kernel_rfl) (by kernel_rfl) (Ku rfl) rfl) ?_
 show gc (yv (t:=363) (by kernel_rfl)) ?_
 show gc (yv (t:=365) (by kernel_rfl)) ?_
 show gc (yu (a:=136) (its:=Bf.toArray) (n:=0) (by kernel_rfl) (by kernel_rfl) (Ku rfl) rfl) ?_
 show gc (yu (a:=137) (its:=Bg.toArray) (n:=0) (by kernel_rfl) (by kernel_rfl) (Ku rfl) rfl) ?_
 exact gn
def Hv (w:KS):∀p∈AZ,Jt w (K0 w.params) p:=by
 unfold AZ;show gc #[138,(Bh w.params).toArray,8,cN,by kernel_rfl,by kernel_rfl,.cons #[rfl,rfl,rfl] (.cons #[rfl,rfl,rfl] (.cons #[rfl,rfl,rfl] (.cons #[rfl,rfl,rfl] (.cons #[rfl,rfl,rfl] (.cons #[rfl,rfl,rfl] (.cons #[rfl,rfl,rfl] (.cons #[rfl,rfl,rfl] (.nil)))))))),rfl,rfl] ?_
 exact gn
def J8:∀p∈TA,BD p.1 (top p.2.1) p.2.2.1:=λp hp=>(Lb.mp hp).elim (λq=>(BS p q).2.2) λq=>(Lb.mp q).elim (λq=>(BU p q).2.2) λq=>(BV p q).2
def J9 (P:Od):Xc.XL (K0 P) 24 (.type "type"):=#[by kernel_rfl,by kernel_rfl,by kernel_rfl]
def cR (P:Od):XE (K0 P) 101 100 98 "NoSentence" [(.ref 24)] [(.ref 24),(.type "ValueError"),(.type "Exception"),(.type "BaseException"),(.type "object")] [] 85 282 290 ["row"]:=
 #[by kernel_rfl,by kernel_rfl,by kernel_rfl,by kernel_rfl,by kernel_rfl,by kernel_rfl,by kernel_rfl,by kernel_rfl,by kernel_rfl,by kernel_rfl,by kernel_rfl,by kernel_rfl,by kernel_rfl,by kernel_rfl,by kernel_rfl]
abbrev JL (K:Kr)(q:Ks×Kn):Prop:=L7 K mainGlobals q.1=bt (bt (.ref q.2))/\DK K q.2/\∀p∈RL,P1 K (.ref p.2.1) (.ref q.2)=bt (eV p.1 q.1)/\(!(KZ p.2.1==KZ q.2)||eV p.1 q.1)=true
def Kb {K:Kr}{q:Ks×Kn}(a:L7 K mainGlobals q.1=bt (bt (.ref q.2)))(b:DK K q.2)(c:∀p∈RL,P1 K (.ref p.2.1) (.ref q.2)=bt (eV p.1 q.1)/\(!(KZ p.2.1==KZ q.2)||eV p.1 q.1)=true):JL K q:=#[a,b,c]
def Kc (P:Od):∀q∈Jp,JL (K0 P) q:=by
 unfold Jp
 repeat show gc (Kb (by kernel_rfl) #[by kernel_rfl,by kernel_rfl,by kernel_rfl,by kernel_rfl] (gc #[by kernel_rfl,by kernel_rfl] gn)) ?_
 exact gn
def Kd {w:KS}{mg:Ks->Kk Ki}{h:K7}(KX:(K0 w.params).In h)(G:h.Ns mainGlobals mg)(base:K7)(kb:(K0 w.params).In base):XCls (K0 w.params) mg base yo sH:=by
 have a:∀p∈RL,(∃cd,Xc.XK (K0 w.params) p.2.1 cd)/\base.get? p.2.1≠gV/\Xc.XT (K0 w.params) p.2.1 (.type "ValueError") true/\∀g∈p.2.2,Nl (K0 w.params) (.ref p.2.1) g=bt gV:=(gc ((cR w.params).all kb) gn);show#[λcn C gs hc=>a _ (eW hc),λD hD=>?_]
 obtain⟨q,hq,rfl⟩:=MD.mp hD;obtain⟨e,dk,x⟩:=Kc w.params q hq;exact#[q.2,Nt KX G e,dk.xd,λcn C gs hc=>let ⟨x1,x2⟩:=x _ (eW hc); dk.xt x1 x2]
def kJ {P:KF}{w:KS}{mg:Ks->Kk Ki}{h:K7}(KX:(K0 w.params).In h)(G:h.Ns mainGlobals mg)(base:K7):CK P w (K0 w.params) mg base sH "NoSentence" 1:=by
 have F:=(pQ (st:=ID 5) (oc:=.type "function") (od:=gV) (an:=gV) (osl:=#[]) (kV:=.none) (doc:=.none) (pm:=(.str "layworld.errors" 187)) (cdv:=(.ref 97)) (ct:=.none) (by kernel_rfl) (by kernel_rfl) (by kernel_rfl):Fun (K0 w.params) "__init__" "NoSentence.__init__" (ID 5) 98 _)
 have hm:mg "LayError" = bt (.ref 24):=Nt KX G (by kernel_rfl)
 obtain⟨cd,m⟩:=(cR w.params).xm;exact .one m ((cR w.params).fd _ KP) (Eb (k:=0) F #[rfl,rfl,rfl,by decide +kernel,rfl,by decide +kernel,by decide +kernel] #[_,_,_,_,_,_,_,_,_,_,rfl,rfl] rfl rfl rfl hm (J9 _) #v[] #v[] #v[] #v[] #v[]) (Nt KX G (by kernel_rfl)) (F.binds λ_ _ _ _ _ _ us h=>by obtain⟨a,b,rfl⟩:=Hl h; rfl) rfl
def Ke {P:KF}{w:KS}{mg:Ks->Kk Ki}{h:K7}(KX:(K0 w.params).In h)(G:h.Ns mainGlobals mg)(base:K7):∀c k,RT.lookup c=bt k->CK P w (K0 w.params) mg base sH c k:=λc k h=>
 have a:∀p∈RT,CK P w (K0 w.params) mg base sH p.1 p.2:=(gc (kJ KX G base) gn)
 a _ (eW h)
end
end Mi
end
end ZZ.Lean
open ZZ.Lean
theorem PySem.Challenge.cw_layworld_k51_sentences_looked_at_holds : PySem.Challenge.rw_layworld_k51_sentences_looked_at.Holds := by
 w_on
 show PySem.W.holds_law (Ld (Ld (Ld (Ld (Ld (Ld (Ld (Ld (Ld (Ld (Ld (Ld (Ld (Ld (Ld (Ld (Ld (Ld (Mi.s0) (by kernel_rfl)) (by kernel_rfl)) (by kernel_rfl)) (by kernel_rfl)) (by kernel_rfl)) (by kernel_rfl)) (by kernel_rfl)) (by kernel_rfl)) (by kernel_rfl)) (by kernel_rfl)) (by kernel_rfl)) (by kernel_rfl)) (by kernel_rfl)) (by kernel_rfl)) (by kernel_rfl)) (by kernel_rfl)) (by kernel_rfl)) (by kernel_rfl)) (λsaid=>?_)
 show PySem.W.holds_open (q:=Mi.vq) (loose:=Mi.lo) (Xt:=λs=>Qx Mi.vq [] s&&PX [] s) (XP:=PySem.W.XL Mi.vq []) (Yf:=Mi.hk.obs) (Ya:=Mi.hk.val) (YP:=Mi.hk.says) (N:=5274) Mi.hl Mi.hk.of Mi.hk.keeps (λs e=>PySem.W.xl_of s (Py.mp e).1) TC (by rfl) (by rfl) (by rfl) (λs e=>PySem.W.recFacts_of (Py.mp e).2) (by rfl) said (by decide +kernel) #[rfl,rfl,rfl,rfl,rfl,by decide +kernel] ?hw ?hc
 case hw=>w_witness2
 case hc=>
 show Mi.Ju (l:=Ou) (K:=Mi.K0) rfl rfl (λw h Yj=>PySem.W.kIn_of Yj) ?F
 case F=>
  intro w mg fa h KX G hmg;exact Mi.EJ KX G hmg (Mi.Hr KX G (Mi.Ht w.params) (Mi.Hu w.params) (Mi.Hv w)) (λp hp=>let ⟨e,l,c,k⟩:=Mi.Hs w.params p hp; Mi.EI KX G (Mi.J8 p hp) e l c k) (Mi.Kd KX G) (Mi.Ke KX G)
   (f:=318) (oc:=.type "function") (od:=gV) (an:=gV) (osl:=#[]) (kV:=.none) (doc:=.none) (pm:=(.str "law_layworld_k51_sentences_looked_at" 444)) (cdv:=.ref 317) (ct:=.none) (by kernel_rfl) (by kernel_rfl) (by kernel_rfl) (by kernel_rfl)
