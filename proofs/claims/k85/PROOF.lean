import PyProof.Rows.All
import Wide.All
import OpenK.AllK
import Wide.FinOn
import Lean
import PyProof.EqAt
import PyProof.EqKinds
import PyProof.TupleCall
import PySem.Challenge.RW_layworld_k85_whole_laid_over_what_is_com
import KE.KDictList
import PyProof.SetKind
import PyProof.IsRules
import KE.KSortTup
import PyProof.Rows.SetFrom
import PyProof.MinMaxWalk
import PyProof.WalkInts
import PyProof.ZipIter
import PyProof.Draws
import PyProof.AttrMissHeap
import PyProof.AttrMissSeq
import KE.KDictOf
import PyProof.EnumMake
import PyProof.WalksEnum
noncomputable section
open Option renaming some->ba,none->dx
set_option hygiene false
local macro_rules|`(abbrev $i:declId $s:optDeclSig $v:declVal)=>`(noncomputable def $i:declId $s:optDeclSig $v:declVal)|`(def $i:declId $b* :$t $v:declVal)=>`(theorem $i:declId $b* :$t $v:declVal)|`(tactic|omega)=>`(tactic|first|lia|omega (config:={}))|`(tactic|show $e:term)=>`(tactic|refine $e:term)|`(↥$x)=>`(($x).length)|`(⇑$x)=>`(($x).size)|`(tactic|delta $x*)=>`(tactic|dsimp only[$[$x:ident],*])|`(tactic|revert $x*)=>`(tactic|simp only[$[$x:term],*])|`(tactic|left)=>`(tactic|dsimp only[wS,wE,wA,wV,wG,List.set])|`(tactic|nofun)=>`(tactic|refine aK λK hK=>?_)
local macro_rules|`(#v[])=>`((by decide))|`(#v[$x:term])=>`(.cons $x .nil)|`(#v[$x:term,$y:term,*])=>`(.cons $x #v[$y,*])
local macro_rules|`(#[$x:term])=>`(⟨$x⟩)|`(#[$x:term,$y:term,*])=>`(⟨$x,$y,*⟩)
local macro_rules|`(∅)=>`((by omega))
open _root_ renaming List->Ny,Nat->NF,Option->NJ,Int->NV,if_pos->Ob,decide_eq_true_eq->Og,Bool->Oh,beq_self_eq_true->Os,if_neg->Ot,decide_eq_false->Oy,of_decide_eq_true->OC,decide_eq_true->OS,Array->OU,False->Pg,String->Pn,of_decide_eq_false->PB,or_false->PJ,beq_eq_false_iff_ne->QP,DecidableEq->Ro,decide_eq_decide->To,if_false->Tq,decide_eq_false_iff_not->Ts,not_or->UB,forall_congr'->UZ,if_true->Vq,bne_self_eq_false->VB,True->Wm,dif_pos->XV
open List renaming length_map->Nz,length_append->NE,set->NG,getElem?_eq_getElem->NK,getD_eq_getElem?_getD->NL,getElem?_map->NO,range->NQ,mem_map->NS,mem_singleton->NT,mem_range->NU,zipWith->NW,getElem?_eq_some_iff->NZ,mem_of_getElem?->N1,map_append->N3,size_toArray->N4,all_eq_true->N6,length_range->N7,mem_append->Oa,mem_cons->Of,mem_append_right->Oj,take_add_one->Ol,length_take->Om,length_cons->On,mem_append_left->Oo,length_singleton->Oq,take_length->Ou,getElem?_append_left->Ow,getElem?_append_right->Ox,append_nil->Oz,replicate->OB,getElem_mem->OE,not_mem_nil->OH,map_map->OL,map_congr_left->ON,append_assoc->OO,map_cons->OP,all_cons->OV,mem_flatMap->OX,mem_filter->OY,nodup_append->OZ,mem_cons_of_mem->O1,getElem?_range->O8,idxOf_lt_length_of_mem->Pb,range_succ->Pe,mem_iff_getElem->Pk,nodup_cons->Pp,getElem_of_mem->Pq,mem_cons_self->Py,any_cons->PC,getElem_inj->PD,getElem?_eq_none_iff->PH,eq_nil_of_length_eq_zero->PL,length_filter_le->PM,length_nil->PN,ext_getElem->PV,lookup_cons->PY,findIdx?_eq_some_iff_getElem->PZ,getElem?_set->P2,getElem_take->P3,pairwise_map->P4,length_zipWith->P5,flatMap_append->P6,mem_of_find?_eq_some->P8,any_eq_true->Qe,find?_eq_none->Qf,mem_of_mem_take->Ql,take_zero->Qm,flatMap_cons->Qo,nodup_iff_pairwise_ne->Qw,map_singleton->Qx,length_dropLast->QK,filterMap_cons->QQ,length_eq_zero_iff->QT,nodup_range->QV,take_of_length_le->Rb,filter_append->Rc,dropLast_concat_getLast->Rf,length_zip->Rg,map_take->Rh,getElem?_eq_none->Ri,any_eq_false->Rm,pairwise_append->Rs,length_drop->Rt,getElem_map->Ru,replicate_succ->RA,mem_map_of_mem->RE,getElem?_take_of_lt->RH,forIn_cons->RO,zip_cons_cons->RQ,mem_eraseDups->RV,getElem_idxOf->RW,mem_singleton_self->RY,reverse_cons->R5,take_append_drop->R9,getElem_zip->Sf,find?_cons->Si,find?_some->Sj,length_reverse->So,mem_filterMap->Sv,getElem_range->SM,exists_mem_of_ne_nil->SQ,pairwise_iff_getElem->SR,all_eq_false->SX,range'->SZ,find?_range_eq_some->Th,flatMap_nil->Tv,filter_cons_of_pos->Tx,filter_cons_of_neg->Tz,map_fst_zip->TB,getElem?_set_self->TD,range_succ_eq_map->TM,length_pos_of_mem->TY,drop_of_length_le->TZ,pairwise_lt_range->T3,of_mem_zip->T6,nil_append->T8,append_inj->Uh,length_replicate->Uj,getElem?_set_ne->Ut,nodup_nil->UA,dropLast_concat->UF,idxOf_eq_length->UG,length_zipIdx->Ve,getElem?_take->Vg,ne_nil_of_mem->Vh,take_sublist->Vo,flatten_cons->Vs,zip_nil_left->Vy,ext_getElem?->VC,mem_range'_1->VG,reverse_perm->VH,any_toArray->VR,map_snd_zip->VS,range'_succ->VW,drop_length->VX,isEmpty_iff->VY,cons_ne_nil->VZ,cons_append->V0,perm_middle->V3,foldr_cons->Wf,drop_left'->Wg,take_left'->Wh,idxOf_cons->Wj,zip_append->Wk,forIn_nil->WD,drop_zero->WF,any_map->Xb,map_nil->Xe,length->Xi,map_id->Xu,foldl->XM,Nodup->XS,map->Yd
open PySem renaming wpAny_bind->NA,Value->NC,Shared->NH,wpAny_pure->NN,Addr->NR,Str->Oc,Expr->Oi,Program->Op,Around->OD,World->OF,Heap->OM,wpAny_newObj_type->OQ,wpAny_callSpecial?_slot->OW,sizeLine_eq->O4,wpAny_field->O7,wpAny_holding->Pc,wpAny_call_entry->Pd,codeAny_builtin->Ph,Spec->Pr,Obj->Ps,wpAny_truthy_bool->Pu,wpAny_seqItems->Pz,wpAny_mono->PK,NameKind->PU,DictEntry->Qb,plainId_quiet->Qg,wpAny_typeNameOfWhole_keyiter->Qi,Pos->Qr,FuncData->Qs,wpAny_setField_rec->Qv,wpAny_passesOwn->QA,Stmt->QG,wpAny_pyIter_list->QI,wpAny_typeNameOf_keyiter->QM,mem_of_lookup->QR,Scope->QX,wpAny_typeOf->QZ,call_meets->Q8,Builtin->Rk,wpAny_letGo->Rq,wpAny_attempt->RK,wpAny_loadPart'->RN,wpAny_Call_Name_kw->RP,wpAny_pyIter_tuple->RT,codeAny_mono->RZ,IsPart->R1,wpAny_dictEntries->R3,wpAny_tryCatch->R4,IsPair->R6,wpAny_isInstance->Se,wpAny_standAt->Sg,wpAny_rule->Sy,wpAny_setField->SE,wpAny_runValue->SF,wpAny_newTuple->SH,wpAny_sequenceKey->SV,wpAny_of_eq->SW,wpAny_pyIter_enum->Ta,wpAny_comprehension_free->Te,noFill_tuple_add->Tj,wpAny_forIn_list->Tp,Paired->TC,wpAny_pyNext_list_item->TF,ItemsOf->TQ,wpAny_nextOf_list_item->TV,wpAny_execs_nil->T4,codeAny_of_tree->Uc,wpAny_dictEpoch->Ud,wpAny_updateSeq->Ue,wpAny_pyNext_list_end->Ui,wpAny_notOrdered_dict->Ul,wpAny_isOneOf_keyiter->Uo,wpAny_nextOf_list_end->Uq,GenState->Us,Params->Uu,isSubtype_stop->Uw,wpAny_pyIter_keyiter->Ux,wpAny_updateSeq_pair->UC,PassesOwn->UL,rangeSize_one->UR,seq_tuple_add->US,wpAny_newList->UX,wpAny_load->U6,Result->U7,sub_AttributeError->Vd,wpAny_assign_Name->Vk,Operator->Vm,BindsTo->Vn,concat_meets->Vp,seqIndex_neg->Vr,list_append->Vt,Env->VI,wpAny_pyHash_int->VL,wpAny_pyHash_str->VM,CmpOp->V4,seqIndex_of->V5,wpAny_mkInt->V7,am_miss_of_fast->We,Keyword->Wl,wpAny_Name->Wn,wpAny_bindName->Wo,typeIs_int->Wt,fitsIndex_both->Wv,call->Wx,SetTable->Wy,wpAny_fieldsOf->WB,callType_codes->WC,callType_newIn->WE,intBits_le_64->WJ,call_list_seq->WL,wpAny_handled->WQ,wpAny_onRaise->WR,Sem->WW,small_one->WX,IsZip->W0,call_range_1->W4,call_range_2->W5,call_meetsIn->Xa,IsRangeIter->Xh,wpAny_Slice->Xk,wpAny_alloc->Xq,wpAny_throw->Xr,Tok->XE,BoolOp->XQ,IsEnum->XR,Model->XT,IsRange->XW,Drawn->X6,Walks->Yb
open Option renaming map_eq_some_iff->NB,map_some->OJ,isSome_iff_exists->O3,getD_some->Qc,map->Rr,toList->WT
open PySem.Heap renaming get?_push_of_some->ND,get?_push_size->N2,lt_size->N8,get?_update_other->Pa,size_push->Qk,get?_update_self->Qz,SameBut->QF,get?_update_ne->RC,ExtBut->Uv,size_update->VU
open Bool renaming and_eq_true->NM,false_ne_true->OG,or_eq_true->PP,eq_iff_iff->Qp,not_eq_true'->QJ,true_and->QN,false_eq_true->Ra,eq_false_iff->Rn,and_eq_false_iff->R8,false_or->Sh,and_eq_true_iff->UH,and_true->UW,not_not->VF,noConfusion->VQ,false_and->Wq,and_false->Wu,or_false->WK
open Nat renaming le_refl->NP,lt_of_lt_of_le->N5,le_trans->N9,ne_of_lt->Oe,le_of_ble_eq_true->OA,ne_of_gt->O2,lt_irrefl->Pf,zero_le->Pj,lt_trans->Pw,lt_succ_of_lt->Px,lt_succ_self->PX,not_lt_zero->P7,le_add_right->Qa,sub_self->Qh,le_of_lt->QE,le_succ->QY,min_self->Q9,lt_or_gt_of_ne->Re,le_succ_of_le->Rj,lt_of_le_of_lt->SJ,min_eq_right->Tk,min_le_right->Tl,succ_le_succ->Tn,not_lt->TJ,succ_mul->TK,lt_of_succ_lt_succ->TN,lt_or_ge->TU,min_eq_left->T7,mul_le_mul_right->UD,pow_le_pow_right->UE,pow_le_pow_left->UQ,succ_le_of_lt->Vu,add_comm->Vw,le_of_eq->Vx,lt_trichotomy->VE,mul_le_mul->WG,add_assoc->WP,sub_zero->W8,sub_le->XG,ble->Yj
open Int renaming natCast_nonneg->NX,toNat_natCast->Od,emod_lt_of_pos->Qd,eq_ofNat_of_zero_le->Qn,toNat_of_nonneg->Qq,emod_nonneg->QD,ofNat_lt->QH,zero_add->Rv,ediv_nonneg->Sk,le_add_of_nonneg_right->SL,ediv_eq_zero_of_lt->T0,natCast_mul->Ub,ediv_lt_of_lt_mul->Ur,emod_eq_of_lt->VD,min_eq_left->V9,natCast_add->Wi,ofNat_le->W6,ediv_one->W7,le_of_lt->Xc,lt_toNat->Xd,not_lt->XF
open PySem.W renaming Frag->NY,look_both->OR,keepIn->Po,fnOf->P0,kia_one->QC,codeIn->QS,nsIn->Rw,cellsFrom_some->TH,OpenLaw->T9,kat_nil->Ug,KdlSrc->Uy,kas_sort->VT,WalkO->WM,recOk->WN,mg_of->WV,xlAt->W9
open Array renaming length_toList->Ov,getElem?_toList->O6,getElem?_eq_some_iff->Qu,getElem?_eq_getElem->Rz,perm_iff_toList_perm->SG,getElem?_eq_none_iff->SI,append_assoc->U4,forIn_toList->Va,toList->W3,getD->XO
open Option.some renaming injEq->OI,inj->OT
open PySem.Value renaming ref->O0,none->P9,type->QL,bool->Sc,str->Su,int->UI,isStrOf_shape->UO,isInt_shape->Vj,isStrOf->WI,builtin->WS,isInt->Xf
open PyProof.Rows renaming callWith_type1->O9,slot_tuple_getitem->Pi,subscriptTail_builtinR->Q7,entry_tuple_getitem->Sl,assignInOrder_cons->Sx,slicePart_none->SA,args_tuple_getitem->SD,AllBare->SS,listUpdate_at->Tb,IsTup->Ti,get?_update_seq->Uf,SortKind->Uz,IntsAre->UM,lt_int->UP,tupleItemsOf_->UT,assignInOrder_nil->Vl,listItems_at->VA,callWith_builtin1->VN,seqEpoch_at->V8,Subscript_->Ws,Call_->WY,tail_any->Xl
open PySem.Builtin.Slice renaming slicePlaces->PF,sliceAdjust->Rx,sliceApplied->SC,slicePartIndex->Wa
open ForInStep renaming yield->PQ
open PySem.Builtin.Range renaming rangeSize->PR,small->Sn
open PySem.Obj renaming mapSeq->P1,data_mapFields->RS,isFreed_of_fields->Up,cls_mapFields->Vz
open PySem.Around renaming under_plainId->Qj
open PySem.Builtin.Tuple renaming tupleItemsOf->Qt,tupleHashOf->SN,tupleExact->Tc,tupleCompareSizes->VJ,tupleIsExact->Wz
open Sum renaming inl->Qy,inr->UJ
open PySem.F renaming plainAttrs_list->QU,args_tuple_add_2->RI,entry_tuple_add->RX,slot_tuple_add->R0,slot_tuple_index->Td,slot_dict_values->Tf,slot_list_index->Tt,plainAttrs_dict->Tu,slot_dict_get->Uk
open True renaming intro->Rp
open Classical renaming byContradiction->Ry,propDecidable->WZ
open PySem.Heap.SameBut renaming update->RB,refl->XX
open PySem.Builtin.SmallTypes renaming ownedTupleHandOut->RD,ownedTupleIsFree->UY
open PySem.Paired renaming length->RF,snoc->V6
open PySem.Builtin.List renaming listTooLong->RJ,listExtendWith->Sr,listFitsIndex->Ww
open PySem.NameKind renaming free->RL,cell->Yg
open Prod.mk renaming injEq->RM
open PySem.Challenge renaming pw_layworld_k85_whole_laid_over_what_is_com->R7,rw_layworld_k85_whole_laid_over_what_is_com->Sb
open PySem.SeqAt renaming EqAt->Sd,notIn_listAt->U9,in_tupleAt->VO,in_listAt->Wb
open PySem.Builtin.Builtins renaming bindParams->Sq
open PySem.Calls renaming Name_function_global->Sw,spliced_cons->Sz,call_function_entry->SO,spliced_nil->SU,callWith_builtin->TR,Constant_str->U5
open Function renaming comp_def->SY
open PySem.Env renaming kindOf->TX
open List.cons renaming injEq->Ua
open PySem.Builtin.Dict renaming showsAll->Um
open PyProof.Rows.IsTup renaming new->UK
open PySem.Expr renaming Name->UN
open PySem.W.Fast renaming te14082659384304107361->UU,te14364793385576792824->UV
open PySem.SeqAt.EqAt renaming int_str->tx,str_int->Uqa,none_bool->Xm,bool_none->Xn,bool_bool->Xo,none_int->Xv,none_str->Xw,bool_int->Xx,bool_str->Xy,int_none->Xz,int_bool->XA,str_none->XB,str_bool->XC,int_int->XI,str_str->XJ,same->X3
open PySem.Heap.IsSliceOf renaming new->U8
open PUnit renaming unit->Vb
open PySem.Code renaming quiet_builtin->Vc
open PySem.ScopeKind renaming function->Vf
open PySem.AutoListH renaming list___mul___list_int_3->Vi
open PySem.AutoSeq1 renaming list_extend_list_list_0->Vv,sub_tuple_tuple->WO
open PySem.IsL renaming update->VP
open PySem.Builtin.Frozenset renaming updateFrom->Wc,newClass->WA
open PySem.Builtin.Str renaming tooLong->WH,glued->XY
open List.Pairwise renaming imp_of_mem->WU,nil->XU
open Sum.inl renaming inj->Xg
open Prod renaming ext->Xj
open PySem.MeetsSeq renaming list_pop_at->Xp
open Int.le renaming dest->Xs
open List.Sublist renaming append->XD,refl->XZ
open PySem.Str renaming length->XH,join->Yc
open PySem.Walks renaming list->XN
open PySem.Flow renaming next->X0
open PySem.W.Looks renaming ld->X1
open PySem.W.XL renaming keeps->X2
open PySem.Heap.DictOf renaming new->X4
open PySem.PassesOwn renaming never->X5
open Or renaming inr->X7
open PySem.Txt renaming join->X8,mul->Yh
open List.Perm renaming swap->X9,map->Ye
open Iff renaming rfl->Yi
set_option genSizeOf false
namespace ZZ.Lean
noncomputable section
set_option Elab.async false
set_option linter.all false
set_option maxRecDepth 100000
noncomputable abbrev wh{α}(p w A):=@PySem.wpAny α (PySem.model p w) A
namespace L2
open PySem PySem.Spec PyProof.Rows
noncomputable abbrev cL:=Sum NV Oc
abbrev ow:cL->NC->Oh
 |.inl k,v=>Xf k v
 |.inr x,v=>WI x v
abbrev LS (w:OF):cL->NV
 |.inl k=>hashInt k
 |.inr x=>hashStr w x
def bC:∀{k:cL}{v:NC},ow k v=true->(∃i t,k=Qy i/\v=UI i t)\/(∃x t,k=UJ x/\v=Su x t)
 |.inl i,v,h=>by
  obtain⟨t,e⟩:=Vj   h;show .inl #[i,t,rfl,e]
 |.inr x,v,h=>by
  obtain⟨t,e⟩:=UO   h;show .inr #[x,t,rfl,e]
def xN (i:NV)(t:XE):ow (.inl i) (.int i t)=true:=by(delta ow Xf;simp)
def xO (x:Oc)(t:XE):ow (.inr x) (.str x t)=true:=by simp[ow,WI]
def GJ (a b:NV):decide ((Qy a:cL)=Qy b)=(a==b):=by
 by_cases e:a=b
 ·subst e;simp
 ·have h:¬ (Qy a:cL)=Qy b:=λq=>e (Xg q)
  rw[Oy h];show(QP.mpr e).symm
def GK (a b:Oc):decide ((UJ a:cL)=UJ b)=decide (a=b):=by
 by_cases e:a=b
 ·simp
 ·have h:¬ (UJ a:cL)=UJ b:=λq=>e (Sum.inr.inj q)
  rw[Oy h,Oy e]
def GL (a:NV)(b:Oc):decide ((Qy a)=UJ b)=false:=Oy (λq=>nomatch q)
def GM (a:Oc)(b:NV):decide ((UJ a)=Qy b)=false:=Oy (λq=>nomatch q)
abbrev bI (prog:Op)(w:OF):PySem.KeyKind prog w cL where
 is:=ow
 hash:=LS w
 inj:=λv a b f d=>by
  rcases bC f with⟨i,t,rfl,rfl⟩|⟨x,t,rfl,rfl⟩
  ·rcases bC d with⟨j,u,rfl,e⟩|⟨y,u,rfl,e⟩
   ·injection e with e1 _;rw[e1]
   ·show nomatch e
  ·rcases bC d with⟨j,u,rfl,e⟩|⟨y,u,rfl,e⟩
   ·show nomatch e
   ·injection e with e1 _;rw[e1]
 byValue:=λk v h=>by
  rcases bC h with⟨i,t,rfl,rfl⟩|⟨x,t,rfl,rfl⟩<;>rfl
 pyHash:=λc h=>by
  rcases bC c with⟨i,t,rfl,rfl⟩|⟨x,t,rfl,rfl⟩
  ·show VL h
  ·show VM h
 eqBool:=λg c h=>by
  rcases bC g with⟨i,t,rfl,rfl⟩|⟨x,t,rfl,rfl⟩
  ·rcases bC c with⟨j,u,rfl,rfl⟩|⟨y,u,rfl,rfl⟩
   ·rw[GJ]at h;show wpAny_eqBool_int h
   ·rw[GL]at h;show tx i t y u _ _ _ _ h
  ·rcases bC c with⟨j,u,rfl,rfl⟩|⟨y,u,rfl,rfl⟩
   ·rw[GM]at h;show Uqa x t j u _ _ _ _ h
   ·rw[GK]at h;show wpAny_eqBool_str h
 «strs»:=λk x t v h=>by
  rcases bC h with⟨i,u,rfl,e⟩|⟨y,u,rfl,e⟩
  ·show nomatch e
  ·injection e with e1 _
   subst e1;cases v<;>rfl
def rf (prog:Op)(w:OF)(i:NV)(t:XE):(bI prog w).is (.inl i) (.int i t)=true:=xN i t
def rh (prog:Op)(w:OF)(x:Oc)(t:XE):(bI prog w).is (.inr x) (.str x t)=true:=xO x t
inductive V where
 |non|bl (b:Oh)|int (i:NV)|str (x:Oc)|byt (b:OU UInt8)|flt (b:UInt64)|ref (a:NR)|ty (n:Pn)
 deriving Ro
abbrev RelV:V->NC->Prop
 |.non,u=>u=P9
 |.bl b,u=>u=Sc b
 |.int i,u=>∃t,u=UI i t
 |.str x,u=>∃t,u=Su x t
 |.byt b,u=>∃t,u=Value.bytes b t
 |.flt b,u=>∃t,u=Value.float b t
 |.ref a,u=>u=O0 a
 |.ty n,u=>u=QL n
noncomputable abbrev Vals:Ny V->Ny NC->Prop:=TC RelV
def Vals.length (r:Vals xs us):↥xs=↥us:=RF r
def Vals.get:∀{xs:Ny V}{us:Ny NC}{i:NF}{x:V},Vals xs us->xs[i]?=ba x->∃u,us[i]?=ba u/\RelV x u
 |_,_,_,_,.nil,e=>by simp at e
 |_,_,0,_,.cons r _,e=>by simp at e;subst e;show#[_,rfl,r]
 |_,_,i+1,x,.cons _ t,e=>by
  obtain⟨u,a,b⟩:=Vals.get   t (by simpa using e)
  show#[u,by simpa using a,b]
def Vals.set (r:RelV x u):∀{xs:Ny V}{us:Ny NC} i,Vals xs us->Vals (xs.set i x) (us.set i u)
 |_,_,_,.nil=>.nil
 |_,_,0,.cons _ t=>.cons r t
 |_,_,i+1,.cons q t=>.cons q (Vals.set r i t)
def Vals.append:∀{xs a:Ny V}{us ws:Ny NC},Vals xs us->Vals a ws->Vals (xs++a) (us++ws)
 |_,_,_,_,.nil,s=>s
 |_,_,_,_,.cons r t,s=>.cons r (Vals.append t s)
def Vals.take:∀{xs:Ny V}{us:Ny NC} n,Vals xs us->Vals (xs.take n) (us.take n)
 |_,_,0,_=>.nil
 |_,_,_+1,.nil=>.nil
 |_,_,n+1,.cons r t=>.cons r (Vals.take n t)
def Vals.drop:∀{xs:Ny V}{us:Ny NC} n,Vals xs us->Vals (xs.drop n) (us.drop n)
 |_,_,0,r=>r
 |_,_,_+1,.nil=>.nil
 |_,_,n+1,.cons _ t=>Vals.drop n t
abbrev RelO:NJ V->NJ NC->Prop
 |some v,ba u=>RelV v u
 |none,dx=>Wm
 |_,_=>Pg
abbrev KV {κ:Type}:Ny (κ×V)->Ny (κ×NC)->Prop:=TC λ(p:κ×V) (q:κ×NC)=>p.1=q.1/\RelV p.2 q.2
abbrev kV:cL->V
 |.inl i=>.int i
 |.inr x=>.str x
inductive HO where
 |lst (xs:Ny V)
 |tup (xs:Ny V)
 |dK (U:Ny (cL×V))
 |own (x:NR)
 |rng (lo hi:NV)
 |frz (o:Ps) (u:HO)
 |tbl (ps:OU NC)
 |ext (φ:OM->Prop)
noncomputable abbrev Hp:=NR->NJ HO
abbrev bP (H:Hp)(a:NR)(o:HO):Hp:=λb=>if b=a then ba o else H b
def aL :bP H a o a=ba o:=by unfold bP;rw[Ob rfl]
def aM (h:b≠a):bP H a o b=H b:=by unfold bP;rw[Ot h]
def d7 {H:Hp}(h:H a=ba o)(h':H b=dx):a≠b:=by
 intro e;subst e;rw[h]at h';cases h'
section
variable (P:Op) (w:OF)
abbrev NoD (h:OM)(a:NR):Prop:=∃o,h.get? a=ba o/\o.dict=dx
def NoD.new (h:OM)(a:OU NC)(n:NF):NoD (h.push {cls:=.type "tuple",data:=.seq a n}) ⇑h.objs:=#[_,N2 _ rfl,rfl]
noncomputable abbrev xd (x:Array PySem.Value)(n:Nat):PySem.Obj:={cls:=.type "list",data:=.seq x n}
abbrev ObjOk (H:Hp)(h:OM)(a:NR):HO->Prop
 |.lst xs=>↥xs<=sizeLine/\∃(b:Ny NC) (n:NF),Vals xs b/\h.get? a=ba (xd b.toArray n)
 |.tup xs=>(↥xs<=sizeLine/\NoD h a)/\∃b:Ny NC,Vals xs b/\Ti h a b.toArray
 |.dK U=>↥U<=sizeLine/\(a==sysModules)=false/\∃vs,KV U vs/\h.DictOf (bI P w) a vs
 |.own _=>∃o,h.get? a=ba o
 |.rng lo hi=>∃t u v,h.get? a=ba {cls:=.type "range",data:=.fields [.int lo t,.int hi u,.int 1 v].toArray}
 |.frz o u=>h.get? a=ba o/\ObjOk H h a u
 |.tbl ps=>h.get? a=ba {cls:=.none,data:=.fields ps}
 |.ext φ=>φ h/\(∃o,h.get? a=ba o)/\∀c d:OM,φ c->(∀o,c.get? a=ba o->d.get? a=ba o)->φ d
abbrev HOk (H:Hp)(h:OM):Prop:=∀a o,H a=ba o->ObjOk P w H h a o
end
section
variable{P:Op}{w:OF}{H H':Hp}{h h':OM}{a:NR}{o:HO}
def ObjOk.lt (x:ObjOk P w H h a o):a<⇑h.objs:=by
 cases o with
 |lst xs=>obtain⟨_,_,_,_,e⟩:=x;show N8 e
 |tup xs=>obtain⟨_,_,_,p⟩:=x;show p.lt
 |dK U=>obtain⟨_,_,_,_,o,_,_,e,_⟩:=x;show N8 e
 |own y=>obtain⟨_,e⟩:=x;show N8 e
 |rng lo hi=>obtain⟨_,_,_,e⟩:=x;show N8 e
 |frz ob u=>obtain⟨e,_⟩:=x;show N8 e
 |tbl ps=>show N8 x
 |ext φ=>obtain⟨_,⟨_,e⟩,_⟩:=x;show N8 e
def Paired.mapP :∀{l₁:Ny α}{l₂:Ny β},TC F l₁ l₂->(∀a b,F a b->G a b)->TC G l₁ l₂
 |_,_,.nil,_=>.nil
 |_,_,.cons r t,f=>.cons (f _ _ r) (Paired.mapP t f)
def ObjOk.stay (x:ObjOk P w H h a o)(k:∀b u,(b=a\/H b=ba (.own a))->h.get? b=ba u->h'.get? b=ba u)
  (l:∀b,H b=ba (.own a)->H' b=ba (.own a)) (m:∀b xs,H b=ba (.tup xs)->H' b=ba (.tup xs)):ObjOk P w H' h' a o:=by
 induction o with
 |lst xs=>obtain⟨z,f,n,r,e⟩:=x;show#[z,f,n,r,k _ _ (.inl rfl) e]
 |tup xs=>obtain⟨⟨z,g,i,d⟩,f,r,ob,e,c⟩:=x;show#[#[z,g,k _ _ (.inl rfl) i,d],f,r,ob,k _ _ (.inl rfl) e,c]
 |dK U=>obtain⟨z,y,vs,r,ob,es,j,e,c⟩:=x;show#[z,y,vs,r,ob,es,j,k _ _ (.inl rfl) e,c]
 |own y=>obtain⟨ob,e⟩:=x;show#[ob,k _ _ (.inl rfl) e]
 |rng lo hi=>obtain⟨t,u,v,e⟩:=x;show#[t,u,v,k _ _ (.inl rfl) e]
 |frz ob u ih=>obtain⟨e,q⟩:=x;show#[k _ _ (.inl rfl) e,ih q]
 |tbl ps=>
  have e:h.get? a=ba {cls:=.none,data:=.fields ps}:=x;change h'.get? a=ba {cls:=.none,data:=.fields ps};show k a _ (.inl rfl) e
 |ext φ=>obtain⟨p,⟨o,e⟩,st⟩:=x;show#[st _ _ p λo q=>k _ _ (.inl rfl) q,#[o,k _ _ (.inl rfl) e],st]
def HOk.lt (x:HOk P w H h)(e:H a=ba o):a<⇑h.objs:=(x a o e).lt
def HOk.fresh (x:HOk P w H h)(e:⇑h.objs<=a):H a=dx:=by
 cases q:H a with
 |none=>rfl
 |some u=>show absurd (N5 (x.lt q) e) (Pf _)
def HOk.kept (x:HOk P w H h)(k:∀b u,h.get? b=ba u->h'.get? b=ba u):HOk P w H h':=λa o e=>
 (x a o e).stay (λb u _ q=>k b u q) (λ_ q=>q) λ_ _ q=>q
def HOk.laid (x:HOk P w H h)(k:∀b u,h.get? b=ba u->h'.get? b=ba u)(g:⇑h.objs<=a)(new:ObjOk P w (bP H a o) h' a o):HOk P w (bP H a o) h':=λb u e=>by
 have f:=x.fresh g
 by_cases d:b=a
 ·subst d;rw[aL]at e;cases e;show new
 ·rw[aM d]at e;show(x b u e).stay (λc v _ q=>k c v q) (λc q=>by rw[aM (d7 q f)];show q) λc xs q=>by rw[aM (d7 q f)];show q
end
abbrev Rd (H:Hp)(a:NR)(u:HO):Prop:=H a=ba u\/∃o,H a=ba (.frz o u)
def Rd.ok (r:Rd H a u)(x:HOk P w H h):ObjOk P w H h a u:=by
 rcases r with r|⟨o,r⟩
 ·show x a u r
 ·obtain⟨_,q⟩:=x a _ r;show q
abbrev JG:NJ HO->Prop
 |some (.lst _)=>Wm
 |some (.dK _)=>Wm
 |some (.ext _)=>Wm
 |_=>Pg
section
variable{P:Op}{w:OF}{H:Hp}{h h':OM}{x e:NR}{o':HO}
def HOk.write (ok:HOk P w H h)(i:JG (H x))(l:e=x\/H e=ba (.own x))(k:∀b u,b≠e->h.get? b=ba u->h'.get? b=ba u)(j:∃u,h'.get? e=ba u)
  (new:ObjOk P w (bP H x o') h' x o'):HOk P w (bP H x o') h':=λb u q=>by
 have d:∀c y,H c=ba (.own y)->c≠x:=λc y r z=>by subst z;rw[r]at i;show i
 have f:∀c xs,H c=ba (.tup xs)->c≠x:=λc xs r z=>by subst z;rw[r]at i;show i
 by_cases g:b=x
 ·subst g;rw[aL]at q;cases q;show new
 ·rw[aM g]at q
  by_cases a:b=e
  ·have m:H b=ba (.own x):=by
    rcases l with z|z
    ·show absurd (a.trans z) g
    ·rw[a];show z
   rw[q]at m;cases m
   obtain⟨v,n⟩:=j;show#[v,by rw[a];show n]
  ·show(ok b u q).stay (λc v hc r=>k c v ?_ r) (λc r=>by rw[aM (d c b r)];show r) λc xs r=>by rw[aM (f c xs r)];show r
   rcases hc with rfl|hc
   ·show a
   ·rintro rfl;rcases l with z|z
    ·show d c b hc z
    ·rw[hc]at z;cases z;show g rfl
end
structure Un (fs ex:Ny NR)(H H':Hp)(h h':OM):Prop where
 keep:∀b o,h.get? b=ba o->H b=dx->b∉fs->b∉ex->h'.get? b=ba o
 slot:∀b o,h.get? b=ba o->H b=dx->b∈fs->b∉ex->∃sl,h'.get? b=ba {o with slots:=sl}
 free:∀b o,h.get? b=ba o->H b=dx->b∉ex->H' b=dx
 there:∀b o,h.get? b=ba o->b∉ex->∃o',h'.get? b=ba o'
 tups:∀b xs,H b=ba (.tup xs)->H' b=ba (.tup xs)
 frzs:∀b o u,H b=ba (.frz o u)->H' b=ba (.frz o u)
 tbls:∀b ps,H b=ba (.tbl ps)->∃more,H' b=ba (.tbl (ps++more))
section
variable{fs fs' ex ex':Ny NR}{H H1 H2:Hp}{h h1 h2 h':OM}{a x e:NR}{o:HO}
def Un.any (u:Un fs ex H H1 h h1)(q:h.get? b=ba ob)(n:H b=dx)(c:b∉ex):∃d,h1.get? b=ba {ob with slots:=d}:=by
 by_cases a:b∈fs
 ·show u.slot b ob q n a c
 ·show#[ob.slots,u.keep b ob q n a c]
def Un.trans (a:Un fs ex H H1 h h1)(b:Un fs ex H1 H2 h1 h2):Un fs ex H H2 h h2 where
 keep:=λc ob q n hc d=>b.keep c ob (a.keep c ob q n hc d) (a.free c ob q n d) hc d
 slot:=λc ob q n hc d=>by
  obtain⟨l,e⟩:=a.slot c ob q n hc d;obtain⟨i,f⟩:=b.slot c _ e (a.free c ob q n d) hc d;show#[i,f]
 free:=λc ob q n d=>by
  obtain⟨g,e⟩:=a.there c ob q d;show b.free c g e (a.free c ob q n d) d
 there:=λc ob q d=>by
  obtain⟨g,e⟩:=a.there c ob q d;show b.there c g e d
 tups:=λc xs q=>b.tups c xs (a.tups c xs q)
 frzs:=λc ob xs q=>b.frzs c ob xs (a.frzs c ob xs q)
 tbls:=λc ps q=>by
  obtain⟨j,e⟩:=a.tbls c ps q;obtain⟨k,f⟩:=b.tbls c _ e;show#[j++k,by rw[f,U4]]
def Un.kept (k:∀b u,h.get? b=ba u->h'.get? b=ba u):Un fs ex H H h h':=
 #[λb ob q _ _ _=>k b ob q,λb ob q _ _ _=>#[ob.slots,k b ob q],λ_ _ _ n _=>n,λb ob q _=>#[ob,k b ob q],λ_ _ q=>q,λ_ _ _ q=>q,λ_ ps q=>#[#[],by rw[q];rfl]]
def Un.refl:Un fs ex H H h h:=Un.kept λ_ _ q=>q
def Un.laid (k:∀b u,h.get? b=ba u->h'.get? b=ba u)(d:⇑h.objs<=a)(c:H a=dx):Un fs ex H (bP H a o) h h' where
 keep:=λb u q _ _ _=>k b u q
 slot:=λb u q _ _ _=>#[u.slots,k b u q]
 free:=λb u q n _=>by rw[aM (Oe (N5 (N8 q) d))];show n
 there:=λb u q _=>#[u,k b u q]
 tups:=λb xs q=>by rw[aM (d7 q c)];show q
 frzs:=λb u xs q=>by rw[aM (d7 q c)];show q
 tbls:=λb ps q=>#[#[],by rw[aM (d7 q c),q];rfl]
def Un.write (c:JG (H x))(j:e=x\/H e=ba (.own x))(k:∀b u,b≠e->h.get? b=ba u->h'.get? b=ba u)(d:∃u,h'.get? e=ba u):Un fs ex H (bP H x o) h h':=by
 have i:∀b,H b=dx->b≠x:=λb n z=>by subst z;rw[n]at c;show c
 have g:∀b,H b=dx->b≠e:=λb n z=>by
  subst z;rcases j with r|r
  ·show i b n r
  ·rw[n]at r;cases r
 have f:∀b u,H b=ba u->¬ JG (ba u)->b≠x:=λb u q nm z=>by subst z;rw[q]at c;show nm c
 show#[λb u q n _ _=>k b u (g b n) q,λb u q n _ _=>#[u.slots,k b u (g b n) q],λb u q n _=>by rw[aM (i b n)];show n,λb u q _=>?_,
  λb xs q=>by rw[aM (f b _ q λz=>z)];show q,λb u xs q=>by rw[aM (f b _ q λz=>z)];show q,λb ps q=>#[#[],by rw[aM (f b _ q λz=>z),q];rfl]]
 by_cases a:b=e
 ·subst a;show d
 ·show#[u,k b u a q]
end
abbrev M9 (h:OM)(H:Hp):Ny NR:=(NQ ⇑h.objs).filter λa=>(H a).isSome
abbrev pG (h:OM)(H:Hp):OM:=PySem.W.hideAll h (M9 h H)
def xP (h:OM)(H:Hp):(pG h H).objs.size=⇑h.objs:=PySem.W.hideAll_size _ _
def zn (e:h.get? b=ba o)(n:H b=dx):(pG h H).get? b=ba o:=
 PySem.W.hideAll_get _ e λa=>by
  have q:=(OY.mp a).2;rw[n]at q;simp at q
def Da (e:(pG h H).get? b=ba o):h.get? b=ba o/\H b=dx:=by
 have a:=PySem.W.of_hideAll _ e;show#[a,?_];cases q:H b with
 |none=>rfl
 |some x=>
  have c:b∈M9 h H:=OY.mpr #[NU.mpr (N8 a),by simp[q]]
  have z:(pG h H).get? b=dx:=PySem.W.hideAll_none _ c;rw[z]at e;cases e
abbrev vM (g h:OM)(L:NR):Ny (NR×Ps):=(NQ ⇑h.objs).filterMap λa=>if a=L\/(g.get? a).isSome=true then dx else(h.get? a).map λo=>(a,o)
def rj (c:a≠L)(d:g.get? a=dx)(b:h.get? a=ba o):(a,o)∈vM g h L:=
 Sv.mpr #[a,NU.mpr (N8 b),by simp[c,d,b]]
abbrev cf (g h:OM)(L d:NR):Ny (NR×Ps):=(vM g h L).filter λp=>decide (p.1≠d)
def mem_rest (b:a≠L)(c:g.get? a=dx)(e:h.get? a=ba o)(f:a≠d):(a,o)∈cf g h L d:=
 OY.mpr #[rj b c e,OS f]
structure Mod (K:NY)(mg:Oc->NJ NC)(base:OM):Prop where
 kin:K.In base
 glob:base.Ns mainGlobals mg
 blt:∃mb,base.Ns builtinsNs mb/\∀x:Oc,x≠"__name__"->mb x=bootBuiltins x
 nolimit:base.NoLimit
structure Cx where
 prog:Op
 w:OF
 K:NY
 mg:Oc->NJ NC
 base:OM
 A:OD
 N:Ny Oc
 s₀:NH
 H₀:Hp
 env:VI
 outer:Ny VI
 stack:Ny VI
 ex:Ny NR
 fn:Oc->Oh
 calm:Oh
 pn:Ny (NR×Ps)
 xe:NC->NH->Prop
abbrev vN (l:Ny VI):Ny NR:=l.filterMap (·.frame)
noncomputable abbrev Cx.fs (X:Cx):Ny NR:=vN X.outer
abbrev LJ (sc:QX)(x:Oc):Prop:=sc.names.lookup x=ba .local\/sc.names.lookup x=ba .cell\/sc.names.lookup x=ba .free
abbrev Db (sc:QX)(x:Oc):Prop:=sc.names.lookup x=ba .local\/sc.names.lookup x=ba .cell
abbrev LU (env:VI)(h:OM)(m:Oc->NJ NC)(x:Oc)(u:NC):Prop:=
 (env.kindOf x=ba .local/\m x=ba u)\/((env.kindOf x=ba .cell\/env.kindOf x=ba .free)/\∃c,env.cells.lookup x=ba c/\h.IsCell c (ba u))
noncomputable abbrev wi{α}(X:Cx):=@PySem.wpAny α (PySem.model X.prog X.w) X.A
structure Cx.Ok (X:Cx):Prop where
 mod:Mod X.K X.mg X.base
 kind:X.env.scope.kind=.function
 glob:X.env.globals=mainGlobals
 blt:X.env.builtins=builtinsNs
 above:⇑X.s₀.heap.objs<=X.env.locals
 inj:∀x y c,X.env.cells.lookup x=ba c->X.env.cells.lookup y=ba c->x=y
 has:∀x,(X.env.kindOf x=ba .cell\/X.env.kindOf x=ba .free)->∃c,X.env.cells.lookup x=ba c
 cab:∀x c,X.fn x=true->X.env.cells.lookup x=ba c->⇑X.s₀.heap.objs<=c
 hd:X.calm=true->X.A.handled=dx
 frames:X.A.frames=ba X.stack
 stk:X.stack=X.outer\/(X.stack=X.env::X.outer/\X.env.frame=ba X.env.locals)
 exf:∀b∈X.ex,b≠X.env.locals/\∀x c,X.env.cells.lookup x=ba c->c≠b
 bs:∀b o,X.base.get? b=ba o->X.s₀.heap.get? b=ba o/\X.H₀ b=dx
 bsz:⇑X.base.objs<=⇑X.s₀.heap.objs
 noex:∀b o,X.base.get? b=ba o->b∉X.ex
 exfs:∀b∈X.ex,b∉X.fs
 funs:X.s₀.heap.FunFrames X.base X.outer
 frf:∀b∈X.fs,X.H₀ b=dx
structure Inv (X:Cx)(J:Ny (NR×Ps))(Y:Ny (NJ V))(H:Hp)(s:NH):Prop where
 ok:X.Ok
 os:s.os=X.s₀.os
 bare:SS s.gens
 base:Un X.fs X.ex X.H₀ H X.s₀.heap s.heap
 loc:∃m,s.heap.Ns X.env.locals m/\∀(i:NF) (x:Oc) (v:V),X.N[i]?=ba x->Y[i]?=ba (ba v)->LJ X.env.scope x->∃u,RelV v u/\LU X.env s.heap m x u
 cell:∀x c,X.env.cells.lookup x=ba c->∃v,s.heap.IsCell c v
 free:H X.env.locals=dx
 freeC:∀x c,X.env.cells.lookup x=ba c->H c=dx
 pin:∀p∈X.pn++J,s.heap.get? p.1=ba p.2/\H p.1=dx/\p.1≠X.env.locals/\p.1∉X.fs/\∀v,p.2.data≠.cell v
 hok:HOk X.prog X.w H s.heap
 len:↥Y=↥X.N
section
variable{X:Cx}{J:Ny (NR×Ps)}{Y:Ny (NJ V)}{H H':Hp}{s:NH}{h':OM}
def Cx.Ok.nofr (ok:X.Ok)(e:X.base.get? b=ba o):b∉X.fs:=λa=>by
 have:=(ok.funs.mem a).1;rw[e]at this;cases this
def Inv.bs (I:Inv X J Y H s):∀b o,X.base.get? b=ba o->s.heap.get? b=ba o/\H b=dx:=λb o e=>
 #[I.base.keep b o (I.ok.bs b o e).1 (I.ok.bs b o e).2 (I.ok.nofr e) (I.ok.noex b o e),I.base.free b o (I.ok.bs b o e).1 (I.ok.bs b o e).2 (I.ok.noex b o e)]
def Inv.bk (I:Inv X J Y H s):∀b o,X.base.get? b=ba o->s.heap.get? b=ba o:=λb o e=>(I.bs b o e).1
def Inv.mod (I:Inv X J Y H s):Mod X.K X.mg X.base:=I.ok.mod
def Inv.kIn (I:Inv X J Y H s):X.K.In s.heap:=I.ok.mod.kin.keeps I.bk
def Inv.lt (I:Inv X J Y H s):X.env.locals<⇑s.heap.objs:=let ⟨_,hn,_⟩:=I.loc;hn.lt
def Inv.sz (I:Inv X J Y H s):⇑X.s₀.heap.objs<=⇑s.heap.objs:=N9 I.ok.above (QE I.lt)
def Inv.nofs (I:Inv X J Y H s){a:NR}(h:⇑s.heap.objs<=a):a∉X.fs:=λb=>by
 obtain⟨_,o,c,_⟩:=I.ok.funs.mem b;show absurd (N5 (N8 c) (N9 I.sz h)) (Pf _)
def Inv.cne (I:Inv X J Y H s):∀x c,X.env.cells.lookup x=ba c->c≠X.env.locals:=λx c e z=>by
 obtain⟨v,o,d,hd⟩:=I.cell x c e;obtain⟨m,⟨g,es,f,b,a,_⟩,_⟩:=I.loc;rw[z,b]at d;cases d;rw[a]at hd;cases hd
def Inv.funs (I:Inv X J Y H s):s.heap.FunFrames X.base X.outer:=by
 have all:∀l,(∀b∈vN l,b∈X.fs)->X.s₀.heap.FunFrames X.base l->s.heap.FunFrames X.base l:=by
  intro l
  induction l with
  |nil=>intro _ _;trivial
  |cons env r ih=>
   intro f hl;obtain⟨hk,⟨L,o,d,g,h,hd⟩,i⟩:=hl;have a:=f L (by unfold vN;rw[QQ,d];show Py)
   obtain⟨j,e⟩:=I.base.slot L o h (I.ok.frf L a) a λz=>I.ok.exfs L z a
   show#[hk,#[L,_,d,g,e,hd],ih (λb c=>f b (by unfold vN;rw[QQ,d];show O1 _ c)) i]
 show all _ (λ_ c=>c) I.ok.funs
def Inv.stack (I:Inv X J Y H s):s.heap.FunFrames X.base X.stack:=by
 rcases I.ok.stk with e|⟨e,a⟩
 ·rw[e];show I.funs
 ·rw[e];obtain⟨m,b,_⟩:=I.loc;show .cons (by rw[I.ok.kind];decide) a b ?_ I.funs
  show Heap.get?_none_of_le (N9 I.ok.bsz I.ok.above)
def Inv.stkSub (I:Inv X J Y H s):∀b∈vN X.stack,b∈X.env.locals::X.fs:=λb a=>by
 rcases I.ok.stk with e|⟨e,c⟩
 ·rw[e]at a;show O1 _ a
 ·rw[e]at a;unfold vN at a;rw[QQ,c]at a;show a
def Inv.stkFree (I:Inv X J Y H s):∀b∈vN X.stack,H b=dx:=λb a=>by
 rcases Of.mp (I.stkSub b a)with e|a
 ·rw[e];show I.free
 ·obtain⟨_,o,c,_⟩:=I.ok.funs.mem a;show I.base.free b o c (I.ok.frf b a) λz=>I.ok.exfs b z a
def Inv.step {ch:Ny NR}(I:Inv X J Y H s)
  (g:∀b∈ch,(b∈X.ex\/⇑X.s₀.heap.objs<=b)/\b≠X.env.locals/\(∀x c,X.env.cells.lookup x=ba c->c≠b)/\∀p∈X.pn++J,p.1≠b)
  (keep:∀b o,b≠X.env.locals->b∉X.fs->b∉ch->s.heap.get? b=ba o->H b=dx->h'.get? b=ba o)
  (slot:∀b o,b≠X.env.locals->b∈X.fs->b∉ch->s.heap.get? b=ba o->H b=dx->∃G,h'.get? b=ba {o with slots:=G}) (free:∀b o,b∉ch->s.heap.get? b=ba o->H b=dx->H' b=dx)
  (there:∀b o,b∉ch->s.heap.get? b=ba o->∃D,h'.get? b=ba D)
  (tups:∀b xs,H b=ba (.tup xs)->H' b=ba (.tup xs)) (frzs:∀b o u,H b=ba (.frz o u)->H' b=ba (.frz o u)) (tbls:∀b ps,H b=ba (.tbl ps)->∃B,H' b=ba (.tbl (ps++B)))
  (T:∀m,s.heap.Ns X.env.locals m->h'.Ns X.env.locals m) (E:HOk X.prog X.w H' h') (P:SS g') :
  Inv X J Y H' {s with heap:=h',gens:=g',drawn:=d',toks:=t'}:=by
 have C:∀b o,X.s₀.heap.get? b=ba o->b≠X.env.locals:=λb o e=>Oe (N5 (N8 e) I.ok.above)
 have t:∀b o,X.s₀.heap.get? b=ba o->b∉X.ex->b∉ch:=λb o e a w=>by
  rcases(g b w).1 with z|z
  ·show a z
  ·show absurd (N5 (N8 e) z) (Pf _)
 have f:∀x c,X.env.cells.lookup x=ba c->∀v,s.heap.IsCell c v->h'.IsCell c v:=λx c e v #[o,y,hd]=>by
  have h:c∉ch:=λz=>(g c z).2.2.1 x c e rfl
  by_cases hc:c∈X.fs
  ·obtain⟨G,q⟩:=slot c o (I.cne x c e) hc h y (I.freeC x c e);show#[_,q,hd]
  ·show#[o,keep c o (I.cne x c e) hc h y (I.freeC x c e),hd]
 show#[I.ok,I.os,P,#[λb o e n w a=>?_,λb o e n w a=>?_,λb o e n a=>?_,λb o e a=>?_,λb xs e=>tups b xs (I.base.tups b xs e),λb o xs e=>frzs b o xs (I.base.frzs b o xs e),λb ps e=>?_],?_,λx c e=>?_,?_,λx c e=>?_,λp M=>?_,E,I.len]
 ·show keep b o (C b o e) w (t b o e a) (I.base.keep b o e n w a) (I.base.free b o e n a)
 ·obtain⟨G,j⟩:=I.base.slot b o e n w a;obtain⟨L,A⟩:=slot b _ (C b o e) w (t b o e a) j (I.base.free b o e n a);show#[L,A]
 ·obtain⟨D,j⟩:=I.base.there b o e a;show free b D (t b o e a) j (I.base.free b o e n a)
 ·obtain⟨D,j⟩:=I.base.there b o e a;show there b D (t b o e a) j
 ·obtain⟨R,j⟩:=I.base.tbls b ps e;obtain⟨S,A⟩:=tbls b _ j;show#[R++S,by rw[A,U4]]
 ·obtain⟨m,Q,hl⟩:=I.loc;show#[m,T m Q,λi x v j A O=>?_]
  obtain⟨u,r,l⟩:=hl i x v j A O;show#[u,r,?_];rcases l with l|⟨k,c,e,z⟩
  ·show .inl l
  ·show .inr #[k,c,e,f x c e _ z]
 ·obtain⟨v,z⟩:=I.cell x c e;show#[v,f x c e v z]
 ·obtain⟨m,⟨o,_,_,y,_⟩,_⟩:=I.loc;show free _ o (λz=>(g _ z).2.1 rfl) y I.free
 ·obtain⟨v,o,y,hd⟩:=I.cell x c e;show free c o (λz=>(g c z).2.2.1 x c e rfl) y (I.freeC x c e)
 ·obtain⟨e,n,ne,N,d⟩:=I.pin p M;have h:p.1∉ch:=λz=>(g p.1 z).2.2.2 p M rfl
  show#[keep p.1 p.2 ne N h e n,free p.1 p.2 h e n,ne,N,d]
noncomputable abbrev xc (s:NH)(h:PySem.Heap)(t:Nat):NH:={s with heap:=h,toks:=t}
def Inv.un (I:Inv X J Y H s)(u:Un X.fs [] H H' s.heap h')(g:HOk X.prog X.w H' h'):Inv X J Y H' (xc s h' t'):=by
 obtain⟨m,⟨o,es,l,h,r⟩,_⟩:=id I.loc;obtain⟨t,i⟩:=u.any h I.free (by simp)
 show I.step (g':=s.gens) (d':=s.drawn) (ch:=[]) (λ_ z=>nomatch z) (λb o _ f _ e n=>u.keep b o e n f (by simp)) (λb o _ f _ e n=>u.slot b o e n f (by simp)) (λb o _ e n=>u.free b o e n (by simp)) (λb o _ e=>u.there b o e (by simp)) u.tups u.frzs u.tbls (λp j=>by
  obtain⟨q,d,c,a,k⟩:=j;rw[h]at a;cases a
  show#[_,d,c,i,k]) g I.bare
def Inv.call (I:Inv X J Y H s)(u:Un (vN X.stack) ch H H' s.heap h')(i:HOk X.prog X.w H' h')(l:SS g')
  (a:∀b∈ch,(b∈X.ex\/⇑X.s₀.heap.objs<=b)/\b≠X.env.locals/\(∀x c,X.env.cells.lookup x=ba c->c≠b)/\∀p∈X.pn++J,p.1≠b) :
  Inv X J Y H' {s with heap:=h',gens:=g',drawn:=d',toks:=t'}:=by
 obtain⟨m,⟨o,es,v,j,r⟩,_⟩:=id I.loc;obtain⟨A,h⟩:=u.any j I.free λz=>(a _ z).2.1 rfl
 show I.step (ch:=ch) a (λb o h k hc e n=>u.keep b o e n (λz=>(Of.mp (I.stkSub b z)).elim h k) hc) (λb o _ _ hc e n=>u.any e n hc) (λb o hc e n=>u.free b o e n hc) (λb o hc e=>u.there b o e hc) u.tups u.frzs u.tbls (λw q=>by
  obtain⟨y,g,f,d,t⟩:=q;rw[j]at d;cases d
  show#[_,g,f,h,t]) i l
def Inv.turned (I:Inv X J Y H s)(k:∀b o,b≠it->s.heap.get? b=ba o->h'.get? b=ba o)(t:H it=dx)(d:it≠X.env.locals)
  (g:it∈X.ex\/⇑X.s₀.heap.objs<=it) (h:∀x c,X.env.cells.lookup x=ba c->c≠it) (i:∀p∈X.pn++J,p.1≠it):Inv X J Y H (xc s h' t'):=by
 have a:∀b u,H b=ba u->b≠it:=λb u e z=>by rw[z,t]at e;cases e
 show I.step (g':=s.gens) (d':=s.drawn) (ch:=[it]) (λb j=>?_) (λb o _ _ hc e _=>k b o (λz=>hc (by simp[z])) e) (λb o _ _ hc e _=>#[o.slots,k b o (λz=>hc (by simp[z])) e]) (λ_ _ _ _ n=>n)
  (λb o hc e=>#[o,k b o (λz=>hc (by simp[z])) e]) (λ_ _ e=>e) (λ_ _ _ e=>e) (λb ps e=>#[#[],by rw[e];simp]) (λm l=>?_) (λb u e=>?_) I.bare
 ·have e:b=it:=by simpa using j
  subst e;show#[g,d,h,i]
 ·obtain⟨o,es,f,w,r⟩:=l;show#[o,es,f,k _ o (Ne.symm d) w,r]
 ·show(I.hok b u e).stay (λc v hc q=>k c v ?_ q) (λ_ q=>q) λ_ _ q=>q
  rcases hc with z|z
  ·rw[z];show a b u e
  ·show a c _ z
def Inv.tok (I:Inv X J Y H s)(t:NF):Inv X J Y H {s with toks:=t}:=I.un   Un.refl I.hok
def Inv.kept (I:Inv X J Y H s)(k:∀b u,s.heap.get? b=ba u->h'.get? b=ba u):Inv X J Y H (xc s h' t'):=I.un (Un.kept k) (I.hok.kept k)
def Inv.laid {a:NR}(I:Inv X J Y H s)(k:∀b u,s.heap.get? b=ba u->h'.get? b=ba u)(c:⇑s.heap.objs<=a)(new:ObjOk X.prog X.w (bP H a o) h' a o) :
  Inv X J Y (bP H a o) (xc s h' t'):=I.un (Un.laid k c (I.hok.fresh c)) (I.hok.laid k c new)
def Inv.write (I:Inv X J Y H s)(d:JG (H x))(c:e=x\/H e=ba (.own x))(k:∀b u,b≠e->s.heap.get? b=ba u->h'.get? b=ba u)(a:∃u,h'.get? e=ba u)
  (new:ObjOk X.prog X.w (bP H x o) h' x o):Inv X J Y (bP H x o) (xc s h' t'):=I.un (Un.write d c k a) (I.hok.write d c k a new)
def Inv.pins_of (I:Inv X J Y H s)(h:∀p∈a,s.heap.get? p.1=ba p.2/\H p.1=dx/\p.1≠X.env.locals/\p.1∉X.fs/\∀v,p.2.data≠.cell v):Inv X a Y H s:=
 #[I.ok,I.os,I.bare,I.base,I.loc,I.cell,I.free,I.freeC,λp b=>(Oa.mp b).elim (λz=>I.pin p (Oo _ z)) (h p),I.hok,I.len]
def rm {N:Ny Oc}(e:N.Nodup){ j:NF}(a:N[i]?=ba x)(b:N[j]?=ba x):i=j:=by
 obtain⟨f,c⟩:=NZ.mp a;obtain⟨g,d⟩:=NZ.mp b;show(PD e).mp (c.trans d.symm)
def xQ (I:Inv X J Y H s)(hN:X.N.Nodup)(hi:X.N[i]?=ba x)(t:Db X.env.scope x)(r:RelV v u)
  (h:∀s',Inv X J (Y.set i (ba v)) H s'->(∃a,QF a s.heap s'.heap/\(a=X.env.locals\/X.env.cells.lookup x=ba a))->Q () s') (hf:X.fn x=true\/X.env.scope.names.lookup x=ba .local):wpAny T A (storeName X.env x u) Q E s:=by
 obtain⟨m,W,hl⟩:=id I.loc;have N:(X.env.scope.kind==.class||(X.env.scope.kind==.module&&X.env.locals != X.env.globals))=false:=by rw[I.ok.kind];rfl
 have hiσ:i<↥Y:=by rw[I.len];show(NZ.mp hi).1
 have cne:=I.cne;have l:∀{a:NR}{h':OM},(∃o,s.heap.get? a=ba o/\H a=dx)->QF a s.heap h'->HOk X.prog X.w H h':=λ{a h'} ha f b ob e=>by
  obtain⟨_,_,w⟩:=ha;show(I.hok b ob e).stay (λc S hc q=>(f.2 c ?_).trans q) (λ_ q=>q) λ_ _ q=>q
  rintro rfl;rcases hc with rfl|hc
  ·rw[w]at e;cases e
  ·rw[w]at hc;cases hc
 rcases t with hk|hk
 ·show wpAny_storeName_local hk W (λh' Z f=>?_) N
  obtain⟨oL,_,_,hoL,_⟩:=id W;show h _ #[I.ok,I.os,I.bare,#[λb o e n C t=>?_,λb o e n C t=>?_,I.base.free,λb o e t=>?_,I.base.tups,I.base.frzs,I.base.tbls],#[_,Z,λj y v' g B U=>?_],λy c e=>?_,I.free,I.freeC,λp hp=>?_,l #[oL,hoL,I.free] f,by simpa using I.len] #[_,f,.inl rfl]
  ·show(f.2 b (Oe (N5 (N8 e) I.ok.above))).trans (I.base.keep b o e n C t)
  ·obtain⟨sl,g⟩:=I.base.slot b o e n C t;show#[sl,(f.2 b (Oe (N5 (N8 e) I.ok.above))).trans g]
  ·obtain⟨o',g⟩:=I.base.there b o e t;show#[o',(f.2 b (Oe (N5 (N8 e) I.ok.above))).trans g]
  ·by_cases G:j=i
   ·subst G;rw[hi]at g;cases g
    rw[TD hiσ]at B;cases B;show#[u,r,.inl #[hk,by simp]]
   ·rw[Ut (Ne.symm G)]at B;obtain⟨u',r',q⟩:=hl j y v' g B U;show#[u',r',?_];rcases q with⟨k,e⟩|⟨k,c,e,z⟩
    ·show .inl #[k,?_];have:y≠x:=λe=>G (rm hN g (e▸hi))
     simp[this,e]
    ·show .inr #[k,c,e,z.sameBut f (cne y c e)]
  ·obtain⟨S,z⟩:=I.cell y c e;show#[S,z.sameBut f (cne y c e)]
  ·obtain⟨e,n,ne,nf,d⟩:=I.pin p hp;show#[(f.2 p.1 ne).trans e,n,ne,nf,d]
 ·have D:X.fn x=true:=by
   rcases hf with z|z
   ·show z
   ·rw[z]at hk;cases hk
  obtain⟨c,hc⟩:=I.ok.has x (.inl hk);obtain⟨S,z⟩:=I.cell x c hc;show wpAny_storeName_cell I.ok.kind hk hc z (λh' L f=>?_)
  obtain⟨oc,O,P⟩:=id z;show h {s with heap:=h'} #[I.ok,I.os,I.bare,#[λb o e n C t=>?_,λb o e n C t=>?_,I.base.free,λb o e t=>?_,I.base.tups,I.base.frzs,I.base.tbls],#[m,W.sameBut f (Ne.symm (cne x c hc)),λj y v' g B U=>?_],λy R e=>?_,I.free,I.freeC,λp hp=>?_,l #[oc,O,I.freeC x c hc] f,by simpa using I.len] #[c,f,.inr hc]
  ·show(f.2 b (Oe (N5 (N8 e) (I.ok.cab x c D hc)))).trans (I.base.keep b o e n C t)
  ·obtain⟨sl,g⟩:=I.base.slot b o e n C t;show#[sl,(f.2 b (Oe (N5 (N8 e) (I.ok.cab x c D hc)))).trans g]
  ·obtain⟨o',g⟩:=I.base.there b o e t;show#[o',(f.2 b (Oe (N5 (N8 e) (I.ok.cab x c D hc)))).trans g]
  ·by_cases G:j=i
   ·subst G;rw[hi]at g;cases g
    rw[TD hiσ]at B;cases B;show#[u,r,.inr #[.inl hk,c,hc,L]]
   ·rw[Ut (Ne.symm G)]at B;obtain⟨u',r',q⟩:=hl j y v' g B U;show#[u',r',?_];rcases q with q|⟨k,R,e,z'⟩
    ·show .inl q
    ·show .inr #[k,R,e,z'.sameBut f ?_];rintro rfl;show G (rm hN g (I.ok.inj _ _ _ e hc▸hi))
  ·by_cases M:R=c
   ·subst M;show#[_,L]
   ·obtain⟨w2,z2⟩:=I.cell y R e;show#[w2,z2.sameBut f M]
  ·obtain⟨e,n,ne,nf,d⟩:=I.pin p hp;show#[(f.2 p.1 ?_).trans e,n,ne,nf,d];intro q;rw[q,O]at e;have q':oc=p.2:=OT e;show d S (by rw[<- q'];show P)
def iR (I:Inv X J Y H s)(c:X.N.Nodup)(hi:X.N[i]?=ba x)(e:Db X.env.scope x)(r:RelV v u)
  (h:∀s',Inv X J (Y.set i (ba v)) H s'->Q () s') (d:X.fn x=true\/X.env.scope.names.lookup x=ba .local):wpAny a A (storeName X.env x u) Q E s:=
 xQ I c hi e r (λs' b _=>h s' b) d
def Inv.call' (I:Inv X J Y H s)(g:s'.os=s.os)(u:Un (vN X.stack) ch H H' s.heap s'.heap)(d:HOk X.prog X.w H' s'.heap)(f:SS s'.gens)
  (a:∀b∈ch,(b∈X.ex\/⇑X.s₀.heap.objs<=b)/\b≠X.env.locals/\(∀x c,X.env.cells.lookup x=ba c->c≠b)/\∀p∈X.pn++J,p.1≠b):Inv X J Y H' s':=by
 obtain⟨h',g',d',t',h⟩:=s';have e:h=s.os:=g;subst e;show I.call (g':=g') (t':=t') (d':=d') u d f a
end
noncomputable abbrev XK:=NC->NJ NR->Hp->Prop
noncomputable abbrev St:=Ny (NJ V)
noncomputable abbrev VK:=V->Hp->Prop
noncomputable abbrev TE:=St->Hp->VK->Prop
noncomputable abbrev TT:=St->Hp->(Oh->Hp->Prop)->Prop
noncomputable abbrev TA:=St->Hp->(Ny V->Hp->Prop)->Prop
structure Ends where
 nx:St->Hp->Prop
 rt:VK
 bk:St->Hp->Prop:=λ_ _=>Pg
 ct:St->Hp->Prop:=λ_ _=>Pg
noncomputable abbrev TS:=Ends->St->Hp->Prop
inductive EP (X:Cx)(J:Ny (NR×Ps))(Y:St)(Q:VK)(u:NC)(s':NH):Prop
 |mk (v:V) (H':Hp) (i:Inv X J Y H' s') (r:RelV v u) (q:Q v H'):EP X J Y Q u s'
inductive TP (X:Cx)(J:Ny (NR×Ps))(Y:St)(Q:Oh->Hp->Prop)(b:Oh)(s':NH):Prop
 |mk (H':Hp) (i:Inv X J Y H' s') (q:Q b H'):TP X J Y Q b s'
inductive AP (X:Cx)(J:Ny (NR×Ps))(Y:St)(Q:Ny V->Hp->Prop)(us:Ny NC)(s':NH):Prop
 |mk (vs:Ny V) (H':Hp) (i:Inv X J Y H' s') (r:Vals vs us) (q:Q vs H'):AP X J Y Q us s'
abbrev SP (X:Cx)(J:Ny (NR×Ps))(D:Ends)(f:Flow)(s':NH):Prop:=
 match f with
 |.next=>∃b a,Inv X J b a s'/\D.nx b a
 |.brk=>∃b a,Inv X J b a s'/\D.bk b a
 |.cont=>∃b a,Inv X J b a s'/\D.ct b a
 |.ret u=>∃v b a,Inv X J b a s'/\RelV v u/\D.rt v a
abbrev PE (X:Cx)(e:Oi)(t:TE):Prop:=
 ∀(J:Ny (NR×Ps)) (s:NH) (Y:St) (H:Hp) (Q:VK),Inv X J Y H s->t Y H Q->wi X (eval e X.env) (EP X J Y Q) X.xe s
abbrev PT (X:Cx)(e:Oi)(t:TT):Prop:=
 ∀(J:Ny (NR×Ps)) (s:NH) (Y:St) (H:Hp) (Q:Oh->Hp->Prop),Inv X J Y H s->t Y H Q->wi X (isTrue e X.env (eval e X.env)) (TP X J Y Q) X.xe s
abbrev PW (X:Cx)(e:Oi)(t:TT):Prop:=
 ∀(a:WW NC) (J:Ny (NR×Ps)) (s:NH) (Y:St) (H:Hp) (Q:Oh->Hp->Prop),Inv X J Y H s->t Y H Q->wi X (isTrue e X.env a) (TP X J Y Q) X.xe s
def PW.pt (h:PW X e t):PT X e t:=h _
abbrev PA (X:Cx)(es:Ny Oi)(t:TA):Prop:=
 ∀(pos:Qr) (J:Ny (NR×Ps)) (s:NH) (Y:St) (H:Hp) (Q:Ny V->Hp->Prop),Inv X J Y H s->t Y H Q->wi X (spliced (backTo pos (starEach es X.env))) (AP X J Y Q) X.xe s
abbrev PS (X:Cx)(st:QG)(t:TS):Prop:=
 ∀(J:Ny (NR×Ps)) (s:NH) (Y:St) (H:Hp) (D:Ends),Inv X J Y H s->t D Y H->wi X (exec st X.env) (SP X J D) X.xe s
abbrev PSs (X:Cx)(st:Ny QG)(t:TS):Prop:=
 ∀(J:Ny (NR×Ps)) (s:NH) (Y:St) (H:Hp) (D:Ends),Inv X J Y H s->t D Y H->wi X (execs st X.env) (SP X J D) X.xe s
def bo (h:wpAny b A t Q E s)(d:∀a s,Q a s->c a s):wpAny b A t c E s:=PK h d λ_ _ x=>x
section
variable{X:Cx}
abbrev GN (i:NF):TE:=λY H Q=>∃v,Y[i]?=ba (ba v)/\Q v H
abbrev tC (v:V):TE:=λ_ H Q=>Q v H
def zo {pos:Qr}(d:X.N[i]?=ba x)(j:LJ X.env.scope x)(hd:(x==("__debug__"))=false:=by decide)(b:(x==("__classdict__"))=false:=by decide):PE X (.Name x pos) (GN i):=by
 intro J s Y H Q I h;obtain⟨v,e,h⟩:=h;obtain⟨m,g,hl⟩:=I.loc;obtain⟨u,r,l⟩:=hl i x v d e j;have fin:EP X _ Y Q u s:=#[v,H,I,r,h];rcases l with⟨hk,f⟩|⟨hk,c,hc,a⟩
 ·show Wn (wpAny_loadName_local I.ok.kind hk g f fin) hd
 ·rcases hk with hk|hk
  ·show Wn (wpAny_loadName_cell I.ok.kind hk hc a fin) hd
  ·show Wn (wpAny_loadName_free I.ok.kind hk hc a fin b) hd
def uc {  pos}:PE X (.Constant (.int i) j pos) (tC (.int i)):=λ_ _ _ H _ I h=>wpAny_Constant_int #[.int i,H,I.tok _,#[_,rfl],h]
def FX {  pos}:PE X (.Constant (.bool b) j pos) (tC (.bl b)):=λ_ _ _ H _ I h=>Constant_bool #[.bl b,H,I,rfl,h]
def zp { pos}:PE X (.Constant .none j pos) (tC .non):=λ_ _ _ H _ I h=>Constant_none #[.non,H,I,rfl,h]
def zq {  pos}:PE X (.Constant (.str x) j pos) (tC (.str x)):=λ_ _ _ H _ I h=>U5 #[.str x,H,I.tok _,#[_,rfl],h]
abbrev Gl (X:Cx)(x:Oc):Prop:=X.env.kindOf x=ba .globalImplicit
def vO {Y:St}(I:Inv X J Y H s)(a:Gl X x)(b:X.mg x=ba u)(h:Q u s)
  (hd:(x==("__debug__"))=false:=by decide):wi X (eval (.Name x pos) X.env) Q E s:=
 Sw I.ok.kind a (Calls.loadGlobal_global (by rw[I.ok.glob];show I.mod.glob.keeps I.bk) b h) hd
def eU {E:NC->NH->Prop}{Y:St}{pos:Qr}(I:Inv X J Y H s)(c:Gl X x)(d:X.mg x=dx)(f:bootBuiltins x=ba u)(h:Q u s)
  (e:x≠"__name__":=by decide) (hd:(x==("__debug__"))=false:=by decide):wi X (eval (.Name x pos) X.env) Q E s:=by
 obtain⟨g,a,b⟩:=I.mod.blt;show Sw I.ok.kind c (Calls.loadGlobal_builtin (by rw[I.ok.glob];show I.mod.glob.keeps I.bk) d (by rw[I.ok.blt];show a.keeps I.bk) ((b x e).trans f) h) hd
def Dc {pos:Qr}(a:Gl X x)(b:X.mg x=dx)(d:bootBuiltins x=ba u)(r:RelV v u)(c:x≠"__name__":=by decide)(hd:(x==("__debug__"))=false:=by decide):PE X (.Name x pos) (tC v):=
 λ_ _ _ H _ I h=>eU I a b d #[v,H,I,r,h] c hd
variable{a b:Oi}{ta tb:TE}{pos:Qr}
variable{tA tB':TT}{cf:Ny Oi}
abbrev JH (t u:TT):TT:=λY H Q=>t Y H λc a=>if c=true then u Y a Q else Q false a
abbrev Na (t u:TT):TT:=λY H Q=>t Y H λc a=>if c=true then Q true a else u Y a Q
abbrev LV (t:TT):TT:=λY H Q=>t Y H λc a=>Q (!c) a
def De (b:PT X a tA):PW X (.BoolOp .And [a] pos) tA:=by
 intro f J s Y H Q I h;show isTrue_and (bo (b _ s Y H Q I h) λc d e=>?_)
 cases c with
 |true=>show isTrue_and_nil e
 |false=>show e
def GP (b:PT X a tA):PW X (.BoolOp .Or [a] pos) tA:=by
 intro f J s Y H Q I h;show isTrue_or (bo (b _ s Y H Q I h) λc d e=>?_)
 cases c with
 |false=>show isTrue_or_nil e
 |true=>show e
def GQ (e:PT X a tA)(f:PW X (.BoolOp .And (b::cf) pos) tB'):PW X (.BoolOp .And (a::b::cf) pos) (JH tA tB'):=by
 intro i J s Y H Q I h;show isTrue_and (bo (e _ s Y H _ I h) λc g #[d,I1,q1]=>?_)
 cases c with
 |true=>show f i _ g Y d Q I1 q1
 |false=>show#[d,I1,q1]
def JI (e:PT X a tA)(f:PW X (.BoolOp .Or (b::cf) pos) tB'):PW X (.BoolOp .Or (a::b::cf) pos) (Na tA tB'):=by
 intro i J s Y H Q I h;show isTrue_or (bo (e _ s Y H _ I h) λc g #[d,I1,q1]=>?_)
 cases c with
 |true=>show#[d,I1,q1]
 |false=>show f i _ g Y d Q I1 q1
def GR (d:PT X a tA):PT X (.UnaryOp .Not a pos) (LV tA):=by
 intro J s Y H Q I h;show isTrue_not (bo (d _ s Y H (λc b=>Q _ b) I h) λ_ _ #[b,i,q]=>#[b,i,q])
abbrev JJ (ta tb:TE):TE:=λY H Q=>ta Y H λx a=>∃c,x=.bl c/\if c=true then tb Y a Q else Q (.bl false) a
abbrev LW (ta tb:TE):TE:=λY H Q=>ta Y H λx a=>∃c,x=.bl c/\if c=true then Q (.bl true) a else tb Y a Q
abbrev JK (ta:TE):TE:=λY H Q=>ta Y H λx a=>∃c,x=.bl c/\Q (.bl (!c)) a
def GU {op}(h:PE X a t):PE X (.BoolOp op [a] pos) t:=λJ s Y H Q I hw=>BoolOp_one (h _ s Y H Q I hw)
def GV (e:PE X a ta)(f:PE X (.BoolOp .And (b::cf) pos) tb):PE X (.BoolOp .And (a::b::cf) pos) (JJ ta tb):=by
 intro J s Y H Q I h;show BoolOp_and (bo (e _ s Y H _ I h) λv g #[x,H1,I1,r1,d]=>?_)
 obtain⟨c,rfl,d⟩:=d;cases r1;show Pu ?_;cases c with
 |true=>show f _ g Y H1 Q I1 d
 |false=>show#[.bl _,H1,I1,rfl,d]
def JL (e:PE X a ta)(f:PE X (.BoolOp .Or (b::cf) pos) tb):PE X (.BoolOp .Or (a::b::cf) pos) (LW ta tb):=by
 intro J s Y H Q I h;show BoolOp_or (bo (e _ s Y H _ I h) λv g #[x,H1,I1,r1,d]=>?_)
 obtain⟨c,rfl,d⟩:=d;cases r1;show Pu ?_;cases c with
 |false=>show f _ g Y H1 Q I1 d
 |true=>show#[.bl _,H1,I1,rfl,d]
def GX (d:PE X a ta):PE X (.UnaryOp .Not a pos) (JK ta):=by
 intro J s Y H Q I h;show UnaryOp_ (bo (d _ s Y H _ I h) λv e #[x,H1,I1,r1,b]=>?_)
 obtain⟨c,rfl,b⟩:=b;cases r1;show not_of (Pu #[.bl _,H1,I1,rfl,b])
abbrev Nk (t:TT)(ta tb:TE):TE:=λY H Q=>t Y H λc a=>if c=true then ta Y a Q else tb Y a Q
def zr (hc:PT X c tA)(g:PE X a ta)(i:PE X b tb):PE X (.IfExp c a b pos) (Nk tA ta tb):=by
 intro J s Y H Q I h;show wpAny_IfExp (bo (hc _ s Y H _ I h) λd f #[e,I1,q1]=>?_)
 cases d with
 |true=>show g _ f Y e Q I1 q1
 |false=>show i _ f Y e Q I1 q1
end
abbrev SqL (K:NY)(H:Hp)(a:NR)(xs:Ny V):Prop:=
 Rd H a (.lst xs)\/
  ∃(o:Ps) (its:OU NC) (n:NF),K.lookup a=ba o/\o.cls=.type "list"/\o.dict=dx/\o.data=.seq its n/\⇑its<=sizeLine/\Vals xs its.toList
abbrev SqT (K:NY)(H:Hp)(a:NR)(xs:Ny V):Prop:=
 Rd H a (.tup xs)\/
  ∃(o:Ps) (its:OU NC) (n:NF),K.lookup a=ba o/\o.cls=.type "tuple"/\o.dict=dx/\o.data=.seq its n/\⇑its<=sizeLine/\Vals xs its.toList
abbrev LX:NC->NJ V
 |.none=>ba .non
 |.bool b=>ba (.bl b)
 |.int i _=>ba (.int i)
 |.str x _=>ba (.str x)
 |.bytes b _=>ba (.byt b)
 |.float b _=>ba (.flt b)
 |.ref a=>ba (.ref a)
 |.type n=>ba (.ty n)
 |_=>dx
def RelV.abs (r:RelV x u):LX u=ba x:=by
 cases x with
 |non=>cases r;rfl
 |bl _=>cases r;rfl
 |int _=>obtain⟨t,rfl⟩:=r;rfl
 |str _=>obtain⟨t,rfl⟩:=r;rfl
 |byt _=>obtain⟨t,rfl⟩:=r;rfl
 |flt _=>obtain⟨t,rfl⟩:=r;rfl
 |ref _=>cases r;rfl
 |ty _=>cases r;rfl
def RelV.inj (r:RelV x u)(q:RelV y u):x=y:=OT (r.abs.symm.trans q.abs)
def Vals.inj:∀{xs a:Ny V}{us:Ny NC},Vals xs us->Vals a us->xs=a
 |_,_,_,.nil,.nil=>rfl
 |_,_,_,.cons r t,.cons b t'=>by rw[r.inj b,Vals.inj t t']
section
variable{X:Cx}{J:Ny (NR×Ps)}{Y:St}{H:Hp}{s:NH}{a:NR}{xs ys:Ny V}
def SqL.of {K:NY}(h:H a=ba (.lst xs)):SqL K H a xs:=.inl (.inl h)
def SqT.of {K:NY}(h:H a=ba (.tup xs)):SqT K H a xs:=.inl (.inl h)
def Inv.list (I:Inv X J Y H s)(h:SqL X.K H a xs):∃b:Ny NC,Vals xs b/\PlainL s.heap a b.toArray/\↥xs<=sizeLine:=by
 rcases h with h|⟨o,b,n,hk,hc,hd,c,d,r⟩
 ·obtain⟨z,b,n,r,e⟩:=h.ok I.hok;show#[b,r,#[_,n,e,rfl,rfl,rfl],z]
 ·show#[b.toList,r,#[o,n,I.kIn a o hk,hc,hd,by simpa using c],?_]
  have e:=↥r;simp only[Ov]at e;omega
def Inv.tuple (I:Inv X J Y H s)(h:SqT X.K H a xs):∃b:Ny NC,Vals xs b/\Ti s.heap a b.toArray/\↥xs<=sizeLine:=by
 rcases h with h|⟨o,b,n,hk,hc,hd,c,d,r⟩
 ·obtain⟨z,b,r,p⟩:=h.ok I.hok;show#[b,r,p,z.1]
 ·show#[b.toList,r,#[o,I.kIn a o hk,hc,n,by simpa using c],?_]
  have e:=↥r;simp only[Ov]at e;omega
def Inv.list_inj (I:Inv X J Y H s)(h:SqL X.K H a xs)(h':SqL X.K H a ys):xs=ys:=by
 obtain⟨c,r,⟨o,n,e,_,_,d⟩,_⟩:=I.list h;obtain⟨b,g,⟨j,i,f,_,_,d'⟩,_⟩:=I.list h';rw[e]at f;cases f
 rw[d]at d';injection d' with d1 _
 have:c=b:=by simpa using congrArg W3 d1
 subst this;show r.inj g
def Inv.tuple_inj (I:Inv X J Y H s)(h:SqT X.K H a xs)(h':SqT X.K H a ys):xs=ys:=by
 obtain⟨c,r,⟨o,e,_,n,d⟩,_⟩:=I.tuple h;obtain⟨b,g,⟨j,f,_,i,d'⟩,_⟩:=I.tuple h';rw[e]at f;cases f
 rw[d]at d';injection d' with d1 _
 have:c=b:=by simpa using congrArg W3 d1
 subst this;show r.inj g
end
noncomputable abbrev Cx.wish (X:Cx)(E:NC->NH->Prop):Cx:={X with xe:=E}
noncomputable abbrev Cx.nox (X:Cx):Cx:=X.wish λ_ _=>Pg
def Cx.Ok.wish {X:Cx}(ok:X.Ok)(E:NC->NH->Prop):(X.wish E).Ok:=
 #[ok.mod,ok.kind,ok.glob,ok.blt,ok.above,ok.inj,ok.has,ok.cab,ok.hd,ok.frames,ok.stk,ok.exf,ok.bs,ok.bsz,ok.noex,ok.exfs,ok.funs,ok.frf]
def Cx.Ok.unwish {X:Cx}(ok:(X.wish E).Ok):X.Ok:=
 #[ok.mod,ok.kind,ok.glob,ok.blt,ok.above,ok.inj,ok.has,ok.cab,ok.hd,ok.frames,ok.stk,ok.exf,ok.bs,ok.bsz,ok.noex,ok.exfs,ok.funs,ok.frf]
section
variable{X:Cx}{J:Ny (NR×Ps)}{Y:St}{H:Hp}{s:NH}{E:NC->NH->Prop}
def Inv.wish (I:Inv X J Y H s)(E:NC->NH->Prop):Inv (X.wish E) J Y H s:=#[I.ok.wish E,I.os,I.bare,I.base,I.loc,I.cell,I.free,I.freeC,I.pin,I.hok,I.len]
def Inv.unwish (I:Inv (X.wish E) J Y H s):Inv X J Y H s:=#[I.ok.unwish,I.os,I.bare,I.base,I.loc,I.cell,I.free,I.freeC,I.pin,I.hok,I.len]
def SP.unwish (h:SP (X.wish E) J D f s'):SP X J D f s':=by
 cases f with
 |next=>obtain⟨b,a,I,q⟩:=h;show#[b,a,I.unwish,q]
 |brk=>obtain⟨b,a,I,q⟩:=h;show#[b,a,I.unwish,q]
 |cont=>obtain⟨b,a,I,q⟩:=h;show#[b,a,I.unwish,q]
 |ret u=>obtain⟨v,b,a,I,r,q⟩:=h;show#[v,b,a,I.unwish,r,q]
def PSs.nox {st:Ny QG}(h:PSs X.nox st t):PSs X st t:=λJ s Y H D I hw=>
 PK (h _ s Y H D (I.wish _) hw) (λ_ _ q=>q.unwish) λ_ _ z=>Pg.elim z
end
section
variable{X:Cx}{st:QG}{cf:Ny QG}{t u:TS}{e:Oi}{te:TE}{pos:Qr}
abbrev zt:TS:=λD Y H=>D.nx Y H
abbrev LY (t u:TS):TS:=λD Y H=>t {D with nx:=u D} Y H
def Dg:PSs X [] zt:=λ_ _ Y H _ I h=>T4 #[Y,H,I,h]
def zu (d:PS X st t)(e:PSs X cf u):PSs X (st::cf) (LY t u):=by
 intro J s Y H D I h;show wpAny_execs_cons (bo (d _ s Y H _ I h) λf g q=>?_)
 cases f with
 |next=>
  obtain⟨c,a,b,q⟩:=q;show e _ g c a D b q
 |ret v=>show q
 |brk=>show q
 |cont=>show q
def Dh:PS X (.Pass pos) zt:=λ_ _ Y H _ I h=>wpAny_Pass #[Y,H,I,h]
def Inv.quiet {Y:St}(I:Inv X J Y H s):interactive X.env=false:=by simp[interactive,I.ok.kind]
def GY {   pos'}:PS X (.Expr (.Constant (.str x) j pos) pos') zt:=λ_ s Y H _ I h=>wpAny_Expr (U5 (show SP X _ _ .next {s with toks:=s.toks+1} from#[Y,H,I.tok _,h])) I.quiet
abbrev JM (te:TE):TS:=λD Y H=>te Y H λ_ a=>D.nx Y a
def Di (a:PE X e te)(b:swapsWith e dx pos.line X.env=pure false:=by rfl):PS X (.Expr e pos) (JM te):=by
 intro J s Y H D I h;show wpAny_Expr_any (bo (a _ s Y H _ I h) λv c #[x,H1,I1,r1,q1]=>#[Y,H1,I1,q1]) I.quiet b
abbrev LZ (te:TE):TS:=λD Y H=>te Y H D.rt
def GZ (a:PE X e te):PS X (.Return (ba e) pos) (LZ te):=by
 intro J s Y H D I h;show wpAny_Return_some (bo (a _ s Y H _ I h) λv b #[x,H1,I1,r1,q1]=>#[x,Y,H1,I1,r1,q1])
abbrev L3 (c:TT)(t u:TS):TS:=λD Y H=>c Y H λb a=>if b=true then t D Y a else u D Y a
def JN (hc:PT X c g)(i:PSs X a t)(j:PSs X b u):PS X (.If c a b pos) (L3 g t u):=by
 intro J s Y H D I h;show wpAny_If (bo (hc _ s Y H _ I h) λd f #[e,I1,q1]=>?_)
 cases d with
 |true=>show i _ f Y e D I1 q1
 |false=>show j _ f Y e D I1 q1
end
noncomputable abbrev TG:=V->St->Hp->(St->Hp->Prop)->Prop
noncomputable abbrev G0:=Ny V->St->Hp->(St->Hp->Prop)->Prop
abbrev PG (X:Cx)(a:Oi)(t:TG):Prop:=
 ∀(J:Ny (NR×Ps)) (s:NH) (Y:St) (H:Hp) (v:V) (u:NC) (Q:St->Hp->Prop),Inv X J Y H s->RelV v u->t v Y H Q->
  wi X (assign a X.env u) (λ_ s'=>∃c b,Inv X J c b s'/\Q c b) X.xe s
abbrev JO (X:Cx)(ts:Ny Oi)(t:G0):Prop:=
 ∀(J:Ny (NR×Ps)) (s:NH) (Y:St) (H:Hp) (vs:Ny V) (us:Ny NC) (Q:St->Hp->Prop),Inv X J Y H s->Vals vs us->t vs Y H Q->
  wi X (assignInOrder ((assignEach ts X.env).map (·.2)) us) (λ_ s'=>∃b a,Inv X J b a s'/\Q b a) X.xe s
noncomputable abbrev G1:=V->V->V->Hp->(Hp->Prop)->Prop
abbrev G2 (X:Cx)(t:G1):Prop:=
 ∀(J:Ny (NR×Ps)) (s:NH) (Y:St) (H:Hp) (o i v:V) (ov iv u:NC) (Q:Hp->Prop),Inv X J Y H s->RelV o ov->RelV i iv->RelV v u->t o i v H Q->
  wi X (setItem ov iv u) (λ_ s'=>∃a,Inv X J Y a s'/\Q a) X.xe s
section
variable{X:Cx}{pos:Qr}
abbrev JP (i:NF):TG:=λv Y H Q=>Q (Y.set i (ba v)) H
def vP (b:X.N.Nodup)(hi:X.N[i]?=ba x)(d:Db X.env.scope x)(c:X.fn x=true\/X.env.scope.names.lookup x=ba .local):PG X (.Name x pos) (JP i):=by
 intro J s Y H v u Q I r h;show Vk (iR I b hi d r (λs' a=>#[_,H,a,h]) c)
abbrev L4:G0:=λvs Y H Q=>vs=[]/\Q Y H
abbrev JQ (t:TG)(u:G0):G0:=λvs Y H Q=>∃v r,vs=v::r/\t v Y H λb a=>u r b a Q
def Dj:JO X [] L4:=by
 intro J s Y H vs us Q I r h;obtain⟨e,h⟩:=h;subst e;cases r;show Vl #[Y,H,I,h]
def zv (c:PG X e t)(d:JO X es u)
  (f:(assignEach (e::es) X.env).map (·.2)=assign e X.env::(assignEach es X.env).map (·.2):=by rfl):JO X (e::es) (JQ t u):=by
 intro J s Y H vs us Q I r h;obtain⟨v,j,b,h⟩:=h;subst b;cases r with
 |cons r g=>
  rw[f];show Sx (bo (c _ s Y H _ _ _ I r h) λ_ i #[a,H1,I1,q1]=>?_)
  show d _ i a H1 _ _ Q I1 g q1
abbrev L5 (K:NY)(n:NF)(t:G0):TG:=λv Y H Q=>∃a xs,v=.ref a/\SqT K H a xs/\↥xs=n/\t xs Y H Q
def G3 {k:NF}(hc:X.calm=true)(h:JO X es t)
  (i:(assignEach es X.env).length=n:=by rfl) (c:(assignEach es X.env).findIdx? (·.1)=dx:=by rfl):PG X (.Tuple es k pos) (L5 X.K n t):=by
 intro J s Y H v u Q I r hw;obtain⟨a,xs,g,j,hl,hw⟩:=hw;subst g;cases r;obtain⟨p,d,l,q⟩:=I.tuple j;show assign_Tuple_tuple (I.ok.hd hc) l (by simp[i,<- hl,↥d]) c λh' m=>?_
 have f:Inv X _ Y H {s with heap:=h'}:=I.kept  λb o e=>m b o (Oe (N8 e)) e
 show h _ _ Y H xs _ Q f (by simpa using d) hw
abbrev L6 (e d:TE)(t:G1):TG:=λv Y H Q=>e Y H λo a=>d Y a λi b=>t o i v b λc=>Q Y c
def G4 (g:PE X o d)(hi:PE X i c)(j:G2 X t)
  (f:∀v,assign (.Subscript o i pos) X.env v=(do
   let a <- holding [v] (eval o X.env)
   let b <- holding [v,a] (eval i X.env)
   standAt pos
   holding [v,a,b] (setItem a b v)
   release [v,a,b] []):=by intro _;rfl):PG X (.Subscript o i pos) (L6 d c t):=by
 intro J s Y H v u Q I r h;rw[f];show NA (Pc (bo (g _ s Y H _ I h) λa k #[x,H1,I1,r1,q1]=>?_))
 show NA (Pc (bo (hi _ k Y H1 _ I1 q1) λb l #[y,H2,I2,r2,q2]=>?_))
 show NA (Sg (NA (Pc (bo (j _ l Y H2 x y v a b u _ I2 r1 r2 r q2) λ_ m #[e,I3,q3]=>?_))))
 show wpAny_release #[Y,e,I3,q3]
abbrev L7 (b:TE)(g:TG):TS:=λD Y H=>b Y H λx a=>g x Y a D.nx
def G5 (c:PE X e a)(d:PG X tg g)(f:swapsWithSole [tg] e pos.line X.env=pure false:=by rfl)(hw:swappedStores [tg] e X.env=pure dx:=by rfl)
  (b:(assignEach [tg] X.env).map (·.2)=[assign tg X.env]:=by rfl):PS X (.Assign [tg] e pos) (L7 a g):=by
 intro J s Y H D I h;show wpAny_Assign_stores (bo (c _ s Y H _ I h) λv i #[x,H1,I1,r1,q1]=>?_) f hw
 rw[b];show bo (d _ i Y H1 x v _ I1 r1 q1) λ_ j q=>q
abbrev L8 (i j:NF)(b:TA):TS:=λD Y H=>b Y H λvs a=>∃v w,vs=[v,w]/\D.nx ((Y.set i (ba v)).set j (ba w)) a
def G6 {  pt2}(hc:X.calm=true)(t:X.N.Nodup)(hi:X.N[i]?=ba x)(M:X.N[j]?=ba y)(g:i≠j)
  (u:X.env.scope.names.lookup x=ba .local) (z:X.env.scope.names.lookup y=ba .local) (L:PA X [a,b] A)
  (hw:swappedStores [.Tuple [.Name x l,.Name y py] kt pt] (.Tuple [a,b] k2 pt2) X.env=pure (ba [x,y]))
  (N:swapsWithSole [.Tuple [.Name x l,.Name y py] kt pt] (.Tuple [a,b] k2 pt2) pos.line X.env=pure false:=by rfl) :
  PS X (.Assign [.Tuple [.Name x l,.Name y py] kt pt] (.Tuple [a,b] k2 pt2) pos) (L8 i j A):=by
 intro J s Y H D I h;rw[exec_Assign_arm];show NA (Sg ?_);rw[N];show NA (NN ?_);rw[Ot #v[]]
 show NA (Tuple_ (bo (L _ J s Y H _ I h) λus c #[vs,H1,I1,r1,m]=>?_))
 obtain⟨v,w,G,m⟩:=m;subst G;obtain⟨d,f,rfl,Q,n⟩:∃d f,us=[d,f]/\RelV v d/\RelV w f:=by
  cases r1 with
  |cons p q=>
   cases q with
   |cons O P=>
    cases P;show#[_,_,rfl,p,O]
 show OQ ?_ (by change 2<=sizeLine;decide)
 have B:Inv X J Y H1 {c with heap:=c.heap.push {cls:=.type "tuple",data:=.seq [d,f].toArray}}:=I1.kept (t':=c.toks) λb o e=>ND _ e
 rw[hw];show NA (NN ?_);change wi X (do rule "assign.swapped-stores";let items <- unpackItems (.ref ⇑c.heap.objs) 2 dx;assignInOrder [λv=>bindName X.env y v,λv=>bindName X.env x v] items.reverse;pure X0) _ _ _
 show NA (Sy (NA (unpackItems_tuple (items:=[d,f].toArray) (I.ok.hd hc) (UK c.heap _) λh' k=>?_)))
 have C:=B.kept (h':=h') (t':=c.toks) λb o e=>k b o (Oe (N8 e)) e
 change wpAny _ _ (assignInOrder [λv=>bindName X.env y v,λv=>bindName X.env x v] [f,d] >>= λ_=>pure X0) _ _ _
 show NA (Sx (Wo (iR C t M (.inl z) n (λR E=>?_) (.inr z))))
 show Sx (Wo (iR E t hi (.inl u) Q (λS r=>Vl (NN ?_)) (.inr u)))
 rw[List.set_comm _ _ (Ne.symm g)]at r;show#[_,H1,r,m]
abbrev G7 (c:TT)(g:TS):TS:=λD Y H=>∃W:NF->St->Hp->Prop,(∃m,W m Y H)/\∀m Y H,W m Y H->
 c Y H λb d=>if b=true then ∃N:St->Hp->Prop,(∀e a,N e a->∃f,f<m/\W f e a)/\g {D with nx:=N,ct:=N,bk:=D.nx} Y d else D.nx Y d
def zw (t:UL (model X.prog X.w) X.A X.env X.xe)(hc:PT X c w)(y:PSs X body u):PS X (.While c body [] pos) (G7 w u):=by
 intro J s Y H D I h;obtain⟨W,⟨m0,B⟩,turn⟩:=h;show wpAny_While (codeAny_whileLoop (λn s'=>∃q m,Inv X _ q m s'/\W n q m) ?_ m0 #[Y,H,I,B])
 rintro n z ⟨e,o,x,C⟩;show QA t (bo (hc _ z e o _ x (turn n e o C)) λb A #[p,I2,g]=>?_)
 cases b with
 |true=>
  obtain⟨N,r,g⟩:=g;show QA t (bo (y _ A e p _ I2 g) λf E i=>?_)
  cases f with
  |next=>
   obtain⟨d,a,j,n3⟩:=i;obtain⟨l,k,w3⟩:=r d a n3;show#[l,k,d,a,j,w3]
  |cont=>
   obtain⟨d,a,j,n3⟩:=i;obtain⟨l,k,w3⟩:=r d a n3;show#[l,k,d,a,j,w3]
  |brk=>show i
  |ret v=>show i
 |false=>
  show T4 #[e,p,I2,g]
end
structure It where
 go:NF->Hp->Prop
 yld:NF->Hp->V->Hp->Prop
 stop:NF->Hp->Prop
abbrev jC (X:Cx)(J:Ny (NR×Ps))(H:Hp)(b:NR):Prop:=
 H b=dx/\b≠X.env.locals/\b∉X.fs/\(b∈X.ex\/⇑X.s₀.heap.objs<=b)/\(∀x c,X.env.cells.lookup x=ba c->c≠b)/\∀p∈X.pn++J,p.1≠b
def Inv.fpOk {Y:St}{b:NR}(I:Inv X J Y H s)(a:⇑s.heap.objs<=b)(f:d b=dx):jC X J d b:=by
 show#[f,O2 (N5 I.lt a),I.nofs a,.inr (N9 I.sz a),λx c e z=>?_,λp g z=>?_]
 ·obtain⟨v,q⟩:=I.cell x c e;show absurd (N5 q.lt (by rw[z];show a)) (Pf _)
 ·show absurd (N5 (N8 (I.pin p g).1) (by rw[z];show a)) (Pf _)
structure Turn (P:Op)(w:OF)(K:NY)(tg:Oi)(td:It)(fp:Ny NR)(it:NR)(tn:NF->OM->Prop):Prop where
 mem:it∈fp
 obj:∀i h,tn i h->∀b∈fp,∃o,h.get? b=ba o/\∀v,o.data≠.cell v
 keep:∀i h h',tn i h->(∀b∈fp,∀o,h.get? b=ba o->h'.get? b=ba o)->tn i h'
 item:∀(X:Cx),X.prog=P->X.w=w->X.K=K->X.calm=true->∀(i:NF) (J:Ny (NR×Ps)) (s:NH) (Y:St) (H:Hp) (E:NC->NH->Prop),Inv X J Y H s->(∀b∈fp,jC X J H b)->tn i s.heap->td.go i H->
  wpAny (model P w) X.A (pyNext (.ref it)) (λr s1=>∃u,r=ba u/\
   wpAny (model P w) X.A (letOwnedTupleGo tg (.ref it) u) (λ_ s2=>∃x H',Inv X J Y H' s2/\RelV x u/\td.yld i H x H'/\tn (i+1) s2.heap/\∀b∈fp,H' b=dx) E s1) E s
 done:∀(X:Cx),X.prog=P->X.w=w->X.K=K->X.calm=true->∀(i:NF) (J:Ny (NR×Ps)) (s:NH) (Y:St) (H:Hp) (E:NC->NH->Prop),Inv X J Y H s->(∀b∈fp,jC X J H b)->tn i s.heap->td.stop i H->
  wpAny (model P w) X.A (pyNext (.ref it)) (λr s1=>r=dx/\Inv X J Y H s1) E s
 self:∀(A:OD) (i:NF) (s:NH) (Q:NC->NH->Prop) (E:NC->NH->Prop),tn i s.heap->Q (.ref it) s->wpAny (model P w) A (pyIter (.ref it)) Q E s
noncomputable abbrev TI:=St->Hp->(It->Hp->Prop)->Prop
abbrev LK (X:Cx)(J:Ny (NR×Ps))(Y:St)(tg:Oi)(R:It->Hp->Prop)(a:NC)(d:NH):Prop:=
 ∃(it:NR) (c:Ny NR) (tn:NF->OM->Prop) (td:It) (H':Hp),a=.ref it/\Inv X J Y H' d/\Turn X.prog X.w X.K tg td c it tn/\tn 0 d.heap/\(∀b∈c,jC X J H' b)/\R td H'
abbrev PI (X:Cx)(tg iter:Oi)(b:TI):Prop:=
 ∀(J:Ny (NR×Ps)) (s:NH) (Y:St) (H:Hp) (R:It->Hp->Prop),Inv X J Y H s->b Y H R->
  wi X (eval iter X.env) (λv a=>wi X (pyIter v) (LK X J Y tg R) X.xe a) X.xe s
def vQ (d:s.heap.get? it=ba o)(hc:o.cls=.type n)(hd:o.data=.fields vs)
    (c:["enumerate","zip","dict_itemiterator","dict_reverseitemiterator","odict_iterator","itertools.zip_longest","itertools.pairwise"].contains n=false) (b:Q () s):wpAny a A (letOwnedTupleGo tg (.ref it) u) Q E s:=by
  unfold letOwnedTupleGo;cases tg<;>first
    |show NN b
    |(cases u<;>first
        |show NN b
        | (show NA (U6 d ?_)
           rw[hc,hd];change wpAny a A (if (["enumerate","zip","dict_itemiterator","dict_reverseitemiterator","odict_iterator","itertools.zip_longest","itertools.pairwise"].contains n&&vs[0]?==ba (rawInt _))=true then _ else _) Q E s
           rw[Ot (by intro h;rw[c,Wq]at h;cases h)]
           show NN b))
abbrev L9 (K:NY)(a:NR):It:=
 #[λi H=>∃xs x,SqL K H a xs/\xs[i]?=ba x,λi H x b=>b=H/\∀xs,SqL K H a xs->xs[i]?=ba x,λi H=>∃xs,SqL K H a xs/\↥xs<=i]
abbrev JB (K:NY)(a:NR):It:=
 #[λi H=>∃xs x,SqT K H a xs/\xs[i]?=ba x,λi H x b=>b=H/\∀xs,SqT K H a xs->xs[i]?=ba x,λi H=>∃xs,SqT K H a xs/\↥xs<=i]
abbrev JR (lo:NV)(n:NF):It:=#[λi _=>i<n,λi H x a=>a=H/\x=.int (lo+i),λi _=>n<=i]
def xR {K:NY}(a it:NR):Turn P w K tg (L9 K a) [it] it (λi h=>h.IsListIter it a i) where
 mem:=by simp
 obj:=λi h st b f=>by
  have e:b=it:=by simpa using f
  subst e;obtain⟨o,e,c,d⟩:=st;show#[o,e,λv z=>by rw[d]at z;cases z]
 keep:=λi h h' st k=>st.at λo e=>k it (by simp) o e
 item:=by
  intro X y hw hK hc i J s Y H E I j st A;subst y hw hK;obtain⟨xs,x,l,B⟩:=A;obtain⟨C,D,p,Q⟩:=I.list l;obtain⟨u,N,R⟩:=D.get B;obtain⟨m,n,M,q,r,t⟩:=j it (by simp)
  show TF st p.isList  (by simpa using N) λh' g S=>?_
  have G:Inv X _ Y H {s with heap:=h'}:=I.turned  (λb o f e=>(S.2 b f).trans e) m n q r t
  obtain⟨o,e,c,d⟩:=id g;show#[u,rfl,vQ  e c d #v[] #[x,H,G,R,#[rfl,λT O=>by rw[I.list_inj O l];show B],g,λb f=>(j b f).1]]
 done:=by
  intro X y hw hK hc i J s Y H E I j st A;subst y hw hK;obtain⟨xs,l,B⟩:=A;obtain⟨C,D,p,Q⟩:=I.list l;obtain⟨m,n,M,q,r,t⟩:=j it (by simp)
  have hl:=↥D;show Ui (I.ok.hd hc) st p.isList (by simp;omega) λh' L=>#[rfl,I.turned  (λb o f e=>L b o f e) m n q r t]
 self:=λ_ _ _ _ _ st h=>wpAny_pyIter_listiter st h
def ud {K:NY}(a it:NR):Turn P w K tg (JB K a) [it] it (λi h=>h.IsTupleIter it a i) where
 mem:=by simp
 obj:=λi h st b f=>by
  have e:b=it:=by simpa using f
  subst e;obtain⟨o,e,c,d⟩:=st;show#[o,e,λv z=>by rw[d]at z;cases z]
 keep:=λi h h' st k=>st.at λo e=>k it (by simp) o e
 item:=by
  intro X y hw hK hc i J s Y H E I j st A;subst y hw hK;obtain⟨xs,x,l,B⟩:=A;obtain⟨C,D,p,Q⟩:=I.tuple l;obtain⟨u,N,R⟩:=D.get B;obtain⟨m,n,M,q,r,t⟩:=j it (by simp)
  show wpAny_pyNext_tuple_item st p  (by simpa using N) λh' g S=>?_
  have G:Inv X _ Y H {s with heap:=h'}:=I.turned  (λb o f e=>(S.2 b f).trans e) m n q r t
  obtain⟨o,e,c,d⟩:=id g;show#[u,rfl,vQ  e c d #v[] #[x,H,G,R,#[rfl,λT O=>by rw[I.tuple_inj O l];show B],g,λb f=>(j b f).1]]
 done:=by
  intro X y hw hK hc i J s Y H E I j st A;subst y hw hK;obtain⟨xs,l,B⟩:=A;obtain⟨C,D,p,Q⟩:=I.tuple l;obtain⟨m,n,M,q,r,t⟩:=j it (by simp)
  have hl:=↥D;show wpAny_pyNext_tuple_end (I.ok.hd hc) st p (by simp;omega) λh' L=>#[rfl,I.turned  (λb o f e=>L b o f e) m n q r t]
 self:=λ_ _ _ _ _ st h=>wpAny_pyIter_tupleiter st h
def ue {K:NY}(it:NR)(lo:NV)(n:NF):Turn P w K tg (JR lo n) [it] it (λi h=>Xh h it (lo+i*1) (n-i) 1) where
 mem:=by simp
 obj:=λi h st b a=>by
  have e:b=it:=by simpa using a
  subst e;show#[_,st,λv z=>by
   have B:=z;cases B]
 keep:=λi h h' st k=>k it (by simp) _ st
 item:=by
  intro X q hw hK hc i J s Y H E I d st p;subst q hw hK;obtain⟨f,g,x,j,l,m⟩:=d it (by simp)
  have W:=Walks.range (prog:=X.prog) (w:=X.w) (I.ok.hd hc) it lo 1 n;show W.item i s _ _ p st λv h' tk y c A=>?_
  obtain⟨t,rfl⟩:=y;have r:Inv X _ Y H (xc s h' tk):=I.turned (λb o a e=>A b o (by simpa using a) e) f g j l m
  show#[_,rfl,vQ   c rfl rfl #v[] #[.int _,H,r,#[t,?_],#[rfl,rfl],c,λb a=>(d b a).1]]
  rw[Int.mul_one]
 done:=by
  intro X q hw hK hc i J s Y H E I d st p;obtain⟨f,g,x,j,l,m⟩:=d it (by simp)
  show wpAny_pyNext_range_end (I.ok.hd hc) st (by have:n<=i:=p;omega) λh' u=>#[rfl,I.turned  (λb o a e=>u b o a e) f g j l m]
 self:=λ_ _ _ _ _ st h=>wpAny_pyIter_rangeiter st h
section
variable{X:Cx}{tg:Oi}
def rn {Y:St}{lo :NV}(I:Inv X J Y H s)(f : -(2^62)<=lo)(g:lo<2^62)(h : -(2^62)<=hi)(i:hi<2^62)
  (q:R (JR lo (hi-lo).toNat) H):wi X (pyIter (.ref ⇑s.heap.objs)) (LK X J Y tg R) E {s with heap:=s.heap.push {cls:=.type "range",data:=.fields [.int lo t,.int hi u,.int 1 v].toArray},toks:=tk}:=by
 show wpAny_pyIter_range (IsRange.new ..) (WX f g h i) ?_;have a:Inv X J Y H {s with heap:=s.heap.push {cls:=.type "range",data:=.fields [.int lo t,.int hi u,.int 1 v].toArray},toks:=tk}:=I.kept λb o e=>ND _ e
 show#[(s.heap.push {cls:=.type "range",data:=.fields [.int lo t,.int hi u,.int 1 v].toArray}).objs.size,[(s.heap.push {cls:=.type "range",data:=.fields [.int lo t,.int hi u,.int 1 v].toArray}).objs.size],_,_,H,rfl,
  a.kept (t':=tk) λb o e=>ND _ e,ue _ lo (hi-lo).toNat,?_,λb j=>?_,q]
 ·have c:lo+((0:NF):NV)*1=lo:=by simp
  have d:(((hi-lo).toNat:NF):NV)-((0:NF):NV)=PR lo hi 1:=by rw[UR];split<;>omega
  change Xh _ _ (lo+((0:NF):NV)*1) ((((hi-lo).toNat:NF):NV)-((0:NF):NV)) 1;rw[c,d];show N2 _ rfl
 ·have e:b=(s.heap.push {cls:=.type "range",data:=.fields [.int lo t,.int hi u,.int 1 v].toArray}).objs.size:=by simpa using j
  subst e;show a.fpOk (NP _) (a.hok.fresh (NP _))
abbrev JS (b:TA):TI:=λY H R=>b Y H λvs a=>∃j:NV,vs=[.int j]/\-(2^62)<=j/\j<2^62/\R (JR 0 j.toNat) a
abbrev iRng2 (b:TA):TI:=λY H R=>b Y H λvs a=>∃i j:NV,vs=[.int i,.int j]/\(-(2^62)<=i/\i<2^62/\-(2^62)<=j/\j<2^62)/\R (JR i (j-i).toNat) a
def xS (f:Gl X "range")(g:X.mg "range" = dx)(d:PA X [a] c)(i:starEach [a] X.env=[(false,eval a X.env)]:=by rfl):PI X tg (.Call (.Name "range" p) [a] [] pos) (JS c):=by
 intro J s Y H R I h;show WY (eU I f g boot_range (O9 (bo (d pos _ s Y H _ I h) λus m #[vs,H1,I1,r1,b]=>?_) i rfl))
 obtain⟨j,e,b,k,q⟩:=b;subst e;cases r1 with
 |cons r l=>
  cases l;obtain⟨t,rfl⟩:=r;show W4 (rn I1 ∅ ∅ b k (by simpa using q))
def xT {p pos:Qr}(l:Gl X "range")(m:X.mg "range" = dx)(k:PA X [a,b] g)(n:starEach [a,b] X.env=[(false,eval a X.env),(false,eval b X.env)]:=by rfl)(c:starEach [b] X.env=[(false,eval b X.env)]:=by rfl) :
  PI X tg (.Call (.Name "range" p) [a,b] [] pos) (iRng2 g):=by
 intro J s Y H R I h;show WY (eU I l m boot_range (O9 (bo (k pos _ s Y H _ I h) λus x #[vs,H1,I1,r1,d]=>?_) (by rw[n,c]) (by rw[c];rfl)))
 obtain⟨i,j,e,⟨d,o,u,v⟩,q⟩:=d;subst e;cases r1 with
 |cons r f=>
  cases f with
  |cons w f=>
   cases f;obtain⟨t,rfl⟩:=r;obtain⟨t',rfl⟩:=w;show W5 (rn I1 d o u v q)
abbrev Ma (k:TI)(g:TG)(j:TS):TS:=λD Y H=>k Y H λb e=>∃W:NF->NF->St->Hp->Prop,(∃m,W 0 m Y e)/\∀i m Y H,W i m Y H->
 (b.stop i H/\D.nx Y H)\/(b.go i H/\∃N:St->Hp->Prop,(∀c a,N c a->∃d,d<m/\W (i+1) d c a)/\∀x a,b.yld i H x a->g x Y a λh f=>j {D with nx:=N,ct:=N,bk:=D.nx} h f)
abbrev lP (a:Ny NR)(h:OM):Ny (NR×Ps):=a.filterMap λb=>(h.get? b).map λo=>(b,o)
def fJ (c:b∈a)(e:h.get? b=ba o):(b,o)∈lP a h:=Sv.mpr #[b,c,by rw[e];rfl]
def xU (f:p∈lP a h):p.1∈a/\h.get? p.1=ba p.2:=by
 obtain⟨b,d,e⟩:=Sv.mp f;cases q:h.get? b with
 |none=>rw[q]at e;cases e
 |some o=>
  rw[q]at e;have c:=OT e;subst c;show#[d,q]
def Inv.pinned {Y:St}(I:Inv X J Y H s)(j:∀b∈a,jC X J H b)(k:∀b∈a,∃o,s.heap.get? b=ba o/\∀v,o.data≠.cell v):Inv X (J++lP a s.heap) Y H s:=
 I.pins_of λp l=>(Oa.mp l).elim (λz=>I.pin p (Oj _ z)) λz=>by
  obtain⟨f,e⟩:=xU z;obtain⟨g,h,i,_⟩:=j p.1 f;obtain⟨o,c,d⟩:=k p.1 f;rw[e]at c;cases c
  show#[e,g,h,i,d]
def Inv.unpinned {Y:St}(I:Inv X (J++b) Y H s):Inv X J Y H s:=I.pins_of λp a=>I.pin p (Oj _ (Oo _ a))
def G8 {V:TI}(z:UL (model X.prog X.w) X.A X.env X.xe)(hc:X.calm=true)(hi:PI X tg iter V)(hg:PG X tg g)(k:PSs X body S)
  (hs:∀x,foldedSetIterable iter X.env x=pure x:=by intro _;rfl):PS X (.For tg iter body [] pos) (Ma V g S):=by
 intro J s Y H D I h;show wpAny_For (bo (hi _ s Y H _ I h) λv s1 h1=>bo h1 λitv s2 h2=>?_) hs
 obtain⟨it,G,U,td,Z,e,I2,T,aK,P,W,⟨m0,w0⟩,turn⟩:=h2;subst e;have l:∀{p:Hp},(∀b∈G,p b=dx)->∀b∈G,jC X _ p b:=λhn b k=>#[hn b k,(P b k).2]
 show codeAny_forLoop_any (λn s'=>∃i t p,Inv X _ t p s'/\U i s'.heap/\(∀b∈G,p b=dx)/\W i n t p) ?_ m0 #[0,Y,Z,I2,aK,λb k=>(P b k).1,w0]
 rintro n Q ⟨i,w,E,O,B,y,w3⟩;rcases turn i n w E w3 with⟨C,qn⟩|⟨go,N,hN,step⟩
 ·show QA z (bo (T.done X rfl rfl rfl hc i _ Q w E _ O (l y) B C) λr s4 #[M,I4]=>?_)
  subst M;show T4 #[w,E,I4,qn]
 ·show QA z (bo (T.item X rfl rfl rfl hc i _ Q w E _ O (l y) B go) λr s4 #[u,M,h4]=>?_)
  subst M;show QA z (bo h4 λ_ s5 #[x,H5,I5,r5,y5,st5,fr5]=>?_)
  have L:=I5.pinned (l fr5) (T.obj _ _ st5);show QA z (bo (hg _ s5 w H5 x u _ L r5 (step x H5 y5)) λ_ s6 #[Y6,H6,I6,q6]=>?_)
  show QA z (bo (k _ s6 Y6 H6 _ I6 q6) λf R q=>?_)
  have again:∀{j:St}{a:Hp},Inv X _ j a R->N j a->∃m,m<n/\∃i t p,Inv X J t p R/\U i _/\(∀b∈G,p b=dx)/\W i m t p:=λ{j a} c A=>by
   obtain⟨m',hm,w7⟩:=hN j a A;show#[m',hm,i+1,j,a,c.unpinned,T.keep _ _ _ st5 λb k o e=>(c.pin _ (Oj _ (Oj _ (fJ k e)))).1,λb k=>?_,w7]
   obtain⟨o,e,d⟩:=T.obj _ _ st5 b k;show(c.pin (b,o) (Oj _ (Oj _ (fJ k e)))).2.1
  cases f with
  |next=>obtain⟨j,a,c,A⟩:=q;show again c A
  |cont=>obtain⟨j,a,c,A⟩:=q;show again c A
  |brk=>obtain⟨j,a,c,q⟩:=q;show#[j,a,c.unpinned,q]
  |ret v=>obtain⟨x7,j,a,c,r7,q⟩:=q;show#[x7,j,a,c.unpinned,r7,q]
end
noncomputable abbrev R2:=V->V->Hp->VK->Prop
abbrev OpR (X:Cx)(f:NC->NC->WW NC)(r:R2):Prop:=
 ∀(J:Ny (NR×Ps)) (s:NH) (Y:St) (H:Hp) (x y:V) (v u:NC) (Q:VK),Inv X J Y H s->RelV x v->RelV y u->r x y H Q->
  wi X (f v u) (EP X J Y Q) X.xe s
abbrev Mb (X:Cx)(f:NC->WW NC)(r:V->Hp->VK->Prop):Prop:=
 ∀(J:Ny (NR×Ps)) (s:NH) (Y:St) (H:Hp) (x:V) (v:NC) (Q:VK),Inv X J Y H s->RelV x v->r x H Q->
  wi X (f v) (EP X J Y Q) X.xe s
abbrev CallR (X:Cx)(f:NC)(r:Ny V->Hp->VK->Prop):Prop:=
 ∀(J:Ny (NR×Ps)) (s:NH) (Y:St) (H:Hp) (xs:Ny V) (us:Ny NC) (Q:VK),Inv X J Y H s->Vals xs us->r xs H Q->
  wi X (call f us) (EP X J Y Q) X.xe s
abbrev Mc (X:Cx)(r:V->Hp->(Oh->Hp->Prop)->Prop):Prop:=
 ∀(J:Ny (NR×Ps)) (s:NH) (Y:St) (H:Hp) (x:V) (v:NC) (Q:Oh->Hp->Prop),Inv X J Y H s->RelV x v->r x H Q->
  wi X (truthy v) (TP X J Y Q) X.xe s
abbrev LL (r:R2)(c d:TE):TE:=λY H Q=>c Y H λx a=>d Y a λy b=>r x y b Q
abbrev Nl (r:V->Hp->VK->Prop)(b:TE):TE:=λY H Q=>b Y H λx a=>r x a Q
abbrev rI (C:NV->NV->Prop)(g:NV->NV->V):R2:=λx y H Q=>∃i j,x=.int i/\y=.int j/\C i j/\Q (g i j) H
abbrev FY (g:NV->NV->V):R2:=λx y H Q=>∃i j,x=.int i/\y=.int j/\Q (g i j) H
abbrev rU (g:NV->V):V->Hp->VK->Prop:=λx H Q=>∃i,x=.int i/\Q (g i) H
section
variable{X:Cx}{a b c:Oi}{ta tb tc:TE}{pos:Qr}
def G9 (j:PE X a ta)(k:PE X b tb){Y:St}{R:V->V->Hp->Prop}(I:Inv X J Y H s)
  (h:ta Y H λx i=>tb Y i λy c=>R x y c) {f:NC->NC->WW NC}
  (l:∀v u g x y c,Inv X J Y c g->RelV x v->RelV y u->R x y c->wi X (f v u) Q X.xe g) :
  wi X (eval a X.env) (λv d=>wi X (eval b X.env) (λu e=>wi X (f v u) Q X.xe e) X.xe d) X.xe s:=by
 show bo (j _ s Y H _ I h) λv m #[x,i,I1,r1,q1]=>?_
 show bo (k _ m Y i _ I1 q1) λu g #[y,c,I2,r2,q2]=>?_
 show l v u g x y c I2 r1 r2 q2
def JT {c:Vm}(i:OpR X (binaryOp c) r)(f:PE X a ta)(g:PE X b tb):PE X (.BinOp a c b pos) (LL r ta tb):=by
 intro J s Y H Q I h;show wpAny_BinOp (G9 f g I h λv u l x y d e j k q=>i _ l Y d x y v u Q e j k q)
def JU {b:UnaryOp}(d:Mb X (unaryOp b) r)(c:PE X a ta):PE X (.UnaryOp b a pos) (Nl r ta):=by
 intro J s Y H Q I h;show UnaryOp_ (bo (c _ s Y H _ I h) λv e #[x,H1,I1,r1,q1]=>d _ e Y H1 x v Q I1 r1 q1)
def LM {g:NV->NV->NV}
  (rule:∀ i j t u s Q E,C i j->Q (.int (g i j) s.toks) {s with toks:=s.toks+1}->wi X (f (.int i t) (.int j u)) Q E s) :
  OpR X f (rI C λi j=>.int (g i j)):=by
 intro J s Y H x y v u Q I a b h;obtain⟨i,j,rfl,rfl,hc,q⟩:=h;obtain⟨t,rfl⟩:=a;obtain⟨t',rfl⟩:=b;show rule i j t t' s _ _ hc #[.int _,H,I.tok _,#[_,rfl],q]
def JV {g:NV->NV->NV}
  (rule:∀ i j t u s Q E,Q (.int (g i j) s.toks) {s with toks:=s.toks+1}->wi X (f (.int i t) (.int j u)) Q E s) :
  OpR X f (FY λi j=>.int (g i j)):=by
 intro J s Y H x y v u Q I a b h;obtain⟨i,j,rfl,rfl,q⟩:=h;obtain⟨t,rfl⟩:=a;obtain⟨t',rfl⟩:=b;show rule i j t t' s _ _ #[.int _,H,I.tok _,#[_,rfl],q]
def Dk {g:NV->NV->Oh}
  (rule:∀ i j t u s Q E,Q (.bool (g i j)) s->wi X (f (.int i t) (.int j u)) Q E s) :
  OpR X f (FY λi j=>.bl (g i j)):=by
 intro J s Y H x y v u Q I a b h;obtain⟨i,j,rfl,rfl,q⟩:=h;obtain⟨t,rfl⟩:=a;obtain⟨t',rfl⟩:=b;show rule i j t t' s _ _ #[.bl _,H,I,rfl,q]
abbrev Mf (i j:NV):Prop:=0<j/\j<1073741824
abbrev Mg (i j:NV):Prop:=0<=j/\j<=1000000/\i.natAbs<2^64
abbrev CMul (i j:NV):Prop:=(-(2^64)<i/\i<2^64)\/(-(2^64)<j/\j<2^64)
def CMul.ok (h:CMul i j):IntMulOk i j:=by
 rcases h with⟨a,b⟩|⟨a,b⟩
 ·show .of_left (WJ a b)
 ·show .of_right (WJ a b)
def Ha:OpR X (binaryOp .Add) (FY λi j=>.int (i+j)):=JV λ_ _ _ _ _ _ _ q=>add_int q
def Hb:OpR X (binaryOp .Sub) (FY λi j=>.int (i-j)):=JV λ_ _ _ _ _ _ _ q=>sub_int q
def Hc:OpR X (binaryOp .Mult) (rI CMul λi j=>.int (i*j)):=LM λ_ _ _ _ _ _ _ hc q=>mul_int q hc.ok
def Dl:OpR X (binaryOp .FloorDiv) (rI Mf λi j=>.int (i/j)):=LM λi j _ _ _ _ _ hc q=>by
 have a:(0:NV)<j:=hc.1;have b:j<1073741824:=hc.2;show floordiv_int ∅ (by rw[Int.fdiv_eq_ediv_of_nonneg i ∅];show q) (.inl (PyProof.noPylong_small ∅))
def Hd:OpR X (binaryOp .Mod) (rI (λ_ j=>0<j) λi j=>.int (i % j)):=LM λi j _ _ _ _ _ hc q=>by
 have a:(0:NV)<j:=hc;show mod_int' ∅ (by rw[Int.fmod_eq_emod_of_nonneg i ∅];show q)
def He:OpR X (binaryOp .Pow) (rI Mg λi j=>.int (i^j.toNat)):=LM λ_ _ _ _ _ _ _ hc q=>pow_int_small hc.1 hc.2.1 hc.2.2 q
def Nm {g:NV->NV}
  (rule:∀ i t s Q E,Q (.int (g i) s.toks) {s with toks:=s.toks+1}->wi X (f (.int i t)) Q E s) :
  Mb X f (rU λi=>.int (g i)):=by
 intro J s Y H x v Q I a h;obtain⟨i,rfl,q⟩:=h;obtain⟨t,rfl⟩:=a;show rule i t s _ _ #[.int _,H,I.tok _,#[_,rfl],q]
def Hf:Mb X (unaryOp .USub) (rU λi=>.int (-i)):=Nm λ_ _ _ _ _ q=>neg_int q
def zx {Y:St}{ a:Oh}(I:Inv X J Y H s)(q:Q (.bl k) H)(e:k=a):EP X J Y Q (.bool a) s:=by
 subst e;show#[.bl k,H,I,rfl,q]
def JW:OpR X (compareOp .Lt) (FY λi j=>.bl (decide (i<j))):=Dk λ_ _ _ _ _ _ _ q=>lt_int q
def JX:OpR X (compareOp .LtE) (FY λi j=>.bl (decide (i<=j))):=Dk λ_ _ _ _ _ _ _ q=>le_int q
def JY:OpR X (compareOp .Gt) (FY λi j=>.bl (decide (j<i))):=Dk λ_ _ _ _ _ _ _ q=>gt_int q
def JZ:OpR X (compareOp .GtE) (FY λi j=>.bl (decide (j<=i))):=Dk λ_ _ _ _ _ _ _ q=>ge_int q
def Hg:OpR X (compareOp .Is) (λx y H Q=>y=.non/\Q (.bl (decide (x=.non))) H):=by
 intro J s Y H x y v u Q I a b h;obtain⟨rfl,q⟩:=h;cases b;show is_none_gen (zx I q ?_);cases x<;>first
  |(cases a;rfl)
  |(obtain⟨t,rfl⟩:=a;rfl)
def Dm:OpR X (compareOp .IsNot) (λx y H Q=>y=.non/\Q (.bl (!decide (x=.non))) H):=by
 intro J s Y H x y v u Q I a b h;obtain⟨rfl,q⟩:=h;cases b;show isnot_none_gen (zx I q ?_);cases x<;>first
  |(cases a;rfl)
  |(obtain⟨t,rfl⟩:=a;rfl)
def Dn {c:V4}(j:OpR X (compareOp c) r)(f:PE X a ta)(g:PE X b tb)(i:behindInMarks c b=false):PE X (.Compare a [c] [b] pos) (LL r ta tb):=by
 intro J s Y H Q I h;show wpAny_Compare1 (G9 f g I h λv u m x y d e k l q=>j J m Y d x y v u Q e k l q) i
abbrev FZ (t:TE):TT:=λY H Q=>t Y H λx a=>∃k,x=.bl k/\Q k a
def Do (j:OpR X (compareOp d) r)(f:PE X a ta)(g:PE X b tb)(i:behindInMarks d b=false):PT X (.Compare a [d] [b] pos) (FZ (LL r ta tb)):=by
 intro J s Y H Q I h;show wpAny_isTrue_Compare1 (bo (f _ s Y H _ I h) λv l #[x,H1,I1,r1,q1]=>bo (g _ l Y H1 _ I1 q1) λu m #[y,H2,I2,r2,q2]=>
  bo (j _ m Y H2 x y v u _ I2 r1 r2 q2) λc n #[z,H3,I3,r3,k,e,q3]=>?_) i
 subst e;cases r3;show Pu #[H3,I3,q3]
abbrev uf (r e:R2)(ta tb tc:TE):TE:=λY H Q=>ta Y H λx b=>tb Y b λy c=>r x y c λz a=>∃k,z=.bl k/\
 (if k=true then tc Y a λf d=>e y f d Q else Q (.bl false) a)
def zy (o:OpR X (compareOp i) r)(g:OpR X (compareOp f) j)(l:PE X a ta)(m:PE X b tb)(hc:PE X c tc)
  (n:lastMarks [i,f] [b,c]=false:=by with_unfolding_all rfl):PE X (.Compare a [i,f] [b,c] pos) (uf r j ta tb tc):=by
 intro J s Y H Q I h;show Compare_chain (bo (l _ s Y H _ I h) λv p #[x,H1,I1,r1,q1]=>chain_link (bo (m _ p Y H1 _ I1 q1) λu q #[y,H2,I2,r2,q2]=>
  bo (o _ q Y H2 x y v u _ I2 r1 r2 q2) λd t #[z,H3,I3,r3,k,e,q3]=>?_)) n
 subst e;cases r3;show Pu ?_;cases k with
 |false=>show ite_ff #[.bl _,H3,I3,rfl,q3]
 |true=>show ite_tt (chain_last (bo (hc _ t Y H3 _ I3 q3) λA w #[B,H4,I4,r4,q4]=>g _ w Y H4 y B u A Q I4 r2 r4 q4))
def zA (p:OpR X (compareOp i) r)(g:OpR X (compareOp f) j)(m:PE X a ta)(n:PE X b tb)(hc:PE X c tc)
  (o:lastMarks [i,f] [b,c]=false:=by with_unfolding_all rfl):PT X (.Compare a [i,f] [b,c] pos) (FZ (uf r j ta tb tc)):=by
 intro J s Y H Q I h;show isTrue_chain (bo (m _ s Y H _ I h) λv t #[x,H1,I1,r1,q1]=>test_link (bo (n _ t Y H1 _ I1 q1) λu w #[y,H2,I2,r2,q2]=>
  bo (p _ w Y H2 x y v u _ I2 r1 r2 q2) λd A #[z,H3,I3,r3,k,e,q3]=>?_)) o
 subst e;cases r3;show Pu ?_;cases k with
 |false=>
  obtain⟨E,l,q⟩:=q3;cases l;show ite_ff #[H3,I3,q]
 |true=>
  show ite_tt (test_last (bo (hc _ A Y H3 _ I3 q3) λC B #[D,H4,I4,r4,q4]=>bo (g _ B Y H4 y D u C _ I4 r2 r4 q4) λd' G #[L,H5,I5,r5,k2,e2,q5]=>?_))
  subst e2;cases r5;show Pu #[H5,I5,q5]
abbrev Mh (K:NY)(x:V)(H:Hp)(k:Oh):Prop:=
 match x with
 |.non=>k=false
 |.bl b=>k=b
 |.int i=>k=(i != 0)
 |.str y=>↥y<=sizeLine/\k=((↥y:NV) != 0)
 |.byt y=>⇑y<=sizeLine/\k=((⇑y:NV) != 0)
 |.ref p=>(∃xs,SqL K H p xs/\k = !xs.isEmpty)\/(∃xs,SqT K H p xs/\k = !xs.isEmpty)\/∃U,H p=ba (.dK U)/\k = !U.isEmpty
 |_=>Pg
def ug {vs:Ny (κ×NC)}(r:KV U vs):(!vs.isEmpty) = !U.isEmpty:=by
 cases r<;>rfl
def lQ {a:Ny NC}(r:Vals xs a):(!a.toArray.isEmpty) = !xs.isEmpty:=by
 cases r<;>rfl
def pH:sizeLine<2^63:=by decide
def Hh:Mc X (λx H Q=>∃k,Mh X.K x H k/\Q k H):=by
 intro J s Y H x v Q I d h;obtain⟨k,e,q⟩:=h;have u:=O4;cases x with
 |non=>
  cases d;have a:=e;subst a;show truthy_none #[H,I,q]
 |bl b=>
  cases d;have a:=e;subst a;show Pu #[H,I,q]
 |int i=>
  obtain⟨t,rfl⟩:=d;have a:=e;subst a;show PySem.P.truthy_int #[H,I,q]
 |str y=>
  obtain⟨t,rfl⟩:=d;obtain⟨o,a⟩ : ↥y<=sizeLine/\k=((↥y:NV) != 0):=e;subst a;show PySem.P.truthy_str ∅ #[H,I.tok _,q]
 |byt y=>
  obtain⟨t,rfl⟩:=d;obtain⟨o,a⟩ : ⇑y<=sizeLine/\k=((⇑y:NV) != 0):=e;subst a;show PySem.W.truthy_bytes (by show N9 ‹_› (OA rfl)) #[H,I.tok _,q]
 |ref p=>
  cases d;have a:=e;rcases a with⟨xs,f,a⟩|⟨xs,f,a⟩|⟨U,f,a⟩
  ·subst a;obtain⟨g,r,j,l⟩:=I.list f;have c:=↥r;show wpAny_truthy_list j.isList (by revert N4;omega) #[H,I.tok _,by rw[lQ r];show q]
  ·subst a;obtain⟨g,r,j,l⟩:=I.tuple f;have c:=↥r;show truthy_tuple j (by revert N4;omega) #[H,I.tok _,by rw[lQ r];show q]
  ·subst a;obtain⟨l,n,vs,r,m⟩ : ↥U<=sizeLine/\(p==sysModules)=false/\∃vs,KV U vs/\s.heap.DictOf (bI X.prog X.w) p vs:=I.hok p _ f;have c:=RF r;show wpAny_truthy_dict n m ∅ #[H,I.tok _,by rw[ug r];show q]
 |_=>show e.elim
def uh:OpR X (binaryOp .Add) (λx y H Q=>∃i j,x=.str i/\y=.str j/\↥i+↥j<=sizeLine/\Q (.str (i++j)) H):=by
 intro J s Y H x y v u Q I b c h;obtain⟨i,j,rfl,rfl,a,q⟩:=h;obtain⟨t,rfl⟩:=b;obtain⟨t',rfl⟩:=c;show add_str (λt' tk=>#[.str _,H,I.tok _,#[_,rfl],q]) a
def ox (r:Vals [x] us):∃u,us=[u]/\RelV x u:=by
 cases r with
 |cons a b=>cases b;show#[_,rfl,a]
def J0 (r:Vals [x,y] us):∃u a,us=[u,a]/\RelV x u/\RelV y a:=by
 cases r with
 |cons b c=>
  cases c with
  |cons d e=>cases e;show#[_,_,rfl,b,d]
def xV (hc:X.calm=true):CallR X (.builtin "min") (λxs H Q=>∃i j,xs=[.int i,.int j]/\Q (.int (if j<i then j else i)) H):=by
 intro J s Y H xs us Q I r h;obtain⟨i,j,rfl,q⟩:=h;obtain⟨u,b,rfl,⟨t,rfl⟩,⟨t',rfl⟩⟩:=J0 r;show min_two_ints (I.ok.hd hc) λh' tk k=>#[_,H,I.kept k,?_,q]
 by_cases a:j<i
 ·rw[Ob a,Ob a];show#[_,rfl]
 ·rw[Ot a,Ot a];show#[_,rfl]
def oy:CallR X (.type "int") (λxs H Q=>(∃i,xs=[.int i]/\Q (.int i) H)\/∃k,xs=[.bl k]/\Q (.int (if k then 1 else 0)) H):=by
 intro J s Y H xs us Q I r h;rcases h with⟨i,rfl,q⟩|⟨k,rfl,q⟩
 ·obtain⟨u,rfl,t,rfl⟩:=ox r;show call_int_int #[.int i,H,I,#[_,rfl],q]
 ·obtain⟨u,rfl,a⟩:=ox r;cases a;show call_int_bool #[.int _,H,I.tok _,#[_,rfl],q]
abbrev Mj (K:NY)(x:V)(H:Hp)(n:NF):Prop:=
 match x with
 |.str y=>↥y<=sizeLine/\n=↥y
 |.byt y=>⇑y<=sizeLine/\n=⇑y
 |.ref p=>(∃xs,SqL K H p xs/\n=↥xs)\/∃xs,SqT K H p xs/\n=↥xs
 |_=>Pg
def lR:CallR X (.builtin "len") (λxs H Q=>∃x n,xs=[x]/\Mj X.K x H n/\Q (.int n) H):=by
 intro J s Y H xs us Q I r h;obtain⟨x,n,rfl,e,q⟩:=h;obtain⟨u,rfl,i⟩:=ox r;have l:=O4;cases x with
 |str y=>
  obtain⟨t,rfl⟩:=i;obtain⟨j,b⟩ : ↥y<=sizeLine/\n=↥y:=e;subst b;show len_str ∅ #[.int _,H,I.tok _,#[_,rfl],q]
 |byt y=>
  obtain⟨t,rfl⟩:=i;obtain⟨j,b⟩ : ⇑y<=sizeLine/\n=⇑y:=e;subst b;show PySem.W.len_bytes ∅ #[.int _,H,I.tok _,#[_,rfl],q]
 |ref p=>
  cases i;have b:=e;rcases b with⟨xs,c,b⟩|⟨xs,c,b⟩
  ·subst b;obtain⟨d,g,f,k⟩:=I.list c;have a:=↥g;show Calls.call_len_list f.isList (by revert N4;omega) #[.int _,H,I.tok _,#[_,by revert N4;rw[a]],q]
  ·subst b;obtain⟨d,g,f,k⟩:=I.tuple c;have a:=↥g;show len_tuple f (by revert N4;omega) #[.int _,H,I.tok _,#[_,by revert N4;rw[a]],q]
 |_=>show e.elim
end
def RelO.some_of (r:RelO (ba v) o):∃u,o=ba u/\RelV v u:=by
 cases o with
 |none=>show r.elim
 |some u=>show#[u,rfl,r]
structure Room (k:NF)(A:OD):Prop where
 hd:A.handled=dx
 dp:A.depth+3*k+5<recursionLimit
 un:A.units+16*k+200<cLine
def Room.deeper (r:Room (k+1) A)(env:VI):Room k (A.deeper env):=
 #[r.hd,by have:=r.dp;show A.depth+1+3*k+5<_;omega,by have:=r.un;show A.units+3+16*k+200<_;omega]
def Room.depth (r:Room k A):A.depth<recursionLimit:=by have:=r.dp;omega
abbrev J1:TA:=λ_ H Q=>Q [] H
abbrev J2 (c:TE)(d:TA):TA:=λY H Q=>c Y H λx a=>d Y a λxs b=>Q (x::xs) b
section
variable{X:Cx}{e:Oi}{es:Ny Oi}{te:TE}{t:TA}{pos:Qr}
def zB:PA X [] J1:=λ_ _ _ _ H Q I h=>SU #[[],H,I,.nil,h]
def pI (a:PE X e te)(b:PA X es t)(c:starEach (e::es) X.env=(false,eval e X.env)::starEach es X.env:=by rfl):PA X (e::es) (J2 te t):=by
 intro pos J s Y H Q I h;rw[c];show Sz (bo (a _ s Y H _ I h) λu d #[x,H1,I1,r1,q1]=>?_)
 show bo (b pos _ d Y H1 _ I1 q1) λus f #[xs,H2,I2,r2,q2]=>#[x::xs,H2,I2,.cons r1 r2,q2]
abbrev Mk (t:TA):TE:=λY H Q=>t Y H λxs a=>↥xs<=sizeLine/\∀p,a p=dx->Q (.ref p) (bP a p (.tup xs))
abbrev Ml (t:TA):TE:=λY H Q=>t Y H λxs a=>↥xs<=sizeLine/\∀p,a p=dx->Q (.ref p) (bP a p (.lst xs))
def Hi {x1}(h:PA X es t):PE X (.Tuple es x1 pos) (Mk t):=by
 intro J s Y H Q I c;show wpAny_Tuple_spliced (bo (h pos _ s Y H _ I c) λus d #[xs,H1,I1,r,z,q]=>#[by rw[<- ↥r];show z,?_])
 have a:=I1.hok.fresh (NP _);show#[.ref _,bP H1 _ _,I1.laid  (λb u e=>ND _ e) (NP _) ?_,rfl,q _ a]
 show#[#[z,NoD.new _ _ _],us,r,#[_,N2 _ rfl,rfl,_,rfl]]
def Hj (h:PA X es t):PE X (.List es pos) (Ml t):=by
 intro J s Y H Q I c;show wpAny_List_spliced (bo (h pos _ s Y H _ I c) λus d #[xs,H1,I1,r,z,q]=>#[by rw[<- ↥r];show z,?_])
 have a:=I1.hok.fresh (NP _);show#[.ref _,bP H1 _ _,I1.laid  (λb u e=>ND _ e) (NP _) ?_,rfl,q _ a]
 show#[z,us,0,r,N2 _ rfl]
end
noncomputable abbrev Sp:=Ny V->Hp->VK->XK->Prop
noncomputable abbrev zC:=Ny VI->Hp->NH->XK->NC->NH->Prop
structure Env0 (P:Op)(w:OF)(K:NY)(mg:Oc->NJ NC)(base:OM)(A:OD)(outer:Ny VI)(s:NH)(H:Hp):Prop where
 frames:A.frames=ba outer
 mod:Mod K mg base
 bs:∀b o,base.get? b=ba o->s.heap.get? b=ba o/\H b=dx
 bsz:⇑base.objs<=⇑s.heap.objs
 funs:s.heap.FunFrames base outer
 frf:∀b∈vN outer,H b=dx
 hok:HOk P w H s.heap
 bare:SS s.gens
abbrev CE (outer:Ny VI)(P:Op)(w:OF)(H:Hp)(s:NH)(Q:VK)(u:NC)(s':NH):Prop:=
 ∃v a,s'.os=s.os/\SS s'.gens/\Un (vN outer) [] H a s.heap s'.heap/\HOk P w a s'.heap/\RelV v u/\Q v a
abbrev CR (CX:zC)(outer:Ny VI)(P:Op)(w:OF)(H:Hp)(s:NH)(Q:VK)(E:XK)(r:U7)(s':NH):Prop:=
 match r with
 |.ok (.ret u)=>CE outer P w H s Q u s'
 |.ok _=>Pg
 |.error e=>CX outer H s E e s'
structure FnOk (P:Op)(w:OF)(K:NY)(mg:Oc->NJ NC)(base:OM)(CX:zC)(k:NF)(f:NR)(fd:Qs)(ps:Ny Oc)(sp:Sp):Prop where
 len:∀vs H Q E,sp vs H Q E->↥vs=↥ps
 run:∀(A:OD) (outer:Ny VI) (s:NH) (H:Hp) (args:Args) (us:Ny NC) (vs:Ny V) (Q:VK) (E:XK),Room k A->Env0 P w K mg base A outer s H->Vn s fd args (ps.zip us)->Vals vs us->sp vs H Q E->
  codeAny (model P w) A (.call (.ref f) args) (CR CX outer P w H s Q E) s
section
variable{X:Cx}{J:Ny (NR×Ps)}{Y:St}{H:Hp}{s s':NH}
def Inv.env0 (I:Inv X J Y H s):Env0 X.prog X.w X.K X.mg X.base X.A X.stack s H:=
 #[I.ok.frames,I.ok.mod,I.bs,N9 I.ok.bsz I.sz,I.stack,I.stkFree,I.hok,I.bare]
def Inv.after (I:Inv X J Y H s)(h:CE X.stack X.prog X.w H s Q u s'):EP X J Y Q u s':=by
 obtain⟨v,f,os,a,un,c,r,q⟩:=h;obtain⟨i,g,d,t,e⟩:=s';obtain rfl:e=s.os:=os;show#[v,f,I.call (h':=i) (g':=g) (d':=d) (t':=t) (ch:=[]) un c a (λb z=>absurd z (by simp)),r,q]
end
abbrev zD (sp:Sp)(a:Ny V)(E:XK)(t:TA):TE:=λY H Q=>t Y H λvs b=>sp (vs++a) b Q E
abbrev Binds (K:NY)(b:Qs)(ps:Ny Oc)(a:Ny NC):Prop:=
 ∀(s:NH) (us:Ny NC),K.In s.heap->(us++a).length=↥ps->Vn s b #[us,[]] (ps.zip (us++a))
def Binds.all {K:NY}(h:∀us:Ny NC,↥us=↥ps->bindArgs a #[us,[]]=pure (ps.zip us)):Binds K a ps []:=λs us _ hl=>by
 rw[Oz]at hl ⊢;show .of_eq (h us hl)
abbrev pJ (CX:zC)(X:Cx)(E:XK):Prop:=∀(J:Ny (NR×Ps)) (Y:St) (H:Hp) (s:NH) (e:NC) (s':NH),Inv X J Y H s->CX X.stack H s E e s'->X.xe e s'
section
variable{X:Cx}{CX:zC}{k:NF}{f C:NR}{fd:Qs}{ps:Ny Oc}{sp:Sp}{dvs:Ny V}{ds:Ny NC}{E:XK}{x m:Oc}{p pos apos:Qr}{e o:Oi}{es:Ny Oi}{ta:TE}{t:TA}
def zE {Y:St}(F:FnOk X.prog X.w X.K X.mg X.base CX k f fd ps sp)(g:Room k X.A)(d:Binds X.K fd ps ds)(hd:Vals dvs ds)(i:pJ CX X E)
  (I:Inv X J Y H s) (r:Vals vs us) (h:sp (vs++dvs) H Q E):wi X (call (.ref f) us) (EP X J Y Q) X.xe s:=by
 have b:Vals (vs++dvs) (us++ds):=r.append hd;have hl:(us++ds).length=↥ps:=by rw[<- ↥b];show F.len _ _ _ _ h
 show wpAny_call (RZ (F.run X.A X.stack s H #[us,[]] (us++ds) (vs++dvs) Q E g I.env0 (d s us I.kIn hl) b h) λr s' a=>?_)
 cases r with
 |error e=>show i J Y H s e s' I a
 |ok c=>
  cases c with
  |ret u=>show I.after a
  |next=>show Pg.elim a
  |brk=>show Pg.elim a
  |cont=>show Pg.elim a
def Dp (F:FnOk X.prog X.w X.K X.mg X.base CX k f fd ps sp)(l:Room k X.A)(i:Gl X x)(j:X.mg x=ba (.ref f))(hk:Po X.K (.ref f)=true)(d:Binds X.K fd ps ds)(hd:Vals dvs ds)(m:pJ CX X E)
  (c:PA X (e::es) t) (a:(x==("__debug__"))=false:=by decide) (g:starEach (e::es) X.env=(false,eval e X.env)::starEach es X.env:=by rfl) (b:(backTo pos (starEach es X.env)).any (·.1)=false:=by rfl) :
  PE X (.Call (.Name x p) (e::es) [] pos) (zD sp dvs E t):=by
 intro J s Y H Q I h;show RP (vO I i j ?_ a);show PySem.W.callWith_K  I.ok.mod.kin hk (bo (c pos _ s Y H _ I h) λus n #[vs,H1,I1,r,q]=>#[I1.kIn,?_]) g b
 show zE F l d hd m I1 r q
def zF (F:FnOk X.prog X.w X.K X.mg X.base CX k f fd ps sp)(e:Room k X.A)(c:Gl X x)(d:X.mg x=ba (.ref f))(hk:Po X.K (.ref f)=true)(b:Binds X.K fd ps ds)(hd:Vals dvs ds)(g:pJ CX X E)
  (a:(x==("__debug__"))=false:=by decide):PE X (.Call (.Name x p) [] [] pos) (zD sp dvs E J1):=by
 intro J s Y H Q I h;show RP (vO I c d ?_ a);show PySem.W.callWith_K0 I.kIn hk (zE  F e b hd g I .nil h)
end
structure FnScope (N P:Ny Oc)(sc:QX):Prop where
 kind:sc.kind=.function
 co:sc.isCoroutine=false
 gen:sc.isGenerator=false
 nd:N.Nodup
 pre:N.take ↥P=P
 par:∀x∈P,sc.names.lookup x=ba .local\/sc.names.lookup x=ba .cell
 nofree:∀y∈sc.names,y.2≠.free
def oz :∀{binds:Ny (Oc×NC)}{m:Oc->NJ NC},(∀v,(x,v)∉binds)->bindL a binds m x=m x
 |[],_,_=>rfl
 |(n,v)::r,m,h=>by
  delta bindL;rw[oz λw hw=>h w (O1 _ hw)]
  split
  ·have:x≠n:=by rintro rfl;show h v Py
   simp[this]
  ·rfl
def oA :∀{binds:Ny (Oc×NC)}{m:Oc->NJ NC},(∀v,(x,v)∉binds)->bindC a binds m x=m x
 |[],_,_=>rfl
 |(n,v)::r,m,h=>by
  delta bindC;rw[oA λw hw=>h w (O1 _ hw)]
  split
  ·rfl
  ·have:x≠n:=by rintro rfl;show h v Py
   simp[this]
def oB :∀{P:Ny Oc}{vs:Ny NC}{i:NF}{m:Oc->NJ NC},P.Nodup->P[i]?=ba x->vs[i]?=ba v->a x=ba .local->
  bindL a (P.zip vs) m x=ba v
 |[],_,_,_,_,h,_,_=>by simp at h
 |_::_,[],_,_,_,_,h,_=>by simp at h
 |p::P,w::vs,0,m,nd,b,c,hk=>by
  simp at b c;subst b;subst c
  change bindL _ ((p,w)::P.zip vs) m p=_;delta bindL;rw[oz λv d=>(Pp.mp nd).1 (T6 d).1,Ob hk]
  simp
 |p::P,w::vs,i+1,m,nd,b,c,hk=>by
  unfold bindL;show oB  (Pp.mp nd).2 (by simpa using b) (by simpa using c) hk
def oD :∀{P:Ny Oc}{vs:Ny NC}{i:NF}{m:Oc->NJ NC},P.Nodup->P[i]?=ba x->vs[i]?=ba v->a x≠ba .local->
  bindC a (P.zip vs) m x=ba v
 |[],_,_,_,_,h,_,_=>by simp at h
 |_::_,[],_,_,_,_,h,_=>by simp at h
 |p::P,w::vs,0,m,nd,b,c,hk=>by
  simp at b c;subst b;subst c
  change bindC _ ((p,w)::P.zip vs) m p=_;delta bindC;rw[oA λv d=>(Pp.mp nd).1 (T6 d).1,Ot hk]
  simp
 |p::P,w::vs,i+1,m,nd,b,c,hk=>by
  unfold bindC;show oD  (Pp.mp nd).2 (by simpa using b) (by simpa using c) hk
abbrev start (N:Ny Oc)(vs:Ny V):St:=vs.map ba++OB (↥N-↥vs) dx
abbrev uj (CX:zC)(P:Op)(w:OF)(K:NY)(mg:Oc->NJ NC)(base:OM)(N:Ny Oc)(a:Oc)(scope:QX)(f:NR)(c:NC)(A:OD)(outer:Ny VI)(s:NH)(H:Hp)(E:XK):Cx where
 prog:=P
 w:=w
 K:=K
 mg:=mg
 base:=base
 A:=A.deeper (envOfC a scope ⇑s.heap.objs f c)
 N:=N
 s₀:=s
 H₀:=H
 env:=envOfC a scope ⇑s.heap.objs f c
 outer:=outer
 stack:=envOfC a scope ⇑s.heap.objs f c::outer
 ex:=[]
 calm:=true
 fn:=λ_=>true
 pn:=[]
 xe:=λe s'=>wpAny (model P w) (A.deeper (envOfC a scope ⇑s.heap.objs f c)) (leaving (envOfC a scope ⇑s.heap.objs f c) e) (λ_ b=>CX outer H s E e b) (λd b=>CX outer H s E d b) s'
def rq {sc:QX}(h:sc.names.lookup x=ba .cell):∃c,(cellsFrom n sc.names []).lookup x=ba c:=by
 have q:=TH _ n [] (.inl h);show O3.mp q
def xW {K:NY}
  (S:FnScope N ps scope) (hd:A.handled=dx) (j:Env0 P w K mg base A outer s H) (hl:↥vs=↥ps) (r:Vals vs us)
  (x:InCallC s ⇑s.heap.objs (bindL (envOfC d scope ⇑s.heap.objs f t).kindOf (ps.zip us) λ_=>dx) (cellsFrom (⇑s.heap.objs+1) scope.names []) (bindC (envOfC d scope ⇑s.heap.objs f t).kindOf (ps.zip us) λ_=>dx) D) :
  Inv (uj CX P w K mg base N d scope f t A outer s H E) [] (start N vs) H D:=by
 have I:↥ps<=↥N:=by have:=congrArg Xi S.pre;rw[Om]at this;omega
 obtain⟨B,tk,rfl,hk⟩:=x.done;have l:∀b ,b∉(uj CX P w K mg base N d scope f t A outer s H E).ex:=λb z=>absurd (show b∈([])from z) (by simp)
 show#[#[j.mod,S.kind,rfl,rfl,NP _,λy z c B g=>?_,λy n=>?_,λy c _ h=>?_,λ_=>hd,Around.frames_deeper j.frames,.inr #[rfl,rfl],λb z=>absurd z (l b),j.bs,j.bsz,λb _ _=>l b,λb z=>absurd z (l b),j.funs,j.frf],
  rfl,j.bare,Un.kept hk,#[_,x.toInCall.ns,λi y v B g L=>?_],λy c h=>#[_,x.cell y c h],j.hok.fresh (NP _),λy c h=>?_,λp m=>absurd (show p∈([])from m) (by simp),j.hok.kept hk,?_]
 ·show name_of_addr x.apart (QR B) (QR g)
 ·rcases n with n|n
  ·show rq n
  ·show absurd rfl (S.nofree _ (QR n))
 ·show QE (x.above y c (QR h))
 ·have hi:i<↥vs:=by
   unfold start at g
   by_cases hi:i<↥vs
   ·show hi
   ·rw[Ox (by simpa using hi)]at g
    rw[List.getElem?_replicate]at g;split at g<;>cases g
  have G:vs[i]?=ba v:=by
   unfold start at g;rw[Ow (by simpa using hi),NO]at g
   cases e:vs[i]? with
   |none=>rw[e]at g;cases g
   |some a=>rw[e]at g;cases g;rfl
  obtain⟨u,C,J⟩:=r.get G;have m:ps[i]?=ba y:=by
   rw[<- S.pre,RH ∅];show B
  have o:ps.Nodup:=by rw[<- S.pre];show S.nd.sublist (Vo _ _)
  show#[u,J,?_];rcases S.par y (N1 m)with k|k
  ·show .inl #[k,oB o m C k]
  ·obtain⟨c,e⟩:=rq  k;show .inr #[.inl k,c,e,?_];have q:=x.cell y c e;rw[oD o m C (by change scope.names.lookup y≠_;rw[k];decide)]at q
   show q
 ·show j.hok.fresh (QE (x.above y c (QR h)))
 ·unfold start;change _=↥N;rw[NE,Nz,Uj];omega
def J3 {K:NY}{ kV     :NC}
   (W:K.lookup f=ba #[oc,od,.func (P0 name a c body scope J kV doc pm an cdv ct),osl]) (z:QS K cdv a=true) (S:FnScope N ps scope)
  (len:∀vs H Q E,sp vs H Q E->↥vs=↥ps)
  (h:∀ A outer s H vs Q E,Room k (A.deeper (envOfC a scope ⇑s.heap.objs f cdv))->sp vs H Q E->
   ∃t,PSs (uj CX P w K mg base N a scope f cdv A outer s H E) body t/\t {nx:=λ_ d=>Q .non d,rt:=Q} (start N vs) H) :
  FnOk P w K mg base CX (k+1) f (P0 name a c body scope J kV doc pm an cdv ct) ps sp:=by
 show#[len,λA outer s H args us vs Q E B l O r m=>?_]
 have hl:=len _ _ _ _ m;have G:K.In s.heap:=l.mod.kin.keeps λb o e=>(l.bs b o e).1
 have C:s.heap.NoLimit:=l.mod.nolimit.keeps λb o e=>(l.bs b o e).1
 have i:∀y∈ps.zip us,scope.names.lookup y.1=ba .local\/(scope.names.lookup y.1=ba .cell/\((cellsFrom (⇑s.heap.objs+1) scope.names []).lookup y.1).isSome=true):=λ#[n,v] hy=>by
  rcases S.par n (T6 hy).1 with q|q
  ·show .inl q
  ·show .inr #[q,TH _ _ _ (.inl q)]
 show codeAny_call_function B.depth (G _ _ W) rfl S.co S.gen rfl (PySem.W.codeRec_of G z) (O _ _ _ _ ?_);show wpAny_newFunctionEnv_cells S.kind i λenv R L x=>?_
 subst R;show#[C.keeps x.toInCall.keep,codeAny_func ?_];obtain⟨t,U,T⟩:=h A outer s H vs Q E (B.deeper _) m;have I:Inv (uj CX P w K mg base N a scope f cdv A outer s H E) [] (start N vs) H L:=xW S B.hd l hl r x;show PK (U [] L (start N vs) H _ I T) (λM s' j=>?_) λe s' j=>j
 have fin:∀{p:St}{d:Hp}{v:V}{u:NC},Inv (uj CX P w K mg base N a scope f cdv A outer s H E) [] p d s'->RelV v u->Q v d->CE outer P w H s Q u s':=
  λ{p d v u} g D q=>#[v,d,g.os,g.bare,g.base,g.hok,D,q]
 cases M with
 |ret u=>
  obtain⟨v,p,d,g,D,q⟩:=j;show fin g D q
 |next=>
  obtain⟨p,d,g,q⟩:=j;show fin (v:=V.non) (u:=P9) g rfl q
 |brk=>
  obtain⟨_,_,_,q⟩:=j;show Pg.elim q
 |cont=>
  obtain⟨_,_,_,q⟩:=j;show Pg.elim q
section
variable{X:Cx}{x:Oc}{p pos:Qr}{e:Oi}{es:Ny Oi}{t:TA}{id T:Pn}{r:Ny V->Hp->VK->Prop}
abbrev Nb (r:Ny V->Hp->VK->Prop)(t:TA):TE:=λY H Q=>t Y H λvs a=>r vs a Q
def rs (hc:CallR X (.builtin id) r)(f:Gl X x)(g:X.mg x=dx)(j:bootBuiltins x=ba (.builtin id))(c:PA X (e::es) t)(i:x≠"__name__":=by decide)(a:(x==("__debug__"))=false:=by decide)
  (d:starEach (e::es) X.env=(false,eval e X.env)::starEach es X.env:=by rfl) (b:(backTo pos (starEach es X.env)).any (·.1)=false:=by rfl):PE X (.Call (.Name x p) (e::es) [] pos) (Nb r t):=by
 intro J s Y H Q I h;show RP (eU I f g j ?_ i a);show VN (bo (c pos J s Y H _ I h) λus k #[vs,H1,I1,r1,q1]=>hc J k Y H1 vs us Q I1 r1 q1) d b
def xX (hc:CallR X (.type T) r)(f:Gl X x)(g:X.mg x=dx)(j:bootBuiltins x=ba (.type T))(c:PA X (e::es) t)(i:x≠"__name__":=by decide)(a:(x==("__debug__"))=false:=by decide)
  (d:starEach (e::es) X.env=(false,eval e X.env)::starEach es X.env:=by rfl) (b:(backTo pos (starEach es X.env)).any (·.1)=false:=by rfl):PE X (.Call (.Name x p) (e::es) [] pos) (Nb r t):=by
 intro J s Y H Q I h;show RP (eU I f g j ?_ i a);show O9 (bo (c pos J s Y H _ I h) λus k #[vs,H1,I1,r1,q1]=>hc J k Y H1 vs us Q I1 r1 q1) d b
end
end L2
namespace HT
open PySem PyProof.Rows
section
open PySem.SeqAt
open PySem.AutoSeq1 (wpAny_loadPart')
open PySem.MeetsSeq PySem.MeetsSeq2 PySem.MeetsSeq3
end
section
variable{prog:Op}{w:OF}{A:OD}{E:NC->NH->Prop}{s:NH}
def Dq (u:Ti s.heap t vs.toArray)(r:Ti s.heap b ws.toArray)(l:vs≠[])
  (p:ws=[]->Q (.ref t) s) (q:ws≠[]->Q (.ref ⇑s.heap.objs) {s with heap:=s.heap.push {cls:=.type "tuple",data:=.seq (vs++ws).toArray}})
  (hsz:↥vs+↥ws<=sizeLine):wh prog w A (binaryOp .Add (.ref t) (.ref b)) Q E s:=by
 obtain⟨⟨cls,k,data,o⟩,h,hc,n,hd⟩:=id u;obtain⟨⟨j,c,i,g⟩,a,d,m,f⟩:=id r;simp only at hc hd d f;subst hc hd d f;have e:vs.toArray++ws.toArray=(vs++ws).toArray:=by simp
 by_cases hw:ws=[]
 ·show Vp #[_,h,rfl] #[_,a,rfl] Tj US R0 RX (RI _ _)
   (tuple_addW1 t b vs.toArray ws.toArray n m k c o g (by simpa using l) (by simp[hw])) #[h,a,p hw]
 ·show Vp #[_,h,rfl] #[_,a,rfl] Tj US R0 RX (RI _ _)
   (tuple_addW2 t b vs.toArray ws.toArray n m k c o g (by simpa using l) (by simpa using hw) (by rw[N4,N4];show hsz)) #[h,a,?_]
  rw[e];show q hw
abbrev dY (n d:NF):NJ NV->NF
 |none=>d
 |some v=>if v<0 then(v+(n:NV)).toNat else min v.toNat n
def rz (n d:NF):dY n d dx=d:=rfl
def vR (n d k:NF):dY n d (ba k)=min k n:=by
 show(if k<0 then(k+(n:NV)).toNat else min _ n)=min k n
 rw[Ot ∅,Od]
def pK (v:NV)(n d:NF):(if v<0 then max (v+n) 0 else min v n)=((dY n d (ba v))):=by
 show(if v<0 then max _ 0 else min v n)=(if v<0 then(v+n).toNat else min _ n)
 by_cases a:v<0
 ·rw[Ob a,Ob a];show(Int.ofNat_toNat _).symm
 ·rw[Ot a,Ot a];obtain⟨m,rfl⟩:=Qn (XF.mp a);rw[Od];rcases Nat.le_total m n with h|h
  ·rw[T7 h,V9 (W6.mpr h)]
  ·rw[Tk h,Int.min_eq_right (W6.mpr h)]
def uq (lo hi:NJ NV)(n:NF):Rx lo hi 1 n=(((dY n 0 lo):NV),((dY n n hi):NV)):=by
 unfold Rx;show Xj ?_ ?_
 ·cases lo with
  |none=>rfl
  |some v=>show pK v n 0
 ·cases hi with
  |none=>rfl
  |some v=>show pK v n n
def ur (i j:NF):PF i j 1=j-i:=by
 unfold PF;have a:(1:NV) > 0:=∅
 revert a Vq W7;split<;>omega
def iB (p:R1 v o)(h:Q o s):wh prog w A (Wa v) Q E s:=by
 cases p with
 |none=>show SA h
 |int i t=>show slicePart_int h
def fj {lo :NJ NV}{Q:NV×NV×NF->NH->Prop}(g:s.heap.IsSliceOf e c d .none)(i:R1 c lo)(j:R1 d hi)
  (h:Q (((dY n 0 lo)),1,dY n n hi-dY n 0 lo) s):wh prog w A (SC (.ref e) (pure n)) Q E s:=by
 obtain⟨os,b,f,a⟩:=id g;show NA (NA (O7 b a (x:=c) rfl (NA (O7 b a (x:=d) rfl (NA (O7 b a  rfl (NN ?_)))))));show NA (SA ?_);show NA (iB i (NA (iB j (NA (NN ?_)))));change wpAny _ _ (match Rx lo hi 1 n with|(lo,hi)=>pure (lo,(1:NV),PF lo hi 1)) _ _ s
 rw[uq lo hi n];change wpAny _ _ (pure _) _ _ s;rw[ur];show NN h
def zG (xs:OU NC)(i k:NF):((NQ k).filterMap λ(m:NF)=>xs[(i+(m:NV)*1).toNat]?).toArray=((xs.toList.drop i).take k).toArray:=by
 have e:(λ(m:NF)=>xs[(i+(m:NV)*1).toNat]?)=λm=>xs[i+m]?:=by
  funext m
  have:(i+(m:NV)*1).toNat=i+m:=∅
  rw[this]
 rw[e];have:=pick_run xs i k;rw[List.filterMap_map]at this;have a:((λx=>xs[x]?)∘λx=>i+x)=λm=>xs[i+m]?:=rfl
 rw[a]at this;rw[this]
def iS {lo :NJ NV}(b:Ti s.heap t items)(j:s.heap.IsSliceOf i l m .none)(o:R1 l lo)(p:R1 m hi)
  (hw:¬ (dY ⇑items 0 lo=0/\dY ⇑items ⇑items hi=⇑items))
  (h:Q (.ref ⇑s.heap.objs) {s with heap:=s.heap.push {cls:=.type "tuple",data:=.seq ((items.toList.drop (dY ⇑items 0 lo)).take (dY ⇑items ⇑items hi-dY ⇑items 0 lo)).toArray}})
  (hsz:⇑items<=sizeLine):wh prog w A (getItem (.ref t) (.ref i)) Q E s:=by
 have a:sizeOk (.seq ((items.toList.drop (dY ⇑items 0 lo)).take (dY ⇑items ⇑items hi-dY ⇑items 0 lo)).toArray):=by
  show((items.toList.drop _).take _).toArray.size<=sizeLine;rw[N4,Om,Rt,Ov];show N9 (Tl _ _) (N9 (XG _ _) hsz)
 obtain⟨os,g,e,n⟩:=id j;have d:s.TypeIs (.ref i) "slice":=#[os,g,e];unfold getItem
 try with_reducible show Pc ?_
 first|refine NA (NN ?_)|skip
 show NA (SV b.typeIs #v[] ?_)
 show NA (OW  b.typeIs Pi
  (Pd Pi b.typeIs Sl ?_ (SD _ _)))
 change wpAny _ _ (Qt (.ref t) >>= _) _ _ s;show NA (UT b ?_);show NA (QZ d ?_);show NA (fj j o p ?_);have f:¬ ((((dY ⇑items 0 lo):NV)==0&&(1:NV)==1&&(dY ⇑items ⇑items hi-dY ⇑items 0 lo)==⇑items)=true):=by
  intro q;rw[NM,NM]at q;have c:=eq_of_beq q.1.1;have k:=eq_of_beq q.2;have c:=Int.natCast_eq_zero.mp c;rw[c,W8]at k;show hw #[c,k]
 change wpAny _ _ (if (((dY ⇑items 0 lo):NV)==0&&1==1&&(dY ⇑items ⇑items hi-dY ⇑items 0 lo)==⇑items)=true then _ else _) _ _ s
 rw[Ot f,zG]
 first
  |show NA  (OQ (NN #[_,rfl,NN h]) a)
  |show NA  (OQ (NA (NN (NN #[_,rfl,NN h]))) a)
  |show NA (NA  (OQ (NN (NN #[_,rfl,NN h])) a))
  |show NA (NA  (OQ (NN #[_,rfl,NN h]) a))
end
end HT
namespace L2
open PySem PySem.Spec PyProof.Rows
noncomputable abbrev TO:=St->Hp->(NJ NV->Hp->Prop)->Prop
abbrev PO (X:Cx)(e:NJ Oi)(t:TO):Prop:=
 ∀(J:Ny (NR×Ps)) (s:NH) (Y:St) (H:Hp) (Q:NJ NV->Hp->Prop),Inv X J Y H s->t Y H Q->
  wi X (evalPart e X.env) (λu s'=>∃o a,Inv X J Y a s'/\R1 u o/\Q o a) X.xe s
abbrev Dr:TO:=λ_ H Q=>Q dx H
abbrev J4 (t:TE):TO:=λY H Q=>t Y H λx a=>∃i,x=.int i/\Q (ba i) a
section
variable{X:Cx}{e:Oi}{te:TE}{lo hi:NJ Oi}{tl th:TO}{pos p2:Qr}
def Ds:PO X dx Dr:=by
 intro J s Y H Q I h;show NN #[dx,H,I,.none,h]
def Dt (h:PE X e te):PO X (ba e) (J4 te):=by
 intro J s Y H Q I hw;show bo (h _ s Y H _ I hw) λu a #[x,H1,I1,r1,q1]=>?_
 obtain⟨i,rfl,q⟩:=q1;obtain⟨t,rfl⟩:=r1;show#[ba i,H1,I1,.int i t,q]
abbrev J5 (X:Cx)(r:V->NJ NV->NJ NV->Hp->VK->Prop):Prop:=
 ∀(J:Ny (NR×Ps)) (s:NH) (Y:St) (H:Hp) (x:V) (v vl vu:NC) (lo hi:NJ NV) (sl:NR) (Q:VK),Inv X J Y H s->RelV x v->s.heap.IsSliceOf sl vl vu .none->R1 vl lo->R1 vu hi->r x lo hi H Q->
  ∃T id,typeLookup (.type T) "__getitem__" = pure (ba (.builtin id))/\s.TypeIs v T/\wi X (getItem v (.ref sl)) (EP X J Y Q) X.xe s
abbrev Nn (r:V->NJ NV->NJ NV->Hp->VK->Prop)(te:TE)(tl th:TO):TE:=λY H Q=>te Y H λx a=>tl Y a λl b=>th Y b λu c=>r x l u c Q
def zH (k:J5 X r)(i:PE X e te)(hl:PO X lo tl)(n:PO X hi th):PE X (.Subscript e (.Slice lo hi dx p2) pos) (Nn r te tl th):=by
 intro J s Y H Q I h;show Ws (bo (i J s Y H _ I h) λv o #[x,H1,I1,r1,q1]=>?_)
 show Xk (bo (hl J o Y H1 _ I1 q1) λc p #[l,H2,I2,pl,q2]=>bo (n J p Y H2 _ I2 q2) λd a #[u,H3,I3,pu,q3]=>?_)
 rw[evalPart_none];show NN ?_;have f:Inv X J Y H3 {a with heap:=a.heap.push {cls:=.type "slice",data:=.fields [c,d,.none].toArray}}:=I3.kept (t':=a.toks) λb ob q=>ND _ q
 obtain⟨T,id,g,m,j⟩:=k J {a with heap:=a.heap.push {cls:=.type "slice",data:=.fields [c,d,.none].toArray}} Y H3 x v c d l u ⇑a.heap.objs Q f r1 (U8 ..) pl pu q3
 change wi X (subscriptTail e (.Slice lo hi dx p2) v (.ref ⇑a.heap.objs)) (EP X J Y Q) X.xe {a with heap:=a.heap.push {cls:=.type "slice",data:=.fields [c,d,.none].toArray}}
 show Xl (ops:=[.ref ⇑a.heap.objs,v]) m g j (by with_unfolding_all rfl)
abbrev pL (xs:Ny V)(lo hi:NJ NV):Ny V:=(xs.drop (HT.dY ↥xs 0 lo)).take (HT.dY ↥xs ↥xs hi-HT.dY ↥xs 0 lo)
def kn (xs:Ny V)(lo hi:NJ NV):(pL xs lo hi).length<=↥xs:=by
 unfold pL;rw[Om,Rt];show N9 (Tl _ _) (XG _ _)
abbrev Mm (K:NY):V->NJ NV->NJ NV->Hp->VK->Prop:=λx lo hi H Q=>∃a xs,x=.ref a/\SqT K H a xs/\
 ¬ (HT.dY ↥xs 0 lo=0/\HT.dY ↥xs ↥xs hi=↥xs)/\∀p,H p=dx->Q (.ref p) (bP H p (.tup (pL xs lo hi)))
def Hk:J5 X (Mm X.K):=by
 intro J s Y H x v n o lo hi m Q I l g j k h;obtain⟨a,xs,rfl,i,hw,q⟩:=h;cases l;obtain⟨d,r,e,f⟩:=I.tuple i;have c:⇑d.toArray=↥xs:=by show r.length.symm
 show#["tuple",_,PyProof.Rows.slot_tuple_getitem.lookup,e.typeIs,?_];show HT.iS e g j k (by rw[c];show hw) ?_ (by rw[c];show f)
 rw[c];show#[.ref _,_,I.laid   (λb ob q=>ND _ q) (NP _) ?_,rfl,q _ (I.hok.fresh (NP _))]
 show#[#[N9 (kn xs lo hi) f,NoD.new _ _ _],_,(r.drop _).take _,UK _ _]
def Vals.nil_iff (r:Vals xs us):us=[]↔xs=[]:=by
 cases r with
 |nil=>simp
 |cons _ _=>simp
end
abbrev vS (n:NF)(i:NV):NJ NF:=if 0<=i then(if i<n then ba i.toNat else dx)else if -(n:NV)<=i then ba (i+n).toNat else dx
abbrev pM {α:Type}(xs:Ny α)(i:NV):NJ α:=(vS ↥xs i).bind λj=>xs[j]?
def vT (h:vS n i=ba j):seqIndex? i n=ba j/\j<n/\-n<=i/\i<n:=by
 unfold vS at h
 by_cases b:0<=i
 ·rw[Ob b]at h
  by_cases a:i<n
  ·rw[Ob a]at h;have e:=OT h;show#[by rw[V5 b a,e],∅,∅,a]
  ·rw[Ot a]at h;cases h
 ·rw[Ot b]at h
  by_cases a : -n<=i
  ·rw[Ob a]at h;have e:=OT h;show#[by rw[Vr ∅ a,e],∅,a,∅]
  ·rw[Ot a]at h;cases h
def pN (h:pM xs i=ba v):∃j,seqIndex? i ↥xs=ba j/\xs[j]?=ba v/\j<↥xs/\-(↥xs)<=i/\i<↥xs:=by
 unfold pM at h;cases e:vS _ i with
 |none=>rw[e]at h;cases h
 |some j=>
  rw[e]at h;obtain⟨a,b,c,d⟩:=vT e;show#[j,a,h,b,c,d]
def atI_nat {j:NF}(h:xs[j]?=ba v):pM xs j=ba v:=by
 have a:=(NZ.mp h).1;have e:vS ↥xs j=ba j:=by
  unfold vS;rw[Ob (by show NX _),Ob (by show QH.mpr ‹_›)];rfl
 unfold pM;rw[e];show h
abbrev pP (b:Oi):Prop:=∀o i,subscripted b false o i=operate [o,i] (getItem o i)
abbrev IxR (X:Cx)(r:R2):Prop:=
 ∀(b a:Oi) (J:Ny (NR×Ps)) (s:NH) (Y:St) (H:Hp) (x y:V) (v u:NC) (Q:VK),Inv X J Y H s->RelV x v->RelV y u->r x y H Q->
  subscripted a false v u=operate [v,u] (getItem v u)->wi X (subscriptTail b a v u) (EP X J Y Q) X.xe s
abbrev MtR (X:Cx)(id:Pn)(r:V->Ny V->Hp->VK->Prop):Prop:=
 ∀(J:Ny (NR×Ps)) (s:NH) (Y:St) (H:Hp) (x:V) (xs:Ny V) (v:NC) (us:Ny NC) (Q:VK),Inv X J Y H s->RelV x v->Vals xs us->r x xs H Q->
  wi X (call (.builtin id) (v::us)) (EP X J Y Q) X.xe s
section
variable{X:Cx}{a b:Oi}{ta tb:TE}{pos:Qr}
def J6 (g:IxR X r)(e:PE X a ta)(f:PE X b tb)(i:pP b):PE X (.Subscript a b pos) (LL r ta tb):=by
 intro J s Y H Q I h;show Ws (G9 e f I h λv u l x y c d j k q=>g a b J l Y c x y v u Q d j k q (i _ _))
abbrev Mn (K:NY):R2:=λx y H Q=>∃p xs i v,x=.ref p/\y=.int i/\SqL K H p xs/\pM xs i=ba v/\Q v H
abbrev Mo (K:NY):R2:=λx y H Q=>∃p xs i v,x=.ref p/\y=.int i/\SqT K H p xs/\pM xs i=ba v/\Q v H
abbrev Mp:R2:=λx y H Q=>∃z i c,x=.str z/\y=.int i/\↥z<=sizeLine/\pM z.cps.toList i=ba c/\Q (.str #[[c].toArray]) H
def Du:IxR X (Mn X.K):=by
 intro g f J s Y H x y v u Q I D E h m;obtain⟨p,xs,i,z,rfl,rfl,C,B,q⟩:=h;cases D;obtain⟨t,rfl⟩:=E;obtain⟨c,r,d,M⟩:=I.list C;obtain⟨j,a,n,G,o,A⟩:=pN B;obtain⟨w,k,e⟩:=r.get n;have hl:=↥r;have L:=pH;have fin:EP X _ Y Q w s:=#[z,H,I,e,q]
 by_cases l:0<=i
 ·have b:i.toNat=j:=by
   rw[V5 l A]at a;show OT a
  show item_listR d.isList l ∅ (by rw[b];simpa using k) fin m
 ·have b:(i+⇑c.toArray).toNat=j:=by
   rw[Vr ∅ o]at a
   rw[N4,<- hl];show OT a
  show Q7  d.isList.typeIs slot_list_getitem.lookup
   (wpAny_getItem_list_neg  d.isList ∅ (by rw[N4]<;>omega) ∅ (by rw[b];simpa using k) #[rfl,fin]) m
def Hl:IxR X (Mo X.K):=by
 intro c b J s Y H x y v u Q I o A h m;obtain⟨p,xs,i,z,rfl,rfl,l,k,q⟩:=h;cases o;obtain⟨t,rfl⟩:=A;obtain⟨n,r,d,G⟩:=I.tuple l;obtain⟨j,f,g,B,C,D⟩:=pN k;obtain⟨w,e,a⟩:=r.get g;have hl:=↥r;have E:=pH;have fin:EP X _ Y Q w s:=#[z,H,I,a,q];show Q7  d.typeIs slot_tuple_getitem.lookup
  (getItem_tuple   d ∅ ∅ (by rw[N4,<- hl];show f) (by simpa using e) #[rfl,fin]) m
def Hm:IxR X Mp:=by
 intro b a J s Y H x y v u Q I o p h n;obtain⟨z,i,c,rfl,rfl,A,m,q⟩:=h;obtain⟨t,rfl⟩:=o;obtain⟨t',rfl⟩:=p;obtain⟨j,d,g,r,k,l⟩:=pN m;have hl:↥z.cps.toList=↥z:=by simp[XH]
 rw[hl]at d k l;have w:=pH;show Xl (typeIs_str s z t) slot_str_getitem.lookup (getItem_str  (by
  have e:decide (i < -(2^63))=false:=Oy ∅
  have f:decide (i>=2^63)=false:=Oy ∅
  rw[e,f,WK]) (by rw[d];simpa using g) #[.str _,H,I.tok _,#[_,rfl],q]) n
def ut (a:Ny NC)(n j:NF)(u:NC):P1 (·.setIfInBounds j u) (xd a.toArray n)=(xd (a.set j u).toArray n):=by
 simp[P1]
def Inv.lst {Y:St}(I:Inv X J Y H s)(h:H p=ba (.lst xs)) :
  ∃ a n,Vals xs a/\s.heap.get? p=ba (xd a.toArray n)/\↥xs<=sizeLine:=by
 obtain⟨z,a,n,r,e⟩:=I.hok p _ h;show#[a,n,r,e,z]
def Inv.lstUpd {Y:St}{c a:Ny NC}(I:Inv X J Y H s)(h:H p=ba (.lst xs))
  (k:s.heap.get? p=ba (xd c.toArray n)) (i:f (xd c.toArray n)=(xd a.toArray d)) (r:Vals g a) (l:↥g<=sizeLine) (t:NF) :
  Inv X J Y (bP H p (.lst g)) {s with heap:=s.heap.update p f,toks:=t}:=by
 have e:(s.heap.update p f).get? p=ba (xd a.toArray d):=by
  rw[Qz f k (by rw[i]<;>rfl),i]
 show I.write (x:=p) (e:=p) (by rw[h];trivial) (.inl rfl) (λb u j q=>(Pa _ _ (Ne.symm j)).trans q) #[_,e] ?_
 show#[l,a,d,r,e]
abbrev J7:V->V->V->Hp->(Hp->Prop)->Prop:=λo i v H Q=>∃p xs k j,o=.ref p/\i=.int k/\H p=ba (.lst xs)/\vS ↥xs k=ba j/\Q (bP H p (.lst (xs.set j v)))
def zI:G2 X J7:=by
 intro J s Y H o i v D C u Q I y x z h;obtain⟨p,xs,k,j,rfl,rfl,l,m,q⟩:=h;cases y;obtain⟨t,rfl⟩:=x;obtain⟨a,n,r,c,w⟩:=I.lst l;obtain⟨b,A,f,g⟩:=vT m;have hl:=↥r;have B:=pH;have d:=
  I.lstUpd l c (ut a n j u) (r.set z j) (by rw[List.length_set];show w) s.toks
 by_cases e:0<=k
 ·have hk:k.toNat=j:=by
   rw[V5 e g]at b;show OT b
  show PySem.W.ki_setAt c e ∅ (by rw[N4,<- hl];show g) (by rw[hk];show#[_,d,q])
 ·have hk:(k+⇑a.toArray).toNat=j:=by
   rw[Vr ∅ f]at b
   rw[N4,<- hl];show OT b
  show PySem.W.ki_setBack c ∅ (by rw[N4,<- hl];show f) ∅ (by rw[hk];show#[_,d,q])
def zJ (i:NV)(n d:NF):(if (1:NV) > 0 then max 0 (min (if i<0 then i+n else i) n)else max (-1) (min (if i<0 then i+n else i) (n-1)))=((HT.dY n d (ba i))):=by
 rw[<- HT.pK,Ob #v[]]
 by_cases h:i<0
 ·rw[Ob h,Ob h,V9 ∅,Int.max_comm]
 ·rw[Ot h,Ot h,Int.max_eq_right (Int.le_min.mpr #[XF.mp h,NX n])]
def pQ (lo hi:NJ NV)(n:NF):(sliceBounds lo hi dx n).1=((HT.dY n 0 lo))/\(sliceBounds lo hi dx n).2.1=((HT.dY n n hi))/\(sliceBounds lo hi dx n).2.2=1:=by
 show#[?_,?_,rfl]
 ·cases lo with
  |none=>(delta sliceBounds HT.dY;simp)
  |some i=>show zJ i n _
 ·cases hi with
  |none=>(delta sliceBounds HT.dY;simp)
  |some i=>show zJ i n _
def nU (a:Ny NC)(lo hi:NJ NV):slicePick a.toArray lo hi dx=((a.drop (HT.dY ↥a 0 lo)).take (HT.dY ↥a ↥a hi-HT.dY ↥a 0 lo)).toArray:=by
 obtain⟨b,c,d⟩:=pQ lo hi _;unfold slicePick;rw[b,c,d];simp only[sliceRange_one,pick_run]<;>rfl
abbrev Mq (K:NY):V->NJ NV->NJ NV->Hp->VK->Prop:=λx lo hi H Q=>∃a xs,x=.ref a/\SqL K H a xs/\∀p,H p=dx->Q (.ref p) (bP H p (.lst (pL xs lo hi)))
def Dv:J5 X (Mq X.K):=by
 intro J s Y H x v n o lo hi m Q I l e j k h;obtain⟨a,xs,rfl,f,q⟩:=h;cases l;obtain⟨i,r,d,g⟩:=I.list f;have c:=↥r;show#["list",_,slot_list_getitem.lookup,d.isList.typeIs,?_];show wpAny_getItem_list_slice d.isList e j k .none (by trivial) ?_ (by rw[N4]<;>omega)
 rw[nU,<- c];show#[.ref _,_,I.laid   (λb ob q=>ND _ q) (NP _) ?_,rfl,q _ (I.hok.fresh (NP _))]
 show#[N9 (kn xs lo hi) g,_,0,(r.drop _).take _,N2 _ rfl]
abbrev ip:V->Oh
 |.non=>true
 |.bl _=>true
 |.int _=>true
 |.str _=>true
 |_=>false
abbrev Dw:V->V->Oh
 |.non,.non=>true
 |.bl a,.bl b=>a==b
 |.bl a,.int b=>(if a then 1 else 0)==b
 |.int a,.bl b=>a==(if b then 1 else 0)
 |.int a,.int b=>a==b
 |.str a,.str b=>a==b
 |_,_=>false
def Hn (e:RelV y u)(c:RelV x v)(f:ip y=true)(d:ip x=true):Sd A s u v (Dw y x):=by
 cases y with
 |non=>
  cases e;cases x with
  |non=>cases c;show X3 _
  |bl b=>cases c;show Xm b
  |int b=>obtain⟨t,rfl⟩:=c;show Xv b t
  |str b=>obtain⟨t,rfl⟩:=c;show Xw b t
  |_=>show absurd d OG
 |bl a=>
  cases e;cases x with
  |non=>cases c;show Xn a
  |bl b=>cases c;show Xo a b
  |int b=>obtain⟨t,rfl⟩:=c;show Xx a b t
  |str b=>obtain⟨t,rfl⟩:=c;show Xy a b t
  |_=>show absurd d OG
 |int a=>
  obtain⟨t',rfl⟩:=e;cases x with
  |non=>cases c;show Xz a t'
  |bl b=>cases c;show XA a t' b
  |int b=>obtain⟨t,rfl⟩:=c;show XI a t' b t
  |str b=>obtain⟨t,rfl⟩:=c;show tx a t' b t
  |_=>show absurd d OG
 |str a=>
  obtain⟨t',rfl⟩:=e;cases x with
  |non=>cases c;show XB a t'
  |bl b=>cases c;show XC a t' b
  |int b=>obtain⟨t,rfl⟩:=c;show Uqa a t' b t
  |str b=>obtain⟨t,rfl⟩:=c;show XJ a t' b t
  |_=>show absurd d OG
 |_=>show absurd f OG
abbrev C5 (x:V)(u:NC):Oh:=match u with
 |.none=>Dw .non x
 |.bool b=>Dw (.bl b) x
 |.int i _=>Dw (.int i) x
 |.str z _=>Dw (.str z) x
 |_=>false
def uu (r:RelV y u)(f:ip y=true):C5 x u=Dw y x:=by
 cases y with
 |non=>cases r;rfl
 |bl b=>cases r;rfl
 |int i=>obtain⟨t,rfl⟩:=r;rfl
 |str z=>obtain⟨t,rfl⟩:=r;rfl
 |_=>show absurd f OG
def iT :∀{xs:Ny V}{us:Ny NC},Vals xs us->xs.all ip=true->us.any (C5 x)=xs.any λy=>Dw y x
 |_,_,.nil,_=>rfl
 |y::xs,u::us,.cons r t,f=>by
  rw[OV,NM]at f;rw[PC,PC,uu r f.1,iT t f.2]
def d8 (c:RelV x v)(b:ip x=true):∀{xs:Ny V}{us:Ny NC},Vals xs us->xs.all ip=true->∀u∈us,Sd A s u v (C5 x u)
 |_,_,.nil,_=>λu a=>by cases a
 |y::xs,u::us,.cons r t,f=>λd a=>by
  rw[OV,NM]at f;rcases Of.mp a with rfl|a
  ·rw[uu r f.1];show Hn r c f.1 b
  ·show d8 c b t f.2 d a
abbrev LN (x:V)(xs:Ny V):Oh:=xs.any λy=>Dw y x
abbrev Mr (K:NY)(a:Oh):R2:=λx y H Q=>∃p xs,y=.ref p/\(SqL K H p xs\/SqT K H p xs)/\ip x=true/\xs.all ip=true/\Q (.bl (if a then !LN x xs else LN x xs)) H
def xY:OpR X (compareOp .In) (Mr X.K false):=by
 intro J s Y H x y v u Q I f i h;obtain⟨p,xs,rfl,b,e,c,q⟩:=h;cases i;rcases b with b|b
 ·obtain⟨a,r,d,g⟩:=I.list b;show Wb _ d.isList (λw hw=>d8 f e r c w (by simpa using hw)) #[.bl _,H,I,rfl,?_]
  rw[show a.toArray.any _=a.any (C5 x) by simp,iT r c]
  show q
 ·obtain⟨a,r,d,g⟩:=I.tuple b;show VO _ d (λw hw=>d8 f e r c w (by simpa using hw)) #[.bl _,H,I,rfl,?_]
  rw[show a.toArray.any _=a.any (C5 x) by simp,iT r c]
  show q
def pR:OpR X (compareOp .NotIn) (Mr X.K true):=by
 intro J s Y H x y v u Q I f i h;obtain⟨p,xs,rfl,b,e,c,q⟩:=h;cases i;rcases b with b|b
 ·obtain⟨a,r,d,g⟩:=I.list b;show U9 _ d.isList (λw hw=>d8 f e r c w (by simpa using hw)) #[.bl _,H,I,rfl,?_]
  rw[show a.toArray.any _=a.any (C5 x) by simp,iT r c]
  show q
 ·obtain⟨a,r,d,g⟩:=I.tuple b;show SeqAt.notIn_tupleAt _ d (λw hw=>d8 f e r c w (by simpa using hw)) #[.bl _,H,I,rfl,?_]
  rw[show a.toArray.any _=a.any (C5 x) by simp,iT r c]
  show q
def pS:CallR X (.type "list") (λxs H Q=>∃p d,xs=[.ref p]/\(SqL X.K H p d\/SqT X.K H p d)/\∀l,H l=dx->Q (.ref l) (bP H l (.lst d))):=by
 intro J s Y H xs us Q I r h;obtain⟨p,d,rfl,i,q⟩:=h;obtain⟨u,rfl,v⟩:=ox r;cases v;have fin:∀a,Vals d a->↥d<=sizeLine->∀h' f,(∀b t,s.heap.get? b=ba t->h'.get? b=ba t)->
   h'.get? ⇑s.heap.objs=ba _->EP X _ Y Q _ {s with heap:=h'}:=λa c j h' f kp e=>
  #[.ref _,_,I.laid  kp (NP _) (show ObjOk _ X.w _ h' _ (.lst d)from#[j,a,f,c,e]),rfl,q _ (I.hok.fresh (NP _))]
 rcases i with i|i
 ·obtain⟨a,c,m,j⟩:=I.list i;have g:=↥c;obtain⟨o,k,hc,n,hd⟩:=m.isList;show WL p (.inl rfl) k hc hd (λh' f kp e=>fin a c j h' f kp e) (by simp only[N4]<;>omega)
 ·obtain⟨a,c,m,j⟩:=I.tuple i;have g:=↥c;obtain⟨o,k,hc,n,hd⟩:=m;show WL p (.inr rfl) k hc hd (λh' f kp e=>fin a c j h' f kp e) (by simp only[N4]<;>omega)
def iq:CallR X (.type "tuple") (λxs H Q=>∃p c,xs=[.ref p]/\((SqL X.K H p c/\∀l,H l=dx->Q (.ref l) (bP H l (.tup c)))\/(SqT X.K H p c/\Q (.ref p) H))):=by
 intro J s Y H xs us Q I r h;obtain⟨p,c,rfl,h⟩:=h;obtain⟨u,rfl,n⟩:=ox r;cases n;rcases h with⟨d,q⟩|⟨d,q⟩
 ·obtain⟨a,g,f,k⟩:=I.list d;have j:=↥g;show call_tuple_list f.isList (λh' kp=>?_) (by simp only[N4]<;>omega)
  have i:Inv X _ Y H {s with heap:=h'}:=I.kept  kp
  have m:Inv X _ Y (bP H _ (.tup c)) {s with heap:=h'.push _}:=
   i.laid  (λb o e=>ND _ e) (NP _) #[#[k,NoD.new _ _ _],a,g,UK _ _]
  show#[.ref ⇑h'.objs,_,m,rfl,q _ (i.hok.fresh (NP _))]
 ·obtain⟨a,g,f,k⟩:=I.tuple d;show call_tuple_same f #[.ref p,H,I,rfl,q]
abbrev No (K:NY)(T:Pn)(x:V)(H:Hp):Prop:=match x with
 |.str _=>T="str"
 |.int _=>T="int"
 |.ref p=>(T="list"/\∃xs,SqL K H p xs)\/(T="tuple"/\∃o,K.lookup p=ba o/\o.cls=.type "tuple"/\o.dict=dx)\/Pg
 |_=>Pg
def zK {Y:St}(I:Inv X J Y H s)(r:RelV x v)(ty:No X.K T x H) :
  s.TypeIs v T/\∀a,v=.ref a->∃ob,s.heap.get? a=ba ob/\ob.dict=dx:=by
 cases x with
 |str z=>
  obtain⟨t,rfl⟩:=r;cases ty;show#[typeIs_str s z t,λ_ e=>nomatch e]
 |int i=>
  obtain⟨t,rfl⟩:=r;cases ty;show#[Wt s i t,λ_ e=>nomatch e]
 |ref p=>
  cases r;rcases ty with⟨rfl,xs,d⟩|⟨rfl,o,hk,hc,hd⟩|hk
  ·obtain⟨f,_,b,_⟩:=I.list d;show#[b.isList.typeIs,λa e=>?_]
   cases e;obtain⟨o,n,e,c,hd,_⟩:=b;show#[o,e,hd]
  ·show#[#[o,I.kIn p o hk,hc],λa e=>?_]
   cases e;show#[o,I.kIn _ o hk,hd]
  ·show hk.elim
 |_=>show Pg.elim ty
variable{o e:Oi}{es:Ny Oi}{to:TE}{t:TA}{name:Oc}{apos cpos:Qr}{T id:Pn}{r:V->Ny V->Hp->VK->Prop}
end
abbrev Ms (X:Cx)(id:Pn)(r:V->Ny V->Hp->VK->Prop):Prop:=
 ∀(J:Ny (NR×Ps)) (s:NH) (Y:St) (H:Hp) (x:V) (xs:Ny V) (v:NC) (us:Ny NC) (Q:VK),Inv X J Y H s->RelV x v->Vals xs us->r x xs H Q->
  wi X (call (.builtin id) (v::us)) (EP X J Y Q) X.xe s
def Vals.one:∀{x:V}{us:Ny NC},Vals [x] us->∃u,us=[u]/\RelV x u
 |_,_,.cons r .nil=>#[_,rfl,r]
def Vals.eraseIdx:∀{xs:Ny V}{us:Ny NC} i,Vals xs us->Vals (xs.eraseIdx i) (us.eraseIdx i)
 |_,_,_,.nil=>.nil
 |_,_,0,.cons _ t=>t
 |_,_,i+1,.cons r t=>.cons r (Vals.eraseIdx i t)
def Vals.rep (h:Vals xs us):∀k:NF,Vals (OB k xs).flatten (OB k us).flatten
 |0=>.nil
 |k+1=>by
  show Vals.append h (Vals.rep h k)
def oE {α:Type}:∀(l:Ny α) i,(l.eraseIdx i).length<=↥l
 |[],_=>NP _
 |_::_,0=>QY _
 |_::r,i+1=>Tn (oE r i)
def oF (b:Ny NC):∀ k a,
  XM (λd f=>d++f) a.toArray (OB k b.toArray)=(a++(OB k b).flatten).toArray
 |0,a=>by simp
 |k+1,a=>by
  have e:a.toArray++b.toArray=(a++b).toArray:=by simp
  have c:(a++b)++(OB k b).flatten=a++(OB (k+1) b).flatten:=by
   rw[RA,Vs,OO]
  rw[<- c,<- oF b k _,<- e,RA,List.foldl_cons]
section
variable{X:Cx}{J:Ny (NR×Ps)}{Y:St}{H:Hp}{s:NH}{l b:NR}{xs ys zs:Ny V}
def Inv.lset {b :Ny NC}(I:Inv X J Y H s)(c:H l=ba (.lst xs))
  (e:s.heap.get? l=ba (xd b.toArray n)) (g:f b.toArray=a.toArray) (i:Vals ys a) (j:↥ys<=sizeLine) :
  Inv X J Y (bP H l (.lst ys)) {s with heap:=s.heap.update l (P1 f),toks:=t'}:=by
 have q:=VP e f;rw[g]at q;show I.write   (by rw[c];show trivial) (.inl rfl) (λk u d h=>(Pa _ _ (Ne.symm d)).trans h) #[_,q] ?_
 show#[j,a,_,i,q]
def Inv.lnew (I:Inv X J Y H s)(b:Vals ys a)(c:↥ys<=sizeLine) :
  Inv X J Y (bP H ⇑s.heap.objs (.lst ys)) {s with heap:=s.heap.push {cls:=.type "list",data:=.seq a.toArray},toks:=t'}:=
 I.laid (λ_ _ q=>ND _ q) (NP _) #[c,a,0,b,N2 _ rfl]
def Inv.fresh (I:Inv X J Y H s):H ⇑s.heap.objs=dx:=I.hok.fresh (NP _)
def Inv.lstM (I:Inv X J Y H s)(b:H l=ba (.lst xs)):↥xs<=sizeLine/\∃ a n,Vals xs a/\↥xs=↥a/\s.heap.get? l=ba (xd a.toArray n):=by
 obtain⟨z,a,n,r,e⟩:=I.hok l _ b;show#[z,a,n,r,↥r,e]
def rA (h:n<=sizeLine):RJ n=false:=by
 show Oy (by show TJ.mpr ‹_›)
end
section
variable{X:Cx}
abbrev Dx:V->Ny V->Hp->VK->Prop:=λx vs H Q=>∃l xs y,x=.ref l/\vs=[y]/\H l=ba (.lst xs)/\↥xs<sizeLine/\Q .non (bP H l (.lst (xs++[y])))
def xZ:Ms X "list.append" Dx:=by
 intro J s Y H x vs v us Q I f d h;obtain⟨l,xs,y,rfl,rfl,a,g,q⟩:=h;cases f;obtain⟨u,rfl,c⟩:=d.one;obtain⟨z,b,n,r,hl,e⟩:=I.lstM a;show Q8 F.slot_list_append #[_,e,rfl] F.entry_list_append (F.args_list_append_2 _ _) (Vt l _ n u (by rw[N4];omega)) #[e,?_]
 show#[.non,_,I.lset  a e (by simp) (r.append #v[c]) ?_,rfl,q]
 rw[NE,Oq];show Vu ‹_›
abbrev Dy:V->Ny V->Hp->VK->Prop:=λx vs H Q=>∃l b xs a,x=.ref l/\vs=[.ref b]/\H l=ba (.lst xs)/\H b=ba (.lst a)/\↥xs+↥a<=sizeLine/\Q .non (bP H l (.lst (xs++a)))
def x4:Ms X "list.extend" Dy:=by
 intro J s Y H x vs v us Q I t p h;obtain⟨l,b,xs,A,rfl,rfl,f,i,w,q⟩:=h;cases t;obtain⟨u,rfl,o⟩:=p.one;cases o;obtain⟨z,d,n,r,hl,e⟩:=I.lstM f;obtain⟨y,a,k,m,j,g⟩:=I.lstM i;have hsz:⇑d.toArray+⇑a.toArray<=sizeLine:=by rw[N4,N4];omega
 have c:¬ (!d.toArray.isEmpty&&RJ (⇑d.toArray+⇑a.toArray))=true:=by
  rw[rA hsz,Wu];show OG
 show Q8 F.slot_list_extend #[_,e,rfl] F.entry_list_extend (F.args_list_extend_2 _ _)
  (Vv l _ n b _ k c (by rw[N4];omega) (by show Rj ‹_›)) #[e,g,?_]
 show#[.non,_,I.lset  f e (by simp) (r.append m) ?_,rfl,q]
 rw[NE];show N9 ‹_› (OA rfl)
abbrev Ho:V->Ny V->Hp->VK->Prop:=λx vs H Q=>∃l xs i k y,x=.ref l/\vs=[.int i]/\H l=ba (.lst xs)/\-(2^63)<=i/\i<2^63/\seqIndex? i ↥xs=ba k/\xs[k]?=ba y/\Q y (bP H l (.lst (xs.eraseIdx k)))
def zL:Ms X "list.pop" Ho:=by
 intro J s Y H x vs v us Q I o m h;obtain⟨l,xs,i,k,y,rfl,rfl,b,c,d,hk,f,q⟩:=h;cases o;obtain⟨u,rfl,j⟩:=m.one;obtain⟨t,rfl⟩:=j;obtain⟨z,g,n,r,hl,e⟩:=I.lstM b;obtain⟨w,hw,a⟩:=r.get f;show Q8 F.slot_list_pop #[_,e,rfl] F.entry_list_pop (F.args_list_pop_2 _ _)
  (Xp l _ n i t k w (Wv c d) (by rw[N4,<- hl];show hk) (by rw[<- O6];show hw) (by rw[N4];omega)) #[e,?_]
 show#[y,_,I.lset  b e ?_ (r.eraseIdx k) ?_,a,q]
 ·rw[List.eraseIdxIfInBounds_toArray]
 ·have:=oE xs k;show N9 ‹_› ‹_›
abbrev Mt:R2:=λx y H Q=>∃l b xs a,x=.ref l/\y=.ref b/\H l=ba (.lst xs)/\H b=ba (.lst a)/\↥xs+↥a<=sizeLine/\∀p,H p=dx->Q (.ref p) (bP H p (.lst (xs++a)))
def Hq:OpR X (binaryOp .Add) Mt:=by
 intro J s Y H x y v u Q I m o h;obtain⟨l,b,xs,A,rfl,rfl,i,g,p,q⟩:=h;cases m;cases o;obtain⟨z,c,n,r,hl,e⟩:=I.lstM i;obtain⟨w,a,t,k,j,d⟩:=I.lstM g;show PySem.P.add_list e d ?_ (by rw[N4,N4];omega)
 have f:c.toArray++a.toArray=(c++a).toArray:=by simp
 rw[f];show#[.ref _,_,I.lnew  (r.append k) (by rw[NE];omega),rfl,q _ I.fresh]
abbrev Mu:R2:=λx y H Q=>∃l k xs,x=.ref l/\y=.int k/\H l=ba (.lst xs)/\-(2^63)<=k/\k<2^63/\↥xs*k.toNat<=sizeLine/\
 ∀p,H p=dx->Q (.ref p) (bP H p (.lst (OB k.toNat xs).flatten))
def Dz {α:Type}(xs:Ny α)(k:NF):(OB k xs).flatten.length=k*↥xs:=by
 induction k with
 |zero=>simp
 |succ k ih=>rw[RA,Vs,NE,ih,TK,Vw]
def Hr:OpR X (binaryOp .Mult) Mu:=by
 intro J s Y H x y v u Q I B C h;obtain⟨l,k,xs,rfl,rfl,A,p,w,j,q⟩:=h;cases B;obtain⟨t,rfl⟩:=C;obtain⟨z,b,n,r,hl,e⟩:=I.lstM A;have g:⇑b.toArray*k.toNat<=sizeLine:=by rw[N4,<- hl];show j
 have d:¬ ⇑b.toArray*k.toNat > (2^63-1)/8:=by
  have:sizeLine<=(2^63-1)/8:=by decide
  omega
 have f:¬ (!Ww k)=true:=by
  rw[Wv p w];show OG
 have c:¬ RJ (⇑b.toArray*k.toNat)=true:=by
  rw[rA g];show OG
 have i:XM (λD E=>D++E) #[] (OB (if b.toArray.isEmpty=true then 0 else k.toNat) b.toArray)=(OB k.toNat b).flatten.toArray:=by
  have o:=λm=>by
   have:=oF b m [];rw[T8]at this;show this
  rw[o];cases b with
  |nil=>simp
  |cons a G=>rw[Ot (by simp)]
 show wpAny_binaryOp_repeat_ref   #v[] #[_,e,rfl] (λs'=>Wt s' k t) noFill_list_mul F.fills_int_mul F.slot_int_rmul repeat_list F.slot_int_index.lookup
  (Q8 F.slot_int_rmul (Wt s k t) F.entry_int_rmul (F.args_int_rmul_2 _ _) (int___rmul___int_list k t l _ n)
   #[e,rfl,#[_,e,rfl],Q8 F.slot_list_mul #[_,e,rfl] F.entry_list_mul (F.args_list_mul_2 _ _) (Vi l _ n k t f d c) #[e,?_]])
 rw[i];show#[.ref _,_,I.lnew  (r.rep _) (by rw[Dz,Nat.mul_comm];show j),rfl,q _ I.fresh]
end
section
variable{κ:Type} [Ro κ]
abbrev nV (U:Ny (κ×V))(k:κ):NJ V:=(U.find? λa=>decide (a.1=k)).map (·.2)
abbrev jD (U:Ny (κ×V))(k:κ)(v:V):Ny (κ×V):=
 if (U.any λa=>decide (a.1=k))=true then U.map (λa=>if a.1=k then(a.1,v)else a)else U++[(k,v)]
def rB {k:κ}(e:p.1=k):nV (p::r) k=ba p.2:=by(delta nV;simp[e])
def rC {k:κ}(e:¬ p.1=k):nV (p::r) k=nV r k:=by simp[nV,e]
def gn (U:Ny (κ×V))(k:κ)(v:V):(jD U k v).length<=↥U+1:=by
 unfold jD;split
 ·rw[Nz];show Qa _ _
 ·rw[NE,On,PN];show NP _
def RelO.isSome_eq (r:RelO o u):o.isSome=u.isSome:=by
 cases o with
 |none=>cases u with
  |none=>rfl
  |some _=>show r.elim
 |some _=>cases u with
  |none=>show r.elim
  |some _=>rfl
def KV.val (r:KV U vs)(k:κ):RelO (nV U k) (valueAt vs k):=by
 unfold KV at r
 induction r with
 |nil=>show Rp
 |@cons p q ps c h t ih=>
  obtain⟨d,f⟩:=h
  by_cases e:p.1=k
  ·have a:q.1=k:=d.symm.trans e;have b:valueAt (q::c) k=ba q.2:=by simp[valueAt,Si,a]
   rw[rB e,b];show f
  ·have a:¬ q.1=k:=λz=>e (d.trans z)
   have b:valueAt (q::c) k=valueAt c k:=by simp[valueAt,Si,a]
   rw[rC e,b];show ih
def KV.any (r:KV U vs)(k:κ):(U.any λa=>decide (a.1=k))=vs.any λa=>decide (a.1=k):=by
 induction r with
 |nil=>rfl
 |cons h t ih=>rw[PC,PC,ih,h.1]
def KV.repl (r:KV U vs)(k:κ)(d:RelV y u) :
  KV (U.map λa=>if a.1=k then(a.1,y)else a) (vs.map λa=>if a.1=k then(a.1,u)else a):=by
 induction r with
 |nil=>show .nil
 |@cons p q ps f h t ih=>
  rw[OP,OP];show .cons ?_ ih;obtain⟨b,c⟩:=h
  by_cases e:p.1=k
  ·rw[Ob e,Ob (b.symm.trans e)];show#[b,d]
  ·rw[Ot e,Ot (λz=>e (b.trans z))];show#[b,c]
def KV.put (r:KV U vs)(k:κ)(a:RelV y u):KV (jD U k y) (stored vs k u):=by
 unfold jD stored;rw[r.any k]
 by_cases e:(vs.any λb=>decide (b.1=k))=true
 ·rw[Ob e,Ob e];show r.repl k a
 ·rw[Ot e,Ot e];show V6 r #[rfl,a]
def KV.length {vs:Ny (κ×NC)}(r:KV U vs):↥U=↥vs:=RF r
end
def rD (r:RelV (kV k) u):(bI P w).is k u=true:=by
 cases k with
 |inl i=>obtain⟨t,e⟩:=r;subst e;show rf P w i t
 |inr x=>obtain⟨t,e⟩:=r;subst e;show rh P w x t
section
variable{P:Op}{w:OF}{H:Hp}{h:OM}{a:NR}
def J8 (ok:HOk P w H h)(e:Rd H a u):ObjOk P w H h a u:=e.ok ok
def lS (ok:HOk P w H h)(e:Rd H a (.dK U)):↥U<=sizeLine/\(a==sysModules)=false/\∃vs,KV U vs/\h.DictOf (bI P w) a vs:=
 J8 ok e
def J9 (ok:HOk P w H h)(e:H a=ba (.dK U)):↥U<=sizeLine/\(a==sysModules)=false/\∃vs,KV U vs/\h.DictOf (bI P w) a vs:=lS ok (.inl e)
end
abbrev DGet (H:Hp)(a:NR)(y:V)(r:NJ V):Prop:=
 ∃U k,Rd H a (.dK U)/\y=kV k/\r=nV U k
abbrev DPut (H:Hp)(a:NR)(y v:V)(b:Hp):Prop:=
 ∃U k,H a=ba (.dK U)/\y=kV k/\↥U<sizeLine/\b=bP H a (.dK (jD U k v))
def DGet.k {k:cL}(e:H a=ba (.dK U)):DGet H a (kV k) (nV U k):=#[U,k,.inl e,rfl,rfl]
def DPut.k {k:cL}(e:H a=ba (.dK U))(hl:↥U<sizeLine):DPut H a (kV k) v (bP H a (.dK (jD U k v))):=#[U,k,e,rfl,hl,rfl]
section
variable{X:Cx}{J:Ny (NR×Ps)}{Y:St}{H:Hp}{s:NH}{a:NR}{y v:V}{u r:NC}{o:NJ V}{A:OD}{E:NC->NH->Prop}
def Inv.big (I:Inv X J Y H s):sysModules<⇑s.heap.objs:=by
 have h:=(I.mod.glob.keeps I.bk).lt;show Pw #v[] h
def Mv (i:A.units+1<cLine)(I:Inv X J Y H s)(g:DGet H a y o)(f:RelV y u)(h:∀s',Inv X J Y H s'->Q (.bool o.isSome) s') :
  wpAny (model X.prog X.w) A (compareOp .In u (.ref a)) Q E s:=by
 obtain⟨U,k,e,d,l⟩:=g
 ·subst d;obtain⟨z,hd,vs,b,c⟩:=lS I.hok e;show wpAny_in_of (rD f) hd c.mapOf ?_;rw[<- (b.val k).isSome_eq,<- l];show h _ (I.tok _)
def DA (i:A.units+1<cLine)(I:Inv X J Y H s)(g:DGet H a y o)(f:RelV y u)(h:∀s',Inv X J Y H s'->Q (.bool (!o.isSome)) s') :
  wpAny (model X.prog X.w) A (compareOp .NotIn u (.ref a)) Q E s:=by
 obtain⟨U,k,e,d,l⟩:=g
 ·subst d;obtain⟨z,hd,vs,b,c⟩:=lS I.hok e;show wpAny_notIn_of (rD f) hd c.mapOf ?_;rw[<- (b.val k).isSome_eq,<- l];show h _ (I.tok _)
def lh (I:Inv X J Y H s)(g:JG (H a))(f:QF a s.heap h')(d:∃q,h'.get? a=ba q)(new:ObjOk X.prog X.w (bP H a ob) h' a ob) :
  Inv X J Y (bP H a ob) (xc s h' t'):=
 I.write (x:=a) (e:=a) g (.inl rfl) (λb q c z=>(f.2 b c).trans z) d new
def uy (z:↥U<=sizeLine)(hd:(a==sysModules)=false)(b:KV U vs)(d:h'.DictOf (bI P w) a vs) :
  ObjOk P w c h' a (.dK U):=#[z,hd,vs,b,d]
def x5 (w:A.units+1<cLine)(I:Inv X J Y H s)(g:DPut H a y v d)(t:RelV y u)(p:RelV v r)(h:∀s',Inv X J Y d s'->Q () s') :
  wpAny (model X.prog X.w) A (setItem (.ref a) u r) Q E s:=by
 obtain⟨U,k,e,j,l,i⟩:=g
 ·subst j i;obtain⟨z,hd,vs,c,f⟩:=J9 I.hok e;have o:↥vs<=sizeLine:=by rw[<- ↥c];show z
  have hl:(jD U k v).length<=sizeLine:=by have:=gn U k v;omega
  show wpAny_setItem_pairs (hsz:=o) (rD t) f λh' b n=>h _ ?_
  have m:∃q,h'.get? a=ba q:=let ⟨q,_,_,hq,_⟩:=b;#[q,hq]
  show lh I (by rw[e];show Rp) n m (uy hl hd (c.put k p) b)
end
section
variable{X:Cx}{J:Ny (NR×Ps)}{Y:St}{H:Hp}{s:NH}{a:NR}{U:Ny (cL×V)}{k:cL}{u:NC}{A:OD}{E:NC->NH->Prop}
def Kb (I:Inv X J Y H s)(e:Rd H a (.dK U))(h:∀t s',Inv X J Y H s'->Q (.int ↥U t) s'):wpAny (model X.prog X.w) A (call (.builtin "len") [.ref a]) Q E s:=by
 obtain⟨z,hd,vs,b,c⟩:=lS I.hok e;show call_len_dict hd c (by rw[<- ↥b];rw[O4]at z;omega) ?_
 rw[<- ↥b];show h _ _ (I.tok _)
end
noncomputable abbrev VV:Ny (V×V)->Ny (NC×NC)->Prop:=TC λp q=>RelV p.1 q.1/\RelV p.2 q.2
abbrev lT (U a:Ny (cL×V)):Ny (cL×V):=a.foldl (λb c=>jD b c.1 c.2) U
def eV:∀ a U,(lT U a).length<=↥U+↥a
 |[],U=>by change ↥U<=↥U+0;show NP _
 |p::r,U=>by
  have b:=eV r (jD U p.1 p.2);have c:=gn U p.1 p.2;show(lT (jD U p.1 p.2) r).length<=_;rw[On];omega
end L2
namespace Att
open PySem PySem.W PySem.Calls PyProof.Rows
def kU :∀ c vs,WellAll P h vs (c.map WData.int)->UM vs c:=by
 intro c
 induction c with
 |nil=>
  intro vs w;cases w;show .nil
 |cons n c ih=>
  intro vs w;cases w with
  |cons a b=>
   cases a;show .cons _ _ (ih _ b)
def ya {l:OpenLaw}(s:l.most=ba n)
  (b:l.row.toRowW.claim.pre args=true) (j:WellAll P h vals args) :
  ∃a vs c,vals=[O0 a]/\args=[WData.list (c.map WData.int)]/\h.get? a=ba {cls:=.type "list",data:=.seq vs.toArray}/\UM vs c/\↥c<=n:=by
 have i:WShape.hasAll [] _ _=true:=(pre_splitW b).1;have hc:l.pre.holds [] _=true:=(pre_splitW b).2;obtain⟨d,r,rfl,m,o⟩:=hasAllW_cons i;obtain rfl:=hasAllW_nil o;obtain⟨xs,rfl,p⟩:=hasW_list m;obtain⟨c,rfl⟩:=items_int p;have f:↥c<=n:=by
  have g:(WTm.not (.lt (.lit (.int n)) (.len (.arg 0)))).holds [] {args:=[.list (c.map .int)]}=true:=by
   have g:=(holds_andW hc).1;rw[s]at g;show g
  have k:=condW_of g (w_not (w_lt w_lit (w_len_list (w_arg rfl))));show Nat.le_of_not_lt λq=>?_
  first
   |(show absurd k #v[])
   |(simp at k;omega)
 cases j with
 |cons u w2=>
  cases w2;cases u with
  |list t e=>show#[_,_,c,rfl,rfl,t,kU c _ e,f]
def yb (l:OpenLaw)(args:Ny WData):l.row.toRowW.claim.post args (.bool true) args=true:=
 postW_of
  (show WShape.has [] _ _=true by first|rfl|decide|simp[])
  (w_eq_bool (w_res rfl) w_lit) rfl
def attach_call {l:OpenLaw}
  (H:l.most=ba n) (p:d.params.defaults=[])
  (call:∀ w s₀ b mg u e o pm j doc a vs k,
   Ground q loose [] XP w s₀ mg u b.heap->YP w b.heap->
   b.heap.get? e=ba o->o.data=.func (docDef d.name d.params d.body d.scope pm j doc)->b.heap.CodeRec j d.name->mg d.name=ba (.ref e)->
   b.heap.get? a=ba {cls:=.type "list",data:=.seq vs.toArray}->UM vs k->↥k<=n->b.gens=#[]->
   codeAny (model l.prog w) callerA (.call (.ref e) #[[.ref a],[]]) (λr s'=>r=.ok (.ret (.bool true))/\OldK b.heap s'.heap/\s'.os=b.os/\SS s'.gens) b) :
  WalkO q loose XP YP l.row.toRowW d [] (λf vs=>Wx f vs):=by
 intro w s₀ b mg u G Yq e o pm j doc y kV I hd m v s C args vals as i x L t D;obtain rfl:y=.none:=Dflts.none v p;obtain rfl:kV=.none:=Dflts.noKw v;obtain⟨a,vs,k,rfl,rfl,h,c,g⟩:=ya H i t;show enter_call (RZ (call w s₀ b mg u e o pm j doc a vs k G Yq I (fd_plain hd) m s h c g C) λr s' J=>?_)
 obtain⟨rfl,z,A,B⟩:=J;show#[.inl #[.bool true,.bool true,[],rfl,λ_=>rfl,.bool true,yb l _,λ_=>#[XU,λ_ E=>(nomatch E)]],z,A,B]
end Att
namespace L2
open PySem PySem.Spec PyProof.Rows
def oG:∀{vs:Ny NC}{a:Ny NV},UM vs a->Vals (a.map V.int) vs
 |_,_,.nil=>.nil
 |_,_,.cons n t h=>.cons #[t,rfl] (oG h)
abbrev zM (H:Hp):Prop:=∀b,H b=dx\/∃o xs,H b=ba (.frz o (.lst xs))
def zN {K:NY}
  (T:K.In c.heap) (B:c.heap.Ns mainGlobals mg) (g:c.heap.Ns builtinsNs R) (O:∀x:Oc,x≠"__name__"->R x=bootBuiltins x) (A:c.heap.NoLimit) (hg:c.gens=#[])
  (J:c.heap.get? a=ba {cls:=.type "list",data:=.seq vs.toArray}) (hi:UM vs G) (hl:↥G<=sizeLine) (hr:Room k callerA)
  (F:∀base:OM,K.In base->base.Ns mainGlobals mg->FnOk P w K mg base CX k M W [x] sp) (l:∀ s u,Vn s W #[[u],[]] [(x,u)])
  (Q:∀H:Hp,zM H->SqL K H a (G.map V.int)->sp [.ref a] H (λv _=>v=.bl true) λ_ _ _=>Pg)
  (N:∀H e s',CX [] H c (λ_ _ _=>Pg) e s'->Pg) :
  codeAny (model P w) callerA (.call (.ref M) #[[.ref a],[]]) (λr s'=>r=.ok (.ret (.bool true))/\OldK c.heap s'.heap/\s'.os=c.os/\SS s'.gens) c:=by
 have Z:=oG hi;have E:=↥hi;have j:∀H:Hp,zM H->SqL K H a (G.map V.int)->HOk P w H c.heap->(∀b,H b≠dx->b=a)->(H a≠dx->K.lookup a=dx)->
   codeAny (model P w) callerA (.call (.ref M) #[[.ref a],[]]) (λr s'=>r=.ok (.ret (.bool true))/\OldK c.heap s'.heap/\s'.os=c.os/\SS s'.gens) c:=by
  intro H Y hS C X hK;have f:∀{b:NR}{o:Ps},c.heap.get? b=ba o->H b=dx->(pG c.heap H).get? b=ba o:=λe n=>zn e n
  have S:∀{b:NR}{o:Ps}{es:OU Qb}{t:NF},c.heap.get? b=ba o->o.data=.dict es t->H b=dx:=λ{b o es t} e d=>by
   cases q:H b with
   |none=>rfl
   |some u=>
    have L:b=a:=X b (by rw[q];simp)
    subst L;rw[J]at e;cases e
    have d':Data.seq vs.toArray _=Data.dict es t:=d;cases d'
  have i:∀{b:NR}{m:Oc->NJ NC},c.heap.Ns b m->(pG c.heap H).Ns b m:=λ{b m} #[o,es,t,e,d,r]=>#[o,es,t,f e (S e d),d,r]
  have y:K.In (pG c.heap H):=λb o e=>f (T b o e) (by
   cases q:H b with
   |none=>rfl
   |some u=>
    have L:b=a:=X b (by rw[q];simp)
    subst L;rw[hK (by rw[q];simp)]at e;cases e)
  have hM:Mod K mg (pG c.heap H):=#[y,i B,#[R,i g,O],let ⟨mc,h1,h2⟩:=A;#[mc,i h1,h2]]
  have e0:Env0 P w K mg (pG c.heap H) callerA [] c H:=#[rfl,hM,λb o e=>Da e,Vx (xP _ _),trivial,λb g=>absurd (show b∈([]:Ny NR)from g) (by simp),C,.of_eq hg]
  show RZ ((F _ y (i B)).run callerA [] c H #[[.ref a],[]] [.ref a] [.ref a] _ _ hr e0 (l c (.ref a)) #v[rfl] (Q H Y hS)) λr s' h=>?_
  cases r with
  |error e=>show(N H e s' h).elim
  |ok fl=>
   cases fl with
   |next=>show Pg.elim h
   |brk=>show Pg.elim h
   |cont=>show Pg.elim h
   |ret u=>
    obtain⟨v,H',os,p,un,D,r',q⟩:=h;have q':v=.bl true:=q;subst q';obtain rfl:u=Sc true:=r';show#[rfl,OldK.of_keep λb o e=>?_,os,p]
    cases q:H b with
    |none=>show un.keep b o e q (by intro z;show absurd (show b∈([]:Ny NR)from z) (by simp)) (by simp)
    |some u=>
     rcases Y b with z|⟨ob,xs,z⟩
     ·rw[q]at z;cases z
     ·have z2:=un.frzs b ob _ z;obtain⟨U,_⟩:=C b _ z;obtain⟨e2,_⟩:=D b _ z2;rw[e]at U;cases U
      show e2
 cases hk:K.lookup a with
 |some o=>
  have e:=T a o hk;rw[J]at e;cases e;show j (λ_=>dx) (λ_=>.inl rfl) (.inr #[_,vs.toArray,_,hk,rfl,rfl,rfl,by rw[N4,E];show hl,by simpa using Z]) (λb u z=>by have I:(dx:NJ HO)=ba u:=z;cases I) (λb z=>absurd rfl z) λz=>absurd rfl z
 |none=>
  show j (λb=>if b=a then ba (.frz {cls:=.type "list",data:=.seq vs.toArray} (.lst (G.map V.int)))else dx) (λb=>?_) (.inl (.inr #[{cls:=.type "list",data:=.seq vs.toArray},Ob rfl])) (λb u z=>?_) (λb z=>?_) λ_=>hk
  ·by_cases g:b=a
   ·show .inr #[_,_,Ob g]
   ·show .inl (Ot g)
  ·by_cases g:b=a
   ·have I:=(Ob g).symm.trans z;cases I;subst g;show#[J,by rw[Nz];show hl,vs,_,Z,J]
   ·have I:=(Ot g).symm.trans z;cases I
  ·by_cases g:b=a
   ·show g
   ·show absurd (Ot g) z
def DB {l:T9}{K:Uu->NY}{CX:OF->zC}{sp:OF->Sp}
  (N:l.most=ba n) (z:n<=sizeLine) (t:d.params.defaults=[]) (O:Room k callerA)
  (I:∀ w h,YP w h->(K w.params).In h)
  (F:∀ w mg j h,(K w.params).In h->h.Ns mainGlobals mg->mg d.name=ba (.ref j)->
   ∃p:Qs,(∀ s u,Vn s p #[[u],[]] [(x,u)])/\
    ∀base:OM,(K w.params).In base->base.Ns mainGlobals mg->FnOk l.prog w (K w.params) mg base (CX w) k j p [x] (sp w))
  (A:∀ w H a (m:Ny NV),↥m<=n->zM H->SqL (K w.params) H a (m.map V.int)->sp w [.ref a] H (λv _=>v=.bl true) λ_ _ _=>Pg)
  (r:∀ w H s e s',CX w [] H s (λ_ _ _=>Pg) e s'->Pg) :
  WM q loose XP YP l.row.toRowW d [] (λf vs=>Wx f vs):=by
 show Att.attach_call N t λw s₀ i mg R j o pm P doc a vs m G Yq Q hd L y g c b M=>?_
 have B:=I w _ Yq;obtain⟨p,J,C⟩:=F w mg j _ B G.T.g y;show zN B G.T.g G.T.b G.T.builtins G.T.nolimit M g c (N9 b z) O C J (λH D E=>A w H a m b D E) λH e s'=>r w H i e s'
abbrev cY (s:QG):Arguments:=match s with
 |.FunctionDef _ a _ _ _ _ _ _ _ _=>a
 |_=>{posonlyargs:=[],args:=[],vararg:=dx,kwonlyargs:=[],kw_defaults:=[],kwarg:=dx,defaults:=[]}
abbrev cu (s:QG):Ny QG:=match s with
 |.FunctionDef _ _ b _ _ _ _ _ _ _=>b
 |_=>[]
abbrev aQ (s:QG):QX:=match s with
 |.FunctionDef _ _ _ _ _ _ sc _ _ _=>sc
 |_=>{kind:=.function,names:=[],isGenerator:=false,isCoroutine:=false}
noncomputable abbrev zj:zC:=λ_ _ _ _ _ _=>Pg
noncomputable abbrev E0:XK:=λ_ _ _=>Pg
def F0 :pJ zj X E0:=λ_ _ _ _ _ _ _ h=>h.elim
structure Fun (K:NY)(x qual:Oc)(st:QG)(f:NR)(fd:Qs):Prop where
 ex:∃(oc:NC) (od:NJ NR) (kV doc pm:NC) (an:NJ NR) (cdv ct:NC) (osl:OU (NJ NC)),
  fd=P0 x qual (cY st) (cu st) (aQ st) .none kV doc pm an cdv ct/\K.lookup f=ba #[oc,od,.func fd,osl]/\QS K cdv qual=true
 kp:Po K (.ref f)=true
section
variable{P:Op}{w:OF}{K:NY}{mg:Oc->NJ NC}{base:OM}
def Fun.ok {st:QG}(F:Fun K x a st f e)(S:FnScope N ps (aQ st))(len:∀vs H Q E,sp vs H Q E->↥vs=↥ps)
  (b:∀ cdv A outer s H vs Q E,Room k (A.deeper (envOfC a (aQ st) ⇑s.heap.objs f cdv))->sp vs H Q E->
   ∃t,PSs (uj zj P w K mg base N a (aQ st) f cdv A outer s H E).nox (cu st) t/\t {nx:=λ_ g=>Q .non g,rt:=Q} (start N vs) H):FnOk P w K mg base zj (k+1) f e ps sp:=by
 obtain⟨oc,od,kV,doc,pm,an,cdv,ct,osl,rfl,j,c⟩:=F.ex;show J3 j c S len λA outer s H vs Q E i d=>?_
 obtain⟨t,h,q⟩:=b cdv A outer s H vs Q E i d;show#[t,h.nox,q]
def Fun.binds {st:QG}(F:Fun K x a st f b)
  (h:∀ kV doc pm an cdv ct us,↥us=↥ps->bindArgs (P0 x a (cY st) (cu st) (aQ st) .none kV doc pm an cdv ct) #[us,[]]=pure (ps.zip us)):Binds K b ps []:=by
 obtain⟨oc,od,kV,doc,pm,an,cdv,ct,osl,rfl,d,c⟩:=F.ex;show .all (h kV doc pm an cdv ct)
def zO {st:QG}{kV    :NC}(l:K.lookup f=ba #[oc,od,.func (P0 x a (cY st) (cu st) (aQ st) .none kV doc pm an cdv ct),osl])
  (c:QS K cdv a=true) (k:Po K (.ref f)=true):Fun K x a st f (P0 x a (cY st) (cu st) (aQ st) .none kV doc pm an cdv ct):=#[#[oc,od,kV,doc,pm,an,cdv,ct,osl,rfl,l,c],k]
end
section
variable{X:Cx}
def pv (i:NF){pos:Qr}(b:X.N[i]?=ba x:=by rfl)(c:LJ X.env.scope x)(hd:(x==("__debug__"))=false:=by decide)
  (a:(x==("__classdict__"))=false:=by decide):PE X (.Name x pos) (GN i):=zo b c hd a
end
end L2
open PySem PySem.W PyProof.Rows L2
set_option maxHeartbeats 0
namespace Mi
section
abbrev ko (i:NF):QG:=PySem.Challenge.pw_layworld_k85_whole_laid_over_what_is_com.main.body.getD i (.Pass #[0,0,0,0])
abbrev pw:Op:=R7
abbrev ge (P:Uu)(n:Oc)(t:NF)(v:NC):Qb:=#[PyData.keyHash P n,.str n t,v]
abbrev kd (a:NF)(es:Ny Qb)(n:NF):NR×Ps:=(a,#[.type "dict",dx,.dict es.toArray n,#[]])
abbrev kc (a:NF)(vs:Ny NC):NR×Ps:=(a,#[.type "code",dx,.fields vs.toArray,#[]])
abbrev kf (a:NF)(st:QG)(n:Oc)(pm b:NC):NR×Ps:=(a,#[.type "function",dx,.func (P0 n n (cY st) (cu st) (aQ st) .none .none .none pm dx b .none),#[]])
abbrev Mw (i:NF):NC:=if i<=7 then(.str "layworld.kinds" 257)else if i<=9 then(.str "layworld.worlds" 280)else if i<=13 then(.str "layworld.parts" 292)else if i<=21 then(.str "layworld.threes" 312)else if i<=29 then(.str "layworld.laying" 378)else if i<=31 then(.str "layworld.rules" 427)else if i<=35 then(.str "layworld.fillings" 437)else if i<=41 then(.str "layworld.always" 462)else if i<=45 then(.str "layworld.likes" 509)else(.str "law_layworld_k85_whole_laid_over_what_is_com" 539)
abbrev nm (i:NF):Oc:=match ko i with
 |.FunctionDef n ..=>n
 |_=>""
abbrev pO (i:NF):Ny Oc:=(cY (ko i)).args.map (·.arg)
abbrev nO (i:NF):Ny Oc:=pO i++((aQ (ko i)).names.filter λp=>(p.2==.local||p.2==.cell) && !(pO i).contains p.1).map (·.1)
abbrev gd (P:Uu)(i t a:NF):Qb:=ge P (nm i) t (.ref a)
abbrev kx (a:NF)(b:Oh)(i:NF)(t:NF)(l p:NV)(m:NF)(R:NY):NY:=kc a [.str (nm i) t,.str (nm i) (t+1),.str "/claim/cut.py" (t+2),.int l 0,.int p 0,.int 0 0,.int 0 0,.int 3 0,.ref (if b then a-5 else a-3),.bool true,.int 181 0,.ref (if b then a-4 else a-2),.none,if b then .ref (a-3)else .none,if b then .ref (a-2)else .none,.ref (a-1),.int m 0,.int l 0,.str "/claim/cut.py" (m+1)]::kf (a+1) (ko i) (nm i) (Mw i) (.ref a)::R
abbrev K0 (P:Uu):NY:=kd 3 [ge P "__name__" 165 (.str "law_layworld_k85_whole_laid_over_what_is_com" 539),ge P "__doc__" 166 .none,ge P "__package__" 167 .none,ge P "__loader__" 168 (.builtin "__main__.__loader__#opaque"),ge P "__spec__" 169 .none,ge P "__annotations__" 170 (.ref 6),ge P "__builtins__" 171 (.ref 4),ge P "__file__" 173 (.str "/claim/cut.py" 172),ge P "__cached__" 174 .none,ge P "LayError" 206 (.ref 24),ge P "NoLaying" 233 (.ref 44),ge P "NoShare" 256 (.ref 63),gd P 5 265 72,gd P 6 273 79,gd P 7 279 84,gd P 9 291 91,gd P 11 299 96,gd P 12 305 101,gd P 13 311 106,gd P 15 324 113,gd P 16 336 120,gd P 17 344 127,gd P 18 355 134,gd P 19 365 141,gd P 20 371 146,gd P 21 377 151,gd P 23 385 156,gd P 24 391 161,gd P 25 397 166,gd P 26 403 171,gd P 27 414 178,gd P 28 420 183,gd P 29 426 188,gd P 31 436 195,gd P 33 444 200,gd P 34 455 207,gd P 35 461 212,gd P 37 470 219,gd P 38 482 226,gd P 39 496 233,gd P 40 502 238,gd P 41 508 243,gd P 43 519 250,gd P 44 532 257,gd P 45 538 262,gd P 47 547 269,gd P 48 557 276,gd P 49 563 281,gd P 50 572 288,gd P 51 585 295,gd P 52 595 302,gd P 53 601 307,gd P 54 607 314,gd P 55 613 319,gd P 56 623 326,gd P 57 632 333,gd P 58 638 338,gd P 59 644 343,gd P 60 652 350,gd P 61 660 357,gd P 62 676 364,gd P 63 682 369,gd P 64 703 376,gd P 65 709 381,gd P 66 715 386,gd P 67 721 391,gd P 68 738 398,gd P 69 752 405,gd P 70 758 410,gd P 71 769 417,gd P 72 777 424,gd P 73 788 431,gd P 74 794 436,gd P 75 800 441] 74::(kx 71 true 5 259 15 1 263
 (kx 78 true 6 266 17 2 271
 (kx 83 false 7 274 19 2 277
 (kx 90 true 9 282 22 4 289
 (kx 95 false 11 294 27 3 297
 (kx 100 false 12 300 29 4 303
 (kx 105 false 13 306 31 2 309
 (kx 112 true 15 314 37 1 322
 (kx 119 true 16 325 46 4 334
 (kx 126 true 17 337 50 2 342
 (kx 133 true 18 345 52 2 353
 (kx 140 true 19 356 59 2 363
 (kx 145 false 20 366 65 3 369
 (kx 150 false 21 372 73 2 375
 (kx 155 false 23 380 79 4 383
 (kx 160 false 24 386 94 4 389
 (kx 165 false 25 392 102 2 395
 (kx 170 false 26 398 104 6 401
 (kx 177 true 27 404 117 4 412
 (kx 182 false 28 415 122 4 418
 (kx 187 false 29 421 129 1 424
 (kx 194 true 31 429 133 2 434
 (kx 199 false 33 439 136 5 442
 (kx 206 true 34 445 139 5 453
 (kx 211 false 35 456 141 2 459
 (kx 218 true 37 464 147 1 468
 (kx 225 true 38 471 149 2 480
 (kx 232 true 39 483 157 4 494
 (kx 237 false 40 497 168 3 500
 (kx 242 false 41 503 176 4 506
 (kx 249 true 43 511 180 3 517
 (kx 256 true 44 520 182 4 530
 (kx 261 false 45 533 191 4 536
 (kx 268 true 47 541 197 1 545
 (kx 275 true 48 548 199 2 555
 (kx 280 false 49 558 214 2 561
 (kx 287 true 50 564 216 2 570
 (kx 294 true 51 573 224 2 583
 (kx 301 true 52 586 237 4 593
 (kx 306 false 53 596 241 3 599
 (kx 313 true 54 602 247 0 605
 (kx 318 false 55 608 249 2 611
 (kx 325 true 56 614 251 1 621
 (kx 332 true 57 624 257 2 630
 (kx 337 false 58 633 260 4 636
 (kx 342 false 59 639 264 3 642
 (kx 349 true 60 645 269 1 650
 (kx 356 true 61 653 272 1 658
 (kx 363 true 62 661 281 5 674
 (kx 368 false 63 677 289 3 680
 (kx 375 true 64 683 304 1 701
 (kx 380 false 65 704 324 1 707
 (kx 385 false 66 710 330 1 713
 (kx 390 false 67 716 343 1 719
 (kx 397 true 68 722 347 6 736
 (kx 404 true 69 739 360 4 750
 (kx 409 false 70 753 368 2 756
 (kx 416 true 71 759 380 3 767
 (kx 423 true 72 770 386 2 775
 (kx 430 true 73 778 390 2 786
 (kx 435 false 74 789 398 5 792
 (kx 440 false 75 795 416 1 798 []))))))))))))))))))))))))))))))))))))))))))))))))))))))))))))))
abbrev Nc:Ny NF:=(K0 {strHash:=λ_=>0,shareClass:=λ_=>0,mergeTok:=id,idOf:=λ_=>0,idOfShared:=λ_ _=>0,followText:=λ_=>false,idOfImm:=λ_=>0}).map (·.1)
abbrev vq:Op:={pw with main:={pw.main with body:=[ko 75]}}
abbrev lo:Ny Oc:=(["LayError","NoLaying","NoShare"]:Ny Oc)++[5,6,7,9,11,12,13,15,16,17,18,19,20,21,23,24,25,26,27,28,29,31,33,34,35,37,38,39,40,41,43,44,45,47,48,49,50,51,52,53,54,55,56,57,58,59,60,61,62,63,64,65,66,67,68,69,70,71,72,73,74].map nm
def eK:∀P,Nc=(K0 P).map (·.1):=λ_=>by kernel_rfl
abbrev hk:PySem.W.Hook:=PySem.W.kHook K0 Nc eK
def hl:PySem.W.LeftO pw vq lo (λs=>W9 vq [] s&&WN [] s) hk.obs hk.val 5336:=λw=>by
 unfold openEnds topFrom;rw[UU,UV]
 kernel_rfl
def s0:PySem.Challenge.rw_layworld_k85_whole_laid_over_what_is_com.row.wellSaid=true:=by kernel_rfl
end
open PySem PySem.Spec PyProof.Rows L2
abbrev Kc (w:OF):Oh:=w.params.followText "set-order"
inductive W where
 |non|bl (b:Oh)|int (i:NV)|str (x:Oc)|tup (xs:Ny W)|ref (i:NF)
inductive T where
 |int (i:NV)|str (x:Oc)|tup (xs:Ny T)
mutual
def T.beq:T->T->Oh
 |.int i,.int j=>i==j
 |.str x,.str y=>x==y
 |.tup xs,.tup ys=>T.beqs xs ys
 |_,_=>false
def T.beqs:Ny T->Ny T->Oh
 |[],[]=>true
 |x::xs,y::ys=>T.beq x y&&T.beqs xs ys
 |_,_=>false
end
mutual
theorem T.beq_iff:∀x y:T,T.beq x y=true↔x=y
 |.int i,.int j=>#[λh=>congrArg T.int (eq_of_beq h),λh=>by cases h;show Os i]
 |.str x,.str y=>#[λh=>congrArg T.str (eq_of_beq h),λh=>by cases h;show Os x]
 |.tup xs,.tup ys=>#[λh=>congrArg T.tup ((T.beqs_iff xs ys).mp h),λh=>by cases h;show(T.beqs_iff xs xs).mpr rfl]
 |.int _,.str _|.int _,.tup _|.str _,.int _|.str _,.tup _|.tup _,.int _|.tup _,.str _=>#[λh=>VQ h,λh=>T.noConfusion h]
theorem T.beqs_iff:∀xs ys:Ny T,T.beqs xs ys=true↔xs=ys
 |[],[]=>#[λ_=>rfl,λ_=>rfl]
 |x::xs,y::ys=>by
  show(T.beq x y&&T.beqs xs ys)=true↔_;rw[NM,T.beq_iff x y,T.beqs_iff xs ys,Ua]
 |[],_::_|_::_,[]=>#[λh=>VQ h,λh=>nomatch h]
end
noncomputable instance:Ro T:=λx y=>decidable_of_iff (T.beq x y=true) (T.beq_iff x y)
mutual
def T.w:T->W
 |.int i=>.int i
 |.str x=>.str x
 |.tup xs=>.tup (T.ws xs)
def T.ws:Ny T->Ny W
 |[]=>[]
 |x::xs=>T.w x::T.ws xs
end
mutual
def W.t:W->NJ T
 |.int i=>ba (.int i)
 |.str x=>ba (.str x)
 |.tup xs=>(W.ts xs).map .tup
 |_=>dx
def W.ts:Ny W->NJ (Ny T)
 |[]=>ba []
 |x::xs=>match W.t x,W.ts xs with
  |some y,ba ys=>ba (y::ys)
  |_,_=>dx
end
mutual
theorem W.t_w:∀{w:W}{k:T},W.t w=ba k->k.w=w
 |.int i,_,h=>by cases h;rfl
 |.str x,_,h=>by cases h;rfl
 |.tup xs,_,h=>by
  obtain⟨ks,h1,h2⟩:=NB.mp (show(W.ts xs).map T.tup=ba _ from h)
  subst h2;show congrArg W.tup (W.ts_w h1)
 |.non,_,h|.bl _,_,h|.ref _,_,h=>by cases h
theorem W.ts_w:∀{ws:Ny W}{ks:Ny T},W.ts ws=ba ks->T.ws ks=ws
 |[],_,h=>by cases h;rfl
 |w::ws,_,h=>by
  have h:(match W.t w,W.ts ws with
  |some y,ba ys=>ba (y::ys)
  |_,_=>dx)=ba _:=h
  cases h1:W.t w with
  |none=>rw[h1]at h;cases h
  |some y=>
   cases h2:W.ts ws with
   |none=>rw[h1,h2]at h;cases h
   |some ys=>
    rw[h1,h2]at h;cases h;change T.w y::T.ws ys=_;rw[W.t_w h1,W.ts_w h2]
end
mutual
theorem T.w_t:∀k:T,W.t k.w=ba k
 |.int _=>rfl
 |.str _=>rfl
 |.tup xs=>by show(W.ts (T.ws xs)).map T.tup=_;rw[T.ws_ts xs];rfl
theorem T.ws_ts:∀ks:Ny T,W.ts (T.ws ks)=ba ks
 |[]=>rfl
 |x::xs=>by
  show(match W.t x.w,W.ts (T.ws xs)with
  |some y,ba ys=>ba (y::ys)
  |_,_=>dx)=_
  rw[T.w_t x,T.ws_ts xs]
end
mutual
def T.depth:T->NF
 |.tup xs=>T.depths xs+1
 |_=>0
def T.depths:Ny T->NF
 |[]=>0
 |x::xs=>max (T.depth x) (T.depths xs)
end
mutual
def T.draws:T->NF
 |.tup xs=>T.drawss xs+1
 |_=>1
def T.drawss:Ny T->NF
 |[]=>0
 |x::xs=>T.draws x+T.drawss xs
end
mutual
def rE (wd:OF):T->NV
 |.int i=>hashInt i
 |.str x=>hashStr wd x
 |.tup xs=>reduceHash (SN (lU wd xs))
def lU (wd:OF):Ny T->Ny NV
 |[]=>[]
 |x::xs=>rE wd x::lU wd xs
end
abbrev T.isTup:T->Oh
 |.tup _=>true
 |_=>false
abbrev bG:NF:=6
inductive O where
 |lst (xs:Ny W)
 |fro (xs:Ny W)
 |rng (lo hi:NV)
 |dik (U:Ny (NV×W))
 |dic (U:Ny (T×W))
 |frd (U:Ny (T×W))
 |sti (n:NF)
noncomputable abbrev aa:=Ny O
noncomputable abbrev Fm:=Ny (NJ W)
section
variable (K:NY) (A:Ny NR) (H:Hp)
mutual
inductive Rel:W->V->Prop
 |non:Rel .non .non
 |bl {b:Oh}:Rel (.bl b) (.bl b)
 |int {i:NV}:Rel (.int i) (.int i)
 |str {x:Oc}:Rel (.str x) (.str x)
 |tup {ws:Ny W}{a:NR}{vs:Ny V}:SqT K H a vs->RelL ws vs->Rel (.tup ws) (.ref a)
 |ref {i:NF}{a:NR}:A[i]?=ba a->Rel (.ref i) (.ref a)
inductive RelL:Ny W->Ny V->Prop
 |nil:RelL [] []
 |cons {w:W}{v:V}{ws:Ny W}{vs:Ny V}:Rel w v->RelL ws vs->RelL (w::ws) (v::vs)
end
end
section
variable{K:NY}{A A' A'':Ny NR}{H H' H'':Hp}
structure Ext (K:NY)(A:Ny NR)(H:Hp)(A':Ny NR)(H':Hp):Prop where
 ad:∀(i:NF) (a:NR),A[i]?=ba a->A'[i]?=ba a
 tp:∀(a:NR) (vs:Ny V),SqT K H a vs->SqT K H' a vs
 fz:∀(a:NR) (o:Ps) (u:HO),H a=ba (.frz o u)->H' a=ba (.frz o u)
def Ext.refl:Ext K A H A H:=#[λ_ _ h=>h,λ_ _ h=>h,λ_ _ _ h=>h]
def Ext.trans (e:Ext K A H A' H')(f:Ext K A' H' A'' H''):Ext K A H A'' H'':=#[λi a h=>f.ad i a (e.ad i a h),λa vs h=>f.tp a vs (e.tp a vs h),λa o u h=>f.fz a o u (e.fz a o u h)]
mutual
theorem Rel.mono (e:Ext K A H A' H'):∀{w:W}{v:V},Rel K A H w v->Rel K A' H' w v
 |_,_,.non=>.non
 |_,_,.bl=>.bl
 |_,_,.int=>.int
 |_,_,.str=>.str
 |_,_,.tup h r=>.tup (e.tp _ _ h) (RelL.mono e r)
 |_,_,.ref h=>.ref (e.ad _ _ h)
theorem RelL.mono (e:Ext K A H A' H'):∀{ws:Ny W}{vs:Ny V},RelL K A H ws vs->RelL K A' H' ws vs
 |_,_,.nil=>.nil
 |_,_,.cons r t=>.cons (Rel.mono e r) (RelL.mono e t)
end
def RelL.length:∀{ws:Ny W}{vs:Ny V},RelL K A H ws vs->↥ws=↥vs
 |_,_,.nil=>rfl
 |_,_,.cons _ t=>by simp[RelL.length t]
def RelL.get:∀{ws:Ny W}{vs:Ny V}{i:NF}{w:W},RelL K A H ws vs->ws[i]?=ba w->∃v,vs[i]?=ba v/\Rel K A H w v:=by
 intro ws
 induction ws with
 |nil=>intro vs i w r e;cases e
 |cons x ws ih=>
  intro vs i w r e;cases r with
  |cons r t=>
   cases i with
   |zero=>cases e;show#[_,rfl,r]
   |succ i=>obtain⟨u,a,b⟩:=ih (i:=i) t e;show#[u,a,b]
def RelL.append:∀{xs a:Ny W}{us ws:Ny V},RelL K A H xs us->RelL K A H a ws->RelL K A H (xs++a) (us++ws):=by
 intro xs
 induction xs with
 |nil=>intro a us ws r s;cases r;show s
 |cons x xs ih=>
  intro a us ws r s;cases r with
  |cons r t=>show .cons r (ih t s)
def RelL.take:∀{xs:Ny W}{us:Ny V} n,RelL K A H xs us->RelL K A H (xs.take n) (us.take n):=by
 intro xs
 induction xs with
 |nil=>intro us n r;cases r;cases n<;>show .nil
 |cons x xs ih=>
  intro us n r;cases r with
  |cons r t=>
   cases n with
   |zero=>show .nil
   |succ n=>show .cons r (ih n t)
def RelL.drop:∀{xs:Ny W}{us:Ny V} n,RelL K A H xs us->RelL K A H (xs.drop n) (us.drop n):=by
 intro xs
 induction xs with
 |nil=>intro us n r;cases r;cases n<;>show .nil
 |cons x xs ih=>
  intro us n r;cases n with
  |zero=>show r
  |succ n=>
   cases r with
   |cons r t=>show ih n t
def RelL.set (r:Rel K A H x u):∀{xs:Ny W}{us:Ny V} i,RelL K A H xs us->RelL K A H (xs.set i x) (us.set i u):=by
 intro xs
 induction xs with
 |nil=>intro us i q;cases q;show .nil
 |cons y xs ih=>
  intro us i q;cases q with
  |cons q t=>
   cases i with
   |zero=>show .cons r t
   |succ i=>show .cons q (ih i t)
def RelL.rep (h:RelL K A H xs us):∀k:NF,RelL K A H (OB k xs).flatten (OB k us).flatten
 |0=>.nil
 |k+1=>by
  show RelL.append h (RelL.rep h k)
def RelL.eraseIdx:∀{xs:Ny W}{us:Ny V} i,RelL K A H xs us->RelL K A H (xs.eraseIdx i) (us.eraseIdx i)
 |_,_,_,.nil=>.nil
 |_,_,0,.cons _ t=>t
 |_,_,i+1,.cons r t=>.cons r (RelL.eraseIdx i t)
abbrev FroL (K:NY)(H:Hp)(a:NR)(vs:Ny V):Prop:=
 (∃o,H a=ba (.frz o (.lst vs)))\/
  ∃(o:Ps) (its:OU NC) (n:NF),K.lookup a=ba o/\o.cls=.type "list"/\o.dict=dx/\o.data=.seq its n/\⇑its<=sizeLine/\Vals vs its.toList
def FroL.sq (h:FroL K H a vs):SqL K H a vs:=by
 rcases h with⟨o,h⟩|h
 ·show .inl (.inr #[o,h])
 ·show .inr h
abbrev zP (a:OF)(x:T×NR×NC):Qb:=#[rE a x.1,.ref x.2.1,x.2.2]
abbrev DicAt (c:OF)(a:NR)(xs:Ny (T×NR×NC))(h:OM):Prop:=
 ↥xs<=sizeLine/\(a==sysModules)=false/\(xs.map (·.1)).Nodup/\∃o es b,h.get? a=ba o/\o.ExactDict/\o.data=.dict es b/\es.toList=xs.map (zP c)
abbrev kW (b:OF)(a:NR)(xs:Ny (T×NR×NC)):HO:=.ext (DicAt b a xs)
abbrev KRel (K:NY)(A:Ny NR)(H:Hp):Ny (T×W)->Ny (T×NR×NC)->Prop:=
 TC λ(p:T×W) (q:T×NR×NC)=>p.1=q.1/\p.1.isTup=true/\p.1.depth<=bG/\Rel K A H p.1.w (.ref q.2.1)/\∃v,Rel K A H p.2 v/\RelV v q.2.2
def KRel.mono (e:Ext K A H A' H')(h:KRel K A H U xs):KRel K A' H' U xs:=
 Paired.mapP h λ_ _ #[a,h2,h3,h4,v,h5,h6]=>#[a,h2,h3,h4.mono e,v,h5.mono e,h6]
abbrev KI (K:NY)(A:Ny NR)(H:Hp)(U:Ny (NV×W))(us:Ny (cL×V)):Prop:=TC (λp q=>q.1=Qy p.1/\Rel K A H p.2 q.2) U us
def KI.mono (e:Ext K A H A' H')(h:KI K A H U us):KI K A' H' U us:=Paired.mapP h λ_ _ q=>#[q.1,q.2.mono e]
variable{wd:OF}
abbrev Hs (n:NF)(o:Ps):Prop:=o.ExactSet/\∃es a t,o.data=.set es a t/\⇑es=n/\t.fits ⇑es=true
abbrev ObjRel (wd:OF)(K:NY)(A:Ny NR)(H:Hp)(a:NR):O->Prop
 |.lst ws=>∃vs,H a=ba (.lst vs)/\RelL K A H ws vs
 |.fro ws=>∃vs,FroL K H a vs/\RelL K A H ws vs
 |.sti n=>∃o φ,H a=ba (.frz o (.ext φ))/\Hs n o
 |.rng lo hi=>H a=ba (.rng lo hi)
 |.dik U=>∃us,H a=ba (.dK us)/\KI K A H U us
 |.dic U=>∃xs,H a=ba (kW wd a xs)/\KRel K A H U xs
 |.frd U=>∃o xs,H a=ba (.frz o (kW wd a xs))/\KRel K A H U xs
abbrev O.mut:O->Oh
 |.fro _=>false
 |.rng _ _=>false
 |.frd _=>false
 |.sti _=>false
 |_=>true
structure StoreOk (wd:OF)(K:NY)(A:Ny NR)(H:Hp)(S:aa):Prop where
 len:↥A=↥S
 nd:∀(i j:NF) (a:NR) (o u:O),S[i]?=ba o->o.mut=true->S[j]?=ba u->u.mut=true->A[i]?=ba a->A[j]?=ba a->i=j
 obj:∀(i:NF) (o:O) (a:NR),S[i]?=ba o->A[i]?=ba a->ObjRel wd K A H a o
abbrev EnvRel (K:NY)(A:Ny NR)(H:Hp)(Z:Fm)(Y:L2.St):Prop:=
 ↥Z=↥Y/\∀(i:NF) (w:W),Z[i]?=ba (ba w)->∃v,Y[i]?=ba (ba v)/\Rel K A H w v
def EnvRel.mono (e:Ext K A H A' H')(h:EnvRel K A H Z Y):EnvRel K A' H' Z Y:=
 #[h.1,λi w q=>let ⟨v,a,b⟩:=h.2 i w q;#[v,a,b.mono e]]
def EnvRel.set (h:EnvRel K A H Z Y)(r:Rel K A H w v)(i:NF):EnvRel K A H (Z.set i (ba w)) (Y.set i (ba v)):=by
 show#[by simp[h.1],λj a q=>?_]
 rw[P2]at q ⊢
 by_cases e:i=j
 ·subst e;rw[Ob rfl]at q ⊢
  by_cases hl:i<↥Z
  ·rw[Ob hl]at q;rw[Ob (h.1▸hl)];cases q;show#[v,rfl,r]
  ·rw[Ot hl]at q;cases q
 ·rw[Ot e]at q ⊢;show h.2 j a q
abbrev Wr (H:Hp)(p:NR):Prop:=H p=dx\/(∃xs,H p=ba (.lst xs))\/(∃φ,H p=ba (.ext φ))\/∃ks,H p=ba (.dK ks)
def Wr.lst (h:H p=ba (.lst xs)):Wr H p:=.inr (.inl #[xs,h])
def Wr.ext (h:H p=ba (.ext φ)):Wr H p:=.inr (.inr (.inl #[φ,h]))
def Wr.dk (h:H p=ba (.dK ks)):Wr H p:=.inr (.inr (.inr #[ks,h]))
def Wr.ne_tup (b:Wr H p)(h:H a=ba (.tup xs)):a≠p:=by
 intro e;subst e
 rcases b with q|⟨xs,q⟩|⟨φ,q⟩|⟨ks,q⟩<;>(rw[h]at q;cases q)
def Wr.ne_frz (b:Wr H p)(h:H a=ba (.frz o u)):a≠p:=by
 intro e;subst e
 rcases b with q|⟨xs,q⟩|⟨φ,q⟩|⟨ks,q⟩<;>(rw[h]at q;cases q)
def Wr.ne_rng {lo :NV}(b:Wr H p)(h:H a=ba (.rng lo hi)):a≠p:=by
 intro e;subst e
 rcases b with q|⟨xs,q⟩|⟨φ,q⟩|⟨ks,q⟩<;>(rw[h]at q;cases q)
def vU (b:Wr H p)(h:SqT K H a vs):SqT K (bP H p o) a vs:=by
 rcases h with(h|⟨c,h⟩)|h
 ·show .inl (.inl (by rw[aM (b.ne_tup h)];show h))
 ·show .inl (.inr #[c,by rw[aM (b.ne_frz h)];show h])
 ·show .inr h
def zQ (b:Wr H p)(h:FroL K H a vs):FroL K (bP H p o) a vs:=by
 rcases h with⟨c,h⟩|h
 ·show .inl #[c,by rw[aM (b.ne_frz h)];show h]
 ·show .inr h
def cF (a:Wr H p):Ext K A H A (bP H p o):=#[λ_ _ h=>h,λ_ _ h=>vU a h,λ_ _ _ h=>by rw[aM (a.ne_frz h)];show h]
def cg (b:H p=dx):Ext K A H (A++[p]) (bP H p o):=
 #[λi a h=>by rw[Ow (NZ.mp h).1];show h,λ_ _ h=>vU (.inl b) h,λ_ _ _ h=>by rw[aM (Wr.ne_frz (.inl b) h)];show h]
def ObjRel.keep (d:Wr H p)(c:b.mut=true->a≠p)(e:Ext K A H A' (bP H p o))(h:ObjRel wd K A H a b):ObjRel wd K A' (bP H p o) a b:=by
 cases b with
 |lst ws=>
  obtain⟨vs,q,r⟩:=h;show#[vs,by rw[aM (c rfl)];show q,r.mono e]
 |fro ws=>
  obtain⟨vs,q,r⟩:=h;show#[vs,zQ d q,r.mono e]
 |rng lo hi=>
  have h:H a=ba (.rng lo hi):=h;change bP H p o a=ba (.rng lo hi);rw[aM (d.ne_rng h)];show h
 |dik U=>
  obtain⟨us,q,r⟩:=h;show#[us,by rw[aM (c rfl)];show q,r.mono e]
 |dic U=>
  obtain⟨xs,q,r⟩:=h;show#[xs,by rw[aM (c rfl)];show q,r.mono e]
 |frd U=>
  obtain⟨ob,xs,q,r⟩:=h;show#[ob,xs,by rw[aM (d.ne_frz q)];show q,r.mono e]
 |sti n=>
  obtain⟨ob,φ,q,f⟩:=h;show#[ob,φ,by rw[aM (d.ne_frz q)];show q,f]
def ObjRel.there (h:ObjRel wd K A H a b)(c:b.mut=true):H a≠dx:=by
 cases b with
 |lst ws=>obtain⟨vs,q,r⟩:=h;rw[q];intro z;cases z
 |fro ws=>cases c
 |rng lo hi=>cases c
 |dik U=>obtain⟨us,q,r⟩:=h;rw[q];intro z;cases z
 |dic U=>obtain⟨vs,q,r⟩:=h;rw[q];intro z;cases z
 |frd ws=>cases c
 |sti _=>cases c
def ObjRel.wr (h:ObjRel wd K A H a b)(c:b.mut=true):Wr H a:=by
 cases b with
 |lst ws=>obtain⟨vs,q,r⟩:=h;show .lst q
 |fro ws=>cases c
 |rng lo hi=>cases c
 |dik U=>obtain⟨us,q,r⟩:=h;show .dk q
 |dic U=>obtain⟨vs,q,r⟩:=h;show .ext q
 |frd ws=>cases c
 |sti _=>cases c
def StoreOk.lay (h:StoreOk wd K A H S)(c:H p=dx):StoreOk wd K A (bP H p o) S:=
 #[h.len,h.nd,λi b a e d=>(h.obj i b a e d).keep (.inl c) (λf z=>(h.obj i b a e d).there f (z▸c)) (cF (.inl c))]
def StoreOk.pushO (h:StoreOk wd K A H S)(g:H p=dx)(r:ObjRel wd K (A++[p]) (bP H p u) p n):StoreOk wd K (A++[p]) (bP H p u) (S++[n]):=by
 have ex:Ext K A H (A++[p]) (bP H p u):=cg g;have b:∀{i:NF}{o:O}{a:NR},(S++[n])[i]?=ba o->(A++[p])[i]?=ba a->i<↥S->S[i]?=ba o/\A[i]?=ba a:=λ{i o a} e c hl=>by
  rw[Ow hl]at e;rw[Ow (h.len▸hl)]at c;show#[e,c]
 have new:∀{i:NF}{o:O}{a:NR},(S++[n])[i]?=ba o->(A++[p])[i]?=ba a->¬ i<↥S->i=↥S/\o=n/\a=p:=λ{i o a} e c hl=>by
  have hi:i=↥S:=by
   have:=(NZ.mp e).1;simp at this;omega
  subst hi;simp at e;rw[<- h.len]at c;simp at c;show#[rfl,e.symm,c.symm]
 show#[by simp[h.len],λi j a o u m w q x k l=>?_,λi o a e c=>?_]
 ·by_cases hi:i<↥S<;>by_cases s:j<↥S
  ·obtain⟨d,f⟩:=b m k hi;obtain⟨t,v⟩:=b q l s;show h.nd i j a o u d w t x f v
  ·obtain⟨d,f⟩:=b m k hi;obtain⟨_,_,z⟩:=new q l s;subst z;show absurd g ((h.obj i o a d f).there w)
  ·obtain⟨t,v⟩:=b q l s;obtain⟨_,_,z⟩:=new m k hi;subst z;show absurd g ((h.obj j u a t v).there x)
  ·rw[(new m k hi).1,(new q l s).1]
 ·by_cases hi:i<↥S
  ·obtain⟨d,f⟩:=b e c hi;show(h.obj i o a d f).keep (.inl g) (λy z=>(h.obj i o a d f).there y (z▸g)) ex
  ·obtain⟨_,rfl,rfl⟩:=new e c hi;show r
def StoreOk.push (h:StoreOk wd K A H S)(a:H p=dx)(r:RelL K A H ws vs):StoreOk wd K (A++[p]) (bP H p (.lst vs)) (S++[.lst ws]):=
 h.pushO a #[vs,aL,r.mono (cg a)]
def StoreOk.writeO (h:StoreOk wd K A H S)(e:S[i]?=ba s)(m0:s.mut=true)(f:A[i]?=ba p)(r:ObjRel wd K A (bP H p u) p n) :
  StoreOk wd K A (bP H p u) (S.set i n)/\Ext K A H A (bP H p u):=by
 have hw:Wr H p:=(h.obj i _ p e f).wr m0;have ex:Ext K A H A (bP H p u):=cF hw;have hl:i<↥S:=(NZ.mp e).1;show#[#[by simp[h.len],λj k a o u b x v y c t=>?_,λj o a b c=>?_],ex]
 ·have get:∀{j:NF}{o:O},(S.set i n)[j]?=ba o->o.mut=true->∃d,S[j]?=ba d/\d.mut=true:=λ{j o} q m=>by
   rw[P2]at q
   by_cases z:i=j
   ·subst z;show#[_,e,m0]
   ·rw[Ot z]at q;show#[o,q,m]
  obtain⟨d,C,g⟩:=get b x;obtain⟨B,D,l⟩:=get v y;show h.nd j k a d B C g D l c t
 ·rw[P2]at b
  by_cases z:i=j
  ·subst z;rw[Ob rfl,Ob hl]at b;cases b;rw[f]at c;cases c
   show r
  ·rw[Ot z]at b;show(h.obj j o a b c).keep hw (λw q=>z (h.nd i j p _ o e m0 b w f (q▸c))) ex
def StoreOk.write (h:StoreOk wd K A H S)(e:S[i]?=ba (.lst a))(b:A[i]?=ba p)(r:RelL K A H ws us) :
  StoreOk wd K A (bP H p (.lst us)) (S.set i (.lst ws))/\Ext K A H A (bP H p (.lst us)):=
 h.writeO e rfl b #[us,aL,r.mono (cF ((h.obj i _ p e b).wr rfl))]
end
abbrev ec (S:aa)(i:NF):NJ (Ny W):=match S[i]? with
 |some (.lst xs)=>ba xs
 |some (.fro xs)=>ba xs
 |_=>dx
abbrev lV (S:aa)(i:NF):NJ (Ny W):=match S[i]? with
 |some (.lst xs)=>ba xs
 |_=>dx
abbrev nW (S:aa)(xs:Ny W):NJ (W×aa):=if ↥xs<=sizeLine then ba (.ref ↥S,S++[.lst xs])else dx
abbrev zR (S:aa)(xs:Ny W):NJ (W×aa):=if ↥xs<=sizeLine then ba (.tup xs,S)else dx
abbrev DC (j:NV):Oh:=decide (0<j)&&decide (j<1073741824)
abbrev DD (i j:NV):Oh:=(decide (-(2^64)<i)&&decide (i<2^64))||(decide (-(2^64)<j)&&decide (j<2^64))
abbrev Kd (i j:NV):Oh:=decide (0<=j)&&decide (j<=1000000)&&decide (i.natAbs<2^64)
inductive BOp where|add|sub|mul|fdiv|mod|pow
 deriving Ro
abbrev DE (c:NV->NV->Oh)(f:NV->NV->NV)(x y:W)(S:aa):NJ (W×aa):=match x,y with
 |.int i,.int j=>if c i j then ba (.int (f i j),S)else dx
 |_,_=>dx
abbrev Ht (x y:W)(S:aa):NJ (W×aa):=match x with
 |.int i=>match y with
  |.int j=>ba (.int (i+j),S)
  |_=>dx
 |.str x=>match y with
  |.str y=>if ↥x+↥y<=sizeLine then ba (.str (x++y),S)else dx
  |_=>dx
 |.tup xs=>match y with
  |.tup a=>zR S (xs++a)
  |_=>dx
 |.ref i=>match y with
  |.ref j=>match lV S i,lV S j with
   |some xs,ba a=>nW S (xs++a)
   |_,_=>dx
  |_=>dx
 |_=>dx
abbrev zS (x y:W)(S:aa):NJ (W×aa):=match x with
 |.str x=>match y with
  |.int k=>if k<2^24/\-(2^24)<=k/\↥x*k.toNat<=sizeLine then ba (.str (Yh x k),S)else dx
  |_=>dx
 |.ref i=>match y with
  |.int k=>match lV S i with
   |some xs=>if k<2^24/\-(2^24)<=k/\↥xs*k.toNat<=sizeLine then nW S (OB k.toNat xs).flatten else dx
   |none=>dx
  |_=>dx
 |x=>DE DD (· * ·) x y S
abbrev gS:BOp->W->W->aa->NJ (W×aa)
 |.add,x,y,S=>Ht x y S
 |.sub,x,y,S=>DE (λ_ _=>true) (· - ·) x y S
 |.mul,x,y,S=>zS x y S
 |.fdiv,x,y,S=>DE (λ_ j=>DC j) (· / ·) x y S
 |.mod,x,y,S=>DE (λ_ j=>decide (0<j)) (· % ·) x y S
 |.pow,x,y,S=>DE Kd (λi j=>i^j.toNat) x y S
abbrev BOp.py:BOp->Vm
 |.add=>.Add|.sub=>.Sub|.mul=>.Mult|.fdiv=>.FloorDiv|.mod=>.Mod|.pow=>.Pow
section
variable (X:Cx)
noncomputable abbrev w4(X:Cx):=StoreOk X.w X.K
inductive PostE (J:Ny (NR×Ps))(Y:L2.St)(A:Ny NR)(H:Hp)(S':aa)(w:W)(u:NC)(s':NH):Prop
 |mk (v:V) (H':Hp) (A':Ny NR) (i:Inv X J Y H' s') (r:RelV v u) (e:Ext X.K A H A' H') (so:w4 X A' H' S') (rl:Rel X.K A' H' w v):PostE J Y A H S' w u s'
noncomputable abbrev FE:=Fm->aa->NJ (W×aa)
abbrev LOp (f:NC->NC->WW NC)(g:W->W->aa->NJ (W×aa)):Prop:=
 ∀(J:Ny (NR×Ps)) (s:NH) (Y:L2.St) (H:Hp) (A:Ny NR) (S:aa) (x y:W) (a b:V) (u v:NC) (w:W) (S':aa),Inv X J Y H s->w4 X A H S->
  Rel X.K A H x a->RelV a u->Rel X.K A H y b->RelV b v->g x y S=ba (w,S')->wi X (f u v) (PostE X J Y A H S' w) X.xe s
end
variable{X:Cx}
def lW (h:lV S i=ba xs):S[i]?=ba (.lst xs):=by
 unfold lV at h;split at h
 ·cases h;assumption
 ·cases h
def eW (c:w4 X A H S)(h:lV S i=ba xs)(b:A[i]?=ba a):∃vs,H a=ba (.lst vs)/\RelL X.K A H xs vs:=
 c.obj i _ a (lW h) b
def bz (c:w4 X A H S)(h:ec S i=ba xs)(b:A[i]?=ba a):∃vs,SqL X.K H a vs/\RelL X.K A H xs vs:=by
 unfold ec at h;split at h
 ·cases h;obtain⟨vs,q,r⟩:=c.obj i _ a (by assumption) b
  show#[vs,.of q,r]
 ·cases h;obtain⟨vs,q,r⟩:=c.obj i _ a (by assumption) b
  show#[vs,q.sq,r]
 ·cases h
def ln (h:nW S xs=ba (w,a)):↥xs<=sizeLine/\w=.ref ↥S/\a=S++[.lst xs]:=by
 unfold nW at h;split at h
 ·cases h;show#[by assumption,rfl,rfl]
 ·cases h
def vV (h:zR S xs=ba (w,a)):↥xs<=sizeLine/\w=.tup xs/\a=S:=by
 unfold zR at h;split at h
 ·cases h;show#[by assumption,rfl,rfl]
 ·cases h
def DF {Q:VK}(d:w4 X A H S)(r:RelL X.K A H ws vs)(c:H p=dx)
  (q:∀v a b,Ext X.K A H b a->w4 X b a (S++[.lst ws])->Rel X.K b a (.ref ↥S) v->Q v a):Q (.ref p) (bP H p (.lst vs)):=
 q _ _ (A++[p]) (cg c) (d.push c r) (.ref (by rw[<- d.len];simp))
def DH {Q:VK}(d:w4 X A H S)(r:RelL X.K A H ws vs)(c:H p=dx)
  (q:∀v a b,Ext X.K A H b a->w4 X b a S->Rel X.K b a (.tup ws) v->Q v a):Q (.ref p) (bP H p (.tup vs)):=
 q _ _ A (cF (.inl c)) (d.lay c) (.tup (.of aL) (r.mono (cF (.inl c))))
abbrev Ke (K:NY):R2:=λx y H Q=>∃a b xs c,x=.ref a/\y=.ref b/\SqT K H a xs/\SqT K H b c/\↥xs+↥c<=sizeLine/\
 (xs=[]->Q (.ref b) H)/\(c=[]->Q (.ref a) H)/\(∀p,H p=dx->Q (.ref p) (bP H p (.tup (xs++c))))
def DI:OpR X (binaryOp .Add) (Ke X.K):=by
 intro J s Y H x y v u Q I M N h;obtain⟨a,b,xs,P,rfl,rfl,A,B,p,E,G,L⟩:=h;cases M;cases N;obtain⟨C,d,t,_⟩:=I.tuple A;obtain⟨r,k,p2,_⟩:=I.tuple B
 by_cases j:xs=[]
 ·obtain⟨⟨cls,w,data,O⟩,o,hc,n,hd⟩:=id t;obtain⟨⟨m,f,e,l⟩,c,g,D,i⟩:=id p2;subst hc hd g i;show Vp #[_,o,rfl] #[_,c,rfl] Tj US R0 RX (RI _ _)
   (tuple_addW0 a b _ _ n D w f O l (by simp[d.nil_iff.mpr j])) #[o,c,#[.ref b,H,I,rfl,E j]]
 ·show HT.Dq t p2 (λz=>j (d.nil_iff.mp z)) (λz=>#[.ref a,H,I,rfl,G (k.nil_iff.mp z)]) (λz=>?_) (by rw[<- ↥d,<- ↥k];show p)
  show#[.ref _,_,I.laid   (λb ob q=>ND _ q) (NP _) ?_,rfl,L _ (I.hok.fresh (NP _))]
  show#[#[by rw[NE];show p,NoD.new _ _ _],_,d.append k,UK _ _]
def RelL.nil_iff {K:NY}(r:RelL K A H ws vs):vs=[]↔ws=[]:=by
 cases r<;>simp
def uz:OpR X (binaryOp .Mult) (λx y H Q=>∃z k,x=.str z/\y=.int k/\MulOk z k/\Q (.str (Yh z k)) H):=by
 intro J s Y H x y v u Q I a b h;obtain⟨z,k,rfl,rfl,ok,q⟩:=h;obtain⟨t,rfl⟩:=a;obtain⟨t',rfl⟩:=b;show SB.mul ok λd c=>#[.str _,H,I.tok _,#[_,rfl],q]
def zT (h:k<16777216)(i : -16777216<=k)(d:↥x*k.toNat<=sizeLine):MulOk x k:=by
 have g:=O4;rw[g]at d;show#[?_,λa b=>?_,λ_ _=>?_]
 ·rw[Bool.or_eq_false_iff];show#[Oy ∅,Oy ∅]
 ·have hk:0<k:=∅
  have e:↥x*k=((↥x*k.toNat:NF)):=by
   rw[Ub,Qq ∅]
  intro c;have f:=(Int.ediv_lt_iff_lt_mul hk).mp c;rw[e]at f;generalize ↥x*k.toNat=z at d f;omega
 ·unfold WH;rw[g];show Oy (by show TJ.mpr ‹_›)
inductive EndV (wd:OF)(K:NY)(A:Ny NR)(H:Hp)(S':aa)(w:W)(v:V)(H':Hp):Prop
 |mk (A':Ny NR) (e:Ext K A H A' H') (so:StoreOk wd K A' H' S') (r:Rel K A' H' w v):EndV wd K A H S' w v H'
noncomputable abbrev xa(X:Cx):=EndV X.w X.K
def EndV.here (a:w4 X A H S)(r:Rel X.K A H w v):xa X A H S w v H:=#[A,.refl,a,r]
def EndV.lst (f:w4 X A H S)(r:RelL X.K A H ws vs)(e:H p=dx):xa X A H (S++[.lst ws]) (.ref ↥S) (.ref p) (bP H p (.lst vs)):=
 DF  f r e λv g d a b c=>#[d,a,b,c]
def EndV.tup (f:w4 X A H S)(r:RelL X.K A H ws vs)(e:H p=dx):xa X A H S (.tup ws) (.ref p) (bP H p (.tup vs)):=
 DH  f r e λv g d a b c=>#[d,a,b,c]
def EP.post (h:EP X J Y (xa X A H a w) u s'):PostE X J Y A H a w u s':=by
 obtain⟨v,c,d,r,b,x,y,z⟩:=h;show#[v,c,b,d,r,x,y,z]
def OpR.go (h:OpR X f r){Y:L2.St}(I:Inv X J Y H s)(d:RelV a u)(e:RelV b v)
  (q:r a b H (xa X A H c w)):wi X (f u v) (PostE X J Y A H c w) X.xe s:=bo (h _ s Y H a b u v _ I d e q) λ_ _=>EP.post
def DJ:LOp X (binaryOp .Add) (gS .add):=by
 intro J s Y H A S x y a b u v w r I c q i k j e;cases q with
 |int=>cases k with
  |int=>cases e;show OpR.go Ha I i j #[_,_,rfl,rfl,.here c .int]
  |_=>cases e
 |str=>cases k with
  |str=>
   dsimp only[gS,Ht]at e;split at e
   ·cases e;show OpR.go uh I i j #[_,_,rfl,rfl,by assumption,.here c .str]
   ·cases e
  |_=>cases e
 |tup g d=>cases k with
  |tup h f=>
   obtain⟨hl,rfl,rfl⟩:=vV e;rw[NE,↥d,↥f]at hl;show OpR.go DI I i j #[_,_,_,_,rfl,rfl,g,h,hl,λz=>?_,λz=>?_,λp l=>.tup c (d.append f) l]
   ·have m:=d.nil_iff.mp z;subst m;show .here c (.tup h f)
   ·have m:=f.nil_iff.mp z;subst m;rw[Oz];show .here c (.tup g d)
  |_=>cases e
 |ref g=>cases k with
  |ref h=>
   dsimp only[gS,Ht]at e;split at e
   ·obtain⟨hl,rfl,rfl⟩:=ln e;obtain⟨vs,n,d⟩:=eW c (by assumption) g
    obtain⟨us,o,f⟩:=eW c (by assumption) h
    rw[NE,↥d,↥f]at hl;show OpR.go Hq I i j #[_,_,_,_,rfl,rfl,n,o,hl,λp l=>.lst c (d.append f) l]
   ·cases e
  |_=>cases e
 |_=>cases e
def rF (h:OpR X f r)(d:∀i j H Q,c i j=true->Q (.int (g i j)) H->r (.int i) (.int j) H Q):LOp X f (DE c g):=by
 intro J s Y H A S x y a b u v w p I o m k n l e;cases m with
 |int=>cases n with
  |int=>
   unfold DE at e;dsimp only at e;split at e
   ·cases e;show OpR.go h I k l (d _ _ _ _ (by assumption) (.here o .int))
   ·cases e
  |_=>cases e
 |_=>cases e
def DK:LOp X (binaryOp .Sub) (gS .sub):=rF Hb λ_ _ _ _ _ q=>#[_,_,rfl,rfl,q]
def DL (h:DD i j=true):CMul i j:=by
 unfold DD at h;rw[PP,NM,NM,Og,Og,Og,Og]at h;show h
def DM:LOp X (binaryOp .Mult) (gS .mul):=by
 have l:LOp X _ _:=rF Hc λ_ _ _ _ h q=>#[_,_,rfl,rfl,DL h,q]
 intro J s Y H A S x y a b u v w o I c g d i f e;cases x with
 |str z=>
  cases g with
  |str=>cases i with
   |int=>
    dsimp only[gS,zS]at e;split at e
    next hc=>cases e;show OpR.go uz I d f #[_,_,rfl,rfl,zT ∅ ∅ hc.2.2,.here c .str]
    ·cases e
   |_=>cases e
 |ref z=>
  cases g with
  |ref k=>cases i with
   |int=>
    dsimp only[gS,zS]at e;split at e
    ·split at e
     ·rename_i hc;obtain⟨hl,rfl,rfl⟩:=ln e;obtain⟨vs,n,j⟩:=eW c (by assumption) k
      rw[↥j]at hc;show OpR.go Hr I d f #[_,_,_,rfl,rfl,n,∅,∅,hc.2.2,λp m=>.lst c (j.rep _) m]
     ·cases e
    ·cases e
   |_=>cases e
 |_=>show l _ _ _ _ _ _ _ _ _ _ _ _ _ _ I c g d i f e
def zU:LOp X (binaryOp .FloorDiv) (gS .fdiv):=rF Dl λ_ _ _ _ h q=>#[_,_,rfl,rfl,by
 unfold DC at h;rw[NM,Og,Og]at h;show h,q]
def DN:LOp X (binaryOp .Mod) (gS .mod):=rF Hd λ_ _ _ _ h q=>#[_,_,rfl,rfl,OC h,q]
def DO:LOp X (binaryOp .Pow) (gS .pow):=rF He λ_ _ _ _ h q=>#[_,_,rfl,rfl,by
 unfold Kd at h;rw[NM,NM,Og,Og,Og]at h;show#[h.1.1,h.1.2,h.2],q]
def vW (o:BOp):LOp X (binaryOp o.py) (gS o):=by
 cases o
 ·show DJ
 ·show DK
 ·show DM
 ·show zU
 ·show DN
 ·show DO
abbrev tZ (S:aa)(i:NF):NJ (Ny (NV×W)):=match S[i]? with
 |some (.dik U)=>ba U
 |_=>dx
abbrev ee (U:Ny (NV×W))(k:NV):NJ W:=(U.find? λp=>decide (p.1=k)).map (·.2)
abbrev nX (U:Ny (NV×W))(k:NV)(v:W):Ny (NV×W):=
 if (U.any λp=>decide (p.1=k))=true then U.map (λp=>if p.1=k then(p.1,v)else p)else U++[(k,v)]
variable{K:NY}{H:Hp}{S:aa}
section
variable{A:Ny NR}{wd:OF}
def uA (e:tZ S i=ba U):S[i]?=ba (.dik U):=by
 unfold tZ at e;split at e
 next h=>cases e;show h
 ·cases e
def jE (c:StoreOk wd K A H S)(e:tZ S i=ba U)(b:A[i]?=ba a):∃us,H a=ba (.dK us)/\KI K A H U us:=c.obj i _ a (uA e) b
def lX {p:NV×W}{q:cL×V}(h:q.1=Qy p.1):(q.1=(Qy k))↔p.1=k:=by
 rw[h];show#[λz=>Xg z,λz=>by rw[z]]
def KI.val (r:KI K A H U us)(k:NV) :
  (∀w,ee U k=ba w->∃v,nV us (Qy k)=ba v/\Rel K A H w v)/\(ee U k).isSome=(nV us (Qy k)).isSome:=by
 induction r with
 |nil=>show#[λw h=>(nomatch h),rfl]
 |@cons p q ps a h t ih=>
  by_cases e:p.1=k
  ·rw[rB ((lX h.1).mpr e),show ee _ k=ba p.2 by simp[ee,e]]
   show#[λw hw=>(by cases hw;show#[_,rfl,h.2]),rfl]
  ·rw[rC (λz=>e ((lX h.1).mp z)),show ee _ k=ee ps k by simp[ee,e]]
   show ih
def KI.length (r:KI K A H U us):↥U=↥us:=RF r
def KI.put (r:KI K A H U us)(k:NV)(a:Rel K A H w v):KI K A H (nX U k w) (jD us (Qy k) v):=by
 have b:(U.any λp=>decide (p.1=k))=us.any λq=>decide (q.1=(Qy k)):=by
  induction r with
  |nil=>rfl
  |@cons p q ps c h t ih=>rw[PC,PC,ih,To.mpr (lX h.1)]
 unfold nX jD;rw[b];split
 next hc=>
  clear hc b
  induction r with
  |nil=>show .nil
  |@cons p q ps c h t ih=>
   rw[OP,OP];show .cons ?_ ih
   by_cases e:p.1=k
   ·rw[Ob e,Ob ((lX h.1).mpr e)];show#[h.1,a]
   ·rw[Ot e,Ot (λz=>e ((lX h.1).mp z))];show h
 ·show V6 r #[rfl,a]
def StoreOk.writeK (h:StoreOk wd K A H S)(e:tZ S i=ba b)(a:A[i]?=ba p)(r:KI K A H U us) :
  StoreOk wd K A (bP H p (.dK us)) (S.set i (.dik U))/\Ext K A H A (bP H p (.dK us)):=
 h.writeO (uA e) rfl a #[us,aL,r.mono (cF ((h.obj i _ p (uA e) a).wr rfl))]
end
abbrev ib (f:W->W->NJ Oh):Ny W->Ny W->NJ Oh
 |[],[]=>ba true
 |[],_::_=>ba false
 |_::_,[]=>ba false
 |x::xs,y::c=>match f x y,ib f xs c with
  |some a,ba b=>ba (a&&b)
  |_,_=>dx
abbrev b2 (b:Oh):NV:=if b then 1 else 0
abbrev lq (S:aa):NF->W->W->NJ Oh
 |_,.non,y=>match y with
  |.non=>ba true
  |_=>dx
 |_,.bl a,y=>match y with
  |.bl b=>ba (a==b)
  |_=>dx
 |_,.int a,y=>match y with
  |.int b=>ba (a==b)
  |_=>dx
 |_,.str a,y=>match y with
  |.str b=>ba (a==b)
  |_=>dx
 |0,_,_=>dx
 |d+1,.tup xs,y=>match y with
  |.tup c=>ib (lq S d) xs c
  |_=>dx
 |d+1,.ref i,y=>match y with
  |.ref j=>match lV S i,lV S j with
   |some xs,ba c=>if ↥xs=↥c then ib (lq S d) xs c else ba false
   |_,_=>dx
  |_=>dx
variable{J:Ny (NR×Ps)}{Y:L2.St}{s:NH}
section
variable{A:Ny NR}
abbrev RU (K:NY)(A:Ny NR)(H:Hp)(w:W)(u:NC):Prop:=∃v,Rel K A H w v/\RelV v u
def vX (r:RelL X.K A H ws vs)(q:Vals vs us):∀ j a (b:j<↥us),RU X.K A H ws[j] us[j]:=by
 induction ws generalizing vs us with
 |nil=>intro j a;simp at a
 |cons w ws ih=>
  cases r with
  |cons e f=>
   cases q with
   |cons c d=>
    intro j a b;cases j with
    |zero=>show#[_,e,c]
    |succ j=>show ih f d j (by simpa using a) (by simpa using b)
def zV (I:Inv X J Y H s)(h:RU X.K A H (.tup ws) u):∃a b,u=.ref a/\Ti s.heap a b/\⇑b=↥ws/\↥ws<=sizeLine/\∀ j d (e:j<⇑b),RU X.K A H ws[j] b[j]:=by
 obtain⟨v,r,q⟩:=h;cases r with
 |tup sq c=>
  obtain⟨b,f,g,i⟩:=I.tuple sq;show#[_,b.toArray,q,g,by rw[N4,<- ↥f,↥c],by rw[↥c];show i,λj d e=>?_]
  have:=vX c f j d (by simpa using e)
  simpa using this
def zW (I:Inv X J Y H s)(o:w4 X A H S)(e:lV S i=ba ws)(h:RU X.K A H (.ref i) u):∃a b,u=.ref a/\A[i]?=ba a/\s.heap.IsList a b/\⇑b=↥ws/\↥ws<=sizeLine/\∀ j f (g:j<⇑b),RU X.K A H ws[j] b[j]:=by
 obtain⟨v,r,q⟩:=h;cases r with
 |ref d=>
  obtain⟨vs,l,c⟩:=eW o e d;obtain⟨b,k,m,n⟩:=I.list (.of l);show#[_,b.toArray,q,d,m.isList,by rw[N4,<- ↥k,↥c],by rw[↥c];show n,λj f g=>?_]
  have:=vX c k j f (by simpa using g)
  simpa using this
def lY :∀{xs d:Ny W}{k:Oh},ib f xs d=ba k->∃e:NF->Oh,(∀ j c (g:j<↥d),f xs[j] d[j]=ba (e j))/\
  k=((NQ (min ↥xs ↥d)).all e&&↥xs==↥d)
 |[],[],k,h=>#[λ_=>true,λj c=>by simp at c,by cases h;rfl]
 |[],_::_,k,h=>#[λ_=>true,λj c=>by simp at c,by cases h;rfl]
 |_::_,[],k,h=>#[λ_=>true,λj c g=>by simp at g,by cases h;rfl]
 |x::xs,y::d,k,h=>by
  dsimp only[ib]at h;split at h
  next a b m n=>
   cases h;obtain⟨e,c,g⟩:=lY n;show#[λj=>match j with|0=>a|j+1=>e j,λj i l=>?_,?_]
   ·cases j with
    |zero=>show m
    |succ j=>show c j (by simpa using i) (by simpa using l)
   ·subst g;simp -iota only[On,Nat.add_min_add_right,TM,OV,List.all_map,Bool.and_assoc];congr 2;simp
  ·cases h
def DP (I:Inv X J Y H s)(t:w4 X A H S):∀ d {x y:W}{v:V}{k:Oh},Rel X.K A H x v->Rel X.K A H y v->lq S d x y=ba k->k=true:=by
 intro d
 induction d with
 |zero=>
  intro x y v k o f e;cases o with
  |non=>cases f;cases e;rfl
  |bl=>cases f;cases e;show Os _
  |int=>cases f;cases e;show Os _
  |str=>cases f;cases e;show Os _
  |tup _ _=>cases e
  |ref _=>cases e
 |succ d ih=>
  have c:∀{xs i:Ny W}{vs:Ny V}{k:Oh},RelL X.K A H xs vs->RelL X.K A H i vs->ib (lq S d) xs i=ba k->k=true:=by
   intro xs
   induction xs with
   |nil=>
    intro i vs k g h e;cases g;cases h;cases e;rfl
   |cons x xs n=>
    intro i vs k g h e;cases g with
    |cons C D=>
     cases h with
     |cons p2 E=>
      dsimp only[ib]at e;split at e
      next a b z B=>cases e;rw[ih C p2 z,n D E B];rfl
      ·cases e
  intro x y v k o f e;cases o with
  |non=>cases f;cases e;rfl
  |bl=>cases f;cases e;show Os _
  |int=>cases f;cases e;show Os _
  |str=>cases f;cases e;show Os _
  |tup w g=>
   cases f with
   |tup p h=>
    rw[I.tuple_inj w p]at g;show c g h e
   |ref j=>cases e
  |ref j=>
   cases f with
   |tup p h=>cases e
   |ref u=>
    dsimp only[lq]at e;split at e
    ·rename_i xs i l m;have:=t.nd _ _ _ _ _ (lW l) rfl (lW m) rfl j u;subst this;rw[l]at m;cases m
     rw[Ob rfl]at e;obtain⟨vs,q,r⟩:=eW t l j;show c r r e
    ·cases e
def bq (A:OD):A.in1.units=A.units+1:=rfl
noncomputable abbrev JC (B:OD)(s:NH)(u v:NC)(k:Oh):Prop:=SeqAt.RcAt B s u v k/\SeqAt.RcNeAt B s u v (!k)/\Sd B s u v k
open SeqAt in
def F1 (I:Inv X J Y H s)(V:w4 X A H S):∀(d:NF) (B:OD) {x y:W}{u v:NC}{k:Oh},B.units+d<cLine->RU X.K A H x u->RU X.K A H y v->lq S d x y=ba k->JC B s u v k:=by
 have non:∀{B:OD}{y:W}{u v:NC}{k:Oh}{d:NF},RU X.K A H .non u->RU X.K A H y v->lq S d .non y=ba k->JC B s u v k:=by
  intro B y u v k d ⟨_,h,G⟩ ⟨_,l,L⟩ e;cases h;cases(show u=P9 from G)
  cases y with
  |non=>
   have e:ba (true)=ba k:=by cases d<;>show e
   cases e;cases l;cases(show v=P9 from L)
   show#[.none_none,.none_none,.same _]
  |_=>cases d<;>cases e
 have bl:∀{B:OD}{b:Oh}{y:W}{u v:NC}{k:Oh}{d:NF},RU X.K A H (.bl b) u->RU X.K A H y v->lq S d (.bl b) y=ba k->JC B s u v k:=by
  intro B b y u v k d ⟨_,h,G⟩ ⟨_,l,L⟩ e;cases h;cases(show u=Sc _ from G)
  cases y with
  |bl c=>
   have e:ba (b==c)=ba k:=by cases d<;>show e
   cases e;cases l;cases(show v=Sc _ from L)
   show#[.bool_bool _ _,.bool_bool _ _,.bool_bool _ _]
  |_=>cases d<;>cases e
 have int:∀{B:OD}{b:NV}{y:W}{u v:NC}{k:Oh}{d:NF},RU X.K A H (.int b) u->RU X.K A H y v->lq S d (.int b) y=ba k->JC B s u v k:=by
  intro B b y u v k d ⟨_,h,G⟩ ⟨_,l,L⟩ e;cases h;obtain⟨t0,rfl⟩:∃t,u=UI _ t:=G;cases y with
  |int c=>
   have e:ba (b==c)=ba k:=by cases d<;>show e
   cases e;cases l;obtain⟨t,rfl⟩:∃t,v=UI _ t:=L;show#[.int_int _ _ _ _,.int_int _ _ _ _,.int_int _ _ _ _]
  |_=>cases d<;>cases e
 have str:∀{B:OD}{b:Oc}{y:W}{u v:NC}{k:Oh}{d:NF},RU X.K A H (.str b) u->RU X.K A H y v->lq S d (.str b) y=ba k->JC B s u v k:=by
  intro B b y u v k d ⟨_,h,G⟩ ⟨_,l,L⟩ e;cases h;obtain⟨t0,rfl⟩:∃t,u=Su _ t:=G;cases y with
  |str c=>
   have e:ba (b==c)=ba k:=by cases d<;>show e
   cases e;cases l;obtain⟨t,rfl⟩:∃t,v=Su _ t:=L;show#[.str_str _ _ _ _,.str_str _ _ _ _,.str_str _ _ _ _]
  |_=>cases d<;>cases e
 intro d
 induction d with
 |zero=>
  intro B x y u v k hu h l e;cases x with
  |non=>show non h l e
  |bl b=>show bl h l e
  |int b=>show int h l e
  |str b=>show str h l e
  |_=>cases e
 |succ d ih=>
  intro B x y u v k hu h l e;have p:B.units<cLine:=∅
  have P:B.in1.units+d<cLine:=by rw[bq];omega
  have T:=h;have U:=l;have fin:∀{a b:NR},u=.ref a->v=.ref b->RcAt B s u v k->RcNeAt B s u v (!k)->JC B s u v k:=by
   intro a b ea eb w z;subst ea eb;show#[w,z,?_]
   by_cases M:a=b
   ·subst M;obtain⟨v1,q1,z1⟩:=T;obtain⟨v2,q2,z2⟩:=U;have Q:v1=v2:=z1.inj z2;subst Q;have:=DP I V (d+1) q1 q2 e;subst this;show EqAt.same _
   ·show EqAt.of_refs M w
  cases x with
  |non=>show non h l e
  |bl b=>show bl h l e
  |int b=>show int h l e
  |str b=>show str h l e
  |tup xs=>
   cases y with
   |tup ys=>
    obtain⟨a,o,rfl,ht,q,_,hi⟩:=zV I h;obtain⟨b,g,rfl,O,m,_,C⟩:=zV I l;obtain⟨f,w,z⟩:=lY (show ib (lq S d) xs ys=ba k from e)
    have N:∀j (w:j<⇑o) (z:j<⇑g),EqAt B.in1 s o[j] g[j] (f j):=λj D E=>
     (ih B.in1 P (hi j (q▸D) D) (C j (m▸E) E) (w j (q▸D) (m▸E))).2.2
    rw[<- q,<- m]at z;subst z;show fin rfl rfl (RcAt.tuples ht O p N) (RcNeAt.tuples ht O p N)
   |_=>cases e
  |ref i=>
   cases y with
   |ref j=>
    dsimp only[lq]at e;split at e
    ·rename_i ws ws2 hw R;obtain⟨a,o,rfl,_,hl,q,_,hi⟩:=zW I V hw h;obtain⟨b,g,rfl,_,r,m,_,C⟩:=zW I V R l;split at e
     ·rename_i n;obtain⟨f,w,z⟩:=lY e;have N:∀j (w:j<⇑o) (z:j<⇑g),EqAt B.in1 s o[j] g[j] (f j):=λj D E=>
       (ih B.in1 P (hi j (q▸D) D) (C j (m▸E) E) (w j (q▸D) (m▸E))).2.2
      have hk:k=(NQ ⇑o).all f:=by rw[z,q,n];simp
      subst hk;show fin rfl rfl (RcAt.lists hl r (by rw[q,m,n]) p N) (RcNeAt.lists hl r (by rw[q,m,n]) p N)
     ·rename_i n;cases e;have Z:(⇑o != ⇑g)=true:=by rw[q,m];simpa using n
      show fin rfl rfl (RcAt.lists_lengths hl r Z p) (RcNeAt.lists_lengths hl r Z p)
    ·cases e
   |_=>cases e
end
abbrev LtAt (B:OD)(s:NH)(u v:NC)(k:Oh):Prop:=
 ∀(prog:Op) (w:OF) (E:NC->NH->Prop) (Q:NC->NH->Prop),Q (.bool k) s->wpAny (model prog w) B (richCompare .Lt u v) Q E s
inductive LexR (B:OD)(s:NH):Ny NC->Ny NC->Oh->Prop
 |nn:LexR B s [] [] false
 |nc {v:NC}{vs:Ny NC}:LexR B s [] (v::vs) true
 |cn {v:NC}{vs:Ny NC}:LexR B s (v::vs) [] false
 |eq {u v:NC}{us vs:Ny NC}{k:Oh}:Sd B s u v true->LexR B s us vs k->LexR B s (u::us) (v::vs) k
 |ne {u v:NC}{us vs:Ny NC}{k:Oh}:Sd B s u v false->LtAt B s u v k->LexR B s (u::us) (v::vs) k
section
open PySem.SeqAt
open PySem.AutoSeq1 (wpAny_loadPart')
open PySem.MeetsSeq PySem.MeetsSeq2 PySem.MeetsSeq3
def pT (l b:NR)(items a:OU NC)(n C:NF)(u m:NJ NR)(D r:OU (NJ NC))(k:Oh) :
  Meets (Rk.«tuple.__lt__» #[[.ref l,.ref b],[]])
   (λB R s=>s.heap.get? l=ba {cls:=.type "tuple",dict:=u,data:=.seq items n,slots:=D}/\s.heap.get? b=ba {cls:=.type "tuple",dict:=m,data:=.seq a C,slots:=r}/\
    LexR B.in1 s items.toList a.toList k/\R (.ok (.ret (.bool k))) s):=
 .of_wp λprog w A R s h=>by
  obtain⟨t,g,d,tk,os⟩:=s;obtain⟨hl,v,j,h⟩:=h
  have G:=WO;have H:↥items.toList=⇑items:=by simp
  have I:↥a.toList=⇑a:=by simp
  wp_walk using RN hl,RN v,Tp _ (λcf b s'=>b.1=dx/\s'=#[t,g,d,tk,os]/\∃vs ws,cf=vs.zip ws/\
   LexR A.in1 #[t,g,d,tk,os] vs ws k/\↥vs+⇑a=↥ws+⇑items) _
  case turn=>
   rintro⟨y,x⟩ cf b s' ⟨f,rfl,vs,ws,e,i,c⟩;cases i with
   |nn=>rw[Vy]at e;cases e
   |nc=>rw[Vy]at e;cases e
   |cn=>rw[List.zip_nil_right]at e;cases e
   |eq o p=>
    rw[RQ]at e;injection e with hyx hrest
    injection hyx with hy j
    subst hy j;simp only[On]at c;show NA (o prog w _ _ ?_)
    wp_walk
    show#[rfl,rfl,_,_,hrest,p,∅]
   |ne o p=>
    rw[RQ]at e;injection e with hyx hrest
    injection hyx with hy j
    subst hy j;show NA (o prog w _ _ ?_);have q:=p prog w
    wp_walk using q
    show#[_,rfl,by simpa using h]
  case fin=>
   rintro⟨E,b2⟩ s' ⟨f,rfl,vs,ws,e,i,c⟩;simp only at f;subst f;have z:k=decide (⇑items<⇑a):=by
    cases i with
    |nn=>simp only[PN]at c;show(Oy ∅).symm
    |nc=>simp only[PN,On]at c;show(OS ∅).symm
    |cn=>simp only[PN,On]at c;show(Oy ∅).symm
    |eq _ _=>rw[RQ]at e;cases e
    |ne _ _=>rw[RQ]at e;cases e
   subst z
   wp_walk
   show#[_,rfl,by simpa [VJ]using h]
  case h=>
   show#[rfl,rfl,items.toList,a.toList,rfl,j,∅]
end
def LtAt.tuples (hl:Ti s.heap l items)(p:Ti s.heap b a)(q:B.units<cLine)(r:LexR B.in1 s items.toList a.toList k) :
  LtAt B s (.ref l) (.ref b) k:=λprog w E Q h=>by
 obtain⟨⟨cls,o,data,u⟩,m,hc,n,hd⟩:=id hl;obtain⟨⟨j,e,d,i⟩,c,f,t,g⟩:=id p;subst hc hd f g;show richCompare_meets_room  #[_,m,rfl] #[_,c,rfl] PySem.F.slot_tuple_lt PySem.F.entry_tuple_lt (PySem.F.args_tuple_lt_2 _ _) (pT l b _ _ n t o e u i k)
  #[m,c,r,#[(λx=>nomatch x),h]] q
inductive COp where|eq|ne|lt|le|gt|ge|isin|notin|is|isnot
 deriving Ro
abbrev COp.py:COp->V4
 |.eq=>.Eq|.ne=>.NotEq|.lt=>.Lt|.le=>.LtE|.gt=>.Gt|.ge=>.GtE|.isin=>.In|.notin=>.NotIn|.is=>.Is|.isnot=>.IsNot
abbrev aR:W->Oh
 |.non=>true
 |.bl _=>true
 |.int _=>true
 |.str _=>true
 |_=>false
abbrev iU:W->W->Oh
 |.non,.non=>true
 |.bl a,.bl b=>a==b
 |.bl a,.int b=>b2 a==b
 |.int a,.bl b=>a==b2 b
 |.int a,.int b=>a==b
 |.str a,.str b=>a==b
 |_,_=>false
abbrev cQ (S:aa):W->NJ (Ny W)
 |.tup xs=>ba xs
 |.ref i=>ec S i
 |_=>dx
noncomputable abbrev iC:NF:=20
abbrev Mx (x y:W)(S:aa):NJ Oh:=match x with
 |.int k=>match y with
  |.ref i=>(tZ S i).map λU=>(ee U k).isSome
  |_=>dx
 |_=>dx
abbrev pU (x y:W)(S:aa):NJ Oh:=match cQ S y with
 |some a=>if aR x&&a.all aR then ba (a.any λz=>iU z x)else dx
 |none=>Mx x y S
abbrev zX:W->Oh
 |.non=>true
 |_=>false
abbrev zY (f:NV->NV->Oh):W->W->NJ Oh
 |.int i,.int j=>ba (f i j)
 |_,_=>dx
abbrev DQ:COp->W->W->aa->NJ Oh
 |.eq,x,y,S=>lq S iC x y
 |.ne,x,y,S=>(lq S iC x y).map (!·)
 |.lt,x,y,_=>zY (λi j=>decide (i<j)) x y
 |.le,x,y,_=>zY (λi j=>decide (i<=j)) x y
 |.gt,x,y,_=>zY (λi j=>decide (j<i)) x y
 |.ge,x,y,_=>zY (λi j=>decide (j<=i)) x y
 |.isin,x,y,S=>pU x y S
 |.notin,x,y,S=>(pU x y S).map (!·)
 |.is,x,y,_=>if zX y then ba (zX x)else dx
 |.isnot,x,y,_=>if zX y then ba (!zX x)else dx
abbrev dF (o:COp)(x y:W)(S:aa):NJ (W×aa):=(DQ o x y S).map λk=>(.bl k,S)
def lw (I:Inv X J Y H s)(a:w4 X A H S):PostE X J Y A H S (.bl k) (.bool k) s:=
 #[.bl k,H,A,I,rfl,.refl,a,.bl]
def DR (h:dF o x y S=ba (w,a)):∃k,DQ o x y S=ba k/\w=.bl k/\a=S:=by
 unfold dF at h;rw[NB]at h;obtain⟨k,b,c⟩:=h;cases c;show#[k,b,rfl,rfl]
def gy (r:Rel X.K A H w v)(f:aR w=true):ip v=true:=by
 cases r<;>first|rfl|cases f
def jF :∀{ws:Ny W}{vs:Ny V},RelL X.K A H ws vs->ws.all aR=true->vs.all ip=true:=by
 intro ws
 induction ws with
 |nil=>intro vs r f;cases r;rfl
 |cons w ws ih=>
  intro vs r f;cases r with
  |cons r t=>
   rw[OV,NM]at f ⊢;show#[gy r f.1,ih t f.2]
def vY (r:Rel X.K A H x u)(q:Rel X.K A H y v)(a:aR x=true)(b:aR y=true):Dw u v=iU x y:=by
 cases r<;>cases q<;>first|rfl|cases a|cases b
def DS (q:Rel X.K A H y v)(a:aR y=true):∀{ws:Ny W}{vs:Ny V},RelL X.K A H ws vs->ws.all aR=true->LN v vs=ws.any λz=>iU z y:=by
 intro ws
 induction ws with
 |nil=>intro vs r f;cases r;rfl
 |cons w ws ih=>
  intro vs r f;cases r with
  |cons r t=>
   rw[OV,NM]at f;have:=ih t f.2;unfold LN at this ⊢;rw[PC,PC,vY r q f.1 a,this]
def pV {J:Ny (NR×Ps)}{Y:L2.St}{s:NH}(g:w4 X A H S)(r:Rel X.K A H y b)(e:cQ S y=ba d):∃p vs,b=.ref p/\(SqL X.K H p vs\/SqT X.K H p vs)/\RelL X.K A H d vs:=by
 cases r with
 |tup a c=>cases e;show#[_,_,rfl,.inr a,c]
 |ref f=>
  obtain⟨vs,a,c⟩:=bz g e f;show#[_,vs,rfl,.inl a,c]
 |_=>cases e
def zZ (j:OpR X (compareOp o) (Mr X.K c))(I:Inv X J Y H s)(i:w4 X A H S)
  (h:Rel X.K A H x a) (l:RelV a u) (n:Rel X.K A H y b) (m:RelV b v) (e:cQ S y=ba d) (f:(aR x&&d.all aR)=true) :
  wi X (compareOp o u v) (PostE X J Y A H S (.bl (if c then !d.any λz=>iU z x else d.any λz=>iU z x))) X.xe s:=by
 obtain⟨p,vs,rfl,k,g⟩:=pV (J:=J) (Y:=Y) (s:=s) i n e;rw[NM]at f;show OpR.go j I l m #[p,vs,rfl,k,gy h f.1,jF g f.2,?_];rw[DS h f.1 g f.2];show .here i .bl
def z5 {u :NC}(n:w4 X A H S)(l:Rel X.K A H x a)(m:Rel X.K A H y b)(j:RelV b v)(e:Mx x y S=ba c):∃d o,v=.ref d/\DGet H d a o/\c=o.isSome:=by
 cases l with
 |int=>cases m with
  |ref f=>
   obtain⟨U,g,h⟩:=NB.mp e;obtain⟨us,i,r⟩:=jE n g f;show#[_,_,j,DGet.k (k:=Qy _) i,h.symm.trans (r.val _).2]
  |_=>cases e
 |_=>cases e
def iV (N:X.A.units+iC<cLine)(o:COp):LOp X (compareOp o.py) (dF o):=by
 intro J s Y H A S x y a b u v w Q I l q n r p e;obtain⟨k,t,O,P⟩:=DR e;subst O;subst P;clear e
 rename aa=>S
 have m:∀{f:NV->NV->Oh},zY f x y=ba k->∃i j,x=.int i/\y=.int j/\k=f i j:=by
  intro f h;cases x with
  |int i=>cases y with
   |int j=>cases h;show#[i,j,rfl,rfl,rfl]
   |_=>cases h
  |_=>cases h
 have D:X.A.units+1<cLine:=by have:iC=20:=rfl;omega
 have B:∀{c:Oh},pU x y S=ba c->(∃G,cQ S y=ba G/\(aR x&&G.all aR)=true/\c=G.any λz=>iU z x)\/Mx x y S=ba c:=by
  intro c h;unfold pU at h;split at h
  ·split at h
   ·cases h;show .inl #[_,by assumption,by assumption,rfl]
   ·cases h
  ·show .inr h
 have E:∀{c:Oh},(if zX y then ba c else dx)=ba k->y=.non/\k=c:=by
  intro c h;cases y with
  |non=>cases h;show#[rfl,rfl]
  |_=>cases h
 cases o with
 |eq=>show(F1 I l _ X.A N #[a,q,n] #[b,r,p] t).1 _ _ _ _ (lw I l)
 |ne=>
  obtain⟨R,C,rfl⟩:=NB.mp t;show(F1 I l _ X.A N #[a,q,n] #[b,r,p] C).2.1 _ _ _ _ (lw I l)
 |lt=>
  obtain⟨i,j,rfl,rfl,rfl⟩:=m t;cases q;cases r
  show OpR.go JW I n p #[_,_,rfl,rfl,.here l .bl]
 |le=>
  obtain⟨i,j,rfl,rfl,rfl⟩:=m t;cases q;cases r
  show OpR.go JX I n p #[_,_,rfl,rfl,.here l .bl]
 |gt=>
  obtain⟨i,j,rfl,rfl,rfl⟩:=m t;cases q;cases r
  show OpR.go JY I n p #[_,_,rfl,rfl,.here l .bl]
 |ge=>
  obtain⟨i,j,rfl,rfl,rfl⟩:=m t;cases q;cases r
  show OpR.go JZ I n p #[_,_,rfl,rfl,.here l .bl]
 |isin=>
  rcases B t with⟨G,C,M,rfl⟩|h
  ·show zZ  xY I l q n r p C M
  ·obtain⟨d,o,rfl,g,rfl⟩:=z5 (u:=u) l q r p h;show Mv D I g n λs' L=>lw L l
 |notin=>
  obtain⟨c,h,rfl⟩:=NB.mp t;rcases B h with⟨G,C,M,rfl⟩|h
  ·show zZ  pR I l q n r p C M
  ·obtain⟨d,o,rfl,g,rfl⟩:=z5 (u:=u) l q r p h;show DA D I g n λs' L=>lw L l
 |is=>
  obtain⟨rfl,rfl⟩:=E t;cases r;show OpR.go Hg I n p #[rfl,?_];cases q<;>show .here l .bl
 |isnot=>
  obtain⟨rfl,rfl⟩:=E t;cases r;show OpR.go Dm I n p #[rfl,?_];cases q<;>show .here l .bl
end Mi
namespace HT
open PySem PyProof.Rows
section
variable{prog:Op}{w:OF}{A:OD}{E:NC->NH->Prop}{s:NH}
def ic {lo :NJ NV}(a:Ti s.heap t items)(g:s.heap.IsSliceOf f i j .none)(l:R1 i lo)(m:R1 j hi)
  (hw:dY ⇑items 0 lo=0/\dY ⇑items ⇑items hi=⇑items) (h:Q (.ref t) s):wh prog w A (getItem (.ref t) (.ref f)) Q E s:=by
 obtain⟨os,e,d,k⟩:=id g;have c:s.TypeIs (.ref f) "slice":=#[os,e,d];unfold getItem
 try with_reducible show Pc ?_
 first|refine NA (NN ?_)|skip
 show NA (SV a.typeIs #v[] ?_)
 show NA (OW (name:=Str.ofString "__getitem__") a.typeIs Pi
  (Pd Pi a.typeIs Sl ?_ (SD _ _)))
 change wpAny _ _ (Qt (.ref t) >>= _) _ _ s;show NA (UT a ?_);show NA (QZ c ?_);rw[Ob #v[]]
 show NA (fj g l m ?_);have b:((((dY ⇑items 0 lo:NF):NV)==0&&(1:NV)==1&&(dY ⇑items ⇑items hi-dY ⇑items 0 lo)==⇑items)=true):=by
  rw[hw.1,hw.2];simp
 change wpAny _ _ (if (((dY ⇑items 0 lo:NF):NV)==0&&(1:NV)==1&&(dY ⇑items ⇑items hi-dY ⇑items 0 lo)==⇑items)=true then _ else _) _ _ s
 rw[Ob b];unfold Wz;show NA (NA (QZ a.typeIs (NN ?_)));rw[Ob #v[]]
 show NA (Sy (NA (NN (NN #[_,rfl,NN h]))))
end
end HT
namespace Mi
open PySem PySem.Spec PyProof.Rows L2
abbrev yc (x y:W)(S:aa):NJ (W×aa):=match x,y with
 |.tup xs,.int i=>(pM xs i).map λw=>(w,S)
 |.ref r,.int i=>match ec S r with
  |some xs=>(pM xs i).map λw=>(w,S)
  |none=>match tZ S r with
   |some U=>(ee U i).map λw=>(w,S)
   |none=>dx
 |.str x,.int i=>if ↥x<=sizeLine then(pM x.cps.toList i).map λc=>(.str #[[c].toArray],S)else dx
 |_,_=>dx
abbrev pW (xs:Ny W)(lo hi:NJ NV):Ny W:=(xs.drop (HT.dY ↥xs 0 lo)).take (HT.dY ↥xs ↥xs hi-HT.dY ↥xs 0 lo)
abbrev t8 (x:W)(lo hi:NJ NV)(S:aa):NJ (W×aa):=match x with
 |.tup xs=>ba (.tup (pW xs lo hi),S)
 |.ref r=>match ec S r with
  |some xs=>ba (.ref ↥S,S++[.lst (pW xs lo hi)])
  |none=>dx
 |_=>dx
abbrev rG (o i v:W)(S:aa):NJ aa:=match o,i with
 |.ref r,.int k=>match lV S r with
  |some xs=>match vS ↥xs k with
   |some j=>ba (S.set r (.lst (xs.set j v)))
   |none=>dx
  |none=>match tZ S r with
   |some U=>if ↥U<sizeLine then ba (S.set r (.dik (nX U k v)))else dx
   |none=>dx
 |_,_=>dx
section
variable (X:Cx)
abbrev LIx (g:W->W->aa->NJ (W×aa)):Prop:=
 ∀(d c:Oi) (J:Ny (NR×Ps)) (s:NH) (Y:L2.St) (H:Hp) (A:Ny NR) (S:aa) (x y:W) (a b:V) (u v:NC) (w:W) (S':aa),Inv X J Y H s->w4 X A H S->
  Rel X.K A H x a->RelV a u->Rel X.K A H y b->RelV b v->g x y S=ba (w,S')->subscripted c false u v=operate [u,v] (getItem u v)->wi X (subscriptTail d c u v) (PostE X J Y A H S' w) X.xe s
abbrev LSl (g:W->NJ NV->NJ NV->aa->NJ (W×aa)):Prop:=
 ∀(J:Ny (NR×Ps)) (s:NH) (Y:L2.St) (H:Hp) (A:Ny NR) (S:aa) (x:W) (a:V) (v vl vu:NC) (lo hi:NJ NV) (sl:NR) (w:W) (S':aa),Inv X J Y H s->w4 X A H S->
  Rel X.K A H x a->RelV a v->s.heap.IsSliceOf sl vl vu .none->R1 vl lo->R1 vu hi->g x lo hi S=ba (w,S')->
  ∃T id,typeLookup (.type T) "__getitem__" = pure (ba (.builtin id))/\s.TypeIs v T/\wi X (getItem v (.ref sl)) (PostE X J Y A H S' w) X.xe s
abbrev LSet (g:W->W->W->aa->NJ aa):Prop:=
 ∀(J:Ny (NR×Ps)) (s:NH) (Y:L2.St) (H:Hp) (A:Ny NR) (S:aa) (o i x:W) (ao ai ax:V) (uo ui ux:NC) (S':aa),Inv X J Y H s->w4 X A H S->
  Rel X.K A H o ao->RelV ao uo->Rel X.K A H i ai->RelV ai ui->Rel X.K A H x ax->RelV ax ux->g o i x S=ba S'->
  wi X (setItem uo ui ux) (λ_ s'=>∃a b,Inv X J Y a s'/\Ext X.K A H b a/\w4 X b a S') X.xe s
abbrev LCall (f:NC)(g:Ny W->aa->NJ (W×aa)):Prop:=
 ∀(J:Ny (NR×Ps)) (s:NH) (Y:L2.St) (H:Hp) (A:Ny NR) (S:aa) (xs:Ny W) (vs:Ny V) (us:Ny NC) (w:W) (S':aa),Inv X J Y H s->w4 X A H S->
  RelL X.K A H xs vs->Vals vs us->g xs S=ba (w,S')->wi X (call f us) (PostE X J Y A H S' w) X.xe s
abbrev iW (id:Pn)(g:W->Ny W->aa->NJ (W×aa)):Prop:=
 ∀(J:Ny (NR×Ps)) (s:NH) (Y:L2.St) (H:Hp) (A:Ny NR) (S:aa) (x:W) (a:V) (u:NC) (xs:Ny W) (vs:Ny V) (us:Ny NC) (w:W) (S':aa),Inv X J Y H s->w4 X A H S->
  Rel X.K A H x a->RelV a u->RelL X.K A H xs vs->Vals vs us->g x xs S=ba (w,S')->wi X (call (.builtin id) (u::us)) (PostE X J Y A H S' w) X.xe s
end
variable{X:Cx}{J:Ny (NR×Ps)}{Y:L2.St}{H:Hp}{s:NH}{S:aa}
section
variable{A:Ny NR}
def IxR.go (h:IxR X r)(I:Inv X J Y H s)(g:RelV a u)(i:RelV b v)(q:r a b H (xa X A H e w))(f:subscripted c false u v=operate [u,v] (getItem u v)) :
  wi X (subscriptTail d c u v) (PostE X J Y A H e w) X.xe s:=bo (h _ _ _ s Y H a b u v _ I g i q f) λ_ _=>EP.post
def CallR.go (h:CallR X f r)(I:Inv X J Y H s)(b:Vals vs us)(q:r vs H (xa X A H a w)) :
  wi X (call f us) (PostE X J Y A H a w) X.xe s:=bo (h _ s Y H vs us _ I b q) λ_ _=>EP.post
def MtR.go {id:Pn}(h:MtR X id r)(I:Inv X J Y H s)(c:RelV a u)(d:Vals vs us)(q:r a vs H (xa X A H b w)) :
  wi X (call (.builtin id) (u::us)) (PostE X J Y A H b w) X.xe s:=bo (h _ s Y H a vs u us _ I c d q) λ_ _=>EP.post
def vZ (r:RelL X.K A H xs vs)(e:pM xs i=ba w):∃v,pM vs i=ba v/\Rel X.K A H w v:=by
 unfold pM at e ⊢;rw[↥r]at e;cases q:vS _ i with
 |none=>rw[q]at e;cases e
 |some j=>
  rw[q]at e;obtain⟨v,a,b⟩:=r.get e;show#[v,a,b]
def Np (M:X.A.units+10<cLine):LIx X yc:=by
 intro B t J s Y H A S x y a b u v w L I g G n p o e m;cases G with
 |tup h j=>cases p with
  |int=>
   (dsimp only[yc]at e;simp only[NB]at e)
   obtain⟨E,d,f⟩:=e;cases f;obtain⟨z,i,l⟩:=vZ j d;show IxR.go Hl I n o #[_,_,_,_,rfl,rfl,h,i,.here g l] m
  |_=>cases e
 |ref D=>cases p with
  |int=>
   dsimp only[yc]at e;split at e
   next ws hw=>rw[NB]at e;obtain⟨E,d,f⟩:=e;cases f;obtain⟨vs,h,j⟩:=bz g hw D;obtain⟨z,i,l⟩:=vZ j d;show IxR.go Du I n o #[_,_,_,_,rfl,rfl,h,i,.here g l] m
   ·split at e
    ·rename_i U hk;rw[NB]at e;obtain⟨E,d,f⟩:=e;cases f;obtain⟨us,h,j⟩:=jE g hk D;obtain⟨z,i,l⟩:=(j.val _).1 _ d;obtain rfl:u=O0 _:=n;obtain⟨O,hd,vs,q,C⟩:=lS I.hok (.inl h);obtain⟨N,hw,r⟩:=RelO.some_of   (by rw[<- i];show q.val _)
     show Q7  C.typeIs PySem.F.slot_dict_getitem.lookup
      (wpAny_getItem_of  (rD (k:=Qy _) o) C.mapOf hw #[rfl,z,H,A,I.tok _,r,.refl,g,l]) m
    ·cases e
  |_=>cases e
 |str=>cases p with
  |int=>
   dsimp only[yc]at e;split at e
   ·rw[NB]at e;obtain⟨c,d,f⟩:=e;cases f;show IxR.go Hm I n o #[_,_,_,rfl,rfl,by assumption,d,.here g .str] m
   ·cases e
  |_=>cases e
 |_=>cases p<;>cases e
def pX {lo :NJ NV}(r:RelL X.K A H xs vs):RelL X.K A H (pW xs lo hi) (pL vs lo hi):=by
 unfold pW pL;rw[↥r];show(r.drop _).take _
def DT:J5 X (λx lo hi H Q=>∃a xs,x=.ref a/\SqT X.K H a xs/\(pL xs lo hi=xs->Q (.ref a) H)/\∀p,H p=dx->Q (.ref p) (bP H p (.tup (pL xs lo hi)))):=by
 intro J s Y H x v m n lo hi l Q I j d g i h;obtain⟨a,xs,rfl,f,k,q⟩:=h
 by_cases hw:(HT.dY ↥xs 0 lo=0/\HT.dY ↥xs ↥xs hi=↥xs)
 ·cases j;obtain⟨c,r,e,o⟩:=I.tuple f;have b:⇑c.toArray=↥xs:=by show r.length.symm
  show#["tuple",_,PyProof.Rows.slot_tuple_getitem.lookup,e.typeIs,?_];show HT.ic e d g i (by rw[b];show hw) #[.ref a,H,I,rfl,k ?_]
  unfold pL;rw[hw.1,hw.2];simp
 ·show Hk _ s Y H _ v m n lo hi l Q I j d g i #[a,xs,rfl,f,hw,q]
def Nq:LSl X t8:=by
 intro J s Y H A S x a v o r lo hi n w y I d u m j k l e;cases u with
 |tup b c=>
  cases e;obtain⟨T,id,g,h,i⟩:=DT _ s Y H _ v o r lo hi n (xa X A H S _) I m j k l #[_,_,rfl,b,λq=>.here d (.tup b (by have:=pX (lo:=lo) (hi:=hi) c;rw[q]at this;show this)),λp f=>.tup d (pX c) f]
  show#[T,id,g,h,bo i λ_ _=>EP.post]
 |ref t=>
  dsimp only[t8]at e;split at e
  next ws hw=>
   cases e;obtain⟨vs,b,c⟩:=bz d hw t;obtain⟨T,id,g,h,i⟩:=Dv _ s Y H _ v o r lo hi n (xa X A H _ _) I m j k l #[_,_,rfl,b,λp f=>.lst d (pX c) f]
   show#[T,id,g,h,bo i λ_ _=>EP.post]
  ·cases e
 |_=>cases e
def lset (D:X.A.units+10<cLine):LSet X rG:=by
 intro J s Y H A S o i x B z C t v w y I h u d q c r f e;cases u with
 |ref g=>cases q with
  |int=>
   dsimp only[rG]at e;split at e
   next ws hw=>
    split at e
    next j p=>cases e;obtain⟨vs,m,b⟩:=eW h hw g;rw[↥b]at p;obtain⟨a,ex⟩:=h.write (lW hw) g (b.set r j);show bo (zI _ s Y H _ _ _ t v w (λn=>n=bP H _ _) I d c f #[_,_,_,_,rfl,rfl,m,p,rfl]) λ_ s' #[n,l,e']=>#[_,A,e'▸l,ex,a]
    ·cases e
   ·split at e
    ·rename_i U hk;split at e
     next hl=>cases e;obtain⟨us,m,b⟩:=jE h hk g;obtain rfl:t=O0 _:=d;obtain⟨a,ex⟩:=h.writeK hk g (b.put _ r);rw[↥b]at hl;show x5 ∅ I (DPut.k (k:=Qy _) m hl) c f λs' l=>#[_,A,l,ex,a]
     ·cases e
    ·cases e
  |_=>cases e
 |_=>cases q<;>cases e
abbrev yd (xs:Ny W)(S:aa):NJ (W×aa):=match xs with
 |[.tup a]=>ba (.int ↥a,S)
 |[.str y]=>if ↥y<=sizeLine then ba (.int ↥y,S)else dx
 |[.ref i]=>(ec S i).map λa=>(.int ↥a,S)
 |_=>dx
def ye:LCall X (.builtin "len") yd:=by
 intro J s Y H A S xs vs us w j I a h d e;cases h with
 |nil=>cases e
 |cons r t=>
  cases t with
  |cons _ _=>cases r<;>cases e
  |nil=>
   cases r with
   |tup b c=>cases e;rw[↥c];show CallR.go lR I d #[_,_,rfl,.inr #[_,b,rfl],.here a .int]
   |str=>
    dsimp only[yd]at e;split at e
    ·cases e;show CallR.go lR I d #[_,_,rfl,#[by assumption,rfl],.here a .int]
    ·cases e
   |ref g=>
    (dsimp only[yd]at e;simp only[NB]at e)
    obtain⟨ws,hw,f⟩:=e;cases f;obtain⟨i,b,c⟩:=bz a hw g;rw[↥c];show CallR.go lR I d #[_,_,rfl,.inl #[_,b,rfl],.here a .int]
   |_=>cases e
abbrev fU (xs:Ny W)(S:aa):NJ (W×aa):=match xs with
 |[x]=>match cQ S x with
  |some a=>ba (.ref ↥S,S++[.lst a])
  |none=>dx
 |_=>dx
def iD:LCall X (.type "list") fU:=by
 intro J s Y H A S xs vs us w i I b g h e;cases g with
 |nil=>cases e
 |cons r t=>
  cases t with
  |cons _ _=>cases e
  |nil=>
   dsimp only[fU]at e;split at e
   next j d=>cases e;obtain⟨p,a,rfl,c,f⟩:=pV (J:=J) (Y:=Y) (s:=s) b r d;show CallR.go pS I h #[p,a,rfl,c,λl hl=>.lst b f hl]
   ·cases e
abbrev jG (xs:Ny W)(S:aa):NJ (W×aa):=match xs with
 |[.tup a]=>ba (.tup a,S)
 |[.ref i]=>match ec S i with
  |some a=>ba (.tup a,S)
  |none=>dx
 |_=>dx
def kq:LCall X (.type "tuple") jG:=by
 intro J s Y H A S xs vs us w j I c h d e;cases h with
 |nil=>cases e
 |cons r t=>
  cases t with
  |cons _ _=>cases r<;>cases e
  |nil=>
   cases r with
   |tup a b=>cases e;show CallR.go iq I d #[_,_,rfl,.inr #[a,.here c (.tup a b)]]
   |ref f=>
    dsimp only[jG]at e;split at e
    next k g=>cases e;obtain⟨i,a,b⟩:=bz c g f;show CallR.go iq I d #[_,_,rfl,.inl #[a,λl hl=>.tup c b hl]]
    ·cases e
   |_=>cases e
abbrev Kf (xs:Ny W)(S:aa):NJ (W×aa):=match xs with
 |[.int i]=>ba (.int i,S)
 |[.bl b]=>ba (.int (if b then 1 else 0),S)
 |_=>dx
def yf:LCall X (.type "int") Kf:=by
 intro J s Y H A S xs vs us w d I b c a e;cases c with
 |nil=>cases e
 |cons r t=>
  cases t with
  |cons _ _=>cases r<;>cases e
  |nil=>
   cases r with
   |int=>cases e;show CallR.go oy I a (.inl #[_,rfl,.here b .int])
   |bl=>cases e;show CallR.go oy I a (.inr #[_,rfl,.here b .int])
   |_=>cases e
abbrev iX (x:W)(xs:Ny W)(S:aa):NJ (W×aa):=match x,xs with
 |.ref i,[y]=>match lV S i with
  |some a=>if ↥a<sizeLine then ba (.non,S.set i (.lst (a++[y])))else dx
  |none=>dx
 |_,_=>dx
def jH (f:w4 X A H S)(e:lV S i=ba c)(d:A[i]?=ba p)(r:RelL X.K A H ws us)(a:Rel X.K A H w v) :
  xa X A H (S.set i (.lst ws)) w v (bP H p (.lst us)):=by
 obtain⟨b,ex⟩:=f.write (lW e) d r;show#[A,ex,b,a.mono ex]
def pY:iW X "list.append" iX:=by
 intro J s Y H A S x a u xs vs us w m I f k i h j e;cases k with
 |ref b=>
  cases h with
  |nil=>cases e
  |cons r t=>
   cases t with
   |cons _ _=>cases e
   |nil=>
    dsimp only[iX]at e;split at e
    ·rename_i n c;split at e
     next hl=>cases e;obtain⟨l,g,d⟩:=eW f c b;rw[↥d]at hl;show MtR.go xZ I i j #[_,_,_,rfl,rfl,g,hl,jH f c b (d.append #v[r]) .non]
     ·cases e
    ·cases e
 |_=>cases e
abbrev iY (x:W)(xs:Ny W)(S:aa):NJ (W×aa):=match x,xs with
 |.ref i,[.ref j]=>match lV S i,lV S j with
  |some a,ba b=>if ↥a+↥b<=sizeLine then ba (.non,S.set i (.lst (a++b)))else dx
  |_,_=>dx
 |_,_=>dx
def pZ:iW X "list.extend" iY:=by
 intro J s Y H A S x a u xs vs us w v I b o m l n e;cases o with
 |ref c=>
  cases l with
  |nil=>cases e
  |cons r t=>
   cases t with
   |cons _ _=>cases r<;>cases e
   |nil=>
    cases r with
    |ref h=>
     dsimp only[iY]at e;split at e
     ·rename_i y z d k;split at e
      next hl=>cases e;obtain⟨p,i,f⟩:=eW b d c;obtain⟨q,j,g⟩:=eW b k h;rw[↥f,↥g]at hl;show MtR.go x4 I m n #[_,_,_,_,rfl,rfl,i,j,hl,jH b d c (f.append g) .non]
      ·cases e
     ·cases e
    |_=>cases e
 |_=>cases e
abbrev DU (x:W)(xs:Ny W)(S:aa):NJ (W×aa):=match x,xs with
 |.ref i,[.int k]=>match lV S i with
  |some a=>if -(2^63)<=k/\k<2^63 then match seqIndex? k ↥a with
   |some j=>match a[j]? with
    |some y=>ba (y,S.set i (.lst (a.eraseIdx j)))
    |none=>dx
   |none=>dx
   else dx
  |none=>dx
 |_,_=>dx
def yg:iW X "list.pop" DU:=by
 intro J s Y H A S x a u xs vs us w v I h p n m o e;cases p with
 |ref d=>
  cases m with
  |nil=>cases e
  |cons r t=>
   cases t with
   |cons _ _=>cases r<;>cases e
   |nil=>
    cases r with
    |int=>
     dsimp only[DU]at e;split at e
     ·rename_i B g;split at e
      ·rename_i hk;split at e
       ·rename_i j f;split at e
        next y b=>cases e;obtain⟨q,i,c⟩:=eW h g d;obtain⟨z,k,l⟩:=c.get b;rw[↥c]at f;show MtR.go zL I n o #[_,_,_,_,_,rfl,rfl,i,hk.1,hk.2,f,k,jH h g d (c.eraseIdx j) l]
        ·cases e
       ·cases e
      ·cases e
     ·cases e
    |_=>cases e
 |_=>cases e
abbrev jI:Ny W->NJ (Ny Oc)
 |[]=>ba []
 |.str x::xs=>(jI xs).map (x :: ·)
 |_::_=>dx
abbrev v4 (x:W)(xs:Ny W)(S:aa):NJ (W×aa):=match x,xs with
 |.str x,[y]=>match cQ S y with
  |some b=>match jI b with
   |some a=>if (a.map (·.length)).sum+↥a*↥x<=16777216 then ba (.str (X8 x a),S)else dx
   |none=>dx
  |none=>dx
 |_,_=>dx
def lZ:∀{ws:Ny W}{vs:Ny V}{us:Ny NC}{a:Ny Oc},RelL X.K A H ws vs->Vals vs us->jI ws=ba a->StrsAre us a
 |_,_,_,a,.nil,.nil,e=>by cases e;show .nil
 |_,_,_,a,.cons r t,.cons q p,e=>by
  cases r with
  |str=>
   simp only[jI,NB]at e;obtain⟨z,b,c⟩:=e;subst c;obtain⟨tk,rfl⟩:∃t,_=Su _ t:=q;show .cons _ tk (lZ t p b)
  |_=>cases e
def uB:iW X "str.join" v4:=by
 intro J s Y H A S x a u xs vs us w C I j y q o v e;cases y with
 |str=>
  cases o with
  |nil=>cases e
  |cons r t=>
   cases t with
   |cons _ _=>cases e
   |nil=>
    simp only[v4]at e;split at e
    ·rename_i E n;split at e
     ·rename_i G l;split at e
      ·rename_i hl;cases e;obtain⟨p,B,rfl,b,m⟩:=pV (J:=J) (Y:=Y) (s:=s) j r n;obtain⟨D,rfl⟩:∃t,u=Su _ t:=q;obtain⟨z,rfl,i⟩:=ox v;have c:z=O0 p:=i;subst c;rcases b with b|b
       ·obtain⟨f,h,g,d⟩:=I.list b;show join_list g.isList (by simpa using lZ m h l) hl λt' k=>#[.str _,H,A,I.tok _,#[_,rfl],.refl,j,.str]
       ·obtain⟨f,h,g,d⟩:=I.tuple b;show join_tuple g (by simpa using lZ m h l) hl λt' k=>#[.str _,H,A,I.tok _,#[_,rfl],.refl,j,.str]
      ·cases e
     ·cases e
    ·cases e
 |_=>cases e
abbrev fm (S:aa):W->NJ Oh
 |.non=>ba false
 |.bl b=>ba b
 |.int i=>ba (i != 0)
 |.str y=>if ↥y<=sizeLine then ba ((↥y:NV) != 0)else dx
 |.tup xs=>ba (!xs.isEmpty)
 |.ref i=>(ec S i).map λxs=>!xs.isEmpty
def kw (r:RelL X.K A H ws vs):(!ws.isEmpty) = !vs.isEmpty:=by cases r<;>rfl
def My (I:Inv X J Y H s)(m:w4 X A H S)(l:Rel X.K A H x a)(j:RelV a u)(e:fm S x=ba k)(i:∀s',Inv X J Y H s'->Q k s') :
  wi X (truthy u) Q X.xe s:=by
 show bo (Hh _ s Y H a u (λb g=>b=k/\g=H) I j #[k,?_,rfl,rfl]) λb s' #[g,I',e1,c]=>?_
 ·cases l with
  |non=>cases e;rfl
  |bl=>cases e;rfl
  |int=>cases e;rfl
  |str=>
   simp only[fm]at e;split at e
   ·cases e;show#[by assumption,rfl]
   ·cases e
  |tup d f=>cases e;show .inr (.inl #[_,d,kw f])
  |ref h=>
   simp only[fm,NB]at e;obtain⟨ws,hw,c⟩:=e;subst c;obtain⟨vs,d,f⟩:=bz m hw h;show .inl #[_,d,kw f]
 ·subst e1 c;show i s' I'
end
abbrev dR (w:OF):Ps:={cls:=.type "set",dict:=dx,data:=.set #[] 0 (.fresh 0 0 (!Kc w))}
variable{prog:Op}{A:OD}{R:U7->NH->Prop}{I:NR}
section
variable{w:OF}{E:NC->NH->Prop}{fp wr:Ny NR}{G:OU Us->OU Us->Prop}{n:NF}{P:NF->NC->Prop}{St:NF->NH->Prop}
def z6 (a:NC)(h:Q₁ (.ref ⇑s.heap.objs) {s with heap:=s.heap.push (dR w)}):codeAny (model prog w) A (.call (.builtin "set.__new__") #[[.type "set",a],[]]) (wants Q₁ E) s:=by
 show Uc ?_;show NA (SW (F.newCall_set_1 a) (NN #[Qg F.plain_set_new _,Ph F.entry_set_new ?_]));unfold Rk.«set.__new__» WA;have b:=PySem.sub_set_self;obtain⟨c,g,d,tk,os⟩:=s
 wp_walk
 show wpAny_askSetting (NN ?_);show NA (Xq (NN (NN h)))
end
section
variable{α:Type}{w:OF}{E:NC->NH->Prop}
def rH:∀{l:Ny α}{i:NF} h,(l[i]::l.eraseIdx i).Perm l
 |x::l,0,_=>.refl _
 |x::l,i+1,h=>(X9 _ _ _).trans ((rH   (by simpa using h)).cons x)
end
abbrev re (S:aa)(i:NF):NJ (NV×NV):=match S[i]? with
 |some (.rng lo hi)=>ba (lo,hi)
 |_=>dx
abbrev l5 (xs:Ny W)(S:aa):NJ (W×aa):=match xs with
 |[.int j]=>if -(2^62)<=j/\j<2^62 then ba (.ref ↥S,S++[.rng 0 j])else dx
 |[.int i,.int j]=>if -(2^62)<=i/\i<2^62/\-(2^62)<=j/\j<2^62 then ba (.ref ↥S,S++[.rng i j])else dx
 |_=>dx
abbrev Hu (lo:NV)(n:NF):Ny W:=(NQ n).map λ(k:NF)=>.int (lo+(k:NV))
abbrev fq (xs:Ny W)(S:aa):NJ (W×aa):=match xs with
 |[.ref i]=>match re S i with
  |some (lo,hi)=>if -(2^62)<=lo/\lo<2^62/\-(2^62)<=hi/\hi<2^62/\(hi-lo).toNat<=sizeLine then ba (.ref ↥S,S++[.lst (Hu lo (hi-lo).toNat)])else dx
  |none=>fU [.ref i] S
 |xs=>fU xs S
section
variable{A:Ny NR}
def Inv.drawn (I:Inv X J Y H s)(d:X6):Inv X J Y H {s with drawn:=d}:=#[I.ok,I.os,I.bare,I.base,I.loc,I.cell,I.free,I.freeC,I.pin,I.hok,I.len]
def cZ {D:NR}(I:Inv X J Y H s)(e:w4 X A H S)(hk:∀b o,s.heap.get? b=ba o->h'.get? b=ba o)(d:⇑s.heap.objs<=D)(new:ObjOk X.prog X.w (bP H D u) h' D u)
  (r:H D=dx->ObjRel X.w X.K (A++[D]) (bP H D u) D n):PostE X J Y A H (S++[n]) (.ref ↥S) (.ref D) {s with heap:=h',toks:=tk,drawn:=dr}:=by
 have c:H D=dx:=I.hok.fresh d;show#[.ref D,_,A++[D],Mi.Inv.drawn (I.laid (a:=D) (o:=u) (t':=tk) hk d new) dr,rfl,cg c,e.pushO c (r c),.ref ?_];rw[<- e.len];simp
def p4:∀{vs:Ny V}{us:Ny NC},↥vs=↥us->(∀(i:NF) v u,vs[i]?=ba v->us[i]?=ba u->L2.RelV v u)->Vals vs us
 |[],[],_,_=>.nil
 |v::vs,u::us,hl,h=>.cons (h 0 v u rfl rfl) (p4 (by simpa using hl) λi v u a b=>h (i+1) v u (by simpa using a) (by simpa using b))
 |[],_::_,hl,_=>by cases hl
 |_::_,[],hl,_=>by cases hl
def p7 {K:NY}{lo:NV}:∀(l:Ny NF),RelL K A H (l.map λ(k:NF)=>W.int (lo+k)) (l.map λ(k:NF)=>V.int (lo+k))
 |[]=>.nil
 |_::l=>.cons .int (p7 l)
def fK {xs:Ny W}(d:RelL X.K A H [.ref i] vs)(b:Vals vs us):∃a,A[i]?=ba a/\us=[.ref a]:=by
 cases d with
 |cons r t=>
  cases t;cases r with
  |@ref _ a c=>
   cases b with
   |cons e b=>
    cases b;obtain rfl:_=O0 a:=e;show#[a,c,rfl]
def rJ:LCall X (.type "range") l5:=by
 intro J s Y H A S xs vs us w l I g f a e;unfold l5 at e;split at e
 next j=>
  split at e
  ·cases e;cases f with
   |cons r t=>
    cases t;cases r;cases a with
    |cons c a=>
     cases a;obtain⟨tk,rfl⟩:=c;show W4 (cZ  (u:=.rng 0 j) I g (λb o e=>ND _ e) (NP _) #[_,_,_,N2 _ rfl] λ_=>aL)
  ·cases e
 next i j=>
  split at e
  ·cases e;cases f with
   |cons r t=>
    cases t with
    |cons h t=>
     cases t;cases r;cases h;cases a with
     |cons c a=>
      cases a with
      |cons d a=>
       cases a;obtain⟨tk,rfl⟩:=c;obtain⟨k,rfl⟩:=d;show W5 (cZ  (u:=.rng i j) I g (λb o e=>ND _ e) (NP _) #[_,_,_,N2 _ rfl] λ_=>aL)
  ·cases e
 ·cases e
def rK (D:X.A.handled=dx):LCall X (.type "list") fq:=by
 intro J s Y H A S xs vs us w m I h j l e;unfold fq at e;split at e
 next i=>
  split at e
  next lo hi g=>
   split at e
   next C=>
    cases e;obtain⟨a,y,rfl⟩:=fK (xs:=[]) j l;obtain⟨p,b2,q,r,n⟩:=C;have B:H a=ba (.rng lo hi):=by
     unfold re at g;split at g
     next L=>cases g;show h.obj i _ a L y
     ·cases g
    obtain⟨t,u,v,E⟩:=I.hok a _ B;have o:PR lo hi 1=((hi-lo).toNat):=by rw[UR];split<;>omega
    show call_list_range D E (WX p b2 q r) o n λh' tk d c hk z b=>?_
    have G:Vals ((NQ (hi-lo).toNat).map λ(k:NF)=>V.int (lo+k)) d.toList:=by
     show p4 (by rw[Nz,N7,Ov,b.1]) λi v u f x=>?_
     rw[NO,NB]at f;obtain⟨k,f,rfl⟩:=f;obtain⟨hk,rfl⟩:=NZ.mp f;obtain⟨t,rfl⟩:=b.2 i u (by rw[<- O6];show x)
     show#[t,by simp]
    show cZ  (u:=.lst _) I h hk (NP _) #[by simpa using n,d.toList,c,G,by simpa using z] λo=>#[_,aL,?_]
    show p7 _
   ·cases e
  ·show iD _ s Y H A S _ vs us w m I h j l e
 ·show iD _ s Y H A S _ vs us w m I h j l e
end
mutual
inductive IsT (h:OM):T->NC->Prop
 |int {i:NV}{t:XE}:IsT h (.int i) (.int i t)
 |str {x:Oc}{t:XE}:IsT h (.str x) (.str x t)
 |tup {ks:Ny T}{a:NR}{o:Ps}{items:OU NC}{n:NF}:h.get? a=ba o->o.cls=.type "tuple"->o.data=.seq items n->IsTs h ks items.toList->IsT h (.tup ks) (.ref a)
inductive IsTs (h:OM):Ny T->Ny NC->Prop
 |nil:IsTs h [] []
 |cons {k:T}{v:NC}{ks:Ny T}{vs:Ny NC}:IsT h k v->IsTs h ks vs->IsTs h (k::ks) (v::vs)
end
def IsT.inj {h:OM}{x y:T}{v:NC}(h1:IsT h x v):IsT h y v->x=y:=by
 refine IsT.rec (motive_1:=λx v _=>∀y,IsT h y v->x=y) (motive_2:=λx v _=>∀y,IsTs h y v->x=y) ?_ ?_ ?_ ?_ ?_ h1 y
 ·intro _ _ _ h2;cases h2;rfl
 ·intro _ _ _ h2;cases h2;rfl
 ·intro _ _ _ _ _ a1 _ d1 _ ih _ h2
  cases h2 with
  |tup a2 _ d2 t2=>
   rw[a1]at a2;cases a2
   rw[d1]at d2;cases d2
   rw[ih _ t2]
 ·intro _ h2;cases h2;rfl
 ·intro _ _ _ _ _ _ i1 i2 _ h2
  cases h2 with
  |cons c d=>rw[i1 _ c,i2 _ d]
def IsT.keeps {h h':OM}{d:NR}{o:Ps}{es:OU Qb}{ep:NF}(ho:h.get? d=ba o)(hd:o.data=.dict es ep)(hs:QF d h h'){x:T}{v:NC}(h1:IsT h x v):IsT h' x v:=by
 refine IsT.rec (motive_1:=λx v _=>IsT h' x v) (motive_2:=λx v _=>IsTs h' x v) .int .str ?_ .nil (λ_ _ a b=>.cons a b) h1
 intro _ _ _ _ _ a1 c1 d1 _ ih
 exact .tup ((hs.2 _ λz=>by subst z;rw[a1]at ho;cases ho;rw[d1]at hd;cases hd).trans a1) c1 d1 ih
def IsTs.length :∀{x:Ny T}{v:Ny NC},IsTs h x v->↥x=↥v
 |_,_,.nil=>rfl
 |_,_,.cons _ b=>by simp[IsTs.length b]
def IsTs.get :∀{x:Ny T}{v:Ny NC},IsTs h x v->∀ j c (d:j<↥v),IsT h x[j] v[j]:=by
 intro x
 induction x with
 |nil=>intro v r j c;show absurd c (P7 _)
 |cons x xs ih=>
  intro v r j c d;cases r with
  |cons a b=>
   cases j with
   |zero=>show a
   |succ j=>show ih b j (TN c) (TN d)
def eg:∀{ks:Ny T} j (h:j<↥ks),(ks[j]).depth<=T.depths ks
 |k::ks,0,_=>by revert T.depths List.getElem_cons_zero;omega
 |k::ks,j+1,h=>by
  have:=eg  j (by simpa using h)
  delta T.depths List.getElem_cons_succ;omega
section
variable{w:OF}{E:NC->NH->Prop}
mutual
theorem rL:∀(k:T) (v:NC) (A:OD) (s:NH) (Q:NV->NH->Prop),IsT s.heap k v->A.units+k.depth<cLine->Q (rE w k) {s with toks:=s.toks+k.draws}->wh prog w A (pyHash v) Q E s
 |.int i,_,A,s,Q,x,_,h=>by cases x;show VL h
 |.str y,_,A,s,Q,x,_,h=>by cases x;show VM h
 |.tup ks,_,A,s,Q,x,hu,h=>by
  cases x with
  |@tup _ a o items n hg hc hd hw=>
   simp only[T.depth]at hu;show PySem.W.pyHash_slot (T:="tuple") #[_,hg,hc] F.slot_tuple_hash F.entry_tuple_hash (F.args_tuple_hash_1 _) (beq_builtin_none _) (.inr ∅) ?_
   change wpAny _ _ (Qt (.ref a) >>= _) _ _ s;show NA (wpAny_tupleItemsOf hg hd ?_);show NA ?_;rw[<- Va];show l7 ks items.toList A.in1 s #[] _ hw (by rw[bq];omega) λb hb=>?_
   change wpAny _ _ (retInt (SN b.toList)) _ _ _;rw[hb];show NA (V7 (NN #[_,_,rfl,?_]))
   simpa [T.draws,WP,rE]using h
theorem l7:∀(ks:Ny T) (vs:Ny NC) (A:OD) (s:NH) (b:OU NV) (Q:OU NV->NH->Prop),IsTs s.heap ks vs->A.units+T.depths ks<cLine->
  (∀b',b'.toList=b.toList++lU w ks->Q b' {s with toks:=s.toks+T.drawss ks})->
  wh prog w A (forIn vs b λx r=>do let h <- pyHash x;pure Vb;pure (PQ (r.push h))) Q E s
 |[],_,A,s,b,Q,x,_,h=>by cases x;show NN (h b (by simp[lU]))
 |k::ks,_,A,s,b,Q,x,hu,h=>by
  cases x with
  |cons x1 x2=>
   simp only[T.depths]at hu;rw[RO];show NA (NA (rL k _ A s _ x1 ∅ ?_))
   show NA (NN (NN ?_));show l7 ks _ A _ _ Q x2 ∅ λb' hb=>?_
   have:=h b' (by simp[hb,lU])
   simpa [T.drawss,WP]using this
end
open SeqAt in
def yh:∀(d:NF) (x y:T) (u v:NC) (B:OD) (s:NH),x.depth<=d->IsT s.heap x u->IsT s.heap y v->B.units+d<cLine->B.units+y.depth<cLine->EqAt B s u v (decide (x=y))
 |d,.int i,y,_,_,B,s,_,k,l,M,p=>by
  cases k;cases l with
  |int=>
   rename_i j r;have:decide (T.int i=T.int j)=(i==j):=by by_cases e:i=j<;>simp[e]
   rw[this];show .int_int _ _ _ _
  |str=>rw[Oy (by simp)];show .int_str _ _ _ _
  |tup a c E t=>rw[Oy (by simp)];show .int_tuple _ _ #[_,a,c,_,E] (by simp only[T.depth]at p;omega)
 |d,.str z,y,_,_,B,s,_,k,l,M,p=>by
  cases k;cases l with
  |int=>rw[Oy (by simp)];show .str_int _ _ _ _
  |str=>
   rename_i N r;have:decide (T.str z=T.str N)=(z==N):=by by_cases e:z=N<;>simp[e]
   rw[this];show .str_str _ _ _ _
  |tup a c E t=>rw[Oy (by simp)];show .str_tuple _ _ #[_,a,c,_,E] (by simp only[T.depth]at p;omega)
 |0,.tup ks,y,_,_,B,s,hd,k,l,M,p=>by simp[T.depth]at hd
 |d+1,.tup ks,y,_,_,B,s,hd,k,l,M,p=>by
  have G:=k;cases k with
  |@tup _ a o items n S U V R=>
   have H:s.heap.IsTuple a items:=#[_,S,U,_,V];simp only[T.depth]at hd;cases l with
   |int=>rw[Oy (by simp)];show .tuple_int _ _ H ∅
   |str=>rw[Oy (by simp)];show .tuple_str _ _ H ∅
   |@tup g b o2 f n2 O P Q r=>
    have I:s.heap.IsTuple b f:=#[_,O,P,_,Q]
    by_cases q:a=b
    ·subst q;have:T.tup ks=T.tup g:=G.inj (.tup O P Q r);rw[OS this];show EqAt.same _
    ·show EqAt.of_refs q ?_;simp only[T.depth]at p;have C:⇑items=↥ks:=by rw[<- Ov,↥R]
     have D:⇑f=↥g:=by rw[<- Ov,↥r]
     let e:NF->Oh:=λj=>if h:j<↥ks/\j<↥g then decide (ks[j]'h.1=g[j]'h.2)else true
     have Y:∀j (k:j<⇑items) (l:j<⇑f),EqAt B.in1 s items[j] f[j] (e j):=λj w A=>by
      have W:=R.get j (C▸w) (by simpa using w)
      have X:=r.get j (D▸A) (by simpa using A)
      have q1:=eg (ks:=ks) j (C▸w);have q2:=eg (ks:=g) j (D▸A);have:=yh d _ _ _ _ B.in1 s ∅ W X (by rw[bq];omega) (by rw[bq];omega)
      change EqAt B.in1 s items[j] f[j] (if h:j<↥ks/\j<↥g then decide (ks[j]'h.1=g[j]'h.2)else true)
      rw[XV #[C▸w,D▸A]]
      simpa using this
     have:=RcAt.tuples H I ∅ Y
     have hk:((NQ (min ⇑items ⇑f)).all e&&⇑items==⇑f)=decide (T.tup ks=T.tup g):=by
      rw[C,D]
      by_cases hl:↥ks=↥g
      ·by_cases L:ks=g
       ·subst L;revert Q9 Os UW decide_true N6 NU;intro j m;show(if h:j<↥ks/\j<↥ks then decide (ks[j]'h.1=ks[j]'h.2)else true)=true
        rw[XV #[m,m]];simp
       ·rw[Oy (by simpa using L)]
        have:∃j,∃h:j<↥ks,ks[j]≠g[j]'(hl▸h):=by
         apply Ry;intro Z;show L (PV hl λj k l=>Ry λz=>Z #[j,k,z])
        obtain⟨j,m,J⟩:=this;rw[R8];apply Or.inl;rw[SX];show#[j,by rw[NU,<- hl,Q9];show m,?_]
        show ¬ (if h:j<↥ks/\j<↥g then decide (ks[j]'h.1=g[j]'h.2)else true)=true
        rw[XV #[m,hl▸m]]
        simpa using J
      ·rw[Oy (by simp;intro z;show hl (by rw[z])),R8]
       right
       simpa using hl
     rw[hk]at this;show this
def oH (h:∀a,v≠.ref a):eqIsQuiet n v=pure true:=by
 cases v with
 |ref a=>show absurd rfl (h a)
 |_=>first|rfl|simp[eqIsQuiet]|(rfl)
def v6:∀ d k v A s Q,k.depth<=d->IsT s.heap k v->Q true s->wh prog w A (eqIsQuiet d v) Q E s
 |d,.int i,_,A,s,Q,_,x,h=>by cases x;rw[oH (λa=>by simp)];show NN h
 |d,.str i,_,A,s,Q,_,x,h=>by cases x;rw[oH (λa=>by simp)];show NN h
 |0,.tup ks,_,A,s,Q,hd,x,h=>by simp[T.depth]at hd
 |d+1,.tup ks,_,A,s,Q,hd,x,h=>by
  cases x with
  |@tup _ a o items n j hc e hi=>
   simp only[T.depth]at hd;have g:s.TypeIs (.ref a) _:=#[_,j,hc];unfold eqIsQuiet;show NA (wpAny_specialOf g F.slot_tuple_eq.lookup ?_);show NA (Se g isSubtype_tuple_tuple ?_);show NA (Pz j e ?_);show NA ?_;rw[<- Va];show Tp _ (λcf r s'=>r.1=dx/\s'=s/\∃f,IsTs _ f cf/\T.depths f<=d) _ ?_ ?_ _ _ #[rfl,rfl,ks,hi,∅]
   ·rintro v cf r s' ⟨l,rfl,f,b,c⟩;cases b with
    |cons m p=>
     simp only[T.depths]at c;show NA (v6 d _ v _ _ _ ∅ m ?_)
     show NN #[rfl,rfl,_,p,∅]
   ·rintro⟨q,t⟩ s' ⟨l,rfl,_⟩;subst l;show NN h
end
abbrev dG (prog:Op)(w:OF):HeapKind prog w T where
 is:=λh k a=>IsT h k (.ref a)/\k.depth<=bG
 hash:=rE w
 draws:=T.draws
 room:=λA=>A.units+bG<cLine
 inj:=λb c=>b.1.inj c.1
 keeps:=λx e hd f=>#[x.1.keeps e hd f,x.2]
 pyHash:=λd hk h=>rL _ _ _ _ _ hk.1 (by have:=hk.2;omega) h
 eqBool:=λd b c h=>yh bG _ _ _ _ _ _ b.2 b.1 c.1 d (by have:=c.2;omega) _ _ _ _ h
 quiet:=λhk h=>v6 8 _ _ _ _ _ (by have:=hk.2;unfold bG at this;omega) hk.1 h
mutual
def l8:T->Oh
 |.int _=>true
 |.str _=>false
 |.tup xs=>eO xs
def eO:Ny T->Oh
 |[]=>true
 |x::xs=>l8 x&&eO xs
end
abbrev fL (S:aa)(i:NF):NJ (Ny (T×W)):=match S[i]? with
 |some (.dic U)=>ba U
 |some (.frd U)=>ba U
 |_=>dx
abbrev l9 (S:aa)(i:NF):NJ (Ny (T×W)):=match S[i]? with
 |some (.dic U)=>ba U
 |_=>dx
abbrev bj (U:Ny (T×W))(k:T):NJ W:=(U.find? λp=>decide (p.1=k)).map (·.2)
abbrev dS (U:Ny (T×W))(k:T)(v:W):Ny (T×W):=
 if (U.any λp=>decide (p.1=k))=true then U.map (λp=>if p.1=k then(p.1,v)else p)else U++[(k,v)]
abbrev eL (w:W):NJ T:=match W.t w with
 |some k=>if k.isTup=true/\k.depth<=bG then ba k else dx
 |none=>dx
def dZ (h:eL w=ba k):k.w=w/\k.isTup=true/\k.depth<=bG:=by
 unfold eL at h;split at h
 next a hk=>
  split at h
  next hc=>cases h;show#[W.t_w hk,hc.1,hc.2]
  ·cases h
 ·cases h
def eP (U:Ny (T×W))(k:T)(v:W):(dS U k v).length<=↥U+1:=by
 unfold dS;split
 ·rw[Nz];show Qa _ _
 ·rw[NE,On,PN];show NP _
section
variable{A:Ny NR}
mutual
theorem p8 (I:Inv X J Y H s):∀(k:T) {v:V}{u:NC},Rel X.K A H k.w v->RelV v u->IsT s.heap k u
 |.int i,_,_,r,q=>by
  cases r;obtain⟨t,rfl⟩:∃t,_=UI _ t:=q;show .int
 |.str x,_,_,r,q=>by
  cases r;obtain⟨t,rfl⟩:∃t,_=Su _ t:=q;show .str
 |.tup ks,_,_,r,q=>by
  simp only[T.w]at r;cases r with
  |tup sq rl=>
   obtain⟨its,rv,⟨o,h1,h2,n,h3⟩,hz⟩:=I.tuple sq;obtain rfl:_=O0 _:=q;show .tup h1 h2 h3 (gT I ks rl (by simpa using rv))
theorem gT (I:Inv X J Y H s):∀(ks:Ny T) {vs:Ny V}{us:Ny NC},RelL X.K A H (T.ws ks) vs->Vals vs us->IsTs s.heap ks us
 |[],_,_,r,q=>by
  simp only[T.ws]at r;cases r;cases q;show .nil
 |k::ks,_,_,r,q=>by
  simp only[T.ws]at r;cases r with
  |cons r1 r2=>
   cases q with
   |cons q1 q2=>show .cons (p8 I k r1 q1) (gT I ks r2 q2)
end
def jJ (I:Inv X J Y H s)(r:Rel X.K A H k.w (.ref b))(hd:k.depth<=bG):(dG X.prog X.w).is s.heap k b:=#[p8 I k r rfl,hd]
def iZ (hk:eL w=ba k)(r:Rel X.K A H w v)(q:RelV v u):∃b,v=.ref b/\u=.ref b/\Rel X.K A H k.w (.ref b):=by
 obtain⟨c,d,e⟩:=dZ hk;subst c;cases k with
 |tup ks=>
  cases r with
  |tup a b=>show#[_,rfl,q,by show .tup a b]
 |_=>cases d
def KRel.is (I:Inv X J Y H s)(r:KRel X.K A H U xs):∀x∈xs,(dG X.prog X.w).is s.heap x.1 x.2.1:=by
 induction r with
 |nil=>intro x a;show nomatch a
 |@cons p q ps g h t ih=>
  intro x a;rcases Of.mp a with e|a
  ·subst e;obtain⟨d,f,b,c,_⟩:=h;rw[d]at b c;show jJ I c b
  ·show ih x a
def KRel.length (r:KRel X.K A H U xs):↥U=↥xs:=RF r
def KRel.val (r:KRel X.K A H U xs)(k:T) :
  (∀w,bj U k=ba w->∃p v,atKey xs k=ba p/\Rel X.K A H w v/\RelV v p.2)/\(bj U k=dx->atKey xs k=dx):=by
 induction r with
 |nil=>show#[λw h=>(nomatch h),λ_=>rfl]
 |@cons p q ps d h t ih=>
  obtain⟨f,_,_,_,v,g,i⟩:=h
  by_cases e:p.1=k
  ·have c:=f.symm.trans e;have a:bj (p::ps) k=ba p.2:=by simp[bj,e]
   have b:atKey (q::d) k=ba q.2:=by simp[atKey,c]
   rw[a,b];show#[λw hw=>(by cases hw;show#[_,v,rfl,g,i]),λh=>nomatch h]
  ·have c:¬ q.1=k:=λz=>e (f.trans z)
   have a:bj (p::ps) k=bj ps k:=by simp[bj,e]
   have b:atKey (q::d) k=atKey d k:=by simp[atKey,c]
   rw[a,b];show ih
def KRel.repl (r:KRel X.K A H U xs)(k:T)(b:Rel X.K A H w v)(i:RelV v u) :
  KRel X.K A H (U.map λp=>if p.1=k then(p.1,w)else p) (xs.map (putAt k u)):=by
 induction r with
 |nil=>show .nil
 |@cons p q ps j h t ih=>
  rw[OP,OP];show .cons ?_ ih;obtain⟨a,c,d,f,g⟩:=h;unfold putAt
  by_cases e:p.1=k
  ·rw[Ob e,Ob (a.symm.trans e)];show#[a,c,d,f,v,b,i]
  ·rw[Ot e,Ot (λz=>e (a.trans z))];show#[a,c,d,f,g]
def mf (k:T):∀U:Ny (T×W),(U.any λp=>decide (p.1=k))=(bj U k).isSome
 |[]=>rfl
 |p::r=>by
  rw[PC]
  by_cases e:p.1=k
  ·have a:bj (p::r) k=ba p.2:=by simp[bj,e]
   rw[a,OS e];rfl
  ·have a:bj (p::r) k=bj r k:=by simp[bj,e]
   rw[a,Oy e,Sh];show mf k r
def KRel.put (r:KRel X.K A H U xs)(d:k.isTup=true)(f:k.depth<=bG)(g:Rel X.K A H k.w (.ref b))(a:Rel X.K A H w v)(c:RelV v u) :
  KRel X.K A H (dS U k w) (storedH xs k b u):=by
 have e:(U.any λp=>decide (p.1=k))=(atKey xs k).isSome:=by
  rw[mf];cases q:bj U k with
  |none=>rw[(r.val k).2 q];rfl
  |some x=>obtain⟨p,_,h,_⟩:=(r.val k).1 x q;rw[h];rfl
 unfold dS storedH;rw[e]
 by_cases q:(atKey xs k).isSome=true
 ·rw[Ob q,Ob q];show r.repl k a c
 ·rw[Ot q,Ot q];show V6 r #[rfl,d,f,g,v,a,c]
def DicAt.of (c:↥xs<=sizeLine)(b:(a==sysModules)=false)(d:h.DictOfH (dG X.prog X.w) a xs):DicAt X.w a xs h:=
 let ⟨o,es,ep,h1,h2,h3,h4,_,h6⟩:=d;#[c,b,h6,o,es,ep,h1,h2,h3,h4]
def DicAt.stay (d:DicAt wd a xs h)(k:∀o,h.get? a=ba o->h'.get? a=ba o):DicAt wd a xs h':=
 let ⟨h0,hs,hn,o,es,ep,h1,h2⟩:=d;#[h0,hs,hn,o,es,ep,k _ h1,h2]
def DicAt.ok (d:DicAt wd a xs h):ObjOk P wd H h a (kW wd a xs):=
 #[d,let ⟨_,_,_,o,_,_,h1,_⟩:=d;#[o,h1],λ_ _ p k=>p.stay k]
def cG (I:Inv X J Y H s)(e:Rd H a (kW X.w a xs)):DicAt X.w a xs s.heap:=(e.ok I.hok).1
def DicAt.dict (d:DicAt X.w a xs s.heap)(I:Inv X J Y H s)(r:KRel X.K A H U xs):s.heap.DictOfH (dG X.prog X.w) a xs:=
 let ⟨_,_,hn,o,es,ep,h1,h2,h3,h4⟩:=d;#[o,es,ep,h1,h2,h3,h4,r.is I,hn]
def gA (c:w4 X A H S)(e:fL S i=ba U)(b:A[i]?=ba a):∃xs,Rd H a (kW X.w a xs)/\KRel X.K A H U xs:=by
 unfold fL at e;split at e
 next k h=>cases e;obtain⟨xs,q,r⟩:=c.obj i _ a h b;show#[xs,.inl q,r]
 next k h=>cases e;obtain⟨o,xs,q,r⟩:=c.obj i _ a h b;show#[xs,.inr #[o,q],r]
 ·cases e
def i4 (e:l9 S i=ba U):S[i]?=ba (.dic U):=by
 unfold l9 at e;split at e
 next h=>cases e;show h
 ·cases e
def v8 (c:w4 X A H S)(e:l9 S i=ba U)(b:A[i]?=ba a):∃xs,H a=ba (kW X.w a xs)/\KRel X.K A H U xs:=
 c.obj i _ a (i4 e) b
def rM {B:OD}(a:B.units+10<cLine):(dG X.prog X.w).room B.in1:=by
 change B.in1.units+bG<cLine;rw[bq];unfold bG;omega
abbrev p9 (x y:W)(S:aa):NJ (W×aa):=match x,y with
 |.ref r,.tup ks=>match fL S r,eL (.tup ks)with
  |some U,ba k=>(bj U k).map λw=>(w,S)
  |_,_=>dx
 |x,y=>yc x y S
def Mz (n:X.A.units+10<cLine):LIx X p9:=by
 intro j h J s Y H A S x y a b u v w C I i z q B t e m
 by_cases f:∃r ks,x=.ref r/\y=.tup ks
 ·obtain⟨r,ks,rfl,rfl⟩:=f;dsimp only[p9]at e;split at e
  next U k g c=>
   rw[NB]at e;obtain⟨R,D,E⟩:=e;cases E;cases z with
   |ref G=>
    obtain⟨xs,O,o⟩:=gA i g G;have d:=cG I O;have l:=d.dict I o;obtain⟨bk,rfl,rfl,P⟩:=iZ c B t;obtain⟨p,Q,L,M,N⟩:=(o.val k).1 _ D;obtain rfl:u=O0 _:=q;show Q7  l.typeIs slot_dict_getitem.lookup
     (wpAny_getItem_heap  (rM n) (jJ I P (dZ c).2.2) l L #[rfl,Q,H,A,I.tok _,N,.refl,i,M]) m
  ·cases e
 ·have:p9 x y S=yc x y S:=by
   cases x<;>cases y<;>first|rfl|show absurd #[_,_,rfl,rfl] f
  rw[this]at e;show Np n _ _ _ s Y H A S x y a b u v w C I i z q B t e m
abbrev i5 (o i v:W)(S:aa):NJ aa:=match o,i with
 |.ref r,.tup ks=>match l9 S r,eL (.tup ks)with
  |some U,ba k=>if ↥U<sizeLine then ba (S.set r (.dic (dS U k v)))else dx
  |_,_=>dx
 |o,i=>rG o i v S
def Kg (z:X.A.units+10<cLine):LSet X i5:=by
 intro J s Y H A S o i x O N P L W w M I u E j C h G l e
 by_cases f:∃r ks,o=.ref r/\i=.tup ks
 ·obtain⟨r,ks,rfl,rfl⟩:=f;dsimp only[i5]at e;split at e
  next U k b c=>
   split at e
   ·cases e;cases E with
    |ref y=>
     obtain⟨xs,m,t⟩:=v8 u b y;have d:=cG I (.inl m);have Q:=d.dict I t;obtain⟨bk,rfl,rfl,D⟩:=iZ c C h;obtain⟨q1,V,B⟩:=dZ c;obtain rfl:L=O0 _:=j;have Z:↥xs<=sizeLine:=by rw[<- ↥t];show QE ‹_›
     show wpAny_setItem_heap  (rM z) (jJ I D B) Q λh' a T=>?_
     have g:=t.put V B D G l;have p:(storedH xs k bk w).length<=sizeLine:=by
      rw[<- ↥g];have:=eP U k x;omega
     have R:DicAt X.w _ (storedH xs k bk w) h':=.of p d.2.1 a;obtain⟨v,ex⟩:=u.writeO (i4 b) rfl y  (n:=.dic (dS U k x)) #[_,aL,g.mono (cF (.ext m))];show#[_,A,lh I (by rw[m];show Rp) T (let ⟨q,_,_,hq,_⟩:=a;#[q,hq]) R.ok,ex,v]
   ·cases e
  ·cases e
 ·have:i5 o i x S=rG o i x S:=by
   cases o<;>cases i<;>first|rfl|show absurd #[_,_,rfl,rfl] f
  rw[this]at e;show lset z J s Y H A S o i x O N P L W w M I u E j C h G l e
abbrev wa (x:W)(xs:Ny W)(S:aa):NJ (W×aa):=match x,xs with
 |.ref r,[y,z]=>match fL S r,eL y with
  |some U,ba k=>ba ((bj U k).getD z,S)
  |_,_=>dx
 |_,_=>dx
def uC (r:X.A.units+10<cLine):iW X "dict.get" wa:=by
 intro J s Y H A S x a u xs vs us w P I i E C B D e;cases E with
 |ref l=>
  cases B with
  |nil=>cases e
  |cons t G=>
   cases G with
   |nil=>cases e
   |cons v L=>
    cases L with
    |cons _ _=>cases e
    |nil=>
     dsimp only[wa]at e;split at e
     ·rename_i U k c b;cases e;obtain⟨xs,y,f⟩:=gA i c l;have d:=cG I y;have j:=d.dict I f;cases D with
      |cons M g=>
       cases g with
       |cons N h=>
        cases h;obtain⟨bk,rfl,rfl,z⟩:=iZ b t M;obtain rfl:u=O0 _:=C;show Xa Uk j.typeIs PySem.F.entry_dict_get (PySem.F.args_dict_get_3 _ _ _) (meetsH_dict_get_default _ _ bk d.2.1 _) #[rM r,k,xs,jJ I z (dZ b).2.2,j,?_];cases q:bj U k with
        |none=>
         rw[(f.val k).2 q];show#[_,H,A,I.tok _,N,.refl,i,v]
        |some Q=>
         obtain⟨p,O,m,n,o⟩:=(f.val k).1 _ q;rw[m];show#[O,H,A,I.tok _,o,.refl,i,n]
     ·cases e
 |_=>cases e
abbrev LO (x:W)(i:NF)(S:aa):NJ Oh:=match W.t x,ec S i with
 |some k,ba a=>match W.ts a with
  |some ks=>if k.depth<=bG/\T.depths ks<=bG then ba (decide (k∈ks))else dx
  |none=>dx
 |_,_=>dx
abbrev Hv (x:W)(a:Ny W):NJ Oh:=match W.t x,W.ts a with
 |some k,ba ks=>if k.depth<=bG/\T.depths ks<=bG then ba (decide (k∈ks))else dx
 |_,_=>dx
def wb :∀{ks:Ny T}{vs:Ny NC},IsTs h ks vs->∀v∈vs,∃k∈ks,IsT h k v:=by
 intro ks
 induction ks with
 |nil=>intro vs r v c;cases r;cases c
 |cons k ks ih=>
  intro vs r v c;cases r with
  |cons a b=>
   rcases Of.mp c with rfl|c
   ·show#[_,.head _,a]
   ·obtain⟨k,hk,q⟩:=ih b v c;show#[k,.tail _ hk,q]
abbrev Hw (h:OM)(k:T)(v:NC):Oh:=@decide (IsT h k v) (WZ _)
def uD (x:IsT h a v):Hw h k v=decide (a=k):=by
 unfold Hw
 by_cases e:a=k
 ·subst e;revert x
 ·have:¬ IsT h k v:=λy=>e (x.inj y)
  revert e this
def qa :∀{ks:Ny T}{vs:Ny NC},IsTs h ks vs->vs.any (Hw h k)=decide (k∈ks)
 |_,_,.nil=>by rfl
 |_,_,.cons (k:=c) a b=>by
  rw[PC,uD a,qa b]
  by_cases e:c=k
  ·simp[e]
  ·have:¬ k=c:=λz=>e z.symm
   simp[e,this]
def mh:∀{ks:Ny T}{k:T},k∈ks->k.depth<=T.depths ks
 |x::ks,k,h=>by
  revert T.depths;rcases Of.mp h with rfl|h
  ·omega
  ·have:=mh h;omega
def z7 (L:X.A.units+10<cLine)(I:Inv X J Y H s)(G:w4 X A H S)(D:Rel X.K A H x a)(B:RelV a u)(E:Rel X.K A H (.ref i) b)(C:RelV b v)(e:LO x i S=ba c) :
  ∃l d k ks,v=.ref l/\s.heap.IsList l d/\(∀y,y∈d->Sd X.A.in1 s y u (Hw s.heap k y))/\d.any (Hw s.heap k)=c/\c=decide (k∈(ks:Ny T)):=by
 unfold LO at e;split at e
 next k N o r=>
  split at e
  next ks t=>
   split at e
   ·cases e;cases E with
    |ref j=>
     obtain⟨vs,m,n⟩:=bz G r j;obtain⟨d,g,p,_⟩:=I.list m;obtain rfl:v=O0 _:=C;have h:=gT I ks ((W.ts_w t).symm▸n) g;have hk:=p8 I k ((W.t_w o).symm▸D) B;show#[_,d.toArray,k,ks,rfl,p.isList,λy w=>?_,by rw[VR];show qa h,rfl]
     obtain⟨z,f,q⟩:=wb h y (by simpa using w)
     rw[uD q];have:=mh f;have M:bG=6:=rfl;show yh _ z k _ _ _ _ ∅ q hk (by rw[bq];omega) (by rw[bq];omega)
   ·cases e
  ·cases e
 ·cases e
def DV (D:X.A.units+10<cLine)(I:Inv X J Y H s)(B:Rel X.K A H x a)(w:RelV a u)(C:Rel X.K A H (.tup i) b)(z:RelV b v)(e:Hv x i=ba c) :
  ∃l d k,v=.ref l/\s.heap.IsTuple l d/\(∀y,y∈d->Sd X.A.in1 s y u (Hw s.heap k y))/\d.any (Hw s.heap k)=c:=by
 unfold Hv at e;split at e
 next k ks n o=>
  split at e
  ·cases e;cases C with
   |@tup _ l vs j m=>
    obtain⟨d,g,p,_⟩:=I.tuple j;obtain rfl:v=O0 _:=z;have h:=gT I ks ((W.ts_w o).symm▸m) g;have hk:=p8 I k ((W.t_w n).symm▸B) w;show#[_,d.toArray,k,rfl,p,λy r=>?_,by rw[VR];show qa h]
    obtain⟨t,f,q⟩:=wb h y (by simpa using r)
    rw[uD q];have:=mh f;have E:bG=6:=rfl;show yh bG t k _ _ _ _ ∅ q hk (by rw[bq];omega) (by rw[bq];omega)
  ·cases e
 ·cases e
abbrev bK (o:COp)(x y:W)(S:aa):NJ (W×aa):=match o,y with
 |.isin,.ref i=>match fL S i with
  |some U=>(eL x).map λk=>(.bl (bj U k).isSome,S)
  |none=>match x with
   |.tup xs=>(LO (.tup xs) i S).map λb=>(.bl (b),S)
   |x=>dF .isin x (.ref i) S
 |.notin,.ref i=>match fL S i with
  |some U=>(eL x).map λk=>(.bl (!(bj U k).isSome),S)
  |none=>match x with
   |.tup xs=>(LO (.tup xs) i S).map λb=>(.bl (!b),S)
   |x=>dF .notin x (.ref i) S
 |.isin,.tup a=>match x with
  |.tup xs=>(Hv (.tup xs) a).map λb=>(.bl b,S)
  |x=>dF .isin x (.tup a) S
 |o,y=>dF o x y S
def rN (W:X.A.units+iC<cLine)(o:COp):LOp X (compareOp o.py) (bK o):=by
 intro J s Y H A S x y a b u v w Q I n D B E C e;have get:∀{i:NF}{U:Ny _}{k:T},y=.ref i->fL S i=ba U->eL x=ba k->∃d c xs,v=.ref d/\u=.ref c/\(d==sysModules)=false/\(dG X.prog X.w).is s.heap k c/\s.heap.DictOfH (dG X.prog X.w) d xs/\(bj U k).isSome=(atKey xs k).isSome:=by
  intro i U k Z g f;subst Z;cases E with
  |ref R=>
   obtain⟨xs,rd,L⟩:=gA n g R;have d:=cG I rd;obtain⟨bk,rfl,rfl,rk⟩:=iZ f D B;obtain rfl:v=O0 _:=C;show#[_,bk,xs,rfl,rfl,d.2.1,jJ I rk (dZ f).2.2,d.dict I L,?_];cases q:bj U k with
   |none=>rw[(L.val k).2 q];rfl
   |some w'=>obtain⟨p,_,V,_⟩:=(L.val k).1 _ q;rw[V];rfl
 have m:dF o x y S=ba _->wpAny _ X.A _ _ _ s:=λh=>iV W o _ s Y H A S x y a b u v w Q I n D B E C h
 have j:X.A.units+10<cLine:=by have:iC=20:=rfl;omega
 unfold bK at e;split at e
 ·split at e
  next U g=>rw[NB]at e;obtain⟨k,f,G⟩:=e;cases G;obtain⟨d,c,xs,rfl,rfl,M,N,O,P⟩:=get rfl g f;rw[P];show wpAny_in_heap (rM j) N M O #[.bl _,H,A,I.tok _,rfl,.refl,n,.bl]
  ·split at e
   ·rw[NB]at e;obtain⟨c,hc,e⟩:=e;cases e;obtain⟨l,r,k,ks,rfl,t,p2,z,_⟩:=z7 j I n D B E C hc;show Wb _ t p2 ?_;rw[z];show#[.bl _,H,A,I,rfl,.refl,n,.bl]
   ·show m e
 ·split at e
  next U g=>rw[NB]at e;obtain⟨k,f,G⟩:=e;cases G;obtain⟨d,c,xs,rfl,rfl,M,N,O,P⟩:=get rfl g f;rw[P];show wpAny_notIn_heap (rM j) N M O #[.bl _,H,A,I.tok _,rfl,.refl,n,.bl]
  ·split at e
   ·rw[NB]at e;obtain⟨c,hc,e⟩:=e;cases e;obtain⟨l,r,k,ks,rfl,t,p2,z,_⟩:=z7 j I n D B E C hc;show U9 _ t p2 ?_;rw[z];show#[.bl _,H,A,I,rfl,.refl,n,.bl]
   ·show m e
 ·split at e
  ·rw[NB]at e;obtain⟨c,hc,e⟩:=e;cases e;obtain⟨l,r,k,rfl,t,p2,z⟩:=DV j I D B E C hc;show VO _ t p2 ?_;rw[z];show#[.bl _,H,A,I,rfl,.refl,n,.bl]
  ·show m e
 ·show m e
end
abbrev RawD (d:NR)(es:OU Qb)(a:NF)(h:OM):Prop:=∃o,h.get? d=ba o/\o.ExactDict/\o.data=.dict es a
def RawD.at (x:RawD d es a h)(e:∀o,h.get? d=ba o->h'.get? d=ba o):RawD d es a h':=let ⟨o,ho,r⟩:=x;#[o,e _ ho,r]
def RawD.lt (x:RawD d es a h):d<⇑h.objs:=let ⟨_,ho,_⟩:=x;N8 ho
def RawD.type (x:RawD d es a s.heap):s.TypeIs (.ref d) "dict":=let ⟨o,ho,hc,_⟩:=x;#[o,ho,hc.1]
variable{it:NR}{i:NF}
section
variable{w:OF}{E:NC->NH->Prop}{d:NR}{ep:NF}{es:OU Qb}
def rO (hd:(d==sysModules)=false)(c:RawD d es ep s.heap)
  (f:Q (.ref ⇑s.heap.objs) {s with heap:=s.heap.push {cls:=.type "dict_keyiterator",data:=.fields [.ref d,.int 0 0,.int ⇑es 0,.int ep 0].toArray}}):wh prog w A (pyIter (.ref d)) Q E s:=by
 have b:=c.type;obtain⟨o,e,hc,a⟩:=id c;show wpAny_pyIter_slot b F.slot_dict_iter (Pd F.slot_dict_iter b F.entry_dict_iter ?_ (F.args_dict_iter_1 _));show NA (NA (Ul b ?_));show NN ?_;change wpAny _ _ (Um d >>= _) _ _ s;unfold Um;rw[Ot (by rw[hd];show OG)]
 show NA (NN (NA (R3 e a (NA (Ud e a ?_)))));show NA (OQ (NN #[_,rfl,"dict_keyiterator",_,#[_,N2 _ rfl,rfl],F.slot_dict_keyiterator_next.lookup,?_]))
 simpa [rawInt]using f
def rP (a:s.heap.IsKeyIter it d i ⇑es ep)(j:RawD d es ep s.heap)(hi:i<⇑es)
  (g:∀h',h'.IsKeyIter it d (i+1) ⇑es ep->QF it s.heap h'->Q (ba es[i].key) {s with heap:=h'}):wh prog w A (pyNext (.ref it)) Q E s:=by
 obtain⟨o,f,hc,hd⟩:=id a;obtain⟨od,e,h,c⟩:=id j;show NA (RK (OW  a.typeIs F.slot_dict_keyiterator_next
  (Pd F.slot_dict_keyiterator_next a.typeIs F.entry_dict_keyiterator_next ?_ (F.args_dict_keyiterator_next_1 _))))
 show NA (NN (NA (NA ?_)))
 first|refine NA (Qi a.typeIs (NN ?_))|refine NA (QM _ (NN ?_))
 show NA (WB f hd ?_);change wpAny _ _ _ _ _ s;show NA (NN (NA (R3 e c ?_)));rw[Ot (by simp)]
 show NA (NN (NA (Ud e c ?_)));rw[Ot (by simp)]
 show NN ?_;simp only[Tq,Od,Rz hi];show NA ?_
 first|refine NA (Qi a.typeIs (NN ?_))|refine NA (QM _ (NN ?_))
 show NA (Uo a.typeIs ?_);change wpAny _ _ (setField _ 1 _ >>= _) _ _ s;show NA (SE f hd (by simp) ?_)
 have b:(s.heap.update it (Obj.mapFields (·.setIfInBounds 1 (rawInt (i+1))))).IsKeyIter it d (i+1) ⇑es ep:=
  #[_,Qz _ f (Up (RS hd _)),(Vz ..).trans hc,by rw[RS hd];simp[rawInt]]
 show NA (Pc ?_);show NA (Uo  b.typeIs ?_);show NN (NN #[_,rfl,NN (g _ b (RB ..))])
def wc (j:A.handled=dx)(a:s.heap.IsKeyIter it d i ⇑es ep)(k:RawD d es ep s.heap)(e:⇑es<=i)
  (g:∀h',Uv it s.heap h'->Q dx {s with heap:=h'}):wh prog w A (pyNext (.ref it)) Q E s:=by
 obtain⟨o,f,hc,hd⟩:=id a;obtain⟨od,c,h,b⟩:=id k;show NA (RK (OW  a.typeIs F.slot_dict_keyiterator_next
  (Pd F.slot_dict_keyiterator_next a.typeIs F.entry_dict_keyiterator_next ?_ (F.args_dict_keyiterator_next_1 _))))
 show NA (NN (NA (NA ?_)))
 first|refine NA (Qi a.typeIs (NN ?_))|refine NA (QM _ (NN ?_))
 show NA (WB f hd ?_);change wpAny _ _ _ _ _ s;show NA (NN (NA (R3 c b ?_)));rw[Ot (by simp)]
 show NA (NN (NA (Ud c b ?_)));rw[Ot (by simp)]
 show NN ?_;simp only[Tq,Od,Array.getElem?_eq_none e];show NA ?_
 first|refine NA (Qi a.typeIs (NN ?_))|refine NA (QM _ (NN ?_))
 change wpAny _ _ (setField _ 0 _ >>= _) _ _ s;show NA (SE f hd (by simp) ?_)
 show NA ?_;show NA (OQ ?_ (by size_fits))
 show NA  (SW  (by first|rfl|(rfl)) ?_)
 show OQ ?_ (by size_fits)
 show NA (WQ ?_);rw[j];show NA (NN (Xr ?_));show NA (Se   #[_,N2 _ rfl,rfl] Uw ?_);show NN (g _ (((RB ..).extBut.push _).push _))
def yi (l:A.handled=dx)(I d:NR)(k:d≠I)(es:OU Qb)(ep:NF) :
  Yb prog w A I [I,d] [I] ⇑es (λi v=>∃e,es[i]?=ba e/\e.key=v) (λi h=>h.IsKeyIter I d i ⇑es ep/\RawD d es ep h) where
 sub:=λb a=>by simp at a;simp[a]
 frame:=λ_ _ _ st hk=>#[st.1.at λo e=>hk I (by simp) o e,st.2.at λo e=>hk d (by simp) o e]
 item:=λi s Q E hi st c=>
  rP st.1 st.2 hi λh' f g=>c _ h' _ #[es[i],by simp[hi],rfl] #[f,st.2.at λo e=>(g.2 d k).trans e] λb o a e=>g.extBut b o (λh=>a (by simp[h])) e
 done:=λs Q E st c=>wc l st.1 st.2 (NP _) λh' j=>c h' _ λb o a e=>j b o (λh=>a (by simp[h])) e
 self:=λ_ _ _ _ st c=>Ux st.1 c
def we (lo:(d==sysModules)=false):Uy prog w "dict" d d ⇑es (λi v=>∃e,es[i]?=ba e/\e.key=v) (RawD d es ep) where
 type:=λ_ a=>a.type
 there:=λ_ a=>#[a.lt,a.lt]
 keep:=λ_ _ a hk=>a.at λo e=>hk d (.inl rfl) o e
 notList:=by decide
 notTuple:=by decide
 hint:=λ_ _ _ _ a b=>PySem.W.kdl_hint_dict a.type b
 iter:=λ_ _ c a=>#[_,_,(λ_ _ b=>rO lo a b),yi c _ d (Oe a.lt) es ep,#[#[_,N2 _ rfl,rfl,rfl],a.at λo e=>ND _ e]]
def z8 {T:Pn}{  S:NR}(K:Uy prog w T r d n P g)(k:A.handled=dx)(f:g s.heap)(l:n<=sizeLine)(e:S≠r)(c:S≠d)
  (j:s.heap.get? S=ba {cls:=.type "list",data:=.seq #[] 0})
  (i:∀h' tk a h,(∀b o,b≠S->s.heap.get? b=ba o->h'.get? b=ba o)->h'.get? S=ba {cls:=.type "list",dict:=dx,data:=.seq a h,slots:=#[]}->TQ P a n->R (.ok (.ret (.ref S))) (xc s h' tk)) :
  codeAny (model prog w) A (.builtin "list.__iadd__" #[[.ref S,.ref r],[]]) R s:=by
 show Ph F.entry_list_iadd ?_;rw[Qj F.plain_list_iadd _];show PySem.W.kdl_extend K k f S e c _ 0 j i l
def rQ {T:Pn}(K:Uy prog w T r d n P j)(m:A.handled=dx)(i:j s.heap)(p:n<=sizeLine)
  (k:∀h' tk a,(∀b o,s.heap.get? b=ba o->h'.get? b=ba o)->⇑s.heap.objs<=⇑h'.objs->TQ P a n->Q a.toList (xc s h' tk)):wh prog w A (collect (.ref r)) Q E s:=by
 unfold collect;show NA (SF (Ph F.entry_proto_collect ?_));rw[Qj F.plain_proto_collect _];change wpAny _ A.in1 (newList [] >>= λl=>again (.builtin "list.__iadd__" #[[l,.ref r],[]])) _ _ s
 show NA (OQ ?_);have h:=K.there _ i;show NN #[Qg F.plain_list_iadd _,z8 (s:={s with heap:=s.heap.push {cls:=.type "list",data:=.seq ([]:Ny NC).toArray}}) K m (K.keep _ _ i λb _ o e=>ND _ e) p (O2 h.1) (O2 h.2) (N2 _ rfl) λh' tk c q hk f g=>?_]
 change wh prog w A (do
   let o <- load ⇑s.heap.objs
   match o.data with
   |.seq xs _=>pure xs.toList
   |_=>unsupported "internal:collect") Q E (xc s h' tk)
 show NA (U6 f ?_);show NN (k h' tk c (λb o e=>hk b o (Oe (N8 e)) (ND _ e)) (QE (N8 f)) g)
end
mutual
def ie:T->T->NJ Oh
 |.int a,.int b=>ba (decide (a<b))
 |.str a,.str b=>ba (decide (a.cps.toList<b.cps.toList))
 |.tup xs,.tup ys=>di xs ys
 |_,_=>dx
def di:Ny T->Ny T->NJ Oh
 |[],[]=>ba false
 |[],_::_=>ba true
 |_::_,[]=>ba false
 |x::xs,y::ys=>if x=y then di xs ys else ie x y
end
mutual
theorem IsT.kept {h h':OM}(hk:∀b o,o.cls=.type "tuple"->h.get? b=ba o->h'.get? b=ba o):∀{x:T}{v:NC},IsT h x v->IsT h' x v
 |_,_,.int=>.int
 |_,_,.str=>.str
 |_,_,.tup a1 c1 d1 t1=>.tup (hk _ _ c1 a1) c1 d1 (IsTs.kept hk t1)
theorem IsTs.kept {h h':OM}(hk:∀b o,o.cls=.type "tuple"->h.get? b=ba o->h'.get? b=ba o):∀{x:Ny T}{v:Ny NC},IsTs h x v->IsTs h' x v
 |_,_,.nil=>.nil
 |_,_,.cons a b=>.cons (IsT.kept hk a) (IsTs.kept hk b)
end
def Kh (h:B.units+d<cLine)(hl:∀ x y u v k,x.depth<=d->y.depth<=d->IsT s.heap x u->IsT s.heap y v->ie x y=ba k->LtAt B s u v k) :
  ∀ xs f us vs k,T.depths xs<=d->T.depths f<=d->IsTs s.heap xs us->IsTs s.heap f vs->di xs f=ba k->LexR B s us vs k
 |[],[],_,_,k,_,_,b,c,e=>by cases b;cases c;cases e;show .nn
 |[],y::f,_,_,k,_,_,b,c,e=>by cases b;cases c;cases e;show .nc
 |x::xs,[],_,_,k,_,_,b,c,e=>by cases b;cases c;cases e;show .cn
 |x::xs,y::f,_,_,k,j,l,b,c,e=>by
  simp only[T.depths]at j l;cases b with
  |cons i m=>
   cases c with
   |cons p2 n=>
    have g:=yh d x y _ _ B s ∅ i p2 h ∅
    dsimp only[di]at e
    by_cases a:x=y
    ·rw[Ob a]at e;rw[OS a]at g;show .eq g (Kh h hl xs f _ _ k ∅ ∅ m n e)
    ·rw[Ot a]at e;rw[Oy a]at g;show .ne g (hl x y _ _ k ∅ ∅ i p2 e)
def Ki:∀ d x y u v B s k,x.depth<=d->y.depth<=d->IsT s.heap x u->IsT s.heap y v->B.units+d<cLine->ie x y=ba k->LtAt B s u v k:=by
 intro d
 induction d with
 |zero=>
  intro x y u v B s k c g f a p e;cases f with
  |int=>cases a with
   |int=>cases e;show λprog w E Q h=>(UP h)
   |_=>cases e
  |str=>cases a with
   |str=>cases e;show λprog w E Q h=>(lt_str h)
   |_=>cases e
  |tup _ _ _ _=>simp[T.depth]at c
 |succ d ih=>
  intro x y u v B s k c g f a p e;cases f with
  |int=>cases a with
   |int=>cases e;show λprog w E Q h=>(UP h)
   |_=>cases e
  |str=>cases a with
   |str=>cases e;show λprog w E Q h=>(lt_str h)
   |_=>cases e
  |tup i l n C=>cases a with
   |tup j m o D=>
    simp only[T.depth]at c g;have b:B.in1.units+d<cLine:=by rw[bq];omega
    show LtAt.tuples #[_,i,l,_,n] #[_,j,m,_,o] ∅ (Kh b (λx y u v k q r t z A=>ih x y u v _ s k q r t z b A) _ _ _ _ k ∅ ∅ C D e)
   |_=>cases e
section
variable{w:OF}{S:NR}{fp wr:Ny NR}{n:NF}{P:NF->NC->Prop}{St:NF->OM->Prop}{Ok:OM->Prop}{bt:NF->NF->Oh}
abbrev z9 (prog:Op)(w:OF)(A:OD)(P:NF->NC->Prop)(Ok:OM->Prop)(bt:NF->NF->Oh):Prop:=
 ∀i j a b (s:NH) (Q:NC->NH->Prop) (E:NC->NH->Prop),Ok s.heap->P i a->P j b->Q (.bool (bt i j)) s->wh prog w A (richCompare .Lt a b) Q E s
def Aa (W:Yb prog w A.in1 I fp wr n P St)(E:z9 prog w A.in1 P Ok bt)(C:S∉fp)(G:∀h h',Ok h->(∀b o,b∉wr->b≠S->h.get? b=ba o->h'.get? b=ba o)->Ok h') :
  ∀ k j s q c,n-(j+1)=k->j<n->St (j+1) s.heap->P (argBest bt j) q->Ok s.heap->s.heap.get? S=ba {cls:=.type "list",dict:=dx,data:=.seq [q,q].toArray c,slots:=#[]}->
  (∀v h' tk,P (argBest bt (n-1)) v->(∀b o,b∉wr->b≠S->s.heap.get? b=ba o->h'.get? b=ba o)->R (.ok (.ret v)) (xc s h' tk))->
  codeAny (model prog w) A (.builtin "min.loop" #[[.ref I,.none,.ref S],[]]) R s:=by
 have D:=λh=>C (W.sub _ h)
 have l:(toString "min" ++ toString ".loop")="min.loop":=by decide
 intro k
 induction k with
 |zero=>
  intro j s q c hk T z p O B H;have M:j+1=n:=∅
  show Ph F.entry_min_loop ?_;show NA (Pz B rfl ?_);show NA (R4 (W.done s _ _ (M▸z) λh' tk f=>?_))
  have g:=f S _ D B;show NA (Ue g rfl (NA (Rq (NN ?_))));have e:j=n-1:=∅
  show H q _ tk (e▸p) λb o d a e=>(Pa _ _ (Ne.symm a)).trans (f b o d e)
 |succ k ih=>
  intro j s q c hk T z p O B H;have y:j+1<n:=∅
  show Ph F.entry_min_loop ?_;show NA (Pz B rfl ?_);change wpAny _ A.in1 (tryCatch (pyNext (.ref I)) _ >>= _) _ _ s;show NA (R4 (W.item (j+1) s _ _ y z λv h' tk Q r f=>?_))
  have g:=f S _ D B;have u:=G _ _ O λb o J _ e=>f b o J e
  change wpAny _ A.in1 (tryCatch (holding [v,v] (richCompare .Lt v q >>= _)) _ >>= _) _ _ _;show NA (R4 (Pc (NA (E (j+1) (argBest bt j) v q _ _ _ u Q p ?_))));show NA (Pc (Pu ?_));show NA (Rq (NN ?_));cases J:bt (j+1) (argBest bt j)with
  |true=>
   delta Vq;show NA (Ue g rfl (NA (Rq ?_)));rw[l];show NN #[Qg F.plain_min_loop _,ih (j+1) _ v _ ∅ y (W.frame _ _ _ r λb L o e=>?_) (by revert argBest J;show Q) (G _ _ u λb o _ a e=>(Pa _ _ (Ne.symm a)).trans e) (Qz _ g rfl)
    λN t m x i=>?_]
   ·show(Pa _ _ (λh=>C (by rw[h];show L))).trans e
   ·show H N t m x λb o d a e=>i b o d a ((Pa _ _ (Ne.symm a)).trans (f b o d e))
  |false=>
   dsimp only[];show NA (Rq ?_);rw[l];show NN #[Qg F.plain_min_loop _,ih (j+1) _ q c ∅ y r (by revert argBest J;show p) u g λN t m x i=>?_]
   show H N t m x λb o d a e=>i b o d a (f b o d e)
def yj (W:Yb prog w A.in1 I fp wr n P St)(k:z9 prog w A.in1 P Ok bt)(d:S∉fp)(g:∀h h',Ok h->(∀b o,b∉wr->b≠S->h.get? b=ba o->h'.get? b=ba o)->Ok h')(C:0<n)(z:St 0 s.heap)(D:Ok s.heap)
  (B:s.heap.get? S=ba {cls:=.type "list",dict:=dx,data:=.seq #[] c,slots:=#[]})
  (G:∀v h' tk,P (argBest bt (n-1)) v->(∀b o,b∉wr->b≠S->s.heap.get? b=ba o->h'.get? b=ba o)->R (.ok (.ret v)) (xc s h' tk)) :
  codeAny (model prog w) A (.builtin "min.loop" #[[.ref I,.none,.ref S],[]]) R s:=by
 have u:=λh=>d (W.sub _ h)
 have y:(toString "min" ++ toString ".loop")="min.loop":=by decide
 show Ph F.entry_min_loop ?_;show NA (Pz B rfl ?_);show NA (R4 (W.item 0 s _ _ C z λv h' tk E m f=>?_))
 have i:=f S _ u B;change wpAny _ A.in1 (updateSeq S (λ_=>[v,v].toArray) >>= _) _ _ _
 show NA (Ue i rfl ?_);have r:=g _ _ D λb o H _ e=>f b o H e
 show NN #[Qg F.plain_min_loop _,Aa W k d g _ 0 _ v _ rfl C (W.frame _ _ _ m λb x o e=>?_) E (g _ _ r λb o _ a e=>(Pa _ _ (Ne.symm a)).trans e) (Qz _ i rfl) λJ q p t l=>?_]
 ·show(Pa _ _ (λh=>d (by rw[h];show x))).trans e
 ·show G J q p t λb o j a e=>l b o j a ((Pa _ _ (Ne.symm a)).trans (f b o j e))
end
section
variable{w:OF}{E:NC->NH->Prop}
def Ab (p:A.handled=dx)(hl:s.heap.IsList l items)(q:0<⇑items)
  (d:z9 prog w A.in1 (λi v=>items[i]?=ba v) (λh=>∀b o,s.heap.get? b=ba o->h.get? b=ba o) bt)
  (n:∀v h' tk,items[argBest bt (⇑items-1)]?=ba v->(∀b o,s.heap.get? b=ba o->h'.get? b=ba o)->Q v (xc s h' tk)) :
  wh prog w A (call (.builtin "min") [.ref l]) Q E s:=by
 have c:(toString "min" ++ toString ".loop": Pn)="min.loop":=by decide
 show call_function_tree F.kind_min F.plain_min F.entry_min (F.args_min1 _) ?_;change wpAny _ A.in1 (Sq "min" ["key","default"] 0 #[[],[]] >>= _) _ _ s;show NA (SW (show Sq "min" ["key","default"] 0 #[[],[]]=pure [dx,dx]from rfl) ?_)
 show NA (NN ?_);show NA (QI hl ?_);show NA (OQ ?_);rw[c];have f:l<⇑s.heap.objs:=let ⟨_,g,_⟩:=hl;N8 g
 have m:l≠⇑s.heap.objs:=Oe f;have W:=XN (prog:=prog) (w:=w) (A:=A.in1) p ⇑s.heap.objs l m items;have hsz:∀o:Ps,(s.heap.push o).objs.size=⇑s.heap.objs+1:=λo=>by simp[Heap.push]
 show NN #[Qg F.plain_min_loop _,yj (A:=A) (Ok:=λh=>∀b o,s.heap.get? b=ba o->h.get? b=ba o) W d (λk=>?_) (λh h' g hk b o e=>?_) q #[?_,?_] (λb o e=>ND _ (ND _ e)) (N2 _ rfl) λv h' tk r hk=>?_]
 ·rcases Of.mp k with e|k
  ·show absurd (show(s.heap.push _).objs.size=⇑s.heap.objs from e) (by rw[hsz];show Nat.succ_ne_self _)
  ·have e:(s.heap.push _).objs.size=l:=NT.mp k;rw[hsz]at e;show absurd f (by rw[<- e];show TJ.mpr (QY _))
 ·have a:=N8 e;show hk b o (λz=>?_) (λz=>?_) (g b o e)
  ·rw[NT.mp z]at a;show Pf _ a
  ·have j:b=(s.heap.push _).objs.size:=z;rw[hsz]at j;rw[j]at a;show absurd a (TJ.mpr (QY _))
 ·show#[_,ND _ (N2 _ rfl),rfl,rfl]
 ·obtain⟨o,g,hc⟩:=hl;show#[o,ND _ (ND _ g),hc]
 ·show n v h' tk r λb o e=>hk b o (λz=>?_) (λz=>?_) (ND _ (ND _ e))
  ·have a:=N8 e;rw[NT.mp z]at a;show Pf _ a
  ·have a:=N8 e;have j:b=(s.heap.push _).objs.size:=z;rw[hsz]at j;rw[j]at a;show absurd a (TJ.mpr (QY _))
end
open PySem.W (KasT kas_sort kas_ask kas_cmp kas_item kas_asc kas_desc kas_tail3 kas_descPart kas_count kas_place kas_bin kas_rev)
abbrev rR {α:Type}(lt:NF->NF->Oh):KasT α->α
 |.ret a=>a
 |.ask i j k=>rR lt (k (lt i j))
abbrev OkK {α:Type}(n:NF)(P:α->Prop):KasT α->Prop
 |.ret a=>P a
 |.ask i j k=>i<n/\j<n/\∀b,OkK n P (k b)
def rS :∀ t,OkK n P t->P (rR lt t)
 |.ret _,h=>h
 |.ask i j k,h=>rS (k _) (h.2.2 _)
def qb (h:OkK n P t):P (rR lt t):=rS t h
def OkK.bind {f:α->KasT β}:∀{t:KasT α},OkK n P t->(∀a,P a->OkK n d (f a))->OkK n d (t.bind f)
 |.ret a,h,c=>c a h
 |.ask _ _ _,h,c=>#[h.1,h.2.1,λb=>OkK.bind (h.2.2 b) c]
def oI (hc:∀i j,i<n->j<n->∀C:Oh->NH->Prop,C (lt i j) s->a i j C s) :
  ∀{t:KasT α},OkK n P t->Q (rR lt t) s->t.kasWp a Q s
 |.ret _,_,h=>h
 |.ask i j k,h,b=>hc i j h.1 h.2.1 _ (oI hc (h.2.2 _) b)
abbrev Pm (n:NF)(p:OU NF):Prop:=p.toList.Perm (NQ n)
def Pm.size (h:Pm n p):⇑p=n:=by rw[<- Ov,h.length_eq,N7]
def Pm.lt (h:Pm n p)(a:0<n)(i:NF):p.getD i 0<n:=by
 by_cases hi:i<⇑p
 ·have e:p.getD i 0=p[i]:=by simp[XO,hi]
  rw[e];have:p[i]∈p.toList:=by simp
  show NU.mp (h.mem_iff.mp this)
 ·have e:p.getD i 0=0:=by simp[XO,hi]
  rw[e];show a
def Pm.rev (h:Pm n p)(i j:NF):Pm n (kas_rev p i j):=(SG.mp (mirror_perm p i j _)).trans h
def Pm.bub (h:Pm n p)(i j:NF):Pm n (bubble p i j):=(SG.mp (bubble_perm p i j)).trans h
section
variable{n:NF}(hn:0<n)
include hn
def uE (h:Pm n p):∀ f m,OkK n (λ_=>Wm) (kas_asc p f m)
 |0,_=>trivial
 |f+1,m=>#[h.lt hn _,h.lt hn _,λb=>by
  change OkK n _ (if b=true then _ else _)
  split
  ·trivial
  ·show uE h f _]
def lA:∀ f p m q,Pm n p->OkK n (λr=>Pm n r.1) (kas_desc f p m q)
 |0,p,m,q,h=>h
 |f+1,p,m,q,h=>#[h.lt hn _,h.lt hn _,λb=>by
  change OkK n _ (if b=true then _ else _)
  split
  ·split
   ·show lA f _ _ _ (h.rev _ _)
   ·show lA f _ _ _ h
  ·show#[h.lt hn _,h.lt hn _,λc=>?_]
   change OkK n _ (if c=true then _ else _)
   split
   ·show h
   ·show lA f _ _ _ h]
def wf (h:Pm n p)(m k:NF):OkK n (λr=>Pm n r.2) (kas_tail3 m k p):=by
 show OkK.bind (uE hn (h.rev 0 m) _ _) λa _=>h.rev 0 m
def kz (h:Pm n p)(m k:NF):OkK n (λr=>Pm n r.2) (kas_descPart m k p):=by
 show OkK.bind (lA hn _ _ _ _ h) λr a=>?_
 split
 ·show wf hn (a.rev _ _) _ _
 ·show wf hn a _ _
def Ac (h:Pm n p)(k:NF):OkK n (λr=>Pm n r.2) (kas_count k p):=by
 show OkK.bind (uE hn h _ _) λm _=>?_
 split
 ·show h
 ·split
  ·show#[h.lt hn _,h.lt hn _,λc=>?_]
   change OkK n _ (if c=true then _ else _)
   split
   ·show h
   ·show kz hn (h.rev _ _) _ _
  ·show kz hn h _ _
def mj (h:Pm n p)(k:NF):∀ f l r,OkK n (λ_=>Wm) (kas_place p k f l r)
 |0,_,_=>trivial
 |f+1,l,r=>by
  delta kas_place;split
  ·trivial
  ·show#[h.lt hn _,h.lt hn _,λc=>?_]
   change OkK n _ (if c=true then _ else _)
   split
   ·show mj h k f _ _
   ·show mj h k f _ _
def Ad:∀ f p k,Pm n p->OkK n (Pm n) (kas_bin f p k)
 |0,p,k,h=>h
 |f+1,p,k,h=>by
  show OkK.bind (mj hn h k _ _ _) λl _=>Ad f _ _ (h.bub _ _)
def lB:OkK n (Pm n) (kas_sort n):=by
 show OkK.bind (Ac hn (by unfold Pm;rfl) _) λr a=>?_
 split
 ·show Ad hn _ _ _ a
 ·show a
end
section
variable{w:OF}{E:NC->NH->Prop}{vs:Ny NC}
abbrev fu (lt:NF->NF->Oh){β:Type}(d:β)(vs:Ny β):Ny β:=if ↥vs<2 then vs else(rR lt (kas_sort ↥vs)).toList.map λi=>vs.getD i d
def rT {vs:Ny β}:(fu lt d vs).length=↥vs:=by
 unfold fu;split
 ·rfl
 ·rw[Nz,Ov,(qb  (lB  ∅)).size]
def yk (y:s.heap.get? a=ba (seqObj "list" vs.toArray n))(D:↥vs<64)
  (l:2<=↥vs->∀h',(∀b o,b≠a->s.heap.get? b=ba o->h'.get? b=ba o)->∀Q:Uz->NH->Prop,Q κ {s with heap:=h'}->wh prog w A (keyKind' vs.toArray) Q (λ_ _=>Pg) {s with heap:=h'})
  (I:2<=↥vs->∀h',(∀b o,b≠a->s.heap.get? b=ba o->h'.get? b=ba o)->∀i j,i<↥vs->j<↥vs->∀Q:Oh->NH->Prop,Q (lt i j) {s with heap:=h'}->
   wh prog w A (keyLt' κ (vs.getD i P9) (vs.getD j P9)) Q (λ_ _=>Pg) {s with heap:=h'})
  (h:∀h' c,(∀b o,b≠a->s.heap.get? b=ba o->h'.get? b=ba o)->h'.get? a=ba (seqObj "list" (fu lt P9 vs).toArray c)->P (.done (.ret .none)) {s with heap:=h'}) :
  wh prog w A (Rk.«list.sort» #[[.ref a],[]]) P E s:=by
 have X:=N8 y;obtain⟨B,t⟩:∃B,(s.heap.update a (P1 λ_=>(#[]))).get? a=ba (seqObj "list" #[] B):=#[_,Uf y λ_=>#[]]
 have keep:∀b o,b≠a->s.heap.get? b=ba o->(((s.heap.update a (P1 λ_=>(#[]))).push (seqObj "tuple" vs.toArray 0)).push (seqObj "list" #[] 0)).get? b=ba o:=λb o v e=>
  ND _ (ND _ ((RC _ _ _ _ v).trans e))
 have d:(((s.heap.update a (P1 λ_=>(#[]))).push (seqObj "tuple" vs.toArray 0)).push (seqObj "list" #[] 0)).get? a=ba (seqObj "list" #[] B):=ND _ (ND _ t)
 have fin:∀out,↥out=↥vs->out=fu lt P9 vs->P (.done (.ret .none)) {s with heap:=(((s.heap.update a (P1 λ_=>(#[]))).push (seqObj "tuple" vs.toArray 0)).push (seqObj "list" #[] 0)).update a (P1 λ_=>out.toArray)}:=λout hl e=>by
  obtain⟨z,H⟩:∃z,((((s.heap.update a (P1 λ_=>(#[]))).push (seqObj "tuple" vs.toArray 0)).push (seqObj "list" #[] 0)).update a (P1 λ_=>out.toArray)).get? a=ba (seqObj "list" out.toArray z):=#[_,Uf d λ_=>out.toArray]
  show h _ z (λb o v q=>(RC _ _ _ _ v).trans (keep b o v q)) (e▸H)
 rw[list_sort_plain];show NA (VA y rfl ?_);show NA (Tb y rfl ?_ (by rw[N4,O4];omega) (Pj _))
 show NA (V8 t rfl ?_);show NA (SH ?_ (by change ↥vs<=_;rw[O4];omega))
 show NA (UX ?_ (Pj _));show Pc ?_;change wh prog w A _ P E {s with heap:=((s.heap.update a (P1 λ_=>(#[]))).push (seqObj "tuple" vs.toArray 0)).push (seqObj "list" #[] 0)}
 dsimp only
 by_cases m:↥vs<2
 ·rw[Ob (by rw[N4];show m),Ob (by rw[N4];show m)]
  show NA (NN (NA ?_));rw[StateT.run_pure];show NN ?_;dsimp only;show NA (V8 d rfl ?_);have V:((arrOf (SortSt.mk' general' (vs.toArray.zip vs.toArray) #[] 7 dx)).map (·.2))=vs.toArray:=by
   show(vs.toArray.zip vs.toArray).map (·.2)=vs.toArray
   apply Array.toList_inj.mp;rw[Array.toList_map,Array.toList_zip];show VS (NP _)
  rw[V];show NA (Tb d rfl ?_ (Pj _) (by rw[N4,O4];omega))
  revert VB;show NN (fin vs rfl (by unfold fu;rw[Ob m]))
 ·have r:¬ ⇑vs.toArray<2:=by rw[N4];show m
  have g:2<=↥vs:=∅
  rw[Ot r,Ot r];show NA (PK (l g _ keep (λk s'=>k=κ/\s'={s with heap:=((s.heap.update a (P1 λ_=>(#[]))).push (seqObj "tuple" vs.toArray 0)).push (seqObj "list" #[] 0)}) #[rfl,rfl]) ?_ λ_ _ x=>x.elim)
  rintro _ _ ⟨rfl,rfl⟩;show NA (PK (PySem.W.kat_run (Q:=λf s'=>∃p:OU NF,⇑p=↥vs/\arrOf f=p.map (kas_item (vs.toArray.zip vs.toArray))/\failedOf f=dx/\p=rR lt (kas_sort ↥vs)/\s'={s with heap:=((s.heap.update a (P1 λ_=>(#[]))).push (seqObj "tuple" vs.toArray 0)).push (seqObj "list" #[] 0)})
    rfl g D (λW f s' J L M N=>#[W,J,L,M,N])
   (oI  (λi j hi T C R=>I g _ keep i j hi T C R) (lB  ∅) #[rfl,rfl])) ?_ λ_ _ e=>e)
  rintro⟨⟨⟩,f⟩ s' ⟨p,U,G,S,O,rfl⟩;dsimp only;have u:=PySem.W.kat_snds rfl G;have hsz:(p.toList.map λi=>vs.getD i P9).length=↥vs:=by rw[Nz,Ov,U]
  rw[u];show NA (V8 d rfl ?_);show NA (Tb d rfl ?_ (Pj _) (by rw[N4,hsz,O4];omega))
  rw[S];revert VB Ra Tq;show NN (fin _ hsz (by unfold fu;rw[Ot m,O]))
def ym (q:↥vs<64)
  (k:∀v:Ny NC->NH->Prop,(∀h' tk,(∀b o,s.heap.get? b=ba o->h'.get? b=ba o)->⇑s.heap.objs<=⇑h'.objs->v vs (xc s h' tk))->wpAny (model prog w) A.in1 (collect x) v E s)
  (d:2<=↥vs->∀h' tk,(∀b o,s.heap.get? b=ba o->h'.get? b=ba o)->∀Q:Uz->NH->Prop,Q κ (xc s h' tk)->wpAny (model prog w) A.in1.in1 (keyKind' vs.toArray) Q (λ_ _=>Pg) (xc s h' tk))
  (t:2<=↥vs->∀h' tk,(∀b o,s.heap.get? b=ba o->h'.get? b=ba o)->∀i j,i<↥vs->j<↥vs->∀Q:Oh->NH->Prop,Q (lt i j) (xc s h' tk)->
   wpAny (model prog w) A.in1.in1 (keyLt' κ (vs.getD i P9) (vs.getD j P9)) Q (λ_ _=>Pg) (xc s h' tk))
  (h:∀D h' tk c,(∀b o,s.heap.get? b=ba o->h'.get? b=ba o)->⇑s.heap.objs<=D->h'.get? D=ba (seqObj "list" (fu lt P9 vs).toArray c)->Q (.ref D) (xc s h' tk)) :
  wh prog w A (call (.builtin "sorted") [x]) Q E s:=by
 show SO kind_sorted plain_sorted entry_sorted (args_sorted1 _) ?_;unfold Rk.«sorted»;show NA (m:=checkCount "sorted" 1 1 _) (NN ?_);show NA (k _ λg a r l=>?_)
 show NA (UX ?_ (by rw[O4];omega))
 have n:(g.push (seqObj "list" vs.toArray 0)).get? ⇑g.objs=ba (seqObj "list" vs.toArray 0):=N2 _ rfl;have kp:∀b o,s.heap.get? b=ba o->(g.push (seqObj "list" vs.toArray 0)).get? b=ba o:=λb o e=>ND _ (r b o e)
 have f:∀b o,s.heap.get? b=ba o->b≠⇑g.objs:=λb o e=>Oe (N5 (N8 e) l)
 change wpAny _ _ _ _ _ {s with heap:=g.push (seqObj "list" vs.toArray 0),toks:=a}
 show NA (Pc (Pd slot_list_sort #[_,n,rfl] entry_list_sort ?_ (args_list_sort _)));show yk (s:={s with heap:=g.push (seqObj "list" vs.toArray 0),toks:=a}) (lt:=lt) (κ:=κ) n q (λp h' hk Q u=>d p h' a (λb o e=>hk b o (f b o e) (kp b o e)) Q u)
  (λp h' hk i j hi z Q u=>t p h' a (λb o e=>hk b o (f b o e) (kp b o e)) i j hi z Q u) λh' c hk y=>?_
 show#[_,rfl,NN #[_,rfl,h _ h' a c (λb o e=>hk b o (f b o e) (kp b o e)) l y]]
end
abbrev fW:T->Pn
 |.int _=>"int"|.str _=>"str"|.tup _=>"tuple"
abbrev bA:T->NJ T
 |.tup (x::_)=>ba x
 |_=>dx
abbrev DW (ks:Ny T):NJ NF:=
 if ks.all (λk=>fW k == "int")then ba 0
 else if ks.all (λk=>fW k == "str")then ba 1
 else if ks.all (λk=>(bA k).any λf=>fW f == "int")then ba 2
 else if ks.all (λk=>(bA k).any λf=>fW f == "str")then ba 3
 else if ks.all (λk=>(bA k).any λf=>fW f == "tuple")then ba 4
 else dx
abbrev Ae:NF->Uz
 |0=>oneType'|1=>oneType'|2=>tuples' true|3=>tuples' true|_=>tuples' false
abbrev fw (ks:Ny T):Oh:=ks.all λx=>ks.all λy=>(ie x y).isSome
abbrev zm (ks:Ny T)(i j:NF):Oh:=(ie (ks.getD i (.int 0)) (ks.getD j (.int 0))).getD false
def uF (h:fw ks=true)(hi:i<↥ks)(c:j<↥ks):ie (ks[i]) (ks[j])=ba (zm ks i j):=by
 unfold fw at h;rw[N6]at h;have a:=h _ (OE hi);rw[N6]at a;have d:=a _ (OE c);unfold zm;rw[show ks.getD i _=ks[i] by simp[hi],show ks.getD j _=ks[j] by simp[c]]
 obtain⟨b,e⟩:=O3.mp d;rw[e];rfl
abbrev Nd (c:NF)(x y:T):Prop:=match c with|0=>fW x="int"/\fW y="int"|1=>fW x="str"/\fW y="str"|2=>∃f g,bA x=ba f/\bA y=ba g/\fW f="int"/\fW g="int"|3=>∃f g,bA x=ba f/\bA y=ba g/\fW f="str"/\fW g="str"|_=>∃f g,bA x=ba f/\bA y=ba g
section
variable{w:OF}{E:NC->NH->Prop}
def wj (x:IsT h k v):PySem.W.Looks (model prog w) h (typeOf v) (.type (fW k)):=by
 cases x with
 |int=>show .now
 |str=>show .now
 |tup a c d t=>show c▸((X1 a).andThen .now)
def IsTs.mem :∀{ks:Ny T}{vs:Ny NC},IsTs h ks vs->∀v∈vs,∃k∈ks,IsT h k v:=by
 intro ks
 induction ks with
 |nil=>intro vs r v c;cases r;cases c
 |cons k ks ih=>
  intro vs r v c;cases r with
  |cons a b=>
   rcases Of.mp c with rfl|c
   ·show#[_,.head _,a]
   ·obtain⟨k,hk,q⟩:=ih b v c;show#[k,.tail _ hk,q]
def oJ :∀{ks:Ny T}{vs:Ny NC},IsTs h ks vs->ks.all (λk=>(bA k).any p)=true->∃d,PySem.W.KatTups h vs d/\↥d=↥vs/\∀v∈d,∃k,p k=true/\IsT h k v
 |_,_,.nil,_=>#[[],.nil,rfl,λv e=>nomatch e]
 |k::ks,_,.cons a b,c=>by
  rw[OV,NM]at c;obtain⟨d,m,q,r⟩:=oJ b c.2;cases a with
  |int=>simp[bA]at c
  |str=>simp[bA]at c
  |@tup t y o items n i j l g=>
   cases t with
   |nil=>simp[bA]at c
   |cons x xs=>
    have s:p x=true:=by simpa [bA]using c.1
    generalize f:items.toList=its at g;cases g with
    |@cons _ u _ us w z=>
     show#[u::d,.cons i j l (by rw[<- O6,f];rfl) m,by simp[q],λv e=>?_]
     rcases Of.mp e with rfl|e
     ·show#[x,s,w]
     ·show r v e
def Hx (h:IsTs s.heap ks vs)(i:2<=↥vs)(hc:DW ks=ba c)(b:Q (Ae c) s):wh prog w A (keyKind' vs.toArray) Q E s:=by
 have one:∀ty ,(QL ty != QL _)=true->ks.all (λk=>fW k==ty)=true->Q _ s->wh prog w A _ Q E s:=λty d a b=>
  PySem.W.kas_kind  i (λv e=>by
   obtain⟨k,hk,x⟩:=h.mem v e;have:=eq_of_beq (N6.mp a k hk);show this▸wj x) d (by simp) b
 have tup:∀ty ,ks.all (λk=>(bA k).any λf=>fW f==ty)=true->Q _ s->wh prog w A _ Q E s:=λty a b=>by
  obtain⟨l,g,m,j⟩:=oJ h a;show PySem.W.kat_kind  g ∅ (λv e=>by
   obtain⟨k,hk,x⟩:=j v e;have:=eq_of_beq hk;show this▸wj x) (by simp) b
 unfold DW at hc;split at hc
 ·cases hc;show one "int" #v[] (by assumption) b
 ·split at hc
  ·cases hc;show one "str" #v[] (by assumption) b
  ·split at hc
   ·cases hc;show tup "int" (by assumption) b
   ·split at hc
    ·cases hc;show tup "str" (by assumption) b
    ·split at hc
     ·cases hc;show tup "tuple" (by assumption) b
     ·cases hc
def rV (o:A.units+d<cLine):∀ xs h us vs i k,T.depths xs<=d->T.depths h<=d->IsTs s.heap xs us->IsTs s.heap h vs->di xs h=ba k->
  (b=true->i=0->∀x y,xs.head?=ba x->h.head?=ba y->(fW x="int"/\fW y="int")\/(fW x="str"/\fW y="str"))->Q k s->PySem.W.KatLex prog w A b (decide (↥us<↥vs)) Q (us.zip vs) i s
 |[],[],_,_,i,k,_,_,f,g,e,m,a=>by cases f;cases g;cases e;show Ug (by simpa using a)
 |[],y::h,_,_,i,k,_,_,f,g,e,m,a=>by cases f;cases g;cases e;show Ug (by simpa using a)
 |x::xs,[],_,_,i,k,_,_,f,g,e,m,a=>by cases f;cases g;cases e;show Ug (by simpa using a)
 |x::xs,y::h,_,_,i,k,r,t,f,g,e,m,a=>by
  simp only[T.depths]at r t;cases f with
  |@cons _ u _ us n D=>
   cases g with
   |@cons _ v _ vs p2 E=>
    have B:=yh d x y _ _ A s ∅ n p2 o ∅
    show PySem.W.kat_cons (B _ w _ _ ?_);simp only[di]at e;have l:decide ((u::us).length<(v::vs).length)=decide (↥us<↥vs):=by simp
    rw[l]
    by_cases c:x=y
    ·rw[Ob c]at e;rw[OS c];show PySem.W.kat_yes (rV o xs h us vs _ k ∅ ∅ D E e (λ_ z=>absurd z (Nat.succ_ne_zero _)) a)
    ·rw[Ot c]at e;rw[Oy c];show PySem.W.kat_no ?_
     by_cases j:b=true/\i=0
     ·obtain⟨rfl,rfl⟩:=j;rcases m rfl rfl x y rfl rfl with⟨p,q⟩|⟨p,q⟩
      ·cases n with
       |int=>cases p2 with
        |int=>cases e;show oneLt_int a
        |_=>show absurd q (by simp[fW])
       |_=>show absurd p (by simp[fW])
      ·cases n with
       |str=>cases p2 with
        |str=>cases e;show oneLt_str a
        |_=>show absurd q (by simp[fW])
       |_=>show absurd p (by simp[fW])
     ·have C:(b&&i==0)=false:=by
       cases b with
       |false=>rfl
       |true=>
        have:=λz=>j #[rfl,z]
        simpa using this
      rw[C];show PySem.W.kat_one _ _ ((Ki d x y _ _ A s k ∅ ∅ n p2 o e) _ w _ _ a)
def DX (W:A.units+d<cLine)(P:x.depth<=d)(R:y.depth<=d)(m:IsT s.heap x u)(r:IsT s.heap y v)(e:ie x y=ba k)
  (hc:Nd c x y)
  (H:Q k s):wh prog w A (keyLt' (Ae c) u v) Q E s:=by
 have tup:∀b:Oh,(∃f g,bA x=ba f/\bA y=ba g/\(b=true->(fW f="int"/\fW g="int")\/(fW f="str"/\fW g="str")))->wh prog w A (keyLt' (tuples' b) u v) Q E s:=by
  rintro b ⟨f,g,D,G,V⟩;cases m with
  |int=>cases D
  |str=>cases D
  |@tup xs a o items n N c1 S X=>
   cases r with
   |int=>cases G
   |str=>cases G
   |@tup L Z o' l n' O c2 U Y=>
    simp only[T.depth]at P R;show PySem.W.kat_lt N S O U ?_;have:=rV (prog:=prog) (w:=w) (b:=b)  W xs L _ _ 0 k ∅ ∅ X Y e (λC _ p q M j=>by
     cases xs with
     |nil=>cases M
     |cons x0 xs=>cases L with
      |nil=>cases j
      |cons y0 L=>cases M;cases j;cases D;cases G;show V C) H
    simpa using this
 match c,hc with
 |0,#[I,J]=>
  cases m with
  |int=>cases r with
   |int=>cases e;show PySem.W.kat_lt_int H
   |_=>show absurd J (by simp[fW])
  |_=>show absurd I (by simp[fW])
 |1,#[I,J]=>
  cases m with
  |str=>cases r with
   |str=>cases e;show PySem.W.kas_lt_str H
   |_=>show absurd J (by simp[fW])
  |_=>show absurd I (by simp[fW])
 |2,#[f,g,h,i,t,B]=>show tup _ #[f,g,h,i,λ_=>.inl #[t,B]]
 |3,#[f,g,h,i,t,B]=>show tup _ #[f,g,h,i,λ_=>.inr #[t,B]]
 |n+4,#[f,g,h,i]=>show tup _ #[f,g,h,i,λz=>nomatch z]
end
def DY (h:DW ks=ba c)(j:x∈ks)(l:y∈ks) :
  Nd c x y:=by
 have one:∀{ty:Pn},ks.all (λk=>fW k==ty)=true->fW x=ty/\fW y=ty:=λd=>#[eq_of_beq (N6.mp d x j),eq_of_beq (N6.mp d y l)]
 have fst:∀{ty:Pn},ks.all (λk=>(bA k).any λf=>fW f==ty)=true->∃f g,bA x=ba f/\bA y=ba g/\fW f=ty/\fW g=ty:=λ{ty} d=>by
  have a:=N6.mp d x j;have b:=N6.mp d y l;cases e:bA x with
  |none=>rw[e]at a;cases a
  |some f=>
   cases i:bA y with
   |none=>rw[i]at b;cases b
   |some g=>
    rw[e]at a;rw[i]at b
    show#[f,g,rfl,rfl,eq_of_beq (by simpa using a),eq_of_beq (by simpa using b)]
 unfold DW at h;split at h
 ·cases h;show one (by assumption)
 ·split at h
  ·cases h;show one (by assumption)
  ·split at h
   ·cases h;show fst (by assumption)
   ·split at h
    ·cases h;show fst (by assumption)
    ·split at h
     ·cases h;obtain⟨f,g,a,b,_⟩:=fst (by assumption)
      show#[f,g,a,b]
     ·cases h
abbrev fM (S:aa):W->NJ (Ny W)
 |.tup xs=>ba xs
 |.ref i=>match ec S i with
  |some xs=>ba xs
  |none=>(fL S i).map λU=>U.map λp=>p.1.w
 |_=>dx
abbrev eQ:NF:=8
abbrev qc (ks:Ny T):Oh:=decide (↥ks<64)&&decide (T.depths ks<=eQ)&&(decide (↥ks<2)||((DW ks).isSome&&fw ks))
abbrev i6 (xs:Ny W)(S:aa):NJ (W×aa):=match xs with
 |[x]=>match fM S x with
  |some ws=>match W.ts ws with
   |some ks=>if qc ks then ba (.ref ↥S,S++[.lst (fu (zm ks) .non ws)])else dx
   |none=>dx
  |none=>dx
 |_=>dx
abbrev i7 (xs:Ny W)(S:aa):NJ (W×aa):=match xs with
 |[.ref i]=>match fL S i with
  |some U=>ba (.ref ↥S,S++[.lst (U.map λp=>p.1.w)])
  |none=>fU [.ref i] S
 |xs=>fU xs S
abbrev kX (xs:Ny W)(S:aa):NJ (W×aa):=match xs with
 |[.ref i]=>match fL S i with
  |some U=>ba (.int ↥U,S)
  |none=>yd [.ref i] S
 |xs=>yd xs S
abbrev iE (ks:Ny T):NF:=argBest (zm ks) (↥ks-1)
abbrev Ag (xs:Ny W)(S:aa):NJ (W×aa):=match xs with
 |[.ref i]=>match ec S i with
  |some ws=>match W.ts ws with
   |some ks=>if T.depths ks<=eQ/\fw ks=true then(ws[iE ks]?).map λw=>(w,S)else dx
   |none=>dx
  |none=>dx
 |_=>dx
abbrev iF:Ny W->NJ (Ny Oh)
 |[]=>ba []
 |.bl b::ws=>(iF ws).map (b :: ·)
 |_::_=>dx
abbrev DZ (xs:Ny W)(S:aa):NJ (W×aa):=match xs with
 |[.ref i]=>match ec S i with
  |some ws=>(iF ws).map λbs=>(.bl (bs.all id),S)
  |none=>dx
 |_=>dx
section
variable{A:Ny NR}
def RelL.pick {K:NY}(r:RelL K A H ws vs)(d:W)(d':V):∀(is:Ny NF),(∀i∈is,i<↥ws)->RelL K A H (is.map λi=>ws.getD i d) (is.map λi=>vs.getD i d')
 |[],_=>.nil
 |i::is,h=>by
  have hi:=h i (.head _);obtain⟨v,c,e⟩:=r.get (NK hi);show .cons ?_ (RelL.pick r d d' is λj f=>h j (.tail _ f))
  have a:ws.getD i d=ws[i]:=by simp[hi]
  have b:vs.getD i d'=v:=by simp[c]
  change Rel K A H (ws.getD i d) (vs.getD i d');rw[a,b];show e
def Vals.pick (r:Vals vs us)(d:V)(d':NC):∀(is:Ny NF),(∀i∈is,i<↥vs)->Vals (is.map λi=>vs.getD i d) (is.map λi=>us.getD i d')
 |[],_=>.nil
 |i::is,h=>by
  have hi:=h i (.head _);obtain⟨v,c,e⟩:=L2.Vals.get r (NK hi);show .cons ?_ (Vals.pick r d d' is λj f=>h j (.tail _ f))
  have a:vs.getD i d=vs[i]:=by simp[hi]
  have b:us.getD i d'=v:=by simp[c]
  change L2.RelV (vs.getD i d) (us.getD i d');rw[a,b];show e
def qd (a:0<n):∀i∈(rR lt (VT n)).toList,i<n:=λi hi=>NU.mp ((qb  (lB a)).mem_iff.mp hi)
def Ah {K:NY}(r:RelL K A H ws vs):RelL K A H (fu lt .non ws) (fu lt .non vs):=by
 unfold fu;rw[↥r];split
 ·show r
 ·show r.pick _ _ _ λi hi=>by rw[↥r];show qd ∅ i hi
def yn (r:Vals vs us):Vals (fu lt .non vs) (fu lt .none us):=by
 unfold fu;rw[L2.Vals.length r];split
 ·show r
 ·show Vals.pick r _ _ _ λi hi=>by rw[L2.Vals.length r];show qd ∅ i hi
def rW (hl:Ti s.heap l vs.toArray)(hsz:↥vs<=sizeLine)
  (h:∀h' tk,(∀b o,s.heap.get? b=ba o->h'.get? b=ba o)->⇑s.heap.objs<=⇑h'.objs->Q vs (xc s h' tk)):wpAny (model prog w) B (collect (.ref l)) Q E s:=by
 obtain⟨o,c,hc,n,hd⟩:=id hl;unfold collect;show NA (SF (Ph entry_proto_collect' ?_));change wpAny _ _ (do again (.builtin "list.__iadd__" #[[<- newList [],.ref l],[]])) _ _ s
 show NA (UX (NN #[Vc _ (by decide +kernel),Ph entry_list_iadd' ?_]))
 change wpAny _ _ (Sr (.ref ⇑s.heap.objs) (.ref l) (.ref ⇑s.heap.objs)) _ _ {s with heap:=s.heap.push (seqObj "list" #[] 0)}
 unfold Sr;have a:(s.heap.push (seqObj "list" #[] 0)).get? l=ba o:=ND _ c;show NA (QZ (T:="tuple") #[o,a,hc] ?_);have d:(QL "tuple" == QL "tuple")=true:=by rfl
 rw[Ob (by rw[d];simp)]
 show NA (VA a hd ?_);show NA (VA (xs:=#[]) (n:=0) (N2 _ rfl) rfl ?_);rw[Ot (by simp)]
 show NA (Tb (xs:=#[]) (n:=0) (N2 _ rfl) rfl ?_ (Pj _) (by show(#[]++vs.toArray).size<=sizeLine+1;revert Array.size_append N4 PN;omega))
 show NN ?_;change wpAny (model prog w) B (do
   let o <- load ⇑s.heap.objs
   match o.data with
   |.seq xs _=>pure xs.toList
   |_=>unsupported "internal:collect") Q E {s with heap:=(s.heap.push (seqObj "list" #[] 0)).update ⇑s.heap.objs (P1 (· ++ vs.toArray))}
 show NA (U6 (Uf (N2 _ rfl) _) ?_);change wpAny _ _ (pure ((#[]:OU NC)++vs.toArray).toList) Q E _;rw[show((#[]:OU NC)++vs.toArray).toList=vs by simp]
 show NN (h _ s.toks (λb f e=>(RC _ _ _ _ (Oe (N8 e))).trans (ND _ e)) ?_)
 rw[VU,size_push'];show QY _
def DicAt.raw (d:DicAt wd a xs h):∃es b,RawD a es b h/\es.toList=xs.map (zP wd):=
 let ⟨_,_,_,o,es,b,h1,h2,h3,h4⟩:=d;#[es,b,#[o,h1,h2,h3],h4]
def KRel.keysL (r:KRel X.K A H U xs):RelL X.K A H (U.map λp=>p.1.w) (xs.map λq=>V.ref q.2.1):=by
 induction r with
 |nil=>show .nil
 |cons h t ih=>show .cons h.2.2.2.1 ih
def oK (xs:Ny (T×NR×NC)):Vals (xs.map λq=>V.ref q.2.1) (xs.map λq=>O0 q.2.1):=by
 induction xs with
 |nil=>show .nil
 |cons x xs ih=>show .cons rfl ih
def mo {es:OU Qb}{xs:Ny (T×NR×NC)}(f:es.toList=xs.map (zP wd))(d:TQ (λi v=>∃e,es[i]?=ba e/\e.key=v) a ⇑es):a.toList=xs.map λq=>O0 q.2.1:=by
 have hl:⇑es=↥xs:=by rw[<- Ov,f,Nz]
 apply PV
 ·rw[Ov,d.1,Nz,hl]
 ·intro i g c;obtain⟨e,b,h⟩:=d.2 i a[i] (by simp[g])
  rw[<- O6,f,NO]at b;rw[Nz]at c;rw[NK c]at b;simp only[OJ,OI]at b;subst b;rw[Ru,Array.getElem_toList];show h.symm
def yo (N:X.A.handled=dx)(I:Inv X J Y H s)(v:w4 X A H S)(L:Rel X.K A H x a)(q:RelV a u)(e:fM S x=ba ws):∃vs us,RelL X.K A H ws vs/\Vals vs us/\↥us<=sizeLine/\
  ∀ B (j:B.handled=dx) E g,(∀h' tk,(∀b o,s.heap.get? b=ba o->h'.get? b=ba o)->⇑s.heap.objs<=⇑h'.objs->g us (xc s h' tk))->wpAny (model X.prog X.w) B (collect u) g E s:=by
 cases L with
 |tup k n=>
  cases e;obtain⟨c,f,z,i⟩:=I.tuple k;obtain rfl:u=O0 _:=q;show#[_,c,n,f,by rw[<- L2.Vals.length f];show i,λB j E g h=>rW z (by rw[<- L2.Vals.length f];show i) h]
 |ref r=>
  simp only[fM]at e;split at e
  next xs C=>
   cases e;obtain⟨vs,k,n⟩:=bz v C r;obtain⟨c,f,p,i⟩:=I.list k;obtain rfl:u=O0 _:=q;show#[_,c,n,f,by rw[<- L2.Vals.length f];show i,λB j E g h=>collect_list p.isList (h _ s.toks (λb O e=>(RC _ _ _ _ (Oe (N8 e))).trans (ND _ e)) ?_) (by rw[<- L2.Vals.length f];show i)]
   rw[VU,size_push'];show QY _
  ·rw[NB]at e;obtain⟨U,hk,rfl⟩:=e;obtain⟨xs,G,D⟩:=gA v hk r;have d:=cG I G;obtain⟨es,M,raw,t⟩:=d.raw;obtain rfl:u=O0 _:=q;have hl:⇑es=↥xs:=by rw[<- Ov,t,Nz]
   show#[_,_,D.keysL,oK xs,by rw[Nz];show d.1,λB j E g h=>rQ (we d.2.1) j raw (by rw[hl];show d.1) λh' tk w l m y=>?_]
   rw[mo t y];show h h' tk l m
 |_=>cases e
def oM {D:NR}(I:Inv X J Y H s)(g:w4 X A H S)(r:RelL X.K A H ws vs)(f:Vals vs us)(i:↥us<=sizeLine)(hk:∀b o,s.heap.get? b=ba o->h'.get? b=ba o)(d:⇑s.heap.objs<=D)
  (h:h'.get? D=ba (xd us.toArray c)):PostE X J Y A H (S++[.lst ws]) (.ref ↥S) (.ref D) (xc s h' tk):=by
 have e:H D=dx:=I.hok.fresh d;show#[.ref D,_,A++[D],I.laid (a:=D) (o:=.lst vs) (t':=tk) hk d #[by rw[L2.Vals.length f];show i,us,c,f,h],rfl,cg e,g.push e r,.ref ?_]
 rw[<- g.len];simp
def qe (C:X.A.handled=dx)(hu:X.A.units+12<cLine):LCall X (.builtin "sorted") i6:=by
 intro J s Y H A S xs vs us w S' I N rl rv e;cases rl with
 |nil=>cases e
 |cons r t=>
  cases t with
  |cons _ _=>cases e
  |nil=>
   cases rv with
   |cons ru B=>
    cases B;dsimp only[i6]at e;split at e
    ·rename_i ws hw;split at e
     ·rename_i ks hk;split at e
      ·rename_i f;cases e;obtain⟨vs',k,L,q,Z,p⟩:=yo C I N r ru hw
       (dsimp only[qc]at f;simp only[NM,Og]at f)
       obtain⟨⟨T,hd⟩,f⟩:=f;have y:=W.ts_w hk;have x:=gT I ks (y▸L) q;have hl:=x.length.symm;have M:2<=↥k->(DW ks).isSome=true/\fw ks=true:=λn=>by
        rcases PP _ _▸f with h|h
        ·simp only[Og]at h;omega
        ·simpa using h
       show ym  (lt:=zm ks) (κ:=Ae ((DW ks).getD 0)) ∅ (λO v=>p X.A.in1 C _ O v) (λn h' tk a Q u=>?_) (λn h' tk a i j hi E Q u=>?_) λD h' tk c a U V=>?_
       ·obtain⟨z,G⟩:=M n;obtain⟨c,hc⟩:=O3.mp z;rw[hc]at u;show Hx  (x.kept λb o _ e=>a b o e) n hc u
       ·obtain⟨z,G⟩:=M n;obtain⟨c,hc⟩:=O3.mp z;rw[hc];have l:i<↥ks:=∅
        have m:j<↥ks:=∅
        have g:=(x.kept  λb o _ e=>a b o e)
        have P:k.getD i P9=k[i]:=by simp[hi]
        have R:k.getD j P9=k[j]:=by simp[E]
        rw[P,R];have b1:=eg  i l;have b2:=eg  j m;show DX  (d:=eQ)  (by rw[bq,bq];unfold eQ;omega) ∅ ∅ (g.get i l hi) (g.get j m E) (uF G l m) (DY hc (OE l) (OE m)) u
       ·show oM I N (Ah L) (yn q) (by rw[rT];show Z) a U V
      ·cases e
     ·cases e
    ·cases e
def rX (u:X.A.handled=dx):LCall X (.type "list") i7:=by
 intro J s Y H A S xs vs us w m I g k l e
 by_cases hd:∃i U,xs=[.ref i]/\fL S i=ba U
 ·obtain⟨i,U,rfl,hk⟩:=hd
  (dsimp only[i7]at e;simp only[hk]at e)
  cases e;cases k with
  |cons r t=>
   cases t;cases l with
   |cons y f=>
    cases f;cases r with
    |ref o=>
     obtain⟨xs,x,v⟩:=gA g hk o;have d:=cG I x;obtain⟨es,z,raw,j⟩:=d.raw;obtain rfl:_=O0 _:=y;have hl:⇑es=↥xs:=by rw[<- Ov,j,Nz]
     show PySem.W.kdl_call (we d.2.1) u raw (by rw[hl];show d.1) λh' tk h n b p q=>?_
     have a:=mo j q;show oM  I g v.keysL (a▸oK xs) (by rw[a,Nz];show d.1) b (NP _) (c:=n) ?_
     simpa using p
 ·have:i7 xs S=fU xs S:=by
   unfold i7;split
   next i=>
    split
    next U hk=>show absurd #[i,U,rfl,hk] hd
    ·rfl
   ·rfl
  rw[this]at e;show iD _ s Y H A S xs vs us w m I g k l e
end
open PySem.W (KasT kas_sort kas_asc kas_desc kas_tail3 kas_descPart kas_count kas_place kas_bin kas_rev)
abbrev gt (p:OU NF)(i:NF):NF:=p.getD i 0
mutual
theorem uG:∀x y:T,l8 x=true->ie x y=ba true->ie y x=ba false
 |.int a,.int b,_,h=>by
  dsimp only[ie]at h;simp only[OI,Og]at h
  delta ie;revert OI Ts
  omega
 |.str _,_,h,_=>by cases h
 |.tup xs,.tup ys,hn,h=>qf xs ys hn h
 |.int _,.str _,_,h|.int _,.tup _,_,h|.tup _,.int _,_,h|.tup _,.str _,_,h=>by cases h
theorem qf:∀xs ys:Ny T,eO xs=true->di xs ys=ba true->di ys xs=ba false
 |[],[],_,h=>by cases h
 |[],_::_,_,_=>rfl
 |_::_,[],_,h=>by cases h
 |x::xs,y::ys,hn,h=>by
  simp only[eO,NM]at hn;dsimp only[di]at h ⊢
  by_cases e:x=y
  ·rw[Ob e]at h;rw[Ob e.symm];show qf xs ys hn.2 h
  ·rw[Ot e]at h;rw[Ot (Ne.symm e)];show uG x y hn.1 h
end
mutual
theorem uH:∀x y:T,l8 x=true->x≠y->ie y x=ba false->ie x y=ba true
 |.int a,.int b,_,hne,h=>by
  dsimp only[ie]at h;simp only[OI,Ts]at h
  delta ie;revert OI Og
  have:a≠b:=λe=>hne (e▸rfl)
  omega
 |.str _,_,h,_,_=>by cases h
 |.tup xs,.tup ys,hn,hne,h=>wn xs ys hn (λe=>hne (e▸rfl)) h
 |.int _,.str _,_,_,h|.int _,.tup _,_,_,h|.tup _,.int _,_,_,h|.tup _,.str _,_,_,h=>by cases h
theorem wn:∀xs ys:Ny T,eO xs=true->xs≠ys->di ys xs=ba false->di xs ys=ba true
 |[],[],_,h,_=>absurd rfl h
 |[],_::_,_,_,_=>rfl
 |_::_,[],_,_,h=>by cases h
 |x::xs,y::ys,hn,hne,h=>by
  simp only[eO,NM]at hn;dsimp only[di]at h ⊢
  by_cases e:x=y
  ·rw[Ob e.symm]at h;rw[Ob e];show wn xs ys hn.2 (λz=>hne (by rw[e,z])) h
  ·rw[Ot (Ne.symm e)]at h;rw[Ot e];show uH x y hn.1 e h
end
mutual
theorem Ai:∀x y z:T,l8 x=true->l8 y=true->ie x y=ba true->ie y z=ba true->ie x z=ba true
 |.int a,.int b,.int c,_,_,h,h'=>by
  dsimp only[ie]at h h' ⊢;simp only[OI,Og]at h h' ⊢
  omega
 |.tup xs,.tup ys,.tup zs,hn,hn',h,h'=>wo xs ys zs hn hn' h h'
 |.str _,_,_,h,_,_,_=>by cases h
 |.int _,.str _,_,_,_,h,_|.int _,.tup _,_,_,_,h,_|.tup _,.int _,_,_,_,h,_|.tup _,.str _,_,_,_,h,_=>by cases h
 |.int _,.int _,.str _,_,_,_,h|.int _,.int _,.tup _,_,_,_,h|.tup _,.tup _,.int _,_,_,_,h|.tup _,.tup _,.str _,_,_,_,h=>by cases h
theorem wo:∀xs ys zs:Ny T,eO xs=true->eO ys=true->di xs ys=ba true->di ys zs=ba true->di xs zs=ba true
 |[],[],_,_,_,h,_=>by cases h
 |_::_,[],_,_,_,h,_=>by cases h
 |_,_::_,[],_,_,_,h=>by cases h
 |[],_::_,_::_,_,_,_,_=>rfl
 |x::xs,y::ys,z::zs,hn,hn',h,h'=>by
  simp only[eO,NM]at hn hn';dsimp only[di]at h h' ⊢
  by_cases e:x=y
  ·subst e;rw[Ob rfl]at h
   by_cases e':x=z
   ·rw[Ob e']at h' ⊢;show wo xs ys zs hn.2 hn'.2 h h'
   ·rw[Ot e']at h' ⊢;show h'
  ·rw[Ot e]at h
   by_cases e':y=z
   ·subst e';rw[Ot e];show h
   ·rw[Ot e']at h';have t:=Ai x y z hn.1 hn'.1 h h';have e2:x≠z:=λe2=>by
     subst e2;have:=uG x x hn.1 t;rw[t]at this;cases this
    rw[Ot e2];show t
end
def Aj :(fu lt d xs).Perm xs:=by
 unfold fu;split
 ·show .refl _
 ·have p:Pm _ (rR lt (VT ↥xs)):=qb (lB ∅)
  show(Ye _ p).trans ?_;have:(NQ ↥xs).map (λi=>xs.getD i d)=xs:=by
   apply PV
   ·simp
   ·intro k b a;simp[a]
  rw[this]
abbrev jK (xs:Ny W)(S:aa):NJ (W×aa):=match xs with
 |[.ref i]=>match re S i with
  |some (lo,hi)=>if -(2^62)<=lo/\lo<2^62/\-(2^62)<=hi/\hi<2^62/\(hi-lo).toNat<=sizeLine then ba (.tup (Hu lo (hi-lo).toNat),S)else dx
  |none=>jG [.ref i] S
 |xs=>jG xs S
section
variable{w:OF}{E:NC->NH->Prop}
def nY {n:NF}(C:A.handled=dx)(x:XW s.heap r a b c t u v)(k:Sn a b c=true)
  (D:PR a b c=n) (q:n<=2^24)
  (z:∀h' tk d,(∀b o,s.heap.get? b=ba o->h'.get? b=ba o)->⇑s.heap.objs<=⇑h'.objs->TQ (λi v=>∃t,v=.int (a+i*c) t) d n->Q d.toList (xc s h' tk)):wh prog w A (collect (.ref r)) Q E s:=by
 show NA (SF (Ph F.entry_proto_collect ?_));rw[Qj F.plain_proto_collect _];show NA (OQ ?_);show NN #[Qg F.plain_list_iadd _,Ph F.entry_list_iadd ?_];rw[Qj F.plain_list_iadd _];have B:(s.heap.push _).get? _=ba {cls:=.type "list",data:=.seq #[] 0}:=N2 _ rfl;have l:∀s',(∃h' tk d m,s'=(xc s h' tk)/\(∀b o,s.heap.get? b=ba o->h'.get? b=ba o)/\h'.get? ⇑s.heap.objs=ba {cls:=.type "list",dict:=dx,data:=.seq d m,slots:=#[]}/\TQ (λi v=>∃t,v=.int (a+i*c) t) d n)->wh prog w A (do
   let o <- load ⇑s.heap.objs
   match o.data with
   |.seq xs _=>pure xs.toList
   |_=>unsupported "internal:collect") Q E s':=by
  rintro s' ⟨h',tk,d,m,rfl,hk,j,g⟩;show NA (U6 j (NN (z h' tk d hk (QE (N8 j)) g)))
 show PK (wpAny_extend_range   (R:=λr s'=>r=.ok (.ret (.ref ⇑s.heap.objs))/\∃h' tk d m,s'=(xc s h' tk)/\(∀b o,s.heap.get? b=ba o->h'.get? b=ba o)/\h'.get? ⇑s.heap.objs=ba {cls:=.type "list",dict:=dx,data:=.seq d m,slots:=#[]}/\TQ (λi v=>∃t,v=.int (a+i*c) t) d n) C (ND _ x) k D q _ _ 0 B λh' tk p m hk j g=>#[rfl,h',tk,p,m,rfl,λb o e=>hk b o (Oe (N8 e)) (ND _ e),j,g]) (λfin s' h=>?_) (λe s' h=>?_)
 ·cases fin with
  |done f=>
   obtain⟨e,h⟩:=h;cases e;show l s' h
  |again m=>show#[h.1,RZ h.2 λr y x=>by obtain⟨rfl,x⟩:=x;show l y x]
 ·show absurd h.1 (by simp)
def jL {n:NF}(q:A.handled=dx)(z:XW s.heap r a b c t u v)(f:Sn a b c=true)
  (y:PR a b c=n) (j:n<=2^24)
  (h:∀(h':OM) tk d,(∀b o,s.heap.get? b=ba o->h'.get? b=ba o)->⇑s.heap.objs<=⇑h'.objs->TQ (λi v=>∃t,v=.int (a+i*c) t) d n->Q₁ (.ref ⇑h'.objs) {s with heap:=h'.push {cls:=.type "tuple",data:=.seq d},toks:=tk}) :
  codeAny (model prog w) A (.call (.builtin "tuple.__new__") #[[.type "tuple",.ref r],[]]) (wants Q₁ E) s:=by
 show Uc ?_;show NA (SW (F.newCall_tuple_1 _) (NN #[Qg F.plain_tuple_new _,Ph F.entry_tuple_new ?_]));rw[Qj F.plain_tuple_new _];have p:=PySem.sub_tuple_self;have l:=PySem.init_tuple_lookup;have x:=PySem.madeHere_tuple;have k:A.in1.handled=dx:=by simp[q]
 wp_walk using QZ hTI,nY  k z f y j
 intro h' tk d hk m g;change wpAny _ _ (Tc d.toList.toArray >>= λv=>ret v) _ _ _
 unfold Tc;show NA (OQ ?_ (by change ⇑d.toList.toArray<=sizeLine;revert Array.toArray_toList;rw[g.1,O4];omega))
 show NN ?_;have e:d.toList.toArray=d:=by rfl
 rw[e];show h h' tk d hk m g
def jM {n:NF}(m:A.handled=dx)(q:XW s.heap r a b c t u v)(g:Sn a b c=true)
  (p:PR a b c=n) (j:n<=2^24)
  (l:∀(h':OM) tk f,(∀b o,s.heap.get? b=ba o->h'.get? b=ba o)->⇑s.heap.objs<=⇑h'.objs->TQ (λi v=>∃t,v=.int (a+i*c) t) f n->Q (.ref ⇑h'.objs) {s with heap:=h'.push {cls:=.type "tuple",data:=.seq f},toks:=tk}) :
  wh prog w A (call (.type "tuple") [.ref r]) Q E s:=by
 show WC (Q₁:=λobj e=>e.TypeIs obj _/\Q obj e) F.called_tuple (F.typeCall_tuple_1 _) F.entry_object_init
  (jL (by simp[m]) q g p j λh' tk f hk k h=>#[#[_,N2 _ rfl,rfl],l h' tk f hk k h]) λobj e d=>?_
 show#[d.1,F.args_object_init_2 obj _,object_init_meets F.called_tuple.init.lookup F.called_tuple.made #v[] _ w _ _ _ #[d.1,rfl,d.2]]
end
section
variable{A:Ny NR}
def qh (E:X.A.handled=dx):LCall X (.type "tuple") jK:=by
 intro J s Y H A S xs vs us w p I l m n e;unfold jK at e;split at e
 next i=>
  split at e
  next lo hi j=>
   split at e
   next D=>
    cases e;obtain⟨a,B,rfl⟩:=fK (xs:=[]) m n;obtain⟨r,b2,x,y,q⟩:=D;have C:H a=ba (.rng lo hi):=by
     unfold re at j;split at j
     next N=>cases j;show l.obj i _ a N B
     ·cases j
    obtain⟨t,u,v,L⟩:=I.hok a _ C;have G:PR lo hi 1=((hi-lo).toNat):=by rw[UR];split<;>omega
    show jM E L (WX r b2 x y) G q λh' tk d hk f c=>?_
    have M:Vals ((NQ (hi-lo).toNat).map λ(k:NF)=>V.int (lo+k)) d.toList:=by
     show p4 (by rw[Nz,N7,Ov,c.1]) λi v u h z=>?_
     rw[NO,NB]at h;obtain⟨k,h,rfl⟩:=h;obtain⟨hk,rfl⟩:=NZ.mp h;obtain⟨t,rfl⟩:=c.2 i u (by rw[<- O6];show z)
     show#[t,by simp]
    have g:=I.hok.fresh f;show#[.ref _,_,A,I.laid  (o:=.tup _)  (λb o e=>ND _ (hk b o e)) f #[#[by simpa using q,NoD.new _ _ _],d.toList,M,?_],rfl,cF (.inl g),l.lay g,.tup (.inl (.inl aL)) (p7 _)]
    show#[_,N2 _ rfl,rfl,0,by rfl]
   ·cases e
  ·show kq _ s Y H A S _ vs us w p I l m n e
 ·show kq _ s Y H A S _ vs us w p I l m n e
def yp (L:X.A.handled=dx)(hu:X.A.units+12<cLine):LCall X (.builtin "min") Ag:=by
 intro J s Y H A S xs vs us w S' I C U Z e;cases U with
 |nil=>cases e
 |cons r t=>
  cases t with
  |cons _ _=>cases r<;>cases e
  |nil=>
   cases Z with
   |cons V u=>
    cases u;cases r with
    |ref D=>
     dsimp only[Ag]at e;split at e
     ·rename_i ws hw;split at e
      ·rename_i ks hk;split at e
       ·rename_i hc;rw[NB]at e;obtain⟨w',k,l⟩:=e;cases l;obtain⟨vs',G,q⟩:=bz C hw D;obtain⟨a,h,p,hz⟩:=I.list G;obtain rfl:_=O0 _:=V;have n:=W.ts_w hk;have x:=gT I ks (n▸q) h;have hl:=x.length.symm;have M:↥ws=↥ks:=by rw[↥q,L2.Vals.length h,hl]
        have N:0<↥ks:=by
         have:=(NZ.mp k).1;omega
        show Ab  (bt:=zm ks) L p.isList (by simpa [hl]using N) (λi j vi vj s' Q E f hi y O=>?_) λv h' tk z f=>?_
        ·have c:i<↥ks:=by
          have:=(Qu.mp hi).1
          simpa [hl]using this
         have d:j<↥ks:=by
          have:=(Qu.mp y).1
          simpa [hl]using this
         have g:=x.kept  λb o _ e=>f b o e
         have k:vi=a[i]'∅:=by
          have:=(Qu.mp hi).2
          simpa using this.symm
         have l:vj=a[j]'∅:=by
          have:=(Qu.mp y).2
          simpa using this.symm
         subst k l;have b1:=eg  i c;have b2:=eg  j d;show Ki eQ _ _ _ _ _ s' _ ∅ ∅ (g.get i c ∅) (g.get j d ∅) (by rw[bq];unfold eQ;omega) (uF hc.2 c d) _ X.w _ _ O
        ·have m:a[iE ks]?=ba v:=by
          have:⇑a.toArray=↥ks:=by simpa using hl
          rw[this]at z
          simpa [iE]using z
         obtain⟨v',P,R⟩:=q.get k;obtain⟨u',B,T⟩:=L2.Vals.get h P;rw[m]at B;cases B;show#[v',H,A,I.kept f,T,.refl,C,R]
       ·cases e
      ·cases e
     ·cases e
    |_=>cases e
def oN:∀{ws:Ny W}{bs:Ny Oh},iF ws=ba bs->ws=bs.map W.bl
 |[],bs,h=>by cases h;rfl
 |.bl b::ws,bs,h=>by
  (dsimp only[iF]at h;simp only[NB]at h)
  obtain⟨r,a,c⟩:=h;subst c;rw[oN a];rfl
 |.non::_,_,h|.int _::_,_,h|.str _::_,_,h|.tup _::_,_,h|.ref _::_,_,h=>by cases h
def uI {bs:Ny Oh}(r:RelL X.K A H (bs.map W.bl) vs)(a:Vals vs us):us=bs.map Sc:=by
 induction bs generalizing vs us with
 |nil=>cases r;cases a;rfl
 |cons b bs ih=>
  cases r with
  |cons c d=>
   cases a with
   |cons e f=>
    cases c;obtain rfl:_=Sc b:=e;rw[ih d f];rfl
def yq (bs:Ny Oh):(NQ ↥bs).all (λi=>bs.getD i false)=bs.all id:=by
 induction bs with
 |nil=>rfl
 |cons b bs ih=>simp[TM,SY]at ih ⊢;rw[ih]
def Hy {id:Pn}{B:Ny Oh->Oh}(T:∀xs S,g xs S=match xs with|[.ref i]=>(match ec S i with|some ws=>(iF ws).map λbs=>(.bl (B bs),S)|none=>dx)|_=>dx)
  (f:∀{s:NH}{x:NC}{Q:NC->NH->Prop}{E:NC->NH->Prop}{bs:Ny Oh},wpAny (model X.prog X.w) X.A.in1 (pyIter x) (λit a=>∃I O wr P u,it=.ref I/\Yb X.prog X.w X.A.in1 I O wr ↥bs P u/\u 0 a.heap/\TruthOf X.prog X.w X.A.in1 P (λi=>bs.getD i false)/\
   ∀h' tk,(∀b o,b∉wr->a.heap.get? b=ba o->h'.get? b=ba o)->Q (.bool (B bs)) {a with heap:=h',toks:=tk}) E s->wi X (call (.builtin id) [x]) Q E s)
  (U:X.A.handled=dx):LCall X (.builtin id) g:=by
 intro J s Y H A S xs vs us w S' I D V rv e;rw[T]at e;cases V with
 |nil=>cases e
 |cons r t=>
  cases t with
  |cons _ _=>cases r<;>cases e
  |nil=>
   cases rv with
   |cons Z n=>
    cases n;cases r with
    |@ref ri y M=>
     simp only at e;split at e
     ·rename_i ws hw;rw[NB]at e;obtain⟨bs,G,L⟩:=e;cases L;obtain⟨vs',R,C⟩:=bz D hw M;obtain⟨h,m,p,hz⟩:=I.list R;obtain rfl:_=O0 _:=Z;rw[oN G]at C;have c:=uI C m;show f (bs:=bs) ?_;show QI p.isList ?_;have k:y<⇑s.heap.objs:=by obtain⟨_,l,_⟩:=p.isList;show N8 l
      have W:=XN (prog:=X.prog) (w:=X.w) (A:=X.A.in1) U _ y (Oe k) h.toArray;have hsz:⇑h.toArray=↥bs:=by rw[N4,c,Nz]
      rw[hsz]at W;show#[_,_,_,_,_,rfl,W,#[#[_,N2 _ rfl,rfl,rfl],?_],λi v s' Q E hi j=>?_,λh' tk hk=>?_]
      ·obtain⟨o,l,hc⟩:=p.isList;show#[o,ND _ l,hc]
      ·have d:bs[i]?.map Sc=ba v:=by rw[<- NO,<- c];simpa using hi
       cases q:bs[i]? with
       |none=>rw[q]at d;cases d
       |some b=>
        rw[q]at d;cases d;have N:bs.getD i false=b:=by simp[q]
        have j:Q (bs.getD i _) s':=j;rw[N]at j;show Pu j
      ·show#[.bl _,H,A,I.kept (λb o e=>hk b o (λz=>?_) (ND _ e)),rfl,.refl,D,.bl]
       have d:=N8 e;rw[NT.mp z]at d;show Pf _ d
     ·cases e
    |_=>cases e
def yr (i:X.A.handled=dx):LCall X (.builtin "all") DZ:=
 Hy  (λxs S=>rfl) (λ{s x Q E bs} h=>call_all_walk (PK h (λit g #[I,fp,wr,P,St',a,b,c,d,f]=>#[I,fp,wr,_,P,St',_,a,b,c,d,λh' tk hk=>by rw[yq];show f h' tk hk]) λ_ _ e=>e)) i
end
abbrev Ak (xs:Ny W)(S:aa):NJ (W×aa):=match xs with
 |[.int i,.int j]=>ba (.int (if j<i then j else i),S)
 |_=>dx
def uJ (hc:X.calm=true):LCall X (.builtin "min") Ak:=by
 intro J s Y H A S xs vs us w k I h f g e;unfold Ak at e;split at e
 next i j=>
  cases e;cases f with
  |cons a b=>cases b with
   |cons c d=>
    cases d;cases a;cases c
    show CallR.go (xV hc) I g #[i,j,rfl,.here h .int]
 ·cases e
noncomputable abbrev FA:=Fm->aa->NJ (Ny W×aa)
noncomputable abbrev FT:=Fm->aa->NJ (Oh×aa)
inductive Out where
 |nx (Z:Fm)|rt (w:W)|bk (Z:Fm)|ct (Z:Fm)
noncomputable abbrev FS:=Fm->aa->NJ (Out×aa)
section
variable (X:Cx)
inductive tE (f:FE)(Y:L2.St)(H:Hp)(Q:VK):Prop
 |mk (A:Ny NR) (Z:Fm) (S:aa) (w:W) (S':aa) (er:EnvRel X.K A H Z Y) (so:w4 X A H S) (e:f Z S=ba (w,S')) (q:∀v H',xa X A H S' w v H'->Q v H'):tE f Y H Q
abbrev EndB (A:Ny NR)(H:Hp)(d:aa)(k:Oh):Oh->Hp->Prop:=λb c=>b=k/\∃a,Ext X.K A H a c/\w4 X a c d
inductive tT (f:FT)(Y:L2.St)(H:Hp)(Q:Oh->Hp->Prop):Prop
 |mk (A:Ny NR) (Z:Fm) (S:aa) (k:Oh) (S':aa) (er:EnvRel X.K A H Z Y) (so:w4 X A H S) (e:f Z S=ba (k,S')) (q:∀b H',EndB X A H S' k b H'->Q b H'):tT f Y H Q
inductive EndA (A:Ny NR)(H:Hp)(S':aa)(ws:Ny W)(vs:Ny V)(H':Hp):Prop
 |mk (A':Ny NR) (e:Ext X.K A H A' H') (so:w4 X A' H' S') (r:RelL X.K A' H' ws vs):EndA A H S' ws vs H'
inductive tA (f:FA)(Y:L2.St)(H:Hp)(Q:Ny V->Hp->Prop):Prop
 |mk (A:Ny NR) (Z:Fm) (S:aa) (ws:Ny W) (S':aa) (er:EnvRel X.K A H Z Y) (so:w4 X A H S) (e:f Z S=ba (ws,S')) (q:∀vs H',EndA X A H S' ws vs H'->Q vs H'):tA f Y H Q
inductive EndF (A:Ny NR)(H:Hp)(o:Out)(S':aa)(c:Fm->Out)(Y':L2.St)(H':Hp):Prop
 |mk (Z':Fm) (A':Ny NR) (eo:o=c Z') (e:Ext X.K A H A' H') (so:w4 X A' H' S') (er:EnvRel X.K A' H' Z' Y'):EndF A H o S' c Y' H'
inductive EndR (A:Ny NR)(H:Hp)(o:Out)(S':aa)(v:V)(H':Hp):Prop
 |mk (w:W) (A':Ny NR) (eo:o=.rt w) (e:Ext X.K A H A' H') (so:w4 X A' H' S') (r:Rel X.K A' H' w v):EndR A H o S' v H'
abbrev EndS (A:Ny NR)(H:Hp)(o:Out)(a:aa):Ends where
 nx:=EndF X A H o a .nx
 rt:=EndR X A H o a
 bk:=EndF X A H o a .bk
 ct:=EndF X A H o a .ct
structure Imp (E D:Ends):Prop where
 nx:∀Y H,E.nx Y H->D.nx Y H
 rt:∀v H,E.rt v H->D.rt v H
 bk:∀Y H,E.bk Y H->D.bk Y H
 ct:∀Y H,E.ct Y H->D.ct Y H
inductive tS (f:FS)(D:Ends)(Y:L2.St)(H:Hp):Prop
 |mk (A:Ny NR) (Z:Fm) (S:aa) (o:Out) (S':aa) (er:EnvRel X.K A H Z Y) (so:w4 X A H S) (e:f Z S=ba (o,S')) (d:Imp (EndS X A H o S') D):tS f D Y H
noncomputable abbrev GE (e:Oi)(f:FE):Prop:=PE X e (tE X f)
noncomputable abbrev GT (e:Oi)(f:FT):Prop:=PT X e (tT X f)
noncomputable abbrev GW (e:Oi)(f:FT):Prop:=PW X e (tT X f)
noncomputable abbrev GA (es:Ny Oi)(f:FA):Prop:=PA X es (tA X f)
noncomputable abbrev GS (st:QG)(f:FS):Prop:=PS X st (tS X f)
noncomputable abbrev GSs (sts:Ny QG)(f:FS):Prop:=PSs X sts (tS X f)
end
def Imp.trans (a:Imp E D)(b:Imp D F):Imp E F:=#[λ_ _ h=>b.nx _ _ (a.nx _ _ h),λ_ _ h=>b.rt _ _ (a.rt _ _ h),λ_ _ h=>b.bk _ _ (a.bk _ _ h),λ_ _ h=>b.ct _ _ (a.ct _ _ h)]
def GE.of (h:PE X e t)(b:∀ Y H A Z S w S',EnvRel X.K A H Z Y->w4 X A H S->f Z S=ba (w,S')->∀Q:VK,(∀v a,xa X A H S' w v a->Q v a)->t Y H Q):GE X e f:=
 λJ s Y H Q I #[A,Z,S,w,S',er,so,e1,hq]=>h J s Y H Q I (b Y H A Z S w S' er so e1 Q hq)
def GT.of (h:PT X e t)(c:∀ Y H A Z S k S',EnvRel X.K A H Z Y->w4 X A H S->f Z S=ba (k,S')->∀Q:Oh->Hp->Prop,(∀b a,EndB X A H S' k b a->Q b a)->t Y H Q):GT X e f:=
 λJ s Y H Q I #[A,Z,S,w,S',er,so,e1,hq]=>h _ s Y H Q I (c Y H A Z S w S' er so e1 Q hq)
def GW.of (h:PW X e t)(c:∀ Y H A Z S k S',EnvRel X.K A H Z Y->w4 X A H S->f Z S=ba (k,S')->∀Q:Oh->Hp->Prop,(∀b a,EndB X A H S' k b a->Q b a)->t Y H Q):GW X e f:=
 λd J s Y H Q I #[A,Z,S,w,S',er,so,e1,hq]=>h d _ s Y H Q I (c Y H A Z S w S' er so e1 Q hq)
def GA.of (h:PA X es t)(b:∀ Y H A Z S ws S',EnvRel X.K A H Z Y->w4 X A H S->f Z S=ba (ws,S')->∀Q:Ny V->Hp->Prop,(∀vs a,EndA X A H S' ws vs a->Q vs a)->t Y H Q):GA X es f:=
 λpos J s Y H Q I #[A,Z,S,w,S',er,so,e1,hq]=>h pos _ s Y H Q I (b Y H A Z S w S' er so e1 Q hq)
def GS.of {st:QG}(h:PS X st t)(a:∀ Y H A Z S o S',EnvRel X.K A H Z Y->w4 X A H S->f Z S=ba (o,S')->∀D:Ends,Imp (EndS X A H o S') D->t D Y H):GS X st f:=
 λJ s Y H D I #[A,Z,S,o,S',er,so,e1,hq]=>h _ s Y H D I (a Y H A Z S o S' er so e1 D hq)
def GSs.of {st:Ny QG}(h:PSs X st t)(a:∀ Y H A Z S o S',EnvRel X.K A H Z Y->w4 X A H S->f Z S=ba (o,S')->∀D:Ends,Imp (EndS X A H o S') D->t D Y H):GSs X st f:=
 λJ s Y H D I #[A,Z,S,o,S',er,so,e1,hq]=>h _ s Y H D I (a Y H A Z S o S' er so e1 D hq)
def EndV.after {A :Ny NR}(e:Ext X.K A H a c)(h:xa X a c d w v b):xa X A H d w v b:=by
 obtain⟨f,x,y,z⟩:=h;show#[f,e.trans x,y,z]
def EndB.after {A :Ny NR}(e:Ext X.K A H a d)(h:EndB X a d f k b c):EndB X A H f k b c:=by
 obtain⟨i,g,x,y⟩:=h;show#[i,g,e.trans x,y]
def EndS.after {A :Ny NR}{i:aa}(e:Ext X.K A H g h):Imp (EndS X g h o i) (EndS X A H o i):=
 #[λ_ _ #[f,A',a,b,c,d]=>#[f,A',a,e.trans b,c,d],λ_ _ #[f,A',a,b,c,d]=>#[f,A',a,e.trans b,c,d],λ_ _ #[f,A',a,b,c,d]=>#[f,A',a,e.trans b,c,d],λ_ _ #[f,A',a,b,c,d]=>#[f,A',a,e.trans b,c,d]]
abbrev fC (w:W):FE:=λ_ S=>ba (w,S)
abbrev fV (i:NF):FE:=λZ S=>match Z[i]? with
 |some (ba w)=>ba (w,S)
 |_=>dx
def ql (h:PE X e (tC v))(r:∀A H,Rel X.K A H w v):GE X e (fC w):=
 GE.of h λY H A Z S f c d b e Q a=>by cases e;show a _ _ (.here b (r A H))
def MA (h:PE X e (GN i)):GE X e (fV i):=GE.of h λY H A Z S w g a f e Q d=>by
 unfold fV at e;split at e
 next j hw=>cases e;obtain⟨v,b,c⟩:=a.2 i _ hw;show#[v,b,d _ _ (.here f c)]
 ·cases e
abbrev D0 (g:W->W->aa->NJ (W×aa))(b c:FE):FE:=λZ S=>match b Z S with
 |some (x,S1)=>match c Z S1 with
  |some (y,a)=>g x y a
  |none=>dx
 |none=>dx
def two (e:D0 g b c Z S=ba r):∃x S1 y a,b Z S=ba (x,S1)/\c Z S1=ba (y,a)/\g x y a=ba r:=by
 unfold D0 at e;split at e
 next x S1 d=>
  split at e
  next y a f=>show#[x,S1,y,a,d,f,e]
  ·cases e
 ·cases e
def gB {i :FE}{A:Ny NR}{R:V->V->Hp->Prop}(g:EnvRel X.K A H Z Y)(n:w4 X A H S)(l:i Z S=ba (x,S1))(m:j Z S1=ba (y,e))
  (h:∀a b c d,Ext X.K A H d c->w4 X d c e->Rel X.K d c x a->Rel X.K d c y b->R a b c):tE X i Y H λa f=>tE X j Y f λb c=>R a b c:=by
 show#[A,Z,S,x,S1,g,n,l,λa f #[k,e1,o1,r1]=>?_]
 show#[k,Z,S1,y,e,g.mono e1,o1,m,λb c #[d,e2,o2,r2]=>?_]
 show h a b c d (e1.trans e2) o2 (r1.mono e2) r2
inductive rOp (X:Cx)(g:W->W->aa->NJ (W×aa))(a b:V)(H:Hp)(Q:VK):Prop
 |mk (A:Ny NR) (S:aa) (x y w:W) (S':aa) (so:w4 X A H S) (rx:Rel X.K A H x a) (ry:Rel X.K A H y b) (e:g x y S=ba (w,S')) (q:∀v H',xa X A H S' w v H'->Q v H'):rOp X g a b H Q
inductive rCall (X:Cx)(g:Ny W->aa->NJ (W×aa))(vs:Ny V)(H:Hp)(Q:VK):Prop
 |mk (A:Ny NR) (S:aa) (ws:Ny W) (w:W) (S':aa) (so:w4 X A H S) (rl:RelL X.K A H ws vs) (e:g ws S=ba (w,S')) (q:∀v H',xa X A H S' w v H'->Q v H'):rCall X g vs H Q
def LOp.opr (h:LOp X f g):OpR X f (rOp X g):=by
 intro J s Y H a b u v Q I j k ⟨A,S,x,y,w,d,n,l,m,e,i⟩;show bo (h _ s Y H A S x y a b u v w d I n l j m k e) λo s' #[c,H',A',I',r',e1,o1,z1]=>#[c,H',I',r',i c H' #[A',e1,o1,z1]]
def F2 (s:LOp X (binaryOp f) g)(q:GE X a c)(r:GE X b d):GE X (.BinOp a f b pos) (D0 g c d):=
 GE.of (JT s.opr q r) λY H A Z S w j m D e Q t=>by
  obtain⟨x,S1,y,k,n,o,p⟩:=two e;show gB m D n o λa b E h l u B C=>#[h,k,x,y,w,j,u,B,C,p,λv i z=>t v i (z.after l)]
abbrev Al (a:FE):FE:=λZ S=>match a Z S with
 |some (.int i,S1)=>ba (.int (-i),S1)
 |_=>dx
def uK (g:GE X a b):GE X (.UnaryOp .USub a pos) (Al b):=
 GE.of (JU Hf g) λY H A Z S w l d j e Q h=>by
  unfold Al at e;split at e
  next i S1 f=>
   cases e;show#[A,Z,S,_,_,d,j,f,λv k #[c,e1,o1,r1]=>?_]
   cases r1;show#[_,rfl,h _ _ #[c,e1,o1,.int]]
  ·cases e
abbrev D1 (o:COp)(a b:FE):FE:=D0 (bK o) a b
def Hz (t:X.A.units+iC<cLine)(p:GE X a c)(q:GE X b d)(r:behindInMarks o.py b=false):GE X (.Compare a [o.py] [b] pos) (D1 o c d):=
 GE.of (Dn (rN t o).opr p q r) λY H A Z S w h k D e Q s=>by
  obtain⟨x,S1,y,i,l,m,n⟩:=two e;show gB k D l m λa b E f j u B C=>#[f,i,x,y,w,h,u,B,C,n,λv g z=>s v g (z.after j)]
abbrev rY (f:FE):FT:=λZ S=>match f Z S with
 |some (.bl k,a)=>ba (k,a)
 |_=>dx
def HA (w:X.A.units+iC<cLine)(r:GE X a c)(s:GE X b d)(t:behindInMarks o.py b=false):GT X (.Compare a [o.py] [b] pos) (rY (D1 o c d)):=
 GT.of (Do (rN w o).opr r s t) λY H A Z S k I l D e Q u=>by
  unfold rY at e;split at e
  next J h m=>
   cases e;obtain⟨x,S1,y,i,n,p,q⟩:=two m;show gB l D n p λa b G g j z B C=>#[g,i,x,y,_,_,z,B,C,q,λv E #[f,z1,z2,z3]=>?_]
   cases z3;show#[k,rfl,u _ _ #[rfl,f,j.trans z1,z2]]
  ·cases e
abbrev gC (o f:COp)(c d e:FE):FE:=λZ S=>match c Z S with
 |some (x,S1)=>match d Z S1 with
  |some (y,a)=>match DQ o x y a with
   |some true=>match e Z a with
    |some (z,b)=>dF f y z b
    |none=>dx
   |some false=>ba (.bl false,a)
   |none=>dx
  |none=>dx
 |none=>dx
def mw {A:Ny NR}(m:EnvRel X.K A H Z Y)(J:w4 X A H S)(e:gC o t n p r Z S=ba (w,d))(Q:VK)(s:∀v f,xa X A H d w v f->Q v f) :
  uf (rOp X (dF o))
   (rOp X (dF t)) (tE X n) (tE X p) (tE X r) Y H Q:=by
 unfold gC at e;split at e
 next x S1 E=>
  split at e
  next y h G=>
   show gB m J E G λa b L k i u B j=>?_
   split at e
   next hc=>
    split at e
    ·rename_i z l I;show#[k,h,x,y,.bl true,h,u,B,j,by simp[dF,hc],λv D #[g,z1,z2,z3]=>?_]
     cases z3;show#[true,rfl,?_];show#[g,Z,h,z,l,m.mono (i.trans z1),z2,I,λc M #[C,y1,y2,y3]=>?_]
     show#[C,l,y,z,w,d,y2,(j.mono z1).mono y1,y3,e,λv f q=>s v f (q.after ((i.trans z1).trans y1))]
    ·cases e
   next hc=>
    cases e;show#[k,d,x,y,.bl false,d,u,B,j,by simp[dF,hc],λv D #[g,z1,z2,z3]=>?_]
    cases z3;show#[false,rfl,?_];show s _ _ #[g,i.trans z1,z2,.bl]
   ·cases e
  ·cases e
 ·cases e
def Am (i:X.A.units+iC<cLine)(k:GE X a f)(l:GE X b g)(hc:GE X c h)(m:lastMarks [o.py,d.py] [b,c]=false):GE X (.Compare a [o.py,d.py] [b,c] pos) (gC o d f g h):=
 GE.of (zy (iV i o).opr (iV i d).opr k l hc m) λY H A Z S w q j p e Q n=>mw j p e Q n
def An {  i:FE}(j:X.A.units+iC<cLine)(q:GE X a g)(r:GE X b h)(hc:GE X c i)(s:lastMarks [o.py,d.py] [b,c]=false):GT X (.Compare a [o.py,d.py] [b,c] pos) (rY (gC o d g h i)):=
 GT.of (zA (iV j o).opr (iV j d).opr q r hc s) λY H A Z S k w n u e Q t=>by
  unfold rY at e;split at e
  next y m p=>
   cases e;show mw n u p (λx f=>∃k,x=.bl k/\Q k f) λv f #[l,z1,z2,z3]=>?_
   cases z3;show#[_,rfl,t _ _ #[rfl,l,z1,z2]]
  ·cases e
abbrev ig (f:FE):FT:=λZ S=>match f Z S with
 |some (w,a)=>(fm a w).map λk=>(k,a)
 |none=>dx
def ci (h:GE X e f)(l:∀a,isTrue e X.env a=(do let v <- a;standAt e.pos;holding [v] (truthy v))):GT X e (ig f):=by
 intro J s Y H Q I ⟨A,Z,S,k,o,i,n,b,m⟩;unfold ig at b;split at b
 next w S1 j=>
  rw[NB]at b;obtain⟨p,g,d⟩:=b;cases d;show isTrue_plain (bo (h _ s Y H _ I #[A,Z,S,w,_,i,n,j,λ_ _ z=>z]) λv q #[x,H1,I1,r1,A1,b,o1,z1]=>?_) (l _)
  show My I1 o1 z1 r1 g λs' c=>#[H1,c,m _ _ #[rfl,A1,b,o1]]
 ·cases b
abbrev Ao (f g:FT):FT:=λZ S=>match f Z S with
 |some (true,S1)=>g Z S1
 |some (false,S1)=>ba (false,S1)
 |none=>dx
abbrev Kj (f g:FT):FT:=λZ S=>match f Z S with
 |some (true,S1)=>ba (true,S1)
 |some (false,S1)=>g Z S1
 |none=>dx
abbrev D3 (f:FT):FT:=λZ S=>match f Z S with
 |some (k,S1)=>ba (!k,S1)
 |none=>dx
def Ap {A:Ny NR}(d:EnvRel X.K A H Z Y)(l:w4 X A H S)(e:Ao f g Z S=ba (k,c))(Q:Oh->Hp->Prop)(j:∀b a,EndB X A H c k b a->Q b a) :
  JH (tT X f) (tT X g) Y H Q:=by
 unfold Ao at e;split at e
 next S1 h=>
  show#[A,Z,S,true,S1,d,l,h,λb m #[i,A1,z1,z2]=>?_]
  subst i;show#[A1,Z,S1,k,c,d.mono z1,z2,e,λb a q=>j b a (q.after z1)]
 next S1 h=>
  cases e;show#[A,Z,S,false,_,d,l,h,λb m #[i,A1,z1,z2]=>?_]
  subst i;show j _ _ #[rfl,A1,z1,z2]
 ·cases e
def D4 {A:Ny NR}(d:EnvRel X.K A H Z Y)(l:w4 X A H S)(e:Kj f g Z S=ba (k,c))(Q:Oh->Hp->Prop)(j:∀b a,EndB X A H c k b a->Q b a) :
  Na (tT X f) (tT X g) Y H Q:=by
 unfold Kj at e;split at e
 next S1 h=>
  cases e;show#[A,Z,S,true,_,d,l,h,λb m #[i,A1,z1,z2]=>?_]
  subst i;show j _ _ #[rfl,A1,z1,z2]
 next S1 h=>
  show#[A,Z,S,false,S1,d,l,h,λb m #[i,A1,z1,z2]=>?_]
  subst i;show#[A1,Z,S1,k,c,d.mono z1,z2,e,λb a q=>j b a (q.after z1)]
 ·cases e
def D5 (h:GT X a f):GW X (.BoolOp .And [a] pos) f:=De h
def HB (h:GT X a f):GW X (.BoolOp .Or [a] pos) f:=GP h
def HC (h:GT X a f)(d:GW X (.BoolOp .And (b::r) pos) g):GW X (.BoolOp .And (a::b::r) pos) (Ao f g):=
 GW.of (GQ h d) λY H A Z S k l c j e Q i=>Ap c j e Q i
def Kk (h:GT X a f)(d:GW X (.BoolOp .Or (b::r) pos) g):GW X (.BoolOp .Or (a::b::r) pos) (Kj f g):=
 GW.of (JI h d) λY H A Z S k l c j e Q i=>D4 c j e Q i
def HD (h:GT X a f):GT X (.UnaryOp .Not a pos) (D3 f):=
 GT.of (GR h) λY H A Z S k n c j e Q g=>by
  unfold D3 at e;split at e
  next i S1 d=>
   cases e;show#[A,Z,S,i,_,c,j,d,λb m #[l,A1,z1,z2]=>?_]
   subst l;show g _ _ #[rfl,A1,z1,z2]
  ·cases e
abbrev wq (f g:FE):FE:=λZ S=>match f Z S with
 |some (.bl true,S1)=>g Z S1
 |some (.bl false,S1)=>ba (.bl false,S1)
 |_=>dx
abbrev D6 (f g:FE):FE:=λZ S=>match f Z S with
 |some (.bl true,S1)=>ba (.bl true,S1)
 |some (.bl false,S1)=>g Z S1
 |_=>dx
abbrev wt (f:FE):FE:=λZ S=>match f Z S with
 |some (.bl k,S1)=>ba (.bl (!k),S1)
 |_=>dx
def HE (h:GE X a f):GE X (.BoolOp b [a] pos) f:=GU h
def HF (h:GE X a f)(o:GE X (.BoolOp .And (b::r) pos) g):GE X (.BoolOp .And (a::b::r) pos) (wq f g):=
 GE.of (GV h o) λY H A Z S w n d k e Q j=>by
  unfold wq at e;split at e
  next S1 i=>
   show#[A,Z,S,_,S1,d,k,i,λv m #[c,z1,z2,z3]=>?_]
   cases z3;show#[true,rfl,?_];show#[c,Z,S1,w,n,d.mono z1,z2,e,λb l q=>j b l (q.after z1)]
  next S1 i=>
   cases e;show#[A,Z,S,_,_,d,k,i,λv m #[c,z1,z2,z3]=>?_]
   cases z3;show#[false,rfl,?_];show j _ _ #[c,z1,z2,.bl]
  ·cases e
def Kl (h:GE X a f)(o:GE X (.BoolOp .Or (b::r) pos) g):GE X (.BoolOp .Or (a::b::r) pos) (D6 f g):=
 GE.of (JL h o) λY H A Z S w n d k e Q j=>by
  unfold D6 at e;split at e
  next S1 i=>
   cases e;show#[A,Z,S,_,_,d,k,i,λv m #[c,z1,z2,z3]=>?_]
   cases z3;show#[true,rfl,?_];show j _ _ #[c,z1,z2,.bl]
  next S1 i=>
   show#[A,Z,S,_,S1,d,k,i,λv m #[c,z1,z2,z3]=>?_]
   cases z3;show#[false,rfl,?_];show#[c,Z,S1,w,n,d.mono z1,z2,e,λb l q=>j b l (q.after z1)]
  ·cases e
def HG (h:GE X a f):GE X (.UnaryOp .Not a pos) (wt f):=
 GE.of (GX h) λY H A Z S w l d j e Q i=>by
  unfold wt at e;split at e
  next m S1 g=>
   cases e;show#[A,Z,S,_,_,d,j,g,λb k #[c,z1,z2,z3]=>?_]
   cases z3;show#[_,rfl,i _ _ #[c,z1,z2,.bl]]
  ·cases e
abbrev D7 (c:FT)(f g:FE):FE:=λZ S=>match c Z S with
 |some (true,S1)=>f Z S1
 |some (false,S1)=>g Z S1
 |none=>dx
def HH (hc:GT X c l)(p:GE X a f)(r:GE X b g):GE X (.IfExp c a b pos) (D7 l f g):=
 GE.of (zr hc p r) λY H A Z S w k d n e Q m=>by
  unfold D7 at e;split at e
  next S1 i=>
   show#[A,Z,S,_,S1,d,n,i,λb o #[j,A1,z1,z2]=>?_]
   subst j;show#[A1,Z,S1,w,k,d.mono z1,z2,e,λb h q=>m b h (q.after z1)]
  next S1 i=>
   show#[A,Z,S,_,S1,d,n,i,λb o #[j,A1,z1,z2]=>?_]
   subst j;show#[A1,Z,S1,w,k,d.mono z1,z2,e,λb h q=>m b h (q.after z1)]
  ·cases e
abbrev gD:FA:=λ_ S=>ba ([],S)
abbrev cR (f:FE)(g:FA):FA:=λZ S=>match f Z S with
 |some (w,S1)=>match g Z S1 with
  |some (ws,a)=>ba (w::ws,a)
  |none=>dx
 |none=>dx
def HI:GA X [] gD:=GA.of zB λY H A Z S ws c d b e Q a=>by cases e;show a _ _ #[A,.refl,b,.nil]
def D8 (h:GE X e f)(a:GA X es g)(l:starEach (e::es) X.env=(false,eval e X.env)::starEach es X.env):GA X (e::es) (cR f g):=
 GA.of (pI h a l) λY H A Z S ws p c m e Q k=>by
  unfold cR at e;split at e
  next w S1 j=>
   split at e
   next b q a=>
    cases e;show#[A,Z,S,w,S1,c,m,j,λv n #[d,z1,z2,z3]=>?_]
    show#[d,Z,S1,b,_,c.mono z1,z2,a,λvs o #[i,y1,y2,y3]=>?_]
    show k _ _ #[i,z1.trans y1,y2,.cons (z3.mono y1) y3]
   ·cases e
  ·cases e
abbrev Aq (f:FA):FE:=λZ S=>match f Z S with
 |some (ws,S1)=>zR S1 ws
 |none=>dx
abbrev Ar (f:FA):FE:=λZ S=>match f Z S with
 |some (ws,S1)=>nW S1 ws
 |none=>dx
def As (h:GA X es f):GE X (.Tuple es k pos) (Aq f):=
 GE.of (Hi h) λY H A Z S w l a g e Q d=>by
  unfold Aq at e;split at e
  next ws S1 b=>
   obtain⟨hl,rfl,rfl⟩:=vV e;show#[A,Z,S,ws,_,a,g,b,λvs j #[i,z1,z2,z3]=>#[by rw[<- ↥z3];show hl,λp c=>?_]]
   show d _ _ (EndV.after z1 (.tup z2 z3 c))
  ·cases e
def At (h:GA X es f):GE X (.List es pos) (Ar f):=
 GE.of (Hj h) λY H A Z S w k a g e Q d=>by
  unfold Ar at e;split at e
  next ws S1 b=>
   obtain⟨hl,rfl,rfl⟩:=ln e;show#[A,Z,S,ws,_,a,g,b,λvs j #[i,z1,z2,z3]=>#[by rw[<- ↥z3];show hl,λp c=>?_]]
   show d _ _ (EndV.after z1 (.lst z2 z3 c))
  ·cases e
abbrev eR (g:Ny W->aa->NJ (W×aa))(f:FA):FE:=λZ S=>match f Z S with
 |some (ws,S1)=>g ws S1
 |none=>dx
def LCall.callr (h:LCall X v g):CallR X v (rCall X g):=by
 intro J s Y H vs us Q I f ⟨A,S,ws,w,b,i,d,e,c⟩;show bo (h _ s Y H A S ws vs us w b I i d f e) λj s' #[a,H',A',I',r',e1,o1,z1]=>#[a,H',I',r',c a H' #[A',e1,o1,z1]]
def oO {A:Ny NR}(h:EnvRel X.K A H Z Y)(k:w4 X A H S)(e:eR g f Z S=ba (w,b))(Q:VK)(j:∀v a,xa X A H b w v a->Q v a) :
  tA X f Y H λvs c=>rCall X g vs c Q:=by
 unfold eR at e;split at e
 next ws S1 i=>show#[A,Z,S,ws,S1,h,k,i,λvs c #[d,z1,z2,z3]=>#[d,S1,ws,w,b,z2,z3,e,λv a q=>j v a (q.after z1)]]
 ·cases e
def wu {id:Pn}(hc:LCall X (.builtin id) g)(h:Gl X x)(i:X.mg x=dx)(m:bootBuiltins x=ba (.builtin id))(d:GA X (e::es) f)
  (j:x≠"__name__") (a:(x==("__debug__"))=false) (l:starEach (e::es) X.env=(false,eval e X.env)::starEach es X.env) (b:(backTo pos (starEach es X.env)).any (·.1)=false):GE X (.Call (.Name x p) (e::es) [] pos) (eR g f):=
 GE.of (rs hc.callr h i m d j a l b) λY H A Z S w o c n e Q k=>oO c n e Q k
def oP {id:Pn}(hc:LCall X (.type id) g)(h:Gl X x)(i:X.mg x=dx)(m:bootBuiltins x=ba (.type id))(d:GA X (e::es) f)
  (j:x≠"__name__") (a:(x==("__debug__"))=false) (l:starEach (e::es) X.env=(false,eval e X.env)::starEach es X.env) (b:(backTo pos (starEach es X.env)).any (·.1)=false):GE X (.Call (.Name x p) (e::es) [] pos) (eR g f):=
 GE.of (xX hc.callr h i m d j a l b) λY H A Z S w o c n e Q k=>oO c n e Q k
abbrev my (T:Pn)(S:aa):W->Oh
 |.str _=>T == "str"
 |.tup _=>T == "tuple"
 |.ref i=>(T == "list" && (ec S i).isSome)||(T == "dict" && (fL S i).isSome)
 |_=>false
abbrev tyOk (T:Pn)(S:aa)(x:W):Oh:=if T == "index" then my "list" S x||my "tuple" S x else my T S x
def D9 {T:Pn}(h:(T == "index")=false):tyOk T S x=my T S x:=by unfold tyOk;rw[h];rfl
abbrev C6 (T:Pn)(g:W->Ny W->aa->NJ (W×aa))(b:FE)(f:FA):FE:=λZ S=>match b Z S with
 |some (x,S1)=>if tyOk T S1 x then match f Z S1 with
  |some (ws,a)=>g x ws a
  |none=>dx
  else dx
 |none=>dx
abbrev MB (a b:FE):FE:=D0 p9 a b
noncomputable abbrev FO:=Fm->aa->NJ (NJ NV×aa)
abbrev HJ:FO:=λ_ S=>ba (dx,S)
abbrev wx (f:FE):FO:=λZ S=>match f Z S with
 |some (.int i,S1)=>ba (ba i,S1)
 |_=>dx
abbrev Km (c:FE)(e d:FO):FE:=λZ S=>match c Z S with
 |some (x,S1)=>match e Z S1 with
  |some (lo,a)=>match d Z a with
   |some (hi,b)=>t8 x lo hi b
   |none=>dx
  |none=>dx
 |none=>dx
inductive rMeth (X:Cx)(g:W->Ny W->aa->NJ (W×aa))(a:V)(vs:Ny V)(H:Hp)(Q:VK):Prop
 |mk (A:Ny NR) (S:aa) (x:W) (ws:Ny W) (w:W) (S':aa) (so:w4 X A H S) (rx:Rel X.K A H x a) (rl:RelL X.K A H ws vs) (e:g x ws S=ba (w,S')) (q:∀v H',xa X A H S' w v H'->Q v H'):rMeth X g a vs H Q
def HK (I:Inv X J Y H s)(h:SqT X.K H a xs):s.TypeIs (.ref a) "tuple"/\∃o,s.heap.get? a=ba o/\o.dict=dx:=by
 rcases h with h|⟨o,b,n,hk,hc,hd,_⟩
 ·obtain⟨z,b,r,p⟩:=h.ok I.hok;show#[p.typeIs,z.2]
 ·show#[#[o,I.kIn a o hk,hc],o,I.kIn a o hk,hd]
def tyOk.is {A:Ny NR}{T:Pn}(I:Inv X J Y H s)(l:w4 X A H S)(r:Rel X.K A H x a)(f:RelV a v)(h:my T S x=true) :
  s.TypeIs v T/\∀b,v=.ref b->∃ob,s.heap.get? b=ba ob/\ob.dict=dx:=by
 cases r with
 |str=>show zK I f (eq_of_beq h)
 |tup n w=>
  obtain⟨c,d⟩:=HK I n;have e:=eq_of_beq h;subst e;obtain rfl:v=O0 _:=f;show#[c,λb e=>by cases e;show d]
 |ref i=>
  (dsimp only[my]at h;simp only[PP,NM]at h)
  rcases h with⟨c,d⟩|⟨c,d⟩
  ·obtain⟨xs,g⟩:=O3.mp d;obtain⟨vs,m,_⟩:=bz l g i;show zK I f (.inl #[eq_of_beq c,vs,m])
  ·obtain⟨U,g⟩:=O3.mp d;obtain⟨xs,p,_⟩:=gA l g i;obtain⟨_,_,_,o,es,q,j,k,t,u⟩:=cG I p;have e:=eq_of_beq c;subst e;obtain rfl:v=O0 _:=f;show#[#[o,j,k.1],λb e=>by cases e;show#[o,j,k.2.1]]
 |_=>cases h
def mz {T id:Pn}(G:PlainAttrs T)(slot:Slot T name id)(i:typeOf (.builtin id)=pure (.type "method_descriptor"))(y:iW X id g)
  (t:(T == "index")=false) (B:GE X o l) (u:GA X (e::es) f) (c:attributeBase o name X.env (eval o X.env)=eval o X.env)
  (h:((backTo cpos (starEach (e::es) X.env)).all (λx=>!x.1)&&(backToKw cpos (keywordEach [] X.env)).all (λx=>x.1.isSome)
   && decide ((e::es).length+([]:Ny Wl).length+(if ([]:Ny Wl).isEmpty then 0 else 1)<30))=true)
  (d:(apos.endLine==cpos.line)=true) (D:starEach (e::es) X.env=(false,eval e X.env)::starEach es X.env) (b:(backTo cpos (starEach es X.env)).any (·.1)=false) :
  GE X (.Call (.Attribute o name apos) (e::es) [] cpos) (C6 T g l f):=by
 intro J s Y H Q I ⟨A,Z,S,w,p,k,N,e,C⟩;unfold C6 at e;split at e
 next x S1 q=>
  split at e
  next E=>
   split at e
   next ws j r=>
    show wpAny_Call_method_late c h d rfl (bo (B _ s Y H _ I #[A,Z,S,_,_,k,N,q,λ_ _ z=>z]) λv L #[a,H1,I1,r1,A1,e1,o1,z1]=>?_)
    obtain⟨O,P⟩:=tyOk.is I1 o1 z1 r1 ((D9 t).symm.trans E);show#[T,id,G,slot,i,O,P,?_];have m:=u cpos _ L Y H1 _ I1 #[A1,Z,S1,ws,j,k.mono e1,o1,r,λ_ _ z=>z]
    rw[D]at m ⊢;show TR (by show(false||(backTo _ _).any _)=false;rw[b]<;>rfl) (Calls.evalArgs_plain ?_)
    show bo m λus M #[vs,H2,I2,r2,A2,e2,o2,z2]=>?_
    show bo (y _ M Y H2 A2 j x a v ws vs us w p I2 o2 (z1.mono e2) r1 z2 r2 e) λR s' #[n,H',A',I',r',e3,o3,z3]=>?_
    show#[n,H',I',r',C n H' #[A',(e1.trans e2).trans e3,o3,z3]]
   ·cases e
  ·cases e
 ·cases e
def LIx.ixr (h:LIx X g):IxR X (rOp X g):=by
 intro d c J s Y H a b u v Q I l m ⟨A,S,x,y,w,i,p,n,o,e,j⟩ k;show bo (h _ _ _ s Y H A S x y a b u v w i I p n l o m e k) λq s' #[f,H',A',I',r',e1,o1,z1]=>#[f,H',I',r',j f H' #[A',e1,o1,z1]]
def Kn (s:X.A.units+10<cLine)(o:GE X a c)(p:GE X b d)(r:pP b):GE X (.Subscript a b pos) (MB c d):=
 GE.of (J6 (Mz s).ixr o p r) λY H A Z S w h k C e Q q=>by
  obtain⟨x,S1,y,i,l,m,n⟩:=two e;show gB k C l m λa b D f j t u B=>#[f,i,x,y,w,h,t,u,B,n,λv g z=>q v g (z.after j)]
inductive tO (X:Cx)(f:FO)(Y:L2.St)(H:Hp)(Q:NJ NV->Hp->Prop):Prop
 |mk (A:Ny NR) (Z:Fm) (S:aa) (k:NJ NV) (S':aa) (er:EnvRel X.K A H Z Y) (so:w4 X A H S) (e:f Z S=ba (k,S')) (q:∀H' A',Ext X.K A H A' H'->w4 X A' H' S'->Q k H'):tO X f Y H Q
noncomputable abbrev GO (X:Cx)(e:NJ Oi)(f:FO):Prop:=PO X e (tO X f)
def Ea:GO X dx HJ:=λJ s Y H Q I #[A,Z,S,k,S',er,so,e,hq]=>by
 cases e;show Ds _ s Y H Q I (hq H A .refl so)
def Eb (h:GE X e f):GO X (ba e) (wx f):=λJ s Y H Q I #[A,Z,S,k,S',er,so,e,hq]=>by
 unfold wx at e;split at e
 next i S1 c=>
  cases e;show Dt h _ s Y H Q I #[A,Z,S,_,_,er,so,c,λv b #[a,z1,z2,z3]=>?_]
  cases z3;show#[i,rfl,hq b a z1 z2]
 ·cases e
inductive rSl (X:Cx)(g:W->NJ NV->NJ NV->aa->NJ (W×aa))(a:V)(lo hi:NJ NV)(H:Hp)(Q:VK):Prop
 |mk (A:Ny NR) (S:aa) (x w:W) (S':aa) (so:w4 X A H S) (rx:Rel X.K A H x a) (e:g x lo hi S=ba (w,S')) (q:∀v H',xa X A H S' w v H'->Q v H'):rSl X g a lo hi H Q
def LSl.slr (h:LSl X g):J5 X (rSl X g):=by
 intro J s Y H a v r t lo hi p Q I n k l m ⟨A,S,x,w,c,q,o,e,j⟩;obtain⟨T,id,d,f,i⟩:=h _ s Y H A S x a v r t lo hi p w c I q o n k l m e;show#[T,id,d,f,bo i λu s' #[b,H',A',I',r',e1,o1,z1]=>#[b,H',I',r',j b H' #[A',e1,o1,z1]]]
def Ko {lo :NJ Oi}{ i:FO}(y:GE X a g)(hl:GO X lo j)(z:GO X hi i):GE X (.Subscript a (.Slice lo hi dx p2) pos) (Km g j i):=
 GE.of (zH Nq.slr y hl z) λY H A Z S w r b C e Q B=>by
  unfold Km at e;split at e
  next x S1 s=>
   split at e
   next l d t=>
    split at e
    ·rename_i h f u;show#[A,Z,S,x,S1,b,C,s,λv G #[m,z1,z2,z3]=>?_]
     show#[m,Z,S1,l,d,b.mono z1,z2,t,λI n c E=>?_]
     show#[n,Z,d,h,f,b.mono (z1.trans c),E,u,λJ o k D=>?_]
     show#[o,f,x,w,r,D,(z3.mono c).mono k,e,λv p q=>B v p (q.after ((z1.trans c).trans k))]
    ·cases e
   ·cases e
  ·cases e
noncomputable abbrev FF:=Ny W->aa->NJ (W×aa)
inductive spF (wd:OF)(K:NY)(n:NF)(g:FF)(vs:Ny V)(H:Hp)(Q:VK)(E:XK):Prop
 |mk (A:Ny NR) (S:aa) (ws:Ny W) (w:W) (S':aa) (so:StoreOk wd K A H S) (rl:RelL K A H ws vs) (hl:↥ws=n) (e:g ws S=ba (w,S')) (q:∀v H',EndV wd K A H S' w v H'->Q v H'):spF wd K n g vs H Q E
abbrev rZ (n:NF)(g:FF)(f:FA):FE:=λZ S=>match f Z S with
 |some (ws,S1)=>if ↥ws=n then g ws S1 else dx
 |none=>dx
def r8 {A:Ny NR}(d:EnvRel X.K A H Z Y)(j:w4 X A H S)(e:rZ n g f Z S=ba (w,b))(Q:VK)(i:∀v a,xa X A H b w v a->Q v a) :
  zD (spF X.w X.K n g) [] E (tA X f) Y H Q:=by
 unfold rZ at e;split at e
 next ws S1 h=>
  split at e
  next hl=>
   show#[A,Z,S,ws,S1,d,j,h,λvs k #[c,z1,z2,z3]=>?_]
   rw[Oz];show#[c,S1,ws,w,b,z2,z3,hl,e,λv a q=>i v a (q.after z1)]
  ·cases e
 ·cases e
def HL (F:FnOk X.prog X.w X.K X.mg X.base zj k a d ps (spF X.w X.K n g))(r:Room k X.A)(m:Gl X x)(o:X.mg x=ba (.ref a))(hk:Po X.K (.ref a)=true)
  (j:Binds X.K d ps []) (i:GA X (e::es) f) (b:(x==("__debug__"))=false) (l:starEach (e::es) X.env=(false,eval e X.env)::starEach es X.env) (c:(backTo pos (starEach es X.env)).any (·.1)=false) :
  GE X (.Call (.Name x p) (e::es) [] pos) (rZ n g f):=
 GE.of (Dp F r m o hk j .nil F0 i b l c) λY H A Z S w t h s e Q q=>r8 h s e Q q
def Ec (F:FnOk X.prog X.w X.K X.mg X.base zj k b d ps (spF X.w X.K n g))(z:Room k X.A)(u:Gl X x)(v:X.mg x=ba (.ref b))(hk:Po X.K (.ref b)=true)
  (t:Binds X.K d ps []) (c:(x==("__debug__"))=false):GE X (.Call (.Name x p) [] [] pos) (rZ n g gD):=
 GE.of (zF F z u v hk t .nil F0 c) λY H A Z S w h s B e Q y=>by
  obtain⟨f,S1,ws,C,a,i,j,l,m,o⟩:=r8  (E:=E0) s B e Q y |> λ#[A,Z,S,ws,h,D,b2,q,r]=>r [] H (by cases q;show#[A,.refl,b2,.nil])
  show#[f,S1,ws,C,a,i,j,l,m,o]
def Ed:GSs X [] (λZ S=>ba (.nx Z,S)):=GSs.of Dg λY H A Z S o c a b e D hd=>by cases e;show hd.nx _ _ #[Z,A,rfl,.refl,b,a]
abbrev Ee (f g:FS):FS:=λZ S=>match f Z S with
 |some (.nx a,S1)=>g a S1
 |some (.rt w,S1)=>ba (.rt w,S1)
 |some (.bk a,S1)=>ba (.bk a,S1)
 |some (.ct a,S1)=>ba (.ct a,S1)
 |none=>dx
def Au {st:QG}(h:GS X st f)(l:GSs X c g):GSs X (st::c) (Ee f g):=GSs.of (zu h l) λY H A Z S o k d i e D hd=>by
 unfold Ee at e;split at e
 next n S1 a=>
  show#[A,Z,S,_,_,d,i,a,#[λj b #[m,A',e1,e2,e3,e4]=>?_,λv b #[w,A',e1,_,_,_]=>(by cases e1),λv b #[w,A',e1,_,_,_]=>(by cases e1),λv b #[w,A',e1,_,_,_]=>(by cases e1)]]
  cases e1;show#[A',_,S1,o,k,e4,e3,e,(EndS.after e2).trans hd]
 next w S1 a=>cases e;show#[A,Z,S,_,_,d,i,a,#[λj b #[w,A',e1,_,_,_]=>(by cases e1),hd.rt,hd.bk,hd.ct]]
 next w S1 a=>cases e;show#[A,Z,S,_,_,d,i,a,#[λj b #[w,A',e1,_,_,_]=>(by cases e1),hd.rt,hd.bk,hd.ct]]
 next w S1 a=>cases e;show#[A,Z,S,_,_,d,i,a,#[λj b #[w,A',e1,_,_,_]=>(by cases e1),hd.rt,hd.bk,hd.ct]]
 ·cases e
abbrev Ef (f:FE):FS:=λZ S=>match f Z S with
 |some (_,S1)=>ba (.nx Z,S1)
 |none=>dx
def Kq (h:GE X e f)(d:swapsWith e dx pos.line X.env=pure false):GS X (.Expr e pos) (Ef f):=GS.of (Di h d) λY H A Z S o j a g e D hd=>by
 unfold Ef at e;split at e
 next w S1 c=>cases e;show#[A,Z,S,w,_,a,g,c,λv i #[b,z1,z2,z3]=>hd.nx _ _ #[Z,b,rfl,z1,z2,a.mono z1]]
 ·cases e
abbrev Av:FS:=λZ S=>ba (.nx Z,S)
def HM :GS X (.Expr (.Constant (.str x) j pos) a) Av:=GS.of GY λY H A Z S o d b c e D hd=>by cases e;show hd.nx _ _ #[Z,A,rfl,.refl,c,b]
def Eg :GS X (.Pass pos) Av:=GS.of Dh λY H A Z S o c a b e D hd=>by cases e;show hd.nx _ _ #[Z,A,rfl,.refl,b,a]
abbrev Eh (f:FE):FS:=λZ S=>match f Z S with
 |some (w,S1)=>ba (.rt w,S1)
 |none=>dx
def HN (h:GE X e f):GS X (.Return (ba e) pos) (Eh f):=GS.of (GZ h) λY H A Z S o i b d e D hd=>by
 unfold Eh at e;split at e
 next w S1 c=>cases e;show#[A,Z,S,w,_,b,d,c,λv g #[a,z1,z2,z3]=>hd.rt _ _ #[w,a,rfl,z1,z2,z3]]
 ·cases e
abbrev Ei (c:FT)(f g:FS):FS:=λZ S=>match c Z S with
 |some (true,S1)=>f Z S1
 |some (false,S1)=>g Z S1
 |none=>dx
def Kr (hc:GT X c k)(n:GSs X a f)(p:GSs X b g):GS X (.If c a b pos) (Ei k f g):=GS.of (JN hc n p) λY H A Z S o j d l e D hd=>by
 unfold Ei at e;split at e
 next S1 h=>
  show#[A,Z,S,_,S1,d,l,h,λb m #[i,A1,z1,z2]=>?_]
  subst i;show#[A1,Z,S1,o,j,d.mono z1,z2,e,(EndS.after z1).trans hd]
 next S1 h=>
  show#[A,Z,S,_,S1,d,l,h,λb m #[i,A1,z1,z2]=>?_]
  subst i;show#[A1,Z,S1,o,j,d.mono z1,z2,e,(EndS.after z1).trans hd]
 ·cases e
noncomputable abbrev FG:=W->Fm->aa->NJ (Fm×aa)
inductive tG (X:Cx)(f:FG)(v:V)(Y:L2.St)(H:Hp)(Q:L2.St->Hp->Prop):Prop
 |mk (A:Ny NR) (Z:Fm) (S:aa) (w:W) (Z':Fm) (S':aa) (er:EnvRel X.K A H Z Y) (so:w4 X A H S) (r:Rel X.K A H w v) (e:f w Z S=ba (Z',S')) (q:∀Y' H' A',Ext X.K A H A' H'->w4 X A' H' S'->EnvRel X.K A' H' Z' Y'->Q Y' H'):tG X f v Y H Q
noncomputable abbrev GG (X:Cx)(tg:Oi)(f:FG):Prop:=PG X tg (tG X f)
abbrev F3 (i:NF):FG:=λw Z S=>ba (Z.set i (ba w),S)
def wy (c:X.N.Nodup)(hi:X.N[i]?=ba x)(g:Db X.env.scope x)(d:X.fn x=true\/X.env.scope.names.lookup x=ba .local):GG X (.Name x pos) (F3 i):=by
 intro J s Y H v u Q I r ⟨A,Z,S,w,k,j,b,h,a,e,f⟩;cases e;show vP c hi g d _ s Y H v u Q I r (f _ _ A .refl h (b.set a i))
abbrev fN:Ny NF->Ny W->Fm->NJ Fm
 |[],[],Z=>ba Z
 |i::is,w::ws,Z=>fN is ws (Z.set i (ba w))
 |_,_,_=>dx
abbrev JD (is:Ny NF):FG:=λw Z S=>match w with
 |.tup ws=>(fN is ws Z).map λa=>(a,S)
 |_=>dx
def yt:∀{ts:Ny Oi}{is:Ny NF},(∀x∈ts,∃y p,x=.Name y p)->TC (λ t i=>∃x p,t=UN x p/\X.N[i]?=ba x/\Db X.env.scope x/\(X.fn x=true\/X.env.scope.names.lookup x=ba .local)) ts is->X.N.Nodup->
  JO X ts (λvs Y H Q=>∃A Z ws a S,EnvRel X.K A H Z Y/\w4 X A H S/\RelL X.K A H ws vs/\fN is ws Z=ba a/\∀g,EnvRel X.K A H a g->Q g H):=by
 intro ts
 induction ts with
 |nil=>
  intro is _ h c;cases h;intro J s Y H vs us Q I r ⟨A,Z,ws,a,S,b,j,f,e,d⟩;cases f with
  |nil=>cases e;show Dj J s Y H [] us Q I r #[rfl,d _ b]
  |cons _ _=>cases e
 |cons t ts ih=>
  intro is n h c;cases h with
  |cons k l=>
   obtain⟨x,p,rfl,hi,hl,m⟩:=k;have:=ih (λy o=>n y (O1 _ o)) l c
   intro J s Y H vs us Q I r ⟨A,Z,ws,a,S,b,j,f,e,d⟩;cases f with
   |nil=>cases e
   |cons q u=>
    show zv (vP c hi hl m) this rfl J s Y H _ us Q I r #[_,_,rfl,?_];show#[A,_,_,a,S,b.set q _,j,u,e,d]
def HP (hc:X.calm=true)(B:∀x∈ts,∃y p,x=.Name y p)(h:TC (λ t i=>∃x p,t=UN x p/\X.N[i]?=ba x/\Db X.env.scope x/\(X.fn x=true\/X.env.scope.names.lookup x=ba .local)) ts is)(n:X.N.Nodup)
  (o:(assignEach ts X.env).length=↥ts) (b:(assignEach ts X.env).findIdx? (·.1)=dx):GG X (.Tuple ts k pos) (JD is):=by
 intro J s Y H v u Q I r ⟨A,Z,S,w,a,C,l,g,c,e,q⟩;unfold JD at e;split at e
 ·rw[NB]at e;obtain⟨E,d,j⟩:=e;cases j;cases c with
  |tup m f=>
   have hl:∀is ws Z a,fN is ws Z=ba a->↥is=↥ws:=by
    intro is
    induction is with
    |nil=>intro ws Z a e;cases ws<;>first|rfl|cases e
    |cons i is ih=>intro ws Z a e;cases ws<;>first|cases e|(simp;show ih _ _ _ e)
   show G3 hc (yt B h n) o b _ s Y H _ u Q I r #[_,_,rfl,m,by rw[<- ↥f,<- hl _ _ _ _ d,<- RF h],A,Z,_,_,_,l,g,f,d,λD z=>q _ _ A .refl g z]
 ·cases e
abbrev Ej (d c:FE):FG:=λw Z S=>match d Z S with
 |some (o,S1)=>match c Z S1 with
  |some (i,a)=>match i5 o i w a with
   |some b=>ba (Z,b)
   |none=>dx
  |none=>dx
 |none=>dx
inductive rSet (X:Cx)(g:W->W->W->aa->NJ aa)(ao ai av:V)(H:Hp)(Q:Hp->Prop):Prop
 |mk (A:Ny NR) (S:aa) (o i w:W) (S':aa) (so:w4 X A H S) (r1:Rel X.K A H o ao) (r2:Rel X.K A H i ai) (r3:Rel X.K A H w av) (e:g o i w S=ba S') (q:∀H' A',Ext X.K A H A' H'->w4 X A' H' S'->Q H'):rSet X g ao ai av H Q
def LSet.pset (h:LSet X g):G2 X (rSet X g):=by
 intro J s Y H d c f u t v Q I p n q ⟨A,S,o,i,w,b,r,k,l,m,e,j⟩;show bo (h _ s Y H A S o i w d c f u t v b I r k p l n m q e) λ_ s' #[a,A',I',e1,o1]=>#[a,I',j a A' e1 o1]
def HQ { i:Oi}(D:X.A.units+10<cLine)(B:GE X o h)(hi:GE X i g)(z:∀v,assign (.Subscript o i pos) X.env v=(do
   let ov <- holding [v] (eval o X.env)
   let iv <- holding [v,ov] (eval i X.env)
   standAt pos
   holding [v,ov,iv] (setItem ov iv v)
   release [v,ov,iv] [])):GG X (.Subscript o i pos) (Ej h g):=by
 intro J s Y H v u Q I r ⟨A,Z,S,w,P,N,c,E,d,e,C⟩;unfold Ej at e;split at e
 next k S1 t=>
  split at e
  next j f x=>
   split at e
   next O y=>
    cases e;show G4 B hi (Kg D).pset z _ s Y H v u Q I r ?_;show#[A,Z,S,k,S1,c,E,t,λa L #[n,e1,o1,r1]=>?_]
    show#[n,Z,S1,j,f,c.mono e1,o1,x,λb M #[p,e2,o2,r2]=>?_]
    show#[p,f,k,j,w,_,o2,r1.mono e2,r2,d.mono (e1.trans e2),y,λq m l G=>C Y q m ((e1.trans e2).trans l) G (c.mono ((e1.trans e2).trans l))]
   ·cases e
  ·cases e
 ·cases e
abbrev mB (f:FE)(g:FG):FS:=λZ S=>match f Z S with
 |some (w,S1)=>match g w Z S1 with
  |some (b,a)=>ba (.nx b,a)
  |none=>dx
 |none=>dx
def uL (h:GE X e f)(k:GG X tg g)(l:swapsWithSole [tg] e pos.line X.env=pure false)(hw:swappedStores [tg] e X.env=pure dx)(a:(assignEach [tg] X.env).map (·.2)=[assign tg X.env]) :
  GS X (.Assign [tg] e pos) (mB f g):=GS.of (G5 h k l hw a) λY H A Z S o t c m e D hd=>by
 unfold mB at e;split at e
 next w S1 a=>
  split at e
  next b u j=>
   cases e;show#[A,Z,S,w,S1,c,m,a,λv s #[i,z1,z2,z3]=>?_]
   show#[i,Z,S1,w,b,_,c.mono z1,z2,z3,j,λx r d n p q=>hd.nx _ _ #[b,d,rfl,z1.trans n,p,q]]
  ·cases e
 ·cases e
abbrev Ek (i j:NF)(f:FA):FS:=λZ S=>match f Z S with
 |some ([x,y],S1)=>ba (.nx ((Z.set i (ba x)).set j (ba y)),S1)
 |_=>dx
def HR (hc:X.calm=true)(q:X.N.Nodup)(hi:X.N[i]?=ba x)(s:X.N[j]?=ba y)(g:i≠j)
  (v:X.env.scope.names.lookup x=ba .local) (w:X.env.scope.names.lookup y=ba .local) (r:GA X [a,b] f)
  (hw:swappedStores [.Tuple [.Name x l,.Name y py] k pt] (.Tuple [a,b] h c) X.env=pure (ba [x,y]))
  (u:swapsWithSole [.Tuple [.Name x l,.Name y py] k pt] (.Tuple [a,b] h c) pos.line X.env=pure false) :
  GS X (.Assign [.Tuple [.Name x l,.Name y py] k pt] (.Tuple [a,b] h c) pos) (Ek i j f):=GS.of (G6 hc q hi s g v w r hw u) λY H A Z S o G m C e D hd=>by
 unfold Ek at e;cases d:f Z S with
 |none=>rw[d]at e;show nomatch e
 |some p=>
  rw[d]at e;cases p with
  |mk ws S1=>
   cases ws with
   |nil=>show nomatch e
   |cons x ws=>
    cases ws with
    |nil=>show nomatch e
    |cons y ws=>
     cases ws with
     |cons _ _=>show nomatch e
     |nil=>
      cases e;show#[A,Z,S,_,_,m,C,d,λvs E #[n,z1,z2,z3]=>?_]
      cases z3 with
      |cons z t=>
       cases t with
       |cons B t=>
        cases t;show#[_,_,rfl,hd.nx _ _ #[_,n,rfl,z1,z2,((m.mono z1).set z i).set B j]]
abbrev mC (c:FT)(b:FS):NF->FS
 |0,_,_=>dx
 |n+1,Z,S=>match c Z S with
  |some (true,S1)=>match b Z S1 with
   |some (.nx d,a)=>mC c b n d a
   |some (.ct d,a)=>mC c b n d a
   |some (.bk d,a)=>ba (.nx d,a)
   |some (.rt w,a)=>ba (.rt w,a)
   |none=>dx
  |some (false,S1)=>ba (.nx Z,S1)
  |none=>dx
def Aw (n:NF)(N:UL (model X.prog X.w) X.A X.env X.xe)(hc:GT X c u)(M:GSs X body t):GS X (.While c body [] pos) (mC u t n):=GS.of (zw N hc M) λY H A Z S o P L O e D hd=>by
 show#[λm E s=>∃k i S1,Ext X.K A H k s/\EnvRel X.K k s i E/\w4 X k s S1/\mC u t m i S1=ba _,#[n,A,Z,S,.refl,L,O,e],?_]
 rintro m E s ⟨k,i,S1,q,d,r,f⟩;cases m with
 |zero=>cases f
 |succ m=>
  dsimp only[mC]at f;split at f
  next l B=>
   show#[k,i,S1,_,l,d,r,B,λb I #[C,A2,z1,z2]=>?_]
   subst C;show#[λJ y=>∃x p g,Ext X.K A H x y/\EnvRel X.K x y p J/\w4 X x y g/\mC u t m p g=ba _,λz a h=>#[m,PX _,h],?_]
   split at f
   next p g j=>
    show#[A2,i,l,_,g,d.mono z1,z2,j,#[λz a #[G,A',y0,y1,y2,y3]=>?_,λv a #[w,A',y0,_,_,_]=>(by cases y0),λv a #[w,A',y0,_,_,_]=>(by cases y0),λv a #[w,A',y0,_,_,_]=>(by cases y0)]]
    cases y0;show#[A',_,g,(q.trans z1).trans y1,y3,y2,f]
   next p g j=>
    show#[A2,i,l,_,g,d.mono z1,z2,j,#[λv a #[w,A',y0,_,_,_]=>(by cases y0),λv a #[w,A',y0,_,_,_]=>(by cases y0),λv a #[w,A',y0,_,_,_]=>(by cases y0),λz a #[G,A',y0,y1,y2,y3]=>?_]]
    cases y0;show#[A',_,g,(q.trans z1).trans y1,y3,y2,f]
   next p g j=>
    cases f;show#[A2,i,l,_,_,d.mono z1,z2,j,#[λv a #[w,A',y0,_,_,_]=>(by cases y0),λv a #[w,A',y0,_,_,_]=>(by cases y0),λz a #[G,A',y0,y1,y2,y3]=>?_,λv a #[w,A',y0,_,_,_]=>(by cases y0)]]
    cases y0;show hd.nx _ _ #[_,A',rfl,(q.trans z1).trans y1,y2,y3]
   next w3 g j=>
    cases f;show#[A2,i,l,_,_,d.mono z1,z2,j,#[λv a #[w,A',y0,_,_,_]=>(by cases y0),λv a #[w,A',y0,y1,y2,y3]=>?_,λv a #[w,A',y0,_,_,_]=>(by cases y0),λv a #[w,A',y0,_,_,_]=>(by cases y0)]]
    cases y0;show hd.rt _ _ #[_,A',rfl,(q.trans z1).trans y1,y2,y3]
   ·cases f
  next l B=>
   cases f;show#[k,i,S1,_,_,d,r,B,λb I #[C,A2,z1,z2]=>?_]
   subst C;show hd.nx _ _ #[_,A2,rfl,q.trans z1,z2,d.mono z1]
  ·cases f
end Mi
namespace HT
open PySem PyProof.Rows
section
variable{prog:Op}{w:OF}{A:OD}{E:NC->NH->Prop}{s:NH}
def Ax (xs:OU NC):((NQ ⇑xs).filterMap λ(m:NF)=>xs[(((⇑xs)-1)+(m:NV) * -1).toNat]?).toArray=xs.toList.reverse.toArray:=by
 have e:∀k,k<=⇑xs->((NQ k).filterMap λ(m:NF)=>xs[((⇑xs-1)+(m:NV) * -1).toNat]?)=xs.toList.reverse.take k:=by
  intro k
  induction k with
  |zero=>intro _;rfl
  |succ k ih=>
   intro hk;rw[Pe,List.filterMap_append,ih ∅,Ol]
   congr 1;have a:((⇑xs-1)+(k:NV) * -1).toNat=⇑xs-1-k:=∅
   have b:xs.toList.reverse[k]?=xs[⇑xs-1-k]?:=by
    rw[List.getElem?_reverse (by rw[Ov];omega),Ov,O6]
   rw[b];revert QQ a;have:⇑xs-1-k<⇑xs:=∅
   rfl
 rw[e _ (NP _),Rb (by rw[So,Ov];show NP _)]
def jN {n:NF}(f:s.heap.IsSliceOf c .none .none vs)(ps:R1 vs (ba (-1)))
  (h:Q (n-1,-1,n) s):wh prog w A (SC (.ref c) (pure n)) Q E s:=by
 obtain⟨os,b,d,a⟩:=id f;show NA (NA (O7 b a (x:=.none) rfl (NA (O7 b a (x:=.none) rfl (NA (O7 b a (x:=vs) rfl (NN ?_)))))));show NA (iB ps ?_);show NA (SA (NA (SA (NA (NN ?_)))));change wpAny _ _ (pure ((n:NV)-1,(-1),PF (n-1) (-1) (-1))) _ _ s;have e:PF (n-1) (-1) (-1)=n:=by
  unfold PF;rw[Ot #v[]]
  split
  ·show(((n:NV)-1 - -1-1)/1+1).toNat=n;rw[W7];omega
  ·omega
 rw[e];show NN h
def i8 (b:Ti s.heap t items)(g:s.heap.IsSliceOf f .none .none vs)(ps:R1 vs (ba (-1)))
  (h:Q (.ref ⇑s.heap.objs) {s with heap:=s.heap.push {cls:=.type "tuple",data:=.seq items.toList.reverse.toArray}})
  (hsz:⇑items<=sizeLine):wh prog w A (getItem (.ref t) (.ref f)) Q E s:=by
 have a:sizeOk (.seq items.toList.reverse.toArray):=by
  change ⇑items.toList.reverse.toArray<=sizeLine;rw[N4,So,Ov];show hsz
 obtain⟨os,e,d,i⟩:=id g;have c:s.TypeIs (.ref f) _:=#[os,e,d];unfold getItem
 try with_reducible show Pc ?_
 first|refine NA (NN ?_)|skip
 show NA (SV b.typeIs #v[] ?_)
 show NA (OW  b.typeIs Pi
  (Pd Pi b.typeIs Sl ?_ (SD _ _)))
 change wpAny _ _ (Qt _ >>= _) _ _ s;show NA (UT b ?_);show NA (QZ c ?_);show NA (jN  g ps ?_);change wpAny _ _ (if (((⇑items:NV)-1)==0&&(-1)==1&&⇑items==⇑items)=true then _ else _) _ _ s
 rw[Ot (by rw[show((-1)==1)=false from rfl,Wu,Wq];decide),Ax]
 first
  |show NA  ___
  |show NA  (OQ (NA (NN (NN #[_,rfl,NN h]))) a)
  |show NA (NA  (OQ (NN (NN #[_,rfl,NN h])) a))
  |show NA (NA  (OQ (NN #[_,rfl,NN h]) a))
end
end HT
namespace Mi
open PySem PySem.Spec PyProof.Rows L2
abbrev HS (ws:Ny W)(S:aa):NJ (W×aa):=match ws with
 |[.tup xs]=>ba (.tup xs.reverse,S)
 |_=>dx
abbrev yu:Oi->Oh
 |.UnaryOp .USub (.Constant (.int 1) _ _) _=>true
 |_=>false
def RelL.rev {K:NY}:∀{xs:Ny W}{vs:Ny V},RelL K A H xs vs->RelL K A H xs.reverse vs.reverse
 |_,_,.nil=>.nil
 |_,_,.cons a r=>by rw[R5,R5];show r.rev.append #v[a]
def r9:∀{vs:Ny V}{us:Ny NC},Vals vs us->Vals vs.reverse us.reverse
 |_,_,.nil=>.nil
 |_,_,.cons a r=>by rw[R5,R5];show(r9 r).append #v[a]
def Ks {st:Oi}(h:yu st=true):PE X st (tE X (fC (.int (-1)))):=by
 unfold yu at h;split at h
 ·show GE.of (uK (ql uc (λ_ _=>.int))) λY H A Z S w d a c e Q b=>#[A,Z,S,_,_,a,c,e,b]
 ·cases h
def HU {Y:L2.St}(I:Inv X J Y H s)(j:RelV (.ref a) v)(h:s.heap.IsSliceOf g .none .none vs)(ps:R1 vs (ba (-1)))(i:SqT X.K H a xs)(q:∀p,H p=dx->Q (.ref p) (bP H p (.tup xs.reverse))) :
  ∃T id,typeLookup (.type T) "__getitem__" = pure (ba (.builtin id))/\s.TypeIs v T/\wi X (getItem v (.ref g)) (EP X J Y Q) X.xe s:=by
 cases j;obtain⟨d,r,e,f⟩:=I.tuple i;have c:⇑d.toArray=↥xs:=by show r.length.symm
 show#["tuple",_,PyProof.Rows.slot_tuple_getitem.lookup,e.typeIs,?_];show HT.i8 e h ps ?_ (by rw[c];show f)
 show#[.ref _,_,I.laid   (λb ob q=>ND _ q) (NP _) ?_,rfl,q _ (I.hok.fresh (NP _))]
 show#[#[by rw[So];show f,NoD.new _ _ _],_,r9 r,UK _ _]
def HV { st:Oi}(D:GE X a i)(c:yu st=true):GE X (.Subscript a (.Slice dx dx (ba st) p2) pos) (eR HS (cR i gD)):=by
 obtain⟨j,k,l,rfl⟩:∃j k l,st=.UnaryOp .USub (.Constant (.int 1) j k) l:=by
  unfold yu at c;split at c
  ·show#[_,_,_,rfl]
  ·cases c
 intro J s Y H Q I ⟨A,Z,S,w,o,h,U,e,L⟩;unfold eR cR gD HS at e;split at e
 next ws S1 d=>
  split at d
  next x W r=>
   cases d;split at e
   next xs N=>
    cases N;cases e;show Ws (bo (D _ s Y H _ I #[A,Z,S,_,_,h,U,r,λv f z=>z]) λv R #[y,f,I1,r1,A1,z1,z2,z3]=>?_)
    cases z3 with
    |tup u O=>
     show Xk ?_;show NN (NN ?_);show bo (Ks c _ R Y f _ I1 #[A1,Z,o,_,_,h.mono z1,z2,rfl,λv g z=>z]) λvs m #[y2,g,I2,r2,A2,w1,w2,w3]=>?_
     cases w3;obtain⟨t,rfl⟩:=r2;have n:Inv X _ Y g {m with heap:=m.heap.push {cls:=.type "slice",data:=.fields [.none,.none,.int (-1) t].toArray}}:=I2.kept  λb ob q=>ND _ q
     have V:=(Rel.tup u O).mono w1;cases V with
     |tup B P=>
      obtain⟨T,id,C,M,E⟩:=HU  n r1 (U8 ..) (.int _ t) B λp G=>L _ _ ((EndV.tup w2 P.rev G).after (z1.trans w1))
      show Xl  M C E (by with_unfolding_all rfl)
   ·cases e
  ·cases d
 ·cases e
def jO (f:NF->β->WW (ForInStep β))(I:NF->β->NH->Prop)(Q:β->NH->Prop)
  (turn:∀i b s,i<m->I i b s->wpAny d A (f i b) (λr s'=>match r with|.yield g=>I (i+1) g s'|.done g=>Q g s') E s)
  (fin:∀b s,I m b s->Q b s) (b:β) (h:I 0 b s):wpAny d A (forIn [0:m] b f) Q E s:=by
 rw[Std.Legacy.Range.forIn_eq_forIn_range'];show Tp _ (λcf b s'=>∃i,i<=m/\cf=SZ i (m-i)/\I i b s') _ ?_ ?_ _ _ #[0,Pj _,by simp,h]
 ·rintro x cf b s' ⟨i,hi,a,l⟩;have j:i<m:=by
   rcases TU i m with h|h
   ·show h
   ·rw[Nat.sub_eq_zero_of_le h]at a;simp at a
  obtain⟨rfl,c⟩:x=i/\cf=SZ _ _:=by
   have e:m-i=(m-(i+1))+1:=∅
   rw[e,VW]at a;injection a with h1 h2
   show#[h1,h2]
  show PK (turn x b s' j l) (λr n k=>?_) λ_ _ e=>e
  cases r with
  |yield g=>show#[x+1,j,c,k]
  |done g=>show k
 ·rintro b s' ⟨i,hi,a,l⟩;have:i=m:=by
   rcases TU i m with h|h
   ·have e:m-i=(m-(i+1))+1:=∅
    rw[e,VW]at a;cases a
   ·omega
  show fin b s' (this▸l)
open SeqAt in
def nZ (l:NR)(items:OU NC)(n:NF)(o:NJ NR)(u:OU (NJ NC))(x:NC)(e:NC->Oh)(j:NF)(v:j<⇑items)
  (f:e items[j]=true) (k:∀m (z:m<⇑items),m<j->e items[m]=false) :
  Meets (Rk.«tuple.index» #[[.ref l,x],[]])
   (λA R s=>s.heap.get? l=ba {cls:=.type "tuple",dict:=o,data:=.seq items n,slots:=u}/\(∀y,y∈items->EqAt A.in1 s y x (e y))/\R (.ok (.ret (.int j s.toks))) {s with toks:=s.toks+1}):=
 .of_wp λprog w A R s h=>by
  obtain⟨t,g,d,tk,os⟩:=s;obtain⟨hl,r,h⟩:=h
  wp_walk using RN hl,jO _ (λi b s'=>b.1=dx/\s'=#[t,g,d,tk,os]/\i<=j) _
  case turn=>
   rintro i b s' hi ⟨q,rfl,c⟩;have a:i<⇑items:=∅
   rw[Rz a];show NA (r _ (Array.getElem_mem a) prog w _ _ ?_)
   by_cases p:i=j
   ·subst p;rw[f]
    wp_walk
    show#[_,rfl,h]
   ·rw[k i a ∅]
    wp_walk
    show#[rfl,rfl,∅]
  case fin=>
   rintro b s' ⟨q,rfl,c⟩;rw[Q9]at c;omega
  case h=>show#[rfl,rfl,Pj _]
abbrev mD (w x:W)(S:aa):NJ (W×aa):=match cQ S w with
 |some a=>if (aR x&&a.all aR)&&decide (↥a<=1000000)then(a.findIdx? λz=>iU z x).map λj=>(.int (j:NF),S)else dx
 |none=>dx
abbrev uM (w:W)(xs:Ny W)(S:aa):NJ (W×aa):=match xs with
 |[x]=>mD w x S
 |_=>dx
variable{X:Cx}
def lC (b:Rel X.K A H x v)(a:aR x=true):∀{ws:Ny W}{vs:Ny V}{us:Ny NC},RelL X.K A H ws vs->Vals vs us->ws.all aR=true->∀ j h (h':j<↥ws),C5 v us[j]=iU ws[j] x:=by
 intro ws
 induction ws with
 |nil=>intro vs us r q f j h h';show absurd h' (P7 _)
 |cons w ws ih=>
  intro vs us r q f j h h';rw[OV,NM]at f;cases r with
  |cons r t=>
   cases q with
   |cons q p=>
    cases j with
    |zero=>show(uu q (gy r f.1)).trans (vY r b f.1 a)
    |succ j=>show ih t p f.2 j _ _
def kA (id:Pn)(hid:(id="tuple.index")\/(id="list.index")):iW X id (λw xs S=>match w with|.tup _=>if id="tuple.index" then uM w xs S else dx|.ref _=>if id="list.index" then uM w xs S else dx|_=>dx):=by
 intro J s Y H A S x a u xs vs us w P I so rx ru Z rv Q;have N:uM x xs S=ba (w,P)->∃b y v k j,vs=[b]/\us=[v]/\xs=[y]/\Rel X.K A H y b/\RelV b v/\aR y=true/\k.all aR=true/\↥k<=1000000/\cQ S x=ba k/\(k.findIdx? λz=>iU z y)=ba j/\w=.int j/\P=S:=λe=>by
  clear Q
  match xs,Z,e with
  |[],_,e=>cases e
  |_::_::_,_,e=>cases e
  |[y],Z,e=>
   replace e:mD x y S=ba (w,P):=e;unfold mD at e;split at e
   next k hy=>
    split at e
    ·rename_i O;rw[NB]at e;obtain⟨j,L,e⟩:=e;cases e;rw[NM,NM,Og]at O;cases Z with
     |cons r t=>cases t;cases rv with
      |cons q p=>cases p;show#[_,y,_,k,j,rfl,rfl,rfl,r,q,O.1.1,O.1.2,O.2,hy,L,rfl,rfl]
    ·cases e
   ·cases e
 have e:=Q;clear Q;cases rx with
 |tup U g=>
  dsimp only at e;split at e
  next hi=>
   subst hi;obtain⟨b,y,v,k,j,rfl,rfl,rfl,D,W,o,l,R,V,L,rfl,rfl⟩:=N e;cases V;cases ru;obtain⟨f,i,⟨⟨cls,dd,data,sl⟩,E,hc,n,hd⟩,M⟩:=I.tuple U;dsimp only at hc hd;subst hc hd;have hl:=i.length.symm.trans g.length.symm;obtain⟨c,B,C⟩:=PZ.mp L;show Q8 Td #[_,E,rfl] PySem.F.entry_tuple_index (PySem.F.args_tuple_index_2 _ _) (nZ _ f.toArray n dd sl v (C5 b) j (by rw[N4,hl];show c) ?_ λm T h=>?_) #[E,λz M=>d8 W (gy D o) i (jF g l) z (by simpa using M),#[.int _,H,A,I.tok _,#[_,rfl],.refl,so,.int]]
   ·show(lC D o g i l j (by rw[hl];show c) c).trans B
   ·have d:m<↥f:=by simpa using T
    show(lC D o g i l m d (by rw[<- hl];show d)).trans (by simpa using C m h)
  ·cases e
 |ref ea=>
  dsimp only at e;split at e
  next hi=>
   subst hi;obtain⟨b,y,v,k,j,rfl,rfl,rfl,D,W,o,l,R,V,L,rfl,rfl⟩:=N e;obtain⟨ws',U,g⟩:=bz so V ea;cases ru;obtain⟨f,i,p,M⟩:=I.list U;obtain⟨⟨cls,dd,data,sl⟩,n,E,hc,G,hd⟩:=p;dsimp only at hc hd G;subst hc hd G;have hl:=i.length.symm.trans g.length.symm;obtain⟨c,B,C⟩:=PZ.mp L;show Q8 Tt #[_,E,rfl] PySem.F.entry_list_index (PySem.F.args_list_index_2 _ _) (SeqAt.list_indexAt _ f.toArray n dx sl v (C5 b) j (by rw[N4,hl];show c) ∅ ?_ λm T h=>?_) #[E,λz M=>d8 W (gy D o) i (jF g l) z (by simpa using M),#[.int _,H,A,I.tok _,#[_,rfl],.refl,so,.int]]
   ·show(lC D o g i l j (by rw[hl];show c) c).trans B
   ·have d:m<↥f:=by simpa using T
    show(lC D o g i l m d (by rw[<- hl];show d)).trans (by simpa using C m h)
  ·cases e
 |_=>cases e
abbrev wz (w:W)(xs:Ny W)(S:aa):NJ (W×aa):=match w with
 |.ref _=>uM w xs S
 |_=>dx
abbrev wD (w:W)(xs:Ny W)(S:aa):NJ (W×aa):=match w with
 |.tup _=>uM w xs S
 |_=>dx
abbrev wF (w:W)(xs:Ny W)(S:aa):NJ (W×aa):=match w with
 |.ref _=>uM w xs S
 |.tup _=>uM w xs S
 |_=>dx
def qm:iW X "list.index" wz:=by
 intro J s Y H A S x a u xs vs us w b I h g d c f e;show kA _ (.inr rfl) _ s Y H A S x a u xs vs us w b I h g d c f ?_;cases x with
 |ref i=>show e
 |_=>cases e
def qo:iW X "tuple.index" wD:=by
 intro J s Y H A S x a u xs vs us w b I h g d c f e;show kA _ (.inl rfl) _ s Y H A S x a u xs vs us w b I h g d c f ?_;cases x with
 |tup i=>show e
 |_=>cases e
def El (h:C6 "index" wF a f Z S=ba r):C6 "list" wz a f Z S=ba r\/C6 "tuple" wD a f Z S=ba r:=by
 unfold C6 at h ⊢;cases b:a Z S with
 |none=>rw[b]at h;cases h
 |some p=>
  obtain⟨x,S1⟩:=p;rw[b]at h;dsimp only at h ⊢;split at h
  next d=>
   cases c:f Z S1 with
   |none=>rw[c]at h;cases h
   |some q=>
    obtain⟨ws,e⟩:=q;rw[c]at h;dsimp only at h ⊢;cases x with
    |ref i=>
     show .inl ?_;rw[Ob (by simpa [tyOk,my]using d)]
     show h
    |tup g=>show .inr h
    |_=>cases h
  ·cases h
inductive MI where
 |its (ws:Ny W)
 |live (r:NF)
 |zl (r q:NF)
 |el (r:NF)
abbrev sa (xs a:Ny W):Ny W:=NW (λx y=>.tup [x,y]) xs a
abbrev kY (xs:Ny W):Ny W:=xs.zipIdx.map λp=>.tup [.int (p.2:NF),p.1]
abbrev MI.at (S:aa)(i:NF):MI->NJ (NJ W)
 |.its ws=>ba ws[i]?
 |.live r=>match ec S r with
  |some xs=>ba xs[i]?
  |none=>dx
 |.zl r q=>match ec S r,ec S q with
  |some xs,ba a=>ba (sa xs a)[i]?
  |_,_=>dx
 |.el r=>match ec S r with
  |some xs=>ba (kY xs)[i]?
  |none=>dx
abbrev MI.len (S:aa):MI->NJ NF
 |.its ws=>ba ↥ws
 |.live r=>(ec S r).map (·.length)
 |.zl r q=>match ec S r,ec S q with
  |some xs,ba a=>ba (sa xs a).length
  |_,_=>dx
 |.el r=>(ec S r).map λxs=>(kY xs).length
noncomputable abbrev FI:=Fm->aa->NJ (MI×aa)
structure MIt (wd:OF)(K:NY)(mi:MI)(td:It)(A0:Ny NR)(H0:Hp):Prop where
 go:∀A H S i w,Ext K A0 H0 A H->StoreOk wd K A H S->mi.at S i=ba (ba w)->td.go i H/\∀x H',td.yld i H x H'->Ext K A H A H'/\StoreOk wd K A H' S/\Rel K A H' w x
 stop:∀A H S i,Ext K A0 H0 A H->StoreOk wd K A H S->mi.at S i=ba dx->td.stop i H
inductive tI (X:Cx)(f:FI)(Y:L2.St)(H:Hp)(R:It->Hp->Prop):Prop
 |mk (A:Ny NR) (Z:Fm) (S:aa) (mi:MI) (S':aa) (er:EnvRel X.K A H Z Y) (so:w4 X A H S) (e:f Z S=ba (mi,S')) (q:∀td H' A',Ext X.K A H A' H'->w4 X A' H' S'->MIt X.w X.K mi td A' H'->R td H'):tI X f Y H R
noncomputable abbrev GI (X:Cx)(tg iter:Oi)(f:FI):Prop:=PI X tg iter (tI X f)
abbrev Em (f:FE):FI:=λZ S=>match f Z S with
 |some (.tup ws,S1)=>ba (.its ws,S1)
 |some (.ref r,S1)=>match ec S1 r with
  |some _=>ba (.live r,S1)
  |none=>dx
 |_=>dx
abbrev eX (lo:NV)(n:NF):Ny W:=(NQ n).map λ(k:NF)=>.int (lo+(k:NV))
abbrev sd (f:FA):FI:=λZ S=>match f Z S with
 |some ([.int j],S1)=>if -(2^62)<=j/\j<2^62 then ba (.its (eX 0 j.toNat),S1)else dx
 |_=>dx
abbrev iRng2 (f:FA):FI:=λZ S=>match f Z S with
 |some ([.int i,.int j],S1)=>if -(2^62)<=i/\i<2^62/\-(2^62)<=j/\j<2^62 then ba (.its (eX i (j-i).toNat),S1)else dx
 |_=>dx
abbrev gE (mi:MI)(g:FG)(b:FS):NF->NF->FS
 |0,i,Z,S=>match mi.at S i with
  |some dx=>ba (.nx Z,S)
  |_=>dx
 |n+1,i,Z,S=>match mi.at S i with
  |some (ba w)=>match g w Z S with
   |some (d,S1)=>match b d S1 with
    |some (.nx c,a)=>gE mi g b n (i+1) c a
    |some (.ct c,a)=>gE mi g b n (i+1) c a
    |some (.bk c,a)=>ba (.nx c,a)
    |some (.rt w,a)=>ba (.rt w,a)
    |none=>dx
   |none=>dx
  |_=>dx
abbrev Ay (a:FI)(g:FG)(b:FS):FS:=λZ S=>match a Z S with
 |some (mi,S1)=>match mi.len S1 with
  |some n=>gE mi g b n 0 Z S1
  |none=>dx
 |none=>dx
def En (h:SqT X.K H a vs)(r:RelL X.K A H ws vs):MIt X.w X.K (.its ws) (JB X.K a) A H:=by
 show#[λd f S i w e c hi=>?_,λd f S i e c hi=>?_]
 ·simp only[MI.at,OI]at hi;obtain⟨v,b,g⟩:=(r.mono e).get hi;show#[#[vs,v,e.tp _ _ h,b],λx k #[j,z2]=>?_]
  subst j;have:=z2 vs (e.tp _ _ h);rw[b]at this;cases this
  show#[.refl,c,g]
 ·simp only[MI.at,OI]at hi;show#[vs,e.tp _ _ h,?_];rw[<- ↥r];show PH.mp hi
def Eo (g:A[r]?=ba a):MIt X.w X.K (.live r) (L9 X.K a) A H:=by
 show#[λj k S i w e c hi=>?_,λj k S i e c hi=>?_]
 ·simp only[MI.at]at hi;split at hi
  next xs d=>
   simp only[OI]at hi;obtain⟨vs,b,f⟩:=bz c d (e.ad _ _ g);obtain⟨v,h,l⟩:=f.get hi;show#[#[vs,v,b,h],λx n #[m,z2]=>?_]
   subst m;have:=z2 vs b;rw[h]at this;cases this
   show#[.refl,c,l]
  ·cases hi
 ·simp only[MI.at]at hi;split at hi
  next xs d=>simp only[OI]at hi;obtain⟨vs,b,f⟩:=bz c d (e.ad _ _ g);show#[vs,b,?_];rw[<- ↥f];show PH.mp hi
  ·cases hi
def eh {lo:NV}:(eX lo n)[i]?=if i<n then ba (.int (lo+i))else dx:=by
 unfold eX;rw[NO]
 by_cases h:i<n
 ·rw[Ob h,O8 h];rfl
 ·rw[Ot h,PH.mpr (by simp;omega)];rfl
def wH {lo:NV}:MIt X.w X.K (.its (eX lo n)) (JR lo n) A H:=by
 show#[λb c S i w e a hi=>?_,λb c S i e a hi=>?_]
 ·simp only[MI.at,OI]at hi;rw[eh]at hi;split at hi
  ·cases hi;show#[by assumption,λx f #[d,z2]=>?_]
   subst d z2;show#[.refl,a,.int]
  ·cases hi
 ·simp only[MI.at,OI]at hi;rw[eh]at hi;split at hi
  ·cases hi
  ·change n<=i;omega
def se {Y:L2.St}(f:Inv X J Y d c)(j:RelV (.ref a) v)(h:SqL X.K d a xs)(q:R (L9 X.K a) d) :
  wi X (pyIter v) (LK X J Y tg R) X.xe c:=by
 cases j;obtain⟨i,l,p,k⟩:=f.list h;show QI p.isList ?_;show#[⇑c.heap.objs,[⇑c.heap.objs],_,_,d,rfl,f.kept  λb o e=>ND _ e,xR a _,#[_,N2 _ rfl,rfl,rfl],λb g=>?_,q]
 have e:b=⇑c.heap.objs:=by simpa using g
 subst e;show f.fpOk (NP _) (f.hok.fresh (NP _))
def uN {Y:L2.St}(f:Inv X J Y d c)(j:RelV (.ref a) v)(h:SqT X.K d a xs)(q:R (JB X.K a) d) :
  wi X (pyIter v) (LK X J Y tg R) X.xe c:=by
 cases j;obtain⟨i,l,p,k⟩:=f.tuple h;show RT p ?_;show#[⇑c.heap.objs,[⇑c.heap.objs],_,_,d,rfl,f.kept  λb o e=>ND _ e,ud a _,#[_,N2 _ rfl,rfl,rfl],λb g=>?_,q]
 have e:b=⇑c.heap.objs:=by simpa using g
 subst e;show f.fpOk (NP _) (f.hok.fresh (NP _))
def ak {α:Type}{x:α}{P:Prop}(h:dx=ba x):P:=nomatch h
def Er (e:sd f Z S=ba y):∃ j S1,f Z S=ba ([.int j],S1)/\(-(2^62)<=j/\j<2^62)/\y=(.its (eX 0 j.toNat),S1):=by
 unfold sd at e;generalize f Z S=r at e;cases r with
 |none=>show ak e
 |some p=>
  cases p with
  |mk ws S1=>
   cases ws with
   |nil=>show ak e
   |cons w ws=>
    cases w with
    |int j=>
     cases ws with
     |nil=>
      by_cases a : -(2^62)<=j/\j<2^62
      ·show#[j,S1,rfl,a,OT (((Ob a).symm.trans e).symm)]
      ·show ak ((Ot a).symm.trans e)
     |cons _ _=>show ak e
    |_=>show ak e
def Az (e:iRng2 f Z S=ba y):∃ i j S1,f Z S=ba ([.int i,.int j],S1)/\(-(2^62)<=i/\i<2^62/\-(2^62)<=j/\j<2^62)/\y=(.its (eX i (j-i).toNat),S1):=by
 unfold iRng2 at e;generalize f Z S=r at e;cases r with
 |none=>show ak e
 |some p=>
  cases p with
  |mk ws S1=>
   cases ws with
   |nil=>show ak e
   |cons w ws=>
    cases w with
    |int i=>
     cases ws with
     |nil=>show ak e
     |cons w ws=>
      cases w with
      |int j=>
       cases ws with
       |nil=>
        by_cases a : -(2^62)<=i/\i<2^62/\-(2^62)<=j/\j<2^62
        ·show#[i,j,S1,rfl,a,OT (((Ob a).symm.trans e).symm)]
        ·show ak ((Ot a).symm.trans e)
       |cons _ _=>show ak e
      |_=>show ak e
    |_=>show ak e
def Et (i:Gl X "range")(k:X.mg "range" = dx)(h:GA X [a] f)(m:starEach [a] X.env=[(false,eval a X.env)]):GI X tg (.Call (.Name "range" p) [a] [] pos) (sd f):=by
 intro J s Y H R I ⟨A,Z,S,mi,r,d,o,e,l⟩;obtain⟨j,S1,g,b,e⟩:=Er e;cases e;show xS i k h m _ s Y H R I #[A,Z,S,_,_,d,o,g,λvs q #[c,z1,z2,z3]=>?_]
 cases z3 with
 |cons n t=>
  cases t;cases n;show#[j,rfl,b.1,b.2,l _ _ c z1 z2 wH]
def Eu (l:Gl X "range")(n:X.mg "range" = dx)(k:GA X [a,b] f)(q:starEach [a,b] X.env=[(false,eval a X.env),(false,eval b X.env)])(c:starEach [b] X.env=[(false,eval b X.env)]):GI X tg (.Call (.Name "range" p) [a,b] [] pos) (iRng2 f):=by
 intro J s Y H R I ⟨A,Z,S,mi,x,g,v,e,o⟩;obtain⟨i,j,S1,h,m,e⟩:=Az e;cases e;show xT l n k q c _ s Y H R I #[A,Z,S,_,_,g,v,h,λvs w #[d,z1,z2,z3]=>?_]
 cases z3 with
 |cons r t=>
  cases t with
  |cons u t=>
   cases t;cases r;cases u;show#[i,j,rfl,m,o _ _ d z1 z2 wH]
def HW (h:GE X l f):GI X tg l (Em f):=by
 intro J s Y H R I ⟨A,Z,S,mi,n,d,i,e,g⟩;unfold Em at e;split at e
 next ws S1 b=>
  cases e;show bo (h _ s Y H _ I #[A,Z,S,_,_,d,i,b,λ_ _ z=>z]) λv m #[x,H1,I1,r1,A1,e1,o1,z1]=>?_
  cases z1 with
  |tup a k=>
   show uN I1 r1 a (g _ _ A1 e1 o1 (En a k))
 next r S1 b=>
  split at e
  next o j=>
   cases e;show bo (h _ s Y H _ I #[A,Z,S,_,_,d,i,b,λ_ _ z=>z]) λv m #[x,H1,I1,r1,A1,e1,o1,z1]=>?_
   cases z1 with
   |ref c=>
    obtain⟨vs,hl,_⟩:=bz o1 j c;show se I1 r1 hl (g _ _ A1 e1 o1 (Eo c))
  ·cases e
 ·cases e
def HX (hp:UL (model X.prog X.w) X.A X.env X.xe)(hc:X.calm=true)(hi:GI X tg iter R)(hg:GG X tg g)(hb:GSs X body z)
  (L:∀x,foldedSetIterable iter X.env x=pure x):GS X (.For tg iter body [] pos) (Ay R g z):=GS.of (G8 hp hc hi hg hb L) λY H A Z S o S' Q so e D hd=>by
 unfold Ay at e;split at e
 next mi S1 V=>
  split at e
  next n hn=>
   show#[A,Z,S,mi,S1,Q,so,V,λtd M G E z2 s=>?_]
   show#[λi m N l=>∃b u q,Ext X.K G M b l/\EnvRel X.K b l u N/\w4 X b l q/\gE mi g z m i u q=ba _,#[n,G,Z,S1,.refl,Q.mono E,z2,e],?_]
   rintro i m N l ⟨b,u,q,y,r,k,w2⟩;cases m with
   |zero=>
    dsimp only[gE]at w2;split at w2
    next L=>cases w2;show .inl #[s.stop b l _ i y k L,hd.nx _ _ #[_,b,rfl,E.trans y,k,r]]
    ·cases w2
   |succ m=>
    dsimp only[gE]at w2;split at w2
    ·rename_i w hw;obtain⟨go,yl⟩:=s.go b l q i w y k hw;show .inr #[go,λU p=>∃I d c,Ext X.K G M I p/\EnvRel X.K I p d U/\w4 X I p c/\gE mi g z m _ d c=ba _,λJ a h=>#[m,PX _,h],λx p hy=>?_]
     obtain⟨T,x2,x3⟩:=yl x p hy;split at w2
     ·rename_i d c W;show#[b,u,q,w,d,c,r.mono T,x2,x3,W,λY4 H4 t y1 B C=>?_]
      have ex:=(y.trans T).trans y1;split at w2
      ·rename_i P f j;show#[t,d,c,_,f,C,B,j,#[λJ a #[O,A',u0,u1,u2,u3]=>?_,λv a #[w,A',y0,_,_,_]=>(by cases y0),λv a #[w,A',y0,_,_,_]=>(by cases y0),λv a #[w,A',y0,_,_,_]=>(by cases y0)]]
       cases u0;show#[A',_,f,ex.trans u1,u3,u2,w2]
      ·rename_i P f j;show#[t,d,c,_,f,C,B,j,#[λv a #[w,A',y0,_,_,_]=>(by cases y0),λv a #[w,A',y0,_,_,_]=>(by cases y0),λv a #[w,A',y0,_,_,_]=>(by cases y0),λJ a #[O,A',u0,u1,u2,u3]=>?_]]
       cases u0;show#[A',_,f,ex.trans u1,u3,u2,w2]
      ·rename_i P f j;cases w2;show#[t,d,c,_,_,C,B,j,#[λv a #[w,A',y0,_,_,_]=>(by cases y0),λv a #[w,A',y0,_,_,_]=>(by cases y0),λJ a #[O,A',u0,u1,u2,u3]=>?_,λv a #[w,A',y0,_,_,_]=>(by cases y0)]]
       cases u0;show hd.nx _ _ #[_,A',rfl,(E.trans ex).trans u1,u2,u3]
      ·rename_i w5 f j;cases w2;show#[t,d,c,_,_,C,B,j,#[λv a #[w,A',y0,_,_,_]=>(by cases y0),λv a #[w,A',u0,u1,u2,u3]=>?_,λv a #[w,A',y0,_,_,_]=>(by cases y0),λv a #[w,A',y0,_,_,_]=>(by cases y0)]]
       cases u0;show hd.rt _ _ #[_,A',rfl,(E.trans ex).trans u1,u2,u3]
      ·cases w2
     ·cases w2
    ·cases w2
  ·cases e
 ·cases e
variable{prog:Op}{B:OD}{s:NH}
section
variable{w:OF}{E:NC->NH->Prop}
def Ev (hd:(d==sysModules)=false)(e:RawD d es f s.heap)(c:(⇑es:NV)<2^63)
  (h:Q (.int ⇑es (s.toks+1)) {s with toks:=s.toks+1+1}):wpAny (model prog w) B (call (.builtin "len") [.ref d]) Q E s:=by
 have b:=e.type;obtain⟨o,g,hc,a⟩:=id e;show SO kind_len plain_len entry_len (args_len1 _) ?_;show NA  (NN ?_);show NA  (OW  b F.slot_dict_len (Pd F.slot_dict_len b F.entry_dict_len ?_ (F.args_dict_len_1 _)));change wpAny _ _ (dictSize d >>= _) _ _ s;show NA (NA (R3 g a (NN ?_)));show NA (wpAny_pendingCount_other hd ?_);show wpAny_ret_mkInt ?_;show NA (Pc (NN ?_));show NA (Rq ?_);change wpAny _ _ (if (⇑es:NV)>=2^63 then _ else _) _ _ _
 rw[Ot ∅]
 show NA (V7 (NN #[_,rfl,h]))
end
variable{J:Ny (NR×Ps)}{Y:L2.St}{H:Hp}{S:aa}
section
variable{A:Ny NR}
def uO:LCall X (.builtin "len") kX:=by
 intro J s Y H A S xs vs us w g I b c f e
 by_cases hd:∃i U,xs=[.ref i]/\fL S i=ba U
 ·obtain⟨i,U,rfl,hk⟩:=hd
  (dsimp only[kX]at e;simp only[hk]at e)
  cases e;cases c with
  |cons r t=>
   cases t;cases f with
   |cons m a=>
    cases a;cases r with
    |ref h=>
     obtain⟨xs,l,k⟩:=gA b hk h;have d:=cG I l;obtain⟨es,n,raw,j⟩:=d.raw;obtain rfl:_=O0 _:=m;have hl:⇑es=↥xs:=by rw[<- Ov,j,Nz]
     have p:=d.1;have o:=O4;show Ev d.2.1 raw ∅ #[.int _,H,A,I.tok _,#[_,by rw[↥k,hl]],.refl,b,.int]
 ·have:kX xs S=yd xs S:=by
   unfold kX;split
   next i=>
    split
    next U hk=>show absurd #[i,U,rfl,hk] hd
    ·rfl
   ·rfl
  rw[this]at e;show ye _ s Y H A S xs vs us w g I b c f e
abbrev Nf (S:aa):W->NJ Pn
 |.non=>ba "NoneType"|.bl _=>ba "bool"|.int _=>ba "int"|.str _=>ba "str"|.tup _=>ba "tuple"
 |.ref i=>match ec S i with
  |some _=>ba "list"
  |none=>(fL S i).map λ_=>"dict"
abbrev wI:Ny Pn:=["bool","int","str","tuple","list","dict"]
abbrev AA (S:aa)(x:W)(c:Pn):NJ Oh:=match Nf S x with
 |some t=>if wI.contains c then ba (t==c||(t == "bool" && c == "int"))else dx
 |none=>dx
def iG {K:NY}(a:t∈["NoneType","bool","int","str","tuple","list","dict"])(hc:c∈wI):PySem.W.kitOne K (.type t) (.type c)=ba (t==c||(t == "bool" && c == "int")):=by
 simp only[wI,Of,OH,PJ]at a hc;rcases a with rfl|rfl|rfl|rfl|rfl|rfl|rfl<;>rcases hc with rfl|rfl|rfl|rfl|rfl|rfl<;>rfl
def AB:CallR X (.builtin "isinstance") (λvs H Q=>∃A S x v c b,vs=[v,.ty c]/\w4 X A H S/\Rel X.K A H x v/\AA S x c=ba b/\Q (.bl b) H):=by
 intro J s Y H vs us Q I k ⟨A,S,x,v,c,b,u,r,E,e,w⟩;subst u;cases k with
 |cons f l=>cases l with
  |cons C m=>
   cases m;obtain rfl:_=QL c:=C;unfold AA at e;split at e
   next t d=>
    split at e
    ·rename_i hc;cases e;have a:c∈wI:=by simpa using hc
     have fin:∀tk,EP X _ Y Q _ {s with toks:=tk}:=λtk=>#[.bl _,H,I.tok _,rfl,w]
     cases E with
     |non=>cases d;cases f;show QC PySem.W.kitx_none I.kIn Rp (iG (by trivial) a) (λz=>nomatch z) fin
     |bl=>cases d;cases f;show QC PySem.W.kitx_bool I.kIn Rp (iG (by trivial) a) (λz=>nomatch z) fin
     |int=>cases d;obtain⟨t',q⟩:=f;cases q;show QC PySem.W.kitx_int I.kIn Rp (iG (by trivial) a) (λz=>nomatch z) fin
     |str=>cases d;obtain⟨t',q⟩:=f;cases q;show QC PySem.W.kitx_str I.kIn Rp (iG (by trivial) a) (λz=>nomatch z) fin
     |tup i B=>
      cases d;obtain⟨j,k,⟨o,g,h,_⟩,y⟩:=I.tuple i;cases f;show QC PySem.W.kitx_tuple I.kIn #[o,g,h] (iG (by trivial) a) (λz=>nomatch z) fin
     |ref n=>
      cases f;dsimp only[Nf]at d;split at d
      next ws hw=>cases d;obtain⟨vs,i,_⟩:=bz r hw n;obtain⟨j,k,p,y⟩:=I.list i;obtain⟨o,g,h,_⟩:=p.isList;show QC PySem.W.kitx_list I.kIn #[o,g,h] (iG (by trivial) a) (λz=>nomatch z) fin
      ·rw[NB]at d;obtain⟨U,hk,rfl⟩:=d;obtain⟨xs,D,M⟩:=gA r hk n;obtain⟨es,G,⟨o,g,h,_⟩,L⟩:=(cG I D).raw;show QC PySem.W.kitx_dict I.kIn #[o,g,h.1] (iG (by trivial) a) (λz=>nomatch z) fin
    ·cases e
   ·cases e
abbrev AC (c:Pn)(f:FE):FE:=λZ S=>match f Z S with
 |some (x,S1)=>(AA S1 x c).map λb=>(.bl b,S1)
 |none=>dx
def HY (s:Gl X "isinstance")(t:X.mg "isinstance" = dx)(d:Gl X cn)(g:X.mg cn=dx)(i:bootBuiltins cn=ba (.type c))(h:cn≠"__name__")(a:(cn==("__debug__"))=false)
  (r:GE X e f) (k:starEach [e,.Name cn p2] X.env=(false,eval e X.env)::starEach [.Name cn p2] X.env):GE X (.Call (.Name "isinstance" p) [e,.Name cn p2] [] pos) (AC c f):=
 GE.of (rs AB s t rfl (pI r (pI (Dc (v:=.ty c) d g i rfl h a) zB) k) #v[] #v[] k rfl) λY H A Z S w z o x e Q u=>by
  unfold AC at e;split at e
  next l S1 q=>rw[NB]at e;obtain⟨b,m,n⟩:=e;cases n;show#[A,Z,S,l,_,o,x,q,λv y #[j,z1,z2,z3]=>#[j,_,l,v,c,b,rfl,z2,z3,m,u _ _ #[j,z1,z2,.bl]]]
  ·cases e
end
abbrev eu:Ny (T×W)->Ny W->NJ (Ny (T×W))
 |U,[]=>ba U
 |U,k::v::ws=>match eL k with
  |some t=>eu (dS U t v) ws
  |none=>dx
 |_,[_]=>dx
abbrev F4:FE:=λ_ S=>ba (.ref ↥S,S++[.dic []])
abbrev sf (f:FA):FE:=λZ S=>match f Z (S++[.dic []])with
 |some (ws,S1)=>match S1[↥S]? with
  |some (.dic [])=>match eu [] ws with
   |some U=>ba (.ref ↥S,S1.set ↥S (.dic U))
   |none=>dx
  |_=>dx
 |none=>dx
section
variable (K:NY) (A:Ny NR) (H:Hp)
inductive RelP:Ny W->Ny (V×V)->Prop
 |nil:RelP [] []
 |cons {k v:W}{a b:V}{ws:Ny W}{ps:Ny (V×V)}:Rel K A H k a->Rel K A H v b->RelP ws ps->RelP (k::v::ws) ((a,b)::ps)
end
def RelP.mono {K:NY}(e:Ext K A H d f)(h:RelP K A H ws ps):RelP K d f ws ps:=by
 induction h with
 |nil=>show .nil
 |cons a b c ih=>show .cons (a.mono e) (b.mono e) ih
section
variable{A:Ny NR}
abbrev MC (X:Cx)(A:Ny NR)(H:Hp)(c:aa)(ws:Ny W):Ny (V×V)->Hp->Prop:=λps b=>∃a,Ext X.K A H a b/\w4 X a b c/\RelP X.K a b ws ps
abbrev Kt (X:Cx)(pos:Qr)(keys:Ny (NJ Oi))(a:Ny Oi)(f:FA):Prop:=
 ∀(J:Ny (NR×Ps)) (s:NH) (Y:L2.St) (H:Hp) (A:Ny NR) (Z:Fm) (S:aa) (ws:Ny W) (S':aa),Inv X J Y H s->EnvRel X.K A H Z Y->w4 X A H S->f Z S=ba (ws,S')->
  wi X (evalPairs (pairTrees keys a X.env pos)) (λvs s'=>∃ps b,Inv X J Y b s'/\VV ps vs/\MC X A H S' ws ps b) X.xe s
def Ew :Kt X pos [] [] gD:=λJ s Y H A Z S ws b I c a e=>by
 cases e;show pairTrees_nil_walk #[[],H,I,.nil,A,.refl,a,.nil]
def AD (hk:GE X k c)(m:GE X v d)(l:Kt X pos ks vs f):Kt X pos (ba k::ks) (v::vs) (cR c (cR d f)):=λJ s Y H A Z S ws t I b p e=>by
 unfold cR at e;split at e
 next D S1 h=>
  split at e
  next w2 w a=>
   cases e;split at a
   next w3 g i=>
    split at a
    ·rename_i E y j;cases a;show pairTrees_cons_walk (bo (hk _ s Y H _ I #[A,Z,S,_,_,b,p,h,λ_ _ z=>z]) λu n #[x,H1,I1,r1,A1,e1,o1,z1]=>
      bo (m _ n Y H1 _ I1 #[A1,Z,S1,_,_,b.mono e1,o1,i,λ_ _ z=>z]) λC o #[r,H2,I2,r2,A2,e2,o2,z2]=>
      bo (l _ o Y H2 A2 Z g _ _ I2 (b.mono (e1.trans e2)) o2 j) λq B #[ps,H3,I3,rel,A3,e3,o3,z3]=>?_)
     show#[(x,r)::ps,H3,I3,.cons #[r1,r2] rel,A3,e1.trans (e2.trans e3),o3,.cons (z1.mono (e2.trans e3)) (z2.mono e3) z3]
    ·cases a
   ·cases a
  ·cases e
 ·cases e
def oQ (hu:X.A.units+10<cLine):∀ vs ps ws U U' s H S Q,
  Inv X J Y H s->w4 X A H S->l9 S r=ba U->A[r]?=ba d->RelP X.K A H ws ps->VV ps vs->eu U ws=ba U'->↥U+↥vs<=30->
  (∀s' c,Inv X J Y c s'->Ext X.K A H A c->w4 X A c (S.set r (.dic U'))->Q Vb s')->
  wi X (forIn vs Vb λ x (_)=>(do dictSet d x.1 x.2;pure (PQ Vb))) Q E s
 |[],_,_,U,U',s,H,S,Q,I,p,i,o,z,L,e,hl,g=>by
  cases L;cases z;cases e;show NN (g s H I .refl ?_);have N:=i4 i;have:S.set r (.dic U)=S:=by
   apply VC;intro j;rw[P2];split
   next e=>
    subst e
    split
    ·show N.symm
    next h=>show absurd (NZ.mp N).1 h
   ·rfl
  rw[this];show p
 |(ku,G)::vs,_,_,U,U',s,H,S,Q,I,p,i,o,z,L,e,hl,g=>by
  cases L with
  |cons P M=>
   cases z with
   |@cons wk b va vb ws2 ps2 rk C B=>
    dsimp only[eu]at e;split at e
    ·rename_i t O;rw[RO];obtain⟨xs,v,R⟩:=v8 p i o;have a:=cG I (.inl v);have dd:=a.dict I R;obtain⟨bk,e1,e2,l⟩:=iZ O rk P.1;subst e2;obtain⟨q1,q2,Z⟩:=dZ O;rw[On]at hl;have hz:=a.1;show NA (NA (wpAny_dictSet_heap  (show X.A.units+bG<cLine by unfold bG;omega) (jJ I l Z) dd λh' f hs=>NN ?_))
     have k:=R.put q2 Z l C P.2;have y:(storedH xs t bk G).length<=sizeLine:=by
      rw[<- ↥k];have h2:=eP U t b;rw[O4];omega
     have dn:DicAt X.w d (storedH xs t bk G) h':=.of y a.2.1 f;obtain⟨D,ex⟩:=p.writeO (i4 i) rfl o  (n:=.dic (dS U t b)) #[_,aL,k.mono (cF (.ext v))];have I':Inv X J Y (bP H d (kW X.w d (storedH xs t bk G))) {s with heap:=h',toks:=s.toks+(dG X.prog X.w).draws t}:=lh I (by rw[v];show Rp) hs (let ⟨q,_,_,g,_⟩:=f;#[q,g]) dn.ok
     have w:(S.set r (.dic (dS U t b)))[r]?=ba (.dic (dS U t b)):=by
      rw[P2,Ob rfl,Ob (NZ.mp (i4 i)).1]
     show oQ hu vs _ _ (dS U t b) U' _ _ _ Q I' D (by unfold l9;rw[w]) o (B.mono ex) M e (by have:=eP U t b;omega) λs' c I2 u m=>?_
     rw[List.set_set]at m;show g s' c I2 (ex.trans u) m
    ·cases e
def Ex :GE X (.Dict [] [] pos) F4:=λJ s Y H Q I #[A,Z,S,w,S',er,so,e,hq]=>by
 cases e;have a:=I.hok.fresh (NP _);have b:DicAt X.w _ [] (s.heap.push {cls:=.type _,data:=.dict #[]}):=#[Pj _,QP.mpr (Ne.symm (Oe I.big)),UA,_,#[],0,N2 _ rfl,#[rfl,rfl,rfl],rfl,rfl];show wpAny_Dict_empty #[.ref _,_,I.laid    (λ_ _ q=>ND _ q) (NP _) b.ok,rfl,hq _ _ #[A++[⇑s.heap.objs],cg a,so.pushO a #[[],aL,.nil],.ref ?_]]
 rw[<- so.len];simp
def Ey (R:X.A.units+10<cLine)(h:Kt X pos keys a f)(b:keys.all (·.isSome)=true)(hl:↥keys=↥a)(G:keys≠[])(M:↥keys<=15):GE X (.Dict keys a pos) (sf f):=by
 intro J s Y H Q I ⟨A,Z,S,w,S',E,u,e,P⟩;unfold sf at e;split at e
 next ws S1 L=>
  split at e
  next k=>
   split at e
   next U O=>
    cases e;have t:=I.hok.fresh (NP _);have D:DicAt X.w _ [] (s.heap.push {cls:=.type _,data:=.dict #[]}):=#[Pj _,QP.mpr (Ne.symm (Oe I.big)),UA,_,#[],0,N2 _ rfl,#[rfl,rfl,rfl],rfl,rfl];have z:=I.laid    (t':=s.toks) (λ_ _ q=>ND _ q) (NP _) D.ok
    have d:Ext X.K A H _ (bP H _ (kW X.w ⇑s.heap.objs [])):=cg t;have m:w4 X _ _ (S++[.dic []]):=u.pushO t #[[],aL,.nil];have c:=pairTrees_length _ _ X.env pos b hl;have l:pairTrees _ _ _ pos≠[]:=λN=>by
     rw[N]at c;show G (QT.mp c.symm)
    rw[arm_eval_Dict,zip_pairTrees _ _ _ pos b hl,dictDisplay_pairs _ l ∅]
    show NA (Sg (NA ?_));show NA (Xq ?_);show NA (Pc ?_);rw[Ob ∅]
    show NA (PK (wpAny_evalPairs_len (h _ _ Y _ _ Z _ _ _ z (E.mono d) m L)) (λvs v i=>?_) λ_ _ e=>e)
    obtain⟨T,ps,y,B,W,p,g,n,V⟩:=i;show Pc ?_;have r:p[↥S]?=ba ⇑s.heap.objs:=g.ad _ _ (by rw[<- u.len];simp)
    show NA (oQ R vs ps ws [] U _ y S1 _ B n (by unfold l9;rw[k]) r V W O (by rw[PN];omega) λs' x C j o=>?_)
    show NN (NN (NN #[.ref ⇑s.heap.objs,x,C,rfl,P _ _ #[p,d.trans (g.trans j),o,.ref r]]))
   ·cases e
  ·cases e
 ·cases e
end
abbrev Ng (wd:OF)(a:NR)(o:Ps)(xs:Ny (T×NR×NC)):It:=
 #[λi H=>H a=ba (.frz o (kW wd a xs))/\i<↥xs,λi H x b=>b=H/\∃q,xs[i]?=ba q/\x=.ref q.2.1,λi H=>H a=ba (.frz o (kW wd a xs))/\↥xs<=i]
def yv {K:NY}(a it:NR){B:NF}(C:o.ExactDict)(hd:o.data=.dict es B)(x:es.toList=xs.map (zP w)) :
  Turn P w K tg (Ng w a o xs) [it] it (λi h=>h.IsKeyIter it a i ⇑es B) where
 mem:=by simp
 obj:=λi h st b f=>by
  have e:b=it:=by simpa using f
  subst e;obtain⟨o,e,c,d⟩:=st;show#[o,e,λv z=>by rw[d]at z;cases z]
 keep:=λi h h' st k=>st.at λo e=>k it (by simp) o e
 item:=by
  intro X u hw hK hc i J s Y H E I l st y;subst u hw hK;obtain⟨t,hi⟩:=y;have A:=(I.hok a _ t).1;have hl:⇑es=↥xs:=by rw[<- Ov,x,Nz]
  have g:i<⇑es:=∅
  obtain⟨m,n,L,p,q,r⟩:=l it (by simp)
  have hk:es[i].key=.ref (xs[i]).2.1:=by
   have:es.toList[i]?=ba (zP X.w xs[i]):=by rw[x,NO,NK hi];rfl
   rw[O6,Rz g]at this;have:=OT this;rw[this];rfl
  show rP st #[o,A,C,hd] g λh' j M=>?_
  have D:Inv X _ Y H {s with heap:=h'}:=I.turned  (λb o f e=>(M.2 b f).trans e) m n p q r
  obtain⟨N,e,c,d⟩:=id j;show#[_,rfl,vQ  e c d #v[] #[.ref _,H,D,hk,#[rfl,xs[i],NK hi,rfl],j,λb f=>(l b f).1]]
 done:=by
  intro X u hw hK hc i J s Y H E I l st y;subst u hw hK;obtain⟨t,hi⟩:=y;have A:=(I.hok a _ t).1;have hl:⇑es=↥xs:=by rw[<- Ov,x,Nz]
  obtain⟨m,n,L,p,q,r⟩:=l it (by simp)
  show wc (I.ok.hd hc) st #[o,A,C,hd] ∅ λh' G=>#[rfl,I.turned  (λb o f e=>G b o f e) m n p q r]
 self:=λ_ _ _ _ _ st h=>Ux st h
abbrev eS (f:FE):FI:=λZ S=>match f Z S with
 |some (.tup ws,S1)=>ba (.its ws,S1)
 |some (.ref r,S1)=>match ec S1 r with
  |some _=>ba (.live r,S1)
  |none=>match fL S1 r with
   |some U=>ba (.its (U.map λp=>p.1.w),S1.set r (.frd U))
   |none=>dx
 |_=>dx
section
variable{A:Ny NR}
def AE (c:H a=ba (.frz o (kW X.w a xs)))(d:KRel X.K A H U xs):MIt X.w X.K (.its (U.map λp=>p.1.w)) (Ng X.w a o xs) A H:=by
 show#[λh j S i w e g hi=>?_,λh j S i e g hi=>?_]
 ·simp only[MI.at,OI]at hi;obtain⟨v,b,k⟩:=((d.mono e).keysL).get hi;rw[NO,NB]at b;obtain⟨q,f,l⟩:=b;show#[#[e.fz _ _ _ c,(NZ.mp f).1],λx n #[m,q',z2,z3]=>?_]
  subst m z3;rw[f]at z2;cases z2
  show#[.refl,g,by rw[l];show k]
 ·simp only[MI.at,OI]at hi;show#[e.fz _ _ _ c,?_];have:=PH.mp hi;rw[Nz,↥d]at this;show this
def Ez (h:GE X l f):GI X tg l (eS f):=by
 intro J s Y H R I ⟨A,Z,S,mi,V,M,T,e,P⟩
 by_cases hd:∃r S1 U,f Z S=ba (.ref r,S1)/\ec S1 r=dx/\fL S1 r=ba U
 ·obtain⟨r,S1,U,N,t,c⟩:=hd
  (dsimp only[eS]at e;simp only[N,t,c]at e)
  cases e;show bo (h _ s Y H _ I #[A,Z,S,_,_,M,T,N,λ_ _ z=>z]) λv y #[x,H1,I1,r1,A1,e1,o1,z1]=>?_
  cases z1 with
  |@ref _ a B=>
   obtain rfl:v=O0 a:=r1;have fz:∃o xs i,Inv X J Y i y/\Ext X.K A1 H1 A1 i/\w4 X A1 i (S1.set r (.frd U))/\i a=ba (.frz o (kW X.w a xs))/\KRel X.K A1 i U xs:=by
    unfold fL at c;split at c
    next k hk=>cases c;obtain⟨xs,g,m⟩:=o1.obj r _ a hk B;have d:=cG I1 (.inl g);obtain⟨_,_,_,o,es,W,u,D,E,Q⟩:=id d;obtain⟨G,ex⟩:=o1.writeO hk rfl B  (n:=.frd U) #[o,xs,aL,m.mono (cF (.ext g))];show#[o,xs,_,lh   (ob:=.frz o _) I1 (by rw[g];show Rp) (XX _ _) #[o,u] #[u,d.ok],ex,G,aL,m.mono ex]
    ·rename_i k hk;cases c;obtain⟨o,xs,g,m⟩:=o1.obj r _ a hk B;have:S1.set r (.frd U)=S1:=by
      apply VC;intro j;rw[P2];split
      ·rename_i e;subst e
       split
       ·show hk.symm
       next h=>show absurd (NZ.mp hk).1 h
      ·rfl
     rw[this];show#[o,xs,H1,I1,.refl,o1,g,m]
    ·cases c
   obtain⟨o,xs,i,q,ex,L,g,m⟩:=fz;have d:=cG q (.inr #[o,g]);have O:=(q.hok a _ g).1;obtain⟨_,C,_,o',es,W,u,D,E,Q⟩:=id d;rw[O]at u;cases u;show rO C #[o,O,D,E] ?_;show#[⇑y.heap.objs,[⇑y.heap.objs],_,_,i,rfl,q.kept  λb o e=>ND _ e,yv a _ D E Q,#[_,N2 _ rfl,rfl,rfl],λb hb=>?_,P _ _ A1 (e1.trans ex) L (AE g m)]
   have e:b=⇑y.heap.objs:=by simpa using hb
   subst e;show q.fpOk (NP _) (q.hok.fresh (NP _))
 ·have:eS f Z S=Em f Z S:=by
   unfold eS Em;cases hf:f Z S with
   |none=>rfl
   |some p=>
    obtain⟨w,S1⟩:=p;cases w with
    |ref r=>
     cases t:ec S1 r with
     |some _=>revert t
     |none=>
      cases c:fL S1 r with
      |none=>revert t c
      |some U=>show absurd #[r,S1,U,hf,t,c] hd
    |_=>rfl
  rw[this]at e;show HW h J s Y H R I #[A,Z,S,mi,V,M,T,e,P]
end
abbrev kB (a:Ny NV):NF:=(firstMet (λi=>a.getD i 0) ↥a).length
variable{A:OD}
section
variable{w:OF}{E:NC->NH->Prop}
set_option maxHeartbeats 4000000 in
def yw {l:NR}{d:OU NC}{n:Ny NV}{Q:NC->NH->Prop}(X:A.handled=dx)(hl:s.heap.IsTuple l d)(hi:UM d.toList n)(hz:↥n=⇑d)(p:⇑d+1<scanBound)
  (h:∀h' tk o,h'.get? ⇑s.heap.objs=ba o->Hs (kB n) o->(∀b u,s.heap.get? b=ba u->h'.get? b=ba u)->Q (.ref ⇑s.heap.objs) (xc s h' tk)):wh prog w A (call (.type "set") [.ref l]) Q E s:=by
 obtain⟨c,tl,C⟩:=F.called_set.mro;have B:=F.called_set.made;have D:=F.called_set.sub;have hn1:=F.called_set.notType;have hn2:=F.called_set.canCreate;have V:=F.typeCall_set_1 (.ref l);show wpAny_call (Uc ?_);change wpAny _ _ (callAny (.type "set") _) _ _ _;show NN #[Vc _ (by decide +kernel),Ph F.entry_type_call ?_]
 rw[Around.under_plain (weight_type_call_type "set" [.ref l] []) rfl]
 repeat (any_goals (first|assumption|wp_step))
 show RZ (z6 (w:=w) (.ref l) (E:=E) (Q₁:=λobj L=>obj=.ref ⇑s.heap.objs/\L={s with heap:=s.heap.push (dR w)}) #[rfl,rfl]) λr L f=>?_
 match r,f with
 |.ok (.ret obj),f=>
  obtain⟨rfl,rfl⟩:=f;have J:(s.heap.push (dR w)).get? ⇑s.heap.objs=ba (dR w):=N2 _ rfl;have tS:Shared.TypeIs {s with heap:=s.heap.push (dR w)} (.ref ⇑s.heap.objs) "set":=#[_,J,rfl]
  have Y:=F.called_set.init.lookup;have U:=F.called_set.init.bind (.ref ⇑s.heap.objs)
  repeat (any_goals (first|assumption|wp_step))
  show RZ (codeAny_call_builtin (R:=wants (λr M=>r=.none/\∃h' tk o,M=(xc s h' tk)/\h'.get? ⇑s.heap.objs=ba o/\Hs (kB n) o/\∀b u,s.heap.get? b=ba u->h'.get? b=ba u) E) F.called_set.init.plain F.entry_set_init (check_set_init_1 tS ?_)) λr2 M a=>?_
  ·obtain⟨⟨oc,od,ot,osl⟩,k,g,nl,j⟩:=id hl;simp only at g j;subst g j;have m:=ND (dR w) k;have G:(s.heap.push (dR w)).IsTuple l d:=#[_,m,rfl,nl,rfl];have e1:=F.sub_tuple_set;have e2:=F.sub_tuple_frozenset;have e3:(QL "tuple" == QL "dict")=false:=by decide
   unfold Rk.«set.__init__» noKeywords Wc;generalize x:pyIter=PI
   wp_walk
   subst x;show RT G (NA (SF ?_));have H:l<⇑s.heap.objs:=N8 k;have sz:(s.heap.push (dR w)).objs.size=⇑s.heap.objs+1:=Qk ..;have ne:l≠(s.heap.push (dR w)).objs.size:=by rw[sz];show Oe (Px H)
   show codeAny_set_update_loopS ((Walks.tuple (A:=A.in1.in1.in1) (by simp[X]) _ l ne d).toS) ⇑s.heap.objs (by rw[sz];revert Of OH PJ UB;show#[Oe (PX _),O2 H]) (λi=>n.getD i 0) (λi v hv=>IntsAre.int_at hi i v (by rw[O6];show hv)) p (⇑d-0) 0 _ ∅ (Pj _) #[#[_,N2 _ rfl,rfl,rfl],G.push _] ?_ λN I y=>?_
   ·show SetOf_congr ((setObjOf_fresh (knd:=intKind prog w) (!Kc w)).setOf (ND _ J) (by unfold scanBound;omega)) (λ_=>rfl) rfl
   ·rw[Moved.eq_with I];obtain⟨o,ho,z,es,O,t,hd,_,_,Z,W⟩:=y.objOf;show NN (NN #[rfl,N.heap,N.toks,o,rfl,ho,#[z,es,O,t,hd,by rw[Z];unfold kB;rw[hz],W],λb u q=>?_])
    have p:=N8 q;show I.heap b u (by rw[sz];revert Of OH PJ UB;show#[Oe p,Oe (Px p)]) (ND _ (ND _ q))
  ·match r2,a with
   |.ok (.ret r),a=>
    obtain⟨rfl,h',tk,o,rfl,P,S,T⟩:=a
    repeat (any_goals (first|assumption|wp_step))
    show h h' tk o P S T
   |.ok .next,a=>show a.elim
   |.ok .brk,a=>show a.elim
   |.ok .cont,a=>show a.elim
   |.error e,a=>show a
 |.ok .next,f=>show f.elim
 |.ok .brk,f=>show f.elim
 |.ok .cont,f=>show f.elim
 |.error e,f=>show f
def sg (h:a.Nodup):kB a=↥a:=by
 have c:∀i,i<=↥a->firstMet (λi=>a.getD i 0) i=a.take i:=by
  intro i
  induction i with
  |zero=>intro _;simp[firstMet_zero]
  |succ i ih=>
   intro hi;rw[firstMet_succ,ih ∅,Ol,NK hi]
   have e:a.getD i 0=a[i]:=by rw[NL,NK hi];rfl
   have f:((a.take i).any λx=>x==a[i])=false:=by
    rw[Rm];intro x g b;obtain⟨j,d,rfl⟩:=Pk.mp g;rw[Om]at d;rw[P3]at b;have:=(PD h).mp (eq_of_beq b);omega
   rw[e];unfold step_dedup;rw[Ot (by rw[f];show OG)]
   rfl
 unfold kB;rw[c _ (NP _),Ou]
end
abbrev mE:Ny W->NJ (Ny NV)
 |[]=>ba []
 |.int z::ws=>(mE ws).map (z :: ·)
 |_=>dx
abbrev jP (xs:Ny W)(S:aa):NJ (W×aa):=match xs with
 |[.tup ws]=>match mE ws with
  |some a=>if ↥a<=1000 then ba (.ref ↥S,S++[.sti (kB a)])else dx
  |none=>dx
 |_=>dx
abbrev uP (xs:Ny W)(S:aa):NJ (W×aa):=match xs with
 |[.ref i]=>match S[i]? with
  |some (.sti n)=>if n<=1000 then ba (.int n,S)else dx
  |_=>dx
 |_=>dx
section
variable{A:Ny NR}
def sh :∀{ws:Ny W}{vs:Ny V}{us:Ny NC}{c:Ny NV},RelL X.K A H ws vs->Vals vs us->mE ws=ba c->UM us c/\↥c=↥us:=by
 intro ws
 induction ws with
 |nil=>intro vs us c r q h;cases r;cases q;cases h;show#[.nil,rfl]
 |cons w ws ih=>
  intro vs us c r q h;cases w with
  |int z=>
   cases r with
   |cons r t=>
    cases q with
    |cons e f=>
     cases r
     (dsimp only[mE]at h;simp only[NB]at h)
     obtain⟨g,d,rfl⟩:=h;obtain⟨tk,rfl⟩:=e;obtain⟨a,b⟩:=ih t f d;show#[.cons z tk a,by rw[On,On,b]]
  |_=>cases h
def uQ (j:X.A.handled=dx):LCall X (.type "set") jP:=by
 intro J s Y H A S xs vs us w C I B x z e;unfold jP at e;split at e
 ·split at e
  next G l=>
   split at e
   ·cases e;cases x with
    |cons r t=>
     cases t;cases z with
     |cons y c=>
      cases c;cases r with
      |tup d v=>
       obtain⟨n,b,p,m⟩:=I.tuple d;obtain rfl:_=O0 _:=y;obtain⟨f,g⟩:=sh v b l;show yw  j p (by simpa using f) (by simpa using g) (by unfold scanBound;rw[N4];omega) λh' tk o a i hk=>?_
       show cZ  (u:=.frz o (.ext λh=>h.get? _=ba o)) I B hk (NP _) #[a,a,#[_,a],λd D q k=>k _ q] λE=>#[o,_,aL,i]
   ·cases e
  ·cases e
 ·cases e
def uR:LCall X (.builtin "len") uP:=by
 intro J s Y H A S xs vs us w l I c j k e;unfold uP at e;split at e
 next i=>
  obtain⟨a,d,rfl⟩:=fK (xs:=[]) j k;split at e
  next n hi=>
   split at e
   ·cases e;obtain⟨o,φ,q,b,es,m,t,hd,h,f⟩:=c.obj i _ a hi d;have g:=(I.hok a _ q).1;show call_len_set g b hd f ∅ #[.int n,H,A,I.tok _,#[_,by rw[h]],.refl,c,.int]
   ·cases e
  ·cases e
 ·cases e
end
abbrev mF (xs:Ny W)(S:aa):NJ (W×aa):=match xs with
 |[.ref i]=>match ec S i with
  |some ws=>match mE ws with
   |some a=>if ↥a<=1000 then ba (.ref ↥S,S++[.sti (kB a)])else dx
   |none=>dx
  |none=>dx
 |_=>dx
section
variable{A:Ny NR}
def uS (x:X.A.handled=dx):LCall X (.type "set") mF:=by
 intro J s Y H A S xs vs us w N I i G L e;unfold mF at e;split at e
 ·obtain⟨a,j,rfl⟩:=fK (xs:=[]) G L;split at e
  next ws hw=>
   split at e
   next P B=>
    split at e
    ·cases e;obtain⟨M,g,E⟩:=bz i hw j;obtain⟨D,f,p,C⟩:=I.list g;obtain⟨m,n⟩:=sh E f B;show call_set_list  x p.isList (by simpa using m) (by unfold scanBound;rw[N4];omega) λh' tk r hk=>?_
     obtain⟨o,d,c,es,l,t,hd,_,_,y,v⟩:=r.objOf;show cZ  (u:=.frz o (.ext λh=>h.get? _=ba o)) I i (λb o e=>hk b o (N8 e) e) (NP _) #[d,d,#[_,d],λg O q k=>k _ q] λz=>#[o,_,aL,c,es,l,t,hd,by rw[y];unfold kB;rw[N4,<- n],v]
    ·cases e
   ·cases e
  ·cases e
 ·cases e
end
abbrev bL (mi:MI)(g:FG)(c:FT)(f:FE):NF->NF->Fm->aa->NJ (Ny W×aa)
 |0,i,_,S=>match mi.at S i with
  |some dx=>ba ([],S)
  |_=>dx
 |n+1,i,Z,S=>match mi.at S i with
  |some (ba w)=>match g w Z S with
   |some (a,S1)=>match c a S1 with
    |some (true,b)=>match f a b with
     |some (y,d)=>match bL mi g c f n (i+1) a d with
      |some (h,e)=>ba (y::h,e)
      |none=>dx
     |none=>dx
    |some (false,b)=>bL mi g c f n (i+1) a b
    |none=>dx
   |none=>dx
  |_=>dx
abbrev eM (a:Ny (NJ NF))(Z:Fm):Fm:=a.map λo=>match o with
 |some j=>(Z[j]?).join
 |none=>dx
abbrev mG (d:FI)(g:FG)(c:FT)(f:FE)(a:Ny (NJ NF)):FE:=λZ S=>match d Z S with
 |some (mi,S1)=>match mi.len S1 with
  |some n=>match bL mi g c f n 0 (eM a Z) S1 with
   |some (e,b)=>nW b e
   |none=>dx
  |none=>dx
 |none=>dx
abbrev F5:FT:=λ_ S=>ba (true,S)
abbrev nT (X:Cx)(scope:QX)(b:Ny (Oc×NR))(C:NR)(N:Ny Oc)(s0:NH)(a:Hp)(ex:Ny NR):Cx:=
 {X with env:=compEnvC scope b C X.env,N:=N,s₀:=s0,H₀:=a,outer:=X.stack,stack:=X.stack,ex:=ex,fn:=λ_=>false,pn:=[],xe:=λ_ _=>Pg}
structure CompOk (X:Cx)(scope:QX)(cl:Ny (Oc×NR))(N:Ny Oc)(cap:Ny (NJ NF)):Prop where
 clos:closureFor scope X.env=pure cl
 kind:scope.kind=.function
 names:∀y∈scope.names,y.2=.local->scope.names.lookup y.1=ba .local
 nocell:∀y∈scope.names,y.2≠.cell
 sub:∀x c,cl.lookup x=ba c->X.env.cells.lookup x=ba c
 has:∀x,((relabel scope X.env).names.lookup x=ba .cell\/(relabel scope X.env).names.lookup x=ba .free)->∃c,cl.lookup x=ba c
 len:↥cap=↥N
 cap:∀(i j:NF) (x:Oc),cap[i]?=ba (ba j)->N[i]?=ba x->X.N[j]?=ba x/\(X.env.kindOf x=ba .cell\/X.env.kindOf x=ba .free)/\((relabel scope X.env).names.lookup x=ba .cell\/(relabel scope X.env).names.lookup x=ba .free)
def ii (I:NF->NH->Prop)
    (turn:∀n s,I n s->wh prog w A (pyNext it) (λr a=>match r with
      |none=>R (.ok .next) a
      |some v=>wh prog w A (letOwnedTupleGo b it v) (λ_ a=>wh prog w A (assign b env v) (λ_ g=>
          wh prog w A (forIn t true λc r=>if r=true then do let ok <- isTrue c env (eval c env);pure (PQ ok)else pure (PQ r)) (λok e=>
            if ok=true then wh prog w A (eval l env) (λx i=>
              wh prog w A (call (.builtin "list.append") [k,x]) (λ_ j=>∃m,m<n/\I m j) (λ_ _=>Pg) i) (λ_ _=>Pg) e
            else ∃m,m<n/\I m e) (λ_ _=>Pg) g) (λ_ _=>Pg) a) (λ_ _=>Pg) a) (λ_ _=>Pg) s)
    (n:NF) (h:I n s) :
    codeAny (model prog w) A (.compLoop (.ListComp l [#[b,iter,t,0]] scope pos) 0 it k env) R s:=by
  show codeAny_loop rfl I (λn s u=>?_) n h
  show wpAny_noted ?_;rw[compTurn_list];show NA (Sg (NA (PK (turn n s u) (λr a d=>?_) λ_ _ h'=>h'.elim)))
  cases r with
  |none=>show NN d
  |some v=>
    show NA (PK d (λ_ a d=>?_) λ_ _ h'=>h'.elim)
    show NA (PK d (λ_ g o=>NA (PK o (λok e f=>?_) λ_ _ h'=>h'.elim)) λ_ _ h'=>h'.elim)
    cases ok with
    |false=>show NN #[rfl,f]
    |true=>
      show NA (NA (PK f (λx i p=>NA (PK p (λ_ j q=>NN (NN #[rfl,q])) λ_ _ h'=>h'.elim)) λ_ _ h'=>h'.elim))
def Inv.adopt (I:Inv X J Y H s)(l:H D=dx)(g:D∈X.ex\/⇑X.s₀.heap.objs<=D)(j:D≠X.env.locals)(h:∀x c,X.env.cells.lookup x=ba c->c≠D)(i:∀p∈X.pn++J,p.1≠D)
  (new:ObjOk X.prog X.w (bP H D o) s.heap D o):Inv X J Y (bP H D o) s:=by
 have a:∀b u,H b=ba u->b≠D:=λb u e z=>by rw[z,l]at e;cases e
 have f:Inv X J Y (bP H D o) {s with heap:=s.heap,gens:=s.gens,drawn:=s.drawn,toks:=s.toks}:=by
  show I.step (g':=s.gens) (d':=s.drawn) (t':=s.toks) (h':=s.heap) (ch:=[D]) (λb d=>?_) (λb o _ _ hc e _=>e) (λb o _ _ hc e _=>#[o.slots,e]) (λb o hc e n=>?_)
   (λb o hc e=>#[o,e]) (λb xs e=>?_) (λb o xs e=>?_) (λb ps e=>#[#[],?_]) (λm k=>k) (λb u e=>?_) I.bare
  ·have e:b=D:=by simpa using d
   subst e;show#[g,j,h,i]
  ·rw[aM (λz=>hc (by simp[z]))];show n
  ·rw[aM (a b _ e)];show e
  ·rw[aM (a b _ e)];show e
  ·rw[aM (a b _ e),e];simp
  ·by_cases d:b=D
   ·subst d;rw[aL]at e;cases e;show new
   ·rw[aM d]at e;show(I.hok b u e).stay (λc v hc q=>q) (λc q=>?_) λc xs q=>?_
    ·rw[aM (a c _ q)];show q
    ·rw[aM (a c _ q)];show q
 show f
def HZ {C:NR}{s0:NH}(I:Inv X J Y H s)(f:CompOk X scope i N g)(m:⇑s.heap.objs<=s0.heap.objs.size)(l:s0.heap.objs.size<=C)
  (hk:∀b o,s.heap.get? b=ba o->s0.heap.get? b=ba o) (a:∀b∈ex,(b≠C)/\(∀x c,X.env.cells.lookup x=ba c->c≠b)/\(∀o,X.base.get? b≠ba o)/\b∉vN X.stack) :
  (nT X scope i C N s0 H ex).Ok where
 mod:=I.ok.mod
 kind:=f.kind
 glob:=I.ok.glob
 blt:=I.ok.blt
 above:=l
 inj:=λx y c j k=>I.ok.inj x y c (f.sub x c j) (f.sub y c k)
 has:=λx h=>f.has x h
 cab:=λx c h=>by cases h
 hd:=I.ok.hd
 frames:=I.ok.frames
 stk:=.inl rfl
 exf:=λb d=>#[(a b d).1,λx c h=>(a b d).2.1 x c (f.sub x c h)]
 bs:=λb o e=>#[hk b o (I.bk b o e),(I.bs b o e).2]
 bsz:=N9 (N9 I.ok.bsz I.sz) m
 noex:=λb o e d=>(a b d).2.2.1 o e
 exfs:=λb d=>(a b d).2.2.2
 funs:=I.stack.of_keeps λb o e _=>#[o,hk b o e,rfl]
 frf:=I.stkFree
structure BlockOk (X:Cx)(scope:QX)(cl:Ny (Oc×NR))(N:Ny Oc)(tg elt:Oi)(ifs:Ny Oi)(g:FG)(c:FT)(f:FE):Prop where
 tgt:∀C s0 H0 ex,GG (nT X scope cl C N s0 H0 ex) tg g
 tst:∀C s0 H0 ex J s Y H Q,Inv (nT X scope cl C N s0 H0 ex) J Y H s->tT (nT X scope cl C N s0 H0 ex) c Y H Q->
  wi X (forIn ifs true λc r=>if r=true then do let ok <- isTrue c (compEnvC scope cl C X.env) (eval c (compEnvC scope cl C X.env));pure (PQ ok)else pure (PQ r)) (TP (nT X scope cl C N s0 H0 ex) J Y Q) (λ_ _=>Pg) s
 elt:∀C s0 H0 ex,GE (nT X scope cl C N s0 H0 ex) elt f
def qp (e:s.heap.get? D=ba (xd c.toArray n))(j:↥c<sizeLine)
  (h:∀h' i,h'.get? D=ba (xd (c++[u]).toArray i)->(∀b o,b≠D->s.heap.get? b=ba o->h'.get? b=ba o)->Q .none {s with heap:=h'}) :
  wpAny (model prog w) B (call (.builtin "list.append") [.ref D,u]) Q E s:=by
 show Q8 F.slot_list_append #[_,e,rfl] F.entry_list_append (F.args_list_append_2 _ _) (Vt D c.toArray n u (by rw[N4];omega)) #[e,?_]
 have q:=VP e (λa=>a.push u)
 have d:c.toArray.push u=(c++[u]).toArray:=by simp
 rw[d]at q;show h _ _ q (λb o f g=>(Pa s.heap (P1 λa=>a.push u) (Ne.symm f)).trans g)
def oR {A:Ny NR}
  {RR:NC->NR->U7->NH->Prop}
  (I:Inv X J Y H s) (hc:X.calm=true) (er:EnvRel X.K A H Z Y) (so:w4 X A H S) (ck:CompOk X scope cl N cap) (bk:BlockOk X scope cl N tg elt ifs g c f)
  (T:Turn X.prog X.w X.K tg td G it tn) (t0:tn 0 s.heap) (O:∀b∈G,jC X J H b) (mit:MIt X.w X.K mi td A H) (e:bL mi g c f n 0 (eM cap Z) S=ba (ws,S')) (hz:↥ws<=sizeLine)
  (fin:∀D C s' h B vs m,s'.heap.Ns C m->h D=dx->D≠C->C≠X.env.locals->C∉X.fs->h C=dx->⇑X.s₀.heap.objs<=C->(∀x c,X.env.cells.lookup x=ba c->c≠C)->(∀p∈X.pn++J,p.1≠C)->
   Inv X J Y (bP h D (.lst vs)) s'->Ext X.K A H B h->w4 X B h S'->RelL X.K B h ws vs->RR (.ref D) C (.ok .next) s') :
  wi X (newList []) (λacc s₃=>wi X (newFunctionEnv scope X.env.globals cl [] X.env.qual dx .none (ba X.env)) (λcenv s₄=>
   codeAny (model X.prog X.w) X.A (.compStart (.ListComp elt [#[tg,iter,ifs,0]] scope pos) 0 (.ref it) acc {cenv with scope:=relabel scope X.env}) (RR acc cenv.locals) s₄) E s₃) E s:=by
 show OQ (wpAny_newFunctionEnv ck.nocell (by intro y hy;simp at hy) (λh₁ P R=>?_) ck.kind)
 dsimp only at P R ⊢;generalize hH2:s.heap.push {cls:=.type "list",dict:=dx,data:=.seq ([]).toArray}=h2 at P R ⊢;have hCs:⇑h2.objs=⇑s.heap.objs+1:=by rw[<- hH2,Qk]
 have k2:∀b o,s.heap.get? b=ba o->h2.get? b=ba o:=λb o z=>hH2▸ND _ z
 have lt2:∀b o,h2.get? b=ba o->b<⇑h2.objs:=λb o z=>N8 z
 have k1:=λb o z=>R.extBut b o (Oe (lt2 b o z)) (ND _ z)
 have hD2:=hH2▸N2 _ rfl;have hDC:⇑s.heap.objs≠⇑h2.objs:=by rw[hCs];omega
 have fresh:∀a,⇑s.heap.objs<=a->H a=dx:=λa ha=>I.hok.fresh ha
 have L:=λx c z=>let ⟨_,q⟩:=I.cell x c z;q.lt
 have fpLt:=λb d=>let ⟨_,q,_⟩:=T.obj 0 s.heap t0 b d;N8 q
 have stkLt:∀b∈vN X.stack,b<⇑s.heap.objs:=λb d=>let ⟨_,o,q,_⟩:=I.stack.mem d;N8 q
 have baseLt:=λb o z=>N8 (I.bk b o z)
 have fpStk:∀b∈G,b∉vN X.stack:=λb d z=>by
  rcases Of.mp (I.stkSub b z)with q|q
  ·show(O b d).2.1 q
  ·show(O b d).2.2.1 q
 have fpBase:∀b∈G,∀o,X.base.get? b≠ba o:=λb d o z=>by
  rcases(O b d).2.2.2.1 with q|q
  ·show I.ok.noex b o z q
  ·show absurd (N5 (N8 (I.ok.bs b o z).1) q) (Pf _)
 have ltC:∀{b:NR},b<⇑s.heap.objs->b≠⇑h2.objs:=λd=>by rw[hCs];show Oe (Px d)
 let s3:={s with heap:=h2}
 have ok':(nT X scope cl ⇑h2.objs N s3 H (G++[⇑s.heap.objs])).Ok:=by
  show HZ I ck (show ⇑s.heap.objs<=⇑h2.objs by rw[hCs];omega) (NP _) k2 λb d=>?_
  rcases Oa.mp d with d|d
  ·show#[ltC (fpLt b d),(O b d).2.2.2.2.1,fpBase b d,fpStk b d]
  ·have eb:b=⇑s.heap.objs:=by simpa using d
   subst eb;show#[hDC,λx c z=>Oe (L x c z),λo z=>Pf _ (baseLt _ o z),λz=>Pf _ (stkLt _ z)]
 obtain⟨m0,hn0,hl0⟩:=I.loc;have I0:Inv (nT X scope cl ⇑h2.objs N s3 H (G++[⇑s.heap.objs])) [] (cap.map λo=>match o with|some j=>(Y[j]?).join|none=>dx) H {s3 with heap:=h₁,toks:=s3.toks+([]:Ny (Oc×NC)).length}:=by
  show#[ok',rfl,I.bare,Un.kept k1,#[_,P,λi x v e1 e2 e3=>?_],λx U z=>?_,fresh _ (show ⇑s.heap.objs<=⇑h2.objs by rw[hCs];show QY _),λx U z=>I.freeC x U (ck.sub x U z),λp Q=>absurd Q (by simp[nT]),(I.hok.kept k2).kept k1,by rw[Nz];show ck.len]
  ·rw[NO]at e2;cases q:cap[i]? with
   |none=>rw[q]at e2;cases e2
   |some oj=>
    rw[q]at e2;cases oj with
    |none=>cases e2
    |some j=>
     obtain⟨z1,z2,z3⟩:=ck.cap i j x q e1;have e2':(Y[j]?).join=ba v:=by simpa using e2
     have e2'':Y[j]?=ba (ba v):=by
      cases r:Y[j]? with
      |none=>rw[r]at e2';cases e2'
      |some y=>rw[r]at e2';show congrArg ba e2'
     obtain⟨u,ru,lk⟩:=hl0 j x v z1 e2'' (by
      rcases z2 with z|z
      ·show .inr (.inl z)
      ·show .inr (.inr z))
     show#[u,ru,?_];rcases lk with⟨zk,_⟩|⟨_,U,zc,zi⟩
     ·rcases z2 with z|z<;>(rw[zk]at z;cases z)
     ·obtain⟨c2,hc2⟩:=ck.has x z3;have:=ck.sub x c2 hc2;rw[zc]at this;cases this
      show .inr #[z3,U,hc2,?_];obtain⟨o,ho,hd⟩:=zi;show#[o,k1 _ _ (k2 _ _ ho),hd]
  ·obtain⟨v,o,ho,hd⟩:=I.cell x U (ck.sub x U z);show#[v,o,k1 _ _ (k2 _ _ ho),hd]
 have er0:EnvRel X.K A H (eM cap Z) (cap.map λo=>match o with|some j=>(Y[j]?).join|none=>dx):=by
  show#[by(delta eM;simp),λi w q=>?_]
  unfold eM at q;rw[NO]at q ⊢;cases r:cap[i]? with
  |none=>rw[r]at q;cases q
  |some oj=>
   rw[r]at q;cases oj with
   |none=>cases q
   |some j=>
    have q':(Z[j]?).join=ba w:=by simpa using q
    have q'':Z[j]?=ba (ba w):=by
     cases z:Z[j]? with
     |none=>rw[z]at q';cases q'
     |some y=>rw[z]at q';show congrArg ba q'
    obtain⟨v,z1,z2⟩:=er.2 j w q'';show#[v,by simp[z1],z2]
 have t1:=T.keep 0 s.heap h₁ t0 λb d o z=>k1 b o (k2 b o z)
 have fpOk':∀{h:Hp}{pp:Ny (NR×Ps)},(∀b∈G,h b=dx)->(∀p∈pp,p.1=⇑s.heap.objs)->∀b∈G,jC (nT X scope cl ⇑h2.objs N s3 H (G++[⇑s.heap.objs])) pp h b:=λhn Q b d=>
  #[hn b d,ltC (fpLt b d),fpStk b d,.inl (Oo _ d),λx U z=>(O b d).2.2.2.2.1 x U (ck.sub x U z),λp hpp=>by
   rw[Q p (by simpa [nT]using hpp)]
   show(Oe (fpLt b d)).symm]
 have M:⇑s.heap.objs∈G++[⇑s.heap.objs]:=Oj _ (by simp)
 have cellD:=λx U z=>Oe (L x U (ck.sub x U z))
 have fpD:=λb d=>Oe (fpLt b d)
 have theEnd:∀s' Y' h B vs t nn,Inv (nT X scope cl ⇑h2.objs N s3 H (G++[⇑s.heap.objs])) [] Y' h s'->s'.heap.get? ⇑s.heap.objs=ba {cls:=.type "list",data:=.seq t nn}->∀(hits:∃l:Ny NC,t=l.toArray/\Vals vs l),h ⇑s.heap.objs=dx->Ext X.K A H B h->w4 X B h S'->RelL X.K B h ws vs->
   RR (.ref ⇑s.heap.objs) ⇑h2.objs (.ok .next) s':=by
  intro s' Y' h B vs t nn I' hD hits hDn ex so' rl;obtain⟨l,rfl,rv⟩:=hits;obtain⟨m,hn,_⟩:=id I'.loc;have un:=(Un.kept k2).trans I'.base;have hch:∀b∈G++[⇑s.heap.objs],(b∈X.ex\/⇑X.s₀.heap.objs<=b)/\b≠X.env.locals/\(∀x c,X.env.cells.lookup x=ba c->c≠b)/\∀p∈X.pn++J,p.1≠b:=λb d=>by
   rcases Oa.mp d with d|d
   ·show#[(O b d).2.2.2.1,(O b d).2.1,(O b d).2.2.2.2.1,(O b d).2.2.2.2.2]
   ·have eb:=by simpa using d
    subst eb;show#[.inr I.sz,(Oe I.lt).symm,λx U z=>Oe (L x U z),λp Q=>Oe (N8 (I.pin p Q).1)]
  have I2:=I.call' (I'.os) un I'.hok I'.bare hch;have I3:Inv X J Y (bP h ⇑s.heap.objs (.lst vs)) s':=Inv.adopt I2 hDn (hch _ M).1 (hch _ M).2.1 (hch _ M).2.2.1 (hch _ M).2.2.2 #[by rw[<- ↥rl];show hz,l,nn,rv,hD]
  have V:⇑s.heap.objs<=⇑h2.objs:=by rw[hCs];show QY _
  show fin _ _ s' h B vs m hn hDn hDC (O2 (N5 I.lt V)) (I.nofs V) I'.free (N9 I.sz V) (λx U z=>Oe (N5 (L x U z) V))
   (λp Q=>Oe (N5 (N8 (I.pin p Q).1) V)) I3 ex so' rl
 have loop:∀s4:NH,s4={s3 with heap:=h₁,toks:=s3.toks+([]:Ny (Oc×NC)).length}->
   codeAny (model X.prog X.w) X.A (.compLoop (.ListComp elt [#[tg,iter,ifs,0]] scope pos) 0 (.ref it) (.ref ⇑s.heap.objs) (compEnvC scope cl ⇑h2.objs X.env)) (RR (.ref ⇑s.heap.objs) ⇑h2.objs) s4:=by
  rintro s4 rfl;show ii (λk s5=>∃i Y5 H5 A5 Z5 S5 done t nn vs ys,Inv (nT X scope cl ⇑h2.objs N s3 H (G++[⇑s.heap.objs])) [] Y5 H5 s5/\tn i s5.heap/\(∀b∈G,H5 b=dx)/\s5.heap.get? ⇑s.heap.objs=ba (xd t.toArray nn)/\H5 ⇑s.heap.objs=dx/\Vals vs t/\
   Ext X.K A H A5 H5/\EnvRel X.K A5 H5 Z5 Y5/\w4 X A5 H5 S5/\RelL X.K A5 H5 done vs/\ws=done++ys/\bL mi g c f k i Z5 S5=ba (ys,S')) ?_ n
   #[0,_,H,A,_,S,[],[],0,[],ws,I0,t1,λb d=>(O b d).1,k1 _ _ hD2,fresh _ (NP _),.nil,.refl,er0,so,.nil,rfl,e]
  rintro k s5 ⟨i,Y5,H5,A5,Z5,S5,done,t,nn,vs,ys,I5,t5,f5,d5,n5,v5,e5,er5,so5,rl5,hw5,w5⟩;have pinD:Inv (nT X scope cl ⇑h2.objs N s3 H (G++[⇑s.heap.objs])) [(⇑s.heap.objs,(xd t.toArray nn))] Y5 H5 s5:=I5.pins_of λp Q=>by
   have hp':p=(⇑s.heap.objs,(xd t.toArray nn)):=by simpa using Q
   subst hp';show#[d5,n5,hDC,λz=>Pf _ (stkLt _ z),λv z=>by cases z]
  have oneD:∀p∈[(⇑s.heap.objs,((xd t.toArray nn):Ps))],p.1=⇑s.heap.objs:=λp Q=>by
   have hp':p=(⇑s.heap.objs,(xd t.toArray nn)):=by simpa using Q
   rw[hp']
  cases k with
  |zero=>
   dsimp only[bL]at w5;split at w5
   next hst=>
    cases w5;rw[Oz]at hw5;subst hw5;show bo (T.done (nT X scope cl ⇑h2.objs N s3 H (G++[⇑s.heap.objs])) rfl rfl rfl hc i _ s5 Y5 H5 _ pinD (fpOk' f5 oneD) t5 (mit.stop A5 H5 _ i e5 so5 hst)) λr s6 #[hr,I6]=>?_
    subst hr;have p6:=I6.pin _ (Oj _ (NT.mpr rfl));show theEnd s6 Y5 H5 A5 vs _ nn (I6.pins_of λp Q=>absurd Q (by simp)) p6.1 #[t,rfl,v5] n5 e5 so5 rl5
   ·cases w5
  |succ k=>
   dsimp only[bL]at w5;split at w5
   next w hw=>
    obtain⟨go,yl⟩:=mit.go A5 H5 S5 i w e5 so5 hw;show bo (T.item (nT X scope cl ⇑h2.objs N s3 H (G++[⇑s.heap.objs])) rfl rfl rfl hc i _ s5 Y5 H5 _ pinD (fpOk' f5 oneD) t5 go) λr s6 #[u,hr,h6]=>?_
    subst hr;show bo h6 λ_ s7 #[x,H7,I7,r7,y7,t7,f7]=>?_
    obtain⟨x1,x2,x3⟩:=yl x H7 y7;have I7':=I7.pinned (fpOk' f7 oneD) (T.obj _ _ t7);split at w5
    ·rename_i Z8 S8 h8;show bo (bk.tgt _ _ _ _ _ s7 Y5 H7 x u (λY' h=>∃B,Ext X.K A5 H5 B h/\w4 X B h S8/\EnvRel X.K B h Z8 Y') I7' r7 #[A5,Z5,S5,w,Z8,S8,er5.mono x1,x2,x3,h8,λY' h B q1 q2 q3=>#[B,x1.trans q1,q2,q3]]) λ_ s8 #[Y8,H8,I8,A8,e58,so8,er8]=>?_
     have e8:Ext X.K A H A8 H8:=e5.trans e58;have pD:∀{Y':L2.St}{h:Hp}{s':NH},Inv (nT X scope cl ⇑h2.objs N s3 H (G++[⇑s.heap.objs])) ([(⇑s.heap.objs,(xd t.toArray nn))]++lP G s7.heap) Y' h s'->s'.heap.get? ⇑s.heap.objs=ba (xd t.toArray nn)/\h ⇑s.heap.objs=dx:=λI'=>
      let q:=I'.pin _ (Oj _ (Oo _ (NT.mpr rfl)))
      #[q.1,q.2.1]
     have pF:∀{Y':L2.St}{h:Hp}{s':NH},Inv (nT X scope cl ⇑h2.objs N s3 H (G++[⇑s.heap.objs])) ([(⇑s.heap.objs,(xd t.toArray nn))]++lP G s7.heap) Y' h s'->(∀b∈G,h b=dx)/\∀b∈G,∀o,s7.heap.get? b=ba o->s'.heap.get? b=ba o:=λI'=>
      #[λb d=>by
       obtain⟨o,eo,_⟩:=T.obj _ _ t7 b d;show(I'.pin (b,o) (Oj _ (Oj _ (fJ d eo)))).2.1,
       λb d o eo=>(I'.pin (b,o) (Oj _ (Oj _ (fJ d eo)))).1]
     split at w5
     ·rename_i S9 h9;show bo (bk.tst _ _ _ _ _ s8 Y8 H8 (λb h=>b=true/\∃B,Ext X.K A8 H8 B h/\w4 X B h S9) I8 #[A8,Z8,S8,true,S9,er8,so8,h9,λb h #[z0,B,z1,z2]=>#[z0,B,z1,z2]]) λb s9 #[H9,I9,z0,A9,e9,so9]=>?_
      subst z0;rw[Ob rfl];split at w5
      ·rename_i y S10 h10;split at w5
       ·rename_i ys' S4 h11;cases w5;show bo (bk.elt _ _ _ _ _ s9 Y8 H9 (xa X A9 H9 S10 y) I9 #[A9,Z8,S9,y,S10,er8.mono e9,so9,h10,λ_ _ z=>z]) λu10 s10 #[v10,H10,I10,r10,A10,e10,so10,rl10]=>?_
        obtain⟨d10,n10⟩:=pD I10;obtain⟨f10,k10⟩:=pF I10;have hlen:↥t<sizeLine:=by
         have l1:=↥v5;have l2:=↥rl5;rw[hw5,NE,On]at hz;omega
        show qp d10 hlen λh' n' hd' hk'=>?_
        have Ib:Inv (nT X scope cl ⇑h2.objs N s3 H (G++[⇑s.heap.objs])) [] Y8 H10 {s10 with heap:=h'}:=by
         have Ia:Inv (nT X scope cl ⇑h2.objs N s3 H (G++[⇑s.heap.objs])) [] Y8 H10 s10:=I10.pins_of λp Q=>absurd Q (by simp)
         show Ia.turned   hk' n10 hDC (.inl M) cellD (λp Q=>absurd Q (by simp[nT]))
        show#[k,PX k,i+1,Y8,H10,A10,Z8,S10,done++[y],t++[u10],n',vs++[v10],ys',Ib,?_,f10,hd',n10,v5.append #v[r10],(e8.trans e9).trans e10,(er8.mono e9).mono e10,so10,?_,?_,h11]
        ·show T.keep (i+1) s7.heap h' t7 λb d o eo=>hk' b o (fpD b d) (k10 b d o eo)
        ·show(rl5.mono ((e58.trans e9).trans e10)).append #v[rl10]
        ·rw[hw5,OO];rfl
       ·cases w5
      ·cases w5
     ·rename_i S9 h9;show bo (bk.tst _ _ _ _ _ s8 Y8 H8 (λb h=>b=false/\∃B,Ext X.K A8 H8 B h/\w4 X B h S9) I8 #[A8,Z8,S8,false,S9,er8,so8,h9,λb h #[z0,B,z1,z2]=>#[z0,B,z1,z2]]) λb s9 #[H9,I9,z0,A9,e9,so9]=>?_
      subst z0;rw[Ot OG];obtain⟨d9,n9⟩:=pD I9;obtain⟨f9,k9⟩:=pF I9;show#[k,PX k,i+1,Y8,H9,A9,Z8,S9,done,t,nn,vs,ys,I9.pins_of λp Q=>absurd Q (by simp),T.keep (i+1) s7.heap _ t7 k9,f9,d9,n9,v5,e8.trans e9,er8.mono e9,so9,rl5.mono (e58.trans e9),hw5,w5]
     ·cases w5
    ·cases w5
   ·cases w5
 show codeAny_compStart_list (loop _ rfl) (T.self X.A 0 _ _ _ t1 (loop _ rfl))
def si (e:mG i g c f b Z S=ba (w,h)) :
  ∃mi S1 n d a,i Z S=ba (mi,S1)/\mi.len S1=ba n/\bL mi g c f n 0 (eM b Z) S1=ba (d,a)/\↥d<=sizeLine/\w=.ref ↥a/\h=a++[.lst d]:=by
 unfold mG at e;split at e
 next mi S1 j=>
  split at e
  next n k=>
   split at e
   next d a l=>obtain⟨m,o,p⟩:=ln e;show#[mi,S1,n,d,a,j,k,l,m,o,p]
   ·cases e
  ·cases e
 ·cases e
def EA {V:FI}(hc:X.calm=true)(hi:GI X tg iter V)(B:X.Ok->∃l,CompOk X scope l N h/\BlockOk X scope l N tg i j g c f)
  (hs:∀x,foldedSetIterable iter X.env x=pure x):GE X (.ListComp i [#[tg,iter,j,0]] scope pos) (mG V g c f h):=by
 intro J s Y H Q I ⟨A,Z,S,w,S',U,so,e,hq⟩;obtain⟨mi,S1,n,ys,S2,h1,h2,h3,h4,rfl,rfl⟩:=si e;obtain⟨l,k,bk⟩:=B I.ok;show Te  rfl hs k.clos k.kind k.names (bo (hi _ s Y H (λP d=>∃a,Ext X.K A H a d/\w4 X a d S1/\MIt X.w X.K mi P a d) I #[A,Z,S,mi,S1,U,so,h1,λP d a z1 z2 z3=>#[a,z1,z2,z3]]) λv s1 q1=>bo q1 λitv s2 q2=>?_)
 obtain⟨it,fp,tn,P,H2,rfl,W,T,t0,E,A2,R,M,L⟩:=q2;show oR  W hc (U.mono R) M k bk T t0 E L h3 h4 ?_;intro D C s' d a vs m hn z y p hCf r u q t I3 ex O rl;show#[m,hn,λh' G=>?_]
 have I4:Inv X _ Y _ {s' with heap:=h'}:=I3.turned   (λb o hb eo=>G.extBut b o hb eo) (by rw[aM (Ne.symm y)];show r) p (.inr u) q t
 show#[.ref D,_,I4,rfl,hq _ _ (EndV.after (R.trans ex) (.lst O rl z))]
def uT (hc:X.calm=true)(hi:GI X tg iter fi)(hck:X.Ok->∃P,CompOk X scope P N q/\BlockOk X scope P N tg a d g c f)
  (hs:∀x,foldedSetIterable iter X.env x=pure x) (hsw:swapsWith (.ListComp a [#[tg,iter,d,0]] scope pos) (ba (.Name y py)) j.line X.env=pure true) (hN:X.N.Nodup) (hy:X.N[i]?=ba y) (hl:X.env.scope.names.lookup y=ba .local) :
  GS X (.Assign [.Name y py] (.ListComp a [#[tg,iter,d,0]] scope pos) j) (mB (mG fi g c f q) (F3 i)):=by
 intro J s Y H Dd I ⟨A,Z,S,o,S',U,so,e,hd⟩;unfold mB at e;split at e
 next w S0 h0=>
  simp only[F3]at e;cases e;obtain⟨mi,S1,n,ys,S2,h1,h2,h3,h4,rfl,rfl⟩:=si h0;obtain⟨P,E,bk⟩:=hck I.ok;rw[exec_Assign_Name_used _ _ _ _ hsw];show NA (Sg (NA ?_));change wpAny _ X.A (do let _ <- comprehension (.ListComp a [#[tg,iter,d,0]] scope pos) scope X.env _ (newList []) false (eval iter X.env) (ba (assign (.Name y py) X.env))) _ _ s
  show NA (PK (Te (use:=ba (assign (.Name y py) X.env)) (Q:=λ_ s'=>SP X J Dd .next s') rfl hs E.clos E.kind E.names
   (bo (hi J s Y H (λtd h=>∃l,Ext X.K A H l h/\w4 X l h S1/\MIt X.w X.K mi td l h) I #[A,Z,S,mi,S1,U,so,h1,λtd h l z1 z2 z3=>#[l,z1,z2,z3]]) λv s1 q1=>bo q1 λitv s2 q2=>?_)) (λ_ s' hq=>NN (NN hq)) λ_ _ e=>e)
  obtain⟨it,fp,tn,td,H2,rfl,I2,T,t0,hfp,A2,e2,so2,mit⟩:=q2;show oR (RR:=λO C=>compPost (model X.prog X.w) X.A X.xe (ba (assign (.Name y py) X.env)) (λ_ s'=>SP X J Dd .next s') O C) I2 hc (U.mono e2) so2 E bk T t0 hfp mit h3 h4 ?_
  intro D C s' h l vs m hn hDn u r hCf t hCs W hCp I3 ex so3 rl;obtain⟨G,V,R,hoC,B,hrC⟩:=id hn;have L:Inv X (J++[(C,G)]) Y (bP h D (.lst vs)) s':=I3.pins_of λp k=>by
   rcases Oa.mp k with k|k
   ·show I3.pin p (Oj _ k)
   ·have hp':p=(C,G):=by simpa using k
    subst hp';show#[hoC,by rw[aM (Ne.symm u)];show t,r,hCf,λv z=>by rw[B]at z;cases z]
  change wpAny _ X.A (assign (.Name y py) X.env (.ref D)) _ _ _;show Vk (iR L hN hy (.inl hl) (v:=.ref D) rfl (λs4 M=>?_) (.inr hl))
  have pC:=M.pin (C,G) (Oj _ (Oj _ (NT.mpr rfl)));show#[m,#[G,V,R,pC.1,B,hrC],λh' hs'=>?_]
  have I5:Inv X J (Y.set i (ba (.ref D))) (bP h D (.lst vs)) s4:=M.pins_of λp k=>M.pin p (Oj _ (Oo _ k))
  have I6:Inv X J (Y.set i (ba (.ref D))) (bP h D (.lst vs)) {s4 with heap:=h'}:=I5.turned (t':=s4.toks) (it:=C) (λb o hb eo=>hs'.extBut b o hb eo) (by rw[aM (Ne.symm u)];show t) r (.inr hCs) W hCp
  obtain⟨Af,f1,f2,f3⟩:=EndV.after (e2.trans ex) (EndV.lst so3 rl hDn);show#[_,_,I6,hd.nx _ _ #[_,Af,rfl,f1,f2,(U.mono f1).set f3 i]]
 ·cases e
open PySem.Builtin.SmallTypes (nextOf)
structure Zap (z p q i j:NR):Prop where
 pz:p≠z
 qz:q≠z
 iz:i≠z
 jz:j≠z
 pq:p≠q
 pi:p≠i
 pj:p≠j
 qi:q≠i
 qj:q≠j
 ij:i≠j
section
variable{prog:Op}{w:OF}
structure Zit (prog:Op)(w:OF)(it:NR)(T:NF->OM->Prop)(C:OM->Prop)(i:NF)(Uqb:NJ (NC->Prop)):Prop where
 keep:∀j h h',T j h->(∀o,h.get? it=ba o->h'.get? it=ba o)->T j h'
 next:∀V,Uqb=ba V->∀(B:OD) (s:NH) (Q:NC->NH->Prop) (E:NC->NH->Prop),T i s.heap->C s.heap->(∀u h' tk,V u->T (i+1) h'->QF it s.heap h'->Q u (xc s h' tk))->wpAny (model prog w) B (nextOf (.ref it)) Q E s
 stop:Uqb=dx->∀(B:OD) (s:NH) (Q:NC->NH->Prop) (E:NC->NH->Prop),B.handled=dx->T i s.heap->C s.heap->(∀h' e,Uv it s.heap h'->(∃o,h'.get? e=ba o/\o.cls=.type "StopIteration")->E (.ref e) {s with heap:=h'})->wpAny (model prog w) B (nextOf (.ref it)) Q E s
variable{B:OD}{E:NC->NH->Prop}{s:NH}{z p q i1 i2:NR}{T1 T2:NF->OM->Prop}{C1 C2:OM->Prop}{i:NF}{a b:NC}
abbrev Zc (z q i1 i2:NR)(C:OM->Prop):Prop:=∀h h',C h->(∀c o,c≠z->c≠q->c≠i1->c≠i2->h.get? c=ba o->h'.get? c=ba o)->C h'
def sj { W:NJ (NC->Prop)}{Q:NC->NH->Prop}(D:Zap z p q i1 i2)(L:Zit prog w i1 T1 C1 i G)(Z2':∀y,G=ba y->Zit prog w i2 T2 C2 i W)(k1:Zc z q i1 i2 C1)(k2:Zc z q i1 i2 C2)(hh:B.handled=dx)
  (R:W0 s.heap z p q .none) (hp:R6 s.heap p (.ref i1) (.ref i2)) (hq:R6 s.heap q a b) (t1:T1 i s.heap) (t2:T2 i s.heap) (c1:C1 s.heap) (c2:C2 s.heap)
  (hI:∀y I,G=ba y->W=ba I->∀u v h' tk,y u->I v->W0 h' z p q (rawInt ⇑s.heap.objs)->R6 h' q u v->T1 (i+1) h'->T2 (i+1) h'->R6 h' ⇑s.heap.objs u v->
   (∀c o,c≠z->c≠q->c≠i1->c≠i2->s.heap.get? c=ba o->h'.get? c=ba o)->Q (.ref ⇑s.heap.objs) (xc s h' tk))
  (hE:G=dx\/W=dx->∀h' tk e,(∀c o,c≠z->c≠q->c≠i1->c≠i2->s.heap.get? c=ba o->h'.get? c=ba o)->(∃o,h'.get? e=ba o/\o.cls=.type "StopIteration")->E (.ref e) (xc s h' tk)) :
  wpAny (model prog w) B (Rk.«zip.__next__» #[[.ref z],[]]) (λfin s'=>∃v,fin=.done (.ret v)/\Q v s') E s:=by
 change wpAny _ _ (field (.ref z) 2 >>= _) _ _ s;show NA (O7 R rfl (x:=.bool false) rfl ?_);show NA (O7 R rfl  rfl (NA (Pz hp rfl ?_)));show NA (NA (O7 R rfl  rfl (NN ?_)));show NA (Sy (NA (O7 R rfl  rfl ?_)));show NA (Qv R (by simp) λg1 r s1=>?_)
 replace r:=r;show NA ?_;delta List.zipIdx_cons List.zipIdx_nil RO WD;show NA (NA (WR ?_));change wpAny _ _ (nextOf (.ref i1) >>= _) _ _ _;have j:=λc o hc e=>s1.extBut c o hc e
 have U:=L.keep _ _ _ t1 λo e=>j _ _ D.iz e
 have N:=k1 _ _ c1 λc o hc _ _ _ e=>j c o hc e
 have fin:∀g tk it e,(it=i1\/it=i2)->G=dx\/W=dx->W0 g z p q .ellipsis->(∀c o,c≠z->c≠q->c≠i1->c≠i2->s.heap.get? c=ba o->g.get? c=ba o)->(∃o,g.get? e=ba o/\o.cls=.type "StopIteration")->
   wpAny (model prog w) B (setField (.ref z) 0 .none) (λ_ s''=>E (.ref e) s'') E (xc s g tk):=λg tk it e _ hu gz kg #[oe,A,hc]=>by
  have ne:e≠z:=λx=>by subst x;rw[gz]at A;cases A;simp at hc
  show Qv gz (by simp) λg' _ sb=>hE hu g' tk e (λc o d k f M x=>sb.extBut _ _ d (kg c o d k f M x)) #[oe,sb.extBut _ _ ne A,hc]
 cases h:G with
 |none=>
  show NA (L.stop h _ _ _ _ hh U N λg2 e P A=>?_)
  show fin g2 s.toks i1 e (.inl rfl) (.inl h) (P _ _ D.iz.symm r) (λc o d _ f _ x=>P _ _ f (j c o d x)) A
 |some y=>
  have J:=Z2' y h;show NA (L.next y h _ _ _ _ U N λu g2 tk2 hu t12 s2=>NN ?_)
  have q2:=s2.extBut _ _ D.qi (j _ _ D.qz hq);show NA (Pz q2 rfl (NA (UC q2 λg3 q3 s3=>?_)))
  replace q3:=q3;show NA (Rq (NN ?_));show NA (NA (WR ?_));change wpAny _ _ (nextOf (.ref i2) >>= _) _ _ _;have m:=λc o d k f x=>s3.extBut _ _ k (s2.extBut _ _ f (j c o d x))
  have Y:=s3.extBut _ _ D.qz.symm (s2.extBut _ _ D.iz.symm r);have V:=J.keep _ _ _ t2 λo e=>m _ _ D.jz D.qj.symm D.ij.symm e
  have O:=k2 _ _ c2 λc o d k f _ e=>m c o d k f e
  cases l:W with
  |none=>
   show NA (J.stop l _ _ _ _ hh V O λg4 e P A=>?_)
   show fin g4 tk2 i2 e (.inr rfl) (.inr l) (P _ _ D.jz.symm Y) (λc o d k f M x=>P _ _ M (m c o d k f x)) A
  |some I=>
   show NA (J.next I l _ _ _ _ V O λv g4 tk4 hv t24 S=>NN ?_)
   have q4:=S.extBut _ _ D.qj q3;show NA (Pz q4 rfl (NA (UC q4 λH q5 T=>?_)))
   replace q5:R6 H q u v:=q5;show NA (Rq (NN (NN ?_)));show NA (Pz q5 rfl (NA (SH ?_)));have sz:⇑H.objs=⇑s.heap.objs:=by rw[T.1,S.1,s3.1,s2.1,s1.1]
   have Z:=T.extBut _ _ D.qz.symm (S.extBut _ _ D.jz.symm Y);have t15:=L.keep _ _ _ t12 λo e=>T.extBut _ _ D.qi.symm (S.extBut _ _ D.ij (s3.extBut _ _ D.qi.symm e))
   have t25:=J.keep _ _ _ t24 λo e=>T.extBut _ _ D.qj.symm e
   have X:=N8 Z;change wpAny _ _ (RD (.ref z) (.ref ⇑H.objs) >>= _) _ _ _;show NA ?_;delta RD;have zz6:W0 (H.push {cls:=.type "tuple",data:=.seq [u,v].toArray}) z p q .ellipsis:=ND _ Z;show NA (Qv zz6 (by simp) λg7 C s7=>?_)
   replace C:=C;show Qv C (by simp) λg8 t s8=>?_
   replace t:=t;have n:∀c o,c≠z->H.get? c=ba o->g8.get? c=ba o:=λc o hc e=>s8.extBut _ _ hc (s7.extBut _ _ hc (ND _ e))
   have n8:=s8.extBut _ _ (O2 X) (s7.extBut _ _ (O2 X) (N2 _ rfl));rw[sz]at t n8;show NN #[_,rfl,?_];change Q (.ref ⇑H.objs) _;rw[sz];show hI y I h l u v g8 tk4 hu hv t (n _ _ D.qz q5) (L.keep _ _ _ t15 λo e=>n _ _ D.iz e) (J.keep _ _ _ t25 λo e=>n _ _ D.jz e) n8 λc o d k f M e=>n c o d (T.extBut _ _ k (S.extBut _ _ M (m c o d k f e)))
end
open PySem.Builtin.SmallTypes (nextOf)
abbrev fO (prog:Op)(w:OF)(v:NC)(o:Ps)(C:OM->Prop):Prop:=∀(B:OD) (s:NH) (Q:NC->NH->Prop) (E:NC->NH->Prop),C s.heap->Q (.ref ⇑s.heap.objs) {s with heap:=s.heap.push o}->wpAny (model prog w) B (pyIter v) Q E s
abbrev Ku (h:OM)(a b:Ps):OM:=(h.push a).push b
abbrev Kv (h:OM)(a b:Ps):OM:=(Ku h a b).push {cls:=.type "tuple",data:=.seq [.ref ⇑h.objs,.ref (h.push a).objs.size].toArray}
abbrev Kw (h:OM)(a b:Ps):OM:=(Kv h a b).push {cls:=.type "tuple",data:=.seq [.none,.none].toArray}
abbrev F6 (h:OM)(a b:Ps):OM:=(Kw h a b).push {cls:=.type "zip",data:=.fields [.none,.bool false,.bool false,.ref (Ku h a b).objs.size,.ref (Kv h a b).objs.size].toArray}
variable{C1 C2:OM->Prop}
section
variable{w:OF}{E:NC->NH->Prop}{v1 v2:NC}{o1 o2:Ps}
def uU (i:fO prog w v1 o1 C1)(j:fO prog w v2 o2 C2)(l:∀h o,C2 h->C2 (h.push o)) :
  MeetsIn prog w (Rk.«zip.__new__» #[[.type "zip",v1,v2],[]]) (λ_ R s=>C1 s.heap/\C2 s.heap/\R (.ok (.ret (.ref (Kw s.heap o1 o2).objs.size))) {s with heap:=F6 s.heap o1 o2}):=
 .of_wp λA R s h=>by
  obtain⟨k,g,d,tk,os⟩:=s;obtain⟨b,c,h⟩:=h;have a:=sub_zip;have e:=λB Q E q=>i B _ Q E b q
  have f:=λB Q E q=>j B #[k.push o1,g,d,tk,os] Q E (l _ _ c) q
  wp_walk using e _ _ _,f _ _ _
  show#[_,rfl,h]
def AG (p:fO prog w v1 o1 C1)(q:fO prog w v2 o2 C2)(r:∀h o,C2 h->C2 (h.push o))(k:C1 s.heap)(l:C2 s.heap)(t:o1.isFreed=false)(u:o2.isFreed=false)
  (h:∀h',W0 h' (⇑s.heap.objs+4) (⇑s.heap.objs+2) (⇑s.heap.objs+3) .none->R6 h' (⇑s.heap.objs+2) (.ref ⇑s.heap.objs) (.ref (⇑s.heap.objs+1))->R6 h' (⇑s.heap.objs+3) .none .none->
   h'.get? ⇑s.heap.objs=ba o1->h'.get? (⇑s.heap.objs+1)=ba o2->⇑h'.objs=⇑s.heap.objs+5->(∀c o,s.heap.get? c=ba o->h'.get? c=ba o)->Q (.ref (⇑s.heap.objs+4)) {s with heap:=h'}) :
  wpAny (model prog w) B (call (.type "zip") [v1,v2]) Q E s:=by
 show WE F.called_zip #v[] (F.typeCall_zip_2 _ _) (F.newCall_zip_2 _ _) (λobj=>F.args_object_init_3 obj _ _) F.entry_zip_new (uU p q r) #[k,l,?_]
 have a:(s.heap.push o1).objs.size=⇑s.heap.objs+1:=Qk ..;have b:(Ku s.heap o1 o2).objs.size=⇑s.heap.objs+2:=by unfold Ku;rw[Qk,a]
 have d:(Kv s.heap o1 o2).objs.size=⇑s.heap.objs+3:=by unfold Kv;rw[Qk,b]
 have e:(Kw s.heap o1 o2).objs.size=⇑s.heap.objs+4:=by unfold Kw;rw[Qk,d]
 have m:(F6 s.heap o1 o2).objs.size=⇑s.heap.objs+5:=by unfold F6;rw[Qk,e]
 have f:(F6 s.heap o1 o2).get? (Kw s.heap o1 o2).objs.size=ba _:=N2 _ rfl;have j:(F6 s.heap o1 o2).get? (Kv s.heap o1 o2).objs.size=ba _:=ND _ (N2 _ rfl);have i:(F6 s.heap o1 o2).get? (Ku s.heap o1 o2).objs.size=ba _:=ND _ (ND _ (N2 _ rfl));have g:(F6 s.heap o1 o2).get? (s.heap.push o1).objs.size=ba o2:=ND _ (ND _ (ND _ (N2 _ u)));have n:(F6 s.heap o1 o2).get? ⇑s.heap.objs=ba o1:=ND _ (ND _ (ND _ (ND _ (N2 _ t))));rw[b,d,e]at f;rw[a,b]at i;rw[d]at j;rw[a]at g;change _/\_;rw[e];show#[#[_,f,rfl],h _ f i j n g m λc o x=>ND _ (ND _ (ND _ (ND _ (ND _ x))))]
end
open PySem.Builtin.SmallTypes (nextOf)
section
variable{w:OF}{E:NC->NH->Prop}
def F7 (a:s.heap.IsTupleIter it t i)(f:s.heap.IsTuple t items)(g:items[i]?=ba x)
  (e:∀h',h'.IsTupleIter it t (i+1)->QF it s.heap h'->Q x {s with heap:=h'}):wh prog w A (nextOf (.ref it)) Q E s:=by
 obtain⟨o,b,hc,hd⟩:=id a;obtain⟨j,d,_,h,c⟩:=f;show NA (OW  a.typeIs F.slot_tuple_iterator_next (Pd F.slot_tuple_iterator_next a.typeIs F.entry_tuple_iterator_next ?_ (F.args_tuple_iterator_next_1 _)));change wpAny _ _ (field _ 0 >>= _) _ _ s;show NA (O7 b hd  rfl ?_);change wpAny _ _ _ _ _ s;show NA (O7 b hd  rfl (NA (Pz d c ?_)));revert Od g;show NA (SE b hd (by simp) (NN #[x,rfl,NN (e _ #[_,Qz _ b (Up (RS hd _)),(Vz ..).trans hc,?_] (RB ..))]))
 rw[RS hd];simp[rawInt]
def F8 (f:A.handled=dx)(a:s.heap.IsTupleIter it t i)(h:s.heap.IsTuple t items)(j:items[i]?=dx)
  (g:∀h' e,Uv it s.heap h'->(∃o,h'.get? e=ba o/\o.cls=.type "StopIteration")->E (.ref e) {s with heap:=h'}):wh prog w A (nextOf (.ref it)) Q E s:=by
 obtain⟨o,c,hc,hd⟩:=id a;obtain⟨l,d,_,k,b⟩:=h;show NA (OW  a.typeIs F.slot_tuple_iterator_next (Pd F.slot_tuple_iterator_next a.typeIs F.entry_tuple_iterator_next ?_ (F.args_tuple_iterator_next_1 _)));change wpAny _ _ (field _ 0 >>= _) _ _ s;show NA (O7 c hd  rfl ?_);change wpAny _ _ _ _ _ s;show NA (O7 c hd  rfl (NA (Pz d b ?_)));revert Od j;show NA (Sy (NA (SE c hd (by simp) ?_)))
 show NA ?_;show NA (OQ ?_ (by size_fits))
 show NA  (SW  (by first|rfl|(rfl)) (OQ ?_ (by size_fits)))
 show NA (WQ ?_)
 first|rw[f]|rw[f]
 show NA (NN (Xr (g _ _ (((RB ..).extBut.push _).push _) #[_,N2 _ rfl,rfl])))
end
inductive Zs where|tup (a:NR)|lst (a:NR)|txt (x:Oc)
abbrev Zs.T (it:NR):Zs->NF->OM->Prop
 |.tup a,i,h=>h.IsTupleIter it a i
 |.lst a,i,h=>h.IsListIter it a i
 |.txt x,i,h=>∃t,h.IsStrIter it "str_ascii_iterator" x t i\/h.IsStrIter it "str_iterator" x t i
abbrev Zs.at (K:NY)(H:Hp)(i:NF)(v:V):Zs->Prop
 |.tup a=>∃xs,SqT K H a xs/\xs[i]?=ba v
 |.lst a=>∃xs,SqL K H a xs/\xs[i]?=ba v
 |.txt x=>∃c,x.cps[i]?=ba c/\v=.str #[[c].toArray]
abbrev Zs.out (K:NY)(H:Hp)(i:NF):Zs->Prop
 |.tup a=>∃xs,SqT K H a xs/\↥xs<=i
 |.lst a=>∃xs,SqL K H a xs/\↥xs<=i
 |.txt x=>⇑x.cps<=i
def Zs.keep {S:Zs}(t:S.T it j h)(k:∀o,h.get? it=ba o->h'.get? it=ba o):S.T it j h':=by
 cases S with
 |tup a=>show t.at k
 |lst a=>show t.at k
 |txt x=>
  obtain⟨tk,t⟩:=t;show#[tk,t.imp (λ#[o,e,r]=>#[o,k _ e,r]) λ#[o,e,r]=>#[o,k _ e,r]]
def AH (I:Inv X J Y H s)(h:X.K.lookup a=ba o)(f:jC X J H b):a≠b:=λz=>by
 subst z;have c:=I.ok.mod.kin a o h;rcases f.2.2.2.1 with q|q
 ·show I.ok.noex a o c q
 ·show absurd (N5 (N8 (I.ok.bs a o c).1) q) (Pf _)
open PySem.Builtin.SmallTypes (nextOf)
variable{h':OM}
def AI (h:Rd H a u)(f:H b=dx):a≠b:=λz=>by
 subst z;rcases h with h|⟨o,h⟩<;>(rw[f]at h;cases h)
def Inv.turnedL {ch:Ny NR}(I:Inv X J Y H s)(k:∀b o,b∉ch->s.heap.get? b=ba o->h'.get? b=ba o)(d:∀b∈ch,jC X J H b):Inv X J Y H (xc s h' t'):=by
 have a:∀b u,H b=ba u->b∉ch:=λb u e z=>by have:=(d b z).1;rw[e]at this;cases this
 show I.step (g':=s.gens) (d':=s.drawn) (ch:=ch) (λb l=>?_) (λb o _ _ hc e _=>k b o hc e) (λb o _ _ hc e _=>#[o.slots,k b o hc e]) (λ_ _ _ _ n=>n) (λb o hc e=>#[o,k b o hc e]) (λ_ _ e=>e) (λ_ _ _ e=>e) (λb ps e=>#[#[],by rw[e];simp]) (λm p=>?_) (λb u e=>?_) I.bare
 ·obtain⟨_,g,_,h,i,j⟩:=d b l;show#[h,g,i,j]
 ·obtain⟨o,es,f,t,r⟩:=p;show#[o,es,f,k _ o (λz=>(d _ z).2.1 rfl) t,r]
 ·show(I.hok b u e).stay (λc v hc q=>k c v ?_ q) (λ_ q=>q) λ_ _ q=>q
  rcases hc with z|z
  ·rw[z];show a b u e
  ·show a c _ z
def Zs.zit {S:Zs}{Uqb:NJ V}(I:Inv X J Y H s)(M:∀b∈[z,q,m,n],jC X J H b)(g:match Uqb with|some v=>S.at X.K H i v|none=>S.out X.K H i) :
  ∃C,Zit X.prog X.w it (S.T it) C i (Uqb.map λv u=>RelV v u)/\C s.heap/\Zc z q m n C:=by
 have zc:∀(a:NR) (P:OM->Prop),(∀h h',P h->(∀o,h.get? a=ba o->h'.get? a=ba o)->P h')->(∀b∈[z,q,m,n],a≠b)->Zc z q m n P:=λa P hP U h h' p k=>
  hP h h' p λo e=>k a o (U z (by simp)) (U q (by simp)) (U m (by simp)) (U n (by simp)) e
 have sep:∀{a:NR}{u:HO}{o:Ps}{b:NR},(Rd H a u\/X.K.lookup a=ba o)->b∈[z,q,m,n]->a≠b:=λh f=>h.elim (λr=>AI r (M _ f).1) λr=>AH I r (M _ f)
 cases S with
 |tup a=>
  obtain⟨xs,R,l⟩:∃xs,SqT X.K H a xs/\(match Uqb with|some v=>xs[i]?=ba v|none=>↥xs<=i):=by
   cases Uqb<;>show g
  obtain⟨y,T,p,_⟩:=I.tuple R;have w:∀b∈[z,q,m,n],a≠b:=λb f=>by
   rcases R with r|⟨o,_,_,r,_⟩
   ·show AI r (M b f).1
   ·show AH I r (M b f)
  show#[λh=>h.IsTuple a y.toArray,#[λj h h' t k=>Zs.keep (S:=.tup a) t k,λV d B A Q E t c L=>?_,λO B A Q E N t c G=>?_],p,zc a _ (λh h' #[o,e,r] k=>#[o,k _ e,r]) w]
  ·cases Uqb with
   |none=>cases d
   |some v=>
    cases d;obtain⟨u,W,ru⟩:=T.get l;show F7 t c (x:=u) (by simpa using W) λh' t' D=>L u h' A.toks ru t' D
  ·cases Uqb with
   |some v=>cases O
   |none=>
    have:=L2.Vals.length T;have Z:↥xs<=i:=l;show F8 N t c (by simp;omega) G
 |lst a=>
  obtain⟨xs,R,l⟩:∃xs,SqL X.K H a xs/\(match Uqb with|some v=>xs[i]?=ba v|none=>↥xs<=i):=by
   cases Uqb<;>show g
  obtain⟨y,T,p,_⟩:=I.list R;have w:∀b∈[z,q,m,n],a≠b:=λb f=>by
   rcases R with r|⟨o,_,_,r,_⟩
   ·show AI r (M b f).1
   ·show AH I r (M b f)
  show#[λh=>h.IsList a y.toArray,#[λj h h' t k=>Zs.keep (S:=.lst a) t k,λV d B A Q E t c L=>?_,λO B A Q E N t c G=>?_],p.isList,zc a _ (λh h' #[o,e,r] k=>#[o,k _ e,r]) w]
  ·cases Uqb with
   |none=>cases d
   |some v=>
    cases d;obtain⟨u,W,ru⟩:=T.get l;show TV t c (x:=u) (by simpa using W) λh' t' D=>L u h' A.toks ru t' D
  ·cases Uqb with
   |some v=>cases O
   |none=>
    have:=L2.Vals.length T;have Z:↥xs<=i:=l;show Uq N t c (by simp;omega) G
 |txt x=>
  show#[λ_=>Wm,#[λj h h' t k=>Zs.keep (S:=.txt x) t k,λV d B A Q E t _ L=>?_,λO B A Q E N t _ G=>?_],trivial,λ_ _ _ _=>trivial]
  ·cases Uqb with
   |none=>cases d
   |some v=>
    cases d;obtain⟨c,hc,rfl⟩:∃c,x.cps[i]?=ba c/\v=.str #[[c].toArray]:=g;obtain⟨tk,t|t⟩:=t
    ·show wpAny_nextOf_ascii_item t hc λh' t' D=>L _ h' _ #[_,rfl] #[tk,.inl t'] D
    ·show wpAny_nextOf_wide_item t hc λh' t' D=>L _ h' _ #[_,rfl] #[tk,.inr t'] D
  ·cases Uqb with
   |some v=>cases O
   |none=>
    have l:x.cps[i]?=dx:=by simpa using(show ⇑x.cps<=i from g)
    obtain⟨tk,t|t⟩:=t
    ·show wpAny_nextOf_ascii_end N t l G
    ·show wpAny_nextOf_wide_end N t l G
abbrev Zs.is (K:NY)(H:Hp)(i:NF)(v:V):Zs->Prop
 |.tup a=>∀xs,SqT K H a xs->xs[i]?=ba v
 |.lst a=>∀xs,SqL K H a xs->xs[i]?=ba v
 |.txt x=>∃c,x.cps[i]?=ba c/\v=.str #[[c].toArray]
def Zs.at_is {S:Zs}(I:Inv X J Y H s)(h:S.at X.K H i v):S.is X.K H i v:=by
 cases S with
 |tup a=>obtain⟨xs,b,c⟩:=h;show λe d=>by rw[I.tuple_inj d b];show c
 |lst a=>obtain⟨xs,b,c⟩:=h;show λe d=>by rw[I.list_inj d b];show c
 |txt x=>show h
abbrev LP:W->NJ (Ny W)
 |.tup xs=>ba xs
 |.str x=>ba (x.cps.toList.map λc=>.str #[[c].toArray])
 |_=>dx
section
variable{A:Ny NR}
abbrev ZRel (K:NY)(A:Ny NR)(H:Hp)(xs:Ny W):Zs->Prop
 |.tup a=>∃vs,SqT K H a vs/\RelL K A H xs vs
 |.lst a=>Pg
 |.txt x=>xs=x.cps.toList.map λc=>.str #[[c].toArray]
def ZRel.mono {K:NY}{S:Zs}(e:Ext K A H b c)(h:ZRel K A H xs S):ZRel K b c xs S:=by
 cases S with
 |tup a=>obtain⟨vs,d,f⟩:=h;show#[vs,e.tp _ _ d,f.mono e]
 |lst a=>show h
 |txt x=>show h
def ZRel.at {K:NY}{S:Zs}(h:ZRel K A H xs S)(hi:xs[i]?=ba w):∃v,S.at K H i v/\Rel K A H w v:=by
 cases S with
 |tup a=>obtain⟨vs,b,d⟩:=h;obtain⟨v,e,f⟩:=d.get hi;show#[v,#[vs,b,e],f]
 |lst a=>show h.elim
 |txt x=>
  subst h;rw[NO,NB]at hi;obtain⟨c,hc,rfl⟩:=hi;show#[.str _,#[c,by rw[<- O6];show hc,rfl],.str]
def ZRel.is {K:NY}{S:Zs}(h:ZRel K A H xs S)(hi:xs[i]?=ba w)(z:S.is K H i v):Rel K A H w v:=by
 obtain⟨j,d,f⟩:=h.at hi;cases S with
 |tup a=>
  obtain⟨vs,q,e⟩:=d;have:=z vs q;rw[e]at this;cases this
  show f
 |lst a=>show h.elim
 |txt x=>
  obtain⟨c,e,rfl⟩:=d;obtain⟨g,b,rfl⟩:=z;rw[e]at b;cases b
  show f
def ZRel.out {K:NY}{S:Zs}(h:ZRel K A H xs S)(hi:↥xs<=i):S.out K H i:=by
 cases S with
 |tup a=>obtain⟨vs,b,c⟩:=h;show#[vs,b,by rw[<- ↥c];show hi]
 |lst a=>show h.elim
 |txt x=>
  subst h;change ⇑x.cps<=i
  simpa using hi
def EB (I:Inv X J Y H s)(r:Rel X.K A H x v)(i:RelV v u)(e:LP x=ba xs) :
  ∃ S o C,ZRel X.K A H xs S/\fO X.prog X.w u o C/\C s.heap/\(∀h o,C h->C (h.push o))/\o.isFreed=false/\∀it h,h.get? it=ba o->S.T it 0 h:=by
 cases r with
 |@tup ws a vs g k=>
  cases e;obtain⟨d,l,p,_⟩:=I.tuple g;obtain rfl:u=O0 a:=i;show#[.tup a,{cls:=.type "tuple_iterator",data:=.fields [.ref a,.int 0 0].toArray},λh=>h.IsTuple a d.toArray,#[vs,g,k],λB s Q E c b=>RT c b,p,λh o #[j,e,r]=>#[j,ND _ e,r],rfl,λit h e=>#[_,e,rfl,rfl]]
 |@str x=>
  cases e;obtain⟨t,rfl⟩:=i;cases f:x.cps.all (· < 128)with
  |false=>show#[.txt x,{cls:=.type "str_iterator",data:=.fields [.str x t,.int 0 0].toArray},λ_=>Wm,rfl,λB s Q E _ b=>wpAny_pyIter_wide f b,trivial,λ_ _ _=>trivial,rfl,λit h e=>#[t,.inr #[_,e,rfl,rfl]]]
  |true=>show#[.txt x,{cls:=.type "str_ascii_iterator",data:=.fields [.str x t,.int 0 0].toArray},λ_=>Wm,rfl,λB s Q E _ b=>wpAny_pyIter_ascii f b,trivial,λ_ _ _=>trivial,rfl,λit h e=>#[t,.inl #[_,e,rfl,rfl]]]
 |_=>cases e
def AJ:bootBuiltins "zip" = ba (.type "zip"):=rfl
def EC (I:Inv X J Y H s)(i:RelV (.ref a) u)(f:SqL X.K H a xs) :
  ∃ o C,fO X.prog X.w u o C/\C s.heap/\(∀h o,C h->C (h.push o))/\o.isFreed=false/\∀it h,h.get? it=ba o->(Zs.lst a).T it 0 h:=by
 obtain⟨b,j,p,_⟩:=I.list f;obtain rfl:u=O0 a:=i;show#[{cls:=.type "list_iterator",data:=.fields [.ref a,.int 0 0].toArray},λh=>h.IsList a b.toArray,λB s Q E c d=>QI c d,p.isList,λh o #[g,e,r]=>#[g,ND _ e,r],rfl,λit h e=>#[_,e,rfl,rfl]]
end
def sn:typeLookup (.type "list") "keys" = pure dx:=We (by kernel_rfl)
def uV:typeLookup (.type "zip") "keys" = pure dx:=We (by kernel_rfl)
section
variable{w:OF}{E:NC->NH->Prop}
def sr (m:s.heap.get? a=ba o)(hc:o.cls=.type "list")(f:o.data=.seq xs k)(hd:o.dict=dx)(q:A.handled=dx)
  (h:∀h' tk,(∀b ob,s.heap.get? b=ba ob->h'.get? b=ba ob)->Q dx (xc s h' tk)):wh prog w A (getAttr? (.ref a) "keys") Q E s:=by
 obtain⟨c,p,n,t⟩:=o;simp only at hc f hd;subst hc f hd;obtain⟨r,g,d,tk,os⟩:=s;have l:∀j,(#[r,g,d,j,os]:NH).TypeIs (.ref a) "list":=λ_=>#[_,m,rfl]
 have u:=Vd;have x:=F.slot_list_getattribute.lookup;have y:=F.slot_list_getattribute.bind (.ref a);have z:=am_list_getattr_none;dsimp only[getAttr?,getAttrBy?,getAttrBy]
 repeat (any_goals (first|assumption|show l _|((with_reducible change wpAny _ _ (call (WS "list.__getattribute__") _ _) _ _ _);show Q8 F.slot_list_getattribute (l _) am_entry_list_getattribute (F.args_list_getattribute_2 _ _) (meets_getattribute_miss_list a xs k t "keys" _ sn #v[]) #[m,q,λh' j e i=>?_])|wp_step))
 obtain⟨t',C,B⟩:=i.there;change wpAny _ _ (getattributeRaised _ _ _ _ _ _ _) _ _ _;unfold getattributeRaised
 repeat (any_goals (first|assumption|wp_step))
 show h _ _ i.keeps
end
def fX:entryFor table "dict.update.loop" = ba Rk.«dict.update.loop»:=entryFor_of_tree (by kernel_rfl)
def dO:plainId "dict.update.loop" = true:=by decide +kernel
structure PSrc (prog:Op)(w:OF)(A:OD)(I d:NR)(its:Ny (cL×V))(wr:Ny NR)(St:NF->OM->Prop):Prop where
 frame:∀i h h',St i h->(∀b o,b≠d->h.get? b=ba o->h'.get? b=ba o)->St i h'
 item:∀(i:NF) (s:NH) (Q:NJ NC->NH->Prop) (E:NC->NH->Prop) (k:cL) (y:V),its[i]?=ba (k,y)->d<⇑s.heap.objs->St i s.heap->
  (∀p u x h' tk,RelV (kV k) u->RelV y x->Ti h' p [u,x].toArray->St (i+1) h'->(∀b o,b∉wr->s.heap.get? b=ba o->h'.get? b=ba o)->Q (ba (.ref p)) (xc s h' tk))->wh prog w A (pyNext (.ref I)) Q E s
 done:∀(s:NH) (Q:NJ NC->NH->Prop) (E:NC->NH->Prop),St ↥its s.heap->
  (∀h' tk,(∀b o,b∉wr->s.heap.get? b=ba o->h'.get? b=ba o)->Q dx (xc s h' tk))->wh prog w A (pyNext (.ref I)) Q E s
variable{R:U7->NH->Prop}{I:NR}
section
variable{w:OF}{d:NR}{its:Ny (cL×V)}{wr:Ny NR}{St:NF->OM->Prop}
def mH (W:PSrc prog w A.in1 I d its wr St)(hd:d∉wr)(v:NC):∀ k i t s U vs,↥its-i=k->i<=↥its->St i s.heap->KV U vs->s.heap.DictOf (bI prog w) d vs->
  ↥U+k<=sizeLine->
  (∀h' tk z,KV (lT U (its.drop i)) z->h'.DictOf (bI prog w) d z->(∀b o,b∉wr->b≠d->s.heap.get? b=ba o->h'.get? b=ba o)->R (.ok (.ret v)) (xc s h' tk))->
  codeAny (model prog w) A (.builtin "dict.update.loop" #[[.ref d,.ref I,.int i t,v],[]]) R s:=by
 have a:∀{h h':OM}{vs:Ny _},h.DictOf _ d vs->(∀b o,b∉wr->h.get? b=ba o->h'.get? b=ba o)->h'.DictOf (bI prog w) d vs:=
  λ{h h' vs} #[o,es,ep,e,r] k=>#[o,es,ep,k d o hd e,r]
 intro k
 induction k with
 |zero=>
  intro i t s U vs hk hi g D B T C;obtain rfl:i=↥its:=∅
  show Ph fX ?_;show NA (W.done s _ _ g λh' tk m=>?_)
  rw[VX]at C;show NA (NN (NN (C h' tk vs D (a B m) λb o j _ e=>m b o j e)))
 |succ k ih=>
  intro i t s U vs hk hi g D B T C;have c:i<↥its:=∅
  obtain⟨⟨f,y⟩,L⟩:∃p,its[i]?=ba p:=#[its[i],NK c];show Ph fX ?_;rw[Qj dO _];show NA (W.item i s _ _ f y L (let ⟨_,_,_,e,_⟩:=B;N8 e) g λp u x h' tk X Y #[o,ho,hc,n,hdat] hst' m=>?_)
  show NA (Pc ?_);have S:(#[h',s.gens,s.drawn,tk,s.os]:NH).TypeIs (.ref p) _:=#[_,ho,hc];show NA ?_;show R4 (NA (QZ S ?_));show NA (Pz ho hdat (NN ?_));show Pc ?_;have E:=a B m;show wpAny_dictSet_pairs  (rD X) E (λZ G q=>?_) (by rw[<- ↥D];omega)
  have M:=D.put f Y;show NN #[Qg dO _,ih (i+1) _ _ _ _ ∅ c (W.frame _ _ _ hst' λb o j e=>(q.2 b j).trans e) M G (by have:=gn U f y;omega) λQ O P N H J=>?_]
  show C Q O P ?_ H λb o j l e=>J b o j l ((q.2 b l).trans (m b o j e))
  rw[show its.drop i=(f,y)::its.drop (i+1) by rw[List.drop_eq_getElem_cons c];rw[NK c]at L;rw[OT L]]
  show N
end
noncomputable abbrev Kps (h h':OM):Prop:=∀b o,h.get? b=ba o->h'.get? b=ba o
def Kps.trans (a:Kps h h')(b:Kps h' d):Kps h d:=λc o e=>b c o (a c o e)
structure DArg (prog:Op)(w:OF)(A:OD)(v:NC)(T:Pn)(low:NF)(h0:OM)(its:Ny (cL×V)):Prop where
 type:∀s:NH,Kps h0 s.heap->s.TypeIs v T
 nod:(QL T != QL "dict")=true
 keys:∀(s:NH) (Q:NJ NC->NH->Prop) (E:NC->NH->Prop),Kps h0 s.heap->(∀h' tk,Kps s.heap h'->Q dx (xc s h' tk))->wh prog w A (getAttr? v "keys") Q E s
 iter:∀(d:NR) (s:NH) (Q:NC->NH->Prop) (E:NC->NH->Prop),Kps h0 s.heap->⇑h0.objs<=d->(∃o,s.heap.get? d=ba o)->
  (∀I wr St h' tk,PSrc prog w A I d its wr St->d∉wr->(∀b∈wr,low<=b)->St 0 h'->Kps s.heap h'->Q (.ref I) (xc s h' tk))->wh prog w A (pyIter v) Q E s
section
variable{w:OF}{E:NC->NH->Prop}{v:NC}{T:Pn}{low:NF}{its:Ny (cL×V)}
def gF (D:DArg prog w A.in1.in1 v T low s.heap its)(u:↥its<=sizeLine)
  (h:∀h' tk vs,KV (lT [] its) vs->h'.DictOf (bI prog w) ⇑s.heap.objs vs->(∀b o,b<low->s.heap.get? b=ba o->h'.get? b=ba o)->Q (.ref ⇑s.heap.objs) (xc s h' tk)) (hl:low<=⇑s.heap.objs) :
  wh prog w A (call (.type "dict") [v]) Q E s:=by
 show WC (Q₁:=λobj c=>obj=.ref _/\c={s with heap:=s.heap.push _}) F.kt_called_dict (F.kt_typeCall_dict_1 _) F.entry_dict_init (kt_code_dict_new _ #[rfl,rfl]) ?_
 rintro obj c ⟨rfl,rfl⟩;have a:(s.heap.push _).DictOf (bI prog w) _ []:=X4 _;have d:Kps _ (s.heap.push {cls:=.type "dict",data:=.dict #[]}):=λb o e=>ND _ e
 show#[a.typeIs,F.args_dict_init_2 _ _,?_];show NA ?_;show NA (Ul a.typeIs ?_);show NN ?_;change wpAny _ _ _ _ _ _;show NA (QZ (D.type _ d) ?_);rw[Ob D.nod];show NA (D.keys _ _ _ d λC x f=>?_)
 show NA (Sy ?_);show NA (D.iter _ _ _ _ (d.trans f) (NP _) #[_,f _ _ (N2 _ rfl)] λI wr B q y W hd hw st p=>?_)
 have g:q.DictOf _ _ []:=let ⟨o,es,ep,e,r⟩:=a;#[o,es,ep,p _ _ (f _ _ e),r]
 show NN #[Qg dO _,mH W hd _ _ 0 _ _ [] [] rfl (Pj _) st .nil g (by simpa using u) λt l m k i j=>?_]
 show#[rfl,h t l m k i λb o n e=>j b o (λz=>absurd (hw b z) (Nat.not_le.mpr n)) (Oe (N5 n hl)) (p _ _ (f _ _ (d _ _ e)))]
end
open PySem.Builtin.SmallTypes (nextOf)
section
variable{w:OF}{E:NC->NH->Prop}
abbrev Kx (h:OM)(items:OU NC)(a:Ny (cL×V)):Prop:=⇑items=↥a/\∀(i:NF) (k:cL) (y:V),a[i]?=ba (k,y)->∃(p:NR) (u x:NC),items[i]?=ba (O0 p)/\RelV (kV k) u/\RelV y x/\Ti h p [u,x].toArray
def yy (H:A.handled=dx)(hl:PlainL f l items)(I:Kx f items g):DArg prog w A (.ref l) "list" ⇑f.objs f g where
 type:=λs k=>let ⟨o,n,e,hc,hd,q⟩:=hl;#[o,k _ _ e,hc]
 nod:=by decide
 keys:=λs Q E k h=>by
  obtain⟨o,n,e,hc,hd,q⟩:=hl;show sr (k _ _ e) hc q hd H h
 iter:=λd s Q E k hd #[od,hod] h=>by
  have G:=hl.isList;have j:s.heap.IsList l _:=let ⟨o,e,r⟩:=G;#[o,k _ _ e,r]
  have J:=let ⟨o,e,r⟩:=G;N8 e
  have m:=N8 hod;show QI j ?_;have W:PSrc prog w A ⇑s.heap.objs d g [⇑s.heap.objs] (λi h=>h.IsListIter ⇑s.heap.objs l i/\h.IsList l items/\∀b o,b<⇑f.objs->f.get? b=ba o->h.get? b=ba o):=by
   show#[λi h h' #[st,c,hk] kp=>#[st.at λo e=>kp _ _ (O2 m) e,let ⟨o,e,r⟩:=c;#[o,kp _ _ (Oe (N5 J hd)) e,r],λb o a e=>kp _ _ (Oe (N5 a hd)) (hk b o a e)],?_,?_]
   ·intro i Y N M B y q _ ⟨st,c,hk⟩ v;obtain⟨p,u,x,P,U,X,T,D,ct,S,O⟩:=I.2 i B y q;show TF st c P λh' C t=>?_
    have L:=N8 D;have ne:∀{b},b<⇑f.objs->b≠⇑s.heap.objs:=λ{b} a=>Oe (Pw (N5 a hd) m)
    show v p u x h' _ U X #[T,(t.2 _ (ne L)).trans (hk _ _ L D),ct,S,O] #[C,let ⟨o,e,r⟩:=c;#[o,(t.2 _ (ne J)).trans e,r],λb o a e=>(t.2 _ (ne a)).trans (hk b o a e)] λb o a e=>(t.2 b (λz=>a (by rw[z];show RY _))).trans e
   ·intro Y N M ⟨st,c,hk⟩ v;show Ui H st c (by rw[SI,I.1];show NP _) λh' R=>v h' _ λb o a e=>R b o (λz=>a (by rw[z];show RY _)) e
  show h _ _ _ _ _ W ?_ (λb a=>?_) #[#[_,N2 _ rfl,rfl,rfl],let ⟨o,e,r⟩:=j;#[o,ND _ e,r],λb o a e=>ND _ (k b o e)] λb o e=>ND _ e
  ·intro z;rw[NT]at z;show absurd z (Oe m)
  ·rw[NT.mp a];show N9 hd (QE m)
end
open PySem.Builtin.SmallTypes (nextOf)
def eN:entryFor table "zip.__getattribute__" = ba Rk.«object.__getattribute__»:=
 entryFor_alias (id':="object.__getattribute__") (by kernel_rfl) (by decide +kernel) (by decide +kernel) (by kernel_rfl)
def dT (a:NR)(xs:OU NC)(i:OU (NJ NC))(name:Oc)(u:XE)(e:typeLookup (.type "zip") name=pure dx)(b:(["__module__","__name__","__qualname__","__doc__","__annotations__"]:Ny Oc).contains name=false)(hsz:↥name+100<=sizeLine:=by size_fits) :
  Meets (Rk.«object.__getattribute__» #[[.ref a,.str name u],[]]) (λA R s=>s.heap.get? a=ba {cls:=.type "zip",dict:=dx,data:=.fields xs,slots:=i}/\raisesAttr (.ref a) name A R s):=
 Meets.of_wp λprog w A R s c=>by
  obtain⟨f,g,d,tk,os⟩:=s;obtain⟨h,c⟩:=c;have j:(#[f,g,d,tk,os]:NH).TypeIs (.ref a) "zip":=#[_,h,rfl];dsimp only[Rk.«object.__getattribute__»]
  repeat (any_goals (first|assumption|wp_step))
  simp -iota only[b,Ra,Tq]
  repeat (any_goals (first|assumption|wp_step))
  show wpAny_raiseAttrError c.1 c.2 (attrMsg_fits (by decide +kernel) hsz)
def jQ:typeLookup (.type "zip") "__getattr__" = pure dx:=by rw[typeLookup_type,builtinLookup_eq_fast];kernel_rfl
section
variable{w:OF}{E:NC->NH->Prop}
def uW (j:s.heap.get? a=ba {cls:=.type "zip",dict:=dx,data:=.fields xs,slots:=k})(l:A.handled=dx)
  (h:∀h' tk,(∀b ob,s.heap.get? b=ba ob->h'.get? b=ba ob)->Q dx (xc s h' tk)):wh prog w A (getAttr? (.ref a) "keys") Q E s:=by
 obtain⟨m,g,d,tk,os⟩:=s;have i:∀f,(#[m,g,d,f,os]:NH).TypeIs (.ref a) "zip":=λ_=>#[_,j,rfl]
 have n:=Vd;have o:=F.slot_zip_getattribute.lookup;have p:=F.slot_zip_getattribute.bind (.ref a);have q:=jQ;unfold getAttr? getAttrBy? getAttrBy
 repeat (any_goals (first|assumption|show i _|((with_reducible change wpAny _ _ (call (WS "zip.__getattribute__") _ _) _ _ _);show Q8 F.slot_zip_getattribute (i _) eN (F.args_zip_getattribute_2 _ _) (dT a xs k "keys" _ uV #v[]) #[j,l,λh' f e c=>?_])|wp_step))
 obtain⟨t',t,r⟩:=c.there;change wpAny _ _ (getattributeRaised _ _ _ _ _ _ _) _ _ _;unfold getattributeRaised
 repeat (any_goals (first|assumption|wp_step))
 show h _ _ c.keeps
end
open PySem.Builtin.SmallTypes (nextOf)
noncomputable abbrev yz (h:OM)(z p q t:NR)(f1:Oh):Prop:=h.get? z=ba {cls:=.type "zip",dict:=dx,data:=.fields [rawInt t,.bool f1,.bool false,.ref p,.ref q].toArray,slots:=#[]}
section
variable{prog:Op}{w:OF}
variable{B:OD}{E:NC->NH->Prop}{s:NH}{z p q i1 i2 t:NR}{T1 T2:NF->OM->Prop}{C1 C2:OM->Prop}{i:NF}{a b:NC}{f1:Oh}
def kZ {a:NR}(b:s.heap.get? a=ba o)(h:wpAny (model prog w) B (k (ba o)) Q E s):wpAny (model prog w) B (loadIfAlive a >>= k) Q E s:=by
 intro Γ pos hΓ;have:=h Γ pos hΓ;change Sem.wp _ Γ (Sem.bind _ k) _ _ pos s;rw[Sem.wp_bind];unfold loadIfAlive;rw[Sem.wp_loadIfAlive,b];show this
def oT { R:NJ (NC->Prop)}{Q:NC->NH->Prop}(D:Zap z p q i1 i2)(H:Zit prog w i1 T1 C1 i C)(S:∀m,C=ba m->Zit prog w i2 T2 C2 i R)(k1:Zc z q i1 i2 C1)(k2:Zc z q i1 i2 C2)(hh:B.handled=dx)
  (A:yz s.heap z p q t f1) (hp:R6 s.heap p (.ref i1) (.ref i2)) (ht:∃o,s.heap.get? t=ba o) (t1:T1 i s.heap) (t2:T2 i s.heap) (c1:C1 s.heap) (c2:C2 s.heap)
  (hI:∀m G,C=ba m->R=ba G->∀n u v h' tk,m u->G v->(∃f,yz h' z p q t f)->T1 (i+1) h'->T2 (i+1) h'->⇑s.heap.objs<=n->R6 h' n u v->
   (∀c o,c≠z->c≠i1->c≠i2->s.heap.get? c=ba o->h'.get? c=ba o)->Q (.ref n) (xc s h' tk))
  (hE:C=dx\/R=dx->∀h' tk e,(∀c o,c≠z->c≠q->c≠i1->c≠i2->s.heap.get? c=ba o->h'.get? c=ba o)->(∃o,h'.get? e=ba o/\o.cls=.type "StopIteration")->E (.ref e) (xc s h' tk)) :
  wpAny (model prog w) B (Rk.«zip.__next__» #[[.ref z],[]]) (λfin s'=>∃v,fin=.done (.ret v)/\Q v s') E s:=by
 change wpAny _ _ (field _ 2 >>= _) _ _ s;show NA (O7 A rfl (x:=.bool _) rfl ?_);show NA (O7 A rfl  rfl (NA (Pz hp rfl ?_)));obtain⟨ot,W⟩:=ht;have free:wpAny (model prog w) B (UY (.ref z)) (λa s'=>a=false/\∃L f,s'={s with heap:=L}/\yz L z p q t f/\(∀c o,c≠z->s.heap.get? c=ba o->L.get? c=ba o)/\⇑L.objs=⇑s.heap.objs) E s:=by
  show NA (O7 A rfl  rfl ?_);show kZ (by show W) ?_
  show NA (O7 A rfl (x:=.bool f1) rfl ?_);cases f1 with
  |true=>
   show NN #[rfl,s.heap,true,rfl,A,λ_ _ _ e=>e,rfl]
  |false=>
   show NA (Qv A (by simp) λg1 zz1 s1=>NN #[rfl,g1,true,rfl,zz1,λc o hc e=>s1.extBut c o hc e,s1.1])
 show NA (PK free (λr s' hr=>?_) λ_ _ x=>x)
 obtain⟨rfl,L,f,rfl,zz0,j,Y⟩:=hr;simp -iota only[Ra,Tq];simp -iota only[List.forIn_toArray,RO,WD];show NA (NA (NA (Pc ?_)));have M:=H.keep _ _ _ t1 λo e=>j _ _ D.iz e
 have I:=k1 _ _ c1 λc o hc _ _ _ e=>j c o hc e
 cases b:C with
 |none=>
  show NA (H.stop b _ _ _ _ hh M I λg2 e U V=>hE (.inl b) g2 s.toks e (λc o d _ g _ x=>U _ _ g (j c o d x)) V)
 |some m=>
  have O:=S m b;show NA (H.next m b _ _ _ _ M I λu g2 tk2 hu Z X=>NN (NN ?_))
  show NA (NA (Pc ?_));have k:=λc o d g x=>X.extBut _ _ g (j c o d x)
  have zz2:=X.extBut _ _ D.iz.symm zz0;have N:=O.keep _ _ _ t2 λo e=>k _ _ D.jz D.ij.symm e
  have J:=k2 _ _ c2 λc o d a2 g _ e=>k c o d g e
  cases h:R with
  |none=>
   show NA (O.stop h _ _ _ _ hh N J λy e U V=>hE (.inr h) y tk2 e (λc o d a2 g T x=>U _ _ T (k c o d g x)) V)
  |some G=>
   show NA (O.next G h _ _ _ _ N J λv y tk4 hv t24 P=>NN (NN (NN ?_)))
   show NA (SH ?_ (by show OA rfl))
   have sz:⇑y.objs=⇑s.heap.objs:=by rw[P.1,X.1,Y]
   have zz4:=P.extBut _ _ D.jz.symm zz2;have t14:=H.keep _ _ _ Z λo e=>P.extBut _ _ D.ij e
   have l:∀c o,y.get? c=ba o->(y.push {cls:=.type "tuple",data:=.seq [u,v].toArray}).get? c=ba o:=λc o e=>ND _ e
   show NN #[_,rfl,hI m G b h ⇑y.objs u v _ tk4 hu hv #[f,l _ _ zz4] (H.keep _ _ _ t14 λo e=>l _ _ e) (O.keep _ _ _ t24 λo e=>l _ _ e) (by rw[sz];show NP _) (N2 _ rfl) λc o d g T e=>l _ _ (P.extBut _ _ T (k c o d g e))]
end
open PySem.Builtin.SmallTypes (nextOf)
inductive Src (h:OM)(it a:NR)(items:OU NC):(NF->OM->Prop)->(OM->Prop)->Prop
 |lst (e:h.IsList a items):Src h it a items (λi h=>h.IsListIter it a i) (λh=>h.IsList a items)
 |tup (e:h.IsTuple a items):Src h it a items (λi h=>h.IsTupleIter it a i) (λh=>h.IsTuple a items)
variable{h:OM}{it a:NR}
section
variable{w:OF}{items:OU NC}{T:NF->OM->Prop}{C:OM->Prop}
def Src.zit (x:Src h it a items T C)(i:NF):Zit prog w it T C i (items[i]?.map λv u=>u=v):=by
 cases x with
 |lst e=>
  show#[λj h h' t k=>t.at k,λV g B s Q E t c d=>?_,λf B s Q E l t c b=>?_]
  ·obtain⟨v,m,rfl⟩:=NB.mp g;show TV t c m λh' t' n=>d v h' _ rfl t' n
  ·show Uq l t c (by simpa using f) b
 |tup e=>
  show#[λj h h' t k=>t.at k,λV g B s Q E t c d=>?_,λf B s Q E l t c b=>?_]
  ·obtain⟨v,m,rfl⟩:=NB.mp g;show F7 t c m λh' t' n=>d v h' _ rfl t' n
  ·show F8 l t c (by simpa using f) b
def Src.c (x:Src h it a items T C):C h:=by cases x<;>assumption
def Src.keepC (x:Src h it a items T C)(c:C b)(k:∀o,b.get? a=ba o->d.get? a=ba o):C d:=by
 cases x with
 |lst e=>obtain⟨o,e,r⟩:=c;show#[o,k _ e,r]
 |tup e=>obtain⟨o,e,r⟩:=c;show#[o,k _ e,r]
end
variable{z p q i1 i2:NR}{T1 T2:NF->OM->Prop}
section
variable{w:OF}{h0:OM}{low:NF}{a1 a2:NR}{x1 x2:OU NC}
abbrev MD (x1 x2:OU NC)(a:Ny (cL×V)):Prop:=↥a=min ⇑x1 ⇑x2/\∀(i:NF) (k:cL) (y:V),a[i]?=ba (k,y)->∃(u x:NC),x1[i]?=ba u/\x2[i]?=ba x/\RelV (kV k) u/\RelV y x
abbrev Nr (z p q i1 i2 d:NR)(T1 T2:NF->OM->Prop)(C1 C2:OM->Prop)(i:NF)(h:OM):Prop:=
 ((W0 h z p q .none)\/∃t f,yz h z p q t f/\t≠d/\t≠z/\t≠q/\t≠i1/\t≠i2/\∃o,h.get? t=ba o)/\R6 h p (.ref i1) (.ref i2)/\(∃a b,R6 h q a b)/\T1 i h/\T2 i h/\C1 h/\C2 h
def AK (hh:A.handled=dx)(hz:W0 h0 z p q .none)(hp:R6 h0 p (.ref i1) (.ref i2))(hq:R6 h0 q .none .none)(D:Zap z p q i1 i2)(s1:Src h0 i1 a1 x1 T1 C1)(s2:Src h0 i2 a2 x2 T2 C2)(t1:T1 0 h0)(t2:T2 0 h0)
  (l1:a1<low) (l2:a2<low) (hl:∀b∈[z,p,q,i1,i2],low<=b/\b<⇑h0.objs) (hl0:low<=⇑h0.objs) (hx:MD x1 x2 m):DArg prog w A (.ref z) "zip" low h0 m where
 type:=λs k=>#[_,k _ _ hz,rfl]
 nod:=by decide
 keys:=λs Q E k h=>uW (k _ _ hz) hh h
 iter:=λd s Q E k hd #[od,hod] h=>by
  have Zz:∀i,Zit prog w i1 T1 C1 i (x1[i]?.map λv u=>u=v):=λi=>s1.zit i
  have Zq:∀i,Zit prog w i2 T2 C2 i (x2[i]?.map λv u=>u=v):=λi=>s2.zit i
  have ne:=λ{b} l=>Oe (N5 (hl b l).2 hd)
  have N:=λ{b} l=>Oe (N5 l1 (hl b l).1)
  have O:=λ{b} l=>Oe (N5 l2 (hl b l).1)
  have I:Zc z q i1 i2 C1:=λh h' c kp=>s1.keepC c λo e=>kp _ _ (N (by simp)) (N (by simp)) (N (by simp)) (N (by simp)) e
  have J:Zc z q i1 i2 C2:=λh h' c kp=>s2.keepC c λo e=>kp _ _ (O (by simp)) (O (by simp)) (O (by simp)) (O (by simp)) e
  have W:PSrc prog w A z d m [z,q,i1,i2] (Nr z p q i1 i2 d T1 T2 C1 C2):=by
   show#[?_,?_,?_]
   ·rintro i h h' ⟨j,Y,⟨b1,b2,qq⟩,P,R,S,T⟩ kp;show#[?_,kp _ _ (ne (by simp)) Y,#[b1,b2,kp _ _ (ne (by simp)) qq],(Zz 0).keep _ _ _ P λo e=>kp _ _ (ne (by simp)) e,(Zq 0).keep _ _ _ R λo e=>kp _ _ (ne (by simp)) e,
     s1.keepC S λo e=>kp _ _ (Oe (N5 l1 (N9 hl0 hd))) e,s2.keepC T λo e=>kp _ _ (Oe (N5 l2 (N9 hl0 hd))) e]
    rcases j with j|⟨t,f,j,n1,n2,n3,n4,n5,o,e⟩
    ·show .inl (kp _ _ (ne (by simp)) j)
    ·show .inr #[t,f,kp _ _ (ne (by simp)) j,n1,n2,n3,n4,n5,o,kp _ _ n1 e]
   ·rintro i s0 Q0 E0 key y hx' hd0 ⟨j,Y,⟨b1,b2,qq⟩,P,R,S,T⟩ hQ;obtain⟨u,x,B,C,ru,rx⟩:=hx.2 i key y hx';have L:(x1[i]?.map λ(v u)=>u=v)=ba λH=>H=u:=by rw[B];rfl
    have M:(x2[i]?.map λ(v u)=>u=v)=ba λH=>H=x:=by rw[C];rfl
    have W1:=Zz i;have W2:=Zq i;rw[L]at W1;rw[M]at W2;have hT:s0.TypeIs (.ref z) "zip":=by
     rcases j with j|⟨t,f,j,_⟩
     ·show#[_,j,rfl]
     ·show#[_,j,rfl]
    have r:∀{b o},s0.heap.get? b=ba o->b<s0.heap.objs.size:=λe=>N8 e
    show NA (RK (OW  hT F.slot_zip_next (Pd F.slot_zip_next hT F.entry_zip_next ?_ (F.args_zip_next_1 _))));have z1:i1<s0.heap.objs.size:=by
     cases s1 with
     |lst=>obtain⟨o,e,_⟩:=P;show r e
     |tup=>obtain⟨o,e,_⟩:=P;show r e
    have z2:i2<s0.heap.objs.size:=by
     cases s2 with
     |lst=>obtain⟨o,e,_⟩:=R;show r e
     |tup=>obtain⟨o,e,_⟩:=R;show r e
    have q0:=r qq;have zl:z<s0.heap.objs.size:=by
     rcases j with j|⟨t,f,j,_⟩<;>show r j
    have fin:∀n H v' h' tk,H=u->v'=x->((∃f,yz h' z p q n f)\/∃t f,yz h' z p q t f/\t≠d/\t≠z/\t≠q/\t≠i1/\t≠i2/\∃o,h'.get? t=ba o)->(∃a b,R6 h' q a b)->T1 (i+1) h'->T2 (i+1) h'->s0.heap.objs.size<=n->R6 h' n H v'->
      (∀c o,c≠z->c≠q->c≠i1->c≠i2->s0.heap.get? c=ba o->h'.get? c=ba o)->Q0 (ba (.ref n)) {s0 with heap:=h',toks:=tk}:=by
     rintro n H v' h' tk rfl rfl G hq' t1' t2' Z np kp;show hQ n _ _ h' tk ru rx #[_,np,rfl,0,rfl] #[?_,kp _ _ D.pz D.pq D.pi D.pj Y,hq',t1',t2',I _ _ S kp,J _ _ T kp] λb o l e=>?_
     ·rcases G with⟨f,G⟩|G
      ·show .inr #[n,f,G,O2 (N5 hd0 Z),O2 (N5 zl Z),O2 (N5 q0 Z),O2 (N5 z1 Z),O2 (N5 z2 Z),_,np]
      ·show .inr G
     ·simp only[Of,OH,PJ,UB]at l;show kp b o l.1 l.2.1 l.2.2.1 l.2.2.2 e
    rcases j with j|⟨t,f,j,n1,n2,n3,n4,n5,o,e⟩
    ·show sj D W1 (λ_ _=>W2) I J hh j Y qq P R S T (λL M B C H v' g tk r1 r2 zg qg t1 t2 ng kp=>?_) (λz=>by rcases z with z|z<;>cases z)
     cases B;cases C;show NN (fin _ H v' g tk r1 r2 (.inl #[_,zg]) #[_,_,qg] t1 t2 (NP _) ng kp)
    ·show oT D W1 (λ_ _=>W2) I J hh j Y #[o,e] P R S T (λL M B C n H v' g tk r1 r2 #[f',zg] t1 t2 Z ng kp=>?_) (λz=>by rcases z with z|z<;>cases z)
     cases B;cases C;show NN (fin n H v' g tk r1 r2 (.inr #[t,f',zg,n1,n2,n3,n4,n5,o,kp _ _ n2 n4 n5 e]) #[_,_,kp _ _ D.qz D.qi D.qj qq] t1 t2 Z ng λc o a1 _ a3 a4 e=>kp c o a1 a3 a4 e)
   ·rintro s0 Q0 E0 ⟨j,Y,⟨b1,b2,qq⟩,P,R,S,T⟩ hQ;have W1:=Zz ↥m;have W2:=Zq ↥m;have hT:s0.TypeIs (.ref z) "zip":=by
     rcases j with j|⟨t,f,j,_⟩
     ·show#[_,j,rfl]
     ·show#[_,j,rfl]
    unfold pyNext;show NA (RK (OW  hT F.slot_zip_next (Pd F.slot_zip_next hT F.entry_zip_next ?_ (F.args_zip_next_1 _))));have X:∀h' tk e,(∀c o,c≠z->c≠q->c≠i1->c≠i2->s0.heap.get? c=ba o->h'.get? c=ba o)->(∃o,h'.get? e=ba o/\o.cls=.type "StopIteration")->
      wh prog w A (do if <- isInstance (.ref e) (.type "StopIteration")then pure dx else throw (.ref e)) Q0 E0 {s0 with heap:=h',toks:=tk}:=λh' tk e kp #[o,ho,hc]=>
     NA (Se   #[o,ho,hc] Uw (NN (hQ h' tk λb o l e=>by
      simp only[Of,OH,PJ,UB]at l;show kp b o l.1 l.2.1 l.2.2.1 l.2.2.2 e)))
    have no:x1[↥m]?=dx\/x2[↥m]?=dx:=by
     revert SI;rw[hx.1];omega
    have U:∀L M,(x1[↥m]?.map λ(v u)=>u=v)=ba L->(x2[↥m]?.map λ(v u)=>u=v)=ba M->Pg:=λL M B C=>by
     rcases no with no|no
     ·rw[no]at B;cases B
     ·rw[no]at C;cases C
    rcases j with j|⟨t,f,j,n1,n2,n3,n4,n5,o,e⟩
    ·show sj D W1 (λ_ _=>W2) I J hh j Y qq P R S T (λL M B C=>(U L M B C).elim) λ_ h' tk e k he=>X h' tk e k he
    ·show oT D W1 (λ_ _=>W2) I J hh j Y #[o,e] P R S T (λL M B C=>(U L M B C).elim) λ_ h' tk e k he=>X h' tk e k he
  show wpAny_pyIter_zip (k _ _ hz) ?_;show h z _ _ s.heap s.toks W ?_ (λb l=>(hl b ?_).1) #[.inl (k _ _ hz),k _ _ hp,#[_,_,k _ _ hq],(Zz 0).keep _ _ _ t1 λo e=>k _ _ e,(Zq 0).keep _ _ _ t2 λo e=>k _ _ e,s1.keepC s1.c λo e=>k _ _ e,s2.keepC s2.c λo e=>k _ _ e] λ_ _ e=>e
  ·intro z';simp only[Of,OH,PJ]at z';rcases z' with z'|z'|z'|z'<;>show ne (by simp) z'.symm
  ·simp only[Of,OH]at l ⊢;rcases l with l|l|l|l<;>simp[l]
end
abbrev dj:Ny W->NJ (Ny (NV×W))
 |[]=>ba []
 |.tup [.int k,v]::ws=>(dj ws).map ((k,v) :: ·)
 |_::_=>dx
abbrev oU (a:Ny (NV×W))(b:Ny (NV×W)):Ny (NV×W):=b.foldl (λa p=>nX a p.1 p.2) a
abbrev wJ (xs:Ny W)(S:aa):NJ (W×aa):=match xs with
 |[.ref i]=>match ec S i with
  |some ws=>(dj ws).map λU=>(.ref ↥S,S++[.dik (oU [] U)])
  |none=>dx
 |_=>dx
abbrev ED (S:aa):W->NJ (Ny W)
 |.tup ws=>ba ws
 |.ref r=>ec S r
 |_=>dx
abbrev wK (xs:Ny W)(S:aa):NJ (W×aa):=match xs with
 |[x,y]=>match ED S x,ED S y with
  |some xs,ba a=>(dj (sa xs a)).map λU=>(.ref ↥S,S++[.dik (oU [] U)])
  |_,_=>dx
 |_=>dx
abbrev AM (xs:Ny W)(S:aa):NJ (W×aa):=match xs with
 |[.ref i]=>(tZ S i).map λU=>(.ref ↥S,S++[.lst (U.map λp=>.int p.1)])
 |_=>dx
abbrev AN (xs:Ny W)(S:aa):NJ (W×aa):=match xs with
 |[.ref i]=>(tZ S i).map λU=>(.ref ↥S,S++[.lst (U.map λp=>p.2)])
 |_=>dx
abbrev Ic (xs:Ny W)(S:aa):NJ (W×aa):=match xs with
 |[.ref i]=>(tZ S i).map λU=>(.int ↥U,S)
 |_=>dx
section
variable{A:Ny NR}
def wL {K:NY}:∀{a b:Ny (NV×W)}{us vs:Ny (cL×V)},KI K A H a us->KI K A H b vs->KI K A H (oU b a) (lT vs us):=by
 intro a
 induction a with
 |nil=>intro b us vs h r;cases h;show r
 |cons p ps ih=>
  intro b us vs h r;cases h with
  |@cons _ q _ g h t=>
   obtain⟨c,d⟩:=h;obtain⟨f,e⟩:=q;subst c;show ih  (vs:=jD vs _ e)  t (r.put p.1 d)
def Ig (I:Inv X J Y H s):∀{ws:Ny W}{vs:Ny V}{us:Ny NC}{U:Ny (NV×W)},RelL X.K A H ws vs->Vals vs us->dj ws=ba U->
  ∃a:Ny (cL×V),KI X.K A H U a/\↥us=↥a/\∀(i:NF) k y,a[i]?=ba (k,y)->∃ p u x,us[i]?=ba (O0 p)/\RelV (kV k) u/\RelV y x/\Ti s.heap p [u,x].toArray:=by
 intro ws
 induction ws with
 |nil=>
  intro vs us U r q e;cases r;cases q;cases e;show#[[],.nil,rfl,λi k y h=>by cases h]
 |cons w ws ih=>
  intro vs us U r q e;cases w with
  |tup l=>
   cases l with
   |nil=>show ak e
   |cons x l=>
    cases x with
    |int k=>
     cases l with
     |nil=>show ak e
     |cons v l=>
      cases l with
      |cons _ _=>show ak e
      |nil=>
       obtain⟨ks,m,rfl⟩:=NB.mp (show(dj ws).map _=ba U from e)
       cases r with
       |cons r t=>
        cases q with
        |cons G L=>
         obtain⟨a,n,o,z⟩:=ih t L m;cases r with
         |@tup _ p O B b=>
          obtain⟨j,c,C,_⟩:=I.tuple B;cases b with
          |@cons _ Q _ _ E b=>
           cases b with
           |@cons _ P _ _ g b=>
            cases b;cases c with
            |@cons _ M _ _ d c=>
             cases c with
             |@cons _ N _ _ f c=>
              cases c;cases E;obtain rfl:_=O0 p:=G;show#[(Qy k,P)::a,.cons #[rfl,g] n,by rw[On,On,o],λi D y hi=>?_]
              cases i with
              |zero=>
               cases hi;show#[p,M,N,rfl,d,f,C]
              |succ i=>show z i D y hi
    |_=>show ak e
  |_=>show ak e
def uX (n:X.A.handled=dx):LCall X (.type "dict") wJ:=by
 intro J s Y H A S xs vs us w M I g E G e;unfold wJ at e;split at e
 ·obtain⟨a,l,rfl⟩:=fK (xs:=[]) E G;split at e
  next ws hw=>
   obtain⟨U,hk,d⟩:=NB.mp e;cases d;obtain⟨L,m,D⟩:=bz g hw l;obtain⟨r,c,p,N⟩:=I.list m;obtain⟨items,z,B,C⟩:=Ig I D c hk;have hl:=↥c;show gF  (yy  n p #[by simpa using B,λi k y h=>by
    obtain⟨p,u,x,j,d⟩:=C i k y h;show#[p,u,x,by simpa using j,d]]) ∅ (λh' tk vs v hd f=>?_) (NP _)
   have t:=wL   z .nil;show cZ   I g (λb o e=>f b o (N8 e) e) (NP _) (uy ?_ (QP.mpr (Ne.symm (Oe I.big))) v hd) λq=>#[_,aL,t.mono (cg q)]
   have:=eV items [];simp only[PN]at this;omega
  ·cases e
 ·cases e
def EE:∀{xs b:Ny W}{vs ws:Ny V}{us d:Ny NC}{U:Ny (NV×W)},RelL X.K A H xs vs->Vals vs us->RelL X.K A H b ws->Vals ws d->dj (sa xs b)=ba U->
  ∃a:Ny (cL×V),KI X.K A H U a/\↥a=min ↥us ↥d/\∀(i:NF) k y,a[i]?=ba (k,y)->∃ u x,us[i]?=ba u/\d[i]?=ba x/\RelV (kV k) u/\RelV y x:=by
 intro xs
 induction xs with
 |nil=>
  intro b vs ws us d U r q c f e;cases r;cases q;cases e;show#[[],.nil,by simp,λi k y h=>by cases h]
 |cons x xs ih=>
  intro b vs ws us d U r q c f e;cases b with
  |nil=>
   cases c;cases f;cases e;show#[[],.nil,by simp,λi k y h=>by cases h]
  |cons y b=>
   have e:dj (.tup [x,y]::sa xs b)=ba U:=e;cases r with
   |cons r t=>
    cases q with
    |cons p v=>
     cases c with
     |cons c s=>
      cases f with
      |cons g j=>
       cases r with
       |int=>
        obtain⟨ks,l,rfl⟩:=NB.mp (show(dj (sa xs b)).map _=ba U from e)
        obtain⟨a,m,z,n⟩:=ih t v s j l;show#[(Qy _,_)::a,.cons #[rfl,c] m,by revert On;omega,λi o w hi=>?_]
        cases i with
        |zero=>
         cases hi;show#[_,_,rfl,rfl,p,g]
        |succ i=>show n i o w hi
       |_=>cases e
def AO (I:Inv X J Y H s)(y:w4 X A H S)(r:Rel X.K A H x v)(q:RelV v u)(e:ED S x=ba xs) :
  ∃(a:NR) (items:Ny NC) (vs:Ny V) (o:Ps) (T:NR->NF->OM->Prop) (C:OM->Prop),RelL X.K A H xs vs/\Vals vs items/\↥vs<=sizeLine/\o.isFreed=false/\fO X.prog X.w u o C/\C s.heap/\(∀h w,C h->C (h.push w))/\
   a<⇑s.heap.objs/\∀ it h,h.get? it=ba o->Kps s.heap h->Src h it a items.toArray (T it) C/\T it 0 h:=by
 cases r with
 |@tup ws a vs g m=>
  cases e;obtain⟨b,n,p,j⟩:=I.tuple g;obtain rfl:u=O0 a:=q;have d:s.heap.IsTuple a b.toArray:=p;have lt:a<⇑s.heap.objs:=let ⟨o,e,_⟩:=d;N8 e
  show#[a,b,vs,{cls:=.type "tuple_iterator",data:=.fields [.ref a,.int 0 0].toArray},λit i h=>h.IsTupleIter it a i,λh=>h.IsTuple a b.toArray,m,n,j,rfl,λB s' Q E c f=>RT c f,d,λh o #[l,e,r]=>#[l,ND _ e,r],lt,
   λit h e k=>#[.tup (let ⟨o,e,r⟩:=d;#[o,k _ _ e,r]),#[_,e,rfl,rfl]]]
 |@ref r a t=>
  have e:ec S r=ba xs:=e;obtain⟨vs,g,m⟩:=bz y e t;obtain⟨b,n,p,j⟩:=I.list g;obtain rfl:u=O0 a:=q;have d:s.heap.IsList a b.toArray:=p.isList;have lt:a<⇑s.heap.objs:=let ⟨o,e,_⟩:=d;N8 e
  show#[a,b,vs,{cls:=.type "list_iterator",data:=.fields [.ref a,.int 0 0].toArray},λit i h=>h.IsListIter it a i,λh=>h.IsList a b.toArray,m,n,j,rfl,λB s' Q E c f=>QI c f,d,λh o #[l,e,r]=>#[l,ND _ e,r],lt,
   λit h e k=>#[.lst (let ⟨o,e,r⟩:=d;#[o,k _ _ e,r]),#[_,e,rfl,rfl]]]
 |_=>cases e
def yA:bootBuiltins "dict" = ba (.type "dict"):=rfl
def EF (hh:X.A.handled=dx){a :Oi}{p q  :Qr}(hg:Gl X "dict")(hm:X.mg "dict" = dx)(C:Gl X "zip")(G:X.mg "zip" = dx)(ha:GA X [a,b] f)(hs:starEach [a,b] X.env=[(false,eval a X.env),(false,eval b X.env)])(g:starEach [b] X.env=[(false,eval b X.env)]) :
  GE X (.Call (.Name "dict" q) [.Call (.Name "zip" p) [a,b] [] cpos] [] pos) (eR wK f):=by
 intro J s Y H Q I ⟨A,Z,S,w,S',er,so,e,hq⟩;unfold eR at e;split at e
 next ws S1 h1=>
  unfold wK at e;split at e
  ·split at e
   next xs ys l m=>
    obtain⟨U,hk,B⟩:=NB.mp e;cases B;show WY (eU I hg hm yA (O9 ?_ (by rfl) (by rfl)))
    change wpAny _ _ (spliced ((false,eval _ _)::[])) _ _ s;show Sz ?_;show WY (eU I C G AJ (O9 (bo (ha _ _ s Y H _ I #[A,Z,S,_,_,er,so,h1,λ_ _ z=>z]) λus d #[vs,H1,I1,r1,A1,z1,z2,z3]=>?_) (by rw[hs,g]) (by rw[g];rfl)))
    cases z3 with
    |cons ra t=>
     cases t with
     |cons rb t=>
      cases t;cases r1 with
      |cons ua t=>
       cases t with
       |cons ub t=>
        cases t;obtain⟨a1,it1,vs1,o1,T1,C1,R,V,hz1,n1,M,c1,k1,O,sr1⟩:=AO I1 z2 ra ua l;obtain⟨a2,it2,vs2,o2,T2,C2,T,j,hz2,n2,N,c2,k2,P,sr2⟩:=AO I1 z2 rb ub m;show AG M N k2 c1 c2 n1 n2 λh' hz hp L g1 g2 hsz kp=>?_
        show SU ?_;have D:Zap (⇑d.heap.objs+4) (⇑d.heap.objs+2) (⇑d.heap.objs+3) ⇑d.heap.objs (⇑d.heap.objs+1):=by constructor<;>(intro z;simp at z)
        obtain⟨W,t1⟩:=sr1 _ h' g1 kp;obtain⟨s2',t2⟩:=sr2 _ h' g2 kp;obtain⟨items,q1,q2,q3⟩:=EE R V T j hk;have l2:=↥j;have c:⇑d.heap.objs<=⇑h'.objs:=by rw[hsz];show Qa _ _
        have up:∀k,k<5->⇑d.heap.objs<=⇑d.heap.objs+k/\⇑d.heap.objs+k<⇑h'.objs:=λk hk=>#[Qa _ _,by rw[hsz];show Nat.add_lt_add_left hk _]
        show gF   (AK   hh hz hp L D W s2' t1 t2 O P (λb hb=>?_) c #[by simpa using q2,λi k y h=>?_]) ∅ (λh2 tk vs kv hd E=>?_) c
        ·simp only[Of,OH,PJ]at hb;rcases hb with rfl|rfl|rfl|rfl|rfl
         ·show up 4 #v[]
         ·show up 2 #v[]
         ·show up 3 #v[]
         ·show up 0 #v[]
         ·show up 1 #v[]
        ·obtain⟨u,x,l,m,B⟩:=q3 i k y h;show#[u,x,by simpa using l,by simpa using m,B]
        ·have ki:=wL   q1 .nil;have fin:=cZ (tk:=tk) (dr:=d.drawn)   (n:=.dik (oU [] U))  I1 z2 (λb o e=>E b o (N8 e) (kp _ _ e)) c (uy (by
          have:=eV items [];simp only[PN]at this;omega) (QP.mpr (Ne.symm (Oe (N5 I1.big c)))) kv hd) λhn=>#[_,aL,ki.mono (cg hn)]
         obtain⟨v,H2,A2,i,r,ex,so2,rl⟩:=fin;show#[v,H2,i,r,hq _ _ #[A2,z1.trans ex,so2,rl]]
   ·cases e
  ·cases e
 ·cases e
end
open PySem PySem.Spec PyProof.Rows L2 PySem.W
section
variable{A:Ny NR}
def uY:LCall X (.builtin "len") Ic:=by
 intro J s Y H A S xs vs us w k I b i j e;unfold Ic at e;split at e
 ·obtain⟨U,hk,d⟩:=NB.mp e;cases d;obtain⟨a,f,rfl⟩:=fK (xs:=[]) i j;obtain⟨us,g,h⟩:=jE b hk f;show Kb I (.inl g) λt s' c=>#[.int _,H,A,c,#[t,by rw[↥h]],.refl,b,.int]
 ·cases e
def EG {K:NY}:∀{U:Ny (NV×W)}{us:Ny (cL×V)},KI K A H U us->RelL K A H (U.map λp=>.int p.1) (us.map λq=>kV q.1):=by
 intro U us h
 induction h with
 |nil=>show .nil
 |@cons p q ps a h t ih=>
  rw[OP,OP,h.1];show .cons .int ih
def EH {K:NY}:∀{U:Ny (NV×W)}{us:Ny (cL×V)},KI K A H U us->RelL K A H (U.map λp=>p.2) (us.map λq=>q.2):=by
 intro U us h
 induction h with
 |nil=>show .nil
 |@cons p q ps a h t ih=>
  show .cons h.2 ih
def qr:∀{vs:Ny V}{us:Ny NC},↥us=↥vs->(∀(i:NF) v u,vs[i]?=ba v->us[i]?=ba u->RelV v u)->Vals vs us
 |[],[],_,_=>.nil
 |v::vs,u::us,hl,h=>.cons (h 0 v u rfl rfl) (qr (by simpa using hl) λi d c a b=>h (i+1) d c a b)
 |[],_::_,hl,_=>by cases hl
 |_::_,[],hl,_=>by cases hl
def F9 (h:KV U vs):∀(i:NF) (k:cL) u,vs[i]?=ba (k,u)->∃y,U[i]?=ba (k,y)/\RelV y u:=by
 induction h with
 |nil=>intro i k u e;cases e
 |@cons p q ps c h t ih=>
  intro i k u e;cases i with
  |zero=>cases e;obtain⟨b,pv⟩:=p;obtain⟨rfl,a⟩:b=k/\RelV pv u:=h;show#[pv,rfl,a]
  |succ i=>show ih i k u e
def Ky (h:(bI P w).is k u=true):RelV (kV k) u:=by
 cases k with
 |inl k=>obtain⟨t,rfl⟩:=Vj h;show#[t,rfl]
 |inr k=>obtain⟨t,rfl⟩:=UO h;show#[t,rfl]
def sx (C:X.A.handled=dx):LCall X (.type "list") AM:=by
 intro J s Y H A S xs vs us w N I l L M e;unfold AM at e;split at e
 ·obtain⟨U,hk,f⟩:=NB.mp e;cases f;obtain⟨a,r,rfl⟩:=fK (xs:=[]) L M;obtain⟨us,B,G⟩:=jE l hk r;obtain⟨z,hd,ws,d,m⟩:=lS I.hok (.inl B);obtain⟨O,h⟩:=m.dictAt;show kdl_call (kdl_dict  hd) C h (by rw[<- ↥d];show z) λh' tk g c kp t b=>?_
  have E:Vals (us.map λq=>kV q.1) _:=qr (by rw[Ov,b.1,Nz,↥d]) λi v u j f=>by
   rw[O6]at f;obtain⟨k,x,n,o⟩:=b.2 i u f;obtain⟨y,p,_⟩:=F9 d i k x n;rw[NO,p]at j;cases j;show Ky o
  show cZ  (u:=.lst _) I l kp (NP _) #[by rw[Nz];show z,g.toList,c,E,by simpa using t] λD=>#[_,aL,(EG G).mono (cg D)]
 ·cases e
def EI (hh:X.A.handled=dx)(ho:GE X o f)(g:attributeBase o "values" X.env (eval o X.env)=eval o X.env)(h:(apos.endLine==cpos.line)=true){q :Qr}(hg:Gl X "list")(hm:X.mg "list" = dx) :
  GE X (.Call (.Name "list" q) [.Call (.Attribute o "values" apos) [] [] cpos] [] pos) (eR AN (cR f gD)):=by
 intro J s Y H Q I ⟨A,Z,S,w,S',er,so,e,hq⟩;unfold eR cR gD at e;dsimp only at e;split at e
 next ws S1 t=>
  split at t
  next w1 S2 L=>
   cases t;unfold AN at e;split at e
   next i z=>
    cases z;obtain⟨U,hk,C⟩:=NB.mp e;cases C;show WY (eU I hg hm boot_list (O9 ?_ (by rfl) (by rfl)))
    change wpAny _ _ (spliced ((false,eval (.Call (.Attribute o "values" apos) [] [] cpos) X.env)::[])) _ _ s;show Sz ?_;show wpAny_Call_method0_late g h (bo (ho J s Y H _ I #[A,Z,S,_,_,er,so,L,λ_ _ z=>z]) λv B #[x,H1,I1,r1,A1,z1,z2,z3]=>?_)
    cases z3 with
    |@ref _ a ea=>
     obtain rfl:v=O0 a:=r1;obtain⟨us,hH,ki⟩:=jE z2 hk ea;obtain⟨z,hd,ws,j,m⟩:=lS I1.hok (.inl hH);show#["dict","dict.values",Tu,Tf,PySem.F.type_dict_values,m.typeIs,λb e=>?_,?_]
     ·cases e;obtain⟨ob,_,_,t,L,_⟩:=id m;show#[ob,t,L.2.1]
     show TR rfl (PySem.evalArgs_none ?_);show Xa Tf m.typeIs PySem.F.entry_dict_values (PySem.F.args_dict_values_1 _) (meets_dict_values (bI X.prog X.w) a hd) #[#[_,m],?_];show SU ?_;have P:Kps B.heap (B.heap.push {cls:=.type "dict_values",data:=.fields [.ref a].toArray}):=λb o e=>ND _ e
     have G:(B.heap.push {cls:=.type "dict_values",data:=.fields [.ref a].toArray}).DictOf (bI X.prog X.w) a ws:=let ⟨o,es,O,e,r⟩:=m;#[o,es,O,P _ _ e,r]
     obtain⟨O,E⟩:=G.dictAt;show kdl_call  kdl_values  hh #[#[_,N2 _ rfl,rfl,rfl],E] (by rw[<- ↥j];show z) λh' tk l c kp hD d=>?_
     have hv:Vals (us.map λq=>q.2) l.toList:=qr (by rw[Ov,d.1,Nz,↥j]) λi v u N C=>by
      rw[O6]at C;obtain⟨k,V⟩:=d.2 i u C;obtain⟨y,W,e6⟩:=F9 j i k u V;rw[NO,W]at N;cases N;show e6
     have fin:=cZ (tk:=tk) (dr:=B.drawn)  (D:=(B.heap.push {cls:=.type "dict_values",data:=.fields [.ref a].toArray}).objs.size) (n:=.lst (U.map λp=>p.2)) (u:=.lst (us.map λq=>q.2)) I1 z2 (P.trans kp) (by rw[Qk];show QY _) #[by rw[Nz];show z,l.toList,c,hv,by simpa using hD] λhn=>#[_,aL,(EH ki).mono (cg hn)]
     obtain⟨v,T,R,i,r,ex,M,rl⟩:=fin;show#[v,T,i,r,hq _ _ #[R,z1.trans ex,M,rl]]
   ·cases e
  ·cases t
 ·cases e
end
open PySem.Builtin.SmallTypes (nextOf)
section
variable{prog:Op}{w:OF}{B:OD}{E:NC->NH->Prop}{s:NH}{e it:NR}{T:NF->OM->Prop}{C:OM->Prop}{i:NF}{old:NC}
structure EnAt (h0 h:OM)(e it:NR)(fs:OU NC)(T:OM->Prop):Prop where
 here:h.get? e=ba {cls:=.type "enumerate",dict:=dx,data:=.fields fs,slots:=#[]}
 turn:T h
 kept:∀b o,b≠e->b≠it->h0.get? b=ba o->h.get? b=ba o
def EnAt.put {a:OU NC}{T:OM->Prop}(x:EnAt f s.heap e it a T)(c:e≠it)(j:∀h h',T h->(∀o,h.get? it=ba o->h'.get? it=ba o)->T h')(hk:k<⇑a)
  (q:∀h',EnAt f h' e it (a.setIfInBounds k v) T->QF e s.heap h'->Q () {s with heap:=h'}):wpAny (model prog w) B (setField (.ref e) k v) Q E s:=
 Qv x.here hk λh' y d=>q h' #[y,j _ _ x.turn λo z=>d.extBut _ _ (Ne.symm c) z,λb o g i z=>d.extBut b o g (x.kept b o g i z)] d
def oV {Q:NC->NH->Prop}(n:Zit prog w it T C i Uqb)(R:B.handled=dx)(p:XR s.heap e it i old)(t:T i s.heap)(c:C s.heap)(f:e≠it)
  (O:∀V,Uqb=ba V->∀u h' tk A,V u->IsEnumOut h' e it (i+1) u ⇑s.heap.objs->T (i+1) h'->h'.get? ⇑s.heap.objs=ba {cls:=.type "tuple",data:=.seq [.int i A,u].toArray}->
   (∀b o,b≠e->b≠it->s.heap.get? b=ba o->h'.get? b=ba o)->Q (.ref ⇑s.heap.objs) (xc s h' tk))
  (N:Uqb=dx->∀h' x,Uv it s.heap h'->(∃o,h'.get? x=ba o/\o.cls=.type "StopIteration")->E (.ref x) {s with heap:=h'}) :
  wpAny (model prog w) B (Rk.«enumerate.__next__» #[[.ref e],[]]) (λfin s'=>∃v,fin=.done (.ret v)/\Q v s') E s:=by
 obtain⟨q,g,d,tk,os⟩:=s;change wpAny _ _ (field _ 2 >>= _) _ _ _;show NA (O7 p rfl (x:=.ref it) rfl (NA ?_));cases Uqb with
 |none=>show n.stop rfl _ _ _ _ R t c λh' x a b=>N rfl h' x a b
 |some V=>
  show n.next V rfl _ _ _ _ t c λu P h S Y k=>?_
  have l:=n.keep (i+1);have G:EnAt q P e it _ _:=#[(k.2 e f).trans p,Y,λb o _ m z=>k.extBut b o m z]
  have za:=k.1;show NA (O7 G.here rfl  rfl ?_);show NA (O7 G.here rfl  rfl ?_);show NA (V7 (NA (G.put  f l (by simp) λhb xb r=>NA (xb.put  f l (by simp) λhc H y=>NA (SH ?_)))))
  have L:⇑hc.objs=⇑q.objs:=by rw[y.1,<- za];show r.1
  have j:=O2 (N8 p);have new:=N2 hc (o:={cls:=.type "tuple",data:=.seq [.int i h,u].toArray}) rfl;have I:EnAt q (hc.push {cls:=.type "tuple",data:=.seq [.int i h,u].toArray}) e it [.none,.bool _,.ref it,rawInt _,.none,old].toArray _:=#[ND _ H.here,l _ _ H.turn λo z=>ND _ z,λb o J m z=>ND _ (H.kept b o J m z)]
  rw[L]at new;change wpAny _ _ _ _ _ _;rw[L];show NA ?_;show NA (O7 I.here rfl  rfl (NN ?_));show NA (Sy (NA (O7 I.here rfl (x:=old) rfl (NA (I.put  f l (by simp) λJ Z U=>NA ?_)))))
  show NA (Z.put  f l (by simp) λm x2 W=>x2.put  f l (by simp) λM D X=>NA (Rq (NN #[_,rfl,O V rfl u M (h+1) h S D.here D.turn ?_ D.kept])))
  show X.extBut _ _ j (W.extBut _ _ j (U.extBut _ _ j new))
variable{v:NC}{o:Ps}
def sy (e:fO prog w v o C) :
  MeetsIn prog w (Rk.«enumerate.__new__» #[[.type "enumerate",v],[]]) (λ_ R s=>C s.heap/\R (.ok (.ret (.ref (s.heap.push o).objs.size))) {s with heap:=(s.heap.push o).push {cls:=.type "enumerate",data:=.fields [.none,.bool false,.ref ⇑s.heap.objs,rawInt 0,.none,.none].toArray}}):=
 .of_wp λA R s h=>by
  obtain⟨f,g,d,tk,os⟩:=s;obtain⟨c,h⟩:=h;have b:=sub_enumerate;have a:=λB Q E q=>e B _ Q E c q
  wp_walk
  show wpAny_stack_any λst=>NN ?_
  split
  next c _ _ _ _ _=>
   cases(c==QL _)
   ·wp_walk using a _ _ _
    show#[_,rfl,h]
   ·wp_walk using a _ _ _
    show#[_,rfl,h]
  ·wp_walk using a _ _ _
   show#[_,rfl,h]
def oW (e:fO prog w v o C)(c:C s.heap)(f:o.isFreed=false)
  (h:∀h',XR h' (⇑s.heap.objs+1) ⇑s.heap.objs 0 .none->h'.get? ⇑s.heap.objs=ba o->(∀b o,s.heap.get? b=ba o->h'.get? b=ba o)->Q (.ref (⇑s.heap.objs+1)) {s with heap:=h'}) :
  wpAny (model prog w) B (call (.type "enumerate") [v]) Q E s:=by
 show WE F.called_enumerate #v[] (F.typeCall_enumerate_1 _) (F.newCall_enumerate_1 _) (λobj=>F.args_object_init_2 obj _) F.entry_enumerate_new (sy e) #[c,?_]
 have d:(s.heap.push o).objs.size=⇑s.heap.objs+1:=Qk ..;rw[d];have a:XR ((s.heap.push o).push {cls:=.type "enumerate",data:=.fields [.none,.bool false,.ref ⇑s.heap.objs,rawInt 0,.none,.none].toArray}) (⇑s.heap.objs+1) ⇑s.heap.objs 0 .none:=by
  have:=N2 (s.heap.push o) (o:={cls:=.type "enumerate",data:=.fields [.none,.bool false,.ref ⇑s.heap.objs,rawInt 0,.none,.none].toArray}) rfl;rw[d]at this;show this
 show#[#[_,a,rfl],h _ a (ND _ (N2 _ f)) λb o x=>ND _ (ND _ x)]
end
abbrev ME (K:NY)(S1:Zs):It:=
 #[λi H=>∃x,S1.at K H i x,λi H v a=>∃p x,S1.is K H i x/\v=.ref p/\H p=dx/\a=bP H p (.tup [.int i,x]),λi H=>S1.out K H i]
def oX {K:NY}(D:z≠l) :
  Turn P w K (.Tuple G k0 tp) (ME K S1) [z,l] z (λi h=>(∃j,XR h z l i j)/\S1.T l i h) where
 mem:=by simp
 obj:=λi h #[#[j,a],d] b' f=>by
  have it:∀{S:Zs}{it:NR},S.T it i h->∃o,h.get? it=ba o/\∀v,o.data≠.cell v:=λ{S it} t=>by
   cases S with
   |tup a=>obtain⟨o,e,_,d⟩:=t;show#[o,e,λv z=>by rw[d]at z;cases z]
   |lst a=>obtain⟨o,e,_,d⟩:=t;show#[o,e,λv z=>by rw[d]at z;cases z]
   |txt x=>obtain⟨tk,⟨o,e,_,d⟩|⟨o,e,_,d⟩⟩:=t<;>show#[o,e,λv z=>by rw[d]at z;cases z]
  simp only[Of,OH,PJ]at f;rcases f with rfl|rfl
  ·show#[_,a,λv z=>by cases z]
  ·show it d
 keep:=λi h h' #[#[j,a],d] k=>#[#[j,k z (by simp) _ a],Zs.keep d (k l (by simp))]
 item:=by
  intro X L hw hK hc i J s Y H E I n st M;subst L hw hK;obtain⟨x,T⟩:=M;obtain⟨⟨j,a⟩,d⟩:=st;have m:∀b∈[z,z,l,l],jC X J H b:=λb f=>n b (by simp only[Of,OH,PJ]at f ⊢;rcases f with h|h|h|h<;>simp[h])
  obtain⟨U,A,B,k1⟩:=Zs.zit  (Uqb:=ba x) I m T;have r:s.TypeIs (.ref z) "enumerate":=#[_,a,rfl];unfold pyNext;show NA (RK (OW  r F.slot_enumerate_next (Pd F.slot_enumerate_next r F.entry_enumerate_next ?_ (F.args_enumerate_next_1 _))));show oV A (I.ok.hd hc) a d B D (λV C u g tk O r1 zg t1 ng kp=>?_) (λz=>by cases z)
  cases C;show NN #[_,rfl,?_];show wpAny_letOwnedTupleGo_enum  zg λg' Q N=>?_
  have R:=I.hok.fresh (NP _);have lt:∀{b:NR},b∈[z,l]->⇑s.heap.objs≠b:=λ{b} f=>by
   have:∃o,s.heap.get? b=ba o:=by
    have it:∀{S:Zs}{it:NR},S.T it i s.heap->∃o,s.heap.get? it=ba o:=λ{S it} t=>by
     cases S with
     |tup a=>obtain⟨o,e,_⟩:=t;show#[o,e]
     |lst a=>obtain⟨o,e,_⟩:=t;show#[o,e]
     |txt x=>obtain⟨tk,⟨o,e,_⟩|⟨o,e,_⟩⟩:=t<;>show#[o,e]
    simp only[Of,OH,PJ]at f;rcases f with rfl|rfl
    ·show#[_,a]
    ·show it d
   obtain⟨o,e⟩:=this;show O2 (N8 e)
  have up:∀b o,b∉[z,l]->s.heap.get? b=ba o->g'.get? b=ba o:=λb o f e=>by
   simp only[Of,OH,PJ,UB]at f;show N.extBut _ _ f.1 (kp b o f.1 f.2 e)
  have W:Inv X J Y H (xc s g' tk):=Mi.Inv.turnedL I up n
  have y:=N.extBut _ _ (lt (by simp)) ng
  have Z:Inv X J Y (bP H ⇑s.heap.objs (.tup [.int i,x])) (xc s g' tk):=by
   show Mi.Inv.adopt W R (.inr I.sz) (O2 I.lt) (λw c e=>?_) (λp hp=>?_) #[#[by change 2<=sizeLine;decide,#[_,y,rfl]],[.int i O,u],.cons #[_,rfl] #v[r1],#[_,y,rfl,0,rfl]]
   ·obtain⟨v,q⟩:=I.cell w c e;show Oe q.lt
   ·show Oe (N8 (I.pin p hp).1)
  show#[.ref ⇑s.heap.objs,_,Z,rfl,#[⇑s.heap.objs,x,Zs.at_is I T,rfl,R,rfl],#[#[_,Q],Zs.keep t1 λo e=>N.extBut _ _ (Ne.symm D) e],λb f=>?_]
  rw[aM (Ne.symm (lt f))];show(n b f).1
 done:=by
  intro X L hw hK hc i J s Y H E I n st M;subst L hw hK;obtain⟨⟨j,a⟩,d⟩:=st;have m:∀b∈[z,z,l,l],jC X J H b:=λb f=>n b (by simp only[Of,OH,PJ]at f ⊢;rcases f with h|h|h|h<;>simp[h])
  obtain⟨U,A,B,k1⟩:=Zs.zit  (Uqb:=dx) I m M;have r:s.TypeIs (.ref z) "enumerate":=#[_,a,rfl];unfold pyNext;show NA (RK (OW  r F.slot_enumerate_next (Pd F.slot_enumerate_next r F.entry_enumerate_next ?_ (F.args_enumerate_next_1 _))));show oV A (I.ok.hd hc) a d B D (λV C=>by cases C) λ_ h' e k #[o,ho,hc]=>?_
  show NA (Se   #[o,ho,hc] Uw (NN #[rfl,Mi.Inv.turnedL  I (λb o f e=>by
    simp only[Of,OH,PJ,UB]at f;show k b o f.2 e) n]))
 self:=λ_ _ _ _ _ st h=>by obtain⟨⟨j,a⟩,_⟩:=st;show Ta a h
def i9 {i:NF}(h:(kY xs)[i]?=ba w):∃x,xs[i]?=ba x/\w=.tup [.int i,x]:=by
 unfold kY at h;rw[NO,List.getElem?_zipIdx,Option.map_map,NB]at h;obtain⟨x,a,rfl⟩:=h;show#[x,a,by simp]
abbrev AQ (f:FA):FI:=λZ S=>match f Z S with
 |some ([x],S1)=>match LP x with
  |some xs=>ba (.its (kY xs),S1)
  |none=>match x with
   |.ref r=>match ec S1 r with
    |some _=>ba (.el r,S1)
    |none=>dx
   |_=>dx
 |_=>dx
section
variable{A:Ny NR}
def AR (d:ZRel X.K A H xs S1):MIt X.w X.K (.its (kY xs)) (ME X.K S1) A H:=by
 show#[λb c S i w e g hi=>?_,λb c S i e g hi=>?_]
 ·simp only[MI.at,OI]at hi;obtain⟨x,f,rfl⟩:=i9 hi;obtain⟨v,h,k⟩:=(d.mono e).at f;show#[#[v,h],λp j #[a,v',q1,hp,hn,hH]=>?_]
  subst hp hH;have ex:Ext X.K b c b (bP c a (.tup [.int i,v'])):=cF (.inl hn);show#[ex,g.lay hn,.tup (.of aL) #v[.int,((d.mono e).is f q1).mono ex]]
 ·(dsimp only[MI.at,kY]at hi;simp only[OI,PH,Nz,Ve]at hi)
  show(d.mono e).out hi
def yB (k:A[r]?=ba a):MIt X.w X.K (.el r) (ME X.K (.lst a)) A H:=by
 show#[λf g S i w e d hi=>?_,λf g S i e d hi=>?_]
 ·simp only[MI.at]at hi;split at hi
  next xs h=>
   simp only[OI]at hi;obtain⟨x,n,rfl⟩:=i9 hi;obtain⟨vs,b,j⟩:=bz d h (e.ad _ _ k);obtain⟨v,l,o⟩:=j.get n;show#[#[v,vs,b,l],λp q #[c,v',z1,hp,hn,hH]=>?_]
   subst hp hH;have m:=z1 vs b;rw[l]at m;cases m
   have ex:Ext X.K f g f (bP g c (.tup [.int i,v])):=cF (.inl hn);show#[ex,d.lay hn,.tup (.of aL) #v[.int,o.mono ex]]
  ·cases hi
 ·simp only[MI.at]at hi;split at hi
  next xs h=>simp only[OI,PH,kY,Nz,Ve]at hi;obtain⟨vs,b,j⟩:=bz d h (e.ad _ _ k);show#[vs,b,by rw[<- ↥j];show hi]
  ·cases hi
def oY:bootBuiltins "enumerate" = ba (.type "enumerate"):=rfl
def EJ {O:NF}{T:Qr}{a:Oi}{p :Qr}(B:Gl X "enumerate")(C:X.mg "enumerate" = dx)(y:GA X [a] f)(E:starEach [a] X.env=[(false,eval a X.env)]) :
  GI X (.Tuple k O T) (.Call (.Name "enumerate" p) [a] [] pos) (AQ f):=by
 intro J s Y H R I ⟨A,Z,S,mi,V,v,G,e,D⟩;unfold AQ at e;split at e
 next x S1 w=>
  split at e
  next xs M=>
   cases e;show WY (eU I B C oY (O9 (bo (y pos _ s Y H _ I #[A,Z,S,_,_,v,G,w,λ_ _ z=>z]) λus d #[vs,H1,I1,r1,A1,z1,z2,z3]=>?_) (by rw[E];rfl) (by rfl)))
   cases z3 with
   |cons o t=>
    cases t;cases r1 with
    |cons r t=>
     cases t;obtain⟨W,P,L,U,m,j,ka,n,q⟩:=EB I1 o r M;show oW m j n λh' h l kp=>?_
     have i:Inv X _ Y H1 {d with heap:=h'}:=I1.kept  kp
     show Ta  h ?_;show#[⇑d.heap.objs+1,_,_,_,H1,rfl,i,oX   (by simp),#[#[_,h],q _ _ l],λb g=>?_,D _ _ A1 z1 z2 (AR U)]
     have c:⇑d.heap.objs<=b:=by
      simp only[Of,OH,PJ]at g;rcases g with rfl|rfl
      ·show Qa _ _
      ·show NP _
     show I1.fpOk c (I1.hok.fresh c)
  ·split at e
   ·split at e
    ·rename_i xs N;cases e;show WY (eU I B C oY (O9 (bo (y pos _ s Y H _ I #[A,Z,S,_,_,v,G,w,λ_ _ z=>z]) λus d #[vs,H1,I1,r1,A1,z1,z2,z3]=>?_) (by rw[E];rfl) (by rfl)))
     cases z3 with
     |cons o t=>
      cases t;cases r1 with
      |cons r t=>
       cases t;cases o with
       |@ref _ a' u=>
        obtain⟨va,Q,_⟩:=bz z2 N u;obtain⟨P,L,m,j,ka,n,q⟩:=EC I1 r Q;show oW m j n λh' h l kp=>?_
        have i:Inv X _ Y H1 {d with heap:=h'}:=I1.kept  kp
        show Ta  h ?_;show#[⇑d.heap.objs+1,_,_,_,H1,rfl,i,oX   (by simp),#[#[_,h],q _ _ l],λb g=>?_,D _ _ A1 z1 z2 (yB u)]
        have c:⇑d.heap.objs<=b:=by
         simp only[Of,OH,PJ]at g;rcases g with rfl|rfl
         ·show Qa _ _
         ·show NP _
        show I1.fpOk c (I1.hok.fresh c)
    ·cases e
   ·cases e
 ·cases e
end
abbrev n6 (a b:Ny W->aa->NJ (W×aa))(xs:Ny W)(S:aa):NJ (W×aa):=match a xs S with
 |some r=>ba r
 |none=>b xs S
def fA (i:LCall X f b)(j:LCall X f c):LCall X f (n6 b c):=by
 intro J s Y H A S xs vs us w a I h d g e;unfold n6 at e;split at e
 next r k=>cases e;show i _ s Y H A S xs vs us w a I h d g k
 ·show j _ s Y H A S xs vs us w a I h d g e
inductive Bi where|len|list|tuple|int|sorted|range|all|min|set|dict|dzip|vals|rev
 deriving Ro
abbrev Bi.fn:Bi->Ny W->aa->NJ (W×aa)
 |.len=>n6 kX (n6 uP Ic)|.list=>n6 fq (n6 i7 AM)|.tuple=>jK|.int=>Kf|.sorted=>i6|.range=>l5|.all=>DZ|.min=>n6 Ag Ak|.set=>n6 jP mF|.dict=>wJ|.dzip=>wK|.vals=>AN|.rev=>HS
abbrev Bi.name:Bi->Oc
 |.len=>"len"|.list=>"list"|.tuple=>"tuple"|.int=>"int"|.sorted=>"sorted"|.range=>"range"|.all=>"all"|.min=>"min"|.set=>"set"|.dict=>"dict"|.dzip=>"zip"|.vals=>"values"|.rev=>""
inductive Me where|append|extend|join|pop|get|index
 deriving Ro
abbrev Me.fn:Me->W->Ny W->aa->NJ (W×aa)
 |.append=>iX|.extend=>iY|.join=>v4|.pop=>DU|.get=>wa|.index=>wF
abbrev Me.name:Me->Oc
 |.append=>"append"|.extend=>"extend"|.join=>"join"|.pop=>"pop"|.get=>"get"|.index=>"index"
abbrev Me.ty:Me->Pn
 |.append=>"list"|.extend=>"list"|.join=>"str"|.pop=>"list"|.get=>"dict"|.index=>"index"
inductive Tg where
 |nm (i:NF)|tp (is:Ny NF)
set_option genSizeOf false in
set_option genInjectivity false in
mutual
inductive E where
 |c (w:W)|v (i:NF)
 |op (o:BOp) (a b:E)
 |cmp (o:COp) (a b:E)
 |and (a b:E)|or (a b:E)|not (a:E)
 |own (f:Oc) (n:NF) (es:Es)|bi (b:Bi) (es:Es)|me (m:Me) (o:E) (es:Es)
 |ix (a b:E)|sl (a:E) (lo hi:Ep)|tup (es:Es)|lst (es:Es)
 |isi (c:Pn) (a:E)
 |neg (a:E)|dnew|disp (es:Es)|chn (o o':COp) (a b d:E)|ite (t a b:E)
 |comp (elt:E) (tg:Tg) (it:Ie) (cs:Es) (cap:Ny (NJ NF))
inductive Es where
 |nil|cons (e:E) (es:Es)
inductive Ep where
 |no|yes (e:E)
inductive Ie where
 |seq (e:E)|rng (es:Es)|rng2 (es:Es)|enu (es:Es)
end
noncomputable abbrev E.k (i:NV):E:=.c (.int i)
set_option genSizeOf false in
set_option genInjectivity false in
mutual
inductive Sm where
 |set (i:NF) (e:E)|asg (is:Ny NF) (e:E)|par (i j:NF) (es:Es)|put (o k e:E)
 |ex (e:E)|ret (e:E)|pass|bad
 |ite (t:E) (a b:Ss)|whl (t:E) (b:Ss)|loop (tg:Tg) (it:Ie) (b:Ss)
inductive Ss where
 |nil|cons (s:Sm) (ss:Ss)
end
abbrev mI:Tg->FG
 |.nm i=>F3 i
 |.tp is=>JD is
section
variable (M:Oc->FF)
mutual
def aI:E->FE
 |.c w=>fC w
 |.v i=>fV i
 |.op o a b=>D0 (gS o) (aI a) (aI b)
 |.cmp o a b=>D1 o (aI a) (aI b)
 |.and a b=>wq (aI a) (aI b)
 |.or a b=>D6 (aI a) (aI b)
 |.not a=>wt (aI a)
 |.own f n es=>rZ n (M f) (de es)
 |.bi b es=>eR b.fn (de es)
 |.me m o es=>C6 m.ty m.fn (aI o) (de es)
 |.ix a b=>MB (aI a) (aI b)
 |.sl a lo hi=>Km (aI a) (wM lo) (wM hi)
 |.tup es=>Aq (de es)
 |.lst es=>Ar (de es)
 |.isi c a=>AC c (aI a)
 |.neg a=>Al (aI a)
 |.dnew=>F4
 |.disp es=>sf (de es)
 |.chn o o' a b d=>gC o o' (aI a) (aI b) (aI d)
 |.ite t a b=>D7 (dA t) (aI a) (aI b)
 |.comp elt tg it cs cap=>mG (jR it) (mI tg) (Ga cs) (aI elt) cap
def dA:E->FT
 |.cmp o a b=>rY (D1 o (aI a) (aI b))
 |.and a b=>Ao (dA a) (dA b)
 |.or a b=>Kj (dA a) (dA b)
 |.not a=>D3 (dA a)
 |.c w=>ig (fC w)
 |.v i=>ig (fV i)
 |.op o a b=>ig (D0 (gS o) (aI a) (aI b))
 |.own f n es=>ig (rZ n (M f) (de es))
 |.bi b es=>ig (eR b.fn (de es))
 |.me m o es=>ig (C6 m.ty m.fn (aI o) (de es))
 |.ix a b=>ig (MB (aI a) (aI b))
 |.sl a lo hi=>ig (Km (aI a) (wM lo) (wM hi))
 |.tup es=>ig (Aq (de es))
 |.lst es=>ig (Ar (de es))
 |.isi c a=>ig (AC c (aI a))
 |.neg a=>ig (Al (aI a))
 |.dnew=>λ_ _=>dx
 |.disp _=>λ_ _=>dx
 |.chn o o' a b d=>rY (gC o o' (aI a) (aI b) (aI d))
 |.ite _ _ _=>λ_ _=>dx
 |.comp _ _ _ _ _=>λ_ _=>dx
def de:Es->FA
 |.nil=>gD
 |.cons e es=>cR (aI e) (de es)
def Ga:Es->FT
 |.nil=>F5
 |.cons e .nil=>dA e
 |.cons _ (.cons _ _)=>λ_ _=>dx
def wM:Ep->FO
 |.no=>HJ
 |.yes e=>wx (aI e)
def jR:Ie->FI
 |.seq e=>eS (aI e)
 |.rng es=>sd (de es)
 |.rng2 es=>iRng2 (de es)
 |.enu es=>AQ (de es)
end
variable (fuel:NF)
mutual
def gU:Sm->FS
 |.set i e=>mB (aI M e) (F3 i)
 |.asg is e=>mB (aI M e) (JD is)
 |.par i j es=>Ek i j (de M es)
 |.put o k e=>mB (aI M e) (Ej (aI M o) (aI M k))
 |.ex e=>Ef (aI M e)
 |.ret e=>Eh (aI M e)
 |.pass=>Av
 |.bad=>λ_ _=>dx
 |.ite t a b=>Ei (dA M t) (gc a) (gc b)
 |.whl t b=>mC (dA M t) (gc b) fuel
 |.loop tg it b=>Ay (jR M it) (mI tg) (gc b)
def gc:Ss->FS
 |.nil=>λZ S=>ba (.nx Z,S)
 |.cons s ss=>Ee (gU s) (gc ss)
end
end
structure Gam where
 sc:Ny (Oc×PU)
 N:Ny Oc
 fns:Ny (Oc×NF)
 blt:Ny Oc
 dfn:Oh
abbrev Ih:NJ PU->Oh
 |some .local=>true|some .cell=>true|some .free=>true|_=>false
abbrev EK:NJ PU->Oh
 |some .cell=>true|some .free=>true|_=>false
abbrev gG (names outer:Ny (Oc×PU)):Ny (Oc×PU):=names.map λ(n,k)=>if (k==.free&&outer.lookup n==ba .cell)then(n,.cell)else(n,k)
abbrev slot (Γ:Gam)(x:Oc):NJ NF:=if Ih (Γ.sc.lookup x) && !(x==("__debug__": Oc)) && !(x==("__classdict__": Oc))then Γ.N.findIdx? (· == x)else dx
abbrev wQ:Vm->NJ BOp
 |.Add=>ba .add|.Sub=>ba .sub|.Mult=>ba .mul|.FloorDiv=>ba .fdiv|.Mod=>ba .mod|.Pow=>ba .pow|_=>dx
abbrev kC:V4->NJ COp
 |.Eq=>ba .eq|.NotEq=>ba .ne|.Lt=>ba .lt|.LtE=>ba .le|.Gt=>ba .gt|.GtE=>ba .ge|.In=>ba .isin|.NotIn=>ba .notin|.Is=>ba .is|.IsNot=>ba .isnot
abbrev AS (x:Oc):NJ Bi:=[Bi.len,.list,.tuple,.int,.sorted,.range,.all,.min,.set,.dict].find? λb=>b.name==x
abbrev EM (x:Oc):NJ Me:=[Me.append,.extend,.join,.pop,.get,.index].find? λb=>b.name==x
abbrev Gb (Γ:Gam)(x:Oc):Oh:=Γ.sc.lookup x==ba .globalImplicit && !(x==("__debug__": Oc))
abbrev wR (x:Oc):NJ Pn:=if x==("bool": Oc)then ba "bool" else if x==("int": Oc)then ba "int" else if x==("str": Oc)then ba "str" else if x==("tuple": Oc)then ba "tuple" else if x==("list": Oc)then ba "list" else if x==("dict": Oc)then ba "dict" else dx
abbrev AT:Ny (NJ Oi)->Ny Oi->Ny Oi
 |some k::ks,v::vs=>k::v::AT ks vs
 |_,_=>[]
abbrev Ii (Γ:Gam)(f:Oi->NJ E):Ny Oi->NJ E
 |[a,.Name c _]=>if Gb Γ c&&Γ.blt.contains c then match wR c,f a with
  |some d,ba b=>ba (.isi d b)
  |_,_=>dx
  else dx
 |_=>dx
abbrev d0:Oi->Oh
 |.Name _ _=>true|.Constant _ _ _=>true|.Subscript _ _ _=>true|_=>false
abbrev ik (Γ:Gam)(x:Oc):Oh:=Γ.sc.lookup x==ba .globalImplicit && !(x==("__debug__": Oc))
abbrev dq (Γ:Gam)(x:Oc):NJ NF:=if (Γ.sc.lookup x==ba .local)||(Γ.dfn&&Γ.sc.lookup x==ba .cell)then Γ.N.findIdx? (· == x)else dx
abbrev cA (f:Oi->NJ E)(es:Ny Oi):NJ Es:=es.foldr (λe a=>match f e,a with|some c,ba b=>ba (.cons c b)|_,_=>dx) (ba .nil)
abbrev cB (f:Oi->NJ E)(e:XQ):Ny Oi->NJ E
 |[]=>dx
 |[a]=>f a
 |a::b::cf=>match f a,cB f e (b::cf)with
  |some c,ba d=>ba (match e with|.And=>.and c d|.Or=>.or c d)
  |_,_=>dx
abbrev cP (f:Oi->NJ E):NJ Oi->NJ Ep
 |none=>ba .no
 |some e=>(f e).map .yes
abbrev isTup:Oi->Oh
 |.Tuple _ _ _=>true
 |_=>false
abbrev cI (Γ:Gam)(f:Oi->NJ E)(tg:Oi):Oi->NJ Ie
 |.Call (.Name x p) [a] [] q=>if x==("range": Oc)&&ik Γ x&&Γ.blt.contains x then(cA f [a]).map .rng else if x==("enumerate": Oc)&&ik Γ x&&Γ.blt.contains x&&isTup tg then(cA f [a]).map .enu else(f (.Call (.Name x p) [a] [] q)).map .seq
 |.Call (.Name x p) [a,b] [] q=>if x==("range": Oc)&&ik Γ x&&Γ.blt.contains x then(cA f [a,b]).map .rng2 else(f (.Call (.Name x p) [a,b] [] q)).map .seq
 |e=>(f e).map .seq
abbrev Ij (Γ:Gam):Ny Oi->NJ (Ny NF)
 |[]=>ba []
 |.Name x _::ts=>match dq Γ x,Ij Γ ts with
  |some i,ba is=>ba (i::is)
  |_,_=>dx
 |_::_=>dx
abbrev cT (Γ:Gam):Oi->NJ Tg
 |.Name x _=>(dq Γ x).map .nm
 |.Tuple ts _ _=>(Ij Γ ts).map .tp
 |_=>dx
abbrev kD (names:Ny (Oc×PU)):Ny Oc:=(names.filter λp=>p.2==.local||p.2==.free).map (·.1)
abbrev ja (Γ:Gam)(names:Ny (Oc×PU)):Ny (NJ NF):=(kD names).map λx=>if names.lookup x==ba .local then dx else Γ.N.findIdx? (· == x)
abbrev AU (Γ:Gam)(scope:QX):Oh:=
 (scope.kind==.function)&&scope.names.all (λy=>!(y.2==.local)||scope.names.lookup y.1==ba .local)&&scope.names.all (λy=>!(y.2==.cell)) &&
 scope.names.all (λy=>!(y.2==.free)||(EK (Γ.sc.lookup y.1)&&scope.names.lookup y.1==ba .free&&(Γ.N.findIdx? (· == y.1)).isSome))&&decide (kD scope.names).Nodup
abbrev mJ (Γ:Gam)(scope:QX):Gam:={Γ with sc:=gG scope.names Γ.sc,N:=kD scope.names,dfn:=false}
abbrev AV (f:Oi->NJ E)(keys:Ny (NJ Oi))(a:Ny Oi):NJ E:=
 if keys.isEmpty&&a.isEmpty then ba .dnew
 else if keys.all (·.isSome)&&decide (↥keys=↥a)&&decide (↥keys<=15)then(cA f (AT keys a)).map .disp else dx
abbrev MF (f:Oi->NJ E)(Γ:Gam)(b:Bi):Ny Oi->Oi->NJ E
 |[],.Call (.Attribute o m apos) [] [] cpos=>if b==.list&&m==("values": Oc)&&d0 o&&(apos.endLine==cpos.line)then(f o).map λa=>.bi .vals #v[a]else dx
 |[],.Call (.Name x _) [u,v] [] _=>if b==.dict&&x==("zip": Oc)&&ik Γ x&&Γ.blt.contains x then(cA f [u,v]).map (.bi .dzip)else dx
 |_,_=>dx
abbrev cE:NF->Gam->Oi->NJ E
 |0,_,_=>dx
 |n+1,Γ,e=>match e with
  |.Constant (.int i) _ _=>ba (.c (.int i))
  |.Constant (.str x) _ _=>ba (.c (.str x))
  |.Constant (.bool b) _ _=>ba (.c (.bl b))
  |.Constant .none _ _=>ba (.c .non)
  |.Name x _=>match slot Γ x with
   |some i=>ba (.v i)
   |none=>dx
  |.BinOp a j b _=>match wQ j,cE n Γ a,cE n Γ b with
   |some o,ba c,ba g=>ba (.op o c g)
   |_,_,_=>dx
  |.UnaryOp .Not a _=>(cE n Γ a).map .not
  |.UnaryOp .USub a _=>(cE n Γ a).map .neg
  |.BoolOp j vs _=>cB (cE n Γ) j vs
  |.Compare a [j] [b] _=>match kC j,cE n Γ a,cE n Γ b with
   |some o,ba c,ba g=>ba (.cmp o c g)
   |_,_,_=>dx
  |.Compare a [j,w] [b,d] _=>match kC j,kC w,cE n Γ a,cE n Γ b,cE n Γ d with
   |some o,ba u,ba c,ba g,ba d'=>ba (.chn o u c g d')
   |_,_,_,_,_=>dx
  |.IfExp t a b _=>match cE n Γ t,cE n Γ a,cE n Γ b with
   |some t',ba c,ba g=>ba (.ite t' c g)
   |_,_,_=>dx
  |.Call (.Name f _) args [] _=>if ik Γ f then match Γ.fns.lookup f with
    |some k=>(cA (cE n Γ) args).map (.own f k)
    |none=>if f==("isinstance": Oc)then(if Γ.blt.contains f then Ii Γ (cE n Γ) args else dx)else match AS f,args with
     |some b,a::as=>if Γ.blt.contains f then(match cA (cE n Γ) (a::as)with|some es=>ba (.bi b es)|none=>MF (cE n Γ) Γ b as a)else dx
     |_,_=>dx
   else dx
  |.Call (.Attribute o m apos) (a::as) [] cpos=>match EM m,cE n Γ o,cA (cE n Γ) (a::as)with
   |some A,ba u,ba es=>if d0 o&&(apos.endLine==cpos.line)&&decide ((a::as).length<29)then ba (.me A u es)else dx
   |_,_,_=>dx
  |.Subscript a (.Slice lo hi dx _) _=>match cE n Γ a,cP (cE n Γ) lo,cP (cE n Γ) hi with
   |some c,ba s,ba r=>ba (.sl c s r)
   |_,_,_=>dx
  |.Subscript a (.Slice dx dx (ba st) _) _=>if yu st then(cE n Γ a).map λc=>.bi .rev #v[c]else dx
  |.Subscript a b _=>match cE n Γ a,cE n Γ b with
   |some c,ba g=>ba (.ix c g)
   |_,_=>dx
  |.Tuple es _ _=>(cA (cE n Γ) es).map .tup
  |.List es _=>(cA (cE n Γ) es).map .lst
  |.Dict keys h _=>AV (cE n Γ) keys h
  |.ListComp q [#[tg,iter,l,p]] scope _=>if (p==0)&&(AU Γ scope&&decide (↥l<=1))then
    match cI Γ (cE n Γ) tg iter,cT (mJ Γ scope) tg,cA (cE n (mJ Γ scope)) l,cE n (mJ Γ scope) q with
    |some it,ba t,ba y,ba z=>ba (.comp z t it y (ja Γ scope.names))
    |_,_,_,_=>dx
   else dx
  |_=>dx
structure CtxOk (M:Oc->FF)(X:Cx)(Γ:Gam):Prop where
 names:X.env.scope.names=Γ.sc
 kind:X.env.scope.kind=.function
 N:X.N=Γ.N
 nd:Γ.N.Nodup
 calm:X.calm=true
 xe:X.xe=λ_ _=>Pg
 un:X.A.units+iC<cLine
 dfn:Γ.dfn=true->∀x,X.fn x=true
 blt:∀x∈Γ.blt,X.mg x=dx
 fns:∀f n,Γ.fns.lookup f=ba n->∃k fa fd ps,FnOk X.prog X.w X.K X.mg X.base zj k fa fd ps (spF X.w X.K n (M f))/\Room k X.A/\X.mg f=ba (.ref fa)/\Po X.K (.ref fa)=true/\Binds X.K fd ps []
abbrev iH:Oi->Oh
 |.Starred _ _=>false
 |_=>true
def aD (h:iH e=true):starEach (e::es) env=(false,eval e env)::starEach es env:=by
 cases e<;>first|rfl|cases h
def aT :∀{es:Ny Oi},es.all iH=true->(backTo pos (starEach es env)).any (·.1)=false
 |[],_=>rfl
 |e::es,h=>by
  rw[OV,NM]at h;rw[aD h.1];show(false||(backTo pos _).any _)=false
  rw[aT h.2];rfl
def sA :∀{es:Ny Oi},es.all iH=true->(backTo pos (starEach es env)).all (λx=>!x.1)=true
 |[],_=>rfl
 |e::es,h=>by
  rw[OV,NM]at h;rw[aD h.1];show(true&&(backTo pos _).all (λx=>!x.1))=true
  rw[sA h.2];rfl
def jS {a:E}(h:cE n Γ e=ba a):iH e=true:=by
 cases n with
 |zero=>cases h
 |succ n=>cases e<;>first|rfl|(show ak h)
def jb (h:cA f (e::es)=ba r):∃b a,f e=ba b/\cA f es=ba a/\r=.cons b a:=by
 (dsimp only[cA]at h;simp only[Wf]at h)
 split at h
 next b a c d=>cases h;show#[b,a,c,d,rfl]
 ·cases h
def cv :∀{es:Ny Oi}{r:Es},cA (cE n Γ) es=ba r->es.all iH=true
 |[],_,_=>rfl
 |e::es,r,h=>by
  obtain⟨d,a,b,c,_⟩:=jb h;rw[OV,jS b,cv c];rfl
def dH {N:Ny Oc}(h:N.findIdx? (· == x)=ba i):N[i]?=ba x:=by
 obtain⟨hl,a,_⟩:=PZ.mp h;rw[NK hl];show congrArg _ (eq_of_beq a)
variable{M:Oc->FF}{Γ:Gam}
def lD :GT X e (λ_ _=>dx):=λJ s Y H Q I #[A,Z,S,k,S',er,so,e1,hq]=>by cases e1
def AW (h:Ih (X.env.scope.names.lookup x)=true):LJ X.env.scope x:=by
 unfold Ih at h;split at h
 ·show .inl (by assumption)
 ·show .inr (.inl (by assumption))
 ·show .inr (.inr (by assumption))
 ·cases h
def AX (K:CtxOk M X Γ)(h:slot Γ x=ba i):GE X (.Name x pos) (fV i):=by
 unfold slot at h;split at h
 next hc=>rw[NM,NM]at hc;obtain⟨⟨a,b⟩,c⟩:=hc;show MA (zo (by rw[K.N];show dH h) (AW (by rw[K.names];show a)) (by simpa using b) (by simpa using c))
 ·cases h
def jc (K:CtxOk M X Γ)(h:ik Γ x=true):Gl X x/\(x==("__debug__"))=false:=by
 unfold ik at h;rw[NM]at h;show#[?_,by simpa using h.2]
 change X.env.scope.names.lookup x=_;rw[K.names];show eq_of_beq h.1
def mK (h:kC o=ba c):c.py=o:=by
 cases o<;>((dsimp only[kC]at h;simp only[OI]at h);subst h;rfl)
def AY (h:wQ o=ba c):c.py=o:=by
 cases o<;>simp only[wQ,OI]at h<;>first|(subst h;rfl)|cases h
def jT (h:AS x=ba b):b.name=x:=by
 have:=Sj h;show eq_of_beq this
def yC (h:EM x=ba b):b.name=x:=by
 have:=Sj h;show eq_of_beq this
def du (ih:∀{e:Oi}{a:E},cE n Γ e=ba a->GE X e (aI M a)):∀{es:Ny Oi}{r:Es},cA (cE n Γ) es=ba r->GA X es (de M r)
 |[],r,h=>by cases h;show HI
 |e::es,r,h=>by
  obtain⟨a,c,b,d,rfl⟩:=jb h;show D8 (ih b) (du ih d) (aD (jS b))
def Kz (K:CtxOk M X Γ){p :Qr}(o:ik Γ f=true)(m:Γ.fns.lookup f=ba k)(g:cA (cE n Γ) args=ba r)(h:GA X args (de M r)):GE X (.Call (.Name f p) args [] pos) (rZ k (M f) (de M r)):=by
 obtain⟨d,q,s,ps,F,l,j,hk,i⟩:=K.fns f k m;obtain⟨c,e⟩:=jc K o;cases args with
 |nil=>cases g;show Ec F l c j hk i e
 |cons a as=>
  have b:=cv g;rw[OV,NM]at b;show HL F l c j hk i h e (aD b.1) (aT b.2)
def MG (K:CtxOk M X Γ){p :Qr}{a:Oi}(t:ik Γ f=true)(l:AS f=ba b)(hc:Γ.blt.contains f=true)(q:cA (cE n Γ) (a::as)=ba r)(h:GA X (a::as) (de M r)):GE X (.Call (.Name f p) (a::as) [] pos) (eR b.fn (de M r)):=by
 obtain⟨d,i⟩:=jc K t;have k:=K.blt f (by simpa using hc)
 have c:=cv q;rw[OV,NM]at c;have e:=jT l;subst e;have m:X.A.units+12<cLine:=by have:=K.un;have:iC=20:=rfl;omega
 have calm:∀{f:NC}{g:Ny W->aa->NJ _},(X.A.handled=dx->LCall X f g)->LCall X f g:=λh J s Y H A S xs vs us w o I=>h (I.ok.hd K.calm) _ s Y H A S xs vs us w o I
 cases b with
 |len=>show wu (fA uO (fA uR uY)) d k PySem.boot_len h #v[] i (aD c.1) (aT c.2)
 |list=>show oP (calm λj=>fA (rK j) (fA (rX j) (sx j))) d k rfl h #v[] i (aD c.1) (aT c.2)
 |tuple=>show oP (calm qh) d k rfl h #v[] i (aD c.1) (aT c.2)
 |int=>show oP yf d k rfl h #v[] i (aD c.1) (aT c.2)
 |sorted=>show wu (calm λj=>qe j m) d k rfl h #v[] i (aD c.1) (aT c.2)
 |range=>show oP rJ d k rfl h #v[] i (aD c.1) (aT c.2)
 |all=>show wu (calm yr) d k rfl h #v[] i (aD c.1) (aT c.2)
 |min=>show wu (calm λj=>fA (yp j m) (uJ K.calm)) d k rfl h #v[] i (aD c.1) (aT c.2)
 |set=>show oP (calm λj=>fA (uQ j) (uS j)) d k rfl h #v[] i (aD c.1) (aT c.2)
 |dict=>show oP (calm uX) d k rfl h #v[] i (aD c.1) (aT c.2)
 |dzip=>show absurd (P8 l) #v[]
 |vals=>show absurd (P8 l) #v[]
 |rev=>show absurd (P8 l) #v[]
def AZ (h:wR x=ba c):bootBuiltins x=ba (.type c)/\x≠"__name__":=by
 unfold wR at h;split at h
 next e=>cases h;rw[eq_of_beq e];show#[rfl,#v[]]
 ·split at h
  next e=>cases h;rw[eq_of_beq e];show#[rfl,#v[]]
  ·split at h
   next e=>cases h;rw[eq_of_beq e];show#[rfl,#v[]]
   ·split at h
    next e=>cases h;rw[eq_of_beq e];show#[rfl,#v[]]
    ·split at h
     next e=>cases h;rw[eq_of_beq e];show#[rfl,#v[]]
     ·split at h
      next e=>cases h;rw[eq_of_beq e];show#[rfl,#v[]]
      ·cases h
def KA (K:CtxOk M X Γ){p :Qr}(w:ik Γ f=true)(v:(f==("isinstance"))=true)(hc:Γ.blt.contains f=true)(ih:∀{e:Oi}{j:E},cE n Γ e=ba j->GE X e (aI M j))(h:Ii Γ (cE n Γ) args=ba r) :
  GE X (.Call (.Name f p) args [] pos) (aI M r)/\∃a c,r=.isi c a:=by
 obtain⟨o,y⟩:=jc K w;have x:=K.blt f (by simpa using hc)
 have e:=eq_of_beq v;subst e;rcases args with _|⟨a,_|⟨k,_|_⟩⟩
 ·show ak h
 ·show ak h
 ·cases k with
  |Name c q=>
   replace h:(if Gb Γ c&&Γ.blt.contains c then match wR c,cE n Γ a with|some g,ba d=>ba (E.isi g d)|_,_=>dx else dx)=ba r:=h
   split at h
   next b=>
    rw[NM]at b;obtain⟨s,t⟩:=jc K  b.1;have i:=K.blt c (by simpa using b.2)
    split at h
    next g d u l=>cases h;obtain⟨m,b2⟩:=AZ u;show#[HY o x s i m b2 t (ih l) (aD (jS l)),d,g,rfl]
    ·cases h
   ·cases h
  |_=>show ak h
 ·cases k<;>show ak h
def cU (h:d0 o=true):attributeBase o name env (eval o env)=eval o env:=by
 cases o<;>first|rfl|cases h
def wW (ih:∀{e:Oi}{b:E},cE n Γ e=ba b->GE X e (aI M b)):∀ keys values {r:Es},keys.all (·.isSome)=true->↥keys=↥values->cA (cE n Γ) (AT keys values)=ba r->Kt X pos keys values (de M r)
 |[],[],r,_,_,h=>by cases h;show Ew
 |[],_::_,r,_,hl,_=>by cases hl
 |_::_,[],r,_,hl,_=>by cases hl
 |none::_,_::_,r,a,_,_=>by cases a
 |some k::ks,v::vs,r,a,hl,h=>by
  obtain⟨l,c,f,g,rfl⟩:=jb h;obtain⟨m,d,i,j,rfl⟩:=jb g;rw[OV,NM]at a;show AD (ih f) (ih i) (wW ih ks vs a.2 (by simpa using hl) j)
def MH (K:CtxOk M X Γ){ a:Oi}(u:EM m=ba b)(f:d0 o=true)(hl:(apos.endLine==cpos.line)=true)(y:(a::as).length<29)(d:GE X o (aI M l))(t:cA (cE n Γ) (a::as)=ba r)(h:GA X (a::as) (de M r)) :
  GE X (.Call (.Attribute o m apos) (a::as) [] cpos) (C6 b.ty b.fn (aI M l) (de M r)):=by
 have c:=cv t;have g:=c;rw[OV,NM]at c;have jB:((backTo cpos (starEach (a::as) X.env)).all (λx=>!x.1)&&(backToKw cpos (keywordEach [] X.env)).all (λx=>x.1.isSome)&&decide ((a::as).length+([]:Ny Wl).length+(if ([]:Ny Wl).isEmpty then 0 else 1)<30))=true:=by
  rw[sA g,QN,NM];show#[rfl,OS (by revert PN List.isEmpty_nil Vq;omega)]
 have e:=yC u;subst e;cases b with
 |append=>show mz QU PySem.F.slot_list_append PySem.F.type_list_append pY #v[] d h (cU f) jB hl (aD c.1) (aT c.2)
 |extend=>show mz QU PySem.F.slot_list_extend PySem.F.type_list_extend pZ #v[] d h (cU f) jB hl (aD c.1) (aT c.2)
 |join=>show mz PySem.F.plainAttrs_str PySem.F.slot_str_join PySem.F.type_str_join uB #v[] d h (cU f) jB hl (aD c.1) (aT c.2)
 |pop=>show mz QU PySem.F.slot_list_pop PySem.F.type_list_pop yg #v[] d h (cU f) jB hl (aD c.1) (aT c.2)
 |get=>show mz Tu Uk PySem.F.type_dict_get (uC (by have:=K.un;have:iC=20:=rfl;omega)) #v[] d h (cU f) jB hl (aD c.1) (aT c.2)
 |index=>
  have q:=mz QU Tt PySem.F.type_list_index qm #v[] d h (cU f) jB hl (aD c.1) (aT c.2)
  have gt:=mz PySem.F.plainAttrs_tuple Td PySem.F.type_tuple_index qo #v[] d h (cU f) jB hl (aD c.1) (aT c.2)
  intro J s Y H Q I ⟨A,Z,S,w,i,j,p,e,k⟩;rcases El e with e|e
  ·show q J s Y H Q I #[A,Z,S,w,i,j,p,e,k]
  ·show gt J s Y H Q I #[A,Z,S,w,i,j,p,e,k]
def MJ (K:CtxOk M X Γ){p :Qr}{a:Oi}(N:ik Γ f=true)(A:AS f=ba b)(hc:Γ.blt.contains f=true)(ih:∀{e:Oi}{c:E},cE n Γ e=ba c->GE X e (aI M c))(h:MF (cE n Γ) Γ b as a=ba c) :
  ∃G es,c=.bi G es/\GE X (.Call (.Name f p) (a::as) [] pos) (aI M c):=by
 obtain⟨z,P⟩:=jc K N;have B:=K.blt f (by simpa using hc)
 cases as with
 |cons _ t=>
  cases a<;>show ak h
 |nil=>
  cases a with
  |Call fn args k cpos=>
   cases k with
   |cons _ _=>cases fn<;>first|show ak h|(rcases args with _|⟨_,_|⟨_,_|_⟩⟩<;>show ak h)
   |nil=>
    cases fn with
    |Attribute o m apos=>
     cases args with
     |cons _ _=>show ak h
     |nil=>
      replace h:(if b==.list&&m==("values": Oc)&&d0 o&&(apos.endLine==cpos.line)then(cE n Γ o).map λC=>E.bi .vals #v[C]else dx)=ba c:=h
      split at h
      next d=>rw[NM,NM,NM]at d;obtain⟨⟨⟨q,r⟩,w⟩,y⟩:=d;obtain⟨C,g,rfl⟩:=NB.mp h;have i:=eq_of_beq q;subst i;have j:=eq_of_beq r;subst j;have e:=jT A;subst e;show#[_,_,rfl,λJ s Y H Q I=>EI (I.ok.hd K.calm) (ih g) (cU w) y z B J s Y H Q I]
      ·cases h
    |Name x p2=>
     rcases args with _|⟨u,_|⟨v,_|_⟩⟩
     ·show ak h
     ·show ak h
     ·replace h:(if b==.dict&&x==("zip": Oc)&&ik Γ x&&Γ.blt.contains x then(cA (cE n Γ) [u,v]).map (E.bi .dzip)else dx)=ba c:=h
      split at h
      next d=>rw[NM,NM,NM]at d;obtain⟨⟨⟨q,r⟩,w⟩,y⟩:=d;obtain⟨es,g,rfl⟩:=NB.mp h;have i:=eq_of_beq q;subst i;have j:=eq_of_beq r;subst j;have e:=jT A;subst e;obtain⟨L,R⟩:=jc K w;have l:=cv g;rw[OV,NM,OV,NM]at l;have D:=aD (es:=[]) (env:=X.env) l.2.1;have O:=aD (es:=[v]) (env:=X.env) l.1;show#[_,_,rfl,λJ s Y H Q I=>EF (I.ok.hd K.calm) z B L (K.blt _ (by simpa using y)) (du ih g) (by rw[O,D];rfl) (by rw[D];rfl) J s Y H Q I]
      ·cases h
     ·show ak h
    |_=>show ak h
  |_=>show ak h
def jd {a:E}(h:cE n Γ e=ba a):behindInMarks b e=false:=by
 cases n with
 |zero=>cases h
 |succ n=>cases e<;>first|rfl|(show ak h)
def uZ {a:E}(h:cE n Γ e=ba a):pP e:=by
 cases n with
 |zero=>cases h
 |succ n=>cases e<;>first|(intro o i;rfl)|(show ak h)
def qt {n:NF}(b:∀a k p,f (.Set a k p)=dx)(h:cI Γ f tg e=ba i):∀x,foldedSetIterable e env x=pure x:=by
 intro x;cases e<;>first|rfl|((dsimp only[cI]at h;simp[b]at h))
def qu (ih:∀{e:Oi}{d:E},cE n Γ e=ba d->GE X e (aI M d)):∀{vs:Ny Oi}{r:E},cB (cE n Γ) c vs=ba r->GE X (.BoolOp c vs pos) (aI M r)
 |[],r,h=>by cases h
 |[a],r,h=>HE (ih h)
 |a::b::cf,r,h=>by
  simp only[cB]at h;split at h
  next i j f g=>
   cases h;cases c with
   |And=>show HF (ih f) (qu ih g)
   |Or=>show Kl (ih f) (qu ih g)
  ·cases h
def qw (ih:∀{e:Oi}{d:E},cE n Γ e=ba d->GT X e (dA M d)):∀{vs:Ny Oi}{r:E},cB (cE n Γ) c vs=ba r->GW X (.BoolOp c vs pos) (dA M r)
 |[],r,h=>by cases h
 |[a],r,h=>by
  cases c with
  |And=>show D5 (ih h)
  |Or=>show HB (ih h)
 |a::b::cf,r,h=>by
  simp only[cB]at h;split at h
  next i j f g=>
   cases h;cases c with
   |And=>show HC (ih f) (qw ih g)
   |Or=>show Kk (ih f) (qw ih g)
  ·cases h
def A6 (ih:∀{e:Oi}{a:E},cE n Γ e=ba a->GE X e (aI M a)){p:Ep}(h:cP (cE n Γ) o=ba p):GO X o (wM M p):=by
 cases o with
 |none=>cases h;show Ea
 |some e=>
  (dsimp only[cP]at h;simp only[NB]at h)
  obtain⟨a,b,rfl⟩:=h;show Eb (ih b)
def u4 (K:CtxOk M X Γ)(ih:∀{e:Oi}{m:E},cE n Γ e=ba m->GE X e (aI M m))(h:cI Γ (cE n Γ) tg e=ba i):GI X tg e (jR M i):=by
 have c:(cE n Γ e).map Ie.seq=ba i->GI X tg e (jR M i):=λh=>by
  rw[NB]at h;obtain⟨m,g,rfl⟩:=h;show Ez (ih g)
 cases e with
 |Call fn args o q=>
  cases o with
  |cons _ _=>cases fn<;>first|show c h|(rcases args with _|⟨_,_|⟨_,_|_⟩⟩<;>show c h)
  |nil=>
   cases fn with
   |Name x p=>
    rcases args with _|⟨a,_|⟨b,_|_⟩⟩
    ·show c h
    ·replace h:(if x==("range": Oc)&&ik Γ x&&Γ.blt.contains x then(cA (cE n Γ) [a]).map .rng else if x==("enumerate": Oc)&&ik Γ x&&Γ.blt.contains x&&isTup tg then(cA (cE n Γ) [a]).map .enu else(cE n Γ (.Call (.Name x p) [a] [] q)).map .seq)=ba i:=h
     split at h
     next hc=>rw[NM,NM]at hc;obtain⟨⟨g,j⟩,k⟩:=hc;have l:=eq_of_beq g;subst l;rw[NB]at h;obtain⟨r,f,rfl⟩:=h;have d:=cv f;rw[OV,NM]at d;show Et (jc K j).1 (K.blt _ (by simpa using k)) (du ih f) (aD d.1)
     ·split at h
      ·rename_i hc;rw[NM,NM,NM]at hc;obtain⟨⟨⟨g,j⟩,k⟩,t⟩:=hc;have l:=eq_of_beq g;subst l;rw[NB]at h;obtain⟨r,f,rfl⟩:=h;have d:=cv f;rw[OV,NM]at d;cases tg with
       |Tuple s u v=>show EJ (jc K j).1 (K.blt _ (by simpa using k)) (du ih f) (aD d.1)
       |_=>cases t
      ·show c h
    ·replace h:(if x==("range": Oc)&&ik Γ x&&Γ.blt.contains x then(cA (cE n Γ) [a,b]).map .rng2 else(cE n Γ (.Call (.Name x p) [a,b] [] q)).map .seq)=ba i:=h
     split at h
     next hc=>rw[NM,NM]at hc;obtain⟨⟨g,j⟩,k⟩:=hc;have l:=eq_of_beq g;subst l;rw[NB]at h;obtain⟨r,f,rfl⟩:=h;have d:=cv f;rw[OV,OV,NM,NM]at d;show Eu (jc K j).1 (K.blt _ (by simpa using k)) (du ih f) (by rw[aD d.1,aD d.2.1];rfl) (aD d.2.1)
     ·show c h
    ·show c h
   |_=>show c h
 |_=>show c h
def qx (K:CtxOk M X Γ)(h:dq Γ x=ba i):X.N[i]?=ba x/\Db X.env.scope x/\(X.fn x=true\/X.env.scope.names.lookup x=ba .local):=by
 unfold dq at h;split at h
 next hc=>
  show#[by rw[K.N];show dH h,?_]
  unfold L2.Db;rw[K.names];rw[PP,NM]at hc;rcases hc with hc|⟨hd,hc⟩
  ·have:=eq_of_beq hc;show#[.inl this,.inr this]
  ·show#[.inr (eq_of_beq hc),.inl (K.dfn hd x)]
 ·cases h
def sB (K:CtxOk M X Γ):∀{ts:Ny Oi}{is:Ny NF},Ij Γ ts=ba is->(∀x∈ts,∃y p,x=UN y p)/\TC (λ t i=>∃x p,t=UN x p/\X.N[i]?=ba x/\Db X.env.scope x/\(X.fn x=true\/X.env.scope.names.lookup x=ba .local)) ts is
 |[],is,h=>by cases h;show#[λx f=>by simp at f,.nil]
 |t::ts,is,h=>by
  cases t with
  |Name x p=>
   dsimp only[Ij]at h;split at h
   next i j c d=>cases h;obtain⟨a,b⟩:=sB K d;show#[λy g=>(Of.mp g).elim (λe=>#[x,p,e]) (a y),.cons #[x,p,rfl,qx K c] b]
   ·cases h
  |_=>cases h
def iI :∀{ts:Ny Oi},(∀x∈ts,∃y p,x=UN y p)->(assignEach ts env).length=↥ts/\(assignEach ts env).findIdx? (·.1)=dx
 |[],_=>#[rfl,rfl]
 |t::ts,h=>by
  obtain⟨y,p,rfl⟩:=h t Py;obtain⟨a,b⟩:=iI  λx c=>h x (O1 _ c)
  show#[by show(assignEach ts env).length+1=↥ts+1;rw[a],?_]
  change List.findIdx? _ ((false,assign _ env)::assignEach ts env)=dx;rw[List.findIdx?_cons,b];rfl
def wX (K:CtxOk M X Γ)(h:cT Γ tg=ba t):GG X tg (mI t):=by
 have e:X.N.Nodup:=by rw[K.N];show K.nd
 cases tg with
 |Name x p=>
  dsimp only[cT]at h;simp only[NB]at h
  obtain⟨i,d,rfl⟩:=h;obtain⟨a,b,c⟩:=qx K d;show wy e a b c
 |Tuple ts k p=>
  dsimp only[cT]at h;simp only[NB]at h
  obtain⟨is,d,rfl⟩:=h;obtain⟨a,b⟩:=sB K d;show HP K.calm a b e (iI a).1 (iI a).2
 |_=>cases h
abbrev eY (env:VI):Ny (Oc×PU)->Ny (Oc×NR)->Ny (Oc×NR)
 |[],a=>a
 |(n,k)::r,a=>eY env r (if k==.free then(n,(env.cells.lookup n).getD 0)::a else a)
def jU :∀ names d,(∀y∈names,y.2=.free->(env.cells.lookup y.1).isSome=true)->
  (forIn names d λx r=>match x with|(name,kind)=>if (kind==RL)=true then do let a <- cellOf env name;pure (PQ ((name,a)::r))else pure (PQ r):WW (Ny (Oc×NR)))=pure (eY env names d)
 |[],d,_=>by rfl
 |(n,k)::r,d,h=>by
  rw[RO];have e:=λy g=>h y (O1 _ g)
  by_cases hk:(k==RL)=true
  ·obtain⟨c,hc⟩:=O3.mp (h _ Py (eq_of_beq hk));have f:cellOf env n=pure c:=by unfold cellOf;rw[hc]
   revert hk Vq f pure_bind;rw[jU r _ e];revert eY hk Vq hc Qc
  ·have b:(k==RL)=false:=by simpa using hk
   revert b Ra Tq pure_bind;rw[jU r _ e];revert eY b Ra Tq
def lb (h:∀y∈scope.names,y.2=.free->(env.cells.lookup y.1).isSome=true):closureFor scope env=pure (eY env scope.names []):=by
 have:=jU _ [] h;delta closureFor;revert this pure_bind
def mL :∀ names a,(∀y∈names,y.2=.free->(env.cells.lookup y.1).isSome=true)->(∀x c,a.lookup x=ba c->env.cells.lookup x=ba c)->
  ∀x c,(eY env names a).lookup x=ba c->env.cells.lookup x=ba c
 |[],a,_,h,x,c,e=>h x c e
 |(n,k)::r,a,b,h,x,c,e=>by
  show mL r _ (λy f=>b y (O1 _ f)) (λx c e=>?_) x c e
  split at e
  next hk=>
   rw[PY]at e;split at e
   next d=>cases e;have:=eq_of_beq d;subst this;obtain⟨c,hc⟩:=O3.mp (b _ Py (eq_of_beq hk));rw[hc];rfl
   ·show h x c e
  ·show h x c e
def kE :∀ names a,(∃c,a.lookup x=ba c)->∃c,(eY env names a).lookup x=ba c
 |[],a,h=>h
 |(n,k)::r,a,h=>by
  show kE r _ ?_;split
  ·rw[PY];split
   ·show#[_,rfl]
   ·show h
  ·show h
def mM :∀ names a,(x,RL)∈names->∃c,(eY env names a).lookup x=ba c
 |[],a,h=>by simp at h
 |(n,k)::r,a,h=>by
  rcases Of.mp h with e|h
  ·cases e;show kE r _ ?_;simp[PY]
  ·show mM r _ h
def mN :∀{l:Ny (Oc×PU)},l.lookup x=ba k->(x,k)∈l
 |[],h=>by simp at h
 |(n,j)::r,h=>by
  rw[PY]at h;split at h
  next a=>cases h;have:=eq_of_beq a;subst this;show Py
  ·show O1 _ (mN h)
def eZ (K:CtxOk M X Γ)(scope:QX):(relabel scope X.env).names=gG scope.names Γ.sc:=by
 unfold relabel gG TX;rw[K.kind,K.names];show ON λ#[n,k] _=>?_
 have e:(Vf==Vf)=true:=rfl;revert e UW
def eA :∀{names:Ny (Oc×PU)},(gG names outer).lookup x=(names.lookup x).map λk=>if (k==.free&&outer.lookup x==ba .cell)then .cell else k
 |[]=>rfl
 |(n,k)::r=>by
  have ih:=eA (outer:=outer) (x:=x) (names:=r);change List.lookup x ((if (k==RL&&outer.lookup n==ba _)=true then(n,Yg)else(n,k))::gG r _)=_
  cases a:x==n with
  |true=>
   have:=eq_of_beq a;subst this;revert PY Os OJ;split<;>simp[PY]
  |false=>
   split<;>(revert PY a;show ih)
structure ScOk (Γ:Gam)(scope:QX):Prop where
 kind:scope.kind=.function
 names:∀y∈scope.names,y.2=.local->scope.names.lookup y.1=ba .local
 nocell:∀y∈scope.names,y.2≠.cell
 free:∀y∈scope.names,y.2=.free->EK (Γ.sc.lookup y.1)=true/\scope.names.lookup y.1=ba .free/\(Γ.N.findIdx? (· == y.1)).isSome=true
 nd:(kD scope.names).Nodup
def wY (h:AU Γ scope=true):ScOk Γ scope:=by
 unfold AU at h;rw[NM,NM,NM,NM]at h;obtain⟨⟨⟨⟨b,c⟩,d⟩,f⟩,g⟩:=h;show#[eq_of_beq b,λy a e=>?_,λy a e=>?_,λy a e=>?_,OC g]
 ·have:=N6.mp c y a;rw[e]at this
  simpa using this
 ·have:=N6.mp d y a;rw[e]at this;simp at this
 ·have:=N6.mp f y a;rw[e]at this;simp only[Os,Bool.not_true,Sh,NM]at this;show#[this.1.1,eq_of_beq this.1.2,this.2]
def w8 (h:EK o=true):o=ba .cell\/o=ba .free:=by
 unfold EK at h;split at h
 ·show .inl rfl
 ·show .inr rfl
 ·cases h
def oZ (K:CtxOk M X Γ)(ok:X.Ok)(sc:ScOk Γ scope):CompOk X scope (eY X.env scope.names []) (kD scope.names) (ja Γ scope.names):=by
 have a:∀y∈scope.names,y.2=.free->(X.env.cells.lookup y.1).isSome=true:=λy r e=>by
  have hk:=w8 (sc.free y r e).1;obtain⟨c,hc⟩:=ok.has y.1 (by unfold TX;rw[K.names];show hk)
  rw[hc];rfl
 have b:∀x,((relabel _ _).names.lookup x=ba .cell\/(relabel _ _).names.lookup x=ba .free)->(x,RL)∈scope.names:=λx h=>by
  rw[eZ K,eA]at h;cases q:scope.names.lookup x with
  |none=>rw[q]at h;rcases h with h|h<;>cases h
  |some k=>
   rw[q]at h;have d:=mN q;cases k with
   |free=>show d
   |cell=>show absurd rfl (sc.nocell _ d)
   |_=>rcases h with h|h<;>simp at h
 show#[lb a,sc.kind,sc.names,sc.nocell,mL _ _ a (λx c e=>by cases e),λx h=>mM _ _ (b x h),by(delta ja;simp),λi j x hi l=>?_]
 unfold ja at hi;rw[NO,l]at hi;simp only[OJ,OI]at hi;split at hi
 ·cases hi
 next hl=>
  have g:=N1 l;obtain⟨⟨s,k⟩,p,e⟩:=NS.mp g;obtain⟨d,hk⟩:=OY.mp p;have m:s=x:=e;subst m;have f:k=.free:=by
   simp only[PP]at hk;rcases hk with hk|hk
   ·have:=eq_of_beq hk;subst this;have:=sc.names _ d rfl;rw[this]at hl;simp at hl
   ·show eq_of_beq hk
  subst f;obtain⟨n,o,t⟩:=sc.free _ d rfl;show#[by rw[K.N];show dH hi,by unfold TX;rw[K.names];show w8 n,?_]
  rw[eZ K,eA,o];revert OJ;split
  ·show .inl rfl
  ·show .inr rfl
def fB (K:CtxOk M X Γ)(sc:ScOk Γ scope)(C:NR)(s0:NH)(a:Hp)(ex:Ny NR):CtxOk M (nT X scope (eY X.env scope.names []) C (kD scope.names) s0 a ex) (mJ Γ scope) where
 names:=eZ K _
 kind:=sc.kind
 N:=rfl
 nd:=sc.nd
 calm:=K.calm
 xe:=rfl
 un:=K.un
 dfn:=λh=>by cases h
 blt:=K.blt
 fns:=K.fns
def sC {a:Ny Oi}(hl:↥a<=1)(hc:cA (cE n Γ) a=ba d)(ih:∀{e:Oi}{b:E},cE n Γ e=ba b->GT Yq e (dA M b))(l:Yq.xe=λ_ _=>Pg) :
  ∀J s Y H Q,Inv Yq J Y H s->tT Yq (Ga M d) Y H Q->
  wpAny (model Yq.prog Yq.w) Yq.A (forIn a true λc r=>if r=true then do let ok <- isTrue c Yq.env (eval c Yq.env);pure (PQ ok)else pure (PQ r)) (TP Yq J Y Q) (λ_ _=>Pg) s:=by
 intro J s Y H Q I h
 match a,hl,hc with
 |[],_,hc=>
  cases hc;obtain⟨A,Z,S,k,o,p,m,e,j⟩:=h;cases e;show wpAny_tests_nil #[H,I,j _ _ #[rfl,A,.refl,m]]
 |[c],_,hc=>
  obtain⟨b,f,g,i,rfl⟩:=jb hc;cases i;have:=ih g _ s Y H Q I h;rw[l]at this;show wpAny_tests_one this
def bZ:∀ n {Γ:Gam}{X:Cx}{e:Oi}{u:E},CtxOk M X Γ->cE n Γ e=ba u->GE X e (aI M u)/\GT X e (dA M u):=by
 intro n
 induction n with
 |zero=>intro Γ X e u K h;cases h
 |succ n ih=>
  intro Γ X e u K h;have j:∀{e:Oi}{u:E},cE n Γ e=ba u->GE X e (aI M u):=λq=>(ih K q).1
  have P:∀{e:Oi}{u:E},cE n Γ e=ba u->GT X e (dA M u):=λq=>(ih K q).2
  have N:X.A.units+10<cLine:=by have:=K.un;have:iC=20:=rfl;omega
  cases e with
  |Constant c k p=>
   cases c<;>cases h
   all_goals first
    |show#[ql zp (λ_ _=>.non),ci (ql zp (λ_ _=>.non)) λ_=>rfl]
    |show#[ql FX (λ_ _=>.bl),ci (ql FX (λ_ _=>.bl)) λ_=>rfl]
    |show#[ql uc (λ_ _=>.int),ci (ql uc (λ_ _=>.int)) λ_=>rfl]
    |show#[ql zq (λ_ _=>.str),ci (ql zq (λ_ _=>.str)) λ_=>rfl]
  |Name x p=>
   replace h:(match slot Γ x with|some i=>ba (E.v i)|none=>dx)=ba u:=h
   split at h
   next i l=>cases h;show#[AX K l,ci (AX K l) λ_=>rfl]
   ·cases h
  |BinOp a L b p=>
   replace h:(match wQ L,cE n Γ a,cE n Γ b with|some o,ba y,ba D=>ba (E.op o y D)|_,_,_=>dx)=ba u:=h
   split at h
   next o y D l B A=>cases h;have e:=AY l;subst e;show#[F2 (vW o) (j B) (j A),ci (F2 (vW o) (j B) (j A)) λ_=>rfl]
   ·cases h
  |UnaryOp L a p=>
   cases L with
   |Not=>
    replace h:(cE n Γ a).map E.not=ba u:=h;rw[NB]at h;obtain⟨y,l,rfl⟩:=h;show#[HG (j l),HD (P l)]
   |USub=>
    replace h:(cE n Γ a).map E.neg=ba u:=h;rw[NB]at h;obtain⟨y,l,rfl⟩:=h;show#[uK (j l),ci (uK (j l)) λ_=>rfl]
   |_=>show ak h
  |BoolOp L vs p=>
   replace h:cB (cE n Γ) L vs=ba u:=h;show#[qu j h,(qw P h).pt]
  |Compare a ops Z p=>
   match ops,Z,h with
   |[L],[b],h=>
    replace h:(match kC L,cE n Γ a,cE n Γ b with|some o,ba y,ba D=>ba (E.cmp o y D)|_,_,_=>dx)=ba u:=h
    split at h
    next o y D l B A=>cases h;have e:=mK l;subst e;show#[Hz K.un (j B) (j A) (jd A),HA K.un (j B) (j A) (jd A)]
    ·cases h
   |[],_,h=>show ak h
   |[_],[],h=>show ak h
   |[_],_::_::_,h=>show ak h
   |[L,op'],[b,d],h=>
    replace h:(match kC L,kC op',cE n Γ a,cE n Γ b,cE n Γ d with|some o,ba W,ba y,ba D,ba d'=>ba (E.chn o W y D d')|_,_,_,_,_=>dx)=ba u:=h
    split at h
    next o W y D d' l B A h4 h5=>cases h;have e:=mK l;subst e;have e:=mK B;subst e;show#[Am K.un (j A) (j h4) (j h5) (jd h5),An K.un (j A) (j h4) (j h5) (jd h5)]
    ·cases h
   |[_,_],[],h=>show ak h
   |[_,_],[_],h=>show ak h
   |[_,_],_::_::_::_,h=>show ak h
   |_::_::_::_,_,h=>show ak h
  |IfExp t a b p=>
   replace h:(match cE n Γ t,cE n Γ a,cE n Γ b with|some t',ba y,ba D=>ba (E.ite t' y D)|_,_,_=>dx)=ba u:=h
   split at h
   next t' y D l B A=>cases h;show#[HH (P l) (j B) (j A),lD]
   ·cases h
  |Call f args kws p=>
   cases kws with
   |cons _ _=>cases f<;>first|(show ak h)|(cases args<;>(show ak h))
   |nil=>
    cases f with
    |Name x q=>
     replace h:(if ik Γ x then match Γ.fns.lookup x with|some k=>(cA (cE n Γ) args).map (E.own x k)|none=>if x==("isinstance": Oc)then(if Γ.blt.contains x then Ii Γ (cE n Γ) args else dx)else match (generalizing:=false) AS x,args with|some b,a::as=>if Γ.blt.contains x then(match (generalizing:=false) cA (cE n Γ) (a::as)with|some es=>ba (E.bi b es)|none=>MF (cE n Γ) Γ b as a)else dx|_,_=>dx else dx)=ba u:=h
     split at h
     ·rename_i hg;split at h
      next k hk=>rw[NB]at h;obtain⟨r,O,rfl⟩:=h;have g:=Kz (pos:=p) (p:=q) K hg hk O (du j O);show#[g,ci g λ_=>rfl]
      ·split at h
       ·rename_i his;split at h
        next hc=>obtain⟨g,y,c',rfl⟩:=KA (pos:=p) (p:=q) K hg his hc j h;show#[g,ci g λ_=>rfl]
        ·cases h
       ·split at h
        ·rename_i bb a as hb;split at h
         ·rename_i hc;split at h
          next r O=>cases h;have g:=MG (pos:=p) (p:=q) K hg hb hc O (du j O);show#[g,ci g λ_=>rfl]
          ·obtain⟨D,es,rfl,g⟩:=MJ (pos:=p) (p:=q) K hg hb hc j h;show#[g,ci g λ_=>rfl]
         ·cases h
        ·cases h
     ·cases h
    |Attribute o m q=>
     cases args with
     |nil=>show ak h
     |cons a as=>
      replace h:(match EM m,cE n Γ o,cA (cE n Γ) (a::as)with|some m',ba W,ba es=>if d0 o&&(q.endLine==p.line)&&decide ((a::as).length<29)then ba (E.me m' W es)else dx|_,_,_=>dx)=ba u:=h
      split at h
      ·rename_i m' W es l B A;split at h
       next hc=>rw[NM,NM,Og]at hc;cases h;have g:=MH K (cpos:=p) (apos:=q) l hc.1.1 hc.1.2 hc.2 (j B) A (du j A);show#[g,ci g λ_=>rfl]
       ·cases h
      ·cases h
    |_=>show ak h
  |Subscript a b p=>
   have G:(match cE n Γ a,cE n Γ b with|some y,ba D=>ba (E.ix y D)|_,_=>dx)=ba u->GE X (.Subscript a b p) (aI M u)/\GT X (.Subscript a b p) (dA M u):=λh=>by
    split at h
    next y D l B=>cases h;have g:=Kn (pos:=p) N (j l) (j B) (uZ B);show#[g,ci g λ_=>rfl]
    ·cases h
   cases b with
   |Slice lo hi st q=>
    cases st with
    |none=>
     replace h:(match cE n Γ a,cP (cE n Γ) lo,cP (cE n Γ) hi with|some y,ba V,ba T=>ba (E.sl y V T)|_,_,_=>dx)=ba u:=h
     split at h
     next y V T l B A=>cases h;have g:=Ko (pos:=p) (p2:=q) (j l) (A6 j B) (A6 j A);show#[g,ci g λ_=>rfl]
     ·cases h
    |some z=>
     match lo,hi,h with
     |none,dx,h=>
      replace h:(if yu z then(cE n Γ a).map λy=>E.bi .rev #v[y]else dx)=ba u:=h
      split at h
      next hz=>rw[NB]at h;obtain⟨y,l,rfl⟩:=h;have g:=HV (pos:=p) (p2:=q) (j l) hz;show#[g,ci g λ_=>rfl]
      ·cases h
     |some _,_,h=>show G h
     |none,ba _,h=>show G h
   |_=>show G h
  |Tuple es k p=>
   replace h:(cA (cE n Γ) es).map E.tup=ba u:=h;rw[NB]at h;obtain⟨r,l,rfl⟩:=h;show#[As (du j l),ci (As (du j l)) λ_=>rfl]
  |List es p=>
   replace h:(cA (cE n Γ) es).map E.lst=ba u:=h;rw[NB]at h;obtain⟨r,l,rfl⟩:=h;show#[At (du j l),ci (At (du j l)) λ_=>rfl]
  |Dict keys w p=>
   replace h:AV (cE n Γ) keys w=ba u:=h;unfold AV at h;split at h
   next hc=>cases h;rw[NM]at hc;have k0:keys=[]:=VY.mp hc.1;have v0:w=[]:=VY.mp hc.2;subst k0 v0;show#[Ex,lD]
   next hc0=>
    split at h
    ·rename_i hc;rw[NM,NM,Og,Og]at hc;rw[NB]at h;obtain⟨r,O,rfl⟩:=h;have h0:keys≠[]:=λz=>by
      subst z;have v0:w=[]:=QT.mp hc.1.2.symm;subst v0;show hc0 rfl
     show#[Ey (pos:=p) N (wW j keys w hc.1.1 hc.1.2 O) hc.1.1 hc.1.2 h0 hc.2,lD]
    ·cases h
  |ListComp elt gens scope p=>
   match gens,h with
   |[#[tg,iter,U,S]],h=>
    replace h:(if (S==0)&&(AU Γ scope&&decide (↥U<=1))then match cI Γ (cE n Γ) tg iter,cT (mJ Γ scope) tg,cA (cE n (mJ Γ scope)) U,cE n (mJ Γ scope) elt with|some it,ba t,ba Z,ba el=>ba (E.comp el t it Z (ja Γ scope.names))|_,_,_,_=>dx else dx)=ba u:=h
    split at h
    ·rename_i hc;rw[NM,NM,Og]at hc;have e0:S=0:=eq_of_beq hc.1;subst e0;replace hc:=hc.2;split at h
     ·rename_i it t Z el l B A h4;cases h;have sc:=wY hc.1;show#[EA K.calm (u4 K j l) (λok=>#[_,oZ K ok sc,?_]) (qt (n:=n) (λel k p=>by cases n<;>rfl) l),lD]
      show#[λC s0 R ex=>wX (fB K sc C s0 R ex) B,λC s0 R ex J s Y H Q I q=>?_,λC s0 R ex=>(ih (fB K sc C s0 R ex) h4).1]
      show sC hc.2 A (λz=>(ih (fB K sc C s0 R ex) z).2) rfl J s Y H Q I q
     ·cases h
    ·cases h
   |[],h=>show ak h
   |#[_,_,_,_]::_::_,h=>show ak h
  |_=>show ak h
noncomputable abbrev b6:NF:=30
abbrev Gc:Oi->Oh
 |.Constant (.str _) _ _=>true
 |_=>false
abbrev jV:Oi->Oh
 |.ListComp _ _ _ _=>true
 |_=>false
abbrev w9:Oi->Oh
 |.Slice _ _ _ _=>true
 |_=>false
abbrev xf (f:QG->NJ Sm)(ss:Ny QG):NJ Ss:=ss.foldr (λs a=>match f s,a with|some s',ba b=>ba (.cons s' b)|_,_=>dx) (ba .nil)
abbrev KC (Γ:Gam):Ny Oi->Oi->NJ Sm
 |[.Name x c,.Name y py],.Tuple [a,b] _ _=>match Γ.N.findIdx? (· == x),Γ.N.findIdx? (· == y),cA (cE b6 Γ) [a,b]with
  |some i,ba j,ba es=>if !(i==j)&&(Γ.sc.lookup x==ba .local)&&(Γ.sc.lookup y==ba .local)&&(py.line==c.line) && !([a,b].all (foldedForSure 8)) && !([a,b].all (constantsAlone 8))then ba (.par i j es)else dx
  |_,_,_=>dx
 |_,_=>dx
abbrev cS:NF->Gam->QG->NJ Sm
 |0,_,_=>dx
 |n+1,Γ,st=>match st with
  |.Assign [.Name x _] e _=>match dq Γ x,cE b6 Γ e with
   |some i,ba d=>ba (.set i d)
   |_,_=>dx
  |.Assign [.Tuple ts _ _] e _=>if isTup e then KC Γ ts e else if jV e then dx else match Ij Γ ts,cE b6 Γ e with
   |some is,ba d=>ba (.asg is d)
   |_,_=>dx
  |.Assign [.Subscript o k _] e _=>if w9 k then dx else match cE b6 Γ o,cE b6 Γ k,cE b6 Γ e with
   |some h,ba g,ba d=>ba (.put h g d)
   |_,_,_=>dx
  |.Expr e _=>if Gc e then ba .pass else if jV e then dx else(cE b6 Γ e).map .ex
  |.Return (ba e) _=>(cE b6 Γ e).map .ret
  |.Pass _=>ba .pass
  |.Raise _ _ _=>ba .bad
  |.If t a b _=>match cE b6 Γ t,xf (cS n Γ) a,xf (cS n Γ) b with
   |some t',ba f,ba c=>ba (.ite t' f c)
   |_,_,_=>dx
  |.While t b [] _=>match cE b6 Γ t,xf (cS n Γ) b with
   |some t',ba c=>ba (.whl t' c)
   |_,_=>dx
  |.For tg it b [] _=>match cT Γ tg,cI Γ (cE b6 Γ) tg it,xf (cS n Γ) b with
   |some t,ba i,ba c=>ba (.loop t i c)
   |_,_,_=>dx
  |_=>dx
variable{fuel:NF}
def A7 {s:QG}(h:xf f (s::ss)=ba r):∃s' a,f s=ba s'/\xf f ss=ba a/\r=.cons s' a:=by
 (dsimp only[xf]at h;simp only[Wf]at h)
 split at h
 next c b d e=>cases h;show#[c,b,d,e,rfl]
 ·cases h
def gW (ih:∀{st:QG}{s':Sm},cS n Γ st=ba s'->GS X st (gU M fuel s')):∀{ss:Ny QG}{r:Ss},xf (cS n Γ) ss=ba r->GSs X ss (gc M fuel r)
 |[],r,h=>by cases h;show Ed
 |s::ss,r,h=>by
  obtain⟨s',c,a,b,rfl⟩:=A7 h;show Au (ih a) (gW ih b)
def mO (h:jV e=false)(n:NF){a:E}(hc:cE n Γ e=ba a):swapsWith e t l env=pure false:=by
 cases n with
 |zero=>cases hc
 |succ n=>cases e<;>first|(exfalso;show ak hc)|rfl|cases h
def u5 (K:CtxOk M X Γ){p:Qr}(h:cE (n+1) Γ (.ListComp b gens scope p)=ba j) :
  ∃tg iter a o g c f e,gens=[#[tg,iter,a,0]]/\aI M j=mG o g c f e/\GI X tg iter o/\(X.Ok->∃l,CompOk X scope l (kD scope.names) e/\BlockOk X scope l (kD scope.names) tg b a g c f)/\∀x,foldedSetIterable iter X.env x=pure x:=by
 match gens,h with
 |[#[tg,iter,a,i]],h=>
  replace h:(if (i==0)&&(AU Γ _&&decide _)then match cI Γ _ tg _,cT _ tg,cA _ a,cE n _ b with|some it,ba t,ba u,ba m=>ba _|_,_,_,_=>dx else dx)=ba j:=h
  split at h
  next hc=>
   rw[NM,NM,Og]at hc;have v:=eq_of_beq hc.1;subst v;replace hc:=hc.2;split at h
   next it t u m r w y A=>
    cases h;have sc:=wY hc.1;show#[tg,iter,a,_,_,_,_,_,rfl,rfl,u4 K (λz=>(bZ n K z).1) r,λok=>#[_,oZ K ok sc,?_],qt (n:=n) (λm k p=>by cases n<;>rfl) r]
    show#[λC s0 d ex=>wX (fB K sc C s0 d ex) w,λC s0 d ex J s Y H Q I q=>?_,λC s0 d ex=>(bZ n (fB K sc C s0 d ex) A).1]
    show sC hc.2 y (λz=>(bZ n (fB K sc C s0 d ex) z).2) rfl _ s Y H Q I q
   ·cases h
  ·cases h
 |[],h=>show ak h
 |#[_,_,_,_]::_::_,h=>show ak h
def KD (K:CtxOk M X Γ)(hi:dq Γ x=ba i)(r:cE b6 Γ e=ba m):GS X (.Assign [.Name x j] e pos) (mB (aI M m) (F3 i)):=by
 obtain⟨a,b,c⟩:=qx K hi;have t:X.N.Nodup:=by rw[K.N];show K.nd
 have d:swapsWith e (ba (.Name x j)) pos.line X.env=pure false->GS X (.Assign [.Name x j] e pos) (mB (aI M m) (F3 i)):=λs=>uL (bZ _ K r).1 (wy t a b c) s (by cases e<;>rfl) rfl
 cases hc:jV e with
 |false=>show d (mO hc _ r)
 |true=>
  cases e with
  |ListComp o gens scope p=>
   cases h:(X.env.blockKind==.function&&X.env.kindOf x==ba .local&&j.line==p.line && !(scope.names.any λ(n,k)=>n==x&&(k==.local||k==.cell)))with
   |false=>
    show d ?_;show(pure (X.env.blockKind==.function&&X.env.kindOf x==ba .local&&j.line==p.line && !(scope.names.any λ(n,k)=>n==x&&(k==.local||k==.cell))):WW Oh)=pure false
    rw[h]
   |true=>
    have l:swapsWith (.ListComp o gens scope p) (ba (.Name x j)) pos.line X.env=pure true:=by
     show(pure (X.env.blockKind==.function&&X.env.kindOf x==ba .local&&j.line==p.line && !(scope.names.any λ(n,k)=>n==x&&(k==.local||k==.cell))):WW Oh)=pure true
     rw[h]
    rw[NM,NM,NM]at h;have hl:X.env.scope.names.lookup x=ba .local:=eq_of_beq h.1.1.2;obtain⟨tg,iter,y,A,g,z,f,u,rfl,v,w,q,s⟩:=u5 K r;rw[v];show uT K.calm w q s l t a hl
  |_=>cases hc
def sD (K:CtxOk M X Γ){ s:NF}{a :Oi}(m:x≠y)(q:Γ.sc.lookup x=ba .local)(r:Γ.sc.lookup y=ba .local)(hl:(py.line==o.line)=true)(h:[a,b].all (foldedForSure 8)=false)(i:[a,b].all (constantsAlone 8)=false)(p:iH a=true)(l:iH b=true) :
  swappedStores [.Tuple [.Name x o,.Name y py] t pt] (.Tuple [a,b] s n) X.env=pure (ba [x,y]):=by
 have kx:(X.env.kindOf x==ba .local)=true:=by unfold TX;rw[K.names,q];rfl
 have u:(X.env.kindOf y==ba .local)=true:=by unfold TX;rw[K.names,r];rfl
 have bk:(X.env.blockKind != .function)=false:=by
  unfold Env.blockKind;rw[K.kind];rfl
 have e:=eq_of_beq kx;have f:=eq_of_beq u;have k:=eq_of_beq hl;have g:X.env.blockKind=.function:=by simpa using bk
 have v:(y==x)=false:=by simpa using Ne.symm m
 have c:(foldedForSure 8 a&&foldedForSure 8 b)=false:=by simpa using h
 have d:(constantsAlone 8 a&&constantsAlone 8 b)=false:=by simpa using i
 unfold swappedStores;dsimp only;simp -iota only[PC,List.any_nil,WK,QQ,List.filterMap_nil,e,f,g,List.head?_cons,OJ,Qc,On,OV,List.all_nil,UW,c,d];show Eq.trans (Ot ?_) (Eq.trans (Ot ?_) ?_)
 ·decide
 ·rw[PP];rintro(j|j)
  ·clear h i c d;cases a<;>first|(cases j;done)|(cases p;done)
  ·clear h i c d;cases b<;>first|(cases j;done)|(cases l;done)
 ·delta Expr.pos;simp[e,f,k,v,List.eraseDups_cons]
def EN (fuel:NF)(K:CtxOk M X Γ):∀ n {st:QG}{s':Sm},cS n Γ st=ba s'->GS X st (gU M fuel s'):=by
 have hN:X.N.Nodup:=by rw[K.N];show K.nd
 have own:UL (model X.prog X.w) X.A X.env X.xe:=by rw[K.xe];show X5
 intro n
 induction n with
 |zero=>intro st s' h;cases h
 |succ n ih=>
  intro st s' h;cases st with
  |Expr e p=>
   replace h:(if Gc e then ba Sm.pass else if jV e then dx else(cE b6 Γ e).map Sm.ex)=ba s':=h
   split at h
   next hd=>
    cases h;cases e with
    |Constant c k q=>
     cases c with
     |str x=>show HM
     |_=>cases hd
    |_=>cases hd
   ·split at h
    ·cases h
    next hd hc=>rw[NB]at h;obtain⟨m,d,rfl⟩:=h;show Kq (bZ _ K d).1 (mO (by simpa using hc) _ d)
  |Return o p=>
   cases o with
   |none=>cases h
   |some e=>
    replace h:(cE b6 Γ e).map Sm.ret=ba s':=h;rw[NB]at h;obtain⟨m,d,rfl⟩:=h;show HN (bZ _ K d).1
  |Pass p=>cases h;show Eg
  |Raise exc C pos=>cases h;show λJ s D Y H I #[A,Z,S,o,S',er,so,e,hq]=>nomatch e
  |If t a b p=>
   replace h:(match cE b6 Γ t,xf (cS n Γ) a,xf (cS n Γ) b with|some t',ba R,ba r=>ba (Sm.ite t' R r)|_,_,_=>dx)=ba s':=h
   split at h
   next t' R r d f u=>cases h;show Kr (bZ _ K d).2 (gW ih f) (gW ih u)
   ·cases h
  |While t b o p=>
   cases o with
   |cons _ _=>show ak h
   |nil=>
    replace h:(match cE b6 Γ t,xf (cS n Γ) b with|some t',ba r=>ba (Sm.whl t' r)|_,_=>dx)=ba s':=h
    split at h
    next t' r d f=>cases h;show Aw fuel own (bZ _ K d).2 (gW ih f)
    ·cases h
  |For tg it b o p=>
   cases o with
   |cons _ _=>show ak h
   |nil=>
    replace h:(match cT Γ tg,cI Γ (cE b6 Γ) tg it,xf (cS n Γ) b with|some t,ba i,ba r=>ba (Sm.loop t i r)|_,_,_=>dx)=ba s':=h
    split at h
    next t i r d f u=>cases h;show HX own K.calm (u4 K (λz=>(bZ _ K z).1) f) (wX K d) (gW ih u) (qt (n:=b6) (λel k p=>rfl) f)
    ·cases h
  |Assign ts e p=>
   match ts,h with
   |[],h=>show ak h
   |a::_::_,h=>cases a<;>show ak h
   |[t],h=>
    cases t with
    |Name x B=>
     replace h:(match dq Γ x,cE b6 Γ e with|some i,ba m=>ba (Sm.set i m)|_,_=>dx)=ba s':=h
     split at h
     next i m d f=>cases h;show KD K d f
     ·cases h
    |Subscript o k q=>
     replace h:(if w9 k then dx else match cE b6 Γ o,cE b6 Γ k,cE b6 Γ e with|some W,ba V,ba m=>ba (Sm.put W V m)|_,_,_=>dx)=ba s':=h
     split at h
     ·cases h
     ·rename_i hc;split at h
      ·rename_i W V m d f u;cases h;show uL (bZ _ K u).1 (HQ (by have:=K.un;have:iC=20:=rfl;omega) (bZ _ K d).1 (bZ _ K f).1 ?_) (by cases e<;>rfl) (by cases e<;>rfl) rfl
       intro v;cases k<;>first|rfl|show absurd rfl hc
      ·cases h
    |Tuple g k q=>
     have P:∀{x y:Oc}{B py:Qr}{a b:PySem.Expr}{N:NF}{q2:Qr},(match Γ.N.findIdx? (· == x),Γ.N.findIdx? (· == y),cA (cE b6 Γ) [a,b]with
       |some i,ba j,ba es=>if !(i==j)&&(Γ.sc.lookup x==ba .local)&&(Γ.sc.lookup y==ba .local)&&(py.line==B.line) && !([a,b].all (foldedForSure 8)) && !([a,b].all (constantsAlone 8))then ba (Sm.par i j es)else dx
       |_,_,_=>dx)=ba s'->GS X (.Assign [.Tuple [.Name x B,.Name y py] k q] (.Tuple [a,b] N q2) p) (gU M fuel s'):=λ{x y B py a b N q2} h=>by
      split at h
      ·rename_i i j es d f u;split at h
       ·rename_i hc;cases h;rw[NM,NM,NM,NM,NM]at hc;obtain⟨⟨⟨⟨⟨c1,T⟩,U⟩,c4⟩,c5⟩,c6⟩:=hc;have w:i≠j:=by simpa using c1
        have O:=cv u;rw[OV,OV,NM,NM]at O;have hi:X.N[i]?=ba x:=by rw[K.N];show dH d
        have hj:X.N[j]?=ba y:=by rw[K.N];show dH f
        show HR K.calm hN hi hj w (by rw[K.names];show eq_of_beq T) (by rw[K.names];show eq_of_beq U) (du (λz=>(bZ _ K z).1) u) (sD K ?_ (eq_of_beq T) (eq_of_beq U) c4 (by rw[<- QJ];show c5) (by rw[<- QJ];show c6) O.1 O.2.1) rfl
        rintro rfl;rw[d]at f;cases f;show w rfl
       ·cases h
      ·cases h
     replace h:(if isTup e then KC Γ g e else if jV e then dx else match Ij Γ g,cE b6 Γ e with|some is,ba m=>ba (Sm.asg is m)|_,_=>dx)=ba s':=h
     split at h
     ·rcases g with _|⟨Q,_|⟨t2,_|_⟩⟩
      ·show ak h
      ·cases Q<;>show ak h
      ·cases Q with
       |Name x B=>cases t2 with
        |Name y py=>cases e with
         |Tuple E N pt2=>
          rcases E with _|⟨a,_|⟨b,_|_⟩⟩
          ·show ak h
          ·show ak h
          ·show P h
          ·show ak h
         |_=>show ak h
        |_=>show ak h
       |_=>show ak h
      ·cases Q<;>first|show ak h|(cases t2<;>show ak h)
     ·split at h
      ·cases h
      ·rename_i G L;split at h
       ·rename_i is m d f;cases h;show uL (bZ _ K f).1 (wX (tg:=.Tuple g k q) (t:=.tp is) K (show(Ij Γ g).map Tg.tp=ba (.tp is) by rw[d];rfl)) (mO (t:=ba (.Tuple g k q)) (l:=p.line) (env:=X.env) (by simpa using L) _ f) ?_ rfl
        cases e<;>first|rfl|show absurd rfl G
       ·cases h
    |_=>show ak h
  |_=>show ak h
structure Df where
 ps:Ny Oc
 N:Ny Oc
 body:Ss
abbrev fe (N:Ny Oc)(ws:Ny W):Fm:=ws.map ba++OB (↥N-↥ws) dx
abbrev aq (defs:Ny (Oc×Df))(fuel:NF):NF->Oc->FF
 |0,_,_,_=>dx
 |d+1,f,ws,S=>match defs.lookup f with
  |some df=>if ↥ws=↥df.ps then match gc (aq defs fuel d) fuel df.body (fe df.N ws) S with
    |some (.rt w,a)=>ba (w,a)
    |some (.nx _,a)=>ba (.non,a)
    |_=>dx
   else dx
  |none=>dx
structure Md where
 fns:Ny (Oc×NF)
 blt:Ny Oc
abbrev Ba (a:Md)(st:QG)(N:Ny Oc):Gam:={sc:=(aQ st).names,N:=N,fns:=a.fns,blt:=a.blt,dfn:=true}
abbrev KF (a:Md)(st:QG)(df:Df):Prop:=xf (cS 20 (Ba a st df.N)) (cu st)=ba df.body
def o4 {K:NY}{A:Ny NR}(r:RelL K A H ws vs):EnvRel K A H (fe N ws) (start N vs):=by
 show#[by(delta fe L2.start;simp[↥r]),λi w h=>?_]
 unfold fe at h;unfold L2.start
 by_cases hi:i<↥ws
 ·rw[Ow (by simpa using hi),NO]at h
  rw[Ow (by rw[Nz,<- ↥r];show hi),NO]
  cases q:ws[i]? with
  |none=>rw[q]at h;cases h
  |some c=>
   rw[q]at h;simp only[OJ,OI]at h;subst h;obtain⟨v,a,b⟩:=r.get q;show#[v,by rw[a];rfl,b]
 ·rw[Ox (by simpa using hi)]at h
  have:=N1 h;simp at this
variable{P:Op}{K:NY}{mg:Oc->NJ NC}{base:OM}
section
variable{w:OF}
abbrev Gd (P:Op)(w:OF)(K:NY)(mg:Oc->NJ NC)(base:OM)(a:Md)(defs:Ny (Oc×Df))(fuel d:NF):Prop:=
 ∀f n,a.fns.lookup f=ba n->∃b c ps,FnOk P w K mg base zj d b c ps (spF w K n (aq defs fuel d f))/\mg f=ba (.ref b)/\Po K (.ref b)=true/\Binds K c ps []
structure MdOk (w:OF)(K:NY)(mg:Oc->NJ NC)(Mqa:Md):Prop where
 blt:∀y∈Mqa.blt,mg y=dx
def Ge {st:QG}(F:Fun K x c st f r)(S:FnScope df.N df.ps (aQ st))(hd:defs.lookup x=ba df)(hc:KF b st df)
  (L:MdOk w K mg b) (k:Gd P w K mg base b defs fuel d):FnOk P w K mg base zj (d+1) f r df.ps (spF w K ↥df.ps (aq defs fuel (d+1) x)):=by
 show F.ok S (λvs H Q E h=>?_) (λcdv A outer s H vs Q E u h=>?_)
 ·obtain⟨A,S,ws,N,C,_,l,hl,_⟩:=h;rw[<- ↥l];show hl
 ·obtain⟨p,q,ws,N,C,y,l,hl,e,t⟩:=h;have B:CtxOk (aq defs fuel d) (uj zj P w K mg base df.N c (aQ st) f cdv A outer s H E).nox (Ba b st df.N):=by
   show#[rfl,S.kind,rfl,S.nd,rfl,rfl,?_,λ_ _=>rfl,L.blt,λg n M=>?_]
   ·have:=u.un;show(A.deeper _).units+20<cLine;omega
   ·obtain⟨D,m,o,j,G,I,J⟩:=k g n M;show#[d,D,m,o,j,u,G,I,J]
  show#[tS _ _,gW (λz=>EN fuel B 20 z) hc,?_]
  (dsimp only[aq]at e;simp only[hd]at e)
  rw[Ob hl]at e;split at e
  next R S1 j=>
   cases e;show#[p,fe _ ws,q,_,_,o4 l,y,j,#[λi a #[_,_,z,_,_,_]=>(by cases z),λv a #[w2,A2,z0,z1,z2,z3]=>?_,λi a #[_,_,z,_,_,_]=>(by cases z),λi a #[_,_,z,_,_,_]=>(by cases z)]]
   cases z0;show t v a #[A2,z1,z2,z3]
  next O S1 j=>
   cases e;show#[p,fe _ ws,q,_,_,o4 l,y,j,#[λi a #[w2,A2,z0,z1,z2,z3]=>?_,λi a #[_,_,z,_,_,_]=>(by cases z),λi a #[_,_,z,_,_,_]=>(by cases z),λi a #[_,_,z,_,_,_]=>(by cases z)]]
   show t _ a #[A2,z1,z2,.non]
  ·cases e
def yD {c:Ny NV}(g:zM H)(k:SqL K H a (c.map V.int)):StoreOk w K [a] H [.fro (c.map W.int)]/\RelL K [a] H [.ref 0] [.ref a]:=by
 have m:∀c:Ny NV,RelL K [a] H (c.map W.int) (c.map V.int):=by
  intro c
  induction c with
  |nil=>show .nil
  |cons n c ih=>show .cons .int ih
 have f:FroL K H a (c.map V.int):=by
  rcases k with(h|⟨o,h⟩)|h
  ·rcases g a with z|⟨o,xs,z⟩<;>(rw[z]at h;cases h)
  ·show .inl #[o,h]
  ·show .inr h
 show#[#[rfl,λi j b o u d l e p _ _=>?_,λi o b d e=>?_],.cons (.ref rfl) .nil]
 ·cases i with
  |zero=>simp at d;subst d;cases l
  |succ i=>simp at d
 ·cases i with
  |zero=>
   simp at d e;subst d e;show#[_,f,m c]
  |succ i=>simp at d
def Ik {c:Ny NV}(h:∃b,g [.ref 0] [.fro (c.map W.int)]=ba (.bl true,b))(d:zM H)(f:SqL K H a (c.map V.int)):spF w K 1 g [.ref a] H (λv _=>v=.bl true) λ_ _ _=>Pg:=by
 obtain⟨b,e⟩:=h;obtain⟨j,i⟩:=yD d f;show#[[a],_,_,_,b,j,i,rfl,e,λv l #[k,z1,z2,z3]=>by cases z3;rfl]
end
abbrev Wp {α:Type}(o:NJ α)(Q:α->Prop):Prop:=∃a,o=ba a/\Q a
def ar {a:α}:Wp (ba a) Q↔Q a:=#[λ#[b,e,h]=>(by cases e;show h),λh=>#[a,rfl,h]]
def aj :Wp dx Q↔Pg:=#[λ#[b,e,h]=>(by cases e),λh=>h.elim]
def Wp.mono (h:Wp o Q)(k:∀a,Q a->b a):Wp o b:=let ⟨a,e,q⟩:=h;#[a,e,k a q]
variable{Z:Fm}
noncomputable abbrev QW:=W×aa->Prop
def Nt {Q:QW}:Wp (aI M (.c w) Z S) Q↔Q (w,S):=by(delta aI;(delta fC;simp[ar]))
def Nh {Q:QW}:Wp (aI M (.v i) Z S) Q↔∃w,Z[i]?=ba (ba w)/\Q (w,S):=by
 (delta aI;delta fV)
 rcases h:Z[i]? with _|_|w<;>simp[ar,aj]
def Bb {a :FE}{Q:QW}:Wp (D0 g a b Z S) Q↔Wp (a Z S) λp=>Wp (b Z p.2) λq=>Wp (g p.1 q.1 q.2) Q:=by
 unfold D0;rcases h:a Z S with _|⟨x,S1⟩
 ·simp[aj]
 ·rcases c:b Z S1 with _|⟨y,d⟩<;>simp[ar,aj,c]
def MK {a :E}{Q:QW}:Wp (aI M (.op o a b) Z S) Q↔Wp (aI M a Z S) λp=>Wp (aI M b Z p.2) λq=>Wp (gS o p.1 q.1 q.2) Q:=by show Bb
def Gf {a :E}{Q:QW}:Wp (aI M (.cmp o a b) Z S) Q↔Wp (aI M a Z S) λp=>Wp (aI M b Z p.2) λq=>Wp (bK o p.1 q.1 q.2) Q:=by show Bb
def ML {a :E}{Q:QW}:Wp (aI M (.ix a b) Z S) Q↔Wp (aI M a Z S) λp=>Wp (aI M b Z p.2) λq=>Wp (p9 p.1 q.1 q.2) Q:=by show Bb
def KG {a :E}{Q:QW}:Wp (aI M (.and a b) Z S) Q↔Wp (aI M a Z S) λp=>∃k,p.1=.bl k/\(k=true->Wp (aI M b Z p.2) Q)/\(k=false->Q (.bl false,p.2)):=by
 (delta aI;delta wq)
 rcases h:aI M a Z S with _|⟨x,S1⟩
 ·revert aj
 ·cases x<;>simp[ar,aj]
  rename_i b;cases b<;>simp[ar]
def MM {a :E}{Q:QW}:Wp (aI M (.or a b) Z S) Q↔Wp (aI M a Z S) λp=>∃k,p.1=.bl k/\(k=true->Q (.bl true,p.2))/\(k=false->Wp (aI M b Z p.2) Q):=by
 (delta aI;delta D6)
 rcases h:aI M a Z S with _|⟨x,S1⟩
 ·revert aj
 ·cases x<;>simp[ar,aj]
  rename_i b;cases b<;>simp[ar]
def KH {a:E}{Q:QW}:Wp (aI M (.not a) Z S) Q↔Wp (aI M a Z S) λp=>∃k,p.1=.bl k/\Q (.bl (!k),p.2):=by
 (delta aI;delta wt)
 rcases h:aI M a Z S with _|⟨x,S1⟩
 ·revert aj
 ·cases x<;>simp[ar,aj]
  rename_i k;cases k<;>simp
def KJ { a :E}{Q:QW}:Wp (aI M (.ite t a b) Z S) Q↔Wp (dA M t Z S) λp=>(p.1=true->Wp (aI M a Z p.2) Q)/\(p.1=false->Wp (aI M b Z p.2) Q):=by
 (delta aI;delta D7)
 rcases h:dA M t Z S with _|⟨x,S1⟩
 ·simp[aj]
 ·cases x<;>simp[ar]
def Gg {Q:QW}:Wp (aI M (.own f n es) Z S) Q↔Wp (de M es Z S) λp=>↥p.1=n/\Wp (M f p.1 p.2) Q:=by
 (delta aI;delta rZ)
 rcases h:de M es Z S with _|⟨x,S1⟩
 ·simp[aj]
 ·by_cases hl:↥x=n<;>simp[ar,aj,hl]
def KL {Q:QW}:Wp (aI M (.bi b es) Z S) Q↔Wp (de M es Z S) λp=>Wp (b.fn p.1 p.2) Q:=by
 (delta aI;delta eR)
 rcases h:de M es Z S with _|⟨x,S1⟩<;>simp[ar,aj]
def MN {Q:QW}:Wp (aI M (.me m o es) Z S) Q↔Wp (aI M o Z S) λp=>tyOk m.ty p.2 p.1=true/\Wp (de M es Z p.2) λq=>Wp (m.fn p.1 q.1 q.2) Q:=by
 (delta aI;delta C6)
 rcases h:aI M o Z S with _|⟨x,S1⟩
 ·simp[aj]
 ·by_cases a:tyOk m.ty S1 x=true
  ·rcases b:de M es Z S1 with _|⟨y,c⟩<;>simp[ar,aj,a,b]
  ·simp[ar,aj,a]
def MO {a:E}{lo :Ep}{Q:QW}:Wp (aI M (.sl a lo hi) Z S) Q↔Wp (aI M a Z S) λp=>Wp (wM M lo Z p.2) λq=>Wp (wM M hi Z q.2) λr=>Wp (t8 p.1 q.1 r.1 r.2) Q:=by
 (delta aI;delta Km)
 rcases h:aI M a Z S with _|⟨x,S1⟩
 ·simp[aj]
 ·rcases b:wM M lo Z S1 with _|⟨y,c⟩
  ·simp[ar,aj,b]
  ·rcases d:wM M hi Z c with _|⟨z,e⟩<;>simp[ar,aj,b,d]
def MP :Wp (wM M .no Z S) Q↔Q (dx,S):=by(delta wM;(delta HJ;simp[ar]))
def KM {a:E}:Wp (wM M (.yes a) Z S) Q↔Wp (aI M a Z S) λp=>∃i,p.1=.int i/\Q (ba i,p.2):=by
 (delta wM;delta wx)
 rcases h:aI M a Z S with _|⟨x,S1⟩
 ·simp[aj]
 ·cases x<;>simp[ar,aj]
def KN {Q:QW}:Wp (aI M (.tup es) Z S) Q↔Wp (de M es Z S) λp=>↥p.1<=sizeLine/\Q (.tup p.1,p.2):=by
 (delta aI;delta Aq zR)
 rcases h:de M es Z S with _|⟨x,S1⟩
 ·simp[aj]
 ·by_cases hl:↥x<=sizeLine<;>simp[ar,aj,hl]
def KO {Q:QW}:Wp (aI M (.lst es) Z S) Q↔Wp (de M es Z S) λp=>↥p.1<=sizeLine/\Q (.ref ↥p.2,p.2++[.lst p.1]):=by
 (delta aI;delta Ar nW)
 rcases h:de M es Z S with _|⟨x,S1⟩
 ·simp[aj]
 ·by_cases hl:↥x<=sizeLine<;>simp[ar,aj,hl]
def Gh {a:E}{Q:QW}:Wp (aI M (.isi c a) Z S) Q↔Wp (aI M a Z S) λp=>∃k,AA p.2 p.1 c=ba k/\Q (.bl k,p.2):=by
 (delta aI;delta AC)
 rcases h:aI M a Z S with _|⟨x,S1⟩
 ·revert aj
 ·cases b:AA S1 x c<;>simp[ar,aj,b]
  rename_i k;cases k<;>simp
def KP {a:E}{Q:QW}:Wp (aI M (.neg a) Z S) Q↔Wp (aI M a Z S) λp=>∃i,p.1=.int i/\Q (.int (-i),p.2):=by
 (delta aI;delta Al)
 rcases h:aI M a Z S with _|⟨x,S1⟩
 ·simp[aj]
 ·cases x<;>simp[ar,aj]
def Il {Q:QW}:Wp (aI M (.disp es) Z S) Q↔Wp (de M es Z (S++[.dic []])) λp=>p.2[↥S]?=ba (.dic [])/\∃U,eu [] p.1=ba U/\Q (.ref ↥S,p.2.set ↥S (.dic U)):=by
 have e:aI M (.disp es) Z S=sf (de M es) Z S:=by delta aI
 rw[e];unfold sf;cases de M es Z _ with
 |none=>simp[aj]
 |some p=>
  obtain⟨x,S1⟩:=p;revert ar;cases c:S1[↥S]? with
  |none=>simp[aj]
  |some o=>
   cases o with
   |lst _=>simp[aj]
   |fro _=>simp[aj]
   |frd _=>simp[aj]
   |sti _=>simp[aj]
   |dik _=>simp[aj]
   |rng _ _=>simp[aj]
   |dic U=>
    cases U with
    |nil=>cases d:eu [] x<;>simp[ar,aj]
    |cons a b=>simp[aj]
def Gi {a  :E}{Q:QW}(h:Wp (aI M a Z S) λp=>Wp (aI M b Z p.2) λq=>∃k,DQ o p.1 q.1 q.2=ba k/\(k=true->Wp (aI M d Z q.2) λr=>Wp (dF c q.1 r.1 r.2) Q)/\(k=false->Q (.bl false,q.2))):Wp (aI M (.chn o c a b d) Z S) Q:=by
 obtain⟨⟨x,S1⟩,f,⟨y,s⟩,g,k,i,m,n⟩:=h;have e:aI M (.chn o c a b d) Z S=gC o c (aI M a) (aI M b) (aI M d) Z S:=by delta aI
 rw[e];unfold gC;rw[f];dsimp only;rw[g];dsimp only;rw[i];cases k with
 |false=>show#[_,rfl,n rfl]
 |true=>
  obtain⟨⟨z,t⟩,j,⟨r,l,q⟩⟩:=m rfl;rw[j];show#[_,l,q]
def KQ :Wp (de M .nil Z S) Q↔Q ([],S):=by(delta de;(delta gD;simp[ar]))
def Im :Wp (de M (.cons e es) Z S) Q↔Wp (aI M e Z S) λp=>Wp (de M es Z p.2) λq=>Q (p.1::q.1,q.2):=by
 (delta de;delta cR)
 rcases h:aI M e Z S with _|⟨x,S1⟩
 ·simp[aj]
 ·rcases a:de M es Z S1 with _|⟨y,b⟩<;>simp[ar,aj,a]
noncomputable abbrev QB:=Oh×aa->Prop
def Gj {Q:QB}:Wp (rY f Z S) Q↔Wp (f Z S) λp=>∃k,p.1=.bl k/\Q (k,p.2):=by
 unfold rY;rcases h:f Z S with _|⟨x,S1⟩
 ·revert aj
 ·cases x<;>simp[ar,aj]
  rename_i k;cases k<;>simp
def xg {Q:QB}:Wp (ig f Z S) Q↔Wp (f Z S) λp=>∃k,fm p.2 p.1=ba k/\Q (k,p.2):=by
 unfold ig;rcases h:f Z S with _|⟨x,S1⟩
 ·revert aj
 ·cases a:fm S1 x<;>simp[ar,aj,a]
  rename_i k;cases k<;>simp
def KR {a :E}{Q:QB}:Wp (dA M (.cmp o a b) Z S) Q↔Wp (aI M (.cmp o a b) Z S) λp=>∃k,p.1=.bl k/\Q (k,p.2):=by show Gj
def KS {a  :E}{Q:QB}:Wp (dA M (.chn o c a b d) Z S) Q↔Wp (aI M (.chn o c a b d) Z S) λp=>∃k,p.1=.bl k/\Q (k,p.2):=by show Gj
def KU {a :E}{Q:QB}:Wp (dA M (.and a b) Z S) Q↔Wp (dA M a Z S) λp=>(p.1=true->Wp (dA M b Z p.2) Q)/\(p.1=false->Q (false,p.2)):=by
 (delta dA;delta Ao)
 rcases h:dA M a Z S with _|⟨x,S1⟩
 ·simp[aj]
 ·cases x<;>simp[ar]
def MQ {a :E}{Q:QB}:Wp (dA M (.or a b) Z S) Q↔Wp (dA M a Z S) λp=>(p.1=true->Q (true,p.2))/\(p.1=false->Wp (dA M b Z p.2) Q):=by
 (delta dA;delta Kj)
 rcases h:dA M a Z S with _|⟨x,S1⟩
 ·simp[aj]
 ·cases x<;>simp[ar]
def KW {a:E}{Q:QB}:Wp (dA M (.not a) Z S) Q↔Wp (dA M a Z S) λp=>Q (!p.1,p.2):=by
 (delta dA;delta D3)
 rcases h:dA M a Z S with _|⟨x,S1⟩<;>simp[ar,aj]
def Nu {Q:QB}:Wp (dA M (.v i) Z S) Q↔Wp (aI M (.v i) Z S) λp=>∃k,fm p.2 p.1=ba k/\Q (k,p.2):=by show xg
def KY {Q:QB}:Wp (dA M (.own f n es) Z S) Q↔Wp (aI M (.own f n es) Z S) λp=>∃k,fm p.2 p.1=ba k/\Q (k,p.2):=by show xg
def MR {Q:QB}:Wp (dA M (.bi b es) Z S) Q↔Wp (aI M (.bi b es) Z S) λp=>∃k,fm p.2 p.1=ba k/\Q (k,p.2):=by show xg
def KZ {a:E}{Q:QB}:Wp (dA M (.isi c a) Z S) Q↔Wp (aI M (.isi c a) Z S) λp=>∃k,fm p.2 p.1=ba k/\Q (k,p.2):=by show xg
noncomputable abbrev QO:=Out×aa->Prop
def K1 {Q:QO}:Wp (gc M fuel .nil Z S) Q↔Q (.nx Z,S):=by(delta gc;simp[ar])
def Io {s:Sm}{Q:QO}:Wp (gc M fuel (.cons s ss) Z S) Q↔Wp (gU M fuel s Z S) λp=>(∀a,p.1=.nx a->Wp (gc M fuel ss a p.2) Q)/\((∀a,p.1≠.nx a)->Q p):=by
 (delta gc;delta Ee)
 rcases h:gU M _ s Z S with _|⟨o,S1⟩
 ·simp[aj]
 ·cases o<;>simp[ar]
def Bc {Q:QO}:Wp (mB f g Z S) Q↔Wp (f Z S) λp=>Wp (g p.1 Z p.2) λq=>Q (.nx q.1,q.2):=by
 unfold mB;rcases h:f Z S with _|⟨x,S1⟩
 ·simp[aj]
 ·rcases a:g x Z S1 with _|⟨y,b⟩<;>simp[ar,aj,a]
def Ip {Q:QO}:Wp (gU M fuel (.set i e) Z S) Q↔Wp (aI M e Z S) λp=>Q (.nx (Z.set i (ba p.1)),p.2):=by
 delta gU;rw[Bc];simp[F3,ar]
def Iq {Q:QO}:Wp (gU M fuel (.asg is e) Z S) Q↔Wp (aI M e Z S) λp=>∃ws a,p.1=.tup ws/\fN is ws Z=ba a/\Q (.nx a,p.2):=by
 delta gU;rw[Bc]
 constructor
 ·show λh=>h.mono λp d=>?_
  obtain⟨w,S1⟩:=p;obtain⟨q,b,c⟩:=d;cases w with
  |tup ws=>
   simp only[JD,NB]at b;obtain⟨a,g,rfl⟩:=b;show#[ws,a,rfl,g,c]
  |_=>cases b
 ·show λh=>h.mono λp d=>?_
  obtain⟨w,S1⟩:=p;obtain⟨ws,a,f,b,c⟩:=d;subst f;show#[(a,S1),by simp[JD,b],c]
def Ir {Q:QO}:Wp (gU M fuel (.par i j es) Z S) Q↔Wp (de M es Z S) λp=>∃x y,p.1=[x,y]/\Q (.nx ((Z.set i (ba x)).set j (ba y)),p.2):=by
 (delta gU;delta Ek)
 rcases h:de M es Z S with _|⟨x,S1⟩
 ·simp[aj]
 ·match x with
  |[]=>simp[ar,aj]
  |[_]=>simp[ar,aj]
  |[a,b]=>
   revert ar;show#[λh=>#[a,b,rfl,h],λ#[x,y,e,h]=>by cases e;show h]
  |_::_::_::_=>simp[ar,aj]
def Iu {Q:QO}:Wp (gU M fuel (.put o k e) Z S) Q↔Wp (aI M e Z S) λp=>Wp (aI M o Z p.2) λq=>Wp (aI M k Z q.2) λr=>∃a,i5 q.1 r.1 p.1 r.2=ba a/\Q (.nx Z,a):=by
 delta gU;rw[Bc]
 rcases h:aI M e Z S with _|⟨x,S1⟩
 ·simp[aj]
 ·revert ar;unfold Ej;rcases g:aI M o Z S1 with _|⟨y,c⟩
  ·simp[aj]
  ·rcases b:aI M k Z c with _|⟨z,d⟩
   ·simp[ar,aj,b]
   ·cases f:i5 y z x d<;>simp[ar,aj,b,f]
def K4 {Q:QO}:Wp (gU M fuel (.ex e) Z S) Q↔Wp (aI M e Z S) λp=>Q (.nx Z,p.2):=by
 (delta gU;delta Ef)
 rcases h:aI M e Z S with _|⟨x,S1⟩<;>simp[ar,aj]
def Iv {Q:QO}:Wp (gU M fuel (.ret e) Z S) Q↔Wp (aI M e Z S) λp=>Q (.rt p.1,p.2):=by
 (delta gU;delta Eh)
 rcases h:aI M e Z S with _|⟨x,S1⟩<;>simp[ar,aj]
def Iw {a :Ss}{Q:QO}:Wp (gU M fuel (.ite t a b) Z S) Q↔Wp (dA M t Z S) λp=>(p.1=true->Wp (gc M fuel a Z p.2) Q)/\(p.1=false->Wp (gc M fuel b Z p.2) Q):=by
 (delta gU;delta Ei)
 rcases h:dA M t Z S with _|⟨x,S1⟩
 ·simp[aj]
 ·cases x<;>simp[ar]
abbrev Bd (I:Fm->aa->Prop)(Q:QO)(o:Out×aa):Prop:=match o.1 with
 |.nx a=>I a o.2
 |.ct a=>I a o.2
 |.bk a=>Q (.nx a,o.2)
 |.rt w=>Q (.rt w,o.2)
def jW {xs:Ny W}(I:NF->Fm->aa->Prop)(h:∀i Z S,I i Z S->mi.at S i=ba xs[i]?)
  (a:∀i w Z S,xs[i]?=ba w->I i Z S->Wp (g w Z S) λq=>Wp (b q.1 q.2) (Bd (I (i+1)) Q)) (c:∀Z S,I ↥xs Z S->Q (.nx Z,S)):∀ n i Z S,i+n=↥xs->I i Z S->Wp (gE mi g b n i Z S) Q
 |0,i,Z,S,hl,j=>by
  have e:mi.at S i=ba dx:=by rw[h i Z S j,Ri ∅]
  change Wp (match mi.at S i with
  |some dx=>ba (Out.nx Z,S)
  |_=>dx) Q
  rw[e];have hi:i=↥xs:=∅
  show ar.mpr (c Z S (hi▸j))
 |n+1,i,Z,S,hl,j=>by
  have hi:i<↥xs:=∅
  have e:mi.at S i=ba (ba xs[i]):=by rw[h i Z S j,NK hi]
  obtain⟨⟨l,S1⟩,m,⟨o,d⟩,p,k⟩:=a i _ Z S (NK hi) j;change Wp (match mi.at S i with
  |some (ba w)=>match g w Z S with
   |some (l,S1)=>match b l S1 with
    |some (.nx f,d)=>gE mi g b n (i+1) f d
    |some (.ct f,d)=>gE mi g b n (i+1) f d
    |some (.bk f,d)=>ba (.nx f,d)
    |some (.rt w,d)=>ba (.rt w,d)
    |none=>dx
   |none=>dx
  |_=>dx) Q
  rw[e];dsimp only
  rw[m];dsimp only
  rw[p];cases o with
  |nx f=>show jW I h a c n _ f d ∅ k
  |ct f=>show jW I h a c n _ f d ∅ k
  |bk f=>show ar.mpr k
  |rt w=>show ar.mpr k
def K5 {a:FI}{Q:QO}:Wp (Ay a g b Z S) Q↔Wp (a Z S) λp=>∃n,p.1.len p.2=ba n/\Wp (gE p.1 g b n 0 Z p.2) Q:=by
 unfold Ay;rcases h:a Z S with _|⟨mi,S1⟩
 ·simp[aj]
 ·cases c:mi.len S1<;>simp[ar,aj,c]
def dU {xs:Ny W}{Q:Ny W×aa->Prop}(I:NF->Ny W->Fm->aa->Prop)(h:∀i a Z S,I i a Z S->mi.at S i=ba xs[i]?)
  (b:∀i w a Z S,xs[i]?=ba w->I i a Z S->Wp (g w Z S) λq=>Wp (c q.1 q.2) λk=>(k.1=true->Wp (f q.1 k.2) λy=>I (i+1) (a++[y.1]) q.1 y.2)/\(k.1=false->I (i+1) a q.1 k.2))
  (d:∀a Z S,I ↥xs a Z S->Q (a,S)):∀ n i a Z S,i+n=↥xs->I i a Z S->Wp (bL mi g c f n i Z S) λp=>Q (a++p.1,p.2)
 |0,i,a,Z,S,hl,m=>by
  have e:mi.at S i=ba dx:=by rw[h i a Z S m,Ri ∅]
  change Wp (match mi.at S i with
  |some dx=>ba ([],S)
  |_=>dx) _
  rw[e];show ar.mpr ?_;have:i=↥xs:=∅
  simpa using d a Z S (this▸m)
 |n+1,i,a,Z,S,hl,m=>by
  have hi:i<↥xs:=∅
  have e:mi.at S i=ba (ba xs[i]):=by rw[h i a Z S m,NK hi]
  obtain⟨⟨j,S1⟩,s,⟨k,l⟩,t,u,v⟩:=b i _ a Z S (NK hi) m;change Wp (match mi.at S i with
  |some (ba w)=>match g w Z S with
   |some (j,S1)=>match c j S1 with
    |some (true,l)=>match f j l with
     |some (y,o)=>match bL mi g c f n (i+1) j o with
      |some (a,r)=>ba (y::a,r)
      |none=>dx
     |none=>dx
    |some (false,l)=>bL mi g c f n (i+1) j l
    |none=>dx
   |none=>dx
  |_=>dx) _
  rw[e];dsimp only
  rw[s];dsimp only
  rw[t];cases k with
  |true=>
   obtain⟨⟨y,o⟩,x,z⟩:=u rfl;dsimp only;rw[x];dsimp only
   obtain⟨⟨C,r⟩,A,B⟩:=dU I h b d n _ (a++[y]) j o ∅ z
   rw[A];show ar.mpr (by simpa using B)
  |false=>show dU I h b d n _ a j l ∅ (v rfl)
def Be {it:Ie}{a:Ny (NJ NF)}{Q:QW}:Wp (aI M (.comp b tg it c a) Z S) Q↔Wp (jR M it Z S) λp=>∃n,p.1.len p.2=ba n/\Wp (bL p.1 (mI tg) (Ga M c) (aI M b) n 0 (eM a Z) p.2) λq=>↥q.1<=sizeLine/\Q (.ref ↥q.2,q.2++[.lst q.1]):=by
 (delta aI;delta mG nW)
 rcases h:jR M it Z S with _|⟨mi,S1⟩
 ·simp[aj]
 ·rcases d:mi.len S1 with _|n
  ·simp[ar,aj,d]
  ·rcases e:bL mi (mI tg) (Ga M c) (aI M b) n 0 (eM a Z) S1 with _|⟨f,g⟩
   ·simp[ar,aj,d,e]
   ·by_cases hl:↥f<=sizeLine<;>simp[ar,aj,d,e,hl]
def K6 {Q:QB}:Wp (Ga M .nil Z S) Q↔Q (true,S):=by(delta Ga;(delta F5;simp[ar]))
def K7 {Q:QB}:Wp (Ga M #v[e] Z S) Q↔Wp (dA M e Z S) Q:=by show Yi
def mP (I:NF->Fm->aa->Prop)(a:∀m Z S,I m Z S->Wp (c Z S) λk=>(k.1=true->∃f,m=f+1/\Wp (b Z k.2) (Bd (I f) Q))/\(k.1=false->Q (.nx Z,k.2))) :
  ∀ n m Z S,m<n->I m Z S->Wp (mC c b n Z S) Q
 |0,m,Z,S,h,_=>by show absurd ‹_› (P7 _)
 |n+1,m,Z,S,h,r=>by
  obtain⟨⟨k,S1⟩,j,l,p⟩:=a m Z S r;change Wp (match c Z S with
  |some (true,S1)=>match b Z S1 with
   |some (.nx e,d)=>mC c b n e d
   |some (.ct e,d)=>mC c b n e d
   |some (.bk e,d)=>ba (.nx e,d)
   |some (.rt w,d)=>ba (.rt w,d)
   |none=>dx
  |some (false,S1)=>ba (.nx Z,S1)
  |none=>dx) Q
  rw[j];cases k with
  |false=>show ar.mpr (p rfl)
  |true=>
   obtain⟨f,rfl,⟨o,d⟩,q,i⟩:=l rfl;dsimp only;rw[q];cases o with
   |nx g=>show mP I a n f g d ∅ i
   |ct g=>show mP I a n f g d ∅ i
   |bk g=>show ar.mpr i
   |rt w=>show ar.mpr i
def yE {Q:QW}(h:defs.lookup f=ba df)(hl:↥ws=↥df.ps)
  (e:Wp (gc (aq defs fuel d) fuel df.body (fe df.N ws) S) λp=>match p.1 with|.rt w=>Q (w,p.2)|.nx _=>Q (.non,p.2)|_=>Pg):Wp (aq defs fuel (d+1) f ws S) Q:=by
 obtain⟨⟨o,S1⟩,c,a⟩:=e;change Wp (match defs.lookup f with
  |some df=>if ↥ws=↥df.ps then match gc (aq defs fuel d) fuel df.body (fe df.N ws) S with
    |some (.rt w,b)=>ba (w,b)
    |some (.nx _,b)=>ba (.non,b)
    |_=>dx
   else dx
  |none=>dx) Q
 rw[h];dsimp only
 rw[Ob hl,c];cases o with
 |rt w=>show ar.mpr a
 |nx Z=>show ar.mpr a
 |bk _=>show a.elim
 |ct _=>show a.elim
variable{Q:QW}
def fY {a :NV}:gS .add (.int a) (.int b) S=ba (.int (a+b),S):=rfl
def kF {a :NV}:gS .sub (.int a) (.int b) S=ba (.int (a-b),S):=rfl
def qy (h:c i j=true):DE c f (.int i) (.int j) S=ba (.int (f i j),S):=by
 unfold DE;dsimp only;rw[Ob h]
def xi {a :NV}(h : -(2^64)<b)(c:b<2^64):gS .mul (.int a) (.int b) S=ba (.int (a*b),S):=qy   (by
 unfold DD;revert PP NM Og;show .inr #[h,c])
def mQ {a :NV}(h:0<b):gS .mod (.int a) (.int b) S=ba (.int (a % b),S):=qy (c:=λ_ j=>decide (0<j))  (OS h)
def mR {a :NV}(h:0<b)(d:b<1073741824):gS .fdiv (.int a) (.int b) S=ba (.int (a/b),S):=qy (c:=λ_ j=>DC j)  (by
 unfold DC;revert NM Og;show#[h,d])
def Ix:gS .pow (.int 10) (.int 18) S=ba (.int 1000000000000000000,S):=rfl
def Iy (h:↥x+↥y<=sizeLine):gS .add (.str x) (.str y) S=ba (.str (x++y),S):=(Ob h:(if ↥x+↥y<=sizeLine then ba (W.str (x++y),S)else dx)=_)
def cM { a:Ny W}(h:(xs++a).length<=sizeLine):gS .add (.tup xs) (.tup a) S=ba (.tup (xs++a),S):=(Ob h:(if (xs++a).length<=sizeLine then ba (W.tup (xs++a),S)else dx)=_)
def cH (h:S[r]?=ba (.lst xs)):lV S r=ba xs:=by unfold lV;rw[h]
def u6 { a:Ny W}(b:S[i]?=ba (.lst xs))(c:S[j]?=ba (.lst a))(h:(xs++a).length<=sizeLine):gS .add (.ref i) (.ref j) S=ba (.ref ↥S,S++[.lst (xs++a)]):=by
 show(match lV S i,lV S j with
  |some xs,ba a=>nW S (xs++a)
  |_,_=>dx)=_
 rw[cH b,cH c];show Ob h
def qA {a:Ny W}(e:cQ S y=ba a)(d:(aR x&&a.all aR)=true)(c:(a.any λz=>iU z x)=b):pU x y S=ba b:=by
 unfold pU;rw[e];dsimp only
 rw[Ob d,c]
def EO (h:pU x y S=ba b):dF .isin x y S=ba (.bl b,S):=by
 change Rr _ (pU x y S)=_;rw[h];rfl
def qB (h:pU x y S=ba b):dF .notin x y S=ba (.bl (!b),S):=by
 change Rr _ (Rr _ (pU x y S))=_;rw[h];rfl
def im {a :NV}:bK .eq (.int a) (.int b) S=ba (.bl (a==b),S):=rfl
def sE {a :NV}:bK .ne (.int a) (.int b) S=ba (.bl (!(a==b)),S):=rfl
def K8 {a :NV}:bK .lt (.int a) (.int b) S=ba (.bl (decide (a<b)),S):=rfl
def Iz {a :NV}:bK .gt (.int a) (.int b) S=ba (.bl (decide (a > b)),S):=rfl
def Gk {a :Oc}:bK .eq (.str a) (.str b) S=ba (.bl (a==b),S):=rfl
def aG (h:S[r]?=ba (.lst xs)):ec S r=ba xs:=by unfold ec;rw[h]
def EQ (h:S[r]?=ba (.fro xs)):ec S r=ba xs:=by unfold ec;rw[h]
def gX (h:S[r]?=ba (.lst xs)):fL S r=dx:=by unfold fL;rw[h]
def b7 (h:S[r]?=ba (.dic U)):fL S r=ba U:=by unfold fL;rw[h]
def qC (h:S[r]?=ba (.dic U)):ec S r=dx:=by unfold ec;rw[h]
def ER (h:S[r]?=ba (.frd U)):fL S r=ba U:=by unfold fL;rw[h]
def atI_nat {j:NF}(h:xs[j]?=ba w):pM xs j=ba w:=by
 have hl:=(NZ.mp h).1;unfold pM vS;rw[Ob (NX j),Ob (by exact_mod_cast hl)]
 simpa using h
def qD (a:0<=i)(h:xs[i.toNat]?=ba w):pM xs i=ba w:=by
 have:=atI_nat h
 rwa [Qq a]at this
def Bf (h:S[r]?=ba (.lst xs))(a:0<=i)(hw:xs[i.toNat]?=ba w):p9 (.ref r) (.int i) S=ba (w,S):=by
 change yc (.ref r) (.int i) S=_;unfold yc;dsimp only
 rw[aG h];dsimp only
 rw[qD a hw];rfl
def K9 (a:0<=i)(hw:xs[i.toNat]?=ba w):p9 (.tup xs) (.int i) S=ba (w,S):=by
 change yc (.tup xs) (.int i) S=_;show(pM xs i).map _=_;rw[qD a hw];rfl
def Gm (b:↥x<=sizeLine)(a:0<=i)(hw:x.cps.toList[i.toNat]?=ba c):p9 (.str x) (.int i) S=ba (.str #[[c].toArray],S):=by
 change yc (.str x) (.int i) S=_;show(if ↥x<=sizeLine then(pM x.cps.toList i).map λc=>(W.str #[[c].toArray],S)else dx)=_
 rw[Ob b,qD a hw];rfl
def Gn (h:S[r]?=ba (.lst xs))(a:0<=i)(hi:i.toNat<↥xs):i5 (.ref r) (.int i) w S=ba (S.set r (.lst (xs.set i.toNat w))):=by
 change rG (.ref r) (.int i) w S=_;have:vS ↥xs i=ba i.toNat:=by
  unfold vS;rw[Ob a,Ob ∅]
 unfold rG;dsimp only
 rw[cH h];dsimp only
 rw[this]
def Go (h:S[r]?=ba (.lst xs)):Bi.len.fn [.ref r] S=ba (.int ↥xs,S):=by
 have e:kX [.ref r] S=ba (.int ↥xs,S):=by
  unfold kX;dsimp only
  rw[gX h];show(ec S r).map _=_;rw[aG h];rfl
 change n6 kX _ _ S=_;unfold n6;rw[e]
def Bg (h:S[r]?=ba (.lst xs))(hl:↥xs<sizeLine):iX (.ref r) [y] S=ba (.non,S.set r (.lst (xs++[y]))):=by
 unfold iX;dsimp only
 rw[cH h];show Ob hl
def La (h:S[r]?=ba (.lst xs)):jK [.ref r] S=ba (.tup xs,S):=by
 have e:re S r=dx:=by unfold re;rw[h]
 unfold jK;dsimp only
 rw[e];change jG [.ref r] S=_;unfold jG;dsimp only
 rw[aG h]
def cN (h:S[r]?=ba (.lst xs)):tyOk "list" S (.ref r)=true:=by
 show(("list" == "list" && (ec S r).isSome)||_)=true
 rw[aG h];rfl
def bg { a:O}(h:S[r]?=ba o):(S.set r a)[r]?=ba a:=by
 rw[P2,Ob rfl,Ob (NZ.mp h).1]
def be {a:O}(h:r≠j):(S.set r a)[j]?=S[j]?:=by rw[P2,Ot h]
def af :(S++[o])[↥S]?=ba o:=by simp
def aB {j:NF}(h:S[j]?=ba o):(S++[u])[j]?=ba o:=by rw[Ow (NZ.mp h).1];show h
def bQ (h:S[j]?=ba o):j<↥S:=(NZ.mp h).1
structure Kp (r:NF)(S S':aa):Prop where
 get:∀j o,j≠r->S[j]?=ba o->S'[j]?=ba o
 len:↥S<=↥S'
def Kp.refl :Kp r S S:=#[λ_ _ _ h=>h,NP _]
def Kp.trans (a:Kp r S d)(b:Kp r d c):Kp r S c:=#[λj o n h=>b.get j o n (a.get j o n h),N9 a.len b.len]
def Kp.set :Kp r S (S.set r o):=#[λj u n h=>by rw[be (Ne.symm n)];show h,by simp]
def Kp.push :Kp r S (S++[o]):=#[λj u n h=>aB h,by simp]
def Kp.late (a:Kp r b S)(h:↥b<=t):Kp r b (S.set t o):=
 #[λj u n e=>by
  have:=bQ e;rw[be ∅];show a.get j u n e,by simpa using a.len]
abbrev wO {α:Type}(o:NJ α)(Q:α->Prop):Prop:=match o with
 |some a=>Q a
 |none=>Pg
def bV {Q:α->Prop}(h:wO o Q):Wp o Q:=by
 cases o with
 |none=>show h.elim
 |some a=>show#[a,rfl,h]
def Lb {Q:α->Prop}(h:Wp o Q):wO o Q:=by
 obtain⟨a,rfl,q⟩:=h;show q
def ab {a:α}{Q:α->Prop}(e:o=ba a)(h:Q a):wO o Q:=by subst e;show h
abbrev wB:W->(Oh->Prop)->Prop
 |.bl k,Q=>Q k
 |_,_=>Pg
abbrev wN:W->(NV->Prop)->Prop
 |.int k,Q=>Q k
 |_,_=>Pg
abbrev wU:W->(Ny W->Prop)->Prop
 |.tup k,Q=>Q k
 |_,_=>Pg
def sF {Q:Oh->Prop}(h:wB w Q):∃k,w=.bl k/\Q k:=by cases w<;>first|show h.elim|show#[_,rfl,h]
def Gp {Q:NV->Prop}(h:wN w Q):∃k,w=.int k/\Q k:=by cases w<;>first|show h.elim|show#[_,rfl,h]
def Lc {Q:Ny W->Prop}(h:wU w Q):∃k,w=.tup k/\Q k:=by cases w<;>first|show h.elim|show#[_,rfl,h]
abbrev w2:Ny W->(W->W->Prop)->Prop
 |[x,y],Q=>Q x y
 |_,_=>Pg
def Ld {Q:W->W->Prop}(h:w2 xs Q):∃x y,xs=[x,y]/\Q x y:=by
 match xs,h with
 |[x,y],h=>show#[x,y,rfl,h]
abbrev wG:NJ W->(W->Prop)->Prop
 |some w,Q=>Q w
 |none,_=>Pg
abbrev wV:Fm->NF->(W->Prop)->Prop
 |[],_,_=>Pg
 |o::_,0,Q=>wG o Q
 |_::Z,n+1,Q=>wV Z n Q
def Bh {Q:W->Prop}:∀{Z:Fm}{i:NF},wV Z i Q->∃w,Z[i]?=ba (ba w)/\Q w
 |[],i,h=>h.elim
 |some w::Z,0,h=>#[w,rfl,h]
 |none::Z,0,h=>h.elim
 |x::Z,n+1,h=>by
  obtain⟨w,a,q⟩:=Bh  (i:=n) h;show#[w,a,q]
abbrev aJ (M:Oc->FF)(f:Oc)(n:NF)(ws:Ny W)(S:aa):NJ (W×aa):=if ↥ws=n then M f ws S else dx
section
variable (M:Oc->FF) (fuel:NF)
mutual
def wE:E->Fm->aa->QW->Prop
 |.c w,_,S,Q=>Q (w,S)
 |.v i,Z,S,Q=>wV Z i λw=>Q (w,S)
 |.op o a b,Z,S,Q=>wE a Z S λp=>wE b Z p.2 λq=>wO (gS o p.1 q.1 q.2) Q
 |.cmp o a b,Z,S,Q=>wE a Z S λp=>wE b Z p.2 λq=>wO (bK o p.1 q.1 q.2) Q
 |.and a b,Z,S,Q=>wE a Z S λp=>wB p.1 λk=>(k=true->wE b Z p.2 Q)/\(k=false->Q (.bl false,p.2))
 |.or a b,Z,S,Q=>wE a Z S λp=>wB p.1 λk=>(k=true->Q (.bl true,p.2))/\(k=false->wE b Z p.2 Q)
 |.not a,Z,S,Q=>wE a Z S λp=>wB p.1 λk=>Q (.bl (!k),p.2)
 |.own f n es,Z,S,Q=>wA es Z S λp=>wO (aJ M f n p.1 p.2) Q
 |.bi b es,Z,S,Q=>wA es Z S λp=>wO (b.fn p.1 p.2) Q
 |.me m o es,Z,S,Q=>wE o Z S λp=>tyOk m.ty p.2 p.1=true/\wA es Z p.2 λq=>wO (m.fn p.1 q.1 q.2) Q
 |.ix a b,Z,S,Q=>wE a Z S λp=>wE b Z p.2 λq=>wO (p9 p.1 q.1 q.2) Q
 |.sl a lo hi,Z,S,Q=>wE a Z S λp=>wP lo Z p.2 λq=>wP hi Z q.2 λr=>wO (t8 p.1 q.1 r.1 r.2) Q
 |.tup es,Z,S,Q=>wA es Z S λp=>Q (.tup p.1,p.2)
 |.lst es,Z,S,Q=>wA es Z S λp=>Q (.ref ↥p.2,p.2++[.lst p.1])
 |.isi c a,Z,S,Q=>wE a Z S λp=>wO (AA p.2 p.1 c) λk=>Q (.bl k,p.2)
 |.neg a,Z,S,Q=>wE a Z S λp=>wN p.1 λi=>Q (.int (-i),p.2)
 |.dnew,_,S,Q=>Q (.ref ↥S,S++[.dic []])
 |.disp es,Z,S,Q=>wA es Z (S++[.dic []]) λp=>p.2[↥S]?=ba (.dic [])/\wO (eu [] p.1) λU=>Q (.ref ↥S,p.2.set ↥S (.dic U))
 |.chn o o' a b d,Z,S,Q=>wE a Z S λp=>wE b Z p.2 λq=>wO (DQ o p.1 q.1 q.2) λk=>(k=true->wE d Z q.2 λr=>wO (dF o' q.1 r.1 r.2) Q)/\(k=false->Q (.bl false,q.2))
 |.ite t a b,Z,S,Q=>wT t Z S λp=>(p.1=true->wE a Z p.2 Q)/\(p.1=false->wE b Z p.2 Q)
 |.comp elt tg it cs cap,Z,S,Q=>Wp (aI M (.comp elt tg it cs cap) Z S) Q
def wT:E->Fm->aa->QB->Prop
 |.cmp o a b,Z,S,Q=>wE a Z S λp=>wE b Z p.2 λq=>wO (bK o p.1 q.1 q.2) λr=>wB r.1 λk=>Q (k,r.2)
 |.and a b,Z,S,Q=>wT a Z S λp=>(p.1=true->wT b Z p.2 Q)/\(p.1=false->Q (false,p.2))
 |.or a b,Z,S,Q=>wT a Z S λp=>(p.1=true->Q (true,p.2))/\(p.1=false->wT b Z p.2 Q)
 |.not a,Z,S,Q=>wT a Z S λp=>Q (!p.1,p.2)
 |.isi c a,Z,S,Q=>wE a Z S λp=>wO (AA p.2 p.1 c) λk=>Q (k,p.2)
 |.c w,Z,S,Q=>Wp (dA M (.c w) Z S) Q
 |.v i,Z,S,Q=>wV Z i λw=>wO (fm S w) λk=>Q (k,S)
 |.op o a b,Z,S,Q=>Wp (dA M (.op o a b) Z S) Q
 |.own f n es,Z,S,Q=>wA es Z S λp=>wO (aJ M f n p.1 p.2) λq=>wO (fm q.2 q.1) λk=>Q (k,q.2)
 |.bi b es,Z,S,Q=>wA es Z S λp=>wO (b.fn p.1 p.2) λq=>wO (fm q.2 q.1) λk=>Q (k,q.2)
 |.me m o es,Z,S,Q=>Wp (dA M (.me m o es) Z S) Q
 |.ix a b,Z,S,Q=>Wp (dA M (.ix a b) Z S) Q
 |.sl a lo hi,Z,S,Q=>Wp (dA M (.sl a lo hi) Z S) Q
 |.tup es,Z,S,Q=>Wp (dA M (.tup es) Z S) Q
 |.lst es,Z,S,Q=>Wp (dA M (.lst es) Z S) Q
 |.neg a,Z,S,Q=>Wp (dA M (.neg a) Z S) Q
 |.dnew,Z,S,Q=>Wp (dA M .dnew Z S) Q
 |.disp es,Z,S,Q=>Wp (dA M (.disp es) Z S) Q
 |.chn o o' a b d,Z,S,Q=>wE a Z S λp=>wE b Z p.2 λq=>wO (DQ o p.1 q.1 q.2) λk=>(k=true->wE d Z q.2 λr=>wO (dF o' q.1 r.1 r.2) λs=>wB s.1 λc=>Q (c,s.2))/\(k=false->Q (false,q.2))
 |.ite t a b,Z,S,Q=>Wp (dA M (.ite t a b) Z S) Q
 |.comp elt tg it cs cap,Z,S,Q=>Wp (dA M (.comp elt tg it cs cap) Z S) Q
def wA:Es->Fm->aa->(Ny W×aa->Prop)->Prop
 |.nil,_,S,Q=>Q ([],S)
 |.cons e es,Z,S,Q=>wE e Z S λp=>wA es Z p.2 λq=>Q (p.1::q.1,q.2)
def wP:Ep->Fm->aa->(NJ NV×aa->Prop)->Prop
 |.no,_,S,Q=>Q (dx,S)
 |.yes a,Z,S,Q=>wE a Z S λp=>wN p.1 λi=>Q (ba i,p.2)
end
abbrev u7 (K:Fm->aa->Prop)(Q:QO)(p:Out×aa):Prop:=match p.1 with
 |.nx Z=>K Z p.2
 |o=>Q (o,p.2)
mutual
def wS:Sm->Fm->aa->(Fm->aa->Prop)->QO->Prop
 |.set i e,Z,S,K,_=>wE M e Z S λp=>K (Z.set i (ba p.1)) p.2
 |.asg is e,Z,S,K,_=>wE M e Z S λp=>wU p.1 λws=>wO (fN is ws Z) λd=>K d p.2
 |.par i j es,Z,S,K,_=>wA M es Z S λp=>w2 p.1 λx y=>K ((Z.set i (ba x)).set j (ba y)) p.2
 |.put o k e,Z,S,K,_=>wE M e Z S λp=>wE M o Z p.2 λq=>wE M k Z q.2 λr=>wO (i5 q.1 r.1 p.1 r.2) λc=>K Z c
 |.ex e,Z,S,K,_=>wE M e Z S λp=>K Z p.2
 |.ret e,Z,S,_,Q=>wE M e Z S λp=>Q (.rt p.1,p.2)
 |.pass,Z,S,K,_=>K Z S
 |.bad,_,_,_,_=>Pg
 |.ite t a b,Z,S,K,Q=>wT M t Z S λp=>∀f:QO,(∀d c,K d c->f (.nx d,c))->(∀o c,(∀d,o≠.nx d)->Q (o,c)->f (o,c))->(p.1=true->ES a Z p.2 f)/\(p.1=false->ES b Z p.2 f)
 |.whl t b,Z,S,K,Q=>Wp (gU M fuel (.whl t b) Z S) (u7 K Q)
 |.loop tg it b,Z,S,K,Q=>Wp (gU M fuel (.loop tg it b) Z S) (u7 K Q)
def ES:Ss->Fm->aa->QO->Prop
 |.nil,Z,S,Q=>Q (.nx Z,S)
 |.cons s ss,Z,S,Q=>wS s Z S (λd c=>ES ss d c Q) Q
end
end
abbrev LQ:Es->NF
 |.nil=>0
 |.cons _ es=>LQ es+1
mutual
def dI:E->Oh
 |.c _|.v _|.comp _ _ _ _ _|.dnew=>true
 |.op _ a b|.cmp _ a b|.and a b|.or a b|.ix a b=>dI a&&dI b
 |.chn _ _ a b c|.ite a b c=>dI a&&dI b&&dI c
 |.neg a|.not a|.isi _ a=>dI a
 |.own _ n es=>LQ es==n&&og es
 |.bi _ es|.disp es=>og es
 |.me _ o es=>dI o&&og es
 |.sl a lo hi=>dI a&&MS lo&&MS hi
 |.tup es|.lst es=>decide (LQ es<=1000)&&og es
def og:Es->Oh
 |.nil=>true
 |.cons e es=>dI e&&og es
def MS:Ep->Oh
 |.no=>true
 |.yes e=>dI e
end
mutual
def Ni:Sm->Oh
 |.set _ e|.asg _ e|.ex e|.ret e=>dI e
 |.put o k e=>dI o&&dI k&&dI e
 |.par _ _ es=>og es
 |.ite t a b=>dI t&&io a&&io b
 |_=>true
def io:Ss->Oh
 |.nil=>true
 |.cons s ss=>Ni s&&io ss
end
def je:∀{es:Es}{Z:Fm}{S a:aa}{ws:Ny W},de M es Z S=ba (ws,a)->↥ws=LQ es
 |.nil,Z,S,a,ws,h=>by cases h;rfl
 |.cons e es,Z,S,a,ws,h=>by
  dsimp only[de]at h;unfold cR at h;split at h
  ·split at h
   next b=>cases h;rw[On,je b];rfl
   ·cases h
  ·cases h
def Bj (h:decide (n<=1000)=true):n<=sizeLine:=N9 (OC h) #v[]
def cw {a :Oh}(h:(a&&b)=true):a=true:=by cases a<;>first|rfl|cases h
def dv {a :Oh}(h:(a&&b)=true):b=true:=by cases a<;>first|show h|cases h
mutual
theorem aU:∀(e:E) {Z:Fm}{S:aa}{Q:QW},dI e=true->wE M e Z S Q->Wp (aI M e Z S) Q
 |.c w,Z,S,Q,k,h=>Nt.mpr h
 |.v i,Z,S,Q,k,h=>Nh.mpr (Bh h)
 |.op o a b,Z,S,Q,k,h=>MK.mpr ((aU a (cw k) h).mono λp g=>(aU b (dv k) g).mono λq j=>bV j)
 |.cmp o a b,Z,S,Q,k,h=>Gf.mpr ((aU a (cw k) h).mono λp g=>(aU b (dv k) g).mono λq j=>bV j)
 |.and a b,Z,S,Q,k,h=>KG.mpr ((aU a (cw k) h).mono λp g=>let ⟨c,e,h1,h2⟩:=sF g;#[c,e,λz=>aU b (dv k) (h1 z),h2])
 |.or a b,Z,S,Q,k,h=>MM.mpr ((aU a (cw k) h).mono λp g=>let ⟨c,e,h1,h2⟩:=sF g;#[c,e,h1,λz=>aU b (dv k) (h2 z)])
 |.not a,Z,S,Q,k,h=>KH.mpr ((aU a k h).mono λp g=>sF g)
 | .own f n es,Z,S,Q,k,h=>Gg.mpr (by
   obtain⟨⟨ws,S1⟩,e,j⟩:=iu es (dv k) h;have hl:↥ws=n:=(je e).trans (eq_of_beq (cw k));simp only[aJ,Ob hl]at j;show#[_,e,hl,bV j])
 |.bi b es,Z,S,Q,k,h=>KL.mpr ((iu es k h).mono λp g=>bV g)
 |.me m o es,Z,S,Q,k,h=>MN.mpr ((aU o (cw k) h).mono λp g=>#[g.1,(iu es (dv k) g.2).mono λq j=>bV j])
 |.ix a b,Z,S,Q,k,h=>ML.mpr ((aU a (cw k) h).mono λp g=>(aU b (dv k) g).mono λq j=>bV j)
 |.sl a lo hi,Z,S,Q,k,h=>MO.mpr ((aU a (cw (cw k)) h).mono λp g=>(Gq lo (dv (cw k)) g).mono λq j=>(Gq hi (dv k) j).mono λr l=>bV l)
 | .tup es,Z,S,Q,k,h=>KN.mpr (by
   obtain⟨⟨ws,S1⟩,e,j⟩:=iu es (dv k) h;show#[_,e,by rw[je e];show Bj (cw k),j])
 | .lst es,Z,S,Q,k,h=>KO.mpr (by
   obtain⟨⟨ws,S1⟩,e,j⟩:=iu es (dv k) h;show#[_,e,by rw[je e];show Bj (cw k),j])
 |.isi c a,Z,S,Q,k,h=>Gh.mpr ((aU a k h).mono λp g=>bV g)
 |.neg a,Z,S,Q,k,h=>KP.mpr ((aU a k h).mono λp g=>Gp g)
 |.dnew,Z,S,Q,k,h=>#[_,rfl,h]
 |.disp es,Z,S,Q,k,h=>Il.mpr ((iu es k h).mono λp g=>#[g.1,let ⟨U,e,q⟩:=bV g.2;#[U,e,q]])
 |.chn o A a b d,Z,S,Q,k,h=>Gi ((aU a (cw (cw k)) h).mono λp g=>(aU b (dv (cw k)) g).mono λq j=>let ⟨c,e,h1,h2⟩:=bV j;#[c,e,λz=>(aU d (dv k) (h1 z)).mono λr l=>bV l,h2])
 |.ite t a b,Z,S,Q,k,h=>KJ.mpr ((jf t (cw (cw k)) h).mono λp g=>#[λz=>aU a (dv (cw k)) (g.1 z),λz=>aU b (dv k) (g.2 z)])
 |.comp v tg it x u,Z,S,Q,k,h=>h
theorem iu:∀(es:Es) {Z:Fm}{S:aa}{Q:Ny W×aa->Prop},og es=true->wA M es Z S Q->Wp (de M es Z S) Q
 |.nil,Z,S,Q,k,h=>KQ.mpr h
 |.cons e es,Z,S,Q,k,h=>Im.mpr ((aU e (cw k) h).mono λp g=>iu es (dv k) g)
theorem Gq:∀(e:Ep) {Z:Fm}{S:aa}{Q:NJ NV×aa->Prop},MS e=true->wP M e Z S Q->Wp (wM M e Z S) Q
 |.no,Z,S,Q,k,h=>MP.mpr h
 |.yes a,Z,S,Q,k,h=>KM.mpr ((aU a k h).mono λp g=>Gp g)
theorem jf:∀(e:E) {Z:Fm}{S:aa}{Q:QB},dI e=true->wT M e Z S Q->Wp (dA M e Z S) Q
 |.cmp o a b,Z,S,Q,k,h=>KR.mpr (Gf.mpr ((aU a (cw k) h).mono λp g=>(aU b (dv k) g).mono λq j=>(bV j).mono λr l=>sF l))
 |.and a b,Z,S,Q,k,h=>KU.mpr ((jf a (cw k) h).mono λp g=>#[λz=>jf b (dv k) (g.1 z),g.2])
 |.or a b,Z,S,Q,k,h=>MQ.mpr ((jf a (cw k) h).mono λp g=>#[g.1,λz=>jf b (dv k) (g.2 z)])
 |.not a,Z,S,Q,k,h=>KW.mpr (jf a k h)
 |.isi c a,Z,S,Q,k,h=>KZ.mpr (Gh.mpr ((aU a k h).mono λp g=>let ⟨b,e,q⟩:=bV g;#[b,e,b,rfl,q]))
 |.v i,Z,S,Q,k,h=>Nu.mpr (Nh.mpr (let ⟨w,e,q⟩:=Bh h;#[w,e,bV q]))
 | .own f n es,Z,S,Q,k,h=>KY.mpr (Gg.mpr (by
   obtain⟨⟨ws,S1⟩,e,j⟩:=iu es (dv k) h;have hl:↥ws=n:=(je e).trans (eq_of_beq (cw k));simp only[aJ,Ob hl]at j;show#[_,e,hl,(bV j).mono λq j=>bV j]))
 |.c w,Z,S,Q,k,h=>h
 |.op o a b,Z,S,Q,k,h=>h
 |.bi b es,Z,S,Q,k,h=>MR.mpr (KL.mpr ((iu es k h).mono λp g=>(bV g).mono λq j=>bV j))
 |.me m o es,Z,S,Q,k,h=>h
 |.ix a b,Z,S,Q,k,h=>h
 |.sl a lo hi,Z,S,Q,k,h=>h
 |.tup es,Z,S,Q,k,h=>h
 |.lst es,Z,S,Q,k,h=>h
 |.neg a,Z,S,Q,k,h=>h
 |.dnew,Z,S,Q,k,h=>h
 |.disp es,Z,S,Q,k,h=>h
 |.chn o A a b d,Z,S,Q,k,h=>KS.mpr (Gi ((aU a (cw (cw k)) h).mono λp g=>(aU b (dv (cw k)) g).mono λq j=>let ⟨c,e,h1,h2⟩:=bV j;#[c,e,λz=>(aU d (dv k) (h1 z)).mono λr l=>(bV l).mono λs y=>sF y,λz=>#[false,rfl,h2 z]]))
 |.ite t a b,Z,S,Q,k,h=>h
 |.comp v tg it x u,Z,S,Q,k,h=>h
end
mutual
theorem Le:∀(s:Sm) {Z:Fm}{S:aa}{K:Fm->aa->Prop}{Q:QO},Ni s=true->wS M fuel s Z S K Q->Wp (gU M fuel s Z S) (u7 K Q)
 |.set i e,Z,S,K,Q,k,h=>Ip.mpr (aU e k h)
 |.asg is e,Z,S,K,Q,k,h=>Iq.mpr ((aU e k h).mono λp hp=>let ⟨ws,e1,h1⟩:=Lc hp;let ⟨Z',e2,h2⟩:=bV h1;#[ws,Z',e1,e2,h2])
 |.par i j es,Z,S,K,Q,k,h=>Ir.mpr ((iu es k h).mono λp hp=>Ld hp)
 |.put o i e,Z,S,K,Q,k,h=>Iu.mpr ((aU e (dv k) h).mono λp hp=>(aU o (cw (cw k)) hp).mono λq hq=>(aU i (dv (cw k)) hq).mono λr hr=>bV hr)
 |.ex e,Z,S,K,Q,k,h=>K4.mpr (aU e k h)
 |.ret e,Z,S,K,Q,k,h=>Iv.mpr (aU e k h)
 |.pass,Z,S,K,Q,k,h=>#[_,rfl,h]
 |.bad,Z,S,K,Q,k,h=>h.elim
 | .ite t a b,Z,S,K,Q,k,h=>Iw.mpr ((jf t (cw (cw k)) h).mono λp hp=>by
   obtain⟨h1,h2⟩:=hp (u7 K Q) (λZ' S' z=>z) (λo S' hn z=>by cases o<;>first|show z|show absurd rfl (hn _))
   show#[λz=>jX a (dv (cw k)) (h1 z),λz=>jX b (dv k) (h2 z)])
 |.whl t b,Z,S,K,Q,k,h=>h
 |.loop tg it b,Z,S,K,Q,k,h=>h
theorem jX:∀(ss:Ss) {Z:Fm}{S:aa}{Q:QO},io ss=true->ES M fuel ss Z S Q->Wp (gc M fuel ss Z S) Q
 |.nil,Z,S,Q,k,h=>K1.mpr h
 | .cons s ss,Z,S,Q,k,h=>Io.mpr ((Le s (cw k) h).mono λp hp=>by
   obtain⟨o,S1⟩:=p;cases o with
   |nx Z'=>show#[λZ2 e=>by cases e;show jX ss (dv k) hp,λz=>absurd rfl (z Z')]
   |_=>show#[λZ2 e=>(by cases e),λ_=>hp])
end
structure wZ (M:Oc->FF)(fuel:NF)(ss:Ss)(Z:Fm)(S:aa)(Q:QO):Prop where
 out:ES M fuel ss Z S Q
def Lf {Q:QO}:ES M fuel ss Z S Q=wZ M fuel ss Z S Q:=propext #[λh=>#[h],λh=>h.out]
def IA (h:defs.lookup f=ba df)(g:↥ws=n)(hl:↥ws=↥df.ps)(ok:io df.body=true)
  (e:∀b:QO,(∀w a,Q (w,a)->b (.rt w,a))->wZ (aq defs fuel d) fuel df.body (fe df.N ws) S b):wO (aJ (aq defs fuel (d+1)) f n ws S) Q:=by
 unfold aJ;rw[Ob g];show Lb (yE h hl ((jX _ ok (e (λp=>match p.1 with|.rt w=>Q (w,p.2)|_=>Pg) λw a q=>q).out).mono λp c=>by
  obtain⟨o,S1⟩:=p;cases o<;>first|show c|show c.elim))
section
variable{K:Fm->aa->Prop}{Q:QO}
abbrev Bk (M:Oc->FF)(fuel:NF)(b:Ss)(Z:Fm)(S:aa)(I:Fm->aa->Prop)(Q:QO):Prop:=∀c:QO,(∀d a,I d a->c (.nx d,a))->(∀w a,Q (.rt w,a)->c (.rt w,a))->wZ M fuel b Z S c
def iJ {it:Ie}{xs:Ny W}(I:NF->Fm->aa->Prop)(ok:io b=true)(hi:jR M it Z S=ba (mi,S1))(d:∀i Z S,I i Z S->mi.at S i=ba xs[i]?)(hl:mi.len S1=ba ↥xs)(e:I 0 Z S1)
  (a:∀ i w Z S,xs[i]?=ba w->I i Z S->wO (mI tg w Z S) λq=>Bk M fuel b q.1 q.2 (I (i+1)) Q) (c:∀Z S,I ↥xs Z S->K Z S):Wp (gU M fuel (.loop tg it b) Z S) (u7 K Q):=by
 (delta gU;rw[K5])
 show#[_,hi,↥xs,hl,?_];show jW  I d (λi w Z S f g=>?_) (λZ S h=>c Z S h) _ 0 Z S1 ∅ e
 show(bV (a i w Z S f g)).mono λq j=>jX b ok (wZ.out (j _ (λ_ _ h=>h) λ_ _ h=>h))
def bR {Q:QW}(ok:dI e=true)(h:wE M e Z S Q):∃w c,aI M e Z S=ba (w,c)/\Q (w,c):=let ⟨⟨w,c⟩,a,b⟩:=aU e ok h;#[w,c,a,b]
def b8 (j:NV)(I:NF->Fm->aa->Prop)(m:dI e=true)(ok:io b=true)(l : -(2^62)<=j/\j<2^62)(k:wE M e Z S λp=>p.1=.int j/\I 0 Z p.2)
  (a:∀(i:NF) Z S,i<j->I i Z S->Bk M fuel b (Z.set f (ba (.int i))) S (I (i+1)) Q) (c:∀Z S,I j.toNat Z S->K Z S):Wp (gU M fuel (.loop (.nm f) (.rng #v[e]) b) Z S) (u7 K Q):=by
 obtain⟨w,S1,g,rfl,h⟩:=bR m k;have hl:(eX 0 j.toNat).length=j.toNat:=by(delta eX;simp)
 show iJ (mi:=.its _)   I ok ?_ (λ_ _ _ _=>rfl) rfl h (λi w Z S hw d=>?_) λZ S d=>c Z S (hl▸d)
 ·(delta jR de cR gD sd;revert g)
  rw[Ob l]
 ·rw[eh]at hw;split at hw
  ·cases hw;rw[Rv];show a i Z S ∅ d
  ·cases hw
def for_tup (xs:Ny W)(I:NF->Fm->aa->Prop)(h:dI e=true)(ok:io b=true)(g:wE M e Z S λp=>p.1=.tup xs/\I 0 Z p.2)
  (a:∀ i w Z S,xs[i]?=ba w->I i Z S->wO (mI tg w Z S) λq=>Bk M fuel b q.1 q.2 (I (i+1)) Q) (c:∀Z S,I ↥xs Z S->K Z S):Wp (gU M fuel (.loop tg (.seq e) b) Z S) (u7 K Q):=by
 obtain⟨w,S1,d,rfl,f⟩:=bR h g;show iJ (mi:=.its xs)  I ok (by revert jR eS d) (λ_ _ _ _=>rfl) rfl f a c
def lE (t:NF)(xs:Ny W)(I:NF->Fm->aa->Prop)(k:dI e=true)(ok:io b=true)(j:wE M e Z S λp=>p.1=.ref t/\I 0 Z p.2)(a:∀i Z S,I i Z S->S[t]?=ba (.lst xs))
  (c:∀ i w Z S,xs[i]?=ba w->I i Z S->wO (mI tg w Z S) λq=>Bk M fuel b q.1 q.2 (I (i+1)) Q) (d:∀Z S,I ↥xs Z S->K Z S):Wp (gU M fuel (.loop tg (.seq e) b) Z S) (u7 K Q):=by
 obtain⟨w,S1,g,rfl,f⟩:=bR k j;show iJ (mi:=.live t)  I ok (by simp only[jR,eS,g,aG (a _ _ _ f)]) (λi Z S h=>by simp only[MI.at,aG (a _ _ _ h)]) (by simp only[MI.len,aG (a _ _ _ f),OJ]) f c d
def Bl (I:NF->Fm->aa->Prop)(m:NF)(i:dI t=true)(ok:io b=true)(g:m<fuel)(d:I m Z S)
  (a:∀m Z S,I m Z S->wT M t Z S λk=>(k.1=true->∃c,m=c+1/\Bk M fuel b Z k.2 (I c) Q)/\(k.1=false->K Z k.2)):Wp (gU M fuel (.whl t b) Z S) (u7 K Q):=by
 change Wp (mC (dA M t) (gc M fuel b) fuel Z S) _;show mP (Q:=u7 K Q) I (λm Z S f=>(jf t i (a m Z S f)).mono λk hk=>#[λz=>?_,λz=>hk.2 z]) fuel m Z S g d
 obtain⟨c,e,h⟩:=hk.1 z;show#[c,e,jX b ok (wZ.out (h _ (λ_ _ h=>h) λ_ _ h=>h))]
abbrev wC (M:Oc->FF):Es->Fm->aa->QB->Prop
 |.nil,_,S,Q=>Q (true,S)
 |.cons e .nil,Z,S,Q=>wT M e Z S Q
 |.cons _ (.cons _ _),_,_,_=>Pg
def Gr {a:Es}{Q:QB}(ok:og a=true)(h:wC M a Z S Q):Wp (Ga M a Z S) Q:=by
 match a,h,ok with
 |.nil,h,_=>show K6.mpr h
 |.cons e .nil,h,ok=>show K7.mpr (jf e (cw ok) h)
abbrev eB (M:Oc->FF)(a:E)(b:Es)(Z:Fm)(S:aa)(G:W->Fm->aa->Prop)(N:Fm->aa->Prop):Prop:=wC M b Z S λk=>(k.1=true->wE M a Z k.2 λy=>G y.1 Z y.2)/\(k.1=false->N Z k.2)
def jY {it:Ie}{xs:Ny W}{Q:QW}(I:NF->Ny W->Fm->aa->Prop)(n:dI b=true)(oc:og f=true)(hi:jR M it Z S=ba (mi,S1))(g:∀i a Z S,I i a Z S->mi.at S i=ba xs[i]?)(hl:mi.len S1=ba ↥xs)(j:I 0 [] (eM d Z) S1)
  (c:∀ i w a Z S,xs[i]?=ba w->I i a Z S->wO (mI tg w Z S) λq=>eB M b f q.1 q.2 (λy=>I (i+1) (a++[y])) (I (i+1) a))
  (e:∀a Z S,I ↥xs a Z S->↥a<=sizeLine/\Q (.ref ↥S,S++[.lst a])):Wp (aI M (.comp b tg it f d) Z S) Q:=by
 rw[Be];show#[_,hi,↥xs,hl,?_];show(dU  (Q:=λq=>↥q.1<=sizeLine/\Q (.ref ↥q.2,q.2++[.lst q.1])) I g (λi w a Z S l m=>?_) e _ 0 [] _ S1 ∅ j).mono λq h=>by simpa using h
 show(bV (c i w a Z S l m)).mono λq h=>(Gr oc h).mono λk hk=>#[λz=>aU b n (hk.1 z),hk.2]
def fP {Q:QW}(j:NV)(I:NF->Ny W->Fm->aa->Prop)(r:dI e=true)(q:dI b=true)(oc:og g=true)(o : -(2^62)<=j/\j<2^62)(n:wE M e Z S λp=>p.1=.int j/\I 0 [] (eM d Z) p.2)
  (c:∀(i:NF) a Z S,i<j->I i a Z S->eB M b g (Z.set k (ba (.int i))) S (λy=>I (i+1) (a++[y])) (I (i+1) a))
  (f:∀a Z S,I j.toNat a Z S->↥a<=sizeLine/\Q (.ref ↥S,S++[.lst a])):Wp (aI M (.comp b (.nm k) (.rng #v[e]) g d) Z S) Q:=by
 obtain⟨w,S1,l,rfl,m⟩:=bR r n;have hl:(eX 0 j.toNat).length=j.toNat:=by simp[eX]
 show jY (mi:=.its _)   I q oc ?_ (λ_ _ _ _ _=>rfl) rfl m (λi w a Z S hw h=>?_) λa Z S h=>f a Z S (hl▸h)
 ·revert jR de cR gD sd l;rw[Ob o]
 ·rw[eh]at hw;split at hw
  ·cases hw;rw[Rv];show c i a Z S ∅ h
  ·cases hw
def qE {a :E}{Q:QW}(xs:Ny W)(I:NF->Ny W->Fm->aa->Prop)(m:dI e=true)(l:dI a=true)(oc:og g=true)(k:wE M e Z S λp=>p.1=.tup xs/\I 0 [] (eM d Z) p.2)
  (b:∀ i w c Z S,xs[i]?=ba w->I i c Z S->wO (mI tg w Z S) λq=>eB M a g q.1 q.2 (λy=>I (i+1) (c++[y])) (I (i+1) c))
  (f:∀c Z S,I ↥xs c Z S->↥c<=sizeLine/\Q (.ref ↥S,S++[.lst c])):Wp (aI M (.comp a tg (.seq e) g d) Z S) Q:=by
 obtain⟨w,S1,h,rfl,j⟩:=bR m k;show jY (mi:=.its xs)  I l oc (by revert jR eS h) (λ_ _ _ _ _=>rfl) rfl j b f
def xj {Q:QW}(t:NF)(xs:Ny W)(I:NF->Ny W->Fm->aa->Prop)(o:dI e=true)(n:dI b=true)(oc:og j=true)(m:wE M e Z S λp=>p.1=.ref t/\I 0 [] (eM f Z) p.2)(c:∀i a Z S,I i a Z S->S[t]?=ba (.lst xs))
  (d:∀ i w a Z S,xs[i]?=ba w->I i a Z S->wO (mI tg w Z S) λq=>eB M b j q.1 q.2 (λy=>I (i+1) (a++[y])) (I (i+1) a))
  (g:∀a Z S,I ↥xs a Z S->↥a<=sizeLine/\Q (.ref ↥S,S++[.lst a])):Wp (aI M (.comp b tg (.seq e) j f) Z S) Q:=by
 obtain⟨w,S1,l,rfl,k⟩:=bR o m;show jY (mi:=.live t)  I n oc (by simp only[jR,eS,l,aG (c _ _ _ _ k)]) (λi a Z S h=>by simp only[MI.at,aG (c _ _ _ _ h)]) (by simp only[MI.len,aG (c _ _ _ _ k),OJ]) k d g
def ET { a:E}{Q:QW}(xs:Ny W)(I:NF->Ny W->Fm->aa->Prop)(o:dI a=true)(r:dI c=true)(oc:og g=true)(m:wE M a Z S λp=>LP p.1=ba xs/\I 0 [] (eM e Z) p.2)
  (d:∀ i x b Z S,xs[i]?=ba x->I i b Z S->wO (mI tg (.tup [.int i,x]) Z S) λq=>eB M c g q.1 q.2 (λy=>I (i+1) (b++[y])) (I (i+1) b))
  (f:∀b Z S,I ↥xs b Z S->↥b<=sizeLine/\Q (.ref ↥S,S++[.lst b])):Wp (aI M (.comp c tg (.enu #v[a]) g e) Z S) Q:=by
 obtain⟨x,S1,j,l,k⟩:=bR o m;have hl:(kY xs).length=↥xs:=by simp[kY]
 show jY (mi:=.its _)   I r oc (by(delta jR de cR gD AQ;revert j l)) (λ_ _ _ _ _=>rfl) rfl k (λi w b Z S hw h=>?_) λb Z S h=>f b Z S (hl▸h)
 obtain⟨y,n,rfl⟩:=i9 hw;show d i y b Z S n h
def Bm { a:E}{Q:QW}(t:NF)(xs:Ny W)(I:NF->Ny W->Fm->aa->Prop)(s:dI a=true)(u:dI c=true)(oc:og g=true)(o:wE M a Z S λp=>p.1=.ref t/\I 0 [] (eM e Z) p.2)(l:∀i b Z S,I i b Z S->S[t]?=ba (.lst xs))
  (d:∀ i x b Z S,xs[i]?=ba x->I i b Z S->wO (mI tg (.tup [.int i,x]) Z S) λq=>eB M c g q.1 q.2 (λy=>I (i+1) (b++[y])) (I (i+1) b))
  (f:∀b Z S,I ↥xs b Z S->↥b<=sizeLine/\Q (.ref ↥S,S++[.lst b])):Wp (aI M (.comp c tg (.enu #v[a]) g e) Z S) Q:=by
 obtain⟨x,S1,n,rfl,j⟩:=bR s o;have hl:(kY xs).length=↥xs:=by simp[kY]
 have m:=λ{i b Z S} h=>aG (l i b Z S h)
 show jY (mi:=.el t)   I u oc (by(delta jR de cR gD AQ LP;simp only[n,m j])) (λi b Z S h=>by simp only[MI.at,m h]) (by simp only[MI.len,m j,OJ]) j (λi w b Z S hw k=>?_) λb Z S k=>f b Z S (hl▸k)
 obtain⟨y,r,rfl⟩:=i9 hw;show d i y b Z S r k
def st {s:Sm}(h:wS M fuel s Z S (λb a=>wZ M fuel ss b a Q) Q):wZ M fuel (.cons s ss) Z S Q:=#[by
 delta ES;revert Lf;show h]
def aW (h:Q (.nx Z,S)):wZ M fuel .nil Z S Q:=#[h]
def ah {a :Ss}{ Q0:QO}(i:t=true->∀d:QO,(∀f c,K f c->d (.nx f,c))->(∀w c,Q (.rt w,c)->d (.rt w,c))->wZ M fuel a Z S d)(j:t=false->∀d:QO,(∀f c,K f c->d (.nx f,c))->(∀w c,Q (.rt w,c)->d (.rt w,c))->wZ M fuel b Z S d) :
  ∀d:QO,(∀f c,K f c->d (.nx f,c))->(∀o c,(∀f,o≠.nx f)->Q (o,c)->d (o,c))->(t=true->ES M fuel a Z S d)/\(t=false->ES M fuel b Z S d):=
 λd g h=>#[λe=>(i e d g λw c=>h (.rt w) c (λ_ z=>nomatch z)).out,λe=>(j e d g λw c=>h (.rt w) c (λ_ z=>nomatch z)).out]
end
abbrev iK:Ss:=
 #v[.ret (.lst #v[.bi .list #v[.v 0],.k 0,.k 0,.k 1,.k 0])]
abbrev dw:Ss:=
 #v[.ite (.and (.cmp .eq (.ix (.v 0) (.k 2)) (.k 0)) (.cmp .lt (.ix (.v 0) (.k 1)) (.bi .len #v[.ix (.v 0) (.k 0)]))) #v[.set 2 (.ix (.ix (.v 0) (.k 0)) (.ix (.v 0) (.k 1))),.put (.v 0) (.k 1) (.op .add (.ix (.v 0) (.k 1)) (.k 1)),.ite (.cmp .ge (.v 2) (.op .pow (.k 10) (.k 18))) #v[.put (.v 0) (.k 2) (.v 2)] #v[.put (.v 0) (.k 3) (.op .mod (.op .add (.op .add (.op .mul (.ix (.v 0) (.k 3)) (.k 40013)) (.op .mod (.v 2) (.k 1000003))) (.k 1)) (.k 2147483647))]] .nil,.ite (.cmp .gt (.ix (.v 0) (.k 2)) (.k 0)) #v[.set 3 (.op .mod (.ix (.v 0) (.k 2)) (.v 1)),.put (.v 0) (.k 2) (.op .fdiv (.ix (.v 0) (.k 2)) (.v 1)),.ret (.v 3)] .nil,.put (.v 0) (.k 4) (.op .add (.ix (.v 0) (.k 4)) (.k 1)),.put (.v 0) (.k 3) (.op .mod (.op .add (.op .add (.op .mul (.ix (.v 0) (.k 3)) (.k 48271)) (.k 12820163)) (.ix (.v 0) (.k 4))) (.k 2147483647)),.ret (.op .mod (.op .fdiv (.op .mod (.op .mul (.op .add (.op .mod (.ix (.v 0) (.k 3)) (.k 65521)) (.k 1)) (.op .add (.op .fdiv (.ix (.v 0) (.k 3)) (.k 65521)) (.k 7919))) (.k 1000003)) (.k 7)) (.v 1))]
abbrev xm:Oc:="_law_alike"
abbrev xC:Oc:="_law_drawn_points"
abbrev x6:Oc:="_law_figure"
abbrev yx:Oc:="_law_letters"
abbrev zz:Oc:="_law_part"
abbrev z4:Oc:="_law_pick"
abbrev uk:Oc:="_law_right"
abbrev um:Oc:="_law_rule_of"
abbrev uv:Oc:="_law_size"
abbrev uw:Oc:="_law_turns"
abbrev vk:Oc:="_law_world"
abbrev vr:Oc:="barred_threes"
abbrev vv:Oc:="best_behind"
abbrev qk:Oc:="first_bar"
abbrev qs:Oc:="first_barred"
abbrev qv:Oc:="in_common"
abbrev q7:Oc:="longer_by_a_way"
abbrev pa:Oc:="part"
abbrev pk:Oc:="point_over"
abbrev px:Oc:="unfilled_behind"
abbrev iw:Ss:=
 #v[.ret (.me .join (.c (.str "")) #v[.comp (.ix (.c (.str "abcdefghijklmnopqrstuvwxyz")) (.own z4 2 #v[.v 2,.k 26])) (.nm 1) (.rng #v[.v 1]) .nil [dx,dx,ba 0]])]
abbrev mS:Ss:=
 #v[.ite (.cmp .ne (.v 1) (.c (.str ""))) #v[.ret (.op .add (.v 1) (.own yx 2 #v[.v 0,.op .add (.k 1) (.own z4 2 #v[.v 0,.k 2])]))] .nil,.ite (.cmp .eq (.own z4 2 #v[.v 0,.k 6]) (.k 0)) #v[.set 2 (.lst #v[.c (.str "markss"),.c (.str "mark"),.c (.str "way"),.c (.str "wayss"),.c (.str "bars"),.c (.str "ba"),.c (.str "somex")]),.set 2 (.op .add (.v 2) (.lst #v[.c (.str "eachx"),.c (.str "note"),.c (.str "no"),.c (.str "ands"),.c (.str "ors"),.c (.str "o"),.c (.str "iss")])),.ret (.ix (.v 2) (.own z4 2 #v[.v 0,.k 14]))] .nil,.ret (.own yx 2 #v[.v 0,.op .add (.k 1) (.own z4 2 #v[.v 0,.k 8])])]
abbrev gH:Ss:=
 #v[.set 2 (.c (.str "")),.ite (.cmp .eq (.own z4 2 #v[.v 0,.k 3]) (.k 0)) #v[.set 2 (.own yx 2 #v[.v 0,.op .add (.k 1) (.own z4 2 #v[.v 0,.k 6])])] .nil,.set 3 (.lst #v[.c (.str "marks"),.c (.str "ways"),.c (.str "bar"),.c (.str "some"),.c (.str "each"),.c (.str "not"),.c (.str "and"),.c (.str "or"),.c (.str "is")]),.loop (.nm 4) (.rng #v[.v 1]) #v[.set 5 (.own "_law_name" 2 #v[.v 0,.v 2]),.set 6 (.k 0),.whl (.cmp .isin (.v 5) (.v 3)) #v[.set 5 (.op .mul (.ix (.c (.str "abcdefghijklmnopqrstuvwxyz")) (.op .mod (.v 6) (.k 26))) (.op .add (.k 1) (.op .fdiv (.v 6) (.k 26)))),.set 6 (.op .add (.v 6) (.k 1))],.ex (.me .append (.v 3) #v[.v 5])],.ret (.bi .tuple #v[.sl (.v 3) (.yes (.k 9)) .no])]
abbrev dB:Ss:=
 #v[.ite (.cmp .lt (.v 3) (.v 2)) #v[.ret (.ix (.ix (.ix (.v 1) (.v 2)) (.k 1)) (.v 3))] .nil,.ret (.ix (.ix (.ix (.v 0) (.k 1)) (.ix (.ix (.ix (.v 1) (.v 3)) (.k 1)) (.v 2))) (.k 1))]
abbrev iL:Ss:=
 #v[.set 3 (.lst .nil),.loop (.nm 4) (.rng #v[.bi .len #v[.v 2]]) #v[.set 5 (.ix (.v 2) (.v 4)),.ex (.me .append (.v 3) #v[.tup #v[.ix (.ix (.v 1) (.v 5)) (.k 0),.bi .tuple #v[.comp (.own "_law_between" 4 #v[.v 3,.v 4,.v 2,.v 1]) (.nm 1) (.seq (.sl (.v 2) .no (.yes (.v 4)))) .nil [dx,dx,ba 5,ba 0,ba 1]]]])],.ret (.bi .tuple #v[.v 3])]
abbrev kG:Ss:=
 #v[.ret (.lst #v[.tup #v[.k 0,.k 1,.k 2],.tup #v[.k 0,.k 2,.k 1],.tup #v[.k 1,.k 0,.k 2],.tup #v[.k 1,.k 2,.k 0],.tup #v[.k 2,.k 0,.k 1],.tup #v[.k 2,.k 1,.k 0]])]
abbrev jg:Ss:=
 #v[.ret (.bi .min #v[.comp (.own zz 3 #v[.v 2,.v 3,.v 1]) (.nm 1) (.seq (.own uw 0 .nil)) .nil [dx,dx,ba 0,ba 1]])]
abbrev kH:Ss:=
 #v[.set 2 (.ix (.lst #v[.lst #v[.tup #v[.k 0]],.lst #v[.tup #v[.k 0,.k 1],.tup #v[.k 1,.k 0]],.lst #v[.tup #v[.k 0,.k 1,.k 2],.tup #v[.k 1,.k 0,.k 2],.tup #v[.k 0,.k 2,.k 1]]]) (.op .sub (.v 1) (.k 1))),.ret (.ix (.v 2) (.own z4 2 #v[.v 0,.bi .len #v[.v 2]]))]
abbrev ff:Ss:=
 #v[.set 4 (.own "_law_names" 2 #v[.v 0,.op .add (.v 1) (.bi .len #v[.v 2])]),.set 5 (.bi .tuple #v[.comp (.tup #v[.ix (.v 4) (.op .add (.v 3) (.v 1)),.ix (.v 2) (.v 1)]) (.nm 1) (.rng #v[.bi .len #v[.v 2]]) .nil [dx,dx,ba 2,ba 1,ba 4]]),.ret (.tup #v[.sl (.v 4) .no (.yes (.v 1)),.v 5,.bi .tuple #v[.bi .sorted #v[.v 3]]])]
abbrev fD:Ss:=
 #v[.set 3 (.lst .nil),.loop (.nm 4) (.rng #v[.k 3]) #v[.ex (.me .append (.v 3) #v[.tup #v[.own z4 2 #v[.v 0,.v 1],.bi .tuple #v[.comp (.own z4 2 #v[.v 2,.v 3]) (.nm 1) (.rng #v[.v 4]) .nil [dx,dx,ba 0,ba 2]]]])],.ret (.bi .tuple #v[.v 3])]
abbrev kI:Ss:=
 #v[.set 1 (.lst #v[.tup #v[.k 1,.k 1],.tup #v[.k 2,.k 1],.tup #v[.k 3,.k 1],.tup #v[.k 1,.k 2],.tup #v[.k 1,.k 2],.tup #v[.k 2,.k 2],.tup #v[.k 2,.k 2],.tup #v[.k 3,.k 2],.tup #v[.k 1,.k 3],.tup #v[.k 1,.k 3],.tup #v[.k 2,.k 3]]),.ret (.ix (.v 1) (.own z4 2 #v[.v 0,.k 11]))]
abbrev c7:Ss:=
 #v[.set 1 (.lst #v[.tup #v[.tup #v[.k 1,.k 0],.disp #v[.tup #v[.k 0,.k 0],.lst #v[.k 0]],.k 3],.tup #v[.tup #v[.k 0,.k 2,.k 1],.disp #v[.tup #v[.k 1,.k 1],.lst #v[.k 1]],.k 2],.tup #v[.tup #v[.k 0,.k 1],.disp #v[.tup #v[.k 1,.k 1],.lst #v[.k 1]],.k 3]]),.ex (.me .append (.v 1) #v[.tup #v[.tup #v[.k 0,.k 1],.disp #v[.tup #v[.k 1,.k 1],.lst #v[.k 1],.tup #v[.k 0,.k 0],.lst #v[.k 1]],.k 3]]),.ex (.me .append (.v 1) #v[.tup #v[.tup #v[.k 0,.k 1],.disp #v[.tup #v[.k 1,.k 1],.lst .nil],.k 1]]),.ex (.me .append (.v 1) #v[.tup #v[.tup #v[.k 0,.k 2,.k 1],.disp #v[.tup #v[.k 0,.k 0],.lst #v[.k 0],.tup #v[.k 0,.k 1],.lst #v[.k 1],.tup #v[.k 1,.k 0],.lst #v[.k 1],.tup #v[.k 1,.k 1],.lst #v[.k 1]],.k 2]]),.ex (.me .append (.v 1) #v[.tup #v[.tup #v[.k 1,.k 0],.dnew,.k 3]]),.ex (.me .append (.v 1) #v[.tup #v[.tup #v[.k 0,.k 1,.k 2],.disp #v[.tup #v[.k 2,.k 2],.lst #v[.k 2],.tup #v[.k 1,.k 2],.lst #v[.k 1],.tup #v[.k 2,.k 1],.lst #v[.k 1],.tup #v[.k 1,.k 1],.lst #v[.k 1,.k 2]],.k 2]]),.ex (.me .append (.v 1) #v[.tup #v[.tup #v[.k 0,.k 1,.k 2],.disp #v[.tup #v[.k 0,.k 0],.lst #v[.k 0,.k 1]],.k 2]]),.ret (.ix (.v 1) (.own z4 2 #v[.v 0,.k 9]))]
abbrev dW:Ss:=
 #v[.set 5 (.disp #v[.tup #v[.k 1,.k 0],.v 2,.tup #v[.k 2,.k 0],.v 3,.tup #v[.k 2,.k 1],.v 4]),.loop (.nm 6) (.seq (.bi .list #v[.v 5])) #v[.put (.v 5) (.tup #v[.ix (.v 6) (.k 1),.ix (.v 6) (.k 0)]) (.ix (.v 0) (.ix (.v 5) (.v 6)))],.loop (.tp [7,8,9]) (.seq (.own uw 0 .nil)) #v[.ite (.cmp .notin (.ix (.v 5) (.tup #v[.v 7,.v 9])) (.me .get (.v 1) #v[.tup #v[.ix (.v 5) (.tup #v[.v 7,.v 8]),.ix (.v 5) (.tup #v[.v 8,.v 9])],.lst #v[.ix (.v 5) (.tup #v[.v 7,.v 9])]])) #v[.ret (.c (.bl true))] .nil],.ret (.c (.bl false))]
abbrev bM:Ss:=
 #v[.set 3 (.bi .len #v[.v 1]),.set 4 (.lst #v[.lst #v[.tup #v[.k 0]],.lst #v[.tup #v[.k 0,.k 1],.tup #v[.k 1,.k 0]]]),.ex (.me .append (.v 4) #v[.lst #v[.tup #v[.k 0,.k 1,.k 2],.tup #v[.k 0,.k 2,.k 1],.tup #v[.k 2,.k 0,.k 1],.tup #v[.k 2,.k 1,.k 0]]]),.set 5 (.ix (.v 4) (.op .sub (.v 3) (.k 1))),.ite (.cmp .eq (.v 1) (.tup #v[.k 0,.k 1,.k 2])) #v[.set 5 (.own uw 0 .nil)] .nil,.set 6 (.ix (.v 5) (.own z4 2 #v[.v 0,.bi .len #v[.v 5]])),.set 7 (.op .mul (.lst #v[.k 0]) (.v 3)),.loop (.nm 8) (.rng #v[.v 3]) #v[.put (.v 7) (.ix (.v 6) (.v 8)) (.ix (.v 6) (.ix (.v 1) (.v 8)))],.set 9 .dnew,.loop (.tp [10,11]) (.seq (.v 2)) #v[.put (.v 9) (.tup #v[.ix (.v 6) (.v 10),.ix (.v 6) (.v 11)]) (.comp (.ix (.v 2) (.v 1)) (.nm 1) (.seq (.ix (.v 2) (.tup #v[.v 10,.v 11]))) .nil [dx,dx,ba 6])],.ret (.tup #v[.bi .tuple #v[.v 7],.v 9])]
abbrev b9:Ss:=
 #v[.set 1 (.own z4 2 #v[.v 0,.k 7]),.ite (.cmp .eq (.v 1) (.k 0)) #v[.ret (.own "_law_free_rule" 1 #v[.v 0])] .nil,.ite (.cmp .eq (.v 1) (.k 1)) #v[.ret (.own "_law_one_way_rule" 1 #v[.v 0])] .nil,.asg [2,3,4] (.own "_law_laying_kind" 1 #v[.v 0]),.set 5 (.op .add (.k 1) (.own z4 2 #v[.v 0,.v 4])),.asg [2,3] (.own "_law_numbered" 3 #v[.v 0,.v 2,.v 3]),.set 6 (.own um 4 #v[.v 0,.v 5,.v 2,.tup .nil]),.set 7 .dnew,.set 8 (.bi .len #v[.v 2]),.loop (.nm 9) (.rng #v[.op .mul (.op .mul (.v 8) (.v 8)) (.v 8)]) #v[.par 10 11 #v[.op .mod (.v 9) (.v 8),.op .mod (.op .fdiv (.v 9) (.v 8)) (.v 8)],.set 12 (.op .fdiv (.op .fdiv (.v 9) (.v 8)) (.v 8)),.ite (.own "_law_breaks" 5 #v[.v 2,.v 3,.v 10,.v 11,.v 12]) #v[.loop (.nm 13) (.seq (.own "_law_rising" 1 #v[.v 5])) #v[.set 14 (.tup #v[.tup #v[.ix (.v 13) (.k 0),.tup .nil],.tup #v[.ix (.v 13) (.k 1),.tup #v[.v 10]]]),.put (.v 7) (.own x6 2 #v[.v 6,.op .add (.v 14) (.tup #v[.tup #v[.ix (.v 13) (.k 2),.tup #v[.v 11,.v 12]]])]) (.c (.bl true))]] .nil],.ret (.tup #v[.ix (.v 6) (.k 0),.ix (.v 6) (.k 1),.bi .tuple #v[.bi .sorted #v[.v 7]]])]
abbrev jh:Ss:=
 #v[.set 1 (.lst .nil),.loop (.nm 2) (.rng #v[.v 0]) #v[.loop (.nm 3) (.rng2 #v[.v 2,.v 0]) #v[.set 1 (.op .add (.v 1) (.comp (.tup #v[.v 2,.v 3,.v 1]) (.nm 1) (.rng2 #v[.v 3,.v 0]) .nil [dx,dx,ba 2,ba 3]))]],.ret (.v 1)]
abbrev cJ:Ss:=
 #v[.asg [1,2] (.own "_law_sizes" 1 #v[.v 0]),.set 3 (.own um 4 #v[.v 0,.v 1,.own "_law_backs" 2 #v[.v 0,.v 2],.tup .nil]),.set 5 (.comp (.v 1) (.nm 1) (.rng #v[.v 2]) #v[.cmp .eq (.ix (.ix (.ix (.v 2) (.k 1)) (.v 1)) (.k 1)) (.v 1)] [dx,dx,ba 3]),.ite (.or (.cmp .eq (.v 5) (.lst .nil)) (.cmp .eq (.v 2) (.k 1))) #v[.ret (.v 3)] .nil,.set 6 (.ix (.v 5) (.own z4 2 #v[.v 0,.bi .len #v[.v 5]])),.set 7 .dnew,.loop (.nm 4) (.rng #v[.own z4 2 #v[.v 0,.k 9]]) #v[.set 8 (.own "_law_free_three" 3 #v[.v 0,.v 1,.v 2]),.ite (.and (.cmp .ne (.ix (.ix (.ix (.v 8) (.k 1)) (.k 1)) (.k 0)) (.v 6)) (.cmp .notin (.v 6) (.ix (.ix (.v 8) (.k 2)) (.k 1)))) #v[.put (.v 7) (.own x6 2 #v[.v 3,.v 8]) (.c (.bl true))] .nil],.ret (.tup #v[.ix (.v 3) (.k 0),.ix (.v 3) (.k 1),.bi .tuple #v[.bi .sorted #v[.v 7]]])]
abbrev bS:Ss:=
 #v[.set 1 (.op .add (.k 1) (.own z4 2 #v[.v 0,.k 3])),.set 2 (.comp (.tup #v[.tup #v[.v 1,.tup .nil],.tup #v[.v 1,.tup #v[.k 0]],.tup #v[.v 1,.tup #v[.k 0,.k 0]]]) (.nm 1) (.rng #v[.v 1]) #v[.cmp .eq (.own z4 2 #v[.v 2,.k 2]) (.k 0)] [dx,dx,ba 0]),.ret (.own um 4 #v[.v 0,.v 1,.tup #v[.k 0],.v 2])]
abbrev cj:Ss:=
 #v[.ite (.cmp .is (.v 1) (.c .non)) #v[.ret (.cmp .is (.v 0) (.c .non))] .nil,.ite (.or (.isi "bool" (.v 1)) (.isi "bool" (.v 0))) #v[.ret (.and (.isi "bool" (.v 1)) (.and (.isi "bool" (.v 0)) (.cmp .eq (.v 0) (.v 1))))] .nil,.ite (.isi "int" (.v 1)) #v[.ret (.and (.isi "int" (.v 0)) (.cmp .eq (.v 0) (.v 1)))] .nil,.ite (.isi "str" (.v 1)) #v[.ret (.and (.isi "str" (.v 0)) (.cmp .eq (.v 0) (.v 1)))] .nil,.ite (.or (.cmp .ne (.isi "tuple" (.v 1)) (.isi "tuple" (.v 0))) (.cmp .ne (.isi "list" (.v 1)) (.isi "list" (.v 0)))) #v[.ret (.c (.bl false))] .nil,.ret (.and (.cmp .eq (.bi .len #v[.v 0]) (.bi .len #v[.v 1])) (.bi .all #v[.comp (.own xm 2 #v[.ix (.v 3) (.v 1),.ix (.v 2) (.v 1)]) (.nm 1) (.rng #v[.bi .len #v[.v 1]]) .nil [dx,dx,ba 1,ba 0]]))]
abbrev Is (defs:Ny (Oc×Df))(f:Oc)(a nn:NF)(b:Ss):Prop:=∃df:Df,defs.lookup f=ba df/\↥df.ps=a/\↥df.N=nn/\df.body=b
def au (h:Is defs f c nn b)(hl:↥ws=c)(ok:io b=true)
  (m:∀a:QO,(∀w e,Q (w,e)->a (.rt w,e))->wZ (aq defs fuel d) fuel b (ws.map ba++OB (nn-c) dx) S a):wO (aJ (aq defs fuel (d+1)) f c ws S) Q:=by
 obtain⟨df,g,i,j,k⟩:=h;subst k;show IA g hl (hl.trans i.symm) ok λa l=>?_
 have:=m a l;unfold fe;rw[j,hl];show this
structure Gen (defs:Ny (Oc×Df)):Prop where
 pick:Is defs ("_law_pick": Oc) 2 4 dw
 letters:Is defs ("_law_letters": Oc) 2 2 iw
 name:Is defs ("_law_name": Oc) 2 3 mS
 names:Is defs ("_law_names": Oc) 2 7 gH
 between:Is defs ("_law_between": Oc) 4 4 dB
 part:Is defs ("_law_part": Oc) 3 6 iL
 turns:Is defs ("_law_turns": Oc) 0 0 kG
 figure:Is defs ("_law_figure": Oc) 2 2 jg
 backs:Is defs ("_law_backs": Oc) 2 3 kH
 rule_of:Is defs ("_law_rule_of": Oc) 4 6 ff
 free_three:Is defs ("_law_free_three": Oc) 3 5 fD
 sizes:Is defs ("_law_sizes": Oc) 1 2 kI
 laying_kind:Is defs ("_law_laying_kind": Oc) 1 2 c7
 breaks:Is defs ("_law_breaks": Oc) 5 10 dW
 numbered:Is defs ("_law_numbered": Oc) 3 12 bM
 laying_rule:Is defs ("_law_laying_rule": Oc) 1 15 b9
 rising:Is defs ("_law_rising": Oc) 1 4 jh
 free_rule:Is defs ("_law_free_rule": Oc) 1 9 cJ
 one_way_rule:Is defs ("_law_one_way_rule": Oc) 1 3 bS
structure FlA (S:aa)(r q:NF)(ns:Ny NV)(i c x n:NV):Prop where
 at_r:S[r]?=ba (.lst [.ref q,.int i,.int c,.int x,.int n])
 at_q:S[q]?=ba (.lst (ns.map W.int))
 lt:q<r
 i0:0<=i
 c0:0<=c
 x0:0<=x
 x1:x<2147483647
def FlA.ne { q:NF}{a:Ny NV}(h:FlA S r q a i c x n):q≠r:=Oe h.lt
abbrev Fl (S:aa)(r:NF):Prop:=∃(q:NF) (ns:Ny NV) (i c x n:NV),FlA S r q ns i c x n
def FlA.put { q:NF}{      a :NV}(h:FlA S r q f i c x n)(g:0<=d)(j:0<=b)(k:0<=a)(l:a<2147483647):FlA (S.set r (.lst [.ref q,.int d,.int b,.int a,.int e])) r q f d b a e:=
 #[bg h.at_r,by rw[be (Ne.symm h.ne)];show h.at_q,h.lt,g,j,k,l]
def Fl.keep { a:aa}(h:Fl S r)(b:a[r]?=S[r]?)(k:Kp r S a):Fl a r:=
 let ⟨q,ns,i,c,x,n,f⟩:=h;#[q,ns,i,c,x,n,by rw[b];show f.at_r,k.get _ _ f.ne f.at_q,f.lt,f.i0,f.c0,f.x0,f.x1]
def Fl.lt (h:Fl S r):r<↥S:=let ⟨_,_,_,_,_,_,f⟩:=h;bQ f.at_r
structure Ka (S S':aa):Prop where
 get:∀(j:NF) (o:O),S[j]?=ba o->S'[j]?=ba o
 len:↥S<=↥S'
def Ka.refl :Ka S S:=#[λ_ _ h=>h,NP _]
def Ka.trans (a:Ka S d)(b:Ka d c):Ka S c:=#[λj o h=>b.get j o (a.get j o h),N9 a.len b.len]
def Ka.push :Ka S (S++[o]):=#[λj u h=>aB h,by simp]
def Ka.late (a:Ka b S)(h:↥b<=t):Ka b (S.set t o):=
 #[λj u e=>by have:=bQ e;rw[be ∅];show a.get j u e,by simpa using a.len]
def Ka.kp (a:Ka S b)(r:NF):Kp r S b:=#[λj o _ h=>a.get j o h,a.len]
def Fl.ka { a:aa}(h:Fl S r)(k:Ka S a):Fl a r:=h.keep (by obtain⟨q,b,i,c,x,n,f⟩:=h;rw[k.get _ _ f.at_r,f.at_r]) (k.kp r)
def Fl.own (h:Fl S r)(b:r<t):Fl (S.set t o) r:=by
 obtain⟨q,a,i,c,x,n,f⟩:=h;have:=f.lt;show#[q,a,i,c,x,n,by rw[be ∅];show f.at_r,by rw[be ∅];show f.at_q,f.lt,f.i0,f.c0,f.x0,f.x1]
def eC {i:NF}(h:S[r]?=ba (.lst xs))(hw:xs[i]?=ba w)(q:Q (w,S)):wO (p9 (.ref r) (.int i) S) Q:=ab (Bf h (NX i) (by show hw)) q
def o5 {Q:aa->Prop}(h:S[r]?=ba (.lst xs))(hi:Yj (i+1) ↥xs=true)(q:Q (S.set r (.lst (xs.set i w)))):wO (i5 (.ref r) (.int i) w S) Q:=ab (Gn h (NX i) (by show OA hi)) (by show q)
variable{defs:Ny (Oc×Df)}{d r:NF}
def aY (hd:Is defs ("_law_pick") 2 4 dw)(R:Fl S r)(D:0<m)(O:m<1073741824)(k:∀v t,0<=v->v<m->Fl t r->Kp r S t->Q (.int v,t)) :
  wO (aJ (aq defs fuel (d+1)) z4 2 [.ref r,.int m] S) Q:=by
 obtain⟨q,p,i,c,x,n,f⟩:=R;show au hd rfl rfl λC P=>?_
 replace k:=λv t a b c e=>P _ _ (k v t a b c e)
 change wZ _ _ dw [ba (.ref r),ba (.int m),dx,dx] S C;have cf:∀S1 w2 w u s l,FlA S1 r q p w u s l->Kp r S S1->wZ (aq defs fuel d) fuel (match dw with|.cons _ ss=>ss|.nil=>.nil) [ba (.ref r),ba (.int m),w2,dx] S1 C:=by
  intro S1 w2 w u s l g L;delta dw;show st ?_;delta wS wT wE;show eC  g.at_r rfl ?_;dsimp only[];show ah (Q0:=C) (λE o h G=>?_) (λE o h G=>?_)
  ·clear h;show st ?_;left;show eC  g.at_r rfl (ab (mQ D) ?_);show st ?_;left;show eC  g.at_r rfl (ab (mR D O) (o5  g.at_r rfl ?_));show st ?_;left;show G _ _ (k _ _ (QD _ ∅) (Qd _ D) #[q,p,w,u/m,s,l,g.put g.i0 (Sk g.c0 ∅) g.x0 g.x1] (L.trans .set))
  ·show aW (h _ _ ?_);clear h G;have H:FlA (S1.set r (.lst [.ref q,.int w,.int u,.int s,.int (l+1)])) r q p w u s (l+1):=g.put g.i0 g.c0 g.x0 g.x1;show st ?_;left;show eC  g.at_r rfl ?_;dsimp only[];show o5  g.at_r rfl ?_;show st ?_;left;show eC  H.at_r rfl (ab (xi #v[] #v[]) ?_)
   dsimp only[];show eC  H.at_r rfl ?_;dsimp only[];show(o5  H.at_r rfl ?_);have A:FlA ((S1.set r (.lst [.ref q,.int w,.int u,.int s,.int (l+1)])).set r (.lst [.ref q,.int w,.int u,.int ((s*48271+12820163+(l+1)) % 2147483647),.int (l+1)])) r q p w u ((s*48271+12820163+(l+1)) % 2147483647) (l+1):=H.put g.i0 g.c0 (QD _ #v[]) (Qd _ #v[])
   left;generalize(s*48271+12820163+(l+1)) % 2147483647=y at A ⊢;have N:y/65521+7919<2^64:=by
    have:=A.x1;have:=Int.ediv_le_self 65521 A.x0;omega
   have b2 : -(2^64)<y/65521+7919:=by
    have:=Sk A.x0 (show 0<=65521 by decide)
    omega
   show st ?_;left;show eC  A.at_r rfl (ab (mQ #v[]) ?_)
   dsimp only[];show eC  A.at_r rfl ?_;delta wO;show ab (xi b2 N) ?_;show ab (mQ D) ?_;show k _ _ (QD _ ∅) (Qd _ D) #[q,p,_,_,_,_,A] (L.trans (Kp.set.trans .set))
 show st ?_;delta wS wT wE wV wG wA;show eC  f.at_r rfl ?_;delta im wO;have skip:∀o:QO,(∀J t,wZ (aq defs fuel d) fuel _ J t C->o (.nx J,t))->o (.nx [ba (.ref r),ba (.int m),dx,dx],S):=λo h=>h _ _ (cf S dx i c x n f .refl)
 show#[λ_=>?_,λ_ o h G=>#[λz=>(by cases z),λ_=>(aW (skip o h)).out]]
 show eC  f.at_r rfl (eC  f.at_r rfl (ab (Go f.at_q) ?_));dsimp only[];show ah (Q0:=C) (λhl o h _=>?_) (λE o h G=>aW (skip o h))
 clear skip;have I:i.toNat<↥p:=by
  have:=OC hl;rw[Nz]at this;have:=f.i0;omega
 have j:(p.map W.int)[i.toNat]?=ba (.int p[i.toNat]):=by simp[I]
 generalize p[i.toNat]=cell at j;have g:FlA (S.set r (.lst [.ref q,.int (i+1),.int c,.int x,.int n])) r q p (i+1) c x n:=f.put (by have:=f.i0;omega) f.c0 f.x0 f.x1
 show st ?_;left;show eC  f.at_r rfl (eC  f.at_r rfl (ab (Bf f.at_q f.i0 j) ?_));show st ?_;left;show eC  f.at_r rfl ?_;dsimp only[];show o5  f.at_r rfl ?_;show st ?_;delta wS wT wE Ix;show ah (Q0:=C) (λE M B _=>?_) (λE M B _=>?_)
 ·show st ?_;left;show o5  g.at_r rfl (aW (B _ _ (aW (h _ _ ?_))));show cf _ _ (i+1) cell x n (g.put g.i0 (by have:=OC E;omega) f.x0 f.x1) (Kp.set.trans .set)
 ·show st ?_;left;show eC  g.at_r rfl (ab (xi #v[] #v[]) (ab (mQ #v[]) ?_))
  dsimp only[];show o5  g.at_r rfl (aW (B _ _ (aW (h _ _ ?_))));show cf _ _ (i+1) c _ n (g.put g.i0 f.c0 (QD _ #v[]) (Qd _ #v[])) (Kp.set.trans .set)
abbrev dr:NF->Ss->Ss
 |0,ss=>ss
 |n+1,.cons _ ss=>dr n ss
 |_,.nil=>.nil
def bv {a:α}{Q:α->Prop}:wO (ba a) Q=Q a:=rfl
def aK {Q:QO}{s:Sm}(h:∀K:Fm->aa->Prop,(∀b a,wZ M fuel ss b a Q->K b a)->wS M fuel s Z S K Q):wZ M fuel (.cons s ss) Z S Q:=st (h _ λ_ _ h=>h)
def Lg {K:Fm->aa->Prop}{Q:QO}(h:wE M e Z S λp=>K (Z.set i (ba p.1)) p.2):wS M fuel (.set i e) Z S K Q:=h
def gI {n:NF}(h:Yj n 1000=true):n<=sizeLine:=N9 (OA h) #v[]
def jB (h:n<=1000):n<=sizeLine:=N9 h #v[]
def kJ (h:S[r]?=ba (.lst xs))(a:0<=i)(hw:xs[i.toNat]?=ba w)(q:Q (w,S)):wO (p9 (.ref r) (.int i) S) Q:=ab (Bf h a hw) q
def ag (a:0<=i)(hw:xs[i.toNat]?=ba w)(q:Q (w,S)):wO (p9 (.tup xs) (.int i) S) Q:=ab (K9 a hw) q
def kK (h:S[r]?=ba (.lst xs))(hl:↥xs<1000)(q:Q (.non,S.set r (.lst (xs++[y])))):wO (Me.append.fn (.ref r) [y] S) Q:=ab (Bg h (N5 hl (gI rfl))) q
def kL (h:S[r]?=ba (.lst xs))(q:Q (.int ↥xs,S)):wO (Bi.len.fn [.ref r] S) Q:=ab (Go h) q
def az (q:Q (.int ↥xs,S)):wO (Bi.len.fn [.tup xs] S) Q:=q
def c8 (h:S[r]?=ba (.lst xs))(q:Q (.tup xs,S)):wO (Bi.tuple.fn [.ref r] S) Q:=ab (La h) q
section
variable{S1:aa}{K:Fm->aa->Prop}
def dg {a:Ss}{Q:QO}(c:∀Q:QB,Q (false,S1)->wT M t Z S Q)(h:K Z S1):wS M fuel (.ite t a .nil) Z S K Q:=by
 show c _ λd b e=>#[λz=>(by cases z),λ_=>(aW (b _ _ h)).out]
def mT {a :Ss}{Q:QO}(i:∀Q:QB,Q (true,S1)->wT M t Z S Q)(h:∀d:QO,(∀e c,K e c->d (.nx e,c))->(∀w c,Q (.rt w,c)->d (.rt w,c))->wZ M fuel a Z S1 d):wS M fuel (.ite t a b) Z S K Q:=by
 show i _ λd f g=>#[λ_=>(h d f λw c q=>g _ c (λ_ z=>nomatch z) q).out,λz=>(by cases z)]
end
def Bn:∀k:Fin 26,("abcdefghijklmnopqrstuvwxyz": Oc).cps.toList[k.val]?=ba (97+k.val):=by decide
def xk:("abcdefghijklmnopqrstuvwxyz": Oc).length<=sizeLine:=by decide
def mU:∀a:Ny NF,jI (a.map λc=>W.str #[[c].toArray])=ba (a.map λc=>(#[[c].toArray]))
 |[]=>rfl
 |c::a=>by simp[jI,mU a]
def o7:∀a:Ny NF,((a.map λc=>(#[[c].toArray]:Oc)).map (·.length)).sum=↥a
 |[]=>rfl
 |c::a=>by
  have:=o7 a;revert OP List.sum_cons On;rw[this];change 1+↥a=_;omega
def fQ (a b:Oc):(a++b).cps.toList=a.cps.toList++b.cps.toList:=Array.toList_append
def mV:∀a:Ny NF,(Yc "" (a.map λc=>(#[[c].toArray]))).cps.toList=a
 |[]=>rfl
 |[c]=>rfl
 |c::d::a=>by
  have ih:=mV (d::a);show((#[[c].toArray]++("")++Yc "" _).cps).toList=_;rw[fQ,fQ,ih];rfl
def sG (a:Ny NF):(X8 "" (a.map λc=>(#[[c].toArray]))).cps.toList=a:=by
 show(XY "" _).cps.toList=_;rw[StrLaws.glued_eq_join];show mV a
abbrev xn (y:Oc):Prop:=∀c∈y.cps.toList,97<=c/\c<=122
abbrev Name (y:Oc):Prop:=1<=↥y.cps.toList/\↥y.cps.toList<=8/\xn y
def xo (y:Oc):↥y=↥y.cps.toList:=by simp[XH]
abbrev Bo:Ny Oc:=["markss","mark","way","wayss","bars","ba","somex","eachx","note","no","ands","ors","o","iss"]
def yF:∀y∈Bo,Name y:=by
 have h:Bo.all (λy=>decide (1<=↥y.cps.toList/\↥y.cps.toList<=8)&&y.cps.toList.all λc=>decide (97<=c/\c<=122))=true:=by decide
 intro y d;have:=N6.mp h y d;rw[NM]at this;obtain⟨a,b⟩:=this;show#[(OC a).1,(OC a).2,λc hc=>OC (N6.mp b c hc)]
def mW {α:Type}{f:α->W}{xs:Ny α}(h:i<↥xs):∃x∈xs,(xs.map f)[i]?=ba (f x):=#[xs[i],OE _,by rw[NO,NK h];rfl]
def jZ (G:Gen defs)(q:Fl S r)(A:0<=m)(B:m<=1000)(k:∀y e,↥y.cps.toList=m.toNat->xn y->Fl e r->Kp r S e->Q (.str y,e)) :
  wO (aJ (aq defs fuel (d+2)) yx 2 [.ref r,.int m] S) Q:=by
 show au G.letters rfl rfl λw o=>?_
 show st ?_;left;show#[rfl,fP m (λi j Z e=>(∃a,Z=[dx,a,ba _])/\Fl e r/\Kp r S e/\∃b:Ny NF,j=b.map (λc=>W.str #[[c].toArray])/\↥b=i/\∀c∈b,97<=c/\c<=122) rfl rfl rfl #[∅,∅] #[rfl,#[dx,rfl],q,.refl,[],rfl,rfl,λ_ h=>nomatch h] ?_ ?_]
 ·rintro i j Z S1 hi ⟨⟨a,rfl⟩,f,g,b,rfl,hl,hc⟩;delta eB wC wE wA wV wG NG;show#[λ_=>aY  G.pick f #v[] #v[] λv x n C l u=>?_,λz=>by cases z]
  have p:=Bn #[v.toNat,∅]
  show ab (Gm xk n p) #[#[_,rfl],l,g.trans u,b++[97+v.toNat],by simp,by simp[hl],λc s=>?_]
  rcases Oa.mp s with h|h
  ·show hc c h
  ·rw[NT.mp h];omega
 ·rintro j Z S1 ⟨_,f,g,b,rfl,hl,hc⟩;show#[by rw[Nz,hl,O4];omega,?_]
  have t:((b.map λc=>(#[[c].toArray]:Oc)).map (·.length)).sum+(b.map λc=>(#[[c].toArray]:Oc)).length*("": Oc).length<=16777216:=by
   rw[o7,show("": Oc).length=0 from rfl,Nat.mul_zero]
   omega
  show ab (a:=(.str _,S1++[.lst (b.map λc=>W.str #[[c].toArray])])) ?_ (o _ _ (k _ _ (by rw[sG,hl]) (λc h=>hc c (by rw[sG]at h;show h)) (f.ka .push) (g.trans .push)))
  simp only[Me.fn,v4,cQ,aG af,mU];rw[Ob t]
def IB (G:Gen defs)(w:Fl S r)(H:↥y.cps.toList<=6)(B:xn y)(k:∀z g,Name z->Fl g r->Kp r S g->Q (.str z,g)) :
  wO (aJ (aq defs fuel (d+3)) "_law_name" 2 [.ref r,.str y] S) Q:=by
 show au G.name rfl rfl λt C=>?_
 replace k:=λz g a b c=>C _ _ (k z g a b c)
 nofun
 show ah (Q0:=t) (λ_ m _ o=>?_) (λ_ m n _=>?_)
 ·show st ?_;left;show aY  G.pick w #v[] #v[] λv S1 l s h j=>?_
  show jZ  G h ∅ ∅ λz u q p i f=>?_
  have hl:(y++z).cps.toList.length=↥y.cps.toList+↥z.cps.toList:=by rw[fQ,NE]
  show ab (Iy (by rw[xo,xo,O4];omega)) (o _ _ (k _ _ #[∅,∅,λc hc=>?_] i (j.trans f)))
  rw[fQ]at hc;show(Oa.mp hc).elim (B c) (p c)
 ·show aW (n _ _ (hK _ _ ?_));nofun
  delta wS wT wE wA;show aY  G.pick w #v[] #v[] λv S1 l s h j=>?_
  show ah (Q0:=t) (λ_ m _ o=>?_) (λ_ m n _=>?_)
  ·show st ?_;left;show st ?_;left;show ab (u6   (aB af) af (gI rfl)) ?_;show st ?_;left;show aY  G.pick (((h.ka .push).ka .push).ka .push) #v[] #v[] λv u l s i f=>?_
   have e:=f.get _ _ (by have:=h.lt;revert NE;omega) af
   obtain⟨z,q,x⟩:=mW  (xs:=Bo)  (by change v.toNat<14;omega)
   show kJ e l x (o _ _ (k _ _ (yF z q) i (j.trans (Kp.push.trans (Kp.push.trans (Kp.push.trans f))))))
  ·show aW (n _ _ (hK _ _ ?_));show st ?_;left;show aY  G.pick h #v[] #v[] λv u l s i f=>?_
   show jZ  G i ∅ ∅ λz E q p A D=>k _ _ #[∅,∅,p] A (j.trans (f.trans D))
def bY {α:Type}[Ro α]:∀(l m:Ny α),l.Nodup->(∀x∈l,x∈m)->↥l<=↥m
 |[],_,_,_=>Pj _
 |x::l,m,a,b=>by
  rw[Pp]at a;have c:=b x (.head _);have f:=bY l (m.erase x) a.2 λy d=>(List.mem_erase_of_ne (λe=>a.1 (by rw[<- e];show d))).mpr (b y (.tail _ d))
  rw[List.length_erase_of_mem c]at f;have:=TY c;rw[On];omega
abbrev qF (k:NF):Oc:=#[[97+k].toArray]
def Bp {a :NF}(h:qF a=qF b):a=b:=by
 injection h with h
 injection h with h
 injection h with h
 omega
def sH (s:NF):((NQ s).map qF).Nodup:=by
 unfold XS;rw[P4];show List.nodup_range.imp λh e=>h (Bp e)
def yG (h:k<26):Name (qF k):=#[NP 1,(by decide:1<=8),λc hc=>by
 cases NT.mp hc;omega]
abbrev j3:Ny Oc:=["marks","ways","bar","some","each","not","and","or","is"]
def Bq (b:Ny Oc):(b.map W.str).all aR=true:=by
 rw[N6];intro x a;obtain⟨z,_,rfl⟩:=NS.mp a;rfl
def EU (a:Ny Oc)(y:Oc):((a.map W.str).any λz=>iU z (.str y))=decide (y∈a):=by
 induction a with
 |nil=>rfl
 |cons z a ih=>
  rw[OP,PC,ih];show((z==y)||_)=_
  by_cases h:z=y
  ·subst h;simp
  ·have:(z==y)=false:=by simpa using h
   rw[this,Sh];have b:(y∈z::a)=(y∈a):=by simp[Ne.symm h]
   revert b
def yH {a:Ny Oc}(h:S[t]?=ba (.lst (a.map W.str))):bK .isin (.str y) (.ref t) S=ba (.bl (decide (y∈a)),S):=by
 show(match fL S t with
  |some U=>(eL _).map λk=>(W.bl _,S)
  |none=>dF _ _ _ S)=_
 rw[gX h];show EO (qA (aG h) (by rw[Bq];rfl) (EU a y))
def IC :gS .mul (.str #[[k].toArray]) (.int 1) S=ba (.str #[[k].toArray],S):=by
 unfold gS zS;dsimp only
 rfl
def fE {k:NF}:pW xs dx (ba k)=xs.take k:=by
 unfold pW;rw[HT.rz,HT.vR,WF,W8]
 by_cases h:k<=↥xs
 ·rw[T7 h]
 ·rw[Tk ∅,Rb (NP _),Rb ∅]
def Br {k:NF}:pW xs (ba k) dx=xs.drop k:=by
 unfold pW;rw[HT.rz,HT.vR]
 by_cases h:k<=↥xs
 ·rw[T7 h,Rb (by rw[Rt];show NP _)]
 ·rw[Tk ∅,TZ (NP _),TZ ∅];show List.take_nil
def EV { z :W}{a:Ny Oc}{K:Fm->aa->Prop}{Q:QO}(A:20<fuel)(D:Name y)(e:S[t]?=ba (.lst (a.map W.str)))(hl:↥a<=15)
  (k:∀y s,Name y->y∉a->K [ba (.ref r),ba m,ba z,ba (.ref t),ba w,ba (.str y),ba s] S) :
  wS M fuel (.whl (.cmp .isin (.v 5) (.v 3)) #v[.set 5 (.op .mul (.ix (.c (.str "abcdefghijklmnopqrstuvwxyz")) (.op .mod (.v 6) (.k 26))) (.op .add (.k 1) (.op .fdiv (.v 6) (.k 26)))),.set 6 (.op .add (.v 6) (.k 1))])
   [ba (.ref r),ba m,ba z,ba (.ref t),ba w,ba (.str y),ba (.int 0)] S K Q:=by
 delta wS;show Bl (λl Z c=>∃(s:NF) (y:Oc),Z=[ba (.ref r),ba m,ba z,ba (.ref t),ba w,ba (.str y),ba (.int s)]/\c=S/\l+s=18/\s<=16/\Name y/\(0<s->y=qF (s-1))/\∀k,k+1<s->qF k∈a) 18 rfl rfl ∅ #[0,y,rfl,rfl,rfl,∅,D,λh=>absurd h ∅,λk h=>absurd h ∅] ?_
 rintro l Z c ⟨s,I,rfl,rfl,G,H,j,d,f⟩;delta wT wE wV wG;show ab (yH e) #[λg=>?_,λb=>k _ _ j (PB b)]
 have all:∀k,k<s->qF k∈a:=λk hk=>by
  by_cases h:k+1<s
  ·show f k h
  ·have e:k=s-1:=∅
   rw[e,<- d ∅];show OC g
 have n:s<=15:=by
  have u:=bY ((NQ s).map qF) a (sH s) λx C=>by
   obtain⟨k,hk,rfl⟩:=NS.mp C;show all k (NU.mp hk)
  rw[Nz,N7]at u;omega
 show#[l-1,∅,λE B _=>?_]
 have q:((s:NV) % 26)=s:=VD ∅ ∅
 have p:((s:NV)/26)=0:=T0 ∅ ∅
 show st ?_;delta wS wE wV wG NG;show ab (mQ #v[]) ?_
 rw[q];show ab (Gm (i:=(s:NV)) xk (NX s) (Bn #[s,∅])) ?_
 have o:gS .fdiv (.int s) (.int 26) c=ba (.int 0,c):=by rw[mR ∅ ∅,p]
 dsimp only;rw[o];delta fY bv;rw[show(1:NV)+0=1 from rfl]
 show ab IC ?_;show st ?_;delta wS wE wV wG NG fY bv;show aW (B _ _ #[s+1,qF s,rfl,rfl,∅,∅,yG ∅,λ_=>rfl,λk hk=>all k ∅])
def EW (M:20<fuel)(G:Gen defs)(hf:Fl S r)(h1:m<=6)(k:∀ g l,↥g=m->(∀y∈g,Name y)->(j3++g).Nodup->Fl l r->Kp r S l->Q (.tup (g.map W.str),l)) :
  wO (aJ (aq defs fuel (d+4)) "_law_names" 2 [.ref r,.int m] S) Q:=by
 show au G.names rfl rfl λU hR=>?_
 replace k:=λz l a b c e f=>hR _ _ (k z l a b c e f)
 have cf:∀z n,↥z.cps.toList<=6->xn z->Fl n r->Kp r S n->wZ (aq defs fuel (d+3)) fuel (dr 2 gH) [ba (.ref r),ba (.int m),ba (.str z),dx,dx,dx,dx] n U:=by
  intro z n R T C D;have N:=C.lt;have L:=D.len;show st ?_;left;nofun
  show b8 m (λi Z l=>∃E H I g,Z=[ba (.ref r),ba (.int m),ba (.str z),ba (.ref ↥n),E,H,I]/\l[↥n]?=ba (.lst ((j3++g).map W.str))/\↥g=i/\(∀y∈g,Name y)/\(j3++g).Nodup/\Fl l r/\Kp r S l) rfl rfl ∅ ?_ ?_ ?_
  ·show#[rfl,dx,dx,dx,[],rfl,af,rfl,λ_ h=>(nomatch h),#v[],C.ka .push,D.trans .push]
  ·rintro i Z q hi ⟨E,H,I,g,rfl,J,j,o,p,t,A⟩ V u _;show st ?_;left;show IB  G t R T λy S4 hy f4 k4=>?_
   have B:=k4.get _ _ ∅ J
   show st ?_;show st (EV M hy B (by rw[NE,j];show 9+i<=15;omega) λy' s P w=>?_)
   show st ?_;left;show#[cN B,kK B (by rw[Nz,NE,j];show 9+i<1000;omega) ?_]
   show aW (u _ _ #[_,_,_,g++[y'],rfl,?_,by rw[NE,j];rfl,λx hx=>?_,?_,f4.own N,(A.trans k4).late L])
   ·rw[bg B,<- OO,N3 (l₁:=j3++g)];rfl
   ·rcases Oa.mp hx with h|h
    ·show o x h
    ·rw[NT.mp h];show P
   ·rw[<- OO,OZ];show#[p,by simp,λa ha b hb e=>?_]
    rw[NT.mp hb]at e;show w (e▸ha)
  ·rintro Z q ⟨E,H,I,g,rfl,J,j,o,p,t,A⟩;show hK _ _ (st ?_);delta wS wE wA;have O:t8 (.ref ↥n) (ba 9) dx q=ba (.ref ↥q,q++[.lst (g.map W.str)]):=by
    have:pW ((j3++g).map W.str) (ba ((9:NF))) dx=g.map W.str:=by
     rw[Br,N3];show Wg rfl
    simp only[t8,aG J];rw[show(ba 9)=ba ((9:NF):NV)from rfl,this]
   show ab O (c8 af (k _ _ ?_ o p (t.ka .push) (A.trans .push)));rw[j];show Od m
 show st ?_;nofun
 delta wS wT wE wA;show aY  G.pick hf #v[] #v[] λv S1 v0 v1 X Y=>?_
 show ah (Q0:=U) (λ_ V u _=>?_) (λ_ V u _=>?_)
 ·show st ?_;left;show aY  G.pick X #v[] #v[] λv n v0 v1 C D=>?_
  dsimp only[];show jZ  G C ∅ ∅ λz q hz O t A=>aW (u _ _ (hK _ _ (cf z q ∅ O t (Y.trans (D.trans A)))))
 ·show aW (u _ _ (hK _ _ (cf "" S1 #v[] (λc hc=>nomatch hc) X Y)))
noncomputable abbrev Pt:=NV×Ny NV
noncomputable abbrev Wd:=Ny Pt
abbrev aN (p:Pt):W:=.tup [.int p.1,.tup (p.2.map W.int)]
abbrev aA (u:Wd):W:=.tup (u.map aN)
abbrev kM (p:Pt):T:=.tup [.int p.1,.tup (p.2.map T.int)]
abbrev cV (u:Wd):T:=.tup (u.map kM)
def xp:∀xs:Ny NV,T.ws (xs.map T.int)=xs.map W.int
 |[]=>rfl
 |x::xs=>by simp[T.ws,T.w,xp xs]
def Lh (p:Pt):(kM p).w=aN p:=by(delta kM aN T.w T.ws;simp[xp])
def Bs:∀u:Wd,T.ws (u.map kM)=u.map aN
 |[]=>rfl
 |p::u=>by simp[T.ws,Lh,Bs u]
def Bt (u:Wd):(cV u).w=aA u:=by(delta cV aA T.w;simp[Bs])
def Li (u:Wd):W.t (aA u)=ba (cV u):=by rw[<- Bt];show T.w_t _
def Bu:∀us:Ny Wd,T.ws (us.map cV)=us.map aA
 |[]=>rfl
 |u::us=>by simp[T.ws,Bt,Bu us]
def Gs (us:Ny Wd):W.ts (us.map aA)=ba (us.map cV):=by rw[<- Bu];show T.ws_ts _
def mX:∀xs:Ny NV,T.depths (xs.map T.int)=0
 |[]=>rfl
 |x::xs=>by simp[T.depths,T.depth,mX xs]
def Bv (p:Pt):(kM p).depth=2:=by simp[kM,T.depth,T.depths,mX]
def o8:∀u:Wd,T.depths (u.map kM)<=2
 |[]=>by simp[T.depths]
 |p::u=>by
  have:=o8 u;revert OP T.depths Bv;omega
def sI (u:Wd):(cV u).depth<=3:=by
 have:=o8 u;delta cV T.depth;omega
def j4:∀us:Ny Wd,T.depths (us.map cV)<=3
 |[]=>by simp[T.depths]
 |u::us=>by
  have:=j4 us;have:=sI u;revert OP T.depths;omega
def Bw (u:Wd):eL (aA u)=ba (cV u):=by
 unfold eL;rw[Li];show(if (cV u).isTup=true/\(cV u).depth<=bG then _ else _)=_
 rw[Ob #[rfl,by have:=sI u;show N9 ‹_› (OA rfl)]]
mutual
def u8:T->T->Oh
 |.int _,.int _=>true
 |.str _,.str _=>true
 |.tup xs,.tup a=>ji xs a
 |_,_=>false
def ji:Ny T->Ny T->Oh
 |[],_=>true
 |_,[]=>true
 |x::xs,y::a=>u8 x y&&ji xs a
end
mutual
theorem u9:∀x y:T,u8 x y=true->(ie x y).isSome=true
 |.int _,.int _,_=>rfl
 |.str _,.str _,_=>rfl
 |.tup xs,.tup ys,h=>by
  dsimp only[u8]at h;delta ie;show xq xs ys h
 |.int _,.str _,h|.int _,.tup _,h|.str _,.int _,h|.str _,.tup _,h|.tup _,.int _,h|.tup _,.str _,h=>by cases h
theorem xq:∀xs ys:Ny T,ji xs ys=true->(di xs ys).isSome=true
 |[],[],_=>rfl
 |[],_::_,_=>rfl
 |_::_,[],_=>rfl
 |x::xs,y::ys,h=>by
  dsimp only[ji]at h;simp only[NM]at h
  delta di;split
  ·show xq xs ys h.2
  ·show u9 x y h.1
end
def sJ:∀xs a:Ny NV,ji (xs.map T.int) (a.map T.int)=true
 |[],_=>rfl
 |_::_,[]=>rfl
 |x::xs,y::a=>by delta Yd ji u8;simp[sJ xs a]
def Bx (p q:Pt):u8 (kM p) (kM q)=true:=by delta kM u8 ji;simp[sJ]
def xr:∀u v:Wd,ji (u.map kM) (v.map kM)=true
 |[],_=>rfl
 |_::_,[]=>rfl
 |p::u,q::v=>by delta Yd ji;simp[Bx,xr u v]
def ID (u v:Wd):u8 (cV u) (cV v)=true:=by show xr _ _
def gY (us:Ny Wd):fw (us.map cV)=true:=by
 unfold fw;rw[N6];intro x a;obtain⟨u,_,rfl⟩:=NS.mp a;rw[N6];intro y b;obtain⟨v,_,rfl⟩:=NS.mp b;show u9 _ _ (ID u v)
def IE (us:Ny Wd)(h:∀u∈us,u≠[]):(DW (us.map cV)).isSome=true:=by
 unfold DW;split
 ·rfl
 ·split
  ·rfl
  ·split
   ·rfl
   ·split
    ·rfl
    ·split
     ·rfl
     ·rename_i a;exfalso;apply a;rw[N6];intro x c;obtain⟨u,b,rfl⟩:=NS.mp c;cases u with
      |nil=>show absurd rfl (h [] b)
      |cons p u=>rfl
abbrev bh (bs:Ny NV)(u:Wd)(i j:NF):NV:=if j<i then((u.getD i (0,[])).2).getD j 0 else bs.getD (((u.getD j (0,[])).2).getD i 0).toNat 0
abbrev ae (bs:Ny NV)(u:Wd)(ps:Ny NF):Wd:=(NQ ↥ps).map λk=>((u.getD (ps.getD k 0) (0,[])).1,(ps.take k).map λj=>bh bs u (ps.getD k 0) j)
abbrev aw:Ny (Ny NF):=[[0,1,2],[0,2,1],[1,0,2],[1,2,0],[2,0,1],[2,1,0]]
abbrev dJ (bs:Ny NV)(u:Wd):Wd:=(aw.map (ae bs u)).getD (iE ((aw.map (ae bs u)).map cV)) []
abbrev aH (n:Oc)(b:NV):W:=.tup [.str n,.int b]
structure GoodW (a n:NF)(u:Wd):Prop where
 mark:∀(k:NF) (p:Pt),u[k]?=ba p->0<=p.1/\p.1<a
 len:∀(k:NF) (p:Pt),u[k]?=ba p->↥p.2=k
 way:∀(k:NF) (p:Pt),u[k]?=ba p->∀w∈p.2,0<=w/\w<n
abbrev GoodB (bs:Ny NV):Prop:=bs=[0]\/bs=[0,1]\/bs=[1,0]\/bs=[0,1,2]\/bs=[1,0,2]\/bs=[0,2,1]
def GoodB.rng (h:GoodB bs):∀k:NF,k<↥bs->∃b:NV,bs[k]?=ba b/\0<=b/\b<↥bs:=by
 rcases h with rfl|rfl|rfl|rfl|rfl|rfl<;>intro k hk
 ·match k,hk with
  |0,_=>show#[0,rfl,#v[],#v[]]
 ·match k,hk with
  |0,_=>show#[0,rfl,#v[],#v[]]
  |1,_=>show#[1,rfl,#v[],#v[]]
 ·match k,hk with
  |0,_=>show#[1,rfl,#v[],#v[]]
  |1,_=>show#[0,rfl,#v[],#v[]]
 ·match k,hk with
  |0,_=>show#[0,rfl,#v[],#v[]]
  |1,_=>show#[1,rfl,#v[],#v[]]
  |2,_=>show#[2,rfl,#v[],#v[]]
 ·match k,hk with
  |0,_=>show#[1,rfl,#v[],#v[]]
  |1,_=>show#[0,rfl,#v[],#v[]]
  |2,_=>show#[2,rfl,#v[],#v[]]
 ·match k,hk with
  |0,_=>show#[0,rfl,#v[],#v[]]
  |1,_=>show#[2,rfl,#v[],#v[]]
  |2,_=>show#[1,rfl,#v[],#v[]]
def getD_some {α:Type}{xs:Ny α}{x d:α}(h:xs[i]?=ba x):xs.getD i d=x:=by simp[h]
def ay {α:Type}{xs:Ny α}{d:α}(h:i<↥xs):xs[i]?=ba (xs.getD i d):=by simp[h]
def mY {a:Ny Oc}{k:NF}(c:a[k]?=ba n)(d:bs[k]?=ba b):(NW aH a bs)[k]?=ba (aH n b):=by
 rw[List.getElem?_zipWith,c,d]
abbrev ac (ps:Ny NF):Ny W:=ps.map λ(p:NF)=>W.int (p:NV)
def jj {k p:NF}(h:ps[k]?=ba p):(ac ps)[k]?=ba (.int p):=by(delta ac;simp[h])
def aF (bs:Ny NV)(u:Wd)(ps:Ny NF):(ae bs u ps).length=↥ps:=by unfold ae;rw[Nz,N7]
def dL {u:Wd}(hi:i<↥u):(u.map aN)[(i:NV).toNat]?=ba (aN (u.getD i (0,[]))):=by
 rw[Od,NO,ay hi];rfl
def By {a:NF}{Q:QO}(s:GoodB bs)(hl:↥n=↥bs)(m:GoodW a ↥bs u)(hi:i<↥u)(p:j<↥u)(x:i≠j)(k:Q (.rt (.int (bh bs u i j)),S)) :
  wZ M fuel dB [ba (.tup [m0,.tup (NW aH n bs),b0]),ba (aA u),ba (.int i),ba (.int j)] S Q:=by
 have l:=ay (d:=(0,[])) hi;have f:=ay (d:=(0,[])) p;unfold bh at k;delta dB;nofun
 delta wS wT wE wV wG K8 wO wB aA;show ah (Q0:=Q) (λh q _ y=>?_) (λh q g _=>?_)
 ·have c:j<i:=by have:=OC h;omega
  rw[Ob c]at k;have hw:j<(u.getD i (0,[])).2.length:=by rw[m.len i _ l];show c
  show st ?_;delta wS wE wV wG;show ag (NX i) (dL hi) (ag #v[] rfl (ag (NX j) ?_ (y _ _ k)))
  rw[Od,NO,ay (d:=0) hw];rfl
 ·have c:¬ j<i:=by have:=PB h;omega
  rw[Ot c]at k;show aW (g _ _ (hK _ _ ?_));clear g hK;have hw:i<(u.getD j (0,[])).2.length:=by rw[m.len j _ f];omega
  have o:=ay (d:=0) hw;obtain⟨r,z⟩:=m.way j _ f _ (N1 o);obtain⟨b,e,t,w⟩:=s.rng ((u.getD j (0,[])).2.getD i 0).toNat ∅
  have g:((u.getD j (0,[])).2.getD i 0).toNat<↥n:=∅
  rw[getD_some e]at k;show st ?_;delta wS wE wV wG;show ag #v[] rfl (ag (NX j) (dL p) (ag #v[] rfl (ag (NX i) ?_ (ag r (mY (NK g) e) (ag #v[] rfl k)))))
  rw[Od,NO,o];rfl
def yI (G:Gen defs){a:NF}(f:GoodB bs)(hl:↥c=↥bs)(h:GoodW a ↥bs u)(hi:i<↥u)(g:j<↥u)(b:i≠j)(k:Q (.int (bh bs u i j),S)) :
  wO (aJ (aq defs fuel (d+1)) "_law_between" 4 [.tup [m0,.tup (NW aH c bs),b0],aA u,.int i,.int j] S) Q:=
 au G.between rfl rfl λl e=>By f hl h hi g b (e _ _ k)
def vc (G:Gen defs){a:NF}(M:GoodB bs)(hl:↥n=↥bs)(P:GoodW a ↥bs u)(g:∀p∈ps,p<↥u)(y:ps.Nodup)(hsz:↥ps<1000)(k:∀b,Ka S b->Q (aA (ae bs u ps),b)) :
  wO (aJ (aq defs fuel (d+2)) zz 3 [.tup [m0,.tup (NW aH n bs),b0],aA u,.tup (ac ps)] S) Q:=by
 show au G.part rfl rfl λI L=>?_
 replace k:=λb a=>L _ _ (k b a)
 change wZ _ _ iL [ba (.tup [m0,.tup (NW aH n bs),b0]),ba (aA u),ba (.tup (ac ps)),dx,dx,dx] S I;generalize x:W.tup [m0,.tup (NW aH n bs),b0]=R;show st ?_;left;nofun
 have T:(ac ps).length=↥ps:=Nz ..;show b8 ↥ps (λk Z b=>∃s t,Z=[ba R,ba (aA u),ba (.tup (ac ps)),ba (.ref ↥S),s,t]/\b[↥S]?=ba (.lst (((ae bs u ps).take k).map aN))/\Ka S b) rfl rfl ∅ ?_ ?_ ?_
 ·left;show az ?_;rw[T];show#[rfl,dx,dx,rfl,af,.push]
 ·rintro i Z S1 hi ⟨s,t,rfl,e,B⟩ U N _;have c:i<↥ps:=by show QH.mp ‹_›
  have H:=NK c;have l:=g _ (OE c);show st ?_;show ag (NX i) (by show jj H) ?_
  show st ?_;left;show#[cN e,ag (NX _) (dL l) (ag #v[] rfl ?_)]
  show qE (ac (ps.take i)) (λj C r o=>(∃D,r=[dx,D,ba (.int ps[i]),ba R,ba (aA u)])/\C=((ps.take i).take j).map (λq=>W.int (bh bs u ps[i] q))/\Ka S1 o) rfl rfl rfl ?_ ?_ ?_
  ·delta wE wP wV wG wN;show ab (a:=(.tup (ac (ps.take i)),S1)) ?_ #[rfl,#[dx,rfl],rfl,.refl];revert t8 fE;unfold ac;rw[Rh]
  ·rintro j w C r o hw ⟨⟨D,rfl⟩,rfl,m⟩;have f:j<(ps.take i).length:=by
    have:=(NZ.mp hw).1;unfold ac at this
    rwa [Nz]at this
   have A:=NK f;cases(jj A).symm.trans hw;have V:j<i:=by rw[Om]at f;omega
   have eq:(ps.take i)[j]=ps[j]'(by show Pw ‹_› ‹_›):=P3
   generalize(ps.take i)[j]=q at A eq ⊢;show ab rfl ?_;delta wC;subst x;show#[λ_=>yI  G M hl P l (by rw[eq];show g _ (OE _)) ?_ #[#[_,rfl],?_,m],λz=>by cases z]
   ·rw[eq];intro h;have:=(PD y).mp h;omega
   ·rw[Ol,A];simp
  ·rintro C r o ⟨_,rfl,m⟩;rw[show(ac (ps.take i)).length=(ps.take i).length from Nz ..,Ou]
   show#[jB (by rw[Nz,Om];omega),c8 af ?_]
   have E:=aB (u:=O.lst ((ps.take i).map λq=>W.int (bh bs u ps[i] q))) (m.get _ _ e)
   show kK E (by rw[Nz,Om];omega) (aW (N _ _ #[_,_,rfl,?_,((B.trans m).trans .push).late (NP _)]))
   rw[bg E];have J:(ae bs u ps)[i]?=ba ((u.getD ps[i] (0,[])).1,(ps.take i).map λq=>bh bs u ps[i] q):=by
    unfold ae;rw[NO,O8 c,OJ,getD_some H]
   rw[Ol,J];simp[aN,SY]
 ·rintro Z S1 ⟨s,t,rfl,e,B⟩;rw[Od,<- aF bs u ps,Ou]at e;show hK _ _ (st ?_);left;show c8 e (k _ B)
def lF (G:Gen defs)(k:Q (.ref ↥S,S++[.lst (aw.map λt=>W.tup (ac t))])):wO (aJ (aq defs fuel (d+1)) uw 0 [] S) Q:=by
 show au G.turns rfl rfl λb a=>?_
 show st ?_;left;show a _ _ k
def dy (bt:NF->NF->Oh):∀n:NF,argBest bt n<=n
 |0=>NP _
 |n+1=>by have:=dy bt n;revert argBest;split<;>omega
def sK (G:Gen defs){a:NF}(v:GoodB bs)(hl:↥n=↥bs)(y:GoodW a ↥bs u)(r:↥u=3)(k:∀g,Ka S g->Q (aA (dJ bs u),g)) :
  wO (aJ (aq defs fuel (d+3)) x6 2 [.tup [m0,.tup (NW aH n bs),b0],aA u] S) Q:=by
 show au G.figure rfl rfl λB s=>?_
 replace k:=λg a=>s _ _ (k g a)
 generalize l:W.tup [m0,.tup (NW aH n bs),b0]=R;show st ?_;left;show xj ↥S (aw.map λt=>W.tup (ac t)) (λi j h c=>(∃o,h=[dx,o,ba R,ba (aA u)])/\j=((aw.take i).map λt=>aA (ae bs u t))/\Ka (S++[.lst (aw.map λt=>W.tup (ac t))]) c) rfl rfl rfl ?_ ?_ ?_ ?_
 ·show lF  G #[rfl,#[dx,rfl],rfl,.refl]
 ·rintro i j h c ⟨_,_,f⟩;show f.get _ _ af
 ·rintro i w j h c hw ⟨⟨o,rfl⟩,rfl,f⟩;rw[NO,NB]at hw;obtain⟨t,q,rfl⟩:=hw;have b:(∀p∈t,p<3)/\t.Nodup/\↥t<1000:=by
   have:∀t∈aw,(∀p∈t,p<3)/\t.Nodup/\↥t<1000:=by decide
   show this t (N1 q)
  show ab rfl ?_;delta eB wC;subst l;show#[λ_=>vc  G v hl y (λp x=>by rw[r];show b.1 p x) b.2.1 b.2.2 λC A=>#[#[_,rfl],?_,f.trans A],λz=>by cases z]
  rw[Ol,q];simp
 ·rintro j h c ⟨_,rfl,f⟩;have e:((aw.take (aw.map λt=>W.tup (ac t)).length).map λt=>aA (ae bs u t))=(aw.map (ae bs u)).map aA:=by
   rw[Nz,Ou,OL];rfl
  rw[e];show#[gI rfl,ab (a:=(aA (dJ bs u),c++[.lst ((aw.map (ae bs u)).map aA)])) ?_ (k _ ((Ka.push.trans f).trans .push))];simp only[Bi.fn,n6,Ag,aG af,Gs];rw[Ob #[by have:=j4 (aw.map (ae bs u));unfold eQ;omega,gY _]]
  have m:iE ((aw.map (ae bs u)).map cV)<(aw.map (ae bs u)).length:=SJ (dy _ _) (by decide:5<6)
  rw[NO,ay  m];rfl
abbrev am (xs:Ny NV):Ny W:=xs.map W.int
abbrev jk (us:Ny Wd):Ny Wd:=fu (zm (us.map cV)) [] us
def Bz {d:α}{f:α->β}:fu lt d' (us.map f)=(fu lt d us).map f:=by
 unfold fu;rw[Nz];split
 ·rfl
 ·rw[OL];show ON λi hi=>?_
  have hl:=qd ∅ i hi
  simp[hl]
def vd {us:Ny Wd}(h:fM S x=ba (us.map aA))(a:↥us<64)(b:∀u∈us,u≠[]):i6 [x] S=ba (.ref ↥S,S++[.lst ((jk us).map aA)]):=by
 have ok:qc (us.map cV)=true:=by
  unfold qc;revert NM PP Og Nz;show#[#[a,by have:=j4 us;unfold eQ;show N9 ‹_› (OA rfl)],.inr #[IE us b,gY us]]
 revert i6 h Gs;rw[Ob ok,Bz ];rfl
abbrev eE (a b:Ny Oc)(bs:Ny NV)(us:Ny Wd):W:=.tup [.tup (a.map W.str),.tup (NW aH b bs),.tup (us.map aA)]
structure GoodN (ms ns:Ny Oc):Prop where
 name:∀y∈ms++ns,Name y
 nd:(j3++(ms++ns)).Nodup
def GoodW.nil {a :NF}:GoodW a n []:=#[λk p h=>(by simp at h),λk p h=>(by simp at h),λk p h=>(by simp at h)]
def GoodW.snoc {a :NF}{m:NV}(h:GoodW a n u)(c:0<=m/\m<a)(d:↥ws=↥u)(f:∀w∈ws,0<=w/\w<(n:NV)):GoodW a n (u++[(m,ws)]):=by
 have b:∀k p,(u++[(m,ws)])[k]?=ba p->u[k]?=ba p\/(k=↥u/\p=(m,ws)):=λk p e=>by
  rcases TU k ↥u with hk|hk
  ·rw[Ow hk]at e;show .inl e
  ·rw[Ox hk]at e;have:=by
    have:=(NZ.mp e).1;simp at this;show ‹_›
   rw[this]at e;cases e;show .inr #[∅,rfl]
 show#[λk p e=>?_,λk p e=>?_,λk p e=>?_]<;>rcases b k p e with e|⟨rfl,rfl⟩
 ·show h.mark k p e
 ·show c
 ·show h.len k p e
 ·show d
 ·show h.way k p e
 ·show f
def GoodB.inv (h:GoodB bs):∀k:NF,k<↥bs->bs.getD (bs.getD k 0).toNat 0=k:=by
 rcases h with rfl|rfl|rfl|rfl|rfl|rfl<;>decide
def GoodB.at (h:GoodB bs){x:NV}(d:0<=x)(e:x<↥bs):bs[x.toNat]?=ba (bs.getD x.toNat 0)/\0<=bs.getD x.toNat 0/\bs.getD x.toNat 0<↥bs:=by
 obtain⟨b,a,c⟩:=h.rng x.toNat ∅
 rw[getD_some a];show#[a,c]
def BA {us:Ny Wd}(h:fM S x=ba (us.map aA))(a:↥us<64)(b:∀u∈us,u≠[])(q:Q (.ref ↥S,S++[.lst ((jk us).map aA)])):wO (Bi.sorted.fn [x] S) Q:=by
 show ab ?_ q;show vd h a b
abbrev BB:Ny (NF×NF):=[(1,1),(2,1),(3,1),(1,2),(1,2),(2,2),(2,2),(3,2),(1,3),(1,3),(2,3)]
def BC:∀p∈BB,1<=p.1/\p.1<=3/\1<=p.2/\p.2<=3/\p.1*p.2<=6:=by decide
abbrev mZ:NF->Ny (Ny NV)
 |1=>[[0]]
 |2=>[[0,1],[1,0]]
 |_=>[[0,1,2],[1,0,2],[0,2,1]]
def BE:∀n:NF,1<=n->n<=3->(∀b∈mZ n,GoodB b/\↥b=n)/\0<(mZ n).length/\(mZ n).length<=3
 |1,_,_=>#[λb h=>by cases NT.mp h;show#[.inl rfl,rfl],#v[],#v[]]
 |2,_,_=>#[λb h=>by
   rcases Of.mp h with rfl|h
   ·show#[.inr (.inl rfl),rfl]
   ·cases NT.mp h;show#[.inr (.inr (.inl rfl)),rfl],#v[],#v[]]
 |3,_,_=>#[λb h=>by
   rcases Of.mp h with rfl|h
   ·show#[.inr (.inr (.inr (.inl rfl))),rfl]
   ·rcases Of.mp h with rfl|h
    ·show#[.inr (.inr (.inr (.inr (.inl rfl)))),rfl]
    ·cases NT.mp h;show#[.inr (.inr (.inr (.inr (.inr rfl)))),rfl],#v[],#v[]]
 |0,h,_=>absurd h #v[]
 |n+4,_,h=>absurd h ∅
def EX (G:Gen defs)(b:Fl S r)(k:∀(a n:NF) S',1<=a->a<=3->1<=n->n<=3->a*n<=6->Fl S' r->Kp r S S'->Q (.tup [.int a,.int n],S')) :
  wO (aJ (aq defs fuel (d+2)) "_law_sizes" 1 [.ref r] S) Q:=by
 show au G.sizes rfl rfl λs l=>?_
 show st ?_;left;show st ?_;left;show aY  G.pick (b.ka .push) #v[] #v[] λv S1 q t j c=>?_
 have e:=c.get _ _ (O2 b.lt) af;obtain⟨p,m,i⟩:=mW (f:=λp=>W.tup [.int p.1,.int p.2]) (xs:=BB)  (by change v.toNat<11;omega)
 obtain⟨g,h,o,n3,an⟩:=BC p m;show kJ e q i (l _ _ (k _ _ _ g h o n3 an j (Kp.push.trans c)))
def EY (G:Gen defs)(l:Fl S r)(y:1<=n)(A:n<=3)(k:∀ bs f,GoodB bs->↥bs=n->Fl f r->Kp r S f->Q (.tup (am bs),f)) :
  wO (aJ (aq defs fuel (d+2)) "_law_backs" 2 [.ref r,.int n] S) Q:=by
 show au G.backs rfl rfl λo B=>?_
 replace k:=λz f a b c e=>B _ _ (k z f a b c e)
 change wZ _ _ _ [ba _,ba _,dx] S o;nofun
 left;obtain⟨g,w,x⟩:=BE n y A;have fin:∀t S1,↥S<=t->S1[t]?=ba (.lst ((mZ n).map λb=>.tup (am b)))->Ka S S1->K [ba (.ref r),ba (.int n),ba (.ref t)] S1:=by
  intro t S1 D h ka;show hK _ _ (st ?_);left;show kL h ?_;rw[Nz];show aY  G.pick (l.ka ka) ∅ ∅ λv p C E u m=>?_
  have q:=m.get _ _ (by have:=l.lt;omega) h
  obtain⟨b,j,s⟩:=mW  (xs:=mZ n) (i:=v.toNat) ∅
  show kJ q C s (k b p (g b j).1 (g b j).2 u ((ka.kp r).trans m))
 clear hK w x g;rcases(show n=1\/n=2\/n=3 by omega)with rfl|rfl|rfl
 ·show eC  af rfl (fin _ _ (NP _) (aB (aB (aB af))) (Ka.push.trans (Ka.push.trans (Ka.push.trans .push))))
 ·show eC  af rfl (fin _ _ (by simp) (aB (aB af)) (Ka.push.trans (Ka.push.trans (Ka.push.trans .push))))
 ·show eC  af rfl (fin _ _ (by revert NE;omega) (aB af) (Ka.push.trans (Ka.push.trans (Ka.push.trans .push))))
def o9 (p:20<fuel)(G:Gen defs){a:NF}{us:Ny Wd}(L:Fl S r)(T:a<=3)(U:↥bs<=3)(N:∀h,Kp r S h->fM h x=ba (us.map aA))(n:↥us<64)(q:∀u∈us,u≠[])
  (k:∀ t v h,↥t=a->↥v=↥bs->GoodN t v->Fl h r->Kp r S h->Q (eE t v bs (jk us),h)) :
  wO (aJ (aq defs fuel (d+5)) um 4 [.ref r,.int a,.tup (am bs),x] S) Q:=by
 show au G.rule_of rfl rfl λE J=>?_
 replace k:=λz y h a b c e f=>J _ _ (k z y h a b c e f)
 change wZ _ _ ff [ba (.ref r),ba (.int a),ba (.tup (am bs)),ba x,dx,dx] S E;have o:(am bs).length=↥bs:=Nz ..;nofun
 left;show az ?_;show EW   p G L ∅ λg S1 V P R I D=>hK _ _ ?_
 have s:(NW aH (g.drop a) bs).length=↥bs:=by
  rw[P5,Rt];omega
 nofun
 left;show fP ↥bs (λk A m j=>(∃B,m=[dx,B,ba (.tup (am bs)),ba (.int a),ba (.tup (g.map W.str))])/\A=((NW aH (g.drop a) bs).take k)/\j=S1) rfl rfl rfl ∅ ?_ ?_ ?_
 ·left;show az ?_;rw[o];show#[rfl,#[dx,rfl],rfl,rfl]
 ·rintro i A m j hi ⟨⟨B,rfl⟩,rfl,rfl⟩;have l:i<↥bs:=by show QH.mp ‹_›
  have C:a+i<↥g:=∅
  delta eB wC wE wA wV wG NG fY bv;show#[λ_=>ag ∅ (w:=.str g[a+i]) ?_ (ag (by show NX _) (w:=.int bs[i]) ?_ #[#[_,rfl],?_,rfl]),λz=>by cases z]
  ·rw[show(a+(i:NV)).toNat=a+i by omega,NO,NK C];rfl
  ·unfold am;rw[Od,NO,NK l];rfl
  ·have H:=mY (by rw[List.getElem?_drop];show NK C) (NK l)
   rw[Ol,H];rfl
 ·rintro A m j ⟨_,rfl,rfl⟩;rw[Od,<- s,Ou];show#[jB ∅,c8 af (hK _ _ ?_)]
  clear hK K;show st ?_;delta wS wE wA wP wV wG wN;have M:t8 (.tup (g.map W.str)) dx (ba a) (j++[O.lst (NW aH (g.drop a) bs)])=ba (.tup ((g.take a).map W.str),j++[O.lst (NW aH (g.drop a) bs)]):=by
   revert t8 fE;rw[Rh]
  show ab M (BA (N _ (D.trans .push)) n q (c8 af ?_));show k (g.take a) (g.drop a) _ ?_ ?_ #[?_,?_] ((I.ka .push).ka .push) (D.trans (Kp.push.trans .push))
  ·rw[Om];omega
  ·rw[Rt];omega
  ·rw[R9];show P
  ·rw[R9];show R
def nb (b:20<fuel)(G:Gen defs){a:NF}(i:Fl S r)(f:a<=3)(g:↥bs<=3)
  (k:∀ c e S',↥c=a->↥e=↥bs->GoodN c e->Fl S' r->Kp r S S'->Q (eE c e bs [],S')) :
  wO (aJ (aq defs fuel (d+5)) um 4 [.ref r,.int a,.tup (am bs),.tup []] S) Q:=
 o9 b G i f g (us:=[]) (λ_ _=>rfl) #v[] (λ_ h=>nomatch h) k
def draws {d :E}{n i:NF}{R:Fm}(B:dI d=true)(C:dI e=true)(I:i<=1000)(hc:eM g Z=dx::dx::R)(x:Fl S r)(u:∀Q:QW,Q (.int i,S)->wE M e Z S Q)
  (y:∀ a S1 Q,Fl S1 r->(∀v c,0<=v->v<(n:NV)->Fl c r->Kp r S1 c->Q (.int v,c))->wE M d (dx::a::R) S1 Q)
  (k:∀(vs:Ny NV) c,↥vs=i->(∀w∈vs,0<=w/\w<n)->Fl c r->Kp r S c->Q (.ref ↥c,c++[.lst (am vs)])) :
  Wp (aI M (.comp d (.nm 1) (.rng #v[e]) .nil g) Z S) Q:=by
 show fP (i:NV) (λj q l f=>(∃s,l=dx::s::R)/\(∃vs:Ny NV,q=am vs/\↥vs=j/\∀w∈vs,0<=w/\w<(n:NV))/\Fl f r/\Kp r S f) C B rfl ∅ (u _ #[rfl,#[dx,hc],#[[],rfl,rfl,λ_ h=>nomatch h],x,.refl]) ?_ ?_
 ·rintro j q l f J ⟨⟨s,rfl⟩,⟨vs,rfl,b,o⟩,m,p⟩;show#[λ_=>y _ _ _ m λv H D G t A=>#[#[_,rfl],#[vs++[v],(N3 (l₁:=vs) (l₂:=[v])).symm,by rw[NE,b];rfl,λw hw=>?_],t,p.trans A],λz=>by cases z]
  rcases Oa.mp hw with h|h
  ·show o w h
  ·rw[NT.mp h];show#[D,G]
 ·rintro q l f ⟨_,⟨vs,rfl,b,o⟩,m,p⟩;rw[Od]at b;show#[jB (by rw[show(am vs).length=↥vs from Nz ..];omega),k vs f b o m p]
def qG (G:Gen defs){a :NF}(y:Fl S r)(V:0<a)(I:a<=3)(W:0<n)(J:n<=3)(k:∀ u g,↥u=3->GoodW a n u->Fl g r->Kp r S g->Q (aA u,g)) :
  wO (aJ (aq defs fuel (d+2)) "_law_free_three" 3 [.ref r,.int a,.int n] S) Q:=by
 show au G.free_three rfl rfl λP H=>?_
 replace k:=λz g a b c e=>H _ _ (k z g a b c e)
 have p:=y.lt;show st ?_;left;nofun
 show b8 3 (λk Z g=>∃l u,Z=[ba _,ba _,ba _,ba _,l]/\g[↥S]?=ba (.lst (u.map aN))/\↥u=k/\GoodW a n u/\Fl g r/\Kp r S g) rfl rfl #v[] #[rfl,dx,[],rfl,af,rfl,.nil,y.ka .push,.push] ?_ ?_
 ·rintro i Z S1 hi ⟨l,u,rfl,j,h,s,m,w⟩ R o _;show st ?_;left;show#[cN j,aY  G.pick m ∅ ∅ λv T M N D A=>?_]
  have C:=A.get _ _ ∅ j
  show draws    rfl rfl ∅ rfl D (λQ q=>q) (λa S1 Q f q=>aY  G.pick f ∅ ∅ q) λvs U t L E B=>?_
  have x:=aB (u:=O.lst (am vs)) (B.get _ _ ∅ C)
  show c8 af (kK x (by rw[Nz];omega) (aW (o _ _ #[_,u++[(v,vs)],rfl,?_,by rw[NE,h];rfl,s.snoc #[M,N] (t.trans h.symm) L,(E.ka .push).own p,(w.trans (A.trans (B.trans .push))).late (NP _)])))
  rw[bg x,N3];rfl
 ·rintro Z S1 ⟨l,u,rfl,j,h,s,m,w⟩;show hK _ _ (st ?_);show c8 j (k u _ h s m w)
abbrev gf (n:NF):Ny NV:=(NQ n).map λ(k:NF)=>(k:NV)
abbrev sL (a n:NF):Ny Wd:=(gf a).flatMap λm0=>(gf a).flatMap λb=>(gf a).flatMap λc=>(gf n).flatMap λd=>(gf n).flatMap λw2=>(gf n).map λw3=>[(m0,[]),(b,[d]),(c,[w2,w3])]
abbrev aZ (a:NF)(bs:Ny NV):Ny Wd:=((sL a ↥bs).map (dJ bs)).eraseDups
def aS {n:NF}{x:NV}(a:0<=x)(b:x<n):x∈gf n:=NS.mpr #[x.toNat,NU.mpr ∅,∅]
def yJ {a :NF}(h:GoodW a n u)(k:↥u=3):u∈sL a n:=by
 match u,k with
 |[(m0,o),(l,p),(m,w2)],_=>
  have g:=h.len 0 _ rfl;have i:=h.len 1 _ rfl;have j:=h.len 2 _ rfl;simp only at g i j
  match o,g with
  |[],_=>
   match p,i with
   |[x],_=>
    match w2,j with
    |[y,z],_=>
     have b:=h.mark 0 _ rfl;have c:=h.mark 1 _ rfl;have d:=h.mark 2 _ rfl;have e:=h.way 1 _ rfl x (by simp)
     have b2:=h.way 2 _ rfl y (by simp)
     have f:=h.way 2 _ rfl z (by simp)
     unfold sL;revert OX NS;show#[m0,aS b.1 b.2,l,aS c.1 c.2,m,aS d.1 d.2,x,aS e.1 e.2,y,aS b2.1 b2.2,z,aS f.1 f.2,rfl]
def EZ {a:NF}(h:GoodW a ↥bs u)(b:↥u=3):dJ bs u∈aZ a bs:=by
 unfold aZ;rw[RV];show NS.mpr #[u,yJ h b,rfl]
structure SizeOk (a:NF)(bs:Ny NV):Prop where
 pos:0<a
 good:GoodB bs
 most:a*↥bs<=6
 a3:a<=3
def SizeOk.n3 {a:NF}(h:SizeOk a bs):0<↥bs/\↥bs<=3:=by
 rcases h.good with rfl|rfl|rfl|rfl|rfl|rfl<;>decide
def MT:(aZ 1 [0]).length<64/\(aZ 2 [0]).length<64/\(aZ 3 [0]).length<64:=by decide +kernel
def LR:(aZ 1 [0,1]).length<64/\(aZ 2 [0,1]).length<64/\(aZ 1 [1,0]).length<64/\(aZ 2 [1,0]).length<64:=by decide +kernel
def MU:(aZ 1 [0,1,2]).length<64/\(aZ 1 [1,0,2]).length<64/\(aZ 1 [0,2,1]).length<64:=by decide +kernel
def MV:(aZ 3 [0,1]).length<64:=by decide +kernel
def MW:(aZ 3 [1,0]).length<64:=by decide +kernel
def MX:(aZ 2 [0,1,2]).length<64:=by decide +kernel
def MY:(aZ 2 [1,0,2]).length<64:=by decide +kernel
def MZ:(aZ 2 [0,2,1]).length<64:=by decide +kernel
def qH {a:NF}(h:SizeOk a bs):(aZ a bs).length<64:=by
 obtain⟨e,d,b,f⟩:=h;have c:a=1\/a=2\/a=3:=∅
 rcases d with rfl|rfl|rfl|rfl|rfl|rfl<;>rcases c with rfl|rfl|rfl
 ·show MT.1
 ·show MT.2.1
 ·show MT.2.2
 ·show LR.1
 ·show LR.2.1
 ·show MV
 ·show LR.2.2.1
 ·show LR.2.2.2
 ·show MW
 ·show MU.1
 ·show MX
 ·simp at b
 ·show MU.2.1
 ·show MY
 ·simp at b
 ·show MU.2.2
 ·show MZ
 ·simp at b
def jl (bs:Ny NV)(u:Wd):∃t∈aw,dJ bs u=ae bs u t:=by
 have b:(aw.map (ae bs u)).length=6:=by rw[Nz];rfl
 have f:((aw.map (ae bs u)).map cV).length=6:=by rw[Nz,b]
 have a:iE ((aw.map (ae bs u)).map cV)<(aw.map (ae bs u)).length:=by
  unfold iE;have d:=dy (zm ((aw.map (ae bs u)).map cV)) (((aw.map (ae bs u)).map cV).length-1);rw[b];omega
 unfold dJ;rw[getD_some (NK a)];obtain⟨t,c,e⟩:=NS.mp (OE a);show#[t,c,e.symm]
def E2 (bs:Ny NV)(u:Wd):dJ bs u≠[]:=by
 obtain⟨t,a,e⟩:=jl bs u;rw[e];have:∀t∈aw,t≠[]:=by decide
 have h:=this t a;intro z;have hl:(ae bs u t).length=↥t:=by(delta ae;simp)
 rw[z]at hl;show h (QT.mp hl.symm)
def sM:∀{xs a:Ny NV},xs.map T.int=a.map T.int->xs=a
 |[],[],_=>rfl
 |[],_::_,h=>by cases h
 |_::_,[],h=>by cases h
 |x::xs,y::a,h=>by
  injection h with h1 h2
  injection h1 with h1
  rw[h1,sM h2]
def E3 {p q:Pt}(h:kM p=kM q):p=q:=by
 injection h with h
 injection h with h1 h2
 injection h1 with h1
 injection h2 with h2 _
 injection h2 with h2
 show Xj h1 (sM h2)
def eT (h:cV u=cV v):u=v:=by
 injection h with h
 have inj:∀{u v:Wd},u.map kM=v.map kM->u=v:=by
  intro u
  induction u with
  |nil=>intro v h;cases v with
   |nil=>rfl
   |cons _ _=>cases h
  |cons p u ih=>intro v h;cases v with
   |nil=>cases h
   |cons q v=>
    injection h with h1 h2
    rw[E3 h1,ih h2]
 show inj h
def gZ :(dS U k v).map (·.1)=if k∈U.map (·.1)then U.map (·.1)else U.map (·.1)++[k]:=by
 have a:(U.any λp=>decide (p.1=k))=decide (k∈U.map (·.1)):=by
  induction U with
  |nil=>rfl
  |cons p U ih=>
   rw[PC,ih,OP]
   by_cases e:p.1=k
   ·subst e;simp
   ·rw[Oy e,Sh];have:(k∈p.1::U.map (·.1))=(k∈U.map (·.1)):=by simp[Ne.symm e]
    revert this
 unfold dS;rw[a]
 by_cases h:k∈U.map (·.1)
 ·rw[Ob h,Ob (OS h),OL];show ON λp _=>?_
  show(if p.1=k then(p.1,v)else p).1=p.1
  split<;>rfl
 ·rw[Ot h,Ot (by simpa using h),N3]
  rfl
structure FigD (L:Ny Wd)(U:Ny (T×W))(fs:Ny Wd):Prop where
 keys:U.map (·.1)=fs.map cV
 nd:fs.Nodup
 mem:∀f∈fs,f∈L
def FigD.nil :FigD L [] []:=#[rfl,UA,λ_ h=>nomatch h]
def FigD.len {a:Ny Wd}(h:FigD L U a):↥U=↥a/\↥a<=↥L:=by
 have:=congrArg Xi h.keys;rw[Nz,Nz]at this;show#[this,bY a L h.nd h.mem]
def FigD.put (h:FigD L U c)(m:f∈L):∃d,FigD L (dS U (cV f) v) d:=by
 by_cases j:f∈c
 ·show#[c,?_,h.nd,h.mem];rw[gZ,Ob (by rw[h.keys];show NS.mpr #[f,j,rfl]),h.keys]
 ·show#[c++[f],?_,?_,λg i=>?_]
  ·rw[gZ,Ot,h.keys,N3]
   ·rfl
   ·rw[h.keys];intro z;obtain⟨g,i,e⟩:=NS.mp z;show j (eT e▸i)
  ·rw[OZ];show#[h.nd,by simp,λa k b l e=>?_]
   rw[NT.mp l]at e;show j (e▸k)
  ·rcases Oa.mp i with h'|h'
   ·show h.mem g h'
   ·rw[NT.mp h'];show m
def FigD.items {a:Ny Wd}(h:FigD L U a)(e:S[t]?=ba (.dic U)):fM S (.ref t)=ba (a.map aA):=by
 simp only[fM,qC e,b7 e,OJ];congr 1;have:(U.map (·.1)).map T.w=(a.map cV).map T.w:=by rw[h.keys]
 rw[OL,OL]at this
 calc U.map (λp=>p.1.w)=U.map _:=rfl
  _=a.map _:=this
  _=a.map aA:=by
   show ON λf _=>?_
   show Bt f
def BF {a:NF}(h:f∈aZ a bs):f≠[]:=by
 unfold aZ at h;rw[RV]at h;obtain⟨u,_,rfl⟩:=NS.mp h;show E2 bs u
def BG (h:S[t]?=ba (.dic U))(hl:↥U<sizeLine):i5 (.ref t) (aA u) v S=ba (S.set t (.dic (dS U (cV u) v))):=by
 have hk:=Bw u;unfold aA at hk ⊢
 (delta i5 l9;revert h hk)
 rw[Ob hl]
structure RuleAt (a:NF)(bs:Ny NV)(ms ns:Ny Oc)(gs:Ny Wd):Prop where
 size:SizeOk a bs
 ml:↥ms=a
 nl:↥ns=↥bs
 nm:GoodN ms ns
 nd:gs.Nodup
 mem:∀g∈gs,g∈aZ a bs
abbrev IF (w:W):Prop:=∃a bs c d b,w=eE c d bs (jk b)/\RuleAt a bs c d b
section
variable{K:Fm->aa->Prop}{Q:QO}
def sN (m:dI e=true)(ok:io b=true)(h:wE M e Z S λp=>∃(j:NV) (I:NF->Fm->aa->Prop),p.1=.int j/\(-(2^62)<=j/\j<2^62)/\I 0 Z p.2/\
  (∀(i:NF) Z S,i<j->I i Z S->Bk M fuel b (Z.set d (ba (.int i))) S (I (i+1)) Q)/\∀Z S,I j.toNat Z S->K Z S):Wp (gU M fuel (.loop (.nm d) (.rng #v[e]) b) Z S) (u7 K Q):=by
 obtain⟨w,S1,f,j,I,rfl,k,g,l,a⟩:=bR m h;have hl:(eX 0 j.toNat).length=j.toNat:=by simp[eX]
 show iJ (mi:=.its (eX 0 j.toNat)) (S1:=S1) (xs:=eX 0 j.toNat) I ok ?_ (λ_ _ _ _=>rfl) rfl g (λi w Z S hw c=>?_) λZ S c=>a Z S (hl▸c)
 ·revert jR de cR gD sd f;rw[Ob k]
 ·rw[eh]at hw;split at hw
  next hk=>cases hw;rw[Rv];show l i Z S ∅ c
  ·cases hw
def dM (k:dI e=true)(ok:io b=true)(g:wE M e Z S λp=>∃(t:NF) (xs:Ny W) (I:NF->Fm->aa->Prop),p.1=.ref t/\I 0 Z p.2/\(∀i Z S,I i Z S->S[t]?=ba (.lst xs))/\
  (∀ i w Z S,xs[i]?=ba w->I i Z S->wO (mI tg w Z S) λq=>Bk M fuel b q.1 q.2 (I (i+1)) Q)/\∀Z S,I ↥xs Z S->K Z S):Wp (gU M fuel (.loop tg (.seq e) b) Z S) (u7 K Q):=by
 obtain⟨w,S1,f,t,xs,I,rfl,d,a,j,c⟩:=bR k g;show iJ (mi:=.live t) (S1:=S1) I ok (by simp only[jR,eS,f,aG (a _ _ _ d)]) (λi Z S h=>by simp only[MI.at,aG (a _ _ _ h)]) (by simp only[MI.len,aG (a _ _ _ d),OJ]) d j c
end
abbrev qI (t:NV×NV×NV):W:=.tup [.int t.1,.int t.2.1,.int t.2.2]
abbrev Lj (a:NF)(t:NV×NV×NV):Prop:=(0<=t.1/\t.1<a)/\(0<=t.2.1/\t.2.1<a)/\(0<=t.2.2/\t.2.2<a)
abbrev Ris (a:NF)(t:NV×NV×NV):Prop:=0<=t.1/\t.1<=t.2.1/\t.2.1<=t.2.2/\t.2.2<a
def Ris.ok {a:NF}(h:Ris a t):Lj a t:=by
 obtain⟨b,c,d,e⟩:=h;show#[#[∅,∅],#[∅,∅],#[∅,by show ‹_›]]
abbrev BH (k:NV):Wd:=[(k,[]),(k,[0]),(k,[0,0])]
abbrev RuleG (P:NF->Ny NV->Ny Wd->Prop)(w:W):Prop:=∃a bs c d b,w=eE c d bs (jk b)/\RuleAt a bs c d b/\P a bs b
def RuleG.rule {P:NF->Ny NV->Ny Wd->Prop}(h:RuleG P w):IF w:=let ⟨a,bs,ms,ns,gs,h1,h2,_⟩:=h;#[a,bs,ms,ns,gs,h1,h2]
def RuleG.imp {P :NF->Ny NV->Ny Wd->Prop}(h:RuleG P w)(k:∀a bs b,P a bs b->c a bs b):RuleG c w:=let ⟨a,bs,ms,ns,b,h1,h2,h3⟩:=h;#[a,bs,ms,ns,b,h1,h2,k _ _ _ h3]
abbrev IG (_:NF)(bs:Ny NV)(a:Ny Wd):Prop:=bs=[0]/\∀g∈a,∃k,g=BH k
abbrev BI (a:NF)(bs:Ny NV)(b:Ny Wd):Prop:=b=[]\/∃f:NV,(0<=f/\f<↥bs)/\bs.getD f.toNat 0=f/\∀g∈b,∃(c:Pt) (m1 w1:NV) (p2:Pt),GoodW a ↥bs [c,(m1,[w1]),p2]/\g=dJ bs [c,(m1,[w1]),p2]/\w1≠f/\f∉p2.2
def FigD.has (h:FigD L U b):g∈b↔cV g∈U.map (·.1):=by
 rw[h.keys];show#[λa=>NS.mpr #[g,a,rfl],λa=>by
  obtain⟨g',c,d⟩:=NS.mp a;show eT d▸c]
def FigD.putX (h:FigD L U b)(c:f∈L):∃a,FigD L (dS U (cV f) v) a/\∀g,g∈a↔g∈b\/g=f:=by
 obtain⟨a,h'⟩:=h.put  c;show#[a,h',λg=>?_]
 rw[h'.has,h.has,gZ]
 by_cases hk:cV f∈U.map (·.1)
 ·rw[Ob hk];show#[.inl,λh=>h.elim id λe=>e▸hk]
 ·rw[Ot hk,Oa,NT];show#[λh=>h.imp id eT,λh=>h.imp id λe=>by rw[e]]
def Gu {q:NF}{a:NF}{d :Ny Oc}{P:NF->Ny NV->Ny Wd->Prop}(o:S[q]?=ba (.dic U))(c:FigD (aZ a bs) U g)(m:SizeOk a bs)(h:↥d=a)(i:↥e=↥bs)(j:GoodN d e)(r:P a bs g)(k:∀w l,RuleG P w->Ka S l->Q (w,l)) :
  wO (p9 (eE d e bs b) (.int 0) S) λp=>wO (p9 (eE d e bs b) (.int 1) p.2) λn=>wO (Bi.sorted.fn [.ref q] n.2) λs=>wO (Bi.tuple.fn [s.1] s.2) λz=>Q (.tup [p.1,n.1,z.1],z.2):=by
 show ag #v[] rfl (ag #v[] rfl ?_)
 have hl:=c.len;show BA (c.items o) (by have:=qH m;omega) (λf t=>BF (c.mem f t)) (c8 af (k _ _ #[a,bs,d,e,g,rfl,#[m,h,i,j,c.nd,c.mem],r] .push))
def BJ {q:NF}{a:NF}{d:Ny Wd}{Q:aa->Prop}(e:S[q]?=ba (.dic U))(f:FigD (aZ a bs) U d)(j:SizeOk a bs)(l:GoodW a ↥bs u)(c:↥u=3)
  (k:∀o b,(∃U,(S.set q o)[q]?=ba (.dic U)/\FigD (aZ a bs) U b)->(∀g,g∈b↔g∈d\/g=dJ bs u)->Q (S.set q o)):wO (i5 (.ref q) (aA (dJ bs u)) (.bl true) S) Q:=by
 have hl:=f.len;have:=qH j;obtain⟨b,h,i⟩:=f.putX  (EZ l c);show ab (BG e (by rw[O4];omega)) (k _ b #[_,bg e,h] i)
def M0:∀k∈gf 1,BH k∈aZ 1 [0]:=by decide +kernel
def M1:∀k∈gf 2,BH k∈aZ 2 [0]:=by decide +kernel
def M2:∀k∈gf 3,BH k∈aZ 3 [0]:=by decide +kernel
def E4 {a:NF}{k:NV}(d:1<=a)(e:a<=3)(hk:0<=k)(b:k<a):BH k∈aZ a [0]:=by
 have c:a=1\/a=2\/a=3:=∅
 rcases c with rfl|rfl|rfl
 ·show M0 k (aS hk b)
 ·show M1 k (aS hk b)
 ·show M2 k (aS hk b)
def E5 {a :NV}(h:BH a=BH b):a=b:=by
 injection h with h1 h2
 injection h1
def qJ:GoodB [0]:=.inl rfl
def Gv (b:S[i]?=ba (.lst xs))(c:S[j]?=ba (.lst [])):bK .eq (.ref i) (.ref j) S=ba (.bl xs.isEmpty,S):=by
 show(lq S _ _ _).map _=_;change (match lV S i,lV S j with
  |some xs,ba a=>if ↥xs=↥a then ib (lq S 19) xs a else ba false
  |_,_=>dx).map _=_
 rw[cH b,cH c];cases xs with
 |nil=>rfl
 |cons x xs=>rfl
def E6 :bK .notin (.int f) (.tup (am ws)) S=ba (.bl (!decide (f∈ws)),S):=by
 have c:(aR (.int f)&&(am ws).all aR)=true:=by
  show(true&&(am ws).all aR)=true;rw[QN,N6];intro x d;obtain⟨z,_,rfl⟩:=NS.mp d;rfl
 have b:((am ws).any λz=>iU z (.int f))=decide (f∈ws):=by
  unfold am;rw[Xb,Qp,Qe,Og];show#[λ#[x,h1,h2]=>by
   have:x=f:=eq_of_beq (show(x==f)=true from h2)
   show this▸h1,λh=>#[f,h,show(f==f)=true from Os f]]
 have a:pU (.int f) (.tup (am ws)) S=ba (decide (f∈ws)):=by
  show(if (aR (.int f)&&(am ws).all aR)=true then ba ((am ws).any λz=>iU z (.int f))else dx)=_
  rw[Ob c,b]
 change Rr _ (Rr _ (pU (.int f) (.tup (am ws)) S))=_;rw[a];rfl
section
variable{K:Fm->aa->Prop}{Q:QO}
def eF {a :E}(i j:NV)(I:NF->Fm->aa->Prop)(r:dI a=true)(ob:dI b=true)(ok:io bd=true)(o : -(2^62)<=i/\i<2^62/\-(2^62)<=j/\j<2^62)(n:wE M a Z S λp=>p.1=.int i/\wE M b Z p.2 λq=>q.1=.int j/\I 0 Z q.2)
  (c:∀(k:NF) Z S,k<j-i->I k Z S->Bk M fuel bd (Z.set f (ba (.int (i+k)))) S (I (k+1)) Q) (d:∀Z S,I (j-i).toNat Z S->K Z S):Wp (gU M fuel (.loop (.nm f) (.rng2 #v[a,b]) bd) Z S) (u7 K Q):=by
 obtain⟨w,S1,g,rfl,m⟩:=bR r n;obtain⟨w,s,h,rfl,l⟩:=bR ob m;have hl:(eX i (j-i).toNat).length=(j-i).toNat:=by simp[eX]
 show iJ (mi:=.its _)   I ok ?_ (λ_ _ _ _=>rfl) rfl l (λk w Z S hw e=>?_) λZ S e=>d Z S (hl▸e)
 ·revert jR de cR gD iRng2 g h;rw[Ob o]
 ·rw[eh]at hw;split at hw
  ·cases hw;show c k Z S ∅ e
  ·cases hw
def BK {d a :E}{h:Es}{Q:QW}(i j:NV)(I:NF->Ny W->Fm->aa->Prop)(x:dI a=true)(ob:dI b=true)(z:dI d=true)(oc:og h=true)(u : -(2^62)<=i/\i<2^62/\-(2^62)<=j/\j<2^62)(t:wE M a Z S λp=>p.1=.int i/\wE M b Z p.2 λq=>q.1=.int j/\I 0 [] (eM f Z) q.2)
  (e:∀(k:NF) c Z S,k<j-i->I k c Z S->eB M d h (Z.set m (ba (.int (i+k)))) S (λy=>I (k+1) (c++[y])) (I (k+1) c))
  (g:∀c Z S,I (j-i).toNat c Z S->↥c<=sizeLine/\Q (.ref ↥S,S++[.lst c])):Wp (aI M (.comp d (.nm m) (.rng2 #v[a,b]) h f) Z S) Q:=by
 obtain⟨w,S1,n,rfl,s⟩:=bR x t;obtain⟨w,A,o,rfl,r⟩:=bR ob s;have hl:(eX i (j-i).toNat).length=(j-i).toNat:=by simp[eX]
 show jY (mi:=.its _)   I z oc ?_ (λ_ _ _ _ _=>rfl) rfl r (λk w c Z S hw l=>?_) λc Z S l=>g c Z S (hl▸l)
 ·revert jR de cR gD iRng2 n o;rw[Ob u]
 ·rw[eh]at hw;split at hw
  ·cases hw;show e k c Z S ∅ l
  ·cases hw
end
abbrev nh (i j m:NF):Ny (NV×NV×NV):=(NQ m).map λ(x:NF)=>((i:NV),(i:NV)+j,(i:NV)+j+x)
abbrev sO (a i j:NF):Ny (NV×NV×NV):=(NQ j).flatMap λx=>nh i x (a-(i+x))
abbrev qK (a i:NF):Ny (NV×NV×NV):=(NQ i).flatMap λx=>sO a x (a-x)
def sP {α:Type}{f:NF->Ny α}:(NQ (n+1)).flatMap f=(NQ n).flatMap f++f n:=by
 rw[Pe,P6,Qo,Tv,Oz]
def yK {a  :NF}:sO a i (j+1)=sO a i j++nh i j (a-(i+j)):=sP
def yL {a :NF}:qK a (i+1)=qK a i++sO a i (a-i):=sP
def E7 {a:NF}:t∈qK a a↔Ris a t:=by
 unfold qK sO nh;revert OX NS NU;constructor
 ·rintro⟨x,f,y,g,z,h,rfl⟩;show#[NX _,SL (NX _),SL (NX _),by dsimp only;omega]
 ·obtain⟨i,j,k⟩:=t;rintro⟨b,c,d,e⟩;dsimp only at b c d e;obtain⟨x,rfl⟩:=Qn b;obtain⟨y,rfl⟩:=Xs c;obtain⟨z,rfl⟩:=Xs d;show#[x,∅,y,∅,z,∅,rfl]
def E8:∀a<4,∀i<4,∀j<4,(qK a i++(sO a i j++nh i j (a-(i+j)))).length<=1000:=by decide
def BM (G:Gen defs){a:NF}(I:a<=3)(k:∀ q (ts:Ny (NV×NV×NV)) f,f[q]?=ba (.lst (ts.map qI))->(∀t,t∈ts↔Ris a t)->↥S<=q->Ka S f->Q (.ref q,f)) :
  wO (aJ (aq defs fuel (d+1)) "_law_rising" 1 [.int a] S) Q:=by
 show au G.rising rfl rfl λD A=>?_
 replace k:=λq ts f a b c e=>A _ _ (k q ts f a b c e)
 show st ?_;left;nofun
 show b8 a (λi Z f=>∃q r g,Z=[ba _,ba (.ref q),r,g]/\f[q]?=ba (.lst ((qK a i).map qI))/\↥S<=q/\Ka S f) rfl rfl ∅ #[rfl,_,_,_,rfl,af,NP _,.push] ?_ ?_
 ·rintro i Z S1 hi ⟨q,r,g,rfl,s,h,v⟩ E C _;nofun
  show eF i a (λj Z f=>∃q g,Z=[ba _,ba (.ref q),ba _,g]/\f[q]?=ba (.lst ((qK a i++sO a i j).map qI))/\↥S<=q/\Ka S f) rfl rfl rfl ∅ #[rfl,rfl,q,g,rfl,(Oz (qK a i)).symm▸s,h,v] ?_ ?_
  ·rintro j Z x J ⟨q,g,rfl,l,h,n⟩ H u _;show st ?_;left;have B:=E8 a ∅ i ∅ j ∅
   show BK (i+j) a (λm w p o=>(∃y,p=[dx,y,ba (.int i),ba (.int (i+j))])/\w=(nh i j m).map qI/\o=x) rfl rfl rfl rfl ∅ #[rfl,rfl,#[dx,rfl],rfl,rfl] ?_ ?_
   ·rintro m w p o L ⟨⟨y,rfl⟩,rfl,rfl⟩;show#[λ_=>#[#[_,rfl],by unfold nh;rw[Pe,N3,N3];rfl,rfl],λz=>by cases z]
   ·rintro w p o ⟨_,rfl,rfl⟩;rw[show((a:NV)-(i+j)).toNat=a-(i+j) by omega]
    rw[NE,NE]at B;show#[jB (by rw[Nz];omega),ab (u6 (aB l) af (jB ?_)) (aW (u _ _ #[_,_,rfl,?_,?_,n.trans (Ka.push.trans .push)]))]
    ·rw[NE,Nz,Nz,NE];omega
    ·rw[yK,<- OO,show(qK a i++sO a i j++nh i j (a-(i+j))).map qI=_ from N3];show af
    ·have:=n.len;revert NE;omega
  ·rintro Z x ⟨q,g,rfl,l,h,n⟩;rw[Int.toNat_sub,<- yL]at l;show hK _ _ (aW (C _ _ #[q,_,_,rfl,l,h,n]))
 ·rintro Z S1 ⟨q,r,g,rfl,s,h,v⟩;show hK _ _ (st (k q _ S1 s (λt=>E7) h v))
def yM (B:20<fuel)(G:Gen defs)(R:Fl S r)(k:∀w n,RuleG IG w->Fl n r->Kp r S n->Q (w,n)):wO (aJ (aq defs fuel (d+6)) "_law_one_way_rule" 1 [.ref r] S) Q:=by
 show au G.one_way_rule rfl rfl λM L=>?_
 replace k:=λz n a b c=>L _ _ (k z n a b c)
 clear L;change wZ _ _ bS [ba (.ref r),dx,dx] S M;delta bS;nofun
 left;show aY  G.pick R #v[] #v[] λv S1 v0 v3 P W=>?_
 delta fY bv;obtain⟨a,O⟩:∃a:NF,1+v=a:=#[(1+v).toNat,∅]
 rw[O];show hK _ _ ?_;clear hK K;nofun
 left;show fP a (λk I A o=>(∃J,A=[dx,J,ba (.ref r)])/\(∃ks:Ny NV,I=(ks.map BH).map aA/\ks.Pairwise (·≠·)/\↥ks<=k/\∀x∈ks,0<=x/\x<k)/\Fl o r/\Kp r S1 o) rfl rfl rfl ∅ #[rfl,#[dx,rfl],#[[],rfl,.nil,NP _,λ_ h=>(nomatch h)],P,.refl] ?_ ?_
 ·rintro i I A o hi ⟨⟨J,rfl⟩,⟨ks,rfl,j,m,f⟩,p,s⟩;clear hK k;delta eB wC wT wE wA wV wG NG;show aY  G.pick p #v[] #v[] λv N _ _ q t=>?_
  dsimp only[];show#[λ_=>#[#[_,rfl],#[ks++[(i:NV)],by simp[BH,aA,aN],?_,by rw[NE];show Tn m,λx l=>?_],q,s.trans t],λ_=>#[#[_,rfl],#[ks,rfl,j,by show Rj ‹_›,λx l=>#[(f x l).1,by have:=(f x l).2;omega]],q,s.trans t]]
  ·rw[Rs];show#[j,by simp,λx l y V e=>?_]
   have:=(f x l).2;rw[NT.mp V]at e;omega
  ·rcases Oa.mp l with h|h
   ·show#[(f x h).1,by have:=(f x h).2;omega]
   ·rw[NT.mp h];omega
 ·rintro I A o ⟨_,⟨ks,rfl,j,m,f⟩,p,s⟩;rw[Od]at m f;show#[jB (by rw[Nz,Nz];omega),hK _ _ (st ?_)]
  clear hK K;left;have T:=p.lt;show o9   (bs:=[0]) (us:=ks.map BH) B G (p.ka .push) ∅ #v[] (λn X=>?_) (by rw[Nz];omega) (λu U=>by obtain⟨x,_,rfl⟩:=NS.mp U;show VZ _ _) λY Z N D E H q t=>?_
  ·simp only[fM,aG (X.get _ _ (by show O2 ‹_›) af)]
  show k _ _ #[a,[0],Y,Z,ks.map BH,rfl,#[#[∅,qJ,by simp;omega,∅],D,E,H,?_,λg C=>?_],rfl,λg C=>let ⟨x,_,e⟩:=NS.mp C;#[x,e.symm]] q (W.trans (s.trans (Kp.push.trans t)))
  ·unfold XS;rw[P4];show j.imp λh e=>h (E5 e)
  ·obtain⟨x,l,rfl⟩:=NS.mp C;show E4 ∅ ∅ (f x l).1 (f x l).2
def sQ (hfu:20<fuel)(G:Gen defs)(hf:Fl S r)(k:∀w e,RuleG BI w->Fl e r->Kp r S e->Q (w,e)):wO (aJ (aq defs fuel (d+6)) "_law_free_rule" 1 [.ref r] S) Q:=by
 show au G.free_rule rfl rfl λH hR=>?_
 replace k:=λz e a b c=>hR _ _ (k z e a b c)
 clear hR;change wZ _ _ cJ [ba (.ref r),dx,dx,dx,dx,dx,dx,dx,dx] S H;delta cJ;nofun
 left;show EX  G hf λa n S1 a1 a3 n1 n3 an f1 k1=>?_
 delta wU;show ab (rfl) (hK _ _ ?_);clear hK K;nofun
 left;show EY  G f1 n1 n3 λbs l hb J f2 k2=>?_
 have hsz:SizeOk a bs:=#[∅,hb,by rw[J];show an,a3]
 show nb  hfu G f2 a3 ∅ λms ns S3 M B P f3 k3=>hK _ _ ?_
 clear hK K;have hrt:=f3.lt;replace k3:=k1.trans (k2.trans k3);clear k1 k2 f1 f2;nofun
 left;show fP n (λi zs Z2 l=>(∃a1,Z2=[dx,a1,ba (eE ms ns bs [])])/\(∃ks:Ny NV,zs=am ks/\↥ks<=i/\∀x∈ks,(0<=x/\x<↥bs)/\bs.getD x.toNat 0=x)/\l=S3) rfl rfl rfl ∅ #[rfl,#[dx,rfl],#[[],rfl,NP _,λ_ h=>(nomatch h)],rfl] ?_ ?_
 ·rintro i zs Z2 l hi ⟨⟨a1,rfl⟩,⟨ks,rfl,A,m⟩,rfl⟩;clear hK k;have L:i<↥bs:=∅
  delta eB wC wT wE wA wV wG NG;show ag #v[] rfl (ag (NX i) (by rw[Od];show mY (NK ∅) (NK L)) (ag #v[] rfl ?_))
  delta im bv wB;show#[λhbi=>#[#[_,rfl],#[ks++[(i:NV)],by unfold am;rw[N3];rfl,by rw[NE];show Tn A,λx V=>?_],rfl],λ_=>#[#[_,rfl],#[ks,rfl,∅,m],rfl]]
  rcases Oa.mp V with V|V
  ·show m x V
  ·rw[NT.mp V];show#[#[∅,∅],?_]
   rw[Od,NL,NK L]
   simpa using hbi
 ·rintro zs Z2 l ⟨_,⟨ks,rfl,A,m⟩,rfl⟩;rw[Od]at A;have il:(am ks).length=↥ks:=Nz ..;show#[jB ∅,hK _ _ ?_]
  clear hK K;nofun
  delta wS wT wE wA wV wG NG;show ab (Gv (aB af) af) ?_;delta wB;have f4:=(f3.ka (Ka.push (o:=O.lst (am ks)))).ka (Ka.push (o:=O.lst []));have k4:=k3.trans ((Kp.push (o:=O.lst (am ks))).trans (Kp.push (o:=O.lst [])));have e4:=aB (u:=O.lst []) (af (S:=l) (o:=O.lst (am ks)));have hl4:↥l<(l++[O.lst (am ks)]++[O.lst []]).length:=by simp
  generalize hS4:l++[O.lst (am ks)]++[O.lst []]=S4 at f4 k4 e4 hl4;clear hS4;have ret:∀j:QO,(∀w e,H (.rt w,e)->j (.rt w,e))->wZ (aq defs fuel (d+5)) fuel #v[.ret (.v 3)] [ba (.ref r),ba (.int a),ba (.int n),ba (eE ms ns bs []),dx,ba (.ref ↥l),dx,dx,dx] S4 j:=λj R=>st (R _ _ (k _ _ #[a,bs,ms,ns,[],rfl,#[hsz,M,B,P,.nil,λ_ h=>(nomatch h)],.inl rfl] f4 k4))
  show#[λ_=>ah (Q0:=H) (λ_ j _ R=>ret j R) (λz=>by cases z),λhne=>?_]
  delta im bv wB;show ah (Q0:=H) (λ_ j _ R=>ret j R) (λ_ j N _=>aW (N _ _ (hK _ _ ?_)))
  clear hK ret N;have hk0:0<↥ks:=by
   cases ks with
   |nil=>cases hne
   |cons x ks=>show Nat.succ_pos _
  nofun
  left;show kL e4 ?_;rw[il];show aY  G.pick f4 ∅ ∅ λv S5 v0 v1 f5 X=>?_
  have e5:=X.get _ _ ∅ e4
  obtain⟨x,W,ex⟩:=mW  (xs:=ks) (i:=v.toNat) ∅
  show kJ e5 v0 ex (hK _ _ ?_);clear hK K;replace X:Kp r S S5:=k4.trans X;have T:=f5.lt;show st ?_;left;nofun
  show sN rfl rfl ?_;left;show aY  G.pick (f5.ka .push) #v[] #v[] λv S6 v0 v9 f6 k6=>?_
  show#[v,λ_ Z e=>(∃a4 a8,Z=[ba (.ref r),ba (.int a),ba (.int n),ba (eE ms ns bs []),a4,ba (.ref ↥l),ba (.int x),ba (.ref ↥S5),a8])/\(∃U I,e[↥S5]?=ba (.dic U)/\FigD (aZ a bs) U I/\∀g∈I,∃y m1 s p2,GoodW a ↥bs [y,(m1,[s]),p2]/\g=dJ bs [y,(m1,[s]),p2]/\s≠x/\x∉p2.2)/\Fl e r/\Kp r S e,rfl,∅,#[#[dx,dx,rfl],#[[],[],k6.get _ _ ∅ af,.nil,λ_ h=>(nomatch h)],f6,(X.trans .push).trans k6],?_,?_]
  ·rintro i Z S7 hi ⟨⟨a4,a8,rfl⟩,⟨U,I,e7,hd,t⟩,f7,k7⟩ j N _;clear hK k;show st ?_;left;show qG  G f7 ∅ a3 ∅ n3 λu S8 C D f8 Y=>?_
   have D:GoodW a ↥bs u:=J.symm▸D;have e8:=Y.get _ _ ∅ e7
   obtain⟨y,E,p2,rfl⟩:∃y E p2,u=[y,E,p2]:=by
    match u,C with
    |[y,E,p2],_=>show#[y,E,p2,rfl]
   have l1:=D.len 1 E rfl;obtain⟨m1,ws1⟩:=E;obtain⟨s,rfl⟩:∃s,ws1=[s]:=by
    match ws1,l1 with
    |[s],_=>show#[s,rfl]
   have hb2:=E6 (S:=S8) (f:=x) (ws:=p2.2);have kk:=k7.trans Y;nofun
   delta wS wT wE wA wV wG;show ag #v[] rfl (ag #v[] rfl (ag #v[] rfl ?_))
   delta sE bv wB;have skip:K [ba (.ref r),ba (.int a),ba (.int n),ba (eE ms ns bs []),ba (.int i),ba (.ref ↥l),ba (.int x),ba (.ref ↥S5),ba (aA [y,(m1,[s]),p2])] S8:=hK _ _ (aW (N _ _ #[#[_,_,rfl],#[U,I,e8,hd,t],f8,kk]));show#[λhw1=>?_,λ_=>ah (Q0:=j) (λz=>by cases z) λ_ Q3 q _=>aW (q _ _ skip)]
   show ag #v[] rfl (ag #v[] rfl (ab hb2 ?_))
   delta wB;show ah (Q0:=j) (λhxp Q3 q _=>?_) λ_ Q3 q _=>aW (q _ _ skip)
   clear skip;show st ?_;left;show sK  G hb B D C λS9 k9=>?_
   show BJ (k9.get _ _ e8) hd hsz D C λo fs' #[U',ho1,ho2] ho3=>aW (q _ _ (hK _ _ (aW (N _ _ #[#[_,_,rfl],#[U',fs',ho1,ho2,λg hg=>?_],(f8.ka k9).own T,(kk.trans (k9.kp r)).late X.len]))))
   rcases(ho3 g).mp hg with hg|rfl
   ·show t g hg
   ·show#[y,m1,s,p2,D,rfl,by simpa using hw1,by simpa using hxp]
  ·rintro Z S7 ⟨⟨a4,a8,rfl⟩,⟨U,I,e7,hd,t⟩,f7,k7⟩;show hK _ _ (st ?_);left;show Gu  (Q:=λp=>H (.rt p.1,p.2)) e7 hd hsz M B P (.inr #[x,(m x W).1,(m x W).2,t]) λw S8 hw Y=>k w S8 hw (f7.ka Y) (k7.trans (Y.kp r))
abbrev bm (u v:NV):T:=.tup [.int u,.int v]
abbrev eG (u v:NV):W:=.tup [.int u,.int v]
def nj :eL (eG u v)=ba (bm u v):=rfl
def BN (h:bj U k=ba v):(k,v)∈U:=by
 unfold bj at h;rw[NB]at h;obtain⟨p,a,rfl⟩:=h;have:=Sj a;rw[<- OC this];show P8 a
def E9 {p:T×W}(h:p∈U):∃v,bj U p.1=ba v:=by
 unfold bj;cases e:U.find? λq=>decide (q.1=p.1)with
 |some q=>show#[q.2,rfl]
 |none=>show absurd (Qf.mp e p h) (by simp)
noncomputable abbrev gh:=NV×NV×Ny NV
inductive MustL (S:aa)(b:NF):Ny (T×W)->Ny gh->Prop
 |nil:MustL S b [] []
 |cons {e:gh}{l:NF}{U:Ny (T×W)}{L:Ny gh}:b<=l->S[l]?=ba (.lst (am e.2.2))->MustL S b U L->MustL S b ((bm e.1 e.2.1,.ref l)::U) (e::L)
def MustL.mono { a:aa}(h:MustL S b U L)(k:∀ l ws,b<=l->S[l]?=ba (.lst (am ws))->a[l]?=ba (.lst (am ws))):MustL a b U L:=by
 induction h with
 |nil=>show .nil
 |cons c d _ ih=>show .cons c (k _ _ c d) ih
def MustL.ka { a:aa}(h:MustL S b U L)(k:Ka S a):MustL a b U L:=h.mono λl ws _ e=>k.get _ _ e
def MustL.kp { a:aa}(h:MustL S b U L)(c:r<b)(k:Kp r S a):MustL a b U L:=h.mono λl ws hl e=>k.get _ _ ∅ e
def MustL.set (h:MustL S b U L)(a:S[t]?=ba (.dic k)):MustL (S.set t o) b U L:=h.mono λl ws hl e=>by
 rw[be (by rintro rfl;rw[a]at e;cases e)];show e
def MustL.len (h:MustL S b U L):↥U=↥L:=by
 induction h with
 |nil=>rfl
 |cons _ _ _ ih=>rw[On,On,ih]
def BO {e:gh}:decide (bm e.1 e.2.1=bm u v)=decide (e.1=u/\e.2.1=v):=by
 unfold bm;simp
abbrev C7 (L:Ny gh)(u v:NV):NJ (Ny NV):=(L.find? λe=>decide (e.1=u/\e.2.1=v)).map (·.2.2)
def MustL.look (h:MustL S b U L)(u v:NV):(bj U (bm u v)=dx/\C7 L u v=dx)\/∃l ws,bj U (bm u v)=ba (.ref l)/\b<=l/\S[l]?=ba (.lst (am ws))/\C7 L u v=ba ws:=by
 induction h with
 |nil=>show .inl #[rfl,rfl]
 |@cons e l U L a c _ ih=>
  unfold bj C7 at ih ⊢;rw[Si,Si];rw[BO]
  by_cases hd:e.1=u/\e.2.1=v
  ·rw[OS hd];show .inr #[l,e.2.2,rfl,a,c,rfl]
  ·rw[Oy hd];show ih
def MustL.at { i:NF}{p:T×W}(h:MustL S b U L)(a:U[i]?=ba p):∃e l,L[i]?=ba e/\p=(bm e.1 e.2.1,W.ref l):=by
 induction h generalizing i with
 |nil=>cases a
 |@cons e l U L _ _ _ ih=>
  cases i with
  |zero=>cases a;show#[e,l,rfl,rfl]
  |succ i=>show ih a
def MustL.snoc (h:MustL S b U L)(d:b<=l)(f:S[l]?=ba (.lst (am e.2.2))):MustL S b (U++[(bm e.1 e.2.1,.ref l)]) (L++[e]):=by
 induction h with
 |nil=>show .cons d f .nil
 |cons a c _ ih=>show .cons a c ih
def MustL.fresh (h:MustL S b U L)(a:C7 L u v=dx):dS U (bm u v) w=U++[(bm u v,w)]:=by
 unfold dS;rw[Ot];rw[mf];rcases h.look u v with⟨e,_⟩|⟨l,ws,_,_,_,e⟩
 ·rw[e];show OG
 ·rw[a]at e;cases e
abbrev BP (ws:Ny NV):Es:=ws.foldr (λw es=>.cons (.c (.int w)) es) .nil
abbrev BQ:Ny gh->Es
 |[]=>.nil
 |e::L=>.cons (.tup #v[.c (.int e.1),.c (.int e.2.1)]) (.cons (.lst (BP e.2.2)) (BQ L))
abbrev Fa:Ny gh->NF->Ny W
 |[],_=>[]
 |e::L,s=>eG e.1 e.2.1::.ref s::Fa L (s+1)
abbrev yN (L:Ny gh):aa:=L.map λe=>O.lst (am e.2.2)
abbrev BS (n:NF)(e:gh):Oh:=decide ((0<=e.1/\e.1<n)/\(0<=e.2.1/\e.2.1<n)/\↥e.2.2<=3)&&e.2.2.all λw=>decide (0<=w/\w<(n:NV))
def ve :∀{ws:Ny NV}{Q:Ny W×aa->Prop},Q (am ws,S)->wA M (BP ws) Z S Q
 |[],Q,q=>by show q
 |w::ws,Q,q=>by change wA M (.cons _ _) Z S Q;show ve q
def BU:∀{L:Ny gh}{S:aa}{Q:Ny W×aa->Prop},Q (Fa L ↥S,S++yN L)->wA M (BQ L) Z S Q
 |[],S,Q,q=>by
  change wA M _ Z S Q
  rwa [show S++yN []=S from Oz S]at q
 |e::L,S,Q,q=>by
  change wA M (.cons _ _) Z S Q;left;show ve (BU ?_);rw[NE,OO];show q
abbrev Fb (L:Ny gh):Oh:=(NQ ↥L).all λi=>(L[i]?).all λe=>(C7 (L.take i) e.1 e.2.1).isNone
def pb :∀ L L0 s U,MustL S b U L0->Fb (L0++L)=true->b<=s->(∀i e,L[i]?=ba e->S[s+i]?=ba (.lst (am e.2.2)))->∃U',eu U (Fa L s)=ba U'/\MustL S b U' (L0++L)
 |[],L0,s,U,c,d,f,a=>#[U,by dsimp only[Fa,eu],by rwa [Oz]]
 |e::L,L0,s,U,c,d,f,a=>by
  have h:C7 L0 e.1 e.2.1=dx:=by
   have:=N6.mp d ↥L0 (NU.mpr (by rw[NE,On];omega))
   rw[Wh]at this
   ·simpa using this
   ·rfl
  obtain⟨U',k,g⟩:=pb L _ (s+1) (dS U _ _) (by rw[c.fresh h];show c.snoc f (by have:=a 0 e rfl;simpa using this)) (by rw[OO];show d) (by show Rj ‹_›) (λi x j=>by have:=a (i+1) x (by simpa using j);rw[show s+1+i=s+(i+1) by omega];show this)
  show#[U',?_,by rw[OO]at g;show g]
  show k
abbrev KB:Ny (Ny NV):=[[1,0],[0,2,1],[0,1],[0,1,2]]
noncomputable abbrev Lk:=Ny NV×Ny gh×NV
abbrev KT:Ny Lk:=[([1,0],[(0,0,[0])],3),([0,2,1],[(1,1,[1])],2),([0,1],[(1,1,[1])],3),([0,1],[(1,1,[1]),(0,0,[1])],3),([0,1],[(1,1,[])],1),([0,2,1],[(0,0,[0]),(0,1,[1]),(1,0,[1]),(1,1,[1])],2),([1,0],[],3),([0,1,2],[(2,2,[2]),(1,2,[1]),(2,1,[1]),(1,1,[1,2])],2),([0,1,2],[(0,0,[0,1])],2)]
def BV:∀x∈KT,x.1∈KB/\1<=x.2.2/\x.2.2<=3/\x.2.2*↥x.1<=6/\↥x.2.1<=4/\x.2.1.all (BS ↥x.1)=true/\Fb x.2.1=true:=by decide
abbrev KindOk (S:aa)(b:NF)(w:W):Prop:=∃(bs:Ny NV) (q:NF) (U:Ny (T×W)) (L:Ny gh) (most:NV),w=.tup [.tup (am bs),.ref q,.int most]/\(bs,L,most)∈KT/\S[q]?=ba (.dic U)/\b<=q/\MustL S b U L
def KindOk.mono { a:aa}(h:KindOk S b w)(c:∀ l ws,b<=l->S[l]?=ba (.lst (am ws))->a[l]?=ba (.lst (am ws)))(d:∀ l U,b<=l->S[l]?=ba (.dic U)->a[l]?=ba (.dic U)):KindOk a b w:=
 let ⟨bs,q,U,L,most,h1,h2,h6,h7,h9⟩:=h
 #[bs,q,U,L,most,h1,h2,d _ _ h7 h6,h7,h9.mono c]
def KindOk.ka { a:aa}(h:KindOk S b w)(k:Ka S a):KindOk a b w:=h.mono (λl ws _ e=>k.get _ _ e) (λl ws _ e=>k.get _ _ e)
abbrev BW (bs:Ny NV)(L:Ny gh)(most:NV):E:=.tup #v[.tup (BP bs),.disp (BQ L),.c (.int most)]
def qL (bs:Ny NV)(L:Ny gh)(most:NV)(g:b<=↥S)(f:(bs,L,most)∈KT)(k:∀w d,KindOk d b w->Ka S d->Q (w,d)) :
  wE M (BW bs L most) Z S Q:=by
 unfold BW;left;show ve (BU ?_);have c:=(BV _ f).2.2.2.2.2.2;obtain⟨U,m,n⟩:=pb (S:=S++[O.dic []]++yN L) (b:=b) L [] (↥S+1) [] .nil c (by show Rj ‹_›) (λi e l=>by
  rw[Ox (by simp),show ↥S+1+i-(S++[O.dic []]).length=i by simp]
  (delta yN;simp[l]))
 have a:(S++[O.dic []]++yN L)[↥S]?=ba (.dic []):=by
  rw[Ow (by simp)];show af
 show#[a,ab (show eu [] _=ba U by rw[NE];show m) (k _ _ #[bs,↥S,U,L,most,rfl,f,bg a,g,n.set a] #[λj o h=>?_,by simp])]
 ·have:=bQ h;show((S++[O.dic []]++yN L).set ↥S _)[j]?=ba o;rw[be (by show O2 ‹_›),Ow (by simp;show Px ‹_›)]
  show aB h
structure Menu (S0 S:aa)(r t m:NF):Prop where
 at_t:∃xs:Ny W,S[t]?=ba (.lst xs)/\↥xs=m/\∀x∈xs,KindOk S ↥S0 x
 pos:0<m
 jB:m<=9
 fl:Fl S r
 kp:Kp r S0 S
 lt:↥S0<=t
 rlt:r<↥S0
def sR (h:Menu f S r t m)(hw:KindOk c ↥f w)(k:Ka S c)(s:m<9):∃xs,c[t]?=ba (.lst xs)/\↥xs<sizeLine/\Menu f (c.set t (.lst (xs++[w]))) r t (m+1):=by
 obtain⟨⟨xs,o,i,g⟩,u,p,n,kp,lt,j⟩:=h;have e:=k.get _ _ o;have stay:∀x,KindOk c _ x->KindOk (c.set t (.lst (xs++[w]))) ↥f x:=λx b=>b.mono (λl ws hl a=>by
  by_cases d:t=l
  ·exfalso;subst d;rw[e]at a;injection a with a
   injection a with a
   match xs,i,g with
   |[],i,_=>simp at i;omega
   |x::xs,_,g=>
    obtain⟨bs,q,U,L,most,b,_⟩:=g x (by simp)
    subst b
    match ws with
    |[]=>simp[am]at a
    |w::ws=>simp[am]at a
  ·rw[be d];show a) (λl U hl a=>by
  rw[be (by rintro rfl;rw[e]at a;cases a)];show a)
 show#[xs,e,(by rw[O4];omega),#[xs++[w],bg e,by simp;omega,λx b=>?_],by show Px ‹_›,by show Vu ‹_›,(n.ka k).own (by show N5 ‹_› ‹_›),(kp.trans (k.kp r)).late lt,lt,j]
 rcases Oa.mp b with b|b
 ·show stay x ((g x b).ka k)
 ·rw[NT.mp b];show stay w hw
def sS (bs:Ny NV)(L:Ny gh)(most:NV){d:NJ W}{K:Fm->aa->Prop}{Q:QO}(h:Menu b S r t m)(j:m<9)(i:(bs,L,most)∈KT)(k:∀a,Menu b a r t (m+1)->K [d,ba (.ref t)] a) :
  wS M fuel (.ex (.me .append (.v 1) #v[BW bs L most])) [d,ba (.ref t)] S K Q:=by
 left;obtain⟨xs,c,p,q⟩:=h.at_t;show#[cN c,qL bs L _ (N9 h.lt (QE (bQ c))) i λw a l n=>?_]
 obtain⟨o,e,f,g⟩:=sR h l n j;show ab (Bg e f) (k _ g)
def oh (G:Gen defs)(C:Fl S r)(k:∀w i,KindOk i ↥S w->Fl i r->Kp r S i->Q (w,i)):wO (aJ (aq defs fuel (d+2)) "_law_laying_kind" 1 [.ref r] S) Q:=by
 show au G.laying_kind rfl rfl λJ V=>?_
 replace k:=λz i a b c=>V _ _ (k z i a b c)
 change wZ _ _ c7 [ba (.ref r),dx] S J;have u:=C.lt;nofun
 show Lg ?_;change wA _ _ _ _ _;change wE _ _ _ _ _
 show qL [1,0] [(0,0,[0])] 3  (NP _) #v[] λB S1 E p=>?_
 change wE _ _ _ _ _;show qL [0,2,1] [(1,1,[1])] 2  p.len #v[] λw2 S2 H q=>?_
 have h:=p.trans q;change wE _ _ _ _ _;show qL [0,1] [(1,1,[1])] 3  h.len #v[] λw3 m I n=>?_
 have f:=h.trans n;delta wA;show hK _ _ ?_;clear hK K;have y:Menu S (m++[O.lst [B,w2,w3]]) r ↥m 3:=by
  show#[#[[B,w2,w3],af,rfl,λx j=>?_],#v[],#v[],(C.ka f).ka .push,(f.trans .push).kp r,f.len,u]
  rcases Of.mp j with rfl|j
  ·show(E.ka (q.trans n)).ka .push
  ·rcases Of.mp j with rfl|j
   ·show(H.ka n).ka .push
   ·rw[NT.mp j];show I.ka .push
 left;clear E H I p q n h f;generalize ↥m=t at y;generalize m++[O.lst [B,w2,w3]]=S3' at y;show aK λK hK=>sS [0,1] [(1,1,[1]),(0,0,[1])] 3 y #v[] #v[] λS4 X=>hK _ _ ?_
 show aK λK hK=>sS [0,1] [(1,1,[])] 1 X #v[] #v[] λS5 Y=>hK _ _ ?_
 show aK λK hK=>sS [0,2,1] [(0,0,[0]),(0,1,[1]),(1,0,[1]),(1,1,[1])] 2 Y #v[] #v[] λM A=>hK _ _ ?_
 nofun
 left;obtain⟨xs,N,e2,e3⟩:=A.at_t;obtain⟨xs',P,R,Z⟩:=sR   A #[[1,0],↥M,[],[],3,rfl,#v[],af,A.kp.len,.nil] .push #v[]
 show#[cN N,ab (Bg P R) (hK _ _ ?_)];show aK λK hK=>sS [0,1,2] [(2,2,[2]),(1,2,[1]),(2,1,[1]),(1,1,[1,2])] 2 Z #v[] #v[] λS8 m8=>hK _ _ ?_
 show aK λK hK=>sS [0,1,2] [(0,0,[0,1])] 2 m8 #v[] #v[] λS9 o=>hK _ _ ?_
 show st ?_;left;show aY  G.pick o.fl #v[] #v[] λv L v0 v9 s g=>?_
 obtain⟨xs,T,g2,U⟩:=o.at_t;have W:=o.lt;have D:v.toNat<↥xs:=∅
 show kJ (g.get _ _ ∅ T) v0 (NK D) (k _ _ ((U _ (OE D)).mono (λl ws hl e=>g.get _ _ ∅ e) (λl ws hl e=>g.get _ _ ∅ e)) s (o.kp.trans g))
abbrev iy (bs:Ny NV):Ny (Ny NV):=if bs=[0,1,2]then[[0,1,2],[0,2,1],[1,0,2],[1,2,0],[2,0,1],[2,1,0]]else if ↥bs=2 then[[0,1],[1,0]]else[[0,1,2],[0,2,1],[2,0,1],[2,1,0]]
abbrev c9 (bs nm:Ny NV):NF->Ny NV
 |0=>OB ↥bs 0
 |k+1=>(c9 bs nm k).set (nm.getD k 0).toNat (nm.getD (bs.getD k 0).toNat 0)
def g9 (bs nm:Ny NV):∀k,(c9 bs nm k).length=↥bs
 |0=>by simp[c9]
 |k+1=>by simp[c9,g9 bs nm k]
def xt:∀bs∈KB,∀nm∈iy bs,nm.length=↥bs/\(∀x∈nm,0<=x/\x<(↥bs))/\(∀x∈bs,0<=x/\x<(↥bs))/\GoodB (c9 bs nm ↥bs):=by
 unfold GoodB;decide +kernel
def BX:∀bs∈KB,(↥bs=2\/↥bs=3)/\0<(iy bs).length/\(iy bs).length<10:=by decide
abbrev lc (nm:Ny NV)(e:gh):gh:=(nm.getD e.1.toNat 0,nm.getD e.2.1.toNat 0,e.2.2.map λw=>nm.getD w.toNat 0)
def Fc:∀x∈KT,∀e∈x.2.1,C7 x.2.1 e.1 e.2.1=ba e.2.2:=by decide
def IH:∀x∈KT,∀nm∈iy x.1,Fb (x.2.1.map (lc nm))=true:=by decide +kernel
def II (h:Fb L=true)(a:L[i]?=ba e):C7 (L.take i) e.1 e.2.1=dx:=by
 have:=N6.mp h i (NU.mpr (NZ.mp a).1);rw[a]at this
 simpa using this
def IJ (h:BS n e=true):(0<=e.1/\e.1<n)/\(0<=e.2.1/\e.2.1<n)/\↥e.2.2<=3/\∀w∈e.2.2,0<=w/\w<n:=by
 unfold BS at h;rw[NM,N6]at h;obtain⟨a,b,c⟩:=OC h.1;show#[a,b,c,λw hw=>OC (h.2 w hw)]
section
variable{K:Fm->aa->Prop}{Q:QO}
def Fd (r:NF)(U:Ny (T×W))(I:NF->Fm->aa->Prop)(l:dI e=true)(ok:io b=true)(j:wE M e Z S λp=>p.1=.ref r/\p.2[r]?=ba (.dic U)/\I 0 Z (p.2.set r (.frd U)))
  (a:∀ i p Z S,U[i]?=ba p->I i Z S->wO (mI tg p.1.w Z S) λq=>Bk M fuel b q.1 q.2 (I (i+1)) Q) (c:∀Z S,I ↥U Z S->K Z S):Wp (gU M fuel (.loop tg (.seq e) b) Z S) (u7 K Q):=by
 obtain⟨w,S1,g,rfl,f,h⟩:=bR l j;show iJ (mi:=.its (U.map λp=>p.1.w)) (S1:=S1.set r (.frd U)) (xs:=U.map λp=>p.1.w) I ok (by simp only[jR,eS,g,qC f,b7 f]) (λ_ _ _ _=>rfl) rfl h (λi w Z S hw d=>?_) λZ S d=>c Z S (by rwa [Nz]at d)
 rw[NO,NB]at hw;obtain⟨p,k,rfl⟩:=hw;show a i p Z S k d
end
def Ll { n:NF}(h:S[i]?=ba (.lst [x]))(a:n<=1000)(q:Q (.ref ↥S,S++[.lst (OB n x)])):wO (gS .mul (.ref i) (.int n) S) Q:=by
 show ab ?_ q;have:=jB a;unfold gS zS;dsimp only
 rw[cH h];dsimp only
 rw[Ob #[∅,∅,by simpa using this]]
 unfold nW;simp[this]
def pc {q:NF}(h:fL S q=ba U)(a:bj U (bm u v)=ba w):p9 (.ref q) (.tup [.int u,.int v]) S=ba (w,S):=by
 have hk:eL (.tup _)=ba (bm u v):=nj;show(match fL S q,eL (.tup [.int u,.int v])with
  |some U,ba k=>(bj U k).map λw=>(w,S)
  |_,_=>dx)=_
 rw[h,hk];dsimp only
 rw[a];rfl
def BY {q:NF}(h:S[q]?=ba (.dic U))(hl:↥U<sizeLine):i5 (.ref q) (.tup [.int u,.int v]) w S=ba (S.set q (.dic (dS U (bm u v) w))):=by
 have hk:eL (.tup _)=ba (bm u v):=nj;have e:l9 S q=ba U:=by unfold l9;rw[h]
 show(match l9 S q,eL (.tup [.int u,.int v])with
  |some U,ba k=>if ↥U<sizeLine then ba (S.set q (.dic (dS U k w)))else dx
  |_,_=>dx)=_
 rw[e,hk];dsimp only
 rw[Ob hl]
def int_at {x:NV}(b:0<=x)(a:x.toNat<↥xs):(am xs)[x.toNat]?=ba (.int (xs.getD x.toNat 0)):=by
 unfold am;rw[NO,ay  a];rfl
def sT {xs:Ny NV}(h:i<↥xs):xs.getD i 0∈xs:=N1 (ay  h)
def om (G:Gen defs){Q:QO}{ p:NJ W}(t:bs∈KB)
  (hk:∀ m s S',Ka S S'->S'[s]?=ba (.lst ((iy bs).map λnm=>W.tup (am nm)))->↥S<=s->wZ (aq defs fuel (d+1)) fuel (dr 5 bM) [o,ba (.tup (am bs)),p,ba (.int ↥bs),ba (.ref m),ba (.ref s),dx,dx,dx,dx,dx,dx] S' Q) :
  wZ (aq defs fuel (d+1)) fuel bM [o,ba (.tup (am bs)),p,dx,dx,dx,dx,dx,dx,dx,dx,dx] S Q:=by
 generalize e:dr 5 bM=cf at hk;unfold bM at e ⊢;dsimp only[dr]at e;rw[e];nofun
 left;show az ?_;show hK _ _ ?_;nofun
 left;have f:(((S++[O.lst [.tup [.int 0]]])++[O.lst [.tup [.int 0,.int 1],.tup [.int 1,.int 0]]])++[O.lst [.ref ↥S,.ref (S++[O.lst [.tup [.int 0]]]).length]])[((S++[O.lst [.tup [.int 0]]])++[O.lst [.tup [.int 0,.int 1],.tup [.int 1,.int 0]]]).length]?=ba (.lst [.ref ↥S,.ref (S++[O.lst [.tup [.int 0]]]).length]):=af;show hK _ _ ?_;generalize g:S++[O.lst [.tup [.int 0]]]=S1 at f ⊢;generalize b:S1++[O.lst [.tup [.int 0,.int 1],.tup [.int 1,.int 0]]]=S2 at f ⊢;generalize c:S2++[O.lst [.ref ↥S,.ref ↥S1]]=S3 at f ⊢;have x:↥S1=↥S+1:=by rw[<- g];simp
 have y:↥S2=↥S1+1:=by rw[<- b];simp
 have z:↥S3=↥S2+1:=by rw[<- c];simp
 have k:Ka S S2:=by rw[<- b,<- g];show Ka.push.trans .push
 nofun
 left;show#[cN f,kK (aB f) (by decide:2<1000) (hK _ _ ?_)]
 generalize a:(S3++[O.lst [.tup [.int 0,.int 1,.int 2],.tup [.int 0,.int 2,.int 1],.tup [.int 2,.int 0,.int 1],.tup [.int 2,.int 1,.int 0]]]).set ↥S2 (.lst ([.ref ↥S,.ref ↥S1]++[.ref ↥S3]))=S5;have h:Ka S S5:=by
  rw[<- a,<- c];show Ka.late (k.trans (Ka.push.trans .push)) ∅
 have i:S5[↥S2]?=ba (.lst [.ref ↥S,.ref ↥S1,.ref ↥S3]):=by
  rw[<- a];show bg (aB f)
 have n:S5[↥S1]?=ba (.lst [.tup [.int 0,.int 1],.tup [.int 1,.int 0]]):=by
  rw[<- a,be ∅,<- c,<- b]
  show aB (aB af)
 have v:S5[↥S3]?=ba (.lst [.tup [.int 0,.int 1,.int 2],.tup [.int 0,.int 2,.int 1],.tup [.int 2,.int 0,.int 1],.tup [.int 2,.int 1,.int 0]]):=by
  rw[<- a,be ∅]
  show af
 have l:↥S<=↥S1:=∅
 have r:↥S<=↥S3:=∅
 nofun
 delta wS wE wV wG NG kF bv;have j:bs=[1,0]\/bs=[0,2,1]\/bs=[0,1]\/bs=[0,1,2]:=by simpa [KB]using t
 rcases j with rfl|rfl|rfl|rfl
 ·show eC  i rfl (hK _ _ (aK λK hK=>dg (λQ q=>q) (hK _ _ (hk _ _ _ h n l))))
 ·show eC  i rfl (hK _ _ (aK λK hK=>dg (λQ q=>q) (hK _ _ (hk _ _ _ h v r))))
 ·show eC  i rfl (hK _ _ (aK λK hK=>dg (λQ q=>q) (hK _ _ (hk _ _ _ h n l))))
 ·show eC  i rfl (hK _ _ (aK λK hK=>mT (λQ q=>q) λw u _=>?_))
  show st ?_;show lF  G (aW (u _ _ (hK _ _ (hk _ _ _ (h.trans .push) af h.len))))
def vf (G:Gen defs){q:NF}(I:(bs,L,most)∈KT)(hf:Fl S r)(hr:r<↥y)(kp:Kp r y S)(hq:S[q]?=ba (.dic U))(hq0:↥y<=q)(hm:MustL S ↥y U L)
  (k:∀ nm q' U' o,nm∈iy bs->o[q']?=ba (.dic U')->↥y<=q'->MustL o ↥y U' (L.map (lc nm))->Fl o r->Kp r y o->Q (.tup [.tup (am (c9 bs nm ↥bs)),.ref q'],o)) :
  wO (aJ (aq defs fuel (d+2)) "_law_numbered" 3 [.ref r,.tup (am bs),.ref q] S) Q:=by
 show au G.numbered rfl rfl λQ' hR=>?_
 replace k:=λa b c e f g h i j l=>hR _ _ (k a b c e f g h i j l)
 obtain⟨hb,_,_,_,h4,hok,_⟩:=BV _ I;show om  G hb ?_;intro m s S1 k1 e1 hs;have hrt:=hf.lt;obtain⟨hb1,hb2,hb3⟩:=BX bs hb;nofun
 left;show kL e1 ?_;rw[Nz];show aY  G.pick (hf.ka k1) ∅ ∅ λv S2 v0 v1 f2 k2=>?_
 obtain⟨nm,A,enm⟩:=mW  (xs:=iy bs) (i:=v.toNat) ∅
 obtain⟨n1,n2,n3,n4⟩:=xt bs hb nm A;show kJ (k2.get _ _ ∅ e1) v0 enm (hK _ _ ?_)
 nofun
 left;show Ll af ∅ (hK _ _ ?_)
 generalize hS4:S2++[O.lst [.int 0]]=S4;have D:Ka S2 S4:=hS4▸.push;have f4:=f2.ka D;have kp4:=(kp.trans (k1.kp r)).trans (k2.trans (D.kp r));have q4:=D.get _ _ (k2.get _ _ ∅ (k1.get _ _ hq))
 have m4:=((hm.ka k1).kp hr k2).ka D;have hm0:=hm;nofun
 show b8 ↥bs (λk Z o=>(∃x8,Z=[ba (.ref r),ba (.tup (am bs)),ba (.ref q),ba (.int ↥bs),ba (.ref m),ba (.ref s),ba (.tup (am nm)),ba (.ref ↥S4),x8,dx,dx,dx])/\o[↥S4]?=ba (.lst (am (c9 bs nm k)))/\Ka S4 o) rfl rfl ∅ #[rfl,#[_,rfl],?_,.push] ?_ ?_
 ·rw[af];simp[c9,am]
 ·rintro i Z S5 hi ⟨⟨x8,rfl⟩,e5,P⟩ Q2 hn _;have hi':i<↥bs:=∅
  have hi1:i<nm.length:=∅
  have c:=n3 _ (sT hi');have c2:=n2 _ (sT hi1);show st ?_;left;show ag (NX i) (int_at (NX i) hi') (ag c.1 (int_at c.1 (by rw[Od];omega)) (ag (NX i) (int_at (NX i) hi1) ?_))
  rw[Od];show ab (Gn e5 c2.1 (by rw[show(am (c9 bs nm i)).length=_ from Nz ..,g9];omega)) (aW (hn _ _ #[#[_,rfl],?_,P.late (NP _)]))
  rw[bg e5];unfold am;rw[c9,List.map_set]
 ·rintro Z S5 ⟨⟨x8,rfl⟩,e5,P⟩;show hK _ _ (st ?_);clear hK K;left;have f5:=f4.ka P;have q5:=P.get _ _ q4;have m5:=m4.ka P;have hkl:=hm0.len;have R:=kp4.trans (P.kp r);have hq5:=bQ q5;have ht5:=bQ e5;have hqt:q≠↥S4:=by rintro rfl;rw[e5]at q5;cases q5
  have hn9:↥bs<=3:=∅
  have hr5:=f5.lt;clear P m4 q4 f4;nofun
  show Fd q U (λk Z o=>(∃X Y,Z=[ba (.ref r),ba (.tup (am bs)),ba (.ref q),ba (.int ↥bs),ba (.ref m),ba (.ref s),ba (.tup (am nm)),ba (.ref ↥S4),x8,ba (.ref ↥S5),X,Y])/\o[q]?=ba (.frd U)/\MustL o ↥y U L/\o[↥S4]?=ba (.lst (am (c9 bs nm ↥bs)))/\(∃U',o[↥S5]?=ba (.dic U')/\MustL o ↥y U' ((L.take k).map (lc nm)))/\Fl o r/\Kp r y o) rfl rfl #[rfl,aB q5,#[dx,dx,rfl],bg (aB q5),(m5.ka .push).set (aB q5),?_,#[[],?_,.nil],(f5.ka .push).own ∅,(R.trans .push).late hq0] ?_ ?_
  ·rw[be hqt];show aB e5
  ·rw[be ∅];show af
  ·rintro i p Z S6 hp ⟨⟨X,Y,rfl⟩,q6,m6,t6,⟨U',o6,t⟩,f6,E⟩;clear hK k;have hil:=(NZ.mp hp).1;obtain⟨en,l,H,rfl⟩:=m6.at hp;have hem:=N1 H;have B:=Fc _ I en hem;have M:=II (IH _ I nm A)   (by rw[NO];dsimp only;rw[H];rfl)
   dsimp only at B M;obtain⟨hu,C,J,N⟩:=IJ (N6.mp hok en hem);dsimp only at hu C J N;obtain⟨u,v',n⟩:=en;dsimp only at B hu C J N ⊢;obtain⟨V,hg,hl2,hws2⟩:∃V,bj U (bm u v')=ba (.ref V)/\↥y<=V/\S6[V]?=ba (.lst (am n)):=by
    rcases m6.look u v' with⟨_,e⟩|⟨V,ws,g1,g2,g3,e⟩
    ·rw[B]at e;cases e
    ·rw[B]at e;cases e;show#[V,g1,g2,g3]
   have hl32:=J;have hw32:=N;have hul:u.toNat<nm.length:=∅
   have hvl:v'.toNat<nm.length:=∅
   show ab rfl λQ2 hn _=>?_
   show st ?_;left;show xj V (am n) (λi zs Z2 S7=>(∃a1,Z2=[dx,a1,ba (.tup (am nm))])/\zs=am ((n.take i).map λw=>nm.getD w.toNat 0)/\S7=S6) rfl rfl rfl ?_ ?_ ?_ ?_
   ·left;show ab (pc (ER q6) hg) #[rfl,#[_,rfl],rfl,rfl]
   ·rintro i zs Z2 S7 ⟨_,_,rfl⟩;show hws2
   ·rintro i w zs Z2 S7 hw ⟨⟨a1,rfl⟩,rfl,rfl⟩;unfold am at hw;rw[NO,NB]at hw;obtain⟨x,hx,rfl⟩:=hw;obtain⟨x0,x1⟩:=hw32 x (N1 hx);have hxl:x.toNat<nm.length:=∅
    show ab rfl ?_;delta eB;show#[λ_=>ag x0 (int_at x0 hxl) #[#[_,rfl],?_,rfl],λz=>by cases z]
    rw[Ol,hx];simp[am]
   ·rintro zs Z2 S7 ⟨_,rfl,rfl⟩;rw[show(am n).length=↥n from Nz ..,Ou]
    show#[jB (by simp[am];omega),ag hu.1 (int_at hu.1 hul) (ag C.1 (int_at C.1 hvl) ?_)]
    show ab (BY (aB o6) (by have:=t.len;rw[Nz,Om]at this;have:=Tl i ↥L;dsimp only at h4;rw[O4];omega)) (aW (hn _ _ #[#[_,_,rfl],?_,(m6.ka .push).set (aB o6),?_,#[_,bg (aB o6),?_],(f6.ka .push).own ∅,(E.trans .push).late R.len]))
    ·rw[be ∅];show aB q6
    ·rw[be ∅];show aB t6
    ·rw[Ol,H,N3];rw[<- Rh]at M;show(?_:MustL _ _ (dS U' (bm (lc nm (u,v',n)).1 (lc nm (u,v',n)).2.1) (.ref ↥S7)) _);rw[t.fresh M];show((t.ka .push).snoc (e:=lc nm (u,v',n)) E.len af).set (aB o6)
  ·rintro Z S6 ⟨⟨X,Y,rfl⟩,q6,m6,t6,⟨U',o6,t⟩,f6,E⟩;show hK _ _ (st ?_);left;rw[hkl,Ou]at t;show c8 t6 (k nm _ U' _ A o6 R.len t f6 E)
abbrev C8 (x y z:NV):Ny (T×W):=[(bm 1 0,.int x),(bm 2 0,.int y),(bm 2 1,.int z)]
abbrev Lm (x y z a b c:NV):NF->Ny (T×W)
 |0=>C8 x y z
 |1=>C8 x y z++[(bm 0 1,.int a)]
 |2=>C8 x y z++[(bm 0 1,.int a),(bm 0 2,.int b)]
 |_=>C8 x y z++[(bm 0 1,.int a),(bm 0 2,.int b),(bm 1 2,.int c)]
abbrev C9 (x y z a b c:NV):NF->NF->NV
 |0,1=>a
 |0,2=>b
 |1,0=>x
 |1,2=>c
 |2,0=>y
 |2,1=>z
 |_,_=>0
def IK {  z a  :NV}:∀i j:NF,i<3->j<3->i≠j->bj (Lm x y z a b c 3) (bm i j)=ba (.int (C9 x y z a b c i j)):=by
 intro i j hi e d
 match i,j,hi,e,d with
 |0,0,_,_,h=>show absurd rfl h
 |0,1,_,_,_=>rfl
 |0,2,_,_,_=>rfl
 |1,0,_,_,_=>rfl
 |1,1,_,_,h=>show absurd rfl h
 |1,2,_,_,_=>rfl
 |2,0,_,_,_=>rfl
 |2,1,_,_,_=>rfl
 |2,2,_,_,h=>show absurd rfl h
abbrev IL (p:NV):NJ (Ny NV)->Oh
 |none=>false
 |some ws=>!(ws.any λw=>iU (.int w) (.int p))
abbrev IM (L:Ny gh)(f:NF->NF->NV)(t:Ny NF):Oh:=IL (f (t.getD 0 0) (t.getD 2 0)) (C7 L (f (t.getD 0 0) (t.getD 1 0)) (f (t.getD 1 0) (t.getD 2 0)))
abbrev yO (bs:Ny NV)(L:Ny gh)(x y z:NV):Oh:=aw.any (IM L (C9 x y z (bs.getD x.toNat 0) (bs.getD y.toNat 0) (bs.getD z.toNat 0)))
def sU:∀t∈aw,↥t=3/\t.getD 0 0<3/\t.getD 1 0<3/\t.getD 2 0<3/\t.getD 0 0≠t.getD 1 0/\t.getD 1 0≠t.getD 2 0/\t.getD 0 0≠t.getD 2 0:=by decide
def BZ (h:t∈aw):∃i j k:NF,t=[i,j,k]/\i<3/\j<3/\k<3/\i≠j/\j≠k/\i≠k:=by
 obtain⟨b,a⟩:=sU t h
 match t,b,a with
 |[i,j,k],_,a=>show#[i,j,k,rfl,a]
def B0 (h:S[l]?=ba (.lst (am ws))):bK .notin (.int f) (.ref l) S=ba (.bl (!(ws.any λw=>iU (.int w) (.int f))),S):=by
 have c:(aR (.int f)&&(am ws).all aR)=true:=by
  show(true&&(am ws).all aR)=true;rw[QN,N6];intro x d;obtain⟨z,_,rfl⟩:=NS.mp d;rfl
 have b:((am ws).any λz=>iU z (.int f))=ws.any λw=>iU (.int w) (.int f):=by unfold am;rw[Xb];rfl
 have a:pU (.int f) (.ref l) S=ba (ws.any λw=>iU (.int w) (.int f)):=by
  unfold pU;rw[show cQ S (.ref l)=ba _ from aG h];dsimp only
  rw[Ob c,b]
 show(match fL S l with
  |some U=>(eL (.int f)).map λk=>(W.bl (!(bj U k).isSome),S)
  |none=>dF .notin (.int f) (.ref l) S)=_
 rw[gX h];change Rr _ (Rr _ (pU (.int f) (.ref l) S))=_;rw[a];rfl
def IN {q:NF}(h:S[q]?=ba (.dic U)):tyOk "dict" S (.ref q)=true:=by
 show("dict" == "list" && (ec S q).isSome ||"dict" == "dict" && (fL S q).isSome)=true
 rw[b7 h];show Bool.or_true _
def Fe {q:NF}(h:S[q]?=ba (.dic U))(k:Q (.ref ↥S,S++[.lst (U.map λp=>p.1.w)])):wO (Bi.list.fn [.ref q] S) Q:=by
 show ab ?_ k;have a:re S q=dx:=by unfold re;rw[h]
 have b:fq [.ref q] S=dx:=by
  unfold fq;dsimp only
  rw[a];dsimp only
  unfold fU;dsimp only
  rw[show cQ S (.ref q)=dx from qC h]
 have c:i7 [.ref q] S=ba (.ref ↥S,S++[.lst (U.map λp=>p.1.w)]):=by
  unfold i7;dsimp only
  rw[b7 h]
 unfold Bi.fn n6;dsimp only
 rw[b];dsimp only;rw[c]
def B1 (G:Gen defs){q :NF}{x y z:NV}(hb:GoodB bs)(hx:0<=x/\x<↥bs)(hy:0<=y/\y<↥bs)(hz:0<=z/\z<↥bs)(hq:S[q]?=ba (.dic U))(hm:MustL S b0 U L)
  (k:∀j,Ka S j->Q (.bl (yO bs L x y z),j)):wO (aJ (aq defs fuel (d+2)) "_law_breaks" 5 [.tup (am bs),.ref q,.int x,.int y,.int z] S) Q:=by
 show au G.breaks rfl rfl λQ' hR=>?_
 replace k:=λa b=>hR _ _ (k a b)
 clear hR;change wZ _ _ dW [ba (.tup (am bs)),ba (.ref q),ba (.int x),ba (.int y),ba (.int z),dx,dx,dx,dx,dx] S Q';unfold yO at k;have P:bs[x.toNat]?=ba (bs.getD x.toNat 0):=ay ∅
 have R:bs[y.toNat]?=ba (bs.getD y.toNat 0):=ay ∅
 have V:bs[z.toNat]?=ba (bs.getD z.toNat 0):=ay ∅
 generalize bs.getD x.toNat 0=a at P k;generalize bs.getD y.toNat 0=b at R k;generalize bs.getD z.toNat 0=c at V k;have hqt:=bQ hq;unfold dW;nofun
 left;show#[af,ab (show eu [] [.tup [.int 1,.int 0],.int x,.tup [.int 2,.int 0],.int y,.tup [.int 2,.int 1],.int z]=ba (C8 x y z)from rfl) (hK _ _ ?_)]
 clear hK K;have e1:((S++[O.dic []]).set ↥S (.dic (C8 x y z)))[↥S]?=ba (.dic (C8 x y z)):=bg af;have k1:Ka S ((S++[O.dic []]).set ↥S (.dic (C8 x y z))):=Ka.push.late (NP _);have l1:((S++[O.dic []]).set ↥S (.dic (C8 x y z))).length=↥S+1:=by simp
 generalize(S++[O.dic []]).set ↥S (.dic (C8 x y z))=S1 at e1 k1 l1 ⊢;nofun
 show dM rfl rfl ?_;left;show Fe e1 #[↥S1,[eG 1 0,eG 2 0,eG 2 1],(λk Z j=>(∃s,Z=[ba (.tup (am bs)),ba (.ref q),ba (.int x),ba (.int y),ba (.int z),ba (.ref ↥S),s,dx,dx,dx])/\j[↥S]?=ba (.dic (Lm x y z a b c k))/\j[↥S1]?=ba (.lst [eG 1 0,eG 2 0,eG 2 1])/\Ka S j),rfl,#[#[_,rfl],aB e1,af,k1.trans .push],λi Z j h=>h.2.2.1,?_,?_]
 ·have step:∀u v f g kv H j i,bj kv (bm u v)=ba (.int f)->0<=f->bs[f.toNat]?=ba g->↥kv<10->dS kv (bm v u) (.int g)=H->Lm x y z a b c (i+1)=H->∀s:NJ W,j[↥S]?=ba (.dic kv)->j[↥S1]?=ba (.lst [eG 1 0,eG 2 0,eG 2 1])->Ka S j->
    wO (mI (.nm 6) (eG u v) [ba (.tup (am bs)),ba (.ref q),ba (.int x),ba (.int y),ba (.int z),ba (.ref ↥S),s,dx,dx,dx] j) λp=>Bk (aq defs fuel (d+1)) fuel #v[.put (.v 5) (.tup #v[.ix (.v 6) (.k 1),.ix (.v 6) (.k 0)]) (.ix (.v 0) (.ix (.v 5) (.v 6)))] p.1 p.2 (λZ j=>(∃s,Z=[ba (.tup (am bs)),ba (.ref q),ba (.int x),ba (.int y),ba (.int z),ba (.ref ↥S),s,dx,dx,dx])/\j[↥S]?=ba (.dic (Lm x y z a b c (i+1)))/\j[↥S1]?=ba (.lst [eG 1 0,eG 2 0,eG 2 1])/\Ka S j) Q':=by
   clear hK k;intro u v f g kv H j i A h2 M h4 h5 h6 s e e' k;show ab rfl λQ2 hn _=>?_
   show st ?_;left;show ab (pc (b7 e) A) (ag h2  (by unfold am;rw[NO,M];rfl) (ag #v[] rfl (ag #v[] rfl ?_)))
   show ab (BY e (by rw[O4];omega)) (aW (hn _ _ #[#[_,rfl],?_,?_,k.late (NP _)]))
   ·rw[bg e,h5,h6]
   ·rw[be ∅];show e'
  rintro i w Z I hw ⟨⟨s,rfl⟩,r,l2,k2⟩
  match i,hw,r with
  |0,hw,r=>cases hw;show step 1 0 x a _ _ I 0 (by rfl) hx.1 P (by change 3<10;decide) (by rfl) (by rfl) s r l2 k2
  |1,hw,r=>cases hw;show step 2 0 y b _ _ I 1 (by rfl) hy.1 R (by change 4<10;decide) (by rfl) (by rfl) s r l2 k2
  |2,hw,r=>cases hw;show step 2 1 z c _ _ I 2 (by rfl) hz.1 V (by change 5<10;decide) (by rfl) (by rfl) s r l2 k2
  |n+3,hw,_=>simp at hw
 ·rintro Z I ⟨⟨s,rfl⟩,r,l2,k2⟩;have hv:=IK (x:=x) (y:=y) (z:=z) (a:=a) (b:=b) (c:=c);generalize hB:IM L (C9 x y z a b c)=B at k;have r:=r;show hK _ _ ?_;clear hK K;have hlt2:=bQ r;nofun
  show dM rfl rfl ?_;left;show lF  G #[↥I,aw.map (λt=>W.tup (ac t)),(λk Z j=>(∃x7 x8 x9,Z=[ba (.tup (am bs)),ba (.ref q),ba (.int x),ba (.int y),ba (.int z),ba (.ref ↥S),s,x7,x8,x9])/\j[↥S]?=ba (.dic (Lm x y z a b c 3))/\j[↥I]?=ba (.lst (aw.map (λt=>W.tup (ac t))))/\Ka S j/\(aw.take k).any B=false),rfl,#[#[_,_,_,rfl],aB r,af,k2.trans .push,rfl],λi Z j h=>h.2.2.1,?_,?_]
  ·rintro i w Z E hw ⟨⟨x7,x8,x9,rfl⟩,J,l3,N,M⟩;clear hK;rw[NO,NB]at hw;obtain⟨t,ht,rfl⟩:=hw;have htm:=N1 ht;have m:B t=IM L (C9 x y z a b c) t:=by rw[hB]
   obtain⟨C,D,A,rfl,hi1,hj1,Y,n1,n2,n3⟩:=BZ (N1 ht);have g1:=hv C D hi1 hj1 n1;have g2:=hv D A hj1 Y n2;have g3:=hv C A hi1 Y n3;replace m:B [C,D,A]=IL (C9 x y z a b c C A) (C7 L (C9 x y z a b c C D) (C9 x y z a b c D A)):=m;generalize C9 x y z a b c C D=p1 at g1 m;generalize C9 x y z a b c D A=p2 at g2 m;generalize C9 x y z a b c C A=p3 at g3 m;have q3:=N.get _ _ hq;show ab rfl λQ2 hn hr=>?_
   nofun
   delta wS wT wE wA;show ab (pc (b7 J) g3) #[IN q3,ab (pc (b7 J) g1) (ab (pc (b7 J) g2) (ab (pc (b7 J) g3) ?_))];have X:Me.get.fn (.ref q) [.tup [.int p1,.int p2],.ref ↥E] (E++[O.lst [.int p3]])=ba ((bj U (bm p1 p2)).getD (.ref ↥E),E++[O.lst [.int p3]]):=by
    have hk:eL (.tup [.int p1,.int p2])=ba (bm p1 p2):=nj
    (delta Me.fn wa;simp only[b7 (aB q3),hk])
   show ab X ?_;have hres:∃l ws,(bj U (bm p1 p2)).getD (.ref ↥E)=.ref l/\(E++[O.lst [.int p3]])[l]?=ba (.lst (am ws))/\(!(ws.any λw=>iU (.int w) (.int p3)))=B [C,D,A]:=by
    rcases(hm.ka N).look p1 p2 with⟨hg,hl⟩|⟨l,ws,hg,_,hl,he⟩
    ·show#[↥E,[p3],by rw[hg];rfl,af,?_]
     rw[m,hl]
     (unfold iU;delta IL;simp)
    ·show#[l,ws,by rw[hg];rfl,aB hl,?_]
     rw[m,he];rfl
   obtain⟨l,ws,hl1,hl2,hl3⟩:=hres;dsimp only;rw[hl1];show ab (B0  hl2) ?_;delta wB;rw[hl3];show ah (Q0:=Q2) (λhb Q3 _ hr3=>st (hr3 _ _ (hr _ _ ?_))) λhb Q3 hn3 _=>aW (hn3 _ _ (hK _ _ (aW (hn _ _ #[#[_,_,_,rfl],aB J,aB l3,N.trans .push,?_]))))
   ·have:=k _ (N.trans (Ka.push (o:=O.lst [.int p3])))
    rwa [Qe.mpr #[_,htm,hb]]at this
   ·rw[Ol,ht,List.any_append,M,Sh];show(B [C,D,A]||false)=false
    rw[hb];rfl
  ·rintro Z E ⟨⟨x7,x8,x9,rfl⟩,J,l3,N,M⟩;rw[Nz,Ou]at M;have:=k _ N;rw[M]at this;show hK _ _ (st this)
def Gw {a n:NF}{m0 b c x y z:NV}(d:0<=m0/\m0<a)(f:0<=b/\b<a)(g:0<=c/\c<a)(i:0<=x/\x<n)(j:0<=y/\y<n)(l:0<=z/\z<n):GoodW a n [(m0,[]),(b,[x]),(c,[y,z])]:=by
 show#[λk p h=>?_,λk p h=>?_,λk p h=>?_]<;>match k,h with
 |0,h=>cases h;first|show d|rfl|(intro w hw;cases hw)
 |1,h=>cases h;first|show f|rfl|(intro w hw;rw[NT.mp hw];show i)
 |2,h=>cases h;first|show g|rfl|(intro w hw;rcases Of.mp hw with e|hw<;>first|show e▸j|(rw[NT.mp hw];show l))
 |n+3,h=>simp at h
def IP { n:NF}(b:∀Q:W->Prop,Q (.int n)->wV Z i Q)(d:n<=3)(k:∀j:NV,0<=j->j<=27->j=n*n*n->Q (.int j,S)):wE M (.op .mul (.op .mul (.v i) (.v i)) (.v i)) Z S Q:=by
 have c : -(2^64)<(n:NV):=∅
 have b2:(n:NV)<2^64:=∅
 have hc:(n:NV)*n*n<=27/\0<=(n:NV)*n*n:=by rcases(show n=0\/n=1\/n=2\/n=3 by omega)with h|h|h|h<;>rw[h]<;>decide
 left;have a:∀m ,gS _ _ _ S=ba (.int (m*n),S):=λm=>xi c b2
 generalize gS _=B at a ⊢;show b _ ?_;show b _ ?_;show ab (a _) ?_;show b _ ?_;show ab (a _) ?_;have:=k _ hc.2 hc.1 rfl;show this
def B2 {K:Fm->aa->Prop}{Q:QO}{  n:NF}(f:∀Q:W->Prop,Q (.int n)->wV Z i Q)(d:n<=3)(ok:io b=true)
  (h:∀j:NV,0<=j->j<=27->j=n*n*n->∃I:NF->Fm->aa->Prop,I 0 Z S/\(∀(i:NF) Z S,i<j->I i Z S->Bk M fuel b (Z.set c (ba (.int i))) S (I (i+1)) Q)/\∀Z S,I j.toNat Z S->K Z S) :
  Wp (gU M fuel (.loop (.nm c) (.rng #v[.op .mul (.op .mul (.v i) (.v i)) (.v i)]) b) Z S) (u7 K Q):=
 have hw:=IP    f d λj g a e=>let ⟨I,h0,h1,h2⟩:=h j g a e;#[j,I,rfl,∅,h0,h1,h2]
 sN rfl ok hw
abbrev w3 (t:NV×NV×NV)(x y z:NV):Wd:=[(t.1,[]),(t.2.1,[x]),(t.2.2,[y,z])]
abbrev JE (a:NF)(bs:Ny NV)(L:Ny gh)(x y z:NV)(g:Wd):Prop:=yO bs L x y z=true/\∃t,Ris a t/\g=dJ bs (w3 t x y z)
abbrev B3 (a:NF)(bs:Ny NV)(c:Ny Wd):Prop:=∃b L most nm,(b,L,most)∈KT/\nm∈iy b/\bs=c9 b nm ↥b/\(a:NV)<=most/\∀g,g∈c↔∃x y z:NV,(0<=x/\x<↥bs)/\(0<=y/\y<↥bs)/\(0<=z/\z<↥bs)/\JE a bs (L.map (lc nm)) x y z g
abbrev IQ (a:NF)(bs:Ny NV)(b:Ny Wd):Prop:=IG a bs b\/BI a bs b\/B3 a bs b
def xu {   w:NF}(a:x<n)(hw:w<m):x+n*w<n*m:=N5 (Nat.add_lt_add_right a _) (by rw[Vw,<- Nat.mul_succ];show Nat.mul_le_mul_left _ hw)
def B4 {n:NF}{P:NV->NV->NV->Prop}(m:n=2\/n=3)(i:j=(n:NV)*n*n):(∃k:NF,k<j.toNat/\P (k % n) (k/n % n) (k/n/n))↔∃x y z:NV,(0<=x/\x<n)/\(0<=y/\y<n)/\(0<=z/\z<n)/\P x y z:=by
 have c:(0:NV)<n:=by rcases m with rfl|rfl<;>decide
 have g:=Int.ne_of_gt c;have f:∀(x:NF) (y:NV),x<n->((x:NV)+n*y) % n=x/\((x:NV)+n*y)/n=y:=λx y b=>by
  have a:=NX x;have b:=QH.mpr b;rw[Int.add_mul_emod_self_left,Int.add_mul_ediv_left _ _ g,VD a b,T0 a b,Rv];show#[rfl,rfl]
 have l:∀x:NV,0<=x % n/\x % n<n:=λx=>#[QD _ g,Qd _ c]
 constructor
 ·rintro⟨k,hk,h⟩;show#[_,_,_,l _,l _,#[Sk (Sk (NX _) (Xc c)) (Xc c),Ur c (Ur c (i▸Xd.mp hk))],h]
 ·rintro⟨x,y,z,⟨o,d⟩,⟨p,e⟩,⟨q,r⟩,h⟩;obtain⟨x,rfl⟩:=Qn o;obtain⟨y,rfl⟩:=Qn p;obtain⟨z,rfl⟩:=Qn q;replace d:=QH.mp d;replace e:=QH.mp e;show#[x+n*(y+n*z),Xd.mpr ?_,?_]
  ·rw[i,Int.mul_assoc];show QH.mpr (xu d (xu e (QH.mp r)))
  ·rw[Wi,Ub,Wi,Ub,(f x _ d).1,(f x _ d).2,(f y _ e).1,(f y _ e).2];show h
def B5 (hfu:20<fuel)(G:Gen defs)(hf:Fl S r)(k:∀w l,RuleG IQ w->Fl l r->Kp r S l->Q (w,l)):wO (aJ (aq defs fuel (d+7)) "_law_laying_rule" 1 [.ref r] S) Q:=by
 show au G.laying_rule rfl rfl λQ' hR=>?_
 replace k:∀w l,RuleG IQ w->Fl l r->Kp r S l->Q' (.rt w,l):=λz l a b c=>hR _ _ (k z l a b c)
 clear hR;change wZ _ _ b9 [ba (.ref r),dx,dx,dx,dx,dx,dx,dx,dx,dx,dx,dx,dx,dx,dx] S Q';unfold b9;nofun
 left;show aY  G.pick hf #v[] #v[] λv S1 v0 v7 f1 k1=>hK _ _ ?_
 clear hK K;nofun
 delta wS wT wE wV wG im bv wB;show ah (Q0:=Q') (λ_ Q2 _ hr=>?_) (λ_ Q2 hn _=>aW (hn _ _ (hK _ _ ?_)))
 ·show st ?_;left;show sQ  hfu G f1 λw S2 a b c=>hr _ _ (k w S2 (a.imp λ_ _ _ h=>.inr (.inl h)) b (k1.trans c))
 clear hK K hn;nofun
 delta wS wT wE wV wG im bv wB;show ah (Q0:=Q') (λ_ Q2 _ hr=>?_) (λ_ Q2 hn _=>aW (hn _ _ (hK _ _ ?_)))
 ·show st ?_;left;show yM  hfu G f1 λw S2 a b c=>hr _ _ (k w S2 (a.imp λ_ _ _ h=>.inl h) b (k1.trans c))
 clear hK K hn;have hr1:=f1.lt;nofun
 left;show oh  G f1 λw2 S2 hw2 f2 k2=>?_
 obtain⟨f,q0,U0,L0,most,rfl,hkt,hq0,hq0l,hm0⟩:=hw2;obtain⟨A,m1,m3,m6,_⟩:=BV _ hkt;dsimp only at A m1 m3 m6;delta wU;show ab (show fN [2,3,4] [.tup (am f),.ref q0,.int most] [ba (.ref r),ba (.int v),dx,dx,dx,dx,dx,dx,dx,dx,dx,dx,dx,dx,dx]=ba [ba (.ref r),ba (.int v),ba (.tup (am f)),ba (.ref q0),ba (.int most),dx,dx,dx,dx,dx,dx,dx,dx,dx,dx]from rfl) (hK _ _ ?_)
 clear hK K;nofun
 left;show aY  G.pick f2 ∅ ∅ λv3 S3 v30 v3m f3 k3=>?_
 delta fY bv;obtain⟨a,ea⟩:∃a:NF,1+v3=a:=#[(1+v3).toNat,∅]
 rw[ea];show hK _ _ ?_;clear hK K;nofun
 left;show vf  G  hkt f3 hr1 (k2.trans k3) (k3.get _ _ ∅ hq0) hq0l (hm0.kp hr1 k3) λnm q U S4 hnmm hq hql hm f4 k4=>?_
 have hb:=(xt f A nm hnmm).2.2.2;have V:=g9 f nm ↥f;have T:∀gs,(∀g,g∈gs↔∃x y z:NV,(0<=x/\x<(c9 f nm ↥f).length)/\(0<=y/\y<(c9 f nm ↥f).length)/\(0<=z/\z<(c9 f nm ↥f).length)/\JE a (c9 f nm ↥f) (L0.map (lc nm)) x y z g)->B3 a (c9 f nm ↥f) gs:=λgs h=>#[f,L0,most,nm,hkt,hnmm,rfl,∅,h]
 generalize c9 f nm ↥f=bs at hb V T ⊢;generalize L0.map (lc nm)=L at hm T;delta wU;show ab (show fN [2,3] [.tup (am bs),.ref q] [ba (.ref r),ba (.int v),ba (.tup (am f)),ba (.ref q0),ba (.int most),ba (.int a),dx,dx,dx,dx,dx,dx,dx,dx,dx]=ba [ba (.ref r),ba (.int v),ba (.tup (am bs)),ba (.ref q),ba (.int most),ba (.int a),dx,dx,dx,dx,dx,dx,dx,dx,dx]from rfl) (hK _ _ ?_)
 clear hK K;rw[<- V]at m6;have hn:↥bs=2\/↥bs=3:=by rw[V];show(BX f A).1
 have hsz:SizeOk a bs:=#[∅,hb,by
  have h1:(a:NV)*↥bs<=most*↥bs:=Int.mul_le_mul_of_nonneg_right ∅ ∅
  exact_mod_cast Int.le_trans h1 m6,∅]
 clear m6 hm0 hq0 hq0l V A k2 k3 f2 f3;nofun
 left;show nb  hfu G f4 ∅ ∅ λms ns E hml hnl hnm f5 k5=>hK _ _ ?_
 clear hK K;have kk:Kp r S E:=k1.trans (k4.trans k5);have hrt:=f5.lt;have hq5:E[q]?=ba (.dic U):=k5.get _ _ ∅ hq
 have hm5:MustL E ↥S1 U L:=hm.kp hr1 k5;have hqn:q<↥E:=bQ hq5;clear k1 k4 k5 f4 hm hq hql f1;show st ?_;left;nofun
 left;show az ?_;rw[show(am bs).length=↥bs from Nz ..]
 show hK _ _ ?_;clear hK K;nofun
 show B2  (λQ q=>q) ∅ rfl λj j0 j27 hj=>?_
 show#[(λi Z l=>(∃x9 x10 x11 x12 n m,Z=[ba (.ref r),ba (.int v),ba (.tup (am bs)),ba (.ref q),ba (.int most),ba (.int a),ba (eE ms ns bs []),ba (.ref ↥E),ba (.int ↥bs),x9,x10,x11,x12,n,m])/\(∃U O,l[↥E]?=ba (.dic U)/\FigD (aZ a bs) U O/\∀g,g∈O↔∃k:NF,k<i/\JE a bs L ((k:NV) % ↥bs) ((k:NV) / ↥bs % ↥bs) ((k:NV) / ↥bs / ↥bs) g)/\l[q]?=ba (.dic U)/\MustL l ↥S1 U L/\Fl l r/\Kp r S l),#[#[_,_,_,_,_,_,rfl],#[[],[],af,.nil,λg=>#[λh=>(nomatch h),λ#[k,h,_]=>(nomatch h)]],aB hq5,hm5.ka .push,f5.ka .push,kk.trans .push],?_,?_]
 ·rintro i Z S6 hi ⟨⟨x9,x10,x11,x12,n,m,rfl⟩,⟨kvd,O,e6,hd,B⟩,hq6,X,f6,k6⟩ Q2 hn2 _;clear hK k T;have u:(0:NV)<↥bs:=∅
  have hnb:(↥bs:NV)<1073741824:=∅
  have y1:0<=(i:NV) % ↥bs/\(i:NV) % ↥bs<↥bs:=#[QD _ ∅,Qd _ u]
  have y2:0<=(i:NV) / ↥bs % ↥bs/\(i:NV) / ↥bs % ↥bs<↥bs:=#[QD _ ∅,Qd _ u]
  have y3:0<=(i:NV) / ↥bs / ↥bs/\(i:NV) / ↥bs / ↥bs<↥bs:=by
   rcases hn with h|h<;>rw[h]at hj ⊢<;>omega
  nofun
  left;show ab (mQ u) (ab (mR u hnb) (ab (mQ u) ?_));delta w2;show hK _ _ ?_;clear hK K;nofun
  left;show ab (mR u hnb) (ab (mR u hnb) (hK _ _ ?_));clear hK K;dsimp only;have D:∀s:Ny Wd,(∀g,g∈s↔g∈O\/JE a bs L ((i:NV) % ↥bs) ((i:NV) / ↥bs % ↥bs) ((i:NV) / ↥bs / ↥bs) g)->∀g,g∈s↔∃k:NF,k<i+1/\JE a bs L ((k:NV) % ↥bs) ((k:NV) / ↥bs % ↥bs) ((k:NV) / ↥bs / ↥bs) g:=λs h g=>by
   rw[h,B];constructor
   ·rintro(⟨k,hk,h⟩|h)
    ·show#[k,∅,h]
    ·show#[i,∅,h]
   ·rintro⟨k,hk,h2⟩
    by_cases e:k=i
    ·rw[e]at h2;show .inr h2
    ·show .inl #[k,∅,h2]
  generalize(i:NV) % ↥bs=z1 at y1 D ⊢;generalize(i:NV) / ↥bs % ↥bs=z2 at y2 D ⊢;generalize(i:NV) / ↥bs / ↥bs=z3 at y3 D ⊢;clear B;nofun
  delta wS wT wA wE wV wG;show B1  G hb y1 y2 y3 hq6 X λS7 H=>?_
  delta fm bv;show ah (Q0:=Q2) (λW Q3 Y _=>?_) (λW Q3 Y _=>aW (Y _ _ (hK _ _ (aW (hn2 _ _ #[#[_,_,_,_,_,_,rfl],#[kvd,O,H.get _ _ e6,hd,D O λg=>#[.inl,λh=>h.elim id λh=>by rw[h.1]at W;cases W]],H.get _ _ hq6,X.ka H,f6.ka H,k6.trans (H.kp r)])))))
  show aK λK3 hK3=>?_
  show dM rfl rfl ?_;left;have h56:↥E<↥S6:=bQ e6;have h67:=H.len;show BM  G  ∅ λt ts S8 e8 ht ht7 k8=>?_
  show#[t,ts.map qI,(λj Z l=>(∃x9 n m,Z=[ba (.ref r),ba (.int v),ba (.tup (am bs)),ba (.ref q),ba (.int most),ba (.int a),ba (eE ms ns bs []),ba (.ref ↥E),ba (.int ↥bs),x9,ba (.int z1),ba (.int z2),ba (.int z3),n,m])/\(∃U s,l[↥E]?=ba (.dic U)/\FigD (aZ a bs) U s/\∀g,g∈s↔g∈O\/∃t∈ts.take j,g=dJ bs (w3 t z1 z2 z3))/\l[q]?=ba (.dic U)/\MustL l ↥S1 U L/\l[t]?=ba (.lst (ts.map qI))/\Fl l r/\Kp r S l),rfl,#[#[_,_,_,rfl],#[kvd,O,k8.get _ _ (H.get _ _ e6),hd,λg=>#[.inl,λh=>h.elim id λ#[t,h,_]=>by simp at h]],k8.get _ _ (H.get _ _ hq6),(X.ka H).ka k8,e8,(f6.ka H).ka k8,k6.trans ((H.trans k8).kp r)],λi Z l h=>h.2.2.2.2.1,?_,?_]
  ·rintro j w Z S9 hw ⟨⟨x9,n,m,rfl⟩,⟨kvd,s,e9,hd,B⟩,hq9,hm9,ht9,f9,k9⟩;clear hK3 Y hK hn2 D;rw[NO,NB]at hw;obtain⟨⟨J,M,N⟩,htr,rfl⟩:=hw;obtain⟨t1,t2,t3⟩:=((ht _).mp (N1 htr)).ok;show ab (show mI (.nm 13) (qI (J,M,N)) [ba (.ref r),ba (.int v),ba (.tup (am bs)),ba (.ref q),ba (.int most),ba (.int a),ba (eE ms ns bs []),ba (.ref ↥E),ba (.int ↥bs),x9,ba (.int z1),ba (.int z2),ba (.int z3),n,m] S9=ba ([ba (.ref r),ba (.int v),ba (.tup (am bs)),ba (.ref q),ba (.int most),ba (.int a),ba (eE ms ns bs []),ba (.ref ↥E),ba (.int ↥bs),x9,ba (.int z1),ba (.int z2),ba (.int z3),ba (qI (J,M,N)),m],S9)from rfl) λQ4 hn4 _=>?_
   have hu:GoodW a ↥bs [(J,[]),(M,[z1]),(N,[z2,z3])]:=Gw t1 t2 t3 y1 y2 y3;nofun
   left;show ag #v[] rfl (ag #v[] rfl (hK _ _ ?_))
   clear hK K;show st ?_;left;show ag #v[] rfl (ab (cM (gI rfl)) ?_)
   show sK     G hb hnl hu rfl λS10 C=>?_
   have e10:=C.get _ _ e9;show BJ e10 hd hsz hu rfl λo R #[I,ho1,ho2] ho3=>aW (hn4 _ _ #[#[_,_,_,rfl],#[I,R,ho1,ho2,λg=>?_],by rw[be ∅];show C.get _ _ hq9,(hm9.ka C).set e10,by rw[be ∅];show C.get _ _ ht9,(f9.ka C).own hrt,(k9.trans (C.kp r)).late kk.len])
   rw[ho3,B,Ol,htr];constructor
   ·rintro((h|⟨t,h,e⟩)|rfl)
    ·show .inl h
    ·show .inr #[t,Oo _ h,e]
    ·show .inr #[(J,M,N),Oj _ (by simp),rfl]
   ·rintro(h|⟨t,h,rfl⟩)
    ·show .inl (.inl h)
    ·rcases Oa.mp h with h|h
     ·show .inl (.inr #[t,h,rfl])
     ·have:t=(J,M,N):=by simpa using h
      subst this;show .inr rfl
  ·rintro Z S9 ⟨⟨x9,n,m,rfl⟩,⟨I,R,h1,h2,h3⟩,hq9,hm9,ht9,f9,k9⟩;rw[Nz,Ou]at h3;show hK3 _ _ (aW (Y _ _ (hK _ _ (aW (hn2 _ _ #[#[_,_,_,_,_,_,rfl],#[I,R,h1,h2,D R λg=>?_],hq9,hm9,f9,k9])))))
   rw[h3];show or_congr Yi #[λ#[t,h,e]=>#[W,t,(ht t).mp h,e],λ#[_,t,h,e]=>#[t,(ht t).mpr h,e]]
 ·rintro Z S6 ⟨⟨x9,x10,x11,x12,n,m,rfl⟩,⟨kvd,O,e6,hd,B⟩,hq6,X,f6,k6⟩;show hK _ _ (st ?_);left;show Gu  (Q:=λp=>Q' (.rt p.1,p.2)) e6 hd hsz hml hnl hnm (.inr (.inr (T O λg=>(B g).trans (B4 (P:=λx y z=>JE a bs L x y z g) hn hj)))) λw S8 hw k8=>k w S8 hw (f6.ka k8) (k6.trans (k8.kp r))
abbrev Tr:NF->W->Prop
 |_,.int _=>Wm
 |_,.str _=>Wm
 |_,.non=>Wm
 |n+1,.tup xs=>↥xs<=1000/\∀x∈xs,Tr n x
 |_,_=>Pg
def j5:∀n:NF,iF (OB n (.bl true))=ba (OB n true)
 |0=>rfl
 |n+1=>by rw[RA,iF,j5 n];rfl
def xv (n:NF):(OB n true).all id=true:=by
 rw[N6];intro x a;rw[(List.mem_replicate.mp a).2];rfl
def Ff (r:Is defs ("_law_alike") 2 2 cj):∀ n d w S (Q:QW),Tr n w->(∀c,Ka S c->Q (.bl true,c))->wO (aJ (aq defs fuel (d+n+1)) xm 2 [w,w] S) Q:=by
 intro n
 induction n with
 |zero=>
  intro d w S Q hw k;show au r rfl rfl λh g=>?_
  replace k:=g _ _ (k S .refl);clear g;change wZ _ _ cj [ba w,ba w] S h;delta cj;cases w with
  |int x=>
   show aK λK hK=>dg (λQ q=>q) (hK _ _ ?_)
   show aK λK hK=>dg (λQ q=>#[λz=>(by cases z),λ_=>q]) (hK _ _ ?_)
   show aK λK hK=>mT (λQ q=>q) λf _ b=>st ?_
   delta wS wE wV wG;show ab (show AA S (.int x) "int" = ba true from rfl) #[λ_=>?_,λz=>by cases z]
   delta im bv;rw[Os];show b _ _ k
  |str x=>
   show aK λK hK=>dg (λQ q=>q) (hK _ _ ?_)
   show aK λK hK=>dg (λQ q=>#[λz=>(by cases z),λ_=>q]) (hK _ _ ?_)
   show aK λK hK=>dg (λQ q=>q) (hK _ _ ?_)
   show aK λK hK=>mT (λQ q=>q) λf _ b=>st ?_
   delta wS wE wV wG;show ab (show AA S (.str x) "str" = ba true from rfl) #[λ_=>?_,λz=>by cases z]
   delta Gk bv;rw[Os];show b _ _ k
  |non=>
   show aK λK hK=>mT (λQ q=>q) λf _ b=>st ?_
   delta wS wE wV wG;show ab (show bK .is .non .non S=ba (.bl true,S)from rfl) (b _ _ k)
  |_=>show hw.elim
 |succ n ih=>
  intro d w S Q hw k;show au r rfl rfl λh g=>?_
  replace k:∀c,Ka S c->h (.rt (.bl true),c):=λc a=>g _ _ (k c a)
  clear g;change wZ _ _ cj [ba w,ba w] S h;delta cj;cases w with
  |int x=>
   show aK λK hK=>dg (λQ q=>q) (hK _ _ ?_)
   show aK λK hK=>dg (λQ q=>#[λz=>(by cases z),λ_=>q]) (hK _ _ ?_)
   show aK λK hK=>mT (λQ q=>q) λf _ b=>st ?_
   delta wS wE wV wG;show ab (show AA S (.int x) "int" = ba true from rfl) #[λ_=>?_,λz=>by cases z]
   delta im bv;rw[Os];show b _ _ (k _ .refl)
  |str x=>
   show aK λK hK=>dg (λQ q=>q) (hK _ _ ?_)
   show aK λK hK=>dg (λQ q=>#[λz=>(by cases z),λ_=>q]) (hK _ _ ?_)
   show aK λK hK=>dg (λQ q=>q) (hK _ _ ?_)
   show aK λK hK=>mT (λQ q=>q) λf _ b=>st ?_
   delta wS wE wV wG;show ab (show AA S (.str x) "str" = ba true from rfl) #[λ_=>?_,λz=>by cases z]
   delta Gk bv;rw[Os];show b _ _ (k _ .refl)
  |tup xs=>
   obtain⟨hl,s⟩:=hw;show aK λK hK=>dg (λQ q=>q) (hK _ _ ?_)
   show aK λK hK=>dg (λQ q=>#[λz=>(by cases z),λ_=>q]) (hK _ _ ?_)
   show aK λK hK=>dg (λQ q=>q) (hK _ _ ?_)
   show aK λK hK=>dg (λQ q=>q) (hK _ _ ?_)
   show aK λK hK=>dg (λQ q=>#[λz=>(by cases z),λ_=>q]) (hK _ _ ?_)
   show st ?_;left;show az (az ?_);delta im bv wB;rw[Os];show#[λ_=>?_,λz=>by cases z]
   show fP (↥xs:NV) (λi o l j=>(∃p,l=[dx,p,ba (.tup xs),ba (.tup xs)])/\o=OB i (.bl true)/\Ka S j) rfl rfl rfl ∅ ?_ ?_ ?_
   ·delta wE wA wV wG;show az #[rfl,#[dx,rfl],rfl,.refl]
   ·rintro i o l j hi ⟨⟨p,rfl⟩,rfl,m⟩;have e:i<↥xs:=∅
    delta eB wC wE wA wV wG NG;show#[λ_=>ag (NX i) (by rw[Od];show NK e) (ag (NX i) (by rw[Od];show NK e) (ih d _ _ _ (s _ (OE e)) λu t=>#[#[_,rfl],?_,m.trans t])),λz=>by cases z]
    rw[List.replicate_succ']
   ·rintro o l j ⟨_,rfl,m⟩;rw[Od];show#[jB (by rw[Uj];show hl),ab (a:=(.bl true,j++[.lst (OB ↥xs (.bl true))])) ?_ (k _ (m.trans .push))]
    unfold Bi.fn DZ;dsimp only;rw[aG af];dsimp only;rw[j5,OJ,xv]
  |non=>
   show aK λK hK=>mT (λQ q=>q) λf _ b=>st ?_
   delta wS wE wV wG;show ab (show bK .is .non .non S=ba (.bl true,S)from rfl) (b _ _ (k _ .refl))
  |_=>show hw.elim
abbrev xw:Ss:=
 #v[.ite (.cmp .gt (.v 2) (.v 3)) #v[.ret (.ix (.ix (.ix (.v 1) (.v 2)) (.k 1)) (.v 3))] .nil,.ret (.ix (.ix (.ix (.v 0) (.k 1)) (.ix (.ix (.ix (.v 1) (.v 3)) (.k 1)) (.v 2))) (.k 1))]
abbrev gJ:Ss:=
 #v[.ret (.bi .tuple #v[.comp (.own pk 4 #v[.v 4,.v 5,.sl (.v 3) .no (.yes (.v 1)),.v 2]) (.tp [1,2]) (.enu #v[.v 2]) .nil [dx,dx,dx,ba 2,ba 0,ba 1]])]
abbrev bD:Ss:=
 #v[.ret (.tup #v[.ix (.ix (.v 1) (.v 3)) (.k 0),.bi .tuple #v[.comp (.own "way" 4 #v[.v 3,.v 4,.v 2,.v 1]) (.nm 1) (.seq (.v 2)) .nil [dx,dx,ba 3,ba 0,ba 1]]])]
abbrev br:Ss:=
 #v[.set 3 (.bi .list #v[.bi .range #v[.v 1]]),.set 4 (.lst .nil),.whl (.cmp .lt (.bi .len #v[.v 4]) (.v 2)) #v[.ex (.me .append (.v 4) #v[.me .pop (.v 3) #v[.own z4 2 #v[.v 0,.bi .len #v[.v 3]]]])],.ret (.bi .tuple #v[.v 4])]
def B6 {a:NF}{Q:QO}(s:GoodB bs)(hl:↥n=↥bs)(m:GoodW a ↥bs u)(hi:i<↥u)(p:j<↥u)(x:i≠j)(k:Q (.rt (.int (bh bs u i j)),S)) :
  wZ M fuel xw [ba (.tup [m0,.tup (NW aH n bs),b0]),ba (aA u),ba (.int i),ba (.int j)] S Q:=by
 have l:=ay (d:=(0,[])) hi;have f:=ay (d:=(0,[])) p;unfold bh at k;delta xw;nofun
 delta wS wT wE wV wG Iz wO wB aA;show ah (Q0:=Q) (λh q _ y=>?_) (λh q g _=>?_)
 ·have c:j<i:=by have:=OC h;omega
  rw[Ob c]at k;have hw:j<(u.getD i (0,[])).2.length:=by rw[m.len i _ l];show c
  show st ?_;delta wS wE wV wG;show ag (NX i) (dL hi) (ag #v[] rfl (ag (NX j) ?_ (y _ _ k)))
  rw[Od,NO,ay (d:=0) hw];rfl
 ·have c:¬ j<i:=by have:=PB h;omega
  rw[Ot c]at k;show aW (g _ _ (hK _ _ ?_));clear g hK;have hw:i<(u.getD j (0,[])).2.length:=by rw[m.len j _ f];omega
  have o:=ay (d:=0) hw;obtain⟨r,z⟩:=m.way j _ f _ (N1 o);obtain⟨b,e,t,w⟩:=s.rng ((u.getD j (0,[])).2.getD i 0).toNat ∅
  have g:((u.getD j (0,[])).2.getD i 0).toNat<↥n:=∅
  rw[getD_some e]at k;show st ?_;delta wS wE wV wG;show ag #v[] rfl (ag (NX j) (dL p) (ag #v[] rfl (ag (NX i) ?_ (ag r (mY (NK g) e) (ag #v[] rfl k)))))
  rw[Od,NO,o];rfl
structure Parts (defs:Ny (Oc×Df)):Prop where
 way:Is defs ("way": Oc) 4 4 xw
 over:Is defs ("point_over": Oc) 4 4 bD
def B7 (P:Parts defs){a:NF}(f:GoodB bs)(hl:↥c=↥bs)(h:GoodW a ↥bs u)(hi:i<↥u)(g:j<↥u)(b:i≠j)(k:Q (.int (bh bs u i j),S)) :
  wO (aJ (aq defs fuel (d+1)) "way" 4 [.tup [m0,.tup (NW aH c bs),b0],aA u,.int i,.int j] S) Q:=
 au P.way rfl rfl λl e=>B6 f hl h hi g b (e _ _ k)
def IR (P:Parts defs){a:NF}(A:GoodB bs)(hl:↥e=↥bs)(B:GoodW a ↥bs u)(l:∀p∈ps,p<↥u/\i≠p)(hi:i<↥u)(hsz:↥ps<=1000)(k:∀b,Ka S b->Q (aN ((u.getD i (0,[])).1,ps.map λq=>bh bs u i q),b)) :
  wO (aJ (aq defs fuel (d+2)) pk 4 [.tup [m0,.tup (NW aH e bs),b0],aA u,.tup (ac ps),.int i] S) Q:=by
 show au P.over rfl rfl λt x=>?_
 replace k:∀b,Ka S b->t (.rt (aN ((u.getD i (0,[])).1,ps.map λq=>bh bs u i q)),b):=λb a=>x _ _ (k b a)
 clear x;change wZ _ _ bD [ba (.tup [m0,.tup (NW aH e bs),b0]),ba (aA u),ba (.tup (ac ps)),ba (.int i)] S t;generalize h:W.tup [m0,.tup (NW aH e bs),b0]=R;delta bD;show st ?_;left;show ag (NX i) (dL hi) (ag #v[] rfl ?_)
 show qE (ac ps) (λj s f c=>(∃g,f=[dx,g,ba (.int i),ba R,ba (aA u)])/\s=(ps.take j).map (λq=>W.int (bh bs u i q))/\Ka S c) rfl rfl rfl #[rfl,#[dx,rfl],rfl,.refl] ?_ ?_
 ·rintro j w s f c hw ⟨⟨g,rfl⟩,rfl,r⟩;unfold ac at hw;rw[NO,NB]at hw;obtain⟨q,y,rfl⟩:=hw;obtain⟨n,m⟩:=l q (N1 y);show ab (show mI (.nm 1) (.int (q:NV)) [dx,g,ba (.int i),ba R,ba (aA u)] c=ba ([dx,ba (.int (q:NV)),ba (.int i),ba R,ba (aA u)],c)from rfl) ?_
  delta eB wC wE wA wV wG;subst h;show#[λ_=>B7 (d:=d) P A hl B hi n m #[#[_,rfl],?_,r],λz=>by cases z]
  rw[Ol,y];simp
 ·rintro s f c ⟨_,rfl,r⟩;rw[show(ac ps).length=↥ps from Nz ..,Ou]
  show#[jB (by rw[Nz];show hsz),c8 af ?_]
  have:=k _ (r.trans (Ka.push (o:=O.lst (ps.map λq=>W.int (bh bs u i q)))))
  unfold aN at this;rw[OL]at this;show this
def Gx (P:Parts defs)(g:Is defs ("part") 3 3 gJ){a:NF}(A:GoodB bs)(hl:↥t=↥bs)(D:GoodW a ↥bs u)(c:∀p∈ps,p<↥u)(r:ps.Nodup)(hsz:↥ps<=1000)(k:∀f,Ka S f->Q (aA (ae bs u ps),f)) :
  wO (aJ (aq defs fuel (d+3)) pa 3 [.tup [m0,.tup (NW aH t bs),b0],aA u,.tup (ac ps)] S) Q:=by
 show au g rfl rfl λH y=>?_
 replace k:=λf a=>y _ _ (k f a)
 generalize o:W.tup [m0,.tup (NW aH t bs),b0]=R;show st ?_;left;show ET (ac ps) (λj v i b=>(∃l n,i=[dx,l,n,ba (.tup (ac ps)),ba R,ba (aA u)])/\v=((ae bs u ps).take j).map aN/\Ka S b) rfl rfl rfl #[rfl,#[dx,dx,rfl],rfl,.refl] ?_ ?_
 ·rintro j w v i b hw ⟨⟨l,n,rfl⟩,rfl,s⟩;unfold ac at hw;rw[NO,NB]at hw;obtain⟨q,h,rfl⟩:=hw;have B:=(NZ.mp h).1;have eq:q=ps[j]:=(NZ.mp h).2.symm;show ab (show mI (.tp [1,2]) (.tup [.int j,.int q]) [dx,l,n,ba (.tup (ac ps)),ba R,ba (aA u)] b=ba ([dx,ba (.int j),ba (.int q),ba (.tup (ac ps)),ba R,ba (aA u)],b)from rfl) ?_
  delta eB wC wE wA wP wV wG wN;show#[λ_=>ab (a:=(.tup (ac (ps.take j)),b)) ?_ ?_,λz=>by cases z]
  ·revert t8 fE;unfold ac;rw[Rh]
  ·subst o;show IR  P A hl D (λp g=>#[c p (Ql g),?_]) (c q (N1 h)) (by rw[Om];omega) λI E=>#[#[_,_,rfl],?_,s.trans E]
   ·obtain⟨m,C,e⟩:=Pk.mp g;rw[Om]at C;rw[P3]at e;rw[eq,<- e];intro z;have:=(PD r).mp z;omega
   ·have x:(ae bs u ps)[j]?=ba ((u.getD q (0,[])).1,(ps.take j).map λG=>bh bs u q G):=by
     unfold ae;rw[NO,O8 B,OJ,getD_some h]
    rw[Ol,x];simp
 ·rintro v i b ⟨_,rfl,s⟩;rw[show(ac ps).length=↥ps from Nz ..,<- aF bs u ps,Ou]
  show#[jB (by rw[Nz,aF];show hsz),c8 af (k _ (s.trans .push))]
def sV:∀ xs i,(ac xs).eraseIdx i=ac (xs.eraseIdx i)
 |[],i=>by cases i<;>rfl
 |x::xs,0=>rfl
 |x::xs,i+1=>by
  change W.int (x:NF)::(ac xs).eraseIdx i=W.int (x:NF)::ac (xs.eraseIdx i);rw[sV xs i]
def pd (n:NF):Hu 0 ((n:NV)-0).toNat=ac (NQ n):=by
 show ON λk _=>by rw[Rv]
def Fg { n:NF}(h:S[i]?=ba (.rng 0 n))(c:n<=1000)(q:Q (.ref ↥S,S++[.lst (ac (NQ n))])):wO (Bi.list.fn [.ref i] S) Q:=by
 show ab ?_ q;have a:re S i=ba (0,(n:NV)):=by unfold re;rw[h]
 have b:fq [.ref i] S=ba (.ref ↥S,S++[.lst (ac (NQ n))]):=by
  unfold fq;dsimp only
  rw[a];dsimp only
  rw[Ob #[∅,∅,∅,∅,by rw[O4];omega],pd]
 unfold Bi.fn n6;dsimp only;rw[b]
def yP {K:Fm->aa->Prop}{Q:QO}{  n:NF}{m:NV}(a:m=n)(c:∀Q:W->Prop,Q (.int m)->wV Z i Q)(b:n<=1000)(k:∀ t S',t=↥S+1->S'=S++[O.rng 0 n]++[.lst (ac (NQ n))]->K (Z.set j (ba (.ref t))) S') :
  wS M fuel (.set j (.bi .list #v[.bi .range #v[.v i]])) Z S K Q:=by
 have e:Bi.range.fn [.int m] S=ba (.ref ↥S,S++[.rng 0 m]):=by
  unfold Bi.fn l5;dsimp only
  rw[Ob #[∅,∅]]
 have h:wO (Bi.list.fn [.ref ↥S] (S++[O.rng 0 m])) λp=>K (Z.set j (ba p.1)) p.2:=by
  subst a;show Fg af b (k _ _ (by simp) rfl)
 have g:wO (Bi.range.fn [.int m] S) λp=>wO (Bi.list.fn [p.1] p.2) λp=>K (Z.set j (ba p.1)) p.2:=by
  rw[e];show h
 delta wS wE wA;show c _ g
def Ln (h:S[t]?=ba (.lst xs))(a:0<=v)(hw:xs[v.toNat]?=ba w)(hl:↥xs<=1000)(q:Q (w,S.set t (.lst (xs.eraseIdx v.toNat)))):wO (Me.pop.fn (.ref t) [.int v] S) Q:=by
 show ab ?_ q;have c:=(NZ.mp hw).1;have b:seqIndex? v ↥xs=ba v.toNat:=by
  unfold seqIndex?;rw[Ot (show ¬ v<0 by omega)]
  show Ob (by rw[NM];show#[OS a,OS ∅])
 (delta Me.fn DU;(rw[cH h];dsimp only))
 rw[Ob #[∅,∅]]
 revert b hw
def Fh (G:Gen defs)(W:Is defs ("_law_drawn_points") 3 5 br)(J:Fl S r)(hm:many<=900)(hs:size<=many)(A:size<fuel)(k:∀ ps j,↥ps=size->ps.Nodup->(∀p∈ps,p<many)->Fl j r->Kp r S j->Q (.tup (ac ps),j)) :
  wO (aJ (aq defs fuel (d+2)) xC 3 [.ref r,.int many,.int size] S) Q:=by
 show au W rfl rfl λC I=>?_
 replace k:∀(ps:Ny NF) j,↥ps=size->ps.Nodup->(∀p∈ps,p<many)->Fl j r->Kp r S j->C (.rt (.tup (ac ps)),j):=λa b c e f g h=>I _ _ (k a b c e f g h)
 clear I;change wZ _ _ br [ba (.ref r),ba (.int many),ba (.int size),dx,dx] S C;have Y:=J.lt;delta br;nofun
 generalize H:(many:NV)=Mqa at hK ⊢;show yP H.symm (λQ q=>q) ∅ λt S1 L l=>hK _ _ ?_
 clear hK K;subst H;delta NG;have D:S1[t]?=ba (.lst (ac (NQ many))):=by
  rw[l,show t=(S++[O.rng 0 many]).length by rw[L];simp];show af
 have l1:↥S<t:=∅
 have R:Fl S1 r:=by rw[l];show(J.ka .push).ka .push
 have M:Kp r S S1:=by rw[l];show Kp.push.trans .push
 have l2:=bQ D;clear l L;show st ?_;delta wS wE wA NG;nofun
 have x:∀xs:Ny NF,(ac xs).length=↥xs:=λxs=>Nz ..
 show Bl (λm Z j=>Z=[ba (.ref r),ba (.int many),ba (.int size),ba (.ref t),ba (.ref ↥S1)]/\∃i ps:Ny NF,j[t]?=ba (.lst (ac i))/\j[↥S1]?=ba (.lst (ac ps))/\(i++ps).Nodup/\(∀p∈i++ps,p<many)/\↥i+↥ps=many/\↥ps+m=size/\Fl j r/\Kp r S j) size rfl rfl A #[rfl,NQ many,[],aB D,af,by rw[Oz];show QV,λp n=>by rw[Oz]at n;show NU.mp n,by simp,by simp,R.ka .push,M.trans .push] ?_
 rintro m Z S2 ⟨rfl,i,ps,y,u,nd,lt,hl,hsz,E,N⟩;delta wT wE wA wV wG;show kL u ?_;rw[x];delta K8 bv wB;show#[λh=>?_,λh=>?_]
 ·have h:(↥ps:NV)<size:=OC h;show#[m-1,∅,λQ2 X _=>?_]
  clear hK k;show st ?_;left;show#[cN u,cN y,kL y ?_];rw[x];show aY (d:=d) G.pick E ∅ ∅ λv P v0 v1 T B=>?_
  have o:=B.get _ _ ∅ y
  have z:=B.get _ _ ∅ u
  have w:v.toNat<↥i:=∅
  show Ln o v0 (jj (NK w)) (by rw[x];omega) ?_
  have s:(P.set t (.lst ((ac i).eraseIdx v.toNat)))[↥S1]?=ba (.lst (ac ps)):=by rw[be ∅];show z
  show kK s (by rw[x];omega) (aW (X _ _ #[rfl,i.eraseIdx v.toNat,ps++[i[v.toNat]],?_,?_,?_,?_,?_,?_,(T.own ∅).own ∅,((N.trans B).late ∅).late (by have:=M.len;omega)]))
  ·rw[be ∅,bg o]
   rw[sV]
  ·rw[bg s];unfold ac;rw[N3];rfl
  ·have n:(i.eraseIdx v.toNat++(ps++[i[v.toNat]])).Perm (i++ps):=by
    have U:(i[v.toNat]::i.eraseIdx v.toNat).Perm i:=rH w;have V:(i.eraseIdx v.toNat++(ps++[i[v.toNat]])).Perm (i[v.toNat]::(i.eraseIdx v.toNat++ps)):=by
     rw[<- OO];show List.perm_append_singleton _ _
    show V.trans ((U.append_right ps))
   show n.nodup_iff.mpr nd
  ·intro p n;show lt p ?_;rcases Oa.mp n with h|h
   ·show Oo _ (List.mem_of_mem_eraseIdx h)
   ·rcases Oa.mp h with h|h
    ·show Oj _ h
    ·rw[NT.mp h];show Oo _ (OE w)
  ·rw[List.length_eraseIdx_of_lt w,NE,Oq];omega
  ·rw[NE,Oq];omega
 ·have h:¬ (↥ps:NV)<size:=PB h;show hK _ _ (st ?_);left;show c8 u (k ps _ ∅ (OZ.mp nd).2.1 (λp n=>lt p (Oj _ n)) E N)
def Lo { a:Ny W}(h:S[t]?=ba (.lst xs))(b:S[l]?=ba (.lst a))(hl:↥xs+↥a<=1000)(q:Q (.non,S.set t (.lst (xs++a)))):wO (Me.extend.fn (.ref t) [.ref l] S) Q:=by
 show ab ?_ q
 (delta Me.fn iY;simp only[cH h,cH b])
 rw[Ob (jB hl)]
abbrev aC (bs:Ny NV)(v:Wd)(ps:Ny NF)(i:NF):Pt:=((v.getD i (0,[])).1,ps.map λq=>bh bs v i q)
abbrev dh (n:NF)(os:Ny (Ny NF)):Ny (Ny NF):=os.flatMap λo=>((NQ n).filter λp=>decide (p∉o)).map λp=>o++[p]
def aP (bs:Ny NV)(v:Wd)(o:Ny NF)(p:NF):ae bs v (o++[p])=ae bs v o++[aC bs v o p]:=by
 unfold ae aC;rw[NE,Oq,Pe,N3];congr 1
 ·show ON λk hk=>?_
  have hk:=NU.mp hk;rw[show(o++[p]).getD k 0=o.getD k 0 by simp[Ow hk],List.take_append_of_le_length (by show QE ‹_›)]
 ·simp
def vg {xs:Ny NV}(h:↥xs=k):(NQ k).map (λq=>xs.getD q 0)=xs:=by
 apply PV
 ·simp[h]
 ·intro i b a;simp[a]
def j6 {a :NF}(c:GoodW a n u)(hk:k<↥u):aC bs u (NQ k) k=u.getD k (0,[]):=by
 unfold aC;have hl:=c.len k _ (ay (d:=(0,[])) hk);have e:((NQ k).map λq=>bh bs u k q)=(u.getD k (0,[])).2:=by
  show Eq.trans (ON λq b=>?_) (vg hl)
  have b:=NU.mp b;unfold bh;rw[Ob b]
 rw[e]
def sW :∀os:Ny (Ny NF),(dh n os).length<=↥os*n
 |[]=>by simp[dh]
 |o::os=>by
  have ih:=sW (n:=n) os;unfold dh at ih ⊢;rw[Qo,NE,Nz,On,TK];have:=PM (λp=>decide (p∉o)) (NQ n)
  rw[N7]at this;omega
def yQ {os:Ny (Ny NF)}:(dh n (os.take i)).length<=↥os*n:=by
 show N9 (sW _) (UD _ ?_);rw[Om];omega
def hG {a :Oh}(h:f x y=ba a)(d:ib f xs c=ba b):ib f (x::xs) (y::c)=ba (a&&b):=by
 show(match f x y,ib f xs c with
  |some a,ba b=>ba (a&&b)
  |_,_=>dx)=_
 rw[h,d]
def pe :∀xs a:Ny NV,ib (lq S d) (xs.map W.int) (a.map W.int)=ba (decide (xs=a))
 |[],[]=>rfl
 |[],_::_=>rfl
 |_::_,[]=>rfl
 |x::xs,y::a=>by
  have e:lq S d (.int x) (.int y)=ba (x==y):=by cases d<;>rfl
  rw[OP,OP,hG e (pe xs a)]
  by_cases h:x=y
  ·subst h;by_cases b:xs=a<;>simp[b]
  ·have h':(x==y)=false:=by simpa using h
   simp[h,h']
def vh (p q:Pt):lq S (d+2) (aN p) (aN q)=ba (decide (p=q)):=by
 obtain⟨m,ws⟩:=p;obtain⟨b,a⟩:=q;change ib _ _ _=_;have e:lq S (d+1) (.int m) (.int b)=ba _:=rfl;have c:lq S (d+1) (.tup _) (.tup _)=ba _:=pe ws a;rw[hG e (hG c rfl)]
 by_cases h:m=b
 ·subst h;by_cases f:ws=a<;>simp[f]
 ·have h':(m==b)=false:=by simpa using h
  simp[h,h']
def sX :∀u v:Wd,ib (lq S (d+2)) (u.map aN) (v.map aN)=ba (decide (u=v))
 |[],[]=>rfl
 |[],_::_=>rfl
 |_::_,[]=>rfl
 |x::xs,y::a=>by
  rw[OP,OP,hG (vh x y) (sX xs a)]
  by_cases h:x=y
  ·by_cases b:xs=a<;>simp[b]
  ·simp[h]
def Lp {p q:Pt}:bK .eq (aN p) (aN q) S=ba (.bl (decide (p=q)),S):=by
 show(lq S (18+2) (aN p) (aN q)).map _=_;rw[vh];rfl
def IS :bK .eq (aA u) (aA v) S=ba (.bl (decide (u=v)),S):=by
 show(ib _ _ _).map _=_;rw[sX];rfl
def jm {p:NF}:∀ps:Ny NF,((ac ps).any λz=>iU z (.int p))=decide (p∈ps)
 |[]=>rfl
 |q::ps=>by
  show(q==(p:NV)||(ac ps).any _)=_
  rw[jm ps]
  by_cases h:q=p
  ·subst h;simp
  ·have a:(q==(p:NV))=false:=by simp;omega
   have b:¬ p=q:=λe=>h e.symm
   rw[a];simp[b]
def j7 (ps:Ny NF):(ac ps).all aR=true:=by
 rw[N6];intro x a;obtain⟨p,_,rfl⟩:=NS.mp a;rfl
def B8 {p:NF}:bK .notin (.int p) (.tup (ac ps)) S=ba (.bl (decide (p∉ps)),S):=by
 change dF _ _ _ S=_;have a:(aR (.int p)&&(ac ps).all aR)=true:=by rw[j7];rfl
 show(qB (qA rfl a (jm ps))).trans ?_;congr 3
 by_cases h:p∈ps<;>simp[h]
abbrev bB:Ss:=
 #v[.set 2 (.lst .nil),.loop (.nm 3) (.seq (.v 0)) #v[.ex (.me .extend (.v 2) #v[.comp (.op .add (.v 2) (.tup #v[.v 1])) (.nm 1) (.rng #v[.v 1]) #v[.cmp .notin (.v 1) (.v 2)] [dx,dx,ba 3]])],.ret (.v 2)]
abbrev cC (os:Ny (Ny NF)):Ny W:=os.map λo=>.tup (ac o)
def vm { a:Ny W}(h:S[t]?=ba (.lst xs))(b:S[l]?=ba (.lst a))(hl:↥xs+↥a<=1000000)(q:Q (.non,S.set t (.lst (xs++a)))):wO (Me.extend.fn (.ref t) [.ref l] S) Q:=by
 show ab ?_ q;unfold Me.fn iY;dsimp only
 rw[cH h,cH b];dsimp only
 rw[Ob (by rw[O4];show N9 ‹_› (OA rfl))]
def j8 (h:n<=1000000):n<=sizeLine:=by rw[O4];show N9 ‹_› (OA rfl)
def B9 (I:Is defs ("longer_orders") 2 4 bB){os:Ny (Ny NF)}(e:S[l]?=ba (.lst (cC os)))(E:n<=100)(s:∀o∈os,↥o<=100)(N:↥os*n<=100000)
  (k:∀ q g,g[q]?=ba (.lst (cC (dh n os)))->↥S<=q->Ka S g->Q (.ref q,g)) :
  wO (aJ (aq defs fuel (d+1)) "longer_orders" 2 [.ref l,.int n] S) Q:=by
 show au I rfl rfl λP H=>?_
 replace k:=λa b c e f=>H _ _ (k a b c e f)
 have J:=bQ e;show st ?_;left;nofun
 show lE l (cC os) (λi Z g=>(∃x,Z=[ba (.ref l),ba (.int n),ba (.ref ↥S),x])/\g[l]?=ba (.lst (cC os))/\g[↥S]?=ba (.lst (cC (dh n (os.take i))))/\Ka S g) rfl rfl #[rfl,#[dx,rfl],aB e,af,.push] (λi Z g h=>h.2.1) ?_ ?_
 ·rintro i w Z S1 hw ⟨⟨x,rfl⟩,B,m,y⟩;unfold cC at hw;rw[NO,NB]at hw;obtain⟨o,G,rfl⟩:=hw;have s:=s o (N1 G);show ab rfl ?_;intro R E _;show st ?_;left;show#[cN m,?_];show fP n (λj z v t=>(∃A,v=[dx,A,ba (.tup (ac o))])/\z=cC (((NQ j).filter λp=>decide (p∉o)).map λp=>o++[p])/\t=S1) rfl rfl rfl ∅ #[rfl,#[dx,rfl],rfl,rfl] ?_ ?_
  ·rintro j z v t T ⟨⟨A,rfl⟩,rfl,rfl⟩;delta eB wE wA wV wG NG;show ab B8 ?_;delta wB;have C:(NQ (j+1)).filter (λp=>decide (p∉o))=(NQ j).filter (λp=>decide (p∉o))++(if j∉o then[j]else[]):=by
    rw[Pe,Rc];congr 1
    by_cases h:j∈o<;>simp[h]
   show#[λh=>?_,λh=>#[#[_,rfl],?_,rfl]]
   ·have h:=OC h;show ab (cM (j8 (by rw[NE,show(ac o).length=↥o from Nz ..];show _+1<=_;omega))) #[#[_,rfl],?_,rfl]
    rw[C,Ob h,N3];unfold cC;simp[ac]
   ·have h:=PB h;rw[C,Ot h,Oz]
  ·rintro z v t ⟨_,rfl,rfl⟩;rw[Od];have D:(cC (((NQ n).filter λp=>decide (p∉o)).map λp=>o++[p])).length<=n:=by
    unfold cC;rw[Nz,Nz];show N9 (PM _ _) (by rw[N7];show NP _)
   have r:=aB (u:=O.lst (cC (((NQ n).filter λp=>decide (p∉o)).map λp=>o++[p]))) m
   have L:=yQ (n:=n) (os:=os) (i:=i);have M:(cC (dh n (os.take i))).length=(dh n (os.take i)).length:=Nz ..;show#[j8 ∅,vm r af ∅ (aW (E _ _ #[#[_,rfl],?_,?_,(y.trans .push).late (NP _)]))]
   ·rw[be (by show O2 ‹_›)];show aB B
   ·rw[bg r];unfold dh cC;rw[Ol,G];simp
 ·rintro Z S1 ⟨⟨x,rfl⟩,B,m,y⟩;rw[show(cC os).length=↥os from Nz ..,Ou]at m
  show hK _ _ (st (k _ _ m (NP _) y))
def pf {n:NF}{m:NV}(h:m=n)(f:∀Q:QW,Q (.int m,S)->wE M e Z S Q)(i:n<=1000)(k:∀a,Ka S a->Q (.tup (ac (NQ n)),a)):wE M (.bi .tuple #v[.bi .range #v[e]]) Z S Q:=by
 have b:Bi.range.fn [.int m] S=ba (.ref ↥S,S++[.rng 0 m]):=by
  unfold Bi.fn l5;dsimp only
  rw[Ob #[∅,∅]]
 have c:Bi.tuple.fn [.ref ↥S] (S++[.rng 0 m])=ba (.tup (ac (NQ n)),S++[.rng 0 m]):=by
  have d:re (S++[.rng 0 m]) ↥S=ba (0,m):=by simp[re]
  unfold Bi.fn jK;dsimp only
  rw[d];dsimp only
  rw[Ob #[∅,∅,∅,∅,by rw[O4];omega],h,pd]
 have g:wO (Bi.range.fn [.int m] S) λp=>wO (Bi.tuple.fn [p.1] p.2) Q:=by
  rw[b];change wO _ Q;rw[c];show k _ .push
 left;show f _ g
def sY:∀xs:Ny NV,eO (xs.map T.int)=true
 |[]=>rfl
 |_::xs=>sY xs
def lG:∀u:Wd,eO (u.map kM)=true
 |[]=>rfl
 |p::u=>by
  revert OP eO NM;show#[?_,lG u]
  (delta kM l8 eO;simp[sY])
def qM (u:Wd):l8 (cV u)=true:=lG u
abbrev bu:Ss:=
 #v[.set 4 (.tup #v[.ix (.ix (.v 0) (.v 1)) (.k 0),.tup .nil]),.set 5 (.tup #v[.ix (.ix (.v 0) (.v 2)) (.k 0),.tup #v[.ix (.ix (.ix (.v 0) (.v 2)) (.k 1)) (.v 1)]]),.ret (.tup #v[.v 4,.v 5,.tup #v[.ix (.ix (.v 0) (.v 3)) (.k 0),.tup #v[.ix (.ix (.ix (.v 0) (.v 3)) (.k 1)) (.v 1),.ix (.ix (.ix (.v 0) (.v 3)) (.k 1)) (.v 2)]]])]
abbrev cO (u:Wd)(i j k:NF):Wd:=[((u.getD i (0,[])).1,[]),((u.getD j (0,[])).1,[(u.getD j (0,[])).2.getD i 0]),((u.getD k (0,[])).1,[(u.getD k (0,[])).2.getD i 0,(u.getD k (0,[])).2.getD j 0])]
def qN (s:Is defs ("three_at") 4 6 bu){a :NF}(f:GoodW a n u)(l:i<j)(o:j<k)(b:k<↥u)(q:Q (aA (cO u i j k),S)) :
  wO (aJ (aq defs fuel (d+1)) "three_at" 4 [aA u,.int i,.int j,.int k] S) Q:=by
 show au s rfl rfl λg r=>?_
 replace q:=r _ _ q;change wZ _ _ _ [ba _,ba _,ba _,ba _,dx,dx] S g;have hi:i<↥u:=∅
 have c:j<↥u:=by show Pw ‹_› ‹_›
 have t:i<(u.getD j (0,[])).2.length:=by rw[f.len j _ (ay  c)];show l
 have x:j<(u.getD k (0,[])).2.length:=by rw[f.len k _ (ay  b)];show o
 have e:i<(u.getD k (0,[])).2.length:=∅
 have w:∀{p m:NF},m<(u.getD p _).2.length->((u.getD p _).2.map W.int)[(m:NV).toNat]?=ba (.int ((u.getD p (0,[])).2.getD m 0)):=λ{p m} h=>by
  rw[Od,NO,ay  h];rfl
 show st ?_;left;show ag (NX i) (dL hi) (ag #v[] rfl ?_)
 show st ?_;left;show ag (NX j) (dL c) (ag #v[] rfl (ag (NX j) (dL c) (ag #v[] rfl (ag (NX i) (w t) ?_))))
 show st ?_;left;show ag (NX k) (dL b) (ag #v[] rfl (ag (NX k) (dL b) (ag #v[] rfl (ag (NX i) (w e) (ag (NX k) (dL b) (ag #v[] rfl (ag (NX j) (w x) q)))))))
abbrev bf (i j k a b c:NF):Prop:=a<i\/(a=i/\(b<j\/(b=j/\c<k)))
abbrev IT (P:NF->NF->NF->Oh)(n i j k:NF):Prop:=i<j/\j<k/\k<n/\P i j k=true/\∀c a b,c<a->a<b->b<n->bf i j k c a b->P c a b=false
abbrev Ans (P:NF->NF->NF->Oh)(n:NF)(w:W):Prop:=(w=.non/\∀i j k,i<j->j<k->k<n->P i j k=false)\/∃i j k:NF,w=.tup [.int i,.int j,.int k]/\IT P n i j k
def Ans.uniq {P:NF->NF->NF->Oh}(h:Ans P n w)(h':Ans P n m):w=m:=by
 rcases h with⟨rfl,h⟩|⟨i,j,k,rfl,b,c,d,a,o⟩
 ·rcases h' with⟨rfl,_⟩|⟨i,j,k,rfl,b,c,d,a,_⟩
  ·rfl
  ·rw[h i j k b c d]at a;cases a
 ·rcases h' with⟨rfl,h⟩|⟨e,f,g,rfl,p,b2,q,l,r⟩
  ·rw[h i j k b c d]at a;cases a
  ·have v:¬ bf i j k e f g:=λz=>by rw[o e f g p b2 q z]at l;cases l
   have x:¬ bf e f g i j k:=λz=>by rw[r i j k b c d z]at a;cases a
   unfold bf at v x;have s:i=e:=∅
   have t:j=f:=∅
   have u:k=g:=∅
   rw[s,t,u]
def Ans.congr {P :NF->NF->NF->Oh}(e:∀i j k,i<j->j<k->k<n->P i j k=c i j k)(h:Ans P n w):Ans c n w:=by
 rcases h with⟨rfl,h⟩|⟨i,j,k,rfl,d,f,g,p,q⟩
 ·show .inl #[rfl,λi j k a b2 b=>by rw[<- e i j k a b2 b];show h i j k a b2 b]
 ·show .inr #[i,j,k,rfl,d,f,g,by rw[<- e i j k d f g];show p,λl m o a b2 b r=>by rw[<- e l m o a b2 b];show q l m o a b2 b r]
abbrev bX:Ss:=
 #v[.loop (.nm 2) (.rng #v[.bi .len #v[.v 1]]) #v[.loop (.nm 3) (.rng2 #v[.op .add (.v 2) (.k 1),.bi .len #v[.v 1]]) #v[.loop (.nm 4) (.rng2 #v[.op .add (.v 3) (.k 1),.bi .len #v[.v 1]]) #v[.ite (.cmp .isin (.own "three_at" 4 #v[.v 1,.v 2,.v 3,.v 4]) (.v 0)) #v[.ret (.tup #v[.v 2,.v 3,.v 4])] .nil]]],.ret (.c .non)]
abbrev bT (U:Ny (T×W))(u:Wd)(i j k:NF):Oh:=(bj U (cV (cO u i j k))).isSome
def oo (h3:Is defs ("three_at") 4 6 bu)(hg:Is defs ("first_three") 2 5 bX){a  q:NF}(hu:GoodW a n u)(hl:↥u<=1000)(e:S[q]?=ba (.dic U))(I:∀w,Ans (bT U u) ↥u w->Q (w,S)) :
  wO (aJ (aq defs fuel (d+2)) "first_three" 2 [.ref q,aA u] S) Q:=by
 show au hg rfl rfl λQ' hR=>?_
 replace I:∀w,Ans (bT U u) ↥u w->Q' (.rt w,S):=λw h=>hR _ _ (I w h)
 clear hR;change wZ _ _ bX [ba (.ref q),ba (aA u),dx,dx,dx] S Q';have ul:(u.map aN).length=↥u:=Nz ..;delta bX;nofun
 show b8 (↥u:NV) (λi Z x=>(∃N s g,Z=[ba (.ref q),ba (aA u),N,s,g])/\x=S/\∀r f c,r<i->r<f->f<c->c<↥u->bT U u r f c=false) rfl rfl ∅ ?_ ?_ ?_
 ·delta wE wA wV wG;show az ?_;rw[ul];show#[rfl,#[_,_,_,rfl],rfl,λr _ _ z=>∅]
 ·rintro i Z S1 hi ⟨⟨N,s,g,rfl⟩,rfl,J⟩ Q2 hn hr;clear hK;delta NG;nofun
  show eF ((i:NV)+1) (↥u:NV) (λm Z x=>(∃s g,Z=[ba (.ref q),ba (aA u),ba (.int i),s,g])/\x=S1/\∀f c,f<i+1+m->i<f->f<c->c<↥u->bT U u i f c=false) rfl rfl rfl ∅ ?_ ?_ ?_
  ·delta wE wA wV wG;show ab fY #[rfl,az ?_];rw[ul];show#[rfl,#[_,_,rfl],rfl,λf c L t=>∅]
  ·rintro m Z S2 hm ⟨⟨s,g,rfl⟩,rfl,o⟩ Q3 D V;clear hK;have ej:(i:NV)+1+m=((i+1+m:NF):NV):=∅
   rw[ej];generalize hj:i+1+m=j at o D ej;have A:i<j:=∅
   have hju:j<↥u:=∅
   delta NG;nofun
   show eF ((j:NV)+1) (↥u:NV) (λl Z x=>(∃g,Z=[ba (.ref q),ba (aA u),ba (.int i),ba (.int j),g])/\x=S2/\∀c,c<j+1+l->j<c->c<↥u->bT U u i j c=false) rfl rfl rfl ∅ ?_ ?_ ?_
   ·delta wE wA wV wG;show ab fY #[rfl,az ?_];rw[ul];show#[rfl,#[_,rfl],rfl,λc L t=>∅]
   ·rintro l Z M hl3 ⟨⟨g,rfl⟩,rfl,p⟩ Q4 E X;clear hK;have ek:(j:NV)+1+l=((j+1+l:NF):NV):=∅
    rw[ek];generalize hk:j+1+l=k at p E ek;have B:j<k:=∅
    have C:k<↥u:=∅
    delta NG;nofun
    delta wS wT wE wA wV wG;show qN (d:=d) h3 hu A B C ?_;show ab (show bK .isin (aA (cO u i j k)) (.ref q) M=ba (.bl (bT U u i j k),M) by simp only[bK,b7 e,Bw];rfl) ?_
    delta wB;show ah (Q0:=Q4) (λh Q5 _ Y=>?_) (λh Q5 R _=>aW (R _ _ (hK _ _ (aW (E _ _ #[#[_,rfl],rfl,λc L t v=>?_])))))
    ·show st ?_;left;show Y _ _ (X _ _ (V _ _ (hr _ _ (I _ (.inr #[i,j,k,rfl,A,B,C,h,λr f c H b2 y b4=>?_])))))
     rcases b4 with b|⟨rfl,b|⟨rfl,b⟩⟩
     ·show J r f c b H b2 y
     ·show o f c b H b2 y
     ·show p c b b2 y
    ·by_cases P:c=k
     ·rw[P];show h
     ·show p c ∅ t v
   ·rintro Z M ⟨⟨g,rfl⟩,rfl,p⟩;show hK _ _ (aW (D _ _ #[#[_,_,rfl],rfl,λf c L t v G=>?_]))
    by_cases O:f=j
    ·rw[O];show p c ∅ ∅ G
    ·show o f c ∅ t v G
  ·rintro Z S2 ⟨⟨s,g,rfl⟩,rfl,o⟩;show hK _ _ (aW (hn _ _ #[#[_,_,_,rfl],rfl,λr f c L t v G=>?_]))
   by_cases ei:r=i
   ·rw[ei];show o f c ∅ ∅ v G
   ·show J r f c ∅ t v G
 ·rintro Z S1 ⟨⟨N,s,g,rfl⟩,rfl,J⟩;show hK _ _ (st ?_);delta wS wE;show I _ (.inl #[rfl,λi j k H b2 y=>J i j k ∅ H b2 y])
structure HasD (U:Ny (T×W))(L:Ny Wd):Prop where
 iff:∀t,t∈U.map (·.1)↔t∈L.map cV
 len:↥U<=↥L
def jn :(bj U t).isSome=true↔t∈U.map (·.1):=by
 constructor
 ·intro h;obtain⟨v,a⟩:=O3.mp h;show NS.mpr #[_,BN a,rfl]
 ·intro h;obtain⟨p,b,rfl⟩:=NS.mp h;obtain⟨v,a⟩:=E9 b;rw[a];rfl
def HasD.get (h:HasD U L)(t:T):(bj U t).isSome=decide (t∈L.map cV):=by
 rw[Qp,jn,h.iff,Og]
def HasD.nil:HasD [] []:=#[λt=>by rfl,NP _]
def HasD.put (h:HasD U L):HasD (dS U (cV f) v) (L++[f]):=by
 show#[λt=>?_,?_]
 ·rw[gZ,N3,Oa,<- h.iff t]
  by_cases hk:cV f∈U.map (·.1)
  ·rw[Ob hk];constructor
   ·show .inl
   ·rintro(z|z)
    ·show z
    ·rw[NT.mp z];show hk
  ·rw[Ot hk,Oa];rfl
 ·have:=eP U (cV f) v;have:=h.len;rw[NE,Oq];omega
abbrev j9:Ss:=
 #v[.set 1 .dnew,.loop (.nm 2) (.seq (.ix (.v 0) (.k 2))) #v[.loop (.nm 3) (.seq (.own uw 0 .nil)) #v[.put (.v 1) (.own zz 3 #v[.v 0,.v 2,.v 3]) (.c (.bl true))]],.ret (.v 1)]
abbrev aX (bs:Ny NV)(a:Ny Wd):Ny Wd:=a.flatMap λg=>aw.map (ae bs g)
def nk (bs:Ny NV):∀a:Ny Wd,(aX bs a).length=6*↥a
 |[]=>rfl
 |g::a=>by
  have:=nk bs a;unfold aX at this ⊢;rw[Qo,NE,this,On,Nz,show aw.length=6 from rfl];omega
def Lq (G:Gen defs)(hg:Is defs ("_law_bad") 1 4 j9){V:Ny Oc}{a:NF}(hb:GoodB bs)(E:↥V=↥bs)(B:∀g∈m,GoodW a ↥bs g/\↥g=3)(h64:↥m<=100)
  (k:∀ q U l,l[q]?=ba (.dic U)->HasD U (aX bs m)->↥S<=q->Ka S l->Q (.ref q,l)) :
  wO (aJ (aq defs fuel (d+3)) "_law_bad" 1 [.tup [m0,.tup (NW aH V bs),.tup (m.map aA)]] S) Q:=by
 show au hg rfl rfl λX hR=>?_
 replace k:=λa b c e f g h=>hR _ _ (k a b c e f g h)
 change wZ _ _ _ [ba _,dx,dx,dx] S X;generalize s:W.tup _=R;show st ?_;left;nofun
 show for_tup (m.map aA) (λi Z l=>(∃z n,Z=[ba R,ba (.ref ↥S),z,n])/\(∃U,l[↥S]?=ba (.dic U)/\HasD U (aX bs (m.take i)))/\Ka S l) rfl rfl ?_ ?_ ?_
 ·left;subst s;show ag #v[] rfl #[rfl,#[_,_,rfl],#[[],af,.nil],.push]
 ·rintro i w Z S1 hw ⟨⟨z,n,rfl⟩,⟨U,u,x⟩,I⟩;rw[NO,NB]at hw;obtain⟨g,o,rfl⟩:=hw;obtain⟨gg,g3⟩:=B g (N1 o);have hi:=(NZ.mp o).1;show ab rfl ?_;intro Q2 O _;nofun
  show dM rfl rfl ?_;left;show lF  G ?_;show#[↥S1,aw.map (λt=>W.tup (ac t)),(λj Z l=>(∃n,Z=[ba R,ba (.ref ↥S),ba (aA g),n])/\(∃U,l[↥S]?=ba (.dic U)/\HasD U (aX bs (m.take i)++(aw.take j).map (ae bs g)))/\l[↥S1]?=ba (.lst (aw.map λt=>W.tup (ac t)))/\Ka S l),rfl,#[#[_,rfl],#[U,aB u,by rw[Qm,Xe,Oz];show x],af,I.trans .push],λj Z l h=>h.2.2.1,?_,?_]
  ·rintro j w Z Y hw ⟨⟨n,rfl⟩,⟨y,A,r⟩,N,J⟩;clear hK O;rw[NO,NB]at hw;obtain⟨t,P,rfl⟩:=hw;have H:=N1 P;have tk:↥t<=3/\t.Nodup/\∀p∈t,p<3:=by
    have:∀t∈aw,↥t<=3/\t.Nodup/\∀p∈t,p<3:=by decide
    show this t H
   show ab rfl ?_;intro Q3 D _;show st ?_;left;subst s;show vc  G hb E gg (λp hp=>by have:=tk.2.2 p hp;omega) tk.2.1 ∅ λS3 L=>?_
   have M:=L.get _ _ A;have C:↥y<sizeLine:=by
    have b1:=r.len;have b2:=nk bs (m.take i);rw[NE,b2,Nz,Om,Om,show aw.length=6 from rfl]at b1
    rw[O4];omega
   show ab (BG M C) (aW (D _ _ #[#[_,rfl],#[_,bg M,?_],?_,(J.trans L).late (NP _)]))
   ·rw[Ol,P,N3,<- OO];show r.put
   ·rw[be (by have:=bQ u;show Oe ‹_›)];show L.get _ _ N
  ·rintro Z Y ⟨⟨n,rfl⟩,⟨y,A,r⟩,N,J⟩;show hK _ _ (aW (O _ _ #[#[_,_,rfl],#[y,A,?_],J]));unfold aX at r ⊢;rw[Ol,o,P6]
   simpa using r
 ·rintro Z S1 ⟨⟨z,n,rfl⟩,⟨U,u,x⟩,I⟩;rw[Nz,Ou]at x;show hK _ _ (st (k _ U S1 u x (NP _) I))
abbrev bW:Ss:=
 #v[.set 1 (.lst #v[.tup .nil]),.whl (.cmp .lt (.bi .len #v[.ix (.v 1) (.k 0)]) (.k 3)) #v[.set 1 (.own "longer_orders" 2 #v[.v 1,.k 3])],.set 2 .dnew,.loop (.nm 3) (.seq (.ix (.v 0) (.k 2))) #v[.loop (.nm 4) (.seq (.v 1)) #v[.put (.v 2) (.own pa 3 #v[.v 0,.v 3,.v 4]) (.c (.bl true))]],.ret (.v 2)]
abbrev Cb:NF->Ny (Ny NF)
 |0=>[[]]
 |i+1=>dh 3 (Cb i)
def IU:∀i,i<=3->(∃o,(Cb i)[0]?=ba o/\↥o=i)/\(Cb i).length<=6/\∀o∈Cb i,↥o<=3:=λi hi=>by
 rcases(show i=0\/i=1\/i=2\/i=3 by omega)with rfl|rfl|rfl|rfl
 ·show#[#[[],rfl,rfl],#v[],#v[]]
 ·show#[#[[0],rfl,rfl],#v[],#v[]]
 ·show#[#[[0,1],rfl,rfl],#v[],#v[]]
 ·show#[#[[0,1,2],rfl,rfl],#v[],#v[]]
def nq (hfu:20<fuel)(P:Parts defs)(hp:Is defs ("part") 3 3 gJ)(hl:Is defs ("longer_orders") 2 4 bB)(hg:Is defs ("barred_threes") 1 5 bW){a:NF}{r:Ny Wd}(hb:GoodB bs)(hnl:↥ns=↥bs)(V:∀g∈r,GoodW a ↥bs g/\↥g=3)(h64:↥r<=100)
  (k:∀ q U l,l[q]?=ba (.dic U)->HasD U (aX bs r)->↥S<=q->Ka S l->Q (.ref q,l)) :
  wO (aJ (aq defs fuel (d+4)) vr 1 [.tup [m0,.tup (NW aH ns bs),.tup (r.map aA)]] S) Q:=by
 show au hg rfl rfl λQ' hR=>?_
 replace k:=λa b c e f g h=>hR _ _ (k a b c e f g h)
 generalize B:W.tup [m0,.tup (NW aH ns bs),.tup (r.map aA)]=R;show st ?_;left;nofun
 show Bl (λm Z l=>∃i q,i+m=3/\Z=[ba R,ba (.ref q),dx,dx,dx]/\l[q]?=ba (.lst (cC (Cb i)))/\↥S<=q/\Ka S l) 3 rfl rfl ∅ #[0,↥S,rfl,rfl,af,NP _,.push] ?_
 rintro m Z S1 ⟨i,q,X,rfl,G,hq,D⟩;obtain⟨⟨o,J,C⟩,l6,l3⟩:=IU i ∅
 delta wT wE wA;show kJ  G #v[] (by unfold cC;rw[NO,show((0:NV).toNat)=0 from rfl,J];rfl) (az ?_)
 rw[show(ac o).length=↥o from Nz ..,C]
 dsimp only[];show#[λh=>?_,λh=>?_]
 ·have h:=OC h;show#[m-1,∅,λQ2 I _=>?_]
  show st ?_;left;show B9 (n:=3)  hl G #v[] (λo J=>by have:=l3 o J;show N9 ‹_› (OA rfl)) ∅ λq2 L z hq2 E=>aW (I _ _ #[i+1,q2,∅,rfl,z,?_,D.trans E])
  show N9 D.len hq2
 ·have h:=PB h;obtain rfl:i=3:=∅
  show hK _ _ ?_;clear hK K l6 l3 J C h X;show st ?_;left;nofun
  have hq1:=bQ G;show for_tup (r.map aA) (λi Z l=>(∃N s,Z=[ba R,ba (.ref q),ba (.ref ↥S1),N,s])/\(∃U,l[↥S1]?=ba (.dic U)/\HasD U (aX bs (r.take i)))/\l[q]?=ba (.lst (cC aw))/\Ka S l) rfl rfl ?_ ?_ ?_
  ·left;subst B;show ag #v[] rfl #[rfl,#[_,_,rfl],#[[],af,.nil],aB G,D.trans .push]
  ·rintro i w Z L hw ⟨⟨N,s,rfl⟩,⟨U,z,H⟩,A,E⟩;rw[NO,NB]at hw;obtain⟨g,x,rfl⟩:=hw;obtain⟨gg,g3⟩:=V g (N1 x);have hi:=(NZ.mp x).1;show ab rfl ?_;intro Q2 I _;nofun
   show lE q (cC aw) (λj Z l=>(∃s,Z=[ba R,ba (.ref q),ba (.ref ↥S1),ba (aA g),s])/\(∃U,l[↥S1]?=ba (.dic U)/\HasD U (aX bs (r.take i)++(aw.take j).map (ae bs g)))/\l[q]?=ba (.lst (cC aw))/\Ka S l) rfl rfl #[rfl,#[_,rfl],#[U,z,by rw[Qm,Xe,Oz];show H],A,E] (λj Z l h=>h.2.2.1) ?_ ?_
   ·rintro j w Z S3 hw ⟨⟨s,rfl⟩,⟨M,O,y⟩,u,k3⟩;clear hK I;unfold cC at hw;rw[NO,NB]at hw;obtain⟨t,ht,rfl⟩:=hw;have tk:↥t<=3/\t.Nodup/\∀p∈t,p<3:=by
     have:∀t∈aw,↥t<=3/\t.Nodup/\∀p∈t,p<3:=by decide
     show this t (N1 ht)
    show ab rfl ?_;intro Q3 hn3 _;show st ?_;left;subst B;show Gx  P hp hb hnl gg (λp hp=>by have:=tk.2.2 p hp;omega) tk.2.1 ∅ λS4 k4=>?_
    have e4:=k4.get _ _ O;have Y:↥M<sizeLine:=by
     have b1:=y.len;have b2:=nk bs (r.take i);rw[NE,b2,Nz,Om,Om,show aw.length=6 from rfl]at b1
     rw[O4];omega
    show ab (BG e4 Y) (aW (hn3 _ _ #[#[_,rfl],#[_,bg e4,?_],?_,(k3.trans k4).late D.len]))
    ·rw[Ol,ht,N3,<- OO];show y.put
    ·rw[be (by show O2 ‹_›)];show k4.get _ _ u
   ·rintro Z S3 ⟨⟨s,rfl⟩,⟨M,O,y⟩,u,k3⟩;rw[show(cC aw).length=aw.length from Nz ..,Ou]at y
    show hK _ _ (aW (I _ _ #[#[_,_,rfl],#[M,O,?_],u,k3]));unfold aX at y ⊢;rw[Ol,x,P6]
    simpa using y
  ·rintro Z L ⟨⟨N,s,rfl⟩,⟨U,z,H⟩,A,E⟩;rw[Nz,Ou]at H;show hK _ _ (st (k _ U L z H D.len E))
abbrev bN:Ss:=
 #v[.loop (.nm 6) (.rng2 #v[.bi .len #v[.v 5],.bi .len #v[.v 3]]) #v[.set 7 (.lst .nil),.loop (.nm 8) (.rng #v[.bi .len #v[.ix (.v 1) (.k 1)]]) #v[.set 9 (.lst .nil),.loop (.nm 10) (.rng #v[.v 6]) #v[.ex (.me .append (.v 9) #v[.cmp .isin (.tup #v[.tup #v[.ix (.ix (.v 3) (.v 10)) (.k 0),.tup .nil],.tup #v[.ix (.ix (.v 3) (.v 6)) (.k 0),.tup #v[.ix (.ix (.ix (.v 3) (.v 6)) (.k 1)) (.v 10)]],.tup #v[.v 4,.tup #v[.ix (.v 5) (.v 10),.v 8]]]) (.v 2)])],.ite (.cmp .notin (.c (.bl true)) (.v 9)) #v[.ex (.me .append (.v 7) #v[.v 8])] .nil],.ite (.cmp .eq (.v 7) (.lst .nil)) #v[.ret (.c .non)] .nil,.set 5 (.op .add (.v 5) (.tup #v[.ix (.v 7) (.own z4 2 #v[.v 0,.bi .len #v[.v 7]])]))],.ret (.v 5)]
abbrev bp (U:Ny (T×W))(u:Wd)(mk:NV)(i m:NF)(x y:NV):Oh:=(bj U (cV [((u.getD i (0,[])).1,[]),((u.getD m (0,[])).1,[(u.getD m (0,[])).2.getD i 0]),(mk,[x,y])])).isSome
def Cc {bl:Ny Oh}(h:S[l]?=ba (.lst (bl.map W.bl))):∃b,bK .notin (.bl true) (.ref l) S=ba (.bl b,S)/\(b=true->∀x∈bl,x=false):=by
 have d:(aR (.bl true)&&(bl.map W.bl).all aR)=true:=by
  (delta aR;revert QN N6)
  intro x a;obtain⟨z,_,rfl⟩:=NS.mp a;rfl
 show#[!(bl.map W.bl).any λz=>iU z (.bl true),?_,λc x a=>?_]
 ·simp only[bK,gX h,dF,DQ,pU,cQ,aG h,d,Vq,OJ]
 ·rw[QJ,Rm]at c;cases x with
  |false=>rfl
  |true=>show absurd rfl (c _ (NS.mpr #[true,a,rfl]))
def vn (G:Gen defs)(hg:Is defs ("_law_new_ways") 6 11 bN){a  q:NF}(hN:↥N=n)(hn3:n<=3)(hu:GoodW a n u)(hl:↥u<=900)(e:S[q]?=ba (.dic U))(hqr:q≠r)(hf:Fl S r)
  (k:∀w l,(w=.non\/∃c:Ny NV,w=.tup (am c)/\↥c=↥u/\(∀x∈c,0<=x/\x<n)/\∀j<↥u,∀i<j,bp U u mk i j (c.getD i 0) (c.getD j 0)=false)->Fl l r->Kp r S l->Q (w,l)) :
  wO (aJ (aq defs fuel (d+2)) "_law_new_ways" 6 [.ref r,.tup [m0,.tup N,b0],.ref q,aA u,.int mk,.tup []] S) Q:=by
 show au hg rfl rfl λQ' hR=>?_
 replace k:=λw l h1 h2 h3=>hR _ _ (k w l h1 h2 h3)
 clear hR;change wZ _ _ bN [ba (.ref r),ba (.tup [m0,.tup N,b0]),ba (.ref q),ba (aA u),ba (.int mk),ba (.tup (am [])),dx,dx,dx,dx,dx] S Q';generalize hR0:W.tup [m0,.tup N,b0]=R;have ul:(u.map aN).length=↥u:=Nz ..;have hqS:=bQ e;have hrS:=hf.lt;delta bN;nofun
 show eF 0 ↥u (λm Z l=>∃c a6 a7 A B f,Z=[ba (.ref r),ba R,ba (.ref q),ba (aA u),ba (.int mk),ba (.tup (am c)),a6,a7,A,B,f]/\↥c=m/\(∀x∈c,0<=x/\x<n)/\(∀j<m,∀i<j,bp U u mk i j (c.getD i 0) (c.getD j 0)=false)/\Fl l r/\Kp r S l) rfl rfl rfl ∅ ?_ ?_ ?_
 ·left;show az #[rfl,az ?_];rw[ul];show#[rfl,[],_,_,_,_,_,rfl,rfl,(λx hx=>nomatch hx),(λj hj=>∅),hf,.refl]
 ·rintro m Z S1 hm ⟨c,a6,a7,A,B,f,rfl,H,I,D,f1,V⟩ Q2 hn2 hr2;clear hK;rw[Rv];have E:m<↥u:=∅
  have e1:=V.get _ _ hqr e;have s1:=V.len;have lm:=hu.len m _ (ay (d:=(0,[])) E);left;show st ?_;left;nofun
  show b8 n (λx Z l=>(∃A B f,Z=[ba (.ref r),ba R,ba (.ref q),ba (aA u),ba (.int mk),ba (.tup (am c)),ba (.int m),ba (.ref ↥S1),A,B,f])/\(∃g:Ny NV,l[↥S1]?=ba (.lst (am g))/\↥g<=x/\(∀y∈g,0<=y/\y<n)/\∀y∈g,∀i<m,bp U u mk i m (c.getD i 0) y=false)/\l[q]?=ba (.dic U)/\Fl l r/\Kp r S l) rfl rfl ∅ ?_ ?_ ?_
  ·left;subst hR0;show ag #v[] rfl (az ?_)
   rw[hN];show#[rfl,#[_,_,_,rfl],#[[],af,NP _,(λy z=>nomatch z),λy z=>nomatch z],aB e1,f1.ka .push,V.trans .push]
  ·rintro x Z S2 hx ⟨⟨A,B,f,rfl⟩,⟨g,J,P,t,s⟩,q2,Y,k2⟩ Q3 C hr3;clear hK;have l2:=bQ J;left;show st ?_;left;nofun
   show b8 m (λi Z l=>(∃f,Z=[ba (.ref r),ba R,ba (.ref q),ba (aA u),ba (.int mk),ba (.tup (am c)),ba (.int m),ba (.ref ↥S1),ba (.int x),ba (.ref ↥S2),f])/\l[↥S2]?=ba (.lst (((NQ i).map λj=>bp U u mk j m (c.getD j 0) x).map W.bl))/\l[↥S1]?=ba (.lst (am g))/\l[q]?=ba (.dic U)/\Fl l r/\Kp r S l) rfl rfl ∅ #[rfl,#[_,rfl],af,aB J,aB q2,Y.ka .push,k2.trans .push] ?_ ?_
   ·rintro i Z S3 hi ⟨⟨f,rfl⟩,M,o,X,f3,k3⟩ Q4 hn4 _;clear hK;have hiu:i<↥u:=∅
    have him:i<(u.getD m (0,[])).2.length:=∅
    have hit:i<↥c:=∅
    left;show st ?_;left;show#[cN M,?_];show ag (NX i) (dL hiu) (ag #v[] rfl (ag (NX m) (dL E) (ag #v[] rfl (ag (NX m) (dL E) (ag #v[] rfl (ag  (NX i) (by rw[Od,NO,ay (d:=0) him];rfl) (ag  (NX i) (by rw[Od];unfold am;rw[NO,ay (d:=0) hit];rfl) ?_)))))))
    show ab (a:=(.bl (bp U u mk i m (c.getD i 0) x),S3)) ?_ ?_
    ·change bK .isin (aA [((u.getD i (0,[])).1,[]),((u.getD m (0,[])).1,[(u.getD m (0,[])).2.getD i 0]),(mk,[c.getD i 0,x])]) (.ref q) S3=_;simp only[bK,b7 X];rfl
    show kK M (by rw[Nz,Nz,N7];omega) (aW (hn4 _ _ #[#[_,rfl],?_,?_,?_,f3.own ∅,k3.late ∅]))
    ·rw[bg M,Pe,N3,N3];rfl
    ·rw[be ∅];show o
    ·rw[be ∅];show X
   ·rintro Z S3 ⟨⟨f,rfl⟩,M,o,X,f3,k3⟩;show hK _ _ ?_;clear hK K;nofun
    delta wS wT wE wA wV wG;obtain⟨b,eb,hb⟩:=Cc M;show ab eb ?_;delta wB;show ah (Q0:=Q3) (λhbt Q5 p _=>?_) (λ_ Q5 p _=>aW (p _ _ (hK _ _ (aW (C _ _ #[#[_,_,_,rfl],#[g,o,∅,t,s],X,f3,k3])))))
    show st ?_;left;show#[cN o,kK o (by unfold am;rw[Nz];omega) (aW (p _ _ (hK _ _ (aW (C _ _ #[#[_,_,_,rfl],#[g++[(x:NV)],?_,by rw[NE,Oq];omega,λy z=>?_,λy z i hi=>?_],?_,f3.own ∅,k3.late ∅])))))]
    ·rw[bg o];unfold am;rw[N3];rfl
    ·rcases Oa.mp z with h|h
     ·show t y h
     ·rw[NT.mp h];omega
    ·rcases Oa.mp z with h|h
     ·show s y h i hi
     ·rw[NT.mp h];show hb hbt _ (NS.mpr #[i,NU.mpr ∅,rfl])
    ·rw[be ∅];show X
  ·rintro Z S2 ⟨⟨A,B,f,rfl⟩,⟨g,J,P,t,s⟩,q2,Y,k2⟩;show hK _ _ ?_;clear hK K;rw[Od]at P;nofun
   delta wS wT wE wA wV wG;show ab (Gv (aB J) af) ?_;delta wB;show ah (Q0:=Q2) (λ_ Q5 _ hr5=>?_) (λhne Q5 p _=>aW (p _ _ (hK _ _ ?_)))
   ·show st ?_;left;show hr5 _ _ (hr2 _ _ (k _ _ (.inl rfl) (Y.ka .push) (k2.trans .push)))
   clear p hK;have hpos:0<↥g:=by
    cases g with
    |nil=>cases hne
    |cons _ _=>simp
   show st ?_;left;have L:=aB (u:=O.lst []) J;show kL L ?_;rw[show(am g).length=↥g from Nz ..]
   show aY  G.pick (Y.ka .push) ∅ ∅ λv S4 v0 v1 f4 k4=>?_
   have hv:v.toNat<↥g:=∅
   have e4:=k4.get _ _ (by have:=bQ J;omega) L
   show kJ  e4 v0 (by unfold am;rw[NO,NK hv];rfl) ?_
   show ab (cM (j8 (by rw[NE,show(am c).length=↥c from Nz ..];show _+1<=_;omega))) (aW (hn2 _ _ #[c++[g[v.toNat]],ba (.int m),ba (.ref ↥S1),A,B,f,?_,by rw[NE,H];rfl,λy z=>?_,λj hj i hi=>?_,f4,(k2.trans .push).trans k4]))
   ·rw[show am c++[W.int g[v.toNat]]=am (c++[g[v.toNat]]) by unfold am;rw[N3];rfl]
   ·rcases Oa.mp z with h|h
    ·show I y h
    ·rw[NT.mp h];show t _ (OE hv)
   ·have gl:∀j ,j<↥c->(c++[g[v.toNat]]).getD j 0=c.getD j 0:=λj hj=>by rw[NL,NL,Ow hj]
    rw[gl i ∅]
    by_cases ej:j=m
    ·subst ej;rw[show(c++[g[v.toNat]]).getD j 0=g[v.toNat] by rw[<- H,NL,Ox (NP _),Qh];rfl]
     show s _ (OE hv) i hi
    ·rw[gl j ∅]
     show D j ∅ i hi
 ·rintro Z S1 ⟨c,a6,a7,A,B,f,rfl,H,I,D,f1,V⟩;show hK _ _ (st ?_);left;show k _ _ (.inr #[c,rfl,∅,I,λj hj=>D j ∅]) f1 V
abbrev gK:Ss:=
 #v[.set 4 (.tup .nil),.loop (.nm 5) (.rng #v[.v 3]) #v[.set 6 (.own z4 2 #v[.v 0,.bi .len #v[.ix (.v 1) (.k 0)]]),.set 7 (.own "_law_new_ways" 6 #v[.v 0,.v 1,.v 2,.v 4,.v 6,.tup .nil]),.ite (.cmp .isnot (.v 7) (.c .non)) #v[.set 4 (.op .add (.v 4) (.tup #v[.tup #v[.v 6,.v 7]]))] .nil],.ret (.v 4)]
abbrev cp:Ss:=
 #v[.ret (.own "first_three" 2 #v[.own vr 1 #v[.v 0],.v 1])]
def aO {u:Wd}{h:Pt}{p:NF}(a:p<↥u):(u++[h]).getD p (0,[])=u.getD p (0,[]):=by
 rw[NL,NL,Ow a]
def cq {u:Wd}{h:Pt}:(u++[h]).getD ↥u (0,[])=h:=by
 rw[NL,Ox (NP _),Qh];rfl
abbrev Std (U:Ny (T×W))(u:Wd):Prop:=∀k<↥u,∀j<k,∀i<j,bT U u i j k=false
def Std.snoc (h:Std U u)(d:∀j<↥u,∀i<j,bp U u m i j (c.getD i 0) (c.getD j 0)=false):Std U (u++[(m,c)]):=by
 intro k hk j b i hi;rw[NE,Oq]at hk
 by_cases e:k=↥u
 ·subst e;have:=d j b i hi;unfold bT cO;rw[aO (Pw hi b),aO b,cq];show this
 ·have a:k<↥u:=∅
  have:=h k a j b i hi;unfold bT cO at this ⊢;rw[aO (Pw hi (Pw b a)),aO (Pw b a),aO a];show this
def qO (G:Gen defs)(hw:Is defs ("_law_new_ways") 6 11 bN)(hg:Is defs ("_law_world") 4 8 gK){h :Ny W}{a  q :NF}(hM:↥h=a)(ha1:0<a)(ha3:a<=3)(hN:↥N=n)(A:n<=3)(hm:many<=900)(e:S[q]?=ba (.dic U))(g:q≠r)(hf:Fl S r)
  (k:∀ u c,↥u<=many->GoodW a n u->Std U u->Fl c r->Kp r S c->Q (aA u,c)) :
  wO (aJ (aq defs fuel (d+3)) vk 4 [.ref r,.tup [.tup h,.tup N,b0],.ref q,.int many] S) Q:=by
 show au hg rfl rfl λQ' hR=>?_
 replace k:=λu c Y h2 h3 h4 h5=>hR _ _ (k u c Y h2 h3 h4 h5)
 generalize x:W.tup _=R;show st ?_;left;nofun
 show b8 _ (λi Z c=>∃u o p s,Z=[ba _,ba R,ba _,ba _,ba (aA u),o,p,s]/\↥u<=i/\GoodW a n u/\Std U u/\Fl c r/\Kp r S c) rfl rfl ∅ #[rfl,[],_,_,_,rfl,NP _,.nil,(λk hk=>by cases hk),hf,.refl] ?_ ?_
 ·rintro i Z S1 hi ⟨u,o,p,s,rfl,l,j,b,t,m⟩ H J _;have P:=m.get _ _ g e;show st ?_;left;subst x;show ag #v[] rfl (az ?_)
  rw[hM];show aY  G.pick t ∅ ∅ λv S2 v0 v1 X E=>?_
  have V:=E.get _ _ g P;show st ?_;left;show vn  G hw hN A j ∅ V g X λw S3 D I L=>?_
  nofun
  delta wS wT wE wV;rcases D with rfl|⟨M,rfl,B,C,y⟩
  ·show ab rfl ?_;show ah (Q0:=H) (λz=>by cases z) (λ_ O f _=>aW (f _ _ (hK _ _ (aW (J _ _ #[u,_,_,_,rfl,by show Rj ‹_›,j,b,I,(m.trans E).trans L])))))
  ·show ab rfl ?_;show ah (Q0:=H) (λ_ O f _=>?_) (λz=>by cases z)
   show st ?_;delta wS wE wA;show ab (cM (j8 (by rw[NE,Nz];show _+1<=_;omega))) (aW (f _ _ (hK _ _ (aW (J _ _ #[u++[(v,M)],ba (.int i),ba (.int v),ba (.tup (am M)),?_,?_,j.snoc #[v0,v1] B C,b.snoc y,I,(m.trans E).trans L])))))
   ·unfold aA;rw[N3];rfl
   ·rw[NE,Oq];omega
 ·rintro Z S1 ⟨u,o,p,s,rfl,l,j,b,t,m⟩;show hK _ _ (st ?_);show k u S1 l j b t m
def nr (h:20<fuel)(P:Parts defs)(A:Is defs ("part") 3 3 gJ)(hl:Is defs ("longer_orders") 2 4 bB)(e:Is defs ("barred_threes") 1 5 bW)(v:Is defs ("three_at") 4 6 bu)(f:Is defs ("first_three") 2 5 bX)(z:Is defs ("first_barred") 2 2 cp)
  {a:NF} (y:GoodB bs) (m:↥o=↥bs) (l:∀g∈b,GoodW a ↥bs g/\↥g=3) (c:↥b<=100) (B:GoodW a ↥bs u) (n:↥u<=1000)
  (k:∀w p,Ans (λi j k=>decide (cV (cO u i j k)∈(aX bs b).map cV)) ↥u w->Ka S p->Q (w,p)) :
  wO (aJ (aq defs fuel (d+5)) qs 2 [.tup [m0,.tup (NW aH o bs),.tup (b.map aA)],aA u] S) Q:=by
 show au z rfl rfl λr x=>?_
 change wZ _ _ cp [ba (.tup [m0,.tup (NW aH o bs),.tup (b.map aA)]),ba (aA u)] S r;delta cp;show st ?_;left;show nq (d:=d) h P A hl e y m l c λq U S1 s t _ C=>?_
 show oo (d:=d+2) v f B n s λw hw=>x _ _ (k w S1 ?_ C)
 show hw.congr λi j k _ _ _=>t.get _
def Cd {α:Type}{it:Ie}{r:Es}(L:Ny α)(f:α->W)(p:α->Oh)(g:α->W)(m:Fm->Prop)(s:α->Fm)(D:∀x Z S,m Z->mI tg (f x) Z S=ba (s x,S)/\m (s x))(J:dI b=true)(oc:og r=true)(hc:m (eM j Z))(hl:↥L<=1000000)(hi:jR M it Z S=ba (mi,S1))(B:Ka S S1)(t:∀i a,Ka S1 a->mi.at a i=ba (L.map f)[i]?)(H:mi.len S1=ba (L.map f).length)
  (d:∀x∈L,∀a,Ka S a->eB M b r (s x) a (λy _ o=>p x=true/\y=g x/\Ka a o) (λ_ o=>p x=false/\Ka a o))
  (k:∀a,Ka S a->Q (.ref ↥a,a++[.lst ((L.filter p).map g)])):Wp (aI M (.comp b tg it r j) Z S) Q:=by
 rw[Be];show#[_,hi,_,H,?_];show(dU (xs:=L.map f) (Q:=λq=>↥q.1<=sizeLine/\Q (.ref ↥q.2,q.2++[.lst q.1])) (λi n e a=>m e/\n=((L.take i).filter p).map g/\Ka S1 a) (λi n e a h=>t i a h.2.2) (λi w n e a hw h=>?_) (λn e a h=>?_) (L.map f).length 0 [] _ S1 ∅ #[hc,rfl,.refl]).mono λq I=>by simpa using I
 ·obtain⟨G,rfl,l⟩:=h;rw[NO,NB]at hw;obtain⟨x,u,rfl⟩:=hw;obtain⟨C,A⟩:=D x e a G;show#[_,C,?_];show(Gr oc (d x (N1 u) a (B.trans l))).mono λc hc=>#[λz=>(aU b J (hc.1 z)).mono λy v=>#[A,?_,l.trans v.2.2],λz=>#[A,?_,l.trans (hc.2 z).2]]
  ·rw[Ol,u,Rc,show(WT (ba x)).filter p=[x]from Tx v.1,N3,v.2.1];rfl
  ·rw[Ol,u,Rc,show(WT (ba x)).filter p=[]from Tz (by rw[(hc.2 z).1];show OG),Oz]
 ·obtain⟨_,rfl,l⟩:=h;dsimp only;rw[show(L.map f).length=↥L from Nz ..,Ou]
  show#[j8 ?_,k a (B.trans l)];rw[Nz];show N9 (PM _ _) hl
def vo {α:Type}{it:Ie}(L:Ny α)(f:α->W)(p:α->Oh)(g:α->W)(R:Fm)(r:dI c=true)(oc:og m=true)(hc:eM j Z=dx::dx::R)(hl:↥L<=1000000)(hi:jR M it Z S=ba (mi,S1))(q:Ka S S1)(n:∀i b,Ka S1 b->mi.at b i=ba (L.map f)[i]?)(o:mi.len S1=ba (L.map f).length)
  (d:∀x∈L,∀b,Ka S b->eB M c m (dx::ba (f x)::R) b (λy _ l=>p x=true/\y=g x/\Ka b l) (λ_ l=>p x=false/\Ka b l))
  (k:∀b,Ka S b->Q (.ref ↥b,b++[.lst ((L.filter p).map g)])):Wp (aI M (.comp c (.nm 1) it m j) Z S) Q:=
 Cd L f p g (λZ=>∃a,Z=dx::a::R) (λx=>dx::ba _::R) (λ_ _ _ h=>let ⟨_,e⟩:=h;e ▸ #[rfl,_,rfl]) r oc #[_,hc] hl hi q n o d k
def iM {α:Type}{d:Ny (NJ NF)}(L:Ny α)(f:α->W)(p:α->Oh)(g:α->W)(R:Fm)(u:dI e=true)(s:dI b=true)(oc:og l=true)(hc:eM d Z=dx::dx::R)(hl:↥L<=1000000)
  (o:wE M e Z S λq=>∃t,q.1=.ref t/\q.2[t]?=ba (.lst (L.map f))/\Ka S q.2)
  (c:∀x∈L,∀a,Ka S a->eB M b l (dx::ba (f x)::R) a (λy _ j=>p x=true/\y=g x/\Ka a j) (λ_ j=>p x=false/\Ka a j))
  (k:∀a,Ka S a->Q (.ref ↥a,a++[.lst ((L.filter p).map g)])):Wp (aI M (.comp b (.nm 1) (.seq e) l d) Z S) Q:=by
 obtain⟨w,S1,n,t,rfl,m,r⟩:=bR u o;show vo (mi:=.live t) L f p g R s oc hc hl (by simp only[jR,eS,n,aG m]) r (λi a h=>by simp only[MI.at,aG (h.get _ _ m)]) (by simp only[MI.len,aG m,OJ]) c k
def iN {α:Type}{d:Ny (NJ NF)}(L:Ny α)(f:α->W)(p:α->Oh)(g:α->W)(R:Fm)(o:dI e=true)(n:dI b=true)(oc:og i=true)(hc:eM d Z=dx::dx::R)(hl:↥L<=1000000)
  (l:wE M e Z S λq=>q.1=.tup (L.map f)/\Ka S q.2)
  (c:∀x∈L,∀a,Ka S a->eB M b i (dx::ba (f x)::R) a (λy _ h=>p x=true/\y=g x/\Ka a h) (λ_ h=>p x=false/\Ka a h))
  (k:∀a,Ka S a->Q (.ref ↥a,a++[.lst ((L.filter p).map g)])):Wp (aI M (.comp b (.nm 1) (.seq e) i d) Z S) Q:=by
 obtain⟨w,S1,j,rfl,m⟩:=bR o l;show vo (mi:=.its (L.map f)) L f p g R n oc hc hl (by revert jR eS j) m (λ_ _ _=>rfl) rfl c k
def sZ (n:NF):eX 0 n=(NQ n).map λi=>W.int (i:NF):=by
 show ON λi _=>?_
 rw[Rv]
def fR {h:Es}{d:Ny (NJ NF)}(n:NF)(p:NF->Oh)(g:NF->W)(R:Fm)(s:dI e=true)(r:dI b=true)(oc:og h=true)(hc:eM d Z=dx::dx::R)(hl:n<=1000000)
  (l:wE M e Z S λq=>q.1=.int n/\Ka S q.2)
  (c:∀x<n,∀a,Ka S a->eB M b h (dx::ba (.int x)::R) a (λy _ f=>p x=true/\y=g x/\Ka a f) (λ_ f=>p x=false/\Ka a f))
  (k:∀a,Ka S a->Q (.ref ↥a,a++[.lst (((NQ n).filter p).map g)])):Wp (aI M (.comp b (.nm 1) (.rng #v[e]) h d) Z S) Q:=by
 obtain⟨w,S1,j,rfl,o⟩:=bR s l;show vo (mi:=.its (eX 0 n)) (NQ n) (λi=>W.int (i:NF)) p g R r oc hc (by rw[N7];show hl) ?_ o (λi a _=>by rw[<- sZ];rfl) (by rw[<- sZ];rfl) (λx m=>c x (NU.mp m)) k
 revert jR de cR gD sd j;rw[Ob #[∅,∅]];rfl
def bc {α:Type}(L:Ny α):L.filter (λ_=>true)=L:=List.filter_eq_self.mpr λ_ _=>rfl
abbrev da (U:Ny (T×W))(u:Wd)(h:Pt)(p q:NF):Oh:=(bj U (cV [((u.getD p (0,[])).1,[]),((u.getD q (0,[])).1,[(u.getD q (0,[])).2.getD p 0]),(h.1,[h.2.getD p 0,h.2.getD q 0])])).isSome
def nv {h:Pt}{p q:NF}(b:p<q)(a:q<↥u):bT U (u++[h]) p q ↥u=da U u h p q:=by
 unfold bT da cO;rw[aO (Pw b a),aO a,cq]
def nw {u:Wd}{p s:NF}(h:p<s):(u.take s).getD p (0,[])=u.getD p (0,[]):=by
 rw[NL,NL,RH h]
abbrev cr (U:Ny (T×W))(v:Wd):Oh:=(NQ (↥v-2)).all λp=>!bT U v p (↥v-2) (↥v-1)
def yR {u:Wd}{h:Pt}{s:NF}(b:s<↥u):cr U (u.take (s+1)++[h])=(NQ s).all λp=>!da U u h p s:=by
 have hl:(u.take (s+1)).length=s+1:=by rw[Om];omega
 unfold cr;rw[NE,hl,Oq,show s+1+1-2=s by omega,show s+1+1-1=s+1 by omega,Qp,N6,N6]
 show UZ λp=>UZ λa=>?_
 have a:=NU.mp a;have e:=nv (U:=U) (u:=u.take (s+1)) (h:=h)   a ∅
 rw[hl]at e;rw[e];unfold da;rw[nw (by show Px ‹_›),nw (by show NP _)]
abbrev dz (n:NF)(a:Ny Pt):Ny Pt:=a.flatMap λh=>(NQ n).map λ(w:NF)=>(h.1,h.2++[(w:NV)])
abbrev db (U:Ny (T×W))(u:Wd)(n:NF)(m:NV):NF->Ny Pt
 |0=>[(m,[])]
 |s+1=>(dz n (db U u n m s)).filter λh=>cr U (u.take (s+1)++[h])
abbrev pg (U:Ny (T×W))(u:Wd)(a n:NF):Ny Pt:=(NQ a).flatMap λ(m:NF)=>db U u n (m:NV) ↥u
def bH {x:NV}{p:NF}(a:p<↥ws):(ws++[x]).getD p 0=ws.getD p 0:=by
 rw[NL,NL,Ow a]
def ny {p q:NF}(b:p<q)(a:q<↥ws):da U u (m,ws++[x]) p q=da U u (m,ws) p q:=by
 delta da;rw[bH (Pw b a),bH a]
def d3 :∀{s:NF}{h:Pt},s<=↥u->(h∈db U u n m s↔h.1=m/\↥h.2=s/\(∀w∈h.2,0<=w/\w<n)/\∀p q,p<q->q<s->da U u h p q=false)
 |0,h,_=>by
  rw[db,NT];constructor
  ·rintro rfl;show#[rfl,rfl,(λw hw=>nomatch hw),λp q _ h=>absurd h (P7 _)]
  ·rintro⟨d,b,_⟩;rw[<- d,<- PL b]
 |s+1,h,A=>by
  rw[db,OY,yR ∅,N6]
  unfold dz;rw[OX];constructor
  ·rintro⟨⟨y,o,hw⟩,l⟩;obtain⟨w,j,rfl⟩:=NS.mp hw;obtain⟨d,b,f,g⟩:=(d3 ∅).mp o
   have j:=NU.mp j;show#[d,by rw[NE,b];rfl,λx k=>?_,λp q a t=>?_]
   ·rcases Oa.mp k with z|z
    ·show f x z
    ·rw[NT.mp z];omega
   ·by_cases e:q=s
    ·subst e;have:=l p (NU.mpr a)
     simpa using this
    ·rw[ny a ∅];show g p q a ∅
  ·rintro⟨d,b,f,g⟩;obtain⟨v,ws⟩:=h;dsimp only at d b f g;have c:ws≠[]:=λz=>by rw[z]at b;cases b
   have hd:=Rf c;have k:=f _ (List.getLast_mem c);generalize ws.getLast c=x at hd k;have i:↥ws.dropLast=s:=by rw[QK];omega
   generalize ws.dropLast=vs at hd i;subst hd;show#[#[(v,vs),(d3 ∅).mpr #[d,i,λw hw=>f w (Oo _ hw),λp q a t=>?_],?_],λp r=>?_]
   ·rw[<- ny  a ∅];show g p q a ∅
   ·show NS.mpr #[x.toNat,NU.mpr ∅,by rw[show x.toNat=x by omega]]
   ·rw[g p s (NU.mp r) ∅];rfl
def fF :∀s:NF,(db U u n m s).length<=n^s
 |0=>NP _
 |s+1=>by
  show N9 (PM _ _) ?_;have:=fF (U:=U) (u:=u) (n:=n) (m:=m) s;have e:∀a ,(dz n a).length=↥a*n:=λa=>by
   unfold dz
   induction a with
   |nil=>simp
   |cons h a ih=>rw[Qo,NE,ih,Nz,N7,On,TK];show Vw _ _
  rw[e,Nat.pow_succ];show UD _ this
def ph (a:Ny Pt):(dz n a).length=↥a*n:=by
 unfold dz
 induction a with
 |nil=>simp
 |cons h a ih=>rw[Qo,NE,ih,Nz,N7,On,TK];omega
def nz {a :NF}{h:Pt}:h∈pg U u a n↔(0<=h.1/\h.1<a)/\↥h.2=↥u/\(∀w∈h.2,0<=w/\w<n)/\∀p q,p<q->q<↥u->da U u h p q=false:=by
 unfold pg;rw[OX];constructor
 ·rintro⟨m,e,d⟩;obtain⟨c,b⟩:=(d3 (NP _)).mp d;have:=NU.mp e;show#[∅,b]
 ·rintro⟨c,b⟩;show#[h.1.toNat,NU.mpr ∅,(d3 (NP _)).mpr #[∅,b]]
abbrev bn:Ss:=
 #v[.set 2 (.op .sub (.bi .len #v[.v 1]) (.k 1)),.loop (.nm 3) (.rng #v[.op .sub (.v 2) (.k 1)]) #v[.ite (.cmp .isin (.own "three_at" 4 #v[.v 1,.v 3,.op .sub (.v 2) (.k 1),.v 2]) (.v 0)) #v[.ret (.v 3)] .nil],.ret (.c .non)]
abbrev cD:Ss:=
 #v[.set 3 (.lst .nil),.loop (.nm 4) (.rng #v[.bi .len #v[.ix (.v 0) (.k 0)]]) #v[.set 5 (.lst #v[.tup #v[.v 4,.tup .nil]]),.loop (.nm 6) (.rng2 #v[.k 1,.op .add (.bi .len #v[.v 2]) (.k 1)]) #v[.set 5 (.comp (.v 1) (.nm 1) (.seq (.own "longer_wishes" 2 #v[.v 0,.v 5])) #v[.cmp .is (.own qk 2 #v[.v 2,.op .add (.sl (.v 4) .no (.yes (.v 3))) (.tup #v[.v 1])]) (.c .non)] [dx,dx,ba 1,ba 6,ba 2])],.ex (.me .extend (.v 3) #v[.v 5])],.ret (.v 3)]
abbrev cK:Ss:=
 #v[.set 2 (.lst .nil),.loop (.tp [3,4]) (.seq (.v 1)) #v[.ex (.me .extend (.v 2) #v[.comp (.tup #v[.v 2,.op .add (.v 3) (.tup #v[.v 1])]) (.nm 1) (.rng #v[.bi .len #v[.ix (.v 0) (.k 1)]]) .nil [dx,dx,ba 3,ba 4]])],.ret (.v 2)]
def jo {s:NF}(a:↥v=s+2):cr U v=true↔∀i<s,bT U v i s (s+1)=false:=by
 unfold cr;rw[a,show s+2-2=s from rfl,show s+2-1=s+1 from rfl,N6]
 show UZ λi=>?_
 rw[NU,QJ]
def yS {a  s:NF}(c:GoodW a n u):GoodW a n (u.take s):=by
 have b:∀k x,(u.take s)[k]?=ba x->u[k]?=ba x:=λk x e=>by
  rw[Vg]at e;split at e
  ·show e
  ·cases e
 show#[λk x e=>c.mark k x (b k x e),λk x e=>c.len k x (b k x e),λk x e=>c.way k x (b k x e)]
def gL (u:Is defs ("three_at") 4 6 bu)(y:Is defs ("first_bar") 2 4 bn){a  q:NF}(C:GoodW a n v)(E:2<=↥v)(hl:↥v<=1000)(e:S[q]?=ba (.dic U))(k:∀w,((w=.non/\cr U v=true)\/∃i:NV,w=.int i/\cr U v=false)->Q (w,S)) :
  wO (aJ (aq defs fuel (d+2)) qk 2 [.ref q,aA v] S) Q:=by
 show au y rfl rfl λm x=>?_
 replace k:=λw h=>x _ _ (k w h)
 change wZ _ _ bn [ba (.ref q),ba (aA v),dx,dx] S m;have D:(v.map aN).length=↥v:=Nz ..;obtain⟨s,l⟩:∃s,↥v=s+2:=#[↥v-2,∅]
 show st ?_;left;show az (ab kF ?_);rw[D,show ↥v-1=((s+1:NF):NV) by omega]
 nofun
 show b8 s (λi Z r=>(∃c,Z=[ba (.ref q),ba (aA v),ba (.int ((s+1:NF))),c])/\r=S/\∀b<i,bT U v b s (s+1)=false) rfl rfl ∅ ?_ ?_ ?_
 ·left;show ab kF #[?_,#[_,rfl],rfl,λb z=>by show absurd ‹_› (P7 _)]
  rw[show((s+1:NF))-1=(s:NV) by omega]
 ·rintro i Z S1 hi ⟨⟨c,rfl⟩,rfl,j⟩ o A B;left;nofun
  delta wS wT wE wA wV wG;show ab kF ?_;rw[show((s+1:NF))-1=(s:NV) by omega]
  show qN  u C ∅ (PX s) ∅ ?_
  show ab (show bK .isin (aA (cO v i s (s+1))) (.ref q) S1=ba (.bl (bT U v i s (s+1)),S1) by simp only[bK,b7 e];rfl) ?_
  delta wB;show ah (Q0:=o) (λh p _ g=>?_) (λh p f _=>aW (f _ _ (hK _ _ (aW (A _ _ #[#[_,rfl],rfl,λb z=>?_])))))
  ·show st ?_;left;show g _ _ (B _ _ (k _ (.inr #[i,rfl,?_])));rw[Rn];intro z;rw[(jo l).mp z i ∅]at h
   cases h
  ·by_cases t:b=i
   ·rw[t];show h
   ·show j b ∅
 ·rintro Z S1 ⟨⟨c,rfl⟩,rfl,j⟩;show hK _ _ (st ?_);left;show k _ (.inl #[rfl,(jo l).mpr j])
def lf (I:Is defs ("longer_wishes") 2 5 cK)(G:↥N=n)(M:n<=3)(e:S[l]?=ba (.lst (j.map aN)))(p:∀h∈j,↥h.2<=100)(P:↥j<=10000)
  (k:∀ q g,g[q]?=ba (.lst ((dz n j).map aN))->↥S<=q->Ka S g->Q (.ref q,g)) :
  wO (aJ (aq defs fuel (d+1)) "longer_wishes" 2 [.tup [m0,.tup N,b0],.ref l] S) Q:=by
 show au I rfl rfl λT H=>?_
 replace k:=λa b c e f=>H _ _ (k a b c e f)
 generalize y:W.tup _=R;have J:=bQ e;show st ?_;left;nofun
 show lE l _ (λi Z g=>(∃s t,Z=[ba R,ba (.ref l),ba (.ref ↥S),s,t])/\g[l]?=ba (.lst (j.map aN))/\g[↥S]?=ba (.lst ((dz n (j.take i)).map aN))/\Ka S g) rfl rfl #[rfl,#[dx,dx,rfl],aB e,af,.push] (λi Z g h=>h.2.1) ?_ ?_
 ·rintro i w Z S1 hw ⟨⟨s,t,rfl⟩,C,m,B⟩;rw[NO,NB]at hw;obtain⟨h,D,rfl⟩:=hw;have p:=p h (N1 D);show ab rfl ?_;intro U A _;show st ?_;left;show#[cN m,?_];show fR n (λ_=>true) (λw=>aN (h.1,h.2++[(w:NV)])) [ba (.int h.1),ba (.tup (am h.2))] rfl rfl rfl rfl (by show N9 ‹_› (OA rfl)) ?_ (λx V E r=>?_) λE r=>?_
  ·left;subst y;show ag #v[] rfl (az ?_)
   rw[G];show#[rfl,.refl]
  ·delta eB wC wE wA wV wG;show#[λ_=>ab (cM (j8 ?_)) #[rfl,?_,.refl],λz=>by cases z]
   ·rw[NE,show(am h.2).length=↥h.2 from Nz ..];show _+1<=_;omega
   ·simp[aN,am]
  ·rw[bc];have o:=aB (u:=O.lst ((NQ n).map λ(w:NF)=>aN (h.1,h.2++[(w:NV)]))) (r.get _ _ m)
   have L:(dz n (j.take i)).length<=30000:=by
    rw[ph,Om];show N9 (WG (show min i ↥j<=10000 by omega) M) #v[]
   show vm o af (by rw[Nz,Nz,N7];omega) (aW (A _ _ #[#[_,_,rfl],?_,?_,((B.trans r).trans .push).late (NP _)]))
   ·rw[be (by show O2 ‹_›)];show aB (r.get _ _ C)
   ·rw[bg o];unfold dz;rw[Ol,D];simp
 ·rintro Z S1 ⟨⟨s,t,rfl⟩,C,m,B⟩;rw[Nz,Ou]at m;show hK _ _ (st (k _ _ m (NP _) B))
def qP { s:NF}(a:n<=3)(b:s<=5):n^s<=243:=N9 (UQ a s) (UE  #v[] b)
def vp (a:n<=3)(b:↥u<=5):((NQ i).flatMap λ(m:NF)=>db U u n m ↥u).length<=i*243:=by
 induction i with
 |zero=>simp
 |succ i ih=>
  rw[Pe,P6,NE,Qo,Tv,Oz];have:=N9 (fF (U:=U) (u:=u)  (m:=i) _) (qP a b);omega
def oq (h3:Is defs ("three_at") 4 6 bu)(O:Is defs ("first_bar") 2 4 bn)(V:Is defs ("longer_wishes") 2 5 cK)(hg:Is defs ("wishes_over") 3 7 cD){a  q:NF}(hM:↥g=a)(hN:↥N=n)(ha3:a<=3)(o:n<=3)(hu:GoodW a n u)(D:↥u<=5)(e:S[q]?=ba (.dic U))
  (k:∀ l j,j[l]?=ba (.lst ((pg U u a n).map aN))->↥S<=l->Ka S j->Q (.ref l,j)) :
  wO (aJ (aq defs fuel (d+3)) "wishes_over" 3 [.tup [.tup g,.tup N,b0],.ref q,aA u] S) Q:=by
 show au hg rfl rfl λQ' hR=>?_
 replace k:=λa b c e f=>hR _ _ (k a b c e f)
 clear hR;change wZ _ _ cD [ba (.tup [.tup g,.tup N,b0]),ba (.ref q),ba (aA u),dx,dx,dx,dx] S Q';generalize A:W.tup [.tup g,.tup N,b0]=R;have hqS:=bQ e;have ul:(u.map aN).length=↥u:=Nz ..;delta cD;show st ?_;left;nofun
 show b8 a (λi Z j=>(∃L M p,Z=[ba R,ba (.ref q),ba (aA u),ba (.ref ↥S),L,M,p])/\j[↥S]?=ba (.lst (((NQ i).flatMap λ(m:NF)=>db U u n m ↥u).map aN))/\Ka S j) rfl rfl ∅ ?_ ?_ ?_
 ·left;subst A;show ag #v[] rfl (az ?_)
  rw[hM];show#[rfl,#[_,_,_,rfl],af,.push]
 ·rintro i Z S1 hi ⟨⟨L,M,p,rfl⟩,y,J⟩ Q2 C _;clear hK k;have hl1:=bQ y;left;show st ?_;left;nofun
  show eF 1 (↥u+1) (λm Z j=>∃t p,Z=[ba R,ba (.ref q),ba (aA u),ba (.ref ↥S),ba (.int i),ba (.ref t),p]/\j[t]?=ba (.lst ((db U u n i m).map aN))/\Ka S1 j) rfl rfl rfl ∅ ?_ ?_ ?_
  ·left;show#[rfl,az (ab fY ?_)];rw[ul];show#[rfl,↥S1,p,rfl,af,.push]
  ·rintro m Z S2 hm ⟨t,p,rfl,H,G⟩ Q3 o _;clear hK C;have hmu:m<↥u:=∅
   rw[show 1+m=((m+1):NV) by omega]
   have B:(db U u n i m).length<=243:=N9 (fF m) (qP ‹n<=3› ∅)
   have hll:(dz n (db U u n i m)).length<=729:=by rw[ph];show WG B ‹n<=3›
   left;show st ?_;left;show iM (dz n (db U u n i m)) aN (λh=>cr U (u.take (m+1)++[h])) aN [ba (.ref q),ba (.int (m+1)),ba (aA u)] rfl rfl rfl rfl (by show N9 ‹_› (OA rfl)) ?_ (λh I s Y=>?_) λs Y=>?_
   ·left;subst A;show lf  V hN ‹n<=3› H (λh I=>by have:=((d3 ∅).mp I).2.1;omega) ∅ λl S3 e3 _ k3=>#[l,rfl,e3,k3]
   ·have P:GoodW a n (u.take (m+1)++[h]):=by
     unfold dz at I;obtain⟨h0,X,hw⟩:=OX.mp I;obtain⟨w,E,rfl⟩:=NS.mp hw;obtain⟨g1,g2,g3,_⟩:=(d3 ∅).mp X
     have E:=NU.mp E;show(yS hu).snoc (by rw[g1];omega) (by rw[NE,g2,Om,Oq];omega) λx hx=>?_
     rcases Oa.mp hx with z|z
     ·show g3 x z
     ·rw[NT.mp z];omega
    have hvl:(u.take (m+1)++[h]).length=m+2:=by rw[NE,Om,Oq];omega
    delta eB wC wT wE wA wP wV wG wN;show ab (show t8 (aA u) dx (ba ((m+1:NF))) s=ba (.tup ((u.map aN).take (m+1)),s) by revert aA t8 fE) ?_
    dsimp only;have ev:(u.map aN).take (m+1)++[aN h]=(u.take (m+1)++[h]).map aN:=by rw[N3,Rh];rfl
    show ab (cM (j8 (by rw[ev,Nz];omega))) ?_
    dsimp only;rw[ev];show gL   h3 O P ∅ ∅ (Y.get _ _ (G.get _ _ (J.get _ _ e))) λw hw=>?_
    show ab (show bK .is w .non s=ba (.bl (cr U (u.take (m+1)++[h])),s) by rcases hw with⟨rfl,hb⟩|⟨i,rfl,hb⟩<;>rw[hb]<;>rfl) ?_
    delta wB;show#[λz=>#[z,rfl,.refl],λz=>#[z,.refl]]
   ·show aW (o _ _ #[_,_,rfl,af,(G.trans Y).trans .push])
  ·rintro Z S2 ⟨t,p,rfl,H,G⟩;rw[show((↥u:NV)+1-1).toNat=↥u by omega]at H
   show hK _ _ ?_;clear hK K;have r:=G.get _ _ y;have B:(db U u n i ↥u).length<=243:=N9 (fF _) (qP o D);have hfl:=vp (U:=U) (i:=i) o D;show st ?_;left;show#[cN r,vm r H (by rw[Nz,Nz];omega) (aW (C _ _ #[#[_,_,_,rfl],?_,(J.trans G).late (NP _)]))]
   rw[bg r,Pe,P6,N3];simp
 ·rintro Z S1 ⟨⟨L,M,p,rfl⟩,y,J⟩;rw[Od]at y;show hK _ _ (st (k _ _ y (NP _) J))
abbrev eI (U:Ny (T×W))(u:Wd)(s:NF)(h:Pt):Oh:=(NQ s).all λq=>(NQ q).all λp=>!da U u h p q
def dc {s:NF}{h:Pt}:eI U u s h=true↔∀q<s,∀p<q,da U u h p q=false:=by
 unfold eI;revert N6 NU QJ
def xx:∀p:Ny NF,W.ts (ac p)=ba (p.map λ(n:NF)=>T.int n)
 |[]=>rfl
 |n::p=>by
  show(match W.t _,W.ts (ac p)with
   |some y,ba a=>ba _
   |_,_=>dx)=_
  rw[xx p];rfl
def Ce (p:Ny NF):T.depths (p.map λ(n:NF)=>T.int n)=0:=by
 induction p with
 |nil=>rfl
 |cons n p ih=>revert OP T.depths ih;rfl
def IV {a:NF}(g:GoodB bs)(c:GoodW a ↥bs v)(hi:i<↥v)(l:j<↥v)(k:i≠j):0<=bh bs v i j/\bh bs v i j<(↥bs):=by
 unfold bh
 by_cases h:j<i
 ·rw[Ob h];have b:=ay (d:=(0,[])) hi;have hw:j<(v.getD i (0,[])).2.length:=by rw[c.len i _ b];show h
  show c.way i _ b _ (N1 (ay  hw))
 ·rw[Ot h];have b:=ay (d:=(0,[])) l;have hw:i<(v.getD j (0,[])).2.length:=by rw[c.len j _ b];omega
  obtain⟨e,f⟩:=c.way j _ b _ (N1 (ay  hw));show(g.at e f).2
def cx {a:NF}(n:GoodB bs)(l:GoodW a ↥bs v)(c:∀p∈ps,p<↥v)(g:ps.Nodup):GoodW a ↥bs (ae bs v ps):=by
 have b:∀k q,(ae bs v ps)[k]?=ba q->∃hk:k<↥ps,q=((v.getD _ _).1,(ps.take k).map λj=>bh bs v _ j):=λk q e=>by
  have hk:=by
   have:=(NZ.mp e).1;rw[aF]at this;show this
  show#[hk,?_];unfold ae at e;rw[NO,O8 hk,OJ,show ps.getD k 0=ps[k] by simp[hk]]at e
  show(OT e).symm
 show#[λk q e=>?_,λk q e=>?_,λk q e=>?_]
 ·obtain⟨hk,rfl⟩:=b k q e;have:=l.mark _ _ (ay (d:=(0,[])) (c _ (OE hk)));show this
 ·obtain⟨hk,rfl⟩:=b k q e;rw[Nz,Om];omega
 ·obtain⟨hk,rfl⟩:=b k q e;intro w hw;obtain⟨j,i,rfl⟩:=NS.mp hw;have f:=Ql i;show IV n l (c _ (OE hk)) (c _ f) λe=>?_
  obtain⟨m,o,h⟩:=Pk.mp i;rw[Om]at o;rw[P3]at h;have:=(PD g).mp (e.trans h.symm);omega
def IW (hd:Is defs ("_law_flow") 1 1 iK){a:Ny NV}(c:S[u]?=ba (.fro (a.map W.int)))(k:∀r b,Ka S b->Fl b r->Q (.ref r,b)) :
  wO (aJ (aq defs fuel (d+1)) "_law_flow" 1 [.ref u] S) Q:=by
 show au hd rfl rfl λi h=>?_
 show st ?_;left;have e:Bi.list.fn [.ref u] S=ba (.ref ↥S,S++[.lst (a.map W.int)]):=by
  have f:re S u=dx:=by unfold re;rw[c]
  have g:fq [.ref u] S=ba (.ref ↥S,S++[.lst (a.map W.int)]):=by
   unfold fq;dsimp only
   rw[f];dsimp only
   unfold fU;dsimp only
   rw[show cQ S (.ref u)=ba _ from EQ c]
  unfold Bi.fn n6;dsimp only
  rw[g]
 show ab e (h _ _ (k _ _ (Ka.push.trans .push) #[↥S,a,0,0,1,0,?_,?_,?_,#v[],#v[],#v[],#v[]]))
 ·show af
 ·show aB af
 ·simp
def kN {bt:NF->NF->Oh}(b:∀i<N,bt i i=false)(d:∀i j k,i<N->j<N->k<N->bt i j=true->bt j k=true->bt i k=true):∀n,n<N->∀j≤n,bt j (argBest bt n)=false
 |0,a,j,g=>by
  obtain rfl:j=0:=∅
  show b 0 a
 |n+1,a,j,g=>by
  have ih:=kN b d n ∅
  have h:=dy bt n;revert argBest;cases c:bt _ (argBest bt n)with
  |true=>
   rw[Ob rfl]
   by_cases e:j=n+1
   ·subst e;show b _ a
   ·cases f:bt j _ with
    |false=>rfl
    |true=>
     have:=d j _ _ (by show SJ ‹_› ‹_›) a ∅ f c
     rw[ih j ∅]at this;cases this
  |false=>
   by_cases e:j=n+1
   ·subst e;show c
   ·show ih j ∅
def nA (f:∀x∈ks,l8 x=true)(hl:fw ks=true)(g:ks≠[]):∃x,ks[iE ks]?=ba x/\x∈ks/\∀y∈ks,ie y x=ba false:=by
 have r:=List.length_pos_iff.mpr g;have d:iE ks<↥ks:=by
  unfold iE;have:=dy (zm ks) (↥ks-1);omega
 have a:∀i j hi b,ie _ _=ba (zm ks i j):=λi j hi b=>uF hl hi b
 have p:∀i<↥ks,zm ks i i=false:=λi hi=>by
  cases c:zm ks i i with
  |false=>rfl
  |true=>
   have e:=a i i hi hi;rw[c]at e;have:=uG _ _ (f _ (OE hi)) e;rw[e]at this;cases this
 have q:=kN   p (λi j k hi b hk m n=>by
  have h:=a i j hi b;have l:=a j k b hk;rw[m]at h;rw[n]at l;have:=Ai _ _ _ (f _ (OE hi)) (f _ (OE b)) h l;rw[a i k hi hk]at this;show OT this) (↥ks-1) ∅
 show#[ks[iE ks],NK d,OE d,λy o=>?_]
 obtain⟨j,b,rfl⟩:=Pk.mp o;rw[a j _ b d];congr 1;show q j ∅
def xy (c:l8 x=true)(a:ie x y=ba false)(b:ie y x=ba false):x=y:=by
 by_cases e:x=y
 ·show e
 ·rw[uH x y c e b]at a;cases a
def tf:∀{xs a as bs:Ny T},↥xs=↥a->di xs a=ba true->di (xs++as) (a++bs)=ba true
 |[],[],_,_,_,h=>by cases h
 |x::xs,y::a,as,bs,hl,h=>by
  dsimp only[V0,di]at h ⊢
  by_cases e:x=y
  ·rw[Ob e]at h ⊢;show tf (by simpa using hl) h
  ·rw[Ot e]at h ⊢;show h
 |[],_::_,_,_,hl,_=>by simp at hl
 |_::_,[],_,_,hl,_=>by simp at hl
def tj :∀xs:Ny T,di (xs++as) (xs++bs)=di as bs
 |[]=>rfl
 |x::xs=>by
  revert V0 di;show tj xs
def IX (a:l8 x=true)(h:di [x] [y]=ba true):ie x y=ba true:=by
 simp only[di]at h;split at h
 ·cases h
 ·show h
structure Ord (n:NF)(o:Ny NF):Prop where
 nd:o.Nodup
 lt:∀p∈o,p<n
abbrev Cg:NF->Ny (Ny NF)
 |0=>[[]]
 |k+1=>(Cg k).flatMap λo=>(NQ (k+1)).map λi=>o.take i++[k]++o.drop i
def qQ:∀{n:NF}{o:Ny NF},o∈Cg n↔Ord n o/\↥o=n
 |0,o=>by
  rw[Cg,NT];show#[λh=>by subst h;show#[#[.nil,λp c=>nomatch c],rfl],λh=>PL h.2]
 |n+1,o=>by
  rw[Cg,OX];constructor
  ·rintro⟨f,g,l⟩;obtain⟨i,hi,rfl⟩:=NS.mp l;obtain⟨⟨nd,lt⟩,hl⟩:=qQ.mp g;have c:(f.take i++[n]++f.drop i).Perm (n::f):=by
    have e:f.take i++[n]++f.drop i=f.take i++n::f.drop i:=by simp
    rw[e];show V3.trans ?_;rw[R9]
   show#[#[c.nodup_iff.mpr (Pp.mpr #[λz=>absurd (lt _ z) (Pf _),nd]),λp d=>?_],by rw[c.length_eq,On,hl]]
   rcases Of.mp (c.mem_iff.mp d)with z|z
   ·omega
   ·have:=lt p z;show Px ‹_›
  ·rintro⟨⟨nd,lt⟩,hl⟩;have m:n∈o:=by
    by_cases z:n∈o
    ·show z
    ·have g:=bY o (NQ n) nd λp c=>NU.mpr (by
      have:=lt p c;have:p≠n:=λe=>z (e▸c)
      omega)
     rw[N7]at g;omega
   obtain⟨a,b,rfl⟩:=List.append_of_mem m;have c:(a++n::b).Perm _:=V3;have j:=c.nodup_iff.mp nd;obtain⟨nn,k⟩:=Pp.mp j;show#[a++b,qQ.mpr #[#[k,λp d=>?_],?_],NS.mpr #[↥a,NU.mpr ?_,?_]]
   ·have g:=lt p (c.mem_iff.mpr (O1 _ d));have:p≠n:=λe=>nn (e▸d)
    omega
   ·have:=c.length_eq;rw[hl,On]at this;omega
   ·rw[NE,On]at hl;omega
   ·rw[Wh,Wg]<;>simp
abbrev tm (bs:Ny NV)(u:Wd)(o:Ny NF):Pt:=aC bs u o.dropLast (o.getLastD 0)
abbrev jp (ps:Ny Pt):Pt:=ps.getD (iE (ps.map kM)) (0,[])
abbrev Gy (bs:Ny NV)(u:Wd):NF->Ny (Ny NF)
 |0=>[[]]
 |k+1=>(dh ↥u (Gy bs u k)).filter λo=>decide (tm bs u o=jp ((dh ↥u (Gy bs u k)).map (tm bs u)))
abbrev Gz (bs:Ny NV)(u:Wd):NF->Wd
 |0=>[]
 |k+1=>Gz bs u k++[jp ((dh ↥u (Gy bs u k)).map (tm bs u))]
def Ch (p:Pt):l8 (kM p)=true:=by
 have:=lG [p]
 simpa [eO]using this
def yT (ps:Ny Pt):fw (ps.map kM)=true:=by
 unfold fw;rw[N6];intro x a;rw[N6];intro y b;obtain⟨p,_,rfl⟩:=NS.mp a;obtain⟨q,_,rfl⟩:=NS.mp b;show u9 _ _ (Bx p q)
def yU (h:ps≠[]):ps[iE (ps.map kM)]?=ba (jp ps)/\jp ps∈ps/\∀y∈ps,ie (kM y) (kM (jp ps))=ba false:=by
 obtain⟨x,b,g,c⟩:=nA  (λx d=>by obtain⟨p,_,rfl⟩:=NS.mp d;show Ch p) (yT ps) (by simpa using h)
 rw[NO,NB]at b;obtain⟨p,a,rfl⟩:=b;have e:jp ps=p:=by unfold jp;rw[NL,a];rfl
 rw[e];show#[a,N1 a,λy f=>c _ (NS.mpr #[y,f,rfl])]
def jq {os:Ny (Ny NF)}{d:Ny NF}:d∈dh n os↔∃o∈os,∃p,p<n/\p∉o/\d=o++[p]:=by
 unfold dh;rw[OX];constructor
 ·rintro⟨o,c,h⟩;obtain⟨p,e,rfl⟩:=NS.mp h;obtain⟨a,b⟩:=OY.mp e;show#[o,c,p,NU.mp a,OC b,rfl]
 ·rintro⟨o,c,p,a,b,rfl⟩;show#[o,c,NS.mpr #[p,OY.mpr #[NU.mpr a,OS b],rfl]]
def kb {p:NF}:tm bs u (o++[p])=aC bs u o p:=by
 unfold tm;rw[UF,List.getLastD_concat]
def gM {p:NF}:Ord n (o++[p])↔Ord n o/\p<n/\p∉o:=by
 constructor
 ·rintro⟨nd,lt⟩;rw[OZ]at nd;show#[#[nd.1,λq c=>lt q (Oo _ c)],lt p (by simp),λz=>nd.2.2 p z p (by simp) rfl]
 ·rintro⟨⟨nd,lt⟩,d,f⟩;show#[OZ.mpr #[nd,by simp,λa g b h e=>?_],λq c=>?_]
  ·rw[NT.mp h]at e;show f (e▸g)
  ·rcases Oa.mp c with z|z
   ·show lt q z
   ·rw[NT.mp z];show d
def Ci (h:Ord n o)(hl:↥o<n):∃p,p<n/\p∉o:=by
 by_cases z:∃p,p<n/\p∉o
 ·show z
 ·have b:=bY _ o QV λp c=>by
   by_cases a:p∈o
   ·show a
   ·show absurd #[p,NU.mp c,a] z
  rw[N7]at b;omega
def Lr (u v:Wd):(ie (cV u) (cV v)).isSome=true:=by
 have:=gY [u,v];unfold fw at this;rw[N6]at this;have:=this (cV u) (by simp)
 rw[N6]at this;show this _ (by simp)
def IY (h:ie (cV u) (cV v)≠ba true):ie (cV u) (cV v)=ba false:=by
 obtain⟨b,a⟩:=O3.mp (Lr u v);cases b with
 |false=>show a
 |true=>show absurd a h
structure GrOk (bs:Ny NV)(u:Wd)(k:NF):Prop where
 mem:∀o,o∈Gy bs u k↔Ord ↥u o/\↥o=k/\ae bs u o=Gz bs u k
 least:∀o,Ord ↥u o->↥o=k->ie (cV (ae bs u o)) (cV (Gz bs u k))=ba false
 ne:Gy bs u k≠[]
 len:(Gz bs u k).length=k
def xz {o:Ny NF}(h:↥o=k+1):∃b p,o=b++[p]/\↥b=k:=by
 have a:o≠[]:=λz=>by rw[z]at h;cases h
 show#[o.dropLast,o.getLast a,(Rf a).symm,by rw[QK];omega]
def tq :∀k,k<=↥u->GrOk bs u k
 |0,_=>by
  show#[λo=>?_,λo _ hl=>?_,VZ _ _,rfl]
  ·(delta Gy;rw[NT])
   show#[λh=>by subst h;show#[#[.nil,λp l=>nomatch l],rfl,rfl],λh=>PL h.2.1]
  ·rw[PL hl];rfl
 |k+1,hk=>by
  have ih:=tq (bs:=bs) (u:=u) k ∅
  have r:dh ↥u (Gy bs u k)≠[]:=by
   obtain⟨o,f⟩:=SQ _ ih.ne;obtain⟨b,a,_⟩:=(ih.mem o).mp f;obtain⟨p,l,c⟩:=Ci b ∅
   show Vh (jq.mpr #[o,f,p,l,c,rfl])
  obtain⟨_,b2,s⟩:=yU (ps:=(dh _ _).map _) (by simpa using r)
  have m:Gz bs u (k+1)=Gz bs u k++[jp _]:=rfl;have n:Gy bs u (k+1)=(dh _ _).filter λo=>decide _:=rfl
  generalize jp _=best at b2 s m n;show#[λo=>?_,λo w hl=>?_,?_,by rw[m,NE,ih.len];rfl]
  ·rw[n,OY,m];constructor
   ·rintro⟨b,a⟩;obtain⟨o,f,p,l,c,rfl⟩:=jq.mp b;obtain⟨d,g,i⟩:=(ih.mem o).mp f;have a:=OC a;rw[kb]at a;show#[gM.mpr #[d,l,c],by rw[NE,g];rfl,by rw[aP,i,a]]
   ·rintro⟨b,a,j⟩;obtain⟨o,p,rfl,hl⟩:=xz a;obtain⟨d,g,i⟩:=gM.mp b;rw[aP]at j;obtain⟨t,v⟩:=Uh j (by rw[aF,ih.len,hl])
    show#[jq.mpr #[o,(ih.mem o).mpr #[d,hl,t],p,g,i,rfl],OS ?_];rw[kb];show List.singleton_inj.mp v
  ·obtain⟨o,p,rfl,q⟩:=xz hl;have hl:=q;obtain⟨d,g,i⟩:=gM.mp w;show IY λz=>?_
   rw[aP,m]at z;have z:di _ _=ba _:=z;rw[N3,N3]at z
   by_cases e:ae bs u o=Gz bs u k
   ·rw[e,tj]at z;have:=IX (Ch _) z;rw[s _ (NS.mpr #[o++[p],jq.mpr #[o,(ih.mem o).mpr #[d,hl,e],p,g,i,rfl],kb])]at this;cases this
   ·have b:=uH _ _ (qM _) (λh=>e (eT h).symm) (ih.least o d hl)
    have a:=tf (as:=[best].map kM) (bs:=[aC bs u o p].map kM) (by rw[Nz,Nz,aF,ih.len,hl]) b
    have j:=qf _ _ (by rw[<- N3];show lG _) a
    rw[z]at j;cases j
  ·obtain⟨o,f,e⟩:=NS.mp b2;rw[n];show Vh (OY.mpr #[f,OS e])
abbrev nB (bs:Ny NV)(u:Wd):Wd:=Gz bs u ↥u
def nC :∃o,Ord ↥u o/\↥o=↥u/\ae bs u o=nB bs u:=by
 have h:=tq (bs:=bs)  ↥u (NP _);obtain⟨o,a⟩:=SQ _ h.ne;show#[o,(h.mem o).mp a]
def fG (hi:i<↥o):(ae bs u o).getD i (0,[])=((u.getD (o.getD i 0) (0,[])).1,(o.take i).map λj=>bh bs u (o.getD i 0) j):=by
 unfold ae;rw[NL,NO,O8 hi];rfl
def tt (hi:i<↥o)(a:j<i):((ae bs u o).getD i (0,[])).2.getD j 0=bh bs u (o.getD i 0) (o.getD j 0):=by
 rw[fG hi];rw[NL,NO,RH a,ay  (show j<↥o by show Pw ‹_› ‹_›)];rfl
def Cj {a:NF}(p:GoodB bs)(l:GoodW a ↥bs u)(f:Ord ↥u o)(hi:i<↥o)(g:j<↥o)(c:i≠j):bh bs (ae bs u o) i j=bh bs u (o.getD i 0) (o.getD j 0):=by
 have m:=ay (d:=0) hi;have q:=f.lt _ (N1 m);have ne:o.getD i 0≠o.getD j 0:=λe=>by
  have n:o[i]=o.getD i 0:=by simp[hi]
  have b:o[j]=o.getD j 0:=by simp[g]
  show c ((PD f.nd).mp (by rw[n,b,e]))
 by_cases h:j<i
 ·have:bh bs (ae bs u o) i j=((ae bs u o).getD i (0,[])).2.getD j 0:=by unfold bh;rw[Ob h]
  rw[this,tt hi h]
 ·have:bh bs (ae bs u o) i j=bs.getD (((ae bs u o).getD j (0,[])).2.getD i 0).toNat 0:=by unfold bh;rw[Ot h]
  rw[this,tt g ∅]
  generalize o.getD i 0=x at *
  generalize o.getD j 0=y at *
  unfold bh
  by_cases b:x<y
  ·rw[Ob b,Ot ∅]
  ·rw[Ot b,Ob ∅]
   have k:=ay (d:=(0,[])) q;have hw:y<(u.getD x (0,[])).2.length:=by rw[l.len x _ k];omega
   obtain⟨r,s⟩:=l.way x _ k _ (N1 (ay (d:=0) hw));have:=p.inv ((u.getD x (0,[])).2.getD y 0).toNat ∅
   rw[this];omega
def bO {a:NF}{ p:Ny NF}(t:GoodB bs)(y:GoodW a ↥bs u)(s:Ord ↥u o)(d:Ord ↥o p):ae bs (ae bs u o) p=ae bs u (p.map λi=>o.getD i 0):=by
 show PV (by rw[aF,aF,Nz]) λk b q=>?_
 rw[aF]at b;have g:=fG (bs:=bs) (u:=ae bs u o)  b;have h:=fG (bs:=bs) (u:=u) (o:=p.map λi=>o.getD i 0)  (by rw[Nz];show b)
 have hk:p.getD k 0<↥o:=d.lt _ (N1 (ay  b));have n:(p.map λi=>o.getD i 0).getD k 0=o.getD (p.getD k 0) 0:=by
  rw[NL,NO,ay  b];rfl
 rw[n]at h;rw[fG hk]at g;have f:∀(v:Wd) l,v[k]=v.getD k (0,[]):=λv l=>by simp[l]
 rw[f _ (by rw[aF];show b),f _ q,g,h]
 congr 1;rw[<- Rh,OL];show ON λj w=>?_
 obtain⟨m,x,rfl⟩:=Pk.mp w;rw[Om]at x;rw[P3];have c:p[m]=p.getD m 0:=by simp[show m<↥p by omega]
 rw[c];show Cj t y s hk (d.lt _ (N1 (ay  (show m<↥p by omega)))) λe=>?_
 have r:p[k]=p.getD k 0:=by simp[b]
 have:=(PD d.nd).mp (r.trans (e.trans c.symm));omega
def dC (h:Ord n o)(hl:↥o=n){p:NF}(b:p<n):p∈o:=by
 by_cases z:p∈o
 ·show z
 ·have:=(gM   ).mpr #[h,b,z];have a:=bY _ _ this.nd λq c=>NU.mpr (this.lt q c)
  rw[NE,N7,Oq]at a;omega
def tz { p:Ny NF}(h:Ord n o)(c:Ord ↥o p):Ord n (p.map λi=>o.getD i 0):=by
 have g:∀i,i<↥o->o[i]?=ba (o.getD i 0):=λi hi=>ay hi
 show#[?_,λq s=>?_]
 ·rw[Qw,P4];show c.nd.imp_of_mem λ{a b} m r d e=>d ?_
  have k:=c.lt a m;have l:=c.lt b r;have f:o[a]=o.getD a 0:=by simp[k]
  have j:o[b]=o.getD b 0:=by simp[l]
  show(PD h.nd).mp (by rw[f,j,e])
 ·obtain⟨i,hi,rfl⟩:=NS.mp s;show h.lt _ (N1 (g i (c.lt i hi)))
def nD {a:NF}(n:GoodB bs)(r:GoodW a ↥bs u)(b:Ord ↥u o)(hl:↥o=↥u):nB bs (ae bs u o)=nB bs u:=by
 have l:(ae bs u o).length=↥u:=by rw[aF,hl]
 obtain⟨p,k,p2,C⟩:=nC (bs:=bs) (u:=ae bs u o);obtain⟨q,g,D,E⟩:=nC (bs:=bs) (u:=u);rw[l]at k p2;have z:=λo c d=>(tq (bs:=bs) (u:=u) _ (NP _)).least o c d
 have A:=λB c d=>(tq (bs:=bs) (u:=ae bs u o) _ (NP _)).least B c d
 show eT (xy (qM _) ?_ ?_)
 ·rw[<- C,bO n r b (by rw[hl];show k)]
  show z _ (tz b (by rw[hl];show k)) (by rw[Nz,p2])
 ·have e:q=(q.map λx=>o.idxOf x).map λi=>o.getD i 0:=by
   rw[OL]
   conv=>lhs;rw[<- Xu q]
   show ON λx f=>?_
   have v:=dC b hl (g.lt x f);have h:=Pb v;change x=o.getD (o.idxOf x) 0;rw[NL,NK h,RW];rfl
  have m:Ord ↥o (q.map λx=>o.idxOf x):=by
   show#[?_,λi hi=>?_]
   ·rw[Qw,P4];show g.nd.imp_of_mem λ{x y} f w j e=>j ?_
    have c:=Pb (dC b hl (g.lt x f));have d:=Pb (dC b hl (g.lt y w));have s:=RW c;have t:=RW d;rw[<- s,<- t];congr 1
   ·obtain⟨x,f,rfl⟩:=NS.mp hi;show Pb (dC b hl (g.lt x f))
  rw[<- E,e,<- bO n r b m];show A _ (by rw[l,<- hl];show m) (by rw[Nz,l,D])
def fH (h:x∈gf n):0<=x/\x<n:=by
 obtain⟨k,hk,rfl⟩:=NS.mp h;have:=NU.mp hk;omega
def nE {a :NF}(h:u∈sL a n):GoodW a n u/\↥u=3:=by
 unfold sL at h;simp only[OX,NS]at h;obtain⟨m0,e,k,f,l,g,m,b,w2,c,w3,d,rfl⟩:=h;show#[?_,rfl];have i:GoodW a n ([]++[(m0,[])]):=GoodW.nil.snoc (fH e) rfl (λw hw=>nomatch hw)
 have j:=i.snoc (fH f) rfl (λw hw=>by rw[NT.mp hw];show fH b)
 show j.snoc (fH g) rfl (λw hw=>by
  simp only[Of,OH,PJ]at hw;rcases hw with rfl|rfl
  ·show fH c
  ·show fH d)
def po {a:NF}(c:GoodB bs)(h:g∈aZ a bs):GoodW a ↥bs g/\↥g=3:=by
 unfold aZ at h;rw[RV]at h;obtain⟨u,k,rfl⟩:=NS.mp h;obtain⟨b,o⟩:=nE k;unfold dJ;have f:iE ((aw.map (ae bs u)).map cV)<(aw.map (ae bs u)).length:=by
  unfold iE;show SJ (dy _ _) ?_;rw[Nz,Nz];decide
 have:=N1 (ay (d:=[]) f);obtain⟨t,j,e⟩:=NS.mp this;rw[<- e];have tk:∀t∈aw,↥t=3/\t.Nodup/\∀p∈t,p<3:=by decide
 obtain⟨l,m,n⟩:=tk t j;show#[cx c b (λp i=>by have:=n p i;omega) m,by rw[aF];show l]
def cy :t∈aw↔Ord 3 t/\↥t=3:=by
 constructor
 ·intro h;have:∀t∈aw,t.Nodup/\(∀p∈t,p<3)/\↥t=3:=by decide
  obtain⟨a,b,c⟩:=this t h;show#[#[a,b],c]
 ·intro h;have a:=qQ.mpr h;have:∀t∈Cg 3,t∈aw:=by decide
  show this t a
def vt :∃t∈aw,dJ bs u=ae bs u t/\∀s∈aw,ie (cV (ae bs u s)) (cV (dJ bs u))=ba false:=by
 obtain⟨x,a,h,c⟩:=nA (ks:=(aw.map (ae bs u)).map cV) (λx g=>by obtain⟨p,_,rfl⟩:=NS.mp g;show qM p) (gY _) (by(delta aw;simp))
 rw[NO,NB]at a;obtain⟨v,b,rfl⟩:=a;have e:dJ bs u=v:=by unfold dJ;rw[NL,b];rfl
 rw[e];obtain⟨t,f,rfl⟩:=NS.mp (N1 b);show#[t,f,rfl,λs d=>c _ (NS.mpr #[_,NS.mpr #[s,d,rfl],rfl])]
def hW (h:↥u=3):dJ bs u=nB bs u:=by
 obtain⟨t,a,e,i⟩:=vt;obtain⟨o,d,f,g⟩:=nC;have hl:∀t∈aw,ie (cV (ae bs u t)) (cV (nB bs u))=ba false:=λt a=>by
  obtain⟨b,c⟩:=cy.mp a;rw[<- h]at b c;show(tq   ↥u (NP _)).least t b c
 show eT (xy (qM _) ?_ ?_)
 ·rw[e];show hl t a
 ·rw[<- g];rw[h]at d f;show i o (cy.mpr #[d,f])
def IZ {a:NF}(l:GoodB bs)(m:∀g∈j,g∈aZ a bs)(hw:GoodW a ↥bs w)(q:↥w=3):dJ bs w∈j↔w∈aX bs j:=by
 unfold aX;rw[OX];have p:∀u t,GoodW a _ u->↥u=3->t∈aw->dJ bs (ae bs u t)=dJ bs u:=λu t n hl b=>by
  obtain⟨o,f⟩:=cy.mp b;rw[hW hl,hW (by rw[aF,f]),nD l n (by rw[hl];show o) (by rw[f,hl])]
 constructor
 ·intro h;obtain⟨t,b,e,_⟩:=vt;obtain⟨o,f⟩:=cy.mp b;have inv:∀t∈aw,∃s∈aw,(s.map λi=>t.getD i 0)=[0,1,2]:=by decide
  obtain⟨s,d,es⟩:=inv t b;show#[_,h,NS.mpr #[s,d,?_]];have:=bO  l hw (by rw[q];show o) (by rw[f];show(cy.mp d).1)
  rw[e,this,es];have z:[0,1,2]=NQ ↥w:=by rw[q];rfl
  rw[z];have self:∀k,k<=↥w->ae bs w (NQ k)=w.take k:=λk=>by
   induction k with
   |zero=>intro _;simp[ae]
   |succ k ih=>
    intro hk;rw[Pe,aP,ih ∅,j6 hw ∅,Ol,ay  ∅];rfl
  rw[self _ (NP _),Ou]
 ·rintro⟨g,r,h⟩;obtain⟨t,b,rfl⟩:=NS.mp h;have c:=m g r;obtain⟨x,v⟩:=po l c;rw[p g t x v b];unfold aZ at c;rw[RV]at c;obtain⟨u,n,e⟩:=NS.mp c;obtain⟨y,A⟩:=nE n;obtain⟨s,d,es,_⟩:=vt  (u:=u);have:dJ bs g=g:=by
   rw[<- e]
   conv=>lhs;rw[es]
   rw[p u s y A d]
  rw[this];show r
abbrev qR:Ss:=
 #v[.ret (.ix (.ix (.ix (.v 0) (.k 1)) (.v 1)) (.k 1))]
abbrev nF:Ss:=
 #v[.set 5 (.comp (.own qk 2 #v[.v 2,.own "with_both" 5 #v[.v 6,.v 3,.v 4,.v 5,.v 1]]) (.nm 1) (.rng #v[.bi .len #v[.ix (.v 0) (.k 1)]]) .nil [dx,dx,ba 1,ba 2,ba 3,ba 4,ba 0]),.ret (.bi .tuple #v[.op .add (.v 5) (.lst #v[.own "same_bar" 2 #v[.v 3,.v 4]])])]
abbrev gN:Ss:=
 #v[.ret (.op .add (.v 1) (.tup #v[.v 2,.tup #v[.ix (.v 3) (.k 0),.op .add (.ix (.v 3) (.k 1)) (.tup #v[.own "back" 2 #v[.v 0,.v 4]])]]))]
abbrev eJ:Ss:=
 #v[.ite (.cmp .ne (.ix (.v 0) (.k 0)) (.ix (.v 1) (.k 0))) #v[.ret (.neg (.k 1))] .nil,.set 2 (.comp (.v 1) (.nm 1) (.rng #v[.bi .len #v[.ix (.v 0) (.k 1)]]) #v[.cmp .ne (.ix (.ix (.v 2) (.k 1)) (.v 1)) (.ix (.ix (.v 3) (.k 1)) (.v 1))] [dx,dx,ba 0,ba 1]),.ret (.ite (.v 2) (.ix (.v 2) (.k 0)) (.c .non))]
abbrev cz (P:NF->Oh)(s:NF):W:=match (NQ s).find? P with
 |some i=>.int (i:NV)
 |none=>.non
def vw {P:NF->Oh}{s:NF}(h:∀i<s,P i=false):cz P s=.non:=by
 unfold cz;have:(NQ s).find? P=dx:=Qf.mpr λi hi=>by rw[h i (NU.mp hi)];show OG
 rw[this]
def nG {P:NF->Oh}:∀{s i:NF},i<s->P i=true->(∀j<i,P j=false)->(NQ s).find? P=ba i
 |s+1,i,hi,b,a=>by
  rw[Pe,List.find?_append]
  by_cases e:i=s
  ·subst e;have:(NQ i).find? P=dx:=Qf.mpr λj c=>by rw[a j (NU.mp c)];show OG
   rw[this];simp[b]
  ·rw[nG ∅ b a];rfl
def vx {P:NF->Oh}{s :NF}(hi:i<s)(b:P i=true)(a:∀j<i,P j=false):cz P s=.int i:=by
 unfold cz;rw[nG hi b a]
def vy {P:NF->Oh}{s:NF}:(((NQ s).filter P).map (λ(i:NF)=>W.int i)++[.non])[0]?=ba (cz P s):=by
 unfold cz;rw[<- List.head?_filter];cases(NQ s).filter P<;>rfl
def kO (P:NF->Oh)(s:NF):cz P s=.non\/∃i:NV,cz P s=.int i:=by
 unfold cz;cases(NQ s).find? P with
 |none=>show .inl rfl
 |some i=>show .inr #[_,rfl]
abbrev dP (bs:Ny NV)(u:Wd)(one other:Pt)(n:NF):Wd:=u++[one]++[(other.1,other.2++[bs.getD n 0])]
abbrev kP (one other:Pt):W:=if one.1=other.1 then cz (λp=>!(one.2.getD p 0==other.2.getD p 0)) ↥one.2 else .int (-1)
abbrev fZ (P:Wd->NF->Oh)(bs:Ny NV)(u:Wd)(one other:Pt):Ny W:=(NQ ↥bs).map (λn=>cz (P (dP bs u one other n)) ↥u)++[kP one other]
def vz (one other:Pt):kP one other=.non\/∃i:NV,kP one other=.int i:=by
 unfold kP;split
 ·show kO _ _
 ·show .inr #[_,rfl]
structure GoodP (a n k:NF)(p:Pt):Prop where
 mark:0<=p.1/\p.1<a
 len:↥p.2=k
 way:∀w∈p.2,0<=w/\w<(n:NV)
def yV {a:NF}(h:GoodB bs)(j:GoodW a ↥bs u)(c:GoodP a ↥bs ↥u one)(d:GoodP a ↥bs ↥u other)(i:n<↥bs):GoodW a ↥bs (dP bs u one other n)/\(dP bs u one other n).length=↥u+2:=by
 show#[(j.snoc   c.mark c.len c.way).snoc d.mark ?_ λw hw=>?_,?_]
 ·rw[NE,NE,d.len];rfl
 ·rcases Oa.mp hw with z|z
  ·show d.way w z
  ·rw[NT.mp z];obtain⟨b,e,f,g⟩:=h.rng n i;rw[getD_some e];show#[f,g]
 ·unfold dP;rw[NE,NE];rfl
def tB (u:Is defs ("three_at") 4 6 bu)(x:Is defs ("first_bar") 2 4 bn){a  q s:NF}(B:GoodW a n v)(D:↥v=s+2)(hl:↥v<=1000)(e:S[q]?=ba (.dic U))(k:Q (cz (λp=>bT U v p s (s+1)) s,S)) :
  wO (aJ (aq defs fuel (d+2)) qk 2 [.ref q,aA v] S) Q:=by
 show au x rfl rfl λl w=>?_
 replace k:=w _ _ k;change wZ _ _ bn [ba (.ref q),ba (aA v),dx,dx] S l;have C:(v.map aN).length=↥v:=Nz ..;show st ?_;left;show az (ab kF ?_);rw[C,show ↥v-1=((s+1:NF):NV) by omega]
 nofun
 show b8 s (λi Z r=>(∃f,Z=[ba (.ref q),ba (aA v),ba (.int ((s+1:NF))),f])/\r=S/\∀b<i,bT U v b s (s+1)=false) rfl rfl ∅ ?_ ?_ ?_
 ·left;show ab kF #[?_,#[_,rfl],rfl,λb z=>by show absurd ‹_› (P7 _)]
  rw[show((s+1:NF))-1=(s:NV) by omega]
 ·rintro i Z S1 hi ⟨⟨f,rfl⟩,rfl,c⟩ m y A;left;nofun
  delta wS wT wE wA wV wG;show ab kF ?_;rw[show((s+1:NF))-1=(s:NV) by omega]
  show qN  u B ∅ (PX s) ∅ ?_
  show ab (show bK .isin (aA (cO v i s (s+1))) (.ref q) S1=ba (.bl (bT U v i s (s+1)),S1) by simp only[bK,b7 e];rfl) ?_
  delta wB;show ah (Q0:=m) (λh o _ j=>?_) (λh o g _=>aW (g _ _ (hK _ _ (aW (y _ _ #[#[_,rfl],rfl,λb z=>?_])))))
  ·show st ?_;left;rw[vx (P:=λp=>bT U v p s (s+1)) ∅ h c]at k
   show j _ _ (A _ _ k)
  ·by_cases t:b=i
   ·rw[t];show h
   ·show c b ∅
 ·rintro Z S1 ⟨⟨f,rfl⟩,rfl,c⟩;show hK _ _ (st ?_);left;rw[vw  λi hi=>c i ∅]at k
  show k
def Ja (f:Is defs ("back") 2 2 qR){a:Ny Oc}{n:NF}(h:↥a=↥bs)(g:n<↥bs)(k:Q (.int (bs.getD n 0),S)) :
  wO (aJ (aq defs fuel (d+1)) "back" 2 [.tup [m0,.tup (NW aH a bs),b0],.int n] S) Q:=by
 show au f rfl rfl λb c=>?_
 replace k:=c _ _ k;change wZ _ _ _ [ba _,ba _] S b;have e:=ay (d:=0) g;show st ?_;left;show ag #v[] rfl (ag (NX n) (by rw[Od];show mY (NK ∅) e) (ag #v[] rfl k))
def tD (a:Is defs ("back") 2 2 qR)(h:Is defs ("with_both") 5 5 gN)(b:↥c=↥bs)(i:n<↥bs)(l:↥u<=900)(j:↥other.2<=900)(k:Q (aA (dP bs u one other n),S)) :
  wO (aJ (aq defs fuel (d+2)) "with_both" 5 [.tup [m0,.tup (NW aH c bs),b0],aA u,aN one,aN other,.int n] S) Q:=by
 show au h rfl rfl λe g=>?_
 replace k:=g _ _ k;change wZ _ _ _ [ba _,ba _,ba _,ba _,ba _] S e;show st ?_;left;show ag #v[] rfl (ag #v[] rfl ?_)
 show Ja  a b i ?_;show ab (cM (j8 ?_)) ?_
 ·rw[NE,Nz];show _+1<=_;omega
 have f:u.map aN++[aN one,.tup [.int other.1,.tup (other.2.map W.int++[.int (bs.getD n 0)])]]=(dP bs u one other n).map aN:=by
  unfold dP;simp[aN]
 show ab (cM (j8 ?_)) ?_
 ·rw[NE,Nz];show _+2<=_;omega
 rw[f];show k
def vA (t:Is defs ("same_bar") 2 3 eJ)(h:↥other.2=↥one.2)(hl:↥one.2<=900)(k:∀f,Ka S f->Q (kP one other,f)) :
  wO (aJ (aq defs fuel (d+1)) "same_bar" 2 [aN one,aN other] S) Q:=by
 show au t rfl rfl λl n=>?_
 replace k:=λf a=>n _ _ (k f a)
 clear n;change wZ _ _ eJ [ba (aN one),ba (aN other),dx] S l;have q:∀(p:Pt) i,i<↥p.2->(p.2.map W.int)[(i:NV).toNat]?=ba (.int (p.2.getD i 0)):=λp i hi=>by
  rw[Od,NO,ay  hi];rfl
 delta eJ;nofun
 delta wS wT wE wV wG;show ag #v[] rfl (ag #v[] rfl (ab sE ?_))
 delta wB;unfold kP at k;show ah (Q0:=l) (λb r _ u=>?_) (λb r o _=>aW (o _ _ (hK _ _ ?_)))
 ·have b:one.1≠other.1:=λz=>by rw[z]at b;simp at b
  show st ?_;delta wS;rw[Ot b]at k;show u _ _ (k S .refl)
 clear hK K o;have b:one.1=other.1:=by
  by_cases z:one.1=other.1
  ·show z
  ·have:(!(one.1==other.1))=true:=by simp[z]
   rw[this]at b;cases b
 rw[Ob b]at k;show st ?_;left;show fR ↥one.2 (λp=>!(one.2.getD p 0==other.2.getD p 0)) (λi=>W.int i) [ba (aN one),ba (aN other)] rfl rfl rfl rfl (by show N9 ‹_› (OA rfl)) ?_ (λi hi c j=>?_) λc j=>?_
 ·left;show ag #v[] rfl (az ?_)
  rw[Nz];show#[rfl,.refl]
 ·delta eB wC wT wE wV wG;show ag #v[] rfl (ag (NX i) (q one i hi) (ag #v[] rfl (ag (NX i) (q other i ∅) (ab sE ?_))))
  delta wB;show#[λz=>#[z,rfl,.refl],λz=>#[z,.refl]]
 ·have g:=vy (P:=λp=>!(one.2.getD p 0==other.2.getD p 0)) (s:=↥one.2)
  show st ?_;delta wS wE wT wV wG;cases m:((NQ ↥one.2).filter λp=>!(one.2.getD p 0==other.2.getD p 0))with
  |nil=>
   rw[m]at g;show ab (show fm (c++[O.lst []]) (.ref ↥c)=ba false by simp only[fm,aG af];rfl) #[λz=>(by cases z),λ_=>?_]
   have e:=(OT g).symm;rw[e]at k;show k _ (j.trans .push)
  |cons x L=>
   rw[m]at g;show ab (show fm (c++[O.lst ((x::L).map λ(i:NF)=>W.int i)]) (.ref ↥c)=ba true by simp only[fm,aG af];rfl) #[λ_=>?_,λz=>by cases z]
   have e:=(OT g).symm;rw[e]at k;show eC  af rfl (k _ (j.trans .push))
abbrev Lu:W->Oh
 |.non=>true
 |_=>false
abbrev NI (w:W):Prop:=w=.non\/∃i:NV,w=.int i
def yW {P:Wd->NF->Oh}:(fZ P bs u one other).length=↥bs+1:=by
 unfold fZ;rw[NE,Nz,N7];rfl
structure Fil (defs:Ny (Oc×Df)):Prop where
 parts:Parts defs
 part:Is defs ("part": Oc) 3 3 gJ
 longer:Is defs ("longer_orders": Oc) 2 4 bB
 barred:Is defs ("barred_threes": Oc) 1 5 bW
 three:Is defs ("three_at": Oc) 4 6 bu
 fbar:Is defs ("first_bar": Oc) 2 4 bn
 back:Is defs ("back": Oc) 2 2 qR
 both:Is defs ("with_both": Oc) 5 5 gN
 same:Is defs ("same_bar": Oc) 2 3 eJ
 all:Is defs ("all_bars": Oc) 5 6 nF
def nH (F:Fil defs){a q:NF}(j:GoodB bs)(c:↥o=↥bs)(A:GoodW a ↥bs u)(g:GoodP a ↥bs ↥u one)(h:GoodP a ↥bs ↥u other)(B:↥u<=800)(e:S[q]?=ba (.dic U))
  (k:∀f,Ka S f->Q (.tup (fZ (λv p=>bT U v p ↥u (↥u+1)) bs u one other),f)) :
  wO (aJ (aq defs fuel (d+3)) "all_bars" 5 [.tup [m0,.tup (NW aH o bs),b0],.ref q,aA u,aN one,aN other] S) Q:=by
 show au F.all rfl rfl λr x=>?_
 replace k:=λf a=>x _ _ (k f a)
 change wZ _ _ _ [ba _,ba _,ba _,ba _,ba _,dx] S r;generalize b:W.tup _=R;have y:↥bs<=3:=by rcases j with rfl|rfl|rfl|rfl|rfl|rfl<;>decide
 show st ?_;show fR ↥bs (λ_=>true) (λn=>cz (λp=>bT U (dP bs u one other n) p ↥u (↥u+1)) ↥u) [ba _,ba _,ba (aN one),ba (aN other),ba R] rfl rfl rfl rfl (by show N9 ‹_› (OA rfl)) ?_ (λn l s i=>?_) λs i=>?_
 ·left;subst b;show ag #v[] rfl (az ?_)
  rw[P5,c,Q9];show#[rfl,.refl]
 ·obtain⟨t,w⟩:=yV j A g h l;delta eB wC wE wA wV wG;subst b;show#[λ_=>?_,λz=>by cases z]
  show tD  F.back F.both c l ∅ (by rw[h.len];omega) ?_
  show tB  F.three F.fbar t w ∅ (i.get _ _ e) #[rfl,rfl,.refl]
 ·rw[bc];show st ?_;left;show vA  F.same (by rw[g.len,h.len]) (by rw[g.len];omega) λC m=>?_
  show ab (u6 (aB (m.get _ _ af)) af (j8 ?_)) (c8 af (k _ (((i.trans .push).trans m).trans (Ka.push.trans .push))));rw[NE,Nz,N7];show _+1<=_;omega
def Std.last (h:Std U u):Std U u.dropLast/\eI U u.dropLast ↥u.dropLast (u.getD (↥u-1) (0,[]))=true:=by
 have e:∀p,p<↥u-1->u.dropLast.getD p _=u.getD p (0,[]):=λp b=>by
  rw[NL,NL,List.getElem?_dropLast,Ob b]
 show#[λk hk j a i hi=>?_,dc.mpr λj a i hi=>?_]
 ·rw[QK]at hk;have:=h k ∅ j a i hi
  unfold bT cO at this ⊢;rw[e i ∅,e j ∅,e k hk]
  show this
 ·rw[QK]at a;have:=h _ ∅ j a i hi
  unfold da;rw[e i ∅,e j ∅]
  show this
abbrev nI (u:Wd)(one other:Pt)(b:NV)(p:NF):Wd:=[((u.getD p (0,[])).1,[]),(one.1,[one.2.getD p 0]),(other.1,[other.2.getD p 0,b])]
def vB {a :NF}{ p:NF}(h:GoodP a k ↥u one)(b:GoodP a k ↥u other)(c:p<↥u):cO (dP bs u one other n) p ↥u (↥u+1)=nI u one other (bs.getD n 0) p:=by
 have g:(u++[one]).length=↥u+1:=by rw[NE];rfl
 have d:(dP bs u one other n).getD p (0,[])=u.getD p (0,[]):=by
  unfold dP;rw[aO ∅,aO c]
 have e:(dP bs u one other n).getD ↥u (0,[])=one:=by
  unfold dP;rw[aO ∅,cq]
 have f:(dP bs u one other n).getD (↥u+1) (0,[])=(other.1,other.2++[bs.getD n 0]):=by
  unfold dP;rw[<- g,cq]
 unfold cO nI;rw[d,e,f];rw[bH (by rw[b.len];show c)]
 have:(other.2++[bs.getD n 0]).getD ↥u 0=bs.getD n 0:=by
  rw[<- b.len,NL,Ox (NP _),Qh];rfl
 rw[this]
abbrev Ck (one other:Pt)(s:NF):Oh:=(one.1==other.1)&&(NQ s).all λp=>one.2.getD p 0==other.2.getD p 0
def pr {P:NF->Oh}{s:NF}:Lu (cz P s)=(NQ s).all λp=>!P p:=by
 rw[Qp,N6];unfold cz;constructor
 ·intro h p a;cases b:(NQ s).find? P with
  |none=>
   have:=Qf.mp b p a
   simpa using this
  |some i=>rw[b]at h;cases h
 ·intro h;have:=Qf.mpr λp a=>by simpa using h p a
  rw[this];rfl
abbrev aV (p:Pt)(ps:Ny NF):Pt:=(p.1,ps.map λk=>p.2.getD k 0)
def ke {a  s:NF}{p:Pt}(h:GoodP a n s p)(b:∀k∈ps,k<s):GoodP a n ↥ps (aV p ps):=by
 show#[h.mark,by unfold aV;rw[Nz],λw hw=>?_]
 obtain⟨k,hk,rfl⟩:=NS.mp hw;show h.way _ (N1 (ay  (by rw[h.len];show b k hk)))
def d4 {p:Pt}(h:i<↥ps):(aV p ps).2.getD i 0=p.2.getD (ps.getD i 0) 0:=by
 unfold aV;rw[NL,NO,ay  h];rfl
def tF (h:i<↥ps):nI (ae bs u ps) (aV one ps) (aV other ps) b i=nI u one other b (ps.getD i 0):=by
 unfold nI;rw[fG h,d4 h,d4 h];rfl
abbrev bd (U:Ny (T×W))(w:Wd):Oh:=(bj U (cV w)).isSome
abbrev Cl (bs:Ny NV)(U:Ny (T×W)):Prop:=∀(w:Wd) (t:Ny NF),t∈aw->bd U w=true->bd U (ae bs w t)=true
def Cm {a:NF}{d:Ny Wd}(n:GoodB bs)(b:∀g∈d,GoodW a ↥bs g/\↥g=3)(h:HasD U (aX bs d)):Cl bs U:=by
 intro w t k hw;unfold bd at hw ⊢;rw[h.get,Og]at hw ⊢;obtain⟨q,c,e⟩:=NS.mp hw;have e:=eT e;subst e;show NS.mpr #[_,?_,rfl];obtain⟨g,f,h⟩:=OX.mp c;obtain⟨s,j,rfl⟩:=NS.mp h;obtain⟨m,l⟩:=b g f;obtain⟨o,p⟩:=cy.mp j;show OX.mpr #[g,f,?_];rw[bO n m (by rw[l];show o) (by rw[p];show(cy.mp k).1)]
 have:∀s∈aw,∀t∈aw,(t.map λi=>s.getD i 0)∈aw:=by decide
 show NS.mpr #[_,this s j t k,rfl]
def pA (a:i<j)(b:j<k):cO u i j k=ae bs u [i,j,k]:=by
 have c:bh bs u j i=(u.getD j (0,[])).2.getD i 0:=by unfold bh;rw[Ob a]
 have d:bh bs u k i=(u.getD k (0,[])).2.getD i 0:=by unfold bh;rw[Ob (Pw a b)]
 have e:bh bs u k j=(u.getD k (0,[])).2.getD j 0:=by unfold bh;rw[Ob b]
 change _=[((u.getD i _).1,[]),((u.getD j _).1,[bh bs u j i]),((u.getD k _).1,[bh bs u k i,bh bs u k j])];rw[c,d,e];rfl
def Fi {a:NF}{  z:NF}(r:GoodB bs)(q:Cl bs U)(w:GoodW a ↥bs u)(s:Std U u)(f:Ord ↥u [x,y,z]):bd U (ae bs u [x,y,z])=false:=by
 rw[Rn];intro h;have go:∀i j k t,t∈aw->(t.map λi=>[x,y,z].getD i 0)=[i,j,k]->i<j->j<k->k<↥u->Pg:=λi j k t l e d b c=>by
  have:=q _ t l h;rw[bO r w f (cy.mp l).1,e,<- pA d b]at this;have g:=s k c j b i d;unfold bT at g;unfold bd at this;rw[this]at g;cases g
 have m:=f.lt x (by simp)
 have n:=f.lt y (by simp)
 have o:=f.lt z (by simp)
 have nd:=f.nd;simp only[Pp,Of,OH,PJ,UB]at nd;obtain⟨⟨A,p⟩,n3,_⟩:=nd;rcases Re A with d|d
 ·rcases Re n3 with b|b
  ·show go x y z [0,1,2] #v[] rfl d b o
  ·rcases Re p with c|c
   ·show go x z y [0,2,1] #v[] rfl c b n
   ·show go z x y [2,0,1] #v[] rfl c d n
 ·rcases Re p with b|b
  ·show go y x z [1,0,2] #v[] rfl d b o
  ·rcases Re n3 with c|c
   ·show go y z x [1,2,0] #v[] rfl c b m
   ·show go z y x [2,1,0] #v[] rfl c d m
def vC {ps:Ny NF}(h:ps.Nodup)(hi:i<↥ps)(a:j<↥ps)(e:ps.getD i 0=ps.getD j 0):i=j:=by
 rw[NL,NL,NK hi,NK a]at e;show(PD h).mp e
def Std.part {a:NF}(f:GoodB bs)(h:Cl bs U)(g:GoodW a ↥bs u)(q:Std U u)(b:Ord ↥u ps):Std U (ae bs u ps):=by
 intro k hk j n i hi;rw[aF]at hk;have d:Ord ↥ps [i,j,k]:=#[by revert Pp Of OH PJ UB;show#[#[∅,∅],∅,by simp],λp c=>by
  simp only[Of,OH,PJ]at c;rcases c with rfl|rfl|rfl<;>omega]
 change bd U (cO (ae bs u ps) i j k)=false;rw[pA  hi n,bO f g b d];have l:∀m,m<↥ps->ps.getD m 0∈ps:=λm o=>N1 (ay  o)
 show Fi f h g q #[?_,λp c=>?_]
 ·revert Pp Of OH PJ UB;show#[#[λe=>by have:=vC b.nd ∅ ∅ e;omega,λe=>by have:=vC b.nd ∅ ∅ e;omega],λe=>by have:=vC b.nd ∅ ∅ e;omega,by simp]
 ·simp only[Of,OH,PJ]at c;rcases c with rfl|rfl|rfl<;>show b.lt _ (l _ ∅)
def Std.both {p:Pt}:Std U (u++[p])↔Std U u/\eI U u ↥u p=true:=by
 constructor
 ·intro h;have:=h.last;rw[UF,NE,Oq,Nat.add_sub_cancel,cq]at this;show this
 ·rintro⟨a,b⟩;show a.snoc   (dc.mp b)
def Cn {p:Pt}(h:∀k∈ps,k<↥u):ae bs (u++[p]) ps=ae bs u ps:=by
 show ON λk hk=>?_
 have hk:=NU.mp hk;have a:=h _ (N1 (ay (d:=0) hk));rw[aO a];congr 1;show ON λj c=>?_
 have b:=h j (Ql c);unfold bh;rw[aO a,aO b]
def kh {p:Pt}(h:∀k∈ps,k<↥u):ae bs (u++[p]) (ps++[↥u])=ae bs u ps++[aV p ps]:=by
 rw[aP,Cn h];congr 2;unfold aC aV;rw[cq];congr 1;show ON λj a=>?_
 unfold bh;rw[Ob (h j a),cq]
structure Cf (a n:NF)(U:Ny (T×W))(u:Wd)(p q:Pt):Prop where
 gu:GoodW a n u
 su:Std U u
 gp:GoodP a n ↥u p
 mp:eI U u ↥u p=true
 gq:GoodP a n ↥u q
 mq:eI U u ↥u q=true
def GoodP.snoc {a :NF}{p:Pt}(b:GoodW a n u)(h:GoodP a n ↥u p):GoodW a n (u++[p]):=b.snoc   h.mark h.len h.way
def qS (h:Ord n ps):Ord (n+1) (ps++[n]):=#[by
 rw[OZ];show#[h.nd,by simp,λx c y d e=>by
  rw[NT.mp d]at e;have:=h.lt x c;omega],λp b=>by
 rcases Oa.mp b with a|a
 ·have:=h.lt p a;show Px ‹_›
 ·rw[NT.mp a];show NP _]
def Cf.part {a:NF}{p q:Pt}(c:GoodB bs)(d:Cl bs U)(h:Cf a ↥bs U u p q)(b:Ord ↥u ps):Cf a ↥bs U (ae bs u ps) (aV p ps) (aV q ps):=by
 have e:(ae bs u ps).length=↥ps:=aF ..;have one:∀p ,GoodP a _ _ p->eI U u _ p=true->eI U _ _ _=true:=λp g j=>by
  have k:=Std.both.mpr #[h.su,j];have i:(u++[p]).length=↥u+1:=by rw[NE];rfl
  have f:=k.part c d (g.snoc h.gu)  (by rw[i];show qS b)
  rw[kh b.lt]at f;show(Std.both.mp f).2
 show#[cx c h.gu b.lt b.nd,h.su.part c d h.gu b,by rw[e];show ke h.gp b.lt,one p h.gp h.mp,by rw[e];show ke h.gq b.lt,one q h.gq h.mq]
abbrev cX (U:Ny (T×W))(bs:Ny NV)(u:Wd)(p q:Pt)(i:NF):Oh:=if i<↥bs then(NQ ↥u).any λk=>bd U (nI u p q (bs.getD i 0) k)else !Ck p q ↥u
abbrev Full (U:Ny (T×W))(bs:Ny NV)(c:NF)(u:Wd)(p q:Pt):Prop:=∀i<c,cX U bs u p q i=true
def hX {p q:Pt}(hi:i<↥bs):cX U bs u p q i=true↔∃k<↥u,bd U (nI u p q (bs.getD i 0) k)=true:=by
 unfold cX;rw[Ob hi,Qe];show#[λ#[k,h1,h2]=>#[k,NU.mp h1,h2],λ#[k,h1,h2]=>#[k,NU.mpr h1,h2]]
def Co {p q:Pt}{s:NF}:Ck p q s=false↔p.1≠q.1\/∃k<s,p.2.getD k 0≠q.2.getD k 0:=by
 unfold Ck;rw[R8,SX];constructor
 ·rintro(h|⟨k,a,b⟩)
  ·show .inl (by simpa using h)
  ·show .inr #[k,NU.mp a,by simpa using b]
 ·rintro(h|⟨k,a,b⟩)
  ·show .inl (by simpa using h)
  ·show .inr #[k,NU.mpr a,by simpa using b]
def gO {p q:Pt}(hi:¬ i<↥bs):cX U bs u p q i=true↔p.1≠q.1\/∃k<↥u,p.2.getD k 0≠q.2.getD k 0:=by
 unfold cX;rw[Ot hi,QJ,Co]
def xA :(ps++[k]).getD ↥ps 0=k:=by
 rw[NL,Ox (NP _),Qh];rfl
def xB {ps:Ny NF}(h:k∈ps):∃j<↥ps,ps.getD j 0=k:=by
 obtain⟨j,a,e⟩:=Pq h;show#[j,a,by rw[NL,NK a];show e]
def Cp {p q:Pt}(h:cX U bs u p q i=true)(g:cX U bs (ae bs u ps) (aV p ps) (aV q ps) i=false):∃k<↥u,k∉ps/\cX U bs (ae bs u (ps++[k])) (aV p (ps++[k])) (aV q (ps++[k])) i=true:=by
 have f:∀ps,(ae bs u ps).length=↥ps:=λps=>aF ..
 have d:¬ cX U bs (ae bs u ps) (aV p ps) (aV q ps) i=true:=by rw[g];show OG
 have b:∀k,↥ps<(ps++[k]).length:=λk=>by rw[NE,Oq];omega
 by_cases hi:i<↥bs
 ·rw[hX hi]at h d;obtain⟨k,hk,c⟩:=h;show#[k,hk,λz=>?_,?_]
  ·obtain⟨j,a,e⟩:=xB z;show d #[j,by rw[f];show a,by rw[tF a,e];show c]
  ·rw[hX hi];show#[↥ps,by rw[f];show b k,by rw[tF (b k),xA];show c]
 ·rw[gO hi]at h d;rcases h with h|⟨k,hk,c⟩
  ·show absurd (.inl h) d
  show#[k,hk,λz=>?_,?_]
  ·obtain⟨j,a,e⟩:=xB z;show d (.inr #[j,by rw[f];show a,by rw[d4 a,d4 a,e];show c])
  ·rw[gO hi];show .inr #[↥ps,by rw[f];show b k,by rw[d4 (b k),d4 (b k),xA];show c]
def Cq {p q :Pt}(b:↥p.2=↥u)(c:↥q.2=↥u)(h:cX U bs u p q i=true):cX U bs (u++[x]) (p.1,p.2++[v]) (q.1,q.2++[w]) i=true:=by
 have d:(u++[x]).length=↥u+1:=by rw[NE];rfl
 by_cases hi:i<↥bs
 ·rw[hX hi]at h ⊢;obtain⟨k,hk,a⟩:=h;show#[k,∅,?_]
  unfold nI at a ⊢;dsimp only;rw[aO hk,bH ∅,bH ∅]
  show a
 ·rw[gO hi]at h ⊢;rcases h with h|⟨k,hk,a⟩
  ·show .inl h
  ·show .inr #[k,∅,?_]
   dsimp only;rw[bH ∅,bH ∅]
   show a
abbrev Cr (U:Ny (T×W))(bs:Ny NV)(c:NF)(u:Wd)(p q:Pt):NF:=((NQ c).filter λi=>!cX U bs u p q i).length
def Fj {f g:NF->Oh}(hi:i<c)(h:∀j,f j=true->g j=true)(a:f i=false)(b:g i=true):((NQ c).filter λj=>!g j).length<((NQ c).filter λj=>!f j).length:=by
 have e:(NQ c).filter (λj=>!g j)=((NQ c).filter λj=>!f j).filter λj=>!g j:=by
  rw[List.filter_filter];show List.filter_congr λj _=>?_
  cases d:f j with
  |true=>rw[h j d];rfl
  |false=>simp
 rw[e];show List.length_filter_lt_length_iff_exists.mpr #[i,OY.mpr #[NU.mpr hi,by rw[a];rfl],by rw[b];show OG]
abbrev jr (U:Ny (T×W))(v:Wd)(n:NF)(p:Pt):Ny Pt:=((NQ n).map λ(w:NF)=>(p.1,p.2++[(w:NV)])).filter λh=>cr U (v++[h])
abbrev tH (U:Ny (T×W))(a n:NF)(u:Wd)(p q:Pt):Ny (Wd×Pt×Pt):=(pg U u a n).flatMap λx=>(jr U (u++[x]) n p).flatMap λh=>(jr U (u++[x]) n q).map λh'=>(u++[x],h,h')
def nJ {x p h:Pt}:h∈jr U (u++[x]) n p↔∃w:NF,w<n/\h=(p.1,p.2++[(w:NV)])/\∀i<↥u,da U (u++[x]) h i ↥u=false:=by
 have b:(u++[x]).length=↥u+1:=by rw[NE];rfl
 have a:∀h ,cr U (u++[x]++[h])=true↔∀i<↥u,da U _ h i _=false:=λh=>by
  rw[jo  (by rw[NE,b];rfl)]
  constructor<;>intro z i hi
  ·have:=z i hi;rw[<- b,nv hi ∅]at this;show this
  ·rw[<- b,nv hi ∅];show z i hi
 unfold jr;rw[OY,a,NS];show#[λ#[#[w,hw,e],z]=>#[w,NU.mp hw,e.symm,z],λ#[w,hw,e,z]=>#[#[w,NU.mpr hw,e.symm],z]]
def Cs { p h:Pt}{a :NF}(c:GoodP a n ↥u p)(m:eI U u ↥u p=true)(j:h∈jr U (u++[x]) n p):GoodP a n (u++[x]).length h/\eI U (u++[x]) (u++[x]).length h=true:=by
 have l:(u++[x]).length=↥u+1:=by rw[NE];rfl
 obtain⟨w,hw,rfl,g⟩:=nJ.mp j;have f:=c.len;show#[#[c.mark,?_,λz k=>?_],dc.mpr λq o i hi=>?_]
 ·rw[l,NE,f];rfl
 ·rcases Oa.mp k with d|d
  ·show c.way z d
  ·rw[NT.mp d];omega
 ·by_cases e:q=↥u
  ·subst e;show g i hi
  ·have b:q<↥u:=∅
   have:=dc.mp m q b i hi;unfold da at this ⊢;rw[aO (Pw hi b),aO b,bH ∅,bH ∅]
   show this
def Fk {p q:Pt}{a :NF}(h:Cf a n U u p q)(hc:c∈tH U a n u p q):Cf a n U c.1 c.2.1 c.2.2/\↥c.1=↥u+1/\∀i,cX U bs u p q i=true->cX U bs c.1 c.2.1 c.2.2 i=true:=by
 obtain⟨x,m,hc⟩:=OX.mp hc;obtain⟨t,b,hc⟩:=OX.mp hc;obtain⟨v,d,rfl⟩:=NS.mp hc;obtain⟨e,f,g,k⟩:=nz.mp m;obtain⟨o,p2⟩:=Cs h.gp h.mp b;obtain⟨r,s⟩:=Cs h.gq h.mq d;show#[#[h.gu.snoc   e f g,Std.both.mpr #[h.su,dc.mpr λj l i hi=>k i j hi l],o,p2,r,s],by rw[NE];rfl,λi hi=>?_]
 obtain⟨w,_,rfl,_⟩:=nJ.mp b;obtain⟨w2,_,rfl,_⟩:=nJ.mp d;show Cq h.gp.len h.gq.len hi
def yX {p:Pt}:aV p (ps++[k])=((aV p ps).1,(aV p ps).2++[p.2.getD k 0]):=by
 unfold aV;rw[N3];rfl
def Ct {p q:Pt}{a:NF}(g:GoodB bs)(f:Cl bs U)(h:Cf a ↥bs U u p q)(e:Ord ↥u (ps++[k])):(ae bs u (ps++[k]),aV p (ps++[k]),aV q (ps++[k]))∈tH U a ↥bs (ae bs u ps) (aV p ps) (aV q ps):=by
 have C:=h.part g f e;have hk:=e.lt k (by simp)
 rw[aP]at C ⊢;generalize aC bs u ps k=x at C;generalize ae bs u ps=v at C;have s:(v++[x]).length=↥v+1:=by rw[NE];rfl
 have b:(v++[x])[↥v]?=ba x:=by rw[Ox (NP _),Qh];rfl
 obtain⟨_,n⟩:=Std.both.mp C.su;have one:∀r ,GoodP a ↥bs _ r->eI U _ (v++[x]).length (aV r (ps++[k]))=true->aV r (ps++[k])∈jr U (v++[x]) ↥bs (aV r ps):=λr c m=>by
  obtain⟨o,t⟩:=c.way _ (N1 (ay (d:=0) (by rw[c.len];show hk)))
  show nJ.mpr #[(r.2.getD k 0).toNat,∅,?_,λi hi=>dc.mp m ↥v ∅ i hi]
  rw[yX,Qq o]
 show OX.mpr #[x,nz.mpr #[C.gu.mark _ _ b,C.gu.len _ _ b,C.gu.way _ _ b,λi j hi l=>dc.mp n j l i hi],OX.mpr #[_,one p h.gp C.mp,NS.mpr #[_,one q h.gq C.mq,rfl]]]
abbrev Sub (bs:Ny NV)(Uqb:Wd)(P Q:Pt)(u:Wd)(p q:Pt):Prop:=∃ps,Ord ↥Uqb ps/\u=ae bs Uqb ps/\p=aV P ps/\q=aV Q ps
abbrev gP (a:NF)(bs:Ny NV)(U:Ny (T×W))(c:NF)(u:Wd)(p q:Pt):Prop:=∀Uqb P Q,Cf a ↥bs U Uqb P Q->Full U bs c Uqb P Q->¬ Sub bs Uqb P Q u p q
def Jb {p q:Pt}{a  :NF}(o:GoodB bs)(n:Cl bs U)(hi:i<c)(s:cX U bs u p q i=false)(h:∀x∈tH U a ↥bs u p q,cX U bs x.1 x.2.1 x.2.2 i=true->gP a bs U c x.1 x.2.1 x.2.2):gP a bs U c u p q:=by
 rintro Uqb P Q j l ⟨ps,m,rfl,rfl,rfl⟩;obtain⟨k,hk,f,r⟩:=Cp (l i hi) s;have b:Ord _ (ps++[k]):=#[by
  rw[OZ];show#[m.nd,by simp,λx g y t e=>by rw[NT.mp t]at e;show f (e▸g)],λx g=>by
  rcases Oa.mp g with d|d
  ·show m.lt x d
  ·rw[NT.mp d];show hk]
 show h _ (Ct o n j b) r Uqb P Q j l #[_,b,rfl,rfl,rfl]
def Full.turn {p q:Pt}(f:GoodB bs)(l:Cl bs U)(hc:↥bs<=c)(h:Full U bs c u p q):Full U bs c u q p:=by
 intro i hi
 by_cases a:i<↥bs
 ·obtain⟨b,d,m,n⟩:=f.rng i a;have j:(bs.getD i 0).toNat<↥bs:=by rw[getD_some d];omega
  obtain⟨k,hk,g⟩:=(hX j).mp (h _ (N5 j hc));rw[f.inv i a]at g;show(hX a).mpr #[k,hk,?_];have:=l _ [0,2,1] #v[] g
  show this
 ·show(gO a).mpr ?_;rcases(gO a).mp (h i hi)with z|⟨k,hk,z⟩
  ·show .inl λe=>z e.symm
  ·show .inr #[k,hk,λe=>z e.symm]
def Cf.turn {a :NF}{p q:Pt}(h:Cf a n U u p q):Cf a n U u q p:=#[h.gu,h.su,h.gq,h.mq,h.gp,h.mp]
def Fn {P Q:Pt}:Sub bs Uqb P Q [] (P.1,[]) (Q.1,[]):=#[[],#[.nil,λ_ h=>nomatch h],rfl,rfl,rfl]
abbrev lg (a:NF)(bs:Ny NV)(U:Ny (T×W))(c:NF):Prop:=∃Uqb P Q,Cf a ↥bs U Uqb P Q/\Full U bs c Uqb P Q
def Lv {a :NF}(g:GoodB bs)(f:Cl bs U)(hc:↥bs<=c)(h:∀i j:NF,i<a->i<=j->j<a->gP a bs U c [] (i,[]) (j,[])):¬ lg a bs U c:=by
 rintro⟨Uqb,P,Q,d,e⟩;have go:∀P Q ,Cf a _ U Uqb P Q->Full U bs c Uqb P Q->P.1<=Q.1->Pg:=λP Q d e b=>by
  obtain⟨k,m⟩:=d.gp.mark;obtain⟨l,n⟩:=d.gq.mark;have:=h P.1.toNat Q.1.toNat ∅ ∅ ∅ Uqb P Q d e
  rw[Qq k,Qq l]at this;show this Fn
 rcases Int.le_total P.1 Q.1 with b|b
 ·show go P Q d e b
 ·show go Q P d.turn (e.turn g f hc) b
def nK {a :NF}(b:GoodW a n u):∀k,k<=↥u->ae bs u (NQ k)=u.take k
 |0,_=>rfl
 |k+1,hk=>by
  rw[Pe,aP,nK b k ∅,j6 b ∅,Ol,NK ∅]
  simp[NK (show k<↥u by omega)]
def tJ {a :NF}(b:GoodW a n u):ae bs u (NQ ↥u)=u:=by
 rw[nK b _ (NP _),Ou]
abbrev gj (n:NF)(ps:Ny NF):Ny NF:=(NQ n).map λk=>ps.idxOf k
def xD (h:Ord n ps)(hl:↥ps=n):Ord n (gj n ps)/\(gj n ps).length=n/\((gj n ps).map λi=>ps.getD i 0)=NQ n:=by
 have mem:∀k,k<n->k∈ps:=λk hk=>dC h hl hk
 have lt:∀k,k<n->ps.idxOf k<n:=λk hk=>by rw[<- hl];show Pb (mem k hk)
 have a:∀k,k<n->ps.getD _ 0=k:=λk hk=>by
  have:=Pb (mem k hk);rw[NL,NK this,Qc,RW]
 show#[#[?_,λp c=>?_],by unfold gj;rw[Nz,N7],?_]
 ·unfold gj;rw[Qw,P4];show WU (λ{x y} d f b e=>?_) T3
  have:=congrArg (λi=>ps.getD i 0) e
  rw[a x (NU.mp d),a y (NU.mp f)]at this;omega
 ·obtain⟨k,hk,rfl⟩:=NS.mp c;show lt k (NU.mp hk)
 ·unfold gj;rw[OL];have:(NQ n).map ((λi=>ps.getD i 0)∘λk=>ps.idxOf k)=(NQ n).map id:=ON λk hk=>a k (NU.mp hk)
  rw[this,Xu]
abbrev nL (n:NF)(ps:Ny NF)(p:Pt):Pt:=aV p (gj n ps)
section
variable{a:NF}{bs:Ny NV}{U:Ny (T×W)}{w:Wd}{ps:Ny NF}{p:Pt}
def Jc (d:GoodB bs)(j:Cl bs U)(hw:GoodW a ↥bs w)(A:Std U w)(b:Ord ↥w ps)(hl:↥ps=↥w)(q:GoodP a ↥bs ↥ps p)(C:eI U (ae bs w ps) ↥ps p=true) :
  GoodP a ↥bs ↥w (nL ↥w ps p)/\Std U (w++[nL ↥w ps p])/\aV (nL ↥w ps p) ps=p:=by
 obtain⟨t,u,B⟩:=xD b hl;have i:(ae bs w ps).length=↥ps:=aF ..;have z:=cx d hw b.lt b.nd;have c:GoodP a ↥bs (ae bs w ps).length p:=by rw[i];show q
 have D:=Std.both.mpr #[A.part d j hw b,by rw[i];show C]
 have h:Ord (ae bs w ps).length (gj ↥w ps):=by rw[i,hl];show t
 have x:ae bs (ae bs w ps) (gj ↥w ps)=w:=by rw[bO d hw b (by rw[hl];show t),B,tJ hw]
 have v:=D.part d j (c.snoc z)  (by rw[NE];show qS h)
 rw[kh h.lt,x]at v;have o:=ke  c h.lt;rw[u]at o;show#[o,v,?_];have y:(ps.map λk=>(gj ↥w ps).getD k 0)=NQ ↥ps:=by
  show PV (by simp) λk e r=>?_
  have hk:k<↥ps:=by simpa using e
  have g:=b.lt _ (OE hk);have:(gj ↥w ps).getD ps[k] 0=ps.idxOf ps[k]:=by
   unfold gj;rw[NL,NO,O8 g];rfl
  rw[Ru,SM,this];show b.nd.idxOf_getElem k hk
 obtain⟨m,l⟩:=p;have f:=q.len;delta nL aV;show congrArg _ ?_;show PV (by simp[f]) λk e r=>?_
 have hk:k<↥ps:=by simpa using e
 rw[Ru];have s:ps[k]<(gj ↥w ps).length:=by rw[u];show b.lt _ (OE hk)
 rw[NL,NO,NK s,OJ,Qc];have n:=congrArg (λL=>L[k]?) y
 rw[NO,NK hk,OJ,O8 hk,NL,NK s,Qc]at n;rw[OT n,NL,NK r,Qc]
def Cu (d:GoodP a ↥bs ↥u p)(g:eI U u ↥u p=true)(f:v<↥bs)(h:cr U (u++[x]++[(p.1,p.2++[(v:NV)])])=true) :
  GoodP a ↥bs (↥u+1) (p.1,p.2++[(v:NV)])/\eI U (u++[x]) (↥u+1) (p.1,p.2++[(v:NV)])=true:=by
 have e:(p.1,p.2++[(v:NV)])∈jr U (u++[x]) ↥bs p:=by
  unfold jr;show OY.mpr #[NS.mpr #[v,NU.mpr f,rfl],h]
 obtain⟨b,c⟩:=Cs d g e;rw[NE,Oq]at b c;show#[b,c]
def xE (l:GoodB bs)(d:GoodP a ↥bs ↥u p)(h:∀v<↥bs,cr U (u++[x]++[(p.1,p.2++[(v:NV)])])=false):∀i<↥bs,cX U bs u x p i=true:=λi hi=>by
  obtain⟨b,e,f,m⟩:=l.rng i hi;have n:=h b.toNat ∅
  have nm:¬ (p.1,p.2++[(b.toNat:NV)])∈jr U _ ↥bs p:=λz=>by
   have:=(OY.mp z).2;rw[n]at this;cases this
  rw[nJ]at nm;show(hX hi).mpr ?_;show Ry λhc=>nm #[b.toNat,∅,rfl,λk hk=>?_]
  rw[Rn];intro c;show hc #[k,hk,?_];rw[getD_some e];dsimp only[da]at c;rw[aO hk,cq]at c;have g:(p.2++[(b.toNat:NV)]).getD k 0=p.2.getD k 0:=bH (by rw[d.len];show hk)
  have j:(p.2++[(b.toNat:NV)]).getD ↥u 0=b:=by
   rw[NL,Ox (by rw[d.len];show NP _),d.len,Qh]
   show Qq f
  rw[g,j]at c;show c
def Cv (g:¬ lg a bs U (↥bs+1))(s:GoodB bs)(o:GoodW a ↥bs u)(z:Std U u)(l:GoodP a ↥bs ↥u x)(w:eI U u ↥u x=true)(d:GoodP a ↥bs ↥u p)(t:eI U u ↥u p=true)
  (h:∀v<↥bs,cr U (u++[x]++[(p.1,p.2++[(v:NV)])])=false):x=p:=by
 have f:=xE s d h;have j:Ck x p ↥u=true:=by
  cases e:Ck x p ↥u with
  |true=>rfl
  |false=>
   show absurd #[u,x,p,#[o,z,l,w,d,t],λi hi=>?_] g
   by_cases b:i<↥bs
   ·show f i b
   ·unfold cX;rw[Ot b,e];rfl
 unfold Ck at j;rw[NM,N6]at j;obtain⟨c,n⟩:=j;obtain⟨m,A⟩:=x;obtain⟨pm,y⟩:=p;have c:m=pm:=eq_of_beq c;subst c;have B:↥A=↥u:=l.len;have C:↥y=↥u:=d.len;show congrArg (Prod.mk m) (PV ∅ λk q r=>?_)
 have:=eq_of_beq (n k (NU.mpr ∅))
 dsimp only at this;rw[NL,NL,NK q,NK r]at this;show this
abbrev aE (n:NF)(ps:Ny NF):Ny NF:=(NQ n).filter λi=>decide (i∉ps)
abbrev Cw (U:Ny (T×W))(bs:Ny NV)(w:Wd)(a:Ny NF)(b:Pt):Prop:=∀x,(aE ↥w a)[0]?=ba x->∃v<↥bs,cr U (ae bs w a++[aC bs w a x]++[(b.1,b.2++[((v:NF):NV)])])=true
abbrev bx (p:Pt)(v:NF):Pt:=(p.1,p.2++[(v:NV)])
abbrev dQ (U:Ny (T×W))(bs:Ny NV)(w:Wd)(s:Ny NF×Pt)(x:NF):NJ (Ny NF×Pt):=((NQ ↥bs).find? λv=>cr U (ae bs w s.1++[aC bs w s.1 x]++[bx s.2 v])).map λv=>(s.1++[x],bx s.2 v)
abbrev gk (U:Ny (T×W))(bs:Ny NV)(w:Wd):Ny NF->Ny NF×Pt->Ny NF×Pt
 |[],s=>s
 |x::xs,s=>match dQ U bs w s x with
  |some s'=>gk U bs w xs s'
  |none=>s
structure SprF (a:NF)(bs:Ny NV)(U:Ny (T×W))(w:Wd)(ps0:Ny NF)(p0:Pt)(ps:Ny NF)(p:Pt):Prop where
 pre:∃t vs,ps=ps0++t/\p=(p0.1,p0.2++vs)
 run:gk U bs w (aE ↥w ps0) (ps0,p0)=(ps,p)
 ord:Ord ↥w ps
 gp:GoodP a ↥bs ↥ps p
 mp:eI U (ae bs w ps) ↥ps p=true
 fin:(↥ps=↥w/\Cw U bs w ps0 p0)\/∃x,x<↥w/\x∉ps/\(∀y<x,y∈ps)/\aC bs w ps x=p/\lg a bs U ↥bs
def Cy (hl:↥l=↥ps)(h:aC bs w (ps++t) x=(m,l++vs)):aC bs w ps x=(m,l):=by
 unfold aC at h ⊢;rw[N3,RM]at h;obtain⟨a,b⟩:=h;rw[a,(Uh b (by rw[Nz,hl])).1]
def yY {q:Pt}(hl:↥l=↥ps)(h:aV q (ps++t)=(m,l++vs)):aV q ps=(m,l):=by
 unfold aV at h ⊢;rw[N3,RM]at h;obtain⟨a,b⟩:=h;rw[a,(Uh b (by rw[Nz,hl])).1]
end
noncomputable abbrev Pl:=Ny (NF×NF)
abbrev D2 (L:Pl):Ny (NV×W):=L.map λp=>(((p.1:NF):NV),W.int (p.2:NF))
abbrev kj (L:Pl)(j:NF):NF:=(L.map (·.2)).getD ((L.map (·.1)).idxOf j) 0
def lH (j:NF):∀{L:Pl},ee (D2 L) j=if j∈L.map (·.1)then ba (W.int (kj L j))else dx
 |[]=>rfl
 |p::L=>by
  have ih:=lH j (L:=L);obtain⟨x,y⟩:=p
  by_cases e:x=j
  ·subst e
   (delta ee D2 kj;simp)
  ·have c:ee (D2 ((x,y)::L)) j=ee (D2 L) j:=by
    have:¬ (x=(j:NV)):=∅
    (delta ee D2;simp[this])
   have d:kj ((x,y)::L) j=kj L j:=by
    unfold kj;rw[OP,OP,Wj];have:(x==j)=false:=by simpa using e
    rw[this];rfl
   rw[c,ih,d];have b:j∈((x,y)::L).map (·.1)↔j∈L.map (·.1):=by
    rw[OP,Of];show#[λh=>h.resolve_left λz=>e z.symm,.inr]
   by_cases a:j∈L.map (·.1)
   ·rw[Ob a,Ob (b.mpr a)]
   ·rw[Ot a,Ot λz=>a (b.mp z)]
def Fo {j p:NF}(h:j∉L.map (·.1)):nX (D2 L) j (W.int p)=D2 (L++[(j,p)]):=by
 unfold nX;have:((D2 L).any λq=>decide (q.1=j))=false:=by
  rw[Rm];intro q a;obtain⟨x,b,rfl⟩:=NS.mp a;have:x.1≠j:=λe=>h (e▸NS.mpr #[x,b,rfl])
  revert Og;omega
 rw[this,Ot OG];unfold D2;rw[N3];rfl
def yZ (h:n∉ps):aE (n+1) ps=aE n ps++[n]:=by
 unfold aE;rw[Pe,Rc,Tx (by simpa using h)];rfl
def y4 (h:n∈ps):aE (n+1) ps=aE n ps:=by
 unfold aE;rw[Pe,Rc,Tz (by simpa using h)]
 show Oz _
def lI :x∈aE n ps↔x<n/\x∉ps:=by
 unfold aE;rw[OY,NU,Og]
abbrev Jd (U:Ny (T×W))(bs:Ny NV)(one other:Wd)(L0:Pl)(j x:NF):Prop:=aE ↥other (L0.map (·.1))=[j]/\aE ↥one (L0.map (·.2))=[x]/\∀v<↥bs,cr U (ae bs one (L0.map (·.2))++[aC bs one (L0.map (·.2)) x]++[((aC bs other (L0.map (·.1)) j).1,(aC bs other (L0.map (·.1)) j).2++[((v:NF):NV)])])=false
structure LayI (a:NF)(bs:Ny NV)(U:Ny (T×W))(one other:Wd)(L0:Pl)(n:NF)(w:Wd)(L:Pl):Prop where
 gw:GoodW a ↥bs w
 sw:Std U w
 ext:∃t,w=one++t
 op:Ord ↥w (L.map (·.2))
 oj:Ord ↥other (L.map (·.1))
 same:ae bs w (L.map (·.2))=ae bs other (L.map (·.1))
 pre:∃t,L=L0++t
 num:∀j<n,j∈L.map (·.1)
 new:∀x,↥one<=x->x<↥w->x∈L.map (·.2)
 all:(∀j<↥other,j∈L0.map (·.1))->w=one/\L=L0
 fresh:lg a bs U ↥bs\/∃t,L=L0++t/\t.map (·.2)=SZ ↥one ↥t/\↥w=↥one+↥t/\t.map (·.1)=aE n (L0.map (·.1))
 single:∀j x,Jd U bs one other L0 j x->w=one/\(L=L0\/L=L0++[(j,x)])
section
variable{a:NF}{bs:Ny NV}{U:Ny (T×W)}{one other w:Wd}{L0 L:Pl}{n x:NF}
def LayI.start (b:GoodW a ↥bs one)(c:Std U one)(d:Ord ↥one (L0.map (·.2)))(e:Ord ↥other (L0.map (·.1)))(f:ae bs one (L0.map (·.2))=ae bs other (L0.map (·.1))):LayI a bs U one other L0 0 one L0:=
 #[b,c,#[[],by simp],d,e,f,#[[],by simp],λj g=>by show absurd ‹_› (P7 _),λx b c=>∅,λ_=>#[rfl,rfl],.inr #[[],by simp,rfl,rfl,rfl],λ_ _ _=>#[rfl,.inl rfl]]
def LayI.skip (h:LayI a bs U one other L0 n w L)(b:n∈L.map (·.1)):LayI a bs U one other L0 (n+1) w L:=
 #[h.gw,h.sw,h.ext,h.op,h.oj,h.same,h.pre,λj c=>by
  by_cases e:j=n
  ·subst e;show b
  ·show h.num j ∅,h.new,h.all,h.fresh.imp id λ#[t,e1,e2,e3,e4]=>#[t,e1,e2,e3,by
   rw[e4];show(y4 ?_).symm;rw[e1,N3,e4]at b;rcases Oa.mp b with h|h
   ·show h
   ·show absurd (lI.mp h).1 (Pf n)],h.single]
def d6 (h:Ord m ps)(b:y<m)(a:y∉ps):Ord m (ps++[y]):=gM.mpr #[h,b,a]
def LayI.two (L:Pl)(j p:NF):((L++[(j,p)]).map (·.1)=L.map (·.1)++[j])/\((L++[(j,p)]).map (·.2)=L.map (·.2)++[p]):=by simp
def LayI.no_all (h:LayI a bs U one other L0 n w L)(c:n<↥other)(b:n∉L.map (·.1)){P:Prop}(z:∀j<↥other,j∈L0.map (·.1)):P:=by
 obtain⟨t,e⟩:=h.pre;show absurd ?_ b;rw[e,N3];show Oo _ (z n c)
def LayI.not0 (h:LayI a bs U one other L0 n w L)(b:n∉L.map (·.1)):n∉L0.map (·.1):=λz=>b (by
 obtain⟨t,e⟩:=h.pre;rw[e,N3];show Oo _ z)
def LayI.is_one (h:LayI a bs U one other L0 n w L)(c:n<↥other)(b:n∉L.map (·.1))(d:Jd U bs one other L0 j x):n=j:=by
 have:=lI.mpr #[c,h.not0 b]
 rwa [d.1,NT]at this
def LayI.num' (h:LayI a bs U one other L0 n w L)(p:NF):∀j<n+1,j∈(L++[(n,p)]).map (·.1):=λj b=>by
 rw[(LayI.two L n p).1]
 by_cases e:j=n
 ·subst e;simp
 ·show Oo _ (h.num j ∅)
def LayI.wish (d:GoodB bs)(i:Cl bs U)(go:GoodW a ↥bs other)(l:Std U other)(h:LayI a bs U one other L0 n w L)(k:n<↥other)(j:n∉L.map (·.1)) :
  GoodP a ↥bs (L.map (·.2)).length (aC bs other (L.map (·.1)) n)/\eI U (ae bs w (L.map (·.2))) (L.map (·.2)).length (aC bs other (L.map (·.1)) n)=true:=by
 have b:=d6 h.oj k j;have g:=cx d go b.lt b.nd;have s:=l.part d i go b;rw[aP]at g s;have f:(L.map (·.2)).length=(L.map (·.1)).length:=by rw[Nz,Nz]
 have c:(ae bs other (L.map (·.1))).length=(L.map (·.1)).length:=aF ..
 have e:(ae bs other (L.map (·.1))++[aC bs other (L.map (·.1)) n])[(L.map (·.1)).length]?=ba (aC bs other (L.map (·.1)) n):=by
  rw[Ox (by rw[c];show NP _),c,Qh];rfl
 show#[#[g.mark _ _ e,by rw[g.len _ _ e,f],g.way _ _ e],?_]
 have:=(Std.both.mp s).2;rw[c]at this;rw[h.same,f];show this
def LayI.put (D:GoodB bs)(h:LayI a bs U one other L0 n w L)(i:n<↥other)(b:n∉L.map (·.1)){q:Pt}(r:GoodP a ↥bs ↥w q)(sq:Std U (w++[q]))(e:aV q (L.map (·.2))=aC bs other (L.map (·.1)) n)(l:Cw U bs w (L.map (·.2)) (aC bs other (L.map (·.1)) n)) :
  LayI a bs U one other L0 (n+1) (w++[q]) (L++[(n,↥w)]):=by
 obtain⟨t,p⟩:=h.ext;obtain⟨B,g⟩:=h.pre;obtain⟨k,f⟩:=LayI.two L n ↥w;show#[r.snoc h.gw,sq,#[t++[q],by rw[p];simp],?_,?_,?_,#[B++[(n,↥w)],by rw[g];simp],h.num' _,λx s u=>?_,λz=>h.no_all i b z,?_,λj x d=>?_]
 ·rw[f,NE];show qS h.op
 ·rw[k];show d6 h.oj i b
 ·rw[k,f,kh h.op.lt,aP,h.same,e]
 ·rw[f];rw[NE,Oq]at u
  by_cases y:x=↥w
  ·subst y;simp
  ·show Oo _ (h.new x s ∅)
 ·show h.fresh.imp id λ#[t,f1,f2,f3,f4]=>#[t++[(n,↥w)],by rw[f1];simp,?_,by rw[NE,NE,f3];rfl,?_]
  ·rw[N3,f2,NE,Oq,List.range'_1_concat,f3];rfl
  ·rw[N3,f4,yZ (h.not0 b)];rfl
 ·obtain⟨A,c⟩:=h.single j x d;have m:n=j:=h.is_one i b d;rcases c with c|c
  ·rw[A,c,m]at l;obtain⟨v,C,o⟩:=l x (by rw[d.2.1];rfl)
   rw[d.2.2 v C]at o;cases o
  ·show absurd (by rw[c,m];simp) b
def LayI.on (h:LayI a bs U one other L0 n w L)(i:n<↥other)(d:n∉L.map (·.1))(o:x<↥w)(c:x∉L.map (·.2))(e:aC bs w (L.map (·.2)) x=aC bs other (L.map (·.1)) n)(s:lg a bs U ↥bs) :
  LayI a bs U one other L0 (n+1) w (L++[(n,x)]):=by
 obtain⟨t,g⟩:=h.pre;obtain⟨l,f⟩:=LayI.two L n x;show#[h.gw,h.sw,h.ext,?_,?_,?_,#[t++[(n,x)],by rw[g];simp],h.num' _,λy q r=>?_,λz=>h.no_all i d z,.inl s,λj y k=>?_]
 ·rw[f];show d6 h.op o c
 ·rw[l];show d6 h.oj i d
 ·rw[l,f,aP,aP,h.same,e]
 ·rw[f];show Oo _ (h.new y q r)
 ·obtain⟨p,b⟩:=h.single j y k;have m:n=j:=h.is_one i d k;rcases b with b|b
  ·show#[p,.inr ?_];have:x∈aE ↥one (L0.map (·.2)):=lI.mpr #[by rw[<- p];show o,by rw[<- b];show c]
   rw[k.2.1,NT]at this;rw[b,m,this]
  ·show absurd (by rw[b,m];simp) d
abbrev bU (m:NF)(L:Pl):Ny NF:=(NQ m).map (kj L)
abbrev qT (n:NF)(ps:Ny NF):NF:=((NQ n).find? λi=>decide (i∉ps)).getD 0
abbrev iP (U:Ny (T×W))(bs:Ny NV)(other:Wd)(s:Wd×Pl)(i:NF):Wd×Pl:=
 if i∈s.2.map (·.1)then s else
 let r:=gk U bs s.1 (aE ↥s.1 (s.2.map (·.2))) (s.2.map (·.2),aC bs other (s.2.map (·.1)) i)
 if ↥r.1=↥s.1 then(s.1++[nL ↥s.1 r.1 r.2],s.2++[(i,↥s.1)])else(s.1,s.2++[(i,qT ↥s.1 r.1)])
abbrev vD (U:Ny (T×W))(bs:Ny NV)(one other:Wd)(L0:Pl):Wd×Ny NF:=let r:=(NQ ↥other).foldl (iP U bs other) (one,L0);(r.1,bU ↥other r.2)
structure LaidOk (a:NF)(bs:Ny NV)(U:Ny (T×W))(one other:Wd)(L0:Pl)(w:Wd)(pl:Ny NF):Prop where
 gw:GoodW a ↥bs w
 sw:Std U w
 ext:∃t,w=one++t
 len:↥pl=↥other
 ord:Ord ↥w pl
 part:ae bs w pl=other
 pairs:∀x∈L0,pl.getD x.1 0=x.2
 new:∀x,↥one<=x->x<↥w->x∈pl
 all:(∀j<↥other,j∈L0.map (·.1))->w=one/\pl=bU ↥other L0
 fresh:lg a bs U ↥bs\/((aE ↥other (L0.map (·.1))).map (λj=>pl.getD j 0)=SZ ↥one (↥w-↥one)/\↥w+↥L0=↥one+↥other)
 single:∀j x,Jd U bs one other L0 j x->w=one/\pl.getD j 0=x
 fn:vD U bs one other L0=(w,pl)
def gQ (nd:(L.map (·.1)).Nodup){p:NF×NF}(h:p∈L):kj L p.1=p.2:=by
 obtain⟨i,hi,rfl⟩:=Pq h;unfold kj;have a:i<(L.map (·.1)).length:=by rw[Nz];show hi
 have:(L.map (·.1)).idxOf L[i].1=i:=by
  have:=nd.idxOf_getElem i a;rw[Ru]at this;show this
 rw[this,NL,NO,NK hi];rfl
def LayI.done (r:GoodB bs)(go:GoodW a ↥bs other)(h:LayI a bs U one other L0 ↥other w L)(A:(NQ ↥other).foldl (iP U bs other) (one,L0)=(w,L)):LaidOk a bs U one other L0 w (bU ↥other L):=by
 have hl:(L.map (·.1)).length=↥other:=by
  have l:=bY _ _ h.oj.nd λj c=>NU.mpr (h.oj.lt j c)
  have m:=bY _ _ QV λj c=>h.num j (NU.mp c)
  rw[N7]at l m;omega
 have q:(L.map (·.2)).length=↥other:=by rw[Nz]at hl ⊢;show hl
 obtain⟨o,D,E⟩:=xD h.oj hl;have k:bU ↥other L=(gj ↥other (L.map (·.1))).map λi=>(L.map (·.2)).getD i 0:=by
  unfold bU gj;rw[OL];rfl
 have u:Ord (L.map (·.2)).length (gj ↥other (L.map (·.1))):=by rw[q];show o
 have pO:Ord ↥w (bU ↥other L):=by
  rw[k];show tz h.op u
 have d:∀p∈L,(bU _ L).getD p.1 0=p.2:=λp b=>by
  have c:=h.oj.lt _ (NS.mpr #[p,b,rfl]);unfold bU;rw[NL,NO,O8 c];show gQ h.oj.nd b
 have f:∀x,x∈L.map (·.2)->x∈bU _ L:=λx C=>by
  obtain⟨i,hi,rfl⟩:=Pq C;rw[q]at hi;have B:=dC o D hi;rw[k];show NS.mpr #[i,B,by rw[NL,NK (by rw[q];show hi)];rfl]
 show#[h.gw,h.sw,h.ext,by unfold bU;rw[Nz,N7],pO,?_,λp n=>?_,λx l m=>f x (h.new x l m),λz=>?_,?_,λj x s=>?_,by unfold vD;simp only[A]]
 ·rw[k,<- bO r h.gw h.op u,h.same,bO r go h.oj (by rw[hl];show o),E,tJ go]
 ·obtain⟨t,e⟩:=h.pre;have b:p∈L:=by rw[e];show Oo _ n
  have c:=h.oj.lt _ (NS.mpr #[p,b,rfl]);unfold bU;rw[NL,NO,O8 c];show gQ h.oj.nd b
 ·obtain⟨v,y⟩:=h.all z;rw[y];show#[v,rfl]
 ·show h.fresh.imp id λ#[t,f1,f2,f3,f4]=>#[?_,?_]
  ·rw[<- f4,OL,show ↥w-↥one=↥t by omega,<- f2]
   show ON λp n=>d p (by rw[f1];show Oj _ n)
  ·have:↥L=↥other:=by rw[Nz]at hl;show hl
   rw[f1,NE]at this;omega
 ·obtain⟨I,g⟩:=h.single j x s;have c:j∈aE ↥other (L0.map (·.1)):=by rw[s.1];show RY _
  obtain⟨G,H⟩:=lI.mp c;rcases g with g|g
  ·show absurd (g▸h.num j G) H
  ·show#[I,d (j,x) (by rw[g];simp)]
end
abbrev nM:Ss:=
 #v[.ret (.and (.isi "int" (.v 0)) (.not (.isi "bool" (.v 0))))]
abbrev iA:Ss:=
 #v[.ret (.and (.isi "tuple" (.v 0)) (.cmp .eq (.bi .len #v[.v 0]) (.v 1)))]
abbrev jt:Ss:=
 #v[.ret (.and (.own "is_tuple_of" 2 #v[.v 0,.v 1]) (.bi .all #v[.comp (.own "is_whole" 1 #v[.v 1]) (.nm 1) (.seq (.v 0)) .nil [dx,dx]]))]
abbrev qU:Ss:=
 #v[.ite (.not (.own "share_part" 4 #v[.v 0,.v 1,.v 2,.v 3])) #v[.bad] .nil,.set 4 (.own vr 1 #v[.v 0]),.set 5 (.bi .tuple #v[.bi .range #v[.bi .len #v[.ix (.v 0) (.k 1)]]]),.set 6 (.v 1),.set 7 (.bi .dict #v[.comp (.tup #v[.ix (.v 1) (.k 1),.ix (.v 1) (.k 0)]) (.nm 1) (.seq (.v 3)) .nil [dx,dx]]),.loop (.nm 8) (.rng #v[.bi .len #v[.v 2]]) #v[.ite (.cmp .notin (.v 8) (.v 7)) #v[.set 9 (.own pk 4 #v[.v 0,.v 2,.bi .list #v[.v 7],.v 8]),.set 10 (.own "spread_wish" 6 #v[.v 0,.v 4,.v 6,.bi .vals #v[.v 7],.v 9,.v 5]),.put (.v 7) (.v 8) (.own "place_of" 4 #v[.v 0,.v 6,.v 10,.v 8]),.ite (.cmp .eq (.ix (.v 7) (.v 8)) (.bi .len #v[.v 6])) #v[.set 6 (.op .add (.v 6) (.tup #v[.own "point_behind" 1 #v[.v 10]]))] .nil] .nil],.ret (.tup #v[.v 6,.bi .tuple #v[.comp (.ix (.v 2) (.v 1)) (.nm 1) (.rng #v[.bi .len #v[.v 2]]) .nil [dx,dx,ba 7]]])]
abbrev dX:Ss:=
 #v[.ite (.not (.bi .all #v[.comp (.own "is_numbers" 2 #v[.v 1,.k 2]) (.nm 1) (.seq (.v 3)) .nil [dx,dx]])) #v[.ret (.c (.bl false))] .nil,.set 4 (.comp (.ix (.v 1) (.k 0)) (.nm 1) (.seq (.v 3)) .nil [dx,dx]),.set 5 (.comp (.ix (.v 1) (.k 1)) (.nm 1) (.seq (.v 3)) .nil [dx,dx]),.ite (.or (.not (.own "are_points" 2 #v[.v 1,.v 4])) (.not (.own "are_points" 2 #v[.v 2,.v 5]))) #v[.ret (.c (.bl false))] .nil,.ret (.cmp .eq (.own pa 3 #v[.v 0,.v 1,.v 4]) (.own pa 3 #v[.v 0,.v 2,.v 5]))]
abbrev ju:Ss:=
 #v[.ret (.and (.bi .all #v[.comp (.chn .le .lt (.k 0) (.v 1) (.bi .len #v[.v 2])) (.nm 1) (.seq (.v 1)) .nil [dx,dx,ba 0]]) (.cmp .eq (.bi .len #v[.bi .set #v[.v 1]]) (.bi .len #v[.v 1])))]
abbrev fg:Ss:=
 #v[.set 3 (.bi .list #v[.v 3]),.set 6 (.own pa 3 #v[.v 0,.v 2,.v 3]),.set 8 (.comp (.v 1) (.nm 1) (.rng #v[.bi .len #v[.v 2]]) #v[.cmp .notin (.v 1) (.v 2)] [dx,dx,ba 3]),.loop (.nm 9) (.seq (.v 8)) #v[.set 10 (.own pk 4 #v[.v 0,.v 2,.v 3,.v 9]),.set 7 (.own "first_filling" 4 #v[.v 1,.op .add (.v 6) (.tup #v[.v 10]),.v 4,.v 5]),.ite (.cmp .is (.v 7) (.c .non)) #v[.ret (.tup #v[.v 3,.v 4])] .nil,.ex (.me .append (.v 3) #v[.v 9]),.set 6 (.op .add (.v 6) (.tup #v[.v 10])),.set 4 (.tup #v[.ix (.v 4) (.k 0),.op .add (.ix (.v 4) (.k 1)) (.tup #v[.v 7])])],.ret (.tup #v[.v 3,.v 4])]
abbrev ga:Ss:=
 #v[.loop (.nm 4) (.seq (.v 3)) #v[.ite (.cmp .is (.own qk 2 #v[.v 0,.op .add (.v 1) (.tup #v[.tup #v[.ix (.v 2) (.k 0),.op .add (.ix (.v 2) (.k 1)) (.tup #v[.v 4])]])]) (.c .non)) #v[.ret (.v 4)] .nil],.ret (.c .non)]
abbrev fS:Ss:=
 #v[.ite (.cmp .eq (.bi .len #v[.ix (.v 2) (.k 0)]) (.bi .len #v[.v 1])) #v[.ret (.bi .len #v[.v 1])] .nil,.set 4 (.bi .min #v[.comp (.v 1) (.nm 1) (.rng #v[.bi .len #v[.v 1]]) #v[.cmp .notin (.v 1) (.ix (.v 2) (.k 0))] [dx,dx,ba 2]]),.ite (.cmp .ne (.own pk 4 #v[.v 0,.v 1,.ix (.v 2) (.k 0),.v 4]) (.ix (.v 2) (.k 1))) #v[.bad] .nil,.ret (.v 4)]
abbrev gR:Ss:=
 #v[.set 1 (.bi .dzip #v[.ix (.v 0) (.k 0),.ix (.ix (.v 0) (.k 1)) (.k 1)]),.ret (.tup #v[.ix (.ix (.v 0) (.k 1)) (.k 0),.bi .tuple #v[.comp (.ix (.v 2) (.v 1)) (.nm 1) (.rng #v[.bi .len #v[.v 1]]) .nil [dx,dx,ba 1]]])]
def Fp (h:S[i]?=ba (.lst xs))(q:Q (.ref ↥S,S++[.lst xs])):wO (Bi.list.fn [.ref i] S) Q:=by
 show ab ?_ q;have a:re S i=dx:=by unfold re;rw[h]
 have b:fq [.ref i] S=ba (.ref ↥S,S++[.lst xs]):=by
  unfold fq;dsimp only
  rw[a];dsimp only
  unfold fU;dsimp only
  rw[show cQ S (.ref i)=ba _ from aG h]
 unfold Bi.fn n6;dsimp only
 rw[b]
def jv {α:Type}(L:Ny α):(L.map λ_=>W.bl true)=OB ↥L (.bl true):=List.map_const' ..
def qV (h:S[l]?=ba (.lst (OB n (.bl true))))(q:Q (.bl true,S)):wO (Bi.all.fn [.ref l] S) Q:=by
 show ab ?_ q;unfold Bi.fn DZ;dsimp only;rw[aG h];dsimp only;rw[j5,OJ,xv]
def Lw (a:0<=x)(b:x<y):DQ .le (.int 0) (.int x) S=ba true/\dF .lt (.int x) (.int y) S=ba (.bl true,S):=by
 show#[?_,?_]
 ·change ba (decide _)=_;rw[OS a]
 ·change ba (W.bl (decide _),S)=_;rw[OS b]
structure LayP (defs:Ny (Oc×Df)):Prop where
 way:Parts defs
 part:Is defs ("part": Oc) 3 3 gJ
 whole:Is defs ("is_whole": Oc) 1 1 nM
 tup:Is defs ("is_tuple_of": Oc) 2 2 iA
 nums:Is defs ("is_numbers": Oc) 2 2 jt
 three:Is defs ("three_at": Oc) 4 6 bu
 first:Is defs ("first_bar": Oc) 2 4 bn
 orders:Is defs ("longer_orders": Oc) 2 4 bB
 barred:Is defs ("barred_threes": Oc) 1 5 bW
 share:Is defs ("share_part": Oc) 4 6 dX
 pts:Is defs ("are_points": Oc) 2 2 ju
 spread:Is defs ("spread_wish": Oc) 6 11 fg
 fill:Is defs ("first_filling": Oc) 4 5 ga
 place:Is defs ("place_of": Oc) 4 5 fS
 behind:Is defs ("point_behind": Oc) 1 2 gR
 laid:Is defs ("laid": Oc) 4 11 qU
def vE (X:LayP defs)(k:Q (.bl true,S)):wO (aJ (aq defs fuel (d+1)) "is_whole" 1 [.int i] S) Q:=by
 show au X.whole rfl rfl λb a=>?_
 show st ?_;show ab rfl #[λ_=>?_,λz=>by cases z]
 show ab rfl (a _ _ k)
def vF (X:LayP defs){n:NF}(h:↥xs=n)(k:Q (.bl true,S)):wO (aJ (aq defs fuel (d+1)) "is_tuple_of" 2 [.tup xs,.int n] S) Q:=by
 show au X.tup rfl rfl λa b=>?_
 change wZ _ _ _ [ba _,ba _] S a;show st ?_;left;show ab rfl #[λ_=>?_,λz=>by cases z]
 show az (ab im ?_);rw[h,Os];show b _ _ k
def qW (X:LayP defs){n:NF}(h:↥xs=n)(g:n<=1000)(k:∀a,Ka S a->Q (.bl true,a)):wO (aJ (aq defs fuel (d+2)) "is_numbers" 2 [.tup (am xs),.int n] S) Q:=by
 show au X.nums rfl rfl λf e=>?_
 show st ?_;left;show vF  X (by unfold am;rw[Nz];show h) #[λ_=>?_,λz=>by cases z]
 show iN xs _ (λ_=>true) (λ_=>.bl true) [] rfl rfl rfl rfl ∅ #[rfl,.refl] (λx _ c b=>?_) λc b=>?_
 ·show#[λ_=>vE  X #[rfl,rfl,.refl],λz=>by cases z]
 ·rw[bc,jv];show qV af (e _ _ (k _ (b.trans .push)))
def lJ (X:LayP defs){a :NF}(t:GoodB bs)(hl:↥c=↥bs)(x:GoodW a ↥bs u)(f:∀p∈ps,p<↥u/\i≠p)(hi:i<↥u)(hsz:↥ps<=1000)(s:S[l]?=ba (.lst (ac ps)))(k:∀b,Ka S b->Q (aN (aC bs u ps i),b)) :
  wO (aJ (aq defs fuel (d+2)) pk 4 [.tup [m0,.tup (NW aH c bs),b0],aA u,.ref l,.int i] S) Q:=by
 show au X.way.over rfl rfl λj m=>?_
 replace k:∀b,Ka S b->j (.rt (aN (aC bs u ps i)),b):=λb a=>m _ _ (k b a)
 clear m;change wZ _ _ bD [ba (.tup [m0,.tup (NW aH c bs),b0]),ba (aA u),ba (.ref l),ba (.int i)] S j;generalize e:W.tup [m0,.tup (NW aH c bs),b0]=R;delta bD;show st ?_;left;show ag (NX i) (dL hi) (ag #v[] rfl ?_)
 show iM ps (λ(q:NF)=>W.int (q:NV)) (λ_=>true) (λq=>W.int (bh bs u i q)) [ba (.int i),ba R,ba (aA u)] rfl rfl rfl rfl ∅ #[l,rfl,s,.refl] (λq w r n=>?_) λr n=>?_
 ·delta eB wC wE wA wV wG;subst e;obtain⟨h,g⟩:=f q w;show#[λ_=>B7 (d:=d) X.way t hl x hi h g #[rfl,rfl,.refl],λz=>by cases z]
 ·rw[bc];show c8 af ?_;have:=k _ (n.trans (Ka.push (o:=O.lst (ps.map λq=>W.int (bh bs u i q)))))
  unfold aN aC at this;rw[OL]at this;show this
def vG (X:LayP defs){a :NF}(E:GoodB bs)(hl:↥n=↥bs)(I:GoodW a ↥bs u)(v:Ord ↥u ps)(hsz:↥ps<=1000)(A:S[l]?=ba (.lst (ac ps)))(k:∀c,Ka S c->Q (aA (ae bs u ps),c)) :
  wO (aJ (aq defs fuel (d+3)) pa 3 [.tup [m0,.tup (NW aH n bs),b0],aA u,.ref l] S) Q:=by
 show au X.part rfl rfl λy B=>?_
 replace k:∀c,Ka S c->y (.rt (aA (ae bs u ps)),c):=λc a=>B _ _ (k c a)
 clear B;change wZ _ _ gJ [ba (.tup [m0,.tup (NW aH n bs),b0]),ba (aA u),ba (.ref l)] S y;generalize x:W.tup [m0,.tup (NW aH n bs),b0]=R;delta gJ;show st ?_;delta wS wE wA;show Bm l (ac ps) (λj o r b=>(∃s t,r=[dx,s,t,ba (.ref l),ba R,ba (aA u)])/\o=((ae bs u ps).take j).map aN/\Ka S b) rfl rfl rfl #[rfl,#[dx,dx,rfl],rfl,.refl] (λi o Z b h=>h.2.2.get _ _ A) ?_ ?_
 ·rintro j w o r b hw ⟨⟨s,t,rfl⟩,rfl,g⟩;unfold ac at hw;rw[NO,NB]at hw;obtain⟨q,f,rfl⟩:=hw;have G:j<↥ps:=(NZ.mp f).1;have eq:q=ps[j]:=(NZ.mp f).2.symm;show ab (show mI (.tp [1,2]) (.tup [.int (j:NV),.int (q:NV)]) [dx,s,t,ba (.ref l),ba R,ba (aA u)] b=ba ([dx,ba (.int (j:NV)),ba (.int (q:NV)),ba (.ref l),ba R,ba (aA u)],b)from rfl) ?_
  delta eB wC wE wA wP wV wG wN;show#[λ_=>ab (a:=(.ref ↥b,b++[.lst (ac (ps.take j))])) ?_ ?_,λz=>by cases z]
  ·simp only[t8,aG (g.get _ _ A),fE];unfold ac;rw[Rh]
  ·subst x;show lJ (d:=d) X E hl I (λp C=>#[v.lt p (Ql C),?_]) (v.lt q (N1 f)) (by rw[Om];omega) af λL J=>#[#[_,_,rfl],?_,g.trans (Ka.push.trans J)]
   ·obtain⟨m,H,e⟩:=Pk.mp C;rw[Om]at H;rw[P3]at e;rw[eq,<- e];intro z;have:=(PD v.nd).mp z;omega
   ·have D:(ae bs u ps)[j]?=ba (aC bs u (ps.take j) q):=by
     unfold ae aC;rw[NO,O8 G,OJ,getD_some f]
    rw[Ol,D];simp
 ·rintro o r b ⟨_,rfl,g⟩;rw[show(ac ps).length=(ae bs u ps).length by rw[aF];show Nz ..,Ou]
  show#[jB (by rw[Nz,aF];show hsz),c8 af (k _ (g.trans .push))]
def iQ:∀ps:Ny NF,mE (ac ps)=ba (ps.map λ(p:NF)=>(p:NV))
 |[]=>rfl
 |p::ps=>by
  show(mE (ac ps)).map _=_;rw[iQ ps];rfl
def lK {ps:Ny NF}(h:ps.Nodup):(ps.map λ(p:NF)=>(p:NV)).Nodup:=by
 rw[Qw,P4];show h.imp λa e=>a (Int.ofNat_inj.mp e)
def Je (h:S[l]?=ba (.lst (ac ps)))(nd:ps.Nodup)(hl:↥ps<=1000)(q:Q (.ref ↥S,S++[.sti ↥ps])):wO (Bi.set.fn [.ref l] S) Q:=by
 show ab ?_ q;have a:mF [.ref l] S=ba (.ref ↥S,S++[.sti ↥ps]):=by
  unfold mF;dsimp only
  rw[aG h];dsimp only
  rw[iQ];dsimp only
  rw[Ob (by rw[Nz];show hl),sg (lK nd),Nz]
 unfold Bi.fn n6;dsimp only;rw[show jP [.ref l] S=dx from rfl];show a
def Jf (nd:ps.Nodup)(hl:↥ps<=1000)(q:Q (.ref ↥S,S++[.sti ↥ps])):wO (Bi.set.fn [.tup (ac ps)] S) Q:=by
 show ab ?_ q;have a:jP [.tup (ac ps)] S=ba (.ref ↥S,S++[.sti ↥ps]):=by
  unfold jP;dsimp only;rw[iQ];dsimp only
  rw[Ob (by rw[Nz];show hl),sg (lK nd),Nz]
 unfold Bi.fn n6;dsimp only;rw[a]
def Cz (h:S[l]?=ba (.sti n))(c:n<=1000)(q:Q (.int (n:NF),S)):wO (Bi.len.fn [.ref l] S) Q:=by
 show ab ?_ q;have a:kX [.ref l] S=dx:=by
  unfold kX;dsimp only
  rw[show fL S l=dx from by unfold fL;rw[h]]
  show(ec S l).map _=_;rw[show ec S l=dx from by unfold ec;rw[h]];rfl
 have b:uP [.ref l] S=ba (.int n,S):=by
  unfold uP;dsimp only
  rw[h];show Ob c
 unfold Bi.fn n6;dsimp only
 rw[a];dsimp only;rw[b]
def GB (X:LayP defs)(c:Ord ↥u ps)(hl:↥ps<=1000)(e:S[l]?=ba (.lst (ac ps)))(k:∀b,Ka S b->Q (.bl true,b)):wO (aJ (aq defs fuel (d+1)) "are_points" 2 [aA u,.ref l] S) Q:=by
 show au X.pts rfl rfl λs j=>?_
 have r:(u.map aN).length=↥u:=Nz ..;have p:(ac ps).length=↥ps:=Nz ..;show st ?_;left;show iM ps (λq=>W.int q) (λ_=>true) (λ_=>.bl true) [ba _] rfl rfl rfl rfl (by show N9 ‹_› (OA rfl)) #[l,rfl,e,.refl] (λq m g f=>?_) λg f=>?_
 ·delta eB wC wE wA wV wG;have n:=c.lt q m;obtain⟨h,i⟩:=Lw  (x:=q) (y:=↥u) (by show NX _) ∅
  show#[λ_=>ab h #[λ_=>az ?_,λz=>by cases z],λz=>by cases z]
  rw[r];show ab i #[rfl,rfl,.refl]
 ·rw[bc,jv];show qV af #[λ_=>?_,λz=>by cases z]
  have a:=f.trans (Ka.push (o:=O.lst (OB ↥ps (.bl true))));show Je (a.get _ _ e) c.nd hl (Cz af hl (kL (aB (a.get _ _ e)) ?_));rw[p];show ab im ?_;rw[Os];show j _ _ (k _ (a.trans .push))
abbrev ou (p:NF×NF):W:=.tup [.int (p.2:NF),.int (p.1:NF)]
def Fq (X:LayP defs){a:NF}{L0:Pl}(B:GoodB bs)(g:↥n=↥bs)(N:GoodW a ↥bs one)(P:GoodW a ↥bs other)(x:Ord ↥one (L0.map (·.2)))(y:Ord ↥other (L0.map (·.1)))(hl:↥L0<=900)
  (T:ae bs one (L0.map (·.2))=ae bs other (L0.map (·.1))) (k:∀j,Ka S j->Q (.bl true,j)) :
  wO (aJ (aq defs fuel (d+4)) "share_part" 4 [.tup [m0,.tup (NW aH n bs),b0],aA one,aA other,.tup (L0.map ou)] S) Q:=by
 show au X.share rfl rfl λq A=>?_
 replace k:=λj a=>A _ _ (k j a)
 clear A;change wZ _ _ dX [ba (.tup [m0,.tup (NW aH n bs),b0]),ba (aA one),ba (aA other),ba (.tup (L0.map ou)),dx,dx] S q;have Z:(L0.map (·.1)).length=↥L0:=Nz ..
 have l2:(L0.map (·.2)).length=↥L0:=Nz ..
 generalize t:W.tup [m0,.tup (NW aH n bs),b0]=R;delta dX;nofun
 delta wS wT wA;show iN L0 ou (λ_=>true) (λ_=>.bl true) [] rfl rfl rfl rfl ∅ #[rfl,.refl] (λp _ w C=>?_) λw C=>?_
 ·delta eB wC wE wA wV wG;show#[λ_=>qW  (xs:=[(p.2),(p.1)])  X rfl #v[] λM m=>#[rfl,rfl,m],λz=>by cases z]
 rw[bc,jv];show qV af ?_;show ab rfl ?_;show ah (Q0:=q) (λz=>by cases z) (λ_ I b _=>aW (b _ _ (hK _ _ ?_)))
 clear hK b K;have m:=C.trans (Ka.push (o:=O.lst (OB ↥L0 (.bl true))));generalize w++[O.lst (OB ↥L0 (.bl true))]=M at m ⊢;show st ?_;left;show iN L0 ou (λ_=>true) (λp=>.int (p.2)) [] rfl rfl rfl rfl ∅ #[rfl,.refl] (λp _ e D=>?_) λe D=>?_
 ·delta eB wC wE wV wG;show#[λ_=>ag #v[] rfl #[rfl,rfl,.refl],λz=>by cases z]
 rw[bc,show(L0.map λp=>W.int (p.2))=ac (L0.map (·.2)) by unfold ac;rw[OL];rfl]
 have r:(e++[O.lst (ac (L0.map (·.2)))])[↥e]?=ba (.lst (ac (L0.map (·.2)))):=af
 have E:=m.trans (D.trans (Ka.push (o:=O.lst (ac (L0.map (·.2))))))
 generalize e++[O.lst (ac (L0.map (·.2)))]=S5 at r E ⊢
 generalize ↥e=q1 at r ⊢;show st ?_;left;show iN L0 ou (λ_=>true) (λp=>.int (p.1)) [] rfl rfl rfl rfl ∅ #[rfl,.refl] (λp _ f G=>?_) λf G=>?_
 ·delta eB wC wE wV wG;show#[λ_=>ag #v[] rfl #[rfl,rfl,.refl],λz=>by cases z]
 rw[bc,show(L0.map λp=>W.int (p.1))=ac (L0.map (·.1)) by unfold ac;rw[OL];rfl]
 have l:(f++[O.lst (ac (L0.map (·.1)))])[↥f]?=ba (.lst (ac (L0.map (·.1)))):=af
 have i:=G.trans (Ka.push (o:=O.lst (ac (L0.map (·.1)))))
 have s:=i.get _ _ r;replace i:=E.trans i;generalize f++[O.lst (ac (L0.map (·.1)))]=S7 at l s i ⊢
 generalize ↥f=q2 at l ⊢;nofun
 delta wS wT wA wE wV wG NG;show GB  X x ∅ s λV H=>?_
 show ab rfl #[λz=>(by cases z),λ_=>?_]
 show GB  X y ∅ (H.get _ _ l) λY U=>?_
 show ab rfl ?_;show ah (Q0:=q) (λz=>by cases z) (λ_ I b _=>aW (b _ _ (hK _ _ ?_)))
 clear hK b K;have c:=H.trans U;subst t;show st ?_;left;show vG  X B g N x ∅ (c.get _ _ s) λJ h=>?_
 show vG  X B g P y ∅ ((c.trans h).get _ _ l) λL u=>?_
 show ab IS ?_;rw[OS T];show k _ (i.trans (c.trans (h.trans u)))
def lL {p:Pt}(h:↥u<1000):gS .add (aA u) (.tup [aN p]) S=ba (aA (u++[p]),S):=by
 unfold aA;show(cM (by rw[NE,Nz,Oq];show jB (by show ‹_›))).trans ?_
 rw[N3];rfl
def Jg (X:LayP defs){a  q:NF}{x p:Pt}(D:GoodW a n (u++[x]))(g:GoodP a n ↥u p)(hl:↥u<=900)(I:n<=3)(e:S[q]?=ba (.dic U))
  (k:∀w,((∃v:NF,v<n/\w=.int v/\cr U (u++[x]++[bx p v])=true/\∀G<v,cr U (u++[x]++[bx p G])=false)\/(w=.non/\∀v<n,cr U (u++[x]++[bx p v])=false))->Q (w,S)) :
  wO (aJ (aq defs fuel (d+3)) "first_filling" 4 [.ref q,aA (u++[x]),aN p,.tup (ac (NQ n))] S) Q:=by
 show au X.fill rfl rfl λH C=>?_
 replace k:=λw h=>C _ _ (k w h)
 have s:(u++[x]).length=↥u+1:=by simp
 nofun
 show for_tup _ (λi Z A=>(∃f,Z=[ba _,ba _,ba _,ba _,f])/\A=S/\∀v<i,cr U (u++[x]++[bx p v])=false) rfl rfl #[rfl,#[_,rfl],rfl,λv b=>by show absurd ‹_› (P7 _)] ?_ ?_
 ·rintro i w Z S1 hw ⟨⟨f,rfl⟩,rfl,c⟩;unfold ac at hw;rw[NO,NB]at hw;obtain⟨v,b,rfl⟩:=hw;obtain⟨hi,b⟩:=NZ.mp b;rw[N7]at hi;rw[SM]at b;subst b;show ab (show mI _ _ [ba (.ref q),ba (aA (u++[x])),ba (aN p),ba (.tup (ac (NQ n))),f] S1=ba ([ba (.ref q),ba (aA (u++[x])),ba (aN p),ba (.tup (ac (NQ n))),ba (.int i)],S1)from rfl) λt l o=>?_
  nofun
  delta wS wT wE wA wV wG;show ag #v[] rfl (ag #v[] rfl ?_)
  show ab (cM (by rw[NE,Nz,g.len];show jB (by revert Oq;omega))) ?_
  rw[show W.tup [.int p.1,.tup (p.2.map W.int++[.int i])]=aN (bx p i) by delta bx aN;rw[N3];rfl]
  show ab (lL ∅) ?_
  have b:GoodW a n (u++[x]++[bx p i]):=D.snoc   g.mark (by rw[NE,g.len,s];rfl) λz E=>by
   rcases Oa.mp E with h|h
   ·show g.way z h
   ·rw[NT.mp h];omega
  show gL  X.three X.first b (by simp) (by simp;show N9 ‹_› (OA rfl)) e λw hw=>?_
  rcases hw with⟨rfl,j⟩|⟨z,rfl,j⟩
  ·show ab rfl ?_;delta wB;show ah (Q0:=t) (λ_ y _ r=>?_) (λz=>by cases z)
   show st ?_;show r _ _ (o _ _ (k _ (.inl #[i,hi,rfl,j,c])))
  ·show ab rfl ?_;delta wB;show ah (Q0:=t) (λz=>by cases z) (λ_ y m _=>aW (m _ _ (hK _ _ (aW (l _ _ #[#[_,rfl],rfl,λv b=>?_])))))
   by_cases B:v=i
   ·subst B;show j
   ·show c v ∅
 ·rintro Z S1 ⟨⟨f,rfl⟩,rfl,c⟩;show hK _ _ (st ?_);show k _ (.inr #[rfl,λv b=>c v (by unfold ac;rw[Nz,N7];show b)])
def tK { p:NF}(h:S[l]?=ba (.lst (ac ps))):bK .notin (.int p) (.ref l) S=ba (.bl (decide (p∉ps)),S):=by
 have a:(aR (.int p)&&(ac ps).all aR)=true:=by rw[j7];rfl
 show(match fL S l with
  |some U=>(eL _).map λk=>(W.bl _,S)
  |none=>dF _ _ _ S)=_
 rw[gX h];show(qB (qA (show cQ S (.ref l)=ba _ from aG h) a (jm ps))).trans ?_
 congr 3
 by_cases h:p∈ps<;>simp[h]
section
variable{n:NF}{ps:Ny NF}
def xF:(aE n ps).Pairwise (· < ·):=List.pairwise_lt_range.filter _
def mem_rest :x∈aE n ps↔x<n/\x∉ps:=by
 unfold aE;rw[OY,NU,Og]
def Fs (m:Ord n ps)(l:(aE n ps)[i]?=ba x):x<n/\x∉ps++(aE n ps).take i/\(∀y<x,y∈ps++(aE n ps).take i)/\Ord n (ps++(aE n ps).take i)/\(aE n ps).take (i+1)=(aE n ps).take i++[x]:=by
 obtain⟨hi,e⟩:=NZ.mp l;have up:=xF (n:=n) (ps:=ps);have k:=mem_rest.mp (N1 l);have nd:(aE n ps).Nodup:=up.imp λh=>Oe h
 have lt:∀j (c:j<(aE n ps).length),j<i->(aE n ps)[j]<x:=λj c d=>by
  rw[<- e];show SR.mp up j i c hi d
 have t:x∉(aE n ps).take i:=λz=>by
  obtain⟨j,c,g⟩:=Pk.mp z;rw[Om]at c;rw[P3]at g;have:=lt j ∅ ∅
  omega
 show#[k.1,λz=>?_,λy s=>?_,#[?_,λp r=>?_],?_]
 ·rcases Oa.mp z with z|z
  ·show k.2 z
  ·show t z
 ·by_cases f:y∈ps
  ·show Oo _ f
  ·show Oj _ ?_;obtain⟨j,c,g⟩:=Pk.mp (mem_rest.mpr #[Pw s k.1,f]);have d:j<i:=by
    rcases VE j i with h|h|h
    ·show h
    ·subst h;rw[e]at g;omega
    ·have:=SR.mp up i j hi c h;omega
   show Pk.mpr #[j,by rw[Om];omega,by rw[P3];show g]
 ·rw[OZ];show#[m.nd,(Vo _ _).nodup nd,λa o b q e=>?_]
  subst e;show(mem_rest.mp (Ql q)).2 o
 ·rcases Oa.mp r with h|h
  ·show m.lt p h
  ·show(mem_rest.mp (Ql h)).1
 ·rw[Ol,l];rfl
def CA (d:Ord n ps):Ord n (ps++aE n ps)/\(ps++aE n ps).length=n:=by
 have up:=xF (n:=n) (ps:=ps);have nd:=up.imp λh=>Oe h
 have o:Ord n _:=#[by
  rw[OZ];show#[d.nd,nd,λa i b k e=>?_]
  subst e;show(mem_rest.mp k).2 i,λp l=>by
  rcases Oa.mp l with h|h
  ·show d.lt p h
  ·show(mem_rest.mp h).1]
 show#[o,?_];have f:=bY _ _ o.nd λj c=>NU.mpr (o.lt j c)
 have g:=bY _ (ps++aE n ps) QV λj c=>by
  by_cases h:j∈ps
  ·show Oo _ h
  ·show Oj _ (mem_rest.mpr #[NU.mp c,h])
 rw[N7]at f g;omega
end
def CB (X:LayP defs){a q :NF}{B:Pt}(J:GoodB bs)(hnl:↥ns=↥bs)(E:↥bs<=3)(cl:Cl bs U)(hno:¬ lg a bs U (↥bs+1))(Y:GoodW a ↥bs w)(sw:Std U w)(hl:↥w<=800)
  (hO:Ord ↥w b) (gp:GoodP a ↥bs ↥b B) (mp:eI U (ae bs w b) ↥b B=true) (e:S[q]?=ba (.dic U)) (e0:S[l0]?=ba (.lst (ac b)))
  (k:∀l ps p A,SprF a bs U w b B ps p->A[l]?=ba (.lst (ac ps))->Ka S A->Q (.tup [.ref l,aN p],A)) :
  wO (aJ (aq defs fuel (d+4)) "spread_wish" 6 [.tup [m0,.tup (NW aH ns bs),b0],.ref q,aA w,.ref l0,aN B,.tup (ac (NQ ↥bs))] S) Q:=by
 show au X.spread rfl rfl λQ' hR=>?_
 replace k:=λl ps p A h1 h2 h3=>hR _ _ (k l ps p A h1 h2 h3)
 change wZ _ _ fg [ba (.tup [m0,.tup (NW aH ns bs),b0]),ba (.ref q),ba (aA w),ba (.ref l0),ba (aN B),ba (.tup (ac (NQ ↥bs))),dx,dx,dx,dx,dx] S Q';have hpl:↥b<=800:=by
  have:=bY _ (NQ ↥w) hO.nd λj hj=>NU.mpr (hO.lt j hj)
  rw[N7]at this;show N9 ‹_› ‹_›
 generalize P:W.tup (ac (NQ ↥bs))=O5;generalize r:W.tup [m0,.tup (NW aH ns bs),b0]=R;show st ?_;left;show Fp e0 ?_;have e1:(S++[O.lst (ac b)])[↥S]?=ba (.lst (ac b)):=af;show st ?_;left;subst r;show vG  X J hnl Y hO ∅ e1 λS2 k2=>?_
 generalize r:W.tup [m0,.tup (NW aH ns bs),b0]=R;have e2:=k2.get _ _ e1;have k2':=Ka.push.trans k2;have hS2:=bQ e2;clear e1;show st ?_;left;show fR ↥w (λi=>decide (i∉b)) (λi=>.int i) [ba (.ref ↥S)] rfl rfl rfl rfl ∅ ?_ (λi hi L k3=>?_) λL k3=>?_
 ·left;show az #[?_,.refl];rw[Nz]
 ·delta eB wC wT wE wV wG;show ab (tK (k3.get _ _ e2)) ?_;delta wB;show#[λz=>#[z,rfl,.refl],λz=>#[z,.refl]]
 have e4:(L++[O.lst (ac (aE ↥w b))])[↥L]?=ba (.lst (ac (aE ↥w b))):=af;have k4:Ka S2 (L++[O.lst (ac (aE ↥w b))]):=k3.trans .push;have hlr:=N5 hS2 k3.len;change wZ _ _ _ _ (L++[O.lst (ac (aE ↥w b))]) Q';generalize L++[O.lst (ac (aE ↥w b))]=S4 at e4 k4 ⊢;generalize ↥L=lr at e4 hlr ⊢;nofun
 show lE lr (ac (aE ↥w b)) (λi Z A=>(∃p a7 a9 M,Z=[ba R,ba (.ref q),ba (aA w),ba (.ref ↥S),ba (aN p),ba O5,ba (aA (ae bs w (b++(aE ↥w b).take i))),a7,ba (.ref lr),a9,M]/\gk U bs w (aE ↥w b) (b,B)=gk U bs w ((aE ↥w b).drop i) (b++(aE ↥w b).take i,p)/\(∃vs,p=(B.1,B.2++vs)/\(i=0->vs=[])/\(i=0\/Cw U bs w b B))/\GoodP a ↥bs (b++(aE ↥w b).take i).length p/\eI U (ae bs w (b++(aE ↥w b).take i)) (b++(aE ↥w b).take i).length p=true)/\A[↥S]?=ba (.lst (ac (b++(aE ↥w b).take i)))/\A[lr]?=ba (.lst (ac (aE ↥w b)))/\Ka S A) rfl rfl ?_ (λi Z A h=>h.2.2.1) ?_ ?_
 ·left;show#[rfl,#[B,_,_,_,by rw[Qm,Oz],by rw[Qm,Oz,WF],#[[],by rw[Oz],λ_=>rfl,.inl rfl],by rw[Qm,Oz];show gp,by rw[Qm,Oz];show mp],by rw[Qm,Oz];show k4.get _ _ e2,e4,k2'.trans k4]
 ·rintro i x Z S5 H ⟨⟨p,a7,a9,M,rfl,c,⟨vs,n,hv0,t⟩,g,o⟩,N,er,k5⟩;unfold ac at H;rw[NO,NB]at H;obtain⟨x,H,rfl⟩:=H;obtain⟨r1,r2,r3,C,r5⟩:=Fs hO H;clear hK;have e5:=k5.get _ _ e;have hll:=bQ N;have hdr:(aE ↥w b).drop i=x::(aE ↥w b).drop (i+1):=List.drop_eq_getElem?_toList_append.trans (by rw[H];rfl)
  generalize G:b++(aE ↥w b).take i=ps at g o N r2 r3 C c ⊢;rw[hdr]at c;have r6:b++(aE ↥w b).take (i+1)=ps++[x]:=by rw[r5,<- OO,G]
  show ab rfl λQ2 hn2 hr2=>?_
  rw[r6]at hn2;have hps2:↥ps<=800:=by
   have:=bY _ (NQ ↥w) C.nd λj hj=>NU.mpr (C.lt j hj)
   rw[N7]at this;omega
  have o2:=d6 C r1 r2;have gb:=cx J Y o2.lt o2.nd;have sb:=sw.part J cl Y o2;rw[aP]at gb sb;have I:(ae bs w ps).length=↥ps:=aF ..;obtain⟨sb1,mx⟩:=Std.both.mp sb;have ex:(ae bs w ps++[aC bs w ps x])[↥ps]?=ba (aC bs w ps x):=by
   rw[Ox (by rw[I];show NP _),I,Qh];rfl
  have gx:GoodP a ↥bs (ae bs w ps).length (aC bs w ps x):=#[gb.mark _ _ ex,by rw[gb.len _ _ ex,I],gb.way _ _ ex]
  have f:GoodP a ↥bs (ae bs w ps).length p:=by rw[I];show g
  have u:eI U (ae bs w ps) (ae bs w ps).length p=true:=by rw[I];show o
  show st ?_;left;subst r;show lJ  X J hnl Y (λy V=>#[C.lt y V,λz=>r2 (z▸V)]) r1 ∅ N λS6 k6=>?_
  generalize r:W.tup [m0,.tup (NW aH ns bs),b0]=R;show st ?_;left;show ab (lL (by rw[I];omega)) ?_
  subst P;show Jg  X gb f (by rw[I];omega) E (k6.get _ _ e5) λwv hw=>?_
  generalize P:W.tup (ac (NQ ↥bs))=O5;have D:=k6.get _ _ N;have er6:=k6.get _ _ er;have k7:=k5.trans k6;nofun
  delta wS wT wE wV;rcases hw with⟨v,hv,rfl,m,hlst⟩|⟨rfl,s⟩
  ·show ab (rfl) ?_;delta wB;show ah (Q0:=Q2) (λz=>by cases z) (λ_ Q3 E _=>aW (E _ _ (hK _ _ ?_)))
   clear hK K E;obtain⟨g2,m2⟩:=Cu f u hv m;rw[I]at g2 m2;show st ?_;left;show#[cN D,kK D (by unfold ac;rw[Nz];omega) ?_]
   show st ?_;left;show ab (lL (by rw[I];omega)) ?_
   show st ?_;left;show ag #v[] rfl (ag #v[] rfl ?_)
   subst r;subst P;show ab (cM (by rw[NE,Nz,g.len];show jB (by revert Oq;omega))) (aW (hn2 _ _ #[#[(p.1,p.2++[(v:NV)]),ba (.int v),ba (.int x),ba (aN (aC bs w ps x)),?_,?_,#[vs++[(v:NV)],?_,(λz=>by cases z),.inr ?_],?_,?_],?_,?_,?_]))
   ·rw[show W.tup [.int p.1,.tup (p.2.map W.int++[.int (v)])]=aN (p.1,p.2++[(v:NV)]) by unfold aN;rw[N3];rfl,aP]
   ·have e:dQ U bs w (ps,p) x=ba (ps++[x],bx p v):=by
     unfold dQ;rw[Th.mpr #[m,NU.mpr hv,λj hj=>by rw[hlst j hj];rfl]];rfl
    rw[c,gk,e];rfl
   ·rw[n,OO]
   ·rcases t with h0|h0
    ·subst h0;rw[Qm,Oz]at G;intro y V;rw[H]at V;have V:=OT V;rw[hv0 rfl,Oz]at n;rw[n,<- G]at m;show#[v,hv,V▸m]
    ·show h0
   ·rw[NE];show g2
   ·rw[aP,NE];show m2
   ·rw[bg D];unfold ac;rw[N3];rfl
   ·rw[be ∅];show er6
   ·show k7.late (NP _)
  ·show ab rfl ?_;delta wB;show ah (Q0:=Q2) (λ_ Q3 _ hr3=>?_) (λz=>by cases z)
   show st ?_;left;have same:=Cv hno J (cx J Y C.lt C.nd) sb1 gx mx f u s;show hr3 _ _ (hr2 _ _ (k _ ps p _ #[#[_,vs,G.symm,n],by
    have e:dQ U bs w (ps,p) x=dx:=by
     unfold dQ;rw[Qf.mpr λv hv=>by rw[s v (NU.mp hv)];decide];rfl
    rw[c,gk,e],C,g,o,.inr #[x,r1,r2,r3,same,#[_,_,_,#[cx J Y C.lt C.nd,sb1,gx,mx,f,u],xE J f s]]] D k7))
 ·rintro Z S5 ⟨⟨p,a7,a9,M,rfl,c,⟨vs,n,_,t⟩,g,o⟩,N,er,k5⟩;have nl:(ac (aE ↥w b)).length=(aE ↥w b).length:=Nz ..;rw[nl,Ou]at g o N;rw[nl,Ou,VX]at c;obtain⟨o2,l2⟩:=CA hO;show hK _ _ (st ?_);left;show k _ _ p S5 #[#[_,vs,rfl,n],c,o2,g,o,.inl #[l2,t.elim (λz x H=>absurd (NZ.mp H).1 (by rw[<- nl,z];show Pf 0)) id]] N k5
def nN:∀{b a:Ny (NV×W)},((a++b).map (·.1)).Nodup->oU a b=a++b
 |[],a,_=>by rw[Oz];rfl
 |(k,v)::b,a,h=>by
  have hk:(a.any λp=>decide (p.1=k))=false:=by
   rw[Rm];intro p c z;rw[N3,OZ]at h;show h.2.2 p.1 (NS.mpr #[p,c,rfl]) k (by simp) (OC z)
  change oU (nX a k v) _=_;have e:nX a k v=a++[(k,v)]:=by
   unfold nX;rw[hk,Ot OG]
  rw[e,nN (by simpa using h)]
  simp
abbrev y6 (ps:Ny NF)(vs:Ny NV):Ny (NV×W):=NW (λ(j:NF) (x:NV)=>((j:NV),W.int x)) ps vs
def pB:∀{ps:Ny NF}{vs:Ny NV},dj (sa (ac ps) (vs.map W.int))=ba (y6 ps vs)
 |[],_=>rfl
 |_::_,[]=>rfl
 |p::ps,v::vs=>by
  show(dj (sa (ac ps) _)).map _=_;rw[pB];rfl
def tL:∀{ps:Ny NF}{vs:Ny NV},↥ps=↥vs->(y6 ps vs).map (·.1)=ps.map λ(p:NF)=>(p:NV)
 |[],[],_=>rfl
 |p::ps,v::vs,h=>by
  show(p:NV)::(y6 ps vs).map _=_;rw[tL (by simpa using h)];rfl
 |[],_::_,h=>by cases h
 |_::_,[],h=>by cases h
def xG (k:NF):∀{ps:Ny NF}{vs:Ny NV},↥ps=↥vs->k∈ps->ee (y6 ps vs) k=ba (.int (vs.getD (ps.idxOf k) 0))
 |p::ps,v::vs,h,hk=>by
  by_cases e:p=k
  ·subst e;simp[y6,ee]
  ·have b:¬ (p=(k:NV)):=∅
   have a:k∈ps:=by
    rcases Of.mp hk with z|z
    ·show absurd z.symm e
    ·show z
   have ih:=xG k   (by simpa using h) a
   have c:ee (y6 (p::ps) (v::vs)) k=ee (y6 ps vs) k:=by
    simp[y6,ee,b]
   rw[c,ih,Wj];have:(p==k)=false:=by simpa using e
   rw[this];rfl
 |[],_,_,hk=>by cases hk
 |_::_,[],h,_=>by cases h
def Jh (h:S[l]?=ba (.lst (ac ps)))(nd:ps.Nodup)(hl:↥ps=↥vs)(q:Q (.ref ↥S,S++[.dik (y6 ps vs)])):wO (Bi.dzip.fn [.ref l,.tup (vs.map W.int)] S) Q:=by
 show ab ?_ q;have a:ED S (.ref l)=ba _:=aG h;unfold Bi.fn wK;dsimp only
 rw[a];show(dj _).map _=_;rw[pB,OJ];rw[nN (by rw[T8,tL hl];show lK nd)]
 rfl
def hZ (h:S[l]?=ba (.dik U)):tZ S l=ba U:=by unfold tZ;rw[h]
def lM (h:S[l]?=ba (.dik U)):ec S l=dx:=by unfold ec;rw[h]
def Ji (h:S[l]?=ba (.dik U))(q:Q (.int ↥U,S)):wO (Bi.len.fn [.ref l] S) Q:=by
 show ab ?_ q;have a:kX [.ref l] S=dx:=by
  unfold kX;dsimp only
  rw[show fL S l=dx from by unfold fL;rw[h]]
  show(ec S l).map _=_;rw[lM h];rfl
 have b:uP [.ref l] S=dx:=by unfold uP;dsimp only;rw[h]
 unfold Bi.fn n6;dsimp only
 rw[a];rw[b];show(tZ S l).map _=_;rw[hZ h];rfl
def CC { k:NF}(h:S[l]?=ba (.dik U))(a:ee U k=ba v)(q:Q (v,S)):wO (p9 (.ref l) (.int k) S) Q:=by
 show ab ?_ q;change yc (.ref l) (.int k) S=_;unfold yc;dsimp only
 rw[lM h,hZ h];dsimp only
 rw[a];rfl
def CD (h:S[l]?=ba (.dik U)):bK .notin (.int (k:NF)) (.ref l) S=ba (.bl (!(ee U k).isSome),S):=by
 have a:fL S l=dx:=by unfold fL;rw[h]
 have b:cQ S (.ref l)=dx:=lM h;have c:pU (.int k) (.ref l) S=ba (ee U k).isSome:=by
  unfold pU;rw[b];show(tZ S l).map _=_;rw[hZ h];rfl
 show(match fL S l with
  |some U=>(eL _).map λk=>(W.bl _,S)
  |none=>dF _ _ _ S)=_
 rw[a];change Rr _ (Rr _ _)=_;rw[c];rfl
def Jj { k:NF}{R:aa->Prop}(h:S[l]?=ba (.dik U))(hl:↥U<1000)(q:R (S.set l (.dik (nX U k v)))):wO (i5 (.ref l) (.int k) v S) R:=by
 show ab ?_ q;change rG (.ref l) (.int k) v S=_;have a:lV S l=dx:=by unfold lV;rw[h]
 unfold rG;dsimp only
 rw[a,hZ h];dsimp only
 rw[Ob (N5 hl (gI rfl))]
def Ft (h:S[l]?=ba (.dik U))(q:Q (.ref ↥S,S++[.lst (U.map λp=>.int p.1)])):wO (Bi.list.fn [.ref l] S) Q:=by
 show ab ?_ q;have b:re S l=dx:=by unfold re;rw[h]
 have a:fU [.ref l] S=dx:=by
  unfold fU;dsimp only
  rw[show cQ S (.ref l)=dx from lM h]
 have c:i7 [.ref l] S=dx:=by
  unfold i7;dsimp only
  rw[show fL S l=dx from by unfold fL;rw[h]]
  show a
 have d:fq [.ref l] S=dx:=by
  unfold fq;dsimp only
  rw[b];show a
 unfold Bi.fn n6;dsimp only
 rw[d];rw[c];show(tZ S l).map _=_;rw[hZ h];rfl
def Fu (h:S[l]?=ba (.dik U))(q:Q (.ref ↥S,S++[.lst (U.map λp=>p.2)])):wO (Bi.vals.fn [.ref l] S) Q:=by
 show ab ?_ q;show(tZ S l).map _=_;rw[hZ h];rfl
def Jk (h:S[l]?=ba (.lst (ac c)))(f:x∈c)(A:∀y∈c,x<=y)(q:Q (.int (x:NF),S)):wO (Bi.min.fn [.ref l] S) Q:=by
 show ab ?_ q;have g:fw (c.map λ(n:NF)=>T.int (n:NV))=true:=by
  unfold fw;rw[N6];intro a v;rw[N6];intro b w;obtain⟨i,_,rfl⟩:=NS.mp v;obtain⟨j,_,rfl⟩:=NS.mp w;rfl
 obtain⟨t,o,s,u⟩:=nA (ks:=c.map λ(n:NF)=>T.int (n:NV)) (λy B=>by
  obtain⟨i,_,rfl⟩:=NS.mp B;rfl) g (by
  intro z;rw[List.map_eq_nil_iff]at z;rw[z]at f;cases f)
 obtain⟨m,d,rfl⟩:=NS.mp s;have e:m=x:=by
  have:=u (.int (x:NF)) (NS.mpr #[x,f,rfl]);have C:=A m d;have this:=PB (OT (show ba (decide _)=ba false from this))
  omega
 subst e;rw[NO,NB]at o;obtain⟨p,r,k⟩:=o;have k:(p:NV)=m:=by injection k
 obtain rfl:p=m:=∅
 unfold Bi.fn n6 Ag;dsimp only;rw[aG h];dsimp only;rw[xx];dsimp only
 rw[Ob #[by rw[Ce];show Pj _,g],jj r]
 rfl
def Lx {p q:Pt}:bK .ne (aN p) (aN q) S=ba (.bl (!decide (p=q)),S):=by
 show((lq S _ _ _).map (λc=>!c)).map _=_
 rw[vh];rfl
def Fv (X:LayP defs){a :NF}{H p:Pt}(Z:GoodB bs)(B:↥t=↥bs)(P:GoodW a ↥bs w)(hl:↥w<=800)(h:SprF a bs U w m H ps p)(e:S[l]?=ba (.lst (ac ps)))
  (k:∀x f,(x=↥w/\↥ps=↥w/\Cw U bs w m H)\/(x<↥w/\x∉ps/\aC bs w ps x=p/\lg a bs U ↥bs/\∀y<x,y∈ps)->Ka S f->Q (.int x,f)) :
  wO (aJ (aq defs fuel (d+3)) "place_of" 4 [.tup [m0,.tup (NW aH t bs),b0],aA w,.tup [.ref l,aN p],N] S) Q:=by
 show au X.place rfl rfl λq L=>?_
 replace k:∀x f,(x=↥w/\↥ps=↥w/\Cw U bs w m H)\/(x<↥w/\x∉ps/\aC bs w ps x=p/\lg a bs U ↥bs/\∀y<x,y∈ps)->Ka S f->q (.rt (.int (x:NF)),f):=λx f V Y=>L _ _ (k x f V Y)
 clear L;change wZ _ _ fS [ba (.tup [m0,.tup (NW aH t bs),b0]),ba (aA w),ba (.tup [.ref l,aN p]),ba N,dx] S q;have I:(w.map aN).length=↥w:=Nz ..;have nl:(ac ps).length=↥ps:=Nz ..;have hpl:↥ps<=800:=by
  have:=bY _ (NQ ↥w) h.ord.nd λj hj=>NU.mpr (h.ord.lt j hj)
  rw[N7]at this;omega
 generalize u:W.tup [m0,.tup (NW aH t bs),b0]=R;delta fS;nofun
 delta wS wT wE wA wV wG;show ag #v[] rfl (kL e (az ?_))
 rw[I,nl];show ab im ?_;delta wB;show ah (Q0:=q) (λz J _ C=>?_) (λz J b _=>aW (b _ _ (hK _ _ ?_)))
 ·have z:((↥ps:NF):NV)=(↥w:NF):=eq_of_beq z;show st ?_;left;show az ?_;rw[I];show C _ _ (k _ _ (.inl #[rfl,∅,(h.fin.resolve_right λ#[y,o,hyp,_]=>hyp (dC h.ord ∅ o)).2]) .refl)
 clear hK b K;have A:↥ps≠↥w:=λz'=>by
  have:(((↥ps:NF):NV)==(↥w:NF))=true:=by rw[z'];show Os _
  rw[z]at this;cases this
 obtain⟨x,D,g,c,r,s⟩:=h.fin.resolve_left λz=>A z.1
 show st ?_;delta wS wE wA;show fR ↥w (λi=>decide (i∉ps)) (λi=>.int (i:NF)) [ba (.tup [.ref l,aN p])] rfl rfl rfl rfl ∅ ?_ (λi hi n E=>?_) λn E=>?_
 ·delta wE wA wV wG;show az #[?_,.refl];rw[I]
 ·delta eB wC wT wE wV wG;show ag #v[] rfl (ab (tK (E.get _ _ e)) ?_)
  delta wB;show#[λz=>#[z,rfl,.refl],λz=>#[z,.refl]]
 have M:(n++[O.lst (ac (aE ↥w ps))])[↥n]?=ba (.lst (ac (aE ↥w ps))):=af;show Jk M (mem_rest.mpr #[D,g]) (λy o=>?_) ?_
 ·obtain⟨y1,y2⟩:=mem_rest.mp o;rcases TU y x with h'|h'
  ·show absurd (c y h') y2
  ·show h'
 have G:Ka S (n++[O.lst (ac (aE ↥w ps))]):=E.trans .push;change wZ _ _ _ _ (n++[O.lst (ac (aE ↥w ps))]) q;generalize n++[O.lst (ac (aE ↥w ps))]=S4 at G ⊢;delta NG;nofun
 delta wS wT wE wA wV wG;show ag #v[] rfl ?_
 subst u;show lJ (d:=d) X Z B P (λy o=>#[h.ord.lt y o,λz=>g (z▸o)]) D ∅ (G.get _ _ e) λS5 k5=>?_
 show ag #v[] rfl ?_
 rw[r];show ab Lx ?_;rw[OS rfl];delta wB;show ah (Q0:=q) (λz=>by cases z) (λ_ J b _=>aW (b _ _ (hK _ _ (st ?_))))
 delta wS wE wV wG;show k _ _ (.inr #[D,g,r,s,c]) (G.trans k5)
def CF (X:LayP defs){p:Pt}(g:Ord n ps)(hl:↥ps=n)(u:↥p.2=n)(t:n<=800)(e:S[l]?=ba (.lst (ac ps)))(k:∀b,Ka S b->Q (aN (nL n ps p),b)) :
  wO (aJ (aq defs fuel (d+1)) "point_behind" 1 [.tup [.ref l,aN p]] S) Q:=by
 show au X.behind rfl rfl λj q=>?_
 replace k:=λb h=>q _ _ (k b h)
 change wZ _ _ _ [ba _,dx] S j;have a:↥ps=↥p.2:=∅
 have s:(y6 ps p.2).length=n:=by unfold y6;rw[P5];omega
 show st ?_;left;show ag #v[] rfl (ag #v[] rfl (ag #v[] rfl (Jh e g.nd a ?_)))
 have f:(S++[O.dik _])[↥S]?=ba (.dik (y6 ps p.2)):=af;have r:Ka S (S++[O.dik (y6 ps p.2)]):=.push;show st ?_;left;show ag #v[] rfl (ag #v[] rfl ?_)
 show fR n (λ_=>true) (λi=>.int (p.2.getD (ps.idxOf i) 0)) [ba _] rfl rfl rfl rfl (by show N9 ‹_› (OA rfl)) ?_ (λi hi m c=>?_) λm c=>?_
 ·left;show Ji f #[?_,.refl];rw[s]
 ·show#[λ_=>CC (c.get _ _ f) (xG i a (dC g hl hi)) #[rfl,rfl,.refl],λz=>by cases z]
 ·rw[bc];show c8 af ?_;have:=k _ (r.trans (c.trans (Ka.push (o:=O.lst ((NQ n).map λi=>W.int (p.2.getD (ps.idxOf i) 0))))))
  dsimp only[aN,nL,aV,gj]at this;rw[OL,OL]at this;show this
def qX (h:HasD U L)(h':HasD U' L)(s:Std U w):Std U' w:=by
 intro k hk j a i hi;have:=s k hk j a i hi;unfold bT at this ⊢;rw[h'.get,<- h.get];show this
def xH (h:∀t,(bj U t).isSome=(bj U' t).isSome):cr U v=cr U' v:=by
 delta cr bT;revert h
def xI {a :NF}(h:∀t,(bj U t).isSome=(bj U' t).isSome):lg a bs U c->lg a bs U' c:=by
 rintro⟨Uqb,P,Q,b,e⟩;have d:∀p ,eI U Uqb _ p=true->eI _ Uqb ↥Uqb p=true:=λp l=>dc.mpr λq g i hi=>by
  have:=dc.mp l q g i hi;unfold da at this ⊢;rw[<- h];show this
 show#[Uqb,P,Q,#[b.gu,λk hk j f i hi=>?_,b.gp,d P b.mp,b.gq,d Q b.mq],λi hi=>?_]
 ·have:=b.su k hk j f i hi;unfold bT at this ⊢;rw[<- h];show this
 ·have:=e i hi;unfold cX bd at this ⊢;simp only[<- h];show this
def Fw (h:cr U'=cr U):vD U' bs one other L0=vD U bs one other L0:=by
 have a:∀w s x,dQ _ bs w s x=dQ U bs w s x:=λw s x=>by unfold dQ;rw[h]
 have b:∀w xs s,gk U' bs w xs s=gk U bs w xs s:=λw xs=>by
  induction xs with
  |nil=>intro s;rfl
  |cons x xs ih=>
   intro s;unfold gk;rw[a];cases dQ U bs w s x with
   |none=>rfl
   |some s'=>show ih s'
 have c:iP U' bs other=iP U bs other:=funext λs=>funext λi=>by unfold iP;revert b
 unfold vD;rw[c]
def LaidOk.congr {a:NF}(h:HasD U L)(h':HasD U' L)(x:LaidOk a bs U one other L0 w c):LaidOk a bs U' one other L0 w c:=
 #[x.gw,qX h h' x.sw,x.ext,x.len,x.ord,x.part,x.pairs,x.new,x.all,x.fresh.imp (xI λt=>by rw[h.get,h'.get]) id,λj y b=>x.single j y #[b.1,b.2.1,λv d=>by rw[xH (U':=U') λt=>by rw[h.get,h'.get]];show b.2.2 v d],by
  have e:cr U'=cr U:=funext λv=>xH λt=>by rw[h.get,h'.get]
  rw[Fw e];show x.fn]
def Fx (L:Pl):(D2 L).map (·.1)=(L.map (·.1)).map λ(p:NF)=>(p:NV):=by
 unfold D2;rw[OL,OL];rfl
def tM:∀L:Pl,dj (L.map λp=>W.tup [.int (p.1),.int (p.2)])=ba (D2 L)
 |[]=>rfl
 |p::L=>by
  show(dj _).map _=_;rw[tM L];rfl
def qY (h:Ord n ps):↥ps<=n:=by
 have:=bY _ _ h.nd λj a=>NU.mpr (h.lt j a)
 rwa [N7]at this
structure LayA (a:NF)(bs:Ny NV)(U:Ny (T×W))(one other:Wd)(L0:Pl):Prop where
 g1:GoodW a ↥bs one
 s1:Std U one
 g2:GoodW a ↥bs other
 s2:Std U other
 op:Ord ↥one (L0.map (·.2))
 oj:Ord ↥other (L0.map (·.1))
 same:ae bs one (L0.map (·.2))=ae bs other (L0.map (·.1))
def Jl (h:S[l]?=ba (.lst (L.map λp=>W.tup [.int (p.1),.int (p.2)])))(nd:(L.map (·.1)).Nodup)(q:Q (.ref ↥S,S++[.dik (D2 L)])):wO (Bi.dict.fn [.ref l] S) Q:=by
 show ab ?_ q;unfold Bi.fn wJ;dsimp only
 rw[aG h];dsimp only
 rw[tM,OJ];rw[nN (by rw[T8,Fx];show lK nd)]
 rfl
def Jm (X:LayP defs)(hfu:20<fuel){ms :Ny Oc}{a:NF}{E:Ny Wd}(C:GoodB bs)(h:↥ns=↥bs)(hb3:↥bs<=3)(hgs:∀g∈E,GoodW a ↥bs g/\↥g=3)(h64:↥E<=100)
  (hno:∀U,HasD U (aX bs E)->¬ lg a bs U (↥bs+1)) (hkv:HasD kv (aX bs E)) (A:LayA a bs kv one other L0) (hl:↥one+↥other<=400)
  (k:∀w pl N,LaidOk a bs kv one other L0 w pl->↥w<=↥one+↥other->Ka S N->Q (.tup [aA w,.tup (ac pl)],N)) :
  wO (aJ (aq defs fuel (d+5)) "laid" 4 [.tup [.tup (ms.map W.str),.tup (NW aH ns bs),.tup (E.map aA)],aA one,aA other,.tup (L0.map ou)] S) Q:=by
 show au X.laid rfl rfl λQ' hR=>?_
 replace k:=λw pl N h1 h2 h3=>hR _ _ (k w pl N h1 h2 h3)
 clear hR;change wZ _ _ qU [ba (.tup [.tup (ms.map W.str),.tup (NW aH ns bs),.tup (E.map aA)]),ba (aA one),ba (aA other),ba (.tup (L0.map ou)),dx,dx,dx,dx,dx,dx,dx] S Q';have hL0:↥L0<=400:=by
  have:=qY A.oj;rw[Nz]at this;omega
 have ol:(other.map aN).length=↥other:=Nz ..;generalize hPW:W.tup (L0.map ou)=PW;generalize e:W.tup [.tup (ms.map W.str),.tup (NW aH ns bs),.tup (E.map aA)]=R;delta qU;nofun
 delta wS wT wA wE wV wG;subst hPW;subst e;show Fq  X C h A.g1 A.g2 A.op A.oj ∅ A.same λS1 k1=>?_
 generalize e:W.tup [.tup (ms.map W.str),.tup (NW aH ns bs),.tup (E.map aA)]=R;show ab (rfl) ?_;show ah (Q0:=Q') (λz=>by cases z) (λ_ Q2 f _=>aW (f _ _ (hK _ _ ?_)))
 clear hK f K;show st ?_;left;subst e;show nq  hfu X.way X.part X.orders X.barred C h hgs h64 λq U S2 e2 hd hq k2=>?_
 have hqS:=k1.len;generalize e:W.tup [.tup (ms.map W.str),.tup (NW aH ns bs),.tup (E.map aA)]=R;have hcl:=Cm C hgs hd;have hun:=hno U hd;show st ?_;dsimp only[];show pf (m:=↥bs) rfl (λP hP=>?_) ∅ λS3 k3=>?_
 ·left;subst e;show ag #v[] rfl (az ?_)
  rw[P5,h,Q9];show hP
 generalize hO5:W.tup (ac (NQ ↥bs))=O5;have e3:=k3.get _ _ e2;have k3':=k1.trans (k2.trans k3);show st ?_;left;show st ?_;left;show iN L0 ou (λ_=>true) (λp=>.tup [.int (p.1),.int (p.2)]) [] rfl rfl rfl rfl ∅ #[rfl,.refl] (λp _ V k4=>?_) λV k4=>?_
 ·delta eB wC wE wA wV wG;show#[λ_=>ag #v[] rfl (ag #v[] rfl #[rfl,rfl,.refl]),λz=>by cases z]
 rw[bc];have k5:Ka S3 (V++[O.lst (L0.map λp=>W.tup [.int (p.1),.int (p.2)])]):=k4.trans .push
 show Jl af A.oj.nd ?_;have e6:(V++[O.lst (L0.map λp=>W.tup [.int (p.1),.int (p.2)])]++[O.dik (D2 L0)])[(V++[O.lst (L0.map λp=>W.tup [.int (p.1),.int (p.2)])]).length]?=ba (.dik (D2 L0)):=af
 have k6:Ka S3 (V++[O.lst (L0.map λp=>W.tup [.int (p.1),.int (p.2)])]++[O.dik (D2 L0)]):=k5.trans .push
 have hld:=N9 k3'.len k5.len;have hq3:=bQ e3;have hqd:=N5 hq3 k5.len;change wZ _ _ _ _ (V++[O.lst (L0.map λp=>W.tup [.int (p.1),.int (p.2)])]++[O.dik (D2 L0)]) Q'
 generalize V++[O.lst (L0.map λp=>W.tup [.int (p.1),.int (p.2)])]++[O.dik (D2 L0)]=S6 at e6 k6 ⊢
 generalize(V++[O.lst (L0.map λp=>W.tup [.int (p.1),.int (p.2)])]).length=ld at e6 hld hqd ⊢
 have e7:=k6.get _ _ e3;have k7:=k3'.trans k6;clear k6 k5 k4 k3' k3 e3 e2 k2 k1;nofun
 show b8 ↥other (λi Z N=>(∃w L a8 a9 a10,Z=[ba R,ba (aA one),ba (aA other),ba (.tup (L0.map ou)),ba (.ref q),ba O5,ba (aA w),ba (.ref ld),a8,a9,a10]/\(LayI a bs U one other L0 i w L/\(NQ i).foldl (iP U bs other) (one,L0)=(w,L))/\↥w<=↥one+i/\N[ld]?=ba (.dik (D2 L)))/\N[q]?=ba (.dic U)/\Ka S N) rfl rfl ∅ ?_ ?_ ?_
 ·left;show az ?_;rw[ol];show#[rfl,#[one,L0,_,_,_,rfl,#[.start A.g1 (qX hkv hd A.s1) A.op A.oj A.same,rfl],NP _,e6],e7,k7]
 ·rintro i Z S8 hi ⟨⟨w,L,a8,a9,a10,rfl,⟨I,G⟩,hwl,e8⟩,q8,k8⟩ Q2 f hr2;have s:(NQ (i+1)).foldl (iP U bs other) (one,L0)=iP U bs other (w,L) i:=by rw[Pe,List.foldl_append,G];rfl
  clear hK;have u:i<↥other:=∅
  have hLl:(D2 L).length<=400:=by
   have:=qY I.oj;unfold D2;rw[Nz]at this ⊢;omega
  have hw8:↥w<=800:=∅
  left;nofun
  delta wS wT wE wA wV wG;show ab (CD e8) ?_;rw[lH];delta wB
  by_cases n:i∈L.map (·.1)
  ·rw[Ob n];show ah (Q0:=Q2) (λz=>by cases z) (λ_ Q3 H _=>aW (H _ _ (hK _ _ (aW (f _ _ #[#[w,L,_,_,_,rfl,#[I.skip n,by rw[s];unfold iP;rw[Ob n]],∅,e8],q8,k8])))))
  rw[Ot n];show ah (Q0:=Q2) (λ_ Q3 H _=>?_) (λz=>by cases z)
  obtain⟨wg,wm⟩:=I.wish C hcl A.g2 (qX hkv hd A.s2) u n;have keysE:((D2 L).map λp=>W.int p.1)=ac (L.map (·.1)):=by unfold D2 ac;rw[OL,OL];rfl
  have valsE:((D2 L).map λp=>p.2)=ac (L.map (·.2)):=by unfold D2 ac;rw[OL,OL];rfl
  have ll1:(L.map (·.1)).length<=400:=by have:=qY I.oj;omega
  show st ?_;left;show Ft e8 ?_;rw[keysE];subst e;show lJ  X C h A.g2 (λy hy=>#[I.oj.lt y hy,λz=>n (z▸hy)]) u ∅ af λS9 k9=>?_
  have k9':=(Ka.push  ).trans k9;have e9:=k9'.get _ _ e8;have q9:=k9'.get _ _ q8;show st ?_;left;show Fu e9 ?_;rw[valsE];subst hO5;show CB  X C h hb3 hcl hun I.gw I.sw hw8 I.op wg wm (aB q9) af λl ps p S10 c e10 k10=>?_
  have B:=(Ka.push  ).trans k10;have e10d:=B.get _ _ e9;have q10:=B.get _ _ q9;show st ?_;left;show Fv  X C h I.gw hw8 c e10 λx r hx M=>?_
  have e11:=M.get _ _ e10d;have q11:=M.get _ _ q10;have l11:=M.get _ _ e10;have k12:=k8.trans (k9'.trans (B.trans M));show Jj e11 ∅ ?_
  rw[Fo n];have D:(r.set ld (.dik (D2 (L++[(i,x)]))))[ld]?=ba (.dik (D2 (L++[(i,x)]))):=bg e11;have q12:(r.set ld (.dik (D2 (L++[(i,x)]))))[q]?=ba (.dic U):=by rw[be ∅];show q11
  have k13:Ka S (r.set ld (.dik (D2 (L++[(i,x)])))):=k12.late hld;have hlne:l≠ld:=λz=>by rw[z,e11]at l11;cases l11
  have l12:(r.set ld (.dik (D2 (L++[(i,x)]))))[l]?=ba (.lst (ac ps)):=by rw[be (λz=>hlne z.symm)];show l11
  have gx:ee (D2 (L++[(i,x)])) i=ba (.int x):=by
   have hmm:i∈(L++[(i,x)]).map (·.1):=by simp
   have nd:((L++[(i,x)]).map (·.1)).Nodup:=by rw[(LayI.two L i x).1];show(d6 I.oj u n).nd
   rw[lH,Ob hmm,gQ nd (p:=(i,x)) (by simp)]
  generalize r.set ld (.dik (D2 (L++[(i,x)])))=S12 at D q12 k13 l12 ⊢;obtain⟨⟨t,vs,J,hp⟩,Y,_,_,_,_⟩:=id c;have pl0:=wg.len;show aK λK2 hK2=>?_
  delta wS wT wE wA wV wG;show CC D gx (az ?_);rw[Nz ..];show ab im ?_;delta wB;rcases hx with⟨rfl,b,hfst⟩|⟨hxw,hxp,hov,hunf,hlow⟩
  ·rw[Os];show ah (Q0:=Q3) (λ_ Q4 hn4 _=>?_) (λz=>by cases z)
   obtain⟨b1,b2,b3⟩:=Jc C hcl I.gw I.sw c.ord b c.gp c.mp;show st ?_;left;show CF  X c.ord b (by rw[c.gp.len];show b) hw8 l12 λS13 k14=>?_
   show ab (lL ∅) (aW (hn4 _ _ (hK2 _ _ (aW (H _ _ (hK _ _ (aW (f _ _ #[#[w++[nL ↥w ps p],L++[(i,↥w)],_,_,_,rfl,?_,by rw[NE,Oq];omega,k14.get _ _ D],k14.get _ _ q12,k13.trans k14]))))))))
   show#[I.put C u n b1 b2 ?_ hfst,by rw[s];unfold iP;rw[Ot n];revert Y;rw[Ob b]]
   have:=b3;rw[J,hp]at this;rw[yY pl0  (by rw[J,hp];show this)]
  ·have:((x:NV)==↥w)=false:=by simp;omega
   rw[this];show ah (Q0:=Q3) (λz=>by cases z) (λ_ Q4 hn4 _=>aW (hn4 _ _ (hK2 _ _ (aW (H _ _ (hK _ _ (aW (f _ _ #[#[w,L++[(i,x)],_,_,_,rfl,?_,∅,D],q12,k13]))))))))
   have hnf:=λz=>hxp (dC c.ord z hxw)
   have hlw:qT ↥w ps=x:=by
    unfold qT;rw[Th.mpr #[OS hxp,NU.mpr hxw,λj hj=>by rw[Oy λz=>z (hlow j hj)];rfl]];rfl
   show#[I.on u n hxw (λz=>hxp (by rw[J];show Oo _ z)) ?_ hunf,by rw[s];unfold iP;rw[Ot n];revert Y;rw[Ot hnf,hlw]]
   rw[J,hp]at hov;rw[Cy pl0 hov]
 ·rintro Z S8 ⟨⟨w,L,a8,a9,a10,rfl,⟨I,G⟩,hwl,e8⟩,q8,k8⟩;rw[Od]at I hwl G;have fin:=I.done C A.g2 G;show hK _ _ (st ?_);left;show fR ↥other (λ_=>true) (λi=>.int (kj L i)) [ba (.ref ld)] rfl rfl rfl rfl ∅ ?_ (λi hi S9 k9=>?_) λS9 k9=>?_
  ·left;show az #[?_,.refl];rw[ol]
  ·delta eB wC wE wV wG;show#[λ_=>CC (k9.get _ _ e8) (by rw[lH,Ob (I.num i hi)]) #[rfl,rfl,.refl],λz=>by cases z]
  ·rw[bc];show c8 af ?_;have:=k w (bU ↥other L) _ (fin.congr hd hkv) hwl (k8.trans (k9.trans (Ka.push (o:=O.lst ((NQ ↥other).map λi=>W.int (kj L i))))))
   unfold ac bU at this;rw[OL]at this;show this
structure Rl (s s':Ny NF×Pt):Prop where
 mq:s.2.1=s'.2.1
 l1:↥s.2.2=↥s.1
 l2:↥s'.2.2=↥s'.1
 pm:(s.1.zip s.2.2).Perm (s'.1.zip s'.2.2)
section
variable{U:Ny (T×W)}{bs:Ny NV}{w other:Wd}
def Rl.fst {s :Ny NF×Pt}(h:Rl s s'):s.1.Perm s'.1:=by
 have:=h.pm.map Prod.fst
 rwa [TB (Vx h.l1.symm),TB (Vx h.l2.symm)]at this
def tN {s:Ny NF×Pt}(h:↥s.2.2=↥s.1):cr U (ae bs w s.1++[aC bs w s.1 x]++[bx s.2 v])=true↔∀p∈s.1.zip s.2.2,(bj U (cV [((w.getD p.1 (0,[])).1,[]),((w.getD x (0,[])).1,[bh bs w x p.1]),(s.2.1,[p.2,v])])).isSome=false:=by
 have hl:(ae bs w s.1++[aC bs w s.1 x]++[bx s.2 v]).length=↥s.1+2:=by simp[aF]
 rw[jo hl];have b:∀i hi,bT U (ae bs w s.1++[aC bs w s.1 x]++[bx s.2 v]) i ↥s.1 (↥s.1+1)=(bj U (cV [((w.getD s.1[i] (0,[])).1,[]),((w.getD x (0,[])).1,[bh bs w x s.1[i]]),(s.2.1,[s.2.2[i]'∅,v])])).isSome:=by
  intro i hi;have c:(ae bs w s.1).length=↥s.1:=aF ..;have d:(ae bs w s.1++[aC bs w s.1 x]++[bx s.2 v]).getD i (0,[])=(ae bs w s.1).getD i (0,[]):=by
   rw[OO];revert NL;rw[Ow ∅]
  have e:(ae bs w s.1++[aC bs w s.1 x]++[bx s.2 v]).getD ↥s.1 (0,[])=aC bs w s.1 x:=by
   rw[OO];revert NL;rw[Ox ∅,c,Qh];rfl
  have f:(ae bs w s.1++[aC bs w s.1 x]++[bx s.2 v]).getD (↥s.1+1) (0,[])=bx s.2 v:=by
   revert NL;rw[Ox (by simp[c]),show ↥s.1+1-(ae bs w s.1++[aC bs w s.1 x]).length=0 by simp[c]];rfl
  have g:((ae bs w s.1).getD i (0,[])).1=(w.getD s.1[i] (0,[])).1:=by
   unfold ae;rw[NL,NO,O8 hi,OJ,Qc,show s.1.getD i 0=s.1[i] by rw[NL,NK hi];rfl]
  have j:(aC bs w s.1 x).2.getD i 0=bh bs w x s.1[i]:=by
   unfold aC;rw[NL,NO,NK hi];rfl
  have k:(bx s.2 v).2.getD i 0=s.2.2[i]'∅:=by
   unfold bx;rw[NL,Ow ∅,NK ∅];rfl
  have l:(bx s.2 v).2.getD ↥s.1 0=v:=by
   unfold bx;rw[NL,Ox ∅,h,Qh];rfl
  unfold bT cO;rw[d,e,f,g,j,k,l];rfl
 constructor
 ·intro a p m;obtain⟨i,hi,rfl⟩:=Pq m;rw[Rg,h,Q9]at hi;have:=a i hi;rw[b i hi]at this;rw[Sf];show this
 ·intro a i hi;rw[b i hi];have:=a (s.1[i],s.2.2[i]'∅) (by
   have:(s.1.zip s.2.2)[i]'(by rw[Rg];omega)=(s.1[i],s.2.2[i]'∅):=Sf ..
   rw[<- this];show OE _)
  show this
def Fy {s :Ny NF×Pt}(h:Rl s s'):cr U (ae bs w s.1++[aC bs w s.1 x]++[bx s.2 v])=cr U (ae bs w s'.1++[aC bs w s'.1 x]++[bx s'.2 v]):=by
 rw[Qp,tN h.l1,tN h.l2,h.mq];show#[λa p b=>a p (h.pm.mem_iff.mpr b),λa p b=>a p (h.pm.mem_iff.mp b)]
def Rl.snoc {s :Ny NF×Pt}(h:Rl s s')(x v:NF):Rl (s.1++[x],bx s.2 v) (s'.1++[x],bx s'.2 v):=by
 obtain⟨m,a,b,pm⟩:=h;show#[m,by simp[bx,a],by simp[bx,b],?_]
 show((s.1++[x]).zip (s.2.2++[(v:NV)])).Perm ((s'.1++[x]).zip (s'.2.2++[(v:NV)]));rw[Wk a.symm,Wk b.symm];show pm.append_right _
def Fz {s :Ny NF×Pt}(h:Rl s s'):(dQ U bs w s x=dx/\dQ U bs w s' x=dx)\/∃v:NF,dQ U bs w s x=ba (s.1++[x],bx s.2 v)/\dQ U bs w s' x=ba (s'.1++[x],bx s'.2 v):=by
 have e:(λv=>cr U _)=λv=>cr U (ae bs w _++[aC bs w _ x]++[bx _ v]):=funext λv=>Fy h
 unfold dQ;rw[e];cases(NQ _).find? λv=>cr U _ with
 |none=>show .inl #[rfl,rfl]
 |some v=>show .inr #[v,rfl,rfl]
def CG:∀ xs {s s':Ny NF×Pt},Rl s s'->Rl (gk U bs w xs s) (gk U bs w xs s')
 |[],_,_,h=>h
 |x::xs,s,s',h=>by
  unfold gk;rcases Fz     h with⟨a,b⟩|⟨v,a,b⟩
  ·rw[a,b];show h
  ·rw[a,b];show CG xs (h.snoc x v)
def CH:∀ xs s,xs.Nodup->s.1.Nodup->(∀x∈xs,x∉s.1)->(gk U bs w xs s).1.Nodup/\s.1 ⊆ (gk U bs w xs s).1/\(gk U bs w xs s).1 ⊆ s.1++xs
 |[],s,_,h,_=>#[h,λ_ h=>h,λ_ h=>Oo _ h]
 |x::xs,s,g,h,i=>by
  unfold gk;cases e:dQ U bs w s x with
  |none=>show#[h,λ_ h=>h,λ_ h=>Oo _ h]
  |some s'=>
   have f:s'.1=s.1++[x]:=by
    unfold dQ at e;rw[NB]at e;obtain⟨v,_,rfl⟩:=e;rfl
   rw[Pp]at g;obtain⟨a,b,c⟩:=CH xs s' g.2 (by
    rw[f,OZ];show#[h,by simp,λy d z j q=>i x Py (by rw[NT.mp j]at q;show q▸d)]) (λy d z=>by
    rw[f]at z;rcases Oa.mp z with z|z
    ·show i y (O1 _ d) z
    ·show g.1 (NT.mp z▸d))
   show#[a,λy d=>b (by rw[f];show Oo _ d),λy d=>?_]
   have:=c d;rw[f]at this
   simpa using this
def FC {ps:Ny NF}(nd:ps.Nodup)(hl:↥vs=↥ps){c:NV}(h:(k,c)∈ps.zip vs):vs.getD (ps.idxOf k) 0=c:=by
 obtain⟨i,hi,e⟩:=Pq h;rw[Rg,hl,Q9]at hi;rw[Sf]at e;injection e with e1 e2
 rw[<- e1,nd.idxOf_getElem i hi,NL,NK ∅,e2];rfl
def FD {ps:Ny NF}{vs:Ny NV}(nd:ps.Nodup)(hl:↥vs=↥ps)(h:k∈ps):(k,vs.getD (ps.idxOf k) 0)∈ps.zip vs:=by
 obtain⟨i,hi,rfl⟩:=Pq h;rw[nd.idxOf_getElem i hi];have:(ps.zip vs)[i]'(by rw[Rg];omega)=(ps[i],vs[i]'∅):=Sf ..
 rw[NL,NK ∅]
 show(ps[i],vs[i]'∅)∈_
 rw[<- this];show OE _
def Jn {s :Ny NF×Pt}(h:Rl s s')(b:s.1.Nodup)(c:s'.1.Nodup)(a:∀k<n,k∈s.1):nL n s.1 s.2=nL n s'.1 s'.2:=by
 unfold nL aV gj;rw[h.mq];congr 1;revert OL;show ON λk hk=>?_
 have hk:=a k (NU.mp hk);show(FC c h.l2 (h.pm.mem_iff.mp (FD b h.l1 hk))).symm
def FH { d:Pl}(h:L.Perm d)(nd:(L.map (·.1)).Nodup)(j:NF):kj L j=kj d j:=by
 have c:=(h.map _).nodup_iff.mp nd
 by_cases a:j∈L.map (·.1)
 ·obtain⟨p,e,rfl⟩:=NS.mp a;rw[gQ nd e,gQ c (h.mem_iff.mp e)]
 ·have b:=λz=>a ((h.map _).mem_iff.mpr z)
  unfold kj;rw[UG a,UG b,NL,NL,Ri (by simp),Ri (by simp)]
structure Ls (s s':Wd×Pl):Prop where
 w:s.1=s'.1
 pm:s.2.Perm s'.2
 n1:(s.2.map (·.1)).Nodup
 n2:(s.2.map (·.2)).Nodup
 lt:∀x∈s.2.map (·.2),x<↥s.1
def FJ { a:Ny NF}(h:ps.Perm a):aE n ps=aE n a:=by
 unfold aE;congr 1
 funext i
 rw[To];show not_congr h.mem_iff
def Jo { a:Ny NF}(h:ps.Perm a):qT n ps=qT n a:=by
 unfold qT;rw[funext λi=>To.mpr (not_congr h.mem_iff)]
def FK (nd:ps.Nodup)(lt:∀x∈ps,x<n)(hl:↥ps≠n):qT n ps<n/\qT n ps∉ps:=by
 unfold qT;cases e:(NQ n).find? λi=>decide (i∉ps)with
 |some x=>
  have:=Sj e;show#[NU.mp (P8 e),OC this]
 |none=>
  have b:=bY _ ps QV λx a=>by
   have:=Qf.mp e x a
   simpa using this
  have c:=bY ps _ nd λx a=>NU.mpr (lt x a)
  rw[N7]at b c;omega
def Jp {s :Wd×Pl}(h:Ls s s')(i:NF):Ls (iP U bs other s i) (iP U bs other s' i):=by
 obtain⟨w,L⟩:=s;obtain⟨D,j⟩:=s';obtain⟨hw,pm,A,n,lt⟩:=h;subst hw;unfold iP
 by_cases hi:i∈L.map (·.1)
 ·rw[Ob hi,Ob ((pm.map _).mem_iff.mp hi)];show#[rfl,pm,A,n,lt]
 rw[Ot hi,Ot λz=>hi ((pm.map _).mem_iff.mpr z)]
 have o:(L.map (·.2)).Perm (j.map (·.2)):=pm.map _
 have z:∀L:Pl,(L.map (·.2)).zip ((L.map (·.1)).map λq=>bh bs other i q)=L.map λp=>(p.2,bh bs other i p.1):=λL=>by
  rw[OL,List.zip_map'];rfl
 have C:Rl (L.map (·.2),aC bs other (L.map (·.1)) i) (j.map (·.2),aC bs other (j.map (·.1)) i):=by
  show#[rfl,by simp[aC],by simp[aC],?_]
  unfold aC;rw[z,z];show pm.map _
 have r:=CG (U:=U) (bs:=bs) (w:=w) (aE ↥w (L.map (·.2))) C
 obtain⟨d,t,u⟩:=CH    (aE ↥w (L.map (·.2))) (L.map (·.2),aC bs other (L.map (·.1)) i) (List.nodup_range.filter _) n λx a=>(mem_rest.mp a).2
 rw[<- FJ o];simp only;generalize gk U bs w (aE ↥w (L.map (·.2))) (L.map (·.2),aC bs other (L.map (·.1)) i)=S1 at r d t u ⊢
 have v:∀x∈S1.1,x<↥w:=λx a=>by
  rcases Oa.mp (u a)with y|y
  ·show lt x y
  ·show(mem_rest.mp y).1
 have b:∀x ,(L++[(i,x)]).map (·.1)=L.map (·.1)++[i]/\(L++[(i,x)]).map (·.2)=L.map (·.2)++[x]:=λx=>by simp
 have f:∀x:NF,((L++[(i,x)]).map (·.1)).Nodup:=λx=>by
  rw[(b x).1,OZ];show#[A,by simp,λy l z m q=>hi (by rw[NT.mp m]at q;show q▸l)]
 have g:∀x ,x∉L.map (·.2)->((L++[(i,x)]).map (·.2)).Nodup:=λx a=>by
  rw[(b x).2,OZ];show#[n,by simp,λy l z m q=>a (by rw[NT.mp m]at q;show q▸l)]
 rw[<- r.fst.length_eq]
 by_cases c:↥S1.1=↥w
 ·rw[Ob c,Ob c];have e:∀k<↥w,k∈S1.1:=λk hk=>dC #[d,v] c hk
  show#[by rw[Jn r d (r.fst.nodup_iff.mp d) e],pm.append_right _,f _,g _ λz=>Pf _ (lt _ z),λx a=>?_]
  rw[(b ↥w).2]at a;rw[NE,Oq];rcases Oa.mp a with y|y
  ·have:=lt x y;show Px this
  ·rw[NT.mp y];show PX _
 ·rw[Ot c,Ot c,<- Jo r.fst];obtain⟨B,b2⟩:=FK d v c;show#[rfl,pm.append_right _,f _,g _ λz=>b2 (t z),λx a=>?_]
  rw[(b _).2]at a;rcases Oa.mp a with y|y
  ·show lt x y
  ·rw[NT.mp y];show B
def Jq (h:L0.Perm b)(d:Ord ↥one (L0.map (·.2)))(e:(L0.map (·.1)).Nodup):vD U bs one other L0=vD U bs one other b:=by
 have c:∀(a:Ny NF) {s s':Wd×Pl},Ls s s'->Ls (a.foldl _ s) (a.foldl (iP U bs other) s'):=λa=>by
  induction a with
  |nil=>show λh=>h
  |cons j a ih=>show λh=>ih (Jp h j)
 have:=c (NQ ↥other) (s:=(one,L0)) (s':=(one,b)) #[rfl,h,e,d.nd,d.lt];show Xj this.w ?_;change bU _ _=bU _ _;show ON λj _=>FH this.pm this.n1 j
end
def Jr {α:Type}{d :E}(L:Ny α)(j l:α->W)(p:α->Oh)(g:α->W)(R:Fm)(u:dI e=true)(t:dI d=true)(oc:og n=true)(hc:eM i Z=dx::dx::dx::R)(hl:↥L<=1000000)
  (r:wE M e Z S λq=>q.1=.tup (L.map λx=>W.tup [j x,l x])/\Ka S q.2)
  (f:∀x∈L,∀c,Ka S c->eB M d n (dx::ba (j x)::ba (l x)::R) c (λy _ m=>p x=true/\y=g x/\Ka c m) (λ_ m=>p x=false/\Ka c m))
  (k:∀c,Ka S c->Q (.ref ↥c,c++[.lst ((L.filter p).map g)])):Wp (aI M (.comp d (.tp [1,2]) (.seq e) n i) Z S) Q:=by
 obtain⟨w,S1,o,rfl,s⟩:=bR u r;show Cd (mi:=.its (L.map λx=>W.tup [j x,l x])) L (λx=>W.tup [j x,l x]) p g (λZ=>∃a b,Z=dx::a::b::R) (λx=>dx::ba (j x)::ba (l x)::R) (λx Z S h=>by
  obtain⟨a,b,rfl⟩:=h;show#[rfl,_,_,rfl]) t oc (by rw[hc];show#[_,_,rfl]) hl (by revert jR eS o) s (λ_ _ _=>rfl) rfl f k
structure Cmn (bs:Ny NV)(u v:Wd)(e:Ny (NF×NF)):Prop where
 up:(e.map (·.1)).Pairwise (· < ·)
 l1:∀p∈e,p.1<↥u
 nd:(e.map (·.2)).Nodup
 l2:∀p∈e,p.2<↥v
 prt:ae bs u (e.map (·.1))=ae bs v (e.map (·.2))
abbrev kQ (bs:Ny NV)(u v:Wd)(e:Ny (NF×NF))(i:NF):Ny NF:=((NQ ↥v).filter λf=>decide (f∉e.map (·.2))).filter λf=>decide (aC bs v (e.map (·.2)) f=aC bs u (e.map (·.1)) i)
def tP :f∈kQ bs u v e i↔f<↥v/\f∉e.map (·.2)/\aC bs v (e.map (·.2)) f=aC bs u (e.map (·.1)) i:=by
 unfold kQ;rw[OY,OY,NU,Og,Og,and_assoc]
def Cmn.nil :Cmn bs u v []:=#[.nil,λ_ h=>by simp at h,.nil,λ_ h=>by simp at h,by simp[ae]]
def jw :Cmn bs u v (e++[(i,f)])↔Cmn bs u v e/\(∀p∈e,p.1<i)/\i<↥u/\f∈kQ bs u v e i:=by
 constructor
 ·intro h;have up:=h.up;have nd:=h.nd;have c:=h.prt;rw[N3,Rs]at up;rw[N3,OZ]at nd;rw[N3,N3,Qx,Qx,aP,aP]at c;obtain⟨o,p2⟩:=List.append_inj' c rfl;have q:aC bs u (e.map (·.1)) i=aC bs v (e.map (·.2)) f:=by simpa using p2
  show#[#[up.1,λp a=>h.l1 p (Oo _ a),nd.1,λp a=>h.l2 p (Oo _ a),o],λp a=>up.2.2 p.1 (RE a) i (by simp),h.l1 (i,f) (by simp),tP.mpr #[h.l2 (i,f) (by simp),λz=>nd.2.2 f z f (by simp) rfl,q.symm]]
 ·rintro⟨h,l,m,n⟩;obtain⟨g,j,k⟩:=tP.mp n;show#[?_,λp a=>?_,?_,λp a=>?_,?_]
  ·rw[N3,Rs];show#[h.up,by simp,λx d y b=>?_]
   obtain⟨p,a,rfl⟩:=NS.mp d;rw[Qx,NT]at b;subst b;show l p a
  ·rcases Oa.mp a with z|z
   ·show h.l1 p z
   ·cases NT.mp z;show m
  ·rw[N3,OZ];show#[h.nd,by simp,λx d y b z=>?_]
   rw[Qx,NT]at b;subst b;subst z;show j d
  ·rcases Oa.mp a with z|z
   ·show h.l2 p z
   ·cases NT.mp z;show g
  ·rw[N3,N3,Qx,Qx,aP,aP,h.prt];rw[k]
def Cmn.init :∀ n t,↥t=n->Cmn bs u v (e++t)->Cmn bs u v e
 |0,t,h,H=>by
  cases QT.mp h;rw[Oz]at H;show H
 |n+1,t,h,H=>by
  obtain⟨t',p,rfl,h'⟩:∃t' p,t=t'++[p]/\↥t'=n:=by
   have a:t≠[]:=λz=>by rw[z]at h;cases h
   show#[t.dropLast,t.getLast a,(Rf a).symm,by rw[QK,h];rfl]
  rw[<- OO]at H;show Cmn.init n t' h' (jw  (f:=p.2).mp H).1
def CI :∀{l:Ny NF}{a:NF},(a::l).Pairwise (· < ·)->(∀x∈a::l,x<n)->(a::l).length+a<=n
 |[],a,_,h=>by have:=h a (by simp);simp;omega
 |b::l,a,c,h=>by
  rw[List.pairwise_cons]at c;have:=CI c.2 λx d=>h x (O1 _ d)
  have:=c.1 b (by simp)
  simp only[On]at *
  omega
def Cmn.most {p:NF×NF}(h:Cmn bs u v (e++p::t)):(e++p::t).length+p.1<=↥e+↥u:=by
 have up:=h.up;rw[N3,Rs]at up;have:=CI (n:=↥u) (l:=t.map λ(q:NF×NF)=>q.1) (a:=p.1) up.2.1 λx c=>by
  obtain⟨q,b,rfl⟩:=NS.mp (show x∈(p::t).map (·.1)from c)
  show h.l1 q (Oj _ b)
 rw[NE];simp only[On,Nz]at *
 omega
def Cmn.len (h:Cmn bs u v e):↥e<=↥u:=by
 cases e with
 |nil=>show Pj _
 |cons p t=>have:=Cmn.most (e:=[]) h;simp at this ⊢;omega
def Cmn.next {p:NF×NF}(h:Cmn bs u v (e++p::t)):(∀q∈e,q.1<p.1)/\p.1<↥u/\p.2∈kQ bs u v e p.1:=by
 have h':Cmn bs u v ((e++[p])++t):=by rw[OO];show h
 show(jw  (f:=p.2).mp (Cmn.init _ t rfl h')).2
def tQ {a :NF}(b:GoodW a n u):∀k,k<=↥u->ae bs u (NQ k)=u.take k
 |0,_=>by simp[ae]
 |k+1,h=>by
  rw[Pe,aP,tQ b k ∅,j6 b ∅,Ol,ay  ∅];rfl
def FL {a :NF}(b:GoodW a n u):ae bs u (NQ ↥u)=u:=by
 rw[tQ b _ (NP _),Ou]
def xJ {a :NF}(e:GoodW a n u)(h:Ord ↥v o)(hl:↥o=↥u)(b:ae bs v o=u):Cmn bs u v ((NQ ↥u).zip o):=by
 have c:((NQ _).zip o).map _=NQ _:=TB (by rw[N7,hl];show NP _)
 have d:((NQ _).zip o).map _=o:=VS (by rw[N7,hl];show NP _)
 show#[by rw[c];show T3,λp b=>?_,by rw[d];show h.nd,λp b=>?_,by rw[c,d,FL e,b]]
 ·show NU.mp (by rw[<- c];show RE b)
 ·show h.lt _ (by rw[<- d];show RE b)
abbrev kR:Ss:=
 #v[.ret (.own vv 4 #v[.v 0,.tup #v[.v 1,.v 2],.tup .nil,.tup .nil])]
abbrev dD:Ss:=
 #v[.ite (.cmp .gt (.bi .len #v[.v 2]) (.bi .len #v[.v 3])) #v[.set 3 (.v 2)] .nil,.set 4 (.ite (.v 2) (.op .add (.ix (.ix (.v 2) (.neg (.k 1))) (.k 0)) (.k 1)) (.k 0)),.loop (.nm 5) (.rng2 #v[.v 4,.bi .len #v[.ix (.v 1) (.k 0)]]) #v[.ite (.cmp .gt (.op .sub (.op .add (.bi .len #v[.v 2]) (.bi .len #v[.ix (.v 1) (.k 0)])) (.v 5)) (.bi .len #v[.v 3])) #v[.loop (.nm 6) (.seq (.own "pairs_with" 4 #v[.v 0,.v 1,.v 2,.v 5])) #v[.set 3 (.own vv 4 #v[.v 0,.v 1,.op .add (.v 2) (.tup #v[.v 6]),.v 3])]] .nil],.ret (.v 3)]
abbrev fT:Ss:=
 #v[.set 4 (.comp (.ix (.v 1) (.k 1)) (.nm 1) (.seq (.v 2)) .nil [dx,dx]),.set 5 (.own pk 4 #v[.v 0,.ix (.v 1) (.k 0),.comp (.ix (.v 1) (.k 0)) (.nm 1) (.seq (.v 2)) .nil [dx,dx],.v 3]),.set 6 (.comp (.v 1) (.nm 1) (.rng #v[.bi .len #v[.ix (.v 1) (.k 1)]]) #v[.cmp .notin (.v 1) (.v 2)] [dx,dx,ba 4]),.ret (.comp (.tup #v[.v 3,.v 1]) (.nm 1) (.seq (.v 6)) #v[.cmp .eq (.own pk 4 #v[.v 4,.ix (.v 6) (.k 1),.v 5,.v 1]) (.v 2)] [dx,dx,ba 5,ba 3,ba 0,ba 4,ba 1])]
abbrev t9 (p:NF×NF):W:=.tup [.int p.1,.int p.2]
abbrev dN (e:Ny (NF×NF)):W:=.tup (e.map t9)
structure Icm (defs:Ny (Oc×Df)):Prop where
 com:Is defs ("in_common": Oc) 3 3 kR
 best:Is defs ("best_behind": Oc) 4 7 dD
 withp:Is defs ("pairs_with": Oc) 4 7 fT
def y8 { p:NF}(h:S[l]?=ba (.lst (ac ps))):bK .notin (.int p) (.ref l) S=ba (.bl (decide (p∉ps)),S):=by
 have a:(aR (.int p)&&(ac ps).all aR)=true:=by rw[j7];rfl
 simp only[bK,gX h,dF,DQ,pU,cQ,aG h,a,jm];congr 3
 by_cases h:p∈ps<;>simp[h]
def xK (P:Parts defs){a :NF}(n:GoodB bs)(hl:↥e=↥bs)(r:GoodW a ↥bs u)(c:∀p∈ps,p<↥u/\i≠p)(hi:i<↥u)(hsz:↥ps<=1000)(m:S[l]?=ba (.lst (ac ps)))(k:∀b,Ka S b->Q (aN (aC bs u ps i),b)) :
  wO (aJ (aq defs fuel (d+2)) pk 4 [.tup [m0,.tup (NW aH e bs),b0],aA u,.ref l,.int i] S) Q:=by
 show au P.over rfl rfl λf g=>?_
 replace k:∀b,Ka S b->f (.rt (aN (aC bs u ps i)),b):=λb a=>g _ _ (k b a)
 clear g;change wZ _ _ bD [ba (.tup [m0,.tup (NW aH e bs),b0]),ba (aA u),ba (.ref l),ba (.int i)] S f;delta bD;show st ?_;left;show ag (NX i) (dL hi) (ag #v[] rfl ?_)
 show iM ps (λq=>W.int (q:NF)) (λ_=>true) (λq=>W.int (bh bs u i q)) _ rfl rfl rfl rfl ∅ #[l,rfl,m,.refl] (λq h b j=>?_) λb j=>?_
 ·delta eB wC wT wE wA wV wG;show#[λ_=>B7 (d:=d) P n hl r hi (c q h).1 (c q h).2 #[rfl,rfl,.refl],λz=>by cases z]
 ·rw[bc];show c8 af ?_;have:=k _ (j.trans (Ka.push (o:=O.lst (ps.map λq=>W.int (bh bs u i q)))))
  unfold aC aN at this;rw[OL]at this;show this
def FM (P:Parts defs)(I:Icm defs){a :NF}(M:GoodB bs)(hl:↥w=↥bs)(Y:GoodW a ↥bs u)(hv:GoodW a ↥bs v)(Z:↥u<=100)(D:↥v<=100)(A:Cmn bs u v e)(hi:i<↥u)(C:∀p∈e,p.1<i)
  (k:∀ q c,c[q]?=ba (.lst ((kQ bs u v e i).map λf=>t9 (i,f)))->Ka S c->Q (.ref q,c)) :
  wO (aJ (aq defs fuel (d+3)) "pairs_with" 4 [.tup [m0,.tup (NW aH w bs),b0],.tup [aA u,aA v],dN e,.int i] S) Q:=by
 show au I.withp rfl rfl λT V=>?_
 replace k:=λq c a b=>V _ _ (k q c a b)
 change wZ _ _ fT [ba (.tup [m0,.tup (NW aH w bs),b0]),ba (.tup [aA u,aA v]),ba (dN e),ba (.int i),dx,dx,dx] S T;have X:=A.len;nofun
 show iN e t9 (λ_=>true) (λp=>W.int (p.2)) [] rfl rfl rfl rfl ∅ #[rfl,.refl] (λp l c n=>?_) λS1 h=>?_
 ·delta eB wC wE wV wG;show#[λ_=>ag #v[] rfl #[rfl,rfl,.refl],λz=>by cases z]
 rw[bc];have g:(S1++[O.lst (e.map λp=>W.int (p.2))])[↥S1]?=ba (.lst (ac (e.map (·.2)))):=by
  rw[af];unfold ac;rw[OL];rfl
 replace h:=h.trans (Ka.push (o:=O.lst (e.map λp=>W.int (p.2))))
 generalize ↥S1=l4 at g ⊢;show hK _ _ ?_;nofun
 left;show ag #v[] rfl ?_
 show iN e t9 (λ_=>true) (λp=>W.int (p.1)) [] rfl rfl rfl rfl ∅ #[rfl,.refl] (λp l c n=>?_) λH G=>?_
 ·delta eB wC wE wV wG;show#[λ_=>ag #v[] rfl #[rfl,rfl,.refl],λz=>by cases z]
 rw[bc];have J:(H++[O.lst (e.map λp=>W.int (p.1))])[↥H]?=ba (.lst (ac (e.map (·.1)))):=by
  rw[af];unfold ac;rw[OL];rfl
 replace G:=G.trans (Ka.push (o:=O.lst (e.map λp=>W.int (p.1))))
 show xK  P M hl Y (λp l=>?_) hi (by rw[Nz];omega) J λS4 t=>hK _ _ ?_
 ·obtain⟨q,m,rfl⟩:=NS.mp l;show#[A.l1 q m,λz=>by have:=C q m;omega]
 clear hK K J;replace t:=G.trans t;replace g:=t.get _ _ g;replace h:=h.trans t;nofun
 left;show fR ↥v (λx=>decide (x∉e.map (·.2))) (λx=>W.int x) [ba (.ref l4)] rfl rfl rfl rfl ∅ ?_ (λx E c n=>?_) λs r=>?_
 ·left;show ag #v[] rfl (az #[by rw[Nz],.refl])
 ·delta eB wC wT wE wV wG;show ab (y8 (n.get _ _ g)) ?_;delta wB;show#[λz=>#[z,rfl,.refl],λz=>#[z,.refl]]
 generalize B:(NQ ↥v).filter (λx=>decide (x∉e.map (·.2)))=L
 have j:∀x∈L,x<↥v/\x∉e.map (·.2):=λx E=>by
  rw[<- B,OY,NU,Og]at E;show E
 have U:↥L<=100:=by
  rw[<- B];show N9 (PM _ _) (by rw[N7];show D)
 show hK _ _ ?_;have y:(s++[O.lst (L.map λx=>W.int (x:NF))])[↥s]?=ba (.lst (L.map λx=>W.int (x:NF))):=af
 replace r:=r.trans (Ka.push (o:=O.lst (L.map λx=>W.int (x:NF))))
 replace g:=r.get _ _ g;replace h:=h.trans r;generalize s++[O.lst (L.map λx=>W.int (x:NF))]=S6 at y g h ⊢
 generalize ↥s=l6 at y ⊢;clear r;show st ?_;left;show iM L (λx=>W.int x) (λf=>decide (aC bs v (e.map (·.2)) f=aC bs u (e.map (·.1)) i)) (λf=>t9 (i,f)) [ba (aN (aC bs u (e.map (·.1)) i)),ba (.int i),ba (.tup [m0,.tup (NW aH w bs),b0]),ba (.ref l4),ba (.tup [aA u,aA v])] rfl rfl rfl rfl ∅ #[l6,rfl,y,.refl] (λf N c n=>?_) λS7 k7=>?_
 ·delta eB wC wT wE wA wV wG;show ag #v[] rfl ?_
  show xK  P M hl hv (λp l=>?_) (j f N).1 (by rw[Nz];omega) (n.get _ _ g) λS8 R=>?_
  ·obtain⟨q,m,rfl⟩:=NS.mp l;show#[A.l2 q m,λz=>(j f N).2 (z▸RE m)]
  ·show ab (Lp  ) ?_;delta wB;show#[λz=>#[z,rfl,R],λz=>#[z,R]]
 ·subst B;show k _ _ af ((h.trans k7).trans .push)
def CJ {p:NF×NF}:p9 (dN (e++[p])) (.int (-1)) S=ba (t9 p,S):=by
 have hl:((e++[p]).map t9).length=↥e+1:=by simp
 have b:vS ((e++[p]).map t9).length (-1)=ba ↥e:=by
  rw[hl];unfold vS;rw[Ot #v[]]
  show(Ob ∅).trans (by congr 1;omega)
 have a:((e++[p]).map t9)[↥e]?=ba (t9 p):=by simp
 unfold dN;revert p9 yc pM b a Option.bind_some OJ
abbrev Fst (e:Ny (NF×NF))(n:NF):Prop:=(e=[]/\n=0)\/∃a p,e=a++[p]/\n=p.1+1
def Fst.up (h:Fst e n)(b:Cmn bs u v e)(hi:n<=i):∀q∈e,q.1<i:=by
 rcases h with⟨rfl,_⟩|⟨c,p,rfl,rfl⟩
 ·show λq a=>by simp at a
 ·intro q a;rcases Oa.mp a with z|z
  ·have:=(jw  (f:=p.2).mp b).2.1 q z;omega
  ·cases NT.mp z;omega
def Fst.le (h:Fst e n)(hi:∀q∈e,q.1<i):n<=i:=by
 rcases h with⟨_,rfl⟩|⟨a,p,rfl,rfl⟩
 ·show Pj _
 ·show hi p (by simp)
def Js (P:Parts defs)(I:Icm defs){a:NF}(hb:GoodB bs)(hl:↥U=↥bs)(hu:GoodW a ↥bs u)(hv:GoodW a ↥bs v)(hu5:↥u<=100)(hv5:↥v<=100) :
  ∀ m d S (Q:QW) e b n,Cmn bs u v e->Cmn bs u v b->Fst e n->↥u<=n+m->
  (∀r g,Cmn bs u v r->↥b<=↥r->(∀t,Cmn bs u v (e++t)->(e++t).length<=↥r)->Ka S g->Q (dN r,g))->
  wO (aJ (aq defs fuel (d+m+4)) vv 4 [.tup [m0,.tup (NW aH U bs),b0],.tup [aA u,aA v],dN e,dN b] S) Q:=by
 intro m
 induction m using Nat.strongRecOn with
 |_ m ih=>
 intro d S Q e b n H hB hF hm k;show au I.best rfl rfl λQ' hR=>?_
 replace k:=λr g x y z w=>hR _ _ (k r g x y z w)
 change wZ _ _ dD [ba (.tup [m0,.tup (NW aH U bs),b0]),ba (.tup [aA u,aA v]),ba (dN e),ba (dN b),dx,dx,dx] S Q';have hel:=H.len;have hbl:=hB.len;generalize hR0:W.tup [m0,.tup (NW aH U bs),b0]=R;delta dD;nofun
 have tl:∀s:Ny (NF×NF),Cmn bs u v s->↥b<=↥s->↥e<=↥s->K [ba R,ba (.tup [aA u,aA v]),ba (dN e),ba (dN s),dx,dx,dx] S:=by
  intro s hB1 h1 h2;show hK _ _ ?_;clear hK K hB hbl;nofun
  have t2:K [ba R,ba (.tup [aA u,aA v]),ba (dN e),ba (dN s),ba (.int n),dx,dx] S:=by
   show hK _ _ ?_;clear hK K;nofun
   show eF n ↥u (λj Z g=>∃b2 a5 G,Z=[ba R,ba (.tup [aA u,aA v]),ba (dN e),ba (dN b2),ba (.int n),a5,G]/\Cmn bs u v b2/\↥s<=b2.length/\(∀p t,Cmn bs u v (e++p::t)->p.1<n+j->(e++p::t).length<=b2.length)/\Ka S g) rfl rfl rfl ?_ ?_ ?_ ?_
   ·have:n<=101:=by
     rcases hF with⟨_,rfl⟩|⟨e',p,rfl,rfl⟩
     ·omega
     ·have:=H.l1 p (by simp);omega
    omega
   ·left;show#[rfl,ag #v[] rfl (az #[by rw[Nz],s,dx,dx,rfl,hB1,NP _,λp t h z=>?_,.refl])]
    have:=hF.le h.next.1;omega
   ·rintro j Z S1 hj ⟨b2,a5,G,rfl,i,h3,X,k1⟩;clear hK;have ei:n+j=((n+j):NV):=∅
    rw[ei];have hi:n+j<↥u:=∅
    have T:=hF.up H (Qa n j);have hb2:=i.len;intro V c _;left;nofun
    replace hK:∀D g,V (.nx D,g)->K D g:=λD g h=>hK _ _ (aW h)
    delta wS wT wE wA wV wG;show az (ag #v[] rfl (az ?_))
    show ab fY (ab kF (az (ab Iz ?_)));delta wB;rw[Nz,Nz,Nz];show ah (Q0:=V) (λz Q3 o _=>?_) (λz Q3 o _=>aW (o _ _ (hK _ _ (c _ _ #[b2,_,_,rfl,i,h3,λp t h w=>?_,k1]))))
    ·show aK λK2 l=>?_
     replace l:∀D g,Q3 (.nx D,g)->K2 D g:=λD g h=>l _ _ (aW h)
     show dM rfl rfl ?_;left;subst hR0;show FM  P I hb hl hu hv hu5 hv5 H hi T λq S2 e2 k2=>?_
     have M:∀f∈kQ bs u v e (n+j),Cmn bs u v (e++[(n+j,f)]):=λf J=>jw.mpr #[H,T,hi,J]
     have B:∀p t,Cmn bs u v (e++p::t)->p.1=n+j->p.2∈kQ bs u v e (n+j):=λp t h z=>z▸h.next.2.2
     generalize kQ bs u v e (n+j)=L at e2 M B;show#[q,L.map λf=>t9 (n+j,f),λx Z C=>∃A G,Z=[ba (.tup [m0,.tup (NW aH U bs),b0]),ba (.tup [aA u,aA v]),ba (dN e),ba (dN A),ba (.int n),ba (.int ((n+j))),G]/\Cmn bs u v A/\b2.length<=↥A/\(∀f∈L.take x,∀t,Cmn bs u v (e++(n+j,f)::t)->(e++(n+j,f)::t).length<=↥A)/\C[q]?=ba (.lst (L.map λf=>t9 (n+j,f)))/\Ka S C,rfl,#[b2,G,rfl,i,NP _,λf J=>by simp at J,e2,k1.trans k2],λ_ _ _ #[_,_,_,_,_,_,h,_]=>h,?_,?_]
     ·rintro x w Z C hw ⟨A,a6',rfl,E,h5,Y,e3,k3⟩;clear hK l c o;rw[NO,NB]at hw;obtain⟨f,J,rfl⟩:=hw;show ab (rfl) ?_;intro Q4 hn4 _;show st ?_;left;show ab (show gS .add (dN e) (.tup [t9 (n+j,f)]) C=ba (dN (e++[(n+j,f)]),C)from ?_) ?_
      ·unfold dN;rw[cM (jB (by simp;omega)),N3];rfl
      dsimp only;have hC':=M f (N1 J);cases m with
      |zero=>omega
      |succ m'=>
       show ih m' (PX _) d C _ (e++[(n+j,f)]) A (n+j+1) hC' E (.inr #[e,_,rfl,rfl]) ∅ λr S4 g1 g2 g3 g4=>aW (hn4 _ _ #[r,_,rfl,g1,∅,λf' N t O=>?_,g4.get _ _ e3,k3.trans g4])
       rw[Ol,J]at N;rcases Oa.mp N with z|z
       ·show N9 (Y f' z t O) g2
       ·have:f'=f:=by simpa using z
        subst this;have:=g3 t (by rw[OO];show O)
        rw[OO]at this;show this
     ·rintro Z C ⟨A,a6',rfl,E,h5,Y,e3,k3⟩;rw[Nz,Ou]at Y;show l _ _ (o _ _ (hK _ _ (c _ _ #[A,_,_,rfl,E,∅,λp t h w=>?_,k3])))
      by_cases w2:p.1<n+j
      ·show N9 (X p t h w2) h5
      ·have w3:p.1=n+j:=∅
       have:=Y p.2 (B p t h w3) t (by rw[<- w3];show h)
       rw[<- w3]at this;show this
    ·by_cases w2:p.1<n+j
     ·show X p t h w2
     ·have:=h.most;have:=PB z;omega
   ·rintro Z S1 ⟨b2,a5,G,rfl,i,h3,X,k1⟩;show hK _ _ (st (k b2 S1 i ∅ (λt O=>?_) k1))
    cases t with
    |nil=>rw[Oz];omega
    |cons p t=>show X p t O (by have:=O.next.2.1;omega)
  delta wS wE wT wV wG NG;rcases hF with⟨rfl,rfl⟩|⟨e',p,rfl,rfl⟩
  ·show ab (rfl) #[λz=>(by cases z),λ_=>t2]
  ·show ab (show fm S (dN (e'++[p]))=ba true by simp[dN,fm]) #[λ_=>?_,λz=>by cases z]
   delta wN;show ab CJ (ag #v[] rfl (ab fY ?_))
   show t2
 delta wS wT wE wA wV wG;show az (az (ab Iz ?_));delta wB;rw[Nz,Nz];show ah (Q0:=Q') (λz V c _=>?_) (λz V c _=>aW (c _ _ (tl b hB (NP _) ?_)))
 ·show st ?_;left;have:=OC z;show aW (c _ _ (tl e H ∅ (NP _)))
 ·have:=PB z;omega
def tR (P:Parts defs)(I:Icm defs){a:NF}(j:GoodB bs)(hl:↥e=↥bs)(l:GoodW a ↥bs u)(n:GoodW a ↥bs v)(m:↥u<=5)(c:↥v<=100)
  (k:∀r b,Cmn bs u v r->(∀t,Cmn bs u v t->↥t<=↥r)->Ka S b->Q (dN r,b)) :
  wO (aJ (aq defs fuel (d+10)) qv 3 [.tup [m0,.tup (NW aH e bs),b0],aA u,aA v] S) Q:=by
 show au I.com rfl rfl λo i=>?_
 replace k:=λr b x y z=>i _ _ (k r b x y z)
 show st ?_;show Js P I j hl l n ∅ c 5 d S _ [] [] 0 .nil .nil (.inl #[rfl,rfl]) ∅ λr b f _ g h=>k r b f g h
abbrev bE:Ss:=
 #v[.set 4 (.comp (.tup #v[.ix (.v 2) (.k 0),.op .add (.ix (.v 2) (.k 1)) (.tup #v[.v 1])]) (.nm 1) (.rng #v[.bi .len #v[.ix (.v 0) (.k 1)]]) .nil [dx,dx,ba 3]),.ret (.comp (.v 1) (.nm 1) (.seq (.v 4)) #v[.cmp .is (.own qk 2 #v[.v 2,.op .add (.v 3) (.tup #v[.v 1])]) (.c .non)] [dx,dx,ba 1,ba 2])]
abbrev bJ:Ss:=
 #v[.set 3 (.lst .nil),.loop (.nm 4) (.seq (.own "wishes_over" 3 #v[.v 0,.v 1,.ix (.v 2) (.k 0)])) #v[.set 5 (.op .add (.ix (.v 2) (.k 0)) (.tup #v[.v 4])),.set 6 (.own q7 4 #v[.v 0,.v 1,.v 5,.ix (.v 2) (.k 2)]),.loop (.nm 7) (.seq (.own q7 4 #v[.v 0,.v 1,.v 5,.ix (.v 2) (.k 1)])) #v[.ex (.me .extend (.v 3) #v[.comp (.tup #v[.v 2,.v 3,.v 1]) (.nm 1) (.seq (.v 6)) .nil [dx,dx,ba 5,ba 7]])]],.ret (.v 3)]
abbrev cW (c:Wd×Pt×Pt):W:=.tup [aA c.1,aN c.2.1,aN c.2.2]
def qZ {p:Pt}:(jr U v n p).length<=n:=by
 show N9 (PM _ _) (by rw[Nz,N7];show NP _)
def jx {α β:Type}{F:α->Ny β}(h:∀x,(F x).length<=m):∀xs:Ny α,(xs.flatMap F).length<=↥xs*m
 |[]=>by simp
 |x::xs=>by
  rw[Qo,NE,On,Nat.add_mul,Nat.one_mul];have:=jx h xs;have:=h x;omega
def CK {a :NF}(e:a<=3)(c:n<=3)(d:↥u<=3):(pg U u a n).length<=81:=by
 have b:=N9 (UQ c _) (UE  #v[] d)
 have:=jx (F:=λ(m:NF)=>db U u n m _) (λm=>N9 (fF _) b) (NQ a)
 rw[N7]at this;show N9 this ∅
def CL (H:Is defs ("three_at") 4 6 bu)(o:Is defs ("first_bar") 2 4 bn)(J:Is defs ("longer_by_a_way") 4 5 bE){a  q:NF}{p:Pt}(I:↥N=n)(M:n<=3)(O:GoodW a n v)(P:1<=↥v)(R:↥v<=10)(r:0<=p.1/\p.1<a)(s:↥p.2+1=↥v)(t:∀w∈p.2,0<=w/\w<n)(e:S[q]?=ba (.dic U))
  (k:∀ l f,f[l]?=ba (.lst ((jr U v n p).map aN))->↥S<=l->Ka S f->Q (.ref l,f)) :
  wO (aJ (aq defs fuel (d+3)) q7 4 [.tup [m0,.tup N,b0],.ref q,aA v,aN p] S) Q:=by
 show au J rfl rfl λC B=>?_
 replace k:=λl f a b c=>B _ _ (k l f a b c)
 clear B;change wZ _ _ bE [ba (.tup [m0,.tup N,b0]),ba (.ref q),ba (aA v),ba (aN p),dx] S C;delta bE;show st ?_;left;show fR n (λ_=>true) (λw=>aN (p.1,p.2++[(w:NV)])) [ba (aN p)] rfl rfl rfl rfl ∅ ?_ (λw hw D j=>?_) λD j=>?_
 ·left;show ag #v[] rfl (az ?_)
  rw[I];show#[rfl,.refl]
 ·delta eB wC wE wA wV wG;show#[λ_=>?_,λz=>by cases z]
  show ag #v[] rfl (ag #v[] rfl ?_)
  show ab (cM (j8 (by rw[NE,Nz];show _+1<=_;omega))) ?_
  show#[rfl,?_,.refl];unfold aN;dsimp only;rw[N3];rfl
 ·rw[bc];show st ?_;left;have G:((NQ n).map λ(w:NF)=>aN (p.1,p.2++[(w:NV)]))=(((NQ n).map λ(w:NF)=>((p.1,p.2++[(w:NV)]))).map aN):=by rw[OL];rfl
  rw[G];show iM ((NQ n).map λ(w:NF)=>((p.1,p.2++[(w:NV)]))) aN (λh=>cr U (v++[h])) aN [ba (.ref q),ba (aA v)] rfl rfl rfl rfl (by rw[Nz,N7];omega) #[_,rfl,af,.refl] (λh L E m=>?_) λE m=>?_
  ·obtain⟨w,hw,rfl⟩:=NS.mp L;have hw:=NU.mp hw;have A:GoodW a n (v++[(p.1,p.2++[(w:NV)])]):=O.snoc r (by rw[NE];show s) λx V=>by
    rcases Oa.mp V with z|z
    ·show t x z
    ·rw[NT.mp z];omega
   generalize((p.1,p.2++[(w:NV)]))=h at A;have X:(v++[h]).length=↥v+1:=by rw[NE];rfl
   delta eB wC wT wE wA wV wG aA;have u:v.map aN++[aN h]=(v++[h]).map aN:=by rw[N3];rfl
   show ab (cM (j8 (by rw[u,Nz];omega))) ?_
   dsimp only;rw[u];have y:=λQ=>gL (fuel:=fuel) (d:=d) (Q:=Q) H o A ∅ ∅ ((j.trans (Ka.push.trans m)).get _ _ e)
   unfold aA at y;show y _ λz g=>?_
   rcases g with⟨rfl,g⟩|⟨i,rfl,g⟩
   ·show ab rfl ?_;delta wB;show#[λ_=>#[g,rfl,.refl],λz=>by cases z]
   ·show ab rfl ?_;delta wB;show#[λz=>(by cases z),λ_=>#[g,.refl]]
  ·show k _ _ af ?_ ((j.trans (Ka.push.trans m)).trans .push);have:=(j.trans (Ka.push.trans m)).len;show this
structure Sea (defs:Ny (Oc×Df)):Prop where
 three:Is defs ("three_at": Oc) 4 6 bu
 fbar:Is defs ("first_bar": Oc) 2 4 bn
 lwish:Is defs ("longer_wishes": Oc) 2 5 cK
 wover:Is defs ("wishes_over": Oc) 3 7 cD
 byway:Is defs ("longer_by_a_way": Oc) 4 5 bE
 bypt:Is defs ("longer_by_a_point": Oc) 3 8 bJ
def vH (X:Sea defs){a  q:NF}{p r:Pt}(hM:↥g=a)(hN:↥N=n)(D:a<=3)(s:n<=3)(y:Cf a n U u p r)(E:↥u<=3)(e:S[q]?=ba (.dic U))
  (k:∀ l f,f[l]?=ba (.lst ((tH U a n u p r).map cW))->↥S<=l->Ka S f->Q (.ref l,f)) :
  wO (aJ (aq defs fuel (d+4)) "longer_by_a_point" 3 [.tup [.tup g,.tup N,b0],.ref q,.tup [aA u,aN p,aN r]] S) Q:=by
 show au X.bypt rfl rfl λQ' hR=>?_
 replace k:=λl f a b c=>hR _ _ (k l f a b c)
 clear hR;change wZ _ _ bJ [ba (.tup [.tup g,.tup N,b0]),ba (.ref q),ba (.tup [aA u,aN p,aN r]),dx,dx,dx,dx,dx] S Q';have wl:=CK (U:=U)  D s E;have ww:=λS Q e=>oq  (fuel:=fuel) (d:=d) (S:=S) (Q:=Q)   (b0:=b0) (q:=q) X.three X.fbar X.lwish X.wover hM hN D s y.gu (N9 E #v[]) (U:=U) e
 have bw:=λv p S Q hv hv1 hvl hp0 hpl hpw e=>CL  (fuel:=fuel) (d:=d) (S:=S) (Q:=Q) (m0:=.tup g)  (b0:=b0) (q:=q) (a:=a)  (U:=U) (v:=v) (p:=p) X.three X.fbar X.byway hN s hv hv1 hvl hp0 hpl hpw e
 generalize W.tup [.tup g,.tup N,b0]=R at ww bw;have hF:∀x ,((jr U (u++[x]) n p).flatMap λh=>(jr U (u++[x]) n r).map λh'=>(u++[x],h,h')).length<=9:=λx=>by
  have h1:=jx (F:=λh=>(jr U (u++[x]) n r).map λh'=>(u++[x],h,h'))  (λh=>by rw[Nz];show N9 qZ s) (jr U (u++[x]) n p)
  have h2:=qZ (U:=U) (v:=u++[x]) (n:=n) (p:=p);omega
 unfold tH at k;generalize hwF:pg U u a n=ws at k wl ww;delta bJ;show st ?_;left;nofun
 show dM rfl rfl ?_;left;show ag #v[] rfl (ww _ _ (aB e) λt S2 e2 ht k2=>?_)
 have hSt:↥S<t:=by
  have h1:(S++[O.lst []]).length=↥S+1:=by simp
  have h2:(S++[O.lst []]).length<=t:=ht;omega
 show#[t,ws.map aN,λi Z f=>(∃V Y a6 A,Z=[ba R,ba (.ref q),ba (.tup [aA u,aN p,aN r]),ba (.ref ↥S),V,Y,a6,A])/\f[↥S]?=ba (.lst (((ws.take i).flatMap λx=>(jr U (u++[x]) n p).flatMap λh=>(jr U (u++[x]) n r).map λh'=>(u++[x],h,h')).map cW))/\f[t]?=ba (.lst (ws.map aN))/\Ka S f,rfl,#[#[_,_,_,_,rfl],k2.get _ _ af,e2,Ka.push.trans k2],λ_ _ _ h=>h.2.2.1,?_,?_]
 ·rintro i w Z S3 hw ⟨⟨V,Y,a6,A,rfl⟩,L,t3,H⟩;clear hK;rw[NO,NB]at hw;obtain⟨x,hx,rfl⟩:=hw;have G:=N1 hx;rw[<- hwF]at G;obtain⟨g1,g2,g3,_⟩:=nz.mp G;have gv:=y.gu.snoc   g1 g2 g3;have vl:(u++[x]).length=↥u+1:=by rw[NE];rfl
  have hil:=(NZ.mp hx).1;show ab (rfl) ?_;intro Q3 hn _;show st ?_;left;show ag #v[] rfl ?_
  delta aA;have ev:u.map aN++[aN x]=(u++[x]).map aN:=by rw[N3];rfl
  show ab (cM (j8 (by rw[ev,Nz];omega))) ?_
  dsimp only;rw[ev];have hs:∀xs ,W.tup (xs.map aN)=aA xs:=λ_=>rfl
  rw[hs,hs];show st ?_;left;show ag #v[] rfl (bw (u++[x]) r _ _ gv ∅ ∅ y.gq.mark (by rw[y.gq.len,vl]) y.gq.way (H.get _ _ e) λJ S4 e6 ht6 I=>?_)
  have t4:=I.get _ _ t3;have e4:=I.get _ _ L;have hS3:=bQ t3;nofun
  show dM rfl rfl ?_;left;show ag #v[] rfl (bw (u++[x]) p _ _ gv ∅ ∅ y.gp.mark (by rw[y.gp.len,vl]) y.gp.way ((H.trans I).get _ _ e) λP S5 e7 ht7 M=>?_)
  have lp:=qZ (U:=U) (v:=u++[x]) (n:=n) (p:=p);have lr:=qZ (U:=U) (v:=u++[x]) (n:=n) (p:=r);have hF':=hF x;have eD:ws.take (i+1)=ws.take i++[x]:=by rw[Ol,hx];rfl
  have fl:=jx  hF (ws.take i);rw[Om]at fl;have h46:=bQ e6;have h4:↥S<J:=by have:↥S3<=J:=ht6;omega
  have h7:↥S<P:=by have:↥S4<=P:=ht7;have:=I.len;omega
  show#[P,(jr U (u++[x]) n p).map aN,λj Z f=>(∃A,Z=[ba R,ba (.ref q),ba (.tup [aA u,aN p,aN r]),ba (.ref ↥S),ba (aN x),ba (aA (u++[x])),ba (.ref J),A])/\f[↥S]?=ba (.lst (((ws.take i).flatMap (λx=>(jr U (u++[x]) n p).flatMap λh=>(jr U (u++[x]) n r).map λh'=>(u++[x],h,h'))++((jr U (u++[x]) n p).take j).flatMap λh=>(jr U (u++[x]) n r).map λh'=>(u++[x],h,h')).map cW))/\f[P]?=ba (.lst ((jr U (u++[x]) n p).map aN))/\f[J]?=ba (.lst ((jr U (u++[x]) n r).map aN))/\f[t]?=ba (.lst (ws.map aN))/\Ka S f,rfl,#[#[_,rfl],by rw[Qm,Tv,Oz];show M.get _ _ e4,e7,M.get _ _ e6,M.get _ _ t4,(H.trans I).trans M],λ_ _ _ h=>h.2.2.1,?_,?_]
  ·rintro j w Z S6 hw ⟨⟨A,rfl⟩,B,f7,f6,ft,k8⟩;clear hK hn;rw[NO,NB]at hw;obtain⟨h,hh,rfl⟩:=hw;have hjl:j<(jr U (u++[x]) n p).length:=(NZ.mp hh).1;show ab (rfl) ?_;intro Q4 hn4 _;show st ?_;left;show#[cN B,?_];show iM (jr U (u++[x]) n r) aN (λ_=>true) (λh'=>cW (u++[x],h,h')) [ba (aA (u++[x])),ba (aN h)] rfl rfl rfl rfl ∅ #[J,rfl,f6,.refl] (λh' _ S7 k7=>?_) λS7 k7=>?_
   ·delta eB wC wE wA wV wG;show#[λ_=>#[rfl,rfl,.refl],λz=>by cases z]
   ·rw[bc];have C:=k7.trans (Ka.push (o:=O.lst ((jr U (u++[x]) n r).map λh'=>cW (u++[x],h,h'))))
    have gl:=jx (F:=λh=>(jr U (u++[x]) n r).map λh'=>(u++[x],h,h')) (m:=3) (λh=>by rw[Nz];omega) ((jr U (u++[x]) n p).take j)
    rw[Om]at gl;show Lo (C.get _ _ B) af ?_ (aW (hn4 _ _ #[#[_,rfl],?_,?_,?_,?_,(k8.trans C).late (NP _)]))
    ·rw[Nz,NE,Nz];omega
    ·rw[bg (C.get _ _ B),Ol,hh];simp[P6,N3,cW,SY]
    ·rw[be ∅];show C.get _ _ f7
    ·rw[be ∅];show C.get _ _ f6
    ·rw[be ∅];show C.get _ _ ft
  ·rintro Z S6 ⟨⟨A,rfl⟩,B,f7,f6,ft,k8⟩;rw[Nz,Ou]at B;show hK _ _ (aW (hn _ _ #[#[_,_,_,_,rfl],?_,ft,k8]));rw[eD,P6,List.flatMap_singleton];show B
 ·rintro Z S3 ⟨⟨V,Y,a6,A,rfl⟩,L,t3,H⟩;rw[Nz,Ou]at L;show hK _ _ (st ?_);left;show k _ _ L (NP _) H
abbrev bF:Ss:=
 #v[.set 4 (.sl (.own "all_bars" 5 #v[.v 0,.v 1,.ix (.v 2) (.k 0),.ix (.v 2) (.k 1),.ix (.v 2) (.k 2)]) .no (.yes (.v 3))),.ite (.cmp .notin (.c .non) (.v 4)) #v[.ret (.v 2)] .nil,.set 5 (.me .index (.v 4) #v[.c .non]),.loop (.nm 6) (.seq (.own "longer_by_a_point" 3 #v[.v 0,.v 1,.v 2])) #v[.ite (.cmp .isnot (.ix (.own "all_bars" 5 #v[.v 0,.v 1,.ix (.v 6) (.k 0),.ix (.v 6) (.k 1),.ix (.v 6) (.k 2)]) (.v 5)) (.c .non)) #v[.set 7 (.own px 4 #v[.v 0,.v 1,.v 6,.v 3]),.ite (.cmp .isnot (.v 7) (.c .non)) #v[.ret (.v 7)] .nil] .nil],.ret (.c .non)]
abbrev fI:Ss:=
 #v[.set 2 (.own vr 1 #v[.v 0]),.loop (.nm 3) (.rng #v[.bi .len #v[.ix (.v 0) (.k 0)]]) #v[.loop (.nm 4) (.rng2 #v[.v 3,.bi .len #v[.ix (.v 0) (.k 0)]]) #v[.set 5 (.own px 4 #v[.v 0,.v 2,.tup #v[.tup .nil,.tup #v[.v 3,.tup .nil],.tup #v[.v 4,.tup .nil]],.v 1]),.ite (.cmp .isnot (.v 5) (.c .non)) #v[.ret (.v 5)] .nil]],.ret (.c .non)]
abbrev nP:Ss:=
 #v[.ret (.own "first_unfilled" 2 #v[.v 0,.bi .len #v[.ix (.v 0) (.k 1)]])]
def tU {a :NF}{p q:Pt}(d:GoodP a k ↥u p)(f:GoodP a k ↥u q)(hi:i<=↥bs):∃w,(fZ (λv p=>bT U v p ↥u (↥u+1)) bs u p q)[i]?=ba w/\NI w/\Lu w = !cX U bs u p q i:=by
 by_cases c:i<↥bs
 ·show#[cz (λk=>bT U (dP bs u p q i) k ↥u (↥u+1)) ↥u,?_,kO _ _,?_]
  ·unfold fZ;rw[Ow (by rw[Nz,N7];show c),NO,O8 c];rfl
  ·unfold cX;rw[Ob c,pr,List.not_any_eq_all_not];rw[Qp,N6,N6];have b:∀k∈NQ _,bT U _ k _ _=bd U (nI u p q (bs.getD i 0) k):=λk hk=>by
    unfold bT bd;rw[vB d f (NU.mp hk)]
   show#[λh k hk=>by rw[<- b k hk];show h k hk,λh k hk=>by rw[b k hk];show h k hk]
 ·obtain rfl:i=↥bs:=∅
  show#[kP p q,?_,vz _ _,?_]
  ·unfold fZ;rw[Ox (by rw[Nz,N7];show NP _),Nz,N7,Qh];rfl
  ·unfold cX;rw[Ot c,VF];unfold kP Ck
   by_cases e:p.1=q.1
   ·rw[Ob e,pr,d.len,e,Os,QN];congr 1
    funext p
    rw[VF]
   ·rw[Ot e,show(p.1==q.1)=false by simpa using e];rfl
def vI (h:NI w):iU w .non=Lu w:=by
 rcases h with rfl|⟨i,rfl⟩<;>rfl
def y9 {Yq:Ny W}{f:NF->Oh}(hl:↥Yq=c)(h:∀i<c,∃w,Yq[i]?=ba w/\NI w/\Lu w = !f i):(∀w∈Yq,NI w)/\(((Yq.any λz=>iU z .non)=false/\∀i<c,f i=true)\/∃i<c,(Yq.any λz=>iU z .non)=true/\(Yq.findIdx? λz=>iU z .non)=ba i/\f i=false):=by
 have l:∀w∈Yq,NI w:=λw hw=>by
  obtain⟨i,hi,e⟩:=Pq hw;obtain⟨m,a,b,_⟩:=h i ∅
  rw[NK hi,e]at a;cases a;show b
 show#[l,?_];cases g:Yq.findIdx? λz=>iU z _ with
 |none=>
  rw[List.findIdx?_eq_none_iff]at g;show .inl #[Rm.mpr λx k=>by rw[g x k];show OG,λi hi=>?_]
  obtain⟨w,a,b,d⟩:=h i hi;have:=g w (N1 a);rw[vI b,d]at this
  simpa using this
 |some i=>
  obtain⟨hi,a,_⟩:=PZ.mp g;obtain⟨w,b,d,j⟩:=h i ∅
  rw[NK hi]at b;cases b;rw[vI d,j]at a;show .inr #[i,∅,Qe.mpr #[_,OE hi,by rw[vI d,j];show a],rfl,by simpa using a]
def xL {Yq:Ny W}(h:∀w∈Yq,NI w):Yq.all aR=true:=N6.mpr λw hw=>by
 rcases h w hw with rfl|⟨i,rfl⟩<;>rfl
def CN (h:∀w∈Yq,NI w):bK .notin .non (.tup Yq) S=ba (.bl (!(Yq.any λz=>iU z .non)),S):=by
 have a:(aR .non&&Yq.all aR)=true:=by rw[xL h];rfl
 show qB (qA rfl a rfl)
def CO (h:NI w):bK .isnot w .non S=ba (.bl (!Lu w),S):=by
 rcases h with rfl|⟨i,rfl⟩<;>rfl
def FN {i:NF}(h:∀w∈Yq,NI w)(hl:↥Yq<=1000000)(hi:(Yq.findIdx? λz=>iU z .non)=ba i)(q:Q (.int i,S)):wO (Me.index.fn (.tup Yq) [.non] S) Q:=by
 show ab ?_ q;change mD (.tup Yq) _ S=_;unfold mD;rw[show cQ S _=ba Yq from rfl]
 dsimp only;rw[show aR _=true from rfl,xL h,OS hl,hi];rfl
abbrev Nj (a:NF)(bs:Ny NV)(U:Ny (T×W))(c:NF)(u:Wd)(p q:Pt)(w:W):Prop:=(w=.non/\gP a bs U c u p q)\/∃x:Wd×Pt×Pt,w=cW x/\Cf a ↥bs U x.1 x.2.1 x.2.2/\Full U bs c x.1 x.2.1 x.2.2/\↥x.1<=c
def vJ (F:Fil defs)(X:Sea defs)(hg:Is defs ("unfilled_behind") 4 8 bF){E:Ny W}{B:Ny Oc}{a q :NF}(V:GoodB bs)(t:↥B=↥bs)(hml:↥E=a)(ha3:a<=3)(cl:Cl bs U)(hc1:c<=↥bs+1) :
  ∀ m d S (Q:QW) u p r,Cf a ↥bs U u p r->Cr U bs c u p r<=m->↥u+m<=c->S[q]?=ba (.dic U)->(∀w n,Nj a bs U c u p r w->Ka S n->Q (w,n))->
  wO (aJ (aq defs fuel (d+m+5)) px 4 [.tup [.tup E,.tup (NW aH B bs),b0],.ref q,.tup [aA u,aN p,aN r],.int c] S) Q:=by
 have hb3:↥bs<=3:=by rcases V with rfl|rfl|rfl|rfl|rfl|rfl<;>decide
 have zl:(NW aH B bs).length=↥bs:=by rw[P5,t];omega
 intro m
 induction m with
 |zero=>?_
 |succ m ih=>?_
 all_goals
  intro d S Q u p r b o hlen e k;show au hg rfl rfl λO hR=>?_
  replace k:=λw n x y=>hR _ _ (k w n x y)
  clear hR;change wZ _ _ bF [ba (.tup [.tup E,.tup (NW aH B bs),b0]),ba (.ref q),ba (.tup [aA u,aN p,aN r]),ba (.int c),dx,dx,dx,dx] S O;delta bF;nofun
  delta wS wE wA wP wV wG NG;show ag #v[] rfl (ag #v[] rfl (ag #v[] rfl ?_))
  have bl:(fZ (λv p=>bT U v p ↥u (↥u+1)) bs u p r).length=↥bs+1:=yW
  have N:=y9 (c:=c) (Yq:=(fZ (λv p=>bT U v p ↥u (↥u+1)) bs u p r).take c)  (by rw[Om];omega) (λi hi=>by rw[Vg,Ob hi];show tU b.gp b.gq ∅)
  show nH F V t b.gu b.gp b.gq ∅ e λS1 k1=>?_
  delta wN;show ab (show t8 (.tup (fZ (λv p=>bT U v p ↥u (↥u+1)) bs u p r)) dx (ba c) S1=ba (.tup ((fZ (λv p=>bT U v p ↥u (↥u+1)) bs u p r).take c),S1) by revert t8 fE) ?_
  show hK _ _ ?_;clear hK K;have yl:((fZ (λv p=>bT U v p ↥u (↥u+1)) bs u p r).take c).length<=1000000:=by rw[Om];omega
  generalize(fZ (λv p=>bT U v p ↥u (↥u+1)) bs u p r).take c=Yq at N yl
  clear bl;obtain⟨ni,N⟩:=N;nofun
  delta wS wT wE wV wG;show ab (CN ni) ?_;delta wB
 ·rcases N with⟨I,h2⟩|⟨i,hi,_,_,R⟩
  ·rw[I];show ah (Q0:=O) (λ_ Q2 _ hr=>?_) (λz=>by cases z)
   show st ?_;left;show hr _ _ (k _ _ (.inr #[(u,p,r),rfl,b,h2,by change ↥u<=c;omega]) k1)
  ·have:0<Cr U bs c u p r:=TY (OY.mpr #[NU.mpr hi,by rw[R];rfl])
   omega
 ·rcases N with⟨I,h2⟩|⟨i,hi,I,h3,R⟩
  ·rw[I];show ah (Q0:=O) (λ_ Q2 _ hr=>?_) (λz=>by cases z)
   show st ?_;left;show hr _ _ (k _ _ (.inr #[(u,p,r),rfl,b,h2,by change ↥u<=c;omega]) k1)
  ·rw[I];show ah (Q0:=O) (λz=>by cases z) (λ_ Q2 hn _=>aW (hn _ _ (hK _ _ ?_)))
   clear hn hK K;nofun
   left;show#[rfl,FN ni yl h3 (hK _ _ ?_)];clear hK K;nofun
   show dM rfl rfl ?_;left;show vH  X hml zl ha3 hb3 b ∅ (k1.get _ _ e) λl S2 e2 hl2 k2=>?_
   have ho:=λx (C:x∈tH U a ↥bs u p r)=>Fk (bs:=bs) b C
   have M:(∀x∈tH U a ↥bs u p r,cX U bs x.1 x.2.1 x.2.2 i=true->gP a bs U c x.1 x.2.1 x.2.2)->gP a bs U c u p r:=Jb V cl hi R;generalize tH U a ↥bs u p r=L at e2 ho M;show#[l,L.map cW,λj Z n=>(∃P H,Z=[ba (.tup [.tup E,.tup (NW aH B bs),b0]),ba (.ref q),ba (.tup [aA u,aN p,aN r]),ba (.int c),ba (.tup Yq),ba (.int i),P,H])/\(∀x∈L.take j,cX U bs x.1 x.2.1 x.2.2 i=true->gP a bs U c x.1 x.2.1 x.2.2)/\n[l]?=ba (.lst (L.map cW))/\Ka S n,rfl,#[#[_,_,rfl],(λx C=>by cases C),e2,k1.trans k2],λ_ _ _ h=>h.2.2.1,?_,?_]
   ·rintro j w Z S3 hw ⟨⟨P,H,rfl⟩,f,e3,A⟩;clear hK;rw[NO,NB]at hw;obtain⟨x,C,rfl⟩:=hw;obtain⟨G,xl,xh⟩:=ho x (N1 C);have g:(cX U bs x.1 x.2.1 x.2.2 i=true->gP a bs U c x.1 x.2.1 x.2.2)->∀y∈L.take (j+1),cX U bs y.1 y.2.1 y.2.2 i=true->gP a bs U c y.1 y.2.1 y.2.2:=λh y hy=>by
     rw[Ol,C]at hy;rcases Oa.mp hy with z|z
     ·show f y z
     ·obtain rfl:y=x:=by simpa using z
      show h
    show ab (show mI (.nm 6) (cW x) [ba (.tup [.tup E,.tup (NW aH B bs),b0]),ba (.ref q),ba (.tup [aA u,aN p,aN r]),ba (.int c),ba (.tup Yq),ba (.int i),P,H] S3=ba ([ba (.tup [.tup E,.tup (NW aH B bs),b0]),ba (.ref q),ba (.tup [aA u,aN p,aN r]),ba (.int c),ba (.tup Yq),ba (.int i),ba (.tup [aA x.1,aN x.2.1,aN x.2.2]),H],S3)from rfl) ?_
    intro Q3 J hr3;nofun
    delta wS wT wE wA wV wG;show ag #v[] rfl (ag #v[] rfl (ag #v[] rfl ?_))
    show nH  F V t G.gu G.gp G.gq ∅ (A.get _ _ e) λS4 D=>?_
    obtain⟨w,w1,w2,w3⟩:=tU (bs:=bs) (i:=i)  G.gp G.gq ∅
    show ag (NX i) (by rw[Od];show w1) (ab (CO w2) ?_)
    delta wB;rw[w3,VF];show ah (Q0:=Q3) (λY Q5 s hr5=>?_) (λY Q5 s _=>aW (s _ _ (hK _ _ (aW (J _ _ #[#[_,_,rfl],g (λz=>by rw[z]at Y;cases Y),D.get _ _ e3,A.trans D])))))
    show st ?_;left;show ih d _ _ x.1 x.2.1 x.2.2 G ?_ ∅ ((A.trans D).get _ _ e) λw S5 hw k5=>?_
    ·have:=Fj  hi xh R Y;unfold Cr at o ⊢;omega
    show aK λK2 hK2=>?_
    delta wS wT wE wV wG;rcases hw with⟨rfl,hw⟩|⟨y,rfl,y1⟩
    ·show ab (rfl) ?_;delta wB;show ah (Q0:=Q5) (λz=>by cases z) (λ_ Q6 hn6 _=>aW (hn6 _ _ (hK2 _ _ (aW (s _ _ (hK _ _ (aW (J _ _ #[#[_,_,rfl],g λ_=>hw,(D.trans k5).get _ _ e3,(A.trans D).trans k5]))))))))
    ·show ab (rfl) ?_;delta wB;show ah (Q0:=Q5) (λ_ Q6 _ hr6=>?_) (λz=>by cases z)
     show st ?_;left;show hr6 _ _ (hr5 _ _ (hr3 _ _ (k _ _ (.inr #[y,rfl,y1]) ((A.trans D).trans k5))))
   ·rintro Z S3 ⟨⟨P,H,rfl⟩,f,e3,A⟩;rw[Nz,Ou]at f;show hK _ _ (st ?_);left;show k _ _ (.inl #[rfl,M f]) A
abbrev M3 (a:NF)(bs:Ny NV)(U:Ny (T×W))(c:NF)(w:W):Prop:=(w=.non/\¬ lg a bs U c)\/∃x:Wd×Pt×Pt,w=cW x/\Cf a ↥bs U x.1 x.2.1 x.2.2/\Full U bs c x.1 x.2.1 x.2.2/\↥x.1<=c
def Jt {a   :NF}(hi:i<a)(b:j<a):Cf a n U [] (i,[]) (j,[]):=
 #[.nil,λk hk=>(by cases hk),#[#[NX _,∅],rfl,λw hw=>nomatch hw],rfl,#[#[NX _,∅],rfl,λw hw=>nomatch hw],rfl]
structure Unl (defs:Ny (Oc×Df)):Prop where
 fil:Fil defs
 sea:Sea defs
 behind:Is defs ("unfilled_behind": Oc) 4 8 bF
 first:Is defs ("first_unfilled": Oc) 2 6 fI
 put:Is defs ("put_on": Oc) 1 1 nP
def km (X:20<fuel)(L:Unl defs){H:Ny W}{I:Ny Oc}{a :NF}(M:GoodB bs)(G:↥I=↥bs)(E:↥H=a)(T:a<=3)(C:∀g∈t,GoodW a ↥bs g/\↥g=3)(P:↥t<=100)(hc:↥bs<=c)(V:c<=↥bs+1)
  (k:∀w U b,HasD U (aX bs t)->M3 a bs U c w->Ka S b->Q (w,b)) :
  wO (aJ (aq defs fuel (d+c+6)) "first_unfilled" 2 [.tup [.tup H,.tup (NW aH I bs),.tup (t.map aA)],.int c] S) Q:=by
 show au L.first rfl rfl λQ' hR=>?_
 replace k:=λw x b n o B=>hR _ _ (k w x b n o B)
 nofun
 left;show nq  X L.fil.parts L.fil.part L.fil.longer L.fil.barred M G C P λq U S1 e1 n _ k1=>hK _ _ ?_
 have cl:=Cm M C n;have hk:=λw b=>k w U b n
 have un:∀i j S Q,i<a->j<a->S[q]?=ba (.dic U)->(∀w b,Nj a bs U c [] (i,[]) (j,[]) w->Ka S b->Q (w,b))->wO (aJ (aq defs fuel (d+c+5)) px 4 [.tup [.tup H,.tup (NW aH I bs),.tup (t.map aA)],.ref q,.tup [.tup [],.tup [.int i,.tup []],.tup [.int j,.tup []]],.int c] S) Q:=λi j S Q hi hj e h=>vJ L.fil L.sea L.behind M G E T cl V c d S Q [] (i,[]) (j,[]) (Jt hi hj) (by
  show N9 (PM _ _) (by rw[N7];show NP _)) (by simp) e h
 have la:∀S Q,Q (.int a,S)->wO (p9 (.tup [.tup H,.tup (NW aH I bs),.tup (t.map aA)]) (.int 0) S) λp=>wO (Bi.len.fn [p.1] p.2) Q:=λS Q q=>by
  show ag #v[] rfl (az ?_)
  rw[E];show q
 generalize W.tup [.tup H,.tup (NW aH I bs),.tup (t.map aA)]=R at un la;nofun
 show b8 a (λi Z b=>(∃O r s,Z=[ba R,ba (.int c),ba (.ref q),O,r,s])/\(∀A f,A<i->A<=f->f<a->gP a bs U c [] (A,[]) (f,[]))/\b[q]?=ba (.dic U)/\Ka S b) rfl rfl ∅ ?_ ?_ ?_
 ·show la _ _ #[rfl,#[_,_,_,rfl],(λA f h=>by show absurd ‹_› (P7 _)),e1,k1]
 ·rintro i Z S2 hi ⟨⟨O,r,s,rfl⟩,u,e2,k2⟩ Q2 hn2 hr2;have Y:i<a:=∅
  left;nofun
  show eF i a (λm Z b=>(∃r s,Z=[ba R,ba (.int c),ba (.ref q),ba (.int i),r,s])/\(∀f,i<=f->f<i+m->gP a bs U c [] (i,[]) (f,[]))/\b[q]?=ba (.dic U)/\Ka S b) rfl rfl rfl ∅ ?_ ?_ ?_
  ·show#[rfl,la _ _ #[rfl,#[_,_,rfl],(λf n o=>∅),e2,k2]]
  ·rintro m Z S3 hm ⟨⟨r,s,rfl⟩,l,J,N⟩ Q3 hn3 hr3;rw[show i+m=((i+m:NF):NV) by omega]
   have D:i+m<a:=∅
   generalize hj:i+m=j at D;show st ?_;left;show un i j _ _ Y D J λw S4 hw k4=>?_
   nofun
   delta wS wT wE wV;rcases hw with⟨rfl,hw⟩|⟨y,rfl,y1⟩
   ·show ab rfl ?_;show ah (Q0:=Q3) (λz=>by cases z) (λ_ Q6 hn6 _=>aW (hn6 _ _ (hK _ _ (aW (hn3 _ _ #[#[_,_,rfl],λf n o=>?_,k4.get _ _ J,N.trans k4])))))
    by_cases ej:f=j
    ·rw[ej];show hw
    ·show l f n ∅
   ·show ab rfl ?_;delta wB;show ah (Q0:=Q3) (λ_ Q6 _ hr6=>?_) (λz=>by cases z)
    show st ?_;left;show hr6 _ _ (hr3 _ _ (hr2 _ _ (hk _ _ (.inr #[y,rfl,y1]) (N.trans k4))))
  ·rintro Z S3 ⟨⟨r,s,rfl⟩,l,J,N⟩;show hK _ _ (aW (hn2 _ _ #[#[_,_,_,rfl],λA f n o B=>?_,J,N]))
   by_cases ei:A=i
   ·subst ei;show l f o ∅
   ·show u A f ∅ o B
 ·rintro Z S2 ⟨⟨O,r,s,rfl⟩,u,e2,k2⟩;show hK _ _ (st ?_);left;show hk _ _ (.inl #[rfl,Lv M cl hc λi j n o B=>u i j ∅ o B]) k2
def CP (i:20<fuel)(L:Unl defs){a:NF}(o:GoodB bs)(c:↥n=↥bs)(l:↥m=a)(h:a<=3)(j:∀g∈b,GoodW a ↥bs g/\↥g=3)(f:↥b<=100)
  (k:∀w U e,HasD U (aX bs b)->M3 a bs U ↥bs w->Ka S e->Q (w,e)) :
  wO (aJ (aq defs fuel (d+11)) "put_on" 1 [.tup [.tup m,.tup (NW aH n bs),.tup (b.map aA)]] S) Q:=by
 show au L.put rfl rfl λp t=>?_
 change wZ _ _ nP [ba (.tup [.tup m,.tup (NW aH n bs),.tup (b.map aA)])] S p;have u:↥bs<=3:=by rcases o with rfl|rfl|rfl|rfl|rfl|rfl<;>decide
 show st ?_;left;show ag #v[] rfl (az ?_)
 rw[P5,c,Q9,show d+10=(d+4-↥bs)+↥bs+6 by omega]
 show km i L o c l h j f (by show NP _) (by show Qa _ _) λw U e q r s=>t _ _ (k w U e q r s)
abbrev tV (n:NF)(brk:NV->NV->NV->Oh)(A D:NV×NV):Oh:=decide (A=D)||(gf n).any λw=>(!brk w A.1 D.1 && !brk w A.2 D.2)||(!brk w D.1 A.1 && !brk w D.2 A.2)
abbrev FP (n:NF):Ny (NV×NV):=(gf n).flatMap λx=>(gf n).map λy=>(x,y)
abbrev CQ (n:NF)(bs:Ny NV)(brk:NV->NV->NV->Oh)(fin:Ny (NV×NV)->Oh):Ny NF->Ny (NV×NV)->Oh
 |[],C=>fin C
 |i::is,C=>(FP n).all λA=>!(brk A.1 A.2 (bs.getD i 0)&&C.all λD=>tV n brk A D)||CQ n bs brk fin is (A::C)
abbrev Ly (n:NF)(brk:NV->NV->NV->Oh)(one:Oh)(C:Ny (NV×NV)):Oh:=one&&(FP n).all λD=>decide (D.1=D.2) ||!(C.all λA=>tV n brk A D)
abbrev Lz (bs:Ny NV)(brk:NV->NV->NV->Oh)(one:Oh):Oh:=CQ ↥bs bs brk (Ly ↥bs brk one) (NQ ↥bs) []
def CS {R:NV×NV->Prop}(e:∀A D,R A->R D->tV n brk A D=true)(f:∀A,R A->A∈FP n):∀ is C,(∀i∈is,∃A,R A/\brk A.1 A.2 (bs.getD i 0)=true)->(∀D∈C,R D)->CQ n bs brk fin is C=true->∃d,(∀D∈d,R D)/\fin d=true
 |[],C,_,b,h=>#[C,b,h]
 |i::is,C,hi,b,h=>by
  obtain⟨A,c,g⟩:=hi i (by simp)
  have:=N6.mp h A (f A c);rw[g,QN,N6.mpr λD a=>e A D c (b D a)]at this
  show CS e f is _ (λj k=>hi j (by simp[k])) (λD a=>by
   rcases Of.mp a with rfl|a
   ·show c
   ·show b D a) (by simpa using this)
def GoodP.at {a  s :NF}{p:Pt}(h:GoodP a n s p)(hk:k<s):0<=p.2.getD k 0/\p.2.getD k 0<n:=h.way _ (N1 (ay  (by rw[h.len];show hk)))
abbrev Ju (a n:NF)(U:Ny (T×W))(brk:NV->NV->NV->Oh):Prop:=∀m0 b c x y z:NV,(0<=m0/\m0<a)->(0<=b/\b<a)->(0<=c/\c<a)->(0<=x/\x<n)->(0<=y/\y<n)->(0<=z/\z<n)->bd U [(m0,[]),(b,[x]),(c,[y,z])]=brk x y z
def FQ {a:NF}(I:∀b∈bs,0<=b/\b<(↥bs))(o:Ju a ↥bs U brk)(m:one=true->a=1)(h:Lz bs brk one=true):¬ lg a bs U (↥bs+1):=by
 rintro⟨Uqb,P,Q,c,w⟩;have n:∀k,k<↥Uqb->0<=(Uqb.getD k _).1/\(Uqb.getD k (0,[])).1<a:=λk hk=>c.gu.mark k _ (ay  hk)
 have q:∀k j,k<↥Uqb->j<k->0<=(Uqb.getD k _).2.getD j 0/\(Uqb.getD k (0,[])).2.getD j 0<↥bs:=λk j hk L=>c.gu.way k _ (ay  hk) _ (N1 (ay  (by rw[c.gu.len k _ (ay  hk)];show L)))
 have r:∀k l,k<l->l<↥Uqb->tV _ brk (P.2.getD k 0,Q.2.getD k 0) (P.2.getD l 0,Q.2.getD l 0)=true/\tV _ brk (P.2.getD l 0,Q.2.getD l 0) (P.2.getD k 0,Q.2.getD k 0)=true:=λk l e hl=>by
  have hk:=Pw e hl;have B:=dc.mp c.mp l hl k e;have E:=dc.mp c.mq l hl k e;have s:da U Uqb P k l=brk ((Uqb.getD l (0,[])).2.getD k 0) (P.2.getD k 0) (P.2.getD l 0):=o _ _ _ _ _ _ (n k hk) (n l hl) c.gp.mark (q l k hl e) (c.gp.at hk) (c.gp.at hl);have t:da U Uqb Q k l=brk ((Uqb.getD l (0,[])).2.getD k 0) (Q.2.getD k 0) (Q.2.getD l 0):=o _ _ _ _ _ _ (n k hk) (n l hl) c.gq.mark (q l k hl e) (c.gq.at hk) (c.gq.at hl);rw[B]at s;rw[E]at t;have hw:=q l k hl e;delta tV;constructor
  all_goals
   rw[PP];show .inr (Qe.mpr #[_,aS hw.1 hw.2,?_]);rw[<- s,<- t];simp
 have x:∀A D:NV×NV,(∃k<↥Uqb,A=(P.2.getD k 0,Q.2.getD k 0))->(∃k<↥Uqb,D=(P.2.getD k 0,Q.2.getD k 0))->tV ↥bs brk A D=true:=by
  rintro A D ⟨k,hk,rfl⟩ ⟨l,hl,rfl⟩;rcases VE k l with h|rfl|h
  ·show(r k l h hl).1
  ·unfold tV;simp
  ·show(r l k h hk).2
 have y:∀A:NV×NV,(∃k<↥Uqb,A=(P.2.getD k 0,Q.2.getD k 0))->A∈FP ↥bs:=by
  rintro A ⟨k,hk,rfl⟩;have u:=c.gp.at hk;have v:=c.gq.at hk;show OX.mpr #[_,aS u.1 u.2,NS.mpr #[_,aS v.1 v.2,rfl]]
 obtain⟨C,p,d⟩:=CS  x y (NQ ↥bs) [] (λi hi=>by
  have hi:=NU.mp hi;have:=w i (by show Px ‹_›)
  unfold cX at this;rw[Ob hi]at this;obtain⟨k,hk,J⟩:=Qe.mp this;have hk:=NU.mp hk;show#[_,#[k,hk,rfl],?_];rw[<- J];show(o _ _ _ _ _ _ (n k hk) c.gp.mark c.gq.mark (c.gp.at hk) (c.gq.at hk) (I _ (N1 (ay  hi)))).symm) (λD f=>nomatch f) h
 unfold Ly at d;rw[NM]at d;have H:=m d.1;subst H;have:=w ↥bs (by show NP _)
 unfold cX at this;have M:=c.gp.mark;have N:=c.gq.mark;have z:P.1=Q.1:=∅
 have g:Ck P Q ↥Uqb=false:=by simpa using this
 unfold Ck at g;rw[z,Os,QN,SX]at g;obtain⟨k,hk,hd⟩:=g;have hk:=NU.mp hk;have f:=N6.mp d.2 _ (y _ #[k,hk,rfl]);rw[PP]at f;rcases f with f|f
 ·have:=OC f;dsimp only at this;rw[this]at hd;simp at hd
 ·rw[N6.mpr λA G=>x A _ (p A G) #[k,hk,rfl]]at f
  cases f
def jy {a :NF}(e:f<↥bs)(g:∀m0 h i x y:NV,bd U [(m0,[]),(h,[x]),(i,[y,bs.getD f 0])]=false):¬ lg a bs U (↥bs+1):=by
 rintro⟨Uqb,P,Q,j,d⟩;have:=d f ∅
 unfold cX at this;rw[Ob e]at this;obtain⟨k,hk,b⟩:=Qe.mp this;have c:=g (Uqb.getD k (0,[])).1 P.1 Q.1 (P.2.getD k 0) (Q.2.getD k 0);unfold nI at b;rw[c]at b;cases b
def tW {a:NF}(n:∀m0 i l:NV,bd U [(m0,[]),(i,[0]),(l,[0,0])]=true->i=l):¬ lg a [0] U 2:=by
 rintro⟨Uqb,P,Q,d,g⟩;have z:∀{p:Pt}{k:NF},GoodP a 1 ↥Uqb p->k<↥Uqb->p.2.getD k 0=0:=λh hk=>by
  have:=h.at hk;omega
 have f:=g 0 ∅
 have c:=g 1 ∅
 unfold cX at f c;rw[Ob #v[]]at f
 rw[Ot #v[]]at c
 obtain⟨k,hk,b⟩:=Qe.mp f;have hk:=NU.mp hk;unfold nI at b;rw[z d.gp hk,z d.gq hk]at b;have m:=n _ _ _ b;have:Ck P Q ↥Uqb=true:=by
  unfold Ck;rw[m,Os,QN];show N6.mpr λj e=>?_
  have e:=NU.mp e;rw[z d.gp e,z d.gq e];rfl
 rw[this]at c;cases c
def CT {a:NF}(c:GoodB bs)(e:GoodW a ↥bs u)(hl:↥u=3)(d:t∈aw):dJ bs (ae bs u t)=dJ bs u:=by
 obtain⟨f,b⟩:=cy.mp d;rw[hW hl,hW (by rw[aF,b]),nD c e (by rw[hl];show f) (by rw[b,hl])]
abbrev tX (bs:Ny NV)(x y z:NV):Ny (NV×NV×NV):=[(x,y,z),(y,x,bs.getD z.toNat 0),(bs.getD x.toNat 0,z,y),(z,bs.getD x.toNat 0,bs.getD y.toNat 0),(bs.getD y.toNat 0,bs.getD z.toNat 0,x),(bs.getD z.toNat 0,bs.getD y.toNat 0,bs.getD x.toNat 0)]
def lN {  z:NV}{s:Ny NF}(c:s∈aw):∃t' p,p∈tX bs x y z/\ae bs (w3 t x y z) s=w3 t' p.1 p.2.1 p.2.2:=by
 obtain⟨m0,a,b⟩:=t;have c:s=[0,1,2]\/s=[0,2,1]\/s=[1,0,2]\/s=[1,2,0]\/s=[2,0,1]\/s=[2,1,0]:=by simpa [aw]using c
 rcases c with rfl|rfl|rfl|rfl|rfl|rfl
 ·show#[(m0,a,b),(x,y,z),by simp[tX],rfl]
 ·show#[(m0,b,a),(y,x,bs.getD z.toNat 0),by simp[tX],rfl]
 ·show#[(a,m0,b),(bs.getD x.toNat 0,z,y),by simp[tX],rfl]
 ·show#[(a,b,m0),(z,bs.getD x.toNat 0,bs.getD y.toNat 0),by simp[tX],rfl]
 ·show#[(b,m0,a),(bs.getD y.toNat 0,bs.getD z.toNat 0,x),by simp[tX],rfl]
 ·show#[(b,a,m0),(bs.getD z.toNat 0,bs.getD y.toNat 0,bs.getD x.toNat 0),by simp[tX],rfl]
def CU {  z a  :NV}(h:w3 t x y z=w3 t' a b c):x=a/\y=b/\z=c:=by
 unfold w3 at h;simp only[Ua,RM,and_true]at h;obtain⟨_,⟨_,d⟩,_,e,f⟩:=h;show#[d,e,f]
abbrev zb (k:Lk)(nm:Ny NV):Ny NV:=c9 k.1 nm ↥k.1
def FR:∀k∈KT,∀nm∈iy k.1,∀x∈gf ↥k.1,∀y∈gf ↥k.1,∀z∈gf ↥k.1,∀p∈tX (zb k nm) x y z,yO (zb k nm) (k.2.1.map (lc nm)) p.1 p.2.1 p.2.2=yO (zb k nm) (k.2.1.map (lc nm)) x y z:=by decide +kernel
def Jv:∀k∈KT,∀nm∈iy k.1,Lz (zb k nm) (yO (zb k nm) (k.2.1.map (lc nm))) (decide (k.2.2=1))=true:=by decide +kernel
def vK {P:NV->Prop}{  z:NV}{p:NV×NV×NV}(b:∀v,P v->P (bs.getD v.toNat 0))(c:P x)(d:P y)(e:P z)(a:p∈tX bs x y z):P p.1/\P p.2.1/\P p.2.2:=by
 have a:p=(x,y,z)\/p=(y,x,bs.getD z.toNat 0)\/p=(bs.getD x.toNat 0,z,y)\/p=(z,bs.getD x.toNat 0,bs.getD y.toNat 0)\/p=(bs.getD y.toNat 0,bs.getD z.toNat 0,x)\/p=(bs.getD z.toNat 0,bs.getD y.toNat 0,bs.getD x.toNat 0):=by simpa [tX]using a
 rcases a with rfl|rfl|rfl|rfl|rfl|rfl<;>show#[?_,?_,?_]<;>first|assumption|(apply b;assumption)
def GoodB.bk (h:GoodB bs):∀v∈gf ↥bs,(0<=bs.getD v.toNat 0/\bs.getD v.toNat 0<(↥bs))/\bs.getD (bs.getD v.toNat 0).toNat 0=v:=by
 rcases h with rfl|rfl|rfl|rfl|rfl|rfl<;>decide
def Jw {l:Ny NV}(h:↥l=2):∃y w,l=[y,w]:=match l,h with
 |[y,w],_=>#[y,w,rfl]
def M4 { a :NV}:(m0<=a/\a<=b)\/(m0<=b/\b<=a)\/(a<=m0/\m0<=b)\/(a<=b/\b<=m0)\/(b<=m0/\m0<=a)\/(b<=a/\a<=m0):=∅
def zd {a:NF}{m0 d e   z:NV}(f:0<=m0/\m0<a)(g:0<=d/\d<a)(h:0<=e/\e<a):∃s∈aw,∃t p,Ris a t/\p∈tX bs x y z/\ae bs (w3 (m0,d,e) x y z) s=w3 t p.1 p.2.1 p.2.2:=by
 rcases M4    with⟨b,c⟩|⟨b,c⟩|⟨b,c⟩|⟨b,c⟩|⟨b,c⟩|⟨b,c⟩
 ·show#[[0,1,2],#v[],(m0,d,e),(x,y,z),#[f.1,b,c,h.2],by simp[tX],rfl]
 ·show#[[0,2,1],#v[],(m0,e,d),(y,x,bs.getD z.toNat 0),#[f.1,b,c,g.2],by simp[tX],rfl]
 ·show#[[1,0,2],#v[],(d,m0,e),(bs.getD x.toNat 0,z,y),#[g.1,b,c,h.2],by simp[tX],rfl]
 ·show#[[1,2,0],#v[],(d,e,m0),(z,bs.getD x.toNat 0,bs.getD y.toNat 0),#[g.1,b,c,f.2],by simp[tX],rfl]
 ·show#[[2,0,1],#v[],(e,m0,d),(bs.getD y.toNat 0,bs.getD z.toNat 0,x),#[h.1,b,c,g.2],by simp[tX],rfl]
 ·show#[[2,1,0],#v[],(e,d,m0),(bs.getD z.toNat 0,bs.getD y.toNat 0,bs.getD x.toNat 0),#[h.1,b,c,f.2],by simp[tX],rfl]
def rc {a:Ny Wd}(hd:HasD U (aX bs a)):bd U w=true↔w∈aX bs a:=by
 unfold bd;rw[hd.get,Og];show#[λh=>by
  obtain⟨c,b,e⟩:=NS.mp h;show eT e▸b,λh=>NS.mpr #[w,h,rfl]]
section
variable{a:NF}{bs:Ny NV}{ms ns:Ny Oc}{gs:Ny Wd}{U:Ny (T×W)}
def ze (A:RuleAt a bs ms ns gs)(hd:HasD U (aX bs gs))(h:B3 a bs gs):¬ lg a bs U (↥bs+1):=by
 have q:=A.size.good;obtain⟨c,L,most,nm,g,j,f,ham,C⟩:=h;have hn:↥bs=↥c:=by rw[f];show g9 ..
 have o:=FR (c,L,most) g nm j;have I:=Jv (c,L,most) g nm j;dsimp only[zb]at o I;rw[<- f]at o I;rw[<- hn]at o;show FQ  (λb d=>?_) ?_ (λe=>?_) I
 ·obtain⟨i,hi,e⟩:=Pq d;have:=(q.bk i (aS (by show NX _) (by show QH.mpr ‹_›))).1
  rw[Od,NL,NK hi,Qc,e]at this;show this
 ·intro m0 M N x y z O Q R r u w;have T:GoodW a ↥bs (w3 (m0,M,N) x y z):=Gw O Q R r u w;rw[Qp];change bd U (w3 (m0,M,N) x y z)=true↔_;rw[rc hd,<- IZ q A.mem T rfl,C];have kx:=o x (aS r.1 r.2) y (aS u.1 u.2) z (aS w.1 w.2);constructor
  ·rintro⟨W,X,Y,l,m,n,d,t,ht,e⟩;have J:=o W (aS l.1 l.2) X (aS m.1 m.2) Y (aS n.1 n.2);obtain⟨s1,G,Z⟩:=jl bs (w3 (m0,M,N) x y z);obtain⟨s2,H,e2⟩:=jl bs (w3 t W X Y);obtain⟨t1,p1,D,q1⟩:=lN      G;obtain⟨t2,p2,E,q2⟩:=lN      H;rw[Z,e2,q1,q2]at e;obtain⟨i1,i2,i3⟩:=CU e;rw[<- kx p1 D,i1,i2,i3,J p2 E];show d
  ·intro B;obtain⟨s,hs,t,p,k,S,e⟩:=zd     O Q R;obtain⟨r1,r2,r3⟩:=vK (P:=λv=>0<=v/\v<↥bs) (λv V=>(q.bk v (aS V.1 V.2)).1) r u w S
   show#[p.1,p.2.1,p.2.2,r1,r2,r3,(kx p S).trans B,t,k,?_];rw[<- e,CT q T rfl hs]
 ·have:=OC e;have:=A.size.pos;omega
def CV (hd:HasD U (aX bs gs))(h:IG a bs gs):¬ lg a bs U (↥bs+1):=by
 obtain⟨rfl,f⟩:=h;show tW λm0 i j hw=>?_
 rw[rc hd]at hw;obtain⟨g,b,hw⟩:=OX.mp hw;obtain⟨k,rfl⟩:=f g b;obtain⟨s,c,e⟩:=NS.mp hw;have c:s=[0,1,2]\/s=[0,2,1]\/s=[1,0,2]\/s=[1,2,0]\/s=[2,0,1]\/s=[2,1,0]:=by simpa [aw]using c
 have d:([(k,[]),(k,[0]),(k,[0,0])]:Wd)=[(m0,[]),(i,[0]),(j,[0,0])]:=by rcases c with rfl|rfl|rfl|rfl|rfl|rfl<;>show e
 simp only[Ua,RM]at d;omega
def zf (q:RuleAt a bs ms ns gs)(hd:HasD U (aX bs gs))(h:BI a bs gs):¬ lg a bs U (↥bs+1):=by
 have G:=q.size.good;have I:=q.size.n3;rcases h with rfl|⟨f,Z,p,H⟩
 ·show jy  I.1 λm0 u w x y=>?_
  rw[Rn];intro h;rw[rc hd]at h
  (dsimp only[aX]at h;simp at h)
 ·show jy (f:=f.toNat) ∅ λm0 u w x y=>?_
  rw[Rn,p];intro h;rw[rc hd]at h;obtain⟨g,i,h⟩:=OX.mp h;obtain⟨Q,O,z,p2,d,rfl,m,b⟩:=H g i;obtain⟨s,J,e⟩:=NS.mp h;obtain⟨N,M⟩:=Q;obtain⟨P,l2⟩:=p2;have X:=d.len 0 _ rfl;have Y:=d.len 2 _ rfl;obtain rfl:M=[]:=PL X;obtain⟨A,w2,rfl⟩:=Jw Y;have C:=d.way 1 _ rfl z (by simp)
  have D:=d.way 2 _ rfl A (by simp)
  have E:=d.way 2 _ rfl w2 (by simp)
  have n:∀v,((0<=v/\v<(↥bs:NV))/\v≠f)->(0<=bs.getD _ 0/\bs.getD _ 0<↥bs)/\bs.getD v.toNat 0≠f:=λv l=>by
   obtain⟨L,t⟩:=G.bk v (aS l.1.1 l.1.2);show#[L,λe=>?_]
   rw[e,p]at t;show l.2 t.symm
  obtain⟨s1,k,B⟩:=jl bs _;obtain⟨t1,p1,j,R⟩:=lN      k;obtain⟨T,V,W⟩:=vK  n #[C,m] #[D,λe=>b (by simp[e])] #[E,λe=>b (by simp[e])] j
  obtain⟨t2,p2,c,S⟩:=lN      J;obtain⟨_,_,r⟩:=vK  n T V W c;have o:ae bs (dJ bs (w3 (N,O,P) z A w2)) s=w3 (m0,u,w) x y f:=e;rw[B,R,S]at o;show r.2 (CU o).2.2
def M5 (b:RuleAt a bs ms ns gs)(hd:HasD U (aX bs gs))(h:IQ a bs gs):¬ lg a bs U (↥bs+1):=by
 rcases h with h|h|h
 ·show CV hd h
 ·show zf b hd h
 ·show ze b hd h
end
abbrev nQ:Ss:=
 #v[.ite (.cmp .eq (.own z4 2 #v[.v 0,.k 8]) (.k 0)) #v[.ret (.k 0)] .nil,.ret (.bi .min #v[.v 1,.op .add (.k 1) (.own z4 2 #v[.v 0,.k 3])])]
abbrev pE:Ss:=
 #v[.set 2 (.own "_law_bad" 1 #v[.v 1]),.ite (.cmp .eq (.own z4 2 #v[.v 0,.k 3]) (.k 0)) #v[.set 3 (.own vk 4 #v[.v 0,.v 1,.v 2,.own uv 2 #v[.v 0,.k 3]]),.ret (.tup #v[.v 3,.own vk 4 #v[.v 0,.v 1,.v 2,.own uv 2 #v[.v 0,.k 3]]])] .nil,.set 4 (.own vk 4 #v[.v 0,.v 1,.v 2,.k 4]),.set 3 (.own zz 3 #v[.v 1,.v 4,.own xC 3 #v[.v 0,.bi .len #v[.v 4],.own uv 2 #v[.v 0,.bi .len #v[.v 4]]]]),.ret (.tup #v[.v 3,.own zz 3 #v[.v 1,.v 4,.own xC 3 #v[.v 0,.bi .len #v[.v 4],.own uv 2 #v[.v 0,.bi .len #v[.v 4]]]]])]
abbrev dE:Ss:=
 #v[.asg [5,6] (.own "laid" 4 #v[.v 0,.v 1,.v 2,.v 3]),.ite (.not (.own xm 2 #v[.own "laid" 4 #v[.v 0,.v 1,.v 2,.bi .rev #v[.v 3]],.tup #v[.v 5,.v 6]])) #v[.ret (.c (.bl false))] .nil,.ite (.or (.not (.isi "tuple" (.v 5))) (.or (.not (.isi "tuple" (.v 6))) (.cmp .ne (.bi .len #v[.v 6]) (.bi .len #v[.v 2])))) #v[.ret (.c (.bl false))] .nil,.ite (.or (.cmp .ne (.bi .len #v[.bi .set #v[.v 6]]) (.bi .len #v[.v 6])) (.not (.bi .all #v[.comp (.cmp .eq (.ix (.v 3) (.v 2)) (.v 1)) (.tp [1,2]) (.seq (.v 3)) .nil [dx,dx,dx,ba 6]]))) #v[.ret (.c (.bl false))] .nil,.ite (.not (.own xm 2 #v[.own pa 3 #v[.v 0,.v 5,.bi .tuple #v[.bi .range #v[.bi .len #v[.v 1]]]],.v 1])) #v[.ret (.c (.bl false))] .nil,.ite (.or (.not (.own xm 2 #v[.own pa 3 #v[.v 0,.v 5,.v 6],.v 2])) (.cmp .isnot (.own qs 2 #v[.v 0,.v 5]) (.c .non))) #v[.ret (.c (.bl false))] .nil,.set 7 (.op .sub (.op .add (.bi .len #v[.v 1]) (.bi .len #v[.v 2])) (.bi .len #v[.v 3])),.ite (.or (.cmp .gt (.bi .len #v[.v 5]) (.v 7)) (.and (.v 4) (.cmp .ne (.bi .len #v[.v 5]) (.v 7)))) #v[.ret (.c (.bl false))] .nil,.ite (.or (.cmp .ne (.bi .len #v[.own qv 3 #v[.v 0,.v 1,.v 5]]) (.bi .len #v[.v 1])) (.cmp .ne (.bi .len #v[.own qv 3 #v[.v 0,.v 2,.v 5]]) (.bi .len #v[.v 2]))) #v[.ret (.c (.bl false))] .nil,.ret (.cmp .ge (.bi .len #v[.own qv 3 #v[.v 0,.v 1,.own pa 3 #v[.v 0,.v 5,.v 6]]]) (.bi .len #v[.v 3]))]
abbrev lO:Ss:=
 #v[.set 1 (.own "_law_flow" 1 #v[.v 0]),.set 2 (.own "_law_laying_rule" 1 #v[.v 1]),.asg [3,4] (.own "_law_two" 2 #v[.v 1,.v 2]),.set 5 (.cmp .is (.own "put_on" 1 #v[.v 2]) (.c .non)),.set 6 (.own qv 3 #v[.v 2,.v 3,.v 4]),.ite (.not (.own uk 5 #v[.v 2,.v 3,.v 4,.v 6,.v 5])) #v[.ret (.c (.bl false))] .nil,.set 7 (.bi .tuple #v[.comp (.v 1) (.nm 1) (.seq (.v 6)) #v[.cmp .eq (.own z4 2 #v[.v 2,.k 2]) (.k 0)] [dx,dx,ba 1]]),.ret (.and (.own uk 5 #v[.v 2,.v 3,.v 4,.v 7,.v 5]) (.own uk 5 #v[.v 2,.v 4,.v 3,.tup .nil,.v 5]))]
structure Lw85 (defs:Ny (Oc×Df)):Prop where
 lay:LayP defs
 gen:Gen defs
 unl:Unl defs
 com:Icm defs
 bad:Is defs ("_law_bad": Oc) 1 4 j9
 ways:Is defs ("_law_new_ways": Oc) 6 11 bN
 world:Is defs ("_law_world": Oc) 4 8 gK
 drawn:Is defs ("_law_drawn_points": Oc) 3 5 br
 alike:Is defs ("_law_alike": Oc) 2 2 cj
 first:Is defs ("first_three": Oc) 2 5 bX
 bar:Is defs ("first_barred": Oc) 2 2 cp
 size:Is defs ("_law_size": Oc) 2 2 nQ
 two:Is defs ("_law_two": Oc) 2 5 pE
 right:Is defs ("_law_right": Oc) 5 8 dE
 flow:Is defs ("_law_flow": Oc) 1 1 iK
 law:Is defs ("law": Oc) 1 8 lO
def CW {α β:Type}{f:α->β}{l:Ny α}(h:(l.map f).Nodup):l.Nodup:=(P4.mp h).imp λh e=>h (congrArg f e)
def GC {α β:Type}{f:α->β}{l:Ny α}(inj:∀x∈l,∀y∈l,f x=f y->x=y)(h:l.Nodup):(l.map f).Nodup:=P4.mpr (h.imp_of_mem λb c a e=>a (inj _ b _ c e))
def xM {α β:Type}{f:α->β}:∀{l:Ny α},(l.map f).Nodup->∀x∈l,∀y∈l,f x=f y->x=y
 |a::l,h,x,d,y,c,e=>by
  rw[OP,Pp]at h;rcases Of.mp d with q|q
  ·rcases Of.mp c with b|b
   ·rw[q,b]
   ·show(h.1 (NS.mpr #[y,b,by rw[<- e,q]])).elim
  ·rcases Of.mp c with b|b
   ·show(h.1 (NS.mpr #[x,q,by rw[e,b]])).elim
   ·show xM h.2 x q y b e
def LayA.sel {a:NF}(o:GoodB bs)(A:LayA a bs U one other L0)(nd:c.Nodup)(sub:c ⊆ L0):LayA a bs U one other c:=by
 have k:=CW A.oj.nd;have d:∀x∈L0,L0.getD (L0.idxOf x) (0,0)=x:=λx b=>by
  obtain⟨i,hi,rfl⟩:=Pq b;rw[k.idxOf_getElem i hi,NL,NK hi];rfl
 have n:Ord ↥L0 (c.map λx=>L0.idxOf x):=by
  show#[?_,λi hi=>?_]
  ·show GC (λx b y g e=>?_) nd
   rw[<- d x (sub b),e,d y (sub g)]
  ·obtain⟨x,b,rfl⟩:=NS.mp hi;show Pb (sub b)
 have j:∀f,((c.map λx=>L0.idxOf x).map λi=>(L0.map f).getD i 0)=c.map f:=λf=>by
  rw[OL];show ON λx b=>?_
  have hi:=Pb (sub b);have:=d x (sub b);rw[NL,NK hi]at this;show(L0.map f).getD _ 0=f x;rw[NL,NO,NK hi];show congrArg f this
 have inj:∀f:NF×NF->NF,(L0.map f).Nodup->(c.map f).Nodup:=λf h=>by
  show GC (λx b y g e=>?_) nd
  show xM h x (sub b) y (sub g) e
 show#[A.g1,A.s1,A.g2,A.s2,#[inj _ A.op.nd,λx b=>?_],#[inj _ A.oj.nd,λx b=>?_],?_]
 ·obtain⟨y,g,rfl⟩:=NS.mp b;show A.op.lt _ (NS.mpr #[y,sub g,rfl])
 ·obtain⟨y,g,rfl⟩:=NS.mp b;show A.oj.lt _ (NS.mpr #[y,sub g,rfl])
 ·have l:=bO  o A.g1 A.op  (by rw[Nz];show n)
  have m:=bO  o A.g2 A.oj  (by rw[Nz];show n)
  rw[j]at l m;rw[<- l,<- m,A.same]
abbrev GD (e:Ny (NF×NF)):Pl:=e.map λp=>(p.2,p.1)
def jA (e:Ny (NF×NF)):(GD e).map (·.2)=e.map (·.1)/\(GD e).map (·.1)=e.map (·.2)/\(GD e).map ou=e.map t9:=by
 unfold GD;revert OL;show#[rfl,rfl,rfl]
def nR {a:NF}(g:GoodW a ↥bs one)(j:Std U one)(i:GoodW a ↥bs other)(k:Std U other)(h:Cmn bs one other e):LayA a bs U one other (GD e):=by
 obtain⟨d,f,_⟩:=jA e;show#[g,j,i,k,?_,?_,?_]
 ·rw[d];show#[h.up.imp λh=>Oe h,λx c=>by obtain⟨p,b,rfl⟩:=NS.mp c;show h.l1 p b]
 ·rw[f];show#[h.nd,λx c=>by obtain⟨p,b,rfl⟩:=NS.mp c;show h.l2 p b]
 ·rw[d,f];show h.prt
def FU {a:NF}(i:GoodB bs)(f:GoodW a ↥bs one)(l:Std U one)(g:GoodW a ↥bs other)(m:Std U other)(h:Cmn bs one other e)(b:c.Sublist e):Cmn bs one other c:=by
 have A:=nR f l g m h;have ss:(GD c).Sublist _:=b.map _;have:=(A.sel i  ((CW A.oj.nd).sublist ss) ss.subset).same;obtain⟨j,k,_⟩:=jA c;rw[j,k]at this;show#[h.up.sublist (b.map _),λp d=>h.l1 p (b.subset d),h.nd.sublist (b.map _),λp d=>h.l2 p (b.subset d),this]
def LaidOk.most {a:NF}(A:LayA a bs U one other L0)(h:LaidOk a bs U one other L0 w c):↥w+↥L0<=↥one+↥other:=by
 obtain⟨t,ext⟩:=h.ext;have hw:↥w=↥one+↥t:=by rw[ext,NE]
 have g:=bY (SZ ↥one ↥t++L0.map (·.2)) c (by
  rw[OZ];show#[List.nodup_range',A.op.nd,λx b y i e=>?_]
  have:=(VG.mp b).1;have:=A.op.lt y i;omega) λx b=>by
  rcases Oa.mp b with y|y
  ·have:=VG.mp y;show h.new x this.1 ∅
  ·obtain⟨p,f,rfl⟩:=NS.mp y;rw[<- h.pairs p f];have d:p.1<↥c:=by rw[h.len];show A.oj.lt _ (NS.mpr #[p,f,rfl])
   rw[NL,NK d];show OE d
 rw[NE,List.length_range',Nz,h.len]at g;omega
def LaidOk.turned {a:NF}{   w2:Wd}{d :Ny NF}(A:LayA a bs U one other L0)(h:LaidOk a bs U one other L0 w d)(e:LaidOk a bs U one other c w2 b)(f:L0.Perm c):w2=w/\b=d:=by
 have:=Jq (U:=U) (bs:=bs) (other:=other) f A.op A.oj.nd;rw[h.fn,e.fn]at this;injection this with e1 e2
 show#[e1.symm,e2.symm]
def vL (L:Lw85 defs)(x:Fl S r)(k:∀(s:NF) f,s<=m->s<=3->Fl f r->Kp r S f->Q (.int s,f)):wO (aJ (aq defs fuel (d+2)) uv 2 [.ref r,.int m] S) Q:=by
 show au ⇑L rfl rfl λq w=>?_
 replace k:=λs f a b c e=>w _ _ (k s f a b c e)
 nofun
 delta wS wT wE wA;show aY  L.gen.pick x #v[] #v[] λv S1 y A l i=>?_
 show ab im ?_;show ah (Q0:=q) (λ_ u _ h=>st ?_) (λ_ u g _=>aW (g _ _ (hK _ _ (st ?_))))
 ·show h _ _ (k 0 S1 (Pj _) (Pj _) l i)
 ·left;show aY  L.gen.pick l #v[] #v[] λp j B C n o=>?_
  show ab fY ?_;show ab rfl ?_;obtain⟨t,rfl⟩:∃t:NF,p=t:=#[p.toNat,∅]
  by_cases z:(1+t)<(m:NV)
  ·rw[Ob z,show(1+t)=((t+1:NF):NV) by omega]
   show k _ j ∅ ∅ n (i.trans o)
  ·rw[Ot z];show k _ j (NP _) ∅ n (i.trans o)
def LA (hfu:20<fuel)(L:Lw85 defs){C :Ny Oc}{a:NF}{z:Ny Wd}(p:GoodB bs)(w:↥D=↥bs)(V:↥C=a)(n:0<a)(o:a<=3)(t:↥bs<=3)(A:∀g∈z,GoodW a ↥bs g/\↥g=3)(O:↥z<=100)(B:Fl S r)
  (k:∀ u v U j,HasD U (aX bs z)->GoodW a ↥bs u->Std U u->GoodW a ↥bs v->Std U v->↥u<=3->↥v<=3->Fl j r->Q (.tup [aA u,aA v],j)) :
  wO (aJ (aq defs fuel (d+4)) "_law_two" 2 [.ref r,.tup [.tup (C.map W.str),.tup (NW aH D bs),.tup (z.map aA)]] S) Q:=by
 show au L.two rfl rfl λQ' hR=>?_
 replace k:=λu v U j a b c d e f g h=>hR _ _ (k u v U j a b c d e f g h)
 have ml:(C.map W.str).length=a:=by rw[Nz,V]
 have zl:(NW aH D bs).length=↥bs:=by rw[P5,w];omega
 nofun
 left;show Lq  L.gen L.bad p w A O λq U S1 e1 N hq k1=>hK _ _ ?_
 have f1:=B.ka k1;have i:q≠r:=by have:=B.lt;omega
 have cl:=Cm p A N;nofun
 delta wS wT wE wA;show aY  L.gen.pick f1 #v[] #v[] λv0 S2 _ _ f2 k2=>?_
 have J:=k2.get _ _ i e1;show ab im ?_;show ah (Q0:=Q') (λ_ Q2 _ Y=>?_) (λ_ Q2 X _=>aW (X _ _ (hK _ _ ?_)))
 ·show aK λK2 R=>?_
  left;show vL  (m:=3) L f2 λs S3 _ hs M k3=>?_
  show qO  L.gen L.ways L.world ml n o zl t ∅ (k3.get _ _ i J) i M λu S4 hul l E x k4=>R _ _ ?_
  have e4:=k4.get _ _ i (k3.get _ _ i J);show st ?_;left;show vL  (m:=3) L x λs2 G _ hs2 y k5=>?_
  show qO  L.gen L.ways L.world ml n o zl t ∅ (k5.get _ _ i e4) i y λv H hvl gv sv f6 k6=>Y _ _ (k u v U H N l E gv sv ∅ ∅ f6)
 ·nofun
  left;show qO  (many:=4) L.gen L.ways L.world ml n o zl t ∅ J i f2 λu S3 hul l E M k3=>hK _ _ ?_
  have ul:(u.map aN).length=↥u:=Nz ..;have dr:∀{S:aa}{Q:QW},Fl S r->(∀ps j,Ord ↥u ps->↥ps<=3->Fl j r->Q (aA (ae bs u ps),j))->∀{Z:Fm},(∀P ,P (.ref r)->wV Z 0 P)->(∀P ,P (.tup [.tup (C.map W.str),.tup (NW aH D bs),.tup (z.map aA)])->wV Z 1 P)->(∀P ,P (aA u)->wV Z 4 P)->wE (aq defs fuel (d+3)) (.own zz 3 #v[.v 1,.v 4,.own xC 3 #v[.v 0,.bi .len #v[.v 4],.own uv 2 #v[.v 0,.bi .len #v[.v 4]]]]) Z S Q:=λ{S Q} B k {Z} a0 a1 I=>by
   left;show a1 _ (I _ (a0 _ (I _ (az (a0 _ (I _ (az ?_)))))));rw[ul];show vL  L B λs S4 hs hs3 x k4=>?_
   show Fh  L.gen L.drawn x ∅ hs ∅ λps G hl nd lt y k5=>?_
   show vc  L.gen p w l lt nd ∅ λH k6=>k ps H #[nd,lt] ∅ (y.ka k6)
  nofun
  show dr M (λps S4 o1 l1 x=>hK _ _ ?_) (λP h=>h) (λP h=>h) λP h=>h
  show st ?_;show dr x (λps2 G o2 l2 y=>?_) (λP h=>h) (λP h=>h) λP h=>h
  show k _ _ U G N (cx p l o1.lt o1.nd) (E.part p cl l o1) (cx p l o2.lt o2.nd) (E.part p cl l o2) (by rw[aF];show l1) (by rw[aF];show l2) y
def CY {a :NF}(d:GoodW a n u)(hl:↥u<=900):Tr 3 (aA u):=by
 show#[by rw[Nz];omega,λx e=>?_]
 obtain⟨p,c,rfl⟩:=NS.mp e;obtain⟨k,hk⟩:=List.mem_iff_getElem?.mp c;have:=d.len k p hk;have:=(NZ.mp hk).1;show#[OA rfl,λy b=>?_]
 simp only[Of,OH,PJ]at b;rcases b with rfl|rfl
 ·trivial
 ·show#[by rw[Nz];omega,λz f=>?_]
  obtain⟨i,_,rfl⟩:=NS.mp f;trivial
def FV (hl:↥ps<=900):Tr (n+1) (.tup (ac ps)):=by
 show#[by unfold ac;rw[Nz];omega,λy a=>?_]
 obtain⟨i,_,rfl⟩:=NS.mp a;cases n<;>trivial
def LB {a :NV}:bK .gt (.int a) (.int b) S=ba (.bl (decide (b<a)),S):=rfl
def LC {a :NV}:bK .ge (.int a) (.int b) S=ba (.bl (decide (b<=a)),S):=rfl
def Jx {a :NV}:gS .sub (.int a) (.int b) S=ba (.int (a-b),S):=rfl
def zh (hfu:20<fuel)(D:Lw85 defs){M J:Ny Oc}{a:NF}{X:Ny (T×W)}(hb:GoodB bs)(I:↥J=↥bs)(hb3:↥bs<=3)(hgs:∀g∈G,GoodW a ↥bs g/\↥g=3)(Y:↥G<=100)
  (hno:∀U,HasD U (aX bs G)->¬ lg a bs U (↥bs+1)) (hkv:HasD X (aX bs G)) (A:LayA a bs X one other L0) (h1:↥one<=3) (h2:↥other<=3) (hC:∃t,Cmn bs one other t/\↥t=↥L0) (hap:L=true->¬ lg a bs X ↥bs)
  (k:∀y,Ka S y->Q (.bl true,y)) :
  wO (aJ (aq defs fuel (d+11)) uk 5 [.tup [.tup (M.map W.str),.tup (NW aH J bs),.tup (G.map aA)],aA one,aA other,.tup (L0.map ou),.bl L] S) Q:=by
 show au D.right rfl rfl λH hR=>?_
 replace k:=λy a=>hR _ _ (k y a)
 clear hR;change wZ _ _ dE [ba (.tup [.tup (M.map W.str),.tup (NW aH J bs),.tup (G.map aA)]),ba (aA one),ba (aA other),ba (.tup (L0.map ou)),ba (.bl L),dx,dx,dx] S H;have P:=D.lay.way;have LD:∀{S:aa}{Q:QW}{L1:Pl},LayA a bs X one other L1->(∀w C y,LaidOk a bs X one other L1 w C->Ka S y->Q (.tup [aA w,.tup (ac C)],y))->wO (aJ (aq defs fuel (d+10)) "laid" 4 [.tup [.tup (M.map W.str),.tup (NW aH J bs),.tup (G.map aA)],aA one,aA other,.tup (L1.map ou)] S) Q:=
  λA k=>Jm  D.lay hfu hb I hb3 hgs Y hno hkv A ∅ λw C y a _ b=>k w C y a b
 have AL:∀{S:aa}{Q:QW} n {w:W},n<=4->Tr n w->(∀y,Ka S y->Q (.bl true,y))->wO (aJ (aq defs fuel (d+10)) xm 2 [w,w] S) Q:=λ{S Q} n {w} hn ht k=>by
  obtain⟨m,hm⟩:∃m,d+10=m+n+1:=#[d+9-n,∅]
  rw[hm];show Ff D.alike n m w _ _ ht k
 have PT:∀{S:aa}{Q:QW}{w:Wd}{ps:Ny NF},GoodW a ↥bs w->Ord ↥w ps->↥ps<=1000->(∀y,Ka S y->Q (aA (ae bs w ps),y))->wO (aJ (aq defs fuel (d+10)) pa 3 [.tup [.tup (M.map W.str),.tup (NW aH J bs),.tup (G.map aA)],aA w,.tup (ac ps)] S) Q:=
  λg o hl k=>Gx  P D.lay.part hb I g o.lt o.nd hl k
 have FB:∀{S:aa}{Q:QW}{w:Wd},GoodW a ↥bs w->Std X w->↥w<=1000->(∀y,Ka S y->Q (.non,y))->wO (aJ (aq defs fuel (d+10)) qs 2 [.tup [.tup (M.map W.str),.tup (NW aH J bs),.tup (G.map aA)],aA w] S) Q:=
  λ{S Q w} g s hl k=>nr  hfu P D.lay.part D.lay.orders D.lay.barred D.lay.three D.first D.bar hb I hgs Y g hl λv y ha ka=>by
   have:=ha.uniq (.inl #[rfl,λi j l hi hj hl=>Oy λhm=>by
    have:=s l hl j hj i hi;unfold bT at this;rw[jn.mpr ((hkv.iff _).mpr hm)]at this;cases this])
   subst this;show k y ka
 have CM:∀{S:aa}{Q:QW}{u v:Wd},GoodW a ↥bs u->GoodW a ↥bs v->↥u<=5->↥v<=100->(∀r y,Cmn bs u v r->(∀t,Cmn bs u v t->↥t<=↥r)->Ka S y->Q (dN r,y))->wO (aJ (aq defs fuel (d+10)) qv 3 [.tup [.tup (M.map W.str),.tup (NW aH J bs),.tup (G.map aA)],aA u,aA v] S) Q:=
  λg1 g2 l1 l2 k=>tR  P D.com hb I g1 g2 l1 l2 k
 generalize W.tup [.tup (M.map W.str),.tup (NW aH J bs),.tup (G.map aA)]=R at LD PT FB CM ⊢;have ol:(one.map aN).length=↥one:=Nz ..;have tl:(other.map aN).length=↥other:=Nz ..;have hL0:↥L0<=3:=by
  have:=qY A.op;rw[Nz]at this;omega
 have lp:(L0.map ou).length=↥L0:=Nz ..;delta dE;show st ?_;left;show LD A λw C S1 ok k1=>?_
 delta wU;show ab (show fN [5,6] [aA w,.tup (ac C)] [ba R,ba (aA one),ba (aA other),ba (.tup (L0.map ou)),ba (.bl L),dx,dx,dx]=ba [ba R,ba (aA one),ba (aA other),ba (.tup (L0.map ou)),ba (.bl L),ba (aA w),ba (.tup (ac C)),dx]from rfl) ?_
 obtain⟨t,ext⟩:=ok.ext;have wl:(w.map aN).length=↥w:=Nz ..;have pll:(ac C).length=↥C:=Nz ..;have N:=ok.len;have most:=ok.most A;have w6:↥w<=6:=∅
 have hlw:↥w=↥one+↥t:=by rw[ext,NE]
 nofun
 delta wS wT wE wA wV wG;show ab (show Bi.rev.fn [.tup (L0.map ou)] S1=ba (.tup (L0.reverse.map ou),S1) by rw[List.map_reverse];rfl) ?_
 show LD (A.sel hb ((VH L0).nodup_iff.mpr (CW A.oj.nd)) λx V=>List.mem_reverse.mp V) λw2 pl2 S2 ok2 k2=>?_
 obtain⟨ew,ep⟩:=ok.turned A ok2 (VH L0).symm;rw[ew,ep];clear ok2 ew ep w2 pl2;show AL 4 (NP _) #[OA rfl,λx V=>?_] λS3 k3=>?_
 ·simp only[Of,OH,PJ]at V;rcases V with rfl|rfl
  ·show CY ok.gw ∅
  ·show FV ∅
 show ab (rfl) ?_;show ah (Q0:=H) (λz=>by cases z) (λ_ B f _=>aW (f _ _ (hK _ _ ?_)))
 clear hK f K;have kk:=k1.trans (k2.trans k3);nofun
 delta wS wT wE wA wV wG;show ab (rfl) #[λz=>(by cases z),λ_=>?_]
 show ab (rfl) #[λz=>(by cases z),λ_=>?_]
 show az (az ?_);rw[pll,tl,N];show ab sE ?_;rw[Os];show ah (Q0:=H) (λz=>by cases z) (λ_ B f _=>aW (f _ _ (hK _ _ ?_)))
 clear hK f K;nofun
 delta wS wT wE wA wV wG;show Jf ok.ord.nd ∅ (Cz af ∅ (az ?_))
 rw[pll];show ab sE ?_;rw[Os];show#[λz=>(by cases z),λ_=>?_]
 show Jr L0 (λp=>.int (p.2)) (λp=>.int (p.1)) (λ_=>true) (λ_=>.bl true) [ba (.tup (ac C))] rfl rfl rfl rfl ∅ #[rfl,.refl] (λp hp S4 k4=>?_) λS4 k4=>?_
 ·delta eB wC wE wA wV wG;have hj:p.1<↥C:=by rw[N];show A.oj.lt _ (NS.mpr #[p,hp,rfl])
  show#[λ_=>ag (NX _) (by rw[Od];show jj (ay (d:=0) hj)) (ab im ?_),λz=>by cases z]
  rw[ok.pairs p hp,Os];show#[rfl,rfl,.refl]
 rw[bc,jv];show qV af ?_;show ab (rfl) ?_;have k5:Ka S (S4++[O.lst (OB ↥L0 (.bl true))]):=kk.trans (Ka.push.trans (k4.trans .push));generalize S4++[O.lst (OB ↥L0 (.bl true))]=S5 at k5 ⊢;show ah (Q0:=H) (λz=>by cases z) (λ_ B f _=>aW (f _ _ (hK _ _ ?_)))
 clear hK f K k4 kk;have o1:Ord ↥w (NQ ↥one):=#[QV,λx V=>by have:=NU.mp V;omega]
 have p1:ae bs w (NQ ↥one)=one:=by
  rw[nK ok.gw _ ∅,ext,List.take_left]
 have rg:∀Z S Q,(∀P ,P (aA one)->wV Z 1 P)->(∀y,Ka S y->Q (.tup (ac (NQ ↥one)),y))->wE (aq defs fuel (d+10)) (.bi .tuple #v[.bi .range #v[.bi .len #v[.v 1]]]) Z S Q:=λZ S Q hv h=>pf  rfl (λQ q=>by
  left;show hv _ (az ?_);rw[ol];show q) ∅ h
 generalize E.bi .tuple #v[.bi .range #v[.bi .len #v[.v 1]]]=c at rg ⊢;have T5:∀Z S Q,(∀P ,P R->wV Z 0 P)->(∀P ,P (aA w)->wV Z 5 P)->(∀P ,P (aA one)->wV Z 1 P)->(∀y,Ka S y->Q (false,y))->wT (aq defs fuel (d+10)) (.not (.own xm 2 #v[.own pa 3 #v[.v 0,.v 5,c],.v 1])) Z S Q:=λZ S Q a0 a5 a1 k=>by
  delta wT wE wA;show a0 _ (a5 _ (rg Z S _ a1 λS6 k6=>?_))
  show PT ok.gw o1 (by rw[N7];omega) λS7 k7=>?_
  rw[p1];show a1 _ (AL 3 #v[] (CY A.g1 ∅) λS8 k8=>?_)
  show ab (rfl) (k _ (k6.trans (k7.trans k8)))
 nofun
 left;show T5 _ _ _ (λP h=>h) (λP h=>h) (λP h=>h) λS8 k8=>?_
 show ah (Q0:=H) (λz=>by cases z) (λ_ B f _=>aW (f _ _ (hK _ _ ?_)))
 clear hK f K;have k9:=k5.trans k8;nofun
 delta wS wT wE wA wV wG;show PT ok.gw ok.ord ∅ λS9 k10=>?_
 rw[ok.part];show AL 3 #v[] (CY A.g2 ∅) λS10 k11=>?_
 show ab (rfl) #[λz=>(by cases z),λ_=>?_]
 show FB ok.gw ok.sw ∅ λS11 k12=>?_
 show ab (rfl) ?_;delta wB;show ah (Q0:=H) (λz=>by cases z) (λ_ B f _=>aW (f _ _ (hK _ _ ?_)))
 clear hK f K;have k13:=k9.trans (k10.trans (k11.trans k12));show st ?_;left;show az (az (ab fY (az ?_)));rw[ol,tl,lp];show ab Jx ?_;rw[show ↥one+↥other-↥L0=((↥one+↥other-↥L0:NF):NV) by omega]
 nofun
 delta wS wT wE wA wV wG;show az ?_;rw[wl];show ab LB ?_;rw[Oy ∅]
 delta wB;show#[λz=>(by cases z),λ_=>?_]
 have fin:∀B:QO,(∀Z' y,K Z' y->B (.nx Z',y))->B (.nx [ba R,ba (aA one),ba (aA other),ba (.tup (L0.map ou)),ba (.bl L),ba (aA w),ba (.tup (ac C)),ba (.int ((↥one+↥other-↥L0:NF)))],S11):=λB f=>f _ _ (hK _ _ (by
  clear hK;have c1:↥one<=((NQ ↥one).zip (NQ ↥one)).length:=by rw[Rg,N7];omega
  have c2:↥other<=((NQ ↥other).zip C).length:=by rw[Rg,N7];omega
  nofun
  delta wS wT wE wA wV wG;show CM A.g1 ok.gw ∅ ∅ λr1 S12 ca ma k14=>?_
  have l1:↥r1=↥one:=by
   have:=ca.len;have:=ma _ (xJ A.g1 o1 (N7 ..) p1);omega
  show az (az ?_);rw[Nz,l1,ol];show ab sE ?_;rw[Os];show#[λz=>(by cases z),λ_=>?_]
  show CM A.g2 ok.gw ∅ ∅ λr2 S13 cb mb k15=>?_
  have l2:↥r2=↥other:=by
   have:=cb.len;have:=mb _ (xJ A.g2 ok.ord N ok.part);omega
  show az (az ?_);rw[Nz,l2,tl];show ab sE ?_;rw[Os];show ah (Q0:=H) (λz=>by cases z) (λ_ B f _=>aW (f _ _ (hK _ _ ?_)))
  clear hK f K;show st ?_;left;show PT ok.gw ok.ord ∅ λS14 k16=>?_
  rw[ok.part];show CM A.g1 A.g2 ∅ ∅ λr3 S15 cc mc k17=>?_
  obtain⟨e,he,hl⟩:=hC;have l3:=mc e he;show az (az ?_);rw[Nz,lp];show ab LC ?_;rw[OS ∅]
  show k _ (k13.trans (k14.trans (k15.trans (k16.trans k17))))))
 show ab (rfl) ?_;cases L with
 |false=>show#[λz=>(by cases z),λ_=>ah (Q0:=H) (λz=>by cases z) (λ_ B f _=>aW (fin B f))]
 |true=>
  show#[λ_=>az ?_,λz=>by cases z]
  rw[wl];have:=ok.fresh.resolve_left (hap rfl);show ab sE ?_;rw[show((↥w)==((↥one+↥other-↥L0:NF):NV))=true by rw[beq_iff_eq];omega]
  show ah (Q0:=H) (λz=>by cases z) (λ_ B f _=>aW (fin B f))
def CZ { a:Ny Wd}(h:HasD U (aX bs b))(p:b.Perm a):HasD U (aX bs a):=by
 have q:(aX bs b).Perm (aX bs a):=p.flatMap_right _;show#[λt=>(h.iff t).trans (q.map cV).mem_iff,by rw[<- q.length_eq];show h.len]
def Jy (h:(w=.non/\b=true)\/((∃x,w=cW x)/\b=false)):bK .is w .non S=ba (.bl b,S):=by
 rcases h with⟨rfl,rfl⟩|⟨⟨⟨_,_,_⟩,rfl⟩,rfl⟩
 ·rfl
 ·rfl
def C0 (hfu:50<fuel)(L:Lw85 defs){zs:Ny NV}:∃b,aq defs fuel (d+12) "law" [.ref 0] [.fro (zs.map W.int)]=ba (.bl true,b):=by
 suffices h:wO (aJ (aq defs fuel (d+12)) "law" 1 [.ref 0] [.fro (zs.map W.int)]) (λp=>p.1=.bl true) by
  obtain⟨⟨v,b⟩,e,q⟩:=bV h;cases(q);show#[b,e]
 have G:=L.gen;show au L.law rfl rfl λQ' hR=>?_
 change wZ _ _ lO [ba (.ref 0),dx,dx,dx,dx,dx,dx,dx] [.fro (zs.map W.int)] Q';unfold lO;nofun
 left;show IW  L.flow  rfl λr S1 _ f1=>hK _ _ ?_
 clear hK K;nofun
 left;show B5  ∅ G f1 λw S2 hw f2 _=>hK _ _ ?_
 clear hK K f1;obtain⟨a,bs,H,ns,f,rfl,j,s⟩:=hw;have C:=j.size.good;have n:=j.nl;have V:=j.ml;have hpos:=j.size.pos;have O:=j.size.a3;have R:↥bs<=3:=by rcases C with rfl|rfl|rfl|rfl|rfl|rfl<;>decide
 have pm:(jk f).Perm f:=Aj;have m:=λg hg=>po C (j.mem g (pm.mem_iff.mp hg))
 have l:(jk f).length<=100:=by
  have h1:=bY f _ j.nd j.mem;have h2:=qH ⇑j;rw[pm.length_eq];omega
 have Y:∀U ,HasD U (aX bs (jk f))->¬ lg a bs U (↥bs+1):=λU h=>M5 j (CZ h pm) s
 clear j pm s;unfold eE;generalize jk f=gs at m l Y;clear f;have ml:(H.map W.str).length=a:=by rw[Nz,V]
 have P:=L.lay.way;have CM:∀{S:aa}{Q:QW}{u v:Wd},GoodW a ↥bs u->GoodW a ↥bs v->↥u<=5->↥v<=100->(∀r b,Cmn bs u v r->(∀t,Cmn bs u v t->↥t<=↥r)->Ka S b->Q (dN r,b))->wO (aJ (aq defs fuel (d+11)) qv 3 [.tup [.tup (H.map W.str),.tup (NW aH ns bs),.tup (gs.map aA)],aA u,aA v] S) Q:=
  λg1 g2 l1 l2 k=>tR  P L.com C n g1 g2 l1 l2 k
 have TW:∀{S:aa}{Q:QW},Fl S r->(∀u v U b,HasD U (aX bs gs)->GoodW a ↥bs u->Std U u->GoodW a ↥bs v->Std U v->↥u<=3->↥v<=3->Fl b r->Q (.tup [aA u,aA v],b))->wO (aJ (aq defs fuel (d+11)) "_law_two" 2 [.ref r,.tup [.tup (H.map W.str),.tup (NW aH ns bs),.tup (gs.map aA)]] S) Q:=
  λhf k=>LA  ∅ L C n V hpos O R m l hf k
 have PO:∀{S:aa}{Q:QW},(∀w U b,HasD U (aX bs gs)->M3 a bs U ↥bs w->Ka S b->Q (w,b))->wO (aJ (aq defs fuel (d+11)) "put_on" 1 [.tup [.tup (H.map W.str),.tup (NW aH ns bs),.tup (gs.map aA)]] S) Q:=
  λk=>CP  ∅ L.unl C n ml O m l k
 have RG:∀{S:aa}{Q:QW}{one other:Wd}{L0:Pl}{kv:Ny (T×W)}{y:Oh},HasD kv (aX bs gs)->LayA a bs kv one other L0->↥one<=3->↥other<=3->(∃t,Cmn bs one other t/\↥t=↥L0)->(y=true->¬ lg a bs kv ↥bs)->(∀b,Ka S b->Q (.bl true,b))->wO (aJ (aq defs fuel (d+11)) uk 5 [.tup [.tup (H.map W.str),.tup (NW aH ns bs),.tup (gs.map aA)],aA one,aA other,.tup (L0.map ou),.bl y] S) Q:=
  λh A l1 l2 c u k=>zh  ∅ L C n R m l Y h A l1 l2 c u k
 generalize W.tup [.tup (H.map W.str),.tup (NW aH ns bs),.tup (gs.map aA)]=RR at CM TW PO RG ⊢;nofun
 left;show TW f2 λu v U S3 h3 M su N sv lu lv f3=>?_
 delta wU;show ab (rfl) ?_;show hK _ _ ?_;clear hK K f2;nofun
 left;show PO λw U' S4 h4 J k4=>?_
 have same:∀t,(bj U' t).isSome=(bj U t).isSome:=λt=>by rw[Qp,jn,jn,h4.iff,h3.iff]
 obtain⟨y,B,hw⟩:∃y:Oh,(y=true->¬ lg a bs U ↥bs)/\((w=.non/\y=true)\/((∃x,w=cW x)/\y=false)):=by
  rcases J with⟨rfl,nu⟩|⟨x,rfl,_⟩
  ·show#[true,λ_ z=>nu (xI (λt=>(same t).symm) z),.inl #[rfl,rfl]]
  ·show#[false,λz=>(by cases z),.inr #[#[x,rfl],rfl]]
 show ab (Jy hw) (hK _ _ ?_);clear hK K hw J;have f4:=f3.ka k4;nofun
 left;show CM M N ∅ ∅ λe S5 ce _ k5=>hK _ _ ?_
 clear hK K;have f5:=f4.ka k5;have el:↥e<=3:=by have:=ce.len;omega
 have A:=nR M su N sv ce;nofun
 delta wS wT wE wA wV wG;unfold dN;rw[<- (jA e).2.2];show RG h3 A lu lv #[e,ce,by unfold GD;rw[Nz]] B λS6 k6=>?_
 show ab (rfl) ?_;show ah (Q0:=Q') (λz=>by cases z) (λ_ Q2 X _=>aW (X _ _ (hK _ _ ?_)))
 clear hK X K;have f6:=f5.ka k6;nofun
 left;show qE (e.map t9) (λi ys Z b=>(∃a1,Z=[dx,a1,ba (.ref r)])/\(∃o:Ny (NF×NF),o.Sublist (e.take i)/\ys=o.map t9)/\Fl b r) rfl rfl rfl ?_ ?_ ?_
 ·left;show#[by rw[(jA e).2.2],#[dx,rfl],#[[],List.nil_sublist _,rfl],f6]
 ·rintro i x ys Z S7 E ⟨⟨a1,rfl⟩,⟨o,D,rfl⟩,f7⟩;rw[NO,NB]at E;obtain⟨p,hp,rfl⟩:=E;have tk:e.take (i+1)=e.take i++[p]:=by rw[Ol,hp];rfl
  show ab (rfl) ?_;delta eB wC wT wE wA;show aY  G.pick f7 #v[] #v[] λv S8 _ _ f8 _=>?_
  show ab im ?_;delta wB;rw[tk];show#[λ_=>#[#[_,rfl],#[o++[p],XD D (XZ _),by rw[N3];rfl],f8],λ_=>#[#[_,rfl],#[o,D.trans (List.sublist_append_left _ _),rfl],f8]]
 ·rintro ys Z S7 ⟨_,⟨o,D,rfl⟩,f7⟩;rw[Nz,Ou]at D;have l':=N9 D.length_le el;have I:=FU C M su N sv ce D;have A':=nR M su N sv I;show#[jB (by rw[Nz];omega),c8 af (hK _ _ ?_)]
  clear hK K;have A0:LayA a bs U v u []:=#[N,sv,M,su,#[.nil,λx E=>nomatch E],#[.nil,λx E=>nomatch E],rfl]
  show st ?_;left;rw[<- (jA o).2.2];show RG h3 A' lu lv #[o,I,by unfold GD;rw[Nz]] B λS8 k8=>?_
  show#[λ_=>?_,λz=>by cases z]
  show RG (L0:=[]) h3 A0 lv lu #[[],.nil,rfl] B λS9 _=>hR _ _ rfl
abbrev GF:Df:=#[["_law_script"],["_law_script","_law_flow_here","_law_rule","_law_one","_law_other","_law_apart","_law_pairs","_law_some"],lO]
noncomputable abbrev Tw:=Oc×NF×Df×NF
noncomputable abbrev tw (i:NF)(b:Ss)(a:NF):Tw:=(nm i,i,#[pO i,nO i,b],a)
abbrev TL:Ny Tw:=[tw 5 nM 72,tw 6 iA 79,tw 7 jt 84,tw 9 xw 91,tw 11 gJ 96,tw 12 bD 101,tw 13 bB 106,tw 15 bW 113,tw 16 bu 120,tw 17 cp 127,tw 18 bX 134,tw 19 bn 141,tw 20 cD 146,tw 21 cK 151,tw 23 qU 156,tw 24 dX 161,tw 25 ju 166,tw 26 fg 171,tw 27 ga 178,tw 28 fS 183,tw 29 gR 188,tw 31 qR 195,tw 33 nF 200,tw 34 gN 207,tw 35 eJ 212,tw 37 nP 219,tw 38 fI 226,tw 39 bF 233,tw 40 bJ 238,tw 41 bE 243,tw 43 kR 250,tw 44 dD 257,tw 45 fT 262,tw 47 iK 269,tw 48 dw 276,tw 49 iw 281,tw 50 mS 288,tw 51 gH 295,tw 52 dB 302,tw 53 iL 307,tw 54 kG 314,tw 55 jg 319,tw 56 j9 326,tw 57 kH 333,tw 58 ff 338,tw 59 fD 343,tw 60 kI 350,tw 61 c7 357,tw 62 dW 364,tw 63 bM 369,tw 64 b9 376,tw 65 jh 381,tw 66 cJ 386,tw 67 bS 391,tw 68 bN 398,tw 69 gK 405,tw 70 cj 410,tw 71 br 417,tw 72 nQ 424,tw 73 pE 431,tw 74 dE 436,("law",75,GF,441)]
abbrev kS:Ny (Oc×Df):=TL.map λp=>(p.1,p.2.2.1)
abbrev M6:Ny (Oc×NF):=TL.map λp=>(p.1,↥p.2.2.1.ps)
abbrev FW:Ny Oc:=["range","len","list","tuple","int","set","dict","zip","sorted","isinstance","bool","str","all","min","enumerate"]
abbrev JF:Md:=#[M6,FW]
abbrev BD (x:Oc)(st:QG)(df:Df):Prop:=∀(kV doc pm:NC) (an:NJ NR) (cdv ct:NC) (us:Ny NC),↥us=↥df.ps->bindArgs (P0 x x (cY st) (cu st) (aQ st) .none kV doc pm an cdv ct) #[us,[]]=pure (df.ps.zip us)
def M7 (us:Ny NC):(NQ ↥us).map (λi=>us.getD i .none)=us:=PV (by rw[Nz,N7]) λi b a=>by
 rw[Ru,SM,NL,NK a];rfl
noncomputable abbrev AF (β:Type):Type:=NC->NC->NC->NJ NR->NC->NC->(NF->NC)->β
abbrev BL (x:Oc)(st:QG)(df:Df):AF (WW (Ny (Oc×NC))):=λkV doc pm an cdv ct t=>bindArgs (P0 x x (cY st) (cu st) (aQ st) .none kV doc pm an cdv ct) #[(NQ ↥df.ps).map t,[]]
abbrev BR (df:Df):AF (WW (Ny (Oc×NC))):=λ_ _ _ _ _ _ t=>pure (df.ps.zip ((NQ ↥df.ps).map t))
def Nv {st:QG}(h:BL x st df=BR df):BD x st df:=λkV doc pm an cdv ct us a=>by
 have e:BL x st df kV doc pm an cdv ct (λi=>us.getD i .none)=BR df kV doc pm an cdv ct λi=>us.getD i .none:=by rw[h]
 unfold BL BR at e;rw[<- a,M7]at e;show e
def tY {α β:Type}(f g:α->β)(L:Ny α)(h:L.map f=L.map g){p:α}(a:p∈L):f p=g p:=List.map_inj_left.mp h p a
noncomputable abbrev SK (N ps:Ny Oc)(sc:QX):Prop:=N.Nodup/\(∀x∈ps,sc.names.lookup x=ba .local\/sc.names.lookup x=ba .cell)/\∀y∈sc.names,y.2≠.free
def Nw (h:(sc.kind,sc.isCoroutine,sc.isGenerator,N.take ↥ps)=(.function,false,false,ps))(k:SK N ps sc):FnScope N ps sc:=#[congrArg (·.1) h,congrArg (·.2.1) h,congrArg (·.2.2.1) h,k.1,congrArg (·.2.2.2) h,k.2.1,k.2.2]
abbrev DG (p:Tw):Prop:=KF JF (ko p.2.1) p.2.2.1/\FnScope p.2.2.1.N p.2.2.1.ps (aQ (ko p.2.1))/\BD p.1 (ko p.2.1) p.2.2.1
set_option maxHeartbeats 0 in
def GH:∀p∈TL,DG p:=λp a=>#[tY (λp:Tw=>xf (cS 20 (Ba JF (ko p.2.1) p.2.2.1.N)) (cu (ko p.2.1))) (λp=>ba p.2.2.1.body) TL (by kernel_rfl) a,Nw (tY (λp:Tw=>((aQ (ko p.2.1)).kind,(aQ (ko p.2.1)).isCoroutine,(aQ (ko p.2.1)).isGenerator,p.2.2.1.N.take ↥p.2.2.1.ps)) (λp=>(.function,false,false,p.2.2.1.ps)) TL (by kernel_rfl) a) ((by decide +kernel:∀p∈TL,SK p.2.2.1.N p.2.2.1.ps (aQ (ko p.2.1))) p a),Nv (tY (λp:Tw=>BL p.1 (ko p.2.1) p.2.2.1) (λp=>BR p.2.2.1) TL (by kernel_rfl) a)]
def Nx (h:((kS.lookup f).map λd=>(↥d.ps,↥d.N,d.body))=ba (m,n,b)):Is kS f m n b:=by
 rw[NB]at h;obtain⟨d,c,a⟩:=h;rw[RM,RM]at a;show#[d,c,a.1,a.2.1,a.2.2]
set_option maxHeartbeats 0 in
def LF:Lw85 kS:=by
 repeat' first
  |show Nx (by kernel_rfl)
  |constructor
def nS:∀(L:Ny Tw) x n,(L.map λp=>(p.1,↥p.2.2.1.ps)).lookup x=ba n->∃p∈L,p.1=x/\↥p.2.2.1.ps=n/\(L.map λp=>(p.1,p.2.2.1)).lookup x=ba p.2.2.1
 |[],x,n,h=>by cases h
 |p::L,x,n,h=>by
  rw[OP,PY]at h;rw[OP,PY];cases e:x==p.1 with
  |true=>
   rw[e]at h;cases h;show#[p,Py ..,(eq_of_beq e).symm,rfl,rfl]
  |false=>
   rw[e]at h;obtain⟨q,a,b,c,d⟩:=nS L x n h;show#[q,O1 _ a,b,c,d]
section
variable{w:OF}
abbrev C3 (K:NY)(mg:Oc->NJ NC)(x:Oc)(st:QG)(df:Df):Prop:=∃(f:NR) (fd:Qs),Fun K x x st f fd/\mg x=ba (.ref f)/\Po K (.ref f)=true/\Binds K fd df.ps []
def Jz {st:QG}{kV    :NC}(X:K.In h)(G:h.Ns mainGlobals mg)
  (b:BD x st df)
  (a:Rw K mainGlobals x=ba (ba (.ref f))) (l:K.lookup f=ba #[oc,od,.func (P0 x x (cY st) (cu st) (aQ st) .none kV doc pm an cdv ct),osl]) (c:QS K cdv x=true) (k:Po K (.ref f)=true):C3 K mg x st df:=
 have F:=zO (st:=st) l c k
 #[f,_,F,WV X G a,k,F.binds b]
def C4 (j:MdOk w K mg JF)(D:∀p∈TL,C3 K mg p.1 (ko p.2.1) p.2.2.1):∀d,Gd P w K mg base JF kS fuel d
 |0=>λf n h=>by
  obtain⟨p,a,rfl,g,i⟩:=nS TL f n h;obtain⟨c,e,F,m,kp,b⟩:=D p a;show#[c,e,p.2.2.1.ps,#[λvs H Q E z=>?_,λA outer s H args us vs Q E r q o t z=>?_],m,kp,b]
  all_goals
   obtain⟨_,_,_,_,_,_,_,_,z,_⟩:=z;cases z
 |d+1=>λf n h=>by
  obtain⟨p,a,rfl,g,i⟩:=nS TL f n h;obtain⟨k,l,_⟩:=GH p a;obtain⟨c,e,F,m,kp,b⟩:=D p a;show#[c,e,p.2.2.1.ps,?_,m,kp,b];rw[<- g];show Ge F l i k j (C4 j D d)
def LG (X:K.In h)(G:h.Ns mainGlobals mg)(z:∀y∈FW,Rw K mainGlobals y=ba dx):MdOk w K mg JF:=#[λy a=>PySem.W.mg_none_of X G (z y a)]
end
def JA {l:T9}{d :NR}(X:K.In h)(G:h.Ns mainGlobals mg)(b:mg "law" = ba (.ref d))(i:MdOk w K mg JF)(D:∀p∈TL,C3 K mg p.1 (ko p.2.1) p.2.2.1)
  {kV    :NC} (a:Rw K mainGlobals "law" = ba (ba (.ref f))) (j:K.lookup f=ba #[oc,od,.func (P0 "law" "law" (cY (ko 75)) (cu (ko 75)) (aQ (ko 75)) .none kV doc pm an cdv ct),osl]) (c:QS K cdv "law" = true) (k:Po K (.ref f)=true) :
  ∃g:Qs,(∀ s v,Vn s g #[[v],[]] [("_law_script",v)])/\∀base:OM,K.In base->base.Ns mainGlobals mg->FnOk l.prog w K mg base zj 12 d g ["_law_script"] (spF w K 1 (aq kS 100 12 "law")):=by
 have e:=b.symm.trans (WV X G a);cases e;have F:=zO (st:=ko 75) j c k;show#[P0 "law" "law" (cY (ko 75)) (cu (ko 75)) (aQ (ko 75)) .none kV doc pm an cdv ct,λs v=>.of_eq rfl,λbase _ _=>Ge (df:=GF) F #[rfl,rfl,rfl,by decide +kernel,rfl,by decide +kernel,by decide +kernel] (by rfl) (by rfl) i (C4 i D 11)]
def M8 {l:T9}{q:Op}{d:DefRec}{K:Uu->NY}(j:l.most=ba 63)(b:d.params.defaults=[])
  (i:∀ w h,YP w h->(K w.params).In h)
  (F:∀ w mg fa h,(K w.params).In h->h.Ns mainGlobals mg->mg d.name=ba (.ref fa)->
   ∃c:Qs,(∀ s u,Vn s c #[[u],[]] [("_law_script",u)])/\∀base:OM,(K w.params).In base->base.Ns mainGlobals mg->FnOk l.prog w (K w.params) mg base zj 12 fa c ["_law_script"] (spF w (K w.params) 1 (aq kS 100 12 "law"))) :
  WM q loose XP YP l.row.toRowW d [] (λf vs=>Wx f vs):=
 L2.DB (n:=63) (k:=12) (x:="_law_script") (CX:=λ_=>zj) (sp:=λw=>spF w (K w.params) 1 (aq kS 100 12 "law")) j #v[] b #[rfl,#v[],#v[]] i F
  (λw H a m hl e g=>Ik (C0 (defs:=kS) (fuel:=100) (d:=0) #v[] LF) e g) λ_ _ _ _ _ z=>z
end Mi
open PySem PySem.W PyProof.Rows L2
namespace Mi
section
abbrev EL (K:NY)(p:Tw):Prop:=Rw K mainGlobals p.1=ba (ba (.ref p.2.2.2))/\K.lookup p.2.2.2=ba (kf p.2.2.2 (ko p.2.1) p.1 (Mw p.2.1) (.ref (p.2.2.2-1))).2/\QS K (.ref (p.2.2.2-1)) p.1=true/\Po K (.ref p.2.2.2)=true
set_option maxHeartbeats 0 in
def LH (P:Uu):∀p∈TL,EL (K0 P) p:=λp a=>#[tY (λp:Tw=>Rw (K0 P) mainGlobals p.1) (λp=>ba (ba (.ref p.2.2.2))) TL (by kernel_rfl) a,tY (λp:Tw=>(K0 P).lookup p.2.2.2) (λp=>ba (kf p.2.2.2 (ko p.2.1) p.1 (Mw p.2.1) (.ref (p.2.2.2-1))).2) TL (by kernel_rfl) a,tY (λp:Tw=>QS (K0 P) (.ref (p.2.2.2-1)) p.1) (λ_=>true) TL (by kernel_rfl) a,tY (λp:Tw=>Po (K0 P) (.ref p.2.2.2)) (λ_=>true) TL (by kernel_rfl) a]
def LI (P:Uu):∀y∈FW,Rw (K0 P) mainGlobals y=ba dx:=λ_ a=>tY (λy:Oc=>Rw (K0 P) mainGlobals y) (λ_=>ba dx) FW (by kernel_rfl) a
end
end Mi
end
end ZZ.Lean
open ZZ.Lean
theorem PySem.Challenge.cw_layworld_k85_whole_laid_over_what_is_com_holds : PySem.Challenge.rw_layworld_k85_whole_laid_over_what_is_com.Holds := by
 w_on
 show PySem.W.holds_law (OR (OR (OR (OR (OR (OR (OR (OR (OR (OR (OR (OR (OR (OR (OR (OR (OR (OR (Mi.s0) (by kernel_rfl)) (by kernel_rfl)) (by kernel_rfl)) (by kernel_rfl)) (by kernel_rfl)) (by kernel_rfl)) (by kernel_rfl)) (by kernel_rfl)) (by kernel_rfl)) (by kernel_rfl)) (by kernel_rfl)) (by kernel_rfl)) (by kernel_rfl)) (by kernel_rfl)) (by kernel_rfl)) (by kernel_rfl)) (by kernel_rfl)) (by kernel_rfl)) (λsaid=>?_)
 show PySem.W.holds_open (q:=Mi.vq) (loose:=Mi.lo) (Xt:=λs=>W9 Mi.vq [] s&&WN [] s) (XP:=PySem.W.XL Mi.vq []) (Yf:=Mi.hk.obs) (Ya:=Mi.hk.val) (YP:=Mi.hk.says) (N:=5336) Mi.hl Mi.hk.of Mi.hk.keeps (λs e=>PySem.W.xl_of s (UH.mp e).1) X2 (by rfl) (by rfl) (by rfl) (λs e=>PySem.W.recFacts_of (UH.mp e).2) (by rfl) said (by decide +kernel) #[rfl,rfl,rfl,rfl,rfl,by decide +kernel] ?hw ?hc
 case hw=>w_witness2
 case hc=>
 show Mi.M8 (l:=Sb) (K:=Mi.K0) rfl rfl (λw h Yq=>PySem.W.kIn_of Yq) ?F
 case F=>
  intro w mg fa h KX G hmg;show Mi.JA KX G hmg (Mi.LG KX G (Mi.LI w.params)) (λp hp=>let ⟨e,l,c,k⟩:=Mi.LH w.params p hp;Mi.Jz KX G (Mi.GH p hp).2.2 e l c k)
   (f:=441) (oc:=.type "function") (od:=dx) (an:=dx) (osl:=#[]) (kV:=.none) (doc:=.none) (pm:=(.str "law_layworld_k85_whole_laid_over_what_is_com" 539)) (cdv:=.ref 440) (ct:=.none) (by kernel_rfl) (by kernel_rfl) (by kernel_rfl) (by kernel_rfl)
