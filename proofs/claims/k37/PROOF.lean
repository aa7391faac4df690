import PyProof.Rows.All
import Wide.All
import OpenK.AllK
import Wide.FinOn
import Lean
import PyProof.EqAt
import PyProof.EqKinds
import PyProof.TupleCall
import PySem.Challenge.RW_layworld_k37_whole_points_put_on_one_ano
import KE.KDictList
import PyProof.SetKind
import PyProof.IsRules
import KE.KSortTup
import PyProof.Rows.SetFrom
import PyProof.MinMaxWalk
import PyProof.WalkInts
import PyProof.ZipIter
import PyProof.Draws
import PyProof.AttrMissHeap
import PyProof.AttrMissSeq
import KE.KDictOf
import PyProof.EnumMake
import PyProof.WalksEnum
noncomputable section
open Option renaming some->gV,none->td
set_option hygiene false
local macro_rules|`(abbrev $i:declId $s:optDeclSig $v:declVal)=>`(noncomputable def $i:declId $s:optDeclSig $v:declVal)|`(def $i:declId $b* :$t $v:declVal)=>`(theorem $i:declId $b* :$t $v:declVal)|`(tactic|omega)=>`(tactic|first|lia|omega (config:={}))|`(tactic|show $e:term)=>`(tactic|refine $e:term)|`(↥$x)=>`(($x).length)|`(⇑$x)=>`(($x).size)|`(tactic|delta $x*)=>`(tactic|dsimp only[$[$x:ident],*])|`(tactic|revert $x*)=>`(tactic|simp only[$[$x:term],*])|`(tactic|left)=>`(tactic|dsimp only[wS,wE,wA,wV,wG,List.set])|`(tactic|nofun)=>`(tactic|refine aN λK hK=>?_)
local macro_rules|`(#v[])=>`((by decide))|`(#v[$x:term])=>`(.cons $x .nil)|`(#v[$x:term,$y:term,*])=>`(.cons $x #v[$y,*])
local macro_rules|`(#[$x:term])=>`(⟨$x⟩)|`(#[$x:term,$y:term,*])=>`(⟨$x,$y,*⟩)
local macro_rules|`(∅)=>`((by omega))
open _root_ renaming List->Mq,Nat->Mz,Option->MA,Int->MM,if_pos->M4,decide_eq_true_eq->M8,Bool->M9,decide_eq_false->Nk,if_neg->Nm,decide_eq_true->NB,of_decide_eq_true->NF,Array->NH,beq_self_eq_true->NJ,False->N6,String->N9,or_false->Ow,beq_eq_false_iff_ne->Pr,DecidableEq->PY,if_true->Qm,of_decide_eq_false->Qs,decide_eq_false_iff_not->Qw,if_false->QT,not_or->SA,forall_congr'->SZ,bne_self_eq_false->TV,True->UA,dif_pos->VT
open List renaming length_map->Mr,length_append->Mt,set->Mx,getElem?_eq_getElem->MC,getElem?_map->MD,getD_eq_getElem?_getD->MG,range->MJ,mem_range->ML,mem_map->MN,getElem?_eq_some_iff->MP,mem_of_getElem?->MQ,zipWith->MR,mem_singleton->MS,size_toArray->MV,length_range->MX,all_eq_true->MY,map_append->MZ,mem_cons->M5,length_take->M6,mem_append->Na,take_add_one->Nd,mem_append_right->Nf,length_singleton->Ng,length_cons->Nh,map_map->Nj,take_length->Nl,getElem?_append_left->No,append_nil->Nr,getElem?_append_right->Nt,map_congr_left->Nw,not_mem_nil->Nx,replicate->Ny,mem_append_left->NA,getElem_mem->NC,all_cons->NG,map_cons->NL,mem_flatMap->NM,mem_filter->NP,getElem?_range->NQ,idxOf_lt_length_of_mem->NW,mem_cons_of_mem->NX,mem_iff_getElem->N5,append_assoc->N7,mem_of_mem_take->N8,findIdx?_eq_some_iff_getElem->Oc,getElem_inj->Od,nodup_iff_pairwise_ne->Oi,any_cons->Oj,range_succ->Ol,ext_getElem->On,getElem?_eq_none_iff->Oo,length_zipWith->Oq,getElem_take->Ou,eq_nil_of_length_eq_zero->Ov,nodup_cons->Ox,length_nil->Oy,mem_cons_self->OB,lookup_cons->OE,getElem?_set->OG,nodup_append->OH,length_filter_le->OL,any_eq_true->OO,map_take->OR,flatMap_append->OZ,take_zero->O8,getElem_idxOf->O9,pairwise_map->Pi,flatMap_cons->Pj,getElem_of_mem->Pu,length_eq_zero_iff->Px,range'->PB,find?_eq_none->PH,filter_append->PJ,any_eq_false->PX,length_dropLast->P1,getElem_map->P3,nodup_range->P4,mem_of_find?_eq_some->Qa,filterMap_cons->Qb,replicate_succ->Qc,getElem?_take_of_lt->Qg,forIn_cons->Qn,zip_cons_cons->Qp,mem_eraseDups->Qt,getElem_range->Qu,mem_singleton_self->Qx,take_sublist->Qz,take_append_drop->QK,length_drop->QN,find?_cons->QU,dropLast_concat_getLast->QV,mem_filterMap->Q9,exists_mem_of_ne_nil->Rp,pairwise_iff_getElem->Rq,all_eq_false->Rw,filter_cons_of_pos->RI,filter_cons_of_neg->RJ,perm_middle->RK,getElem?_set_self->RL,range_succ_eq_map->RQ,length_pos_of_mem->RZ,take_of_length_le->R0,of_mem_zip->R4,nil_append->R5,find?_some->Sd,append_inj->Se,getElem?_eq_none->Sn,getElem?_set_ne->Sq,nodup_nil->Sz,dropLast_concat->SF,length_pos_iff->SS,length_zipIdx->Tq,getElem?_take->Ts,ne_nil_of_mem->Tt,flatten_cons->TJ,zip_nil_left->TQ,ext_getElem?->TW,any_toArray->Ub,range'_succ->Ue,isEmpty_iff->Uf,cons_ne_nil->Ug,flatMap_nil->Uh,cons_append->Ui,map_id->Uo,foldr_cons->Ut,take_left'->Uw,idxOf_cons->Ux,forIn_nil->UO,any_map->Vk,map_nil->Vl,length->Vs,foldl->VM,map->Wb
open PySem renaming wpAny_bind->Ms,Value->Mu,Shared->My,wpAny_pure->ME,Addr->MF,Str->M2,Expr->M7,Program->Nc,Around->Nn,World->Nq,Heap->Nz,wpAny_callSpecial?_slot->NN,wpAny_newObj_type->NO,sizeLine_eq->NT,wpAny_holding->N1,wpAny_call_entry->N2,codeAny_builtin->N3,wpAny_field->N4,wpAny_truthy_bool->Oe,Obj->Of,Spec->Og,wpAny_seqItems->Oh,wpAny_mono->Op,NameKind->OD,plainId_quiet->OQ,wpAny_typeNameOfWhole_keyiter->OS,DictEntry->OV,Pos->OX,FuncData->O3,wpAny_setField_rec->O6,wpAny_passesOwn->Pc,wpAny_pyIter_list->Pg,wpAny_typeNameOf_keyiter->Po,Stmt->Pq,mem_of_lookup->Ps,call_meets->PD,Scope->PR,Builtin->PV,wpAny_letGo->P0,wpAny_typeOf->P2,wpAny_attempt->Qj,wpAny_loadPart'->Ql,wpAny_Call_Name_kw->Qo,wpAny_pyIter_tuple->Qr,codeAny_mono->Qy,wpAny_dictEntries->QD,wpAny_tryCatch->QE,IsPair->QG,wpAny_isInstance->QQ,wpAny_standAt->QR,Paired->Q8,wpAny_rule->Rc,IsPart->Rf,tupleKind_room_in1->Rg,wpAny_setField->Rh,wpAny_runValue->Ri,wpAny_newTuple->Rk,wpAny_of_eq->Rv,wpAny_pyIter_enum->Rx,wpAny_comprehension_free->RB,noFill_tuple_add->RD,wpAny_forIn_list->RF,wpAny_pyNext_list_item->RM,ItemsOf->RT,wpAny_nextOf_list_item->RX,wpAny_execs_nil->R3,codeAny_of_tree->R7,wpAny_dictEpoch->R8,wpAny_updateSeq->R9,wpAny_pyNext_list_end->Sf,wpAny_notOrdered_dict->Sh,wpAny_isOneOf_keyiter->Sj,wpAny_nextOf_list_end->Sl,GenState->So,isSubtype_stop->Sv,wpAny_pyIter_keyiter->Sw,wpAny_updateSeq_pair->SC,PassesOwn->SK,rangeSize_one->SU,seq_tuple_add->SV,wpAny_newList->SX,wpAny_load->Te,Result->Tf,wpAny_setItem_heap->Tj,Params->Tk,sub_AttributeError->Tp,wpAny_assign_Name->Tx,Operator->TB,BindsTo->TC,concat_meets->TD,wpAny_sequenceKey->TF,seqIndex_neg->TH,list_append->TK,Env->TZ,wpAny_pyHash_int->T3,wpAny_pyHash_str->T4,CmpOp->Uj,seqIndex_of->Uk,wpAny_mkInt->Ul,am_miss_of_fast->Us,Keyword->Uz,wpAny_Name->UB,wpAny_bindName->UC,typeIs_int->UF,fitsIndex_both->UG,call->UI,SetTable->UJ,wpAny_fieldsOf->UM,callType_codes->UN,callType_newIn->UP,intBits_le_64->UT,call_list_seq->UW,wpAny_in_heap->UX,wpAny_handled->U4,wpAny_onRaise->U5,small_one->Va,IsZip->Vd,call_range_1->Vf,call_range_2->Vg,call_meetsIn->Vj,Sem->Vn,IsRangeIter->Vr,wpAny_alloc->Vx,wpAny_throw->Vy,Tok->VH,BoolOp->VP,IsEnum->VQ,Model->VR,IsRange->VU,Drawn->V6,Walks->Wa
open Option renaming map_eq_some_iff->Mv,map_some->Nb,isSome_iff_exists->NS,getD_some->O1,isSome_map->Ru,getD_none->T7,toList->U7
open PySem.Heap renaming get?_push_of_some->Mw,get?_push_size->MT,lt_size->MW,get?_update_other->NV,size_push->OU,get?_update_self->Pb,SameBut->Pf,get?_update_ne->Qe,ExtBut->Su,size_update->Ud
open Bool renaming and_eq_true->MB,false_ne_true->Nu,or_eq_true->Oz,eq_false_iff->OW,not_eq_true'->Ph,true_and->Pp,false_eq_true->PF,eq_iff_iff->PM,and_eq_false_iff->QJ,false_or->QS,and_eq_true_iff->SG,and_true->SW,not_not->TY,or_false->UV
open Nat renaming le_refl->MH,lt_of_lt_of_le->MU,le_trans->M1,ne_of_lt->M3,le_of_ble_eq_true->Ni,ne_of_gt->NR,lt_irrefl->NZ,lt_trans->Oa,le_add_right->Om,zero_le->Os,lt_succ_of_lt->Ot,not_lt_zero->OI,lt_succ_self->ON,sub_self->O0,le_of_lt->Pe,le_succ->Pz,lt_or_gt_of_ne->PK,le_succ_of_le->PU,min_self->QC,lt_of_le_of_lt->Rm,succ_le_succ->RE,not_lt->RO,succ_mul->RP,lt_of_succ_lt_succ->RS,lt_or_ge->RW,mul_le_mul_right->SD,pow_le_pow_right->SE,pow_le_pow_left->SR,succ_le_of_lt->TM,lt_trichotomy->TX,min_eq_left->Uv,mul_le_mul->UQ,add_assoc->tx,add_comm->Vh,ble->Wh
open Int renaming natCast_nonneg->MK,toNat_natCast->M0,toNat_of_nonneg->OY,emod_lt_of_pos->O7,emod_nonneg->PL,zero_add->QH,ofNat_lt->QY,ediv_nonneg->Uu
open PySem.W renaming Frag->MO,look_both->ND,keepIn->Ob,fnOf->OP,kia_one->Pd,codeIn->Pw,nsIn->P5,methodObj->Rr,cellsFrom_some->RN,OpenLaw->R6,kat_nil->Sc,KdlSrc->Sx,kas_sort->Uc,WalkO->UY,recOk->UZ,mg_of->U9,xlAt->Vi
open Option.some renaming injEq->Np,inj->NE
open Array renaming length_toList->Nv,getElem?_toList->NY,getElem?_eq_some_iff->O4,getElem?_eq_getElem->P9,perm_iff_toList_perm->Rj,getElem?_eq_none_iff->Rl,append_assoc->Tc,forIn_toList->Tl,toList->Ve,getD->VO
open PySem.Value renaming ref->NK,none->OM,type->Pk,bool->QM,int->SH,str->SJ,isStrOf_shape->SN,isInt_shape->Tv,isStrOf->US,builtin->U6,isInt->Vp
open PyProof.Rows renaming callWith_type1->NU,slot_tuple_getitem->OJ,subscriptTail_builtinR->PC,assignInOrder_cons->Rb,AllBare->Rs,listUpdate_at->Ry,IsTup->R1,get?_update_seq->Sb,SortKind->Sy,IntsAre->SL,entry_tuple_getitem->SO,lt_int->SQ,args_tuple_getitem->Th,assignInOrder_nil->Tz,listItems_at->TU,callWith_builtin1->T6,wpAny_notIn_heap->Ua,seqEpoch_at->Um,slicePart_none->UD,tupleItemsOf_->UU,Call_->Vb
open ForInStep renaming yield->OA
open PySem.Builtin.Range renaming rangeSize->OC,small->QX
open PySem.Obj renaming mapSeq->OF,data_mapFields->Qq,isFreed_of_fields->Sk,cls_mapFields->TR
open PySem.Around renaming under_plainId->OT
open Sum renaming inl->Pa,inr->SI
open True renaming intro->Pn
open PySem.F renaming plainAttrs_list->Py,args_tuple_add_2->Qh,entry_tuple_add->Qv,slot_tuple_add->QA,slot_tuple_index->RA,slot_dict_values->RC,slot_list_index->RG,plainAttrs_dict->RH,slot_dict_get->Sg
open PySem.Paired renaming length->PN,snoc->Sr
open Prod.mk renaming injEq->PQ
open PySem.Builtin.Tuple renaming tupleItemsOf->PZ,tupleHashOf->Rn,tupleExact->Rz,tupleCompareSizes->T0,tupleIsExact->UK
open PySem.Builtin.Slice renaming sliceAdjust->P6,slicePlaces->P7,slicePartIndex->Up,sliceApplied->UE
open Classical renaming byContradiction->P8,propDecidable->Vc
open PySem.Heap.SameBut renaming update->Qd,refl->VW
open PySem.Builtin.SmallTypes renaming ownedTupleHandOut->Qf,ownedTupleIsFree->SY
open PySem.Builtin.List renaming listTooLong->Qi,listExtendWith->Q7,listFitsIndex->UH
open PySem.NameKind renaming free->Qk,cell->We
open Function renaming comp_def->QF
open PySem.Challenge renaming pw_layworld_k37_whole_points_put_on_one_ano->QI,rw_layworld_k37_whole_points_put_on_one_ano->QL
open PySem.SeqAt renaming EqAt->QP,notIn_listAt->Ti,in_tupleAt->T8,in_listAt->Uq
open PySem.Builtin.Builtins renaming bindParams->QZ
open PySem.Calls renaming Name_function_global->Ra,spliced_cons->Re,call_function_entry->Ro,spliced_nil->Rt,callWith_builtin->RV,Constant_str->Td
open PySem.Env renaming kindOf->RY
open PySem.Builtin.Dict renaming showsAll->Si
open PySem.Expr renaming Name->SM
open PySem.SeqAt.EqAt renaming int_str->Ta,str_int->Tb,none_bool->Vt,bool_none->Vu,bool_bool->Vv,none_int->Vz,none_str->VA,bool_int->VB,bool_str->VC,int_none->VD,int_bool->VE,str_none->VF,str_bool->VG,int_int->VJ,str_str->VL,same->V0
open PUnit renaming unit->Tn
open PySem.Code renaming quiet_builtin->To
open PySem.ScopeKind renaming function->Tr
open PySem.AutoListH renaming list___mul___list_int_3->Tu
open PySem.AutoSeq1 renaming list_extend_list_list_0->TN,sub_tuple_tuple->Uqb
open PyProof.Rows.IsTup renaming new->T5
open PySem.IsL renaming update->T9
open PySem.Builtin.Frozenset renaming updateFrom->Ur,newClass->UL
open List.cons renaming injEq->Uy
open PySem.Builtin.Str renaming tooLong->UR
open List.Pairwise renaming imp_of_mem->U8,nil->VS
open List.Perm renaming append_right->Vm,append_left->Vo,of_eq->V5,swap->V9,map->Wc
open Sum.inl renaming inj->Vq
open PySem.MeetsSeq renaming list_pop_at->Vw
open PySem.Heap.IsSliceOf renaming new->VI
open PySem.Walks renaming list->VN
open PySem.Flow renaming next->VX
open PySem.W.Looks renaming ld->VY
open PySem.W.XL renaming keeps->VZ
open PySem.Heap.DictOf renaming new->V3
open PySem.PassesOwn renaming never->V4
open Prod renaming ext->V7
open Or renaming inr->V8
open PySem.Txt renaming mul->Wf
open Iff renaming rfl->Wg
open Nat.succ renaming inj->Wi
set_option genSizeOf false
namespace ZZ.Lean
noncomputable section
set_option Elab.async false
set_option linter.all false
set_option maxRecDepth 100000
namespace L2
open PySem PySem.Spec PyProof.Rows
noncomputable abbrev bD:=Sum MM M2
abbrev nq:bD->Mu->M9
 |.inl k,v=>Vp k v
 |.inr x,v=>US x v
abbrev Kw (w:Nq):bD->MM
 |.inl k=>hashInt k
 |.inr x=>hashStr w x
def bv:∀{k:bD}{v:Mu},nq k v=true->(∃i t,k=Pa i/\v=SH i t)\/(∃x t,k=SI x/\v=SJ x t)
 |.inl i,v,h=>by
  obtain⟨t,e⟩:=Tv   h;show .inl #[i,t,rfl,e]
 |.inr x,v,h=>by
  obtain⟨t,e⟩:=SN   h;show .inr #[x,t,rfl,e]
def wu (i:MM)(t:VH):nq (.inl i) (.int i t)=true:=by(delta nq Vp;simp)
def wx (x:M2)(t:VH):nq (.inr x) (.str x t)=true:=by simp[nq,US]
def Fi (a b:MM):decide ((Pa a:bD)=Pa b)=(a==b):=by
 by_cases e:a=b
 ·subst e;simp
 ·have h:¬ (Pa a:bD)=Pa b:=λq=>e (Vq q)
  rw[Nk h];show(Pr.mpr e).symm
def Fj (a b:M2):decide ((SI a:bD)=SI b)=decide (a=b):=by
 by_cases e:a=b
 ·simp
 ·have h:¬ (SI a:bD)=SI b:=λq=>e (Sum.inr.inj q)
  rw[Nk h,Nk e]
def Fk (a:MM)(b:M2):decide ((Pa a)=SI b)=false:=Nk (λq=>nomatch q)
def Fn (a:M2)(b:MM):decide ((SI a)=Pa b)=false:=Nk (λq=>nomatch q)
abbrev aR (prog:Nc)(w:Nq):PySem.KeyKind prog w bD where
 is:=nq
 hash:=Kw w
 inj:=λv a b f d=>by
  rcases bv f with⟨i,t,rfl,rfl⟩|⟨x,t,rfl,rfl⟩
  ·rcases bv d with⟨j,u,rfl,e⟩|⟨y,u,rfl,e⟩
   ·injection e with e1 _;rw[e1]
   ·show nomatch e
  ·rcases bv d with⟨j,u,rfl,e⟩|⟨y,u,rfl,e⟩
   ·show nomatch e
   ·injection e with e1 _;rw[e1]
 byValue:=λk v h=>by
  rcases bv h with⟨i,t,rfl,rfl⟩|⟨x,t,rfl,rfl⟩<;>rfl
 pyHash:=λc h=>by
  rcases bv c with⟨i,t,rfl,rfl⟩|⟨x,t,rfl,rfl⟩
  ·show T3 h
  ·show T4 h
 eqBool:=λg c h=>by
  rcases bv g with⟨i,t,rfl,rfl⟩|⟨x,t,rfl,rfl⟩
  ·rcases bv c with⟨j,u,rfl,rfl⟩|⟨y,u,rfl,rfl⟩
   ·rw[Fi]at h;show wpAny_eqBool_int h
   ·rw[Fk]at h;show Ta i t y u _ _ _ _ h
  ·rcases bv c with⟨j,u,rfl,rfl⟩|⟨y,u,rfl,rfl⟩
   ·rw[Fn]at h;show Tb x t j u _ _ _ _ h
   ·rw[Fj]at h;show wpAny_eqBool_str h
 «strs»:=λk x t v h=>by
  rcases bv h with⟨i,u,rfl,e⟩|⟨y,u,rfl,e⟩
  ·show nomatch e
  ·injection e with e1 _
   subst e1;cases v<;>rfl
def qh (prog:Nc)(w:Nq)(i:MM)(t:VH):(aR prog w).is (.inl i) (.int i t)=true:=wu i t
def ql (prog:Nc)(w:Nq)(x:M2)(t:VH):(aR prog w).is (.inr x) (.str x t)=true:=wx x t
inductive V where
 |non|bl (b:M9)|int (i:MM)|str (x:M2)|byt (b:NH UInt8)|flt (b:UInt64)|ref (a:MF)|ty (n:N9)
 deriving PY
abbrev RelV:V->Mu->Prop
 |.non,u=>u=OM
 |.bl b,u=>u=QM b
 |.int i,u=>∃t,u=SH i t
 |.str x,u=>∃t,u=SJ x t
 |.byt b,u=>∃t,u=Value.bytes b t
 |.flt b,u=>∃t,u=Value.float b t
 |.ref a,u=>u=NK a
 |.ty n,u=>u=Pk n
noncomputable abbrev Vals:Mq V->Mq Mu->Prop:=Q8 RelV
def Vals.length (r:Vals xs us):↥xs=↥us:=PN r
def Vals.get:∀{xs:Mq V}{us:Mq Mu}{i:Mz}{x:V},Vals xs us->xs[i]?=gV x->∃u,us[i]?=gV u/\RelV x u
 |_,_,_,_,.nil,e=>by simp at e
 |_,_,0,_,.cons r _,e=>by simp at e;subst e;show#[_,rfl,r]
 |_,_,i+1,x,.cons _ t,e=>by
  obtain⟨u,a,b⟩:=Vals.get   t (by simpa using e)
  show#[u,by simpa using a,b]
def Vals.set (r:RelV x u):∀{xs:Mq V}{us:Mq Mu} i,Vals xs us->Vals (xs.set i x) (us.set i u)
 |_,_,_,.nil=>.nil
 |_,_,0,.cons _ t=>.cons r t
 |_,_,i+1,.cons q t=>.cons q (Vals.set r i t)
def Vals.append:∀{xs ys:Mq V}{us ws:Mq Mu},Vals xs us->Vals ys ws->Vals (xs++ys) (us++ws)
 |_,_,_,_,.nil,s=>s
 |_,_,_,_,.cons r t,s=>.cons r (Vals.append t s)
def Vals.take:∀{xs:Mq V}{us:Mq Mu} n,Vals xs us->Vals (xs.take n) (us.take n)
 |_,_,0,_=>.nil
 |_,_,_+1,.nil=>.nil
 |_,_,n+1,.cons r t=>.cons r (Vals.take n t)
def Vals.drop:∀{xs:Mq V}{us:Mq Mu} n,Vals xs us->Vals (xs.drop n) (us.drop n)
 |_,_,0,r=>r
 |_,_,_+1,.nil=>.nil
 |_,_,n+1,.cons _ t=>Vals.drop n t
abbrev RelO:MA V->MA Mu->Prop
 |some v,gV u=>RelV v u
 |none,td=>UA
 |_,_=>N6
abbrev KV {κ:Type}:Mq (κ×V)->Mq (κ×Mu)->Prop:=Q8 λ(p:κ×V) (q:κ×Mu)=>p.1=q.1/\RelV p.2 q.2
abbrev kV:bD->V
 |.inl i=>.int i
 |.inr x=>.str x
inductive HO where
 |lst (xs:Mq V)
 |tup (xs:Mq V)
 |dK (U:Mq (bD×V))|dT (U:Mq (Mq bD×V))
 |set (S:MM->M9) (n:Mz)
 |ins (C dx:MF) (fs:Mq (M2×V))
 |own (x:MF)
 |xd (fs:Mq (M2×V))
 |met (f x:MF)
 |rng (lo hi:MM)
 |frz (o:Of) (u:HO)
 |tbl (ps:NH Mu)
 |ext (φ:Nz->Prop)
noncomputable abbrev Hp:=MF->MA HO
abbrev bK (H:Hp)(a:MF)(o:HO):Hp:=λb=>if b=a then gV o else H b
def aI :bK H a o a=gV o:=by unfold bK;rw[M4 rfl]
def aJ (h:b≠a):bK H a o b=H b:=by unfold bK;rw[Nm h]
def Ic {H:Hp}(h:H a=gV o)(h':H b=gV u)(d:o≠u):a≠b:=by
 intro e;subst e;rw[h]at h';show d (NE h')
def dU {H:Hp}(h:H a=gV o)(h':H b=td):a≠b:=by
 intro e;subst e;rw[h]at h';cases h'
section
variable (P:Nc) (w:Nq)
abbrev NoD (h:Nz)(a:MF):Prop:=∃o,h.get? a=gV o/\o.dict=td
def NoD.new (h:Nz)(a:NH Mu)(n:Mz):NoD (h.push {cls:=.type "tuple",data:=.seq a n}) ⇑h.objs:=#[_,MT _ rfl,rfl]
abbrev ObjOk (H:Hp)(h:Nz)(a:MF):HO->Prop
 |.lst xs=>↥xs<=sizeLine/\∃(b:Mq Mu) (n:Mz),Vals xs b/\h.get? a=gV {cls:=.type "list",data:=.seq b.toArray n}
 |.tup xs=>(↥xs<=sizeLine/\NoD h a)/\∃b:Mq Mu,Vals xs b/\R1 h a b.toArray
 |.dK U=>↥U<=sizeLine/\(a==sysModules)=false/\∃vs,KV U vs/\h.DictOf (aR P w) a vs
 |.dT U=>↥U<=sizeLine/\(a==sysModules)=false/\∃xs:Mq (Mq bD×MF×Mu),
   Q8 (λ(p:Mq bD×V) (q:Mq bD×MF×Mu)=>p.1=q.1/\H q.2.1=gV (.tup (p.1.map kV))/\RelV p.2 q.2.2) U xs/\
   ∃o es j,h.get? a=gV o/\o.ExactDict/\o.data=.dict es j/\es.toList=xs.map (entryOfKey (tupleKind (aR P w)))/\(xs.map (·.1)).Nodup
 |.set S n=>h.SetOf (intKind P w) a S n
 |.ins C e d=>H e=gV (.own a)/\↥d<=1000/\e≠a/\h.get? a=gV (PySem.W.instObj C e)/\
   ∃c,h.Ns1 e c/\(∀f,RelO (d.lookup f) (c f))/\PySem.Within c (d.map (·.1))
 |.own _=>∃o,h.get? a=gV o
 |.xd d=>∃c,h.Ns1 a c/\∀f,RelO (d.lookup f) (c f)
 |.rng lo hi=>∃t u v,h.get? a=gV {cls:=.type "range",data:=.fields [.int lo t,.int hi u,.int 1 v].toArray}
 |.frz o u=>h.get? a=gV o/\ObjOk H h a u
 |.tbl ps=>h.get? a=gV {cls:=.none,data:=.fields ps}
 |.met f x=>h.get? a=gV (Rr (.ref f) (.ref x))
 |.ext φ=>φ h/\(∃o,h.get? a=gV o)/\∀g i:Nz,φ g->(∀o,g.get? a=gV o->i.get? a=gV o)->φ i
abbrev HOk (H:Hp)(h:Nz):Prop:=∀a o,H a=gV o->ObjOk P w H h a o
end
section
variable{P:Nc}{w:Nq}{H H':Hp}{h h':Nz}{a:MF}{o:HO}
def ObjOk.lt (x:ObjOk P w H h a o):a<⇑h.objs:=by
 cases o with
 |lst xs=>obtain⟨_,_,_,_,e⟩:=x;show MW e
 |tup xs=>obtain⟨_,_,_,p⟩:=x;show p.lt
 |dK U=>obtain⟨_,_,_,_,o,_,_,e,_⟩:=x;show MW e
 |dT U=>obtain⟨_,_,_,_,o,_,_,e,_⟩:=x;show MW e
 |set S n=>obtain⟨o,_,_,_,e,_⟩:=x;show MW e
 |ins C c b=>obtain⟨_,_,_,e,_⟩:=x;show MW e
 |own y=>obtain⟨_,e⟩:=x;show MW e
 |xd b=>obtain⟨_,⟨_,_,_,e,_⟩,_⟩:=x;show MW e
 |rng lo hi=>obtain⟨_,_,_,e⟩:=x;show MW e
 |frz ob u=>obtain⟨e,_⟩:=x;show MW e
 |tbl ps=>show MW x
 |met f y=>show MW x
 |ext φ=>obtain⟨_,⟨_,e⟩,_⟩:=x;show MW e
def Paired.mapP :∀{l₁:Mq α}{l₂:Mq β},Q8 F l₁ l₂->(∀a b,F a b->G a b)->Q8 G l₁ l₂
 |_,_,.nil,_=>.nil
 |_,_,.cons r t,f=>.cons (f _ _ r) (Paired.mapP t f)
def ObjOk.stay (x:ObjOk P w H h a o)(k:∀b u,(b=a\/H b=gV (.own a))->h.get? b=gV u->h'.get? b=gV u)
  (B:∀b,H b=gV (.own a)->H' b=gV (.own a)) (D:∀b xs,H b=gV (.tup xs)->H' b=gV (.tup xs)):ObjOk P w H' h' a o:=by
 induction o with
 |lst xs=>obtain⟨z,i,n,r,e⟩:=x;show#[z,i,n,r,k _ _ (.inl rfl) e]
 |tup xs=>obtain⟨⟨z,l,m,d⟩,i,r,ob,e,c⟩:=x;show#[#[z,l,k _ _ (.inl rfl) m,d],i,r,ob,k _ _ (.inl rfl) e,c]
 |dK U=>obtain⟨z,y,vs,r,ob,es,g,e,c⟩:=x;show#[z,y,vs,r,ob,es,g,k _ _ (.inl rfl) e,c]
 |dT U=>
  obtain⟨z,y,xs,r,ob,es,g,e,c⟩:=x;show#[z,y,xs,Paired.mapP r λp q z=>#[z.1,D _ _ z.2.1,z.2.2],ob,es,g,k _ _ (.inl rfl) e,c]
 |set S n=>obtain⟨ob,es,g,t,e,c⟩:=x;show#[ob,es,g,t,k _ _ (.inl rfl) e,c]
 |ins C E A=>
  obtain⟨d,z,ne,e,j,⟨od,es,g,s,c⟩,r⟩:=x;show#[B _ d,z,ne,k _ _ (.inl rfl) e,j,#[od,es,g,k _ _ (.inr d) s,c],r]
 |own y=>obtain⟨ob,e⟩:=x;show#[ob,k _ _ (.inl rfl) e]
 |xd A=>obtain⟨j,⟨od,es,g,e,c⟩,r⟩:=x;show#[j,#[od,es,g,k _ _ (.inl rfl) e,c],r]
 |rng lo hi=>obtain⟨t,u,v,e⟩:=x;show#[t,u,v,k _ _ (.inl rfl) e]
 |frz ob u ih=>obtain⟨e,q⟩:=x;show#[k _ _ (.inl rfl) e,ih q]
 |tbl ps=>
  have e:h.get? a=gV {cls:=.none,data:=.fields ps}:=x;change h'.get? a=gV {cls:=.none,data:=.fields ps};show k a _ (.inl rfl) e
 |met f y=>
  have e:h.get? a=gV (Rr (.ref f) (.ref y)):=x;change h'.get? a=gV (Rr (.ref f) (.ref y));show k a _ (.inl rfl) e
 |ext φ=>obtain⟨p,⟨o,e⟩,st⟩:=x;show#[st _ _ p λo q=>k _ _ (.inl rfl) q,#[o,k _ _ (.inl rfl) e],st]
def HOk.lt (x:HOk P w H h)(e:H a=gV o):a<⇑h.objs:=(x a o e).lt
def HOk.fresh (x:HOk P w H h)(e:⇑h.objs<=a):H a=td:=by
 cases q:H a with
 |none=>rfl
 |some u=>show absurd (MU (x.lt q) e) (NZ _)
def HOk.kept (x:HOk P w H h)(k:∀b u,h.get? b=gV u->h'.get? b=gV u):HOk P w H h':=λa o e=>
 (x a o e).stay (λb u _ q=>k b u q) (λ_ q=>q) λ_ _ q=>q
def HOk.laid (x:HOk P w H h)(k:∀b u,h.get? b=gV u->h'.get? b=gV u)(g:⇑h.objs<=a)(new:ObjOk P w (bK H a o) h' a o):HOk P w (bK H a o) h':=λb u e=>by
 have f:=x.fresh g
 by_cases d:b=a
 ·subst d;rw[aI]at e;cases e;show new
 ·rw[aJ d]at e;show(x b u e).stay (λc v _ q=>k c v q) (λc q=>by rw[aJ (dU q f)];show q) λc xs q=>by rw[aJ (dU q f)];show q
end
abbrev Rd (H:Hp)(a:MF)(u:HO):Prop:=H a=gV u\/∃o,H a=gV (.frz o u)
def Rd.ok (r:Rd H a u)(x:HOk P w H h):ObjOk P w H h a u:=by
 rcases r with r|⟨o,r⟩
 ·show x a u r
 ·obtain⟨_,q⟩:=x a _ r;show q
abbrev Ig:MA HO->Prop
 |some (.lst _)=>UA
 |some (.dK _)=>UA
 |some (.dT _)=>UA
 |some (.set _ _)=>UA
 |some (.ins _ _ _)=>UA
 |some (.ext _)=>UA
 |_=>N6
section
variable{P:Nc}{w:Nq}{H:Hp}{h h':Nz}{x e:MF}{o':HO}
def HOk.write (ok:HOk P w H h)(i:Ig (H x))(l:e=x\/H e=gV (.own x))(k:∀b u,b≠e->h.get? b=gV u->h'.get? b=gV u)(j:∃u,h'.get? e=gV u)
  (new:ObjOk P w (bK H x o') h' x o'):HOk P w (bK H x o') h':=λb u q=>by
 have d:∀c y,H c=gV (.own y)->c≠x:=λc y r z=>by subst z;rw[r]at i;show i
 have f:∀c xs,H c=gV (.tup xs)->c≠x:=λc xs r z=>by subst z;rw[r]at i;show i
 by_cases g:b=x
 ·subst g;rw[aI]at q;cases q;show new
 ·rw[aJ g]at q
  by_cases a:b=e
  ·have m:H b=gV (.own x):=by
    rcases l with z|z
    ·show absurd (a.trans z) g
    ·rw[a];show z
   rw[q]at m;cases m
   obtain⟨v,n⟩:=j;show#[v,by rw[a];show n]
  ·show(ok b u q).stay (λc v hc r=>k c v ?_ r) (λc r=>by rw[aJ (d c b r)];show r) λc xs r=>by rw[aJ (f c xs r)];show r
   rcases hc with rfl|hc
   ·show a
   ·rintro rfl;rcases l with z|z
    ·show d c b hc z
    ·rw[hc]at z;cases z;show g rfl
end
structure Un (fs ex:Mq MF)(H H':Hp)(h h':Nz):Prop where
 keep:∀b o,h.get? b=gV o->H b=td->b∉fs->b∉ex->h'.get? b=gV o
 slot:∀b o,h.get? b=gV o->H b=td->b∈fs->b∉ex->∃sl,h'.get? b=gV {o with slots:=sl}
 free:∀b o,h.get? b=gV o->H b=td->b∉ex->H' b=td
 there:∀b o,h.get? b=gV o->b∉ex->∃o',h'.get? b=gV o'
 tups:∀b xs,H b=gV (.tup xs)->H' b=gV (.tup xs)
 frzs:∀b o u,H b=gV (.frz o u)->H' b=gV (.frz o u)
 tbls:∀b ps,H b=gV (.tbl ps)->∃more,H' b=gV (.tbl (ps++more))
section
variable{fs fs' ex ex':Mq MF}{H H1 H2:Hp}{h h1 h2 h':Nz}{a x e:MF}{o:HO}
def Un.any (u:Un fs ex H H1 h h1)(q:h.get? b=gV ob)(n:H b=td)(c:b∉ex):∃d,h1.get? b=gV {ob with slots:=d}:=by
 by_cases a:b∈fs
 ·show u.slot b ob q n a c
 ·show#[ob.slots,u.keep b ob q n a c]
def Un.trans (a:Un fs ex H H1 h h1)(b:Un fs ex H1 H2 h1 h2):Un fs ex H H2 h h2 where
 keep:=λc ob q n hc d=>b.keep c ob (a.keep c ob q n hc d) (a.free c ob q n d) hc d
 slot:=λc ob q n hc d=>by
  obtain⟨l,e⟩:=a.slot c ob q n hc d;obtain⟨i,f⟩:=b.slot c _ e (a.free c ob q n d) hc d;show#[i,f]
 free:=λc ob q n d=>by
  obtain⟨g,e⟩:=a.there c ob q d;show b.free c g e (a.free c ob q n d) d
 there:=λc ob q d=>by
  obtain⟨g,e⟩:=a.there c ob q d;show b.there c g e d
 tups:=λc xs q=>b.tups c xs (a.tups c xs q)
 frzs:=λc ob xs q=>b.frzs c ob xs (a.frzs c ob xs q)
 tbls:=λc ps q=>by
  obtain⟨j,e⟩:=a.tbls c ps q;obtain⟨k,f⟩:=b.tbls c _ e;show#[j++k,by rw[f,Tc]]
def Un.kept (k:∀b u,h.get? b=gV u->h'.get? b=gV u):Un fs ex H H h h':=
 #[λb ob q _ _ _=>k b ob q,λb ob q _ _ _=>#[ob.slots,k b ob q],λ_ _ _ n _=>n,λb ob q _=>#[ob,k b ob q],λ_ _ q=>q,λ_ _ _ q=>q,λ_ ps q=>#[#[],by rw[q];rfl]]
def Un.refl:Un fs ex H H h h:=Un.kept λ_ _ q=>q
def Un.laid (k:∀b u,h.get? b=gV u->h'.get? b=gV u)(d:⇑h.objs<=a)(c:H a=td):Un fs ex H (bK H a o) h h' where
 keep:=λb u q _ _ _=>k b u q
 slot:=λb u q _ _ _=>#[u.slots,k b u q]
 free:=λb u q n _=>by rw[aJ (M3 (MU (MW q) d))];show n
 there:=λb u q _=>#[u,k b u q]
 tups:=λb xs q=>by rw[aJ (dU q c)];show q
 frzs:=λb u xs q=>by rw[aJ (dU q c)];show q
 tbls:=λb ps q=>#[#[],by rw[aJ (dU q c),q];rfl]
def Un.write (c:Ig (H x))(j:e=x\/H e=gV (.own x))(k:∀b u,b≠e->h.get? b=gV u->h'.get? b=gV u)(d:∃u,h'.get? e=gV u):Un fs ex H (bK H x o) h h':=by
 have i:∀b,H b=td->b≠x:=λb n z=>by subst z;rw[n]at c;show c
 have g:∀b,H b=td->b≠e:=λb n z=>by
  subst z;rcases j with r|r
  ·show i b n r
  ·rw[n]at r;cases r
 have f:∀b u,H b=gV u->¬ Ig (gV u)->b≠x:=λb u q l z=>by subst z;rw[q]at c;show l c
 show#[λb u q n _ _=>k b u (g b n) q,λb u q n _ _=>#[u.slots,k b u (g b n) q],λb u q n _=>by rw[aJ (i b n)];show n,λb u q _=>?_,
  λb xs q=>by rw[aJ (f b _ q λz=>z)];show q,λb u xs q=>by rw[aJ (f b _ q λz=>z)];show q,λb ps q=>#[#[],by rw[aJ (f b _ q λz=>z),q];rfl]]
 by_cases a:b=e
 ·subst a;show d
 ·show#[u,k b u a q]
end
abbrev LO (h:Nz)(H:Hp):Mq MF:=(MJ ⇑h.objs).filter λa=>(H a).isSome
abbrev oK (h:Nz)(H:Hp):Nz:=PySem.W.hideAll h (LO h H)
def wy (h:Nz)(H:Hp):(oK h H).objs.size=⇑h.objs:=PySem.W.hideAll_size _ _
def yh (e:h.get? b=gV o)(n:H b=td):(oK h H).get? b=gV o:=
 PySem.W.hideAll_get _ e λa=>by
  have q:=(NP.mp a).2;rw[n]at q;simp at q
def B2 (e:(oK h H).get? b=gV o):h.get? b=gV o/\H b=td:=by
 have a:=PySem.W.of_hideAll _ e;show#[a,?_];cases q:H b with
 |none=>rfl
 |some x=>
  have c:b∈LO h H:=NP.mpr #[ML.mpr (MW a),by simp[q]]
  have z:(oK h H).get? b=td:=PySem.W.hideAll_none _ c;rw[z]at e;cases e
abbrev uL (g h:Nz)(L:MF):Mq (MF×Of):=(MJ ⇑h.objs).filterMap λa=>if a=L\/(g.get? a).isSome=true then td else(h.get? a).map λo=>(a,o)
def qm (c:a≠L)(d:g.get? a=td)(b:h.get? a=gV o):(a,o)∈uL g h L:=
 Q9.mpr #[a,ML.mpr (MW b),by simp[c,d,b]]
abbrev cj (g h:Nz)(L d:MF):Mq (MF×Of):=(uL g h L).filter λp=>decide (p.1≠d)
def mem_rest (b:a≠L)(c:g.get? a=td)(e:h.get? a=gV o)(f:a≠d):(a,o)∈cj g h L d:=
 NP.mpr #[qm b c e,NB f]
structure Mod (K:MO)(mg:M2->MA Mu)(base:Nz):Prop where
 kin:K.In base
 glob:base.Ns mainGlobals mg
 blt:∃mb,base.Ns builtinsNs mb/\∀x:M2,x≠"__name__"->mb x=bootBuiltins x
 nolimit:base.NoLimit
structure Cx where
 prog:Nc
 w:Nq
 K:MO
 mg:M2->MA Mu
 base:Nz
 A:Nn
 N:Mq M2
 s₀:My
 H₀:Hp
 env:TZ
 outer:Mq TZ
 stack:Mq TZ
 ex:Mq MF
 fn:M2->M9
 calm:M9
 pn:Mq (MF×Of)
 xe:Mu->My->Prop
abbrev uM (l:Mq TZ):Mq MF:=l.filterMap (·.frame)
noncomputable abbrev Cx.fs (X:Cx):Mq MF:=uM X.outer
abbrev Kl (sc:PR)(x:M2):Prop:=sc.names.lookup x=gV .local\/sc.names.lookup x=gV .cell\/sc.names.lookup x=gV .free
abbrev B3 (sc:PR)(x:M2):Prop:=sc.names.lookup x=gV .local\/sc.names.lookup x=gV .cell
abbrev Kx (env:TZ)(h:Nz)(m:M2->MA Mu)(x:M2)(u:Mu):Prop:=
 (env.kindOf x=gV .local/\m x=gV u)\/((env.kindOf x=gV .cell\/env.kindOf x=gV .free)/\∃c,env.cells.lookup x=gV c/\h.IsCell c (gV u))
structure Cx.Ok (X:Cx):Prop where
 mod:Mod X.K X.mg X.base
 kind:X.env.scope.kind=.function
 glob:X.env.globals=mainGlobals
 blt:X.env.builtins=builtinsNs
 above:⇑X.s₀.heap.objs<=X.env.locals
 inj:∀x y c,X.env.cells.lookup x=gV c->X.env.cells.lookup y=gV c->x=y
 has:∀x,(X.env.kindOf x=gV .cell\/X.env.kindOf x=gV .free)->∃c,X.env.cells.lookup x=gV c
 cab:∀x c,X.fn x=true->X.env.cells.lookup x=gV c->⇑X.s₀.heap.objs<=c
 hd:X.calm=true->X.A.handled=td
 frames:X.A.frames=gV X.stack
 stk:X.stack=X.outer\/(X.stack=X.env::X.outer/\X.env.frame=gV X.env.locals)
 exf:∀b∈X.ex,b≠X.env.locals/\∀x c,X.env.cells.lookup x=gV c->c≠b
 bs:∀b o,X.base.get? b=gV o->X.s₀.heap.get? b=gV o/\X.H₀ b=td
 bsz:⇑X.base.objs<=⇑X.s₀.heap.objs
 noex:∀b o,X.base.get? b=gV o->b∉X.ex
 exfs:∀b∈X.ex,b∉X.fs
 funs:X.s₀.heap.FunFrames X.base X.outer
 frf:∀b∈X.fs,X.H₀ b=td
structure Inv (X:Cx)(J:Mq (MF×Of))(Y:Mq (MA V))(H:Hp)(s:My):Prop where
 ok:X.Ok
 os:s.os=X.s₀.os
 bare:Rs s.gens
 base:Un X.fs X.ex X.H₀ H X.s₀.heap s.heap
 loc:∃m,s.heap.Ns X.env.locals m/\∀(i:Mz) (x:M2) (v:V),X.N[i]?=gV x->Y[i]?=gV (gV v)->Kl X.env.scope x->∃u,RelV v u/\Kx X.env s.heap m x u
 cell:∀x c,X.env.cells.lookup x=gV c->∃v,s.heap.IsCell c v
 free:H X.env.locals=td
 freeC:∀x c,X.env.cells.lookup x=gV c->H c=td
 pin:∀p∈X.pn++J,s.heap.get? p.1=gV p.2/\H p.1=td/\p.1≠X.env.locals/\p.1∉X.fs/\∀v,p.2.data≠.cell v
 hok:HOk X.prog X.w H s.heap
 len:↥Y=↥X.N
section
variable{X:Cx}{J:Mq (MF×Of)}{Y:Mq (MA V)}{H H':Hp}{s:My}{h':Nz}
def Cx.Ok.nofr (ok:X.Ok)(e:X.base.get? b=gV o):b∉X.fs:=λa=>by
 have:=(ok.funs.mem a).1;rw[e]at this;cases this
def Inv.bs (I:Inv X J Y H s):∀b o,X.base.get? b=gV o->s.heap.get? b=gV o/\H b=td:=λb o e=>
 #[I.base.keep b o (I.ok.bs b o e).1 (I.ok.bs b o e).2 (I.ok.nofr e) (I.ok.noex b o e),I.base.free b o (I.ok.bs b o e).1 (I.ok.bs b o e).2 (I.ok.noex b o e)]
def Inv.bk (I:Inv X J Y H s):∀b o,X.base.get? b=gV o->s.heap.get? b=gV o:=λb o e=>(I.bs b o e).1
def Inv.mod (I:Inv X J Y H s):Mod X.K X.mg X.base:=I.ok.mod
def Inv.kIn (I:Inv X J Y H s):X.K.In s.heap:=I.ok.mod.kin.keeps I.bk
def Inv.lt (I:Inv X J Y H s):X.env.locals<⇑s.heap.objs:=let ⟨_,hn,_⟩:=I.loc;hn.lt
def Inv.sz (I:Inv X J Y H s):⇑X.s₀.heap.objs<=⇑s.heap.objs:=M1 I.ok.above (Pe I.lt)
def Inv.nofs (I:Inv X J Y H s){a:MF}(h:⇑s.heap.objs<=a):a∉X.fs:=λb=>by
 obtain⟨_,o,c,_⟩:=I.ok.funs.mem b;show absurd (MU (MW c) (M1 I.sz h)) (NZ _)
def Inv.cne (I:Inv X J Y H s):∀x c,X.env.cells.lookup x=gV c->c≠X.env.locals:=λx c e z=>by
 obtain⟨v,o,d,hd⟩:=I.cell x c e;obtain⟨m,⟨g,es,f,b,a,_⟩,_⟩:=I.loc;rw[z,b]at d;cases d;rw[a]at hd;cases hd
def Inv.funs (I:Inv X J Y H s):s.heap.FunFrames X.base X.outer:=by
 have all:∀l,(∀b∈uM l,b∈X.fs)->X.s₀.heap.FunFrames X.base l->s.heap.FunFrames X.base l:=by
  intro l
  induction l with
  |nil=>intro _ _;trivial
  |cons env r ih=>
   intro f hl;obtain⟨hk,⟨L,o,d,g,h,hd⟩,i⟩:=hl;have a:=f L (by unfold uM;rw[Qb,d];show OB)
   obtain⟨j,e⟩:=I.base.slot L o h (I.ok.frf L a) a λz=>I.ok.exfs L z a
   show#[hk,#[L,_,d,g,e,hd],ih (λb c=>f b (by unfold uM;rw[Qb,d];show NX _ c)) i]
 show all _ (λ_ c=>c) I.ok.funs
def Inv.stack (I:Inv X J Y H s):s.heap.FunFrames X.base X.stack:=by
 rcases I.ok.stk with e|⟨e,a⟩
 ·rw[e];show I.funs
 ·rw[e];obtain⟨m,b,_⟩:=I.loc;show .cons (by rw[I.ok.kind];decide) a b ?_ I.funs
  show Heap.get?_none_of_le (M1 I.ok.bsz I.ok.above)
def Inv.stkSub (I:Inv X J Y H s):∀b∈uM X.stack,b∈X.env.locals::X.fs:=λb a=>by
 rcases I.ok.stk with e|⟨e,c⟩
 ·rw[e]at a;show NX _ a
 ·rw[e]at a;unfold uM at a;rw[Qb,c]at a;show a
def Inv.stkFree (I:Inv X J Y H s):∀b∈uM X.stack,H b=td:=λb a=>by
 rcases M5.mp (I.stkSub b a)with e|a
 ·rw[e];show I.free
 ·obtain⟨_,o,c,_⟩:=I.ok.funs.mem a;show I.base.free b o c (I.ok.frf b a) λz=>I.ok.exfs b z a
def Inv.step {ch:Mq MF}(I:Inv X J Y H s)
  (g:∀b∈ch,(b∈X.ex\/⇑X.s₀.heap.objs<=b)/\b≠X.env.locals/\(∀x c,X.env.cells.lookup x=gV c->c≠b)/\∀p∈X.pn++J,p.1≠b)
  (keep:∀b o,b≠X.env.locals->b∉X.fs->b∉ch->s.heap.get? b=gV o->H b=td->h'.get? b=gV o)
  (slot:∀b o,b≠X.env.locals->b∈X.fs->b∉ch->s.heap.get? b=gV o->H b=td->∃G,h'.get? b=gV {o with slots:=G}) (free:∀b o,b∉ch->s.heap.get? b=gV o->H b=td->H' b=td)
  (there:∀b o,b∉ch->s.heap.get? b=gV o->∃D,h'.get? b=gV D)
  (tups:∀b xs,H b=gV (.tup xs)->H' b=gV (.tup xs)) (frzs:∀b o u,H b=gV (.frz o u)->H' b=gV (.frz o u)) (tbls:∀b ps,H b=gV (.tbl ps)->∃B,H' b=gV (.tbl (ps++B)))
  (T:∀m,s.heap.Ns X.env.locals m->h'.Ns X.env.locals m) (E:HOk X.prog X.w H' h') (P:Rs g') :
  Inv X J Y H' {s with heap:=h',gens:=g',drawn:=d',toks:=t'}:=by
 have C:∀b o,X.s₀.heap.get? b=gV o->b≠X.env.locals:=λb o e=>M3 (MU (MW e) I.ok.above)
 have t:∀b o,X.s₀.heap.get? b=gV o->b∉X.ex->b∉ch:=λb o e a w=>by
  rcases(g b w).1 with z|z
  ·show a z
  ·show absurd (MU (MW e) z) (NZ _)
 have f:∀x c,X.env.cells.lookup x=gV c->∀v,s.heap.IsCell c v->h'.IsCell c v:=λx c e v #[o,y,hd]=>by
  have h:c∉ch:=λz=>(g c z).2.2.1 x c e rfl
  by_cases hc:c∈X.fs
  ·obtain⟨G,q⟩:=slot c o (I.cne x c e) hc h y (I.freeC x c e);show#[_,q,hd]
  ·show#[o,keep c o (I.cne x c e) hc h y (I.freeC x c e),hd]
 show#[I.ok,I.os,P,#[λb o e n w a=>?_,λb o e n w a=>?_,λb o e n a=>?_,λb o e a=>?_,λb xs e=>tups b xs (I.base.tups b xs e),λb o xs e=>frzs b o xs (I.base.frzs b o xs e),λb ps e=>?_],?_,λx c e=>?_,?_,λx c e=>?_,λp M=>?_,E,I.len]
 ·show keep b o (C b o e) w (t b o e a) (I.base.keep b o e n w a) (I.base.free b o e n a)
 ·obtain⟨G,j⟩:=I.base.slot b o e n w a;obtain⟨L,A⟩:=slot b _ (C b o e) w (t b o e a) j (I.base.free b o e n a);show#[L,A]
 ·obtain⟨D,j⟩:=I.base.there b o e a;show free b D (t b o e a) j (I.base.free b o e n a)
 ·obtain⟨D,j⟩:=I.base.there b o e a;show there b D (t b o e a) j
 ·obtain⟨R,j⟩:=I.base.tbls b ps e;obtain⟨S,A⟩:=tbls b _ j;show#[R++S,by rw[A,Tc]]
 ·obtain⟨m,Q,hl⟩:=I.loc;show#[m,T m Q,λi x v j A O=>?_]
  obtain⟨u,r,l⟩:=hl i x v j A O;show#[u,r,?_];rcases l with l|⟨k,c,e,z⟩
  ·show .inl l
  ·show .inr #[k,c,e,f x c e _ z]
 ·obtain⟨v,z⟩:=I.cell x c e;show#[v,f x c e v z]
 ·obtain⟨m,⟨o,_,_,y,_⟩,_⟩:=I.loc;show free _ o (λz=>(g _ z).2.1 rfl) y I.free
 ·obtain⟨v,o,y,hd⟩:=I.cell x c e;show free c o (λz=>(g c z).2.2.1 x c e rfl) y (I.freeC x c e)
 ·obtain⟨e,n,ne,N,d⟩:=I.pin p M;have h:p.1∉ch:=λz=>(g p.1 z).2.2.2 p M rfl
  show#[keep p.1 p.2 ne N h e n,free p.1 p.2 h e n,ne,N,d]
def Inv.un (I:Inv X J Y H s)(u:Un X.fs [] H H' s.heap h')(g:HOk X.prog X.w H' h'):Inv X J Y H' {s with heap:=h',toks:=t'}:=by
 obtain⟨m,⟨o,es,l,h,r⟩,_⟩:=id I.loc;obtain⟨t,i⟩:=u.any h I.free (by simp)
 show I.step (g':=s.gens) (d':=s.drawn) (ch:=[]) (λ_ z=>nomatch z) (λb o _ f _ e n=>u.keep b o e n f (by simp)) (λb o _ f _ e n=>u.slot b o e n f (by simp)) (λb o _ e n=>u.free b o e n (by simp)) (λb o _ e=>u.there b o e (by simp)) u.tups u.frzs u.tbls (λp j=>by
  obtain⟨q,d,c,a,k⟩:=j;rw[h]at a;cases a
  show#[_,d,c,i,k]) g I.bare
def Inv.call (I:Inv X J Y H s)(u:Un (uM X.stack) ch H H' s.heap h')(i:HOk X.prog X.w H' h')(l:Rs g')
  (a:∀b∈ch,(b∈X.ex\/⇑X.s₀.heap.objs<=b)/\b≠X.env.locals/\(∀x c,X.env.cells.lookup x=gV c->c≠b)/\∀p∈X.pn++J,p.1≠b) :
  Inv X J Y H' {s with heap:=h',gens:=g',drawn:=d',toks:=t'}:=by
 obtain⟨m,⟨o,es,v,j,r⟩,_⟩:=id I.loc;obtain⟨A,h⟩:=u.any j I.free λz=>(a _ z).2.1 rfl
 show I.step (ch:=ch) a (λb o h k hc e n=>u.keep b o e n (λz=>(M5.mp (I.stkSub b z)).elim h k) hc) (λb o _ _ hc e n=>u.any e n hc) (λb o hc e n=>u.free b o e n hc) (λb o hc e=>u.there b o e hc) u.tups u.frzs u.tbls (λw q=>by
  obtain⟨y,g,f,d,t⟩:=q;rw[j]at d;cases d
  show#[_,g,f,h,t]) i l
def Inv.turned (I:Inv X J Y H s)(k:∀b o,b≠it->s.heap.get? b=gV o->h'.get? b=gV o)(t:H it=td)(d:it≠X.env.locals)
  (g:it∈X.ex\/⇑X.s₀.heap.objs<=it) (h:∀x c,X.env.cells.lookup x=gV c->c≠it) (i:∀p∈X.pn++J,p.1≠it):Inv X J Y H {s with heap:=h',toks:=t'}:=by
 have a:∀b u,H b=gV u->b≠it:=λb u e z=>by rw[z,t]at e;cases e
 show I.step (g':=s.gens) (d':=s.drawn) (ch:=[it]) (λb j=>?_) (λb o _ _ hc e _=>k b o (λz=>hc (by simp[z])) e) (λb o _ _ hc e _=>#[o.slots,k b o (λz=>hc (by simp[z])) e]) (λ_ _ _ _ n=>n)
  (λb o hc e=>#[o,k b o (λz=>hc (by simp[z])) e]) (λ_ _ e=>e) (λ_ _ _ e=>e) (λb ps e=>#[#[],by rw[e];simp]) (λm l=>?_) (λb u e=>?_) I.bare
 ·have e:b=it:=by simpa using j
  subst e;show#[g,d,h,i]
 ·obtain⟨o,es,f,w,r⟩:=l;show#[o,es,f,k _ o (Ne.symm d) w,r]
 ·show(I.hok b u e).stay (λc v hc q=>k c v ?_ q) (λ_ q=>q) λ_ _ q=>q
  rcases hc with z|z
  ·rw[z];show a b u e
  ·show a c _ z
def Inv.tok (I:Inv X J Y H s)(t:Mz):Inv X J Y H {s with toks:=t}:=I.un   Un.refl I.hok
def Inv.kept (I:Inv X J Y H s)(k:∀b u,s.heap.get? b=gV u->h'.get? b=gV u):Inv X J Y H {s with heap:=h',toks:=t'}:=I.un (Un.kept k) (I.hok.kept k)
def Inv.laid {a:MF}(I:Inv X J Y H s)(k:∀b u,s.heap.get? b=gV u->h'.get? b=gV u)(c:⇑s.heap.objs<=a)(new:ObjOk X.prog X.w (bK H a o) h' a o) :
  Inv X J Y (bK H a o) {s with heap:=h',toks:=t'}:=I.un (Un.laid k c (I.hok.fresh c)) (I.hok.laid k c new)
def Inv.write (I:Inv X J Y H s)(d:Ig (H x))(c:e=x\/H e=gV (.own x))(k:∀b u,b≠e->s.heap.get? b=gV u->h'.get? b=gV u)(a:∃u,h'.get? e=gV u)
  (new:ObjOk X.prog X.w (bK H x o) h' x o):Inv X J Y (bK H x o) {s with heap:=h',toks:=t'}:=I.un (Un.write d c k a) (I.hok.write d c k a new)
def Inv.pins_of (I:Inv X J Y H s)(h:∀p∈a,s.heap.get? p.1=gV p.2/\H p.1=td/\p.1≠X.env.locals/\p.1∉X.fs/\∀v,p.2.data≠.cell v):Inv X a Y H s:=
 #[I.ok,I.os,I.bare,I.base,I.loc,I.cell,I.free,I.freeC,λp b=>(Na.mp b).elim (λz=>I.pin p (NA _ z)) (h p),I.hok,I.len]
def qo {N:Mq M2}(e:N.Nodup){ j:Mz}(a:N[i]?=gV x)(b:N[j]?=gV x):i=j:=by
 obtain⟨f,c⟩:=MP.mp a;obtain⟨g,d⟩:=MP.mp b;show(Od e).mp (c.trans d.symm)
def wz (I:Inv X J Y H s)(hN:X.N.Nodup)(hi:X.N[i]?=gV x)(t:B3 X.env.scope x)(r:RelV v u)
  (h:∀s',Inv X J (Y.set i (gV v)) H s'->(∃a,Pf a s.heap s'.heap/\(a=X.env.locals\/X.env.cells.lookup x=gV a))->Q () s') (hf:X.fn x=true\/X.env.scope.names.lookup x=gV .local):wpAny T A (storeName X.env x u) Q E s:=by
 obtain⟨m,W,hl⟩:=id I.loc;have N:(X.env.scope.kind==.class||(X.env.scope.kind==.module&&X.env.locals != X.env.globals))=false:=by rw[I.ok.kind];rfl
 have hiσ:i<↥Y:=by rw[I.len];show(MP.mp hi).1
 have cne:=I.cne;have l:∀{a:MF}{h':Nz},(∃o,s.heap.get? a=gV o/\H a=td)->Pf a s.heap h'->HOk X.prog X.w H h':=λ{a h'} ha f b ob e=>by
  obtain⟨_,_,w⟩:=ha;show(I.hok b ob e).stay (λc S hc q=>(f.2 c ?_).trans q) (λ_ q=>q) λ_ _ q=>q
  rintro rfl;rcases hc with rfl|hc
  ·rw[w]at e;cases e
  ·rw[w]at hc;cases hc
 rcases t with hk|hk
 ·show wpAny_storeName_local hk W (λh' Z f=>?_) N
  obtain⟨oL,_,_,hoL,_⟩:=id W;show h _ #[I.ok,I.os,I.bare,#[λb o e n C t=>?_,λb o e n C t=>?_,I.base.free,λb o e t=>?_,I.base.tups,I.base.frzs,I.base.tbls],#[_,Z,λj y v' g B U=>?_],λy c e=>?_,I.free,I.freeC,λp hp=>?_,l #[oL,hoL,I.free] f,by simpa using I.len] #[_,f,.inl rfl]
  ·show(f.2 b (M3 (MU (MW e) I.ok.above))).trans (I.base.keep b o e n C t)
  ·obtain⟨sl,g⟩:=I.base.slot b o e n C t;show#[sl,(f.2 b (M3 (MU (MW e) I.ok.above))).trans g]
  ·obtain⟨o',g⟩:=I.base.there b o e t;show#[o',(f.2 b (M3 (MU (MW e) I.ok.above))).trans g]
  ·by_cases G:j=i
   ·subst G;rw[hi]at g;cases g
    rw[RL hiσ]at B;cases B;show#[u,r,.inl #[hk,by simp]]
   ·rw[Sq (Ne.symm G)]at B;obtain⟨u',r',q⟩:=hl j y v' g B U;show#[u',r',?_];rcases q with⟨k,e⟩|⟨k,c,e,z⟩
    ·show .inl #[k,?_];have:y≠x:=λe=>G (qo hN g (e▸hi))
     simp[this,e]
    ·show .inr #[k,c,e,z.sameBut f (cne y c e)]
  ·obtain⟨S,z⟩:=I.cell y c e;show#[S,z.sameBut f (cne y c e)]
  ·obtain⟨e,n,ne,nf,d⟩:=I.pin p hp;show#[(f.2 p.1 ne).trans e,n,ne,nf,d]
 ·have D:X.fn x=true:=by
   rcases hf with z|z
   ·show z
   ·rw[z]at hk;cases hk
  obtain⟨c,hc⟩:=I.ok.has x (.inl hk);obtain⟨S,z⟩:=I.cell x c hc;show wpAny_storeName_cell I.ok.kind hk hc z (λh' L f=>?_)
  obtain⟨oc,O,P⟩:=id z;show h {s with heap:=h'} #[I.ok,I.os,I.bare,#[λb o e n C t=>?_,λb o e n C t=>?_,I.base.free,λb o e t=>?_,I.base.tups,I.base.frzs,I.base.tbls],#[m,W.sameBut f (Ne.symm (cne x c hc)),λj y v' g B U=>?_],λy R e=>?_,I.free,I.freeC,λp hp=>?_,l #[oc,O,I.freeC x c hc] f,by simpa using I.len] #[c,f,.inr hc]
  ·show(f.2 b (M3 (MU (MW e) (I.ok.cab x c D hc)))).trans (I.base.keep b o e n C t)
  ·obtain⟨sl,g⟩:=I.base.slot b o e n C t;show#[sl,(f.2 b (M3 (MU (MW e) (I.ok.cab x c D hc)))).trans g]
  ·obtain⟨o',g⟩:=I.base.there b o e t;show#[o',(f.2 b (M3 (MU (MW e) (I.ok.cab x c D hc)))).trans g]
  ·by_cases G:j=i
   ·subst G;rw[hi]at g;cases g
    rw[RL hiσ]at B;cases B;show#[u,r,.inr #[.inl hk,c,hc,L]]
   ·rw[Sq (Ne.symm G)]at B;obtain⟨u',r',q⟩:=hl j y v' g B U;show#[u',r',?_];rcases q with q|⟨k,R,e,z'⟩
    ·show .inl q
    ·show .inr #[k,R,e,z'.sameBut f ?_];rintro rfl;show G (qo hN g (I.ok.inj _ _ _ e hc▸hi))
  ·by_cases M:R=c
   ·subst M;show#[_,L]
   ·obtain⟨w2,z2⟩:=I.cell y R e;show#[w2,z2.sameBut f M]
  ·obtain⟨e,n,ne,nf,d⟩:=I.pin p hp;show#[(f.2 p.1 ?_).trans e,n,ne,nf,d];intro q;rw[q,O]at e;have q':oc=p.2:=NE e;show d S (by rw[<- q'];show P)
def iF (I:Inv X J Y H s)(d:X.N.Nodup)(hi:X.N[i]?=gV x)(f:B3 X.env.scope x)(r:RelV v u)
  (h:∀a,Inv X J (Y.set i (gV v)) H a->Q () a) (e:X.fn x=true\/X.env.scope.names.lookup x=gV .local):wpAny b A (storeName X.env x u) Q E s:=
 wz I d hi f r (λa c _=>h a c) e
def Inv.call' (I:Inv X J Y H s)(h:a.os=s.os)(u:Un (uM X.stack) ch H H' s.heap a.heap)(f:HOk X.prog X.w H' a.heap)(g:Rs a.gens)
  (d:∀b∈ch,(b∈X.ex\/⇑X.s₀.heap.objs<=b)/\b≠X.env.locals/\(∀x c,X.env.cells.lookup x=gV c->c≠b)/\∀p∈X.pn++J,p.1≠b):Inv X J Y H' a:=by
 obtain⟨h',g',d',t',i⟩:=a;have e:i=s.os:=h;subst e;show I.call (g':=g') (t':=t') (d':=d') u f g d
end
noncomputable abbrev XK:=Mu->MA MF->Hp->Prop
noncomputable abbrev St:=Mq (MA V)
noncomputable abbrev VK:=V->Hp->Prop
noncomputable abbrev TE:=St->Hp->VK->Prop
noncomputable abbrev TT:=St->Hp->(M9->Hp->Prop)->Prop
noncomputable abbrev TA:=St->Hp->(Mq V->Hp->Prop)->Prop
structure Ends where
 nx:St->Hp->Prop
 rt:VK
 bk:St->Hp->Prop:=λ_ _=>N6
 ct:St->Hp->Prop:=λ_ _=>N6
noncomputable abbrev TS:=Ends->St->Hp->Prop
inductive EP (X:Cx)(J:Mq (MF×Of))(Y:St)(Q:VK)(u:Mu)(s':My):Prop
 |mk (v:V) (H':Hp) (i:Inv X J Y H' s') (r:RelV v u) (q:Q v H'):EP X J Y Q u s'
inductive TP (X:Cx)(J:Mq (MF×Of))(Y:St)(Q:M9->Hp->Prop)(b:M9)(s':My):Prop
 |mk (H':Hp) (i:Inv X J Y H' s') (q:Q b H'):TP X J Y Q b s'
inductive AP (X:Cx)(J:Mq (MF×Of))(Y:St)(Q:Mq V->Hp->Prop)(us:Mq Mu)(s':My):Prop
 |mk (vs:Mq V) (H':Hp) (i:Inv X J Y H' s') (r:Vals vs us) (q:Q vs H'):AP X J Y Q us s'
abbrev SP (X:Cx)(J:Mq (MF×Of))(D:Ends)(f:Flow)(c:My):Prop:=
 match f with
 |.next=>∃b a,Inv X J b a c/\D.nx b a
 |.brk=>∃b a,Inv X J b a c/\D.bk b a
 |.cont=>∃b a,Inv X J b a c/\D.ct b a
 |.ret u=>∃v b a,Inv X J b a c/\RelV v u/\D.rt v a
abbrev PE (X:Cx)(e:M7)(t:TE):Prop:=
 ∀(J:Mq (MF×Of)) (s:My) (Y:St) (H:Hp) (Q:VK),Inv X J Y H s->t Y H Q->wpAny (model X.prog X.w) X.A (eval e X.env) (EP X J Y Q) X.xe s
abbrev PT (X:Cx)(e:M7)(t:TT):Prop:=
 ∀(J:Mq (MF×Of)) (s:My) (Y:St) (H:Hp) (Q:M9->Hp->Prop),Inv X J Y H s->t Y H Q->wpAny (model X.prog X.w) X.A (isTrue e X.env (eval e X.env)) (TP X J Y Q) X.xe s
abbrev PW (X:Cx)(e:M7)(t:TT):Prop:=
 ∀(a:Vn Mu) (J:Mq (MF×Of)) (s:My) (Y:St) (H:Hp) (Q:M9->Hp->Prop),Inv X J Y H s->t Y H Q->wpAny (model X.prog X.w) X.A (isTrue e X.env a) (TP X J Y Q) X.xe s
def PW.pt (h:PW X e t):PT X e t:=h _
abbrev PA (X:Cx)(es:Mq M7)(t:TA):Prop:=
 ∀(pos:OX) (J:Mq (MF×Of)) (s:My) (Y:St) (H:Hp) (Q:Mq V->Hp->Prop),Inv X J Y H s->t Y H Q->wpAny (model X.prog X.w) X.A (spliced (backTo pos (starEach es X.env))) (AP X J Y Q) X.xe s
abbrev PS (X:Cx)(st:Pq)(t:TS):Prop:=
 ∀(J:Mq (MF×Of)) (s:My) (Y:St) (H:Hp) (D:Ends),Inv X J Y H s->t D Y H->wpAny (model X.prog X.w) X.A (exec st X.env) (SP X J D) X.xe s
abbrev PSs (X:Cx)(st:Mq Pq)(t:TS):Prop:=
 ∀(J:Mq (MF×Of)) (s:My) (Y:St) (H:Hp) (D:Ends),Inv X J Y H s->t D Y H->wpAny (model X.prog X.w) X.A (execs st X.env) (SP X J D) X.xe s
def bh (h:wpAny b A t Q E s)(d:∀a s,Q a s->c a s):wpAny b A t c E s:=Op h d λ_ _ x=>x
section
variable{X:Cx}
abbrev Fo (i:Mz):TE:=λY H Q=>∃v,Y[i]?=gV (gV v)/\Q v H
abbrev tC (v:V):TE:=λ_ H Q=>Q v H
def yi {pos:OX}(d:X.N[i]?=gV x)(j:Kl X.env.scope x)(hd:(x==("__debug__"))=false:=by decide)(b:(x==("__classdict__"))=false:=by decide):PE X (.Name x pos) (Fo i):=by
 intro J s Y H Q I h;obtain⟨v,e,h⟩:=h;obtain⟨m,g,hl⟩:=I.loc;obtain⟨u,r,l⟩:=hl i x v d e j;have fin:EP X _ Y Q u s:=#[v,H,I,r,h];rcases l with⟨hk,f⟩|⟨hk,c,hc,a⟩
 ·show UB (wpAny_loadName_local I.ok.kind hk g f fin) hd
 ·rcases hk with hk|hk
  ·show UB (wpAny_loadName_cell I.ok.kind hk hc a fin) hd
  ·show UB (wpAny_loadName_free I.ok.kind hk hc a fin b) hd
def yj {  pos}:PE X (.Constant (.int i) j pos) (tC (.int i)):=λ_ _ _ H _ I h=>wpAny_Constant_int #[.int i,H,I.tok _,#[_,rfl],h]
def Ey {  pos}:PE X (.Constant (.bool b) j pos) (tC (.bl b)):=λ_ _ _ H _ I h=>Constant_bool #[.bl b,H,I,rfl,h]
def yk { pos}:PE X (.Constant .none j pos) (tC .non):=λ_ _ _ H _ I h=>Constant_none #[.non,H,I,rfl,h]
def ym {  pos}:PE X (.Constant (.str x) j pos) (tC (.str x)):=λ_ _ _ H _ I h=>Td #[.str x,H,I.tok _,#[_,rfl],h]
abbrev Gl (X:Cx)(x:M2):Prop:=X.env.kindOf x=gV .globalImplicit
def uN {Y:St}(I:Inv X J Y H s)(a:Gl X x)(b:X.mg x=gV u)(h:Q u s)
  (hd:(x==("__debug__"))=false:=by decide):wpAny (model X.prog X.w) X.A (eval (.Name x pos) X.env) Q E s:=
 Ra I.ok.kind a (Calls.loadGlobal_global (by rw[I.ok.glob];show I.mod.glob.keeps I.bk) b h) hd
def eM {E:Mu->My->Prop}{Y:St}{pos:OX}(I:Inv X J Y H s)(c:Gl X x)(d:X.mg x=td)(f:bootBuiltins x=gV u)(h:Q u s)
  (e:x≠"__name__":=by decide) (hd:(x==("__debug__"))=false:=by decide):wpAny (model X.prog X.w) X.A (eval (.Name x pos) X.env) Q E s:=by
 obtain⟨g,a,b⟩:=I.mod.blt;show Ra I.ok.kind c (Calls.loadGlobal_builtin (by rw[I.ok.glob];show I.mod.glob.keeps I.bk) d (by rw[I.ok.blt];show a.keeps I.bk) ((b x e).trans f) h) hd
def B4 {pos:OX}(a:Gl X x)(b:X.mg x=td)(d:bootBuiltins x=gV u)(r:RelV v u)(c:x≠"__name__":=by decide)(hd:(x==("__debug__"))=false:=by decide):PE X (.Name x pos) (tC v):=
 λ_ _ _ H _ I h=>eM I a b d #[v,H,I,r,h] c hd
variable{a b:M7}{ta tb:TE}{pos:OX}
variable{tA tB':TT}{cj:Mq M7}
abbrev Ih (t u:TT):TT:=λY H Q=>t Y H λc a=>if c=true then u Y a Q else Q false a
abbrev LP (t u:TT):TT:=λY H Q=>t Y H λc a=>if c=true then Q true a else u Y a Q
abbrev Ky (t:TT):TT:=λY H Q=>t Y H λc a=>Q (!c) a
def B5 (b:PT X a tA):PW X (.BoolOp .And [a] pos) tA:=by
 intro f J s Y H Q I h;show isTrue_and (bh (b _ s Y H Q I h) λc d e=>?_)
 cases c with
 |true=>show isTrue_and_nil e
 |false=>show e
def Fp (b:PT X a tA):PW X (.BoolOp .Or [a] pos) tA:=by
 intro f J s Y H Q I h;show isTrue_or (bh (b _ s Y H Q I h) λc d e=>?_)
 cases c with
 |false=>show isTrue_or_nil e
 |true=>show e
def Fq (e:PT X a tA)(f:PW X (.BoolOp .And (b::cj) pos) tB'):PW X (.BoolOp .And (a::b::cj) pos) (Ih tA tB'):=by
 intro i J s Y H Q I h;show isTrue_and (bh (e _ s Y H _ I h) λc g #[d,I1,q1]=>?_)
 cases c with
 |true=>show f i _ g Y d Q I1 q1
 |false=>show#[d,I1,q1]
def Ii (e:PT X a tA)(f:PW X (.BoolOp .Or (b::cj) pos) tB'):PW X (.BoolOp .Or (a::b::cj) pos) (LP tA tB'):=by
 intro i J s Y H Q I h;show isTrue_or (bh (e _ s Y H _ I h) λc g #[d,I1,q1]=>?_)
 cases c with
 |true=>show#[d,I1,q1]
 |false=>show f i _ g Y d Q I1 q1
def Fs (d:PT X a tA):PT X (.UnaryOp .Not a pos) (Ky tA):=by
 intro J s Y H Q I h;show isTrue_not (bh (d _ s Y H (λc b=>Q _ b) I h) λ_ _ #[b,i,q]=>#[b,i,q])
abbrev Ij (ta tb:TE):TE:=λY H Q=>ta Y H λx a=>∃c,x=.bl c/\if c=true then tb Y a Q else Q (.bl false) a
abbrev Kz (ta tb:TE):TE:=λY H Q=>ta Y H λx a=>∃c,x=.bl c/\if c=true then Q (.bl true) a else tb Y a Q
abbrev Ik (ta:TE):TE:=λY H Q=>ta Y H λx a=>∃c,x=.bl c/\Q (.bl (!c)) a
def Ft {op}(h:PE X a t):PE X (.BoolOp op [a] pos) t:=λJ s Y H Q I hw=>BoolOp_one (h _ s Y H Q I hw)
def Fu (e:PE X a ta)(f:PE X (.BoolOp .And (b::cj) pos) tb):PE X (.BoolOp .And (a::b::cj) pos) (Ij ta tb):=by
 intro J s Y H Q I h;show BoolOp_and (bh (e _ s Y H _ I h) λv g #[x,H1,I1,r1,d]=>?_)
 obtain⟨c,rfl,d⟩:=d;cases r1;show Oe ?_;cases c with
 |true=>show f _ g Y H1 Q I1 d
 |false=>show#[.bl _,H1,I1,rfl,d]
def Il (e:PE X a ta)(f:PE X (.BoolOp .Or (b::cj) pos) tb):PE X (.BoolOp .Or (a::b::cj) pos) (Kz ta tb):=by
 intro J s Y H Q I h;show BoolOp_or (bh (e _ s Y H _ I h) λv g #[x,H1,I1,r1,d]=>?_)
 obtain⟨c,rfl,d⟩:=d;cases r1;show Oe ?_;cases c with
 |false=>show f _ g Y H1 Q I1 d
 |true=>show#[.bl _,H1,I1,rfl,d]
def Fv (d:PE X a ta):PE X (.UnaryOp .Not a pos) (Ik ta):=by
 intro J s Y H Q I h;show UnaryOp_ (bh (d _ s Y H _ I h) λv e #[x,H1,I1,r1,b]=>?_)
 obtain⟨c,rfl,b⟩:=b;cases r1;show not_of (Oe #[.bl _,H1,I1,rfl,b])
abbrev L9 (t:TT)(ta tb:TE):TE:=λY H Q=>t Y H λc a=>if c=true then ta Y a Q else tb Y a Q
def yn (hc:PT X c tA)(g:PE X a ta)(i:PE X b tb):PE X (.IfExp c a b pos) (L9 tA ta tb):=by
 intro J s Y H Q I h;show wpAny_IfExp (bh (hc _ s Y H _ I h) λd f #[e,I1,q1]=>?_)
 cases d with
 |true=>show g _ f Y e Q I1 q1
 |false=>show i _ f Y e Q I1 q1
end
abbrev SqL (K:MO)(H:Hp)(a:MF)(xs:Mq V):Prop:=
 Rd H a (.lst xs)\/
  ∃(o:Of) (its:NH Mu) (n:Mz),K.lookup a=gV o/\o.cls=.type "list"/\o.dict=td/\o.data=.seq its n/\⇑its<=sizeLine/\Vals xs its.toList
abbrev SqT (K:MO)(H:Hp)(a:MF)(xs:Mq V):Prop:=
 Rd H a (.tup xs)\/
  ∃(o:Of) (its:NH Mu) (n:Mz),K.lookup a=gV o/\o.cls=.type "tuple"/\o.dict=td/\o.data=.seq its n/\⇑its<=sizeLine/\Vals xs its.toList
abbrev KA:Mu->MA V
 |.none=>gV .non
 |.bool b=>gV (.bl b)
 |.int i _=>gV (.int i)
 |.str x _=>gV (.str x)
 |.bytes b _=>gV (.byt b)
 |.float b _=>gV (.flt b)
 |.ref a=>gV (.ref a)
 |.type n=>gV (.ty n)
 |_=>td
def RelV.abs (r:RelV x u):KA u=gV x:=by
 cases x with
 |non=>cases r;rfl
 |bl _=>cases r;rfl
 |int _=>obtain⟨t,rfl⟩:=r;rfl
 |str _=>obtain⟨t,rfl⟩:=r;rfl
 |byt _=>obtain⟨t,rfl⟩:=r;rfl
 |flt _=>obtain⟨t,rfl⟩:=r;rfl
 |ref _=>cases r;rfl
 |ty _=>cases r;rfl
def RelV.inj (r:RelV x u)(q:RelV y u):x=y:=NE (r.abs.symm.trans q.abs)
def Vals.inj:∀{xs ys:Mq V}{us:Mq Mu},Vals xs us->Vals ys us->xs=ys
 |_,_,_,.nil,.nil=>rfl
 |_,_,_,.cons r t,.cons a t'=>by rw[r.inj a,Vals.inj t t']
section
variable{X:Cx}{J:Mq (MF×Of)}{Y:St}{H:Hp}{s:My}{a:MF}{xs ys:Mq V}
def SqL.of {K:MO}(h:H a=gV (.lst xs)):SqL K H a xs:=.inl (.inl h)
def SqT.of {K:MO}(h:H a=gV (.tup xs)):SqT K H a xs:=.inl (.inl h)
def Inv.list (I:Inv X J Y H s)(h:SqL X.K H a xs):∃b:Mq Mu,Vals xs b/\PlainL s.heap a b.toArray/\↥xs<=sizeLine:=by
 rcases h with h|⟨o,b,n,hk,hc,hd,c,d,r⟩
 ·obtain⟨z,b,n,r,e⟩:=h.ok I.hok;show#[b,r,#[_,n,e,rfl,rfl,rfl],z]
 ·show#[b.toList,r,#[o,n,I.kIn a o hk,hc,hd,by simpa using c],?_]
  have e:=↥r;simp only[Nv]at e;omega
def Inv.tuple (I:Inv X J Y H s)(h:SqT X.K H a xs):∃b:Mq Mu,Vals xs b/\R1 s.heap a b.toArray/\↥xs<=sizeLine:=by
 rcases h with h|⟨o,b,n,hk,hc,hd,c,d,r⟩
 ·obtain⟨z,b,r,p⟩:=h.ok I.hok;show#[b,r,p,z.1]
 ·show#[b.toList,r,#[o,I.kIn a o hk,hc,n,by simpa using c],?_]
  have e:=↥r;simp only[Nv]at e;omega
def Inv.list_inj (I:Inv X J Y H s)(h:SqL X.K H a xs)(h':SqL X.K H a ys):xs=ys:=by
 obtain⟨c,r,⟨o,n,e,_,_,d⟩,_⟩:=I.list h;obtain⟨b,g,⟨j,i,f,_,_,d'⟩,_⟩:=I.list h';rw[e]at f;cases f
 rw[d]at d';injection d' with d1 _
 have:c=b:=by simpa using congrArg Ve d1
 subst this;show r.inj g
def Inv.tuple_inj (I:Inv X J Y H s)(h:SqT X.K H a xs)(h':SqT X.K H a ys):xs=ys:=by
 obtain⟨c,r,⟨o,e,_,n,d⟩,_⟩:=I.tuple h;obtain⟨b,g,⟨j,f,_,i,d'⟩,_⟩:=I.tuple h';rw[e]at f;cases f
 rw[d]at d';injection d' with d1 _
 have:c=b:=by simpa using congrArg Ve d1
 subst this;show r.inj g
end
noncomputable abbrev Cx.wish (X:Cx)(E:Mu->My->Prop):Cx:={X with xe:=E}
noncomputable abbrev Cx.nox (X:Cx):Cx:=X.wish λ_ _=>N6
def Cx.Ok.wish {X:Cx}(ok:X.Ok)(E:Mu->My->Prop):(X.wish E).Ok:=
 #[ok.mod,ok.kind,ok.glob,ok.blt,ok.above,ok.inj,ok.has,ok.cab,ok.hd,ok.frames,ok.stk,ok.exf,ok.bs,ok.bsz,ok.noex,ok.exfs,ok.funs,ok.frf]
def Cx.Ok.unwish {X:Cx}(ok:(X.wish E).Ok):X.Ok:=
 #[ok.mod,ok.kind,ok.glob,ok.blt,ok.above,ok.inj,ok.has,ok.cab,ok.hd,ok.frames,ok.stk,ok.exf,ok.bs,ok.bsz,ok.noex,ok.exfs,ok.funs,ok.frf]
section
variable{X:Cx}{J:Mq (MF×Of)}{Y:St}{H:Hp}{s:My}{E:Mu->My->Prop}
def Inv.wish (I:Inv X J Y H s)(E:Mu->My->Prop):Inv (X.wish E) J Y H s:=#[I.ok.wish E,I.os,I.bare,I.base,I.loc,I.cell,I.free,I.freeC,I.pin,I.hok,I.len]
def Inv.unwish (I:Inv (X.wish E) J Y H s):Inv X J Y H s:=#[I.ok.unwish,I.os,I.bare,I.base,I.loc,I.cell,I.free,I.freeC,I.pin,I.hok,I.len]
def SP.unwish (h:SP (X.wish E) J D f c):SP X J D f c:=by
 cases f with
 |next=>obtain⟨b,a,I,q⟩:=h;show#[b,a,I.unwish,q]
 |brk=>obtain⟨b,a,I,q⟩:=h;show#[b,a,I.unwish,q]
 |cont=>obtain⟨b,a,I,q⟩:=h;show#[b,a,I.unwish,q]
 |ret u=>obtain⟨v,b,a,I,r,q⟩:=h;show#[v,b,a,I.unwish,r,q]
def PSs.nox {st:Mq Pq}(h:PSs X.nox st t):PSs X st t:=λJ s Y H D I hw=>
 Op (h _ s Y H D (I.wish _) hw) (λ_ _ q=>q.unwish) λ_ _ z=>N6.elim z
end
section
variable{X:Cx}{st:Pq}{cj:Mq Pq}{t u:TS}{e:M7}{te:TE}{pos:OX}
abbrev yo:TS:=λD Y H=>D.nx Y H
abbrev KC (t u:TS):TS:=λD Y H=>t {D with nx:=u D} Y H
def B6:PSs X [] yo:=λ_ _ Y H _ I h=>R3 #[Y,H,I,h]
def yp (d:PS X st t)(e:PSs X cj u):PSs X (st::cj) (KC t u):=by
 intro J s Y H D I h;show wpAny_execs_cons (bh (d _ s Y H _ I h) λf g q=>?_)
 cases f with
 |next=>
  obtain⟨c,a,b,q⟩:=q;show e _ g c a D b q
 |ret v=>show q
 |brk=>show q
 |cont=>show q
abbrev Fw:TS:=λD Y H=>D.bk Y H
abbrev Im:TS:=λD Y H=>D.ct Y H
def B7:PS X (.Pass pos) yo:=λ_ _ Y H _ I h=>wpAny_Pass #[Y,H,I,h]
def yq:PS X (.Break pos) Fw:=λ_ _ Y H _ I h=>wpAny_Break #[Y,H,I,h]
def qp:PS X (.Continue pos) Im:=λ_ _ Y H _ I h=>wpAny_Continue #[Y,H,I,h]
def Inv.quiet {Y:St}(I:Inv X J Y H s):interactive X.env=false:=by simp[interactive,I.ok.kind]
def Fx {   pos'}:PS X (.Expr (.Constant (.str x) j pos) pos') yo:=λ_ s Y H _ I h=>wpAny_Expr (Td (show SP X _ _ .next {s with toks:=s.toks+1} from#[Y,H,I.tok _,h])) I.quiet
abbrev Io (te:TE):TS:=λD Y H=>te Y H λ_ a=>D.nx Y a
def B8 (a:PE X e te)(b:swapsWith e td pos.line X.env=pure false:=by rfl):PS X (.Expr e pos) (Io te):=by
 intro J s Y H D I h;show wpAny_Expr_any (bh (a _ s Y H _ I h) λv c #[x,H1,I1,r1,q1]=>#[Y,H1,I1,q1]) I.quiet b
abbrev KD (te:TE):TS:=λD Y H=>te Y H D.rt
def Fy (a:PE X e te):PS X (.Return (gV e) pos) (KD te):=by
 intro J s Y H D I h;show wpAny_Return_some (bh (a _ s Y H _ I h) λv b #[x,H1,I1,r1,q1]=>#[x,Y,H1,I1,r1,q1])
abbrev Ip:TS:=λD _ H=>D.rt .non H
def B9:PS X (.Return td pos) Ip:=λ_ _ Y H _ I h=>wpAny_Return_none #[.non,Y,H,I,rfl,h]
abbrev KF (c:TT)(t u:TS):TS:=λD Y H=>c Y H λb a=>if b=true then t D Y a else u D Y a
def Iq (hc:PT X c g)(i:PSs X a t)(j:PSs X b u):PS X (.If c a b pos) (KF g t u):=by
 intro J s Y H D I h;show wpAny_If (bh (hc _ s Y H _ I h) λd f #[e,I1,q1]=>?_)
 cases d with
 |true=>show i _ f Y e D I1 q1
 |false=>show j _ f Y e D I1 q1
end
noncomputable abbrev TG:=V->St->Hp->(St->Hp->Prop)->Prop
noncomputable abbrev Fz:=Mq V->St->Hp->(St->Hp->Prop)->Prop
abbrev PG (X:Cx)(a:M7)(t:TG):Prop:=
 ∀(J:Mq (MF×Of)) (s:My) (Y:St) (H:Hp) (v:V) (u:Mu) (Q:St->Hp->Prop),Inv X J Y H s->RelV v u->t v Y H Q->
  wpAny (model X.prog X.w) X.A (assign a X.env u) (λ_ d=>∃c b,Inv X J c b d/\Q c b) X.xe s
abbrev Ir (X:Cx)(ts:Mq M7)(t:Fz):Prop:=
 ∀(J:Mq (MF×Of)) (s:My) (Y:St) (H:Hp) (vs:Mq V) (us:Mq Mu) (Q:St->Hp->Prop),Inv X J Y H s->Vals vs us->t vs Y H Q->
  wpAny (model X.prog X.w) X.A (assignInOrder ((assignEach ts X.env).map (·.2)) us) (λ_ c=>∃b a,Inv X J b a c/\Q b a) X.xe s
noncomputable abbrev FB:=V->V->V->Hp->(Hp->Prop)->Prop
abbrev FC (X:Cx)(t:FB):Prop:=
 ∀(J:Mq (MF×Of)) (s:My) (Y:St) (H:Hp) (o i v:V) (ov iv u:Mu) (Q:Hp->Prop),Inv X J Y H s->RelV o ov->RelV i iv->RelV v u->t o i v H Q->
  wpAny (model X.prog X.w) X.A (setItem ov iv u) (λ_ b=>∃a,Inv X J Y a b/\Q a) X.xe s
section
variable{X:Cx}{pos:OX}
abbrev Iu (i:Mz):TG:=λv Y H Q=>Q (Y.set i (gV v)) H
def uO (b:X.N.Nodup)(hi:X.N[i]?=gV x)(d:B3 X.env.scope x)(c:X.fn x=true\/X.env.scope.names.lookup x=gV .local):PG X (.Name x pos) (Iu i):=by
 intro J s Y H v u Q I r h;show Tx (iF I b hi d r (λe a=>#[_,H,a,h]) c)
abbrev KG:Fz:=λvs Y H Q=>vs=[]/\Q Y H
abbrev Iv (t:TG)(u:Fz):Fz:=λvs Y H Q=>∃v r,vs=v::r/\t v Y H λb a=>u r b a Q
def Cb:Ir X [] KG:=by
 intro J s Y H vs us Q I r h;obtain⟨e,h⟩:=h;subst e;cases r;show Tz #[Y,H,I,h]
def yr (c:PG X e t)(d:Ir X es u)
  (f:(assignEach (e::es) X.env).map (·.2)=assign e X.env::(assignEach es X.env).map (·.2):=by rfl):Ir X (e::es) (Iv t u):=by
 intro J s Y H vs us Q I r h;obtain⟨v,j,b,h⟩:=h;subst b;cases r with
 |cons r g=>
  rw[f];show Rb (bh (c _ s Y H _ _ _ I r h) λ_ i #[a,H1,I1,q1]=>?_)
  show d _ i a H1 _ _ Q I1 g q1
abbrev KH (K:MO)(n:Mz)(t:Fz):TG:=λv Y H Q=>∃a xs,v=.ref a/\SqT K H a xs/\↥xs=n/\t xs Y H Q
def FD {k:Mz}(hc:X.calm=true)(h:Ir X es t)
  (i:(assignEach es X.env).length=n:=by rfl) (c:(assignEach es X.env).findIdx? (·.1)=td:=by rfl):PG X (.Tuple es k pos) (KH X.K n t):=by
 intro J s Y H v u Q I r hw;obtain⟨a,xs,g,j,hl,hw⟩:=hw;subst g;cases r;obtain⟨p,d,l,q⟩:=I.tuple j;show assign_Tuple_tuple (I.ok.hd hc) l (by simp[i,<- hl,↥d]) c λh' m=>?_
 have f:Inv X _ Y H {s with heap:=h'}:=I.kept  λb o e=>m b o (M3 (MW e)) e
 show h _ _ Y H xs _ Q f (by simpa using d) hw
abbrev KJ (e d:TE)(t:FB):TG:=λv Y H Q=>e Y H λo a=>d Y a λi b=>t o i v b λc=>Q Y c
def FH (g:PE X o d)(hi:PE X i c)(j:FC X t)
  (f:∀v,assign (.Subscript o i pos) X.env v=(do
   let a <- holding [v] (eval o X.env)
   let b <- holding [v,a] (eval i X.env)
   standAt pos
   holding [v,a,b] (setItem a b v)
   release [v,a,b] []):=by intro _;rfl):PG X (.Subscript o i pos) (KJ d c t):=by
 intro J s Y H v u Q I r h;rw[f];show Ms (N1 (bh (g _ s Y H _ I h) λa k #[x,H1,I1,r1,q1]=>?_))
 show Ms (N1 (bh (hi _ k Y H1 _ I1 q1) λb l #[y,H2,I2,r2,q2]=>?_))
 show Ms (QR (Ms (N1 (bh (j _ l Y H2 x y v a b u _ I2 r1 r2 r q2) λ_ m #[e,I3,q3]=>?_))))
 show wpAny_release #[Y,e,I3,q3]
abbrev KL (b:TE)(g:TG):TS:=λD Y H=>b Y H λx a=>g x Y a D.nx
def FJ (c:PE X e a)(d:PG X tg g)(f:swapsWithSole [tg] e pos.line X.env=pure false:=by rfl)(hw:swappedStores [tg] e X.env=pure td:=by rfl)
  (b:(assignEach [tg] X.env).map (·.2)=[assign tg X.env]:=by rfl):PS X (.Assign [tg] e pos) (KL a g):=by
 intro J s Y H D I h;show wpAny_Assign_stores (bh (c _ s Y H _ I h) λv i #[x,H1,I1,r1,q1]=>?_) f hw
 rw[b];show bh (d _ i Y H1 x v _ I1 r1 q1) λ_ j q=>q
abbrev KM (i j:Mz)(b:TA):TS:=λD Y H=>b Y H λvs a=>∃v w,vs=[v,w]/\D.nx ((Y.set i (gV v)).set j (gV w)) a
def FK {  pt2}(hc:X.calm=true)(t:X.N.Nodup)(hi:X.N[i]?=gV x)(M:X.N[j]?=gV y)(g:i≠j)
  (u:X.env.scope.names.lookup x=gV .local) (z:X.env.scope.names.lookup y=gV .local) (L:PA X [a,b] A)
  (hw:swappedStores [.Tuple [.Name x l,.Name y py] kt pt] (.Tuple [a,b] k2 pt2) X.env=pure (gV [x,y]))
  (N:swapsWithSole [.Tuple [.Name x l,.Name y py] kt pt] (.Tuple [a,b] k2 pt2) pos.line X.env=pure false:=by rfl) :
  PS X (.Assign [.Tuple [.Name x l,.Name y py] kt pt] (.Tuple [a,b] k2 pt2) pos) (KM i j A):=by
 intro J s Y H D I h;rw[exec_Assign_arm];show Ms (QR ?_);rw[N];show Ms (ME ?_);rw[Nm #v[]]
 show Ms (Tuple_ (bh (L _ J s Y H _ I h) λus c #[vs,H1,I1,r1,m]=>?_))
 obtain⟨v,w,G,m⟩:=m;subst G;obtain⟨d,f,rfl,Q,n⟩:∃d f,us=[d,f]/\RelV v d/\RelV w f:=by
  cases r1 with
  |cons p q=>
   cases q with
   |cons O P=>
    cases P;show#[_,_,rfl,p,O]
 show NO ?_ (by change 2<=sizeLine;decide)
 have B:Inv X J Y H1 {c with heap:=c.heap.push {cls:=.type "tuple",data:=.seq [d,f].toArray}}:=I1.kept (t':=c.toks) λb o e=>Mw _ e
 rw[hw];show Ms (ME ?_);change wpAny (model X.prog X.w) X.A (do rule "assign.swapped-stores";let items <- unpackItems (.ref ⇑c.heap.objs) 2 td;assignInOrder [λv=>bindName X.env y v,λv=>bindName X.env x v] items.reverse;pure VX) _ _ _
 show Ms (Rc (Ms (unpackItems_tuple (items:=[d,f].toArray) (I.ok.hd hc) (T5 c.heap _) λh' k=>?_)))
 have C:=B.kept (h':=h') (t':=c.toks) λb o e=>k b o (M3 (MW e)) e
 change wpAny _ _ (assignInOrder [λv=>bindName X.env y v,λv=>bindName X.env x v] [f,d] >>= λ_=>pure VX) _ _ _
 show Ms (Rb (UC (iF C t M (.inl z) n (λR E=>?_) (.inr z))))
 show Rb (UC (iF E t hi (.inl u) Q (λS r=>Tz (ME ?_)) (.inr u)))
 rw[List.set_comm _ _ (Ne.symm g)]at r;show#[_,H1,r,m]
abbrev FL (c:TT)(g:TS):TS:=λD Y H=>∃W:Mz->St->Hp->Prop,(∃m,W m Y H)/\∀m Y H,W m Y H->
 c Y H λb d=>if b=true then ∃N:St->Hp->Prop,(∀e a,N e a->∃f,f<m/\W f e a)/\g {D with nx:=N,ct:=N,bk:=D.nx} Y d else D.nx Y d
def yt (t:SK (model X.prog X.w) X.A X.env X.xe)(hc:PT X c w)(y:PSs X body u):PS X (.While c body [] pos) (FL w u):=by
 intro J s Y H D I h;obtain⟨W,⟨m0,C⟩,turn⟩:=h;show wpAny_While (codeAny_whileLoop (λn z=>∃q m,Inv X _ q m z/\W n q m) ?_ m0 #[Y,H,I,C])
 rintro n A ⟨e,o,x,E⟩;show Pc t (bh (hc _ A e o _ x (turn n e o E)) λb B #[p,I2,g]=>?_)
 cases b with
 |true=>
  obtain⟨N,r,g⟩:=g;show Pc t (bh (y _ B e p _ I2 g) λf G i=>?_)
  cases f with
  |next=>
   obtain⟨d,a,j,n3⟩:=i;obtain⟨l,k,w3⟩:=r d a n3;show#[l,k,d,a,j,w3]
  |cont=>
   obtain⟨d,a,j,n3⟩:=i;obtain⟨l,k,w3⟩:=r d a n3;show#[l,k,d,a,j,w3]
  |brk=>show i
  |ret v=>show i
 |false=>
  show R3 #[e,p,I2,g]
end
structure It where
 go:Mz->Hp->Prop
 yld:Mz->Hp->V->Hp->Prop
 stop:Mz->Hp->Prop
abbrev jh (X:Cx)(J:Mq (MF×Of))(H:Hp)(b:MF):Prop:=
 H b=td/\b≠X.env.locals/\b∉X.fs/\(b∈X.ex\/⇑X.s₀.heap.objs<=b)/\(∀x c,X.env.cells.lookup x=gV c->c≠b)/\∀p∈X.pn++J,p.1≠b
def Inv.fpOk {Y:St}{b:MF}(I:Inv X J Y H s)(a:⇑s.heap.objs<=b)(f:d b=td):jh X J d b:=by
 show#[f,NR (MU I.lt a),I.nofs a,.inr (M1 I.sz a),λx c e z=>?_,λp g z=>?_]
 ·obtain⟨v,q⟩:=I.cell x c e;show absurd (MU q.lt (by rw[z];show a)) (NZ _)
 ·show absurd (MU (MW (I.pin p g).1) (by rw[z];show a)) (NZ _)
structure Turn (P:Nc)(w:Nq)(K:MO)(tg:M7)(tv:It)(fp:Mq MF)(it:MF)(tn:Mz->Nz->Prop):Prop where
 mem:it∈fp
 obj:∀i h,tn i h->∀b∈fp,∃o,h.get? b=gV o/\∀v,o.data≠.cell v
 keep:∀i h h',tn i h->(∀b∈fp,∀o,h.get? b=gV o->h'.get? b=gV o)->tn i h'
 item:∀(X:Cx),X.prog=P->X.w=w->X.K=K->X.calm=true->∀(i:Mz) (J:Mq (MF×Of)) (s:My) (Y:St) (H:Hp) (E:Mu->My->Prop),Inv X J Y H s->(∀b∈fp,jh X J H b)->tn i s.heap->tv.go i H->
  wpAny (model P w) X.A (pyNext (.ref it)) (λr s1=>∃u,r=gV u/\
   wpAny (model P w) X.A (letOwnedTupleGo tg (.ref it) u) (λ_ s2=>∃x H',Inv X J Y H' s2/\RelV x u/\tv.yld i H x H'/\tn (i+1) s2.heap/\∀b∈fp,H' b=td) E s1) E s
 done:∀(X:Cx),X.prog=P->X.w=w->X.K=K->X.calm=true->∀(i:Mz) (J:Mq (MF×Of)) (s:My) (Y:St) (H:Hp) (E:Mu->My->Prop),Inv X J Y H s->(∀b∈fp,jh X J H b)->tn i s.heap->tv.stop i H->
  wpAny (model P w) X.A (pyNext (.ref it)) (λr s1=>r=td/\Inv X J Y H s1) E s
 self:∀(A:Nn) (i:Mz) (s:My) (Q:Mu->My->Prop) (E:Mu->My->Prop),tn i s.heap->Q (.ref it) s->wpAny (model P w) A (pyIter (.ref it)) Q E s
noncomputable abbrev TI:=St->Hp->(It->Hp->Prop)->Prop
abbrev Km (X:Cx)(J:Mq (MF×Of))(Y:St)(tg:M7)(R:It->Hp->Prop)(a:Mu)(d:My):Prop:=
 ∃(it:MF) (c:Mq MF) (tn:Mz->Nz->Prop) (tv:It) (H':Hp),a=.ref it/\Inv X J Y H' d/\Turn X.prog X.w X.K tg tv c it tn/\tn 0 d.heap/\(∀b∈c,jh X J H' b)/\R tv H'
abbrev PI (X:Cx)(tg iter:M7)(b:TI):Prop:=
 ∀(J:Mq (MF×Of)) (s:My) (Y:St) (H:Hp) (R:It->Hp->Prop),Inv X J Y H s->b Y H R->
  wpAny (model X.prog X.w) X.A (eval iter X.env) (λv a=>wpAny (model X.prog X.w) X.A (pyIter v) (Km X J Y tg R) X.xe a) X.xe s
def uP (d:s.heap.get? it=gV o)(hc:o.cls=.type n)(hd:o.data=.fields vs)
    (c:["enumerate","zip","dict_itemiterator","dict_reverseitemiterator","odict_iterator","itertools.zip_longest","itertools.pairwise"].contains n=false) (b:Q () s):wpAny a A (letOwnedTupleGo tg (.ref it) u) Q E s:=by
  unfold letOwnedTupleGo;cases tg<;>first
    |show ME b
    |(cases u<;>first
        |show ME b
        | (show Ms (Te d ?_)
           rw[hc,hd];change wpAny a A (if (["enumerate","zip","dict_itemiterator","dict_reverseitemiterator","odict_iterator","itertools.zip_longest","itertools.pairwise"].contains n&&vs[0]?==gV (rawInt _))=true then _ else _) Q E s
           rw[Nm (by intro h;rw[c,Bool.false_and]at h;cases h)]
           show ME b))
abbrev KN (K:MO)(a:MF):It:=
 #[λi H=>∃xs x,SqL K H a xs/\xs[i]?=gV x,λi H x b=>b=H/\∀xs,SqL K H a xs->xs[i]?=gV x,λi H=>∃xs,SqL K H a xs/\↥xs<=i]
abbrev HU (K:MO)(a:MF):It:=
 #[λi H=>∃xs x,SqT K H a xs/\xs[i]?=gV x,λi H x b=>b=H/\∀xs,SqT K H a xs->xs[i]?=gV x,λi H=>∃xs,SqT K H a xs/\↥xs<=i]
abbrev Iw (lo:MM)(n:Mz):It:=#[λi _=>i<n,λi H x a=>a=H/\x=.int (lo+i),λi _=>n<=i]
def wD {K:MO}(a it:MF):Turn P w K tg (KN K a) [it] it (λi h=>h.IsListIter it a i) where
 mem:=by simp
 obj:=λi h st b f=>by
  have e:b=it:=by simpa using f
  subst e;obtain⟨o,e,c,d⟩:=st;show#[o,e,λv z=>by rw[d]at z;cases z]
 keep:=λi h h' st k=>st.at λo e=>k it (by simp) o e
 item:=by
  intro X y hw hK hc i J s Y H E I j st A;subst y hw hK;obtain⟨xs,x,l,B⟩:=A;obtain⟨C,D,p,Q⟩:=I.list l;obtain⟨u,N,R⟩:=D.get B;obtain⟨m,n,M,q,r,t⟩:=j it (by simp)
  show RM st p.isList  (by simpa using N) λh' g S=>?_
  have G:Inv X _ Y H {s with heap:=h'}:=I.turned  (λb o f e=>(S.2 b f).trans e) m n q r t
  obtain⟨o,e,c,d⟩:=id g;show#[u,rfl,uP  e c d #v[] #[x,H,G,R,#[rfl,λys O=>by rw[I.list_inj O l];show B],g,λb f=>(j b f).1]]
 done:=by
  intro X y hw hK hc i J s Y H E I j st A;subst y hw hK;obtain⟨xs,l,B⟩:=A;obtain⟨C,D,p,Q⟩:=I.list l;obtain⟨m,n,M,q,r,t⟩:=j it (by simp)
  have hl:=↥D;show Sf (I.ok.hd hc) st p.isList (by simp;omega) λh' L=>#[rfl,I.turned  (λb o f e=>L b o f e) m n q r t]
 self:=λ_ _ _ _ _ st h=>wpAny_pyIter_listiter st h
def sF {K:MO}(a it:MF):Turn P w K tg (HU K a) [it] it (λi h=>h.IsTupleIter it a i) where
 mem:=by simp
 obj:=λi h st b f=>by
  have e:b=it:=by simpa using f
  subst e;obtain⟨o,e,c,d⟩:=st;show#[o,e,λv z=>by rw[d]at z;cases z]
 keep:=λi h h' st k=>st.at λo e=>k it (by simp) o e
 item:=by
  intro X y hw hK hc i J s Y H E I j st A;subst y hw hK;obtain⟨xs,x,l,B⟩:=A;obtain⟨C,D,p,Q⟩:=I.tuple l;obtain⟨u,N,R⟩:=D.get B;obtain⟨m,n,M,q,r,t⟩:=j it (by simp)
  show wpAny_pyNext_tuple_item st p  (by simpa using N) λh' g S=>?_
  have G:Inv X _ Y H {s with heap:=h'}:=I.turned  (λb o f e=>(S.2 b f).trans e) m n q r t
  obtain⟨o,e,c,d⟩:=id g;show#[u,rfl,uP  e c d #v[] #[x,H,G,R,#[rfl,λys O=>by rw[I.tuple_inj O l];show B],g,λb f=>(j b f).1]]
 done:=by
  intro X y hw hK hc i J s Y H E I j st A;subst y hw hK;obtain⟨xs,l,B⟩:=A;obtain⟨C,D,p,Q⟩:=I.tuple l;obtain⟨m,n,M,q,r,t⟩:=j it (by simp)
  have hl:=↥D;show wpAny_pyNext_tuple_end (I.ok.hd hc) st p (by simp;omega) λh' L=>#[rfl,I.turned  (λb o f e=>L b o f e) m n q r t]
 self:=λ_ _ _ _ _ st h=>wpAny_pyIter_tupleiter st h
def sG {K:MO}(it:MF)(lo:MM)(n:Mz):Turn P w K tg (Iw lo n) [it] it (λi h=>Vr h it (lo+i*1) (n-i) 1) where
 mem:=by simp
 obj:=λi h st b a=>by
  have e:b=it:=by simpa using a
  subst e;show#[_,st,λv z=>by
   have B:=z;cases B]
 keep:=λi h h' st k=>k it (by simp) _ st
 item:=by
  intro X q hw hK hc i J s Y H E I d st p;subst q hw hK;obtain⟨f,g,x,j,l,m⟩:=d it (by simp)
  have W:=Walks.range (prog:=X.prog) (w:=X.w) (I.ok.hd hc) it lo 1 n;show W.item i s _ _ p st λv h' tk y c A=>?_
  obtain⟨t,rfl⟩:=y;have r:Inv X _ Y H {s with heap:=h',toks:=tk}:=I.turned (λb o a e=>A b o (by simpa using a) e) f g j l m
  show#[_,rfl,uP   c rfl rfl #v[] #[.int _,H,r,#[t,?_],#[rfl,rfl],c,λb a=>(d b a).1]]
  rw[Int.mul_one]
 done:=by
  intro X q hw hK hc i J s Y H E I d st p;obtain⟨f,g,x,j,l,m⟩:=d it (by simp)
  show wpAny_pyNext_range_end (I.ok.hd hc) st (by have:n<=i:=p;omega) λh' u=>#[rfl,I.turned  (λb o a e=>u b o a e) f g j l m]
 self:=λ_ _ _ _ _ st h=>wpAny_pyIter_rangeiter st h
section
variable{X:Cx}{tg:M7}
def qr {Y:St}{lo :MM}(I:Inv X J Y H s)(f : -(2^62)<=lo)(g:lo<2^62)(h : -(2^62)<=hi)(i:hi<2^62)
  (q:R (Iw lo (hi-lo).toNat) H):wpAny (model X.prog X.w) X.A (pyIter (.ref ⇑s.heap.objs)) (Km X J Y tg R) E {s with heap:=s.heap.push {cls:=.type "range",data:=.fields [.int lo t,.int hi u,.int 1 v].toArray},toks:=tk}:=by
 show wpAny_pyIter_range (IsRange.new ..) (Va f g h i) ?_;have a:Inv X J Y H {s with heap:=s.heap.push {cls:=.type "range",data:=.fields [.int lo t,.int hi u,.int 1 v].toArray},toks:=tk}:=I.kept λb o e=>Mw _ e
 show#[(s.heap.push {cls:=.type "range",data:=.fields [.int lo t,.int hi u,.int 1 v].toArray}).objs.size,[(s.heap.push {cls:=.type "range",data:=.fields [.int lo t,.int hi u,.int 1 v].toArray}).objs.size],_,_,H,rfl,
  a.kept (t':=tk) λb o e=>Mw _ e,sG _ lo (hi-lo).toNat,?_,λb j=>?_,q]
 ·have c:lo+((0:Mz):MM)*1=lo:=by simp
  have d:(((hi-lo).toNat:Mz):MM)-((0:Mz):MM)=OC lo hi 1:=by rw[SU];split<;>omega
  change Vr _ _ (lo+((0:Mz):MM)*1) ((((hi-lo).toNat:Mz):MM)-((0:Mz):MM)) 1;rw[c,d];show MT _ rfl
 ·have e:b=(s.heap.push {cls:=.type "range",data:=.fields [.int lo t,.int hi u,.int 1 v].toArray}).objs.size:=by simpa using j
  subst e;show a.fpOk (MH _) (a.hok.fresh (MH _))
abbrev Ix (b:TA):TI:=λY H R=>b Y H λvs a=>∃j:MM,vs=[.int j]/\-(2^62)<=j/\j<2^62/\R (Iw 0 j.toNat) a
abbrev iRng2 (b:TA):TI:=λY H R=>b Y H λvs a=>∃i j:MM,vs=[.int i,.int j]/\(-(2^62)<=i/\i<2^62/\-(2^62)<=j/\j<2^62)/\R (Iw i (j-i).toNat) a
def wF (f:Gl X "range")(g:X.mg "range" = td)(d:PA X [a] c)(i:starEach [a] X.env=[(false,eval a X.env)]:=by rfl):PI X tg (.Call (.Name "range" p) [a] [] pos) (Ix c):=by
 intro J s Y H R I h;show Vb (eM I f g boot_range (NU (bh (d pos _ s Y H _ I h) λus m #[vs,H1,I1,r1,b]=>?_) i rfl))
 obtain⟨j,e,b,k,q⟩:=b;subst e;cases r1 with
 |cons r l=>
  cases l;obtain⟨t,rfl⟩:=r;show Vf (qr I1 ∅ ∅ b k (by simpa using q))
def wH {p pos:OX}(l:Gl X "range")(m:X.mg "range" = td)(k:PA X [a,b] g)(n:starEach [a,b] X.env=[(false,eval a X.env),(false,eval b X.env)]:=by rfl)(c:starEach [b] X.env=[(false,eval b X.env)]:=by rfl) :
  PI X tg (.Call (.Name "range" p) [a,b] [] pos) (iRng2 g):=by
 intro J s Y H R I h;show Vb (eM I l m boot_range (NU (bh (k pos _ s Y H _ I h) λus x #[vs,H1,I1,r1,d]=>?_) (by rw[n,c]) (by rw[c];rfl)))
 obtain⟨i,j,e,⟨d,o,u,v⟩,q⟩:=d;subst e;cases r1 with
 |cons r f=>
  cases f with
  |cons w f=>
   cases f;obtain⟨t,rfl⟩:=r;obtain⟨t',rfl⟩:=w;show Vg (qr I1 d o u v q)
abbrev KO (k:TI)(g:TG)(j:TS):TS:=λD Y H=>k Y H λb e=>∃W:Mz->Mz->St->Hp->Prop,(∃m,W 0 m Y e)/\∀i m Y H,W i m Y H->
 (b.stop i H/\D.nx Y H)\/(b.go i H/\∃N:St->Hp->Prop,(∀c a,N c a->∃d,d<m/\W (i+1) d c a)/\∀x a,b.yld i H x a->g x Y a λh f=>j {D with nx:=N,ct:=N,bk:=D.nx} h f)
abbrev kR (a:Mq MF)(h:Nz):Mq (MF×Of):=a.filterMap λb=>(h.get? b).map λo=>(b,o)
def fw (c:b∈a)(e:h.get? b=gV o):(b,o)∈kR a h:=Q9.mpr #[b,c,by rw[e];rfl]
def wI (f:p∈kR a h):p.1∈a/\h.get? p.1=gV p.2:=by
 obtain⟨b,d,e⟩:=Q9.mp f;cases q:h.get? b with
 |none=>rw[q]at e;cases e
 |some o=>
  rw[q]at e;have c:=NE e;subst c;show#[d,q]
def Inv.pinned {Y:St}(I:Inv X J Y H s)(j:∀b∈a,jh X J H b)(k:∀b∈a,∃o,s.heap.get? b=gV o/\∀v,o.data≠.cell v):Inv X (J++kR a s.heap) Y H s:=
 I.pins_of λp l=>(Na.mp l).elim (λz=>I.pin p (Nf _ z)) λz=>by
  obtain⟨f,e⟩:=wI z;obtain⟨g,h,i,_⟩:=j p.1 f;obtain⟨o,c,d⟩:=k p.1 f;rw[e]at c;cases c
  show#[e,g,h,i,d]
def Inv.unpinned {Y:St}(I:Inv X (J++b) Y H s):Inv X J Y H s:=I.pins_of λp a=>I.pin p (Nf _ (NA _ a))
def FM (z:SK (model X.prog X.w) X.A X.env X.xe)(hc:X.calm=true)(hi:PI X tg iter Z)(hg:PG X tg g)(k:PSs X body U)
  (hs:∀x,foldedSetIterable iter X.env x=pure x:=by intro _;rfl):PS X (.For tg iter body [] pos) (KO Z g U):=by
 intro J s Y H D I h;show wpAny_For (bh (hi _ s Y H _ I h) λv s1 h1=>bh h1 λitv s2 h2=>?_) hs
 obtain⟨it,G,V,tv,H2,e,I2,T,aN,P,W,⟨m0,w0⟩,turn⟩:=h2;subst e;have l:∀{p:Hp},(∀b∈G,p b=td)->∀b∈G,jh X _ p b:=λhn b k=>#[hn b k,(P b k).2]
 show codeAny_forLoop_any (λn Q=>∃i t p,Inv X _ t p Q/\V i Q.heap/\(∀b∈G,p b=td)/\W i n t p) ?_ m0 #[0,Y,H2,I2,aN,λb k=>(P b k).1,w0]
 rintro n R ⟨i,w,E,O,B,y,w3⟩;rcases turn i n w E w3 with⟨C,qn⟩|⟨go,N,hN,step⟩
 ·show Pc z (bh (T.done X rfl rfl rfl hc i _ R w E _ O (l y) B C) λr s4 #[M,I4]=>?_)
  subst M;show R3 #[w,E,I4,qn]
 ·show Pc z (bh (T.item X rfl rfl rfl hc i _ R w E _ O (l y) B go) λr s4 #[u,M,h4]=>?_)
  subst M;show Pc z (bh h4 λ_ s5 #[x,H5,I5,r5,y5,st5,fr5]=>?_)
  have L:=I5.pinned (l fr5) (T.obj _ _ st5);show Pc z (bh (hg _ s5 w H5 x u _ L r5 (step x H5 y5)) λ_ s6 #[Y6,H6,I6,q6]=>?_)
  show Pc z (bh (k _ s6 Y6 H6 _ I6 q6) λf S q=>?_)
  have again:∀{j:St}{a:Hp},Inv X _ j a S->N j a->∃m,m<n/\∃i t p,Inv X J t p S/\V i _/\(∀b∈G,p b=td)/\W i m t p:=λ{j a} c A=>by
   obtain⟨m',hm,w7⟩:=hN j a A;show#[m',hm,i+1,j,a,c.unpinned,T.keep _ _ _ st5 λb k o e=>(c.pin _ (Nf _ (Nf _ (fw k e)))).1,λb k=>?_,w7]
   obtain⟨o,e,d⟩:=T.obj _ _ st5 b k;show(c.pin (b,o) (Nf _ (Nf _ (fw k e)))).2.1
  cases f with
  |next=>obtain⟨j,a,c,A⟩:=q;show again c A
  |cont=>obtain⟨j,a,c,A⟩:=q;show again c A
  |brk=>obtain⟨j,a,c,q⟩:=q;show#[j,a,c.unpinned,q]
  |ret v=>obtain⟨x7,j,a,c,r7,q⟩:=q;show#[x7,j,a,c.unpinned,r7,q]
end
def for_tup {K:MO}{g:TG}{l:TS}{D:Ends}(b:Mz->St->Hp->Prop)(n:b 0 Y H)(hl:∀i Y H,i<=↥xs->b i Y H->SqT K H a xs)
  (o:∀i x Y H,xs[i]?=gV x->b i Y H->g x Y H λj f=>l {D with nx:=b (i+1),ct:=b (i+1),bk:=D.nx} j f) (hd:∀Y H,b ↥xs Y H->D.nx Y H) :
  ∃W:Mz->Mz->St->Hp->Prop,(∃m,W 0 m Y H)/\∀i m Y H,W i m Y H->
   ((HU K a).stop i H/\D.nx Y H)\/((HU K a).go i H/\∃N:St->Hp->Prop,(∀h c,N h c->∃k,k<m/\W (i+1) k h c)/\∀x c,(HU K a).yld i H x c->g x Y c λj f=>l {D with nx:=N,ct:=N,bk:=D.nx} j f):=by
 show#[λi m Y H=>m=↥xs-i/\i<=↥xs/\b i Y H,#[↥xs,by rfl,Os _,n],?_]
 rintro i m Y H ⟨rfl,hi,p⟩;have q:=hl i Y H hi p
 by_cases d:i<↥xs
 ·show .inr #[#[xs,xs[i],q,by simp[d]],b _,λh c r=>#[↥xs-(i+1),∅,rfl,d,r],λx c y=>?_]
  obtain⟨e,y⟩:=y;subst e;show o i x Y _ (y xs q) p
 ·have e:i=↥xs:=∅
  subst e;show .inl #[#[xs,q,MH _],hd Y H p]
noncomputable abbrev R2:=V->V->Hp->VK->Prop
abbrev OpR (X:Cx)(f:Mu->Mu->Vn Mu)(r:R2):Prop:=
 ∀(J:Mq (MF×Of)) (s:My) (Y:St) (H:Hp) (x y:V) (v u:Mu) (Q:VK),Inv X J Y H s->RelV x v->RelV y u->r x y H Q->
  wpAny (model X.prog X.w) X.A (f v u) (EP X J Y Q) X.xe s
abbrev KP (X:Cx)(f:Mu->Vn Mu)(r:V->Hp->VK->Prop):Prop:=
 ∀(J:Mq (MF×Of)) (s:My) (Y:St) (H:Hp) (x:V) (v:Mu) (Q:VK),Inv X J Y H s->RelV x v->r x H Q->
  wpAny (model X.prog X.w) X.A (f v) (EP X J Y Q) X.xe s
abbrev CallR (X:Cx)(f:Mu)(r:Mq V->Hp->VK->Prop):Prop:=
 ∀(J:Mq (MF×Of)) (s:My) (Y:St) (H:Hp) (xs:Mq V) (us:Mq Mu) (Q:VK),Inv X J Y H s->Vals xs us->r xs H Q->
  wpAny (model X.prog X.w) X.A (call f us) (EP X J Y Q) X.xe s
abbrev KQ (X:Cx)(r:V->Hp->(M9->Hp->Prop)->Prop):Prop:=
 ∀(J:Mq (MF×Of)) (s:My) (Y:St) (H:Hp) (x:V) (v:Mu) (Q:M9->Hp->Prop),Inv X J Y H s->RelV x v->r x H Q->
  wpAny (model X.prog X.w) X.A (truthy v) (TP X J Y Q) X.xe s
abbrev Kn (r:R2)(c d:TE):TE:=λY H Q=>c Y H λx a=>d Y a λy b=>r x y b Q
abbrev Ma (r:V->Hp->VK->Prop)(b:TE):TE:=λY H Q=>b Y H λx a=>r x a Q
abbrev rI (C:MM->MM->Prop)(g:MM->MM->V):R2:=λx y H Q=>∃i j,x=.int i/\y=.int j/\C i j/\Q (g i j) H
abbrev Ez (g:MM->MM->V):R2:=λx y H Q=>∃i j,x=.int i/\y=.int j/\Q (g i j) H
abbrev rU (g:MM->V):V->Hp->VK->Prop:=λx H Q=>∃i,x=.int i/\Q (g i) H
section
variable{X:Cx}{a b c:M7}{ta tb tc:TE}{pos:OX}
def FN (j:PE X a ta)(k:PE X b tb){Y:St}{R:V->V->Hp->Prop}(I:Inv X J Y H s)
  (h:ta Y H λx i=>tb Y i λy c=>R x y c) {f:Mu->Mu->Vn Mu}
  (l:∀v u g x y c,Inv X J Y c g->RelV x v->RelV y u->R x y c->wpAny (model X.prog X.w) X.A (f v u) Q X.xe g) :
  wpAny (model X.prog X.w) X.A (eval a X.env) (λv d=>wpAny (model X.prog X.w) X.A (eval b X.env) (λu e=>wpAny (model X.prog X.w) X.A (f v u) Q X.xe e) X.xe d) X.xe s:=by
 show bh (j _ s Y H _ I h) λv m #[x,i,I1,r1,q1]=>?_
 show bh (k _ m Y i _ I1 q1) λu g #[y,c,I2,r2,q2]=>?_
 show l v u g x y c I2 r1 r2 q2
def Iy {c:TB}(i:OpR X (binaryOp c) r)(f:PE X a ta)(g:PE X b tb):PE X (.BinOp a c b pos) (Kn r ta tb):=by
 intro J s Y H Q I h;show wpAny_BinOp (FN f g I h λv u l x y d e j k q=>i _ l Y d x y v u Q e j k q)
def Iz {b:UnaryOp}(d:KP X (unaryOp b) r)(c:PE X a ta):PE X (.UnaryOp b a pos) (Ma r ta):=by
 intro J s Y H Q I h;show UnaryOp_ (bh (c _ s Y H _ I h) λv e #[x,H1,I1,r1,q1]=>d _ e Y H1 x v Q I1 r1 q1)
def Ko {g:MM->MM->MM}
  (rule:∀ i j t u s Q E,C i j->Q (.int (g i j) s.toks) {s with toks:=s.toks+1}->wpAny (model X.prog X.w) X.A (f (.int i t) (.int j u)) Q E s) :
  OpR X f (rI C λi j=>.int (g i j)):=by
 intro J s Y H x y v u Q I a b h;obtain⟨i,j,rfl,rfl,hc,q⟩:=h;obtain⟨t,rfl⟩:=a;obtain⟨t',rfl⟩:=b;show rule i j t t' s _ _ hc #[.int _,H,I.tok _,#[_,rfl],q]
def IA {g:MM->MM->MM}
  (rule:∀ i j t u s Q E,Q (.int (g i j) s.toks) {s with toks:=s.toks+1}->wpAny (model X.prog X.w) X.A (f (.int i t) (.int j u)) Q E s) :
  OpR X f (Ez λi j=>.int (g i j)):=by
 intro J s Y H x y v u Q I a b h;obtain⟨i,j,rfl,rfl,q⟩:=h;obtain⟨t,rfl⟩:=a;obtain⟨t',rfl⟩:=b;show rule i j t t' s _ _ #[.int _,H,I.tok _,#[_,rfl],q]
def Cc {g:MM->MM->M9}
  (rule:∀ i j t u s Q E,Q (.bool (g i j)) s->wpAny (model X.prog X.w) X.A (f (.int i t) (.int j u)) Q E s) :
  OpR X f (Ez λi j=>.bl (g i j)):=by
 intro J s Y H x y v u Q I a b h;obtain⟨i,j,rfl,rfl,q⟩:=h;obtain⟨t,rfl⟩:=a;obtain⟨t',rfl⟩:=b;show rule i j t t' s _ _ #[.bl _,H,I,rfl,q]
abbrev KR (i j:MM):Prop:=0<j/\j<1073741824
abbrev KS (i j:MM):Prop:=0<=j/\j<=1000000/\i.natAbs<2^64
abbrev CMul (i j:MM):Prop:=(-(2^64)<i/\i<2^64)\/(-(2^64)<j/\j<2^64)
def CMul.ok (h:CMul i j):IntMulOk i j:=by
 rcases h with⟨a,b⟩|⟨a,b⟩
 ·show .of_left (UT a b)
 ·show .of_right (UT a b)
def FP:OpR X (binaryOp .Add) (Ez λi j=>.int (i+j)):=IA λ_ _ _ _ _ _ _ q=>add_int q
def FQ:OpR X (binaryOp .Sub) (Ez λi j=>.int (i-j)):=IA λ_ _ _ _ _ _ _ q=>sub_int q
def FR:OpR X (binaryOp .Mult) (rI CMul λi j=>.int (i*j)):=Ko λ_ _ _ _ _ _ _ hc q=>mul_int q hc.ok
def Cd:OpR X (binaryOp .FloorDiv) (rI KR λi j=>.int (i/j)):=Ko λi j _ _ _ _ _ hc q=>by
 have a:(0:MM)<j:=hc.1;have b:j<1073741824:=hc.2;show floordiv_int ∅ (by rw[Int.fdiv_eq_ediv_of_nonneg i ∅];show q) (.inl (PyProof.noPylong_small ∅))
def FU:OpR X (binaryOp .Mod) (rI (λ_ j=>0<j) λi j=>.int (i % j)):=Ko λi j _ _ _ _ _ hc q=>by
 have a:(0:MM)<j:=hc;show mod_int' ∅ (by rw[Int.fmod_eq_emod_of_nonneg i ∅];show q)
def FV:OpR X (binaryOp .Pow) (rI KS λi j=>.int (i^j.toNat)):=Ko λ_ _ _ _ _ _ _ hc q=>pow_int_small hc.1 hc.2.1 hc.2.2 q
def Mb {g:MM->MM}
  (rule:∀ i t s Q E,Q (.int (g i) s.toks) {s with toks:=s.toks+1}->wpAny (model X.prog X.w) X.A (f (.int i t)) Q E s) :
  KP X f (rU λi=>.int (g i)):=by
 intro J s Y H x v Q I a h;obtain⟨i,rfl,q⟩:=h;obtain⟨t,rfl⟩:=a;show rule i t s _ _ #[.int _,H,I.tok _,#[_,rfl],q]
def FW:KP X (unaryOp .USub) (rU λi=>.int (-i)):=Mb λ_ _ _ _ _ q=>neg_int q
def yu {Y:St}{ a:M9}(I:Inv X J Y H s)(q:Q (.bl k) H)(e:k=a):EP X J Y Q (.bool a) s:=by
 subst e;show#[.bl k,H,I,rfl,q]
def IB:OpR X (compareOp .Lt) (Ez λi j=>.bl (decide (i<j))):=Cc λ_ _ _ _ _ _ _ q=>lt_int q
def IC:OpR X (compareOp .LtE) (Ez λi j=>.bl (decide (i<=j))):=Cc λ_ _ _ _ _ _ _ q=>le_int q
def ID:OpR X (compareOp .Gt) (Ez λi j=>.bl (decide (j<i))):=Cc λ_ _ _ _ _ _ _ q=>gt_int q
def IE:OpR X (compareOp .GtE) (Ez λi j=>.bl (decide (j<=i))):=Cc λ_ _ _ _ _ _ _ q=>ge_int q
def FX:OpR X (compareOp .Is) (λx y H Q=>y=.non/\Q (.bl (decide (x=.non))) H):=by
 intro J s Y H x y v u Q I a b h;obtain⟨rfl,q⟩:=h;cases b;show is_none_gen (yu I q ?_);cases x<;>first
  |(cases a;rfl)
  |(obtain⟨t,rfl⟩:=a;rfl)
def Ce:OpR X (compareOp .IsNot) (λx y H Q=>y=.non/\Q (.bl (!decide (x=.non))) H):=by
 intro J s Y H x y v u Q I a b h;obtain⟨rfl,q⟩:=h;cases b;show isnot_none_gen (yu I q ?_);cases x<;>first
  |(cases a;rfl)
  |(obtain⟨t,rfl⟩:=a;rfl)
def Cg {c:Uj}(j:OpR X (compareOp c) r)(f:PE X a ta)(g:PE X b tb)(i:behindInMarks c b=false):PE X (.Compare a [c] [b] pos) (Kn r ta tb):=by
 intro J s Y H Q I h;show wpAny_Compare1 (FN f g I h λv u m x y d e k l q=>j J m Y d x y v u Q e k l q) i
abbrev EA (t:TE):TT:=λY H Q=>t Y H λx a=>∃k,x=.bl k/\Q k a
def Ch (j:OpR X (compareOp d) r)(f:PE X a ta)(g:PE X b tb)(i:behindInMarks d b=false):PT X (.Compare a [d] [b] pos) (EA (Kn r ta tb)):=by
 intro J s Y H Q I h;show wpAny_isTrue_Compare1 (bh (f _ s Y H _ I h) λv l #[x,H1,I1,r1,q1]=>bh (g _ l Y H1 _ I1 q1) λu m #[y,H2,I2,r2,q2]=>
  bh (j _ m Y H2 x y v u _ I2 r1 r2 q2) λc n #[z,H3,I3,r3,k,e,q3]=>?_) i
 subst e;cases r3;show Oe #[H3,I3,q3]
abbrev sH (r e:R2)(ta tb tc:TE):TE:=λY H Q=>ta Y H λx b=>tb Y b λy c=>r x y c λz a=>∃k,z=.bl k/\
 (if k=true then tc Y a λf d=>e y f d Q else Q (.bl false) a)
def yv (o:OpR X (compareOp i) r)(g:OpR X (compareOp f) j)(l:PE X a ta)(m:PE X b tb)(hc:PE X c tc)
  (n:lastMarks [i,f] [b,c]=false:=by with_unfolding_all rfl):PE X (.Compare a [i,f] [b,c] pos) (sH r j ta tb tc):=by
 intro J s Y H Q I h;show Compare_chain (bh (l _ s Y H _ I h) λv p #[x,H1,I1,r1,q1]=>chain_link (bh (m _ p Y H1 _ I1 q1) λu q #[y,H2,I2,r2,q2]=>
  bh (o _ q Y H2 x y v u _ I2 r1 r2 q2) λd t #[z,H3,I3,r3,k,e,q3]=>?_)) n
 subst e;cases r3;show Oe ?_;cases k with
 |false=>show ite_ff #[.bl _,H3,I3,rfl,q3]
 |true=>show ite_tt (chain_last (bh (hc _ t Y H3 _ I3 q3) λA w #[B,H4,I4,r4,q4]=>g _ w Y H4 y B u A Q I4 r2 r4 q4))
def yw (p:OpR X (compareOp i) r)(g:OpR X (compareOp f) j)(m:PE X a ta)(n:PE X b tb)(hc:PE X c tc)
  (o:lastMarks [i,f] [b,c]=false:=by with_unfolding_all rfl):PT X (.Compare a [i,f] [b,c] pos) (EA (sH r j ta tb tc)):=by
 intro J s Y H Q I h;show isTrue_chain (bh (m _ s Y H _ I h) λv t #[x,H1,I1,r1,q1]=>test_link (bh (n _ t Y H1 _ I1 q1) λu w #[y,H2,I2,r2,q2]=>
  bh (p _ w Y H2 x y v u _ I2 r1 r2 q2) λd A #[z,H3,I3,r3,k,e,q3]=>?_)) o
 subst e;cases r3;show Oe ?_;cases k with
 |false=>
  obtain⟨E,l,q⟩:=q3;cases l;show ite_ff #[H3,I3,q]
 |true=>
  show ite_tt (test_last (bh (hc _ A Y H3 _ I3 q3) λC B #[D,H4,I4,r4,q4]=>bh (g _ B Y H4 y D u C _ I4 r2 r4 q4) λd' G #[L,H5,I5,r5,k2,e2,q5]=>?_))
  subst e2;cases r5;show Oe #[H5,I5,q5]
abbrev KU (K:MO)(x:V)(H:Hp)(k:M9):Prop:=
 match x with
 |.non=>k=false
 |.bl b=>k=b
 |.int i=>k=(i != 0)
 |.str y=>↥y<=sizeLine/\k=((↥y:MM) != 0)
 |.byt y=>⇑y<=sizeLine/\k=((⇑y:MM) != 0)
 |.ref p=>(∃xs,SqL K H p xs/\k = !xs.isEmpty)\/(∃xs,SqT K H p xs/\k = !xs.isEmpty)\/∃U,H p=gV (.dK U)/\k = !U.isEmpty
 |_=>N6
def sI {vs:Mq (κ×Mu)}(r:KV U vs):(!vs.isEmpty) = !U.isEmpty:=by
 cases r<;>rfl
def kS {a:Mq Mu}(r:Vals xs a):(!a.toArray.isEmpty) = !xs.isEmpty:=by
 cases r<;>rfl
def oM:sizeLine<2^63:=by decide
def FY:KQ X (λx H Q=>∃k,KU X.K x H k/\Q k H):=by
 intro J s Y H x v Q I d h;obtain⟨k,e,q⟩:=h;have u:=NT;cases x with
 |non=>
  cases d;have a:=e;subst a;show truthy_none #[H,I,q]
 |bl b=>
  cases d;have a:=e;subst a;show Oe #[H,I,q]
 |int i=>
  obtain⟨t,rfl⟩:=d;have a:=e;subst a;show PySem.P.truthy_int #[H,I,q]
 |str y=>
  obtain⟨t,rfl⟩:=d;obtain⟨o,a⟩ : ↥y<=sizeLine/\k=((↥y:MM) != 0):=e;subst a;show PySem.P.truthy_str ∅ #[H,I.tok _,q]
 |byt y=>
  obtain⟨t,rfl⟩:=d;obtain⟨o,a⟩ : ⇑y<=sizeLine/\k=((⇑y:MM) != 0):=e;subst a;show PySem.W.truthy_bytes (by show M1 ‹_› (Ni rfl)) #[H,I.tok _,q]
 |ref p=>
  cases d;have a:=e;rcases a with⟨xs,f,a⟩|⟨xs,f,a⟩|⟨U,f,a⟩
  ·subst a;obtain⟨g,r,j,l⟩:=I.list f;have c:=↥r;show wpAny_truthy_list j.isList (by revert MV;omega) #[H,I.tok _,by rw[kS r];show q]
  ·subst a;obtain⟨g,r,j,l⟩:=I.tuple f;have c:=↥r;show truthy_tuple j (by revert MV;omega) #[H,I.tok _,by rw[kS r];show q]
  ·subst a;obtain⟨l,n,vs,r,m⟩ : ↥U<=sizeLine/\(p==sysModules)=false/\∃vs,KV U vs/\s.heap.DictOf (aR X.prog X.w) p vs:=I.hok p _ f;have c:=PN r;show wpAny_truthy_dict n m ∅ #[H,I.tok _,by rw[sI r];show q]
 |_=>show e.elim
def sJ:OpR X (binaryOp .Add) (λx y H Q=>∃i j,x=.str i/\y=.str j/\↥i+↥j<=sizeLine/\Q (.str (i++j)) H):=by
 intro J s Y H x y v u Q I b c h;obtain⟨i,j,rfl,rfl,a,q⟩:=h;obtain⟨t,rfl⟩:=b;obtain⟨t',rfl⟩:=c;show add_str (λt' tk=>#[.str _,H,I.tok _,#[_,rfl],q]) a
def qt (r:Vals [x] us):∃u,us=[u]/\RelV x u:=by
 cases r with
 |cons a b=>cases b;show#[_,rfl,a]
def nr:CallR X (.type "int") (λxs H Q=>(∃i,xs=[.int i]/\Q (.int i) H)\/∃k,xs=[.bl k]/\Q (.int (if k then 1 else 0)) H):=by
 intro J s Y H xs us Q I r h;rcases h with⟨i,rfl,q⟩|⟨k,rfl,q⟩
 ·obtain⟨u,rfl,t,rfl⟩:=qt r;show call_int_int #[.int i,H,I,#[_,rfl],q]
 ·obtain⟨u,rfl,a⟩:=qt r;cases a;show call_int_bool #[.int _,H,I.tok _,#[_,rfl],q]
abbrev KW (K:MO)(x:V)(H:Hp)(n:Mz):Prop:=
 match x with
 |.str y=>↥y<=sizeLine/\n=↥y
 |.byt y=>⇑y<=sizeLine/\n=⇑y
 |.ref p=>(∃xs,SqL K H p xs/\n=↥xs)\/∃xs,SqT K H p xs/\n=↥xs
 |_=>N6
def kU:CallR X (.builtin "len") (λxs H Q=>∃x n,xs=[x]/\KW X.K x H n/\Q (.int n) H):=by
 intro J s Y H xs us Q I r h;obtain⟨x,n,rfl,e,q⟩:=h;obtain⟨u,rfl,i⟩:=qt r;have l:=NT;cases x with
 |str y=>
  obtain⟨t,rfl⟩:=i;obtain⟨j,b⟩ : ↥y<=sizeLine/\n=↥y:=e;subst b;show len_str ∅ #[.int _,H,I.tok _,#[_,rfl],q]
 |byt y=>
  obtain⟨t,rfl⟩:=i;obtain⟨j,b⟩ : ⇑y<=sizeLine/\n=⇑y:=e;subst b;show PySem.W.len_bytes ∅ #[.int _,H,I.tok _,#[_,rfl],q]
 |ref p=>
  cases i;have b:=e;rcases b with⟨xs,c,b⟩|⟨xs,c,b⟩
  ·subst b;obtain⟨d,g,f,k⟩:=I.list c;have a:=↥g;show Calls.call_len_list f.isList (by revert MV;omega) #[.int _,H,I.tok _,#[_,by revert MV;rw[a]],q]
  ·subst b;obtain⟨d,g,f,k⟩:=I.tuple c;have a:=↥g;show len_tuple f (by revert MV;omega) #[.int _,H,I.tok _,#[_,by revert MV;rw[a]],q]
 |_=>show e.elim
end
def RelO.some_of (r:RelO (gV v) o):∃u,o=gV u/\RelV v u:=by
 cases o with
 |none=>show r.elim
 |some u=>show#[u,rfl,r]
structure Room (k:Mz)(A:Nn):Prop where
 hd:A.handled=td
 dp:A.depth+3*k+5<recursionLimit
 un:A.units+16*k+200<cLine
def Room.deeper (r:Room (k+1) A)(env:TZ):Room k (A.deeper env):=
 #[r.hd,by have:=r.dp;show A.depth+1+3*k+5<_;omega,by have:=r.un;show A.units+3+16*k+200<_;omega]
def Room.depth (r:Room k A):A.depth<recursionLimit:=by have:=r.dp;omega
abbrev IF:TA:=λ_ H Q=>Q [] H
abbrev IG (c:TE)(d:TA):TA:=λY H Q=>c Y H λx a=>d Y a λxs b=>Q (x::xs) b
section
variable{X:Cx}{e:M7}{es:Mq M7}{te:TE}{t:TA}{pos:OX}
def yy:PA X [] IF:=λ_ _ _ _ H Q I h=>Rt #[[],H,I,.nil,h]
def oN (a:PE X e te)(b:PA X es t)(c:starEach (e::es) X.env=(false,eval e X.env)::starEach es X.env:=by rfl):PA X (e::es) (IG te t):=by
 intro pos J s Y H Q I h;rw[c];show Re (bh (a _ s Y H _ I h) λu d #[x,H1,I1,r1,q1]=>?_)
 show bh (b pos _ d Y H1 _ I1 q1) λus f #[xs,H2,I2,r2,q2]=>#[x::xs,H2,I2,.cons r1 r2,q2]
abbrev KY (t:TA):TE:=λY H Q=>t Y H λxs a=>↥xs<=sizeLine/\∀p,a p=td->Q (.ref p) (bK a p (.tup xs))
abbrev KZ (t:TA):TE:=λY H Q=>t Y H λxs a=>↥xs<=sizeLine/\∀p,a p=td->Q (.ref p) (bK a p (.lst xs))
def FZ {x1}(h:PA X es t):PE X (.Tuple es x1 pos) (KY t):=by
 intro J s Y H Q I c;show wpAny_Tuple_spliced (bh (h pos _ s Y H _ I c) λus d #[xs,H1,I1,r,z,q]=>#[by rw[<- ↥r];show z,?_])
 have a:=I1.hok.fresh (MH _);show#[.ref _,bK H1 _ _,I1.laid  (λb u e=>Mw _ e) (MH _) ?_,rfl,q _ a]
 show#[#[z,NoD.new _ _ _],us,r,#[_,MT _ rfl,rfl,_,rfl]]
def F0 (h:PA X es t):PE X (.List es pos) (KZ t):=by
 intro J s Y H Q I c;show wpAny_List_spliced (bh (h pos _ s Y H _ I c) λus d #[xs,H1,I1,r,z,q]=>#[by rw[<- ↥r];show z,?_])
 have a:=I1.hok.fresh (MH _);show#[.ref _,bK H1 _ _,I1.laid  (λb u e=>Mw _ e) (MH _) ?_,rfl,q _ a]
 show#[z,us,0,r,MT _ rfl]
end
noncomputable abbrev Sp:=Mq V->Hp->VK->XK->Prop
noncomputable abbrev yz:=Mq TZ->Hp->My->XK->Mu->My->Prop
structure Env0 (P:Nc)(w:Nq)(K:MO)(mg:M2->MA Mu)(base:Nz)(A:Nn)(outer:Mq TZ)(s:My)(H:Hp):Prop where
 frames:A.frames=gV outer
 mod:Mod K mg base
 bs:∀b o,base.get? b=gV o->s.heap.get? b=gV o/\H b=td
 bsz:⇑base.objs<=⇑s.heap.objs
 funs:s.heap.FunFrames base outer
 frf:∀b∈uM outer,H b=td
 hok:HOk P w H s.heap
 bare:Rs s.gens
abbrev CE (outer:Mq TZ)(P:Nc)(w:Nq)(H:Hp)(s:My)(Q:VK)(u:Mu)(a:My):Prop:=
 ∃v b,a.os=s.os/\Rs a.gens/\Un (uM outer) [] H b s.heap a.heap/\HOk P w b a.heap/\RelV v u/\Q v b
abbrev CR (CX:yz)(outer:Mq TZ)(P:Nc)(w:Nq)(H:Hp)(s:My)(Q:VK)(E:XK)(r:Tf)(a:My):Prop:=
 match r with
 |.ok (.ret u)=>CE outer P w H s Q u a
 |.ok _=>N6
 |.error e=>CX outer H s E e a
structure FnOk (P:Nc)(w:Nq)(K:MO)(mg:M2->MA Mu)(base:Nz)(CX:yz)(k:Mz)(f:MF)(fd:O3)(ps:Mq M2)(sp:Sp):Prop where
 len:∀vs H Q E,sp vs H Q E->↥vs=↥ps
 run:∀(A:Nn) (outer:Mq TZ) (s:My) (H:Hp) (args:Args) (us:Mq Mu) (vs:Mq V) (Q:VK) (E:XK),Room k A->Env0 P w K mg base A outer s H->TC s fd args (ps.zip us)->Vals vs us->sp vs H Q E->
  codeAny (model P w) A (.call (.ref f) args) (CR CX outer P w H s Q E) s
section
variable{X:Cx}{J:Mq (MF×Of)}{Y:St}{H:Hp}{s s':My}
def Inv.env0 (I:Inv X J Y H s):Env0 X.prog X.w X.K X.mg X.base X.A X.stack s H:=
 #[I.ok.frames,I.ok.mod,I.bs,M1 I.ok.bsz I.sz,I.stack,I.stkFree,I.hok,I.bare]
def Inv.after (I:Inv X J Y H s)(h:CE X.stack X.prog X.w H s Q u s'):EP X J Y Q u s':=by
 obtain⟨v,f,os,a,un,c,r,q⟩:=h;obtain⟨i,g,d,t,e⟩:=s';obtain rfl:e=s.os:=os;show#[v,f,I.call (h':=i) (g':=g) (d':=d) (t':=t) (ch:=[]) un c a (λb z=>absurd z (by simp)),r,q]
end
abbrev yA (sp:Sp)(a:Mq V)(E:XK)(t:TA):TE:=λY H Q=>t Y H λvs b=>sp (vs++a) b Q E
abbrev Binds (K:MO)(b:O3)(ps:Mq M2)(a:Mq Mu):Prop:=
 ∀(s:My) (us:Mq Mu),K.In s.heap->(us++a).length=↥ps->TC s b #[us,[]] (ps.zip (us++a))
def Binds.all {K:MO}(h:∀us:Mq Mu,↥us=↥ps->bindArgs a #[us,[]]=pure (ps.zip us)):Binds K a ps []:=λs us _ hl=>by
 rw[Nr]at hl ⊢;show .of_eq (h us hl)
abbrev oO (CX:yz)(X:Cx)(E:XK):Prop:=∀(J:Mq (MF×Of)) (Y:St) (H:Hp) (s:My) (e:Mu) (s':My),Inv X J Y H s->CX X.stack H s E e s'->X.xe e s'
section
variable{X:Cx}{CX:yz}{k:Mz}{f C:MF}{fd:O3}{ps:Mq M2}{sp:Sp}{dvs:Mq V}{ds:Mq Mu}{E:XK}{x m:M2}{p pos apos:OX}{e o:M7}{es:Mq M7}{ta:TE}{t:TA}
def yB {Y:St}(F:FnOk X.prog X.w X.K X.mg X.base CX k f fd ps sp)(g:Room k X.A)(d:Binds X.K fd ps ds)(hd:Vals dvs ds)(i:oO CX X E)
  (I:Inv X J Y H s) (r:Vals vs us) (h:sp (vs++dvs) H Q E):wpAny (model X.prog X.w) X.A (call (.ref f) us) (EP X J Y Q) X.xe s:=by
 have b:Vals (vs++dvs) (us++ds):=r.append hd;have hl:(us++ds).length=↥ps:=by rw[<- ↥b];show F.len _ _ _ _ h
 show wpAny_call (Qy (F.run X.A X.stack s H #[us,[]] (us++ds) (vs++dvs) Q E g I.env0 (d s us I.kIn hl) b h) λr j a=>?_)
 cases r with
 |error e=>show i J Y H s e j I a
 |ok c=>
  cases c with
  |ret u=>show I.after a
  |next=>show N6.elim a
  |brk=>show N6.elim a
  |cont=>show N6.elim a
def Ci (F:FnOk X.prog X.w X.K X.mg X.base CX k f fd ps sp)(l:Room k X.A)(i:Gl X x)(j:X.mg x=gV (.ref f))(hk:Ob X.K (.ref f)=true)(d:Binds X.K fd ps ds)(hd:Vals dvs ds)(m:oO CX X E)
  (c:PA X (e::es) t) (a:(x==("__debug__"))=false:=by decide) (g:starEach (e::es) X.env=(false,eval e X.env)::starEach es X.env:=by rfl) (b:(backTo pos (starEach es X.env)).any (·.1)=false:=by rfl) :
  PE X (.Call (.Name x p) (e::es) [] pos) (yA sp dvs E t):=by
 intro J s Y H Q I h;show Qo (uN I i j ?_ a);show PySem.W.callWith_K  I.ok.mod.kin hk (bh (c pos _ s Y H _ I h) λus n #[vs,H1,I1,r,q]=>#[I1.kIn,?_]) g b
 show yB F l d hd m I1 r q
def yC (F:FnOk X.prog X.w X.K X.mg X.base CX k f fd ps sp)(e:Room k X.A)(c:Gl X x)(d:X.mg x=gV (.ref f))(hk:Ob X.K (.ref f)=true)(b:Binds X.K fd ps ds)(hd:Vals dvs ds)(g:oO CX X E)
  (a:(x==("__debug__"))=false:=by decide):PE X (.Call (.Name x p) [] [] pos) (yA sp dvs E IF):=by
 intro J s Y H Q I h;show Qo (uN I c d ?_ a);show PySem.W.callWith_K0 I.kIn hk (yB  F e b hd g I .nil h)
end
structure FnScope (N P:Mq M2)(sc:PR):Prop where
 kind:sc.kind=.function
 co:sc.isCoroutine=false
 gen:sc.isGenerator=false
 nd:N.Nodup
 pre:N.take ↥P=P
 par:∀x∈P,sc.names.lookup x=gV .local\/sc.names.lookup x=gV .cell
 nofree:∀y∈sc.names,y.2≠.free
def nu :∀{binds:Mq (M2×Mu)}{m:M2->MA Mu},(∀v,(x,v)∉binds)->bindL a binds m x=m x
 |[],_,_=>rfl
 |(n,v)::r,m,h=>by
  delta bindL;rw[nu λw hw=>h w (NX _ hw)]
  split
  ·have:x≠n:=by rintro rfl;show h v OB
   simp[this]
  ·rfl
def nv :∀{binds:Mq (M2×Mu)}{m:M2->MA Mu},(∀v,(x,v)∉binds)->bindC a binds m x=m x
 |[],_,_=>rfl
 |(n,v)::r,m,h=>by
  delta bindC;rw[nv λw hw=>h w (NX _ hw)]
  split
  ·rfl
  ·have:x≠n:=by rintro rfl;show h v OB
   simp[this]
def nw :∀{P:Mq M2}{vs:Mq Mu}{i:Mz}{m:M2->MA Mu},P.Nodup->P[i]?=gV x->vs[i]?=gV v->a x=gV .local->
  bindL a (P.zip vs) m x=gV v
 |[],_,_,_,_,h,_,_=>by simp at h
 |_::_,[],_,_,_,_,h,_=>by simp at h
 |p::P,w::vs,0,m,nd,b,c,hk=>by
  simp at b c;subst b;subst c
  change bindL _ ((p,w)::P.zip vs) m p=_;delta bindL;rw[nu λv d=>(Ox.mp nd).1 (R4 d).1,M4 hk]
  simp
 |p::P,w::vs,i+1,m,nd,b,c,hk=>by
  unfold bindL;show nw  (Ox.mp nd).2 (by simpa using b) (by simpa using c) hk
def ny :∀{P:Mq M2}{vs:Mq Mu}{i:Mz}{m:M2->MA Mu},P.Nodup->P[i]?=gV x->vs[i]?=gV v->a x≠gV .local->
  bindC a (P.zip vs) m x=gV v
 |[],_,_,_,_,h,_,_=>by simp at h
 |_::_,[],_,_,_,_,h,_=>by simp at h
 |p::P,w::vs,0,m,nd,b,c,hk=>by
  simp at b c;subst b;subst c
  change bindC _ ((p,w)::P.zip vs) m p=_;delta bindC;rw[nv λv d=>(Ox.mp nd).1 (R4 d).1,Nm hk]
  simp
 |p::P,w::vs,i+1,m,nd,b,c,hk=>by
  unfold bindC;show ny  (Ox.mp nd).2 (by simpa using b) (by simpa using c) hk
abbrev start (N:Mq M2)(vs:Mq V):St:=vs.map gV++Ny (↥N-↥vs) td
abbrev sK (CX:yz)(P:Nc)(w:Nq)(K:MO)(mg:M2->MA Mu)(base:Nz)(N:Mq M2)(a:M2)(scope:PR)(f:MF)(c:Mu)(A:Nn)(outer:Mq TZ)(s:My)(H:Hp)(E:XK):Cx where
 prog:=P
 w:=w
 K:=K
 mg:=mg
 base:=base
 A:=A.deeper (envOfC a scope ⇑s.heap.objs f c)
 N:=N
 s₀:=s
 H₀:=H
 env:=envOfC a scope ⇑s.heap.objs f c
 outer:=outer
 stack:=envOfC a scope ⇑s.heap.objs f c::outer
 ex:=[]
 calm:=true
 fn:=λ_=>true
 pn:=[]
 xe:=λe g=>wpAny (model P w) (A.deeper (envOfC a scope ⇑s.heap.objs f c)) (leaving (envOfC a scope ⇑s.heap.objs f c) e) (λ_ b=>CX outer H s E e b) (λd b=>CX outer H s E d b) g
def qu {sc:PR}(h:sc.names.lookup x=gV .cell):∃c,(cellsFrom n sc.names []).lookup x=gV c:=by
 have q:=RN _ n [] (.inl h);show NS.mp q
def wJ {K:MO}
  (S:FnScope N ps scope) (hd:A.handled=td) (j:Env0 P w K mg base A outer s H) (hl:↥vs=↥ps) (r:Vals vs us)
  (x:InCallC s ⇑s.heap.objs (bindL (envOfC d scope ⇑s.heap.objs f t).kindOf (ps.zip us) λ_=>td) (cellsFrom (⇑s.heap.objs+1) scope.names []) (bindC (envOfC d scope ⇑s.heap.objs f t).kindOf (ps.zip us) λ_=>td) D) :
  Inv (sK CX P w K mg base N d scope f t A outer s H E) [] (start N vs) H D:=by
 have I:↥ps<=↥N:=by have:=congrArg Vs S.pre;rw[M6]at this;omega
 obtain⟨B,tk,rfl,hk⟩:=x.done;have l:∀b ,b∉(sK CX P w K mg base N d scope f t A outer s H E).ex:=λb z=>absurd (show b∈([])from z) (by simp)
 show#[#[j.mod,S.kind,rfl,rfl,MH _,λy z c B g=>?_,λy n=>?_,λy c _ h=>?_,λ_=>hd,Around.frames_deeper j.frames,.inr #[rfl,rfl],λb z=>absurd z (l b),j.bs,j.bsz,λb _ _=>l b,λb z=>absurd z (l b),j.funs,j.frf],
  rfl,j.bare,Un.kept hk,#[_,x.toInCall.ns,λi y v B g L=>?_],λy c h=>#[_,x.cell y c h],j.hok.fresh (MH _),λy c h=>?_,λp m=>absurd (show p∈([])from m) (by simp),j.hok.kept hk,?_]
 ·show name_of_addr x.apart (Ps B) (Ps g)
 ·rcases n with n|n
  ·show qu n
  ·show absurd rfl (S.nofree _ (Ps n))
 ·show Pe (x.above y c (Ps h))
 ·have hi:i<↥vs:=by
   unfold start at g
   by_cases hi:i<↥vs
   ·show hi
   ·rw[Nt (by simpa using hi)]at g
    rw[List.getElem?_replicate]at g;split at g<;>cases g
  have G:vs[i]?=gV v:=by
   unfold start at g;rw[No (by simpa using hi),MD]at g
   cases e:vs[i]? with
   |none=>rw[e]at g;cases g
   |some a=>rw[e]at g;cases g;rfl
  obtain⟨u,C,J⟩:=r.get G;have m:ps[i]?=gV y:=by
   rw[<- S.pre,Qg ∅];show B
  have o:ps.Nodup:=by rw[<- S.pre];show S.nd.sublist (Qz _ _)
  show#[u,J,?_];rcases S.par y (MQ m)with k|k
  ·show .inl #[k,nw o m C k]
  ·obtain⟨c,e⟩:=qu  k;show .inr #[.inl k,c,e,?_];have q:=x.cell y c e;rw[ny o m C (by change scope.names.lookup y≠_;rw[k];decide)]at q
   show q
 ·show j.hok.fresh (Pe (x.above y c (Ps h)))
 ·unfold start;change _=↥N;rw[Mt,Mr,List.length_replicate];omega
def IH {K:MO}{ kV     :Mu}
   (X:K.lookup f=gV #[oc,od,.func (OP name a c body scope L kV doc pm an cdv ct),osl]) (z:Pw K cdv a=true) (S:FnScope N ps scope)
  (len:∀vs H Q E,sp vs H Q E->↥vs=↥ps)
  (h:∀ A outer s H vs Q E,Room k (A.deeper (envOfC a scope ⇑s.heap.objs f cdv))->sp vs H Q E->
   ∃t,PSs (sK CX P w K mg base N a scope f cdv A outer s H E) body t/\t {nx:=λ_ d=>Q .non d,rt:=Q} (start N vs) H) :
  FnOk P w K mg base CX (k+1) f (OP name a c body scope L kV doc pm an cdv ct) ps sp:=by
 show#[len,λA outer s H args us vs Q E B l R r m=>?_]
 have hl:=len _ _ _ _ m;have J:K.In s.heap:=l.mod.kin.keeps λb o e=>(l.bs b o e).1
 have C:s.heap.NoLimit:=l.mod.nolimit.keeps λb o e=>(l.bs b o e).1
 have i:∀y∈ps.zip us,scope.names.lookup y.1=gV .local\/(scope.names.lookup y.1=gV .cell/\((cellsFrom (⇑s.heap.objs+1) scope.names []).lookup y.1).isSome=true):=λ#[n,v] hy=>by
  rcases S.par n (R4 hy).1 with q|q
  ·show .inl q
  ·show .inr #[q,RN _ _ _ (.inl q)]
 show codeAny_call_function B.depth (J _ _ X) rfl S.co S.gen rfl (PySem.W.codeRec_of J z) (R _ _ _ _ ?_);show wpAny_newFunctionEnv_cells S.kind i λenv T M x=>?_
 subst T;show#[C.keeps x.toInCall.keep,codeAny_func ?_];obtain⟨t,W,U⟩:=h A outer s H vs Q E (B.deeper _) m;have I:Inv (sK CX P w K mg base N a scope f cdv A outer s H E) [] (start N vs) H M:=wJ S B.hd l hl r x;show Op (W [] M (start N vs) H _ I U) (λO G j=>?_) λe G j=>j
 have fin:∀{p:St}{d:Hp}{v:V}{u:Mu},Inv (sK CX P w K mg base N a scope f cdv A outer s H E) [] p d G->RelV v u->Q v d->CE outer P w H s Q u G:=
  λ{p d v u} g D q=>#[v,d,g.os,g.bare,g.base,g.hok,D,q]
 cases O with
 |ret u=>
  obtain⟨v,p,d,g,D,q⟩:=j;show fin g D q
 |next=>
  obtain⟨p,d,g,q⟩:=j;show fin (v:=V.non) (u:=OM) g rfl q
 |brk=>
  obtain⟨_,_,_,q⟩:=j;show N6.elim q
 |cont=>
  obtain⟨_,_,_,q⟩:=j;show N6.elim q
section
variable{X:Cx}{x:M2}{p pos:OX}{e:M7}{es:Mq M7}{t:TA}{id T:N9}{r:Mq V->Hp->VK->Prop}
abbrev LQ (r:Mq V->Hp->VK->Prop)(t:TA):TE:=λY H Q=>t Y H λvs a=>r vs a Q
def qw (hc:CallR X (.builtin id) r)(f:Gl X x)(g:X.mg x=td)(j:bootBuiltins x=gV (.builtin id))(c:PA X (e::es) t)(i:x≠"__name__":=by decide)(a:(x==("__debug__"))=false:=by decide)
  (d:starEach (e::es) X.env=(false,eval e X.env)::starEach es X.env:=by rfl) (b:(backTo pos (starEach es X.env)).any (·.1)=false:=by rfl):PE X (.Call (.Name x p) (e::es) [] pos) (LQ r t):=by
 intro J s Y H Q I h;show Qo (eM I f g j ?_ i a);show T6 (bh (c pos J s Y H _ I h) λus k #[vs,H1,I1,r1,q1]=>hc J k Y H1 vs us Q I1 r1 q1) d b
def wK (hc:CallR X (.type T) r)(f:Gl X x)(g:X.mg x=td)(j:bootBuiltins x=gV (.type T))(c:PA X (e::es) t)(i:x≠"__name__":=by decide)(a:(x==("__debug__"))=false:=by decide)
  (d:starEach (e::es) X.env=(false,eval e X.env)::starEach es X.env:=by rfl) (b:(backTo pos (starEach es X.env)).any (·.1)=false:=by rfl):PE X (.Call (.Name x p) (e::es) [] pos) (LQ r t):=by
 intro J s Y H Q I h;show Qo (eM I f g j ?_ i a);show NU (bh (c pos J s Y H _ I h) λus k #[vs,H1,I1,r1,q1]=>hc J k Y H1 vs us Q I1 r1 q1) d b
end
end L2
namespace HT
open PySem PyProof.Rows
section
open PySem.SeqAt
open PySem.AutoSeq1 (wpAny_loadPart')
open PySem.MeetsSeq PySem.MeetsSeq2 PySem.MeetsSeq3
end
section
variable{prog:Nc}{w:Nq}{A:Nn}{E:Mu->My->Prop}{s:My}
def Cj (u:R1 s.heap t vs.toArray)(r:R1 s.heap b ws.toArray)(l:vs≠[])
  (p:ws=[]->Q (.ref t) s) (q:ws≠[]->Q (.ref ⇑s.heap.objs) {s with heap:=s.heap.push {cls:=.type "tuple",data:=.seq (vs++ws).toArray}})
  (hsz:↥vs+↥ws<=sizeLine):wpAny (model prog w) A (binaryOp .Add (.ref t) (.ref b)) Q E s:=by
 obtain⟨⟨cls,k,data,o⟩,h,hc,n,hd⟩:=id u;obtain⟨⟨j,c,i,g⟩,a,d,m,f⟩:=id r;simp only at hc hd d f;subst hc hd d f;have e:vs.toArray++ws.toArray=(vs++ws).toArray:=by simp
 by_cases hw:ws=[]
 ·show TD #[_,h,rfl] #[_,a,rfl] RD SV QA Qv (Qh _ _)
   (tuple_addW1 t b vs.toArray ws.toArray n m k c o g (by simpa using l) (by simp[hw])) #[h,a,p hw]
 ·show TD #[_,h,rfl] #[_,a,rfl] RD SV QA Qv (Qh _ _)
   (tuple_addW2 t b vs.toArray ws.toArray n m k c o g (by simpa using l) (by simpa using hw) (by rw[MV,MV];show hsz)) #[h,a,?_]
  rw[e];show q hw
abbrev dE (n d:Mz):MA MM->Mz
 |none=>d
 |some v=>if v<0 then(v+(n:MM)).toNat else min v.toNat n
def yD (n d:Mz):dE n d td=d:=rfl
def Ck (n d k:Mz):dE n d (gV k)=min k n:=by
 show(if k<0 then(k+(n:MM)).toNat else min _ n)=min k n
 rw[Nm ∅,M0]
def uQ (v:MM)(n d:Mz):(if v<0 then max (v+n) 0 else min v n)=((dE n d (gV v))):=by
 show(if v<0 then max _ 0 else min v n)=(if v<0 then(v+n).toNat else min _ n)
 by_cases a:v<0
 ·simp only[M4 a];omega
 ·simp only[Nm a];omega
def sL (lo hi:MA MM)(n:Mz):P6 lo hi 1 n=(((dE n 0 lo):MM),((dE n n hi):MM)):=by
 unfold P6;show V7 ?_ ?_
 ·cases lo with
  |none=>rfl
  |some v=>show uQ v n 0
 ·cases hi with
  |none=>rfl
  |some v=>show uQ v n n
def sM (i j:Mz):P7 i j 1=j-i:=by
 unfold P7;have a:(1:MM) > 0:=∅
 revert a Qm Int.ediv_one;split<;>omega
def kW (p:Rf v o)(h:Q o s):wpAny (model prog w) A (Up v) Q E s:=by
 cases p with
 |none=>show UD h
 |int i t=>show slicePart_int h
def eU {lo :MA MM}{Q:MM×MM×Mz->My->Prop}(g:s.heap.IsSliceOf e c d .none)(i:Rf c lo)(j:Rf d hi)
  (h:Q (((dE n 0 lo)),1,dE n n hi-dE n 0 lo) s):wpAny (model prog w) A (UE (.ref e) (pure n)) Q E s:=by
 obtain⟨os,b,f,a⟩:=id g;show Ms (Ms (N4 b a (x:=c) rfl (Ms (N4 b a (x:=d) rfl (Ms (N4 b a  rfl (ME ?_)))))));show Ms (UD ?_);show Ms (kW i (Ms (kW j (Ms (ME ?_)))));change wpAny _ _ (match P6 lo hi 1 n with|(lo,hi)=>pure (lo,(1:MM),P7 lo hi 1)) _ _ s
 rw[sL lo hi n];change wpAny _ _ (pure _) _ _ s;rw[sM];show ME h
def yE (xs:NH Mu)(i k:Mz):((MJ k).filterMap λ(m:Mz)=>xs[(i+(m:MM)*1).toNat]?).toArray=((xs.toList.drop i).take k).toArray:=by
 have e:(λ(m:Mz)=>xs[(i+(m:MM)*1).toNat]?)=λm=>xs[i+m]?:=by
  funext m
  have:(i+(m:MM)*1).toNat=i+m:=∅
  rw[this]
 rw[e];have:=pick_run xs i k;rw[List.filterMap_map]at this;have a:((λx=>xs[x]?)∘λx=>i+x)=λm=>xs[i+m]?:=rfl
 rw[a]at this;rw[this]
def iG {lo :MA MM}(b:R1 s.heap t items)(i:s.heap.IsSliceOf g j k .none)(m:Rf j lo)(n:Rf k hi)
  (hw:¬ (dE ⇑items 0 lo=0/\dE ⇑items ⇑items hi=⇑items))
  (h:Q (.ref ⇑s.heap.objs) {s with heap:=s.heap.push {cls:=.type "tuple",data:=.seq ((items.toList.drop (dE ⇑items 0 lo)).take (dE ⇑items ⇑items hi-dE ⇑items 0 lo)).toArray}})
  (hsz:⇑items<=sizeLine):wpAny (model prog w) A (getItem (.ref t) (.ref g)) Q E s:=by
 have a:sizeOk (.seq ((items.toList.drop (dE ⇑items 0 lo)).take (dE ⇑items ⇑items hi-dE ⇑items 0 lo)).toArray):=by
  show((items.toList.drop _).take _).toArray.size<=sizeLine;rw[MV,M6,QN,Nv];omega
 obtain⟨os,f,d,l⟩:=id i;have c:s.TypeIs (.ref g) "slice":=#[os,f,d];unfold getItem
 try with_reducible show N1 ?_
 first|refine Ms (ME ?_)|skip
 show Ms (TF b.typeIs #v[] ?_)
 show Ms (NN  b.typeIs OJ
  (N2 OJ b.typeIs SO ?_ (Th _ _)))
 change wpAny _ _ (PZ (.ref t) >>= _) _ _ s;show Ms (UU b ?_);show Ms (P2 c ?_);show Ms (eU i m n ?_);have e:¬ ((((dE ⇑items 0 lo):MM)==0&&(1:MM)==1&&(dE ⇑items ⇑items hi-dE ⇑items 0 lo)==⇑items)=true):=by
  intro q;rw[MB,MB]at q;have o:=eq_of_beq q.1.1;have p:=eq_of_beq q.2;show hw #[∅,∅]
 change wpAny _ _ (if (((dE ⇑items 0 lo):MM)==0&&1==1&&(dE ⇑items ⇑items hi-dE ⇑items 0 lo)==⇑items)=true then _ else _) _ _ s
 rw[Nm e,yE]
 first
  |show Ms  (NO (ME #[_,rfl,ME h]) a)
  |show Ms  (NO (Ms (ME (ME #[_,rfl,ME h]))) a)
  |show Ms (Ms  (NO (ME (ME #[_,rfl,ME h])) a))
  |show Ms (Ms  (NO (ME #[_,rfl,ME h]) a))
end
end HT
namespace L2
open PySem PySem.Spec PyProof.Rows
noncomputable abbrev TO:=St->Hp->(MA MM->Hp->Prop)->Prop
abbrev PO (X:Cx)(e:MA M7)(t:TO):Prop:=
 ∀(J:Mq (MF×Of)) (s:My) (Y:St) (H:Hp) (Q:MA MM->Hp->Prop),Inv X J Y H s->t Y H Q->
  wpAny (model X.prog X.w) X.A (evalPart e X.env) (λu b=>∃o a,Inv X J Y a b/\Rf u o/\Q o a) X.xe s
abbrev Cm:TO:=λ_ H Q=>Q td H
abbrev II (t:TE):TO:=λY H Q=>t Y H λx a=>∃i,x=.int i/\Q (gV i) a
section
variable{X:Cx}{e:M7}{te:TE}{lo hi:MA M7}{tl th:TO}{pos p2:OX}
def Cn:PO X td Cm:=by
 intro J s Y H Q I h;show ME #[td,H,I,.none,h]
def Co (h:PE X e te):PO X (gV e) (II te):=by
 intro J s Y H Q I hw;show bh (h _ s Y H _ I hw) λu a #[x,H1,I1,r1,q1]=>?_
 obtain⟨i,rfl,q⟩:=q1;obtain⟨t,rfl⟩:=r1;show#[gV i,H1,I1,.int i t,q]
abbrev IJ (X:Cx)(r:V->MA MM->MA MM->Hp->VK->Prop):Prop:=
 ∀(J:Mq (MF×Of)) (s:My) (Y:St) (H:Hp) (x:V) (v vl vu:Mu) (lo hi:MA MM) (sl:MF) (Q:VK),Inv X J Y H s->RelV x v->s.heap.IsSliceOf sl vl vu .none->Rf vl lo->Rf vu hi->r x lo hi H Q->
  ∃T id,typeLookup (.type T) "__getitem__" = pure (gV (.builtin id))/\s.TypeIs v T/\wpAny (model X.prog X.w) X.A (getItem v (.ref sl)) (EP X J Y Q) X.xe s
abbrev Mc (r:V->MA MM->MA MM->Hp->VK->Prop)(te:TE)(tl th:TO):TE:=λY H Q=>te Y H λx a=>tl Y a λl b=>th Y b λu c=>r x l u c Q
def yF (k:IJ X r)(i:PE X e te)(hl:PO X lo tl)(n:PO X hi th):PE X (.Subscript e (.Slice lo hi td p2) pos) (Mc r te tl th):=by
 intro J s Y H Q I h;show Subscript_ (bh (i J s Y H _ I h) λv o #[x,H1,I1,r1,q1]=>?_)
 show wpAny_Slice (bh (hl J o Y H1 _ I1 q1) λc p #[l,H2,I2,pl,q2]=>bh (n J p Y H2 _ I2 q2) λd a #[u,H3,I3,pu,q3]=>?_)
 rw[evalPart_none];show ME ?_;have f:Inv X J Y H3 {a with heap:=a.heap.push {cls:=.type "slice",data:=.fields [c,d,.none].toArray}}:=I3.kept (t':=a.toks) λb ob q=>Mw _ q
 obtain⟨T,id,g,m,j⟩:=k J {a with heap:=a.heap.push {cls:=.type "slice",data:=.fields [c,d,.none].toArray}} Y H3 x v c d l u ⇑a.heap.objs Q f r1 (VI ..) pl pu q3
 change wpAny (model X.prog X.w) X.A (subscriptTail e (.Slice lo hi td p2) v (.ref ⇑a.heap.objs)) (EP X J Y Q) X.xe {a with heap:=a.heap.push {cls:=.type "slice",data:=.fields [c,d,.none].toArray}}
 show tail_any (ops:=[.ref ⇑a.heap.objs,v]) m g j (by with_unfolding_all rfl)
abbrev oP (xs:Mq V)(lo hi:MA MM):Mq V:=(xs.drop (HT.dE ↥xs 0 lo)).take (HT.dE ↥xs ↥xs hi-HT.dE ↥xs 0 lo)
def jP (xs:Mq V)(lo hi:MA MM):(oP xs lo hi).length<=↥xs:=by
 unfold oP;rw[M6,QN];omega
abbrev K1 (K:MO):V->MA MM->MA MM->Hp->VK->Prop:=λx lo hi H Q=>∃a xs,x=.ref a/\SqT K H a xs/\
 ¬ (HT.dE ↥xs 0 lo=0/\HT.dE ↥xs ↥xs hi=↥xs)/\∀p,H p=td->Q (.ref p) (bK H p (.tup (oP xs lo hi)))
def F1:IJ X (K1 X.K):=by
 intro J s Y H x v n o lo hi m Q I l g j k h;obtain⟨a,xs,rfl,i,hw,q⟩:=h;cases l;obtain⟨d,r,e,f⟩:=I.tuple i;have c:⇑d.toArray=↥xs:=by show r.length.symm
 show#["tuple",_,PyProof.Rows.slot_tuple_getitem.lookup,e.typeIs,?_];show HT.iG e g j k (by rw[c];show hw) ?_ (by rw[c];show f)
 rw[c];show#[.ref _,_,I.laid   (λb ob q=>Mw _ q) (MH _) ?_,rfl,q _ (I.hok.fresh (MH _))]
 show#[#[M1 (jP xs lo hi) f,NoD.new _ _ _],_,(r.drop _).take _,T5 _ _]
def Vals.nil_iff (r:Vals xs us):us=[]↔xs=[]:=by
 cases r with
 |nil=>simp
 |cons _ _=>simp
end
abbrev yd (n:Mz)(i:MM):MA Mz:=if 0<=i then(if i<n then gV i.toNat else td)else if -(n:MM)<=i then gV (i+n).toNat else td
abbrev sE {α:Type}(xs:Mq α)(i:MM):MA α:=(yd ↥xs i).bind λj=>xs[j]?
def uR (h:yd n i=gV j):seqIndex? i n=gV j/\j<n/\-n<=i/\i<n:=by
 unfold yd at h
 by_cases b:0<=i
 ·rw[M4 b]at h
  by_cases a:i<n
  ·rw[M4 a]at h;have e:=NE h;show#[by rw[Uk b a,e],∅,∅,a]
  ·rw[Nm a]at h;cases h
 ·rw[Nm b]at h
  by_cases a : -n<=i
  ·rw[M4 a]at h;have e:=NE h;show#[by rw[TH ∅ a,e],∅,a,∅]
  ·rw[Nm a]at h;cases h
def oQ (h:sE xs i=gV v):∃j,seqIndex? i ↥xs=gV j/\xs[j]?=gV v/\j<↥xs/\-(↥xs)<=i/\i<↥xs:=by
 unfold sE at h;cases e:yd _ i with
 |none=>rw[e]at h;cases h
 |some j=>
  rw[e]at h;obtain⟨a,b,c,d⟩:=uR e;show#[j,a,h,b,c,d]
def atI_nat {j:Mz}(h:xs[j]?=gV v):sE xs j=gV v:=by
 have a:=(MP.mp h).1;have e:yd ↥xs j=gV j:=by
  unfold yd;rw[M4 (by show MK _),M4 (by show QY.mpr ‹_›)];rfl
 unfold sE;rw[e];show h
abbrev oR (b:M7):Prop:=∀o i,subscripted b false o i=operate [o,i] (getItem o i)
abbrev IxR (X:Cx)(r:R2):Prop:=
 ∀(b a:M7) (J:Mq (MF×Of)) (s:My) (Y:St) (H:Hp) (x y:V) (v u:Mu) (Q:VK),Inv X J Y H s->RelV x v->RelV y u->r x y H Q->
  subscripted a false v u=operate [v,u] (getItem v u)->wpAny (model X.prog X.w) X.A (subscriptTail b a v u) (EP X J Y Q) X.xe s
abbrev MtR (X:Cx)(id:N9)(r:V->Mq V->Hp->VK->Prop):Prop:=
 ∀(J:Mq (MF×Of)) (s:My) (Y:St) (H:Hp) (x:V) (xs:Mq V) (v:Mu) (us:Mq Mu) (Q:VK),Inv X J Y H s->RelV x v->Vals xs us->r x xs H Q->
  wpAny (model X.prog X.w) X.A (call (.builtin id) (v::us)) (EP X J Y Q) X.xe s
section
variable{X:Cx}{a b:M7}{ta tb:TE}{pos:OX}
def IK (g:IxR X r)(e:PE X a ta)(f:PE X b tb)(i:oR b):PE X (.Subscript a b pos) (Kn r ta tb):=by
 intro J s Y H Q I h;show Subscript_ (FN e f I h λv u l x y c d j k q=>g a b J l Y c x y v u Q d j k q (i _ _))
abbrev K4 (K:MO):R2:=λx y H Q=>∃p xs i v,x=.ref p/\y=.int i/\SqL K H p xs/\sE xs i=gV v/\Q v H
abbrev K5 (K:MO):R2:=λx y H Q=>∃p xs i v,x=.ref p/\y=.int i/\SqT K H p xs/\sE xs i=gV v/\Q v H
abbrev K6:R2:=λx y H Q=>∃z i c,x=.str z/\y=.int i/\↥z<=sizeLine/\sE z.cps.toList i=gV c/\Q (.str #[[c].toArray]) H
def Cp:IxR X (K4 X.K):=by
 intro g f J s Y H x y v u Q I D E h m;obtain⟨p,xs,i,z,rfl,rfl,C,B,q⟩:=h;cases D;obtain⟨t,rfl⟩:=E;obtain⟨c,r,d,M⟩:=I.list C;obtain⟨j,a,n,G,o,A⟩:=oQ B;obtain⟨w,k,e⟩:=r.get n;have hl:=↥r;have L:=oM;have fin:EP X _ Y Q w s:=#[z,H,I,e,q]
 by_cases l:0<=i
 ·have b:i.toNat=j:=by
   rw[Uk l A]at a;show NE a
  show item_listR d.isList l ∅ (by rw[b];simpa using k) fin m
 ·have b:(i+⇑c.toArray).toNat=j:=by
   rw[TH ∅ o]at a
   rw[MV,<- hl];show NE a
  show PC  d.isList.typeIs slot_list_getitem.lookup
   (wpAny_getItem_list_neg  d.isList ∅ (by rw[MV]<;>omega) ∅ (by rw[b];simpa using k) #[rfl,fin]) m
def F2:IxR X (K5 X.K):=by
 intro c b J s Y H x y v u Q I o A h m;obtain⟨p,xs,i,z,rfl,rfl,l,k,q⟩:=h;cases o;obtain⟨t,rfl⟩:=A;obtain⟨n,r,d,G⟩:=I.tuple l;obtain⟨j,f,g,B,C,D⟩:=oQ k;obtain⟨w,e,a⟩:=r.get g;have hl:=↥r;have E:=oM;have fin:EP X _ Y Q w s:=#[z,H,I,a,q];show PC  d.typeIs slot_tuple_getitem.lookup
  (getItem_tuple   d ∅ ∅ (by rw[MV,<- hl];show f) (by simpa using e) #[rfl,fin]) m
def F3:IxR X K6:=by
 intro b a J s Y H x y v u Q I o p h n;obtain⟨z,i,c,rfl,rfl,A,m,q⟩:=h;obtain⟨t,rfl⟩:=o;obtain⟨t',rfl⟩:=p;obtain⟨j,d,g,r,k,l⟩:=oQ m;have hl:↥z.cps.toList=↥z:=by simp[Str.length]
 rw[hl]at d k l;have w:=oM;show tail_any (typeIs_str s z t) slot_str_getitem.lookup (getItem_str  (by
  have e:decide (i < -(2^63))=false:=Nk ∅
  have f:decide (i>=2^63)=false:=Nk ∅
  rw[e,f,UV]) (by rw[d];simpa using g) #[.str _,H,I.tok _,#[_,rfl],q]) n
def sN (a:Mq Mu)(n j:Mz)(u:Mu):OF (·.setIfInBounds j u) {cls:=.type "list",data:=.seq a.toArray n}={cls:=.type "list",data:=.seq (a.set j u).toArray n}:=by
 simp[OF]
def Inv.lst {Y:St}(I:Inv X J Y H s)(h:H p=gV (.lst xs)) :
  ∃ a n,Vals xs a/\s.heap.get? p=gV {cls:=.type "list",data:=.seq a.toArray n}/\↥xs<=sizeLine:=by
 obtain⟨z,a,n,r,e⟩:=I.hok p _ h;show#[a,n,r,e,z]
def Inv.lstUpd {Y:St}{c a:Mq Mu}(I:Inv X J Y H s)(h:H p=gV (.lst xs))
  (j:s.heap.get? p=gV {cls:=.type "list",data:=.seq c.toArray n}) (g:f {cls:=.type "list",data:=.seq c.toArray n}={cls:=.type "list",data:=.seq a.toArray d}) (r:Vals ys a) (k:↥ys<=sizeLine) (t:Mz) :
  Inv X J Y (bK H p (.lst ys)) {s with heap:=s.heap.update p f,toks:=t}:=by
 have e:(s.heap.update p f).get? p=gV {cls:=.type "list",data:=.seq a.toArray d}:=by
  rw[Pb f j (by rw[g]<;>rfl),g]
 show I.write (x:=p) (e:=p) (by rw[h];trivial) (.inl rfl) (λb u i q=>(NV _ _ (Ne.symm i)).trans q) #[_,e] ?_
 show#[k,a,d,r,e]
abbrev IL:V->V->V->Hp->(Hp->Prop)->Prop:=λo i v H Q=>∃p xs k j,o=.ref p/\i=.int k/\H p=gV (.lst xs)/\yd ↥xs k=gV j/\Q (bK H p (.lst (xs.set j v)))
def yG:FC X IL:=by
 intro J s Y H o i v D C u Q I y x z h;obtain⟨p,xs,k,j,rfl,rfl,l,m,q⟩:=h;cases y;obtain⟨t,rfl⟩:=x;obtain⟨a,n,r,c,w⟩:=I.lst l;obtain⟨b,A,f,g⟩:=uR m;have hl:=↥r;have B:=oM;have d:=
  I.lstUpd l c (sN a n j u) (r.set z j) (by rw[List.length_set];show w) s.toks
 by_cases e:0<=k
 ·have hk:k.toNat=j:=by
   rw[Uk e g]at b;show NE b
  show PySem.W.ki_setAt c e ∅ (by rw[MV,<- hl];show g) (by rw[hk];show#[_,d,q])
 ·have hk:(k+⇑a.toArray).toNat=j:=by
   rw[TH ∅ f]at b
   rw[MV,<- hl];show NE b
  show PySem.W.ki_setBack c ∅ (by rw[MV,<- hl];show f) ∅ (by rw[hk];show#[_,d,q])
def oT (lo hi:MA MM)(n:Mz):(sliceBounds lo hi td n).1=((HT.dE n 0 lo))/\(sliceBounds lo hi td n).2.1=((HT.dE n n hi))/\(sliceBounds lo hi td n).2.2=1:=by
 show#[?_,?_,rfl]
 ·cases lo with
  |none=>(delta sliceBounds HT.dE;simp)
  |some i=>
   (delta sliceBounds HT.dE;simp only[T7,show(1:MM) > 0 by decide,Qm])
   by_cases h:i<0
   ·simp only[h,Qm]<;>omega
   ·simp only[h,QT]<;>omega
 ·cases hi with
  |none=>(delta sliceBounds HT.dE;simp)
  |some i=>
   (delta sliceBounds HT.dE;simp only[T7,show(1:MM) > 0 by decide,Qm])
   by_cases h:i<0
   ·simp only[h,Qm]<;>omega
   ·simp only[h,QT]<;>omega
def mS (a:Mq Mu)(lo hi:MA MM):slicePick a.toArray lo hi td=((a.drop (HT.dE ↥a 0 lo)).take (HT.dE ↥a ↥a hi-HT.dE ↥a 0 lo)).toArray:=by
 obtain⟨b,c,d⟩:=oT lo hi _;unfold slicePick;rw[b,c,d];simp only[sliceRange_one,pick_run]<;>rfl
abbrev K7 (K:MO):V->MA MM->MA MM->Hp->VK->Prop:=λx lo hi H Q=>∃a xs,x=.ref a/\SqL K H a xs/\∀p,H p=td->Q (.ref p) (bK H p (.lst (oP xs lo hi)))
def Cq:IJ X (K7 X.K):=by
 intro J s Y H x v n o lo hi m Q I l e j k h;obtain⟨a,xs,rfl,f,q⟩:=h;cases l;obtain⟨i,r,d,g⟩:=I.list f;have c:=↥r;show#["list",_,slot_list_getitem.lookup,d.isList.typeIs,?_];show wpAny_getItem_list_slice d.isList e j k .none (by trivial) ?_ (by rw[MV]<;>omega)
 rw[mS,<- c];show#[.ref _,_,I.laid   (λb ob q=>Mw _ q) (MH _) ?_,rfl,q _ (I.hok.fresh (MH _))]
 show#[M1 (jP xs lo hi) g,_,0,(r.drop _).take _,MT _ rfl]
abbrev gX:V->M9
 |.non=>true
 |.bl _=>true
 |.int _=>true
 |.str _=>true
 |_=>false
abbrev Cr:V->V->M9
 |.non,.non=>true
 |.bl a,.bl b=>a==b
 |.bl a,.int b=>(if a then 1 else 0)==b
 |.int a,.bl b=>a==(if b then 1 else 0)
 |.int a,.int b=>a==b
 |.str a,.str b=>a==b
 |_,_=>false
def F4 (e:RelV y u)(c:RelV x v)(f:gX y=true)(d:gX x=true):QP A s u v (Cr y x):=by
 cases y with
 |non=>
  cases e;cases x with
  |non=>cases c;show V0 _
  |bl b=>cases c;show Vt b
  |int b=>obtain⟨t,rfl⟩:=c;show Vz b t
  |str b=>obtain⟨t,rfl⟩:=c;show VA b t
  |_=>show absurd d Nu
 |bl a=>
  cases e;cases x with
  |non=>cases c;show Vu a
  |bl b=>cases c;show Vv a b
  |int b=>obtain⟨t,rfl⟩:=c;show VB a b t
  |str b=>obtain⟨t,rfl⟩:=c;show VC a b t
  |_=>show absurd d Nu
 |int a=>
  obtain⟨t',rfl⟩:=e;cases x with
  |non=>cases c;show VD a t'
  |bl b=>cases c;show VE a t' b
  |int b=>obtain⟨t,rfl⟩:=c;show VJ a t' b t
  |str b=>obtain⟨t,rfl⟩:=c;show Ta a t' b t
  |_=>show absurd d Nu
 |str a=>
  obtain⟨t',rfl⟩:=e;cases x with
  |non=>cases c;show VF a t'
  |bl b=>cases c;show VG a t' b
  |int b=>obtain⟨t,rfl⟩:=c;show Tb a t' b t
  |str b=>obtain⟨t,rfl⟩:=c;show VL a t' b t
  |_=>show absurd d Nu
 |_=>show absurd f Nu
abbrev BX (x:V)(u:Mu):M9:=match u with
 |.none=>Cr .non x
 |.bool b=>Cr (.bl b) x
 |.int i _=>Cr (.int i) x
 |.str z _=>Cr (.str z) x
 |_=>false
def sO (r:RelV y u)(f:gX y=true):BX x u=Cr y x:=by
 cases y with
 |non=>cases r;rfl
 |bl b=>cases r;rfl
 |int i=>obtain⟨t,rfl⟩:=r;rfl
 |str z=>obtain⟨t,rfl⟩:=r;rfl
 |_=>show absurd f Nu
def iH :∀{xs:Mq V}{us:Mq Mu},Vals xs us->xs.all gX=true->us.any (BX x)=xs.any λy=>Cr y x
 |_,_,.nil,_=>rfl
 |y::xs,u::us,.cons r t,f=>by
  rw[NG,MB]at f;rw[Oj,Oj,sO r f.1,iH t f.2]
def dW (c:RelV x v)(b:gX x=true):∀{xs:Mq V}{us:Mq Mu},Vals xs us->xs.all gX=true->∀u∈us,QP A s u v (BX x u)
 |_,_,.nil,_=>λu a=>by cases a
 |y::xs,u::us,.cons r t,f=>λd a=>by
  rw[NG,MB]at f;rcases M5.mp a with rfl|a
  ·rw[sO r f.1];show F4 r c f.1 b
  ·show dW c b t f.2 d a
abbrev Kq (x:V)(xs:Mq V):M9:=xs.any λy=>Cr y x
abbrev K8 (K:MO)(a:M9):R2:=λx y H Q=>∃p xs,y=.ref p/\(SqL K H p xs\/SqT K H p xs)/\gX x=true/\xs.all gX=true/\Q (.bl (if a then !Kq x xs else Kq x xs)) H
def wL:OpR X (compareOp .In) (K8 X.K false):=by
 intro J s Y H x y v u Q I f i h;obtain⟨p,xs,rfl,b,e,c,q⟩:=h;cases i;rcases b with b|b
 ·obtain⟨a,r,d,g⟩:=I.list b;show Uq _ d.isList (λw hw=>dW f e r c w (by simpa using hw)) #[.bl _,H,I,rfl,?_]
  rw[show a.toArray.any _=a.any (BX x) by simp,iH r c]
  show q
 ·obtain⟨a,r,d,g⟩:=I.tuple b;show T8 _ d (λw hw=>dW f e r c w (by simpa using hw)) #[.bl _,H,I,rfl,?_]
  rw[show a.toArray.any _=a.any (BX x) by simp,iH r c]
  show q
def oU:OpR X (compareOp .NotIn) (K8 X.K true):=by
 intro J s Y H x y v u Q I f i h;obtain⟨p,xs,rfl,b,e,c,q⟩:=h;cases i;rcases b with b|b
 ·obtain⟨a,r,d,g⟩:=I.list b;show Ti _ d.isList (λw hw=>dW f e r c w (by simpa using hw)) #[.bl _,H,I,rfl,?_]
  rw[show a.toArray.any _=a.any (BX x) by simp,iH r c]
  show q
 ·obtain⟨a,r,d,g⟩:=I.tuple b;show SeqAt.notIn_tupleAt _ d (λw hw=>dW f e r c w (by simpa using hw)) #[.bl _,H,I,rfl,?_]
  rw[show a.toArray.any _=a.any (BX x) by simp,iH r c]
  show q
def oV:CallR X (.type "list") (λxs H Q=>∃p ys,xs=[.ref p]/\(SqL X.K H p ys\/SqT X.K H p ys)/\∀l,H l=td->Q (.ref l) (bK H l (.lst ys))):=by
 intro J s Y H xs us Q I r h;obtain⟨p,ys,rfl,g,q⟩:=h;obtain⟨u,rfl,t⟩:=qt r;cases t;have fin:∀a,Vals ys a->↥ys<=sizeLine->∀h' d,(∀b m,s.heap.get? b=gV m->h'.get? b=gV m)->
   h'.get? ⇑s.heap.objs=gV _->EP X _ Y Q _ {s with heap:=h'}:=λa c i h' d kp e=>
  #[.ref _,_,I.laid  kp (MH _) (show ObjOk _ X.w _ h' _ (.lst ys)from#[i,a,d,c,e]),rfl,q _ (I.hok.fresh (MH _))]
 rcases g with g|g
 ·obtain⟨a,c,k,i⟩:=I.list g;have f:=↥c;obtain⟨o,j,hc,n,hd⟩:=k.isList;show UW p (.inl rfl) j hc hd (λh' d kp e=>fin a c i h' d kp e) (by simp only[MV]<;>omega)
 ·obtain⟨a,c,k,i⟩:=I.tuple g;have f:=↥c;obtain⟨o,j,hc,n,hd⟩:=k;show UW p (.inr rfl) j hc hd (λh' d kp e=>fin a c i h' d kp e) (by simp only[MV]<;>omega)
def gY:CallR X (.type "tuple") (λxs H Q=>∃p ys,xs=[.ref p]/\((SqL X.K H p ys/\∀l,H l=td->Q (.ref l) (bK H l (.tup ys)))\/(SqT X.K H p ys/\Q (.ref p) H))):=by
 intro J s Y H xs us Q I r h;obtain⟨p,ys,rfl,h⟩:=h;obtain⟨u,rfl,m⟩:=qt r;cases m;rcases h with⟨c,q⟩|⟨c,q⟩
 ·obtain⟨a,f,d,j⟩:=I.list c;have i:=↥f;show call_tuple_list d.isList (λh' kp=>?_) (by simp only[MV]<;>omega)
  have g:Inv X _ Y H {s with heap:=h'}:=I.kept  kp
  have k:Inv X _ Y (bK H _ (.tup ys)) {s with heap:=h'.push _}:=
   g.laid  (λb o e=>Mw _ e) (MH _) #[#[j,NoD.new _ _ _],a,f,T5 _ _]
  show#[.ref ⇑h'.objs,_,k,rfl,q _ (g.hok.fresh (MH _))]
 ·obtain⟨a,f,d,j⟩:=I.tuple c;show call_tuple_same d #[.ref p,H,I,rfl,q]
abbrev Mf (K:MO)(T:N9)(x:V)(H:Hp):Prop:=match x with
 |.str _=>T="str"
 |.int _=>T="int"
 |.ref p=>(T="list"/\∃xs,SqL K H p xs)\/(T="tuple"/\∃o,K.lookup p=gV o/\o.cls=.type "tuple"/\o.dict=td)\/
   (T="dict"/\((∃U,H p=gV (.dK U))\/∃U,H p=gV (.dT U)))\/(T="set"/\∃S n,H p=gV (.set S n))
 |_=>N6
def yH {Y:St}(I:Inv X J Y H s)(r:RelV x v)(ty:Mf X.K T x H) :
  s.TypeIs v T/\∀a,v=.ref a->∃ob,s.heap.get? a=gV ob/\ob.dict=td:=by
 cases x with
 |str z=>
  obtain⟨t,rfl⟩:=r;cases ty;show#[typeIs_str s z t,λ_ e=>nomatch e]
 |int i=>
  obtain⟨t,rfl⟩:=r;cases ty;show#[UF s i t,λ_ e=>nomatch e]
 |ref p=>
  cases r;rcases ty with⟨rfl,xs,f⟩|⟨rfl,o,hk,hc,hd⟩|⟨rfl,hk⟩|⟨rfl,S,n,hk⟩
  ·obtain⟨g,_,d,_⟩:=I.list f;show#[d.isList.typeIs,λa e=>?_]
   cases e;obtain⟨o,n,e,c,hd,_⟩:=d;show#[o,e,hd]
  ·show#[#[o,I.kIn p o hk,hc],λa e=>?_]
   cases e;show#[o,I.kIn _ o hk,hd]
  ·have z:∃o,s.heap.get? p=gV o/\o.ExactDict:=by
    rcases hk with⟨U,hk⟩|⟨U,hk⟩
    ·obtain⟨_,_,_,_,o,_,_,e,ex,_⟩:=I.hok p _ hk;show#[o,e,ex]
    ·obtain⟨_,_,_,_,o,_,_,e,ex,_⟩:=I.hok p _ hk;show#[o,e,ex]
   obtain⟨o,e,ex⟩:=z;show#[#[o,e,ex.1],λa b=>?_]
   cases b;show#[o,e,ex.2.1]
  ·obtain⟨o,_,_,_,e,ex,_⟩:=I.hok p _ hk;show#[#[o,e,ex.1],λa b=>?_]
   cases b;show#[o,e,ex.2.1]
 |_=>show N6.elim ty
variable{o e:M7}{es:Mq M7}{to:TE}{t:TA}{name:M2}{apos cpos:OX}{T id:N9}{r:V->Mq V->Hp->VK->Prop}
end
abbrev K9 (X:Cx)(id:N9)(r:V->Mq V->Hp->VK->Prop):Prop:=
 ∀(J:Mq (MF×Of)) (s:My) (Y:St) (H:Hp) (x:V) (xs:Mq V) (v:Mu) (us:Mq Mu) (Q:VK),Inv X J Y H s->RelV x v->Vals xs us->r x xs H Q->
  wpAny (model X.prog X.w) X.A (call (.builtin id) (v::us)) (EP X J Y Q) X.xe s
def Vals.one:∀{x:V}{us:Mq Mu},Vals [x] us->∃u,us=[u]/\RelV x u
 |_,_,.cons r .nil=>#[_,rfl,r]
def Vals.eraseIdx:∀{xs:Mq V}{us:Mq Mu} i,Vals xs us->Vals (xs.eraseIdx i) (us.eraseIdx i)
 |_,_,_,.nil=>.nil
 |_,_,0,.cons _ t=>t
 |_,_,i+1,.cons r t=>.cons r (Vals.eraseIdx i t)
def Vals.rep (h:Vals xs us):∀k:Mz,Vals (Ny k xs).flatten (Ny k us).flatten
 |0=>.nil
 |k+1=>by
  show Vals.append h (Vals.rep h k)
def nz {α:Type}:∀(l:Mq α) i,(l.eraseIdx i).length<=↥l
 |[],_=>MH _
 |_::_,0=>Pz _
 |_::r,i+1=>RE (nz r i)
def nA (b:Mq Mu):∀ k a,
  VM (λd f=>d++f) a.toArray (Ny k b.toArray)=(a++(Ny k b).flatten).toArray
 |0,a=>by simp
 |k+1,a=>by
  have e:a.toArray++b.toArray=(a++b).toArray:=by simp
  have c:(a++b)++(Ny k b).flatten=a++(Ny (k+1) b).flatten:=by
   rw[Qc,TJ,N7]
  rw[<- c,<- nA b k _,<- e,Qc,List.foldl_cons]
section
variable{X:Cx}{J:Mq (MF×Of)}{Y:St}{H:Hp}{s:My}{l b:MF}{xs ys zs:Mq V}
def Inv.lset {b :Mq Mu}(I:Inv X J Y H s)(c:H l=gV (.lst xs))
  (e:s.heap.get? l=gV {cls:=.type "list",data:=.seq b.toArray n}) (g:f b.toArray=a.toArray) (i:Vals ys a) (j:↥ys<=sizeLine) :
  Inv X J Y (bK H l (.lst ys)) {s with heap:=s.heap.update l (OF f),toks:=t'}:=by
 have q:=T9 e f;rw[g]at q;show I.write   (by rw[c];show trivial) (.inl rfl) (λk u d h=>(NV _ _ (Ne.symm d)).trans h) #[_,q] ?_
 show#[j,a,_,i,q]
def Inv.lnew (I:Inv X J Y H s)(b:Vals ys a)(c:↥ys<=sizeLine) :
  Inv X J Y (bK H ⇑s.heap.objs (.lst ys)) {s with heap:=s.heap.push {cls:=.type "list",data:=.seq a.toArray},toks:=t'}:=
 I.laid (λ_ _ q=>Mw _ q) (MH _) #[c,a,0,b,MT _ rfl]
def Inv.fresh (I:Inv X J Y H s):H ⇑s.heap.objs=td:=I.hok.fresh (MH _)
def Inv.lstM (I:Inv X J Y H s)(b:H l=gV (.lst xs)):↥xs<=sizeLine/\∃ a n,Vals xs a/\↥xs=↥a/\s.heap.get? l=gV {cls:=.type "list",data:=.seq a.toArray n}:=by
 obtain⟨z,a,n,r,e⟩:=I.hok l _ b;show#[z,a,n,r,↥r,e]
def qx (h:n<=sizeLine):Qi n=false:=by
 show Nk (by show RO.mpr ‹_›)
end
section
variable{X:Cx}
abbrev Cs:V->Mq V->Hp->VK->Prop:=λx vs H Q=>∃l xs y,x=.ref l/\vs=[y]/\H l=gV (.lst xs)/\↥xs<sizeLine/\Q .non (bK H l (.lst (xs++[y])))
def wM:K9 X "list.append" Cs:=by
 intro J s Y H x vs v us Q I f d h;obtain⟨l,xs,y,rfl,rfl,a,g,q⟩:=h;cases f;obtain⟨u,rfl,c⟩:=d.one;obtain⟨z,b,n,r,hl,e⟩:=I.lstM a;show PD F.slot_list_append #[_,e,rfl] F.entry_list_append (F.args_list_append_2 _ _) (TK l _ n u (by rw[MV];omega)) #[e,?_]
 show#[.non,_,I.lset  a e (by simp) (r.append #v[c]) ?_,rfl,q]
 rw[Mt,Ng];show TM ‹_›
abbrev Ct:V->Mq V->Hp->VK->Prop:=λx vs H Q=>∃l b xs a,x=.ref l/\vs=[.ref b]/\H l=gV (.lst xs)/\H b=gV (.lst a)/\↥xs+↥a<=sizeLine/\Q .non (bK H l (.lst (xs++a)))
def wQ:K9 X "list.extend" Ct:=by
 intro J s Y H x vs v us Q I t p h;obtain⟨l,b,xs,A,rfl,rfl,f,i,w,q⟩:=h;cases t;obtain⟨u,rfl,o⟩:=p.one;cases o;obtain⟨z,d,n,r,hl,e⟩:=I.lstM f;obtain⟨y,a,k,m,j,g⟩:=I.lstM i;have hsz:⇑d.toArray+⇑a.toArray<=sizeLine:=by rw[MV,MV];omega
 have c:¬ (!d.toArray.isEmpty&&Qi (⇑d.toArray+⇑a.toArray))=true:=by
  rw[qx hsz,Bool.and_false];show Nu
 show PD F.slot_list_extend #[_,e,rfl] F.entry_list_extend (F.args_list_extend_2 _ _)
  (TN l _ n b _ k c (by rw[MV];omega) (by show PU ‹_›)) #[e,g,?_]
 show#[.non,_,I.lset  f e (by simp) (r.append m) ?_,rfl,q]
 rw[Mt];show M1 ‹_› (Ni rfl)
abbrev F5:V->Mq V->Hp->VK->Prop:=λx vs H Q=>∃l xs i k y,x=.ref l/\vs=[.int i]/\H l=gV (.lst xs)/\-(2^63)<=i/\i<2^63/\seqIndex? i ↥xs=gV k/\xs[k]?=gV y/\Q y (bK H l (.lst (xs.eraseIdx k)))
def yI:K9 X "list.pop" F5:=by
 intro J s Y H x vs v us Q I o m h;obtain⟨l,xs,i,k,y,rfl,rfl,b,c,d,hk,f,q⟩:=h;cases o;obtain⟨u,rfl,j⟩:=m.one;obtain⟨t,rfl⟩:=j;obtain⟨z,g,n,r,hl,e⟩:=I.lstM b;obtain⟨w,hw,a⟩:=r.get f;show PD F.slot_list_pop #[_,e,rfl] F.entry_list_pop (F.args_list_pop_2 _ _)
  (Vw l _ n i t k w (UG c d) (by rw[MV,<- hl];show hk) (by rw[<- NY];show hw) (by rw[MV];omega)) #[e,?_]
 show#[y,_,I.lset  b e ?_ (r.eraseIdx k) ?_,a,q]
 ·rw[List.eraseIdxIfInBounds_toArray]
 ·have:=nz xs k;show M1 ‹_› ‹_›
abbrev La:R2:=λx y H Q=>∃l b xs a,x=.ref l/\y=.ref b/\H l=gV (.lst xs)/\H b=gV (.lst a)/\↥xs+↥a<=sizeLine/\∀p,H p=td->Q (.ref p) (bK H p (.lst (xs++a)))
def F6:OpR X (binaryOp .Add) La:=by
 intro J s Y H x y v u Q I m o h;obtain⟨l,b,xs,A,rfl,rfl,i,g,p,q⟩:=h;cases m;cases o;obtain⟨z,c,n,r,hl,e⟩:=I.lstM i;obtain⟨w,a,t,k,j,d⟩:=I.lstM g;show PySem.P.add_list e d ?_ (by rw[MV,MV];omega)
 have f:c.toArray++a.toArray=(c++a).toArray:=by simp
 rw[f];show#[.ref _,_,I.lnew  (r.append k) (by rw[Mt];omega),rfl,q _ I.fresh]
abbrev Lb:R2:=λx y H Q=>∃l k xs,x=.ref l/\y=.int k/\H l=gV (.lst xs)/\-(2^63)<=k/\k<2^63/\↥xs*k.toNat<=sizeLine/\
 ∀p,H p=td->Q (.ref p) (bK H p (.lst (Ny k.toNat xs).flatten))
def Cu {α:Type}(xs:Mq α)(k:Mz):(Ny k xs).flatten.length=k*↥xs:=by
 induction k with
 |zero=>simp
 |succ k ih=>rw[Qc,TJ,Mt,ih,RP,Vh]
def F7:OpR X (binaryOp .Mult) Lb:=by
 intro J s Y H x y v u Q I B C h;obtain⟨l,k,xs,rfl,rfl,A,p,w,j,q⟩:=h;cases B;obtain⟨t,rfl⟩:=C;obtain⟨z,b,n,r,hl,e⟩:=I.lstM A;have g:⇑b.toArray*k.toNat<=sizeLine:=by rw[MV,<- hl];show j
 have d:¬ ⇑b.toArray*k.toNat > (2^63-1)/8:=by
  have:sizeLine<=(2^63-1)/8:=by decide
  omega
 have f:¬ (!UH k)=true:=by
  rw[UG p w];show Nu
 have c:¬ Qi (⇑b.toArray*k.toNat)=true:=by
  rw[qx g];show Nu
 have i:VM (λE G=>E++G) #[] (Ny (if b.toArray.isEmpty=true then 0 else k.toNat) b.toArray)=(Ny k.toNat b).flatten.toArray:=by
  have o:=λm=>by
   have:=nA b m [];rw[R5]at this;show this
  rw[o];cases b with
  |nil=>simp
  |cons a L=>rw[Nm (by simp)]
 show wpAny_binaryOp_repeat_ref   #v[] #[_,e,rfl] (λD=>UF D k t) noFill_list_mul F.fills_int_mul F.slot_int_rmul repeat_list F.slot_int_index.lookup
  (PD F.slot_int_rmul (UF s k t) F.entry_int_rmul (F.args_int_rmul_2 _ _) (int___rmul___int_list k t l _ n)
   #[e,rfl,#[_,e,rfl],PD F.slot_list_mul #[_,e,rfl] F.entry_list_mul (F.args_list_mul_2 _ _) (Tu l _ n k t f d c) #[e,?_]])
 rw[i];show#[.ref _,_,I.lnew  (r.rep _) (by rw[Cu,Nat.mul_comm];show j),rfl,q _ I.fresh]
end
section
variable{κ:Type} [PY κ]
abbrev ji (U:Mq (κ×V))(k:κ):MA V:=(U.find? λa=>decide (a.1=k)).map (·.2)
abbrev fQ (U:Mq (κ×V))(k:κ)(v:V):Mq (κ×V):=
 if (U.any λa=>decide (a.1=k))=true then U.map (λa=>if a.1=k then(a.1,v)else a)else U++[(k,v)]
def iI {k:κ}(e:p.1=k):ji (p::r) k=gV p.2:=by(delta ji;simp[e])
def iJ {k:κ}(e:¬ p.1=k):ji (p::r) k=ji r k:=by simp[ji,e]
def qy (k:κ):∀U:Mq (κ×V),(U.any λa=>decide (a.1=k))=(ji U k).isSome
 |[]=>rfl
 |p::r=>by
  rw[Oj]
  by_cases e:p.1=k
  ·simp only[iI e,NB e,Bool.true_or,Option.isSome_some]
  ·rw[iJ e,Nk e,QS];show qy k r
def eB (U:Mq (κ×V))(k:κ)(v:V):(fQ U k v).length<=↥U+1:=by
 unfold fQ;split
 ·rw[Mr];show Om _ _
 ·rw[Mt,Nh,Oy];show MH _
def RelO.isSome_eq (r:RelO o u):o.isSome=u.isSome:=by
 cases o with
 |none=>cases u with
  |none=>rfl
  |some _=>show r.elim
 |some _=>cases u with
  |none=>show r.elim
  |some _=>rfl
def KV.val (r:KV U vs)(k:κ):RelO (ji U k) (valueAt vs k):=by
 unfold KV at r
 induction r with
 |nil=>show Pn
 |@cons p q ps c h t ih=>
  obtain⟨d,f⟩:=h
  by_cases e:p.1=k
  ·have a:q.1=k:=d.symm.trans e;have b:valueAt (q::c) k=gV q.2:=by simp[valueAt,QU,a]
   rw[iI e,b];show f
  ·have a:¬ q.1=k:=λz=>e (d.trans z)
   have b:valueAt (q::c) k=valueAt c k:=by simp[valueAt,QU,a]
   rw[iJ e,b];show ih
def KV.any (r:KV U vs)(k:κ):(U.any λa=>decide (a.1=k))=vs.any λa=>decide (a.1=k):=by
 induction r with
 |nil=>rfl
 |cons h t ih=>rw[Oj,Oj,ih,h.1]
def KV.repl (r:KV U vs)(k:κ)(d:RelV y u) :
  KV (U.map λa=>if a.1=k then(a.1,y)else a) (vs.map λa=>if a.1=k then(a.1,u)else a):=by
 induction r with
 |nil=>show .nil
 |@cons p q ps f h t ih=>
  rw[NL,NL];show .cons ?_ ih;obtain⟨b,c⟩:=h
  by_cases e:p.1=k
  ·rw[M4 e,M4 (b.symm.trans e)];show#[b,d]
  ·rw[Nm e,Nm (λz=>e (b.trans z))];show#[b,c]
def KV.put (r:KV U vs)(k:κ)(a:RelV y u):KV (fQ U k y) (stored vs k u):=by
 unfold fQ stored;rw[r.any k]
 by_cases e:(vs.any λb=>decide (b.1=k))=true
 ·rw[M4 e,M4 e];show r.repl k a
 ·rw[Nm e,Nm e];show Sr r #[rfl,a]
def KV.length {vs:Mq (κ×Mu)}(r:KV U vs):↥U=↥vs:=PN r
end
def nB (r:RelV (kV k) u):(aR P w).is k u=true:=by
 cases k with
 |inl i=>obtain⟨t,e⟩:=r;subst e;show qh P w i t
 |inr x=>obtain⟨t,e⟩:=r;subst e;show ql P w x t
def nC :∀{ks:Mq bD}{us:Mq Mu},Vals (ks.map kV) us->ItemsAre (aR P w) ks us
 |[],_,r=>by cases r;show .nil
 |k::ks,_,r=>by
  cases r with
  |cons h t=>show .cons (nB h) (nC t)
noncomputable abbrev KT (H:Hp):Mq (Mq bD×V)->Mq (Mq bD×MF×Mu)->Prop:=Q8 λp q=>p.1=q.1/\H q.2.1=gV (.tup (p.1.map kV))/\RelV p.2 q.2.2
def KT.val (r:KT H U xs)(k:Mq bD):RelO (ji U k) ((atKey xs k).map (·.2)):=by
 induction r with
 |nil=>show Pn
 |@cons p q ps c h t ih=>
  obtain⟨d,_,f⟩:=h
  by_cases e:p.1=k
  ·have a:=d.symm.trans e;have b:atKey (q::c) k=gV q.2:=by simp[atKey,a]
   rw[iI e,b];show f
  ·have a:¬ q.1=k:=λz=>e (d.trans z)
   have b:atKey (q::c) k=atKey c k:=by simp[atKey,a]
   rw[iJ e,b];show ih
def KT.repl (r:KT H U xs)(k:Mq bD)(f:RelV y u) :
  KT H (U.map λb=>if b.1=k then(b.1,y)else b) (xs.map (putAt k u)):=by
 induction r with
 |nil=>show .nil
 |@cons p q ps g h t ih=>
  rw[NL,NL];show .cons ?_ ih;obtain⟨a,c,d⟩:=h;unfold putAt
  by_cases e:p.1=k
  ·rw[M4 e,M4 (a.symm.trans e)];show#[a,c,f]
  ·rw[Nm e,Nm (λz=>e (a.trans z))];show#[a,c,d]
def KT.put (r:KT H U xs)(k:Mq bD)(c:H b=gV (.tup (k.map kV)))(a:RelV y u) :
  KT H (fQ U k y) (storedH xs k b u):=by
 have e:(U.any λd=>decide (d.1=k))=(atKey xs k).isSome:=by
  rw[qy,(r.val k).isSome_eq,Ru]
 unfold fQ storedH;rw[e]
 by_cases q:(atKey xs k).isSome=true
 ·rw[M4 q,M4 q];show r.repl k a
 ·rw[Nm q,Nm q];show Sr r #[rfl,c,a]
def KT.keeps (r:KT H U xs)(c:∀b ys,H b=gV (.tup ys)->a b=gV (.tup ys)):KT a U xs:=
 Paired.mapP r λ_ _ z=>#[z.1,c _ _ z.2.1,z.2.2]
section
variable{P:Nc}{w:Nq}{H:Hp}{h:Nz}{a:MF}
def EB (ok:HOk P w H h)(e:Rd H a u):ObjOk P w H h a u:=e.ok ok
def kX (ok:HOk P w H h)(e:Rd H a (.dK U)):↥U<=sizeLine/\(a==sysModules)=false/\∃vs,KV U vs/\h.DictOf (aR P w) a vs:=
 EB ok e
def IM (ok:HOk P w H h)(e:H a=gV (.dK U)):↥U<=sizeLine/\(a==sysModules)=false/\∃vs,KV U vs/\h.DictOf (aR P w) a vs:=kX ok (.inl e)
def oW (ok:HOk P w H h)(e:H a=gV (.tup (ks.map kV))):(tupleKind (aR P w)).is h ks a:=by
 obtain⟨_,b,r,o,c,d,n,f⟩:=(show ObjOk P w H h a (.tup (ks.map kV))from ok a _ e)
 show#[o,b.toArray,n,c,d,f,by simpa using nC r]
def yJ (ok:HOk P w H h)(e:Rd H a (.dT U)):↥U<=sizeLine/\(a==sysModules)=false/\
  ∃xs,KT H U xs/\h.DictOfH (tupleKind (aR P w)) a xs:=by
 obtain⟨z,y,xs,r,o,es,d,f,g,i,j,k⟩:=(EB ok e);show#[z,y,xs,r,o,es,d,f,g,i,j,λx b=>?_,k]
 have all:∀{l:Mq _}{m:Mq _},KT H l m->∀x∈m,(tupleKind (aR P w)).is h x.1 x.2.1:=by
  intro l m q
  induction q with
  |nil=>intro x b;show nomatch b
  |@cons p q ps n c t ih=>
   intro x b;rcases M5.mp b with e|b
   ·subst e;show oW ok (by rw[<- c.1];show c.2.1)
   ·show ih x b
 show all r x b
def IN (ok:HOk P w H h)(e:H a=gV (.dT U)):↥U<=sizeLine/\(a==sysModules)=false/\
  ∃xs,KT H U xs/\h.DictOfH (tupleKind (aR P w)) a xs:=yJ ok (.inl e)
end
abbrev DGet (H:Hp)(a:MF)(y:V)(r:MA V):Prop:=
 (∃U k,Rd H a (.dK U)/\y=kV k/\r=ji U k)\/∃U k b,Rd H a (.dT U)/\y=.ref b/\H b=gV (.tup (k.map kV))/\r=ji U k
abbrev DPut (H:Hp)(a:MF)(y v:V)(c:Hp):Prop:=
 (∃U k,H a=gV (.dK U)/\y=kV k/\↥U<sizeLine/\c=bK H a (.dK (fQ U k v)))\/
 ∃U k b,H a=gV (.dT U)/\y=.ref b/\H b=gV (.tup (k.map kV))/\↥U<sizeLine/\c=bK H a (.dT (fQ U k v))
def DGet.k {k:bD}(e:H a=gV (.dK U)):DGet H a (kV k) (ji U k):=.inl #[U,k,.inl e,rfl,rfl]
def DPut.k {k:bD}(e:H a=gV (.dK U))(hl:↥U<sizeLine):DPut H a (kV k) v (bK H a (.dK (fQ U k v))):=.inl #[U,k,e,rfl,hl,rfl]
section
variable{X:Cx}{J:Mq (MF×Of)}{Y:St}{H:Hp}{s:My}{a:MF}{y v:V}{u r:Mu}{o:MA V}{A:Nn}{E:Mu->My->Prop}
def Inv.big (I:Inv X J Y H s):sysModules<⇑s.heap.objs:=by
 have h:=(I.mod.glob.keeps I.bk).lt;show Oa #v[] h
def Lc (n:A.units+1<cLine)(I:Inv X J Y H s)(g:DGet H a y o)(i:RelV y u)(h:∀j,Inv X J Y H j->Q (.bool o.isSome) j) :
  wpAny (model X.prog X.w) A (compareOp .In u (.ref a)) Q E s:=by
 rcases g with⟨U,k,e,f,l⟩|⟨U,k,b,e,f,m,l⟩
 ·subst f;obtain⟨z,hd,vs,c,d⟩:=kX I.hok e;show wpAny_in_of (nB i) hd d.mapOf ?_;rw[<- (c.val k).isSome_eq,<- l];show h _ (I.tok _)
 ·subst f;cases(show u=NK b from i)
  obtain⟨z,hd,xs,c,d⟩:=yJ I.hok e;show UX (Rg n) (oW I.hok m) hd d ?_;have q:=(c.val k).isSome_eq;rw[Ru]at q;rw[<- q,<- l];show h _ (I.tok _)
def Cv (n:A.units+1<cLine)(I:Inv X J Y H s)(g:DGet H a y o)(i:RelV y u)(h:∀j,Inv X J Y H j->Q (.bool (!o.isSome)) j) :
  wpAny (model X.prog X.w) A (compareOp .NotIn u (.ref a)) Q E s:=by
 rcases g with⟨U,k,e,f,l⟩|⟨U,k,b,e,f,m,l⟩
 ·subst f;obtain⟨z,hd,vs,c,d⟩:=kX I.hok e;show wpAny_notIn_of (nB i) hd d.mapOf ?_;rw[<- (c.val k).isSome_eq,<- l];show h _ (I.tok _)
 ·subst f;cases i;obtain⟨z,hd,xs,c,d⟩:=yJ I.hok e;show Ua (Rg n) (oW I.hok m) hd d ?_;have q:=(c.val k).isSome_eq;rw[Ru]at q;rw[<- q,<- l];show h _ (I.tok _)
def iK (I:Inv X J Y H s)(g:Ig (H a))(f:Pf a s.heap h')(d:∃q,h'.get? a=gV q)(new:ObjOk X.prog X.w (bK H a ob) h' a ob) :
  Inv X J Y (bK H a ob) {s with heap:=h',toks:=t'}:=
 I.write (x:=a) (e:=a) g (.inl rfl) (λb q c z=>(f.2 b c).trans z) d new
def sP (z:↥U<=sizeLine)(hd:(a==sysModules)=false)(b:KV U vs)(d:h'.DictOf (aR P w) a vs) :
  ObjOk P w c h' a (.dK U):=#[z,hd,vs,b,d]
def wR (R:A.units+1<cLine)(I:Inv X J Y H s)(g:DPut H a y v t)(C:RelV y u)(B:RelV v r)(h:∀D,Inv X J Y t D->Q () D) :
  wpAny (model X.prog X.w) A (setItem (.ref a) u r) Q E s:=by
 rcases g with⟨U,k,e,n,l,m⟩|⟨U,k,b,e,n,w,l,m⟩
 ·subst n m;obtain⟨z,hd,vs,d,j⟩:=IM I.hok e;have p:↥vs<=sizeLine:=by rw[<- ↥d];show z
  have hl:(fQ U k v).length<=sizeLine:=by have:=eB U k v;omega
  show wpAny_setItem_pairs (hsz:=p) (nB C) j λh' f o=>h _ ?_
  have P:∃q,h'.get? a=gV q:=let ⟨q,_,_,i,_⟩:=f;#[q,i]
  show iK I (by rw[e];show Pn) o P (sP hl hd (d.put k B) f)
 ·subst n m;cases(show u=NK b from C)
  obtain⟨z,hd,xs,d,j⟩:=IN I.hok e;have p:↥xs<=sizeLine:=by rw[<- PN d];show z
  have hl:(fQ U k v).length<=sizeLine:=by have:=eB U k v;omega
  show Tj (hsz:=p) (Rg R) (oW I.hok w) j λh' f o=>h _ ?_
  obtain⟨q,es,G,i,L,M,N,_,O⟩:=f;show iK I (by rw[e];show Pn) o #[q,i] #[hl,hd,_,(d.put k w B).keeps λc ys x=>?_,q,es,G,i,L,M,N,O]
  rw[aJ (Ic x e (λz=>nomatch z))]
  show x
end
section
variable{X:Cx}{J:Mq (MF×Of)}{Y:St}{H:Hp}{s:My}{a:MF}{U:Mq (bD×V)}{k:bD}{u:Mu}{A:Nn}{E:Mu->My->Prop}
def IP (I:Inv X J Y H s)(e:Rd H a (.dK U))(h:∀t c,Inv X J Y H c->Q (.int ↥U t) c):wpAny (model X.prog X.w) A (call (.builtin "len") [.ref a]) Q E s:=by
 obtain⟨z,hd,vs,b,d⟩:=kX I.hok e;show call_len_dict hd d (by rw[<- ↥b];rw[NT]at z;omega) ?_
 rw[<- ↥b];show h _ _ (I.tok _)
end
noncomputable abbrev VV:Mq (V×V)->Mq (Mu×Mu)->Prop:=Q8 λp q=>RelV p.1 q.1/\RelV p.2 q.2
abbrev kY (U a:Mq (bD×V)):Mq (bD×V):=a.foldl (λb c=>fQ b c.1 c.2) U
def eN:∀ a U,(kY U a).length<=↥U+↥a
 |[],U=>by change ↥U<=↥U+0;show MH _
 |p::r,U=>by
  have b:=eN r (fQ U p.1 p.2);have c:=eB U p.1 p.2;show(kY (fQ U p.1 p.2) r).length<=_;rw[Nh];omega
end L2
namespace Att
open PySem PySem.W PySem.Calls PyProof.Rows
def km :∀ c vs,WellAll P h vs (c.map WData.int)->SL vs c:=by
 intro c
 induction c with
 |nil=>
  intro vs w;cases w;show .nil
 |cons n c ih=>
  intro vs w;cases w with
  |cons a b=>
   cases a;show .cons _ _ (ih _ b)
def wW {l:OpenLaw}(s:l.most=gV n)
  (b:l.row.toRowW.claim.pre args=true) (j:WellAll P h vals args) :
  ∃a vs c,vals=[NK a]/\args=[WData.list (c.map WData.int)]/\h.get? a=gV {cls:=.type "list",data:=.seq vs.toArray}/\SL vs c/\↥c<=n:=by
 have i:WShape.hasAll [] _ _=true:=(pre_splitW b).1;have hc:l.pre.holds [] _=true:=(pre_splitW b).2;obtain⟨d,r,rfl,m,o⟩:=hasAllW_cons i;obtain rfl:=hasAllW_nil o;obtain⟨xs,rfl,p⟩:=hasW_list m;obtain⟨c,rfl⟩:=items_int p;have f:↥c<=n:=by
  have g:(WTm.not (.lt (.lit (.int n)) (.len (.arg 0)))).holds [] {args:=[.list (c.map .int)]}=true:=by
   have g:=(holds_andW hc).1;rw[s]at g;show g
  have k:=condW_of g (w_not (w_lt w_lit (w_len_list (w_arg rfl))));show Nat.le_of_not_lt λq=>?_
  first
   |(show absurd k #v[])
   |(simp at k;omega)
 cases j with
 |cons u w2=>
  cases w2;cases u with
  |list t e=>show#[_,_,c,rfl,rfl,t,km c _ e,f]
def wX (l:OpenLaw)(args:Mq WData):l.row.toRowW.claim.post args (.bool true) args=true:=
 postW_of
  (show WShape.has [] _ _=true by first|rfl|decide|simp[])
  (w_eq_bool (w_res rfl) w_lit) rfl
def attach_call {l:OpenLaw}
  (I:l.most=gV n) (s:d.params.defaults=[])
  (call:∀ w s₀ b mg v e o pm j doc a vs k,
   Ground q loose [] XP w s₀ mg v b.heap->YP w b.heap->
   b.heap.get? e=gV o->o.data=.func (docDef d.name d.params d.body d.scope pm j doc)->b.heap.CodeRec j d.name->mg d.name=gV (.ref e)->
   b.heap.get? a=gV {cls:=.type "list",data:=.seq vs.toArray}->SL vs k->↥k<=n->b.gens=#[]->
   codeAny (model l.prog w) callerA (.call (.ref e) #[[.ref a],[]]) (λr m=>r=.ok (.ret (.bool true))/\OldK b.heap m.heap/\m.os=b.os/\Rs m.gens) b) :
  WalkO q loose XP YP l.row.toRowW d [] (λf vs=>UI f vs):=by
 intro w s₀ b mg v G Yq e o pm j doc z kV J hd p x t D args vals as i y M u E;obtain rfl:z=.none:=Dflts.none x s;obtain rfl:kV=.none:=Dflts.noKw x;obtain⟨a,vs,k,rfl,rfl,h,c,g⟩:=wW I i u;show enter_call (Qy (call w s₀ b mg v e o pm j doc a vs k G Yq J (fd_plain hd) p t h c g D) λr m L=>?_)
 obtain⟨rfl,A,B,C⟩:=L;show#[.inl #[.bool true,.bool true,[],rfl,λ_=>rfl,.bool true,wX l _,λ_=>#[VS,λ_ H=>(nomatch H)]],A,B,C]
end Att
namespace L2
open PySem PySem.Spec PyProof.Rows
def nD:∀{vs:Mq Mu}{a:Mq MM},SL vs a->Vals (a.map V.int) vs
 |_,_,.nil=>.nil
 |_,_,.cons n t h=>.cons #[t,rfl] (nD h)
abbrev yK (H:Hp):Prop:=∀b,H b=td\/∃o xs,H b=gV (.frz o (.lst xs))
def yL {K:MO}
  (U:K.In c.heap) (C:c.heap.Ns mainGlobals mg) (g:c.heap.Ns builtinsNs S) (Q:∀x:M2,x≠"__name__"->S x=bootBuiltins x) (B:c.heap.NoLimit) (hg:c.gens=#[])
  (L:c.heap.get? a=gV {cls:=.type "list",data:=.seq vs.toArray}) (hi:SL vs I) (hl:↥I<=sizeLine) (hr:Room k callerA)
  (F:∀base:Nz,K.In base->base.Ns mainGlobals mg->FnOk P w K mg base CX k N X [x] sp) (p:∀ s u,TC s X #[[u],[]] [(x,u)])
  (R:∀H:Hp,yK H->SqL K H a (I.map V.int)->sp [.ref a] H (λv _=>v=.bl true) λ_ _ _=>N6)
  (O:∀H e i,CX [] H c (λ_ _ _=>N6) e i->N6) :
  codeAny (model P w) callerA (.call (.ref N) #[[.ref a],[]]) (λr i=>r=.ok (.ret (.bool true))/\OldK c.heap i.heap/\i.os=c.os/\Rs i.gens) c:=by
 have rv:=nD hi;have G:=↥hi;have l:∀H:Hp,yK H->SqL K H a (I.map V.int)->HOk P w H c.heap->(∀b,H b≠td->b=a)->(H a≠td->K.lookup a=td)->
   codeAny (model P w) callerA (.call (.ref N) #[[.ref a],[]]) (λr i=>r=.ok (.ret (.bool true))/\OldK c.heap i.heap/\i.os=c.os/\Rs i.gens) c:=by
  intro H Z hS D Y hK;have f:∀{b:MF}{o:Of},c.heap.get? b=gV o->H b=td->(oK c.heap H).get? b=gV o:=λe n=>yh e n
  have T:∀{b:MF}{o:Of}{es:NH OV}{y:Mz},c.heap.get? b=gV o->o.data=.dict es y->H b=td:=λ{b o es y} e d=>by
   cases q:H b with
   |none=>rfl
   |some u=>
    have M:b=a:=Y b (by rw[q];simp)
    subst M;rw[L]at e;cases e
    have d':Data.seq vs.toArray _=Data.dict es y:=d;cases d'
  have j:∀{b:MF}{m:M2->MA Mu},c.heap.Ns b m->(oK c.heap H).Ns b m:=λ{b m} #[o,es,y,e,d,r]=>#[o,es,y,f e (T e d),d,r]
  have A:K.In (oK c.heap H):=λb o e=>f (U b o e) (by
   cases q:H b with
   |none=>rfl
   |some u=>
    have M:b=a:=Y b (by rw[q];simp)
    subst M;rw[hK (by rw[q];simp)]at e;cases e)
  have hM:Mod K mg (oK c.heap H):=#[A,j C,#[S,j g,Q],let ⟨mc,h1,h2⟩:=B;#[mc,j h1,h2]]
  have e0:Env0 P w K mg (oK c.heap H) callerA [] c H:=#[rfl,hM,λb o e=>B2 e,Nat.le_of_eq (wy _ _),trivial,λb g=>absurd (show b∈([]:Mq MF)from g) (by simp),D,.of_eq hg]
  show Qy ((F _ A (j C)).run callerA [] c H #[[.ref a],[]] [.ref a] [.ref a] _ _ hr e0 (p c (.ref a)) #v[rfl] (R H Z hS)) λr i h=>?_
  cases r with
  |error e=>show(O H e i h).elim
  |ok fl=>
   cases fl with
   |next=>show N6.elim h
   |brk=>show N6.elim h
   |cont=>show N6.elim h
   |ret u=>
    obtain⟨v,H',os,t,un,E,r',q⟩:=h;have q':v=.bl true:=q;subst q';obtain rfl:u=QM true:=r';show#[rfl,OldK.of_keep λb o e=>?_,os,t]
    cases q:H b with
    |none=>show un.keep b o e q (by intro z;show absurd (show b∈([]:Mq MF)from z) (by simp)) (by simp)
    |some u=>
     rcases Z b with z|⟨ob,xs,z⟩
     ·rw[q]at z;cases z
     ·have z2:=un.frzs b ob _ z;obtain⟨W,_⟩:=D b _ z;obtain⟨e2,_⟩:=E b _ z2;rw[e]at W;cases W
      show e2
 cases hk:K.lookup a with
 |some o=>
  have e:=U a o hk;rw[L]at e;cases e;show l (λ_=>td) (λ_=>.inl rfl) (.inr #[_,vs.toArray,_,hk,rfl,rfl,rfl,by rw[MV,G];show hl,by simpa using rv]) (λb u z=>by have J:(td:MA HO)=gV u:=z;cases J) (λb z=>absurd rfl z) λz=>absurd rfl z
 |none=>
  show l (λb=>if b=a then gV (.frz {cls:=.type "list",data:=.seq vs.toArray} (.lst (I.map V.int)))else td) (λb=>?_) (.inl (.inr #[{cls:=.type "list",data:=.seq vs.toArray},M4 rfl])) (λb u z=>?_) (λb z=>?_) λ_=>hk
  ·by_cases g:b=a
   ·show .inr #[_,_,M4 g]
   ·show .inl (Nm g)
  ·by_cases g:b=a
   ·have J:=(M4 g).symm.trans z;cases J;subst g;show#[L,by rw[Mr];show hl,vs,_,rv,L]
   ·have J:=(Nm g).symm.trans z;cases J
  ·by_cases g:b=a
   ·show g
   ·show absurd (Nm g) z
def Cw {l:R6}{K:Tk->MO}{CX:Nq->yz}{sp:Nq->Sp}
  (O:l.most=gV n) (z:n<=sizeLine) (t:d.params.defaults=[]) (P:Room k callerA)
  (J:∀ w h,YP w h->(K w.params).In h)
  (F:∀ w mg j h,(K w.params).In h->h.Ns mainGlobals mg->mg d.name=gV (.ref j)->
   ∃p:O3,(∀ s u,TC s p #[[u],[]] [(x,u)])/\
    ∀base:Nz,(K w.params).In base->base.Ns mainGlobals mg->FnOk l.prog w (K w.params) mg base (CX w) k j p [x] (sp w))
  (A:∀ w H a (m:Mq MM),↥m<=n->yK H->SqL (K w.params) H a (m.map V.int)->sp w [.ref a] H (λv _=>v=.bl true) λ_ _ _=>N6)
  (r:∀ w H s e B,CX w [] H s (λ_ _ _=>N6) e B->N6) :
  UY q loose XP YP l.row.toRowW d [] (λf vs=>UI f vs):=by
 show Att.attach_call O t λw s₀ i mg S j o pm Q doc a vs m G Yq R hd M y g c b N=>?_
 have C:=J w _ Yq;obtain⟨p,L,D⟩:=F w mg j _ C G.T.g y;show yL C G.T.g G.T.b G.T.builtins G.T.nolimit N g c (M1 b z) P D L (λH E I=>A w H a m b E I) λH e B=>r w H i e B
abbrev dF (s:Pq):Arguments:=match s with
 |.FunctionDef _ a _ _ _ _ _ _ _ _=>a
 |_=>{posonlyargs:=[],args:=[],vararg:=td,kwonlyargs:=[],kw_defaults:=[],kwarg:=td,defaults:=[]}
abbrev cu (s:Pq):Mq Pq:=match s with
 |.FunctionDef _ _ b _ _ _ _ _ _ _=>b
 |_=>[]
abbrev aU (s:Pq):PR:=match s with
 |.FunctionDef _ _ _ _ _ _ sc _ _ _=>sc
 |_=>{kind:=.function,names:=[],isGenerator:=false,isCoroutine:=false}
noncomputable abbrev ye:yz:=λ_ _ _ _ _ _=>N6
noncomputable abbrev E0:XK:=λ_ _ _=>N6
def EC :oO ye X E0:=λ_ _ _ _ _ _ _ h=>h.elim
structure Fun (K:MO)(x qual:M2)(st:Pq)(f:MF)(fd:O3):Prop where
 ex:∃(oc:Mu) (od:MA MF) (kV doc pm:Mu) (an:MA MF) (cdv ct:Mu) (osl:NH (MA Mu)),
  fd=OP x qual (dF st) (cu st) (aU st) .none kV doc pm an cdv ct/\K.lookup f=gV #[oc,od,.func fd,osl]/\Pw K cdv qual=true
 kp:Ob K (.ref f)=true
section
variable{P:Nc}{w:Nq}{K:MO}{mg:M2->MA Mu}{base:Nz}
def Fun.ok {st:Pq}(F:Fun K x a st f e)(S:FnScope N ps (aU st))(len:∀vs H Q E,sp vs H Q E->↥vs=↥ps)
  (b:∀ cdv A outer s H vs Q E,Room k (A.deeper (envOfC a (aU st) ⇑s.heap.objs f cdv))->sp vs H Q E->
   ∃t,PSs (sK ye P w K mg base N a (aU st) f cdv A outer s H E).nox (cu st) t/\t {nx:=λ_ g=>Q .non g,rt:=Q} (start N vs) H):FnOk P w K mg base ye (k+1) f e ps sp:=by
 obtain⟨oc,od,kV,doc,pm,an,cdv,ct,osl,rfl,j,c⟩:=F.ex;show IH j c S len λA outer s H vs Q E i d=>?_
 obtain⟨t,h,q⟩:=b cdv A outer s H vs Q E i d;show#[t,h.nox,q]
def Fun.binds {st:Pq}(F:Fun K x a st f b)
  (h:∀ kV doc pm an cdv ct us,↥us=↥ps->bindArgs (OP x a (dF st) (cu st) (aU st) .none kV doc pm an cdv ct) #[us,[]]=pure (ps.zip us)):Binds K b ps []:=by
 obtain⟨oc,od,kV,doc,pm,an,cdv,ct,osl,rfl,d,c⟩:=F.ex;show .all (h kV doc pm an cdv ct)
def yM {st:Pq}{kV    :Mu}(l:K.lookup f=gV #[oc,od,.func (OP x a (dF st) (cu st) (aU st) .none kV doc pm an cdv ct),osl])
  (c:Pw K cdv a=true) (k:Ob K (.ref f)=true):Fun K x a st f (OP x a (dF st) (cu st) (aU st) .none kV doc pm an cdv ct):=#[#[oc,od,kV,doc,pm,an,cdv,ct,osl,rfl,l,c],k]
end
section
variable{X:Cx}
def pv (i:Mz){pos:OX}(b:X.N[i]?=gV x:=by rfl)(c:Kl X.env.scope x)(hd:(x==("__debug__"))=false:=by decide)
  (a:(x==("__classdict__"))=false:=by decide):PE X (.Name x pos) (Fo i):=yi b c hd a
end
end L2
open PySem PySem.W PyProof.Rows L2
set_option maxHeartbeats 0
namespace Mi
section
abbrev nE (i:Mz):Pq:=PySem.Challenge.pw_layworld_k37_whole_points_put_on_one_ano.main.body.getD i (.Pass #[0,0,0,0])
abbrev pw:Nc:=QI
abbrev ge (P:Tk)(n:M2)(t:Mz)(v:Mu):OV:=#[PyData.keyHash P n,.str n t,v]
abbrev kd (a:Mz)(es:Mq OV)(n:Mz):MF×Of:=(a,#[.type "dict",td,.dict es.toArray n,#[]])
abbrev kc (a:Mz)(vs:Mq Mu):MF×Of:=(a,#[.type "code",td,.fields vs.toArray,#[]])
abbrev kf (a:Mz)(st:Pq)(n:M2)(pm b:Mu):MF×Of:=(a,#[.type "function",td,.func (OP n n (dF st) (cu st) (aU st) .none .none .none pm td b .none),#[]])
abbrev Ld (i:Mz):Mu:=if i<=7 then(.str "layworld.kinds" 257)else if i<=9 then(.str "layworld.worlds" 280)else if i<=13 then(.str "layworld.parts" 292)else if i<=15 then(.str "layworld.rules" 312)else if i<=21 then(.str "layworld.threes" 322)else if i<=25 then(.str "layworld.fillings" 369)else if i<=31 then(.str "layworld.always" 394)else if i<=39 then(.str "layworld.laying" 441)else(.str "law_layworld_k37_whole_points_put_on_one_ano" 490)
abbrev kx (a:Mz)(b:M9)(i:Mz)(s:M2)(t:Mz)(l p:MM)(m:Mz)(R:MO):MO:=kc a [.str s t,.str s (t+1),.str "/claim/cut.py" (t+2),.int l 0,.int p 0,.int 0 0,.int 0 0,.int 3 0,.ref (if b then a-5 else a-3),.bool true,.int 181 0,.ref (if b then a-4 else a-2),.none,if b then .ref (a-3)else .none,if b then .ref (a-2)else .none,.ref (a-1),.int m 0,.int l 0,.str "/claim/cut.py" (m+1)]::kf (a+1) (nE i) s (Ld i) (.ref a)::R
abbrev K0 (P:Tk):MO:=kd 3 [ge P "__name__" 165 (.str "law_layworld_k37_whole_points_put_on_one_ano" 490),ge P "__doc__" 166 .none,ge P "__package__" 167 .none,ge P "__loader__" 168 (.builtin "__main__.__loader__#opaque"),ge P "__spec__" 169 .none,ge P "__annotations__" 170 (.ref 6),ge P "__builtins__" 171 (.ref 4),ge P "__file__" 173 (.str "/claim/cut.py" 172),ge P "__cached__" 174 .none,ge P "LayError" 206 (.ref 24),ge P "NoLaying" 233 (.ref 44),ge P "NoShare" 256 (.ref 63),ge P "is_whole" 265 (.ref 72),ge P "is_tuple_of" 273 (.ref 79),ge P "is_numbers" 279 (.ref 84),ge P "way" 291 (.ref 91),ge P "part" 299 (.ref 96),ge P "point_over" 305 (.ref 101),ge P "longer_orders" 311 (.ref 106),ge P "back" 321 (.ref 113),ge P "barred_threes" 334 (.ref 120),ge P "three_at" 346 (.ref 127),ge P "first_bar" 356 (.ref 134),ge P "wishes_over" 362 (.ref 139),ge P "longer_wishes" 368 (.ref 144),ge P "all_bars" 376 (.ref 149),ge P "with_both" 387 (.ref 156),ge P "same_bar" 393 (.ref 161),ge P "put_on" 402 (.ref 168),ge P "first_unfilled" 414 (.ref 175),ge P "unfilled_behind" 428 (.ref 182),ge P "longer_by_a_point" 434 (.ref 187),ge P "longer_by_a_way" 440 (.ref 192),ge P "laid" 448 (.ref 197),ge P "share_part" 454 (.ref 202),ge P "are_points" 460 (.ref 207),ge P "spread_wish" 466 (.ref 212),ge P "first_filling" 477 (.ref 219),ge P "place_of" 483 (.ref 224),ge P "point_behind" 489 (.ref 229),ge P "_law_flow" 498 (.ref 236),ge P "_law_pick" 508 (.ref 243),ge P "_law_shuffled" 518 (.ref 250),ge P "_law_names" 524 (.ref 255),ge P "_law_between" 534 (.ref 262),ge P "_law_part" 540 (.ref 267),ge P "_law_turns" 546 (.ref 274),ge P "_law_figure" 552 (.ref 279),ge P "_law_bad" 562 (.ref 286),ge P "_law_may" 572 (.ref 293),ge P "_law_last_may" 586 (.ref 300),ge P "_law_backs" 595 (.ref 307),ge P "_law_rule_of" 601 (.ref 312),ge P "_law_free_three" 607 (.ref 317),ge P "_law_sizes" 615 (.ref 324),ge P "_law_laying_kind" 623 (.ref 331),ge P "_law_breaks" 639 (.ref 338),ge P "_law_numbered" 645 (.ref 343),ge P "_law_laying_rule" 666 (.ref 350),ge P "_law_rising" 672 (.ref 355),ge P "_law_free_rule" 678 (.ref 360),ge P "_law_one_way_rule" 684 (.ref 365),ge P "_law_new_ways" 701 (.ref 372),ge P "_law_world" 715 (.ref 379),ge P "_law_share" 721 (.ref 384),ge P "_law_goes_apart" 733 (.ref 391),ge P "law" 739 (.ref 396)] 67::(kx 71 true 5 "is_whole" 259 15 1 263
 (kx 78 true 6 "is_tuple_of" 266 17 2 271
 (kx 83 false 7 "is_numbers" 274 19 2 277
 (kx 90 true 9 "way" 282 22 4 289
 (kx 95 false 11 "part" 294 27 3 297
 (kx 100 false 12 "point_over" 300 29 4 303
 (kx 105 false 13 "longer_orders" 306 31 2 309
 (kx 112 true 15 "back" 314 37 2 319
 (kx 119 true 17 "barred_threes" 324 40 1 332
 (kx 126 true 18 "three_at" 335 49 4 344
 (kx 133 true 19 "first_bar" 347 53 2 354
 (kx 138 false 20 "wishes_over" 357 59 3 360
 (kx 143 false 21 "longer_wishes" 363 67 2 366
 (kx 148 false 23 "all_bars" 371 73 5 374
 (kx 155 true 24 "with_both" 377 76 5 385
 (kx 160 false 25 "same_bar" 388 78 2 391
 (kx 167 true 27 "put_on" 396 84 1 400
 (kx 174 true 28 "first_unfilled" 403 86 2 412
 (kx 181 true 29 "unfilled_behind" 415 94 4 426
 (kx 186 false 30 "longer_by_a_point" 429 105 3 432
 (kx 191 false 31 "longer_by_a_way" 435 113 4 438
 (kx 196 false 33 "laid" 443 117 4 446
 (kx 201 false 34 "share_part" 449 132 4 452
 (kx 206 false 35 "are_points" 455 140 2 458
 (kx 211 false 36 "spread_wish" 461 142 6 464
 (kx 218 true 37 "first_filling" 467 155 4 475
 (kx 223 false 38 "place_of" 478 160 4 481
 (kx 228 false 39 "point_behind" 484 167 1 487
 (kx 235 true 41 "_law_flow" 492 171 1 496
 (kx 242 true 42 "_law_pick" 499 173 2 506
 (kx 249 true 43 "_law_shuffled" 509 188 2 516
 (kx 254 false 44 "_law_names" 519 194 2 522
 (kx 261 true 45 "_law_between" 525 196 4 532
 (kx 266 false 46 "_law_part" 535 200 3 538
 (kx 273 true 47 "_law_turns" 541 206 0 544
 (kx 278 false 48 "_law_figure" 547 208 2 550
 (kx 285 true 49 "_law_bad" 553 210 1 560
 (kx 292 true 50 "_law_may" 563 216 3 570
 (kx 299 true 51 "_law_last_may" 573 221 4 584
 (kx 306 true 52 "_law_backs" 587 228 2 593
 (kx 311 false 53 "_law_rule_of" 596 231 4 599
 (kx 316 false 54 "_law_free_three" 602 235 3 605
 (kx 323 true 55 "_law_sizes" 608 240 1 613
 (kx 330 true 56 "_law_laying_kind" 616 243 1 621
 (kx 337 true 57 "_law_breaks" 624 252 5 637
 (kx 342 false 58 "_law_numbered" 640 260 3 643
 (kx 349 true 59 "_law_laying_rule" 646 275 1 664
 (kx 354 false 60 "_law_rising" 667 295 1 670
 (kx 359 false 61 "_law_free_rule" 673 301 1 676
 (kx 364 false 62 "_law_one_way_rule" 679 314 1 682
 (kx 371 true 63 "_law_new_ways" 685 318 6 699
 (kx 378 true 64 "_law_world" 702 331 4 713
 (kx 383 false 65 "_law_share" 716 339 4 719
 (kx 390 true 66 "_law_goes_apart" 722 351 5 731
 (kx 395 false 67 "law" 734 356 1 737 [])))))))))))))))))))))))))))))))))))))))))))))))))))))))
abbrev LR:Mq Mz:=[3,71,72,78,79,83,84,90,91,95,96,100,101,105,106,112,113,119,120,126,127,133,134,138,139,143,144,148,149,155,156,160,161,167,168,174,175,181,182,186,187,191,192,196,197,201,202,206,207,211,212,218,219,223,224,228,229,235,236,242,243,249,250,254,255,261,262,266,267,273,274,278,279,285,286,292,293,299,300,306,307,311,312,316,317,323,324,330,331,337,338,342,343,349,350,354,355,359,360,364,365,371,372,378,379,383,384,390,391,395,396]
abbrev vq:Nc:={pw with main:={pw.main with body:=[nE 67]}}
abbrev lo:Mq M2:=[("LayError": M2),("NoLaying": M2),("NoShare": M2),("is_whole": M2),("is_tuple_of": M2),("is_numbers": M2),("way": M2),("part": M2),("point_over": M2),("longer_orders": M2),("back": M2),("barred_threes": M2),("three_at": M2),("first_bar": M2),("wishes_over": M2),("longer_wishes": M2),("all_bars": M2),("with_both": M2),("same_bar": M2),("put_on": M2),("first_unfilled": M2),("unfilled_behind": M2),("longer_by_a_point": M2),("longer_by_a_way": M2),("laid": M2),("share_part": M2),("are_points": M2),("spread_wish": M2),("first_filling": M2),("place_of": M2),("point_behind": M2),("_law_flow": M2),("_law_pick": M2),("_law_shuffled": M2),("_law_names": M2),("_law_between": M2),("_law_part": M2),("_law_turns": M2),("_law_figure": M2),("_law_bad": M2),("_law_may": M2),("_law_last_may": M2),("_law_backs": M2),("_law_rule_of": M2),("_law_free_three": M2),("_law_sizes": M2),("_law_laying_kind": M2),("_law_breaks": M2),("_law_numbered": M2),("_law_laying_rule": M2),("_law_rising": M2),("_law_free_rule": M2),("_law_one_way_rule": M2),("_law_new_ways": M2),("_law_world": M2),("_law_share": M2),("_law_goes_apart": M2)]
def eK:∀P,LR=(K0 P).map (·.1):=λ_=>by kernel_rfl
abbrev hk:PySem.W.Hook:=PySem.W.kHook K0 LR eK
def hl:PySem.W.LeftO pw vq lo (λs=>Vi vq [] s&&UZ [] s) hk.obs hk.val 4900:=λw=>by kernel_rfl
def s0:PySem.Challenge.rw_layworld_k37_whole_points_put_on_one_ano.row.wellSaid=true:=by kernel_rfl
end
end Mi
namespace Mi
open PySem PySem.Spec PyProof.Rows L2
abbrev IQ (w:Nq):M9:=w.params.followText "set-order"
inductive W where
 |non|bl (b:M9)|int (i:MM)|str (x:M2)|tup (xs:Mq W)|ref (i:Mz)
inductive T where
 |int (i:MM)|str (x:M2)|tup (xs:Mq T)
mutual
def T.beq:T->T->M9
 |.int i,.int j=>i==j
 |.str x,.str y=>x==y
 |.tup xs,.tup ys=>T.beqs xs ys
 |_,_=>false
def T.beqs:Mq T->Mq T->M9
 |[],[]=>true
 |x::xs,y::ys=>T.beq x y&&T.beqs xs ys
 |_,_=>false
end
mutual
theorem T.beq_iff:∀x y:T,T.beq x y=true↔x=y
 |.int i,.int j=>by simp[T.beq]
 |.str x,.str y=>by simp[T.beq]
 |.tup xs,.tup ys=>by simp[T.beq,T.beqs_iff xs ys]
 |.int _,.str _|.int _,.tup _|.str _,.int _|.str _,.tup _|.tup _,.int _|.tup _,.str _=>by simp[T.beq]
theorem T.beqs_iff:∀xs ys:Mq T,T.beqs xs ys=true↔xs=ys
 |[],[]=>by simp[T.beqs]
 |x::xs,y::ys=>by simp[T.beqs,T.beq_iff x y,T.beqs_iff xs ys]
 |[],_::_|_::_,[]=>by simp[T.beqs]
end
noncomputable instance:PY T:=λx y=>decidable_of_iff (T.beq x y=true) (T.beq_iff x y)
mutual
def T.w:T->W
 |.int i=>.int i
 |.str x=>.str x
 |.tup xs=>.tup (T.ws xs)
def T.ws:Mq T->Mq W
 |[]=>[]
 |x::xs=>T.w x::T.ws xs
end
mutual
def W.t:W->MA T
 |.int i=>gV (.int i)
 |.str x=>gV (.str x)
 |.tup xs=>(W.ts xs).map .tup
 |_=>td
def W.ts:Mq W->MA (Mq T)
 |[]=>gV []
 |x::xs=>match W.t x,W.ts xs with
  |some y,gV ys=>gV (y::ys)
  |_,_=>td
end
mutual
theorem W.t_w:∀{w:W}{k:T},W.t w=gV k->k.w=w
 |.int i,_,h=>by cases h;rfl
 |.str x,_,h=>by cases h;rfl
 |.tup xs,_,h=>by
  simp only[W.t,Mv]at h;obtain⟨ks,h1,h2⟩:=h;subst h2;simp only[T.w,W.ts_w h1]
 |.non,_,h|.bl _,_,h|.ref _,_,h=>by cases h
theorem W.ts_w:∀{ws:Mq W}{ks:Mq T},W.ts ws=gV ks->T.ws ks=ws
 |[],_,h=>by cases h;rfl
 |w::ws,_,h=>by
  simp only[W.ts]at h;split at h
  ·rename_i y ys h1 h2;cases h;simp only[T.ws,W.t_w h1,W.ts_w h2]
  ·cases h
end
mutual
theorem T.w_t:∀k:T,W.t k.w=gV k
 |.int _=>rfl
 |.str _=>rfl
 |.tup xs=>by simp only[T.w,W.t,T.ws_ts xs,Nb]
theorem T.ws_ts:∀ks:Mq T,W.ts (T.ws ks)=gV ks
 |[]=>rfl
 |x::xs=>by simp only[T.ws,W.ts,T.w_t x,T.ws_ts xs]
end
mutual
def T.depth:T->Mz
 |.tup xs=>T.depths xs+1
 |_=>0
def T.depths:Mq T->Mz
 |[]=>0
 |x::xs=>max (T.depth x) (T.depths xs)
end
mutual
def T.draws:T->Mz
 |.tup xs=>T.drawss xs+1
 |_=>1
def T.drawss:Mq T->Mz
 |[]=>0
 |x::xs=>T.draws x+T.drawss xs
end
mutual
def qA (wd:Nq):T->MM
 |.int i=>hashInt i
 |.str x=>hashStr wd x
 |.tup xs=>reduceHash (Rn (kZ wd xs))
def kZ (wd:Nq):Mq T->Mq MM
 |[]=>[]
 |x::xs=>qA wd x::kZ wd xs
end
abbrev T.isTup:T->M9
 |.tup _=>true
 |_=>false
abbrev bq:Mz:=6
inductive O where
 |lst (xs:Mq W)
 |fro (xs:Mq W)
 |rng (lo hi:MM)
 |dik (U:Mq (MM×W))
 |dic (U:Mq (T×W))
 |frd (U:Mq (T×W))
 |sti (n:Mz)
noncomputable abbrev aa:=Mq O
noncomputable abbrev Fm:=Mq (MA W)
section
variable (K:MO) (A:Mq MF) (H:Hp)
mutual
inductive Rel:W->V->Prop
 |non:Rel .non .non
 |bl {b:M9}:Rel (.bl b) (.bl b)
 |int {i:MM}:Rel (.int i) (.int i)
 |str {x:M2}:Rel (.str x) (.str x)
 |tup {ws:Mq W}{a:MF}{vs:Mq V}:SqT K H a vs->RelL ws vs->Rel (.tup ws) (.ref a)
 |ref {i:Mz}{a:MF}:A[i]?=gV a->Rel (.ref i) (.ref a)
inductive RelL:Mq W->Mq V->Prop
 |nil:RelL [] []
 |cons {w:W}{v:V}{ws:Mq W}{vs:Mq V}:Rel w v->RelL ws vs->RelL (w::ws) (v::vs)
end
end
section
variable{K:MO}{A A' A'':Mq MF}{H H' H'':Hp}
structure Ext (K:MO)(A:Mq MF)(H:Hp)(A':Mq MF)(H':Hp):Prop where
 ad:∀(i:Mz) (a:MF),A[i]?=gV a->A'[i]?=gV a
 tp:∀(a:MF) (vs:Mq V),SqT K H a vs->SqT K H' a vs
 fz:∀(a:MF) (o:Of) (u:HO),H a=gV (.frz o u)->H' a=gV (.frz o u)
def Ext.refl:Ext K A H A H:=#[λ_ _ h=>h,λ_ _ h=>h,λ_ _ _ h=>h]
def Ext.trans (e:Ext K A H A' H')(f:Ext K A' H' A'' H''):Ext K A H A'' H'':=#[λi a h=>f.ad i a (e.ad i a h),λa vs h=>f.tp a vs (e.tp a vs h),λa o u h=>f.fz a o u (e.fz a o u h)]
mutual
theorem Rel.mono (e:Ext K A H A' H'):∀{w:W}{v:V},Rel K A H w v->Rel K A' H' w v
 |_,_,.non=>.non
 |_,_,.bl=>.bl
 |_,_,.int=>.int
 |_,_,.str=>.str
 |_,_,.tup h r=>.tup (e.tp _ _ h) (RelL.mono e r)
 |_,_,.ref h=>.ref (e.ad _ _ h)
theorem RelL.mono (e:Ext K A H A' H'):∀{ws:Mq W}{vs:Mq V},RelL K A H ws vs->RelL K A' H' ws vs
 |_,_,.nil=>.nil
 |_,_,.cons r t=>.cons (Rel.mono e r) (RelL.mono e t)
end
def RelL.length:∀{ws:Mq W}{vs:Mq V},RelL K A H ws vs->↥ws=↥vs
 |_,_,.nil=>rfl
 |_,_,.cons _ t=>by simp[RelL.length t]
def RelL.get:∀{ws:Mq W}{vs:Mq V}{i:Mz}{w:W},RelL K A H ws vs->ws[i]?=gV w->∃v,vs[i]?=gV v/\Rel K A H w v:=by
 intro ws
 induction ws with
 |nil=>intro vs i w r e;cases e
 |cons x ws ih=>
  intro vs i w r e;cases r with
  |cons r t=>
   cases i with
   |zero=>cases e;show#[_,rfl,r]
   |succ i=>obtain⟨u,a,b⟩:=ih (i:=i) t e;show#[u,a,b]
def RelL.append:∀{xs ys:Mq W}{us ws:Mq V},RelL K A H xs us->RelL K A H ys ws->RelL K A H (xs++ys) (us++ws):=by
 intro xs
 induction xs with
 |nil=>intro ys us ws r s;cases r;show s
 |cons x xs ih=>
  intro ys us ws r s;cases r with
  |cons r t=>show .cons r (ih t s)
def RelL.take:∀{xs:Mq W}{us:Mq V} n,RelL K A H xs us->RelL K A H (xs.take n) (us.take n):=by
 intro xs
 induction xs with
 |nil=>intro us n r;cases r;cases n<;>show .nil
 |cons x xs ih=>
  intro us n r;cases r with
  |cons r t=>
   cases n with
   |zero=>show .nil
   |succ n=>show .cons r (ih n t)
def RelL.drop:∀{xs:Mq W}{us:Mq V} n,RelL K A H xs us->RelL K A H (xs.drop n) (us.drop n):=by
 intro xs
 induction xs with
 |nil=>intro us n r;cases r;cases n<;>show .nil
 |cons x xs ih=>
  intro us n r;cases n with
  |zero=>show r
  |succ n=>
   cases r with
   |cons r t=>show ih n t
def RelL.set (r:Rel K A H x u):∀{xs:Mq W}{us:Mq V} i,RelL K A H xs us->RelL K A H (xs.set i x) (us.set i u):=by
 intro xs
 induction xs with
 |nil=>intro us i q;cases q;show .nil
 |cons y xs ih=>
  intro us i q;cases q with
  |cons q t=>
   cases i with
   |zero=>show .cons r t
   |succ i=>show .cons q (ih i t)
def RelL.rep (h:RelL K A H xs us):∀k:Mz,RelL K A H (Ny k xs).flatten (Ny k us).flatten
 |0=>.nil
 |k+1=>by
  show RelL.append h (RelL.rep h k)
def RelL.eraseIdx:∀{xs:Mq W}{us:Mq V} i,RelL K A H xs us->RelL K A H (xs.eraseIdx i) (us.eraseIdx i)
 |_,_,_,.nil=>.nil
 |_,_,0,.cons _ t=>t
 |_,_,i+1,.cons r t=>.cons r (RelL.eraseIdx i t)
abbrev FroL (K:MO)(H:Hp)(a:MF)(vs:Mq V):Prop:=
 (∃o,H a=gV (.frz o (.lst vs)))\/
  ∃(o:Of) (its:NH Mu) (n:Mz),K.lookup a=gV o/\o.cls=.type "list"/\o.dict=td/\o.data=.seq its n/\⇑its<=sizeLine/\Vals vs its.toList
def FroL.sq (h:FroL K H a vs):SqL K H a vs:=by
 rcases h with⟨o,h⟩|h
 ·show .inl (.inr #[o,h])
 ·show .inr h
abbrev yN (a:Nq)(x:T×MF×Mu):OV:=#[qA a x.1,.ref x.2.1,x.2.2]
abbrev DicAt (c:Nq)(a:MF)(xs:Mq (T×MF×Mu))(h:Nz):Prop:=
 ↥xs<=sizeLine/\(a==sysModules)=false/\(xs.map (·.1)).Nodup/\∃o es b,h.get? a=gV o/\o.ExactDict/\o.data=.dict es b/\es.toList=xs.map (yN c)
abbrev kn (b:Nq)(a:MF)(xs:Mq (T×MF×Mu)):HO:=.ext (DicAt b a xs)
abbrev KRel (K:MO)(A:Mq MF)(H:Hp):Mq (T×W)->Mq (T×MF×Mu)->Prop:=
 Q8 λ(p:T×W) (q:T×MF×Mu)=>p.1=q.1/\p.1.isTup=true/\p.1.depth<=bq/\Rel K A H p.1.w (.ref q.2.1)/\∃v,Rel K A H p.2 v/\RelV v q.2.2
def KRel.mono (e:Ext K A H A' H')(h:KRel K A H U xs):KRel K A' H' U xs:=
 Paired.mapP h λ_ _ #[a,h2,h3,h4,v,h5,h6]=>#[a,h2,h3,h4.mono e,v,h5.mono e,h6]
abbrev KI (K:MO)(A:Mq MF)(H:Hp)(U:Mq (MM×W))(us:Mq (bD×V)):Prop:=Q8 (λp q=>q.1=Pa p.1/\Rel K A H p.2 q.2) U us
def KI.mono (e:Ext K A H A' H')(h:KI K A H U us):KI K A' H' U us:=Paired.mapP h λ_ _ q=>#[q.1,q.2.mono e]
variable{wd:Nq}
abbrev F8 (n:Mz)(o:Of):Prop:=o.ExactSet/\∃es a t,o.data=.set es a t/\⇑es=n/\t.fits ⇑es=true
abbrev ObjRel (wd:Nq)(K:MO)(A:Mq MF)(H:Hp)(a:MF):O->Prop
 |.lst ws=>∃vs,H a=gV (.lst vs)/\RelL K A H ws vs
 |.fro ws=>∃vs,FroL K H a vs/\RelL K A H ws vs
 |.sti n=>∃o φ,H a=gV (.frz o (.ext φ))/\F8 n o
 |.rng lo hi=>H a=gV (.rng lo hi)
 |.dik U=>∃us,H a=gV (.dK us)/\KI K A H U us
 |.dic U=>∃xs,H a=gV (kn wd a xs)/\KRel K A H U xs
 |.frd U=>∃o xs,H a=gV (.frz o (kn wd a xs))/\KRel K A H U xs
abbrev O.mut:O->M9
 |.fro _=>false
 |.rng _ _=>false
 |.frd _=>false
 |.sti _=>false
 |_=>true
structure StoreOk (wd:Nq)(K:MO)(A:Mq MF)(H:Hp)(S:aa):Prop where
 len:↥A=↥S
 nd:∀(i j:Mz) (a:MF) (o u:O),S[i]?=gV o->o.mut=true->S[j]?=gV u->u.mut=true->A[i]?=gV a->A[j]?=gV a->i=j
 obj:∀(i:Mz) (o:O) (a:MF),S[i]?=gV o->A[i]?=gV a->ObjRel wd K A H a o
abbrev EnvRel (K:MO)(A:Mq MF)(H:Hp)(Z:Fm)(Y:L2.St):Prop:=
 ↥Z=↥Y/\∀(i:Mz) (w:W),Z[i]?=gV (gV w)->∃v,Y[i]?=gV (gV v)/\Rel K A H w v
def EnvRel.mono (e:Ext K A H A' H')(h:EnvRel K A H Z Y):EnvRel K A' H' Z Y:=
 #[h.1,λi w q=>let ⟨v,a,b⟩:=h.2 i w q;#[v,a,b.mono e]]
def EnvRel.set (h:EnvRel K A H Z Y)(r:Rel K A H w v)(i:Mz):EnvRel K A H (Z.set i (gV w)) (Y.set i (gV v)):=by
 show#[by simp[h.1],λj a q=>?_]
 rw[OG]at q ⊢
 by_cases e:i=j
 ·subst e;rw[M4 rfl]at q ⊢
  by_cases hl:i<↥Z
  ·rw[M4 hl]at q;rw[M4 (h.1▸hl)];cases q;show#[v,rfl,r]
  ·rw[Nm hl]at q;cases q
 ·rw[Nm e]at q ⊢;show h.2 j a q
abbrev Wr (H:Hp)(p:MF):Prop:=H p=td\/(∃xs,H p=gV (.lst xs))\/(∃φ,H p=gV (.ext φ))\/∃ks,H p=gV (.dK ks)
def Wr.lst (h:H p=gV (.lst xs)):Wr H p:=.inr (.inl #[xs,h])
def Wr.ext (h:H p=gV (.ext φ)):Wr H p:=.inr (.inr (.inl #[φ,h]))
def Wr.dk (h:H p=gV (.dK ks)):Wr H p:=.inr (.inr (.inr #[ks,h]))
def Wr.ne_tup (b:Wr H p)(h:H a=gV (.tup xs)):a≠p:=by
 intro e;subst e
 rcases b with q|⟨xs,q⟩|⟨φ,q⟩|⟨ks,q⟩<;>(rw[h]at q;cases q)
def Wr.ne_frz (b:Wr H p)(h:H a=gV (.frz o u)):a≠p:=by
 intro e;subst e
 rcases b with q|⟨xs,q⟩|⟨φ,q⟩|⟨ks,q⟩<;>(rw[h]at q;cases q)
def Wr.ne_rng {lo :MM}(b:Wr H p)(h:H a=gV (.rng lo hi)):a≠p:=by
 intro e;subst e
 rcases b with q|⟨xs,q⟩|⟨φ,q⟩|⟨ks,q⟩<;>(rw[h]at q;cases q)
def uS (b:Wr H p)(h:SqT K H a vs):SqT K (bK H p o) a vs:=by
 rcases h with(h|⟨c,h⟩)|h
 ·show .inl (.inl (by rw[aJ (b.ne_tup h)];show h))
 ·show .inl (.inr #[c,by rw[aJ (b.ne_frz h)];show h])
 ·show .inr h
def yO (b:Wr H p)(h:FroL K H a vs):FroL K (bK H p o) a vs:=by
 rcases h with⟨c,h⟩|h
 ·show .inl #[c,by rw[aJ (b.ne_frz h)];show h]
 ·show .inr h
def cv (a:Wr H p):Ext K A H A (bK H p o):=#[λ_ _ h=>h,λ_ _ h=>uS a h,λ_ _ _ h=>by rw[aJ (a.ne_frz h)];show h]
def bY (b:H p=td):Ext K A H (A++[p]) (bK H p o):=
 #[λi a h=>by rw[No (MP.mp h).1];show h,λ_ _ h=>uS (.inl b) h,λ_ _ _ h=>by rw[aJ (Wr.ne_frz (.inl b) h)];show h]
def ObjRel.keep (d:Wr H p)(c:b.mut=true->a≠p)(e:Ext K A H A' (bK H p o))(h:ObjRel wd K A H a b):ObjRel wd K A' (bK H p o) a b:=by
 cases b with
 |lst ws=>
  obtain⟨vs,q,r⟩:=h;show#[vs,by rw[aJ (c rfl)];show q,r.mono e]
 |fro ws=>
  obtain⟨vs,q,r⟩:=h;show#[vs,yO d q,r.mono e]
 |rng lo hi=>
  have h:H a=gV (.rng lo hi):=h;change bK H p o a=gV (.rng lo hi);rw[aJ (d.ne_rng h)];show h
 |dik U=>
  obtain⟨us,q,r⟩:=h;show#[us,by rw[aJ (c rfl)];show q,r.mono e]
 |dic U=>
  obtain⟨xs,q,r⟩:=h;show#[xs,by rw[aJ (c rfl)];show q,r.mono e]
 |frd U=>
  obtain⟨ob,xs,q,r⟩:=h;show#[ob,xs,by rw[aJ (d.ne_frz q)];show q,r.mono e]
 |sti n=>
  obtain⟨ob,φ,q,f⟩:=h;show#[ob,φ,by rw[aJ (d.ne_frz q)];show q,f]
def ObjRel.there (h:ObjRel wd K A H a b)(c:b.mut=true):H a≠td:=by
 cases b with
 |lst ws=>obtain⟨vs,q,r⟩:=h;rw[q];intro z;cases z
 |fro ws=>cases c
 |rng lo hi=>cases c
 |dik U=>obtain⟨us,q,r⟩:=h;rw[q];intro z;cases z
 |dic U=>obtain⟨vs,q,r⟩:=h;rw[q];intro z;cases z
 |frd ws=>cases c
 |sti _=>cases c
def ObjRel.wr (h:ObjRel wd K A H a b)(c:b.mut=true):Wr H a:=by
 cases b with
 |lst ws=>obtain⟨vs,q,r⟩:=h;show .lst q
 |fro ws=>cases c
 |rng lo hi=>cases c
 |dik U=>obtain⟨us,q,r⟩:=h;show .dk q
 |dic U=>obtain⟨vs,q,r⟩:=h;show .ext q
 |frd ws=>cases c
 |sti _=>cases c
def StoreOk.lay (h:StoreOk wd K A H S)(c:H p=td):StoreOk wd K A (bK H p o) S:=
 #[h.len,h.nd,λi b a e d=>(h.obj i b a e d).keep (.inl c) (λf z=>(h.obj i b a e d).there f (z▸c)) (cv (.inl c))]
def StoreOk.pushO (h:StoreOk wd K A H S)(g:H p=td)(r:ObjRel wd K (A++[p]) (bK H p u) p n):StoreOk wd K (A++[p]) (bK H p u) (S++[n]):=by
 have ex:Ext K A H (A++[p]) (bK H p u):=bY g;have b:∀{i:Mz}{o:O}{a:MF},(S++[n])[i]?=gV o->(A++[p])[i]?=gV a->i<↥S->S[i]?=gV o/\A[i]?=gV a:=λ{i o a} e c hl=>by
  rw[No hl]at e;rw[No (h.len▸hl)]at c;show#[e,c]
 have new:∀{i:Mz}{o:O}{a:MF},(S++[n])[i]?=gV o->(A++[p])[i]?=gV a->¬ i<↥S->i=↥S/\o=n/\a=p:=λ{i o a} e c hl=>by
  have hi:i=↥S:=by
   have:=(MP.mp e).1;simp at this;omega
  subst hi;simp at e;rw[<- h.len]at c;simp at c;show#[rfl,e.symm,c.symm]
 show#[by simp[h.len],λi j a o u m w q x k l=>?_,λi o a e c=>?_]
 ·by_cases hi:i<↥S<;>by_cases s:j<↥S
  ·obtain⟨d,f⟩:=b m k hi;obtain⟨t,v⟩:=b q l s;show h.nd i j a o u d w t x f v
  ·obtain⟨d,f⟩:=b m k hi;obtain⟨_,_,z⟩:=new q l s;subst z;show absurd g ((h.obj i o a d f).there w)
  ·obtain⟨t,v⟩:=b q l s;obtain⟨_,_,z⟩:=new m k hi;subst z;show absurd g ((h.obj j u a t v).there x)
  ·rw[(new m k hi).1,(new q l s).1]
 ·by_cases hi:i<↥S
  ·obtain⟨d,f⟩:=b e c hi;show(h.obj i o a d f).keep (.inl g) (λy z=>(h.obj i o a d f).there y (z▸g)) ex
  ·obtain⟨_,rfl,rfl⟩:=new e c hi;show r
def StoreOk.push (h:StoreOk wd K A H S)(a:H p=td)(r:RelL K A H ws vs):StoreOk wd K (A++[p]) (bK H p (.lst vs)) (S++[.lst ws]):=
 h.pushO a #[vs,aI,r.mono (bY a)]
def StoreOk.writeO (h:StoreOk wd K A H S)(e:S[i]?=gV s)(m0:s.mut=true)(f:A[i]?=gV p)(r:ObjRel wd K A (bK H p u) p n) :
  StoreOk wd K A (bK H p u) (S.set i n)/\Ext K A H A (bK H p u):=by
 have hw:Wr H p:=(h.obj i _ p e f).wr m0;have ex:Ext K A H A (bK H p u):=cv hw;have hl:i<↥S:=(MP.mp e).1;show#[#[by simp[h.len],λj k a o u b x v y c t=>?_,λj o a b c=>?_],ex]
 ·have get:∀{j:Mz}{o:O},(S.set i n)[j]?=gV o->o.mut=true->∃d,S[j]?=gV d/\d.mut=true:=λ{j o} q m=>by
   rw[OG]at q
   by_cases z:i=j
   ·subst z;show#[_,e,m0]
   ·rw[Nm z]at q;show#[o,q,m]
  obtain⟨d,C,g⟩:=get b x;obtain⟨B,D,l⟩:=get v y;show h.nd j k a d B C g D l c t
 ·rw[OG]at b
  by_cases z:i=j
  ·subst z;rw[M4 rfl,M4 hl]at b;cases b;rw[f]at c;cases c
   show r
  ·rw[Nm z]at b;show(h.obj j o a b c).keep hw (λw q=>z (h.nd i j p _ o e m0 b w f (q▸c))) ex
def StoreOk.write (h:StoreOk wd K A H S)(e:S[i]?=gV (.lst a))(b:A[i]?=gV p)(r:RelL K A H ws us) :
  StoreOk wd K A (bK H p (.lst us)) (S.set i (.lst ws))/\Ext K A H A (bK H p (.lst us)):=
 h.writeO e rfl b #[us,aI,r.mono (cv ((h.obj i _ p e b).wr rfl))]
end
abbrev eC (S:aa)(i:Mz):MA (Mq W):=match S[i]? with
 |some (.lst xs)=>gV xs
 |some (.fro xs)=>gV xs
 |_=>td
abbrev mP (S:aa)(i:Mz):MA (Mq W):=match S[i]? with
 |some (.lst xs)=>gV xs
 |_=>td
abbrev mT (S:aa)(xs:Mq W):MA (W×aa):=if ↥xs<=sizeLine then gV (.ref ↥S,S++[.lst xs])else td
abbrev wY (S:aa)(xs:Mq W):MA (W×aa):=if ↥xs<=sizeLine then gV (.tup xs,S)else td
abbrev Cy (j:MM):M9:=decide (0<j)&&decide (j<1073741824)
abbrev Cz (i j:MM):M9:=(decide (-(2^64)<i)&&decide (i<2^64))||(decide (-(2^64)<j)&&decide (j<2^64))
abbrev IR (i j:MM):M9:=decide (0<=j)&&decide (j<=1000000)&&decide (i.natAbs<2^64)
inductive BOp where|add|sub|mul|fdiv|mod|pow
 deriving PY
abbrev CA (c:MM->MM->M9)(f:MM->MM->MM)(x y:W)(S:aa):MA (W×aa):=match x,y with
 |.int i,.int j=>if c i j then gV (.int (f i j),S)else td
 |_,_=>td
abbrev w6 (x y:W)(S:aa):MA (W×aa):=match x with
 |.int i=>match y with
  |.int j=>gV (.int (i+j),S)
  |_=>td
 |.str x=>match y with
  |.str y=>if ↥x+↥y<=sizeLine then gV (.str (x++y),S)else td
  |_=>td
 |.tup xs=>match y with
  |.tup ys=>wY S (xs++ys)
  |_=>td
 |.ref i=>match y with
  |.ref j=>match mP S i,mP S j with
   |some xs,gV ys=>mT S (xs++ys)
   |_,_=>td
  |_=>td
 |_=>td
abbrev CB (x y:W)(S:aa):MA (W×aa):=match x with
 |.str x=>match y with
  |.int k=>if k<2^24/\-(2^24)<=k/\↥x*k.toNat<=sizeLine then gV (.str (Wf x k),S)else td
  |_=>td
 |.ref i=>match y with
  |.int k=>match mP S i with
   |some xs=>if k<2^24/\-(2^24)<=k/\↥xs*k.toNat<=sizeLine then mT S (Ny k.toNat xs).flatten else td
   |none=>td
  |_=>td
 |x=>CA Cz (· * ·) x y S
abbrev gP:BOp->W->W->aa->MA (W×aa)
 |.add,x,y,S=>w6 x y S
 |.sub,x,y,S=>CA (λ_ _=>true) (· - ·) x y S
 |.mul,x,y,S=>CB x y S
 |.fdiv,x,y,S=>CA (λ_ j=>Cy j) (· / ·) x y S
 |.mod,x,y,S=>CA (λ_ j=>decide (0<j)) (· % ·) x y S
 |.pow,x,y,S=>CA IR (λi j=>i^j.toNat) x y S
abbrev BOp.py:BOp->TB
 |.add=>.Add|.sub=>.Sub|.mul=>.Mult|.fdiv=>.FloorDiv|.mod=>.Mod|.pow=>.Pow
section
variable (X:Cx)
inductive PostE (J:Mq (MF×Of))(Y:L2.St)(A:Mq MF)(H:Hp)(S':aa)(w:W)(u:Mu)(s':My):Prop
 |mk (v:V) (H':Hp) (A':Mq MF) (i:Inv X J Y H' s') (r:RelV v u) (e:Ext X.K A H A' H') (so:StoreOk X.w X.K A' H' S') (rl:Rel X.K A' H' w v):PostE J Y A H S' w u s'
noncomputable abbrev FE:=Fm->aa->MA (W×aa)
abbrev LOp (f:Mu->Mu->Vn Mu)(g:W->W->aa->MA (W×aa)):Prop:=
 ∀(J:Mq (MF×Of)) (s:My) (Y:L2.St) (H:Hp) (A:Mq MF) (S:aa) (x y:W) (a b:V) (u v:Mu) (w:W) (S':aa),Inv X J Y H s->StoreOk X.w X.K A H S->
  Rel X.K A H x a->RelV a u->Rel X.K A H y b->RelV b v->g x y S=gV (w,S')->wpAny (model X.prog X.w) X.A (f u v) (PostE X J Y A H S' w) X.xe s
end
section
variable{X:Cx}
def lb (h:mP S i=gV xs):S[i]?=gV (.lst xs):=by
 unfold mP at h;split at h
 ·cases h;assumption
 ·cases h
def eO (c:StoreOk X.w X.K A H S)(h:mP S i=gV xs)(b:A[i]?=gV a):∃vs,H a=gV (.lst vs)/\RelL X.K A H xs vs:=
 c.obj i _ a (lb h) b
def br (c:StoreOk X.w X.K A H S)(h:eC S i=gV xs)(b:A[i]?=gV a):∃vs,SqL X.K H a vs/\RelL X.K A H xs vs:=by
 unfold eC at h;split at h
 ·cases h;obtain⟨vs,q,r⟩:=c.obj i _ a (by assumption) b
  show#[vs,.of q,r]
 ·cases h;obtain⟨vs,q,r⟩:=c.obj i _ a (by assumption) b
  show#[vs,q.sq,r]
 ·cases h
def kC (h:mT S xs=gV (w,a)):↥xs<=sizeLine/\w=.ref ↥S/\a=S++[.lst xs]:=by
 unfold mT at h;split at h
 ·cases h;show#[by assumption,rfl,rfl]
 ·cases h
def uT (h:wY S xs=gV (w,a)):↥xs<=sizeLine/\w=.tup xs/\a=S:=by
 unfold wY at h;split at h
 ·cases h;show#[by assumption,rfl,rfl]
 ·cases h
def CC {Q:VK}(d:StoreOk X.w X.K A H S)(r:RelL X.K A H ws vs)(c:H p=td)
  (q:∀v a b,Ext X.K A H b a->StoreOk X.w X.K b a (S++[.lst ws])->Rel X.K b a (.ref ↥S) v->Q v a):Q (.ref p) (bK H p (.lst vs)):=
 q _ _ (A++[p]) (bY c) (d.push c r) (.ref (by rw[<- d.len];simp))
def CD {Q:VK}(d:StoreOk X.w X.K A H S)(r:RelL X.K A H ws vs)(c:H p=td)
  (q:∀v a b,Ext X.K A H b a->StoreOk X.w X.K b a S->Rel X.K b a (.tup ws) v->Q v a):Q (.ref p) (bK H p (.tup vs)):=
 q _ _ A (cv (.inl c)) (d.lay c) (.tup (.of aI) (r.mono (cv (.inl c))))
abbrev IS (K:MO):R2:=λx y H Q=>∃a b xs ys,x=.ref a/\y=.ref b/\SqT K H a xs/\SqT K H b ys/\↥xs+↥ys<=sizeLine/\
 (xs=[]->Q (.ref b) H)/\(ys=[]->Q (.ref a) H)/\(∀p,H p=td->Q (.ref p) (bK H p (.tup (xs++ys))))
def CF:OpR X (binaryOp .Add) (IS X.K):=by
 intro J s Y H x y v u Q I M N h;obtain⟨a,b,xs,ys,rfl,rfl,A,B,p,E,G,L⟩:=h;cases M;cases N;obtain⟨C,d,t,_⟩:=I.tuple A;obtain⟨r,k,p2,_⟩:=I.tuple B
 by_cases j:xs=[]
 ·obtain⟨⟨cls,w,data,O⟩,o,hc,n,hd⟩:=id t;obtain⟨⟨m,f,e,l⟩,c,g,D,i⟩:=id p2;subst hc hd g i;show TD #[_,o,rfl] #[_,c,rfl] RD SV QA Qv (Qh _ _)
   (tuple_addW0 a b _ _ n D w f O l (by simp[d.nil_iff.mpr j])) #[o,c,#[.ref b,H,I,rfl,E j]]
 ·show HT.Cj t p2 (λz=>j (d.nil_iff.mp z)) (λz=>#[.ref a,H,I,rfl,G (k.nil_iff.mp z)]) (λz=>?_) (by rw[<- ↥d,<- ↥k];show p)
  show#[.ref _,_,I.laid   (λb ob q=>Mw _ q) (MH _) ?_,rfl,L _ (I.hok.fresh (MH _))]
  show#[#[by rw[Mt];show p,NoD.new _ _ _],_,d.append k,T5 _ _]
def RelL.nil_iff {K:MO}(r:RelL K A H ws vs):vs=[]↔ws=[]:=by
 cases r<;>simp
def sQ:OpR X (binaryOp .Mult) (λx y H Q=>∃z k,x=.str z/\y=.int k/\MulOk z k/\Q (.str (Wf z k)) H):=by
 intro J s Y H x y v u Q I a b h;obtain⟨z,k,rfl,rfl,ok,q⟩:=h;obtain⟨t,rfl⟩:=a;obtain⟨t',rfl⟩:=b;show SB.mul ok λd c=>#[.str _,H,I.tok _,#[_,rfl],q]
def yP (h:k<16777216)(i : -16777216<=k)(d:↥x*k.toNat<=sizeLine):MulOk x k:=by
 have g:=NT;rw[g]at d;show#[?_,λa b=>?_,λ_ _=>?_]
 ·rw[Bool.or_eq_false_iff];show#[Nk ∅,Nk ∅]
 ·have hk:0<k:=∅
  have e:↥x*k=((↥x*k.toNat:Mz)):=by
   rw[Int.natCast_mul,OY ∅]
  intro c;have f:=(Int.ediv_lt_iff_lt_mul hk).mp c;rw[e]at f;generalize ↥x*k.toNat=z at d f;omega
 ·unfold UR;rw[g];show Nk (by show RO.mpr ‹_›)
inductive EndV (wd:Nq)(K:MO)(A:Mq MF)(H:Hp)(S':aa)(w:W)(v:V)(H':Hp):Prop
 |mk (A':Mq MF) (e:Ext K A H A' H') (so:StoreOk wd K A' H' S') (r:Rel K A' H' w v):EndV wd K A H S' w v H'
def EndV.here (a:StoreOk X.w X.K A H S)(r:Rel X.K A H w v):EndV X.w X.K A H S w v H:=#[A,.refl,a,r]
def EndV.lst (f:StoreOk X.w X.K A H S)(r:RelL X.K A H ws vs)(e:H p=td):EndV X.w X.K A H (S++[.lst ws]) (.ref ↥S) (.ref p) (bK H p (.lst vs)):=
 CC  f r e λv g d a b c=>#[d,a,b,c]
def EndV.tup (f:StoreOk X.w X.K A H S)(r:RelL X.K A H ws vs)(e:H p=td):EndV X.w X.K A H S (.tup ws) (.ref p) (bK H p (.tup vs)):=
 CD  f r e λv g d a b c=>#[d,a,b,c]
def EP.post (h:EP X J Y (EndV X.w X.K A H a w) u b):PostE X J Y A H a w u b:=by
 obtain⟨v,d,e,r,c,x,y,z⟩:=h;show#[v,d,c,e,r,x,y,z]
def OpR.go (h:OpR X f r){Y:L2.St}(I:Inv X J Y H s)(d:RelV a u)(e:RelV b v)
  (q:r a b H (EndV X.w X.K A H c w)):wpAny (model X.prog X.w) X.A (f u v) (PostE X J Y A H c w) X.xe s:=bh (h _ s Y H a b u v _ I d e q) λ_ _=>EP.post
def CG:LOp X (binaryOp .Add) (gP .add):=by
 intro J s Y H A S x y a b u v w r I c q i k j e;cases q with
 |int=>cases k with
  |int=>cases e;show OpR.go FP I i j #[_,_,rfl,rfl,.here c .int]
  |_=>cases e
 |str=>cases k with
  |str=>
   dsimp only[gP,w6]at e;split at e
   ·cases e;show OpR.go sJ I i j #[_,_,rfl,rfl,by assumption,.here c .str]
   ·cases e
  |_=>cases e
 |tup g d=>cases k with
  |tup h f=>
   obtain⟨hl,rfl,rfl⟩:=uT e;rw[Mt,↥d,↥f]at hl;show OpR.go CF I i j #[_,_,_,_,rfl,rfl,g,h,hl,λz=>?_,λz=>?_,λp l=>.tup c (d.append f) l]
   ·have m:=d.nil_iff.mp z;subst m;show .here c (.tup h f)
   ·have m:=f.nil_iff.mp z;subst m;rw[Nr];show .here c (.tup g d)
  |_=>cases e
 |ref g=>cases k with
  |ref h=>
   dsimp only[gP,w6]at e;split at e
   ·obtain⟨hl,rfl,rfl⟩:=kC e;obtain⟨vs,n,d⟩:=eO c (by assumption) g
    obtain⟨us,o,f⟩:=eO c (by assumption) h
    rw[Mt,↥d,↥f]at hl;show OpR.go F6 I i j #[_,_,_,_,rfl,rfl,n,o,hl,λp l=>.lst c (d.append f) l]
   ·cases e
  |_=>cases e
 |_=>cases e
def qB (h:OpR X f r)(d:∀i j H Q,c i j=true->Q (.int (g i j)) H->r (.int i) (.int j) H Q):LOp X f (CA c g):=by
 intro J s Y H A S x y a b u v w p I o m k n l e;cases m with
 |int=>cases n with
  |int=>
   unfold CA at e;dsimp only at e;split at e
   ·cases e;show OpR.go h I k l (d _ _ _ _ (by assumption) (.here o .int))
   ·cases e
  |_=>cases e
 |_=>cases e
def CH:LOp X (binaryOp .Sub) (gP .sub):=qB FQ λ_ _ _ _ _ q=>#[_,_,rfl,rfl,q]
def CI (h:Cz i j=true):CMul i j:=by
 unfold Cz at h;rw[Oz,MB,MB,M8,M8,M8,M8]at h;show h
def CJ:LOp X (binaryOp .Mult) (gP .mul):=by
 have l:LOp X _ _:=qB FR λ_ _ _ _ h q=>#[_,_,rfl,rfl,CI h,q]
 intro J s Y H A S x y a b u v w o I c g d i f e;cases x with
 |str z=>
  cases g with
  |str=>cases i with
   |int=>
    dsimp only[gP,CB]at e;split at e
    ·rename_i hc;cases e;show OpR.go sQ I d f #[_,_,rfl,rfl,yP ∅ ∅ hc.2.2,.here c .str]
    ·cases e
   |_=>cases e
 |ref z=>
  cases g with
  |ref k=>cases i with
   |int=>
    dsimp only[gP,CB]at e;split at e
    ·split at e
     ·rename_i hc;obtain⟨hl,rfl,rfl⟩:=kC e;obtain⟨vs,n,j⟩:=eO c (by assumption) k
      rw[↥j]at hc;show OpR.go F7 I d f #[_,_,_,rfl,rfl,n,∅,∅,hc.2.2,λp m=>.lst c (j.rep _) m]
     ·cases e
    ·cases e
   |_=>cases e
 |_=>show l _ _ _ _ _ _ _ _ _ _ _ _ _ _ I c g d i f e
def yQ:LOp X (binaryOp .FloorDiv) (gP .fdiv):=qB Cd λ_ _ _ _ h q=>#[_,_,rfl,rfl,by
 unfold Cy at h;rw[MB,M8,M8]at h;show h,q]
def CK:LOp X (binaryOp .Mod) (gP .mod):=qB FU λ_ _ _ _ h q=>#[_,_,rfl,rfl,NF h,q]
def CL:LOp X (binaryOp .Pow) (gP .pow):=qB FV λ_ _ _ _ h q=>#[_,_,rfl,rfl,by
 unfold IR at h;rw[MB,MB,M8,M8,M8]at h;show#[h.1.1,h.1.2,h.2],q]
def uU (o:BOp):LOp X (binaryOp o.py) (gP o):=by
 cases o
 ·show CG
 ·show CH
 ·show CJ
 ·show yQ
 ·show CK
 ·show CL
end
abbrev yf (S:aa)(i:Mz):MA (Mq (MM×W)):=match S[i]? with
 |some (.dik U)=>gV U
 |_=>td
abbrev eh (U:Mq (MM×W))(k:MM):MA W:=(U.find? λp=>decide (p.1=k)).map (·.2)
abbrev mU (U:Mq (MM×W))(k:MM)(v:W):Mq (MM×W):=
 if (U.any λp=>decide (p.1=k))=true then U.map (λp=>if p.1=k then(p.1,v)else p)else U++[(k,v)]
section
variable{K:MO}{A:Mq MF}{H:Hp}{wd:Nq}{S:aa}
def sR (e:yf S i=gV U):S[i]?=gV (.dik U):=by
 unfold yf at e;split at e
 ·rename_i h;cases e;show h
 ·cases e
def jj (c:StoreOk wd K A H S)(e:yf S i=gV U)(b:A[i]?=gV a):∃us,H a=gV (.dK us)/\KI K A H U us:=c.obj i _ a (sR e) b
def lc {p:MM×W}{q:bD×V}(h:q.1=Pa p.1):(q.1=(Pa k))↔p.1=k:=by
 rw[h];show#[λz=>Vq z,λz=>by rw[z]]
def KI.val (r:KI K A H U us)(k:MM) :
  (∀w,eh U k=gV w->∃v,ji us (Pa k)=gV v/\Rel K A H w v)/\(eh U k).isSome=(ji us (Pa k)).isSome:=by
 induction r with
 |nil=>show#[λw h=>(nomatch h),rfl]
 |@cons p q ps a h t ih=>
  by_cases e:p.1=k
  ·rw[iI ((lc h.1).mpr e),show eh _ k=gV p.2 by simp[eh,e]]
   show#[λw hw=>(by cases hw;show#[_,rfl,h.2]),rfl]
  ·rw[iJ (λz=>e ((lc h.1).mp z)),show eh _ k=eh ps k by simp[eh,e]]
   show ih
def KI.length (r:KI K A H U us):↥U=↥us:=PN r
def KI.put (r:KI K A H U us)(k:MM)(a:Rel K A H w v):KI K A H (mU U k w) (fQ us (Pa k) v):=by
 have b:(U.any λp=>decide (p.1=k))=us.any λq=>decide (q.1=(Pa k)):=by
  induction r with
  |nil=>rfl
  |@cons p q ps c h t ih=>rw[Oj,Oj,ih,decide_eq_decide.mpr (lc h.1)]
 unfold mU fQ;rw[b];split
 ·rename_i hc;clear hc b
  induction r with
  |nil=>show .nil
  |@cons p q ps c h t ih=>
   rw[NL,NL];show .cons ?_ ih
   by_cases e:p.1=k
   ·rw[M4 e,M4 ((lc h.1).mpr e)];show#[h.1,a]
   ·rw[Nm e,Nm (λz=>e ((lc h.1).mp z))];show h
 ·show Sr r #[rfl,a]
def StoreOk.writeK (h:StoreOk wd K A H S)(e:yf S i=gV b)(a:A[i]?=gV p)(r:KI K A H U us) :
  StoreOk wd K A (bK H p (.dK us)) (S.set i (.dik U))/\Ext K A H A (bK H p (.dK us)):=
 h.writeO (sR e) rfl a #[us,aI,r.mono (cv ((h.obj i _ p (sR e) a).wr rfl))]
end
abbrev eV (f:W->W->MA M9):Mq W->Mq W->MA M9
 |[],[]=>gV true
 |[],_::_=>gV false
 |_::_,[]=>gV false
 |x::xs,y::ys=>match f x y,eV f xs ys with
  |some a,gV b=>gV (a&&b)
  |_,_=>td
abbrev b2 (b:M9):MM:=if b then 1 else 0
abbrev ie (S:aa):Mz->W->W->MA M9
 |_,.non,y=>match y with
  |.non=>gV true
  |_=>td
 |_,.bl a,y=>match y with
  |.bl b=>gV (a==b)
  |_=>td
 |_,.int a,y=>match y with
  |.int b=>gV (a==b)
  |_=>td
 |_,.str a,y=>match y with
  |.str b=>gV (a==b)
  |_=>td
 |0,_,_=>td
 |d+1,.tup xs,y=>match y with
  |.tup ys=>eV (ie S d) xs ys
  |_=>td
 |d+1,.ref i,y=>match y with
  |.ref j=>match mP S i,mP S j with
   |some xs,gV ys=>if ↥xs=↥ys then eV (ie S d) xs ys else gV false
   |_,_=>td
  |_=>td
section
variable{X:Cx}{J:Mq (MF×Of)}{Y:L2.St}{H:Hp}{s:My}{A:Mq MF}{S:aa}
abbrev RU (K:MO)(A:Mq MF)(H:Hp)(w:W)(u:Mu):Prop:=∃v,Rel K A H w v/\RelV v u
def uV (r:RelL X.K A H ws vs)(q:Vals vs us):∀ j a (b:j<↥us),RU X.K A H ws[j] us[j]:=by
 induction ws generalizing vs us with
 |nil=>intro j a;simp at a
 |cons w ws ih=>
  cases r with
  |cons e f=>
   cases q with
   |cons c d=>
    intro j a b;cases j with
    |zero=>show#[_,e,c]
    |succ j=>show ih f d j (by simpa using a) (by simpa using b)
def yR (I:Inv X J Y H s)(h:RU X.K A H (.tup ws) u):∃a b,u=.ref a/\R1 s.heap a b/\⇑b=↥ws/\↥ws<=sizeLine/\∀ j d (e:j<⇑b),RU X.K A H ws[j] b[j]:=by
 obtain⟨v,r,q⟩:=h;cases r with
 |tup sq c=>
  obtain⟨b,f,g,i⟩:=I.tuple sq;show#[_,b.toArray,q,g,by rw[MV,<- ↥f,↥c],by rw[↥c];show i,λj d e=>?_]
  have:=uV c f j d (by simpa using e)
  simpa using this
def yS (I:Inv X J Y H s)(o:StoreOk X.w X.K A H S)(e:mP S i=gV ws)(h:RU X.K A H (.ref i) u):∃a b,u=.ref a/\A[i]?=gV a/\s.heap.IsList a b/\⇑b=↥ws/\↥ws<=sizeLine/\∀ j f (g:j<⇑b),RU X.K A H ws[j] b[j]:=by
 obtain⟨v,r,q⟩:=h;cases r with
 |ref d=>
  obtain⟨vs,l,c⟩:=eO o e d;obtain⟨b,k,m,n⟩:=I.list (.of l);show#[_,b.toArray,q,d,m.isList,by rw[MV,<- ↥k,↥c],by rw[↥c];show n,λj f g=>?_]
  have:=uV c k j f (by simpa using g)
  simpa using this
def lf :∀{xs ys:Mq W}{k:M9},eV f xs ys=gV k->∃e:Mz->M9,(∀ j c (d:j<↥ys),f xs[j] ys[j]=gV (e j))/\
  k=((MJ (min ↥xs ↥ys)).all e&&↥xs==↥ys)
 |[],[],k,h=>#[λ_=>true,λj c=>by simp at c,by cases h;rfl]
 |[],_::_,k,h=>#[λ_=>true,λj c=>by simp at c,by cases h;rfl]
 |_::_,[],k,h=>#[λ_=>true,λj c d=>by simp at d,by cases h;rfl]
 |x::xs,y::ys,k,h=>by
  dsimp only[eV]at h;split at h
  ·rename_i a b l m;cases h;obtain⟨e,c,d⟩:=lf m;show#[λj=>match j with|0=>a|j+1=>e j,λj g i=>?_,?_]
   ·cases j with
    |zero=>show l
    |succ j=>show c j (by simpa using g) (by simpa using i)
   ·subst d;revert Nh Nat.add_min_add_right RQ NG List.all_map Bool.and_assoc;congr 2;simp
  ·cases h
def CM (I:Inv X J Y H s)(p:StoreOk X.w X.K A H S):∀ d {x y:W}{v:V}{k:M9},Rel X.K A H x v->Rel X.K A H y v->ie S d x y=gV k->k=true:=by
 intro d
 induction d with
 |zero=>
  intro x y v k n f e;cases n with
  |non=>cases f;cases e;rfl
  |bl=>cases f;cases e;show NJ _
  |int=>cases f;cases e;show NJ _
  |str=>cases f;cases e;show NJ _
  |tup _ _=>cases e
  |ref _=>cases e
 |succ d ih=>
  have c:∀{xs ys:Mq W}{vs:Mq V}{k:M9},RelL X.K A H xs vs->RelL X.K A H ys vs->eV (ie S d) xs ys=gV k->k=true:=by
   intro xs
   induction xs with
   |nil=>
    intro ys vs k g h e;cases g;cases h;cases e;rfl
   |cons x xs m=>
    intro ys vs k g h e;cases g with
    |cons B C=>
     cases h with
     |cons p2 D=>
      dsimp only[eV]at e;split at e
      ·rename_i a b w z;cases e;rw[ih B p2 w,m C D z];rfl
      ·cases e
  intro x y v k n f e;cases n with
  |non=>cases f;cases e;rfl
  |bl=>cases f;cases e;show NJ _
  |int=>cases f;cases e;show NJ _
  |str=>cases f;cases e;show NJ _
  |tup u g=>
   cases f with
   |tup o h=>
    rw[I.tuple_inj u o]at g;show c g h e
   |ref i=>cases e
  |ref i=>
   cases f with
   |tup o h=>cases e
   |ref t=>
    dsimp only[ie]at e;split at e
    ·rename_i xs ys j l;have:=p.nd _ _ _ _ _ (lb j) rfl (lb l) rfl i t;subst this;rw[j]at l;cases l
     rw[M4 rfl]at e;obtain⟨vs,q,r⟩:=eO p j i;show c r r e
    ·cases e
def bf (A:Nn):A.in1.units=A.units+1:=rfl
noncomputable abbrev HV (B:Nn)(s:My)(u v:Mu)(k:M9):Prop:=SeqAt.RcAt B s u v k/\SeqAt.RcNeAt B s u v (!k)/\QP B s u v k
open SeqAt in
def ED (I:Inv X J Y H s)(V:StoreOk X.w X.K A H S):∀(d:Mz) (B:Nn) {x y:W}{u v:Mu}{k:M9},B.units+d<cLine->RU X.K A H x u->RU X.K A H y v->ie S d x y=gV k->HV B s u v k:=by
 have non:∀{B:Nn}{y:W}{u v:Mu}{k:M9}{d:Mz},RU X.K A H .non u->RU X.K A H y v->ie S d .non y=gV k->HV B s u v k:=by
  intro B y u v k d ⟨_,h,G⟩ ⟨_,l,L⟩ e;cases h;cases(show u=OM from G)
  cases y with
  |non=>
   have e:gV (true)=gV k:=by cases d<;>show e
   cases e;cases l;cases(show v=OM from L)
   show#[.none_none,.none_none,.same _]
  |_=>cases d<;>cases e
 have bl:∀{B:Nn}{b:M9}{y:W}{u v:Mu}{k:M9}{d:Mz},RU X.K A H (.bl b) u->RU X.K A H y v->ie S d (.bl b) y=gV k->HV B s u v k:=by
  intro B b y u v k d ⟨_,h,G⟩ ⟨_,l,L⟩ e;cases h;cases(show u=QM _ from G)
  cases y with
  |bl c=>
   have e:gV (b==c)=gV k:=by cases d<;>show e
   cases e;cases l;cases(show v=QM _ from L)
   show#[.bool_bool _ _,.bool_bool _ _,.bool_bool _ _]
  |_=>cases d<;>cases e
 have int:∀{B:Nn}{b:MM}{y:W}{u v:Mu}{k:M9}{d:Mz},RU X.K A H (.int b) u->RU X.K A H y v->ie S d (.int b) y=gV k->HV B s u v k:=by
  intro B b y u v k d ⟨_,h,G⟩ ⟨_,l,L⟩ e;cases h;obtain⟨t0,rfl⟩:∃t,u=SH _ t:=G;cases y with
  |int c=>
   have e:gV (b==c)=gV k:=by cases d<;>show e
   cases e;cases l;obtain⟨t,rfl⟩:∃t,v=SH _ t:=L;show#[.int_int _ _ _ _,.int_int _ _ _ _,.int_int _ _ _ _]
  |_=>cases d<;>cases e
 have str:∀{B:Nn}{b:M2}{y:W}{u v:Mu}{k:M9}{d:Mz},RU X.K A H (.str b) u->RU X.K A H y v->ie S d (.str b) y=gV k->HV B s u v k:=by
  intro B b y u v k d ⟨_,h,G⟩ ⟨_,l,L⟩ e;cases h;obtain⟨t0,rfl⟩:∃t,u=SJ _ t:=G;cases y with
  |str c=>
   have e:gV (b==c)=gV k:=by cases d<;>show e
   cases e;cases l;obtain⟨t,rfl⟩:∃t,v=SJ _ t:=L;show#[.str_str _ _ _ _,.str_str _ _ _ _,.str_str _ _ _ _]
  |_=>cases d<;>cases e
 intro d
 induction d with
 |zero=>
  intro B x y u v k hu h l e;cases x with
  |non=>show non h l e
  |bl b=>show bl h l e
  |int b=>show int h l e
  |str b=>show str h l e
  |_=>cases e
 |succ d ih=>
  intro B x y u v k hu h l e;have p:B.units<cLine:=∅
  have P:B.in1.units+d<cLine:=by rw[bf];omega
  have T:=h;have U:=l;have fin:∀{a b:MF},u=.ref a->v=.ref b->RcAt B s u v k->RcNeAt B s u v (!k)->HV B s u v k:=by
   intro a b ea eb w z;subst ea eb;show#[w,z,?_]
   by_cases M:a=b
   ·subst M;obtain⟨v1,q1,z1⟩:=T;obtain⟨v2,q2,z2⟩:=U;have Q:v1=v2:=z1.inj z2;subst Q;have:=CM I V (d+1) q1 q2 e;subst this;show EqAt.same _
   ·show EqAt.of_refs M w
  cases x with
  |non=>show non h l e
  |bl b=>show bl h l e
  |int b=>show int h l e
  |str b=>show str h l e
  |tup xs=>
   cases y with
   |tup ys=>
    obtain⟨a,o,rfl,ht,q,_,hi⟩:=yR I h;obtain⟨b,g,rfl,O,m,_,C⟩:=yR I l;obtain⟨f,w,z⟩:=lf (show eV (ie S d) xs ys=gV k from e)
    have N:∀j (w:j<⇑o) (z:j<⇑g),EqAt B.in1 s o[j] g[j] (f j):=λj D E=>
     (ih B.in1 P (hi j (q▸D) D) (C j (m▸E) E) (w j (q▸D) (m▸E))).2.2
    rw[<- q,<- m]at z;subst z;show fin rfl rfl (RcAt.tuples ht O p N) (RcNeAt.tuples ht O p N)
   |_=>cases e
  |ref i=>
   cases y with
   |ref j=>
    dsimp only[ie]at e;split at e
    ·rename_i ws ws2 hw R;obtain⟨a,o,rfl,_,hl,q,_,hi⟩:=yS I V hw h;obtain⟨b,g,rfl,_,r,m,_,C⟩:=yS I V R l;split at e
     ·rename_i n;obtain⟨f,w,z⟩:=lf e;have N:∀j (w:j<⇑o) (z:j<⇑g),EqAt B.in1 s o[j] g[j] (f j):=λj D E=>
       (ih B.in1 P (hi j (q▸D) D) (C j (m▸E) E) (w j (q▸D) (m▸E))).2.2
      have hk:k=(MJ ⇑o).all f:=by rw[z,q,n];simp
      subst hk;show fin rfl rfl (RcAt.lists hl r (by rw[q,m,n]) p N) (RcNeAt.lists hl r (by rw[q,m,n]) p N)
     ·rename_i n;cases e;have Z:(⇑o != ⇑g)=true:=by rw[q,m];simpa using n
      show fin rfl rfl (RcAt.lists_lengths hl r Z p) (RcNeAt.lists_lengths hl r Z p)
    ·cases e
   |_=>cases e
end
abbrev LtAt (B:Nn)(s:My)(u v:Mu)(k:M9):Prop:=
 ∀(prog:Nc) (w:Nq) (E:Mu->My->Prop) (Q:Mu->My->Prop),Q (.bool k) s->wpAny (model prog w) B (richCompare .Lt u v) Q E s
inductive LexR (B:Nn)(s:My):Mq Mu->Mq Mu->M9->Prop
 |nn:LexR B s [] [] false
 |nc {v:Mu}{vs:Mq Mu}:LexR B s [] (v::vs) true
 |cn {v:Mu}{vs:Mq Mu}:LexR B s (v::vs) [] false
 |eq {u v:Mu}{us vs:Mq Mu}{k:M9}:QP B s u v true->LexR B s us vs k->LexR B s (u::us) (v::vs) k
 |ne {u v:Mu}{us vs:Mq Mu}{k:M9}:QP B s u v false->LtAt B s u v k->LexR B s (u::us) (v::vs) k
section
open PySem.SeqAt
open PySem.AutoSeq1 (wpAny_loadPart')
open PySem.MeetsSeq PySem.MeetsSeq2 PySem.MeetsSeq3
def oX (l b:MF)(items a:NH Mu)(n D:Mz)(v m:MA MF)(E t:NH (MA Mu))(k:M9) :
  Meets (PV.«tuple.__lt__» #[[.ref l,.ref b],[]])
   (λB R s=>s.heap.get? l=gV {cls:=.type "tuple",dict:=v,data:=.seq items n,slots:=E}/\s.heap.get? b=gV {cls:=.type "tuple",dict:=m,data:=.seq a D,slots:=t}/\
    LexR B.in1 s items.toList a.toList k/\R (.ok (.ret (.bool k))) s):=
 .of_wp λprog w A R s h=>by
  obtain⟨u,g,d,tk,os⟩:=s;obtain⟨hl,z,j,h⟩:=h
  have H:=Uqb;have I:↥items.toList=⇑items:=by simp
  have J:↥a.toList=⇑a:=by simp
  wp_walk using Ql hl,Ql z,RF _ (λcj b r=>b.1=td/\r=#[u,g,d,tk,os]/\∃vs ws,cj=vs.zip ws/\
   LexR A.in1 #[u,g,d,tk,os] vs ws k/\↥vs+⇑a=↥ws+⇑items) _
  case turn=>
   rintro⟨y,x⟩ cj b r ⟨f,rfl,vs,ws,e,i,c⟩;cases i with
   |nn=>rw[TQ]at e;cases e
   |nc=>rw[TQ]at e;cases e
   |cn=>rw[List.zip_nil_right]at e;cases e
   |eq o p=>
    rw[Qp]at e;injection e with hyx hrest
    injection hyx with hy j
    subst hy j;simp only[Nh]at c;show Ms (o prog w _ _ ?_)
    wp_walk
    show#[rfl,rfl,_,_,hrest,p,∅]
   |ne o p=>
    rw[Qp]at e;injection e with hyx hrest
    injection hyx with hy j
    subst hy j;show Ms (o prog w _ _ ?_);have q:=p prog w
    wp_walk using q
    show#[_,rfl,by simpa using h]
  case fin=>
   rintro⟨G,b2⟩ r ⟨f,rfl,vs,ws,e,i,c⟩;simp only at f;subst f;have C:k=decide (⇑items<⇑a):=by
    cases i with
    |nn=>simp only[Oy]at c;show(Nk ∅).symm
    |nc=>simp only[Oy,Nh]at c;show(NB ∅).symm
    |cn=>simp only[Oy,Nh]at c;show(Nk ∅).symm
    |eq _ _=>rw[Qp]at e;cases e
    |ne _ _=>rw[Qp]at e;cases e
   subst C
   wp_walk
   show#[_,rfl,by simpa [T0]using h]
  case h=>
   show#[rfl,rfl,items.toList,a.toList,rfl,j,∅]
end
def LtAt.tuples (hl:R1 s.heap l items)(p:R1 s.heap b a)(q:B.units<cLine)(r:LexR B.in1 s items.toList a.toList k) :
  LtAt B s (.ref l) (.ref b) k:=λprog w E Q h=>by
 obtain⟨⟨cls,o,data,u⟩,m,hc,n,hd⟩:=id hl;obtain⟨⟨j,e,d,i⟩,c,f,t,g⟩:=id p;subst hc hd f g;show richCompare_meets_room  #[_,m,rfl] #[_,c,rfl] PySem.F.slot_tuple_lt PySem.F.entry_tuple_lt (PySem.F.args_tuple_lt_2 _ _) (oX l b _ _ n t o e u i k)
  #[m,c,r,#[(λx=>nomatch x),h]] q
inductive COp where|eq|ne|lt|le|gt|ge|isin|notin|is|isnot
 deriving PY
abbrev COp.py:COp->Uj
 |.eq=>.Eq|.ne=>.NotEq|.lt=>.Lt|.le=>.LtE|.gt=>.Gt|.ge=>.GtE|.isin=>.In|.notin=>.NotIn|.is=>.Is|.isnot=>.IsNot
abbrev aP:W->M9
 |.non=>true
 |.bl _=>true
 |.int _=>true
 |.str _=>true
 |_=>false
abbrev jQ:W->W->M9
 |.non,.non=>true
 |.bl a,.bl b=>a==b
 |.bl a,.int b=>b2 a==b
 |.int a,.bl b=>a==b2 b
 |.int a,.int b=>a==b
 |.str a,.str b=>a==b
 |_,_=>false
abbrev cp (S:aa):W->MA (Mq W)
 |.tup xs=>gV xs
 |.ref i=>eC S i
 |_=>td
noncomputable abbrev ig:Mz:=20
abbrev Kr (x y:W)(S:aa):MA M9:=match x with
 |.int k=>match y with
  |.ref i=>(yf S i).map λU=>(eh U k).isSome
  |_=>td
 |_=>td
abbrev yT (x y:W)(S:aa):MA M9:=match cp S y with
 |some ys=>if aP x&&ys.all aP then gV (ys.any λz=>jQ z x)else td
 |none=>Kr x y S
abbrev yU:W->M9
 |.non=>true
 |_=>false
abbrev yV (f:MM->MM->M9):W->W->MA M9
 |.int i,.int j=>gV (f i j)
 |_,_=>td
abbrev sS:COp->W->W->aa->MA M9
 |.eq,x,y,S=>ie S ig x y
 |.ne,x,y,S=>(ie S ig x y).map (!·)
 |.lt,x,y,_=>yV (λi j=>decide (i<j)) x y
 |.le,x,y,_=>yV (λi j=>decide (i<=j)) x y
 |.gt,x,y,_=>yV (λi j=>decide (j<i)) x y
 |.ge,x,y,_=>yV (λi j=>decide (j<=i)) x y
 |.isin,x,y,S=>yT x y S
 |.notin,x,y,S=>(yT x y S).map (!·)
 |.is,x,y,_=>if yU y then gV (yU x)else td
 |.isnot,x,y,_=>if yU y then gV (!yU x)else td
abbrev cY (o:COp)(x y:W)(S:aa):MA (W×aa):=(sS o x y S).map λk=>(.bl k,S)
section
variable{X:Cx}
def kD {Y:L2.St}(I:Inv X J Y H s)(a:StoreOk X.w X.K A H S):PostE X J Y A H S (.bl k) (.bool k) s:=
 #[.bl k,H,A,I,rfl,.refl,a,.bl]
def CN (h:cY o x y S=gV (w,a)):∃k,sS o x y S=gV k/\w=.bl k/\a=S:=by
 unfold cY at h;rw[Mv]at h;obtain⟨k,b,c⟩:=h;cases c;show#[k,b,rfl,rfl]
def fR (r:Rel X.K A H w v)(f:aP w=true):gX v=true:=by
 cases r<;>first|rfl|cases f
def jk :∀{ws:Mq W}{vs:Mq V},RelL X.K A H ws vs->ws.all aP=true->vs.all gX=true:=by
 intro ws
 induction ws with
 |nil=>intro vs r f;cases r;rfl
 |cons w ws ih=>
  intro vs r f;cases r with
  |cons r t=>
   rw[NG,MB]at f ⊢;show#[fR r f.1,ih t f.2]
def uW (r:Rel X.K A H x u)(q:Rel X.K A H y v)(a:aP x=true)(b:aP y=true):Cr u v=jQ x y:=by
 cases r<;>cases q<;>first|rfl|cases a|cases b
def CO (q:Rel X.K A H y v)(a:aP y=true):∀{ws:Mq W}{vs:Mq V},RelL X.K A H ws vs->ws.all aP=true->Kq v vs=ws.any λz=>jQ z y:=by
 intro ws
 induction ws with
 |nil=>intro vs r f;cases r;rfl
 |cons w ws ih=>
  intro vs r f;cases r with
  |cons r t=>
   rw[NG,MB]at f;have:=ih t f.2;unfold Kq at this ⊢;rw[Oj,Oj,uW r q f.1 a,this]
def uX {J:Mq (MF×Of)}{Y:L2.St}{s:My}(f:StoreOk X.w X.K A H S)(r:Rel X.K A H y b)(e:cp S y=gV ys):∃p vs,b=.ref p/\(SqL X.K H p vs\/SqT X.K H p vs)/\RelL X.K A H ys vs:=by
 cases r with
 |tup a c=>cases e;show#[_,_,rfl,.inr a,c]
 |ref d=>
  obtain⟨vs,a,c⟩:=br f e d;show#[_,vs,rfl,.inl a,c]
 |_=>cases e
def yW (i:OpR X (compareOp o) (K8 X.K c)){Y:L2.St}(I:Inv X J Y H s)(h:StoreOk X.w X.K A H S)
  (g:Rel X.K A H x a) (k:RelV a u) (m:Rel X.K A H y b) (l:RelV b v) (e:cp S y=gV ys) (f:(aP x&&ys.all aP)=true) :
  wpAny (model X.prog X.w) X.A (compareOp o u v) (PostE X J Y A H S (.bl (if c then !ys.any λz=>jQ z x else ys.any λz=>jQ z x))) X.xe s:=by
 obtain⟨p,vs,rfl,j,d⟩:=uX (J:=J) (Y:=Y) (s:=s) h m e;rw[MB]at f;show OpR.go i I k l #[p,vs,rfl,j,fR g f.1,jk d f.2,?_];rw[CO g f.1 d f.2];show .here h .bl
def yX {u :Mu}(n:StoreOk X.w X.K A H S)(l:Rel X.K A H x a)(m:Rel X.K A H y b)(j:RelV b v)(e:Kr x y S=gV c):∃d o,v=.ref d/\DGet H d a o/\c=o.isSome:=by
 cases l with
 |int=>cases m with
  |ref f=>
   obtain⟨U,g,h⟩:=Mv.mp e;obtain⟨us,i,r⟩:=jj n g f;show#[_,_,j,DGet.k (k:=Pa _) i,h.symm.trans (r.val _).2]
  |_=>cases e
 |_=>cases e
def iL (M:X.A.units+ig<cLine)(o:COp):LOp X (compareOp o.py) (cY o):=by
 intro J s Y H A S x y a b u v w Q I l q n r p e;obtain⟨k,t,N,O⟩:=CN e;subst N;subst O;clear e
 rename aa=>S
 have m:∀{f:MM->MM->M9},yV f x y=gV k->∃i j,x=.int i/\y=.int j/\k=f i j:=by
  intro f h;cases x with
  |int i=>cases y with
   |int j=>cases h;show#[i,j,rfl,rfl,rfl]
   |_=>cases h
  |_=>cases h
 have D:X.A.units+1<cLine:=by have:ig=20:=rfl;omega
 have B:∀{c:M9},yT x y S=gV c->(∃ys,cp S y=gV ys/\(aP x&&ys.all aP)=true/\c=ys.any λz=>jQ z x)\/Kr x y S=gV c:=by
  intro c h;unfold yT at h;split at h
  ·split at h
   ·cases h;show .inl #[_,by assumption,by assumption,rfl]
   ·cases h
  ·show .inr h
 have E:∀{c:M9},(if yU y then gV c else td)=gV k->y=.non/\k=c:=by
  intro c h;cases y with
  |non=>cases h;show#[rfl,rfl]
  |_=>cases h
 cases o with
 |eq=>show(ED I l _ X.A M #[a,q,n] #[b,r,p] t).1 _ _ _ _ (kD I l)
 |ne=>
  obtain⟨R,C,rfl⟩:=Mv.mp t;show(ED I l _ X.A M #[a,q,n] #[b,r,p] C).2.1 _ _ _ _ (kD I l)
 |lt=>
  obtain⟨i,j,rfl,rfl,rfl⟩:=m t;cases q;cases r
  show OpR.go IB I n p #[_,_,rfl,rfl,.here l .bl]
 |le=>
  obtain⟨i,j,rfl,rfl,rfl⟩:=m t;cases q;cases r
  show OpR.go IC I n p #[_,_,rfl,rfl,.here l .bl]
 |gt=>
  obtain⟨i,j,rfl,rfl,rfl⟩:=m t;cases q;cases r
  show OpR.go ID I n p #[_,_,rfl,rfl,.here l .bl]
 |ge=>
  obtain⟨i,j,rfl,rfl,rfl⟩:=m t;cases q;cases r
  show OpR.go IE I n p #[_,_,rfl,rfl,.here l .bl]
 |isin=>
  rcases B t with⟨ys,C,L,rfl⟩|h
  ·show yW  wL I l q n r p C L
  ·obtain⟨d,o,rfl,g,rfl⟩:=yX (u:=u) l q r p h;show Lc D I g n λP G=>kD G l
 |notin=>
  obtain⟨c,h,rfl⟩:=Mv.mp t;rcases B h with⟨ys,C,L,rfl⟩|h
  ·show yW  oU I l q n r p C L
  ·obtain⟨d,o,rfl,g,rfl⟩:=yX (u:=u) l q r p h;show Cv D I g n λP G=>kD G l
 |is=>
  obtain⟨rfl,rfl⟩:=E t;cases r;show OpR.go FX I n p #[rfl,?_];cases q<;>show .here l .bl
 |isnot=>
  obtain⟨rfl,rfl⟩:=E t;cases r;show OpR.go Ce I n p #[rfl,?_];cases q<;>show .here l .bl
end
end Mi
namespace HT
open PySem PyProof.Rows
section
variable{prog:Nc}{w:Nq}{A:Nn}{E:Mu->My->Prop}{s:My}
def gQ {lo :MA MM}(a:R1 s.heap t items)(g:s.heap.IsSliceOf f i j .none)(l:Rf i lo)(m:Rf j hi)
  (hw:dE ⇑items 0 lo=0/\dE ⇑items ⇑items hi=⇑items) (h:Q (.ref t) s):wpAny (model prog w) A (getItem (.ref t) (.ref f)) Q E s:=by
 obtain⟨os,e,d,k⟩:=id g;have c:s.TypeIs (.ref f) "slice":=#[os,e,d];unfold getItem
 try with_reducible show N1 ?_
 first|refine Ms (ME ?_)|skip
 show Ms (TF a.typeIs #v[] ?_)
 show Ms (NN (name:=Str.ofString "__getitem__") a.typeIs OJ
  (N2 OJ a.typeIs SO ?_ (Th _ _)))
 change wpAny _ _ (PZ (.ref t) >>= _) _ _ s;show Ms (UU a ?_);show Ms (P2 c ?_);rw[M4 #v[]]
 show Ms (eU g l m ?_);have b:((((dE ⇑items 0 lo:Mz):MM)==0&&(1:MM)==1&&(dE ⇑items ⇑items hi-dE ⇑items 0 lo)==⇑items)=true):=by
  rw[hw.1,hw.2];simp
 change wpAny _ _ (if (((dE ⇑items 0 lo:Mz):MM)==0&&(1:MM)==1&&(dE ⇑items ⇑items hi-dE ⇑items 0 lo)==⇑items)=true then _ else _) _ _ s
 rw[M4 b];unfold UK;show Ms (Ms (P2 a.typeIs (ME ?_)));rw[M4 #v[]]
 show Ms (Rc (Ms (ME (ME #[_,rfl,ME h]))))
end
end HT
namespace Mi
open PySem PySem.Spec PyProof.Rows L2
abbrev uY (x y:W)(S:aa):MA (W×aa):=match x,y with
 |.tup xs,.int i=>(sE xs i).map λw=>(w,S)
 |.ref r,.int i=>match eC S r with
  |some xs=>(sE xs i).map λw=>(w,S)
  |none=>match yf S r with
   |some U=>(eh U i).map λw=>(w,S)
   |none=>td
 |.str x,.int i=>if ↥x<=sizeLine then(sE x.cps.toList i).map λc=>(.str #[[c].toArray],S)else td
 |_,_=>td
abbrev w8 (xs:Mq W)(lo hi:MA MM):Mq W:=(xs.drop (HT.dE ↥xs 0 lo)).take (HT.dE ↥xs ↥xs hi-HT.dE ↥xs 0 lo)
abbrev qe (x:W)(lo hi:MA MM)(S:aa):MA (W×aa):=match x with
 |.tup xs=>gV (.tup (w8 xs lo hi),S)
 |.ref r=>match eC S r with
  |some xs=>gV (.ref ↥S,S++[.lst (w8 xs lo hi)])
  |none=>td
 |_=>td
abbrev qC (o i v:W)(S:aa):MA aa:=match o,i with
 |.ref r,.int k=>match mP S r with
  |some xs=>match yd ↥xs k with
   |some j=>gV (S.set r (.lst (xs.set j v)))
   |none=>td
  |none=>match yf S r with
   |some U=>if ↥U<sizeLine then gV (S.set r (.dik (mU U k v)))else td
   |none=>td
 |_,_=>td
section
variable (X:Cx)
abbrev LIx (g:W->W->aa->MA (W×aa)):Prop:=
 ∀(d c:M7) (J:Mq (MF×Of)) (s:My) (Y:L2.St) (H:Hp) (A:Mq MF) (S:aa) (x y:W) (a b:V) (u v:Mu) (w:W) (S':aa),Inv X J Y H s->StoreOk X.w X.K A H S->
  Rel X.K A H x a->RelV a u->Rel X.K A H y b->RelV b v->g x y S=gV (w,S')->subscripted c false u v=operate [u,v] (getItem u v)->wpAny (model X.prog X.w) X.A (subscriptTail d c u v) (PostE X J Y A H S' w) X.xe s
abbrev LSl (g:W->MA MM->MA MM->aa->MA (W×aa)):Prop:=
 ∀(J:Mq (MF×Of)) (s:My) (Y:L2.St) (H:Hp) (A:Mq MF) (S:aa) (x:W) (a:V) (v vl vu:Mu) (lo hi:MA MM) (sl:MF) (w:W) (S':aa),Inv X J Y H s->StoreOk X.w X.K A H S->
  Rel X.K A H x a->RelV a v->s.heap.IsSliceOf sl vl vu .none->Rf vl lo->Rf vu hi->g x lo hi S=gV (w,S')->
  ∃T id,typeLookup (.type T) "__getitem__" = pure (gV (.builtin id))/\s.TypeIs v T/\wpAny (model X.prog X.w) X.A (getItem v (.ref sl)) (PostE X J Y A H S' w) X.xe s
abbrev LSet (g:W->W->W->aa->MA aa):Prop:=
 ∀(J:Mq (MF×Of)) (s:My) (Y:L2.St) (H:Hp) (A:Mq MF) (S:aa) (o i x:W) (ao ai ax:V) (uo ui ux:Mu) (S':aa),Inv X J Y H s->StoreOk X.w X.K A H S->
  Rel X.K A H o ao->RelV ao uo->Rel X.K A H i ai->RelV ai ui->Rel X.K A H x ax->RelV ax ux->g o i x S=gV S'->
  wpAny (model X.prog X.w) X.A (setItem uo ui ux) (λ_ c=>∃a b,Inv X J Y a c/\Ext X.K A H b a/\StoreOk X.w X.K b a S') X.xe s
abbrev LCall (f:Mu)(g:Mq W->aa->MA (W×aa)):Prop:=
 ∀(J:Mq (MF×Of)) (s:My) (Y:L2.St) (H:Hp) (A:Mq MF) (S:aa) (xs:Mq W) (vs:Mq V) (us:Mq Mu) (w:W) (S':aa),Inv X J Y H s->StoreOk X.w X.K A H S->
  RelL X.K A H xs vs->Vals vs us->g xs S=gV (w,S')->wpAny (model X.prog X.w) X.A (call f us) (PostE X J Y A H S' w) X.xe s
abbrev jR (id:N9)(g:W->Mq W->aa->MA (W×aa)):Prop:=
 ∀(J:Mq (MF×Of)) (s:My) (Y:L2.St) (H:Hp) (A:Mq MF) (S:aa) (x:W) (a:V) (u:Mu) (xs:Mq W) (vs:Mq V) (us:Mq Mu) (w:W) (S':aa),Inv X J Y H s->StoreOk X.w X.K A H S->
  Rel X.K A H x a->RelV a u->RelL X.K A H xs vs->Vals vs us->g x xs S=gV (w,S')->wpAny (model X.prog X.w) X.A (call (.builtin id) (u::us)) (PostE X J Y A H S' w) X.xe s
end
section
variable{X:Cx}{J:Mq (MF×Of)}{Y:L2.St}{H:Hp}{s:My}{A:Mq MF}{S:aa}
def IxR.go (h:IxR X r)(I:Inv X J Y H s)(g:RelV a u)(i:RelV b v)(q:r a b H (EndV X.w X.K A H e w))(f:subscripted c false u v=operate [u,v] (getItem u v)) :
  wpAny (model X.prog X.w) X.A (subscriptTail d c u v) (PostE X J Y A H e w) X.xe s:=bh (h _ _ _ s Y H a b u v _ I g i q f) λ_ _=>EP.post
def CallR.go (h:CallR X f r)(I:Inv X J Y H s)(b:Vals vs us)(q:r vs H (EndV X.w X.K A H a w)) :
  wpAny (model X.prog X.w) X.A (call f us) (PostE X J Y A H a w) X.xe s:=bh (h _ s Y H vs us _ I b q) λ_ _=>EP.post
def MtR.go {id:N9}(h:MtR X id r)(I:Inv X J Y H s)(c:RelV a u)(d:Vals vs us)(q:r a vs H (EndV X.w X.K A H b w)) :
  wpAny (model X.prog X.w) X.A (call (.builtin id) (u::us)) (PostE X J Y A H b w) X.xe s:=bh (h _ s Y H a vs u us _ I c d q) λ_ _=>EP.post
def uZ (r:RelL X.K A H xs vs)(e:sE xs i=gV w):∃v,sE vs i=gV v/\Rel X.K A H w v:=by
 unfold sE at e ⊢;rw[↥r]at e;cases q:yd _ i with
 |none=>rw[q]at e;cases e
 |some j=>
  rw[q]at e;obtain⟨v,a,b⟩:=r.get e;show#[v,a,b]
def Mg (M:X.A.units+10<cLine):LIx X uY:=by
 intro B t J s Y H A S x y a b u v w L I g G n p o e m;cases G with
 |tup h j=>cases p with
  |int=>
   (dsimp only[uY]at e;simp only[Mv]at e)
   obtain⟨E,d,f⟩:=e;cases f;obtain⟨z,i,l⟩:=uZ j d;show IxR.go F2 I n o #[_,_,_,_,rfl,rfl,h,i,.here g l] m
  |_=>cases e
 |ref D=>cases p with
  |int=>
   dsimp only[uY]at e;split at e
   ·rename_i ws hw;rw[Mv]at e;obtain⟨E,d,f⟩:=e;cases f;obtain⟨vs,h,j⟩:=br g hw D;obtain⟨z,i,l⟩:=uZ j d;show IxR.go Cp I n o #[_,_,_,_,rfl,rfl,h,i,.here g l] m
   ·split at e
    ·rename_i U hk;rw[Mv]at e;obtain⟨E,d,f⟩:=e;cases f;obtain⟨us,h,j⟩:=jj g hk D;obtain⟨z,i,l⟩:=(j.val _).1 _ d;obtain rfl:u=NK _:=n;obtain⟨O,hd,vs,q,C⟩:=kX I.hok (.inl h);obtain⟨N,hw,r⟩:=RelO.some_of   (by rw[<- i];show q.val _)
     show PC  C.typeIs PySem.F.slot_dict_getitem.lookup
      (wpAny_getItem_of  (nB (k:=Pa _) o) C.mapOf hw #[rfl,z,H,A,I.tok _,r,.refl,g,l]) m
    ·cases e
  |_=>cases e
 |str=>cases p with
  |int=>
   dsimp only[uY]at e;split at e
   ·rw[Mv]at e;obtain⟨c,d,f⟩:=e;cases f;show IxR.go F3 I n o #[_,_,_,rfl,rfl,by assumption,d,.here g .str] m
   ·cases e
  |_=>cases e
 |_=>cases p<;>cases e
def oY {lo :MA MM}(r:RelL X.K A H xs vs):RelL X.K A H (w8 xs lo hi) (oP vs lo hi):=by
 unfold w8 oP;rw[↥r];show(r.drop _).take _
def CP:IJ X (λx lo hi H Q=>∃a xs,x=.ref a/\SqT X.K H a xs/\(oP xs lo hi=xs->Q (.ref a) H)/\∀p,H p=td->Q (.ref p) (bK H p (.tup (oP xs lo hi)))):=by
 intro J s Y H x v m n lo hi l Q I j d g i h;obtain⟨a,xs,rfl,f,k,q⟩:=h
 by_cases hw:(HT.dE ↥xs 0 lo=0/\HT.dE ↥xs ↥xs hi=↥xs)
 ·cases j;obtain⟨c,r,e,o⟩:=I.tuple f;have b:⇑c.toArray=↥xs:=by show r.length.symm
  show#["tuple",_,PyProof.Rows.slot_tuple_getitem.lookup,e.typeIs,?_];show HT.gQ e d g i (by rw[b];show hw) #[.ref a,H,I,rfl,k ?_]
  unfold oP;rw[hw.1,hw.2];simp
 ·show F1 _ s Y H _ v m n lo hi l Q I j d g i #[a,xs,rfl,f,hw,q]
def Mh:LSl X qe:=by
 intro J s Y H A S x a v o r lo hi n w y I d u m j k l e;cases u with
 |tup b c=>
  cases e;obtain⟨T,id,g,h,i⟩:=CP _ s Y H _ v o r lo hi n (EndV X.w X.K A H S _) I m j k l #[_,_,rfl,b,λq=>.here d (.tup b (by have:=oY (lo:=lo) (hi:=hi) c;rw[q]at this;show this)),λp f=>.tup d (oY c) f]
  show#[T,id,g,h,bh i λ_ _=>EP.post]
 |ref t=>
  dsimp only[qe]at e;split at e
  ·rename_i ws hw;cases e;obtain⟨vs,b,c⟩:=br d hw t;obtain⟨T,id,g,h,i⟩:=Cq _ s Y H _ v o r lo hi n (EndV X.w X.K A H _ _) I m j k l #[_,_,rfl,b,λp f=>.lst d (oY c) f]
   show#[T,id,g,h,bh i λ_ _=>EP.post]
  ·cases e
 |_=>cases e
def lset (E:X.A.units+10<cLine):LSet X qC:=by
 intro J s Y H A S o i x C B D t w y z I h u d q c r f e;cases u with
 |ref g=>cases q with
  |int=>
   dsimp only[qC]at e;split at e
   ·rename_i ws hw;split at e
    ·rename_i j p;cases e;obtain⟨vs,m,b⟩:=eO h hw g;rw[↥b]at p;obtain⟨a,ex⟩:=h.write (lb hw) g (b.set r j);show bh (yG _ s Y H _ _ _ t w y (λn=>n=bK H _ _) I d c f #[_,_,_,_,rfl,rfl,m,p,rfl]) λ_ v #[n,l,e']=>#[_,A,e'▸l,ex,a]
    ·cases e
   ·split at e
    ·rename_i U hk;split at e
     ·rename_i hl;cases e;obtain⟨us,m,b⟩:=jj h hk g;obtain rfl:t=NK _:=d;obtain⟨a,ex⟩:=h.writeK hk g (b.put _ r);rw[↥b]at hl;show wR ∅ I (DPut.k (k:=Pa _) m hl) c f λv l=>#[_,A,l,ex,a]
     ·cases e
    ·cases e
  |_=>cases e
 |_=>cases q<;>cases e
abbrev lg (xs:Mq W)(S:aa):MA (W×aa):=match xs with
 |[.tup ys]=>gV (.int ↥ys,S)
 |[.str y]=>if ↥y<=sizeLine then gV (.int ↥y,S)else td
 |[.ref i]=>(eC S i).map λys=>(.int ↥ys,S)
 |_=>td
def xf:LCall X (.builtin "len") lg:=by
 intro J s Y H A S xs vs us w j I a h d e;cases h with
 |nil=>cases e
 |cons r t=>
  cases t with
  |cons _ _=>cases r<;>cases e
  |nil=>
   cases r with
   |tup b c=>cases e;rw[↥c];show CallR.go kU I d #[_,_,rfl,.inr #[_,b,rfl],.here a .int]
   |str=>
    dsimp only[lg]at e;split at e
    ·cases e;show CallR.go kU I d #[_,_,rfl,#[by assumption,rfl],.here a .int]
    ·cases e
   |ref g=>
    (dsimp only[lg]at e;simp only[Mv]at e)
    obtain⟨ws,hw,f⟩:=e;cases f;obtain⟨i,b,c⟩:=br a hw g;rw[↥c];show CallR.go kU I d #[_,_,rfl,.inl #[_,b,rfl],.here a .int]
   |_=>cases e
abbrev fI (xs:Mq W)(S:aa):MA (W×aa):=match xs with
 |[x]=>match cp S x with
  |some ys=>gV (.ref ↥S,S++[.lst ys])
  |none=>td
 |_=>td
def ii:LCall X (.type "list") fI:=by
 intro J s Y H A S xs vs us w i I b g h e;cases g with
 |nil=>cases e
 |cons r t=>
  cases t with
  |cons _ _=>cases e
  |nil=>
   dsimp only[fI]at e;split at e
   ·rename_i ys d;cases e;obtain⟨p,a,rfl,c,f⟩:=uX (J:=J) (Y:=Y) (s:=s) b r d;show CallR.go oV I h #[p,a,rfl,c,λl hl=>.lst b f hl]
   ·cases e
abbrev lh (xs:Mq W)(S:aa):MA (W×aa):=match xs with
 |[.tup ys]=>gV (.tup ys,S)
 |[.ref i]=>match eC S i with
  |some ys=>gV (.tup ys,S)
  |none=>td
 |_=>td
def jS:LCall X (.type "tuple") lh:=by
 intro J s Y H A S xs vs us w j I c h d e;cases h with
 |nil=>cases e
 |cons r t=>
  cases t with
  |cons _ _=>cases r<;>cases e
  |nil=>
   cases r with
   |tup a b=>cases e;show CallR.go gY I d #[_,_,rfl,.inr #[a,.here c (.tup a b)]]
   |ref f=>
    dsimp only[lh]at e;split at e
    ·rename_i ys g;cases e;obtain⟨i,a,b⟩:=br c g f;show CallR.go gY I d #[_,_,rfl,.inl #[a,λl hl=>.tup c b hl]]
    ·cases e
   |_=>cases e
abbrev IT (xs:Mq W)(S:aa):MA (W×aa):=match xs with
 |[.int i]=>gV (.int i,S)
 |[.bl b]=>gV (.int (if b then 1 else 0),S)
 |_=>td
def xg:LCall X (.type "int") IT:=by
 intro J s Y H A S xs vs us w d I b c a e;cases c with
 |nil=>cases e
 |cons r t=>
  cases t with
  |cons _ _=>cases r<;>cases e
  |nil=>
   cases r with
   |int=>cases e;show CallR.go nr I a (.inl #[_,rfl,.here b .int])
   |bl=>cases e;show CallR.go nr I a (.inr #[_,rfl,.here b .int])
   |_=>cases e
abbrev iM (x:W)(xs:Mq W)(S:aa):MA (W×aa):=match x,xs with
 |.ref i,[y]=>match mP S i with
  |some ys=>if ↥ys<sizeLine then gV (.non,S.set i (.lst (ys++[y])))else td
  |none=>td
 |_,_=>td
def jl (f:StoreOk X.w X.K A H S)(e:mP S i=gV c)(d:A[i]?=gV p)(r:RelL X.K A H ws us)(a:Rel X.K A H w v) :
  EndV X.w X.K A H (S.set i (.lst ws)) w v (bK H p (.lst us)):=by
 obtain⟨b,ex⟩:=f.write (lb e) d r;show#[A,ex,b,a.mono ex]
def oZ:jR X "list.append" iM:=by
 intro J s Y H A S x a u xs vs us w m I f k i h j e;cases k with
 |ref b=>
  cases h with
  |nil=>cases e
  |cons r t=>
   cases t with
   |cons _ _=>cases e
   |nil=>
    dsimp only[iM]at e;split at e
    ·rename_i ys c;split at e
     ·rename_i hl;cases e;obtain⟨l,g,d⟩:=eO f c b;rw[↥d]at hl;show MtR.go wM I i j #[_,_,_,rfl,rfl,g,hl,jl f c b (d.append #v[r]) .non]
     ·cases e
    ·cases e
 |_=>cases e
abbrev iN (x:W)(xs:Mq W)(S:aa):MA (W×aa):=match x,xs with
 |.ref i,[.ref j]=>match mP S i,mP S j with
  |some ys,gV a=>if ↥ys+↥a<=sizeLine then gV (.non,S.set i (.lst (ys++a)))else td
  |_,_=>td
 |_,_=>td
def o4:jR X "list.extend" iN:=by
 intro J s Y H A S x a u xs vs us w v I b o m l n e;cases o with
 |ref c=>
  cases l with
  |nil=>cases e
  |cons r t=>
   cases t with
   |cons _ _=>cases r<;>cases e
   |nil=>
    cases r with
    |ref h=>
     dsimp only[iN]at e;split at e
     ·rename_i ys y d k;split at e
      ·rename_i hl;cases e;obtain⟨p,i,f⟩:=eO b d c;obtain⟨q,j,g⟩:=eO b k h;rw[↥f,↥g]at hl;show MtR.go wQ I m n #[_,_,_,_,rfl,rfl,i,j,hl,jl b d c (f.append g) .non]
      ·cases e
     ·cases e
    |_=>cases e
 |_=>cases e
abbrev CQ (x:W)(xs:Mq W)(S:aa):MA (W×aa):=match x,xs with
 |.ref i,[.int k]=>match mP S i with
  |some ys=>if -(2^63)<=k/\k<2^63 then match seqIndex? k ↥ys with
   |some j=>match ys[j]? with
    |some y=>gV (y,S.set i (.lst (ys.eraseIdx j)))
    |none=>td
   |none=>td
   else td
  |none=>td
 |_,_=>td
def xi:jR X "list.pop" CQ:=by
 intro J s Y H A S x a u xs vs us w v I h p n m o e;cases p with
 |ref d=>
  cases m with
  |nil=>cases e
  |cons r t=>
   cases t with
   |cons _ _=>cases r<;>cases e
   |nil=>
    cases r with
    |int=>
     dsimp only[CQ]at e;split at e
     ·rename_i ys g;split at e
      ·rename_i hk;split at e
       ·rename_i j f;split at e
        ·rename_i y b;cases e;obtain⟨q,i,c⟩:=eO h g d;obtain⟨z,k,l⟩:=c.get b;rw[↥c]at f;show MtR.go yI I n o #[_,_,_,_,_,rfl,rfl,i,hk.1,hk.2,f,k,jl h g d (c.eraseIdx j) l]
        ·cases e
       ·cases e
      ·cases e
     ·cases e
    |_=>cases e
 |_=>cases e
abbrev eW (S:aa):W->MA M9
 |.non=>gV false
 |.bl b=>gV b
 |.int i=>gV (i != 0)
 |.str y=>if ↥y<=sizeLine then gV ((↥y:MM) != 0)else td
 |.tup xs=>gV (!xs.isEmpty)
 |.ref i=>(eC S i).map λxs=>!xs.isEmpty
def jT (r:RelL X.K A H ws vs):(!ws.isEmpty) = !vs.isEmpty:=by cases r<;>rfl
def Le (I:Inv X J Y H s)(n:StoreOk X.w X.K A H S)(m:Rel X.K A H x a)(l:RelV a u)(e:eW S x=gV k)(j:∀c,Inv X J Y H c->Q k c) :
  wpAny (model X.prog X.w) X.A (truthy u) Q X.xe s:=by
 show bh (FY _ s Y H a u (λb h=>b=k/\h=H) I l #[k,?_,rfl,rfl]) λb c #[h,I',e1,d]=>?_
 ·cases m with
  |non=>cases e;rfl
  |bl=>cases e;rfl
  |int=>cases e;rfl
  |str=>
   simp only[eW]at e;split at e
   ·cases e;show#[by assumption,rfl]
   ·cases e
  |tup f g=>cases e;show .inr (.inl #[_,f,jT g])
  |ref i=>
   simp only[eW,Mv]at e;obtain⟨ws,hw,d⟩:=e;subst d;obtain⟨vs,f,g⟩:=br n hw i;show .inl #[_,f,jT g]
 ·subst e1 d;show j c I'
end
abbrev dG (w:Nq):Of:={cls:=.type "set",dict:=td,data:=.set #[] 0 (.fresh 0 0 (!IQ w))}
section
variable{prog:Nc}{w:Nq}{A:Nn}{E:Mu->My->Prop}{s:My}{R:Tf->My->Prop}{I:MF}{fp wr:Mq MF}{G:NH So->NH So->Prop}{n:Mz}{P:Mz->Mu->Prop}{St:Mz->My->Prop}
def yY (a:Mu)(h:Q₁ (.ref ⇑s.heap.objs) {s with heap:=s.heap.push (dG w)}):codeAny (model prog w) A (.call (.builtin "set.__new__") #[[.type "set",a],[]]) (wants Q₁ E) s:=by
 show R7 ?_;show Ms (Rv (F.newCall_set_1 a) (ME #[OQ F.plain_set_new _,N3 F.entry_set_new ?_]));unfold PV.«set.__new__» UL;have b:=PySem.sub_set_self;obtain⟨c,g,d,tk,os⟩:=s
 wp_walk
 show wpAny_askSetting (ME ?_);show Ms (Vx (ME (ME h)))
end
section
variable{α:Type}{prog:Nc}{w:Nq}{A:Nn}{E:Mu->My->Prop}{s:My}
def qD:∀{l:Mq α}{i:Mz} h,(l[i]::l.eraseIdx i).Perm l
 |x::l,0,_=>.refl _
 |x::l,i+1,h=>(V9 _ _ _).trans ((qD   (by simpa using h)).cons x)
end
abbrev o5 (S:aa)(i:Mz):MA (MM×MM):=match S[i]? with
 |some (.rng lo hi)=>gV (lo,hi)
 |_=>td
abbrev jm (xs:Mq W)(S:aa):MA (W×aa):=match xs with
 |[.int j]=>if -(2^62)<=j/\j<2^62 then gV (.ref ↥S,S++[.rng 0 j])else td
 |[.int i,.int j]=>if -(2^62)<=i/\i<2^62/\-(2^62)<=j/\j<2^62 then gV (.ref ↥S,S++[.rng i j])else td
 |_=>td
abbrev yZ (lo:MM)(n:Mz):Mq W:=(MJ n).map λ(k:Mz)=>.int (lo+(k:MM))
abbrev eX (xs:Mq W)(S:aa):MA (W×aa):=match xs with
 |[.ref i]=>match o5 S i with
  |some (lo,hi)=>if -(2^62)<=lo/\lo<2^62/\-(2^62)<=hi/\hi<2^62/\(hi-lo).toNat<=sizeLine then gV (.ref ↥S,S++[.lst (yZ lo (hi-lo).toNat)])else td
  |none=>fI [.ref i] S
 |xs=>fI xs S
section
variable{X:Cx}{J:Mq (MF×Of)}{Y:L2.St}{H:Hp}{s:My}{A:Mq MF}{S:aa}
def Inv.drawn (I:Inv X J Y H s)(d:V6):Inv X J Y H {s with drawn:=d}:=#[I.ok,I.os,I.bare,I.base,I.loc,I.cell,I.free,I.freeC,I.pin,I.hok,I.len]
def cK {D:MF}(I:Inv X J Y H s)(e:StoreOk X.w X.K A H S)(hk:∀b o,s.heap.get? b=gV o->h'.get? b=gV o)(d:⇑s.heap.objs<=D)(new:ObjOk X.prog X.w (bK H D u) h' D u)
  (r:H D=td->ObjRel X.w X.K (A++[D]) (bK H D u) D n):PostE X J Y A H (S++[n]) (.ref ↥S) (.ref D) {s with heap:=h',toks:=tk,drawn:=dr}:=by
 have c:H D=td:=I.hok.fresh d;show#[.ref D,_,A++[D],Mi.Inv.drawn (I.laid (a:=D) (o:=u) (t':=tk) hk d new) dr,rfl,bY c,e.pushO c (r c),.ref ?_];rw[<- e.len];simp
def o7:∀{vs:Mq V}{us:Mq Mu},↥vs=↥us->(∀(i:Mz) v u,vs[i]?=gV v->us[i]?=gV u->L2.RelV v u)->Vals vs us
 |[],[],_,_=>.nil
 |v::vs,u::us,hl,h=>.cons (h 0 v u rfl rfl) (o7 (by simpa using hl) λi v u a b=>h (i+1) v u (by simpa using a) (by simpa using b))
 |[],_::_,hl,_=>by cases hl
 |_::_,[],hl,_=>by cases hl
def o8 {K:MO}{lo:MM}:∀(l:Mq Mz),RelL K A H (l.map λ(k:Mz)=>W.int (lo+k)) (l.map λ(k:Mz)=>V.int (lo+k))
 |[]=>.nil
 |_::l=>.cons .int (o8 l)
def fA {xs:Mq W}(d:RelL X.K A H [.ref i] vs)(b:Vals vs us):∃a,A[i]?=gV a/\us=[.ref a]:=by
 cases d with
 |cons r t=>
  cases t;cases r with
  |@ref _ a c=>
   cases b with
   |cons e b=>
    cases b;obtain rfl:_=NK a:=e;show#[a,c,rfl]
def qE:LCall X (.type "range") jm:=by
 intro J s Y H A S xs vs us w l I g f a e;unfold jm at e;split at e
 ·rename_i j;split at e
  ·cases e;cases f with
   |cons r t=>
    cases t;cases r;cases a with
    |cons c a=>
     cases a;obtain⟨tk,rfl⟩:=c;show Vf (cK  (u:=.rng 0 j) I g (λb o e=>Mw _ e) (MH _) #[_,_,_,MT _ rfl] λ_=>aI)
  ·cases e
 ·rename_i i j;split at e
  ·cases e;cases f with
   |cons r t=>
    cases t with
    |cons h t=>
     cases t;cases r;cases h;cases a with
     |cons c a=>
      cases a with
      |cons d a=>
       cases a;obtain⟨tk,rfl⟩:=c;obtain⟨k,rfl⟩:=d;show Vg (cK  (u:=.rng i j) I g (λb o e=>Mw _ e) (MH _) #[_,_,_,MT _ rfl] λ_=>aI)
  ·cases e
 ·cases e
def qF (D:X.A.handled=td):LCall X (.type "list") eX:=by
 intro J s Y H A S xs vs us w m I h j l e;unfold eX at e;split at e
 ·rename_i i;split at e
  ·rename_i lo hi g;split at e
   ·rename_i C;cases e;obtain⟨a,y,rfl⟩:=fA (xs:=[]) j l;obtain⟨p,b2,q,r,n⟩:=C;have B:H a=gV (.rng lo hi):=by
     unfold o5 at g;split at g
     ·rename_i L;cases g;show h.obj i _ a L y
     ·cases g
    obtain⟨t,u,v,E⟩:=I.hok a _ B;have o:OC lo hi 1=((hi-lo).toNat):=by rw[SU];split<;>omega
    show call_list_range D E (Va p b2 q r) o n λh' tk d c hk z b=>?_
    have G:Vals ((MJ (hi-lo).toNat).map λ(k:Mz)=>V.int (lo+k)) d.toList:=by
     show o7 (by rw[Mr,MX,Nv,b.1]) λi v u f x=>?_
     rw[MD,Mv]at f;obtain⟨k,f,rfl⟩:=f;obtain⟨hk,rfl⟩:=MP.mp f;obtain⟨t,rfl⟩:=b.2 i u (by rw[<- NY];show x)
     show#[t,by simp]
    show cK  (u:=.lst _) I h hk (MH _) #[by simpa using n,d.toList,c,G,by simpa using z] λo=>#[_,aI,?_]
    show o8 _
   ·cases e
  ·show ii _ s Y H A S _ vs us w m I h j l e
 ·show ii _ s Y H A S _ vs us w m I h j l e
end
mutual
inductive IsT (h:Nz):T->Mu->Prop
 |int {i:MM}{t:VH}:IsT h (.int i) (.int i t)
 |str {x:M2}{t:VH}:IsT h (.str x) (.str x t)
 |tup {ks:Mq T}{a:MF}{o:Of}{items:NH Mu}{n:Mz}:h.get? a=gV o->o.cls=.type "tuple"->o.data=.seq items n->IsTs h ks items.toList->IsT h (.tup ks) (.ref a)
inductive IsTs (h:Nz):Mq T->Mq Mu->Prop
 |nil:IsTs h [] []
 |cons {k:T}{v:Mu}{ks:Mq T}{vs:Mq Mu}:IsT h k v->IsTs h ks vs->IsTs h (k::ks) (v::vs)
end
mutual
theorem IsT.inj {h:Nz}:∀{x y:T}{v:Mu},IsT h x v->IsT h y v->x=y
 |_,_,_,.int,h2=>by cases h2;rfl
 |_,_,_,.str,h2=>by cases h2;rfl
 |_,_,_,.tup a1 _ d1 t1,h2=>by
  cases h2 with
  |tup a2 _ d2 t2=>
   rw[a1]at a2;cases a2
   rw[d1]at d2;cases d2
   rw[IsTs.inj t1 t2]
theorem IsTs.inj {h:Nz}:∀{x y:Mq T}{v:Mq Mu},IsTs h x v->IsTs h y v->x=y
 |_,_,_,.nil,h2=>by cases h2;rfl
 |_,_,_,.cons a b,h2=>by
  cases h2 with
  |cons c d=>rw[IsT.inj a c,IsTs.inj b d]
end
mutual
theorem IsT.keeps {h h':Nz}{d:MF}{o:Of}{es:NH OV}{ep:Mz}(ho:h.get? d=gV o)(hd:o.data=.dict es ep)(hs:Pf d h h'):∀{x:T}{v:Mu},IsT h x v->IsT h' x v
 |_,_,.int=>.int
 |_,_,.str=>.str
 |_,_,.tup (a:=a) a1 c1 d1 t1=>by
  have hne:a≠d:=by
   rintro rfl;rw[a1]at ho;cases ho
   rw[d1]at hd;cases hd
  show .tup ((hs.2 a hne).trans a1) c1 d1 (IsTs.keeps ho hd hs t1)
theorem IsTs.keeps {h h':Nz}{d:MF}{o:Of}{es:NH OV}{ep:Mz}(ho:h.get? d=gV o)(hd:o.data=.dict es ep)(hs:Pf d h h'):∀{x:Mq T}{v:Mq Mu},IsTs h x v->IsTs h' x v
 |_,_,.nil=>.nil
 |_,_,.cons a b=>.cons (IsT.keeps ho hd hs a) (IsTs.keeps ho hd hs b)
end
def IsTs.length :∀{x:Mq T}{v:Mq Mu},IsTs h x v->↥x=↥v
 |_,_,.nil=>rfl
 |_,_,.cons _ b=>by simp[IsTs.length b]
def IsTs.get :∀{x:Mq T}{v:Mq Mu},IsTs h x v->∀ j c (d:j<↥v),IsT h x[j] v[j]:=by
 intro x
 induction x with
 |nil=>intro v r j c;show absurd c (OI _)
 |cons x xs ih=>
  intro v r j c d;cases r with
  |cons a b=>
   cases j with
   |zero=>show a
   |succ j=>show ih b j (RS c) (RS d)
def dX:∀{ks:Mq T} j (h:j<↥ks),(ks[j]).depth<=T.depths ks
 |k::ks,0,_=>by revert T.depths List.getElem_cons_zero;omega
 |k::ks,j+1,h=>by
  have:=dX  j (by simpa using h)
  delta T.depths List.getElem_cons_succ;omega
section
variable{prog:Nc}{w:Nq}{E:Mu->My->Prop}
mutual
theorem qG:∀(k:T) (v:Mu) (A:Nn) (s:My) (Q:MM->My->Prop),IsT s.heap k v->A.units+k.depth<cLine->Q (qA w k) {s with toks:=s.toks+k.draws}->wpAny (model prog w) A (pyHash v) Q E s
 |.int i,_,A,s,Q,x,_,h=>by cases x;show T3 h
 |.str y,_,A,s,Q,x,_,h=>by cases x;show T4 h
 |.tup ks,_,A,s,Q,x,hu,h=>by
  cases x with
  |@tup _ a o items n hg hc hd hw=>
   simp only[T.depth]at hu;show PySem.W.pyHash_slot (T:="tuple") #[_,hg,hc] F.slot_tuple_hash F.entry_tuple_hash (F.args_tuple_hash_1 _) (beq_builtin_none _) (.inr ∅) ?_
   change wpAny _ _ (PZ (.ref a) >>= _) _ _ s;show Ms (wpAny_tupleItemsOf hg hd ?_);show Ms ?_;rw[<- Tl];show ln ks items.toList A.in1 s #[] _ hw (by rw[bf];omega) λb hb=>?_
   change wpAny _ _ (retInt (Rn b.toList)) _ _ _;rw[hb];show Ms (Ul (ME #[_,_,rfl,?_]))
   simpa [T.draws,tx,qA]using h
theorem ln:∀(ks:Mq T) (vs:Mq Mu) (A:Nn) (s:My) (b:NH MM) (Q:NH MM->My->Prop),IsTs s.heap ks vs->A.units+T.depths ks<cLine->
  (∀b',b'.toList=b.toList++kZ w ks->Q b' {s with toks:=s.toks+T.drawss ks})->
  wpAny (model prog w) A (forIn vs b λx r=>do let h <- pyHash x;pure Tn;pure (OA (r.push h))) Q E s
 |[],_,A,s,b,Q,x,_,h=>by cases x;show ME (h b (by simp[kZ]))
 |k::ks,_,A,s,b,Q,x,hu,h=>by
  cases x with
  |cons x1 x2=>
   simp only[T.depths]at hu;rw[Qn];show Ms (Ms (qG k _ A s _ x1 ∅ ?_))
   show Ms (ME (ME ?_));show ln ks _ A _ _ Q x2 ∅ λb' hb=>?_
   have:=h b' (by simp[hb,kZ])
   simpa [T.drawss,tx]using this
end
open SeqAt in
def xj:∀(d:Mz) (x y:T) (u v:Mu) (B:Nn) (s:My),x.depth<=d->IsT s.heap x u->IsT s.heap y v->B.units+d<cLine->B.units+y.depth<cLine->EqAt B s u v (decide (x=y))
 |d,.int i,y,_,_,B,s,_,k,l,M,p=>by
  cases k;cases l with
  |int=>
   rename_i j r;have:decide (T.int i=T.int j)=(i==j):=by by_cases e:i=j<;>simp[e]
   rw[this];show .int_int _ _ _ _
  |str=>rw[Nk (by simp)];show .int_str _ _ _ _
  |tup a c E t=>rw[Nk (by simp)];show .int_tuple _ _ #[_,a,c,_,E] (by simp only[T.depth]at p;omega)
 |d,.str z,y,_,_,B,s,_,k,l,M,p=>by
  cases k;cases l with
  |int=>rw[Nk (by simp)];show .str_int _ _ _ _
  |str=>
   rename_i N r;have:decide (T.str z=T.str N)=(z==N):=by by_cases e:z=N<;>simp[e]
   rw[this];show .str_str _ _ _ _
  |tup a c E t=>rw[Nk (by simp)];show .str_tuple _ _ #[_,a,c,_,E] (by simp only[T.depth]at p;omega)
 |0,.tup ks,y,_,_,B,s,hd,k,l,M,p=>by simp[T.depth]at hd
 |d+1,.tup ks,y,_,_,B,s,hd,k,l,M,p=>by
  have G:=k;cases k with
  |@tup _ a o items n S U V R=>
   have H:s.heap.IsTuple a items:=#[_,S,U,_,V];simp only[T.depth]at hd;cases l with
   |int=>rw[Nk (by simp)];show .tuple_int _ _ H ∅
   |str=>rw[Nk (by simp)];show .tuple_str _ _ H ∅
   |@tup g b o2 f n2 O P Q r=>
    have I:s.heap.IsTuple b f:=#[_,O,P,_,Q]
    by_cases q:a=b
    ·subst q;have:T.tup ks=T.tup g:=G.inj (.tup O P Q r);rw[NB this];show EqAt.same _
    ·show EqAt.of_refs q ?_;simp only[T.depth]at p;have C:⇑items=↥ks:=by rw[<- Nv,↥R]
     have D:⇑f=↥g:=by rw[<- Nv,↥r]
     let e:Mz->M9:=λj=>if h:j<↥ks/\j<↥g then decide (ks[j]'h.1=g[j]'h.2)else true
     have Y:∀j (k:j<⇑items) (l:j<⇑f),EqAt B.in1 s items[j] f[j] (e j):=λj w A=>by
      have W:=R.get j (C▸w) (by simpa using w)
      have X:=r.get j (D▸A) (by simpa using A)
      have q1:=dX (ks:=ks) j (C▸w);have q2:=dX (ks:=g) j (D▸A);have:=xj d _ _ _ _ B.in1 s ∅ W X (by rw[bf];omega) (by rw[bf];omega)
      change EqAt B.in1 s items[j] f[j] (if h:j<↥ks/\j<↥g then decide (ks[j]'h.1=g[j]'h.2)else true)
      rw[VT #[C▸w,D▸A]]
      simpa using this
     have:=RcAt.tuples H I ∅ Y
     have hk:((MJ (min ⇑items ⇑f)).all e&&⇑items==⇑f)=decide (T.tup ks=T.tup g):=by
      rw[C,D]
      by_cases hl:↥ks=↥g
      ·by_cases L:ks=g
       ·subst L;revert QC NJ SW decide_true MY ML;intro j m;show(if h:j<↥ks/\j<↥ks then decide (ks[j]'h.1=ks[j]'h.2)else true)=true
        rw[VT #[m,m]];simp
       ·rw[Nk (by simpa using L)]
        have:∃j,∃h:j<↥ks,ks[j]≠g[j]'(hl▸h):=by
         apply P8;intro Z;show L (On hl λj k l=>P8 λz=>Z #[j,k,z])
        obtain⟨j,m,J⟩:=this;rw[QJ];apply Or.inl;rw[Rw];show#[j,by rw[ML,<- hl,QC];show m,?_]
        show ¬ (if h:j<↥ks/\j<↥g then decide (ks[j]'h.1=g[j]'h.2)else true)=true
        rw[VT #[m,hl▸m]]
        simpa using J
      ·rw[Nk (by simp;intro z;show hl (by rw[z])),QJ]
       right
       simpa using hl
     rw[hk]at this;show this
def nF (h:∀a,v≠.ref a):eqIsQuiet n v=pure true:=by
 cases v with
 |ref a=>show absurd rfl (h a)
 |_=>first|rfl|simp[eqIsQuiet]|(rfl)
def u4:∀ d k v A s Q,k.depth<=d->IsT s.heap k v->Q true s->wpAny (model prog w) A (eqIsQuiet d v) Q E s
 |d,.int i,_,A,s,Q,_,x,h=>by cases x;rw[nF (λa=>by simp)];show ME h
 |d,.str i,_,A,s,Q,_,x,h=>by cases x;rw[nF (λa=>by simp)];show ME h
 |0,.tup ks,_,A,s,Q,hd,x,h=>by simp[T.depth]at hd
 |d+1,.tup ks,_,A,s,Q,hd,x,h=>by
  cases x with
  |@tup _ a o items n l hc e hi=>
   simp only[T.depth]at hd;have j:s.TypeIs (.ref a) _:=#[_,l,hc];unfold eqIsQuiet;show Ms (wpAny_specialOf j F.slot_tuple_eq.lookup ?_);show Ms (QQ j isSubtype_tuple_tuple ?_);show Ms (Oh l e ?_);show Ms ?_;rw[<- Tl];show RF _ (λcj r g=>r.1=td/\g=s/\∃f,IsTs _ f cj/\T.depths f<=d) _ ?_ ?_ _ _ #[rfl,rfl,ks,hi,∅]
   ·rintro v cj r g ⟨m,rfl,f,b,c⟩;cases b with
    |cons p q=>
     simp only[T.depths]at c;show Ms (u4 d _ v _ _ _ ∅ p ?_)
     show ME #[rfl,rfl,_,q,∅]
   ·rintro⟨t,u⟩ g ⟨m,rfl,_⟩;subst m;show ME h
end
abbrev du (prog:Nc)(w:Nq):HeapKind prog w T where
 is:=λh k a=>IsT h k (.ref a)/\k.depth<=bq
 hash:=qA w
 draws:=T.draws
 room:=λA=>A.units+bq<cLine
 inj:=λb c=>b.1.inj c.1
 keeps:=λx e hd f=>#[x.1.keeps e hd f,x.2]
 pyHash:=λd hk h=>qG _ _ _ _ _ hk.1 (by have:=hk.2;omega) h
 eqBool:=λd b c h=>xj bq _ _ _ _ _ _ b.2 b.1 c.1 d (by have:=c.2;omega) _ _ _ _ h
 quiet:=λhk h=>u4 8 _ _ _ _ _ (by have:=hk.2;unfold bq at this;omega) hk.1 h
mutual
def lq:T->M9
 |.int _=>true
 |.str _=>false
 |.tup xs=>eE xs
def eE:Mq T->M9
 |[]=>true
 |x::xs=>lq x&&eE xs
end
abbrev gZ (S:aa)(i:Mz):MA (Mq (T×W)):=match S[i]? with
 |some (.dic U)=>gV U
 |some (.frd U)=>gV U
 |_=>td
abbrev o9 (S:aa)(i:Mz):MA (Mq (T×W)):=match S[i]? with
 |some (.dic U)=>gV U
 |_=>td
abbrev bn (U:Mq (T×W))(k:T):MA W:=(U.find? λp=>decide (p.1=k)).map (·.2)
abbrev dY (U:Mq (T×W))(k:T)(v:W):Mq (T×W):=
 if (U.any λp=>decide (p.1=k))=true then U.map (λp=>if p.1=k then(p.1,v)else p)else U++[(k,v)]
abbrev gR (w:W):MA T:=match W.t w with
 |some k=>if k.isTup=true/\k.depth<=bq then gV k else td
 |none=>td
def dO (h:gR w=gV k):k.w=w/\k.isTup=true/\k.depth<=bq:=by
 unfold gR at h;split at h
 ·rename_i a hk;split at h
  ·rename_i hc;cases h;show#[W.t_w hk,hc.1,hc.2]
  ·cases h
 ·cases h
def eF (U:Mq (T×W))(k:T)(v:W):(dY U k v).length<=↥U+1:=by
 unfold dY;split
 ·rw[Mr];show Om _ _
 ·rw[Mt,Nh,Oy];show MH _
section
variable{X:Cx}{J:Mq (MF×Of)}{Y:L2.St}{H:Hp}{s:My}{A:Mq MF}{S:aa}
mutual
theorem pb (I:Inv X J Y H s):∀(k:T) {v:V}{u:Mu},Rel X.K A H k.w v->RelV v u->IsT s.heap k u
 |.int i,_,_,r,q=>by
  cases r;obtain⟨t,rfl⟩:∃t,_=SH _ t:=q;show .int
 |.str x,_,_,r,q=>by
  cases r;obtain⟨t,rfl⟩:∃t,_=SJ _ t:=q;show .str
 |.tup ks,_,_,r,q=>by
  simp only[T.w]at r;cases r with
  |tup sq rl=>
   obtain⟨its,rv,⟨o,h1,h2,n,h3⟩,hz⟩:=I.tuple sq;obtain rfl:_=NK _:=q;show .tup h1 h2 h3 (gE I ks rl (by simpa using rv))
theorem gE (I:Inv X J Y H s):∀(ks:Mq T) {vs:Mq V}{us:Mq Mu},RelL X.K A H (T.ws ks) vs->Vals vs us->IsTs s.heap ks us
 |[],_,_,r,q=>by
  simp only[T.ws]at r;cases r;cases q;show .nil
 |k::ks,_,_,r,q=>by
  simp only[T.ws]at r;cases r with
  |cons r1 r2=>
   cases q with
   |cons q1 q2=>show .cons (pb I k r1 q1) (gE I ks r2 q2)
end
def jn (I:Inv X J Y H s)(r:Rel X.K A H k.w (.ref b))(hd:k.depth<=bq):(du X.prog X.w).is s.heap k b:=#[pb I k r rfl,hd]
def iP (hk:gR w=gV k)(r:Rel X.K A H w v)(q:RelV v u):∃b,v=.ref b/\u=.ref b/\Rel X.K A H k.w (.ref b):=by
 obtain⟨c,d,e⟩:=dO hk;subst c;cases k with
 |tup ks=>
  cases r with
  |tup a b=>show#[_,rfl,q,by show .tup a b]
 |_=>cases d
def KRel.is (I:Inv X J Y H s)(r:KRel X.K A H U xs):∀x∈xs,(du X.prog X.w).is s.heap x.1 x.2.1:=by
 induction r with
 |nil=>intro x a;show nomatch a
 |@cons p q ps g h t ih=>
  intro x a;rcases M5.mp a with e|a
  ·subst e;obtain⟨d,f,b,c,_⟩:=h;rw[d]at b c;show jn I c b
  ·show ih x a
def KRel.length (r:KRel X.K A H U xs):↥U=↥xs:=PN r
def KRel.val (r:KRel X.K A H U xs)(k:T) :
  (∀w,bn U k=gV w->∃p v,atKey xs k=gV p/\Rel X.K A H w v/\RelV v p.2)/\(bn U k=td->atKey xs k=td):=by
 induction r with
 |nil=>show#[λw h=>(nomatch h),λ_=>rfl]
 |@cons p q ps d h t ih=>
  obtain⟨f,_,_,_,v,g,i⟩:=h
  by_cases e:p.1=k
  ·have c:=f.symm.trans e;have a:bn (p::ps) k=gV p.2:=by simp[bn,e]
   have b:atKey (q::d) k=gV q.2:=by simp[atKey,c]
   rw[a,b];show#[λw hw=>(by cases hw;show#[_,v,rfl,g,i]),λh=>nomatch h]
  ·have c:¬ q.1=k:=λz=>e (f.trans z)
   have a:bn (p::ps) k=bn ps k:=by simp[bn,e]
   have b:atKey (q::d) k=atKey d k:=by simp[atKey,c]
   rw[a,b];show ih
def KRel.repl (r:KRel X.K A H U xs)(k:T)(b:Rel X.K A H w v)(i:RelV v u) :
  KRel X.K A H (U.map λp=>if p.1=k then(p.1,w)else p) (xs.map (putAt k u)):=by
 induction r with
 |nil=>show .nil
 |@cons p q ps j h t ih=>
  rw[NL,NL];show .cons ?_ ih;obtain⟨a,c,d,f,g⟩:=h;unfold putAt
  by_cases e:p.1=k
  ·rw[M4 e,M4 (a.symm.trans e)];show#[a,c,d,f,v,b,i]
  ·rw[Nm e,Nm (λz=>e (a.trans z))];show#[a,c,d,f,g]
def lu (k:T):∀U:Mq (T×W),(U.any λp=>decide (p.1=k))=(bn U k).isSome
 |[]=>rfl
 |p::r=>by
  rw[Oj]
  by_cases e:p.1=k
  ·have a:bn (p::r) k=gV p.2:=by simp[bn,e]
   rw[a,NB e];rfl
  ·have a:bn (p::r) k=bn r k:=by simp[bn,e]
   rw[a,Nk e,QS];show lu k r
def KRel.put (r:KRel X.K A H U xs)(d:k.isTup=true)(f:k.depth<=bq)(g:Rel X.K A H k.w (.ref b))(a:Rel X.K A H w v)(c:RelV v u) :
  KRel X.K A H (dY U k w) (storedH xs k b u):=by
 have e:(U.any λp=>decide (p.1=k))=(atKey xs k).isSome:=by
  rw[lu];cases q:bn U k with
  |none=>rw[(r.val k).2 q];rfl
  |some x=>obtain⟨p,_,h,_⟩:=(r.val k).1 x q;rw[h];rfl
 unfold dY storedH;rw[e]
 by_cases q:(atKey xs k).isSome=true
 ·rw[M4 q,M4 q];show r.repl k a c
 ·rw[Nm q,Nm q];show Sr r #[rfl,d,f,g,v,a,c]
def DicAt.of (c:↥xs<=sizeLine)(b:(a==sysModules)=false)(d:h.DictOfH (du X.prog X.w) a xs):DicAt X.w a xs h:=
 let ⟨o,es,ep,h1,h2,h3,h4,_,h6⟩:=d;#[c,b,h6,o,es,ep,h1,h2,h3,h4]
def DicAt.stay (d:DicAt wd a xs h)(k:∀o,h.get? a=gV o->h'.get? a=gV o):DicAt wd a xs h':=
 let ⟨h0,hs,hn,o,es,ep,h1,h2⟩:=d;#[h0,hs,hn,o,es,ep,k _ h1,h2]
def DicAt.ok (d:DicAt wd a xs h):ObjOk P wd H h a (kn wd a xs):=
 #[d,let ⟨_,_,_,o,_,_,h1,_⟩:=d;#[o,h1],λ_ _ p k=>p.stay k]
def cw (I:Inv X J Y H s)(e:Rd H a (kn X.w a xs)):DicAt X.w a xs s.heap:=(e.ok I.hok).1
def DicAt.dict (d:DicAt X.w a xs s.heap)(I:Inv X J Y H s)(r:KRel X.K A H U xs):s.heap.DictOfH (du X.prog X.w) a xs:=
 let ⟨_,_,hn,o,es,ep,h1,h2,h3,h4⟩:=d;#[o,es,ep,h1,h2,h3,h4,r.is I,hn]
def fS (c:StoreOk X.w X.K A H S)(e:gZ S i=gV U)(b:A[i]?=gV a):∃xs,Rd H a (kn X.w a xs)/\KRel X.K A H U xs:=by
 unfold gZ at e;split at e
 ·rename_i k h;cases e;obtain⟨xs,q,r⟩:=c.obj i _ a h b;show#[xs,.inl q,r]
 ·rename_i k h;cases e;obtain⟨o,xs,q,r⟩:=c.obj i _ a h b;show#[xs,.inr #[o,q],r]
 ·cases e
def iQ (e:o9 S i=gV U):S[i]?=gV (.dic U):=by
 unfold o9 at e;split at e
 ·rename_i h;cases e;show h
 ·cases e
def u5 (c:StoreOk X.w X.K A H S)(e:o9 S i=gV U)(b:A[i]?=gV a):∃xs,H a=gV (kn X.w a xs)/\KRel X.K A H U xs:=
 c.obj i _ a (iQ e) b
def qH {B:Nn}(a:B.units+10<cLine):(du X.prog X.w).room B.in1:=by
 change B.in1.units+bq<cLine;rw[bf];unfold bq;omega
abbrev qf (x y:W)(S:aa):MA (W×aa):=match x,y with
 |.ref r,.tup ks=>match gZ S r,gR (.tup ks)with
  |some U,gV k=>(bn U k).map λw=>(w,S)
  |_,_=>td
 |x,y=>uY x y S
def Lf (n:X.A.units+10<cLine):LIx X qf:=by
 intro j h J s Y H A S x y a b u v w C I i z q B t e m
 by_cases f:∃r ks,x=.ref r/\y=.tup ks
 ·obtain⟨r,ks,rfl,rfl⟩:=f;dsimp only[qf]at e;split at e
  ·rename_i U k g c;rw[Mv]at e;obtain⟨R,D,E⟩:=e;cases E;cases z with
   |ref G=>
    obtain⟨xs,O,o⟩:=fS i g G;have d:=cw I O;have l:=d.dict I o;obtain⟨bk,rfl,rfl,P⟩:=iP c B t;obtain⟨p,Q,L,M,N⟩:=(o.val k).1 _ D;obtain rfl:u=NK _:=q;show PC  l.typeIs slot_dict_getitem.lookup
     (wpAny_getItem_heap  (qH n) (jn I P (dO c).2.2) l L #[rfl,Q,H,A,I.tok _,N,.refl,i,M]) m
  ·cases e
 ·have:qf x y S=uY x y S:=by
   cases x<;>cases y<;>first|rfl|show absurd #[_,_,rfl,rfl] f
  rw[this]at e;show Mg n _ _ _ s Y H A S x y a b u v w C I i z q B t e m
abbrev ik (o i v:W)(S:aa):MA aa:=match o,i with
 |.ref r,.tup ks=>match o9 S r,gR (.tup ks)with
  |some U,gV k=>if ↥U<sizeLine then gV (S.set r (.dic (dY U k v)))else td
  |_,_=>td
 |o,i=>qC o i v S
def IU (z:X.A.units+10<cLine):LSet X ik:=by
 intro J s Y H A S o i x O N P L W w M I u E j C h G l e
 by_cases f:∃r ks,o=.ref r/\i=.tup ks
 ·obtain⟨r,ks,rfl,rfl⟩:=f;dsimp only[ik]at e;split at e
  ·rename_i U k b c;split at e
   ·cases e;cases E with
    |ref y=>
     obtain⟨xs,m,t⟩:=u5 u b y;have d:=cw I (.inl m);have Q:=d.dict I t;obtain⟨bk,rfl,rfl,D⟩:=iP c C h;obtain⟨q1,V,B⟩:=dO c;obtain rfl:L=NK _:=j;have Z:↥xs<=sizeLine:=by rw[<- ↥t];show Pe ‹_›
     show Tj  (qH z) (jn I D B) Q λh' a T=>?_
     have g:=t.put V B D G l;have p:(storedH xs k bk w).length<=sizeLine:=by
      rw[<- ↥g];have:=eF U k x;omega
     have R:DicAt X.w _ (storedH xs k bk w) h':=.of p d.2.1 a;obtain⟨v,ex⟩:=u.writeO (iQ b) rfl y  (n:=.dic (dY U k x)) #[_,aI,g.mono (cv (.ext m))];show#[_,A,iK I (by rw[m];show Pn) T (let ⟨q,_,_,hq,_⟩:=a;#[q,hq]) R.ok,ex,v]
   ·cases e
  ·cases e
 ·have:ik o i x S=qC o i x S:=by
   cases o<;>cases i<;>first|rfl|show absurd #[_,_,rfl,rfl] f
  rw[this]at e;show lset z J s Y H A S o i x O N P L W w M I u E j C h G l e
abbrev u6 (x:W)(xs:Mq W)(S:aa):MA (W×aa):=match x,xs with
 |.ref r,[y,z]=>match gZ S r,gR y with
  |some U,gV k=>gV ((bn U k).getD z,S)
  |_,_=>td
 |_,_=>td
def sT (r:X.A.units+10<cLine):jR X "dict.get" u6:=by
 intro J s Y H A S x a u xs vs us w P I i E C B D e;cases E with
 |ref l=>
  cases B with
  |nil=>cases e
  |cons t G=>
   cases G with
   |nil=>cases e
   |cons v L=>
    cases L with
    |cons _ _=>cases e
    |nil=>
     dsimp only[u6]at e;split at e
     ·rename_i U k c b;cases e;obtain⟨xs,y,f⟩:=fS i c l;have d:=cw I y;have j:=d.dict I f;cases D with
      |cons M g=>
       cases g with
       |cons N h=>
        cases h;obtain⟨bk,rfl,rfl,z⟩:=iP b t M;obtain rfl:u=NK _:=C;show Vj Sg j.typeIs PySem.F.entry_dict_get (PySem.F.args_dict_get_3 _ _ _) (meetsH_dict_get_default _ _ bk d.2.1 _) #[qH r,k,xs,jn I z (dO b).2.2,j,?_];cases q:bn U k with
        |none=>
         rw[(f.val k).2 q];show#[_,H,A,I.tok _,N,.refl,i,v]
        |some Q=>
         obtain⟨p,O,m,n,o⟩:=(f.val k).1 _ q;rw[m];show#[O,H,A,I.tok _,o,.refl,i,n]
     ·cases e
 |_=>cases e
abbrev Ks (x:W)(i:Mz)(S:aa):MA M9:=match W.t x,eC S i with
 |some k,gV ys=>match W.ts ys with
  |some ks=>if k.depth<=bq/\T.depths ks<=bq then gV (decide (k∈ks))else td
  |none=>td
 |_,_=>td
abbrev F9 (x:W)(ys:Mq W):MA M9:=match W.t x,W.ts ys with
 |some k,gV ks=>if k.depth<=bq/\T.depths ks<=bq then gV (decide (k∈ks))else td
 |_,_=>td
def u7 :∀{ks:Mq T}{vs:Mq Mu},IsTs h ks vs->∀v∈vs,∃k∈ks,IsT h k v:=by
 intro ks
 induction ks with
 |nil=>intro vs r v c;cases r;cases c
 |cons k ks ih=>
  intro vs r v c;cases r with
  |cons a b=>
   rcases M5.mp c with rfl|c
   ·show#[_,.head _,a]
   ·obtain⟨k,hk,q⟩:=ih b v c;show#[k,.tail _ hk,q]
abbrev Ga (h:Nz)(k:T)(v:Mu):M9:=@decide (IsT h k v) (Vc _)
def sU (x:IsT h a v):Ga h k v=decide (a=k):=by
 unfold Ga
 by_cases e:a=k
 ·subst e;revert x
 ·have:¬ IsT h k v:=λy=>e (x.inj y)
  revert e this
def pc :∀{ks:Mq T}{vs:Mq Mu},IsTs h ks vs->vs.any (Ga h k)=decide (k∈ks)
 |_,_,.nil=>by rfl
 |_,_,.cons (k:=c) a b=>by
  rw[Oj,sU a,pc b]
  by_cases e:c=k
  ·simp[e]
  ·have:¬ k=c:=λz=>e z.symm
   simp[e,this]
def lv:∀{ks:Mq T}{k:T},k∈ks->k.depth<=T.depths ks
 |x::ks,k,h=>by
  revert T.depths;rcases M5.mp h with rfl|h
  ·omega
  ·have:=lv h;omega
def y4 (L:X.A.units+10<cLine)(I:Inv X J Y H s)(G:StoreOk X.w X.K A H S)(D:Rel X.K A H x a)(B:RelV a u)(E:Rel X.K A H (.ref i) b)(C:RelV b v)(e:Ks x i S=gV c) :
  ∃l d k ks,v=.ref l/\s.heap.IsList l d/\(∀y,y∈d->QP X.A.in1 s y u (Ga s.heap k y))/\d.any (Ga s.heap k)=c/\c=decide (k∈(ks:Mq T)):=by
 unfold Ks at e;split at e
 ·rename_i k ys o r;split at e
  ·rename_i ks t;split at e
   ·cases e;cases E with
    |ref j=>
     obtain⟨vs,m,n⟩:=br G r j;obtain⟨d,g,p,_⟩:=I.list m;obtain rfl:v=NK _:=C;have h:=gE I ks ((W.ts_w t).symm▸n) g;have hk:=pb I k ((W.t_w o).symm▸D) B;show#[_,d.toArray,k,ks,rfl,p.isList,λy w=>?_,by rw[Ub];show pc h,rfl]
     obtain⟨z,f,q⟩:=u7 h y (by simpa using w)
     rw[sU q];have:=lv f;have M:bq=6:=rfl;show xj _ z k _ _ _ _ ∅ q hk (by rw[bf];omega) (by rw[bf];omega)
   ·cases e
  ·cases e
 ·cases e
def CS (C:X.A.units+10<cLine)(I:Inv X J Y H s)(z:Rel X.K A H x a)(t:RelV a u)(B:Rel X.K A H (.tup ys) b)(w:RelV b v)(e:F9 x ys=gV c) :
  ∃l d k,v=.ref l/\s.heap.IsTuple l d/\(∀y,y∈d->QP X.A.in1 s y u (Ga s.heap k y))/\d.any (Ga s.heap k)=c:=by
 unfold F9 at e;split at e
 ·rename_i k ks m n;split at e
  ·cases e;cases B with
   |@tup _ l vs i j=>
    obtain⟨d,g,p,_⟩:=I.tuple i;obtain rfl:v=NK _:=w;have h:=gE I ks ((W.ts_w n).symm▸j) g;have hk:=pb I k ((W.t_w m).symm▸z) t;show#[_,d.toArray,k,rfl,p,λy o=>?_,by rw[Ub];show pc h]
    obtain⟨r,f,q⟩:=u7 h y (by simpa using o)
    rw[sU q];have:=lv f;have D:bq=6:=rfl;show xj bq r k _ _ _ _ ∅ q hk (by rw[bf];omega) (by rw[bf];omega)
  ·cases e
 ·cases e
abbrev bx (o:COp)(x y:W)(S:aa):MA (W×aa):=match o,y with
 |.isin,.ref i=>match gZ S i with
  |some U=>(gR x).map λk=>(.bl (bn U k).isSome,S)
  |none=>match x with
   |.tup xs=>(Ks (.tup xs) i S).map λb=>(.bl (b),S)
   |x=>cY .isin x (.ref i) S
 |.notin,.ref i=>match gZ S i with
  |some U=>(gR x).map λk=>(.bl (!(bn U k).isSome),S)
  |none=>match x with
   |.tup xs=>(Ks (.tup xs) i S).map λb=>(.bl (!b),S)
   |x=>cY .notin x (.ref i) S
 |.isin,.tup ys=>match x with
  |.tup xs=>(F9 (.tup xs) ys).map λb=>(.bl b,S)
  |x=>cY .isin x (.tup ys) S
 |o,y=>cY o x y S
def qI (W:X.A.units+ig<cLine)(o:COp):LOp X (compareOp o.py) (bx o):=by
 intro J s Y H A S x y a b u v w Q I n D B E C e;have get:∀{i:Mz}{U:Mq _}{k:T},y=.ref i->gZ S i=gV U->gR x=gV k->∃d c xs,v=.ref d/\u=.ref c/\(d==sysModules)=false/\(du X.prog X.w).is s.heap k c/\s.heap.DictOfH (du X.prog X.w) d xs/\(bn U k).isSome=(atKey xs k).isSome:=by
  intro i U k Z g f;subst Z;cases E with
  |ref R=>
   obtain⟨xs,rd,L⟩:=fS n g R;have d:=cw I rd;obtain⟨bk,rfl,rfl,rk⟩:=iP f D B;obtain rfl:v=NK _:=C;show#[_,bk,xs,rfl,rfl,d.2.1,jn I rk (dO f).2.2,d.dict I L,?_];cases q:bn U k with
   |none=>rw[(L.val k).2 q];rfl
   |some w'=>obtain⟨p,_,V,_⟩:=(L.val k).1 _ q;rw[V];rfl
 have m:cY o x y S=gV _->wpAny _ X.A _ _ _ s:=λh=>iL W o _ s Y H A S x y a b u v w Q I n D B E C h
 have j:X.A.units+10<cLine:=by have:ig=20:=rfl;omega
 unfold bx at e;split at e
 ·split at e
  ·rename_i U g;rw[Mv]at e;obtain⟨k,f,G⟩:=e;cases G;obtain⟨d,c,xs,rfl,rfl,M,N,O,P⟩:=get rfl g f;rw[P];show UX (qH j) N M O #[.bl _,H,A,I.tok _,rfl,.refl,n,.bl]
  ·split at e
   ·rw[Mv]at e;obtain⟨c,hc,e⟩:=e;cases e;obtain⟨l,r,k,ks,rfl,t,p2,z,_⟩:=y4 j I n D B E C hc;show Uq _ t p2 ?_;rw[z];show#[.bl _,H,A,I,rfl,.refl,n,.bl]
   ·show m e
 ·split at e
  ·rename_i U g;rw[Mv]at e;obtain⟨k,f,G⟩:=e;cases G;obtain⟨d,c,xs,rfl,rfl,M,N,O,P⟩:=get rfl g f;rw[P];show Ua (qH j) N M O #[.bl _,H,A,I.tok _,rfl,.refl,n,.bl]
  ·split at e
   ·rw[Mv]at e;obtain⟨c,hc,e⟩:=e;cases e;obtain⟨l,r,k,ks,rfl,t,p2,z,_⟩:=y4 j I n D B E C hc;show Ti _ t p2 ?_;rw[z];show#[.bl _,H,A,I,rfl,.refl,n,.bl]
   ·show m e
 ·split at e
  ·rw[Mv]at e;obtain⟨c,hc,e⟩:=e;cases e;obtain⟨l,r,k,rfl,t,p2,z⟩:=CS j I D B E C hc;show T8 _ t p2 ?_;rw[z];show#[.bl _,H,A,I,rfl,.refl,n,.bl]
  ·show m e
 ·show m e
end
abbrev RawD (d:MF)(es:NH OV)(a:Mz)(h:Nz):Prop:=∃o,h.get? d=gV o/\o.ExactDict/\o.data=.dict es a
def RawD.at (x:RawD d es a h)(e:∀o,h.get? d=gV o->h'.get? d=gV o):RawD d es a h':=let ⟨o,ho,r⟩:=x;#[o,e _ ho,r]
def RawD.lt (x:RawD d es a h):d<⇑h.objs:=let ⟨_,ho,_⟩:=x;MW ho
def RawD.type {s:My}(x:RawD d es a s.heap):s.TypeIs (.ref d) "dict":=let ⟨o,ho,hc,_⟩:=x;#[o,ho,hc.1]
section
variable{prog:Nc}{w:Nq}{A:Nn}{E:Mu->My->Prop}{s:My}{it d:MF}{i ep:Mz}{es:NH OV}
def qJ (hd:(d==sysModules)=false)(c:RawD d es ep s.heap)
  (f:Q (.ref ⇑s.heap.objs) {s with heap:=s.heap.push {cls:=.type "dict_keyiterator",data:=.fields [.ref d,.int 0 0,.int ⇑es 0,.int ep 0].toArray}}):wpAny (model prog w) A (pyIter (.ref d)) Q E s:=by
 have b:=c.type;obtain⟨o,e,hc,a⟩:=id c;show wpAny_pyIter_slot b F.slot_dict_iter (N2 F.slot_dict_iter b F.entry_dict_iter ?_ (F.args_dict_iter_1 _));show Ms (Ms (Sh b ?_));show ME ?_;change wpAny _ _ (Si d >>= _) _ _ s;unfold Si;rw[Nm (by rw[hd];show Nu)]
 show Ms (ME (Ms (QD e a (Ms (R8 e a ?_)))));show Ms (NO (ME #[_,rfl,"dict_keyiterator",_,#[_,MT _ rfl,rfl],F.slot_dict_keyiterator_next.lookup,?_]))
 simpa [rawInt]using f
def qK (a:s.heap.IsKeyIter it d i ⇑es ep)(j:RawD d es ep s.heap)(hi:i<⇑es)
  (g:∀h',h'.IsKeyIter it d (i+1) ⇑es ep->Pf it s.heap h'->Q (gV es[i].key) {s with heap:=h'}):wpAny (model prog w) A (pyNext (.ref it)) Q E s:=by
 obtain⟨o,f,hc,hd⟩:=id a;obtain⟨od,e,h,c⟩:=id j;show Ms (Qj (NN  a.typeIs F.slot_dict_keyiterator_next
  (N2 F.slot_dict_keyiterator_next a.typeIs F.entry_dict_keyiterator_next ?_ (F.args_dict_keyiterator_next_1 _))))
 show Ms (ME (Ms (Ms ?_)))
 first|refine Ms (OS a.typeIs (ME ?_))|refine Ms (Po _ (ME ?_))
 show Ms (UM f hd ?_);change wpAny _ _ _ _ _ s;show Ms (ME (Ms (QD e c ?_)));rw[Nm (by simp)]
 show Ms (ME (Ms (R8 e c ?_)));rw[Nm (by simp)]
 show ME ?_;simp only[QT,M0,P9 hi];show Ms ?_
 first|refine Ms (OS a.typeIs (ME ?_))|refine Ms (Po _ (ME ?_))
 show Ms (Sj a.typeIs ?_);change wpAny _ _ (setField _ 1 _ >>= _) _ _ s;show Ms (Rh f hd (by simp) ?_)
 have b:(s.heap.update it (Obj.mapFields (·.setIfInBounds 1 (rawInt (i+1))))).IsKeyIter it d (i+1) ⇑es ep:=
  #[_,Pb _ f (Sk (Qq hd _)),(TR ..).trans hc,by rw[Qq hd];simp[rawInt]]
 show Ms (N1 ?_);show Ms (Sj  b.typeIs ?_);show ME (ME #[_,rfl,ME (g _ b (Qd ..))])
def u8 (j:A.handled=td)(a:s.heap.IsKeyIter it d i ⇑es ep)(k:RawD d es ep s.heap)(e:⇑es<=i)
  (g:∀h',Su it s.heap h'->Q td {s with heap:=h'}):wpAny (model prog w) A (pyNext (.ref it)) Q E s:=by
 obtain⟨o,f,hc,hd⟩:=id a;obtain⟨od,c,h,b⟩:=id k;show Ms (Qj (NN  a.typeIs F.slot_dict_keyiterator_next
  (N2 F.slot_dict_keyiterator_next a.typeIs F.entry_dict_keyiterator_next ?_ (F.args_dict_keyiterator_next_1 _))))
 show Ms (ME (Ms (Ms ?_)))
 first|refine Ms (OS a.typeIs (ME ?_))|refine Ms (Po _ (ME ?_))
 show Ms (UM f hd ?_);change wpAny _ _ _ _ _ s;show Ms (ME (Ms (QD c b ?_)));rw[Nm (by simp)]
 show Ms (ME (Ms (R8 c b ?_)));rw[Nm (by simp)]
 show ME ?_;simp only[QT,M0,Array.getElem?_eq_none e];show Ms ?_
 first|refine Ms (OS a.typeIs (ME ?_))|refine Ms (Po _ (ME ?_))
 change wpAny _ _ (setField _ 0 _ >>= _) _ _ s;show Ms (Rh f hd (by simp) ?_)
 show Ms ?_;show Ms (NO ?_ (by size_fits))
 show Ms  (Rv  (by first|rfl|(rfl)) ?_)
 show NO ?_ (by size_fits)
 show Ms (U4 ?_);rw[j];show Ms (ME (Vy ?_));show Ms (QQ   #[_,MT _ rfl,rfl] Sv ?_);show ME (g _ (((Qd ..).extBut.push _).push _))
def xk (l:A.handled=td)(I d:MF)(k:d≠I)(es:NH OV)(ep:Mz) :
  Wa prog w A I [I,d] [I] ⇑es (λi v=>∃e,es[i]?=gV e/\e.key=v) (λi h=>h.IsKeyIter I d i ⇑es ep/\RawD d es ep h) where
 sub:=λb a=>by simp at a;simp[a]
 frame:=λ_ _ _ st hk=>#[st.1.at λo e=>hk I (by simp) o e,st.2.at λo e=>hk d (by simp) o e]
 item:=λi s Q E hi st c=>
  qK st.1 st.2 hi λh' f g=>c _ h' _ #[es[i],by simp[hi],rfl] #[f,st.2.at λo e=>(g.2 d k).trans e] λb o a e=>g.extBut b o (λh=>a (by simp[h])) e
 done:=λs Q E st c=>u8 l st.1 st.2 (MH _) λh' j=>c h' _ λb o a e=>j b o (λh=>a (by simp[h])) e
 self:=λ_ _ _ _ st c=>Sw st.1 c
def u9 (lo:(d==sysModules)=false):Sx prog w "dict" d d ⇑es (λi v=>∃e,es[i]?=gV e/\e.key=v) (RawD d es ep) where
 type:=λ_ a=>a.type
 there:=λ_ a=>#[a.lt,a.lt]
 keep:=λ_ _ a hk=>a.at λo e=>hk d (.inl rfl) o e
 notList:=by decide
 notTuple:=by decide
 hint:=λ_ _ _ _ a b=>PySem.W.kdl_hint_dict a.type b
 iter:=λ_ _ c a=>#[_,_,(λ_ _ b=>qJ lo a b),xk c _ d (M3 a.lt) es ep,#[#[_,MT _ rfl,rfl,rfl],a.at λo e=>Mw _ e]]
def y6 {T:N9}(K:Sx prog w T r d n P g)(k:A.handled=td)(f:g s.heap)(l:n<=sizeLine)(e:S≠r)(c:S≠d)
  (j:s.heap.get? S=gV {cls:=.type "list",data:=.seq #[] 0})
  (i:∀h' tk a h,(∀b o,b≠S->s.heap.get? b=gV o->h'.get? b=gV o)->h'.get? S=gV {cls:=.type "list",dict:=td,data:=.seq a h,slots:=#[]}->RT P a n->R (.ok (.ret (.ref S))) {s with heap:=h',toks:=tk}) :
  codeAny (model prog w) A (.builtin "list.__iadd__" #[[.ref S,.ref r],[]]) R s:=by
 show N3 F.entry_list_iadd ?_;rw[OT F.plain_list_iadd _];show PySem.W.kdl_extend K k f S e c _ 0 j i l
def qL {T:N9}(K:Sx prog w T r d n P j)(m:A.handled=td)(i:j s.heap)(p:n<=sizeLine)
  (k:∀h' tk a,(∀b o,s.heap.get? b=gV o->h'.get? b=gV o)->⇑s.heap.objs<=⇑h'.objs->RT P a n->Q a.toList {s with heap:=h',toks:=tk}):wpAny (model prog w) A (collect (.ref r)) Q E s:=by
 unfold collect;show Ms (Ri (N3 F.entry_proto_collect ?_));rw[OT F.plain_proto_collect _];change wpAny _ A.in1 (newList [] >>= λl=>again (.builtin "list.__iadd__" #[[l,.ref r],[]])) _ _ s
 show Ms (NO ?_);have h:=K.there _ i;show ME #[OQ F.plain_list_iadd _,y6 (s:={s with heap:=s.heap.push {cls:=.type "list",data:=.seq ([]:Mq Mu).toArray}}) K m (K.keep _ _ i λb _ o e=>Mw _ e) p (NR h.1) (NR h.2) (MT _ rfl) λh' tk c q hk f g=>?_]
 change wpAny (model prog w) A (do
   let o <- load ⇑s.heap.objs
   match o.data with
   |.seq xs _=>pure xs.toList
   |_=>unsupported "internal:collect") Q E {s with heap:=h',toks:=tk}
 show Ms (Te f ?_);show ME (k h' tk c (λb o e=>hk b o (M3 (MW e)) (Mw _ e)) (Pe (MW f)) g)
end
mutual
def fT:T->T->MA M9
 |.int a,.int b=>gV (decide (a<b))
 |.str a,.str b=>gV (decide (a.cps.toList<b.cps.toList))
 |.tup xs,.tup ys=>cZ xs ys
 |_,_=>td
def cZ:Mq T->Mq T->MA M9
 |[],[]=>gV false
 |[],_::_=>gV true
 |_::_,[]=>gV false
 |x::xs,y::ys=>if x=y then cZ xs ys else fT x y
end
mutual
theorem IsT.kept {h h':Nz}(hk:∀b o,o.cls=.type "tuple"->h.get? b=gV o->h'.get? b=gV o):∀{x:T}{v:Mu},IsT h x v->IsT h' x v
 |_,_,.int=>.int
 |_,_,.str=>.str
 |_,_,.tup a1 c1 d1 t1=>.tup (hk _ _ c1 a1) c1 d1 (IsTs.kept hk t1)
theorem IsTs.kept {h h':Nz}(hk:∀b o,o.cls=.type "tuple"->h.get? b=gV o->h'.get? b=gV o):∀{x:Mq T}{v:Mq Mu},IsTs h x v->IsTs h' x v
 |_,_,.nil=>.nil
 |_,_,.cons a b=>.cons (IsT.kept hk a) (IsTs.kept hk b)
end
def IV (g:B.units+d<cLine)(hl:∀ x y u v k,x.depth<=d->y.depth<=d->IsT s.heap x u->IsT s.heap y v->fT x y=gV k->LtAt B s u v k) :
  ∀ xs ys us vs k,T.depths xs<=d->T.depths ys<=d->IsTs s.heap xs us->IsTs s.heap ys vs->cZ xs ys=gV k->LexR B s us vs k
 |[],[],_,_,k,_,_,b,c,e=>by cases b;cases c;cases e;show .nn
 |[],y::ys,_,_,k,_,_,b,c,e=>by cases b;cases c;cases e;show .nc
 |x::xs,[],_,_,k,_,_,b,c,e=>by cases b;cases c;cases e;show .cn
 |x::xs,y::ys,_,_,k,i,j,b,c,e=>by
  simp only[T.depths]at i j;cases b with
  |cons h l=>
   cases c with
   |cons p2 m=>
    have f:=xj d x y _ _ B s ∅ h p2 g ∅
    dsimp only[cZ]at e
    by_cases a:x=y
    ·rw[M4 a]at e;rw[NB a]at f;show .eq f (IV g hl xs ys _ _ k ∅ ∅ l m e)
    ·rw[Nm a]at e;rw[Nk a]at f;show .ne f (hl x y _ _ k ∅ ∅ h p2 e)
def IW:∀ d x y u v B s k,x.depth<=d->y.depth<=d->IsT s.heap x u->IsT s.heap y v->B.units+d<cLine->fT x y=gV k->LtAt B s u v k:=by
 intro d
 induction d with
 |zero=>
  intro x y u v B s k c g f a p e;cases f with
  |int=>cases a with
   |int=>cases e;show λprog w E Q h=>(SQ h)
   |_=>cases e
  |str=>cases a with
   |str=>cases e;show λprog w E Q h=>(lt_str h)
   |_=>cases e
  |tup _ _ _ _=>simp[T.depth]at c
 |succ d ih=>
  intro x y u v B s k c g f a p e;cases f with
  |int=>cases a with
   |int=>cases e;show λprog w E Q h=>(SQ h)
   |_=>cases e
  |str=>cases a with
   |str=>cases e;show λprog w E Q h=>(lt_str h)
   |_=>cases e
  |tup i l n C=>cases a with
   |tup j m o D=>
    simp only[T.depth]at c g;have b:B.in1.units+d<cLine:=by rw[bf];omega
    show LtAt.tuples #[_,i,l,_,n] #[_,j,m,_,o] ∅ (IV b (λx y u v k q r t z A=>ih x y u v _ s k q r t z b A) _ _ _ _ k ∅ ∅ C D e)
   |_=>cases e
section
variable{prog:Nc}{w:Nq}{A:Nn}{R:Tf->My->Prop}{I S:MF}{fp wr:Mq MF}{n:Mz}{P:Mz->Mu->Prop}{St:Mz->Nz->Prop}{Ok:Nz->Prop}{bt:Mz->Mz->M9}
abbrev y8 (prog:Nc)(w:Nq)(A:Nn)(P:Mz->Mu->Prop)(Ok:Nz->Prop)(bt:Mz->Mz->M9):Prop:=
 ∀i j a b (s:My) (Q:Mu->My->Prop) (E:Mu->My->Prop),Ok s.heap->P i a->P j b->Q (.bool (bt i j)) s->wpAny (model prog w) A (richCompare .Lt a b) Q E s
def y9 (W:Wa prog w A.in1 I fp wr n P St)(E:y8 prog w A.in1 P Ok bt)(C:S∉fp)(G:∀h h',Ok h->(∀b o,b∉wr->b≠S->h.get? b=gV o->h'.get? b=gV o)->Ok h') :
  ∀ k j s q c,n-(j+1)=k->j<n->St (j+1) s.heap->P (argBest bt j) q->Ok s.heap->s.heap.get? S=gV {cls:=.type "list",dict:=td,data:=.seq [q,q].toArray c,slots:=#[]}->
  (∀v h' tk,P (argBest bt (n-1)) v->(∀b o,b∉wr->b≠S->s.heap.get? b=gV o->h'.get? b=gV o)->R (.ok (.ret v)) {s with heap:=h',toks:=tk})->
  codeAny (model prog w) A (.builtin "min.loop" #[[.ref I,.none,.ref S],[]]) R s:=by
 have D:=λh=>C (W.sub _ h)
 have l:(toString "min" ++ toString ".loop")="min.loop":=by decide
 intro k
 induction k with
 |zero=>
  intro j s q c hk T z p O B H;have M:j+1=n:=∅
  show N3 F.entry_min_loop ?_;show Ms (Oh B rfl ?_);show Ms (QE (W.done s _ _ (M▸z) λh' tk f=>?_))
  have g:=f S _ D B;show Ms (R9 g rfl (Ms (P0 (ME ?_))));have e:j=n-1:=∅
  show H q _ tk (e▸p) λb o d a e=>(NV _ _ (Ne.symm a)).trans (f b o d e)
 |succ k ih=>
  intro j s q c hk T z p O B H;have y:j+1<n:=∅
  show N3 F.entry_min_loop ?_;show Ms (Oh B rfl ?_);change wpAny _ A.in1 (tryCatch (pyNext (.ref I)) _ >>= _) _ _ s;show Ms (QE (W.item (j+1) s _ _ y z λv h' tk Q r f=>?_))
  have g:=f S _ D B;have u:=G _ _ O λb o J _ e=>f b o J e
  change wpAny _ A.in1 (tryCatch (holding [v,v] (richCompare .Lt v q >>= _)) _ >>= _) _ _ _;show Ms (QE (N1 (Ms (E (j+1) (argBest bt j) v q _ _ _ u Q p ?_))));show Ms (N1 (Oe ?_));show Ms (P0 (ME ?_));cases J:bt (j+1) (argBest bt j)with
  |true=>
   delta Qm;show Ms (R9 g rfl (Ms (P0 ?_)));rw[l];show ME #[OQ F.plain_min_loop _,ih (j+1) _ v _ ∅ y (W.frame _ _ _ r λb L o e=>?_) (by revert argBest J;show Q) (G _ _ u λb o _ a e=>(NV _ _ (Ne.symm a)).trans e) (Pb _ g rfl)
    λN t m x i=>?_]
   ·show(NV _ _ (λh=>C (by rw[h];show L))).trans e
   ·show H N t m x λb o d a e=>i b o d a ((NV _ _ (Ne.symm a)).trans (f b o d e))
  |false=>
   dsimp only[];show Ms (P0 ?_);rw[l];show ME #[OQ F.plain_min_loop _,ih (j+1) _ q c ∅ y r (by revert argBest J;show p) u g λN t m x i=>?_]
   show H N t m x λb o d a e=>i b o d a (f b o d e)
def xn (W:Wa prog w A.in1 I fp wr n P St)(k:y8 prog w A.in1 P Ok bt)(d:S∉fp)(g:∀h h',Ok h->(∀b o,b∉wr->b≠S->h.get? b=gV o->h'.get? b=gV o)->Ok h')(C:0<n)(z:St 0 s.heap)(D:Ok s.heap)
  (B:s.heap.get? S=gV {cls:=.type "list",dict:=td,data:=.seq #[] c,slots:=#[]})
  (G:∀v h' tk,P (argBest bt (n-1)) v->(∀b o,b∉wr->b≠S->s.heap.get? b=gV o->h'.get? b=gV o)->R (.ok (.ret v)) {s with heap:=h',toks:=tk}) :
  codeAny (model prog w) A (.builtin "min.loop" #[[.ref I,.none,.ref S],[]]) R s:=by
 have u:=λh=>d (W.sub _ h)
 have y:(toString "min" ++ toString ".loop")="min.loop":=by decide
 show N3 F.entry_min_loop ?_;show Ms (Oh B rfl ?_);show Ms (QE (W.item 0 s _ _ C z λv h' tk E m f=>?_))
 have i:=f S _ u B;change wpAny _ A.in1 (updateSeq S (λ_=>[v,v].toArray) >>= _) _ _ _
 show Ms (R9 i rfl ?_);have r:=g _ _ D λb o H _ e=>f b o H e
 show ME #[OQ F.plain_min_loop _,y9 W k d g _ 0 _ v _ rfl C (W.frame _ _ _ m λb x o e=>?_) E (g _ _ r λb o _ a e=>(NV _ _ (Ne.symm a)).trans e) (Pb _ i rfl) λJ q p t l=>?_]
 ·show(NV _ _ (λh=>d (by rw[h];show x))).trans e
 ·show G J q p t λb o j a e=>l b o j a ((NV _ _ (Ne.symm a)).trans (f b o j e))
end
section
variable{prog:Nc}{w:Nq}{A:Nn}{E:Mu->My->Prop}{s:My}
def zb (p:A.handled=td)(hl:s.heap.IsList l items)(q:0<⇑items)
  (d:y8 prog w A.in1 (λi v=>items[i]?=gV v) (λh=>∀b o,s.heap.get? b=gV o->h.get? b=gV o) bt)
  (n:∀v h' tk,items[argBest bt (⇑items-1)]?=gV v->(∀b o,s.heap.get? b=gV o->h'.get? b=gV o)->Q v {s with heap:=h',toks:=tk}) :
  wpAny (model prog w) A (call (.builtin "min") [.ref l]) Q E s:=by
 have c:(toString "min" ++ toString ".loop": N9)="min.loop":=by decide
 show call_function_tree F.kind_min F.plain_min F.entry_min (F.args_min1 _) ?_;change wpAny _ A.in1 (QZ "min" ["key","default"] 0 #[[],[]] >>= _) _ _ s;show Ms (Rv (show QZ "min" ["key","default"] 0 #[[],[]]=pure [td,td]from rfl) ?_)
 show Ms (ME ?_);show Ms (Pg hl ?_);show Ms (NO ?_);rw[c];have f:l<⇑s.heap.objs:=let ⟨_,g,_⟩:=hl;MW g
 have m:l≠⇑s.heap.objs:=M3 f;have W:=VN (prog:=prog) (w:=w) (A:=A.in1) p ⇑s.heap.objs l m items;have hsz:∀o:Of,(s.heap.push o).objs.size=⇑s.heap.objs+1:=λo=>by simp[Heap.push]
 show ME #[OQ F.plain_min_loop _,xn (A:=A) (Ok:=λh=>∀b o,s.heap.get? b=gV o->h.get? b=gV o) W d (λk=>?_) (λh h' g hk b o e=>?_) q #[?_,?_] (λb o e=>Mw _ (Mw _ e)) (MT _ rfl) λv h' tk r hk=>?_]
 ·rcases M5.mp k with e|k
  ·show absurd (show(s.heap.push _).objs.size=⇑s.heap.objs from e) (by rw[hsz];show Nat.succ_ne_self _)
  ·have e:(s.heap.push _).objs.size=l:=MS.mp k;rw[hsz]at e;show absurd f (by rw[<- e];show RO.mpr (Pz _))
 ·have a:=MW e;show hk b o (λz=>?_) (λz=>?_) (g b o e)
  ·rw[MS.mp z]at a;show NZ _ a
  ·have j:b=(s.heap.push _).objs.size:=z;rw[hsz]at j;rw[j]at a;show absurd a (RO.mpr (Pz _))
 ·show#[_,Mw _ (MT _ rfl),rfl,rfl]
 ·obtain⟨o,g,hc⟩:=hl;show#[o,Mw _ (Mw _ g),hc]
 ·show n v h' tk r λb o e=>hk b o (λz=>?_) (λz=>?_) (Mw _ (Mw _ e))
  ·have a:=MW e;rw[MS.mp z]at a;show NZ _ a
  ·have a:=MW e;have j:b=(s.heap.push _).objs.size:=z;rw[hsz]at j;rw[j]at a;show absurd a (RO.mpr (Pz _))
end
open PySem.W (KasT kas_sort kas_ask kas_cmp kas_item kas_asc kas_desc kas_tail3 kas_descPart kas_count kas_place kas_bin kas_rev)
abbrev qM {α:Type}(lt:Mz->Mz->M9):KasT α->α
 |.ret a=>a
 |.ask i j k=>qM lt (k (lt i j))
abbrev OkK {α:Type}(n:Mz)(P:α->Prop):KasT α->Prop
 |.ret a=>P a
 |.ask i j k=>i<n/\j<n/\∀b,OkK n P (k b)
def qN :∀ t,OkK n P t->P (qM lt t)
 |.ret _,h=>h
 |.ask i j k,h=>qN (k _) (h.2.2 _)
def pd (h:OkK n P t):P (qM lt t):=qN t h
def OkK.bind {f:α->KasT β}:∀{t:KasT α},OkK n P t->(∀a,P a->OkK n d (f a))->OkK n d (t.bind f)
 |.ret a,h,c=>c a h
 |.ask _ _ _,h,c=>#[h.1,h.2.1,λb=>OkK.bind (h.2.2 b) c]
def nG (hc:∀i j,i<n->j<n->∀C:M9->My->Prop,C (lt i j) s->a i j C s) :
  ∀{t:KasT α},OkK n P t->Q (qM lt t) s->t.kasWp a Q s
 |.ret _,_,h=>h
 |.ask i j k,h,b=>hc i j h.1 h.2.1 _ (nG hc (h.2.2 _) b)
abbrev Pm (n:Mz)(p:NH Mz):Prop:=p.toList.Perm (MJ n)
def Pm.size (h:Pm n p):⇑p=n:=by rw[<- Nv,h.length_eq,MX]
def Pm.lt (h:Pm n p)(a:0<n)(i:Mz):p.getD i 0<n:=by
 by_cases hi:i<⇑p
 ·have e:p.getD i 0=p[i]:=by simp[VO,hi]
  rw[e];have:p[i]∈p.toList:=by simp
  show ML.mp (h.mem_iff.mp this)
 ·have e:p.getD i 0=0:=by simp[VO,hi]
  rw[e];show a
def Pm.rev (h:Pm n p)(i j:Mz):Pm n (kas_rev p i j):=(Rj.mp (mirror_perm p i j _)).trans h
def Pm.bub (h:Pm n p)(i j:Mz):Pm n (bubble p i j):=(Rj.mp (bubble_perm p i j)).trans h
section
variable{n:Mz}(hn:0<n)
include hn
def sV (h:Pm n p):∀ f m,OkK n (λ_=>UA) (kas_asc p f m)
 |0,_=>trivial
 |f+1,m=>#[h.lt hn _,h.lt hn _,λb=>by
  change OkK n _ (if b=true then _ else _)
  split
  ·trivial
  ·show sV h f _]
def kE:∀ f p m q,Pm n p->OkK n (λr=>Pm n r.1) (kas_desc f p m q)
 |0,p,m,q,h=>h
 |f+1,p,m,q,h=>#[h.lt hn _,h.lt hn _,λb=>by
  change OkK n _ (if b=true then _ else _)
  split
  ·split
   ·show kE f _ _ _ (h.rev _ _)
   ·show kE f _ _ _ h
  ·show#[h.lt hn _,h.lt hn _,λc=>?_]
   change OkK n _ (if c=true then _ else _)
   split
   ·show h
   ·show kE f _ _ _ h]
def vc (h:Pm n p)(m k:Mz):OkK n (λr=>Pm n r.2) (kas_tail3 m k p):=by
 show OkK.bind (sV hn (h.rev 0 m) _ _) λa _=>h.rev 0 m
def jU (h:Pm n p)(m k:Mz):OkK n (λr=>Pm n r.2) (kas_descPart m k p):=by
 show OkK.bind (kE hn _ _ _ _ h) λr a=>?_
 split
 ·show vc hn (a.rev _ _) _ _
 ·show vc hn a _ _
def zd (h:Pm n p)(k:Mz):OkK n (λr=>Pm n r.2) (kas_count k p):=by
 show OkK.bind (sV hn h _ _) λm _=>?_
 split
 ·show h
 ·split
  ·show#[h.lt hn _,h.lt hn _,λc=>?_]
   change OkK n _ (if c=true then _ else _)
   split
   ·show h
   ·show jU hn (h.rev _ _) _ _
  ·show jU hn h _ _
def lw (h:Pm n p)(k:Mz):∀ f l r,OkK n (λ_=>UA) (kas_place p k f l r)
 |0,_,_=>trivial
 |f+1,l,r=>by
  delta kas_place;split
  ·trivial
  ·show#[h.lt hn _,h.lt hn _,λc=>?_]
   change OkK n _ (if c=true then _ else _)
   split
   ·show lw h k f _ _
   ·show lw h k f _ _
def ze:∀ f p k,Pm n p->OkK n (Pm n) (kas_bin f p k)
 |0,p,k,h=>h
 |f+1,p,k,h=>by
  show OkK.bind (lw hn h k _ _ _) λl _=>ze f _ _ (h.bub _ _)
def kF:OkK n (Pm n) (kas_sort n):=by
 show OkK.bind (zd hn (by unfold Pm;rfl) _) λr a=>?_
 split
 ·show ze hn _ _ _ a
 ·show a
end
section
variable{prog:Nc}{w:Nq}{A:Nn}{E:Mu->My->Prop}{s:My}{vs:Mq Mu}
abbrev eY (lt:Mz->Mz->M9){β:Type}(d:β)(vs:Mq β):Mq β:=if ↥vs<2 then vs else(qM lt (kas_sort ↥vs)).toList.map λi=>vs.getD i d
def qO {vs:Mq β}:(eY lt d vs).length=↥vs:=by
 unfold eY;split
 ·rfl
 ·rw[Mr,Nv,(pd  (kF  ∅)).size]
def xo (z:s.heap.get? a=gV (seqObj "list" vs.toArray n))(G:↥vs<64)
  (l:2<=↥vs->∀h',(∀b o,b≠a->s.heap.get? b=gV o->h'.get? b=gV o)->∀Q:Sy->My->Prop,Q κ {s with heap:=h'}->wpAny (model prog w) A (keyKind' vs.toArray) Q (λ_ _=>N6) {s with heap:=h'})
  (J:2<=↥vs->∀h',(∀b o,b≠a->s.heap.get? b=gV o->h'.get? b=gV o)->∀i j,i<↥vs->j<↥vs->∀Q:M9->My->Prop,Q (lt i j) {s with heap:=h'}->
   wpAny (model prog w) A (keyLt' κ (vs.getD i OM) (vs.getD j OM)) Q (λ_ _=>N6) {s with heap:=h'})
  (h:∀h' c,(∀b o,b≠a->s.heap.get? b=gV o->h'.get? b=gV o)->h'.get? a=gV (seqObj "list" (eY lt OM vs).toArray c)->P (.done (.ret .none)) {s with heap:=h'}) :
  wpAny (model prog w) A (PV.«list.sort» #[[.ref a],[]]) P E s:=by
 have Y:=MW z;obtain⟨D,t⟩:∃D,(s.heap.update a (OF λ_=>(#[]))).get? a=gV (seqObj "list" #[] D):=#[_,Sb z λ_=>#[]]
 have keep:∀b o,b≠a->s.heap.get? b=gV o->(((s.heap.update a (OF λ_=>(#[]))).push (seqObj "tuple" vs.toArray 0)).push (seqObj "list" #[] 0)).get? b=gV o:=λb o y e=>
  Mw _ (Mw _ ((Qe _ _ _ _ y).trans e))
 have d:(((s.heap.update a (OF λ_=>(#[]))).push (seqObj "tuple" vs.toArray 0)).push (seqObj "list" #[] 0)).get? a=gV (seqObj "list" #[] D):=Mw _ (Mw _ t)
 have fin:∀out,↥out=↥vs->out=eY lt OM vs->P (.done (.ret .none)) {s with heap:=(((s.heap.update a (OF λ_=>(#[]))).push (seqObj "tuple" vs.toArray 0)).push (seqObj "list" #[] 0)).update a (OF λ_=>out.toArray)}:=λout hl e=>by
  obtain⟨B,I⟩:∃B,((((s.heap.update a (OF λ_=>(#[]))).push (seqObj "tuple" vs.toArray 0)).push (seqObj "list" #[] 0)).update a (OF λ_=>out.toArray)).get? a=gV (seqObj "list" out.toArray B):=#[_,Sb d λ_=>out.toArray]
  show h _ B (λb o y q=>(Qe _ _ _ _ y).trans (keep b o y q)) (e▸I)
 rw[list_sort_plain];show Ms (TU z rfl ?_);show Ms (Ry z rfl ?_ (by rw[MV,NT];omega) (Os _))
 show Ms (Um t rfl ?_);show Ms (Rk ?_ (by change ↥vs<=_;rw[NT];omega))
 show Ms (SX ?_ (Os _));show N1 ?_;change wpAny (model prog w) A _ P E {s with heap:=((s.heap.update a (OF λ_=>(#[]))).push (seqObj "tuple" vs.toArray 0)).push (seqObj "list" #[] 0)}
 dsimp only
 by_cases m:↥vs<2
 ·rw[M4 (by rw[MV];show m),M4 (by rw[MV];show m)]
  show Ms (ME (Ms ?_));rw[StateT.run_pure];show ME ?_;dsimp only;show Ms (Um d rfl ?_);have W:((arrOf (SortSt.mk' general' (vs.toArray.zip vs.toArray) #[] 7 td)).map (·.2))=vs.toArray:=by
   show(vs.toArray.zip vs.toArray).map (·.2)=vs.toArray
   apply Array.toList_inj.mp;rw[Array.toList_map,Array.toList_zip];show List.map_snd_zip (MH _)
  rw[W];show Ms (Ry d rfl ?_ (Os _) (by rw[MV,NT];omega))
  revert TV;show ME (fin vs rfl (by unfold eY;rw[M4 m]))
 ·have r:¬ ⇑vs.toArray<2:=by rw[MV];show m
  have g:2<=↥vs:=∅
  rw[Nm r,Nm r];show Ms (Op (l g _ keep (λk v=>k=κ/\v={s with heap:=((s.heap.update a (OF λ_=>(#[]))).push (seqObj "tuple" vs.toArray 0)).push (seqObj "list" #[] 0)}) #[rfl,rfl]) ?_ λ_ _ x=>x.elim)
  rintro _ _ ⟨rfl,rfl⟩;show Ms (Op (PySem.W.kat_run (Q:=λf v=>∃p:NH Mz,⇑p=↥vs/\arrOf f=p.map (kas_item (vs.toArray.zip vs.toArray))/\failedOf f=td/\p=qM lt (kas_sort ↥vs)/\v={s with heap:=((s.heap.update a (OF λ_=>(#[]))).push (seqObj "tuple" vs.toArray 0)).push (seqObj "list" #[] 0)})
    rfl g G (λX f v L M N O=>#[X,L,M,N,O])
   (nG  (λi j hi U C S=>J g _ keep i j hi U C S) (kF  ∅) #[rfl,rfl])) ?_ λ_ _ e=>e)
  rintro⟨⟨⟩,f⟩ v ⟨p,V,H,T,R,rfl⟩;dsimp only;have u:=PySem.W.kat_snds rfl H;have hsz:(p.toList.map λi=>vs.getD i OM).length=↥vs:=by rw[Mr,Nv,V]
  rw[u];show Ms (Um d rfl ?_);show Ms (Ry d rfl ?_ (Os _) (by rw[MV,hsz,NT];omega))
  rw[T];revert TV PF QT;show ME (fin _ hsz (by unfold eY;rw[Nm m,R]))
def xp (q:↥vs<64)
  (k:∀v:Mq Mu->My->Prop,(∀h' tk,(∀b o,s.heap.get? b=gV o->h'.get? b=gV o)->⇑s.heap.objs<=⇑h'.objs->v vs {s with heap:=h',toks:=tk})->wpAny (model prog w) A.in1 (collect x) v E s)
  (d:2<=↥vs->∀h' tk,(∀b o,s.heap.get? b=gV o->h'.get? b=gV o)->∀Q:Sy->My->Prop,Q κ {s with heap:=h',toks:=tk}->wpAny (model prog w) A.in1.in1 (keyKind' vs.toArray) Q (λ_ _=>N6) {s with heap:=h',toks:=tk})
  (t:2<=↥vs->∀h' tk,(∀b o,s.heap.get? b=gV o->h'.get? b=gV o)->∀i j,i<↥vs->j<↥vs->∀Q:M9->My->Prop,Q (lt i j) {s with heap:=h',toks:=tk}->
   wpAny (model prog w) A.in1.in1 (keyLt' κ (vs.getD i OM) (vs.getD j OM)) Q (λ_ _=>N6) {s with heap:=h',toks:=tk})
  (h:∀D h' tk c,(∀b o,s.heap.get? b=gV o->h'.get? b=gV o)->⇑s.heap.objs<=D->h'.get? D=gV (seqObj "list" (eY lt OM vs).toArray c)->Q (.ref D) {s with heap:=h',toks:=tk}) :
  wpAny (model prog w) A (call (.builtin "sorted") [x]) Q E s:=by
 show Ro kind_sorted plain_sorted entry_sorted (args_sorted1 _) ?_;unfold PV.«sorted»;show Ms (m:=checkCount "sorted" 1 1 _) (ME ?_);show Ms (k _ λg a r l=>?_)
 show Ms (SX ?_ (by rw[NT];omega))
 have n:(g.push (seqObj "list" vs.toArray 0)).get? ⇑g.objs=gV (seqObj "list" vs.toArray 0):=MT _ rfl;have kp:∀b o,s.heap.get? b=gV o->(g.push (seqObj "list" vs.toArray 0)).get? b=gV o:=λb o e=>Mw _ (r b o e)
 have f:∀b o,s.heap.get? b=gV o->b≠⇑g.objs:=λb o e=>M3 (MU (MW e) l)
 change wpAny _ _ _ _ _ {s with heap:=g.push (seqObj "list" vs.toArray 0),toks:=a}
 show Ms (N1 (N2 slot_list_sort #[_,n,rfl] entry_list_sort ?_ (args_list_sort _)));show xo (s:={s with heap:=g.push (seqObj "list" vs.toArray 0),toks:=a}) (lt:=lt) (κ:=κ) n q (λp h' hk Q u=>d p h' a (λb o e=>hk b o (f b o e) (kp b o e)) Q u)
  (λp h' hk i j hi z Q u=>t p h' a (λb o e=>hk b o (f b o e) (kp b o e)) i j hi z Q u) λh' c hk y=>?_
 show#[_,rfl,ME #[_,rfl,h _ h' a c (λb o e=>hk b o (f b o e) (kp b o e)) l y]]
end
end Mi
namespace Mi
open PySem PySem.Spec PyProof.Rows L2
abbrev fJ:T->N9
 |.int _=>"int"|.str _=>"str"|.tup _=>"tuple"
abbrev bu:T->MA T
 |.tup (x::_)=>gV x
 |_=>td
abbrev CT (ks:Mq T):MA Mz:=
 if ks.all (λk=>fJ k == "int")then gV 0
 else if ks.all (λk=>fJ k == "str")then gV 1
 else if ks.all (λk=>(bu k).any λf=>fJ f == "int")then gV 2
 else if ks.all (λk=>(bu k).any λf=>fJ f == "str")then gV 3
 else if ks.all (λk=>(bu k).any λf=>fJ f == "tuple")then gV 4
 else td
abbrev zf:Mz->Sy
 |0=>oneType'|1=>oneType'|2=>tuples' true|3=>tuples' true|_=>tuples' false
abbrev eZ (ks:Mq T):M9:=ks.all λx=>ks.all λy=>(fT x y).isSome
abbrev yg (ks:Mq T)(i j:Mz):M9:=(fT (ks.getD i (.int 0)) (ks.getD j (.int 0))).getD false
def sW (h:eZ ks=true)(hi:i<↥ks)(c:j<↥ks):fT (ks[i]) (ks[j])=gV (yg ks i j):=by
 unfold eZ at h;rw[MY]at h;have a:=h _ (NC hi);rw[MY]at a;have d:=a _ (NC c);unfold yg;rw[show ks.getD i _=ks[i] by simp[hi],show ks.getD j _=ks[j] by simp[c]]
 obtain⟨b,e⟩:=NS.mp d;rw[e];rfl
abbrev LS (c:Mz)(x y:T):Prop:=match c with|0=>fJ x="int"/\fJ y="int"|1=>fJ x="str"/\fJ y="str"|2=>∃f g,bu x=gV f/\bu y=gV g/\fJ f="int"/\fJ g="int"|3=>∃f g,bu x=gV f/\bu y=gV g/\fJ f="str"/\fJ g="str"|_=>∃f g,bu x=gV f/\bu y=gV g
section
variable{prog:Nc}{w:Nq}{A:Nn}{E:Mu->My->Prop}{s:My}
def vd (x:IsT h k v):PySem.W.Looks (model prog w) h (typeOf v) (.type (fJ k)):=by
 cases x with
 |int=>show .now
 |str=>show .now
 |tup a c d t=>show c▸((VY a).andThen .now)
def IsTs.mem :∀{ks:Mq T}{vs:Mq Mu},IsTs h ks vs->∀v∈vs,∃k∈ks,IsT h k v:=by
 intro ks
 induction ks with
 |nil=>intro vs r v c;cases r;cases c
 |cons k ks ih=>
  intro vs r v c;cases r with
  |cons a b=>
   rcases M5.mp c with rfl|c
   ·show#[_,.head _,a]
   ·obtain⟨k,hk,q⟩:=ih b v c;show#[k,.tail _ hk,q]
def nH :∀{ks:Mq T}{vs:Mq Mu},IsTs h ks vs->ks.all (λk=>(bu k).any p)=true->∃d,PySem.W.KatTups h vs d/\↥d=↥vs/\∀v∈d,∃k,p k=true/\IsT h k v
 |_,_,.nil,_=>#[[],.nil,rfl,λv e=>nomatch e]
 |k::ks,_,.cons a b,c=>by
  rw[NG,MB]at c;obtain⟨d,m,q,r⟩:=nH b c.2;cases a with
  |int=>simp[bu]at c
  |str=>simp[bu]at c
  |@tup t y o items n i j l g=>
   cases t with
   |nil=>simp[bu]at c
   |cons x xs=>
    have s:p x=true:=by simpa [bu]using c.1
    generalize f:items.toList=its at g;cases g with
    |@cons _ u _ us w z=>
     show#[u::d,.cons i j l (by rw[<- NY,f];rfl) m,by simp[q],λv e=>?_]
     rcases M5.mp e with rfl|e
     ·show#[x,s,w]
     ·show r v e
def Gb (h:IsTs s.heap ks vs)(i:2<=↥vs)(hc:CT ks=gV c)(b:Q (zf c) s):wpAny (model prog w) A (keyKind' vs.toArray) Q E s:=by
 have one:∀ty ,(Pk ty != Pk _)=true->ks.all (λk=>fJ k==ty)=true->Q _ s->wpAny (model prog w) A _ Q E s:=λty d a b=>
  PySem.W.kas_kind  i (λv e=>by
   obtain⟨k,hk,x⟩:=h.mem v e;have:=eq_of_beq (MY.mp a k hk);show this▸vd x) d (by simp) b
 have tup:∀ty ,ks.all (λk=>(bu k).any λf=>fJ f==ty)=true->Q _ s->wpAny (model prog w) A _ Q E s:=λty a b=>by
  obtain⟨l,g,m,j⟩:=nH h a;show PySem.W.kat_kind  g ∅ (λv e=>by
   obtain⟨k,hk,x⟩:=j v e;have:=eq_of_beq hk;show this▸vd x) (by simp) b
 unfold CT at hc;split at hc
 ·cases hc;show one "int" #v[] (by assumption) b
 ·split at hc
  ·cases hc;show one "str" #v[] (by assumption) b
  ·split at hc
   ·cases hc;show tup "int" (by assumption) b
   ·split at hc
    ·cases hc;show tup "str" (by assumption) b
    ·split at hc
     ·cases hc;show tup "tuple" (by assumption) b
     ·cases hc
def qP (n:A.units+d<cLine):∀ xs ys us vs i k,T.depths xs<=d->T.depths ys<=d->IsTs s.heap xs us->IsTs s.heap ys vs->cZ xs ys=gV k->
  (b=true->i=0->∀x y,xs.head?=gV x->ys.head?=gV y->(fJ x="int"/\fJ y="int")\/(fJ x="str"/\fJ y="str"))->Q k s->PySem.W.KatLex prog w A b (decide (↥us<↥vs)) Q (us.zip vs) i s
 |[],[],_,_,i,k,_,_,f,g,e,l,a=>by cases f;cases g;cases e;show Sc (by simpa using a)
 |[],y::ys,_,_,i,k,_,_,f,g,e,l,a=>by cases f;cases g;cases e;show Sc (by simpa using a)
 |x::xs,[],_,_,i,k,_,_,f,g,e,l,a=>by cases f;cases g;cases e;show Sc (by simpa using a)
 |x::xs,y::ys,_,_,i,k,q,r,f,g,e,l,a=>by
  simp only[T.depths]at q r;cases f with
  |@cons _ u _ us m C=>
   cases g with
   |@cons _ v _ vs p2 D=>
    have t:=xj d x y _ _ A s ∅ m p2 n ∅
    show PySem.W.kat_cons (t _ w _ _ ?_);simp only[cZ]at e;have j:decide ((u::us).length<(v::vs).length)=decide (↥us<↥vs):=by simp
    rw[j]
    by_cases c:x=y
    ·rw[M4 c]at e;rw[NB c];show PySem.W.kat_yes (qP n xs ys us vs _ k ∅ ∅ C D e (λ_ z=>absurd z (Nat.succ_ne_zero _)) a)
    ·rw[Nm c]at e;rw[Nk c];show PySem.W.kat_no ?_
     by_cases h:b=true/\i=0
     ·obtain⟨rfl,rfl⟩:=h;rcases l rfl rfl x y rfl rfl with⟨o,p⟩|⟨o,p⟩
      ·cases m with
       |int=>cases p2 with
        |int=>cases e;show oneLt_int a
        |_=>show absurd p (by simp[fJ])
       |_=>show absurd o (by simp[fJ])
      ·cases m with
       |str=>cases p2 with
        |str=>cases e;show oneLt_str a
        |_=>show absurd p (by simp[fJ])
       |_=>show absurd o (by simp[fJ])
     ·have B:(b&&i==0)=false:=by
       cases b with
       |false=>rfl
       |true=>
        have:=λz=>h #[rfl,z]
        simpa using this
      rw[B];show PySem.W.kat_one _ _ ((IW d x y _ _ A s k ∅ ∅ m p2 n e) _ w _ _ a)
def CU (V:A.units+d<cLine)(O:x.depth<=d)(P:y.depth<=d)(m:IsT s.heap x u)(r:IsT s.heap y v)(e:fT x y=gV k)
  (hc:LS c x y)
  (H:Q k s):wpAny (model prog w) A (keyLt' (zf c) u v) Q E s:=by
 have tup:∀b:M9,(∃f g,bu x=gV f/\bu y=gV g/\(b=true->(fJ f="int"/\fJ g="int")\/(fJ f="str"/\fJ g="str")))->wpAny (model prog w) A (keyLt' (tuples' b) u v) Q E s:=by
  rintro b ⟨f,g,D,G,U⟩;cases m with
  |int=>cases D
  |str=>cases D
  |@tup xs a o items n M Z R W=>
   cases r with
   |int=>cases G
   |str=>cases G
   |@tup ys Y o' l n' N c2 S X=>
    simp only[T.depth]at O P;show PySem.W.kat_lt M R N S ?_;have:=qP (prog:=prog) (w:=w) (b:=b)  V xs ys _ _ 0 k ∅ ∅ W X e (λC _ p q L j=>by
     cases xs with
     |nil=>cases L
     |cons x0 xs=>cases ys with
      |nil=>cases j
      |cons y0 ys=>cases L;cases j;cases D;cases G;show U C) H
    simpa using this
 match c,hc with
 |0,#[I,J]=>
  cases m with
  |int=>cases r with
   |int=>cases e;show PySem.W.kat_lt_int H
   |_=>show absurd J (by simp[fJ])
  |_=>show absurd I (by simp[fJ])
 |1,#[I,J]=>
  cases m with
  |str=>cases r with
   |str=>cases e;show PySem.W.kas_lt_str H
   |_=>show absurd J (by simp[fJ])
  |_=>show absurd I (by simp[fJ])
 |2,#[f,g,h,i,t,B]=>show tup _ #[f,g,h,i,λ_=>.inl #[t,B]]
 |3,#[f,g,h,i,t,B]=>show tup _ #[f,g,h,i,λ_=>.inr #[t,B]]
 |n+4,#[f,g,h,i]=>show tup _ #[f,g,h,i,λz=>nomatch z]
end
def CV (h:CT ks=gV c)(l:x∈ks)(m:y∈ks) :
  LS c x y:=by
 have one:∀{ty:N9},ks.all (λk=>fJ k==ty)=true->fJ x=ty/\fJ y=ty:=λe=>#[eq_of_beq (MY.mp e x l),eq_of_beq (MY.mp e y m)]
 have a:∀{ty:N9},ks.all (λk=>(bu k).any λf=>fJ f==ty)=true->∃f g,bu x=gV f/\bu y=gV g/\fJ f=ty/\fJ g=ty:=λ{ty} e=>by
  have b:=MY.mp e x l;have d:=MY.mp e y m;cases i:bu x with
  |none=>rw[i]at b;cases b
  |some f=>
   cases j:bu y with
   |none=>rw[j]at d;cases d
   |some g=>
    rw[i]at b;rw[j]at d
    show#[f,g,rfl,rfl,eq_of_beq (by simpa using b),eq_of_beq (by simpa using d)]
 unfold CT at h;split at h
 ·cases h;show one (by assumption)
 ·split at h
  ·cases h;show one (by assumption)
  ·split at h
   ·cases h;show a (by assumption)
   ·split at h
    ·cases h;show a (by assumption)
    ·split at h
     ·cases h;obtain⟨f,g,b,d,_⟩:=a (by assumption)
      show#[f,g,b,d]
     ·cases h
abbrev fB (S:aa):W->MA (Mq W)
 |.tup xs=>gV xs
 |.ref i=>match eC S i with
  |some xs=>gV xs
  |none=>(gZ S i).map λU=>U.map λp=>p.1.w
 |_=>td
abbrev eG:Mz:=8
abbrev pe (ks:Mq T):M9:=decide (↥ks<64)&&decide (T.depths ks<=eG)&&(decide (↥ks<2)||((CT ks).isSome&&eZ ks))
abbrev iR (xs:Mq W)(S:aa):MA (W×aa):=match xs with
 |[x]=>match fB S x with
  |some ws=>match W.ts ws with
   |some ks=>if pe ks then gV (.ref ↥S,S++[.lst (eY (yg ks) .non ws)])else td
   |none=>td
  |none=>td
 |_=>td
abbrev jV (xs:Mq W)(S:aa):MA (W×aa):=match xs with
 |[.ref i]=>match gZ S i with
  |some U=>gV (.ref ↥S,S++[.lst (U.map λp=>p.1.w)])
  |none=>fI [.ref i] S
 |xs=>fI xs S
abbrev qQ (xs:Mq W)(S:aa):MA (W×aa):=match xs with
 |[.ref i]=>match gZ S i with
  |some U=>gV (.int ↥U,S)
  |none=>lg [.ref i] S
 |xs=>lg xs S
abbrev im (ks:Mq T):Mz:=argBest (yg ks) (↥ks-1)
abbrev zh (xs:Mq W)(S:aa):MA (W×aa):=match xs with
 |[.ref i]=>match eC S i with
  |some ws=>match W.ts ws with
   |some ks=>if T.depths ks<=eG/\eZ ks=true then(ws[im ks]?).map λw=>(w,S)else td
   |none=>td
  |none=>td
 |_=>td
abbrev io:Mq W->MA (Mq M9)
 |[]=>gV []
 |.bl b::ws=>(io ws).map (b :: ·)
 |_::_=>td
abbrev Gc (xs:Mq W)(S:aa):MA (W×aa):=match xs with
 |[.ref i]=>match eC S i with
  |some ws=>(io ws).map λbs=>(.bl (bs.all id),S)
  |none=>td
 |_=>td
section
variable{X:Cx}{J:Mq (MF×Of)}{Y:L2.St}{H:Hp}{s:My}{A:Mq MF}{S:aa}
def RelL.pick {K:MO}(r:RelL K A H ws vs)(d:W)(d':V):∀(is:Mq Mz),(∀i∈is,i<↥ws)->RelL K A H (is.map λi=>ws.getD i d) (is.map λi=>vs.getD i d')
 |[],_=>.nil
 |i::is,h=>by
  have hi:=h i (.head _);obtain⟨v,c,e⟩:=r.get (MC hi);show .cons ?_ (RelL.pick r d d' is λj f=>h j (.tail _ f))
  have a:ws.getD i d=ws[i]:=by simp[hi]
  have b:vs.getD i d'=v:=by simp[c]
  change Rel K A H (ws.getD i d) (vs.getD i d');rw[a,b];show e
def Vals.pick (r:Vals vs us)(d:V)(d':Mu):∀(is:Mq Mz),(∀i∈is,i<↥vs)->Vals (is.map λi=>vs.getD i d) (is.map λi=>us.getD i d')
 |[],_=>.nil
 |i::is,h=>by
  have hi:=h i (.head _);obtain⟨v,c,e⟩:=L2.Vals.get r (MC hi);show .cons ?_ (Vals.pick r d d' is λj f=>h j (.tail _ f))
  have a:vs.getD i d=vs[i]:=by simp[hi]
  have b:us.getD i d'=v:=by simp[c]
  change L2.RelV (vs.getD i d) (us.getD i d');rw[a,b];show e
def pf (a:0<n):∀i∈(qM lt (Uc n)).toList,i<n:=λi hi=>ML.mp ((pd  (kF a)).mem_iff.mp hi)
def zj {K:MO}(r:RelL K A H ws vs):RelL K A H (eY lt .non ws) (eY lt .non vs):=by
 unfold eY;rw[↥r];split
 ·show r
 ·show r.pick _ _ _ λi hi=>by rw[↥r];show pf ∅ i hi
def xq (r:Vals vs us):Vals (eY lt .non vs) (eY lt .none us):=by
 unfold eY;rw[L2.Vals.length r];split
 ·show r
 ·show Vals.pick r _ _ _ λi hi=>by rw[L2.Vals.length r];show pf ∅ i hi
def qR (hl:R1 s.heap l vs.toArray)(hsz:↥vs<=sizeLine)
  (h:∀h' tk,(∀b o,s.heap.get? b=gV o->h'.get? b=gV o)->⇑s.heap.objs<=⇑h'.objs->Q vs {s with heap:=h',toks:=tk}):wpAny (model prog w) B (collect (.ref l)) Q E s:=by
 obtain⟨o,c,hc,n,hd⟩:=id hl;unfold collect;show Ms (Ri (N3 entry_proto_collect' ?_));change wpAny _ _ (do again (.builtin "list.__iadd__" #[[<- newList [],.ref l],[]])) _ _ s
 show Ms (SX (ME #[To _ (by decide +kernel),N3 entry_list_iadd' ?_]))
 change wpAny _ _ (Q7 (.ref ⇑s.heap.objs) (.ref l) (.ref ⇑s.heap.objs)) _ _ {s with heap:=s.heap.push (seqObj "list" #[] 0)}
 unfold Q7;have a:(s.heap.push (seqObj "list" #[] 0)).get? l=gV o:=Mw _ c;show Ms (P2 (T:="tuple") #[o,a,hc] ?_);have d:(Pk "tuple" == Pk "tuple")=true:=by rfl
 rw[M4 (by rw[d];simp)]
 show Ms (TU a hd ?_);show Ms (TU (xs:=#[]) (n:=0) (MT _ rfl) rfl ?_);rw[Nm (by simp)]
 show Ms (Ry (xs:=#[]) (n:=0) (MT _ rfl) rfl ?_ (Os _) (by show(#[]++vs.toArray).size<=sizeLine+1;revert Array.size_append MV Oy;omega))
 show ME ?_;change wpAny (model prog w) B (do
   let o <- load ⇑s.heap.objs
   match o.data with
   |.seq xs _=>pure xs.toList
   |_=>unsupported "internal:collect") Q E {s with heap:=(s.heap.push (seqObj "list" #[] 0)).update ⇑s.heap.objs (OF (· ++ vs.toArray))}
 show Ms (Te (Sb (MT _ rfl) _) ?_);change wpAny _ _ (pure ((#[]:NH Mu)++vs.toArray).toList) Q E _;rw[show((#[]:NH Mu)++vs.toArray).toList=vs by simp]
 show ME (h _ s.toks (λb f e=>(Qe _ _ _ _ (M3 (MW e))).trans (Mw _ e)) ?_)
 rw[Ud,size_push'];show Pz _
def DicAt.raw (d:DicAt wd a xs h):∃es b,RawD a es b h/\es.toList=xs.map (yN wd):=
 let ⟨_,_,_,o,es,b,h1,h2,h3,h4⟩:=d;#[es,b,#[o,h1,h2,h3],h4]
def KRel.keysL (r:KRel X.K A H U xs):RelL X.K A H (U.map λp=>p.1.w) (xs.map λq=>V.ref q.2.1):=by
 induction r with
 |nil=>show .nil
 |cons h t ih=>show .cons h.2.2.2.1 ih
def nI (xs:Mq (T×MF×Mu)):Vals (xs.map λq=>V.ref q.2.1) (xs.map λq=>NK q.2.1):=by
 induction xs with
 |nil=>show .nil
 |cons x xs ih=>show .cons rfl ih
def lA {es:NH OV}{xs:Mq (T×MF×Mu)}(f:es.toList=xs.map (yN wd))(d:RT (λi v=>∃e,es[i]?=gV e/\e.key=v) a ⇑es):a.toList=xs.map λq=>NK q.2.1:=by
 have hl:⇑es=↥xs:=by rw[<- Nv,f,Mr]
 apply On
 ·rw[Nv,d.1,Mr,hl]
 ·intro i g c;obtain⟨e,b,h⟩:=d.2 i a[i] (by simp[g])
  rw[<- NY,f,MD]at b;rw[Mr]at c;rw[MC c]at b;simp only[Nb,Np]at b;subst b;rw[P3,Array.getElem_toList];show h.symm
def xr (N:X.A.handled=td)(I:Inv X J Y H s)(v:StoreOk X.w X.K A H S)(L:Rel X.K A H x a)(q:RelV a u)(e:fB S x=gV ws):∃vs us,RelL X.K A H ws vs/\Vals vs us/\↥us<=sizeLine/\
  ∀ B (j:B.handled=td) E g,(∀h' tk,(∀b o,s.heap.get? b=gV o->h'.get? b=gV o)->⇑s.heap.objs<=⇑h'.objs->g us {s with heap:=h',toks:=tk})->wpAny (model X.prog X.w) B (collect u) g E s:=by
 cases L with
 |tup k n=>
  cases e;obtain⟨c,f,z,i⟩:=I.tuple k;obtain rfl:u=NK _:=q;show#[_,c,n,f,by rw[<- L2.Vals.length f];show i,λB j E g h=>qR z (by rw[<- L2.Vals.length f];show i) h]
 |ref r=>
  simp only[fB]at e;split at e
  ·rename_i xs C;cases e;obtain⟨vs,k,n⟩:=br v C r;obtain⟨c,f,p,i⟩:=I.list k;obtain rfl:u=NK _:=q;show#[_,c,n,f,by rw[<- L2.Vals.length f];show i,λB j E g h=>collect_list p.isList (h _ s.toks (λb O e=>(Qe _ _ _ _ (M3 (MW e))).trans (Mw _ e)) ?_) (by rw[<- L2.Vals.length f];show i)]
   rw[Ud,size_push'];show Pz _
  ·rw[Mv]at e;obtain⟨U,hk,rfl⟩:=e;obtain⟨xs,G,D⟩:=fS v hk r;have d:=cw I G;obtain⟨es,M,raw,t⟩:=d.raw;obtain rfl:u=NK _:=q;have hl:⇑es=↥xs:=by rw[<- Nv,t,Mr]
   show#[_,_,D.keysL,nI xs,by rw[Mr];show d.1,λB j E g h=>qL (u9 d.2.1) j raw (by rw[hl];show d.1) λh' tk w l m y=>?_]
   rw[lA t y];show h h' tk l m
 |_=>cases e
def nJ {D:MF}(I:Inv X J Y H s)(g:StoreOk X.w X.K A H S)(r:RelL X.K A H ws vs)(f:Vals vs us)(i:↥us<=sizeLine)(hk:∀b o,s.heap.get? b=gV o->h'.get? b=gV o)(d:⇑s.heap.objs<=D)
  (h:h'.get? D=gV {cls:=.type "list",data:=.seq us.toArray c}):PostE X J Y A H (S++[.lst ws]) (.ref ↥S) (.ref D) {s with heap:=h',toks:=tk}:=by
 have e:H D=td:=I.hok.fresh d;show#[.ref D,_,A++[D],I.laid (a:=D) (o:=.lst vs) (t':=tk) hk d #[by rw[L2.Vals.length f];show i,us,c,f,h],rfl,bY e,g.push e r,.ref ?_]
 rw[<- g.len];simp
def pg (C:X.A.handled=td)(hu:X.A.units+12<cLine):LCall X (.builtin "sorted") iR:=by
 intro J s Y H A S xs vs us w S' I N rl rv e;cases rl with
 |nil=>cases e
 |cons r t=>
  cases t with
  |cons _ _=>cases e
  |nil=>
   cases rv with
   |cons ru B=>
    cases B;dsimp only[iR]at e;split at e
    ·rename_i ws hw;split at e
     ·rename_i ks hk;split at e
      ·rename_i f;cases e;obtain⟨vs',k,L,q,Z,p⟩:=xr C I N r ru hw
       (dsimp only[pe]at f;simp only[MB,M8]at f)
       obtain⟨⟨T,hd⟩,f⟩:=f;have y:=W.ts_w hk;have x:=gE I ks (y▸L) q;have hl:=x.length.symm;have M:2<=↥k->(CT ks).isSome=true/\eZ ks=true:=λn=>by
        rcases Oz _ _▸f with h|h
        ·simp only[M8]at h;omega
        ·simpa using h
       show xp  (lt:=yg ks) (κ:=zf ((CT ks).getD 0)) ∅ (λO v=>p X.A.in1 C _ O v) (λn h' tk a Q u=>?_) (λn h' tk a i j hi E Q u=>?_) λD h' tk c a U V=>?_
       ·obtain⟨z,G⟩:=M n;obtain⟨c,hc⟩:=NS.mp z;rw[hc]at u;show Gb  (x.kept λb o _ e=>a b o e) n hc u
       ·obtain⟨z,G⟩:=M n;obtain⟨c,hc⟩:=NS.mp z;rw[hc];have l:i<↥ks:=∅
        have m:j<↥ks:=∅
        have g:=(x.kept  λb o _ e=>a b o e)
        have P:k.getD i OM=k[i]:=by simp[hi]
        have R:k.getD j OM=k[j]:=by simp[E]
        rw[P,R];have b1:=dX  i l;have b2:=dX  j m;show CU  (d:=eG)  (by rw[bf,bf];unfold eG;omega) ∅ ∅ (g.get i l hi) (g.get j m E) (sW G l m) (CV hc (NC l) (NC m)) u
       ·show nJ I N (zj L) (xq q) (by rw[qO];show Z) a U V
      ·cases e
     ·cases e
    ·cases e
def qS (u:X.A.handled=td):LCall X (.type "list") jV:=by
 intro J s Y H A S xs vs us w m I g k l e
 by_cases hd:∃i U,xs=[.ref i]/\gZ S i=gV U
 ·obtain⟨i,U,rfl,hk⟩:=hd
  (dsimp only[jV]at e;simp only[hk]at e)
  cases e;cases k with
  |cons r t=>
   cases t;cases l with
   |cons y f=>
    cases f;cases r with
    |ref o=>
     obtain⟨xs,x,v⟩:=fS g hk o;have d:=cw I x;obtain⟨es,z,raw,j⟩:=d.raw;obtain rfl:_=NK _:=y;have hl:⇑es=↥xs:=by rw[<- Nv,j,Mr]
     show PySem.W.kdl_call (u9 d.2.1) u raw (by rw[hl];show d.1) λh' tk h n b p q=>?_
     have a:=lA j q;show nJ  I g v.keysL (a▸nI xs) (by rw[a,Mr];show d.1) b (MH _) (c:=n) ?_
     simpa using p
 ·have:jV xs S=fI xs S:=by
   unfold jV;split
   ·rename_i i;split
    ·rename_i U hk;show absurd #[i,U,rfl,hk] hd
    ·rfl
   ·rfl
  rw[this]at e;show ii _ s Y H A S xs vs us w m I g k l e
end
open PySem.W (KasT kas_sort kas_asc kas_desc kas_tail3 kas_descPart kas_count kas_place kas_bin kas_rev)
abbrev gt (p:NH Mz)(i:Mz):Mz:=p.getD i 0
end Mi
namespace Mi
open PySem PySem.Spec PyProof.Rows L2
mutual
theorem sX:∀x y:T,lq x=true->fT x y=gV true->fT y x=gV false
 |.int a,.int b,_,h=>by
  dsimp only[fT]at h;simp only[Np,M8]at h
  delta fT;revert Np Qw
  omega
 |.str _,_,h,_=>by cases h
 |.tup xs,.tup ys,hn,h=>ph xs ys hn h
 |.int _,.str _,_,h|.int _,.tup _,_,h|.tup _,.int _,_,h|.tup _,.str _,_,h=>by cases h
theorem ph:∀xs ys:Mq T,eE xs=true->cZ xs ys=gV true->cZ ys xs=gV false
 |[],[],_,h=>by cases h
 |[],_::_,_,_=>rfl
 |_::_,[],_,h=>by cases h
 |x::xs,y::ys,hn,h=>by
  simp only[eE,MB]at hn;dsimp only[cZ]at h ⊢
  by_cases e:x=y
  ·rw[M4 e]at h;rw[M4 e.symm];show ph xs ys hn.2 h
  ·rw[Nm e]at h;rw[Nm (Ne.symm e)];show sX x y hn.1 h
end
mutual
theorem sY:∀x y:T,lq x=true->x≠y->fT y x=gV false->fT x y=gV true
 |.int a,.int b,_,hne,h=>by
  dsimp only[fT]at h;simp only[Np,Qw]at h
  delta fT;revert Np M8
  have:a≠b:=λe=>hne (e▸rfl)
  omega
 |.str _,_,h,_,_=>by cases h
 |.tup xs,.tup ys,hn,hne,h=>ve xs ys hn (λe=>hne (e▸rfl)) h
 |.int _,.str _,_,_,h|.int _,.tup _,_,_,h|.tup _,.int _,_,_,h|.tup _,.str _,_,_,h=>by cases h
theorem ve:∀xs ys:Mq T,eE xs=true->xs≠ys->cZ ys xs=gV false->cZ xs ys=gV true
 |[],[],_,h,_=>absurd rfl h
 |[],_::_,_,_,_=>rfl
 |_::_,[],_,_,h=>by cases h
 |x::xs,y::ys,hn,hne,h=>by
  simp only[eE,MB]at hn;dsimp only[cZ]at h ⊢
  by_cases e:x=y
  ·rw[M4 e.symm]at h;rw[M4 e];show ve xs ys hn.2 (λz=>hne (by rw[e,z])) h
  ·rw[Nm (Ne.symm e)]at h;rw[Nm e];show sY x y hn.1 e h
end
mutual
theorem zm:∀x y z:T,lq x=true->lq y=true->fT x y=gV true->fT y z=gV true->fT x z=gV true
 |.int a,.int b,.int c,_,_,h,h'=>by
  dsimp only[fT]at h h' ⊢;simp only[Np,M8]at h h' ⊢
  omega
 |.tup xs,.tup ys,.tup zs,hn,hn',h,h'=>vf xs ys zs hn hn' h h'
 |.str _,_,_,h,_,_,_=>by cases h
 |.int _,.str _,_,_,_,h,_|.int _,.tup _,_,_,_,h,_|.tup _,.int _,_,_,_,h,_|.tup _,.str _,_,_,_,h,_=>by cases h
 |.int _,.int _,.str _,_,_,_,h|.int _,.int _,.tup _,_,_,_,h|.tup _,.tup _,.int _,_,_,_,h|.tup _,.tup _,.str _,_,_,_,h=>by cases h
theorem vf:∀xs ys zs:Mq T,eE xs=true->eE ys=true->cZ xs ys=gV true->cZ ys zs=gV true->cZ xs zs=gV true
 |[],[],_,_,_,h,_=>by cases h
 |_::_,[],_,_,_,h,_=>by cases h
 |_,_::_,[],_,_,_,h=>by cases h
 |[],_::_,_::_,_,_,_,_=>rfl
 |x::xs,y::ys,z::zs,hn,hn',h,h'=>by
  simp only[eE,MB]at hn hn';dsimp only[cZ]at h h' ⊢
  by_cases e:x=y
  ·subst e;rw[M4 rfl]at h
   by_cases e':x=z
   ·rw[M4 e']at h' ⊢;show vf xs ys zs hn.2 hn'.2 h h'
   ·rw[Nm e']at h' ⊢;show h'
  ·rw[Nm e]at h
   by_cases e':y=z
   ·subst e';rw[Nm e];show h
   ·rw[Nm e']at h';have t:=zm x y z hn.1 hn'.1 h h';have e2:x≠z:=λe2=>by
     subst e2;have:=sX x x hn.1 t;rw[t]at this;cases this
    rw[Nm e2];show t
end
def zn :(eY lt d xs).Perm xs:=by
 unfold eY;split
 ·show .refl _
 ·have p:Pm _ (qM lt (Uc ↥xs)):=pd (kF ∅)
  show(Wc _ p).trans ?_;have:(MJ ↥xs).map (λi=>xs.getD i d)=xs:=by
   apply On
   ·simp
   ·intro k b a;simp[a]
  rw[this]
abbrev jo (xs:Mq W)(S:aa):MA (W×aa):=match xs with
 |[.ref i]=>match o5 S i with
  |some (lo,hi)=>if -(2^62)<=lo/\lo<2^62/\-(2^62)<=hi/\hi<2^62/\(hi-lo).toNat<=sizeLine then gV (.tup (yZ lo (hi-lo).toNat),S)else td
  |none=>lh [.ref i] S
 |xs=>lh xs S
section
variable{prog:Nc}{w:Nq}{A:Nn}{E:Mu->My->Prop}{s:My}
def mV {n:Mz}(D:A.handled=td)(y:VU s.heap r a b c t u v)(k:QX a b c=true)
  (G:OC a b c=n) (x:n<=2^24)
  (B:∀h' tk d,(∀b o,s.heap.get? b=gV o->h'.get? b=gV o)->⇑s.heap.objs<=⇑h'.objs->RT (λi v=>∃t,v=.int (a+i*c) t) d n->Q d.toList {s with heap:=h',toks:=tk}):wpAny (model prog w) A (collect (.ref r)) Q E s:=by
 show Ms (Ri (N3 F.entry_proto_collect ?_));rw[OT F.plain_proto_collect _];show Ms (NO ?_);show ME #[OQ F.plain_list_iadd _,N3 F.entry_list_iadd ?_];rw[OT F.plain_list_iadd _];have C:(s.heap.push _).get? _=gV {cls:=.type "list",data:=.seq #[] 0}:=MT _ rfl;have l:∀m,(∃h' tk d p,m={s with heap:=h',toks:=tk}/\(∀b o,s.heap.get? b=gV o->h'.get? b=gV o)/\h'.get? ⇑s.heap.objs=gV {cls:=.type "list",dict:=td,data:=.seq d p,slots:=#[]}/\RT (λi v=>∃t,v=.int (a+i*c) t) d n)->wpAny (model prog w) A (do
   let o <- load ⇑s.heap.objs
   match o.data with
   |.seq xs _=>pure xs.toList
   |_=>unsupported "internal:collect") Q E m:=by
  rintro m ⟨h',tk,d,p,rfl,hk,j,g⟩;show Ms (Te j (ME (B h' tk d hk (Pe (MW j)) g)))
 show Op (wpAny_extend_range   (R:=λr m=>r=.ok (.ret (.ref ⇑s.heap.objs))/\∃h' tk d p,m={s with heap:=h',toks:=tk}/\(∀b o,s.heap.get? b=gV o->h'.get? b=gV o)/\h'.get? ⇑s.heap.objs=gV {cls:=.type "list",dict:=td,data:=.seq d p,slots:=#[]}/\RT (λi v=>∃t,v=.int (a+i*c) t) d n) D (Mw _ y) k G x _ _ 0 C λh' tk q p hk j g=>#[rfl,h',tk,q,p,rfl,λb o e=>hk b o (M3 (MW e)) (Mw _ e),j,g]) (λfin m h=>?_) (λe m h=>?_)
 ·cases fin with
  |done f=>
   obtain⟨e,h⟩:=h;cases e;show l m h
  |again p=>show#[h.1,Qy h.2 λr z y=>by obtain⟨rfl,y⟩:=y;show l z y]
 ·show absurd h.1 (by simp)
def jp {n:Mz}(q:A.handled=td)(z:VU s.heap r a b c t u v)(f:QX a b c=true)
  (y:OC a b c=n) (j:n<=2^24)
  (h:∀(h':Nz) tk d,(∀b o,s.heap.get? b=gV o->h'.get? b=gV o)->⇑s.heap.objs<=⇑h'.objs->RT (λi v=>∃t,v=.int (a+i*c) t) d n->Q₁ (.ref ⇑h'.objs) {s with heap:=h'.push {cls:=.type "tuple",data:=.seq d},toks:=tk}) :
  codeAny (model prog w) A (.call (.builtin "tuple.__new__") #[[.type "tuple",.ref r],[]]) (wants Q₁ E) s:=by
 show R7 ?_;show Ms (Rv (F.newCall_tuple_1 _) (ME #[OQ F.plain_tuple_new _,N3 F.entry_tuple_new ?_]));rw[OT F.plain_tuple_new _];have p:=PySem.sub_tuple_self;have l:=PySem.init_tuple_lookup;have x:=PySem.madeHere_tuple;have k:A.in1.handled=td:=by simp[q]
 wp_walk using P2 hTI,mV  k z f y j
 intro h' tk d hk m g;change wpAny _ _ (Rz d.toList.toArray >>= λv=>ret v) _ _ _
 unfold Rz;show Ms (NO ?_ (by change ⇑d.toList.toArray<=sizeLine;revert Array.toArray_toList;rw[g.1,NT];omega))
 show ME ?_;have e:d.toList.toArray=d:=by rfl
 rw[e];show h h' tk d hk m g
def jq {n:Mz}(m:A.handled=td)(q:VU s.heap r a b c t u v)(g:QX a b c=true)
  (p:OC a b c=n) (j:n<=2^24)
  (l:∀(h':Nz) tk f,(∀b o,s.heap.get? b=gV o->h'.get? b=gV o)->⇑s.heap.objs<=⇑h'.objs->RT (λi v=>∃t,v=.int (a+i*c) t) f n->Q (.ref ⇑h'.objs) {s with heap:=h'.push {cls:=.type "tuple",data:=.seq f},toks:=tk}) :
  wpAny (model prog w) A (call (.type "tuple") [.ref r]) Q E s:=by
 show UN (Q₁:=λobj e=>e.TypeIs obj _/\Q obj e) F.called_tuple (F.typeCall_tuple_1 _) F.entry_object_init
  (jp (by simp[m]) q g p j λh' tk f hk k h=>#[#[_,MT _ rfl,rfl],l h' tk f hk k h]) λobj e d=>?_
 show#[d.1,F.args_object_init_2 obj _,object_init_meets F.called_tuple.init.lookup F.called_tuple.made #v[] _ w _ _ _ #[d.1,rfl,d.2]]
end
section
variable{X:Cx}{J:Mq (MF×Of)}{Y:L2.St}{H:Hp}{s:My}{A:Mq MF}{S:aa}
def po (E:X.A.handled=td):LCall X (.type "tuple") jo:=by
 intro J s Y H A S xs vs us w p I l m n e;unfold jo at e;split at e
 ·rename_i i;split at e
  ·rename_i lo hi j;split at e
   ·rename_i D;cases e;obtain⟨a,B,rfl⟩:=fA (xs:=[]) m n;obtain⟨r,b2,x,y,q⟩:=D;have C:H a=gV (.rng lo hi):=by
     unfold o5 at j;split at j
     ·rename_i N;cases j;show l.obj i _ a N B
     ·cases j
    obtain⟨t,u,v,L⟩:=I.hok a _ C;have G:OC lo hi 1=((hi-lo).toNat):=by rw[SU];split<;>omega
    show jq E L (Va r b2 x y) G q λh' tk d hk f c=>?_
    have M:Vals ((MJ (hi-lo).toNat).map λ(k:Mz)=>V.int (lo+k)) d.toList:=by
     show o7 (by rw[Mr,MX,Nv,c.1]) λi v u h z=>?_
     rw[MD,Mv]at h;obtain⟨k,h,rfl⟩:=h;obtain⟨hk,rfl⟩:=MP.mp h;obtain⟨t,rfl⟩:=c.2 i u (by rw[<- NY];show z)
     show#[t,by simp]
    have g:=I.hok.fresh f;show#[.ref _,_,A,I.laid  (o:=.tup _)  (λb o e=>Mw _ (hk b o e)) f #[#[by simpa using q,NoD.new _ _ _],d.toList,M,?_],rfl,cv (.inl g),l.lay g,.tup (.inl (.inl aI)) (o8 _)]
    show#[_,MT _ rfl,rfl,0,by rfl]
   ·cases e
  ·show jS _ s Y H A S _ vs us w p I l m n e
 ·show jS _ s Y H A S _ vs us w p I l m n e
def xt (L:X.A.handled=td)(hu:X.A.units+12<cLine):LCall X (.builtin "min") zh:=by
 intro J s Y H A S xs vs us w S' I C U Z e;cases U with
 |nil=>cases e
 |cons r t=>
  cases t with
  |cons _ _=>cases r<;>cases e
  |nil=>
   cases Z with
   |cons V u=>
    cases u;cases r with
    |ref D=>
     dsimp only[zh]at e;split at e
     ·rename_i ws hw;split at e
      ·rename_i ks hk;split at e
       ·rename_i hc;rw[Mv]at e;obtain⟨w',k,l⟩:=e;cases l;obtain⟨vs',G,q⟩:=br C hw D;obtain⟨a,h,p,hz⟩:=I.list G;obtain rfl:_=NK _:=V;have n:=W.ts_w hk;have x:=gE I ks (n▸q) h;have hl:=x.length.symm;have M:↥ws=↥ks:=by rw[↥q,L2.Vals.length h,hl]
        have N:0<↥ks:=by
         have:=(MP.mp k).1;omega
        show zb  (bt:=yg ks) L p.isList (by simpa [hl]using N) (λi j vi vj s' Q E f hi y O=>?_) λv h' tk z f=>?_
        ·have c:i<↥ks:=by
          have:=(O4.mp hi).1
          simpa [hl]using this
         have d:j<↥ks:=by
          have:=(O4.mp y).1
          simpa [hl]using this
         have g:=x.kept  λb o _ e=>f b o e
         have k:vi=a[i]'∅:=by
          have:=(O4.mp hi).2
          simpa using this.symm
         have l:vj=a[j]'∅:=by
          have:=(O4.mp y).2
          simpa using this.symm
         subst k l;have b1:=dX  i c;have b2:=dX  j d;show IW eG _ _ _ _ _ s' _ ∅ ∅ (g.get i c ∅) (g.get j d ∅) (by rw[bf];unfold eG;omega) (sW hc.2 c d) _ X.w _ _ O
        ·have m:a[im ks]?=gV v:=by
          have:⇑a.toArray=↥ks:=by simpa using hl
          rw[this]at z
          simpa [im]using z
         obtain⟨v',P,R⟩:=q.get k;obtain⟨u',B,T⟩:=L2.Vals.get h P;rw[m]at B;cases B;show#[v',H,A,I.kept f,T,.refl,C,R]
       ·cases e
      ·cases e
     ·cases e
    |_=>cases e
def nK:∀{ws:Mq W}{bs:Mq M9},io ws=gV bs->ws=bs.map W.bl
 |[],bs,h=>by cases h;rfl
 |.bl b::ws,bs,h=>by
  (dsimp only[io]at h;simp only[Mv]at h)
  obtain⟨r,a,c⟩:=h;subst c;rw[nK a];rfl
 |.non::_,_,h|.int _::_,_,h|.str _::_,_,h|.tup _::_,_,h|.ref _::_,_,h=>by cases h
def sZ {bs:Mq M9}(r:RelL X.K A H (bs.map W.bl) vs)(a:Vals vs us):us=bs.map QM:=by
 induction bs generalizing vs us with
 |nil=>cases r;cases a;rfl
 |cons b bs ih=>
  cases r with
  |cons c d=>
   cases a with
   |cons e f=>
    cases c;obtain rfl:_=QM b:=e;rw[ih d f];rfl
def xu (bs:Mq M9):(MJ ↥bs).all (λi=>bs.getD i false)=bs.all id:=by
 induction bs with
 |nil=>rfl
 |cons b bs ih=>simp[RQ,QF]at ih ⊢;rw[ih]
def Gd {id:N9}{B:Mq M9->M9}(T:∀xs S,g xs S=match xs with|[.ref i]=>(match eC S i with|some ws=>(io ws).map λbs=>(.bl (B bs),S)|none=>td)|_=>td)
  (f:∀{s:My}{x:Mu}{Q:Mu->My->Prop}{E:Mu->My->Prop}{bs:Mq M9},wpAny (model X.prog X.w) X.A.in1 (pyIter x) (λit a=>∃I O wr P u,it=.ref I/\Wa X.prog X.w X.A.in1 I O wr ↥bs P u/\u 0 a.heap/\TruthOf X.prog X.w X.A.in1 P (λi=>bs.getD i false)/\
   ∀h' tk,(∀b o,b∉wr->a.heap.get? b=gV o->h'.get? b=gV o)->Q (.bool (B bs)) {a with heap:=h',toks:=tk}) E s->wpAny (model X.prog X.w) X.A (call (.builtin id) [x]) Q E s)
  (U:X.A.handled=td):LCall X (.builtin id) g:=by
 intro J s Y H A S xs vs us w S' I D V rv e;rw[T]at e;cases V with
 |nil=>cases e
 |cons r t=>
  cases t with
  |cons _ _=>cases r<;>cases e
  |nil=>
   cases rv with
   |cons Z n=>
    cases n;cases r with
    |@ref ri y M=>
     simp only at e;split at e
     ·rename_i ws hw;rw[Mv]at e;obtain⟨bs,G,L⟩:=e;cases L;obtain⟨vs',R,C⟩:=br D hw M;obtain⟨h,m,p,hz⟩:=I.list R;obtain rfl:_=NK _:=Z;rw[nK G]at C;have c:=sZ C m;show f (bs:=bs) ?_;show Pg p.isList ?_;have k:y<⇑s.heap.objs:=by obtain⟨_,l,_⟩:=p.isList;show MW l
      have W:=VN (prog:=X.prog) (w:=X.w) (A:=X.A.in1) U _ y (M3 k) h.toArray;have hsz:⇑h.toArray=↥bs:=by rw[MV,c,Mr]
      rw[hsz]at W;show#[_,_,_,_,_,rfl,W,#[#[_,MT _ rfl,rfl,rfl],?_],λi v s' Q E hi j=>?_,λh' tk hk=>?_]
      ·obtain⟨o,l,hc⟩:=p.isList;show#[o,Mw _ l,hc]
      ·have d:bs[i]?.map QM=gV v:=by rw[<- MD,<- c];simpa using hi
       cases q:bs[i]? with
       |none=>rw[q]at d;cases d
       |some b=>
        rw[q]at d;cases d;have N:bs.getD i false=b:=by simp[q]
        have j:Q (bs.getD i _) s':=j;rw[N]at j;show Oe j
      ·show#[.bl _,H,A,I.kept (λb o e=>hk b o (λz=>?_) (Mw _ e)),rfl,.refl,D,.bl]
       have d:=MW e;rw[MS.mp z]at d;show NZ _ d
     ·cases e
    |_=>cases e
def xv (i:X.A.handled=td):LCall X (.builtin "all") Gc:=
 Gd  (λxs S=>rfl) (λ{s x Q E bs} h=>call_all_walk (Op h (λit g #[I,fp,wr,P,St',a,b,c,d,f]=>#[I,fp,wr,_,P,St',_,a,b,c,d,λh' tk hk=>by rw[xu];show f h' tk hk]) λ_ _ e=>e)) i
end
noncomputable abbrev FA:=Fm->aa->MA (Mq W×aa)
noncomputable abbrev FT:=Fm->aa->MA (M9×aa)
inductive Out where
 |nx (Z:Fm)|rt (w:W)|bk (Z:Fm)|ct (Z:Fm)
noncomputable abbrev FS:=Fm->aa->MA (Out×aa)
section
variable (X:Cx)
inductive tE (f:FE)(Y:L2.St)(H:Hp)(Q:VK):Prop
 |mk (A:Mq MF) (Z:Fm) (S:aa) (w:W) (S':aa) (er:EnvRel X.K A H Z Y) (so:StoreOk X.w X.K A H S) (e:f Z S=gV (w,S')) (q:∀v H',EndV X.w X.K A H S' w v H'->Q v H'):tE f Y H Q
abbrev EndB (A:Mq MF)(H:Hp)(d:aa)(k:M9):M9->Hp->Prop:=λb c=>b=k/\∃a,Ext X.K A H a c/\StoreOk X.w X.K a c d
inductive tT (f:FT)(Y:L2.St)(H:Hp)(Q:M9->Hp->Prop):Prop
 |mk (A:Mq MF) (Z:Fm) (S:aa) (k:M9) (S':aa) (er:EnvRel X.K A H Z Y) (so:StoreOk X.w X.K A H S) (e:f Z S=gV (k,S')) (q:∀b H',EndB X A H S' k b H'->Q b H'):tT f Y H Q
inductive EndA (A:Mq MF)(H:Hp)(S':aa)(ws:Mq W)(vs:Mq V)(H':Hp):Prop
 |mk (A':Mq MF) (e:Ext X.K A H A' H') (so:StoreOk X.w X.K A' H' S') (r:RelL X.K A' H' ws vs):EndA A H S' ws vs H'
inductive tA (f:FA)(Y:L2.St)(H:Hp)(Q:Mq V->Hp->Prop):Prop
 |mk (A:Mq MF) (Z:Fm) (S:aa) (ws:Mq W) (S':aa) (er:EnvRel X.K A H Z Y) (so:StoreOk X.w X.K A H S) (e:f Z S=gV (ws,S')) (q:∀vs H',EndA X A H S' ws vs H'->Q vs H'):tA f Y H Q
inductive EndF (A:Mq MF)(H:Hp)(o:Out)(S':aa)(c:Fm->Out)(Y':L2.St)(H':Hp):Prop
 |mk (Z':Fm) (A':Mq MF) (eo:o=c Z') (e:Ext X.K A H A' H') (so:StoreOk X.w X.K A' H' S') (er:EnvRel X.K A' H' Z' Y'):EndF A H o S' c Y' H'
inductive EndR (A:Mq MF)(H:Hp)(o:Out)(S':aa)(v:V)(H':Hp):Prop
 |mk (w:W) (A':Mq MF) (eo:o=.rt w) (e:Ext X.K A H A' H') (so:StoreOk X.w X.K A' H' S') (r:Rel X.K A' H' w v):EndR A H o S' v H'
abbrev EndS (A:Mq MF)(H:Hp)(o:Out)(a:aa):Ends where
 nx:=EndF X A H o a .nx
 rt:=EndR X A H o a
 bk:=EndF X A H o a .bk
 ct:=EndF X A H o a .ct
structure Imp (E D:Ends):Prop where
 nx:∀Y H,E.nx Y H->D.nx Y H
 rt:∀v H,E.rt v H->D.rt v H
 bk:∀Y H,E.bk Y H->D.bk Y H
 ct:∀Y H,E.ct Y H->D.ct Y H
inductive tS (f:FS)(D:Ends)(Y:L2.St)(H:Hp):Prop
 |mk (A:Mq MF) (Z:Fm) (S:aa) (o:Out) (S':aa) (er:EnvRel X.K A H Z Y) (so:StoreOk X.w X.K A H S) (e:f Z S=gV (o,S')) (d:Imp (EndS X A H o S') D):tS f D Y H
noncomputable abbrev GE (e:M7)(f:FE):Prop:=PE X e (tE X f)
noncomputable abbrev GT (e:M7)(f:FT):Prop:=PT X e (tT X f)
noncomputable abbrev GW (e:M7)(f:FT):Prop:=PW X e (tT X f)
noncomputable abbrev GA (es:Mq M7)(f:FA):Prop:=PA X es (tA X f)
noncomputable abbrev GS (st:Pq)(f:FS):Prop:=PS X st (tS X f)
noncomputable abbrev GSs (sts:Mq Pq)(f:FS):Prop:=PSs X sts (tS X f)
end
def Imp.trans (a:Imp E D)(b:Imp D F):Imp E F:=#[λ_ _ h=>b.nx _ _ (a.nx _ _ h),λ_ _ h=>b.rt _ _ (a.rt _ _ h),λ_ _ h=>b.bk _ _ (a.bk _ _ h),λ_ _ h=>b.ct _ _ (a.ct _ _ h)]
section
variable{X:Cx}
def GE.of (h:PE X e t)(b:∀ Y H A Z S w S',EnvRel X.K A H Z Y->StoreOk X.w X.K A H S->f Z S=gV (w,S')->∀Q:VK,(∀v a,EndV X.w X.K A H S' w v a->Q v a)->t Y H Q):GE X e f:=
 λJ s Y H Q I #[A,Z,S,w,S',er,so,e1,hq]=>h J s Y H Q I (b Y H A Z S w S' er so e1 Q hq)
def GT.of (h:PT X e t)(c:∀ Y H A Z S k S',EnvRel X.K A H Z Y->StoreOk X.w X.K A H S->f Z S=gV (k,S')->∀Q:M9->Hp->Prop,(∀b a,EndB X A H S' k b a->Q b a)->t Y H Q):GT X e f:=
 λJ s Y H Q I #[A,Z,S,w,S',er,so,e1,hq]=>h _ s Y H Q I (c Y H A Z S w S' er so e1 Q hq)
def GW.of (h:PW X e t)(c:∀ Y H A Z S k S',EnvRel X.K A H Z Y->StoreOk X.w X.K A H S->f Z S=gV (k,S')->∀Q:M9->Hp->Prop,(∀b a,EndB X A H S' k b a->Q b a)->t Y H Q):GW X e f:=
 λd J s Y H Q I #[A,Z,S,w,S',er,so,e1,hq]=>h d _ s Y H Q I (c Y H A Z S w S' er so e1 Q hq)
def GA.of (h:PA X es t)(b:∀ Y H A Z S ws S',EnvRel X.K A H Z Y->StoreOk X.w X.K A H S->f Z S=gV (ws,S')->∀Q:Mq V->Hp->Prop,(∀vs a,EndA X A H S' ws vs a->Q vs a)->t Y H Q):GA X es f:=
 λpos J s Y H Q I #[A,Z,S,w,S',er,so,e1,hq]=>h pos _ s Y H Q I (b Y H A Z S w S' er so e1 Q hq)
def GS.of {st:Pq}(h:PS X st t)(a:∀ Y H A Z S o S',EnvRel X.K A H Z Y->StoreOk X.w X.K A H S->f Z S=gV (o,S')->∀D:Ends,Imp (EndS X A H o S') D->t D Y H):GS X st f:=
 λJ s Y H D I #[A,Z,S,o,S',er,so,e1,hq]=>h _ s Y H D I (a Y H A Z S o S' er so e1 D hq)
def GSs.of {st:Mq Pq}(h:PSs X st t)(a:∀ Y H A Z S o S',EnvRel X.K A H Z Y->StoreOk X.w X.K A H S->f Z S=gV (o,S')->∀D:Ends,Imp (EndS X A H o S') D->t D Y H):GSs X st f:=
 λJ s Y H D I #[A,Z,S,o,S',er,so,e1,hq]=>h _ s Y H D I (a Y H A Z S o S' er so e1 D hq)
def EndV.after (e:Ext X.K A H a c)(h:EndV X.w X.K a c d w v b):EndV X.w X.K A H d w v b:=by
 obtain⟨f,x,y,z⟩:=h;show#[f,e.trans x,y,z]
def EndB.after (e:Ext X.K A H a d)(h:EndB X a d f k b c):EndB X A H f k b c:=by
 obtain⟨i,g,x,y⟩:=h;show#[i,g,e.trans x,y]
def EndS.after (e:Ext X.K A H g h):Imp (EndS X g h o i) (EndS X A H o i):=
 #[λ_ _ #[f,A',a,b,c,d]=>#[f,A',a,e.trans b,c,d],λ_ _ #[f,A',a,b,c,d]=>#[f,A',a,e.trans b,c,d],λ_ _ #[f,A',a,b,c,d]=>#[f,A',a,e.trans b,c,d],λ_ _ #[f,A',a,b,c,d]=>#[f,A',a,e.trans b,c,d]]
abbrev fC (w:W):FE:=λ_ S=>gV (w,S)
abbrev fV (i:Mz):FE:=λZ S=>match Z[i]? with
 |some (gV w)=>gV (w,S)
 |_=>td
def qT (h:PE X e (tC v))(r:∀A H,Rel X.K A H w v):GE X e (fC w):=
 GE.of h λY H A Z S f c d b e Q a=>by cases e;show a _ _ (.here b (r A H))
def Lg (h:PE X e (Fo i)):GE X e (fV i):=GE.of h λY H A Z S w g a f e Q d=>by
 unfold fV at e;split at e
 ·rename_i j hw;cases e;obtain⟨v,b,c⟩:=a.2 i _ hw;show#[v,b,d _ _ (.here f c)]
 ·cases e
abbrev CW (g:W->W->aa->MA (W×aa))(b c:FE):FE:=λZ S=>match b Z S with
 |some (x,S1)=>match c Z S1 with
  |some (y,a)=>g x y a
  |none=>td
 |none=>td
def two (e:CW g b c Z S=gV r):∃x S1 y a,b Z S=gV (x,S1)/\c Z S1=gV (y,a)/\g x y a=gV r:=by
 unfold CW at e;split at e
 ·rename_i x S1 d;split at e
  ·rename_i y a f;show#[x,S1,y,a,d,f,e]
  ·cases e
 ·cases e
def fU {R:V->V->Hp->Prop}(g:EnvRel X.K A H Z Y)(n:StoreOk X.w X.K A H S)(l:i Z S=gV (x,S1))(m:j Z S1=gV (y,e))
  (h:∀a b c d,Ext X.K A H d c->StoreOk X.w X.K d c e->Rel X.K d c x a->Rel X.K d c y b->R a b c):tE X i Y H λa f=>tE X j Y f λb c=>R a b c:=by
 show#[A,Z,S,x,S1,g,n,l,λa f #[k,e1,o1,r1]=>?_]
 show#[k,Z,S1,y,e,g.mono e1,o1,m,λb c #[d,e2,o2,r2]=>?_]
 show h a b c d (e1.trans e2) o2 (r1.mono e2) r2
inductive rOp (X:Cx)(g:W->W->aa->MA (W×aa))(a b:V)(H:Hp)(Q:VK):Prop
 |mk (A:Mq MF) (S:aa) (x y w:W) (S':aa) (so:StoreOk X.w X.K A H S) (rx:Rel X.K A H x a) (ry:Rel X.K A H y b) (e:g x y S=gV (w,S')) (q:∀v H',EndV X.w X.K A H S' w v H'->Q v H'):rOp X g a b H Q
inductive rCall (X:Cx)(g:Mq W->aa->MA (W×aa))(vs:Mq V)(H:Hp)(Q:VK):Prop
 |mk (A:Mq MF) (S:aa) (ws:Mq W) (w:W) (S':aa) (so:StoreOk X.w X.K A H S) (rl:RelL X.K A H ws vs) (e:g ws S=gV (w,S')) (q:∀v H',EndV X.w X.K A H S' w v H'->Q v H'):rCall X g vs H Q
def LOp.opr (h:LOp X f g):OpR X f (rOp X g):=by
 intro J s Y H a b u v Q I j k ⟨A,S,x,y,w,d,n,l,m,e,i⟩;show bh (h _ s Y H A S x y a b u v w d I n l j m k e) λp o #[c,H',A',I',r',e1,o1,z1]=>#[c,H',I',r',i c H' #[A',e1,o1,z1]]
def EE (s:LOp X (binaryOp f) g)(q:GE X a c)(r:GE X b d):GE X (.BinOp a f b pos) (CW g c d):=
 GE.of (Iy s.opr q r) λY H A Z S w j m D e Q t=>by
  obtain⟨x,S1,y,k,n,o,p⟩:=two e;show fU m D n o λa b E h l u B C=>#[h,k,x,y,w,j,u,B,C,p,λv i z=>t v i (z.after l)]
abbrev zo (a:FE):FE:=λZ S=>match a Z S with
 |some (.int i,S1)=>gV (.int (-i),S1)
 |_=>td
def zp (g:GE X a b):GE X (.UnaryOp .USub a pos) (zo b):=
 GE.of (Iz FW g) λY H A Z S w l d j e Q h=>by
  unfold zo at e;split at e
  ·rename_i i S1 f;cases e;show#[A,Z,S,_,_,d,j,f,λv k #[c,e1,o1,r1]=>?_]
   cases r1;show#[_,rfl,h _ _ #[c,e1,o1,.int]]
  ·cases e
abbrev CY (o:COp)(a b:FE):FE:=CW (bx o) a b
def Ge (t:X.A.units+ig<cLine)(p:GE X a c)(q:GE X b d)(r:behindInMarks o.py b=false):GE X (.Compare a [o.py] [b] pos) (CY o c d):=
 GE.of (Cg (qI t o).opr p q r) λY H A Z S w h k D e Q s=>by
  obtain⟨x,S1,y,i,l,m,n⟩:=two e;show fU k D l m λa b E f j u B C=>#[f,i,x,y,w,h,u,B,C,n,λv g z=>s v g (z.after j)]
abbrev qU (f:FE):FT:=λZ S=>match f Z S with
 |some (.bl k,a)=>gV (k,a)
 |_=>td
def Gf (w:X.A.units+ig<cLine)(r:GE X a c)(s:GE X b d)(t:behindInMarks o.py b=false):GT X (.Compare a [o.py] [b] pos) (qU (CY o c d)):=
 GT.of (Ch (qI w o).opr r s t) λY H A Z S k I l D e Q u=>by
  unfold qU at e;split at e
  ·rename_i J h m;cases e;obtain⟨x,S1,y,i,n,p,q⟩:=two m;show fU l D n p λa b G g j z B C=>#[g,i,x,y,_,_,z,B,C,q,λv E #[f,z1,z2,z3]=>?_]
   cases z3;show#[k,rfl,u _ _ #[rfl,f,j.trans z1,z2]]
  ·cases e
abbrev fW (o f:COp)(c d e:FE):FE:=λZ S=>match c Z S with
 |some (x,S1)=>match d Z S1 with
  |some (y,a)=>match sS o x y a with
   |some true=>match e Z a with
    |some (z,b)=>cY f y z b
    |none=>td
   |some false=>gV (.bl false,a)
   |none=>td
  |none=>td
 |none=>td
def lB (m:EnvRel X.K A H Z Y)(J:StoreOk X.w X.K A H S)(e:fW o t n p r Z S=gV (w,d))(Q:VK)(s:∀v f,EndV X.w X.K A H d w v f->Q v f) :
  sH (rOp X (cY o))
   (rOp X (cY t)) (tE X n) (tE X p) (tE X r) Y H Q:=by
 unfold fW at e;split at e
 ·rename_i x S1 E;split at e
  ·rename_i y h G;show fU m J E G λa b L k i u B j=>?_
   split at e
   ·rename_i hc;split at e
    ·rename_i z l I;show#[k,h,x,y,.bl true,h,u,B,j,by simp[cY,hc],λv D #[g,z1,z2,z3]=>?_]
     cases z3;show#[true,rfl,?_];show#[g,Z,h,z,l,m.mono (i.trans z1),z2,I,λc M #[C,y1,y2,y3]=>?_]
     show#[C,l,y,z,w,d,y2,(j.mono z1).mono y1,y3,e,λv f q=>s v f (q.after ((i.trans z1).trans y1))]
    ·cases e
   ·rename_i hc;cases e;show#[k,d,x,y,.bl false,d,u,B,j,by simp[cY,hc],λv D #[g,z1,z2,z3]=>?_]
    cases z3;show#[false,rfl,?_];show s _ _ #[g,i.trans z1,z2,.bl]
   ·cases e
  ·cases e
 ·cases e
def zq (i:X.A.units+ig<cLine)(k:GE X a f)(l:GE X b g)(hc:GE X c h)(m:lastMarks [o.py,d.py] [b,c]=false):GE X (.Compare a [o.py,d.py] [b,c] pos) (fW o d f g h):=
 GE.of (yv (iL i o).opr (iL i d).opr k l hc m) λY H A Z S w q j p e Q n=>lB j p e Q n
def zr (j:X.A.units+ig<cLine)(q:GE X a g)(r:GE X b h)(hc:GE X c i)(s:lastMarks [o.py,d.py] [b,c]=false):GT X (.Compare a [o.py,d.py] [b,c] pos) (qU (fW o d g h i)):=
 GT.of (yw (iL j o).opr (iL j d).opr q r hc s) λY H A Z S k w n u e Q t=>by
  unfold qU at e;split at e
  ·rename_i y m p;cases e;show lB n u p (λx f=>∃k,x=.bl k/\Q k f) λv f #[l,z1,z2,z3]=>?_
   cases z3;show#[_,rfl,t _ _ #[rfl,l,z1,z2]]
  ·cases e
abbrev gS (f:FE):FT:=λZ S=>match f Z S with
 |some (w,a)=>(eW a w).map λk=>(k,a)
 |none=>td
def cf (h:GE X e f)(l:∀a,isTrue e X.env a=(do let v <- a;standAt e.pos;holding [v] (truthy v))):GT X e (gS f):=by
 intro J s Y H Q I ⟨A,Z,S,k,o,i,n,b,m⟩;unfold gS at b;split at b
 ·rename_i w S1 j;rw[Mv]at b;obtain⟨p,g,d⟩:=b;cases d;show isTrue_plain (bh (h _ s Y H _ I #[A,Z,S,w,_,i,n,j,λ_ _ z=>z]) λv r #[x,H1,I1,r1,A1,b,o1,z1]=>?_) (l _)
  show Le I1 o1 z1 r1 g λq c=>#[H1,c,m _ _ #[rfl,A1,b,o1]]
 ·cases b
abbrev zt (f g:FT):FT:=λZ S=>match f Z S with
 |some (true,S1)=>g Z S1
 |some (false,S1)=>gV (false,S1)
 |none=>td
abbrev IX (f g:FT):FT:=λZ S=>match f Z S with
 |some (true,S1)=>gV (true,S1)
 |some (false,S1)=>g Z S1
 |none=>td
abbrev CZ (f:FT):FT:=λZ S=>match f Z S with
 |some (k,S1)=>gV (!k,S1)
 |none=>td
def zu (d:EnvRel X.K A H Z Y)(l:StoreOk X.w X.K A H S)(e:zt f g Z S=gV (k,c))(Q:M9->Hp->Prop)(j:∀b a,EndB X A H c k b a->Q b a) :
  Ih (tT X f) (tT X g) Y H Q:=by
 unfold zt at e;split at e
 ·rename_i S1 h;show#[A,Z,S,true,S1,d,l,h,λb m #[i,A1,z1,z2]=>?_]
  subst i;show#[A1,Z,S1,k,c,d.mono z1,z2,e,λb a q=>j b a (q.after z1)]
 ·rename_i S1 h;cases e;show#[A,Z,S,false,_,d,l,h,λb m #[i,A1,z1,z2]=>?_]
  subst i;show j _ _ #[rfl,A1,z1,z2]
 ·cases e
def C0 (d:EnvRel X.K A H Z Y)(l:StoreOk X.w X.K A H S)(e:IX f g Z S=gV (k,c))(Q:M9->Hp->Prop)(j:∀b a,EndB X A H c k b a->Q b a) :
  LP (tT X f) (tT X g) Y H Q:=by
 unfold IX at e;split at e
 ·rename_i S1 h;cases e;show#[A,Z,S,true,_,d,l,h,λb m #[i,A1,z1,z2]=>?_]
  subst i;show j _ _ #[rfl,A1,z1,z2]
 ·rename_i S1 h;show#[A,Z,S,false,S1,d,l,h,λb m #[i,A1,z1,z2]=>?_]
  subst i;show#[A1,Z,S1,k,c,d.mono z1,z2,e,λb a q=>j b a (q.after z1)]
 ·cases e
def C3 (h:GT X a f):GW X (.BoolOp .And [a] pos) f:=B5 h
def Gg (h:GT X a f):GW X (.BoolOp .Or [a] pos) f:=Fp h
def Gh (h:GT X a f)(d:GW X (.BoolOp .And (b::r) pos) g):GW X (.BoolOp .And (a::b::r) pos) (zt f g):=
 GW.of (Fq h d) λY H A Z S k l c j e Q i=>zu c j e Q i
def IY (h:GT X a f)(d:GW X (.BoolOp .Or (b::r) pos) g):GW X (.BoolOp .Or (a::b::r) pos) (IX f g):=
 GW.of (Ii h d) λY H A Z S k l c j e Q i=>C0 c j e Q i
def Gi (h:GT X a f):GT X (.UnaryOp .Not a pos) (CZ f):=
 GT.of (Fs h) λY H A Z S k n c j e Q g=>by
  unfold CZ at e;split at e
  ·rename_i i S1 d;cases e;show#[A,Z,S,i,_,c,j,d,λb m #[l,A1,z1,z2]=>?_]
   subst l;show g _ _ #[rfl,A1,z1,z2]
  ·cases e
abbrev vg (f g:FE):FE:=λZ S=>match f Z S with
 |some (.bl true,S1)=>g Z S1
 |some (.bl false,S1)=>gV (.bl false,S1)
 |_=>td
abbrev C4 (f g:FE):FE:=λZ S=>match f Z S with
 |some (.bl true,S1)=>gV (.bl true,S1)
 |some (.bl false,S1)=>g Z S1
 |_=>td
abbrev vh (f:FE):FE:=λZ S=>match f Z S with
 |some (.bl k,S1)=>gV (.bl (!k),S1)
 |_=>td
def Gj (h:GE X a f):GE X (.BoolOp b [a] pos) f:=Ft h
def Gk (h:GE X a f)(o:GE X (.BoolOp .And (b::r) pos) g):GE X (.BoolOp .And (a::b::r) pos) (vg f g):=
 GE.of (Fu h o) λY H A Z S w n d k e Q j=>by
  unfold vg at e;split at e
  ·rename_i S1 i;show#[A,Z,S,_,S1,d,k,i,λv m #[c,z1,z2,z3]=>?_]
   cases z3;show#[true,rfl,?_];show#[c,Z,S1,w,n,d.mono z1,z2,e,λb l q=>j b l (q.after z1)]
  ·rename_i S1 i;cases e;show#[A,Z,S,_,_,d,k,i,λv m #[c,z1,z2,z3]=>?_]
   cases z3;show#[false,rfl,?_];show j _ _ #[c,z1,z2,.bl]
  ·cases e
def IZ (h:GE X a f)(o:GE X (.BoolOp .Or (b::r) pos) g):GE X (.BoolOp .Or (a::b::r) pos) (C4 f g):=
 GE.of (Il h o) λY H A Z S w n d k e Q j=>by
  unfold C4 at e;split at e
  ·rename_i S1 i;cases e;show#[A,Z,S,_,_,d,k,i,λv m #[c,z1,z2,z3]=>?_]
   cases z3;show#[true,rfl,?_];show j _ _ #[c,z1,z2,.bl]
  ·rename_i S1 i;show#[A,Z,S,_,S1,d,k,i,λv m #[c,z1,z2,z3]=>?_]
   cases z3;show#[false,rfl,?_];show#[c,Z,S1,w,n,d.mono z1,z2,e,λb l q=>j b l (q.after z1)]
  ·cases e
def Gm (h:GE X a f):GE X (.UnaryOp .Not a pos) (vh f):=
 GE.of (Fv h) λY H A Z S w l d j e Q i=>by
  unfold vh at e;split at e
  ·rename_i m S1 g;cases e;show#[A,Z,S,_,_,d,j,g,λb k #[c,z1,z2,z3]=>?_]
   cases z3;show#[_,rfl,i _ _ #[c,z1,z2,.bl]]
  ·cases e
abbrev C5 (c:FT)(f g:FE):FE:=λZ S=>match c Z S with
 |some (true,S1)=>f Z S1
 |some (false,S1)=>g Z S1
 |none=>td
def Gn (hc:GT X c l)(p:GE X a f)(r:GE X b g):GE X (.IfExp c a b pos) (C5 l f g):=
 GE.of (yn hc p r) λY H A Z S w k d n e Q m=>by
  unfold C5 at e;split at e
  ·rename_i S1 i;show#[A,Z,S,_,S1,d,n,i,λb o #[j,A1,z1,z2]=>?_]
   subst j;show#[A1,Z,S1,w,k,d.mono z1,z2,e,λb h q=>m b h (q.after z1)]
  ·rename_i S1 i;show#[A,Z,S,_,S1,d,n,i,λb o #[j,A1,z1,z2]=>?_]
   subst j;show#[A1,Z,S1,w,k,d.mono z1,z2,e,λb h q=>m b h (q.after z1)]
  ·cases e
abbrev ip:FA:=λ_ S=>gV ([],S)
abbrev cU (f:FE)(g:FA):FA:=λZ S=>match f Z S with
 |some (w,S1)=>match g Z S1 with
  |some (ws,a)=>gV (w::ws,a)
  |none=>td
 |none=>td
def Go:GA X [] ip:=GA.of yy λY H A Z S ws c d b e Q a=>by cases e;show a _ _ #[A,.refl,b,.nil]
def C6 (h:GE X e f)(a:GA X es g)(l:starEach (e::es) X.env=(false,eval e X.env)::starEach es X.env):GA X (e::es) (cU f g):=
 GA.of (oN h a l) λY H A Z S ws p c m e Q k=>by
  unfold cU at e;split at e
  ·rename_i w S1 j;split at e
   ·rename_i b q a;cases e;show#[A,Z,S,w,S1,c,m,j,λv n #[d,z1,z2,z3]=>?_]
    show#[d,Z,S1,b,_,c.mono z1,z2,a,λvs o #[i,y1,y2,y3]=>?_]
    show k _ _ #[i,z1.trans y1,y2,.cons (z3.mono y1) y3]
   ·cases e
  ·cases e
abbrev zv (f:FA):FE:=λZ S=>match f Z S with
 |some (ws,S1)=>wY S1 ws
 |none=>td
abbrev zw (f:FA):FE:=λZ S=>match f Z S with
 |some (ws,S1)=>mT S1 ws
 |none=>td
def zx (h:GA X es f):GE X (.Tuple es k pos) (zv f):=
 GE.of (FZ h) λY H A Z S w l a g e Q d=>by
  unfold zv at e;split at e
  ·rename_i ws S1 b;obtain⟨hl,rfl,rfl⟩:=uT e;show#[A,Z,S,ws,_,a,g,b,λvs j #[i,z1,z2,z3]=>#[by rw[<- ↥z3];show hl,λp c=>?_]]
   show d _ _ (EndV.after z1 (.tup z2 z3 c))
  ·cases e
def zy (h:GA X es f):GE X (.List es pos) (zw f):=
 GE.of (F0 h) λY H A Z S w k a g e Q d=>by
  unfold zw at e;split at e
  ·rename_i ws S1 b;obtain⟨hl,rfl,rfl⟩:=kC e;show#[A,Z,S,ws,_,a,g,b,λvs j #[i,z1,z2,z3]=>#[by rw[<- ↥z3];show hl,λp c=>?_]]
   show d _ _ (EndV.after z1 (.lst z2 z3 c))
  ·cases e
abbrev fK (g:Mq W->aa->MA (W×aa))(f:FA):FE:=λZ S=>match f Z S with
 |some (ws,S1)=>g ws S1
 |none=>td
def LCall.callr (h:LCall X v g):CallR X v (rCall X g):=by
 intro J s Y H vs us Q I f ⟨A,S,ws,w,b,i,d,e,c⟩;show bh (h _ s Y H A S ws vs us w b I i d f e) λk j #[a,H',A',I',r',e1,o1,z1]=>#[a,H',I',r',c a H' #[A',e1,o1,z1]]
def nL (h:EnvRel X.K A H Z Y)(k:StoreOk X.w X.K A H S)(e:fK g f Z S=gV (w,b))(Q:VK)(j:∀v a,EndV X.w X.K A H b w v a->Q v a) :
  tA X f Y H λvs c=>rCall X g vs c Q:=by
 unfold fK at e;split at e
 ·rename_i ws S1 i;show#[A,Z,S,ws,S1,h,k,i,λvs c #[d,z1,z2,z3]=>#[d,S1,ws,w,b,z2,z3,e,λv a q=>j v a (q.after z1)]]
 ·cases e
def vm {id:N9}(hc:LCall X (.builtin id) g)(h:Gl X x)(i:X.mg x=td)(m:bootBuiltins x=gV (.builtin id))(d:GA X (e::es) f)
  (j:x≠"__name__") (a:(x==("__debug__"))=false) (l:starEach (e::es) X.env=(false,eval e X.env)::starEach es X.env) (b:(backTo pos (starEach es X.env)).any (·.1)=false):GE X (.Call (.Name x p) (e::es) [] pos) (fK g f):=
 GE.of (qw hc.callr h i m d j a l b) λY H A Z S w o c n e Q k=>nL c n e Q k
def nM {id:N9}(hc:LCall X (.type id) g)(h:Gl X x)(i:X.mg x=td)(m:bootBuiltins x=gV (.type id))(d:GA X (e::es) f)
  (j:x≠"__name__") (a:(x==("__debug__"))=false) (l:starEach (e::es) X.env=(false,eval e X.env)::starEach es X.env) (b:(backTo pos (starEach es X.env)).any (·.1)=false):GE X (.Call (.Name x p) (e::es) [] pos) (fK g f):=
 GE.of (wK hc.callr h i m d j a l b) λY H A Z S w o c n e Q k=>nL c n e Q k
end
abbrev g6 (T:N9)(S:aa):W->M9
 |.str _=>T == "str"
 |.tup _=>T == "tuple"
 |.ref i=>(T == "list" && (eC S i).isSome)||(T == "dict" && (gZ S i).isSome)
 |_=>false
abbrev tyOk (T:N9)(S:aa)(x:W):M9:=if T == "index" then g6 "list" S x||g6 "tuple" S x else g6 T S x
def C7 {T:N9}(h:(T == "index")=false):tyOk T S x=g6 T S x:=by unfold tyOk;rw[h];rfl
abbrev BY (T:N9)(g:W->Mq W->aa->MA (W×aa))(b:FE)(f:FA):FE:=λZ S=>match b Z S with
 |some (x,S1)=>if tyOk T S1 x then match f Z S1 with
  |some (ws,a)=>g x ws a
  |none=>td
  else td
 |none=>td
abbrev Lh (a b:FE):FE:=CW qf a b
noncomputable abbrev FO:=Fm->aa->MA (MA MM×aa)
abbrev Gp:FO:=λ_ S=>gV (td,S)
abbrev vn (f:FE):FO:=λZ S=>match f Z S with
 |some (.int i,S1)=>gV (gV i,S1)
 |_=>td
abbrev Ja (c:FE)(e d:FO):FE:=λZ S=>match c Z S with
 |some (x,S1)=>match e Z S1 with
  |some (lo,a)=>match d Z a with
   |some (hi,b)=>qe x lo hi b
   |none=>td
  |none=>td
 |none=>td
section
variable{X:Cx}
inductive rMeth (X:Cx)(g:W->Mq W->aa->MA (W×aa))(a:V)(vs:Mq V)(H:Hp)(Q:VK):Prop
 |mk (A:Mq MF) (S:aa) (x:W) (ws:Mq W) (w:W) (S':aa) (so:StoreOk X.w X.K A H S) (rx:Rel X.K A H x a) (rl:RelL X.K A H ws vs) (e:g x ws S=gV (w,S')) (q:∀v H',EndV X.w X.K A H S' w v H'->Q v H'):rMeth X g a vs H Q
def Gq {Y:L2.St}(I:Inv X J Y H s)(h:SqT X.K H a xs):s.TypeIs (.ref a) "tuple"/\∃o,s.heap.get? a=gV o/\o.dict=td:=by
 rcases h with h|⟨o,b,n,hk,hc,hd,_⟩
 ·obtain⟨z,b,r,p⟩:=h.ok I.hok;show#[p.typeIs,z.2]
 ·show#[#[o,I.kIn a o hk,hc],o,I.kIn a o hk,hd]
def tyOk.is {Y:L2.St}{T:N9}(I:Inv X J Y H s)(l:StoreOk X.w X.K A H S)(r:Rel X.K A H x a)(f:RelV a v)(h:g6 T S x=true) :
  s.TypeIs v T/\∀b,v=.ref b->∃ob,s.heap.get? b=gV ob/\ob.dict=td:=by
 cases r with
 |str=>show yH I f (eq_of_beq h)
 |tup n w=>
  obtain⟨c,d⟩:=Gq I n;have e:=eq_of_beq h;subst e;obtain rfl:v=NK _:=f;show#[c,λb e=>by cases e;show d]
 |ref i=>
  (dsimp only[g6]at h;simp only[Oz,MB]at h)
  rcases h with⟨c,d⟩|⟨c,d⟩
  ·obtain⟨xs,g⟩:=NS.mp d;obtain⟨vs,m,_⟩:=br l g i;show yH I f (.inl #[eq_of_beq c,vs,m])
  ·obtain⟨U,g⟩:=NS.mp d;obtain⟨xs,p,_⟩:=fS l g i;obtain⟨_,_,_,o,es,q,j,k,t,u⟩:=cw I p;have e:=eq_of_beq c;subst e;obtain rfl:v=NK _:=f;show#[#[o,j,k.1],λb e=>by cases e;show#[o,j,k.2.1]]
 |_=>cases h
def nN {T id:N9}(G:PlainAttrs T)(slot:Slot T name id)(i:typeOf (.builtin id)=pure (.type "method_descriptor"))(y:jR X id g)
  (t:(T == "index")=false) (B:GE X o l) (u:GA X (e::es) f) (c:attributeBase o name X.env (eval o X.env)=eval o X.env)
  (h:((backTo cpos (starEach (e::es) X.env)).all (λx=>!x.1)&&(backToKw cpos (keywordEach [] X.env)).all (λx=>x.1.isSome)
   && decide ((e::es).length+([]:Mq Uz).length+(if ([]:Mq Uz).isEmpty then 0 else 1)<30))=true)
  (d:(apos.endLine==cpos.line)=true) (D:starEach (e::es) X.env=(false,eval e X.env)::starEach es X.env) (b:(backTo cpos (starEach es X.env)).any (·.1)=false) :
  GE X (.Call (.Attribute o name apos) (e::es) [] cpos) (BY T g l f):=by
 intro J s Y H Q I ⟨A,Z,S,w,p,k,N,e,C⟩;unfold BY at e;split at e
 ·rename_i x S1 q;split at e
  ·rename_i E;split at e
   ·rename_i ws j r;show wpAny_Call_method_late c h d rfl (bh (B _ s Y H _ I #[A,Z,S,_,_,k,N,q,λ_ _ z=>z]) λv L #[a,H1,I1,r1,A1,e1,o1,z1]=>?_)
    obtain⟨O,P⟩:=tyOk.is I1 o1 z1 r1 ((C7 t).symm.trans E);show#[T,id,G,slot,i,O,P,?_];have m:=u cpos _ L Y H1 _ I1 #[A1,Z,S1,ws,j,k.mono e1,o1,r,λ_ _ z=>z]
    rw[D]at m ⊢;show RV (by show(false||(backTo _ _).any _)=false;rw[b]<;>rfl) (Calls.evalArgs_plain ?_)
    show bh m λus M #[vs,H2,I2,r2,A2,e2,o2,z2]=>?_
    show bh (y _ M Y H2 A2 j x a v ws vs us w p I2 o2 (z1.mono e2) r1 z2 r2 e) λU R #[n,H',A',I',r',e3,o3,z3]=>?_
    show#[n,H',I',r',C n H' #[A',(e1.trans e2).trans e3,o3,z3]]
   ·cases e
  ·cases e
 ·cases e
def LIx.ixr (h:LIx X g):IxR X (rOp X g):=by
 intro d c J s Y H a b u v Q I l m ⟨A,S,x,y,w,i,p,n,o,e,j⟩ k;show bh (h _ _ _ s Y H A S x y a b u v w i I p n l o m e k) λr q #[f,H',A',I',r',e1,o1,z1]=>#[f,H',I',r',j f H' #[A',e1,o1,z1]]
def Jb (s:X.A.units+10<cLine)(o:GE X a c)(p:GE X b d)(r:oR b):GE X (.Subscript a b pos) (Lh c d):=
 GE.of (IK (Lf s).ixr o p r) λY H A Z S w h k C e Q q=>by
  obtain⟨x,S1,y,i,l,m,n⟩:=two e;show fU k C l m λa b D f j t u B=>#[f,i,x,y,w,h,t,u,B,n,λv g z=>q v g (z.after j)]
inductive tO (X:Cx)(f:FO)(Y:L2.St)(H:Hp)(Q:MA MM->Hp->Prop):Prop
 |mk (A:Mq MF) (Z:Fm) (S:aa) (k:MA MM) (S':aa) (er:EnvRel X.K A H Z Y) (so:StoreOk X.w X.K A H S) (e:f Z S=gV (k,S')) (q:∀H' A',Ext X.K A H A' H'->StoreOk X.w X.K A' H' S'->Q k H'):tO X f Y H Q
noncomputable abbrev GO (X:Cx)(e:MA M7)(f:FO):Prop:=PO X e (tO X f)
def C8:GO X td Gp:=λJ s Y H Q I #[A,Z,S,k,S',er,so,e,hq]=>by
 cases e;show Cn _ s Y H Q I (hq H A .refl so)
def C9 (h:GE X e f):GO X (gV e) (vn f):=λJ s Y H Q I #[A,Z,S,k,S',er,so,e,hq]=>by
 unfold vn at e;split at e
 ·rename_i i S1 c;cases e;show Co h _ s Y H Q I #[A,Z,S,_,_,er,so,c,λv b #[a,z1,z2,z3]=>?_]
  cases z3;show#[i,rfl,hq b a z1 z2]
 ·cases e
inductive rSl (X:Cx)(g:W->MA MM->MA MM->aa->MA (W×aa))(a:V)(lo hi:MA MM)(H:Hp)(Q:VK):Prop
 |mk (A:Mq MF) (S:aa) (x w:W) (S':aa) (so:StoreOk X.w X.K A H S) (rx:Rel X.K A H x a) (e:g x lo hi S=gV (w,S')) (q:∀v H',EndV X.w X.K A H S' w v H'->Q v H'):rSl X g a lo hi H Q
def LSl.slr (h:LSl X g):IJ X (rSl X g):=by
 intro J s Y H a v r t lo hi p Q I n k l m ⟨A,S,x,w,c,q,o,e,j⟩;obtain⟨T,id,d,f,i⟩:=h _ s Y H A S x a v r t lo hi p w c I q o n k l m e;show#[T,id,d,f,bh i λy u #[b,H',A',I',r',e1,o1,z1]=>#[b,H',I',r',j b H' #[A',e1,o1,z1]]]
def Jc {lo :MA M7}(y:GE X a g)(hl:GO X lo j)(z:GO X hi i):GE X (.Subscript a (.Slice lo hi td p2) pos) (Ja g j i):=
 GE.of (yF Mh.slr y hl z) λY H A Z S w r b C e Q B=>by
  unfold Ja at e;split at e
  ·rename_i x S1 s;split at e
   ·rename_i l d t;split at e
    ·rename_i h f u;show#[A,Z,S,x,S1,b,C,s,λv G #[m,z1,z2,z3]=>?_]
     show#[m,Z,S1,l,d,b.mono z1,z2,t,λI n c E=>?_]
     show#[n,Z,d,h,f,b.mono (z1.trans c),E,u,λJ o k D=>?_]
     show#[o,f,x,w,r,D,(z3.mono c).mono k,e,λv p q=>B v p (q.after ((z1.trans c).trans k))]
    ·cases e
   ·cases e
  ·cases e
noncomputable abbrev FF:=Mq W->aa->MA (W×aa)
inductive spF (wd:Nq)(K:MO)(n:Mz)(g:FF)(vs:Mq V)(H:Hp)(Q:VK)(E:XK):Prop
 |mk (A:Mq MF) (S:aa) (ws:Mq W) (w:W) (S':aa) (so:StoreOk wd K A H S) (rl:RelL K A H ws vs) (hl:↥ws=n) (e:g ws S=gV (w,S')) (q:∀v H',EndV wd K A H S' w v H'->Q v H'):spF wd K n g vs H Q E
abbrev qV (n:Mz)(g:FF)(f:FA):FE:=λZ S=>match f Z S with
 |some (ws,S1)=>if ↥ws=n then g ws S1 else td
 |none=>td
def qW (d:EnvRel X.K A H Z Y)(j:StoreOk X.w X.K A H S)(e:qV n g f Z S=gV (w,b))(Q:VK)(i:∀v a,EndV X.w X.K A H b w v a->Q v a) :
  yA (spF X.w X.K n g) [] E (tA X f) Y H Q:=by
 unfold qV at e;split at e
 ·rename_i ws S1 h;split at e
  ·rename_i hl;show#[A,Z,S,ws,S1,d,j,h,λvs k #[c,z1,z2,z3]=>?_]
   rw[Nr];show#[c,S1,ws,w,b,z2,z3,hl,e,λv a q=>i v a (q.after z1)]
  ·cases e
 ·cases e
def Gr (F:FnOk X.prog X.w X.K X.mg X.base ye k a d ps (spF X.w X.K n g))(r:Room k X.A)(m:Gl X x)(o:X.mg x=gV (.ref a))(hk:Ob X.K (.ref a)=true)
  (j:Binds X.K d ps []) (i:GA X (e::es) f) (b:(x==("__debug__"))=false) (l:starEach (e::es) X.env=(false,eval e X.env)::starEach es X.env) (c:(backTo pos (starEach es X.env)).any (·.1)=false) :
  GE X (.Call (.Name x p) (e::es) [] pos) (qV n g f):=
 GE.of (Ci F r m o hk j .nil EC i b l c) λY H A Z S w t h s e Q q=>qW h s e Q q
def Da (F:FnOk X.prog X.w X.K X.mg X.base ye k b d ps (spF X.w X.K n g))(z:Room k X.A)(u:Gl X x)(v:X.mg x=gV (.ref b))(hk:Ob X.K (.ref b)=true)
  (t:Binds X.K d ps []) (c:(x==("__debug__"))=false):GE X (.Call (.Name x p) [] [] pos) (qV n g ip):=
 GE.of (yC F z u v hk t .nil EC c) λY H A Z S w h s B e Q y=>by
  obtain⟨f,S1,ws,C,a,i,j,l,m,o⟩:=qW  (E:=E0) s B e Q y |> λ#[A,Z,S,ws,h,D,b2,q,r]=>r [] H (by cases q;show#[A,.refl,b2,.nil])
  show#[f,S1,ws,C,a,i,j,l,m,o]
def Db:GSs X [] (λZ S=>gV (.nx Z,S)):=GSs.of B6 λY H A Z S o c a b e D hd=>by cases e;show hd.nx _ _ #[Z,A,rfl,.refl,b,a]
abbrev Dc (f g:FS):FS:=λZ S=>match f Z S with
 |some (.nx a,S1)=>g a S1
 |some (.rt w,S1)=>gV (.rt w,S1)
 |some (.bk a,S1)=>gV (.bk a,S1)
 |some (.ct a,S1)=>gV (.ct a,S1)
 |none=>td
def zA {st:Pq}(h:GS X st f)(l:GSs X c g):GSs X (st::c) (Dc f g):=GSs.of (yp h l) λY H A Z S o k d i e D hd=>by
 unfold Dc at e;split at e
 ·rename_i n S1 a;show#[A,Z,S,_,_,d,i,a,#[λj b #[m,A',e1,e2,e3,e4]=>?_,λv b #[w,A',e1,_,_,_]=>(by cases e1),λv b #[w,A',e1,_,_,_]=>(by cases e1),λv b #[w,A',e1,_,_,_]=>(by cases e1)]]
  cases e1;show#[A',_,S1,o,k,e4,e3,e,(EndS.after e2).trans hd]
 ·rename_i w S1 a;cases e;show#[A,Z,S,_,_,d,i,a,#[λj b #[w,A',e1,_,_,_]=>(by cases e1),hd.rt,hd.bk,hd.ct]]
 ·rename_i w S1 a;cases e;show#[A,Z,S,_,_,d,i,a,#[λj b #[w,A',e1,_,_,_]=>(by cases e1),hd.rt,hd.bk,hd.ct]]
 ·rename_i w S1 a;cases e;show#[A,Z,S,_,_,d,i,a,#[λj b #[w,A',e1,_,_,_]=>(by cases e1),hd.rt,hd.bk,hd.ct]]
 ·cases e
abbrev De (f:FE):FS:=λZ S=>match f Z S with
 |some (_,S1)=>gV (.nx Z,S1)
 |none=>td
def Jd (h:GE X e f)(d:swapsWith e td pos.line X.env=pure false):GS X (.Expr e pos) (De f):=GS.of (B8 h d) λY H A Z S o j a g e D hd=>by
 unfold De at e;split at e
 ·rename_i w S1 c;cases e;show#[A,Z,S,w,_,a,g,c,λv i #[b,z1,z2,z3]=>hd.nx _ _ #[Z,b,rfl,z1,z2,a.mono z1]]
 ·cases e
abbrev zB:FS:=λZ S=>gV (.nx Z,S)
def Gs :GS X (.Expr (.Constant (.str x) j pos) a) zB:=GS.of Fx λY H A Z S o d b c e D hd=>by cases e;show hd.nx _ _ #[Z,A,rfl,.refl,c,b]
def Dg :GS X (.Pass pos) zB:=GS.of B7 λY H A Z S o c a b e D hd=>by cases e;show hd.nx _ _ #[Z,A,rfl,.refl,b,a]
def zC :GS X (.Break pos) (λZ S=>gV (.bk Z,S)):=GS.of yq λY H A Z S o c a b e D hd=>by cases e;show hd.bk _ _ #[Z,A,rfl,.refl,b,a]
def Dh :GS X (.Continue pos) (λZ S=>gV (.ct Z,S)):=GS.of qp λY H A Z S o c a b e D hd=>by cases e;show hd.ct _ _ #[Z,A,rfl,.refl,b,a]
abbrev Di (f:FE):FS:=λZ S=>match f Z S with
 |some (w,S1)=>gV (.rt w,S1)
 |none=>td
def Gu (h:GE X e f):GS X (.Return (gV e) pos) (Di f):=GS.of (Fy h) λY H A Z S o i b d e D hd=>by
 unfold Di at e;split at e
 ·rename_i w S1 c;cases e;show#[A,Z,S,w,_,b,d,c,λv g #[a,z1,z2,z3]=>hd.rt _ _ #[w,a,rfl,z1,z2,z3]]
 ·cases e
def Dj :GS X (.Return td pos) (λZ S=>gV (.rt .non,S)):=GS.of B9 λY H A Z S o b c a e D hd=>by cases e;show hd.rt _ _ #[_,A,rfl,.refl,a,.non]
abbrev Dk (c:FT)(f g:FS):FS:=λZ S=>match c Z S with
 |some (true,S1)=>f Z S1
 |some (false,S1)=>g Z S1
 |none=>td
def Je (hc:GT X c k)(n:GSs X a f)(p:GSs X b g):GS X (.If c a b pos) (Dk k f g):=GS.of (Iq hc n p) λY H A Z S o j d l e D hd=>by
 unfold Dk at e;split at e
 ·rename_i S1 h;show#[A,Z,S,_,S1,d,l,h,λb m #[i,A1,z1,z2]=>?_]
  subst i;show#[A1,Z,S1,o,j,d.mono z1,z2,e,(EndS.after z1).trans hd]
 ·rename_i S1 h;show#[A,Z,S,_,S1,d,l,h,λb m #[i,A1,z1,z2]=>?_]
  subst i;show#[A1,Z,S1,o,j,d.mono z1,z2,e,(EndS.after z1).trans hd]
 ·cases e
noncomputable abbrev FG:=W->Fm->aa->MA (Fm×aa)
inductive tG (X:Cx)(f:FG)(v:V)(Y:L2.St)(H:Hp)(Q:L2.St->Hp->Prop):Prop
 |mk (A:Mq MF) (Z:Fm) (S:aa) (w:W) (Z':Fm) (S':aa) (er:EnvRel X.K A H Z Y) (so:StoreOk X.w X.K A H S) (r:Rel X.K A H w v) (e:f w Z S=gV (Z',S')) (q:∀Y' H' A',Ext X.K A H A' H'->StoreOk X.w X.K A' H' S'->EnvRel X.K A' H' Z' Y'->Q Y' H'):tG X f v Y H Q
noncomputable abbrev GG (X:Cx)(tg:M7)(f:FG):Prop:=PG X tg (tG X f)
abbrev EF (i:Mz):FG:=λw Z S=>gV (Z.set i (gV w),S)
def vo (c:X.N.Nodup)(hi:X.N[i]?=gV x)(g:B3 X.env.scope x)(d:X.fn x=true\/X.env.scope.names.lookup x=gV .local):GG X (.Name x pos) (EF i):=by
 intro J s Y H v u Q I r ⟨A,Z,S,w,k,j,b,h,a,e,f⟩;cases e;show uO c hi g d _ s Y H v u Q I r (f _ _ A .refl h (b.set a i))
abbrev dZ:Mq Mz->Mq W->Fm->MA Fm
 |[],[],Z=>gV Z
 |i::is,w::ws,Z=>dZ is ws (Z.set i (gV w))
 |_,_,_=>td
abbrev HW (is:Mq Mz):FG:=λw Z S=>match w with
 |.tup ws=>(dZ is ws Z).map λa=>(a,S)
 |_=>td
def xw:∀{ts:Mq M7}{is:Mq Mz},(∀x∈ts,∃y p,x=.Name y p)->Q8 (λ t i=>∃x p,t=SM x p/\X.N[i]?=gV x/\B3 X.env.scope x/\(X.fn x=true\/X.env.scope.names.lookup x=gV .local)) ts is->X.N.Nodup->
  Ir X ts (λvs Y H Q=>∃A Z ws a S,EnvRel X.K A H Z Y/\StoreOk X.w X.K A H S/\RelL X.K A H ws vs/\dZ is ws Z=gV a/\∀g,EnvRel X.K A H a g->Q g H):=by
 intro ts
 induction ts with
 |nil=>
  intro is _ h c;cases h;intro J s Y H vs us Q I r ⟨A,Z,ws,a,S,b,j,f,e,d⟩;cases f with
  |nil=>cases e;show Cb J s Y H [] us Q I r #[rfl,d _ b]
  |cons _ _=>cases e
 |cons t ts ih=>
  intro is n h c;cases h with
  |cons k l=>
   obtain⟨x,p,rfl,hi,hl,m⟩:=k;have:=ih (λy o=>n y (NX _ o)) l c
   intro J s Y H vs us Q I r ⟨A,Z,ws,a,S,b,j,f,e,d⟩;cases f with
   |nil=>cases e
   |cons q u=>
    show yr (uO c hi hl m) this rfl J s Y H _ us Q I r #[_,_,rfl,?_];show#[A,_,_,a,S,b.set q _,j,u,e,d]
def Gv (hc:X.calm=true)(B:∀x∈ts,∃y p,x=.Name y p)(h:Q8 (λ t i=>∃x p,t=SM x p/\X.N[i]?=gV x/\B3 X.env.scope x/\(X.fn x=true\/X.env.scope.names.lookup x=gV .local)) ts is)(n:X.N.Nodup)
  (o:(assignEach ts X.env).length=↥ts) (b:(assignEach ts X.env).findIdx? (·.1)=td):GG X (.Tuple ts k pos) (HW is):=by
 intro J s Y H v u Q I r ⟨A,Z,S,w,a,C,l,g,c,e,q⟩;unfold HW at e;split at e
 ·rw[Mv]at e;obtain⟨E,d,j⟩:=e;cases j;cases c with
  |tup m f=>
   have hl:∀is ws Z a,dZ is ws Z=gV a->↥is=↥ws:=by
    intro is
    induction is with
    |nil=>intro ws Z a e;cases ws<;>first|rfl|cases e
    |cons i is ih=>intro ws Z a e;cases ws<;>first|cases e|(simp;show ih _ _ _ e)
   show FD hc (xw B h n) o b _ s Y H _ u Q I r #[_,_,rfl,m,by rw[<- ↥f,<- hl _ _ _ _ d,<- PN h],A,Z,_,_,_,l,g,f,d,λD z=>q _ _ A .refl g z]
 ·cases e
abbrev Dl (d c:FE):FG:=λw Z S=>match d Z S with
 |some (o,S1)=>match c Z S1 with
  |some (i,a)=>match ik o i w a with
   |some b=>gV (Z,b)
   |none=>td
  |none=>td
 |none=>td
inductive rSet (X:Cx)(g:W->W->W->aa->MA aa)(ao ai av:V)(H:Hp)(Q:Hp->Prop):Prop
 |mk (A:Mq MF) (S:aa) (o i w:W) (S':aa) (so:StoreOk X.w X.K A H S) (r1:Rel X.K A H o ao) (r2:Rel X.K A H i ai) (r3:Rel X.K A H w av) (e:g o i w S=gV S') (q:∀H' A',Ext X.K A H A' H'->StoreOk X.w X.K A' H' S'->Q H'):rSet X g ao ai av H Q
def LSet.pset (h:LSet X g):FC X (rSet X g):=by
 intro J s Y H d c f u t v Q I p n q ⟨A,S,o,i,w,b,r,k,l,m,e,j⟩;show bh (h _ s Y H A S o i w d c f u t v b I r k p l n m q e) λ_ x #[a,A',I',e1,o1]=>#[a,I',j a A' e1 o1]
def Gw (D:X.A.units+10<cLine)(B:GE X o h)(hi:GE X i g)(z:∀v,assign (.Subscript o i pos) X.env v=(do
   let ov <- holding [v] (eval o X.env)
   let iv <- holding [v,ov] (eval i X.env)
   standAt pos
   holding [v,ov,iv] (setItem ov iv v)
   release [v,ov,iv] [])):GG X (.Subscript o i pos) (Dl h g):=by
 intro J s Y H v u Q I r ⟨A,Z,S,w,P,N,c,E,d,e,C⟩;unfold Dl at e;split at e
 ·rename_i k S1 t;split at e
  ·rename_i j f x;split at e
   ·rename_i O y;cases e;show FH B hi (IU D).pset z _ s Y H v u Q I r ?_;show#[A,Z,S,k,S1,c,E,t,λa L #[n,e1,o1,r1]=>?_]
    show#[n,Z,S1,j,f,c.mono e1,o1,x,λb M #[p,e2,o2,r2]=>?_]
    show#[p,f,k,j,w,_,o2,r1.mono e2,r2,d.mono (e1.trans e2),y,λq m l G=>C Y q m ((e1.trans e2).trans l) G (c.mono ((e1.trans e2).trans l))]
   ·cases e
  ·cases e
 ·cases e
abbrev lC (f:FE)(g:FG):FS:=λZ S=>match f Z S with
 |some (w,S1)=>match g w Z S1 with
  |some (b,a)=>gV (.nx b,a)
  |none=>td
 |none=>td
def tf (h:GE X e f)(k:GG X tg g)(l:swapsWithSole [tg] e pos.line X.env=pure false)(hw:swappedStores [tg] e X.env=pure td)(a:(assignEach [tg] X.env).map (·.2)=[assign tg X.env]) :
  GS X (.Assign [tg] e pos) (lC f g):=GS.of (FJ h k l hw a) λY H A Z S o t c m e D hd=>by
 unfold lC at e;split at e
 ·rename_i w S1 a;split at e
  ·rename_i b u j;cases e;show#[A,Z,S,w,S1,c,m,a,λv s #[i,z1,z2,z3]=>?_]
   show#[i,Z,S1,w,b,_,c.mono z1,z2,z3,j,λx r d n p q=>hd.nx _ _ #[b,d,rfl,z1.trans n,p,q]]
  ·cases e
 ·cases e
abbrev Dm (i j:Mz)(f:FA):FS:=λZ S=>match f Z S with
 |some ([x,y],S1)=>gV (.nx ((Z.set i (gV x)).set j (gV y)),S1)
 |_=>td
def Gx (hc:X.calm=true)(q:X.N.Nodup)(hi:X.N[i]?=gV x)(s:X.N[j]?=gV y)(g:i≠j)
  (v:X.env.scope.names.lookup x=gV .local) (w:X.env.scope.names.lookup y=gV .local) (r:GA X [a,b] f)
  (hw:swappedStores [.Tuple [.Name x l,.Name y py] k pt] (.Tuple [a,b] h c) X.env=pure (gV [x,y]))
  (u:swapsWithSole [.Tuple [.Name x l,.Name y py] k pt] (.Tuple [a,b] h c) pos.line X.env=pure false) :
  GS X (.Assign [.Tuple [.Name x l,.Name y py] k pt] (.Tuple [a,b] h c) pos) (Dm i j f):=GS.of (FK hc q hi s g v w r hw u) λY H A Z S o G m C e D hd=>by
 unfold Dm at e;cases d:f Z S with
 |none=>rw[d]at e;show nomatch e
 |some p=>
  rw[d]at e;cases p with
  |mk ws S1=>
   cases ws with
   |nil=>show nomatch e
   |cons x ws=>
    cases ws with
    |nil=>show nomatch e
    |cons y ws=>
     cases ws with
     |cons _ _=>show nomatch e
     |nil=>
      cases e;show#[A,Z,S,_,_,m,C,d,λvs E #[n,z1,z2,z3]=>?_]
      cases z3 with
      |cons z t=>
       cases t with
       |cons B t=>
        cases t;show#[_,_,rfl,hd.nx _ _ #[_,n,rfl,z1,z2,((m.mono z1).set z i).set B j]]
abbrev mW (c:FT)(b:FS):Mz->FS
 |0,_,_=>td
 |n+1,Z,S=>match c Z S with
  |some (true,S1)=>match b Z S1 with
   |some (.nx d,a)=>mW c b n d a
   |some (.ct d,a)=>mW c b n d a
   |some (.bk d,a)=>gV (.nx d,a)
   |some (.rt w,a)=>gV (.rt w,a)
   |none=>td
  |some (false,S1)=>gV (.nx Z,S1)
  |none=>td
def zD (n:Mz)(N:SK (model X.prog X.w) X.A X.env X.xe)(hc:GT X c u)(M:GSs X body t):GS X (.While c body [] pos) (mW u t n):=GS.of (yt N hc M) λY H A Z S o P L O e D hd=>by
 show#[λm E s=>∃k i S1,Ext X.K A H k s/\EnvRel X.K k s i E/\StoreOk X.w X.K k s S1/\mW u t m i S1=gV _,#[n,A,Z,S,.refl,L,O,e],?_]
 rintro m E s ⟨k,i,S1,q,d,r,f⟩;cases m with
 |zero=>cases f
 |succ m=>
  dsimp only[mW]at f;split at f
  ·rename_i l B;show#[k,i,S1,_,l,d,r,B,λb I #[C,A2,z1,z2]=>?_]
   subst C;show#[λJ y=>∃x p g,Ext X.K A H x y/\EnvRel X.K x y p J/\StoreOk X.w X.K x y g/\mW u t m p g=gV _,λz a h=>#[m,ON _,h],?_]
   split at f
   ·rename_i p g j;show#[A2,i,l,_,g,d.mono z1,z2,j,#[λz a #[G,A',y0,y1,y2,y3]=>?_,λv a #[w,A',y0,_,_,_]=>(by cases y0),λv a #[w,A',y0,_,_,_]=>(by cases y0),λv a #[w,A',y0,_,_,_]=>(by cases y0)]]
    cases y0;show#[A',_,g,(q.trans z1).trans y1,y3,y2,f]
   ·rename_i p g j;show#[A2,i,l,_,g,d.mono z1,z2,j,#[λv a #[w,A',y0,_,_,_]=>(by cases y0),λv a #[w,A',y0,_,_,_]=>(by cases y0),λv a #[w,A',y0,_,_,_]=>(by cases y0),λz a #[G,A',y0,y1,y2,y3]=>?_]]
    cases y0;show#[A',_,g,(q.trans z1).trans y1,y3,y2,f]
   ·rename_i p g j;cases f;show#[A2,i,l,_,_,d.mono z1,z2,j,#[λv a #[w,A',y0,_,_,_]=>(by cases y0),λv a #[w,A',y0,_,_,_]=>(by cases y0),λz a #[G,A',y0,y1,y2,y3]=>?_,λv a #[w,A',y0,_,_,_]=>(by cases y0)]]
    cases y0;show hd.nx _ _ #[_,A',rfl,(q.trans z1).trans y1,y2,y3]
   ·rename_i w3 g j;cases f;show#[A2,i,l,_,_,d.mono z1,z2,j,#[λv a #[w,A',y0,_,_,_]=>(by cases y0),λv a #[w,A',y0,y1,y2,y3]=>?_,λv a #[w,A',y0,_,_,_]=>(by cases y0),λv a #[w,A',y0,_,_,_]=>(by cases y0)]]
    cases y0;show hd.rt _ _ #[_,A',rfl,(q.trans z1).trans y1,y2,y3]
   ·cases f
  ·rename_i l B;cases f;show#[k,i,S1,_,_,d,r,B,λb I #[C,A2,z1,z2]=>?_]
   subst C;show hd.nx _ _ #[_,A2,rfl,q.trans z1,z2,d.mono z1]
  ·cases f
end
def jr (f:Mz->β->Vn (ForInStep β))(I:Mz->β->My->Prop)(Q:β->My->Prop)
  (turn:∀i b s,i<m->I i b s->wpAny g A (f i b) (λr a=>match r with|.yield j=>I (i+1) j a|.done j=>Q j a) E s)
  (fin:∀b s,I m b s->Q b s) (b:β) (h:I 0 b s):wpAny g A (forIn [0:m] b f) Q E s:=by
 rw[Std.Legacy.Range.forIn_eq_forIn_range'];show RF _ (λcj b a=>∃i,i<=m/\cj=PB i (m-i)/\I i b a) _ ?_ ?_ _ _ #[0,Os _,by simp,h]
 ·rintro x cj b a ⟨i,hi,c,n⟩;have k:i<m:=by
   rcases RW i m with h|h
   ·show h
   ·rw[Nat.sub_eq_zero_of_le h]at c;simp at c
  obtain⟨rfl,d⟩:x=i/\cj=PB _ _:=by
   have e:m-i=(m-(i+1))+1:=∅
   rw[e,Ue]at c;injection c with h1 h2
   show#[h1,h2]
  show Op (turn x b a k n) (λr o l=>?_) λ_ _ e=>e
  cases r with
  |yield j=>show#[x+1,k,d,l]
  |done j=>show l
 ·rintro b a ⟨i,hi,c,n⟩;have:i=m:=by
   rcases RW i m with h|h
   ·have e:m-i=(m-(i+1))+1:=∅
    rw[e,Ue]at c;cases c
   ·omega
  show fin b a (this▸n)
open SeqAt in
def mX (l:MF)(items:NH Mu)(n:Mz)(p:MA MF)(v:NH (MA Mu))(x:Mu)(e:Mu->M9)(j:Mz)(z:j<⇑items)
  (f:e items[j]=true) (k:∀m (B:m<⇑items),m<j->e items[m]=false) :
  Meets (PV.«tuple.index» #[[.ref l,x],[]])
   (λA R s=>s.heap.get? l=gV {cls:=.type "tuple",dict:=p,data:=.seq items n,slots:=v}/\(∀y,y∈items->EqAt A.in1 s y x (e y))/\R (.ok (.ret (.int j s.toks))) {s with toks:=s.toks+1}):=
 .of_wp λprog w A R s h=>by
  obtain⟨u,g,d,tk,os⟩:=s;obtain⟨hl,t,h⟩:=h
  wp_walk using Ql hl,jr _ (λi b o=>b.1=td/\o=#[u,g,d,tk,os]/\i<=j) _
  case turn=>
   rintro i b o hi ⟨r,rfl,c⟩;have a:i<⇑items:=∅
   rw[P9 a];show Ms (t _ (Array.getElem_mem a) prog w _ _ ?_)
   by_cases q:i=j
   ·subst q;rw[f]
    wp_walk
    show#[_,rfl,h]
   ·rw[k i a ∅]
    wp_walk
    show#[rfl,rfl,∅]
  case fin=>
   rintro b o ⟨r,rfl,c⟩;rw[QC]at c;omega
  case h=>show#[rfl,rfl,Os _]
abbrev iq (w x:W)(S:aa):MA (W×aa):=match cp S w with
 |some ys=>if (aP x&&ys.all aP)&&decide (↥ys<=1000000)then(ys.findIdx? λz=>jQ z x).map λj=>(.int (j:Mz),S)else td
 |none=>td
abbrev tj (w:W)(xs:Mq W)(S:aa):MA (W×aa):=match xs with
 |[x]=>iq w x S
 |_=>td
section
variable{X:Cx}
def kG (b:Rel X.K A H x v)(a:aP x=true):∀{ws:Mq W}{vs:Mq V}{us:Mq Mu},RelL X.K A H ws vs->Vals vs us->ws.all aP=true->∀ j h (h':j<↥ws),BX v us[j]=jQ ws[j] x:=by
 intro ws
 induction ws with
 |nil=>intro vs us r q f j h h';show absurd h' (OI _)
 |cons w ws ih=>
  intro vs us r q f j h h';rw[NG,MB]at f;cases r with
  |cons r t=>
   cases q with
   |cons q p=>
    cases j with
    |zero=>show(sO q (fR r f.1)).trans (uW r b f.1 a)
    |succ j=>show ih t p f.2 j _ _
def jW (id:N9)(hid:(id="tuple.index")\/(id="list.index")):jR X id (λw xs S=>match w with|.tup _=>if id="tuple.index" then tj w xs S else td|.ref _=>if id="list.index" then tj w xs S else td|_=>td):=by
 intro J s Y H A S x a u xs vs us w O I so rx ru W rv P;have M:tj x xs S=gV (w,O)->∃b y v ys j,vs=[b]/\us=[v]/\xs=[y]/\Rel X.K A H y b/\RelV b v/\aP y=true/\ys.all aP=true/\↥ys<=1000000/\cp S x=gV ys/\(ys.findIdx? λz=>jQ z y)=gV j/\w=.int j/\O=S:=λe=>by
  clear P
  match xs,W,e with
  |[],_,e=>cases e
  |_::_::_,_,e=>cases e
  |[y],W,e=>
   replace e:iq x y S=gV (w,O):=e;unfold iq at e;split at e
   ·rename_i ys hy;split at e
    ·rename_i N;rw[Mv]at e;obtain⟨j,G,e⟩:=e;cases e;rw[MB,MB,M8]at N;cases W with
     |cons r t=>cases t;cases rv with
      |cons q p=>cases p;show#[_,y,_,ys,j,rfl,rfl,rfl,r,q,N.1.1,N.1.2,N.2,hy,G,rfl,rfl]
    ·cases e
   ·cases e
 have e:=P;clear P;cases rx with
 |tup T g=>
  dsimp only at e;split at e
  ·rename_i hi;subst hi;obtain⟨b,y,v,ys,j,rfl,rfl,rfl,C,V,l,k,Q,U,G,rfl,rfl⟩:=M e;cases U;cases ru;obtain⟨f,i,⟨⟨cls,dd,data,Z⟩,D,hc,n,hd⟩,L⟩:=I.tuple T;dsimp only at hc hd;subst hc hd;have hl:=i.length.symm.trans g.length.symm;obtain⟨c,o,B⟩:=Oc.mp G;show PD RA #[_,D,rfl] PySem.F.entry_tuple_index (PySem.F.args_tuple_index_2 _ _) (mX _ f.toArray n dd Z v (BX b) j (by rw[MV,hl];show c) ?_ λm R h=>?_) #[D,λz L=>dW V (fR C l) i (jk g k) z (by simpa using L),#[.int _,H,A,I.tok _,#[_,rfl],.refl,so,.int]]
   ·show(kG C l g i k j (by rw[hl];show c) c).trans o
   ·have d:m<↥f:=by simpa using R
    show(kG C l g i k m d (by rw[<- hl];show d)).trans (by simpa using B m h)
  ·cases e
 |ref ea=>
  dsimp only at e;split at e
  ·rename_i hi;subst hi;obtain⟨b,y,v,ys,j,rfl,rfl,rfl,C,V,l,k,Q,U,G,rfl,rfl⟩:=M e;obtain⟨ws',T,g⟩:=br so U ea;cases ru;obtain⟨f,i,p,L⟩:=I.list T;obtain⟨⟨cls,dd,data,Z⟩,n,D,hc,E,hd⟩:=p;dsimp only at hc hd E;subst hc hd E;have hl:=i.length.symm.trans g.length.symm;obtain⟨c,o,B⟩:=Oc.mp G;show PD RG #[_,D,rfl] PySem.F.entry_list_index (PySem.F.args_list_index_2 _ _) (SeqAt.list_indexAt _ f.toArray n td Z v (BX b) j (by rw[MV,hl];show c) ∅ ?_ λm R h=>?_) #[D,λz L=>dW V (fR C l) i (jk g k) z (by simpa using L),#[.int _,H,A,I.tok _,#[_,rfl],.refl,so,.int]]
   ·show(kG C l g i k j (by rw[hl];show c) c).trans o
   ·have d:m<↥f:=by simpa using R
    show(kG C l g i k m d (by rw[<- hl];show d)).trans (by simpa using B m h)
  ·cases e
 |_=>cases e
abbrev vp (w:W)(xs:Mq W)(S:aa):MA (W×aa):=match w with
 |.ref _=>tj w xs S
 |_=>td
abbrev vt (w:W)(xs:Mq W)(S:aa):MA (W×aa):=match w with
 |.tup _=>tj w xs S
 |_=>td
abbrev vw (w:W)(xs:Mq W)(S:aa):MA (W×aa):=match w with
 |.ref _=>tj w xs S
 |.tup _=>tj w xs S
 |_=>td
def pr:jR X "list.index" vp:=by
 intro J s Y H A S x a u xs vs us w b I h g d c f e;show jW _ (.inr rfl) _ s Y H A S x a u xs vs us w b I h g d c f ?_;cases x with
 |ref i=>show e
 |_=>cases e
def pA:jR X "tuple.index" vt:=by
 intro J s Y H A S x a u xs vs us w b I h g d c f e;show jW _ (.inl rfl) _ s Y H A S x a u xs vs us w b I h g d c f ?_;cases x with
 |tup i=>show e
 |_=>cases e
def Dn (h:BY "index" vw a f Z S=gV r):BY "list" vp a f Z S=gV r\/BY "tuple" vt a f Z S=gV r:=by
 unfold BY at h ⊢;cases b:a Z S with
 |none=>rw[b]at h;cases h
 |some p=>
  obtain⟨x,S1⟩:=p;rw[b]at h;dsimp only at h ⊢;split at h
  ·rename_i d;cases c:f Z S1 with
   |none=>rw[c]at h;cases h
   |some q=>
    obtain⟨ws,e⟩:=q;rw[c]at h;dsimp only at h ⊢;cases x with
    |ref i=>
     show .inl ?_;rw[M4 (by simpa [tyOk,g6]using d)]
     show h
    |tup ys=>show .inr h
    |_=>cases h
  ·cases h
end
inductive MI where
 |its (ws:Mq W)
 |live (r:Mz)
 |zl (r q:Mz)
 |el (r:Mz)
abbrev qX (xs ys:Mq W):Mq W:=MR (λx y=>.tup [x,y]) xs ys
abbrev ko (xs:Mq W):Mq W:=xs.zipIdx.map λp=>.tup [.int (p.2:Mz),p.1]
abbrev MI.at (S:aa)(i:Mz):MI->MA (MA W)
 |.its ws=>gV ws[i]?
 |.live r=>match eC S r with
  |some xs=>gV xs[i]?
  |none=>td
 |.zl r q=>match eC S r,eC S q with
  |some xs,gV ys=>gV (qX xs ys)[i]?
  |_,_=>td
 |.el r=>match eC S r with
  |some xs=>gV (ko xs)[i]?
  |none=>td
abbrev MI.len (S:aa):MI->MA Mz
 |.its ws=>gV ↥ws
 |.live r=>(eC S r).map (·.length)
 |.zl r q=>match eC S r,eC S q with
  |some xs,gV ys=>gV (qX xs ys).length
  |_,_=>td
 |.el r=>(eC S r).map λxs=>(ko xs).length
noncomputable abbrev FI:=Fm->aa->MA (MI×aa)
structure MIt (wd:Nq)(K:MO)(mi:MI)(tv:It)(A0:Mq MF)(H0:Hp):Prop where
 go:∀A H S i w,Ext K A0 H0 A H->StoreOk wd K A H S->mi.at S i=gV (gV w)->tv.go i H/\∀x H',tv.yld i H x H'->Ext K A H A H'/\StoreOk wd K A H' S/\Rel K A H' w x
 stop:∀A H S i,Ext K A0 H0 A H->StoreOk wd K A H S->mi.at S i=gV td->tv.stop i H
inductive tI (X:Cx)(f:FI)(Y:L2.St)(H:Hp)(R:It->Hp->Prop):Prop
 |mk (A:Mq MF) (Z:Fm) (S:aa) (mi:MI) (S':aa) (er:EnvRel X.K A H Z Y) (so:StoreOk X.w X.K A H S) (e:f Z S=gV (mi,S')) (q:∀tv H' A',Ext X.K A H A' H'->StoreOk X.w X.K A' H' S'->MIt X.w X.K mi tv A' H'->R tv H'):tI X f Y H R
noncomputable abbrev GI (X:Cx)(tg iter:M7)(f:FI):Prop:=PI X tg iter (tI X f)
abbrev Do (f:FE):FI:=λZ S=>match f Z S with
 |some (.tup ws,S1)=>gV (.its ws,S1)
 |some (.ref r,S1)=>match eC S1 r with
  |some _=>gV (.live r,S1)
  |none=>td
 |_=>td
abbrev eP (lo:MM)(n:Mz):Mq W:=(MJ n).map λ(k:Mz)=>.int (lo+(k:MM))
abbrev qY (f:FA):FI:=λZ S=>match f Z S with
 |some ([.int j],S1)=>if -(2^62)<=j/\j<2^62 then gV (.its (eP 0 j.toNat),S1)else td
 |_=>td
abbrev iRng2 (f:FA):FI:=λZ S=>match f Z S with
 |some ([.int i,.int j],S1)=>if -(2^62)<=i/\i<2^62/\-(2^62)<=j/\j<2^62 then gV (.its (eP i (j-i).toNat),S1)else td
 |_=>td
abbrev fX (mi:MI)(g:FG)(b:FS):Mz->Mz->FS
 |0,i,Z,S=>match mi.at S i with
  |some td=>gV (.nx Z,S)
  |_=>td
 |n+1,i,Z,S=>match mi.at S i with
  |some (gV w)=>match g w Z S with
   |some (d,S1)=>match b d S1 with
    |some (.nx c,a)=>fX mi g b n (i+1) c a
    |some (.ct c,a)=>fX mi g b n (i+1) c a
    |some (.bk c,a)=>gV (.nx c,a)
    |some (.rt w,a)=>gV (.rt w,a)
    |none=>td
   |none=>td
  |_=>td
abbrev zE (a:FI)(g:FG)(b:FS):FS:=λZ S=>match a Z S with
 |some (mi,S1)=>match mi.len S1 with
  |some n=>fX mi g b n 0 Z S1
  |none=>td
 |none=>td
section
variable{X:Cx}
def Dp (h:SqT X.K H a vs)(r:RelL X.K A H ws vs):MIt X.w X.K (.its ws) (HU X.K a) A H:=by
 show#[λd f S i w e c hi=>?_,λd f S i e c hi=>?_]
 ·simp only[MI.at,Np]at hi;obtain⟨v,b,g⟩:=(r.mono e).get hi;show#[#[vs,v,e.tp _ _ h,b],λx k #[j,z2]=>?_]
  subst j;have:=z2 vs (e.tp _ _ h);rw[b]at this;cases this
  show#[.refl,c,g]
 ·simp only[MI.at,Np]at hi;show#[vs,e.tp _ _ h,?_];rw[<- ↥r];show Oo.mp hi
def Dq (g:A[r]?=gV a):MIt X.w X.K (.live r) (KN X.K a) A H:=by
 show#[λj k S i w e c hi=>?_,λj k S i e c hi=>?_]
 ·simp only[MI.at]at hi;split at hi
  ·rename_i xs d;simp only[Np]at hi;obtain⟨vs,b,f⟩:=br c d (e.ad _ _ g);obtain⟨v,h,l⟩:=f.get hi;show#[#[vs,v,b,h],λx n #[m,z2]=>?_]
   subst m;have:=z2 vs b;rw[h]at this;cases this
   show#[.refl,c,l]
  ·cases hi
 ·simp only[MI.at]at hi;split at hi
  ·rename_i xs d;simp only[Np]at hi;obtain⟨vs,b,f⟩:=br c d (e.ad _ _ g);show#[vs,b,?_];rw[<- ↥f];show Oo.mp hi
  ·cases hi
def d0 {lo:MM}:(eP lo n)[i]?=if i<n then gV (.int (lo+i))else td:=by
 unfold eP;rw[MD]
 by_cases h:i<n
 ·rw[M4 h,NQ h];rfl
 ·rw[Nm h,Oo.mpr (by simp;omega)];rfl
def vx {lo:MM}:MIt X.w X.K (.its (eP lo n)) (Iw lo n) A H:=by
 show#[λb c S i w e a hi=>?_,λb c S i e a hi=>?_]
 ·simp only[MI.at,Np]at hi;rw[d0]at hi;split at hi
  ·cases hi;show#[by assumption,λx f #[d,z2]=>?_]
   subst d z2;show#[.refl,a,.int]
  ·cases hi
 ·simp only[MI.at,Np]at hi;rw[d0]at hi;split at hi
  ·cases hi
  ·change n<=i;omega
def qZ {Y:L2.St}(f:Inv X J Y d c)(j:RelV (.ref a) v)(h:SqL X.K d a xs)(q:R (KN X.K a) d) :
  wpAny (model X.prog X.w) X.A (pyIter v) (Km X J Y tg R) X.xe c:=by
 cases j;obtain⟨i,l,p,k⟩:=f.list h;show Pg p.isList ?_;show#[⇑c.heap.objs,[⇑c.heap.objs],_,_,d,rfl,f.kept  λb o e=>Mw _ e,wD a _,#[_,MT _ rfl,rfl,rfl],λb g=>?_,q]
 have e:b=⇑c.heap.objs:=by simpa using g
 subst e;show f.fpOk (MH _) (f.hok.fresh (MH _))
def tm {Y:L2.St}(f:Inv X J Y d c)(j:RelV (.ref a) v)(h:SqT X.K d a xs)(q:R (HU X.K a) d) :
  wpAny (model X.prog X.w) X.A (pyIter v) (Km X J Y tg R) X.xe c:=by
 cases j;obtain⟨i,l,p,k⟩:=f.tuple h;show Qr p ?_;show#[⇑c.heap.objs,[⇑c.heap.objs],_,_,d,rfl,f.kept  λb o e=>Mw _ e,sF a _,#[_,MT _ rfl,rfl,rfl],λb g=>?_,q]
 have e:b=⇑c.heap.objs:=by simpa using g
 subst e;show f.fpOk (MH _) (f.hok.fresh (MH _))
def ak {α:Type}{x:α}{P:Prop}(h:td=gV x):P:=nomatch h
def Dr (e:qY f Z S=gV y):∃ j S1,f Z S=gV ([.int j],S1)/\(-(2^62)<=j/\j<2^62)/\y=(.its (eP 0 j.toNat),S1):=by
 unfold qY at e;generalize f Z S=r at e;cases r with
 |none=>show ak e
 |some p=>
  cases p with
  |mk ws S1=>
   cases ws with
   |nil=>show ak e
   |cons w ws=>
    cases w with
    |int j=>
     cases ws with
     |nil=>
      by_cases a : -(2^62)<=j/\j<2^62
      ·show#[j,S1,rfl,a,NE (((M4 a).symm.trans e).symm)]
      ·show ak ((Nm a).symm.trans e)
     |cons _ _=>show ak e
    |_=>show ak e
def zF (e:iRng2 f Z S=gV y):∃ i j S1,f Z S=gV ([.int i,.int j],S1)/\(-(2^62)<=i/\i<2^62/\-(2^62)<=j/\j<2^62)/\y=(.its (eP i (j-i).toNat),S1):=by
 unfold iRng2 at e;generalize f Z S=r at e;cases r with
 |none=>show ak e
 |some p=>
  cases p with
  |mk ws S1=>
   cases ws with
   |nil=>show ak e
   |cons w ws=>
    cases w with
    |int i=>
     cases ws with
     |nil=>show ak e
     |cons w ws=>
      cases w with
      |int j=>
       cases ws with
       |nil=>
        by_cases a : -(2^62)<=i/\i<2^62/\-(2^62)<=j/\j<2^62
        ·show#[i,j,S1,rfl,a,NE (((M4 a).symm.trans e).symm)]
        ·show ak ((Nm a).symm.trans e)
       |cons _ _=>show ak e
      |_=>show ak e
    |_=>show ak e
def Ds (i:Gl X "range")(k:X.mg "range" = td)(h:GA X [a] f)(m:starEach [a] X.env=[(false,eval a X.env)]):GI X tg (.Call (.Name "range" p) [a] [] pos) (qY f):=by
 intro J s Y H R I ⟨A,Z,S,mi,r,d,o,e,l⟩;obtain⟨j,S1,g,b,e⟩:=Dr e;cases e;show wF i k h m _ s Y H R I #[A,Z,S,_,_,d,o,g,λvs q #[c,z1,z2,z3]=>?_]
 cases z3 with
 |cons n t=>
  cases t;cases n;show#[j,rfl,b.1,b.2,l _ _ c z1 z2 vx]
def Dt (l:Gl X "range")(n:X.mg "range" = td)(k:GA X [a,b] f)(q:starEach [a,b] X.env=[(false,eval a X.env),(false,eval b X.env)])(c:starEach [b] X.env=[(false,eval b X.env)]):GI X tg (.Call (.Name "range" p) [a,b] [] pos) (iRng2 f):=by
 intro J s Y H R I ⟨A,Z,S,mi,x,g,v,e,o⟩;obtain⟨i,j,S1,h,m,e⟩:=zF e;cases e;show wH l n k q c _ s Y H R I #[A,Z,S,_,_,g,v,h,λvs w #[d,z1,z2,z3]=>?_]
 cases z3 with
 |cons r t=>
  cases t with
  |cons u t=>
   cases t;cases r;cases u;show#[i,j,rfl,m,o _ _ d z1 z2 vx]
def Gy (h:GE X l f):GI X tg l (Do f):=by
 intro J s Y H R I ⟨A,Z,S,mi,n,d,i,e,g⟩;unfold Do at e;split at e
 ·rename_i ws S1 b;cases e;show bh (h _ s Y H _ I #[A,Z,S,_,_,d,i,b,λ_ _ z=>z]) λv m #[x,H1,I1,r1,A1,e1,o1,z1]=>?_
  cases z1 with
  |tup a k=>
   show tm I1 r1 a (g _ _ A1 e1 o1 (Dp a k))
 ·rename_i r S1 b;split at e
  ·rename_i ys j;cases e;show bh (h _ s Y H _ I #[A,Z,S,_,_,d,i,b,λ_ _ z=>z]) λv m #[x,H1,I1,r1,A1,e1,o1,z1]=>?_
   cases z1 with
   |ref c=>
    obtain⟨vs,hl,_⟩:=br o1 j c;show qZ I1 r1 hl (g _ _ A1 e1 o1 (Dq c))
  ·cases e
 ·cases e
def Gz (hp:SK (model X.prog X.w) X.A X.env X.xe)(hc:X.calm=true)(hi:GI X tg iter R)(hg:GG X tg g)(hb:GSs X body z)
  (L:∀x,foldedSetIterable iter X.env x=pure x):GS X (.For tg iter body [] pos) (zE R g z):=GS.of (FM hp hc hi hg hb L) λY H A Z S o S' Q so e D hd=>by
 unfold zE at e;split at e
 ·rename_i mi S1 V;split at e
  ·rename_i n hn;show#[A,Z,S,mi,S1,Q,so,V,λtv M G E z2 s=>?_]
   show#[λi m N l=>∃b u q,Ext X.K G M b l/\EnvRel X.K b l u N/\StoreOk X.w X.K b l q/\fX mi g z m i u q=gV _,#[n,G,Z,S1,.refl,Q.mono E,z2,e],?_]
   rintro i m N l ⟨b,u,q,y,r,k,w2⟩;cases m with
   |zero=>
    dsimp only[fX]at w2;split at w2
    ·rename_i L;cases w2;show .inl #[s.stop b l _ i y k L,hd.nx _ _ #[_,b,rfl,E.trans y,k,r]]
    ·cases w2
   |succ m=>
    dsimp only[fX]at w2;split at w2
    ·rename_i w hw;obtain⟨go,yl⟩:=s.go b l q i w y k hw;show .inr #[go,λU p=>∃I d c,Ext X.K G M I p/\EnvRel X.K I p d U/\StoreOk X.w X.K I p c/\fX mi g z m _ d c=gV _,λJ a h=>#[m,ON _,h],λx p hy=>?_]
     obtain⟨T,x2,x3⟩:=yl x p hy;split at w2
     ·rename_i d c W;show#[b,u,q,w,d,c,r.mono T,x2,x3,W,λY4 H4 t y1 B C=>?_]
      have ex:=(y.trans T).trans y1;split at w2
      ·rename_i P f j;show#[t,d,c,_,f,C,B,j,#[λJ a #[O,A',u0,u1,u2,u3]=>?_,λv a #[w,A',y0,_,_,_]=>(by cases y0),λv a #[w,A',y0,_,_,_]=>(by cases y0),λv a #[w,A',y0,_,_,_]=>(by cases y0)]]
       cases u0;show#[A',_,f,ex.trans u1,u3,u2,w2]
      ·rename_i P f j;show#[t,d,c,_,f,C,B,j,#[λv a #[w,A',y0,_,_,_]=>(by cases y0),λv a #[w,A',y0,_,_,_]=>(by cases y0),λv a #[w,A',y0,_,_,_]=>(by cases y0),λJ a #[O,A',u0,u1,u2,u3]=>?_]]
       cases u0;show#[A',_,f,ex.trans u1,u3,u2,w2]
      ·rename_i P f j;cases w2;show#[t,d,c,_,_,C,B,j,#[λv a #[w,A',y0,_,_,_]=>(by cases y0),λv a #[w,A',y0,_,_,_]=>(by cases y0),λJ a #[O,A',u0,u1,u2,u3]=>?_,λv a #[w,A',y0,_,_,_]=>(by cases y0)]]
       cases u0;show hd.nx _ _ #[_,A',rfl,(E.trans ex).trans u1,u2,u3]
      ·rename_i w5 f j;cases w2;show#[t,d,c,_,_,C,B,j,#[λv a #[w,A',y0,_,_,_]=>(by cases y0),λv a #[w,A',u0,u1,u2,u3]=>?_,λv a #[w,A',y0,_,_,_]=>(by cases y0),λv a #[w,A',y0,_,_,_]=>(by cases y0)]]
       cases u0;show hd.rt _ _ #[_,A',rfl,(E.trans ex).trans u1,u2,u3]
      ·cases w2
     ·cases w2
    ·cases w2
  ·cases e
 ·cases e
end
section
variable{prog:Nc}{w:Nq}{B:Nn}{E:Mu->My->Prop}{s:My}
def Du (hd:(d==sysModules)=false)(e:RawD d es f s.heap)(c:(⇑es:MM)<2^63)
  (h:Q (.int ⇑es (s.toks+1)) {s with toks:=s.toks+1+1}):wpAny (model prog w) B (call (.builtin "len") [.ref d]) Q E s:=by
 have b:=e.type;obtain⟨o,g,hc,a⟩:=id e;show Ro kind_len plain_len entry_len (args_len1 _) ?_;show Ms  (ME ?_);show Ms  (NN  b F.slot_dict_len (N2 F.slot_dict_len b F.entry_dict_len ?_ (F.args_dict_len_1 _)));change wpAny _ _ (dictSize d >>= _) _ _ s;show Ms (Ms (QD g a (ME ?_)));show Ms (wpAny_pendingCount_other hd ?_);show wpAny_ret_mkInt ?_;show Ms (N1 (ME ?_));show Ms (P0 ?_);change wpAny _ _ (if (⇑es:MM)>=2^63 then _ else _) _ _ _
 rw[Nm ∅]
 show Ms (Ul (ME #[_,rfl,h]))
end
section
variable{X:Cx}{J:Mq (MF×Of)}{Y:L2.St}{H:Hp}{s:My}{A:Mq MF}{S:aa}
def tq:LCall X (.builtin "len") qQ:=by
 intro J s Y H A S xs vs us w g I b c f e
 by_cases hd:∃i U,xs=[.ref i]/\gZ S i=gV U
 ·obtain⟨i,U,rfl,hk⟩:=hd
  (dsimp only[qQ]at e;simp only[hk]at e)
  cases e;cases c with
  |cons r t=>
   cases t;cases f with
   |cons m a=>
    cases a;cases r with
    |ref h=>
     obtain⟨xs,l,k⟩:=fS b hk h;have d:=cw I l;obtain⟨es,n,raw,j⟩:=d.raw;obtain rfl:_=NK _:=m;have hl:⇑es=↥xs:=by rw[<- Nv,j,Mr]
     have p:=d.1;have o:=NT;show Du d.2.1 raw ∅ #[.int _,H,A,I.tok _,#[_,by rw[↥k,hl]],.refl,b,.int]
 ·have:qQ xs S=lg xs S:=by
   unfold qQ;split
   ·rename_i i;split
    ·rename_i U hk;show absurd #[i,U,rfl,hk] hd
    ·rfl
   ·rfl
  rw[this]at e;show xf _ s Y H A S xs vs us w g I b c f e
abbrev LU (S:aa):W->MA N9
 |.non=>gV "NoneType"|.bl _=>gV "bool"|.int _=>gV "int"|.str _=>gV "str"|.tup _=>gV "tuple"
 |.ref i=>match eC S i with
  |some _=>gV "list"
  |none=>(gZ S i).map λ_=>"dict"
abbrev vy:Mq N9:=["bool","int","str","tuple","list","dict"]
abbrev GB (S:aa)(x:W)(c:N9):MA M9:=match LU S x with
 |some t=>if vy.contains c then gV (t==c||(t == "bool" && c == "int"))else td
 |none=>td
def iu {K:MO}(a:t∈["NoneType","bool","int","str","tuple","list","dict"])(hc:c∈vy):PySem.W.kitOne K (.type t) (.type c)=gV (t==c||(t == "bool" && c == "int")):=by
 simp only[vy,M5,Nx,Ow]at a hc;rcases a with rfl|rfl|rfl|rfl|rfl|rfl|rfl<;>rcases hc with rfl|rfl|rfl|rfl|rfl|rfl<;>rfl
def zG:CallR X (.builtin "isinstance") (λvs H Q=>∃A S x v c b,vs=[v,.ty c]/\StoreOk X.w X.K A H S/\Rel X.K A H x v/\GB S x c=gV b/\Q (.bl b) H):=by
 intro J s Y H vs us Q I k ⟨A,S,x,v,c,b,u,r,E,e,w⟩;subst u;cases k with
 |cons f l=>cases l with
  |cons C m=>
   cases m;obtain rfl:_=Pk c:=C;unfold GB at e;split at e
   ·rename_i t d;split at e
    ·rename_i hc;cases e;have a:c∈vy:=by simpa using hc
     have fin:∀tk,EP X _ Y Q _ {s with toks:=tk}:=λtk=>#[.bl _,H,I.tok _,rfl,w]
     cases E with
     |non=>cases d;cases f;show Pd PySem.W.kitx_none I.kIn Pn (iu (by trivial) a) (λz=>nomatch z) fin
     |bl=>cases d;cases f;show Pd PySem.W.kitx_bool I.kIn Pn (iu (by trivial) a) (λz=>nomatch z) fin
     |int=>cases d;obtain⟨t',q⟩:=f;cases q;show Pd PySem.W.kitx_int I.kIn Pn (iu (by trivial) a) (λz=>nomatch z) fin
     |str=>cases d;obtain⟨t',q⟩:=f;cases q;show Pd PySem.W.kitx_str I.kIn Pn (iu (by trivial) a) (λz=>nomatch z) fin
     |tup i B=>
      cases d;obtain⟨j,k,⟨o,g,h,_⟩,y⟩:=I.tuple i;cases f;show Pd PySem.W.kitx_tuple I.kIn #[o,g,h] (iu (by trivial) a) (λz=>nomatch z) fin
     |ref n=>
      cases f;dsimp only[LU]at d;split at d
      ·rename_i ws hw;cases d;obtain⟨vs,i,_⟩:=br r hw n;obtain⟨j,k,p,y⟩:=I.list i;obtain⟨o,g,h,_⟩:=p.isList;show Pd PySem.W.kitx_list I.kIn #[o,g,h] (iu (by trivial) a) (λz=>nomatch z) fin
      ·rw[Mv]at d;obtain⟨U,hk,rfl⟩:=d;obtain⟨xs,D,M⟩:=fS r hk n;obtain⟨es,G,⟨o,g,h,_⟩,L⟩:=(cw I D).raw;show Pd PySem.W.kitx_dict I.kIn #[o,g,h.1] (iu (by trivial) a) (λz=>nomatch z) fin
    ·cases e
   ·cases e
abbrev zH (c:N9)(f:FE):FE:=λZ S=>match f Z S with
 |some (x,S1)=>(GB S1 x c).map λb=>(.bl b,S1)
 |none=>td
def GC (s:Gl X "isinstance")(t:X.mg "isinstance" = td)(d:Gl X cn)(g:X.mg cn=td)(i:bootBuiltins cn=gV (.type c))(h:cn≠"__name__")(a:(cn==("__debug__"))=false)
  (r:GE X e f) (k:starEach [e,.Name cn p2] X.env=(false,eval e X.env)::starEach [.Name cn p2] X.env):GE X (.Call (.Name "isinstance" p) [e,.Name cn p2] [] pos) (zH c f):=
 GE.of (qw zG s t rfl (oN r (oN (B4 (v:=.ty c) d g i rfl h a) yy) k) #v[] #v[] k rfl) λY H A Z S w z o x e Q u=>by
  unfold zH at e;split at e
  ·rename_i l S1 q;rw[Mv]at e;obtain⟨b,m,n⟩:=e;cases n;show#[A,Z,S,l,_,o,x,q,λv y #[j,z1,z2,z3]=>#[j,_,l,v,c,b,rfl,z2,z3,m,u _ _ #[j,z1,z2,.bl]]]
  ·cases e
end
abbrev d3:Mq (T×W)->Mq W->MA (Mq (T×W))
 |U,[]=>gV U
 |U,k::v::ws=>match gR k with
  |some t=>d3 (dY U t v) ws
  |none=>td
 |_,[_]=>td
abbrev EG:FE:=λ_ S=>gV (.ref ↥S,S++[.dic []])
abbrev rc (f:FA):FE:=λZ S=>match f Z (S++[.dic []])with
 |some (ws,S1)=>match S1[↥S]? with
  |some (.dic [])=>match d3 [] ws with
   |some U=>gV (.ref ↥S,S1.set ↥S (.dic U))
   |none=>td
  |_=>td
 |none=>td
section
variable (K:MO) (A:Mq MF) (H:Hp)
inductive RelP:Mq W->Mq (V×V)->Prop
 |nil:RelP [] []
 |cons {k v:W}{a b:V}{ws:Mq W}{ps:Mq (V×V)}:Rel K A H k a->Rel K A H v b->RelP ws ps->RelP (k::v::ws) ((a,b)::ps)
end
def RelP.mono {K:MO}(e:Ext K A H d f)(h:RelP K A H ws ps):RelP K d f ws ps:=by
 induction h with
 |nil=>show .nil
 |cons a b c ih=>show .cons (a.mono e) (b.mono e) ih
section
variable{X:Cx}{J:Mq (MF×Of)}{Y:L2.St}{H:Hp}{s:My}{A:Mq MF}{S:aa}
abbrev Li (X:Cx)(A:Mq MF)(H:Hp)(c:aa)(ws:Mq W):Mq (V×V)->Hp->Prop:=λps b=>∃a,Ext X.K A H a b/\StoreOk X.w X.K a b c/\RelP X.K a b ws ps
abbrev Jf (X:Cx)(pos:OX)(keys:Mq (MA M7))(a:Mq M7)(f:FA):Prop:=
 ∀(J:Mq (MF×Of)) (s:My) (Y:L2.St) (H:Hp) (A:Mq MF) (Z:Fm) (S:aa) (ws:Mq W) (S':aa),Inv X J Y H s->EnvRel X.K A H Z Y->StoreOk X.w X.K A H S->f Z S=gV (ws,S')->
  wpAny (model X.prog X.w) X.A (evalPairs (pairTrees keys a X.env pos)) (λvs c=>∃ps b,Inv X J Y b c/\VV ps vs/\Li X A H S' ws ps b) X.xe s
def Dv :Jf X pos [] [] ip:=λJ s Y H A Z S ws b I c a e=>by
 cases e;show pairTrees_nil_walk #[[],H,I,.nil,A,.refl,a,.nil]
def zI (hk:GE X k c)(m:GE X v d)(l:Jf X pos ks vs f):Jf X pos (gV k::ks) (v::vs) (cU c (cU d f)):=λJ s Y H A Z S ws t I b p e=>by
 unfold cU at e;split at e
 ·rename_i D S1 h;split at e
  ·rename_i w2 w a;cases e;split at a
   ·rename_i w3 g i;split at a
    ·rename_i E y j;cases a;show pairTrees_cons_walk (bh (hk _ s Y H _ I #[A,Z,S,_,_,b,p,h,λ_ _ z=>z]) λu n #[x,H1,I1,r1,A1,e1,o1,z1]=>
      bh (m _ n Y H1 _ I1 #[A1,Z,S1,_,_,b.mono e1,o1,i,λ_ _ z=>z]) λC o #[r,H2,I2,r2,A2,e2,o2,z2]=>
      bh (l _ o Y H2 A2 Z g _ _ I2 (b.mono (e1.trans e2)) o2 j) λq B #[ps,H3,I3,rel,A3,e3,o3,z3]=>?_)
     show#[(x,r)::ps,H3,I3,.cons #[r1,r2] rel,A3,e1.trans (e2.trans e3),o3,.cons (z1.mono (e2.trans e3)) (z2.mono e3) z3]
    ·cases a
   ·cases a
  ·cases e
 ·cases e
def nO (hu:X.A.units+10<cLine):∀ vs ps ws U U' s H S Q,
  Inv X J Y H s->StoreOk X.w X.K A H S->o9 S r=gV U->A[r]?=gV d->RelP X.K A H ws ps->VV ps vs->d3 U ws=gV U'->↥U+↥vs<=30->
  (∀p c,Inv X J Y c p->Ext X.K A H A c->StoreOk X.w X.K A c (S.set r (.dic U'))->Q Tn p)->
  wpAny (model X.prog X.w) X.A (forIn vs Tn λ x (_)=>(do dictSet d x.1 x.2;pure (OA Tn))) Q E s
 |[],_,_,U,U',s,H,S,Q,I,u,i,o,B,M,e,hl,g=>by
  cases M;cases B;cases e;show ME (g s H I .refl ?_);have O:=iQ i;have:S.set r (.dic U)=S:=by
   apply TW;intro j;rw[OG];split
   ·rename_i e;subst e
    split
    ·show O.symm
    ·rename_i h;show absurd (MP.mp O).1 h
   ·rfl
  rw[this];show u
 |(ku,L)::vs,_,_,U,U',s,H,S,Q,I,u,i,o,B,M,e,hl,g=>by
  cases M with
  |cons R N=>
   cases B with
   |@cons wk b va vb ws2 ps2 rk D C=>
    dsimp only[d3]at e;split at e
    ·rename_i t P;rw[Qn];obtain⟨xs,w,Z⟩:=u5 u i o;have a:=cw I (.inl w);have dd:=a.dict I Z;obtain⟨bk,e1,e2,l⟩:=iP P rk R.1;subst e2;obtain⟨q1,q2,q3⟩:=dO P;rw[Nh]at hl;have hz:=a.1;show Ms (Ms (wpAny_dictSet_heap  (show X.A.units+bq<cLine by unfold bq;omega) (jn I l q3) dd λh' f hs=>ME ?_))
     have k:=Z.put q2 q3 l D R.2;have z:(storedH xs t bk L).length<=sizeLine:=by
      rw[<- ↥k];have h2:=eF U t b;rw[NT];omega
     have dn:DicAt X.w d (storedH xs t bk L) h':=.of z a.2.1 f;obtain⟨G,ex⟩:=u.writeO (iQ i) rfl o  (n:=.dic (dY U t b)) #[_,aI,k.mono (cv (.ext w))];have I':Inv X J Y (bK H d (kn X.w d (storedH xs t bk L))) {s with heap:=h',toks:=s.toks+(du X.prog X.w).draws t}:=iK I (by rw[w];show Pn) hs (let ⟨q,_,_,g,_⟩:=f;#[q,g]) dn.ok
     have y:(S.set r (.dic (dY U t b)))[r]?=gV (.dic (dY U t b)):=by
      rw[OG,M4 rfl,M4 (MP.mp (iQ i)).1]
     show nO hu vs _ _ (dY U t b) U' _ _ _ Q I' G (by unfold o9;rw[y]) o (C.mono ex) N e (by have:=eF U t b;omega) λp c I2 v m=>?_
     rw[List.set_set]at m;show g p c I2 (ex.trans v) m
    ·cases e
def Dw :GE X (.Dict [] [] pos) EG:=λJ s Y H Q I #[A,Z,S,w,S',er,so,e,hq]=>by
 cases e;have a:=I.hok.fresh (MH _);have b:DicAt X.w _ [] (s.heap.push {cls:=.type _,data:=.dict #[]}):=#[Os _,Pr.mpr (Ne.symm (M3 I.big)),Sz,_,#[],0,MT _ rfl,#[rfl,rfl,rfl],rfl,rfl];show wpAny_Dict_empty #[.ref _,_,I.laid    (λ_ _ q=>Mw _ q) (MH _) b.ok,rfl,hq _ _ #[A++[⇑s.heap.objs],bY a,so.pushO a #[[],aI,.nil],.ref ?_]]
 rw[<- so.len];simp
def Dx (R:X.A.units+10<cLine)(h:Jf X pos keys a f)(b:keys.all (·.isSome)=true)(hl:↥keys=↥a)(G:keys≠[])(M:↥keys<=15):GE X (.Dict keys a pos) (rc f):=by
 intro J s Y H Q I ⟨A,Z,S,w,S',E,u,e,P⟩;unfold rc at e;split at e
 ·rename_i ws S1 L;split at e
  ·rename_i k;split at e
   ·rename_i U O;cases e;have t:=I.hok.fresh (MH _);have D:DicAt X.w _ [] (s.heap.push {cls:=.type _,data:=.dict #[]}):=#[Os _,Pr.mpr (Ne.symm (M3 I.big)),Sz,_,#[],0,MT _ rfl,#[rfl,rfl,rfl],rfl,rfl];have z:=I.laid    (t':=s.toks) (λ_ _ q=>Mw _ q) (MH _) D.ok
    have d:Ext X.K A H _ (bK H _ (kn X.w ⇑s.heap.objs [])):=bY t;have m:StoreOk X.w X.K _ _ (S++[.dic []]):=u.pushO t #[[],aI,.nil];have c:=pairTrees_length _ _ X.env pos b hl;have l:pairTrees _ _ _ pos≠[]:=λN=>by
     rw[N]at c;show G (Px.mp c.symm)
    rw[arm_eval_Dict,zip_pairTrees _ _ _ pos b hl,dictDisplay_pairs _ l ∅]
    show Ms (QR (Ms ?_));show Ms (Vx ?_);show Ms (N1 ?_);rw[M4 ∅]
    show Ms (Op (wpAny_evalPairs_len (h _ _ Y _ _ Z _ _ _ z (E.mono d) m L)) (λvs v i=>?_) λ_ _ e=>e)
    obtain⟨T,ps,y,B,W,p,g,n,V⟩:=i;show N1 ?_;have r:p[↥S]?=gV ⇑s.heap.objs:=g.ad _ _ (by rw[<- u.len];simp)
    show Ms (nO R vs ps ws [] U _ y S1 _ B n (by unfold o9;rw[k]) r V W O (by rw[Oy];omega) λs' x C j o=>?_)
    show ME (ME (ME #[.ref ⇑s.heap.objs,x,C,rfl,P _ _ #[p,d.trans (g.trans j),o,.ref r]]))
   ·cases e
  ·cases e
 ·cases e
end
abbrev LV (wd:Nq)(a:MF)(o:Of)(xs:Mq (T×MF×Mu)):It:=
 #[λi H=>H a=gV (.frz o (kn wd a xs))/\i<↥xs,λi H x b=>b=H/\∃q,xs[i]?=gV q/\x=.ref q.2.1,λi H=>H a=gV (.frz o (kn wd a xs))/\↥xs<=i]
def xx {K:MO}(a it:MF)(C:o.ExactDict)(hd:o.data=.dict es B)(x:es.toList=xs.map (yN w)) :
  Turn P w K tg (LV w a o xs) [it] it (λi h=>h.IsKeyIter it a i ⇑es B) where
 mem:=by simp
 obj:=λi h st b f=>by
  have e:b=it:=by simpa using f
  subst e;obtain⟨o,e,c,d⟩:=st;show#[o,e,λv z=>by rw[d]at z;cases z]
 keep:=λi h h' st k=>st.at λo e=>k it (by simp) o e
 item:=by
  intro X u hw hK hc i J s Y H E I l st y;subst u hw hK;obtain⟨t,hi⟩:=y;have A:=(I.hok a _ t).1;have hl:⇑es=↥xs:=by rw[<- Nv,x,Mr]
  have g:i<⇑es:=∅
  obtain⟨m,n,L,p,q,r⟩:=l it (by simp)
  have hk:es[i].key=.ref (xs[i]).2.1:=by
   have:es.toList[i]?=gV (yN X.w xs[i]):=by rw[x,MD,MC hi];rfl
   rw[NY,P9 g]at this;have:=NE this;rw[this];rfl
  show qK st #[o,A,C,hd] g λh' j M=>?_
  have D:Inv X _ Y H {s with heap:=h'}:=I.turned  (λb o f e=>(M.2 b f).trans e) m n p q r
  obtain⟨N,e,c,d⟩:=id j;show#[_,rfl,uP  e c d #v[] #[.ref _,H,D,hk,#[rfl,xs[i],MC hi,rfl],j,λb f=>(l b f).1]]
 done:=by
  intro X u hw hK hc i J s Y H E I l st y;subst u hw hK;obtain⟨t,hi⟩:=y;have A:=(I.hok a _ t).1;have hl:⇑es=↥xs:=by rw[<- Nv,x,Mr]
  obtain⟨m,n,L,p,q,r⟩:=l it (by simp)
  show u8 (I.ok.hd hc) st #[o,A,C,hd] ∅ λh' G=>#[rfl,I.turned  (λb o f e=>G b o f e) m n p q r]
 self:=λ_ _ _ _ _ st h=>Sw st h
abbrev eI (f:FE):FI:=λZ S=>match f Z S with
 |some (.tup ws,S1)=>gV (.its ws,S1)
 |some (.ref r,S1)=>match eC S1 r with
  |some _=>gV (.live r,S1)
  |none=>match gZ S1 r with
   |some U=>gV (.its (U.map λp=>p.1.w),S1.set r (.frd U))
   |none=>td
 |_=>td
section
variable{X:Cx}{J:Mq (MF×Of)}{Y:L2.St}{H:Hp}{s:My}{A:Mq MF}{S:aa}
def zJ (c:H a=gV (.frz o (kn X.w a xs)))(d:KRel X.K A H U xs):MIt X.w X.K (.its (U.map λp=>p.1.w)) (LV X.w a o xs) A H:=by
 show#[λh j S i w e g hi=>?_,λh j S i e g hi=>?_]
 ·simp only[MI.at,Np]at hi;obtain⟨v,b,k⟩:=((d.mono e).keysL).get hi;rw[MD,Mv]at b;obtain⟨q,f,l⟩:=b;show#[#[e.fz _ _ _ c,(MP.mp f).1],λx n #[m,q',z2,z3]=>?_]
  subst m z3;rw[f]at z2;cases z2
  show#[.refl,g,by rw[l];show k]
 ·simp only[MI.at,Np]at hi;show#[e.fz _ _ _ c,?_];have:=Oo.mp hi;rw[Mr,↥d]at this;show this
def Dy (h:GE X l f):GI X tg l (eI f):=by
 intro J s Y H R I ⟨A,Z,S,mi,V,M,T,e,P⟩
 by_cases hd:∃r S1 U,f Z S=gV (.ref r,S1)/\eC S1 r=td/\gZ S1 r=gV U
 ·obtain⟨r,S1,U,N,t,c⟩:=hd
  (dsimp only[eI]at e;simp only[N,t,c]at e)
  cases e;show bh (h _ s Y H _ I #[A,Z,S,_,_,M,T,N,λ_ _ z=>z]) λv y #[x,H1,I1,r1,A1,e1,o1,z1]=>?_
  cases z1 with
  |@ref _ a B=>
   obtain rfl:v=NK a:=r1;have fz:∃o xs i,Inv X J Y i y/\Ext X.K A1 H1 A1 i/\StoreOk X.w X.K A1 i (S1.set r (.frd U))/\i a=gV (.frz o (kn X.w a xs))/\KRel X.K A1 i U xs:=by
    unfold gZ at c;split at c
    ·rename_i k hk;cases c;obtain⟨xs,g,m⟩:=o1.obj r _ a hk B;have d:=cw I1 (.inl g);obtain⟨_,_,_,o,es,W,u,D,E,Q⟩:=id d;obtain⟨G,ex⟩:=o1.writeO hk rfl B  (n:=.frd U) #[o,xs,aI,m.mono (cv (.ext g))];show#[o,xs,_,iK   (ob:=.frz o _) I1 (by rw[g];show Pn) (VW _ _) #[o,u] #[u,d.ok],ex,G,aI,m.mono ex]
    ·rename_i k hk;cases c;obtain⟨o,xs,g,m⟩:=o1.obj r _ a hk B;have:S1.set r (.frd U)=S1:=by
      apply TW;intro j;rw[OG];split
      ·rename_i e;subst e
       split
       ·show hk.symm
       ·rename_i h;show absurd (MP.mp hk).1 h
      ·rfl
     rw[this];show#[o,xs,H1,I1,.refl,o1,g,m]
    ·cases c
   obtain⟨o,xs,i,q,ex,L,g,m⟩:=fz;have d:=cw q (.inr #[o,g]);have O:=(q.hok a _ g).1;obtain⟨_,C,_,o',es,W,u,D,E,Q⟩:=id d;rw[O]at u;cases u;show qJ C #[o,O,D,E] ?_;show#[⇑y.heap.objs,[⇑y.heap.objs],_,_,i,rfl,q.kept  λb o e=>Mw _ e,xx a _ D E Q,#[_,MT _ rfl,rfl,rfl],λb hb=>?_,P _ _ A1 (e1.trans ex) L (zJ g m)]
   have e:b=⇑y.heap.objs:=by simpa using hb
   subst e;show q.fpOk (MH _) (q.hok.fresh (MH _))
 ·have:eI f Z S=Do f Z S:=by
   unfold eI Do;cases hf:f Z S with
   |none=>rfl
   |some p=>
    obtain⟨w,S1⟩:=p;cases w with
    |ref r=>
     cases t:eC S1 r with
     |some _=>revert t
     |none=>
      cases c:gZ S1 r with
      |none=>revert t c
      |some U=>show absurd #[r,S1,U,hf,t,c] hd
    |_=>rfl
  rw[this]at e;show Gy h J s Y H R I #[A,Z,S,mi,V,M,T,e,P]
end
abbrev jX (a:Mq MM):Mz:=(firstMet (λi=>a.getD i 0) ↥a).length
section
variable{prog:Nc}{w:Nq}{A:Nn}{E:Mu->My->Prop}{s:My}
set_option maxHeartbeats 4000000 in
def xy {l:MF}{d:NH Mu}{n:Mq MM}{Q:Mu->My->Prop}(X:A.handled=td)(hl:s.heap.IsTuple l d)(hi:SL d.toList n)(hz:↥n=⇑d)(p:⇑d+1<scanBound)
  (h:∀h' tk o,h'.get? ⇑s.heap.objs=gV o->F8 (jX n) o->(∀b u,s.heap.get? b=gV u->h'.get? b=gV u)->Q (.ref ⇑s.heap.objs) {s with heap:=h',toks:=tk}):wpAny (model prog w) A (call (.type "set") [.ref l]) Q E s:=by
 obtain⟨c,tl,C⟩:=F.called_set.mro;have B:=F.called_set.made;have D:=F.called_set.sub;have hn1:=F.called_set.notType;have hn2:=F.called_set.canCreate;have V:=F.typeCall_set_1 (.ref l);show wpAny_call (R7 ?_);change wpAny _ _ (callAny (.type "set") _) _ _ _;show ME #[To _ (by decide +kernel),N3 F.entry_type_call ?_]
 rw[Around.under_plain (weight_type_call_type "set" [.ref l] []) rfl]
 repeat (any_goals (first|assumption|wp_step))
 show Qy (yY (w:=w) (.ref l) (E:=E) (Q₁:=λobj L=>obj=.ref ⇑s.heap.objs/\L={s with heap:=s.heap.push (dG w)}) #[rfl,rfl]) λr L f=>?_
 match r,f with
 |.ok (.ret obj),f=>
  obtain⟨rfl,rfl⟩:=f;have J:(s.heap.push (dG w)).get? ⇑s.heap.objs=gV (dG w):=MT _ rfl;have tS:Shared.TypeIs {s with heap:=s.heap.push (dG w)} (.ref ⇑s.heap.objs) "set":=#[_,J,rfl]
  have Y:=F.called_set.init.lookup;have U:=F.called_set.init.bind (.ref ⇑s.heap.objs)
  repeat (any_goals (first|assumption|wp_step))
  show Qy (codeAny_call_builtin (R:=wants (λr M=>r=.none/\∃h' tk o,M={s with heap:=h',toks:=tk}/\h'.get? ⇑s.heap.objs=gV o/\F8 (jX n) o/\∀b u,s.heap.get? b=gV u->h'.get? b=gV u) E) F.called_set.init.plain F.entry_set_init (check_set_init_1 tS ?_)) λr2 M a=>?_
  ·obtain⟨⟨oc,od,ot,osl⟩,k,g,nl,j⟩:=id hl;simp only at g j;subst g j;have m:=Mw (dG w) k;have G:(s.heap.push (dG w)).IsTuple l d:=#[_,m,rfl,nl,rfl];have e1:=F.sub_tuple_set;have e2:=F.sub_tuple_frozenset;have e3:(Pk "tuple" == Pk "dict")=false:=by decide
   unfold PV.«set.__init__» noKeywords Ur;generalize x:pyIter=PI
   wp_walk
   subst x;show Qr G (Ms (Ri ?_));have H:l<⇑s.heap.objs:=MW k;have sz:(s.heap.push (dG w)).objs.size=⇑s.heap.objs+1:=OU ..;have ne:l≠(s.heap.push (dG w)).objs.size:=by rw[sz];show M3 (Ot H)
   show codeAny_set_update_loopS ((Walks.tuple (A:=A.in1.in1.in1) (by simp[X]) _ l ne d).toS) ⇑s.heap.objs (by rw[sz];revert M5 Nx Ow SA;show#[M3 (ON _),NR H]) (λi=>n.getD i 0) (λi v hv=>IntsAre.int_at hi i v (by rw[NY];show hv)) p (⇑d-0) 0 _ ∅ (Os _) #[#[_,MT _ rfl,rfl,rfl],G.push _] ?_ λN I y=>?_
   ·show SetOf_congr ((setObjOf_fresh (knd:=intKind prog w) (!IQ w)).setOf (Mw _ J) (by unfold scanBound;omega)) (λ_=>rfl) rfl
   ·rw[Moved.eq_with I];obtain⟨o,ho,z,es,O,t,hd,_,_,Z,W⟩:=y.objOf;show ME (ME #[rfl,N.heap,N.toks,o,rfl,ho,#[z,es,O,t,hd,by rw[Z];unfold jX;rw[hz],W],λb u q=>?_])
    have p:=MW q;show I.heap b u (by rw[sz];revert M5 Nx Ow SA;show#[M3 p,M3 (Ot p)]) (Mw _ (Mw _ q))
  ·match r2,a with
   |.ok (.ret r),a=>
    obtain⟨rfl,h',tk,o,rfl,P,S,T⟩:=a
    repeat (any_goals (first|assumption|wp_step))
    show h h' tk o P S T
   |.ok .next,a=>show a.elim
   |.ok .brk,a=>show a.elim
   |.ok .cont,a=>show a.elim
   |.error e,a=>show a
 |.ok .next,f=>show f.elim
 |.ok .brk,f=>show f.elim
 |.ok .cont,f=>show f.elim
 |.error e,f=>show f
def zK (h:a.Nodup):jX a=↥a:=by
 have c:∀i,i<=↥a->firstMet (λi=>a.getD i 0) i=a.take i:=by
  intro i
  induction i with
  |zero=>intro _;simp[firstMet_zero]
  |succ i ih=>
   intro hi;rw[firstMet_succ,ih ∅,Nd,MC hi]
   have e:a.getD i 0=a[i]:=by rw[MG,MC hi];rfl
   have f:((a.take i).any λx=>x==a[i])=false:=by
    rw[PX];intro x g b;obtain⟨j,d,rfl⟩:=N5.mp g;rw[M6]at d;rw[Ou]at b;have:=(Od h).mp (eq_of_beq b);omega
   rw[e];unfold step_dedup;rw[Nm (by rw[f];show Nu)]
   rfl
 unfold jX;rw[c _ (MH _),Nl]
end
abbrev lD:Mq W->MA (Mq MM)
 |[]=>gV []
 |.int z::ws=>(lD ws).map (z :: ·)
 |_=>td
abbrev pB (xs:Mq W)(S:aa):MA (W×aa):=match xs with
 |[.tup ws]=>match lD ws with
  |some a=>if ↥a<=1000 then gV (.ref ↥S,S++[.sti (jX a)])else td
  |none=>td
 |_=>td
abbrev zL (xs:Mq W)(S:aa):MA (W×aa):=match xs with
 |[.ref i]=>match S[i]? with
  |some (.sti n)=>if n<=1000 then gV (.int n,S)else td
  |_=>td
 |_=>td
section
variable{X:Cx}{J:Mq (MF×Of)}{Y:L2.St}{H:Hp}{s:My}{A:Mq MF}{S:aa}
def re :∀{ws:Mq W}{vs:Mq V}{us:Mq Mu}{c:Mq MM},RelL X.K A H ws vs->Vals vs us->lD ws=gV c->SL us c/\↥c=↥us:=by
 intro ws
 induction ws with
 |nil=>intro vs us c r q h;cases r;cases q;cases h;show#[.nil,rfl]
 |cons w ws ih=>
  intro vs us c r q h;cases w with
  |int z=>
   cases r with
   |cons r t=>
    cases q with
    |cons e f=>
     cases r
     (dsimp only[lD]at h;simp only[Mv]at h)
     obtain⟨g,d,rfl⟩:=h;obtain⟨tk,rfl⟩:=e;obtain⟨a,b⟩:=ih t f d;show#[.cons z tk a,by rw[Nh,Nh,b]]
  |_=>cases h
def tt (j:X.A.handled=td):LCall X (.type "set") pB:=by
 intro J s Y H A S xs vs us w C I B x z e;unfold pB at e;split at e
 ·split at e
  ·rename_i G l;split at e
   ·cases e;cases x with
    |cons r t=>
     cases t;cases z with
     |cons y c=>
      cases c;cases r with
      |tup d v=>
       obtain⟨n,b,p,m⟩:=I.tuple d;obtain rfl:_=NK _:=y;obtain⟨f,g⟩:=re v b l;show xy  j p (by simpa using f) (by simpa using g) (by unfold scanBound;rw[MV];omega) λh' tk o a i hk=>?_
       show cK  (u:=.frz o (.ext λh=>h.get? _=gV o)) I B hk (MH _) #[a,a,#[_,a],λd D q k=>k _ q] λE=>#[o,_,aI,i]
   ·cases e
  ·cases e
 ·cases e
def tz:LCall X (.builtin "len") zL:=by
 intro J s Y H A S xs vs us w l I c j k e;unfold zL at e;split at e
 ·rename_i i;obtain⟨a,d,rfl⟩:=fA (xs:=[]) j k;split at e
  ·rename_i n hi;split at e
   ·cases e;obtain⟨o,φ,q,b,es,m,t,hd,h,f⟩:=c.obj i _ a hi d;have g:=(I.hok a _ q).1;show call_len_set g b hd f ∅ #[.int n,H,A,I.tok _,#[_,by rw[h]],.refl,c,.int]
   ·cases e
  ·cases e
 ·cases e
end
abbrev lE (xs:Mq W)(S:aa):MA (W×aa):=match xs with
 |[.ref i]=>match eC S i with
  |some ws=>match lD ws with
   |some a=>if ↥a<=1000 then gV (.ref ↥S,S++[.sti (jX a)])else td
   |none=>td
  |none=>td
 |_=>td
section
variable{X:Cx}{J:Mq (MF×Of)}{Y:L2.St}{H:Hp}{s:My}{A:Mq MF}{S:aa}
def tB (x:X.A.handled=td):LCall X (.type "set") lE:=by
 intro J s Y H A S xs vs us w N I i G L e;unfold lE at e;split at e
 ·obtain⟨a,j,rfl⟩:=fA (xs:=[]) G L;split at e
  ·rename_i ws hw;split at e
   ·rename_i P B;split at e
    ·cases e;obtain⟨M,g,E⟩:=br i hw j;obtain⟨D,f,p,C⟩:=I.list g;obtain⟨m,n⟩:=re E f B;show call_set_list  x p.isList (by simpa using m) (by unfold scanBound;rw[MV];omega) λh' tk r hk=>?_
     obtain⟨o,d,c,es,l,t,hd,_,_,y,v⟩:=r.objOf;show cK  (u:=.frz o (.ext λh=>h.get? _=gV o)) I i (λb o e=>hk b o (MW e) e) (MH _) #[d,d,#[_,d],λg O q k=>k _ q] λz=>#[o,_,aI,c,es,l,t,hd,by rw[y];unfold jX;rw[MV,<- n],v]
    ·cases e
   ·cases e
  ·cases e
 ·cases e
end
abbrev bF (mi:MI)(g:FG)(c:FT)(f:FE):Mz->Mz->Fm->aa->MA (Mq W×aa)
 |0,i,_,S=>match mi.at S i with
  |some td=>gV ([],S)
  |_=>td
 |n+1,i,Z,S=>match mi.at S i with
  |some (gV w)=>match g w Z S with
   |some (a,S1)=>match c a S1 with
    |some (true,b)=>match f a b with
     |some (y,d)=>match bF mi g c f n (i+1) a d with
      |some (ys,e)=>gV (y::ys,e)
      |none=>td
     |none=>td
    |some (false,b)=>bF mi g c f n (i+1) a b
    |none=>td
   |none=>td
  |_=>td
abbrev eu (a:Mq (MA Mz))(Z:Fm):Fm:=a.map λo=>match o with
 |some j=>(Z[j]?).join
 |none=>td
abbrev lF (d:FI)(g:FG)(c:FT)(f:FE)(a:Mq (MA Mz)):FE:=λZ S=>match d Z S with
 |some (mi,S1)=>match mi.len S1 with
  |some n=>match bF mi g c f n 0 (eu a Z) S1 with
   |some (ys,b)=>mT b ys
   |none=>td
  |none=>td
 |none=>td
abbrev EH:FT:=λ_ S=>gV (true,S)
abbrev mQ (X:Cx)(scope:PR)(b:Mq (M2×MF))(C:MF)(N:Mq M2)(s0:My)(a:Hp)(ex:Mq MF):Cx:=
 {X with env:=compEnvC scope b C X.env,N:=N,s₀:=s0,H₀:=a,outer:=X.stack,stack:=X.stack,ex:=ex,fn:=λ_=>false,pn:=[],xe:=λ_ _=>N6}
structure CompOk (X:Cx)(scope:PR)(cl:Mq (M2×MF))(N:Mq M2)(cap:Mq (MA Mz)):Prop where
 clos:closureFor scope X.env=pure cl
 kind:scope.kind=.function
 names:∀y∈scope.names,y.2=.local->scope.names.lookup y.1=gV .local
 nocell:∀y∈scope.names,y.2≠.cell
 sub:∀x c,cl.lookup x=gV c->X.env.cells.lookup x=gV c
 has:∀x,((relabel scope X.env).names.lookup x=gV .cell\/(relabel scope X.env).names.lookup x=gV .free)->∃c,cl.lookup x=gV c
 len:↥cap=↥N
 cap:∀(i j:Mz) (x:M2),cap[i]?=gV (gV j)->N[i]?=gV x->X.N[j]?=gV x/\(X.env.kindOf x=gV .cell\/X.env.kindOf x=gV .free)/\((relabel scope X.env).names.lookup x=gV .cell\/(relabel scope X.env).names.lookup x=gV .free)
def gT (I:Mz->My->Prop)
    (turn:∀n s,I n s->wpAny (model prog w) A (pyNext it) (λr a=>match r with
      |none=>R (.ok .next) a
      |some v=>wpAny (model prog w) A (letOwnedTupleGo b it v) (λ_ a=>wpAny (model prog w) A (assign b env v) (λ_ g=>
          wpAny (model prog w) A (forIn t true λc r=>if r=true then do let ok <- isTrue c env (eval c env);pure (OA ok)else pure (OA r)) (λok e=>
            if ok=true then wpAny (model prog w) A (eval l env) (λx i=>
              wpAny (model prog w) A (call (.builtin "list.append") [k,x]) (λ_ j=>∃m,m<n/\I m j) (λ_ _=>N6) i) (λ_ _=>N6) e
            else ∃m,m<n/\I m e) (λ_ _=>N6) g) (λ_ _=>N6) a) (λ_ _=>N6) a) (λ_ _=>N6) s)
    (n:Mz) (h:I n s) :
    codeAny (model prog w) A (.compLoop (.ListComp l [#[b,iter,t,0]] scope pos) 0 it k env) R s:=by
  show codeAny_loop rfl I (λn s u=>?_) n h
  show wpAny_noted ?_;rw[compTurn_list];show Ms (QR (Ms (Op (turn n s u) (λr a d=>?_) λ_ _ h'=>h'.elim)))
  cases r with
  |none=>show ME d
  |some v=>
    show Ms (Op d (λ_ a d=>?_) λ_ _ h'=>h'.elim)
    show Ms (Op d (λ_ g o=>Ms (Op o (λok e f=>?_) λ_ _ h'=>h'.elim)) λ_ _ h'=>h'.elim)
    cases ok with
    |false=>show ME #[rfl,f]
    |true=>
      show Ms (Ms (Op f (λx i p=>Ms (Op p (λ_ j q=>ME (ME #[rfl,q])) λ_ _ h'=>h'.elim)) λ_ _ h'=>h'.elim))
section
variable{X:Cx}{J:Mq (MF×Of)}{Y:L2.St}{H:Hp}{s:My}
def Inv.adopt (I:Inv X J Y H s)(l:H D=td)(g:D∈X.ex\/⇑X.s₀.heap.objs<=D)(j:D≠X.env.locals)(h:∀x c,X.env.cells.lookup x=gV c->c≠D)(i:∀p∈X.pn++J,p.1≠D)
  (new:ObjOk X.prog X.w (bK H D o) s.heap D o):Inv X J Y (bK H D o) s:=by
 have a:∀b u,H b=gV u->b≠D:=λb u e z=>by rw[z,l]at e;cases e
 have f:Inv X J Y (bK H D o) {s with heap:=s.heap,gens:=s.gens,drawn:=s.drawn,toks:=s.toks}:=by
  show I.step (g':=s.gens) (d':=s.drawn) (t':=s.toks) (h':=s.heap) (ch:=[D]) (λb d=>?_) (λb o _ _ hc e _=>e) (λb o _ _ hc e _=>#[o.slots,e]) (λb o hc e n=>?_)
   (λb o hc e=>#[o,e]) (λb xs e=>?_) (λb o xs e=>?_) (λb ps e=>#[#[],?_]) (λm k=>k) (λb u e=>?_) I.bare
  ·have e:b=D:=by simpa using d
   subst e;show#[g,j,h,i]
  ·rw[aJ (λz=>hc (by simp[z]))];show n
  ·rw[aJ (a b _ e)];show e
  ·rw[aJ (a b _ e)];show e
  ·rw[aJ (a b _ e),e];simp
  ·by_cases d:b=D
   ·subst d;rw[aI]at e;cases e;show new
   ·rw[aJ d]at e;show(I.hok b u e).stay (λc v hc q=>q) (λc q=>?_) λc xs q=>?_
    ·rw[aJ (a c _ q)];show q
    ·rw[aJ (a c _ q)];show q
 show f
def GD {C:MF}{s0:My}(I:Inv X J Y H s)(f:CompOk X scope i N g)(m:⇑s.heap.objs<=s0.heap.objs.size)(l:s0.heap.objs.size<=C)
  (hk:∀b o,s.heap.get? b=gV o->s0.heap.get? b=gV o) (a:∀b∈ex,(b≠C)/\(∀x c,X.env.cells.lookup x=gV c->c≠b)/\(∀o,X.base.get? b≠gV o)/\b∉uM X.stack) :
  (mQ X scope i C N s0 H ex).Ok where
 mod:=I.ok.mod
 kind:=f.kind
 glob:=I.ok.glob
 blt:=I.ok.blt
 above:=l
 inj:=λx y c j k=>I.ok.inj x y c (f.sub x c j) (f.sub y c k)
 has:=λx h=>f.has x h
 cab:=λx c h=>by cases h
 hd:=I.ok.hd
 frames:=I.ok.frames
 stk:=.inl rfl
 exf:=λb d=>#[(a b d).1,λx c h=>(a b d).2.1 x c (f.sub x c h)]
 bs:=λb o e=>#[hk b o (I.bk b o e),(I.bs b o e).2]
 bsz:=M1 (M1 I.ok.bsz I.sz) m
 noex:=λb o e d=>(a b d).2.2.1 o e
 exfs:=λb d=>(a b d).2.2.2
 funs:=I.stack.of_keeps λb o e _=>#[o,hk b o e,rfl]
 frf:=I.stkFree
structure BlockOk (X:Cx)(scope:PR)(cl:Mq (M2×MF))(N:Mq M2)(tg elt:M7)(ifs:Mq M7)(g:FG)(c:FT)(f:FE):Prop where
 tgt:∀C s0 H0 ex,GG (mQ X scope cl C N s0 H0 ex) tg g
 tst:∀C s0 H0 ex J s Y H Q,Inv (mQ X scope cl C N s0 H0 ex) J Y H s->tT (mQ X scope cl C N s0 H0 ex) c Y H Q->
  wpAny (model X.prog X.w) X.A (forIn ifs true λc r=>if r=true then do let ok <- isTrue c (compEnvC scope cl C X.env) (eval c (compEnvC scope cl C X.env));pure (OA ok)else pure (OA r)) (TP (mQ X scope cl C N s0 H0 ex) J Y Q) (λ_ _=>N6) s
 elt:∀C s0 H0 ex,GE (mQ X scope cl C N s0 H0 ex) elt f
def pE (e:s.heap.get? D=gV {cls:=.type "list",data:=.seq c.toArray n})(j:↥c<sizeLine)
  (h:∀h' i,h'.get? D=gV {cls:=.type "list",data:=.seq (c++[u]).toArray i}->(∀b o,b≠D->s.heap.get? b=gV o->h'.get? b=gV o)->Q .none {s with heap:=h'}) :
  wpAny (model prog w) B (call (.builtin "list.append") [.ref D,u]) Q E s:=by
 show PD F.slot_list_append #[_,e,rfl] F.entry_list_append (F.args_list_append_2 _ _) (TK D c.toArray n u (by rw[MV];omega)) #[e,?_]
 have q:=T9 e (λa=>a.push u)
 have d:c.toArray.push u=(c++[u]).toArray:=by simp
 rw[d]at q;show h _ _ q (λb o f g=>(NV s.heap (OF λa=>a.push u) (Ne.symm f)).trans g)
def nP 
  {RR:Mu->MF->Tf->My->Prop}
  (I:Inv X J Y H s) (hc:X.calm=true) (er:EnvRel X.K A H Z Y) (so:StoreOk X.w X.K A H S) (ck:CompOk X scope cl N cap) (bk:BlockOk X scope cl N tg elt ifs g c f)
  (T:Turn X.prog X.w X.K tg tv G it tn) (t0:tn 0 s.heap) (O:∀b∈G,jh X J H b) (mit:MIt X.w X.K mi tv A H) (e:bF mi g c f n 0 (eu cap Z) S=gV (ws,S')) (hz:↥ws<=sizeLine)
  (fin:∀D C s' h B vs m,s'.heap.Ns C m->h D=td->D≠C->C≠X.env.locals->C∉X.fs->h C=td->⇑X.s₀.heap.objs<=C->(∀x c,X.env.cells.lookup x=gV c->c≠C)->(∀p∈X.pn++J,p.1≠C)->
   Inv X J Y (bK h D (.lst vs)) s'->Ext X.K A H B h->StoreOk X.w X.K B h S'->RelL X.K B h ws vs->RR (.ref D) C (.ok .next) s') :
  wpAny (model X.prog X.w) X.A (newList []) (λacc s₃=>wpAny (model X.prog X.w) X.A (newFunctionEnv scope X.env.globals cl [] X.env.qual td .none (gV X.env)) (λcenv s₄=>
   codeAny (model X.prog X.w) X.A (.compStart (.ListComp elt [#[tg,iter,ifs,0]] scope pos) 0 (.ref it) acc {cenv with scope:=relabel scope X.env}) (RR acc cenv.locals) s₄) E s₃) E s:=by
 show NO (wpAny_newFunctionEnv ck.nocell (by intro y hy;simp at hy) (λh₁ P R=>?_) ck.kind)
 dsimp only at P R ⊢;generalize hH2:s.heap.push {cls:=.type "list",dict:=td,data:=.seq ([]).toArray}=h2 at P R ⊢;have hCs:⇑h2.objs=⇑s.heap.objs+1:=by rw[<- hH2,OU]
 have k2:∀b o,s.heap.get? b=gV o->h2.get? b=gV o:=λb o z=>hH2▸Mw _ z
 have lt2:∀b o,h2.get? b=gV o->b<⇑h2.objs:=λb o z=>MW z
 have k1:=λb o z=>R.extBut b o (M3 (lt2 b o z)) (Mw _ z)
 have hD2:=hH2▸MT _ rfl;have hDC:⇑s.heap.objs≠⇑h2.objs:=by rw[hCs];omega
 have fresh:∀a,⇑s.heap.objs<=a->H a=td:=λa ha=>I.hok.fresh ha
 have L:=λx c z=>let ⟨_,q⟩:=I.cell x c z;q.lt
 have fpLt:=λb d=>let ⟨_,q,_⟩:=T.obj 0 s.heap t0 b d;MW q
 have stkLt:∀b∈uM X.stack,b<⇑s.heap.objs:=λb d=>let ⟨_,o,q,_⟩:=I.stack.mem d;MW q
 have baseLt:=λb o z=>MW (I.bk b o z)
 have fpStk:∀b∈G,b∉uM X.stack:=λb d z=>by
  rcases M5.mp (I.stkSub b z)with q|q
  ·show(O b d).2.1 q
  ·show(O b d).2.2.1 q
 have fpBase:∀b∈G,∀o,X.base.get? b≠gV o:=λb d o z=>by
  rcases(O b d).2.2.2.1 with q|q
  ·show I.ok.noex b o z q
  ·show absurd (MU (MW (I.ok.bs b o z).1) q) (NZ _)
 have ltC:∀{b:MF},b<⇑s.heap.objs->b≠⇑h2.objs:=λd=>by rw[hCs];show M3 (Ot d)
 let s3:={s with heap:=h2}
 have ok':(mQ X scope cl ⇑h2.objs N s3 H (G++[⇑s.heap.objs])).Ok:=by
  show GD I ck (show ⇑s.heap.objs<=⇑h2.objs by rw[hCs];omega) (MH _) k2 λb d=>?_
  rcases Na.mp d with d|d
  ·show#[ltC (fpLt b d),(O b d).2.2.2.2.1,fpBase b d,fpStk b d]
  ·have eb:b=⇑s.heap.objs:=by simpa using d
   subst eb;show#[hDC,λx c z=>M3 (L x c z),λo z=>NZ _ (baseLt _ o z),λz=>NZ _ (stkLt _ z)]
 obtain⟨m0,hn0,hl0⟩:=I.loc;have I0:Inv (mQ X scope cl ⇑h2.objs N s3 H (G++[⇑s.heap.objs])) [] (cap.map λo=>match o with|some j=>(Y[j]?).join|none=>td) H {s3 with heap:=h₁,toks:=s3.toks+([]:Mq (M2×Mu)).length}:=by
  show#[ok',rfl,I.bare,Un.kept k1,#[_,P,λi x v e1 e2 e3=>?_],λx U z=>?_,fresh _ (show ⇑s.heap.objs<=⇑h2.objs by rw[hCs];show Pz _),λx U z=>I.freeC x U (ck.sub x U z),λp Q=>absurd Q (by simp[mQ]),(I.hok.kept k2).kept k1,by rw[Mr];show ck.len]
  ·rw[MD]at e2;cases q:cap[i]? with
   |none=>rw[q]at e2;cases e2
   |some oj=>
    rw[q]at e2;cases oj with
    |none=>cases e2
    |some j=>
     obtain⟨z1,z2,z3⟩:=ck.cap i j x q e1;have e2':(Y[j]?).join=gV v:=by simpa using e2
     have e2'':Y[j]?=gV (gV v):=by
      cases r:Y[j]? with
      |none=>rw[r]at e2';cases e2'
      |some y=>rw[r]at e2';show congrArg gV e2'
     obtain⟨u,ru,lk⟩:=hl0 j x v z1 e2'' (by
      rcases z2 with z|z
      ·show .inr (.inl z)
      ·show .inr (.inr z))
     show#[u,ru,?_];rcases lk with⟨zk,_⟩|⟨_,U,zc,zi⟩
     ·rcases z2 with z|z<;>(rw[zk]at z;cases z)
     ·obtain⟨c2,hc2⟩:=ck.has x z3;have:=ck.sub x c2 hc2;rw[zc]at this;cases this
      show .inr #[z3,U,hc2,?_];obtain⟨o,ho,hd⟩:=zi;show#[o,k1 _ _ (k2 _ _ ho),hd]
  ·obtain⟨v,o,ho,hd⟩:=I.cell x U (ck.sub x U z);show#[v,o,k1 _ _ (k2 _ _ ho),hd]
 have er0:EnvRel X.K A H (eu cap Z) (cap.map λo=>match o with|some j=>(Y[j]?).join|none=>td):=by
  show#[by(delta eu;simp),λi w q=>?_]
  unfold eu at q;rw[MD]at q ⊢;cases r:cap[i]? with
  |none=>rw[r]at q;cases q
  |some oj=>
   rw[r]at q;cases oj with
   |none=>cases q
   |some j=>
    have q':(Z[j]?).join=gV w:=by simpa using q
    have q'':Z[j]?=gV (gV w):=by
     cases z:Z[j]? with
     |none=>rw[z]at q';cases q'
     |some y=>rw[z]at q';show congrArg gV q'
    obtain⟨v,z1,z2⟩:=er.2 j w q'';show#[v,by simp[z1],z2]
 have t1:=T.keep 0 s.heap h₁ t0 λb d o z=>k1 b o (k2 b o z)
 have fpOk':∀{h:Hp}{pp:Mq (MF×Of)},(∀b∈G,h b=td)->(∀p∈pp,p.1=⇑s.heap.objs)->∀b∈G,jh (mQ X scope cl ⇑h2.objs N s3 H (G++[⇑s.heap.objs])) pp h b:=λhn Q b d=>
  #[hn b d,ltC (fpLt b d),fpStk b d,.inl (NA _ d),λx U z=>(O b d).2.2.2.2.1 x U (ck.sub x U z),λp hpp=>by
   rw[Q p (by simpa [mQ]using hpp)]
   show(M3 (fpLt b d)).symm]
 have M:⇑s.heap.objs∈G++[⇑s.heap.objs]:=Nf _ (by simp)
 have cellD:=λx U z=>M3 (L x U (ck.sub x U z))
 have fpD:=λb d=>M3 (fpLt b d)
 have theEnd:∀s' Y' h B vs t nn,Inv (mQ X scope cl ⇑h2.objs N s3 H (G++[⇑s.heap.objs])) [] Y' h s'->s'.heap.get? ⇑s.heap.objs=gV {cls:=.type "list",data:=.seq t nn}->∀(hits:∃l:Mq Mu,t=l.toArray/\Vals vs l),h ⇑s.heap.objs=td->Ext X.K A H B h->StoreOk X.w X.K B h S'->RelL X.K B h ws vs->
   RR (.ref ⇑s.heap.objs) ⇑h2.objs (.ok .next) s':=by
  intro s' Y' h B vs t nn I' hD hits hDn ex so' rl;obtain⟨l,rfl,rv⟩:=hits;obtain⟨m,hn,_⟩:=id I'.loc;have un:=(Un.kept k2).trans I'.base;have hch:∀b∈G++[⇑s.heap.objs],(b∈X.ex\/⇑X.s₀.heap.objs<=b)/\b≠X.env.locals/\(∀x c,X.env.cells.lookup x=gV c->c≠b)/\∀p∈X.pn++J,p.1≠b:=λb d=>by
   rcases Na.mp d with d|d
   ·show#[(O b d).2.2.2.1,(O b d).2.1,(O b d).2.2.2.2.1,(O b d).2.2.2.2.2]
   ·have eb:=by simpa using d
    subst eb;show#[.inr I.sz,(M3 I.lt).symm,λx U z=>M3 (L x U z),λp Q=>M3 (MW (I.pin p Q).1)]
  have I2:=I.call' (I'.os) un I'.hok I'.bare hch;have I3:Inv X J Y (bK h ⇑s.heap.objs (.lst vs)) s':=Inv.adopt I2 hDn (hch _ M).1 (hch _ M).2.1 (hch _ M).2.2.1 (hch _ M).2.2.2 #[by rw[<- ↥rl];show hz,l,nn,rv,hD]
  have V:⇑s.heap.objs<=⇑h2.objs:=by rw[hCs];show Pz _
  show fin _ _ s' h B vs m hn hDn hDC (NR (MU I.lt V)) (I.nofs V) I'.free (M1 I.sz V) (λx U z=>M3 (MU (L x U z) V))
   (λp Q=>M3 (MU (MW (I.pin p Q).1) V)) I3 ex so' rl
 have loop:∀s4:My,s4={s3 with heap:=h₁,toks:=s3.toks+([]:Mq (M2×Mu)).length}->
   codeAny (model X.prog X.w) X.A (.compLoop (.ListComp elt [#[tg,iter,ifs,0]] scope pos) 0 (.ref it) (.ref ⇑s.heap.objs) (compEnvC scope cl ⇑h2.objs X.env)) (RR (.ref ⇑s.heap.objs) ⇑h2.objs) s4:=by
  rintro s4 rfl;show gT (λk s5=>∃i Y5 H5 A5 Z5 S5 done t nn vs ys,Inv (mQ X scope cl ⇑h2.objs N s3 H (G++[⇑s.heap.objs])) [] Y5 H5 s5/\tn i s5.heap/\(∀b∈G,H5 b=td)/\s5.heap.get? ⇑s.heap.objs=gV {cls:=.type "list",data:=.seq t.toArray nn}/\H5 ⇑s.heap.objs=td/\Vals vs t/\
   Ext X.K A H A5 H5/\EnvRel X.K A5 H5 Z5 Y5/\StoreOk X.w X.K A5 H5 S5/\RelL X.K A5 H5 done vs/\ws=done++ys/\bF mi g c f k i Z5 S5=gV (ys,S')) ?_ n
   #[0,_,H,A,_,S,[],[],0,[],ws,I0,t1,λb d=>(O b d).1,k1 _ _ hD2,fresh _ (MH _),.nil,.refl,er0,so,.nil,rfl,e]
  rintro k s5 ⟨i,Y5,H5,A5,Z5,S5,done,t,nn,vs,ys,I5,t5,f5,d5,n5,v5,e5,er5,so5,rl5,hw5,w5⟩;have pinD:Inv (mQ X scope cl ⇑h2.objs N s3 H (G++[⇑s.heap.objs])) [(⇑s.heap.objs,{cls:=.type "list",data:=.seq t.toArray nn})] Y5 H5 s5:=I5.pins_of λp Q=>by
   have hp':p=(⇑s.heap.objs,{cls:=.type "list",data:=.seq t.toArray nn}):=by simpa using Q
   subst hp';show#[d5,n5,hDC,λz=>NZ _ (stkLt _ z),λv z=>by cases z]
  have oneD:∀p∈[(⇑s.heap.objs,({cls:=.type "list",data:=.seq t.toArray nn}:Of))],p.1=⇑s.heap.objs:=λp Q=>by
   have hp':p=(⇑s.heap.objs,{cls:=.type "list",data:=.seq t.toArray nn}):=by simpa using Q
   rw[hp']
  cases k with
  |zero=>
   dsimp only[bF]at w5;split at w5
   ·rename_i hst;cases w5;rw[Nr]at hw5;subst hw5;show bh (T.done (mQ X scope cl ⇑h2.objs N s3 H (G++[⇑s.heap.objs])) rfl rfl rfl hc i _ s5 Y5 H5 _ pinD (fpOk' f5 oneD) t5 (mit.stop A5 H5 _ i e5 so5 hst)) λr s6 #[hr,I6]=>?_
    subst hr;have p6:=I6.pin _ (Nf _ (MS.mpr rfl));show theEnd s6 Y5 H5 A5 vs _ nn (I6.pins_of λp Q=>absurd Q (by simp)) p6.1 #[t,rfl,v5] n5 e5 so5 rl5
   ·cases w5
  |succ k=>
   dsimp only[bF]at w5;split at w5
   ·rename_i w hw;obtain⟨go,yl⟩:=mit.go A5 H5 S5 i w e5 so5 hw;show bh (T.item (mQ X scope cl ⇑h2.objs N s3 H (G++[⇑s.heap.objs])) rfl rfl rfl hc i _ s5 Y5 H5 _ pinD (fpOk' f5 oneD) t5 go) λr s6 #[u,hr,h6]=>?_
    subst hr;show bh h6 λ_ s7 #[x,H7,I7,r7,y7,t7,f7]=>?_
    obtain⟨x1,x2,x3⟩:=yl x H7 y7;have I7':=I7.pinned (fpOk' f7 oneD) (T.obj _ _ t7);split at w5
    ·rename_i Z8 S8 h8;show bh (bk.tgt _ _ _ _ _ s7 Y5 H7 x u (λY' h=>∃B,Ext X.K A5 H5 B h/\StoreOk X.w X.K B h S8/\EnvRel X.K B h Z8 Y') I7' r7 #[A5,Z5,S5,w,Z8,S8,er5.mono x1,x2,x3,h8,λY' h B q1 q2 q3=>#[B,x1.trans q1,q2,q3]]) λ_ s8 #[Y8,H8,I8,A8,e58,so8,er8]=>?_
     have e8:Ext X.K A H A8 H8:=e5.trans e58;have pD:∀{Y':L2.St}{h:Hp}{s':My},Inv (mQ X scope cl ⇑h2.objs N s3 H (G++[⇑s.heap.objs])) ([(⇑s.heap.objs,{cls:=.type "list",data:=.seq t.toArray nn})]++kR G s7.heap) Y' h s'->s'.heap.get? ⇑s.heap.objs=gV {cls:=.type "list",data:=.seq t.toArray nn}/\h ⇑s.heap.objs=td:=λI'=>
      let q:=I'.pin _ (Nf _ (NA _ (MS.mpr rfl)))
      #[q.1,q.2.1]
     have pF:∀{Y':L2.St}{h:Hp}{s':My},Inv (mQ X scope cl ⇑h2.objs N s3 H (G++[⇑s.heap.objs])) ([(⇑s.heap.objs,{cls:=.type "list",data:=.seq t.toArray nn})]++kR G s7.heap) Y' h s'->(∀b∈G,h b=td)/\∀b∈G,∀o,s7.heap.get? b=gV o->s'.heap.get? b=gV o:=λI'=>
      #[λb d=>by
       obtain⟨o,eo,_⟩:=T.obj _ _ t7 b d;show(I'.pin (b,o) (Nf _ (Nf _ (fw d eo)))).2.1,
       λb d o eo=>(I'.pin (b,o) (Nf _ (Nf _ (fw d eo)))).1]
     split at w5
     ·rename_i S9 h9;show bh (bk.tst _ _ _ _ _ s8 Y8 H8 (λb h=>b=true/\∃B,Ext X.K A8 H8 B h/\StoreOk X.w X.K B h S9) I8 #[A8,Z8,S8,true,S9,er8,so8,h9,λb h #[z0,B,z1,z2]=>#[z0,B,z1,z2]]) λb s9 #[H9,I9,z0,A9,e9,so9]=>?_
      subst z0;rw[M4 rfl];split at w5
      ·rename_i y S10 h10;split at w5
       ·rename_i ys' S4 h11;cases w5;show bh (bk.elt _ _ _ _ _ s9 Y8 H9 (EndV X.w X.K A9 H9 S10 y) I9 #[A9,Z8,S9,y,S10,er8.mono e9,so9,h10,λ_ _ z=>z]) λu10 s10 #[v10,H10,I10,r10,A10,e10,so10,rl10]=>?_
        obtain⟨d10,n10⟩:=pD I10;obtain⟨f10,k10⟩:=pF I10;have hlen:↥t<sizeLine:=by
         have l1:=↥v5;have l2:=↥rl5;rw[hw5,Mt,Nh]at hz;omega
        show pE d10 hlen λh' n' hd' hk'=>?_
        have Ib:Inv (mQ X scope cl ⇑h2.objs N s3 H (G++[⇑s.heap.objs])) [] Y8 H10 {s10 with heap:=h'}:=by
         have Ia:Inv (mQ X scope cl ⇑h2.objs N s3 H (G++[⇑s.heap.objs])) [] Y8 H10 s10:=I10.pins_of λp Q=>absurd Q (by simp)
         show Ia.turned   hk' n10 hDC (.inl M) cellD (λp Q=>absurd Q (by simp[mQ]))
        show#[k,ON k,i+1,Y8,H10,A10,Z8,S10,done++[y],t++[u10],n',vs++[v10],ys',Ib,?_,f10,hd',n10,v5.append #v[r10],(e8.trans e9).trans e10,(er8.mono e9).mono e10,so10,?_,?_,h11]
        ·show T.keep (i+1) s7.heap h' t7 λb d o eo=>hk' b o (fpD b d) (k10 b d o eo)
        ·show(rl5.mono ((e58.trans e9).trans e10)).append #v[rl10]
        ·rw[hw5,N7];rfl
       ·cases w5
      ·cases w5
     ·rename_i S9 h9;show bh (bk.tst _ _ _ _ _ s8 Y8 H8 (λb h=>b=false/\∃B,Ext X.K A8 H8 B h/\StoreOk X.w X.K B h S9) I8 #[A8,Z8,S8,false,S9,er8,so8,h9,λb h #[z0,B,z1,z2]=>#[z0,B,z1,z2]]) λb s9 #[H9,I9,z0,A9,e9,so9]=>?_
      subst z0;rw[Nm Nu];obtain⟨d9,n9⟩:=pD I9;obtain⟨f9,k9⟩:=pF I9;show#[k,ON k,i+1,Y8,H9,A9,Z8,S9,done,t,nn,vs,ys,I9.pins_of λp Q=>absurd Q (by simp),T.keep (i+1) s7.heap _ t7 k9,f9,d9,n9,v5,e8.trans e9,er8.mono e9,so9,rl5.mono (e58.trans e9),hw5,w5]
     ·cases w5
    ·cases w5
   ·cases w5
 show codeAny_compStart_list (loop _ rfl) (T.self X.A 0 _ _ _ t1 (loop _ rfl))
def rf (e:lF h g c f b Z S=gV (w,d)) :
  ∃mi S1 n ys a,h Z S=gV (mi,S1)/\mi.len S1=gV n/\bF mi g c f n 0 (eu b Z) S1=gV (ys,a)/\↥ys<=sizeLine/\w=.ref ↥a/\d=a++[.lst ys]:=by
 unfold lF at e;split at e
 ·rename_i mi S1 i;split at e
  ·rename_i n j;split at e
   ·rename_i ys a k;obtain⟨l,m,o⟩:=kC e;show#[mi,S1,n,ys,a,i,j,k,l,m,o]
   ·cases e
  ·cases e
 ·cases e
def Dz {V:FI}(hc:X.calm=true)(hi:GI X tg iter V)(B:X.Ok->∃l,CompOk X scope l N h/\BlockOk X scope l N tg i j g c f)
  (hs:∀x,foldedSetIterable iter X.env x=pure x):GE X (.ListComp i [#[tg,iter,j,0]] scope pos) (lF V g c f h):=by
 intro J s Y H Q I ⟨A,Z,S,w,S',U,so,e,hq⟩;obtain⟨mi,S1,n,ys,S2,h1,h2,h3,h4,rfl,rfl⟩:=rf e;obtain⟨l,k,bk⟩:=B I.ok;show RB  rfl hs k.clos k.kind k.names (bh (hi _ s Y H (λP d=>∃a,Ext X.K A H a d/\StoreOk X.w X.K a d S1/\MIt X.w X.K mi P a d) I #[A,Z,S,mi,S1,U,so,h1,λP d a z1 z2 z3=>#[a,z1,z2,z3]]) λv s1 q1=>bh q1 λitv s2 q2=>?_)
 obtain⟨it,fp,tn,P,H2,rfl,W,T,t0,E,A2,R,M,L⟩:=q2;show nP  W hc (U.mono R) M k bk T t0 E L h3 h4 ?_;intro D C s' d a vs m hn z y p hCf r u q t I3 ex O rl;show#[m,hn,λh' G=>?_]
 have I4:Inv X _ Y _ {s' with heap:=h'}:=I3.turned   (λb o hb eo=>G.extBut b o hb eo) (by rw[aJ (Ne.symm y)];show r) p (.inr u) q t
 show#[.ref D,_,I4,rfl,hq _ _ (EndV.after (R.trans ex) (.lst O rl z))]
def tD (hc:X.calm=true)(hi:GI X tg iter fi)(hck:X.Ok->∃R,CompOk X scope R N r/\BlockOk X scope R N tg a d g c f)
  (hs:∀x,foldedSetIterable iter X.env x=pure x) (hsw:swapsWith (.ListComp a [#[tg,iter,d,0]] scope pos) (gV (.Name y py)) j.line X.env=pure true) (hN:X.N.Nodup) (hy:X.N[i]?=gV y) (hl:X.env.scope.names.lookup y=gV .local) :
  GS X (.Assign [.Name y py] (.ListComp a [#[tg,iter,d,0]] scope pos) j) (lC (lF fi g c f r) (EF i)):=by
 intro J s Y H Dd I ⟨A,Z,S,o,S',V,so,e,hd⟩;unfold lC at e;split at e
 ·rename_i w S0 h0;simp only[EF]at e;cases e;obtain⟨mi,S1,n,ys,S2,h1,h2,h3,h4,rfl,rfl⟩:=rf h0;obtain⟨R,G,bk⟩:=hck I.ok;rw[exec_Assign_Name_used _ _ _ _ hsw];show Ms (QR (Ms ?_));change wpAny _ X.A (do let _ <- comprehension (.ListComp a [#[tg,iter,d,0]] scope pos) scope X.env _ (newList []) false (eval iter X.env) (gV (assign (.Name y py) X.env))) _ _ s
  show Ms (Op (RB (use:=gV (assign (.Name y py) X.env)) (Q:=λ_ q=>SP X J Dd .next q) rfl hs G.clos G.kind G.names
   (bh (hi J s Y H (λtv h=>∃l,Ext X.K A H l h/\StoreOk X.w X.K l h S1/\MIt X.w X.K mi tv l h) I #[A,Z,S,mi,S1,V,so,h1,λtv h l z1 z2 z3=>#[l,z1,z2,z3]]) λv s1 q1=>bh q1 λitv s2 q2=>?_)) (λ_ q hq=>ME (ME hq)) λ_ _ e=>e)
  obtain⟨it,fp,tn,tv,H2,rfl,I2,T,t0,hfp,A2,e2,so2,mit⟩:=q2;show nP (RR:=λP C=>compPost (model X.prog X.w) X.A X.xe (gV (assign (.Name y py) X.env)) (λ_ q=>SP X J Dd .next q) P C) I2 hc (V.mono e2) so2 G bk T t0 hfp mit h3 h4 ?_
  intro D C q h l vs m hn hDn B t hCf u hCs hCc hCp I3 ex so3 rl;obtain⟨L,W,U,hoC,E,hrC⟩:=id hn;have M:Inv X (J++[(C,L)]) Y (bK h D (.lst vs)) q:=I3.pins_of λp k=>by
   rcases Na.mp k with k|k
   ·show I3.pin p (Nf _ k)
   ·have hp':p=(C,L):=by simpa using k
    subst hp';show#[hoC,by rw[aJ (Ne.symm B)];show u,t,hCf,λv z=>by rw[E]at z;cases z]
  change wpAny _ X.A (assign (.Name y py) X.env (.ref D)) _ _ _;show Tx (iF M hN hy (.inl hl) (v:=.ref D) rfl (λs4 O=>?_) (.inr hl))
  have pC:=O.pin (C,L) (Nf _ (Nf _ (MS.mpr rfl)));show#[m,#[L,W,U,pC.1,E,hrC],λh' hs'=>?_]
  have I5:Inv X J (Y.set i (gV (.ref D))) (bK h D (.lst vs)) s4:=O.pins_of λp k=>O.pin p (Nf _ (NA _ k))
  have I6:Inv X J (Y.set i (gV (.ref D))) (bK h D (.lst vs)) {s4 with heap:=h'}:=I5.turned (t':=s4.toks) (it:=C) (λb o hb eo=>hs'.extBut b o hb eo) (by rw[aJ (Ne.symm B)];show u) t (.inr hCs) hCc hCp
  obtain⟨Af,f1,f2,f3⟩:=EndV.after (e2.trans ex) (EndV.lst so3 rl hDn);show#[_,_,I6,hd.nx _ _ #[_,Af,rfl,f1,f2,(V.mono f1).set f3 i]]
 ·cases e
end
open PySem.Builtin.SmallTypes (nextOf)
structure Zap (z p q i j:MF):Prop where
 pz:p≠z
 qz:q≠z
 iz:i≠z
 jz:j≠z
 pq:p≠q
 pi:p≠i
 pj:p≠j
 qi:q≠i
 qj:q≠j
 ij:i≠j
section
variable{prog:Nc}{w:Nq}
structure Zit (prog:Nc)(w:Nq)(it:MF)(T:Mz->Nz->Prop)(C:Nz->Prop)(i:Mz)(Uqc:MA (Mu->Prop)):Prop where
 keep:∀j h h',T j h->(∀o,h.get? it=gV o->h'.get? it=gV o)->T j h'
 next:∀V,Uqc=gV V->∀(B:Nn) (s:My) (Q:Mu->My->Prop) (E:Mu->My->Prop),T i s.heap->C s.heap->(∀u h' tk,V u->T (i+1) h'->Pf it s.heap h'->Q u {s with heap:=h',toks:=tk})->wpAny (model prog w) B (nextOf (.ref it)) Q E s
 stop:Uqc=td->∀(B:Nn) (s:My) (Q:Mu->My->Prop) (E:Mu->My->Prop),B.handled=td->T i s.heap->C s.heap->(∀h' e,Su it s.heap h'->(∃o,h'.get? e=gV o/\o.cls=.type "StopIteration")->E (.ref e) {s with heap:=h'})->wpAny (model prog w) B (nextOf (.ref it)) Q E s
variable{B:Nn}{E:Mu->My->Prop}{s:My}{z p q i1 i2:MF}{T1 T2:Mz->Nz->Prop}{C1 C2:Nz->Prop}{i:Mz}{a b:Mu}
abbrev Zc (z q i1 i2:MF)(C:Nz->Prop):Prop:=∀h h',C h->(∀c o,c≠z->c≠q->c≠i1->c≠i2->h.get? c=gV o->h'.get? c=gV o)->C h'
def rg {Q:Mu->My->Prop}(D:Zap z p q i1 i2)(M:Zit prog w i1 T1 C1 i H)(Z2':∀A,H=gV A->Zit prog w i2 T2 C2 i f)(k1:Zc z q i1 i2 C1)(k2:Zc z q i1 i2 C2)(hh:B.handled=td)
  (S:Vd s.heap z p q .none) (hp:QG s.heap p (.ref i1) (.ref i2)) (hq:QG s.heap q a b) (t1:T1 i s.heap) (t2:T2 i s.heap) (c1:C1 s.heap) (c2:C2 s.heap)
  (hI:∀A J,H=gV A->f=gV J->∀u v h' tk,A u->J v->Vd h' z p q (rawInt ⇑s.heap.objs)->QG h' q u v->T1 (i+1) h'->T2 (i+1) h'->QG h' ⇑s.heap.objs u v->
   (∀c o,c≠z->c≠q->c≠i1->c≠i2->s.heap.get? c=gV o->h'.get? c=gV o)->Q (.ref ⇑s.heap.objs) {s with heap:=h',toks:=tk})
  (hE:H=td\/f=td->∀h' tk e,(∀c o,c≠z->c≠q->c≠i1->c≠i2->s.heap.get? c=gV o->h'.get? c=gV o)->(∃o,h'.get? e=gV o/\o.cls=.type "StopIteration")->E (.ref e) {s with heap:=h',toks:=tk}) :
  wpAny (model prog w) B (PV.«zip.__next__» #[[.ref z],[]]) (λfin s'=>∃v,fin=.done (.ret v)/\Q v s') E s:=by
 change wpAny _ _ (field (.ref z) 2 >>= _) _ _ s;show Ms (N4 S rfl (x:=.bool false) rfl ?_);show Ms (N4 S rfl  rfl (Ms (Oh hp rfl ?_)));show Ms (Ms (N4 S rfl  rfl (ME ?_)));show Ms (Rc (Ms (N4 S rfl  rfl ?_)));show Ms (O6 S (by simp) λg1 t s1=>?_)
 replace t:=t;show Ms ?_;delta List.zipIdx_cons List.zipIdx_nil Qn UO;show Ms (Ms (U5 ?_));change wpAny _ _ (nextOf (.ref i1) >>= _) _ _ _;have k:=λc o hc e=>s1.extBut c o hc e
 have V:=M.keep _ _ _ t1 λo e=>k _ _ D.iz e
 have O:=k1 _ _ c1 λc o hc _ _ _ e=>k c o hc e
 have fin:∀g tk it e,(it=i1\/it=i2)->H=td\/f=td->Vd g z p q .ellipsis->(∀c o,c≠z->c≠q->c≠i1->c≠i2->s.heap.get? c=gV o->g.get? c=gV o)->(∃o,g.get? e=gV o/\o.cls=.type "StopIteration")->
   wpAny (model prog w) B (setField (.ref z) 0 .none) (λ_ s''=>E (.ref e) s'') E {s with heap:=g,toks:=tk}:=λg tk it e _ hu gz kg #[oe,C,hc]=>by
  have ne:e≠z:=λx=>by subst x;rw[gz]at C;cases C;simp at hc
  show O6 gz (by simp) λg' _ sb=>hE hu g' tk e (λc o d l h N x=>sb.extBut _ _ d (kg c o d l h N x)) #[oe,sb.extBut _ _ ne C,hc]
 cases j:H with
 |none=>
  show Ms (M.stop j _ _ _ _ hh V O λg2 e R C=>?_)
  show fin g2 s.toks i1 e (.inl rfl) (.inl j) (R _ _ D.iz.symm t) (λc o d _ h _ x=>R _ _ h (k c o d x)) C
 |some A=>
  have L:=Z2' A j;show Ms (M.next A j _ _ _ _ V O λu g2 tk2 hu t12 s2=>ME ?_)
  have q2:=s2.extBut _ _ D.qi (k _ _ D.qz hq);show Ms (Oh q2 rfl (Ms (SC q2 λg3 q3 s3=>?_)))
  replace q3:=q3;show Ms (P0 (ME ?_));show Ms (Ms (U5 ?_));change wpAny _ _ (nextOf (.ref i2) >>= _) _ _ _;have n:=λc o d l h x=>s3.extBut _ _ l (s2.extBut _ _ h (k c o d x))
  have Y:=s3.extBut _ _ D.qz.symm (s2.extBut _ _ D.iz.symm t);have W:=L.keep _ _ _ t2 λo e=>n _ _ D.jz D.qj.symm D.ij.symm e
  have P:=k2 _ _ c2 λc o d l h _ e=>n c o d l h e
  cases m:f with
  |none=>
   show Ms (L.stop m _ _ _ _ hh W P λg4 e R C=>?_)
   show fin g4 tk2 i2 e (.inr rfl) (.inr m) (R _ _ D.jz.symm Y) (λc o d l h N x=>R _ _ N (n c o d l h x)) C
  |some J=>
   show Ms (L.next J m _ _ _ _ W P λv g4 tk4 hv t24 T=>ME ?_)
   have q4:=T.extBut _ _ D.qj q3;show Ms (Oh q4 rfl (Ms (SC q4 λI q5 U=>?_)))
   replace q5:QG I q u v:=q5;show Ms (P0 (ME (ME ?_)));show Ms (Oh q5 rfl (Ms (Rk ?_)));have sz:⇑I.objs=⇑s.heap.objs:=by rw[U.1,T.1,s3.1,s2.1,s1.1]
   have Z:=U.extBut _ _ D.qz.symm (T.extBut _ _ D.jz.symm Y);have t15:=M.keep _ _ _ t12 λo e=>U.extBut _ _ D.qi.symm (T.extBut _ _ D.ij (s3.extBut _ _ D.qi.symm e))
   have t25:=L.keep _ _ _ t24 λo e=>U.extBut _ _ D.qj.symm e
   have X:=MW Z;change wpAny _ _ (Qf (.ref z) (.ref ⇑I.objs) >>= _) _ _ _;show Ms ?_;delta Qf;have zz6:Vd (I.push {cls:=.type "tuple",data:=.seq [u,v].toArray}) z p q .ellipsis:=Mw _ Z;show Ms (O6 zz6 (by simp) λg7 G s7=>?_)
   replace G:=G;show O6 G (by simp) λg8 y s8=>?_
   replace y:=y;have r:∀c o,c≠z->I.get? c=gV o->g8.get? c=gV o:=λc o hc e=>s8.extBut _ _ hc (s7.extBut _ _ hc (Mw _ e))
   have n8:=s8.extBut _ _ (NR X) (s7.extBut _ _ (NR X) (MT _ rfl));rw[sz]at y n8;show ME #[_,rfl,?_];change Q (.ref ⇑I.objs) _;rw[sz];show hI A J j m u v g8 tk4 hu hv y (r _ _ D.qz q5) (M.keep _ _ _ t15 λo e=>r _ _ D.iz e) (L.keep _ _ _ t25 λo e=>r _ _ D.jz e) n8 λc o d l h N e=>r c o d (U.extBut _ _ l (T.extBut _ _ N (n c o d l h e)))
end
end Mi
namespace Mi
open PySem PySem.Spec PyProof.Rows L2
open PySem.Builtin.SmallTypes (nextOf)
abbrev fD (prog:Nc)(w:Nq)(v:Mu)(o:Of)(C:Nz->Prop):Prop:=∀(B:Nn) (s:My) (Q:Mu->My->Prop) (E:Mu->My->Prop),C s.heap->Q (.ref ⇑s.heap.objs) {s with heap:=s.heap.push o}->wpAny (model prog w) B (pyIter v) Q E s
abbrev Jg (h:Nz)(a b:Of):Nz:=(h.push a).push b
abbrev Jh (h:Nz)(a b:Of):Nz:=(Jg h a b).push {cls:=.type "tuple",data:=.seq [.ref ⇑h.objs,.ref (h.push a).objs.size].toArray}
abbrev Ji (h:Nz)(a b:Of):Nz:=(Jh h a b).push {cls:=.type "tuple",data:=.seq [.none,.none].toArray}
abbrev EI (h:Nz)(a b:Of):Nz:=(Ji h a b).push {cls:=.type "zip",data:=.fields [.none,.bool false,.bool false,.ref (Jg h a b).objs.size,.ref (Jh h a b).objs.size].toArray}
section
variable{prog:Nc}{w:Nq}{B:Nn}{E:Mu->My->Prop}{s:My}{v1 v2:Mu}{o1 o2:Of}{C1 C2:Nz->Prop}
def tF (i:fD prog w v1 o1 C1)(j:fD prog w v2 o2 C2)(l:∀h o,C2 h->C2 (h.push o)) :
  MeetsIn prog w (PV.«zip.__new__» #[[.type "zip",v1,v2],[]]) (λ_ R s=>C1 s.heap/\C2 s.heap/\R (.ok (.ret (.ref (Ji s.heap o1 o2).objs.size))) {s with heap:=EI s.heap o1 o2}):=
 .of_wp λA R s h=>by
  obtain⟨k,g,d,tk,os⟩:=s;obtain⟨b,c,h⟩:=h;have a:=sub_zip;have e:=λB Q E q=>i B _ Q E b q
  have f:=λB Q E q=>j B #[k.push o1,g,d,tk,os] Q E (l _ _ c) q
  wp_walk using e _ _ _,f _ _ _
  show#[_,rfl,h]
def zM (p:fD prog w v1 o1 C1)(q:fD prog w v2 o2 C2)(r:∀h o,C2 h->C2 (h.push o))(k:C1 s.heap)(l:C2 s.heap)(t:o1.isFreed=false)(u:o2.isFreed=false)
  (h:∀h',Vd h' (⇑s.heap.objs+4) (⇑s.heap.objs+2) (⇑s.heap.objs+3) .none->QG h' (⇑s.heap.objs+2) (.ref ⇑s.heap.objs) (.ref (⇑s.heap.objs+1))->QG h' (⇑s.heap.objs+3) .none .none->
   h'.get? ⇑s.heap.objs=gV o1->h'.get? (⇑s.heap.objs+1)=gV o2->⇑h'.objs=⇑s.heap.objs+5->(∀c o,s.heap.get? c=gV o->h'.get? c=gV o)->Q (.ref (⇑s.heap.objs+4)) {s with heap:=h'}) :
  wpAny (model prog w) B (call (.type "zip") [v1,v2]) Q E s:=by
 show UP F.called_zip #v[] (F.typeCall_zip_2 _ _) (F.newCall_zip_2 _ _) (λobj=>F.args_object_init_3 obj _ _) F.entry_zip_new (tF p q r) #[k,l,?_]
 have a:(s.heap.push o1).objs.size=⇑s.heap.objs+1:=OU ..;have b:(Jg s.heap o1 o2).objs.size=⇑s.heap.objs+2:=by unfold Jg;rw[OU,a]
 have d:(Jh s.heap o1 o2).objs.size=⇑s.heap.objs+3:=by unfold Jh;rw[OU,b]
 have e:(Ji s.heap o1 o2).objs.size=⇑s.heap.objs+4:=by unfold Ji;rw[OU,d]
 have m:(EI s.heap o1 o2).objs.size=⇑s.heap.objs+5:=by unfold EI;rw[OU,e]
 have f:(EI s.heap o1 o2).get? (Ji s.heap o1 o2).objs.size=gV _:=MT _ rfl;have j:(EI s.heap o1 o2).get? (Jh s.heap o1 o2).objs.size=gV _:=Mw _ (MT _ rfl);have i:(EI s.heap o1 o2).get? (Jg s.heap o1 o2).objs.size=gV _:=Mw _ (Mw _ (MT _ rfl));have g:(EI s.heap o1 o2).get? (s.heap.push o1).objs.size=gV o2:=Mw _ (Mw _ (Mw _ (MT _ u)));have n:(EI s.heap o1 o2).get? ⇑s.heap.objs=gV o1:=Mw _ (Mw _ (Mw _ (Mw _ (MT _ t))));rw[b,d,e]at f;rw[a,b]at i;rw[d]at j;rw[a]at g;change _/\_;rw[e];show#[#[_,f,rfl],h _ f i j n g m λc o x=>Mw _ (Mw _ (Mw _ (Mw _ (Mw _ x))))]
end
end Mi
namespace Mi
open PySem PySem.Spec PyProof.Rows L2
open PySem.Builtin.SmallTypes (nextOf)
section
variable{prog:Nc}{w:Nq}{A:Nn}{E:Mu->My->Prop}{s:My}
def EJ (a:s.heap.IsTupleIter it t i)(f:s.heap.IsTuple t items)(g:items[i]?=gV x)
  (e:∀h',h'.IsTupleIter it t (i+1)->Pf it s.heap h'->Q x {s with heap:=h'}):wpAny (model prog w) A (nextOf (.ref it)) Q E s:=by
 obtain⟨o,b,hc,hd⟩:=id a;obtain⟨j,d,_,h,c⟩:=f;show Ms (NN  a.typeIs F.slot_tuple_iterator_next (N2 F.slot_tuple_iterator_next a.typeIs F.entry_tuple_iterator_next ?_ (F.args_tuple_iterator_next_1 _)));change wpAny _ _ (field _ 0 >>= _) _ _ s;show Ms (N4 b hd  rfl ?_);change wpAny _ _ _ _ _ s;show Ms (N4 b hd  rfl (Ms (Oh d c ?_)));revert M0 g;show Ms (Rh b hd (by simp) (ME #[x,rfl,ME (e _ #[_,Pb _ b (Sk (Qq hd _)),(TR ..).trans hc,?_] (Qd ..))]))
 rw[Qq hd];simp[rawInt]
def EK (f:A.handled=td)(a:s.heap.IsTupleIter it t i)(h:s.heap.IsTuple t items)(j:items[i]?=td)
  (g:∀h' e,Su it s.heap h'->(∃o,h'.get? e=gV o/\o.cls=.type "StopIteration")->E (.ref e) {s with heap:=h'}):wpAny (model prog w) A (nextOf (.ref it)) Q E s:=by
 obtain⟨o,c,hc,hd⟩:=id a;obtain⟨l,d,_,k,b⟩:=h;show Ms (NN  a.typeIs F.slot_tuple_iterator_next (N2 F.slot_tuple_iterator_next a.typeIs F.entry_tuple_iterator_next ?_ (F.args_tuple_iterator_next_1 _)));change wpAny _ _ (field _ 0 >>= _) _ _ s;show Ms (N4 c hd  rfl ?_);change wpAny _ _ _ _ _ s;show Ms (N4 c hd  rfl (Ms (Oh d b ?_)));revert M0 j;show Ms (Rc (Ms (Rh c hd (by simp) ?_)))
 show Ms ?_;show Ms (NO ?_ (by size_fits))
 show Ms  (Rv  (by first|rfl|(rfl)) (NO ?_ (by size_fits)))
 show Ms (U4 ?_)
 first|rw[f]|rw[f]
 show Ms (ME (Vy (g _ _ (((Qd ..).extBut.push _).push _) #[_,MT _ rfl,rfl])))
end
inductive Zs where|tup (a:MF)|lst (a:MF)|txt (x:M2)
abbrev Zs.T (it:MF):Zs->Mz->Nz->Prop
 |.tup a,i,h=>h.IsTupleIter it a i
 |.lst a,i,h=>h.IsListIter it a i
 |.txt x,i,h=>∃t,h.IsStrIter it "str_ascii_iterator" x t i\/h.IsStrIter it "str_iterator" x t i
abbrev Zs.at (K:MO)(H:Hp)(i:Mz)(v:V):Zs->Prop
 |.tup a=>∃xs,SqT K H a xs/\xs[i]?=gV v
 |.lst a=>∃xs,SqL K H a xs/\xs[i]?=gV v
 |.txt x=>∃c,x.cps[i]?=gV c/\v=.str #[[c].toArray]
abbrev Zs.out (K:MO)(H:Hp)(i:Mz):Zs->Prop
 |.tup a=>∃xs,SqT K H a xs/\↥xs<=i
 |.lst a=>∃xs,SqL K H a xs/\↥xs<=i
 |.txt x=>⇑x.cps<=i
def Zs.keep {S:Zs}(t:S.T it j h)(k:∀o,h.get? it=gV o->h'.get? it=gV o):S.T it j h':=by
 cases S with
 |tup a=>show t.at k
 |lst a=>show t.at k
 |txt x=>
  obtain⟨tk,t⟩:=t;show#[tk,t.imp (λ#[o,e,r]=>#[o,k _ e,r]) λ#[o,e,r]=>#[o,k _ e,r]]
section
variable{X:Cx}{J:Mq (MF×Of)}{Y:L2.St}{H:Hp}{s:My}
def zN (I:Inv X J Y H s)(h:X.K.lookup a=gV o)(f:jh X J H b):a≠b:=λz=>by
 subst z;have c:=I.ok.mod.kin a o h;rcases f.2.2.2.1 with q|q
 ·show I.ok.noex a o c q
 ·show absurd (MU (MW (I.ok.bs a o c).1) q) (NZ _)
end
end Mi
namespace Mi
open PySem PySem.Spec PyProof.Rows L2
open PySem.Builtin.SmallTypes (nextOf)
section
variable{X:Cx}{J:Mq (MF×Of)}{Y:L2.St}{H:Hp}{s:My}{h':Nz}
def zO (h:Rd H a u)(f:H b=td):a≠b:=λz=>by
 subst z;rcases h with h|⟨o,h⟩<;>(rw[f]at h;cases h)
def Inv.turnedL {ch:Mq MF}(I:Inv X J Y H s)(k:∀b o,b∉ch->s.heap.get? b=gV o->h'.get? b=gV o)(d:∀b∈ch,jh X J H b):Inv X J Y H {s with heap:=h',toks:=t'}:=by
 have a:∀b u,H b=gV u->b∉ch:=λb u e z=>by have:=(d b z).1;rw[e]at this;cases this
 show I.step (g':=s.gens) (d':=s.drawn) (ch:=ch) (λb l=>?_) (λb o _ _ hc e _=>k b o hc e) (λb o _ _ hc e _=>#[o.slots,k b o hc e]) (λ_ _ _ _ n=>n) (λb o hc e=>#[o,k b o hc e]) (λ_ _ e=>e) (λ_ _ _ e=>e) (λb ps e=>#[#[],by rw[e];simp]) (λm p=>?_) (λb u e=>?_) I.bare
 ·obtain⟨_,g,_,h,i,j⟩:=d b l;show#[h,g,i,j]
 ·obtain⟨o,es,f,t,r⟩:=p;show#[o,es,f,k _ o (λz=>(d _ z).2.1 rfl) t,r]
 ·show(I.hok b u e).stay (λc v hc q=>k c v ?_ q) (λ_ q=>q) λ_ _ q=>q
  rcases hc with z|z
  ·rw[z];show a b u e
  ·show a c _ z
def Zs.zit {S:Zs}{Uqc:MA V}(I:Inv X J Y H s)(M:∀b∈[z,q,m,n],jh X J H b)(g:match Uqc with|some v=>S.at X.K H i v|none=>S.out X.K H i) :
  ∃C,Zit X.prog X.w it (S.T it) C i (Uqc.map λv u=>RelV v u)/\C s.heap/\Zc z q m n C:=by
 have zc:∀(a:MF) (P:Nz->Prop),(∀h h',P h->(∀o,h.get? a=gV o->h'.get? a=gV o)->P h')->(∀b∈[z,q,m,n],a≠b)->Zc z q m n P:=λa P hP U h h' p k=>
  hP h h' p λo e=>k a o (U z (by simp)) (U q (by simp)) (U m (by simp)) (U n (by simp)) e
 have sep:∀{a:MF}{u:HO}{o:Of}{b:MF},(Rd H a u\/X.K.lookup a=gV o)->b∈[z,q,m,n]->a≠b:=λh f=>h.elim (λr=>zO r (M _ f).1) λr=>zN I r (M _ f)
 cases S with
 |tup a=>
  obtain⟨xs,R,l⟩:∃xs,SqT X.K H a xs/\(match Uqc with|some v=>xs[i]?=gV v|none=>↥xs<=i):=by
   cases Uqc<;>show g
  obtain⟨y,T,p,_⟩:=I.tuple R;have w:∀b∈[z,q,m,n],a≠b:=λb f=>by
   rcases R with r|⟨o,_,_,r,_⟩
   ·show zO r (M b f).1
   ·show zN I r (M b f)
  show#[λh=>h.IsTuple a y.toArray,#[λj h h' t k=>Zs.keep (S:=.tup a) t k,λV d B A Q E t c L=>?_,λO B A Q E N t c G=>?_],p,zc a _ (λh h' #[o,e,r] k=>#[o,k _ e,r]) w]
  ·cases Uqc with
   |none=>cases d
   |some v=>
    cases d;obtain⟨u,W,ru⟩:=T.get l;show EJ t c (x:=u) (by simpa using W) λh' t' D=>L u h' A.toks ru t' D
  ·cases Uqc with
   |some v=>cases O
   |none=>
    have:=L2.Vals.length T;have Z:↥xs<=i:=l;show EK N t c (by simp;omega) G
 |lst a=>
  obtain⟨xs,R,l⟩:∃xs,SqL X.K H a xs/\(match Uqc with|some v=>xs[i]?=gV v|none=>↥xs<=i):=by
   cases Uqc<;>show g
  obtain⟨y,T,p,_⟩:=I.list R;have w:∀b∈[z,q,m,n],a≠b:=λb f=>by
   rcases R with r|⟨o,_,_,r,_⟩
   ·show zO r (M b f).1
   ·show zN I r (M b f)
  show#[λh=>h.IsList a y.toArray,#[λj h h' t k=>Zs.keep (S:=.lst a) t k,λV d B A Q E t c L=>?_,λO B A Q E N t c G=>?_],p.isList,zc a _ (λh h' #[o,e,r] k=>#[o,k _ e,r]) w]
  ·cases Uqc with
   |none=>cases d
   |some v=>
    cases d;obtain⟨u,W,ru⟩:=T.get l;show RX t c (x:=u) (by simpa using W) λh' t' D=>L u h' A.toks ru t' D
  ·cases Uqc with
   |some v=>cases O
   |none=>
    have:=L2.Vals.length T;have Z:↥xs<=i:=l;show Sl N t c (by simp;omega) G
 |txt x=>
  show#[λ_=>UA,#[λj h h' t k=>Zs.keep (S:=.txt x) t k,λV d B A Q E t _ L=>?_,λO B A Q E N t _ G=>?_],trivial,λ_ _ _ _=>trivial]
  ·cases Uqc with
   |none=>cases d
   |some v=>
    cases d;obtain⟨c,hc,rfl⟩:∃c,x.cps[i]?=gV c/\v=.str #[[c].toArray]:=g;obtain⟨tk,t|t⟩:=t
    ·show wpAny_nextOf_ascii_item t hc λh' t' D=>L _ h' _ #[_,rfl] #[tk,.inl t'] D
    ·show wpAny_nextOf_wide_item t hc λh' t' D=>L _ h' _ #[_,rfl] #[tk,.inr t'] D
  ·cases Uqc with
   |some v=>cases O
   |none=>
    have l:x.cps[i]?=td:=by simpa using(show ⇑x.cps<=i from g)
    obtain⟨tk,t|t⟩:=t
    ·show wpAny_nextOf_ascii_end N t l G
    ·show wpAny_nextOf_wide_end N t l G
end
abbrev Zs.is (K:MO)(H:Hp)(i:Mz)(v:V):Zs->Prop
 |.tup a=>∀xs,SqT K H a xs->xs[i]?=gV v
 |.lst a=>∀xs,SqL K H a xs->xs[i]?=gV v
 |.txt x=>∃c,x.cps[i]?=gV c/\v=.str #[[c].toArray]
def Zs.at_is {S:Zs}{Y:L2.St}(I:Inv X J Y H s)(h:S.at X.K H i v):S.is X.K H i v:=by
 cases S with
 |tup a=>obtain⟨xs,b,c⟩:=h;show λys d=>by rw[I.tuple_inj d b];show c
 |lst a=>obtain⟨xs,b,c⟩:=h;show λys d=>by rw[I.list_inj d b];show c
 |txt x=>show h
end Mi
namespace Mi
open PySem PySem.Spec PyProof.Rows L2
abbrev Kt:W->MA (Mq W)
 |.tup xs=>gV xs
 |.str x=>gV (x.cps.toList.map λc=>.str #[[c].toArray])
 |_=>td
section
variable{X:Cx}{J:Mq (MF×Of)}{Y:L2.St}{H:Hp}{s:My}{A:Mq MF}
abbrev ZRel (K:MO)(A:Mq MF)(H:Hp)(xs:Mq W):Zs->Prop
 |.tup a=>∃vs,SqT K H a vs/\RelL K A H xs vs
 |.lst a=>N6
 |.txt x=>xs=x.cps.toList.map λc=>.str #[[c].toArray]
def ZRel.mono {K:MO}(e:Ext K A H b c)(h:ZRel K A H xs S):ZRel K b c xs S:=by
 cases S with
 |tup a=>obtain⟨vs,d,f⟩:=h;show#[vs,e.tp _ _ d,f.mono e]
 |lst a=>show h
 |txt x=>show h
def ZRel.at {K:MO}(h:ZRel K A H xs S)(hi:xs[i]?=gV w):∃v,S.at K H i v/\Rel K A H w v:=by
 cases S with
 |tup a=>obtain⟨vs,b,d⟩:=h;obtain⟨v,e,f⟩:=d.get hi;show#[v,#[vs,b,e],f]
 |lst a=>show h.elim
 |txt x=>
  subst h;rw[MD,Mv]at hi;obtain⟨c,hc,rfl⟩:=hi;show#[.str _,#[c,by rw[<- NY];show hc,rfl],.str]
def ZRel.is {K:MO}(h:ZRel K A H xs S)(hi:xs[i]?=gV w)(z:S.is K H i v):Rel K A H w v:=by
 obtain⟨j,d,f⟩:=h.at hi;cases S with
 |tup a=>
  obtain⟨vs,q,e⟩:=d;have:=z vs q;rw[e]at this;cases this
  show f
 |lst a=>show h.elim
 |txt x=>
  obtain⟨c,e,rfl⟩:=d;obtain⟨g,b,rfl⟩:=z;rw[e]at b;cases b
  show f
def ZRel.out {K:MO}(h:ZRel K A H xs S)(hi:↥xs<=i):S.out K H i:=by
 cases S with
 |tup a=>obtain⟨vs,b,c⟩:=h;show#[vs,b,by rw[<- ↥c];show hi]
 |lst a=>show h.elim
 |txt x=>
  subst h;change ⇑x.cps<=i
  simpa using hi
def DA (I:Inv X J Y H s)(r:Rel X.K A H x v)(i:RelV v u)(e:Kt x=gV xs) :
  ∃ S o C,ZRel X.K A H xs S/\fD X.prog X.w u o C/\C s.heap/\(∀h o,C h->C (h.push o))/\o.isFreed=false/\∀it h,h.get? it=gV o->S.T it 0 h:=by
 cases r with
 |@tup ws a vs g k=>
  cases e;obtain⟨d,l,p,_⟩:=I.tuple g;obtain rfl:u=NK a:=i;show#[.tup a,{cls:=.type "tuple_iterator",data:=.fields [.ref a,.int 0 0].toArray},λh=>h.IsTuple a d.toArray,#[vs,g,k],λB s Q E c b=>Qr c b,p,λh o #[j,e,r]=>#[j,Mw _ e,r],rfl,λit h e=>#[_,e,rfl,rfl]]
 |@str x=>
  cases e;obtain⟨t,rfl⟩:=i;cases f:x.cps.all (· < 128)with
  |false=>show#[.txt x,{cls:=.type "str_iterator",data:=.fields [.str x t,.int 0 0].toArray},λ_=>UA,rfl,λB s Q E _ b=>wpAny_pyIter_wide f b,trivial,λ_ _ _=>trivial,rfl,λit h e=>#[t,.inr #[_,e,rfl,rfl]]]
  |true=>show#[.txt x,{cls:=.type "str_ascii_iterator",data:=.fields [.str x t,.int 0 0].toArray},λ_=>UA,rfl,λB s Q E _ b=>wpAny_pyIter_ascii f b,trivial,λ_ _ _=>trivial,rfl,λit h e=>#[t,.inl #[_,e,rfl,rfl]]]
 |_=>cases e
def zP:bootBuiltins "zip" = gV (.type "zip"):=rfl
def DB (I:Inv X J Y H s)(i:RelV (.ref a) u)(f:SqL X.K H a xs) :
  ∃ o C,fD X.prog X.w u o C/\C s.heap/\(∀h o,C h->C (h.push o))/\o.isFreed=false/\∀it h,h.get? it=gV o->(Zs.lst a).T it 0 h:=by
 obtain⟨b,j,p,_⟩:=I.list f;obtain rfl:u=NK a:=i;show#[{cls:=.type "list_iterator",data:=.fields [.ref a,.int 0 0].toArray},λh=>h.IsList a b.toArray,λB s Q E c d=>Pg c d,p.isList,λh o #[g,e,r]=>#[g,Mw _ e,r],rfl,λit h e=>#[_,e,rfl,rfl]]
end
def rh:typeLookup (.type "list") "keys" = pure td:=Us (by kernel_rfl)
def tH:typeLookup (.type "zip") "keys" = pure td:=Us (by kernel_rfl)
section
variable{prog:Nc}{w:Nq}{A:Nn}{E:Mu->My->Prop}{s:My}
def rj (m:s.heap.get? a=gV o)(hc:o.cls=.type "list")(f:o.data=.seq xs k)(hd:o.dict=td)(q:A.handled=td)
  (h:∀h' tk,(∀b ob,s.heap.get? b=gV ob->h'.get? b=gV ob)->Q td {s with heap:=h',toks:=tk}):wpAny (model prog w) A (getAttr? (.ref a) "keys") Q E s:=by
 obtain⟨c,p,n,t⟩:=o;simp only at hc f hd;subst hc f hd;obtain⟨r,g,d,tk,os⟩:=s;have l:∀j,(#[r,g,d,j,os]:My).TypeIs (.ref a) "list":=λ_=>#[_,m,rfl]
 have u:=Tp;have x:=F.slot_list_getattribute.lookup;have y:=F.slot_list_getattribute.bind (.ref a);have z:=am_list_getattr_none;dsimp only[getAttr?,getAttrBy?,getAttrBy]
 repeat (any_goals (first|assumption|show l _|((with_reducible change wpAny _ _ (call (U6 "list.__getattribute__") _ _) _ _ _);show PD F.slot_list_getattribute (l _) am_entry_list_getattribute (F.args_list_getattribute_2 _ _) (meets_getattribute_miss_list a xs k t "keys" _ rh #v[]) #[m,q,λh' j e i=>?_])|wp_step))
 obtain⟨t',C,B⟩:=i.there;change wpAny _ _ (getattributeRaised _ _ _ _ _ _ _) _ _ _;unfold getattributeRaised
 repeat (any_goals (first|assumption|wp_step))
 show h _ _ i.keeps
end
def fL:entryFor table "dict.update.loop" = gV PV.«dict.update.loop»:=entryFor_of_tree (by kernel_rfl)
def dz:plainId "dict.update.loop" = true:=by decide +kernel
structure PSrc (prog:Nc)(w:Nq)(A:Nn)(I d:MF)(its:Mq (bD×V))(wr:Mq MF)(St:Mz->Nz->Prop):Prop where
 frame:∀i h h',St i h->(∀b o,b≠d->h.get? b=gV o->h'.get? b=gV o)->St i h'
 item:∀(i:Mz) (s:My) (Q:MA Mu->My->Prop) (E:Mu->My->Prop) (k:bD) (y:V),its[i]?=gV (k,y)->d<⇑s.heap.objs->St i s.heap->
  (∀p u x h' tk,RelV (kV k) u->RelV y x->R1 h' p [u,x].toArray->St (i+1) h'->(∀b o,b∉wr->s.heap.get? b=gV o->h'.get? b=gV o)->Q (gV (.ref p)) {s with heap:=h',toks:=tk})->wpAny (model prog w) A (pyNext (.ref I)) Q E s
 done:∀(s:My) (Q:MA Mu->My->Prop) (E:Mu->My->Prop),St ↥its s.heap->
  (∀h' tk,(∀b o,b∉wr->s.heap.get? b=gV o->h'.get? b=gV o)->Q td {s with heap:=h',toks:=tk})->wpAny (model prog w) A (pyNext (.ref I)) Q E s
section
variable{prog:Nc}{w:Nq}{A:Nn}{R:Tf->My->Prop}{I d:MF}{its:Mq (bD×V)}{wr:Mq MF}{St:Mz->Nz->Prop}
def lG (W:PSrc prog w A.in1 I d its wr St)(hd:d∉wr)(v:Mu):∀ k i t s U vs,↥its-i=k->i<=↥its->St i s.heap->KV U vs->s.heap.DictOf (aR prog w) d vs->
  ↥U+k<=sizeLine->
  (∀h' tk z,KV (kY U (its.drop i)) z->h'.DictOf (aR prog w) d z->(∀b o,b∉wr->b≠d->s.heap.get? b=gV o->h'.get? b=gV o)->R (.ok (.ret v)) {s with heap:=h',toks:=tk})->
  codeAny (model prog w) A (.builtin "dict.update.loop" #[[.ref d,.ref I,.int i t,v],[]]) R s:=by
 have a:∀{h h':Nz}{vs:Mq _},h.DictOf _ d vs->(∀b o,b∉wr->h.get? b=gV o->h'.get? b=gV o)->h'.DictOf (aR prog w) d vs:=
  λ{h h' vs} #[o,es,ep,e,r] k=>#[o,es,ep,k d o hd e,r]
 intro k
 induction k with
 |zero=>
  intro i t s U vs hk hi g D B T C;obtain rfl:i=↥its:=∅
  show N3 fL ?_;show Ms (W.done s _ _ g λh' tk m=>?_)
  rw[List.drop_length]at C;show Ms (ME (ME (C h' tk vs D (a B m) λb o j _ e=>m b o j e)))
 |succ k ih=>
  intro i t s U vs hk hi g D B T C;have c:i<↥its:=∅
  obtain⟨⟨f,y⟩,L⟩:∃p,its[i]?=gV p:=#[its[i],MC c];show N3 fL ?_;rw[OT dz _];show Ms (W.item i s _ _ f y L (let ⟨_,_,_,e,_⟩:=B;MW e) g λp u x h' tk X Y #[o,ho,hc,n,hdat] hst' m=>?_)
  show Ms (N1 ?_);have S:(#[h',s.gens,s.drawn,tk,s.os]:My).TypeIs (.ref p) _:=#[_,ho,hc];show Ms ?_;show QE (Ms (P2 S ?_));show Ms (Oh ho hdat (ME ?_));show N1 ?_;have E:=a B m;show wpAny_dictSet_pairs  (nB X) E (λZ G q=>?_) (by rw[<- ↥D];omega)
  have M:=D.put f Y;show ME #[OQ dz _,ih (i+1) _ _ _ _ ∅ c (W.frame _ _ _ hst' λb o j e=>(q.2 b j).trans e) M G (by have:=eB U f y;omega) λQ O P N H J=>?_]
  show C Q O P ?_ H λb o j l e=>J b o j l ((q.2 b l).trans (m b o j e))
  rw[show its.drop i=(f,y)::its.drop (i+1) by rw[List.drop_eq_getElem_cons c];rw[MC c]at L;rw[NE L]]
  show N
end
noncomputable abbrev Kps (h h':Nz):Prop:=∀b o,h.get? b=gV o->h'.get? b=gV o
def Kps.trans (a:Kps h h')(b:Kps h' d):Kps h d:=λc o e=>b c o (a c o e)
structure DArg (prog:Nc)(w:Nq)(A:Nn)(v:Mu)(T:N9)(low:Mz)(h0:Nz)(its:Mq (bD×V)):Prop where
 type:∀s:My,Kps h0 s.heap->s.TypeIs v T
 nod:(Pk T != Pk "dict")=true
 keys:∀(s:My) (Q:MA Mu->My->Prop) (E:Mu->My->Prop),Kps h0 s.heap->(∀h' tk,Kps s.heap h'->Q td {s with heap:=h',toks:=tk})->wpAny (model prog w) A (getAttr? v "keys") Q E s
 iter:∀(d:MF) (s:My) (Q:Mu->My->Prop) (E:Mu->My->Prop),Kps h0 s.heap->⇑h0.objs<=d->(∃o,s.heap.get? d=gV o)->
  (∀I wr St h' tk,PSrc prog w A I d its wr St->d∉wr->(∀b∈wr,low<=b)->St 0 h'->Kps s.heap h'->Q (.ref I) {s with heap:=h',toks:=tk})->wpAny (model prog w) A (pyIter v) Q E s
section
variable{prog:Nc}{w:Nq}{A:Nn}{E:Mu->My->Prop}{s:My}{v:Mu}{T:N9}{low:Mz}{its:Mq (bD×V)}
def fY (D:DArg prog w A.in1.in1 v T low s.heap its)(u:↥its<=sizeLine)
  (h:∀h' tk vs,KV (kY [] its) vs->h'.DictOf (aR prog w) ⇑s.heap.objs vs->(∀b o,b<low->s.heap.get? b=gV o->h'.get? b=gV o)->Q (.ref ⇑s.heap.objs) {s with heap:=h',toks:=tk}) (hl:low<=⇑s.heap.objs) :
  wpAny (model prog w) A (call (.type "dict") [v]) Q E s:=by
 show UN (Q₁:=λobj c=>obj=.ref _/\c={s with heap:=s.heap.push _}) F.kt_called_dict (F.kt_typeCall_dict_1 _) F.entry_dict_init (kt_code_dict_new _ #[rfl,rfl]) ?_
 rintro obj c ⟨rfl,rfl⟩;have a:(s.heap.push _).DictOf (aR prog w) _ []:=V3 _;have d:Kps _ (s.heap.push {cls:=.type "dict",data:=.dict #[]}):=λb o e=>Mw _ e
 show#[a.typeIs,F.args_dict_init_2 _ _,?_];show Ms ?_;show Ms (Sh a.typeIs ?_);show ME ?_;change wpAny _ _ _ _ _ _;show Ms (P2 (D.type _ d) ?_);rw[M4 D.nod];show Ms (D.keys _ _ _ d λC x f=>?_)
 show Ms (Rc ?_);show Ms (D.iter _ _ _ _ (d.trans f) (MH _) #[_,f _ _ (MT _ rfl)] λI wr B q y W hd hw st p=>?_)
 have g:q.DictOf _ _ []:=let ⟨o,es,ep,e,r⟩:=a;#[o,es,ep,p _ _ (f _ _ e),r]
 show ME #[OQ dz _,lG W hd _ _ 0 _ _ [] [] rfl (Os _) st .nil g (by simpa using u) λt l m k i j=>?_]
 show#[rfl,h t l m k i λb o n e=>j b o (λz=>absurd (hw b z) (Nat.not_le.mpr n)) (M3 (MU n hl)) (p _ _ (f _ _ (d _ _ e)))]
end
open PySem.Builtin.SmallTypes (nextOf)
section
variable{prog:Nc}{w:Nq}{A:Nn}{E:Mu->My->Prop}{s:My}
abbrev Jj (h:Nz)(items:NH Mu)(a:Mq (bD×V)):Prop:=⇑items=↥a/\∀(i:Mz) (k:bD) (y:V),a[i]?=gV (k,y)->∃(p:MF) (u x:Mu),items[i]?=gV (NK p)/\RelV (kV k) u/\RelV y x/\R1 h p [u,x].toArray
def xz (H:A.handled=td)(hl:PlainL f l items)(I:Jj f items g):DArg prog w A (.ref l) "list" ⇑f.objs f g where
 type:=λs k=>let ⟨o,n,e,hc,hd,q⟩:=hl;#[o,k _ _ e,hc]
 nod:=by decide
 keys:=λs Q E k h=>by
  obtain⟨o,n,e,hc,hd,q⟩:=hl;show rj (k _ _ e) hc q hd H h
 iter:=λd s Q E k hd #[od,hod] h=>by
  have G:=hl.isList;have j:s.heap.IsList l _:=let ⟨o,e,r⟩:=G;#[o,k _ _ e,r]
  have J:=let ⟨o,e,r⟩:=G;MW e
  have m:=MW hod;show Pg j ?_;have W:PSrc prog w A ⇑s.heap.objs d g [⇑s.heap.objs] (λi h=>h.IsListIter ⇑s.heap.objs l i/\h.IsList l items/\∀b o,b<⇑f.objs->f.get? b=gV o->h.get? b=gV o):=by
   show#[λi h h' #[st,c,hk] kp=>#[st.at λo e=>kp _ _ (NR m) e,let ⟨o,e,r⟩:=c;#[o,kp _ _ (M3 (MU J hd)) e,r],λb o a e=>kp _ _ (M3 (MU a hd)) (hk b o a e)],?_,?_]
   ·intro i Y N M B y q _ ⟨st,c,hk⟩ v;obtain⟨p,u,x,P,U,X,T,D,ct,S,O⟩:=I.2 i B y q;show RM st c P λh' C t=>?_
    have L:=MW D;have ne:∀{b},b<⇑f.objs->b≠⇑s.heap.objs:=λ{b} a=>M3 (Oa (MU a hd) m)
    show v p u x h' _ U X #[T,(t.2 _ (ne L)).trans (hk _ _ L D),ct,S,O] #[C,let ⟨o,e,r⟩:=c;#[o,(t.2 _ (ne J)).trans e,r],λb o a e=>(t.2 _ (ne a)).trans (hk b o a e)] λb o a e=>(t.2 b (λz=>a (by rw[z];show Qx _))).trans e
   ·intro Y N M ⟨st,c,hk⟩ v;show Sf H st c (by rw[Rl,I.1];show MH _) λh' R=>v h' _ λb o a e=>R b o (λz=>a (by rw[z];show Qx _)) e
  show h _ _ _ _ _ W ?_ (λb a=>?_) #[#[_,MT _ rfl,rfl,rfl],let ⟨o,e,r⟩:=j;#[o,Mw _ e,r],λb o a e=>Mw _ (k b o e)] λb o e=>Mw _ e
  ·intro z;rw[MS]at z;show absurd z (M3 m)
  ·rw[MS.mp a];show M1 hd (Pe m)
end
end Mi
namespace Mi
open PySem PySem.Spec PyProof.Rows L2
open PySem.Builtin.SmallTypes (nextOf)
def eA:entryFor table "zip.__getattribute__" = gV PV.«object.__getattribute__»:=
 entryFor_alias (id':="object.__getattribute__") (by kernel_rfl) (by decide +kernel) (by decide +kernel) (by kernel_rfl)
def dH (a:MF)(xs:NH Mu)(i:NH (MA Mu))(name:M2)(u:VH)(e:typeLookup (.type "zip") name=pure td)(b:(["__module__","__name__","__qualname__","__doc__","__annotations__"]:Mq M2).contains name=false)(hsz:↥name+100<=sizeLine:=by size_fits) :
  Meets (PV.«object.__getattribute__» #[[.ref a,.str name u],[]]) (λA R s=>s.heap.get? a=gV {cls:=.type "zip",dict:=td,data:=.fields xs,slots:=i}/\raisesAttr (.ref a) name A R s):=
 Meets.of_wp λprog w A R s c=>by
  obtain⟨f,g,d,tk,os⟩:=s;obtain⟨h,c⟩:=c;have j:(#[f,g,d,tk,os]:My).TypeIs (.ref a) "zip":=#[_,h,rfl];dsimp only[PV.«object.__getattribute__»]
  repeat (any_goals (first|assumption|wp_step))
  revert b PF QT
  repeat (any_goals (first|assumption|wp_step))
  show wpAny_raiseAttrError c.1 c.2 (attrMsg_fits (by decide +kernel) hsz)
def js:typeLookup (.type "zip") "__getattr__" = pure td:=by rw[typeLookup_type,builtinLookup_eq_fast];kernel_rfl
section
variable{prog:Nc}{w:Nq}{A:Nn}{E:Mu->My->Prop}{s:My}
def tJ (j:s.heap.get? a=gV {cls:=.type "zip",dict:=td,data:=.fields xs,slots:=k})(l:A.handled=td)
  (h:∀h' tk,(∀b ob,s.heap.get? b=gV ob->h'.get? b=gV ob)->Q td {s with heap:=h',toks:=tk}):wpAny (model prog w) A (getAttr? (.ref a) "keys") Q E s:=by
 obtain⟨m,g,d,tk,os⟩:=s;have i:∀f,(#[m,g,d,f,os]:My).TypeIs (.ref a) "zip":=λ_=>#[_,j,rfl]
 have n:=Tp;have o:=F.slot_zip_getattribute.lookup;have p:=F.slot_zip_getattribute.bind (.ref a);have q:=js;unfold getAttr? getAttrBy? getAttrBy
 repeat (any_goals (first|assumption|show i _|((with_reducible change wpAny _ _ (call (U6 "zip.__getattribute__") _ _) _ _ _);show PD F.slot_zip_getattribute (i _) eA (F.args_zip_getattribute_2 _ _) (dH a xs k "keys" _ tH #v[]) #[j,l,λh' f e c=>?_])|wp_step))
 obtain⟨t',t,r⟩:=c.there;change wpAny _ _ (getattributeRaised _ _ _ _ _ _ _) _ _ _;unfold getattributeRaised
 repeat (any_goals (first|assumption|wp_step))
 show h _ _ c.keeps
end
end Mi
namespace Mi
open PySem PySem.Spec PyProof.Rows L2
open PySem.Builtin.SmallTypes (nextOf)
noncomputable abbrev xA (h:Nz)(z p q t:MF)(f1:M9):Prop:=h.get? z=gV {cls:=.type "zip",dict:=td,data:=.fields [rawInt t,.bool f1,.bool false,.ref p,.ref q].toArray,slots:=#[]}
section
variable{prog:Nc}{w:Nq}
variable{B:Nn}{E:Mu->My->Prop}{s:My}{z p q i1 i2 t:MF}{T1 T2:Mz->Nz->Prop}{C1 C2:Nz->Prop}{i:Mz}{a b:Mu}{f1:M9}
def kq {a:MF}(b:s.heap.get? a=gV o)(h:wpAny (model prog w) B (k (gV o)) Q E s):wpAny (model prog w) B (loadIfAlive a >>= k) Q E s:=by
 intro Γ pos hΓ;have:=h Γ pos hΓ;change Sem.wp _ Γ (Sem.bind _ k) _ _ pos s;rw[Sem.wp_bind];unfold loadIfAlive;rw[Sem.wp_loadIfAlive,b];show this
def nQ {Q:Mu->My->Prop}(D:Zap z p q i1 i2)(I:Zit prog w i1 T1 C1 i G)(T:∀y,G=gV y->Zit prog w i2 T2 C2 i d)(k1:Zc z q i1 i2 C1)(k2:Zc z q i1 i2 C2)(hh:B.handled=td)
  (C:xA s.heap z p q t f1) (hp:QG s.heap p (.ref i1) (.ref i2)) (ht:∃o,s.heap.get? t=gV o) (t1:T1 i s.heap) (t2:T2 i s.heap) (c1:C1 s.heap) (c2:C2 s.heap)
  (hI:∀y H,G=gV y->d=gV H->∀n u v h' tk,y u->H v->(∃f,xA h' z p q t f)->T1 (i+1) h'->T2 (i+1) h'->⇑s.heap.objs<=n->QG h' n u v->
   (∀c o,c≠z->c≠i1->c≠i2->s.heap.get? c=gV o->h'.get? c=gV o)->Q (.ref n) {s with heap:=h',toks:=tk})
  (hE:G=td\/d=td->∀h' tk e,(∀c o,c≠z->c≠q->c≠i1->c≠i2->s.heap.get? c=gV o->h'.get? c=gV o)->(∃o,h'.get? e=gV o/\o.cls=.type "StopIteration")->E (.ref e) {s with heap:=h',toks:=tk}) :
  wpAny (model prog w) B (PV.«zip.__next__» #[[.ref z],[]]) (λfin R=>∃v,fin=.done (.ret v)/\Q v R) E s:=by
 change wpAny _ _ (field _ 2 >>= _) _ _ s;show Ms (N4 C rfl (x:=.bool _) rfl ?_);show Ms (N4 C rfl  rfl (Ms (Oh hp rfl ?_)));obtain⟨ot,X⟩:=ht;have free:wpAny (model prog w) B (SY (.ref z)) (λa R=>a=false/\∃M f,R={s with heap:=M}/\xA M z p q t f/\(∀c o,c≠z->s.heap.get? c=gV o->M.get? c=gV o)/\⇑M.objs=⇑s.heap.objs) E s:=by
  show Ms (N4 C rfl  rfl ?_);show kq (by show X) ?_
  show Ms (N4 C rfl (x:=.bool f1) rfl ?_);cases f1 with
  |true=>
   show ME #[rfl,s.heap,true,rfl,C,λ_ _ _ e=>e,rfl]
  |false=>
   show Ms (O6 C (by simp) λg1 zz1 s1=>ME #[rfl,g1,true,rfl,zz1,λc o hc e=>s1.extBut c o hc e,s1.1])
 show Ms (Op free (λr R hr=>?_) λ_ _ x=>x)
 obtain⟨rfl,M,f,rfl,zz0,k,Z⟩:=hr;revert PF QT;revert List.forIn_toArray Qn UO;show Ms (Ms (Ms (N1 ?_)));have N:=I.keep _ _ _ t1 λo e=>k _ _ D.iz e
 have J:=k1 _ _ c1 λc o hc _ _ _ e=>k c o hc e
 cases b:G with
 |none=>
  show Ms (I.stop b _ _ _ _ hh N J λg2 e V W=>hE (.inl b) g2 s.toks e (λc o g _ h _ x=>V _ _ h (k c o g x)) W)
 |some y=>
  have P:=T y b;show Ms (I.next y b _ _ _ _ N J λu g2 tk2 hu t12 Y=>ME (ME ?_))
  show Ms (Ms (N1 ?_));have l:=λc o g h x=>Y.extBut _ _ h (k c o g x)
  have zz2:=Y.extBut _ _ D.iz.symm zz0;have O:=P.keep _ _ _ t2 λo e=>l _ _ D.jz D.ij.symm e
  have L:=k2 _ _ c2 λc o g a2 h _ e=>l c o g h e
  cases j:d with
  |none=>
   show Ms (P.stop j _ _ _ _ hh O L λA e V W=>hE (.inr j) A tk2 e (λc o g a2 h U x=>V _ _ U (l c o g h x)) W)
  |some H=>
   show Ms (P.next H j _ _ _ _ O L λv A tk4 hv t24 S=>ME (ME (ME ?_)))
   show Ms (Rk ?_ (by show Ni rfl))
   have sz:⇑A.objs=⇑s.heap.objs:=by rw[S.1,Y.1,Z]
   have zz4:=S.extBut _ _ D.jz.symm zz2;have t14:=I.keep _ _ _ t12 λo e=>S.extBut _ _ D.ij e
   have m:∀c o,A.get? c=gV o->(A.push {cls:=.type "tuple",data:=.seq [u,v].toArray}).get? c=gV o:=λc o e=>Mw _ e
   show ME #[_,rfl,hI y H b j ⇑A.objs u v _ tk4 hu hv #[f,m _ _ zz4] (I.keep _ _ _ t14 λo e=>m _ _ e) (P.keep _ _ _ t24 λo e=>m _ _ e) (by rw[sz];show MH _) (MT _ rfl) λc o g h U e=>m _ _ (S.extBut _ _ U (l c o g h e))]
end
end Mi
namespace Mi
open PySem PySem.Spec PyProof.Rows L2
open PySem.Builtin.SmallTypes (nextOf)
inductive Src (h:Nz)(it a:MF)(items:NH Mu):(Mz->Nz->Prop)->(Nz->Prop)->Prop
 |lst (e:h.IsList a items):Src h it a items (λi h=>h.IsListIter it a i) (λh=>h.IsList a items)
 |tup (e:h.IsTuple a items):Src h it a items (λi h=>h.IsTupleIter it a i) (λh=>h.IsTuple a items)
section
variable{prog:Nc}{w:Nq}{A:Nn}{h:Nz}{it a:MF}{items:NH Mu}{T:Mz->Nz->Prop}{C:Nz->Prop}
def Src.zit (x:Src h it a items T C)(i:Mz):Zit prog w it T C i (items[i]?.map λv u=>u=v):=by
 cases x with
 |lst e=>
  show#[λj h h' t k=>t.at k,λV g B s Q E t c d=>?_,λf B s Q E l t c b=>?_]
  ·obtain⟨v,m,rfl⟩:=Mv.mp g;show RX t c m λh' t' n=>d v h' _ rfl t' n
  ·show Sl l t c (by simpa using f) b
 |tup e=>
  show#[λj h h' t k=>t.at k,λV g B s Q E t c d=>?_,λf B s Q E l t c b=>?_]
  ·obtain⟨v,m,rfl⟩:=Mv.mp g;show EJ t c m λh' t' n=>d v h' _ rfl t' n
  ·show EK l t c (by simpa using f) b
def Src.c (x:Src h it a items T C):C h:=by cases x<;>assumption
def Src.keepC (x:Src h it a items T C)(c:C b)(k:∀o,b.get? a=gV o->d.get? a=gV o):C d:=by
 cases x with
 |lst e=>obtain⟨o,e,r⟩:=c;show#[o,k _ e,r]
 |tup e=>obtain⟨o,e,r⟩:=c;show#[o,k _ e,r]
end
section
variable{prog:Nc}{w:Nq}{A:Nn}{h0:Nz}{low:Mz}{z p q i1 i2 a1 a2:MF}{x1 x2:NH Mu}{T1 T2:Mz->Nz->Prop}{C1 C2:Nz->Prop}
abbrev Lj (x1 x2:NH Mu)(a:Mq (bD×V)):Prop:=↥a=min ⇑x1 ⇑x2/\∀(i:Mz) (k:bD) (y:V),a[i]?=gV (k,y)->∃(u x:Mu),x1[i]?=gV u/\x2[i]?=gV x/\RelV (kV k) u/\RelV y x
abbrev Mj (z p q i1 i2 d:MF)(T1 T2:Mz->Nz->Prop)(C1 C2:Nz->Prop)(i:Mz)(h:Nz):Prop:=
 ((Vd h z p q .none)\/∃t f,xA h z p q t f/\t≠d/\t≠z/\t≠q/\t≠i1/\t≠i2/\∃o,h.get? t=gV o)/\QG h p (.ref i1) (.ref i2)/\(∃a b,QG h q a b)/\T1 i h/\T2 i h/\C1 h/\C2 h
def zQ (hh:A.handled=td)(hz:Vd h0 z p q .none)(hp:QG h0 p (.ref i1) (.ref i2))(hq:QG h0 q .none .none)(D:Zap z p q i1 i2)(s1:Src h0 i1 a1 x1 T1 C1)(s2:Src h0 i2 a2 x2 T2 C2)(t1:T1 0 h0)(t2:T2 0 h0)
  (l1:a1<low) (l2:a2<low) (hl:∀b∈[z,p,q,i1,i2],low<=b/\b<⇑h0.objs) (hl0:low<=⇑h0.objs) (hx:Lj x1 x2 m):DArg prog w A (.ref z) "zip" low h0 m where
 type:=λs k=>#[_,k _ _ hz,rfl]
 nod:=by decide
 keys:=λs Q E k h=>tJ (k _ _ hz) hh h
 iter:=λd s Q E k hd #[od,hod] h=>by
  have Zz:∀i,Zit prog w i1 T1 C1 i (x1[i]?.map λv u=>u=v):=λi=>s1.zit i
  have Zq:∀i,Zit prog w i2 T2 C2 i (x2[i]?.map λv u=>u=v):=λi=>s2.zit i
  have ne:=λ{b} l=>M3 (MU (hl b l).2 hd)
  have N:=λ{b} l=>M3 (MU l1 (hl b l).1)
  have O:=λ{b} l=>M3 (MU l2 (hl b l).1)
  have I:Zc z q i1 i2 C1:=λh h' c kp=>s1.keepC c λo e=>kp _ _ (N (by simp)) (N (by simp)) (N (by simp)) (N (by simp)) e
  have J:Zc z q i1 i2 C2:=λh h' c kp=>s2.keepC c λo e=>kp _ _ (O (by simp)) (O (by simp)) (O (by simp)) (O (by simp)) e
  have W:PSrc prog w A z d m [z,q,i1,i2] (Mj z p q i1 i2 d T1 T2 C1 C2):=by
   show#[?_,?_,?_]
   ·rintro i h h' ⟨j,Y,⟨b1,b2,qq⟩,P,R,S,T⟩ kp;show#[?_,kp _ _ (ne (by simp)) Y,#[b1,b2,kp _ _ (ne (by simp)) qq],(Zz 0).keep _ _ _ P λo e=>kp _ _ (ne (by simp)) e,(Zq 0).keep _ _ _ R λo e=>kp _ _ (ne (by simp)) e,
     s1.keepC S λo e=>kp _ _ (M3 (MU l1 (M1 hl0 hd))) e,s2.keepC T λo e=>kp _ _ (M3 (MU l2 (M1 hl0 hd))) e]
    rcases j with j|⟨t,f,j,n1,n2,n3,n4,n5,o,e⟩
    ·show .inl (kp _ _ (ne (by simp)) j)
    ·show .inr #[t,f,kp _ _ (ne (by simp)) j,n1,n2,n3,n4,n5,o,kp _ _ n1 e]
   ·rintro i s0 Q0 E0 key y hx' hd0 ⟨j,Y,⟨b1,b2,qq⟩,P,R,S,T⟩ hQ;obtain⟨u,x,B,C,ru,rx⟩:=hx.2 i key y hx';have L:(x1[i]?.map λ(v u)=>u=v)=gV λH=>H=u:=by rw[B];rfl
    have M:(x2[i]?.map λ(v u)=>u=v)=gV λH=>H=x:=by rw[C];rfl
    have W1:=Zz i;have W2:=Zq i;rw[L]at W1;rw[M]at W2;have hT:s0.TypeIs (.ref z) "zip":=by
     rcases j with j|⟨t,f,j,_⟩
     ·show#[_,j,rfl]
     ·show#[_,j,rfl]
    have r:∀{b o},s0.heap.get? b=gV o->b<s0.heap.objs.size:=λe=>MW e
    show Ms (Qj (NN  hT F.slot_zip_next (N2 F.slot_zip_next hT F.entry_zip_next ?_ (F.args_zip_next_1 _))));have z1:i1<s0.heap.objs.size:=by
     cases s1 with
     |lst=>obtain⟨o,e,_⟩:=P;show r e
     |tup=>obtain⟨o,e,_⟩:=P;show r e
    have z2:i2<s0.heap.objs.size:=by
     cases s2 with
     |lst=>obtain⟨o,e,_⟩:=R;show r e
     |tup=>obtain⟨o,e,_⟩:=R;show r e
    have q0:=r qq;have zl:z<s0.heap.objs.size:=by
     rcases j with j|⟨t,f,j,_⟩<;>show r j
    have fin:∀n H v' h' tk,H=u->v'=x->((∃f,xA h' z p q n f)\/∃t f,xA h' z p q t f/\t≠d/\t≠z/\t≠q/\t≠i1/\t≠i2/\∃o,h'.get? t=gV o)->(∃a b,QG h' q a b)->T1 (i+1) h'->T2 (i+1) h'->s0.heap.objs.size<=n->QG h' n H v'->
      (∀c o,c≠z->c≠q->c≠i1->c≠i2->s0.heap.get? c=gV o->h'.get? c=gV o)->Q0 (gV (.ref n)) {s0 with heap:=h',toks:=tk}:=by
     rintro n H v' h' tk rfl rfl G hq' t1' t2' Z np kp;show hQ n _ _ h' tk ru rx #[_,np,rfl,0,rfl] #[?_,kp _ _ D.pz D.pq D.pi D.pj Y,hq',t1',t2',I _ _ S kp,J _ _ T kp] λb o l e=>?_
     ·rcases G with⟨f,G⟩|G
      ·show .inr #[n,f,G,NR (MU hd0 Z),NR (MU zl Z),NR (MU q0 Z),NR (MU z1 Z),NR (MU z2 Z),_,np]
      ·show .inr G
     ·simp only[M5,Nx,Ow,SA]at l;show kp b o l.1 l.2.1 l.2.2.1 l.2.2.2 e
    rcases j with j|⟨t,f,j,n1,n2,n3,n4,n5,o,e⟩
    ·show rg D W1 (λ_ _=>W2) I J hh j Y qq P R S T (λL M B C H v' g tk r1 r2 zg qg t1 t2 ng kp=>?_) (λz=>by rcases z with z|z<;>cases z)
     cases B;cases C;show ME (fin _ H v' g tk r1 r2 (.inl #[_,zg]) #[_,_,qg] t1 t2 (MH _) ng kp)
    ·show nQ D W1 (λ_ _=>W2) I J hh j Y #[o,e] P R S T (λL M B C n H v' g tk r1 r2 #[f',zg] t1 t2 Z ng kp=>?_) (λz=>by rcases z with z|z<;>cases z)
     cases B;cases C;show ME (fin n H v' g tk r1 r2 (.inr #[t,f',zg,n1,n2,n3,n4,n5,o,kp _ _ n2 n4 n5 e]) #[_,_,kp _ _ D.qz D.qi D.qj qq] t1 t2 Z ng λc o a1 _ a3 a4 e=>kp c o a1 a3 a4 e)
   ·rintro s0 Q0 E0 ⟨j,Y,⟨b1,b2,qq⟩,P,R,S,T⟩ hQ;have W1:=Zz ↥m;have W2:=Zq ↥m;have hT:s0.TypeIs (.ref z) "zip":=by
     rcases j with j|⟨t,f,j,_⟩
     ·show#[_,j,rfl]
     ·show#[_,j,rfl]
    unfold pyNext;show Ms (Qj (NN  hT F.slot_zip_next (N2 F.slot_zip_next hT F.entry_zip_next ?_ (F.args_zip_next_1 _))));have X:∀h' tk e,(∀c o,c≠z->c≠q->c≠i1->c≠i2->s0.heap.get? c=gV o->h'.get? c=gV o)->(∃o,h'.get? e=gV o/\o.cls=.type "StopIteration")->
      wpAny (model prog w) A (do if <- isInstance (.ref e) (.type "StopIteration")then pure td else throw (.ref e)) Q0 E0 {s0 with heap:=h',toks:=tk}:=λh' tk e kp #[o,ho,hc]=>
     Ms (QQ   #[o,ho,hc] Sv (ME (hQ h' tk λb o l e=>by
      simp only[M5,Nx,Ow,SA]at l;show kp b o l.1 l.2.1 l.2.2.1 l.2.2.2 e)))
    have no:x1[↥m]?=td\/x2[↥m]?=td:=by
     revert Rl;rw[hx.1];omega
    have U:∀L M,(x1[↥m]?.map λ(v u)=>u=v)=gV L->(x2[↥m]?.map λ(v u)=>u=v)=gV M->N6:=λL M B C=>by
     rcases no with no|no
     ·rw[no]at B;cases B
     ·rw[no]at C;cases C
    rcases j with j|⟨t,f,j,n1,n2,n3,n4,n5,o,e⟩
    ·show rg D W1 (λ_ _=>W2) I J hh j Y qq P R S T (λL M B C=>(U L M B C).elim) λ_ h' tk e k he=>X h' tk e k he
    ·show nQ D W1 (λ_ _=>W2) I J hh j Y #[o,e] P R S T (λL M B C=>(U L M B C).elim) λ_ h' tk e k he=>X h' tk e k he
  show wpAny_pyIter_zip (k _ _ hz) ?_;show h z _ _ s.heap s.toks W ?_ (λb l=>(hl b ?_).1) #[.inl (k _ _ hz),k _ _ hp,#[_,_,k _ _ hq],(Zz 0).keep _ _ _ t1 λo e=>k _ _ e,(Zq 0).keep _ _ _ t2 λo e=>k _ _ e,s1.keepC s1.c λo e=>k _ _ e,s2.keepC s2.c λo e=>k _ _ e] λ_ _ e=>e
  ·intro z';simp only[M5,Nx,Ow]at z';rcases z' with z'|z'|z'|z'<;>show ne (by simp) z'.symm
  ·simp only[M5,Nx]at l ⊢;rcases l with l|l|l|l<;>simp[l]
end
end Mi
namespace Mi
open PySem PySem.Spec PyProof.Rows L2
abbrev dA:Mq W->MA (Mq (MM×W))
 |[]=>gV []
 |.tup [.int k,v]::ws=>(dA ws).map ((k,v) :: ·)
 |_::_=>td
abbrev nR (a:Mq (MM×W))(b:Mq (MM×W)):Mq (MM×W):=b.foldl (λa p=>mU a p.1 p.2) a
abbrev vz (xs:Mq W)(S:aa):MA (W×aa):=match xs with
 |[.ref i]=>match eC S i with
  |some ws=>(dA ws).map λU=>(.ref ↥S,S++[.dik (nR [] U)])
  |none=>td
 |_=>td
abbrev zR (S:aa):W->MA (Mq W)
 |.tup ws=>gV ws
 |.ref r=>eC S r
 |_=>td
abbrev vA (xs:Mq W)(S:aa):MA (W×aa):=match xs with
 |[x,y]=>match zR S x,zR S y with
  |some xs,gV ys=>(dA (qX xs ys)).map λU=>(.ref ↥S,S++[.dik (nR [] U)])
  |_,_=>td
 |_=>td
abbrev vB (xs:Mq W)(S:aa):MA (W×aa):=match xs with
 |[.ref i]=>(yf S i).map λU=>(.ref ↥S,S++[.lst (U.map λp=>.int p.1)])
 |_=>td
abbrev vC (xs:Mq W)(S:aa):MA (W×aa):=match xs with
 |[.ref i]=>(yf S i).map λU=>(.ref ↥S,S++[.lst (U.map λp=>p.2)])
 |_=>td
abbrev DC (xs:Mq W)(S:aa):MA (W×aa):=match xs with
 |[.ref i]=>(yf S i).map λU=>(.int ↥U,S)
 |_=>td
section
variable{X:Cx}{J:Mq (MF×Of)}{Y:L2.St}{H:Hp}{s:My}{A:Mq MF}{S:aa}
def vD {K:MO}:∀{a b:Mq (MM×W)}{us vs:Mq (bD×V)},KI K A H a us->KI K A H b vs->KI K A H (nR b a) (kY vs us):=by
 intro a
 induction a with
 |nil=>intro b us vs h r;cases h;show r
 |cons p ps ih=>
  intro b us vs h r;cases h with
  |@cons _ q _ g h t=>
   obtain⟨c,d⟩:=h;obtain⟨f,e⟩:=q;subst c;show ih  (vs:=fQ vs _ e)  t (r.put p.1 d)
def GF (I:Inv X J Y H s):∀{ws:Mq W}{vs:Mq V}{us:Mq Mu}{U:Mq (MM×W)},RelL X.K A H ws vs->Vals vs us->dA ws=gV U->
  ∃a:Mq (bD×V),KI X.K A H U a/\↥us=↥a/\∀(i:Mz) k y,a[i]?=gV (k,y)->∃ p u x,us[i]?=gV (NK p)/\RelV (kV k) u/\RelV y x/\R1 s.heap p [u,x].toArray:=by
 intro ws
 induction ws with
 |nil=>
  intro vs us U r q e;cases r;cases q;cases e;show#[[],.nil,rfl,λi k y h=>by cases h]
 |cons w ws ih=>
  intro vs us U r q e;unfold dA at e;split at e
  ·rename_i z;cases z
  ·rename_i k v ws z;cases z;obtain⟨ks,l,rfl⟩:=Mv.mp e;cases r with
   |cons r t=>
    cases q with
    |cons G L=>
     obtain⟨a,m,n,o⟩:=ih t L l;cases r with
     |@tup _ p O B b=>
      obtain⟨j,c,C,_⟩:=I.tuple B;cases b with
      |@cons _ Q _ _ E b=>
       cases b with
       |@cons _ P _ _ g b=>
        cases b;cases c with
        |@cons _ M _ _ d c=>
         cases c with
         |@cons _ N _ _ f c=>
          cases c;cases E;obtain rfl:_=NK p:=G;show#[(Pa k,P)::a,.cons #[rfl,g] m,by rw[Nh,Nh,n],λi D y hi=>?_]
          cases i with
          |zero=>
           cases hi;show#[p,M,N,rfl,d,f,C]
          |succ i=>show o i D y hi
  ·cases e
def tK (n:X.A.handled=td):LCall X (.type "dict") vz:=by
 intro J s Y H A S xs vs us w M I g E G e;unfold vz at e;split at e
 ·obtain⟨a,l,rfl⟩:=fA (xs:=[]) E G;split at e
  ·rename_i ws hw;obtain⟨U,hk,d⟩:=Mv.mp e;cases d;obtain⟨L,m,D⟩:=br g hw l;obtain⟨r,c,p,N⟩:=I.list m;obtain⟨items,z,B,C⟩:=GF I D c hk;have hl:=↥c;show fY  (xz  n p #[by simpa using B,λi k y h=>by
    obtain⟨p,u,x,j,d⟩:=C i k y h;show#[p,u,x,by simpa using j,d]]) ∅ (λh' tk vs v hd f=>?_) (MH _)
   have t:=vD   z .nil;show cK   I g (λb o e=>f b o (MW e) e) (MH _) (sP ?_ (Pr.mpr (Ne.symm (M3 I.big))) v hd) λq=>#[_,aI,t.mono (bY q)]
   have:=eN items [];simp only[Oy]at this;omega
  ·cases e
 ·cases e
def DD:∀{xs ys:Mq W}{vs ws:Mq V}{us c:Mq Mu}{U:Mq (MM×W)},RelL X.K A H xs vs->Vals vs us->RelL X.K A H ys ws->Vals ws c->dA (qX xs ys)=gV U->
  ∃a:Mq (bD×V),KI X.K A H U a/\↥a=min ↥us ↥c/\∀(i:Mz) k y,a[i]?=gV (k,y)->∃ u x,us[i]?=gV u/\c[i]?=gV x/\RelV (kV k) u/\RelV y x:=by
 intro xs
 induction xs with
 |nil=>
  intro ys vs ws us c U r q b d e;cases r;cases q;cases e;show#[[],.nil,by simp,λi k y h=>by cases h]
 |cons x xs ih=>
  intro ys vs ws us c U r q b d e;cases ys with
  |nil=>
   cases b;cases d;cases e;show#[[],.nil,by simp,λi k y h=>by cases h]
  |cons y ys=>
   have e:dA (.tup [x,y]::qX xs ys)=gV U:=e;cases r with
   |cons r t=>
    cases q with
    |cons o s=>
     cases b with
     |cons b p=>
      cases d with
      |cons f g=>
       cases r with
       |int=>
        obtain⟨ks,j,rfl⟩:=Mv.mp (show(dA (qX xs ys)).map _=gV U from e)
        obtain⟨a,l,w,m⟩:=ih t s p g j;show#[(Pa _,_)::a,.cons #[rfl,b] l,by revert Nh;omega,λi n v hi=>?_]
        cases i with
        |zero=>
         cases hi;show#[_,_,rfl,rfl,o,f]
        |succ i=>show m i n v hi
       |_=>cases e
def zS (I:Inv X J Y H s)(z:StoreOk X.w X.K A H S)(r:Rel X.K A H x v)(q:RelV v u)(e:zR S x=gV xs) :
  ∃(a:MF) (items:Mq Mu) (vs:Mq V) (o:Of) (T:MF->Mz->Nz->Prop) (C:Nz->Prop),RelL X.K A H xs vs/\Vals vs items/\↥vs<=sizeLine/\o.isFreed=false/\fD X.prog X.w u o C/\C s.heap/\(∀h w,C h->C (h.push w))/\
   a<⇑s.heap.objs/\∀ it h,h.get? it=gV o->Kps s.heap h->Src h it a items.toArray (T it) C/\T it 0 h:=by
 cases r with
 |@tup ws a vs g m=>
  cases e;obtain⟨b,n,p,j⟩:=I.tuple g;obtain rfl:u=NK a:=q;have d:s.heap.IsTuple a b.toArray:=p;have lt:a<⇑s.heap.objs:=let ⟨o,e,_⟩:=d;MW e
  show#[a,b,vs,{cls:=.type "tuple_iterator",data:=.fields [.ref a,.int 0 0].toArray},λit i h=>h.IsTupleIter it a i,λh=>h.IsTuple a b.toArray,m,n,j,rfl,λB y Q E c f=>Qr c f,d,λh o #[l,e,r]=>#[l,Mw _ e,r],lt,
   λit h e k=>#[.tup (let ⟨o,e,r⟩:=d;#[o,k _ _ e,r]),#[_,e,rfl,rfl]]]
 |@ref r a t=>
  have e:eC S r=gV xs:=e;obtain⟨vs,g,m⟩:=br z e t;obtain⟨b,n,p,j⟩:=I.list g;obtain rfl:u=NK a:=q;have d:s.heap.IsList a b.toArray:=p.isList;have lt:a<⇑s.heap.objs:=let ⟨o,e,_⟩:=d;MW e
  show#[a,b,vs,{cls:=.type "list_iterator",data:=.fields [.ref a,.int 0 0].toArray},λit i h=>h.IsListIter it a i,λh=>h.IsList a b.toArray,m,n,j,rfl,λB y Q E c f=>Pg c f,d,λh o #[l,e,r]=>#[l,Mw _ e,r],lt,
   λit h e k=>#[.lst (let ⟨o,e,r⟩:=d;#[o,k _ _ e,r]),#[_,e,rfl,rfl]]]
 |_=>cases e
def xB:bootBuiltins "dict" = gV (.type "dict"):=rfl
def DE (hh:X.A.handled=td)(hg:Gl X "dict")(hm:X.mg "dict" = td)(E:Gl X "zip")(L:X.mg "zip" = td)(ha:GA X [a,b] f)(hs:starEach [a,b] X.env=[(false,eval a X.env),(false,eval b X.env)])(g:starEach [b] X.env=[(false,eval b X.env)]) :
  GE X (.Call (.Name "dict" q) [.Call (.Name "zip" p) [a,b] [] cpos] [] pos) (fK vA f):=by
 intro J s Y H Q I ⟨A,Z,S,w,S',er,so,e,hq⟩;unfold fK at e;split at e
 ·rename_i ws S1 h1;unfold vA at e;split at e
  ·split at e
   ·rename_i xs ys m B;obtain⟨U,hk,C⟩:=Mv.mp e;cases C;show Vb (eM I hg hm xB (NU ?_ (by rfl) (by rfl)))
    change wpAny _ _ (spliced ((false,eval _ _)::[])) _ _ s;show Re ?_;show Vb (eM I E L zP (NU (bh (ha _ _ s Y H _ I #[A,Z,S,_,_,er,so,h1,λ_ _ z=>z]) λus d #[vs,H1,I1,r1,A1,z1,z2,z3]=>?_) (by rw[hs,g]) (by rw[g];rfl)))
    cases z3 with
    |cons ra t=>
     cases t with
     |cons rb t=>
      cases t;cases r1 with
      |cons ua t=>
       cases t with
       |cons ub t=>
        cases t;obtain⟨a1,it1,vs1,o1,T1,C1,T,W,hz1,n1,N,c1,k1,P,sr1⟩:=zS I1 z2 ra ua m;obtain⟨a2,it2,vs2,o2,T2,C2,V,j,hz2,n2,O,c2,k2,R,sr2⟩:=zS I1 z2 rb ub B;show zM N O k2 c1 c2 n1 n2 λh' hz hp M g1 g2 hsz kp=>?_
        show Rt ?_;have D:Zap (⇑d.heap.objs+4) (⇑d.heap.objs+2) (⇑d.heap.objs+3) ⇑d.heap.objs (⇑d.heap.objs+1):=by constructor<;>(intro z;simp at z)
        obtain⟨s1',t1⟩:=sr1 _ h' g1 kp;obtain⟨s2',t2⟩:=sr2 _ h' g2 kp;obtain⟨items,q1,q2,q3⟩:=DD T W V j hk;have l2:=↥j;have c:⇑d.heap.objs<=⇑h'.objs:=by rw[hsz];show Om _ _
        have l:∀k,k<5->⇑d.heap.objs<=⇑d.heap.objs+k/\⇑d.heap.objs+k<⇑h'.objs:=λk hk=>#[Om _ _,by rw[hsz];show Nat.add_lt_add_left hk _]
        show fY   (zQ   hh hz hp M D s1' s2' t1 t2 P R (λb hb=>?_) c #[by simpa using q2,λi k y h=>?_]) ∅ (λh2 tk vs kv hd G=>?_) c
        ·simp only[M5,Nx,Ow]at hb;rcases hb with rfl|rfl|rfl|rfl|rfl
         ·show l 4 #v[]
         ·show l 2 #v[]
         ·show l 3 #v[]
         ·show l 0 #v[]
         ·show l 1 #v[]
        ·obtain⟨u,x,m,B,C⟩:=q3 i k y h;show#[u,x,by simpa using m,by simpa using B,C]
        ·have ki:=vD   q1 .nil;have fin:=cK (tk:=tk) (dr:=d.drawn)   (n:=.dik (nR [] U))  I1 z2 (λb o e=>G b o (MW e) (kp _ _ e)) c (sP (by
          have:=eN items [];simp only[Oy]at this;omega) (Pr.mpr (Ne.symm (M3 (MU I1.big c)))) kv hd) λhn=>#[_,aI,ki.mono (bY hn)]
         obtain⟨v,H2,A2,i,r,ex,so2,rl⟩:=fin;show#[v,H2,i,r,hq _ _ #[A2,z1.trans ex,so2,rl]]
   ·cases e
  ·cases e
 ·cases e
end
end Mi
namespace Mi
open PySem PySem.Spec PyProof.Rows L2 PySem.W
section
variable{X:Cx}{J:Mq (MF×Of)}{Y:L2.St}{H:Hp}{s:My}{A:Mq MF}{S:aa}
def tL:LCall X (.builtin "len") DC:=by
 intro J s Y H A S xs vs us w k I b i j e;unfold DC at e;split at e
 ·obtain⟨U,hk,d⟩:=Mv.mp e;cases d;obtain⟨a,f,rfl⟩:=fA (xs:=[]) i j;obtain⟨us,g,h⟩:=jj b hk f;show IP I (.inl g) λt l c=>#[.int _,H,A,c,#[t,by rw[↥h]],.refl,b,.int]
 ·cases e
def DF {K:MO}:∀{U:Mq (MM×W)}{us:Mq (bD×V)},KI K A H U us->RelL K A H (U.map λp=>.int p.1) (us.map λq=>kV q.1):=by
 intro U us h
 induction h with
 |nil=>show .nil
 |@cons p q ps a h t ih=>
  rw[NL,NL,h.1];show .cons .int ih
def DH {K:MO}:∀{U:Mq (MM×W)}{us:Mq (bD×V)},KI K A H U us->RelL K A H (U.map λp=>p.2) (us.map λq=>q.2):=by
 intro U us h
 induction h with
 |nil=>show .nil
 |@cons p q ps a h t ih=>
  show .cons h.2 ih
def pG:∀{vs:Mq V}{us:Mq Mu},↥us=↥vs->(∀(i:Mz) v u,vs[i]?=gV v->us[i]?=gV u->RelV v u)->Vals vs us
 |[],[],_,_=>.nil
 |v::vs,u::us,hl,h=>.cons (h 0 v u rfl rfl) (pG (by simpa using hl) λi d c a b=>h (i+1) d c a b)
 |[],_::_,hl,_=>by cases hl
 |_::_,[],hl,_=>by cases hl
def EM (h:KV U vs):∀(i:Mz) (k:bD) u,vs[i]?=gV (k,u)->∃y,U[i]?=gV (k,y)/\RelV y u:=by
 induction h with
 |nil=>intro i k u e;cases e
 |@cons p q ps c h t ih=>
  intro i k u e;cases i with
  |zero=>cases e;obtain⟨b,pv⟩:=p;obtain⟨rfl,a⟩:b=k/\RelV pv u:=h;show#[pv,rfl,a]
  |succ i=>show ih i k u e
def Jk (h:(aR P w).is k u=true):RelV (kV k) u:=by
 cases k with
 |inl k=>obtain⟨t,rfl⟩:=Tv h;show#[t,rfl]
 |inr k=>obtain⟨t,rfl⟩:=SN h;show#[t,rfl]
def rm (C:X.A.handled=td):LCall X (.type "list") vB:=by
 intro J s Y H A S xs vs us w N I l L M e;unfold vB at e;split at e
 ·obtain⟨U,hk,f⟩:=Mv.mp e;cases f;obtain⟨a,r,rfl⟩:=fA (xs:=[]) L M;obtain⟨us,B,G⟩:=jj l hk r;obtain⟨z,hd,ws,d,m⟩:=kX I.hok (.inl B);obtain⟨O,h⟩:=m.dictAt;show kdl_call (kdl_dict  hd) C h (by rw[<- ↥d];show z) λh' tk g c kp t b=>?_
  have E:Vals (us.map λq=>kV q.1) _:=pG (by rw[Nv,b.1,Mr,↥d]) λi v u j f=>by
   rw[NY]at f;obtain⟨k,x,n,o⟩:=b.2 i u f;obtain⟨y,p,_⟩:=EM d i k x n;rw[MD,p]at j;cases j;show Jk o
  show cK  (u:=.lst _) I l kp (MH _) #[by rw[Mr];show z,g.toList,c,E,by simpa using t] λD=>#[_,aI,(DF G).mono (bY D)]
 ·cases e
def DI (hh:X.A.handled=td)(ho:GE X o f)(g:attributeBase o "values" X.env (eval o X.env)=eval o X.env)(h:(apos.endLine==cpos.line)=true)(hg:Gl X "list")(hm:X.mg "list" = td) :
  GE X (.Call (.Name "list" q) [.Call (.Attribute o "values" apos) [] [] cpos] [] pos) (fK vC (cU f ip)):=by
 intro J s Y H Q I ⟨A,Z,S,w,S',er,so,e,hq⟩;unfold fK cU ip at e;dsimp only at e;split at e
 ·rename_i ws S1 t;split at t
  ·rename_i w1 S2 L;cases t;unfold vC at e;split at e
   ·rename_i i z;cases z;obtain⟨U,hk,C⟩:=Mv.mp e;cases C;show Vb (eM I hg hm boot_list (NU ?_ (by rfl) (by rfl)))
    change wpAny _ _ (spliced ((false,eval (.Call (.Attribute o "values" apos) [] [] cpos) X.env)::[])) _ _ s;show Re ?_;show wpAny_Call_method0_late g h (bh (ho J s Y H _ I #[A,Z,S,_,_,er,so,L,λ_ _ z=>z]) λv B #[x,H1,I1,r1,A1,z1,z2,z3]=>?_)
    cases z3 with
    |@ref _ a ea=>
     obtain rfl:v=NK a:=r1;obtain⟨us,hH,ki⟩:=jj z2 hk ea;obtain⟨z,hd,ws,j,m⟩:=kX I1.hok (.inl hH);show#["dict","dict.values",RH,RC,PySem.F.type_dict_values,m.typeIs,λb e=>?_,?_]
     ·cases e;obtain⟨ob,_,_,t,L,_⟩:=id m;show#[ob,t,L.2.1]
     show RV rfl (PySem.evalArgs_none ?_);show Vj RC m.typeIs PySem.F.entry_dict_values (PySem.F.args_dict_values_1 _) (meets_dict_values (aR X.prog X.w) a hd) #[#[_,m],?_];show Rt ?_;have P:Kps B.heap (B.heap.push {cls:=.type "dict_values",data:=.fields [.ref a].toArray}):=λb o e=>Mw _ e
     have G:(B.heap.push {cls:=.type "dict_values",data:=.fields [.ref a].toArray}).DictOf (aR X.prog X.w) a ws:=let ⟨o,es,O,e,r⟩:=m;#[o,es,O,P _ _ e,r]
     obtain⟨O,E⟩:=G.dictAt;show kdl_call  kdl_values  hh #[#[_,MT _ rfl,rfl,rfl],E] (by rw[<- ↥j];show z) λh' tk l c kp hD d=>?_
     have hv:Vals (us.map λq=>q.2) l.toList:=pG (by rw[Nv,d.1,Mr,↥j]) λi v u N C=>by
      rw[NY]at C;obtain⟨k,V⟩:=d.2 i u C;obtain⟨y,W,e6⟩:=EM j i k u V;rw[MD,W]at N;cases N;show e6
     have fin:=cK (tk:=tk) (dr:=B.drawn)  (D:=(B.heap.push {cls:=.type "dict_values",data:=.fields [.ref a].toArray}).objs.size) (n:=.lst (U.map λp=>p.2)) (u:=.lst (us.map λq=>q.2)) I1 z2 (P.trans kp) (by rw[OU];show Pz _) #[by rw[Mr];show z,l.toList,c,hv,by simpa using hD] λhn=>#[_,aI,(DH ki).mono (bY hn)]
     obtain⟨v,T,R,i,r,ex,M,rl⟩:=fin;show#[v,T,i,r,hq _ _ #[R,z1.trans ex,M,rl]]
   ·cases e
  ·cases t
 ·cases e
end
end Mi
namespace Mi
open PySem PySem.Spec PyProof.Rows L2
open PySem.Builtin.SmallTypes (nextOf)
section
variable{prog:Nc}{w:Nq}{B:Nn}{E:Mu->My->Prop}{s:My}{e it:MF}{T:Mz->Nz->Prop}{C:Nz->Prop}{i:Mz}{old:Mu}
structure EnAt (h0 h:Nz)(e it:MF)(fs:NH Mu)(T:Nz->Prop):Prop where
 here:h.get? e=gV {cls:=.type "enumerate",dict:=td,data:=.fields fs,slots:=#[]}
 turn:T h
 kept:∀b o,b≠e->b≠it->h0.get? b=gV o->h.get? b=gV o
def EnAt.put {T:Nz->Prop}(x:EnAt f s.heap e it a T)(c:e≠it)(j:∀h h',T h->(∀o,h.get? it=gV o->h'.get? it=gV o)->T h')(hk:k<⇑a)
  (q:∀h',EnAt f h' e it (a.setIfInBounds k v) T->Pf e s.heap h'->Q () {s with heap:=h'}):wpAny (model prog w) B (setField (.ref e) k v) Q E s:=
 O6 x.here hk λh' y d=>q h' #[y,j _ _ x.turn λo z=>d.extBut _ _ (Ne.symm c) z,λb o g i z=>d.extBut b o g (x.kept b o g i z)] d
def nS {Q:Mu->My->Prop}(n:Zit prog w it T C i Uqc)(P:B.handled=td)(p:VQ s.heap e it i old)(t:T i s.heap)(c:C s.heap)(f:e≠it)
  (N:∀V,Uqc=gV V->∀u h' tk A,V u->IsEnumOut h' e it (i+1) u ⇑s.heap.objs->T (i+1) h'->h'.get? ⇑s.heap.objs=gV {cls:=.type "tuple",data:=.seq [.int i A,u].toArray}->
   (∀b o,b≠e->b≠it->s.heap.get? b=gV o->h'.get? b=gV o)->Q (.ref ⇑s.heap.objs) {s with heap:=h',toks:=tk})
  (M:Uqc=td->∀h' x,Su it s.heap h'->(∃o,h'.get? x=gV o/\o.cls=.type "StopIteration")->E (.ref x) {s with heap:=h'}) :
  wpAny (model prog w) B (PV.«enumerate.__next__» #[[.ref e],[]]) (λfin S=>∃v,fin=.done (.ret v)/\Q v S) E s:=by
 obtain⟨q,g,d,tk,os⟩:=s;change wpAny _ _ (field _ 2 >>= _) _ _ _;show Ms (N4 p rfl (x:=.ref it) rfl (Ms ?_));cases Uqc with
 |none=>show n.stop rfl _ _ _ _ P t c λh' x a b=>M rfl h' x a b
 |some V=>
  show n.next V rfl _ _ _ _ t c λu O h R Y k=>?_
  have l:=n.keep (i+1);have G:EnAt q O e it _ _:=#[(k.2 e f).trans p,Y,λb o _ m z=>k.extBut b o m z]
  have za:=k.1;show Ms (N4 G.here rfl  rfl ?_);show Ms (N4 G.here rfl  rfl ?_);show Ms (Ul (Ms (G.put  f l (by simp) λhb xb r=>Ms (xb.put  f l (by simp) λhc H y=>Ms (Rk ?_)))))
  have J:⇑hc.objs=⇑q.objs:=by rw[y.1,<- za];show r.1
  have j:=NR (MW p);have new:=MT hc (o:={cls:=.type "tuple",data:=.seq [.int i h,u].toArray}) rfl;have xd:EnAt q (hc.push {cls:=.type "tuple",data:=.seq [.int i h,u].toArray}) e it [.none,.bool _,.ref it,rawInt _,.none,old].toArray _:=#[Mw _ H.here,l _ _ H.turn λo z=>Mw _ z,λb o I m z=>Mw _ (H.kept b o I m z)]
  rw[J]at new;change wpAny _ _ _ _ _ _;rw[J];show Ms ?_;show Ms (N4 xd.here rfl  rfl (ME ?_));show Ms (Rc (Ms (N4 xd.here rfl (x:=old) rfl (Ms (xd.put  f l (by simp) λI Z U=>Ms ?_)))))
  show Ms (Z.put  f l (by simp) λm x2 W=>x2.put  f l (by simp) λL D X=>Ms (P0 (ME #[_,rfl,N V rfl u L (h+1) h R D.here D.turn ?_ D.kept])))
  show X.extBut _ _ j (W.extBut _ _ j (U.extBut _ _ j new))
variable{v:Mu}{o:Of}
def rn (e:fD prog w v o C) :
  MeetsIn prog w (PV.«enumerate.__new__» #[[.type "enumerate",v],[]]) (λ_ R s=>C s.heap/\R (.ok (.ret (.ref (s.heap.push o).objs.size))) {s with heap:=(s.heap.push o).push {cls:=.type "enumerate",data:=.fields [.none,.bool false,.ref ⇑s.heap.objs,rawInt 0,.none,.none].toArray}}):=
 .of_wp λA R s h=>by
  obtain⟨f,g,d,tk,os⟩:=s;obtain⟨c,h⟩:=h;have b:=sub_enumerate;have a:=λB Q E q=>e B _ Q E c q
  wp_walk
  show wpAny_stack_any λst=>ME ?_
  split
  ·rename_i c _ _ _ _ _;cases(c==Pk _)
   ·wp_walk using a _ _ _
    show#[_,rfl,h]
   ·wp_walk using a _ _ _
    show#[_,rfl,h]
  ·wp_walk using a _ _ _
   show#[_,rfl,h]
def nT (e:fD prog w v o C)(c:C s.heap)(f:o.isFreed=false)
  (h:∀h',VQ h' (⇑s.heap.objs+1) ⇑s.heap.objs 0 .none->h'.get? ⇑s.heap.objs=gV o->(∀b o,s.heap.get? b=gV o->h'.get? b=gV o)->Q (.ref (⇑s.heap.objs+1)) {s with heap:=h'}) :
  wpAny (model prog w) B (call (.type "enumerate") [v]) Q E s:=by
 show UP F.called_enumerate #v[] (F.typeCall_enumerate_1 _) (F.newCall_enumerate_1 _) (λobj=>F.args_object_init_2 obj _) F.entry_enumerate_new (rn e) #[c,?_]
 have d:(s.heap.push o).objs.size=⇑s.heap.objs+1:=OU ..;rw[d];have a:VQ ((s.heap.push o).push {cls:=.type "enumerate",data:=.fields [.none,.bool false,.ref ⇑s.heap.objs,rawInt 0,.none,.none].toArray}) (⇑s.heap.objs+1) ⇑s.heap.objs 0 .none:=by
  have:=MT (s.heap.push o) (o:={cls:=.type "enumerate",data:=.fields [.none,.bool false,.ref ⇑s.heap.objs,rawInt 0,.none,.none].toArray}) rfl;rw[d]at this;show this
 show#[#[_,a,rfl],h _ a (Mw _ (MT _ f)) λb o x=>Mw _ (Mw _ x)]
end
abbrev Lk (K:MO)(S1:Zs):It:=
 #[λi H=>∃x,S1.at K H i x,λi H v a=>∃p x,S1.is K H i x/\v=.ref p/\H p=td/\a=bK H p (.tup [.int i,x]),λi H=>S1.out K H i]
def nU {K:MO}(D:z≠l) :
  Turn P w K (.Tuple G k0 tp) (Lk K S1) [z,l] z (λi h=>(∃j,VQ h z l i j)/\S1.T l i h) where
 mem:=by simp
 obj:=λi h #[#[j,a],d] b' f=>by
  have it:∀{S:Zs}{it:MF},S.T it i h->∃o,h.get? it=gV o/\∀v,o.data≠.cell v:=λ{S it} t=>by
   cases S with
   |tup a=>obtain⟨o,e,_,d⟩:=t;show#[o,e,λv z=>by rw[d]at z;cases z]
   |lst a=>obtain⟨o,e,_,d⟩:=t;show#[o,e,λv z=>by rw[d]at z;cases z]
   |txt x=>obtain⟨tk,⟨o,e,_,d⟩|⟨o,e,_,d⟩⟩:=t<;>show#[o,e,λv z=>by rw[d]at z;cases z]
  simp only[M5,Nx,Ow]at f;rcases f with rfl|rfl
  ·show#[_,a,λv z=>by cases z]
  ·show it d
 keep:=λi h h' #[#[j,a],d] k=>#[#[j,k z (by simp) _ a],Zs.keep d (k l (by simp))]
 item:=by
  intro X L hw hK hc i J s Y H E I n st M;subst L hw hK;obtain⟨x,T⟩:=M;obtain⟨⟨j,a⟩,d⟩:=st;have m:∀b∈[z,z,l,l],jh X J H b:=λb f=>n b (by simp only[M5,Nx,Ow]at f ⊢;rcases f with h|h|h|h<;>simp[h])
  obtain⟨U,A,B,k1⟩:=Zs.zit  (Uqc:=gV x) I m T;have r:s.TypeIs (.ref z) "enumerate":=#[_,a,rfl];unfold pyNext;show Ms (Qj (NN  r F.slot_enumerate_next (N2 F.slot_enumerate_next r F.entry_enumerate_next ?_ (F.args_enumerate_next_1 _))));show nS A (I.ok.hd hc) a d B D (λV C u g tk O r1 zg t1 ng kp=>?_) (λz=>by cases z)
  cases C;show ME #[_,rfl,?_];show wpAny_letOwnedTupleGo_enum  zg λg' Q N=>?_
  have R:=I.hok.fresh (MH _);have lt:∀{b:MF},b∈[z,l]->⇑s.heap.objs≠b:=λ{b} f=>by
   have:∃o,s.heap.get? b=gV o:=by
    have it:∀{S:Zs}{it:MF},S.T it i s.heap->∃o,s.heap.get? it=gV o:=λ{S it} t=>by
     cases S with
     |tup a=>obtain⟨o,e,_⟩:=t;show#[o,e]
     |lst a=>obtain⟨o,e,_⟩:=t;show#[o,e]
     |txt x=>obtain⟨tk,⟨o,e,_⟩|⟨o,e,_⟩⟩:=t<;>show#[o,e]
    simp only[M5,Nx,Ow]at f;rcases f with rfl|rfl
    ·show#[_,a]
    ·show it d
   obtain⟨o,e⟩:=this;show NR (MW e)
  have up:∀b o,b∉[z,l]->s.heap.get? b=gV o->g'.get? b=gV o:=λb o f e=>by
   simp only[M5,Nx,Ow,SA]at f;show N.extBut _ _ f.1 (kp b o f.1 f.2 e)
  have W:Inv X J Y H {s with heap:=g',toks:=tk}:=Mi.Inv.turnedL I up n
  have y:=N.extBut _ _ (lt (by simp)) ng
  have Z:Inv X J Y (bK H ⇑s.heap.objs (.tup [.int i,x])) {s with heap:=g',toks:=tk}:=by
   show Mi.Inv.adopt W R (.inr I.sz) (NR I.lt) (λw c e=>?_) (λp hp=>?_) #[#[by change 2<=sizeLine;decide,#[_,y,rfl]],[.int i O,u],.cons #[_,rfl] #v[r1],#[_,y,rfl,0,rfl]]
   ·obtain⟨v,q⟩:=I.cell w c e;show M3 q.lt
   ·show M3 (MW (I.pin p hp).1)
  show#[.ref ⇑s.heap.objs,_,Z,rfl,#[⇑s.heap.objs,x,Zs.at_is I T,rfl,R,rfl],#[#[_,Q],Zs.keep t1 λo e=>N.extBut _ _ (Ne.symm D) e],λb f=>?_]
  rw[aJ (Ne.symm (lt f))];show(n b f).1
 done:=by
  intro X L hw hK hc i J s Y H E I n st M;subst L hw hK;obtain⟨⟨j,a⟩,d⟩:=st;have m:∀b∈[z,z,l,l],jh X J H b:=λb f=>n b (by simp only[M5,Nx,Ow]at f ⊢;rcases f with h|h|h|h<;>simp[h])
  obtain⟨U,A,B,k1⟩:=Zs.zit  (Uqc:=td) I m M;have r:s.TypeIs (.ref z) "enumerate":=#[_,a,rfl];unfold pyNext;show Ms (Qj (NN  r F.slot_enumerate_next (N2 F.slot_enumerate_next r F.entry_enumerate_next ?_ (F.args_enumerate_next_1 _))));show nS A (I.ok.hd hc) a d B D (λV C=>by cases C) λ_ h' e k #[o,ho,hc]=>?_
  show Ms (QQ   #[o,ho,hc] Sv (ME #[rfl,Mi.Inv.turnedL  I (λb o f e=>by
    simp only[M5,Nx,Ow,SA]at f;show k b o f.2 e) n]))
 self:=λ_ _ _ _ _ st h=>by obtain⟨⟨j,a⟩,_⟩:=st;show Rx a h
def iS {i:Mz}(h:(ko xs)[i]?=gV w):∃x,xs[i]?=gV x/\w=.tup [.int i,x]:=by
 unfold ko at h;rw[MD,List.getElem?_zipIdx,Option.map_map,Mv]at h;obtain⟨x,a,rfl⟩:=h;show#[x,a,by simp]
abbrev zT (f:FA):FI:=λZ S=>match f Z S with
 |some ([x],S1)=>match Kt x with
  |some xs=>gV (.its (ko xs),S1)
  |none=>match x with
   |.ref r=>match eC S1 r with
    |some _=>gV (.el r,S1)
    |none=>td
   |_=>td
 |_=>td
section
variable{X:Cx}{J:Mq (MF×Of)}{Y:L2.St}{H:Hp}{s:My}{A:Mq MF}
def zU (d:ZRel X.K A H xs S1):MIt X.w X.K (.its (ko xs)) (Lk X.K S1) A H:=by
 show#[λb c S i w e g hi=>?_,λb c S i e g hi=>?_]
 ·simp only[MI.at,Np]at hi;obtain⟨x,f,rfl⟩:=iS hi;obtain⟨v,h,k⟩:=(d.mono e).at f;show#[#[v,h],λp j #[a,v',q1,hp,hn,hH]=>?_]
  subst hp hH;have ex:Ext X.K b c b (bK c a (.tup [.int i,v'])):=cv (.inl hn);show#[ex,g.lay hn,.tup (.of aI) #v[.int,((d.mono e).is f q1).mono ex]]
 ·(dsimp only[MI.at,ko]at hi;simp only[Np,Oo,Mr,Tq]at hi)
  show(d.mono e).out hi
def xD (k:A[r]?=gV a):MIt X.w X.K (.el r) (Lk X.K (.lst a)) A H:=by
 show#[λf g S i w e d hi=>?_,λf g S i e d hi=>?_]
 ·simp only[MI.at]at hi;split at hi
  ·rename_i xs h;simp only[Np]at hi;obtain⟨x,n,rfl⟩:=iS hi;obtain⟨vs,b,j⟩:=br d h (e.ad _ _ k);obtain⟨v,l,o⟩:=j.get n;show#[#[v,vs,b,l],λp q #[c,v',z1,hp,hn,hH]=>?_]
   subst hp hH;have m:=z1 vs b;rw[l]at m;cases m
   have ex:Ext X.K f g f (bK g c (.tup [.int i,v])):=cv (.inl hn);show#[ex,d.lay hn,.tup (.of aI) #v[.int,o.mono ex]]
  ·cases hi
 ·simp only[MI.at]at hi;split at hi
  ·rename_i xs h;simp only[Np,Oo,ko,Mr,Tq]at hi;obtain⟨vs,b,j⟩:=br d h (e.ad _ _ k);show#[vs,b,by rw[<- ↥j];show hi]
  ·cases hi
def nV:bootBuiltins "enumerate" = gV (.type "enumerate"):=rfl
def DJ {O:Mz}{T:OX}(B:Gl X "enumerate")(C:X.mg "enumerate" = td)(y:GA X [a] f)(E:starEach [a] X.env=[(false,eval a X.env)]) :
  GI X (.Tuple k O T) (.Call (.Name "enumerate" p) [a] [] pos) (zT f):=by
 intro J s Y H R I ⟨A,Z,S,mi,V,v,G,e,D⟩;unfold zT at e;split at e
 ·rename_i x S1 w;split at e
  ·rename_i xs M;cases e;show Vb (eM I B C nV (NU (bh (y pos _ s Y H _ I #[A,Z,S,_,_,v,G,w,λ_ _ z=>z]) λus d #[vs,H1,I1,r1,A1,z1,z2,z3]=>?_) (by rw[E];rfl) (by rfl)))
   cases z3 with
   |cons o t=>
    cases t;cases r1 with
    |cons r t=>
     cases t;obtain⟨W,P,L,U,m,j,ka,n,q⟩:=DA I1 o r M;show nT m j n λh' h l kp=>?_
     have i:Inv X _ Y H1 {d with heap:=h'}:=I1.kept  kp
     show Rx  h ?_;show#[⇑d.heap.objs+1,_,_,_,H1,rfl,i,nU   (by simp),#[#[_,h],q _ _ l],λb g=>?_,D _ _ A1 z1 z2 (zU U)]
     have c:⇑d.heap.objs<=b:=by
      simp only[M5,Nx,Ow]at g;rcases g with rfl|rfl
      ·show Om _ _
      ·show MH _
     show I1.fpOk c (I1.hok.fresh c)
  ·split at e
   ·split at e
    ·rename_i xs N;cases e;show Vb (eM I B C nV (NU (bh (y pos _ s Y H _ I #[A,Z,S,_,_,v,G,w,λ_ _ z=>z]) λus d #[vs,H1,I1,r1,A1,z1,z2,z3]=>?_) (by rw[E];rfl) (by rfl)))
     cases z3 with
     |cons o t=>
      cases t;cases r1 with
      |cons r t=>
       cases t;cases o with
       |@ref _ a' u=>
        obtain⟨va,Q,_⟩:=br z2 N u;obtain⟨P,L,m,j,ka,n,q⟩:=DB I1 r Q;show nT m j n λh' h l kp=>?_
        have i:Inv X _ Y H1 {d with heap:=h'}:=I1.kept  kp
        show Rx  h ?_;show#[⇑d.heap.objs+1,_,_,_,H1,rfl,i,nU   (by simp),#[#[_,h],q _ _ l],λb g=>?_,D _ _ A1 z1 z2 (xD u)]
        have c:⇑d.heap.objs<=b:=by
         simp only[M5,Nx,Ow]at g;rcases g with rfl|rfl
         ·show Om _ _
         ·show MH _
        show I1.fpOk c (I1.hok.fresh c)
    ·cases e
   ·cases e
 ·cases e
end
end Mi
namespace Mi
open PySem PySem.Spec PyProof.Rows L2
abbrev rq (a b:Mq W->aa->MA (W×aa))(xs:Mq W)(S:aa):MA (W×aa):=match a xs S with
 |some r=>gV r
 |none=>b xs S
def fZ (i:LCall X f b)(j:LCall X f c):LCall X f (rq b c):=by
 intro J s Y H A S xs vs us w a I h d g e;unfold rq at e;split at e
 ·rename_i r k;cases e;show i _ s Y H A S xs vs us w a I h d g k
 ·show j _ s Y H A S xs vs us w a I h d g e
inductive Bi where|len|list|tuple|int|sorted|range|all|min|set|dict|dzip|vals
 deriving PY
abbrev Bi.fn:Bi->Mq W->aa->MA (W×aa)
 |.len=>rq qQ (rq zL DC)|.list=>rq eX (rq jV vB)|.tuple=>jo|.int=>IT|.sorted=>iR|.range=>jm|.all=>Gc|.min=>zh|.set=>rq pB lE|.dict=>vz|.dzip=>vA|.vals=>vC
abbrev Bi.name:Bi->M2
 |.len=>"len"|.list=>"list"|.tuple=>"tuple"|.int=>"int"|.sorted=>"sorted"|.range=>"range"|.all=>"all"|.min=>"min"|.set=>"set"|.dict=>"dict"|.dzip=>"zip"|.vals=>"values"
inductive Me where|append|extend|pop|get|index
 deriving PY
abbrev Me.fn:Me->W->Mq W->aa->MA (W×aa)
 |.append=>iM|.extend=>iN|.pop=>CQ|.get=>u6|.index=>vw
abbrev Me.name:Me->M2
 |.append=>"append"|.extend=>"extend"|.pop=>"pop"|.get=>"get"|.index=>"index"
abbrev Me.ty:Me->N9
 |.append=>"list"|.extend=>"list"|.pop=>"list"|.get=>"dict"|.index=>"index"
inductive Tg where
 |nm (i:Mz)|tp (is:Mq Mz)
set_option genSizeOf false in
set_option genInjectivity false in
mutual
inductive E where
 |c (w:W)|v (i:Mz)
 |op (o:BOp) (a b:E)
 |cmp (o:COp) (a b:E)
 |and (a b:E)|or (a b:E)|not (a:E)
 |own (f:M2) (n:Mz) (es:Es)|bi (b:Bi) (es:Es)|me (m:Me) (o:E) (es:Es)
 |ix (a b:E)|sl (a:E) (lo hi:Ep)|tup (es:Es)|lst (es:Es)
 |isi (c:N9) (a:E)
 |neg (a:E)|dnew|disp (es:Es)|chn (o o':COp) (a b d:E)|ite (t a b:E)
 |comp (elt:E) (tg:Tg) (it:Ie) (cs:Es) (cap:Mq (MA Mz))
inductive Es where
 |nil|cons (e:E) (es:Es)
inductive Ep where
 |no|yes (e:E)
inductive Ie where
 |seq (e:E)|rng (es:Es)|rng2 (es:Es)|enu (es:Es)
end
set_option genSizeOf false in
set_option genInjectivity false in
mutual
inductive Sm where
 |set (i:Mz) (e:E)|asg (is:Mq Mz) (e:E)|par (i j:Mz) (es:Es)|put (o k e:E)
 |ex (e:E)|ret (e:E)|retN|pass|brk|cont|bad
 |ite (t:E) (a b:Ss)|whl (t:E) (b:Ss)|loop (tg:Tg) (it:Ie) (b:Ss)
inductive Ss where
 |nil|cons (s:Sm) (ss:Ss)
end
abbrev lH:Tg->FG
 |.nm i=>EF i
 |.tp is=>HW is
section
variable (M:M2->FF)
mutual
def aE:E->FE
 |.c w=>fC w
 |.v i=>fV i
 |.op o a b=>CW (gP o) (aE a) (aE b)
 |.cmp o a b=>CY o (aE a) (aE b)
 |.and a b=>vg (aE a) (aE b)
 |.or a b=>C4 (aE a) (aE b)
 |.not a=>vh (aE a)
 |.own f n es=>qV n (M f) (cV es)
 |.bi b es=>fK b.fn (cV es)
 |.me m o es=>BY m.ty m.fn (aE o) (cV es)
 |.ix a b=>Lh (aE a) (aE b)
 |.sl a lo hi=>Ja (aE a) (vE lo) (vE hi)
 |.tup es=>zv (cV es)
 |.lst es=>zw (cV es)
 |.isi c a=>zH c (aE a)
 |.neg a=>zo (aE a)
 |.dnew=>EG
 |.disp es=>rc (cV es)
 |.chn o o' a b d=>fW o o' (aE a) (aE b) (aE d)
 |.ite t a b=>C5 (dh t) (aE a) (aE b)
 |.comp elt tg it cs cap=>lF (jt it) (lH tg) (EN cs) (aE elt) cap
def dh:E->FT
 |.cmp o a b=>qU (CY o (aE a) (aE b))
 |.and a b=>zt (dh a) (dh b)
 |.or a b=>IX (dh a) (dh b)
 |.not a=>CZ (dh a)
 |.c w=>gS (fC w)
 |.v i=>gS (fV i)
 |.op o a b=>gS (CW (gP o) (aE a) (aE b))
 |.own f n es=>gS (qV n (M f) (cV es))
 |.bi b es=>gS (fK b.fn (cV es))
 |.me m o es=>gS (BY m.ty m.fn (aE o) (cV es))
 |.ix a b=>gS (Lh (aE a) (aE b))
 |.sl a lo hi=>gS (Ja (aE a) (vE lo) (vE hi))
 |.tup es=>gS (zv (cV es))
 |.lst es=>gS (zw (cV es))
 |.isi c a=>gS (zH c (aE a))
 |.neg a=>gS (zo (aE a))
 |.dnew=>λ_ _=>td
 |.disp _=>λ_ _=>td
 |.chn o o' a b d=>qU (fW o o' (aE a) (aE b) (aE d))
 |.ite _ _ _=>λ_ _=>td
 |.comp _ _ _ _ _=>λ_ _=>td
def cV:Es->FA
 |.nil=>ip
 |.cons e es=>cU (aE e) (cV es)
def EN:Es->FT
 |.nil=>EH
 |.cons e .nil=>dh e
 |.cons _ (.cons _ _)=>λ_ _=>td
def vE:Ep->FO
 |.no=>Gp
 |.yes e=>vn (aE e)
def jt:Ie->FI
 |.seq e=>eI (aE e)
 |.rng es=>qY (cV es)
 |.rng2 es=>iRng2 (cV es)
 |.enu es=>zT (cV es)
end
variable (fuel:Mz)
mutual
def gF:Sm->FS
 |.set i e=>lC (aE M e) (EF i)
 |.asg is e=>lC (aE M e) (HW is)
 |.par i j es=>Dm i j (cV M es)
 |.put o k e=>lC (aE M e) (Dl (aE M o) (aE M k))
 |.ex e=>De (aE M e)
 |.ret e=>Di (aE M e)
 |.retN=>λ_ S=>gV (.rt .non,S)
 |.pass=>zB
 |.brk=>λZ S=>gV (.bk Z,S)
 |.cont=>λZ S=>gV (.ct Z,S)
 |.bad=>λ_ _=>td
 |.ite t a b=>Dk (dh M t) (ga a) (ga b)
 |.whl t b=>mW (dh M t) (ga b) fuel
 |.loop tg it b=>zE (jt M it) (lH tg) (ga b)
def ga:Ss->FS
 |.nil=>λZ S=>gV (.nx Z,S)
 |.cons s ss=>Dc (gF s) (ga ss)
end
end
structure Gam where
 sc:Mq (M2×OD)
 N:Mq M2
 fns:Mq (M2×Mz)
 blt:Mq M2
 dfn:M9
abbrev GH:MA OD->M9
 |some .local=>true|some .cell=>true|some .free=>true|_=>false
abbrev DK:MA OD->M9
 |some .cell=>true|some .free=>true|_=>false
abbrev gd (names outer:Mq (M2×OD)):Mq (M2×OD):=names.map λ(n,k)=>if (k==.free&&outer.lookup n==gV .cell)then(n,.cell)else(n,k)
abbrev slot (Γ:Gam)(x:M2):MA Mz:=if GH (Γ.sc.lookup x) && !(x==("__debug__": M2)) && !(x==("__classdict__": M2))then Γ.N.findIdx? (· == x)else td
abbrev vF:TB->MA BOp
 |.Add=>gV .add|.Sub=>gV .sub|.Mult=>gV .mul|.FloorDiv=>gV .fdiv|.Mod=>gV .mod|.Pow=>gV .pow|_=>td
abbrev jY:Uj->MA COp
 |.Eq=>gV .eq|.NotEq=>gV .ne|.Lt=>gV .lt|.LtE=>gV .le|.Gt=>gV .gt|.GtE=>gV .ge|.In=>gV .isin|.NotIn=>gV .notin|.Is=>gV .is|.IsNot=>gV .isnot
abbrev zV (x:M2):MA Bi:=[Bi.len,.list,.tuple,.int,.sorted,.range,.all,.min,.set,.dict].find? λb=>b.name==x
abbrev DL (x:M2):MA Me:=[Me.append,.extend,.pop,.get,.index].find? λb=>b.name==x
abbrev EO (Γ:Gam)(x:M2):M9:=Γ.sc.lookup x==gV .globalImplicit && !(x==("__debug__": M2))
abbrev vG (x:M2):MA N9:=if x==("bool": M2)then gV "bool" else if x==("int": M2)then gV "int" else if x==("str": M2)then gV "str" else if x==("tuple": M2)then gV "tuple" else if x==("list": M2)then gV "list" else if x==("dict": M2)then gV "dict" else td
abbrev zW:Mq (MA M7)->Mq M7->Mq M7
 |some k::ks,v::vs=>k::v::zW ks vs
 |_,_=>[]
abbrev GJ (Γ:Gam)(f:M7->MA E):Mq M7->MA E
 |[a,.Name c _]=>if EO Γ c&&Γ.blt.contains c then match vG c,f a with
  |some d,gV b=>gV (.isi d b)
  |_,_=>td
  else td
 |_=>td
abbrev dP:M7->M9
 |.Name _ _=>true|.Constant _ _ _=>true|.Subscript _ _ _=>true|_=>false
abbrev gU (Γ:Gam)(x:M2):M9:=Γ.sc.lookup x==gV .globalImplicit && !(x==("__debug__": M2))
abbrev c7 (Γ:Gam)(x:M2):MA Mz:=if (Γ.sc.lookup x==gV .local)||(Γ.dfn&&Γ.sc.lookup x==gV .cell)then Γ.N.findIdx? (· == x)else td
abbrev cA (f:M7->MA E)(es:Mq M7):MA Es:=es.foldr (λe a=>match f e,a with|some c,gV b=>gV (.cons c b)|_,_=>td) (gV .nil)
abbrev cB (f:M7->MA E)(e:VP):Mq M7->MA E
 |[]=>td
 |[a]=>f a
 |a::b::cj=>match f a,cB f e (b::cj)with
  |some c,gV d=>gV (match e with|.And=>.and c d|.Or=>.or c d)
  |_,_=>td
abbrev cP (f:M7->MA E):MA M7->MA Ep
 |none=>gV .no
 |some e=>(f e).map .yes
abbrev isTup:M7->M9
 |.Tuple _ _ _=>true
 |_=>false
abbrev cI (Γ:Gam)(f:M7->MA E)(tg:M7):M7->MA Ie
 |.Call (.Name x p) [a] [] q=>if x==("range": M2)&&gU Γ x&&Γ.blt.contains x then(cA f [a]).map .rng else if x==("enumerate": M2)&&gU Γ x&&Γ.blt.contains x&&isTup tg then(cA f [a]).map .enu else(f (.Call (.Name x p) [a] [] q)).map .seq
 |.Call (.Name x p) [a,b] [] q=>if x==("range": M2)&&gU Γ x&&Γ.blt.contains x then(cA f [a,b]).map .rng2 else(f (.Call (.Name x p) [a,b] [] q)).map .seq
 |e=>(f e).map .seq
abbrev GK (Γ:Gam):Mq M7->MA (Mq Mz)
 |[]=>gV []
 |.Name x _::ts=>match c7 Γ x,GK Γ ts with
  |some i,gV is=>gV (i::is)
  |_,_=>td
 |_::_=>td
abbrev cT (Γ:Gam):M7->MA Tg
 |.Name x _=>(c7 Γ x).map .nm
 |.Tuple ts _ _=>(GK Γ ts).map .tp
 |_=>td
abbrev jZ (names:Mq (M2×OD)):Mq M2:=(names.filter λp=>p.2==.local||p.2==.free).map (·.1)
abbrev iT (Γ:Gam)(names:Mq (M2×OD)):Mq (MA Mz):=(jZ names).map λx=>if names.lookup x==gV .local then td else Γ.N.findIdx? (· == x)
abbrev zX (Γ:Gam)(scope:PR):M9:=
 (scope.kind==.function)&&scope.names.all (λy=>!(y.2==.local)||scope.names.lookup y.1==gV .local)&&scope.names.all (λy=>!(y.2==.cell)) &&
 scope.names.all (λy=>!(y.2==.free)||(DK (Γ.sc.lookup y.1)&&scope.names.lookup y.1==gV .free&&(Γ.N.findIdx? (· == y.1)).isSome))&&decide (jZ scope.names).Nodup
abbrev lI (Γ:Gam)(scope:PR):Gam:={Γ with sc:=gd scope.names Γ.sc,N:=jZ scope.names,dfn:=false}
abbrev zY (f:M7->MA E)(keys:Mq (MA M7))(a:Mq M7):MA E:=
 if keys.isEmpty&&a.isEmpty then gV .dnew
 else if keys.all (·.isSome)&&decide (↥keys=↥a)&&decide (↥keys<=15)then(cA f (zW keys a)).map .disp else td
abbrev Ll (f:M7->MA E)(Γ:Gam)(b:Bi):Mq M7->M7->MA E
 |[],.Call (.Attribute o m apos) [] [] cpos=>if b==.list&&m==("values": M2)&&dP o&&(apos.endLine==cpos.line)then(f o).map λa=>.bi .vals #v[a]else td
 |[],.Call (.Name x _) [u,v] [] _=>if b==.dict&&x==("zip": M2)&&gU Γ x&&Γ.blt.contains x then(cA f [u,v]).map (.bi .dzip)else td
 |_,_=>td
abbrev cE:Mz->Gam->M7->MA E
 |0,_,_=>td
 |n+1,Γ,e=>match e with
  |.Constant (.int i) _ _=>gV (.c (.int i))
  |.Constant (.str x) _ _=>gV (.c (.str x))
  |.Constant (.bool b) _ _=>gV (.c (.bl b))
  |.Constant .none _ _=>gV (.c .non)
  |.Name x _=>match slot Γ x with
   |some i=>gV (.v i)
   |none=>td
  |.BinOp a j b _=>match vF j,cE n Γ a,cE n Γ b with
   |some o,gV c,gV g=>gV (.op o c g)
   |_,_,_=>td
  |.UnaryOp .Not a _=>(cE n Γ a).map .not
  |.UnaryOp .USub a _=>(cE n Γ a).map .neg
  |.BoolOp j vs _=>cB (cE n Γ) j vs
  |.Compare a [j] [b] _=>match jY j,cE n Γ a,cE n Γ b with
   |some o,gV c,gV g=>gV (.cmp o c g)
   |_,_,_=>td
  |.Compare a [j,v] [b,d] _=>match jY j,jY v,cE n Γ a,cE n Γ b,cE n Γ d with
   |some o,gV u,gV c,gV g,gV d'=>gV (.chn o u c g d')
   |_,_,_,_,_=>td
  |.IfExp t a b _=>match cE n Γ t,cE n Γ a,cE n Γ b with
   |some t',gV c,gV g=>gV (.ite t' c g)
   |_,_,_=>td
  |.Call (.Name f _) args [] _=>if gU Γ f then match Γ.fns.lookup f with
    |some k=>(cA (cE n Γ) args).map (.own f k)
    |none=>if f==("isinstance": M2)then(if Γ.blt.contains f then GJ Γ (cE n Γ) args else td)else match zV f,args with
     |some b,a::as=>if Γ.blt.contains f then(match cA (cE n Γ) (a::as)with|some es=>gV (.bi b es)|none=>Ll (cE n Γ) Γ b as a)else td
     |_,_=>td
   else td
  |.Call (.Attribute o m apos) (a::as) [] cpos=>match DL m,cE n Γ o,cA (cE n Γ) (a::as)with
   |some z,gV u,gV es=>if dP o&&(apos.endLine==cpos.line)&&decide ((a::as).length<29)then gV (.me z u es)else td
   |_,_,_=>td
  |.Subscript a (.Slice lo hi td _) _=>match cE n Γ a,cP (cE n Γ) lo,cP (cE n Γ) hi with
   |some c,gV s,gV r=>gV (.sl c s r)
   |_,_,_=>td
  |.Subscript a b _=>match cE n Γ a,cE n Γ b with
   |some c,gV g=>gV (.ix c g)
   |_,_=>td
  |.Tuple es _ _=>(cA (cE n Γ) es).map .tup
  |.List es _=>(cA (cE n Γ) es).map .lst
  |.Dict keys h _=>zY (cE n Γ) keys h
  |.ListComp q [#[tg,iter,l,p]] scope _=>if (p==0)&&(zX Γ scope&&decide (↥l<=1))then
    match cI Γ (cE n Γ) tg iter,cT (lI Γ scope) tg,cA (cE n (lI Γ scope)) l,cE n (lI Γ scope) q with
    |some it,gV t,gV w,gV y=>gV (.comp y t it w (iT Γ scope.names))
    |_,_,_,_=>td
   else td
  |_=>td
structure CtxOk (M:M2->FF)(X:Cx)(Γ:Gam):Prop where
 names:X.env.scope.names=Γ.sc
 kind:X.env.scope.kind=.function
 N:X.N=Γ.N
 nd:Γ.N.Nodup
 calm:X.calm=true
 xe:X.xe=λ_ _=>N6
 un:X.A.units+ig<cLine
 dfn:Γ.dfn=true->∀x,X.fn x=true
 blt:∀x∈Γ.blt,X.mg x=td
 fns:∀f n,Γ.fns.lookup f=gV n->∃k fa fd ps,FnOk X.prog X.w X.K X.mg X.base ye k fa fd ps (spF X.w X.K n (M f))/\Room k X.A/\X.mg f=gV (.ref fa)/\Ob X.K (.ref fa)=true/\Binds X.K fd ps []
abbrev iw:M7->M9
 |.Starred _ _=>false
 |_=>true
def aA (h:iw e=true):starEach (e::es) env=(false,eval e env)::starEach es env:=by
 cases e<;>first|rfl|cases h
def aS :∀{es:Mq M7},es.all iw=true->(backTo pos (starEach es env)).any (·.1)=false
 |[],_=>rfl
 |e::es,h=>by
  rw[NG,MB]at h;rw[aA h.1];show(false||(backTo pos _).any _)=false
  rw[aS h.2];rfl
def rs :∀{es:Mq M7},es.all iw=true->(backTo pos (starEach es env)).all (λx=>!x.1)=true
 |[],_=>rfl
 |e::es,h=>by
  rw[NG,MB]at h;rw[aA h.1];show(true&&(backTo pos _).all (λx=>!x.1))=true
  rw[rs h.2];rfl
def ju (h:cE n Γ e=gV a):iw e=true:=by
 cases n with
 |zero=>cases h
 |succ n=>cases e<;>first|rfl|(show ak h)
def iU (h:cA f (e::es)=gV r):∃b a,f e=gV b/\cA f es=gV a/\r=.cons b a:=by
 (dsimp only[cA]at h;simp only[Ut]at h)
 split at h
 ·rename_i b a c d;cases h;show#[b,a,c,d,rfl]
 ·cases h
def b6 :∀{es:Mq M7}{r:Es},cA (cE n Γ) es=gV r->es.all iw=true
 |[],_,_=>rfl
 |e::es,r,h=>by
  obtain⟨d,a,b,c,_⟩:=iU h;rw[NG,ju b,b6 c];rfl
def dv {N:Mq M2}(h:N.findIdx? (· == x)=gV i):N[i]?=gV x:=by
 obtain⟨hl,a,_⟩:=Oc.mp h;rw[MC hl];show congrArg _ (eq_of_beq a)
section
variable{M:M2->FF}{X:Cx}{Γ:Gam}
def kH :GT X e (λ_ _=>td):=λJ s Y H Q I #[A,Z,S,k,S',er,so,e1,hq]=>by cases e1
def zZ (h:GH (X.env.scope.names.lookup x)=true):Kl X.env.scope x:=by
 unfold GH at h;split at h
 ·show .inl (by assumption)
 ·show .inr (.inl (by assumption))
 ·show .inr (.inr (by assumption))
 ·cases h
def z4 (K:CtxOk M X Γ)(h:slot Γ x=gV i):GE X (.Name x pos) (fV i):=by
 unfold slot at h;split at h
 ·rename_i hc;rw[MB,MB]at hc;obtain⟨⟨a,b⟩,c⟩:=hc;show Lg (yi (by rw[K.N];show dv h) (zZ (by rw[K.names];show a)) (by simpa using b) (by simpa using c))
 ·cases h
def iV (K:CtxOk M X Γ)(h:gU Γ x=true):Gl X x/\(x==("__debug__"))=false:=by
 unfold gU at h;rw[MB]at h;show#[?_,by simpa using h.2]
 change X.env.scope.names.lookup x=_;rw[K.names];show eq_of_beq h.1
def lJ (h:jY o=gV c):c.py=o:=by
 cases o<;>((dsimp only[jY]at h;simp only[Np]at h);subst h;rfl)
def z5 (h:vF o=gV c):c.py=o:=by
 cases o<;>simp only[vF,Np]at h<;>first|(subst h;rfl)|cases h
def jv (h:zV x=gV b):b.name=x:=by
 have:=Sd h;show eq_of_beq this
def xE (h:DL x=gV b):b.name=x:=by
 have:=Sd h;show eq_of_beq this
def c8 (ih:∀{e:M7}{a:E},cE n Γ e=gV a->GE X e (aE M a)):∀{es:Mq M7}{r:Es},cA (cE n Γ) es=gV r->GA X es (cV M r)
 |[],r,h=>by cases h;show Go
 |e::es,r,h=>by
  obtain⟨a,c,b,d,rfl⟩:=iU h;show C6 (ih b) (c8 ih d) (aA (ju b))
def Jl (K:CtxOk M X Γ)(o:gU Γ f=true)(m:Γ.fns.lookup f=gV k)(g:cA (cE n Γ) args=gV r)(h:GA X args (cV M r)):GE X (.Call (.Name f p) args [] pos) (qV k (M f) (cV M r)):=by
 obtain⟨d,q,s,ps,F,l,j,hk,i⟩:=K.fns f k m;obtain⟨c,e⟩:=iV K o;cases args with
 |nil=>cases g;show Da F l c j hk i e
 |cons a as=>
  have b:=b6 g;rw[NG,MB]at b;show Gr F l c j hk i h e (aA b.1) (aS b.2)
def Lm (K:CtxOk M X Γ)(t:gU Γ f=true)(l:zV f=gV b)(hc:Γ.blt.contains f=true)(q:cA (cE n Γ) (a::as)=gV r)(h:GA X (a::as) (cV M r)):GE X (.Call (.Name f p) (a::as) [] pos) (fK b.fn (cV M r)):=by
 obtain⟨d,i⟩:=iV K t;have k:=K.blt f (by simpa using hc)
 have c:=b6 q;rw[NG,MB]at c;have e:=jv l;subst e;have m:X.A.units+12<cLine:=by have:=K.un;have:ig=20:=rfl;omega
 have calm:∀{f:Mu}{g:Mq W->aa->MA _},(X.A.handled=td->LCall X f g)->LCall X f g:=λh J s Y H A S xs vs us w o I=>h (I.ok.hd K.calm) _ s Y H A S xs vs us w o I
 cases b with
 |len=>show vm (fZ tq (fZ tz tL)) d k PySem.boot_len h #v[] i (aA c.1) (aS c.2)
 |list=>show nM (calm λj=>fZ (qF j) (fZ (qS j) (rm j))) d k rfl h #v[] i (aA c.1) (aS c.2)
 |tuple=>show nM (calm po) d k rfl h #v[] i (aA c.1) (aS c.2)
 |int=>show nM xg d k rfl h #v[] i (aA c.1) (aS c.2)
 |sorted=>show vm (calm λj=>pg j m) d k rfl h #v[] i (aA c.1) (aS c.2)
 |range=>show nM qE d k rfl h #v[] i (aA c.1) (aS c.2)
 |all=>show vm (calm xv) d k rfl h #v[] i (aA c.1) (aS c.2)
 |min=>show vm (calm λj=>xt j m) d k rfl h #v[] i (aA c.1) (aS c.2)
 |set=>show nM (calm λj=>fZ (tt j) (tB j)) d k rfl h #v[] i (aA c.1) (aS c.2)
 |dict=>show nM (calm tK) d k rfl h #v[] i (aA c.1) (aS c.2)
 |dzip=>show absurd (Qa l) #v[]
 |vals=>show absurd (Qa l) #v[]
def z6 (h:vG x=gV c):bootBuiltins x=gV (.type c)/\x≠"__name__":=by
 unfold vG at h;split at h
 ·rename_i e;cases h;rw[eq_of_beq e];show#[rfl,#v[]]
 ·split at h
  ·rename_i e;cases h;rw[eq_of_beq e];show#[rfl,#v[]]
  ·split at h
   ·rename_i e;cases h;rw[eq_of_beq e];show#[rfl,#v[]]
   ·split at h
    ·rename_i e;cases h;rw[eq_of_beq e];show#[rfl,#v[]]
    ·split at h
     ·rename_i e;cases h;rw[eq_of_beq e];show#[rfl,#v[]]
     ·split at h
      ·rename_i e;cases h;rw[eq_of_beq e];show#[rfl,#v[]]
      ·cases h
def Jm (K:CtxOk M X Γ)(w:gU Γ f=true)(v:(f==("isinstance"))=true)(hc:Γ.blt.contains f=true)(ih:∀{e:M7}{j:E},cE n Γ e=gV j->GE X e (aE M j))(h:GJ Γ (cE n Γ) args=gV r) :
  GE X (.Call (.Name f p) args [] pos) (aE M r)/\∃a c,r=.isi c a:=by
 obtain⟨o,y⟩:=iV K w;have x:=K.blt f (by simpa using hc)
 have e:=eq_of_beq v;subst e;rcases args with _|⟨a,_|⟨k,_|_⟩⟩
 ·show ak h
 ·show ak h
 ·cases k with
  |Name c q=>
   replace h:(if EO Γ c&&Γ.blt.contains c then match vG c,cE n Γ a with|some g,gV d=>gV (E.isi g d)|_,_=>td else td)=gV r:=h
   split at h
   ·rename_i b;rw[MB]at b;obtain⟨s,t⟩:=iV K  b.1;have i:=K.blt c (by simpa using b.2)
    split at h
    ·rename_i g d u l;cases h;obtain⟨m,b2⟩:=z6 u;show#[GC o x s i m b2 t (ih l) (aA (ju l)),d,g,rfl]
    ·cases h
   ·cases h
  |_=>show ak h
 ·cases k<;>show ak h
def c9 (h:dP o=true):attributeBase o name env (eval o env)=eval o env:=by
 cases o<;>first|rfl|cases h
def vH (ih:∀{e:M7}{b:E},cE n Γ e=gV b->GE X e (aE M b)):∀ keys values {r:Es},keys.all (·.isSome)=true->↥keys=↥values->cA (cE n Γ) (zW keys values)=gV r->Jf X pos keys values (cV M r)
 |[],[],r,_,_,h=>by cases h;show Dv
 |[],_::_,r,_,hl,_=>by cases hl
 |_::_,[],r,_,hl,_=>by cases hl
 |none::_,_::_,r,a,_,_=>by cases a
 |some k::ks,v::vs,r,a,hl,h=>by
  obtain⟨l,c,f,g,rfl⟩:=iU h;obtain⟨m,d,i,j,rfl⟩:=iU g;rw[NG,MB]at a;show zI (ih f) (ih i) (vH ih ks vs a.2 (by simpa using hl) j)
def Ln (K:CtxOk M X Γ)(u:DL m=gV b)(f:dP o=true)(hl:(apos.endLine==cpos.line)=true)(y:(a::as).length<29)(d:GE X o (aE M l))(t:cA (cE n Γ) (a::as)=gV r)(h:GA X (a::as) (cV M r)) :
  GE X (.Call (.Attribute o m apos) (a::as) [] cpos) (BY b.ty b.fn (aE M l) (cV M r)):=by
 have c:=b6 t;have g:=c;rw[NG,MB]at c;have jC:((backTo cpos (starEach (a::as) X.env)).all (λx=>!x.1)&&(backToKw cpos (keywordEach [] X.env)).all (λx=>x.1.isSome)&&decide ((a::as).length+([]:Mq Uz).length+(if ([]:Mq Uz).isEmpty then 0 else 1)<30))=true:=by
  rw[rs g,Pp,MB];show#[rfl,NB (by revert Oy List.isEmpty_nil Qm;omega)]
 have e:=xE u;subst e;cases b with
 |append=>show nN Py PySem.F.slot_list_append PySem.F.type_list_append oZ #v[] d h (c9 f) jC hl (aA c.1) (aS c.2)
 |extend=>show nN Py PySem.F.slot_list_extend PySem.F.type_list_extend o4 #v[] d h (c9 f) jC hl (aA c.1) (aS c.2)
 |pop=>show nN Py PySem.F.slot_list_pop PySem.F.type_list_pop xi #v[] d h (c9 f) jC hl (aA c.1) (aS c.2)
 |get=>show nN RH Sg PySem.F.type_dict_get (sT (by have:=K.un;have:ig=20:=rfl;omega)) #v[] d h (c9 f) jC hl (aA c.1) (aS c.2)
 |index=>
  have q:=nN Py RG PySem.F.type_list_index pr #v[] d h (c9 f) jC hl (aA c.1) (aS c.2)
  have gt:=nN PySem.F.plainAttrs_tuple RA PySem.F.type_tuple_index pA #v[] d h (c9 f) jC hl (aA c.1) (aS c.2)
  intro J s Y H Q I ⟨A,Z,S,w,i,j,p,e,k⟩;rcases Dn e with e|e
  ·show q J s Y H Q I #[A,Z,S,w,i,j,p,e,k]
  ·show gt J s Y H Q I #[A,Z,S,w,i,j,p,e,k]
def Lo (K:CtxOk M X Γ)(N:gU Γ f=true)(A:zV f=gV b)(hc:Γ.blt.contains f=true)(ih:∀{e:M7}{c:E},cE n Γ e=gV c->GE X e (aE M c))(h:Ll (cE n Γ) Γ b as a=gV c) :
  ∃G es,c=.bi G es/\GE X (.Call (.Name f p) (a::as) [] pos) (aE M c):=by
 obtain⟨z,P⟩:=iV K N;have B:=K.blt f (by simpa using hc)
 cases as with
 |cons _ t=>
  cases a<;>show ak h
 |nil=>
  cases a with
  |Call fn args k cpos=>
   cases k with
   |cons _ _=>cases fn<;>first|show ak h|(rcases args with _|⟨_,_|⟨_,_|_⟩⟩<;>show ak h)
   |nil=>
    cases fn with
    |Attribute o m apos=>
     cases args with
     |cons _ _=>show ak h
     |nil=>
      replace h:(if b==.list&&m==("values": M2)&&dP o&&(apos.endLine==cpos.line)then(cE n Γ o).map λC=>E.bi .vals #v[C]else td)=gV c:=h
      split at h
      ·rename_i d;rw[MB,MB,MB]at d;obtain⟨⟨⟨q,r⟩,w⟩,y⟩:=d;obtain⟨C,g,rfl⟩:=Mv.mp h;have i:=eq_of_beq q;subst i;have j:=eq_of_beq r;subst j;have e:=jv A;subst e;show#[_,_,rfl,λJ s Y H Q I=>DI (I.ok.hd K.calm) (ih g) (c9 w) y z B J s Y H Q I]
      ·cases h
    |Name x p2=>
     rcases args with _|⟨u,_|⟨v,_|_⟩⟩
     ·show ak h
     ·show ak h
     ·replace h:(if b==.dict&&x==("zip": M2)&&gU Γ x&&Γ.blt.contains x then(cA (cE n Γ) [u,v]).map (E.bi .dzip)else td)=gV c:=h
      split at h
      ·rename_i d;rw[MB,MB,MB]at d;obtain⟨⟨⟨q,r⟩,w⟩,y⟩:=d;obtain⟨es,g,rfl⟩:=Mv.mp h;have i:=eq_of_beq q;subst i;have j:=eq_of_beq r;subst j;have e:=jv A;subst e;obtain⟨L,R⟩:=iV K w;have l:=b6 g;rw[NG,MB,NG,MB]at l;have D:=aA (es:=[]) (env:=X.env) l.2.1;have O:=aA (es:=[v]) (env:=X.env) l.1;show#[_,_,rfl,λJ s Y H Q I=>DE (I.ok.hd K.calm) z B L (K.blt _ (by simpa using y)) (c8 ih g) (by rw[O,D];rfl) (by rw[D];rfl) J s Y H Q I]
      ·cases h
     ·show ak h
    |_=>show ak h
  |_=>show ak h
def iW (h:cE n Γ e=gV a):behindInMarks b e=false:=by
 cases n with
 |zero=>cases h
 |succ n=>cases e<;>first|rfl|(show ak h)
def tM (h:cE n Γ e=gV a):oR e:=by
 cases n with
 |zero=>cases h
 |succ n=>cases e<;>first|(intro o i;rfl)|(show ak h)
def pH {n:Mz}(b:∀a k p,f (.Set a k p)=td)(h:cI Γ f tg e=gV i):∀x,foldedSetIterable e env x=pure x:=by
 intro x;cases e<;>first|rfl|((dsimp only[cI]at h;simp[b]at h))
def pI (ih:∀{e:M7}{d:E},cE n Γ e=gV d->GE X e (aE M d)):∀{vs:Mq M7}{r:E},cB (cE n Γ) c vs=gV r->GE X (.BoolOp c vs pos) (aE M r)
 |[],r,h=>by cases h
 |[a],r,h=>Gj (ih h)
 |a::b::cj,r,h=>by
  simp only[cB]at h;split at h
  ·rename_i i j f g;cases h;cases c with
   |And=>show Gk (ih f) (pI ih g)
   |Or=>show IZ (ih f) (pI ih g)
  ·cases h
def pJ (ih:∀{e:M7}{d:E},cE n Γ e=gV d->GT X e (dh M d)):∀{vs:Mq M7}{r:E},cB (cE n Γ) c vs=gV r->GW X (.BoolOp c vs pos) (dh M r)
 |[],r,h=>by cases h
 |[a],r,h=>by
  cases c with
  |And=>show C3 (ih h)
  |Or=>show Gg (ih h)
 |a::b::cj,r,h=>by
  simp only[cB]at h;split at h
  ·rename_i i j f g;cases h;cases c with
   |And=>show Gh (ih f) (pJ ih g)
   |Or=>show IY (ih f) (pJ ih g)
  ·cases h
def z7 (ih:∀{e:M7}{a:E},cE n Γ e=gV a->GE X e (aE M a))(h:cP (cE n Γ) o=gV p):GO X o (vE M p):=by
 cases o with
 |none=>cases h;show C8
 |some e=>
  (dsimp only[cP]at h;simp only[Mv]at h)
  obtain⟨a,b,rfl⟩:=h;show C9 (ih b)
def tN (K:CtxOk M X Γ)(ih:∀{e:M7}{m:E},cE n Γ e=gV m->GE X e (aE M m))(h:cI Γ (cE n Γ) tg e=gV i):GI X tg e (jt M i):=by
 have c:(cE n Γ e).map Ie.seq=gV i->GI X tg e (jt M i):=λh=>by
  rw[Mv]at h;obtain⟨m,g,rfl⟩:=h;show Dy (ih g)
 cases e with
 |Call fn args o q=>
  cases o with
  |cons _ _=>cases fn<;>first|show c h|(rcases args with _|⟨_,_|⟨_,_|_⟩⟩<;>show c h)
  |nil=>
   cases fn with
   |Name x p=>
    rcases args with _|⟨a,_|⟨b,_|_⟩⟩
    ·show c h
    ·replace h:(if x==("range": M2)&&gU Γ x&&Γ.blt.contains x then(cA (cE n Γ) [a]).map .rng else if x==("enumerate": M2)&&gU Γ x&&Γ.blt.contains x&&isTup tg then(cA (cE n Γ) [a]).map .enu else(cE n Γ (.Call (.Name x p) [a] [] q)).map .seq)=gV i:=h
     split at h
     ·rename_i hc;rw[MB,MB]at hc;obtain⟨⟨g,j⟩,k⟩:=hc;have l:=eq_of_beq g;subst l;rw[Mv]at h;obtain⟨r,f,rfl⟩:=h;have d:=b6 f;rw[NG,MB]at d;show Ds (iV K j).1 (K.blt _ (by simpa using k)) (c8 ih f) (aA d.1)
     ·split at h
      ·rename_i hc;rw[MB,MB,MB]at hc;obtain⟨⟨⟨g,j⟩,k⟩,t⟩:=hc;have l:=eq_of_beq g;subst l;rw[Mv]at h;obtain⟨r,f,rfl⟩:=h;have d:=b6 f;rw[NG,MB]at d;cases tg with
       |Tuple s u v=>show DJ (iV K j).1 (K.blt _ (by simpa using k)) (c8 ih f) (aA d.1)
       |_=>cases t
      ·show c h
    ·replace h:(if x==("range": M2)&&gU Γ x&&Γ.blt.contains x then(cA (cE n Γ) [a,b]).map .rng2 else(cE n Γ (.Call (.Name x p) [a,b] [] q)).map .seq)=gV i:=h
     split at h
     ·rename_i hc;rw[MB,MB]at hc;obtain⟨⟨g,j⟩,k⟩:=hc;have l:=eq_of_beq g;subst l;rw[Mv]at h;obtain⟨r,f,rfl⟩:=h;have d:=b6 f;rw[NG,NG,MB,MB]at d;show Dt (iV K j).1 (K.blt _ (by simpa using k)) (c8 ih f) (by rw[aA d.1,aA d.2.1];rfl) (aA d.2.1)
     ·show c h
    ·show c h
   |_=>show c h
 |_=>show c h
def pK (K:CtxOk M X Γ)(h:c7 Γ x=gV i):X.N[i]?=gV x/\B3 X.env.scope x/\(X.fn x=true\/X.env.scope.names.lookup x=gV .local):=by
 unfold c7 at h;split at h
 ·rename_i hc;show#[by rw[K.N];show dv h,?_]
  unfold L2.B3;rw[K.names];rw[Oz,MB]at hc;rcases hc with hc|⟨hd,hc⟩
  ·have:=eq_of_beq hc;show#[.inl this,.inr this]
  ·show#[.inr (eq_of_beq hc),.inl (K.dfn hd x)]
 ·cases h
def rz (K:CtxOk M X Γ):∀{ts:Mq M7}{is:Mq Mz},GK Γ ts=gV is->(∀x∈ts,∃y p,x=SM y p)/\Q8 (λ t i=>∃x p,t=SM x p/\X.N[i]?=gV x/\B3 X.env.scope x/\(X.fn x=true\/X.env.scope.names.lookup x=gV .local)) ts is
 |[],is,h=>by cases h;show#[λx f=>by simp at f,.nil]
 |t::ts,is,h=>by
  cases t with
  |Name x p=>
   dsimp only[GK]at h;split at h
   ·rename_i i j c d;cases h;obtain⟨a,b⟩:=rz K d;show#[λy g=>(M5.mp g).elim (λe=>#[x,p,e]) (a y),.cons #[x,p,rfl,pK K c] b]
   ·cases h
  |_=>cases h
def iy :∀{ts:Mq M7},(∀x∈ts,∃y p,x=SM y p)->(assignEach ts env).length=↥ts/\(assignEach ts env).findIdx? (·.1)=td
 |[],_=>#[rfl,rfl]
 |t::ts,h=>by
  obtain⟨y,p,rfl⟩:=h t OB;obtain⟨a,b⟩:=iy  λx c=>h x (NX _ c)
  show#[by show(assignEach ts env).length+1=↥ts+1;rw[a],?_]
  change List.findIdx? _ ((false,assign _ env)::assignEach ts env)=td;rw[List.findIdx?_cons,b];rfl
def vI (K:CtxOk M X Γ)(h:cT Γ tg=gV t):GG X tg (lH t):=by
 have e:X.N.Nodup:=by rw[K.N];show K.nd
 cases tg with
 |Name x p=>
  dsimp only[cT]at h;simp only[Mv]at h
  obtain⟨i,d,rfl⟩:=h;obtain⟨a,b,c⟩:=pK K d;show vo e a b c
 |Tuple ts k p=>
  dsimp only[cT]at h;simp only[Mv]at h
  obtain⟨is,d,rfl⟩:=h;obtain⟨a,b⟩:=rz K d;show Gv K.calm a b e (iy a).1 (iy a).2
 |_=>cases h
end
abbrev eQ (env:TZ):Mq (M2×OD)->Mq (M2×MF)->Mq (M2×MF)
 |[],a=>a
 |(n,k)::r,a=>eQ env r (if k==.free then(n,(env.cells.lookup n).getD 0)::a else a)
def jw :∀ names d,(∀y∈names,y.2=.free->(env.cells.lookup y.1).isSome=true)->
  (forIn names d λx r=>match x with|(name,kind)=>if (kind==Qk)=true then do let a <- cellOf env name;pure (OA ((name,a)::r))else pure (OA r):Vn (Mq (M2×MF)))=pure (eQ env names d)
 |[],d,_=>by rfl
 |(n,k)::r,d,h=>by
  rw[Qn];have e:=λy g=>h y (NX _ g)
  by_cases hk:(k==Qk)=true
  ·obtain⟨c,hc⟩:=NS.mp (h _ OB (eq_of_beq hk));have f:cellOf env n=pure c:=by unfold cellOf;rw[hc]
   revert hk Qm f pure_bind;rw[jw r _ e];revert eQ hk Qm hc O1
  ·have b:(k==Qk)=false:=by simpa using hk
   revert b PF QT pure_bind;rw[jw r _ e];revert eQ b PF QT
def kw (h:∀y∈scope.names,y.2=.free->(env.cells.lookup y.1).isSome=true):closureFor scope env=pure (eQ env scope.names []):=by
 have:=jw _ [] h;delta closureFor;revert this pure_bind
def lK :∀ names a,(∀y∈names,y.2=.free->(env.cells.lookup y.1).isSome=true)->(∀x c,a.lookup x=gV c->env.cells.lookup x=gV c)->
  ∀x c,(eQ env names a).lookup x=gV c->env.cells.lookup x=gV c
 |[],a,_,h,x,c,e=>h x c e
 |(n,k)::r,a,b,h,x,c,e=>by
  show lK r _ (λy f=>b y (NX _ f)) (λx c e=>?_) x c e
  split at e
  ·rename_i hk;rw[OE]at e;split at e
   ·rename_i d;cases e;have:=eq_of_beq d;subst this;obtain⟨c,hc⟩:=NS.mp (b _ OB (eq_of_beq hk));rw[hc];rfl
   ·show h x c e
  ·show h x c e
def j3 :∀ names a,(∃c,a.lookup x=gV c)->∃c,(eQ env names a).lookup x=gV c
 |[],a,h=>h
 |(n,k)::r,a,h=>by
  show j3 r _ ?_;split
  ·rw[OE];split
   ·show#[_,rfl]
   ·show h
  ·show h
def lL :∀ names a,(x,Qk)∈names->∃c,(eQ env names a).lookup x=gV c
 |[],a,h=>by simp at h
 |(n,k)::r,a,h=>by
  rcases M5.mp h with e|h
  ·cases e;show j3 r _ ?_;simp[OE]
  ·show lL r _ h
def lM :∀{l:Mq (M2×OD)},l.lookup x=gV k->(x,k)∈l
 |[],h=>by simp at h
 |(n,j)::r,h=>by
  rw[OE]at h;split at h
  ·rename_i a;cases h;have:=eq_of_beq a;subst this;show OB
  ·show NX _ (lM h)
def eR (K:CtxOk M X Γ)(scope:PR):(relabel scope X.env).names=gd scope.names Γ.sc:=by
 unfold relabel gd RY;rw[K.kind,K.names];show Nw λ#[n,k] _=>?_
 have e:(Tr==Tr)=true:=rfl;revert e SW
def d4 :∀{names:Mq (M2×OD)},(gd names outer).lookup x=(names.lookup x).map λk=>if (k==.free&&outer.lookup x==gV .cell)then .cell else k
 |[]=>rfl
 |(n,k)::r=>by
  have ih:=d4 (outer:=outer) (x:=x) (names:=r);change List.lookup x ((if (k==Qk&&outer.lookup n==gV _)=true then(n,We)else(n,k))::gd r _)=_
  cases a:x==n with
  |true=>
   have:=eq_of_beq a;subst this;revert OE NJ Nb;split<;>simp[OE]
  |false=>
   split<;>(revert OE a;show ih)
section
variable{M:M2->FF}{X:Cx}{Γ:Gam}
structure ScOk (Γ:Gam)(scope:PR):Prop where
 kind:scope.kind=.function
 names:∀y∈scope.names,y.2=.local->scope.names.lookup y.1=gV .local
 nocell:∀y∈scope.names,y.2≠.cell
 free:∀y∈scope.names,y.2=.free->DK (Γ.sc.lookup y.1)=true/\scope.names.lookup y.1=gV .free/\(Γ.N.findIdx? (· == y.1)).isSome=true
 nd:(jZ scope.names).Nodup
def vJ (h:zX Γ scope=true):ScOk Γ scope:=by
 unfold zX at h;rw[MB,MB,MB,MB]at h;obtain⟨⟨⟨⟨b,c⟩,d⟩,f⟩,g⟩:=h;show#[eq_of_beq b,λy a e=>?_,λy a e=>?_,λy a e=>?_,NF g]
 ·have:=MY.mp c y a;rw[e]at this
  simpa using this
 ·have:=MY.mp d y a;rw[e]at this;simp at this
 ·have:=MY.mp f y a;rw[e]at this;simp only[NJ,Bool.not_true,QS,MB]at this;show#[this.1.1,eq_of_beq this.1.2,this.2]
def vK (h:DK o=true):o=gV .cell\/o=gV .free:=by
 unfold DK at h;split at h
 ·show .inl rfl
 ·show .inr rfl
 ·cases h
def nW (K:CtxOk M X Γ)(ok:X.Ok)(sc:ScOk Γ scope):CompOk X scope (eQ X.env scope.names []) (jZ scope.names) (iT Γ scope.names):=by
 have a:∀y∈scope.names,y.2=.free->(X.env.cells.lookup y.1).isSome=true:=λy r e=>by
  have hk:=vK (sc.free y r e).1;obtain⟨c,hc⟩:=ok.has y.1 (by unfold RY;rw[K.names];show hk)
  rw[hc];rfl
 have b:∀x,((relabel _ _).names.lookup x=gV .cell\/(relabel _ _).names.lookup x=gV .free)->(x,Qk)∈scope.names:=λx h=>by
  rw[eR K,d4]at h;cases q:scope.names.lookup x with
  |none=>rw[q]at h;rcases h with h|h<;>cases h
  |some k=>
   rw[q]at h;have d:=lM q;cases k with
   |free=>show d
   |cell=>show absurd rfl (sc.nocell _ d)
   |_=>rcases h with h|h<;>simp at h
 show#[kw a,sc.kind,sc.names,sc.nocell,lK _ _ a (λx c e=>by cases e),λx h=>lL _ _ (b x h),by(delta iT;simp),λi j x hi l=>?_]
 unfold iT at hi;rw[MD,l]at hi;simp only[Nb,Np]at hi;split at hi
 ·cases hi
 ·rename_i hl;have g:=MQ l;obtain⟨⟨s,k⟩,p,e⟩:=MN.mp g;obtain⟨d,hk⟩:=NP.mp p;have m:s=x:=e;subst m;have f:k=.free:=by
   simp only[Oz]at hk;rcases hk with hk|hk
   ·have:=eq_of_beq hk;subst this;have:=sc.names _ d rfl;rw[this]at hl;simp at hl
   ·show eq_of_beq hk
  subst f;obtain⟨n,o,t⟩:=sc.free _ d rfl;show#[by rw[K.N];show dv hi,by unfold RY;rw[K.names];show vK n,?_]
  rw[eR K,d4,o];revert Nb;split
  ·show .inl rfl
  ·show .inr rfl
def fe (K:CtxOk M X Γ)(sc:ScOk Γ scope)(C:MF)(s0:My)(a:Hp)(ex:Mq MF):CtxOk M (mQ X scope (eQ X.env scope.names []) C (jZ scope.names) s0 a ex) (lI Γ scope) where
 names:=eR K _
 kind:=sc.kind
 N:=rfl
 nd:=sc.nd
 calm:=K.calm
 xe:=rfl
 un:=K.un
 dfn:=λh=>by cases h
 blt:=K.blt
 fns:=K.fns
def rA (hl:↥a<=1)(hc:cA (cE n Γ) a=gV d)(ih:∀{e:M7}{b:E},cE n Γ e=gV b->GT Yq e (dh M b))(l:Yq.xe=λ_ _=>N6) :
  ∀J s Y H Q,Inv Yq J Y H s->tT Yq (EN M d) Y H Q->
  wpAny (model Yq.prog Yq.w) Yq.A (forIn a true λc r=>if r=true then do let ok <- isTrue c Yq.env (eval c Yq.env);pure (OA ok)else pure (OA r)) (TP Yq J Y Q) (λ_ _=>N6) s:=by
 intro J s Y H Q I h
 match a,hl,hc with
 |[],_,hc=>
  cases hc;obtain⟨A,Z,S,k,o,p,m,e,j⟩:=h;cases e;show wpAny_tests_nil #[H,I,j _ _ #[rfl,A,.refl,m]]
 |[c],_,hc=>
  obtain⟨b,f,g,i,rfl⟩:=iU hc;cases i;have:=ih g _ s Y H Q I h;rw[l]at this;show wpAny_tests_one this
def bT:∀ n {Γ:Gam}{X:Cx}{e:M7}{u:E},CtxOk M X Γ->cE n Γ e=gV u->GE X e (aE M u)/\GT X e (dh M u):=by
 intro n
 induction n with
 |zero=>intro Γ X e u K h;cases h
 |succ n ih=>
  intro Γ X e u K h;have j:∀{e:M7}{u:E},cE n Γ e=gV u->GE X e (aE M u):=λq=>(ih K q).1
  have O:∀{e:M7}{u:E},cE n Γ e=gV u->GT X e (dh M u):=λq=>(ih K q).2
  have L:X.A.units+10<cLine:=by have:=K.un;have:ig=20:=rfl;omega
  cases e with
  |Constant c k p=>
   cases c<;>cases h
   all_goals first
    |show#[qT yk (λ_ _=>.non),cf (qT yk (λ_ _=>.non)) λ_=>rfl]
    |show#[qT Ey (λ_ _=>.bl),cf (qT Ey (λ_ _=>.bl)) λ_=>rfl]
    |show#[qT yj (λ_ _=>.int),cf (qT yj (λ_ _=>.int)) λ_=>rfl]
    |show#[qT ym (λ_ _=>.str),cf (qT ym (λ_ _=>.str)) λ_=>rfl]
  |Name x p=>
   replace h:(match slot Γ x with|some i=>gV (E.v i)|none=>td)=gV u:=h
   split at h
   ·rename_i i l;cases h;show#[z4 K l,cf (z4 K l) λ_=>rfl]
   ·cases h
  |BinOp a G b p=>
   replace h:(match vF G,cE n Γ a,cE n Γ b with|some o,gV w,gV B=>gV (E.op o w B)|_,_,_=>td)=gV u:=h
   split at h
   ·rename_i o w B l A y;cases h;have e:=z5 l;subst e;show#[EE (uU o) (j A) (j y),cf (EE (uU o) (j A) (j y)) λ_=>rfl]
   ·cases h
  |UnaryOp G a p=>
   cases G with
   |Not=>
    replace h:(cE n Γ a).map E.not=gV u:=h;rw[Mv]at h;obtain⟨w,l,rfl⟩:=h;show#[Gm (j l),Gi (O l)]
   |USub=>
    replace h:(cE n Γ a).map E.neg=gV u:=h;rw[Mv]at h;obtain⟨w,l,rfl⟩:=h;show#[zp (j l),cf (zp (j l)) λ_=>rfl]
   |_=>show ak h
  |BoolOp G vs p=>
   replace h:cB (cE n Γ) G vs=gV u:=h;show#[pI j h,(pJ O h).pt]
  |Compare a ops W p=>
   match ops,W,h with
   |[G],[b],h=>
    replace h:(match jY G,cE n Γ a,cE n Γ b with|some o,gV w,gV B=>gV (E.cmp o w B)|_,_,_=>td)=gV u:=h
    split at h
    ·rename_i o w B l A y;cases h;have e:=lJ l;subst e;show#[Ge K.un (j A) (j y) (iW y),Gf K.un (j A) (j y) (iW y)]
    ·cases h
   |[],_,h=>show ak h
   |[_],[],h=>show ak h
   |[_],_::_::_,h=>show ak h
   |[G,op'],[b,d],h=>
    replace h:(match jY G,jY op',cE n Γ a,cE n Γ b,cE n Γ d with|some o,gV V,gV w,gV B,gV d'=>gV (E.chn o V w B d')|_,_,_,_,_=>td)=gV u:=h
    split at h
    ·rename_i o V w B d' l A y Z h5;cases h;have e:=lJ l;subst e;have e:=lJ A;subst e;show#[zq K.un (j y) (j Z) (j h5) (iW h5),zr K.un (j y) (j Z) (j h5) (iW h5)]
    ·cases h
   |[_,_],[],h=>show ak h
   |[_,_],[_],h=>show ak h
   |[_,_],_::_::_::_,h=>show ak h
   |_::_::_::_,_,h=>show ak h
  |IfExp t a b p=>
   replace h:(match cE n Γ t,cE n Γ a,cE n Γ b with|some t',gV w,gV B=>gV (E.ite t' w B)|_,_,_=>td)=gV u:=h
   split at h
   ·rename_i t' w B l A y;cases h;show#[Gn (O l) (j A) (j y),kH]
   ·cases h
  |Call f args kws p=>
   cases kws with
   |cons _ _=>cases f<;>first|(show ak h)|(cases args<;>(show ak h))
   |nil=>
    cases f with
    |Name x q=>
     replace h:(if gU Γ x then match Γ.fns.lookup x with|some k=>(cA (cE n Γ) args).map (E.own x k)|none=>if x==("isinstance": M2)then(if Γ.blt.contains x then GJ Γ (cE n Γ) args else td)else match (generalizing:=false) zV x,args with|some b,a::as=>if Γ.blt.contains x then(match (generalizing:=false) cA (cE n Γ) (a::as)with|some es=>gV (E.bi b es)|none=>Ll (cE n Γ) Γ b as a)else td|_,_=>td else td)=gV u:=h
     split at h
     ·rename_i hg;split at h
      ·rename_i k hk;rw[Mv]at h;obtain⟨r,N,rfl⟩:=h;have g:=Jl (pos:=p) (p:=q) K hg hk N (c8 j N);show#[g,cf g λ_=>rfl]
      ·split at h
       ·rename_i his;split at h
        ·rename_i hc;obtain⟨g,w,c',rfl⟩:=Jm (pos:=p) (p:=q) K hg his hc j h;show#[g,cf g λ_=>rfl]
        ·cases h
       ·split at h
        ·rename_i bb a as hb;split at h
         ·rename_i hc;split at h
          ·rename_i r N;cases h;have g:=Lm (pos:=p) (p:=q) K hg hb hc N (c8 j N);show#[g,cf g λ_=>rfl]
          ·obtain⟨B,es,rfl,g⟩:=Lo (pos:=p) (p:=q) K hg hb hc j h;show#[g,cf g λ_=>rfl]
         ·cases h
        ·cases h
     ·cases h
    |Attribute o m q=>
     cases args with
     |nil=>show ak h
     |cons a as=>
      replace h:(match DL m,cE n Γ o,cA (cE n Γ) (a::as)with|some m',gV V,gV es=>if dP o&&(q.endLine==p.line)&&decide ((a::as).length<29)then gV (E.me m' V es)else td|_,_,_=>td)=gV u:=h
      split at h
      ·rename_i m' V es l A y;split at h
       ·rename_i hc;rw[MB,MB,M8]at hc;cases h;have g:=Ln K (cpos:=p) (apos:=q) l hc.1.1 hc.1.2 hc.2 (j A) y (c8 j y);show#[g,cf g λ_=>rfl]
       ·cases h
      ·cases h
    |_=>show ak h
  |Subscript a b p=>
   have D:(match cE n Γ a,cE n Γ b with|some w,gV B=>gV (E.ix w B)|_,_=>td)=gV u->GE X (.Subscript a b p) (aE M u)/\GT X (.Subscript a b p) (dh M u):=λh=>by
    split at h
    ·rename_i w B l A;cases h;have g:=Jb (pos:=p) L (j l) (j A) (tM A);show#[g,cf g λ_=>rfl]
    ·cases h
   cases b with
   |Slice lo hi st q=>
    cases st with
    |none=>
     replace h:(match cE n Γ a,cP (cE n Γ) lo,cP (cE n Γ) hi with|some w,gV U,gV S=>gV (E.sl w U S)|_,_,_=>td)=gV u:=h
     split at h
     ·rename_i w U S l A y;cases h;have g:=Jc (pos:=p) (p2:=q) (j l) (z7 j A) (z7 j y);show#[g,cf g λ_=>rfl]
     ·cases h
    |some z=>show D h
   |_=>show D h
  |Tuple es k p=>
   replace h:(cA (cE n Γ) es).map E.tup=gV u:=h;rw[Mv]at h;obtain⟨r,l,rfl⟩:=h;show#[zx (c8 j l),cf (zx (c8 j l)) λ_=>rfl]
  |List es p=>
   replace h:(cA (cE n Γ) es).map E.lst=gV u:=h;rw[Mv]at h;obtain⟨r,l,rfl⟩:=h;show#[zy (c8 j l),cf (zy (c8 j l)) λ_=>rfl]
  |Dict keys v p=>
   replace h:zY (cE n Γ) keys v=gV u:=h;unfold zY at h;split at h
   ·rename_i hc;cases h;rw[MB]at hc;have k0:keys=[]:=Uf.mp hc.1;have v0:v=[]:=Uf.mp hc.2;subst k0 v0;show#[Dw,kH]
   ·rename_i hc0;split at h
    ·rename_i hc;rw[MB,MB,M8,M8]at hc;rw[Mv]at h;obtain⟨r,N,rfl⟩:=h;have h0:keys≠[]:=λz=>by
      subst z;have v0:v=[]:=Px.mp hc.1.2.symm;subst v0;show hc0 rfl
     show#[Dx (pos:=p) L (vH j keys v hc.1.1 hc.1.2 N) hc.1.1 hc.1.2 h0 hc.2,kH]
    ·cases h
  |ListComp elt gens scope p=>
   match gens,h with
   |[#[tg,iter,T,R]],h=>
    replace h:(if (R==0)&&(zX Γ scope&&decide (↥T<=1))then match cI Γ (cE n Γ) tg iter,cT (lI Γ scope) tg,cA (cE n (lI Γ scope)) T,cE n (lI Γ scope) elt with|some it,gV t,gV W,gV el=>gV (E.comp el t it W (iT Γ scope.names))|_,_,_,_=>td else td)=gV u:=h
    split at h
    ·rename_i hc;rw[MB,MB,M8]at hc;have e0:R=0:=eq_of_beq hc.1;subst e0;replace hc:=hc.2;split at h
     ·rename_i it t W el l A y Z;cases h;have sc:=vJ hc.1;show#[Dz K.calm (tN K j l) (λok=>#[_,nW K ok sc,?_]) (pH (n:=n) (λel k p=>by cases n<;>rfl) l),kH]
      show#[λC s0 P ex=>vI (fe K sc C s0 P ex) A,λC s0 P ex J s Y H Q I q=>?_,λC s0 P ex=>(ih (fe K sc C s0 P ex) Z).1]
      show rA hc.2 y (λz=>(ih (fe K sc C s0 P ex) z).2) rfl J s Y H Q I q
     ·cases h
    ·cases h
   |[],h=>show ak h
   |#[_,_,_,_]::_::_,h=>show ak h
  |_=>show ak h
end
noncomputable abbrev bU:Mz:=30
abbrev EQ:M7->M9
 |.Constant (.str _) _ _=>true
 |_=>false
abbrev jx:M7->M9
 |.ListComp _ _ _ _=>true
 |_=>false
abbrev vL:M7->M9
 |.Slice _ _ _ _=>true
 |_=>false
abbrev vM (f:Pq->MA Sm)(ss:Mq Pq):MA Ss:=ss.foldr (λs a=>match f s,a with|some c,gV b=>gV (.cons c b)|_,_=>td) (gV .nil)
abbrev Jn (Γ:Gam):Mq M7->M7->MA Sm
 |[.Name x c,.Name y py],.Tuple [a,b] _ _=>match Γ.N.findIdx? (· == x),Γ.N.findIdx? (· == y),cA (cE bU Γ) [a,b]with
  |some i,gV j,gV es=>if !(i==j)&&(Γ.sc.lookup x==gV .local)&&(Γ.sc.lookup y==gV .local)&&(py.line==c.line) && !([a,b].all (foldedForSure 8)) && !([a,b].all (constantsAlone 8))then gV (.par i j es)else td
  |_,_,_=>td
 |_,_=>td
abbrev cS:Mz->Gam->Pq->MA Sm
 |0,_,_=>td
 |n+1,Γ,st=>match st with
  |.Assign [.Name x _] e _=>match c7 Γ x,cE bU Γ e with
   |some i,gV d=>gV (.set i d)
   |_,_=>td
  |.Assign [.Tuple ts _ _] e _=>if isTup e then Jn Γ ts e else if jx e then td else match GK Γ ts,cE bU Γ e with
   |some is,gV d=>gV (.asg is d)
   |_,_=>td
  |.Assign [.Subscript o k _] e _=>if vL k then td else match cE bU Γ o,cE bU Γ k,cE bU Γ e with
   |some h,gV g,gV d=>gV (.put h g d)
   |_,_,_=>td
  |.Expr e _=>if EQ e then gV .pass else if jx e then td else(cE bU Γ e).map .ex
  |.Return (gV e) _=>(cE bU Γ e).map .ret
  |.Return td _=>gV .retN
  |.Pass _=>gV .pass
  |.Raise _ _ _=>gV .bad
  |.Break _=>gV .brk
  |.Continue _=>gV .cont
  |.If t a b _=>match cE bU Γ t,vM (cS n Γ) a,vM (cS n Γ) b with
   |some t',gV f,gV c=>gV (.ite t' f c)
   |_,_,_=>td
  |.While t b [] _=>match cE bU Γ t,vM (cS n Γ) b with
   |some t',gV c=>gV (.whl t' c)
   |_,_=>td
  |.For tg it b [] _=>match cT Γ tg,cI Γ (cE bU Γ) tg it,vM (cS n Γ) b with
   |some t,gV i,gV c=>gV (.loop t i c)
   |_,_,_=>td
  |_=>td
section
variable{M:M2->FF}{X:Cx}{Γ:Gam}{fuel:Mz}
def z8 (h:vM f (s::ss)=gV r):∃c a,f s=gV c/\vM f ss=gV a/\r=.cons c a:=by
 (dsimp only[vM]at h;simp only[Ut]at h)
 split at h
 ·rename_i d b e g;cases h;show#[d,b,e,g,rfl]
 ·cases h
def gG (ih:∀{st:Pq}{a:Sm},cS n Γ st=gV a->GS X st (gF M fuel a)):∀{ss:Mq Pq}{r:Ss},vM (cS n Γ) ss=gV r->GSs X ss (ga M fuel r)
 |[],r,h=>by cases h;show Db
 |s::ss,r,h=>by
  obtain⟨a,d,b,c,rfl⟩:=z8 h;show zA (ih b) (gG ih c)
def lN (h:jx e=false)(n:Mz)(hc:cE n Γ e=gV a):swapsWith e t l env=pure false:=by
 cases n with
 |zero=>cases hc
 |succ n=>cases e<;>first|(exfalso;show ak hc)|rfl|cases h
def tP (K:CtxOk M X Γ)(h:cE (n+1) Γ (.ListComp b gens scope p)=gV j) :
  ∃tg iter a o g c f e,gens=[#[tg,iter,a,0]]/\aE M j=lF o g c f e/\GI X tg iter o/\(X.Ok->∃l,CompOk X scope l (jZ scope.names) e/\BlockOk X scope l (jZ scope.names) tg b a g c f)/\∀x,foldedSetIterable iter X.env x=pure x:=by
 match gens,h with
 |[#[tg,iter,a,i]],h=>
  replace h:(if (i==0)&&(zX Γ _&&decide _)then match cI Γ _ tg _,cT _ tg,cA _ a,cE n _ b with|some it,gV t,gV u,gV m=>gV _|_,_,_,_=>td else td)=gV j:=h
  split at h
  ·rename_i hc;rw[MB,MB,M8]at hc;have v:=eq_of_beq hc.1;subst v;replace hc:=hc.2;split at h
   ·rename_i it t u m r w y A;cases h;have sc:=vJ hc.1;show#[tg,iter,a,_,_,_,_,_,rfl,rfl,tN K (λz=>(bT n K z).1) r,λok=>#[_,nW K ok sc,?_],pH (n:=n) (λm k p=>by cases n<;>rfl) r]
    show#[λC s0 d ex=>vI (fe K sc C s0 d ex) w,λC s0 d ex J s Y H Q I q=>?_,λC s0 d ex=>(bT n (fe K sc C s0 d ex) A).1]
    show rA hc.2 y (λz=>(bT n (fe K sc C s0 d ex) z).2) rfl _ s Y H Q I q
   ·cases h
  ·cases h
 |[],h=>show ak h
 |#[_,_,_,_]::_::_,h=>show ak h
def Jo (K:CtxOk M X Γ)(hi:c7 Γ x=gV i)(r:cE bU Γ e=gV m):GS X (.Assign [.Name x j] e pos) (lC (aE M m) (EF i)):=by
 obtain⟨a,b,c⟩:=pK K hi;have t:X.N.Nodup:=by rw[K.N];show K.nd
 have d:swapsWith e (gV (.Name x j)) pos.line X.env=pure false->GS X (.Assign [.Name x j] e pos) (lC (aE M m) (EF i)):=λs=>tf (bT _ K r).1 (vo t a b c) s (by cases e<;>rfl) rfl
 cases hc:jx e with
 |false=>show d (lN hc _ r)
 |true=>
  cases e with
  |ListComp o gens scope p=>
   cases h:(X.env.blockKind==.function&&X.env.kindOf x==gV .local&&j.line==p.line && !(scope.names.any λ(n,k)=>n==x&&(k==.local||k==.cell)))with
   |false=>
    show d ?_;show(pure (X.env.blockKind==.function&&X.env.kindOf x==gV .local&&j.line==p.line && !(scope.names.any λ(n,k)=>n==x&&(k==.local||k==.cell))):Vn M9)=pure false
    rw[h]
   |true=>
    have l:swapsWith (.ListComp o gens scope p) (gV (.Name x j)) pos.line X.env=pure true:=by
     show(pure (X.env.blockKind==.function&&X.env.kindOf x==gV .local&&j.line==p.line && !(scope.names.any λ(n,k)=>n==x&&(k==.local||k==.cell))):Vn M9)=pure true
     rw[h]
    rw[MB,MB,MB]at h;have hl:X.env.scope.names.lookup x=gV .local:=eq_of_beq h.1.1.2;obtain⟨tg,iter,y,A,g,z,f,u,rfl,v,w,q,s⟩:=tP K r;rw[v];show tD K.calm w q s l t a hl
  |_=>cases hc
def rB (K:CtxOk M X Γ)(m:x≠y)(q:Γ.sc.lookup x=gV .local)(r:Γ.sc.lookup y=gV .local)(hl:(py.line==o.line)=true)(h:[a,b].all (foldedForSure 8)=false)(i:[a,b].all (constantsAlone 8)=false)(p:iw a=true)(l:iw b=true) :
  swappedStores [.Tuple [.Name x o,.Name y py] t pt] (.Tuple [a,b] s n) X.env=pure (gV [x,y]):=by
 have kx:(X.env.kindOf x==gV .local)=true:=by unfold RY;rw[K.names,q];rfl
 have u:(X.env.kindOf y==gV .local)=true:=by unfold RY;rw[K.names,r];rfl
 have bk:(X.env.blockKind != .function)=false:=by
  unfold Env.blockKind;rw[K.kind];rfl
 have e:=eq_of_beq kx;have f:=eq_of_beq u;have k:=eq_of_beq hl;have g:X.env.blockKind=.function:=by simpa using bk
 have v:(y==x)=false:=by simpa using Ne.symm m
 have c:(foldedForSure 8 a&&foldedForSure 8 b)=false:=by simpa using h
 have d:(constantsAlone 8 a&&constantsAlone 8 b)=false:=by simpa using i
 unfold swappedStores;dsimp only;simp -iota only[Oj,List.any_nil,UV,Qb,List.filterMap_nil,e,f,g,List.head?_cons,Nb,O1,Nh,NG,List.all_nil,SW,c,d];show Eq.trans (Nm ?_) (Eq.trans (Nm ?_) ?_)
 ·decide
 ·rw[Oz];rintro(j|j)
  ·clear h i c d;cases a<;>first|(cases j;done)|(cases p;done)
  ·clear h i c d;cases b<;>first|(cases j;done)|(cases l;done)
 ·delta Expr.pos;simp[e,f,k,v,List.eraseDups_cons]
def DM (fuel:Mz)(K:CtxOk M X Γ):∀ n {st:Pq}{g:Sm},cS n Γ st=gV g->GS X st (gF M fuel g):=by
 have hN:X.N.Nodup:=by rw[K.N];show K.nd
 have own:SK (model X.prog X.w) X.A X.env X.xe:=by rw[K.xe];show V4
 intro n
 induction n with
 |zero=>intro st g h;cases h
 |succ n ih=>
  intro st g h;cases st with
  |Expr e p=>
   replace h:(if EQ e then gV Sm.pass else if jx e then td else(cE bU Γ e).map Sm.ex)=gV g:=h
   split at h
   ·rename_i hd;cases h;cases e with
    |Constant c k q=>
     cases c with
     |str x=>show Gs
     |_=>cases hd
    |_=>cases hd
   ·split at h
    ·cases h
    ·rename_i hd hc;rw[Mv]at h;obtain⟨r,d,rfl⟩:=h;show Jd (bT _ K d).1 (lN (by simpa using hc) _ d)
  |Return o p=>
   cases o with
   |none=>cases h;show Dj
   |some e=>
    replace h:(cE bU Γ e).map Sm.ret=gV g:=h;rw[Mv]at h;obtain⟨r,d,rfl⟩:=h;show Gu (bT _ K d).1
  |Pass p=>cases h;show Dg
  |Raise exc E pos=>cases h;show λJ s D Y H I #[A,Z,S,o,S',er,so,e,hq]=>nomatch e
  |Break p=>cases h;show zC
  |Continue p=>cases h;show Dh
  |If t a b p=>
   replace h:(match cE bU Γ t,vM (cS n Γ) a,vM (cS n Γ) b with|some t',gV T,gV u=>gV (Sm.ite t' T u)|_,_,_=>td)=gV g:=h
   split at h
   ·rename_i t' T u d f w;cases h;show Je (bT _ K d).2 (gG ih f) (gG ih w)
   ·cases h
  |While t b o p=>
   cases o with
   |cons _ _=>show ak h
   |nil=>
    replace h:(match cE bU Γ t,vM (cS n Γ) b with|some t',gV u=>gV (Sm.whl t' u)|_,_=>td)=gV g:=h
    split at h
    ·rename_i t' u d f;cases h;show zD fuel own (bT _ K d).2 (gG ih f)
    ·cases h
  |For tg it b o p=>
   cases o with
   |cons _ _=>show ak h
   |nil=>
    replace h:(match cT Γ tg,cI Γ (cE bU Γ) tg it,vM (cS n Γ) b with|some t,gV i,gV u=>gV (Sm.loop t i u)|_,_,_=>td)=gV g:=h
    split at h
    ·rename_i t i u d f w;cases h;show Gz own K.calm (tN K (λz=>(bT _ K z).1) f) (vI K d) (gG ih w) (pH (n:=bU) (λel k p=>rfl) f)
    ·cases h
  |Assign ts e p=>
   match ts,h with
   |[],h=>show ak h
   |a::_::_,h=>cases a<;>show ak h
   |[t],h=>
    cases t with
    |Name x C=>
     replace h:(match c7 Γ x,cE bU Γ e with|some i,gV r=>gV (Sm.set i r)|_,_=>td)=gV g:=h
     split at h
     ·rename_i i r d f;cases h;show Jo K d f
     ·cases h
    |Subscript o k q=>
     replace h:(if vL k then td else match cE bU Γ o,cE bU Γ k,cE bU Γ e with|some o',gV W,gV r=>gV (Sm.put o' W r)|_,_,_=>td)=gV g:=h
     split at h
     ·cases h
     ·rename_i hc;split at h
      ·rename_i o' W r d f w;cases h;show tf (bT _ K w).1 (Gw (by have:=K.un;have:ig=20:=rfl;omega) (bT _ K d).1 (bT _ K f).1 ?_) (by cases e<;>rfl) (by cases e<;>rfl) rfl
       intro v;cases k<;>first|rfl|show absurd rfl hc
      ·cases h
    |Tuple m k q=>
     have Q:∀{x y:M2}{C py:OX}{a b:PySem.Expr}{O:Mz}{q2:OX},(match Γ.N.findIdx? (· == x),Γ.N.findIdx? (· == y),cA (cE bU Γ) [a,b]with
       |some i,gV j,gV es=>if !(i==j)&&(Γ.sc.lookup x==gV .local)&&(Γ.sc.lookup y==gV .local)&&(py.line==C.line) && !([a,b].all (foldedForSure 8)) && !([a,b].all (constantsAlone 8))then gV (Sm.par i j es)else td
       |_,_,_=>td)=gV g->GS X (.Assign [.Tuple [.Name x C,.Name y py] k q] (.Tuple [a,b] O q2) p) (gF M fuel g):=λ{x y C py a b O q2} h=>by
      split at h
      ·rename_i i j es d f w;split at h
       ·rename_i hc;cases h;rw[MB,MB,MB,MB,MB]at hc;obtain⟨⟨⟨⟨⟨c1,U⟩,V⟩,c4⟩,c5⟩,c6⟩:=hc;have B:i≠j:=by simpa using c1
        have P:=b6 w;rw[NG,NG,MB,MB]at P;have hi:X.N[i]?=gV x:=by rw[K.N];show dv d
        have hj:X.N[j]?=gV y:=by rw[K.N];show dv f
        show Gx K.calm hN hi hj B (by rw[K.names];show eq_of_beq U) (by rw[K.names];show eq_of_beq V) (c8 (λz=>(bT _ K z).1) w) (rB K ?_ (eq_of_beq U) (eq_of_beq V) c4 (by rw[<- Ph];show c5) (by rw[<- Ph];show c6) P.1 P.2.1) rfl
        rintro rfl;rw[d]at f;cases f;show B rfl
       ·cases h
      ·cases h
     replace h:(if isTup e then Jn Γ m e else if jx e then td else match GK Γ m,cE bU Γ e with|some is,gV r=>gV (Sm.asg is r)|_,_=>td)=gV g:=h
     split at h
     ·rcases m with _|⟨R,_|⟨t2,_|_⟩⟩
      ·show ak h
      ·cases R<;>show ak h
      ·cases R with
       |Name x C=>cases t2 with
        |Name y py=>cases e with
         |Tuple G O pt2=>
          rcases G with _|⟨a,_|⟨b,_|_⟩⟩
          ·show ak h
          ·show ak h
          ·show Q h
          ·show ak h
         |_=>show ak h
        |_=>show ak h
       |_=>show ak h
      ·cases R<;>first|show ak h|(cases t2<;>show ak h)
     ·split at h
      ·cases h
      ·rename_i L N;split at h
       ·rename_i is r d f;cases h;show tf (bT _ K f).1 (vI (tg:=.Tuple m k q) (t:=.tp is) K (show(GK Γ m).map Tg.tp=gV (.tp is) by rw[d];rfl)) (lN (t:=gV (.Tuple m k q)) (l:=p.line) (env:=X.env) (by simpa using N) _ f) ?_ rfl
        cases e<;>first|rfl|show absurd rfl L
       ·cases h
    |_=>show ak h
  |_=>show ak h
end
structure Df where
 ps:Mq M2
 N:Mq M2
 body:Ss
abbrev fE (N:Mq M2)(ws:Mq W):Fm:=ws.map gV++Ny (↥N-↥ws) td
abbrev ar (defs:Mq (M2×Df))(fuel:Mz):Mz->M2->FF
 |0,_,_,_=>td
 |d+1,f,ws,S=>match defs.lookup f with
  |some df=>if ↥ws=↥df.ps then match ga (ar defs fuel d) fuel df.body (fE df.N ws) S with
    |some (.rt w,a)=>gV (w,a)
    |some (.nx _,a)=>gV (.non,a)
    |_=>td
   else td
  |none=>td
structure Md where
 fns:Mq (M2×Mz)
 blt:Mq M2
abbrev z9 (a:Md)(st:Pq)(N:Mq M2):Gam:={sc:=(aU st).names,N:=N,fns:=a.fns,blt:=a.blt,dfn:=true}
abbrev Jp (a:Md)(st:Pq)(df:Df):Prop:=vM (cS 20 (z9 a st df.N)) (cu st)=gV df.body
def nX {K:MO}(r:RelL K A H ws vs):EnvRel K A H (fE N ws) (start N vs):=by
 show#[by(delta fE L2.start;simp[↥r]),λi w h=>?_]
 unfold fE at h;unfold L2.start
 by_cases hi:i<↥ws
 ·rw[No (by simpa using hi),MD]at h
  rw[No (by rw[Mr,<- ↥r];show hi),MD]
  cases q:ws[i]? with
  |none=>rw[q]at h;cases h
  |some c=>
   rw[q]at h;simp only[Nb,Np]at h;subst h;obtain⟨v,a,b⟩:=r.get q;show#[v,by rw[a];rfl,b]
 ·rw[Nt (by simpa using hi)]at h
  have:=MQ h;simp at this
section
variable{P:Nc}{w:Nq}{K:MO}{mg:M2->MA Mu}{base:Nz}
abbrev ER (P:Nc)(w:Nq)(K:MO)(mg:M2->MA Mu)(base:Nz)(a:Md)(defs:Mq (M2×Df))(fuel d:Mz):Prop:=
 ∀f n,a.fns.lookup f=gV n->∃b c ps,FnOk P w K mg base ye d b c ps (spF w K n (ar defs fuel d f))/\mg f=gV (.ref b)/\Ob K (.ref b)=true/\Binds K c ps []
structure MdOk (w:Nq)(K:MO)(mg:M2->MA Mu)(Mqa:Md):Prop where
 blt:∀y∈Mqa.blt,mg y=td
def ES {st:Pq}(F:Fun K x c st f r)(S:FnScope df.N df.ps (aU st))(hd:defs.lookup x=gV df)(hc:Jp b st df)
  (L:MdOk w K mg b) (k:ER P w K mg base b defs fuel d):FnOk P w K mg base ye (d+1) f r df.ps (spF w K ↥df.ps (ar defs fuel (d+1) x)):=by
 show F.ok S (λvs H Q E h=>?_) (λcdv A outer s H vs Q E u h=>?_)
 ·obtain⟨A,S,ws,N,C,_,l,hl,_⟩:=h;rw[<- ↥l];show hl
 ·obtain⟨p,q,ws,N,C,y,l,hl,e,t⟩:=h;have B:CtxOk (ar defs fuel d) (sK ye P w K mg base df.N c (aU st) f cdv A outer s H E).nox (z9 b st df.N):=by
   show#[rfl,S.kind,rfl,S.nd,rfl,rfl,?_,λ_ _=>rfl,L.blt,λg n M=>?_]
   ·have:=u.un;show(A.deeper _).units+20<cLine;omega
   ·obtain⟨D,m,o,j,G,I,J⟩:=k g n M;show#[d,D,m,o,j,u,G,I,J]
  show#[tS _ _,gG (λz=>DM fuel B 20 z) hc,?_]
  (dsimp only[ar]at e;simp only[hd]at e)
  rw[M4 hl]at e;split at e
  ·rename_i R S1 j;cases e;show#[p,fE _ ws,q,_,_,nX l,y,j,#[λi a #[_,_,z,_,_,_]=>(by cases z),λv a #[w2,A2,z0,z1,z2,z3]=>?_,λi a #[_,_,z,_,_,_]=>(by cases z),λi a #[_,_,z,_,_,_]=>(by cases z)]]
   cases z0;show t v a #[A2,z1,z2,z3]
  ·rename_i O S1 j;cases e;show#[p,fE _ ws,q,_,_,nX l,y,j,#[λi a #[w2,A2,z0,z1,z2,z3]=>?_,λi a #[_,_,z,_,_,_]=>(by cases z),λi a #[_,_,z,_,_,_]=>(by cases z),λi a #[_,_,z,_,_,_]=>(by cases z)]]
   show t _ a #[A2,z1,z2,.non]
  ·cases e
def xF {c:Mq MM}(g:yK H)(k:SqL K H a (c.map V.int)):StoreOk w K [a] H [.fro (c.map W.int)]/\RelL K [a] H [.ref 0] [.ref a]:=by
 have m:∀c:Mq MM,RelL K [a] H (c.map W.int) (c.map V.int):=by
  intro c
  induction c with
  |nil=>show .nil
  |cons n c ih=>show .cons .int ih
 have f:FroL K H a (c.map V.int):=by
  rcases k with(h|⟨o,h⟩)|h
  ·rcases g a with z|⟨o,xs,z⟩<;>(rw[z]at h;cases h)
  ·show .inl #[o,h]
  ·show .inr h
 show#[#[rfl,λi j b o u d l e p _ _=>?_,λi o b d e=>?_],.cons (.ref rfl) .nil]
 ·cases i with
  |zero=>simp at d;subst d;cases l
  |succ i=>simp at d
 ·cases i with
  |zero=>
   simp at d e;subst d e;show#[_,f,m c]
  |succ i=>simp at d
def GL {c:Mq MM}(h:∃b,g [.ref 0] [.fro (c.map W.int)]=gV (.bl true,b))(d:yK H)(f:SqL K H a (c.map V.int)):spF w K 1 g [.ref a] H (λv _=>v=.bl true) λ_ _ _=>N6:=by
 obtain⟨b,e⟩:=h;obtain⟨j,i⟩:=xF d f;show#[[a],_,_,_,b,j,i,rfl,e,λv l #[k,z1,z2,z3]=>by cases z3;rfl]
end
abbrev Wp {α:Type}(o:MA α)(Q:α->Prop):Prop:=∃a,o=gV a/\Q a
def am :Wp (gV a) Q↔Q a:=#[λ#[b,e,h]=>(by cases e;show h),λh=>#[a,rfl,h]]
def ah :Wp td Q↔N6:=#[λ#[b,e,h]=>(by cases e),λh=>h.elim]
def Wp.mono (h:Wp o Q)(k:∀a,Q a->b a):Wp o b:=let ⟨a,e,q⟩:=h;#[a,e,k a q]
section
variable{M:M2->FF}{fuel:Mz}{Z:Fm}{S:aa}
noncomputable abbrev QW:=W×aa->Prop
def Mk {Q:QW}:Wp (aE M (.c w) Z S) Q↔Q (w,S):=by(delta aE;(delta fC;simp[am]))
def LW {Q:QW}:Wp (aE M (.v i) Z S) Q↔∃w,Z[i]?=gV (gV w)/\Q (w,S):=by
 (delta aE;delta fV)
 rcases h:Z[i]? with _|_|w<;>simp[am,ah]
def Aa {Q:QW}:Wp (CW g a b Z S) Q↔Wp (a Z S) λp=>Wp (b Z p.2) λq=>Wp (g p.1 q.1 q.2) Q:=by
 unfold CW;rcases h:a Z S with _|⟨x,S1⟩
 ·simp[ah]
 ·rcases c:b Z S1 with _|⟨y,d⟩<;>simp[am,ah,c]
def Lp {Q:QW}:Wp (aE M (.op o a b) Z S) Q↔Wp (aE M a Z S) λp=>Wp (aE M b Z p.2) λq=>Wp (gP o p.1 q.1 q.2) Q:=by show Aa
def ET {Q:QW}:Wp (aE M (.cmp o a b) Z S) Q↔Wp (aE M a Z S) λp=>Wp (aE M b Z p.2) λq=>Wp (bx o p.1 q.1 q.2) Q:=by show Aa
def Lq {Q:QW}:Wp (aE M (.ix a b) Z S) Q↔Wp (aE M a Z S) λp=>Wp (aE M b Z p.2) λq=>Wp (qf p.1 q.1 q.2) Q:=by show Aa
def Jq {Q:QW}:Wp (aE M (.and a b) Z S) Q↔Wp (aE M a Z S) λp=>∃k,p.1=.bl k/\(k=true->Wp (aE M b Z p.2) Q)/\(k=false->Q (.bl false,p.2)):=by
 (delta aE;delta vg)
 rcases h:aE M a Z S with _|⟨x,S1⟩
 ·revert ah
 ·cases x<;>simp[am,ah]
  rename_i b;cases b<;>simp[am]
def Lr {Q:QW}:Wp (aE M (.or a b) Z S) Q↔Wp (aE M a Z S) λp=>∃k,p.1=.bl k/\(k=true->Q (.bl true,p.2))/\(k=false->Wp (aE M b Z p.2) Q):=by
 (delta aE;delta C4)
 rcases h:aE M a Z S with _|⟨x,S1⟩
 ·revert ah
 ·cases x<;>simp[am,ah]
  rename_i b;cases b<;>simp[am]
def Jr {Q:QW}:Wp (aE M (.not a) Z S) Q↔Wp (aE M a Z S) λp=>∃k,p.1=.bl k/\Q (.bl (!k),p.2):=by
 (delta aE;delta vh)
 rcases h:aE M a Z S with _|⟨x,S1⟩
 ·revert ah
 ·cases x<;>simp[am,ah]
  rename_i k;cases k<;>simp
def Js {Q:QW}:Wp (aE M (.ite t a b) Z S) Q↔Wp (dh M t Z S) λp=>(p.1=true->Wp (aE M a Z p.2) Q)/\(p.1=false->Wp (aE M b Z p.2) Q):=by
 (delta aE;delta C5)
 rcases h:dh M t Z S with _|⟨x,S1⟩
 ·simp[ah]
 ·cases x<;>simp[am]
def EU {Q:QW}:Wp (aE M (.own f n es) Z S) Q↔Wp (cV M es Z S) λp=>↥p.1=n/\Wp (M f p.1 p.2) Q:=by
 (delta aE;delta qV)
 rcases h:cV M es Z S with _|⟨x,S1⟩
 ·simp[ah]
 ·by_cases hl:↥x=n<;>simp[am,ah,hl]
def Jt {Q:QW}:Wp (aE M (.bi b es) Z S) Q↔Wp (cV M es Z S) λp=>Wp (b.fn p.1 p.2) Q:=by
 (delta aE;delta fK)
 rcases h:cV M es Z S with _|⟨x,S1⟩<;>simp[am,ah]
def Ls {Q:QW}:Wp (aE M (.me m o es) Z S) Q↔Wp (aE M o Z S) λp=>tyOk m.ty p.2 p.1=true/\Wp (cV M es Z p.2) λq=>Wp (m.fn p.1 q.1 q.2) Q:=by
 (delta aE;delta BY)
 rcases h:aE M o Z S with _|⟨x,S1⟩
 ·simp[ah]
 ·by_cases a:tyOk m.ty S1 x=true
  ·rcases b:cV M es Z S1 with _|⟨y,c⟩<;>simp[am,ah,a,b]
  ·simp[am,ah,a]
def Lu {lo :Ep}{Q:QW}:Wp (aE M (.sl a lo hi) Z S) Q↔Wp (aE M a Z S) λp=>Wp (vE M lo Z p.2) λq=>Wp (vE M hi Z q.2) λr=>Wp (qe p.1 q.1 r.1 r.2) Q:=by
 (delta aE;delta Ja)
 rcases h:aE M a Z S with _|⟨x,S1⟩
 ·simp[ah]
 ·rcases b:vE M lo Z S1 with _|⟨y,c⟩
  ·simp[am,ah,b]
  ·rcases d:vE M hi Z c with _|⟨z,e⟩<;>simp[am,ah,b,d]
def Lv :Wp (vE M .no Z S) Q↔Q (td,S):=by(delta vE;(delta Gp;simp[am]))
def Ju :Wp (vE M (.yes a) Z S) Q↔Wp (aE M a Z S) λp=>∃i,p.1=.int i/\Q (gV i,p.2):=by
 (delta vE;delta vn)
 rcases h:aE M a Z S with _|⟨x,S1⟩
 ·simp[ah]
 ·cases x<;>simp[am,ah]
def Jv {Q:QW}:Wp (aE M (.tup es) Z S) Q↔Wp (cV M es Z S) λp=>↥p.1<=sizeLine/\Q (.tup p.1,p.2):=by
 (delta aE;delta zv wY)
 rcases h:cV M es Z S with _|⟨x,S1⟩
 ·simp[ah]
 ·by_cases hl:↥x<=sizeLine<;>simp[am,ah,hl]
def Jw {Q:QW}:Wp (aE M (.lst es) Z S) Q↔Wp (cV M es Z S) λp=>↥p.1<=sizeLine/\Q (.ref ↥p.2,p.2++[.lst p.1]):=by
 (delta aE;delta zw mT)
 rcases h:cV M es Z S with _|⟨x,S1⟩
 ·simp[ah]
 ·by_cases hl:↥x<=sizeLine<;>simp[am,ah,hl]
def EV {Q:QW}:Wp (aE M (.isi c a) Z S) Q↔Wp (aE M a Z S) λp=>∃k,GB p.2 p.1 c=gV k/\Q (.bl k,p.2):=by
 (delta aE;delta zH)
 rcases h:aE M a Z S with _|⟨x,S1⟩
 ·revert ah
 ·cases b:GB S1 x c<;>simp[am,ah,b]
  rename_i k;cases k<;>simp
def Jx {Q:QW}:Wp (aE M (.neg a) Z S) Q↔Wp (aE M a Z S) λp=>∃i,p.1=.int i/\Q (.int (-i),p.2):=by
 (delta aE;delta zo)
 rcases h:aE M a Z S with _|⟨x,S1⟩
 ·simp[ah]
 ·cases x<;>simp[am,ah]
def GM {Q:QW}:Wp (aE M (.disp es) Z S) Q↔Wp (cV M es Z (S++[.dic []])) λp=>p.2[↥S]?=gV (.dic [])/\∃U,d3 [] p.1=gV U/\Q (.ref ↥S,p.2.set ↥S (.dic U)):=by
 have e:aE M (.disp es) Z S=rc (cV M es) Z S:=by delta aE
 rw[e];unfold rc;cases cV M es Z _ with
 |none=>simp[ah]
 |some p=>
  obtain⟨x,S1⟩:=p;revert am;cases c:S1[↥S]? with
  |none=>simp[ah]
  |some o=>
   cases o with
   |lst _=>simp[ah]
   |fro _=>simp[ah]
   |frd _=>simp[ah]
   |sti _=>simp[ah]
   |dik _=>simp[ah]
   |rng _ _=>simp[ah]
   |dic U=>
    cases U with
    |nil=>cases d:d3 [] x<;>simp[am,ah]
    |cons a b=>simp[ah]
def EW {Q:QW}(h:Wp (aE M a Z S) λp=>Wp (aE M b Z p.2) λq=>∃k,sS o p.1 q.1 q.2=gV k/\(k=true->Wp (aE M d Z q.2) λr=>Wp (cY c q.1 r.1 r.2) Q)/\(k=false->Q (.bl false,q.2))):Wp (aE M (.chn o c a b d) Z S) Q:=by
 obtain⟨⟨x,S1⟩,f,⟨y,s⟩,g,k,i,m,n⟩:=h;have e:aE M (.chn o c a b d) Z S=fW o c (aE M a) (aE M b) (aE M d) Z S:=by delta aE
 rw[e];unfold fW;rw[f];dsimp only;rw[g];dsimp only;rw[i];cases k with
 |false=>show#[_,rfl,n rfl]
 |true=>
  obtain⟨⟨z,t⟩,j,⟨r,l,q⟩⟩:=m rfl;rw[j];show#[_,l,q]
def Jy :Wp (cV M .nil Z S) Q↔Q ([],S):=by(delta cV;(delta ip;simp[am]))
def GN :Wp (cV M (.cons e es) Z S) Q↔Wp (aE M e Z S) λp=>Wp (cV M es Z p.2) λq=>Q (p.1::q.1,q.2):=by
 (delta cV;delta cU)
 rcases h:aE M e Z S with _|⟨x,S1⟩
 ·simp[ah]
 ·rcases a:cV M es Z S1 with _|⟨y,b⟩<;>simp[am,ah,a]
noncomputable abbrev QB:=M9×aa->Prop
def EX {Q:QB}:Wp (qU f Z S) Q↔Wp (f Z S) λp=>∃k,p.1=.bl k/\Q (k,p.2):=by
 unfold qU;rcases h:f Z S with _|⟨x,S1⟩
 ·revert ah
 ·cases x<;>simp[am,ah]
  rename_i k;cases k<;>simp
def vN {Q:QB}:Wp (gS f Z S) Q↔Wp (f Z S) λp=>∃k,eW p.2 p.1=gV k/\Q (k,p.2):=by
 unfold gS;rcases h:f Z S with _|⟨x,S1⟩
 ·revert ah
 ·cases a:eW S1 x<;>simp[am,ah,a]
  rename_i k;cases k<;>simp
def Jz {Q:QB}:Wp (dh M (.cmp o a b) Z S) Q↔Wp (aE M (.cmp o a b) Z S) λp=>∃k,p.1=.bl k/\Q (k,p.2):=by show EX
def JA {Q:QB}:Wp (dh M (.chn o c a b d) Z S) Q↔Wp (aE M (.chn o c a b d) Z S) λp=>∃k,p.1=.bl k/\Q (k,p.2):=by show EX
def JB {Q:QB}:Wp (dh M (.and a b) Z S) Q↔Wp (dh M a Z S) λp=>(p.1=true->Wp (dh M b Z p.2) Q)/\(p.1=false->Q (false,p.2)):=by
 (delta dh;delta zt)
 rcases h:dh M a Z S with _|⟨x,S1⟩
 ·simp[ah]
 ·cases x<;>simp[am]
def Lw {Q:QB}:Wp (dh M (.or a b) Z S) Q↔Wp (dh M a Z S) λp=>(p.1=true->Q (true,p.2))/\(p.1=false->Wp (dh M b Z p.2) Q):=by
 (delta dh;delta IX)
 rcases h:dh M a Z S with _|⟨x,S1⟩
 ·simp[ah]
 ·cases x<;>simp[am]
def JC {Q:QB}:Wp (dh M (.not a) Z S) Q↔Wp (dh M a Z S) λp=>Q (!p.1,p.2):=by
 (delta dh;delta CZ)
 rcases h:dh M a Z S with _|⟨x,S1⟩<;>simp[am,ah]
def Ml {Q:QB}:Wp (dh M (.v i) Z S) Q↔Wp (aE M (.v i) Z S) λp=>∃k,eW p.2 p.1=gV k/\Q (k,p.2):=by show vN
def JD {Q:QB}:Wp (dh M (.own f n es) Z S) Q↔Wp (aE M (.own f n es) Z S) λp=>∃k,eW p.2 p.1=gV k/\Q (k,p.2):=by show vN
def Lx {Q:QB}:Wp (dh M (.bi b es) Z S) Q↔Wp (aE M (.bi b es) Z S) λp=>∃k,eW p.2 p.1=gV k/\Q (k,p.2):=by show vN
def JE {Q:QB}:Wp (dh M (.isi c a) Z S) Q↔Wp (aE M (.isi c a) Z S) λp=>∃k,eW p.2 p.1=gV k/\Q (k,p.2):=by show vN
noncomputable abbrev QO:=Out×aa->Prop
def JF {Q:QO}:Wp (ga M fuel .nil Z S) Q↔Q (.nx Z,S):=by(delta ga;simp[am])
def GP {Q:QO}:Wp (ga M fuel (.cons s ss) Z S) Q↔Wp (gF M fuel s Z S) λp=>(∀a,p.1=.nx a->Wp (ga M fuel ss a p.2) Q)/\((∀a,p.1≠.nx a)->Q p):=by
 (delta ga;delta Dc)
 rcases h:gF M _ s Z S with _|⟨o,S1⟩
 ·simp[ah]
 ·cases o<;>simp[am]
def Ab {Q:QO}:Wp (lC f g Z S) Q↔Wp (f Z S) λp=>Wp (g p.1 Z p.2) λq=>Q (.nx q.1,q.2):=by
 unfold lC;rcases h:f Z S with _|⟨x,S1⟩
 ·simp[ah]
 ·rcases a:g x Z S1 with _|⟨y,b⟩<;>simp[am,ah,a]
def GQ {Q:QO}:Wp (gF M fuel (.set i e) Z S) Q↔Wp (aE M e Z S) λp=>Q (.nx (Z.set i (gV p.1)),p.2):=by
 delta gF;rw[Ab];simp[EF,am]
def GR {Q:QO}:Wp (gF M fuel (.asg is e) Z S) Q↔Wp (aE M e Z S) λp=>∃ws a,p.1=.tup ws/\dZ is ws Z=gV a/\Q (.nx a,p.2):=by
 delta gF;rw[Ab]
 constructor
 ·show λh=>h.mono λp d=>?_
  obtain⟨w,S1⟩:=p;obtain⟨q,b,c⟩:=d;cases w with
  |tup ws=>
   simp only[HW,Mv]at b;obtain⟨a,g,rfl⟩:=b;show#[ws,a,rfl,g,c]
  |_=>cases b
 ·show λh=>h.mono λp d=>?_
  obtain⟨w,S1⟩:=p;obtain⟨ws,a,f,b,c⟩:=d;subst f;show#[(a,S1),by simp[HW,b],c]
def GU {Q:QO}:Wp (gF M fuel (.par i j es) Z S) Q↔Wp (cV M es Z S) λp=>∃x y,p.1=[x,y]/\Q (.nx ((Z.set i (gV x)).set j (gV y)),p.2):=by
 (delta gF;delta Dm)
 rcases h:cV M es Z S with _|⟨x,S1⟩
 ·simp[ah]
 ·match x with
  |[]=>simp[am,ah]
  |[_]=>simp[am,ah]
  |[a,b]=>
   revert am;show#[λh=>#[a,b,rfl,h],λ#[x,y,e,h]=>by cases e;show h]
  |_::_::_::_=>simp[am,ah]
def GV {Q:QO}:Wp (gF M fuel (.put o k e) Z S) Q↔Wp (aE M e Z S) λp=>Wp (aE M o Z p.2) λq=>Wp (aE M k Z q.2) λr=>∃a,ik q.1 r.1 p.1 r.2=gV a/\Q (.nx Z,a):=by
 delta gF;rw[Ab]
 rcases h:aE M e Z S with _|⟨x,S1⟩
 ·simp[ah]
 ·revert am;unfold Dl;rcases g:aE M o Z S1 with _|⟨y,c⟩
  ·simp[ah]
  ·rcases b:aE M k Z c with _|⟨z,d⟩
   ·simp[am,ah,b]
   ·cases f:ik y z x d<;>simp[am,ah,b,f]
def JG {Q:QO}:Wp (gF M fuel (.ex e) Z S) Q↔Wp (aE M e Z S) λp=>Q (.nx Z,p.2):=by
 (delta gF;delta De)
 rcases h:aE M e Z S with _|⟨x,S1⟩<;>simp[am,ah]
def GX {Q:QO}:Wp (gF M fuel (.ret e) Z S) Q↔Wp (aE M e Z S) λp=>Q (.rt p.1,p.2):=by
 (delta gF;delta Di)
 rcases h:aE M e Z S with _|⟨x,S1⟩<;>simp[am,ah]
def GY {Q:QO}:Wp (gF M fuel (.ite t a b) Z S) Q↔Wp (dh M t Z S) λp=>(p.1=true->Wp (ga M fuel a Z p.2) Q)/\(p.1=false->Wp (ga M fuel b Z p.2) Q):=by
 (delta gF;delta Dk)
 rcases h:dh M t Z S with _|⟨x,S1⟩
 ·simp[ah]
 ·cases x<;>simp[am]
abbrev Ac (I:Fm->aa->Prop)(Q:QO)(o:Out×aa):Prop:=match o.1 with
 |.nx a=>I a o.2
 |.ct a=>I a o.2
 |.bk a=>Q (.nx a,o.2)
 |.rt w=>Q (.rt w,o.2)
def jy {xs:Mq W}(I:Mz->Fm->aa->Prop)(d:∀i Z S,I i Z S->mi.at S i=gV xs[i]?)
  (a:∀i w Z S,xs[i]?=gV w->I i Z S->Wp (g w Z S) λq=>Wp (b q.1 q.2) (Ac (I (i+1)) Q)) (c:∀Z S,I ↥xs Z S->Q (.nx Z,S)):∀ n i Z S,i+n=↥xs->I i Z S->Wp (fX mi g b n i Z S) Q
 |0,i,Z,S,hl,f=>by
  have e:mi.at S i=gV td:=by rw[d i Z S f,Sn ∅]
  revert fX e;have hi:i=↥xs:=∅
  show am.mpr (c Z S (hi▸f))
 |n+1,i,Z,S,hl,f=>by
  have hi:i<↥xs:=∅
  have e:mi.at S i=gV (gV xs[i]):=by rw[d i Z S f,MC hi]
  obtain⟨⟨p,S1⟩,l,⟨o,k⟩,m,j⟩:=a i _ Z S (MC hi) f;revert fX e l m;cases o with
  |nx h=>show jy I d a c n _ h k ∅ j
  |ct h=>show jy I d a c n _ h k ∅ j
  |bk h=>show am.mpr j
  |rt w=>show am.mpr j
def JH {Q:QO}:Wp (zE a g b Z S) Q↔Wp (a Z S) λp=>∃n,p.1.len p.2=gV n/\Wp (fX p.1 g b n 0 Z p.2) Q:=by
 unfold zE;rcases h:a Z S with _|⟨mi,S1⟩
 ·simp[ah]
 ·cases c:mi.len S1<;>simp[am,ah,c]
def dI {xs:Mq W}{Q:Mq W×aa->Prop}(I:Mz->Mq W->Fm->aa->Prop)(d:∀i ys Z S,I i ys Z S->mi.at S i=gV xs[i]?)
  (a:∀i w ys Z S,xs[i]?=gV w->I i ys Z S->Wp (g w Z S) λq=>Wp (c q.1 q.2) λk=>(k.1=true->Wp (f q.1 k.2) λy=>I (i+1) (ys++[y.1]) q.1 y.2)/\(k.1=false->I (i+1) ys q.1 k.2))
  (b:∀ys Z S,I ↥xs ys Z S->Q (ys,S)):∀ n i ys Z S,i+n=↥xs->I i ys Z S->Wp (bF mi g c f n i Z S) λp=>Q (ys++p.1,p.2)
 |0,i,ys,Z,S,hl,h=>by
  have e:mi.at S i=gV td:=by rw[d i ys Z S h,Sn ∅]
  revert bF e;show am.mpr ?_;have:i=↥xs:=∅
  simpa using b ys Z S (this▸h)
 |n+1,i,ys,Z,S,hl,h=>by
  have hi:i<↥xs:=∅
  have e:mi.at S i=gV (gV xs[i]):=by rw[d i ys Z S h,MC hi]
  obtain⟨⟨j,S1⟩,o,⟨k,l⟩,r,s,t⟩:=a i _ ys Z S (MC hi) h;revert bF e o r;cases k with
  |true=>
   obtain⟨⟨y,m⟩,u,v⟩:=s rfl;revert u;obtain⟨⟨B,A⟩,x,z⟩:=dI I d a b n _ (ys++[y]) j m ∅ v
   revert x;show am.mpr (by simpa using z)
  |false=>show dI I d a b n _ ys j l ∅ (t rfl)
def Ad {Q:QW}:Wp (aE M (.comp b tg it c a) Z S) Q↔Wp (jt M it Z S) λp=>∃n,p.1.len p.2=gV n/\Wp (bF p.1 (lH tg) (EN M c) (aE M b) n 0 (eu a Z) p.2) λq=>↥q.1<=sizeLine/\Q (.ref ↥q.2,q.2++[.lst q.1]):=by
 (delta aE;delta lF mT)
 rcases h:jt M it Z S with _|⟨mi,S1⟩
 ·simp[ah]
 ·rcases d:mi.len S1 with _|n
  ·simp[am,ah,d]
  ·rcases e:bF mi (lH tg) (EN M c) (aE M b) n 0 (eu a Z) S1 with _|⟨ys,f⟩
   ·simp[am,ah,d,e]
   ·by_cases hl:↥ys<=sizeLine<;>simp[am,ah,d,e,hl]
def JI {Q:QB}:Wp (EN M .nil Z S) Q↔Q (true,S):=by(delta EN;(delta EH;simp[am]))
def JJ {Q:QB}:Wp (EN M #v[e] Z S) Q↔Wp (dh M e Z S) Q:=by show Wg
def lO (I:Mz->Fm->aa->Prop)(a:∀m Z S,I m Z S->Wp (c Z S) λk=>(k.1=true->∃d,m=d+1/\Wp (b Z k.2) (Ac (I d) Q))/\(k.1=false->Q (.nx Z,k.2))) :
  ∀ n m Z S,m<n->I m Z S->Wp (mW c b n Z S) Q
 |0,m,Z,S,h,_=>by show absurd ‹_› (OI _)
 |n+1,m,Z,S,h,q=>by
  obtain⟨⟨k,S1⟩,i,j,l⟩:=a m Z S q
  (delta mW;rw[i];try dsimp only)
  cases k with
  |false=>show am.mpr (l rfl)
  |true=>
   obtain⟨d,rfl,⟨o,g⟩,p,f⟩:=j rfl;revert p;cases o with
   |nx e=>show lO I a n d e g ∅ f
   |ct e=>show lO I a n d e g ∅ f
   |bk e=>show am.mpr f
   |rt w=>show am.mpr f
def xG {Q:QW}(h:defs.lookup f=gV df)(hl:↥ws=↥df.ps)
  (c:Wp (ga (ar defs fuel d) fuel df.body (fE df.N ws) S) λp=>match p.1 with|.rt w=>Q (w,p.2)|.nx _=>Q (.non,p.2)|_=>N6):Wp (ar defs fuel (d+1) f ws S) Q:=by
 obtain⟨⟨o,S1⟩,b,a⟩:=c;simp only[ar,h,M4 hl,b];cases o with
 |rt w=>show am.mpr a
 |nx Z=>show am.mpr a
 |bk _=>show a.elim
 |ct _=>show a.elim
end
section
variable{S:aa}{Q:QW}
def g9 :gP .add (.int a) (.int b) S=gV (.int (a+b),S):=rfl
def iX :gP .sub (.int a) (.int b) S=gV (.int (a-b),S):=rfl
def pM (h:c i j=true):CA c f (.int i) (.int j) S=gV (.int (f i j),S):=by
 unfold CA;dsimp only;rw[M4 h]
def vO (h : -(2^64)<b)(c:b<2^64):gP .mul (.int a) (.int b) S=gV (.int (a*b),S):=pM   (by
 unfold Cz;revert Oz MB M8;show .inr #[h,c])
def nY (h:0<b):gP .mod (.int a) (.int b) S=gV (.int (a % b),S):=pM (c:=λ_ j=>decide (0<j))  (NB h)
def pN (h:0<b)(d:b<1073741824):gP .fdiv (.int a) (.int b) S=gV (.int (a/b),S):=pM (c:=λ_ j=>Cy j)  (by
 unfold Cy;revert MB M8;show#[h,d])
def GZ:gP .pow (.int 10) (.int 18) S=gV (.int 1000000000000000000,S):=rfl
def G0 (h:↥x+↥y<=sizeLine):gP .add (.str x) (.str y) S=gV (.str (x++y),S):=by delta gP w6;rw[M4 h]
def cg (h:(xs++ys).length<=sizeLine):gP .add (.tup xs) (.tup ys) S=gV (.tup (xs++ys),S):=by revert gP w6 wY;rw[M4 h]
def Ae (a:S[i]?=gV (.lst xs))(b:S[j]?=gV (.lst ys))(h:(xs++ys).length<=sizeLine):gP .add (.ref i) (.ref j) S=gV (.ref ↥S,S++[.lst (xs++ys)]):=by
 (delta gP w6 mP mT;revert a b);rw[M4 h]
def mY :bx .eq (.int a) (.int b) S=gV (.bl (a==b),S):=rfl
def G1 :bx .ne (.int a) (.int b) S=gV (.bl (!(a==b)),S):=rfl
def Ly :bx .lt (.int a) (.int b) S=gV (.bl (decide (a<b)),S):=rfl
def Lz :bx .gt (.int a) (.int b) S=gV (.bl (decide (a > b)),S):=rfl
def aD (h:S[r]?=gV (.lst xs)):eC S r=gV xs:=by(delta eC;simp[h])
def DN (h:S[r]?=gV (.fro xs)):eC S r=gV xs:=by simp[eC,h]
def bV (h:S[r]?=gV (.lst xs)):mP S r=gV xs:=by simp[mP,h]
def kI (h:S[r]?=gV (.lst xs)):gZ S r=td:=by(delta gZ;simp[h])
def bW (h:S[r]?=gV (.dic U)):gZ S r=gV U:=by simp[gZ,h]
def pP (h:S[r]?=gV (.dic U)):eC S r=td:=by simp[eC,h]
def DO (h:S[r]?=gV (.frd U)):gZ S r=gV U:=by simp[gZ,h]
def atI_nat {j:Mz}(h:xs[j]?=gV w):sE xs j=gV w:=by
 have hl:=(MP.mp h).1;unfold sE yd;rw[M4 (MK j),M4 (by exact_mod_cast hl)]
 simpa using h
def pQ (a:0<=i)(h:xs[i.toNat]?=gV w):sE xs i=gV w:=by
 have:=atI_nat h
 rwa [OY a]at this
def Ag (h:S[r]?=gV (.lst xs))(a:0<=i)(hw:xs[i.toNat]?=gV w):qf (.ref r) (.int i) S=gV (w,S):=by
 change uY (.ref r) (.int i) S=_
 (delta uY;simp[aD h,pQ a hw])
def JK (a:0<=i)(hw:xs[i.toNat]?=gV w):qf (.tup xs) (.int i) S=gV (w,S):=by
 change uY (.tup xs) (.int i) S=_;simp[uY,pQ a hw]
def JL (b:↥x<=sizeLine)(a:0<=i)(hw:x.cps.toList[i.toNat]?=gV c):qf (.str x) (.int i) S=gV (.str #[[c].toArray],S):=by
 change uY (.str x) (.int i) S=_;simp[uY,b,pQ a hw]
def EY (h:S[r]?=gV (.lst xs))(a:0<=i)(hi:i.toNat<↥xs):ik (.ref r) (.int i) w S=gV (S.set r (.lst (xs.set i.toNat w))):=by
 change qC (.ref r) (.int i) w S=_;have:yd ↥xs i=gV i.toNat:=by
  unfold yd;rw[M4 a,M4 ∅]
 (delta qC;rw[bV h];try dsimp only;rw[this];try dsimp only)
def EZ (h:S[r]?=gV (.lst xs)):Bi.len.fn [.ref r] S=gV (.int ↥xs,S):=by
 (delta Bi.fn rq qQ lg;simp[kI h,aD h])
def Ah (h:S[r]?=gV (.lst xs))(hl:↥xs<sizeLine):iM (.ref r) [y] S=gV (.non,S.set r (.lst (xs++[y]))):=by
 simp[iM,bV h,hl]
def JM (h:S[r]?=gV (.lst xs)):jo [.ref r] S=gV (.tup xs,S):=by
 (delta jo o5 lh;simp[h,aD h])
def cD (h:S[r]?=gV (.lst xs)):tyOk "list" S (.ref r)=true:=by simp[tyOk,g6,aD h]
def G2 (h:S[r]?=gV (.lst xs)):tyOk "index" S (.ref r)=true:=by simp[tyOk,g6,aD h]
def aZ (h:S[r]?=gV o):(S.set r a)[r]?=gV a:=by
 rw[OG,M4 rfl,M4 (MP.mp h).1]
def aV (h:r≠j):(S.set r a)[j]?=S[j]?:=by rw[OG,Nm h]
def ag :(S++[o])[↥S]?=gV o:=by simp
def aw {j:Mz}(h:S[j]?=gV o):(S++[u])[j]?=gV o:=by rw[No (MP.mp h).1];show h
def bo (h:S[j]?=gV o):j<↥S:=(MP.mp h).1
structure Kp (r:Mz)(S S':aa):Prop where
 get:∀j o,j≠r->S[j]?=gV o->S'[j]?=gV o
 len:↥S<=↥S'
def Kp.refl :Kp r S S:=#[λ_ _ _ h=>h,MH _]
def Kp.trans (a:Kp r S d)(b:Kp r d c):Kp r S c:=#[λj o n h=>b.get j o n (a.get j o n h),M1 a.len b.len]
def Kp.set :Kp r S (S.set r o):=#[λj u n h=>by rw[aV (Ne.symm n)];show h,by simp]
def Kp.push :Kp r S (S++[o]):=#[λj u n h=>aw h,by simp]
def Kp.late (a:Kp r b S)(h:↥b<=t):Kp r b (S.set t o):=
 #[λj u n e=>by
  have:=bo e;rw[aV ∅];show a.get j u n e,by simpa using a.len]
end
abbrev wO {α:Type}(o:MA α)(Q:α->Prop):Prop:=match o with
 |some a=>Q a
 |none=>N6
def bR (h:wO o Q):Wp o Q:=by
 cases o with
 |none=>show h.elim
 |some a=>show#[a,rfl,h]
def JN (h:Wp o Q):wO o Q:=by
 obtain⟨a,rfl,q⟩:=h;show q
def ab (e:o=gV a)(h:Q a):wO o Q:=by subst e;show h
abbrev wB:W->(M9->Prop)->Prop
 |.bl k,Q=>Q k
 |_,_=>N6
abbrev wN:W->(MM->Prop)->Prop
 |.int k,Q=>Q k
 |_,_=>N6
abbrev wU:W->(Mq W->Prop)->Prop
 |.tup k,Q=>Q k
 |_,_=>N6
def rC (h:wB w Q):∃k,w=.bl k/\Q k:=by cases w<;>first|show h.elim|show#[_,rfl,h]
def E2 (h:wN w Q):∃k,w=.int k/\Q k:=by cases w<;>first|show h.elim|show#[_,rfl,h]
def JO (h:wU w Q):∃k,w=.tup k/\Q k:=by cases w<;>first|show h.elim|show#[_,rfl,h]
abbrev w2:Mq W->(W->W->Prop)->Prop
 |[x,y],Q=>Q x y
 |_,_=>N6
def JP (h:w2 xs Q):∃x y,xs=[x,y]/\Q x y:=by
 match xs,h with
 |[x,y],h=>show#[x,y,rfl,h]
abbrev wG:MA W->(W->Prop)->Prop
 |some w,Q=>Q w
 |none,_=>N6
abbrev wV:Fm->Mz->(W->Prop)->Prop
 |[],_,_=>N6
 |o::_,0,Q=>wG o Q
 |_::Z,n+1,Q=>wV Z n Q
def Ai :∀{Z:Fm}{i:Mz},wV Z i Q->∃w,Z[i]?=gV (gV w)/\Q w
 |[],i,h=>h.elim
 |some w::Z,0,h=>#[w,rfl,h]
 |none::Z,0,h=>h.elim
 |x::Z,n+1,h=>by
  obtain⟨w,a,q⟩:=Ai  (i:=n) h;show#[w,a,q]
abbrev aL (M:M2->FF)(f:M2)(n:Mz)(ws:Mq W)(S:aa):MA (W×aa):=if ↥ws=n then M f ws S else td
section
variable (M:M2->FF) (fuel:Mz)
mutual
def wE:E->Fm->aa->QW->Prop
 |.c w,_,S,Q=>Q (w,S)
 |.v i,Z,S,Q=>wV Z i λw=>Q (w,S)
 |.op o a b,Z,S,Q=>wE a Z S λp=>wE b Z p.2 λq=>wO (gP o p.1 q.1 q.2) Q
 |.cmp o a b,Z,S,Q=>wE a Z S λp=>wE b Z p.2 λq=>wO (bx o p.1 q.1 q.2) Q
 |.and a b,Z,S,Q=>wE a Z S λp=>wB p.1 λk=>(k=true->wE b Z p.2 Q)/\(k=false->Q (.bl false,p.2))
 |.or a b,Z,S,Q=>wE a Z S λp=>wB p.1 λk=>(k=true->Q (.bl true,p.2))/\(k=false->wE b Z p.2 Q)
 |.not a,Z,S,Q=>wE a Z S λp=>wB p.1 λk=>Q (.bl (!k),p.2)
 |.own f n es,Z,S,Q=>wA es Z S λp=>wO (aL M f n p.1 p.2) Q
 |.bi b es,Z,S,Q=>wA es Z S λp=>wO (b.fn p.1 p.2) Q
 |.me m o es,Z,S,Q=>wE o Z S λp=>tyOk m.ty p.2 p.1=true/\wA es Z p.2 λq=>wO (m.fn p.1 q.1 q.2) Q
 |.ix a b,Z,S,Q=>wE a Z S λp=>wE b Z p.2 λq=>wO (qf p.1 q.1 q.2) Q
 |.sl a lo hi,Z,S,Q=>wE a Z S λp=>wP lo Z p.2 λq=>wP hi Z q.2 λr=>wO (qe p.1 q.1 r.1 r.2) Q
 |.tup es,Z,S,Q=>wA es Z S λp=>Q (.tup p.1,p.2)
 |.lst es,Z,S,Q=>wA es Z S λp=>Q (.ref ↥p.2,p.2++[.lst p.1])
 |.isi c a,Z,S,Q=>wE a Z S λp=>wO (GB p.2 p.1 c) λk=>Q (.bl k,p.2)
 |.neg a,Z,S,Q=>wE a Z S λp=>wN p.1 λi=>Q (.int (-i),p.2)
 |.dnew,_,S,Q=>Q (.ref ↥S,S++[.dic []])
 |.disp es,Z,S,Q=>wA es Z (S++[.dic []]) λp=>p.2[↥S]?=gV (.dic [])/\wO (d3 [] p.1) λU=>Q (.ref ↥S,p.2.set ↥S (.dic U))
 |.chn o o' a b d,Z,S,Q=>wE a Z S λp=>wE b Z p.2 λq=>wO (sS o p.1 q.1 q.2) λk=>(k=true->wE d Z q.2 λr=>wO (cY o' q.1 r.1 r.2) Q)/\(k=false->Q (.bl false,q.2))
 |.ite t a b,Z,S,Q=>wT t Z S λp=>(p.1=true->wE a Z p.2 Q)/\(p.1=false->wE b Z p.2 Q)
 |.comp elt tg it cs cap,Z,S,Q=>Wp (aE M (.comp elt tg it cs cap) Z S) Q
def wT:E->Fm->aa->QB->Prop
 |.cmp o a b,Z,S,Q=>wE a Z S λp=>wE b Z p.2 λq=>wO (bx o p.1 q.1 q.2) λr=>wB r.1 λk=>Q (k,r.2)
 |.and a b,Z,S,Q=>wT a Z S λp=>(p.1=true->wT b Z p.2 Q)/\(p.1=false->Q (false,p.2))
 |.or a b,Z,S,Q=>wT a Z S λp=>(p.1=true->Q (true,p.2))/\(p.1=false->wT b Z p.2 Q)
 |.not a,Z,S,Q=>wT a Z S λp=>Q (!p.1,p.2)
 |.isi c a,Z,S,Q=>wE a Z S λp=>wO (GB p.2 p.1 c) λk=>Q (k,p.2)
 |.c w,Z,S,Q=>Wp (dh M (.c w) Z S) Q
 |.v i,Z,S,Q=>wV Z i λw=>wO (eW S w) λk=>Q (k,S)
 |.op o a b,Z,S,Q=>Wp (dh M (.op o a b) Z S) Q
 |.own f n es,Z,S,Q=>wA es Z S λp=>wO (aL M f n p.1 p.2) λq=>wO (eW q.2 q.1) λk=>Q (k,q.2)
 |.bi b es,Z,S,Q=>wA es Z S λp=>wO (b.fn p.1 p.2) λq=>wO (eW q.2 q.1) λk=>Q (k,q.2)
 |.me m o es,Z,S,Q=>Wp (dh M (.me m o es) Z S) Q
 |.ix a b,Z,S,Q=>Wp (dh M (.ix a b) Z S) Q
 |.sl a lo hi,Z,S,Q=>Wp (dh M (.sl a lo hi) Z S) Q
 |.tup es,Z,S,Q=>Wp (dh M (.tup es) Z S) Q
 |.lst es,Z,S,Q=>Wp (dh M (.lst es) Z S) Q
 |.neg a,Z,S,Q=>Wp (dh M (.neg a) Z S) Q
 |.dnew,Z,S,Q=>Wp (dh M .dnew Z S) Q
 |.disp es,Z,S,Q=>Wp (dh M (.disp es) Z S) Q
 |.chn o o' a b d,Z,S,Q=>wE a Z S λp=>wE b Z p.2 λq=>wO (sS o p.1 q.1 q.2) λk=>(k=true->wE d Z q.2 λr=>wO (cY o' q.1 r.1 r.2) λs=>wB s.1 λc=>Q (c,s.2))/\(k=false->Q (false,q.2))
 |.ite t a b,Z,S,Q=>Wp (dh M (.ite t a b) Z S) Q
 |.comp elt tg it cs cap,Z,S,Q=>Wp (dh M (.comp elt tg it cs cap) Z S) Q
def wA:Es->Fm->aa->(Mq W×aa->Prop)->Prop
 |.nil,_,S,Q=>Q ([],S)
 |.cons e es,Z,S,Q=>wE e Z S λp=>wA es Z p.2 λq=>Q (p.1::q.1,q.2)
def wP:Ep->Fm->aa->(MA MM×aa->Prop)->Prop
 |.no,_,S,Q=>Q (td,S)
 |.yes a,Z,S,Q=>wE a Z S λp=>wN p.1 λi=>Q (gV i,p.2)
end
abbrev tQ (K:Fm->aa->Prop)(Q:QO)(p:Out×aa):Prop:=match p.1 with
 |.nx Z=>K Z p.2
 |o=>Q (o,p.2)
mutual
def wS:Sm->Fm->aa->(Fm->aa->Prop)->QO->Prop
 |.set i e,Z,S,K,_=>wE M e Z S λp=>K (Z.set i (gV p.1)) p.2
 |.asg is e,Z,S,K,_=>wE M e Z S λp=>wU p.1 λws=>wO (dZ is ws Z) λd=>K d p.2
 |.par i j es,Z,S,K,_=>wA M es Z S λp=>w2 p.1 λx y=>K ((Z.set i (gV x)).set j (gV y)) p.2
 |.put o k e,Z,S,K,_=>wE M e Z S λp=>wE M o Z p.2 λq=>wE M k Z q.2 λr=>wO (ik q.1 r.1 p.1 r.2) λc=>K Z c
 |.ex e,Z,S,K,_=>wE M e Z S λp=>K Z p.2
 |.ret e,Z,S,_,Q=>wE M e Z S λp=>Q (.rt p.1,p.2)
 |.retN,_,S,_,Q=>Q (.rt .non,S)
 |.pass,Z,S,K,_=>K Z S
 |.brk,Z,S,_,Q=>Q (.bk Z,S)
 |.cont,Z,S,_,Q=>Q (.ct Z,S)
 |.bad,_,_,_,_=>N6
 |.ite t a b,Z,S,K,Q=>wT M t Z S λp=>∀f:QO,(∀d c,K d c->f (.nx d,c))->(∀o c,(∀d,o≠.nx d)->Q (o,c)->f (o,c))->(p.1=true->DP a Z p.2 f)/\(p.1=false->DP b Z p.2 f)
 |.whl t b,Z,S,K,Q=>Wp (gF M fuel (.whl t b) Z S) (tQ K Q)
 |.loop tg it b,Z,S,K,Q=>Wp (gF M fuel (.loop tg it b) Z S) (tQ K Q)
def DP:Ss->Fm->aa->QO->Prop
 |.nil,Z,S,Q=>Q (.nx Z,S)
 |.cons s ss,Z,S,Q=>wS s Z S (λd c=>DP ss d c Q) Q
end
end
abbrev Ku:Es->Mz
 |.nil=>0
 |.cons _ es=>Ku es+1
mutual
def dw:E->M9
 |.c _|.v _|.comp _ _ _ _ _|.dnew=>true
 |.op _ a b|.cmp _ a b|.and a b|.or a b|.ix a b=>dw a&&dw b
 |.chn _ _ a b c|.ite a b c=>dw a&&dw b&&dw c
 |.neg a|.not a|.isi _ a=>dw a
 |.own _ n es=>Ku es==n&&mZ es
 |.bi _ es|.disp es=>mZ es
 |.me _ o es=>dw o&&mZ es
 |.sl a lo hi=>dw a&&LA lo&&LA hi
 |.tup es|.lst es=>decide (Ku es<=1000)&&mZ es
def mZ:Es->M9
 |.nil=>true
 |.cons e es=>dw e&&mZ es
def LA:Ep->M9
 |.no=>true
 |.yes e=>dw e
end
mutual
def LX:Sm->M9
 |.set _ e|.asg _ e|.ex e|.ret e=>dw e
 |.put o k e=>dw o&&dw k&&dw e
 |.par _ _ es=>mZ es
 |.ite t a b=>dw t&&gW a&&gW b
 |_=>true
def gW:Ss->M9
 |.nil=>true
 |.cons s ss=>LX s&&gW ss
end
section
variable{M:M2->FF}{fuel:Mz}
def iY:∀{es:Es}{Z:Fm}{S a:aa}{ws:Mq W},cV M es Z S=gV (ws,a)->↥ws=Ku es
 |.nil,Z,S,a,ws,h=>by cases h;rfl
 |.cons e es,Z,S,a,ws,h=>by
  dsimp only[cV]at h;unfold cU at h;split at h
  ·split at h
   ·rename_i b;cases h;rw[Nh,iY b];rfl
   ·cases h
  ·cases h
def Aj (h:decide (n<=1000)=true):n<=sizeLine:=M1 (NF h) #v[]
def b7 (h:(a&&b)=true):a=true:=by cases a<;>first|rfl|cases h
def da (h:(a&&b)=true):b=true:=by cases a<;>first|show h|cases h
mutual
theorem aQ:∀(e:E) {Z:Fm}{S:aa}{Q:QW},dw e=true->wE M e Z S Q->Wp (aE M e Z S) Q
 |.c w,Z,S,Q,k,h=>Mk.mpr h
 |.v i,Z,S,Q,k,h=>LW.mpr (Ai h)
 |.op o a b,Z,S,Q,k,h=>Lp.mpr ((aQ a (b7 k) h).mono λp g=>(aQ b (da k) g).mono λq j=>bR j)
 |.cmp o a b,Z,S,Q,k,h=>ET.mpr ((aQ a (b7 k) h).mono λp g=>(aQ b (da k) g).mono λq j=>bR j)
 |.and a b,Z,S,Q,k,h=>Jq.mpr ((aQ a (b7 k) h).mono λp g=>let ⟨c,e,h1,h2⟩:=rC g;#[c,e,λz=>aQ b (da k) (h1 z),h2])
 |.or a b,Z,S,Q,k,h=>Lr.mpr ((aQ a (b7 k) h).mono λp g=>let ⟨c,e,h1,h2⟩:=rC g;#[c,e,h1,λz=>aQ b (da k) (h2 z)])
 |.not a,Z,S,Q,k,h=>Jr.mpr ((aQ a k h).mono λp g=>rC g)
 | .own f n es,Z,S,Q,k,h=>EU.mpr (by
   obtain⟨⟨ws,S1⟩,e,j⟩:=hG es (da k) h;have hl:↥ws=n:=(iY e).trans (eq_of_beq (b7 k));simp only[aL,M4 hl]at j;show#[_,e,hl,bR j])
 |.bi b es,Z,S,Q,k,h=>Jt.mpr ((hG es k h).mono λp g=>bR g)
 |.me m o es,Z,S,Q,k,h=>Ls.mpr ((aQ o (b7 k) h).mono λp g=>#[g.1,(hG es (da k) g.2).mono λq j=>bR j])
 |.ix a b,Z,S,Q,k,h=>Lq.mpr ((aQ a (b7 k) h).mono λp g=>(aQ b (da k) g).mono λq j=>bR j)
 |.sl a lo hi,Z,S,Q,k,h=>Lu.mpr ((aQ a (b7 (b7 k)) h).mono λp g=>(E3 lo (da (b7 k)) g).mono λq j=>(E3 hi (da k) j).mono λr l=>bR l)
 | .tup es,Z,S,Q,k,h=>Jv.mpr (by
   obtain⟨⟨ws,S1⟩,e,j⟩:=hG es (da k) h;show#[_,e,by rw[iY e];show Aj (b7 k),j])
 | .lst es,Z,S,Q,k,h=>Jw.mpr (by
   obtain⟨⟨ws,S1⟩,e,j⟩:=hG es (da k) h;show#[_,e,by rw[iY e];show Aj (b7 k),j])
 |.isi c a,Z,S,Q,k,h=>EV.mpr ((aQ a k h).mono λp g=>bR g)
 |.neg a,Z,S,Q,k,h=>Jx.mpr ((aQ a k h).mono λp g=>E2 g)
 |.dnew,Z,S,Q,k,h=>#[_,rfl,h]
 |.disp es,Z,S,Q,k,h=>GM.mpr ((hG es k h).mono λp g=>#[g.1,let ⟨U,e,q⟩:=bR g.2;#[U,e,q]])
 |.chn o A a b d,Z,S,Q,k,h=>EW ((aQ a (b7 (b7 k)) h).mono λp g=>(aQ b (da (b7 k)) g).mono λq j=>let ⟨c,e,h1,h2⟩:=bR j;#[c,e,λz=>(aQ d (da k) (h1 z)).mono λr l=>bR l,h2])
 |.ite t a b,Z,S,Q,k,h=>Js.mpr ((iZ t (b7 (b7 k)) h).mono λp g=>#[λz=>aQ a (da (b7 k)) (g.1 z),λz=>aQ b (da k) (g.2 z)])
 |.comp v tg it x u,Z,S,Q,k,h=>h
theorem hG:∀(es:Es) {Z:Fm}{S:aa}{Q:Mq W×aa->Prop},mZ es=true->wA M es Z S Q->Wp (cV M es Z S) Q
 |.nil,Z,S,Q,k,h=>Jy.mpr h
 |.cons e es,Z,S,Q,k,h=>GN.mpr ((aQ e (b7 k) h).mono λp g=>hG es (da k) g)
theorem E3:∀(e:Ep) {Z:Fm}{S:aa}{Q:MA MM×aa->Prop},LA e=true->wP M e Z S Q->Wp (vE M e Z S) Q
 |.no,Z,S,Q,k,h=>Lv.mpr h
 |.yes a,Z,S,Q,k,h=>Ju.mpr ((aQ a k h).mono λp g=>E2 g)
theorem iZ:∀(e:E) {Z:Fm}{S:aa}{Q:QB},dw e=true->wT M e Z S Q->Wp (dh M e Z S) Q
 |.cmp o a b,Z,S,Q,k,h=>Jz.mpr (ET.mpr ((aQ a (b7 k) h).mono λp g=>(aQ b (da k) g).mono λq j=>(bR j).mono λr l=>rC l))
 |.and a b,Z,S,Q,k,h=>JB.mpr ((iZ a (b7 k) h).mono λp g=>#[λz=>iZ b (da k) (g.1 z),g.2])
 |.or a b,Z,S,Q,k,h=>Lw.mpr ((iZ a (b7 k) h).mono λp g=>#[g.1,λz=>iZ b (da k) (g.2 z)])
 |.not a,Z,S,Q,k,h=>JC.mpr (iZ a k h)
 |.isi c a,Z,S,Q,k,h=>JE.mpr (EV.mpr ((aQ a k h).mono λp g=>let ⟨b,e,q⟩:=bR g;#[b,e,b,rfl,q]))
 |.v i,Z,S,Q,k,h=>Ml.mpr (LW.mpr (let ⟨w,e,q⟩:=Ai h;#[w,e,bR q]))
 | .own f n es,Z,S,Q,k,h=>JD.mpr (EU.mpr (by
   obtain⟨⟨ws,S1⟩,e,j⟩:=hG es (da k) h;have hl:↥ws=n:=(iY e).trans (eq_of_beq (b7 k));simp only[aL,M4 hl]at j;show#[_,e,hl,(bR j).mono λq j=>bR j]))
 |.c w,Z,S,Q,k,h=>h
 |.op o a b,Z,S,Q,k,h=>h
 |.bi b es,Z,S,Q,k,h=>Lx.mpr (Jt.mpr ((hG es k h).mono λp g=>(bR g).mono λq j=>bR j))
 |.me m o es,Z,S,Q,k,h=>h
 |.ix a b,Z,S,Q,k,h=>h
 |.sl a lo hi,Z,S,Q,k,h=>h
 |.tup es,Z,S,Q,k,h=>h
 |.lst es,Z,S,Q,k,h=>h
 |.neg a,Z,S,Q,k,h=>h
 |.dnew,Z,S,Q,k,h=>h
 |.disp es,Z,S,Q,k,h=>h
 |.chn o A a b d,Z,S,Q,k,h=>JA.mpr (EW ((aQ a (b7 (b7 k)) h).mono λp g=>(aQ b (da (b7 k)) g).mono λq j=>let ⟨c,e,h1,h2⟩:=bR j;#[c,e,λz=>(aQ d (da k) (h1 z)).mono λr l=>(bR l).mono λs y=>rC y,λz=>#[false,rfl,h2 z]]))
 |.ite t a b,Z,S,Q,k,h=>h
 |.comp v tg it x u,Z,S,Q,k,h=>h
end
mutual
theorem JQ:∀(s:Sm) {Z:Fm}{S:aa}{K:Fm->aa->Prop}{Q:QO},LX s=true->wS M fuel s Z S K Q->Wp (gF M fuel s Z S) (tQ K Q)
 |.set i e,Z,S,K,Q,k,h=>GQ.mpr (aQ e k h)
 |.asg is e,Z,S,K,Q,k,h=>GR.mpr ((aQ e k h).mono λp hp=>let ⟨ws,e1,h1⟩:=JO hp;let ⟨Z',e2,h2⟩:=bR h1;#[ws,Z',e1,e2,h2])
 |.par i j es,Z,S,K,Q,k,h=>GU.mpr ((hG es k h).mono λp hp=>JP hp)
 |.put o i e,Z,S,K,Q,k,h=>GV.mpr ((aQ e (da k) h).mono λp hp=>(aQ o (b7 (b7 k)) hp).mono λq hq=>(aQ i (da (b7 k)) hq).mono λr hr=>bR hr)
 |.ex e,Z,S,K,Q,k,h=>JG.mpr (aQ e k h)
 |.ret e,Z,S,K,Q,k,h=>GX.mpr (aQ e k h)
 |.retN,Z,S,K,Q,k,h=>#[_,rfl,h]
 |.pass,Z,S,K,Q,k,h=>#[_,rfl,h]
 |.brk,Z,S,K,Q,k,h=>#[_,rfl,h]
 |.cont,Z,S,K,Q,k,h=>#[_,rfl,h]
 |.bad,Z,S,K,Q,k,h=>h.elim
 | .ite t a b,Z,S,K,Q,k,h=>GY.mpr ((iZ t (b7 (b7 k)) h).mono λp hp=>by
   obtain⟨h1,h2⟩:=hp (tQ K Q) (λZ' S' z=>z) (λo S' hn z=>by cases o<;>first|show z|show absurd rfl (hn _))
   show#[λz=>jA a (da (b7 k)) (h1 z),λz=>jA b (da k) (h2 z)])
 |.whl t b,Z,S,K,Q,k,h=>h
 |.loop tg it b,Z,S,K,Q,k,h=>h
theorem jA:∀(ss:Ss) {Z:Fm}{S:aa}{Q:QO},gW ss=true->DP M fuel ss Z S Q->Wp (ga M fuel ss Z S) Q
 |.nil,Z,S,Q,k,h=>JF.mpr h
 | .cons s ss,Z,S,Q,k,h=>GP.mpr ((JQ s (b7 k) h).mono λp hp=>by
   obtain⟨o,S1⟩:=p;cases o with
   |nx Z'=>show#[λZ2 e=>by cases e;show jA ss (da k) hp,λz=>absurd rfl (z Z')]
   |_=>show#[λZ2 e=>(by cases e),λ_=>hp])
end
structure wZ (M:M2->FF)(fuel:Mz)(ss:Ss)(Z:Fm)(S:aa)(Q:QO):Prop where
 out:DP M fuel ss Z S Q
def JR :DP M fuel ss Z S Q=wZ M fuel ss Z S Q:=propext #[λh=>#[h],λh=>h.out]
def G3 {Q:QW}(h:defs.lookup f=gV df)(g:↥ws=n)(hl:↥ws=↥df.ps)(ok:gW df.body=true)
  (e:∀b:QO,(∀w a,Q (w,a)->b (.rt w,a))->wZ (ar defs fuel d) fuel df.body (fE df.N ws) S b):wO (aL (ar defs fuel (d+1)) f n ws S) Q:=by
 unfold aL;rw[M4 g];show JN (xG h hl ((jA _ ok (e (λp=>match p.1 with|.rt w=>Q (w,p.2)|_=>N6) λw a q=>q).out).mono λp c=>by
  obtain⟨o,S1⟩:=p;cases o<;>first|show c|show c.elim))
end
section
variable{M:M2->FF}{fuel:Mz}{Z:Fm}{S:aa}{K:Fm->aa->Prop}{Q:QO}
abbrev Ak (M:M2->FF)(fuel:Mz)(b:Ss)(Z:Fm)(S:aa)(I:Fm->aa->Prop)(Q:QO):Prop:=∀c:QO,(∀d a,I d a->c (.nx d,a))->(∀w a,Q (.rt w,a)->c (.rt w,a))->wZ M fuel b Z S c
def iA {xs:Mq W}(I:Mz->Fm->aa->Prop)(ok:gW b=true)(hi:jt M it Z S=gV (mi,S1))(d:∀i Z S,I i Z S->mi.at S i=gV xs[i]?)(hl:mi.len S1=gV ↥xs)(e:I 0 Z S1)
  (a:∀ i w Z S,xs[i]?=gV w->I i Z S->wO (lH tg w Z S) λq=>Ak M fuel b q.1 q.2 (I (i+1)) Q) (c:∀Z S,I ↥xs Z S->K Z S):Wp (gF M fuel (.loop tg it b) Z S) (tQ K Q):=by
 (delta gF;rw[JH])
 show#[_,hi,↥xs,hl,?_];show jy  I d (λi w Z S f g=>?_) (λZ S h=>c Z S h) _ 0 Z S1 ∅ e
 show(bR (a i w Z S f g)).mono λq j=>jA b ok (wZ.out (j _ (λ_ _ h=>h) λ_ _ h=>h))
def bM {Q:QW}(ok:dw e=true)(h:wE M e Z S Q):∃w c,aE M e Z S=gV (w,c)/\Q (w,c):=let ⟨⟨w,c⟩,a,b⟩:=aQ e ok h;#[w,c,a,b]
def bN (j:MM)(I:Mz->Fm->aa->Prop)(m:dw e=true)(ok:gW b=true)(l : -(2^62)<=j/\j<2^62)(k:wE M e Z S λp=>p.1=.int j/\I 0 Z p.2)
  (a:∀(i:Mz) Z S,i<j->I i Z S->Ak M fuel b (Z.set f (gV (.int i))) S (I (i+1)) Q) (c:∀Z S,I j.toNat Z S->K Z S):Wp (gF M fuel (.loop (.nm f) (.rng #v[e]) b) Z S) (tQ K Q):=by
 obtain⟨w,S1,g,rfl,h⟩:=bM m k;have hl:(eP 0 j.toNat).length=j.toNat:=by(delta eP;simp)
 show iA (mi:=.its _)   I ok ?_ (λ_ _ _ _=>rfl) rfl h (λi w Z S hw d=>?_) λZ S d=>c Z S (hl▸d)
 ·(delta jt cV cU ip qY;revert g)
  rw[M4 l]
 ·rw[d0]at hw;split at hw
  ·cases hw;rw[QH];show a i Z S ∅ d
  ·cases hw
def for_tup (xs:Mq W)(I:Mz->Fm->aa->Prop)(h:dw e=true)(ok:gW b=true)(g:wE M e Z S λp=>p.1=.tup xs/\I 0 Z p.2)
  (a:∀ i w Z S,xs[i]?=gV w->I i Z S->wO (lH tg w Z S) λq=>Ak M fuel b q.1 q.2 (I (i+1)) Q) (c:∀Z S,I ↥xs Z S->K Z S):Wp (gF M fuel (.loop tg (.seq e) b) Z S) (tQ K Q):=by
 obtain⟨w,S1,d,rfl,f⟩:=bM h g;show iA (mi:=.its xs)  I ok (by revert jt eI d) (λ_ _ _ _=>rfl) rfl f a c
def kJ (t:Mz)(xs:Mq W)(I:Mz->Fm->aa->Prop)(k:dw e=true)(ok:gW b=true)(j:wE M e Z S λp=>p.1=.ref t/\I 0 Z p.2)(a:∀i Z S,I i Z S->S[t]?=gV (.lst xs))
  (c:∀ i w Z S,xs[i]?=gV w->I i Z S->wO (lH tg w Z S) λq=>Ak M fuel b q.1 q.2 (I (i+1)) Q) (d:∀Z S,I ↥xs Z S->K Z S):Wp (gF M fuel (.loop tg (.seq e) b) Z S) (tQ K Q):=by
 obtain⟨w,S1,g,rfl,f⟩:=bM k j;show iA (mi:=.live t)  I ok (by simp only[jt,eI,g,aD (a _ _ _ f)]) (λi Z S h=>by simp only[MI.at,aD (a _ _ _ h)]) (by simp only[MI.len,aD (a _ _ _ f),Nb]) f c d
def E4 (I:Mz->Fm->aa->Prop)(m:Mz)(i:dw t=true)(ok:gW b=true)(g:m<fuel)(d:I m Z S)
  (a:∀m Z S,I m Z S->wT M t Z S λk=>(k.1=true->∃c,m=c+1/\Ak M fuel b Z k.2 (I c) Q)/\(k.1=false->K Z k.2)):Wp (gF M fuel (.whl t b) Z S) (tQ K Q):=by
 change Wp (mW (dh M t) (ga M fuel b) fuel Z S) _;show lO (Q:=tQ K Q) I (λm Z S f=>(iZ t i (a m Z S f)).mono λk hk=>#[λz=>?_,λz=>hk.2 z]) fuel m Z S g d
 obtain⟨c,e,h⟩:=hk.1 z;show#[c,e,jA b ok (wZ.out (h _ (λ_ _ h=>h) λ_ _ h=>h))]
abbrev wC (M:M2->FF):Es->Fm->aa->QB->Prop
 |.nil,_,S,Q=>Q (true,S)
 |.cons e .nil,Z,S,Q=>wT M e Z S Q
 |.cons _ (.cons _ _),_,_,_=>N6
def E5 {Q:QB}(ok:mZ a=true)(h:wC M a Z S Q):Wp (EN M a Z S) Q:=by
 match a,h,ok with
 |.nil,h,_=>show JI.mpr h
 |.cons e .nil,h,ok=>show JJ.mpr (iZ e (b7 ok) h)
abbrev eS (M:M2->FF)(a:E)(b:Es)(Z:Fm)(S:aa)(G:W->Fm->aa->Prop)(N:Fm->aa->Prop):Prop:=wC M b Z S λk=>(k.1=true->wE M a Z k.2 λy=>G y.1 Z y.2)/\(k.1=false->N Z k.2)
def jB {xs:Mq W}{Q:QW}(I:Mz->Mq W->Fm->aa->Prop)(m:dw a=true)(oc:mZ e=true)(hi:jt M it Z S=gV (mi,S1))(f:∀i ys Z S,I i ys Z S->mi.at S i=gV xs[i]?)(hl:mi.len S1=gV ↥xs)(h:I 0 [] (eu c Z) S1)
  (b:∀ i w ys Z S,xs[i]?=gV w->I i ys Z S->wO (lH tg w Z S) λq=>eS M a e q.1 q.2 (λy=>I (i+1) (ys++[y])) (I (i+1) ys))
  (d:∀ys Z S,I ↥xs ys Z S->↥ys<=sizeLine/\Q (.ref ↥S,S++[.lst ys])):Wp (aE M (.comp a tg it e c) Z S) Q:=by
 rw[Ad];show#[_,hi,↥xs,hl,?_];show(dI  (Q:=λq=>↥q.1<=sizeLine/\Q (.ref ↥q.2,q.2++[.lst q.1])) I f (λi w ys Z S j l=>?_) d _ 0 [] _ S1 ∅ h).mono λq g=>by simpa using g
 show(bR (b i w ys Z S j l)).mono λq g=>(E5 oc g).mono λk hk=>#[λz=>aQ a m (hk.1 z),hk.2]
def gH {Q:QW}(j:MM)(I:Mz->Mq W->Fm->aa->Prop)(q:dw e=true)(o:dw a=true)(oc:mZ f=true)(n : -(2^62)<=j/\j<2^62)(m:wE M e Z S λp=>p.1=.int j/\I 0 [] (eu c Z) p.2)
  (b:∀(i:Mz) ys Z S,i<j->I i ys Z S->eS M a f (Z.set h (gV (.int i))) S (λy=>I (i+1) (ys++[y])) (I (i+1) ys))
  (d:∀ys Z S,I j.toNat ys Z S->↥ys<=sizeLine/\Q (.ref ↥S,S++[.lst ys])):Wp (aE M (.comp a (.nm h) (.rng #v[e]) f c) Z S) Q:=by
 obtain⟨w,S1,k,rfl,l⟩:=bM q m;have hl:(eP 0 j.toNat).length=j.toNat:=by simp[eP]
 show jB (mi:=.its _)   I o oc ?_ (λ_ _ _ _ _=>rfl) rfl l (λi w ys Z S hw g=>?_) λys Z S g=>d ys Z S (hl▸g)
 ·revert jt cV cU ip qY k;rw[M4 n]
 ·rw[d0]at hw;split at hw
  ·cases hw;rw[QH];show b i ys Z S ∅ g
  ·cases hw
def vP {Q:QW}(xs:Mq W)(I:Mz->Mq W->Fm->aa->Prop)(l:dw e=true)(k:dw a=true)(oc:mZ f=true)(j:wE M e Z S λp=>p.1=.tup xs/\I 0 [] (eu c Z) p.2)
  (b:∀ i w ys Z S,xs[i]?=gV w->I i ys Z S->wO (lH tg w Z S) λq=>eS M a f q.1 q.2 (λy=>I (i+1) (ys++[y])) (I (i+1) ys))
  (d:∀ys Z S,I ↥xs ys Z S->↥ys<=sizeLine/\Q (.ref ↥S,S++[.lst ys])):Wp (aE M (.comp a tg (.seq e) f c) Z S) Q:=by
 obtain⟨w,S1,g,rfl,h⟩:=bM l j;show jB (mi:=.its xs)  I k oc (by revert jt eI g) (λ_ _ _ _ _=>rfl) rfl h b d
def vQ {Q:QW}(t:Mz)(xs:Mq W)(I:Mz->Mq W->Fm->aa->Prop)(n:dw e=true)(m:dw a=true)(oc:mZ g=true)(l:wE M e Z S λp=>p.1=.ref t/\I 0 [] (eu d Z) p.2)(b:∀i ys Z S,I i ys Z S->S[t]?=gV (.lst xs))
  (c:∀ i w ys Z S,xs[i]?=gV w->I i ys Z S->wO (lH tg w Z S) λq=>eS M a g q.1 q.2 (λy=>I (i+1) (ys++[y])) (I (i+1) ys))
  (f:∀ys Z S,I ↥xs ys Z S->↥ys<=sizeLine/\Q (.ref ↥S,S++[.lst ys])):Wp (aE M (.comp a tg (.seq e) g d) Z S) Q:=by
 obtain⟨w,S1,k,rfl,j⟩:=bM n l;show jB (mi:=.live t)  I m oc (by simp only[jt,eI,k,aD (b _ _ _ _ j)]) (λi ys Z S h=>by simp only[MI.at,aD (b _ _ _ _ h)]) (by simp only[MI.len,aD (b _ _ _ _ j),Nb]) j c f
def DQ {Q:QW}(xs:Mq W)(I:Mz->Mq W->Fm->aa->Prop)(n:dw a=true)(o:dw b=true)(oc:mZ f=true)(l:wE M a Z S λp=>Kt p.1=gV xs/\I 0 [] (eu d Z) p.2)
  (c:∀ i x ys Z S,xs[i]?=gV x->I i ys Z S->wO (lH tg (.tup [.int i,x]) Z S) λq=>eS M b f q.1 q.2 (λy=>I (i+1) (ys++[y])) (I (i+1) ys))
  (e:∀ys Z S,I ↥xs ys Z S->↥ys<=sizeLine/\Q (.ref ↥S,S++[.lst ys])):Wp (aE M (.comp b tg (.enu #v[a]) f d) Z S) Q:=by
 obtain⟨x,S1,h,k,j⟩:=bM n l;have hl:(ko xs).length=↥xs:=by simp[ko]
 show jB (mi:=.its _)   I o oc (by(delta jt cV cU ip zT;revert h k)) (λ_ _ _ _ _=>rfl) rfl j (λi w ys Z S hw g=>?_) λys Z S g=>e ys Z S (hl▸g)
 obtain⟨y,m,rfl⟩:=iS hw;show c i y ys Z S m g
def Al {Q:QW}(t:Mz)(xs:Mq W)(I:Mz->Mq W->Fm->aa->Prop)(r:dw a=true)(s:dw b=true)(oc:mZ f=true)(n:wE M a Z S λp=>p.1=.ref t/\I 0 [] (eu d Z) p.2)(k:∀i ys Z S,I i ys Z S->S[t]?=gV (.lst xs))
  (c:∀ i x ys Z S,xs[i]?=gV x->I i ys Z S->wO (lH tg (.tup [.int i,x]) Z S) λq=>eS M b f q.1 q.2 (λy=>I (i+1) (ys++[y])) (I (i+1) ys))
  (e:∀ys Z S,I ↥xs ys Z S->↥ys<=sizeLine/\Q (.ref ↥S,S++[.lst ys])):Wp (aE M (.comp b tg (.enu #v[a]) f d) Z S) Q:=by
 obtain⟨x,S1,m,rfl,g⟩:=bM r n;have hl:(ko xs).length=↥xs:=by simp[ko]
 have l:=λ{i ys Z S} h=>aD (k i ys Z S h)
 show jB (mi:=.el t)   I s oc (by(delta jt cV cU ip zT Kt;simp only[m,l g])) (λi ys Z S h=>by simp only[MI.at,l h]) (by simp only[MI.len,l g,Nb]) g (λi w ys Z S hw j=>?_) λys Z S j=>e ys Z S (hl▸j)
 obtain⟨y,o,rfl⟩:=iS hw;show c i y ys Z S o j
def st (h:wS M fuel s Z S (λb a=>wZ M fuel ss b a Q) Q):wZ M fuel (.cons s ss) Z S Q:=#[by
 delta DP;revert JR;show h]
def ba (h:Q (.nx Z,S)):wZ M fuel .nil Z S Q:=#[h]
def ap { Q0:QO}(i:t=true->∀d:QO,(∀f c,K f c->d (.nx f,c))->(∀w c,Q (.rt w,c)->d (.rt w,c))->wZ M fuel a Z S d)(j:t=false->∀d:QO,(∀f c,K f c->d (.nx f,c))->(∀w c,Q (.rt w,c)->d (.rt w,c))->wZ M fuel b Z S d) :
  ∀d:QO,(∀f c,K f c->d (.nx f,c))->(∀o c,(∀f,o≠.nx f)->Q (o,c)->d (o,c))->(t=true->DP M fuel a Z S d)/\(t=false->DP M fuel b Z S d):=
 λd g h=>#[λe=>(i e d g λw c=>h (.rt w) c (λ_ z=>nomatch z)).out,λe=>(j e d g λw c=>h (.rt w) c (λ_ z=>nomatch z)).out]
end
abbrev iB:Ss:=
 #v[.ret (.lst #v[.bi .list #v[.v 0],.c (.int 0),.c (.int 0),.c (.int 1),.c (.int 0)])]
abbrev db:Ss:=
 #v[.ite (.and (.cmp .eq (.ix (.v 0) (.c (.int 2))) (.c (.int 0))) (.cmp .lt (.ix (.v 0) (.c (.int 1))) (.bi .len #v[.ix (.v 0) (.c (.int 0))]))) #v[.set 2 (.ix (.ix (.v 0) (.c (.int 0))) (.ix (.v 0) (.c (.int 1)))),.put (.v 0) (.c (.int 1)) (.op .add (.ix (.v 0) (.c (.int 1))) (.c (.int 1))),.ite (.cmp .ge (.v 2) (.op .pow (.c (.int 10)) (.c (.int 18)))) #v[.put (.v 0) (.c (.int 2)) (.v 2)] #v[.put (.v 0) (.c (.int 3)) (.op .mod (.op .add (.op .add (.op .mul (.ix (.v 0) (.c (.int 3))) (.c (.int 40013))) (.op .mod (.v 2) (.c (.int 1000003)))) (.c (.int 1))) (.c (.int 2147483647)))]] .nil,.ite (.cmp .gt (.ix (.v 0) (.c (.int 2))) (.c (.int 0))) #v[.set 3 (.op .mod (.ix (.v 0) (.c (.int 2))) (.v 1)),.put (.v 0) (.c (.int 2)) (.op .fdiv (.ix (.v 0) (.c (.int 2))) (.v 1)),.ret (.v 3)] .nil,.put (.v 0) (.c (.int 4)) (.op .add (.ix (.v 0) (.c (.int 4))) (.c (.int 1))),.put (.v 0) (.c (.int 3)) (.op .mod (.op .add (.op .add (.op .mul (.ix (.v 0) (.c (.int 3))) (.c (.int 48271))) (.c (.int 12820163))) (.ix (.v 0) (.c (.int 4)))) (.c (.int 2147483647))),.ret (.op .mod (.op .fdiv (.op .mod (.op .mul (.op .add (.op .mod (.ix (.v 0) (.c (.int 3))) (.c (.int 65521))) (.c (.int 1))) (.op .add (.op .fdiv (.ix (.v 0) (.c (.int 3))) (.c (.int 65521))) (.c (.int 7919)))) (.c (.int 1000003))) (.c (.int 7))) (.v 1))]
abbrev di:Ss:=
 #v[.ite (.cmp .lt (.v 3) (.v 2)) #v[.ret (.ix (.ix (.ix (.v 1) (.v 2)) (.c (.int 1))) (.v 3))] .nil,.ret (.ix (.ix (.ix (.v 0) (.c (.int 1))) (.ix (.ix (.ix (.v 1) (.v 3)) (.c (.int 1))) (.v 2))) (.c (.int 1)))]
abbrev d6:Ss:=
 #v[.set 3 (.lst .nil),.loop (.nm 4) (.rng #v[.bi .len #v[.v 2]]) #v[.set 5 (.ix (.v 2) (.v 4)),.ex (.me .append (.v 3) #v[.tup #v[.ix (.ix (.v 1) (.v 5)) (.c (.int 0)),.bi .tuple #v[.comp (.own "_law_between" 4 #v[.v 3,.v 4,.v 2,.v 1]) (.nm 1) (.seq (.sl (.v 2) .no (.yes (.v 4)))) .nil [td,td,gV 5,gV 0,gV 1]]]])],.ret (.bi .tuple #v[.v 3])]
abbrev j4:Ss:=
 #v[.ret (.lst #v[.tup #v[.c (.int 0),.c (.int 1),.c (.int 2)],.tup #v[.c (.int 0),.c (.int 2),.c (.int 1)],.tup #v[.c (.int 1),.c (.int 0),.c (.int 2)],.tup #v[.c (.int 1),.c (.int 2),.c (.int 0)],.tup #v[.c (.int 2),.c (.int 0),.c (.int 1)],.tup #v[.c (.int 2),.c (.int 1),.c (.int 0)]])]
abbrev i4:Ss:=
 #v[.ret (.bi .min #v[.comp (.own "_law_part" 3 #v[.v 2,.v 3,.v 1]) (.nm 1) (.seq (.own "_law_turns" 0 .nil)) .nil [td,td,gV 0,gV 1]])]
abbrev j5:Ss:=
 #v[.set 2 (.ix (.lst #v[.lst #v[.tup #v[.c (.int 0)]],.lst #v[.tup #v[.c (.int 0),.c (.int 1)],.tup #v[.c (.int 1),.c (.int 0)]],.lst #v[.tup #v[.c (.int 0),.c (.int 1),.c (.int 2)],.tup #v[.c (.int 1),.c (.int 0),.c (.int 2)],.tup #v[.c (.int 0),.c (.int 2),.c (.int 1)]]]) (.op .sub (.v 1) (.c (.int 1)))),.ret (.ix (.v 2) (.own "_law_pick" 2 #v[.v 0,.bi .len #v[.v 2]]))]
abbrev eT:Ss:=
 #v[.set 4 (.own "_law_names" 2 #v[.v 0,.op .add (.v 1) (.bi .len #v[.v 2])]),.set 5 (.bi .tuple #v[.comp (.tup #v[.ix (.v 4) (.op .add (.v 3) (.v 1)),.ix (.v 2) (.v 1)]) (.nm 1) (.rng #v[.bi .len #v[.v 2]]) .nil [td,td,gV 2,gV 1,gV 4]]),.ret (.tup #v[.sl (.v 4) .no (.yes (.v 1)),.v 5,.bi .tuple #v[.bi .sorted #v[.v 3]]])]
abbrev ff:Ss:=
 #v[.set 3 (.lst .nil),.loop (.nm 4) (.rng #v[.c (.int 3)]) #v[.ex (.me .append (.v 3) #v[.tup #v[.own "_law_pick" 2 #v[.v 0,.v 1],.bi .tuple #v[.comp (.own "_law_pick" 2 #v[.v 2,.v 3]) (.nm 1) (.rng #v[.v 4]) .nil [td,td,gV 0,gV 2]]]])],.ret (.bi .tuple #v[.v 3])]
abbrev j6:Ss:=
 #v[.set 1 (.lst #v[.tup #v[.c (.int 1),.c (.int 1)],.tup #v[.c (.int 2),.c (.int 1)],.tup #v[.c (.int 3),.c (.int 1)],.tup #v[.c (.int 1),.c (.int 2)],.tup #v[.c (.int 1),.c (.int 2)],.tup #v[.c (.int 2),.c (.int 2)],.tup #v[.c (.int 2),.c (.int 2)],.tup #v[.c (.int 3),.c (.int 2)],.tup #v[.c (.int 1),.c (.int 3)],.tup #v[.c (.int 1),.c (.int 3)],.tup #v[.c (.int 2),.c (.int 3)]]),.ret (.ix (.v 1) (.own "_law_pick" 2 #v[.v 0,.c (.int 11)]))]
abbrev cL:Ss:=
 #v[.set 1 (.lst #v[.tup #v[.tup #v[.c (.int 1),.c (.int 0)],.disp #v[.tup #v[.c (.int 0),.c (.int 0)],.lst #v[.c (.int 0)]],.c (.int 3)],.tup #v[.tup #v[.c (.int 0),.c (.int 2),.c (.int 1)],.disp #v[.tup #v[.c (.int 1),.c (.int 1)],.lst #v[.c (.int 1)]],.c (.int 2)],.tup #v[.tup #v[.c (.int 0),.c (.int 1)],.disp #v[.tup #v[.c (.int 1),.c (.int 1)],.lst #v[.c (.int 1)]],.c (.int 3)]]),.ex (.me .append (.v 1) #v[.tup #v[.tup #v[.c (.int 0),.c (.int 1)],.disp #v[.tup #v[.c (.int 1),.c (.int 1)],.lst #v[.c (.int 1)],.tup #v[.c (.int 0),.c (.int 0)],.lst #v[.c (.int 1)]],.c (.int 3)]]),.ex (.me .append (.v 1) #v[.tup #v[.tup #v[.c (.int 0),.c (.int 1)],.disp #v[.tup #v[.c (.int 1),.c (.int 1)],.lst .nil],.c (.int 1)]]),.ex (.me .append (.v 1) #v[.tup #v[.tup #v[.c (.int 0),.c (.int 2),.c (.int 1)],.disp #v[.tup #v[.c (.int 0),.c (.int 0)],.lst #v[.c (.int 0)],.tup #v[.c (.int 0),.c (.int 1)],.lst #v[.c (.int 1)],.tup #v[.c (.int 1),.c (.int 0)],.lst #v[.c (.int 1)],.tup #v[.c (.int 1),.c (.int 1)],.lst #v[.c (.int 1)]],.c (.int 2)]]),.ex (.me .append (.v 1) #v[.tup #v[.tup #v[.c (.int 1),.c (.int 0)],.dnew,.c (.int 3)]]),.ex (.me .append (.v 1) #v[.tup #v[.tup #v[.c (.int 0),.c (.int 1),.c (.int 2)],.disp #v[.tup #v[.c (.int 2),.c (.int 2)],.lst #v[.c (.int 2)],.tup #v[.c (.int 1),.c (.int 2)],.lst #v[.c (.int 1)],.tup #v[.c (.int 2),.c (.int 1)],.lst #v[.c (.int 1)],.tup #v[.c (.int 1),.c (.int 1)],.lst #v[.c (.int 1),.c (.int 2)]],.c (.int 2)]]),.ex (.me .append (.v 1) #v[.tup #v[.tup #v[.c (.int 0),.c (.int 1),.c (.int 2)],.disp #v[.tup #v[.c (.int 0),.c (.int 0)],.lst #v[.c (.int 0),.c (.int 1)]],.c (.int 2)]]),.ret (.ix (.v 1) (.own "_law_pick" 2 #v[.v 0,.c (.int 9)]))]
abbrev dJ:Ss:=
 #v[.set 5 (.disp #v[.tup #v[.c (.int 1),.c (.int 0)],.v 2,.tup #v[.c (.int 2),.c (.int 0)],.v 3,.tup #v[.c (.int 2),.c (.int 1)],.v 4]),.loop (.nm 6) (.seq (.bi .list #v[.v 5])) #v[.put (.v 5) (.tup #v[.ix (.v 6) (.c (.int 1)),.ix (.v 6) (.c (.int 0))]) (.ix (.v 0) (.ix (.v 5) (.v 6)))],.loop (.tp [7,8,9]) (.seq (.own "_law_turns" 0 .nil)) #v[.ite (.cmp .notin (.ix (.v 5) (.tup #v[.v 7,.v 9])) (.me .get (.v 1) #v[.tup #v[.ix (.v 5) (.tup #v[.v 7,.v 8]),.ix (.v 5) (.tup #v[.v 8,.v 9])],.lst #v[.ix (.v 5) (.tup #v[.v 7,.v 9])]])) #v[.ret (.c (.bl true))] .nil],.ret (.c (.bl false))]
abbrev bG:Ss:=
 #v[.set 3 (.bi .len #v[.v 1]),.set 4 (.lst #v[.lst #v[.tup #v[.c (.int 0)]],.lst #v[.tup #v[.c (.int 0),.c (.int 1)],.tup #v[.c (.int 1),.c (.int 0)]]]),.ex (.me .append (.v 4) #v[.lst #v[.tup #v[.c (.int 0),.c (.int 1),.c (.int 2)],.tup #v[.c (.int 0),.c (.int 2),.c (.int 1)],.tup #v[.c (.int 2),.c (.int 0),.c (.int 1)],.tup #v[.c (.int 2),.c (.int 1),.c (.int 0)]]]),.set 5 (.ix (.v 4) (.op .sub (.v 3) (.c (.int 1)))),.ite (.cmp .eq (.v 1) (.tup #v[.c (.int 0),.c (.int 1),.c (.int 2)])) #v[.set 5 (.own "_law_turns" 0 .nil)] .nil,.set 6 (.ix (.v 5) (.own "_law_pick" 2 #v[.v 0,.bi .len #v[.v 5]])),.set 7 (.op .mul (.lst #v[.c (.int 0)]) (.v 3)),.loop (.nm 8) (.rng #v[.v 3]) #v[.put (.v 7) (.ix (.v 6) (.v 8)) (.ix (.v 6) (.ix (.v 1) (.v 8)))],.set 9 .dnew,.loop (.tp [10,11]) (.seq (.v 2)) #v[.put (.v 9) (.tup #v[.ix (.v 6) (.v 10),.ix (.v 6) (.v 11)]) (.comp (.ix (.v 2) (.v 1)) (.nm 1) (.seq (.ix (.v 2) (.tup #v[.v 10,.v 11]))) .nil [td,td,gV 6])],.ret (.tup #v[.bi .tuple #v[.v 7],.v 9])]
abbrev bX:Ss:=
 #v[.set 1 (.own "_law_pick" 2 #v[.v 0,.c (.int 7)]),.ite (.cmp .eq (.v 1) (.c (.int 0))) #v[.ret (.own "_law_free_rule" 1 #v[.v 0])] .nil,.ite (.cmp .eq (.v 1) (.c (.int 1))) #v[.ret (.own "_law_one_way_rule" 1 #v[.v 0])] .nil,.asg [2,3,4] (.own "_law_laying_kind" 1 #v[.v 0]),.set 5 (.op .add (.c (.int 1)) (.own "_law_pick" 2 #v[.v 0,.v 4])),.asg [2,3] (.own "_law_numbered" 3 #v[.v 0,.v 2,.v 3]),.set 6 (.own "_law_rule_of" 4 #v[.v 0,.v 5,.v 2,.tup .nil]),.set 7 .dnew,.set 8 (.bi .len #v[.v 2]),.loop (.nm 9) (.rng #v[.op .mul (.op .mul (.v 8) (.v 8)) (.v 8)]) #v[.par 10 11 #v[.op .mod (.v 9) (.v 8),.op .mod (.op .fdiv (.v 9) (.v 8)) (.v 8)],.set 12 (.op .fdiv (.op .fdiv (.v 9) (.v 8)) (.v 8)),.ite (.own "_law_breaks" 5 #v[.v 2,.v 3,.v 10,.v 11,.v 12]) #v[.loop (.nm 13) (.seq (.own "_law_rising" 1 #v[.v 5])) #v[.set 14 (.tup #v[.tup #v[.ix (.v 13) (.c (.int 0)),.tup .nil],.tup #v[.ix (.v 13) (.c (.int 1)),.tup #v[.v 10]]]),.put (.v 7) (.own "_law_figure" 2 #v[.v 6,.op .add (.v 14) (.tup #v[.tup #v[.ix (.v 13) (.c (.int 2)),.tup #v[.v 11,.v 12]]])]) (.c (.bl true))]] .nil],.ret (.tup #v[.ix (.v 6) (.c (.int 0)),.ix (.v 6) (.c (.int 1)),.bi .tuple #v[.bi .sorted #v[.v 7]]])]
abbrev i5:Ss:=
 #v[.set 1 (.lst .nil),.loop (.nm 2) (.rng #v[.v 0]) #v[.loop (.nm 3) (.rng2 #v[.v 2,.v 0]) #v[.set 1 (.op .add (.v 1) (.comp (.tup #v[.v 2,.v 3,.v 1]) (.nm 1) (.rng2 #v[.v 3,.v 0]) .nil [td,td,gV 2,gV 3]))]],.ret (.v 1)]
abbrev cx:Ss:=
 #v[.asg [1,2] (.own "_law_sizes" 1 #v[.v 0]),.set 3 (.own "_law_rule_of" 4 #v[.v 0,.v 1,.own "_law_backs" 2 #v[.v 0,.v 2],.tup .nil]),.set 5 (.comp (.v 1) (.nm 1) (.rng #v[.v 2]) #v[.cmp .eq (.ix (.ix (.ix (.v 2) (.c (.int 1))) (.v 1)) (.c (.int 1))) (.v 1)] [td,td,gV 3]),.ite (.or (.cmp .eq (.v 5) (.lst .nil)) (.cmp .eq (.v 2) (.c (.int 1)))) #v[.ret (.v 3)] .nil,.set 6 (.ix (.v 5) (.own "_law_pick" 2 #v[.v 0,.bi .len #v[.v 5]])),.set 7 .dnew,.loop (.nm 4) (.rng #v[.own "_law_pick" 2 #v[.v 0,.c (.int 9)]]) #v[.set 8 (.own "_law_free_three" 3 #v[.v 0,.v 1,.v 2]),.ite (.and (.cmp .ne (.ix (.ix (.ix (.v 8) (.c (.int 1))) (.c (.int 1))) (.c (.int 0))) (.v 6)) (.cmp .notin (.v 6) (.ix (.ix (.v 8) (.c (.int 2))) (.c (.int 1))))) #v[.put (.v 7) (.own "_law_figure" 2 #v[.v 3,.v 8]) (.c (.bl true))] .nil],.ret (.tup #v[.ix (.v 3) (.c (.int 0)),.ix (.v 3) (.c (.int 1)),.bi .tuple #v[.bi .sorted #v[.v 7]]])]
abbrev bO:Ss:=
 #v[.set 1 (.op .add (.c (.int 1)) (.own "_law_pick" 2 #v[.v 0,.c (.int 3)])),.set 2 (.comp (.tup #v[.tup #v[.v 1,.tup .nil],.tup #v[.v 1,.tup #v[.c (.int 0)]],.tup #v[.v 1,.tup #v[.c (.int 0),.c (.int 0)]]]) (.nm 1) (.rng #v[.v 1]) #v[.cmp .eq (.own "_law_pick" 2 #v[.v 2,.c (.int 2)]) (.c (.int 0))] [td,td,gV 0]),.ret (.own "_law_rule_of" 4 #v[.v 0,.v 1,.tup #v[.c (.int 0)],.v 2])]
abbrev Is (defs:Mq (M2×Df))(f:M2)(a nn:Mz)(b:Ss):Prop:=∃df:Df,defs.lookup f=gV df/\↥df.ps=a/\↥df.N=nn/\df.body=b
def ay {Q:QW}(h:Is defs f c nn b)(hl:↥ws=c)(ok:gW b=true)
  (m:∀a:QO,(∀w e,Q (w,e)->a (.rt w,e))->wZ (ar defs fuel d) fuel b (ws.map gV++Ny (nn-c) td) S a):wO (aL (ar defs fuel (d+1)) f c ws S) Q:=by
 obtain⟨df,g,i,j,k⟩:=h;subst k;show G3 g hl (hl.trans i.symm) ok λa l=>?_
 have:=m a l;unfold fE;rw[j,hl];show this
abbrev j7:Ss:=
 #v[.ret (.bi .tuple #v[.comp (.op .add (.c (.str "n")) (.ix (.c (.str "abcdefgh")) (.v 1))) (.nm 1) (.rng #v[.v 1]) .nil [td,td]])]
structure Gen (defs:Mq (M2×Df)):Prop where
 pick:Is defs ("_law_pick": M2) 2 4 db
 names:Is defs ("_law_names": M2) 2 2 j7
 between:Is defs ("_law_between": M2) 4 4 di
 part:Is defs ("_law_part": M2) 3 6 d6
 turns:Is defs ("_law_turns": M2) 0 0 j4
 figure:Is defs ("_law_figure": M2) 2 2 i4
 backs:Is defs ("_law_backs": M2) 2 3 j5
 rule_of:Is defs ("_law_rule_of": M2) 4 6 eT
 free_three:Is defs ("_law_free_three": M2) 3 5 ff
 sizes:Is defs ("_law_sizes": M2) 1 2 j6
 laying_kind:Is defs ("_law_laying_kind": M2) 1 2 cL
 breaks:Is defs ("_law_breaks": M2) 5 10 dJ
 numbered:Is defs ("_law_numbered": M2) 3 12 bG
 laying_rule:Is defs ("_law_laying_rule": M2) 1 15 bX
 rising:Is defs ("_law_rising": M2) 1 4 i5
 free_rule:Is defs ("_law_free_rule": M2) 1 9 cx
 one_way_rule:Is defs ("_law_one_way_rule": M2) 1 3 bO
structure FlA (S:aa)(r q:Mz)(ns:Mq MM)(i c x n:MM):Prop where
 at_r:S[r]?=gV (.lst [.ref q,.int i,.int c,.int x,.int n])
 at_q:S[q]?=gV (.lst (ns.map W.int))
 lt:q<r
 i0:0<=i
 c0:0<=c
 x0:0<=x
 x1:x<2147483647
def FlA.ne (h:FlA S r q a i c x n):q≠r:=M3 h.lt
abbrev Fl (S:aa)(r:Mz):Prop:=∃(q:Mz) (ns:Mq MM) (i c x n:MM),FlA S r q ns i c x n
def FlA.put (h:FlA S r q f i c x n)(g:0<=d)(j:0<=b)(k:0<=a)(l:a<2147483647):FlA (S.set r (.lst [.ref q,.int d,.int b,.int a,.int e])) r q f d b a e:=
 #[aZ h.at_r,by rw[aV (Ne.symm h.ne)];show h.at_q,h.lt,g,j,k,l]
def Fl.keep (h:Fl S r)(b:a[r]?=S[r]?)(k:Kp r S a):Fl a r:=
 let ⟨q,ns,i,c,x,n,f⟩:=h;#[q,ns,i,c,x,n,by rw[b];show f.at_r,k.get _ _ f.ne f.at_q,f.lt,f.i0,f.c0,f.x0,f.x1]
def Fl.lt (h:Fl S r):r<↥S:=let ⟨_,_,_,_,_,_,f⟩:=h;bo f.at_r
structure Ka (S S':aa):Prop where
 get:∀(j:Mz) (o:O),S[j]?=gV o->S'[j]?=gV o
 len:↥S<=↥S'
def Ka.refl :Ka S S:=#[λ_ _ h=>h,MH _]
def Ka.trans (a:Ka S d)(b:Ka d c):Ka S c:=#[λj o h=>b.get j o (a.get j o h),M1 a.len b.len]
def Ka.push :Ka S (S++[o]):=#[λj u h=>aw h,by simp]
def Ka.late (a:Ka b S)(h:↥b<=t):Ka b (S.set t o):=
 #[λj u e=>by have:=bo e;rw[aV ∅];show a.get j u e,by simpa using a.len]
def Ka.kp (a:Ka S b)(r:Mz):Kp r S b:=#[λj o _ h=>a.get j o h,a.len]
def Fl.ka (h:Fl S r)(k:Ka S a):Fl a r:=h.keep (by obtain⟨q,b,i,c,x,n,f⟩:=h;rw[k.get _ _ f.at_r,f.at_r]) (k.kp r)
def Fl.own (h:Fl S r)(b:r<t):Fl (S.set t o) r:=by
 obtain⟨q,a,i,c,x,n,f⟩:=h;have:=f.lt;show#[q,a,i,c,x,n,by rw[aV ∅];show f.at_r,by rw[aV ∅];show f.at_q,f.lt,f.i0,f.c0,f.x0,f.x1]
def dL {i:Mz}{Q:QW}(h:S[r]?=gV (.lst xs))(hw:xs[i]?=gV w)(q:Q (w,S)):wO (qf (.ref r) (.int i) S) Q:=ab (Ag h (MK i) (by show hw)) q
def nZ (h:S[r]?=gV (.lst xs))(hi:Wh (i+1) ↥xs=true)(q:Q (S.set r (.lst (xs.set i w)))):wO (ik (.ref r) (.int i) w S) Q:=ab (EY h (MK i) (by show Ni hi)) (by show q)
section
variable{defs:Mq (M2×Df)}{fuel d:Mz}{S:aa}{r:Mz}{Q:QW}
def bP (hd:Is defs ("_law_pick") 2 4 db)(R:Fl S r)(D:0<m)(O:m<1073741824)(k:∀v t,0<=v->v<m->Fl t r->Kp r S t->Q (.int v,t)) :
  wO (aL (ar defs fuel (d+1)) "_law_pick" 2 [.ref r,.int m] S) Q:=by
 obtain⟨q,p,i,c,x,n,f⟩:=R;show ay hd rfl rfl λC P=>?_
 replace k:=λv t a b c e=>P _ _ (k v t a b c e)
 change wZ _ _ db [gV (.ref r),gV (.int m),td,td] S C;have cj:∀S1 w2 w u s l,FlA S1 r q p w u s l->Kp r S S1->wZ (ar defs fuel d) fuel (match db with|.cons _ ss=>ss|.nil=>.nil) [gV (.ref r),gV (.int m),w2,td] S1 C:=by
  intro S1 w2 w u s l g L;delta db;show st ?_;delta wS wT wE;show dL  g.at_r rfl ?_;dsimp only[];show ap (Q0:=C) (λE o h G=>?_) (λE o h G=>?_)
  ·clear h;show st ?_;left;show dL  g.at_r rfl (ab (nY D) ?_);show st ?_;left;show dL  g.at_r rfl (ab (pN D O) (nZ  g.at_r rfl ?_));show st ?_;left;show G _ _ (k _ _ (PL _ ∅) (O7 _ D) #[q,p,w,u/m,s,l,g.put g.i0 (Uu g.c0 ∅) g.x0 g.x1] (L.trans .set))
  ·show ba (h _ _ ?_);clear h G;have H:FlA (S1.set r (.lst [.ref q,.int w,.int u,.int s,.int (l+1)])) r q p w u s (l+1):=g.put g.i0 g.c0 g.x0 g.x1;show st ?_;left;show dL  g.at_r rfl ?_;dsimp only[];show nZ  g.at_r rfl ?_;show st ?_;left;show dL  H.at_r rfl (ab (vO #v[] #v[]) ?_)
   dsimp only[];show dL  H.at_r rfl ?_;dsimp only[];show(nZ  H.at_r rfl ?_);have A:FlA ((S1.set r (.lst [.ref q,.int w,.int u,.int s,.int (l+1)])).set r (.lst [.ref q,.int w,.int u,.int ((s*48271+12820163+(l+1)) % 2147483647),.int (l+1)])) r q p w u ((s*48271+12820163+(l+1)) % 2147483647) (l+1):=H.put g.i0 g.c0 (PL _ #v[]) (O7 _ #v[])
   left;generalize(s*48271+12820163+(l+1)) % 2147483647=y at A ⊢;have N:y/65521+7919<2^64:=by
    have:=A.x1;have:=Int.ediv_le_self 65521 A.x0;omega
   have b2 : -(2^64)<y/65521+7919:=by
    have:=Uu A.x0 (show 0<=65521 by decide)
    omega
   show st ?_;left;show dL  A.at_r rfl (ab (nY #v[]) ?_)
   dsimp only[];show dL  A.at_r rfl ?_;delta wO;show ab (vO b2 N) ?_;show ab (nY D) ?_;show k _ _ (PL _ ∅) (O7 _ D) #[q,p,_,_,_,_,A] (L.trans (Kp.set.trans .set))
 show st ?_;delta wS wT wE wV wG wA;show dL  f.at_r rfl ?_;delta mY wO;have skip:∀o:QO,(∀J t,wZ (ar defs fuel d) fuel _ J t C->o (.nx J,t))->o (.nx [gV (.ref r),gV (.int m),td,td],S):=λo h=>h _ _ (cj S td i c x n f .refl)
 show#[λ_=>?_,λ_ o h G=>#[λz=>(by cases z),λ_=>(ba (skip o h)).out]]
 show dL  f.at_r rfl (dL  f.at_r rfl (ab (EZ f.at_q) ?_));dsimp only[];show ap (Q0:=C) (λhl o h _=>?_) (λE o h G=>ba (skip o h))
 clear skip;have I:i.toNat<↥p:=by
  have:=NF hl;rw[Mr]at this;have:=f.i0;omega
 have j:(p.map W.int)[i.toNat]?=gV (.int p[i.toNat]):=by simp[I]
 generalize p[i.toNat]=cell at j;have g:FlA (S.set r (.lst [.ref q,.int (i+1),.int c,.int x,.int n])) r q p (i+1) c x n:=f.put (by have:=f.i0;omega) f.c0 f.x0 f.x1
 show st ?_;left;show dL  f.at_r rfl (dL  f.at_r rfl (ab (Ag f.at_q f.i0 j) ?_));show st ?_;left;show dL  f.at_r rfl ?_;dsimp only[];show nZ  f.at_r rfl ?_;show st ?_;delta wS wT wE GZ;show ap (Q0:=C) (λE M B _=>?_) (λE M B _=>?_)
 ·show st ?_;left;show nZ  g.at_r rfl (ba (B _ _ (ba (h _ _ ?_))));show cj _ _ (i+1) cell x n (g.put g.i0 (by have:=NF E;omega) f.x0 f.x1) (Kp.set.trans .set)
 ·show st ?_;left;show dL  g.at_r rfl (ab (vO #v[] #v[]) (ab (nY #v[]) ?_))
  dsimp only[];show nZ  g.at_r rfl (ba (B _ _ (ba (h _ _ ?_))));show cj _ _ (i+1) c _ n (g.put g.i0 f.c0 (PL _ #v[]) (O7 _ #v[])) (Kp.set.trans .set)
end
abbrev dr:Mz->Ss->Ss
 |0,ss=>ss
 |n+1,.cons _ ss=>dr n ss
 |_,.nil=>.nil
def dj :wO (gV a) Q=Q a:=rfl
def aN (h:∀K:Fm->aa->Prop,(∀b a,wZ M fuel ss b a Q->K b a)->wS M fuel s Z S K Q):wZ M fuel (.cons s ss) Z S Q:=st (h _ λ_ _ h=>h)
def JS {K:Fm->aa->Prop}(h:wE M e Z S λp=>K (Z.set i (gV p.1)) p.2):wS M fuel (.set i e) Z S K Q:=h
def i6 {n:Mz}(h:Wh n 1000=true):n<=sizeLine:=M1 (Ni h) #v[]
def jC (h:n<=1000):n<=sizeLine:=M1 h #v[]
def j8 {Q:QW}(h:S[r]?=gV (.lst xs))(a:0<=i)(hw:xs[i.toNat]?=gV w)(q:Q (w,S)):wO (qf (.ref r) (.int i) S) Q:=ab (Ag h a hw) q
def af {Q:QW}(a:0<=i)(hw:xs[i.toNat]?=gV w)(q:Q (w,S)):wO (qf (.tup xs) (.int i) S) Q:=ab (JK a hw) q
def j9 {Q:QW}(h:S[r]?=gV (.lst xs))(hl:↥xs<1000)(q:Q (.non,S.set r (.lst (xs++[y])))):wO (Me.append.fn (.ref r) [y] S) Q:=ab (Ah h (MU hl (i6 rfl))) q
def hW {Q:QW}(h:S[r]?=gV (.lst xs))(q:Q (.int ↥xs,S)):wO (Bi.len.fn [.ref r] S) Q:=ab (EZ h) q
def aC {Q:QW}(q:Q (.int ↥xs,S)):wO (Bi.len.fn [.tup xs] S) Q:=q
def cH {Q:QW}(h:S[r]?=gV (.lst xs))(q:Q (.tup xs,S)):wO (Bi.tuple.fn [.ref r] S) Q:=ab (JM h) q
section
variable{M:M2->FF}{fuel:Mz}{Z:Fm}{S S1:aa}{K:Fm->aa->Prop}
def Am (c:∀Q:QB,Q (false,S1)->wT M t Z S Q)(h:K Z S1):wS M fuel (.ite t a .nil) Z S K Q:=by
 show c _ λd b e=>#[λz=>(by cases z),λ_=>(ba (b _ _ h)).out]
def JT (i:∀Q:QB,Q (true,S1)->wT M t Z S Q)(h:∀d:QO,(∀e c,K e c->d (.nx e,c))->(∀w c,Q (.rt w,c)->d (.rt w,c))->wZ M fuel a Z S1 d):wS M fuel (.ite t a b) Z S K Q:=by
 show i _ λd f g=>#[λ_=>(h d f λw c q=>g _ c (λ_ z=>nomatch z) q).out,λz=>(by cases z)]
end
abbrev JU (y:M2):Prop:=∀c∈y.cps.toList,97<=c/\c<=122
abbrev Name (y:M2):Prop:=1<=↥y.cps.toList/\↥y.cps.toList<=8/\JU y
def pR {α:Type}{f:α->W}{xs:Mq α}(h:i<↥xs):∃x∈xs,(xs.map f)[i]?=gV (f x):=#[xs[i],NC _,by rw[MD,MC h];rfl]
def cM {α:Type}[PY α]:∀(l m:Mq α),l.Nodup->(∀x∈l,x∈m)->↥l<=↥m
 |[],_,_,_=>Os _
 |x::l,m,a,b=>by
  rw[Ox]at a;have c:=b x (.head _);have f:=cM l (m.erase x) a.2 λy d=>(List.mem_erase_of_ne (λe=>a.1 (by rw[<- e];show d))).mpr (b y (.tail _ d))
  rw[List.length_erase_of_mem c]at f;have:=RZ c;rw[Nh];omega
abbrev tR:Mq M2:=["marks","ways","bar","some","each","not","and","or","is"]
def dy {k:Mz}:w8 xs td (gV k)=xs.take k:=by
 unfold w8;rw[HT.yD,HT.Ck,List.drop_zero,Nat.sub_zero]
 by_cases h:k<=↥xs
 ·rw[Uv h]
 ·rw[Nat.min_eq_right ∅,R0 (MH _),R0 ∅]
section
variable{defs:Mq (M2×Df)}{fuel d:Mz}{S:aa}{r:Mz}{Q:QW}
abbrev An (k:Mz):M2:=#[[110,97+k].toArray]
def tU (h:k<26):Name (An k):=#[(by decide:1<=2),(by decide:2<=8),λc hc=>by
 have hc:c∈[110,97+k]:=hc;simp only[M5,Nx,Ow]at hc;omega]
def Ao:∀m,m<=6->(tR++(MJ m).map An).Nodup:=λm a=>by
 rcases(show m=0\/m=1\/m=2\/m=3\/m=4\/m=5\/m=6 by omega)with rfl|rfl|rfl|rfl|rfl|rfl|rfl<;>decide
def DR:∀k:Fin 6,("abcdefgh": M2).cps.toList[k.val]?=gV (97+k.val):=by decide
def DS (j:20<fuel)(G:Gen defs)(h:Fl S r)(f:m<=6)(k:∀ ys S',↥ys=m->(∀y∈ys,Name y)->(tR++ys).Nodup->Fl S' r->Kp r S S'->Q (.tup (ys.map W.str),S')) :
  wO (aL (ar defs fuel (d+4)) "_law_names" 2 [.ref r,.int m] S) Q:=by
 show ay G.names rfl rfl λn g=>?_
 show st ?_;left;show gH m (λi ys b a=>(∃e,b=[td,e])/\ys=((MJ i).map An).map W.str/\a=S) rfl rfl rfl ∅ #[rfl,#[td,rfl],rfl,rfl] ?_ ?_
 ·rintro i ys b a hi ⟨⟨e,rfl⟩,rfl,rfl⟩;show#[λ_=>ab (JL (c:=97+i) #v[] (MK i) ?_) (ab (G0 (show 1+1<=sizeLine by decide)) #[#[_,rfl],?_,rfl]),λz=>by cases z]
  ·show DR #[i,∅]
  ·rw[Ol,MZ,MZ];rfl
 ·rintro ys b a ⟨_,rfl,rfl⟩;rw[M0];show#[jC (by rw[Mr,Mr,MX];show M1 ‹_› (Ni rfl)),cH ag (g _ _ (k _ _ (by rw[Mr,MX]) (λy l=>?_) (Ao m f) (h.ka .push) .push))]
  obtain⟨i,hi,rfl⟩:=MN.mp l;show tU (by have:=ML.mp hi;omega)
end
noncomputable abbrev Pt:=MM×Mq MM
noncomputable abbrev Wd:=Mq Pt
abbrev aH (p:Pt):W:=.tup [.int p.1,.tup (p.2.map W.int)]
abbrev az (u:Wd):W:=.tup (u.map aH)
abbrev jg (p:Pt):T:=.tup [.int p.1,.tup (p.2.map T.int)]
abbrev cJ (u:Wd):T:=.tup (u.map jg)
def vR:∀xs:Mq MM,T.ws (xs.map T.int)=xs.map W.int
 |[]=>rfl
 |x::xs=>by simp[T.ws,T.w,vR xs]
def JV (p:Pt):(jg p).w=aH p:=by(delta jg aH T.w T.ws;simp[vR])
def Ap:∀u:Wd,T.ws (u.map jg)=u.map aH
 |[]=>rfl
 |p::u=>by simp[T.ws,JV,Ap u]
def Aq (u:Wd):(cJ u).w=az u:=by(delta cJ az T.w;simp[Ap])
def JW (u:Wd):W.t (az u)=gV (cJ u):=by rw[<- Aq];show T.w_t _
def Ar:∀us:Mq Wd,T.ws (us.map cJ)=us.map az
 |[]=>rfl
 |u::us=>by simp[T.ws,Aq,Ar us]
def E6 (us:Mq Wd):W.ts (us.map az)=gV (us.map cJ):=by rw[<- Ar];show T.ws_ts _
def lP:∀xs:Mq MM,T.depths (xs.map T.int)=0
 |[]=>rfl
 |x::xs=>by simp[T.depths,T.depth,lP xs]
def As (p:Pt):(jg p).depth=2:=by simp[jg,T.depth,T.depths,lP]
def n6:∀u:Wd,T.depths (u.map jg)<=2
 |[]=>by simp[T.depths]
 |p::u=>by
  have:=n6 u;revert NL T.depths As;omega
def rD (u:Wd):(cJ u).depth<=3:=by
 have:=n6 u;delta cJ T.depth;omega
def jD:∀us:Mq Wd,T.depths (us.map cJ)<=3
 |[]=>by simp[T.depths]
 |u::us=>by
  have:=jD us;have:=rD u;revert NL T.depths;omega
def G4 (u:Wd):gR (az u)=gV (cJ u):=by
 unfold gR;rw[JW];show(if (cJ u).isTup=true/\(cJ u).depth<=bq then _ else _)=_
 rw[M4 #[rfl,by have:=rD u;unfold bq;show M1 ‹_› (Ni rfl)]]
mutual
def tV:T->T->M9
 |.int _,.int _=>true
 |.str _,.str _=>true
 |.tup xs,.tup ys=>i7 xs ys
 |_,_=>false
def i7:Mq T->Mq T->M9
 |[],_=>true
 |_,[]=>true
 |x::xs,y::ys=>tV x y&&i7 xs ys
end
mutual
theorem tW:∀x y:T,tV x y=true->(fT x y).isSome=true
 |.int _,.int _,_=>rfl
 |.str _,.str _,_=>rfl
 |.tup xs,.tup ys,h=>by
  dsimp only[tV]at h;delta fT;show vS xs ys h
 |.int _,.str _,h|.int _,.tup _,h|.str _,.int _,h|.str _,.tup _,h|.tup _,.int _,h|.tup _,.str _,h=>by cases h
theorem vS:∀xs ys:Mq T,i7 xs ys=true->(cZ xs ys).isSome=true
 |[],[],_=>rfl
 |[],_::_,_=>rfl
 |_::_,[],_=>rfl
 |x::xs,y::ys,h=>by
  dsimp only[i7]at h;simp only[MB]at h
  delta cZ;split
  ·show vS xs ys h.2
  ·show tW x y h.1
end
def rE:∀xs ys:Mq MM,i7 (xs.map T.int) (ys.map T.int)=true
 |[],_=>rfl
 |_::_,[]=>rfl
 |x::xs,y::ys=>by delta Wb i7 tV;simp[rE xs ys]
def At (p q:Pt):tV (jg p) (jg q)=true:=by delta jg tV i7;simp[rE]
def vT:∀u v:Wd,i7 (u.map jg) (v.map jg)=true
 |[],_=>rfl
 |_::_,[]=>rfl
 |p::u,q::v=>by delta Wb i7;simp[At,vT u v]
def G5 (u v:Wd):tV (cJ u) (cJ v)=true:=by show vT _ _
def gI (us:Mq Wd):eZ (us.map cJ)=true:=by
 unfold eZ;rw[MY];intro x a;obtain⟨u,_,rfl⟩:=MN.mp a;rw[MY];intro y b;obtain⟨v,_,rfl⟩:=MN.mp b;show tW _ _ (G5 u v)
def G6 (us:Mq Wd)(h:∀u∈us,u≠[]):(CT (us.map cJ)).isSome=true:=by
 unfold CT;split
 ·rfl
 ·split
  ·rfl
  ·split
   ·rfl
   ·split
    ·rfl
    ·split
     ·rfl
     ·rename_i a;exfalso;apply a;rw[MY];intro x c;obtain⟨u,b,rfl⟩:=MN.mp c;cases u with
      |nil=>show absurd rfl (h [] b)
      |cons p u=>rfl
abbrev bg (bs:Mq MM)(u:Wd)(i j:Mz):MM:=if j<i then((u.getD i (0,[])).2).getD j 0 else bs.getD (((u.getD j (0,[])).2).getD i 0).toNat 0
abbrev ae (bs:Mq MM)(u:Wd)(ps:Mq Mz):Wd:=(MJ ↥ps).map λk=>((u.getD (ps.getD k 0) (0,[])).1,(ps.take k).map λj=>bg bs u (ps.getD k 0) j)
abbrev au:Mq (Mq Mz):=[[0,1,2],[0,2,1],[1,0,2],[1,2,0],[2,0,1],[2,1,0]]
abbrev dc (bs:Mq MM)(u:Wd):Wd:=(au.map (ae bs u)).getD (im ((au.map (ae bs u)).map cJ)) []
abbrev aK (n:M2)(b:MM):W:=.tup [.str n,.int b]
structure GoodW (a n:Mz)(u:Wd):Prop where
 mark:∀(k:Mz) (p:Pt),u[k]?=gV p->0<=p.1/\p.1<a
 len:∀(k:Mz) (p:Pt),u[k]?=gV p->↥p.2=k
 way:∀(k:Mz) (p:Pt),u[k]?=gV p->∀w∈p.2,0<=w/\w<n
abbrev GoodB (bs:Mq MM):Prop:=bs=[0]\/bs=[0,1]\/bs=[1,0]\/bs=[0,1,2]\/bs=[1,0,2]\/bs=[0,2,1]
def GoodB.rng (h:GoodB bs):∀k:Mz,k<↥bs->∃b:MM,bs[k]?=gV b/\0<=b/\b<↥bs:=by
 rcases h with rfl|rfl|rfl|rfl|rfl|rfl<;>intro k hk
 ·match k,hk with
  |0,_=>show#[0,rfl,#v[],#v[]]
 ·match k,hk with
  |0,_=>show#[0,rfl,#v[],#v[]]
  |1,_=>show#[1,rfl,#v[],#v[]]
 ·match k,hk with
  |0,_=>show#[1,rfl,#v[],#v[]]
  |1,_=>show#[0,rfl,#v[],#v[]]
 ·match k,hk with
  |0,_=>show#[0,rfl,#v[],#v[]]
  |1,_=>show#[1,rfl,#v[],#v[]]
  |2,_=>show#[2,rfl,#v[],#v[]]
 ·match k,hk with
  |0,_=>show#[1,rfl,#v[],#v[]]
  |1,_=>show#[0,rfl,#v[],#v[]]
  |2,_=>show#[2,rfl,#v[],#v[]]
 ·match k,hk with
  |0,_=>show#[0,rfl,#v[],#v[]]
  |1,_=>show#[2,rfl,#v[],#v[]]
  |2,_=>show#[1,rfl,#v[],#v[]]
def getD_some {α:Type}{xs:Mq α}{x d:α}(h:xs[i]?=gV x):xs.getD i d=x:=by simp[h]
def aq {α:Type}{xs:Mq α}{d:α}(h:i<↥xs):xs[i]?=gV (xs.getD i d):=by simp[h]
def lQ {k:Mz}(c:a[k]?=gV n)(d:bs[k]?=gV b):(MR aK a bs)[k]?=gV (aK n b):=by
 rw[List.getElem?_zipWith,c,d]
abbrev ac (ps:Mq Mz):Mq W:=ps.map λ(p:Mz)=>W.int (p:MM)
def gJ {k p:Mz}(h:ps[k]?=gV p):(ac ps)[k]?=gV (.int p):=by(delta ac;simp[h])
def aB (bs:Mq MM)(u:Wd)(ps:Mq Mz):(ae bs u ps).length=↥ps:=by unfold ae;rw[Mr,MX]
def cN {u:Wd}(hi:i<↥u):(u.map aH)[(i:MM).toNat]?=gV (aH (u.getD i (0,[]))):=by
 rw[M0,MD,aq hi];rfl
section
variable{defs:Mq (M2×Df)}{fuel d:Mz}{S:aa}{r:Mz}{Q:QW}
def Au {Q:QO}(s:GoodB bs)(hl:↥n=↥bs)(m:GoodW a ↥bs u)(hi:i<↥u)(p:j<↥u)(x:i≠j)(k:Q (.rt (.int (bg bs u i j)),S)) :
  wZ M fuel di [gV (.tup [m0,.tup (MR aK n bs),b0]),gV (az u),gV (.int i),gV (.int j)] S Q:=by
 have l:=aq (d:=(0,[])) hi;have f:=aq (d:=(0,[])) p;unfold bg at k;delta di;nofun
 delta wS wT wE wV wG Ly wO wB az;show ap (Q0:=Q) (λh q _ y=>?_) (λh q g _=>?_)
 ·have c:j<i:=by have:=NF h;omega
  rw[M4 c]at k;have hw:j<(u.getD i (0,[])).2.length:=by rw[m.len i _ l];show c
  show st ?_;delta wS wE wV wG;show af (MK i) (cN hi) (af #v[] rfl (af (MK j) ?_ (y _ _ k)))
  rw[M0,MD,aq (d:=0) hw];rfl
 ·have c:¬ j<i:=by have:=Qs h;omega
  rw[Nm c]at k;show ba (g _ _ (hK _ _ ?_));clear g hK;have hw:i<(u.getD j (0,[])).2.length:=by rw[m.len j _ f];omega
  have o:=aq (d:=0) hw;obtain⟨r,z⟩:=m.way j _ f _ (MQ o);obtain⟨b,e,t,w⟩:=s.rng ((u.getD j (0,[])).2.getD i 0).toNat ∅
  have g:((u.getD j (0,[])).2.getD i 0).toNat<↥n:=∅
  rw[getD_some e]at k;show st ?_;delta wS wE wV wG;show af #v[] rfl (af (MK j) (cN p) (af #v[] rfl (af (MK i) ?_ (af r (lQ (MC g) e) (af #v[] rfl k)))))
  rw[M0,MD,o];rfl
def og (G:Gen defs)(f:GoodB bs)(hl:↥c=↥bs)(h:GoodW a ↥bs u)(hi:i<↥u)(g:j<↥u)(b:i≠j)(k:Q (.int (bg bs u i j),S)) :
  wO (aL (ar defs fuel (d+1)) "_law_between" 4 [.tup [m0,.tup (MR aK c bs),b0],az u,.int i,.int j] S) Q:=
 ay G.between rfl rfl λl e=>Au f hl h hi g b (e _ _ k)
def Av (G:Gen defs)(L:GoodB bs)(hl:↥n=↥bs)(N:GoodW a ↥bs u)(g:∀p∈ps,p<↥u)(y:ps.Nodup)(hsz:↥ps<1000)(k:∀b,Ka S b->Q (az (ae bs u ps),b)) :
  wO (aL (ar defs fuel (d+2)) "_law_part" 3 [.tup [m0,.tup (MR aK n bs),b0],az u,.tup (ac ps)] S) Q:=by
 show ay G.part rfl rfl λH J=>?_
 replace k:=λb a=>J _ _ (k b a)
 change wZ _ _ d6 [gV (.tup [m0,.tup (MR aK n bs),b0]),gV (az u),gV (.tup (ac ps)),td,td,td] S H;generalize x:W.tup [m0,.tup (MR aK n bs),b0]=R;show st ?_;left;nofun
 have P:(ac ps).length=↥ps:=Mr ..;show bN ↥ps (λk Z b=>∃s t,Z=[gV R,gV (az u),gV (.tup (ac ps)),gV (.ref ↥S),s,t]/\b[↥S]?=gV (.lst (((ae bs u ps).take k).map aH))/\Ka S b) rfl rfl ∅ ?_ ?_ ?_
 ·left;show aC ?_;rw[P];show#[rfl,td,td,rfl,ag,.push]
 ·rintro i Z S1 hi ⟨s,t,rfl,e,B⟩ T M _;have c:i<↥ps:=by show QY.mp ‹_›
  have E:=MC c;have l:=g _ (NC c);show st ?_;show af (MK i) (by rw[M0];show gJ E) ?_
  show st ?_;left;show#[cD e,af (MK _) (cN l) (af #v[] rfl ?_)]
  show vP (ac (ps.take i)) (λj ys r o=>(∃C,r=[td,C,gV (.int ps[i]),gV R,gV (az u)])/\ys=((ps.take i).take j).map (λq=>W.int (bg bs u ps[i] q))/\Ka S1 o) rfl rfl rfl ?_ ?_ ?_
  ·delta wE wP wV wG wN;show ab (a:=(.tup (ac (ps.take i)),S1)) ?_ #[rfl,#[td,rfl],rfl,.refl];revert qe dy;unfold ac;rw[OR]
  ·rintro j w ys r o hw ⟨⟨C,rfl⟩,rfl,m⟩;have f:j<(ps.take i).length:=by
    have:=(MP.mp hw).1;unfold ac at this
    rwa [Mr]at this
   have A:=MC f;cases(gJ A).symm.trans hw;have U:j<i:=by rw[M6]at f;omega
   have eq:(ps.take i)[j]=ps[j]'(by show Oa ‹_› ‹_›):=Ou
   generalize(ps.take i)[j]=q at A eq ⊢;show ab rfl ?_;delta wC;subst x;show#[λ_=>og  G L hl N l (by rw[eq];show g _ (NC _)) ?_ #[#[_,rfl],?_,m],λz=>by cases z]
   ·rw[eq];intro h;have:=(Od y).mp h;omega
   ·rw[Nd,A];simp
  ·rintro ys r o ⟨_,rfl,m⟩;rw[show(ac (ps.take i)).length=(ps.take i).length from Mr ..,Nl]
   show#[jC (by rw[Mr,M6];omega),cH ag ?_]
   have D:=aw (u:=O.lst ((ps.take i).map λq=>W.int (bg bs u ps[i] q))) (m.get _ _ e)
   show j9 D (by rw[Mr,M6];omega) (ba (M _ _ #[_,_,rfl,?_,((B.trans m).trans .push).late (MH _)]))
   rw[aZ D];have I:(ae bs u ps)[i]?=gV ((u.getD ps[i] (0,[])).1,(ps.take i).map λq=>bg bs u ps[i] q):=by
    unfold ae;rw[MD,NQ c,Nb,getD_some E]
   rw[Nd,I];simp[aH,QF]
 ·rintro Z S1 ⟨s,t,rfl,e,B⟩;rw[M0,<- aB bs u ps,Nl]at e;show hK _ _ (st ?_);left;show cH e (k _ B)
def kK (G:Gen defs)(k:Q (.ref ↥S,S++[.lst (au.map λt=>W.tup (ac t))])):wO (aL (ar defs fuel (d+1)) "_law_turns" 0 [] S) Q:=by
 show ay G.turns rfl rfl λb a=>?_
 show st ?_;left;show a _ _ k
def de (bt:Mz->Mz->M9):∀n:Mz,argBest bt n<=n
 |0=>MH _
 |n+1=>by have:=de bt n;revert argBest;split<;>omega
def rF (G:Gen defs)(s:GoodB bs)(hl:↥m=↥bs)(x:GoodW a ↥bs u)(q:↥u=3)(k:∀g,Ka S g->Q (az (dc bs u),g)) :
  wO (aL (ar defs fuel (d+3)) "_law_figure" 2 [.tup [m0,.tup (MR aK m bs),b0],az u] S) Q:=by
 show ay G.figure rfl rfl λA r=>?_
 replace k:=λg a=>r _ _ (k g a)
 generalize j:W.tup [m0,.tup (MR aK m bs),b0]=R;show st ?_;left;show vQ ↥S (au.map λt=>W.tup (ac t)) (λi ys h c=>(∃n,h=[td,n,gV R,gV (az u)])/\ys=((au.take i).map λt=>az (ae bs u t))/\Ka (S++[.lst (au.map λt=>W.tup (ac t))]) c) rfl rfl rfl ?_ ?_ ?_ ?_
 ·show kK  G #[rfl,#[td,rfl],rfl,.refl]
 ·rintro i ys h c ⟨_,_,f⟩;show f.get _ _ ag
 ·rintro i w ys h c hw ⟨⟨n,rfl⟩,rfl,f⟩;rw[MD,Mv]at hw;obtain⟨t,o,rfl⟩:=hw;have b:(∀p∈t,p<3)/\t.Nodup/\↥t<1000:=by
   have:∀t∈au,(∀p∈t,p<3)/\t.Nodup/\↥t<1000:=by decide
   show this t (MQ o)
  show ab rfl ?_;delta eS wC;subst j;show#[λ_=>Av  G s hl x (λp v=>by rw[q];show b.1 p v) b.2.1 b.2.2 λB y=>#[#[_,rfl],?_,f.trans y],λz=>by cases z]
  rw[Nd,o];simp
 ·rintro ys h c ⟨_,rfl,f⟩;have e:((au.take (au.map λt=>W.tup (ac t)).length).map λt=>az (ae bs u t))=(au.map (ae bs u)).map az:=by
   rw[Mr,Nl,Nj];rfl
  rw[e];show#[i6 rfl,ab (a:=(az (dc bs u),c++[.lst ((au.map (ae bs u)).map az)])) ?_ (k _ ((Ka.push.trans f).trans .push))]
  (delta Bi.fn zh;simp only[aD ag,E6])
  rw[M4 #[by have:=jD (au.map (ae bs u));unfold eG;omega,gI _]]
  unfold dc;have l:im ((au.map (ae bs u)).map cJ)<(au.map (ae bs u)).length:=Rm (de _ _) (by decide:5<6)
  rw[MD,aq  l];rfl
end
abbrev aj (xs:Mq MM):Mq W:=xs.map W.int
abbrev hX (us:Mq Wd):Mq Wd:=eY (yg (us.map cJ)) [] us
def Aw {f:α->β}:eY lt d' (us.map f)=(eY lt d us).map f:=by
 unfold eY;rw[Mr];split
 ·rfl
 ·rw[Nj];show Nw λi hi=>?_
  have hl:=pf ∅ i hi
  simp[hl]
def tX {us:Mq Wd}(h:fB S x=gV (us.map az))(a:↥us<64)(b:∀u∈us,u≠[]):iR [x] S=gV (.ref ↥S,S++[.lst ((hX us).map az)]):=by
 have ok:pe (us.map cJ)=true:=by
  unfold pe;revert MB Oz M8 Mr;show#[#[a,by have:=jD us;unfold eG;show M1 ‹_› (Ni rfl)],.inr #[G6 us b,gI us]]
 revert iR h E6;rw[M4 ok,Aw ];rfl
abbrev d7 (a b:Mq M2)(bs:Mq MM)(us:Mq Wd):W:=.tup [.tup (a.map W.str),.tup (MR aK b bs),.tup (us.map az)]
structure GoodN (ms ns:Mq M2):Prop where
 name:∀y∈ms++ns,Name y
 nd:(tR++(ms++ns)).Nodup
def GoodW.nil :GoodW a n []:=#[λk p h=>(by simp at h),λk p h=>(by simp at h),λk p h=>(by simp at h)]
def GoodW.snoc {m:MM}(h:GoodW a n u)(c:0<=m/\m<a)(d:↥ws=↥u)(f:∀w∈ws,0<=w/\w<(n:MM)):GoodW a n (u++[(m,ws)]):=by
 have b:∀k p,(u++[(m,ws)])[k]?=gV p->u[k]?=gV p\/(k=↥u/\p=(m,ws)):=λk p e=>by
  rcases RW k ↥u with hk|hk
  ·rw[No hk]at e;show .inl e
  ·rw[Nt hk]at e;have:=by
    have:=(MP.mp e).1;simp at this;show ‹_›
   rw[this]at e;cases e;show .inr #[∅,rfl]
 show#[λk p e=>?_,λk p e=>?_,λk p e=>?_]<;>rcases b k p e with e|⟨rfl,rfl⟩
 ·show h.mark k p e
 ·show c
 ·show h.len k p e
 ·show d
 ·show h.way k p e
 ·show f
def GoodB.inv (h:GoodB bs):∀k:Mz,k<↥bs->bs.getD (bs.getD k 0).toNat 0=k:=by
 rcases h with rfl|rfl|rfl|rfl|rfl|rfl<;>decide
def GoodB.at (h:GoodB bs){x:MM}(d:0<=x)(e:x<↥bs):bs[x.toNat]?=gV (bs.getD x.toNat 0)/\0<=bs.getD x.toNat 0/\bs.getD x.toNat 0<↥bs:=by
 obtain⟨b,a,c⟩:=h.rng x.toNat ∅
 rw[getD_some a];show#[a,c]
def Ax {us:Mq Wd}{Q:QW}(h:fB S x=gV (us.map az))(a:↥us<64)(b:∀u∈us,u≠[])(q:Q (.ref ↥S,S++[.lst ((hX us).map az)])):wO (Bi.sorted.fn [x] S) Q:=by
 show ab ?_ q;show tX h a b
abbrev Ay:Mq (Mz×Mz):=[(1,1),(2,1),(3,1),(1,2),(1,2),(2,2),(2,2),(3,2),(1,3),(1,3),(2,3)]
def Az:∀p∈Ay,1<=p.1/\p.1<=3/\1<=p.2/\p.2<=3/\p.1*p.2<=6:=by decide
abbrev lR:Mz->Mq (Mq MM)
 |1=>[[0]]
 |2=>[[0,1],[1,0]]
 |_=>[[0,1,2],[1,0,2],[0,2,1]]
def AA:∀n:Mz,1<=n->n<=3->(∀b∈lR n,GoodB b/\↥b=n)/\0<(lR n).length/\(lR n).length<=3
 |1,_,_=>#[λb h=>by cases MS.mp h;show#[.inl rfl,rfl],#v[],#v[]]
 |2,_,_=>#[λb h=>by
   rcases M5.mp h with rfl|h
   ·show#[.inr (.inl rfl),rfl]
   ·cases MS.mp h;show#[.inr (.inr (.inl rfl)),rfl],#v[],#v[]]
 |3,_,_=>#[λb h=>by
   rcases M5.mp h with rfl|h
   ·show#[.inr (.inr (.inr (.inl rfl))),rfl]
   ·rcases M5.mp h with rfl|h
    ·show#[.inr (.inr (.inr (.inr (.inl rfl)))),rfl]
    ·cases MS.mp h;show#[.inr (.inr (.inr (.inr (.inr rfl)))),rfl],#v[],#v[]]
 |0,h,_=>absurd h #v[]
 |n+4,_,h=>absurd h ∅
section
variable{defs:Mq (M2×Df)}{fuel d:Mz}{S:aa}{r:Mz}{Q:QW}
def DT (G:Gen defs)(b:Fl S r)(k:∀(a n:Mz) S',1<=a->a<=3->1<=n->n<=3->a*n<=6->Fl S' r->Kp r S S'->Q (.tup [.int a,.int n],S')) :
  wO (aL (ar defs fuel (d+2)) "_law_sizes" 1 [.ref r] S) Q:=by
 show ay G.sizes rfl rfl λs l=>?_
 show st ?_;left;show st ?_;left;show bP  G.pick (b.ka .push) #v[] #v[] λv S1 q t j c=>?_
 have e:=c.get _ _ (NR b.lt) ag;obtain⟨p,m,i⟩:=pR (f:=λp=>W.tup [.int p.1,.int p.2]) (xs:=Ay)  (by change v.toNat<11;omega)
 obtain⟨g,h,o,n3,an⟩:=Az p m;show j8 e q i (l _ _ (k _ _ _ g h o n3 an j (Kp.push.trans c)))
def DU (G:Gen defs)(l:Fl S r)(y:1<=n)(A:n<=3)(k:∀ bs f,GoodB bs->↥bs=n->Fl f r->Kp r S f->Q (.tup (aj bs),f)) :
  wO (aL (ar defs fuel (d+2)) "_law_backs" 2 [.ref r,.int n] S) Q:=by
 show ay G.backs rfl rfl λo B=>?_
 replace k:=λz f a b c e=>B _ _ (k z f a b c e)
 change wZ _ _ _ [gV _,gV _,td] S o;nofun
 left;obtain⟨g,w,x⟩:=AA n y A;have fin:∀t S1,↥S<=t->S1[t]?=gV (.lst ((lR n).map λb=>.tup (aj b)))->Ka S S1->K [gV (.ref r),gV (.int n),gV (.ref t)] S1:=by
  intro t S1 D h ka;show hK _ _ (st ?_);left;show hW h ?_;rw[Mr];show bP  G.pick (l.ka ka) ∅ ∅ λv p C E u m=>?_
  have q:=m.get _ _ (by have:=l.lt;omega) h
  obtain⟨b,j,s⟩:=pR  (xs:=lR n) (i:=v.toNat) ∅
  show j8 q C s (k b p (g b j).1 (g b j).2 u ((ka.kp r).trans m))
 clear hK w x g;rcases(show n=1\/n=2\/n=3 by omega)with rfl|rfl|rfl
 ·show dL  ag rfl (fin _ _ (MH _) (aw (aw (aw ag))) (Ka.push.trans (Ka.push.trans (Ka.push.trans .push))))
 ·show dL  ag rfl (fin _ _ (by simp) (aw (aw ag)) (Ka.push.trans (Ka.push.trans (Ka.push.trans .push))))
 ·show dL  ag rfl (fin _ _ (by revert Mt;omega) (aw ag) (Ka.push.trans (Ka.push.trans (Ka.push.trans .push))))
def oh (o:20<fuel)(G:Gen defs){us:Mq Wd}(J:Fl S r)(R:a<=3)(T:↥bs<=3)(M:∀g,Kp r S g->fB g x=gV (us.map az))(m:↥us<64)(p:∀u∈us,u≠[])
  (k:∀ s t g,↥s=a->↥t=↥bs->GoodN s t->Fl g r->Kp r S g->Q (d7 s t bs (hX us),g)) :
  wO (aL (ar defs fuel (d+5)) "_law_rule_of" 4 [.ref r,.int a,.tup (aj bs),x] S) Q:=by
 show ay G.rule_of rfl rfl λD I=>?_
 replace k:=λz y g a b c e f=>I _ _ (k z y g a b c e f)
 change wZ _ _ eT [gV (.ref r),gV (.int a),gV (.tup (aj bs)),gV x,td,td] S D;have n:(aj bs).length=↥bs:=Mr ..;nofun
 left;show aC ?_;show DS   o G J ∅ λys S1 U N P H C=>hK _ _ ?_
 have q:(MR aK (ys.drop a) bs).length=↥bs:=by
  rw[Oq,QN];omega
 nofun
 left;show gH ↥bs (λk v l h=>(∃A,l=[td,A,gV (.tup (aj bs)),gV (.int a),gV (.tup (ys.map W.str))])/\v=((MR aK (ys.drop a) bs).take k)/\h=S1) rfl rfl rfl ∅ ?_ ?_ ?_
 ·left;show aC ?_;rw[n];show#[rfl,#[td,rfl],rfl,rfl]
 ·rintro i v l h hi ⟨⟨A,rfl⟩,rfl,rfl⟩;have j:i<↥bs:=by show QY.mp ‹_›
  have B:a+i<↥ys:=∅
  delta eS wC wE wA wV wG Mx g9 dj;show#[λ_=>af ∅ (w:=.str ys[a+i]) ?_ (af (by show MK _) (w:=.int bs[i]) ?_ #[#[_,rfl],?_,rfl]),λz=>by cases z]
  ·rw[show(a+(i:MM)).toNat=a+i by omega,MD,MC B];rfl
  ·unfold aj;rw[M0,MD,MC j];rfl
  ·have E:=lQ (by rw[List.getElem?_drop];show MC B) (MC j)
   rw[Nd,E];rfl
 ·rintro v l h ⟨_,rfl,rfl⟩;rw[M0,<- q,Nl];show#[jC ∅,cH ag (hK _ _ ?_)]
  clear hK K;show st ?_;delta wS wE wA wP wV wG wN;have L:qe (.tup (ys.map W.str)) td (gV a) (h++[O.lst (MR aK (ys.drop a) bs)])=gV (.tup ((ys.take a).map W.str),h++[O.lst (MR aK (ys.drop a) bs)]):=by
   revert qe dy;rw[OR]
  show ab L (Ax (M _ (C.trans .push)) m p (cH ag ?_));show k (ys.take a) (ys.drop a) _ ?_ ?_ #[?_,?_] ((H.ka .push).ka .push) (C.trans (Kp.push.trans .push))
  ·rw[M6];omega
  ·rw[QN];omega
  ·rw[QK];show N
  ·rw[QK];show P
def lS (b:20<fuel)(G:Gen defs)(i:Fl S r)(f:a<=3)(g:↥bs<=3)
  (k:∀ c e S',↥c=a->↥e=↥bs->GoodN c e->Fl S' r->Kp r S S'->Q (d7 c e bs [],S')) :
  wO (aL (ar defs fuel (d+5)) "_law_rule_of" 4 [.ref r,.int a,.tup (aj bs),.tup []] S) Q:=
 oh b G i f g (us:=[]) (λ_ _=>rfl) #v[] (λ_ h=>nomatch h) k
def draws {d :E}{n i:Mz}{R:Fm}(A:dw d=true)(B:dw e=true)(H:i<=1000)(hc:eu g Z=td::td::R)(u:Fl S r)(t:∀Q:QW,Q (.int i,S)->wE M e Z S Q)
  (x:∀ a S1 Q,Fl S1 r->(∀v c,0<=v->v<(n:MM)->Fl c r->Kp r S1 c->Q (.int v,c))->wE M d (td::a::R) S1 Q)
  (k:∀(vs:Mq MM) c,↥vs=i->(∀w∈vs,0<=w/\w<n)->Fl c r->Kp r S c->Q (.ref ↥c,c++[.lst (aj vs)])) :
  Wp (aE M (.comp d (.nm 1) (.rng #v[e]) .nil g) Z S) Q:=by
 show gH (i:MM) (λj ys l f=>(∃q,l=td::q::R)/\(∃vs:Mq MM,ys=aj vs/\↥vs=j/\∀w∈vs,0<=w/\w<(n:MM))/\Fl f r/\Kp r S f) B A rfl ∅ (t _ #[rfl,#[td,hc],#[[],rfl,rfl,λ_ h=>nomatch h],u,.refl]) ?_ ?_
 ·rintro j ys l f I ⟨⟨q,rfl⟩,⟨vs,rfl,b,o⟩,m,p⟩;show#[λ_=>x _ _ _ m λv G C D s y=>#[#[_,rfl],#[vs++[v],(MZ (l₁:=vs) (l₂:=[v])).symm,by rw[Mt,b];rfl,λw hw=>?_],s,p.trans y],λz=>by cases z]
  rcases Na.mp hw with h|h
  ·show o w h
  ·rw[MS.mp h];show#[C,D]
 ·rintro ys l f ⟨_,⟨vs,rfl,b,o⟩,m,p⟩;rw[M0]at b;show#[jC (by rw[show(aj vs).length=↥vs from Mr ..];omega),k vs f b o m p]
def pS (G:Gen defs)(y:Fl S r)(V:0<a)(I:a<=3)(W:0<n)(J:n<=3)(k:∀ u g,↥u=3->GoodW a n u->Fl g r->Kp r S g->Q (az u,g)) :
  wO (aL (ar defs fuel (d+2)) "_law_free_three" 3 [.ref r,.int a,.int n] S) Q:=by
 show ay G.free_three rfl rfl λP H=>?_
 replace k:=λz g a b c e=>H _ _ (k z g a b c e)
 have p:=y.lt;show st ?_;left;nofun
 show bN 3 (λk Z g=>∃l u,Z=[gV _,gV _,gV _,gV _,l]/\g[↥S]?=gV (.lst (u.map aH))/\↥u=k/\GoodW a n u/\Fl g r/\Kp r S g) rfl rfl #v[] #[rfl,td,[],rfl,ag,rfl,.nil,y.ka .push,.push] ?_ ?_
 ·rintro i Z S1 hi ⟨l,u,rfl,j,h,s,m,w⟩ R o _;show st ?_;left;show#[cD j,bP  G.pick m ∅ ∅ λv T M N D A=>?_]
  have C:=A.get _ _ ∅ j
  show draws    rfl rfl ∅ rfl D (λQ q=>q) (λa S1 Q f q=>bP  G.pick f ∅ ∅ q) λvs U t L E B=>?_
  have x:=aw (u:=O.lst (aj vs)) (B.get _ _ ∅ C)
  show cH ag (j9 x (by rw[Mr];omega) (ba (o _ _ #[_,u++[(v,vs)],rfl,?_,by rw[Mt,h];rfl,s.snoc #[M,N] (t.trans h.symm) L,(E.ka .push).own p,(w.trans (A.trans (B.trans .push))).late (MH _)])))
  rw[aZ x,MZ];rfl
 ·rintro Z S1 ⟨l,u,rfl,j,h,s,m,w⟩;show hK _ _ (st ?_);show cH j (k u _ h s m w)
end
abbrev fO (n:Mz):Mq MM:=(MJ n).map λ(k:Mz)=>(k:MM)
abbrev rG (a n:Mz):Mq Wd:=(fO a).flatMap λm0=>(fO a).flatMap λb=>(fO a).flatMap λc=>(fO n).flatMap λd=>(fO n).flatMap λw2=>(fO n).map λw3=>[(m0,[]),(b,[d]),(c,[w2,w3])]
abbrev aW (a:Mz)(bs:Mq MM):Mq Wd:=((rG a ↥bs).map (dc bs)).eraseDups
def aM {n:Mz}{x:MM}(a:0<=x)(b:x<n):x∈fO n:=MN.mpr #[x.toNat,ML.mpr ∅,∅]
def xH (h:GoodW a n u)(k:↥u=3):u∈rG a n:=by
 match u,k with
 |[(m0,o),(l,p),(m,w2)],_=>
  have g:=h.len 0 _ rfl;have i:=h.len 1 _ rfl;have j:=h.len 2 _ rfl;simp only at g i j
  match o,g with
  |[],_=>
   match p,i with
   |[x],_=>
    match w2,j with
    |[y,z],_=>
     have b:=h.mark 0 _ rfl;have c:=h.mark 1 _ rfl;have d:=h.mark 2 _ rfl;have e:=h.way 1 _ rfl x (by simp)
     have b2:=h.way 2 _ rfl y (by simp)
     have f:=h.way 2 _ rfl z (by simp)
     unfold rG;revert NM MN;show#[m0,aM b.1 b.2,l,aM c.1 c.2,m,aM d.1 d.2,x,aM e.1 e.2,y,aM b2.1 b2.2,z,aM f.1 f.2,rfl]
def DV (h:GoodW a ↥bs u)(b:↥u=3):dc bs u∈aW a bs:=by
 unfold aW;rw[Qt];show MN.mpr #[u,xH h b,rfl]
structure SizeOk (a:Mz)(bs:Mq MM):Prop where
 pos:0<a
 good:GoodB bs
 most:a*↥bs<=6
 a3:a<=3
def SizeOk.n3 (h:SizeOk a bs):0<↥bs/\↥bs<=3:=by
 rcases h.good with rfl|rfl|rfl|rfl|rfl|rfl<;>decide
def HX:(aW 1 [0]).length<64/\(aW 2 [0]).length<64/\(aW 3 [0]).length<64:=by decide +kernel
def Kv:(aW 1 [0,1]).length<64/\(aW 2 [0,1]).length<64/\(aW 1 [1,0]).length<64/\(aW 2 [1,0]).length<64:=by decide +kernel
def JX:(aW 1 [0,1,2]).length<64/\(aW 1 [1,0,2]).length<64/\(aW 1 [0,2,1]).length<64:=by decide +kernel
def LB:(aW 3 [0,1]).length<64:=by decide +kernel
def LC:(aW 3 [1,0]).length<64:=by decide +kernel
def LD:(aW 2 [0,1,2]).length<64:=by decide +kernel
def LF:(aW 2 [1,0,2]).length<64:=by decide +kernel
def LG:(aW 2 [0,2,1]).length<64:=by decide +kernel
def pT (h:SizeOk a bs):(aW a bs).length<64:=by
 obtain⟨e,d,b,f⟩:=h;have c:a=1\/a=2\/a=3:=∅
 rcases d with rfl|rfl|rfl|rfl|rfl|rfl<;>rcases c with rfl|rfl|rfl
 ·show HX.1
 ·show HX.2.1
 ·show HX.2.2
 ·show Kv.1
 ·show Kv.2.1
 ·show LB
 ·show Kv.2.2.1
 ·show Kv.2.2.2
 ·show LC
 ·show JX.1
 ·show LD
 ·simp at b
 ·show JX.2.1
 ·show LF
 ·simp at b
 ·show JX.2.2
 ·show LG
 ·simp at b
def i8 (bs:Mq MM)(u:Wd):∃t∈au,dc bs u=ae bs u t:=by
 have b:(au.map (ae bs u)).length=6:=by rw[Mr];rfl
 have f:((au.map (ae bs u)).map cJ).length=6:=by rw[Mr,b]
 have a:im ((au.map (ae bs u)).map cJ)<(au.map (ae bs u)).length:=by
  unfold im;have d:=de (yg ((au.map (ae bs u)).map cJ)) (((au.map (ae bs u)).map cJ).length-1);rw[b];omega
 unfold dc;rw[getD_some (MC a)];obtain⟨t,c,e⟩:=MN.mp (NC a);show#[t,c,e.symm]
def DW (bs:Mq MM)(u:Wd):dc bs u≠[]:=by
 obtain⟨t,a,e⟩:=i8 bs u;rw[e];have:∀t∈au,t≠[]:=by decide
 have h:=this t a;intro z;have hl:(ae bs u t).length=↥t:=by(delta ae;simp)
 rw[z]at hl;show h (Px.mp hl.symm)
def rH:∀{xs ys:Mq MM},xs.map T.int=ys.map T.int->xs=ys
 |[],[],_=>rfl
 |[],_::_,h=>by cases h
 |_::_,[],h=>by cases h
 |x::xs,y::ys,h=>by
  injection h with h1 h2
  injection h1 with h1
  rw[h1,rH h2]
def DX (h:jg p=jg q):p=q:=by
 injection h with h
 injection h with h1 h2
 injection h1 with h1
 injection h2 with h2 _
 injection h2 with h2
 show V7 h1 (rH h2)
def eJ (h:cJ u=cJ v):u=v:=by
 injection h with h
 have inj:∀{u v:Wd},u.map jg=v.map jg->u=v:=by
  intro u
  induction u with
  |nil=>intro v h;cases v with
   |nil=>rfl
   |cons _ _=>cases h
  |cons p u ih=>intro v h;cases v with
   |nil=>cases h
   |cons q v=>
    injection h with h1 h2
    rw[DX h1,ih h2]
 show inj h
def gK :(dY U k v).map (·.1)=if k∈U.map (·.1)then U.map (·.1)else U.map (·.1)++[k]:=by
 have a:(U.any λp=>decide (p.1=k))=decide (k∈U.map (·.1)):=by
  induction U with
  |nil=>rfl
  |cons p U ih=>
   rw[Oj,ih,NL]
   by_cases e:p.1=k
   ·subst e;simp
   ·rw[Nk e,QS];have:(k∈p.1::U.map (·.1))=(k∈U.map (·.1)):=by simp[Ne.symm e]
    revert this
 unfold dY;rw[a]
 by_cases h:k∈U.map (·.1)
 ·rw[M4 h,M4 (NB h),Nj];show Nw λp _=>?_
  show(if p.1=k then(p.1,v)else p).1=p.1
  split<;>rfl
 ·rw[Nm h,Nm (by simpa using h),MZ]
  rfl
structure FigD (L:Mq Wd)(U:Mq (T×W))(fs:Mq Wd):Prop where
 keys:U.map (·.1)=fs.map cJ
 nd:fs.Nodup
 mem:∀f∈fs,f∈L
def FigD.nil :FigD L [] []:=#[rfl,Sz,λ_ h=>nomatch h]
def FigD.len (h:FigD L U a):↥U=↥a/\↥a<=↥L:=by
 have:=congrArg Vs h.keys;rw[Mr,Mr]at this;show#[this,cM a L h.nd h.mem]
def FigD.put (h:FigD L U c)(m:f∈L):∃d,FigD L (dY U (cJ f) v) d:=by
 by_cases j:f∈c
 ·show#[c,?_,h.nd,h.mem];rw[gK,M4 (by rw[h.keys];show MN.mpr #[f,j,rfl]),h.keys]
 ·show#[c++[f],?_,?_,λg i=>?_]
  ·rw[gK,Nm,h.keys,MZ]
   ·rfl
   ·rw[h.keys];intro z;obtain⟨g,i,e⟩:=MN.mp z;show j (eJ e▸i)
  ·rw[OH];show#[h.nd,by simp,λa k b l e=>?_]
   rw[MS.mp l]at e;show j (e▸k)
  ·rcases Na.mp i with h'|h'
   ·show h.mem g h'
   ·rw[MS.mp h'];show m
def FigD.items (h:FigD L U a)(e:S[t]?=gV (.dic U)):fB S (.ref t)=gV (a.map az):=by
 simp only[fB,pP e,bW e,Nb];congr 1;have:(U.map (·.1)).map T.w=(a.map cJ).map T.w:=by rw[h.keys]
 rw[Nj,Nj]at this
 calc U.map (λp=>p.1.w)=U.map _:=rfl
  _=a.map _:=this
  _=a.map az:=by
   show Nw λf _=>?_
   show Aq f
def AB (h:f∈aW a bs):f≠[]:=by
 unfold aW at h;rw[Qt]at h;obtain⟨u,_,rfl⟩:=MN.mp h;show DW bs u
def AC (h:S[t]?=gV (.dic U))(hl:↥U<sizeLine):ik (.ref t) (az u) v S=gV (S.set t (.dic (dY U (cJ u) v))):=by
 have hk:=G4 u;unfold az at hk ⊢
 (delta ik o9;revert h hk)
 rw[M4 hl]
structure RuleAt (a:Mz)(bs:Mq MM)(ms ns:Mq M2)(gs:Mq Wd):Prop where
 size:SizeOk a bs
 ml:↥ms=a
 nl:↥ns=↥bs
 nm:GoodN ms ns
 nd:gs.Nodup
 mem:∀g∈gs,g∈aW a bs
abbrev G7 (w:W):Prop:=∃a bs c d b,w=d7 c d bs (hX b)/\RuleAt a bs c d b
section
variable{M:M2->FF}{fuel:Mz}{Z:Fm}{S:aa}{K:Fm->aa->Prop}{Q:QO}
def lT (m:dw e=true)(ok:gW b=true)(h:wE M e Z S λp=>∃(j:MM) (I:Mz->Fm->aa->Prop),p.1=.int j/\(-(2^62)<=j/\j<2^62)/\I 0 Z p.2/\
  (∀(i:Mz) Z S,i<j->I i Z S->Ak M fuel b (Z.set d (gV (.int i))) S (I (i+1)) Q)/\∀Z S,I j.toNat Z S->K Z S):Wp (gF M fuel (.loop (.nm d) (.rng #v[e]) b) Z S) (tQ K Q):=by
 obtain⟨w,S1,f,j,I,rfl,k,g,l,a⟩:=bM m h;have hl:(eP 0 j.toNat).length=j.toNat:=by simp[eP]
 show iA (mi:=.its (eP 0 j.toNat)) (S1:=S1) (xs:=eP 0 j.toNat) I ok ?_ (λ_ _ _ _=>rfl) rfl g (λi w Z S hw c=>?_) λZ S c=>a Z S (hl▸c)
 ·revert jt cV cU ip qY f;rw[M4 k]
 ·rw[d0]at hw;split at hw
  ·rename_i hk;cases hw;rw[QH];show l i Z S ∅ c
  ·cases hw
def d8 (k:dw e=true)(ok:gW b=true)(g:wE M e Z S λp=>∃(t:Mz) (xs:Mq W) (I:Mz->Fm->aa->Prop),p.1=.ref t/\I 0 Z p.2/\(∀i Z S,I i Z S->S[t]?=gV (.lst xs))/\
  (∀ i w Z S,xs[i]?=gV w->I i Z S->wO (lH tg w Z S) λq=>Ak M fuel b q.1 q.2 (I (i+1)) Q)/\∀Z S,I ↥xs Z S->K Z S):Wp (gF M fuel (.loop tg (.seq e) b) Z S) (tQ K Q):=by
 obtain⟨w,S1,f,t,xs,I,rfl,d,a,j,c⟩:=bM k g;show iA (mi:=.live t) (S1:=S1) I ok (by simp only[jt,eI,f,aD (a _ _ _ d)]) (λi Z S h=>by simp only[MI.at,aD (a _ _ _ h)]) (by simp only[MI.len,aD (a _ _ _ d),Nb]) d j c
end
abbrev rJ (t:MM×MM×MM):W:=.tup [.int t.1,.int t.2.1,.int t.2.2]
abbrev JY (a:Mz)(t:MM×MM×MM):Prop:=(0<=t.1/\t.1<a)/\(0<=t.2.1/\t.2.1<a)/\(0<=t.2.2/\t.2.2<a)
abbrev Ris (a:Mz)(t:MM×MM×MM):Prop:=0<=t.1/\t.1<=t.2.1/\t.2.1<=t.2.2/\t.2.2<a
def Ris.ok (h:Ris a t):JY a t:=by
 obtain⟨b,c,d,e⟩:=h;show#[#[∅,∅],#[∅,∅],#[∅,by show ‹_›]]
abbrev AD (k:MM):Wd:=[(k,[]),(k,[0]),(k,[0,0])]
abbrev RuleG (P:Mz->Mq MM->Mq Wd->Prop)(w:W):Prop:=∃a bs c d b,w=d7 c d bs (hX b)/\RuleAt a bs c d b/\P a bs b
def RuleG.rule (h:RuleG P w):G7 w:=let ⟨a,bs,ms,ns,gs,h1,h2,_⟩:=h;#[a,bs,ms,ns,gs,h1,h2]
def RuleG.imp (h:RuleG P w)(k:∀a bs b,P a bs b->c a bs b):RuleG c w:=let ⟨a,bs,ms,ns,b,h1,h2,h3⟩:=h;#[a,bs,ms,ns,b,h1,h2,k _ _ _ h3]
abbrev G8 (_:Mz)(bs:Mq MM)(a:Mq Wd):Prop:=bs=[0]/\∀g∈a,∃k,g=AD k
abbrev AE (a:Mz)(bs:Mq MM)(b:Mq Wd):Prop:=b=[]\/∃f:MM,(0<=f/\f<↥bs)/\bs.getD f.toNat 0=f/\∀g∈b,∃(c:Pt) (m1 w1:MM) (p2:Pt),GoodW a ↥bs [c,(m1,[w1]),p2]/\g=dc bs [c,(m1,[w1]),p2]/\w1≠f/\f∉p2.2
def FigD.has (h:FigD L U b):g∈b↔cJ g∈U.map (·.1):=by
 rw[h.keys];show#[λa=>MN.mpr #[g,a,rfl],λa=>by
  obtain⟨g',c,d⟩:=MN.mp a;show eJ d▸c]
def FigD.putX (h:FigD L U b)(c:f∈L):∃a,FigD L (dY U (cJ f) v) a/\∀g,g∈a↔g∈b\/g=f:=by
 obtain⟨a,h'⟩:=h.put  c;show#[a,h',λg=>?_]
 rw[h'.has,h.has,gK]
 by_cases hk:cJ f∈U.map (·.1)
 ·rw[M4 hk];show#[.inl,λh=>h.elim id λe=>e▸hk]
 ·rw[Nm hk,Na,MS];show#[λh=>h.imp id eJ,λh=>h.imp id λe=>by rw[e]]
def E7 {Q:QW}(o:S[q]?=gV (.dic U))(c:FigD (aW a bs) U g)(m:SizeOk a bs)(h:↥d=a)(i:↥e=↥bs)(j:GoodN d e)(r:P a bs g)(k:∀w l,RuleG P w->Ka S l->Q (w,l)) :
  wO (qf (d7 d e bs b) (.int 0) S) λp=>wO (qf (d7 d e bs b) (.int 1) p.2) λn=>wO (Bi.sorted.fn [.ref q] n.2) λs=>wO (Bi.tuple.fn [s.1] s.2) λz=>Q (.tup [p.1,n.1,z.1],z.2):=by
 show af #v[] rfl (af #v[] rfl ?_)
 have hl:=c.len;show Ax (c.items o) (by have:=pT m;omega) (λf t=>AB (c.mem f t)) (cH ag (k _ _ #[a,bs,d,e,g,rfl,#[m,h,i,j,c.nd,c.mem],r] .push))
def AF (e:S[q]?=gV (.dic U))(f:FigD (aW a bs) U d)(j:SizeOk a bs)(l:GoodW a ↥bs u)(c:↥u=3)
  (k:∀o b,(∃U,(S.set q o)[q]?=gV (.dic U)/\FigD (aW a bs) U b)->(∀g,g∈b↔g∈d\/g=dc bs u)->Q (S.set q o)):wO (ik (.ref q) (az (dc bs u)) (.bl true) S) Q:=by
 have hl:=f.len;have:=pT j;obtain⟨b,h,i⟩:=f.putX  (DV l c);show ab (AC e (by rw[NT];omega)) (k _ b #[_,aZ e,h] i)
def LH:∀k∈fO 1,AD k∈aW 1 [0]:=by decide +kernel
def LI:∀k∈fO 2,AD k∈aW 2 [0]:=by decide +kernel
def LJ:∀k∈fO 3,AD k∈aW 3 [0]:=by decide +kernel
def DY {a:Mz}{k:MM}(d:1<=a)(e:a<=3)(hk:0<=k)(b:k<a):AD k∈aW a [0]:=by
 have c:a=1\/a=2\/a=3:=∅
 rcases c with rfl|rfl|rfl
 ·show LH k (aM hk b)
 ·show LI k (aM hk b)
 ·show LJ k (aM hk b)
def DZ (h:AD a=AD b):a=b:=by
 injection h with h1 h2
 injection h1
def pU:GoodB [0]:=.inl rfl
def E8 (a:S[i]?=gV (.lst xs))(b:S[j]?=gV (.lst [])):bx .eq (.ref i) (.ref j) S=gV (.bl xs.isEmpty,S):=by
 show(ie S _ _ _).map _=_
 (delta ie;simp only[bV a,bV b])
 cases xs with
 |nil=>rfl
 |cons x xs=>rfl
def D0 :bx .notin (.int f) (.tup (aj ws)) S=gV (.bl (!decide (f∈ws)),S):=by
 have b:(aP (.int f)&&(aj ws).all aP)=true:=by
  (delta aP;revert Pp MY)
  intro x c;obtain⟨z,_,rfl⟩:=MN.mp c;rfl
 have a:((aj ws).any λz=>jQ z (.int f))=decide (f∈ws):=by
  unfold aj;rw[Vk,PM,OO,M8];show#[λ#[x,h1,h2]=>by
   have:x=f:=eq_of_beq (show(x==f)=true from h2)
   show this▸h1,λh=>#[f,h,show(f==f)=true from NJ f]]
 change cY _ _ _ S=_;revert cY sS yT cp b Qm Nb a
section
variable{M:M2->FF}{fuel:Mz}{Z:Fm}{S:aa}{K:Fm->aa->Prop}{Q:QO}
def fg (i j:MM)(I:Mz->Fm->aa->Prop)(r:dw a=true)(ob:dw b=true)(ok:gW bd=true)(o : -(2^62)<=i/\i<2^62/\-(2^62)<=j/\j<2^62)(n:wE M a Z S λp=>p.1=.int i/\wE M b Z p.2 λq=>q.1=.int j/\I 0 Z q.2)
  (c:∀(k:Mz) Z S,k<j-i->I k Z S->Ak M fuel bd (Z.set f (gV (.int (i+k)))) S (I (k+1)) Q) (d:∀Z S,I (j-i).toNat Z S->K Z S):Wp (gF M fuel (.loop (.nm f) (.rng2 #v[a,b]) bd) Z S) (tQ K Q):=by
 obtain⟨w,S1,g,rfl,m⟩:=bM r n;obtain⟨w,s,h,rfl,l⟩:=bM ob m;have hl:(eP i (j-i).toNat).length=(j-i).toNat:=by simp[eP]
 show iA (mi:=.its _)   I ok ?_ (λ_ _ _ _=>rfl) rfl l (λk w Z S hw e=>?_) λZ S e=>d Z S (hl▸e)
 ·revert jt cV cU ip iRng2 g h;rw[M4 o]
 ·rw[d0]at hw;split at hw
  ·cases hw;show c k Z S ∅ e
  ·cases hw
def AG {Q:QW}(i j:MM)(I:Mz->Mq W->Fm->aa->Prop)(u:dw a=true)(ob:dw b=true)(x:dw c=true)(oc:mZ g=true)(t : -(2^62)<=i/\i<2^62/\-(2^62)<=j/\j<2^62)(s:wE M a Z S λp=>p.1=.int i/\wE M b Z p.2 λq=>q.1=.int j/\I 0 [] (eu e Z) q.2)
  (d:∀(k:Mz) ys Z S,k<j-i->I k ys Z S->eS M c g (Z.set l (gV (.int (i+k)))) S (λy=>I (k+1) (ys++[y])) (I (k+1) ys))
  (f:∀ys Z S,I (j-i).toNat ys Z S->↥ys<=sizeLine/\Q (.ref ↥S,S++[.lst ys])):Wp (aE M (.comp c (.nm l) (.rng2 #v[a,b]) g e) Z S) Q:=by
 obtain⟨w,S1,m,rfl,r⟩:=bM u s;obtain⟨w,z,n,rfl,o⟩:=bM ob r;have hl:(eP i (j-i).toNat).length=(j-i).toNat:=by simp[eP]
 show jB (mi:=.its _)   I x oc ?_ (λ_ _ _ _ _=>rfl) rfl o (λk w ys Z S hw h=>?_) λys Z S h=>f ys Z S (hl▸h)
 ·revert jt cV cU ip iRng2 m n;rw[M4 t]
 ·rw[d0]at hw;split at hw
  ·cases hw;show d k ys Z S ∅ h
  ·cases hw
end
section
variable{defs:Mq (M2×Df)}{fuel d:Mz}{S:aa}{r:Mz}{Q:QW}
def AH (G:Gen defs)(M:a<=3)(k:∀ q (ts:Mq (MM×MM×MM)) f,f[q]?=gV (.lst (ts.map rJ))->(∀t,t∈ts↔Ris a t)->↥S<=q->Ka S f->Q (.ref q,f)) :
  wO (aL (ar defs fuel (d+1)) "_law_rising" 1 [.int a] S) Q:=by
 show ay G.rising rfl rfl λI E=>?_
 replace k:=λq ts f a b c e=>E _ _ (k q ts f a b c e)
 show st ?_;left;nofun
 show bN a (λi Z f=>∃q ts v l,Z=[gV _,gV (.ref q),v,l]/\f[q]?=gV (.lst (ts.map rJ))/\(∀t,t∈ts↔Ris a t/\t.1<i)/\↥S<=q/\↥ts<=9*i/\Ka S f) rfl rfl ∅ #[rfl,_,[],_,_,rfl,ag,λt=>#[λh=>(nomatch h),λh=>by have:=h.1.1;omega],MH _,Os _,.push] ?_ ?_
 ·rintro i Z S1 hi ⟨q,ts,v,l,rfl,w,n,o,hl,B⟩ J H _;nofun
  show fg i a (λj Z f=>∃q ts l,Z=[gV _,gV (.ref q),gV _,l]/\f[q]?=gV (.lst (ts.map rJ))/\(∀t,t∈ts↔Ris a t/\(t.1<i\/(t.1=i/\t.2.1<i+j)))/\↥S<=q/\↥ts<=9*i+3*j/\Ka S f) rfl rfl rfl ∅ #[rfl,rfl,q,ts,l,rfl,w,λt=>(n t).trans #[λh=>#[h.1,.inl h.2],λh=>#[h.1,h.2.elim id λg=>by have:=h.1.2.1;omega]],o,∅,B] ?_ ?_
  ·rintro j Z C N ⟨q,ts,l,rfl,x,n,o,hl,r⟩ L y _;show st ?_;left;show AG (i+j) a (λm ys u s=>(∃D,u=[td,D,gV (.int i),gV (.int (i+j))])/\(∃us:Mq (MM×MM×MM),ys=us.map rJ/\↥us=m/\∀t,t∈us↔t.1=i/\t.2.1=i+j/\i+j<=t.2.2/\t.2.2<i+j+m)/\s=C) rfl rfl rfl rfl ∅ #[rfl,rfl,#[td,rfl],#[[],rfl,rfl,λ_=>#[λh=>(nomatch h),λh=>∅]],rfl] ?_ ?_
   ·rintro m ys u s O ⟨⟨D,rfl⟩,⟨us,rfl,p,A⟩,rfl⟩;show#[λ_=>#[#[_,rfl],#[us++[((i:MM),(i:MM)+j,(i:MM)+j+m)],by rw[MZ];rfl,by rw[Mt,p];rfl,λt=>?_],rfl],λz=>by cases z]
    obtain⟨P,R,T⟩:=t;rw[Na,MS,A];revert PQ;omega
   ·rintro ys u s ⟨_,⟨us,rfl,p,A⟩,rfl⟩;show#[jC (by rw[Mr];omega),ab (Ae (aw x) ag ?_) (ba (y _ _ #[_,ts++us,_,rfl,?_,λt=>?_,?_,?_,r.trans (Ka.push.trans .push)]))]
    ·show jC ?_;rw[Mt,Mr,Mr];omega
    ·rw[MZ];show ag
    ·rw[Na,n,A];unfold Ris;omega
    ·have:=r.len;revert Mt;omega
    ·rw[Mt];omega
  ·rintro Z C ⟨q,ts,l,rfl,x,n,o,hl,r⟩;show hK _ _ (ba (H _ _ #[q,ts,_,_,rfl,x,λt=>by rw[n];unfold Ris;omega,o,∅,r]))
 ·rintro Z S1 ⟨q,ts,v,l,rfl,w,n,o,hl,B⟩;show hK _ _ (st ?_);show k q ts S1 w (λt=>by rw[n];unfold Ris;omega) o B
def xI (B:20<fuel)(G:Gen defs)(R:Fl S r)(k:∀w n,RuleG G8 w->Fl n r->Kp r S n->Q (w,n)):wO (aL (ar defs fuel (d+6)) "_law_one_way_rule" 1 [.ref r] S) Q:=by
 show ay G.one_way_rule rfl rfl λM L=>?_
 replace k:=λz n a b c=>L _ _ (k z n a b c)
 clear L;change wZ _ _ bO [gV (.ref r),td,td] S M;delta bO;nofun
 left;show bP  G.pick R #v[] #v[] λv S1 v0 v3 P W=>?_
 delta g9 dj;obtain⟨a,O⟩:∃a:Mz,1+v=a:=#[(1+v).toNat,∅]
 rw[O];show hK _ _ ?_;clear hK K;nofun
 left;show gH a (λk I A o=>(∃J,A=[td,J,gV (.ref r)])/\(∃ks:Mq MM,I=(ks.map AD).map az/\ks.Pairwise (·≠·)/\↥ks<=k/\∀x∈ks,0<=x/\x<k)/\Fl o r/\Kp r S1 o) rfl rfl rfl ∅ #[rfl,#[td,rfl],#[[],rfl,.nil,MH _,λ_ h=>(nomatch h)],P,.refl] ?_ ?_
 ·rintro i I A o hi ⟨⟨J,rfl⟩,⟨ks,rfl,j,m,f⟩,p,s⟩;clear hK k;delta eS wC wT wE wA wV wG Mx;show bP  G.pick p #v[] #v[] λv N _ _ q t=>?_
  dsimp only[];show#[λ_=>#[#[_,rfl],#[ks++[(i:MM)],by simp[AD,az,aH],?_,by rw[Mt];show RE m,λx l=>?_],q,s.trans t],λ_=>#[#[_,rfl],#[ks,rfl,j,by show PU ‹_›,λx l=>#[(f x l).1,by have:=(f x l).2;omega]],q,s.trans t]]
  ·rw[List.pairwise_append];show#[j,by simp,λx l y V e=>?_]
   have:=(f x l).2;rw[MS.mp V]at e;omega
  ·rcases Na.mp l with h|h
   ·show#[(f x h).1,by have:=(f x h).2;omega]
   ·rw[MS.mp h];omega
 ·rintro I A o ⟨_,⟨ks,rfl,j,m,f⟩,p,s⟩;rw[M0]at m f;show#[jC (by rw[Mr,Mr];omega),hK _ _ (st ?_)]
  clear hK K;left;have T:=p.lt;show oh   (bs:=[0]) (us:=ks.map AD) B G (p.ka .push) ∅ #v[] (λn X=>?_) (by rw[Mr];omega) (λu U=>by obtain⟨x,_,rfl⟩:=MN.mp U;show Ug _ _) λY Z N D E H q t=>?_
  ·simp only[fB,aD (X.get _ _ (by show NR ‹_›) ag)]
  show k _ _ #[a,[0],Y,Z,ks.map AD,rfl,#[#[∅,pU,by simp;omega,∅],D,E,H,?_,λg C=>?_],rfl,λg C=>let ⟨x,_,e⟩:=MN.mp C;#[x,e.symm]] q (W.trans (s.trans (Kp.push.trans t)))
  ·unfold List.Nodup;rw[Pi];show j.imp λh e=>h (DZ e)
  ·obtain⟨x,l,rfl⟩:=MN.mp C;show DY ∅ ∅ (f x l).1 (f x l).2
def rK (hfu:20<fuel)(G:Gen defs)(hf:Fl S r)(k:∀w e,RuleG AE w->Fl e r->Kp r S e->Q (w,e)):wO (aL (ar defs fuel (d+6)) "_law_free_rule" 1 [.ref r] S) Q:=by
 show ay G.free_rule rfl rfl λH hR=>?_
 replace k:=λz e a b c=>hR _ _ (k z e a b c)
 clear hR;change wZ _ _ cx [gV (.ref r),td,td,td,td,td,td,td,td] S H;delta cx;nofun
 left;show DT  G hf λa n S1 a1 a3 n1 n3 an f1 k1=>?_
 delta wU;show ab (rfl) (hK _ _ ?_);clear hK K;nofun
 left;show DU  G f1 n1 n3 λbs l hb J f2 k2=>?_
 have hsz:SizeOk a bs:=#[∅,hb,by rw[J];show an,a3]
 show lS  hfu G f2 a3 ∅ λms ns S3 M B P f3 k3=>hK _ _ ?_
 clear hK K;have hrt:=f3.lt;replace k3:=k1.trans (k2.trans k3);clear k1 k2 f1 f2;nofun
 left;show gH n (λi zs Z2 l=>(∃a1,Z2=[td,a1,gV (d7 ms ns bs [])])/\(∃ks:Mq MM,zs=aj ks/\↥ks<=i/\∀x∈ks,(0<=x/\x<↥bs)/\bs.getD x.toNat 0=x)/\l=S3) rfl rfl rfl ∅ #[rfl,#[td,rfl],#[[],rfl,MH _,λ_ h=>(nomatch h)],rfl] ?_ ?_
 ·rintro i zs Z2 l hi ⟨⟨a1,rfl⟩,⟨ks,rfl,A,m⟩,rfl⟩;clear hK k;have L:i<↥bs:=∅
  delta eS wC wT wE wA wV wG Mx;show af #v[] rfl (af (MK i) (by rw[M0];show lQ (MC ∅) (MC L)) (af #v[] rfl ?_))
  delta mY dj wB;show#[λhbi=>#[#[_,rfl],#[ks++[(i:MM)],by unfold aj;rw[MZ];rfl,by rw[Mt];show RE A,λx V=>?_],rfl],λ_=>#[#[_,rfl],#[ks,rfl,∅,m],rfl]]
  rcases Na.mp V with V|V
  ·show m x V
  ·rw[MS.mp V];show#[#[∅,∅],?_]
   rw[M0,MG,MC L]
   simpa using hbi
 ·rintro zs Z2 l ⟨_,⟨ks,rfl,A,m⟩,rfl⟩;rw[M0]at A;have il:(aj ks).length=↥ks:=Mr ..;show#[jC ∅,hK _ _ ?_]
  clear hK K;nofun
  delta wS wT wE wA wV wG Mx;show ab (E8 (aw ag) ag) ?_;delta wB;have f4:=(f3.ka (Ka.push (o:=O.lst (aj ks)))).ka (Ka.push (o:=O.lst []));have k4:=k3.trans ((Kp.push (o:=O.lst (aj ks))).trans (Kp.push (o:=O.lst [])));have e4:=aw (u:=O.lst []) (ag (S:=l) (o:=O.lst (aj ks)));have hl4:↥l<(l++[O.lst (aj ks)]++[O.lst []]).length:=by simp
  generalize hS4:l++[O.lst (aj ks)]++[O.lst []]=S4 at f4 k4 e4 hl4;clear hS4;have ret:∀j:QO,(∀w e,H (.rt w,e)->j (.rt w,e))->wZ (ar defs fuel (d+5)) fuel #v[.ret (.v 3)] [gV (.ref r),gV (.int a),gV (.int n),gV (d7 ms ns bs []),td,gV (.ref ↥l),td,td,td] S4 j:=λj R=>st (R _ _ (k _ _ #[a,bs,ms,ns,[],rfl,#[hsz,M,B,P,.nil,λ_ h=>(nomatch h)],.inl rfl] f4 k4))
  show#[λ_=>ap (Q0:=H) (λ_ j _ R=>ret j R) (λz=>by cases z),λhne=>?_]
  delta mY dj wB;show ap (Q0:=H) (λ_ j _ R=>ret j R) (λ_ j N _=>ba (N _ _ (hK _ _ ?_)))
  clear hK ret N;have hk0:0<↥ks:=by
   cases ks with
   |nil=>cases hne
   |cons x ks=>show Nat.succ_pos _
  nofun
  left;show hW e4 ?_;rw[il];show bP  G.pick f4 ∅ ∅ λv S5 v0 v1 f5 X=>?_
  have e5:=X.get _ _ ∅ e4
  obtain⟨x,W,ex⟩:=pR  (xs:=ks) (i:=v.toNat) ∅
  show j8 e5 v0 ex (hK _ _ ?_);clear hK K;replace X:Kp r S S5:=k4.trans X;have T:=f5.lt;show st ?_;left;nofun
  show lT rfl rfl ?_;left;show bP  G.pick (f5.ka .push) #v[] #v[] λv S6 v0 v9 f6 k6=>?_
  show#[v,λ_ Z e=>(∃a4 a8,Z=[gV (.ref r),gV (.int a),gV (.int n),gV (d7 ms ns bs []),a4,gV (.ref ↥l),gV (.int x),gV (.ref ↥S5),a8])/\(∃U I,e[↥S5]?=gV (.dic U)/\FigD (aW a bs) U I/\∀g∈I,∃y m1 s p2,GoodW a ↥bs [y,(m1,[s]),p2]/\g=dc bs [y,(m1,[s]),p2]/\s≠x/\x∉p2.2)/\Fl e r/\Kp r S e,rfl,∅,#[#[td,td,rfl],#[[],[],k6.get _ _ ∅ ag,.nil,λ_ h=>(nomatch h)],f6,(X.trans .push).trans k6],?_,?_]
  ·rintro i Z S7 hi ⟨⟨a4,a8,rfl⟩,⟨U,I,e7,hd,t⟩,f7,k7⟩ j N _;clear hK k;show st ?_;left;show pS  G f7 ∅ a3 ∅ n3 λu S8 C D f8 Y=>?_
   have D:GoodW a ↥bs u:=J.symm▸D;have e8:=Y.get _ _ ∅ e7
   obtain⟨y,E,p2,rfl⟩:∃y E p2,u=[y,E,p2]:=by
    match u,C with
    |[y,E,p2],_=>show#[y,E,p2,rfl]
   have l1:=D.len 1 E rfl;obtain⟨m1,ws1⟩:=E;obtain⟨s,rfl⟩:∃s,ws1=[s]:=by
    match ws1,l1 with
    |[s],_=>show#[s,rfl]
   have hb2:=D0 (S:=S8) (f:=x) (ws:=p2.2);have kk:=k7.trans Y;nofun
   delta wS wT wE wA wV wG;show af #v[] rfl (af #v[] rfl (af #v[] rfl ?_))
   delta G1 dj wB;have skip:K [gV (.ref r),gV (.int a),gV (.int n),gV (d7 ms ns bs []),gV (.int i),gV (.ref ↥l),gV (.int x),gV (.ref ↥S5),gV (az [y,(m1,[s]),p2])] S8:=hK _ _ (ba (N _ _ #[#[_,_,rfl],#[U,I,e8,hd,t],f8,kk]));show#[λhw1=>?_,λ_=>ap (Q0:=j) (λz=>by cases z) λ_ Q3 q _=>ba (q _ _ skip)]
   show af #v[] rfl (af #v[] rfl (ab hb2 ?_))
   delta wB;show ap (Q0:=j) (λhxp Q3 q _=>?_) λ_ Q3 q _=>ba (q _ _ skip)
   clear skip;show st ?_;left;show rF  G hb B D C λS9 k9=>?_
   show AF (k9.get _ _ e8) hd hsz D C λo fs' #[U',ho1,ho2] ho3=>ba (q _ _ (hK _ _ (ba (N _ _ #[#[_,_,rfl],#[U',fs',ho1,ho2,λg hg=>?_],(f8.ka k9).own T,(kk.trans (k9.kp r)).late X.len]))))
   rcases(ho3 g).mp hg with hg|rfl
   ·show t g hg
   ·show#[y,m1,s,p2,D,rfl,by simpa using hw1,by simpa using hxp]
  ·rintro Z S7 ⟨⟨a4,a8,rfl⟩,⟨U,I,e7,hd,t⟩,f7,k7⟩;show hK _ _ (st ?_);left;show E7  (Q:=λp=>H (.rt p.1,p.2)) e7 hd hsz M B P (.inr #[x,(m x W).1,(m x W).2,t]) λw S8 hw Y=>k w S8 hw (f7.ka Y) (k7.trans (Y.kp r))
end
abbrev bc (u v:MM):T:=.tup [.int u,.int v]
abbrev ed (u v:MM):W:=.tup [.int u,.int v]
def lU :gR (ed u v)=gV (bc u v):=rfl
def AI (h:bn U k=gV v):(k,v)∈U:=by
 unfold bn at h;rw[Mv]at h;obtain⟨p,a,rfl⟩:=h;have:=Sd a;rw[<- NF this];show Qa a
def D1 (h:p∈U):∃v,bn U p.1=gV v:=by
 unfold bn;cases e:U.find? λq=>decide (q.1=p.1)with
 |some q=>show#[q.2,rfl]
 |none=>show absurd (PH.mp e p h) (by simp)
noncomputable abbrev fP:=MM×MM×Mq MM
inductive MustL (S:aa)(b:Mz):Mq (T×W)->Mq fP->Prop
 |nil:MustL S b [] []
 |cons {e:fP}{l:Mz}{U:Mq (T×W)}{L:Mq fP}:b<=l->S[l]?=gV (.lst (aj e.2.2))->MustL S b U L->MustL S b ((bc e.1 e.2.1,.ref l)::U) (e::L)
def MustL.mono (h:MustL S b U L)(k:∀ l ws,b<=l->S[l]?=gV (.lst (aj ws))->a[l]?=gV (.lst (aj ws))):MustL a b U L:=by
 induction h with
 |nil=>show .nil
 |cons c d _ ih=>show .cons c (k _ _ c d) ih
def MustL.ka (h:MustL S b U L)(k:Ka S a):MustL a b U L:=h.mono λl ws _ e=>k.get _ _ e
def MustL.kp (h:MustL S b U L)(c:r<b)(k:Kp r S a):MustL a b U L:=h.mono λl ws hl e=>k.get _ _ ∅ e
def MustL.set (h:MustL S b U L)(a:S[t]?=gV (.dic k)):MustL (S.set t o) b U L:=h.mono λl ws hl e=>by
 rw[aV (by rintro rfl;rw[a]at e;cases e)];show e
def MustL.len (h:MustL S b U L):↥U=↥L:=by
 induction h with
 |nil=>rfl
 |cons _ _ _ ih=>rw[Nh,Nh,ih]
def AJ {e:fP}:decide (bc e.1 e.2.1=bc u v)=decide (e.1=u/\e.2.1=v):=by
 unfold bc;simp
abbrev BZ (L:Mq fP)(u v:MM):MA (Mq MM):=(L.find? λe=>decide (e.1=u/\e.2.1=v)).map (·.2.2)
def MustL.look (h:MustL S b U L)(u v:MM):(bn U (bc u v)=td/\BZ L u v=td)\/∃l ws,bn U (bc u v)=gV (.ref l)/\b<=l/\S[l]?=gV (.lst (aj ws))/\BZ L u v=gV ws:=by
 induction h with
 |nil=>show .inl #[rfl,rfl]
 |@cons e l U L a c _ ih=>
  unfold bn BZ at ih ⊢;rw[QU,QU];rw[AJ]
  by_cases hd:e.1=u/\e.2.1=v
  ·rw[NB hd];show .inr #[l,e.2.2,rfl,a,c,rfl]
  ·rw[Nk hd];show ih
def MustL.at { i:Mz}(h:MustL S b U L)(a:U[i]?=gV p):∃e l,L[i]?=gV e/\p=(bc e.1 e.2.1,W.ref l):=by
 induction h generalizing i with
 |nil=>cases a
 |@cons e l U L _ _ _ ih=>
  cases i with
  |zero=>cases a;show#[e,l,rfl,rfl]
  |succ i=>show ih a
def MustL.snoc (h:MustL S b U L)(d:b<=l)(f:S[l]?=gV (.lst (aj e.2.2))):MustL S b (U++[(bc e.1 e.2.1,.ref l)]) (L++[e]):=by
 induction h with
 |nil=>show .cons d f .nil
 |cons a c _ ih=>show .cons a c ih
def MustL.fresh (h:MustL S b U L)(a:BZ L u v=td):dY U (bc u v) w=U++[(bc u v,w)]:=by
 unfold dY;rw[Nm];rw[lu];rcases h.look u v with⟨e,_⟩|⟨l,ws,_,_,_,e⟩
 ·rw[e];show Nu
 ·rw[a]at e;cases e
abbrev AK (ws:Mq MM):Es:=ws.foldr (λw es=>.cons (.c (.int w)) es) .nil
abbrev AL:Mq fP->Es
 |[]=>.nil
 |e::L=>.cons (.tup #v[.c (.int e.1),.c (.int e.2.1)]) (.cons (.lst (AK e.2.2)) (AL L))
abbrev D3:Mq fP->Mz->Mq W
 |[],_=>[]
 |e::L,s=>ed e.1 e.2.1::.ref s::D3 L (s+1)
abbrev xJ (L:Mq fP):aa:=L.map λe=>O.lst (aj e.2.2)
abbrev AM (n:Mz)(e:fP):M9:=decide ((0<=e.1/\e.1<n)/\(0<=e.2.1/\e.2.1<n)/\↥e.2.2<=3)&&e.2.2.all λw=>decide (0<=w/\w<(n:MM))
section
variable{M:M2->FF}{Z:Fm}
def tY :∀{ws:Mq MM}{Q:Mq W×aa->Prop},Q (aj ws,S)->wA M (AK ws) Z S Q
 |[],Q,q=>by show q
 |w::ws,Q,q=>by change wA M (.cons _ _) Z S Q;show tY q
def AN:∀{L:Mq fP}{S:aa}{Q:Mq W×aa->Prop},Q (D3 L ↥S,S++xJ L)->wA M (AL L) Z S Q
 |[],S,Q,q=>by
  change wA M _ Z S Q
  rwa [show S++xJ []=S from Nr S]at q
 |e::L,S,Q,q=>by
  change wA M (.cons _ _) Z S Q;left;show tY (AN ?_);rw[Mt,N7];show q
end
abbrev D4 (L:Mq fP):M9:=(MJ ↥L).all λi=>(L[i]?).all λe=>(BZ (L.take i) e.1 e.2.1).isNone
def om :∀ L a s U,MustL S b U a->D4 (a++L)=true->b<=s->(∀i e,L[i]?=gV e->S[s+i]?=gV (.lst (aj e.2.2)))->∃U',d3 U (D3 L s)=gV U'/\MustL S b U' (a++L)
 |[],a,s,U,d,f,g,c=>#[U,by dsimp only[D3,d3],by rwa [Nr]]
 |e::L,a,s,U,d,f,g,c=>by
  have j:BZ a e.1 e.2.1=td:=by
   have:=MY.mp f ↥a (ML.mpr (by rw[Mt,Nh];omega))
   rw[Uw]at this
   ·simpa using this
   ·rfl
  obtain⟨U',l,h⟩:=om L _ (s+1) (dY U _ _) (by rw[d.fresh j];show d.snoc g (by have:=c 0 e rfl;simpa using this)) (by rw[N7];show f) (by show PU ‹_›) (λi x k=>by have:=c (i+1) x (by simpa using k);rw[show s+1+i=s+(i+1) by omega];show this)
  show#[U',?_,by rw[N7]at h;show h]
  show l
abbrev KB:Mq (Mq MM):=[[1,0],[0,2,1],[0,1],[0,1,2]]
noncomputable abbrev JZ:=Mq MM×Mq fP×MM
abbrev KT:Mq JZ:=[([1,0],[(0,0,[0])],3),([0,2,1],[(1,1,[1])],2),([0,1],[(1,1,[1])],3),([0,1],[(1,1,[1]),(0,0,[1])],3),([0,1],[(1,1,[])],1),([0,2,1],[(0,0,[0]),(0,1,[1]),(1,0,[1]),(1,1,[1])],2),([1,0],[],3),([0,1,2],[(2,2,[2]),(1,2,[1]),(2,1,[1]),(1,1,[1,2])],2),([0,1,2],[(0,0,[0,1])],2)]
def AO:∀x∈KT,x.1∈KB/\1<=x.2.2/\x.2.2<=3/\x.2.2*↥x.1<=6/\↥x.2.1<=4/\x.2.1.all (AM ↥x.1)=true/\D4 x.2.1=true:=by decide
abbrev KindOk (S:aa)(b:Mz)(w:W):Prop:=∃(bs:Mq MM) (q:Mz) (U:Mq (T×W)) (L:Mq fP) (most:MM),w=.tup [.tup (aj bs),.ref q,.int most]/\(bs,L,most)∈KT/\S[q]?=gV (.dic U)/\b<=q/\MustL S b U L
def KindOk.mono (h:KindOk S b w)(c:∀ l ws,b<=l->S[l]?=gV (.lst (aj ws))->a[l]?=gV (.lst (aj ws)))(d:∀ l U,b<=l->S[l]?=gV (.dic U)->a[l]?=gV (.dic U)):KindOk a b w:=
 let ⟨bs,q,U,L,most,h1,h2,h6,h7,h9⟩:=h
 #[bs,q,U,L,most,h1,h2,d _ _ h7 h6,h7,h9.mono c]
def KindOk.ka (h:KindOk S b w)(k:Ka S a):KindOk a b w:=h.mono (λl ws _ e=>k.get _ _ e) (λl ws _ e=>k.get _ _ e)
abbrev AQ (bs:Mq MM)(L:Mq fP)(a:MM):E:=.tup #v[.tup (AK bs),.disp (AL L),.c (.int a)]
section
variable{M:M2->FF}{Z:Fm}{S:aa}
def pV (bs:Mq MM)(L:Mq fP)(a:MM)(l:b<=↥S)(g:(bs,L,a)∈KT)(k:∀w f,KindOk f b w->Ka S f->Q (w,f)) :
  wE M (AQ bs L a) Z S Q:=by
 unfold AQ;left;show tY (AN ?_);have d:=(AO _ g).2.2.2.2.2.2;obtain⟨U,n,p⟩:=om (S:=S++[O.dic []]++xJ L) (b:=b) L [] (↥S+1) [] .nil d (by show PU ‹_›) (λi e m=>by
  rw[Nt (by simp),show ↥S+1+i-(S++[O.dic []]).length=i by simp]
  (delta xJ;simp[m]))
 have c:(S++[O.dic []]++xJ L)[↥S]?=gV (.dic []):=by
  rw[No (by simp)];show ag
 show#[c,ab (show d3 [] _=gV U by rw[Mt];show n) (k _ _ #[bs,↥S,U,L,a,rfl,g,aZ c,l,p.set c] #[λj o h=>?_,by simp])]
 ·have:=bo h;show((S++[O.dic []]++xJ L).set ↥S _)[j]?=gV o;rw[aV (by show NR ‹_›),No (by simp;show Ot ‹_›)]
  show aw h
structure Menu (S0 S:aa)(r t m:Mz):Prop where
 at_t:∃xs:Mq W,S[t]?=gV (.lst xs)/\↥xs=m/\∀x∈xs,KindOk S ↥S0 x
 pos:0<m
 jC:m<=9
 fl:Fl S r
 kp:Kp r S0 S
 lt:↥S0<=t
 rlt:r<↥S0
def rL (h:Menu f S r t m)(hw:KindOk c ↥f w)(k:Ka S c)(u:m<9):∃xs,c[t]?=gV (.lst xs)/\↥xs<sizeLine/\Menu f (c.set t (.lst (xs++[w]))) r t (m+1):=by
 obtain⟨⟨xs,p,i,g⟩,v,s,o,kp,lt,j⟩:=h;have e:=k.get _ _ p;have stay:∀x,KindOk c _ x->KindOk (c.set t (.lst (xs++[w]))) ↥f x:=λx b=>b.mono (λl ws hl a=>by
  by_cases d:t=l
  ·exfalso;subst d;rw[e]at a;injection a with a
   injection a with a
   match xs,i,g with
   |[],i,_=>simp at i;omega
   |x::xs,_,g=>
    obtain⟨bs,q,U,L,n,b,_⟩:=g x (by simp)
    subst b
    match ws with
    |[]=>simp[aj]at a
    |w::ws=>simp[aj]at a
  ·rw[aV d];show a) (λl U hl a=>by
  rw[aV (by rintro rfl;rw[e]at a;cases a)];show a)
 show#[xs,e,(by rw[NT];omega),#[xs++[w],aZ e,by simp;omega,λx b=>?_],by show Ot ‹_›,by show TM ‹_›,(o.ka k).own (by show MU ‹_› ‹_›),(kp.trans (k.kp r)).late lt,lt,j]
 rcases Na.mp b with b|b
 ·show stay x ((g x b).ka k)
 ·rw[MS.mp b];show stay w hw
def rM (bs:Mq MM)(L:Mq fP)(a:MM){K:Fm->aa->Prop}(h:Menu c S r t m)(l:m<9)(j:(bs,L,a)∈KT)(k:∀b,Menu c b r t (m+1)->K [e,gV (.ref t)] b) :
  wS M fuel (.ex (.me .append (.v 1) #v[AQ bs L a])) [e,gV (.ref t)] S K Q:=by
 left;obtain⟨xs,d,q,s⟩:=h.at_t;show#[cD d,pV bs L _ (M1 h.lt (Pe (bo d))) j λw b n o=>?_]
 obtain⟨p,f,g,i⟩:=rL h n o l;show ab (Ah f g) (k _ i)
def nb {Q:QW}(G:Gen defs)(C:Fl S r)(k:∀w i,KindOk i ↥S w->Fl i r->Kp r S i->Q (w,i)):wO (aL (ar defs fuel (d+2)) "_law_laying_kind" 1 [.ref r] S) Q:=by
 show ay G.laying_kind rfl rfl λJ V=>?_
 replace k:=λz i a b c=>V _ _ (k z i a b c)
 change wZ _ _ cL [gV (.ref r),td] S J;have u:=C.lt;nofun
 show JS ?_;change wA _ _ _ _ _;change wE _ _ _ _ _
 show pV [1,0] [(0,0,[0])] 3  (MH _) #v[] λB S1 E p=>?_
 change wE _ _ _ _ _;show pV [0,2,1] [(1,1,[1])] 2  p.len #v[] λw2 S2 H q=>?_
 have h:=p.trans q;change wE _ _ _ _ _;show pV [0,1] [(1,1,[1])] 3  h.len #v[] λw3 m I n=>?_
 have f:=h.trans n;delta wA;show hK _ _ ?_;clear hK K;have y:Menu S (m++[O.lst [B,w2,w3]]) r ↥m 3:=by
  show#[#[[B,w2,w3],ag,rfl,λx j=>?_],#v[],#v[],(C.ka f).ka .push,(f.trans .push).kp r,f.len,u]
  rcases M5.mp j with rfl|j
  ·show(E.ka (q.trans n)).ka .push
  ·rcases M5.mp j with rfl|j
   ·show(H.ka n).ka .push
   ·rw[MS.mp j];show I.ka .push
 left;clear E H I p q n h f;generalize ↥m=t at y;generalize m++[O.lst [B,w2,w3]]=S3' at y;show aN λK hK=>rM [0,1] [(1,1,[1]),(0,0,[1])] 3 y #v[] #v[] λS4 X=>hK _ _ ?_
 show aN λK hK=>rM [0,1] [(1,1,[])] 1 X #v[] #v[] λS5 Y=>hK _ _ ?_
 show aN λK hK=>rM [0,2,1] [(0,0,[0]),(0,1,[1]),(1,0,[1]),(1,1,[1])] 2 Y #v[] #v[] λM A=>hK _ _ ?_
 nofun
 left;obtain⟨xs,N,e2,e3⟩:=A.at_t;obtain⟨xs',P,R,Z⟩:=rL   A #[[1,0],↥M,[],[],3,rfl,#v[],ag,A.kp.len,.nil] .push #v[]
 show#[cD N,ab (Ah P R) (hK _ _ ?_)];show aN λK hK=>rM [0,1,2] [(2,2,[2]),(1,2,[1]),(2,1,[1]),(1,1,[1,2])] 2 Z #v[] #v[] λS8 m8=>hK _ _ ?_
 show aN λK hK=>rM [0,1,2] [(0,0,[0,1])] 2 m8 #v[] #v[] λS9 o=>hK _ _ ?_
 show st ?_;left;show bP  G.pick o.fl #v[] #v[] λv L v0 v9 s g=>?_
 obtain⟨xs,T,g2,U⟩:=o.at_t;have W:=o.lt;have D:v.toNat<↥xs:=∅
 show j8 (g.get _ _ ∅ T) v0 (MC D) (k _ _ ((U _ (NC D)).mono (λl ws hl e=>g.get _ _ ∅ e) (λl ws hl e=>g.get _ _ ∅ e)) s (o.kp.trans g))
end
abbrev hZ (bs:Mq MM):Mq (Mq MM):=if bs=[0,1,2]then[[0,1,2],[0,2,1],[1,0,2],[1,2,0],[2,0,1],[2,1,0]]else if ↥bs=2 then[[0,1],[1,0]]else[[0,1,2],[0,2,1],[2,0,1],[2,1,0]]
abbrev cO (bs a:Mq MM):Mz->Mq MM
 |0=>Ny ↥bs 0
 |k+1=>(cO bs a k).set (a.getD k 0).toNat (a.getD (bs.getD k 0).toNat 0)
def gL (bs a:Mq MM):∀k,(cO bs a k).length=↥bs
 |0=>by simp[cO]
 |k+1=>by simp[cO,gL bs a k]
def vU:∀bs∈KB,∀a∈hZ bs,↥a=↥bs/\(∀x∈a,0<=x/\x<(↥bs))/\(∀x∈bs,0<=x/\x<(↥bs))/\GoodB (cO bs a ↥bs):=by
 unfold GoodB;decide +kernel
def AR:∀bs∈KB,(↥bs=2\/↥bs=3)/\0<(hZ bs).length/\(hZ bs).length<10:=by decide
abbrev kA (a:Mq MM)(e:fP):fP:=(a.getD e.1.toNat 0,a.getD e.2.1.toNat 0,e.2.2.map λw=>a.getD w.toNat 0)
def D5:∀x∈KT,∀e∈x.2.1,BZ x.2.1 e.1 e.2.1=gV e.2.2:=by decide
def G9:∀x∈KT,∀a∈hZ x.1,D4 (x.2.1.map (kA a))=true:=by decide +kernel
def Ha (h:D4 L=true)(a:L[i]?=gV e):BZ (L.take i) e.1 e.2.1=td:=by
 have:=MY.mp h i (ML.mpr (MP.mp a).1);rw[a]at this
 simpa using this
def Hb (h:AM n e=true):(0<=e.1/\e.1<n)/\(0<=e.2.1/\e.2.1<n)/\↥e.2.2<=3/\∀w∈e.2.2,0<=w/\w<n:=by
 unfold AM at h;rw[MB,MY]at h;obtain⟨a,b,c⟩:=NF h.1;show#[a,b,c,λw hw=>NF (h.2 w hw)]
section
variable{M:M2->FF}{fuel:Mz}{Z:Fm}{S:aa}{K:Fm->aa->Prop}{Q:QO}
def D6 (r:Mz)(U:Mq (T×W))(I:Mz->Fm->aa->Prop)(l:dw e=true)(ok:gW b=true)(j:wE M e Z S λp=>p.1=.ref r/\p.2[r]?=gV (.dic U)/\I 0 Z (p.2.set r (.frd U)))
  (a:∀ i p Z S,U[i]?=gV p->I i Z S->wO (lH tg p.1.w Z S) λq=>Ak M fuel b q.1 q.2 (I (i+1)) Q) (c:∀Z S,I ↥U Z S->K Z S):Wp (gF M fuel (.loop tg (.seq e) b) Z S) (tQ K Q):=by
 obtain⟨w,S1,g,rfl,f,h⟩:=bM l j;show iA (mi:=.its (U.map λp=>p.1.w)) (S1:=S1.set r (.frd U)) (xs:=U.map λp=>p.1.w) I ok (by simp only[jt,eI,g,pP f,bW f]) (λ_ _ _ _=>rfl) rfl h (λi w Z S hw d=>?_) λZ S d=>c Z S (by rwa [Mr]at d)
 rw[MD,Mv]at hw;obtain⟨p,k,rfl⟩:=hw;show a i p Z S k d
end
section
variable{defs:Mq (M2×Df)}{fuel d:Mz}{S:aa}{r:Mz}{Q:QW}
def J0 { n:Mz}(h:S[i]?=gV (.lst [x]))(a:n<=1000)(q:Q (.ref ↥S,S++[.lst (Ny n x)])):wO (gP .mul (.ref i) (.int n) S) Q:=by
 show ab ?_ q;have:=jC a;simp only[gP,CB,bV h];rw[M4 #[∅,∅,by simpa using this]]
 unfold mT;simp[this]
def oo (h:gZ S q=gV U)(a:bn U (bc u v)=gV w):qf (.ref q) (.tup [.int u,.int v]) S=gV (w,S):=by
 have hk:gR (.tup _)=gV (bc u v):=lU;revert qf h hk a Nb
def AS (h:S[q]?=gV (.dic U))(hl:↥U<sizeLine):ik (.ref q) (.tup [.int u,.int v]) w S=gV (S.set q (.dic (dY U (bc u v) w))):=by
 have hk:gR (.tup _)=gV (bc u v):=lU;revert ik o9 h hk;rw[M4 hl]
def int_at {x:MM}(b:0<=x)(a:x.toNat<↥xs):(aj xs)[x.toNat]?=gV (.int (xs.getD x.toNat 0)):=by
 unfold aj;rw[MD,aq  a];rfl
def rN {xs:Mq MM}(h:i<↥xs):xs.getD i 0∈xs:=MQ (aq  h)
def nh (G:Gen defs){Q:QO}(t:bs∈KB)
  (hk:∀ m s S',Ka S S'->S'[s]?=gV (.lst ((hZ bs).map λv=>W.tup (aj v)))->↥S<=s->wZ (ar defs fuel (d+1)) fuel (dr 5 bG) [o,gV (.tup (aj bs)),p,gV (.int ↥bs),gV (.ref m),gV (.ref s),td,td,td,td,td,td] S' Q) :
  wZ (ar defs fuel (d+1)) fuel bG [o,gV (.tup (aj bs)),p,td,td,td,td,td,td,td,td,td] S Q:=by
 generalize e:dr 5 bG=cj at hk;unfold bG at e ⊢;dsimp only[dr]at e;rw[e];nofun
 left;show aC ?_;show hK _ _ ?_;nofun
 left;have f:(((S++[O.lst [.tup [.int 0]]])++[O.lst [.tup [.int 0,.int 1],.tup [.int 1,.int 0]]])++[O.lst [.ref ↥S,.ref (S++[O.lst [.tup [.int 0]]]).length]])[((S++[O.lst [.tup [.int 0]]])++[O.lst [.tup [.int 0,.int 1],.tup [.int 1,.int 0]]]).length]?=gV (.lst [.ref ↥S,.ref (S++[O.lst [.tup [.int 0]]]).length]):=ag;show hK _ _ ?_;generalize g:S++[O.lst [.tup [.int 0]]]=S1 at f ⊢;generalize b:S1++[O.lst [.tup [.int 0,.int 1],.tup [.int 1,.int 0]]]=S2 at f ⊢;generalize c:S2++[O.lst [.ref ↥S,.ref ↥S1]]=S3 at f ⊢;have y:↥S1=↥S+1:=by rw[<- g];simp
 have z:↥S2=↥S1+1:=by rw[<- b];simp
 have A:↥S3=↥S2+1:=by rw[<- c];simp
 have k:Ka S S2:=by rw[<- b,<- g];show Ka.push.trans .push
 nofun
 left;show#[cD f,j9 (aw f) (by decide:2<1000) (hK _ _ ?_)]
 generalize a:(S3++[O.lst [.tup [.int 0,.int 1,.int 2],.tup [.int 0,.int 2,.int 1],.tup [.int 2,.int 0,.int 1],.tup [.int 2,.int 1,.int 0]]]).set ↥S2 (.lst ([.ref ↥S,.ref ↥S1]++[.ref ↥S3]))=S5;have h:Ka S S5:=by
  rw[<- a,<- c];show Ka.late (k.trans (Ka.push.trans .push)) ∅
 have i:S5[↥S2]?=gV (.lst [.ref ↥S,.ref ↥S1,.ref ↥S3]):=by
  rw[<- a];show aZ (aw f)
 have n:S5[↥S1]?=gV (.lst [.tup [.int 0,.int 1],.tup [.int 1,.int 0]]):=by
  rw[<- a,aV ∅,<- c,<- b]
  show aw (aw ag)
 have w:S5[↥S3]?=gV (.lst [.tup [.int 0,.int 1,.int 2],.tup [.int 0,.int 2,.int 1],.tup [.int 2,.int 0,.int 1],.tup [.int 2,.int 1,.int 0]]):=by
  rw[<- a,aV ∅]
  show ag
 have l:↥S<=↥S1:=∅
 have r:↥S<=↥S3:=∅
 nofun
 delta wS wE wV wG Mx iX dj;have j:bs=[1,0]\/bs=[0,2,1]\/bs=[0,1]\/bs=[0,1,2]:=by simpa [KB]using t
 rcases j with rfl|rfl|rfl|rfl
 ·show dL  i rfl (hK _ _ (aN λK hK=>Am (λQ q=>q) (hK _ _ (hk _ _ _ h n l))))
 ·show dL  i rfl (hK _ _ (aN λK hK=>Am (λQ q=>q) (hK _ _ (hk _ _ _ h w r))))
 ·show dL  i rfl (hK _ _ (aN λK hK=>Am (λQ q=>q) (hK _ _ (hk _ _ _ h n l))))
 ·show dL  i rfl (hK _ _ (aN λK hK=>JT (λQ q=>q) λx u _=>?_))
  show st ?_;show kK  G (ba (u _ _ (hK _ _ (hk _ _ _ (h.trans .push) ag h.len))))
def tZ (G:Gen defs)(J:(bs,L,most)∈KT)(hf:Fl S r)(hr:r<↥A)(kp:Kp r A S)(hq:S[q]?=gV (.dic U))(hq0:↥A<=q)(hm:MustL S ↥A U L)
  (k:∀ n q' U' t,n∈hZ bs->t[q']?=gV (.dic U')->↥A<=q'->MustL t ↥A U' (L.map (kA n))->Fl t r->Kp r A t->Q (.tup [.tup (aj (cO bs n ↥bs)),.ref q'],t)) :
  wO (aL (ar defs fuel (d+2)) "_law_numbered" 3 [.ref r,.tup (aj bs),.ref q] S) Q:=by
 show ay G.numbered rfl rfl λQ' hR=>?_
 replace k:=λa b c e f g h i j l=>hR _ _ (k a b c e f g h i j l)
 obtain⟨hb,_,_,_,h4,hok,_⟩:=AO _ J;show nh  G hb ?_;intro m s S1 k1 e1 hs;have hrt:=hf.lt;obtain⟨hb1,hb2,hb3⟩:=AR bs hb;nofun
 left;show hW e1 ?_;rw[Mr];show bP  G.pick (hf.ka k1) ∅ ∅ λv S2 v0 v1 f2 k2=>?_
 obtain⟨n,B,enm⟩:=pR  (xs:=hZ bs) (i:=v.toNat) ∅
 obtain⟨n1,n2,n3,n4⟩:=vU bs hb n B;show j8 (k2.get _ _ ∅ e1) v0 enm (hK _ _ ?_)
 nofun
 left;show J0 ag ∅ (hK _ _ ?_)
 generalize hS4:S2++[O.lst [.int 0]]=S4;have E:Ka S2 S4:=hS4▸.push;have f4:=f2.ka E;have kp4:=(kp.trans (k1.kp r)).trans (k2.trans (E.kp r));have q4:=E.get _ _ (k2.get _ _ ∅ (k1.get _ _ hq))
 have m4:=((hm.ka k1).kp hr k2).ka E;have hm0:=hm;nofun
 show bN ↥bs (λk Z t=>(∃x8,Z=[gV (.ref r),gV (.tup (aj bs)),gV (.ref q),gV (.int ↥bs),gV (.ref m),gV (.ref s),gV (.tup (aj n)),gV (.ref ↥S4),x8,td,td,td])/\t[↥S4]?=gV (.lst (aj (cO bs n k)))/\Ka S4 t) rfl rfl ∅ #[rfl,#[_,rfl],?_,.push] ?_ ?_
 ·rw[ag];simp[cO,aj]
 ·rintro i Z S5 hi ⟨⟨x8,rfl⟩,e5,R⟩ Q2 hn _;have hi':i<↥bs:=∅
  have hi1:i<↥n:=∅
  have c:=n3 _ (rN hi');have c2:=n2 _ (rN hi1);show st ?_;left;show af (MK i) (int_at (MK i) hi') (af c.1 (int_at c.1 (by rw[M0];omega)) (af (MK i) (int_at (MK i) hi1) ?_))
  rw[M0];show ab (EY e5 c2.1 (by rw[show(aj (cO bs n i)).length=_ from Mr ..,gL];omega)) (ba (hn _ _ #[#[_,rfl],?_,R.late (MH _)]))
  rw[aZ e5];unfold aj;rw[cO,List.map_set]
 ·rintro Z S5 ⟨⟨x8,rfl⟩,e5,R⟩;show hK _ _ (st ?_);clear hK K;left;have f5:=f4.ka R;have q5:=R.get _ _ q4;have m5:=m4.ka R;have hkl:=hm0.len;have V:=kp4.trans (R.kp r);have hq5:=bo q5;have ht5:=bo e5;have hqt:q≠↥S4:=by rintro rfl;rw[e5]at q5;cases q5
  have hn9:↥bs<=3:=∅
  have hr5:=f5.lt;clear R m4 q4 f4;nofun
  show D6 q U (λk Z t=>(∃Y x11,Z=[gV (.ref r),gV (.tup (aj bs)),gV (.ref q),gV (.int ↥bs),gV (.ref m),gV (.ref s),gV (.tup (aj n)),gV (.ref ↥S4),x8,gV (.ref ↥S5),Y,x11])/\t[q]?=gV (.frd U)/\MustL t ↥A U L/\t[↥S4]?=gV (.lst (aj (cO bs n ↥bs)))/\(∃U',t[↥S5]?=gV (.dic U')/\MustL t ↥A U' ((L.take k).map (kA n)))/\Fl t r/\Kp r A t) rfl rfl #[rfl,aw q5,#[td,td,rfl],aZ (aw q5),(m5.ka .push).set (aw q5),?_,#[[],?_,.nil],(f5.ka .push).own ∅,(V.trans .push).late hq0] ?_ ?_
  ·rw[aV hqt];show aw e5
  ·rw[aV ∅];show ag
  ·rintro i p Z S6 hp ⟨⟨Y,x11,rfl⟩,q6,m6,t6,⟨U',o6,y⟩,f6,H⟩;clear hK k;have hil:=(MP.mp hp).1;obtain⟨en,l,I,rfl⟩:=m6.at hp;have hem:=MQ I;have C:=D5 _ J en hem;have N:=Ha (G9 _ J n B)   (by rw[MD];dsimp only;rw[I];rfl)
   dsimp only at C N;obtain⟨hu,D,M,P⟩:=Hb (MY.mp hok en hem);dsimp only at hu D M P;obtain⟨u,v',o⟩:=en;dsimp only at C hu D M P ⊢;obtain⟨X,hg,hl2,hws2⟩:∃X,bn U (bc u v')=gV (.ref X)/\↥A<=X/\S6[X]?=gV (.lst (aj o)):=by
    rcases m6.look u v' with⟨_,e⟩|⟨X,ws,g1,g2,g3,e⟩
    ·rw[C]at e;cases e
    ·rw[C]at e;cases e;show#[X,g1,g2,g3]
   have hl32:=M;have hw32:=P;have hul:u.toNat<↥n:=∅
   have hvl:v'.toNat<↥n:=∅
   show ab rfl λQ2 hn _=>?_
   show st ?_;left;show vQ X (aj o) (λi zs Z2 S7=>(∃a1,Z2=[td,a1,gV (.tup (aj n))])/\zs=aj ((o.take i).map λw=>n.getD w.toNat 0)/\S7=S6) rfl rfl rfl ?_ ?_ ?_ ?_
   ·left;show ab (oo (DO q6) hg) #[rfl,#[_,rfl],rfl,rfl]
   ·rintro i zs Z2 S7 ⟨_,_,rfl⟩;show hws2
   ·rintro i w zs Z2 S7 hw ⟨⟨a1,rfl⟩,rfl,rfl⟩;unfold aj at hw;rw[MD,Mv]at hw;obtain⟨x,hx,rfl⟩:=hw;obtain⟨x0,x1⟩:=hw32 x (MQ hx);have hxl:x.toNat<↥n:=∅
    show ab rfl ?_;delta eS;show#[λ_=>af x0 (int_at x0 hxl) #[#[_,rfl],?_,rfl],λz=>by cases z]
    rw[Nd,hx];simp[aj]
   ·rintro zs Z2 S7 ⟨_,rfl,rfl⟩;rw[show(aj o).length=↥o from Mr ..,Nl]
    show#[jC (by simp[aj];omega),af hu.1 (int_at hu.1 hul) (af D.1 (int_at D.1 hvl) ?_)]
    show ab (AS (aw o6) (by have:=y.len;rw[Mr,M6]at this;have:=Nat.min_le_right i ↥L;dsimp only at h4;rw[NT];omega)) (ba (hn _ _ #[#[_,_,rfl],?_,(m6.ka .push).set (aw o6),?_,#[_,aZ (aw o6),?_],(f6.ka .push).own ∅,(H.trans .push).late V.len]))
    ·rw[aV ∅];show aw q6
    ·rw[aV ∅];show aw t6
    ·rw[Nd,I,MZ];rw[<- OR]at N;show(?_:MustL _ _ (dY U' (bc (kA n (u,v',o)).1 (kA n (u,v',o)).2.1) (.ref ↥S7)) _);rw[y.fresh N];show((y.ka .push).snoc (e:=kA n (u,v',o)) H.len ag).set (aw o6)
  ·rintro Z S6 ⟨⟨Y,x11,rfl⟩,q6,m6,t6,⟨U',o6,y⟩,f6,H⟩;show hK _ _ (st ?_);left;rw[hkl,Nl]at y;show cH t6 (k n _ U' _ B o6 V.len y f6 H)
end
abbrev xK (x y z:MM):Mq (T×W):=[(bc 1 0,.int x),(bc 2 0,.int y),(bc 2 1,.int z)]
abbrev E9 (x y z a b c:MM):Mz->Mq (T×W)
 |0=>xK x y z
 |1=>xK x y z++[(bc 0 1,.int a)]
 |2=>xK x y z++[(bc 0 1,.int a),(bc 0 2,.int b)]
 |_=>xK x y z++[(bc 0 1,.int a),(bc 0 2,.int b),(bc 1 2,.int c)]
abbrev B0 (x y z a b c:MM):Mz->Mz->MM
 |0,1=>a
 |0,2=>b
 |1,0=>x
 |1,2=>c
 |2,0=>y
 |2,1=>z
 |_,_=>0
def Hc :∀i j:Mz,i<3->j<3->i≠j->bn (E9 x y z a b c 3) (bc i j)=gV (.int (B0 x y z a b c i j)):=by
 intro i j hi e d
 match i,j,hi,e,d with
 |0,0,_,_,h=>show absurd rfl h
 |0,1,_,_,_=>rfl
 |0,2,_,_,_=>rfl
 |1,0,_,_,_=>rfl
 |1,1,_,_,h=>show absurd rfl h
 |1,2,_,_,_=>rfl
 |2,0,_,_,_=>rfl
 |2,1,_,_,_=>rfl
 |2,2,_,_,h=>show absurd rfl h
abbrev Hd (p:MM):MA (Mq MM)->M9
 |none=>false
 |some ws=>!(ws.any λw=>jQ (.int w) (.int p))
abbrev He (L:Mq fP)(f:Mz->Mz->MM)(t:Mq Mz):M9:=Hd (f (t.getD 0 0) (t.getD 2 0)) (BZ L (f (t.getD 0 0) (t.getD 1 0)) (f (t.getD 1 0) (t.getD 2 0)))
abbrev xL (bs:Mq MM)(L:Mq fP)(x y z:MM):M9:=au.any (He L (B0 x y z (bs.getD x.toNat 0) (bs.getD y.toNat 0) (bs.getD z.toNat 0)))
def rO:∀t∈au,↥t=3/\t.getD 0 0<3/\t.getD 1 0<3/\t.getD 2 0<3/\t.getD 0 0≠t.getD 1 0/\t.getD 1 0≠t.getD 2 0/\t.getD 0 0≠t.getD 2 0:=by decide
def AT (h:t∈au):∃i j k:Mz,t=[i,j,k]/\i<3/\j<3/\k<3/\i≠j/\j≠k/\i≠k:=by
 obtain⟨b,a⟩:=rO t h
 match t,b,a with
 |[i,j,k],_,a=>show#[i,j,k,rfl,a]
section
variable{defs:Mq (M2×Df)}{fuel d:Mz}{S:aa}{r:Mz}{Q:QW}
def AU (h:S[l]?=gV (.lst (aj ws))):bx .notin (.int f) (.ref l) S=gV (.bl (!(ws.any λw=>jQ (.int w) (.int f))),S):=by
 have b:(aP (.int f)&&(aj ws).all aP)=true:=by
  (delta aP;revert Pp MY)
  intro x c;obtain⟨z,_,rfl⟩:=MN.mp c;rfl
 have a:((aj ws).any λz=>jQ z (.int f))=ws.any λw=>jQ (.int w) (.int f):=by unfold aj;rw[Vk];rfl
 simp only[bx,kI h,cY,sS,yT,cp,aD h,b,Qm,Nb,a]
def Hf (h:S[q]?=gV (.dic U)):tyOk "dict" S (.ref q)=true:=by simp[tyOk,g6,bW h]
def D7 (h:S[q]?=gV (.dic U))(k:Q (.ref ↥S,S++[.lst (U.map λp=>p.1.w)])):wO (Bi.list.fn [.ref q] S) Q:=by
 show ab ?_ k;have a:o5 S q=td:=by simp[o5,h]
 have b:eX [.ref q] S=td:=by(delta eX fI cp;simp[a,pP h])
 simp only[Bi.fn,rq,b,jV,bW h]
def AV (G:Gen defs){x y z:MM}(hb:GoodB bs)(hx:0<=x/\x<↥bs)(hy:0<=y/\y<↥bs)(hz:0<=z/\z<↥bs)(hq:S[q]?=gV (.dic U))(hm:MustL S b0 U L)
  (k:∀j,Ka S j->Q (.bl (xL bs L x y z),j)):wO (aL (ar defs fuel (d+2)) "_law_breaks" 5 [.tup (aj bs),.ref q,.int x,.int y,.int z] S) Q:=by
 show ay G.breaks rfl rfl λQ' hR=>?_
 replace k:=λa b=>hR _ _ (k a b)
 clear hR;change wZ _ _ dJ [gV (.tup (aj bs)),gV (.ref q),gV (.int x),gV (.int y),gV (.int z),td,td,td,td,td] S Q';unfold xL at k;have P:bs[x.toNat]?=gV (bs.getD x.toNat 0):=aq ∅
 have R:bs[y.toNat]?=gV (bs.getD y.toNat 0):=aq ∅
 have V:bs[z.toNat]?=gV (bs.getD z.toNat 0):=aq ∅
 generalize bs.getD x.toNat 0=a at P k;generalize bs.getD y.toNat 0=b at R k;generalize bs.getD z.toNat 0=c at V k;have hqt:=bo hq;unfold dJ;nofun
 left;show#[ag,ab (show d3 [] [.tup [.int 1,.int 0],.int x,.tup [.int 2,.int 0],.int y,.tup [.int 2,.int 1],.int z]=gV (xK x y z)from rfl) (hK _ _ ?_)]
 clear hK K;have e1:((S++[O.dic []]).set ↥S (.dic (xK x y z)))[↥S]?=gV (.dic (xK x y z)):=aZ ag;have k1:Ka S ((S++[O.dic []]).set ↥S (.dic (xK x y z))):=Ka.push.late (MH _);have l1:((S++[O.dic []]).set ↥S (.dic (xK x y z))).length=↥S+1:=by simp
 generalize(S++[O.dic []]).set ↥S (.dic (xK x y z))=S1 at e1 k1 l1 ⊢;nofun
 show d8 rfl rfl ?_;left;show D7 e1 #[↥S1,[ed 1 0,ed 2 0,ed 2 1],(λk Z j=>(∃s,Z=[gV (.tup (aj bs)),gV (.ref q),gV (.int x),gV (.int y),gV (.int z),gV (.ref ↥S),s,td,td,td])/\j[↥S]?=gV (.dic (E9 x y z a b c k))/\j[↥S1]?=gV (.lst [ed 1 0,ed 2 0,ed 2 1])/\Ka S j),rfl,#[#[_,rfl],aw e1,ag,k1.trans .push],λi Z j h=>h.2.2.1,?_,?_]
 ·have step:∀u v f g kv H j i,bn kv (bc u v)=gV (.int f)->0<=f->bs[f.toNat]?=gV g->↥kv<10->dY kv (bc v u) (.int g)=H->E9 x y z a b c (i+1)=H->∀s:MA W,j[↥S]?=gV (.dic kv)->j[↥S1]?=gV (.lst [ed 1 0,ed 2 0,ed 2 1])->Ka S j->
    wO (lH (.nm 6) (ed u v) [gV (.tup (aj bs)),gV (.ref q),gV (.int x),gV (.int y),gV (.int z),gV (.ref ↥S),s,td,td,td] j) λp=>Ak (ar defs fuel (d+1)) fuel #v[.put (.v 5) (.tup #v[.ix (.v 6) (.c (.int 1)),.ix (.v 6) (.c (.int 0))]) (.ix (.v 0) (.ix (.v 5) (.v 6)))] p.1 p.2 (λZ j=>(∃s,Z=[gV (.tup (aj bs)),gV (.ref q),gV (.int x),gV (.int y),gV (.int z),gV (.ref ↥S),s,td,td,td])/\j[↥S]?=gV (.dic (E9 x y z a b c (i+1)))/\j[↥S1]?=gV (.lst [ed 1 0,ed 2 0,ed 2 1])/\Ka S j) Q':=by
   clear hK k;intro u v f g kv H j i A h2 M h4 h5 h6 s e e' k;show ab rfl λQ2 hn _=>?_
   show st ?_;left;show ab (oo (bW e) A) (af h2  (by unfold aj;rw[MD,M];rfl) (af #v[] rfl (af #v[] rfl ?_)))
   show ab (AS e (by rw[NT];omega)) (ba (hn _ _ #[#[_,rfl],?_,?_,k.late (MH _)]))
   ·rw[aZ e,h5,h6]
   ·rw[aV ∅];show e'
  rintro i w Z I hw ⟨⟨s,rfl⟩,r,l2,k2⟩
  match i,hw,r with
  |0,hw,r=>cases hw;show step 1 0 x a _ _ I 0 (by rfl) hx.1 P (by simp[E9,xK]) (by rfl) (by rfl) s r l2 k2
  |1,hw,r=>cases hw;show step 2 0 y b _ _ I 1 (by rfl) hy.1 R (by simp[E9,xK]) (by rfl) (by rfl) s r l2 k2
  |2,hw,r=>cases hw;show step 2 1 z c _ _ I 2 (by rfl) hz.1 V (by simp[E9,xK]) (by rfl) (by rfl) s r l2 k2
  |n+3,hw,_=>simp at hw
 ·rintro Z I ⟨⟨s,rfl⟩,r,l2,k2⟩;have hv:=Hc (x:=x) (y:=y) (z:=z) (a:=a) (b:=b) (c:=c);generalize hB:He L (B0 x y z a b c)=B at k;have r:=r;show hK _ _ ?_;clear hK K;have hlt2:=bo r;nofun
  show d8 rfl rfl ?_;left;show kK  G #[↥I,au.map (λt=>W.tup (ac t)),(λk Z j=>(∃x7 x8 x9,Z=[gV (.tup (aj bs)),gV (.ref q),gV (.int x),gV (.int y),gV (.int z),gV (.ref ↥S),s,x7,x8,x9])/\j[↥S]?=gV (.dic (E9 x y z a b c 3))/\j[↥I]?=gV (.lst (au.map (λt=>W.tup (ac t))))/\Ka S j/\(au.take k).any B=false),rfl,#[#[_,_,_,rfl],aw r,ag,k2.trans .push,rfl],λi Z j h=>h.2.2.1,?_,?_]
  ·rintro i w Z E hw ⟨⟨x7,x8,x9,rfl⟩,J,l3,N,M⟩;clear hK;rw[MD,Mv]at hw;obtain⟨t,ht,rfl⟩:=hw;have htm:=MQ ht;have m:B t=He L (B0 x y z a b c) t:=by rw[hB]
   obtain⟨C,D,A,rfl,hi1,hj1,Y,n1,n2,n3⟩:=AT (MQ ht);have g1:=hv C D hi1 hj1 n1;have g2:=hv D A hj1 Y n2;have g3:=hv C A hi1 Y n3;replace m:B [C,D,A]=Hd (B0 x y z a b c C A) (BZ L (B0 x y z a b c C D) (B0 x y z a b c D A)):=m;generalize B0 x y z a b c C D=p1 at g1 m;generalize B0 x y z a b c D A=p2 at g2 m;generalize B0 x y z a b c C A=p3 at g3 m;have q3:=N.get _ _ hq;show ab rfl λQ2 hn hr=>?_
   nofun
   delta wS wT wE wA;show ab (oo (bW J) g3) #[Hf q3,ab (oo (bW J) g1) (ab (oo (bW J) g2) (ab (oo (bW J) g3) ?_))];have X:Me.get.fn (.ref q) [.tup [.int p1,.int p2],.ref ↥E] (E++[O.lst [.int p3]])=gV ((bn U (bc p1 p2)).getD (.ref ↥E),E++[O.lst [.int p3]]):=by
    have hk:gR (.tup [.int p1,.int p2])=gV (bc p1 p2):=lU
    (delta Me.fn u6;simp only[bW (aw q3),hk])
   show ab X ?_;have hres:∃l ws,(bn U (bc p1 p2)).getD (.ref ↥E)=.ref l/\(E++[O.lst [.int p3]])[l]?=gV (.lst (aj ws))/\(!(ws.any λw=>jQ (.int w) (.int p3)))=B [C,D,A]:=by
    rcases(hm.ka N).look p1 p2 with⟨hg,hl⟩|⟨l,ws,hg,_,hl,he⟩
    ·show#[↥E,[p3],by rw[hg];rfl,ag,?_]
     rw[m,hl]
     (unfold jQ;delta Hd;simp)
    ·show#[l,ws,by rw[hg];rfl,aw hl,?_]
     rw[m,he];rfl
   obtain⟨l,ws,hl1,hl2,hl3⟩:=hres;dsimp only;rw[hl1];show ab (AU  hl2) ?_;delta wB;rw[hl3];show ap (Q0:=Q2) (λhb Q3 _ hr3=>st (hr3 _ _ (hr _ _ ?_))) λhb Q3 hn3 _=>ba (hn3 _ _ (hK _ _ (ba (hn _ _ #[#[_,_,_,rfl],aw J,aw l3,N.trans .push,?_]))))
   ·have:=k _ (N.trans (Ka.push (o:=O.lst [.int p3])))
    rwa [OO.mpr #[_,htm,hb]]at this
   ·rw[Nd,ht,List.any_append,M,QS];show(B [C,D,A]||false)=false
    rw[hb];rfl
  ·rintro Z E ⟨⟨x7,x8,x9,rfl⟩,J,l3,N,M⟩;rw[Mr,Nl]at M;have:=k _ N;rw[M]at this;show hK _ _ (st this)
end
def Fa {a n:Mz}{m0 b c x y z:MM}(d:0<=m0/\m0<a)(f:0<=b/\b<a)(g:0<=c/\c<a)(i:0<=x/\x<n)(j:0<=y/\y<n)(l:0<=z/\z<n):GoodW a n [(m0,[]),(b,[x]),(c,[y,z])]:=by
 show#[λk p h=>?_,λk p h=>?_,λk p h=>?_]<;>match k,h with
 |0,h=>cases h;first|show d|rfl|(intro w hw;cases hw)
 |1,h=>cases h;first|show f|rfl|(intro w hw;rw[MS.mp hw];show i)
 |2,h=>cases h;first|show g|rfl|(intro w hw;rcases M5.mp hw with e|hw<;>first|show e▸j|(rw[MS.mp hw];show l))
 |n+3,h=>simp at h
def Hg { n:Mz}(b:∀Q:W->Prop,Q (.int n)->wV Z i Q)(d:n<=3)(k:∀j:MM,0<=j->j<=27->j=n*n*n->Q (.int j,S)):wE M (.op .mul (.op .mul (.v i) (.v i)) (.v i)) Z S Q:=by
 have c : -(2^64)<(n:MM):=∅
 have b2:(n:MM)<2^64:=∅
 have hc:(n:MM)*n*n<=27/\0<=(n:MM)*n*n:=by rcases(show n=0\/n=1\/n=2\/n=3 by omega)with h|h|h|h<;>rw[h]<;>decide
 left;have a:∀m ,gP _ _ _ S=gV (.int (m*n),S):=λm=>vO c b2
 generalize gP _=B at a ⊢;show b _ ?_;show b _ ?_;show ab (a _) ?_;show b _ ?_;show ab (a _) ?_;have:=k _ hc.2 hc.1 rfl;show this
def AW {K:Fm->aa->Prop}{  n:Mz}(f:∀Q:W->Prop,Q (.int n)->wV Z i Q)(d:n<=3)(ok:gW b=true)
  (h:∀j:MM,0<=j->j<=27->j=n*n*n->∃I:Mz->Fm->aa->Prop,I 0 Z S/\(∀(i:Mz) Z S,i<j->I i Z S->Ak M fuel b (Z.set c (gV (.int i))) S (I (i+1)) Q)/\∀Z S,I j.toNat Z S->K Z S) :
  Wp (gF M fuel (.loop (.nm c) (.rng #v[.op .mul (.op .mul (.v i) (.v i)) (.v i)]) b) Z S) (tQ K Q):=
 have hw:=Hg    f d λj g a e=>let ⟨I,h0,h1,h2⟩:=h j g a e;#[j,I,rfl,∅,h0,h1,h2]
 lT rfl ok hw
abbrev w3 (t:MM×MM×MM)(x y z:MM):Wd:=[(t.1,[]),(t.2.1,[x]),(t.2.2,[y,z])]
abbrev HY (a:Mz)(bs:Mq MM)(L:Mq fP)(x y z:MM)(g:Wd):Prop:=xL bs L x y z=true/\∃t,Ris a t/\g=dc bs (w3 t x y z)
abbrev AX (a:Mz)(bs:Mq MM)(e:Mq Wd):Prop:=∃b L c d,(b,L,c)∈KT/\d∈hZ b/\bs=cO b d ↥b/\(a:MM)<=c/\∀g,g∈e↔∃x y z:MM,(0<=x/\x<↥bs)/\(0<=y/\y<↥bs)/\(0<=z/\z<↥bs)/\HY a bs (L.map (kA d)) x y z g
abbrev Hh (a:Mz)(bs:Mq MM)(b:Mq Wd):Prop:=G8 a bs b\/AE a bs b\/AX a bs b
def AY {n:Mz}{P:MM->MM->MM->Prop}(a:n=2\/n=3)(f:j=(n:MM)*n*n):(∃k:Mz,k<j.toNat/\P (k % n) (k/n % n) (k/n/n))↔∃x y z:MM,(0<=x/\x<n)/\(0<=y/\y<n)/\(0<=z/\z<n)/\P x y z:=by
 constructor
 ·rintro⟨k,hk,h⟩;show#[_,_,_,?_,?_,?_,h]<;>rcases a with rfl|rfl<;>omega
 ·rintro⟨x,y,z,g,i,l,h⟩;show#[(x+n*y+n*n*z).toNat,?_,?_]
  ·rcases a with rfl|rfl<;>omega
  ·have e:(((x+n*y+n*n*z).toNat:Mz):MM)=x+n*y+n*n*z:=by rcases a with rfl|rfl<;>omega
   rw[e];have b:(x+n*y+n*n*z) % n=x:=by rcases a with rfl|rfl<;>omega
   have c:(x+n*y+n*n*z)/n % n=y:=by rcases a with rfl|rfl<;>omega
   have d:(x+n*y+n*n*z)/n/n=z:=by rcases a with rfl|rfl<;>omega
   rw[b,c,d];show h
section
variable{defs:Mq (M2×Df)}{fuel d:Mz}{S:aa}{r:Mz}{Q:QW}
def AZ (hfu:20<fuel)(G:Gen defs)(hf:Fl S r)(k:∀w m,RuleG Hh w->Fl m r->Kp r S m->Q (w,m)):wO (aL (ar defs fuel (d+7)) "_law_laying_rule" 1 [.ref r] S) Q:=by
 show ay G.laying_rule rfl rfl λQ' hR=>?_
 replace k:∀w m,RuleG Hh w->Fl m r->Kp r S m->Q' (.rt w,m):=λz m a b c=>hR _ _ (k z m a b c)
 clear hR;change wZ _ _ bX [gV (.ref r),td,td,td,td,td,td,td,td,td,td,td,td,td,td] S Q';unfold bX;nofun
 left;show bP  G.pick hf #v[] #v[] λv S1 v0 v7 f1 k1=>hK _ _ ?_
 clear hK K;nofun
 delta wS wT wE wV wG mY dj wB;show ap (Q0:=Q') (λ_ Q2 _ hr=>?_) (λ_ Q2 hn _=>ba (hn _ _ (hK _ _ ?_)))
 ·show st ?_;left;show rK  hfu G f1 λw S2 a b c=>hr _ _ (k w S2 (a.imp λ_ _ _ h=>.inr (.inl h)) b (k1.trans c))
 clear hK K hn;nofun
 delta wS wT wE wV wG mY dj wB;show ap (Q0:=Q') (λ_ Q2 _ hr=>?_) (λ_ Q2 hn _=>ba (hn _ _ (hK _ _ ?_)))
 ·show st ?_;left;show xI  hfu G f1 λw S2 a b c=>hr _ _ (k w S2 (a.imp λ_ _ _ h=>.inl h) b (k1.trans c))
 clear hK K hn;have hr1:=f1.lt;nofun
 left;show nb  G f1 λw2 S2 hw2 f2 k2=>?_
 obtain⟨f,q0,U0,L0,l,rfl,hkt,hq0,hq0l,hm0⟩:=hw2;obtain⟨B,m1,m3,m6,_⟩:=AO _ hkt;dsimp only at B m1 m3 m6;delta wU;show ab (show dZ [2,3,4] [.tup (aj f),.ref q0,.int l] [gV (.ref r),gV (.int v),td,td,td,td,td,td,td,td,td,td,td,td,td]=gV [gV (.ref r),gV (.int v),gV (.tup (aj f)),gV (.ref q0),gV (.int l),td,td,td,td,td,td,td,td,td,td]from rfl) (hK _ _ ?_)
 clear hK K;nofun
 left;show bP  G.pick f2 ∅ ∅ λv3 S3 v30 v3m f3 k3=>?_
 delta g9 dj;obtain⟨a,ea⟩:∃a:Mz,1+v3=a:=#[(1+v3).toNat,∅]
 rw[ea];show hK _ _ ?_;clear hK K;nofun
 left;show tZ  G  hkt f3 hr1 (k2.trans k3) (k3.get _ _ ∅ hq0) hq0l (hm0.kp hr1 k3) λM q U S4 hnmm hq hql hm f4 k4=>?_
 have hb:=(vU f B M hnmm).2.2.2;have X:=gL f M ↥f;have W:∀gs,(∀g,g∈gs↔∃x y z:MM,(0<=x/\x<(cO f M ↥f).length)/\(0<=y/\y<(cO f M ↥f).length)/\(0<=z/\z<(cO f M ↥f).length)/\HY a (cO f M ↥f) (L0.map (kA M)) x y z g)->AX a (cO f M ↥f) gs:=λgs h=>#[f,L0,l,M,hkt,hnmm,rfl,∅,h]
 generalize cO f M ↥f=bs at hb X W ⊢;generalize L0.map (kA M)=L at hm W;delta wU;show ab (show dZ [2,3] [.tup (aj bs),.ref q] [gV (.ref r),gV (.int v),gV (.tup (aj f)),gV (.ref q0),gV (.int l),gV (.int a),td,td,td,td,td,td,td,td,td]=gV [gV (.ref r),gV (.int v),gV (.tup (aj bs)),gV (.ref q),gV (.int l),gV (.int a),td,td,td,td,td,td,td,td,td]from rfl) (hK _ _ ?_)
 clear hK K;rw[<- X]at m6;have hn:↥bs=2\/↥bs=3:=by rw[X];show(AR f B).1
 have hsz:SizeOk a bs:=#[∅,hb,by
  have h1:(a:MM)*↥bs<=l*↥bs:=Int.mul_le_mul_of_nonneg_right ∅ ∅
  exact_mod_cast Int.le_trans h1 m6,∅]
 clear m6 hm0 hq0 hq0l X B k2 k3 f2 f3;nofun
 left;show lS  hfu G f4 ∅ ∅ λms ns H hml hnl hnm f5 k5=>hK _ _ ?_
 clear hK K;have kk:Kp r S H:=k1.trans (k4.trans k5);have hrt:=f5.lt;have hq5:H[q]?=gV (.dic U):=k5.get _ _ ∅ hq
 have hm5:MustL H ↥S1 U L:=hm.kp hr1 k5;have hqn:q<↥H:=bo hq5;clear k1 k4 k5 f4 hm hq hql f1;show st ?_;left;nofun
 left;show aC ?_;rw[show(aj bs).length=↥bs from Mr ..]
 show hK _ _ ?_;clear hK K;nofun
 show AW  (λQ q=>q) ∅ rfl λj j0 j27 hj=>?_
 show#[(λi Z m=>(∃x9 x10 x11 x12 s n,Z=[gV (.ref r),gV (.int v),gV (.tup (aj bs)),gV (.ref q),gV (.int l),gV (.int a),gV (d7 ms ns bs []),gV (.ref ↥H),gV (.int ↥bs),x9,x10,x11,x12,s,n])/\(∃U T,m[↥H]?=gV (.dic U)/\FigD (aW a bs) U T/\∀g,g∈T↔∃k:Mz,k<i/\HY a bs L ((k:MM) % ↥bs) ((k:MM) / ↥bs % ↥bs) ((k:MM) / ↥bs / ↥bs) g)/\m[q]?=gV (.dic U)/\MustL m ↥S1 U L/\Fl m r/\Kp r S m),#[#[_,_,_,_,_,_,rfl],#[[],[],ag,.nil,λg=>#[λh=>(nomatch h),λ#[k,h,_]=>(nomatch h)]],aw hq5,hm5.ka .push,f5.ka .push,kk.trans .push],?_,?_]
 ·rintro i Z S6 hi ⟨⟨x9,x10,x11,x12,s,n,rfl⟩,⟨kvd,T,e6,hd,C⟩,hq6,hm6,f6,k6⟩ Q2 hn2 _;clear hK k W;have A:(0:MM)<↥bs:=∅
  have hnb:(↥bs:MM)<1073741824:=∅
  have y1:0<=(i:MM) % ↥bs/\(i:MM) % ↥bs<↥bs:=#[PL _ ∅,O7 _ A]
  have y2:0<=(i:MM) / ↥bs % ↥bs/\(i:MM) / ↥bs % ↥bs<↥bs:=#[PL _ ∅,O7 _ A]
  have y3:0<=(i:MM) / ↥bs / ↥bs/\(i:MM) / ↥bs / ↥bs<↥bs:=by
   rcases hn with h|h<;>rw[h]at hj ⊢<;>omega
  nofun
  left;show ab (nY A) (ab (pN A hnb) (ab (nY A) ?_));delta w2;show hK _ _ ?_;clear hK K;nofun
  left;show ab (pN A hnb) (ab (pN A hnb) (hK _ _ ?_));clear hK K;dsimp only;have E:∀u:Mq Wd,(∀g,g∈u↔g∈T\/HY a bs L ((i:MM) % ↥bs) ((i:MM) / ↥bs % ↥bs) ((i:MM) / ↥bs / ↥bs) g)->∀g,g∈u↔∃k:Mz,k<i+1/\HY a bs L ((k:MM) % ↥bs) ((k:MM) / ↥bs % ↥bs) ((k:MM) / ↥bs / ↥bs) g:=λu h g=>by
   rw[h,C];constructor
   ·rintro(⟨k,hk,h⟩|h)
    ·show#[k,∅,h]
    ·show#[i,∅,h]
   ·rintro⟨k,hk,h2⟩
    by_cases e:k=i
    ·rw[e]at h2;show .inr h2
    ·show .inl #[k,∅,h2]
  generalize(i:MM) % ↥bs=z1 at y1 E ⊢;generalize(i:MM) / ↥bs % ↥bs=z2 at y2 E ⊢;generalize(i:MM) / ↥bs / ↥bs=z3 at y3 E ⊢;clear C;nofun
  delta wS wT wA wE wV wG;show AV  G hb y1 y2 y3 hq6 hm6 λS7 I=>?_
  delta eW dj;show ap (Q0:=Q2) (λY Q3 hn3 _=>?_) (λY Q3 hn3 _=>ba (hn3 _ _ (hK _ _ (ba (hn2 _ _ #[#[_,_,_,_,_,_,rfl],#[kvd,T,I.get _ _ e6,hd,E T λg=>#[.inl,λh=>h.elim id λh=>by rw[h.1]at Y;cases Y]],I.get _ _ hq6,hm6.ka I,f6.ka I,k6.trans (I.kp r)])))))
  show aN λK3 hK3=>?_
  show d8 rfl rfl ?_;left;have h56:↥H<↥S6:=bo e6;have h67:=I.len;show AH  G  ∅ λt ts S8 e8 ht ht7 k8=>?_
  show#[t,ts.map rJ,(λj Z m=>(∃x9 s n,Z=[gV (.ref r),gV (.int v),gV (.tup (aj bs)),gV (.ref q),gV (.int l),gV (.int a),gV (d7 ms ns bs []),gV (.ref ↥H),gV (.int ↥bs),x9,gV (.int z1),gV (.int z2),gV (.int z3),s,n])/\(∃U u,m[↥H]?=gV (.dic U)/\FigD (aW a bs) U u/\∀g,g∈u↔g∈T\/∃t∈ts.take j,g=dc bs (w3 t z1 z2 z3))/\m[q]?=gV (.dic U)/\MustL m ↥S1 U L/\m[t]?=gV (.lst (ts.map rJ))/\Fl m r/\Kp r S m),rfl,#[#[_,_,_,rfl],#[kvd,T,k8.get _ _ (I.get _ _ e6),hd,λg=>#[.inl,λh=>h.elim id λ#[t,h,_]=>by simp at h]],k8.get _ _ (I.get _ _ hq6),(hm6.ka I).ka k8,e8,(f6.ka I).ka k8,k6.trans ((I.trans k8).kp r)],λi Z m h=>h.2.2.2.2.1,?_,?_]
  ·rintro j w Z S9 hw ⟨⟨x9,s,n,rfl⟩,⟨kvd,u,e9,hd,C⟩,hq9,hm9,ht9,f9,k9⟩;clear hK3 hn3 hK hn2 E;rw[MD,Mv]at hw;obtain⟨⟨N,O,R⟩,htr,rfl⟩:=hw;obtain⟨t1,t2,t3⟩:=((ht _).mp (MQ htr)).ok;show ab (show lH (.nm 13) (rJ (N,O,R)) [gV (.ref r),gV (.int v),gV (.tup (aj bs)),gV (.ref q),gV (.int l),gV (.int a),gV (d7 ms ns bs []),gV (.ref ↥H),gV (.int ↥bs),x9,gV (.int z1),gV (.int z2),gV (.int z3),s,n] S9=gV ([gV (.ref r),gV (.int v),gV (.tup (aj bs)),gV (.ref q),gV (.int l),gV (.int a),gV (d7 ms ns bs []),gV (.ref ↥H),gV (.int ↥bs),x9,gV (.int z1),gV (.int z2),gV (.int z3),gV (rJ (N,O,R)),n],S9)from rfl) λQ4 hn4 _=>?_
   have hu:GoodW a ↥bs [(N,[]),(O,[z1]),(R,[z2,z3])]:=Fa t1 t2 t3 y1 y2 y3;nofun
   left;show af #v[] rfl (af #v[] rfl (hK _ _ ?_))
   clear hK K;show st ?_;left;show af #v[] rfl (ab (cg (i6 rfl)) ?_)
   show rF     G hb hnl hu rfl λS10 D=>?_
   have e10:=D.get _ _ e9;show AF e10 hd hsz hu rfl λo V #[J,ho1,ho2] ho3=>ba (hn4 _ _ #[#[_,_,_,rfl],#[J,V,ho1,ho2,λg=>?_],by rw[aV ∅];show D.get _ _ hq9,(hm9.ka D).set e10,by rw[aV ∅];show D.get _ _ ht9,(f9.ka D).own hrt,(k9.trans (D.kp r)).late kk.len])
   rw[ho3,C,Nd,htr];constructor
   ·rintro((h|⟨t,h,e⟩)|rfl)
    ·show .inl h
    ·show .inr #[t,NA _ h,e]
    ·show .inr #[(N,O,R),Nf _ (by simp),rfl]
   ·rintro(h|⟨t,h,rfl⟩)
    ·show .inl (.inl h)
    ·rcases Na.mp h with h|h
     ·show .inl (.inr #[t,h,rfl])
     ·have:t=(N,O,R):=by simpa using h
      subst this;show .inr rfl
  ·rintro Z S9 ⟨⟨x9,s,n,rfl⟩,⟨J,V,h1,h2,h3⟩,hq9,hm9,ht9,f9,k9⟩;rw[Mr,Nl]at h3;show hK3 _ _ (ba (hn3 _ _ (hK _ _ (ba (hn2 _ _ #[#[_,_,_,_,_,_,rfl],#[J,V,h1,h2,E V λg=>?_],hq9,hm9,f9,k9])))))
   rw[h3];show or_congr Wg #[λ#[t,h,e]=>#[Y,t,(ht t).mp h,e],λ#[_,t,h,e]=>#[t,(ht t).mpr h,e]]
 ·rintro Z S6 ⟨⟨x9,x10,x11,x12,s,n,rfl⟩,⟨kvd,T,e6,hd,C⟩,hq6,hm6,f6,k6⟩;show hK _ _ (st ?_);left;show E7  (Q:=λp=>Q' (.rt p.1,p.2)) e6 hd hsz hml hnl hnm (.inr (.inr (W T λg=>(C g).trans (AY (P:=λx y z=>HY a bs L x y z g) hn hj)))) λw S8 hw k8=>k w S8 hw (f6.ka k8) (k6.trans (k8.kp r))
end
def oq:∀n:Mz,io (Ny n (.bl true))=gV (Ny n true)
 |0=>rfl
 |n+1=>by rw[Qc,io,oq n];rfl
def D8 (n:Mz):(Ny n true).all id=true:=by
 rw[MY];intro x a;rw[(List.mem_replicate.mp a).2];rfl
abbrev vV:Ss:=
 #v[.ite (.cmp .gt (.v 2) (.v 3)) #v[.ret (.ix (.ix (.ix (.v 1) (.v 2)) (.c (.int 1))) (.v 3))] .nil,.ret (.ix (.ix (.ix (.v 0) (.c (.int 1))) (.ix (.ix (.ix (.v 1) (.v 3)) (.c (.int 1))) (.v 2))) (.c (.int 1)))]
abbrev iC:Ss:=
 #v[.ret (.bi .tuple #v[.comp (.own "point_over" 4 #v[.v 4,.v 5,.sl (.v 3) .no (.yes (.v 1)),.v 2]) (.tp [1,2]) (.enu #v[.v 2]) .nil [td,td,td,gV 2,gV 0,gV 1]])]
abbrev b8:Ss:=
 #v[.ret (.tup #v[.ix (.ix (.v 1) (.v 3)) (.c (.int 0)),.bi .tuple #v[.comp (.own "way" 4 #v[.v 3,.v 4,.v 2,.v 1]) (.nm 1) (.seq (.v 2)) .nil [td,td,gV 3,gV 0,gV 1]]])]
section
variable{defs:Mq (M2×Df)}{fuel d:Mz}{S:aa}{r:Mz}{Q:QW}
def A6 {Q:QO}(s:GoodB bs)(hl:↥n=↥bs)(m:GoodW a ↥bs u)(hi:i<↥u)(p:j<↥u)(x:i≠j)(k:Q (.rt (.int (bg bs u i j)),S)) :
  wZ M fuel vV [gV (.tup [m0,.tup (MR aK n bs),b0]),gV (az u),gV (.int i),gV (.int j)] S Q:=by
 have l:=aq (d:=(0,[])) hi;have f:=aq (d:=(0,[])) p;unfold bg at k;delta vV;nofun
 delta wS wT wE wV wG Lz wO wB az;show ap (Q0:=Q) (λh q _ y=>?_) (λh q g _=>?_)
 ·have c:j<i:=by have:=NF h;omega
  rw[M4 c]at k;have hw:j<(u.getD i (0,[])).2.length:=by rw[m.len i _ l];show c
  show st ?_;delta wS wE wV wG;show af (MK i) (cN hi) (af #v[] rfl (af (MK j) ?_ (y _ _ k)))
  rw[M0,MD,aq (d:=0) hw];rfl
 ·have c:¬ j<i:=by have:=Qs h;omega
  rw[Nm c]at k;show ba (g _ _ (hK _ _ ?_));clear g hK;have hw:i<(u.getD j (0,[])).2.length:=by rw[m.len j _ f];omega
  have o:=aq (d:=0) hw;obtain⟨r,z⟩:=m.way j _ f _ (MQ o);obtain⟨b,e,t,w⟩:=s.rng ((u.getD j (0,[])).2.getD i 0).toNat ∅
  have g:((u.getD j (0,[])).2.getD i 0).toNat<↥n:=∅
  rw[getD_some e]at k;show st ?_;delta wS wE wV wG;show af #v[] rfl (af (MK j) (cN p) (af #v[] rfl (af (MK i) ?_ (af r (lQ (MC g) e) (af #v[] rfl k)))))
  rw[M0,MD,o];rfl
structure Parts (defs:Mq (M2×Df)):Prop where
 way:Is defs ("way": M2) 4 4 vV
 over:Is defs ("point_over": M2) 4 4 b8
def Fb (P:Parts defs)(f:GoodB bs)(hl:↥c=↥bs)(h:GoodW a ↥bs u)(hi:i<↥u)(g:j<↥u)(b:i≠j)(k:Q (.int (bg bs u i j),S)) :
  wO (aL (ar defs fuel (d+1)) "way" 4 [.tup [m0,.tup (MR aK c bs),b0],az u,.int i,.int j] S) Q:=
 ay P.way rfl rfl λl e=>A6 f hl h hi g b (e _ _ k)
def Hi (P:Parts defs)(y:GoodB bs)(hl:↥e=↥bs)(A:GoodW a ↥bs u)(l:∀p∈ps,p<↥u/\i≠p)(hi:i<↥u)(hsz:↥ps<=1000)(k:∀b,Ka S b->Q (aH ((u.getD i (0,[])).1,ps.map λq=>bg bs u i q),b)) :
  wO (aL (ar defs fuel (d+2)) "point_over" 4 [.tup [m0,.tup (MR aK e bs),b0],az u,.tup (ac ps),.int i] S) Q:=by
 show ay P.over rfl rfl λs t=>?_
 replace k:∀b,Ka S b->s (.rt (aH ((u.getD i (0,[])).1,ps.map λq=>bg bs u i q)),b):=λb a=>t _ _ (k b a)
 clear t;change wZ _ _ b8 [gV (.tup [m0,.tup (MR aK e bs),b0]),gV (az u),gV (.tup (ac ps)),gV (.int i)] S s;generalize h:W.tup [m0,.tup (MR aK e bs),b0]=R;delta b8;show st ?_;left;show af (MK i) (cN hi) (af #v[] rfl ?_)
 show vP (ac ps) (λj ys f c=>(∃g,f=[td,g,gV (.int i),gV R,gV (az u)])/\ys=(ps.take j).map (λq=>W.int (bg bs u i q))/\Ka S c) rfl rfl rfl #[rfl,#[td,rfl],rfl,.refl] ?_ ?_
 ·rintro j w ys f c hw ⟨⟨g,rfl⟩,rfl,r⟩;unfold ac at hw;rw[MD,Mv]at hw;obtain⟨q,x,rfl⟩:=hw;obtain⟨n,m⟩:=l q (MQ x);show ab (show lH (.nm 1) (.int (q:MM)) [td,g,gV (.int i),gV R,gV (az u)] c=gV ([td,gV (.int (q:MM)),gV (.int i),gV R,gV (az u)],c)from rfl) ?_
  delta eS wC wE wA wV wG;subst h;show#[λ_=>Fb (d:=d) P y hl A hi n m #[#[_,rfl],?_,r],λz=>by cases z]
  rw[Nd,x];simp
 ·rintro ys f c ⟨_,rfl,r⟩;rw[show(ac ps).length=↥ps from Mr ..,Nl]
  show#[jC (by rw[Mr];show hsz),cH ag ?_]
  have:=k _ (r.trans (Ka.push (o:=O.lst (ps.map λq=>W.int (bg bs u i q)))))
  unfold aH at this;rw[Nj]at this;show this
def J1 (P:Parts defs)(g:Is defs ("part") 3 3 iC)(y:GoodB bs)(hl:↥t=↥bs)(C:GoodW a ↥bs u)(c:∀p∈ps,p<↥u)(r:ps.Nodup)(hsz:↥ps<=1000)(k:∀f,Ka S f->Q (az (ae bs u ps),f)) :
  wO (aL (ar defs fuel (d+3)) "part" 3 [.tup [m0,.tup (MR aK t bs),b0],az u,.tup (ac ps)] S) Q:=by
 show ay g rfl rfl λG x=>?_
 replace k:=λf a=>x _ _ (k f a)
 generalize o:W.tup [m0,.tup (MR aK t bs),b0]=R;show st ?_;left;show DQ (ac ps) (λj ys i b=>(∃l n,i=[td,l,n,gV (.tup (ac ps)),gV R,gV (az u)])/\ys=((ae bs u ps).take j).map aH/\Ka S b) rfl rfl rfl #[rfl,#[td,td,rfl],rfl,.refl] ?_ ?_
 ·rintro j w ys i b hw ⟨⟨l,n,rfl⟩,rfl,s⟩;unfold ac at hw;rw[MD,Mv]at hw;obtain⟨q,h,rfl⟩:=hw;have A:=(MP.mp h).1;have eq:q=ps[j]:=(MP.mp h).2.symm;show ab (show lH (.tp [1,2]) (.tup [.int j,.int q]) [td,l,n,gV (.tup (ac ps)),gV R,gV (az u)] b=gV ([td,gV (.int j),gV (.int q),gV (.tup (ac ps)),gV R,gV (az u)],b)from rfl) ?_
  delta eS wC wE wA wP wV wG wN;show#[λ_=>ab (a:=(.tup (ac (ps.take j)),b)) ?_ ?_,λz=>by cases z]
  ·revert qe dy;unfold ac;rw[OR]
  ·subst o;show Hi  P y hl C (λp g=>#[c p (N8 g),?_]) (c q (MQ h)) (by rw[M6];omega) λH D=>#[#[_,_,rfl],?_,s.trans D]
   ·obtain⟨m,B,e⟩:=N5.mp g;rw[M6]at B;rw[Ou]at e;rw[eq,<- e];intro z;have:=(Od r).mp z;omega
   ·have v:(ae bs u ps)[j]?=gV ((u.getD q (0,[])).1,(ps.take j).map λE=>bg bs u q E):=by
     unfold ae;rw[MD,NQ A,Nb,getD_some h]
    rw[Nd,v];simp
 ·rintro ys i b ⟨_,rfl,s⟩;rw[show(ac ps).length=↥ps from Mr ..,<- aB bs u ps,Nl]
  show#[jC (by rw[Mr,aB];show hsz),cH ag (k _ (s.trans .push))]
end
section
variable{S:aa}{Q:QW}
def ou (n:Mz):yZ 0 ((n:MM)-0).toNat=ac (MJ n):=by
 show Nw λk _=>by rw[QH]
def D9 { n:Mz}(h:S[i]?=gV (.rng 0 n))(c:n<=1000)(q:Q (.ref ↥S,S++[.lst (ac (MJ n))])):wO (Bi.list.fn [.ref i] S) Q:=by
 show ab ?_ q;have a:o5 S i=gV (0,(n:MM)):=by simp[o5,h]
 have b:eX [.ref i] S=gV (.ref ↥S,S++[.lst (ac (MJ n))]):=by
  (delta eX;revert a)
  rw[M4 #[∅,∅,∅,∅,by rw[NT];omega],ou]
 revert Bi.fn rq b
def J2 (h:S[t]?=gV (.lst xs))(a:0<=v)(hw:xs[v.toNat]?=gV w)(hl:↥xs<=1000)(q:Q (w,S.set t (.lst (xs.eraseIdx v.toNat)))):wO (Me.pop.fn (.ref t) [.int v] S) Q:=by
 show ab ?_ q;have c:=(MP.mp hw).1;have b:seqIndex? v ↥xs=gV v.toNat:=by
  unfold seqIndex?;rw[Nm (show ¬ v<0 by omega)]
  show M4 (by rw[MB];show#[NB a,NB ∅])
 (delta Me.fn CQ;(rw[bV h];dsimp only))
 rw[M4 #[∅,∅]]
 revert b hw
end
section
variable{defs:Mq (M2×Df)}{fuel d:Mz}{S:aa}{r:Mz}{Q:QW}
def J3 (h:S[t]?=gV (.lst xs))(a:S[l]?=gV (.lst ys))(hl:↥xs+↥ys<=1000)(q:Q (.non,S.set t (.lst (xs++ys)))):wO (Me.extend.fn (.ref t) [.ref l] S) Q:=by
 show ab ?_ q
 (delta Me.fn iN;simp only[bV h,bV a])
 rw[M4 (jC hl)]
end
abbrev aO (bs:Mq MM)(v:Wd)(ps:Mq Mz)(i:Mz):Pt:=((v.getD i (0,[])).1,ps.map λq=>bg bs v i q)
abbrev cX (n:Mz)(os:Mq (Mq Mz)):Mq (Mq Mz):=os.flatMap λo=>((MJ n).filter λp=>decide (p∉o)).map λp=>o++[p]
def aY (bs:Mq MM)(v:Wd)(o:Mq Mz)(p:Mz):ae bs v (o++[p])=ae bs v o++[aO bs v o p]:=by
 unfold ae aO;rw[Mt,Ng,Ol,MZ];congr 1
 ·show Nw λk hk=>?_
  have hk:=ML.mp hk;rw[show(o++[p]).getD k 0=o.getD k 0 by simp[No hk],List.take_append_of_le_length (by show Pe ‹_›)]
 ·simp
def t8 {xs:Mq MM}(h:↥xs=k):(MJ k).map (λq=>xs.getD q 0)=xs:=by
 apply On
 ·simp[h]
 ·intro i b a;simp[a]
def jE (c:GoodW a n u)(hk:k<↥u):aO bs u (MJ k) k=u.getD k (0,[]):=by
 unfold aO;have hl:=c.len k _ (aq (d:=(0,[])) hk);have e:((MJ k).map λq=>bg bs u k q)=(u.getD k (0,[])).2:=by
  show Eq.trans (Nw λq b=>?_) (t8 hl)
  have b:=ML.mp b;unfold bg;rw[M4 b]
 rw[e]
def rP :∀os:Mq (Mq Mz),(cX n os).length<=↥os*n
 |[]=>by simp[cX]
 |o::os=>by
  have ih:=rP (n:=n) os;unfold cX at ih ⊢;rw[Pj,Mt,Mr,Nh,RP];have:=OL (λp=>decide (p∉o)) (MJ n)
  rw[MX]at this;omega
def xM {os:Mq (Mq Mz)}:(cX n (os.take i)).length<=↥os*n:=by
 show M1 (rP _) (SD _ ?_);rw[M6];omega
def gM :∀xs ys:Mq MM,eV (ie S d) (xs.map W.int) (ys.map W.int)=gV (decide (xs=ys))
 |[],[]=>rfl
 |[],_::_=>rfl
 |_::_,[]=>rfl
 |x::xs,y::ys=>by
  have e:ie S d (.int x) (.int y)=gV (x==y):=by cases d<;>rfl
  simp only[NL,eV,e,gM xs ys]
  by_cases h:x=y
  ·subst h;by_cases a:xs=ys<;>simp[a]
  ·have h':(x==y)=false:=by simpa using h
   simp[h,h']
def A7 (p q:Pt):ie S (d+2) (aH p) (aH q)=gV (decide (p=q)):=by
 obtain⟨m,ws⟩:=p;obtain⟨b,a⟩:=q;change eV _ _ _=_;have e:ie S (d+1) (.int m) (.int b)=gV _:=rfl;have c:ie S (d+1) (.tup _) (.tup _)=gV _:=gM ws a;revert eV e c
 by_cases h:m=b
 ·subst h;by_cases f:ws=a<;>simp[f]
 ·have h':(m==b)=false:=by simpa using h
  simp[h,h']
def lV :∀u v:Wd,eV (ie S (d+2)) (u.map aH) (v.map aH)=gV (decide (u=v))
 |[],[]=>rfl
 |[],_::_=>rfl
 |_::_,[]=>rfl
 |x::xs,y::ys=>by
  simp only[NL,eV,A7,lV xs ys]
  by_cases h:x=y
  ·by_cases a:xs=ys<;>simp[a]
  ·simp[h]
def Hj :bx .eq (az u) (az v) S=gV (.bl (decide (u=v)),S):=by
 show(eV _ _ _).map _=_;rw[lV];rfl
def ow (ps:Mq Mz):ac ps=(ps.map λ(p:Mz)=>(p:MM)).map W.int:=by rw[Nj];rfl
def lW {p:Mz}:∀ps:Mq Mz,((ac ps).any λz=>jQ z (.int p))=decide (p∈ps)
 |[]=>rfl
 |q::ps=>by
  show(q==(p:MM)||(ac ps).any _)=_
  rw[lW ps]
  by_cases h:q=p
  ·subst h;simp
  ·have a:(q==(p:MM))=false:=by simp;omega
   have b:¬ p=q:=λe=>h e.symm
   rw[a];simp[b]
def ox (ps:Mq Mz):(ac ps).all aP=true:=by
 rw[MY];intro x a;obtain⟨p,_,rfl⟩:=MN.mp a;rfl
def Ba {p:Mz}:bx .notin (.int p) (.tup (ac ps)) S=gV (.bl (decide (p∉ps)),S):=by
 change cY _ _ _ S=_;have a:(aP (.int p)&&(ac ps).all aP)=true:=by rw[ox];rfl
 revert cY sS yT cp a lW;congr 3
 by_cases h:p∈ps<;>simp[h]
abbrev bS:Ss:=
 #v[.set 2 (.lst .nil),.loop (.nm 3) (.seq (.v 0)) #v[.ex (.me .extend (.v 2) #v[.comp (.op .add (.v 2) (.tup #v[.v 1])) (.nm 1) (.rng #v[.v 1]) #v[.cmp .notin (.v 1) (.v 2)] [td,td,gV 3]])],.ret (.v 2)]
abbrev cq (os:Mq (Mq Mz)):Mq W:=os.map λo=>.tup (ac o)
section
variable{defs:Mq (M2×Df)}{fuel d:Mz}{S:aa}{Q:QW}
def t9 (h:S[t]?=gV (.lst xs))(a:S[l]?=gV (.lst ys))(hl:↥xs+↥ys<=1000000)(q:Q (.non,S.set t (.lst (xs++ys)))):wO (Me.extend.fn (.ref t) [.ref l] S) Q:=by
 show ab ?_ q;simp only[Me.fn,iN,bV h,bV a];rw[M4 (by rw[NT];show M1 ‹_› (Ni rfl))]
def jF (h:n<=1000000):n<=sizeLine:=by rw[NT];show M1 ‹_› (Ni rfl)
def Bb (H:Is defs ("longer_orders") 2 4 bS){os:Mq (Mq Mz)}(e:S[l]?=gV (.lst (cq os)))(D:n<=100)(s:∀o∈os,↥o<=100)(M:↥os*n<=100000)
  (k:∀ q g,g[q]?=gV (.lst (cq (cX n os)))->↥S<=q->Ka S g->Q (.ref q,g)) :
  wO (aL (ar defs fuel (d+1)) "longer_orders" 2 [.ref l,.int n] S) Q:=by
 show ay H rfl rfl λN G=>?_
 replace k:=λa b c e f=>G _ _ (k a b c e f)
 have I:=bo e;show st ?_;left;nofun
 show kJ l (cq os) (λi Z g=>(∃x,Z=[gV (.ref l),gV (.int n),gV (.ref ↥S),x])/\g[l]?=gV (.lst (cq os))/\g[↥S]?=gV (.lst (cq (cX n (os.take i))))/\Ka S g) rfl rfl #[rfl,#[td,rfl],aw e,ag,.push] (λi Z g h=>h.2.1) ?_ ?_
 ·rintro i w Z S1 hw ⟨⟨x,rfl⟩,A,m,y⟩;unfold cq at hw;rw[MD,Mv]at hw;obtain⟨o,E,rfl⟩:=hw;have s:=s o (MQ E);show ab rfl ?_;intro P D _;show st ?_;left;show#[cD m,?_];show gH n (λj ys v t=>(∃z,v=[td,z,gV (.tup (ac o))])/\ys=cq (((MJ j).filter λp=>decide (p∉o)).map λp=>o++[p])/\t=S1) rfl rfl rfl ∅ #[rfl,#[td,rfl],rfl,rfl] ?_ ?_
  ·rintro j ys v t R ⟨⟨z,rfl⟩,rfl,rfl⟩;delta eS wE wA wV wG Mx;show ab Ba ?_;delta wB;have B:(MJ (j+1)).filter (λp=>decide (p∉o))=(MJ j).filter (λp=>decide (p∉o))++(if j∉o then[j]else[]):=by
    rw[Ol,PJ];congr 1
    by_cases h:j∈o<;>simp[h]
   show#[λh=>?_,λh=>#[#[_,rfl],?_,rfl]]
   ·have h:=NF h;show ab (cg (jF (by rw[Mt,show(ac o).length=↥o from Mr ..];show _+1<=_;omega))) #[#[_,rfl],?_,rfl]
    rw[B,M4 h,MZ];unfold cq;simp[ac]
   ·have h:=Qs h;rw[B,Nm h,Nr]
  ·rintro ys v t ⟨_,rfl,rfl⟩;rw[M0];have C:(cq (((MJ n).filter λp=>decide (p∉o)).map λp=>o++[p])).length<=n:=by
    unfold cq;rw[Mr,Mr];show M1 (OL _ _) (by rw[MX];show MH _)
   have r:=aw (u:=O.lst (cq (((MJ n).filter λp=>decide (p∉o)).map λp=>o++[p]))) m
   have J:=xM (n:=n) (os:=os) (i:=i);have L:(cq (cX n (os.take i))).length=(cX n (os.take i)).length:=Mr ..;show#[jF ∅,t9 r ag ∅ (ba (D _ _ #[#[_,rfl],?_,?_,(y.trans .push).late (MH _)]))]
   ·rw[aV (by show NR ‹_›)];show aw A
   ·rw[aZ r];unfold cX cq;rw[Nd,E];simp
 ·rintro Z S1 ⟨⟨x,rfl⟩,A,m,y⟩;rw[show(cq os).length=↥os from Mr ..,Nl]at m
  show hK _ _ (st (k _ _ m (MH _) y))
end
def oy {n:Mz}{m:MM}(h:m=n)(f:∀Q:QW,Q (.int m,S)->wE M e Z S Q)(i:n<=1000)(k:∀a,Ka S a->Q (.tup (ac (MJ n)),a)):wE M (.bi .tuple #v[.bi .range #v[e]]) Z S Q:=by
 have b:Bi.range.fn [.int m] S=gV (.ref ↥S,S++[.rng 0 m]):=by
  revert Bi.fn jm;rw[M4 #[∅,∅]]
 have c:Bi.tuple.fn [.ref ↥S] (S++[.rng 0 m])=gV (.tup (ac (MJ n)),S++[.rng 0 m]):=by
  have d:o5 (S++[.rng 0 m]) ↥S=gV (0,m):=by simp[o5]
  revert Bi.fn jo d;rw[M4 #[∅,∅,∅,∅,by rw[NT];omega],h,ou]
 have g:wO (Bi.range.fn [.int m] S) λp=>wO (Bi.tuple.fn [p.1] p.2) Q:=by
  rw[b];change wO _ Q;rw[c];show k _ .push
 left;show f _ g
def rQ:∀xs:Mq MM,eE (xs.map T.int)=true
 |[]=>rfl
 |_::xs=>rQ xs
def kL:∀u:Wd,eE (u.map jg)=true
 |[]=>rfl
 |p::u=>by
  revert NL eE MB;show#[?_,kL u]
  (delta jg lq eE;simp[rQ])
def pW (u:Wd):lq (cJ u)=true:=kL u
abbrev bQ:Ss:=
 #v[.set 4 (.tup #v[.ix (.ix (.v 0) (.v 1)) (.c (.int 0)),.tup .nil]),.set 5 (.tup #v[.ix (.ix (.v 0) (.v 2)) (.c (.int 0)),.tup #v[.ix (.ix (.ix (.v 0) (.v 2)) (.c (.int 1))) (.v 1)]]),.ret (.tup #v[.v 4,.v 5,.tup #v[.ix (.ix (.v 0) (.v 3)) (.c (.int 0)),.tup #v[.ix (.ix (.ix (.v 0) (.v 3)) (.c (.int 1))) (.v 1),.ix (.ix (.ix (.v 0) (.v 3)) (.c (.int 1))) (.v 2)]]])]
abbrev dB (u:Wd)(i j k:Mz):Wd:=[((u.getD i (0,[])).1,[]),((u.getD j (0,[])).1,[(u.getD j (0,[])).2.getD i 0]),((u.getD k (0,[])).1,[(u.getD k (0,[])).2.getD i 0,(u.getD k (0,[])).2.getD j 0])]
section
variable{defs:Mq (M2×Df)}{fuel d:Mz}{S:aa}{Q:QW}
def vW (s:Is defs ("three_at") 4 6 bQ)(f:GoodW a n u)(l:i<j)(o:j<k)(b:k<↥u)(q:Q (az (dB u i j k),S)) :
  wO (aL (ar defs fuel (d+1)) "three_at" 4 [az u,.int i,.int j,.int k] S) Q:=by
 show ay s rfl rfl λg r=>?_
 replace q:=r _ _ q;change wZ _ _ _ [gV _,gV _,gV _,gV _,td,td] S g;have hi:i<↥u:=∅
 have c:j<↥u:=by show Oa ‹_› ‹_›
 have t:i<(u.getD j (0,[])).2.length:=by rw[f.len j _ (aq  c)];show l
 have x:j<(u.getD k (0,[])).2.length:=by rw[f.len k _ (aq  b)];show o
 have e:i<(u.getD k (0,[])).2.length:=∅
 have w:∀{p m:Mz},m<(u.getD p _).2.length->((u.getD p _).2.map W.int)[(m:MM).toNat]?=gV (.int ((u.getD p (0,[])).2.getD m 0)):=λ{p m} h=>by
  rw[M0,MD,aq  h];rfl
 show st ?_;left;show af (MK i) (cN hi) (af #v[] rfl ?_)
 show st ?_;left;show af (MK j) (cN c) (af #v[] rfl (af (MK j) (cN c) (af #v[] rfl (af (MK i) (w t) ?_))))
 show st ?_;left;show af (MK k) (cN b) (af #v[] rfl (af (MK k) (cN b) (af #v[] rfl (af (MK i) (w e) (af (MK k) (cN b) (af #v[] rfl (af (MK j) (w x) q)))))))
end
abbrev cF (U:Mq (T×W))(u:Wd)(i j k:Mz):M9:=(bn U (cJ (dB u i j k))).isSome
structure HasD (U:Mq (T×W))(L:Mq Wd):Prop where
 iff:∀t,t∈U.map (·.1)↔t∈L.map cJ
 len:↥U<=↥L
def Bc :(bn U t).isSome=true↔t∈U.map (·.1):=by
 constructor
 ·intro h;obtain⟨v,a⟩:=NS.mp h;show MN.mpr #[_,AI a,rfl]
 ·intro h;obtain⟨p,b,rfl⟩:=MN.mp h;obtain⟨v,a⟩:=D1 b;rw[a];rfl
def HasD.get (h:HasD U L)(t:T):(bn U t).isSome=decide (t∈L.map cJ):=by
 rw[PM,Bc,h.iff,M8]
def HasD.nil:HasD [] []:=#[λt=>by rfl,MH _]
def HasD.put (h:HasD U L):HasD (dY U (cJ f) v) (L++[f]):=by
 show#[λt=>?_,?_]
 ·rw[gK,MZ,Na,<- h.iff t]
  by_cases hk:cJ f∈U.map (·.1)
  ·rw[M4 hk];constructor
   ·show .inl
   ·rintro(z|z)
    ·show z
    ·rw[MS.mp z];show hk
  ·rw[Nm hk,Na];rfl
 ·have:=eF U (cJ f) v;have:=h.len;rw[Mt,Ng];omega
abbrev jG:Ss:=
 #v[.set 1 .dnew,.loop (.nm 2) (.seq (.ix (.v 0) (.c (.int 2)))) #v[.loop (.nm 3) (.seq (.own "_law_turns" 0 .nil)) #v[.put (.v 1) (.own "_law_part" 3 #v[.v 0,.v 2,.v 3]) (.c (.bl true))]],.ret (.v 1)]
abbrev bz (bs:Mq MM)(a:Mq Wd):Mq Wd:=a.flatMap λg=>au.map (ae bs g)
def lX (bs:Mq MM):∀a:Mq Wd,(bz bs a).length=6*↥a
 |[]=>rfl
 |g::a=>by
  have:=lX bs a;unfold bz at this ⊢;rw[Pj,Mt,this,Nh,Mr,show au.length=6 from rfl];omega
section
variable{defs:Mq (M2×Df)}{fuel d:Mz}{S:aa}{Q:QW}
def J4 (G:Gen defs)(hg:Is defs ("_law_bad") 1 4 jG){V:Mq M2}(hb:GoodB bs)(E:↥V=↥bs)(B:∀g∈m,GoodW a ↥bs g/\↥g=3)(h64:↥m<=100)
  (k:∀ q U l,l[q]?=gV (.dic U)->HasD U (bz bs m)->↥S<=q->Ka S l->Q (.ref q,l)) :
  wO (aL (ar defs fuel (d+3)) "_law_bad" 1 [.tup [m0,.tup (MR aK V bs),.tup (m.map az)]] S) Q:=by
 show ay hg rfl rfl λX hR=>?_
 replace k:=λa b c e f g h=>hR _ _ (k a b c e f g h)
 change wZ _ _ _ [gV _,td,td,td] S X;generalize s:W.tup _=R;show st ?_;left;nofun
 show for_tup (m.map az) (λi Z l=>(∃z n,Z=[gV R,gV (.ref ↥S),z,n])/\(∃U,l[↥S]?=gV (.dic U)/\HasD U (bz bs (m.take i)))/\Ka S l) rfl rfl ?_ ?_ ?_
 ·left;subst s;show af #v[] rfl #[rfl,#[_,_,rfl],#[[],ag,.nil],.push]
 ·rintro i w Z S1 hw ⟨⟨z,n,rfl⟩,⟨U,u,x⟩,I⟩;rw[MD,Mv]at hw;obtain⟨g,o,rfl⟩:=hw;obtain⟨gg,g3⟩:=B g (MQ o);have hi:=(MP.mp o).1;show ab rfl ?_;intro Q2 O _;nofun
  show d8 rfl rfl ?_;left;show kK  G ?_;show#[↥S1,au.map (λt=>W.tup (ac t)),(λj Z l=>(∃n,Z=[gV R,gV (.ref ↥S),gV (az g),n])/\(∃U,l[↥S]?=gV (.dic U)/\HasD U (bz bs (m.take i)++(au.take j).map (ae bs g)))/\l[↥S1]?=gV (.lst (au.map λt=>W.tup (ac t)))/\Ka S l),rfl,#[#[_,rfl],#[U,aw u,by rw[O8,Vl,Nr];show x],ag,I.trans .push],λj Z l h=>h.2.2.1,?_,?_]
  ·rintro j w Z Y hw ⟨⟨n,rfl⟩,⟨y,A,r⟩,N,J⟩;clear hK O;rw[MD,Mv]at hw;obtain⟨t,P,rfl⟩:=hw;have H:=MQ P;have tk:↥t<=3/\t.Nodup/\∀p∈t,p<3:=by
    have:∀t∈au,↥t<=3/\t.Nodup/\∀p∈t,p<3:=by decide
    show this t H
   show ab rfl ?_;intro Q3 D _;show st ?_;left;subst s;show Av  G hb E gg (λp hp=>by have:=tk.2.2 p hp;omega) tk.2.1 ∅ λS3 L=>?_
   have M:=L.get _ _ A;have C:↥y<sizeLine:=by
    have b1:=r.len;have b2:=lX bs (m.take i);rw[Mt,b2,Mr,M6,M6,show au.length=6 from rfl]at b1
    rw[NT];omega
   show ab (AC M C) (ba (D _ _ #[#[_,rfl],#[_,aZ M,?_],?_,(J.trans L).late (MH _)]))
   ·rw[Nd,P,MZ,<- N7];show r.put
   ·rw[aV (by have:=bo u;show M3 ‹_›)];show L.get _ _ N
  ·rintro Z Y ⟨⟨n,rfl⟩,⟨y,A,r⟩,N,J⟩;show hK _ _ (ba (O _ _ #[#[_,_,rfl],#[y,A,?_],J]));unfold bz at r ⊢;rw[Nd,o,OZ]
   simpa using r
 ·rintro Z S1 ⟨⟨z,n,rfl⟩,⟨U,u,x⟩,I⟩;rw[Mr,Nl]at x;show hK _ _ (st (k _ U S1 u x (MH _) I))
end
abbrev cy:Ss:=
 #v[.set 1 (.lst #v[.tup .nil]),.whl (.cmp .lt (.bi .len #v[.ix (.v 1) (.c (.int 0))]) (.c (.int 3))) #v[.set 1 (.own "longer_orders" 2 #v[.v 1,.c (.int 3)])],.set 2 .dnew,.loop (.nm 3) (.seq (.ix (.v 0) (.c (.int 2)))) #v[.loop (.nm 4) (.seq (.v 1)) #v[.put (.v 2) (.own "part" 3 #v[.v 0,.v 3,.v 4]) (.c (.bl true))]],.ret (.v 2)]
abbrev Bd:Mz->Mq (Mq Mz)
 |0=>[[]]
 |i+1=>cX 3 (Bd i)
def Hk:∀i,i<=3->(∃o,(Bd i)[0]?=gV o/\↥o=i)/\(Bd i).length<=6/\∀o∈Bd i,↥o<=3:=λi hi=>by
 rcases(show i=0\/i=1\/i=2\/i=3 by omega)with rfl|rfl|rfl|rfl
 ·show#[#[[],rfl,rfl],#v[],#v[]]
 ·show#[#[[0],rfl,rfl],#v[],#v[]]
 ·show#[#[[0,1],rfl,rfl],#v[],#v[]]
 ·show#[#[[0,1,2],rfl,rfl],#v[],#v[]]
section
variable{defs:Mq (M2×Df)}{fuel d:Mz}{S:aa}{Q:QW}
def rR (hfu:20<fuel)(P:Parts defs)(hp:Is defs ("part") 3 3 iC)(hl:Is defs ("longer_orders") 2 4 bS)(hg:Is defs ("barred_threes") 1 5 cy)(hb:GoodB bs)(hnl:↥ns=↥bs)(V:∀g∈r,GoodW a ↥bs g/\↥g=3)(h64:↥r<=100)
  (k:∀ q U l,l[q]?=gV (.dic U)->HasD U (bz bs r)->↥S<=q->Ka S l->Q (.ref q,l)) :
  wO (aL (ar defs fuel (d+4)) "barred_threes" 1 [.tup [m0,.tup (MR aK ns bs),.tup (r.map az)]] S) Q:=by
 show ay hg rfl rfl λQ' hR=>?_
 replace k:=λa b c e f g h=>hR _ _ (k a b c e f g h)
 generalize B:W.tup [m0,.tup (MR aK ns bs),.tup (r.map az)]=R;show st ?_;left;nofun
 show E4 (λm Z l=>∃i q,i+m=3/\Z=[gV R,gV (.ref q),td,td,td]/\l[q]?=gV (.lst (cq (Bd i)))/\↥S<=q/\Ka S l) 3 rfl rfl ∅ #[0,↥S,rfl,rfl,ag,MH _,.push] ?_
 rintro m Z S1 ⟨i,q,X,rfl,G,hq,D⟩;obtain⟨⟨o,J,C⟩,l6,l3⟩:=Hk i ∅
 delta wT wE wA;show j8  G #v[] (by unfold cq;rw[MD,show((0:MM).toNat)=0 from rfl,J];rfl) (aC ?_)
 rw[show(ac o).length=↥o from Mr ..,C]
 dsimp only[];show#[λh=>?_,λh=>?_]
 ·have h:=NF h;show#[m-1,∅,λQ2 I _=>?_]
  show st ?_;left;show Bb (n:=3)  hl G #v[] (λo J=>by have:=l3 o J;show M1 ‹_› (Ni rfl)) ∅ λq2 L z hq2 E=>ba (I _ _ #[i+1,q2,∅,rfl,z,?_,D.trans E])
  show M1 D.len hq2
 ·have h:=Qs h;obtain rfl:i=3:=∅
  show hK _ _ ?_;clear hK K l6 l3 J C h X;show st ?_;left;nofun
  have hq1:=bo G;show for_tup (r.map az) (λi Z l=>(∃N s,Z=[gV R,gV (.ref q),gV (.ref ↥S1),N,s])/\(∃U,l[↥S1]?=gV (.dic U)/\HasD U (bz bs (r.take i)))/\l[q]?=gV (.lst (cq au))/\Ka S l) rfl rfl ?_ ?_ ?_
  ·left;subst B;show af #v[] rfl #[rfl,#[_,_,rfl],#[[],ag,.nil],aw G,D.trans .push]
  ·rintro i w Z L hw ⟨⟨N,s,rfl⟩,⟨U,z,H⟩,A,E⟩;rw[MD,Mv]at hw;obtain⟨g,x,rfl⟩:=hw;obtain⟨gg,g3⟩:=V g (MQ x);have hi:=(MP.mp x).1;show ab rfl ?_;intro Q2 I _;nofun
   show kJ q (cq au) (λj Z l=>(∃s,Z=[gV R,gV (.ref q),gV (.ref ↥S1),gV (az g),s])/\(∃U,l[↥S1]?=gV (.dic U)/\HasD U (bz bs (r.take i)++(au.take j).map (ae bs g)))/\l[q]?=gV (.lst (cq au))/\Ka S l) rfl rfl #[rfl,#[_,rfl],#[U,z,by rw[O8,Vl,Nr];show H],A,E] (λj Z l h=>h.2.2.1) ?_ ?_
   ·rintro j w Z S3 hw ⟨⟨s,rfl⟩,⟨M,O,y⟩,u,k3⟩;clear hK I;unfold cq at hw;rw[MD,Mv]at hw;obtain⟨t,ht,rfl⟩:=hw;have tk:↥t<=3/\t.Nodup/\∀p∈t,p<3:=by
     have:∀t∈au,↥t<=3/\t.Nodup/\∀p∈t,p<3:=by decide
     show this t (MQ ht)
    show ab rfl ?_;intro Q3 hn3 _;show st ?_;left;subst B;show J1  P hp hb hnl gg (λp hp=>by have:=tk.2.2 p hp;omega) tk.2.1 ∅ λS4 k4=>?_
    have e4:=k4.get _ _ O;have Y:↥M<sizeLine:=by
     have b1:=y.len;have b2:=lX bs (r.take i);rw[Mt,b2,Mr,M6,M6,show au.length=6 from rfl]at b1
     rw[NT];omega
    show ab (AC e4 Y) (ba (hn3 _ _ #[#[_,rfl],#[_,aZ e4,?_],?_,(k3.trans k4).late D.len]))
    ·rw[Nd,ht,MZ,<- N7];show y.put
    ·rw[aV (by show NR ‹_›)];show k4.get _ _ u
   ·rintro Z S3 ⟨⟨s,rfl⟩,⟨M,O,y⟩,u,k3⟩;rw[show(cq au).length=au.length from Mr ..,Nl]at y
    show hK _ _ (ba (I _ _ #[#[_,_,rfl],#[M,O,?_],u,k3]));unfold bz at y ⊢;rw[Nd,x,OZ]
    simpa using y
  ·rintro Z L ⟨⟨N,s,rfl⟩,⟨U,z,H⟩,A,E⟩;rw[Mr,Nl]at H;show hK _ _ (st (k _ U L z H D.len E))
end
abbrev bH:Ss:=
 #v[.loop (.nm 6) (.rng2 #v[.bi .len #v[.v 5],.bi .len #v[.v 3]]) #v[.set 7 (.lst .nil),.loop (.nm 8) (.rng #v[.bi .len #v[.ix (.v 1) (.c (.int 1))]]) #v[.set 9 (.lst .nil),.loop (.nm 10) (.rng #v[.v 6]) #v[.ex (.me .append (.v 9) #v[.cmp .isin (.tup #v[.tup #v[.ix (.ix (.v 3) (.v 10)) (.c (.int 0)),.tup .nil],.tup #v[.ix (.ix (.v 3) (.v 6)) (.c (.int 0)),.tup #v[.ix (.ix (.ix (.v 3) (.v 6)) (.c (.int 1))) (.v 10)]],.tup #v[.v 4,.tup #v[.ix (.v 5) (.v 10),.v 8]]]) (.v 2)])],.ite (.cmp .notin (.c (.bl true)) (.v 9)) #v[.ex (.me .append (.v 7) #v[.v 8])] .nil],.ite (.cmp .eq (.v 7) (.lst .nil)) #v[.ret (.c .non)] .nil,.set 5 (.op .add (.v 5) (.tup #v[.ix (.v 7) (.own "_law_pick" 2 #v[.v 0,.bi .len #v[.v 7]])]))],.ret (.v 5)]
abbrev bp (U:Mq (T×W))(u:Wd)(mk:MM)(i m:Mz)(x y:MM):M9:=(bn U (cJ [((u.getD i (0,[])).1,[]),((u.getD m (0,[])).1,[(u.getD m (0,[])).2.getD i 0]),(mk,[x,y])])).isSome
def Be {bl:Mq M9}(h:S[l]?=gV (.lst (bl.map W.bl))):∃b,bx .notin (.bl true) (.ref l) S=gV (.bl b,S)/\(b=true->∀x∈bl,x=false):=by
 have d:(aP (.bl true)&&(bl.map W.bl).all aP)=true:=by
  (delta aP;revert Pp MY)
  intro x a;obtain⟨z,_,rfl⟩:=MN.mp a;rfl
 show#[!(bl.map W.bl).any λz=>jQ z (.bl true),?_,λc x a=>?_]
 ·simp only[bx,kI h,cY,sS,yT,cp,aD h,d,Qm,Nb]
 ·rw[Ph,PX]at c;cases x with
  |false=>rfl
  |true=>show absurd rfl (c _ (MN.mpr #[true,a,rfl]))
section
variable{defs:Mq (M2×Df)}{fuel d:Mz}{S:aa}{r:Mz}{Q:QW}
def lY (G:Gen defs)(hg:Is defs ("_law_new_ways") 6 11 bH)(hN:↥N=n)(hn3:n<=3)(hu:GoodW a n u)(hl:↥u<=900)(e:S[q]?=gV (.dic U))(hqr:q≠r)(hf:Fl S r)
  (k:∀w l,(w=.non\/∃c:Mq MM,w=.tup (aj c)/\↥c=↥u/\(∀x∈c,0<=x/\x<n)/\∀j<↥u,∀i<j,bp U u mk i j (c.getD i 0) (c.getD j 0)=false)->Fl l r->Kp r S l->Q (w,l)) :
  wO (aL (ar defs fuel (d+2)) "_law_new_ways" 6 [.ref r,.tup [m0,.tup N,b0],.ref q,az u,.int mk,.tup []] S) Q:=by
 show ay hg rfl rfl λQ' hR=>?_
 replace k:=λw l h1 h2 h3=>hR _ _ (k w l h1 h2 h3)
 clear hR;change wZ _ _ bH [gV (.ref r),gV (.tup [m0,.tup N,b0]),gV (.ref q),gV (az u),gV (.int mk),gV (.tup (aj [])),td,td,td,td,td] S Q';generalize hR0:W.tup [m0,.tup N,b0]=R;have ul:(u.map aH).length=↥u:=Mr ..;have hqS:=bo e;have hrS:=hf.lt;delta bH;nofun
 show fg 0 ↥u (λm Z l=>∃c a6 a7 A B f,Z=[gV (.ref r),gV R,gV (.ref q),gV (az u),gV (.int mk),gV (.tup (aj c)),a6,a7,A,B,f]/\↥c=m/\(∀x∈c,0<=x/\x<n)/\(∀j<m,∀i<j,bp U u mk i j (c.getD i 0) (c.getD j 0)=false)/\Fl l r/\Kp r S l) rfl rfl rfl ∅ ?_ ?_ ?_
 ·left;show aC #[rfl,aC ?_];rw[ul];show#[rfl,[],_,_,_,_,_,rfl,rfl,(λx hx=>nomatch hx),(λj hj=>∅),hf,.refl]
 ·rintro m Z S1 hm ⟨c,a6,a7,A,B,f,rfl,H,I,D,f1,V⟩ Q2 hn2 hr2;clear hK;rw[QH];have E:m<↥u:=∅
  have e1:=V.get _ _ hqr e;have s1:=V.len;have lm:=hu.len m _ (aq (d:=(0,[])) E);left;show st ?_;left;nofun
  show bN n (λx Z l=>(∃A B f,Z=[gV (.ref r),gV R,gV (.ref q),gV (az u),gV (.int mk),gV (.tup (aj c)),gV (.int m),gV (.ref ↥S1),A,B,f])/\(∃g:Mq MM,l[↥S1]?=gV (.lst (aj g))/\↥g<=x/\(∀y∈g,0<=y/\y<n)/\∀y∈g,∀i<m,bp U u mk i m (c.getD i 0) y=false)/\l[q]?=gV (.dic U)/\Fl l r/\Kp r S l) rfl rfl ∅ ?_ ?_ ?_
  ·left;subst hR0;show af #v[] rfl (aC ?_)
   rw[hN];show#[rfl,#[_,_,_,rfl],#[[],ag,MH _,(λy z=>nomatch z),λy z=>nomatch z],aw e1,f1.ka .push,V.trans .push]
  ·rintro x Z S2 hx ⟨⟨A,B,f,rfl⟩,⟨g,J,P,t,s⟩,q2,Y,k2⟩ Q3 C hr3;clear hK;have l2:=bo J;left;show st ?_;left;nofun
   show bN m (λi Z l=>(∃f,Z=[gV (.ref r),gV R,gV (.ref q),gV (az u),gV (.int mk),gV (.tup (aj c)),gV (.int m),gV (.ref ↥S1),gV (.int x),gV (.ref ↥S2),f])/\l[↥S2]?=gV (.lst (((MJ i).map λj=>bp U u mk j m (c.getD j 0) x).map W.bl))/\l[↥S1]?=gV (.lst (aj g))/\l[q]?=gV (.dic U)/\Fl l r/\Kp r S l) rfl rfl ∅ #[rfl,#[_,rfl],ag,aw J,aw q2,Y.ka .push,k2.trans .push] ?_ ?_
   ·rintro i Z S3 hi ⟨⟨f,rfl⟩,M,o,X,f3,k3⟩ Q4 hn4 _;clear hK;have hiu:i<↥u:=∅
    have him:i<(u.getD m (0,[])).2.length:=∅
    have hit:i<↥c:=∅
    left;show st ?_;left;show#[cD M,?_];show af (MK i) (cN hiu) (af #v[] rfl (af (MK m) (cN E) (af #v[] rfl (af (MK m) (cN E) (af #v[] rfl (af  (MK i) (by rw[M0,MD,aq (d:=0) him];rfl) (af  (MK i) (by rw[M0];unfold aj;rw[MD,aq (d:=0) hit];rfl) ?_)))))))
    show ab (a:=(.bl (bp U u mk i m (c.getD i 0) x),S3)) ?_ ?_
    ·change bx .isin (az [((u.getD i (0,[])).1,[]),((u.getD m (0,[])).1,[(u.getD m (0,[])).2.getD i 0]),(mk,[c.getD i 0,x])]) (.ref q) S3=_;simp only[bx,bW X];rfl
    show j9 M (by rw[Mr,Mr,MX];omega) (ba (hn4 _ _ #[#[_,rfl],?_,?_,?_,f3.own ∅,k3.late ∅]))
    ·rw[aZ M,Ol,MZ,MZ];rfl
    ·rw[aV ∅];show o
    ·rw[aV ∅];show X
   ·rintro Z S3 ⟨⟨f,rfl⟩,M,o,X,f3,k3⟩;show hK _ _ ?_;clear hK K;nofun
    delta wS wT wE wA wV wG;obtain⟨b,eb,hb⟩:=Be M;show ab eb ?_;delta wB;show ap (Q0:=Q3) (λhbt Q5 p _=>?_) (λ_ Q5 p _=>ba (p _ _ (hK _ _ (ba (C _ _ #[#[_,_,_,rfl],#[g,o,∅,t,s],X,f3,k3])))))
    show st ?_;left;show#[cD o,j9 o (by unfold aj;rw[Mr];omega) (ba (p _ _ (hK _ _ (ba (C _ _ #[#[_,_,_,rfl],#[g++[(x:MM)],?_,by rw[Mt,Ng];omega,λy z=>?_,λy z i hi=>?_],?_,f3.own ∅,k3.late ∅])))))]
    ·rw[aZ o];unfold aj;rw[MZ];rfl
    ·rcases Na.mp z with h|h
     ·show t y h
     ·rw[MS.mp h];omega
    ·rcases Na.mp z with h|h
     ·show s y h i hi
     ·rw[MS.mp h];show hb hbt _ (MN.mpr #[i,ML.mpr ∅,rfl])
    ·rw[aV ∅];show X
  ·rintro Z S2 ⟨⟨A,B,f,rfl⟩,⟨g,J,P,t,s⟩,q2,Y,k2⟩;show hK _ _ ?_;clear hK K;rw[M0]at P;nofun
   delta wS wT wE wA wV wG;show ab (E8 (aw J) ag) ?_;delta wB;show ap (Q0:=Q2) (λ_ Q5 _ hr5=>?_) (λhne Q5 p _=>ba (p _ _ (hK _ _ ?_)))
   ·show st ?_;left;show hr5 _ _ (hr2 _ _ (k _ _ (.inl rfl) (Y.ka .push) (k2.trans .push)))
   clear p hK;have hpos:0<↥g:=by
    cases g with
    |nil=>cases hne
    |cons _ _=>simp
   show st ?_;left;have L:=aw (u:=O.lst []) J;show hW L ?_;rw[show(aj g).length=↥g from Mr ..]
   show bP  G.pick (Y.ka .push) ∅ ∅ λv S4 v0 v1 f4 k4=>?_
   have hv:v.toNat<↥g:=∅
   have e4:=k4.get _ _ (by have:=bo J;omega) L
   show j8  e4 v0 (by unfold aj;rw[MD,MC hv];rfl) ?_
   show ab (cg (jF (by rw[Mt,show(aj c).length=↥c from Mr ..];show _+1<=_;omega))) (ba (hn2 _ _ #[c++[g[v.toNat]],gV (.int m),gV (.ref ↥S1),A,B,f,?_,by rw[Mt,H];rfl,λy z=>?_,λj hj i hi=>?_,f4,(k2.trans .push).trans k4]))
   ·rw[show aj c++[W.int g[v.toNat]]=aj (c++[g[v.toNat]]) by unfold aj;rw[MZ];rfl]
   ·rcases Na.mp z with h|h
    ·show I y h
    ·rw[MS.mp h];show t _ (NC hv)
   ·have gl:∀j ,j<↥c->(c++[g[v.toNat]]).getD j 0=c.getD j 0:=λj hj=>by rw[MG,MG,No hj]
    rw[gl i ∅]
    by_cases ej:j=m
    ·subst ej;rw[show(c++[g[v.toNat]]).getD j 0=g[v.toNat] by rw[<- H,MG,Nt (MH _),O0];rfl]
     show s _ (NC hv) i hi
    ·rw[gl j ∅]
     show D j ∅ i hi
 ·rintro Z S1 ⟨c,a6,a7,A,B,f,rfl,H,I,D,f1,V⟩;show hK _ _ (st ?_);left;show k _ _ (.inr #[c,rfl,∅,I,λj hj=>D j ∅]) f1 V
end
abbrev gf:Ss:=
 #v[.set 4 (.tup .nil),.loop (.nm 5) (.rng #v[.v 3]) #v[.set 6 (.own "_law_pick" 2 #v[.v 0,.bi .len #v[.ix (.v 1) (.c (.int 0))]]),.set 7 (.own "_law_new_ways" 6 #v[.v 0,.v 1,.v 2,.v 4,.v 6,.tup .nil]),.ite (.cmp .isnot (.v 7) (.c .non)) #v[.set 4 (.op .add (.v 4) (.tup #v[.tup #v[.v 6,.v 7]]))] .nil],.ret (.v 4)]
def aF {u:Wd}(a:p<↥u):(u++[h]).getD p (0,[])=u.getD p (0,[]):=by
 rw[MG,MG,No a]
def bj {u:Wd}:(u++[h]).getD ↥u (0,[])=h:=by
 rw[MG,Nt (MH _),O0];rfl
abbrev Std (U:Mq (T×W))(u:Wd):Prop:=∀k<↥u,∀j<k,∀i<j,cF U u i j k=false
def Std.snoc (h:Std U u)(d:∀j<↥u,∀i<j,bp U u m i j (c.getD i 0) (c.getD j 0)=false):Std U (u++[(m,c)]):=by
 intro k hk j b i hi;rw[Mt,Ng]at hk
 by_cases e:k=↥u
 ·subst e;have:=d j b i hi;unfold cF dB;rw[aF (Oa hi b),aF b,bj];show this
 ·have a:k<↥u:=∅
  have:=h k a j b i hi;unfold cF dB at this ⊢;rw[aF (Oa hi (Oa b a)),aF (Oa b a),aF a];show this
section
variable{defs:Mq (M2×Df)}{fuel d:Mz}{S:aa}{r:Mz}{Q:QW}
def Ea (G:Gen defs)(hw:Is defs ("_law_new_ways") 6 11 bH)(hg:Is defs ("_law_world") 4 8 gf)(hM:↥j=a)(ha1:0<a)(ha3:a<=3)(hN:↥N=n)(B:n<=3)(hm:b<=900)(e:S[q]?=gV (.dic U))(h:q≠r)(hf:Fl S r)
  (k:∀ u f,↥u<=b->GoodW a n u->Std U u->Fl f r->Kp r S f->Q (az u,f)) :
  wO (aL (ar defs fuel (d+3)) "_law_world" 4 [.ref r,.tup [.tup j,.tup N,b0],.ref q,.int b] S) Q:=by
 show ay hg rfl rfl λQ' hR=>?_
 replace k:=λu f h1 h2 h3 h4 h5=>hR _ _ (k u f h1 h2 h3 h4 h5)
 generalize y:W.tup _=R;show st ?_;left;nofun
 show bN _ (λi Z f=>∃u p s t,Z=[gV _,gV R,gV _,gV _,gV (az u),p,s,t]/\↥u<=i/\GoodW a n u/\Std U u/\Fl f r/\Kp r S f) rfl rfl ∅ #[rfl,[],_,_,_,rfl,MH _,.nil,(λk hk=>by cases hk),hf,.refl] ?_ ?_
 ·rintro i Z S1 hi ⟨u,p,s,t,rfl,m,l,c,x,o⟩ I L _;have V:=o.get _ _ h e;show st ?_;left;subst y;show af #v[] rfl (aC ?_)
  rw[hM];show bP  G.pick x ∅ ∅ λv S2 v0 v1 Y H=>?_
  have X:=H.get _ _ h V;show st ?_;left;show lY  G hw hN B l ∅ X h Y λw S3 E J M=>?_
  nofun
  delta wS wT wE wV;rcases E with rfl|⟨O,rfl,C,D,A⟩
  ·show ab rfl ?_;show ap (Q0:=I) (λz=>by cases z) (λ_ P g _=>ba (g _ _ (hK _ _ (ba (L _ _ #[u,_,_,_,rfl,by show PU ‹_›,l,c,J,(o.trans H).trans M])))))
  ·show ab rfl ?_;show ap (Q0:=I) (λ_ P g _=>?_) (λz=>by cases z)
   show st ?_;delta wS wE wA;show ab (cg (jF (by rw[Mt,Mr];show _+1<=_;omega))) (ba (g _ _ (hK _ _ (ba (L _ _ #[u++[(v,O)],gV (.int i),gV (.int v),gV (.tup (aj O)),?_,?_,l.snoc #[v0,v1] C D,c.snoc A,J,(o.trans H).trans M])))))
   ·unfold az;rw[MZ];rfl
   ·rw[Mt,Ng];omega
 ·rintro Z S1 ⟨u,p,s,t,rfl,m,l,c,x,o⟩;show hK _ _ (st ?_);show k u S1 m l c x o
end
section
variable{M:M2->FF}{Z:Fm}{S:aa}
def Bf {α:Type}{Q:QW}(L:Mq α)(f:α->W)(p:α->M9)(g:α->W)(m:Fm->Prop)(r:α->Fm)(C:∀x Z S,m Z->lH tg (f x) Z S=gV (r x,S)/\m (r x))(I:dw b=true)(oc:mZ o=true)(hc:m (eu j Z))(hl:↥L<=1000000)(hi:jt M it Z S=gV (mi,S1))(A:Ka S S1)(s:∀i a,Ka S1 a->mi.at a i=gV (L.map f)[i]?)(G:mi.len S1=gV (L.map f).length)
  (d:∀x∈L,∀a,Ka S a->eS M b o (r x) a (λy _ n=>p x=true/\y=g x/\Ka a n) (λ_ n=>p x=false/\Ka a n))
  (k:∀a,Ka S a->Q (.ref ↥a,a++[.lst ((L.filter p).map g)])):Wp (aE M (.comp b tg it o j) Z S) Q:=by
 rw[Ad];show#[_,hi,_,G,?_];show(dI (xs:=L.map f) (Q:=λq=>↥q.1<=sizeLine/\Q (.ref ↥q.2,q.2++[.lst q.1])) (λi ys e a=>m e/\ys=((L.take i).filter p).map g/\Ka S1 a) (λi ys e a h=>s i a h.2.2) (λi w ys e a hw h=>?_) (λys e a h=>?_) (L.map f).length 0 [] _ S1 ∅ #[hc,rfl,.refl]).mono λq H=>by simpa using H
 ·obtain⟨D,rfl,l⟩:=h;rw[MD,Mv]at hw;obtain⟨x,t,rfl⟩:=hw;obtain⟨B,v⟩:=C x e a D;show#[_,B,?_];show(E5 oc (d x (MQ t) a (A.trans l))).mono λc hc=>#[λz=>(aQ b I (hc.1 z)).mono λy u=>#[v,?_,l.trans u.2.2],λz=>#[v,?_,l.trans (hc.2 z).2]]
  ·rw[Nd,t,PJ,show(U7 (gV x)).filter p=[x]from RI u.1,MZ,u.2.1];rfl
  ·rw[Nd,t,PJ,show(U7 (gV x)).filter p=[]from RJ (by rw[(hc.2 z).1];show Nu),Nr]
 ·obtain⟨_,rfl,l⟩:=h;dsimp only;rw[show(L.map f).length=↥L from Mr ..,Nl]
  show#[jF ?_,k a (A.trans l)];rw[Mr];show M1 (OL _ _) hl
def ud {α:Type}{Q:QW}(L:Mq α)(f:α->W)(p:α->M9)(g:α->W)(R:Fm)(r:dw c=true)(oc:mZ m=true)(hc:eu j Z=td::td::R)(hl:↥L<=1000000)(hi:jt M it Z S=gV (mi,S1))(q:Ka S S1)(n:∀i b,Ka S1 b->mi.at b i=gV (L.map f)[i]?)(o:mi.len S1=gV (L.map f).length)
  (d:∀x∈L,∀b,Ka S b->eS M c m (td::gV (f x)::R) b (λy _ l=>p x=true/\y=g x/\Ka b l) (λ_ l=>p x=false/\Ka b l))
  (k:∀b,Ka S b->Q (.ref ↥b,b++[.lst ((L.filter p).map g)])):Wp (aE M (.comp c (.nm 1) it m j) Z S) Q:=
 Bf L f p g (λZ=>∃a,Z=td::a::R) (λx=>td::gV _::R) (λ_ _ _ h=>let ⟨_,e⟩:=h;e ▸ #[rfl,_,rfl]) r oc #[_,hc] hl hi q n o d k
def jH {α:Type}{Q:QW}(L:Mq α)(f:α->W)(p:α->M9)(g:α->W)(R:Fm)(u:dw e=true)(s:dw b=true)(oc:mZ l=true)(hc:eu d Z=td::td::R)(hl:↥L<=1000000)
  (o:wE M e Z S λq=>∃t,q.1=.ref t/\q.2[t]?=gV (.lst (L.map f))/\Ka S q.2)
  (c:∀x∈L,∀a,Ka S a->eS M b l (td::gV (f x)::R) a (λy _ j=>p x=true/\y=g x/\Ka a j) (λ_ j=>p x=false/\Ka a j))
  (k:∀a,Ka S a->Q (.ref ↥a,a++[.lst ((L.filter p).map g)])):Wp (aE M (.comp b (.nm 1) (.seq e) l d) Z S) Q:=by
 obtain⟨w,S1,n,t,rfl,m,r⟩:=bM u o;show ud (mi:=.live t) L f p g R s oc hc hl (by simp only[jt,eI,n,aD m]) r (λi a h=>by simp only[MI.at,aD (h.get _ _ m)]) (by simp only[MI.len,aD m,Nb]) c k
def lZ {α:Type}{Q:QW}(L:Mq α)(f:α->W)(p:α->M9)(g:α->W)(R:Fm)(o:dw e=true)(n:dw b=true)(oc:mZ i=true)(hc:eu d Z=td::td::R)(hl:↥L<=1000000)
  (l:wE M e Z S λq=>q.1=.tup (L.map f)/\Ka S q.2)
  (c:∀x∈L,∀a,Ka S a->eS M b i (td::gV (f x)::R) a (λy _ h=>p x=true/\y=g x/\Ka a h) (λ_ h=>p x=false/\Ka a h))
  (k:∀a,Ka S a->Q (.ref ↥a,a++[.lst ((L.filter p).map g)])):Wp (aE M (.comp b (.nm 1) (.seq e) i d) Z S) Q:=by
 obtain⟨w,S1,j,rfl,m⟩:=bM o l;show ud (mi:=.its (L.map f)) L f p g R n oc hc hl (by revert jt eI j) m (λ_ _ _=>rfl) rfl c k
def rS (n:Mz):eP 0 n=(MJ n).map λi=>W.int (i:Mz):=by
 show Nw λi _=>?_
 rw[QH]
def ee {Q:QW}(n:Mz)(p:Mz->M9)(g:Mz->W)(R:Fm)(s:dw e=true)(r:dw b=true)(oc:mZ h=true)(hc:eu d Z=td::td::R)(hl:n<=1000000)
  (l:wE M e Z S λq=>q.1=.int n/\Ka S q.2)
  (c:∀x<n,∀a,Ka S a->eS M b h (td::gV (.int x)::R) a (λy _ f=>p x=true/\y=g x/\Ka a f) (λ_ f=>p x=false/\Ka a f))
  (k:∀a,Ka S a->Q (.ref ↥a,a++[.lst (((MJ n).filter p).map g)])):Wp (aE M (.comp b (.nm 1) (.rng #v[e]) h d) Z S) Q:=by
 obtain⟨w,S1,j,rfl,o⟩:=bM s l;show ud (mi:=.its (eP 0 n)) (MJ n) (λi=>W.int (i:Mz)) p g R r oc hc (by rw[MX];show hl) ?_ o (λi a _=>by rw[<- rS];rfl) (by rw[<- rS];rfl) (λx m=>c x (ML.mp m)) k
 revert jt cV cU ip qY j;rw[M4 #[∅,∅]];rfl
def aX {α:Type}(L:Mq α):L.filter (λ_=>true)=L:=List.filter_eq_self.mpr λ_ _=>rfl
end
abbrev bL (U:Mq (T×W))(u:Wd)(h:Pt)(p q:Mz):M9:=(bn U (cJ [((u.getD p (0,[])).1,[]),((u.getD q (0,[])).1,[(u.getD q (0,[])).2.getD p 0]),(h.1,[h.2.getD p 0,h.2.getD q 0])])).isSome
def l4 (b:p<q)(a:q<↥u):cF U (u++[h]) p q ↥u=bL U u h p q:=by
 unfold cF bL dB;rw[aF (Oa b a),aF a,bj]
def l7 {u:Wd}(h:p<s):(u.take s).getD p (0,[])=u.getD p (0,[]):=by
 rw[MG,MG,Qg h]
abbrev dC (U:Mq (T×W))(v:Wd):M9:=(MJ (↥v-2)).all λp=>!cF U v p (↥v-2) (↥v-1)
def xN {u:Wd}{h:Pt}(b:s<↥u):dC U (u.take (s+1)++[h])=(MJ s).all λp=>!bL U u h p s:=by
 have hl:(u.take (s+1)).length=s+1:=by rw[M6];omega
 unfold dC;rw[Mt,hl,Ng,show s+1+1-2=s by omega,show s+1+1-1=s+1 by omega,PM,MY,MY]
 show SZ λp=>SZ λa=>?_
 have a:=ML.mp a;have e:=l4 (U:=U) (u:=u.take (s+1)) (h:=h)   a ∅
 rw[hl]at e;rw[e];unfold bL;rw[l7 (by show Ot ‹_›),l7 (by show MH _)]
abbrev dg (n:Mz)(a:Mq Pt):Mq Pt:=a.flatMap λh=>(MJ n).map λ(w:Mz)=>(h.1,h.2++[(w:MM)])
abbrev cQ (U:Mq (T×W))(u:Wd)(n:Mz)(m:MM):Mz->Mq Pt
 |0=>[(m,[])]
 |s+1=>(dg n (cQ U u n m s)).filter λh=>dC U (u.take (s+1)++[h])
abbrev oz (U:Mq (T×W))(u:Wd)(a n:Mz):Mq Pt:=(MJ a).flatMap λ(m:Mz)=>cQ U u n (m:MM) ↥u
def bm {x:MM}(a:p<↥ws):(ws++[x]).getD p 0=ws.getD p 0:=by
 rw[MG,MG,No a]
def ma (b:p<q)(a:q<↥ws):bL U u (m,ws++[x]) p q=bL U u (m,ws) p q:=by
 delta bL;rw[bm (Oa b a),bm a]
def dQ :∀{s:Mz}{h:Pt},s<=↥u->(h∈cQ U u n m s↔h.1=m/\↥h.2=s/\(∀w∈h.2,0<=w/\w<n)/\∀p q,p<q->q<s->bL U u h p q=false)
 |0,h,_=>by
  rw[cQ,MS];constructor
  ·rintro rfl;show#[rfl,rfl,(λw hw=>nomatch hw),λp q _ h=>absurd h (OI _)]
  ·rintro⟨d,b,_⟩;rw[<- d,<- Ov b]
 |s+1,h,A=>by
  rw[cQ,NP,xN ∅,MY]
  unfold dg;rw[NM];constructor
  ·rintro⟨⟨y,o,hw⟩,l⟩;obtain⟨w,j,rfl⟩:=MN.mp hw;obtain⟨d,b,f,g⟩:=(dQ ∅).mp o
   have j:=ML.mp j;show#[d,by rw[Mt,b];rfl,λx k=>?_,λp q a t=>?_]
   ·rcases Na.mp k with z|z
    ·show f x z
    ·rw[MS.mp z];omega
   ·by_cases e:q=s
    ·subst e;have:=l p (ML.mpr a)
     simpa using this
    ·rw[ma a ∅];show g p q a ∅
  ·rintro⟨d,b,f,g⟩;obtain⟨v,ws⟩:=h;dsimp only at d b f g;have c:ws≠[]:=λz=>by rw[z]at b;cases b
   have hd:=QV c;have k:=f _ (List.getLast_mem c);generalize ws.getLast c=x at hd k;have i:↥ws.dropLast=s:=by rw[P1];omega
   generalize ws.dropLast=vs at hd i;subst hd;show#[#[(v,vs),(dQ ∅).mpr #[d,i,λw hw=>f w (NA _ hw),λp q a t=>?_],?_],λp r=>?_]
   ·rw[<- ma  a ∅];show g p q a ∅
   ·show MN.mpr #[x.toNat,ML.mpr ∅,by rw[show x.toNat=x by omega]]
   ·rw[g p s (ML.mp r) ∅];rfl
def fj :∀s:Mz,(cQ U u n m s).length<=n^s
 |0=>MH _
 |s+1=>by
  show M1 (OL _ _) ?_;have:=fj (U:=U) (u:=u) (n:=n) (m:=m) s;have e:∀a ,(dg n a).length=↥a*n:=λa=>by
   unfold dg
   induction a with
   |nil=>simp
   |cons h a ih=>rw[Pj,Mt,ih,Mr,MX,Nh,RP];show Vh _ _
  rw[e,Nat.pow_succ];show SD _ this
def oA (a:Mq Pt):(dg n a).length=↥a*n:=by
 unfold dg
 induction a with
 |nil=>simp
 |cons h a ih=>rw[Pj,Mt,ih,Mr,MX,Nh,RP];omega
def md :h∈oz U u a n↔(0<=h.1/\h.1<a)/\↥h.2=↥u/\(∀w∈h.2,0<=w/\w<n)/\∀p q,p<q->q<↥u->bL U u h p q=false:=by
 unfold oz;rw[NM];constructor
 ·rintro⟨m,e,d⟩;obtain⟨c,b⟩:=(dQ (MH _)).mp d;have:=ML.mp e;show#[∅,b]
 ·rintro⟨c,b⟩;show#[h.1.toNat,ML.mpr ∅,(dQ (MH _)).mpr #[∅,b]]
abbrev be:Ss:=
 #v[.set 2 (.op .sub (.bi .len #v[.v 1]) (.c (.int 1))),.loop (.nm 3) (.rng #v[.op .sub (.v 2) (.c (.int 1))]) #v[.ite (.cmp .isin (.own "three_at" 4 #v[.v 1,.v 3,.op .sub (.v 2) (.c (.int 1)),.v 2]) (.v 0)) #v[.ret (.v 3)] .nil],.ret (.c .non)]
abbrev cr:Ss:=
 #v[.set 3 (.lst .nil),.loop (.nm 4) (.rng #v[.bi .len #v[.ix (.v 0) (.c (.int 0))]]) #v[.set 5 (.lst #v[.tup #v[.v 4,.tup .nil]]),.loop (.nm 6) (.rng2 #v[.c (.int 1),.op .add (.bi .len #v[.v 2]) (.c (.int 1))]) #v[.set 5 (.comp (.v 1) (.nm 1) (.seq (.own "longer_wishes" 2 #v[.v 0,.v 5])) #v[.cmp .is (.own "first_bar" 2 #v[.v 2,.op .add (.sl (.v 4) .no (.yes (.v 3))) (.tup #v[.v 1])]) (.c .non)] [td,td,gV 1,gV 6,gV 2])],.ex (.me .extend (.v 3) #v[.v 5])],.ret (.v 3)]
abbrev cz:Ss:=
 #v[.set 2 (.lst .nil),.loop (.tp [3,4]) (.seq (.v 1)) #v[.ex (.me .extend (.v 2) #v[.comp (.tup #v[.v 2,.op .add (.v 3) (.tup #v[.v 1])]) (.nm 1) (.rng #v[.bi .len #v[.ix (.v 0) (.c (.int 1))]]) .nil [td,td,gV 3,gV 4]])],.ret (.v 2)]
def mf (a:↥v=s+2):dC U v=true↔∀i<s,cF U v i s (s+1)=false:=by
 unfold dC;rw[a,show s+2-2=s from rfl,show s+2-1=s+1 from rfl,MY]
 show SZ λi=>?_
 rw[ML,Ph]
def xO (c:GoodW a n u):GoodW a n (u.take s):=by
 have b:∀k x,(u.take s)[k]?=gV x->u[k]?=gV x:=λk x e=>by
  rw[Ts]at e;split at e
  ·show e
  ·cases e
 show#[λk x e=>c.mark k x (b k x e),λk x e=>c.len k x (b k x e),λk x e=>c.way k x (b k x e)]
section
variable{defs:Mq (M2×Df)}{fuel d:Mz}{S:aa}{Q:QW}
def gk (u:Is defs ("three_at") 4 6 bQ)(y:Is defs ("first_bar") 2 4 be)(C:GoodW a n v)(E:2<=↥v)(hl:↥v<=1000)(e:S[q]?=gV (.dic U))(k:∀w,((w=.non/\dC U v=true)\/∃i:MM,w=.int i/\dC U v=false)->Q (w,S)) :
  wO (aL (ar defs fuel (d+2)) "first_bar" 2 [.ref q,az v] S) Q:=by
 show ay y rfl rfl λm x=>?_
 replace k:=λw h=>x _ _ (k w h)
 change wZ _ _ be [gV (.ref q),gV (az v),td,td] S m;have D:(v.map aH).length=↥v:=Mr ..;obtain⟨s,l⟩:∃s,↥v=s+2:=#[↥v-2,∅]
 show st ?_;left;show aC (ab iX ?_);rw[D,show ↥v-1=((s+1:Mz):MM) by omega]
 nofun
 show bN s (λi Z r=>(∃c,Z=[gV (.ref q),gV (az v),gV (.int ((s+1:Mz))),c])/\r=S/\∀b<i,cF U v b s (s+1)=false) rfl rfl ∅ ?_ ?_ ?_
 ·left;show ab iX #[?_,#[_,rfl],rfl,λb z=>by show absurd ‹_› (OI _)]
  rw[show((s+1:Mz))-1=(s:MM) by omega]
 ·rintro i Z S1 hi ⟨⟨c,rfl⟩,rfl,j⟩ o A B;left;nofun
  delta wS wT wE wA wV wG;show ab iX ?_;rw[show((s+1:Mz))-1=(s:MM) by omega]
  show vW  u C ∅ (ON s) ∅ ?_
  show ab (show bx .isin (az (dB v i s (s+1))) (.ref q) S1=gV (.bl (cF U v i s (s+1)),S1) by simp only[bx,bW e];rfl) ?_
  delta wB;show ap (Q0:=o) (λh p _ g=>?_) (λh p f _=>ba (f _ _ (hK _ _ (ba (A _ _ #[#[_,rfl],rfl,λb z=>?_])))))
  ·show st ?_;left;show g _ _ (B _ _ (k _ (.inr #[i,rfl,?_])));rw[OW];intro z;rw[(mf l).mp z i ∅]at h
   cases h
  ·by_cases t:b=i
   ·rw[t];show h
   ·show j b ∅
 ·rintro Z S1 ⟨⟨c,rfl⟩,rfl,j⟩;show hK _ _ (st ?_);left;show k _ (.inl #[rfl,(mf l).mpr j])
def kB (I:Is defs ("longer_wishes") 2 5 cz)(G:↥N=n)(M:n<=3)(e:S[l]?=gV (.lst (j.map aH)))(p:∀h∈j,↥h.2<=100)(P:↥j<=10000)
  (k:∀ q g,g[q]?=gV (.lst ((dg n j).map aH))->↥S<=q->Ka S g->Q (.ref q,g)) :
  wO (aL (ar defs fuel (d+1)) "longer_wishes" 2 [.tup [m0,.tup N,b0],.ref l] S) Q:=by
 show ay I rfl rfl λT H=>?_
 replace k:=λa b c e f=>H _ _ (k a b c e f)
 generalize y:W.tup _=R;have J:=bo e;show st ?_;left;nofun
 show kJ l _ (λi Z g=>(∃s t,Z=[gV R,gV (.ref l),gV (.ref ↥S),s,t])/\g[l]?=gV (.lst (j.map aH))/\g[↥S]?=gV (.lst ((dg n (j.take i)).map aH))/\Ka S g) rfl rfl #[rfl,#[td,td,rfl],aw e,ag,.push] (λi Z g h=>h.2.1) ?_ ?_
 ·rintro i w Z S1 hw ⟨⟨s,t,rfl⟩,C,m,B⟩;rw[MD,Mv]at hw;obtain⟨h,D,rfl⟩:=hw;have p:=p h (MQ D);show ab rfl ?_;intro U A _;show st ?_;left;show#[cD m,?_];show ee n (λ_=>true) (λw=>aH (h.1,h.2++[(w:MM)])) [gV (.int h.1),gV (.tup (aj h.2))] rfl rfl rfl rfl (by show M1 ‹_› (Ni rfl)) ?_ (λx V E r=>?_) λE r=>?_
  ·left;subst y;show af #v[] rfl (aC ?_)
   rw[G];show#[rfl,.refl]
  ·delta eS wC wE wA wV wG;show#[λ_=>ab (cg (jF ?_)) #[rfl,?_,.refl],λz=>by cases z]
   ·rw[Mt,show(aj h.2).length=↥h.2 from Mr ..];show _+1<=_;omega
   ·simp[aH,aj]
  ·rw[aX];have o:=aw (u:=O.lst ((MJ n).map λ(w:Mz)=>aH (h.1,h.2++[(w:MM)]))) (r.get _ _ m)
   have L:(dg n (j.take i)).length<=30000:=by
    rw[oA,M6];show M1 (UQ (show min i ↥j<=10000 by omega) M) #v[]
   show t9 o ag (by rw[Mr,Mr,MX];omega) (ba (A _ _ #[#[_,_,rfl],?_,?_,((B.trans r).trans .push).late (MH _)]))
   ·rw[aV (by show NR ‹_›)];show aw (r.get _ _ C)
   ·rw[aZ o];unfold dg;rw[Nd,D];simp
 ·rintro Z S1 ⟨⟨s,t,rfl⟩,C,m,B⟩;rw[Mr,Nl]at m;show hK _ _ (st (k _ _ m (MH _) B))
def pX (a:n<=3)(b:s<=5):n^s<=243:=M1 (SR a s) (SE  #v[] b)
def ue (a:n<=3)(b:↥u<=5):((MJ i).flatMap λ(m:Mz)=>cQ U u n m ↥u).length<=i*243:=by
 induction i with
 |zero=>simp
 |succ i ih=>
  rw[Ol,OZ,Mt,Pj,Uh,Nr];have:=M1 (fj (U:=U) (u:=u)  (m:=i) _) (pX a b);omega
def nj (h3:Is defs ("three_at") 4 6 bQ)(O:Is defs ("first_bar") 2 4 be)(V:Is defs ("longer_wishes") 2 5 cz)(hg:Is defs ("wishes_over") 3 7 cr)(hM:↥g=a)(hN:↥N=n)(ha3:a<=3)(o:n<=3)(hu:GoodW a n u)(D:↥u<=5)(e:S[q]?=gV (.dic U))
  (k:∀ l j,j[l]?=gV (.lst ((oz U u a n).map aH))->↥S<=l->Ka S j->Q (.ref l,j)) :
  wO (aL (ar defs fuel (d+3)) "wishes_over" 3 [.tup [.tup g,.tup N,b0],.ref q,az u] S) Q:=by
 show ay hg rfl rfl λQ' hR=>?_
 replace k:=λa b c e f=>hR _ _ (k a b c e f)
 clear hR;change wZ _ _ cr [gV (.tup [.tup g,.tup N,b0]),gV (.ref q),gV (az u),td,td,td,td] S Q';generalize A:W.tup [.tup g,.tup N,b0]=R;have hqS:=bo e;have ul:(u.map aH).length=↥u:=Mr ..;delta cr;show st ?_;left;nofun
 show bN a (λi Z j=>(∃L M p,Z=[gV R,gV (.ref q),gV (az u),gV (.ref ↥S),L,M,p])/\j[↥S]?=gV (.lst (((MJ i).flatMap λ(m:Mz)=>cQ U u n m ↥u).map aH))/\Ka S j) rfl rfl ∅ ?_ ?_ ?_
 ·left;subst A;show af #v[] rfl (aC ?_)
  rw[hM];show#[rfl,#[_,_,_,rfl],ag,.push]
 ·rintro i Z S1 hi ⟨⟨L,M,p,rfl⟩,y,J⟩ Q2 C _;clear hK k;have hl1:=bo y;left;show st ?_;left;nofun
  show fg 1 (↥u+1) (λm Z j=>∃t p,Z=[gV R,gV (.ref q),gV (az u),gV (.ref ↥S),gV (.int i),gV (.ref t),p]/\j[t]?=gV (.lst ((cQ U u n i m).map aH))/\Ka S1 j) rfl rfl rfl ∅ ?_ ?_ ?_
  ·left;show#[rfl,aC (ab g9 ?_)];rw[ul];show#[rfl,↥S1,p,rfl,ag,.push]
  ·rintro m Z S2 hm ⟨t,p,rfl,H,G⟩ Q3 o _;clear hK C;have hmu:m<↥u:=∅
   rw[show 1+m=((m+1):MM) by omega]
   have B:(cQ U u n i m).length<=243:=M1 (fj m) (pX ‹n<=3› ∅)
   have hll:(dg n (cQ U u n i m)).length<=729:=by rw[oA];show UQ B ‹n<=3›
   left;show st ?_;left;show jH (dg n (cQ U u n i m)) aH (λh=>dC U (u.take (m+1)++[h])) aH [gV (.ref q),gV (.int (m+1)),gV (az u)] rfl rfl rfl rfl (by show M1 ‹_› (Ni rfl)) ?_ (λh I s Y=>?_) λs Y=>?_
   ·left;subst A;show kB  V hN ‹n<=3› H (λh I=>by have:=((dQ ∅).mp I).2.1;omega) ∅ λl S3 e3 _ k3=>#[l,rfl,e3,k3]
   ·have P:GoodW a n (u.take (m+1)++[h]):=by
     unfold dg at I;obtain⟨h0,X,hw⟩:=NM.mp I;obtain⟨w,E,rfl⟩:=MN.mp hw;obtain⟨g1,g2,g3,_⟩:=(dQ ∅).mp X
     have E:=ML.mp E;show(xO hu).snoc (by rw[g1];omega) (by rw[Mt,g2,M6,Ng];omega) λx hx=>?_
     rcases Na.mp hx with z|z
     ·show g3 x z
     ·rw[MS.mp z];omega
    have hvl:(u.take (m+1)++[h]).length=m+2:=by rw[Mt,M6,Ng];omega
    delta eS wC wT wE wA wP wV wG wN;show ab (show qe (az u) td (gV ((m+1:Mz))) s=gV (.tup ((u.map aH).take (m+1)),s) by revert az qe dy) ?_
    dsimp only;have ev:(u.map aH).take (m+1)++[aH h]=(u.take (m+1)++[h]).map aH:=by rw[MZ,OR];rfl
    show ab (cg (jF (by rw[ev,Mr];omega))) ?_
    dsimp only;rw[ev];show gk   h3 O P ∅ ∅ (Y.get _ _ (G.get _ _ (J.get _ _ e))) λw hw=>?_
    show ab (show bx .is w .non s=gV (.bl (dC U (u.take (m+1)++[h])),s) by rcases hw with⟨rfl,hb⟩|⟨i,rfl,hb⟩<;>rw[hb]<;>rfl) ?_
    delta wB;show#[λz=>#[z,rfl,.refl],λz=>#[z,.refl]]
   ·show ba (o _ _ #[_,_,rfl,ag,(G.trans Y).trans .push])
  ·rintro Z S2 ⟨t,p,rfl,H,G⟩;rw[show((↥u:MM)+1-1).toNat=↥u by omega]at H
   show hK _ _ ?_;clear hK K;have r:=G.get _ _ y;have B:(cQ U u n i ↥u).length<=243:=M1 (fj _) (pX o D);have hfl:=ue (U:=U) (i:=i) o D;show st ?_;left;show#[cD r,t9 r H (by rw[Mr,Mr];omega) (ba (C _ _ #[#[_,_,_,rfl],?_,(J.trans G).late (MH _)]))]
   rw[aZ r,Ol,OZ,MZ];simp
 ·rintro Z S1 ⟨⟨L,M,p,rfl⟩,y,J⟩;rw[M0]at y;show hK _ _ (st (k _ _ y (MH _) J))
end
abbrev bZ:Ss:=
 #v[.asg [4,5] (.ix (.v 2) (.v 3)),.loop (.nm 6) (.rng2 #v[.c (.int 1),.v 3]) #v[.loop (.nm 7) (.rng #v[.v 6]) #v[.ite (.cmp .isin (.tup #v[.tup #v[.ix (.ix (.v 2) (.v 7)) (.c (.int 0)),.tup .nil],.tup #v[.ix (.ix (.v 2) (.v 6)) (.c (.int 0)),.tup #v[.ix (.ix (.ix (.v 2) (.v 6)) (.c (.int 1))) (.v 7)]],.tup #v[.v 4,.tup #v[.ix (.v 5) (.v 7),.ix (.v 5) (.v 6)]]]) (.v 1)) #v[.ret (.c (.bl false))] .nil]],.ret (.c (.bl true))]
abbrev cR (U:Mq (T×W))(u:Wd)(s:Mz)(h:Pt):M9:=(MJ s).all λq=>(MJ q).all λp=>!bL U u h p q
def bA :cR U u s h=true↔∀q<s,∀p<q,bL U u h p q=false:=by
 unfold cR;revert MY ML Ph
def vX:∀p:Mq Mz,W.ts (ac p)=gV (p.map λ(n:Mz)=>T.int n)
 |[]=>rfl
 |n::p=>by
  show(match W.t _,W.ts (ac p)with
   |some y,gV ys=>gV _
   |_,_=>td)=_
  rw[vX p];rfl
def Bg (p:Mq Mz):T.depths (p.map λ(n:Mz)=>T.int n)=0:=by
 induction p with
 |nil=>rfl
 |cons n p ih=>revert NL T.depths ih;rfl
def Hl (g:GoodB bs)(c:GoodW a ↥bs v)(hi:i<↥v)(l:j<↥v)(k:i≠j):0<=bg bs v i j/\bg bs v i j<(↥bs):=by
 unfold bg
 by_cases h:j<i
 ·rw[M4 h];have b:=aq (d:=(0,[])) hi;have hw:j<(v.getD i (0,[])).2.length:=by rw[c.len i _ b];show h
  show c.way i _ b _ (MQ (aq  hw))
 ·rw[Nm h];have b:=aq (d:=(0,[])) l;have hw:i<(v.getD j (0,[])).2.length:=by rw[c.len j _ b];omega
  obtain⟨e,f⟩:=c.way j _ b _ (MQ (aq  hw));show(g.at e f).2
def b9 (n:GoodB bs)(l:GoodW a ↥bs v)(c:∀p∈ps,p<↥v)(g:ps.Nodup):GoodW a ↥bs (ae bs v ps):=by
 have b:∀k q,(ae bs v ps)[k]?=gV q->∃hk:k<↥ps,q=((v.getD _ _).1,(ps.take k).map λj=>bg bs v _ j):=λk q e=>by
  have hk:=by
   have:=(MP.mp e).1;rw[aB]at this;show this
  show#[hk,?_];unfold ae at e;rw[MD,NQ hk,Nb,show ps.getD k 0=ps[k] by simp[hk]]at e
  show(NE e).symm
 show#[λk q e=>?_,λk q e=>?_,λk q e=>?_]
 ·obtain⟨hk,rfl⟩:=b k q e;have:=l.mark _ _ (aq (d:=(0,[])) (c _ (NC hk)));show this
 ·obtain⟨hk,rfl⟩:=b k q e;rw[Mr,M6];omega
 ·obtain⟨hk,rfl⟩:=b k q e;intro w hw;obtain⟨j,i,rfl⟩:=MN.mp hw;have f:=N8 i;show Hl n l (c _ (NC hk)) (c _ f) λe=>?_
  obtain⟨m,o,h⟩:=N5.mp i;rw[M6]at o;rw[Ou]at h;have:=(Od g).mp (e.trans h.symm);omega
section
variable{defs:Mq (M2×Df)}{fuel d:Mz}{S:aa}{Q:QW}
def Hm (hd:Is defs ("_law_flow") 1 1 iB){b:Mq MM}(c:S[u]?=gV (.fro (b.map W.int)))(k:∀r a,Ka S a->Fl a r->Q (.ref r,a)) :
  wO (aL (ar defs fuel (d+1)) "_law_flow" 1 [.ref u] S) Q:=by
 show ay hd rfl rfl λh g=>?_
 show st ?_;left;have e:Bi.list.fn [.ref u] S=gV (.ref ↥S,S++[.lst (b.map W.int)]):=by
  have f:o5 S u=td:=by simp[o5,c]
  simp only[Bi.fn,rq,eX,f,fI,cp,DN c]
 show ab e (g _ _ (k _ _ (Ka.push.trans .push) #[↥S,b,0,0,1,0,?_,?_,?_,#v[],#v[],#v[],#v[]]))
 ·show ag
 ·show aw ag
 ·simp
end
def kb {bt:Mz->Mz->M9}(b:∀i<N,bt i i=false)(d:∀i j k,i<N->j<N->k<N->bt i j=true->bt j k=true->bt i k=true):∀n,n<N->∀j≤n,bt j (argBest bt n)=false
 |0,a,j,g=>by
  obtain rfl:j=0:=∅
  show b 0 a
 |n+1,a,j,g=>by
  have ih:=kb b d n ∅
  have h:=de bt n;revert argBest;cases c:bt _ (argBest bt n)with
  |true=>
   rw[M4 rfl]
   by_cases e:j=n+1
   ·subst e;show b _ a
   ·cases f:bt j _ with
    |false=>rfl
    |true=>
     have:=d j _ _ (by show Rm ‹_› ‹_›) a ∅ f c
     rw[ih j ∅]at this;cases this
  |false=>
   by_cases e:j=n+1
   ·subst e;show c
   ·show ih j ∅
def mh (f:∀x∈ks,lq x=true)(hl:eZ ks=true)(g:ks≠[]):∃x,ks[im ks]?=gV x/\x∈ks/\∀y∈ks,fT y x=gV false:=by
 have r:=SS.mpr g;have d:im ks<↥ks:=by
  unfold im;have:=de (yg ks) (↥ks-1);omega
 have a:∀i j hi b,fT _ _=gV (yg ks i j):=λi j hi b=>sW hl hi b
 have p:∀i<↥ks,yg ks i i=false:=λi hi=>by
  cases c:yg ks i i with
  |false=>rfl
  |true=>
   have e:=a i i hi hi;rw[c]at e;have:=sX _ _ (f _ (NC hi)) e;rw[e]at this;cases this
 have q:=kb   p (λi j k hi b hk m n=>by
  have h:=a i j hi b;have l:=a j k b hk;rw[m]at h;rw[n]at l;have:=zm _ _ _ (f _ (NC hi)) (f _ (NC b)) h l;rw[a i k hi hk]at this;show NE this) (↥ks-1) ∅
 show#[ks[im ks],MC d,NC d,λy o=>?_]
 obtain⟨j,b,rfl⟩:=N5.mp o;rw[a j _ b d];congr 1;show q j ∅
def vY (c:lq x=true)(a:fT x y=gV false)(b:fT y x=gV false):x=y:=by
 by_cases e:x=y
 ·show e
 ·rw[sY x y c e b]at a;cases a
def rT:∀{xs ys as bs:Mq T},↥xs=↥ys->cZ xs ys=gV true->cZ (xs++as) (ys++bs)=gV true
 |[],[],_,_,_,h=>by cases h
 |x::xs,y::ys,as,bs,hl,h=>by
  dsimp only[Ui,cZ]at h ⊢
  by_cases e:x=y
  ·rw[M4 e]at h ⊢;show rT (by simpa using hl) h
  ·rw[Nm e]at h ⊢;show h
 |[],_::_,_,_,hl,_=>by simp at hl
 |_::_,[],_,_,hl,_=>by simp at hl
def rV :∀xs:Mq T,cZ (xs++as) (xs++bs)=cZ as bs
 |[]=>rfl
 |x::xs=>by
  revert Ui cZ;show rV xs
def Hn (a:lq x=true)(h:cZ [x] [y]=gV true):fT x y=gV true:=by
 simp only[cZ]at h;split at h
 ·cases h
 ·show h
structure Ord (n:Mz)(o:Mq Mz):Prop where
 nd:o.Nodup
 lt:∀p∈o,p<n
abbrev Bh:Mz->Mq (Mq Mz)
 |0=>[[]]
 |k+1=>(Bh k).flatMap λo=>(MJ (k+1)).map λi=>o.take i++[k]++o.drop i
def pY:∀{n:Mz}{o:Mq Mz},o∈Bh n↔Ord n o/\↥o=n
 |0,o=>by
  rw[Bh,MS];show#[λh=>by subst h;show#[#[.nil,λp c=>nomatch c],rfl],λh=>Ov h.2]
 |n+1,o=>by
  rw[Bh,NM];constructor
  ·rintro⟨f,g,l⟩;obtain⟨i,hi,rfl⟩:=MN.mp l;obtain⟨⟨nd,lt⟩,hl⟩:=pY.mp g;have c:(f.take i++[n]++f.drop i).Perm (n::f):=by
    have e:f.take i++[n]++f.drop i=f.take i++n::f.drop i:=by simp
    rw[e];show RK.trans ?_;rw[QK]
   show#[#[c.nodup_iff.mpr (Ox.mpr #[λz=>absurd (lt _ z) (NZ _),nd]),λp d=>?_],by rw[c.length_eq,Nh,hl]]
   rcases M5.mp (c.mem_iff.mp d)with z|z
   ·omega
   ·have:=lt p z;show Ot ‹_›
  ·rintro⟨⟨nd,lt⟩,hl⟩;have m:n∈o:=by
    by_cases z:n∈o
    ·show z
    ·have g:=cM o (MJ n) nd λp c=>ML.mpr (by
      have:=lt p c;have:p≠n:=λe=>z (e▸c)
      omega)
     rw[MX]at g;omega
   obtain⟨a,b,rfl⟩:=List.append_of_mem m;have c:(a++n::b).Perm _:=RK;have j:=c.nodup_iff.mp nd;obtain⟨nn,k⟩:=Ox.mp j;show#[a++b,pY.mpr #[#[k,λp d=>?_],?_],MN.mpr #[↥a,ML.mpr ?_,?_]]
   ·have g:=lt p (c.mem_iff.mpr (NX _ d));have:p≠n:=λe=>nn (e▸d)
    omega
   ·have:=c.length_eq;rw[hl,Nh]at this;omega
   ·rw[Mt,Nh]at hl;omega
   ·rw[Uw,List.drop_left']<;>simp
abbrev rW (bs:Mq MM)(u:Wd)(o:Mq Mz):Pt:=aO bs u o.dropLast (o.getLastD 0)
abbrev i9 (ps:Mq Pt):Pt:=ps.getD (im (ps.map jg)) (0,[])
abbrev Fc (bs:Mq MM)(u:Wd):Mz->Mq (Mq Mz)
 |0=>[[]]
 |k+1=>(cX ↥u (Fc bs u k)).filter λo=>decide (rW bs u o=i9 ((cX ↥u (Fc bs u k)).map (rW bs u)))
abbrev B1 (bs:Mq MM)(u:Wd):Mz->Wd
 |0=>[]
 |k+1=>B1 bs u k++[i9 ((cX ↥u (Fc bs u k)).map (rW bs u))]
def Bj (p:Pt):lq (jg p)=true:=by
 have:=kL [p]
 simpa [eE]using this
def xP (ps:Mq Pt):eZ (ps.map jg)=true:=by
 unfold eZ;rw[MY];intro x a;rw[MY];intro y b;obtain⟨p,_,rfl⟩:=MN.mp a;obtain⟨q,_,rfl⟩:=MN.mp b;show tW _ _ (At p q)
def xQ (h:ps≠[]):ps[im (ps.map jg)]?=gV (i9 ps)/\i9 ps∈ps/\∀y∈ps,fT (jg y) (jg (i9 ps))=gV false:=by
 obtain⟨x,b,g,c⟩:=mh  (λx d=>by obtain⟨p,_,rfl⟩:=MN.mp d;show Bj p) (xP ps) (by simpa using h)
 rw[MD,Mv]at b;obtain⟨p,a,rfl⟩:=b;have e:i9 ps=p:=by unfold i9;rw[MG,a];rfl
 rw[e];show#[a,MQ a,λy f=>c _ (MN.mpr #[y,f,rfl])]
def ja {os:Mq (Mq Mz)}:d∈cX n os↔∃o∈os,∃p,p<n/\p∉o/\d=o++[p]:=by
 unfold cX;rw[NM];constructor
 ·rintro⟨o,c,h⟩;obtain⟨p,e,rfl⟩:=MN.mp h;obtain⟨a,b⟩:=NP.mp e;show#[o,c,p,ML.mp a,NF b,rfl]
 ·rintro⟨o,c,p,a,b,rfl⟩;show#[o,c,MN.mpr #[p,NP.mpr #[ML.mpr a,NB b],rfl]]
def jI :rW bs u (o++[p])=aO bs u o p:=by
 unfold rW;rw[SF,List.getLastD_concat]
def gy :Ord n (o++[p])↔Ord n o/\p<n/\p∉o:=by
 constructor
 ·rintro⟨nd,lt⟩;rw[OH]at nd;show#[#[nd.1,λq c=>lt q (NA _ c)],lt p (by simp),λz=>nd.2.2 p z p (by simp) rfl]
 ·rintro⟨⟨nd,lt⟩,d,f⟩;show#[OH.mpr #[nd,by simp,λa g b h e=>?_],λq c=>?_]
  ·rw[MS.mp h]at e;show f (e▸g)
  ·rcases Na.mp c with z|z
   ·show lt q z
   ·rw[MS.mp z];show d
def Bk (h:Ord n o)(hl:↥o<n):∃p,p<n/\p∉o:=by
 by_cases z:∃p,p<n/\p∉o
 ·show z
 ·have b:=cM _ o P4 λp c=>by
   by_cases a:p∈o
   ·show a
   ·show absurd #[p,ML.mp c,a] z
  rw[MX]at b;omega
def J5 (u v:Wd):(fT (cJ u) (cJ v)).isSome=true:=by
 have:=gI [u,v];unfold eZ at this;rw[MY]at this;have:=this (cJ u) (by simp)
 rw[MY]at this;show this _ (by simp)
def Ho (h:fT (cJ u) (cJ v)≠gV true):fT (cJ u) (cJ v)=gV false:=by
 obtain⟨b,a⟩:=NS.mp (J5 u v);cases b with
 |false=>show a
 |true=>show absurd a h
structure GrOk (bs:Mq MM)(u:Wd)(k:Mz):Prop where
 mem:∀o,o∈Fc bs u k↔Ord ↥u o/\↥o=k/\ae bs u o=B1 bs u k
 least:∀o,Ord ↥u o->↥o=k->fT (cJ (ae bs u o)) (cJ (B1 bs u k))=gV false
 ne:Fc bs u k≠[]
 len:(B1 bs u k).length=k
def vZ {o:Mq Mz}(h:↥o=k+1):∃b p,o=b++[p]/\↥b=k:=by
 have a:o≠[]:=λz=>by rw[z]at h;cases h
 show#[o.dropLast,o.getLast a,(QV a).symm,by rw[P1];omega]
def rX :∀k,k<=↥u->GrOk bs u k
 |0,_=>by
  show#[λo=>?_,λo _ hl=>?_,Ug _ _,rfl]
  ·(delta Fc;rw[MS])
   show#[λh=>by subst h;show#[#[.nil,λp l=>nomatch l],rfl,rfl],λh=>Ov h.2.1]
  ·rw[Ov hl];rfl
 |k+1,hk=>by
  have ih:=rX (bs:=bs) (u:=u) k ∅
  have r:cX ↥u (Fc bs u k)≠[]:=by
   obtain⟨o,f⟩:=Rp _ ih.ne;obtain⟨b,a,_⟩:=(ih.mem o).mp f;obtain⟨p,l,c⟩:=Bk b ∅
   show Tt (ja.mpr #[o,f,p,l,c,rfl])
  obtain⟨_,b2,s⟩:=xQ (ps:=(cX _ _).map _) (by simpa using r)
  have m:B1 bs u (k+1)=B1 bs u k++[i9 _]:=rfl;have n:Fc bs u (k+1)=(cX _ _).filter λo=>decide _:=rfl
  generalize i9 _=best at b2 s m n;show#[λo=>?_,λo w hl=>?_,?_,by rw[m,Mt,ih.len];rfl]
  ·rw[n,NP,m];constructor
   ·rintro⟨b,a⟩;obtain⟨o,f,p,l,c,rfl⟩:=ja.mp b;obtain⟨d,g,i⟩:=(ih.mem o).mp f;have a:=NF a;rw[jI]at a;show#[gy.mpr #[d,l,c],by rw[Mt,g];rfl,by rw[aY,i,a]]
   ·rintro⟨b,a,j⟩;obtain⟨o,p,rfl,hl⟩:=vZ a;obtain⟨d,g,i⟩:=gy.mp b;rw[aY]at j;obtain⟨t,v⟩:=Se j (by rw[aB,ih.len,hl])
    show#[ja.mpr #[o,(ih.mem o).mpr #[d,hl,t],p,g,i,rfl],NB ?_];rw[jI];show List.singleton_inj.mp v
  ·obtain⟨o,p,rfl,q⟩:=vZ hl;have hl:=q;obtain⟨d,g,i⟩:=gy.mp w;show Ho λz=>?_
   rw[aY,m]at z;have z:cZ ((ae bs u o++[aO bs u o p]).map jg) ((B1 bs u k++[best]).map jg)=gV true:=z;rw[MZ,MZ]at z
   by_cases e:ae bs u o=B1 bs u k
   ·rw[e,rV]at z;have:=Hn (Bj _) z;rw[s _ (MN.mpr #[o++[p],ja.mpr #[o,(ih.mem o).mpr #[d,hl,e],p,g,i,rfl],jI])]at this;cases this
   ·have b:=sY (cJ (B1 bs u k)) (cJ (ae bs u o)) (pW _) (λh=>e (eJ h).symm) (ih.least o d hl)
    have a:=rT (as:=[best].map jg) (bs:=[aO bs u o p].map jg) (by rw[Mr,Mr,aB,ih.len,hl]) b
    have j:=ph _ _ (by rw[<- MZ];show kL _) a
    rw[z]at j;cases j
  ·obtain⟨o,f,e⟩:=MN.mp b2;rw[n];show Tt (NP.mpr #[f,NB e])
abbrev mj (bs:Mq MM)(u:Wd):Wd:=B1 bs u ↥u
def mm :∃o,Ord ↥u o/\↥o=↥u/\ae bs u o=mj bs u:=by
 have h:=rX (bs:=bs)  ↥u (MH _);obtain⟨o,a⟩:=Rp _ h.ne;show#[o,(h.mem o).mp a]
def fm (hi:i<↥o):(ae bs u o).getD i (0,[])=((u.getD (o.getD i 0) (0,[])).1,(o.take i).map λj=>bg bs u (o.getD i 0) j):=by
 unfold ae;rw[MG,MD,NQ hi];rfl
def rY (hi:i<↥o)(a:j<i):((ae bs u o).getD i (0,[])).2.getD j 0=bg bs u (o.getD i 0) (o.getD j 0):=by
 rw[fm hi];rw[MG,MD,Qg a,aq  (show j<↥o by show Oa ‹_› ‹_›)];rfl
def Bl (p:GoodB bs)(l:GoodW a ↥bs u)(g:Ord ↥u o)(hi:i<↥o)(f:j<↥o)(c:i≠j):bg bs (ae bs u o) i j=bg bs u (o.getD i 0) (o.getD j 0):=by
 have m:=aq (d:=0) hi;have r:=aq (d:=0) f;have q:=g.lt _ (MQ m);have ne:o.getD i 0≠o.getD j 0:=λe=>by
  have n:o[i]=o.getD i 0:=by simp[hi]
  have b:o[j]=o.getD j 0:=by simp[f]
  show c ((Od g.nd).mp (by rw[n,b,e]))
 by_cases h:j<i
 ·have:bg bs (ae bs u o) i j=((ae bs u o).getD i (0,[])).2.getD j 0:=by unfold bg;rw[M4 h]
  rw[this,rY hi h]
 ·have:bg bs (ae bs u o) i j=bs.getD (((ae bs u o).getD j (0,[])).2.getD i 0).toNat 0:=by unfold bg;rw[Nm h]
  rw[this,rY f ∅]
  generalize o.getD i 0=x at *
  generalize o.getD j 0=y at *
  unfold bg
  by_cases b:x<y
  ·rw[M4 b,Nm ∅]
  ·rw[Nm b,M4 ∅]
   have k:=aq (d:=(0,[])) q;have hw:y<(u.getD x (0,[])).2.length:=by rw[l.len x _ k];omega
   obtain⟨s,t⟩:=l.way x _ k _ (MQ (aq (d:=0) hw));have:=p.inv ((u.getD x (0,[])).2.getD y 0).toNat ∅
   rw[this];omega
def bI (t:GoodB bs)(y:GoodW a ↥bs u)(s:Ord ↥u o)(d:Ord ↥o p):ae bs (ae bs u o) p=ae bs u (p.map λi=>o.getD i 0):=by
 show On (by rw[aB,aB,Mr]) λk b q=>?_
 rw[aB]at b;have g:=fm (bs:=bs) (u:=ae bs u o)  b;have h:=fm (bs:=bs) (u:=u) (o:=p.map λi=>o.getD i 0)  (by rw[Mr];show b)
 have hk:p.getD k 0<↥o:=d.lt _ (MQ (aq  b));have n:(p.map λi=>o.getD i 0).getD k 0=o.getD (p.getD k 0) 0:=by
  rw[MG,MD,aq  b];rfl
 rw[n]at h;rw[fm hk]at g;have f:∀(v:Wd) l,v[k]=v.getD k (0,[]):=λv l=>by simp[l]
 rw[f _ (by rw[aB];show b),f _ q,g,h]
 congr 1;rw[<- OR,Nj];show Nw λj w=>?_
 obtain⟨m,x,rfl⟩:=N5.mp w;rw[M6]at x;rw[Ou];have c:p[m]=p.getD m 0:=by simp[show m<↥p by omega]
 rw[c];show Bl t y s hk (d.lt _ (MQ (aq  (show m<↥p by omega)))) λe=>?_
 have r:p[k]=p.getD k 0:=by simp[b]
 have:=(Od d.nd).mp (r.trans (e.trans c.symm));omega
def dm (h:Ord n o)(hl:↥o=n)(b:p<n):p∈o:=by
 by_cases z:p∈o
 ·show z
 ·have:=(gy   ).mpr #[h,b,z];have a:=cM _ _ this.nd λq c=>ML.mpr (this.lt q c)
  rw[Mt,MX,Ng]at a;omega
def rZ (h:Ord n o)(c:Ord ↥o p):Ord n (p.map λi=>o.getD i 0):=by
 have g:∀i,i<↥o->o[i]?=gV (o.getD i 0):=λi hi=>aq hi
 show#[?_,λq s=>?_]
 ·rw[Oi,Pi];show c.nd.imp_of_mem λ{a b} m r d e=>d ?_
  have k:=c.lt a m;have l:=c.lt b r;have f:o[a]=o.getD a 0:=by simp[k]
  have j:o[b]=o.getD b 0:=by simp[l]
  show(Od h.nd).mp (by rw[f,j,e])
 ·obtain⟨i,hi,rfl⟩:=MN.mp s;show h.lt _ (MQ (g i (c.lt i hi)))
def mo (n:GoodB bs)(r:GoodW a ↥bs u)(b:Ord ↥u o)(hl:↥o=↥u):mj bs (ae bs u o)=mj bs u:=by
 have l:(ae bs u o).length=↥u:=by rw[aB,hl]
 obtain⟨p,k,p2,C⟩:=mm (bs:=bs) (u:=ae bs u o);obtain⟨q,g,D,E⟩:=mm (bs:=bs) (u:=u);rw[l]at k p2;have z:=λo c d=>(rX (bs:=bs) (u:=u) _ (MH _)).least o c d
 have A:=λB c d=>(rX (bs:=bs) (u:=ae bs u o) _ (MH _)).least B c d
 show eJ (vY (pW _) ?_ ?_)
 ·rw[<- C,bI n r b (by rw[hl];show k)]
  show z _ (rZ b (by rw[hl];show k)) (by rw[Mr,p2])
 ·have e:q=(q.map λx=>o.idxOf x).map λi=>o.getD i 0:=by
   rw[Nj]
   conv=>lhs;rw[<- Uo q]
   show Nw λx f=>?_
   have v:=dm b hl (g.lt x f);have h:=NW v;change x=o.getD (o.idxOf x) 0;rw[MG,MC h,O9];rfl
  have m:Ord ↥o (q.map λx=>o.idxOf x):=by
   show#[?_,λi hi=>?_]
   ·rw[Oi,Pi];show g.nd.imp_of_mem λ{x y} f w j e=>j ?_
    have c:=NW (dm b hl (g.lt x f));have d:=NW (dm b hl (g.lt y w));have s:=O9 c;have t:=O9 d;rw[<- s,<- t];congr 1
   ·obtain⟨x,f,rfl⟩:=MN.mp hi;show NW (dm b hl (g.lt x f))
  rw[<- E,e,<- bI n r b m];show A _ (by rw[l,<- hl];show m) (by rw[Mr,l,D])
def fq (h:x∈fO n):0<=x/\x<n:=by
 obtain⟨k,hk,rfl⟩:=MN.mp h;have:=ML.mp hk;omega
def mw (h:u∈rG a n):GoodW a n u/\↥u=3:=by
 unfold rG at h;simp only[NM,MN]at h;obtain⟨m0,e,k,f,l,g,m,b,w2,c,w3,d,rfl⟩:=h;show#[?_,rfl];have i:GoodW a n ([]++[(m0,[])]):=GoodW.nil.snoc (fq e) rfl (λw hw=>nomatch hw)
 have j:=i.snoc (fq f) rfl (λw hw=>by rw[MS.mp hw];show fq b)
 show j.snoc (fq g) rfl (λw hw=>by
  simp only[M5,Nx,Ow]at hw;rcases hw with rfl|rfl
  ·show fq c
  ·show fq d)
def oB (c:GoodB bs)(h:g∈aW a bs):GoodW a ↥bs g/\↥g=3:=by
 unfold aW at h;rw[Qt]at h;obtain⟨u,k,rfl⟩:=MN.mp h;obtain⟨b,o⟩:=mw k;unfold dc;have f:im ((au.map (ae bs u)).map cJ)<(au.map (ae bs u)).length:=by
  unfold im;show Rm (de _ _) ?_;rw[Mr,Mr];decide
 have:=MQ (aq (d:=[]) f);obtain⟨t,j,e⟩:=MN.mp this;rw[<- e];have tk:∀t∈au,↥t=3/\t.Nodup/\∀p∈t,p<3:=by decide
 obtain⟨l,m,n⟩:=tk t j;show#[b9 c b (λp i=>by have:=n p i;omega) m,by rw[aB];show l]
def cb :t∈au↔Ord 3 t/\↥t=3:=by
 constructor
 ·intro h;have:∀t∈au,t.Nodup/\(∀p∈t,p<3)/\↥t=3:=by decide
  obtain⟨a,b,c⟩:=this t h;show#[#[a,b],c]
 ·intro h;have a:=pY.mpr h;have:∀t∈Bh 3,t∈au:=by decide
  show this t a
def uf :∃t∈au,dc bs u=ae bs u t/\∀s∈au,fT (cJ (ae bs u s)) (cJ (dc bs u))=gV false:=by
 obtain⟨x,a,h,c⟩:=mh (ks:=(au.map (ae bs u)).map cJ) (λx g=>by obtain⟨p,_,rfl⟩:=MN.mp g;show pW p) (gI _) (by(delta au;simp))
 rw[MD,Mv]at a;obtain⟨v,b,rfl⟩:=a;have e:dc bs u=v:=by unfold dc;rw[MG,b];rfl
 rw[e];obtain⟨t,f,rfl⟩:=MN.mp (MQ b);show#[t,f,rfl,λs d=>c _ (MN.mpr #[_,MN.mpr #[s,d,rfl],rfl])]
def gN (h:↥u=3):dc bs u=mj bs u:=by
 obtain⟨t,a,e,i⟩:=uf;obtain⟨o,d,f,g⟩:=mm;have hl:∀t∈au,fT (cJ (ae bs u t)) (cJ (mj bs u))=gV false:=λt a=>by
  obtain⟨b,c⟩:=cb.mp a;rw[<- h]at b c;show(rX   ↥u (MH _)).least t b c
 show eJ (vY (pW _) ?_ ?_)
 ·rw[e];show hl t a
 ·rw[<- g];rw[h]at d f;show i o (cb.mpr #[d,f])
def Hq (l:GoodB bs)(m:∀g∈j,g∈aW a bs)(hw:GoodW a ↥bs w)(q:↥w=3):dc bs w∈j↔w∈bz bs j:=by
 unfold bz;rw[NM];have p:∀u t,GoodW a _ u->↥u=3->t∈au->dc bs (ae bs u t)=dc bs u:=λu t n hl b=>by
  obtain⟨o,f⟩:=cb.mp b;rw[gN hl,gN (by rw[aB,f]),mo l n (by rw[hl];show o) (by rw[f,hl])]
 constructor
 ·intro h;obtain⟨t,b,e,_⟩:=uf;obtain⟨o,f⟩:=cb.mp b;have inv:∀t∈au,∃s∈au,(s.map λi=>t.getD i 0)=[0,1,2]:=by decide
  obtain⟨s,d,es⟩:=inv t b;show#[_,h,MN.mpr #[s,d,?_]];have:=bI  l hw (by rw[q];show o) (by rw[f];show(cb.mp d).1)
  rw[e,this,es];have z:[0,1,2]=MJ ↥w:=by rw[q];rfl
  rw[z];have self:∀k,k<=↥w->ae bs w (MJ k)=w.take k:=λk=>by
   induction k with
   |zero=>intro _;simp[ae]
   |succ k ih=>
    intro hk;rw[Ol,aY,ih ∅,jE hw ∅,Nd,aq  ∅];rfl
  rw[self _ (MH _),Nl]
 ·rintro⟨g,r,h⟩;obtain⟨t,b,rfl⟩:=MN.mp h;have c:=m g r;obtain⟨x,v⟩:=oB l c;rw[p g t x v b];unfold aW at c;rw[Qt]at c;obtain⟨u,n,e⟩:=MN.mp c;obtain⟨y,A⟩:=mw n;obtain⟨s,d,es,_⟩:=uf  (u:=u);have:dc bs g=g:=by
   rw[<- e]
   conv=>lhs;rw[es]
   rw[p u s y A d]
  rw[this];show r
abbrev pZ:Ss:=
 #v[.ret (.ix (.ix (.ix (.v 0) (.c (.int 1))) (.v 1)) (.c (.int 1)))]
abbrev my:Ss:=
 #v[.set 5 (.comp (.own "first_bar" 2 #v[.v 2,.own "with_both" 5 #v[.v 6,.v 3,.v 4,.v 5,.v 1]]) (.nm 1) (.rng #v[.bi .len #v[.ix (.v 0) (.c (.int 1))]]) .nil [td,td,gV 1,gV 2,gV 3,gV 4,gV 0]),.ret (.bi .tuple #v[.op .add (.v 5) (.lst #v[.own "same_bar" 2 #v[.v 3,.v 4]])])]
abbrev gA:Ss:=
 #v[.ret (.op .add (.v 1) (.tup #v[.v 2,.tup #v[.ix (.v 3) (.c (.int 0)),.op .add (.ix (.v 3) (.c (.int 1))) (.tup #v[.own "back" 2 #v[.v 0,.v 4]])]]))]
abbrev eg:Ss:=
 #v[.ite (.cmp .ne (.ix (.v 0) (.c (.int 0))) (.ix (.v 1) (.c (.int 0)))) #v[.ret (.neg (.c (.int 1)))] .nil,.set 2 (.comp (.v 1) (.nm 1) (.rng #v[.bi .len #v[.ix (.v 0) (.c (.int 1))]]) #v[.cmp .ne (.ix (.ix (.v 2) (.c (.int 1))) (.v 1)) (.ix (.ix (.v 3) (.c (.int 1))) (.v 1))] [td,td,gV 0,gV 1]),.ret (.ite (.v 2) (.ix (.v 2) (.c (.int 0))) (.c .non))]
abbrev ci (P:Mz->M9)(s:Mz):W:=match (MJ s).find? P with
 |some i=>.int (i:MM)
 |none=>.non
def ug (h:∀i<s,P i=false):ci P s=.non:=by
 unfold ci;have:(MJ s).find? P=td:=PH.mpr λi hi=>by rw[h i (ML.mp hi)];show Nu
 rw[this]
def mz :∀{s i:Mz},i<s->P i=true->(∀j<i,P j=false)->(MJ s).find? P=gV i
 |s+1,i,hi,b,a=>by
  rw[Ol,List.find?_append]
  by_cases e:i=s
  ·subst e;have:(MJ i).find? P=td:=PH.mpr λj c=>by rw[a j (ML.mp c)];show Nu
   rw[this];simp[b]
  ·rw[mz ∅ b a];rfl
def uh (hi:i<s)(b:P i=true)(a:∀j<i,P j=false):ci P s=.int i:=by
 unfold ci;rw[mz hi b a]
def uj :(((MJ s).filter P).map (λ(i:Mz)=>W.int i)++[.non])[0]?=gV (ci P s):=by
 unfold ci;rw[<- List.head?_filter];cases(MJ s).filter P<;>rfl
def ke (P:Mz->M9)(s:Mz):ci P s=.non\/∃i:MM,ci P s=.int i:=by
 unfold ci;cases(MJ s).find? P with
 |none=>show .inl rfl
 |some i=>show .inr #[_,rfl]
abbrev dD (bs:Mq MM)(u:Wd)(one a:Pt)(n:Mz):Wd:=u++[one]++[(a.1,a.2++[bs.getD n 0])]
abbrev kh (one a:Pt):W:=if one.1=a.1 then ci (λp=>!(one.2.getD p 0==a.2.getD p 0)) ↥one.2 else .int (-1)
abbrev fM (P:Wd->Mz->M9)(bs:Mq MM)(u:Wd)(one a:Pt):Mq W:=(MJ ↥bs).map (λn=>ci (P (dD bs u one a n)) ↥u)++[kh one a]
def uq (one a:Pt):kh one a=.non\/∃i:MM,kh one a=.int i:=by
 unfold kh;split
 ·show ke _ _
 ·show .inr #[_,rfl]
structure GoodP (a n k:Mz)(p:Pt):Prop where
 mark:0<=p.1/\p.1<a
 len:↥p.2=k
 way:∀w∈p.2,0<=w/\w<(n:MM)
def xR (i:GoodB bs)(k:GoodW a ↥bs u)(d:GoodP a ↥bs ↥u one)(e:GoodP a ↥bs ↥u c)(j:n<↥bs):GoodW a ↥bs (dD bs u one c n)/\(dD bs u one c n).length=↥u+2:=by
 show#[(k.snoc   d.mark d.len d.way).snoc e.mark ?_ λw hw=>?_,?_]
 ·rw[Mt,Mt,e.len];rfl
 ·rcases Na.mp hw with z|z
  ·show e.way w z
  ·rw[MS.mp z];obtain⟨b,f,g,h⟩:=i.rng n j;rw[getD_some f];show#[g,h]
 ·unfold dD;rw[Mt,Mt];rfl
section
variable{defs:Mq (M2×Df)}{fuel d:Mz}{S:aa}{Q:QW}
def r0 (u:Is defs ("three_at") 4 6 bQ)(x:Is defs ("first_bar") 2 4 be)(B:GoodW a n v)(D:↥v=s+2)(hl:↥v<=1000)(e:S[q]?=gV (.dic U))(k:Q (ci (λp=>cF U v p s (s+1)) s,S)) :
  wO (aL (ar defs fuel (d+2)) "first_bar" 2 [.ref q,az v] S) Q:=by
 show ay x rfl rfl λl w=>?_
 replace k:=w _ _ k;change wZ _ _ be [gV (.ref q),gV (az v),td,td] S l;have C:(v.map aH).length=↥v:=Mr ..;show st ?_;left;show aC (ab iX ?_);rw[C,show ↥v-1=((s+1:Mz):MM) by omega]
 nofun
 show bN s (λi Z r=>(∃f,Z=[gV (.ref q),gV (az v),gV (.int ((s+1:Mz))),f])/\r=S/\∀b<i,cF U v b s (s+1)=false) rfl rfl ∅ ?_ ?_ ?_
 ·left;show ab iX #[?_,#[_,rfl],rfl,λb z=>by show absurd ‹_› (OI _)]
  rw[show((s+1:Mz))-1=(s:MM) by omega]
 ·rintro i Z S1 hi ⟨⟨f,rfl⟩,rfl,c⟩ m y A;left;nofun
  delta wS wT wE wA wV wG;show ab iX ?_;rw[show((s+1:Mz))-1=(s:MM) by omega]
  show vW  u B ∅ (ON s) ∅ ?_
  show ab (show bx .isin (az (dB v i s (s+1))) (.ref q) S1=gV (.bl (cF U v i s (s+1)),S1) by simp only[bx,bW e];rfl) ?_
  delta wB;show ap (Q0:=m) (λh o _ j=>?_) (λh o g _=>ba (g _ _ (hK _ _ (ba (y _ _ #[#[_,rfl],rfl,λb z=>?_])))))
  ·show st ?_;left;rw[uh (P:=λp=>cF U v p s (s+1)) ∅ h c]at k
   show j _ _ (A _ _ k)
  ·by_cases t:b=i
   ·rw[t];show h
   ·show c b ∅
 ·rintro Z S1 ⟨⟨f,rfl⟩,rfl,c⟩;show hK _ _ (st ?_);left;rw[ug  λi hi=>c i ∅]at k
  show k
def Hr (f:Is defs ("back") 2 2 pZ){n:Mz}(h:↥a=↥bs)(g:n<↥bs)(k:Q (.int (bs.getD n 0),S)) :
  wO (aL (ar defs fuel (d+1)) "back" 2 [.tup [m0,.tup (MR aK a bs),b0],.int n] S) Q:=by
 show ay f rfl rfl λb c=>?_
 replace k:=c _ _ k;change wZ _ _ _ [gV _,gV _] S b;have e:=aq (d:=0) g;show st ?_;left;show af #v[] rfl (af (MK n) (by rw[M0];show lQ (MC ∅) e) (af #v[] rfl k))
def r8 (b:Is defs ("back") 2 2 pZ)(i:Is defs ("with_both") 5 5 gA)(c:↥e=↥bs)(j:n<↥bs)(m:↥u<=900)(l:↥a.2<=900)(k:Q (az (dD bs u one a n),S)) :
  wO (aL (ar defs fuel (d+2)) "with_both" 5 [.tup [m0,.tup (MR aK e bs),b0],az u,aH one,aH a,.int n] S) Q:=by
 show ay i rfl rfl λf h=>?_
 replace k:=h _ _ k;change wZ _ _ _ [gV _,gV _,gV _,gV _,gV _] S f;show st ?_;left;show af #v[] rfl (af #v[] rfl ?_)
 show Hr  b c j ?_;show ab (cg (jF ?_)) ?_
 ·rw[Mt,Mr];show _+1<=_;omega
 have g:u.map aH++[aH one,.tup [.int a.1,.tup (a.2.map W.int++[.int (bs.getD n 0)])]]=(dD bs u one a n).map aH:=by
  unfold dD;simp[aH]
 show ab (cg (jF ?_)) ?_
 ·rw[Mt,Mr];show _+2<=_;omega
 rw[g];show k
def ur (u:Is defs ("same_bar") 2 3 eg)(h:↥b.2=↥one.2)(hl:↥one.2<=900)(k:∀g,Ka S g->Q (kh one b,g)) :
  wO (aL (ar defs fuel (d+1)) "same_bar" 2 [aH one,aH b] S) Q:=by
 show ay u rfl rfl λm o=>?_
 replace k:=λg a=>o _ _ (k g a)
 clear o;change wZ _ _ eg [gV (aH one),gV (aH b),td] S m;have r:∀(p:Pt) i,i<↥p.2->(p.2.map W.int)[(i:MM).toNat]?=gV (.int (p.2.getD i 0)):=λp i hi=>by
  rw[M0,MD,aq  hi];rfl
 delta eg;nofun
 delta wS wT wE wV wG;show af #v[] rfl (af #v[] rfl (ab G1 ?_))
 delta wB;unfold kh at k;show ap (Q0:=m) (λc t _ w=>?_) (λc t q _=>ba (q _ _ (hK _ _ ?_)))
 ·have c:one.1≠b.1:=λz=>by rw[z]at c;simp at c
  show st ?_;delta wS;rw[Nm c]at k;show w _ _ (k S .refl)
 clear hK K q;have c:one.1=b.1:=by
  by_cases z:one.1=b.1
  ·show z
  ·have:(!(one.1==b.1))=true:=by simp[z]
   rw[this]at c;cases c
 rw[M4 c]at k;show st ?_;left;show ee ↥one.2 (λp=>!(one.2.getD p 0==b.2.getD p 0)) (λi=>W.int i) [gV (aH one),gV (aH b)] rfl rfl rfl rfl (by show M1 ‹_› (Ni rfl)) ?_ (λi hi f l=>?_) λf l=>?_
 ·left;show af #v[] rfl (aC ?_)
  rw[Mr];show#[rfl,.refl]
 ·delta eS wC wT wE wV wG;show af #v[] rfl (af (MK i) (r one i hi) (af #v[] rfl (af (MK i) (r b i ∅) (ab G1 ?_))))
  delta wB;show#[λz=>#[z,rfl,.refl],λz=>#[z,.refl]]
 ·have j:=uj (P:=λp=>!(one.2.getD p 0==b.2.getD p 0)) (s:=↥one.2)
  show st ?_;delta wS wE wT wV wG;cases n:((MJ ↥one.2).filter λp=>!(one.2.getD p 0==b.2.getD p 0))with
  |nil=>
   rw[n]at j;show ab (show eW (f++[O.lst []]) (.ref ↥f)=gV false by simp only[eW,aD ag];rfl) #[λz=>(by cases z),λ_=>?_]
   have e:=(NE j).symm;rw[e]at k;show k _ (l.trans .push)
  |cons x L=>
   rw[n]at j;show ab (show eW (f++[O.lst ((x::L).map λ(i:Mz)=>W.int i)]) (.ref ↥f)=gV true by simp only[eW,aD ag];rfl) #[λ_=>?_,λz=>by cases z]
   have e:=(NE j).symm;rw[e]at k;show dL  ag rfl (k _ (l.trans .push))
end
abbrev J6:W->M9
 |.non=>true
 |_=>false
abbrev NI (w:W):Prop:=w=.non\/∃i:MM,w=.int i
def xS :(fM P bs u one a).length=↥bs+1:=by
 unfold fM;rw[Mt,Mr,MX];rfl
section
variable{defs:Mq (M2×Df)}{fuel d:Mz}{S:aa}{Q:QW}
structure Fil (defs:Mq (M2×Df)):Prop where
 parts:Parts defs
 part:Is defs ("part": M2) 3 3 iC
 longer:Is defs ("longer_orders": M2) 2 4 bS
 barred:Is defs ("barred_threes": M2) 1 5 cy
 three:Is defs ("three_at": M2) 4 6 bQ
 fbar:Is defs ("first_bar": M2) 2 4 be
 back:Is defs ("back": M2) 2 2 pZ
 both:Is defs ("with_both": M2) 5 5 gA
 same:Is defs ("same_bar": M2) 2 3 eg
 all:Is defs ("all_bars": M2) 5 6 my
def mB (F:Fil defs)(l:GoodB bs)(f:↥r=↥bs)(B:GoodW a ↥bs u)(h:GoodP a ↥bs ↥u one)(i:GoodP a ↥bs ↥u b)(C:↥u<=800)(e:S[q]?=gV (.dic U))
  (k:∀g,Ka S g->Q (.tup (fM (λv p=>cF U v p ↥u (↥u+1)) bs u one b),g)) :
  wO (aL (ar defs fuel (d+3)) "all_bars" 5 [.tup [m0,.tup (MR aK r bs),b0],.ref q,az u,aH one,aH b] S) Q:=by
 show ay F.all rfl rfl λs y=>?_
 replace k:=λg a=>y _ _ (k g a)
 change wZ _ _ _ [gV _,gV _,gV _,gV _,gV _,td] S s;generalize c:W.tup _=R;have A:↥bs<=3:=by rcases l with rfl|rfl|rfl|rfl|rfl|rfl<;>decide
 show st ?_;show ee ↥bs (λ_=>true) (λn=>ci (λp=>cF U (dD bs u one b n) p ↥u (↥u+1)) ↥u) [gV _,gV _,gV (aH one),gV (aH b),gV R] rfl rfl rfl rfl (by show M1 ‹_› (Ni rfl)) ?_ (λn m t j=>?_) λt j=>?_
 ·left;subst c;show af #v[] rfl (aC ?_)
  rw[Oq,f,QC];show#[rfl,.refl]
 ·obtain⟨w,x⟩:=xR l B h i m;delta eS wC wE wA wV wG;subst c;show#[λ_=>?_,λz=>by cases z]
  show r8  F.back F.both f m ∅ (by rw[i.len];omega) ?_
  show r0  F.three F.fbar w x ∅ (j.get _ _ e) #[rfl,rfl,.refl]
 ·rw[aX];show st ?_;left;show ur  F.same (by rw[h.len,i.len]) (by rw[h.len];omega) λD o=>?_
  show ab (Ae (aw (o.get _ _ ag)) ag (jF ?_)) (cH ag (k _ (((j.trans .push).trans o).trans (Ka.push.trans .push))));rw[Mt,Mr,MX];show _+1<=_;omega
end
def Std.last (h:Std U u):Std U u.dropLast/\cR U u.dropLast ↥u.dropLast (u.getD (↥u-1) (0,[]))=true:=by
 have e:∀p,p<↥u-1->u.dropLast.getD p _=u.getD p (0,[]):=λp b=>by
  rw[MG,MG,List.getElem?_dropLast,M4 b]
 show#[λk hk j a i hi=>?_,bA.mpr λj a i hi=>?_]
 ·rw[P1]at hk;have:=h k ∅ j a i hi
  unfold cF dB at this ⊢;rw[e i ∅,e j ∅,e k hk]
  show this
 ·rw[P1]at a;have:=h _ ∅ j a i hi
  unfold bL;rw[e i ∅,e j ∅]
  show this
abbrev mC (u:Wd)(one a:Pt)(b:MM)(p:Mz):Wd:=[((u.getD p (0,[])).1,[]),(one.1,[one.2.getD p 0]),(a.1,[a.2.getD p 0,b])]
def ut (i:GoodP a k ↥u one)(c:GoodP a k ↥u b)(d:p<↥u):dB (dD bs u one b n) p ↥u (↥u+1)=mC u one b (bs.getD n 0) p:=by
 have h:(u++[one]).length=↥u+1:=by rw[Mt];rfl
 have e:(dD bs u one b n).getD p (0,[])=u.getD p (0,[]):=by
  unfold dD;rw[aF ∅,aF d]
 have f:(dD bs u one b n).getD ↥u (0,[])=one:=by
  unfold dD;rw[aF ∅,bj]
 have g:(dD bs u one b n).getD (↥u+1) (0,[])=(b.1,b.2++[bs.getD n 0]):=by
  unfold dD;rw[<- h,bj]
 unfold dB mC;rw[e,f,g];rw[bm (by rw[c.len];show d)]
 have:(b.2++[bs.getD n 0]).getD ↥u 0=bs.getD n 0:=by
  rw[<- c.len,MG,Nt (MH _),O0];rfl
 rw[this]
abbrev Bm (one a:Pt)(s:Mz):M9:=(one.1==a.1)&&(MJ s).all λp=>one.2.getD p 0==a.2.getD p 0
def oD :J6 (ci P s)=(MJ s).all λp=>!P p:=by
 rw[PM,MY];unfold ci;constructor
 ·intro h p a;cases b:(MJ s).find? P with
  |none=>
   have:=PH.mp b p a
   simpa using this
  |some i=>rw[b]at h;cases h
 ·intro h;have:=PH.mpr λp a=>by simpa using h p a
  rw[this];rfl
abbrev aT (p:Pt)(ps:Mq Mz):Pt:=(p.1,ps.map λk=>p.2.getD k 0)
def jJ (h:GoodP a n s p)(b:∀k∈ps,k<s):GoodP a n ↥ps (aT p ps):=by
 show#[h.mark,by unfold aT;rw[Mr],λw hw=>?_]
 obtain⟨k,hk,rfl⟩:=MN.mp hw;show h.way _ (MQ (aq  (by rw[h.len];show b k hk)))
def dR (h:i<↥ps):(aT p ps).2.getD i 0=p.2.getD (ps.getD i 0) 0:=by
 unfold aT;rw[MG,MD,aq  h];rfl
def r9 (h:i<↥ps):mC (ae bs u ps) (aT one ps) (aT a ps) b i=mC u one a b (ps.getD i 0):=by
 unfold mC;rw[fm h,dR h,dR h];rfl
abbrev bJ:Ss:=
 #v[.set 2 (.bi .list #v[.v 1]),.set 3 (.lst .nil),.whl (.cmp .ne (.v 2) (.lst .nil)) #v[.ex (.me .append (.v 3) #v[.me .pop (.v 2) #v[.own "_law_pick" 2 #v[.v 0,.bi .len #v[.v 2]]]])],.ret (.v 3)]
def Hs (h:ie S 20 (.ref i) (.ref j)=gV c):bx .ne (.ref i) (.ref j) S=gV (.bl (!c),S):=by
 revert bx cY sS h Nb
def J7 (a:S[i]?=gV (.lst xs))(b:S[j]?=gV (.lst [])):bx .ne (.ref i) (.ref j) S=gV (.bl (!xs.isEmpty),S):=by
 show Hs ?_
 (delta ie;simp only[bV a,bV b])
 cases xs with
 |nil=>rfl
 |cons x xs=>rfl
abbrev bd (U:Mq (T×W))(w:Wd):M9:=(bn U (cJ w)).isSome
abbrev Cl (bs:Mq MM)(U:Mq (T×W)):Prop:=∀(w:Wd) (t:Mq Mz),t∈au->bd U w=true->bd U (ae bs w t)=true
def Bn (n:GoodB bs)(b:∀g∈d,GoodW a ↥bs g/\↥g=3)(h:HasD U (bz bs d)):Cl bs U:=by
 intro w t k hw;unfold bd at hw ⊢;rw[h.get,M8]at hw ⊢;obtain⟨q,c,e⟩:=MN.mp hw;have e:=eJ e;subst e;show MN.mpr #[_,?_,rfl];obtain⟨g,f,h⟩:=NM.mp c;obtain⟨s,j,rfl⟩:=MN.mp h;obtain⟨m,l⟩:=b g f;obtain⟨o,p⟩:=cb.mp j;show NM.mpr #[g,f,?_];rw[bI n m (by rw[l];show o) (by rw[p];show(cb.mp k).1)]
 have:∀s∈au,∀t∈au,(t.map λi=>s.getD i 0)∈au:=by decide
 show MN.mpr #[_,this s j t k,rfl]
def oE (a:i<j)(b:j<k):dB u i j k=ae bs u [i,j,k]:=by
 have c:bg bs u j i=(u.getD j (0,[])).2.getD i 0:=by unfold bg;rw[M4 a]
 have d:bg bs u k i=(u.getD k (0,[])).2.getD i 0:=by unfold bg;rw[M4 (Oa a b)]
 have e:bg bs u k j=(u.getD k (0,[])).2.getD j 0:=by unfold bg;rw[M4 b]
 change _=[((u.getD i _).1,[]),((u.getD j _).1,[bg bs u j i]),((u.getD k _).1,[bg bs u k i,bg bs u k j])];rw[c,d,e];rfl
def Eb (r:GoodB bs)(q:Cl bs U)(w:GoodW a ↥bs u)(s:Std U u)(f:Ord ↥u [x,y,z]):bd U (ae bs u [x,y,z])=false:=by
 rw[OW];intro h;have go:∀i j k t,t∈au->(t.map λi=>[x,y,z].getD i 0)=[i,j,k]->i<j->j<k->k<↥u->N6:=λi j k t l e d b c=>by
  have:=q _ t l h;rw[bI r w f (cb.mp l).1,e,<- oE d b]at this;have g:=s k c j b i d;unfold cF at g;unfold bd at this;rw[this]at g;cases g
 have m:=f.lt x (by simp)
 have n:=f.lt y (by simp)
 have o:=f.lt z (by simp)
 have nd:=f.nd;simp only[Ox,M5,Nx,Ow,SA]at nd;obtain⟨⟨A,p⟩,n3,_⟩:=nd;rcases PK A with d|d
 ·rcases PK n3 with b|b
  ·show go x y z [0,1,2] #v[] rfl d b o
  ·rcases PK p with c|c
   ·show go x z y [0,2,1] #v[] rfl c b n
   ·show go z x y [2,0,1] #v[] rfl c d n
 ·rcases PK p with b|b
  ·show go y x z [1,0,2] #v[] rfl d b o
  ·rcases PK n3 with c|c
   ·show go y z x [1,2,0] #v[] rfl c b m
   ·show go z y x [2,1,0] #v[] rfl c d m
def uu {ps:Mq Mz}(h:ps.Nodup)(hi:i<↥ps)(a:j<↥ps)(e:ps.getD i 0=ps.getD j 0):i=j:=by
 rw[MG,MG,MC hi,MC a]at e;show(Od h).mp e
def Std.part (f:GoodB bs)(h:Cl bs U)(g:GoodW a ↥bs u)(q:Std U u)(b:Ord ↥u ps):Std U (ae bs u ps):=by
 intro k hk j n i hi;rw[aB]at hk;have d:Ord ↥ps [i,j,k]:=#[by revert Ox M5 Nx Ow SA;show#[#[∅,∅],∅,by simp],λp c=>by
  simp only[M5,Nx,Ow]at c;rcases c with rfl|rfl|rfl<;>omega]
 change bd U (dB (ae bs u ps) i j k)=false;rw[oE  hi n,bI f g b d];have l:∀m,m<↥ps->ps.getD m 0∈ps:=λm o=>MQ (aq  o)
 show Eb f h g q #[?_,λp c=>?_]
 ·revert Ox M5 Nx Ow SA;show#[#[λe=>by have:=uu b.nd ∅ ∅ e;omega,λe=>by have:=uu b.nd ∅ ∅ e;omega],λe=>by have:=uu b.nd ∅ ∅ e;omega,by simp]
 ·simp only[M5,Nx,Ow]at c;rcases c with rfl|rfl|rfl<;>show b.lt _ (l _ ∅)
def Std.both :Std U (u++[p])↔Std U u/\cR U u ↥u p=true:=by
 constructor
 ·intro h;have:=h.last;rw[SF,Mt,Ng,Nat.add_sub_cancel,bj]at this;show this
 ·rintro⟨a,b⟩;show a.snoc   (bA.mp b)
def sa (h:∀k∈ps,k<↥u):ae bs (u++[p]) ps=ae bs u ps:=by
 show Nw λk hk=>?_
 have hk:=ML.mp hk;have a:=h _ (MQ (aq (d:=0) hk));rw[aF a];congr 1;show Nw λj c=>?_
 have b:=h j (N8 c);unfold bg;rw[aF a,aF b]
def jK (h:∀k∈ps,k<↥u):ae bs (u++[p]) (ps++[↥u])=ae bs u ps++[aT p ps]:=by
 rw[aY,sa h];congr 2;unfold aO aT;rw[bj];congr 1;show Nw λj a=>?_
 unfold bg;rw[M4 (h j a),bj]
structure Cf (a n:Mz)(U:Mq (T×W))(u:Wd)(p q:Pt):Prop where
 gu:GoodW a n u
 su:Std U u
 gp:GoodP a n ↥u p
 mp:cR U u ↥u p=true
 gq:GoodP a n ↥u q
 mq:cR U u ↥u q=true
def GoodP.snoc (b:GoodW a n u)(h:GoodP a n ↥u p):GoodW a n (u++[p]):=b.snoc   h.mark h.len h.way
def p4 (h:Ord n ps):Ord (n+1) (ps++[n]):=#[by
 rw[OH];show#[h.nd,by simp,λx c y d e=>by
  rw[MS.mp d]at e;have:=h.lt x c;omega],λp b=>by
 rcases Na.mp b with a|a
 ·have:=h.lt p a;show Ot ‹_›
 ·rw[MS.mp a];show MH _]
def Cf.part (c:GoodB bs)(d:Cl bs U)(h:Cf a ↥bs U u p q)(b:Ord ↥u ps):Cf a ↥bs U (ae bs u ps) (aT p ps) (aT q ps):=by
 have e:(ae bs u ps).length=↥ps:=aB ..;have one:∀p ,GoodP a _ _ p->cR U u _ p=true->cR U _ _ _=true:=λp g j=>by
  have k:=Std.both.mpr #[h.su,j];have i:(u++[p]).length=↥u+1:=by rw[Mt];rfl
  have f:=k.part c d (g.snoc h.gu)  (by rw[i];show p4 b)
  rw[jK b.lt]at f;show(Std.both.mp f).2
 show#[b9 c h.gu b.lt b.nd,h.su.part c d h.gu b,by rw[e];show jJ h.gp b.lt,one p h.gp h.mp,by rw[e];show jJ h.gq b.lt,one q h.gq h.mq]
abbrev cG (U:Mq (T×W))(bs:Mq MM)(u:Wd)(p q:Pt)(i:Mz):M9:=if i<↥bs then(MJ ↥u).any λk=>bd U (mC u p q (bs.getD i 0) k)else !Bm p q ↥u
abbrev Full (U:Mq (T×W))(bs:Mq MM)(c:Mz)(u:Wd)(p q:Pt):Prop:=∀i<c,cG U bs u p q i=true
def fF (hi:i<↥bs):cG U bs u p q i=true↔∃k<↥u,bd U (mC u p q (bs.getD i 0) k)=true:=by
 unfold cG;rw[M4 hi,OO];show#[λ#[k,h1,h2]=>#[k,ML.mp h1,h2],λ#[k,h1,h2]=>#[k,ML.mpr h1,h2]]
def Bo :Bm p q s=false↔p.1≠q.1\/∃k<s,p.2.getD k 0≠q.2.getD k 0:=by
 unfold Bm;rw[QJ,Rw];constructor
 ·rintro(h|⟨k,a,b⟩)
  ·show .inl (by simpa using h)
  ·show .inr #[k,ML.mp a,by simpa using b]
 ·rintro(h|⟨k,a,b⟩)
  ·show .inl (by simpa using h)
  ·show .inr #[k,ML.mpr a,by simpa using b]
def gB (hi:¬ i<↥bs):cG U bs u p q i=true↔p.1≠q.1\/∃k<↥u,p.2.getD k 0≠q.2.getD k 0:=by
 unfold cG;rw[Nm hi,Ph,Bo]
def v8 :(ps++[k]).getD ↥ps 0=k:=by
 rw[MG,Nt (MH _),O0];rfl
def wa {ps:Mq Mz}(h:k∈ps):∃j<↥ps,ps.getD j 0=k:=by
 obtain⟨j,a,e⟩:=Pu h;show#[j,a,by rw[MG,MC a];show e]
def Bp (h:cG U bs u p q i=true)(g:cG U bs (ae bs u ps) (aT p ps) (aT q ps) i=false):∃k<↥u,k∉ps/\cG U bs (ae bs u (ps++[k])) (aT p (ps++[k])) (aT q (ps++[k])) i=true:=by
 have f:∀ps,(ae bs u ps).length=↥ps:=λps=>aB ..
 have d:¬ cG U bs (ae bs u ps) (aT p ps) (aT q ps) i=true:=by rw[g];show Nu
 have b:∀k,↥ps<(ps++[k]).length:=λk=>by rw[Mt,Ng];omega
 by_cases hi:i<↥bs
 ·rw[fF hi]at h d;obtain⟨k,hk,c⟩:=h;show#[k,hk,λz=>?_,?_]
  ·obtain⟨j,a,e⟩:=wa z;show d #[j,by rw[f];show a,by rw[r9 a,e];show c]
  ·rw[fF hi];show#[↥ps,by rw[f];show b k,by rw[r9 (b k),v8];show c]
 ·rw[gB hi]at h d;rcases h with h|⟨k,hk,c⟩
  ·show absurd (.inl h) d
  show#[k,hk,λz=>?_,?_]
  ·obtain⟨j,a,e⟩:=wa z;show d (.inr #[j,by rw[f];show a,by rw[dR a,dR a,e];show c])
  ·rw[gB hi];show .inr #[↥ps,by rw[f];show b k,by rw[dR (b k),dR (b k),v8];show c]
def Bq (b:↥p.2=↥u)(c:↥q.2=↥u)(h:cG U bs u p q i=true):cG U bs (u++[x]) (p.1,p.2++[v]) (q.1,q.2++[w]) i=true:=by
 have d:(u++[x]).length=↥u+1:=by rw[Mt];rfl
 by_cases hi:i<↥bs
 ·rw[fF hi]at h ⊢;obtain⟨k,hk,a⟩:=h;show#[k,∅,?_]
  unfold mC at a ⊢;dsimp only;rw[aF hk,bm ∅,bm ∅]
  show a
 ·rw[gB hi]at h ⊢;rcases h with h|⟨k,hk,a⟩
  ·show .inl h
  ·show .inr #[k,∅,?_]
   dsimp only;rw[bm ∅,bm ∅]
   show a
abbrev Br (U:Mq (T×W))(bs:Mq MM)(c:Mz)(u:Wd)(p q:Pt):Mz:=((MJ c).filter λi=>!cG U bs u p q i).length
def Ec {f g:Mz->M9}(hi:i<c)(h:∀j,f j=true->g j=true)(a:f i=false)(b:g i=true):((MJ c).filter λj=>!g j).length<((MJ c).filter λj=>!f j).length:=by
 have e:(MJ c).filter (λj=>!g j)=((MJ c).filter λj=>!f j).filter λj=>!g j:=by
  rw[List.filter_filter];show List.filter_congr λj _=>?_
  cases d:f j with
  |true=>rw[h j d];rfl
  |false=>simp
 rw[e];show List.length_filter_lt_length_iff_exists.mpr #[i,NP.mpr #[ML.mpr hi,by rw[a];rfl],by rw[b];show Nu]
abbrev iE (U:Mq (T×W))(v:Wd)(n:Mz)(p:Pt):Mq Pt:=((MJ n).map λ(w:Mz)=>(p.1,p.2++[(w:MM)])).filter λh=>dC U (v++[h])
abbrev sd (U:Mq (T×W))(a n:Mz)(u:Wd)(p q:Pt):Mq (Wd×Pt×Pt):=(oz U u a n).flatMap λx=>(iE U (u++[x]) n p).flatMap λh=>(iE U (u++[x]) n q).map λh'=>(u++[x],h,h')
def jL {x  :Pt}:h∈iE U (u++[x]) n p↔∃w:Mz,w<n/\h=(p.1,p.2++[(w:MM)])/\∀i<↥u,bL U (u++[x]) h i ↥u=false:=by
 have b:(u++[x]).length=↥u+1:=by rw[Mt];rfl
 have a:∀h ,dC U (u++[x]++[h])=true↔∀i<↥u,bL U _ h i _=false:=λh=>by
  rw[mf  (by rw[Mt,b];rfl)]
  constructor<;>intro z i hi
  ·have:=z i hi;rw[<- b,l4 hi ∅]at this;show this
  ·rw[<- b,l4 hi ∅];show z i hi
 unfold iE;rw[NP,a,MN];show#[λ#[#[w,hw,e],z]=>#[w,ML.mp hw,e.symm,z],λ#[w,hw,e,z]=>#[#[w,ML.mpr hw,e.symm],z]]
def Bs (c:GoodP a n ↥u p)(m:cR U u ↥u p=true)(j:h∈iE U (u++[x]) n p):GoodP a n (u++[x]).length h/\cR U (u++[x]) (u++[x]).length h=true:=by
 have l:(u++[x]).length=↥u+1:=by rw[Mt];rfl
 obtain⟨w,hw,rfl,g⟩:=jL.mp j;have f:=c.len;show#[#[c.mark,?_,λz k=>?_],bA.mpr λq o i hi=>?_]
 ·rw[l,Mt,f];rfl
 ·rcases Na.mp k with d|d
  ·show c.way z d
  ·rw[MS.mp d];omega
 ·by_cases e:q=↥u
  ·subst e;show g i hi
  ·have b:q<↥u:=∅
   have:=bA.mp m q b i hi;unfold bL at this ⊢;rw[aF (Oa hi b),aF b,bm ∅,bm ∅]
   show this
def Ed (h:Cf a n U u p q)(hc:c∈sd U a n u p q):Cf a n U c.1 c.2.1 c.2.2/\↥c.1=↥u+1/\∀i,cG U bs u p q i=true->cG U bs c.1 c.2.1 c.2.2 i=true:=by
 obtain⟨x,m,hc⟩:=NM.mp hc;obtain⟨t,b,hc⟩:=NM.mp hc;obtain⟨v,d,rfl⟩:=MN.mp hc;obtain⟨e,f,g,k⟩:=md.mp m;obtain⟨o,p2⟩:=Bs h.gp h.mp b;obtain⟨r,s⟩:=Bs h.gq h.mq d;show#[#[h.gu.snoc   e f g,Std.both.mpr #[h.su,bA.mpr λj l i hi=>k i j hi l],o,p2,r,s],by rw[Mt];rfl,λi hi=>?_]
 obtain⟨w,_,rfl,_⟩:=jL.mp b;obtain⟨w2,_,rfl,_⟩:=jL.mp d;show Bq h.gp.len h.gq.len hi
def xT :aT p (ps++[k])=((aT p ps).1,(aT p ps).2++[p.2.getD k 0]):=by
 unfold aT;rw[MZ];rfl
def Bt (g:GoodB bs)(f:Cl bs U)(h:Cf a ↥bs U u p q)(e:Ord ↥u (ps++[k])):(ae bs u (ps++[k]),aT p (ps++[k]),aT q (ps++[k]))∈sd U a ↥bs (ae bs u ps) (aT p ps) (aT q ps):=by
 have C:=h.part g f e;have hk:=e.lt k (by simp)
 rw[aY]at C ⊢;generalize aO bs u ps k=x at C;generalize ae bs u ps=v at C;have s:(v++[x]).length=↥v+1:=by rw[Mt];rfl
 have b:(v++[x])[↥v]?=gV x:=by rw[Nt (MH _),O0];rfl
 obtain⟨_,n⟩:=Std.both.mp C.su;have one:∀r ,GoodP a ↥bs _ r->cR U _ (v++[x]).length (aT r (ps++[k]))=true->aT r (ps++[k])∈iE U (v++[x]) ↥bs (aT r ps):=λr c m=>by
  obtain⟨o,t⟩:=c.way _ (MQ (aq (d:=0) (by rw[c.len];show hk)))
  show jL.mpr #[(r.2.getD k 0).toNat,∅,?_,λi hi=>bA.mp m ↥v ∅ i hi]
  rw[xT,OY o]
 show NM.mpr #[x,md.mpr #[C.gu.mark _ _ b,C.gu.len _ _ b,C.gu.way _ _ b,λi j hi l=>bA.mp n j l i hi],NM.mpr #[_,one p h.gp C.mp,MN.mpr #[_,one q h.gq C.mq,rfl]]]
abbrev Sub (bs:Mq MM)(Uqc:Wd)(P Q:Pt)(u:Wd)(p q:Pt):Prop:=∃ps,Ord ↥Uqc ps/\u=ae bs Uqc ps/\p=aT P ps/\q=aT Q ps
abbrev gC (a:Mz)(bs:Mq MM)(U:Mq (T×W))(c:Mz)(u:Wd)(p q:Pt):Prop:=∀Uqc P Q,Cf a ↥bs U Uqc P Q->Full U bs c Uqc P Q->¬ Sub bs Uqc P Q u p q
def Ht (o:GoodB bs)(n:Cl bs U)(hi:i<c)(s:cG U bs u p q i=false)(h:∀x∈sd U a ↥bs u p q,cG U bs x.1 x.2.1 x.2.2 i=true->gC a bs U c x.1 x.2.1 x.2.2):gC a bs U c u p q:=by
 rintro Uqc P Q j l ⟨ps,m,rfl,rfl,rfl⟩;obtain⟨k,hk,f,r⟩:=Bp (l i hi) s;have b:Ord _ (ps++[k]):=#[by
  rw[OH];show#[m.nd,by simp,λx g y t e=>by rw[MS.mp t]at e;show f (e▸g)],λx g=>by
  rcases Na.mp g with d|d
  ·show m.lt x d
  ·rw[MS.mp d];show hk]
 show h _ (Bt o n j b) r Uqc P Q j l #[_,b,rfl,rfl,rfl]
def Full.turn (f:GoodB bs)(l:Cl bs U)(hc:↥bs<=c)(h:Full U bs c u p q):Full U bs c u q p:=by
 intro i hi
 by_cases a:i<↥bs
 ·obtain⟨b,d,m,n⟩:=f.rng i a;have j:(bs.getD i 0).toNat<↥bs:=by rw[getD_some d];omega
  obtain⟨k,hk,g⟩:=(fF j).mp (h _ (MU j hc));rw[f.inv i a]at g;show(fF a).mpr #[k,hk,?_];have:=l _ [0,2,1] #v[] g
  show this
 ·show(gB a).mpr ?_;rcases(gB a).mp (h i hi)with z|⟨k,hk,z⟩
  ·show .inl λe=>z e.symm
  ·show .inr #[k,hk,λe=>z e.symm]
def Cf.turn (h:Cf a n U u p q):Cf a n U u q p:=#[h.gu,h.su,h.gq,h.mq,h.gp,h.mp]
def Ee :Sub bs Uqc P Q [] (P.1,[]) (Q.1,[]):=#[[],#[.nil,λ_ h=>nomatch h],rfl,rfl,rfl]
abbrev mR (a:Mz)(bs:Mq MM)(U:Mq (T×W))(c:Mz):Prop:=∃Uqc P Q,Cf a ↥bs U Uqc P Q/\Full U bs c Uqc P Q
def J8 (g:GoodB bs)(f:Cl bs U)(hc:↥bs<=c)(h:∀i j:Mz,i<a->i<=j->j<a->gC a bs U c [] (i,[]) (j,[])):¬ mR a bs U c:=by
 rintro⟨Uqc,P,Q,d,e⟩;have go:∀P Q ,Cf a _ U Uqc P Q->Full U bs c Uqc P Q->P.1<=Q.1->N6:=λP Q d e b=>by
  obtain⟨k,m⟩:=d.gp.mark;obtain⟨l,n⟩:=d.gq.mark;have:=h P.1.toNat Q.1.toNat ∅ ∅ ∅ Uqc P Q d e
  rw[OY k,OY l]at this;show this Ee
 rcases Int.le_total P.1 Q.1 with b|b
 ·show go P Q d e b
 ·show go Q P d.turn (e.turn g f hc) b
def mD (b:GoodW a n u):∀k,k<=↥u->ae bs u (MJ k)=u.take k
 |0,_=>rfl
 |k+1,hk=>by
  rw[Ol,aY,mD b k ∅,jE b ∅,Nd,MC ∅]
  simp[MC (show k<↥u by omega)]
def se (b:GoodW a n u):ae bs u (MJ ↥u)=u:=by
 rw[mD b _ (MH _),Nl]
def oF (h:k<=n):Ord n (MJ k):=#[P4,λp a=>MU (ML.mp a) h]
abbrev fG (n:Mz)(ps:Mq Mz):Mq Mz:=(MJ n).map λk=>ps.idxOf k
def p7 (h:Ord n ps)(hl:↥ps=n):Ord n (fG n ps)/\(fG n ps).length=n/\((fG n ps).map λi=>ps.getD i 0)=MJ n:=by
 have mem:∀k,k<n->k∈ps:=λk hk=>dm h hl hk
 have lt:∀k,k<n->ps.idxOf k<n:=λk hk=>by rw[<- hl];show NW (mem k hk)
 have a:∀k,k<n->ps.getD _ 0=k:=λk hk=>by
  have:=NW (mem k hk);rw[MG,MC this,O1,O9]
 show#[#[?_,λp c=>?_],by unfold fG;rw[Mr,MX],?_]
 ·unfold fG;rw[Oi,Pi];show U8 (λ{x y} d f b e=>?_) List.pairwise_lt_range
  have:=congrArg (λi=>ps.getD i 0) e
  rw[a x (ML.mp d),a y (ML.mp f)]at this;omega
 ·obtain⟨k,hk,rfl⟩:=MN.mp c;show lt k (ML.mp hk)
 ·unfold fG;rw[Nj];have:(MJ n).map ((λi=>ps.getD i 0)∘λk=>ps.idxOf k)=(MJ n).map id:=Nw λk hk=>a k (ML.mp hk)
  rw[this,Uo]
abbrev uy (n:Mz)(ps:Mq Mz)(p:Pt):Pt:=aT p (fG n ps)
section
variable{a:Mz}{bs:Mq MM}{U:Mq (T×W)}{w:Wd}{ps:Mq Mz}{p:Pt}
def Hu (d:GoodB bs)(j:Cl bs U)(hw:GoodW a ↥bs w)(A:Std U w)(b:Ord ↥w ps)(hl:↥ps=↥w)(q:GoodP a ↥bs ↥ps p)(C:cR U (ae bs w ps) ↥ps p=true) :
  GoodP a ↥bs ↥w (uy ↥w ps p)/\Std U (w++[uy ↥w ps p])/\aT (uy ↥w ps p) ps=p:=by
 obtain⟨t,u,B⟩:=p7 b hl;have i:(ae bs w ps).length=↥ps:=aB ..;have z:=b9 d hw b.lt b.nd;have c:GoodP a ↥bs (ae bs w ps).length p:=by rw[i];show q
 have D:=Std.both.mpr #[A.part d j hw b,by rw[i];show C]
 have h:Ord (ae bs w ps).length (fG ↥w ps):=by rw[i,hl];show t
 have x:ae bs (ae bs w ps) (fG ↥w ps)=w:=by rw[bI d hw b (by rw[hl];show t),B,se hw]
 have v:=D.part d j (c.snoc z)  (by rw[Mt];show p4 h)
 rw[jK h.lt,x]at v;have o:=jJ  c h.lt;rw[u]at o;show#[o,v,?_];have y:(ps.map λk=>(fG ↥w ps).getD k 0)=MJ ↥ps:=by
  show On (by simp) λk e r=>?_
  have hk:k<↥ps:=by simpa using e
  have g:=b.lt _ (NC hk);have:(fG ↥w ps).getD ps[k] 0=ps.idxOf ps[k]:=by
   unfold fG;rw[MG,MD,NQ g];rfl
  rw[P3,Qu,this];show b.nd.idxOf_getElem k hk
 obtain⟨m,l⟩:=p;have f:=q.len;delta uy aT;show congrArg _ ?_;show On (by simp[f]) λk e r=>?_
 have hk:k<↥ps:=by simpa using e
 rw[P3];have s:ps[k]<(fG ↥w ps).length:=by rw[u];show b.lt _ (NC hk)
 rw[MG,MD,MC s,Nb,O1];have n:=congrArg (λL=>L[k]?) y
 rw[MD,MC hk,Nb,NQ hk,MG,MC s,O1]at n;rw[NE n,MG,MC r,O1]
def Bu (d:GoodP a ↥bs ↥u p)(g:cR U u ↥u p=true)(f:v<↥bs)(h:dC U (u++[x]++[(p.1,p.2++[(v:MM)])])=true) :
  GoodP a ↥bs (↥u+1) (p.1,p.2++[(v:MM)])/\cR U (u++[x]) (↥u+1) (p.1,p.2++[(v:MM)])=true:=by
 have e:(p.1,p.2++[(v:MM)])∈iE U (u++[x]) ↥bs p:=by
  unfold iE;show NP.mpr #[MN.mpr #[v,ML.mpr f,rfl],h]
 obtain⟨b,c⟩:=Bs d g e;rw[Mt,Ng]at b c;show#[b,c]
def wb (m:GoodB bs)(d:GoodP a ↥bs ↥u p)(h:∀v<↥bs,dC U (u++[x]++[(p.1,p.2++[(v:MM)])])=false):∀i<↥bs,cG U bs u x p i=true:=λi hi=>by
  obtain⟨b,e,f,n⟩:=m.rng i hi;have o:=h b.toNat ∅
  have g:¬ (p.1,p.2++[(b.toNat:MM)])∈iE U _ ↥bs p:=λz=>by
   have:=(NP.mp z).2;rw[o]at this;cases this
  rw[jL]at g;show(fF hi).mpr ?_;show P8 λhc=>g #[b.toNat,∅,rfl,λk hk=>?_]
  rw[OW];intro c;show hc #[k,hk,?_];rw[getD_some e];dsimp only[bL]at c;rw[aF hk,bj]at c;have j:(p.2++[(b.toNat:MM)]).getD k 0=p.2.getD k 0:=bm (by rw[d.len];show hk)
  have l:(p.2++[(b.toNat:MM)]).getD ↥u 0=b:=by
   rw[MG,Nt (by rw[d.len];show MH _),d.len,O0]
   show OY f
  rw[j,l]at c;show c
def sf (g:¬ mR a bs U (↥bs+1))(s:GoodB bs)(o:GoodW a ↥bs u)(z:Std U u)(l:GoodP a ↥bs ↥u x)(w:cR U u ↥u x=true)(d:GoodP a ↥bs ↥u p)(t:cR U u ↥u p=true)
  (h:∀v<↥bs,dC U (u++[x]++[(p.1,p.2++[(v:MM)])])=false):x=p:=by
 have f:=wb s d h;have j:Bm x p ↥u=true:=by
  cases e:Bm x p ↥u with
  |true=>rfl
  |false=>
   show absurd #[u,x,p,#[o,z,l,w,d,t],λi hi=>?_] g
   by_cases b:i<↥bs
   ·show f i b
   ·unfold cG;rw[Nm b,e];rfl
 unfold Bm at j;rw[MB,MY]at j;obtain⟨c,n⟩:=j;obtain⟨m,A⟩:=x;obtain⟨pm,y⟩:=p;have c:m=pm:=eq_of_beq c;subst c;have B:↥A=↥u:=l.len;have C:↥y=↥u:=d.len;show congrArg (Prod.mk m) (On ∅ λk q r=>?_)
 have:=eq_of_beq (n k (ML.mpr ∅))
 dsimp only at this;rw[MG,MG,MC q,MC r]at this;show this
abbrev aG (n:Mz)(ps:Mq Mz):Mq Mz:=(MJ n).filter λi=>decide (i∉ps)
abbrev Bv (U:Mq (T×W))(bs:Mq MM)(w:Wd)(a:Mq Mz)(b:Pt):Prop:=∀x,(aG ↥w a)[0]?=gV x->∃v<↥bs,dC U (ae bs w a++[aO bs w a x]++[(b.1,b.2++[((v:Mz):MM)])])=true
structure SprF (a:Mz)(bs:Mq MM)(U:Mq (T×W))(w:Wd)(ps0:Mq Mz)(p0:Pt)(ps:Mq Mz)(p:Pt):Prop where
 pre:∃t vs,ps=ps0++t/\p=(p0.1,p0.2++vs)
 ord:Ord ↥w ps
 gp:GoodP a ↥bs ↥ps p
 mp:cR U (ae bs w ps) ↥ps p=true
 fin:(↥ps=↥w/\Bv U bs w ps0 p0)\/∃x,x<↥w/\x∉ps/\(∀y<x,y∈ps)/\aO bs w ps x=p/\mR a bs U ↥bs
def Bw (hl:↥l=↥ps)(h:aO bs w (ps++t) x=(m,l++vs)):aO bs w ps x=(m,l):=by
 unfold aO at h ⊢;rw[MZ,PQ]at h;obtain⟨a,b⟩:=h;rw[a,(Se b (by rw[Mr,hl])).1]
def xU (hl:↥l=↥ps)(h:aT q (ps++t)=(m,l++vs)):aT q ps=(m,l):=by
 unfold aT at h ⊢;rw[MZ,PQ]at h;obtain⟨a,b⟩:=h;rw[a,(Se b (by rw[Mr,hl])).1]
end
noncomputable abbrev Pl:=Mq (Mz×Mz)
abbrev D2 (L:Pl):Mq (MM×W):=L.map λp=>(((p.1:Mz):MM),W.int (p.2:Mz))
abbrev nk (L:Pl)(j:Mz):Mz:=(L.map (·.2)).getD ((L.map (·.1)).idxOf j) 0
def kM (j:Mz):∀{L:Pl},eh (D2 L) j=if j∈L.map (·.1)then gV (W.int (nk L j))else td
 |[]=>rfl
 |p::L=>by
  have ih:=kM j (L:=L);obtain⟨x,y⟩:=p
  by_cases e:x=j
  ·subst e
   (delta eh D2 nk;simp)
  ·have c:eh (D2 ((x,y)::L)) j=eh (D2 L) j:=by
    have:¬ (x=(j:MM)):=∅
    (delta eh D2;simp[this])
   have d:nk ((x,y)::L) j=nk L j:=by
    unfold nk;rw[NL,NL,Ux];have:(x==j)=false:=by simpa using e
    rw[this];rfl
   rw[c,ih,d];have b:j∈((x,y)::L).map (·.1)↔j∈L.map (·.1):=by
    rw[NL,M5];show#[λh=>h.resolve_left λz=>e z.symm,.inr]
   by_cases a:j∈L.map (·.1)
   ·rw[M4 a,M4 (b.mpr a)]
   ·rw[Nm a,Nm λz=>a (b.mp z)]
def Ef {j :Mz}(h:j∉L.map (·.1)):mU (D2 L) j (W.int (p:Mz))=D2 (L++[(j,p)]):=by
 unfold mU;have:((D2 L).any λq=>decide (q.1=j))=false:=by
  rw[PX];intro q a;obtain⟨x,b,rfl⟩:=MN.mp a;have:x.1≠j:=λe=>h (e▸MN.mpr #[x,b,rfl])
  revert M8;omega
 rw[this,Nm Nu];unfold D2;rw[MZ];rfl
def oG (h:n∉ps):aG (n+1) ps=aG n ps++[n]:=by
 unfold aG;rw[Ol,PJ,RI (by simpa using h)];rfl
def xV (h:n∈ps):aG (n+1) ps=aG n ps:=by
 unfold aG;rw[Ol,PJ,RJ (by simpa using h)]
 show Nr _
def jb :x∈aG n ps↔x<n/\x∉ps:=by
 unfold aG;rw[NP,ML,M8]
abbrev Bx (U:Mq (T×W))(bs:Mq MM)(one a:Wd)(b:Pl)(j x:Mz):Prop:=aG ↥a (b.map (·.1))=[j]/\aG ↥one (b.map (·.2))=[x]/\∀v<↥bs,dC U (ae bs one (b.map (·.2))++[aO bs one (b.map (·.2)) x]++[((aO bs a (b.map (·.1)) j).1,(aO bs a (b.map (·.1)) j).2++[((v:Mz):MM)])])=false
structure LayI (a:Mz)(bs:Mq MM)(U:Mq (T×W))(one other:Wd)(L0:Pl)(n:Mz)(w:Wd)(L:Pl):Prop where
 gw:GoodW a ↥bs w
 sw:Std U w
 ext:∃t,w=one++t
 op:Ord ↥w (L.map (·.2))
 oj:Ord ↥other (L.map (·.1))
 same:ae bs w (L.map (·.2))=ae bs other (L.map (·.1))
 pre:∃t,L=L0++t
 num:∀j<n,j∈L.map (·.1)
 new:∀x,↥one<=x->x<↥w->x∈L.map (·.2)
 all:(∀j<↥other,j∈L0.map (·.1))->w=one/\L=L0
 fresh:mR a bs U ↥bs\/∃t,L=L0++t/\t.map (·.2)=PB ↥one ↥t/\↥w=↥one+↥t/\t.map (·.1)=aG n (L0.map (·.1))
 single:∀j x,Bx U bs one other L0 j x->w=one/\(L=L0\/L=L0++[(j,x)])
section
variable{a:Mz}{bs:Mq MM}{U:Mq (T×W)}{one other w:Wd}{L0 L:Pl}{n x:Mz}
def LayI.start (b:GoodW a ↥bs one)(c:Std U one)(d:Ord ↥one (L0.map (·.2)))(e:Ord ↥other (L0.map (·.1)))(f:ae bs one (L0.map (·.2))=ae bs other (L0.map (·.1))):LayI a bs U one other L0 0 one L0:=
 #[b,c,#[[],by simp],d,e,f,#[[],by simp],λj g=>by show absurd ‹_› (OI _),λx b c=>∅,λ_=>#[rfl,rfl],.inr #[[],by simp,rfl,rfl,rfl],λ_ _ _=>#[rfl,.inl rfl]]
def LayI.skip (h:LayI a bs U one other L0 n w L)(b:n∈L.map (·.1)):LayI a bs U one other L0 (n+1) w L:=
 #[h.gw,h.sw,h.ext,h.op,h.oj,h.same,h.pre,λj c=>by
  by_cases e:j=n
  ·subst e;show b
  ·show h.num j ∅,h.new,h.all,h.fresh.imp id λ#[t,e1,e2,e3,e4]=>#[t,e1,e2,e3,by
   rw[e4];show(xV ?_).symm;rw[e1,MZ,e4]at b;rcases Na.mp b with h|h
   ·show h
   ·show absurd (jb.mp h).1 (NZ n)],h.single]
def dS (h:Ord m ps)(b:y<m)(a:y∉ps):Ord m (ps++[y]):=gy.mpr #[h,b,a]
def LayI.two (L:Pl)(j p:Mz):((L++[(j,p)]).map (·.1)=L.map (·.1)++[j])/\((L++[(j,p)]).map (·.2)=L.map (·.2)++[p]):=by simp
def LayI.no_all (h:LayI a bs U one other L0 n w L)(c:n<↥other)(b:n∉L.map (·.1)){P:Prop}(z:∀j<↥other,j∈L0.map (·.1)):P:=by
 obtain⟨t,e⟩:=h.pre;show absurd ?_ b;rw[e,MZ];show NA _ (z n c)
def LayI.not0 (h:LayI a bs U one other L0 n w L)(b:n∉L.map (·.1)):n∉L0.map (·.1):=λz=>b (by
 obtain⟨t,e⟩:=h.pre;rw[e,MZ];show NA _ z)
def LayI.is_one (h:LayI a bs U one other L0 n w L)(c:n<↥other)(b:n∉L.map (·.1))(d:Bx U bs one other L0 j x):n=j:=by
 have:=jb.mpr #[c,h.not0 b]
 rwa [d.1,MS]at this
def LayI.num' (h:LayI a bs U one other L0 n w L)(p:Mz):∀j<n+1,j∈(L++[(n,p)]).map (·.1):=λj b=>by
 rw[(LayI.two L n p).1]
 by_cases e:j=n
 ·subst e;simp
 ·show NA _ (h.num j ∅)
def LayI.wish (d:GoodB bs)(i:Cl bs U)(go:GoodW a ↥bs other)(l:Std U other)(h:LayI a bs U one other L0 n w L)(k:n<↥other)(j:n∉L.map (·.1)) :
  GoodP a ↥bs (L.map (·.2)).length (aO bs other (L.map (·.1)) n)/\cR U (ae bs w (L.map (·.2))) (L.map (·.2)).length (aO bs other (L.map (·.1)) n)=true:=by
 have b:=dS h.oj k j;have g:=b9 d go b.lt b.nd;have s:=l.part d i go b;rw[aY]at g s;have f:(L.map (·.2)).length=(L.map (·.1)).length:=by rw[Mr,Mr]
 have c:(ae bs other (L.map (·.1))).length=(L.map (·.1)).length:=aB ..
 have e:(ae bs other (L.map (·.1))++[aO bs other (L.map (·.1)) n])[(L.map (·.1)).length]?=gV (aO bs other (L.map (·.1)) n):=by
  rw[Nt (by rw[c];show MH _),c,O0];rfl
 show#[#[g.mark _ _ e,by rw[g.len _ _ e,f],g.way _ _ e],?_]
 have:=(Std.both.mp s).2;rw[c]at this;rw[h.same,f];show this
def LayI.put (D:GoodB bs)(h:LayI a bs U one other L0 n w L)(i:n<↥other)(b:n∉L.map (·.1))(r:GoodP a ↥bs ↥w q)(sq:Std U (w++[q]))(e:aT q (L.map (·.2))=aO bs other (L.map (·.1)) n)(l:Bv U bs w (L.map (·.2)) (aO bs other (L.map (·.1)) n)) :
  LayI a bs U one other L0 (n+1) (w++[q]) (L++[(n,↥w)]):=by
 obtain⟨t,p⟩:=h.ext;obtain⟨B,g⟩:=h.pre;obtain⟨k,f⟩:=LayI.two L n ↥w;show#[r.snoc h.gw,sq,#[t++[q],by rw[p];simp],?_,?_,?_,#[B++[(n,↥w)],by rw[g];simp],h.num' _,λx s u=>?_,λz=>h.no_all i b z,?_,λj x d=>?_]
 ·rw[f,Mt];show p4 h.op
 ·rw[k];show dS h.oj i b
 ·rw[k,f,jK h.op.lt,aY,h.same,e]
 ·rw[f];rw[Mt,Ng]at u
  by_cases y:x=↥w
  ·subst y;simp
  ·show NA _ (h.new x s ∅)
 ·show h.fresh.imp id λ#[t,f1,f2,f3,f4]=>#[t++[(n,↥w)],by rw[f1];simp,?_,by rw[Mt,Mt,f3];rfl,?_]
  ·rw[MZ,f2,Mt,Ng,List.range'_1_concat,f3];rfl
  ·rw[MZ,f4,oG (h.not0 b)];rfl
 ·obtain⟨A,c⟩:=h.single j x d;have m:n=j:=h.is_one i b d;rcases c with c|c
  ·rw[A,c,m]at l;obtain⟨v,C,o⟩:=l x (by rw[d.2.1];rfl)
   rw[d.2.2 v C]at o;cases o
  ·show absurd (by rw[c,m];simp) b
def LayI.on (h:LayI a bs U one other L0 n w L)(i:n<↥other)(d:n∉L.map (·.1))(o:x<↥w)(c:x∉L.map (·.2))(e:aO bs w (L.map (·.2)) x=aO bs other (L.map (·.1)) n)(s:mR a bs U ↥bs) :
  LayI a bs U one other L0 (n+1) w (L++[(n,x)]):=by
 obtain⟨t,g⟩:=h.pre;obtain⟨l,f⟩:=LayI.two L n x;show#[h.gw,h.sw,h.ext,?_,?_,?_,#[t++[(n,x)],by rw[g];simp],h.num' _,λy q r=>?_,λz=>h.no_all i d z,.inl s,λj y k=>?_]
 ·rw[f];show dS h.op o c
 ·rw[l];show dS h.oj i d
 ·rw[l,f,aY,aY,h.same,e]
 ·rw[f];show NA _ (h.new y q r)
 ·obtain⟨p,b⟩:=h.single j y k;have m:n=j:=h.is_one i d k;rcases b with b|b
  ·show#[p,.inr ?_];have:x∈aG ↥one (L0.map (·.2)):=jb.mpr #[by rw[<- p];show o,by rw[<- b];show c]
   rw[k.2.1,MS]at this;rw[b,m,this]
  ·show absurd (by rw[b,m];simp) d
abbrev cC (m:Mz)(L:Pl):Mq Mz:=(MJ m).map (nk L)
structure LaidOk (a:Mz)(bs:Mq MM)(U:Mq (T×W))(one other:Wd)(L0:Pl)(w:Wd)(pl:Mq Mz):Prop where
 gw:GoodW a ↥bs w
 sw:Std U w
 ext:∃t,w=one++t
 len:↥pl=↥other
 ord:Ord ↥w pl
 part:ae bs w pl=other
 pairs:∀x∈L0,pl.getD x.1 0=x.2
 new:∀x,↥one<=x->x<↥w->x∈pl
 all:(∀j<↥other,j∈L0.map (·.1))->w=one/\pl=cC ↥other L0
 fresh:mR a bs U ↥bs\/((aG ↥other (L0.map (·.1))).map (λj=>pl.getD j 0)=PB ↥one (↥w-↥one)/\↥w+↥L0=↥one+↥other)
 single:∀j x,Bx U bs one other L0 j x->w=one/\pl.getD j 0=x
def mE (nd:(L.map (·.1)).Nodup)(h:p∈L):nk L p.1=p.2:=by
 obtain⟨i,hi,rfl⟩:=Pu h;unfold nk;have a:i<(L.map (·.1)).length:=by rw[Mr];show hi
 have:(L.map (·.1)).idxOf L[i].1=i:=by
  have:=nd.idxOf_getElem i a;rw[P3]at this;show this
 rw[this,MG,MD,MC hi];rfl
def LayI.done (r:GoodB bs)(go:GoodW a ↥bs other)(h:LayI a bs U one other L0 ↥other w L):LaidOk a bs U one other L0 w (cC ↥other L):=by
 have hl:(L.map (·.1)).length=↥other:=by
  have l:=cM _ _ h.oj.nd λj c=>ML.mpr (h.oj.lt j c)
  have m:=cM _ _ P4 λj c=>h.num j (ML.mp c)
  rw[MX]at l m;omega
 have q:(L.map (·.2)).length=↥other:=by rw[Mr]at hl ⊢;show hl
 obtain⟨o,C,D⟩:=p7 h.oj hl;have k:cC ↥other L=(fG ↥other (L.map (·.1))).map λi=>(L.map (·.2)).getD i 0:=by
  unfold cC fG;rw[Nj];rfl
 have u:Ord (L.map (·.2)).length (fG ↥other (L.map (·.1))):=by rw[q];show o
 have H:Ord ↥w (cC ↥other L):=by
  rw[k];show rZ h.op u
 have d:∀p∈L,(cC _ L).getD p.1 0=p.2:=λp b=>by
  have c:=h.oj.lt _ (MN.mpr #[p,b,rfl]);unfold cC;rw[MG,MD,NQ c];show mE h.oj.nd b
 have f:∀x,x∈L.map (·.2)->x∈cC _ L:=λx B=>by
  obtain⟨i,hi,rfl⟩:=Pu B;rw[q]at hi;have A:=dm o C hi;rw[k];show MN.mpr #[i,A,by rw[MG,MC (by rw[q];show hi)];rfl]
 show#[h.gw,h.sw,h.ext,by unfold cC;rw[Mr,MX],H,?_,λp n=>?_,λx l m=>f x (h.new x l m),λz=>?_,?_,λj x s=>?_]
 ·rw[k,<- bI r h.gw h.op u,h.same,bI r go h.oj (by rw[hl];show o),D,se go]
 ·obtain⟨t,e⟩:=h.pre;have b:p∈L:=by rw[e];show NA _ n
  have c:=h.oj.lt _ (MN.mpr #[p,b,rfl]);unfold cC;rw[MG,MD,NQ c];show mE h.oj.nd b
 ·obtain⟨v,y⟩:=h.all z;rw[y];show#[v,rfl]
 ·show h.fresh.imp id λ#[t,f1,f2,f3,f4]=>#[?_,?_]
  ·rw[<- f4,Nj,show ↥w-↥one=↥t by omega,<- f2]
   show Nw λp n=>d p (by rw[f1];show Nf _ n)
  ·have:↥L=↥other:=by rw[Mr]at hl;show hl
   rw[f1,Mt]at this;omega
 ·obtain⟨I,g⟩:=h.single j x s;have c:j∈aG ↥other (L0.map (·.1)):=by rw[s.1];show Qx _
  obtain⟨E,G⟩:=jb.mp c;rcases g with g|g
  ·show absurd (g▸h.num j E) G
  ·show#[I,d (j,x) (by rw[g];simp)]
end
abbrev mF:Ss:=
 #v[.ret (.and (.isi "int" (.v 0)) (.not (.isi "bool" (.v 0))))]
abbrev ib:Ss:=
 #v[.ret (.and (.isi "tuple" (.v 0)) (.cmp .eq (.bi .len #v[.v 0]) (.v 1)))]
abbrev jc:Ss:=
 #v[.ret (.and (.own "is_tuple_of" 2 #v[.v 0,.v 1]) (.bi .all #v[.comp (.own "is_whole" 1 #v[.v 1]) (.nm 1) (.seq (.v 0)) .nil [td,td]]))]
abbrev p8:Ss:=
 #v[.ite (.not (.own "share_part" 4 #v[.v 0,.v 1,.v 2,.v 3])) #v[.bad] .nil,.set 4 (.own "barred_threes" 1 #v[.v 0]),.set 5 (.bi .tuple #v[.bi .range #v[.bi .len #v[.ix (.v 0) (.c (.int 1))]]]),.set 6 (.v 1),.set 7 (.bi .dict #v[.comp (.tup #v[.ix (.v 1) (.c (.int 1)),.ix (.v 1) (.c (.int 0))]) (.nm 1) (.seq (.v 3)) .nil [td,td]]),.loop (.nm 8) (.rng #v[.bi .len #v[.v 2]]) #v[.ite (.cmp .notin (.v 8) (.v 7)) #v[.set 9 (.own "point_over" 4 #v[.v 0,.v 2,.bi .list #v[.v 7],.v 8]),.set 10 (.own "spread_wish" 6 #v[.v 0,.v 4,.v 6,.bi .vals #v[.v 7],.v 9,.v 5]),.put (.v 7) (.v 8) (.own "place_of" 4 #v[.v 0,.v 6,.v 10,.v 8]),.ite (.cmp .eq (.ix (.v 7) (.v 8)) (.bi .len #v[.v 6])) #v[.set 6 (.op .add (.v 6) (.tup #v[.own "point_behind" 1 #v[.v 10]]))] .nil] .nil],.ret (.tup #v[.v 6,.bi .tuple #v[.comp (.ix (.v 2) (.v 1)) (.nm 1) (.rng #v[.bi .len #v[.v 2]]) .nil [td,td,gV 7]]])]
abbrev dM:Ss:=
 #v[.ite (.not (.bi .all #v[.comp (.own "is_numbers" 2 #v[.v 1,.c (.int 2)]) (.nm 1) (.seq (.v 3)) .nil [td,td]])) #v[.ret (.c (.bl false))] .nil,.set 4 (.comp (.ix (.v 1) (.c (.int 0))) (.nm 1) (.seq (.v 3)) .nil [td,td]),.set 5 (.comp (.ix (.v 1) (.c (.int 1))) (.nm 1) (.seq (.v 3)) .nil [td,td]),.ite (.or (.not (.own "are_points" 2 #v[.v 1,.v 4])) (.not (.own "are_points" 2 #v[.v 2,.v 5]))) #v[.ret (.c (.bl false))] .nil,.ret (.cmp .eq (.own "part" 3 #v[.v 0,.v 1,.v 4]) (.own "part" 3 #v[.v 0,.v 2,.v 5]))]
abbrev jd:Ss:=
 #v[.ret (.and (.bi .all #v[.comp (.chn .le .lt (.c (.int 0)) (.v 1) (.bi .len #v[.v 2])) (.nm 1) (.seq (.v 1)) .nil [td,td,gV 0]]) (.cmp .eq (.bi .len #v[.bi .set #v[.v 1]]) (.bi .len #v[.v 1])))]
abbrev dq:Ss:=
 #v[.set 3 (.bi .list #v[.v 3]),.set 6 (.own "part" 3 #v[.v 0,.v 2,.v 3]),.set 8 (.comp (.v 1) (.nm 1) (.rng #v[.bi .len #v[.v 2]]) #v[.cmp .notin (.v 1) (.v 2)] [td,td,gV 3]),.loop (.nm 9) (.seq (.v 8)) #v[.set 10 (.own "point_over" 4 #v[.v 0,.v 2,.v 3,.v 9]),.set 7 (.own "first_filling" 4 #v[.v 1,.op .add (.v 6) (.tup #v[.v 10]),.v 4,.v 5]),.ite (.cmp .is (.v 7) (.c .non)) #v[.ret (.tup #v[.v 3,.v 4])] .nil,.ex (.me .append (.v 3) #v[.v 9]),.set 6 (.op .add (.v 6) (.tup #v[.v 10])),.set 4 (.tup #v[.ix (.v 4) (.c (.int 0)),.op .add (.ix (.v 4) (.c (.int 1))) (.tup #v[.v 7])])],.ret (.tup #v[.v 3,.v 4])]
abbrev fN:Ss:=
 #v[.loop (.nm 4) (.seq (.v 3)) #v[.ite (.cmp .is (.own "first_bar" 2 #v[.v 0,.op .add (.v 1) (.tup #v[.tup #v[.ix (.v 2) (.c (.int 0)),.op .add (.ix (.v 2) (.c (.int 1))) (.tup #v[.v 4])]])]) (.c .non)) #v[.ret (.v 4)] .nil],.ret (.c .non)]
abbrev fH:Ss:=
 #v[.ite (.cmp .eq (.bi .len #v[.ix (.v 2) (.c (.int 0))]) (.bi .len #v[.v 1])) #v[.ret (.bi .len #v[.v 1])] .nil,.set 4 (.bi .min #v[.comp (.v 1) (.nm 1) (.rng #v[.bi .len #v[.v 1]]) #v[.cmp .notin (.v 1) (.ix (.v 2) (.c (.int 0)))] [td,td,gV 2]]),.ite (.cmp .ne (.own "point_over" 4 #v[.v 0,.v 1,.ix (.v 2) (.c (.int 0)),.v 4]) (.ix (.v 2) (.c (.int 1)))) #v[.bad] .nil,.ret (.v 4)]
abbrev gD:Ss:=
 #v[.set 1 (.bi .dzip #v[.ix (.v 0) (.c (.int 0)),.ix (.ix (.v 0) (.c (.int 1))) (.c (.int 1))]),.ret (.tup #v[.ix (.ix (.v 0) (.c (.int 1))) (.c (.int 0)),.bi .tuple #v[.comp (.ix (.v 2) (.v 1)) (.nm 1) (.rng #v[.bi .len #v[.v 1]]) .nil [td,td,gV 1]]])]
abbrev eL:Ss:=
 #v[.set 4 (.own "_law_world" 4 #v[.v 0,.v 1,.v 2,.own "_law_pick" 2 #v[.v 0,.op .add (.v 3) (.c (.int 1))]]),.set 5 (.sl (.own "_law_shuffled" 2 #v[.v 0,.bi .list #v[.bi .range #v[.bi .len #v[.v 4]]]]) .no (.yes (.own "_law_pick" 2 #v[.v 0,.op .add (.bi .len #v[.v 4]) (.c (.int 1))]))),.set 6 (.own "_law_part" 3 #v[.v 1,.v 4,.v 5]),.loop (.nm 7) (.rng #v[.own "_law_pick" 2 #v[.v 0,.op .sub (.op .add (.v 3) (.c (.int 1))) (.bi .len #v[.v 5])]]) #v[.set 8 (.own "_law_pick" 2 #v[.v 0,.bi .len #v[.ix (.v 1) (.c (.int 0))]]),.set 9 (.own "_law_new_ways" 6 #v[.v 0,.v 1,.v 2,.v 6,.v 8,.tup .nil]),.ite (.cmp .isnot (.v 9) (.c .non)) #v[.set 6 (.op .add (.v 6) (.tup #v[.tup #v[.v 8,.v 9]]))] .nil],.set 10 (.own "_law_shuffled" 2 #v[.v 0,.bi .list #v[.bi .range #v[.bi .len #v[.v 6]]]]),.set 11 (.comp (.tup #v[.ix (.v 3) (.v 1),.me .index (.v 2) #v[.v 1]]) (.nm 1) (.rng #v[.bi .len #v[.v 5]]) .nil [td,td,gV 10,gV 5]),.ret (.tup #v[.v 4,.own "_law_part" 3 #v[.v 1,.v 6,.v 10],.bi .tuple #v[.own "_law_shuffled" 2 #v[.v 0,.v 11]]])]
section
variable{defs:Mq (M2×Df)}{fuel d:Mz}{S:aa}{r:Mz}{Q:QW}
def wc (h:S[i]?=gV (.lst xs))(q:Q (.ref ↥S,S++[.lst xs])):wO (Bi.list.fn [.ref i] S) Q:=by
 show ab ?_ q;have a:o5 S i=td:=by simp[o5,h]
 simp only[Bi.fn,rq,eX,a,fI,cp,aD h]
end
def mG {α:Type}(L:Mq α):(L.map λ_=>W.bl true)=Ny ↥L (.bl true):=List.map_const' ..
def uz {Q:QW}(h:S[l]?=gV (.lst (Ny n (.bl true))))(q:Q (.bl true,S)):wO (Bi.all.fn [.ref l] S) Q:=by
 show ab ?_ q;simp only[Bi.fn,Gc,aD h,oq,Nb,D8]
def J9 (a:0<=x)(b:x<y):sS .le (.int 0) (.int x) S=gV true/\cY .lt (.int x) (.int y) S=gV (.bl true,S):=by
 show#[?_,?_]
 ·change gV (decide _)=_;rw[NB a]
 ·change gV (W.bl (decide _),S)=_;rw[NB b]
section
variable{defs:Mq (M2×Df)}{fuel d:Mz}{S:aa}{Q:QW}
structure LayP (defs:Mq (M2×Df)):Prop where
 way:Parts defs
 part:Is defs ("part": M2) 3 3 iC
 whole:Is defs ("is_whole": M2) 1 1 mF
 tup:Is defs ("is_tuple_of": M2) 2 2 ib
 nums:Is defs ("is_numbers": M2) 2 2 jc
 three:Is defs ("three_at": M2) 4 6 bQ
 first:Is defs ("first_bar": M2) 2 4 be
 orders:Is defs ("longer_orders": M2) 2 4 bS
 barred:Is defs ("barred_threes": M2) 1 5 cy
 share:Is defs ("share_part": M2) 4 6 dM
 pts:Is defs ("are_points": M2) 2 2 jd
 spread:Is defs ("spread_wish": M2) 6 11 dq
 fill:Is defs ("first_filling": M2) 4 5 fN
 place:Is defs ("place_of": M2) 4 5 fH
 behind:Is defs ("point_behind": M2) 1 2 gD
 laid:Is defs ("laid": M2) 4 11 p8
def uA (X:LayP defs)(k:Q (.bl true,S)):wO (aL (ar defs fuel (d+1)) "is_whole" 1 [.int i] S) Q:=by
 show ay X.whole rfl rfl λb a=>?_
 show st ?_;show ab rfl #[λ_=>?_,λz=>by cases z]
 show ab rfl (a _ _ k)
def uB (X:LayP defs){n:Mz}(h:↥xs=n)(k:Q (.bl true,S)):wO (aL (ar defs fuel (d+1)) "is_tuple_of" 2 [.tup xs,.int n] S) Q:=by
 show ay X.tup rfl rfl λa b=>?_
 change wZ _ _ _ [gV _,gV _] S a;show st ?_;left;show ab rfl #[λ_=>?_,λz=>by cases z]
 show aC (ab mY ?_);rw[h,NJ];show b _ _ k
def p9 (X:LayP defs){n:Mz}(h:↥xs=n)(g:n<=1000)(k:∀a,Ka S a->Q (.bl true,a)):wO (aL (ar defs fuel (d+2)) "is_numbers" 2 [.tup (aj xs),.int n] S) Q:=by
 show ay X.nums rfl rfl λf e=>?_
 show st ?_;left;show uB  X (by unfold aj;rw[Mr];show h) #[λ_=>?_,λz=>by cases z]
 show lZ xs _ (λ_=>true) (λ_=>.bl true) [] rfl rfl rfl rfl ∅ #[rfl,.refl] (λx _ c b=>?_) λc b=>?_
 ·show#[λ_=>uA  X #[rfl,rfl,.refl],λz=>by cases z]
 ·rw[aX,mG];show uz ag (e _ _ (k _ (b.trans .push)))
def kN (X:LayP defs)(t:GoodB bs)(hl:↥c=↥bs)(x:GoodW a ↥bs u)(f:∀p∈ps,p<↥u/\i≠p)(hi:i<↥u)(hsz:↥ps<=1000)(s:S[l]?=gV (.lst (ac ps)))(k:∀b,Ka S b->Q (aH (aO bs u ps i),b)) :
  wO (aL (ar defs fuel (d+2)) "point_over" 4 [.tup [m0,.tup (MR aK c bs),b0],az u,.ref l,.int i] S) Q:=by
 show ay X.way.over rfl rfl λj m=>?_
 replace k:∀b,Ka S b->j (.rt (aH (aO bs u ps i)),b):=λb a=>m _ _ (k b a)
 clear m;change wZ _ _ b8 [gV (.tup [m0,.tup (MR aK c bs),b0]),gV (az u),gV (.ref l),gV (.int i)] S j;generalize e:W.tup [m0,.tup (MR aK c bs),b0]=R;delta b8;show st ?_;left;show af (MK i) (cN hi) (af #v[] rfl ?_)
 show jH ps (λ(q:Mz)=>W.int (q:MM)) (λ_=>true) (λq=>W.int (bg bs u i q)) [gV (.int i),gV R,gV (az u)] rfl rfl rfl rfl ∅ #[l,rfl,s,.refl] (λq w r n=>?_) λr n=>?_
 ·delta eS wC wE wA wV wG;subst e;obtain⟨h,g⟩:=f q w;show#[λ_=>Fb (d:=d) X.way t hl x hi h g #[rfl,rfl,.refl],λz=>by cases z]
 ·rw[aX];show cH ag ?_;have:=k _ (n.trans (Ka.push (o:=O.lst (ps.map λq=>W.int (bg bs u i q)))))
  unfold aH aO at this;rw[Nj]at this;show this
def uC (X:LayP defs)(D:GoodB bs)(hl:↥n=↥bs)(H:GoodW a ↥bs u)(t:Ord ↥u ps)(hsz:↥ps<=1000)(y:S[l]?=gV (.lst (ac ps)))(k:∀c,Ka S c->Q (az (ae bs u ps),c)) :
  wO (aL (ar defs fuel (d+3)) "part" 3 [.tup [m0,.tup (MR aK n bs),b0],az u,.ref l] S) Q:=by
 show ay X.part rfl rfl λx A=>?_
 replace k:∀c,Ka S c->x (.rt (az (ae bs u ps)),c):=λc a=>A _ _ (k c a)
 clear A;change wZ _ _ iC [gV (.tup [m0,.tup (MR aK n bs),b0]),gV (az u),gV (.ref l)] S x;generalize v:W.tup [m0,.tup (MR aK n bs),b0]=R;delta iC;show st ?_;delta wS wE wA;show Al l (ac ps) (λj ys o b=>(∃r s,o=[td,r,s,gV (.ref l),gV R,gV (az u)])/\ys=((ae bs u ps).take j).map aH/\Ka S b) rfl rfl rfl #[rfl,#[td,td,rfl],rfl,.refl] (λi ys Z b h=>h.2.2.get _ _ y) ?_ ?_
 ·rintro j w ys o b hw ⟨⟨r,s,rfl⟩,rfl,g⟩;unfold ac at hw;rw[MD,Mv]at hw;obtain⟨q,f,rfl⟩:=hw;have E:j<↥ps:=(MP.mp f).1;have eq:q=ps[j]:=(MP.mp f).2.symm;show ab (show lH (.tp [1,2]) (.tup [.int (j:MM),.int (q:MM)]) [td,r,s,gV (.ref l),gV R,gV (az u)] b=gV ([td,gV (.int (j:MM)),gV (.int (q:MM)),gV (.ref l),gV R,gV (az u)],b)from rfl) ?_
  delta eS wC wE wA wP wV wG wN;show#[λ_=>ab (a:=(.ref ↥b,b++[.lst (ac (ps.take j))])) ?_ ?_,λz=>by cases z]
  ·simp only[qe,aD (g.get _ _ y),dy];unfold ac;rw[OR]
  ·subst v;show kN (d:=d) X D hl H (λp B=>#[t.lt p (N8 B),?_]) (t.lt q (MQ f)) (by rw[M6];omega) ag λJ I=>#[#[_,_,rfl],?_,g.trans (Ka.push.trans I)]
   ·obtain⟨m,G,e⟩:=N5.mp B;rw[M6]at G;rw[Ou]at e;rw[eq,<- e];intro z;have:=(Od t.nd).mp z;omega
   ·have C:(ae bs u ps)[j]?=gV (aO bs u (ps.take j) q):=by
     unfold ae aO;rw[MD,NQ E,Nb,getD_some f]
    rw[Nd,C];simp
 ·rintro ys o b ⟨_,rfl,g⟩;rw[show(ac ps).length=(ae bs u ps).length by rw[aB];show Mr ..,Nl]
  show#[jC (by rw[Mr,aB];show hsz),cH ag (k _ (g.trans .push))]
end
def mH:∀ps:Mq Mz,lD (ac ps)=gV (ps.map λ(p:Mz)=>(p:MM))
 |[]=>rfl
 |p::ps=>by
  show(lD (ac ps)).map _=_;rw[mH ps];rfl
def qa {ps:Mq Mz}(h:ps.Nodup):(ps.map λ(p:Mz)=>(p:MM)).Nodup:=by
 rw[Oi,Pi];show h.imp λa e=>a (Int.ofNat_inj.mp e)
section
variable{S:aa}{Q:QW}
def Hv (h:S[l]?=gV (.lst (ac ps)))(nd:ps.Nodup)(hl:↥ps<=1000)(q:Q (.ref ↥S,S++[.sti ↥ps])):wO (Bi.set.fn [.ref l] S) Q:=by
 show ab ?_ q;have a:lE [.ref l] S=gV (.ref ↥S,S++[.sti ↥ps]):=by
  (delta lE;simp only[aD h,mH])
  rw[M4 (by rw[Mr];show hl),zK (qa nd),Mr]
 simp only[Bi.fn,rq,show pB [.ref l] S=td from rfl,a]
def Hw (h:S[l]?=gV (.sti n))(c:n<=1000)(q:Q (.int (n:Mz),S)):wO (Bi.len.fn [.ref l] S) Q:=by
 show ab ?_ q;have a:gZ S l=td:=by simp[gZ,h]
 have b:lg [.ref l] S=td:=by(delta lg eC;rw[h];rfl)
 (delta Bi.fn rq qQ zL;simp only[a,b,h,M4 c])
end
section
variable{defs:Mq (M2×Df)}{fuel d:Mz}{S:aa}{Q:QW}
def Fd (X:LayP defs)(c:Ord ↥u ps)(hl:↥ps<=1000)(e:S[l]?=gV (.lst (ac ps)))(k:∀b,Ka S b->Q (.bl true,b)):wO (aL (ar defs fuel (d+1)) "are_points" 2 [az u,.ref l] S) Q:=by
 show ay X.pts rfl rfl λs j=>?_
 have r:(u.map aH).length=↥u:=Mr ..;have p:(ac ps).length=↥ps:=Mr ..;show st ?_;left;show jH ps (λq=>W.int q) (λ_=>true) (λ_=>.bl true) [gV _] rfl rfl rfl rfl (by show M1 ‹_› (Ni rfl)) #[l,rfl,e,.refl] (λq m g f=>?_) λg f=>?_
 ·delta eS wC wE wA wV wG;have n:=c.lt q m;obtain⟨h,i⟩:=J9  (x:=q) (y:=↥u) (by show MK _) ∅
  show#[λ_=>ab h #[λ_=>aC ?_,λz=>by cases z],λz=>by cases z]
  rw[r];show ab i #[rfl,rfl,.refl]
 ·rw[aX,mG];show uz ag #[λ_=>?_,λz=>by cases z]
  have a:=f.trans (Ka.push (o:=O.lst (Ny ↥ps (.bl true))));show Hv (a.get _ _ e) c.nd hl (Hw ag hl (hW (aw (a.get _ _ e)) ?_));rw[p];show ab mY ?_;rw[NJ];show j _ _ (k _ (a.trans .push))
abbrev ic (p:Mz×Mz):W:=.tup [.int (p.2:Mz),.int (p.1:Mz)]
def Eg (X:LayP defs){b:Pl}(D:GoodB bs)(i:↥r=↥bs)(T:GoodW a ↥bs one)(U:GoodW a ↥bs c)(A:Ord ↥one (b.map (·.2)))(B:Ord ↥c (b.map (·.1)))(hl:↥b<=900)
  (V:ae bs one (b.map (·.2))=ae bs c (b.map (·.1))) (k:∀m,Ka S m->Q (.bl true,m)) :
  wO (aL (ar defs fuel (d+4)) "share_part" 4 [.tup [m0,.tup (MR aK r bs),b0],az one,az c,.tup (b.map ic)] S) Q:=by
 show ay X.share rfl rfl λs C=>?_
 replace k:=λm a=>C _ _ (k m a)
 clear C;change wZ _ _ dM [gV (.tup [m0,.tup (MR aK r bs),b0]),gV (az one),gV (az c),gV (.tup (b.map ic)),td,td] S s;have l1:(b.map (·.1)).length=↥b:=Mr ..
 have l2:(b.map (·.2)).length=↥b:=Mr ..
 generalize w:W.tup [m0,.tup (MR aK r bs),b0]=R;delta dM;nofun
 delta wS wT wA;show lZ b ic (λ_=>true) (λ_=>.bl true) [] rfl rfl rfl rfl ∅ #[rfl,.refl] (λp _ y E=>?_) λy E=>?_
 ·delta eS wC wE wA wV wG;show#[λ_=>p9  (xs:=[(p.2),(p.1)])  X rfl #v[] λP q=>#[rfl,rfl,q],λz=>by cases z]
 rw[aX,mG];show uz ag ?_;show ab rfl ?_;show ap (Q0:=s) (λz=>by cases z) (λ_ L e _=>ba (e _ _ (hK _ _ ?_)))
 clear hK e K;have q:=E.trans (Ka.push (o:=O.lst (Ny ↥b (.bl true))));generalize y++[O.lst (Ny ↥b (.bl true))]=P at q ⊢;show st ?_;left;show lZ b ic (λ_=>true) (λp=>.int (p.2)) [] rfl rfl rfl rfl ∅ #[rfl,.refl] (λp _ g G=>?_) λg G=>?_
 ·delta eS wC wE wV wG;show#[λ_=>af #v[] rfl #[rfl,rfl,.refl],λz=>by cases z]
 rw[aX,show(b.map λp=>W.int (p.2))=ac (b.map (·.2)) by unfold ac;rw[Nj];rfl]
 have t:(g++[O.lst (ac (b.map (·.2)))])[↥g]?=gV (.lst (ac (b.map (·.2)))):=ag
 have H:=q.trans (G.trans (Ka.push (o:=O.lst (ac (b.map (·.2))))))
 generalize g++[O.lst (ac (b.map (·.2)))]=S5 at t H ⊢
 generalize ↥g=q1 at t ⊢;show st ?_;left;show lZ b ic (λ_=>true) (λp=>.int (p.1)) [] rfl rfl rfl rfl ∅ #[rfl,.refl] (λp _ h I=>?_) λh I=>?_
 ·delta eS wC wE wV wG;show#[λ_=>af #v[] rfl #[rfl,rfl,.refl],λz=>by cases z]
 rw[aX,show(b.map λp=>W.int (p.1))=ac (b.map (·.1)) by unfold ac;rw[Nj];rfl]
 have n:(h++[O.lst (ac (b.map (·.1)))])[↥h]?=gV (.lst (ac (b.map (·.1)))):=ag
 have l:=I.trans (Ka.push (o:=O.lst (ac (b.map (·.1)))))
 have u:=l.get _ _ t;replace l:=H.trans l;generalize h++[O.lst (ac (b.map (·.1)))]=S7 at n u l ⊢
 generalize ↥h=q2 at n ⊢;nofun
 delta wS wT wA wE wV wG Mx;show Fd  X A ∅ u λZ J=>?_
 show ab rfl #[λz=>(by cases z),λ_=>?_]
 show Fd  X B ∅ (J.get _ _ n) λS9 Y=>?_
 show ab rfl ?_;show ap (Q0:=s) (λz=>by cases z) (λ_ L e _=>ba (e _ _ (hK _ _ ?_)))
 clear hK e K;have f:=J.trans Y;subst w;show st ?_;left;show uC  X D i T A ∅ (f.get _ _ u) λM j=>?_
 show uC  X D i U B ∅ ((f.trans j).get _ _ n) λN x=>?_
 show ab Hj ?_;rw[NB V];show k _ (l.trans (f.trans (j.trans x)))
def dN (h:↥u<1000):gP .add (az u) (.tup [aH p]) S=gV (az (u++[p]),S):=by
 unfold az;show(cg (by rw[Mt,Mr,Ng];show jC (by show ‹_›))).trans ?_
 rw[MZ];rfl
abbrev oH (p:Pt)(v:Mz):Pt:=(p.1,p.2++[(v:MM)])
def Hx (X:LayP defs){x :Pt}(D:GoodW a n (u++[x]))(g:GoodP a n ↥u p)(hl:↥u<=900)(H:n<=3)(e:S[q]?=gV (.dic U))
  (k:∀w,((∃v:Mz,v<n/\w=.int v/\dC U (u++[x]++[oH p v])=true)\/(w=.non/\∀v<n,dC U (u++[x]++[oH p v])=false))->Q (w,S)) :
  wO (aL (ar defs fuel (d+3)) "first_filling" 4 [.ref q,az (u++[x]),aH p,.tup (ac (MJ n))] S) Q:=by
 show ay X.fill rfl rfl λG C=>?_
 replace k:=λw h=>C _ _ (k w h)
 have s:(u++[x]).length=↥u+1:=by simp
 nofun
 show for_tup _ (λi Z A=>(∃f,Z=[gV _,gV _,gV (aH p),gV (.tup (ac (MJ n))),f])/\A=S/\∀v<i,dC U (u++[x]++[oH p v])=false) rfl rfl #[rfl,#[_,rfl],rfl,λv b=>by show absurd ‹_› (OI _)] ?_ ?_
 ·rintro i w Z S1 hw ⟨⟨f,rfl⟩,rfl,c⟩;unfold ac at hw;rw[MD,Mv]at hw;obtain⟨v,b,rfl⟩:=hw;obtain⟨hi,b⟩:=MP.mp b;rw[MX]at hi;rw[Qu]at b;subst b;show ab (show lH (.nm 4) (.int i) [gV (.ref q),gV (az (u++[x])),gV (aH p),gV (.tup (ac (MJ n))),f] S1=gV ([gV (.ref q),gV (az (u++[x])),gV (aH p),gV (.tup (ac (MJ n))),gV (.int i)],S1)from rfl) λt l o=>?_
  nofun
  delta wS wT wE wA wV wG;show af #v[] rfl (af #v[] rfl ?_)
  show ab (cg (by rw[Mt,Mr,g.len];show jC (by revert Ng;omega))) ?_
  rw[show W.tup [.int p.1,.tup (p.2.map W.int++[.int i])]=aH (oH p i) by delta oH aH;rw[MZ];rfl]
  show ab (dN ∅) ?_
  have b:GoodW a n (u++[x]++[oH p i]):=D.snoc   g.mark (by rw[Mt,g.len,s];rfl) λz E=>by
   rcases Na.mp E with h|h
   ·show g.way z h
   ·rw[MS.mp h];omega
  show gk  X.three X.first b (by simp) (by simp;show M1 ‹_› (Ni rfl)) e λw hw=>?_
  rcases hw with⟨rfl,j⟩|⟨z,rfl,j⟩
  ·show ab rfl ?_;delta wB;show ap (Q0:=t) (λ_ y _ r=>?_) (λz=>by cases z)
   show st ?_;show r _ _ (o _ _ (k _ (.inl #[i,hi,rfl,j])))
  ·show ab rfl ?_;delta wB;show ap (Q0:=t) (λz=>by cases z) (λ_ y m _=>ba (m _ _ (hK _ _ (ba (l _ _ #[#[_,rfl],rfl,λv b=>?_])))))
   by_cases B:v=i
   ·subst B;show j
   ·show c v ∅
 ·rintro Z S1 ⟨⟨f,rfl⟩,rfl,c⟩;show hK _ _ (st ?_);show k _ (.inr #[rfl,λv b=>c v (by unfold ac;rw[Mr,MX];show b)])
end
def mI { p:Mz}(h:S[l]?=gV (.lst (ac ps))):bx .notin (.int p) (.ref l) S=gV (.bl (decide (p∉ps)),S):=by
 have a:(aP (.int p)&&(ac ps).all aP)=true:=by rw[ox];rfl
 simp only[bx,kI h,cY,sS,yT,cp,aD h,a,lW];congr 3
 by_cases h:p∈ps<;>simp[h]
section
variable{n:Mz}{ps:Mq Mz}
def we:(aG n ps).Pairwise (· < ·):=List.pairwise_lt_range.filter _
def mem_rest :x∈aG n ps↔x<n/\x∉ps:=by
 unfold aG;rw[NP,ML,M8]
def Eh (o:Ord n ps)(l:(aG n ps)[i]?=gV x):x<n/\x∉ps++(aG n ps).take i/\(∀y<x,y∈ps++(aG n ps).take i)/\Ord n (ps++(aG n ps).take i)/\(aG n ps).take (i+1)=(aG n ps).take i++[x]:=by
 obtain⟨hi,e⟩:=MP.mp l;have m:=we (n:=n) (ps:=ps);have k:=mem_rest.mp (MQ l);have nd:(aG n ps).Nodup:=m.imp λh=>M3 h
 have lt:∀j (c:j<(aG n ps).length),j<i->(aG n ps)[j]<x:=λj c d=>by
  rw[<- e];show Rq.mp m j i c hi d
 have u:x∉(aG n ps).take i:=λz=>by
  obtain⟨j,c,g⟩:=N5.mp z;rw[M6]at c;rw[Ou]at g;have:=lt j ∅ ∅
  omega
 show#[k.1,λz=>?_,λy t=>?_,#[?_,λp s=>?_],?_]
 ·rcases Na.mp z with z|z
  ·show k.2 z
  ·show u z
 ·by_cases f:y∈ps
  ·show NA _ f
  ·show Nf _ ?_;obtain⟨j,c,g⟩:=N5.mp (mem_rest.mpr #[Oa t k.1,f]);have d:j<i:=by
    rcases TX j i with h|h|h
    ·show h
    ·subst h;rw[e]at g;omega
    ·have:=Rq.mp m i j hi c h;omega
   show N5.mpr #[j,by rw[M6];omega,by rw[Ou];show g]
 ·rw[OH];show#[o.nd,(Qz _ _).nodup nd,λa q b r e=>?_]
  subst e;show(mem_rest.mp (N8 r)).2 q
 ·rcases Na.mp s with h|h
  ·show o.lt p h
  ·show(mem_rest.mp (N8 h)).1
 ·rw[Nd,l];rfl
def By (d:Ord n ps):Ord n (ps++aG n ps)/\(ps++aG n ps).length=n:=by
 have m:=we (n:=n) (ps:=ps);have nd:=m.imp λh=>M3 h
 have o:Ord n _:=#[by
  rw[OH];show#[d.nd,nd,λa i b k e=>?_]
  subst e;show(mem_rest.mp k).2 i,λp l=>by
  rcases Na.mp l with h|h
  ·show d.lt p h
  ·show(mem_rest.mp h).1]
 show#[o,?_];have f:=cM _ _ o.nd λj c=>ML.mpr (o.lt j c)
 have g:=cM _ (ps++aG n ps) P4 λj c=>by
  by_cases h:j∈ps
  ·show NA _ h
  ·show Nf _ (mem_rest.mpr #[ML.mp c,h])
 rw[MX]at f g;omega
end
section
variable{defs:Mq (M2×Df)}{fuel d:Mz}{S:aa}{Q:QW}
def Bz (X:LayP defs)(H:GoodB bs)(hnl:↥Y=↥bs)(B:↥bs<=3)(cl:Cl bs U)(hno:¬ mR a bs U (↥bs+1))(V:GoodW a ↥bs w)(sw:Std U w)(hl:↥w<=800)
  (hO:Ord ↥w b) (gp:GoodP a ↥bs ↥b D) (mp:cR U (ae bs w b) ↥b D=true) (e:S[q]?=gV (.dic U)) (e0:S[l0]?=gV (.lst (ac b)))
  (k:∀l ps p t,SprF a bs U w b D ps p->t[l]?=gV (.lst (ac ps))->Ka S t->Q (.tup [.ref l,aH p],t)) :
  wO (aL (ar defs fuel (d+4)) "spread_wish" 6 [.tup [m0,.tup (MR aK Y bs),b0],.ref q,az w,.ref l0,aH D,.tup (ac (MJ ↥bs))] S) Q:=by
 show ay X.spread rfl rfl λQ' hR=>?_
 replace k:=λl ps p t h1 h2 h3=>hR _ _ (k l ps p t h1 h2 h3)
 clear hR;change wZ _ _ dq [gV (.tup [m0,.tup (MR aK Y bs),b0]),gV (.ref q),gV (az w),gV (.ref l0),gV (aH D),gV (.tup (ac (MJ ↥bs))),td,td,td,td,td] S Q';have hpl:↥b<=800:=by
  have:=cM _ (MJ ↥w) hO.nd λj hj=>ML.mpr (hO.lt j hj)
  rw[MX]at this;show M1 ‹_› ‹_›
 generalize N:W.tup (ac (MJ ↥bs))=O5;generalize n:W.tup [m0,.tup (MR aK Y bs),b0]=R;delta dq;show st ?_;left;show wc e0 ?_;have e1:(S++[O.lst (ac b)])[↥S]?=gV (.lst (ac b)):=ag;show st ?_;left;subst n;show uC  X H hnl V hO ∅ e1 λS2 k2=>?_
 generalize n:W.tup [m0,.tup (MR aK Y bs),b0]=R;have e2:=k2.get _ _ e1;have k2':=Ka.push.trans k2;have hS2:=bo e2;clear e1;show st ?_;left;show ee ↥w (λi=>decide (i∉b)) (λi=>.int i) [gV (.ref ↥S)] rfl rfl rfl rfl ∅ ?_ (λi hi J k3=>?_) λJ k3=>?_
 ·left;show aC #[?_,.refl];rw[Mr]
 ·delta eS wC wT wE wV wG;show ab (mI (k3.get _ _ e2)) ?_;delta wB;show#[λz=>#[z,rfl,.refl],λz=>#[z,.refl]]
 have e4:(J++[O.lst (ac (aG ↥w b))])[↥J]?=gV (.lst (ac (aG ↥w b))):=ag;have k4:Ka S2 (J++[O.lst (ac (aG ↥w b))]):=k3.trans .push;have hlr:=MU hS2 k3.len;change wZ _ _ _ _ (J++[O.lst (ac (aG ↥w b))]) Q';generalize J++[O.lst (ac (aG ↥w b))]=S4 at e4 k4 ⊢;generalize ↥J=lr at e4 hlr ⊢;nofun
 show kJ lr (ac (aG ↥w b)) (λi Z t=>(∃p a7 a9 L,Z=[gV R,gV (.ref q),gV (az w),gV (.ref ↥S),gV (aH p),gV O5,gV (az (ae bs w (b++(aG ↥w b).take i))),a7,gV (.ref lr),a9,L]/\(∃vs,p=(D.1,D.2++vs)/\(i=0->vs=[])/\(i=0\/Bv U bs w b D))/\GoodP a ↥bs (b++(aG ↥w b).take i).length p/\cR U (ae bs w (b++(aG ↥w b).take i)) (b++(aG ↥w b).take i).length p=true)/\t[↥S]?=gV (.lst (ac (b++(aG ↥w b).take i)))/\t[lr]?=gV (.lst (ac (aG ↥w b)))/\Ka S t) rfl rfl ?_ (λi Z t h=>h.2.2.1) ?_ ?_
 ·left;show#[rfl,#[D,_,_,_,by rw[O8,Nr],#[[],by rw[Nr],λ_=>rfl,.inl rfl],by rw[O8,Nr];show gp,by rw[O8,Nr];show mp],by rw[O8,Nr];show k4.get _ _ e2,e4,k2'.trans k4]
 ·rintro i x Z S5 I ⟨⟨p,a7,a9,L,rfl,⟨vs,g,hv0,r⟩,f,m⟩,M,er,k5⟩;unfold ac at I;rw[MD,Mv]at I;obtain⟨x,I,rfl⟩:=I;obtain⟨r1,r2,r3,u,r5⟩:=Eh hO I;clear hK;have e5:=k5.get _ _ e;have hll:=bo M;generalize C:b++(aG ↥w b).take i=ps at f m M r2 r3 u ⊢;have r6:b++(aG ↥w b).take (i+1)=ps++[x]:=by rw[r5,<- N7,C]
  show ab rfl λQ2 hn2 hr2=>?_
  rw[r6]at hn2;have hps2:↥ps<=800:=by
   have:=cM _ (MJ ↥w) u.nd λj hj=>ML.mpr (u.lt j hj)
   rw[MX]at this;omega
  have o2:=dS u r1 r2;have gb:=b9 H V o2.lt o2.nd;have sb:=sw.part H cl V o2;rw[aY]at gb sb;have E:(ae bs w ps).length=↥ps:=aB ..;obtain⟨sb1,mx⟩:=Std.both.mp sb;have ex:(ae bs w ps++[aO bs w ps x])[↥ps]?=gV (aO bs w ps x):=by
   rw[Nt (by rw[E];show MH _),E,O0];rfl
  have gx:GoodP a ↥bs (ae bs w ps).length (aO bs w ps x):=#[gb.mark _ _ ex,by rw[gb.len _ _ ex,E],gb.way _ _ ex]
  have c:GoodP a ↥bs (ae bs w ps).length p:=by rw[E];show f
  have s:cR U (ae bs w ps) (ae bs w ps).length p=true:=by rw[E];show m
  show st ?_;left;subst n;show kN  X H hnl V (λy P=>#[u.lt y P,λz=>r2 (z▸P)]) r1 ∅ M λS6 k6=>?_
  generalize n:W.tup [m0,.tup (MR aK Y bs),b0]=R;show st ?_;left;show ab (dN (by rw[E];omega)) ?_
  subst N;show Hx  X gb c (by rw[E];omega) B (k6.get _ _ e5) λwv hw=>?_
  generalize N:W.tup (ac (MJ ↥bs))=O5;have A:=k6.get _ _ M;have er6:=k6.get _ _ er;have k7:=k5.trans k6;nofun
  delta wS wT wE wV wG;rcases hw with⟨v,hv,rfl,o⟩|⟨rfl,G⟩
  ·show ab rfl ?_;delta wB;show ap (Q0:=Q2) (λz=>by cases z) (λ_ Q3 B _=>ba (B _ _ (hK _ _ ?_)))
   clear hK K B;obtain⟨g2,m2⟩:=Bu c s hv o;rw[E]at g2 m2;show st ?_;left;show#[cD A,j9 A (by unfold ac;rw[Mr];omega) ?_]
   show st ?_;left;show ab (dN (by rw[E];omega)) ?_
   show st ?_;left;show af #v[] rfl (af #v[] rfl ?_)
   subst n;subst N;show ab (cg (by rw[Mt,Mr,f.len];show jC (by revert Ng;omega))) (ba (hn2 _ _ #[#[(p.1,p.2++[(v:MM)]),gV (.int v),gV (.int x),gV (aH (aO bs w ps x)),?_,#[vs++[(v:MM)],?_,(λz=>by cases z),.inr ?_],?_,?_],?_,?_,?_]))
   ·rw[show W.tup [.int p.1,.tup (p.2.map W.int++[.int v])]=aH (p.1,p.2++[(v:MM)]) by unfold aH;rw[MZ];rfl,aY]
   ·rw[g,N7]
   ·rcases r with h0|h0
    ·subst h0;rw[O8,Nr]at C;intro y P;rw[I]at P;have P:=NE P;rw[hv0 rfl,Nr]at g;rw[g,<- C]at o;show#[v,hv,P▸o]
    ·show h0
   ·rw[Mt];show g2
   ·rw[aY,Mt];show m2
   ·rw[aZ A];unfold ac;rw[MZ];rfl
   ·rw[aV ∅];show er6
   ·show k7.late (MH _)
  ·show ab rfl ?_;delta wB;show ap (Q0:=Q2) (λ_ Q3 _ hr3=>?_) (λz=>by cases z)
   show st ?_;left;have same:=sf hno H (b9 H V u.lt u.nd) sb1 gx mx c s G;show hr3 _ _ (hr2 _ _ (k _ ps p _ #[#[_,vs,C.symm,g],u,f,m,.inr #[x,r1,r2,r3,same,#[_,_,_,#[b9 H V u.lt u.nd,sb1,gx,mx,c,s],wb H c G]]] A k7))
 ·rintro Z S5 ⟨⟨p,a7,a9,L,rfl,⟨vs,g,_,r⟩,f,m⟩,M,er,k5⟩;have nl:(ac (aG ↥w b)).length=(aG ↥w b).length:=Mr ..;rw[nl,Nl]at f m M;obtain⟨o2,l2⟩:=By hO;show hK _ _ (st ?_);left;show k _ _ p S5 #[#[_,vs,rfl,g],o2,f,m,.inl #[l2,r.elim (λz x I=>absurd (MP.mp I).1 (by rw[<- nl,z];show NZ 0)) id]] M k5
end
def mJ:∀{b a:Mq (MM×W)},((a++b).map (·.1)).Nodup->nR a b=a++b
 |[],a,_=>by rw[Nr];rfl
 |(k,v)::b,a,h=>by
  have hk:(a.any λp=>decide (p.1=k))=false:=by
   rw[PX];intro p c z;rw[MZ,OH]at h;show h.2.2 p.1 (MN.mpr #[p,c,rfl]) k (by simp) (NF z)
  change nR (mU a k v) _=_;have e:mU a k v=a++[(k,v)]:=by
   unfold mU;rw[hk,Nm Nu]
  rw[e,mJ (by simpa using h)]
  simp
abbrev xW (ps:Mq Mz)(vs:Mq MM):Mq (MM×W):=MR (λ(j:Mz) (x:MM)=>((j:MM),W.int x)) ps vs
def oI:∀{ps:Mq Mz}{vs:Mq MM},dA (qX (ac ps) (vs.map W.int))=gV (xW ps vs)
 |[],_=>rfl
 |_::_,[]=>rfl
 |p::ps,v::vs=>by
  show(dA (qX (ac ps) _)).map _=_;rw[oI];rfl
def sg:∀{ps:Mq Mz}{vs:Mq MM},↥ps=↥vs->(xW ps vs).map (·.1)=ps.map λ(p:Mz)=>(p:MM)
 |[],[],_=>rfl
 |p::ps,v::vs,h=>by
  show(p:MM)::(xW ps vs).map _=_;rw[sg (by simpa using h)];rfl
 |[],_::_,h=>by cases h
 |_::_,[],h=>by cases h
def wf (k:Mz):∀{ps:Mq Mz}{vs:Mq MM},↥ps=↥vs->k∈ps->eh (xW ps vs) k=gV (.int (vs.getD (ps.idxOf k) 0))
 |p::ps,v::vs,h,hk=>by
  by_cases e:p=k
  ·subst e;simp[xW,eh]
  ·have b:¬ (p=(k:MM)):=∅
   have a:k∈ps:=by
    rcases M5.mp hk with z|z
    ·show absurd z.symm e
    ·show z
   have ih:=wf k   (by simpa using h) a
   have c:eh (xW (p::ps) (v::vs)) k=eh (xW ps vs) k:=by
    simp[xW,eh,b]
   rw[c,ih,Ux];have:(p==k)=false:=by simpa using e
   rw[this];rfl
 |[],_,_,hk=>by cases hk
 |_::_,[],h,_=>by cases h
section
variable{S:aa}{Q:QW}
def Hy (h:S[l]?=gV (.lst (ac ps)))(nd:ps.Nodup)(hl:↥ps=↥vs)(q:Q (.ref ↥S,S++[.dik (xW ps vs)])):wO (Bi.dzip.fn [.ref l,.tup (vs.map W.int)] S) Q:=by
 show ab ?_ q;have a:zR S (.ref l)=gV _:=aD h
 (delta Bi.fn vA;simp only[a,show zR S (.tup _)=gV _ from rfl,oI,Nb])
 rw[mJ (by rw[R5,sg hl];show qa nd)]
 rfl
def gO (h:S[l]?=gV (.dik U)):yf S l=gV U:=by(delta yf;simp[h])
def wj (h:S[l]?=gV (.dik U)):eC S l=td:=by simp[eC,h]
def Hz (h:S[l]?=gV (.dik U))(q:Q (.int ↥U,S)):wO (Bi.len.fn [.ref l] S) Q:=by
 show ab ?_ q;have a:gZ S l=td:=by simp[gZ,h]
 have b:lg [.ref l] S=td:=by simp[lg,eC,h]
 (delta Bi.fn rq qQ zL DC;simp only[a,b,h,gO h,Nb])
def BA { k:Mz}(h:S[l]?=gV (.dik U))(a:eh U k=gV v)(q:Q (v,S)):wO (qf (.ref l) (.int k) S) Q:=by
 show ab ?_ q;change uY (.ref l) (.int k) S=_;simp only[uY,wj h,gO h,a,Nb]
def BB (h:S[l]?=gV (.dik U)):bx .notin (.int (k:Mz)) (.ref l) S=gV (.bl (!(eh U k).isSome),S):=by
 have a:gZ S l=td:=by simp[gZ,h]
 have b:cp S (.ref l)=td:=wj h
 (delta bx cY sS yT Kr;simp only[a,b,gO h,Nb])
def HA (h:S[l]?=gV (.dik U))(hl:↥U<1000)(q:R (S.set l (.dik (mU U k v)))):wO (ik (.ref l) (.int (k:Mz)) v S) R:=by
 show ab ?_ q;change qC (.ref l) (.int k) v S=_;have a:mP S l=td:=by simp[mP,h]
 simp only[qC,a,gO h];rw[M4 (MU hl (i6 rfl))]
def Ei (h:S[l]?=gV (.dik U))(q:Q (.ref ↥S,S++[.lst (U.map λp=>.int p.1)])):wO (Bi.list.fn [.ref l] S) Q:=by
 show ab ?_ q;have a:o5 S l=td:=by simp[o5,h]
 have b:jV [.ref l] S=td:=by simp[jV,gZ,fI,cp,eC,h]
 have c:eX [.ref l] S=td:=by simp[eX,a,fI,cp,eC,h]
 (delta Bi.fn rq vB;simp only[b,c,gO h,Nb])
def Ej (h:S[l]?=gV (.dik U))(q:Q (.ref ↥S,S++[.lst (U.map λp=>p.2)])):wO (Bi.vals.fn [.ref l] S) Q:=by
 show ab ?_ q
 (delta Bi.fn vC;simp only[gO h,Nb])
def HB (h:S[l]?=gV (.lst (ac c)))(f:x∈c)(A:∀y∈c,x<=y)(q:Q (.int (x:Mz),S)):wO (Bi.min.fn [.ref l] S) Q:=by
 show ab ?_ q;have g:eZ (c.map λ(n:Mz)=>T.int (n:MM))=true:=by
  unfold eZ;rw[MY];intro a v;rw[MY];intro b w;obtain⟨i,_,rfl⟩:=MN.mp v;obtain⟨j,_,rfl⟩:=MN.mp w;simp[fT]
 obtain⟨t,o,s,u⟩:=mh (ks:=c.map λ(n:Mz)=>T.int (n:MM)) (λy B=>by
  obtain⟨i,_,rfl⟩:=MN.mp B;rfl) g (by
  intro z;rw[List.map_eq_nil_iff]at z;rw[z]at f;cases f)
 obtain⟨m,d,rfl⟩:=MN.mp s;have e:m=x:=by
  have:=u (.int (x:Mz)) (MN.mpr #[x,f,rfl]);have C:=A m d;simp only[fT,Np,Qw]at this;omega
 subst e;rw[MD,Mv]at o;obtain⟨p,r,k⟩:=o;have k:(p:MM)=m:=by injection k
 obtain rfl:p=m:=∅
 (delta Bi.fn zh;rw[aD h];dsimp only;rw[vX];dsimp only)
 rw[M4 #[by rw[Bg];show Os _,g],gJ r]
 rfl
end
def Fe :bx .ne (aH p) (aH q) S=gV (.bl (!decide (p=q)),S):=by
 show((ie S _ _ _).map (λc=>!c)).map _=_
 rw[A7];rfl
section
variable{defs:Mq (M2×Df)}{fuel d:Mz}{S:aa}{Q:QW}
def Ek (X:LayP defs)(Z:GoodB bs)(B:↥t=↥bs)(P:GoodW a ↥bs w)(hl:↥w<=800)(h:SprF a bs U w g H ps p)(e:S[l]?=gV (.lst (ac ps)))
  (k:∀x c,(x=↥w/\↥ps=↥w/\Bv U bs w g H)\/(x<↥w/\x∉ps/\aO bs w ps x=p/\mR a bs U ↥bs)->Ka S c->Q (.int x,c)) :
  wO (aL (ar defs fuel (d+3)) "place_of" 4 [.tup [m0,.tup (MR aK t bs),b0],az w,.tup [.ref l,aH p],N] S) Q:=by
 show ay X.place rfl rfl λo L=>?_
 replace k:∀x c,(x=↥w/\↥ps=↥w/\Bv U bs w g H)\/(x<↥w/\x∉ps/\aO bs w ps x=p/\mR a bs U ↥bs)->Ka S c->o (.rt (.int (x:Mz)),c):=λx c V Y=>L _ _ (k x c V Y)
 clear L;change wZ _ _ fH [gV (.tup [m0,.tup (MR aK t bs),b0]),gV (az w),gV (.tup [.ref l,aH p]),gV N,td] S o;have I:(w.map aH).length=↥w:=Mr ..;have nl:(ac ps).length=↥ps:=Mr ..;have hpl:↥ps<=800:=by
  have:=cM _ (MJ ↥w) h.ord.nd λj hj=>ML.mpr (h.ord.lt j hj)
  rw[MX]at this;omega
 generalize u:W.tup [m0,.tup (MR aK t bs),b0]=R;delta fH;nofun
 delta wS wT wE wA wV wG;show af #v[] rfl (hW e (aC ?_))
 rw[I,nl];show ab mY ?_;delta wB;show ap (Q0:=o) (λz J _ C=>?_) (λz J b _=>ba (b _ _ (hK _ _ ?_)))
 ·have z:((↥ps:Mz):MM)=(↥w:Mz):=eq_of_beq z;show st ?_;left;show aC ?_;rw[I];show C _ _ (k _ _ (.inl #[rfl,∅,(h.fin.resolve_right λ#[y,n,hyp,_]=>hyp (dm h.ord ∅ n)).2]) .refl)
 clear hK b K;have A:↥ps≠↥w:=λz'=>by
  have:(((↥ps:Mz):MM)==(↥w:Mz))=true:=by rw[z'];show NJ _
  rw[z]at this;cases this
 obtain⟨x,D,f,q,r,s⟩:=h.fin.resolve_left λz=>A z.1
 show st ?_;delta wS wE wA;show ee ↥w (λi=>decide (i∉ps)) (λi=>.int (i:Mz)) [gV (.tup [.ref l,aH p])] rfl rfl rfl rfl ∅ ?_ (λi hi m E=>?_) λm E=>?_
 ·delta wE wA wV wG;show aC #[?_,.refl];rw[I]
 ·delta eS wC wT wE wV wG;show af #v[] rfl (ab (mI (E.get _ _ e)) ?_)
  delta wB;show#[λz=>#[z,rfl,.refl],λz=>#[z,.refl]]
 have M:(m++[O.lst (ac (aG ↥w ps))])[↥m]?=gV (.lst (ac (aG ↥w ps))):=ag;show HB M (mem_rest.mpr #[D,f]) (λy n=>?_) ?_
 ·obtain⟨y1,y2⟩:=mem_rest.mp n;rcases RW y x with h'|h'
  ·show absurd (q y h') y2
  ·show h'
 have G:Ka S (m++[O.lst (ac (aG ↥w ps))]):=E.trans .push;change wZ _ _ _ _ (m++[O.lst (ac (aG ↥w ps))]) o;generalize m++[O.lst (ac (aG ↥w ps))]=S4 at G ⊢;delta Mx;nofun
 delta wS wT wE wA wV wG;show af #v[] rfl ?_
 subst u;show kN (d:=d) X Z B P (λy n=>#[h.ord.lt y n,λz=>f (z▸n)]) D ∅ (G.get _ _ e) λS5 k5=>?_
 show af #v[] rfl ?_
 rw[r];show ab Fe ?_;rw[NB rfl];delta wB;show ap (Q0:=o) (λz=>by cases z) (λ_ J b _=>ba (b _ _ (hK _ _ (st ?_))))
 delta wS wE wV wG;show k _ _ (.inr #[D,f,r,s]) (G.trans k5)
def BC (X:LayP defs)(g:Ord n ps)(hl:↥ps=n)(u:↥p.2=n)(t:n<=800)(e:S[l]?=gV (.lst (ac ps)))(k:∀b,Ka S b->Q (aH (uy n ps p),b)) :
  wO (aL (ar defs fuel (d+1)) "point_behind" 1 [.tup [.ref l,aH p]] S) Q:=by
 show ay X.behind rfl rfl λj q=>?_
 replace k:=λb h=>q _ _ (k b h)
 change wZ _ _ _ [gV _,td] S j;have a:↥ps=↥p.2:=∅
 have s:(xW ps p.2).length=n:=by unfold xW;rw[Oq];omega
 show st ?_;left;show af #v[] rfl (af #v[] rfl (af #v[] rfl (Hy e g.nd a ?_)))
 have c:(S++[O.dik _])[↥S]?=gV (.dik (xW ps p.2)):=ag;have r:Ka S (S++[O.dik (xW ps p.2)]):=.push;generalize ↥S=q1 at c ⊢;show st ?_;left;show af #v[] rfl (af #v[] rfl ?_)
 show ee n (λ_=>true) (λi=>.int (p.2.getD (ps.idxOf i) 0)) [gV _] rfl rfl rfl rfl (by show M1 ‹_› (Ni rfl)) ?_ (λi hi m f=>?_) λm f=>?_
 ·left;show Hz c #[?_,.refl];rw[s]
 ·show#[λ_=>BA (f.get _ _ c) (wf i a (dm g hl hi)) #[rfl,rfl,.refl],λz=>by cases z]
 ·rw[aX];show cH ag ?_;have:=k _ (r.trans (f.trans (Ka.push (o:=O.lst ((MJ n).map λi=>W.int (p.2.getD (ps.idxOf i) 0))))))
  dsimp only[aH,uy,aT,fG]at this;rw[Nj,Nj]at this;show this
end
def qb (h:HasD U L)(h':HasD U' L)(s:Std U w):Std U' w:=by
 intro k hk j a i hi;have:=s k hk j a i hi;unfold cF at this ⊢;rw[h'.get,<- h.get];show this
def El (h:∀t,(bn U t).isSome=(bn U' t).isSome):dC U v=dC U' v:=by
 delta dC cF;revert h
def wn (h:∀t,(bn U t).isSome=(bn U' t).isSome):mR a bs U c->mR a bs U' c:=by
 rintro⟨Uqc,P,Q,b,e⟩;have d:∀p ,cR U Uqc _ p=true->cR _ Uqc ↥Uqc p=true:=λp l=>bA.mpr λq g i hi=>by
  have:=bA.mp l q g i hi;unfold bL at this ⊢;rw[<- h];show this
 show#[Uqc,P,Q,#[b.gu,λk hk j f i hi=>?_,b.gp,d P b.mp,b.gq,d Q b.mq],λi hi=>?_]
 ·have:=b.su k hk j f i hi;unfold cF at this ⊢;rw[<- h];show this
 ·have:=e i hi;unfold cG bd at this ⊢;simp only[<- h];show this
def LaidOk.congr (h:HasD U L)(h':HasD U' L)(x:LaidOk a bs U one b d w e):LaidOk a bs U' one b d w e:=
 #[x.gw,qb h h' x.sw,x.ext,x.len,x.ord,x.part,x.pairs,x.new,x.all,x.fresh.imp (wn λt=>by rw[h.get,h'.get]) id,λj y c=>x.single j y #[c.1,c.2.1,λv f=>by rw[El (U':=U') λt=>by rw[h.get,h'.get]];show c.2.2 v f]]
def Em (L:Pl):(D2 L).map (·.1)=(L.map (·.1)).map λ(p:Mz)=>(p:MM):=by
 unfold D2;rw[Nj,Nj];rfl
def si:∀L:Pl,dA (L.map λp=>W.tup [.int (p.1),.int (p.2)])=gV (D2 L)
 |[]=>rfl
 |p::L=>by
  show(dA _).map _=_;rw[si L];rfl
def jM (h:Ord n ps):↥ps<=n:=by
 have:=cM _ _ h.nd λj a=>ML.mpr (h.lt j a)
 rwa [MX]at this
structure LayA (a:Mz)(bs:Mq MM)(U:Mq (T×W))(one other:Wd)(L0:Pl):Prop where
 g1:GoodW a ↥bs one
 s1:Std U one
 g2:GoodW a ↥bs other
 s2:Std U other
 op:Ord ↥one (L0.map (·.2))
 oj:Ord ↥other (L0.map (·.1))
 same:ae bs one (L0.map (·.2))=ae bs other (L0.map (·.1))
section
variable{defs:Mq (M2×Df)}{fuel d:Mz}{S:aa}{Q:QW}
def HC (h:S[l]?=gV (.lst (L.map λp=>W.tup [.int (p.1),.int (p.2)])))(nd:(L.map (·.1)).Nodup)(q:Q (.ref ↥S,S++[.dik (D2 L)])):wO (Bi.dict.fn [.ref l] S) Q:=by
 show ab ?_ q
 (delta Bi.fn vz;simp only[aD h,si,Nb])
 rw[mJ (by rw[R5,Em];show qa nd)]
 rfl
def BE (X:LayP defs)(hfu:20<fuel){ms :Mq M2}{E:Mq Wd}(C:GoodB bs)(r:↥ns=↥bs)(hb3:↥bs<=3)(hgs:∀g∈E,GoodW a ↥bs g/\↥g=3)(h64:↥E<=100)
  (hno:∀U,HasD U (bz bs E)->¬ mR a bs U (↥bs+1)) (hkv:HasD kv (bz bs E)) (A:LayA a bs kv one b c) (hl:↥one+↥b<=400)
  (k:∀w pl N,LaidOk a bs kv one b c w pl->↥w<=↥one+↥b->Ka S N->Q (.tup [az w,.tup (ac pl)],N)) :
  wO (aL (ar defs fuel (d+5)) "laid" 4 [.tup [.tup (ms.map W.str),.tup (MR aK ns bs),.tup (E.map az)],az one,az b,.tup (c.map ic)] S) Q:=by
 show ay X.laid rfl rfl λQ' hR=>?_
 replace k:=λw pl N h1 h2 h3=>hR _ _ (k w pl N h1 h2 h3)
 clear hR;change wZ _ _ p8 [gV (.tup [.tup (ms.map W.str),.tup (MR aK ns bs),.tup (E.map az)]),gV (az one),gV (az b),gV (.tup (c.map ic)),td,td,td,td,td,td,td] S Q';have hL0:↥c<=400:=by
  have:=jM A.oj;rw[Mr]at this;omega
 have ol:(b.map aH).length=↥b:=Mr ..;generalize hPW:W.tup (c.map ic)=PW;generalize j:W.tup [.tup (ms.map W.str),.tup (MR aK ns bs),.tup (E.map az)]=R;delta p8;nofun
 delta wS wT wA wE wV wG;subst hPW;subst j;show Eg  X C r A.g1 A.g2 A.op A.oj ∅ A.same λS1 k1=>?_
 generalize j:W.tup [.tup (ms.map W.str),.tup (MR aK ns bs),.tup (E.map az)]=R;show ab (rfl) ?_;show ap (Q0:=Q') (λz=>by cases z) (λ_ Q2 n _=>ba (n _ _ (hK _ _ ?_)))
 clear hK n K;show st ?_;left;subst j;show rR  hfu X.way X.part X.orders X.barred C r hgs h64 λq U S2 e2 hd hq k2=>?_
 have hqS:=k1.len;generalize j:W.tup [.tup (ms.map W.str),.tup (MR aK ns bs),.tup (E.map az)]=R;have hcl:=Bn C hgs hd;have hun:=hno U hd;show st ?_;delta wS Mx;show oy (m:=↥bs) rfl (λP hP=>?_) ∅ λS3 k3=>?_
 ·left;subst j;show af #v[] rfl (aC ?_)
  rw[Oq,r,QC];show hP
 generalize hO5:W.tup (ac (MJ ↥bs))=O5;have e3:=k3.get _ _ e2;have k3':=k1.trans (k2.trans k3);show st ?_;left;show st ?_;left;show lZ c ic (λ_=>true) (λp=>.tup [.int (p.1),.int (p.2)]) [] rfl rfl rfl rfl ∅ #[rfl,.refl] (λp _ B k4=>?_) λB k4=>?_
 ·delta eS wC wE wA wV wG;show#[λ_=>af #v[] rfl (af #v[] rfl #[rfl,rfl,.refl]),λz=>by cases z]
 rw[aX];have k5:Ka S3 (B++[O.lst (c.map λp=>W.tup [.int (p.1),.int (p.2)])]):=k4.trans .push
 show HC ag A.oj.nd ?_;have e6:(B++[O.lst (c.map λp=>W.tup [.int (p.1),.int (p.2)])]++[O.dik (D2 c)])[(B++[O.lst (c.map λp=>W.tup [.int (p.1),.int (p.2)])]).length]?=gV (.dik (D2 c)):=ag
 have k6:Ka S3 (B++[O.lst (c.map λp=>W.tup [.int (p.1),.int (p.2)])]++[O.dik (D2 c)]):=k5.trans .push
 have hld:↥S<=(B++[O.lst (c.map λp=>W.tup [.int (p.1),.int (p.2)])]).length:=M1 k3'.len k5.len
 have hq3:q<↥S3:=bo e3;have hqd:q<(B++[O.lst (c.map λp=>W.tup [.int (p.1),.int (p.2)])]).length:=MU hq3 k5.len
 change wZ _ _ _ _ (B++[O.lst (c.map λp=>W.tup [.int (p.1),.int (p.2)])]++[O.dik (D2 c)]) Q'
 generalize B++[O.lst (c.map λp=>W.tup [.int (p.1),.int (p.2)])]++[O.dik (D2 c)]=S6 at e6 k6 ⊢
 generalize(B++[O.lst (c.map λp=>W.tup [.int (p.1),.int (p.2)])]).length=ld at e6 hld hqd ⊢
 have e7:=k6.get _ _ e3;have k7:=k3'.trans k6;clear k6 k5 k4 k3' k3 e3 e2 k2 k1;nofun
 show bN ↥b (λi Z N=>(∃w L a8 a9 V,Z=[gV R,gV (az one),gV (az b),gV (.tup (c.map ic)),gV (.ref q),gV O5,gV (az w),gV (.ref ld),a8,a9,V]/\LayI a bs U one b c i w L/\↥w<=↥one+i/\N[ld]?=gV (.dik (D2 L)))/\N[q]?=gV (.dic U)/\Ka S N) rfl rfl ∅ ?_ ?_ ?_
 ·left;show aC ?_;rw[ol];show#[rfl,#[one,c,_,_,_,rfl,.start A.g1 (qb hkv hd A.s1) A.op A.oj A.same,MH _,e6],e7,k7]
 ·rintro i Z S8 hi ⟨⟨w,L,a8,a9,V,rfl,I,hwl,e8⟩,q8,k8⟩ Q2 n hr2;clear hK;have s:i<↥b:=∅
  have hLl:(D2 L).length<=400:=by
   have:=jM I.oj;unfold D2;rw[Mr]at this ⊢;omega
  have hw8:↥w<=800:=∅
  left;nofun
  delta wS wT wE wA wV wG;show ab (BB e8) ?_;rw[kM];delta wB
  by_cases G:i∈L.map (·.1)
  ·rw[M4 G];show ap (Q0:=Q2) (λz=>by cases z) (λ_ Q3 H _=>ba (H _ _ (hK _ _ (ba (n _ _ #[#[w,L,_,_,_,rfl,I.skip G,∅,e8],q8,k8])))))
  rw[Nm G];show ap (Q0:=Q2) (λ_ Q3 H _=>?_) (λz=>by cases z)
  obtain⟨wg,wm⟩:=I.wish C hcl A.g2 (qb hkv hd A.s2) s G;have keysE:((D2 L).map λp=>W.int p.1)=ac (L.map (·.1)):=by unfold D2 ac;rw[Nj,Nj];rfl
  have valsE:((D2 L).map λp=>p.2)=ac (L.map (·.2)):=by unfold D2 ac;rw[Nj,Nj];rfl
  have ll1:(L.map (·.1)).length<=400:=by have:=jM I.oj;omega
  show st ?_;left;show Ei e8 ?_;rw[keysE];subst j;show kN  X C r A.g2 (λy hy=>#[I.oj.lt y hy,λz=>G (z▸hy)]) s ∅ ag λS9 k9=>?_
  have k9':=(Ka.push  ).trans k9;have e9:=k9'.get _ _ e8;have q9:=k9'.get _ _ q8;show st ?_;left;show Ej e9 ?_;rw[valsE];subst hO5;show Bz  X C r hb3 hcl hun I.gw I.sw hw8 I.op wg wm (aw q9) ag λl ps p S10 f e10 k10=>?_
  have u:=(Ka.push  ).trans k10;have e10d:=u.get _ _ e9;have q10:=u.get _ _ q9;show st ?_;left;show Ek  X C r I.gw hw8 f e10 λx h hx M=>?_
  have Y:=M.get _ _ e10d;have q11:=M.get _ _ q10;have l11:=M.get _ _ e10;have k12:Ka S h:=k8.trans (k9'.trans (u.trans M));show HA Y ∅ ?_
  rw[Ef G];have D:(h.set ld (.dik (D2 (L++[(i,x)]))))[ld]?=gV (.dik (D2 (L++[(i,x)]))):=aZ Y;have q12:(h.set ld (.dik (D2 (L++[(i,x)]))))[q]?=gV (.dic U):=by rw[aV ∅];show q11
  have k13:Ka S (h.set ld (.dik (D2 (L++[(i,x)])))):=k12.late hld;have hlne:l≠ld:=λz=>by rw[z,Y]at l11;cases l11
  have l12:(h.set ld (.dik (D2 (L++[(i,x)]))))[l]?=gV (.lst (ac ps)):=by rw[aV (λz=>hlne z.symm)];show l11
  have gx:eh (D2 (L++[(i,x)])) i=gV (.int x):=by
   have hmm:i∈(L++[(i,x)]).map (·.1):=by simp
   have nd:((L++[(i,x)]).map (·.1)).Nodup:=by rw[(LayI.two L i x).1];show(dS I.oj s G).nd
   rw[kM,M4 hmm,mE nd (p:=(i,x)) (by simp)]
  generalize h.set ld (.dik (D2 (L++[(i,x)])))=S12 at D q12 k13 l12 ⊢;obtain⟨⟨t,vs,J,hp⟩,_,_,_,_⟩:=id f;have pl0:(aO bs b (L.map (·.1)) i).2.length=(L.map (·.2)).length:=wg.len
  show aN λK2 hK2=>?_
  delta wS wT wE wA wV wG;show BA D gx (aC ?_);rw[Mr ..];show ab mY ?_;delta wB;rcases hx with⟨rfl,e,hfst⟩|⟨hxw,hxp,hov,hunf⟩
  ·rw[NJ];show ap (Q0:=Q3) (λ_ Q4 hn4 _=>?_) (λz=>by cases z)
   obtain⟨b1,b2,b3⟩:=Hu C hcl I.gw I.sw f.ord e f.gp f.mp;show st ?_;left;show BC  X f.ord e (by rw[f.gp.len];show e) hw8 l12 λS13 k14=>?_
   show ab (dN ∅) (ba (hn4 _ _ (hK2 _ _ (ba (H _ _ (hK _ _ (ba (n _ _ #[#[w++[uy ↥w ps p],L++[(i,↥w)],_,_,_,rfl,?_,by rw[Mt,Ng];omega,k14.get _ _ D],k14.get _ _ q12,k13.trans k14]))))))))
   show I.put C s G b1 b2 ?_ hfst;have:=b3;rw[J,hp]at this;rw[xU pl0  (by rw[J,hp];show this)]
  ·have:((x:MM)==↥w)=false:=by simp;omega
   rw[this];show ap (Q0:=Q3) (λz=>by cases z) (λ_ Q4 hn4 _=>ba (hn4 _ _ (hK2 _ _ (ba (H _ _ (hK _ _ (ba (n _ _ #[#[w,L++[(i,x)],_,_,_,rfl,?_,∅,D],q12,k13]))))))))
   show I.on s G hxw (λz=>hxp (by rw[J];show NA _ z)) ?_ hunf
   rw[J,hp]at hov;rw[Bw pl0 hov]
 ·rintro Z S8 ⟨⟨w,L,a8,a9,V,rfl,I,hwl,e8⟩,q8,k8⟩;rw[M0]at I hwl;have fin:=I.done C A.g2;show hK _ _ (st ?_);left;show ee ↥b (λ_=>true) (λi=>.int (nk L i)) [gV (.ref ld)] rfl rfl rfl rfl ∅ ?_ (λi hi S9 k9=>?_) λS9 k9=>?_
  ·left;show aC #[?_,.refl];rw[ol]
  ·delta eS wC wE wV wG;show#[λ_=>BA (k9.get _ _ e8) (by rw[kM,M4 (I.num i hi)]) #[rfl,rfl,.refl],λz=>by cases z]
  ·rw[aX];show cH ag ?_;have:=k w (cC ↥b L) _ (fin.congr hd hkv) hwl (k8.trans (k9.trans (Ka.push (o:=O.lst ((MJ ↥b).map λi=>W.int (nk L i))))))
   unfold ac cC at this;rw[Nj]at this;show this
def wo (G:Gen defs)(M:GoodB bs)(hl:↥n=↥bs)(U:GoodW a ↥bs u)(g:∀p∈ps,p<↥u)(w:ps.Nodup)(hsz:↥ps<1000)(s:S[l]?=gV (.lst (ac ps)))(k:∀b,Ka S b->Q (az (ae bs u ps),b)) :
  wO (aL (ar defs fuel (d+2)) "_law_part" 3 [.tup [m0,.tup (MR aK n bs),b0],az u,.ref l] S) Q:=by
 show ay G.part rfl rfl λB E=>?_
 replace k:∀b,Ka S b->B (.rt (az (ae bs u ps)),b):=λb a=>E _ _ (k b a)
 clear E;change wZ _ _ d6 [gV (.tup [m0,.tup (MR aK n bs),b0]),gV (az u),gV (.ref l),td,td,td] S B;generalize t:W.tup [m0,.tup (MR aK n bs),b0]=R;have P:=bo s;delta d6;show st ?_;delta wS wE wA Mx;nofun
 have X:(ac ps).length=↥ps:=Mr ..;show bN (↥ps:MM) (λk Z b=>(∃o r,Z=[gV R,gV (az u),gV (.ref l),gV (.ref ↥S),o,r])/\b[↥S]?=gV (.lst (((ae bs u ps).take k).map aH))/\b[l]?=gV (.lst (ac ps))/\Ka S b) rfl rfl ∅ ?_ ?_ ?_
 ·delta wE wA wV wG;show hW (aw s) ?_;rw[X];show#[rfl,#[td,td,rfl],ag,aw s,.push]
 ·rintro i Z S1 hi ⟨⟨o,r,rfl⟩,f,A,y⟩ Y T _;clear hK;have c:i<↥ps:=∅
  have H:ps[i]?=gV ps[i]:=MC c;have h:ps[i]<↥u:=g _ (NC c);delta Mx;show st ?_;delta wS wE wV wG Mx;show dL A (gJ H) ?_;show st ?_;left;show#[cD f,af (MK _) (cN h) (af #v[] rfl ?_)]
  show jH (ps.take i) (λ(q:Mz)=>W.int (q:MM)) (λ_=>true) (λq=>W.int (bg bs u ps[i] q)) [gV (.int ps[i]),gV R,gV (az u)] rfl rfl rfl rfl (by rw[M6];omega) ?_ (λq I J m=>?_) λJ m=>?_
  ·delta wE wP wV wG wN;show ab (a:=(.ref ↥S1,S1++[.lst (ac (ps.take i))])) ?_ #[_,rfl,ag,.push];simp only[qe,aD A,dy];unfold ac;rw[OR]
  ·delta eS wC wE wA wV wG;subst t;have x:=N8 I;show#[λ_=>og (d:=d) G M hl U h (g _ x) (λe=>?_) #[rfl,rfl,.refl],λz=>by cases z]
   obtain⟨j,N,D⟩:=N5.mp I;rw[M6]at N;rw[Ou]at D;have:=(Od w).mp (D.trans e.symm);omega
  ·rw[aX];show cH ag ?_;have C:=aw (u:=O.lst ((ps.take i).map λq=>W.int (bg bs u ps[i] q))) (m.get _ _ f)
   have V:=aw (u:=O.lst ((ps.take i).map λq=>W.int (bg bs u ps[i] q))) (m.get _ _ A)
   show j9 C (by rw[Mr,M6];omega) (ba (T _ _ #[#[_,_,rfl],?_,?_,((y.trans m).trans .push).late (MH _)]))
   ·rw[aZ C];have L:(ae bs u ps)[i]?=gV ((u.getD ps[i] (0,[])).1,(ps.take i).map λq=>bg bs u ps[i] q):=by
     unfold ae;rw[MD,NQ c,Nb,getD_some H]
    rw[Nd,L];simp[aH,QF]
   ·rw[aV ∅];show V
 ·rintro Z S1 ⟨⟨o,r,rfl⟩,f,_,y⟩;rw[M0,<- aB bs u ps,Nl]at f;show hK _ _ (st ?_);left;show cH f (k _ y)
end
def wq {α:Type}(f:α->W):∀(xs:Mq α) i,(xs.map f).eraseIdx i=(xs.eraseIdx i).map f
 |[],i=>by cases i<;>rfl
 |x::xs,0=>rfl
 |x::xs,i+1=>by
  change f x::(xs.map f).eraseIdx i=f x::(xs.eraseIdx i).map f;rw[wq f xs i]
section
variable{defs:Mq (M2×Df)}{fuel d:Mz}{S:aa}{r:Mz}{Q:QW}
def BF {α:Type}(f:α->W)(G:Gen defs)(hg:Is defs ("_law_shuffled") 2 4 bJ){n:Mq α}(V:Fl S r)(e:S[l]?=gV (.lst (n.map f)))(hl:↥n<=900)(J:↥n<fuel)
  (k:∀ q (ps:Mq α) j,j[q]?=gV (.lst (ps.map f))->ps.Perm n->↥S<=q->Fl j r->Kp r S j->Q (.ref q,j)) :
  wO (aL (ar defs fuel (d+2)) "_law_shuffled" 2 [.ref r,.ref l] S) Q:=by
 show ay hg rfl rfl λR U=>?_
 replace k:∀(q:Mz) (ps:Mq α) j,j[q]?=gV (.lst (ps.map f))->ps.Perm n->↥S<=q->Fl j r->Kp r S j->R (.rt (.ref q),j):=λa b c e f g h i=>U _ _ (k a b c e f g h i)
 clear U;change wZ _ _ bJ [gV (.ref r),gV (.ref l),td,td] S R;have hrt:=V.lt;have P:∀xs:Mq α,(xs.map f).length=↥xs:=λxs=>Mr ..
 delta bJ;show st ?_;left;show wc e ?_;show st ?_;delta wS wE wA Mx;have Y:(S++[O.lst (n.map f)]).length=↥S+1:=by simp
 nofun
 show E4 (λm Z j=>Z=[gV (.ref r),gV (.ref l),gV (.ref ↥S),gV (.ref (S++[O.lst (n.map f)]).length)]/\∃xs ps:Mq α,j[↥S]?=gV (.lst (xs.map f))/\j[(S++[O.lst (n.map f)]).length]?=gV (.lst (ps.map f))/\(xs++ps).Perm n/\↥xs=m/\Fl j r/\Kp r S j) ↥n rfl rfl J #[rfl,n,[],aw ag,ag,by rw[Nr],rfl,V.ka (Ka.push.trans .push),(Ka.push.trans .push).kp r] ?_
 rintro m Z H ⟨rfl,xs,ps,D,E,A,hm,T,X⟩;rw[Y]at E;rw[Y];have hsz:↥xs+↥ps=↥n:=by rw[<- Mt];show A.length_eq
 have I:=bo D;have h3:=bo E;delta wT wE wA wV wG;show ab (J7 (aw D) ag) ?_;delta wB;have p:=aw (u:=O.lst []) D;have s:=aw (u:=O.lst []) E;have w:=T.ka (Ka.push (o:=O.lst []));have y:=X.trans (Kp.push (o:=O.lst []));clear D E T X I h3;generalize H++[O.lst []]=H at p s w y;show#[λh=>?_,λh=>?_]
 ·have M:xs≠[]:=λz=>by rw[z]at h;simp at h
  have hx0:0<↥xs:=SS.mpr M;show#[m-1,∅,λQ2 hn _=>?_]
  clear hK k;show st ?_;left;show#[cD s,cD p,hW p ?_];rw[P];show bP (d:=d) G.pick w ∅ ∅ λv S3 v0 v1 f3 N=>?_
  have t:=N.get _ _ ∅ p
  have B:=N.get _ _ ∅ s
  have L:v.toNat<↥xs:=∅
  show J2 t v0 (by rw[MD,MC L];rfl) (by rw[P];omega) ?_
  have C:(S3.set ↥S (.lst ((xs.map f).eraseIdx v.toNat)))[↥S+1]?=gV (.lst (ps.map f)):=by rw[aV ∅];show B
  have pm:(xs.eraseIdx v.toNat++(ps++[xs[v.toNat]])).Perm (xs++ps):=by
   have h1:xs.Perm (xs[v.toNat]::xs.eraseIdx v.toNat):=(qD L).symm;have I:(ps++[xs[v.toNat]]).Perm (xs[v.toNat]::ps):=List.perm_append_singleton ..;show(Vo _ I).trans (RK.trans ?_);show(Vm ps h1).symm
  show j9 C (by rw[P];omega) (ba (hn _ _ #[rfl,xs.eraseIdx v.toNat,ps++[xs[v.toNat]],?_,?_,pm.trans A,?_,(f3.own ∅).own ∅,((y.trans N).late ∅).late ∅]))
  ·rw[aV ∅,aZ t,wq]
  ·rw[aZ C,MZ];rfl
  ·rw[List.length_eraseIdx,M4 L];omega
 ·have M:xs=[]:=by
   cases xs with
   |nil=>rfl
   |cons x xs=>simp at h
  subst M;show hK _ _ (st ?_);delta wS wE wV wG;show k _ ps H s A ∅ w y
end
abbrev jN:Ss:=
 #v[.loop (.nm 3) (.rng2 #v[.c (.int 2),.bi .len #v[.v 2]]) #v[.ite (.not (.own "_law_last_may" 4 #v[.v 0,.v 1,.v 2,.v 3])) #v[.ret (.c (.bl false))] .nil],.ret (.c (.bl true))]
section
variable{defs:Mq (M2×Df)}{fuel d:Mz}{S:aa}{Q:QW}
def mK (P:Is defs ("_law_last_may") 4 8 bZ)(H:GoodW a n u)(hk:k<↥u)(hl:↥u<=1000)(e:S[q]?=gV (.dic U))(o:Q (.bl (cR U u k (u.getD k (0,[]))),S)) :
  wO (aL (ar defs fuel (d+1)) "_law_last_may" 4 [R,.ref q,az u,.int k] S) Q:=by
 show ay P rfl rfl λQ' O=>?_
 replace o:=O _ _ o;have V:(u.getD k (0,[])).2.length=k:=H.len k _ (aq  hk);have l:∀p<k,((u.map aH)[(p:MM).toNat]?=gV (aH (u.getD p (0,[])))):=λp c=>cN (by show Oa ‹_› ‹_›)
 have hw:∀p<k,(aj (u.getD k (0,[])).2)[(p:MM).toNat]?=gV (.int ((u.getD k (0,[])).2.getD p 0)):=λp c=>by
  rw[M0];unfold aj;rw[MD,aq  ∅];rfl
 show st ?_;left;show af (MK _) (cN hk) ?_;generalize u.getD k (0,[])=h at V hw o;dsimp only[];show ab rfl ?_;nofun
 show fg 1 k (λm Z x=>(∃A g,Z=[gV R,gV (.ref q),gV (az u),gV (.int k),gV (.int h.1),gV (.tup (aj h.2)),A,g])/\x=S/\∀j<m+1,∀p<j,bL U u h p j=false) rfl rfl rfl ∅ #[rfl,rfl,#[_,_,rfl],rfl,λj X p c=>∅] ?_ ?_
 ·rintro m Z S1 hm1 ⟨⟨A,g,rfl⟩,rfl,w⟩ Q2 s D;clear hK;rw[show 1+m=((m+1:Mz):MM) by omega]
  have b:m+1<k:=∅
  generalize X:m+1=j at b s w;left;nofun
  show bN j (λi Z x=>(∃g,Z=[gV R,gV (.ref q),gV (az u),gV (.int k),gV (.int h.1),gV (.tup (aj h.2)),gV (.int j),g])/\x=S1/\∀p<i,bL U u h p j=false) rfl rfl ∅ #[rfl,#[_,rfl],rfl,λp c=>∅] ?_ ?_
  ·rintro i Z y hi ⟨⟨g,rfl⟩,rfl,f⟩ J B E;clear hK;have r:i<j:=∅
   have lj:i<(u.getD j (0,[])).2.length:=by rw[H.len j _ (aq  ∅)];show r
   left;nofun
   delta wS wT wE wA wV wG;show af (MK i) (l i ∅) (af #v[] rfl (af (MK j) (l j b) (af #v[] rfl (af (MK j) (l j b) (af #v[] rfl (af  (MK i) (by rw[M0,MD,aq (d:=0) lj];rfl) (af (MK i) (hw i ∅) (af (MK j) (hw j b) ?_))))))))
   show ab (show bx .isin (az [((u.getD i (0,[])).1,[]),((u.getD j (0,[])).1,[(u.getD j (0,[])).2.getD i 0]),(h.1,[h.2.getD i 0,h.2.getD j 0])]) (.ref q) y=gV (.bl (bL U u h i j),y) by simp only[bx,bW e];rfl) ?_
   delta wB;show ap (Q0:=J) (λt L _ G=>?_) (λt L C _=>ba (C _ _ (hK _ _ (ba (B _ _ #[#[_,rfl],rfl,λp c=>?_])))))
   ·show st ?_;left;have:cR U u k h=false:=by
     rw[OW];intro z;rw[bA.mp z j b i r]at t;cases t
    rw[this]at o;show G _ _ (E _ _ (D _ _ o))
   ·by_cases N:p=i
    ·rw[N];show t
    ·show f p ∅
  ·rintro Z y ⟨⟨g,rfl⟩,rfl,f⟩;rw[M0]at f;show hK _ _ (ba (s _ _ #[#[_,_,rfl],rfl,λI Y p c=>?_]))
   by_cases M:I=j
   ·subst M;show f p c
   ·show w I ∅ p c
 ·rintro Z S1 ⟨⟨A,g,rfl⟩,rfl,w⟩;show hK _ _ (st ?_);left;rw[bA.mpr λq hq p c=>w q ∅ p c]at o
  show o
def xX (g:Is defs ("_law_last_may") 4 8 bZ)(r:Is defs ("_law_may") 3 4 jN)(t:GoodW a n u)(hl:↥u<=1000)(e:S[q]?=gV (.dic U))(s:Std U u)(k:Q (.bl true,S)) :
  wO (aL (ar defs fuel (d+2)) "_law_may" 3 [R,.ref q,az u] S) Q:=by
 show ay r rfl rfl λi p=>?_
 change wZ _ _ _ [gV R,gV _,gV _,td] S i;have A:(u.map aH).length=↥u:=Mr ..;nofun
 show fg 2 ↥u (λm Z o=>(∃f,Z=[gV R,gV (.ref q),gV (az u),f])/\o=S) rfl rfl rfl ∅ ?_ ?_ ?_
 ·left;show#[rfl,aC ?_];rw[A];show#[rfl,#[_,rfl],rfl]
 ·rintro m Z S1 D ⟨⟨f,rfl⟩,rfl⟩ l c _;rw[show 2+m=((m+2:Mz):MM) by omega]
  have b:m+2<↥u:=∅
  generalize C:m+2=j at b c;nofun
  delta wS wT wE wA;show mK  g t b hl e ?_;rw[bA.mpr λy w x v=>s j b y w x v]
  show ab rfl ?_;show ap (Q0:=l) (λz=>by cases z) (λ_ B h _=>ba (h _ _ (hK _ _ (ba (c _ _ #[#[_,rfl],rfl])))))
 ·rintro Z S1 ⟨⟨f,rfl⟩,rfl⟩;show hK _ _ (st ?_);show p _ _ k
end
section
variable{M:M2->FF}{Z:Fm}{S:aa}
def uD {n:Mz}{m:MM}(c:m=n)(b:∀Q:QW,Q (.int m,S)->wE M e Z S Q)(d:n<=1000)(k:∀ t S',S'[t]?=gV (.lst (ac (MJ n)))->↥S<=t->Ka S S'->Q (.ref t,S')):wE M (.bi .list #v[.bi .range #v[e]]) Z S Q:=by
 have a:Bi.range.fn [.int m] S=gV (.ref ↥S,S++[.rng 0 m]):=by
  revert Bi.fn jm;rw[M4 #[∅,∅]]
 have h:wO (Bi.list.fn [.ref ↥S] (S++[O.rng 0 m])) Q:=by
  subst c;show D9 ag d (k _ _ ag (by simp) (Ka.push.trans .push))
 have g:wO (Bi.range.fn [.int m] S) λp=>wO (Bi.list.fn [p.1] p.2) Q:=by
  rw[a];show h
 show b _ g
end
def Kb {k:Mz}{Q:QW}(e:S[l]?=gV (.lst (ac ps)))(hk:k∈ps)(hl:↥ps<=1000)(q:Q (.int (ps.idxOf k),S)):wO (Me.index.fn (.ref l) [.int k] S) Q:=by
 show ab ?_ q;have c:(aP (.int k)&&(ac ps).all aP)=true:=by
  rw[MB];show#[rfl,MY.mpr λx g=>?_]
  obtain⟨i,_,rfl⟩:=MN.mp g;rfl
 have hd:decide ((ac ps).length<=1000000)=true:=NB (by rw[show(ac ps).length=↥ps from Mr ..];show M1 ‹_› (Ni rfl))
 have b:(ac ps).findIdx? (λz=>jQ z (.int k))=gV (ps.idxOf k):=by
  unfold ac;rw[List.findIdx?_map];rw[Oc];have a:=NW hk;show#[a,?_,λj d=>?_]
  ·rw[O9];show NJ _
  ·intro z;have z:ps[j]=k:=by have:=eq_of_beq z;omega
   have f:=List.not_of_lt_findIdx    d;simp[z]at f
 change iq _ _ S=_;unfold iq;rw[show cp S (.ref l)=gV _ from aD e]
 dsimp only;rw[c,hd,b];rfl
def oJ :∀{v u:Wd}{ps:Mq Mz},(∀k∈ps,k<↥u)->ae bs (u++v) ps=ae bs u ps
 |[],u,ps,_=>by rw[Nr]
 |p::v,u,ps,h=>by
  rw[show u++p::v=(u++[p])++v by simp,oJ (λk hk=>by rw[Mt];show MU (h k hk) (Om _ _)),sa h]
def mL (ps:Mq Mz):(MJ ↥ps).map (λk=>ps.getD k 0)=ps:=by
 show On (by rw[Mr,MX]) λk b a=>?_
 rw[P3,Qu,MG,MC a];rfl
def mM (h:Ord n ys)(p:xs.Perm ys):Ord n xs:=#[p.nodup_iff.mpr h.nd,λx a=>h.lt x (p.mem_iff.mp a)]
def HD (l:GoodB bs)(C:Cl bs U)(s:GoodW a ↥bs u)(J:Std U u)(go:GoodW a ↥bs o)(I:Std U o)(v:Ord ↥u ps)(r:o=ae bs u ps++ext)
  (f:Ord ↥o b) (d:↥b=↥o) (pm:c.Perm ((MJ ↥ps).map λk=>(b.idxOf k,ps.getD k 0))):LayA a bs U u (ae bs o b) c:=by
 have E:↥ps<=↥o:=by rw[r,Mt,aB];show Om _ _
 have mem:∀p∈c,∃k<↥ps,b.getD p.1 0=k/\p.2=ps.getD k 0:=λp j=>by
  obtain⟨k,hk,rfl⟩:=MN.mp (pm.mem_iff.mp j);have hk:=ML.mp hk;show#[k,hk,?_,rfl];have n:k∈b:=dm f d (by show MU ‹_› ‹_›)
  have i:=NW n;rw[MG,MC i];show O9 i
 have A:Ord ↥u (c.map (·.2)):=by
  show mM v ?_;have:=pm.map (·.2)
  rw[Nj]at this;show this.trans (V5 (mL ps))
 have y:(ae bs o b).length=↥o:=by rw[aB,d]
 have z:Ord (ae bs o b).length (c.map (·.1)):=by
  obtain⟨w,_,_⟩:=p7 f d;rw[y];have B:=pm.map (·.1)
  rw[Nj]at B;show mM (ys:=(MJ _).map λk=>b.idxOf k) ?_ B
  have e:(MJ ↥ps).map (λk=>b.idxOf k)=(fG ↥o b).take ↥ps:=by
   unfold fG;rw[<- OR,List.take_range,Uv E]
  rw[e];show#[w.nd.sublist (Qz _ _),λx G=>w.lt x (N8 G)]
 show#[s,J,b9 l go f.lt f.nd,I.part l C go f,A,z,?_];have q:c.map (·.2)=(c.map λp=>b.getD p.1 0).map λk=>ps.getD k 0:=by
  rw[Nj];show Nw λp j=>?_
  obtain⟨k,hk,m,t⟩:=mem p j;change p.2=ps.getD (b.getD p.1 0) 0;rw[m,t]
 have D:(c.map (·.1)).map (λk=>b.getD k 0)=c.map λp=>b.getD p.1 0:=by
  rw[Nj];rfl
 have g:∀k∈c.map (λp=>b.getD p.1 0),k<↥ps:=λk hk=>by
  obtain⟨p,j,rfl⟩:=MN.mp hk;obtain⟨k,hk,m,t⟩:=mem p j;rw[m];show hk
 have H:Ord ↥ps (c.map λp=>b.getD p.1 0):=by
  show#[?_,g];have:=A.nd;rw[q]at this;rw[Oi,Pi]at this;show Oi.mpr (this.imp λh e=>h (by rw[e]))
 rw[q,<- bI l s v H,bI l go f (by rw[d,<- y];show z),D,r,oJ λk hk=>by rw[aB];show g k hk]
def Kc {lo :Ep}:wE M (.sl a lo hi) Z S Q=wE M a Z S λp=>wP M lo Z p.2 λq=>wP M hi Z q.2 λr=>wO (qe p.1 q.1 r.1 r.2) Q:=rfl
section
variable{defs:Mq (M2×Df)}{fuel d:Mz}{S:aa}{r:Mz}
def LY (G:Gen defs)(A:Is defs ("_law_shuffled") 2 4 bJ){n :Mz}{z:MM}(B:z=n)(D:n<=900)(u:n<fuel)(s:Fl S r)(w:∀P:W->Prop,P (.ref r)->wV Z j P)(b:∀Q:QW,Q (.int z,S)->wE (ar defs fuel (d+2)) e Z S Q)
  (k:∀ l ps S',S'[l]?=gV (.lst (ac ps))->Ord n ps->↥ps=n->↥S<=l->Fl S' r->Kp r S S'->Q (.ref l,S')) :
  wE (ar defs fuel (d+2)) (.own "_law_shuffled" 2 #v[.v j,.bi .list #v[.bi .range #v[e]]]) Z S Q:=by
 have f:∀Q:QW,(∀(t:Mz) S',S'[t]?=gV (.lst (ac (MJ n)))->↥S<=t->Ka S S'->Q (.ref t,S'))->wE (ar defs fuel (d+2)) (.bi .list #v[.bi .range #v[e]]) Z S Q:=λQ h=>uD B b ∅ h
 clear b;generalize E.bi .list #v[.bi .range #v[e]]=c at f ⊢;delta wE wA;show w _ (f _ λt S1 i _ a=>?_)
 dsimp only;show BF (d:=d) (λ(p:Mz)=>W.int (p:MM)) G A (s.ka a) i (by rw[MX];omega) (by rw[MX];omega) λq ps g m pm y o C=>?_
 show k q ps g m (mM #[P4,λp x=>ML.mp x] pm) (by rw[pm.length_eq,MX]) (M1 a.len y) o ((a.kp r).trans C)
end
structure ShP (defs:Mq (M2×Df)):Prop where
 gen:Gen defs
 ways:Is defs ("_law_new_ways": M2) 6 11 bH
 world:Is defs ("_law_world": M2) 4 8 gf
 shuf:Is defs ("_law_shuffled": M2) 2 4 bJ
 share:Is defs ("_law_share": M2) 4 12 eL
section
variable{defs:Mq (M2×Df)}{fuel d:Mz}{S:aa}{r:Mz}{Q:QW}
def BG (Yq:ShP defs)(hfu:20<fuel){V:Mq M2}(hM:↥ms=a)(ha1:0<a)(ha3:a<=3)(hb:GoodB bs)(hnl:↥V=↥bs)(hn3:↥bs<=3)(cl:Cl bs U)(e:S[q]?=gV (.dic U))(f:q≠r)(hf:Fl S r)
  (k:∀ u o t s,LayA a bs U u o t->↥u<=9->↥o<=9->Fl s r->Kp r S s->Q (.tup [az u,az o,.tup (t.map ic)],s)) :
  wO (aL (ar defs fuel (d+4)) "_law_share" 4 [.ref r,.tup [.tup ms,.tup (MR aK V bs),b0],.ref q,.int 9] S) Q:=by
 have G:=Yq.gen;show ay Yq.share rfl rfl λQ' hR=>?_
 replace k:∀(u o:Wd) (t:Pl) s,LayA a bs U u o t->↥u<=9->↥o<=9->Fl s r->Kp r S s->Q' (.rt (.tup [az u,az o,.tup (t.map ic)]),s):=λu o t s h1 h2 h3 h4 h5=>hR _ _ (k u o t s h1 h2 h3 h4 h5)
 clear hR;change wZ _ _ eL [gV (.ref r),gV (.tup [.tup ms,.tup (MR aK V bs),b0]),gV (.ref q),gV (.int 9),td,td,td,td,td,td,td,td] S Q';have hN:(MR aK V bs).length=↥bs:=by rw[Oq];omega
 have hqS:=bo e;generalize L:W.tup [.tup ms,.tup (MR aK V bs),b0]=R;unfold eL;nofun
 left;show ab g9 ?_;show bP  G.pick hf #v[] #v[] λv S1 v0 v1 f1 k1=>?_
 obtain⟨m,rfl⟩:∃m:Mz,v=m:=#[v.toNat,∅]
 subst L;show Ea  G Yq.ways Yq.world hM ha1 ha3 hN hn3 ∅ (k1.get _ _ f e) f f1 λu S2 hul gu su f2 k2=>hK _ _ ?_
 clear hK K;have e2:=k2.get _ _ f (k1.get _ _ f e);have kk:=k1.trans k2;have hul:↥u<=9:=∅
 clear k1 k2 f1;generalize L:W.tup [.tup ms,.tup (MR aK V bs),b0]=R;have ul:(u.map aH).length=↥u:=Mr ..;generalize hU:az u=Uqc;nofun
 delta wS;rw[Kc];show LY  G Yq.shuf (n:=↥u) rfl ∅ ∅ f2 (λP h=>h) (λQ h=>by
  left;subst hU;show aC ?_;rw[ul];show h) λl ps S3 e3 hO hpl hl f3 k3=>?_
 delta wP wE wA wV wG;subst hU;show aC (ab g9 ?_);rw[ul];show bP  G.pick f3 ∅ ∅ λv A v0 v1 f4 k4=>?_
 have hrt:=f2.lt;have hlr:l≠r:=∅
 have e4:=k4.get _ _ hlr e3;have q4:=k4.get _ _ f (k3.get _ _ f e2);delta wN;obtain⟨m2,rfl⟩:∃m:Mz,v=m:=#[v.toNat,∅]
 show ab (show qe (.ref l) td (gV (m2:MM)) A=gV (.ref ↥A,A++[O.lst (ac (ps.take m2))]) by simp only[qe,aD e4,dy];unfold ac;rw[OR]) (hK _ _ ?_)
 clear hK K;have k5:Kp r S (A++[O.lst (ac (ps.take m2))]):=((kk.trans k3).trans k4).trans .push;have j:Ord ↥u (ps.take m2):=#[hO.nd.sublist (Qz _ _),λp hp=>hO.lt p (N8 hp)]
 have hl':(ps.take m2).length<=↥u:=jM j;generalize ps.take m2=ps at k5 j hl';have X:(A++[O.lst (ac ps)])[↥A]?=gV (.lst (ac ps)):=ag;have q5:=aw (u:=O.lst (ac ps)) q4;have f5:=f4.ka (Ka.push (o:=O.lst (ac ps)));have r5:r<↥A:=f4.lt;generalize A++[O.lst (ac ps)]=S5 at k5 X q5 f5 ⊢;generalize ↥A=l5 at X r5 ⊢;have h5:=bo X;clear q4 e4 k4 f4 hlr hl f3 k3 kk hpl hO e3 e2 f2 hul;subst L;nofun
 left;show wo  G hb hnl gu j.lt j.nd ∅ X λS6 k6=>hK _ _ ?_
 clear hK K;have q6:=k6.get _ _ q5;have e6:=k6.get _ _ X;have f6:=f5.ka k6;have kk:=k5.trans (k6.kp r);clear k6 k5 f5 X q5;have gp:=b9 hb gu j.lt j.nd;have sp:=su.part hb cl gu j;have pl:(ae bs u ps).length=↥ps:=aB ..;have pnl:(ac ps).length=↥ps:=Mr ..;generalize hU:az u=Uqc;nofun
 show lT rfl rfl ?_;left;show ab g9 ?_;show hW e6 (ab iX ?_);rw[pnl];show bP  G.pick f6 ∅ ∅ λc S7 c0 c1 f7 k7=>?_
 have e7:=k7.get _ _ ∅ e6
 have q7:=k7.get _ _ f q6;have kk7:=kk.trans k7;show#[c,λi Z s=>∃(x:Wd) (a7 a8 a9:MA W),Z=[gV (.ref r),gV (W.tup [.tup ms,.tup (MR aK V bs),b0]),gV (.ref q),gV (.int 9),gV Uqc,gV (.ref l5),gV (az (ae bs u ps++x)),a7,a8,a9,td,td]/\↥x<=i/\GoodW a ↥bs (ae bs u ps++x)/\Std U (ae bs u ps++x)/\s[l5]?=gV (.lst (ac ps))/\s[q]?=gV (.dic U)/\Fl s r/\Kp r S s,rfl,∅,?_,?_,?_]
 ·show#[[],td,td,td,by rw[Nr],MH _,by rw[Nr];show gp,by rw[Nr];show sp,e7,q7,f7,kk7]
 ·rintro i Z S8 hi ⟨x,a7,a8,a9,rfl,hx,E,sx,e8,q8,f8,k8⟩ Q2 hn _;clear hK;have B:(ae bs u ps++x).length<=9:=by rw[Mt,pl];omega
  have hst:∀p:Pt,∃y:Wd,↥y=↥x+1/\ae bs u ps++x++[p]=ae bs u ps++y:=λp=>#[x++[p],by rw[Mt,Ng],by rw[N7]]
  have hno:∃y:Wd,↥y=↥x/\ae bs u ps++x=ae bs u ps++y:=#[x,rfl,rfl];generalize ae bs u ps++x=o at E sx B hst hno;left;show st ?_;left;show af #v[] rfl (aC ?_)
  rw[hM];show bP  G.pick f8 ∅ ∅ λv S9 v0 v1 f9 Y=>?_
  have e9:=Y.get _ _ ∅ e8
  have q9:=Y.get _ _ f q8;show st ?_;left;show lY  G Yq.ways hN hn3 E ∅ q9 f f9 λw b hw f10 g=>?_
  have e10:=g.get _ _ ∅ e9
  have q10:=g.get _ _ f q9;have kz:=(k8.trans Y).trans g;nofun
  delta wS wT wE wA wV wG;rcases hw with rfl|⟨to,rfl,htl,hto,hbp⟩
  ·show ab (show bx .isnot .non .non b=gV (.bl false,b)from rfl) ?_
   delta wB;obtain⟨y,hy,J⟩:=hno;show ap (Q0:=Q2) (λz=>by cases z) (λ_ Q5 M _=>ba (M _ _ (hK _ _ (ba (hn _ _ #[y,_,_,_,by rw[J],∅,J▸E,J▸sx,e10,q10,f10,kz])))))
  ·show ab (show bx .isnot (.tup (aj to)) .non b=gV (.bl true,b)from rfl) ?_
   delta wB;show ap (Q0:=Q2) (λ_ Q5 M _=>?_) (λz=>by cases z)
   show st ?_;left;obtain⟨y,hy,J⟩:=hst (v,to);show ab (dN  (p:=(v,to)) ∅) (ba (M _ _ (hK _ _ (ba (hn _ _ #[y,gV (.int i),gV (.int v),gV (.tup (aj to)),by rw[J],∅,?_,?_,e10,q10,f10,kz])))))
   ·rw[<- J];show E.snoc #[v0,v1] htl hto
   ·rw[<- J];show sx.snoc hbp
 ·rintro Z S8 ⟨x,a7,a8,a9,rfl,hx,E,sx,e8,q8,f8,k8⟩;have B:(ae bs u ps++x).length<=9:=by rw[Mt,pl];omega
  show hK _ _ ?_;clear hK K;have eo:∃ext,ae bs u ps++x=ae bs u ps++ext:=#[x,rfl];generalize ae bs u ps++x=o at E sx B eo;obtain⟨ext,eo⟩:=eo;have ol:(o.map aH).length=↥o:=Mr ..;have hpo:↥ps<=↥o:=by rw[eo,Mt,pl];omega
  generalize hO2:az o=O2;nofun
  delta wS;show LY  G Yq.shuf (n:=↥o) rfl ∅ ∅ f8 (λP h=>h) (λQ h=>by
   left;subst hO2;show aC ?_;rw[ol];show h) λl9 H S9 e9 pO pL hl9 f9 Y=>hK _ _ ?_
  clear hK K;subst hO2;left;have e9':=Y.get _ _ ∅ e8
  have ppl:(ac H).length=↥H:=Mr ..;show st ?_;left;show ee ↥ps (λ_=>true) (λk=>ic (H.idxOf k,ps.getD k 0)) [gV (.ref l9),gV (.ref l5)] rfl rfl rfl rfl ∅ ?_ (λk hk b g=>?_) λb g=>?_
  ·left;show hW e9' #[?_,.refl];rw[pnl]
  ·delta eS wC wE wA wV wG;show#[λ_=>j8 (g.get _ _ e9') (MK k) (by rw[M0];show gJ (aq  hk)) #[G2 (g.get _ _ e9),Kb (g.get _ _ e9) (dm pO pL (MU hk hpo)) ∅ #[rfl,rfl,.refl]],λz=>by cases z]
  rw[aX];show st ?_;left;have C:=g.trans (Ka.push (o:=O.lst ((MJ ↥ps).map λk=>ic (H.idxOf k,ps.getD k 0))))
  have I:(b++[O.lst ((MJ ↥ps).map λk=>ic (H.idxOf k,ps.getD k 0))])[↥b]?=gV (.lst (((MJ ↥ps).map λk=>(H.idxOf k,ps.getD k 0)).map ic)):=by
   rw[Nj];show ag
  have D:=C.get _ _ e9;have HX:=f9.ka C;generalize(b++[O.lst ((MJ ↥ps).map λk=>ic (H.idxOf k,ps.getD k 0))])=S11 at C I D HX ⊢
  generalize ↥b=l11 at I ⊢;show wo (d:=d+1) G hb hnl E pO.lt pO.nd ∅ D λS12 N=>?_
  have kz:=(k8.trans Y).trans ((C.trans N).kp r);show BF (d:=d+1) ic G Yq.shuf (HX.ka N) (N.get _ _ I) (by rw[Mr,MX];omega) (by rw[Mr,MX];omega) λq13 t S13 e13 pm h13 JX k13=>?_
  show cH e13 ?_;subst hU;show k u (ae bs o H) t S13 (HD hb cl gu su E sx j eo pO pL pm) ∅ (by rw[aB,pL];show B) JX (kz.trans k13)
end
section
variable{M:M2->FF}{Z:Fm}{S:aa}
def HE {α:Type}{Q:QW}(L:Mq α)(j l:α->W)(p:α->M9)(g:α->W)(R:Fm)(u:dw e=true)(t:dw d=true)(oc:mZ n=true)(hc:eu i Z=td::td::td::R)(hl:↥L<=1000000)
  (r:wE M e Z S λq=>q.1=.tup (L.map λx=>W.tup [j x,l x])/\Ka S q.2)
  (f:∀x∈L,∀c,Ka S c->eS M d n (td::gV (j x)::gV (l x)::R) c (λy _ m=>p x=true/\y=g x/\Ka c m) (λ_ m=>p x=false/\Ka c m))
  (k:∀c,Ka S c->Q (.ref ↥c,c++[.lst ((L.filter p).map g)])):Wp (aE M (.comp d (.tp [1,2]) (.seq e) n i) Z S) Q:=by
 obtain⟨w,S1,o,rfl,s⟩:=bM u r;show Bf (mi:=.its (L.map λx=>W.tup [j x,l x])) L (λx=>W.tup [j x,l x]) p g (λZ=>∃a b,Z=td::a::b::R) (λx=>td::gV (j x)::gV (l x)::R) (λx Z S h=>by
  obtain⟨a,b,rfl⟩:=h;show#[rfl,_,_,rfl]) t oc (by rw[hc];show#[_,_,rfl]) hl (by revert jt eI o) s (λ_ _ _=>rfl) rfl f k
end
section
variable{S:aa}
def Kd (d:u=v)(e:ps=a):ie S (19+1) (.tup [az u,.tup (ac ps)]) (.tup [az v,.tup (ac a)])=gV true:=by
 subst d e;change eV _ _ _=_;have b:ie S (17+2) (az u) (az u)=gV true:=by
  change eV _ _ _=_;rw[lV,NB rfl]
 have c:ie S (17+2) (.tup (ac ps)) (.tup (ac ps))=gV true:=by
  change eV _ _ _=_;rw[ow,gM,NB rfl]
 revert eV b c;rfl
def HF (b:u=v)(c:ps=a):bx .eq (.tup [az u,.tup (ac ps)]) (.tup [az v,.tup (ac a)]) S=gV (.bl true,S):=by
 show(ie S _ _ _).map _=_;rw[Kd b c];rfl
end
abbrev sj (m:Mz)(a:Mq Mz):Pl:=(MJ m).map λj=>(j,a.getD j 0)
abbrev iD (m:Mz):Pl:=(MJ m).map λj=>(j,j)
def uE (m:Mz)(a:Mq Mz):(sj m a).map (·.1)=MJ m:=by
 unfold sj;rw[Nj];show(Nw λ_ _=>rfl).trans (Uo _)
def uF (h:↥a=m):(sj m a).map (·.2)=a:=by
 unfold sj;rw[Nj,<- h];show mL a
def sn (m:Mz):iD m=sj m (MJ m):=by
 show Nw λj a=>?_
 have a:=ML.mp a;rw[MG,NQ a];rfl
abbrev bB:Ss:=
 #v[.set 4 (.comp (.tup #v[.ix (.v 2) (.c (.int 0)),.op .add (.ix (.v 2) (.c (.int 1))) (.tup #v[.v 1])]) (.nm 1) (.rng #v[.bi .len #v[.ix (.v 0) (.c (.int 1))]]) .nil [td,td,gV 3]),.ret (.comp (.v 1) (.nm 1) (.seq (.v 4)) #v[.cmp .is (.own "first_bar" 2 #v[.v 2,.op .add (.v 3) (.tup #v[.v 1])]) (.c .non)] [td,td,gV 1,gV 2])]
abbrev bE:Ss:=
 #v[.set 3 (.lst .nil),.loop (.nm 4) (.seq (.own "wishes_over" 3 #v[.v 0,.v 1,.ix (.v 2) (.c (.int 0))])) #v[.set 5 (.op .add (.ix (.v 2) (.c (.int 0))) (.tup #v[.v 4])),.set 6 (.own "longer_by_a_way" 4 #v[.v 0,.v 1,.v 5,.ix (.v 2) (.c (.int 2))]),.loop (.nm 7) (.seq (.own "longer_by_a_way" 4 #v[.v 0,.v 1,.v 5,.ix (.v 2) (.c (.int 1))])) #v[.ex (.me .extend (.v 3) #v[.comp (.tup #v[.v 2,.v 3,.v 1]) (.nm 1) (.seq (.v 6)) .nil [td,td,gV 5,gV 7]])]],.ret (.v 3)]
abbrev cW (c:Wd×Pt×Pt):W:=.tup [az c.1,aH c.2.1,aH c.2.2]
def qc :(iE U v n p).length<=n:=by
 show M1 (OL _ _) (by rw[Mr,MX];show MH _)
def je {α β:Type}{F:α->Mq β}(h:∀x,(F x).length<=m):∀xs:Mq α,(xs.flatMap F).length<=↥xs*m
 |[]=>by simp
 |x::xs=>by
  rw[Pj,Mt,Nh,Nat.add_mul,Nat.one_mul];have:=je h xs;have:=h x;omega
def BH (e:a<=3)(c:n<=3)(d:↥u<=3):(oz U u a n).length<=81:=by
 have b:=M1 (SR c _) (SE  #v[] d)
 have:=je (F:=λ(m:Mz)=>cQ U u n m _) (λm=>M1 (fj _) b) (MJ a)
 rw[MX]at this;show M1 this ∅
section
variable{defs:Mq (M2×Df)}{fuel d:Mz}{S:aa}{Q:QW}
def BI (H:Is defs ("three_at") 4 6 bQ)(o:Is defs ("first_bar") 2 4 be)(J:Is defs ("longer_by_a_way") 4 5 bB){p:Pt}(I:↥N=n)(M:n<=3)(O:GoodW a n v)(P:1<=↥v)(R:↥v<=10)(r:0<=p.1/\p.1<a)(s:↥p.2+1=↥v)(t:∀w∈p.2,0<=w/\w<n)(e:S[q]?=gV (.dic U))
  (k:∀ l f,f[l]?=gV (.lst ((iE U v n p).map aH))->↥S<=l->Ka S f->Q (.ref l,f)) :
  wO (aL (ar defs fuel (d+3)) "longer_by_a_way" 4 [.tup [m0,.tup N,b0],.ref q,az v,aH p] S) Q:=by
 show ay J rfl rfl λC B=>?_
 replace k:=λl f a b c=>B _ _ (k l f a b c)
 clear B;change wZ _ _ bB [gV (.tup [m0,.tup N,b0]),gV (.ref q),gV (az v),gV (aH p),td] S C;delta bB;show st ?_;left;show ee n (λ_=>true) (λw=>aH (p.1,p.2++[(w:MM)])) [gV (aH p)] rfl rfl rfl rfl ∅ ?_ (λw hw D j=>?_) λD j=>?_
 ·left;show af #v[] rfl (aC ?_)
  rw[I];show#[rfl,.refl]
 ·delta eS wC wE wA wV wG;show#[λ_=>?_,λz=>by cases z]
  show af #v[] rfl (af #v[] rfl ?_)
  show ab (cg (jF (by rw[Mt,Mr];show _+1<=_;omega))) ?_
  show#[rfl,?_,.refl];unfold aH;dsimp only;rw[MZ];rfl
 ·rw[aX];show st ?_;left;have G:((MJ n).map λ(w:Mz)=>aH (p.1,p.2++[(w:MM)]))=(((MJ n).map λ(w:Mz)=>((p.1,p.2++[(w:MM)]))).map aH):=by rw[Nj];rfl
  rw[G];show jH ((MJ n).map λ(w:Mz)=>((p.1,p.2++[(w:MM)]))) aH (λh=>dC U (v++[h])) aH [gV (.ref q),gV (az v)] rfl rfl rfl rfl (by rw[Mr,MX];omega) #[_,rfl,ag,.refl] (λh L E m=>?_) λE m=>?_
  ·obtain⟨w,hw,rfl⟩:=MN.mp L;have hw:=ML.mp hw;have A:GoodW a n (v++[(p.1,p.2++[(w:MM)])]):=O.snoc r (by rw[Mt];show s) λx V=>by
    rcases Na.mp V with z|z
    ·show t x z
    ·rw[MS.mp z];omega
   generalize((p.1,p.2++[(w:MM)]))=h at A;have X:(v++[h]).length=↥v+1:=by rw[Mt];rfl
   delta eS wC wT wE wA wV wG az;have u:v.map aH++[aH h]=(v++[h]).map aH:=by rw[MZ];rfl
   show ab (cg (jF (by rw[u,Mr];omega))) ?_
   dsimp only;rw[u];have y:=λQ=>gk (fuel:=fuel) (d:=d) (Q:=Q) H o A ∅ ∅ ((j.trans (Ka.push.trans m)).get _ _ e)
   unfold az at y;show y _ λz g=>?_
   rcases g with⟨rfl,g⟩|⟨i,rfl,g⟩
   ·show ab rfl ?_;delta wB;show#[λ_=>#[g,rfl,.refl],λz=>by cases z]
   ·show ab rfl ?_;delta wB;show#[λz=>(by cases z),λ_=>#[g,.refl]]
  ·show k _ _ ag ?_ ((j.trans (Ka.push.trans m)).trans .push);have:=(j.trans (Ka.push.trans m)).len;show this
structure Sea (defs:Mq (M2×Df)):Prop where
 three:Is defs ("three_at": M2) 4 6 bQ
 fbar:Is defs ("first_bar": M2) 2 4 be
 lwish:Is defs ("longer_wishes": M2) 2 5 cz
 wover:Is defs ("wishes_over": M2) 3 7 cr
 byway:Is defs ("longer_by_a_way": M2) 4 5 bB
 bypt:Is defs ("longer_by_a_point": M2) 3 8 bE
def uG (X:Sea defs)(hM:↥g=a)(hN:↥N=n)(D:a<=3)(s:n<=3)(y:Cf a n U u p r)(E:↥u<=3)(e:S[q]?=gV (.dic U))
  (k:∀ l f,f[l]?=gV (.lst ((sd U a n u p r).map cW))->↥S<=l->Ka S f->Q (.ref l,f)) :
  wO (aL (ar defs fuel (d+4)) "longer_by_a_point" 3 [.tup [.tup g,.tup N,b0],.ref q,.tup [az u,aH p,aH r]] S) Q:=by
 show ay X.bypt rfl rfl λQ' hR=>?_
 replace k:=λl f a b c=>hR _ _ (k l f a b c)
 clear hR;change wZ _ _ bE [gV (.tup [.tup g,.tup N,b0]),gV (.ref q),gV (.tup [az u,aH p,aH r]),td,td,td,td,td] S Q';have wl:=BH (U:=U)  D s E;have ww:=λS Q e=>nj  (fuel:=fuel) (d:=d) (S:=S) (Q:=Q)   (b0:=b0) (q:=q) X.three X.fbar X.lwish X.wover hM hN D s y.gu (M1 E #v[]) (U:=U) e
 have bw:=λv p S Q hv hv1 hvl hp0 hpl hpw e=>BI  (fuel:=fuel) (d:=d) (S:=S) (Q:=Q) (m0:=.tup g)  (b0:=b0) (q:=q) (a:=a)  (U:=U) (v:=v) (p:=p) X.three X.fbar X.byway hN s hv hv1 hvl hp0 hpl hpw e
 generalize W.tup [.tup g,.tup N,b0]=R at ww bw;have hF:∀x ,((iE U (u++[x]) n p).flatMap λh=>(iE U (u++[x]) n r).map λh'=>(u++[x],h,h')).length<=9:=λx=>by
  have h1:=je (F:=λh=>(iE U (u++[x]) n r).map λh'=>(u++[x],h,h'))  (λh=>by rw[Mr];show M1 qc s) (iE U (u++[x]) n p)
  have h2:=qc (U:=U) (v:=u++[x]) (n:=n) (p:=p);omega
 unfold sd at k;generalize hwF:oz U u a n=ws at k wl ww;delta bE;show st ?_;left;nofun
 show d8 rfl rfl ?_;left;show af #v[] rfl (ww _ _ (aw e) λt S2 e2 ht k2=>?_)
 have hSt:↥S<t:=by
  have h1:(S++[O.lst []]).length=↥S+1:=by simp
  have h2:(S++[O.lst []]).length<=t:=ht;omega
 show#[t,ws.map aH,λi Z f=>(∃V Y a6 A,Z=[gV R,gV (.ref q),gV (.tup [az u,aH p,aH r]),gV (.ref ↥S),V,Y,a6,A])/\f[↥S]?=gV (.lst (((ws.take i).flatMap λx=>(iE U (u++[x]) n p).flatMap λh=>(iE U (u++[x]) n r).map λh'=>(u++[x],h,h')).map cW))/\f[t]?=gV (.lst (ws.map aH))/\Ka S f,rfl,#[#[_,_,_,_,rfl],k2.get _ _ ag,e2,Ka.push.trans k2],λ_ _ _ h=>h.2.2.1,?_,?_]
 ·rintro i w Z S3 hw ⟨⟨V,Y,a6,A,rfl⟩,L,t3,H⟩;clear hK;rw[MD,Mv]at hw;obtain⟨x,hx,rfl⟩:=hw;have G:=MQ hx;rw[<- hwF]at G;obtain⟨g1,g2,g3,_⟩:=md.mp G;have gv:=y.gu.snoc   g1 g2 g3;have vl:(u++[x]).length=↥u+1:=by rw[Mt];rfl
  have hil:=(MP.mp hx).1;show ab (rfl) ?_;intro Q3 hn _;show st ?_;left;show af #v[] rfl ?_
  delta az;have ev:u.map aH++[aH x]=(u++[x]).map aH:=by rw[MZ];rfl
  show ab (cg (jF (by rw[ev,Mr];omega))) ?_
  dsimp only;rw[ev];have hs:∀xs ,W.tup (xs.map aH)=az xs:=λ_=>rfl
  rw[hs,hs];show st ?_;left;show af #v[] rfl (bw (u++[x]) r _ _ gv ∅ ∅ y.gq.mark (by rw[y.gq.len,vl]) y.gq.way (H.get _ _ e) λJ S4 e6 ht6 I=>?_)
  have t4:=I.get _ _ t3;have e4:=I.get _ _ L;have hS3:=bo t3;nofun
  show d8 rfl rfl ?_;left;show af #v[] rfl (bw (u++[x]) p _ _ gv ∅ ∅ y.gp.mark (by rw[y.gp.len,vl]) y.gp.way ((H.trans I).get _ _ e) λP S5 e7 ht7 M=>?_)
  have lp:=qc (U:=U) (v:=u++[x]) (n:=n) (p:=p);have lr:=qc (U:=U) (v:=u++[x]) (n:=n) (p:=r);have hF':=hF x;have eD:ws.take (i+1)=ws.take i++[x]:=by rw[Nd,hx];rfl
  have fl:=je  hF (ws.take i);rw[M6]at fl;have h46:=bo e6;have h4:↥S<J:=by have:↥S3<=J:=ht6;omega
  have h7:↥S<P:=by have:↥S4<=P:=ht7;have:=I.len;omega
  show#[P,(iE U (u++[x]) n p).map aH,λj Z f=>(∃A,Z=[gV R,gV (.ref q),gV (.tup [az u,aH p,aH r]),gV (.ref ↥S),gV (aH x),gV (az (u++[x])),gV (.ref J),A])/\f[↥S]?=gV (.lst (((ws.take i).flatMap (λx=>(iE U (u++[x]) n p).flatMap λh=>(iE U (u++[x]) n r).map λh'=>(u++[x],h,h'))++((iE U (u++[x]) n p).take j).flatMap λh=>(iE U (u++[x]) n r).map λh'=>(u++[x],h,h')).map cW))/\f[P]?=gV (.lst ((iE U (u++[x]) n p).map aH))/\f[J]?=gV (.lst ((iE U (u++[x]) n r).map aH))/\f[t]?=gV (.lst (ws.map aH))/\Ka S f,rfl,#[#[_,rfl],by rw[O8,Uh,Nr];show M.get _ _ e4,e7,M.get _ _ e6,M.get _ _ t4,(H.trans I).trans M],λ_ _ _ h=>h.2.2.1,?_,?_]
  ·rintro j w Z S6 hw ⟨⟨A,rfl⟩,B,f7,f6,ft,k8⟩;clear hK hn;rw[MD,Mv]at hw;obtain⟨h,hh,rfl⟩:=hw;have hjl:j<(iE U (u++[x]) n p).length:=(MP.mp hh).1;show ab (rfl) ?_;intro Q4 hn4 _;show st ?_;left;show#[cD B,?_];show jH (iE U (u++[x]) n r) aH (λ_=>true) (λh'=>cW (u++[x],h,h')) [gV (az (u++[x])),gV (aH h)] rfl rfl rfl rfl ∅ #[J,rfl,f6,.refl] (λh' _ S7 k7=>?_) λS7 k7=>?_
   ·delta eS wC wE wA wV wG;show#[λ_=>#[rfl,rfl,.refl],λz=>by cases z]
   ·rw[aX];have C:=k7.trans (Ka.push (o:=O.lst ((iE U (u++[x]) n r).map λh'=>cW (u++[x],h,h'))))
    have gl:=je (F:=λh=>(iE U (u++[x]) n r).map λh'=>(u++[x],h,h')) (m:=3) (λh=>by rw[Mr];omega) ((iE U (u++[x]) n p).take j)
    rw[M6]at gl;show J3 (C.get _ _ B) ag ?_ (ba (hn4 _ _ #[#[_,rfl],?_,?_,?_,?_,(k8.trans C).late (MH _)]))
    ·rw[Mr,Mt,Mr];omega
    ·rw[aZ (C.get _ _ B),Nd,hh];simp[OZ,MZ,cW,QF]
    ·rw[aV ∅];show C.get _ _ f7
    ·rw[aV ∅];show C.get _ _ f6
    ·rw[aV ∅];show C.get _ _ ft
  ·rintro Z S6 ⟨⟨A,rfl⟩,B,f7,f6,ft,k8⟩;rw[Mr,Nl]at B;show hK _ _ (ba (hn _ _ #[#[_,_,_,_,rfl],?_,ft,k8]));rw[eD,OZ,List.flatMap_singleton];show B
 ·rintro Z S3 ⟨⟨V,Y,a6,A,rfl⟩,L,t3,H⟩;rw[Mr,Nl]at L;show hK _ _ (st ?_);left;show k _ _ L (MH _) H
end
abbrev bC:Ss:=
 #v[.set 4 (.sl (.own "all_bars" 5 #v[.v 0,.v 1,.ix (.v 2) (.c (.int 0)),.ix (.v 2) (.c (.int 1)),.ix (.v 2) (.c (.int 2))]) .no (.yes (.v 3))),.ite (.cmp .notin (.c .non) (.v 4)) #v[.ret (.v 2)] .nil,.set 5 (.me .index (.v 4) #v[.c .non]),.loop (.nm 6) (.seq (.own "longer_by_a_point" 3 #v[.v 0,.v 1,.v 2])) #v[.ite (.cmp .isnot (.ix (.own "all_bars" 5 #v[.v 0,.v 1,.ix (.v 6) (.c (.int 0)),.ix (.v 6) (.c (.int 1)),.ix (.v 6) (.c (.int 2))]) (.v 5)) (.c .non)) #v[.set 7 (.own "unfilled_behind" 4 #v[.v 0,.v 1,.v 6,.v 3]),.ite (.cmp .isnot (.v 7) (.c .non)) #v[.ret (.v 7)] .nil] .nil],.ret (.c .non)]
abbrev fu:Ss:=
 #v[.set 2 (.own "barred_threes" 1 #v[.v 0]),.loop (.nm 3) (.rng #v[.bi .len #v[.ix (.v 0) (.c (.int 0))]]) #v[.loop (.nm 4) (.rng2 #v[.v 3,.bi .len #v[.ix (.v 0) (.c (.int 0))]]) #v[.set 5 (.own "unfilled_behind" 4 #v[.v 0,.v 2,.tup #v[.tup .nil,.tup #v[.v 3,.tup .nil],.tup #v[.v 4,.tup .nil]],.v 1]),.ite (.cmp .isnot (.v 5) (.c .non)) #v[.ret (.v 5)] .nil]],.ret (.c .non)]
abbrev mN:Ss:=
 #v[.ret (.own "first_unfilled" 2 #v[.v 0,.bi .len #v[.ix (.v 0) (.c (.int 1))]])]
def sr (d:GoodP a k ↥u p)(f:GoodP a k ↥u q)(hi:i<=↥bs):∃w,(fM (λv p=>cF U v p ↥u (↥u+1)) bs u p q)[i]?=gV w/\NI w/\J6 w = !cG U bs u p q i:=by
 by_cases c:i<↥bs
 ·show#[ci (λk=>cF U (dD bs u p q i) k ↥u (↥u+1)) ↥u,?_,ke _ _,?_]
  ·unfold fM;rw[No (by rw[Mr,MX];show c),MD,NQ c];rfl
  ·unfold cG;rw[M4 c,oD,List.not_any_eq_all_not];rw[PM,MY,MY];have b:∀k∈MJ _,cF U _ k _ _=bd U (mC u p q (bs.getD i 0) k):=λk hk=>by
    unfold cF bd;rw[ut d f (ML.mp hk)]
   show#[λh k hk=>by rw[<- b k hk];show h k hk,λh k hk=>by rw[b k hk];show h k hk]
 ·obtain rfl:i=↥bs:=∅
  show#[kh p q,?_,uq _ _,?_]
  ·unfold fM;rw[Nt (by rw[Mr,MX];show MH _),Mr,MX,O0];rfl
  ·unfold cG;rw[Nm c,TY];unfold kh Bm
   by_cases e:p.1=q.1
   ·rw[M4 e,oD,d.len,e,NJ,Pp];congr 1
    funext p
    rw[TY]
   ·rw[Nm e,show(p.1==q.1)=false by simpa using e];rfl
def uH (h:NI w):jQ w .non=J6 w:=by
 rcases h with rfl|⟨i,rfl⟩<;>rfl
def xY {Yq:Mq W}{f:Mz->M9}(hl:↥Yq=c)(h:∀i<c,∃w,Yq[i]?=gV w/\NI w/\J6 w = !f i):(∀w∈Yq,NI w)/\(((Yq.any λz=>jQ z .non)=false/\∀i<c,f i=true)\/∃i<c,(Yq.any λz=>jQ z .non)=true/\(Yq.findIdx? λz=>jQ z .non)=gV i/\f i=false):=by
 have l:∀w∈Yq,NI w:=λw hw=>by
  obtain⟨i,hi,e⟩:=Pu hw;obtain⟨m,a,b,_⟩:=h i ∅
  rw[MC hi,e]at a;cases a;show b
 show#[l,?_];cases g:Yq.findIdx? λz=>jQ z _ with
 |none=>
  rw[List.findIdx?_eq_none_iff]at g;show .inl #[PX.mpr λx k=>by rw[g x k];show Nu,λi hi=>?_]
  obtain⟨w,a,b,d⟩:=h i hi;have:=g w (MQ a);rw[uH b,d]at this
  simpa using this
 |some i=>
  obtain⟨hi,a,_⟩:=Oc.mp g;obtain⟨w,b,d,j⟩:=h i ∅
  rw[MC hi]at b;cases b;rw[uH d,j]at a;show .inr #[i,∅,OO.mpr #[_,NC hi,by rw[uH d,j];show a],rfl,by simpa using a]
def wt {Yq:Mq W}(h:∀w∈Yq,NI w):Yq.all aP=true:=MY.mpr λw hw=>by
 rcases h w hw with rfl|⟨i,rfl⟩<;>rfl
def BJ (h:∀w∈Yq,NI w):bx .notin .non (.tup Yq) S=gV (.bl (!(Yq.any λz=>jQ z .non)),S):=by
 have a:(aP .non&&Yq.all aP)=true:=by rw[wt h];rfl
 revert bx cY sS yT cp a Qm Nb
def BK (h:NI w):bx .isnot w .non S=gV (.bl (!J6 w),S):=by
 rcases h with rfl|⟨i,rfl⟩<;>rfl
def En {i:Mz}{Q:QW}(h:∀w∈Yq,NI w)(hl:↥Yq<=1000000)(hi:(Yq.findIdx? λz=>jQ z .non)=gV i)(q:Q (.int i,S)):wO (Me.index.fn (.tup Yq) [.non] S) Q:=by
 show ab ?_ q;change iq (.tup Yq) _ S=_;unfold iq;rw[show cp S _=gV Yq from rfl]
 dsimp only;rw[show aP _=true from rfl,wt h,NB hl,hi];rfl
abbrev LZ (a:Mz)(bs:Mq MM)(U:Mq (T×W))(c:Mz)(u:Wd)(p q:Pt)(w:W):Prop:=(w=.non/\gC a bs U c u p q)\/∃x:Wd×Pt×Pt,w=cW x/\Cf a ↥bs U x.1 x.2.1 x.2.2/\Full U bs c x.1 x.2.1 x.2.2/\↥x.1<=c
section
variable{defs:Mq (M2×Df)}{fuel:Mz}
def uI (F:Fil defs)(X:Sea defs)(hg:Is defs ("unfilled_behind") 4 8 bC){E:Mq W}(V:GoodB bs)(t:↥B=↥bs)(hml:↥E=a)(ha3:a<=3)(cl:Cl bs U)(hc1:c<=↥bs+1) :
  ∀ m d S (Q:QW) u p r,Cf a ↥bs U u p r->Br U bs c u p r<=m->↥u+m<=c->S[q]?=gV (.dic U)->(∀w n,LZ a bs U c u p r w->Ka S n->Q (w,n))->
  wO (aL (ar defs fuel (d+m+5)) "unfilled_behind" 4 [.tup [.tup E,.tup (MR aK B bs),b0],.ref q,.tup [az u,aH p,aH r],.int c] S) Q:=by
 have hb3:↥bs<=3:=by rcases V with rfl|rfl|rfl|rfl|rfl|rfl<;>decide
 have zl:(MR aK B bs).length=↥bs:=by rw[Oq,t];omega
 intro m
 induction m with
 |zero=>?_
 |succ m ih=>?_
 all_goals
  intro d S Q u p r b o hlen e k;show ay hg rfl rfl λO hR=>?_
  replace k:=λw n x y=>hR _ _ (k w n x y)
  clear hR;change wZ _ _ bC [gV (.tup [.tup E,.tup (MR aK B bs),b0]),gV (.ref q),gV (.tup [az u,aH p,aH r]),gV (.int c),td,td,td,td] S O;delta bC;nofun
  delta wS wE wA wP wV wG Mx;show af #v[] rfl (af #v[] rfl (af #v[] rfl ?_))
  have bl:(fM (λv p=>cF U v p ↥u (↥u+1)) bs u p r).length=↥bs+1:=xS
  have N:=xY (c:=c) (Yq:=(fM (λv p=>cF U v p ↥u (↥u+1)) bs u p r).take c)  (by rw[M6];omega) (λi hi=>by rw[Ts,M4 hi];show sr b.gp b.gq ∅)
  show mB F V t b.gu b.gp b.gq ∅ e λS1 k1=>?_
  delta wN;show ab (show qe (.tup (fM (λv p=>cF U v p ↥u (↥u+1)) bs u p r)) td (gV c) S1=gV (.tup ((fM (λv p=>cF U v p ↥u (↥u+1)) bs u p r).take c),S1) by revert qe dy) ?_
  show hK _ _ ?_;clear hK K;have yl:((fM (λv p=>cF U v p ↥u (↥u+1)) bs u p r).take c).length<=1000000:=by rw[M6];omega
  generalize(fM (λv p=>cF U v p ↥u (↥u+1)) bs u p r).take c=Yq at N yl
  clear bl;obtain⟨ni,N⟩:=N;nofun
  delta wS wT wE wV wG;show ab (BJ ni) ?_;delta wB
 ·rcases N with⟨I,h2⟩|⟨i,hi,_,_,R⟩
  ·rw[I];show ap (Q0:=O) (λ_ Q2 _ hr=>?_) (λz=>by cases z)
   show st ?_;left;show hr _ _ (k _ _ (.inr #[(u,p,r),rfl,b,h2,by change ↥u<=c;omega]) k1)
  ·have:0<Br U bs c u p r:=RZ (NP.mpr #[ML.mpr hi,by rw[R];rfl])
   omega
 ·rcases N with⟨I,h2⟩|⟨i,hi,I,h3,R⟩
  ·rw[I];show ap (Q0:=O) (λ_ Q2 _ hr=>?_) (λz=>by cases z)
   show st ?_;left;show hr _ _ (k _ _ (.inr #[(u,p,r),rfl,b,h2,by change ↥u<=c;omega]) k1)
  ·rw[I];show ap (Q0:=O) (λz=>by cases z) (λ_ Q2 hn _=>ba (hn _ _ (hK _ _ ?_)))
   clear hn hK K;nofun
   left;show#[rfl,En ni yl h3 (hK _ _ ?_)];clear hK K;nofun
   show d8 rfl rfl ?_;left;show uG  X hml zl ha3 hb3 b ∅ (k1.get _ _ e) λl S2 e2 hl2 k2=>?_
   have ho:=λx (C:x∈sd U a ↥bs u p r)=>Ed (bs:=bs) b C
   have M:(∀x∈sd U a ↥bs u p r,cG U bs x.1 x.2.1 x.2.2 i=true->gC a bs U c x.1 x.2.1 x.2.2)->gC a bs U c u p r:=Ht V cl hi R;generalize sd U a ↥bs u p r=L at e2 ho M;show#[l,L.map cW,λj Z n=>(∃P H,Z=[gV (.tup [.tup E,.tup (MR aK B bs),b0]),gV (.ref q),gV (.tup [az u,aH p,aH r]),gV (.int c),gV (.tup Yq),gV (.int i),P,H])/\(∀x∈L.take j,cG U bs x.1 x.2.1 x.2.2 i=true->gC a bs U c x.1 x.2.1 x.2.2)/\n[l]?=gV (.lst (L.map cW))/\Ka S n,rfl,#[#[_,_,rfl],(λx C=>by cases C),e2,k1.trans k2],λ_ _ _ h=>h.2.2.1,?_,?_]
   ·rintro j w Z S3 hw ⟨⟨P,H,rfl⟩,f,e3,A⟩;clear hK;rw[MD,Mv]at hw;obtain⟨x,C,rfl⟩:=hw;obtain⟨G,xl,xh⟩:=ho x (MQ C);have g:(cG U bs x.1 x.2.1 x.2.2 i=true->gC a bs U c x.1 x.2.1 x.2.2)->∀y∈L.take (j+1),cG U bs y.1 y.2.1 y.2.2 i=true->gC a bs U c y.1 y.2.1 y.2.2:=λh y hy=>by
     rw[Nd,C]at hy;rcases Na.mp hy with z|z
     ·show f y z
     ·obtain rfl:y=x:=by simpa using z
      show h
    show ab (show lH (.nm 6) (cW x) [gV (.tup [.tup E,.tup (MR aK B bs),b0]),gV (.ref q),gV (.tup [az u,aH p,aH r]),gV (.int c),gV (.tup Yq),gV (.int i),P,H] S3=gV ([gV (.tup [.tup E,.tup (MR aK B bs),b0]),gV (.ref q),gV (.tup [az u,aH p,aH r]),gV (.int c),gV (.tup Yq),gV (.int i),gV (.tup [az x.1,aH x.2.1,aH x.2.2]),H],S3)from rfl) ?_
    intro Q3 J hr3;nofun
    delta wS wT wE wA wV wG;show af #v[] rfl (af #v[] rfl (af #v[] rfl ?_))
    show mB  F V t G.gu G.gp G.gq ∅ (A.get _ _ e) λS4 D=>?_
    obtain⟨w,w1,w2,w3⟩:=sr (bs:=bs) (i:=i)  G.gp G.gq ∅
    show af (MK i) (by rw[M0];show w1) (ab (BK w2) ?_)
    delta wB;rw[w3,TY];show ap (Q0:=Q3) (λY Q5 s hr5=>?_) (λY Q5 s _=>ba (s _ _ (hK _ _ (ba (J _ _ #[#[_,_,rfl],g (λz=>by rw[z]at Y;cases Y),D.get _ _ e3,A.trans D])))))
    show st ?_;left;show ih d _ _ x.1 x.2.1 x.2.2 G ?_ ∅ ((A.trans D).get _ _ e) λw S5 hw k5=>?_
    ·have:=Ec  hi xh R Y;unfold Br at o ⊢;omega
    show aN λK2 hK2=>?_
    delta wS wT wE wV wG;rcases hw with⟨rfl,hw⟩|⟨y,rfl,y1⟩
    ·show ab (rfl) ?_;delta wB;show ap (Q0:=Q5) (λz=>by cases z) (λ_ Q6 hn6 _=>ba (hn6 _ _ (hK2 _ _ (ba (s _ _ (hK _ _ (ba (J _ _ #[#[_,_,rfl],g λ_=>hw,(D.trans k5).get _ _ e3,(A.trans D).trans k5]))))))))
    ·show ab (rfl) ?_;delta wB;show ap (Q0:=Q5) (λ_ Q6 _ hr6=>?_) (λz=>by cases z)
     show st ?_;left;show hr6 _ _ (hr5 _ _ (hr3 _ _ (k _ _ (.inr #[y,rfl,y1]) ((A.trans D).trans k5))))
   ·rintro Z S3 ⟨⟨P,H,rfl⟩,f,e3,A⟩;rw[Mr,Nl]at f;show hK _ _ (st ?_);left;show k _ _ (.inl #[rfl,M f]) A
end
abbrev L1 (a:Mz)(bs:Mq MM)(U:Mq (T×W))(c:Mz)(w:W):Prop:=(w=.non/\¬ mR a bs U c)\/∃x:Wd×Pt×Pt,w=cW x/\Cf a ↥bs U x.1 x.2.1 x.2.2/\Full U bs c x.1 x.2.1 x.2.2/\↥x.1<=c
def HG (hi:i<a)(b:j<a):Cf a n U [] (i,[]) (j,[]):=
 #[.nil,λk hk=>(by cases hk),#[#[MK _,∅],rfl,λw hw=>nomatch hw],rfl,#[#[MK _,∅],rfl,λw hw=>nomatch hw],rfl]
section
variable{defs:Mq (M2×Df)}{fuel d:Mz}{S:aa}{Q:QW}
structure Unl (defs:Mq (M2×Df)):Prop where
 fil:Fil defs
 sea:Sea defs
 behind:Is defs ("unfilled_behind": M2) 4 8 bC
 first:Is defs ("first_unfilled": M2) 2 6 fu
 put:Is defs ("put_on": M2) 1 1 mN
def jO (X:20<fuel)(L:Unl defs)(M:GoodB bs)(G:↥I=↥bs)(E:↥H=a)(T:a<=3)(C:∀g∈t,GoodW a ↥bs g/\↥g=3)(P:↥t<=100)(hc:↥bs<=c)(V:c<=↥bs+1)
  (k:∀w U b,HasD U (bz bs t)->L1 a bs U c w->Ka S b->Q (w,b)) :
  wO (aL (ar defs fuel (d+c+6)) "first_unfilled" 2 [.tup [.tup H,.tup (MR aK I bs),.tup (t.map az)],.int c] S) Q:=by
 show ay L.first rfl rfl λQ' hR=>?_
 replace k:=λw x b n o B=>hR _ _ (k w x b n o B)
 nofun
 left;show rR  X L.fil.parts L.fil.part L.fil.longer L.fil.barred M G C P λq U S1 e1 n _ k1=>hK _ _ ?_
 have cl:=Bn M C n;have hk:=λw b=>k w U b n
 have un:∀i j S Q,i<a->j<a->S[q]?=gV (.dic U)->(∀w b,LZ a bs U c [] (i,[]) (j,[]) w->Ka S b->Q (w,b))->wO (aL (ar defs fuel (d+c+5)) "unfilled_behind" 4 [.tup [.tup H,.tup (MR aK I bs),.tup (t.map az)],.ref q,.tup [.tup [],.tup [.int i,.tup []],.tup [.int j,.tup []]],.int c] S) Q:=λi j S Q hi hj e h=>uI L.fil L.sea L.behind M G E T cl V c d S Q [] (i,[]) (j,[]) (HG hi hj) (by
  show M1 (OL _ _) (by rw[MX];show MH _)) (by simp) e h
 have la:∀S Q,Q (.int a,S)->wO (qf (.tup [.tup H,.tup (MR aK I bs),.tup (t.map az)]) (.int 0) S) λp=>wO (Bi.len.fn [p.1] p.2) Q:=λS Q q=>by
  show af #v[] rfl (aC ?_)
  rw[E];show q
 generalize W.tup [.tup H,.tup (MR aK I bs),.tup (t.map az)]=R at un la;nofun
 show bN a (λi Z b=>(∃O r s,Z=[gV R,gV (.int c),gV (.ref q),O,r,s])/\(∀A f,A<i->A<=f->f<a->gC a bs U c [] (A,[]) (f,[]))/\b[q]?=gV (.dic U)/\Ka S b) rfl rfl ∅ ?_ ?_ ?_
 ·show la _ _ #[rfl,#[_,_,_,rfl],(λA f h=>by show absurd ‹_› (OI _)),e1,k1]
 ·rintro i Z S2 hi ⟨⟨O,r,s,rfl⟩,u,e2,k2⟩ Q2 hn2 hr2;have Y:i<a:=∅
  left;nofun
  show fg i a (λm Z b=>(∃r s,Z=[gV R,gV (.int c),gV (.ref q),gV (.int i),r,s])/\(∀f,i<=f->f<i+m->gC a bs U c [] (i,[]) (f,[]))/\b[q]?=gV (.dic U)/\Ka S b) rfl rfl rfl ∅ ?_ ?_ ?_
  ·show#[rfl,la _ _ #[rfl,#[_,_,rfl],(λf n o=>∅),e2,k2]]
  ·rintro m Z S3 hm ⟨⟨r,s,rfl⟩,l,J,N⟩ Q3 hn3 hr3;rw[show i+m=((i+m:Mz):MM) by omega]
   have D:i+m<a:=∅
   generalize hj:i+m=j at D;show st ?_;left;show un i j _ _ Y D J λw S4 hw k4=>?_
   nofun
   delta wS wT wE wV;rcases hw with⟨rfl,hw⟩|⟨y,rfl,y1⟩
   ·show ab rfl ?_;show ap (Q0:=Q3) (λz=>by cases z) (λ_ Q6 hn6 _=>ba (hn6 _ _ (hK _ _ (ba (hn3 _ _ #[#[_,_,rfl],λf n o=>?_,k4.get _ _ J,N.trans k4])))))
    by_cases ej:f=j
    ·rw[ej];show hw
    ·show l f n ∅
   ·show ab rfl ?_;delta wB;show ap (Q0:=Q3) (λ_ Q6 _ hr6=>?_) (λz=>by cases z)
    show st ?_;left;show hr6 _ _ (hr3 _ _ (hr2 _ _ (hk _ _ (.inr #[y,rfl,y1]) (N.trans k4))))
  ·rintro Z S3 ⟨⟨r,s,rfl⟩,l,J,N⟩;show hK _ _ (ba (hn2 _ _ #[#[_,_,_,rfl],λA f n o B=>?_,J,N]))
   by_cases ei:A=i
   ·subst ei;show l f o ∅
   ·show u A f ∅ o B
 ·rintro Z S2 ⟨⟨O,r,s,rfl⟩,u,e2,k2⟩;show hK _ _ (st ?_);left;show hk _ _ (.inl #[rfl,J8 M cl hc λi j n o B=>u i j ∅ o B]) k2
def BL (i:20<fuel)(L:Unl defs)(o:GoodB bs)(c:↥n=↥bs)(l:↥m=a)(h:a<=3)(j:∀g∈b,GoodW a ↥bs g/\↥g=3)(f:↥b<=100)
  (k:∀w U e,HasD U (bz bs b)->L1 a bs U ↥bs w->Ka S e->Q (w,e)) :
  wO (aL (ar defs fuel (d+11)) "put_on" 1 [.tup [.tup m,.tup (MR aK n bs),.tup (b.map az)]] S) Q:=by
 show ay L.put rfl rfl λp t=>?_
 change wZ _ _ mN [gV (.tup [.tup m,.tup (MR aK n bs),.tup (b.map az)])] S p;have u:↥bs<=3:=by rcases o with rfl|rfl|rfl|rfl|rfl|rfl<;>decide
 show st ?_;left;show af #v[] rfl (aC ?_)
 rw[Oq,c,QC,show d+10=(d+4-↥bs)+↥bs+6 by omega]
 show jO i L o c l h j f (by show MH _) (by show Om _ _) λw U e q r s=>t _ _ (k w U e q r s)
end
abbrev sy (n:Mz)(brk:MM->MM->MM->M9)(A D:MM×MM):M9:=decide (A=D)||(fO n).any λw=>(!brk w A.1 D.1 && !brk w A.2 D.2)||(!brk w D.1 A.1 && !brk w D.2 A.2)
abbrev Eo (n:Mz):Mq (MM×MM):=(fO n).flatMap λx=>(fO n).map λy=>(x,y)
abbrev BM (n:Mz)(bs:Mq MM)(brk:MM->MM->MM->M9)(fin:Mq (MM×MM)->M9):Mq Mz->Mq (MM×MM)->M9
 |[],C=>fin C
 |i::is,C=>(Eo n).all λA=>!(brk A.1 A.2 (bs.getD i 0)&&C.all λD=>sy n brk A D)||BM n bs brk fin is (A::C)
abbrev Ke (n:Mz)(brk:MM->MM->MM->M9)(one:M9)(C:Mq (MM×MM)):M9:=one&&(Eo n).all λD=>decide (D.1=D.2) ||!(C.all λA=>sy n brk A D)
abbrev Kf (bs:Mq MM)(brk:MM->MM->MM->M9)(one:M9):M9:=BM ↥bs bs brk (Ke ↥bs brk one) (MJ ↥bs) []
def BN {R:MM×MM->Prop}(e:∀A D,R A->R D->sy n brk A D=true)(f:∀A,R A->A∈Eo n):∀ is C,(∀i∈is,∃A,R A/\brk A.1 A.2 (bs.getD i 0)=true)->(∀D∈C,R D)->BM n bs brk fin is C=true->∃d,(∀D∈d,R D)/\fin d=true
 |[],C,_,b,h=>#[C,b,h]
 |i::is,C,hi,b,h=>by
  obtain⟨A,c,g⟩:=hi i (by simp)
  have:=MY.mp h A (f A c);rw[g,Pp,MY.mpr λD a=>e A D c (b D a)]at this
  show BN e f is _ (λj k=>hi j (by simp[k])) (λD a=>by
   rcases M5.mp a with rfl|a
   ·show c
   ·show b D a) (by simpa using this)
def GoodP.at (h:GoodP a n s p)(hk:k<s):0<=p.2.getD k 0/\p.2.getD k 0<n:=h.way _ (MQ (aq  (by rw[h.len];show hk)))
abbrev HH (a n:Mz)(U:Mq (T×W))(brk:MM->MM->MM->M9):Prop:=∀m0 b c x y z:MM,(0<=m0/\m0<a)->(0<=b/\b<a)->(0<=c/\c<a)->(0<=x/\x<n)->(0<=y/\y<n)->(0<=z/\z<n)->bd U [(m0,[]),(b,[x]),(c,[y,z])]=brk x y z
def Er (I:∀b∈bs,0<=b/\b<(↥bs))(o:HH a ↥bs U brk)(m:one=true->a=1)(h:Kf bs brk one=true):¬ mR a bs U (↥bs+1):=by
 rintro⟨Uqc,P,Q,c,w⟩;have n:∀k,k<↥Uqc->0<=(Uqc.getD k _).1/\(Uqc.getD k (0,[])).1<a:=λk hk=>c.gu.mark k _ (aq  hk)
 have q:∀k j,k<↥Uqc->j<k->0<=(Uqc.getD k _).2.getD j 0/\(Uqc.getD k (0,[])).2.getD j 0<↥bs:=λk j hk L=>c.gu.way k _ (aq  hk) _ (MQ (aq  (by rw[c.gu.len k _ (aq  hk)];show L)))
 have r:∀k l,k<l->l<↥Uqc->sy _ brk (P.2.getD k 0,Q.2.getD k 0) (P.2.getD l 0,Q.2.getD l 0)=true/\sy _ brk (P.2.getD l 0,Q.2.getD l 0) (P.2.getD k 0,Q.2.getD k 0)=true:=λk l e hl=>by
  have hk:=Oa e hl;have B:=bA.mp c.mp l hl k e;have E:=bA.mp c.mq l hl k e;have s:bL U Uqc P k l=brk ((Uqc.getD l (0,[])).2.getD k 0) (P.2.getD k 0) (P.2.getD l 0):=o _ _ _ _ _ _ (n k hk) (n l hl) c.gp.mark (q l k hl e) (c.gp.at hk) (c.gp.at hl);have t:bL U Uqc Q k l=brk ((Uqc.getD l (0,[])).2.getD k 0) (Q.2.getD k 0) (Q.2.getD l 0):=o _ _ _ _ _ _ (n k hk) (n l hl) c.gq.mark (q l k hl e) (c.gq.at hk) (c.gq.at hl);rw[B]at s;rw[E]at t;have hw:=q l k hl e;delta sy;constructor
  all_goals
   rw[Oz];show .inr (OO.mpr #[_,aM hw.1 hw.2,?_]);rw[<- s,<- t];simp
 have x:∀A D:MM×MM,(∃k<↥Uqc,A=(P.2.getD k 0,Q.2.getD k 0))->(∃k<↥Uqc,D=(P.2.getD k 0,Q.2.getD k 0))->sy ↥bs brk A D=true:=by
  rintro A D ⟨k,hk,rfl⟩ ⟨l,hl,rfl⟩;rcases TX k l with h|rfl|h
  ·show(r k l h hl).1
  ·unfold sy;simp
  ·show(r l k h hk).2
 have y:∀A:MM×MM,(∃k<↥Uqc,A=(P.2.getD k 0,Q.2.getD k 0))->A∈Eo ↥bs:=by
  rintro A ⟨k,hk,rfl⟩;have u:=c.gp.at hk;have v:=c.gq.at hk;show NM.mpr #[_,aM u.1 u.2,MN.mpr #[_,aM v.1 v.2,rfl]]
 obtain⟨C,p,d⟩:=BN  x y (MJ ↥bs) [] (λi hi=>by
  have hi:=ML.mp hi;have:=w i (by show Ot ‹_›)
  unfold cG at this;rw[M4 hi]at this;obtain⟨k,hk,J⟩:=OO.mp this;have hk:=ML.mp hk;show#[_,#[k,hk,rfl],?_];rw[<- J];show(o _ _ _ _ _ _ (n k hk) c.gp.mark c.gq.mark (c.gp.at hk) (c.gq.at hk) (I _ (MQ (aq  hi)))).symm) (λD f=>nomatch f) h
 unfold Ke at d;rw[MB]at d;have H:=m d.1;subst H;have:=w ↥bs (by show MH _)
 unfold cG at this;have M:=c.gp.mark;have N:=c.gq.mark;have z:P.1=Q.1:=∅
 have g:Bm P Q ↥Uqc=false:=by simpa using this
 unfold Bm at g;rw[z,NJ,Pp,Rw]at g;obtain⟨k,hk,hd⟩:=g;have hk:=ML.mp hk;have f:=MY.mp d.2 _ (y _ #[k,hk,rfl]);rw[Oz]at f;rcases f with f|f
 ·have:=NF f;dsimp only at this;rw[this]at hd;simp at hd
 ·rw[MY.mpr λA G=>x A _ (p A G) #[k,hk,rfl]]at f
  cases f
def jf (e:f<↥bs)(g:∀m0 h i x y:MM,bd U [(m0,[]),(h,[x]),(i,[y,bs.getD f 0])]=false):¬ mR a bs U (↥bs+1):=by
 rintro⟨Uqc,P,Q,j,d⟩;have:=d f ∅
 unfold cG at this;rw[M4 e]at this;obtain⟨k,hk,b⟩:=OO.mp this;have c:=g (Uqc.getD k (0,[])).1 P.1 Q.1 (P.2.getD k 0) (Q.2.getD k 0);unfold mC at b;rw[c]at b;cases b
def sA (n:∀m0 i l:MM,bd U [(m0,[]),(i,[0]),(l,[0,0])]=true->i=l):¬ mR a [0] U 2:=by
 rintro⟨Uqc,P,Q,d,g⟩;have z:∀{p:Pt}{k:Mz},GoodP a 1 ↥Uqc p->k<↥Uqc->p.2.getD k 0=0:=λh hk=>by
  have:=h.at hk;omega
 have f:=g 0 ∅
 have c:=g 1 ∅
 unfold cG at f c;rw[M4 #v[]]at f
 rw[Nm #v[]]at c
 obtain⟨k,hk,b⟩:=OO.mp f;have hk:=ML.mp hk;unfold mC at b;rw[z d.gp hk,z d.gq hk]at b;have m:=n _ _ _ b;have:Bm P Q ↥Uqc=true:=by
  unfold Bm;rw[m,NJ,Pp];show MY.mpr λj e=>?_
  have e:=ML.mp e;rw[z d.gp e,z d.gq e];rfl
 rw[this]at c;cases c
def BO (c:GoodB bs)(e:GoodW a ↥bs u)(hl:↥u=3)(d:t∈au):dc bs (ae bs u t)=dc bs u:=by
 obtain⟨f,b⟩:=cb.mp d;rw[gN hl,gN (by rw[aB,b]),mo c e (by rw[hl];show f) (by rw[b,hl])]
abbrev sB (bs:Mq MM)(x y z:MM):Mq (MM×MM×MM):=[(x,y,z),(y,x,bs.getD z.toNat 0),(bs.getD x.toNat 0,z,y),(z,bs.getD x.toNat 0,bs.getD y.toNat 0),(bs.getD y.toNat 0,bs.getD z.toNat 0,x),(bs.getD z.toNat 0,bs.getD y.toNat 0,bs.getD x.toNat 0)]
def kP (c:s∈au):∃t' p,p∈sB bs x y z/\ae bs (w3 t x y z) s=w3 t' p.1 p.2.1 p.2.2:=by
 obtain⟨m0,a,b⟩:=t;have c:s=[0,1,2]\/s=[0,2,1]\/s=[1,0,2]\/s=[1,2,0]\/s=[2,0,1]\/s=[2,1,0]:=by simpa [au]using c
 rcases c with rfl|rfl|rfl|rfl|rfl|rfl
 ·show#[(m0,a,b),(x,y,z),by simp[sB],rfl]
 ·show#[(m0,b,a),(y,x,bs.getD z.toNat 0),by simp[sB],rfl]
 ·show#[(a,m0,b),(bs.getD x.toNat 0,z,y),by simp[sB],rfl]
 ·show#[(a,b,m0),(z,bs.getD x.toNat 0,bs.getD y.toNat 0),by simp[sB],rfl]
 ·show#[(b,m0,a),(bs.getD y.toNat 0,bs.getD z.toNat 0,x),by simp[sB],rfl]
 ·show#[(b,a,m0),(bs.getD z.toNat 0,bs.getD y.toNat 0,bs.getD x.toNat 0),by simp[sB],rfl]
def BP (h:w3 t x y z=w3 t' a b c):x=a/\y=b/\z=c:=by
 unfold w3 at h;simp only[Uy,PQ,and_true]at h;obtain⟨_,⟨_,d⟩,_,e,f⟩:=h;show#[d,e,f]
abbrev xZ (k:JZ)(a:Mq MM):Mq MM:=cO k.1 a ↥k.1
def Et:∀k∈KT,∀a∈hZ k.1,∀x∈fO ↥k.1,∀y∈fO ↥k.1,∀z∈fO ↥k.1,∀p∈sB (xZ k a) x y z,xL (xZ k a) (k.2.1.map (kA a)) p.1 p.2.1 p.2.2=xL (xZ k a) (k.2.1.map (kA a)) x y z:=by decide +kernel
def HI:∀k∈KT,∀a∈hZ k.1,Kf (xZ k a) (xL (xZ k a) (k.2.1.map (kA a))) (decide (k.2.2=1))=true:=by decide +kernel
def uJ {P:MM->Prop}(b:∀v,P v->P (bs.getD v.toNat 0))(c:P x)(d:P y)(e:P z)(a:p∈sB bs x y z):P p.1/\P p.2.1/\P p.2.2:=by
 have a:p=(x,y,z)\/p=(y,x,bs.getD z.toNat 0)\/p=(bs.getD x.toNat 0,z,y)\/p=(z,bs.getD x.toNat 0,bs.getD y.toNat 0)\/p=(bs.getD y.toNat 0,bs.getD z.toNat 0,x)\/p=(bs.getD z.toNat 0,bs.getD y.toNat 0,bs.getD x.toNat 0):=by simpa [sB]using a
 rcases a with rfl|rfl|rfl|rfl|rfl|rfl<;>show#[?_,?_,?_]<;>first|assumption|(apply b;assumption)
def GoodB.bk (h:GoodB bs):∀v∈fO ↥bs,(0<=bs.getD v.toNat 0/\bs.getD v.toNat 0<(↥bs))/\bs.getD (bs.getD v.toNat 0).toNat 0=v:=by
 rcases h with rfl|rfl|rfl|rfl|rfl|rfl<;>decide
def HJ {l:Mq MM}(h:↥l=2):∃y w,l=[y,w]:=match l,h with
 |[y,w],_=>#[y,w,rfl]
def LK {  b:MM}:(m0<=a/\a<=b)\/(m0<=b/\b<=a)\/(a<=m0/\m0<=b)\/(a<=b/\b<=m0)\/(b<=m0/\m0<=a)\/(b<=a/\a<=m0):=∅
def x4 {a:Mz}{m0 d e   :MM}(f:0<=m0/\m0<a)(g:0<=d/\d<a)(h:0<=e/\e<a):∃s∈au,∃t p,Ris a t/\p∈sB bs x y z/\ae bs (w3 (m0,d,e) x y z) s=w3 t p.1 p.2.1 p.2.2:=by
 rcases LK    with⟨b,c⟩|⟨b,c⟩|⟨b,c⟩|⟨b,c⟩|⟨b,c⟩|⟨b,c⟩
 ·show#[[0,1,2],#v[],(m0,d,e),(x,y,z),#[f.1,b,c,h.2],by simp[sB],rfl]
 ·show#[[0,2,1],#v[],(m0,e,d),(y,x,bs.getD z.toNat 0),#[f.1,b,c,g.2],by simp[sB],rfl]
 ·show#[[1,0,2],#v[],(d,m0,e),(bs.getD x.toNat 0,z,y),#[g.1,b,c,h.2],by simp[sB],rfl]
 ·show#[[1,2,0],#v[],(d,e,m0),(z,bs.getD x.toNat 0,bs.getD y.toNat 0),#[g.1,b,c,f.2],by simp[sB],rfl]
 ·show#[[2,0,1],#v[],(e,m0,d),(bs.getD y.toNat 0,bs.getD z.toNat 0,x),#[h.1,b,c,g.2],by simp[sB],rfl]
 ·show#[[2,1,0],#v[],(e,d,m0),(bs.getD z.toNat 0,bs.getD y.toNat 0,bs.getD x.toNat 0),#[h.1,b,c,f.2],by simp[sB],rfl]
def qd (hd:HasD U (bz bs a)):bd U w=true↔w∈bz bs a:=by
 unfold bd;rw[hd.get,M8];show#[λh=>by
  obtain⟨c,b,e⟩:=MN.mp h;show eJ e▸b,λh=>MN.mpr #[w,h,rfl]]
section
variable{a:Mz}{bs:Mq MM}{ms ns:Mq M2}{gs:Mq Wd}{U:Mq (T×W)}
def x5 (B:RuleAt a bs ms ns gs)(hd:HasD U (bz bs gs))(h:AX a bs gs):¬ mR a bs U (↥bs+1):=by
 have r:=B.size.good;obtain⟨d,L,c,X,j,k,g,ham,D⟩:=h;have hn:↥bs=↥d:=by rw[g];show gL ..
 have q:=Et (d,L,c) j X k;have J:=HI (d,L,c) j X k;dsimp only[xZ]at q J;rw[<- g]at q J;rw[<- hn]at q;show Er  (λb f=>?_) ?_ (λe=>?_) J
 ·obtain⟨i,hi,e⟩:=Pu f;have:=(r.bk i (aM (by show MK _) (by show QY.mpr ‹_›))).1
  rw[M0,MG,MC hi,O1,e]at this;show this
 ·intro m0 N O x y z Q R S u w A;have V:GoodW a ↥bs (w3 (m0,N,O) x y z):=Fa Q R S u w A;rw[PM];change bd U (w3 (m0,N,O) x y z)=true↔_;rw[qd hd,<- Hq r B.mem V rfl,D];have kx:=q x (aM u.1 u.2) y (aM w.1 w.2) z (aM A.1 A.2);constructor
  ·rintro⟨Y,Z,z',m,n,o,f,t,ht,e⟩;have M:=q Y (aM m.1 m.2) Z (aM n.1 n.2) z' (aM o.1 o.2);obtain⟨s1,H,e1⟩:=i8 bs (w3 (m0,N,O) x y z);obtain⟨s2,I,e2⟩:=i8 bs (w3 t Y Z z');obtain⟨t1,p1,E,q1⟩:=kP      H;obtain⟨t2,p2,G,q2⟩:=kP      I;rw[e1,e2,q1,q2]at e;obtain⟨i1,i2,i3⟩:=BP e;rw[<- kx p1 E,i1,i2,i3,M p2 G];show f
  ·intro C;obtain⟨s,hs,t,p,l,T,e⟩:=x4     Q R S;obtain⟨r1,r2,r3⟩:=uJ (P:=λv=>0<=v/\v<↥bs) (λv W=>(r.bk v (aM W.1 W.2)).1) u w A T
   show#[p.1,p.2.1,p.2.2,r1,r2,r3,(kx p T).trans C,t,l,?_];rw[<- e,BO r V rfl hs]
 ·have:=NF e;have:=B.size.pos;omega
def BQ (hd:HasD U (bz bs gs))(h:G8 a bs gs):¬ mR a bs U (↥bs+1):=by
 obtain⟨rfl,f⟩:=h;show sA λm0 i j hw=>?_
 rw[qd hd]at hw;obtain⟨g,b,hw⟩:=NM.mp hw;obtain⟨k,rfl⟩:=f g b;obtain⟨s,c,e⟩:=MN.mp hw;have c:s=[0,1,2]\/s=[0,2,1]\/s=[1,0,2]\/s=[1,2,0]\/s=[2,0,1]\/s=[2,1,0]:=by simpa [au]using c
 have d:([(k,[]),(k,[0]),(k,[0,0])]:Wd)=[(m0,[]),(i,[0]),(j,[0,0])]:=by rcases c with rfl|rfl|rfl|rfl|rfl|rfl<;>show e
 simp only[Uy,PQ]at d;omega
def ya (q:RuleAt a bs ms ns gs)(hd:HasD U (bz bs gs))(h:AE a bs gs):¬ mR a bs U (↥bs+1):=by
 have G:=q.size.good;have I:=q.size.n3;rcases h with rfl|⟨f,Z,p,H⟩
 ·show jf  I.1 λm0 u w x y=>?_
  rw[OW];intro h;rw[qd hd]at h
  (dsimp only[bz]at h;simp at h)
 ·show jf (f:=f.toNat) ∅ λm0 u w x y=>?_
  rw[OW,p];intro h;rw[qd hd]at h;obtain⟨g,i,h⟩:=NM.mp h;obtain⟨Q,O,z,p2,d,rfl,m,b⟩:=H g i;obtain⟨s,J,e⟩:=MN.mp h;obtain⟨N,M⟩:=Q;obtain⟨P,l2⟩:=p2;have X:=d.len 0 _ rfl;have Y:=d.len 2 _ rfl;obtain rfl:M=[]:=Ov X;obtain⟨A,w2,rfl⟩:=HJ Y;have C:=d.way 1 _ rfl z (by simp)
  have D:=d.way 2 _ rfl A (by simp)
  have E:=d.way 2 _ rfl w2 (by simp)
  have n:∀v,((0<=v/\v<(↥bs:MM))/\v≠f)->(0<=bs.getD _ 0/\bs.getD _ 0<↥bs)/\bs.getD v.toNat 0≠f:=λv l=>by
   obtain⟨L,t⟩:=G.bk v (aM l.1.1 l.1.2);show#[L,λe=>?_]
   rw[e,p]at t;show l.2 t.symm
  obtain⟨s1,k,B⟩:=i8 bs _;obtain⟨t1,p1,j,R⟩:=kP      k;obtain⟨T,V,W⟩:=uJ  n #[C,m] #[D,λe=>b (by simp[e])] #[E,λe=>b (by simp[e])] j
  obtain⟨t2,p2,c,S⟩:=kP      J;obtain⟨_,_,r⟩:=uJ  n T V W c;have o:ae bs (dc bs (w3 (N,O,P) z A w2)) s=w3 (m0,u,w) x y f:=e;rw[B,R,S]at o;show r.2 (BP o).2.2
def LL (b:RuleAt a bs ms ns gs)(hd:HasD U (bz bs gs))(h:Hh a bs gs):¬ mR a bs U (↥bs+1):=by
 rcases h with h|h|h
 ·show BQ hd h
 ·show ya b hd h
 ·show x5 b hd h
end
def BR (h:HasD U (bz bs b))(p:b.Perm a):HasD U (bz bs a):=by
 have q:(bz bs b).Perm (bz bs a):=p.flatMap_right _;show#[λt=>(h.iff t).trans (q.map cJ).mem_iff,by rw[<- q.length_eq];show h.len]
section
variable{a:Mz}{bs:Mq MM}{U:Mq (T×W)}{u:Wd}{p q:Pt}
def sC (g:GoodB bs)(d:Cf a ↥bs U u p q)(l:Full U bs ↥bs u p q)(h:v<↥bs):∃k<↥u,bL U (u++[p]) (q.1,q.2++[(v:MM)]) k ↥u=true:=by
 obtain⟨b,e,m,n⟩:=g.rng v h;have f:bs.getD v 0=b:=getD_some e;have hi:bs.getD b.toNat 0=(v:MM):=by
  have:=g.inv v h
  rwa [f]at this
 obtain⟨k,hk,c⟩:=(fF ∅).mp (l b.toNat ∅)
 show#[k,hk,?_];rw[hi]at c;unfold bL;rw[aF hk,bj];have i:(q.2++[(v:MM)]).getD k 0=q.2.getD k 0:=bm (by rw[d.gq.len];show hk)
 have j:(q.2++[(v:MM)]).getD ↥u 0=v:=by
  rw[MG,Nt (by rw[d.gq.len];show MH _),d.gq.len,O0];rfl
 rw[i,j];show c
def sD (h:GoodB bs)(f:Cf a ↥bs U u p q)(g:Full U bs ↥bs u p q)(c:v<↥bs):dC U (u++[p]++[(q.1,q.2++[(v:MM)])])=false:=by
 cases e:dC U _ with
 |false=>rfl
 |true=>
  have i:(q.1,q.2++[(v:MM)])∈iE U (u++[p]) ↥bs q:=by
   show NP.mpr #[MN.mpr #[v,ML.mpr c,rfl],e]
  obtain⟨w,_,_,d⟩:=jL.mp i;obtain⟨k,hk,b⟩:=sC h f g c;rw[d k hk]at b;cases b
def BS (f:GoodB bs)(c:Cf a ↥bs U u p q)(d:Full U bs ↥bs u p q)(g:v<↥bs):cR U (u++[p]++[(q.1,q.2++[(v:MM)])]) (↥u+1) ((u++[p]++[(q.1,q.2++[(v:MM)])]).getD (↥u+1) (0,[]))=false:=by
 have h:(u++[p]).length=↥u+1:=by rw[Mt];rfl
 rw[<- h,bj,OW];intro e;obtain⟨k,hk,b⟩:=sC f c d g;have:=bA.mp e _ ∅ k hk
 dsimp only[bL]at this b;rw[aF ∅,aF (show ↥u<(u++[p]).length by omega),b]at this
 cases this
def yb (d:GoodB bs)(c:¬ mR a bs U (↥bs+1))(b:Cf a ↥bs U u p q)(e:Full U bs ↥bs u p q):p=q:=
 sf c d b.gu b.su b.gp b.mp b.gq b.mq λv f=>sD d b e f
def yc (n:Mz):aG (n+1) (MJ n)=[n]:=by
 rw[oG (λh=>NZ n (ML.mp h))]
 have:aG n (MJ n)=[]:=by
  rw[List.eq_nil_iff_forall_not_mem];intro x c;obtain⟨a,b⟩:=jb.mp c;show b (ML.mpr a)
 rw[this];rfl
def Eu (f:GoodB bs)(b:Cf a ↥bs U u p q):LayA a bs U (u++[p]) (u++[p]) (iD ↥u):=by
 have c:=b.gp.snoc b.gu;have e:=Std.both.mpr #[b.su,b.mp];have hl:↥u<=(u++[p]).length:=by rw[Mt];show Om _ _
 have d:(MJ _).length=↥u:=MX ..;rw[sn];show#[c,e,c,e,?_,?_,?_]
 ·rw[uF d];show oF hl
 ·rw[uE];show oF hl
 ·rw[uF d,uE]
def HK (g:GoodB bs)(b:Cf a ↥bs U u p q)(f:Full U bs ↥bs u p q)(e:p=q):Bx U bs (u++[p]) (u++[p]) (iD ↥u) ↥u ↥u:=by
 have d:=b.gp.snoc b.gu;have hl:↥u<=(u++[p]).length:=by rw[Mt];omega
 have i:(MJ _).length=↥u:=MX ..;have j:(u++[p]).length=↥u+1:=by rw[Mt];rfl
 have c:aO bs (u++[p]) (MJ ↥u) ↥u=p:=by
  rw[jE d ∅,bj]
 rw[sn];unfold Bx;rw[uE,uF i,j,yc];show#[rfl,rfl,λv h=>?_]
 rw[mD d _ hl,List.take_left,c];have:=sD g b f h;rw[<- e]at this;show this
def Ev (m:GoodB bs)(j:Cf a ↥bs U u p q)(l:Full U bs ↥bs u p q)(e:p=q)(h:LaidOk a bs U (u++[p]) (u++[p]) (iD ↥u) w c):w=u++[p]/\c=MJ (↥u+1):=by
 obtain⟨f,g⟩:=h.single _ _ (HK m j l e);show#[f,?_];have n:(u++[p]).length=↥u+1:=by rw[Mt];rfl
 have b:↥c=↥u+1:=by rw[h.len,n]
 show On (by rw[b,MX]) λk i o=>?_
 rw[Qu];have hk:c[k]=c.getD k 0:=by rw[MG,MC i];rfl
 rw[hk]
 by_cases d:k=↥u
 ·rw[d];show g
 ·show h.pairs (k,k) (MN.mpr #[k,ML.mpr ∅,rfl])
end
abbrev ce:Ss:=
 #v[.loop (.nm 5) (.rng #v[.bi .len #v[.ix (.v 0) (.c (.int 1))]]) #v[.ite (.own "_law_last_may" 4 #v[.v 0,.v 1,.op .add (.v 2) (.tup #v[.v 3,.tup #v[.ix (.v 4) (.c (.int 0)),.op .add (.ix (.v 4) (.c (.int 1))) (.tup #v[.v 5])]]),.op .add (.bi .len #v[.v 2]) (.c (.int 1))]) #v[.ret (.c (.bl true))] .nil],.ret (.c (.bl false))]
abbrev kQ:Ss:=
 #v[.set 1 (.own "_law_flow" 1 #v[.v 0]),.set 2 (.own "_law_laying_rule" 1 #v[.v 1]),.set 3 (.own "_law_bad" 1 #v[.v 2]),.asg [4,5,6] (.own "_law_share" 4 #v[.v 1,.v 2,.v 3,.c (.int 9)]),.asg [7,8] (.own "laid" 4 #v[.v 2,.v 4,.v 5,.v 6]),.set 9 (.own "put_on" 1 #v[.v 2]),.ite (.cmp .is (.v 9) (.c .non)) #v[.set 10 (.comp (.v 2) (.tp [1,2]) (.seq (.v 6)) .nil [td,td,td]),.set 11 (.comp (.ix (.v 2) (.v 1)) (.nm 1) (.rng #v[.bi .len #v[.v 5]]) #v[.cmp .notin (.v 1) (.v 3)] [td,td,gV 8,gV 10]),.ret (.and (.cmp .eq (.v 11) (.bi .list #v[.bi .range #v[.bi .len #v[.v 4],.bi .len #v[.v 7]]])) (.cmp .eq (.bi .len #v[.v 7]) (.op .sub (.op .add (.bi .len #v[.v 4]) (.bi .len #v[.v 5])) (.bi .len #v[.v 6]))))] .nil,.asg [12,13,14] (.v 9),.ite (.or (.cmp .ne (.v 13) (.v 14)) (.or (.own "_law_goes_apart" 5 #v[.v 2,.v 3,.v 12,.v 13,.v 14]) (.not (.own "_law_may" 3 #v[.v 2,.v 3,.op .add (.v 12) (.tup #v[.v 13])])))) #v[.ret (.c (.bl false))] .nil,.set 15 (.bi .tuple #v[.comp (.tup #v[.v 1,.v 1]) (.nm 1) (.rng #v[.bi .len #v[.v 12]]) .nil [td,td]]),.set 16 (.tup #v[.op .add (.v 12) (.tup #v[.v 13]),.bi .tuple #v[.bi .range #v[.op .add (.bi .len #v[.v 12]) (.c (.int 1))]]]),.ret (.cmp .eq (.own "laid" 4 #v[.v 2,.op .add (.v 12) (.tup #v[.v 13]),.op .add (.v 12) (.tup #v[.v 14]),.v 15]) (.v 16))]
structure Lw37 (defs:Mq (M2×Df)):Prop where
 gen:Gen defs
 flow:Is defs ("_law_flow": M2) 1 1 iB
 bad:Is defs ("_law_bad": M2) 1 4 jG
 sh:ShP defs
 lay:LayP defs
 unl:Unl defs
 last:Is defs ("_law_last_may": M2) 4 8 bZ
 may:Is defs ("_law_may": M2) 3 4 jN
 apart:Is defs ("_law_goes_apart": M2) 5 6 ce
 law:Is defs ("law": M2) 1 17 kQ
def Ew (a b:Mz)(h:a<=b):yZ a ((b)-(a:MM)).toNat=ac (PB a (b-a)):=by
 unfold yZ ac;rw[show(b-(a:MM)).toNat=b-a by omega,List.range'_eq_map_range,Nj]
 show Nw λk _=>by
  change W.int _=W.int _;rw[Int.natCast_add]
def HL (h:wE M e Z S λp=>Q ([p.1],p.2)):wA M #v[e] Z S Q:=by
 show h
def HM (h:wE M a Z S λp=>wE M b Z p.2 λq=>Q ([p.1,q.1],q.2)):wA M #v[a,b] Z S Q:=by
 show h
def Ff {Q:QW}(h:wA M es Z S λq=>wO (b.fn q.1 q.2) Q):wE M (.bi b es) Z S Q:=by
 show h
def HN {Q:QW}(f:∀Q:QW,Q (x,S)->wE M a Z S Q)(g:∀Q:QW,Q (y,S)->wE M d Z S Q)(e:b.fn [x,y] S=gV (z,S1))(h:wO (c.fn [z] S1) Q):wE M (.bi c #v[.bi b #v[a,d]]) Z S Q:=by
 show Ff (HL (Ff (HM (f _ (g _ ?_)))));rw[e];show h
def uK (c:a<=b)(m:b<=1000)(g:∀Q:QW,Q (.int (a:Mz),S)->wE M d Z S Q)(i:∀Q:QW,Q (.int b,S)->wE M e Z S Q)(k:∀ t S',S'[t]?=gV (.lst (ac (PB a (b-a))))->Ka S S'->Q (.ref t,S')):wE M (.bi .list #v[.bi .range #v[d,e]]) Z S Q:=by
 have f:Bi.range.fn [.int a,.int b] S=gV (.ref ↥S,S++[.rng a b]):=by
  revert Bi.fn jm;rw[M4 #[∅,∅,∅,∅]]
 have h:wO (Bi.list.fn [.ref ↥S] (S++[O.rng a b])) Q:=by
  show ab (a:=(.ref _,S++[O.rng a b]++[.lst _])) ?_ (k _ _ ag (Ka.push.trans .push));have j:o5 (S++[O.rng a b]) ↥S=gV ((a:MM),(b:MM)):=by simp[o5]
  have l:eX [.ref ↥S] (S++[O.rng a b])=gV (.ref (S++[O.rng a b]).length,S++[O.rng a b]++[.lst (ac (PB a (b-a)))]):=by
   revert eX j;rw[M4 #[∅,∅,∅,∅,by rw[NT];omega],Ew a b c]
  revert Bi.fn rq l
 show HN g i f h
def HP (a:S[i]?=gV (.lst (ac xs)))(b:S[j]?=gV (.lst (ac ys)))(e:xs=ys):bx .eq (.ref i) (.ref j) S=gV (.bl true,S):=by
 subst e;show(ie S _ _ _).map _=_;rw[ow]at a b;change (match mP S i,mP S j with
  |some xs,gV ys=>if ↥xs=↥ys then eV (ie S 19) xs ys else gV false
  |_,_=>td).map _=_
 simp only[bV a,bV b,gM];rfl
section
variable{defs:Mq (M2×Df)}{fuel d:Mz}{S:aa}{Q:QW}
def HQ (j:Is defs ("_law_last_may") 4 8 bZ)(C:Is defs ("_law_goes_apart") 5 6 ce)(A:GoodB bs)(x:↥N=↥bs)(c:Cf a ↥bs U u p b)(w:Full U bs ↥bs u p b)(B:↥bs<=3)(D:↥u<=800)(e:S[q]?=gV (.dic U))(k:Q (.bl false,S)) :
  wO (aL (ar defs fuel (d+2)) "_law_goes_apart" 5 [.tup [m0,.tup N,b0],.ref q,az u,aH p,aH b] S) Q:=by
 show ay C rfl rfl λn y=>?_
 replace k:=y _ _ k;have G:(u.map aH).length=↥u:=Mr ..;change wZ _ _ ce [gV (.tup [m0,.tup N,b0]),gV (.ref q),gV (az u),gV (aH p),gV (aH b),td] S n;nofun
 show bN ↥bs (λi Z r=>(∃f,Z=[gV (.tup [m0,.tup N,b0]),gV (.ref q),gV (az u),gV (aH p),gV (aH b),f])/\r=S) rfl rfl ∅ ?_ ?_ ?_
 ·left;show af #v[] rfl (aC ?_)
  rw[x];show#[rfl,#[_,rfl],rfl]
 ·rintro i Z S1 hi ⟨⟨f,rfl⟩,rfl⟩ o l _;have g:i<↥bs:=by show QY.mp ‹_›
  left;nofun
  delta wS wT wE wA wV wG;show af #v[] rfl (af #v[] rfl ?_)
  show ab (cg (by rw[Mt,Mr,c.gq.len];show jC (by revert Ng;omega))) ?_
  have s:W.tup [.int b.1,.tup (b.2.map W.int++[.int i])]=aH (b.1,b.2++[(i:MM)]):=by unfold aH;rw[MZ];rfl
  rw[s];show ab (show gP .add (az u) (.tup [aH p,aH (b.1,b.2++[(i:MM)])]) S1=gV (az (u++[p]++[(b.1,b.2++[(i:MM)])]),S1) by
   unfold az;show(cg (by rw[Mt,Mr];show jC (by change _+2<=_;omega))).trans ?_
   rw[MZ,MZ,N7];rfl) ?_
  show aC (ab g9 ?_);rw[G,show(↥u+1)=((↥u+1):MM) by show rfl]
  have t:GoodW a ↥bs (u++[p]++[(b.1,b.2++[(i:MM)])]):=(c.gp.snoc c.gu).snoc c.gq.mark (by rw[Mt,Mt,c.gq.len];rfl) λz E=>by
   rcases Na.mp E with h|h
   ·show c.gq.way z h
   ·rw[MS.mp h];omega
  show mK  j t (by rw[Mt,Mt];show ON _) (by rw[Mt,Mt];show _+1+1<=_;omega) e ?_
  rw[BS A c w g];show ab rfl ?_;show ap (Q0:=o) (λz=>by cases z) (λ_ H m _=>ba (m _ _ (hK _ _ (ba (l _ _ #[#[_,rfl],rfl])))))
 ·rintro Z S1 ⟨⟨f,rfl⟩,rfl⟩;show hK _ _ (st ?_);left;show k
end
def Kg (h:∀t,(bn U t).isSome=(bn U' t).isSome)(b:Cf a ↥bs U u p q)(e:Full U bs c u p q):Cf a ↥bs U' u p q/\Full U' bs c u p q:=by
 have d:∀p ,cR U u _ p=true->cR _ u ↥u p=true:=λp l=>bA.mpr λq g i hi=>by
  have:=bA.mp l q g i hi;unfold bL at this ⊢;rw[<- h];show this
 show#[#[b.gu,λk hk j f i hi=>?_,b.gp,d p b.mp,b.gq,d q b.mq],λi hi=>?_]
 ·have:=b.su k hk j f i hi;unfold cF at this ⊢;rw[<- h];show this
 ·have:=e i hi;unfold cG bd at this ⊢;simp only[<- h];show this
section
variable{defs:Mq (M2×Df)}{fuel d:Mz}
def BU (hfu:50<fuel)(L:Lw37 defs){zs:Mq MM}:∃n,ar defs fuel (d+12) "law" [.ref 0] [.fro (zs.map W.int)]=gV (.bl true,n):=by
 suffices h:wO (aL (ar defs fuel (d+12)) "law" 1 [.ref 0] [.fro (zs.map W.int)]) (λp=>p.1=.bl true) by
  obtain⟨⟨v,n⟩,e,q⟩:=bR h;cases(show v=.bl true from q)
  show#[n,e]
 have G:=L.gen;show ay L.law rfl rfl λQ' hR=>?_
 change wZ _ _ kQ [gV (.ref 0),td,td,td,td,td,td,td,td,td,td,td,td,td,td,td,td] [.fro (zs.map W.int)] Q';unfold kQ;nofun
 left;show Hm  L.flow  rfl λr S1 _ f1=>hK _ _ ?_
 clear hK K;nofun
 left;show AZ  ∅ G f1 λw S2 hw f2 _=>hK _ _ ?_
 clear hK K f1;obtain⟨a,bs,ms,ns,f,rfl,C,M⟩:=hw;have s:=C.size.good;have l:=C.nl;have hml:=C.ml;have hpos:=C.size.pos;have ha3:=C.size.a3;have H:↥bs<=3:=by rcases s with rfl|rfl|rfl|rfl|rfl|rfl<;>decide
 have pm:(hX f).Perm f:=zn;have k:∀g∈hX f,GoodW a ↥bs g/\↥g=3:=λg hg=>oB s (C.mem g (pm.mem_iff.mp hg))
 have x:(hX f).length<=100:=by
  have h1:=cM f _ C.nd C.mem;have h2:=pT ⇑C;rw[pm.length_eq];omega
 have I:∀U:Mq (T×W),HasD U (bz bs (hX f))->¬ mR a bs U (↥bs+1):=λU h=>LL C (BR h pm) M
 clear C pm M;unfold d7;generalize hX f=gs at k x I;clear f;have ml:(ms.map W.str).length=a:=by rw[Mr,hml]
 have zl:(MR aK ns bs).length=↥bs:=by rw[Oq,l];omega
 nofun
 left;show J4  G L.bad s l k x λq U S3 e3 h3 hq k3=>hK _ _ ?_
 clear hK K;have f3:=f2.ka k3;have hqr:q≠r:=by have:=f2.lt;omega
 clear k3 hq f2;have cl:=Bn s k h3;nofun
 left;show BG  L.sh ∅ ml hpos ha3 s l H cl e3 hqr f3 λu o b S4 A hu ho f4 k4=>?_
 have e4:=k4.get _ _ hqr e3;delta wU;generalize i:W.tup [.tup (ms.map W.str),.tup (MR aK ns bs),.tup (gs.map az)]=RR;show ab (show dZ [4,5,6] [az u,az o,.tup (b.map ic)] [gV (.ref 0),gV (.ref r),gV RR,gV (.ref q),td,td,td,td,td,td,td,td,td,td,td,td,td]=gV [gV (.ref 0),gV (.ref r),gV RR,gV (.ref q),gV (az u),gV (az o),gV (.tup (b.map ic)),td,td,td,td,td,td,td,td,td,td]from rfl) ?_
 show hK _ _ ?_;clear hK K;have hL0:↥b<=9:=by
  have:=jM A.op;rw[Mr]at this;show M1 ‹_› ‹_›
 have hL1:↥b<=↥o:=by
  have:=jM A.oj
  rwa [Mr]at this
 nofun
 left;subst i;show BE  L.lay ∅ s l H k x I h3 A ∅ λw J S5 ok hwl k5=>?_
 have e5:=k5.get _ _ e4;delta wU;generalize i:W.tup [.tup (ms.map W.str),.tup (MR aK ns bs),.tup (gs.map az)]=RR;show ab (show dZ [7,8] [az w,.tup (ac J)] [gV (.ref 0),gV (.ref r),gV RR,gV (.ref q),gV (az u),gV (az o),gV (.tup (b.map ic)),td,td,td,td,td,td,td,td,td,td]=gV [gV (.ref 0),gV (.ref r),gV RR,gV (.ref q),gV (az u),gV (az o),gV (.tup (b.map ic)),gV (az w),gV (.tup (ac J)),td,td,td,td,td,td,td,td]from rfl) ?_
 show hK _ _ ?_;clear hK K;nofun
 left;subst i;show BL  ∅ L.unl s l ml ha3 k x λw9 kv2 X h6 hf6 k6=>hK _ _ ?_
 clear hK K;generalize i:W.tup [.tup (ms.map W.str),.tup (MR aK ns bs),.tup (gs.map az)]=RR;have e6:=k6.get _ _ e5;have ul:(u.map aH).length=↥u:=Mr ..;have ol:(o.map aH).length=↥o:=Mr ..;have wl:(w.map aH).length=↥w:=Mr ..;have ll:(b.map ic).length=↥b:=Mr ..;have hw18:↥u<=↥w:=by
  obtain⟨t,e⟩:=ok.ext;rw[e,Mt];omega
 rcases hf6 with⟨rfl,hun⟩|⟨⟨base,p,p'⟩,rfl,y,hF,hbl⟩
 ·obtain⟨fr1,fr2⟩:=ok.fresh.resolve_left λz=>hun (wn (λt=>by rw[h3.get,h6.get]) z)
  nofun
  delta wS wT wE wA wV wG;show ab (show bx .is .non .non X=gV (.bl true,X)from rfl) ?_
  delta wB;show ap (Q0:=Q') (λ_ Q2 _ hr2=>?_) (λz=>by cases z)
  show st ?_;left;show HE b (λp=>.int (p.2)) (λp=>.int (p.1)) (λ_=>true) (λp=>.int (p.1)) [] rfl rfl rfl rfl ∅ #[rfl,.refl] (λp hp D k7=>?_) λD k7=>?_
  ·delta eS wC wE wA wV wG;show#[λ_=>#[rfl,rfl,.refl],λz=>by cases z]
  rw[aX];have Y:(D++[O.lst (b.map λp=>W.int (p.1))])[↥D]?=gV (.lst (ac (b.map (·.1)))):=by
   unfold ac;rw[Nj];show ag
  change wZ _ _ _ _ (D++[O.lst (b.map λp=>W.int (p.1))]) Q2
  generalize D++[O.lst (b.map λp=>W.int (p.1))]=S8 at Y ⊢
  generalize ↥D=l8 at Y ⊢;left;show st ?_;left;show ee ↥o (λj=>decide (j∉b.map (·.1))) (λj=>.int (J.getD j 0)) [gV (.tup (ac J)),gV (.ref l8)] rfl rfl rfl rfl ∅ ?_ (λj hj N k9=>?_) λN k9=>?_
  ·left;show aC #[?_,.refl];rw[ol]
  ·delta eS wC wT wE wA wV wG;show ab (mI (k9.get _ _ Y)) ?_;delta wB;show#[λz=>af (MK _) (by rw[M0];show gJ (aq  (by rw[ok.len];show hj))) #[z,rfl,.refl],λz=>#[z,.refl]]
  have R:(N++[O.lst (((MJ ↥o).filter λj=>decide (j∉b.map (·.1))).map λj=>W.int (J.getD j 0))])[↥N]?=gV (.lst (ac (PB ↥u (↥w-↥u)))):=by
   rw[<- fr1];unfold ac aG;rw[Nj];show ag
  change wZ _ _ _ _ (N++[O.lst (((MJ ↥o).filter λj=>decide (j∉b.map (·.1))).map λj=>W.int (J.getD j 0))]) Q2
  generalize N++[O.lst (((MJ ↥o).filter λj=>decide (j∉b.map (·.1))).map λj=>W.int (J.getD j 0))]=S10 at R ⊢
  generalize ↥N=l10 at R ⊢;left;have hx:∀Z S Q,(∀P:W->Prop,P (az u)->wV Z 4 P)->(∀P:W->Prop,P (az w)->wV Z 7 P)->(∀t n,n[t]?=gV (.lst (ac (PB ↥u (↥w-↥u))))->Ka S n->Q (.ref t,n))->wE (ar defs fuel (d+11)) (.bi .list #v[.bi .range #v[.bi .len #v[.v 4],.bi .len #v[.v 7]]]) Z S Q:=λZ S Q v4 v7 h=>uK hw18 ∅ (λQ q=>by
   left;show v4 _ (aC ?_);rw[ul];show q) (λQ q=>by
   left;show v7 _ (aC ?_);rw[wl];show q) h
  generalize E.bi .list #v[.bi .range #v[.bi .len #v[.v 4],.bi .len #v[.v 7]]]=c at hx ⊢;have hA:∀Z Q,(∀P:W->Prop,P (.ref l10)->wV Z 11 P)->(∀P:W->Prop,P (az u)->wV Z 4 P)->(∀P:W->Prop,P (az w)->wV Z 7 P)->(∀n,Q (.bl true,n))->wE (ar defs fuel (d+11)) (.cmp .eq (.v 11) c) Z S10 Q:=λZ Q v11 v4 v7 h=>by
   left;show v11 _ (hx _ _ _ v4 v7 λt S11 e11 k11=>?_)
   show ab (HP (k11.get _ _ R) e11 rfl) (h _)
  have hB:∀Z S Q,(∀P:W->Prop,P (az u)->wV Z 4 P)->(∀P:W->Prop,P (az o)->wV Z 5 P)->(∀P:W->Prop,P (.tup (b.map ic))->wV Z 6 P)->(∀P:W->Prop,P (az w)->wV Z 7 P)->Q (.bl true,S)->wE (ar defs fuel (d+11)) (.cmp .eq (.bi .len #v[.v 7]) (.op .sub (.op .add (.bi .len #v[.v 4]) (.bi .len #v[.v 5])) (.bi .len #v[.v 6]))) Z S Q:=λZ S Q v4 v5 v6 v7 h=>by
   left;show v7 _ (aC (v4 _ (aC (v5 _ (aC (ab g9 (v6 _ (aC (ab iX ?_)))))))));rw[wl,ul,ol,ll];show ab mY ?_;rw[show(↥w==↥u+↥o-(↥b:MM))=true from by rw[beq_iff_eq];omega]
   show h
  generalize E.cmp .eq (.v 11) c=cA at hA ⊢;generalize E.cmp .eq (.bi .len #v[.v 7]) (.op .sub (.op .add (.bi .len #v[.v 4]) (.bi .len #v[.v 5])) (.bi .len #v[.v 6]))=cB at hB ⊢;show st ?_;delta wS;delta wE;show hA _ _ (λP h=>h) (λP h=>h) (λP h=>h) λS11=>?_
  delta wB;show#[λ_=>?_,λz=>by cases z]
  show hB _ _ _ (λP h=>h) (λP h=>h) (λP h=>h) (λP h=>h) ?_
  show hr2 _ _ (hR _ _ rfl)
 ·obtain⟨y,hF⟩:=Kg (U':=U) (λt=>by rw[h6.get,h3.get]) y hF
  have V:p=p':=yb s (I U h3) y hF;have hbl:↥base<=↥bs:=hbl;dsimp only at y hF;nofun
  delta wS wT wE wA wV wG;show ab (show bx .is (cW (base,p,p')) .non X=gV (.bl false,X)from rfl) ?_
  delta wB;show ap (Q0:=Q') (λz=>by cases z) (λ_ Q2 B _=>ba (B _ _ (hK _ _ ?_)))
  clear hK B K;nofun
  left;delta cW;delta wU;show ab (show dZ [12,13,14] [az base,aH p,aH p'] [gV (.ref 0),gV (.ref r),gV RR,gV (.ref q),gV (az u),gV (az o),gV (.tup (b.map ic)),gV (az w),gV (.tup (ac J)),gV (.tup [az base,aH p,aH p']),td,td,td,td,td,td,td]=gV [gV (.ref 0),gV (.ref r),gV RR,gV (.ref q),gV (az u),gV (az o),gV (.tup (b.map ic)),gV (az w),gV (.tup (ac J)),gV (.tup [az base,aH p,aH p']),td,td,gV (az base),gV (aH p),gV (aH p'),td,td]from rfl) ?_
  show hK _ _ ?_;clear hK K;have bl:(base.map aH).length=↥base:=Mr ..;nofun
  delta wS wT wE wA wV wG;show ab Fe ?_;rw[NB V];delta wB;show#[λz=>(by cases z),λ_=>?_]
  subst i;show HQ  L.last L.apart s zl y hF H ∅ e6 ?_
  show ab (show eW X (.bl false)=gV false from rfl) ?_
  show#[λz=>(by cases z),λ_=>?_]
  show ab (dN   ∅) ?_
  show xX  L.last L.may (y.gp.snoc y.gu) (by rw[Mt];show _+1<=_;omega) e6 (Std.both.mpr #[y.su,y.mp]) ?_
  show ab (show eW X (.bl true)=gV true from rfl) ?_
  show ap (Q0:=Q') (λz=>by cases z) (λ_ Q2 B _=>ba (B _ _ (hK _ _ ?_)))
  clear hK B K;generalize i:W.tup [.tup (ms.map W.str),.tup (MR aK ns bs),.tup (gs.map az)]=RR;show st ?_;delta wS wE wA;show ee ↥base (λ_=>true) (λj=>ic (j,j)) [] rfl rfl rfl rfl ∅ ?_ (λj hj D k7=>?_) λD k7=>?_
  ·left;show aC #[by rw[bl],.refl]
  ·delta eS wC wE wA wV wG;show#[λ_=>#[rfl,rfl,.refl],λz=>by cases z]
  rw[aX];show cH ag ?_;have Y:=(k7.trans (Ka.push (o:=O.lst ((MJ ↥base).map λj=>ic (j,j))))).get _ _ e6
  generalize D++[O.lst ((MJ ↥base).map λj=>ic (j,j))]=S8 at Y ⊢
  have et:((MJ ↥base).map λj=>ic (j,j))=(iD ↥base).map ic:=by
   unfold iD;rw[Nj];rfl
  rw[et];generalize hPP:W.tup ((iD ↥base).map ic)=PP;have hx:∀Z S Q,(∀P:W->Prop,P (az base)->wV Z 12 P)->(∀n,Ka S n->Q (.tup (ac (MJ (↥base+1))),n))->wE (ar defs fuel (d+11)) (.bi .tuple #v[.bi .range #v[.op .add (.bi .len #v[.v 12]) (.c (.int 1))]]) Z S Q:=λZ S Q hv h=>oy (m:=↥base+1) ∅ (λQ q=>by
   left;show hv _ (aC (ab g9 ?_));rw[bl];show q) ∅ h
  generalize E.bi .tuple #v[.bi .range #v[.op .add (.bi .len #v[.v 12]) (.c (.int 1))]]=c at hx ⊢;left;show st ?_;left;show ab (dN   ∅) ?_
  show hx _ _ _ (λP h=>h) λN k9=>?_
  have e9:=k9.get _ _ Y;left;show st ?_;left;show ab (dN   ∅) (ab (dN   ∅) ?_)
  subst i;subst hPP;rw[<- V];have l1:(base++[p]).length=↥base+1:=by rw[Mt];rfl
  show BE  L.lay ∅ s l H k x I h3 (Eu s y) ∅ λw2 pl2 S10 ok2 _ k10=>?_
  obtain⟨a1,a2⟩:=Ev s y hF V ok2;show ab (HF a1 a2) ?_;show hR _ _ rfl
end
abbrev Fg:Df:=#[["_law_script"],["_law_script","_law_flow_here","_law_rule","_law_bad_here","_law_one","_law_other","_law_pairs","_law_world_here","_law_places","_law_found","_law_taken","_law_free","_law_base","_law_first","_law_last","_law_same_base","_law_due"],kQ]
noncomputable abbrev Tw:=M2×Mz×Df×Mz
noncomputable abbrev tw (x:M2)(i:Mz)(d:Df)(a:Mz):Tw:=(x,i,d,a)
abbrev TL:Mq Tw:=[tw "is_whole" 5 #[["thing"],["thing"],mF] 72,tw "is_tuple_of" 6 #[["thing","size"],["thing","size"],ib] 79,tw "is_numbers" 7 #[["thing","size"],["thing","size"],jc] 84,tw "way" 9 #[["rule","world","i","j"],["rule","world","i","j"],vV] 91,tw "part" 11 #[["rule","world","points"],["rule","world","points"],iC] 96,tw "point_over" 12 #[["rule","world","ahead","point"],["rule","world","ahead","point"],b8] 101,tw "longer_orders" 13 #[["orders","size"],["orders","size","longer","order"],bS] 106,tw "back" 15 #[["rule","way"],["rule","way"],pZ] 113,tw "barred_threes" 17 #[["rule"],["rule","orders","barred","figure","order"],cy] 120,tw "three_at" 18 #[["world","i","j","k"],["world","i","j","k","one","two"],bQ] 127,tw "first_bar" 19 #[["barred","world"],["barred","world","last","point"],be] 134,tw "wishes_over" 20 #[["rule","barred","world"],["rule","barred","world","found","mark","heads","size"],cr] 139,tw "longer_wishes" 21 #[["rule","heads"],["rule","heads","longer","mark","ways"],cz] 144,tw "all_bars" 23 #[["rule","barred","base","one","other"],["rule","barred","base","one","other","bars"],my] 149,tw "with_both" 24 #[["rule","base","one","other","number"],["rule","base","one","other","number"],gA] 156,tw "same_bar" 25 #[["one","other"],["one","other","apart"],eg] 161,tw "put_on" 27 #[["rule"],["rule"],mN] 168,tw "first_unfilled" 28 #[["rule","counted"],["rule","counted","barred","mark","other","found"],fu] 175,tw "unfilled_behind" 29 #[["rule","barred","tried","counted"],["rule","barred","tried","counted","bars","place","longer","found"],bC] 182,tw "longer_by_a_point" 30 #[["rule","barred","tried"],["rule","barred","tried","longer","point","base","others","one"],bE] 187,tw "longer_by_a_way" 31 #[["rule","barred","base","wish"],["rule","barred","base","wish","longer"],bB] 192,tw "laid" 33 #[["rule","one","other","pairs"],["rule","one","other","pairs","barred","order","world","places","number","wish","spread"],p8] 197,tw "share_part" 34 #[["rule","one","other","pairs"],["rule","one","other","pairs","ours","theirs"],dM] 202,tw "are_points" 35 #[["world","numbers"],["world","numbers"],jd] 207,tw "spread_wish" 36 #[["rule","barred","world","points","wish","order"],["rule","barred","world","points","wish","order","base","number","rest","there","fellow"],dq] 212,tw "first_filling" 37 #[["barred","base","wish","order"],["barred","base","wish","order","number"],fN] 219,tw "place_of" 38 #[["rule","world","spread","number"],["rule","world","spread","number","there"],fH] 224,tw "point_behind" 39 #[["spread"],["spread","ways"],gD] 229,tw "_law_flow" 41 #[["_law_script"],["_law_script"],iB] 236,tw "_law_pick" 42 #[["_law_flow_here","_law_many"],["_law_flow_here","_law_many","_law_cell","_law_digit"],db] 243,tw "_law_shuffled" 43 #[["_law_flow_here","_law_things"],["_law_flow_here","_law_things","_law_left","_law_told"],bJ] 250,tw "_law_names" 44 #[["_law_flow_here","_law_many"],["_law_flow_here","_law_many"],j7] 255,tw "_law_between" 45 #[["_law_rule","_law_world_here","_law_i","_law_j"],["_law_rule","_law_world_here","_law_i","_law_j"],di] 262,tw "_law_part" 46 #[["_law_rule","_law_world_here","_law_points"],["_law_rule","_law_world_here","_law_points","_law_told","_law_k","_law_i"],d6] 267,tw "_law_turns" 47 #[[],[],j4] 274,tw "_law_figure" 48 #[["_law_rule","_law_three"],["_law_rule","_law_three"],i4] 279,tw "_law_bad" 49 #[["_law_rule"],["_law_rule","_law_bad_here","_law_three","_law_points"],jG] 286,tw "_law_may" 50 #[["_law_rule","_law_bad_here","_law_world_here"],["_law_rule","_law_bad_here","_law_world_here","_law_k"],jN] 293,tw "_law_last_may" 51 #[["_law_rule","_law_bad_here","_law_world_here","_law_k"],["_law_rule","_law_bad_here","_law_world_here","_law_k","_law_mark","_law_to","_law_j","_law_i"],bZ] 300,tw "_law_backs" 52 #[["_law_flow_here","_law_many"],["_law_flow_here","_law_many","_law_menu"],j5] 307,tw "_law_rule_of" 53 #[["_law_flow_here","_law_marks","_law_backs_here","_law_barred"],["_law_flow_here","_law_marks","_law_backs_here","_law_barred","_law_names_here","_law_ways"],eT] 312,tw "_law_free_three" 54 #[["_law_flow_here","_law_marks","_law_ways"],["_law_flow_here","_law_marks","_law_ways","_law_told","_law_k"],ff] 317,tw "_law_sizes" 55 #[["_law_flow_here"],["_law_flow_here","_law_menu"],j6] 324,tw "_law_laying_kind" 56 #[["_law_flow_here"],["_law_flow_here","_law_menu"],cL] 331,tw "_law_breaks" 57 #[["_law_backs_here","_law_must","_law_to_one","_law_to_two","_law_between_here"],["_law_backs_here","_law_must","_law_to_one","_law_to_two","_law_between_here","_law_to","_law_pair","_law_x","_law_y","_law_z"],dJ] 338,tw "_law_numbered" 58 #[["_law_flow_here","_law_backs_here","_law_must"],["_law_flow_here","_law_backs_here","_law_must","_law_many","_law_menu","_law_some","_law_numbers","_law_told","_law_k","_law_other","_law_u","_law_v"],bG] 343,tw "_law_laying_rule" 59 #[["_law_flow_here"],["_law_flow_here","_law_form","_law_backs_here","_law_must","_law_most","_law_marks","_law_rule","_law_barred","_law_many","_law_at","_law_one","_law_two","_law_between_here","_law_some","_law_first"],bX] 350,tw "_law_rising" 60 #[["_law_marks"],["_law_marks","_law_told","_law_i","_law_j"],i5] 355,tw "_law_free_rule" 61 #[["_law_flow_here"],["_law_flow_here","_law_marks","_law_ways","_law_rule","_law_k","_law_own","_law_free","_law_barred","_law_three"],cx] 360,tw "_law_one_way_rule" 62 #[["_law_flow_here"],["_law_flow_here","_law_marks","_law_barred"],bO] 365,tw "_law_new_ways" 63 #[["_law_flow_here","_law_rule","_law_bad_here","_law_world_here","_law_mark","_law_to"],["_law_flow_here","_law_rule","_law_bad_here","_law_world_here","_law_mark","_law_to","_law_k","_law_left","_law_w","_law_seen","_law_i"],bH] 372,tw "_law_world" 64 #[["_law_flow_here","_law_rule","_law_bad_here","_law_many"],["_law_flow_here","_law_rule","_law_bad_here","_law_many","_law_world_here","_law_k","_law_mark","_law_to"],gf] 379,tw "_law_share" 65 #[["_law_flow_here","_law_rule","_law_bad_here","_law_most"],["_law_flow_here","_law_rule","_law_bad_here","_law_most","_law_one","_law_some","_law_other","_law_k","_law_mark","_law_to","_law_places","_law_pairs"],eL] 384,tw "_law_goes_apart" 66 #[["_law_rule","_law_bad_here","_law_base","_law_one","_law_other"],["_law_rule","_law_bad_here","_law_base","_law_one","_law_other","_law_w"],ce] 391,tw "law" 67 Fg 396]
abbrev kj:Mq (M2×Df):=TL.map λp=>(p.1,p.2.2.1)
abbrev LM:Mq (M2×Mz):=TL.map λp=>(p.1,↥p.2.2.1.ps)
abbrev Ex:Mq M2:=["range","len","list","tuple","int","set","dict","zip","sorted","isinstance","bool","str","all","min","enumerate"]
abbrev HZ:Md:=#[LM,Ex]
abbrev BD (x:M2)(st:Pq)(df:Df):Prop:=∀(kV doc pm:Mu) (an:MA MF) (cdv ct:Mu) (us:Mq Mu),↥us=↥df.ps->bindArgs (OP x x (dF st) (cu st) (aU st) .none kV doc pm an cdv ct) #[us,[]]=pure (df.ps.zip us)
def L3 {us:Mq Mu}(h:↥us=0):us=[]:=Px.mp h
def uc {us:Mq Mu}(h:↥us=n+1):∃a t,us=a::t/\↥t=n:=by
 cases us with
 |nil=>cases h
 |cons a t=>show#[a,t,rfl,Wi h]
def L4 {us:Mq Mu}(h:↥us=1):∃a,us=[a]:=by obtain⟨a,t,rfl,g⟩:=uc h;cases L3 g;show#[a,rfl]
def L5 {us:Mq Mu}(h:↥us=2):∃a b,us=[a,b]:=by obtain⟨a,t,rfl,g⟩:=uc h;obtain⟨b,rfl⟩:=L4 g;show#[a,b,rfl]
def L6 {us:Mq Mu}(h:↥us=3):∃a b c,us=[a,b,c]:=by obtain⟨a,t,rfl,g⟩:=uc h;obtain⟨b,c,rfl⟩:=L5 g;show#[a,b,c,rfl]
def L7 {us:Mq Mu}(h:↥us=4):∃a b c d,us=[a,b,c,d]:=by obtain⟨a,t,rfl,g⟩:=uc h;obtain⟨b,c,d,rfl⟩:=L6 g;show#[a,b,c,d,rfl]
def L8 {us:Mq Mu}(h:↥us=5):∃a b c d e,us=[a,b,c,d,e]:=by obtain⟨a,t,rfl,g⟩:=uc h;obtain⟨b,c,d,e,rfl⟩:=L7 g;show#[a,b,c,d,e,rfl]
def Mm {us:Mq Mu}(h:↥us=6):∃a b c d e f,us=[a,b,c,d,e,f]:=by obtain⟨a,t,rfl,g⟩:=uc h;obtain⟨b,c,d,e,f,rfl⟩:=L8 g;show#[a,b,c,d,e,f,rfl]
abbrev DG (p:Tw):Prop:=Jp HZ (nE p.2.1) p.2.2.1/\FnScope p.2.2.1.N p.2.2.1.ps (aU (nE p.2.1))/\BD p.1 (nE p.2.1) p.2.2.1
def gc {α:Type}{F:α->Prop}{p:α}{L:Mq α}(a:F p)(b:∀q∈L,F q):∀q∈p::L,F q:=List.forall_mem_cons.mpr #[a,b]
def gn {α:Type}{F:α->Prop}:∀q∈([]),F q:=λ_ h=>nomatch h
def Mn (a:vM (cS 20 (z9 HZ (nE p.2.1) p.2.2.1.N)) (cu (nE p.2.1))=gV p.2.2.1.body)(b:FnScope p.2.2.1.N p.2.2.1.ps (aU (nE p.2.1)))(c:BD p.1 (nE p.2.1) p.2.2.1):DG p:=#[a,b,c]
set_option maxHeartbeats 0 in
def Fh:∀p∈TL,DG p:=by
 unfold TL
 repeat show gc (Mn (by kernel_rfl) #[rfl,rfl,rfl,by decide +kernel,rfl,by decide +kernel,by decide +kernel] λ_ _ _ _ _ _ us h=>by
  first
   |(obtain⟨a,rfl⟩:=L4 h;rfl)
   |(obtain⟨a,b,rfl⟩:=L5 h;rfl)
   |(obtain⟨a,b,c,rfl⟩:=L6 h;rfl)
   |(obtain⟨a,b,c,d,rfl⟩:=L7 h;rfl)
   |(obtain⟨a,b,c,d,e,rfl⟩:=L8 h;rfl)
   |(obtain⟨a,b,c,d,e,f,rfl⟩:=Mm h;rfl)
   |(obtain rfl:=L3 h;rfl)) ?_
 show gn
def Mo (h:((kj.lookup f).map λd=>(↥d.ps,↥d.N,d.body))=gV (m,n,b)):Is kj f m n b:=by
 rw[Mv]at h;obtain⟨d,c,a⟩:=h;rw[PQ,PQ]at a;show#[d,c,a.1,a.2.1,a.2.2]
set_option maxHeartbeats 0 in
def Kh:Lw37 kj:=by
 repeat' first
  |show Mo (by kernel_rfl)
  |constructor
def mO:∀(L:Mq Tw) x n,(L.map λp=>(p.1,↥p.2.2.1.ps)).lookup x=gV n->∃p∈L,p.1=x/\↥p.2.2.1.ps=n/\(L.map λp=>(p.1,p.2.2.1)).lookup x=gV p.2.2.1
 |[],x,n,h=>by cases h
 |p::L,x,n,h=>by
  rw[NL,OE]at h;rw[NL,OE];cases e:x==p.1 with
  |true=>
   rw[e]at h;cases h;show#[p,OB ..,(eq_of_beq e).symm,rfl,rfl]
  |false=>
   rw[e]at h;obtain⟨q,a,b,c,d⟩:=mO L x n h;show#[q,NX _ a,b,c,d]
section
variable{P:Nc}{w:Nq}{K:MO}{mg:M2->MA Mu}{base:Nz}
abbrev BV (K:MO)(mg:M2->MA Mu)(x:M2)(st:Pq)(df:Df):Prop:=∃(f:MF) (fd:O3),Fun K x x st f fd/\mg x=gV (.ref f)/\Ob K (.ref f)=true/\Binds K fd df.ps []
def HR {st:Pq}{kV    :Mu}(X:K.In h)(G:h.Ns mainGlobals mg)
  (b:BD x st df)
  (a:P5 K mainGlobals x=gV (gV (.ref f))) (l:K.lookup f=gV #[oc,od,.func (OP x x (dF st) (cu st) (aU st) .none kV doc pm an cdv ct),osl]) (c:Pw K cdv x=true) (k:Ob K (.ref f)=true):BV K mg x st df:=
 have F:=yM (st:=st) l c k
 #[f,_,F,U9 X G a,k,F.binds b]
def BW (j:MdOk w K mg HZ)(D:∀p∈TL,BV K mg p.1 (nE p.2.1) p.2.2.1):∀d,ER P w K mg base HZ kj fuel d
 |0=>λf n h=>by
  obtain⟨p,a,rfl,g,i⟩:=mO TL f n h;obtain⟨c,e,F,m,kp,b⟩:=D p a;show#[c,e,p.2.2.1.ps,#[λvs H Q E z=>?_,λA outer s H args us vs Q E r q o t z=>?_],m,kp,b]
  all_goals
   obtain⟨_,_,_,_,_,_,_,_,z,_⟩:=z;cases z
 |d+1=>λf n h=>by
  obtain⟨p,a,rfl,g,i⟩:=mO TL f n h;obtain⟨k,l,_⟩:=Fh p a;obtain⟨c,e,F,m,kp,b⟩:=D p a;show#[c,e,p.2.2.1.ps,?_,m,kp,b];rw[<- g];show ES F l i k j (BW j D d)
def Ki (X:K.In h)(G:h.Ns mainGlobals mg)(z:∀y∈Ex,P5 K mainGlobals y=gV td):MdOk w K mg HZ:=#[λy a=>PySem.W.mg_none_of X G (z y a)]
end
def HS {l:R6}{K:MO}(X:K.In h)(G:h.Ns mainGlobals mg)(b:mg "law" = gV (.ref d))(i:MdOk w K mg HZ)(D:∀p∈TL,BV K mg p.1 (nE p.2.1) p.2.2.1)
  {kV    :Mu} (a:P5 K mainGlobals "law" = gV (gV (.ref f))) (j:K.lookup f=gV #[oc,od,.func (OP "law" "law" (dF (nE 67)) (cu (nE 67)) (aU (nE 67)) .none kV doc pm an cdv ct),osl]) (c:Pw K cdv "law" = true) (k:Ob K (.ref f)=true) :
  ∃g:O3,(∀ s v,TC s g #[[v],[]] [("_law_script",v)])/\∀base:Nz,K.In base->base.Ns mainGlobals mg->FnOk l.prog w K mg base ye 12 d g ["_law_script"] (spF w K 1 (ar kj 100 12 "law")):=by
 have e:=b.symm.trans (U9 X G a);cases e;have F:=yM (st:=nE 67) j c k;show#[OP "law" "law" (dF (nE 67)) (cu (nE 67)) (aU (nE 67)) .none kV doc pm an cdv ct,λs v=>.of_eq rfl,λbase _ _=>ES (df:=Fg) F #[rfl,rfl,rfl,by decide +kernel,rfl,by decide +kernel,by decide +kernel] (by rfl) (by rfl) i (BW i D 11)]
def LN {l:R6}{K:Tk->MO}(j:l.most=gV 63)(b:d.params.defaults=[])
  (i:∀ w h,YP w h->(K w.params).In h)
  (F:∀ w mg fa h,(K w.params).In h->h.Ns mainGlobals mg->mg d.name=gV (.ref fa)->
   ∃c:O3,(∀ s u,TC s c #[[u],[]] [("_law_script",u)])/\∀base:Nz,(K w.params).In base->base.Ns mainGlobals mg->FnOk l.prog w (K w.params) mg base ye 12 fa c ["_law_script"] (spF w (K w.params) 1 (ar kj 100 12 "law"))) :
  UY q loose XP YP l.row.toRowW d [] (λf vs=>UI f vs):=
 L2.Cw (n:=63) (k:=12) (x:="_law_script") (CX:=λ_=>ye) (sp:=λw=>spF w (K w.params) 1 (ar kj 100 12 "law")) j #v[] b #[rfl,#v[],#v[]] i F
  (λw H a m hl e g=>GL (BU (defs:=kj) (fuel:=100) (d:=0) #v[] Kh) e g) λ_ _ _ _ _ z=>z
end Mi
open PySem PySem.W PyProof.Rows L2
namespace Mi
section
abbrev EL (K:MO)(p:Tw):Prop:=P5 K mainGlobals p.1=gV (gV (.ref p.2.2.2))/\K.lookup p.2.2.2=gV (kf p.2.2.2 (nE p.2.1) p.1 (Ld p.2.1) (.ref (p.2.2.2-1))).2/\Pw K (.ref (p.2.2.2-1)) p.1=true/\Ob K (.ref p.2.2.2)=true
def Mp {K:MO}{p:Tw}(e:P5 K mainGlobals p.1=gV (gV (.ref p.2.2.2)))(l:K.lookup p.2.2.2=gV (kf p.2.2.2 (nE p.2.1) p.1 (Ld p.2.1) (.ref (p.2.2.2-1))).2)(c:Pw K (.ref (p.2.2.2-1)) p.1=true)(k:Ob K (.ref p.2.2.2)=true):EL K p:=#[e,l,c,k]
def Kj (P:Tk):∀p∈TL,EL (K0 P) p:=by
 unfold TL
 repeat show gc (Mp (by kernel_rfl) (by kernel_rfl) (by kernel_rfl) (by kernel_rfl)) ?_
 show gn
def Kk (P:Tk):∀y∈Ex,P5 (K0 P) mainGlobals y=gV td:=by
 unfold Ex
 repeat show gc (F:=λy=>P5 (K0 P) mainGlobals y=gV td) (by kernel_rfl) ?_
 show gn
end
end Mi
end
end ZZ.Lean
open ZZ.Lean
theorem PySem.Challenge.cw_layworld_k37_whole_points_put_on_one_ano_holds : PySem.Challenge.rw_layworld_k37_whole_points_put_on_one_ano.Holds := by
 w_on
 show PySem.W.holds_law (ND (ND (ND (ND (ND (ND (ND (ND (ND (ND (ND (ND (ND (ND (ND (ND (ND (ND (Mi.s0) (by kernel_rfl)) (by kernel_rfl)) (by kernel_rfl)) (by kernel_rfl)) (by kernel_rfl)) (by kernel_rfl)) (by kernel_rfl)) (by kernel_rfl)) (by kernel_rfl)) (by kernel_rfl)) (by kernel_rfl)) (by kernel_rfl)) (by kernel_rfl)) (by kernel_rfl)) (by kernel_rfl)) (by kernel_rfl)) (by kernel_rfl)) (by kernel_rfl)) (λsaid=>?_)
 show PySem.W.holds_open (q:=Mi.vq) (loose:=Mi.lo) (Xt:=λs=>Vi Mi.vq [] s&&UZ [] s) (XP:=PySem.W.XL Mi.vq []) (Yf:=Mi.hk.obs) (Ya:=Mi.hk.val) (YP:=Mi.hk.says) (N:=4900) Mi.hl Mi.hk.of Mi.hk.keeps (λs e=>PySem.W.xl_of s (SG.mp e).1) VZ (by rfl) (by rfl) (by rfl) (λs e=>PySem.W.recFacts_of (SG.mp e).2) (by rfl) said (by decide +kernel) #[rfl,rfl,rfl,rfl,rfl,by decide +kernel] ?hw ?hc
 case hw=>w_witness2
 case hc=>
 show Mi.LN (l:=QL) (K:=Mi.K0) rfl rfl (λw h Yq=>PySem.W.kIn_of Yq) ?F
 case F=>
  intro w mg fa h KX G hmg;show Mi.HS KX G hmg (Mi.Ki KX G (Mi.Kk w.params)) (λp hp=>let ⟨e,l,c,k⟩:=Mi.Kj w.params p hp;Mi.HR KX G (Mi.Fh p hp).2.2 e l c k)
   (f:=396) (oc:=.type "function") (od:=td) (an:=td) (osl:=#[]) (kV:=.none) (doc:=.none) (pm:=(.str "law_layworld_k37_whole_points_put_on_one_ano" 490)) (cdv:=.ref 395) (ct:=.none) (by kernel_rfl) (by kernel_rfl) (by kernel_rfl) (by kernel_rfl)
