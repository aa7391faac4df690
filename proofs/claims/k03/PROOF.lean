import PyProof.Rows.All
import Wide.All
import OpenK.AllK
import Wide.FinOn
import Lean
import PyProof.EqAt
import PyProof.EqKinds
import PyProof.TupleCall
import PyProof.ExcClass
import PySem.Challenge.RW_layworld_k03_the_first_word_of_several
import PyProof.StationsW
import PyProof.ExcClass3
import PyProof.ExcBaseAll.ValueError
import PyProof.ExcArgsOwn
import PyProof.ExcAttrAll.ValueError
import OpenK.KOwn
import KE.KIsNot
import PyProof.IsiTuple
import PyProof.RulesDel
import KE.KDictList
import PyProof.SetKind
import PyProof.IsRules
import KE.KSortTup
import PyProof.CallStr
import PyProof.Cells
import PyProof.ZipIter
import PyProof.Draws
import PyProof.EnumMake
import PyProof.WalksEnum
noncomputable section
open Option renaming some->ba,none->gV
set_option hygiene false
local macro_rules|`(abbrev $i:declId $s:optDeclSig $v:declVal)=>`(noncomputable def $i:declId $s:optDeclSig $v:declVal)|`(def $i:declId $b* :$t $v:declVal)=>`(theorem $i:declId $b* :$t $v:declVal)|`(tactic|omega)=>`(tactic|first|lia|omega (config:={}))|`(tactic|show $e:term)=>`(tactic|refine $e:term)|`(↥$x)=>`(($x).length)|`(⇑$x)=>`(($x).size)|`(tactic|delta $x*)=>`(tactic|dsimp only[$[$x:ident],*])|`(tactic|revert $x*)=>`(tactic|simp only[$[$x:term],*])|`(tactic|left)=>`(tactic|dsimp only[wS,wE,wA,wV,wG,List.set])|`(tactic|nofun)=>`(tactic|refine aU λK hK=>?_)
local macro_rules|`(#v[])=>`((by decide))|`(#v[$x:term])=>`(.cons $x .nil)|`(#v[$x:term,$y:term,*])=>`(.cons $x #v[$y,*])
local macro_rules|`(#[$x:term])=>`(⟨$x⟩)|`(#[$x:term,$y:term,*])=>`(⟨$x,$y,*⟩)
local macro_rules|`(∅)=>`((by omega))
open _root_ renaming List->Ow,Option->Oz,Nat->OH,if_pos->OZ,decide_eq_true_eq->O1,Bool->O6,Int->O8,Array->Pc,if_neg->Pd,decide_eq_true->Pq,decide_eq_false->Pw,beq_self_eq_true->PB,of_decide_eq_true->PC,False->P0,String->Qs,if_false->QA,if_true->QY,or_false->Q9,decide_eq_false_iff_not->Ra,beq_iff_eq->Rm,beq_eq_false_iff_ne->RC,DecidableEq->R7,of_decide_eq_false->SH,not_or->V0,bne_self_eq_false->W9,decide_true->XN,Unit->XR,beq_false_of_ne->X7,True->Yw,decide_false->YY,dif_pos->ZJ
open PySem renaming wpAny_bind->Ox,Value->Oy,Shared->OB,wpAny_pure->OD,Addr->OF,Str->OM,Expr->Pb,Program->Pe,World->Pk,Around->Pl,Heap->Pr,SetTable->Pz,wpAny_holding->PQ,wpAny_mono->P4,wpAny_callSpecial?_slot->P6,Spec->Qb,sizeLine_eq->Qc,wpAny_field->Qe,wpAny_newObj_type->Qf,Stmt->Qj,codeAny_builtin->Qo,FuncData->Qp,Obj->Qq,wpAny_call_entry->Qt,wpAny_truthy_bool->QF,NameKind->QG,wpAny_seqItems->QN,Pos->Rl,ClassData->Rn,codeAny_mono->Rr,codeAny_call_builtin->Rt,wpAny_typeNameOfWhole_keyiter->Rx,wpAny_setState_of->Rz,Scope->RN,wpAny_attempt->RP,wpAny_Call_Name_kw->RW,wpAny_passesOwn->R4,DictEntry->R5,plainId_quiet->Se,wpAny_typeNameOf_keyiter->Sg,mem_of_lookup->Sh,wpAny_setField->Sl,wpAny_call->Sw,wpAny_setField_rec->SG,strKind->SL,wpAny_loadPart_at->SO,wpAny_pyIter_list->SQ,Builtin->SY,wpAny_forIn_list->SZ,wpAny_rule->Tz,wpAny_letGo->TM,Params->T8,wpAny_isInstance->T9,wpAny_standAt->Ue,wpAny_execs_nil->Um,wpAny_loadPart'->Uo,codeAny_of_tree->Ur,wpAny_typeOf->UA,PassesOwn->UF,GenState->UG,IsPart->UK,wpAny_runValue->UN,wpAny_pyIter_tuple->UQ,wpAny_tryCatch->US,Env->U0,Model->U6,wpAny_of_eq->U8,wpAny_dictEntries->U9,Result->Vf,wpAny_comprehension_free->Vl,wpAny_pyHash_str->Vn,noFill_tuple_add->Vo,Keyword->Vu,call_meets->Vx,IsPair->VF,wpAny_dictEpoch->VL,wpAny_updateSeq->VM,pushCells_keeps->VP,weight_type_call_type->VR,wpAny_isSame_ref_self->VS,wpAny_isOneOf_keyiter->VU,Paired->VX,wpAny_loadPart->VY,isSubtype_stop->V4,wpAny_newTuple->V7,wpAny_updateSeq_pair->Wa,wpAny_isSubtype_exc->Wm,seq_tuple_add->Wu,wpAny_onRaise->Wx,wpAny_newList->Wy,wpAny_assign_Name->WO,Operator->WP,BindsTo->WS,concat_meets->WU,wpAny_sequenceKey->WV,seqIndex_neg->WW,list_append->WY,ExcBaseFacts->W0,wpAny_storeSet_of->W2,fits_of_scanBound->W3,wpAny_pyIter_enum->Xf,wpAny_pyHash_int->Xj,wpAny_execs_cons->Xk,wpAny_lookBehind->Xo,pastItsLine_dict->Xp,putSet_of->Xq,check_set_init_1->Xs,wpAny_pyIter_zip->Xx,CmpOp->XI,seqIndex_of->XJ,wpAny_specialOf->XW,wpAny_Name->X9,wpAny_load->Yb,typeIs_int->Yg,call->Yi,wpAny_is_plain->Yj,wpAny_fieldsOf->Yn,callType_newIn->Ys,Sem->Yu,intBits_le_64->Yx,call_list_seq->Yz,ExceptHandler->YC,wpAny_handled->YI,wpAny_nsSet1->YV,wpAny_mkText->YW,Drawn->Yqd,IsRangeIter->Yqg,wpAny_point->Zd,wpAny_alloc->Zf,wpAny_mkInt->Zg,wpAny_throw->Zi,IsZip->Zj,BoolOp->ZC,IsEnum->ZD,OwnTail->ZG,ItemsOf->ZK,Flow->ZO,Tok->ZU,Moved->Z0,Walks->Zqd
open PySem.Heap renaming get?_push_of_some->OA,get?_push_size->OX,lt_size->O4,get?_update_other->PF,get?_update_self->P8,size_push->QM,SameBut->Q5,get?_update_ne->RE,ExtBut->V3,get?_push_at->W1,size_update->Xv
open List renaming length_map->OC,set->OJ,length_append->OL,getElem?_eq_getElem->ON,zipWith->OO,getElem?_eq_some_iff->OS,all_eq_true->OT,mem_cons_self->OU,mem_cons_of_mem->OV,getElem?_map->OY,mem_map->O0,mem_cons->O2,mem_singleton->O3,size_toArray->O5,mem_of_getElem?->O7,mem_append_right->Pg,range->Pj,mem_range->Pn,length_cons->Po,mem_append->Px,length_take->Py,getElem?_append_left->PH,map_cons->PK,not_mem_nil->PL,length_zipWith->PM,replicate->PN,map_append->PP,mem_append_left->PU,getElem_mem->PX,lookup_cons->PY,getD_eq_getElem?_getD->P5,all_cons->P9,getElem?_zipWith->Qa,length_range->Qg,append_nil->Ql,length_drop->Qm,length_nil->Qr,getElem?_set->Qv,mem_filter->Qy,length_set->Qz,mem_iff_getElem?->QE,getElem?_set_self->QQ,map_map->QR,getElem?_eq_none_iff->QT,mem_or_eq_of_mem_set->QU,map_congr_left->QX,pairwise_map->QZ,nodup_cons->Q6,append_assoc->Rc,take_of_length_le->Re,take_add_one->Rg,zip_cons_cons->Rp,mem_iff_getElem->Rv,mem_of_mem_take->Rw,nodup_append->RA,filterMap_cons->RD,idxOf_lt_length_of_mem->RM,take_length->RV,getElem?_append_right->RX,nodup_iff_pairwise_ne->RZ,take_append_drop->R0,pairwise_iff_getElem->R1,mem_of_mem_drop->R9,getElem_inj->Si,ext_getElem->Sn,eq_nil_of_length_eq_zero->Su,map_id->Sv,pairwise_cons->SC,any_cons->SJ,length_filter_le->SN,getElem?_set_ne->SR,lookup->SS,nodup_range->Ta,exists_mem_of_ne_nil->Th,replicate_succ->Ti,getElem?_range->Tj,length_erase_of_mem->Tp,map_take->Tt,findIdx?_eq_some_iff_getElem->TN,drop_of_length_le->TV,length_singleton->T5,foldlM_cons->Ua,getElem_map->Ub,mem_flatMap->Uc,map_drop->Ug,getElem?_of_mem->Uj,getElem?_zipIdx->Uk,take_append_of_le_length->Ul,foldl_cons->Uq,forIn_cons->Us,mem_zipIdx_iff_getElem?->Uw,length_zip->Ux,getD_cons_zero->Uz,mem_filterMap->UI,contains_cons->UL,drop_zero->UR,perm_ext_iff_of_nodup->UU,nodup_nil->UV,mem_eraseDups->UW,filter_append->UX,ne_nil_of_mem->UY,getElem_idxOf->UZ,extract_eq_take_drop->U3,rel_of_pairwise_cons->U4,getElem?_zip_eq_some->U5,getElem_take->Vc,getElem?_take_of_lt->Vg,any_eq_true->Vq,perm_middle->Vr,map_zipWith->Vt,range_succ_eq_map->Vy,length_pos_of_mem->VE,map_set->VH,of_mem_zip->VI,length_replicate->VQ,getElem?_eq_none->VW,forIn_nil->VZ,mem_erase_of_ne->V9,dropLast_concat->Wc,getLastD_concat->We,forall_mem_cons->Wf,length_pos_iff->Wq,getD_cons_succ->Ws,filterMap_map->WF,getElem_range->WK,length_zipIdx->WL,take_sublist->WT,flatten_cons->WX,all_map->W5,zip_nil_left->W6,take_zipWith->Xd,ext_getElem?->Xh,map_snd_zip->Xu,isEmpty_iff->Xy,cons_append->XA,zipWith_map->XB,map_fst_zip->XH,nil_append->XU,foldr_cons->XZ,find?_some->X2,drop_left'->X5,range_succ->X6,zip->Yp,Nodup->Yq,length->Yqa,map->Zh,foldl->ZA
open Bool renaming and_eq_true->OE,false_eq_true->Pu,false_ne_true->P2,or_eq_true->Qn,true_and->Qw,and_false->QI,or_eq_false_iff->QL,eq_false_iff->Rh,not_true->RQ,not_eq_true'->R8,false_and->Sj,eq_iff_iff->SI,and_true->To,not_eq_false'->TF,and_eq_false_iff->T7,or_true->UB,not_false->UP,or_false->Vh,false_or->Vi,and_eq_true_iff->Wg,noConfusion->Xr
open Option renaming map_eq_some_iff->OG,isSome_iff_exists->P1,map_some->P3,bind_some->Ro,getD_none->Xm,toList->YL,map->ZE
open PySem.W renaming Frag->OI,look_both->PV,keepIn->Qh,fnOf->Q7,nsIn->Q8,kia_one->R6,codeIn->Sk,kas_sort->Sq,findIn->Sr,mg_of->Tv,callWith_K->UJ,cellsFrom_some->Vv,OpenLaw->VJ,kat_nil->VO,KdlSrc->V5,subIn->WA,lookIn->Yc,WalkO->YA,recOk->YB,xlAt->YU
open Nat renaming le_of_ble_eq_true->OP,le_trans->OQ,le_refl->OR,ne_of_lt->Pa,lt_of_lt_of_le->Pf,ne_of_gt->PZ,lt_irrefl->P7,zero_le->Qd,le_add_right->QC,le_succ->QJ,not_lt_zero->QP,le_of_lt->Q1,lt_succ_self->Rq,le_succ_of_le->Ry,lt_succ_of_lt->RB,lt_succ_of_le->Sc,not_lt->Sd,lt_of_le_of_lt->SA,eq_or_lt_of_le->SD,lt_trans->SX,lt_succ_iff_lt_or_eq->Tu,succ_pos->TY,le_of_lt_succ->Va,lt_trichotomy->Vb,lt_of_succ_lt_succ->Vz,div_div_eq_div_mul->VC,lt_or_ge->VD,pow_le_pow_right->V8,mul_le_mul_right->Wb,lt_or_gt_of_ne->WJ,pow_succ->Xa,sub_zero->Xg,min_eq_right->Xz,min_eq_left->X4,mod_lt->Yo,add_assoc->YG,succ_mul->YS,le_of_eq->YT,min_self->YX,zero_add->YZ
open Array renaming length_toList->OW,getElem?_eq_some_iff->O9,getElem?_eq_getElem->PJ,size_map->Qu,getElem?_toList->QD,mem_toList_iff->QH,mem_of_getElem?->Rk,map->So,toList_extract->SV,getD->SW,getElem?_replicate->Tq,forIn_toList->TB,getElem?_map->TC,getElem?_setIfInBounds_ne->T4,getElem_toList->Ui,toList_append->Uy,getElem?_eq_none_iff->UO,perm_iff_toList_perm->UT,toList_push->U7,getElem?_eq_none->VB,append_assoc->WD,all_toList->XG,filterMap->XX,replicate->XY,map_map->YH,toList->YR
open PySem.SetTable renaming insertAt->Ph,below->Qi,grown->QK,turns->Rf,bits->RS,advance->Tb,runEnd->Tx,Probe->TU,layClean->T0,leap->Wz,sizeAbove->WI,tooFull->Xw,fresh->Yr,slot->YJ,fill->YK,fits_plain_off->YQ,has->Yqi,sameMemory->Zu,probeStart->Zv,gaveWay->ZS,relaid->ZW,fits->Z6,laid->Z7,put->Z9
open Int renaming toNat_natCast->Pi,natCast_nonneg->PD,ofNat_lt->Sy,emod_lt_of_pos->TD,emod_nonneg->Uv,zero_add->VG,toNat_of_nonneg->Wn,ediv_nonneg->X3
open Option.some renaming injEq->Pp,inj->PR
open PySem.Value renaming ref->Ps,none->Qk,bool->Qx,type->QV,builtin->Rs,str->TH,int->Vm
open Classical renaming byContradiction->QS
open PySem.Obj renaming mapSeq->Rb,mapFields->RO,data_mapFields->RY,isFreed_of_fields->T6,cls_mapFields->W7,putSet->ZB
open ForInStep renaming yield->Ri
open PyProof.Rows renaming slot_tuple_getitem->Rj,callWith_type1->RI,subscriptTail_builtinR->TR,AllBare->Ud,listUpdate_at->Vj,get?_update_seq->VN,SortKind->V6,entry_tuple_getitem->Wk,lt_int->Wo,IsTup->Wt,args_tuple_getitem->WG,listItems_at->W8,callWith_builtin1->Xl,seqEpoch_at->XO,IntsAre->X8,slicePart_none->Yd,tupleItemsOf_->Yy,StrsAre->ZI
open PySem.Around renaming under_plainId->Ru,under_plain->WH,under->WQ
open PySem.Heap.SameBut renaming update->RH,refl->W4
open PySem.SetTable.layClean renaming free->RJ
open PySem.Code renaming quiet_builtin->Sz,isFrame->WR,frames->Yqj
open PySem.NameKind renaming cell->SM,free->Ts
open PySem.Builtin.Tuple renaming tupleItemsOf->SU,tupleHashOf->Tf,tupleCompareSizes->Xi,tupleIsExact->Yk
open PySem.Builtin.Slice renaming sliceAdjust->Tc,slicePlaces->Td,slicePartIndex->XS,sliceApplied->Ye
open PySem.Builtin.SmallTypes renaming ownedTupleHandOut->Tk
open PySem.F renaming args_tuple_add_2->Tl,entry_tuple_add->TK,slot_tuple_add->TQ,excBase_ValueError->UM,plainAttrs_list->Vs
open PySem.Builtin.List renaming listTooLong->Tn,listExtendWith->UE,listFitsIndex->Yh
open PySem.Builtin.Str renaming occurrences->TJ,tooLong->Yv,glued->ZN
open PySem.SetTable.probe renaming go->TZ
open PySem.Challenge renaming pw_layworld_k03_the_first_word_of_several->Uf,rw_layworld_k03_the_first_word_of_several->Uh
open PySem.Builtin.Frozenset renaming updateFrom->Ut,newClass->Yl
open PySem.PassesOwn renaming never->Uu,leaving->ZM
open PySem.Str renaming ofString->UC,length->Zx,join->Z4
open PySem.Builtin.Builtins renaming bindParams->UD
open PySem.Calls renaming Name_function_global->UH,Constant_str->WE
open PySem.Paired renaming length->Vd
open List.Pairwise renaming imp_of_mem->Vk,nil->ZF,imp->ZL
open PySem.SetTable.Probe.mk renaming injEq->Vp
open PySem.SeqAt renaming EqAt->Vw
open True renaming intro->VA
open PySem.Builtin.Dict renaming showsAll->VT
open Sum renaming inl->Wh,inr->Wi
open PySem.Expr renaming Name->Wj
open PySem.EntryCells renaming newEntry->Wl
open PySem.W.Fast renaming te14082659384304107361->Wv,te14364793385576792824->Ww
open PySem.SeqAt.EqAt renaming int_str->WB,str_int->WC,none_bool->Yqe,bool_none->Y9,bool_bool->Za,none_int->Zl,none_str->Zm,bool_int->Zn,bool_str->Zo,int_none->Zp,int_bool->Zq,str_none->Zr,str_bool->Zt,int_int->Zy,str_str->Zz,same->ZV
open PySem.ScopeKind renaming function->WM
open PySem.AutoListH renaming list___mul___list_int_3->WN
open PySem.AutoSeq1 renaming list_extend_list_list_0->WZ,sub_tuple_tuple->YD
open PySem.SetTable.below renaming go->Xb
open Function renaming comp_def->Xe
open PySem.IsL renaming update->Xn
open List.cons renaming injEq->XV
open PySem.Walks renaming list->Ym
open PySem.Env renaming kindOf->Yt
open PySem.Shared renaming TypeIs->YE
open PySem.Moved renaming eq_with->YF
open Prod.mk renaming injEq->YM
open PySem.Builtin.Range renaming rangeSize->YN
open PyProof.Rows.IsTup renaming new->YO
open PySem.Within renaming cons->Zb
open Prod renaming fst->Zk,ext->ZX
open PySem.Heap.IsSliceOf renaming new->Zw
open PySem.Heap.Ns1 renaming of_empty->ZH
open PySem.DictEntry renaming refKey->ZP
open PySem.W.Looks renaming ld->ZQ
open List.Perm renaming nil_eq->ZR,map->Zqb
open PySem.W.XL renaming keeps->ZT
open Or renaming inr->ZY
open PySem.Txt renaming join->ZZ,mul->Zqa
set_option genSizeOf false
namespace ZZ.Lean
noncomputable section
set_option Elab.async false
set_option linter.all false
set_option maxRecDepth 100000
noncomputable abbrev wh{α}(p w A):=@PySem.wpAny α (PySem.model p w) A
namespace L2
open PySem PySem.Spec PyProof.Rows
noncomputable abbrev rO:=Sum O8 OM
abbrev Fg:rO->Oy->O6
 |.inl k,v=>Value.isInt k v
 |.inr x,v=>Value.isStrOf x v
abbrev Mw (w:Pk):rO->O8
 |.inl k=>hashInt k
 |.inr x=>hashStr w x
def bh:∀{k:rO}{v:Oy},Fg k v=true->(∃i t,k=Wh i/\v=Vm i t)\/(∃x t,k=Wi x/\v=TH x t)
 |.inl i,v,h=>by
  obtain⟨t,e⟩:=Value.isInt_shape   h;show .inl #[i,t,rfl,e]
 |.inr x,v,h=>by
  obtain⟨t,e⟩:=Value.isStrOf_shape   h;show .inr #[x,t,rfl,e]
def Gf (a b:O8):decide ((Wh a:rO)=Wh b)=(a==b):=by
 by_cases e:a=b
 ·subst e;simp
 ·have h:¬ (Wh a:rO)=Wh b:=λq=>e (Sum.inl.inj q)
  rw[Pw h];show(RC.mpr e).symm
def Gg (a b:OM):decide ((Wi a:rO)=Wi b)=decide (a=b):=by
 by_cases e:a=b
 ·simp
 ·have h:¬ (Wi a:rO)=Wi b:=λq=>e (Sum.inr.inj q)
  rw[Pw h,Pw e]
def Gh (a:O8)(b:OM):decide ((Wh a)=Wi b)=false:=Pw (λq=>nomatch q)
def Gi (a:OM)(b:O8):decide ((Wi a)=Wh b)=false:=Pw (λq=>nomatch q)
abbrev tV (prog:Pe)(w:Pk):PySem.KeyKind prog w rO where
 is:=Fg
 hash:=Mw w
 inj:=λv a b f d=>by
  rcases bh f with⟨i,t,rfl,rfl⟩|⟨x,t,rfl,rfl⟩
  ·rcases bh d with⟨j,u,rfl,e⟩|⟨y,u,rfl,e⟩
   ·injection e with e1 _;rw[e1]
   ·show nomatch e
  ·rcases bh d with⟨j,u,rfl,e⟩|⟨y,u,rfl,e⟩
   ·show nomatch e
   ·injection e with e1 _;rw[e1]
 byValue:=λk v h=>by
  rcases bh h with⟨i,t,rfl,rfl⟩|⟨x,t,rfl,rfl⟩<;>rfl
 pyHash:=λc h=>by
  rcases bh c with⟨i,t,rfl,rfl⟩|⟨x,t,rfl,rfl⟩
  ·show Xj h
  ·show Vn h
 eqBool:=λg c h=>by
  rcases bh g with⟨i,t,rfl,rfl⟩|⟨x,t,rfl,rfl⟩
  ·rcases bh c with⟨j,u,rfl,rfl⟩|⟨y,u,rfl,rfl⟩
   ·rw[Gf]at h;show wpAny_eqBool_int h
   ·rw[Gh]at h;show WB i t y u _ _ _ _ h
  ·rcases bh c with⟨j,u,rfl,rfl⟩|⟨y,u,rfl,rfl⟩
   ·rw[Gi]at h;show WC x t j u _ _ _ _ h
   ·rw[Gg]at h;show wpAny_eqBool_str h
 «strs»:=λk x t v h=>by
  rcases bh h with⟨i,u,rfl,e⟩|⟨y,u,rfl,e⟩
  ·show nomatch e
  ·injection e with e1 _
   subst e1;cases v<;>rfl
inductive V where
 |non|bl (b:O6)|int (i:O8)|str (x:OM)|byt (b:Pc UInt8)|flt (b:UInt64)|ref (a:OF)|ty (n:Qs)
 deriving R7
abbrev RelV:V->Oy->Prop
 |.non,u=>u=Qk
 |.bl b,u=>u=Qx b
 |.int i,u=>∃t,u=Vm i t
 |.str x,u=>∃t,u=TH x t
 |.byt b,u=>∃t,u=Value.bytes b t
 |.flt b,u=>∃t,u=Value.float b t
 |.ref a,u=>u=Ps a
 |.ty n,u=>u=QV n
noncomputable abbrev Vals:Ow V->Ow Oy->Prop:=VX RelV
def Vals.length (r:Vals xs us):↥xs=↥us:=Vd r
def Vals.get:∀{xs:Ow V}{us:Ow Oy}{i:OH}{x:V},Vals xs us->xs[i]?=ba x->∃u,us[i]?=ba u/\RelV x u
 |_,_,_,_,.nil,e=>by simp at e
 |_,_,0,_,.cons r _,e=>by simp at e;subst e;show#[_,rfl,r]
 |_,_,i+1,x,.cons _ t,e=>by
  obtain⟨u,a,b⟩:=Vals.get   t (by simpa using e)
  show#[u,by simpa using a,b]
def Vals.set (r:RelV x u):∀{xs:Ow V}{us:Ow Oy} i,Vals xs us->Vals (xs.set i x) (us.set i u)
 |_,_,_,.nil=>.nil
 |_,_,0,.cons _ t=>.cons r t
 |_,_,i+1,.cons q t=>.cons q (Vals.set r i t)
def Vals.append:∀{xs a:Ow V}{us ws:Ow Oy},Vals xs us->Vals a ws->Vals (xs++a) (us++ws)
 |_,_,_,_,.nil,s=>s
 |_,_,_,_,.cons r t,s=>.cons r (Vals.append t s)
def Vals.take:∀{xs:Ow V}{us:Ow Oy} n,Vals xs us->Vals (xs.take n) (us.take n)
 |_,_,0,_=>.nil
 |_,_,_+1,.nil=>.nil
 |_,_,n+1,.cons r t=>.cons r (Vals.take n t)
def Vals.drop:∀{xs:Ow V}{us:Ow Oy} n,Vals xs us->Vals (xs.drop n) (us.drop n)
 |_,_,0,r=>r
 |_,_,_+1,.nil=>.nil
 |_,_,n+1,.cons _ t=>Vals.drop n t
abbrev Gj:Oz V->Oz Oy->Prop
 |some v,ba u=>RelV v u
 |none,gV=>Yw
 |_,_=>P0
abbrev KV {κ:Type}:Ow (κ×V)->Ow (κ×Oy)->Prop:=VX λ(p:κ×V) (q:κ×Oy)=>p.1=q.1/\RelV p.2 q.2
abbrev kV:rO->V
 |.inl i=>.int i
 |.inr x=>.str x
inductive HO where
 |lst (xs:Ow V)
 |tup (xs:Ow V)
 |dK (U:Ow (rO×V))
 |own (x:OF)
 |rng (lo hi:O8)
 |frz (o:Qq) (u:HO)
 |tbl (ps:Pc Oy)
 |ext (φ:Pr->Prop)
noncomputable abbrev Hp:=OF->Oz HO
abbrev aW (H:Hp)(a:OF)(o:HO):Hp:=λb=>if b=a then ba o else H b
def au :aW H a o a=ba o:=by unfold aW;rw[OZ rfl]
def am (h:b≠a):aW H a o b=H b:=by unfold aW;rw[Pd h]
def da {H:Hp}(h:H a=ba o)(h':H b=gV):a≠b:=by
 intro e;subst e;rw[h]at h';cases h'
section
variable (P:Pe) (w:Pk)
abbrev NoD (h:Pr)(a:OF):Prop:=∃o,h.get? a=ba o/\o.dict=gV
def NoD.new (h:Pr)(its:Pc Oy)(n:OH):NoD (h.push {cls:=.type "tuple",data:=.seq its n}) ⇑h.objs:=#[_,OX _ rfl,rfl]
noncomputable abbrev xa (x:Array PySem.Value)(n:Nat):PySem.Obj:={cls:=.type "list",data:=.seq x n}
abbrev ObjOk (H:Hp)(h:Pr)(a:OF):HO->Prop
 |.lst xs=>↥xs<=sizeLine/\∃(its:Ow Oy) (n:OH),Vals xs its/\h.get? a=ba (xa its.toArray n)
 |.tup xs=>(↥xs<=sizeLine/\NoD h a)/\∃its:Ow Oy,Vals xs its/\Wt h a its.toArray
 |.dK U=>↥U<=sizeLine/\(a==sysModules)=false/\∃vs,KV U vs/\h.DictOf (tV P w) a vs
 |.own _=>∃o,h.get? a=ba o
 |.rng lo hi=>∃t u v,h.get? a=ba {cls:=.type "range",data:=.fields [.int lo t,.int hi u,.int 1 v].toArray}
 |.frz o u=>h.get? a=ba o/\ObjOk H h a u
 |.tbl ps=>h.get? a=ba {cls:=.none,data:=.fields ps}
 |.ext φ=>φ h/\(∃o,h.get? a=ba o)/\∀b c:Pr,φ b->(∀o,b.get? a=ba o->c.get? a=ba o)->φ c
abbrev HOk (H:Hp)(h:Pr):Prop:=∀a o,H a=ba o->ObjOk P w H h a o
end
section
variable{P:Pe}{w:Pk}{H H':Hp}{h h':Pr}{a:OF}{o:HO}
def ObjOk.lt (x:ObjOk P w H h a o):a<⇑h.objs:=by
 cases o with
 |lst xs=>obtain⟨_,_,_,_,e⟩:=x;show O4 e
 |tup xs=>obtain⟨_,_,_,p⟩:=x;show p.lt
 |dK U=>obtain⟨_,_,_,_,o,_,_,e,_⟩:=x;show O4 e
 |own y=>obtain⟨_,e⟩:=x;show O4 e
 |rng lo hi=>obtain⟨_,_,_,e⟩:=x;show O4 e
 |frz b u=>obtain⟨e,_⟩:=x;show O4 e
 |tbl ps=>show O4 x
 |ext φ=>obtain⟨_,⟨_,e⟩,_⟩:=x;show O4 e
def Paired.mapP :∀{l₁:Ow α}{l₂:Ow β},VX F l₁ l₂->(∀a b,F a b->G a b)->VX G l₁ l₂
 |_,_,.nil,_=>.nil
 |_,_,.cons r t,f=>.cons (f _ _ r) (Paired.mapP t f)
def ObjOk.stay (x:ObjOk P w H h a o)(k:∀b u,(b=a\/H b=ba (.own a))->h.get? b=ba u->h'.get? b=ba u)
  (l:∀b,H b=ba (.own a)->H' b=ba (.own a)) (ht:∀b xs,H b=ba (.tup xs)->H' b=ba (.tup xs)):ObjOk P w H' h' a o:=by
 induction o with
 |lst xs=>obtain⟨z,its,n,r,e⟩:=x;show#[z,its,n,r,k _ _ (.inl rfl) e]
 |tup xs=>obtain⟨⟨z,g,i,d⟩,its,r,f,e,c⟩:=x;show#[#[z,g,k _ _ (.inl rfl) i,d],its,r,f,k _ _ (.inl rfl) e,c]
 |dK U=>obtain⟨z,y,vs,r,f,es,j,e,c⟩:=x;show#[z,y,vs,r,f,es,j,k _ _ (.inl rfl) e,c]
 |own y=>obtain⟨f,e⟩:=x;show#[f,k _ _ (.inl rfl) e]
 |rng lo hi=>obtain⟨t,u,v,e⟩:=x;show#[t,u,v,k _ _ (.inl rfl) e]
 |frz f u ih=>obtain⟨e,q⟩:=x;show#[k _ _ (.inl rfl) e,ih q]
 |tbl ps=>
  have e:h.get? a=ba {cls:=.none,data:=.fields ps}:=x;change h'.get? a=ba {cls:=.none,data:=.fields ps};show k a _ (.inl rfl) e
 |ext φ=>obtain⟨p,⟨o,e⟩,st⟩:=x;show#[st _ _ p λo q=>k _ _ (.inl rfl) q,#[o,k _ _ (.inl rfl) e],st]
def HOk.lt (x:HOk P w H h)(e:H a=ba o):a<⇑h.objs:=(x a o e).lt
def HOk.fresh (x:HOk P w H h)(e:⇑h.objs<=a):H a=gV:=by
 cases q:H a with
 |none=>rfl
 |some u=>show absurd (Pf (x.lt q) e) (P7 _)
def HOk.kept (x:HOk P w H h)(k:∀b u,h.get? b=ba u->h'.get? b=ba u):HOk P w H h':=λa o e=>
 (x a o e).stay (λb u _ q=>k b u q) (λ_ q=>q) λ_ _ q=>q
def HOk.laid (x:HOk P w H h)(k:∀b u,h.get? b=ba u->h'.get? b=ba u)(g:⇑h.objs<=a)(new:ObjOk P w (aW H a o) h' a o):HOk P w (aW H a o) h':=λb u e=>by
 have f:=x.fresh g
 by_cases d:b=a
 ·subst d;rw[au]at e;cases e;show new
 ·rw[am d]at e;show(x b u e).stay (λc v _ q=>k c v q) (λc q=>by rw[am (da q f)];show q) λc xs q=>by rw[am (da q f)];show q
end
abbrev Rd (H:Hp)(a:OF)(u:HO):Prop:=H a=ba u\/∃o,H a=ba (.frz o u)
def Rd.ok (r:Rd H a u)(x:HOk P w H h):ObjOk P w H h a u:=by
 rcases r with r|⟨o,r⟩
 ·show x a u r
 ·obtain⟨_,q⟩:=x a _ r;show q
abbrev JU:Oz HO->Prop
 |some (.lst _)=>Yw
 |some (.dK _)=>Yw
 |some (.ext _)=>Yw
 |_=>P0
section
variable{P:Pe}{w:Pk}{H:Hp}{h h':Pr}{x e:OF}{o':HO}
def HOk.write (ok:HOk P w H h)(i:JU (H x))(l:e=x\/H e=ba (.own x))(k:∀b u,b≠e->h.get? b=ba u->h'.get? b=ba u)(j:∃u,h'.get? e=ba u)
  (new:ObjOk P w (aW H x o') h' x o'):HOk P w (aW H x o') h':=λb u q=>by
 have d:∀c y,H c=ba (.own y)->c≠x:=λc y r z=>by subst z;rw[r]at i;show i
 have f:∀c xs,H c=ba (.tup xs)->c≠x:=λc xs r z=>by subst z;rw[r]at i;show i
 by_cases g:b=x
 ·subst g;rw[au]at q;cases q;show new
 ·rw[am g]at q
  by_cases a:b=e
  ·have m:H b=ba (.own x):=by
    rcases l with z|z
    ·show absurd (a.trans z) g
    ·rw[a];show z
   rw[q]at m;cases m
   obtain⟨v,n⟩:=j;show#[v,by rw[a];show n]
  ·show(ok b u q).stay (λc v hc r=>k c v ?_ r) (λc r=>by rw[am (d c b r)];show r) λc xs r=>by rw[am (f c xs r)];show r
   rcases hc with rfl|hc
   ·show a
   ·rintro rfl;rcases l with z|z
    ·show d c b hc z
    ·rw[hc]at z;cases z;show g rfl
end
structure Un (fs ex:Ow OF)(H H':Hp)(h h':Pr):Prop where
 keep:∀b o,h.get? b=ba o->H b=gV->b∉fs->b∉ex->h'.get? b=ba o
 slot:∀b o,h.get? b=ba o->H b=gV->b∈fs->b∉ex->∃sl,h'.get? b=ba {o with slots:=sl}
 free:∀b o,h.get? b=ba o->H b=gV->b∉ex->H' b=gV
 there:∀b o,h.get? b=ba o->b∉ex->∃o',h'.get? b=ba o'
 tups:∀b xs,H b=ba (.tup xs)->H' b=ba (.tup xs)
 frzs:∀b o u,H b=ba (.frz o u)->H' b=ba (.frz o u)
 tbls:∀b ps,H b=ba (.tbl ps)->∃more,H' b=ba (.tbl (ps++more))
section
variable{fs fs' ex ex':Ow OF}{H H1 H2:Hp}{h h1 h2 h':Pr}{a x e:OF}{o:HO}
def Un.any (u:Un fs ex H H1 h h1){a:Qq}(q:h.get? b=ba a)(n:H b=gV)(d:b∉ex):∃e,h1.get? b=ba {a with slots:=e}:=by
 by_cases c:b∈fs
 ·show u.slot b a q n c d
 ·show#[a.slots,u.keep b a q n c d]
def Un.trans (a:Un fs ex H H1 h h1)(b:Un fs ex H1 H2 h1 h2):Un fs ex H H2 h h2 where
 keep:=λc e q n hc d=>b.keep c e (a.keep c e q n hc d) (a.free c e q n d) hc d
 slot:=λc e q n hc d=>by
  obtain⟨l,f⟩:=a.slot c e q n hc d;obtain⟨i,g⟩:=b.slot c _ f (a.free c e q n d) hc d;show#[i,g]
 free:=λc e q n d=>by
  obtain⟨o',f⟩:=a.there c e q d;show b.free c o' f (a.free c e q n d) d
 there:=λc e q d=>by
  obtain⟨o',f⟩:=a.there c e q d;show b.there c o' f d
 tups:=λc xs q=>b.tups c xs (a.tups c xs q)
 frzs:=λc e xs q=>b.frzs c e xs (a.frzs c e xs q)
 tbls:=λc ps q=>by
  obtain⟨j,f⟩:=a.tbls c ps q;obtain⟨k,g⟩:=b.tbls c _ f;show#[j++k,by rw[g,WD]]
def Un.kept (k:∀b u,h.get? b=ba u->h'.get? b=ba u):Un fs ex H H h h':=
 #[λb a q _ _ _=>k b a q,λb a q _ _ _=>#[a.slots,k b a q],λ_ _ _ n _=>n,λb a q _=>#[a,k b a q],λ_ _ q=>q,λ_ _ _ q=>q,λ_ ps q=>#[#[],by rw[q];rfl]]
def Un.refl:Un fs ex H H h h:=Un.kept λ_ _ q=>q
def Un.laid (k:∀b u,h.get? b=ba u->h'.get? b=ba u)(d:⇑h.objs<=a)(c:H a=gV):Un fs ex H (aW H a o) h h' where
 keep:=λb u q _ _ _=>k b u q
 slot:=λb u q _ _ _=>#[u.slots,k b u q]
 free:=λb u q n _=>by rw[am (Pa (Pf (O4 q) d))];show n
 there:=λb u q _=>#[u,k b u q]
 tups:=λb xs q=>by rw[am (da q c)];show q
 frzs:=λb u xs q=>by rw[am (da q c)];show q
 tbls:=λb ps q=>#[#[],by rw[am (da q c),q];rfl]
def Un.write (c:JU (H x))(j:e=x\/H e=ba (.own x))(k:∀b u,b≠e->h.get? b=ba u->h'.get? b=ba u)(d:∃u,h'.get? e=ba u):Un fs ex H (aW H x o) h h':=by
 have i:∀b,H b=gV->b≠x:=λb n z=>by subst z;rw[n]at c;show c
 have g:∀b,H b=gV->b≠e:=λb n z=>by
  subst z;rcases j with r|r
  ·show i b n r
  ·rw[n]at r;cases r
 have f:∀b u,H b=ba u->¬ JU (ba u)->b≠x:=λb u q nm z=>by subst z;rw[q]at c;show nm c
 show#[λb u q n _ _=>k b u (g b n) q,λb u q n _ _=>#[u.slots,k b u (g b n) q],λb u q n _=>by rw[am (i b n)];show n,λb u q _=>?_,
  λb xs q=>by rw[am (f b _ q λz=>z)];show q,λb u xs q=>by rw[am (f b _ q λz=>z)];show q,λb ps q=>#[#[],by rw[am (f b _ q λz=>z),q];rfl]]
 by_cases a:b=e
 ·subst a;show d
 ·show#[u,k b u a q]
end
abbrev NS (h:Pr)(H:Hp):Ow OF:=(Pj ⇑h.objs).filter λa=>(H a).isSome
abbrev nD (h:Pr)(H:Hp):Pr:=PySem.W.hideAll h (NS h H)
def vM (h:Pr)(H:Hp):(nD h H).objs.size=⇑h.objs:=PySem.W.hideAll_size _ _
def xU (e:h.get? b=ba o)(n:H b=gV):(nD h H).get? b=ba o:=
 PySem.W.hideAll_get _ e λa=>by
  have q:=(Qy.mp a).2;rw[n]at q;simp at q
def Cc (e:(nD h H).get? b=ba o):h.get? b=ba o/\H b=gV:=by
 have a:=PySem.W.of_hideAll _ e;show#[a,?_];cases q:H b with
 |none=>rfl
 |some x=>
  have c:b∈NS h H:=Qy.mpr #[Pn.mpr (O4 a),by simp[q]]
  have z:(nD h H).get? b=gV:=PySem.W.hideAll_none _ c;rw[z]at e;cases e
abbrev Cd (g h:Pr)(L:OF):Ow (OF×Qq):=(Pj ⇑h.objs).filterMap λa=>if a=L\/(g.get? a).isSome=true then gV else(h.get? a).map λo=>(a,o)
abbrev aC (g h:Pr)(L d:OF):Ow (OF×Qq):=(Cd g h L).filter λp=>decide (p.1≠d)
structure Mod (K:OI)(mg:OM->Oz Oy)(base:Pr):Prop where
 kin:K.In base
 glob:base.Ns mainGlobals mg
 blt:∃mb,base.Ns builtinsNs mb/\∀x:OM,x≠"__name__"->mb x=bootBuiltins x
 nolimit:base.NoLimit
structure Cx where
 prog:Pe
 w:Pk
 K:OI
 mg:OM->Oz Oy
 base:Pr
 A:Pl
 N:Ow OM
 s₀:OB
 H₀:Hp
 env:U0
 outer:Ow U0
 stack:Ow U0
 ex:Ow OF
 fn:OM->O6
 calm:O6
 pn:Ow (OF×Qq)
 xe:Oy->OB->Prop
abbrev nE (l:Ow U0):Ow OF:=l.filterMap (·.frame)
noncomputable abbrev Cx.fs (X:Cx):Ow OF:=nE X.outer
abbrev Mm (sc:RN)(x:OM):Prop:=sc.names.lookup x=ba .local\/sc.names.lookup x=ba .cell\/sc.names.lookup x=ba .free
abbrev xW (sc:RN)(x:OM):Prop:=sc.names.lookup x=ba .local\/sc.names.lookup x=ba .cell
abbrev Look (env:U0)(h:Pr)(m:OM->Oz Oy)(x:OM)(u:Oy):Prop:=
 (env.kindOf x=ba .local/\m x=ba u)\/((env.kindOf x=ba .cell\/env.kindOf x=ba .free)/\∃c,env.cells.lookup x=ba c/\h.IsCell c (ba u))
noncomputable abbrev wi{α}(X:Cx):=@PySem.wpAny α (PySem.model X.prog X.w) X.A
structure Cx.Ok (X:Cx):Prop where
 mod:Mod X.K X.mg X.base
 kind:X.env.scope.kind=.function
 glob:X.env.globals=mainGlobals
 blt:X.env.builtins=builtinsNs
 above:⇑X.s₀.heap.objs<=X.env.locals
 inj:∀x y c,X.env.cells.lookup x=ba c->X.env.cells.lookup y=ba c->x=y
 has:∀x,(X.env.kindOf x=ba .cell\/X.env.kindOf x=ba .free)->∃c,X.env.cells.lookup x=ba c
 cab:∀x c,X.fn x=true->X.env.cells.lookup x=ba c->⇑X.s₀.heap.objs<=c
 hd:X.calm=true->X.A.handled=gV
 frames:X.A.frames=ba X.stack
 stk:X.stack=X.outer\/(X.stack=X.env::X.outer/\X.env.frame=ba X.env.locals)
 exf:∀b∈X.ex,b≠X.env.locals/\∀x c,X.env.cells.lookup x=ba c->c≠b
 bs:∀b o,X.base.get? b=ba o->X.s₀.heap.get? b=ba o/\X.H₀ b=gV
 bsz:⇑X.base.objs<=⇑X.s₀.heap.objs
 noex:∀b o,X.base.get? b=ba o->b∉X.ex
 exfs:∀b∈X.ex,b∉X.fs
 funs:X.s₀.heap.FunFrames X.base X.outer
 frf:∀b∈X.fs,X.H₀ b=gV
structure Inv (X:Cx)(J:Ow (OF×Qq))(Y:Ow (Oz V))(H:Hp)(s:OB):Prop where
 ok:X.Ok
 os:s.os=X.s₀.os
 bare:Ud s.gens
 base:Un X.fs X.ex X.H₀ H X.s₀.heap s.heap
 loc:∃m,s.heap.Ns X.env.locals m/\∀(i:OH) (x:OM) (v:V),X.N[i]?=ba x->Y[i]?=ba (ba v)->Mm X.env.scope x->∃u,RelV v u/\Look X.env s.heap m x u
 cell:∀x c,X.env.cells.lookup x=ba c->∃v,s.heap.IsCell c v
 free:H X.env.locals=gV
 freeC:∀x c,X.env.cells.lookup x=ba c->H c=gV
 pin:∀p∈X.pn++J,s.heap.get? p.1=ba p.2/\H p.1=gV/\p.1≠X.env.locals/\p.1∉X.fs/\∀v,p.2.data≠.cell v
 hok:HOk X.prog X.w H s.heap
 len:↥Y=↥X.N
section
variable{X:Cx}{J:Ow (OF×Qq)}{Y:Ow (Oz V)}{H H':Hp}{s:OB}{h':Pr}
def Cx.Ok.nofr (ok:X.Ok)(e:X.base.get? b=ba o):b∉X.fs:=λa=>by
 have:=(ok.funs.mem a).1;rw[e]at this;cases this
def Inv.bs (I:Inv X J Y H s):∀b o,X.base.get? b=ba o->s.heap.get? b=ba o/\H b=gV:=λb o e=>
 #[I.base.keep b o (I.ok.bs b o e).1 (I.ok.bs b o e).2 (I.ok.nofr e) (I.ok.noex b o e),I.base.free b o (I.ok.bs b o e).1 (I.ok.bs b o e).2 (I.ok.noex b o e)]
def Inv.bk (I:Inv X J Y H s):∀b o,X.base.get? b=ba o->s.heap.get? b=ba o:=λb o e=>(I.bs b o e).1
def Inv.mod (I:Inv X J Y H s):Mod X.K X.mg X.base:=I.ok.mod
def Inv.kIn (I:Inv X J Y H s):X.K.In s.heap:=I.ok.mod.kin.keeps I.bk
def Inv.lt (I:Inv X J Y H s):X.env.locals<⇑s.heap.objs:=let ⟨_,hn,_⟩:=I.loc;hn.lt
def Inv.sz (I:Inv X J Y H s):⇑X.s₀.heap.objs<=⇑s.heap.objs:=OQ I.ok.above (Q1 I.lt)
def Inv.nofs (I:Inv X J Y H s){a:OF}(h:⇑s.heap.objs<=a):a∉X.fs:=λb=>by
 obtain⟨_,o,c,_⟩:=I.ok.funs.mem b;show absurd (Pf (O4 c) (OQ I.sz h)) (P7 _)
def Inv.cne (I:Inv X J Y H s):∀x c,X.env.cells.lookup x=ba c->c≠X.env.locals:=λx c e z=>by
 obtain⟨v,o,d,hd⟩:=I.cell x c e;obtain⟨m,⟨o',es,f,b,a,_⟩,_⟩:=I.loc;rw[z,b]at d;cases d;rw[a]at hd;cases hd
def Inv.funs (I:Inv X J Y H s):s.heap.FunFrames X.base X.outer:=by
 have all:∀l,(∀b∈nE l,b∈X.fs)->X.s₀.heap.FunFrames X.base l->s.heap.FunFrames X.base l:=by
  intro l
  induction l with
  |nil=>intro _ _;trivial
  |cons env r ih=>
   intro hs hl;obtain⟨hk,⟨L,o,hf,d,f,hd⟩,g⟩:=hl;have a:=hs L (by unfold nE;rw[RD,hf];show OU)
   obtain⟨h,e⟩:=I.base.slot L o f (I.ok.frf L a) a λz=>I.ok.exfs L z a
   show#[hk,#[L,_,hf,d,e,hd],ih (λb c=>hs b (by unfold nE;rw[RD,hf];show OV _ c)) g]
 show all _ (λ_ c=>c) I.ok.funs
def Inv.stack (I:Inv X J Y H s):s.heap.FunFrames X.base X.stack:=by
 rcases I.ok.stk with e|⟨e,hf⟩
 ·rw[e];show I.funs
 ·rw[e];obtain⟨m,a,_⟩:=I.loc;show .cons (by rw[I.ok.kind];decide) hf a ?_ I.funs
  show Heap.get?_none_of_le (OQ I.ok.bsz I.ok.above)
def Inv.stkSub (I:Inv X J Y H s):∀b∈nE X.stack,b∈X.env.locals::X.fs:=λb a=>by
 rcases I.ok.stk with e|⟨e,hf⟩
 ·rw[e]at a;show OV _ a
 ·rw[e]at a;unfold nE at a;rw[RD,hf]at a;show a
def Inv.stkFree (I:Inv X J Y H s):∀b∈nE X.stack,H b=gV:=λb a=>by
 rcases O2.mp (I.stkSub b a)with e|a
 ·rw[e];show I.free
 ·obtain⟨_,o,c,_⟩:=I.ok.funs.mem a;show I.base.free b o c (I.ok.frf b a) λz=>I.ok.exfs b z a
def Inv.step {ch:Ow OF}(I:Inv X J Y H s)
  (g:∀b∈ch,(b∈X.ex\/⇑X.s₀.heap.objs<=b)/\b≠X.env.locals/\(∀x c,X.env.cells.lookup x=ba c->c≠b)/\∀p∈X.pn++J,p.1≠b)
  (keep:∀b o,b≠X.env.locals->b∉X.fs->b∉ch->s.heap.get? b=ba o->H b=gV->h'.get? b=ba o)
  (slot:∀b o,b≠X.env.locals->b∈X.fs->b∉ch->s.heap.get? b=ba o->H b=gV->∃D,h'.get? b=ba {o with slots:=D}) (free:∀b o,b∉ch->s.heap.get? b=ba o->H b=gV->H' b=gV)
  (there:∀b o,b∉ch->s.heap.get? b=ba o->∃o',h'.get? b=ba o')
  (tups:∀b xs,H b=ba (.tup xs)->H' b=ba (.tup xs)) (frzs:∀b o u,H b=ba (.frz o u)->H' b=ba (.frz o u)) (tbls:∀b ps,H b=ba (.tbl ps)->∃more,H' b=ba (.tbl (ps++more)))
  (ns:∀m,s.heap.Ns X.env.locals m->h'.Ns X.env.locals m) (C:HOk X.prog X.w H' h') (N:Ud g') :
  Inv X J Y H' {s with heap:=h',gens:=g',drawn:=d',toks:=t'}:=by
 have B:∀b o,X.s₀.heap.get? b=ba o->b≠X.env.locals:=λb o e=>Pa (Pf (O4 e) I.ok.above)
 have t:∀b o,X.s₀.heap.get? b=ba o->b∉X.ex->b∉ch:=λb o e a w=>by
  rcases(g b w).1 with z|z
  ·show a z
  ·show absurd (Pf (O4 e) z) (P7 _)
 have f:∀x c,X.env.cells.lookup x=ba c->∀v,s.heap.IsCell c v->h'.IsCell c v:=λx c e v #[o,y,hd]=>by
  have h:c∉ch:=λz=>(g c z).2.2.1 x c e rfl
  by_cases hc:c∈X.fs
  ·obtain⟨D,q⟩:=slot c o (I.cne x c e) hc h y (I.freeC x c e);show#[_,q,hd]
  ·show#[o,keep c o (I.cne x c e) hc h y (I.freeC x c e),hd]
 show#[I.ok,I.os,N,#[λb o e n w a=>?_,λb o e n w a=>?_,λb o e n a=>?_,λb o e a=>?_,λb xs e=>tups b xs (I.base.tups b xs e),λb o xs e=>frzs b o xs (I.base.frzs b o xs e),λb ps e=>?_],?_,λx c e=>?_,?_,λx c e=>?_,λp G=>?_,C,I.len]
 ·show keep b o (B b o e) w (t b o e a) (I.base.keep b o e n w a) (I.base.free b o e n a)
 ·obtain⟨D,j⟩:=I.base.slot b o e n w a;obtain⟨E,A⟩:=slot b _ (B b o e) w (t b o e a) j (I.base.free b o e n a);show#[E,A]
 ·obtain⟨o',j⟩:=I.base.there b o e a;show free b o' (t b o e a) j (I.base.free b o e n a)
 ·obtain⟨o',j⟩:=I.base.there b o e a;show there b o' (t b o e a) j
 ·obtain⟨P,j⟩:=I.base.tbls b ps e;obtain⟨Q,A⟩:=tbls b _ j;show#[P++Q,by rw[A,WD]]
 ·obtain⟨m,O,hl⟩:=I.loc;show#[m,ns m O,λi x v j A M=>?_]
  obtain⟨u,r,l⟩:=hl i x v j A M;show#[u,r,?_];rcases l with l|⟨k,c,e,z⟩
  ·show .inl l
  ·show .inr #[k,c,e,f x c e _ z]
 ·obtain⟨v,z⟩:=I.cell x c e;show#[v,f x c e v z]
 ·obtain⟨m,⟨o,_,_,y,_⟩,_⟩:=I.loc;show free _ o (λz=>(g _ z).2.1 rfl) y I.free
 ·obtain⟨v,o,y,hd⟩:=I.cell x c e;show free c o (λz=>(g c z).2.2.1 x c e rfl) y (I.freeC x c e)
 ·obtain⟨e,n,ne,L,d⟩:=I.pin p G;have h:p.1∉ch:=λz=>(g p.1 z).2.2.2 p G rfl
  show#[keep p.1 p.2 ne L h e n,free p.1 p.2 h e n,ne,L,d]
noncomputable abbrev ww (s:OB)(h:PySem.Heap)(t:Nat):OB:={s with heap:=h,toks:=t}
def Inv.un (I:Inv X J Y H s)(u:Un X.fs [] H H' s.heap h')(g:HOk X.prog X.w H' h'):Inv X J Y H' (ww s h' t'):=by
 obtain⟨m,⟨o,es,l,h,r⟩,_⟩:=id I.loc;obtain⟨q,i⟩:=u.any h I.free (by simp)
 show I.step (g':=s.gens) (d':=s.drawn) (ch:=[]) (λ_ z=>nomatch z) (λb o _ f _ e n=>u.keep b o e n f (by simp)) (λb o _ f _ e n=>u.slot b o e n f (by simp)) (λb o _ e n=>u.free b o e n (by simp)) (λb o _ e=>u.there b o e (by simp)) u.tups u.frzs u.tbls (λp j=>by
  obtain⟨o',d,c,a,k⟩:=j;rw[h]at a;cases a
  show#[_,d,c,i,k]) g I.bare
def Inv.call (I:Inv X J Y H s)(u:Un (nE X.stack) ch H H' s.heap h')(i:HOk X.prog X.w H' h')(l:Ud g')
  (a:∀b∈ch,(b∈X.ex\/⇑X.s₀.heap.objs<=b)/\b≠X.env.locals/\(∀x c,X.env.cells.lookup x=ba c->c≠b)/\∀p∈X.pn++J,p.1≠b) :
  Inv X J Y H' {s with heap:=h',gens:=g',drawn:=d',toks:=t'}:=by
 obtain⟨m,⟨o,es,v,j,r⟩,_⟩:=id I.loc;obtain⟨y,h⟩:=u.any j I.free λz=>(a _ z).2.1 rfl
 show I.step (ch:=ch) a (λb o h k hc e n=>u.keep b o e n (λz=>(O2.mp (I.stkSub b z)).elim h k) hc) (λb o _ _ hc e n=>u.any e n hc) (λb o hc e n=>u.free b o e n hc) (λb o hc e=>u.there b o e hc) u.tups u.frzs u.tbls (λw q=>by
  obtain⟨o',g,f,d,t⟩:=q;rw[j]at d;cases d
  show#[_,g,f,h,t]) i l
def Inv.turned (I:Inv X J Y H s)(k:∀b o,b≠it->s.heap.get? b=ba o->h'.get? b=ba o)(t:H it=gV)(d:it≠X.env.locals)
  (g:it∈X.ex\/⇑X.s₀.heap.objs<=it) (h:∀x c,X.env.cells.lookup x=ba c->c≠it) (i:∀p∈X.pn++J,p.1≠it):Inv X J Y H (ww s h' t'):=by
 have a:∀b u,H b=ba u->b≠it:=λb u e z=>by rw[z,t]at e;cases e
 show I.step (g':=s.gens) (d':=s.drawn) (ch:=[it]) (λb j=>?_) (λb o _ _ hc e _=>k b o (λz=>hc (by simp[z])) e) (λb o _ _ hc e _=>#[o.slots,k b o (λz=>hc (by simp[z])) e]) (λ_ _ _ _ n=>n)
  (λb o hc e=>#[o,k b o (λz=>hc (by simp[z])) e]) (λ_ _ e=>e) (λ_ _ _ e=>e) (λb ps e=>#[#[],by rw[e];simp]) (λm l=>?_) (λb u e=>?_) I.bare
 ·have e:b=it:=by simpa using j
  subst e;show#[g,d,h,i]
 ·obtain⟨o,es,f,w,r⟩:=l;show#[o,es,f,k _ o (Ne.symm d) w,r]
 ·show(I.hok b u e).stay (λc v hc q=>k c v ?_ q) (λ_ q=>q) λ_ _ q=>q
  rcases hc with z|z
  ·rw[z];show a b u e
  ·show a c _ z
def Inv.tok (I:Inv X J Y H s)(t:OH):Inv X J Y H {s with toks:=t}:=I.un   Un.refl I.hok
def Inv.kept (I:Inv X J Y H s)(k:∀b u,s.heap.get? b=ba u->h'.get? b=ba u):Inv X J Y H (ww s h' t'):=I.un (Un.kept k) (I.hok.kept k)
def Inv.laid {a:OF}(I:Inv X J Y H s)(k:∀b u,s.heap.get? b=ba u->h'.get? b=ba u)(c:⇑s.heap.objs<=a)(new:ObjOk X.prog X.w (aW H a o) h' a o) :
  Inv X J Y (aW H a o) (ww s h' t'):=I.un (Un.laid k c (I.hok.fresh c)) (I.hok.laid k c new)
def Inv.write (I:Inv X J Y H s)(d:JU (H x))(c:e=x\/H e=ba (.own x))(k:∀b u,b≠e->s.heap.get? b=ba u->h'.get? b=ba u)(a:∃u,h'.get? e=ba u)
  (new:ObjOk X.prog X.w (aW H x o) h' x o):Inv X J Y (aW H x o) (ww s h' t'):=I.un (Un.write d c k a) (I.hok.write d c k a new)
def Inv.pins_of (I:Inv X J Y H s)(h:∀p∈J',s.heap.get? p.1=ba p.2/\H p.1=gV/\p.1≠X.env.locals/\p.1∉X.fs/\∀v,p.2.data≠.cell v):Inv X J' Y H s:=
 #[I.ok,I.os,I.bare,I.base,I.loc,I.cell,I.free,I.freeC,λp a=>(Px.mp a).elim (λz=>I.pin p (PU _ z)) (h p),I.hok,I.len]
def kL {N:Ow OM}(e:N.Nodup){ j:OH}(a:N[i]?=ba x)(b:N[j]?=ba x):i=j:=by
 obtain⟨f,c⟩:=OS.mp a;obtain⟨g,d⟩:=OS.mp b;show(Si e).mp (c.trans d.symm)
def vN (I:Inv X J Y H s)(hN:X.N.Nodup)(hi:X.N[i]?=ba x)(l:xW X.env.scope x)(r:RelV v u)
  (h:∀s',Inv X J (Y.set i (ba v)) H s'->(∃a,Q5 a s.heap s'.heap/\(a=X.env.locals\/X.env.cells.lookup x=ba a))->Q () s') (hf:X.fn x=true\/X.env.scope.names.lookup x=ba .local):wpAny S A (storeName X.env x u) Q E s:=by
 obtain⟨m,U,hl⟩:=id I.loc;have M:(X.env.scope.kind==.class||(X.env.scope.kind==.module&&X.env.locals != X.env.globals))=false:=by rw[I.ok.kind];rfl
 have hiσ:i<↥Y:=by rw[I.len];show(OS.mp hi).1
 have cne:=I.cne;have g:∀{a:OF}{h':Pr},(∃o,s.heap.get? a=ba o/\H a=gV)->Q5 a s.heap h'->HOk X.prog X.w H h':=λ{a h'} ha hs b ob e=>by
  obtain⟨_,_,t⟩:=ha;show(I.hok b ob e).stay (λc R hc q=>(hs.2 c ?_).trans q) (λ_ q=>q) λ_ _ q=>q
  rintro rfl;rcases hc with rfl|hc
  ·rw[t]at e;cases e
  ·rw[t]at hc;cases hc
 rcases l with hk|hk
 ·show wpAny_storeName_local hk U (λh' W hs=>?_) M
  obtain⟨oL,_,_,Z,_⟩:=id U;show h _ #[I.ok,I.os,I.bare,#[λb o e n B l=>?_,λb o e n B l=>?_,I.base.free,λb o e l=>?_,I.base.tups,I.base.frzs,I.base.tbls],#[_,W,λj y v' f w T=>?_],λy c e=>?_,I.free,I.freeC,λp hp=>?_,g #[oL,Z,I.free] hs,by simpa using I.len] #[_,hs,.inl rfl]
  ·show(hs.2 b (Pa (Pf (O4 e) I.ok.above))).trans (I.base.keep b o e n B l)
  ·obtain⟨sl,f⟩:=I.base.slot b o e n B l;show#[sl,(hs.2 b (Pa (Pf (O4 e) I.ok.above))).trans f]
  ·obtain⟨o',f⟩:=I.base.there b o e l;show#[o',(hs.2 b (Pa (Pf (O4 e) I.ok.above))).trans f]
  ·by_cases D:j=i
   ·subst D;rw[hi]at f;cases f
    rw[QQ hiσ]at w;cases w;show#[u,r,.inl #[hk,by simp]]
   ·rw[SR (Ne.symm D)]at w;obtain⟨u',r',q⟩:=hl j y v' f w T;show#[u',r',?_];rcases q with⟨k,e⟩|⟨k,c,e,z⟩
    ·show .inl #[k,?_];have:y≠x:=λe=>D (kL hN f (e▸hi))
     simp[this,e]
    ·show .inr #[k,c,e,z.sameBut hs (cne y c e)]
  ·obtain⟨R,z⟩:=I.cell y c e;show#[R,z.sameBut hs (cne y c e)]
  ·obtain⟨e,n,ne,nf,d⟩:=I.pin p hp;show#[(hs.2 p.1 ne).trans e,n,ne,nf,d]
 ·have C:X.fn x=true:=by
   rcases hf with z|z
   ·show z
   ·rw[z]at hk;cases hk
  obtain⟨c,hc⟩:=I.ok.has x (.inl hk);obtain⟨R,z⟩:=I.cell x c hc;show wpAny_storeName_cell I.ok.kind hk hc z (λh' G hs=>?_)
  obtain⟨oc,N,O⟩:=id z;show h {s with heap:=h'} #[I.ok,I.os,I.bare,#[λb o e n B l=>?_,λb o e n B l=>?_,I.base.free,λb o e l=>?_,I.base.tups,I.base.frzs,I.base.tbls],#[m,U.sameBut hs (Ne.symm (cne x c hc)),λj y v' f w T=>?_],λy P e=>?_,I.free,I.freeC,λp hp=>?_,g #[oc,N,I.freeC x c hc] hs,by simpa using I.len] #[c,hs,.inr hc]
  ·show(hs.2 b (Pa (Pf (O4 e) (I.ok.cab x c C hc)))).trans (I.base.keep b o e n B l)
  ·obtain⟨sl,f⟩:=I.base.slot b o e n B l;show#[sl,(hs.2 b (Pa (Pf (O4 e) (I.ok.cab x c C hc)))).trans f]
  ·obtain⟨o',f⟩:=I.base.there b o e l;show#[o',(hs.2 b (Pa (Pf (O4 e) (I.ok.cab x c C hc)))).trans f]
  ·by_cases D:j=i
   ·subst D;rw[hi]at f;cases f
    rw[QQ hiσ]at w;cases w;show#[u,r,.inr #[.inl hk,c,hc,G]]
   ·rw[SR (Ne.symm D)]at w;obtain⟨u',r',q⟩:=hl j y v' f w T;show#[u',r',?_];rcases q with q|⟨k,P,e,z'⟩
    ·show .inl q
    ·show .inr #[k,P,e,z'.sameBut hs ?_];rintro rfl;show D (kL hN f (I.ok.inj _ _ _ e hc▸hi))
  ·by_cases L:P=c
   ·subst L;show#[_,G]
   ·obtain⟨w2,z2⟩:=I.cell y P e;show#[w2,z2.sameBut hs L]
  ·obtain⟨e,n,ne,nf,d⟩:=I.pin p hp;show#[(hs.2 p.1 ?_).trans e,n,ne,nf,d];intro q;rw[q,N]at e;have q':oc=p.2:=PR e;show d R (by rw[<- q'];show O)
def ik (I:Inv X J Y H s)(d:X.N.Nodup)(hi:X.N[i]?=ba x)(e:xW X.env.scope x)(r:RelV v u)
  (h:∀a,Inv X J (Y.set i (ba v)) H a->Q () a) (hf:X.fn x=true\/X.env.scope.names.lookup x=ba .local):wpAny b A (storeName X.env x u) Q E s:=
 vN I d hi e r (λa c _=>h a c) hf
def Inv.call' (I:Inv X J Y H s)(h:a.os=s.os)(u:Un (nE X.stack) ch H H' s.heap a.heap)(f:HOk X.prog X.w H' a.heap)(g:Ud a.gens)
  (d:∀b∈ch,(b∈X.ex\/⇑X.s₀.heap.objs<=b)/\b≠X.env.locals/\(∀x c,X.env.cells.lookup x=ba c->c≠b)/\∀p∈X.pn++J,p.1≠b):Inv X J Y H' a:=by
 obtain⟨h',g',d',t',o'⟩:=a;have e:o'=s.os:=h;subst e;show I.call (g':=g') (t':=t') (d':=d') u f g d
end
noncomputable abbrev XK:=Oy->Oz OF->Hp->Prop
noncomputable abbrev St:=Ow (Oz V)
noncomputable abbrev VK:=V->Hp->Prop
noncomputable abbrev TE:=St->Hp->VK->Prop
noncomputable abbrev TT:=St->Hp->(O6->Hp->Prop)->Prop
noncomputable abbrev TA:=St->Hp->(Ow V->Hp->Prop)->Prop
structure Ends where
 nx:St->Hp->Prop
 rt:VK
 bk:St->Hp->Prop:=λ_ _=>P0
 ct:St->Hp->Prop:=λ_ _=>P0
noncomputable abbrev TS:=Ends->St->Hp->Prop
inductive EP (X:Cx)(J:Ow (OF×Qq))(Y:St)(Q:VK)(u:Oy)(s':OB):Prop
 |mk (v:V) (H':Hp) (i:Inv X J Y H' s') (r:RelV v u) (q:Q v H'):EP X J Y Q u s'
inductive TP (X:Cx)(J:Ow (OF×Qq))(Y:St)(Q:O6->Hp->Prop)(b:O6)(s':OB):Prop
 |mk (H':Hp) (i:Inv X J Y H' s') (q:Q b H'):TP X J Y Q b s'
inductive AP (X:Cx)(J:Ow (OF×Qq))(Y:St)(Q:Ow V->Hp->Prop)(us:Ow Oy)(s':OB):Prop
 |mk (vs:Ow V) (H':Hp) (i:Inv X J Y H' s') (r:Vals vs us) (q:Q vs H'):AP X J Y Q us s'
abbrev SP (X:Cx)(J:Ow (OF×Qq))(D:Ends)(f:ZO)(c:OB):Prop:=
 match f with
 |.next=>∃b a,Inv X J b a c/\D.nx b a
 |.brk=>∃b a,Inv X J b a c/\D.bk b a
 |.cont=>∃b a,Inv X J b a c/\D.ct b a
 |.ret u=>∃v b a,Inv X J b a c/\RelV v u/\D.rt v a
abbrev PE (X:Cx)(e:Pb)(t:TE):Prop:=
 ∀(J:Ow (OF×Qq)) (s:OB) (Y:St) (H:Hp) (Q:VK),Inv X J Y H s->t Y H Q->wi X (eval e X.env) (EP X J Y Q) X.xe s
abbrev PT (X:Cx)(e:Pb)(t:TT):Prop:=
 ∀(J:Ow (OF×Qq)) (s:OB) (Y:St) (H:Hp) (Q:O6->Hp->Prop),Inv X J Y H s->t Y H Q->wi X (isTrue e X.env (eval e X.env)) (TP X J Y Q) X.xe s
abbrev PW (X:Cx)(e:Pb)(t:TT):Prop:=
 ∀(a:Yu Oy) (J:Ow (OF×Qq)) (s:OB) (Y:St) (H:Hp) (Q:O6->Hp->Prop),Inv X J Y H s->t Y H Q->wi X (isTrue e X.env a) (TP X J Y Q) X.xe s
def PW.pt (h:PW X e t):PT X e t:=h _
abbrev PA (X:Cx)(es:Ow Pb)(t:TA):Prop:=
 ∀(pos:Rl) (J:Ow (OF×Qq)) (s:OB) (Y:St) (H:Hp) (Q:Ow V->Hp->Prop),Inv X J Y H s->t Y H Q->wi X (spliced (backTo pos (starEach es X.env))) (AP X J Y Q) X.xe s
abbrev PS (X:Cx)(st:Qj)(t:TS):Prop:=
 ∀(J:Ow (OF×Qq)) (s:OB) (Y:St) (H:Hp) (D:Ends),Inv X J Y H s->t D Y H->wi X (exec st X.env) (SP X J D) X.xe s
abbrev PSs (X:Cx)(st:Ow Qj)(t:TS):Prop:=
 ∀(J:Ow (OF×Qq)) (s:OB) (Y:St) (H:Hp) (D:Ends),Inv X J Y H s->t D Y H->wi X (execs st X.env) (SP X J D) X.xe s
def a9 (h:wpAny b A t Q E s)(d:∀a s,Q a s->c a s):wpAny b A t c E s:=P4 h d λ_ _ x=>x
section
variable{X:Cx}
abbrev pG (i:OH):TE:=λY H Q=>∃v,Y[i]?=ba (ba v)/\Q v H
abbrev tC (v:V):TE:=λ_ H Q=>Q v H
def gR {pos:Rl}(d:X.N[i]?=ba x)(j:Mm X.env.scope x)(hd:(x==("__debug__"))=false:=by decide)(b:(x==("__classdict__"))=false:=by decide):PE X (.Name x pos) (pG i):=by
 intro J s Y H Q I h;obtain⟨v,e,h⟩:=h;obtain⟨m,g,hl⟩:=I.loc;obtain⟨u,r,l⟩:=hl i x v d e j;have fin:EP X _ Y Q u s:=#[v,H,I,r,h];rcases l with⟨hk,f⟩|⟨hk,c,hc,a⟩
 ·show X9 (wpAny_loadName_local I.ok.kind hk g f fin) hd
 ·rcases hk with hk|hk
  ·show X9 (wpAny_loadName_cell I.ok.kind hk hc a fin) hd
  ·show X9 (wpAny_loadName_free I.ok.kind hk hc a fin b) hd
def xX {  pos}:PE X (.Constant (.int i) j pos) (tC (.int i)):=λ_ _ _ H _ I h=>wpAny_Constant_int #[.int i,H,I.tok _,#[_,rfl],h]
def xY {  pos}:PE X (.Constant (.bool b) j pos) (tC (.bl b)):=λ_ _ _ H _ I h=>Constant_bool #[.bl b,H,I,rfl,h]
def xZ { pos}:PE X (.Constant .none j pos) (tC .non):=λ_ _ _ H _ I h=>Constant_none #[.non,H,I,rfl,h]
def nF {  pos}:PE X (.Constant (.str x) j pos) (tC (.str x)):=λ_ _ _ H _ I h=>WE #[.str x,H,I.tok _,#[_,rfl],h]
abbrev Gl (X:Cx)(x:OM):Prop:=X.env.kindOf x=ba .globalImplicit
def eL {Y:St}(I:Inv X J Y H s)(a:Gl X x)(b:X.mg x=ba u)(h:Q u s)
  (hd:(x==("__debug__"))=false:=by decide):wi X (eval (.Name x pos) X.env) Q E s:=
 UH I.ok.kind a (Calls.loadGlobal_global (by rw[I.ok.glob];show I.mod.glob.keeps I.bk) b h) hd
def jn {E:Oy->OB->Prop}{Y:St}{pos:Rl}(I:Inv X J Y H s)(c:Gl X x)(d:X.mg x=gV)(f:bootBuiltins x=ba u)(h:Q u s)
  (e:x≠"__name__":=by decide) (hd:(x==("__debug__"))=false:=by decide):wi X (eval (.Name x pos) X.env) Q E s:=by
 obtain⟨g,a,b⟩:=I.mod.blt;show UH I.ok.kind c (Calls.loadGlobal_builtin (by rw[I.ok.glob];show I.mod.glob.keeps I.bk) d (by rw[I.ok.blt];show a.keeps I.bk) ((b x e).trans f) h) hd
def tW (a:Gl X x)(b:X.mg x=ba u)(r:RelV v u)(hd:(x==("__debug__"))=false:=by decide):PE X (.Name x pos) (tC v):=
 λ_ _ _ H _ I h=>eL I a b #[v,H,I,r,h] hd
def Ce {pos:Rl}(a:Gl X x)(b:X.mg x=gV)(d:bootBuiltins x=ba u)(r:RelV v u)(c:x≠"__name__":=by decide)(hd:(x==("__debug__"))=false:=by decide):PE X (.Name x pos) (tC v):=
 λ_ _ _ H _ I h=>jn I a b d #[v,H,I,r,h] c hd
variable{a b:Pb}{ta tb:TE}{pos:Rl}
variable{tA tB':TT}{aC:Ow Pb}
abbrev JV (t u:TT):TT:=λY H Q=>t Y H λc a=>if c=true then u Y a Q else Q false a
abbrev NT (t u:TT):TT:=λY H Q=>t Y H λc a=>if c=true then Q true a else u Y a Q
abbrev Mx (t:TT):TT:=λY H Q=>t Y H λc a=>Q (!c) a
def Cf (b:PT X a tA):PW X (.BoolOp .And [a] pos) tA:=by
 intro f J s Y H Q I h;show isTrue_and (a9 (b _ s Y H Q I h) λc d e=>?_)
 cases c with
 |true=>show isTrue_and_nil e
 |false=>show e
def Gk (b:PT X a tA):PW X (.BoolOp .Or [a] pos) tA:=by
 intro f J s Y H Q I h;show isTrue_or (a9 (b _ s Y H Q I h) λc d e=>?_)
 cases c with
 |false=>show isTrue_or_nil e
 |true=>show e
def Gm (e:PT X a tA)(f:PW X (.BoolOp .And (b::aC) pos) tB'):PW X (.BoolOp .And (a::b::aC) pos) (JV tA tB'):=by
 intro i J s Y H Q I h;show isTrue_and (a9 (e _ s Y H _ I h) λc g #[d,I1,q1]=>?_)
 cases c with
 |true=>show f i _ g Y d Q I1 q1
 |false=>show#[d,I1,q1]
def JW (e:PT X a tA)(f:PW X (.BoolOp .Or (b::aC) pos) tB'):PW X (.BoolOp .Or (a::b::aC) pos) (NT tA tB'):=by
 intro i J s Y H Q I h;show isTrue_or (a9 (e _ s Y H _ I h) λc g #[d,I1,q1]=>?_)
 cases c with
 |true=>show#[d,I1,q1]
 |false=>show f i _ g Y d Q I1 q1
def Gn (d:PT X a tA):PT X (.UnaryOp .Not a pos) (Mx tA):=by
 intro J s Y H Q I h;show isTrue_not (a9 (d _ s Y H (λc b=>Q _ b) I h) λ_ _ #[b,i,q]=>#[b,i,q])
abbrev JX (ta tb:TE):TE:=λY H Q=>ta Y H λx a=>∃c,x=.bl c/\if c=true then tb Y a Q else Q (.bl false) a
abbrev My (ta tb:TE):TE:=λY H Q=>ta Y H λx a=>∃c,x=.bl c/\if c=true then Q (.bl true) a else tb Y a Q
abbrev JY (ta:TE):TE:=λY H Q=>ta Y H λx a=>∃c,x=.bl c/\Q (.bl (!c)) a
def Go {op}(h:PE X a t):PE X (.BoolOp op [a] pos) t:=λJ s Y H Q I hw=>BoolOp_one (h _ s Y H Q I hw)
def Gp (e:PE X a ta)(f:PE X (.BoolOp .And (b::aC) pos) tb):PE X (.BoolOp .And (a::b::aC) pos) (JX ta tb):=by
 intro J s Y H Q I h;show BoolOp_and (a9 (e _ s Y H _ I h) λv g #[x,H1,I1,r1,d]=>?_)
 obtain⟨c,rfl,d⟩:=d;cases r1;show QF ?_;cases c with
 |true=>show f _ g Y H1 Q I1 d
 |false=>show#[.bl _,H1,I1,rfl,d]
def JZ (e:PE X a ta)(f:PE X (.BoolOp .Or (b::aC) pos) tb):PE X (.BoolOp .Or (a::b::aC) pos) (My ta tb):=by
 intro J s Y H Q I h;show BoolOp_or (a9 (e _ s Y H _ I h) λv g #[x,H1,I1,r1,d]=>?_)
 obtain⟨c,rfl,d⟩:=d;cases r1;show QF ?_;cases c with
 |false=>show f _ g Y H1 Q I1 d
 |true=>show#[.bl _,H1,I1,rfl,d]
def Gq (d:PE X a ta):PE X (.UnaryOp .Not a pos) (JY ta):=by
 intro J s Y H Q I h;show UnaryOp_ (a9 (d _ s Y H _ I h) λv e #[x,H1,I1,r1,b]=>?_)
 obtain⟨c,rfl,b⟩:=b;cases r1;show not_of (QF #[.bl _,H1,I1,rfl,b])
abbrev N9 (t:TT)(ta tb:TE):TE:=λY H Q=>t Y H λc a=>if c=true then ta Y a Q else tb Y a Q
def x4 (hc:PT X c tA)(g:PE X a ta)(i:PE X b tb):PE X (.IfExp c a b pos) (N9 tA ta tb):=by
 intro J s Y H Q I h;show wpAny_IfExp (a9 (hc _ s Y H _ I h) λd f #[e,I1,q1]=>?_)
 cases d with
 |true=>show g _ f Y e Q I1 q1
 |false=>show i _ f Y e Q I1 q1
end
abbrev SqL (K:OI)(H:Hp)(a:OF)(xs:Ow V):Prop:=
 Rd H a (.lst xs)\/
  ∃(o:Qq) (its:Pc Oy) (n:OH),K.lookup a=ba o/\o.cls=.type "list"/\o.dict=gV/\o.data=.seq its n/\⇑its<=sizeLine/\Vals xs its.toList
abbrev SqT (K:OI)(H:Hp)(a:OF)(xs:Ow V):Prop:=
 Rd H a (.tup xs)\/
  ∃(o:Qq) (its:Pc Oy) (n:OH),K.lookup a=ba o/\o.cls=.type "tuple"/\o.dict=gV/\o.data=.seq its n/\⇑its<=sizeLine/\Vals xs its.toList
abbrev Cg:Oy->Oz V
 |.none=>ba .non
 |.bool b=>ba (.bl b)
 |.int i _=>ba (.int i)
 |.str x _=>ba (.str x)
 |.bytes b _=>ba (.byt b)
 |.float b _=>ba (.flt b)
 |.ref a=>ba (.ref a)
 |.type n=>ba (.ty n)
 |_=>gV
def RelV.abs (r:RelV x u):Cg u=ba x:=by
 cases x with
 |non=>cases r;rfl
 |bl _=>cases r;rfl
 |int _=>obtain⟨t,rfl⟩:=r;rfl
 |str _=>obtain⟨t,rfl⟩:=r;rfl
 |byt _=>obtain⟨t,rfl⟩:=r;rfl
 |flt _=>obtain⟨t,rfl⟩:=r;rfl
 |ref _=>cases r;rfl
 |ty _=>cases r;rfl
def RelV.inj (r:RelV x u)(q:RelV y u):x=y:=PR (r.abs.symm.trans q.abs)
def Vals.inj:∀{xs a:Ow V}{us:Ow Oy},Vals xs us->Vals a us->xs=a
 |_,_,_,.nil,.nil=>rfl
 |_,_,_,.cons r t,.cons b t'=>by rw[r.inj b,Vals.inj t t']
section
variable{X:Cx}{J:Ow (OF×Qq)}{Y:St}{H:Hp}{s:OB}{a:OF}{xs ys:Ow V}
def SqL.of {K:OI}(h:H a=ba (.lst xs)):SqL K H a xs:=.inl (.inl h)
def SqT.of {K:OI}(h:H a=ba (.tup xs)):SqT K H a xs:=.inl (.inl h)
def Inv.list (I:Inv X J Y H s)(h:SqL X.K H a xs):∃its:Ow Oy,Vals xs its/\PlainL s.heap a its.toArray/\↥xs<=sizeLine:=by
 rcases h with h|⟨o,its,n,hk,hc,hd,hs,b,r⟩
 ·obtain⟨z,its,n,r,e⟩:=h.ok I.hok;show#[its,r,#[_,n,e,rfl,rfl,rfl],z]
 ·show#[its.toList,r,#[o,n,I.kIn a o hk,hc,hd,by simpa using hs],?_]
  have e:=↥r;simp only[OW]at e;omega
def Inv.tuple (I:Inv X J Y H s)(h:SqT X.K H a xs):∃its:Ow Oy,Vals xs its/\Wt s.heap a its.toArray/\↥xs<=sizeLine:=by
 rcases h with h|⟨o,its,n,hk,hc,hd,hs,b,r⟩
 ·obtain⟨z,its,r,p⟩:=h.ok I.hok;show#[its,r,p,z.1]
 ·show#[its.toList,r,#[o,I.kIn a o hk,hc,n,by simpa using hs],?_]
  have e:=↥r;simp only[OW]at e;omega
def Inv.list_inj (I:Inv X J Y H s)(h:SqL X.K H a xs)(h':SqL X.K H a ys):xs=ys:=by
 obtain⟨its,r,⟨o,n,e,_,_,d⟩,_⟩:=I.list h;obtain⟨b,f,⟨o',g,c,_,_,d'⟩,_⟩:=I.list h';rw[e]at c;cases c
 rw[d]at d';injection d' with d1 _
 have:its=b:=by simpa using congrArg YR d1
 subst this;show r.inj f
def Inv.tuple_inj (I:Inv X J Y H s)(h:SqT X.K H a xs)(h':SqT X.K H a ys):xs=ys:=by
 obtain⟨its,r,⟨o,e,_,n,d⟩,_⟩:=I.tuple h;obtain⟨b,f,⟨o',c,_,g,d'⟩,_⟩:=I.tuple h';rw[e]at c;cases c
 rw[d]at d';injection d' with d1 _
 have:its=b:=by simpa using congrArg YR d1
 subst this;show r.inj f
end
noncomputable abbrev Cx.wish (X:Cx)(E:Oy->OB->Prop):Cx:={X with xe:=E}
noncomputable abbrev Cx.nox (X:Cx):Cx:=X.wish λ_ _=>P0
def Cx.Ok.wish {X:Cx}(ok:X.Ok)(E:Oy->OB->Prop):(X.wish E).Ok:=
 #[ok.mod,ok.kind,ok.glob,ok.blt,ok.above,ok.inj,ok.has,ok.cab,ok.hd,ok.frames,ok.stk,ok.exf,ok.bs,ok.bsz,ok.noex,ok.exfs,ok.funs,ok.frf]
def Cx.Ok.unwish {X:Cx}(ok:(X.wish E).Ok):X.Ok:=
 #[ok.mod,ok.kind,ok.glob,ok.blt,ok.above,ok.inj,ok.has,ok.cab,ok.hd,ok.frames,ok.stk,ok.exf,ok.bs,ok.bsz,ok.noex,ok.exfs,ok.funs,ok.frf]
section
variable{X:Cx}{J:Ow (OF×Qq)}{Y:St}{H:Hp}{s:OB}{E:Oy->OB->Prop}
def Inv.wish (I:Inv X J Y H s)(E:Oy->OB->Prop):Inv (X.wish E) J Y H s:=#[I.ok.wish E,I.os,I.bare,I.base,I.loc,I.cell,I.free,I.freeC,I.pin,I.hok,I.len]
def Inv.unwish (I:Inv (X.wish E) J Y H s):Inv X J Y H s:=#[I.ok.unwish,I.os,I.bare,I.base,I.loc,I.cell,I.free,I.freeC,I.pin,I.hok,I.len]
def SP.unwish (h:SP (X.wish E) J D f c):SP X J D f c:=by
 cases f with
 |next=>obtain⟨b,a,I,q⟩:=h;show#[b,a,I.unwish,q]
 |brk=>obtain⟨b,a,I,q⟩:=h;show#[b,a,I.unwish,q]
 |cont=>obtain⟨b,a,I,q⟩:=h;show#[b,a,I.unwish,q]
 |ret u=>obtain⟨v,b,a,I,r,q⟩:=h;show#[v,b,a,I.unwish,r,q]
def PSs.nox {st:Ow Qj}(h:PSs X.nox st t):PSs X st t:=λJ s Y H D I hw=>
 P4 (h _ s Y H D (I.wish _) hw) (λ_ _ q=>q.unwish) λ_ _ z=>P0.elim z
end
section
variable{X:Cx}{st:Qj}{aC:Ow Qj}{t u:TS}{e:Pb}{te:TE}{pos:Rl}
abbrev x5:TS:=λD Y H=>D.nx Y H
abbrev J0 (t u:TS):TS:=λD Y H=>t {D with nx:=u D} Y H
def Ch:PSs X [] x5:=λ_ _ Y H _ I h=>Um #[Y,H,I,h]
def kM (d:PS X st t)(e:PSs X aC u):PSs X (st::aC) (J0 t u):=by
 intro J s Y H D I h;show Xk (a9 (d _ s Y H _ I h) λf g q=>?_)
 cases f with
 |next=>
  obtain⟨c,a,b,q⟩:=q;show e _ g c a D b q
 |ret v=>show q
 |brk=>show q
 |cont=>show q
def tY (a:PS X st t):PSs X [st] t:=by
 intro J s Y H D I h;show Xk (a9 (a J s Y H D I h) λf b q=>?_)
 cases f with
 |next=>show Um q
 |ret v=>show q
 |brk=>show q
 |cont=>show q
def Ci:PS X (.Pass pos) x5:=λ_ _ Y H _ I h=>wpAny_Pass #[Y,H,I,h]
def Inv.quiet {Y:St}(I:Inv X J Y H s):interactive X.env=false:=by simp[interactive,I.ok.kind]
def Gr {   pos'}:PS X (.Expr (.Constant (.str x) j pos) pos') x5:=λ_ s Y H _ I h=>wpAny_Expr (WE (show SP X _ _ .next {s with toks:=s.toks+1} from#[Y,H,I.tok _,h])) I.quiet
abbrev Fh (te:TE):TS:=λD Y H=>te Y H λ_ a=>D.nx Y a
def tZ (a:PE X e te)(hs:swapsWith e gV pos.line X.env=pure false:=by rfl):PS X (.Expr e pos) (Fh te):=by
 intro J s Y H D I h;show wpAny_Expr_any (a9 (a _ s Y H _ I h) λv b #[x,H1,I1,r1,q1]=>#[Y,H1,I1,q1]) I.quiet hs
abbrev Mz (te:TE):TS:=λD Y H=>te Y H D.rt
def Gs (a:PE X e te):PS X (.Return (ba e) pos) (Mz te):=by
 intro J s Y H D I h;show wpAny_Return_some (a9 (a _ s Y H _ I h) λv b #[x,H1,I1,r1,q1]=>#[x,Y,H1,I1,r1,q1])
abbrev MA (c:TT)(t u:TS):TS:=λD Y H=>c Y H λb a=>if b=true then t D Y a else u D Y a
def x6 (hc:PT X c g)(i:PSs X a t)(j:PSs X b u):PS X (.If c a b pos) (MA g t u):=by
 intro J s Y H D I h;show wpAny_If (a9 (hc _ s Y H _ I h) λd f #[e,I1,q1]=>?_)
 cases d with
 |true=>show i _ f Y e D I1 q1
 |false=>show j _ f Y e D I1 q1
end
noncomputable abbrev TG:=V->St->Hp->(St->Hp->Prop)->Prop
noncomputable abbrev Gu:=Ow V->St->Hp->(St->Hp->Prop)->Prop
abbrev PG (X:Cx)(a:Pb)(t:TG):Prop:=
 ∀(J:Ow (OF×Qq)) (s:OB) (Y:St) (H:Hp) (v:V) (u:Oy) (Q:St->Hp->Prop),Inv X J Y H s->RelV v u->t v Y H Q->
  wi X (assign a X.env u) (λ_ d=>∃c b,Inv X J c b d/\Q c b) X.xe s
abbrev Jqa (X:Cx)(ts:Ow Pb)(t:Gu):Prop:=
 ∀(J:Ow (OF×Qq)) (s:OB) (Y:St) (H:Hp) (vs:Ow V) (us:Ow Oy) (Q:St->Hp->Prop),Inv X J Y H s->Vals vs us->t vs Y H Q->
  wi X (assignInOrder ((assignEach ts X.env).map (·.2)) us) (λ_ c=>∃b a,Inv X J b a c/\Q b a) X.xe s
noncomputable abbrev Gv:=V->V->V->Hp->(Hp->Prop)->Prop
abbrev Gw (X:Cx)(t:Gv):Prop:=
 ∀(J:Ow (OF×Qq)) (s:OB) (Y:St) (H:Hp) (o i v:V) (ov iv u:Oy) (Q:Hp->Prop),Inv X J Y H s->RelV o ov->RelV i iv->RelV v u->t o i v H Q->
  wi X (setItem ov iv u) (λ_ b=>∃a,Inv X J Y a b/\Q a) X.xe s
section
variable{X:Cx}{pos:Rl}
abbrev J2 (i:OH):TG:=λv Y H Q=>Q (Y.set i (ba v)) H
def t4 (b:X.N.Nodup)(hi:X.N[i]?=ba x)(c:xW X.env.scope x)(hf:X.fn x=true\/X.env.scope.names.lookup x=ba .local):PG X (.Name x pos) (J2 i):=by
 intro J s Y H v u Q I r h;show WO (ik I b hi c r (λd a=>#[_,H,a,h]) hf)
abbrev MB:Gu:=λvs Y H Q=>vs=[]/\Q Y H
abbrev J3 (t:TG)(u:Gu):Gu:=λvs Y H Q=>∃v r,vs=v::r/\t v Y H λb a=>u r b a Q
def Cj:Jqa X [] MB:=by
 intro J s Y H vs us Q I r h;obtain⟨e,h⟩:=h;subst e;cases r;show assignInOrder_nil #[Y,H,I,h]
def x8 (c:PG X e t)(d:Jqa X es u)
  (hs:(assignEach (e::es) X.env).map (·.2)=assign e X.env::(assignEach es X.env).map (·.2):=by rfl):Jqa X (e::es) (J3 t u):=by
 intro J s Y H vs us Q I r h;obtain⟨v,i,b,h⟩:=h;subst b;cases r with
 |cons r f=>
  rw[hs];show assignInOrder_cons (a9 (c _ s Y H _ _ _ I r h) λ_ g #[a,H1,I1,q1]=>?_)
  show d _ g a H1 _ _ Q I1 f q1
abbrev MC (K:OI)(n:OH)(t:Gu):TG:=λv Y H Q=>∃a xs,v=.ref a/\SqT K H a xs/\↥xs=n/\t xs Y H Q
def Gx {k:OH}(hc:X.calm=true)(h:Jqa X es t)
  (i:(assignEach es X.env).length=n:=by rfl) (c:(assignEach es X.env).findIdx? (·.1)=gV:=by rfl):PG X (.Tuple es k pos) (MC X.K n t):=by
 intro J s Y H v u Q I r hw;obtain⟨a,xs,g,j,hl,hw⟩:=hw;subst g;cases r;obtain⟨its,d,ht,m⟩:=I.tuple j;show assign_Tuple_tuple (I.ok.hd hc) ht (by simp[i,<- hl,↥d]) c λh' l=>?_
 have f:Inv X _ Y H {s with heap:=h'}:=I.kept  λb o e=>l b o (Pa (O4 e)) e
 show h _ _ Y H xs _ Q f (by simpa using d) hw
abbrev MD (e d:TE)(t:Gv):TG:=λv Y H Q=>e Y H λo a=>d Y a λi b=>t o i v b λc=>Q Y c
def Gy (g:PE X o d)(hi:PE X i c)(hs:Gw X t)
  (f:∀v,assign (.Subscript o i pos) X.env v=(do
   let a <- holding [v] (eval o X.env)
   let b <- holding [v,a] (eval i X.env)
   standAt pos
   holding [v,a,b] (setItem a b v)
   release [v,a,b] []):=by intro _;rfl):PG X (.Subscript o i pos) (MD d c t):=by
 intro J s Y H v u Q I r h;rw[f];show Ox (PQ (a9 (g _ s Y H _ I h) λa j #[x,H1,I1,r1,q1]=>?_))
 show Ox (PQ (a9 (hi _ j Y H1 _ I1 q1) λb k #[y,H2,I2,r2,q2]=>?_))
 show Ox (Ue (Ox (PQ (a9 (hs _ k Y H2 x y v a b u _ I2 r1 r2 r q2) λ_ s3 #[e,I3,q3]=>?_))))
 show wpAny_release #[Y,e,I3,q3]
abbrev MF (b:TE)(g:TG):TS:=λD Y H=>b Y H λx a=>g x Y a D.nx
def Gz (c:PE X e a)(d:PG X tg g)(hs:swapsWithSole [tg] e pos.line X.env=pure false:=by rfl)(hw:swappedStores [tg] e X.env=pure gV:=by rfl)
  (b:(assignEach [tg] X.env).map (·.2)=[assign tg X.env]:=by rfl):PS X (.Assign [tg] e pos) (MF a g):=by
 intro J s Y H D I h;show wpAny_Assign_stores (a9 (c _ s Y H _ I h) λv f #[x,H1,I1,r1,q1]=>?_) hs hw
 rw[b];show a9 (d _ f Y H1 x v _ I1 r1 q1) λ_ i q=>q
abbrev GB (c:TT)(g:TS):TS:=λD Y H=>∃W:OH->St->Hp->Prop,(∃m,W m Y H)/\∀m Y H,W m Y H->
 c Y H λb d=>if b=true then ∃N:St->Hp->Prop,(∀e a,N e a->∃f,f<m/\W f e a)/\g {D with nx:=N,ct:=N,bk:=D.nx} Y d else D.nx Y d
def x9 (t:UF (model X.prog X.w) X.A X.env X.xe)(hc:PT X c w)(y:PSs X body u):PS X (.While c body [] pos) (GB w u):=by
 intro J s Y H D I h;obtain⟨W,⟨m0,C⟩,turn⟩:=h;show wpAny_While (codeAny_whileLoop (λn z=>∃q m,Inv X _ q m z/\W n q m) ?_ m0 #[Y,H,I,C])
 rintro n A ⟨e,o,x,E⟩;show R4 t (a9 (hc _ A e o _ x (turn n e o E)) λb B #[p,I2,g]=>?_)
 cases b with
 |true=>
  obtain⟨N,r,g⟩:=g;show R4 t (a9 (y _ B e p _ I2 g) λf s3 i=>?_)
  cases f with
  |next=>
   obtain⟨d,a,j,n3⟩:=i;obtain⟨l,k,w3⟩:=r d a n3;show#[l,k,d,a,j,w3]
  |cont=>
   obtain⟨d,a,j,n3⟩:=i;obtain⟨l,k,w3⟩:=r d a n3;show#[l,k,d,a,j,w3]
  |brk=>show i
  |ret v=>show i
 |false=>
  show Um #[e,p,I2,g]
end
structure It where
 go:OH->Hp->Prop
 yld:OH->Hp->V->Hp->Prop
 stop:OH->Hp->Prop
abbrev gw (X:Cx)(J:Ow (OF×Qq))(H:Hp)(b:OF):Prop:=
 H b=gV/\b≠X.env.locals/\b∉X.fs/\(b∈X.ex\/⇑X.s₀.heap.objs<=b)/\(∀x c,X.env.cells.lookup x=ba c->c≠b)/\∀p∈X.pn++J,p.1≠b
def Inv.fpOk {Y:St}{b:OF}(I:Inv X J Y H s)(a:⇑s.heap.objs<=b)(f:d b=gV):gw X J d b:=by
 show#[f,PZ (Pf I.lt a),I.nofs a,.inr (OQ I.sz a),λx c e z=>?_,λp g z=>?_]
 ·obtain⟨v,q⟩:=I.cell x c e;show absurd (Pf q.lt (by rw[z];show a)) (P7 _)
 ·show absurd (Pf (O4 (I.pin p g).1) (by rw[z];show a)) (P7 _)
structure Turn (P:Pe)(w:Pk)(K:OI)(tg:Pb)(Jqb:It)(fp:Ow OF)(it:OF)(tn:OH->Pr->Prop):Prop where
 mem:it∈fp
 obj:∀i h,tn i h->∀b∈fp,∃o,h.get? b=ba o/\∀v,o.data≠.cell v
 keep:∀i h h',tn i h->(∀b∈fp,∀o,h.get? b=ba o->h'.get? b=ba o)->tn i h'
 item:∀(X:Cx),X.prog=P->X.w=w->X.K=K->X.calm=true->∀(i:OH) (J:Ow (OF×Qq)) (s:OB) (Y:St) (H:Hp) (E:Oy->OB->Prop),Inv X J Y H s->(∀b∈fp,gw X J H b)->tn i s.heap->Jqb.go i H->
  wpAny (model P w) X.A (pyNext (.ref it)) (λr s1=>∃u,r=ba u/\
   wpAny (model P w) X.A (letOwnedTupleGo tg (.ref it) u) (λ_ s2=>∃x H',Inv X J Y H' s2/\RelV x u/\Jqb.yld i H x H'/\tn (i+1) s2.heap/\∀b∈fp,H' b=gV) E s1) E s
 done:∀(X:Cx),X.prog=P->X.w=w->X.K=K->X.calm=true->∀(i:OH) (J:Ow (OF×Qq)) (s:OB) (Y:St) (H:Hp) (E:Oy->OB->Prop),Inv X J Y H s->(∀b∈fp,gw X J H b)->tn i s.heap->Jqb.stop i H->
  wpAny (model P w) X.A (pyNext (.ref it)) (λr s1=>r=gV/\Inv X J Y H s1) E s
 self:∀(A:Pl) (i:OH) (s:OB) (Q:Oy->OB->Prop) (E:Oy->OB->Prop),tn i s.heap->Q (.ref it) s->wpAny (model P w) A (pyIter (.ref it)) Q E s
noncomputable abbrev TI:=St->Hp->(It->Hp->Prop)->Prop
abbrev J4 (X:Cx)(J:Ow (OF×Qq))(Y:St)(tg:Pb)(R:It->Hp->Prop)(a:Oy)(d:OB):Prop:=
 ∃(it:OF) (c:Ow OF) (tn:OH->Pr->Prop) (Jqb:It) (H':Hp),a=.ref it/\Inv X J Y H' d/\Turn X.prog X.w X.K tg Jqb c it tn/\tn 0 d.heap/\(∀b∈c,gw X J H' b)/\R Jqb H'
abbrev PI (X:Cx)(tg iter:Pb)(b:TI):Prop:=
 ∀(J:Ow (OF×Qq)) (s:OB) (Y:St) (H:Hp) (R:It->Hp->Prop),Inv X J Y H s->b Y H R->
  wi X (eval iter X.env) (λv a=>wi X (pyIter v) (J4 X J Y tg R) X.xe a) X.xe s
def t6 (d:s.heap.get? it=ba o)(hc:o.cls=.type n)(hd:o.data=.fields vs)
    (c:["enumerate","zip","dict_itemiterator","dict_reverseitemiterator","odict_iterator","itertools.zip_longest","itertools.pairwise"].contains n=false) (b:Q () s):wpAny a A (letOwnedTupleGo tg (.ref it) u) Q E s:=by
  unfold letOwnedTupleGo;cases tg<;>first
    |show OD b
    |(cases u<;>first
        |show OD b
        | (show Ox (Yb d ?_)
           rw[hc,hd];change wpAny a A (if (["enumerate","zip","dict_itemiterator","dict_reverseitemiterator","odict_iterator","itertools.zip_longest","itertools.pairwise"].contains n&&vs[0]?==ba (rawInt _))=true then _ else _) Q E s
           rw[Pd (by intro h;rw[c,Sj]at h;cases h)]
           show OD b))
abbrev MG (K:OI)(a:OF):It:=
 #[λi H=>∃xs x,SqL K H a xs/\xs[i]?=ba x,λi H x b=>b=H/\∀xs,SqL K H a xs->xs[i]?=ba x,λi H=>∃xs,SqL K H a xs/\↥xs<=i]
abbrev JJ (K:OI)(a:OF):It:=
 #[λi H=>∃xs x,SqT K H a xs/\xs[i]?=ba x,λi H x b=>b=H/\∀xs,SqT K H a xs->xs[i]?=ba x,λi H=>∃xs,SqT K H a xs/\↥xs<=i]
abbrev J5 (lo:O8)(n:OH):It:=#[λi _=>i<n,λi H x a=>a=H/\x=.int (lo+i),λi _=>n<=i]
def vO {K:OI}(a it:OF):Turn P w K tg (MG K a) [it] it (λi h=>h.IsListIter it a i) where
 mem:=by simp
 obj:=λi h st b f=>by
  have e:b=it:=by simpa using f
  subst e;obtain⟨o,e,c,d⟩:=st;show#[o,e,λv z=>by rw[d]at z;cases z]
 keep:=λi h h' st k=>st.at λo e=>k it (by simp) o e
 item:=by
  intro X t hw hK hc i J s Y H E I hf st y;subst t hw hK;obtain⟨xs,x,j,A⟩:=y;obtain⟨its,B,p,N⟩:=I.list j;obtain⟨u,L,O⟩:=B.get A;obtain⟨l,m,G,n,q,r⟩:=hf it (by simp)
  show wpAny_pyNext_list_item st p.isList  (by simpa using L) λh' g Q=>?_
  have C:Inv X _ Y H {s with heap:=h'}:=I.turned  (λb o f e=>(Q.2 b f).trans e) l m n q r
  obtain⟨o,e,c,d⟩:=id g;show#[u,rfl,t6  e c d #v[] #[x,H,C,O,#[rfl,λR M=>by rw[I.list_inj M j];show A],g,λb f=>(hf b f).1]]
 done:=by
  intro X t hw hK hc i J s Y H E I hf st y;subst t hw hK;obtain⟨xs,j,A⟩:=y;obtain⟨its,B,p,N⟩:=I.list j;obtain⟨l,m,G,n,q,r⟩:=hf it (by simp)
  have hl:=↥B;show wpAny_pyNext_list_end (I.ok.hd hc) st p.isList (by simp;omega) λh' D=>#[rfl,I.turned  (λb o f e=>D b o f e) l m n q r]
 self:=λ_ _ _ _ _ st h=>wpAny_pyIter_listiter st h
def rP {K:OI}(a it:OF):Turn P w K tg (JJ K a) [it] it (λi h=>h.IsTupleIter it a i) where
 mem:=by simp
 obj:=λi h st b f=>by
  have e:b=it:=by simpa using f
  subst e;obtain⟨o,e,c,d⟩:=st;show#[o,e,λv z=>by rw[d]at z;cases z]
 keep:=λi h h' st k=>st.at λo e=>k it (by simp) o e
 item:=by
  intro X t hw hK hc i J s Y H E I hf st y;subst t hw hK;obtain⟨xs,x,j,A⟩:=y;obtain⟨its,B,p,N⟩:=I.tuple j;obtain⟨u,L,O⟩:=B.get A;obtain⟨l,m,G,n,q,r⟩:=hf it (by simp)
  show wpAny_pyNext_tuple_item st p  (by simpa using L) λh' g Q=>?_
  have C:Inv X _ Y H {s with heap:=h'}:=I.turned  (λb o f e=>(Q.2 b f).trans e) l m n q r
  obtain⟨o,e,c,d⟩:=id g;show#[u,rfl,t6  e c d #v[] #[x,H,C,O,#[rfl,λR M=>by rw[I.tuple_inj M j];show A],g,λb f=>(hf b f).1]]
 done:=by
  intro X t hw hK hc i J s Y H E I hf st y;subst t hw hK;obtain⟨xs,j,A⟩:=y;obtain⟨its,B,p,N⟩:=I.tuple j;obtain⟨l,m,G,n,q,r⟩:=hf it (by simp)
  have hl:=↥B;show wpAny_pyNext_tuple_end (I.ok.hd hc) st p (by simp;omega) λh' D=>#[rfl,I.turned  (λb o f e=>D b o f e) l m n q r]
 self:=λ_ _ _ _ _ st h=>wpAny_pyIter_tupleiter st h
def rQ {K:OI}(it:OF)(lo:O8)(n:OH):Turn P w K tg (J5 lo n) [it] it (λi h=>Yqg h it (lo+i*1) (n-i) 1) where
 mem:=by simp
 obj:=λi h st b a=>by
  have e:b=it:=by simpa using a
  subst e;show#[_,st,λv z=>by
   have A:=z;cases A]
 keep:=λi h h' st k=>k it (by simp) _ st
 item:=by
  intro X p hw hK hc i J s Y H E I hf st m;subst p hw hK;obtain⟨d,f,u,g,j,l⟩:=hf it (by simp)
  have W:=Walks.range (prog:=X.prog) (w:=X.w) (I.ok.hd hc) it lo 1 n;show W.item i s _ _ m st λv h' tk x c y=>?_
  obtain⟨t,rfl⟩:=x;have q:Inv X _ Y H (ww s h' tk):=I.turned (λb o a e=>y b o (by simpa using a) e) d f g j l
  show#[_,rfl,t6   c rfl rfl #v[] #[.int _,H,q,#[t,?_],#[rfl,rfl],c,λb a=>(hf b a).1]]
  rw[Int.mul_one]
 done:=by
  intro X p hw hK hc i J s Y H E I hf st m;obtain⟨d,f,u,g,j,l⟩:=hf it (by simp)
  show wpAny_pyNext_range_end (I.ok.hd hc) st (by have:n<=i:=m;omega) λh' r=>#[rfl,I.turned  (λb o a e=>r b o a e) d f g j l]
 self:=λ_ _ _ _ _ st h=>wpAny_pyIter_rangeiter st h
section
variable{X:Cx}{tg:Pb}
def ya {Y:St}{lo :O8}(I:Inv X J Y H s)(f : -(2^62)<=lo)(g:lo<2^62)(h : -(2^62)<=hi)(i:hi<2^62)
  (q:R (J5 lo (hi-lo).toNat) H):wi X (pyIter (.ref ⇑s.heap.objs)) (J4 X J Y tg R) E {s with heap:=s.heap.push {cls:=.type "range",data:=.fields [.int lo t,.int hi u,.int 1 v].toArray},toks:=tk}:=by
 show wpAny_pyIter_range (IsRange.new ..) (small_one f g h i) ?_;have a:Inv X J Y H {s with heap:=s.heap.push {cls:=.type "range",data:=.fields [.int lo t,.int hi u,.int 1 v].toArray},toks:=tk}:=I.kept λb o e=>OA _ e
 show#[(s.heap.push {cls:=.type "range",data:=.fields [.int lo t,.int hi u,.int 1 v].toArray}).objs.size,[(s.heap.push {cls:=.type "range",data:=.fields [.int lo t,.int hi u,.int 1 v].toArray}).objs.size],_,_,H,rfl,
  a.kept (t':=tk) λb o e=>OA _ e,rQ _ lo (hi-lo).toNat,?_,λb j=>?_,q]
 ·have c:lo+((0:OH):O8)*1=lo:=by simp
  have d:(((hi-lo).toNat:OH):O8)-((0:OH):O8)=YN lo hi 1:=by rw[rangeSize_one];split<;>omega
  change Yqg _ _ (lo+((0:OH):O8)*1) ((((hi-lo).toNat:OH):O8)-((0:OH):O8)) 1;rw[c,d];show OX _ rfl
 ·have e:b=(s.heap.push {cls:=.type "range",data:=.fields [.int lo t,.int hi u,.int 1 v].toArray}).objs.size:=by simpa using j
  subst e;show a.fpOk (OR _) (a.hok.fresh (OR _))
abbrev J6 (b:TA):TI:=λY H R=>b Y H λvs a=>∃j:O8,vs=[.int j]/\-(2^62)<=j/\j<2^62/\R (J5 0 j.toNat) a
abbrev iRng2 (b:TA):TI:=λY H R=>b Y H λvs a=>∃i j:O8,vs=[.int i,.int j]/\(-(2^62)<=i/\i<2^62/\-(2^62)<=j/\j<2^62)/\R (J5 i (j-i).toNat) a
def vP (f:Gl X "range")(g:X.mg "range" = gV)(d:PA X [a] c)(hs:starEach [a] X.env=[(false,eval a X.env)]:=by rfl):PI X tg (.Call (.Name "range" p) [a] [] pos) (J6 c):=by
 intro J s Y H R I h;show Call_ (jn I f g boot_range (RI (a9 (d pos _ s Y H _ I h) λus l #[vs,H1,I1,r1,b]=>?_) hs rfl))
 obtain⟨j,e,b,i,q⟩:=b;subst e;cases r1 with
 |cons r k=>
  cases k;obtain⟨t,rfl⟩:=r;show call_range_1 (ya I1 ∅ ∅ b i (by simpa using q))
abbrev MH (k:TI)(g:TG)(j:TS):TS:=λD Y H=>k Y H λa e=>∃W:OH->OH->St->Hp->Prop,(∃m,W 0 m Y e)/\∀i m Y H,W i m Y H->
 (a.stop i H/\D.nx Y H)\/(a.go i H/\∃N:St->Hp->Prop,(∀c b,N c b->∃d,d<m/\W (i+1) d c b)/\∀x b,a.yld i H x b->g x Y b λh f=>j {D with nx:=N,ct:=N,bk:=D.nx} h f)
abbrev nG (a:Ow OF)(h:Pr):Ow (OF×Qq):=a.filterMap λb=>(h.get? b).map λo=>(b,o)
def gS (c:b∈a)(e:h.get? b=ba o):(b,o)∈nG a h:=UI.mpr #[b,c,by rw[e];rfl]
def vQ (f:p∈nG a h):p.1∈a/\h.get? p.1=ba p.2:=by
 obtain⟨b,d,e⟩:=UI.mp f;cases q:h.get? b with
 |none=>rw[q]at e;cases e
 |some o=>
  rw[q]at e;have c:=PR e;subst c;show#[d,q]
def Inv.pinned {Y:St}(I:Inv X J Y H s)(hf:∀b∈a,gw X J H b)(j:∀b∈a,∃o,s.heap.get? b=ba o/\∀v,o.data≠.cell v):Inv X (J++nG a s.heap) Y H s:=
 I.pins_of λp k=>(Px.mp k).elim (λz=>I.pin p (Pg _ z)) λz=>by
  obtain⟨f,e⟩:=vQ z;obtain⟨g,h,i,_⟩:=hf p.1 f;obtain⟨o,c,d⟩:=j p.1 f;rw[e]at c;cases c
  show#[e,g,h,i,d]
def Inv.unpinned {Y:St}(I:Inv X (J++pl) Y H s):Inv X J Y H s:=I.pins_of λp a=>I.pin p (Pg _ (PU _ a))
def GC (A:UF (model X.prog X.w) X.A X.env X.xe)(hc:X.calm=true)(hi:PI X tg iter Z)(hg:PG X tg g)(l:PSs X body U)
  (hs:∀x,foldedSetIterable iter X.env x=pure x:=by intro _;rfl):PS X (.For tg iter body [] pos) (MH Z g U):=by
 intro J s Y H D I h;show wpAny_For (a9 (hi _ s Y H _ I h) λv s1 h1=>a9 h1 λitv s2 h2=>?_) hs
 obtain⟨it,L,V,Jqb,H2,e,I2,T,aU,Q,W,⟨m0,w0⟩,turn⟩:=h2;subst e;have p:∀{q:Hp},(∀b∈L,q b=gV)->∀b∈L,gw X _ q b:=λhn b l=>#[hn b l,(Q b l).2]
 show codeAny_forLoop_any (λn R=>∃i w q,Inv X _ w q R/\V i R.heap/\(∀b∈L,q b=gV)/\W i n w q) ?_ m0 #[0,Y,H2,I2,aU,λb l=>(Q b l).1,w0]
 rintro n s3 ⟨i,y,G,P,C,z,w3⟩;rcases turn i n y G w3 with⟨E,qn⟩|⟨go,N,hN,step⟩
 ·show R4 A (a9 (T.done X rfl rfl rfl hc i _ s3 y G _ P (p z) C E) λr s4 #[O,I4]=>?_)
  subst O;show Um #[y,G,I4,qn]
 ·show R4 A (a9 (T.item X rfl rfl rfl hc i _ s3 y G _ P (p z) C go) λr s4 #[u,O,h4]=>?_)
  subst O;show R4 A (a9 h4 λ_ s5 #[x,H5,I5,r5,y5,JL,fr5]=>?_)
  have M:=I5.pinned (p fr5) (T.obj _ _ JL);show R4 A (a9 (hg _ s5 y H5 x u _ M r5 (step x H5 y5)) λ_ s6 #[Y6,H6,I6,q6]=>?_)
  show R4 A (a9 (l _ s6 Y6 H6 _ I6 q6) λf S t=>?_)
  have k:∀{j:St}{a:Hp},Inv X _ j a S->N j a->∃m,m<n/\∃i w q,Inv X J w q S/\V i _/\(∀b∈L,q b=gV)/\W i m w q:=λ{j a} c B=>by
   obtain⟨m',hm,w7⟩:=hN j a B;show#[m',hm,i+1,j,a,c.unpinned,T.keep _ _ _ JL λb l o e=>(c.pin _ (Pg _ (Pg _ (gS l e)))).1,λb l=>?_,w7]
   obtain⟨o,e,d⟩:=T.obj _ _ JL b l;show(c.pin (b,o) (Pg _ (Pg _ (gS l e)))).2.1
  cases f with
  |next=>obtain⟨j,a,c,B⟩:=t;show k c B
  |cont=>obtain⟨j,a,c,B⟩:=t;show k c B
  |brk=>obtain⟨j,a,c,t⟩:=t;show#[j,a,c.unpinned,t]
  |ret v=>obtain⟨x7,j,a,c,r7,t⟩:=t;show#[x7,j,a,c.unpinned,r7,t]
end
def for_tup {K:OI}{g:TG}{l:TS}{D:Ends}(b:OH->St->Hp->Prop)(n:b 0 Y H)(hl:∀i Y H,i<=↥xs->b i Y H->SqT K H a xs)
  (hs:∀i x Y H,xs[i]?=ba x->b i Y H->g x Y H λj f=>l {D with nx:=b (i+1),ct:=b (i+1),bk:=D.nx} j f) (hd:∀Y H,b ↥xs Y H->D.nx Y H) :
  ∃W:OH->OH->St->Hp->Prop,(∃m,W 0 m Y H)/\∀i m Y H,W i m Y H->
   ((JJ K a).stop i H/\D.nx Y H)\/((JJ K a).go i H/\∃N:St->Hp->Prop,(∀h c,N h c->∃k,k<m/\W (i+1) k h c)/\∀x c,(JJ K a).yld i H x c->g x Y c λj f=>l {D with nx:=N,ct:=N,bk:=D.nx} j f):=by
 show#[λi m Y H=>m=↥xs-i/\i<=↥xs/\b i Y H,#[↥xs,by rfl,Qd _,n],?_]
 rintro i m Y H ⟨rfl,hi,p⟩;have q:=hl i Y H hi p
 by_cases d:i<↥xs
 ·show .inr #[#[xs,xs[i],q,by simp[d]],b _,λh c o=>#[↥xs-(i+1),∅,rfl,d,o],λx c y=>?_]
  obtain⟨e,y⟩:=y;subst e;show hs i x Y _ (y xs q) p
 ·have e:i=↥xs:=∅
  subst e;show .inl #[#[xs,q,OR _],hd Y H p]
noncomputable abbrev R2:=V->V->Hp->VK->Prop
abbrev OpR (X:Cx)(f:Oy->Oy->Yu Oy)(r:R2):Prop:=
 ∀(J:Ow (OF×Qq)) (s:OB) (Y:St) (H:Hp) (x y:V) (v u:Oy) (Q:VK),Inv X J Y H s->RelV x v->RelV y u->r x y H Q->
  wi X (f v u) (EP X J Y Q) X.xe s
abbrev MJ (X:Cx)(f:Oy->Yu Oy)(r:V->Hp->VK->Prop):Prop:=
 ∀(J:Ow (OF×Qq)) (s:OB) (Y:St) (H:Hp) (x:V) (v:Oy) (Q:VK),Inv X J Y H s->RelV x v->r x H Q->
  wi X (f v) (EP X J Y Q) X.xe s
abbrev CallR (X:Cx)(f:Oy)(r:Ow V->Hp->VK->Prop):Prop:=
 ∀(J:Ow (OF×Qq)) (s:OB) (Y:St) (H:Hp) (xs:Ow V) (us:Ow Oy) (Q:VK),Inv X J Y H s->Vals xs us->r xs H Q->
  wi X (call f us) (EP X J Y Q) X.xe s
abbrev MK (X:Cx)(r:V->Hp->(O6->Hp->Prop)->Prop):Prop:=
 ∀(J:Ow (OF×Qq)) (s:OB) (Y:St) (H:Hp) (x:V) (v:Oy) (Q:O6->Hp->Prop),Inv X J Y H s->RelV x v->r x H Q->
  wi X (truthy v) (TP X J Y Q) X.xe s
abbrev Mn (r:R2)(c d:TE):TE:=λY H Q=>c Y H λx a=>d Y a λy b=>r x y b Q
abbrev Oa (r:V->Hp->VK->Prop)(b:TE):TE:=λY H Q=>b Y H λx a=>r x a Q
abbrev rI (C:O8->O8->Prop)(g:O8->O8->V):R2:=λx y H Q=>∃i j,x=.int i/\y=.int j/\C i j/\Q (g i j) H
abbrev Fi (g:O8->O8->V):R2:=λx y H Q=>∃i j,x=.int i/\y=.int j/\Q (g i j) H
abbrev rU (g:O8->V):V->Hp->VK->Prop:=λx H Q=>∃i,x=.int i/\Q (g i) H
section
variable{X:Cx}{a b c:Pb}{ta tb tc:TE}{pos:Rl}
def GD (j:PE X a ta)(k:PE X b tb){Y:St}{R:V->V->Hp->Prop}(I:Inv X J Y H s)
  (h:ta Y H λx i=>tb Y i λy c=>R x y c) {f:Oy->Oy->Yu Oy}
  (hf:∀v u g x y c,Inv X J Y c g->RelV x v->RelV y u->R x y c->wi X (f v u) Q X.xe g) :
  wi X (eval a X.env) (λv d=>wi X (eval b X.env) (λu e=>wi X (f v u) Q X.xe e) X.xe d) X.xe s:=by
 show a9 (j _ s Y H _ I h) λv l #[x,i,I1,r1,q1]=>?_
 show a9 (k _ l Y i _ I1 q1) λu g #[y,c,I2,r2,q2]=>?_
 show hf v u g x y c I2 r1 r2 q2
def J7 {c:WP}(i:OpR X (binaryOp c) r)(f:PE X a ta)(g:PE X b tb):PE X (.BinOp a c b pos) (Mn r ta tb):=by
 intro J s Y H Q I h;show wpAny_BinOp (GD f g I h λv u l x y d e j k q=>i _ l Y d x y v u Q e j k q)
def J8 {b:UnaryOp}(d:MJ X (unaryOp b) r)(c:PE X a ta):PE X (.UnaryOp b a pos) (Oa r ta):=by
 intro J s Y H Q I h;show UnaryOp_ (a9 (c _ s Y H _ I h) λv e #[x,H1,I1,r1,q1]=>d _ e Y H1 x v Q I1 r1 q1)
def Mo {g:O8->O8->O8}
  (a:∀ i j t u s Q E,C i j->Q (.int (g i j) s.toks) {s with toks:=s.toks+1}->wi X (f (.int i t) (.int j u)) Q E s) :
  OpR X f (rI C λi j=>.int (g i j)):=by
 intro J s Y H x y v u Q I b c h;obtain⟨i,j,rfl,rfl,hc,q⟩:=h;obtain⟨t,rfl⟩:=b;obtain⟨t',rfl⟩:=c;show a i j t t' s _ _ hc #[.int _,H,I.tok _,#[_,rfl],q]
def J9 {g:O8->O8->O8}
  (a:∀ i j t u s Q E,Q (.int (g i j) s.toks) {s with toks:=s.toks+1}->wi X (f (.int i t) (.int j u)) Q E s) :
  OpR X f (Fi λi j=>.int (g i j)):=by
 intro J s Y H x y v u Q I b c h;obtain⟨i,j,rfl,rfl,q⟩:=h;obtain⟨t,rfl⟩:=b;obtain⟨t',rfl⟩:=c;show a i j t t' s _ _ #[.int _,H,I.tok _,#[_,rfl],q]
def Ck {g:O8->O8->O6}
  (a:∀ i j t u s Q E,Q (.bool (g i j)) s->wi X (f (.int i t) (.int j u)) Q E s) :
  OpR X f (Fi λi j=>.bl (g i j)):=by
 intro J s Y H x y v u Q I b c h;obtain⟨i,j,rfl,rfl,q⟩:=h;obtain⟨t,rfl⟩:=b;obtain⟨t',rfl⟩:=c;show a i j t t' s _ _ #[.bl _,H,I,rfl,q]
abbrev ML (i j:O8):Prop:=0<j/\j<1073741824
abbrev MM (i j:O8):Prop:=0<=j/\j<=1000000/\i.natAbs<2^64
abbrev CMul (i j:O8):Prop:=(-(2^64)<i/\i<2^64)\/(-(2^64)<j/\j<2^64)
def CMul.ok (h:CMul i j):IntMulOk i j:=by
 rcases h with⟨a,b⟩|⟨a,b⟩
 ·show .of_left (Yx a b)
 ·show .of_right (Yx a b)
def GF:OpR X (binaryOp .Add) (Fi λi j=>.int (i+j)):=J9 λ_ _ _ _ _ _ _ q=>add_int q
def GH:OpR X (binaryOp .Sub) (Fi λi j=>.int (i-j)):=J9 λ_ _ _ _ _ _ _ q=>sub_int q
def GJ:OpR X (binaryOp .Mult) (rI CMul λi j=>.int (i*j)):=Mo λ_ _ _ _ _ _ _ hc q=>mul_int q hc.ok
def Cm:OpR X (binaryOp .FloorDiv) (rI ML λi j=>.int (i/j)):=Mo λi j _ _ _ _ _ hc q=>by
 have a:(0:O8)<j:=hc.1;have b:j<1073741824:=hc.2;show floordiv_int ∅ (by rw[Int.fdiv_eq_ediv_of_nonneg i ∅];show q) (.inl (PyProof.noPylong_small ∅))
def GK:OpR X (binaryOp .Mod) (rI (λ_ j=>0<j) λi j=>.int (i % j)):=Mo λi j _ _ _ _ _ hc q=>by
 have a:(0:O8)<j:=hc;show mod_int' ∅ (by rw[Int.fmod_eq_emod_of_nonneg i ∅];show q)
def GL:OpR X (binaryOp .Pow) (rI MM λi j=>.int (i^j.toNat)):=Mo λ_ _ _ _ _ _ _ hc q=>pow_int_small hc.1 hc.2.1 hc.2.2 q
def Ob {g:O8->O8}
  (a:∀ i t s Q E,Q (.int (g i) s.toks) {s with toks:=s.toks+1}->wi X (f (.int i t)) Q E s) :
  MJ X f (rU λi=>.int (g i)):=by
 intro J s Y H x v Q I b h;obtain⟨i,rfl,q⟩:=h;obtain⟨t,rfl⟩:=b;show a i t s _ _ #[.int _,H,I.tok _,#[_,rfl],q]
def GM:MJ X (unaryOp .USub) (rU λi=>.int (-i)):=Ob λ_ _ _ _ _ q=>neg_int q
def rR {Y:St}{ a:O6}(I:Inv X J Y H s)(q:Q (.bl k) H)(e:k=a):EP X J Y Q (.bool a) s:=by
 subst e;show#[.bl k,H,I,rfl,q]
def Kb:OpR X (compareOp .Lt) (Fi λi j=>.bl (decide (i<j))):=Ck λ_ _ _ _ _ _ _ q=>lt_int q
def Kc:OpR X (compareOp .LtE) (Fi λi j=>.bl (decide (i<=j))):=Ck λ_ _ _ _ _ _ _ q=>le_int q
def Kd:OpR X (compareOp .Gt) (Fi λi j=>.bl (decide (j<i))):=Ck λ_ _ _ _ _ _ _ q=>gt_int q
def Ke:OpR X (compareOp .GtE) (Fi λi j=>.bl (decide (j<=i))):=Ck λ_ _ _ _ _ _ _ q=>ge_int q
def vR:OpR X (compareOp .In) (λx y H Q=>∃i j,x=.str i/\y=.str j/\Q (.bl (!(TJ j i 0 ↥j 1).isEmpty)) H):=by
 intro J s Y H x y v u Q I a b h;obtain⟨i,j,rfl,rfl,q⟩:=h;obtain⟨t,rfl⟩:=a;obtain⟨t',rfl⟩:=b;show in_str (rR I q rfl)
def GN:OpR X (compareOp .Is) (λx y H Q=>y=.non/\Q (.bl (decide (x=.non))) H):=by
 intro J s Y H x y v u Q I a b h;obtain⟨rfl,q⟩:=h;cases b;show is_none_gen (rR I q ?_);cases x<;>first
  |(cases a;rfl)
  |(obtain⟨t,rfl⟩:=a;rfl)
def Cn:OpR X (compareOp .IsNot) (λx y H Q=>y=.non/\Q (.bl (!decide (x=.non))) H):=by
 intro J s Y H x y v u Q I a b h;obtain⟨rfl,q⟩:=h;cases b;show isnot_none_gen (rR I q ?_);cases x<;>first
  |(cases a;rfl)
  |(obtain⟨t,rfl⟩:=a;rfl)
def Co {c:XI}(j:OpR X (compareOp c) r)(f:PE X a ta)(g:PE X b tb)(i:behindInMarks c b=false):PE X (.Compare a [c] [b] pos) (Mn r ta tb):=by
 intro J s Y H Q I h;show wpAny_Compare1 (GD f g I h λv u m x y d e k l q=>j J m Y d x y v u Q e k l q) i
abbrev Fj (t:TE):TT:=λY H Q=>t Y H λx a=>∃k,x=.bl k/\Q k a
def t8 (j:OpR X (compareOp d) r)(f:PE X a ta)(g:PE X b tb)(i:behindInMarks d b=false):PT X (.Compare a [d] [b] pos) (Fj (Mn r ta tb)):=by
 intro J s Y H Q I h;show wpAny_isTrue_Compare1 (a9 (f _ s Y H _ I h) λv l #[x,H1,I1,r1,q1]=>a9 (g _ l Y H1 _ I1 q1) λu m #[y,H2,I2,r2,q2]=>
  a9 (j _ m Y H2 x y v u _ I2 r1 r2 q2) λc s3 #[z,H3,I3,r3,k,e,q3]=>?_) i
 subst e;cases r3;show QF #[H3,I3,q3]
abbrev rS (r e:R2)(ta tb tc:TE):TE:=λY H Q=>ta Y H λx b=>tb Y b λy c=>r x y c λz a=>∃k,z=.bl k/\
 (if k=true then tc Y a λf d=>e y f d Q else Q (.bl false) a)
def yb (o:OpR X (compareOp i) r)(g:OpR X (compareOp f) j)(l:PE X a ta)(m:PE X b tb)(hc:PE X c tc)
  (n:lastMarks [i,f] [b,c]=false:=by with_unfolding_all rfl):PE X (.Compare a [i,f] [b,c] pos) (rS r j ta tb tc):=by
 intro J s Y H Q I h;show Compare_chain (a9 (l _ s Y H _ I h) λv p #[x,H1,I1,r1,q1]=>chain_link (a9 (m _ p Y H1 _ I1 q1) λu q #[y,H2,I2,r2,q2]=>
  a9 (o _ q Y H2 x y v u _ I2 r1 r2 q2) λd s3 #[z,H3,I3,r3,k,e,q3]=>?_)) n
 subst e;cases r3;show QF ?_;cases k with
 |false=>show ite_ff #[.bl _,H3,I3,rfl,q3]
 |true=>show ite_tt (chain_last (a9 (hc _ s3 Y H3 _ I3 q3) λw t #[A,H4,I4,r4,q4]=>g _ t Y H4 y A u w Q I4 r2 r4 q4))
def yc (p:OpR X (compareOp i) r)(g:OpR X (compareOp f) j)(m:PE X a ta)(n:PE X b tb)(hc:PE X c tc)
  (o:lastMarks [i,f] [b,c]=false:=by with_unfolding_all rfl):PT X (.Compare a [i,f] [b,c] pos) (Fj (rS r j ta tb tc)):=by
 intro J s Y H Q I h;show isTrue_chain (a9 (m _ s Y H _ I h) λv t #[x,H1,I1,r1,q1]=>test_link (a9 (n _ t Y H1 _ I1 q1) λu w #[y,H2,I2,r2,q2]=>
  a9 (p _ w Y H2 x y v u _ I2 r1 r2 q2) λd s3 #[z,H3,I3,r3,k,e,q3]=>?_)) o
 subst e;cases r3;show QF ?_;cases k with
 |false=>
  obtain⟨D,l,q⟩:=q3;cases l;show ite_ff #[H3,I3,q]
 |true=>
  show ite_tt (test_last (a9 (hc _ s3 Y H3 _ I3 q3) λB A #[C,H4,I4,r4,q4]=>a9 (g _ A Y H4 y C u B _ I4 r2 r4 q4) λd' E #[G,H5,I5,r5,k2,e2,q5]=>?_))
  subst e2;cases r5;show QF #[H5,I5,q5]
abbrev MN (K:OI)(x:V)(H:Hp)(k:O6):Prop:=
 match x with
 |.non=>k=false
 |.bl b=>k=b
 |.int i=>k=(i != 0)
 |.str y=>↥y<=sizeLine/\k=((↥y:O8) != 0)
 |.byt y=>⇑y<=sizeLine/\k=((⇑y:O8) != 0)
 |.ref p=>(∃xs,SqL K H p xs/\k = !xs.isEmpty)\/(∃xs,SqT K H p xs/\k = !xs.isEmpty)\/∃U,H p=ba (.dK U)/\k = !U.isEmpty
 |_=>P0
def rT {vs:Ow (κ×Oy)}(r:KV U vs):(!vs.isEmpty) = !U.isEmpty:=by
 cases r<;>rfl
def kN (r:Vals xs its):(!its.toArray.isEmpty) = !xs.isEmpty:=by
 cases r<;>rfl
def nH:sizeLine<2^63:=by decide
def GP:MK X (λx H Q=>∃k,MN X.K x H k/\Q k H):=by
 intro J s Y H x v Q I d h;obtain⟨k,e,q⟩:=h;have hs:=Qc;cases x with
 |non=>
  cases d;have a:=e;subst a;show truthy_none #[H,I,q]
 |bl b=>
  cases d;have a:=e;subst a;show QF #[H,I,q]
 |int i=>
  obtain⟨t,rfl⟩:=d;have a:=e;subst a;show PySem.P.truthy_int #[H,I,q]
 |str y=>
  obtain⟨t,rfl⟩:=d;obtain⟨l,a⟩ : ↥y<=sizeLine/\k=((↥y:O8) != 0):=e;subst a;show PySem.P.truthy_str ∅ #[H,I.tok _,q]
 |byt y=>
  obtain⟨t,rfl⟩:=d;obtain⟨l,a⟩ : ⇑y<=sizeLine/\k=((⇑y:O8) != 0):=e;subst a;show PySem.W.truthy_bytes (by show OQ ‹_› (OP rfl)) #[H,I.tok _,q]
 |ref p=>
  cases d;have a:=e;rcases a with⟨xs,f,a⟩|⟨xs,f,a⟩|⟨U,f,a⟩
  ·subst a;obtain⟨its,r,pl,g⟩:=I.list f;have c:=↥r;show wpAny_truthy_list pl.isList (by revert O5;omega) #[H,I.tok _,by rw[kN r];show q]
  ·subst a;obtain⟨its,r,pl,g⟩:=I.tuple f;have c:=↥r;show truthy_tuple pl (by revert O5;omega) #[H,I.tok _,by rw[kN r];show q]
  ·subst a;obtain⟨g,j,vs,r,m⟩ : ↥U<=sizeLine/\(p==sysModules)=false/\∃vs,KV U vs/\s.heap.DictOf (tV X.prog X.w) p vs:=I.hok p _ f;have c:=Vd r;show wpAny_truthy_dict j m ∅ #[H,I.tok _,by rw[rT r];show q]
 |_=>show e.elim
def rV:OpR X (binaryOp .Add) (λx y H Q=>∃i j,x=.str i/\y=.str j/\↥i+↥j<=sizeLine/\Q (.str (i++j)) H):=by
 intro J s Y H x y v u Q I b c h;obtain⟨i,j,rfl,rfl,a,q⟩:=h;obtain⟨t,rfl⟩:=b;obtain⟨t',rfl⟩:=c;show add_str (λt' tk=>#[.str _,H,I.tok _,#[_,rfl],q]) a
def il (r:Vals [x] us):∃u,us=[u]/\RelV x u:=by
 cases r with
 |cons a b=>cases b;show#[_,rfl,a]
def Kf (r:Vals [x,y] us):∃u a,us=[u,a]/\RelV x u/\RelV y a:=by
 cases r with
 |cons b c=>
  cases c with
  |cons d e=>cases e;show#[_,_,rfl,b,d]
def yd:CallR X (.builtin "abs") (λxs H Q=>∃i,xs=[.int i]/\Q (.int (if i<0 then -i else i)) H):=by
 intro J s Y H xs us Q I r h;obtain⟨i,rfl,q⟩:=h;obtain⟨u,rfl,t,rfl⟩:=il r;show call_abs_int λu tk=>#[.int (if i<0 then -i else i),H,I.tok _,#[_,rfl],q]
def vS (hc:X.calm=true):CallR X (.builtin "max") (λxs H Q=>∃i j,xs=[.int i,.int j]/\Q (.int (if j > i then j else i)) H):=by
 intro J s Y H xs us Q I r h;obtain⟨i,j,rfl,q⟩:=h;obtain⟨u,b,rfl,⟨t,rfl⟩,⟨t',rfl⟩⟩:=Kf r;show max_two_ints (I.ok.hd hc) λh' tk k=>#[_,H,I.kept k,?_,q]
 by_cases a:j > i
 ·rw[OZ a,OZ a];show#[_,rfl]
 ·rw[Pd a,Pd a];show#[_,rfl]
def mw:CallR X (.type "int") (λxs H Q=>(∃i,xs=[.int i]/\Q (.int i) H)\/∃k,xs=[.bl k]/\Q (.int (if k then 1 else 0)) H):=by
 intro J s Y H xs us Q I r h;rcases h with⟨i,rfl,q⟩|⟨k,rfl,q⟩
 ·obtain⟨u,rfl,t,rfl⟩:=il r;show call_int_int #[.int i,H,I,#[_,rfl],q]
 ·obtain⟨u,rfl,a⟩:=il r;cases a;show call_int_bool #[.int _,H,I.tok _,#[_,rfl],q]
def ye:CallR X (.builtin "ord") (λxs H Q=>∃x,xs=[.str x]/\↥x=1/\Q (.int (x.cps.getD 0 0)) H):=by
 intro J s Y H xs us Q I r h;obtain⟨x,rfl,a,q⟩:=h;obtain⟨u,rfl,t,rfl⟩:=il r;show ord_of_one a #[.int _,H,I.tok _,#[_,rfl],q]
abbrev MO (K:OI)(x:V)(H:Hp)(n:OH):Prop:=
 match x with
 |.str y=>↥y<=sizeLine/\n=↥y
 |.byt y=>⇑y<=sizeLine/\n=⇑y
 |.ref p=>(∃xs,SqL K H p xs/\n=↥xs)\/∃xs,SqT K H p xs/\n=↥xs
 |_=>P0
def kO:CallR X (.builtin "len") (λxs H Q=>∃x n,xs=[x]/\MO X.K x H n/\Q (.int n) H):=by
 intro J s Y H xs us Q I r h;obtain⟨x,n,rfl,e,q⟩:=h;obtain⟨u,rfl,f⟩:=il r;have hs:=Qc;cases x with
 |str y=>
  obtain⟨t,rfl⟩:=f;obtain⟨g,b⟩ : ↥y<=sizeLine/\n=↥y:=e;subst b;show len_str ∅ #[.int _,H,I.tok _,#[_,rfl],q]
 |byt y=>
  obtain⟨t,rfl⟩:=f;obtain⟨g,b⟩ : ⇑y<=sizeLine/\n=⇑y:=e;subst b;show PySem.W.len_bytes ∅ #[.int _,H,I.tok _,#[_,rfl],q]
 |ref p=>
  cases f;have b:=e;rcases b with⟨xs,c,b⟩|⟨xs,c,b⟩
  ·subst b;obtain⟨its,d,pl,i⟩:=I.list c;have a:=↥d;show Calls.call_len_list pl.isList (by revert O5;omega) #[.int _,H,I.tok _,#[_,by revert O5;rw[a]],q]
  ·subst b;obtain⟨its,d,pl,i⟩:=I.tuple c;have a:=↥d;show len_tuple pl (by revert O5;omega) #[.int _,H,I.tok _,#[_,by revert O5;rw[a]],q]
 |_=>show e.elim
end
def vT {h:Pr}(n:h.Ns1 c d):∃od,h.get? c=ba od/\∀name,Yc name od=ba (d name):=by
 obtain⟨o,es,k,i,hd,hk,_,g⟩:=n;show#[o,i,λname=>?_]
 have e:=g name;unfold nsFind findBy at e;rw[<- Array.find?_toList]at e;unfold Yc;rw[hd];dsimp only;split
 next y q=>rw[q]at e;show congrArg ba e
 next q=>
  rw[q]at e;have a:es.toList.any (·.refKey)=false:=by
   rw[List.any_eq_false];intro y j;obtain⟨z,t,b⟩:=hk y (QH.mp j);simp[ZP,b]
  have f:¬ es.toList.any (·.refKey)=true:=by rw[a];show P2
  rw[Pd f];show congrArg ba e
abbrev io (f:OM)(v:V):Ow (OM×V)->Ow (OM×V)
 |[]=>[(f,v)]
 |(g,x)::r=>if g=f then(g,v)::r else(g,x)::io f v r
def fD (f g:OM)(v:V):∀fs:Ow (OM×V),(io f v fs).lookup g=if g=f then ba v else fs.lookup g
 |[]=>by
  change SS g [(f,v)]=_
  by_cases h:g=f
  ·have a:(g==f)=true:=Rm.mpr h;simp only[SS,a,OZ h]
  ·have a:(g==f)=false:=RC.mpr h;simp only[SS,a,Pd h]
 |(k,x)::r=>by
  have ih:=fD f g v r;rw[show io f v ((k,x)::r)=(if k=f then(k,v)::r else(k,x)::io f v r)from rfl]
  by_cases hk:k=f
  ·rw[OZ hk]
   by_cases h:g=k
   ·have a:(g==k)=true:=Rm.mpr h;simp only[SS,a,OZ (h.trans hk)]
   ·have a:(g==k)=false:=RC.mpr h;simp only[SS,a,Pd (λe:g=f=>h (e.trans hk.symm))]
  ·rw[Pd hk]
   by_cases h:g=k
   ·have a:(g==k)=true:=Rm.mpr h;simp only[SS,a,Pd (λe:g=f=>hk (h.symm.trans e))]
   ·have a:(g==k)=false:=RC.mpr h;revert SS a;show ih
def jo (f:OM)(v:V):∀fs:Ow (OM×V),f∈(io f v fs).map (·.1)/\∀g,g∈fs.map (·.1)->g∈(io f v fs).map (·.1)
 |[]=>#[by simp[io],λg h=>by simp at h]
 |(k,x)::r=>by
  obtain⟨i1,a⟩:=jo f v r;rw[show io f v ((k,x)::r)=(if k=f then(k,v)::r else(k,x)::io f v r)from rfl]
  by_cases hk:k=f
  ·rw[OZ hk];subst hk;show#[by simp,λg h=>by simpa using h]
  ·rw[Pd hk];show#[?_,λg h=>?_]
   ·rw[PK];show OV _ i1
   ·rw[PK]at h ⊢;rcases O2.mp h with e|e
    ·show O2.mpr (.inl e)
    ·show OV _ (a g e)
section
variable{X:Cx}{J:Ow (OF×Qq)}{Y:St}{H:Hp}{s:OB}{a C dx:OF}{fs:Ow (OM×V)}{f:OM}{v:V}{A:Pl}{E:Oy->OB->Prop}
def Cp (b:attributeBase e f env (eval e env)=eval e env)
  (h:wh prog w A (eval e env) (λo a=>wh prog w A (getAttr o f true) Q E a) E s):wh prog w A (eval (.Attribute e f pos) env) Q E s:=
 Attribute_any_ h (by rw[arm_eval_Attribute,b])
end
structure Room (k:OH)(A:Pl):Prop where
 hd:A.handled=gV
 dp:A.depth+3*k+5<recursionLimit
 un:A.units+16*k+200<cLine
def Room.mono (r:Room k A)(h:j<=k):Room j A:=#[r.hd,by have:=r.dp;omega,by have:=r.un;omega]
def Room.deeper (r:Room (k+1) A)(env:U0):Room k (A.deeper env):=
 #[r.hd,by have:=r.dp;show A.depth+1+3*k+5<_;omega,by have:=r.un;show A.units+3+16*k+200<_;omega]
def rW {A:Pl}:(A.under (.builtin "type.__call__" #[.ref C::us,a])).depth=A.depth+1:=by
 first|rfl|simp[WQ,Code.weight,Code.isCreation,Code.isGuard,Code.isCaller,Yqj,WR,guardIds]
def rX {A:Pl}:(A.under (.builtin "type.__call__" #[.ref C::us,a])).units=A.units+1:=by
 first|rfl|simp[WQ,Code.cUnits,Yqj,WR]
def Room.make (r:Room (k+1) A)(C:OF)(us:Ow Oy)(a:Ow (OM×Oy)):Room k (A.under (.builtin "type.__call__" #[.ref C::us,a])):=
 #[r.hd,by have:=r.dp;rw[rW];omega,by have:=r.un;rw[rX];omega]
def Room.depth (r:Room k A):A.depth<recursionLimit:=by have:=r.dp;omega
abbrev GQ:TA:=λ_ H Q=>Q [] H
abbrev yf (c:TE)(d:TA):TA:=λY H Q=>c Y H λx a=>d Y a λxs b=>Q (x::xs) b
section
variable{X:Cx}{e:Pb}{es:Ow Pb}{te:TE}{t:TA}{pos:Rl}
def nI:PA X [] GQ:=λ_ _ _ _ H Q I h=>Calls.spliced_nil #[[],H,I,.nil,h]
def eM (a:PE X e te)(b:PA X es t)(hs:starEach (e::es) X.env=(false,eval e X.env)::starEach es X.env:=by rfl):PA X (e::es) (yf te t):=by
 intro pos J s Y H Q I h;rw[hs];show Calls.spliced_cons (a9 (a _ s Y H _ I h) λu c #[x,H1,I1,r1,q1]=>?_)
 show a9 (b pos _ c Y H1 _ I1 q1) λus d #[xs,H2,I2,r2,q2]=>#[x::xs,H2,I2,.cons r1 r2,q2]
abbrev MP (t:TA):TE:=λY H Q=>t Y H λxs a=>↥xs<=sizeLine/\∀p,a p=gV->Q (.ref p) (aW a p (.tup xs))
abbrev MQ (t:TA):TE:=λY H Q=>t Y H λxs a=>↥xs<=sizeLine/\∀p,a p=gV->Q (.ref p) (aW a p (.lst xs))
def GR {x1}(h:PA X es t):PE X (.Tuple es x1 pos) (MP t):=by
 intro J s Y H Q I a;show wpAny_Tuple_spliced (a9 (h pos _ s Y H _ I a) λus c #[xs,H1,I1,r,z,q]=>#[by rw[<- ↥r];show z,?_])
 have hf:=I1.hok.fresh (OR _);show#[.ref _,aW H1 _ _,I1.laid  (λb u e=>OA _ e) (OR _) ?_,rfl,q _ hf]
 show#[#[z,NoD.new _ _ _],us,r,#[_,OX _ rfl,rfl,_,rfl]]
def GU (h:PA X es t):PE X (.List es pos) (MQ t):=by
 intro J s Y H Q I a;show wpAny_List_spliced (a9 (h pos _ s Y H _ I a) λus c #[xs,H1,I1,r,z,q]=>#[by rw[<- ↥r];show z,?_])
 have hf:=I1.hok.fresh (OR _);show#[.ref _,aW H1 _ _,I1.laid  (λb u e=>OA _ e) (OR _) ?_,rfl,q _ hf]
 show#[z,us,0,r,OX _ rfl]
end
noncomputable abbrev Sp:=Ow V->Hp->VK->XK->Prop
noncomputable abbrev rY:=Ow U0->Hp->OB->XK->Oy->OB->Prop
structure Env0 (P:Pe)(w:Pk)(K:OI)(mg:OM->Oz Oy)(base:Pr)(A:Pl)(outer:Ow U0)(s:OB)(H:Hp):Prop where
 frames:A.frames=ba outer
 mod:Mod K mg base
 bs:∀b o,base.get? b=ba o->s.heap.get? b=ba o/\H b=gV
 bsz:⇑base.objs<=⇑s.heap.objs
 funs:s.heap.FunFrames base outer
 frf:∀b∈nE outer,H b=gV
 hok:HOk P w H s.heap
 bare:Ud s.gens
abbrev CE (outer:Ow U0)(P:Pe)(w:Pk)(H:Hp)(s:OB)(Q:VK)(u:Oy)(a:OB):Prop:=
 ∃v b,a.os=s.os/\Ud a.gens/\Un (nE outer) [] H b s.heap a.heap/\HOk P w b a.heap/\RelV v u/\Q v b
abbrev CR (CX:rY)(outer:Ow U0)(P:Pe)(w:Pk)(H:Hp)(s:OB)(Q:VK)(E:XK)(r:Vf)(a:OB):Prop:=
 match r with
 |.ok (.ret u)=>CE outer P w H s Q u a
 |.ok _=>P0
 |.error e=>CX outer H s E e a
structure FnOk (P:Pe)(w:Pk)(K:OI)(mg:OM->Oz Oy)(base:Pr)(CX:rY)(k:OH)(f:OF)(fd:Qp)(ps:Ow OM)(sp:Sp):Prop where
 len:∀vs H Q E,sp vs H Q E->↥vs=↥ps
 run:∀(A:Pl) (outer:Ow U0) (s:OB) (H:Hp) (args:Args) (us:Ow Oy) (vs:Ow V) (Q:VK) (E:XK),Room k A->Env0 P w K mg base A outer s H->WS s fd args (ps.zip us)->Vals vs us->sp vs H Q E->
  codeAny (model P w) A (.call (.ref f) args) (CR CX outer P w H s Q E) s
def FnOk.imp {K:OI}(F:FnOk P w K mg base CX k f fd ps sp)
  (h:∀vs H Q E,a vs H Q E->sp vs H Q E):FnOk P w K mg base CX k f fd ps a:=
 #[λvs H Q E q=>F.len vs H Q E (h _ _ _ _ q),λA outer s H args us vs Q E d c b e hs=>F.run A outer s H args us vs Q E d c b e (h _ _ _ _ hs)]
def Env0.make {K:OI}(e:Env0 P w K mg base A outer s H)(C:OF)(us:Ow Oy)(a:Ow (OM×Oy)) :
  Env0 P w K mg base (A.under (.builtin "type.__call__" #[.ref C::us,a])) outer s H:=#[by first|show e.frames|(simpa [WQ,Code.envs,WR,pushEnvs]using e.frames),e.mod,e.bs,e.bsz,e.funs,e.frf,e.hok,e.bare]
section
variable{X:Cx}{J:Ow (OF×Qq)}{Y:St}{H:Hp}{s s':OB}
def Inv.env0 (I:Inv X J Y H s):Env0 X.prog X.w X.K X.mg X.base X.A X.stack s H:=
 #[I.ok.frames,I.ok.mod,I.bs,OQ I.ok.bsz I.sz,I.stack,I.stkFree,I.hok,I.bare]
def Inv.after (I:Inv X J Y H s)(h:CE X.stack X.prog X.w H s Q u s'):EP X J Y Q u s':=by
 obtain⟨v,f,os,a,un,c,r,q⟩:=h;obtain⟨i,g,d,t,e⟩:=s';obtain rfl:e=s.os:=os;show#[v,f,I.call (h':=i) (g':=g) (d':=d) (t':=t) (ch:=[]) un c a (λb z=>absurd z (by simp)),r,q]
end
abbrev yg (sp:Sp)(a:Ow V)(E:XK)(t:TA):TE:=λY H Q=>t Y H λvs b=>sp (vs++a) b Q E
abbrev Binds (K:OI)(fd:Qp)(ps:Ow OM)(a:Ow Oy):Prop:=
 ∀(s:OB) (us:Ow Oy),K.In s.heap->(us++a).length=↥ps->WS s fd #[us,[]] (ps.zip (us++a))
def Binds.all {K:OI}(h:∀us:Ow Oy,↥us=↥ps->bindArgs fd #[us,[]]=pure (ps.zip us)):Binds K fd ps []:=λs us _ hl=>by
 rw[Ql]at hl ⊢;show .of_eq (h us hl)
abbrev jp (CX:rY)(X:Cx)(E:XK):Prop:=∀(J:Ow (OF×Qq)) (Y:St) (H:Hp) (s:OB) (e:Oy) (s':OB),Inv X J Y H s->CX X.stack H s E e s'->X.xe e s'
section
variable{X:Cx}{CX:rY}{k:OH}{f C:OF}{fd:Qp}{ps:Ow OM}{sp:Sp}{dvs:Ow V}{ds:Ow Oy}{E:XK}{x m:OM}{p pos apos:Rl}{e o:Pb}{es:Ow Pb}{ta:TE}{t:TA}
def yh {Y:St}(F:FnOk X.prog X.w X.K X.mg X.base CX k f fd ps sp)(g:Room k X.A)(d:Binds X.K fd ps ds)(hd:Vals dvs ds)(i:jp CX X E)
  (I:Inv X J Y H s) (r:Vals vs us) (h:sp (vs++dvs) H Q E):wi X (call (.ref f) us) (EP X J Y Q) X.xe s:=by
 have b:Vals (vs++dvs) (us++ds):=r.append hd;have hl:(us++ds).length=↥ps:=by rw[<- ↥b];show F.len _ _ _ _ h
 show Sw (Rr (F.run X.A X.stack s H #[us,[]] (us++ds) (vs++dvs) Q E g I.env0 (d s us I.kIn hl) b h) λr j a=>?_)
 cases r with
 |error e=>show i J Y H s e j I a
 |ok c=>
  cases c with
  |ret u=>show I.after a
  |next=>show P0.elim a
  |brk=>show P0.elim a
  |cont=>show P0.elim a
def Cq (F:FnOk X.prog X.w X.K X.mg X.base CX k f fd ps sp)(j:Room k X.A)(g:Gl X x)(i:X.mg x=ba (.ref f))(hk:Qh X.K (.ref f)=true)(c:Binds X.K fd ps ds)(hd:Vals dvs ds)(l:jp CX X E)
  (b:PA X (e::es) t) (hdb:(x==("__debug__"))=false:=by decide) (d:starEach (e::es) X.env=(false,eval e X.env)::starEach es X.env:=by rfl) (a:(backTo pos (starEach es X.env)).any (·.1)=false:=by rfl) :
  PE X (.Call (.Name x p) (e::es) [] pos) (yg sp dvs E t):=by
 intro J s Y H Q I h;show RW (eL I g i ?_ hdb);show UJ  I.ok.mod.kin hk (a9 (b pos _ s Y H _ I h) λus m #[vs,H1,I1,r,q]=>#[I1.kIn,?_]) d a
 show yh F j c hd l I1 r q
def yi (F:FnOk X.prog X.w X.K X.mg X.base CX k f fd ps sp)(d:Room k X.A)(b:Gl X x)(c:X.mg x=ba (.ref f))(hk:Qh X.K (.ref f)=true)(a:Binds X.K fd ps ds)(hd:Vals dvs ds)(e:jp CX X E)
  (hdb:(x==("__debug__"))=false:=by decide):PE X (.Call (.Name x p) [] [] pos) (yg sp dvs E GQ):=by
 intro J s Y H Q I h;show RW (eL I b c ?_ hdb);show PySem.W.callWith_K0 I.kIn hk (yh  F d a hd e I .nil h)
end
structure FnScope (N P:Ow OM)(sc:RN):Prop where
 kind:sc.kind=.function
 co:sc.isCoroutine=false
 gen:sc.isGenerator=false
 nd:N.Nodup
 pre:N.take ↥P=P
 par:∀x∈P,sc.names.lookup x=ba .local\/sc.names.lookup x=ba .cell
 nofree:∀y∈sc.names,y.2≠.free
def mx :∀{binds:Ow (OM×Oy)}{m:OM->Oz Oy},(∀v,(x,v)∉binds)->bindL a binds m x=m x
 |[],_,_=>rfl
 |(n,v)::r,m,h=>by
  delta bindL;rw[mx λw hw=>h w (OV _ hw)]
  split
  ·have:x≠n:=by rintro rfl;show h v OU
   simp[this]
  ·rfl
def my :∀{binds:Ow (OM×Oy)}{m:OM->Oz Oy},(∀v,(x,v)∉binds)->bindC a binds m x=m x
 |[],_,_=>rfl
 |(n,v)::r,m,h=>by
  delta bindC;rw[my λw hw=>h w (OV _ hw)]
  split
  ·rfl
  ·have:x≠n:=by rintro rfl;show h v OU
   simp[this]
def mz :∀{P:Ow OM}{vs:Ow Oy}{i:OH}{m:OM->Oz Oy},P.Nodup->P[i]?=ba x->vs[i]?=ba v->a x=ba .local->
  bindL a (P.zip vs) m x=ba v
 |[],_,_,_,_,h,_,_=>by simp at h
 |_::_,[],_,_,_,_,h,_=>by simp at h
 |p::P,w::vs,0,m,nd,b,c,hk=>by
  simp at b c;subst b;subst c
  change bindL _ ((p,w)::P.zip vs) m p=_;delta bindL;rw[mx λv d=>(Q6.mp nd).1 (VI d).1,OZ hk]
  simp
 |p::P,w::vs,i+1,m,nd,b,c,hk=>by
  unfold bindL;show mz  (Q6.mp nd).2 (by simpa using b) (by simpa using c) hk
def mB :∀{P:Ow OM}{vs:Ow Oy}{i:OH}{m:OM->Oz Oy},P.Nodup->P[i]?=ba x->vs[i]?=ba v->a x≠ba .local->
  bindC a (P.zip vs) m x=ba v
 |[],_,_,_,_,h,_,_=>by simp at h
 |_::_,[],_,_,_,_,h,_=>by simp at h
 |p::P,w::vs,0,m,nd,b,c,hk=>by
  simp at b c;subst b;subst c
  change bindC _ ((p,w)::P.zip vs) m p=_;delta bindC;rw[my λv d=>(Q6.mp nd).1 (VI d).1,Pd hk]
  simp
 |p::P,w::vs,i+1,m,nd,b,c,hk=>by
  unfold bindC;show mB  (Q6.mp nd).2 (by simpa using b) (by simpa using c) hk
abbrev fE (N:Ow OM)(vs:Ow V):St:=vs.map ba++PN (↥N-↥vs) gV
abbrev fF (CX:rY)(P:Pe)(w:Pk)(K:OI)(mg:OM->Oz Oy)(base:Pr)(N:Ow OM)(a:OM)(scope:RN)(f:OF)(c:Oy)(A:Pl)(outer:Ow U0)(s:OB)(H:Hp)(E:XK):Cx where
 prog:=P
 w:=w
 K:=K
 mg:=mg
 base:=base
 A:=A.deeper (envOfC a scope ⇑s.heap.objs f c)
 N:=N
 s₀:=s
 H₀:=H
 env:=envOfC a scope ⇑s.heap.objs f c
 outer:=outer
 stack:=envOfC a scope ⇑s.heap.objs f c::outer
 ex:=[]
 calm:=true
 fn:=λ_=>true
 pn:=[]
 xe:=λe g=>wpAny (model P w) (A.deeper (envOfC a scope ⇑s.heap.objs f c)) (leaving (envOfC a scope ⇑s.heap.objs f c) e) (λ_ b=>CX outer H s E e b) (λd b=>CX outer H s E d b) g
def pH {sc:RN}(h:sc.names.lookup x=ba .cell):∃c,(cellsFrom n sc.names []).lookup x=ba c:=by
 have q:=Vv _ n [] (.inl h);show P1.mp q
def vU {K:OI}
  (S:FnScope N ps scope) (hd:A.handled=gV) (j:Env0 P w K mg base A outer s H) (hl:↥vs=↥ps) (r:Vals vs us)
  (x:InCallC s ⇑s.heap.objs (bindL (envOfC d scope ⇑s.heap.objs f t).kindOf (ps.zip us) λ_=>gV) (cellsFrom (⇑s.heap.objs+1) scope.names []) (bindC (envOfC d scope ⇑s.heap.objs f t).kindOf (ps.zip us) λ_=>gV) D) :
  Inv (fF CX P w K mg base N d scope f t A outer s H E) [] (fE N vs) H D:=by
 have I:↥ps<=↥N:=by have:=congrArg Yqa S.pre;rw[Py]at this;omega
 obtain⟨B,tk,rfl,hk⟩:=x.done;have l:∀b ,b∉(fF CX P w K mg base N d scope f t A outer s H E).ex:=λb z=>absurd (show b∈([])from z) (by simp)
 show#[#[j.mod,S.kind,rfl,rfl,OR _,λy z c B g=>?_,λy n=>?_,λy c _ h=>?_,λ_=>hd,Around.frames_deeper j.frames,.inr #[rfl,rfl],λb z=>absurd z (l b),j.bs,j.bsz,λb _ _=>l b,λb z=>absurd z (l b),j.funs,j.frf],
  rfl,j.bare,Un.kept hk,#[_,x.toInCall.ns,λi y v B g L=>?_],λy c h=>#[_,x.cell y c h],j.hok.fresh (OR _),λy c h=>?_,λp m=>absurd (show p∈([])from m) (by simp),j.hok.kept hk,?_]
 ·show name_of_addr x.apart (Sh B) (Sh g)
 ·rcases n with n|n
  ·show pH n
  ·show absurd rfl (S.nofree _ (Sh n))
 ·show Q1 (x.above y c (Sh h))
 ·have hi:i<↥vs:=by
   unfold fE at g
   by_cases hi:i<↥vs
   ·show hi
   ·rw[RX (by simpa using hi)]at g
    rw[List.getElem?_replicate]at g;split at g<;>cases g
  have G:vs[i]?=ba v:=by
   unfold fE at g;rw[PH (by simpa using hi),OY]at g
   cases e:vs[i]? with
   |none=>rw[e]at g;cases g
   |some a=>rw[e]at g;cases g;rfl
  obtain⟨u,C,J⟩:=r.get G;have m:ps[i]?=ba y:=by
   rw[<- S.pre,Vg ∅];show B
  have o:ps.Nodup:=by rw[<- S.pre];show S.nd.sublist (WT _ _)
  show#[u,J,?_];rcases S.par y (O7 m)with k|k
  ·show .inl #[k,mz o m C k]
  ·obtain⟨c,e⟩:=pH  k;show .inr #[.inl k,c,e,?_];have q:=x.cell y c e;rw[mB o m C (by change scope.names.lookup y≠_;rw[k];decide)]at q
   show q
 ·show j.hok.fresh (Q1 (x.above y c (Sh h)))
 ·unfold fE;change _=↥N;rw[OL,OC,VQ];omega
def Fk {K:OI}{ kV     :Oy}
   (U:K.lookup f=ba #[oc,od,.func (Q7 name a d body scope J kV doc pm an cdv ct),osl]) (p:Sk K cdv a=true) (S:FnScope N ps scope)
  (len:∀vs H Q E,sp vs H Q E->↥vs=↥ps)
  (h:∀ A outer s H vs Q E,Room k (A.deeper (envOfC a scope ⇑s.heap.objs f cdv))->sp vs H Q E->
   ∃t,PSs (fF CX P w K mg base N a scope f cdv A outer s H E) body t/\t {nx:=λ_ g=>Q .non g,rt:=Q} (fE N vs) H) :
  FnOk P w K mg base CX (k+1) f (Q7 name a d body scope J kV doc pm an cdv ct) ps sp:=by
 show#[len,λA outer s H args us vs Q E z j O r l=>?_]
 have hl:=len _ _ _ _ l;have G:K.In s.heap:=j.mod.kin.keeps λb o e=>(j.bs b o e).1
 have B:s.heap.NoLimit:=j.mod.nolimit.keeps λb o e=>(j.bs b o e).1
 have i:∀y∈ps.zip us,scope.names.lookup y.1=ba .local\/(scope.names.lookup y.1=ba .cell/\((cellsFrom (⇑s.heap.objs+1) scope.names []).lookup y.1).isSome=true):=λ#[n,v] hy=>by
  rcases S.par n (VI hy).1 with q|q
  ·show .inl q
  ·show .inr #[q,Vv _ _ _ (.inl q)]
 show codeAny_call_function z.depth (G _ _ U) rfl S.co S.gen rfl (PySem.W.codeRec_of G p) (O _ _ _ _ ?_);show wpAny_newFunctionEnv_cells S.kind i λenv R L x=>?_
 subst R;show#[B.keeps x.toInCall.keep,codeAny_func ?_];obtain⟨t,ht,T⟩:=h A outer s H vs Q E (z.deeper _) l;have I:Inv (fF CX P w K mg base N a scope f cdv A outer s H E) [] (fE N vs) H L:=vU S z.hd j hl r x;show P4 (ht [] L (fE N vs) H _ I T) (λM D hs=>?_) λe D hs=>hs
 have fin:∀{m:St}{g:Hp}{v:V}{u:Oy},Inv (fF CX P w K mg base N a scope f cdv A outer s H E) [] m g D->RelV v u->Q v g->CE outer P w H s Q u D:=
  λ{m g v u} c C q=>#[v,g,c.os,c.bare,c.base,c.hok,C,q]
 cases M with
 |ret u=>
  obtain⟨v,m,g,c,C,q⟩:=hs;show fin c C q
 |next=>
  obtain⟨m,g,c,q⟩:=hs;show fin (v:=V.non) (u:=Qk) c rfl q
 |brk=>
  obtain⟨_,_,_,q⟩:=hs;show P0.elim q
 |cont=>
  obtain⟨_,_,_,q⟩:=hs;show P0.elim q
section
variable{X:Cx}{x:OM}{p pos:Rl}{e:Pb}{es:Ow Pb}{t:TA}{id T:Qs}{r:Ow V->Hp->VK->Prop}
abbrev NU (r:Ow V->Hp->VK->Prop)(t:TA):TE:=λY H Q=>t Y H λvs a=>r vs a Q
def kP (hc:CallR X (.builtin id) r)(d:Gl X x)(f:X.mg x=gV)(i:bootBuiltins x=ba (.builtin id))(b:PA X (e::es) t)(g:x≠"__name__":=by decide)(hdb:(x==("__debug__"))=false:=by decide)
  (c:starEach (e::es) X.env=(false,eval e X.env)::starEach es X.env:=by rfl) (a:(backTo pos (starEach es X.env)).any (·.1)=false:=by rfl):PE X (.Call (.Name x p) (e::es) [] pos) (NU r t):=by
 intro J s Y H Q I h;show RW (jn I d f i ?_ g hdb);show Xl (a9 (b pos J s Y H _ I h) λus j #[vs,H1,I1,r1,q1]=>hc J j Y H1 vs us Q I1 r1 q1) c a
def vV (hc:CallR X (.type T) r)(d:Gl X x)(f:X.mg x=gV)(i:bootBuiltins x=ba (.type T))(b:PA X (e::es) t)(g:x≠"__name__":=by decide)(hdb:(x==("__debug__"))=false:=by decide)
  (c:starEach (e::es) X.env=(false,eval e X.env)::starEach es X.env:=by rfl) (a:(backTo pos (starEach es X.env)).any (·.1)=false:=by rfl):PE X (.Call (.Name x p) (e::es) [] pos) (NU r t):=by
 intro J s Y H Q I h;show RW (jn I d f i ?_ g hdb);show RI (a9 (b pos J s Y H _ I h) λus j #[vs,H1,I1,r1,q1]=>hc J j Y H1 vs us Q I1 r1 q1) c a
end
end L2
namespace HT
open PySem PyProof.Rows
section
open PySem.SeqAt
open PySem.AutoSeq1 (wpAny_loadPart')
open PySem.MeetsSeq PySem.MeetsSeq2 PySem.MeetsSeq3
end
section
variable{prog:Pe}{w:Pk}{A:Pl}{E:Oy->OB->Prop}{s:OB}
def Cr (ht:Wt s.heap t vs.toArray)(q:Wt s.heap b ws.toArray)(k:vs≠[])
  (o:ws=[]->Q (.ref t) s) (p:ws≠[]->Q (.ref ⇑s.heap.objs) {s with heap:=s.heap.push {cls:=.type "tuple",data:=.seq (vs++ws).toArray}})
  (hsz:↥vs+↥ws<=sizeLine):wh prog w A (binaryOp .Add (.ref t) (.ref b)) Q E s:=by
 obtain⟨⟨cls,dd,data,m⟩,h,hc,n,hd⟩:=id ht;obtain⟨⟨j,c,i,g⟩,a,d,l,f⟩:=id q;simp only at hc hd d f;subst hc hd d f;have e:vs.toArray++ws.toArray=(vs++ws).toArray:=by simp
 by_cases hw:ws=[]
 ·show WU #[_,h,rfl] #[_,a,rfl] Vo Wu TQ TK (Tl _ _)
   (tuple_addW1 t b vs.toArray ws.toArray n l dd c m g (by simpa using k) (by simp[hw])) #[h,a,o hw]
 ·show WU #[_,h,rfl] #[_,a,rfl] Vo Wu TQ TK (Tl _ _)
   (tuple_addW2 t b vs.toArray ws.toArray n l dd c m g (by simpa using k) (by simpa using hw) (by rw[O5,O5];show hsz)) #[h,a,?_]
  rw[e];show p hw
abbrev cW (n d:OH):Oz O8->OH
 |none=>d
 |some v=>if v<0 then(v+(n:O8)).toNat else min v.toNat n
def ip (n d:OH):cW n d gV=d:=rfl
def t9 (n d k:OH):cW n d (ba k)=min k n:=by
 show(if k<0 then(k+(n:O8)).toNat else min _ n)=min k n
 rw[Pd ∅,Pi]
def nJ (v:O8)(n d:OH):(if v<0 then max (v+n) 0 else min v n)=((cW n d (ba v))):=by
 show(if v<0 then max _ 0 else min v n)=(if v<0 then(v+n).toNat else min _ n)
 by_cases a:v<0
 ·simp only[OZ a];omega
 ·simp only[Pd a];omega
def rZ (lo hi:Oz O8)(n:OH):Tc lo hi 1 n=(((cW n 0 lo):O8),((cW n n hi):O8)):=by
 unfold Tc;show ZX ?_ ?_
 ·cases lo with
  |none=>rfl
  |some v=>show nJ v n 0
 ·cases hi with
  |none=>rfl
  |some v=>show nJ v n n
def r0 (i j:OH):Td i j 1=j-i:=by
 unfold Td;have a:(1:O8) > 0:=∅
 revert a QY Int.ediv_one;split<;>omega
def kQ (p:UK v o)(h:Q o s):wh prog w A (XS v) Q E s:=by
 cases p with
 |none=>show Yd h
 |int i t=>show slicePart_int h
def dW {lo :Oz O8}{Q:O8×O8×OH->OB->Prop}(hs:s.heap.IsSliceOf e c d .none)(pl:UK c lo)(g:UK d hi)
  (h:Q (((cW n 0 lo)),1,cW n n hi-cW n 0 lo) s):wh prog w A (Ye (.ref e) (pure n)) Q E s:=by
 obtain⟨os,b,f,a⟩:=id hs;show Ox (Ox (Qe b a (x:=c) rfl (Ox (Qe b a (x:=d) rfl (Ox (Qe b a  rfl (OD ?_)))))));show Ox (Yd ?_);show Ox (kQ pl (Ox (kQ g (Ox (OD ?_)))));change wpAny _ _ (match Tc lo hi 1 n with|(lo,hi)=>pure (lo,(1:O8),Td lo hi 1)) _ _ s
 rw[rZ lo hi n];change wpAny _ _ (pure _) _ _ s;rw[r0];show OD h
def yj (xs:Pc Oy)(i k:OH):((Pj k).filterMap λ(m:OH)=>xs[(i+(m:O8)*1).toNat]?).toArray=((xs.toList.drop i).take k).toArray:=by
 have e:(λ(m:OH)=>xs[(i+(m:O8)*1).toNat]?)=λm=>xs[i+m]?:=by
  funext m
  have:(i+(m:O8)*1).toNat=i+m:=∅
  rw[this]
 rw[e];have:=pick_run xs i k;rw[WF]at this;have a:((λx=>xs[x]?)∘λx=>i+x)=λm=>xs[i+m]?:=rfl
 rw[a]at this;rw[this]
def iq {lo :Oz O8}(ht:Wt s.heap t items)(hs:s.heap.IsSliceOf f g i .none)(pl:UK g lo)(k:UK i hi)
  (hw:¬ (cW ⇑items 0 lo=0/\cW ⇑items ⇑items hi=⇑items))
  (h:Q (.ref ⇑s.heap.objs) {s with heap:=s.heap.push {cls:=.type "tuple",data:=.seq ((items.toList.drop (cW ⇑items 0 lo)).take (cW ⇑items ⇑items hi-cW ⇑items 0 lo)).toArray}})
  (hsz:⇑items<=sizeLine):wh prog w A (getItem (.ref t) (.ref f)) Q E s:=by
 have a:sizeOk (.seq ((items.toList.drop (cW ⇑items 0 lo)).take (cW ⇑items ⇑items hi-cW ⇑items 0 lo)).toArray):=by
  show((items.toList.drop _).take _).toArray.size<=sizeLine;rw[O5,Py,Qm,OW];omega
 obtain⟨os,e,c,j⟩:=id hs;have b:s.TypeIs (.ref f) "slice":=#[os,e,c];unfold getItem
 try with_reducible show PQ ?_
 first|refine Ox (OD ?_)|skip
 show Ox (WV ht.typeIs #v[] ?_)
 show Ox (P6  ht.typeIs Rj
  (Qt Rj ht.typeIs Wk ?_ (WG _ _)))
 change wpAny _ _ (SU (.ref t) >>= _) _ _ s;show Ox (Yy ht ?_);show Ox (UA b ?_);show Ox (dW hs pl k ?_);have d:¬ ((((cW ⇑items 0 lo):O8)==0&&(1:O8)==1&&(cW ⇑items ⇑items hi-cW ⇑items 0 lo)==⇑items)=true):=by
  intro q;rw[OE,OE]at q;have l:=eq_of_beq q.1.1;have m:=eq_of_beq q.2;show hw #[∅,∅]
 change wpAny _ _ (if (((cW ⇑items 0 lo):O8)==0&&1==1&&(cW ⇑items ⇑items hi-cW ⇑items 0 lo)==⇑items)=true then _ else _) _ _ s
 rw[Pd d,yj]
 first
  |show Ox  (Qf (OD #[_,rfl,OD h]) a)
  |show Ox  (Qf (Ox (OD (OD #[_,rfl,OD h]))) a)
  |show Ox (Ox  (Qf (OD (OD #[_,rfl,OD h])) a))
  |show Ox (Ox  (Qf (OD #[_,rfl,OD h]) a))
end
end HT
namespace L2
open PySem PySem.Spec PyProof.Rows
noncomputable abbrev TO:=St->Hp->(Oz O8->Hp->Prop)->Prop
abbrev PO (X:Cx)(e:Oz Pb)(t:TO):Prop:=
 ∀(J:Ow (OF×Qq)) (s:OB) (Y:St) (H:Hp) (Q:Oz O8->Hp->Prop),Inv X J Y H s->t Y H Q->
  wi X (evalPart e X.env) (λu b=>∃o a,Inv X J Y a b/\UK u o/\Q o a) X.xe s
abbrev Cs:TO:=λ_ H Q=>Q gV H
abbrev Kg (t:TE):TO:=λY H Q=>t Y H λx a=>∃i,x=.int i/\Q (ba i) a
section
variable{X:Cx}{e:Pb}{te:TE}{lo hi:Oz Pb}{tl th:TO}{pos p2:Rl}
def Ct:PO X gV Cs:=by
 intro J s Y H Q I h;show OD #[gV,H,I,.none,h]
def Cu (h:PE X e te):PO X (ba e) (Kg te):=by
 intro J s Y H Q I hw;show a9 (h _ s Y H _ I hw) λu a #[x,H1,I1,r1,q1]=>?_
 obtain⟨i,rfl,q⟩:=q1;obtain⟨t,rfl⟩:=r1;show#[ba i,H1,I1,.int i t,q]
abbrev Kh (X:Cx)(r:V->Oz O8->Oz O8->Hp->VK->Prop):Prop:=
 ∀(J:Ow (OF×Qq)) (s:OB) (Y:St) (H:Hp) (x:V) (v vl vu:Oy) (lo hi:Oz O8) (sl:OF) (Q:VK),Inv X J Y H s->RelV x v->s.heap.IsSliceOf sl vl vu .none->UK vl lo->UK vu hi->r x lo hi H Q->
  ∃T id,typeLookup (.type T) "__getitem__" = pure (ba (.builtin id))/\s.TypeIs v T/\wi X (getItem v (.ref sl)) (EP X J Y Q) X.xe s
abbrev Oc (r:V->Oz O8->Oz O8->Hp->VK->Prop)(te:TE)(tl th:TO):TE:=λY H Q=>te Y H λx a=>tl Y a λl b=>th Y b λu c=>r x l u c Q
def yk (j:Kh X r)(g:PE X e te)(hl:PO X lo tl)(k:PO X hi th):PE X (.Subscript e (.Slice lo hi gV p2) pos) (Oc r te tl th):=by
 intro J s Y H Q I h;show Subscript_ (a9 (g J s Y H _ I h) λv m #[x,H1,I1,r1,q1]=>?_)
 show wpAny_Slice (a9 (hl J m Y H1 _ I1 q1) λa n #[l,H2,I2,pl,q2]=>a9 (k J n Y H2 _ I2 q2) λc s3 #[u,H3,I3,pu,q3]=>?_)
 rw[evalPart_none];show OD ?_;have d:Inv X J Y H3 {s3 with heap:=s3.heap.push {cls:=.type "slice",data:=.fields [a,c,.none].toArray}}:=I3.kept (t':=s3.toks) λb o q=>OA _ q
 obtain⟨T,id,f,ht,i⟩:=j J {s3 with heap:=s3.heap.push {cls:=.type "slice",data:=.fields [a,c,.none].toArray}} Y H3 x v a c l u ⇑s3.heap.objs Q d r1 (Zw ..) pl pu q3
 change wi X (subscriptTail e (.Slice lo hi gV p2) v (.ref ⇑s3.heap.objs)) (EP X J Y Q) X.xe {s3 with heap:=s3.heap.push {cls:=.type "slice",data:=.fields [a,c,.none].toArray}}
 show tail_any (ops:=[.ref ⇑s3.heap.objs,v]) ht f i (by with_unfolding_all rfl)
abbrev nK (xs:Ow V)(lo hi:Oz O8):Ow V:=(xs.drop (HT.cW ↥xs 0 lo)).take (HT.cW ↥xs ↥xs hi-HT.cW ↥xs 0 lo)
def jR (xs:Ow V)(lo hi:Oz O8):(nK xs lo hi).length<=↥xs:=by
 unfold nK;rw[Py,Qm];omega
abbrev MR (K:OI):V->Oz O8->Oz O8->Hp->VK->Prop:=λx lo hi H Q=>∃a xs,x=.ref a/\SqT K H a xs/\
 ¬ (HT.cW ↥xs 0 lo=0/\HT.cW ↥xs ↥xs hi=↥xs)/\∀p,H p=gV->Q (.ref p) (aW H p (.tup (nK xs lo hi)))
def GV:Kh X (MR X.K):=by
 intro J s Y H x v k l lo hi j Q I g hs pl f h;obtain⟨a,xs,rfl,e,hw,q⟩:=h;cases g;obtain⟨its,r,ht,d⟩:=I.tuple e;have c:⇑its.toArray=↥xs:=by show r.length.symm
 show#["tuple",_,PyProof.Rows.slot_tuple_getitem.lookup,ht.typeIs,?_];show HT.iq ht hs pl f (by rw[c];show hw) ?_ (by rw[c];show d)
 rw[c];show#[.ref _,_,I.laid   (λb i q=>OA _ q) (OR _) ?_,rfl,q _ (I.hok.fresh (OR _))]
 show#[#[OQ (jR xs lo hi) d,NoD.new _ _ _],_,(r.drop _).take _,YO _ _]
def Vals.nil_iff (r:Vals xs us):us=[]↔xs=[]:=by
 cases r with
 |nil=>simp
 |cons _ _=>simp
end
abbrev uc (n:OH)(i:O8):Oz OH:=if 0<=i then(if i<n then ba i.toNat else gV)else if -(n:O8)<=i then ba (i+n).toNat else gV
abbrev nL {α:Type}(xs:Ow α)(i:O8):Oz α:=(uc ↥xs i).bind λj=>xs[j]?
def ud (h:uc n i=ba j):seqIndex? i n=ba j/\j<n/\-n<=i/\i<n:=by
 unfold uc at h
 by_cases b:0<=i
 ·rw[OZ b]at h
  by_cases a:i<n
  ·rw[OZ a]at h;have e:=PR h;show#[by rw[XJ b a,e],∅,∅,a]
  ·rw[Pd a]at h;cases h
 ·rw[Pd b]at h
  by_cases a : -n<=i
  ·rw[OZ a]at h;have e:=PR h;show#[by rw[WW ∅ a,e],∅,a,∅]
  ·rw[Pd a]at h;cases h
def nM (h:nL xs i=ba v):∃j,seqIndex? i ↥xs=ba j/\xs[j]?=ba v/\j<↥xs/\-(↥xs)<=i/\i<↥xs:=by
 unfold nL at h;cases e:uc _ i with
 |none=>rw[e]at h;cases h
 |some j=>
  rw[e]at h;obtain⟨a,b,c,d⟩:=ud e;show#[j,a,h,b,c,d]
def atI_nat {j:OH}(h:xs[j]?=ba v):nL xs j=ba v:=by
 have a:=(OS.mp h).1;have e:uc ↥xs j=ba j:=by
  unfold uc;rw[OZ (by show PD _),OZ (by show Sy.mpr ‹_›)];rfl
 unfold nL;rw[e];show h
abbrev nN (b:Pb):Prop:=∀o i,subscripted b false o i=operate [o,i] (getItem o i)
abbrev IxR (X:Cx)(r:R2):Prop:=
 ∀(b a:Pb) (J:Ow (OF×Qq)) (s:OB) (Y:St) (H:Hp) (x y:V) (v u:Oy) (Q:VK),Inv X J Y H s->RelV x v->RelV y u->r x y H Q->
  subscripted a false v u=operate [v,u] (getItem v u)->wi X (subscriptTail b a v u) (EP X J Y Q) X.xe s
abbrev MtR (X:Cx)(id:Qs)(r:V->Ow V->Hp->VK->Prop):Prop:=
 ∀(J:Ow (OF×Qq)) (s:OB) (Y:St) (H:Hp) (x:V) (xs:Ow V) (v:Oy) (us:Ow Oy) (Q:VK),Inv X J Y H s->RelV x v->Vals xs us->r x xs H Q->
  wi X (call (.builtin id) (v::us)) (EP X J Y Q) X.xe s
section
variable{X:Cx}{a b:Pb}{ta tb:TE}{pos:Rl}
def Ki (g:IxR X r)(e:PE X a ta)(f:PE X b tb)(hs:nN b):PE X (.Subscript a b pos) (Mn r ta tb):=by
 intro J s Y H Q I h;show Subscript_ (GD e f I h λv u k x y c d i j q=>g a b J k Y c x y v u Q d i j q (hs _ _))
abbrev MS (K:OI):R2:=λx y H Q=>∃p xs i v,x=.ref p/\y=.int i/\SqL K H p xs/\nL xs i=ba v/\Q v H
abbrev MU (K:OI):R2:=λx y H Q=>∃p xs i v,x=.ref p/\y=.int i/\SqT K H p xs/\nL xs i=ba v/\Q v H
abbrev MV:R2:=λx y H Q=>∃z i c,x=.str z/\y=.int i/\↥z<=sizeLine/\nL z.cps.toList i=ba c/\Q (.str #[[c].toArray]) H
def Cw:IxR X (MS X.K):=by
 intro e d J s Y H x y v u Q I A B h hs;obtain⟨p,xs,i,z,rfl,rfl,o,n,q⟩:=h;cases A;obtain⟨t,rfl⟩:=B;obtain⟨its,r,pl,E⟩:=I.list o;obtain⟨j,a,k,C,l,m⟩:=nM n;obtain⟨w,f,c⟩:=r.get k;have hl:=↥r;have D:=nH;have fin:EP X _ Y Q w s:=#[z,H,I,c,q]
 by_cases g:0<=i
 ·have b:i.toNat=j:=by
   rw[XJ g m]at a;show PR a
  show item_listR pl.isList g ∅ (by rw[b];simpa using f) fin hs
 ·have b:(i+⇑its.toArray).toNat=j:=by
   rw[WW ∅ l]at a
   rw[O5,<- hl];show PR a
  show TR  pl.isList.typeIs slot_list_getitem.lookup
   (wpAny_getItem_list_neg  pl.isList ∅ (by rw[O5]<;>omega) ∅ (by rw[b];simpa using f) #[rfl,fin]) hs
def GY:IxR X (MU X.K):=by
 intro c b J s Y H x y v u Q I l m h hs;obtain⟨p,xs,i,z,rfl,rfl,k,g,q⟩:=h;cases l;obtain⟨t,rfl⟩:=m;obtain⟨its,r,pl,C⟩:=I.tuple k;obtain⟨j,e,f,n,o,A⟩:=nM g;obtain⟨w,d,a⟩:=r.get f;have hl:=↥r;have B:=nH;have fin:EP X _ Y Q w s:=#[z,H,I,a,q];show TR  pl.typeIs slot_tuple_getitem.lookup
  (getItem_tuple   pl ∅ ∅ (by rw[O5,<- hl];show e) (by simpa using d) #[rfl,fin]) hs
def GZ:IxR X MV:=by
 intro b a J s Y H x y v u Q I n o h hs;obtain⟨z,i,c,rfl,rfl,w,m,q⟩:=h;obtain⟨t,rfl⟩:=n;obtain⟨t',rfl⟩:=o;obtain⟨j,d,g,p,k,l⟩:=nM m;have hl:↥z.cps.toList=↥z:=by simp[Zx]
 rw[hl]at d k l;have r:=nH;show tail_any (typeIs_str s z t) slot_str_getitem.lookup (getItem_str  (by
  have e:decide (i < -(2^63))=false:=Pw ∅
  have f:decide (i>=2^63)=false:=Pw ∅
  rw[e,f,Vh]) (by rw[d];simpa using g) #[.str _,H,I.tok _,#[_,rfl],q]) hs
def r6 (its:Ow Oy)(n j:OH)(u:Oy):Rb (·.setIfInBounds j u) (xa its.toArray n)=(xa (its.set j u).toArray n):=by
 simp[Rb]
def Inv.lst {Y:St}(I:Inv X J Y H s)(h:H p=ba (.lst xs)) :
  ∃ its n,Vals xs its/\s.heap.get? p=ba (xa its.toArray n)/\↥xs<=sizeLine:=by
 obtain⟨z,its,n,r,e⟩:=I.hok p _ h;show#[its,n,r,e,z]
def Inv.lstUpd {Y:St}{its a:Ow Oy}(I:Inv X J Y H s)(h:H p=ba (.lst xs))
  (i:s.heap.get? p=ba (xa its.toArray n)) (hf:f (xa its.toArray n)=(xa a.toArray c)) (r:Vals d a) (j:↥d<=sizeLine) (t:OH) :
  Inv X J Y (aW H p (.lst d)) {s with heap:=s.heap.update p f,toks:=t}:=by
 have e:(s.heap.update p f).get? p=ba (xa a.toArray c):=by
  rw[P8 f i (by rw[hf]<;>rfl),hf]
 show I.write (x:=p) (e:=p) (by rw[h];trivial) (.inl rfl) (λb u g q=>(PF _ _ (Ne.symm g)).trans q) #[_,e] ?_
 show#[j,a,c,r,e]
abbrev Kj:V->V->V->Hp->(Hp->Prop)->Prop:=λo i v H Q=>∃p xs k j,o=.ref p/\i=.int k/\H p=ba (.lst xs)/\uc ↥xs k=ba j/\Q (aW H p (.lst (xs.set j v)))
def ym:Gw X Kj:=by
 intro J s Y H o i v C B u Q I x w y h;obtain⟨p,xs,k,j,rfl,rfl,g,l,q⟩:=h;cases x;obtain⟨t,rfl⟩:=w;obtain⟨its,n,r,b,m⟩:=I.lst g;obtain⟨a,z,e,f⟩:=ud l;have hl:=↥r;have A:=nH;have c:=
  I.lstUpd g b (r6 its n j u) (r.set y j) (by rw[Qz];show m) s.toks
 by_cases d:0<=k
 ·have hk:k.toNat=j:=by
   rw[XJ d f]at a;show PR a
  show PySem.W.ki_setAt b d ∅ (by rw[O5,<- hl];show f) (by rw[hk];show#[_,c,q])
 ·have hk:(k+⇑its.toArray).toNat=j:=by
   rw[WW ∅ e]at a
   rw[O5,<- hl];show PR a
  show PySem.W.ki_setBack b ∅ (by rw[O5,<- hl];show e) ∅ (by rw[hk];show#[_,c,q])
def nP (lo hi:Oz O8)(n:OH):(sliceBounds lo hi gV n).1=((HT.cW n 0 lo))/\(sliceBounds lo hi gV n).2.1=((HT.cW n n hi))/\(sliceBounds lo hi gV n).2.2=1:=by
 show#[?_,?_,rfl]
 ·cases lo with
  |none=>(delta sliceBounds HT.cW;simp)
  |some i=>
   (delta sliceBounds HT.cW;simp only[Xm,show(1:O8) > 0 by decide,QY])
   by_cases h:i<0
   ·simp only[h,QY]<;>omega
   ·simp only[h,QA]<;>omega
 ·cases hi with
  |none=>(delta sliceBounds HT.cW;simp)
  |some i=>
   (delta sliceBounds HT.cW;simp only[Xm,show(1:O8) > 0 by decide,QY])
   by_cases h:i<0
   ·simp only[h,QY]<;>omega
   ·simp only[h,QA]<;>omega
def mf (its:Ow Oy)(lo hi:Oz O8):slicePick its.toArray lo hi gV=((its.drop (HT.cW ↥its 0 lo)).take (HT.cW ↥its ↥its hi-HT.cW ↥its 0 lo)).toArray:=by
 obtain⟨a,b,c⟩:=nP lo hi _;unfold slicePick;rw[a,b,c];simp only[sliceRange_one,pick_run]<;>rfl
abbrev MW (K:OI):V->Oz O8->Oz O8->Hp->VK->Prop:=λx lo hi H Q=>∃a xs,x=.ref a/\SqL K H a xs/\∀p,H p=gV->Q (.ref p) (aW H p (.lst (nK xs lo hi)))
def Cy:Kh X (MW X.K):=by
 intro J s Y H x v k l lo hi j Q I g hs pl f h;obtain⟨a,xs,rfl,d,q⟩:=h;cases g;obtain⟨its,r,ht,e⟩:=I.list d;have c:=↥r;show#["list",_,slot_list_getitem.lookup,ht.isList.typeIs,?_];show wpAny_getItem_list_slice ht.isList hs pl f .none (by trivial) ?_ (by rw[O5]<;>omega)
 rw[mf,<- c];show#[.ref _,_,I.laid   (λb i q=>OA _ q) (OR _) ?_,rfl,q _ (I.hok.fresh (OR _))]
 show#[OQ (jR xs lo hi) e,_,0,(r.drop _).take _,OX _ rfl]
abbrev gI:V->O6
 |.non=>true
 |.bl _=>true
 |.int _=>true
 |.str _=>true
 |_=>false
abbrev Cz:V->V->O6
 |.non,.non=>true
 |.bl a,.bl b=>a==b
 |.bl a,.int b=>(if a then 1 else 0)==b
 |.int a,.bl b=>a==(if b then 1 else 0)
 |.int a,.int b=>a==b
 |.str a,.str b=>a==b
 |_,_=>false
def G0 (d:RelV y u)(c:RelV x v)(e:gI y=true)(fx:gI x=true):Vw A s u v (Cz y x):=by
 cases y with
 |non=>
  cases d;cases x with
  |non=>cases c;show ZV _
  |bl b=>cases c;show Yqe b
  |int b=>obtain⟨t,rfl⟩:=c;show Zl b t
  |str b=>obtain⟨t,rfl⟩:=c;show Zm b t
  |_=>show absurd fx P2
 |bl a=>
  cases d;cases x with
  |non=>cases c;show Y9 a
  |bl b=>cases c;show Za a b
  |int b=>obtain⟨t,rfl⟩:=c;show Zn a b t
  |str b=>obtain⟨t,rfl⟩:=c;show Zo a b t
  |_=>show absurd fx P2
 |int a=>
  obtain⟨t',rfl⟩:=d;cases x with
  |non=>cases c;show Zp a t'
  |bl b=>cases c;show Zq a t' b
  |int b=>obtain⟨t,rfl⟩:=c;show Zy a t' b t
  |str b=>obtain⟨t,rfl⟩:=c;show WB a t' b t
  |_=>show absurd fx P2
 |str a=>
  obtain⟨t',rfl⟩:=d;cases x with
  |non=>cases c;show Zr a t'
  |bl b=>cases c;show Zt a t' b
  |int b=>obtain⟨t,rfl⟩:=c;show WC a t' b t
  |str b=>obtain⟨t,rfl⟩:=c;show Zz a t' b t
  |_=>show absurd fx P2
 |_=>show absurd e P2
abbrev G1 (x:V)(u:Oy):O6:=match u with
 |.none=>Cz .non x
 |.bool b=>Cz (.bl b) x
 |.int i _=>Cz (.int i) x
 |.str z _=>Cz (.str z) x
 |_=>false
def yn (r:RelV y u)(f:gI y=true):G1 x u=Cz y x:=by
 cases y with
 |non=>cases r;rfl
 |bl b=>cases r;rfl
 |int i=>obtain⟨t,rfl⟩:=r;rfl
 |str z=>obtain⟨t,rfl⟩:=r;rfl
 |_=>show absurd f P2
def iu :∀{xs:Ow V}{us:Ow Oy},Vals xs us->xs.all gI=true->us.any (G1 x)=xs.any λy=>Cz y x
 |_,_,.nil,_=>rfl
 |y::xs,u::us,.cons r t,f=>by
  rw[P9,OE]at f;rw[SJ,SJ,yn r f.1,iu t f.2]
def fG (b:RelV x v)(fx:gI x=true):∀{xs:Ow V}{us:Ow Oy},Vals xs us->xs.all gI=true->∀u∈us,Vw A s u v (G1 x u)
 |_,_,.nil,_=>λu a=>by cases a
 |y::xs,u::us,.cons r t,f=>λc a=>by
  rw[P9,OE]at f;rcases O2.mp a with rfl|a
  ·rw[yn r f.1];show G0 r b f.1 fx
  ·show fG b fx t f.2 c a
abbrev Mp (x:V)(xs:Ow V):O6:=xs.any λy=>Cz y x
abbrev MY (K:OI)(neg:O6):R2:=λx y H Q=>∃p xs,y=.ref p/\(SqL K H p xs\/SqT K H p xs)/\gI x=true/\xs.all gI=true/\Q (.bl (if neg then !Mp x xs else Mp x xs)) H
def vW:OpR X (compareOp .In) (MY X.K false):=by
 intro J s Y H x y v u Q I b d h;obtain⟨p,xs,rfl,a,fx,fs,q⟩:=h;cases d;rcases a with a|a
 ·obtain⟨its,r,pl,c⟩:=I.list a;show SeqAt.in_listAt _ pl.isList (λw hw=>fG b fx r fs w (by simpa using hw)) #[.bl _,H,I,rfl,?_]
  rw[show its.toArray.any _=its.any (G1 x) by simp,iu r fs]
  show q
 ·obtain⟨its,r,pl,c⟩:=I.tuple a;show SeqAt.in_tupleAt _ pl (λw hw=>fG b fx r fs w (by simpa using hw)) #[.bl _,H,I,rfl,?_]
  rw[show its.toArray.any _=its.any (G1 x) by simp,iu r fs]
  show q
def nQ:OpR X (compareOp .NotIn) (MY X.K true):=by
 intro J s Y H x y v u Q I b d h;obtain⟨p,xs,rfl,a,fx,fs,q⟩:=h;cases d;rcases a with a|a
 ·obtain⟨its,r,pl,c⟩:=I.list a;show SeqAt.notIn_listAt _ pl.isList (λw hw=>fG b fx r fs w (by simpa using hw)) #[.bl _,H,I,rfl,?_]
  rw[show its.toArray.any _=its.any (G1 x) by simp,iu r fs]
  show q
 ·obtain⟨its,r,pl,c⟩:=I.tuple a;show SeqAt.notIn_tupleAt _ pl (λw hw=>fG b fx r fs w (by simpa using hw)) #[.bl _,H,I,rfl,?_]
  rw[show its.toArray.any _=its.any (G1 x) by simp,iu r fs]
  show q
def nR:CallR X (.type "list") (λxs H Q=>∃p c,xs=[.ref p]/\(SqL X.K H p c\/SqT X.K H p c)/\∀l,H l=gV->Q (.ref l) (aW H l (.lst c))):=by
 intro J s Y H xs us Q I r h;obtain⟨p,c,rfl,g,q⟩:=h;obtain⟨u,rfl,k⟩:=il r;cases k;have fin:∀its,Vals c its->↥c<=sizeLine->∀h' d,(∀b o',s.heap.get? b=ba o'->h'.get? b=ba o')->
   h'.get? ⇑s.heap.objs=ba _->EP X _ Y Q _ {s with heap:=h'}:=λits a i h' d kp e=>
  #[.ref _,_,I.laid  kp (OR _) (show ObjOk _ X.w _ h' _ (.lst c)from#[i,its,d,a,e]),rfl,q _ (I.hok.fresh (OR _))]
 rcases g with g|g
 ·obtain⟨its,a,pl,i⟩:=I.list g;have f:=↥a;obtain⟨o,j,hc,n,hd⟩:=pl.isList;show Yz p (.inl rfl) j hc hd (λh' d kp e=>fin its a i h' d kp e) (by simp only[O5]<;>omega)
 ·obtain⟨its,a,pl,i⟩:=I.tuple g;have f:=↥a;obtain⟨o,j,hc,n,hd⟩:=pl;show Yz p (.inr rfl) j hc hd (λh' d kp e=>fin its a i h' d kp e) (by simp only[O5]<;>omega)
def gJ:CallR X (.type "tuple") (λxs H Q=>∃p a,xs=[.ref p]/\((SqL X.K H p a/\∀l,H l=gV->Q (.ref l) (aW H l (.tup a)))\/(SqT X.K H p a/\Q (.ref p) H))):=by
 intro J s Y H xs us Q I r h;obtain⟨p,a,rfl,h⟩:=h;obtain⟨u,rfl,k⟩:=il r;cases k;rcases h with⟨c,q⟩|⟨c,q⟩
 ·obtain⟨its,d,pl,i⟩:=I.list c;have g:=↥d;show call_tuple_list pl.isList (λh' kp=>?_) (by simp only[O5]<;>omega)
  have f:Inv X _ Y H {s with heap:=h'}:=I.kept  kp
  have j:Inv X _ Y (aW H _ (.tup a)) {s with heap:=h'.push _}:=
   f.laid  (λb o e=>OA _ e) (OR _) #[#[i,NoD.new _ _ _],its,d,YO _ _]
  show#[.ref ⇑h'.objs,_,j,rfl,q _ (f.hok.fresh (OR _))]
 ·obtain⟨its,d,pl,i⟩:=I.tuple c;show call_tuple_same pl #[.ref p,H,I,rfl,q]
abbrev MZ (K:OI)(T:Qs)(x:V)(H:Hp):Prop:=match x with
 |.str _=>T="str"
 |.int _=>T="int"
 |.ref p=>(T="list"/\∃xs,SqL K H p xs)\/(T="tuple"/\∃o,K.lookup p=ba o/\o.cls=.type "tuple"/\o.dict=gV)\/P0
 |_=>P0
def yo {Y:St}(I:Inv X J Y H s)(r:RelV x v)(ty:MZ X.K T x H) :
  s.TypeIs v T/\∀a,v=.ref a->∃b,s.heap.get? a=ba b/\b.dict=gV:=by
 cases x with
 |str z=>
  obtain⟨t,rfl⟩:=r;cases ty;show#[typeIs_str s z t,λ_ e=>nomatch e]
 |int i=>
  obtain⟨t,rfl⟩:=r;cases ty;show#[Yg s i t,λ_ e=>nomatch e]
 |ref p=>
  cases r;rcases ty with⟨rfl,xs,d⟩|⟨rfl,o,hk,hc,hd⟩|hk
  ·obtain⟨its,_,pl,_⟩:=I.list d;show#[pl.isList.typeIs,λa e=>?_]
   cases e;obtain⟨o,n,e,c,hd,_⟩:=pl;show#[o,e,hd]
  ·show#[#[o,I.kIn p o hk,hc],λa e=>?_]
   cases e;show#[o,I.kIn _ o hk,hd]
  ·show hk.elim
 |_=>show P0.elim ty
variable{o e:Pb}{es:Ow Pb}{to:TE}{t:TA}{name:OM}{apos cpos:Rl}{T id:Qs}{r:V->Ow V->Hp->VK->Prop}
end
abbrev NV (X:Cx)(id:Qs)(r:V->Ow V->Hp->VK->Prop):Prop:=
 ∀(J:Ow (OF×Qq)) (s:OB) (Y:St) (H:Hp) (x:V) (xs:Ow V) (v:Oy) (us:Ow Oy) (Q:VK),Inv X J Y H s->RelV x v->Vals xs us->r x xs H Q->
  wi X (call (.builtin id) (v::us)) (EP X J Y Q) X.xe s
def Vals.one:∀{x:V}{us:Ow Oy},Vals [x] us->∃u,us=[u]/\RelV x u
 |_,_,.cons r .nil=>#[_,rfl,r]
def Vals.eraseIdx:∀{xs:Ow V}{us:Ow Oy} i,Vals xs us->Vals (xs.eraseIdx i) (us.eraseIdx i)
 |_,_,_,.nil=>.nil
 |_,_,0,.cons _ t=>t
 |_,_,i+1,.cons r t=>.cons r (Vals.eraseIdx i t)
def Vals.rep (h:Vals xs us):∀k:OH,Vals (PN k xs).flatten (PN k us).flatten
 |0=>.nil
 |k+1=>by
  show Vals.append h (Vals.rep h k)
def mC (its:Ow Oy):∀ k a,
  ZA (λc d=>c++d) a.toArray (PN k its.toArray)=(a++(PN k its).flatten).toArray
 |0,a=>by simp
 |k+1,a=>by
  have e:a.toArray++its.toArray=(a++its).toArray:=by simp
  have b:(a++its)++(PN k its).flatten=a++(PN (k+1) its).flatten:=by
   rw[Ti,WX,Rc]
  rw[<- b,<- mC its k _,<- e,Ti,Uq]
section
variable{X:Cx}{J:Ow (OF×Qq)}{Y:St}{H:Hp}{s:OB}{l b:OF}{xs ys zs:Ow V}
def Inv.lset {its :Ow Oy}(I:Inv X J Y H s)(b:H l=ba (.lst xs))
  (e:s.heap.get? l=ba (xa its.toArray n)) (hf:f its.toArray=a.toArray) (g:Vals ys a) (h:↥ys<=sizeLine) :
  Inv X J Y (aW H l (.lst ys)) {s with heap:=s.heap.update l (Rb f),toks:=t'}:=by
 have q:=Xn e f;rw[hf]at q;show I.write   (by rw[b];show trivial) (.inl rfl) (λi u c d=>(PF _ _ (Ne.symm c)).trans d) #[_,q] ?_
 show#[h,a,_,g,q]
def Inv.lnew (I:Inv X J Y H s)(a:Vals ys its)(b:↥ys<=sizeLine) :
  Inv X J Y (aW H ⇑s.heap.objs (.lst ys)) {s with heap:=s.heap.push {cls:=.type "list",data:=.seq its.toArray},toks:=t'}:=
 I.laid (λ_ _ q=>OA _ q) (OR _) #[b,its,0,a,OX _ rfl]
def Inv.fresh (I:Inv X J Y H s):H ⇑s.heap.objs=gV:=I.hok.fresh (OR _)
def Inv.lstM (I:Inv X J Y H s)(a:H l=ba (.lst xs)):↥xs<=sizeLine/\∃ its n,Vals xs its/\↥xs=↥its/\s.heap.get? l=ba (xa its.toArray n):=by
 obtain⟨z,its,n,r,e⟩:=I.hok l _ a;show#[z,its,n,r,↥r,e]
def pI (h:n<=sizeLine):Tn n=false:=by
 show Pw (by show Sd.mpr ‹_›)
end
section
variable{X:Cx}
abbrev CA:V->Ow V->Hp->VK->Prop:=λx vs H Q=>∃l xs y,x=.ref l/\vs=[y]/\H l=ba (.lst xs)/\↥xs<sizeLine/\Q .non (aW H l (.lst (xs++[y])))
def vX:NV X "list.append" CA:=by
 intro J s Y H x vs v us Q I d c h;obtain⟨l,xs,y,rfl,rfl,a,f,q⟩:=h;cases d;obtain⟨u,rfl,b⟩:=c.one;obtain⟨z,its,n,r,hl,e⟩:=I.lstM a;show Vx F.slot_list_append #[_,e,rfl] F.entry_list_append (F.args_list_append_2 _ _) (WY l _ n u (by rw[O5];omega)) #[e,?_]
 show#[.non,_,I.lset  a e (by simp) (r.append #v[b]) ?_,rfl,q]
 rw[OL,T5];show Nat.succ_le_of_lt ‹_›
abbrev CB:V->Ow V->Hp->VK->Prop:=λx vs H Q=>∃l b xs a,x=.ref l/\vs=[.ref b]/\H l=ba (.lst xs)/\H b=ba (.lst a)/\↥xs+↥a<=sizeLine/\Q .non (aW H l (.lst (xs++a)))
def vY:NV X "list.extend" CB:=by
 intro J s Y H x vs v us Q I p o h;obtain⟨l,b,xs,y,rfl,rfl,d,g,t,q⟩:=h;cases p;obtain⟨u,rfl,m⟩:=o.one;cases m;obtain⟨z,its,n,r,hl,e⟩:=I.lstM d;obtain⟨w,a,j,k,i,f⟩:=I.lstM g;have hsz:⇑its.toArray+⇑a.toArray<=sizeLine:=by rw[O5,O5];omega
 have c:¬ (!its.toArray.isEmpty&&Tn (⇑its.toArray+⇑a.toArray))=true:=by
  rw[pI hsz,QI];show P2
 show Vx F.slot_list_extend #[_,e,rfl] F.entry_list_extend (F.args_list_extend_2 _ _)
  (WZ l _ n b _ j c (by rw[O5];omega) (by show Ry ‹_›)) #[e,f,?_]
 show#[.non,_,I.lset  d e (by simp) (r.append k) ?_,rfl,q]
 rw[OL];show OQ ‹_› (OP rfl)
abbrev M0:R2:=λx y H Q=>∃l b xs a,x=.ref l/\y=.ref b/\H l=ba (.lst xs)/\H b=ba (.lst a)/\↥xs+↥a<=sizeLine/\∀p,H p=gV->Q (.ref p) (aW H p (.lst (xs++a)))
def G2:OpR X (binaryOp .Add) M0:=by
 intro J s Y H x y v u Q I k m h;obtain⟨l,b,xs,w,rfl,rfl,g,f,o,q⟩:=h;cases k;cases m;obtain⟨z,its,n,r,hl,e⟩:=I.lstM g;obtain⟨t,a,p,j,i,c⟩:=I.lstM f;show PySem.P.add_list e c ?_ (by rw[O5,O5];omega)
 have d:its.toArray++a.toArray=(its++a).toArray:=by simp
 rw[d];show#[.ref _,_,I.lnew  (r.append j) (by rw[OL];omega),rfl,q _ I.fresh]
abbrev M1:R2:=λx y H Q=>∃l k xs,x=.ref l/\y=.int k/\H l=ba (.lst xs)/\-(2^63)<=k/\k<2^63/\↥xs*k.toNat<=sizeLine/\
 ∀p,H p=gV->Q (.ref p) (aW H p (.lst (PN k.toNat xs).flatten))
def CC {α:Type}(xs:Ow α)(k:OH):(PN k xs).flatten.length=k*↥xs:=by
 induction k with
 |zero=>simp
 |succ k ih=>rw[Ti,WX,OL,ih,YS,Nat.add_comm]
def G3:OpR X (binaryOp .Mult) M1:=by
 intro J s Y H x y v u Q I A B h;obtain⟨l,k,xs,rfl,rfl,w,o,p,i,q⟩:=h;cases A;obtain⟨t,rfl⟩:=B;obtain⟨z,its,n,r,hl,e⟩:=I.lstM w;have f:⇑its.toArray*k.toNat<=sizeLine:=by rw[O5,<- hl];show i
 have c:¬ ⇑its.toArray*k.toNat > (2^63-1)/8:=by
  have:sizeLine<=(2^63-1)/8:=by decide
  omega
 have d:¬ (!Yh k)=true:=by
  rw[fitsIndex_both o p];show P2
 have b:¬ Tn (⇑its.toArray*k.toNat)=true:=by
  rw[pI f];show P2
 have g:ZA (λD E=>D++E) #[] (PN (if its.toArray.isEmpty=true then 0 else k.toNat) its.toArray)=(PN k.toNat its).flatten.toArray:=by
  have j:=λm=>by
   have:=mC its m [];rw[XU]at this;show this
  rw[j];cases its with
  |nil=>simp
  |cons a G=>rw[Pd (by simp)]
 show wpAny_binaryOp_repeat_ref   #v[] #[_,e,rfl] (λC=>Yg C k t) noFill_list_mul F.fills_int_mul F.slot_int_rmul repeat_list F.slot_int_index.lookup
  (Vx F.slot_int_rmul (Yg s k t) F.entry_int_rmul (F.args_int_rmul_2 _ _) (int___rmul___int_list k t l _ n)
   #[e,rfl,#[_,e,rfl],Vx F.slot_list_mul #[_,e,rfl] F.entry_list_mul (F.args_list_mul_2 _ _) (WN l _ n k t d c b) #[e,?_]])
 rw[g];show#[.ref _,_,I.lnew  (r.rep _) (by rw[CC,Nat.mul_comm];show i),rfl,q _ I.fresh]
end
section
variable{X:Cx}{J:Ow (OF×Qq)}{Y:St}{H:Hp}{s:OB}{a:OF}{y v:V}{u r:Oy}{o:Oz V}{A:Pl}{E:Oy->OB->Prop}
def Inv.big (I:Inv X J Y H s):sysModules<⇑s.heap.objs:=by
 have h:=(I.mod.glob.keeps I.bk).lt;show SX #v[] h
def CD (I:Inv X J Y H s)(g:JU (H a))(hs:Q5 a s.heap h')(f:∃q,h'.get? a=ba q)(new:ObjOk X.prog X.w (aW H a c) h' a c) :
  Inv X J Y (aW H a c) (ww s h' t'):=
 I.write (x:=a) (e:=a) g (.inl rfl) (λb q d z=>(hs.2 b d).trans z) f new
end
noncomputable abbrev VV:Ow (V×V)->Ow (Oy×Oy)->Prop:=VX λp q=>RelV p.1 q.1/\RelV p.2 q.2
structure M2 (X:Cx)(o:Pb)(m:OM)(apos:Rl)(e f:Pb)(cpos:Rl):Prop where
 base:attributeBase o m X.env (eval o X.env)=eval o X.env
 few:((backTo cpos (starEach [e,f] X.env)).all (λx=>!x.1)&&(backToKw cpos (keywordEach [] X.env)).all (λx=>x.1.isSome)
  && decide (([e,f]:Ow Pb).length+([]:Ow Vu).length+(if ([]:Ow Vu).isEmpty then 0 else 1)<30))=true
 line:(apos.endLine==cpos.line)=true
 trees:backTo cpos (starEach [e,f] X.env)=[(false,eval e X.env),(false,eval f X.env)]
end L2
namespace Att
open PySem PySem.W PySem.Calls PyProof.Rows
def kh :∀ ns vs,WellAll P h vs (ns.map WData.int)->X8 vs ns:=by
 intro ns
 induction ns with
 |nil=>
  intro vs w;cases w;show .nil
 |cons n ns ih=>
  intro vs w;cases w with
  |cons a b=>
   cases a;show .cons _ _ (ih _ b)
def vZ {l:OpenLaw}(p:l.most=ba n)
  (b:l.row.toRowW.claim.pre args=true) (i:WellAll P h vals args) :
  ∃a vs ns,vals=[Ps a]/\args=[WData.list (ns.map WData.int)]/\h.get? a=ba {cls:=.type "list",data:=.seq vs.toArray}/\X8 vs ns/\↥ns<=n:=by
 have g:WShape.hasAll [] _ _=true:=(pre_splitW b).1;have hc:l.pre.holds [] _=true:=(pre_splitW b).2;obtain⟨d,r,rfl,k,m⟩:=hasAllW_cons g;obtain rfl:=hasAllW_nil m;obtain⟨xs,rfl,o⟩:=hasW_list k;obtain⟨ns,rfl⟩:=items_int o;have e:↥ns<=n:=by
  have f:(WTm.not (.lt (.lit (.int n)) (.len (.arg 0)))).holds [] {args:=[.list (ns.map .int)]}=true:=by
   have f:=(holds_andW hc).1;rw[p]at f;show f
  have j:=condW_of f (w_not (w_lt w_lit (w_len_list (w_arg rfl))));show Nat.le_of_not_lt λq=>?_
  first
   |(show absurd j #v[])
   |(simp at j;omega)
 cases i with
 |cons t w2=>
  cases w2;cases t with
  |list s c=>show#[_,_,ns,rfl,rfl,s,kh ns _ c,e]
def v4 (l:OpenLaw)(args:Ow WData):l.row.toRowW.claim.post args (.bool true) args=true:=
 postW_of
  (show WShape.has [] _ _=true by first|rfl|decide|simp[])
  (w_eq_bool (w_res rfl) w_lit) rfl
def attach_call {l:OpenLaw}
  (H:l.most=ba n) (p:d.params.defaults=[])
  (call:∀ w s₀ b mg u fa o pm i doc a vs ns,
   Ground q loose [] XP w s₀ mg u b.heap->YP w b.heap->
   b.heap.get? fa=ba o->o.data=.func (docDef d.name d.params d.body d.scope pm i doc)->b.heap.CodeRec i d.name->mg d.name=ba (.ref fa)->
   b.heap.get? a=ba {cls:=.type "list",data:=.seq vs.toArray}->X8 vs ns->↥ns<=n->b.gens=#[]->
   codeAny (model l.prog w) callerA (.call (.ref fa) #[[.ref a],[]]) (λr j=>r=.ok (.ret (.bool true))/\OldK b.heap j.heap/\j.os=b.os/\Ud j.gens) b) :
  WalkO q loose XP YP l.row.toRowW d [] (λf vs=>Yi f vs):=by
 intro w s₀ b mg u G k fa o pm i doc y kV I hd m v s C args vals as h x L t D;obtain rfl:y=.none:=Dflts.none v p;obtain rfl:kV=.none:=Dflts.noKw v;obtain⟨a,vs,ns,rfl,rfl,g,c,e⟩:=vZ H h t;show enter_call (Rr (call w s₀ b mg u fa o pm i doc a vs ns G k I (fd_plain hd) m s g c e C) λr j J=>?_)
 obtain⟨rfl,z,A,B⟩:=J;show#[.inl #[.bool true,.bool true,[],rfl,λ_=>rfl,.bool true,v4 l _,λ_=>#[ZF,λ_ E=>(nomatch E)]],z,A,B]
end Att
namespace L2
open PySem PySem.Spec PyProof.Rows
def mE:∀{vs:Ow Oy}{ns:Ow O8},X8 vs ns->Vals (ns.map V.int) vs
 |_,_,.nil=>.nil
 |_,_,.cons n t h=>.cons #[t,rfl] (mE h)
abbrev yp (H:Hp):Prop:=∀b,H b=gV\/∃o xs,H b=ba (.frz o (.lst xs))
def yq {K:OI}
  (S:K.In c.heap) (C:c.heap.Ns mainGlobals mg) (g:c.heap.Ns builtinsNs Q) (N:∀x:OM,x≠"__name__"->Q x=bootBuiltins x) (B:c.heap.NoLimit) (hg:c.gens=#[])
  (J:c.heap.get? a=ba {cls:=.type "list",data:=.seq vs.toArray}) (hi:X8 vs ns) (hl:↥ns<=sizeLine) (hr:Room k callerA)
  (F:∀base:Pr,K.In base->base.Ns mainGlobals mg->FnOk P w K mg base CX k fa fd [x] sp) (p:∀ s u,WS s fd #[[u],[]] [(x,u)])
  (O:∀H:Hp,yp H->SqL K H a (ns.map V.int)->sp [.ref a] H (λv _=>v=.bl true) λ_ _ _=>P0)
  (M:∀H e i,CX [] H c (λ_ _ _=>P0) e i->P0) :
  codeAny (model P w) callerA (.call (.ref fa) #[[.ref a],[]]) (λr i=>r=.ok (.ret (.bool true))/\OldK c.heap i.heap/\i.os=c.os/\Ud i.gens) c:=by
 have X:=mE hi;have G:=↥hi;have l:∀H:Hp,yp H->SqL K H a (ns.map V.int)->HOk P w H c.heap->(∀b,H b≠gV->b=a)->(H a≠gV->K.lookup a=gV)->
   codeAny (model P w) callerA (.call (.ref fa) #[[.ref a],[]]) (λr i=>r=.ok (.ret (.bool true))/\OldK c.heap i.heap/\i.os=c.os/\Ud i.gens) c:=by
  intro H W hS D U hK;have f:∀{b:OF}{o:Qq},c.heap.get? b=ba o->H b=gV->(nD c.heap H).get? b=ba o:=λe n=>xU e n
  have R:∀{b:OF}{o:Qq}{es:Pc R5}{y:OH},c.heap.get? b=ba o->o.data=.dict es y->H b=gV:=λ{b o es y} e d=>by
   cases q:H b with
   |none=>rfl
   |some u=>
    have L:b=a:=U b (by rw[q];simp)
    subst L;rw[J]at e;cases e
    have d':Data.seq vs.toArray _=Data.dict es y:=d;cases d'
  have j:∀{b:OF}{m:OM->Oz Oy},c.heap.Ns b m->(nD c.heap H).Ns b m:=λ{b m} #[o,es,y,e,d,r]=>#[o,es,y,f e (R e d),d,r]
  have A:K.In (nD c.heap H):=λb o e=>f (S b o e) (by
   cases q:H b with
   |none=>rfl
   |some u=>
    have L:b=a:=U b (by rw[q];simp)
    subst L;rw[hK (by rw[q];simp)]at e;cases e)
  have hM:Mod K mg (nD c.heap H):=#[A,j C,#[Q,j g,N],let ⟨mc,h1,h2⟩:=B;#[mc,j h1,h2]]
  have Y:Env0 P w K mg (nD c.heap H) callerA [] c H:=#[rfl,hM,λb o e=>Cc e,YT (vM _ _),trivial,λb g=>absurd (show b∈([]:Ow OF)from g) (by simp),D,.of_eq hg]
  show Rr ((F _ A (j C)).run callerA [] c H #[[.ref a],[]] [.ref a] [.ref a] _ _ hr Y (p c (.ref a)) #v[rfl] (O H W hS)) λr i h=>?_
  cases r with
  |error e=>show(M H e i h).elim
  |ok fl=>
   cases fl with
   |next=>show P0.elim h
   |brk=>show P0.elim h
   |cont=>show P0.elim h
   |ret u=>
    obtain⟨v,H',os,t,un,E,r',q⟩:=h;have q':v=.bl true:=q;subst q';obtain rfl:u=Qx true:=r';show#[rfl,OldK.of_keep λb o e=>?_,os,t]
    cases q:H b with
    |none=>show un.keep b o e q (by intro z;show absurd (show b∈([]:Ow OF)from z) (by simp)) (by simp)
    |some u=>
     rcases W b with z|⟨ob,xs,z⟩
     ·rw[q]at z;cases z
     ·have z2:=un.frzs b ob _ z;obtain⟨T,_⟩:=D b _ z;obtain⟨Z,_⟩:=E b _ z2;rw[e]at T;cases T
      show Z
 cases hk:K.lookup a with
 |some o=>
  have e:=S a o hk;rw[J]at e;cases e;show l (λ_=>gV) (λ_=>.inl rfl) (.inr #[_,vs.toArray,_,hk,rfl,rfl,rfl,by rw[O5,G];show hl,by simpa using X]) (λb u z=>by have I:(gV:Oz HO)=ba u:=z;cases I) (λb z=>absurd rfl z) λz=>absurd rfl z
 |none=>
  show l (λb=>if b=a then ba (.frz {cls:=.type "list",data:=.seq vs.toArray} (.lst (ns.map V.int)))else gV) (λb=>?_) (.inl (.inr #[{cls:=.type "list",data:=.seq vs.toArray},OZ rfl])) (λb u z=>?_) (λb z=>?_) λ_=>hk
  ·by_cases g:b=a
   ·show .inr #[_,_,OZ g]
   ·show .inl (Pd g)
  ·by_cases g:b=a
   ·have I:=(OZ g).symm.trans z;cases I;subst g;show#[J,by rw[OC];show hl,vs,_,X,J]
   ·have I:=(Pd g).symm.trans z;cases I
  ·by_cases g:b=a
   ·show g
   ·show absurd (Pd g) z
def CF {l:VJ}{K:T8->OI}{CX:Pk->rY}{sp:Pk->Sp}
  (M:l.most=ba n) (t:n<=sizeLine) (p:d.params.defaults=[]) (N:Room k callerA)
  (E:∀ w h,YP w h->(K w.params).In h)
  (F:∀ w mg fa h,(K w.params).In h->h.Ns mainGlobals mg->mg d.name=ba (.ref fa)->
   ∃fd:Qp,(∀ s u,WS s fd #[[u],[]] [(x,u)])/\
    ∀base:Pr,(K w.params).In base->base.Ns mainGlobals mg->FnOk l.prog w (K w.params) mg base (CX w) k fa fd [x] (sp w))
  (y:∀ w H a (ns:Ow O8),↥ns<=n->yp H->SqL (K w.params) H a (ns.map V.int)->sp w [.ref a] H (λv _=>v=.bl true) λ_ _ _=>P0)
  (m:∀ w H s e z,CX w [] H s (λ_ _ _=>P0) e z->P0) :
  YA q loose XP YP l.row.toRowW d [] (λf vs=>Yi f vs):=by
 show Att.attach_call M p λw s₀ i mg Q fa o pm O doc a vs ns G j P hd J r g c b L=>?_
 have A:=E w _ j;obtain⟨fd,I,B⟩:=F w mg fa _ A G.T.g r;show yq A G.T.g G.T.b G.T.builtins G.T.nolimit L g c (OQ b t) N B I (λH C D=>y w H a ns b C D) λH e z=>m w H i e z
abbrev bT (s:Qj):Arguments:=match s with
 |.FunctionDef _ a _ _ _ _ _ _ _ _=>a
 |_=>{posonlyargs:=[],args:=[],vararg:=gV,kwonlyargs:=[],kw_defaults:=[],kwarg:=gV,defaults:=[]}
abbrev aS (s:Qj):Ow Qj:=match s with
 |.FunctionDef _ _ b _ _ _ _ _ _ _=>b
 |_=>[]
abbrev aj (s:Qj):RN:=match s with
 |.FunctionDef _ _ _ _ _ _ sc _ _ _=>sc
 |_=>{kind:=.function,names:=[],isGenerator:=false,isCoroutine:=false}
noncomputable abbrev mF:rY:=λ_ _ _ _ _ _=>P0
noncomputable abbrev E0:XK:=λ_ _ _=>P0
def yr :jp mF X E0:=λ_ _ _ _ _ _ _ h=>h.elim
structure Fun (K:OI)(x qual:OM)(st:Qj)(f:OF)(fd:Qp):Prop where
 ex:∃(oc:Oy) (od:Oz OF) (kV doc pm:Oy) (an:Oz OF) (cdv ct:Oy) (osl:Pc (Oz Oy)),
  fd=Q7 x qual (bT st) (aS st) (aj st) .none kV doc pm an cdv ct/\K.lookup f=ba #[oc,od,.func fd,osl]/\Sk K cdv qual=true
 kp:Qh K (.ref f)=true
section
variable{P:Pe}{w:Pk}{K:OI}{mg:OM->Oz Oy}{base:Pr}
def Fun.ok {st:Qj}(F:Fun K x a st f fd)(S:FnScope N ps (aj st))(len:∀vs H Q E,sp vs H Q E->↥vs=↥ps)
  (b:∀ cdv A outer s H vs Q E,Room k (A.deeper (envOfC a (aj st) ⇑s.heap.objs f cdv))->sp vs H Q E->
   ∃t,PSs (fF mF P w K mg base N a (aj st) f cdv A outer s H E).nox (aS st) t/\t {nx:=λ_ e=>Q .non e,rt:=Q} (fE N vs) H):FnOk P w K mg base mF (k+1) f fd ps sp:=by
 obtain⟨oc,od,kV,doc,pm,an,cdv,ct,osl,rfl,i,c⟩:=F.ex;show Fk i c S len λA outer s H vs Q E g d=>?_
 obtain⟨t,h,q⟩:=b cdv A outer s H vs Q E g d;show#[t,h.nox,q]
def Fun.binds {st:Qj}(F:Fun K x a st f fd)
  (h:∀ kV doc pm an cdv ct us,↥us=↥ps->bindArgs (Q7 x a (bT st) (aS st) (aj st) .none kV doc pm an cdv ct) #[us,[]]=pure (ps.zip us)):Binds K fd ps []:=by
 obtain⟨oc,od,kV,doc,pm,an,cdv,ct,osl,rfl,c,b⟩:=F.ex;show .all (h kV doc pm an cdv ct)
def r8 {st:Qj}{kV    :Oy}(l:K.lookup f=ba #[oc,od,.func (Q7 x a (bT st) (aS st) (aj st) .none kV doc pm an cdv ct),osl])
  (c:Sk K cdv a=true) (k:Qh K (.ref f)=true):Fun K x a st f (Q7 x a (bT st) (aS st) (aj st) .none kV doc pm an cdv ct):=#[#[oc,od,kV,doc,pm,an,cdv,ct,osl,rfl,l,c],k]
end
section
variable{X:Cx}
def pv (i:OH){pos:Rl}(b:X.N[i]?=ba x:=by rfl)(c:Mm X.env.scope x)(hd:(x==("__debug__"))=false:=by decide)
  (a:(x==("__classdict__"))=false:=by decide):PE X (.Name x pos) (pG i):=gR b c hd a
end
end L2
open PySem PySem.W PyProof.Rows L2
set_option maxHeartbeats 0
namespace Mi
section
abbrev top (i:OH):Qj:=PySem.Challenge.pw_layworld_k03_the_first_word_of_several.main.body.getD i (.Pass #[0,0,0,0])
abbrev pw:Pe:=Uf
abbrev ge (P:T8)(n:OM)(t:OH)(v:Oy):R5:=#[PyData.keyHash P n,.str n t,v]
abbrev kd (a:OH)(es:Ow R5)(n:OH):OF×Qq:=(a,#[.type "dict",gV,.dict es.toArray n,#[]])
abbrev kc (a:OH)(vs:Ow Oy):OF×Qq:=(a,#[.type "code",gV,.fields vs.toArray,#[]])
abbrev kf (a:OH)(st:Qj)(n:OM)(pm b:Oy):OF×Qq:=(a,#[.type "function",gV,.func (Q7 n n (bT st) (aS st) (aj st) .none .none .none pm gV b .none),#[]])
abbrev M3 (i:OH):Oy:=if i<=6 then(.str "layworld.kinds" 232)else if i<=10 then(.str "layworld.worlds" 255)else if i<=14 then(.str "layworld.parts" 281)else if i<=33 then(.str "layworld.rules" 301)else(.str "law_layworld_k03_the_first_word_of_several" 405)
abbrev nm (i:OH):OM:=match top i with
 |.FunctionDef n ..=>n
 |_=>""
abbrev pO (i:OH):Ow OM:=(bT (top i)).args.map (·.arg)
abbrev nO (i:OH):Ow OM:=pO i++((aj (top i)).names.filter λp=>(p.2==.local||p.2==.cell) && !(pO i).contains p.1).map (·.1)
abbrev gd (P:T8)(i t a:OH):R5:=ge P (nm i) t (.ref a)
abbrev kx (a:OH)(b:O6)(i:OH)(t:OH)(l p:O8)(m:OH)(R:OI):OI:=kc a [.str (nm i) t,.str (nm i) (t+1),.str "/claim/cut.py" (t+2),.int l 0,.int p 0,.int 0 0,.int 0 0,.int 3 0,.ref (if b then a-5 else a-3),.bool true,.int 181 0,.ref (if b then a-4 else a-2),.none,if b then .ref (a-3)else .none,if b then .ref (a-2)else .none,.ref (a-1),.int m 0,.int l 0,.str "/claim/cut.py" (m+1)]::kf (a+1) (top i) (nm i) (M3 i) (.ref a)::R
abbrev kq (a:OH)(vs:Ow Oy)(n:OH)(R:OI):OI:=(a,#[.type "tuple",gV,.seq vs.toArray n,#[]])::R
abbrev Fn:Ow Oy:=[(.str "marks" 307),(.str "ways" 308),(.str "bar" 309),(.str "some" 310),(.str "each" 311),(.str "not" 312),(.str "and" 313),(.str "or" 314),(.str "is" 315)]
abbrev M4 (i:OH):Qj:=match top i with
 |.ClassDef _ _ _ b ..=>b.getD 0 (.Pass #[0,0,0,0])
 |s=>s
abbrev ke (C:OH)(nm:OM)(N:OH)(bs bm sub:Ow Oy)(k0:OH)(t2 a:OH):OF×Qq:=(C,excClassObj nm nm C N bs bm true [] sub false gV gV (ba (.ref k0)) gV (ba (.str nm t2)) (ba (.str nm a)) (ba (.bool true)) "ValueError.__new__")
abbrev kg (a:OH)(st:Qj)(q:OM)(pm b:Oy):OF×Qq:=(a,#[.type "function",gV,.func (Q7 "__init__" q (bT st) (aS st) (aj st) .none .none .none pm gV b .none),#[]])
abbrev Od (P:T8):OI:=[(2,#[.none,gV,.dict #[] 0,#[]]),
 kd 23 [ge P "__module__" 196 (.str "layworld.errors" 187),ge P "__firstlineno__" 200 (.int 2 199),ge P "__static_attributes__" 201 (.ref 22),ge P "__weakref__" 203 (.ref 25),ge P "__doc__" 204 .none] 3,
 ke 24 "LayError" 23 [(.type "ValueError")] [(.type "ValueError"),(.type "Exception"),(.type "BaseException"),(.type "object")] [(.ref 44)] 15 189 197,
 kd 43 [ge P "__module__" 214 (.str "layworld.errors" 187),ge P "__firstlineno__" 218 (.int 4 217),ge P "__init__" 226 (.ref 41),ge P "__static_attributes__" 228 (.ref 42),ge P "__doc__" 229 .none] 2,
 kc 40 [(.str "__init__" 219),(.str "NoRule.__init__" 220),(.str "/claim/cut.py" 221),(.int 6 0),(.int 2 0),(.int 0 0),(.int 0 0),(.int 3 0),(.ref 35),(.bool true),(.int 181 0),(.ref 36),.none,(.ref 37),(.ref 38),(.ref 39),(.int 224 0),(.int 6 0),(.str "/claim/cut.py" 225)],
 kg 41 (M4 2) "NoRule.__init__" (.str "layworld.errors" 187) (.ref 40),
 ke 44 "NoRule" 43 [(.ref 24)] [(.ref 24),(.type "ValueError"),(.type "Exception"),(.type "BaseException"),(.type "object")] [] 28 207 215]
abbrev K0 (P:T8):OI:=kd 3 [ge P "__name__" 165 (.str "law_layworld_k03_the_first_word_of_several" 405),ge P "__doc__" 166 .none,ge P "__package__" 167 .none,ge P "__loader__" 168 (.builtin "__main__.__loader__#opaque"),ge P "__spec__" 169 .none,ge P "__annotations__" 170 (.ref 6),ge P "__builtins__" 171 (.ref 4),ge P "__file__" 173 (.str "/claim/cut.py" 172),ge P "__cached__" 174 .none,ge P "LayError" 206 (.ref 24),ge P "NoRule" 231 (.ref 44),gd P 4 240 53,gd P 5 248 60,gd P 6 254 65,gd P 8 262 70,gd P 9 270 77,gd P 10 280 84,gd P 12 288 89,gd P 13 294 94,gd P 14 300 99,ge P "LETTERS" 304 (.str "abcdefghijklmnopqrstuvwxyz" 303),ge P "LONGEST_NAME" 306 (.int 8 305),ge P "WORDS" 316 (.ref 100),ge P "MOST_MARKS" 318 (.int 3 317),ge P "MOST_WAYS" 320 (.int 3 319),ge P "MOST_TOGETHER" 322 (.int 6 321),gd P 22 329 107,gd P 23 337 114,gd P 24 343 119,gd P 25 350 126,gd P 26 356 131,gd P 27 365 138,gd P 28 371 143,gd P 29 377 148,gd P 30 383 153,gd P 31 392 160,gd P 32 398 165,gd P 33 404 170,gd P 35 413 177,gd P 36 423 184,gd P 37 429 189,gd P 38 438 196,gd P 39 451 203,gd P 40 461 210,gd P 41 467 215,gd P 42 473 222,gd P 43 479 227,gd P 44 488 234,gd P 45 494 239,gd P 46 500 244,gd P 47 508 251,gd P 48 514 256,gd P 49 520 261,gd P 50 527 268,gd P 51 535 275,gd P 52 541 280,gd P 53 550 287,gd P 54 556 292,gd P 55 562 297,gd P 56 574 304,gd P 57 587 311,gd P 58 602 318,gd P 59 616 325,gd P 60 630 332,gd P 61 638 339,gd P 62 644 344,gd P 63 653 351,gd P 64 666 358] 68::(kx 52 true 4 234 10 1 238
 (kx 59 true 5 241 12 2 246
 (kx 64 false 6 249 14 2 252
 (kx 69 false 8 257 17 3 260
 (kx 76 true 9 263 22 2 268
 (kx 83 true 10 271 24 4 278
 (kx 88 false 12 283 29 4 286
 (kx 93 false 13 289 31 2 292
 (kx 98 false 14 295 41 2 298
 (kq 100 Fn 0
 (kx 106 true 22 323 53 1 327
 (kx 113 true 23 330 65 2 335
 (kx 118 false 24 338 67 1 341
 (kx 125 true 25 344 72 1 348
 (kx 130 false 26 351 74 1 354
 (kx 137 true 27 357 76 1 363
 (kx 142 false 28 366 80 1 369
 (kx 147 false 29 372 83 1 375
 (kx 152 false 30 378 87 1 381
 (kx 159 true 31 384 89 2 390
 (kx 164 false 32 393 94 1 396
 (kx 169 false 33 399 98 2 402
 (kx 176 true 35 407 103 1 411
 (kx 183 true 36 414 105 2 421
 (kx 188 false 37 424 120 2 427
 (kx 195 true 38 430 122 2 436
 (kx 202 true 39 439 130 2 449
 (kx 209 true 40 452 143 4 459
 (kx 214 false 41 462 147 3 465
 (kx 221 true 42 468 153 0 471
 (kx 226 false 43 474 155 2 477
 (kx 233 true 44 480 157 2 486
 (kx 238 false 45 489 160 4 492
 (kx 243 false 46 495 164 3 498
 (kx 250 true 47 501 169 1 506
 (kx 255 false 48 509 172 2 512
 (kx 260 false 49 515 184 1 518
 (kx 267 true 50 521 188 1 525
 (kx 274 true 51 528 190 1 533
 (kx 279 false 52 536 197 2 539
 (kx 286 true 53 542 202 3 548
 (kx 291 false 54 551 204 1 554
 (kx 296 false 55 557 215 1 560
 (kx 303 true 56 563 223 1 572
 (kx 310 true 57 575 230 2 585
 (kx 317 true 58 588 242 2 600
 (kx 324 true 59 603 255 2 614
 (kx 331 true 60 617 267 2 628
 (kx 338 true 61 631 279 2 636
 (kx 343 false 62 639 281 1 642
 (kx 350 true 63 645 297 1 651
 (kx 357 true 64 654 307 1 664 (Od P)))))))))))))))))))))))))))))))))))))))))))))))))))))
abbrev NW:Ow OH:=(K0 {strHash:=λ_=>0,shareClass:=λ_=>0,mergeTok:=id,idOf:=λ_=>0,idOfShared:=λ_ _=>0,followText:=λ_=>false,idOfImm:=λ_=>0}).map (·.1)
abbrev vq:Pe:={pw with main:={pw.main with body:=[top 64]}}
abbrev lo:Ow OM:=(["LayError","NoRule"]:Ow OM)++[4,5,6,8,9,10,12,13,14].map nm++(["LETTERS","LONGEST_NAME","WORDS","MOST_MARKS","MOST_WAYS","MOST_TOGETHER"]:Ow OM)++[22,23,24,25,26,27,28,29,30,31,32,33,35,36,37,38,39,40,41,42,43,44,45,46,47,48,49,50,51,52,53,54,55,56,57,58,59,60,61,62,63].map nm
def eK:∀P,NW=(K0 P).map (·.1):=λ_=>by kernel_rfl
abbrev hk:PySem.W.Hook:=PySem.W.kHook K0 NW eK
def hl:PySem.W.LeftO pw vq lo (λs=>YU vq [] s&&YB [] s) hk.obs hk.val 4186:=λw=>by
 unfold openEnds topFrom;rw[Wv,Ww]
 kernel_rfl
def s0:PySem.Challenge.rw_layworld_k03_the_first_word_of_several.row.wellSaid=true:=by kernel_rfl
end
end Mi
namespace Xc
open PySem
inductive Fly (h:Pr)(e:OF)(cls:Oy)(dd:Oz OF)(a0 fl:Oy):Prop
 |new {vs:Pc Oy}{sl:Pc (Oz Oy)}:h.get? e=ba #[cls,dd,.fields vs,sl]->vs[0]?=ba a0->vs[1]?=ba .none->Fly h e cls dd a0 fl
 |on {vs ts:Pc Oy}{sl:Pc (Oz Oy)}{T:OF}{oT:Qq}:h.get? e=ba #[cls,dd,.fields vs,sl]->vs[0]?=ba a0->vs[1]?=ba (.ref T)->e<T->h.get? T=ba oT->oT.data=.fields ts->ts[3]?=ba fl->Fly h e cls dd a0 fl
structure Mv (fr:Ow OF)(e:OF)(h h':Pr):Prop where
 keep:∀b o,h.get? b=ba o->b∉fr->b≠e->(e<b->∀vs,o.data≠.fields vs)->h'.get? b=ba o
 fram:∀b o,h.get? b=ba o->b∈fr->(∀vs,o.data≠.fields vs)->∃sl,h'.get? b=ba {o with slots:=sl}
 size:⇑h.objs<=⇑h'.objs
def Mv.refl :Mv a e h h:=#[λ_ _ q _ _ _=>q,λ_ o q _ _=>#[o.slots,q],OR _]
def Mv.trans (x:Mv a e h h')(y:Mv a e h' c):Mv a e h c:=
 #[λb o q d f n3=>y.keep b o (x.keep b o q d f n3) d f n3,λb o q m n=>let ⟨_,q1⟩:=x.fram b o q m n;let ⟨sl,q2⟩:=y.fram b _ q1 m n;#[sl,q2],OQ ⇑x ⇑y]
def Mv.funs (x:Mv d e h h')(f:h.FunFrames base l)(g:∃o vs,h.get? e=ba o/\o.data=.fields vs):h'.FunFrames base l:=
 f.of_keeps λb o a c=>by
  by_cases m:b∈d
  ·obtain⟨n,q⟩:=x.fram b o a m c;show#[_,q,rfl]
  ·show#[o,x.keep b o a m (λz=>?_) λ_=>c,rfl]
   obtain⟨k,vs,i,j⟩:=g;rw[z,i]at a;cases a;show c vs j
section
variable{Mqa:U6}{A:Pl}{E:Oy->OB->Prop}{s:OB}{base:Pr}{env:U0}{outer:Ow U0}{L e:OF}{cls a0 fl:Oy}{dd:Oz OF}{Q:XR->OB->Prop}
def ue (r:A.frames=ba (env::outer))(hl:s.heap.FunFrames base (env::outer))(hf:env.frame=ba L)
  (x:s.heap.get? e=ba #[cls,dd,.fields vs,l]) (B:vs[0]?=ba a0) (p:1<⇑vs)
  (k:∀h',Mv ((env::outer).filterMap (·.frame)) e s.heap h'->Fly h' e cls dd a0 (rawInt L)->(∃o vs T,h'.get? e=ba o/\o.data=.fields vs/\vs[1]?=ba (.ref T))->Q () {s with heap:=h'}) :
  wpAny Mqa A (do let a <- frameOf env;let pl <- entryPlaceOf L d;let b <- Wl f a .none (rawInt L) .none pl;setField (.ref e) 1 b) Q E s:=by
 have ne:e∉(env::outer).filterMap (·.frame):=λD=>by
  obtain⟨_,o,y,t⟩:=hl.mem D;rw[x]at y;cases y;show t vs rfl
 show Ox (wpAny_frameOf_fun r hl hf λc hs=>?_)
 show Ox (wpAny_entryPlaceOf λpl u=>?_)
 unfold Wl newFields;show Ox (Qf ?_ (u.sizeOk5 _ _ _ _ _));generalize w:([f,.ref L,.none,rawInt L,.none]++(if pl.isEmpty then PN 6 Qk else pl)).toArray=ts
 have J:ts[3]?=ba (rawInt L):=by rw[<- w];simp
 have g:c.get? e=ba #[cls,dd,.fields vs,l]:=(hs.2.1 e ne).trans x;have lt:e<⇑c.objs:=O4 g;have i:=OA (h:=c) {cls:=.type "traceback",dict:=gV,data:=.fields ts} g;have C:=OX c (o:={cls:=.type "traceback",dict:=gV,data:=.fields ts}) rfl;have j:=P8 (RO (·.setIfInBounds 1 (Ps ⇑c.objs))) i rfl
 show Sl i rfl p (k _ #[λb o q G H n3=>?_,λb o q m n=>?_,?_] ?_ ?_)
 ·rw[PF _ _ (Ne.symm H)];show OA _ ((hs.2.1 b G).trans q)
 ·obtain⟨l,I⟩:=hs.2.2 b o q;show#[l,?_];rw[PF _ _ (λz:e=b=>ne (z▸m))]
  show OA _ I
 ·simp[hs.1]
 ·show .on (T:=⇑c.objs) (oT:={cls:=.type "traceback",dict:=gV,data:=.fields ts}) j (by rw[T4 #v[]];show B) (by simp[p]) lt ?_ rfl J
  rw[PF _ _ (Pa lt)];show C
 ·show#[_,_,⇑c.objs,j,rfl,by simp[p]]
def yt (f:A.frames=ba (env::outer))(hl:s.heap.FunFrames base (env::outer))(hf:env.frame=ba L)(x:Fly s.heap e cls dd a0 .none)
  (k:∀h',Mv ((env::outer).filterMap (·.frame)) e s.heap h'->Fly h' e cls dd a0 (rawInt L)->(∃o vs T,h'.get? e=ba o/\o.data=.fields vs/\vs[1]?=ba (.ref T))->Q () {s with heap:=h'}) :
  wpAny Mqa A (noteFrame (.ref e) env) Q E s:=by
 unfold noteFrame;revert hf;cases x with
 |new c h d=>
  show Ox (Qe c rfl d ?_);rw[Pd #v[]]
  show ue f hl hf c h (O9.mp d).1 k
 |@on vs ts w T oT c h d lt g hd i=>
  show Ox (Qe c rfl d ?_);rw[OZ (show(Ps T != Qk)=true from by simp)]
  show Ox (Qe g hd i ?_);rw[Pd (show ¬ ((Qk==rawInt L)=true)from by simp[rawInt])]
  show Ox (Sl g hd (O9.mp i).1 ?_);have a:∀b,b≠T->(s.heap.update T (RO (·.setIfInBounds 3 Qk))).get? b=s.heap.get? b:=λb l=>PF _ _ (Ne.symm l)
  have mv:Mv ((env::outer).filterMap (·.frame)) e s.heap (s.heap.update T (RO (·.setIfInBounds 3 Qk))):=by
   show#[λb o q t u n3=>(a b λz=>?_).trans q,λb o q m n=>#[o.slots,(a b λz=>?_).trans q],by simp]
   ·rw[z,g]at q;cases q;show n3 (z▸lt) _ hd
   ·rw[z,g]at q;cases q;show n _ hd
  show ue f (mv.funs hl #[_,_,c,rfl]) hf ((a e (Pa lt)).trans c) h (O9.mp d).1 λh' p j r=>k h' (mv.trans p) j r
def kR (j:Ow OF)(x:Fly s.heap e cls dd a0 fl)(k:∀h',Mv j e s.heap h'->Fly h' e cls dd a0 (f.elim Qk λf=>rawInt f)->Q () {s with heap:=h'}):wpAny Mqa A (setFlight (.ref e) f) Q E s:=by
 unfold setFlight;cases x with
 |new g i c=>
  show Ox (Qe g rfl c ?_);rw[Pd #v[]]
  show OD (k _ .refl (.new g i c))
 |@on vs ts u T oT g i c lt h hd l=>
  show Ox (Qe g rfl c ?_);rw[OZ (show(Ps T != Qk)=true from by simp)]
  have d:=(O9.mp l).1;have a:∀b,b≠T->(s.heap.update T (RO (·.setIfInBounds 3 (f.elim Qk λf=>rawInt f)))).get? b=s.heap.get? b:=λb p=>PF _ _ (Ne.symm p)
  show Sl h hd d (k _ #[λb o q r t n3=>(a b λz=>?_).trans q,λb o q m n=>#[o.slots,(a b λz=>?_).trans q],by simp] ?_)
  ·rw[z,h]at q;cases q;show n3 (z▸lt) _ hd
  ·rw[z,h]at q;cases q;show n _ hd
  ·show .on ((a e (Pa lt)).trans g) i c lt (P8 _ h (T6 (RY hd _))) (RY hd _) (by simp[d])
def CG (a:A.frames=ba (env::outer))(hl:s.heap.FunFrames base (env::outer))(hf:env.frame=ba L)(x:Fly s.heap e cls dd a0 .none)
  (k:∀h',Mv ((env::outer).filterMap (·.frame)) e s.heap h'->Fly h' e cls dd a0 .none->Q () {s with heap:=h'}):wpAny Mqa A (leaving env (.ref e)) Q E s:=by
 unfold leaving;show Ox (yt a hl hf x λh f b _=>?_)
 show kR _ b λd g c=>k d (f.trans g) c
end
end Xc
namespace Xc
open PySem PySem.Spec PySem.W
section
variable{prog:Pe}{w:Pk}{A:Pl}{E:Oy->OB->Prop}{h:Pr}{g:Pc UG}{d:Yqd}{t:OH}{os:OsState}
variable{nm q:OM}{C N f:OF}{bs bm bmB:Ow Oy}{hdct:O6}{sn:Ow OM}{sub:Ow Oy}{ab:O6}{col:Oz O6}{dd:Oz OF}{k0 k1 k2 k3 k5:Oz Oy}{B newId initId:Qs}
noncomputable abbrev jq (C t:OF):Qq:={cls:=.ref C,data:=.fields [.ref t,.none,.none,.none,.bool false,.none].toArray}
noncomputable abbrev gK (aC:Ow Oy):Qq:={cls:=.type "tuple",data:=.seq aC.toArray}
abbrev Fo (e:OF)(Q:Oy->OB->Prop)(E:Oy->OB->Prop)(r:Vf)(a:OB):Prop:=match r with
 |.ok (.ret v)=>v=.none/\Q (.ref e) a
 |.ok _=>P0
 |.error x=>E x a
def mh (F:W0 B newId initId bmB)(T:ZG h bmB bm){aC:Ow Oy}
  (a:h.get? C=ba (excClassObj nm q C N bs bm hdct sn sub ab col dd k0 k1 k2 k3 k5 newId)) (hi:Looks (model prog w) h (typeLookup (.ref C) "__init__") (ba (.ref f))) (l:∀self,Looks (model prog w) h (bindSpecial (.ref f) self) (.ref f,[self]))
  (m:codeAny (model prog w) (A) (.call (.ref f) #[.ref (⇑h.objs+1)::aC,[]]) (Fo (⇑h.objs+1) (λv s=>Q (.done (.ret v)) s) E) #[(h.push (gK aC)).push (jq C ⇑h.objs),g,d,t,os]) (hrest:aC.length<=sizeLine:=by size_fits) :
  wpAny (model prog w) A (SY.«type.__call__» #[.ref C::aC,[]]) Q E #[h,g,d,t,os]:=by
 repeat (first|with_reducible show SO a ?_|with_reducible show wpAny_madeBy_exc a ?_|wp_step)
 show codeAny_call_builtin_code (Sz _ F.quiet) (wpAny_check_new_subT F T a ?_);show codeAny_exc_new_subT F T a ?_ hrest;change wpAny _ _ _ _ _ _;have k:∀b o,h.get? b=ba o->((h.push (gK aC)).push (jq C ⇑h.objs)).get? b=ba o:=λb o e=>OA _ (OA _ e)
 have i:=k _ _ a;have c:((h.push (gK aC)).push (jq C ⇑h.objs)).get? (⇑h.objs+1)=ba (jq C ⇑h.objs):=by heap_get
 have j:(Ps C::bm).contains (.ref C)=true:=by simp
 have n:=T.keeps k;unfold isInstance
 repeat (first|with_reducible show SO c ?_|(with_reducible show Wm i ?_;rw[j])|wp_step)
 change wpAny _ _ (typeLookup (.ref C) _) _ _ _;show hi _ _ _ _ k ?_;show PQ (Ox (l (.ref (⇑h.objs+1)) _ _ _ _ k ?_));show Ox (Sw ?_);show Rr m λr p z=>?_
 rcases r with e|(_|_|_|v)
 ·show z
 ·show z.elim
 ·show z.elim
 ·show z.elim
 ·obtain⟨rfl,z⟩:=z;show OD (OD z)
def yu (F:W0 B newId initId bmB)(T:ZG h bmB bm){aC:Ow Oy}
  (a:h.get? C=ba (excClassObj nm q C N bs bm hdct sn sub ab col dd k0 k1 k2 k3 k5 newId)) (hi:Looks (model prog w) h (typeLookup (.ref C) "__init__") (ba (.ref f))) (b:∀self,Looks (model prog w) h (bindSpecial (.ref f) self) (.ref f,[self]))
  (c:codeAny (model prog w) (A.under (.builtin "type.__call__" #[.ref C::aC,[]])) (.call (.ref f) #[.ref (⇑h.objs+1)::aC,[]]) (Fo (⇑h.objs+1) Q E) #[(h.push (gK aC)).push (jq C ⇑h.objs),g,d,t,os]) (hrest:aC.length<=sizeLine:=by size_fits) :
  wpAny (model prog w) A (call (.ref C) aC) Q E #[h,g,d,t,os]:=by
 have e:=tc_lookup;have i:=tc_bind (.ref C);have j:(#[h,g,d,t,os]:OB).TypeIs (.ref C) "type":=#[_,a,rfl];show Sw (Ur ?_);change wpAny _ _ (callAny (.ref C) _) _ _ _
 repeat (any_goals (first|assumption|with_reducible show SO a ?_|wp_step))
 show#[rfl,?_];show codeAny_call_builtin_at (Sz _ (by decide +kernel)) entry_typeCall (wpAny_check_type_call_sub a (mh (hrest:=hrest) F T a hi b c))
end
end Xc
namespace Xc
open PySem PySem.Spec PySem.W PySem.Builtin.ObjectAttr
abbrev dO:Ow Oy->O6
 |.ref _::r=>dO r
 |l=>l==[.type "ValueError",.type "Exception",.type "BaseException",.type "object"]
def pJ (self:Oy):refuseLoop self "__setattr__" [.type "ValueError",.type "Exception",.type "BaseException",.type "object"]=pure ():=by kernel_rfl
def kU (self:Oy):∀{l:Ow Oy},dO l=true->refuseLoop self "__setattr__" l=pure ()
 |.ref c::r,e=>by rw[refuseLoop_ref];show kU self (l:=r) e
 |[],e=>by cases e
 |.type n::r,e=>by
  have:(QV n::r)=[.type "ValueError",.type "Exception",.type "BaseException",.type "object"]:=Rm.mp e;rw[this];show pJ self
 |.none::r,e|.bool _::r,e|.int _ _::r,e|.str _ _::r,e|.builtin _::r,e|.float _ _::r,e=>by cases e
def cq:∀{l:Ow Oy},dO l=true->l.contains (.type "object")=true/\l.isEmpty=false
 |.ref c::r,e=>#[by rw[UL,(cq (l:=r) e).1,UB],rfl]
 |[],e=>by cases e
 |.type n::r,e=>by
  have:(QV n::r)=[.type "ValueError",.type "Exception",.type "BaseException",.type "object"]:=Rm.mp e;rw[this];show#[by decide +kernel,rfl]
 |.none::r,e|.bool _::r,e|.int _ _::r,e|.str _ _::r,e|.builtin _::r,e|.float _ _::r,e=>by cases e
section
variable{prog:Pe}{w:Pk}{A:Pl}{K:Frag}{C x:OF}{s:OB}{R:Vf->OB->Prop}
def Kk (X:K.In s.heap)(I:InstAt s.heap x j C od)(hc:clsIn K C=ba c)(g:dO c.mro=true)(hf:findIn K (.ref C) name=ba gV)
  (h:wpAny (model prog w) A.in1 (storeInOwnDict (.ref x) (.ref C) (.str name tk) name v false) (λfin b=>match fin with|.done f=>R (.ok f) b|.again d=>d.quiet=true/\codeAny (model prog w) A d R b) (λe b=>R (.error e) b) s) :
  codeAny (model prog w) A (.call (.builtin "object.__setattr__") #[[.ref x,.str name tk,v],[]]) R s:=by
 have a:=PySem.F.store_object;obtain⟨i,ne⟩:=cq g;have sub:Looks (model prog w) s.heap (isInstance (.ref x) (.type "object")) true:=I.type.andThen (looks_mroIn X (by unfold mroIn;rw[hc,Ro,Pd (by rw[ne];decide),i]))
 show Rt a.slot.plain a.entry (@check_slot (model prog w) _ _ s "object.__setattr__" "object" "__setattr__" (.ref x) [.str name tk,v] [] _ a.kind a.split sub (a.args (.ref x) (.str name tk) v) ?_);have hl:Looks (model prog w) s.heap (mroOf (.ref C)) c.mro:=(looks_clsIn X hc).andThen .now;rw[osa_eq,refuse_eq];show Ox (Ox (I.type.here (Ox (hl.here ?_))));rw[kU _ g];show OD (Ox (I.type.here (Ox ((looks_findIn X hf).here (Ox (Looks.here (r:=gV) .now h))))))
def yv (X:K.In s.heap)(h:s.heap.get? x=ba #[.ref C,gV,.fields vs,i])
  (hs:findIn K (.ref C) "__setattr__" = ba (ba (.builtin "object.__setattr__"))) (hc:clsIn K C=ba j) (D:dO j.mro=true) (hd:j.hasDict=true) (hf:findIn K (.ref C) name=ba gV)
  (k:∀h' tk,h'.get? x=ba #[.ref C,ba ⇑s.heap.objs,.fields vs,i]->h'.Ns1 ⇑s.heap.objs (λy=>if y=name then ba v else gV)->(∀b o,b≠x->s.heap.get? b=ba o->h'.get? b=ba o)->⇑h'.objs=⇑s.heap.objs+1->
   Q () (ww s h' tk)):wpAny (model prog w) A (setAttr (.ref x) name v) Q E s:=by
 have I:InstAt s.heap x #[.ref C,gV,.fields vs,i] C gV:=#[h,rfl,rfl,trivial];show set_plain X I hs (Kk (s:={s with toks:=s.toks+1}) X I hc D hf ?_)
 unfold storeInOwnDict ownDictForStores instanceDict;show Ox (OD (Ox (Ox (VY h (Ox (Looks.here (s:={s with toks:=s.toks+1}) (looks_clsIn X hc) ?_))))))
 rw[hd];have f:(s.heap.push {cls:=.type "dict",data:=.dict #[]}).get? x=ba #[.ref C,gV,.fields vs,i]:=OA _ h;have g:x≠⇑s.heap.objs:=Pa (O4 h);show Ox (wpAny_alloc' ?_);show Ox (wpAny_update' f ?_);show OD (a:=ba ⇑s.heap.objs) ?_;have n:((s.heap.push {cls:=.type "dict",data:=.dict #[]}).update x λo=>{cls:=o.cls,dict:=ba ⇑s.heap.objs,data:=o.data,slots:=o.slots}).get? ⇑s.heap.objs=ba {cls:=.type "dict",data:=.dict #[]}:=
  (RE _ _ _ _ g.symm).trans (W1 rfl rfl)
 have p:((s.heap.push {cls:=.type "dict",data:=.dict #[]}).update x λo=>{cls:=o.cls,dict:=ba ⇑s.heap.objs,data:=o.data,slots:=o.slots}).Ns ⇑s.heap.objs (λ_=>gV):=
  #[_,#[],_,n,rfl,λe B=>absurd B (by simp),λ_=>rfl]
 change wpAny _ _ (storeInDict ⇑s.heap.objs (.str name _) name v) _ _ _;unfold storeInDict newKeyGuard;show Ox (OD (Ox (YV (ZH p) λh' d c=>?_)))
 obtain⟨G,u,t,r,m,l⟩:=d.count (Zb name v Within.nil);show Ox (Xo r (by rw[m];show Xp (OQ l (by rw[Po,Qr,Qc];omega))) ?_)
 show OD (k h' _ ?_ d (λb o z q=>?_) ?_)
 ·show(c.2 x g).trans (P8 _ f rfl)
 ·show(c.2 b (Pa (O4 q))).trans ((RE _ _ _ _ z).trans (OA _ q))
 ·rw[c.1];simp
def v6 (X:K.In s.heap)(n:s.heap.get? x=ba #[.ref C,ba c,.fields vs,o])
  (m:s.heap.Ns1 c l) (hw:Within l ns) (hsz:↥ns<=100) (B:c≠x)
  (hs:findIn K (.ref C) "__setattr__" = ba (ba (.builtin "object.__setattr__"))) (hc:clsIn K C=ba f) (z:dO f.mro=true) (hd:f.hasDict=true) (hf:findIn K (.ref C) name=ba gV)
  (k:∀h' tk,h'.Ns1 c (λy=>if y=name then ba v else l y)->(∀b,b≠c->h'.get? b=s.heap.get? b)->⇑h'.objs=⇑s.heap.objs->
   Q () (ww s h' tk)):wpAny (model prog w) A (setAttr (.ref x) name v) Q E s:=by
 obtain⟨D,r,p,i,H⟩:=id m;have I:InstAt s.heap x #[.ref C,ba c,.fields vs,o] C (ba D):=#[n,rfl,rfl,i];show set_plain X I hs (Kk (s:={s with toks:=s.toks+1}) X I hc z hf ?_)
 unfold storeInOwnDict ownDictForStores instanceDict;show Ox (OD (Ox (Ox (VY n (Ox (Looks.here (s:={s with toks:=s.toks+1}) (looks_clsIn X hc) ?_))))))
 rw[hd];show OD (a:=ba c) ?_;change wpAny _ _ (storeInDict c (.str name _) name v) _ _ _;unfold storeInDict newKeyGuard;show Ox (OD (Ox (YV (s:={s with toks:=s.toks+1}) m λh' d e=>?_)))
 obtain⟨G,t,q,j,h,g⟩:=d.count (Zb name v hw);show Ox (Xo j (by rw[h];show Xp (OQ g (by rw[Po,Qc];omega))) ?_)
 show OD (k h' _ d (λb u=>e.2 b u) e.1)
def uf (self:Oy):bindSpecial (.builtin "BaseException.__getattribute__") self=pure (.builtin "BaseException.__getattribute__",[self]):=PySem.F.attr_ValueError.ga.bind self
def fH:∀{l:Ow Oy},dO l=true->l.contains (.type "BaseException")=true
 |.ref c::r,e=>by rw[UL,fH (l:=r) e,UB]
 |[],e=>by cases e
 |.type n::r,e=>by
  have:(QV n::r)=[.type "ValueError",.type "Exception",.type "BaseException",.type "object"]:=Rm.mp e;rw[this];decide +kernel
 |.none::r,e|.bool _::r,e|.int _ _::r,e|.str _ _::r,e|.builtin _::r,e|.float _ _::r,e=>by cases e
def M5 (X:K.In s.heap)(B:s.heap.get? x=ba #[.ref C,ba c,.fields vs,m])
  (t:s.heap.Ns1 c o) (u:findIn K (.ref C) "__getattribute__" = ba (ba (.builtin "BaseException.__getattribute__"))) (y:findIn K (.ref C) "__getattr__" = ba gV)
  (hc:clsIn K C=ba b) (n:dO b.mro=true) (hd:b.hasDict=true) (hf:findIn K (.ref C) name=ba gV) (z:o name=ba v) (h:handedIn v=true)
  (k:Q v {s with toks:=s.toks+1}):wpAny (model prog w) A (getAttr (.ref x) name a) Q E s:=by
 obtain⟨l,f,e⟩:=L2.vT t;have I:InstAt s.heap x #[.ref C,ba c,.fields vs,m] C (ba l):=#[B,rfl,rfl,f];have p:InstAt ({s with toks:=s.toks+1}:OB).heap x #[.ref C,ba c,.fields vs,m] C (ba l):=I
 have hl:Looks (model prog w) s.heap (mroOf (.ref C)) b.mro:=(looks_clsIn X hc).andThen .now;have ne:=(cq n).2;have sub:Looks (model prog w) s.heap (isInstance (.ref x) (.type "BaseException")) true:=I.type.andThen (looks_mroIn X (by unfold mroIn;rw[hc,Ro,Pd (by rw[ne];decide),fH n]))
 have hk:builtinKind "BaseException.__getattribute__" = ba .slot:=by decide +kernel
 have g:splitId "BaseException.__getattribute__" = ba ("BaseException","__getattribute__"):=by decide +kernel
 unfold getAttr getAttrBy;show Ox (YW (PQ (Ox (p.type.here (Ox (Looks.here (s:={s with toks:=s.toks+1}) (looks_findIn X u) ?_))))))
 have i:(onTheHeap (Ps C)&&Rs "BaseException.__getattribute__" == Rs "object.__getattribute__")=false:=by
  rw[show(Rs "BaseException.__getattribute__" == Rs "object.__getattribute__")=false from by decide +kernel,QI]
 dsimp only;rw[i];change wpAny _ _ (getAttrByItsOwn _ _ _ _ _ _) _ _ _;unfold getAttrByItsOwn hookBefore;show Ox (Looks.here (s:={s with toks:=s.toks+1}) (looks_findIn X y) ?_)
 have j:(a&&onTheHeap (Rs "BaseException.__getattribute__"))=false:=by cases a<;>rfl
 unfold callGetattribute boundAndCalled;rw[j,uf];show Ox (RP (PQ (Ox (OD (Sw ?_)))));show Rt PySem.F.attr_ValueError.ga.plain F.entry_bexc_ga (@check_slot (model prog w) _ _ {s with toks:=s.toks+1} "BaseException.__getattribute__" "BaseException" "__getattribute__" (.ref x) [.str name s.toks] [] _ hk g sub (F.args_bexc_ga (.ref x) (.str name s.toks)) ?_)
 have d:lookIn name l=ba (ba v):=by rw[e,z]
 have r:Looks (model prog w) s.heap _ _:=looks_find X I (findObj_own (by unfold hasDictIn;rw[hc];show hd) hf rfl d)
 have q:Looks (model prog w) s.heap _ _:=I.type;show Ox (OD (Ox (OD (Ox (q.here (s:={s with toks:=s.toks+1}) (Ox (r.here (s:={s with toks:=s.toks+1}) ?_)))))))
 show OD ?_;change wpAny _ _ (handedOut v) _ _ _;rw[handedOut_of h];show OD k
end
section
variable{prog:Pe}{w:Pk}{A:Pl}{E:Oy->OB->Prop}{h:Pr}{g:Pc UG}{d:Yqd}{t:OH}{os:OsState}
variable{nm q:OM}{C N e:OF}{bs bm bmB:Ow Oy}{hdct:O6}{sn:Ow OM}{sub:Ow Oy}{ab:O6}{col:Oz O6}{dd dx:Oz OF}{k0 k1 k2 k3 k5:Oz Oy}{B newId initId:Qs}
def Kl (F:W0 B newId initId bmB)(T:ZG h bmB bm){aC:Ow Oy}
  (f:h.get? C=ba (excClassObj nm q C N bs bm hdct sn sub ab col dd k0 k1 k2 k3 k5 newId)) (b:h.get? e=ba #[.ref C,dx,.fields vs,c])  (a:vs[0]?=ba (.ref k))
  (j:Q .none #[(h.push (gK aC)).update e (RO (·.setIfInBounds 0 (.ref ⇑h.objs))),g,d,t,os]) (hrest:aC.length<=sizeLine:=by size_fits) :
  wpAny (model prog w) A (call (.builtin initId) (.ref e::aC)) Q E #[h,g,d,t,os]:=by
 have i:(h.push (gK aC)).get? e=ba #[.ref C,dx,.fields vs,c]:=OA _ b;show Sw (Rt F.init.plain F.initEntry (wpAny_check_init_subT F T f b rfl ?_));have l:=(O9.mp a).1
 wp_walk
 rw[a]
 wp_walk
 show j
end
section
variable{prog:Pe}{w:Pk}{A:Pl}{K:Frag}{CL:OF}{s:OB}{E:Oy->OB->Prop}{pl:Yu O6}{Q:Oy×Ow Oy->OB->Prop}{mc:Oy}{name:OM}
def Km (X:K.In s.heap)(a:specialIn K (.ref CL) "__getattribute__" = ba (ba (.builtin "type.__getattribute__")))(c:readsIn K CL mc=true)(e:findCls K (.ref CL) mc name=ba (.val v))(b:handedIn v=true)
  (k:Q (v,[]) {s with toks:=s.toks+1}):wpAny (model prog w) A (getMethod (.ref CL) name pl) Q E s:=method_cls X a (cls_value X c e b k)
end
section
variable{Mqa:U6}{A:Pl}{E:Oy->OB->Prop}{s:OB}{env:U0}
variable{nm q:OM}{C N:OF}{bs bm:Ow Oy}{hdct:O6}{sn:Ow OM}{sub:Ow Oy}{ab:O6}{col:Oz O6}{dd:Oz OF}{k0 k1 k2 k3 k5:Oz Oy}{newId:Qs}
def G4 (a:bm.contains (.type "BaseException")=true)(n:A.handled=gV)
  (h:wpAny Mqa A x (λv b=>∃e f vs k,v=.ref e/\b.heap.get? C=ba (excClassObj nm q C N bs bm hdct sn sub ab col dd k0 k1 k2 k3 k5 newId)/\b.heap.get? e=ba #[.ref C,f,.fields vs,k]/\vs[1]?=ba .none/\E (.ref e) b) E s) :
  wpAny Mqa A (raiseStmt env (ba x) gV) Q E s:=by
 have c:(Ps C::bm).contains (.type "BaseException")=true:=by rw[UL,a,UB]
 unfold raiseStmt;show Ox (P4 h (λv b l=>?_) λ_ _ x=>x)
 obtain⟨e,f,vs,k,rfl,i,j,o,m⟩:=l;obtain⟨p,g,d,tk,os⟩:=b
 repeat (first|with_reducible show SO j ?_|with_reducible show SO i ?_|(with_reducible show Wm i ?_;rw[c])|with_reducible show Qe j rfl o ?_|wp_step)
 show wpAny_raiseNew_none n m
end
section
variable{prog:Pe}{w:Pk}{A:Pl}{s:OB}{E:Oy->OB->Prop}{env:U0}{base:Pr}{outer:Ow U0}{L e:OF}{cls a0:Oy}{dd:Oz OF}
def G5 {aC:Ow YC}(i:A.frames=ba (env::outer))(hl:s.heap.FunFrames base (env::outer))(hf:env.frame=ba L)(x:Fly s.heap e cls dd a0 .none)
  (ht:∀h',Mv ((env::outer).filterMap (·.frame)) e s.heap h'->Fly h' e cls dd a0 .none->wpAny (model prog w) (A.mark (ba (.ref e))) (eval t env) (λc j=>wpAny (model prog w) (A.mark (ba (.ref e))) (excMatches (.ref e) c) (λb d=>b=true/\
   Fly d.heap e cls dd a0 .none/\∀g,Mv ((env::outer).filterMap (·.frame)) e d.heap g->Fly g e cls dd a0 .none->
    wpAny (model prog w) (A.mark (ba (.ref e))) (storeName env n (.ref e)) (λ_ s3=>wpAny (model prog w) (A.mark (ba (.ref e))) (execs (b0::a) env)
     (λf k=>wpAny (model prog w) A (do bindName env n .none;unbindBehindTheSuite env n pos) (λ_ G=>Q f G) E k) (λ_ _=>P0) s3) (λ_ _=>P0) {d with heap:=g}) (λ_ _=>P0) j) (λ_ _=>P0) {s with heap:=h'}) :
  wpAny (model prog w) A (noteFrame (.ref e) env) (λ_ d=>wpAny (model prog w) A (setFlight (.ref e) gV) (λ_ s3=>wpAny (model prog w) A (handleBy (.ref e) env (.ExceptHandler (ba t) (ba n) (b0::a) pos::aC)) Q E s3) E d) E s:=by
 show yt i hl hf x λH B l _=>kR ((env::outer).filterMap (·.frame)) l λp C m=>?_
 show wpAny_handleBy_cons (codeAny_handlers_test ?_) (by intro q;cases q)
 show P4 (ht p (B.trans C) m) (λc j h=>?_) λ_ _ z=>z.elim
 show P4 h (λb d #[y,fl,g]=>?_) λ_ _ z=>z.elim
 subst y;show codeAny_handlers_suite_as (kR ((env::outer).filterMap (·.frame)) fl λr D o=>?_)
 show P4 (g r D o) (λ_ s3 u=>?_) λ_ _ z=>z.elim
 show P4 u (λf k v=>v) λ_ _ z=>z.elim
end
structure XK (K:Frag)(C:OF)(cd:Rn):Prop where
 cls:clsIn K C=ba cd
 mro:dO cd.mro=true
 dct:cd.hasDict=true
 ga:findIn K (.ref C) "__getattribute__" = ba (ba (.builtin "BaseException.__getattribute__"))
 hk:findIn K (.ref C) "__getattr__" = ba gV
 kl:findIn K (.ref C) "__class__" = ba (ba (.builtin "object.__class__"))
 gg:specialIn K (.builtin "object.__class__") "__get__" = ba (ba (.builtin "getset_descriptor.__get__"))
 tk:takesIn K (.builtin "object.__class__")=ba true
section
variable{prog:Pe}{w:Pk}{A:Pl}{K:Frag}{C x:OF}{s:OB}{E:Oy->OB->Prop}{cd:Rn}{ox:Qq}{od:Oz Qq}
def XK.top (a:XK K C cd):mroIn K C (.type "object")=ba true:=by
 unfold mroIn;rw[a.cls,Ro,Pd (by rw[(cq a.mro).2];decide),(cq a.mro).1]
def XK.base (a:XK K C cd):mroIn K C (.type "BaseException")=ba true:=by
 unfold mroIn;rw[a.cls,Ro,Pd (by rw[(cq a.mro).2];decide),fH a.mro]
def Kn (b:XK K C cd)(X:K.In s.heap)(I:InstAt s.heap x ox C od)
  (h:wpAny (model prog w) A.in1 (SY.«object.__getattribute__» #[[.ref x,.str name tk],[]]) (λfin g=>match fin with|.done (.ret v)=>wpAny (model prog w) A (handedOut v) Q E g|_=>P0) (λ_ _=>P0) s) :
  wpAny (model prog w) A (getAttrBy (.ref x) (.str name tk) c a) Q E s:=by
 have sub:Looks (model prog w) s.heap (isInstance (.ref x) (.type "BaseException")) true:=I.type.andThen (looks_mroIn X b.base);have hk:builtinKind "BaseException.__getattribute__" = ba .slot:=by decide +kernel
 have d:splitId "BaseException.__getattribute__" = ba ("BaseException","__getattribute__"):=by decide +kernel
 unfold getAttrBy;show PQ (Ox (I.type.here (Ox (Looks.here (looks_findIn X b.ga) ?_))));have e:(onTheHeap (Ps C)&&Rs "BaseException.__getattribute__" == Rs "object.__getattribute__")=false:=by
  rw[show(Rs "BaseException.__getattribute__" == Rs "object.__getattribute__")=false from by decide +kernel,QI]
 dsimp only;rw[e];change wpAny _ _ (getAttrByItsOwn _ _ _ _ _ _) _ _ _;unfold getAttrByItsOwn hookBefore;show Ox (Looks.here (looks_findIn X b.hk) ?_);have f:(a&&onTheHeap (Rs "BaseException.__getattribute__"))=false:=by cases a<;>rfl
 unfold callGetattribute boundAndCalled;rw[f,uf];show Ox (RP (PQ (Ox (OD (Sw ?_)))));show Rt PySem.F.attr_ValueError.ga.plain F.entry_bexc_ga (@check_slot (model prog w) _ _ s "BaseException.__getattribute__" "BaseException" "__getattribute__" (.ref x) [.str name tk] [] _ hk d sub (F.args_bexc_ga (.ref x) (.str name tk)) ?_);show P4 h (λfin g z=>?_) λ_ _ z=>z.elim
 rcases fin with(_|_|_|_)|_<;>first|show z|show z.elim
def r9 (a:XK K C cd):findObj K C od "__class__" = ba (.bind (.builtin "getset_descriptor.__get__") (.builtin "object.__class__")):=by
 unfold findObj;rw[a.cls,Ro,a.kl,Ro];revert a.gg a.tk Ro QY P3
def G6 (a:XK K C cd)(X:K.In s.heap)(I:InstAt s.heap x ox C od)(h:Q (ba (.ref C)) {s with toks:=s.toks+1}):wpAny (model prog w) A (getAttr? (.ref x) "__class__") Q E s:=by
 have d:InstAt ({s with toks:=s.toks+1}:OB).heap x ox C od:=I
 have c:Looks (model prog w) s.heap _ _:=looks_find X I (r9 a);have b:Looks (model prog w) s.heap _ _:=I.type;unfold getAttr? getAttrBy?;show Ox (YW (Ox (RP (Kn (s:={s with toks:=s.toks+1}) a X I ?_))))
 show Ox (OD (Ox (OD (Ox (b.here (s:={s with toks:=s.toks+1}) (Ox (c.here (s:={s with toks:=s.toks+1}) ?_)))))))
 change wpAny _ _ (holding [.builtin "object.__class__"] (call (.builtin "getset_descriptor.__get__") [.builtin "object.__class__",.ref x,.ref C]) >>= ret) _ _ _;show Ox (PQ (Sw (class_get (s:={s with toks:=s.toks+1}) X I a.top ?_)))
 show OD (handed_on rfl (OD h))
structure XT (K:Frag)(C:OF)(c:Oy)(b:O6):Prop where
 ty:∀(Mqa:U6) h',K.In h'->Looks Mqa h' (typeOf c) (.type "type")
 is:∀(Mqa:U6) h',K.In h'->Looks Mqa h' (isType c) true
 sub:subIn K (.ref C) c=ba b
 eq:(Ps C==c)=true->b=true
def gT (hc:clsIn K D=ba cd)(a:U6)(h':Pr)(X:K.In h'):Looks a h' (isType (.ref D)) true:=by
 unfold clsIn at hc;split at hc
 next h d' b d c=>intro e g f i k q;unfold isType loadHead;show Ox (VY (k _ _ (X _ _ c)) (OD q))
 ·cases hc
def pK (e:XK K C cd)(T:XT K C c b)(X:K.In s.heap)(I:InstAt s.heap x ox C od)(h:∀l,Q (.done (.ret (.bool b))) {s with toks:=l}) :
  wpAny (model prog w) A (SY.«isinstance.nested» #[[.ref x,c,.int i tk],[]]) Q E s:=by
 have f:=gT e.cls (model prog w) s.heap X;have j:=T.is (model prog w) s.heap X;have k:Looks (model prog w) s.heap (typeOf c) (.type "type"):=T.ty (model prog w) s.heap X;have a:Looks (model prog w) s.heap (isSubtype (.ref C) c) b:=looks_subIn X T.sub;obtain⟨n,g,d,o,os⟩:=s;have m:Looks (model prog w) n _ _:=I.type;have p:Looks (model prog w) n (isInstance (.ref x) c) b:=m.andThen a;unfold SY.«isinstance.nested»;show Ox (m.at ?_)
 by_cases q:(Ps C==c)=true
 ·rw[OZ q];cases T.eq q;show Ox (Tz (Ox (OD (OD (h o)))))
 ·rw[Pd q];show Ox (k.at ?_);rw[OZ #v[]]
  k_delta "plainIsInstance"
  show Ox (Ox (j.at ?_));revert RQ Pu QA;show Ox (p.at ?_);cases b with
  |true=>
   revert QY;show OD (OD (h o))
  |false=>
   revert Pu QA;show Ox (G6 e X I ?_);show Ox (f.at ?_);revert RQ Pu QA;show Ox (Tz ?_);show a.at ?_;show OD (h _)
def Ko (d:XK K C cd)(T:XT K C c b)(X:K.In s.heap)(I:InstAt s.heap x ox C od)(h:∀a,Q (.bool b) {s with toks:=a}):wpAny (model prog w) A (call (.builtin "isinstance") [.ref x,c]) Q E s:=
 call_isinstance (S:=λ_ R s=>(K.In s.heap/\InstAt s.heap x ox C od)/\∀a,R (.ok (.ret (.bool b))) {s with toks:=a})
  (λ_ _ _ _ _ hs=>isinstance_outer (pK d T hs.1.1 hs.1.2 hs.2) (by intro q;cases q)) #[#[X,I],h]
end
end Xc
namespace Xc
open PySem PySem.Spec PySem.W PySem.Builtin.ObjectAttr L2 PyProof.Rows
noncomputable abbrev NX:Ow Oy:=[.type "ValueError",.type "Exception",.type "BaseException",.type "object"]
abbrev Fx (e C:OF)(dd:Oz OF)(h:Pr):Prop:=∃vs a b,h.get? e=ba #[.ref C,dd,.fields vs,a]/\vs[0]?=ba (.ref b)/\vs[1]?=ba .none
def Fx.ok (x:Fx e C dd h):ObjOk P w H h e (.ext (Fx e C dd)):=
 #[x,let ⟨_,_,_,q,_⟩:=x;#[_,q],λa b y k=>let ⟨vs,sl,t0,q,r⟩:=y;#[vs,sl,t0,k _ q,r]]
structure XC (K:Frag)(C:OF)(cd:Rn):Prop extends XK K C cd where
 obj:∃nm q N bs bm sn sub ab col dd k0 k1 k2 k3 k5,K.lookup C=ba (excClassObj nm q C N bs bm true sn sub ab col dd k0 k1 k2 k3 k5 "ValueError.__new__")/\tailIn K NX bm=true/\bm.contains (.type "BaseException")=true
 sa:findIn K (.ref C) "__setattr__" = ba (ba (.builtin "object.__setattr__"))
section
variable{X:Cx}{x:OM}{p pos apos:Rl}{a:Pb}{es:Ow Pb}{t:TA}{CL:OF}{mc:Oy}
abbrev yw (K:Frag)(t:TA):TE:=λY H Q=>t Y H λvs a=>∃e C b dd aC,vs=.ref e::aC/\aC.length<=sizeLine/\XC K C b/\a e=ba (.ext (Fx e C dd))/\Q .non a
def yx {pl:Yu O6}(m:Gl X x)(n:X.mg x=ba (.ref CL))(S:specialIn X.K (.ref CL) "__getattribute__" = ba (ba (.builtin "type.__getattribute__")))(U:readsIn X.K CL mc=true)
  (hf:findCls X.K (.ref CL) mc "__init__" = ba (.val (.builtin "ValueError.__init__"))) (P:PA X (a::es) t)
  (w:starEach (a::es) X.env=(false,eval a X.env)::starEach es X.env:=by rfl) (r:(backTo pos (starEach es X.env)).any (·.1)=false:=by rfl)
  (ht:eval (.Call (.Attribute (.Name x p) "__init__" apos) (a::es) [] pos) X.env=(do
   let ov <- eval (.Name x p) X.env
   standAt apos.atName
   let (f,first) <- holding [ov] (getMethod ov "__init__" pl)
   callWith pos f first (backTo pos (starEach (a::es) X.env)) (backToKw pos (keywordEach [] X.env))):=by rfl) (hdb:(x==("__debug__"))=false:=by decide) :
  PE X (.Call (.Attribute (.Name x p) "__init__" apos) (a::es) [] pos) (yw X.K t):=by
 intro J s Y H Q I h;show PySem.W.methodCall_KW (pl:=pl) (eL I m n ?_ hdb) ht;show Km I.kIn S U hf (by decide +kernel) ?_
 have L:=I.tok (s.toks+1);show callWith_builtin1 (a9 (P pos J _ Y H _ L h) λus s1 #[vs,H1,I1,r1,q1]=>?_) w r
 obtain⟨e,C,cd,dd,aC,rfl,V,k,l,T⟩:=q1;obtain⟨u,c,rfl,ru,rr⟩:∃u c,us=u::c/\RelV (.ref e) u/\Vals aC c:=by
  cases r1 with
  |cons a b=>show#[_,_,rfl,a,b]
 obtain rfl:u=Ps e:=ru;obtain⟨nm,q,N,bs,bm,sn,sub,ab,col,M,k0,k1,k2,k3,k5,W,tl,_⟩:=k.obj;obtain⟨⟨ws,G,t0,D,E,o3⟩,_,_⟩:=I1.hok e _ l;have B:=I1.kIn;obtain⟨j,g,d,tk,os⟩:=s1;show Kl UM (tail_of_in B tl) (B _ _ W) D E ?_ (by rw[<- ↥rr];show V)
 have y:(j.push (gK c)).get? e=ba #[.ref C,dd,.fields ws,G]:=OA _ D;have i:=P8 (RO (·.setIfInBounds 0 (.ref ⇑j.objs))) y rfl
 have Z:Fx e C dd ((j.push (gK c)).update e (RO (·.setIfInBounds 0 (.ref ⇑j.objs)))):=
  #[_,G,⇑j.objs,i,by simp[(O9.mp E).1],by rw[T4 #v[]];show o3]
 have A:=I1.write (o:=.ext (Fx e C dd)) (t':=tk) (h':=(j.push (gK c)).update e (RO (·.setIfInBounds 0 (.ref ⇑j.objs)))) (x:=e) (e:=e) (by rw[l];trivial) (.inl rfl)
  (λb u R q=>by rw[PF _ _ (Ne.symm R)];show OA _ q) #[_,i] Z.ok
 have O:aW H1 e (.ext (Fx e C dd))=H1:=by
  funext b
  unfold aW;split
  next z=>rw[z,l]
  ·rfl
 rw[O]at A;show#[.non,H1,A,rfl,T]
end
abbrev Dx (b:OF)(fs:Ow (OM×V))(h:Pr):Prop:=∃a,h.Ns1 b a/\(∀f,Gj (fs.lookup f) (a f))/\Within a (fs.map (·.1))
def Dx.ok (x:Dx a fs h):ObjOk P w H h a (.ext (Dx a fs)):=
 #[x,let ⟨_,⟨o,_,_,q,_⟩,_⟩:=x;#[o,q],λb c y k=>let ⟨mA,⟨o,es,ep,q,r⟩,z⟩:=y;#[mA,#[o,es,ep,k _ q,r],z]]
section
variable{X:Cx}{J:Ow (OF×Qq)}{Y:L2.St}{H:Hp}{s:OB}{h':Pr}{e dx:OF}{φ ψ χ:Pr->Prop}{t':OH}
def CH (I:L2.Inv X J Y H s)(d:H e=ba (.ext φ))(hd:⇑s.heap.objs<=dx)(k:∀b u,b≠e->s.heap.get? b=ba u->h'.get? b=ba u)
  (j:∀h,ObjOk X.prog X.w h h' e (.ext ψ)) (p:∀h,ObjOk X.prog X.w h h' dx (.ext χ)):L2.Inv X J Y (aW (aW H e (.ext ψ)) dx (.ext χ)) (ww s h' t'):=by
 have nd:H dx=gV:=I.hok.fresh hd;have ne:dx≠e:=λz=>by rw[z,d]at nd;cases nd
 have a:∀b,b≠e->b≠dx->aW (aW H e (.ext ψ)) dx (.ext χ) b=H b:=λb l m=>by rw[am m,am l]
 have lt:∀b o,s.heap.get? b=ba o->b≠dx:=λb o q z=>absurd (O4 q) (by rw[z];show Sd.mpr hd)
 have f:∀b,H b=gV->b≠e:=λb q z=>by rw[z,d]at q;cases q
 have ind:∀b u,H b=ba u->b≠dx:=λb u q z=>by rw[z,nd]at q;cases q
 show I.un #[λb o q n _ _=>k b o (f b n) q,λb o q n _ _=>#[o.slots,k b o (f b n) q],λb o q n _=>by rw[a b (f b n) (lt b o q)];show n,λb o q _=>?_,λb xs q=>?_,λb o u q=>?_,λb ps q=>#[#[],?_]] λb u q=>?_
 ·by_cases z:b=e
  ·rw[z];show let ⟨_,w,_⟩:=j H;w
  ·show#[o,k b o z q]
 ·rw[a b (λz=>by rw[z,d]at q;cases q) (ind b _ q)];show q
 ·rw[a b (λz=>by rw[z,d]at q;cases q) (ind b _ q)];show q
 ·rw[a b (λz=>by rw[z,d]at q;cases q) (ind b _ q),q];simp
 ·by_cases i:b=dx
  ·rw[i,au]at q;cases q;rw[i];show p _
  ·rw[am i]at q
   by_cases g:b=e
   ·rw[g,au]at q;cases q;rw[g];show j _
   ·rw[am g]at q;show(I.hok b u q).stay (λc v hc r=>k c v ?_ r) (λc r=>?_) λc xs r=>?_
    ·rcases hc with z|z
     ·rw[z];show g
     ·show λt=>by rw[t,d]at z;cases z
    ·rw[a c (λz=>by rw[z,d]at r;cases r) (ind c _ r)];show r
    ·rw[a c (λz=>by rw[z,d]at r;cases r) (ind c _ r)];show r
end
section
variable{X:Cx}{o value:Pb}{ta tv:TE}{f:OM}{pos pos':Rl}
abbrev Fp (K:Frag)(ta tv:TE)(f:OM):TS:=λD Y H=>tv Y H λy c=>ta Y c λx b=>∃e C d,x=.ref e/\XC K C d/\findIn K (.ref C) f=ba gV/\
 ((b e=ba (.ext (Fx e C gV))/\∀a,b a=gV->D.nx Y (aW (aW b e (.ext (Fx e C (ba a)))) a (.ext (Dx a [(f,y)]))))\/
  (∃a fs,b e=ba (.ext (Fx e C (ba a)))/\a≠e/\↥fs<=100/\b a=ba (.ext (Dx a fs))/\D.nx Y (aW b a (.ext (Dx a (io f y fs))))))
def CI (E:PE X o ta)(L:PE X value tv)(hs:swapsWith value (ba (.Attribute o f pos')) pos.line X.env=pure false):PS X (.Assign [.Attribute o f pos'] value pos) (Fp X.K ta tv f):=by
 intro J s Y H D I h;show plainObj_wpAny_Assign_Attribute (a9 (L J s Y H _ I h) λu P #[y,H1,I1,ry,q]=>a9 (E J P Y H1 _ I1 q) λO t #[x,H2,I2,rx,e,C,cd,ex,Yqk,hf,q2]=>?_) hs
 subst ex;obtain rfl:O=Ps e:=rx;rcases q2 with⟨c,l⟩|⟨a,fs,c,k,hl,hd,l⟩
 ·obtain⟨⟨ws,v,w,m,p,r⟩,_,_⟩:=I2.hok e _ c;show yv I2.kIn m Yqk.sa Yqk.cls Yqk.mro Yqk.dct hf λh' tk A d i B=>?_
  have fx:Fx e C (ba ⇑t.heap.objs) h':=#[ws,v,w,A,p,r];have dd:Dx ⇑t.heap.objs [(f,y)] h':=#[_,d,λg=>?_,?_]
  ·show#[Y,_,CH I2 c (OR _) i (λ_=>fx.ok) (λ_=>dd.ok),l _ (I2.hok.fresh (OR _))]
  ·change Gj ((io f y []).lookup g) (if g=f then ba u else gV)
   rw[fD]
   by_cases q:g=f
   ·rw[OZ q,OZ q];show ry
   ·rw[Pd q,Pd q];trivial
  ·intro g j
   by_cases q:g=f
   ·rw[q];show OU
   ·show absurd (show(if g=f then ba u else gV)=gV by rw[Pd q]) j
 ·obtain⟨⟨ws,v,w,m,p,r⟩,_,_⟩:=I2.hok e _ c;obtain⟨⟨n,M,N,n3⟩,_,_⟩:=I2.hok a _ hd;show v6 I2.kIn m M n3 (by rw[OC];show hl) k Yqk.sa Yqk.cls Yqk.mro Yqk.dct hf λh' tk d i B=>?_
  have dd:Dx a (io f y fs) h':=#[_,d,λg=>?_,?_]
  ·show#[Y,_,I2.write (o:=.ext (Dx a (io f y fs))) (x:=a) (e:=a) (by rw[hd];trivial) (.inl rfl) (λb u G q=>by rw[i b G];show q) (let ⟨_,⟨o,_,_,q,_⟩,_⟩:=dd;#[o,q]) dd.ok,l]
  ·change Gj ((io f y fs).lookup g) (if g=f then ba u else n g)
   rw[fD]
   by_cases q:g=f
   ·rw[OZ q,OZ q];show ry
   ·rw[Pd q,Pd q];show N g
  ·intro g j
   by_cases q:g=f
   ·rw[q];show(jo f y fs).1
   ·show(jo f y fs).2 g (n3 g λz=>j ?_)
    show(if g=f then ba u else n g)=gV
    rw[Pd q];show z
end
structure XM (K:Frag)(C f:OF)(cd:Rn):Prop extends XC K C cd where
 init:findIn K (.ref C) "__init__" = ba (ba (.ref f))
 fn:typeIn K (.ref f)=ba (.type "function")
 kp:keepIn K (.ref C)=true
section
variable{X:Cx}{CX:rY}{k:OH}{f C:OF}{cd:Rn}{fd:Qp}{ps:Ow OM}{sp:Sp}{E:L2.XK}{x:OM}{p pos:Rl}{a:Pb}{es:Ow Pb}{t:TA}
def v7 {Y:L2.St}(c:XM X.K C f cd)(F:FnOk X.prog X.w X.K X.mg X.base CX k f fd ps sp)(D:Room (k+1) X.A)(A:Binds X.K fd ps [])
  (G:jp CX X E) (I:L2.Inv X J Y H s) (r:Vals vs us) (L:↥us<=sizeLine)
  (h:∀e,H e=gV->⇑s.heap.objs<=e->sp (.ref e::vs) (aW H e (.ext (Fx e C gV))) (λv t=>v=.non/\Q (.ref e) t) E) :
  wi X (call (.ref C) us) (EP X J Y Q) X.xe s:=by
 have n:=h (⇑s.heap.objs+1) (I.hok.fresh (QJ _)) (QJ _);obtain⟨nm,q,N,bs,bm,sn,sub,ab,col,x,k0,k1,k2,k3,k5,M,S,_⟩:=c.obj;have j:L2.Inv X J Y (aW H (⇑s.heap.objs+1) (.ext (Fx (⇑s.heap.objs+1) C gV))) {s with heap:=(s.heap.push (gK us)).push (jq C ⇑s.heap.objs)}:=by
  show I.laid (t':=s.toks) (λb u e=>OA _ (OA _ e)) (QJ _) (Fx.ok #[[.ref ⇑s.heap.objs,.none,.none,.none,.bool false,.none].toArray,#[],⇑s.heap.objs,?_,rfl,rfl])
  show W1 (by simp) rfl
 have o:Vals (V.ref (⇑s.heap.objs+1)::vs) (Ps (⇑s.heap.objs+1)::us):=.cons rfl r;have hl:(Ps (⇑s.heap.objs+1)::us++[]).length=↥ps:=by
  have e:=↥o;rw[F.len _ _ _ _ n]at e;rw[Ql];show e.symm
 have l:=I.kIn;have i:=A _ (Ps (⇑s.heap.objs+1)::us) j.kIn hl;rw[Ql]at i;have m:=F.run _ X.stack _ _ #[Ps (⇑s.heap.objs+1)::us,[]] (Ps (⇑s.heap.objs+1)::us) _ _ E (D.make C us []) (j.env0.make C us []) i o n;obtain⟨B,g,d,tk,os⟩:=s;show yu UM (tail_of_in l S) (l _ _ M) (looks_findIn l c.init) (λself=>bind_fn l self c.fn) (Rr m λr R a=>?_) L
 cases r with
 |error e=>show G J Y _ _ e R j a
 |ok z=>
  cases z with
  |ret u=>
   obtain⟨v,p,w,P,y,O⟩:=j.after a;subst y;show#[P,#[V.ref (⇑B.objs+1),p,w,rfl,O]]
  |next=>show P0.elim a
  |brk=>show P0.elim a
  |cont=>show P0.elim a
end
abbrev Ex (e C:OF)(dd:Oz OF)(h:Pr):Prop:=∃vs a,h.get? e=ba #[.ref C,dd,.fields vs,a]
def Ex.ok (x:Ex e C dd h):ObjOk P w H h e (.ext (Ex e C dd)):=
 #[x,let ⟨_,_,q⟩:=x;#[_,q],λa b y k=>let ⟨vs,sl,q⟩:=y;#[vs,sl,k _ q]]
def Fly.ex (x:Fly h e (.ref C) dd a b):Ex e C dd h:=by
 cases x with
 |new q _ _=>show#[_,_,q]
 |on q _ _ _ _ _ _=>show#[_,_,q]
abbrev cQ (h:Pr)(b:OF):O6:=match h.get? b with
 |some #[_,_,.fields _,_]=>true
 |_=>false
def dX (q:h.get? b=ba o)(n:cQ h b=false):∀vs,o.data≠.fields vs:=λvs e=>by
 obtain⟨c,d,a,f⟩:=o;cases e;simp[cQ,q]at n
def v8 (n:cQ h b=true):∃o vs,h.get? b=ba o/\o.data=.fields vs:=by
 unfold cQ at n;split at n
 next q=>show#[_,_,q,rfl]
 ·cases n
def yy (x:ObjOk P w H h a o):∃b,h.get? a=ba b:=by
 cases o with
 |lst xs=>obtain⟨_,_,_,_,e⟩:=x;show#[_,e]
 |tup xs=>obtain⟨⟨_,_,e,_⟩,_⟩:=x;show#[_,e]
 |dK U=>obtain⟨_,_,_,_,o,_,_,e,_⟩:=x;show#[_,e]
 |own y=>show x
 |rng lo hi=>obtain⟨_,_,_,e⟩:=x;show#[_,e]
 |frz b u=>obtain⟨e,_⟩:=x;show#[_,e]
 |tbl ps=>show#[_,(show h.get? a=ba _ from x)]
 |ext φ=>obtain⟨_,e,_⟩:=x;show e
structure Air (X:Cx)(J:Ow (OF×Qq))(Y:L2.St)(H:Hp)(s:OB)(a C:OF)(dd:Oz OF)(a0:Oy):Prop where
 inv:L2.Inv X J Y H s
 fly:Fly s.heap a (.ref C) dd a0 .none
 new:⇑X.s₀.heap.objs<=a
 ext:H a=ba (.ext (Ex a C dd))
 low:∀b u,H b=ba u->a<b->cQ s.heap b=false
 pin:∀p∈X.pn++J,a<p.1->cQ s.heap p.1=false
section
variable{X:Cx}{J:Ow (OF×Qq)}{Y:L2.St}{H:Hp}{s:OB}{a C:OF}{dd:Oz OF}{a0:Oy}{h':Pr}
def Air.mv (e:Air X J Y H s a C dd a0)(m:Mv (nE X.stack) a s.heap h')(f:Fly h' a (.ref C) dd a0 .none):Air X J Y H {s with heap:=h'} a C dd a0:=by
 have I:=e.inv;have G:∀b∈nE X.stack,∃o,s.heap.get? b=ba o/\∀vs,o.data≠.fields vs:=λb g=>(I.stack.mem g).2
 have i:∀b u o,H b=ba u->b≠a->s.heap.get? b=ba o->h'.get? b=ba o:=λb u o g ne q=>
  m.keep b o q (λz=>by rw[I.stkFree b z]at g;cases g) ne λlt=>dX q (e.low b u g lt)
 have j:∀b o,s.heap.get? b=ba o->cQ s.heap b=false->b≠a->cQ h' b=false:=λb o q n ne=>by
  by_cases g:b∈nE X.stack
  ·obtain⟨P,k⟩:=m.fram b o q g (dX q n);unfold cQ;rw[k];obtain⟨c,d,L,Q⟩:=o;cases L<;>first|rfl|(simp[cQ,q]at n)
  ·unfold cQ at n ⊢;rw[m.keep b o q g ne λ_=>dX q n]
   rw[q]at n;show n
 have B:L2.Inv X J Y H {s with heap:=h'}:=by
  show I.call (ch:=(Pj ⇑s.heap.objs).filter λb=>decide (a<b)&&cQ s.heap b) (g':=s.gens) (t':=s.toks) (d':=s.drawn) #[λb o q n O nc=>?_,λb o q n g nc=>?_,λb o q n _=>n,λb o q nc=>?_,λ_ _ q=>q,λ_ _ _ q=>q,λb ps q=>#[#[],by rw[q];simp]] (λb u q=>?_) I.bare λb g=>?_
  ·show m.keep b o q O (λz=>by rw[z,e.ext]at n;cases n) λlt=>?_
   cases t:cQ s.heap b with
   |false=>show dX q t
   |true=>show absurd (Qy.mpr #[Pn.mpr (O4 q),by simp[lt,t]]) nc
  ·obtain⟨o',k,D⟩:=G b g;rw[q]at k;cases k;show m.fram b o q g D
  ·by_cases g:b∈nE X.stack
   ·obtain⟨o',k,D⟩:=G b g;rw[q]at k;cases k;show let ⟨P,z⟩:=m.fram b o q g D;#[_,z]
   ·by_cases z:b=a
    ·rw[z];show let ⟨_,_,w⟩:=f.ex;#[_,w]
    ·show#[o,m.keep b o q g z λlt=>?_]
     cases t:cQ s.heap b with
     |false=>show dX q t
     |true=>show absurd (Qy.mpr #[Pn.mpr (O4 q),by simp[lt,t]]) nc
  ·by_cases z:b=a
   ·rw[z,e.ext]at q;cases q;rw[z];show f.ex.ok
   ·show(I.hok b u q).stay (λc v hc r=>?_) (λ_ r=>r) λ_ _ r=>r
    rcases hc with hc|hc
    ·rw[hc]at r ⊢;show i b u v q z r
    ·show i c _ v hc (λR=>by rw[R,e.ext]at hc;cases hc) r
  ·obtain⟨T,y⟩:=Qy.mp g;rw[OE]at y;have lt:=PC y.1;obtain⟨o,vs,q,hd⟩:=v8 y.2;show#[.inr (Q1 (SA e.new lt)),λz=>?_,λx c N z=>?_,λp A z=>?_]
   ·obtain⟨U,⟨o',es,S,l,h,_⟩,_⟩:=I.loc;rw[<- z,q]at l;cases l;rw[hd]at h;cases h
   ·obtain⟨v,o',l,h⟩:=I.cell x c N;rw[z,q]at l;cases l;rw[hd]at h;cases h
   ·have:=e.pin p A (by rw[z];show lt)
    rw[z,y.2]at this;cases this
 show#[B,f,e.new,e.ext,λb u g lt=>?_,λp A lt=>?_]
 ·have M:=I.hok.lt g;cases q:s.heap.get? b with
  |none=>
   obtain⟨o,E⟩:=yy (I.hok b u g);rw[q]at E;cases E
  |some o=>show j b o q (e.low b u g lt) (PZ lt)
 ·show j p.1 p.2 (I.pin p A).1 (e.pin p A lt) (PZ lt)
end
inductive CXx (P:Pe)(w:Pk)(outer:Ow U0)(H:Hp)(s:OB)(E:L2.XK)(e:Oy)(s':OB):Prop
 |mk (a C:OF) (dd:Oz OF) (a0:Oy) (H':Hp) (he:e=.ref a) (new:⇑s.heap.objs<=a) (os:s'.os=s.os) (bare:Ud s'.gens) (un:Un (nE outer) [] H H' s.heap s'.heap) (hok:HOk P w H' s'.heap)
   (fly:Fly s'.heap a (.ref C) dd a0 .none) (ext:H' a=ba (.ext (Ex a C dd))) (low:∀b u,H' b=ba u->a<b->cQ s'.heap b=false) (q:E (.ref C) dd H'):CXx P w outer H s E e s'
section
variable{X:Cx}{J:Ow (OF×Qq)}{Y:L2.St}{H:Hp}{s s':OB}{E:L2.XK}{e:Oy}
def G7 (I:L2.Inv X J Y H s)(h:CXx X.prog X.w X.stack H s E e s'):∃a C dd i f,e=.ref a/\Air X J Y f s' a C dd i/\E (.ref C) dd f:=by
 obtain⟨a,C,dd,i,f,n,new,os,c,un,k,j,ext,l,q⟩:=h;show#[a,C,dd,i,f,n,#[?_,j,OQ I.sz new,ext,l,λp r lt=>?_],q]
 ·obtain⟨o,g,d,t,m⟩:=s';obtain rfl:m=s.os:=os;show I.call (h':=o) (g':=g) (d':=d) (t':=t) (ch:=[]) un k c (λb z=>absurd z (by simp))
 ·show absurd (O4 (I.pin p r).1) (Sd.mpr (OQ new (Q1 lt)))
end
section
variable{P:Pe}{w:Pk}{K:OI}{mg:OM->Oz Oy}{base:Pr}{N:Ow OM}{qual:OM}{scope:RN}{f:OF}{cd:Oy}{A:Pl}{outer:Ow U0}{s0 s:OB}{H0 H:Hp}{E:L2.XK}{J:Ow (OF×Qq)}{Y:L2.St}{a C:OF}{dd:Oz OF}{a0:Oy}
def G8 (c:Air (fF (CXx P w) P w K mg base N qual scope f cd A outer s0 H0 E) J Y H s a C dd a0)(q:E (.ref C) dd H):(fF (CXx P w) P w K mg base N qual scope f cd A outer s0 H0 E).xe (.ref a) s:=by
 have I:=c.inv;show CG (L:=s0.heap.objs.size) (base:=base) I.ok.frames I.stack rfl c.fly λh' m e=>?_
 have d:=c.mv m e;have b:=d.inv;show#[a,C,dd,a0,H,rfl,c.new,b.os,b.bare,b.base,b.hok,e,d.ext,d.low,q]
end
abbrev XQ (n:OH)(C:OF)(d:Hp)(c:L2.XK):VK:=λv a=>∃e dd,v=.ref e/\n<=e/\a e=ba (.ext (Fx e C dd))/\(∀b u,a b=ba u->(∃f,d b=ba f)\/b=e\/∃fs,u=.ext (Dx b fs))/\c (.ref C) dd (aW a e (.ext (Ex e C dd)))
abbrev G9 (C:OF)(sp:Sp)(E b:L2.XK)(t:TA):TS:=λ_ Y H=>t Y H λvs a=>↥vs<=sizeLine/\∀n e,a e=gV->n<=e->
 sp (.ref e::vs) (aW a e (.ext (Fx e C gV))) (λv c=>v=.non/\XQ n C a b (.ref e) c) E
section
variable{X:Cx}{CX:rY}{k:OH}{f C:OF}{cd:Rn}{fd:Qp}{ps:Ow OM}{sp:Sp}{E Ew:L2.XK}{x:OM}{p cpos pos:Rl}{a:Pb}{es:Ow Pb}{t:TA}
def yz {Y:L2.St}{ f:Hp}{t a:OB}{e:OF}(i:L2.Inv X J Y n t)(m:⇑t.heap.objs<=e)(j:L2.Inv X J Y f a)(r:f e=ba (.ext (Fx e C dd)))
  (hl:∀b u,f b=ba u->(∃v,n b=ba v)\/b=e\/∃fs,u=.ext (Dx b fs)):∃ws h w,a.heap.get? e=ba #[.ref C,dd,.fields ws,h]/\ws[1]?=ba .none/\Air X J Y (aW f e (.ext (Ex e C dd))) a e C dd w:=by
 obtain⟨⟨ws,h,G,g,B,s⟩,_,_⟩:=j.hok e _ r;show#[ws,h,.ref G,g,s,#[?_,.new g B s,OQ i.sz m,au,λb u l lt=>?_,λp A lt=>?_]]
 ·have k:=j.write (o:=.ext (Ex e C dd)) (t':=a.toks) (h':=a.heap) (x:=e) (e:=e) (by rw[r];trivial) (.inl rfl) (λb u _ q=>q) #[_,g] (Ex.ok #[ws,h,g])
  show k
 ·rw[am (PZ lt)]at l;rcases hl b u l with⟨v,z⟩|z|⟨fs,z⟩
  ·show absurd (i.hok.lt z) (Sd.mpr (OQ m (Q1 lt)))
  ·show absurd z (PZ lt)
  ·subst z;obtain⟨⟨L,⟨o,y,I,q,D,_⟩,_⟩,_⟩:=j.hok b _ l;unfold cQ;rw[q];obtain⟨c,d,H,E⟩:=o;cases D;rfl
 ·show absurd (O4 (i.pin p A).1) (Sd.mpr (OQ m (Q1 lt)))
def yA (M:X.A.handled=gV)(b:XM X.K C f cd)(F:FnOk X.prog X.w X.K X.mg X.base CX k f fd ps sp)(P:Room (k+1) X.A)(L:Gl X x)(O:X.mg x=ba (.ref C))(B:Binds X.K fd ps [])(R:jp CX X E)
  (hw:∀J Y H s a C dd m,Air X J Y H s a C dd m->Ew (.ref C) dd H->X.xe (.ref a) s)
  (A:PA X (a::es) t) (hdb:(x==("__debug__"))=false:=by decide) (G:starEach (a::es) X.env=(false,eval a X.env)::starEach es X.env:=by rfl) (i:(backTo cpos (starEach es X.env)).any (·.1)=false:=by rfl) :
  PS X (.Raise (ba (.Call (.Name x p) (a::es) [] cpos)) gV pos) (G9 C sp E Ew t):=by
 intro J s Y H D I h;obtain⟨nm,q,N,bs,bm,sn,sub,ab,col,d,k0,k1,k2,k3,k5,S,V,c⟩:=b.obj;rw[arm_exec_Raise];show Ox (Ue (G4 (C:=C) (nm:=nm) (q:=q) (N:=N) (bs:=bs) (bm:=bm) (hdct:=true) (sn:=sn) (sub:=sub) (ab:=ab) (col:=col) (dd:=d) (k0:=k0) (k1:=k1) (k2:=k2) (k3:=k3) (k5:=k5) (newId:="ValueError.__new__") c M (Ox ?_)));show P4 (Q:=λv j=>∃e o vs l,v=.ref e/\j.heap.get? C=ba (excClassObj nm q C N bs bm true sn sub ab col d k0 k1 k2 k3 k5 "ValueError.__new__")/\j.heap.get? e=ba #[.ref C,o,.fields vs,l]/\vs[1]?=ba .none/\X.xe (.ref e) j) ?_ (λv s3 y=>Ox (Ue (OD y))) λ_ _ z=>z
 show RW (eL I L O ?_ hdb);show UJ (h₀:=X.base) I.ok.mod.kin b.kp (a9 (A cpos J s Y H _ I h) λus T #[vs,H1,I1,r,q]=>#[I1.kIn,?_]) G i
 show P4 (v7 (Q:=XQ ⇑T.heap.objs C H1 Ew) b F P B R I1 r (by have:=↥r;have:=q.1;revert XU;omega) λe n le=>q.2 _ e n le) (λv U #[W,H2,I2,rv,e,dd,ev,le,h2,hl,hE]=>?_) λ_ _ z=>z
 subst ev;obtain rfl:v=Ps e:=rv;obtain⟨ws,l,m,u,w,g⟩:=yz I1 le I2 h2 hl;show#[e,dd,ws,l,rfl,I2.kIn _ _ S,u,w,hw _ _ _ _ _ _ _ _ g hE]
end
noncomputable abbrev ug (X:Cx)(a:OF):Cx:={X with A:=X.A.mark (ba (.ref a)),calm:=false,xe:=λ_ _=>P0}
section
variable{X:Cx}{J:Ow (OF×Qq)}{Y:L2.St}{H:Hp}{s:OB}{a C:OF}{dd:Oz OF}{a0:Oy}
def yB (I:L2.Inv X J Y H s):L2.Inv (ug X a) J Y H s:=by
 obtain⟨ok,d,e,f,g,h,i,j,k,b,c⟩:=I;show#[#[ok.mod,ok.kind,ok.glob,ok.blt,ok.above,ok.inj,ok.has,ok.cab,(λz=>nomatch z),ok.frames,ok.stk,ok.exf,ok.bs,ok.bsz,ok.noex,ok.exfs,ok.funs,ok.frf],d,e,f,g,h,i,j,k,b,c]
def CJ (ok:X.Ok)(I:L2.Inv (ug X a) J Y H s):L2.Inv X J Y H s:=by
 obtain⟨_,d,e,f,g,h,i,j,k,b,c⟩:=I;show#[ok,d,e,f,g,h,i,j,k,b,c]
def yC (I:L2.Inv X J Y H s)(L:X.N.Nodup)(hi:X.N[i]?=ba n)(a:X.env.scope.names.lookup n=ba .local)
  (h:∀N,L2.Inv X J (Y.set i gV) H N->Q () N):wpAny w A (do bindName X.env n .none;unbindBehindTheSuite X.env n pos) Q E s:=by
 unfold bindName unbindBehindTheSuite;show Ox (Ox (PQ (Zd (Ox (ik (v:=.non) I L hi (.inl a) rfl (λs1 t=>Zd ?_) (.inr a))))))
 show Wx ?_;obtain⟨m,M,hl⟩:=t.loc;have hiσ:i<↥Y:=by rw[I.len];show(OS.mp hi).1
 obtain⟨u,ru,lk⟩:=hl i n .non hi (by rw[QQ hiσ]) (.inl a)
 have T:m n=ba u:=by
  rcases lk with⟨_,z⟩|⟨z,_⟩
  ·show z
  ·have l:X.env.scope.names.lookup n=ba .cell\/X.env.scope.names.lookup n=ba .free:=z;rw[a]at l;rcases l with l|l<;>cases l
 show wpAny_unbindName_local a M T (by rw[show X.env.scope.kind=.function from I.ok.kind];rfl) λh' u' C hs=>h _ ?_
 obtain⟨ok,V,W,f,i5,Z,G,i8,i9,D,U⟩:=id t;obtain⟨oL,_,_,R,_⟩:=id M;have cne:=t.cne;show#[ok,V,W,#[λb o e n x a=>?_,λb o e n x a=>?_,f.free,λb o e a=>?_,f.tups,f.frzs,f.tbls],#[_,C,λj y v' g r P=>?_],λy c e=>?_,G,i8,λp S=>?_,λb ob e=>?_,?_]
 ·show(hs.2 b (Pa (Pf (O4 e) ok.above))).trans (f.keep b o e n x a)
 ·obtain⟨sl,g⟩:=f.slot b o e n x a;show#[sl,(hs.2 b (Pa (Pf (O4 e) ok.above))).trans g]
 ·obtain⟨o',g⟩:=f.there b o e a;show#[o',(hs.2 b (Pa (Pf (O4 e) ok.above))).trans g]
 ·have B:j≠i:=λz=>by
   rw[z,QQ hiσ]at r;cases r
  rw[SR (Ne.symm B)]at r;obtain⟨u2,r',q⟩:=hl j y v' g (by rw[SR (Ne.symm B)];show r) P
  show#[u2,r',?_];rcases q with⟨k,e⟩|⟨k,c,e,z⟩
  ·show .inl #[k,?_];have:y≠n:=λe=>B (kL L g (e▸hi))
   simp[this,e]
  ·show .inr #[k,c,e,z.sameBut hs (cne y c e)]
 ·obtain⟨O,z⟩:=Z y c e;show#[O,z.sameBut hs (cne y c e)]
 ·obtain⟨e,n,ne,nf,d⟩:=i9 p S;show#[(hs.2 p.1 ne).trans e,n,ne,nf,d]
 ·show(D b ob e).stay (λc O hc q=>(hs.2 c ?_).trans q) (λ_ q=>q) λ_ _ q=>q
  rintro rfl;rcases hc with hc|hc
  ·rw[<- hc,G]at e;cases e
  ·rw[G]at hc;cases hc
 ·rw[Qz];show I.len
end
structure XD (K:Frag)(D:OF):Prop where
 tup:∀(Mqa:U6) h,K.In h->Looks Mqa h (isInstance (.ref D) (.type "tuple")) false
 exc:∀(Mqa:U6) h,K.In h->Looks Mqa h (isExcClass (.ref D)) true
def Ha {K:Frag}(X:K.In s.heap)(I:Looks a s.heap (typeOf (.ref e)) (.ref C))(T:XD K D)
  (hs:subIn K (.ref C) (.ref D)=ba b) (c:Q b s):wpAny a A (excMatches (.ref e) (.ref D)) Q E s:=by
 unfold excMatches;show Ox ((T.tup a _ X).here (Ox (OD ?_)));show Ox ?_;revert Us VZ;show Ox (Ox ((T.exc a _ X).here ?_));show OD (OD ?_);show Ox (I.here ?_);show Ox (Ox (Ox ((looks_subIn X hs).here ?_)));cases b
 ·show OD (OD (OD c))
 ·show OD (OD (OD c))
section
variable{X:Cx}{J:Ow (OF×Qq)}{Y:L2.St}{H:Hp}{s:OB}
inductive Caught (X:Cx)(J:Ow (OF×Qq))(D:OF)(i:OH)(b0:Qj)(suite:Ow Qj)(Q:ZO->OB->Prop)(e:Oy)(s1:OB):Prop
 |mk (a C:OF) (dd:Oz OF) (a0:Oy) (Y':L2.St) (H':Hp) (he:e=.ref a) (air:Air X J Y' H' s1 a C dd a0) (sub:subIn X.K (.ref C) (.ref D)=ba true)
   (run:∀s2,L2.Inv (ug X a) J (Y'.set i (ba (.ref a))) H' s2->wpAny (model X.prog X.w) (ug X a).A (execs (b0::suite) X.env)
    (λf s3=>∃Y3 H3,L2.Inv (ug X a) J Y3 H3 s3/\∀s4,L2.Inv X J (Y3.set i gV) H3 s4->Q f s4) (λ_ _=>P0) s2):Caught X J D i b0 suite Q e s1
def Kq (d:X.stack=X.env::X.outer)(l:X.env.frame=ba X.env.locals)(r:X.N.Nodup)(hi:X.N[i]?=ba n)
  (m:X.env.scope.names.lookup n=ba .local) (M:Gl X c) (N:X.mg c=ba (.ref D)) (T:XD X.K D)
  (L:wi X (execs body X.env) Q (Caught X J D i b0 b Q) s) (hdb:(c==("__debug__"))=false:=by decide) :
  wi X (exec (.Try body [.ExceptHandler (ba (.Name c O)) (ba n) (b0::b) h] [] [] pos) X.env) Q X.xe s:=by
 show wpAny_Try_except (P4 L (λf o q=>?_) λe o #[a,C,dd,a0,Y',H',he,Yqk,sub,run]=>?_)
 ·cases f with
  |next=>show OD q
  |_=>show q
 ·subst he;have I:=Yqk.inv;have w:X.A.frames=ba (X.env::X.outer):=by rw[<- d];show I.ok.frames
  show G5 (base:=X.base) w (by rw[<- d];show I.stack) l Yqk.fly λG t k=>?_
  rw[<- d]at t;have g:=Yqk.mv t k;have p:L2.Inv (ug X a) J Y' H' {o with heap:=G}:=yB g.inv
  show eL (X:=ug X a) p M N ?_ hdb;obtain⟨ws,U,E⟩:=k.ex;show Ha p.kIn ((Looks.ld E).andThen .now) T sub #[rfl,k,λH u B=>?_]
  rw[<- d]at u;have j:=g.mv u B;have x:L2.Inv (ug X a) J Y' H' {o with heap:=H}:=yB j.inv
  show ik (X:=ug X a) (v:=.ref a) x r hi (.inl m) rfl (λs3 y=>?_) (.inr m)
  show P4 (run s3 y) (λf S #[R,H3,I4,q]=>?_) λ_ _ z=>z
  show yC (CJ Yqk.inv.ok I4) r hi m λP A=>q P A
end
abbrev M6 (H:Hp)(a C:OF)(dd:Oz OF):Prop:=(∃o,H a=ba (.frz o (.ext (Ex a C dd))))/\(dd=gV\/∃b fs o,dd=ba b/\H b=ba (.frz o (.ext (Dx b fs))))
def Kr (x:M6 H a C dd)(k:HOk P w H h):∃c od,InstAt h a c C od:=by
 obtain⟨i,f⟩:=x.1;obtain⟨_,⟨ws,j,q⟩,_,_⟩:=k a _ f;rcases x.2 with rfl|⟨b,fs,_,rfl,e⟩
 ·show#[_,gV,#[q,rfl,rfl,trivial]]
 ·obtain⟨_,⟨g,⟨o,_,_,d,_⟩,_⟩,_⟩:=k b _ e;show#[_,ba o,#[q,rfl,rfl,d]]
section
variable{X:Cx}
def wa:CallR X (.builtin "isinstance") (λvs H Q=>∃a C g dd c b,vs=[.ref a,c]/\XK X.K C g/\M6 H a C dd/\((∃D,c=.ref D/\XT X.K C (.ref D) b)\/(∃T,c=.ty T/\XT X.K C (.type T) b))/\Q (.bl b) H):=by
 intro J s Y H vs us Q I r ⟨a,C,g,dd,c,b,j,e,x,hc,h⟩;subst j;obtain⟨u,v,rfl,n,i⟩:∃u v,us=[u,v]/\RelV (.ref a) u/\RelV c v:=by
  cases r with
  |cons l k=>cases k with
   |cons m f=>cases f;show#[_,_,rfl,l,m]
 obtain rfl:u=Ps a:=n;obtain⟨o,od,d⟩:=Kr x I.hok;rcases hc with⟨D,rfl,T⟩|⟨D,rfl,T⟩
 ·obtain rfl:v=Ps D:=i;show Ko e T I.kIn d λtk=>#[.bl b,H,I.tok tk,rfl,h]
 ·obtain rfl:v=QV D:=i;show Ko e T I.kIn d λtk=>#[.bl b,H,I.tok tk,rfl,h]
def sd (r:RelV y v):handedIn v=true:=by
 cases y with
 |non=>rw[show v=_ from r];rfl
 |bl b=>rw[show v=_ from r];rfl
 |int i=>obtain⟨t,rfl⟩:=r;rfl
 |str x=>obtain⟨t,rfl⟩:=r;rfl
 |byt b=>obtain⟨t,rfl⟩:=r;rfl
 |flt b=>obtain⟨t,rfl⟩:=r;rfl
 |ref a=>rw[show v=_ from r];rfl
 |ty n=>rw[show v=_ from r];rfl
abbrev Hb (K:Frag)(e:TE)(f:OM):TE:=λY H Q=>e Y H λv b=>∃a C d c fs y o o',v=.ref a/\XK K C d/\findIn K (.ref C) f=ba gV/\b a=ba (.frz o (.ext (Ex a C (ba c))))/\b c=ba (.frz o' (.ext (Dx c fs)))/\fs.lookup f=ba y/\Q y b
def yD (g:PE X e c)(d:attributeBase e f X.env (eval e X.env)=eval e X.env):PE X (.Attribute e f pos) (Hb X.K c f):=by
 intro J s Y H Q I h;show Cp d (a9 (g J s Y H _ I h) λu l #[x,H1,I1,rx,a,C,cd,dx,fs,y,o,o',ex,Yqk,hf,e1,e2,hl,hq]=>?_)
 subst ex;obtain rfl:u=Ps a:=rx;obtain⟨_,⟨ws,m,q⟩,_,_⟩:=I1.hok a _ e1;obtain⟨_,⟨i,j,k,_⟩,_,_⟩:=I1.hok dx _ e2;have z:=k f;rw[hl]at z;cases b:i f with
 |none=>rw[b]at z;show z.elim
 |some v=>
  rw[b]at z;show M5 I1.kIn q j Yqk.ga Yqk.hk Yqk.cls Yqk.mro Yqk.dct hf b (sd z) #[y,H1,I1.tok _,z,hq]
end
structure XL (K:Frag)(CL:OF)(mc:Oy):Prop where
 ga:specialIn K (.ref CL) "__getattribute__" = ba (ba (.builtin "type.__getattribute__"))
 rd:readsIn K CL mc=true
 fc:findCls K (.ref CL) mc "__init__" = ba (.val (.builtin "ValueError.__init__"))
abbrev yE (K:Frag)(g:OM):Sp:=λvs H Q _=>∃e y C b,vs=[.ref e,y]/\XC K C b/\findIn K (.ref C) g=ba gV/\H e=ba (.ext (Fx e C gV))/\∀a,H a=gV->Q .non (aW (aW H e (.ext (Fx e C (ba a)))) a (.ext (Dx a [(g,y)])))
end Xc
namespace Mi
open PySem PySem.Spec PyProof.Rows L2
abbrev yF (w:Pk):O6:=w.params.followText "set-order"
abbrev Oe (w:Pk)(e:O8×Oy):Prop:=∃x tk,e=(hashStr w x,.str x tk)
structure Tabs (w:Pk)(xs:Ow OM)(es:Pc (O8×Oy))(t:Pz):Prop where
 el:∀e∈es.toList,Oe w e
 pm:(es.toList.map λe=>strOf e.2).Perm xs
 nd:xs.Nodup
 few:↥xs<scanBound
 fit:t.fits ⇑es=true
abbrev fI (w:Pk)(xs:Ow OM)(o:Qq):Prop:=o.ExactSet/\∃es a t,o.data=.set es a t/\Tabs w xs es t
variable{prog:Pe}{A:Pl}
section
variable{w:Pk}{E:Oy->OB->Prop}{s:OB}{xs:Ow OM}{es:Pc (O8×Oy)}{t:Pz}
def CM :(SL prog w).is x (.str y tk)=true↔y=x:=by
 show(y==x)=true↔y=x;show Rm
def Tabs.elems (h:Tabs w xs es t):ElemsOf (SL prog w) es.toList:=λe a=>by
 obtain⟨x,tk,rfl⟩:=h.el e a;show#[#[x,CM.mpr rfl,rfl],rfl]
def Tabs.size (h:Tabs w xs es t):⇑es=↥xs:=by rw[<- h.pm.length_eq,OC,OW]
def Tabs.has (h:Tabs w xs es t)(x:OM):(∃e∈es.toList,(SL prog w).is x e.2=true)↔x∈xs:=by
 rw[<- h.pm.mem_iff,O0];constructor
 ·rintro⟨e,a,q⟩;obtain⟨y,tk,rfl⟩:=h.el e a;show#[_,a,CM.mp q]
 ·rintro⟨e,a,q⟩;obtain⟨y,tk,rfl⟩:=h.el e a;show#[_,a,CM.mpr q]
def uh (e:s.heap.get? a=ba o)(f:o.ExactSet)(hd:o.data=.set es d t)(T:Tabs w xs b c)
  (h:∀h',Q5 a s.heap h'->h'.get? a=ba {o with data:=.set b (d+1) c}->Q () {s with heap:=h'}):wh prog w A (storeSet a b c) Q E s:=by
 show W2 e hd (h _ (RH ..) ?_) (by rw[T.size];show W3 T.few)
 have:=P8 (ZB b c) e (by rw[Xq b c hd];rfl)
 rw[Xq b c hd]at this;show this
def CN (D:s.heap.get? a=ba o)(W:fI w xs o)(Z:↥xs+1<scanBound)
  (h:∀b h' o',Q5 a s.heap h'->h'.get? a=ba o'->fI w (if x∈xs then xs else xs++[x]) o'->Q b {s with heap:=h'}):wh prog w A (setAddHashed a (.str x tk) (hashStr w x)) Q E s:=by
 obtain⟨f,es,V,t,hd,T⟩:=W;have hk:(SL prog w).is x (.str x tk)=true:=CM.mpr rfl;have P:=T.has (prog:=prog) x;unfold setAddHashed setAddHashedIn;show PQ (Ox (Rz D hd T.fit ?_));dsimp only;rw[byScan_of (knd:=SL prog w) rfl (by rw[T.size];show T.few) T.elems]
 simp -iota only[↓reduceIte];unfold setAddByScan;show Ox (Ox (Tz (Ox (wpAny_setScan_of (knd:=SL prog w) hk D hd T.fit T.elems ?_))));cases q:es.toList.findIdx? (λe=>(SL prog w).is x e.2)with
 |some j=>
  obtain⟨Y,n,_⟩:=TN.mp q;have C:x∈xs:=P.mp #[_,PX Y,n];dsimp only;have:=h false s.heap o (W4 ..) D (by rw[OZ C];show#[f,es,V,t,hd,T])
  show OD (OD this)
 |none=>
  have C:x∉xs:=λz=>by
   obtain⟨e,k,n⟩:=P.mpr z;rw[List.findIdx?_eq_none_iff.mp q e k]at n;cases n
  rw[Pd C]at h;dsimp only;have v:=layNew_perm t es (hashStr w x) (.str x tk);have J:=layNew_fits t es (hashStr w x) (.str x tk);have i:∀(b:O6) {d:OB}{l:XR->OB->Prop},l () d->wh prog w A (match b with|true=>rule "set.scan.the-table-gave-way"|false=>pure ()) l E d:=λb d l u=>by cases b<;>first|show OD u|show Tz u
  generalize hL:layNew t es (hashStr w x) (.str x tk)=L at v J ⊢;obtain⟨c,H,U,gv⟩:=L;dsimp only at v J ⊢;rw[U7]at v;have N:Tabs w (xs++[x]) c {H with plain:=false}:=by
    show#[λe k=>?_,(v.map λe=>strOf e.2).trans ?_,?_,by simpa using Z,YQ J]
    ·rcases Px.mp (v.mem_iff.mp k)with k|k
     ·show T.el e k
     ·rw[O3.mp k];show#[x,tk,rfl]
    ·rw[PP];show T.pm.append_right _
    ·show RA.mpr #[T.nd,by simp,λy hy z hz e=>C (by rw[O3.mp hz]at e;show e▸hy)]
  have fin:∀(g:O6->Yu XR),(∀(b:O6) (d:OB) (l:XR->OB->Prop),l () d->wh prog w A (g b) l E d)->∀t2:Pz,Tabs w (xs++[x]) c t2->wh prog w A (do
    storeSet a c t2
    if (!U&&t2.tooFull)=true then do
      g (relayAll t2 c (QK ⇑c)).2.2
      storeSet a (relayAll t2 c (QK ⇑c)).1 (relayAll t2 c (QK ⇑c)).2.1
      pure (ba true)
     else pure (ba true)) (λr s'=>wh prog w A (match r with|some b=>pure b|none=>setAddHashedIn a (.str x tk) (hashStr w x) 99999) Q E s') E s:=λg X t2 m=>by
   show Ox (uh D f hd m λh1 B S=>?_)
   show wpAny_ite_split (λ_=>?_) (λ_=>OD (OD (h _ _ _ B S #[f,_,_,_,rfl,m])))
   have G:=relayAll_perm t2 c (QK ⇑c);have rf:=relayAll_fits t2 c (QK ⇑c);generalize hR:relayAll t2 c (QK ⇑c)=R at G rf ⊢;obtain⟨I,t3,g2⟩:=R;dsimp only at G rf ⊢;have O:Tabs w (xs++[x]) I t3:=#[λe k=>m.el e (G.mem_iff.mp k),(G.map _).trans m.pm,m.nd,m.few,rf]
   show Ox (X _ _ _ ?_);show Ox (uh S f rfl O λh2 M o2=>?_)
   show OD (OD (h _ _ _ (B.trans M) o2 #[f,_,_,_,rfl,O]))
  show Ox (i _ ?_);split
  ·show Ox ?_;rw[hashByValue_scannable 8 rfl];show OD ?_;show fin _ (λb _ _ u=>i b u) _ N
  next n=>
   show Ox (OD ?_);have e:({H with plain:=false}:Pz)=H:=by
    obtain⟨_,_,_,_,_,_,p⟩:=H;cases p with
    |false=>rfl
    |true=>show absurd rfl n
   simp -iota only[↓reduceIte];show fin _ (λb _ _ u=>i b u) _ (e▸N)
end
inductive W where
 |non|bl (b:O6)|int (i:O8)|str (x:OM)|tup (xs:Ow W)|ref (i:OH)
inductive T where
 |int (i:O8)|str (x:OM)|tup (xs:Ow T)
mutual
def T.beq:T->T->O6
 |.int i,.int j=>i==j
 |.str x,.str y=>x==y
 |.tup xs,.tup ys=>T.beqs xs ys
 |_,_=>false
def T.beqs:Ow T->Ow T->O6
 |[],[]=>true
 |x::xs,y::ys=>T.beq x y&&T.beqs xs ys
 |_,_=>false
end
mutual
theorem T.beq_iff:∀x y:T,T.beq x y=true↔x=y
 |.int i,.int j=>#[λh=>congrArg T.int (eq_of_beq h),λh=>by cases h;show PB i]
 |.str x,.str y=>#[λh=>congrArg T.str (eq_of_beq h),λh=>by cases h;show PB x]
 |.tup xs,.tup ys=>#[λh=>congrArg T.tup ((T.beqs_iff xs ys).mp h),λh=>by cases h;show(T.beqs_iff xs xs).mpr rfl]
 |.int _,.str _|.int _,.tup _|.str _,.int _|.str _,.tup _|.tup _,.int _|.tup _,.str _=>#[λh=>Xr h,λh=>T.noConfusion h]
theorem T.beqs_iff:∀xs ys:Ow T,T.beqs xs ys=true↔xs=ys
 |[],[]=>#[λ_=>rfl,λ_=>rfl]
 |x::xs,y::ys=>by
  show(T.beq x y&&T.beqs xs ys)=true↔_;rw[OE,T.beq_iff x y,T.beqs_iff xs ys,XV]
 |[],_::_|_::_,[]=>#[λh=>Xr h,λh=>nomatch h]
end
noncomputable instance:R7 T:=λx y=>decidable_of_iff (T.beq x y=true) (T.beq_iff x y)
mutual
def T.w:T->W
 |.int i=>.int i
 |.str x=>.str x
 |.tup xs=>.tup (T.ws xs)
def T.ws:Ow T->Ow W
 |[]=>[]
 |x::xs=>T.w x::T.ws xs
end
mutual
def W.t:W->Oz T
 |.int i=>ba (.int i)
 |.str x=>ba (.str x)
 |.tup xs=>(W.ts xs).map .tup
 |_=>gV
def W.ts:Ow W->Oz (Ow T)
 |[]=>ba []
 |x::xs=>match W.t x,W.ts xs with
  |some y,ba ys=>ba (y::ys)
  |_,_=>gV
end
mutual
theorem W.t_w:∀{w:W}{k:T},W.t w=ba k->k.w=w
 |.int i,_,h=>by cases h;rfl
 |.str x,_,h=>by cases h;rfl
 |.tup xs,_,h=>by
  obtain⟨ks,h1,h2⟩:=OG.mp (show(W.ts xs).map T.tup=ba _ from h)
  subst h2;show congrArg W.tup (W.ts_w h1)
 |.non,_,h|.bl _,_,h|.ref _,_,h=>by cases h
theorem W.ts_w:∀{ws:Ow W}{ks:Ow T},W.ts ws=ba ks->T.ws ks=ws
 |[],_,h=>by cases h;rfl
 |w::ws,_,h=>by
  have h:(match W.t w,W.ts ws with
  |some y,ba ys=>ba (y::ys)
  |_,_=>gV)=ba _:=h
  cases h1:W.t w with
  |none=>rw[h1]at h;cases h
  |some y=>
   cases h2:W.ts ws with
   |none=>rw[h1,h2]at h;cases h
   |some ys=>
    rw[h1,h2]at h;cases h;change T.w y::T.ws ys=_;rw[W.t_w h1,W.ts_w h2]
end
mutual
theorem T.w_t:∀k:T,W.t k.w=ba k
 |.int _=>rfl
 |.str _=>rfl
 |.tup xs=>by show(W.ts (T.ws xs)).map T.tup=_;rw[T.ws_ts xs];rfl
theorem T.ws_ts:∀ks:Ow T,W.ts (T.ws ks)=ba ks
 |[]=>rfl
 |x::xs=>by
  show(match W.t x.w,W.ts (T.ws xs)with
  |some y,ba ys=>ba (y::ys)
  |_,_=>gV)=_
  rw[T.w_t x,T.ws_ts xs]
end
mutual
def T.depth:T->OH
 |.tup xs=>T.depths xs+1
 |_=>0
def T.depths:Ow T->OH
 |[]=>0
 |x::xs=>max (T.depth x) (T.depths xs)
end
mutual
def T.draws:T->OH
 |.tup xs=>T.drawss xs+1
 |_=>1
def T.drawss:Ow T->OH
 |[]=>0
 |x::xs=>T.draws x+T.drawss xs
end
mutual
def dE (wd:Pk):T->O8
 |.int i=>hashInt i
 |.str x=>hashStr wd x
 |.tup xs=>reduceHash (Tf (gU wd xs))
def gU (wd:Pk):Ow T->Ow O8
 |[]=>[]
 |x::xs=>dE wd x::gU wd xs
end
abbrev T.isTup:T->O6
 |.tup _=>true
 |_=>false
abbrev aD:OH:=6
inductive O where
 |lst (xs:Ow W)
 |fro (xs:Ow W)
 |stt (n:OH)
 |rng (lo hi:O8)
 |dic (U:Ow (T×W))
 |frd (U:Ow (T×W))
 |exc (cn:OM) (C:OF) (gs:Ow OM) (ws:Ow W)
noncomputable abbrev aa:=Ow O
noncomputable abbrev Fm:=Ow (Oz W)
section
variable (K:OI) (A:Ow OF) (H:Hp)
mutual
inductive Rel:W->V->Prop
 |non:Rel .non .non
 |bl {b:O6}:Rel (.bl b) (.bl b)
 |int {i:O8}:Rel (.int i) (.int i)
 |str {x:OM}:Rel (.str x) (.str x)
 |tup {ws:Ow W}{a:OF}{vs:Ow V}:SqT K H a vs->RelL ws vs->Rel (.tup ws) (.ref a)
 |ref {i:OH}{a:OF}:A[i]?=ba a->Rel (.ref i) (.ref a)
inductive RelL:Ow W->Ow V->Prop
 |nil:RelL [] []
 |cons {w:W}{v:V}{ws:Ow W}{vs:Ow V}:Rel w v->RelL ws vs->RelL (w::ws) (v::vs)
end
end
section
variable{K:OI}{A A' A'':Ow OF}{H H' H'':Hp}
structure Ext (K:OI)(A:Ow OF)(H:Hp)(A':Ow OF)(H':Hp):Prop where
 ad:∀(i:OH) (a:OF),A[i]?=ba a->A'[i]?=ba a
 tp:∀(a:OF) (vs:Ow V),SqT K H a vs->SqT K H' a vs
 fz:∀(a:OF) (o:Qq) (u:HO),H a=ba (.frz o u)->H' a=ba (.frz o u)
def Ext.refl:Ext K A H A H:=#[λ_ _ h=>h,λ_ _ h=>h,λ_ _ _ h=>h]
def Ext.trans (e:Ext K A H A' H')(f:Ext K A' H' A'' H''):Ext K A H A'' H'':=#[λi a h=>f.ad i a (e.ad i a h),λa vs h=>f.tp a vs (e.tp a vs h),λa o u h=>f.fz a o u (e.fz a o u h)]
mutual
theorem Rel.mono (e:Ext K A H A' H'):∀{w:W}{v:V},Rel K A H w v->Rel K A' H' w v
 |_,_,.non=>.non
 |_,_,.bl=>.bl
 |_,_,.int=>.int
 |_,_,.str=>.str
 |_,_,.tup h r=>.tup (e.tp _ _ h) (RelL.mono e r)
 |_,_,.ref h=>.ref (e.ad _ _ h)
theorem RelL.mono (e:Ext K A H A' H'):∀{ws:Ow W}{vs:Ow V},RelL K A H ws vs->RelL K A' H' ws vs
 |_,_,.nil=>.nil
 |_,_,.cons r t=>.cons (Rel.mono e r) (RelL.mono e t)
end
def RelL.length:∀{ws:Ow W}{vs:Ow V},RelL K A H ws vs->↥ws=↥vs
 |_,_,.nil=>rfl
 |_,_,.cons _ t=>by simp[RelL.length t]
def RelL.get:∀{ws:Ow W}{vs:Ow V}{i:OH}{w:W},RelL K A H ws vs->ws[i]?=ba w->∃v,vs[i]?=ba v/\Rel K A H w v:=by
 intro ws
 induction ws with
 |nil=>intro vs i w r e;cases e
 |cons x ws ih=>
  intro vs i w r e;cases r with
  |cons r t=>
   cases i with
   |zero=>cases e;show#[_,rfl,r]
   |succ i=>obtain⟨u,a,b⟩:=ih (i:=i) t e;show#[u,a,b]
def RelL.append:∀{xs a:Ow W}{us ws:Ow V},RelL K A H xs us->RelL K A H a ws->RelL K A H (xs++a) (us++ws):=by
 intro xs
 induction xs with
 |nil=>intro a us ws r s;cases r;show s
 |cons x xs ih=>
  intro a us ws r s;cases r with
  |cons r t=>show .cons r (ih t s)
def RelL.take:∀{xs:Ow W}{us:Ow V} n,RelL K A H xs us->RelL K A H (xs.take n) (us.take n):=by
 intro xs
 induction xs with
 |nil=>intro us n r;cases r;cases n<;>show .nil
 |cons x xs ih=>
  intro us n r;cases r with
  |cons r t=>
   cases n with
   |zero=>show .nil
   |succ n=>show .cons r (ih n t)
def RelL.drop:∀{xs:Ow W}{us:Ow V} n,RelL K A H xs us->RelL K A H (xs.drop n) (us.drop n):=by
 intro xs
 induction xs with
 |nil=>intro us n r;cases r;cases n<;>show .nil
 |cons x xs ih=>
  intro us n r;cases n with
  |zero=>show r
  |succ n=>
   cases r with
   |cons r t=>show ih n t
def RelL.set (r:Rel K A H x u):∀{xs:Ow W}{us:Ow V} i,RelL K A H xs us->RelL K A H (xs.set i x) (us.set i u):=by
 intro xs
 induction xs with
 |nil=>intro us i q;cases q;show .nil
 |cons y xs ih=>
  intro us i q;cases q with
  |cons q t=>
   cases i with
   |zero=>show .cons r t
   |succ i=>show .cons q (ih i t)
def RelL.rep (h:RelL K A H xs us):∀k:OH,RelL K A H (PN k xs).flatten (PN k us).flatten
 |0=>.nil
 |k+1=>by
  show RelL.append h (RelL.rep h k)
def RelL.eraseIdx:∀{xs:Ow W}{us:Ow V} i,RelL K A H xs us->RelL K A H (xs.eraseIdx i) (us.eraseIdx i)
 |_,_,_,.nil=>.nil
 |_,_,0,.cons _ t=>t
 |_,_,i+1,.cons r t=>.cons r (RelL.eraseIdx i t)
abbrev FroL (K:OI)(H:Hp)(a:OF)(vs:Ow V):Prop:=
 (∃o,H a=ba (.frz o (.lst vs)))\/
  ∃(o:Qq) (its:Pc Oy) (n:OH),K.lookup a=ba o/\o.cls=.type "list"/\o.dict=gV/\o.data=.seq its n/\⇑its<=sizeLine/\Vals vs its.toList
def FroL.sq (h:FroL K H a vs):SqL K H a vs:=by
 rcases h with⟨o,h⟩|h
 ·show .inl (.inr #[o,h])
 ·show .inr h
abbrev Hc (a:Pk)(x:T×OF×Oy):R5:=#[dE a x.1,.ref x.2.1,x.2.2]
abbrev DicAt (c:Pk)(a:OF)(xs:Ow (T×OF×Oy))(h:Pr):Prop:=
 ↥xs<=sizeLine/\(a==sysModules)=false/\(xs.map (·.1)).Nodup/\∃o es b,h.get? a=ba o/\o.ExactDict/\o.data=.dict es b/\es.toList=xs.map (Hc c)
abbrev sf (b:Pk)(a:OF)(xs:Ow (T×OF×Oy)):HO:=.ext (DicAt b a xs)
abbrev KRel (K:OI)(A:Ow OF)(H:Hp):Ow (T×W)->Ow (T×OF×Oy)->Prop:=
 VX λ(p:T×W) (q:T×OF×Oy)=>p.1=q.1/\p.1.isTup=true/\p.1.depth<=aD/\Rel K A H p.1.w (.ref q.2.1)/\∃v,Rel K A H p.2 v/\RelV v q.2.2
def KRel.mono (e:Ext K A H A' H')(h:KRel K A H U xs):KRel K A' H' U xs:=
 Paired.mapP h λ_ _ #[a,h2,h3,h4,v,h5,h6]=>#[a,h2,h3,h4.mono e,v,h5.mono e,h6]
variable{wd:Pk}
abbrev M7 (n:OH)(o:Qq):Prop:=o.ExactSet/\∃es a t,o.data=.set es a t/\⇑es=n/\n<=sizeLine/\t.fits n=true
abbrev ObjRel (wd:Pk)(K:OI)(A:Ow OF)(H:Hp)(a:OF):O->Prop
 |.lst ws=>∃vs,H a=ba (.lst vs)/\RelL K A H ws vs
 |.fro ws=>∃vs,FroL K H a vs/\RelL K A H ws vs
 |.stt n=>∃o φ,H a=ba (.frz o (.ext φ))/\M7 n o
 |.rng lo hi=>H a=ba (.rng lo hi)
 |.dic U=>∃xs,H a=ba (sf wd a xs)/\KRel K A H U xs
 |.frd U=>∃o xs,H a=ba (.frz o (sf wd a xs))/\KRel K A H U xs
 |.exc _ C c ws=>∃o dd,H a=ba (.frz o (.ext (Xc.Ex a C dd)))/\((dd=gV/\c=[])\/∃b od vs,dd=ba b/\H b=ba (.frz od (.ext (Xc.Dx b (c.zip vs))))/\RelL K A H ws vs)
abbrev O.mut:O->O6
 |.fro _=>false
 |.stt _=>false
 |.rng _ _=>false
 |.frd _=>false
 |.exc _ _ _ _=>false
 |_=>true
structure StoreOk (wd:Pk)(K:OI)(A:Ow OF)(H:Hp)(S:aa):Prop where
 len:↥A=↥S
 nd:∀(i j:OH) (a:OF) (o u:O),S[i]?=ba o->o.mut=true->S[j]?=ba u->u.mut=true->A[i]?=ba a->A[j]?=ba a->i=j
 obj:∀(i:OH) (o:O) (a:OF),S[i]?=ba o->A[i]?=ba a->ObjRel wd K A H a o
abbrev EnvRel (K:OI)(A:Ow OF)(H:Hp)(Z:Fm)(Y:L2.St):Prop:=
 ↥Z=↥Y/\∀(i:OH) (w:W),Z[i]?=ba (ba w)->∃v,Y[i]?=ba (ba v)/\Rel K A H w v
def EnvRel.mono (e:Ext K A H A' H')(h:EnvRel K A H Z Y):EnvRel K A' H' Z Y:=
 #[h.1,λi w q=>let ⟨v,a,b⟩:=h.2 i w q;#[v,a,b.mono e]]
def EnvRel.set (h:EnvRel K A H Z Y)(r:Rel K A H w v)(i:OH):EnvRel K A H (Z.set i (ba w)) (Y.set i (ba v)):=by
 show#[by simp[h.1],λj a q=>?_]
 rw[Qv]at q ⊢
 by_cases e:i=j
 ·subst e;rw[OZ rfl]at q ⊢
  by_cases hl:i<↥Z
  ·rw[OZ hl]at q;rw[OZ (h.1▸hl)];cases q;show#[v,rfl,r]
  ·rw[Pd hl]at q;cases q
 ·rw[Pd e]at q ⊢;show h.2 j a q
abbrev Wr (H:Hp)(p:OF):Prop:=H p=gV\/(∃xs,H p=ba (.lst xs))\/(∃φ,H p=ba (.ext φ))\/∃ks,H p=ba (.dK ks)
def Wr.lst (h:H p=ba (.lst xs)):Wr H p:=.inr (.inl #[xs,h])
def Wr.ext (h:H p=ba (.ext φ)):Wr H p:=.inr (.inr (.inl #[φ,h]))
def Wr.ne_tup (b:Wr H p)(h:H a=ba (.tup xs)):a≠p:=by
 intro e;subst e
 rcases b with q|⟨xs,q⟩|⟨φ,q⟩|⟨ks,q⟩<;>(rw[h]at q;cases q)
def Wr.ne_frz (b:Wr H p)(h:H a=ba (.frz o u)):a≠p:=by
 intro e;subst e
 rcases b with q|⟨xs,q⟩|⟨φ,q⟩|⟨ks,q⟩<;>(rw[h]at q;cases q)
def Wr.ne_rng {lo :O8}(b:Wr H p)(h:H a=ba (.rng lo hi)):a≠p:=by
 intro e;subst e
 rcases b with q|⟨xs,q⟩|⟨φ,q⟩|⟨ks,q⟩<;>(rw[h]at q;cases q)
def uj (b:Wr H p)(h:SqT K H a vs):SqT K (aW H p o) a vs:=by
 rcases h with(h|⟨o',h⟩)|h
 ·show .inl (.inl (by rw[am (b.ne_tup h)];show h))
 ·show .inl (.inr #[o',by rw[am (b.ne_frz h)];show h])
 ·show .inr h
def yG (b:Wr H p)(h:FroL K H a vs):FroL K (aW H p o) a vs:=by
 rcases h with⟨o',h⟩|h
 ·show .inl #[o',by rw[am (b.ne_frz h)];show h]
 ·show .inr h
def bx (a:Wr H p):Ext K A H A (aW H p o):=#[λ_ _ h=>h,λ_ _ h=>uj a h,λ_ _ _ h=>by rw[am (a.ne_frz h)];show h]
def dY (b:H p=gV):Ext K A H (A++[p]) (aW H p o):=
 #[λi a h=>by rw[PH (OS.mp h).1];show h,λ_ _ h=>uj (.inl b) h,λ_ _ _ h=>by rw[am (Wr.ne_frz (.inl b) h)];show h]
def ObjRel.keep (c:Wr H p)(d:b.mut=true->a≠p)(e:Ext K A H A' (aW H p o))(h:ObjRel wd K A H a b):ObjRel wd K A' (aW H p o) a b:=by
 cases b with
 |lst ws=>
  obtain⟨vs,q,r⟩:=h;show#[vs,by rw[am (d rfl)];show q,r.mono e]
 |fro ws=>
  obtain⟨vs,q,r⟩:=h;show#[vs,yG c q,r.mono e]
 |stt ks=>
  obtain⟨f,φ,q,r⟩:=h;show#[f,φ,by rw[am (c.ne_frz q)];show q,r]
 |rng lo hi=>
  have h:H a=ba (.rng lo hi):=h;change aW H p o a=ba (.rng lo hi);rw[am (c.ne_rng h)];show h
 |dic U=>
  obtain⟨xs,q,r⟩:=h;show#[xs,by rw[am (d rfl)];show q,r.mono e]
 |frd U=>
  obtain⟨f,xs,q,r⟩:=h;show#[f,xs,by rw[am (c.ne_frz q)];show q,r.mono e]
 |exc cn C l ws=>
  obtain⟨f,dd,q,r⟩:=h;show#[f,dd,by rw[am (c.ne_frz q)];show q,?_]
  rcases r with r|⟨i,od,vs,j,g,k⟩
  ·show .inl r
  ·show .inr #[i,od,vs,j,by rw[am (c.ne_frz g)];show g,k.mono e]
def ObjRel.there (h:ObjRel wd K A H a b)(c:b.mut=true):H a≠gV:=by
 cases b with
 |lst ws=>obtain⟨vs,q,r⟩:=h;rw[q];intro z;cases z
 |fro ws=>cases c
 |stt ws=>cases c
 |rng lo hi=>cases c
 |dic U=>obtain⟨vs,q,r⟩:=h;rw[q];intro z;cases z
 |frd ws=>cases c
 |exc cn C d ws=>cases c
def ObjRel.wr (h:ObjRel wd K A H a b)(c:b.mut=true):Wr H a:=by
 cases b with
 |lst ws=>obtain⟨vs,q,r⟩:=h;show .lst q
 |fro ws=>cases c
 |stt ws=>cases c
 |rng lo hi=>cases c
 |dic U=>obtain⟨vs,q,r⟩:=h;show .ext q
 |frd ws=>cases c
 |exc cn C d ws=>cases c
def StoreOk.lay (h:StoreOk wd K A H S)(c:H p=gV):StoreOk wd K A (aW H p o) S:=
 #[h.len,h.nd,λi b a e d=>(h.obj i b a e d).keep (.inl c) (λf z=>(h.obj i b a e d).there f (z▸c)) (bx (.inl c))]
def StoreOk.pushO (h:StoreOk wd K A H S)(g:H p=gV)(r:ObjRel wd K (A++[p]) (aW H p u) p n):StoreOk wd K (A++[p]) (aW H p u) (S++[n]):=by
 have ex:Ext K A H (A++[p]) (aW H p u):=dY g;have b:∀{i:OH}{o:O}{a:OF},(S++[n])[i]?=ba o->(A++[p])[i]?=ba a->i<↥S->S[i]?=ba o/\A[i]?=ba a:=λ{i o a} e c hl=>by
  rw[PH hl]at e;rw[PH (h.len▸hl)]at c;show#[e,c]
 have new:∀{i:OH}{o:O}{a:OF},(S++[n])[i]?=ba o->(A++[p])[i]?=ba a->¬ i<↥S->i=↥S/\o=n/\a=p:=λ{i o a} e c hl=>by
  have hi:i=↥S:=by
   have:=(OS.mp e).1;simp at this;omega
  subst hi;simp at e;rw[<- h.len]at c;simp at c;show#[rfl,e.symm,c.symm]
 show#[by simp[h.len],λi j a o u m w q x k l=>?_,λi o a e c=>?_]
 ·by_cases hi:i<↥S<;>by_cases s:j<↥S
  ·obtain⟨d,f⟩:=b m k hi;obtain⟨t,v⟩:=b q l s;show h.nd i j a o u d w t x f v
  ·obtain⟨d,f⟩:=b m k hi;obtain⟨_,_,z⟩:=new q l s;subst z;show absurd g ((h.obj i o a d f).there w)
  ·obtain⟨t,v⟩:=b q l s;obtain⟨_,_,z⟩:=new m k hi;subst z;show absurd g ((h.obj j u a t v).there x)
  ·rw[(new m k hi).1,(new q l s).1]
 ·by_cases hi:i<↥S
  ·obtain⟨d,f⟩:=b e c hi;show(h.obj i o a d f).keep (.inl g) (λy z=>(h.obj i o a d f).there y (z▸g)) ex
  ·obtain⟨_,rfl,rfl⟩:=new e c hi;show r
def StoreOk.push (h:StoreOk wd K A H S)(a:H p=gV)(r:RelL K A H ws vs):StoreOk wd K (A++[p]) (aW H p (.lst vs)) (S++[.lst ws]):=
 h.pushO a #[vs,au,r.mono (dY a)]
def StoreOk.writeO (h:StoreOk wd K A H S)(e:S[i]?=ba l)(m0:l.mut=true)(d:A[i]?=ba p)(r:ObjRel wd K A (aW H p u) p n) :
  StoreOk wd K A (aW H p u) (S.set i n)/\Ext K A H A (aW H p u):=by
 have hw:Wr H p:=(h.obj i _ p e d).wr m0;have ex:Ext K A H A (aW H p u):=bx hw;have hl:i<↥S:=(OS.mp e).1;show#[#[by simp[h.len],λj k a o u b w t x c s=>?_,λj o a b c=>?_],ex]
 ·have get:∀{j:OH}{o:O},(S.set i n)[j]?=ba o->o.mut=true->∃o',S[j]?=ba o'/\o'.mut=true:=λ{j o} q m=>by
   rw[Qv]at q
   by_cases z:i=j
   ·subst z;show#[_,e,m0]
   ·rw[Pd z]at q;show#[o,q,m]
  obtain⟨o',B,f⟩:=get b w;obtain⟨y,C,g⟩:=get t x;show h.nd j k a o' y B f C g c s
 ·rw[Qv]at b
  by_cases z:i=j
  ·subst z;rw[OZ rfl,OZ hl]at b;cases b;rw[d]at c;cases c
   show r
  ·rw[Pd z]at b;show(h.obj j o a b c).keep hw (λv q=>z (h.nd i j p _ o e m0 b v d (q▸c))) ex
def StoreOk.write (h:StoreOk wd K A H S)(e:S[i]?=ba (.lst a))(b:A[i]?=ba p)(r:RelL K A H ws us) :
  StoreOk wd K A (aW H p (.lst us)) (S.set i (.lst ws))/\Ext K A H A (aW H p (.lst us)):=
 h.writeO e rfl b #[us,au,r.mono (bx ((h.obj i _ p e b).wr rfl))]
end
abbrev gy (S:aa)(i:OH):Oz (Ow W):=match S[i]? with
 |some (.lst xs)=>ba xs
 |some (.fro xs)=>ba xs
 |_=>gV
abbrev pE (S:aa)(i:OH):Oz (Ow W):=match S[i]? with
 |some (.lst xs)=>ba xs
 |_=>gV
abbrev nS (S:aa)(xs:Ow W):Oz (W×aa):=if ↥xs<=sizeLine then ba (.ref ↥S,S++[.lst xs])else gV
abbrev sg (S:aa)(xs:Ow W):Oz (W×aa):=if ↥xs<=sizeLine then ba (.tup xs,S)else gV
abbrev CO (j:O8):O6:=decide (0<j)&&decide (j<1073741824)
abbrev CP (i j:O8):O6:=(decide (-(2^64)<i)&&decide (i<2^64))||(decide (-(2^64)<j)&&decide (j<2^64))
abbrev Ks (i j:O8):O6:=decide (0<=j)&&decide (j<=1000000)&&decide (i.natAbs<2^64)
inductive BOp where|add|sub|mul|fdiv|mod|pow
 deriving R7
abbrev CQ (c:O8->O8->O6)(f:O8->O8->O8)(x y:W)(S:aa):Oz (W×aa):=match x,y with
 |.int i,.int j=>if c i j then ba (.int (f i j),S)else gV
 |_,_=>gV
abbrev Hd (x y:W)(S:aa):Oz (W×aa):=match x with
 |.int i=>match y with
  |.int j=>ba (.int (i+j),S)
  |_=>gV
 |.str x=>match y with
  |.str y=>if ↥x+↥y<=sizeLine then ba (.str (x++y),S)else gV
  |_=>gV
 |.tup xs=>match y with
  |.tup a=>sg S (xs++a)
  |_=>gV
 |.ref i=>match y with
  |.ref j=>match pE S i,pE S j with
   |some xs,ba a=>nS S (xs++a)
   |_,_=>gV
  |_=>gV
 |_=>gV
abbrev CS (x y:W)(S:aa):Oz (W×aa):=match x with
 |.str x=>match y with
  |.int k=>if k<2^24/\-(2^24)<=k/\↥x*k.toNat<=sizeLine then ba (.str (Zqa x k),S)else gV
  |_=>gV
 |.ref i=>match y with
  |.int k=>match pE S i with
   |some xs=>if k<2^24/\-(2^24)<=k/\↥xs*k.toNat<=sizeLine then nS S (PN k.toNat xs).flatten else gV
   |none=>gV
  |_=>gV
 |x=>CQ CP (· * ·) x y S
abbrev jm:BOp->W->W->aa->Oz (W×aa)
 |.add,x,y,S=>Hd x y S
 |.sub,x,y,S=>CQ (λ_ _=>true) (· - ·) x y S
 |.mul,x,y,S=>CS x y S
 |.fdiv,x,y,S=>CQ (λ_ j=>CO j) (· / ·) x y S
 |.mod,x,y,S=>CQ (λ_ j=>decide (0<j)) (· % ·) x y S
 |.pow,x,y,S=>CQ Ks (λi j=>i^j.toNat) x y S
abbrev BOp.py:BOp->WP
 |.add=>.Add|.sub=>.Sub|.mul=>.Mult|.fdiv=>.FloorDiv|.mod=>.Mod|.pow=>.Pow
section
variable (X:Cx)
noncomputable abbrev wk(X:Cx):=StoreOk X.w X.K
inductive PostE (J:Ow (OF×Qq))(Y:L2.St)(A:Ow OF)(H:Hp)(S':aa)(w:W)(u:Oy)(s':OB):Prop
 |mk (v:V) (H':Hp) (A':Ow OF) (i:Inv X J Y H' s') (r:RelV v u) (e:Ext X.K A H A' H') (so:wk X A' H' S') (rl:Rel X.K A' H' w v):PostE J Y A H S' w u s'
noncomputable abbrev FE:=Fm->aa->Oz (W×aa)
abbrev LOp (f:Oy->Oy->Yu Oy)(g:W->W->aa->Oz (W×aa)):Prop:=
 ∀(J:Ow (OF×Qq)) (s:OB) (Y:L2.St) (H:Hp) (A:Ow OF) (S:aa) (x y:W) (a b:V) (u v:Oy) (w:W) (S':aa),Inv X J Y H s->wk X A H S->
  Rel X.K A H x a->RelV a u->Rel X.K A H y b->RelV b v->g x y S=ba (w,S')->wi X (f u v) (PostE X J Y A H S' w) X.xe s
end
variable{X:Cx}
def kW (h:pE S i=ba xs):S[i]?=ba (.lst xs):=by
 unfold pE at h;split at h
 ·cases h;assumption
 ·cases h
def eN {A:Ow OF}(c:wk X A H S)(h:pE S i=ba xs)(b:A[i]?=ba a):∃vs,H a=ba (.lst vs)/\RelL X.K A H xs vs:=
 c.obj i _ a (kW h) b
def bq {A:Ow OF}(c:wk X A H S)(h:gy S i=ba xs)(b:A[i]?=ba a):∃vs,SqL X.K H a vs/\RelL X.K A H xs vs:=by
 unfold gy at h;split at h
 ·cases h;obtain⟨vs,q,r⟩:=c.obj i _ a (by assumption) b
  show#[vs,.of q,r]
 ·cases h;obtain⟨vs,q,r⟩:=c.obj i _ a (by assumption) b
  show#[vs,q.sq,r]
 ·cases h
def ku (h:nS S xs=ba (w,S')):↥xs<=sizeLine/\w=.ref ↥S/\S'=S++[.lst xs]:=by
 unfold nS at h;split at h
 ·cases h;show#[by assumption,rfl,rfl]
 ·cases h
def uk (h:sg S xs=ba (w,S')):↥xs<=sizeLine/\w=.tup xs/\S'=S:=by
 unfold sg at h;split at h
 ·cases h;show#[by assumption,rfl,rfl]
 ·cases h
def CT {A:Ow OF}{Q:VK}(d:wk X A H S)(r:RelL X.K A H ws vs)(c:H p=gV)
  (q:∀v a b,Ext X.K A H b a->wk X b a (S++[.lst ws])->Rel X.K b a (.ref ↥S) v->Q v a):Q (.ref p) (aW H p (.lst vs)):=
 q _ _ (A++[p]) (dY c) (d.push c r) (.ref (by rw[<- d.len];simp))
def CU {A:Ow OF}{Q:VK}(d:wk X A H S)(r:RelL X.K A H ws vs)(c:H p=gV)
  (q:∀v a b,Ext X.K A H b a->wk X b a S->Rel X.K b a (.tup ws) v->Q v a):Q (.ref p) (aW H p (.tup vs)):=
 q _ _ A (bx (.inl c)) (d.lay c) (.tup (.of au) (r.mono (bx (.inl c))))
abbrev Kt (K:OI):R2:=λx y H Q=>∃a b xs c,x=.ref a/\y=.ref b/\SqT K H a xs/\SqT K H b c/\↥xs+↥c<=sizeLine/\
 (xs=[]->Q (.ref b) H)/\(c=[]->Q (.ref a) H)/\(∀p,H p=gV->Q (.ref p) (aW H p (.tup (xs++c))))
def CV:OpR X (binaryOp .Add) (Kt X.K):=by
 intro J s Y H x y v u Q I E G h;obtain⟨a,b,xs,N,rfl,rfl,t,w,p,B,C,D⟩:=h;cases E;cases G;obtain⟨its,d,p1,_⟩:=I.tuple t;obtain⟨r,k,p2,_⟩:=I.tuple w
 by_cases j:xs=[]
 ·obtain⟨⟨cls,dd,data,L⟩,o,hc,n,hd⟩:=id p1;obtain⟨⟨m,f,e,l⟩,c,g,A,i⟩:=id p2;subst hc hd g i;show WU #[_,o,rfl] #[_,c,rfl] Vo Wu TQ TK (Tl _ _)
   (tuple_addW0 a b _ _ n A dd f L l (by simp[d.nil_iff.mpr j])) #[o,c,#[.ref b,H,I,rfl,B j]]
 ·show HT.Cr p1 p2 (λz=>j (d.nil_iff.mp z)) (λz=>#[.ref a,H,I,rfl,C (k.nil_iff.mp z)]) (λz=>?_) (by rw[<- ↥d,<- ↥k];show p)
  show#[.ref _,_,I.laid   (λb M q=>OA _ q) (OR _) ?_,rfl,D _ (I.hok.fresh (OR _))]
  show#[#[by rw[OL];show p,NoD.new _ _ _],_,d.append k,YO _ _]
def RelL.nil_iff {K:OI}{A:Ow OF}(r:RelL K A H ws vs):vs=[]↔ws=[]:=by
 cases r<;>simp
def sh:OpR X (binaryOp .Mult) (λx y H Q=>∃z k,x=.str z/\y=.int k/\MulOk z k/\Q (.str (Zqa z k)) H):=by
 intro J s Y H x y v u Q I a b h;obtain⟨z,k,rfl,rfl,ok,q⟩:=h;obtain⟨t,rfl⟩:=a;obtain⟨t',rfl⟩:=b;show SB.mul ok λt2 k2=>#[.str _,H,I.tok _,#[_,rfl],q]
def yH (g:k<16777216)(h : -16777216<=k)(d:↥x*k.toNat<=sizeLine):MulOk x k:=by
 have hs:=Qc;rw[hs]at d;show#[?_,λa b=>?_,λ_ _=>?_]
 ·rw[QL];show#[Pw ∅,Pw ∅]
 ·have hk:0<k:=∅
  have e:↥x*k=((↥x*k.toNat:OH)):=by
   rw[Int.natCast_mul,Wn ∅]
  intro c;have f:=(Int.ediv_lt_iff_lt_mul hk).mp c;rw[e]at f;generalize ↥x*k.toNat=z at d f;omega
 ·unfold Yv;rw[hs];show Pw (by show Sd.mpr ‹_›)
inductive EndV (wd:Pk)(K:OI)(A:Ow OF)(H:Hp)(S':aa)(w:W)(v:V)(H':Hp):Prop
 |mk (A':Ow OF) (e:Ext K A H A' H') (so:StoreOk wd K A' H' S') (r:Rel K A' H' w v):EndV wd K A H S' w v H'
noncomputable abbrev wv(X:Cx):=EndV X.w X.K
def EndV.here {A:Ow OF}(a:wk X A H S)(r:Rel X.K A H w v):wv X A H S w v H:=#[A,.refl,a,r]
def EndV.lst {A:Ow OF}(f:wk X A H S)(r:RelL X.K A H ws vs)(e:H p=gV):wv X A H (S++[.lst ws]) (.ref ↥S) (.ref p) (aW H p (.lst vs)):=
 CT  f r e λv g d a b c=>#[d,a,b,c]
def EndV.tup {A:Ow OF}{H:Hp}{S:aa}{ws:Ow W}{vs:Ow V}{p:OF}(f:wk X A H S)(r:RelL X.K A H ws vs)(e:H p=gV):wv X A H S (.tup ws) (.ref p) (aW H p (.tup vs)):=
 CU  f r e λv g d a b c=>#[d,a,b,c]
def EP.post {A:Ow OF}(h:EP X J Y (wv X A H S' w) u a):PostE X J Y A H S' w u a:=by
 obtain⟨v,c,d,r,b,x,y,z⟩:=h;show#[v,c,b,d,r,x,y,z]
def OpR.go (h:OpR X f r){Y:L2.St}{A:Ow OF}(I:Inv X J Y H s)(c:RelV a u)(d:RelV b v)
  (q:r a b H (wv X A H S' w)):wi X (f u v) (PostE X J Y A H S' w) X.xe s:=a9 (h _ s Y H a b u v _ I c d q) λ_ _=>EP.post
def CW:LOp X (binaryOp .Add) (jm .add):=by
 intro J s Y H A S x y a b u v w S' I c q i k j e;cases q with
 |int=>cases k with
  |int=>cases e;show OpR.go GF I i j #[_,_,rfl,rfl,.here c .int]
  |_=>cases e
 |str=>cases k with
  |str=>
   dsimp only[jm,Hd]at e;split at e
   ·cases e;show OpR.go rV I i j #[_,_,rfl,rfl,by assumption,.here c .str]
   ·cases e
  |_=>cases e
 |tup g d=>cases k with
  |tup h f=>
   obtain⟨hl,rfl,rfl⟩:=uk e;rw[OL,↥d,↥f]at hl;show OpR.go CV I i j #[_,_,_,_,rfl,rfl,g,h,hl,λz=>?_,λz=>?_,λp l=>.tup c (d.append f) l]
   ·have m:=d.nil_iff.mp z;subst m;show .here c (.tup h f)
   ·have m:=f.nil_iff.mp z;subst m;rw[Ql];show .here c (.tup g d)
  |_=>cases e
 |ref g=>cases k with
  |ref h=>
   dsimp only[jm,Hd]at e;split at e
   ·obtain⟨hl,rfl,rfl⟩:=ku e;obtain⟨vs,n,d⟩:=eN c (by assumption) g
    obtain⟨us,o,f⟩:=eN c (by assumption) h
    rw[OL,↥d,↥f]at hl;show OpR.go G2 I i j #[_,_,_,_,rfl,rfl,n,o,hl,λp l=>.lst c (d.append f) l]
   ·cases e
  |_=>cases e
 |_=>cases e
def pL (h:OpR X f r)(d:∀i j H Q,c i j=true->Q (.int (g i j)) H->r (.int i) (.int j) H Q):LOp X f (CQ c g):=by
 intro J s Y H A S x y a b u v w S' I o m k n l e;cases m with
 |int=>cases n with
  |int=>
   unfold CQ at e;dsimp only at e;split at e
   ·cases e;show OpR.go h I k l (d _ _ _ _ (by assumption) (.here o .int))
   ·cases e
  |_=>cases e
 |_=>cases e
def CY:LOp X (binaryOp .Sub) (jm .sub):=pL GH λ_ _ _ _ _ q=>#[_,_,rfl,rfl,q]
def CZ (h:CP i j=true):CMul i j:=by
 unfold CP at h;rw[Qn,OE,OE,O1,O1,O1,O1]at h;show h
def C0:LOp X (binaryOp .Mult) (jm .mul):=by
 have l:LOp X _ _:=pL GJ λ_ _ _ _ h q=>#[_,_,rfl,rfl,CZ h,q]
 intro J s Y H A S x y a b u v w S' I c g d i f e;cases x with
 |str z=>
  cases g with
  |str=>cases i with
   |int=>
    dsimp only[jm,CS]at e;split at e
    next hc=>cases e;show OpR.go sh I d f #[_,_,rfl,rfl,yH ∅ ∅ hc.2.2,.here c .str]
    ·cases e
   |_=>cases e
 |ref z=>
  cases g with
  |ref k=>cases i with
   |int=>
    dsimp only[jm,CS]at e;split at e
    ·split at e
     ·rename_i hc;obtain⟨hl,rfl,rfl⟩:=ku e;obtain⟨vs,n,j⟩:=eN c (by assumption) k
      rw[↥j]at hc;show OpR.go G3 I d f #[_,_,_,rfl,rfl,n,∅,∅,hc.2.2,λp m=>.lst c (j.rep _) m]
     ·cases e
    ·cases e
   |_=>cases e
 |_=>show l _ _ _ _ _ _ _ _ _ _ _ _ _ _ I c g d i f e
def yI:LOp X (binaryOp .FloorDiv) (jm .fdiv):=pL Cm λ_ _ _ _ h q=>#[_,_,rfl,rfl,by
 unfold CO at h;rw[OE,O1,O1]at h;show h,q]
def C3:LOp X (binaryOp .Mod) (jm .mod):=pL GK λ_ _ _ _ h q=>#[_,_,rfl,rfl,PC h,q]
def C4:LOp X (binaryOp .Pow) (jm .pow):=pL GL λ_ _ _ _ h q=>#[_,_,rfl,rfl,by
 unfold Ks at h;rw[OE,OE,O1,O1,O1]at h;show#[h.1.1,h.1.2,h.2],q]
def um (o:BOp):LOp X (binaryOp o.py) (jm o):=by
 cases o
 ·show CW
 ·show CY
 ·show C0
 ·show yI
 ·show C3
 ·show C4
abbrev fA (f:W->W->Oz O6):Ow W->Ow W->Oz O6
 |[],[]=>ba true
 |[],_::_=>ba false
 |_::_,[]=>ba false
 |x::xs,y::c=>match f x y,fA f xs c with
  |some a,ba b=>ba (a&&b)
  |_,_=>gV
abbrev b2 (b:O6):O8:=if b then 1 else 0
abbrev jS (S:aa):OH->W->W->Oz O6
 |_,.non,y=>match y with
  |.non=>ba true
  |_=>gV
 |_,.bl a,y=>match y with
  |.bl b=>ba (a==b)
  |_=>gV
 |_,.int a,y=>match y with
  |.int b=>ba (a==b)
  |_=>gV
 |_,.str a,y=>match y with
  |.str b=>ba (a==b)
  |_=>gV
 |0,_,_=>gV
 |d+1,.tup xs,y=>match y with
  |.tup c=>fA (jS S d) xs c
  |_=>gV
 |d+1,.ref i,y=>match y with
  |.ref j=>match pE S i,pE S j with
   |some xs,ba c=>if ↥xs=↥c then fA (jS S d) xs c else ba false
   |_,_=>gV
  |_=>gV
variable{J:Ow (OF×Qq)}{Y:L2.St}{H:Hp}{S:aa}
section
variable{s:OB}{A:Ow OF}
abbrev RU (K:OI)(A:Ow OF)(H:Hp)(w:W)(u:Oy):Prop:=∃v,Rel K A H w v/\RelV v u
def uq (r:RelL X.K A H ws vs)(q:Vals vs us):∀ j a (b:j<↥us),RU X.K A H ws[j] us[j]:=by
 induction ws generalizing vs us with
 |nil=>intro j a;simp at a
 |cons w ws ih=>
  cases r with
  |cons e f=>
   cases q with
   |cons c d=>
    intro j a b;cases j with
    |zero=>show#[_,e,c]
    |succ j=>show ih f d j (by simpa using a) (by simpa using b)
def yJ (I:Inv X J Y H s)(h:RU X.K A H (.tup ws) u):∃a its,u=.ref a/\Wt s.heap a its/\⇑its=↥ws/\↥ws<=sizeLine/\∀ j c (d:j<⇑its),RU X.K A H ws[j] its[j]:=by
 obtain⟨v,r,q⟩:=h;cases r with
 |tup sq b=>
  obtain⟨its,e,ht,f⟩:=I.tuple sq;show#[_,its.toArray,q,ht,by rw[O5,<- ↥e,↥b],by rw[↥b];show f,λj c d=>?_]
  have:=uq b e j c (by simpa using d)
  simpa using this
def yK (I:Inv X J Y H s)(m:wk X A H S)(e:pE S i=ba ws)(h:RU X.K A H (.ref i) u):∃a its,u=.ref a/\A[i]?=ba a/\s.heap.IsList a its/\⇑its=↥ws/\↥ws<=sizeLine/\∀ j d (f:j<⇑its),RU X.K A H ws[j] its[j]:=by
 obtain⟨v,r,q⟩:=h;cases r with
 |ref c=>
  obtain⟨vs,k,b⟩:=eN m e c;obtain⟨its,g,ht,l⟩:=I.list (.of k);show#[_,its.toArray,q,c,ht.isList,by rw[O5,<- ↥g,↥b],by rw[↥b];show l,λj d f=>?_]
  have:=uq b g j d (by simpa using f)
  simpa using this
def kX :∀{xs d:Ow W}{k:O6},fA f xs d=ba k->∃e:OH->O6,(∀ j c (g:j<↥d),f xs[j] d[j]=ba (e j))/\
  k=((Pj (min ↥xs ↥d)).all e&&↥xs==↥d)
 |[],[],k,h=>#[λ_=>true,λj c=>by simp at c,by cases h;rfl]
 |[],_::_,k,h=>#[λ_=>true,λj c=>by simp at c,by cases h;rfl]
 |_::_,[],k,h=>#[λ_=>true,λj c g=>by simp at g,by cases h;rfl]
 |x::xs,y::d,k,h=>by
  dsimp only[fA]at h;split at h
  next a b m n=>
   cases h;obtain⟨e,c,g⟩:=kX n;show#[λj=>match j with|0=>a|j+1=>e j,λj i l=>?_,?_]
   ·cases j with
    |zero=>show m
    |succ j=>show c j (by simpa using i) (by simpa using l)
   ·subst g;simp -iota only[Po,Nat.add_min_add_right,Vy,P9,W5,Bool.and_assoc];congr 2;simp
  ·cases h
def C5 (I:Inv X J Y H s)(t:wk X A H S):∀ d {x y:W}{v:V}{k:O6},Rel X.K A H x v->Rel X.K A H y v->jS S d x y=ba k->k=true:=by
 intro d
 induction d with
 |zero=>
  intro x y v k o f e;cases o with
  |non=>cases f;cases e;rfl
  |bl=>cases f;cases e;show PB _
  |int=>cases f;cases e;show PB _
  |str=>cases f;cases e;show PB _
  |tup _ _=>cases e
  |ref _=>cases e
 |succ d ih=>
  have c:∀{xs i:Ow W}{vs:Ow V}{k:O6},RelL X.K A H xs vs->RelL X.K A H i vs->fA (jS S d) xs i=ba k->k=true:=by
   intro xs
   induction xs with
   |nil=>
    intro i vs k g h e;cases g;cases h;cases e;rfl
   |cons x xs n=>
    intro i vs k g h e;cases g with
    |cons p1 C=>
     cases h with
     |cons p2 D=>
      dsimp only[fA]at e;split at e
      next a b z B=>cases e;rw[ih p1 p2 z,n C D B];rfl
      ·cases e
  intro x y v k o f e;cases o with
  |non=>cases f;cases e;rfl
  |bl=>cases f;cases e;show PB _
  |int=>cases f;cases e;show PB _
  |str=>cases f;cases e;show PB _
  |tup w g=>
   cases f with
   |tup p h=>
    rw[I.tuple_inj w p]at g;show c g h e
   |ref j=>cases e
  |ref j=>
   cases f with
   |tup p h=>cases e
   |ref u=>
    dsimp only[jS]at e;split at e
    ·rename_i xs i l m;have:=t.nd _ _ _ _ _ (kW l) rfl (kW m) rfl j u;subst this;rw[l]at m;cases m
     rw[OZ rfl]at e;obtain⟨vs,q,r⟩:=eN t l j;show c r r e
    ·cases e
def bg (A:Pl):A.in1.units=A.units+1:=rfl
noncomputable abbrev JK (B:Pl)(s:OB)(u v:Oy)(k:O6):Prop:=SeqAt.RcAt B s u v k/\SeqAt.RcNeAt B s u v (!k)/\Vw B s u v k
open SeqAt in
def Fq (I:Inv X J Y H s)(T:wk X A H S):∀(d:OH) (B:Pl) {x y:W}{u v:Oy}{k:O6},B.units+d<cLine->RU X.K A H x u->RU X.K A H y v->jS S d x y=ba k->JK B s u v k:=by
 have non:∀{B:Pl}{y:W}{u v:Oy}{k:O6}{d:OH},RU X.K A H .non u->RU X.K A H y v->jS S d .non y=ba k->JK B s u v k:=by
  intro B y u v k d ⟨_,h,D⟩ ⟨_,l,E⟩ e;cases h;cases(show u=Qk from D)
  cases y with
  |non=>
   have e:ba (true)=ba k:=by cases d<;>show e
   cases e;cases l;cases(show v=Qk from E)
   show#[.none_none,.none_none,.same _]
  |_=>cases d<;>cases e
 have bl:∀{B:Pl}{b:O6}{y:W}{u v:Oy}{k:O6}{d:OH},RU X.K A H (.bl b) u->RU X.K A H y v->jS S d (.bl b) y=ba k->JK B s u v k:=by
  intro B b y u v k d ⟨_,h,D⟩ ⟨_,l,E⟩ e;cases h;cases(show u=Qx _ from D)
  cases y with
  |bl c=>
   have e:ba (b==c)=ba k:=by cases d<;>show e
   cases e;cases l;cases(show v=Qx _ from E)
   show#[.bool_bool _ _,.bool_bool _ _,.bool_bool _ _]
  |_=>cases d<;>cases e
 have int:∀{B:Pl}{b:O8}{y:W}{u v:Oy}{k:O6}{d:OH},RU X.K A H (.int b) u->RU X.K A H y v->jS S d (.int b) y=ba k->JK B s u v k:=by
  intro B b y u v k d ⟨_,h,D⟩ ⟨_,l,E⟩ e;cases h;obtain⟨t0,rfl⟩:∃t,u=Vm _ t:=D;cases y with
  |int c=>
   have e:ba (b==c)=ba k:=by cases d<;>show e
   cases e;cases l;obtain⟨t,rfl⟩:∃t,v=Vm _ t:=E;show#[.int_int _ _ _ _,.int_int _ _ _ _,.int_int _ _ _ _]
  |_=>cases d<;>cases e
 have str:∀{B:Pl}{b:OM}{y:W}{u v:Oy}{k:O6}{d:OH},RU X.K A H (.str b) u->RU X.K A H y v->jS S d (.str b) y=ba k->JK B s u v k:=by
  intro B b y u v k d ⟨_,h,D⟩ ⟨_,l,E⟩ e;cases h;obtain⟨t0,rfl⟩:∃t,u=TH _ t:=D;cases y with
  |str c=>
   have e:ba (b==c)=ba k:=by cases d<;>show e
   cases e;cases l;obtain⟨t,rfl⟩:∃t,v=TH _ t:=E;show#[.str_str _ _ _ _,.str_str _ _ _ _,.str_str _ _ _ _]
  |_=>cases d<;>cases e
 intro d
 induction d with
 |zero=>
  intro B x y u v k hu h l e;cases x with
  |non=>show non h l e
  |bl b=>show bl h l e
  |int b=>show int h l e
  |str b=>show str h l e
  |_=>cases e
 |succ d ih=>
  intro B x y u v k hu h l e;have o:B.units<cLine:=∅
  have N:B.in1.units+d<cLine:=by rw[bg];omega
  have Q:=h;have R:=l;have fin:∀{a b:OF},u=.ref a->v=.ref b->RcAt B s u v k->RcNeAt B s u v (!k)->JK B s u v k:=by
   intro a b V Z q r;subst V Z;show#[q,r,?_]
   by_cases G:a=b
   ·subst G;obtain⟨v1,q1,z1⟩:=Q;obtain⟨v2,q2,z2⟩:=R;have O:v1=v2:=z1.inj z2;subst O;have:=C5 I T (d+1) q1 q2 e;subst this;show EqAt.same _
   ·show EqAt.of_refs G q
  cases x with
  |non=>show non h l e
  |bl b=>show bl h l e
  |int b=>show int h l e
  |str b=>show str h l e
  |tup xs=>
   cases y with
   |tup ys=>
    obtain⟨a,its,rfl,ht,hs,_,hi⟩:=yJ I h;obtain⟨b,g,rfl,M,m,_,w⟩:=yJ I l;obtain⟨f,q,r⟩:=kX (show fA (jS S d) xs ys=ba k from e)
    have L:∀j (q:j<⇑its) (r:j<⇑g),EqAt B.in1 s its[j] g[j] (f j):=λj z C=>
     (ih B.in1 N (hi j (hs▸z) z) (w j (m▸C) C) (q j (hs▸z) (m▸C))).2.2
    rw[<- hs,<- m]at r;subst r;show fin rfl rfl (RcAt.tuples ht M o L) (RcNeAt.tuples ht M o L)
   |_=>cases e
  |ref i=>
   cases y with
   |ref j=>
    dsimp only[jS]at e;split at e
    ·rename_i ws ws2 hw P;obtain⟨a,its,rfl,_,hl,hs,_,hi⟩:=yK I T hw h;obtain⟨b,g,rfl,_,p,m,_,w⟩:=yK I T P l;split at e
     ·rename_i n;obtain⟨f,q,r⟩:=kX e;have L:∀j (q:j<⇑its) (r:j<⇑g),EqAt B.in1 s its[j] g[j] (f j):=λj z C=>
       (ih B.in1 N (hi j (hs▸z) z) (w j (m▸C) C) (q j (hs▸z) (m▸C))).2.2
      have hk:k=(Pj ⇑its).all f:=by rw[r,hs,n];simp
      subst hk;show fin rfl rfl (RcAt.lists hl p (by rw[hs,m,n]) o L) (RcNeAt.lists hl p (by rw[hs,m,n]) o L)
     ·rename_i n;cases e;have U:(⇑its != ⇑g)=true:=by rw[hs,m];simpa using n
      show fin rfl rfl (RcAt.lists_lengths hl p U o) (RcNeAt.lists_lengths hl p U o)
    ·cases e
   |_=>cases e
end
abbrev LtAt (B:Pl)(s:OB)(u v:Oy)(k:O6):Prop:=
 ∀(prog:Pe) (w:Pk) (E:Oy->OB->Prop) (Q:Oy->OB->Prop),Q (.bool k) s->wpAny (model prog w) B (richCompare .Lt u v) Q E s
inductive LexR (B:Pl)(s:OB):Ow Oy->Ow Oy->O6->Prop
 |nn:LexR B s [] [] false
 |nc {v:Oy}{vs:Ow Oy}:LexR B s [] (v::vs) true
 |cn {v:Oy}{vs:Ow Oy}:LexR B s (v::vs) [] false
 |eq {u v:Oy}{us vs:Ow Oy}{k:O6}:Vw B s u v true->LexR B s us vs k->LexR B s (u::us) (v::vs) k
 |ne {u v:Oy}{us vs:Ow Oy}{k:O6}:Vw B s u v false->LtAt B s u v k->LexR B s (u::us) (v::vs) k
section
open PySem.SeqAt
open PySem.AutoSeq1 (wpAny_loadPart')
open PySem.MeetsSeq PySem.MeetsSeq2 PySem.MeetsSeq3
def nT (l b:OF)(items a:Pc Oy)(n C:OH)(dd m:Oz OF)(D t:Pc (Oz Oy))(k:O6) :
  Meets (SY.«tuple.__lt__» #[[.ref l,.ref b],[]])
   (λB R s=>s.heap.get? l=ba {cls:=.type "tuple",dict:=dd,data:=.seq items n,slots:=D}/\s.heap.get? b=ba {cls:=.type "tuple",dict:=m,data:=.seq a C,slots:=t}/\
    LexR B.in1 s items.toList a.toList k/\R (.ok (.ret (.bool k))) s):=
 .of_wp λprog w A R s h=>by
  obtain⟨u,g,d,tk,os⟩:=s;obtain⟨hl,v,j,h⟩:=h
  have G:=YD;have H:↥items.toList=⇑items:=by simp
  have I:↥a.toList=⇑a:=by simp
  wp_walk using Uo hl,Uo v,SZ _ (λaC b r=>b.1=gV/\r=#[u,g,d,tk,os]/\∃vs ws,aC=vs.zip ws/\
   LexR A.in1 #[u,g,d,tk,os] vs ws k/\↥vs+⇑a=↥ws+⇑items) _
  case turn=>
   rintro⟨y,x⟩ aC b r ⟨f,rfl,vs,ws,e,i,c⟩;cases i with
   |nn=>rw[W6]at e;cases e
   |nc=>rw[W6]at e;cases e
   |cn=>rw[List.zip_nil_right]at e;cases e
   |eq o p=>
    rw[Rp]at e;injection e with hyx hrest
    injection hyx with hy j
    subst hy j;simp only[Po]at c;show Ox (o prog w _ _ ?_)
    wp_walk
    show#[rfl,rfl,_,_,hrest,p,∅]
   |ne o p=>
    rw[Rp]at e;injection e with hyx hrest
    injection hyx with hy j
    subst hy j;show Ox (o prog w _ _ ?_);have q:=p prog w
    wp_walk using q
    show#[_,rfl,by simpa using h]
  case fin=>
   rintro⟨E,b2⟩ r ⟨f,rfl,vs,ws,e,i,c⟩;simp only at f;subst f;have z:k=decide (⇑items<⇑a):=by
    cases i with
    |nn=>simp only[Qr]at c;show(Pw ∅).symm
    |nc=>simp only[Qr,Po]at c;show(Pq ∅).symm
    |cn=>simp only[Qr,Po]at c;show(Pw ∅).symm
    |eq _ _=>rw[Rp]at e;cases e
    |ne _ _=>rw[Rp]at e;cases e
   subst z
   wp_walk
   show#[_,rfl,by simpa [Xi]using h]
  case h=>
   show#[rfl,rfl,items.toList,a.toList,rfl,j,∅]
end
def LtAt.tuples (hl:Wt s.heap l items)(o:Wt s.heap b a)(p:B.units<cLine)(q:LexR B.in1 s items.toList a.toList k) :
  LtAt B s (.ref l) (.ref b) k:=λprog w E Q h=>by
 obtain⟨⟨cls,dd,data,t⟩,m,hc,n,hd⟩:=id hl;obtain⟨⟨j,e,d,i⟩,c,f,r,g⟩:=id o;subst hc hd f g;show richCompare_meets_room  #[_,m,rfl] #[_,c,rfl] PySem.F.slot_tuple_lt PySem.F.entry_tuple_lt (PySem.F.args_tuple_lt_2 _ _) (nT l b _ _ n r dd e t i k)
  #[m,c,q,#[(λx=>nomatch x),h]] p
inductive COp where|eq|ne|lt|le|gt|ge|isin|notin|is|isnot
 deriving R7
abbrev COp.py:COp->XI
 |.eq=>.Eq|.ne=>.NotEq|.lt=>.Lt|.le=>.LtE|.gt=>.Gt|.ge=>.GtE|.isin=>.In|.notin=>.NotIn|.is=>.Is|.isnot=>.IsNot
abbrev cm:W->O6
 |.non=>true
 |.bl _=>true
 |.int _=>true
 |.str _=>true
 |_=>false
abbrev C6:W->W->O6
 |.non,.non=>true
 |.bl a,.bl b=>a==b
 |.bl a,.int b=>b2 a==b
 |.int a,.bl b=>a==b2 b
 |.int a,.int b=>a==b
 |.str a,.str b=>a==b
 |_,_=>false
abbrev dF (S:aa):W->Oz (Ow W)
 |.tup xs=>ba xs
 |.ref i=>gy S i
 |_=>gV
noncomputable abbrev fB:OH:=20
abbrev wb (x y:W)(S:aa):Oz O6:=match dF S y with
 |some a=>if cm x&&a.all cm then ba (a.any λz=>C6 z x)else gV
 |none=>gV
abbrev si:W->O6
 |.non=>true
 |_=>false
abbrev yL (f:O8->O8->O6):W->W->Oz O6
 |.int i,.int j=>ba (f i j)
 |_,_=>gV
abbrev M8:W->W->Oz O6
 |.bl a,.bl b=>ba (!(a==b))
 |_,_=>gV
abbrev M9:W->W->Oz O6
 |.bl a,.bl b=>ba (a==b)
 |_,_=>gV
abbrev yM:COp->W->W->aa->Oz O6
 |.eq,x,y,S=>jS S fB x y
 |.ne,x,y,S=>(jS S fB x y).map (!·)
 |.lt,x,y,_=>yL (λi j=>decide (i<j)) x y
 |.le,x,y,_=>yL (λi j=>decide (i<=j)) x y
 |.gt,x,y,_=>yL (λi j=>decide (j<i)) x y
 |.ge,x,y,_=>yL (λi j=>decide (j<=i)) x y
 |.isin,x,y,S=>wb x y S
 |.notin,x,y,S=>(wb x y S).map (!·)
 |.is,x,y,_=>if si y then ba (si x)else M9 x y
 |.isnot,x,y,_=>if si y then ba (!si x)else M8 x y
abbrev eO (o:COp)(x y:W)(S:aa):Oz (W×aa):=(yM o x y S).map λk=>(.bl k,S)
def fX {A:Ow OF}(I:Inv X J Y H s)(a:wk X A H S):PostE X J Y A H S (.bl k) (.bool k) s:=
 #[.bl k,H,A,I,rfl,.refl,a,.bl]
def C7 (h:eO o x y S=ba (w,S')):∃k,yM o x y S=ba k/\w=.bl k/\S'=S:=by
 unfold eO at h;rw[OG]at h;obtain⟨k,a,b⟩:=h;cases b;show#[k,a,rfl,rfl]
def pM {A:Ow OF}(r:Rel X.K A H w v)(f:cm w=true):gI v=true:=by
 cases r<;>first|rfl|cases f
def wc {A:Ow OF}:∀{ws:Ow W}{vs:Ow V},RelL X.K A H ws vs->ws.all cm=true->vs.all gI=true:=by
 intro ws
 induction ws with
 |nil=>intro vs r f;cases r;rfl
 |cons w ws ih=>
  intro vs r f;cases r with
  |cons r t=>
   rw[P9,OE]at f ⊢;show#[pM r f.1,ih t f.2]
def C8 {A:Ow OF}(r:Rel X.K A H x u)(q:Rel X.K A H y v)(fx:cm x=true)(a:cm y=true):Cz u v=C6 x y:=by
 cases r<;>cases q<;>first|rfl|cases fx|cases a
def C9 {A:Ow OF}(q:Rel X.K A H y v)(a:cm y=true):∀{ws:Ow W}{vs:Ow V},RelL X.K A H ws vs->ws.all cm=true->Mp v vs=ws.any λz=>C6 z y:=by
 intro ws
 induction ws with
 |nil=>intro vs r f;cases r;rfl
 |cons w ws ih=>
  intro vs r f;cases r with
  |cons r t=>
   rw[P9,OE]at f;have:=ih t f.2;unfold Mp at this ⊢;rw[SJ,SJ,C8 r q f.1 a,this]
def nU {J:Ow (OF×Qq)}{Y:L2.St}{s:OB}{A:Ow OF}(g:wk X A H S)(r:Rel X.K A H y b)(e:dF S y=ba d):∃p vs,b=.ref p/\(SqL X.K H p vs\/SqT X.K H p vs)/\RelL X.K A H d vs:=by
 cases r with
 |tup a c=>cases e;show#[_,_,rfl,.inr a,c]
 |ref f=>
  obtain⟨vs,a,c⟩:=bq g e f;show#[_,vs,rfl,.inl a,c]
 |_=>cases e
def yN (i:OpR X (compareOp o) (MY X.K neg)){A:Ow OF}(I:Inv X J Y H s)(h:wk X A H S)
  (g:Rel X.K A H x a) (k:RelV a u) (m:Rel X.K A H y b) (l:RelV b v) (e:dF S y=ba c) (f:(cm x&&c.all cm)=true) :
  wi X (compareOp o u v) (PostE X J Y A H S (.bl (if neg then !c.any λz=>C6 z x else c.any λz=>C6 z x))) X.xe s:=by
 obtain⟨p,vs,rfl,j,d⟩:=nU (J:=J) (Y:=Y) (s:=s) h m e;rw[OE]at f;show OpR.go i I k l #[p,vs,rfl,j,pM g f.1,wc d f.2,?_];rw[C9 g f.1 d f.2];show .here h .bl
def iw (G:X.A.units+fB<cLine)(o:COp):LOp X (compareOp o.py) (eO o):=by
 intro J s Y H A S x y a b u v w S' I g p m q n e;obtain⟨k,d,L,M⟩:=C7 e;subst L;subst M;clear e
 rename aa=>S
 have l:∀{f:O8->O8->O6},yL f x y=ba k->∃i j,x=.int i/\y=.int j/\k=f i j:=by
  intro f h;cases x with
  |int i=>cases y with
   |int j=>cases h;show#[i,j,rfl,rfl,rfl]
   |_=>cases h
  |_=>cases h
 have N:X.A.units+1<cLine:=by have:fB=20:=rfl;omega
 have B:∀{c:O6},wb x y S=ba c->(∃D,dF S y=ba D/\(cm x&&D.all cm)=true/\c=D.any λz=>C6 z x):=by
  intro c h;unfold wb at h;split at h
  ·split at h
   ·cases h;show#[_,by assumption,by assumption,rfl]
   ·cases h
  ·cases h
 have O:∀{c:O6},(if si y then ba c else gV)=ba k->y=.non/\k=c:=by
  intro c h;cases y with
  |non=>cases h;show#[rfl,rfl]
  |_=>cases h
 cases o with
 |eq=>show(Fq I g fB X.A G #[a,p,m] #[b,q,n] d).1 _ _ _ _ (fX I g)
 |ne=>
  obtain⟨P,C,rfl⟩:=OG.mp d;show(Fq I g fB X.A G #[a,p,m] #[b,q,n] C).2.1 _ _ _ _ (fX I g)
 |lt=>
  obtain⟨i,j,rfl,rfl,rfl⟩:=l d;cases p;cases q
  show OpR.go Kb I m n #[_,_,rfl,rfl,.here g .bl]
 |le=>
  obtain⟨i,j,rfl,rfl,rfl⟩:=l d;cases p;cases q
  show OpR.go Kc I m n #[_,_,rfl,rfl,.here g .bl]
 |gt=>
  obtain⟨i,j,rfl,rfl,rfl⟩:=l d;cases p;cases q
  show OpR.go Kd I m n #[_,_,rfl,rfl,.here g .bl]
 |ge=>
  obtain⟨i,j,rfl,rfl,rfl⟩:=l d;cases p;cases q
  show OpR.go Ke I m n #[_,_,rfl,rfl,.here g .bl]
 |isin=>
  obtain⟨D,C,E,rfl⟩:=B d;show yN (neg:=false) vW I g p m q n C E
 |notin=>
  obtain⟨c,h,rfl⟩:=OG.mp d;obtain⟨D,C,E,rfl⟩:=B h;show yN (neg:=true) nQ I g p m q n C E
 |is=>
  cases y with
  |non=>
   have d:ba (si x)=ba k:=d;cases d;cases q;show OpR.go GN I m n #[rfl,?_];cases p<;>show .here g .bl
  |bl t=>
   cases x with
   |bl r=>
    have d:ba (r==t)=ba k:=d;cases d;cases p;cases q;obtain rfl:u=Qx r:=m;obtain rfl:v=Qx t:=n;show Yj rfl ?_;have e:(Qx r==Qx t)=(r==t):=by cases r<;>cases t<;>rfl
    rw[e];show fX I g
   |_=>cases d
  |_=>cases x<;>cases d
 |isnot=>
  cases y with
  |non=>
   have d:ba (!si x)=ba k:=d;cases d;cases q;show OpR.go Cn I m n #[rfl,?_];cases p<;>show .here g .bl
  |bl t=>
   cases x with
   |bl r=>
    have d:ba (!(r==t))=ba k:=d;cases d;cases p;cases q;obtain rfl:u=Qx r:=m;obtain rfl:v=Qx t:=n;show wpAny_isNot_plain rfl ?_;have e:(!(Qx r==Qx t)) = !(r==t):=by cases r<;>cases t<;>rfl
    rw[e];show fX I g
   |_=>cases d
  |_=>cases x<;>cases d
end Mi
namespace HT
open PySem PyProof.Rows
section
variable{prog:Pe}{w:Pk}{A:Pl}{E:Oy->OB->Prop}{s:OB}
def gA {lo :Oz O8}(ht:Wt s.heap t items)(hs:s.heap.IsSliceOf e f g .none)(pl:UK f lo)(j:UK g hi)
  (hw:cW ⇑items 0 lo=0/\cW ⇑items ⇑items hi=⇑items) (h:Q (.ref t) s):wh prog w A (getItem (.ref t) (.ref e)) Q E s:=by
 obtain⟨os,d,c,i⟩:=id hs;have b:s.TypeIs (.ref e) "slice":=#[os,d,c];unfold getItem
 try with_reducible show PQ ?_
 first|refine Ox (OD ?_)|skip
 show Ox (WV ht.typeIs #v[] ?_)
 show Ox (P6 (name:=UC "__getitem__") ht.typeIs Rj
  (Qt Rj ht.typeIs Wk ?_ (WG _ _)))
 change wpAny _ _ (SU (.ref t) >>= _) _ _ s;show Ox (Yy ht ?_);show Ox (UA b ?_);rw[OZ #v[]]
 show Ox (dW hs pl j ?_);have a:((((cW ⇑items 0 lo:OH):O8)==0&&(1:O8)==1&&(cW ⇑items ⇑items hi-cW ⇑items 0 lo)==⇑items)=true):=by
  rw[hw.1,hw.2];simp
 change wpAny _ _ (if (((cW ⇑items 0 lo:OH):O8)==0&&(1:O8)==1&&(cW ⇑items ⇑items hi-cW ⇑items 0 lo)==⇑items)=true then _ else _) _ _ s
 rw[OZ a];unfold Yk;show Ox (Ox (UA ht.typeIs (OD ?_)));rw[OZ #v[]]
 show Ox (Tz (Ox (OD (OD #[_,rfl,OD h]))))
end
end HT
namespace Mi
open PySem PySem.Spec PyProof.Rows L2
abbrev yO (x y:W)(S:aa):Oz (W×aa):=match x,y with
 |.tup xs,.int i=>(nL xs i).map λw=>(w,S)
 |.ref r,.int i=>match gy S r with
  |some xs=>(nL xs i).map λw=>(w,S)
  |none=>gV
 |.str x,.int i=>if ↥x<=sizeLine then(nL x.cps.toList i).map λc=>(.str #[[c].toArray],S)else gV
 |_,_=>gV
abbrev gB (xs:Ow W)(lo hi:Oz O8):Ow W:=(xs.drop (HT.cW ↥xs 0 lo)).take (HT.cW ↥xs ↥xs hi-HT.cW ↥xs 0 lo)
abbrev md (x:W)(lo hi:Oz O8)(S:aa):Oz (W×aa):=match x with
 |.tup xs=>ba (.tup (gB xs lo hi),S)
 |.ref r=>match gy S r with
  |some xs=>ba (.ref ↥S,S++[.lst (gB xs lo hi)])
  |none=>gV
 |_=>gV
abbrev we (o i v:W)(S:aa):Oz aa:=match o,i with
 |.ref r,.int k=>match pE S r with
  |some xs=>match uc ↥xs k with
   |some j=>ba (S.set r (.lst (xs.set j v)))
   |none=>gV
  |none=>gV
 |_,_=>gV
section
variable (X:Cx)
abbrev LIx (g:W->W->aa->Oz (W×aa)):Prop:=
 ∀(d c:Pb) (J:Ow (OF×Qq)) (s:OB) (Y:L2.St) (H:Hp) (A:Ow OF) (S:aa) (x y:W) (a b:V) (u v:Oy) (w:W) (S':aa),Inv X J Y H s->wk X A H S->
  Rel X.K A H x a->RelV a u->Rel X.K A H y b->RelV b v->g x y S=ba (w,S')->subscripted c false u v=operate [u,v] (getItem u v)->wi X (subscriptTail d c u v) (PostE X J Y A H S' w) X.xe s
abbrev LSl (g:W->Oz O8->Oz O8->aa->Oz (W×aa)):Prop:=
 ∀(J:Ow (OF×Qq)) (s:OB) (Y:L2.St) (H:Hp) (A:Ow OF) (S:aa) (x:W) (a:V) (v vl vu:Oy) (lo hi:Oz O8) (sl:OF) (w:W) (S':aa),Inv X J Y H s->wk X A H S->
  Rel X.K A H x a->RelV a v->s.heap.IsSliceOf sl vl vu .none->UK vl lo->UK vu hi->g x lo hi S=ba (w,S')->
  ∃T id,typeLookup (.type T) "__getitem__" = pure (ba (.builtin id))/\s.TypeIs v T/\wi X (getItem v (.ref sl)) (PostE X J Y A H S' w) X.xe s
abbrev LSet (g:W->W->W->aa->Oz aa):Prop:=
 ∀(J:Ow (OF×Qq)) (s:OB) (Y:L2.St) (H:Hp) (A:Ow OF) (S:aa) (o i x:W) (ao ai ax:V) (uo ui ux:Oy) (S':aa),Inv X J Y H s->wk X A H S->
  Rel X.K A H o ao->RelV ao uo->Rel X.K A H i ai->RelV ai ui->Rel X.K A H x ax->RelV ax ux->g o i x S=ba S'->
  wi X (setItem uo ui ux) (λ_ c=>∃a b,Inv X J Y a c/\Ext X.K A H b a/\wk X b a S') X.xe s
abbrev LCall (f:Oy)(g:Ow W->aa->Oz (W×aa)):Prop:=
 ∀(J:Ow (OF×Qq)) (s:OB) (Y:L2.St) (H:Hp) (A:Ow OF) (S:aa) (xs:Ow W) (vs:Ow V) (us:Ow Oy) (w:W) (S':aa),Inv X J Y H s->wk X A H S->
  RelL X.K A H xs vs->Vals vs us->g xs S=ba (w,S')->wi X (call f us) (PostE X J Y A H S' w) X.xe s
abbrev ur (id:Qs)(g:W->Ow W->aa->Oz (W×aa)):Prop:=
 ∀(J:Ow (OF×Qq)) (s:OB) (Y:L2.St) (H:Hp) (A:Ow OF) (S:aa) (x:W) (a:V) (u:Oy) (xs:Ow W) (vs:Ow V) (us:Ow Oy) (w:W) (S':aa),Inv X J Y H s->wk X A H S->
  Rel X.K A H x a->RelV a u->RelL X.K A H xs vs->Vals vs us->g x xs S=ba (w,S')->wi X (call (.builtin id) (u::us)) (PostE X J Y A H S' w) X.xe s
end
variable{X:Cx}{J:Ow (OF×Qq)}{Y:L2.St}{H:Hp}{S:aa}
section
variable{s:OB}{A:Ow OF}
def IxR.go (h:IxR X r)(I:Inv X J Y H s)(e:RelV a u)(f:RelV b v)(q:r a b H (wv X A H S' w))(hs:subscripted c false u v=operate [u,v] (getItem u v)) :
  wi X (subscriptTail d c u v) (PostE X J Y A H S' w) X.xe s:=a9 (h _ _ _ s Y H a b u v _ I e f q hs) λ_ _=>EP.post
def CallR.go (h:CallR X f r)(I:Inv X J Y H s)(a:Vals vs us)(q:r vs H (wv X A H S' w)) :
  wi X (call f us) (PostE X J Y A H S' w) X.xe s:=a9 (h _ s Y H vs us _ I a q) λ_ _=>EP.post
def MtR.go {id:Qs}(h:MtR X id r)(I:Inv X J Y H s)(b:RelV a u)(c:Vals vs us)(q:r a vs H (wv X A H S' w)) :
  wi X (call (.builtin id) (u::us)) (PostE X J Y A H S' w) X.xe s:=a9 (h _ s Y H a vs u us _ I b c q) λ_ _=>EP.post
def ut (r:RelL X.K A H xs vs)(e:nL xs i=ba w):∃v,nL vs i=ba v/\Rel X.K A H w v:=by
 unfold nL at e ⊢;rw[↥r]at e;cases q:uc _ i with
 |none=>rw[q]at e;cases e
 |some j=>
  rw[q]at e;obtain⟨v,a,b⟩:=r.get e;show#[v,a,b]
def Of (B:X.A.units+10<cLine):LIx X yO:=by
 intro p o J s Y H A S x y a b u v w S' I h r m g n e hs;cases r with
 |tup i k=>cases g with
  |int=>
   (dsimp only[yO]at e;simp only[OG]at e)
   obtain⟨t,d,f⟩:=e;cases f;obtain⟨z,j,l⟩:=ut k d;show IxR.go GY I m n #[_,_,_,_,rfl,rfl,i,j,.here h l] hs
  |_=>cases e
 |ref q=>cases g with
  |int=>
   dsimp only[yO]at e;split at e
   next ws hw=>rw[OG]at e;obtain⟨t,d,f⟩:=e;cases f;obtain⟨vs,i,k⟩:=bq h hw q;obtain⟨z,j,l⟩:=ut k d;show IxR.go Cw I m n #[_,_,_,_,rfl,rfl,i,j,.here h l] hs
   ·cases e
  |_=>cases e
 |str=>cases g with
  |int=>
   dsimp only[yO]at e;split at e
   ·rw[OG]at e;obtain⟨c,d,f⟩:=e;cases f;show IxR.go GZ I m n #[_,_,_,rfl,rfl,by assumption,d,.here h .str] hs
   ·cases e
  |_=>cases e
 |_=>cases g<;>cases e
def nV {lo :Oz O8}(r:RelL X.K A H xs vs):RelL X.K A H (gB xs lo hi) (nK vs lo hi):=by
 unfold gB nK;rw[↥r];show(r.drop _).take _
def Db:Kh X (λx lo hi H Q=>∃a xs,x=.ref a/\SqT X.K H a xs/\(nK xs lo hi=xs->Q (.ref a) H)/\∀p,H p=gV->Q (.ref p) (aW H p (.tup (nK xs lo hi)))):=by
 intro J s Y H x v i j lo hi g Q I e hs pl d h;obtain⟨a,xs,rfl,c,f,q⟩:=h
 by_cases hw:(HT.cW ↥xs 0 lo=0/\HT.cW ↥xs ↥xs hi=↥xs)
 ·cases e;obtain⟨its,r,ht,k⟩:=I.tuple c;have b:⇑its.toArray=↥xs:=by show r.length.symm
  show#["tuple",_,PyProof.Rows.slot_tuple_getitem.lookup,ht.typeIs,?_];show HT.gA ht hs pl d (by rw[b];show hw) #[.ref a,H,I,rfl,f ?_]
  unfold nK;rw[hw.1,hw.2];simp
 ·show GV _ s Y H _ v i j lo hi g Q I e hs pl d #[a,xs,rfl,c,hw,q]
def Og:LSl X md:=by
 intro J s Y H A S x a v m n lo hi l w S' I d r k hs pl j e;cases r with
 |tup b c=>
  cases e;obtain⟨T,id,g,h,i⟩:=Db J s Y H _ v m n lo hi l (wv X A H S (.tup (gB _ lo hi))) I k hs pl j #[_,_,rfl,b,λq=>.here d (.tup b (by have:=nV (lo:=lo) (hi:=hi) c;rw[q]at this;show this)),λp f=>.tup d (nV c) f]
  show#[T,id,g,h,a9 i λ_ _=>EP.post]
 |ref o=>
  dsimp only[md]at e;split at e
  next ws hw=>
   cases e;obtain⟨vs,b,c⟩:=bq d hw o;obtain⟨T,id,g,h,i⟩:=Cy J s Y H _ v m n lo hi l (wv X A H (S++[.lst (gB ws lo hi)]) (.ref ↥S)) I k hs pl j #[_,_,rfl,b,λp f=>.lst d (nV c) f]
   show#[T,id,g,h,a9 i λ_ _=>EP.post]
  ·cases e
 |_=>cases e
def lset (z:X.A.units+10<cLine):LSet X we:=by
 intro J s Y H A S o i x y w n u t v S' I m q b l a r c e;cases q with
 |ref g=>cases l with
  |int=>
   dsimp only[we]at e;split at e
   next ws hw=>
    split at e
    next j h=>cases e;obtain⟨vs,p,k⟩:=eN m hw g;rw[↥k]at h;obtain⟨d,ex⟩:=m.write (kW hw) g (k.set r j);show a9 (ym J s Y H _ _ _ u t v (λf=>f=aW H _ (.lst (vs.set j n))) I b a c #[_,_,_,_,rfl,rfl,p,h,rfl]) λ_ B #[f,I',e']=>#[_,A,e'▸I',ex,d]
    ·cases e
   ·cases e
  |_=>cases e
 |_=>cases l<;>cases e
abbrev sj (xs:Ow W)(S:aa):Oz (W×aa):=match xs with
 |[.tup a]=>ba (.int ↥a,S)
 |[.str y]=>if ↥y<=sizeLine then ba (.int ↥y,S)else gV
 |[.ref i]=>(gy S i).map λa=>(.int ↥a,S)
 |_=>gV
def wf:LCall X (.builtin "len") sj:=by
 intro J s Y H A S xs vs us w S' I a h d e;cases h with
 |nil=>cases e
 |cons r t=>
  cases t with
  |cons _ _=>cases r<;>cases e
  |nil=>
   cases r with
   |tup b c=>cases e;rw[↥c];show CallR.go kO I d #[_,_,rfl,.inr #[_,b,rfl],.here a .int]
   |str=>
    dsimp only[sj]at e;split at e
    ·cases e;show CallR.go kO I d #[_,_,rfl,#[by assumption,rfl],.here a .int]
    ·cases e
   |ref g=>
    (dsimp only[sj]at e;simp only[OG]at e)
    obtain⟨ws,hw,f⟩:=e;cases f;obtain⟨i,b,c⟩:=bq a hw g;rw[↥c];show CallR.go kO I d #[_,_,rfl,.inl #[_,b,rfl],.here a .int]
   |_=>cases e
abbrev pN (xs:Ow W)(S:aa):Oz (W×aa):=match xs with
 |[x]=>match dF S x with
  |some a=>ba (.ref ↥S,S++[.lst a])
  |none=>gV
 |_=>gV
def sr:LCall X (.type "list") pN:=by
 intro J s Y H A S xs vs us w S' I b g h e;cases g with
 |nil=>cases e
 |cons r t=>
  cases t with
  |cons _ _=>cases e
  |nil=>
   dsimp only[pN]at e;split at e
   next i d=>cases e;obtain⟨p,a,rfl,c,f⟩:=nU (J:=J) (Y:=Y) (s:=s) b r d;show CallR.go nR I h #[p,a,rfl,c,λl hl=>.lst b f hl]
   ·cases e
abbrev kY (xs:Ow W)(S:aa):Oz (W×aa):=match xs with
 |[.tup a]=>ba (.tup a,S)
 |[.ref i]=>match gy S i with
  |some a=>ba (.tup a,S)
  |none=>gV
 |_=>gV
def pP:LCall X (.type "tuple") kY:=by
 intro J s Y H A S xs vs us w S' I c h d e;cases h with
 |nil=>cases e
 |cons r t=>
  cases t with
  |cons _ _=>cases r<;>cases e
  |nil=>
   cases r with
   |tup a b=>cases e;show CallR.go gJ I d #[_,_,rfl,.inr #[a,.here c (.tup a b)]]
   |ref f=>
    dsimp only[kY]at e;split at e
    next j g=>cases e;obtain⟨i,a,b⟩:=bq c g f;show CallR.go gJ I d #[_,_,rfl,.inl #[a,λl hl=>.tup c b hl]]
    ·cases e
   |_=>cases e
abbrev Ku (xs:Ow W)(S:aa):Oz (W×aa):=match xs with
 |[.int i]=>ba (.int (if i<0 then -i else i),S)
 |_=>gV
def wj:LCall X (.builtin "abs") Ku:=by
 intro J s Y H A S xs vs us w S' I c a b e;cases a with
 |nil=>cases e
 |cons r t=>
  cases t with
  |cons _ _=>cases r<;>cases e
  |nil=>
   cases r with
   |int=>cases e;show CallR.go yd I b #[_,rfl,.here c .int]
   |_=>cases e
abbrev Kv (xs:Ow W)(S:aa):Oz (W×aa):=match xs with
 |[.int i]=>ba (.int i,S)
 |[.bl b]=>ba (.int (if b then 1 else 0),S)
 |_=>gV
def wm:LCall X (.type "int") Kv:=by
 intro J s Y H A S xs vs us w S' I b c a e;cases c with
 |nil=>cases e
 |cons r t=>
  cases t with
  |cons _ _=>cases r<;>cases e
  |nil=>
   cases r with
   |int=>cases e;show CallR.go mw I a (.inl #[_,rfl,.here b .int])
   |bl=>cases e;show CallR.go mw I a (.inr #[_,rfl,.here b .int])
   |_=>cases e
abbrev iy (x:W)(xs:Ow W)(S:aa):Oz (W×aa):=match x,xs with
 |.ref i,[y]=>match pE S i with
  |some a=>if ↥a<sizeLine then ba (.non,S.set i (.lst (a++[y])))else gV
  |none=>gV
 |_,_=>gV
def mG (f:wk X A H S)(e:pE S i=ba c)(d:A[i]?=ba p)(r:RelL X.K A H ws us)(a:Rel X.K A H w v) :
  wv X A H (S.set i (.lst ws)) w v (aW H p (.lst us)):=by
 obtain⟨b,ex⟩:=f.write (kW e) d r;show#[A,ex,b,a.mono ex]
def nW:ur X "list.append" iy:=by
 intro J s Y H A S x a u xs vs us w S' I f k i h j e;cases k with
 |ref b=>
  cases h with
  |nil=>cases e
  |cons r t=>
   cases t with
   |cons _ _=>cases e
   |nil=>
    dsimp only[iy]at e;split at e
    ·rename_i m c;split at e
     next hl=>cases e;obtain⟨l,g,d⟩:=eN f c b;rw[↥d]at hl;show MtR.go vX I i j #[_,_,_,rfl,rfl,g,hl,mG f c b (d.append #v[r]) .non]
     ·cases e
    ·cases e
 |_=>cases e
abbrev kv (x:W)(xs:Ow W)(S:aa):Oz (W×aa):=match x,xs with
 |.ref i,[.ref j]=>match pE S i,pE S j with
  |some a,ba b=>if ↥a+↥b<=sizeLine then ba (.non,S.set i (.lst (a++b)))else gV
  |_,_=>gV
 |_,_=>gV
def nX:ur X "list.extend" kv:=by
 intro J s Y H A S x a u xs vs us w S' I b o m l n e;cases o with
 |ref c=>
  cases l with
  |nil=>cases e
  |cons r t=>
   cases t with
   |cons _ _=>cases r<;>cases e
   |nil=>
    cases r with
    |ref h=>
     dsimp only[kv]at e;split at e
     ·rename_i v y d k;split at e
      next hl=>cases e;obtain⟨p,i,f⟩:=eN b d c;obtain⟨q,j,g⟩:=eN b k h;rw[↥f,↥g]at hl;show MtR.go vY I m n #[_,_,_,_,rfl,rfl,i,j,hl,mG b d c (f.append g) .non]
      ·cases e
     ·cases e
    |_=>cases e
 |_=>cases e
abbrev jr:Ow W->Oz (Ow OM)
 |[]=>ba []
 |.str x::xs=>(jr xs).map (x :: ·)
 |_::_=>gV
abbrev uu (x:W)(xs:Ow W)(S:aa):Oz (W×aa):=match x,xs with
 |.str x,[y]=>match dF S y with
  |some b=>match jr b with
   |some a=>if (a.map (·.length)).sum+↥a*↥x<=16777216 then ba (.str (ZZ x a),S)else gV
   |none=>gV
  |none=>gV
 |_,_=>gV
def kZ:∀{ws:Ow W}{vs:Ow V}{us:Ow Oy}{a:Ow OM},RelL X.K A H ws vs->Vals vs us->jr ws=ba a->ZI us a
 |_,_,_,a,.nil,.nil,e=>by cases e;show .nil
 |_,_,_,a,.cons r t,.cons q p,e=>by
  cases r with
  |str=>
   (dsimp only[jr]at e;simp only[OG]at e)
   obtain⟨z,b,c⟩:=e;subst c;obtain⟨tk,rfl⟩:∃t,_=TH _ t:=q;show .cons _ tk (kZ t p b)
  |_=>cases e
def su:ur X "str.join" uu:=by
 intro J s Y H A S x a u xs vs us w S' I h q n m o e;cases q with
 |str=>
  cases m with
  |nil=>cases e
  |cons r t=>
   cases t with
   |cons _ _=>cases e
   |nil=>
    simp only[uu]at e;split at e
    ·rename_i B l;split at e
     ·rename_i C i;split at e
      ·rename_i hl;cases e;obtain⟨p,y,rfl,b,j⟩:=nU (J:=J) (Y:=Y) (s:=s) h r l;obtain⟨z,rfl⟩:∃t,u=TH _ t:=n;obtain⟨v,rfl,g⟩:=il o;have c:v=Ps p:=g;subst c;rcases b with b|b
       ·obtain⟨its,f,pl,d⟩:=I.list b;show join_list pl.isList (by simpa using kZ j f i) hl λt' k=>#[.str _,H,A,I.tok _,#[_,rfl],.refl,h,.str]
       ·obtain⟨its,f,pl,d⟩:=I.tuple b;show join_tuple pl (by simpa using kZ j f i) hl λt' k=>#[.str _,H,A,I.tok _,#[_,rfl],.refl,h,.str]
      ·cases e
     ·cases e
    ·cases e
 |_=>cases e
abbrev gW (S:aa):W->Oz O6
 |.non=>ba false
 |.bl b=>ba b
 |.int i=>ba (i != 0)
 |.str y=>if ↥y<=sizeLine then ba ((↥y:O8) != 0)else gV
 |.tup xs=>ba (!xs.isEmpty)
 |.ref i=>(gy S i).map λxs=>!xs.isEmpty
def jT (r:RelL X.K A H ws vs):(!ws.isEmpty) = !vs.isEmpty:=by cases r<;>rfl
def Na (I:Inv X J Y H s)(n:wk X A H S)(m:Rel X.K A H x a)(l:RelV a u)(e:gW S x=ba k)(j:∀c,Inv X J Y H c->Q k c) :
  wi X (truthy u) Q X.xe s:=by
 show a9 (GP _ s Y H a u (λb h=>b=k/\h=H) I l #[k,?_,rfl,rfl]) λb c #[h,I',e1,d]=>?_
 ·cases m with
  |non=>cases e;rfl
  |bl=>cases e;rfl
  |int=>cases e;rfl
  |str=>
   simp only[gW]at e;split at e
   ·cases e;show#[by assumption,rfl]
   ·cases e
  |tup f g=>cases e;show .inr (.inl #[_,f,jT g])
  |ref i=>
   simp only[gW,OG]at e;obtain⟨ws,hw,d⟩:=e;subst d;obtain⟨vs,f,g⟩:=bq n hw i;show .inl #[_,f,jT g]
 ·subst e1 d;show j c I'
end
abbrev nY (xs:Ow OM)(x:OM):Ow OM:=if x∈xs then xs else xs++[x]
abbrev eP (ss:Ow OM):Ow OM:=ss.foldl nY []
def wn :eP (ss++[x])=nY (eP ss) x:=by unfold eP;rw[List.foldl_append];rfl
def yP :(nY xs x).length<=↥xs+1:=by
 unfold nY;split
 ·show QJ _
 ·simp
def yQ:∀ss:Ow OM,(eP ss).length<=↥ss:=λss=>by
 unfold eP
 suffices h:∀(ss a:Ow OM),(ss.foldl nY a).length<=↥a+↥ss by simpa using h ss []
 intro ss
 induction ss with
 |nil=>intro a;simp
 |cons x ss ih=>
  intro a;have b:=ih (nY a x);have c:=yP (xs:=a) (x:=x);revert Uq Po;omega
abbrev aT (w:Pk):Qq:={cls:=.type "set",dict:=gV,data:=.set #[] 0 (.fresh 0 0 (!yF w))}
def wo :fI w [] (aT w):=#[#[rfl,rfl,rfl],#[],0,_,rfl,#[λe a=>by simp at a,by simp,.nil,#v[],rfl]]
variable{prog:Pe}{A:Pl}{R:Vf->OB->Prop}{I:OF}{fp:Ow OF}
section
variable{w:Pk}{E:Oy->OB->Prop}{s:OB}{wr:Ow OF}{G:Pc UG->Pc UG->Prop}{n:OH}{P:OH->Oy->Prop}{St:OH->OB->Prop}
def yR (W:WalksS prog w A.in1 I fp wr G n P St)(B:D∉fp)(hl:↥ss=n)(H:∀i v,P i v->∃x tk,ss[i]?=ba x/\v=.str x tk)(O:n+1<scanBound) :
  ∀ k i s o,n-i=k->i<=n->St i s->s.heap.get? D=ba o->fI w (eP (ss.take i)) o->
   (∀f o',Z0 (D::wr) G s f->f.heap.get? D=ba o'->fI w (eP ss) o'->R (.ok (.ret .none)) f)->codeAny (model prog w) A (.builtin "set.update.loop" #[[.ref D,.ref I],[]]) R s:=by
 have hw:D∉wr:=λz=>B (W.sub _ z)
 have E:∀b∈wr,b∈D::wr:=λb z=>OV _ z
 intro k
 induction k with
 |zero=>
  intro i s o hk hi st m g h;obtain rfl:i=n:=∅
  show Qo F.entry_set_update_loop ?_;rw[Ru F.plain_set_update_loop _];change wpAny _ A.in1 (pyNext (.ref I) >>= _) _ _ s;show Ox (W.done s _ _ st λf mv=>?_)
  show OD (h f o (mv.mono E) (mv.heap D _ hw m) (by rw[Re ∅]at g;show g))
 |succ k ih=>
  intro i s o hk hi st m g h;have e:i<n:=∅
  show Qo F.entry_set_update_loop ?_;rw[Ru F.plain_set_update_loop _];change wpAny _ A.in1 (pyNext (.ref I) >>= _) _ _ s;show Ox (W.item i s _ _ e st λv a pv y mv=>?_)
  obtain⟨x,tk,J,rfl⟩:=H i v pv;change wpAny _ A.in1 (holding [TH x tk] (setAdd D (.str x tk)) >>= _) _ _ a;show Ox (PQ ?_);unfold setAdd;show PQ (Ox (Vn ?_));have d:(eP (ss.take i)).length+1<scanBound:=by
   have:=yQ (ss.take i);rw[Py]at this;omega
  have L:a.heap.get? D=ba o:=mv.heap D _ hw m;show CN (s:={a with toks:=a.toks+1}) L g d λb h' o' C p j=>?_
  show OD #[Se F.plain_set_update_loop _,ih (i+1) {a with heap:=h',toks:=a.toks+1} o' ∅ e (W.frame _ a _ _ y (QJ _) λc hc u q=>?_) p ?_ λN M t r l=>?_]
  ·rw[C.2 c λz=>B (z▸hc)];show q
  ·rw[List.take_succ,J];change fI w (eP (ss.take i++[x])) o';rw[wn];show j
  ·show h N M (Z0.trans W.gtrans ((mv.mono E).then_heap (QJ _) λc u hc q=>?_) t) r l
   rw[C.2 c λz=>hc (z▸OU)]
   show q
def pQ (a:Oy)(h:Q₁ (.ref ⇑s.heap.objs) {s with heap:=s.heap.push (aT w)}):codeAny (model prog w) A (.call (.builtin "set.__new__") #[[.type "set",a],[]]) (wants Q₁ E) s:=by
 show Ur ?_;show Ox (U8 (F.newCall_set_1 a) (OD #[Se F.plain_set_new _,Qo F.entry_set_new ?_]));unfold SY.«set.__new__» Yl;have b:=PySem.sub_set_self;obtain⟨c,g,d,tk,os⟩:=s
 wp_walk
 show wpAny_askSetting (OD ?_);show Ox (Zf (OD (OD h)))
set_option maxHeartbeats 4000000 in
def yS {l:OF}{its:Pc Oy}{ss:Ow OM}{Q:Oy->OB->Prop}(S:A.handled=gV)(hl:s.heap.IsList l its)(hi:ZI its.toList ss)(m:↥ss+1<scanBound)
  (h:∀h' tk o,h'.get? ⇑s.heap.objs=ba o->fI w (eP ss) o->(∀b u,s.heap.get? b=ba u->h'.get? b=ba u)->Q (.ref ⇑s.heap.objs) (ww s h' tk)):wh prog w A (call (.type "set") [.ref l]) Q E s:=by
 obtain⟨c,tl,z⟩:=F.called_set.mro;have t:=F.called_set.made;have B:=F.called_set.sub;have U:=F.called_set.notType;have V:=F.called_set.canCreate;have P:=F.typeCall_set_1 (.ref l);show Sw (Ur ?_);change wpAny _ _ (callAny (.type "set") _) _ _ _;show OD #[Sz _ (by decide +kernel),Qo F.entry_type_call ?_]
 rw[WH (VR "set" [.ref l] []) rfl]
 repeat (any_goals (first|assumption|wp_step))
 show Rr (pQ (w:=w) (.ref l) (E:=E) (Q₁:=λobj I=>obj=.ref ⇑s.heap.objs/\I={s with heap:=s.heap.push (aT w)}) #[rfl,rfl]) λr I d=>?_
 match r,d with
 |.ok (.ret obj),d=>
  obtain⟨rfl,rfl⟩:=d;have H:(s.heap.push (aT w)).get? ⇑s.heap.objs=ba (aT w):=OX _ rfl;have tS:YE {s with heap:=s.heap.push (aT w)} (.ref ⇑s.heap.objs) "set":=#[_,H,rfl]
  have T:=F.called_set.init.lookup;have O:=F.called_set.init.bind (.ref ⇑s.heap.objs)
  repeat (any_goals (first|assumption|wp_step))
  show Rr (Rt (R:=wants (λr J=>r=.none/\∃h' tk o,J=(ww s h' tk)/\h'.get? ⇑s.heap.objs=ba o/\fI w (eP ss) o/\∀b u,s.heap.get? b=ba u->h'.get? b=ba u) E) F.called_set.init.plain F.entry_set_init (Xs tS ?_)) λZ J a=>?_
  ·obtain⟨⟨oc,od,ot,osl⟩,j,f,X,g⟩:=id hl;simp only at f g;subst f g;have k:=OA (aT w) j;have C:(s.heap.push (aT w)).IsList l its:=#[_,k,rfl,X,rfl];have e1:=F.sub_list_set;have e2:=F.sub_list_frozenset;have e3:(QV "list" == QV "dict")=false:=by decide
   unfold SY.«set.__init__» noKeywords Ut;generalize n:pyIter=PI
   wp_walk
   subst n;show SQ C (Ox (UN ?_));have G:l<⇑s.heap.objs:=O4 j;have sz:(s.heap.push (aT w)).objs.size=⇑s.heap.objs+1:=QM ..;have ne:l≠(s.heap.push (aT w)).objs.size:=by rw[sz];show Pa (RB G)
   show yR ((Ym (A:=A.in1.in1.in1) (by simp[S]) _ l ne its).toS) (D:=⇑s.heap.objs) (ss:=ss) (by rw[sz];revert O2 PL Q9 V0;show#[Pa (Rq _),PZ G]) (by rw[<- ↥hi,OW]) (λi v q=>?_) (by rw[<- OW,↥hi];show m) _ 0 _ (aT w) rfl (Qd _)
    #[#[_,OX _ rfl,rfl,rfl],C.push _] (OA _ H) wo λs3 Y mv y p=>?_
   ·obtain⟨x,tk,e,W⟩:=hi.item i v (by rw[QD];show q)
    show#[x,tk,W,e]
   ·rw[YF mv];show OD (OD #[rfl,s3.heap,s3.toks,Y,rfl,y,p,λb u q=>?_])
    have m:=O4 q;show mv.heap b u (by rw[sz];revert O2 PL Q9 V0;show#[Pa m,Pa (RB m)]) (OA _ (OA _ q))
  ·match Z,a with
   |.ok (.ret r),a=>
    obtain⟨rfl,h',tk,o,rfl,L,M,N⟩:=a
    repeat (any_goals (first|assumption|wp_step))
    show h h' tk o L M N
   |.ok .next,a=>show a.elim
   |.ok .brk,a=>show a.elim
   |.ok .cont,a=>show a.elim
   |.error e,a=>show a
 |.ok .next,d=>show d.elim
 |.ok .brk,d=>show d.elim
 |.ok .cont,d=>show d.elim
 |.error e,d=>show d
end
abbrev pR:Ow W->Oz (Ow OM)
 |[]=>ba []
 |.str x::ws=>(pR ws).map (x :: ·)
 |_::_=>gV
def pS:∀{ws:Ow W}{ss:Ow OM},pR ws=ba ss->ws=ss.map .str
 |[],_,h=>by cases h;rfl
 |.str x::ws,_,h=>by
  obtain⟨ss,a,rfl⟩:=OG.mp h;rw[pS a];rfl
 |.non::_,_,h|.bl _::_,_,h|.int _::_,_,h|.tup _::_,_,h|.ref _::_,_,h=>by cases h
def mH:∀{ss:Ow OM},pR (ss.map .str)=ba ss
 |[]=>rfl
 |x::ss=>by revert PK pR mH P3
abbrev js (xs:Ow W)(S:aa):Oz (W×aa):=match xs with
 |[.ref i]=>match gy S i with
  |some ws=>match pR ws with
   |some ss=>if ↥ss+1<scanBound then ba (.ref ↥S,S++[.stt (eP ss).length])else gV
   |none=>gV
  |none=>gV
 |_=>gV
section
variable{s:OB}{A:Ow OF}
def Inv.drawn (I:Inv X J Y H s)(d:Yqd):Inv X J Y H {s with drawn:=d}:=#[I.ok,I.os,I.bare,I.base,I.loc,I.cell,I.free,I.freeC,I.pin,I.hok,I.len]
def pT {D:OF}(I:Inv X J Y H s)(e:wk X A H S)(hk:∀b o,s.heap.get? b=ba o->h'.get? b=ba o)(d:⇑s.heap.objs<=D)(new:ObjOk X.prog X.w (aW H D u) h' D u)
  (r:H D=gV->ObjRel X.w X.K (A++[D]) (aW H D u) D n):PostE X J Y A H (S++[n]) (.ref ↥S) (.ref D) {s with heap:=h',toks:=tk,drawn:=dr}:=by
 have c:H D=gV:=I.hok.fresh d;show#[.ref D,_,A++[D],Mi.Inv.drawn (I.laid (a:=D) (o:=u) (t':=tk) hk d new) dr,rfl,dY c,e.pushO c (r c),.ref ?_];rw[<- e.len];simp
def mI:∀{ss:Ow OM}{vs:Ow V}{us:Ow Oy},RelL X.K A H (ss.map .str) vs->Vals vs us->ZI us ss
 |[],_,_,.nil,a=>by cases a;show .nil
 |x::ss,_,_,.cons r t,a=>by
  cases a with
  |cons b a=>
   cases r;obtain⟨tk,rfl⟩:=b;show .cons x tk (mI t a)
def uw {xs:Ow W}(d:RelL X.K A H [.ref i] vs)(b:Vals vs us):∃a,A[i]?=ba a/\us=[.ref a]:=by
 cases d with
 |cons r t=>
  cases t;cases r with
  |@ref _ a c=>
   cases b with
   |cons e b=>
    cases b;obtain rfl:_=Ps a:=e;show#[a,c,rfl]
def wp (x:X.A.handled=gV):LCall X (.type "set") js:=by
 intro J s Y H A S xs vs us w S' I l y z e;unfold js at e;split at e
 next i=>
  obtain⟨a,m,rfl⟩:=uw (xs:=[]) y z;split at e
  next ws hw=>
   split at e
   next ss hs=>
    split at e
    ·rename_i v;cases e;obtain⟨B,g,j⟩:=bq l hw m;obtain⟨its,f,p,_⟩:=I.list g;rw[pS hs]at j;show yS x p.isList (by simpa using mI j f) v λh' tk o d r hk=>?_
     show pT (dr:=s.drawn) (u:=.frz o (.ext λh=>h.get? ⇑s.heap.objs=ba o)) I l hk (OR _) #[d,d,#[o,d],λg C q k=>k _ q] λ_=>#[o,_,au,?_]
     obtain⟨c,es,n,t,hd,b⟩:=r;show#[c,es,n,t,hd,⇑b,W3 b.few,⇑b▸b.fit]
    ·cases e
   ·cases e
  ·cases e
 ·cases e
end
mutual
inductive IsT (h:Pr):T->Oy->Prop
 |int {i:O8}{t:ZU}:IsT h (.int i) (.int i t)
 |str {x:OM}{t:ZU}:IsT h (.str x) (.str x t)
 |tup {ks:Ow T}{a:OF}{o:Qq}{items:Pc Oy}{n:OH}:h.get? a=ba o->o.cls=.type "tuple"->o.data=.seq items n->IsTs h ks items.toList->IsT h (.tup ks) (.ref a)
inductive IsTs (h:Pr):Ow T->Ow Oy->Prop
 |nil:IsTs h [] []
 |cons {k:T}{v:Oy}{ks:Ow T}{vs:Ow Oy}:IsT h k v->IsTs h ks vs->IsTs h (k::ks) (v::vs)
end
def IsT.inj (i:IsT h x v):IsT h y v->x=y:=by
 show IsT.rec (motive_1:=λx v _=>∀y,IsT h y v->x=y) (motive_2:=λx v _=>∀y,IsTs h y v->x=y) ?_ ?_ ?_ ?_ ?_ i y
 ·intro _ _ _ a;cases a;rfl
 ·intro _ _ _ a;cases a;rfl
 ·intro _ _ _ _ _ f _ g _ ih _ a;cases a with
  |tup b _ e t2=>
   rw[f]at b;cases b
   rw[g]at e;cases e
   rw[ih _ t2]
 ·intro _ a;cases a;rfl
 ·intro _ _ _ _ _ _ i1 j _ a;cases a with
  |cons c d=>rw[i1 _ c,j _ d]
def IsT.keeps (f:h.get? d=ba o)(hd:o.data=.dict es i)(hs:Q5 d h h')(j:IsT h x v):IsT h' x v:=by
 show IsT.rec (motive_1:=λx v _=>IsT h' x v) (motive_2:=λx v _=>IsTs h' x v) .int .str ?_ .nil (λ_ _ a b=>.cons a b) j
 intro _ _ _ _ _ c g e _ ih;show .tup ((hs.2 _ λz=>by subst z;rw[c]at f;cases f;rw[e]at hd;cases hd).trans c) g e ih
def IsTs.length :∀{x:Ow T}{v:Ow Oy},IsTs h x v->↥x=↥v
 |_,_,.nil=>rfl
 |_,_,.cons _ b=>by simp[IsTs.length b]
def IsTs.get :∀{x:Ow T}{v:Ow Oy},IsTs h x v->∀ j c (d:j<↥v),IsT h x[j] v[j]:=by
 intro x
 induction x with
 |nil=>intro v r j c;show absurd c (QP _)
 |cons x xs ih=>
  intro v r j c d;cases r with
  |cons a b=>
   cases j with
   |zero=>show a
   |succ j=>show ih b j (Vz c) (Vz d)
def db:∀{ks:Ow T} j (h:j<↥ks),(ks[j]).depth<=T.depths ks
 |k::ks,0,_=>by revert T.depths List.getElem_cons_zero;omega
 |k::ks,j+1,h=>by
  have:=db  j (by simpa using h)
  delta T.depths List.getElem_cons_succ;omega
section
variable{w:Pk}{E:Oy->OB->Prop}
mutual
theorem pU:∀(k:T) (v:Oy) (A:Pl) (s:OB) (Q:O8->OB->Prop),IsT s.heap k v->A.units+k.depth<cLine->Q (dE w k) {s with toks:=s.toks+k.draws}->wh prog w A (pyHash v) Q E s
 |.int i,_,A,s,Q,x,_,h=>by cases x;show Xj h
 |.str y,_,A,s,Q,x,_,h=>by cases x;show Vn h
 |.tup ks,_,A,s,Q,x,hu,h=>by
  cases x with
  |@tup _ a o items n hg hc hd hw=>
   simp only[T.depth]at hu;show PySem.W.pyHash_slot (T:="tuple") #[_,hg,hc] F.slot_tuple_hash F.entry_tuple_hash (F.args_tuple_hash_1 _) (beq_builtin_none _) (.inr ∅) ?_
   change wpAny _ _ (SU (.ref a) >>= _) _ _ s;show Ox (wpAny_tupleItemsOf hg hd ?_);show Ox ?_;rw[<- TB];show la ks items.toList A.in1 s #[] _ hw (by rw[bg];omega) λb hb=>?_
   change wpAny _ _ (retInt (Tf b.toList)) _ _ _;rw[hb];show Ox (Zg (OD #[_,_,rfl,?_]))
   simpa [T.draws,YG,dE]using h
theorem la:∀(ks:Ow T) (vs:Ow Oy) (A:Pl) (s:OB) (b:Pc O8) (Q:Pc O8->OB->Prop),IsTs s.heap ks vs->A.units+T.depths ks<cLine->
  (∀b',b'.toList=b.toList++gU w ks->Q b' {s with toks:=s.toks+T.drawss ks})->
  wh prog w A (forIn vs b λx r=>do let h <- pyHash x;pure PUnit.unit;pure (Ri (r.push h))) Q E s
 |[],_,A,s,b,Q,x,_,h=>by cases x;show OD (h b (by simp[gU]))
 |k::ks,_,A,s,b,Q,x,hu,h=>by
  cases x with
  |cons x1 x2=>
   simp only[T.depths]at hu;rw[Us];show Ox (Ox (pU k _ A s _ x1 ∅ ?_))
   show Ox (OD (OD ?_));show la ks _ A _ _ Q x2 ∅ λb' hb=>?_
   have:=h b' (by simp[hb,gU])
   simpa [T.drawss,YG]using this
end
open SeqAt in
def Dc:∀(d:OH) (x y:T) (u v:Oy) (B:Pl) (s:OB),x.depth<=d->IsT s.heap x u->IsT s.heap y v->B.units+d<cLine->B.units+y.depth<cLine->EqAt B s u v (decide (x=y))
 |d,.int i,y,_,_,B,s,_,k,l,J,p=>by
  cases k;cases l with
  |int=>
   rename_i j t2;have:decide (T.int i=T.int j)=(i==j):=by by_cases e:i=j<;>simp[e]
   rw[this];show .int_int _ _ _ _
  |str=>rw[Pw (by simp)];show .int_str _ _ _ _
  |tup a c dd t=>rw[Pw (by simp)];show .int_tuple _ _ #[_,a,c,_,dd] (by simp only[T.depth]at p;omega)
 |d,.str z,y,_,_,B,s,_,k,l,J,p=>by
  cases k;cases l with
  |int=>rw[Pw (by simp)];show .str_int _ _ _ _
  |str=>
   rename_i L t2;have:decide (T.str z=T.str L)=(z==L):=by by_cases e:z=L<;>simp[e]
   rw[this];show .str_str _ _ _ _
  |tup a c dd t=>rw[Pw (by simp)];show .str_tuple _ _ #[_,a,c,_,dd] (by simp only[T.depth]at p;omega)
 |0,.tup ks,y,_,_,B,s,hd,k,l,J,p=>by simp[T.depth]at hd
 |d+1,.tup ks,y,_,_,B,s,hd,k,l,J,p=>by
  have D:=k;cases k with
  |@tup _ a o items n Q R S P=>
   have E:s.heap.IsTuple a items:=#[_,Q,R,_,S];simp only[T.depth]at hd;cases l with
   |int=>rw[Pw (by simp)];show .tuple_int _ _ E ∅
   |str=>rw[Pw (by simp)];show .tuple_str _ _ E ∅
   |@tup g b Z f Y M N O t2=>
    have G:s.heap.IsTuple b f:=#[_,M,N,_,O]
    by_cases q:a=b
    ·subst q;have:T.tup ks=T.tup g:=D.inj (.tup M N O t2);rw[Pq this];show EqAt.same _
    ·show EqAt.of_refs q ?_;simp only[T.depth]at p;have A:⇑items=↥ks:=by rw[<- OW,↥P]
     have C:⇑f=↥g:=by rw[<- OW,↥t2]
     let e:OH->O6:=λj=>if h:j<↥ks/\j<↥g then decide (ks[j]'h.1=g[j]'h.2)else true
     have W:∀j (k:j<⇑items) (l:j<⇑f),EqAt B.in1 s items[j] f[j] (e j):=λj r w=>by
      have U:=P.get j (A▸r) (by simpa using r)
      have V:=t2.get j (C▸w) (by simpa using w)
      have q1:=db (ks:=ks) j (A▸r);have q2:=db (ks:=g) j (C▸w);have:=Dc d _ _ _ _ B.in1 s ∅ U V (by rw[bg];omega) (by rw[bg];omega)
      change EqAt B.in1 s items[j] f[j] (if h:j<↥ks/\j<↥g then decide (ks[j]'h.1=g[j]'h.2)else true)
      rw[ZJ #[A▸r,C▸w]]
      simpa using this
     have:=RcAt.tuples E G ∅ W
     have hk:((Pj (min ⇑items ⇑f)).all e&&⇑items==⇑f)=decide (T.tup ks=T.tup g):=by
      rw[A,C]
      by_cases hl:↥ks=↥g
      ·by_cases I:ks=g
       ·subst I;revert YX PB To XN OT Pn;intro j m;show(if h:j<↥ks/\j<↥ks then decide (ks[j]'h.1=ks[j]'h.2)else true)=true
        rw[ZJ #[m,m]];simp
       ·rw[Pw (by simpa using I)]
        have:∃j,∃h:j<↥ks,ks[j]≠g[j]'(hl▸h):=by
         apply QS;intro X;show I (Sn hl λj k l=>QS λz=>X #[j,k,z])
        obtain⟨j,m,H⟩:=this;rw[T7];apply Or.inl;rw[List.all_eq_false];show#[j,by rw[Pn,<- hl,YX];show m,?_]
        show ¬ (if h:j<↥ks/\j<↥g then decide (ks[j]'h.1=g[j]'h.2)else true)=true
        rw[ZJ #[m,hl▸m]]
        simpa using H
      ·rw[Pw (by simp;intro z;show hl (by rw[z])),T7]
       right
       simpa using hl
     rw[hk]at this;show this
def mJ (h:∀a,v≠.ref a):eqIsQuiet n v=pure true:=by
 cases v with
 |ref a=>show absurd rfl (h a)
 |_=>first|rfl|simp[eqIsQuiet]|(rfl)
def ky:∀ d k v A s Q,k.depth<=d->IsT s.heap k v->Q true s->wh prog w A (eqIsQuiet d v) Q E s
 |d,.int i,_,A,s,Q,_,x,h=>by cases x;rw[mJ (λa=>by simp)];show OD h
 |d,.str i,_,A,s,Q,_,x,h=>by cases x;rw[mJ (λa=>by simp)];show OD h
 |0,.tup ks,_,A,s,Q,hd,x,h=>by simp[T.depth]at hd
 |d+1,.tup ks,_,A,s,Q,hd,x,h=>by
  cases x with
  |@tup _ a o items n l hc e hi=>
   simp only[T.depth]at hd;have j:s.TypeIs (.ref a) _:=#[_,l,hc];unfold eqIsQuiet;show Ox (XW j F.slot_tuple_eq.lookup ?_);show Ox (T9 j isSubtype_tuple_tuple ?_);show Ox (QN l e ?_);show Ox ?_;rw[<- TB];show SZ _ (λaC r g=>r.1=gV/\g=s/\∃f,IsTs _ f aC/\T.depths f<=d) _ ?_ ?_ _ _ #[rfl,rfl,ks,hi,∅]
   ·rintro v aC r g ⟨m,rfl,f,b,c⟩;cases b with
    |cons p q=>
     simp only[T.depths]at c;show Ox (ky d _ v _ _ _ ∅ p ?_)
     show OD #[rfl,rfl,_,q,∅]
   ·rintro⟨t,u⟩ g ⟨m,rfl,_⟩;subst m;show OD h
end
abbrev bB (prog:Pe)(w:Pk):HeapKind prog w T where
 is:=λh k a=>IsT h k (.ref a)/\k.depth<=aD
 hash:=dE w
 draws:=T.draws
 room:=λA=>A.units+aD<cLine
 inj:=λb c=>b.1.inj c.1
 keeps:=λx e hd hs=>#[x.1.keeps e hd hs,x.2]
 pyHash:=λd hk h=>pU _ _ _ _ _ hk.1 (by have:=hk.2;omega) h
 eqBool:=λd b c h=>Dc aD _ _ _ _ _ _ b.2 b.1 c.1 d (by have:=c.2;omega) _ _ _ _ h
 quiet:=λhk h=>ky 8 _ _ _ _ _ (by have:=hk.2;unfold aD at this;omega) hk.1 h
section
variable{w:Pk}{E:Oy->OB->Prop}
def mK (h:∀a,v≠.ref a):ofAClassStatement n v=pure false:=by
 cases v with
 |ref a=>show absurd rfl (h a)
 |_=>first|rfl|dsimp only[ofAClassStatement]|(unfold ofAClassStatement;rfl)
def nZ:∀ d k v A s Q,k.depth<=d->IsT s.heap k v->Q false s->wh prog w A (ofAClassStatement d v) Q E s
 |d,.int i,_,A,s,Q,_,x,h=>by cases x;rw[mK (λa=>by simp)];show OD h
 |d,.str i,_,A,s,Q,_,x,h=>by cases x;rw[mK (λa=>by simp)];show OD h
 |0,.tup ks,_,A,s,Q,hd,x,h=>by simp[T.depth]at hd
 |d+1,.tup ks,_,A,s,Q,hd,x,h=>by
  cases x with
  |@tup _ a o items n l hc e hi=>
   simp only[T.depth]at hd;have m:s.TypeIs (.ref a) "tuple":=#[_,l,hc];unfold ofAClassStatement;show Ox (UA m ?_);dsimp only;rw[OZ (show("tuple" == "tuple")=true by decide)]
   show Ox (OD ?_);revert RQ Pu QA;show Ox (QN l e ?_);show Ox ?_;change wpAny _ _ (forIn items _ _) _ _ s;rw[<- TB];show SZ _ (λaC r j=>r.1=gV/\j=s/\∃g,IsTs s.heap g aC/\T.depths g<=d) _ ?_ ?_ _ _ #[rfl,rfl,ks,hi,∅]
   ·rintro v aC r j ⟨f,rfl,g,b,c⟩;cases b with
    |cons p q=>
     simp only[T.depths]at c;show Ox (nZ d _ v _ _ _ ∅ p ?_)
     revert Pu QA;show OD #[rfl,rfl,_,q,∅]
   ·rintro⟨t,u⟩ j ⟨f,rfl,_⟩;simp only at f;subst f;show OD h
def yT (f:IsT s.heap x (.ref b))(i:x.depth<=aD)(l:∀v∈g,∃y c,v=.ref c/\IsT s.heap y (.ref c)/\y.depth<=aD)(h:Q false s):wh prog w A (searchCouldBeSeen (.ref b) g) Q E s:=by
 unfold searchCouldBeSeen;show Ox ?_;show SZ _ (λaC r d=>r.1=gV/\d=s/\∀v∈aC,∃y c,v=.ref c/\IsT s.heap y (.ref c)/\y.depth<=aD) _ ?_ ?_ _ _ #[rfl,rfl,l]
 ·rintro v aC r d ⟨e,rfl,a⟩;obtain⟨y,c,rfl,q,j⟩:=a v (.head _);have hrest:∀v∈aC,∃y c,v=.ref c/\IsT d.heap y (.ref c)/\y.depth<=aD:=λv k=>a v (.tail _ k)
  have m:aD<=8:=by unfold aD;decide
  dsimp only;split
  ·show OD #[rfl,rfl,hrest]
  ·show Ox (ky 8 _ _ _ _ _ ∅ f ?_)
   revert RQ Pu QA;show Ox (ky 8 _ _ _ _ _ ∅ q ?_)
   revert RQ Pu QA;show Ox (nZ 8 _ _ _ _ _ ∅ f ?_)
   revert Pu QA;show Ox (nZ 8 _ _ _ _ _ ∅ q ?_)
   revert Pu QA;show OD #[rfl,rfl,hrest]
 ·rintro⟨n,o⟩ d ⟨e,rfl,_⟩;simp only at e;subst e;show OD h
end
inductive Sf where|there|free (slot:OH)
abbrev cG (es:Pc (O8×T))(t:Pz)(x:T)(h:O8):OH->Oz TU->Oz Sf
 |0,_=>gV
 |f+1,a=>match t.probe (λi=>(es[i]?.map (·.1)).getD 0) h (a.getD (t.probeStart h))with
  |none=>gV
  |some (.empty j gV)=>ba (.free j)
  |some (.empty _ (ba _))=>gV
  |some (.candidate j i next)=>match es[i]? with
   |none=>gV
   |some (_,y)=>if y=x then ba .there else if t.slot j=.live i then cG es t x h f (ba next)else gV
structure SE (h:Pr)(es0:Pc (O8×T))(es:Pc (O8×Oy)):Prop where
 size:⇑es0=⇑es
 ent:∀(i:OH) (hh:O8) (y:T),es0[i]?=ba (hh,y)->∃b:OF,es[i]?=ba (hh,Ps b)/\IsT h y (.ref b)/\y.depth<=aD
def SE.hash (R:SE h a es):(λ i=>(a[i]?.map (λp=>p.1)).getD 0)=λ(i:OH)=>(es[i]?.map (λp=>p.1)).getD 0:=by
 funext i
 cases e:a[i]? with
 |none=>
  have:es[i]?=gV:=by rw[UO]at e ⊢;rw[<- ⇑R];show e
  rw[this];rfl
 |some p=>
  obtain⟨b,c,_⟩:=R.ent i p.1 p.2 e;rw[c];rfl
def SE.vals (R:SE h a es):∀e∈es.toList,∃y c,e.2=.ref c/\IsT h y (.ref c)/\y.depth<=aD:=λe g=>by
 obtain⟨i,hi,rfl⟩:=Rv.mp g;rw[OW]at hi;have d:i<⇑a:=by rw[⇑R];show hi
 obtain⟨b,f,q⟩:=R.ent i a[i].1 a[i].2 (PJ d);rw[PJ hi]at f;show#[_,b,?_,q];rw[Ui,PR f]
section
variable{w:Pk}{E:Oy->OB->Prop}{s:OB}
def yU {V:OH}(J:s.heap.get? a=ba o)(hd:o.data=.set es V t)(hf:t.fits ⇑es=true)(W:t.gaveWay=false)(R:SE s.heap n es)
    (M:IsT s.heap x (.ref b)) (q:x.depth<=aD) (N:(bB prog w).room A):∀ f F g r,cG n t x h f g=ba r->f<=F->(r=.there->Q (.there gV) s)->(∀j,r=.free j->Q (.free j false) s)->
    wh prog w A (setSearchFrom a (.ref b) h true F g) Q E s:=by
  intro f
  induction f with
  |zero=>intro F g r e;cases e
  |succ f ih=>
    intro F g r e Y C I;obtain⟨F,rfl⟩:∃S,F=S+1:=#[F-1,∅]
    unfold setSearchFrom;show Ox (Rz J hd hf ?_);dsimp only;rw[W];revert Pu QA;unfold cG at e;rw[R.hash]at e;split
    · rename_i B l
      have l:t.probe (λi=>(es[i]?.map (·.1)).getD 0) h (g.getD (t.probeStart h))=ba B:=l
      rw[l]at e;cases B with
      |empty j U=>
        cases U with
        |none=>cases e;show OD (I j rfl)
        |some d=>cases e
      |candidate j i next=>
        dsimp only at e ⊢;cases H:n[i]? with
        |none=>rw[H]at e;cases e
        |some p=>
          obtain⟨X,y⟩:=p;rw[H]at e;dsimp only at e;obtain⟨c,G,O,z⟩:=R.ent i X y H;rw[G];dsimp only;have P:t.sameMemory t.moves t.mask=ba true:=by unfold Zu;rw[OZ (PB _)]
          have L:∀v∈Zh (λx=>x.snd) (Array.filter (λx=>x.fst==h) es).toList,∃y c,v=Ps c/\IsT s.heap y (.ref c)/\y.depth<=aD:=λv L=>by
            obtain⟨p,D,rfl⟩:=O0.mp L;rw[Array.toList_filter]at D;show R.vals p (Qy.mp D).1
          cases hl:t.led
          · revert UP QY
            show Ox (yT M q L ?_);revert Pu QA;show Ox (PQ ((bB prog w).eqBool N #[O,z] #[M,q] ?_));show Ox (Rz J hd hf ?_)
            by_cases k:y=x
            · rw[OZ k]at e
              cases e;revert k XN To QY;show OD (C rfl)
            · rw[Pd k]at e
              split at e
              · rename_i u
                revert k YY QI Pu QA P QY u G;show Ox (VS ?_);show Ox (OD ?_);revert QY;show ih F (ba next) r e ∅ C I
              · cases e
          · revert RQ Pu QA
            show Ox (PQ ((bB prog w).eqBool N #[O,z] #[M,q] ?_));show Ox (Rz J hd hf ?_)
            by_cases k:y=x
            · rw[OZ k]at e
              cases e;revert k XN To QY;show OD (C rfl)
            · rw[Pd k]at e
              split at e
              · rename_i u
                revert k YY QI Pu QA P QY u G;show Ox (VS ?_);show Ox (OD ?_);revert QY;show ih F (ba next) r e ∅ C I
              · cases e
    · rename_i l
      have l:t.probe (λi=>(es[i]?.map (·.1)).getD 0) h (g.getD (t.probeStart h))=gV:=by
        first|show l|(cases D:t.probe (λi=>(es[i]?.map (·.1)).getD 0) h (g.getD (t.probeStart h))with
          |none=>rfl
          |some m=>show absurd D (l m))
      rw[l]at e;cases e
end
mutual
def dA:T->O6
 |.int _=>true
 |.str _=>false
 |.tup xs=>b8 xs
def b8:Ow T->O6
 |[]=>true
 |x::xs=>dA x&&b8 xs
end
section
variable{w:Pk}{E:Oy->OB->Prop}
def uy:∀ d k v A s Q,dA k=true->k.depth<=d->IsT s.heap k v->Q true s->wh prog w A (hashByValue d v) Q E s
 |d,.int i,_,A,s,Q,_,_,x,h=>by
  cases x;have:∀t,hashByValue d (.int i t)=pure true:=λt=>by cases d<;>rfl
  rw[this];show OD h
 |d,.str i,_,A,s,Q,e,_,x,h=>by cases e
 |0,.tup ks,_,A,s,Q,_,hd,x,h=>by simp[T.depth]at hd
 |d+1,.tup ks,_,A,s,Q,e,hd,x,h=>by
  cases x with
  |@tup _ a o items n p hc j hi=>
   simp only[T.depth]at hd;have e:b8 ks=true:=e;have q:s.TypeIs (.ref a) "tuple":=#[_,p,hc];unfold hashByValue;show Ox (XW q F.slot_tuple_hash.lookup ?_);show Ox (QN p j ?_);show Ox ?_;change wpAny _ _ (forIn items _ _) _ _ s;rw[<- TB];show SZ _ (λaC r m=>r.1=gV/\m=s/\∃f,IsTs s.heap f aC/\T.depths f<=d/\b8 f=true) _ ?_ ?_ _ _ #[rfl,rfl,ks,hi,∅,e]
   ·rintro v aC r m ⟨l,rfl,f,c,g,b⟩;cases c with
    |cons u y=>
     simp only[T.depths]at g;simp only[b8,OE]at b;show Ox (uy d _ v _ _ _ b.1 ∅ u ?_)
     revert RQ Pu QA;show OD #[rfl,rfl,_,y,∅,b.2]
   ·rintro⟨z,B⟩ m ⟨l,rfl,_⟩;simp only at l;subst l;show OD h
end
noncomputable abbrev Ze:=O8×T×OF
abbrev zT (z:Ze):O8×T:=(z.1,z.2.1)
abbrev zV (z:Ze):O8×Oy:=(z.1,.ref z.2.2)
abbrev ZOk (h:Pr)(a:Pc Ze):Prop:=∀z∈a.toList,IsT h z.2.1 (.ref z.2.2)/\z.2.1.depth<=aD
def ZOk.se (k:ZOk h a):SE h (a.map zT) (a.map zV):=#[by simp,λi c y e=>by
 rw[TC,OG]at e;obtain⟨z,b,e⟩:=e;cases e;show#[z.2.2,by rw[TC,b];rfl,k z (by rw[QH];show Rk b)]]
def iA {f:α->β}:Ph (xs.map f) p (f x)=(Ph xs p x).map f:=by
 unfold Ph;simp[Array.map_extract]
abbrev dG (t:Pz)(n:OH):O6:=t.fits n && !t.gaveWay&&decide (n<=1000)
abbrev bM (hf:T->O8)(st:Pc (O8×T)×Pz)(x:T):Oz (Pc (O8×T)×Pz):=
 match cG st.1 st.2 x (hf x) 2000 gV with
 |none=>gV
 |some .there=>ba st
 |some (.free slot)=>
  if dG (st.2.put slot).1 (Ph st.1 (st.2.put slot).2 (hf x,x)).size then
   if (st.2.put slot).1.tooFull then
    if WI (QK (st.1.size+1))<=sizeLine then
     match (st.2.put slot).1.relaid ((Ph st.1 (st.2.put slot).2 (hf x,x)).map (·.1)) (QK (st.1.size+1))with
     |none=>gV
     |some (t2,a)=>
      if (a.filterMap ((Ph st.1 (st.2.put slot).2 (hf x,x))[·]?)).size=(Ph st.1 (st.2.put slot).2 (hf x,x)).size/\dG t2 (a.filterMap ((Ph st.1 (st.2.put slot).2 (hf x,x))[·]?)).size=true then ba (a.filterMap ((Ph st.1 (st.2.put slot).2 (hf x,x))[·]?),t2)else gV
    else gV
   else ba (Ph st.1 (st.2.put slot).2 (hf x,x),(st.2.put slot).1)
  else gV
def filterMap_map {α β:Type}{f:α->β}{xs:Pc α}{a:Pc OH}:a.filterMap ((xs.map f)[·]?)=(a.filterMap (xs[·]?)).map f:=by
 rw[Array.map_filterMap];congr 1
 funext i
 show TC ..
def sv :byScan (.ref b) es=false:=rfl
def lc (h:dG t n=true):t.fits n=true/\t.gaveWay=false/\n<=1000:=by
 unfold dG at h;simp only[OE,R8,O1]at h;show#[h.1.1,h.1.2,h.2]
section
variable{w:Pk}{E:Oy->OB->Prop}{s:OB}
def sw (e:s.heap.get? a=ba o)(hd:o.data=.set es d t)(f:⇑b<=1000)
  (h:∀h',Q5 a s.heap h'->h'.get? a=ba {o with data:=.set b (d+1) c}->Q () {s with heap:=h'}):wh prog w A (storeSet a b c) Q E s:=by
 show W2 e hd (h _ (RH ..) ?_) (OQ f (by rw[Qc];decide))
 have:=P8 (ZB b c) e (by rw[Xq b c hd];rfl)
 rw[Xq b c hd]at this;show this
def Kw {H:Pc (O8×T)}(D:s.heap.get? a=ba o)(hd:o.data=.set (d.map zV) G t)(L:dG t ⇑d=true)(W:ZOk s.heap d)
  (hx:IsT s.heap x (.ref b)) (I:x.depth<=aD) (U:dA x=true) (hu:(bB prog w).room A) (e:bM hf (d.map zT,t) x=ba (H,N))
  (k:∀ bb h' (u:Pc Ze) ep',u.map zT=H->dG N ⇑u=true->Q5 a s.heap h'->h'.get? a=ba {o with data:=.set (u.map zV) ep' N}->(∀z∈u.toList,z∈d.toList\/z=(hf x,x,b))->Q bb {s with heap:=h'}) :
  wh prog w A (setAddHashed a (.ref b) (hf x)) Q E s:=by
 obtain⟨f1,f2,f3⟩:=lc L;have B:t.fits (d.map zV).size=true:=by rw[Qu];show f1
 unfold setAddHashed setAddHashedIn;show PQ (Ox (Rz D hd B ?_));dsimp only;rw[sv];revert Pu QA;unfold bM at e;cases hs:cG (d.map zT) t x (hf x) 2000 gV with
 |none=>rw[hs]at e;cases e
 |some r=>
  rw[hs]at e;dsimp only at e;show Ox ?_;unfold setSearch;show yU D hd B f2 W.se hx I hu 2000 100000 gV r hs #v[] (λV=>?_) λslot V=>?_
  ·subst V;cases e;show OD (k false s.heap d G rfl L (W4 ..) (by rw[<- hd];show D) λz h=>.inl h)
  ·subst V;dsimp only at e ⊢;show Ox (Rz D hd B ?_);dsimp only;split at e
   next c=>
    have Z:Ph (d.map zT) (t.put slot).2 (hf x,x)=(Ph d (t.put slot).2 (hf x,x,b)).map zT:=iA (f:=zT) (x:=(hf x,x,b));have eV:Ph (d.map zV) (t.put slot).2 (hf x,.ref b)=(Ph d (t.put slot).2 (hf x,x,b)).map zV:=iA (f:=zV) (x:=(hf x,x,b));have j:∀z∈(Ph d (t.put slot).2 (hf x,x,b)).toList,z∈d.toList\/z=(hf x,x,b):=λz h=>by
     unfold Ph at h;simp only[Uy,U7,Px,O3]at h;rcases h with(h|h)|h
     ·rw[SV]at h;show .inl (by rw[U3]at h;show R9 (Rw h))
     ·show .inr h
     ·rw[SV]at h;show .inl (by rw[U3]at h;show R9 (Rw h))
    rw[Z]at e c;rw[Qu]at c;obtain⟨O,g2,R⟩:=lc c;rw[eV];have J:∀n:Pc Ze,So (λx=>x.fst) (So zV n)=So (λx=>x.fst) (So zT n):=λn=>by
     rw[YH,YH];rfl
    simp only[Qu]at e ⊢;generalize(t.put slot).1=tt at e c O g2 ⊢;generalize Ph d (t.put slot).2 (hf x,x,b)=n at e c O R j ⊢;clear Z eV;have k8:x.depth<=8:=OQ I (by unfold aD;decide)
    have P:tt.fits (So zV n).size=true:=by rw[Qu];show O
    have y:∀q:Pr,Q5 a s.heap q->q.get? a=ba {o with data:=.set (So zV n) (G+1) tt}->wh prog w A (if (!false&&tt.tooFull)=true then do setRelay a (QK (⇑d+1));pure true else pure true) Q E {s with heap:=q}:=by
     intro q g C;cases M:tt.tooFull with
     |false=>
      rw[M]at e;simp only[Pu,QA]at e;cases e;revert UP QI Pu QA;show OD (k true q n (G+1) rfl c g C j)
     |true=>
      rw[M]at e;simp only[QY]at e;revert UP To QY;split at e
      ·rename_i S;cases l:tt.relaid (So (λx=>x.fst) (So zT n)) (QK (⇑d+1))with
       |none=>rw[l]at e;cases e
       |some p=>
        obtain⟨t2,m⟩:=p;rw[l]at e;dsimp only at e;rw[filterMap_map,Qu]at e;split at e
        ·rename_i hc;cases e;obtain⟨c1,Y⟩:=hc;obtain⟨d1,d2,d3⟩:=lc Y;unfold setRelay;show Ox (Ox (Rz C rfl P ?_));dsimp only;rw[Pd (Sd.mpr S)];rw[J,l];show Ox (U8 (a:=(So zV (XX (λx=>n[x]?) m),N)) ?_ ?_)
         ·show(if ((XX (λx=>(So zV n)[x]?) m).size != (So zV n).size)=true then _ else _)=_
          rw[filterMap_map,Qu,Qu,c1];rw[Pd (by simp)]
         ·dsimp only;show sw (s:={s with heap:=q}) C rfl (by rw[Qu];show d3) λh2 X q2=>OD (k true h2 _ (G+1+1) rfl Y (g.trans X) q2 λz W=>j z ?_)
          obtain⟨i,hi,e⟩:=Array.mem_filterMap.mp (QH.mp W);show QH.mpr (Rk e)
        ·cases e
      ·cases e
    cases hp:tt.plain with
    |false=>
     revert Pu QA;show Ox (OD ?_);revert QY;show Ox (sw D hd (by rw[Qu];show R) λq g C=>y q g C)
    |true=>
     revert QY;show Ox (uy 8 _ _ _ _ _ U k8 hx ?_);revert QY;show Ox (sw D hd (by rw[Qu];show R) λq g C=>y q g C)
   ·cases e
end
abbrev iB (h h':Pr):Prop:=∀c o,h.get? c=ba o->o.cls=.type "tuple"->h'.get? c=ba o
mutual
theorem IsT.stay {h h':Pr}(k:iB h h'):∀{x:T}{v:Oy},IsT h x v->IsT h' x v
 |_,_,.int=>.int
 |_,_,.str=>.str
 |_,_,.tup a b c d=>.tup (k _ _ a b) b c (IsTs.stay k d)
theorem IsTs.stay {h h':Pr}(k:iB h h'):∀{x:Ow T}{v:Ow Oy},IsTs h x v->IsTs h' x v
 |_,_,.nil=>.nil
 |_,_,.cons a b=>.cons (IsT.stay k a) (IsTs.stay k b)
end
def ZOk.stay (k:iB h h')(z:ZOk h b):ZOk h' b:=λy a=>#[(z y a).1.stay k,(z y a).2]
section
variable{w:Pk}{E:Oy->OB->Prop}{s:OB}{wr:Ow OF}{G:Pc UG->Pc UG->Prop}{n:OH}{P:OH->Oy->Prop}{St:OH->OB->Prop}
abbrev n4 (w:Pk)(b:Pc Ze)(a:OH)(t:Pz):Qq:={aT w with data:=.set (b.map zV) a t}
def wq (W:WalksS prog w A.in1 I fp wr G n P St)(hD:D∉fp)(Z:∀i s b o,St i s->b∈wr->s.heap.get? b=ba o->o.cls≠.type "tuple"){ks:Ow T}(hl:↥ks=n)(hk:∀x∈ks,dA x=true/\x.depth<=aD)(hP:∀i v,P i v->∃x b,ks[i]?=ba x/\v=.ref b)(hu:(bB prog w).room A.in1) :
  ∀ k i s g B t,n-i=k->i<=n->St i s->s.heap.get? D=ba (n4 w g B t)->dG t ⇑g=true->ZOk s.heap g->(∀j v x,P j v->ks[j]?=ba x->IsT s.heap x v)->(ks.drop i).foldlM (bM (dE w)) (g.map zT,t)=ba res->
   (∀L d l,Z0 (D::wr) G s L->L.heap.get? D=ba (n4 w d l res.2)->d.map zT=res.1->dG res.2 ⇑d=true->R (.ok (.ret .none)) L)->codeAny (model prog w) A (.builtin "set.update.loop" #[[.ref D,.ref I],[]]) R s:=by
 have hw:D∉wr:=λz=>hD (W.sub _ z)
 have up:∀b∈wr,b∈D::wr:=λb z=>OV _ z
 intro k
 induction k with
 |zero=>
  intro i s g B t U hi st V p hz Q a O;obtain rfl:i=n:=∅
  show Qo F.entry_set_update_loop ?_;rw[Ru F.plain_set_update_loop _];change wpAny _ A.in1 (pyNext (.ref I) >>= _) _ _ s;show Ox (W.done s _ _ st λL mv=>?_)
  rw[TV ∅]at a
  cases a;show OD (O L g B (mv.mono up) (mv.heap D _ hw V) rfl p)
 |succ k ih=>
  intro i s g B t U hi st V p hz Q a O;have C:i<n:=∅
  show Qo F.entry_set_update_loop ?_;rw[Ru F.plain_set_update_loop _];change wpAny _ A.in1 (pyNext (.ref I) >>= _) _ _ s;show Ox (W.item i s _ _ C st λv e pv st1 mv=>?_)
  obtain⟨x,b,hx,rfl⟩:=hP i v pv;have f:iB s.heap e.heap:=λc o q hc=>mv.heap c o (λz=>Z _ _ _ _ st z q hc) q
  obtain⟨hn,m⟩:=hk x (O7 hx);have Mb:IsT e.heap x (.ref b):=(Q i _ x pv hx).stay f;have o1:e.heap.get? D=ba (n4 w g B t):=mv.heap D _ hw V;have S:ks.drop i=x::ks.drop (i+1):=by
   obtain⟨h1,h2⟩:=OS.mp hx;rw[List.drop_eq_getElem_cons h1,h2]
  rw[S,Ua]at a;cases hs:bM (dE w) (g.map zT,t) x with
  |none=>rw[hs]at a;cases a
  |some aU=>
   obtain⟨N,t1⟩:=aU;rw[hs]at a;have a:(ks.drop (i+1)).foldlM (bM (dE w)) (N,t1)=ba res:=a;change wpAny _ A.in1 (holding [Ps b] (setAdd D (.ref b)) >>= _) _ _ e;show Ox (PQ ?_);unfold setAdd;show PQ (Ox ((bB prog w).pyHash hu #[Mb,m] ?_));show Kw (s:={e with toks:=e.toks+x.draws}) (hf:=dE w) o1 rfl p (hz.stay f) Mb m hn hu hs λbb h' d l e1 H sb X E=>?_
   have r:iB e.heap h':=λc o q hc=>by
    show sb.extBut c o (λz=>?_) q
    subst z;rw[o1]at q;cases q;show absurd hc (by change ¬ (QV "set" = QV "tuple");simp)
   have hz':ZOk h' d:=λz hzm=>by
    rcases E z hzm with h|rfl
    ·show((hz.stay f).stay r) z h
    ·show#[Mb.stay r,m]
   show OD #[Se F.plain_set_update_loop _,ih (i+1) {e with heap:=h',toks:=e.toks+x.draws} d l t1 ∅ C (W.frame _ e _ _ st1 (QC _ _) λc hc u q=>?_) X H hz' (λj v y pj hy=>((Q j v y pj hy).stay f).stay r) (by rw[e1];show a) λs2 zs2 M mv2 Y e2 J=>?_]
   ·rw[sb.2 c λz=>hD (z▸hc)];show q
   ·show O s2 zs2 M (Z0.trans W.gtrans ((mv.mono up).then_heap (QC _ _) λc u hc q=>?_) mv2) Y e2 J
    rw[sb.2 c λz=>hc (z▸OU)]
    show q
end
section
variable{w:Pk}{E:Oy->OB->Prop}{s:OB}
def yV (l:O6):dG (.fresh 0 0 l) (#[]:Pc Ze).size=true:=by cases l<;>decide
set_option maxHeartbeats 4000000 in
def wt {l:OF}{its:Pc Oy}{ks:Ow T}{res:Pc (O8×T)×Pz}{Q:Oy->OB->Prop}(hh:A.handled=gV)(hl:Wt s.heap l its)(hi:IsTs s.heap ks its.toList)(hk:∀x∈ks,dA x=true/\x.depth<=aD)(L:∀(i:OH) (v:Oy),its[i]?=ba v->∃b,v=.ref b)(hu:(bB prog w).room A.in1.in1.in1)(y:ks.foldlM (bM (dE w)) (#[],.fresh 0 0 (!yF w))=ba res)
  (h:∀(h':Pr) (tk:OH) (f:Pc Ze) (g:OH),h'.get? ⇑s.heap.objs=ba (n4 w f g res.2)->f.map zT=res.1->dG res.2 ⇑f=true->(∀b u,s.heap.get? b=ba u->h'.get? b=ba u)->Q (.ref ⇑s.heap.objs) (ww s h' tk)):wh prog w A (call (.type "set") [.ref l]) Q E s:=by
 obtain⟨c,tl,P⟩:=F.called_set.mro;have I:=F.called_set.made;have S:=F.called_set.sub;have hn1:=F.called_set.notType;have hn2:=F.called_set.canCreate;have hct:=F.typeCall_set_1 (.ref l);show Sw (Ur ?_);change wpAny _ _ (callAny (.type "set") _) _ _ _;show OD #[Sz _ (by decide +kernel),Qo F.entry_type_call ?_]
 rw[WH (VR "set" [.ref l] []) rfl]
 repeat (any_goals (first|assumption|wp_step))
 show Rr (pQ (w:=w) (.ref l) (E:=E) (Q₁:=λobj X=>obj=.ref ⇑s.heap.objs/\X={s with heap:=s.heap.push (aT w)}) #[rfl,rfl]) λr X d=>?_
 match r,d with
 |.ok (.ret obj),d=>
  obtain⟨rfl,rfl⟩:=d;have W:(s.heap.push (aT w)).get? ⇑s.heap.objs=ba (aT w):=OX _ rfl;have tS:YE {s with heap:=s.heap.push (aT w)} (.ref ⇑s.heap.objs) "set":=#[_,W,rfl]
  have hli:=F.called_set.init.lookup;have hbi:=F.called_set.init.bind (.ref ⇑s.heap.objs)
  repeat (any_goals (first|assumption|wp_step))
  show Rr (Rt (R:=wants (λr Y=>r=.none/\∃h' tk f g,Y=(ww s h' tk)/\h'.get? ⇑s.heap.objs=ba (n4 w f g res.2)/\f.map zT=res.1/\dG res.2 ⇑f=true/\∀b u,s.heap.get? b=ba u->h'.get? b=ba u) E) F.called_set.init.plain F.entry_set_init (Xs tS ?_)) λr2 Y a=>?_
  ·obtain⟨⟨oc,od,ot,osl⟩,p,k,nl,m⟩:=id hl;simp only at k m;subst k m;have t:=OA (aT w) p;have U:(s.heap.push (aT w)).IsTuple l its:=#[_,t,rfl,nl,rfl];have e1:=F.sub_tuple_set;have e2:=F.sub_tuple_frozenset;have O:(QV "tuple" == QV "dict")=false:=by decide
   unfold SY.«set.__init__» noKeywords Ut;generalize G:pyIter=PI
   wp_walk
   subst G;show UQ U (Ox (UN ?_));have V:l<⇑s.heap.objs:=O4 p;have sz:(s.heap.push (aT w)).objs.size=⇑s.heap.objs+1:=QM ..;have ne:l≠(s.heap.push (aT w)).objs.size:=by rw[sz];show Pa (RB V)
   have M:(s.heap.push (aT w)).get? ⇑s.heap.objs=ba (n4 w #[] 0 (.fresh 0 0 (!yF w))):=by
    rw[W];unfold n4 aT;simp
   have len:↥ks=⇑its:=by rw[↥hi,OW]
   show wq ((Walks.tuple (A:=A.in1.in1.in1) (by simp[hh]) _ l ne its).toS) (D:=⇑s.heap.objs) (ks:=ks) (res:=res) (by rw[sz];revert O2 PL Q9 V0;show#[Pa (Rq _),PZ V]) (λi s b o st B q=>?_) len hk (λi v q=>?_) hu _ 0 _ #[] 0 (.fresh 0 0 (!yF w)) rfl (Qd _)
    #[#[_,OX _ rfl,rfl,rfl],U.push _] (OA _ M) (yV _) (λz hz=>by simp at hz) (λj v x q hx=>?_) (by rw[UR,show So zT #[]=#[] by simp];show y) λs3 N C mv J O n=>?_
   ·obtain⟨⟨o',e,hc,_⟩,_⟩:=st;rw[O3.mp B]at q;rw[q]at e;cases e;rw[hc];simp
   ·obtain⟨b,rfl⟩:=L i v q;have H:i<↥ks:=by rw[len];show(O9.mp q).1
    show#[ks[i],b,ON H,rfl]
   ·have hj:=(OS.mp hx);have q':=(O9.mp q);obtain⟨h1,rfl⟩:=hj;obtain⟨h2,rfl⟩:=q';have:=hi.get j h1 (by rw[OW];show h2)
    rw[Ui]at this;show this.stay λc o q hc=>OA _ (OA _ q)
   ·rw[YF mv];show OD (OD #[rfl,s3.heap,s3.toks,N,C,rfl,J,O,n,λb u q=>?_])
    have B:=O4 q;show mv.heap b u (by rw[sz];revert O2 PL Q9 V0;show#[Pa B,Pa (RB B)]) (OA _ (OA _ q))
  ·match r2,a with
   |.ok (.ret r),a=>
    obtain⟨rfl,h',tk,f,g,rfl,Z,g2,g3,g6⟩:=a
    repeat (any_goals (first|assumption|wp_step))
    show h h' tk f g Z g2 g3 g6
   |.ok .next,a=>show a.elim
   |.ok .brk,a=>show a.elim
   |.ok .cont,a=>show a.elim
   |.error e,a=>show a
 |.ok .next,d=>show d.elim
 |.ok .brk,d=>show d.elim
 |.ok .cont,d=>show d.elim
 |.error e,d=>show d
end
abbrev xS (S:aa)(i:OH):Oz (Ow (T×W)):=match S[i]? with
 |some (.dic U)=>ba U
 |some (.frd U)=>ba U
 |_=>gV
abbrev yW (S:aa)(i:OH):Oz (Ow (T×W)):=match S[i]? with
 |some (.dic U)=>ba U
 |_=>gV
abbrev gX (U:Ow (T×W))(k:T):Oz W:=(U.find? λp=>decide (p.1=k)).map (·.2)
abbrev mo (U:Ow (T×W))(k:T)(v:W):Ow (T×W):=
 if (U.any λp=>decide (p.1=k))=true then U.map (λp=>if p.1=k then(p.1,v)else p)else U++[(k,v)]
abbrev sx (w:W):Oz T:=match W.t w with
 |some k=>if k.isTup=true/\k.depth<=aD then ba k else gV
 |none=>gV
def jt (h:sx w=ba k):k.w=w/\k.isTup=true/\k.depth<=aD:=by
 unfold sx at h;split at h
 next a hk=>
  split at h
  next hc=>cases h;show#[W.t_w hk,hc.1,hc.2]
  ·cases h
 ·cases h
def pV (U:Ow (T×W))(k:T)(v:W):(mo U k v).length<=↥U+1:=by
 unfold mo;split
 ·rw[OC];show QC _ _
 ·rw[OL,Po,Qr];show OR _
section
variable{s:OB}{A:Ow OF}
mutual
theorem n6 (I:Inv X J Y H s):∀(k:T) {v:V}{u:Oy},Rel X.K A H k.w v->RelV v u->IsT s.heap k u
 |.int i,_,_,r,q=>by
  cases r;obtain⟨t,rfl⟩:∃t,_=Vm _ t:=q;show .int
 |.str x,_,_,r,q=>by
  cases r;obtain⟨t,rfl⟩:∃t,_=TH _ t:=q;show .str
 |.tup ks,_,_,r,q=>by
  simp only[T.w]at r;cases r with
  |tup sq rl=>
   obtain⟨its,rv,⟨o,h1,h2,n,h3⟩,hz⟩:=I.tuple sq;obtain rfl:_=Ps _:=q;show .tup h1 h2 h3 (iC I ks rl (by simpa using rv))
theorem iC (I:Inv X J Y H s):∀(ks:Ow T) {vs:Ow V}{us:Ow Oy},RelL X.K A H (T.ws ks) vs->Vals vs us->IsTs s.heap ks us
 |[],_,_,r,q=>by
  simp only[T.ws]at r;cases r;cases q;show .nil
 |k::ks,_,_,r,q=>by
  simp only[T.ws]at r;cases r with
  |cons r1 r2=>
   cases q with
   |cons q1 q2=>show .cons (n6 I k r1 q1) (iC I ks r2 q2)
end
def sy (I:Inv X J Y H s)(r:Rel X.K A H k.w (.ref b))(hd:k.depth<=aD):(bB X.prog X.w).is s.heap k b:=#[n6 I k r rfl,hd]
def uz (hk:sx w=ba k)(r:Rel X.K A H w v)(q:RelV v u):∃b,v=.ref b/\u=.ref b/\Rel X.K A H k.w (.ref b):=by
 obtain⟨c,d,e⟩:=jt hk;subst c;cases k with
 |tup ks=>
  cases r with
  |tup a b=>show#[_,rfl,q,by show .tup a b]
 |_=>cases d
def KRel.is (I:Inv X J Y H s)(r:KRel X.K A H U xs):∀x∈xs,(bB X.prog X.w).is s.heap x.1 x.2.1:=by
 induction r with
 |nil=>intro x a;show nomatch a
 |@cons p q ps g h t ih=>
  intro x a;rcases O2.mp a with e|a
  ·subst e;obtain⟨d,f,b,c,_⟩:=h;rw[d]at b c;show sy I c b
  ·show ih x a
def KRel.length (r:KRel X.K A H U xs):↥U=↥xs:=Vd r
def KRel.val (r:KRel X.K A H U xs)(k:T) :
  (∀w,gX U k=ba w->∃p v,atKey xs k=ba p/\Rel X.K A H w v/\RelV v p.2)/\(gX U k=gV->atKey xs k=gV):=by
 induction r with
 |nil=>show#[λw h=>(nomatch h),λ_=>rfl]
 |@cons p q ps d h t ih=>
  obtain⟨f,_,_,_,v,g,i⟩:=h
  by_cases e:p.1=k
  ·have c:=f.symm.trans e;have a:gX (p::ps) k=ba p.2:=by simp[gX,e]
   have b:atKey (q::d) k=ba q.2:=by simp[atKey,c]
   rw[a,b];show#[λw hw=>(by cases hw;show#[_,v,rfl,g,i]),λh=>nomatch h]
  ·have c:¬ q.1=k:=λz=>e (f.trans z)
   have a:gX (p::ps) k=gX ps k:=by simp[gX,e]
   have b:atKey (q::d) k=atKey d k:=by simp[atKey,c]
   rw[a,b];show ih
def KRel.repl (r:KRel X.K A H U xs)(k:T)(b:Rel X.K A H w v)(i:RelV v u) :
  KRel X.K A H (U.map λp=>if p.1=k then(p.1,w)else p) (xs.map (putAt k u)):=by
 induction r with
 |nil=>show .nil
 |@cons p q ps j h t ih=>
  rw[PK,PK];show .cons ?_ ih;obtain⟨a,c,d,f,g⟩:=h;unfold putAt
  by_cases e:p.1=k
  ·rw[OZ e,OZ (a.symm.trans e)];show#[a,c,d,f,v,b,i]
  ·rw[Pd e,Pd (λz=>e (a.trans z))];show#[a,c,d,f,g]
def pW (k:T):∀U:Ow (T×W),(U.any λp=>decide (p.1=k))=(gX U k).isSome
 |[]=>rfl
 |p::r=>by
  rw[SJ]
  by_cases e:p.1=k
  ·have a:gX (p::r) k=ba p.2:=by simp[gX,e]
   rw[a,Pq e];rfl
  ·have a:gX (p::r) k=gX r k:=by simp[gX,e]
   rw[a,Pw e,Vi];show pW k r
def KRel.put (r:KRel X.K A H U xs)(d:k.isTup=true)(f:k.depth<=aD)(g:Rel X.K A H k.w (.ref b))(a:Rel X.K A H w v)(c:RelV v u) :
  KRel X.K A H (mo U k w) (storedH xs k b u):=by
 have e:(U.any λp=>decide (p.1=k))=(atKey xs k).isSome:=by
  rw[pW];cases q:gX U k with
  |none=>rw[(r.val k).2 q];rfl
  |some x=>obtain⟨p,_,h,_⟩:=(r.val k).1 x q;rw[h];rfl
 unfold mo storedH;rw[e]
 by_cases q:(atKey xs k).isSome=true
 ·rw[OZ q,OZ q];show r.repl k a c
 ·rw[Pd q,Pd q];show Paired.snoc r #[rfl,d,f,g,v,a,c]
def DicAt.of (b:↥xs<=sizeLine)(hs:(a==sysModules)=false)(d:h.DictOfH (bB X.prog X.w) a xs):DicAt X.w a xs h:=
 let ⟨o,es,ep,h1,h2,h3,h4,_,h6⟩:=d;#[b,hs,h6,o,es,ep,h1,h2,h3,h4]
def DicAt.stay (d:DicAt wd a xs h)(k:∀o,h.get? a=ba o->h'.get? a=ba o):DicAt wd a xs h':=
 let ⟨h0,hs,hn,o,es,ep,h1,h2⟩:=d;#[h0,hs,hn,o,es,ep,k _ h1,h2]
def DicAt.ok (d:DicAt wd a xs h):ObjOk P wd H h a (sf wd a xs):=
 #[d,let ⟨_,_,_,o,_,_,h1,_⟩:=d;#[o,h1],λ_ _ p k=>p.stay k]
def iD (I:Inv X J Y H s)(e:Rd H a (sf X.w a xs)):DicAt X.w a xs s.heap:=(e.ok I.hok).1
def DicAt.dict (d:DicAt X.w a xs s.heap)(I:Inv X J Y H s)(r:KRel X.K A H U xs):s.heap.DictOfH (bB X.prog X.w) a xs:=
 let ⟨_,_,hn,o,es,ep,h1,h2,h3,h4⟩:=d;#[o,es,ep,h1,h2,h3,h4,r.is I,hn]
def og (c:wk X A H S)(e:xS S i=ba U)(b:A[i]?=ba a):∃xs,Rd H a (sf X.w a xs)/\KRel X.K A H U xs:=by
 unfold xS at e;split at e
 next k h=>cases e;obtain⟨xs,q,r⟩:=c.obj i _ a h b;show#[xs,.inl q,r]
 next k h=>cases e;obtain⟨o,xs,q,r⟩:=c.obj i _ a h b;show#[xs,.inr #[o,q],r]
 ·cases e
def uA (e:yW S i=ba U):S[i]?=ba (.dic U):=by
 unfold yW at e;split at e
 next h=>cases e;show h
 ·cases e
def De (c:wk X A H S)(e:yW S i=ba U)(b:A[i]?=ba a):∃xs,H a=ba (sf X.w a xs)/\KRel X.K A H U xs:=
 c.obj i _ a (uA e) b
def Fs {B:Pl}(a:B.units+10<cLine):(bB X.prog X.w).room B.in1:=by
 change B.in1.units+aD<cLine;rw[bg];unfold aD;omega
abbrev mL (x y:W)(S:aa):Oz (W×aa):=match x,y with
 |.ref r,.tup ks=>match xS S r,sx (.tup ks)with
  |some U,ba k=>(gX U k).map λw=>(w,S)
  |_,_=>gV
 |x,y=>yO x y S
def Nb (l:X.A.units+10<cLine):LIx X mL:=by
 intro j h J s Y H A S x y a b u v w S' I i q n t o e hs
 by_cases f:∃r ks,x=.ref r/\y=.tup ks
 ·obtain⟨r,ks,rfl,rfl⟩:=f;dsimp only[mL]at e;split at e
  next U k g c=>
   rw[OG]at e;obtain⟨N,z,B⟩:=e;cases B;cases q with
   |ref C=>
    obtain⟨xs,L,m⟩:=og i g C;have d:=iD I L;have dd:=d.dict I m;obtain⟨bk,rfl,rfl,rk⟩:=uz c t o;obtain⟨p,M,D,E,G⟩:=(m.val k).1 _ z;obtain rfl:u=Ps _:=n;show TR  dd.typeIs slot_dict_getitem.lookup
     (wpAny_getItem_heap  (Fs l) (sy I rk (jt c).2.2) dd D #[rfl,M,H,A,I.tok _,G,.refl,i,E]) hs
  ·cases e
 ·have:mL x y S=yO x y S:=by
   cases x<;>cases y<;>first|rfl|show absurd #[_,_,rfl,rfl] f
  rw[this]at e;show Of l _ _ _ s Y H A S x y a b u v w S' I i q n t o e hs
abbrev ki (o i v:W)(S:aa):Oz aa:=match o,i with
 |.ref r,.tup ks=>match yW S r,sx (.tup ks)with
  |some U,ba k=>if ↥U<sizeLine then ba (S.set r (.dic (mo U k v)))else gV
  |_,_=>gV
 |o,i=>we o i v S
def Kx (B:X.A.units+10<cLine):LSet X ki:=by
 intro J s Y H A S o i x N M O L T m S' I w E j D h G l e
 by_cases f:∃r ks,o=.ref r/\i=.tup ks
 ·obtain⟨r,ks,rfl,rfl⟩:=f;dsimp only[ki]at e;split at e
  next U k b c=>
   split at e
   next hl=>
    cases e;cases E with
    |ref z=>
     obtain⟨xs,p,v⟩:=De w b z;have d:=iD I (.inl p);have dd:=d.dict I v;obtain⟨bk,rfl,rfl,rk⟩:=uz c D h;obtain⟨V,R,C⟩:=jt c;obtain rfl:L=Ps _:=j;have Q:↥xs<=sizeLine:=by rw[<- ↥v];omega
     show wpAny_setItem_heap (hsz:=Q) (Fs B) (sy I rk C) dd λh' a hs=>?_
     have g:=v.put R C rk G l;have t:(storedH xs k bk m).length<=sizeLine:=by
      rw[<- ↥g];have:=pV U k x;omega
     have P:DicAt X.w _ (storedH xs k bk m) h':=.of t d.2.1 a;obtain⟨y,ex⟩:=w.writeO (uA b) rfl z (u:=sf X.w _ (storedH xs k bk m)) (n:=.dic (mo U k x)) #[_,au,g.mono (bx (.ext p))];show#[_,A,CD I (by rw[p];show VA) hs (let ⟨q,_,_,hq,_⟩:=a;#[q,hq]) P.ok,ex,y]
   ·cases e
  ·cases e
 ·have:ki o i x S=we o i x S:=by
   cases o<;>cases i<;>first|rfl|show absurd #[_,_,rfl,rfl] f
  rw[this]at e;show lset B J s Y H A S o i x N M O L T m S' I w E j D h G l e
noncomputable abbrev Dg (o:COp)(x y:W)(S:aa):Oz (W×aa):=eO o x y S
end
abbrev RawD (d:OF)(es:Pc R5)(a:OH)(h:Pr):Prop:=∃o,h.get? d=ba o/\o.ExactDict/\o.data=.dict es a
def RawD.at (x:RawD d es a h)(e:∀o,h.get? d=ba o->h'.get? d=ba o):RawD d es a h':=let ⟨o,ho,r⟩:=x;#[o,e _ ho,r]
def RawD.lt (x:RawD d es a h):d<⇑h.objs:=let ⟨_,ho,_⟩:=x;O4 ho
def RawD.type {s:OB}(x:RawD d es a s.heap):s.TypeIs (.ref d) "dict":=let ⟨o,ho,hc,_⟩:=x;#[o,ho,hc.1]
variable{i:OH}
section
variable{w:Pk}{E:Oy->OB->Prop}{s:OB}{it d:OF}{ep:OH}{es:Pc R5}
def yX (hd:(d==sysModules)=false)(c:RawD d es ep s.heap)
  (f:Q (.ref ⇑s.heap.objs) {s with heap:=s.heap.push {cls:=.type "dict_keyiterator",data:=.fields [.ref d,.int 0 0,.int ⇑es 0,.int ep 0].toArray}}):wh prog w A (pyIter (.ref d)) Q E s:=by
 have b:=c.type;obtain⟨o,e,hc,a⟩:=id c;show wpAny_pyIter_slot b F.slot_dict_iter (Qt F.slot_dict_iter b F.entry_dict_iter ?_ (F.args_dict_iter_1 _));show Ox (Ox (wpAny_notOrdered_dict b ?_));show OD ?_;change wpAny _ _ (VT d >>= _) _ _ s;unfold VT;rw[Pd (by rw[hd];show P2)]
 show Ox (OD (Ox (U9 e a (Ox (VL e a ?_)))));show Ox (Qf (OD #[_,rfl,"dict_keyiterator",_,#[_,OX _ rfl,rfl],F.slot_dict_keyiterator_next.lookup,?_]))
 simpa [rawInt]using f
def yY (hit:s.heap.IsKeyIter it d i ⇑es ep)(h:RawD d es ep s.heap)(hi:i<⇑es)
  (f:∀h',h'.IsKeyIter it d (i+1) ⇑es ep->Q5 it s.heap h'->Q (ba es[i].key) {s with heap:=h'}):wh prog w A (pyNext (.ref it)) Q E s:=by
 obtain⟨o,e,hc,hd⟩:=id hit;obtain⟨od,c,g,b⟩:=id h;show Ox (RP (P6  hit.typeIs F.slot_dict_keyiterator_next
  (Qt F.slot_dict_keyiterator_next hit.typeIs F.entry_dict_keyiterator_next ?_ (F.args_dict_keyiterator_next_1 _))))
 show Ox (OD (Ox (Ox ?_)))
 first|refine Ox (Rx hit.typeIs (OD ?_))|refine Ox (Sg _ (OD ?_))
 show Ox (Yn e hd ?_);change wpAny _ _ _ _ _ s;show Ox (OD (Ox (U9 c b ?_)));rw[Pd (by simp)]
 show Ox (OD (Ox (VL c b ?_)));rw[Pd (by simp)]
 show OD ?_;simp only[QA,Pi,PJ hi];show Ox ?_
 first|refine Ox (Rx hit.typeIs (OD ?_))|refine Ox (Sg _ (OD ?_))
 show Ox (VU hit.typeIs ?_);change wpAny _ _ (setField _ 1 _ >>= _) _ _ s;show Ox (Sl e hd (by simp) ?_)
 have a:(s.heap.update it (RO (·.setIfInBounds 1 (rawInt (i+1))))).IsKeyIter it d (i+1) ⇑es ep:=
  #[_,P8 _ e (T6 (RY hd _)),(W7 ..).trans hc,by rw[RY hd];simp[rawInt]]
 show Ox (PQ ?_);show Ox (VU  a.typeIs ?_);show OD (OD #[_,rfl,OD (f _ a (RH ..))])
def Dh (h:A.handled=gV)(hit:s.heap.IsKeyIter it d i ⇑es ep)(j:RawD d es ep s.heap)(c:⇑es<=i)
  (f:∀h',V3 it s.heap h'->Q gV {s with heap:=h'}):wh prog w A (pyNext (.ref it)) Q E s:=by
 obtain⟨o,e,hc,hd⟩:=id hit;obtain⟨od,b,g,a⟩:=id j;show Ox (RP (P6  hit.typeIs F.slot_dict_keyiterator_next
  (Qt F.slot_dict_keyiterator_next hit.typeIs F.entry_dict_keyiterator_next ?_ (F.args_dict_keyiterator_next_1 _))))
 show Ox (OD (Ox (Ox ?_)))
 first|refine Ox (Rx hit.typeIs (OD ?_))|refine Ox (Sg _ (OD ?_))
 show Ox (Yn e hd ?_);change wpAny _ _ _ _ _ s;show Ox (OD (Ox (U9 b a ?_)));rw[Pd (by simp)]
 show Ox (OD (Ox (VL b a ?_)));rw[Pd (by simp)]
 show OD ?_;simp only[QA,Pi,VB c];show Ox ?_
 first|refine Ox (Rx hit.typeIs (OD ?_))|refine Ox (Sg _ (OD ?_))
 change wpAny _ _ (setField _ 0 _ >>= _) _ _ s;show Ox (Sl e hd (by simp) ?_)
 show Ox ?_;show Ox (Qf ?_ (by size_fits))
 show Ox  (U8  (by first|rfl|(rfl)) ?_)
 show Qf ?_ (by size_fits)
 show Ox (YI ?_);rw[h];show Ox (OD (Zi ?_));show Ox (T9   #[_,OX _ rfl,rfl] V4 ?_);show OD (f _ (((RH ..).extBut.push _).push _))
def wu (l:A.handled=gV)(I d:OF)(k:d≠I)(es:Pc R5)(ep:OH) :
  Zqd prog w A I [I,d] [I] ⇑es (λi v=>∃e,es[i]?=ba e/\e.key=v) (λi h=>h.IsKeyIter I d i ⇑es ep/\RawD d es ep h) where
 sub:=λb a=>by simp at a;simp[a]
 frame:=λ_ _ _ st hk=>#[st.1.at λo e=>hk I (by simp) o e,st.2.at λo e=>hk d (by simp) o e]
 item:=λi s Q E hi st c=>
  yY st.1 st.2 hi λh' f g=>c _ h' _ #[es[i],by simp[hi],rfl] #[f,st.2.at λo e=>(g.2 d k).trans e] λb o a e=>g.extBut b o (λh=>a (by simp[h])) e
 done:=λs Q E st c=>Dh l st.1 st.2 (OR _) λh' j=>c h' _ λb o a e=>j b o (λh=>a (by simp[h])) e
 self:=λ_ _ _ _ st c=>wpAny_pyIter_keyiter st.1 c
def Di (lo:(d==sysModules)=false):V5 prog w "dict" d d ⇑es (λi v=>∃e,es[i]?=ba e/\e.key=v) (RawD d es ep) where
 type:=λ_ a=>a.type
 there:=λ_ a=>#[a.lt,a.lt]
 keep:=λ_ _ a hk=>a.at λo e=>hk d (.inl rfl) o e
 notList:=by decide
 notTuple:=by decide
 hint:=λ_ _ _ _ a b=>PySem.W.kdl_hint_dict a.type b
 iter:=λ_ _ c a=>#[_,_,(λ_ _ b=>yX lo a b),wu c _ d (Pa a.lt) es ep,#[#[_,OX _ rfl,rfl,rfl],a.at λo e=>OA _ e]]
def yZ {T:Qs}{  S:OF}(K:V5 prog w T r d n P g)(k:A.handled=gV)(f:g s.heap)(l:n<=sizeLine)(e:S≠r)(c:S≠d)
  (j:s.heap.get? S=ba {cls:=.type "list",data:=.seq #[] 0})
  (i:∀h' tk a h,(∀b o,b≠S->s.heap.get? b=ba o->h'.get? b=ba o)->h'.get? S=ba {cls:=.type "list",dict:=gV,data:=.seq a h,slots:=#[]}->ZK P a n->R (.ok (.ret (.ref S))) (ww s h' tk)) :
  codeAny (model prog w) A (.builtin "list.__iadd__" #[[.ref S,.ref r],[]]) R s:=by
 show Qo F.entry_list_iadd ?_;rw[Ru F.plain_list_iadd _];show PySem.W.kdl_extend K k f S e c _ 0 j i l
def pX {T:Qs}(K:V5 prog w T r d n P j)(m:A.handled=gV)(i:j s.heap)(p:n<=sizeLine)
  (k:∀h' tk a,(∀b o,s.heap.get? b=ba o->h'.get? b=ba o)->⇑s.heap.objs<=⇑h'.objs->ZK P a n->Q a.toList (ww s h' tk)):wh prog w A (collect (.ref r)) Q E s:=by
 unfold collect;show Ox (UN (Qo F.entry_proto_collect ?_));rw[Ru F.plain_proto_collect _];change wpAny _ A.in1 (newList [] >>= λl=>again (.builtin "list.__iadd__" #[[l,.ref r],[]])) _ _ s
 show Ox (Qf ?_);have h:=K.there _ i;show OD #[Se F.plain_list_iadd _,yZ (s:={s with heap:=s.heap.push {cls:=.type "list",data:=.seq ([]:Ow Oy).toArray}}) K m (K.keep _ _ i λb _ o e=>OA _ e) p (PZ h.1) (PZ h.2) (OX _ rfl) λh' tk c q hk f g=>?_]
 change wh prog w A (do
   let o <- load ⇑s.heap.objs
   match o.data with
   |.seq xs _=>pure xs.toList
   |_=>unsupported "internal:collect") Q E (ww s h' tk)
 show Ox (Yb f ?_);show OD (k h' tk c (λb o e=>hk b o (Pa (O4 e)) (OA _ e)) (Q1 (O4 f)) g)
end
mutual
def dB:T->T->Oz O6
 |.int a,.int b=>ba (decide (a<b))
 |.str a,.str b=>ba (decide (a.cps.toList<b.cps.toList))
 |.tup xs,.tup ys=>bO xs ys
 |_,_=>gV
def bO:Ow T->Ow T->Oz O6
 |[],[]=>ba false
 |[],_::_=>ba true
 |_::_,[]=>ba false
 |x::xs,y::ys=>if x=y then bO xs ys else dB x y
end
mutual
theorem IsT.kept {h h':Pr}(hk:∀b o,o.cls=.type "tuple"->h.get? b=ba o->h'.get? b=ba o):∀{x:T}{v:Oy},IsT h x v->IsT h' x v
 |_,_,.int=>.int
 |_,_,.str=>.str
 |_,_,.tup a1 c1 d1 t1=>.tup (hk _ _ c1 a1) c1 d1 (IsTs.kept hk t1)
theorem IsTs.kept {h h':Pr}(hk:∀b o,o.cls=.type "tuple"->h.get? b=ba o->h'.get? b=ba o):∀{x:Ow T}{v:Ow Oy},IsTs h x v->IsTs h' x v
 |_,_,.nil=>.nil
 |_,_,.cons a b=>.cons (IsT.kept hk a) (IsTs.kept hk b)
end
def Ky (h:B.units+d<cLine)(hl:∀ x y u v k,x.depth<=d->y.depth<=d->IsT s.heap x u->IsT s.heap y v->dB x y=ba k->LtAt B s u v k) :
  ∀ xs f us vs k,T.depths xs<=d->T.depths f<=d->IsTs s.heap xs us->IsTs s.heap f vs->bO xs f=ba k->LexR B s us vs k
 |[],[],_,_,k,_,_,b,c,e=>by cases b;cases c;cases e;show .nn
 |[],y::f,_,_,k,_,_,b,c,e=>by cases b;cases c;cases e;show .nc
 |x::xs,[],_,_,k,_,_,b,c,e=>by cases b;cases c;cases e;show .cn
 |x::xs,y::f,_,_,k,i,j,b,c,e=>by
  simp only[T.depths]at i j;cases b with
  |cons p1 l=>
   cases c with
   |cons p2 m=>
    have g:=Dc d x y _ _ B s ∅ p1 p2 h ∅
    dsimp only[bO]at e
    by_cases a:x=y
    ·rw[OZ a]at e;rw[Pq a]at g;show .eq g (Ky h hl xs f _ _ k ∅ ∅ l m e)
    ·rw[Pd a]at e;rw[Pw a]at g;show .ne g (hl x y _ _ k ∅ ∅ p1 p2 e)
def He:∀ d x y u v B s k,x.depth<=d->y.depth<=d->IsT s.heap x u->IsT s.heap y v->B.units+d<cLine->dB x y=ba k->LtAt B s u v k:=by
 intro d
 induction d with
 |zero=>
  intro x y u v B s k c g f a p e;cases f with
  |int=>cases a with
   |int=>cases e;show λprog w E Q h=>(Wo h)
   |_=>cases e
  |str=>cases a with
   |str=>cases e;show λprog w E Q h=>(lt_str h)
   |_=>cases e
  |tup _ _ _ _=>simp[T.depth]at c
 |succ d ih=>
  intro x y u v B s k c g f a p e;cases f with
  |int=>cases a with
   |int=>cases e;show λprog w E Q h=>(Wo h)
   |_=>cases e
  |str=>cases a with
   |str=>cases e;show λprog w E Q h=>(lt_str h)
   |_=>cases e
  |tup i l n C=>cases a with
   |tup j m o t2=>
    simp only[T.depth]at c g;have b:B.in1.units+d<cLine:=by rw[bg];omega
    show LtAt.tuples #[_,i,l,_,n] #[_,j,m,_,o] ∅ (Ky b (λx y u v k q r t z A=>ih x y u v _ s k q r t z b A) _ _ _ _ k ∅ ∅ C t2 e)
   |_=>cases e
section
variable{w:Pk}{S:OF}{wr:Ow OF}{n:OH}{P:OH->Oy->Prop}{St:OH->Pr->Prop}{Ok:Pr->Prop}{bt:OH->OH->O6}
abbrev y6 (prog:Pe)(w:Pk)(A:Pl)(P:OH->Oy->Prop)(Ok:Pr->Prop)(bt:OH->OH->O6):Prop:=
 ∀i j a b (s:OB) (Q:Oy->OB->Prop) (E:Oy->OB->Prop),Ok s.heap->P i a->P j b->Q (.bool (bt i j)) s->wh prog w A (richCompare .Lt a b) Q E s
def y8 (W:Zqd prog w A.in1 I fp wr n P St)(E:y6 prog w A.in1 P Ok bt)(C:S∉fp)(G:∀h h',Ok h->(∀b o,b∉wr->b≠S->h.get? b=ba o->h'.get? b=ba o)->Ok h') :
  ∀ k j s q c,n-(j+1)=k->j<n->St (j+1) s.heap->P (argBest bt j) q->Ok s.heap->s.heap.get? S=ba {cls:=.type "list",dict:=gV,data:=.seq [q,q].toArray c,slots:=#[]}->
  (∀v h' tk,P (argBest bt (n-1)) v->(∀b o,b∉wr->b≠S->s.heap.get? b=ba o->h'.get? b=ba o)->R (.ok (.ret v)) (ww s h' tk))->
  codeAny (model prog w) A (.builtin "min.loop" #[[.ref I,.none,.ref S],[]]) R s:=by
 have D:=λh=>C (W.sub _ h)
 have l:(toString "min" ++ toString ".loop")="min.loop":=by decide
 intro k
 induction k with
 |zero=>
  intro j s q c hk T z p O B H;have M:j+1=n:=∅
  show Qo F.entry_min_loop ?_;show Ox (QN B rfl ?_);show Ox (US (W.done s _ _ (M▸z) λh' tk f=>?_))
  have g:=f S _ D B;show Ox (VM g rfl (Ox (TM (OD ?_))));have e:j=n-1:=∅
  show H q _ tk (e▸p) λb o d a e=>(PF _ _ (Ne.symm a)).trans (f b o d e)
 |succ k ih=>
  intro j s q c hk T z p O B H;have y:j+1<n:=∅
  show Qo F.entry_min_loop ?_;show Ox (QN B rfl ?_);change wpAny _ A.in1 (tryCatch (pyNext (.ref I)) _ >>= _) _ _ s;show Ox (US (W.item (j+1) s _ _ y z λv h' tk Q r f=>?_))
  have g:=f S _ D B;have u:=G _ _ O λb o J _ e=>f b o J e
  change wpAny _ A.in1 (tryCatch (holding [v,v] (richCompare .Lt v q >>= _)) _ >>= _) _ _ _;show Ox (US (PQ (Ox (E (j+1) (argBest bt j) v q _ _ _ u Q p ?_))));show Ox (PQ (QF ?_));show Ox (TM (OD ?_));cases J:bt (j+1) (argBest bt j)with
  |true=>
   delta QY;show Ox (VM g rfl (Ox (TM ?_)));rw[l];show OD #[Se F.plain_min_loop _,ih (j+1) _ v _ ∅ y (W.frame _ _ _ r λb L o e=>?_) (by revert argBest J;show Q) (G _ _ u λb o _ a e=>(PF _ _ (Ne.symm a)).trans e) (P8 _ g rfl)
    λN t m x i=>?_]
   ·show(PF _ _ (λh=>C (by rw[h];show L))).trans e
   ·show H N t m x λb o d a e=>i b o d a ((PF _ _ (Ne.symm a)).trans (f b o d e))
  |false=>
   dsimp only[];show Ox (TM ?_);rw[l];show OD #[Se F.plain_min_loop _,ih (j+1) _ q c ∅ y r (by revert argBest J;show p) u g λN t m x i=>?_]
   show H N t m x λb o d a e=>i b o d a (f b o d e)
def wx (W:Zqd prog w A.in1 I fp wr n P St)(k:y6 prog w A.in1 P Ok bt)(d:S∉fp)(g:∀h h',Ok h->(∀b o,b∉wr->b≠S->h.get? b=ba o->h'.get? b=ba o)->Ok h')(C:0<n)(z:St 0 s.heap)(D:Ok s.heap)
  (B:s.heap.get? S=ba {cls:=.type "list",dict:=gV,data:=.seq #[] c,slots:=#[]})
  (G:∀v h' tk,P (argBest bt (n-1)) v->(∀b o,b∉wr->b≠S->s.heap.get? b=ba o->h'.get? b=ba o)->R (.ok (.ret v)) (ww s h' tk)) :
  codeAny (model prog w) A (.builtin "min.loop" #[[.ref I,.none,.ref S],[]]) R s:=by
 have u:=λh=>d (W.sub _ h)
 have y:(toString "min" ++ toString ".loop")="min.loop":=by decide
 show Qo F.entry_min_loop ?_;show Ox (QN B rfl ?_);show Ox (US (W.item 0 s _ _ C z λv h' tk E m f=>?_))
 have i:=f S _ u B;change wpAny _ A.in1 (updateSeq S (λ_=>[v,v].toArray) >>= _) _ _ _
 show Ox (VM i rfl ?_);have r:=g _ _ D λb o H _ e=>f b o H e
 show OD #[Se F.plain_min_loop _,y8 W k d g _ 0 _ v _ rfl C (W.frame _ _ _ m λb x o e=>?_) E (g _ _ r λb o _ a e=>(PF _ _ (Ne.symm a)).trans e) (P8 _ i rfl) λJ q p t l=>?_]
 ·show(PF _ _ (λh=>d (by rw[h];show x))).trans e
 ·show G J q p t λb o j a e=>l b o j a ((PF _ _ (Ne.symm a)).trans (f b o j e))
end
section
variable{w:Pk}{E:Oy->OB->Prop}{s:OB}
def y9 (p:A.handled=gV)(hl:s.heap.IsList l items)(q:0<⇑items)
  (d:y6 prog w A.in1 (λi v=>items[i]?=ba v) (λh=>∀b o,s.heap.get? b=ba o->h.get? b=ba o) bt)
  (n:∀v h' tk,items[argBest bt (⇑items-1)]?=ba v->(∀b o,s.heap.get? b=ba o->h'.get? b=ba o)->Q v (ww s h' tk)) :
  wh prog w A (call (.builtin "min") [.ref l]) Q E s:=by
 have c:(toString "min" ++ toString ".loop": Qs)="min.loop":=by decide
 show call_function_tree F.kind_min F.plain_min F.entry_min (F.args_min1 _) ?_;change wpAny _ A.in1 (UD "min" ["key","default"] 0 #[[],[]] >>= _) _ _ s;show Ox (U8 (show UD "min" ["key","default"] 0 #[[],[]]=pure [gV,gV]from rfl) ?_)
 show Ox (OD ?_);show Ox (SQ hl ?_);show Ox (Qf ?_);rw[c];have f:l<⇑s.heap.objs:=let ⟨_,g,_⟩:=hl;O4 g
 have m:l≠⇑s.heap.objs:=Pa f;have W:=Ym (prog:=prog) (w:=w) (A:=A.in1) p ⇑s.heap.objs l m items;have hsz:∀o:Qq,(s.heap.push o).objs.size=⇑s.heap.objs+1:=λo=>by simp[Heap.push]
 show OD #[Se F.plain_min_loop _,wx (A:=A) (Ok:=λh=>∀b o,s.heap.get? b=ba o->h.get? b=ba o) W d (λk=>?_) (λh h' g hk b o e=>?_) q #[?_,?_] (λb o e=>OA _ (OA _ e)) (OX _ rfl) λv h' tk r hk=>?_]
 ·rcases O2.mp k with e|k
  ·show absurd (show(s.heap.push _).objs.size=⇑s.heap.objs from e) (by rw[hsz];show Nat.succ_ne_self _)
  ·have e:(s.heap.push _).objs.size=l:=O3.mp k;rw[hsz]at e;show absurd f (by rw[<- e];show Sd.mpr (QJ _))
 ·have a:=O4 e;show hk b o (λz=>?_) (λz=>?_) (g b o e)
  ·rw[O3.mp z]at a;show P7 _ a
  ·have j:b=(s.heap.push _).objs.size:=z;rw[hsz]at j;rw[j]at a;show absurd a (Sd.mpr (QJ _))
 ·show#[_,OA _ (OX _ rfl),rfl,rfl]
 ·obtain⟨o,g,hc⟩:=hl;show#[o,OA _ (OA _ g),hc]
 ·show n v h' tk r λb o e=>hk b o (λz=>?_) (λz=>?_) (OA _ (OA _ e))
  ·have a:=O4 e;rw[O3.mp z]at a;show P7 _ a
  ·have a:=O4 e;have j:b=(s.heap.push _).objs.size:=z;rw[hsz]at j;rw[j]at a;show absurd a (Sd.mpr (QJ _))
end
abbrev b9 (o:COp)(x y:W)(S:aa):Oz (W×aa):=match o,y with
 |.isin,.str j=>match x with
  |.str i=>ba (.bl (!(TJ j i 0 ↥j 1).isEmpty),S)
  |_=>gV
 |.lt,.tup c=>match W.t x,W.t (.tup c)with
  |some a,ba b=>if a.depth<=aD/\b.depth<=aD then(dB a b).map λk=>(.bl k,S)else gV
  |_,_=>gV
 |.is,.bl b=>match x with
  |.bl a=>ba (.bl (a==b),S)
  |_=>gV
 |o,y=>Dg o x y S
def lg (n:X.A.units+fB<cLine)(o:COp):LOp X (compareOp o.py) (b9 o):=by
 intro J s Y H A S x y a b u v w S' I j h f i g e;unfold b9 at e;split at e
 ·split at e
  ·cases e;cases h;cases i
   show OpR.go vR I f g #[_,_,rfl,rfl,.here j .bl]
  ·cases e
 ·split at e
  next q k1 k2 l m=>
   split at e
   next hd=>
    rw[OG]at e;obtain⟨k,hk,e⟩:=e;cases e;have p:=n6 I k1 (by rw[W.t_w l];show h) f
    have t2:=n6 I k2 (by rw[W.t_w m];show i) g
    show He aD k1 k2 u v X.A s k hd.1 hd.2 p t2 (by have:fB=20:=rfl;have:aD=6:=rfl;omega) hk _ _ _ _ (fX I j)
   ·cases e
  ·cases e
 ·split at e
  next d _ c=>
   cases e;cases h;cases i;obtain rfl:u=Qx c:=f;obtain rfl:v=Qx d:=g;show Yj rfl ?_;have e:(Qx c==Qx d)=(c==d):=by cases c<;>cases d<;>rfl
   rw[e];show fX I j
  ·cases e
 ·show iw n _ J s Y H A S x y a b u v w S' I j h f i g e
abbrev NY (x:OM):It:=#[λi _=>i<⇑x.cps,λi H v a=>a=H/\∃c,x.cps[i]?=ba c/\v=.str #[[c].toArray],λi _=>⇑x.cps<=i]
def zd {K:OI}(x:OM)(t:ZU)(it:OF):Turn P w K tg (NY x) [it] it (λi h=>h.IsStrIter it "str_ascii_iterator" x t i) where
 mem:=by simp
 obj:=λi h st b a=>by
  have e:b=it:=by simpa using a
  subst e;obtain⟨o,e,c,d⟩:=st;show#[o,e,λv z=>by rw[d]at z;cases z]
 keep:=λi h h' #[o,e,c] k=>#[o,k it (by simp) o e,c]
 item:=by
  intro X p hw hK hc i J s Y H E I hf st q;subst p hw hK;obtain⟨g,j,B,l,m,n⟩:=hf it (by simp)
  obtain⟨y,r⟩:∃c,x.cps[i]?=ba c:=#[_,PJ q];show wpAny_pyNext_ascii_item st r λh' f C=>?_
  have u:Inv X J Y H {s with heap:=h',toks:=s.toks+1}:=I.turned (t':=s.toks+1) (λb o a e=>(C.2 b a).trans e) g j l m n
  obtain⟨o,e,c,d⟩:=id f;show#[_,rfl,t6 (s:={s with heap:=h',toks:=s.toks+1}) e c d #v[] #[.str #[[y].toArray],H,u,#[_,rfl],#[rfl,_,r,rfl],f,λb a=>(hf b a).1]]
 done:=by
  intro X p hw hK hc i J s Y H E I hf st q;subst p hw hK;obtain⟨g,j,B,l,m,n⟩:=hf it (by simp)
  show wpAny_pyNext_ascii_end (I.ok.hd hc) st (VB q) λh' A=>#[rfl,I.turned (t':=s.toks) (λb o a e=>A b o a e) g j l m n]
 self:=λ_ _ _ _ _ st h=>wpAny_pyIter_striter_ascii st h
open PySem.W (KasT kas_sort kas_ask kas_cmp kas_item kas_asc kas_desc kas_tail3 kas_descPart kas_count kas_place kas_bin kas_rev)
abbrev bE {α:Type}(lt:OH->OH->O6):KasT α->α
 |.ret a=>a
 |.ask i j k=>bE lt (k (lt i j))
abbrev OkK {α:Type}(n:OH)(P:α->Prop):KasT α->Prop
 |.ret a=>P a
 |.ask i j k=>i<n/\j<n/\∀b,OkK n P (k b)
def pY :∀ t,OkK n P t->P (bE lt t)
 |.ret _,h=>h
 |.ask i j k,h=>pY (k _) (h.2.2 _)
def oh (h:OkK n P t):P (bE lt t):=pY t h
def OkK.bind {f:α->KasT β}:∀{t:KasT α},OkK n P t->(∀a,P a->OkK n c (f a))->OkK n c (t.bind f)
 |.ret a,h,hf=>hf a h
 |.ask _ _ _,h,hf=>#[h.1,h.2.1,λb=>OkK.bind (h.2.2 b) hf]
def mM (hc:∀i j,i<n->j<n->∀C:O6->OB->Prop,C (lt i j) s->a i j C s) :
  ∀{t:KasT α},OkK n P t->Q (bE lt t) s->t.kasWp a Q s
 |.ret _,_,h=>h
 |.ask i j k,h,b=>hc i j h.1 h.2.1 _ (mM hc (h.2.2 _) b)
abbrev Pm (n:OH)(p:Pc OH):Prop:=p.toList.Perm (Pj n)
def Pm.size (h:Pm n p):⇑p=n:=by rw[<- OW,h.length_eq,Qg]
def Pm.lt (h:Pm n p)(a:0<n)(i:OH):p.getD i 0<n:=by
 by_cases hi:i<⇑p
 ·have e:p.getD i 0=p[i]:=by simp[SW,hi]
  rw[e];have:p[i]∈p.toList:=by simp
  show Pn.mp (h.mem_iff.mp this)
 ·have e:p.getD i 0=0:=by simp[SW,hi]
  rw[e];show a
def Pm.rev (h:Pm n p)(i j:OH):Pm n (kas_rev p i j):=(UT.mp (mirror_perm p i j _)).trans h
def Pm.bub (h:Pm n p)(i j:OH):Pm n (bubble p i j):=(UT.mp (bubble_perm p i j)).trans h
section
variable{n:OH}(hn:0<n)
include hn
def sA (h:Pm n p):∀ f m,OkK n (λ_=>Yw) (kas_asc p f m)
 |0,_=>trivial
 |f+1,m=>#[h.lt hn _,h.lt hn _,λb=>by
  change OkK n _ (if b=true then _ else _)
  split
  ·trivial
  ·show sA h f _]
def kz:∀ f p m q,Pm n p->OkK n (λr=>Pm n r.1) (kas_desc f p m q)
 |0,p,m,q,h=>h
 |f+1,p,m,q,h=>#[h.lt hn _,h.lt hn _,λb=>by
  change OkK n _ (if b=true then _ else _)
  split
  ·split
   ·show kz f _ _ _ (h.rev _ _)
   ·show kz f _ _ _ h
  ·show#[h.lt hn _,h.lt hn _,λc=>?_]
   change OkK n _ (if c=true then _ else _)
   split
   ·show h
   ·show kz f _ _ _ h]
def uB (h:Pm n p)(m k:OH):OkK n (λr=>Pm n r.2) (kas_tail3 m k p):=by
 show OkK.bind (sA hn (h.rev 0 m) _ _) λa _=>h.rev 0 m
def jU (h:Pm n p)(m k:OH):OkK n (λr=>Pm n r.2) (kas_descPart m k p):=by
 show OkK.bind (kz hn _ _ _ _ h) λr a=>?_
 split
 ·show uB hn (a.rev _ _) _ _
 ·show uB hn a _ _
def ze (h:Pm n p)(k:OH):OkK n (λr=>Pm n r.2) (kas_count k p):=by
 show OkK.bind (sA hn h _ _) λm _=>?_
 split
 ·show h
 ·split
  ·show#[h.lt hn _,h.lt hn _,λc=>?_]
   change OkK n _ (if c=true then _ else _)
   split
   ·show h
   ·show jU hn (h.rev _ _) _ _
  ·show jU hn h _ _
def lh (h:Pm n p)(k:OH):∀ f l r,OkK n (λ_=>Yw) (kas_place p k f l r)
 |0,_,_=>trivial
 |f+1,l,r=>by
  delta kas_place;split
  ·trivial
  ·show#[h.lt hn _,h.lt hn _,λc=>?_]
   change OkK n _ (if c=true then _ else _)
   split
   ·show lh h k f _ _
   ·show lh h k f _ _
def zf:∀ f p k,Pm n p->OkK n (Pm n) (kas_bin f p k)
 |0,p,k,h=>h
 |f+1,p,k,h=>by
  show OkK.bind (lh hn h k _ _ _) λl _=>zf f _ _ (h.bub _ _)
def kA:OkK n (Pm n) (kas_sort n):=by
 show OkK.bind (ze hn (by unfold Pm;rfl) _) λr a=>?_
 split
 ·show zf hn _ _ _ a
 ·show a
end
section
variable{w:Pk}{E:Oy->OB->Prop}{s:OB}{vs:Ow Oy}
abbrev dC (lt:OH->OH->O6){β:Type}(d:β)(vs:Ow β):Ow β:=if ↥vs<2 then vs else(bE lt (kas_sort ↥vs)).toList.map λi=>vs.getD i d
def pZ {vs:Ow β}:(dC lt d vs).length=↥vs:=by
 unfold dC;split
 ·rfl
 ·rw[OC,OW,(oh  (kA  ∅)).size]
def wy (z:s.heap.get? a=ba (seqObj "list" vs.toArray n))(G:↥vs<64)
  (l:2<=↥vs->∀h',(∀b o,b≠a->s.heap.get? b=ba o->h'.get? b=ba o)->∀Q:V6->OB->Prop,Q κ {s with heap:=h'}->wh prog w A (keyKind' vs.toArray) Q (λ_ _=>P0) {s with heap:=h'})
  (J:2<=↥vs->∀h',(∀b o,b≠a->s.heap.get? b=ba o->h'.get? b=ba o)->∀i j,i<↥vs->j<↥vs->∀Q:O6->OB->Prop,Q (lt i j) {s with heap:=h'}->
   wh prog w A (keyLt' κ (vs.getD i Qk) (vs.getD j Qk)) Q (λ_ _=>P0) {s with heap:=h'})
  (h:∀h' c,(∀b o,b≠a->s.heap.get? b=ba o->h'.get? b=ba o)->h'.get? a=ba (seqObj "list" (dC lt Qk vs).toArray c)->P (.done (.ret .none)) {s with heap:=h'}) :
  wh prog w A (SY.«list.sort» #[[.ref a],[]]) P E s:=by
 have W:=O4 z;obtain⟨D,t⟩:∃D,(s.heap.update a (Rb λ_=>(#[]))).get? a=ba (seqObj "list" #[] D):=#[_,VN z λ_=>#[]]
 have keep:∀b o,b≠a->s.heap.get? b=ba o->(((s.heap.update a (Rb λ_=>(#[]))).push (seqObj "tuple" vs.toArray 0)).push (seqObj "list" #[] 0)).get? b=ba o:=λb o y e=>
  OA _ (OA _ ((RE _ _ _ _ y).trans e))
 have d:(((s.heap.update a (Rb λ_=>(#[]))).push (seqObj "tuple" vs.toArray 0)).push (seqObj "list" #[] 0)).get? a=ba (seqObj "list" #[] D):=OA _ (OA _ t)
 have fin:∀out,↥out=↥vs->out=dC lt Qk vs->P (.done (.ret .none)) {s with heap:=(((s.heap.update a (Rb λ_=>(#[]))).push (seqObj "tuple" vs.toArray 0)).push (seqObj "list" #[] 0)).update a (Rb λ_=>out.toArray)}:=λout hl e=>by
  obtain⟨B,I⟩:∃B,((((s.heap.update a (Rb λ_=>(#[]))).push (seqObj "tuple" vs.toArray 0)).push (seqObj "list" #[] 0)).update a (Rb λ_=>out.toArray)).get? a=ba (seqObj "list" out.toArray B):=#[_,VN d λ_=>out.toArray]
  show h _ B (λb o y q=>(RE _ _ _ _ y).trans (keep b o y q)) (e▸I)
 rw[list_sort_plain];show Ox (W8 z rfl ?_);show Ox (Vj z rfl ?_ (by rw[O5,Qc];omega) (Qd _))
 show Ox (XO t rfl ?_);show Ox (V7 ?_ (by change ↥vs<=_;rw[Qc];omega))
 show Ox (Wy ?_ (Qd _));show PQ ?_;change wh prog w A _ P E {s with heap:=((s.heap.update a (Rb λ_=>(#[]))).push (seqObj "tuple" vs.toArray 0)).push (seqObj "list" #[] 0)}
 dsimp only
 by_cases m:↥vs<2
 ·rw[OZ (by rw[O5];show m),OZ (by rw[O5];show m)]
  show Ox (OD (Ox ?_));rw[StateT.run_pure];show OD ?_;dsimp only;show Ox (XO d rfl ?_);have hs:((arrOf (SortSt.mk' general' (vs.toArray.zip vs.toArray) #[] 7 gV)).map (·.2))=vs.toArray:=by
   show(vs.toArray.zip vs.toArray).map (·.2)=vs.toArray
   apply Array.toList_inj.mp;rw[Array.toList_map,Array.toList_zip];show Xu (OR _)
  rw[hs];show Ox (Vj d rfl ?_ (Qd _) (by rw[O5,Qc];omega))
  revert W9;show OD (fin vs rfl (by unfold dC;rw[OZ m]))
 ·have r:¬ ⇑vs.toArray<2:=by rw[O5];show m
  have g:2<=↥vs:=∅
  rw[Pd r,Pd r];show Ox (P4 (l g _ keep (λk v=>k=κ/\v={s with heap:=((s.heap.update a (Rb λ_=>(#[]))).push (seqObj "tuple" vs.toArray 0)).push (seqObj "list" #[] 0)}) #[rfl,rfl]) ?_ λ_ _ x=>x.elim)
  rintro _ _ ⟨rfl,rfl⟩;show Ox (P4 (PySem.W.kat_run (Q:=λf v=>∃p:Pc OH,⇑p=↥vs/\arrOf f=p.map (kas_item (vs.toArray.zip vs.toArray))/\failedOf f=gV/\p=bE lt (kas_sort ↥vs)/\v={s with heap:=((s.heap.update a (Rb λ_=>(#[]))).push (seqObj "tuple" vs.toArray 0)).push (seqObj "list" #[] 0)})
    rfl g G (λV f v L M N O=>#[V,L,M,N,O])
   (mM  (λi j hi T C S=>J g _ keep i j hi T C S) (kA  ∅) #[rfl,rfl])) ?_ λ_ _ e=>e)
  rintro⟨⟨⟩,f⟩ v ⟨p,U,H,hf,R,rfl⟩;dsimp only;have u:=PySem.W.kat_snds rfl H;have hsz:(p.toList.map λi=>vs.getD i Qk).length=↥vs:=by rw[OC,OW,U]
  rw[u];show Ox (XO d rfl ?_);show Ox (Vj d rfl ?_ (Qd _) (by rw[O5,hsz,Qc];omega))
  rw[hf];revert W9 Pu QA;show OD (fin _ hsz (by unfold dC;rw[Pd m,R]))
def wz (q:↥vs<64)
  (k:∀v:Ow Oy->OB->Prop,(∀h' tk,(∀b o,s.heap.get? b=ba o->h'.get? b=ba o)->⇑s.heap.objs<=⇑h'.objs->v vs (ww s h' tk))->wpAny (model prog w) A.in1 (collect x) v E s)
  (d:2<=↥vs->∀h' tk,(∀b o,s.heap.get? b=ba o->h'.get? b=ba o)->∀Q:V6->OB->Prop,Q κ (ww s h' tk)->wpAny (model prog w) A.in1.in1 (keyKind' vs.toArray) Q (λ_ _=>P0) (ww s h' tk))
  (t:2<=↥vs->∀h' tk,(∀b o,s.heap.get? b=ba o->h'.get? b=ba o)->∀i j,i<↥vs->j<↥vs->∀Q:O6->OB->Prop,Q (lt i j) (ww s h' tk)->
   wpAny (model prog w) A.in1.in1 (keyLt' κ (vs.getD i Qk) (vs.getD j Qk)) Q (λ_ _=>P0) (ww s h' tk))
  (h:∀D h' tk c,(∀b o,s.heap.get? b=ba o->h'.get? b=ba o)->⇑s.heap.objs<=D->h'.get? D=ba (seqObj "list" (dC lt Qk vs).toArray c)->Q (.ref D) (ww s h' tk)) :
  wh prog w A (call (.builtin "sorted") [x]) Q E s:=by
 show Calls.call_function_entry kind_sorted plain_sorted entry_sorted (args_sorted1 _) ?_;unfold SY.«sorted»;show Ox (m:=checkCount "sorted" 1 1 _) (OD ?_);show Ox (k _ λg a r l=>?_)
 show Ox (Wy ?_ (by rw[Qc];omega))
 have n:(g.push (seqObj "list" vs.toArray 0)).get? ⇑g.objs=ba (seqObj "list" vs.toArray 0):=OX _ rfl;have kp:∀b o,s.heap.get? b=ba o->(g.push (seqObj "list" vs.toArray 0)).get? b=ba o:=λb o e=>OA _ (r b o e)
 have f:∀b o,s.heap.get? b=ba o->b≠⇑g.objs:=λb o e=>Pa (Pf (O4 e) l)
 change wpAny _ _ _ _ _ {s with heap:=g.push (seqObj "list" vs.toArray 0),toks:=a}
 show Ox (PQ (Qt slot_list_sort #[_,n,rfl] entry_list_sort ?_ (args_list_sort _)));show wy (s:={s with heap:=g.push (seqObj "list" vs.toArray 0),toks:=a}) (lt:=lt) (κ:=κ) n q (λp h' hk Q u=>d p h' a (λb o e=>hk b o (f b o e) (kp b o e)) Q u)
  (λp h' hk i j hi z Q u=>t p h' a (λb o e=>hk b o (f b o e) (kp b o e)) i j hi z Q u) λh' c hk y=>?_
 show#[_,rfl,OD #[_,rfl,h _ h' a c (λb o e=>hk b o (f b o e) (kp b o e)) l y]]
end
abbrev fm:T->Qs
 |.int _=>"int"|.str _=>"str"|.tup _=>"tuple"
abbrev be:T->Oz T
 |.tup (x::_)=>ba x
 |_=>gV
abbrev Dj (ks:Ow T):Oz OH:=
 if ks.all (λk=>fm k == "int")then ba 0
 else if ks.all (λk=>fm k == "str")then ba 1
 else if ks.all (λk=>(be k).any λf=>fm f == "int")then ba 2
 else if ks.all (λk=>(be k).any λf=>fm f == "str")then ba 3
 else if ks.all (λk=>(be k).any λf=>fm f == "tuple")then ba 4
 else gV
abbrev zh:OH->V6
 |0=>oneType'|1=>oneType'|2=>tuples' true|3=>tuples' true|_=>tuples' false
abbrev fq (ks:Ow T):O6:=ks.all λx=>ks.all λy=>(dB x y).isSome
abbrev ol (ks:Ow T)(i j:OH):O6:=(dB (ks.getD i (.int 0)) (ks.getD j (.int 0))).getD false
def dc (h:fq ks=true)(hi:i<↥ks)(c:j<↥ks):dB (ks[i]) (ks[j])=ba (ol ks i j):=by
 unfold fq at h;rw[OT]at h;have a:=h _ (PX hi);rw[OT]at a;have d:=a _ (PX c);unfold ol;rw[show ks.getD i _=ks[i] by simp[hi],show ks.getD j _=ks[j] by simp[c]]
 obtain⟨b,e⟩:=P1.mp d;rw[e];rfl
abbrev NZ (c:OH)(x y:T):Prop:=match c with|0=>fm x="int"/\fm y="int"|1=>fm x="str"/\fm y="str"|2=>∃f g,be x=ba f/\be y=ba g/\fm f="int"/\fm g="int"|3=>∃f g,be x=ba f/\be y=ba g/\fm f="str"/\fm g="str"|_=>∃f g,be x=ba f/\be y=ba g
section
variable{w:Pk}{E:Oy->OB->Prop}{s:OB}
def uC (x:IsT h k v):PySem.W.Looks (model prog w) h (typeOf v) (.type (fm k)):=by
 cases x with
 |int=>show .now
 |str=>show .now
 |tup a c d t=>show c▸((ZQ a).andThen .now)
def IsTs.mem :∀{ks:Ow T}{vs:Ow Oy},IsTs h ks vs->∀v∈vs,∃k∈ks,IsT h k v:=by
 intro ks
 induction ks with
 |nil=>intro vs r v c;cases r;cases c
 |cons k ks ih=>
  intro vs r v c;cases r with
  |cons a b=>
   rcases O2.mp c with rfl|c
   ·show#[_,.head _,a]
   ·obtain⟨k,hk,q⟩:=ih b v c;show#[k,.tail _ hk,q]
def mN :∀{ks:Ow T}{vs:Ow Oy},IsTs h ks vs->ks.all (λk=>(be k).any p)=true->∃fs,PySem.W.KatTups h vs fs/\↥fs=↥vs/\∀v∈fs,∃k,p k=true/\IsT h k v
 |_,_,.nil,_=>#[[],.nil,rfl,λv d=>nomatch d]
 |k::ks,_,.cons a b,c=>by
  rw[P9,OE]at c;obtain⟨fs,j,l,m⟩:=mN b c.2;cases a with
  |int=>simp[be]at c
  |str=>simp[be]at c
  |@tup r t o items n f g i e=>
   cases r with
   |nil=>simp[be]at c
   |cons x xs=>
    have q:p x=true:=by simpa [be]using c.1
    generalize hit:items.toList=its at e;cases e with
    |@cons _ u _ us s w=>
     show#[u::fs,.cons f g i (by rw[<- QD,hit];rfl) j,by simp[l],λv d=>?_]
     rcases O2.mp d with rfl|d
     ·show#[x,q,s]
     ·show m v d
def Hf (h:IsTs s.heap ks vs)(i:2<=↥vs)(hc:Dj ks=ba c)(b:Q (zh c) s):wh prog w A (keyKind' vs.toArray) Q E s:=by
 have one:∀ty ,(QV ty != QV _)=true->ks.all (λk=>fm k==ty)=true->Q _ s->wh prog w A _ Q E s:=λty d a b=>
  PySem.W.kas_kind  i (λv e=>by
   obtain⟨k,hk,x⟩:=h.mem v e;have:=eq_of_beq (OT.mp a k hk);show this▸uC x) d (by simp) b
 have tup:∀ty ,ks.all (λk=>(be k).any λf=>fm f==ty)=true->Q _ s->wh prog w A _ Q E s:=λty a b=>by
  obtain⟨fs,g,l,j⟩:=mN h a;show PySem.W.kat_kind  g ∅ (λv e=>by
   obtain⟨k,hk,x⟩:=j v e;have:=eq_of_beq hk;show this▸uC x) (by simp) b
 unfold Dj at hc;split at hc
 ·cases hc;show one "int" #v[] (by assumption) b
 ·split at hc
  ·cases hc;show one "str" #v[] (by assumption) b
  ·split at hc
   ·cases hc;show tup "int" (by assumption) b
   ·split at hc
    ·cases hc;show tup "str" (by assumption) b
    ·split at hc
     ·cases hc;show tup "tuple" (by assumption) b
     ·cases hc
def qa (n:A.units+d<cLine):∀ xs h us vs i k,T.depths xs<=d->T.depths h<=d->IsTs s.heap xs us->IsTs s.heap h vs->bO xs h=ba k->
  (b=true->i=0->∀x y,xs.head?=ba x->h.head?=ba y->(fm x="int"/\fm y="int")\/(fm x="str"/\fm y="str"))->Q k s->PySem.W.KatLex prog w A b (decide (↥us<↥vs)) Q (us.zip vs) i s
 |[],[],_,_,i,k,_,_,f,g,e,m,a=>by cases f;cases g;cases e;show VO (by simpa using a)
 |[],y::h,_,_,i,k,_,_,f,g,e,m,a=>by cases f;cases g;cases e;show VO (by simpa using a)
 |x::xs,[],_,_,i,k,_,_,f,g,e,m,a=>by cases f;cases g;cases e;show VO (by simpa using a)
 |x::xs,y::h,_,_,i,k,q,r,f,g,e,m,a=>by
  simp only[T.depths]at q r;cases f with
  |@cons _ u _ us p1 B=>
   cases g with
   |@cons _ v _ vs p2 C=>
    have t:=Dc d x y _ _ A s ∅ p1 p2 n ∅
    show PySem.W.kat_cons (t _ w _ _ ?_);simp only[bO]at e;have l:decide ((u::us).length<(v::vs).length)=decide (↥us<↥vs):=by simp
    rw[l]
    by_cases c:x=y
    ·rw[OZ c]at e;rw[Pq c];show PySem.W.kat_yes (qa n xs h us vs _ k ∅ ∅ B C e (λ_ z=>absurd z (Nat.succ_ne_zero _)) a)
    ·rw[Pd c]at e;rw[Pw c];show PySem.W.kat_no ?_
     by_cases j:b=true/\i=0
     ·obtain⟨rfl,rfl⟩:=j;rcases m rfl rfl x y rfl rfl with⟨o,p⟩|⟨o,p⟩
      ·cases p1 with
       |int=>cases p2 with
        |int=>cases e;show oneLt_int a
        |_=>show absurd p (by simp[fm])
       |_=>show absurd o (by simp[fm])
      ·cases p1 with
       |str=>cases p2 with
        |str=>cases e;show oneLt_str a
        |_=>show absurd p (by simp[fm])
       |_=>show absurd o (by simp[fm])
     ·have hf:(b&&i==0)=false:=by
       cases b with
       |false=>rfl
       |true=>
        have:=λz=>j #[rfl,z]
        simpa using this
      rw[hf];show PySem.W.kat_one _ _ ((He d x y _ _ A s k ∅ ∅ p1 p2 n e) _ w _ _ a)
def Dk (V:A.units+d<cLine)(O:x.depth<=d)(P:y.depth<=d)(m:IsT s.heap x u)(r:IsT s.heap y v)(e:dB x y=ba k)
  (hc:NZ c x y)
  (G:Q k s):wh prog w A (keyLt' (zh c) u v) Q E s:=by
 have tup:∀b:O6,(∃f g,be x=ba f/\be y=ba g/\(b=true->(fm f="int"/\fm g="int")\/(fm f="str"/\fm g="str")))->wh prog w A (keyLt' (tuples' b) u v) Q E s:=by
  rintro b ⟨f,g,hf,D,U⟩;cases m with
  |int=>cases hf
  |str=>cases hf
  |@tup xs a o items n M Y R W=>
   cases r with
   |int=>cases D
   |str=>cases D
   |@tup J X o' l n' N Z S t2=>
    simp only[T.depth]at O P;show PySem.W.kat_lt M R N S ?_;have:=qa (prog:=prog) (w:=w) (b:=b)  V xs J _ _ 0 k ∅ ∅ W t2 e (λC _ p q L j=>by
     cases xs with
     |nil=>cases L
     |cons x0 xs=>cases J with
      |nil=>cases j
      |cons y0 J=>cases L;cases j;cases hf;cases D;show U C) G
    simpa using this
 match c,hc with
 |0,#[H,I]=>
  cases m with
  |int=>cases r with
   |int=>cases e;show PySem.W.kat_lt_int G
   |_=>show absurd I (by simp[fm])
  |_=>show absurd H (by simp[fm])
 |1,#[H,I]=>
  cases m with
  |str=>cases r with
   |str=>cases e;show PySem.W.kas_lt_str G
   |_=>show absurd I (by simp[fm])
  |_=>show absurd H (by simp[fm])
 |2,#[f,g,h,i,t,B]=>show tup _ #[f,g,h,i,λ_=>.inl #[t,B]]
 |3,#[f,g,h,i,t,B]=>show tup _ #[f,g,h,i,λ_=>.inr #[t,B]]
 |n+4,#[f,g,h,i]=>show tup _ #[f,g,h,i,λz=>nomatch z]
end
def Dl (h:Dj ks=ba c)(l:x∈ks)(m:y∈ks) :
  NZ c x y:=by
 have one:∀{ty:Qs},ks.all (λk=>fm k==ty)=true->fm x=ty/\fm y=ty:=λe=>#[eq_of_beq (OT.mp e x l),eq_of_beq (OT.mp e y m)]
 have a:∀{ty:Qs},ks.all (λk=>(be k).any λf=>fm f==ty)=true->∃f g,be x=ba f/\be y=ba g/\fm f=ty/\fm g=ty:=λ{ty} e=>by
  have b:=OT.mp e x l;have d:=OT.mp e y m;cases i:be x with
  |none=>rw[i]at b;cases b
  |some f=>
   cases j:be y with
   |none=>rw[j]at d;cases d
   |some g=>
    rw[i]at b;rw[j]at d
    show#[f,g,rfl,rfl,eq_of_beq (by simpa using b),eq_of_beq (by simpa using d)]
 unfold Dj at h;split at h
 ·cases h;show one (by assumption)
 ·split at h
  ·cases h;show one (by assumption)
  ·split at h
   ·cases h;show a (by assumption)
   ·split at h
    ·cases h;show a (by assumption)
    ·split at h
     ·cases h;obtain⟨f,g,b,d,_⟩:=a (by assumption)
      show#[f,g,b,d]
     ·cases h
abbrev fJ (S:aa):W->Oz (Ow W)
 |.tup xs=>ba xs
 |.ref i=>match gy S i with
  |some xs=>ba xs
  |none=>(xS S i).map λU=>U.map λp=>p.1.w
 |_=>gV
abbrev cY:OH:=8
abbrev om (ks:Ow T):O6:=decide (↥ks<64)&&decide (T.depths ks<=cY)&&(decide (↥ks<2)||((Dj ks).isSome&&fq ks))
abbrev iE (xs:Ow W)(S:aa):Oz (W×aa):=match xs with
 |[x]=>match fJ S x with
  |some ws=>match W.ts ws with
   |some ks=>if om ks then ba (.ref ↥S,S++[.lst (dC (ol ks) .non ws)])else gV
   |none=>gV
  |none=>gV
 |_=>gV
abbrev ju (ks:Ow T):OH:=argBest (ol ks) (↥ks-1)
abbrev zj (xs:Ow W)(S:aa):Oz (W×aa):=match xs with
 |[.ref i]=>match gy S i with
  |some ws=>match W.ts ws with
   |some ks=>if T.depths ks<=cY/\fq ks=true then(ws[ju ks]?).map λw=>(w,S)else gV
   |none=>gV
  |none=>gV
 |_=>gV
abbrev eQ:Ow W->Oz (Ow O6)
 |[]=>ba []
 |.bl b::ws=>(eQ ws).map (b :: ·)
 |_::_=>gV
abbrev Dm (xs:Ow W)(S:aa):Oz (W×aa):=match xs with
 |[.ref i]=>match gy S i with
  |some ws=>(eQ ws).map λbs=>(.bl (bs.all id),S)
  |none=>gV
 |_=>gV
section
variable{s:OB}{A:Ow OF}
def RelL.pick {K:OI}(r:RelL K A H ws vs)(d:W)(d':V):∀(is:Ow OH),(∀i∈is,i<↥ws)->RelL K A H (is.map λi=>ws.getD i d) (is.map λi=>vs.getD i d')
 |[],_=>.nil
 |i::is,h=>by
  have hi:=h i (.head _);obtain⟨v,c,e⟩:=r.get (ON hi);show .cons ?_ (RelL.pick r d d' is λj f=>h j (.tail _ f))
  have a:ws.getD i d=ws[i]:=by simp[hi]
  have b:vs.getD i d'=v:=by simp[c]
  change Rel K A H (ws.getD i d) (vs.getD i d');rw[a,b];show e
def Vals.pick (r:Vals vs us)(d:V)(d':Oy):∀(is:Ow OH),(∀i∈is,i<↥vs)->Vals (is.map λi=>vs.getD i d) (is.map λi=>us.getD i d')
 |[],_=>.nil
 |i::is,h=>by
  have hi:=h i (.head _);obtain⟨v,c,e⟩:=L2.Vals.get r (ON hi);show .cons ?_ (Vals.pick r d d' is λj f=>h j (.tail _ f))
  have a:vs.getD i d=vs[i]:=by simp[hi]
  have b:us.getD i d'=v:=by simp[c]
  change L2.RelV (vs.getD i d) (us.getD i d');rw[a,b];show e
def oo (a:0<n):∀i∈(bE lt (Sq n)).toList,i<n:=λi hi=>Pn.mp ((oh  (kA a)).mem_iff.mp hi)
def zm {K:OI}(r:RelL K A H ws vs):RelL K A H (dC lt .non ws) (dC lt .non vs):=by
 unfold dC;rw[↥r];split
 ·show r
 ·show r.pick _ _ _ λi hi=>by rw[↥r];show oo ∅ i hi
def wD (r:Vals vs us):Vals (dC lt .non vs) (dC lt .none us):=by
 unfold dC;rw[L2.Vals.length r];split
 ·show r
 ·show Vals.pick r _ _ _ λi hi=>by rw[L2.Vals.length r];show oo ∅ i hi
def qb (hl:Wt s.heap l vs.toArray)(hsz:↥vs<=sizeLine)
  (h:∀h' tk,(∀b o,s.heap.get? b=ba o->h'.get? b=ba o)->⇑s.heap.objs<=⇑h'.objs->Q vs (ww s h' tk)):wpAny (model prog w) B (collect (.ref l)) Q E s:=by
 obtain⟨o,c,hc,n,hd⟩:=id hl;unfold collect;show Ox (UN (Qo entry_proto_collect' ?_));change wpAny _ _ (do again (.builtin "list.__iadd__" #[[<- newList [],.ref l],[]])) _ _ s
 show Ox (Wy (OD #[Sz _ (by decide +kernel),Qo entry_list_iadd' ?_]))
 change wpAny _ _ (UE (.ref ⇑s.heap.objs) (.ref l) (.ref ⇑s.heap.objs)) _ _ {s with heap:=s.heap.push (seqObj "list" #[] 0)}
 unfold UE;have a:(s.heap.push (seqObj "list" #[] 0)).get? l=ba o:=OA _ c;show Ox (UA (T:="tuple") #[o,a,hc] ?_);have ht:(QV "tuple" == QV "tuple")=true:=by rfl
 rw[OZ (by rw[ht];simp)]
 show Ox (W8 a hd ?_);show Ox (W8 (xs:=#[]) (n:=0) (OX _ rfl) rfl ?_);rw[Pd (by simp)]
 show Ox (Vj (xs:=#[]) (n:=0) (OX _ rfl) rfl ?_ (Qd _) (by show(#[]++vs.toArray).size<=sizeLine+1;revert Array.size_append O5 Qr;omega))
 show OD ?_;change wpAny (model prog w) B (do
   let o <- load ⇑s.heap.objs
   match o.data with
   |.seq xs _=>pure xs.toList
   |_=>unsupported "internal:collect") Q E {s with heap:=(s.heap.push (seqObj "list" #[] 0)).update ⇑s.heap.objs (Rb (· ++ vs.toArray))}
 show Ox (Yb (VN (OX _ rfl) _) ?_);change wpAny _ _ (pure ((#[]:Pc Oy)++vs.toArray).toList) Q E _;rw[show((#[]:Pc Oy)++vs.toArray).toList=vs by simp]
 show OD (h _ s.toks (λb o' e=>(RE _ _ _ _ (Pa (O4 e))).trans (OA _ e)) ?_)
 rw[Xv,size_push'];show QJ _
def DicAt.raw (d:DicAt wd a xs h):∃es b,RawD a es b h/\es.toList=xs.map (Hc wd):=
 let ⟨_,_,_,o,es,b,h1,h2,h3,h4⟩:=d;#[es,b,#[o,h1,h2,h3],h4]
def KRel.keysL (r:KRel X.K A H U xs):RelL X.K A H (U.map λp=>p.1.w) (xs.map λq=>V.ref q.2.1):=by
 induction r with
 |nil=>show .nil
 |cons h t ih=>show .cons h.2.2.2.1 ih
def wF (xs:Ow (T×OF×Oy)):Vals (xs.map λq=>V.ref q.2.1) (xs.map λq=>Ps q.2.1):=by
 induction xs with
 |nil=>show .nil
 |cons x xs ih=>show .cons rfl ih
def sB {es:Pc R5}{xs:Ow (T×OF×Oy)}(f:es.toList=xs.map (Hc wd))(d:ZK (λi v=>∃e,es[i]?=ba e/\e.key=v) a ⇑es):a.toList=xs.map λq=>Ps q.2.1:=by
 have hl:⇑es=↥xs:=by rw[<- OW,f,OC]
 apply Sn
 ·rw[OW,d.1,OC,hl]
 ·intro i g c;obtain⟨e,b,h⟩:=d.2 i a[i] (by simp[g])
  rw[<- QD,f,OY]at b;rw[OC]at c;rw[ON c]at b;simp only[P3,Pp]at b;subst b;rw[Ub,Ui];show h.symm
def wH (L:X.A.handled=gV)(I:Inv X J Y H s)(t:wk X A H S)(D:Rel X.K A H x a)(n:RelV a u)(e:fJ S x=ba ws):∃vs us,RelL X.K A H ws vs/\Vals vs us/\↥us<=sizeLine/\
  ∀ B (i:B.handled=gV) E f,(∀h' tk,(∀b o,s.heap.get? b=ba o->h'.get? b=ba o)->⇑s.heap.objs<=⇑h'.objs->f us (ww s h' tk))->wpAny (model X.prog X.w) B (collect u) f E s:=by
 cases D with
 |tup j m=>
  cases e;obtain⟨its,c,ht,g⟩:=I.tuple j;obtain rfl:u=Ps _:=n;show#[_,its,m,c,by rw[<- L2.Vals.length c];show g,λB i E f h=>qb ht (by rw[<- L2.Vals.length c];show g) h]
 |ref q=>
  dsimp only[fJ]at e;split at e
  next xs y=>
   cases e;obtain⟨vs,j,m⟩:=bq t y q;obtain⟨its,c,p,g⟩:=I.list j;obtain rfl:u=Ps _:=n;show#[_,its,m,c,by rw[<- L2.Vals.length c];show g,λB i E f h=>collect_list p.isList (h _ s.toks (λb o' e=>(RE _ _ _ _ (Pa (O4 e))).trans (OA _ e)) ?_) (by rw[<- L2.Vals.length c];show g)]
   rw[Xv,size_push'];show QJ _
  ·rw[OG]at e;obtain⟨U,hk,rfl⟩:=e;obtain⟨xs,C,z⟩:=og t hk q;have d:=iD I C;obtain⟨es,G,raw,r⟩:=d.raw;obtain rfl:u=Ps _:=n;have hl:⇑es=↥xs:=by rw[<- OW,r,OC]
   show#[_,_,z.keysL,wF xs,by rw[OC];show d.1,λB i E f h=>pX (Di d.2.1) i raw (by rw[hl];show d.1) λh' tk v k l w=>?_]
   rw[sB r w];show h h' tk k l
 |_=>cases e
def wI {D:OF}(I:Inv X J Y H s)(g:wk X A H S)(r:RelL X.K A H ws vs)(f:Vals vs us)(i:↥us<=sizeLine)(hk:∀b o,s.heap.get? b=ba o->h'.get? b=ba o)(d:⇑s.heap.objs<=D)
  (h:h'.get? D=ba (xa us.toArray c)):PostE X J Y A H (S++[.lst ws]) (.ref ↥S) (.ref D) (ww s h' tk):=by
 have e:H D=gV:=I.hok.fresh d;show#[.ref D,_,A++[D],I.laid (a:=D) (o:=.lst vs) (t':=tk) hk d #[by rw[L2.Vals.length f];show i,us,c,f,h],rfl,dY e,g.push e r,.ref ?_]
 rw[<- g.len];simp
def oq (C:X.A.handled=gV)(hu:X.A.units+12<cLine):LCall X (.builtin "sorted") iE:=by
 intro J s Y H A S xs vs us w S' I N rl rv e;cases rl with
 |nil=>cases e
 |cons r t=>
  cases t with
  |cons _ _=>cases e
  |nil=>
   cases rv with
   |cons ru B=>
    cases B;dsimp only[iE]at e;split at e
    ·rename_i ws hw;split at e
     ·rename_i ks hk;split at e
      ·rename_i k;cases e;obtain⟨vs',a,L,q,hz,p⟩:=wH C I N r ru hw
       (dsimp only[om]at k;simp only[OE,O1]at k)
       obtain⟨⟨U,hd⟩,k⟩:=k;have y:T.ws ks=ws:=W.ts_w hk;have x:IsTs s.heap ks a:=iC I ks (y▸L) q;have hl:↥a=↥ks:=x.length.symm;have M:2<=↥a->(Dj ks).isSome=true/\fq ks=true:=λn=>by
        rcases Qn _ _▸k with h|h
        ·simp only[O1]at h;omega
        ·simpa using h
       show wz (vs:=a) (lt:=ol ks) (κ:=zh ((Dj ks).getD 0)) ∅ (λO v=>p X.A.in1 C _ O v) (λn h' tk f Q u=>?_) (λn h' tk f i j hi E Q u=>?_) λD h' tk c f V Z=>?_
       ·obtain⟨z,G⟩:=M n;obtain⟨c,hc⟩:=P1.mp z;rw[hc]at u;show Hf (s:=(ww s h' tk)) (x.kept λb o _ e=>f b o e) n hc u
       ·obtain⟨z,G⟩:=M n;obtain⟨c,hc⟩:=P1.mp z;rw[hc];have l:i<↥ks:=∅
        have m:j<↥ks:=∅
        have g:=(x.kept (h':=h') λb o _ e=>f b o e)
        have P:a.getD i Qk=a[i]:=by simp[hi]
        have R:a.getD j Qk=a[j]:=by simp[E]
        rw[P,R];have b1:=db (ks:=ks) i l;have b2:=db (ks:=ks) j m;show Dk (s:=(ww s h' tk)) (d:=cY) (c:=c) (by rw[bg,bg];unfold cY;omega) ∅ ∅ (g.get i l hi) (g.get j m E) (dc G l m) (Dl hc (PX l) (PX m)) u
       ·show wI I N (zm L) (wD q) (by rw[pZ];show hz) f V Z
      ·cases e
     ·cases e
    ·cases e
end
open PySem.W (KasT kas_sort kas_asc kas_desc kas_tail3 kas_descPart kas_count kas_place kas_bin kas_rev)
def c9 {f:α->KasT β}:∀t:KasT α,bE lt (t.bind f)=bE lt (f (bE lt t))
 |.ret _=>rfl
 |.ask i j k=>c9 (k (lt i j))
structure Lin (n:OH)(lt:OH->OH->O6):Prop where
 tr:∀i j k,i<n->j<n->k<n->lt i j=true->lt j k=true->lt i k=true
 as:∀i j,i<n->j<n->lt i j=true->lt j i=false
 to:∀i j,i<n->j<n->i≠j->lt j i=false->lt i j=true
abbrev gt (p:Pc OH)(i:OH):OH:=p.getD i 0
def jv :gt p i=(p[i]?).getD 0:=by unfold gt;simp[Array.getD_eq_getD_getElem?]
def Pm.inj (h:Pm n p)(hi:i<n)(d:j<n)(c:i≠j):gt p i≠gt p j:=by
 have nd:p.toList.Nodup:=h.nodup_iff.mpr Ta;have a:i<↥p.toList:=by rw[OW,⇑h];show hi
 have b:j<↥p.toList:=by rw[OW,⇑h];show d
 intro e;have f:gt p i=p.toList[i]:=by unfold gt;simp[SW,⇑h,hi]
 have g:gt p j=p.toList[j]:=by unfold gt;simp[SW,⇑h,d]
 rw[f,g]at e;have pw:=R1.mp nd;rcases WJ c with h|h
 ·show pw i j a b h e
 ·show pw j i b a h e.symm
abbrev Up (lt:OH->OH->O6)(p:Pc OH)(m:OH):Prop:=∀i j,i<j->j<m->lt (gt p i) (gt p j)=true
section
variable{n:OH}{lt:OH->OH->O6}(L:Lin n lt)
include L
def Up.more (d:Pm n p)(k:1<=a)(g:a<n)(h:Up lt p a)(hl:lt (gt p (a-1)) (gt p a)=true):Up lt p (a+1):=by
 have c:0<n:=∅
 intro i j b l
 by_cases e:j=a
 ·subst e
  by_cases f:i=j-1
  ·subst f;show hl
  ·show L.tr _ _ _ (d.lt c _) (d.lt c _) (d.lt c _) (h i (j-1) ∅ ∅) hl
 ·show h i j b ∅
def sC (b:Pm n p):∀ f a,1<=a->a+f=n->Up lt p a->Up lt p (bE lt (kas_asc p f a))/\a<=bE lt (kas_asc p f a)/\bE lt (kas_asc p f a)<=n/\(bE lt (kas_asc p f a)<n->lt (gt p (bE lt (kas_asc p f a))) (gt p (bE lt (kas_asc p f a)-1))=true)
 |0,a,d,i,h=>#[h,OR _,by change a<=n;omega,λz=>by have:a<n:=z;omega]
 |f+1,a,d,i,h=>by
  have g:0<n:=∅
  have e:bE lt (kas_asc p (f+1) a)=bE lt (if lt (gt p a) (gt p (a-1))=true then .ret a else kas_asc p f (a+1)):=rfl
  rw[e];cases c:lt (gt p a) (gt p (a-1))with
  |true=>show#[h,OR _,by change a<=n;omega,λ_=>c]
  |false=>
   have l:lt (gt p (a-1)) (gt p a)=true:=L.to _ _ (b.lt g (a-1)) (b.lt g a) (b.inj ∅ ∅ ∅) c
   obtain⟨j,o,k,m⟩:=sC b f (a+1) ∅ ∅ (Up.more L b d ∅ h l)
   show#[j,by change a<=bE lt (kas_asc p f (a+1));omega,k,m]
abbrev Dn (lt:OH->OH->O6)(p:Pc OH)(m:OH):Prop:=∀i j,i<j->j<m->lt (gt p j) (gt p i)=true
def uD (b:Pm n p):∀ f a,1<=a->a+f=n->Dn lt p a->∃m,bE lt (kas_desc f p a 0)=(p,m,0)/\a<=m/\m<=n/\Dn lt p m
 |0,a,q,r,h=>#[a,rfl,OR _,∅,h]
 |f+1,a,q,r,h=>by
  have g:0<n:=∅
  have e:bE lt (kas_desc (f+1) p a 0)=bE lt (if lt (gt p a) (gt p (a-1))=true then(if 0 > 0 then kas_desc f (kas_rev p (a-(0+1)) a) (a+1) 0 else kas_desc f p (a+1) 0)else .ask (gt p (a-1)) (gt p a) λd=>if d=true then .ret (p,a,0)else kas_desc f p (a+1) (0+1)):=rfl
  rw[e];cases c:lt (gt p a) (gt p (a-1))with
  |true=>
   obtain⟨m,s,w,t,u⟩:=uD b f (a+1) ∅ ∅ λi j k v=>by
    by_cases e:j=a
    ·subst e
     by_cases o:i=j-1
     ·subst o;show c
     ·show L.tr _ _ _ (b.lt g _) (b.lt g _) (b.lt g _) c (h i (j-1) ∅ ∅)
    ·show h i j k ∅
   show#[m,s,∅,t,u]
  |false=>
   have l:lt (gt p (a-1)) (gt p a)=true:=L.to _ _ (b.lt g (a-1)) (b.lt g a) (b.inj ∅ ∅ ∅) c
   show#[a,?_,OR _,∅,h]
   change bE lt (if lt (gt p (a-1)) (gt p a)=true then .ret (p,a,0)else kas_desc f p (a+1) (0+1))=_
   rw[l];rfl
omit L in
def Hg {p:Pc OH}{m:OH}(d:Pm n p)(c:m<=n)(h:Dn lt p m):Up lt (kas_rev p 0 m) m:=by
 intro i j a b;have g:∀k,k<m->gt (kas_rev p 0 m) k=gt p (m-1-k):=λk hk=>by
  rw[jv,jv];show((mirror p 0 m ((m-0)/2))[k]?).getD 0=_;rw[getElem?_mirror_all (by rw[⇑d];show c),OZ #[Qd _,hk],YZ]
 rw[g i ∅,g j b]
 show h _ _ ∅ ∅
def zo (a:Pm n p)(w:1<=n):∃m f,bE lt (kas_count n p)=(m,f)/\Pm n f/\1<=m/\m<=n/\Up lt f m:=by
 unfold kas_count;rw[c9];obtain⟨c,g,o,q⟩:=sC L a (n-1) 1 (OR _) ∅ λi j d r=>∅
 generalize bE lt (kas_asc p (n-1) 1)=m at c g o q
 by_cases k:m=n
 ·subst k;rw[OZ (PB _)];show#[m,p,rfl,a,g,OR _,c]
 ·rw[Pd (by simp[k])]
  by_cases h:m > 1
  ·rw[OZ h];have l:=c 0 (m-1) ∅ ∅
   show#[m,p,?_,a,g,o,c];change bE lt (if lt (gt p 0) (gt p (m-1))=true then .ret (m,p)else kas_descPart m n (kas_rev p 0 m))=_
   rw[l];rfl
  ·rw[Pd h];obtain rfl:m=1:=∅
   unfold kas_descPart;rw[c9];have l:=q ∅
   obtain⟨m,e,x,s,t⟩:=uD L a (n-(1+1)) (1+1) ∅ ∅ λi j d r=>by
    obtain rfl:j=1:=∅
    obtain rfl:i=0:=∅
    show l
   rw[e];dsimp only;rw[Pd ∅]
   unfold kas_tail3;rw[c9];have b:Pm n (kas_rev p 0 m):=a.rev 0 m;obtain⟨u,y,v,z⟩:=sC L b (n-m) m ∅ ∅ (Hg a s t)
   show#[_,_,rfl,b,∅,v,u]
def lj (a:Pm n p)(hk:k<n)(j:Up lt p k):∀ f l r,l<=r->r<=k->r-l<=f->(∀i,i<l->lt (gt p i) (gt p k)=true)->(∀i,r<=i->i<k->lt (gt p k) (gt p i)=true)->
  ∃m,bE lt (kas_place p k f l r)=m/\m<=k/\(∀i,i<m->lt (gt p i) (gt p k)=true)/\(∀i,m<=i->i<k->lt (gt p k) (gt p i)=true)
 |0,l,r,t,q,u,g,h=>#[l,rfl,∅,g,λi hi=>h i ∅]
 |f+1,l,r,t,q,u,g,h=>by
  have b:0<n:=∅
  unfold kas_place
  by_cases d:l>=r
  ·rw[OZ d];show#[l,rfl,∅,g,λi hi=>h i ∅]
  ·rw[Pd d];change ∃m,bE lt (if lt (gt p k) (gt p ((l+r)/2))=true then kas_place p k f l ((l+r)/2)else kas_place p k f ((l+r)/2+1) r)=m/\_
   cases c:lt (gt p k) (gt p ((l+r)/2))with
   |true=>
    rw[OZ rfl];show lj a hk j f l ((l+r)/2) ∅ ∅ ∅ g λi hi o=>?_
    by_cases e:i=(l+r)/2
    ·rw[e];show c
    ·show L.tr _ _ _ (a.lt b _) (a.lt b _) (a.lt b _) c (j _ _ ∅ o)
   |false=>
    rw[Pd P2];have s:=L.to _ _ (a.lt b ((l+r)/2)) (a.lt b k) (a.inj ∅ ∅ ∅) c
    show lj a hk j f ((l+r)/2+1) r ∅ q ∅ (λi hi=>?_) h
    by_cases e:i=(l+r)/2
    ·rw[e];show s
    ·show L.tr _ _ _ (a.lt b _) (a.lt b _) (a.lt b _) (j i ((l+r)/2) ∅ ∅) s
def zp:∀ f p k,Pm n p->k+f=n->Up lt p k->Pm n (bE lt (kas_bin f p k))/\Up lt (bE lt (kas_bin f p k)) n
 |0,p,k,a,h,b=>by
  have:k=n:=∅
  show#[a,this▸b]
 |f+1,p,k,a,h,b=>by
  unfold kas_bin;rw[c9];obtain⟨m,e,c,d,l⟩:=lj L a ∅ b k 0 k (Qd _) (OR _) ∅ (λi hi=>∅) λi c q=>∅
  rw[e];show zp f _ (k+1) (a.bub _ _) ∅ λi j o r=>?_
  have g:∀i,gt (bubble p k (k-m)) i=if i=m then gt p k else if m<i/\i<=k then gt p (i-1)else gt p i:=λi=>by
   rw[jv,jv,jv,jv,getElem?_bubble (by rw[⇑a];omega) _ ∅,show k-(k-m)=m by omega]
   split
   ·rfl
   ·split<;>rfl
  rw[g,g]
  repeat' split
  all_goals first
   |(exfalso;omega)
   |show d _ ∅
   |show l _ ∅ ∅
   |show b _ _ ∅ ∅
def Do (d:1<=n):Pm n (bE lt (kas_sort n))/\Up lt (bE lt (kas_sort n)) n:=by
 unfold kas_sort;rw[c9];obtain⟨m,h,e,a,f,g,b⟩:=zo L (p:=(Pj n).toArray) (by unfold Pm;simp) d
 rw[e];dsimp only
 by_cases c:m<n
 ·rw[OZ c];have:max m 1=m:=∅
  rw[this];show zp L _ _ _ a ∅ b
 ·rw[Pd c];have:m=n:=∅
  show#[a,this▸b]
end
mutual
theorem jw:∀x y:T,dA x=true->dB x y=ba true->dB y x=ba false
 |.int a,.int b,_,h=>by
  dsimp only[dB]at h;simp only[Pp,O1]at h
  delta dB;revert Pp Ra
  omega
 |.str _,_,h,_=>by cases h
 |.tup xs,.tup ys,hn,h=>ou xs ys hn h
 |.int _,.str _,_,h|.int _,.tup _,_,h|.tup _,.int _,_,h|.tup _,.str _,_,h=>by cases h
theorem ou:∀xs ys:Ow T,b8 xs=true->bO xs ys=ba true->bO ys xs=ba false
 |[],[],_,h=>by cases h
 |[],_::_,_,_=>rfl
 |_::_,[],_,h=>by cases h
 |x::xs,y::ys,hn,h=>by
  simp only[b8,OE]at hn;dsimp only[bO]at h ⊢
  by_cases e:x=y
  ·rw[OZ e]at h;rw[OZ e.symm];show ou xs ys hn.2 h
  ·rw[Pd e]at h;rw[Pd (Ne.symm e)];show jw x y hn.1 h
end
mutual
theorem ow:∀x y:T,dA x=true->x≠y->dB y x=ba false->dB x y=ba true
 |.int a,.int b,_,hne,h=>by
  dsimp only[dB]at h;simp only[Pp,Ra]at h
  delta dB;revert Pp O1
  have:a≠b:=λe=>hne (e▸rfl)
  omega
 |.str _,_,h,_,_=>by cases h
 |.tup xs,.tup ys,hn,hne,h=>uE xs ys hn (λe=>hne (e▸rfl)) h
 |.int _,.str _,_,_,h|.int _,.tup _,_,_,h|.tup _,.int _,_,_,h|.tup _,.str _,_,_,h=>by cases h
theorem uE:∀xs ys:Ow T,b8 xs=true->xs≠ys->bO ys xs=ba false->bO xs ys=ba true
 |[],[],_,h,_=>absurd rfl h
 |[],_::_,_,_,_=>rfl
 |_::_,[],_,_,h=>by cases h
 |x::xs,y::ys,hn,hne,h=>by
  simp only[b8,OE]at hn;dsimp only[bO]at h ⊢
  by_cases e:x=y
  ·rw[OZ e.symm]at h;rw[OZ e];show uE xs ys hn.2 (λz=>hne (by rw[e,z])) h
  ·rw[Pd (Ne.symm e)]at h;rw[Pd e];show ow x y hn.1 e h
end
mutual
theorem oy:∀x y z:T,dA x=true->dA y=true->dB x y=ba true->dB y z=ba true->dB x z=ba true
 |.int a,.int b,.int c,_,_,h,h'=>by
  dsimp only[dB]at h h' ⊢;simp only[Pp,O1]at h h' ⊢
  omega
 |.tup xs,.tup ys,.tup zs,hn,hn',h,h'=>uF xs ys zs hn hn' h h'
 |.str _,_,_,h,_,_,_=>by cases h
 |.int _,.str _,_,_,_,h,_|.int _,.tup _,_,_,_,h,_|.tup _,.int _,_,_,_,h,_|.tup _,.str _,_,_,_,h,_=>by cases h
 |.int _,.int _,.str _,_,_,_,h|.int _,.int _,.tup _,_,_,_,h|.tup _,.tup _,.int _,_,_,_,h|.tup _,.tup _,.str _,_,_,_,h=>by cases h
theorem uF:∀xs ys zs:Ow T,b8 xs=true->b8 ys=true->bO xs ys=ba true->bO ys zs=ba true->bO xs zs=ba true
 |[],[],_,_,_,h,_=>by cases h
 |_::_,[],_,_,_,h,_=>by cases h
 |_,_::_,[],_,_,_,h=>by cases h
 |[],_::_,_::_,_,_,_,_=>rfl
 |x::xs,y::ys,z::zs,hn,hn',h,h'=>by
  simp only[b8,OE]at hn hn';dsimp only[bO]at h h' ⊢
  by_cases e:x=y
  ·subst e;rw[OZ rfl]at h
   by_cases e':x=z
   ·rw[OZ e']at h' ⊢;show uF xs ys zs hn.2 hn'.2 h h'
   ·rw[Pd e']at h' ⊢;show h'
  ·rw[Pd e]at h
   by_cases e':y=z
   ·subst e';rw[Pd e];show h
   ·rw[Pd e']at h';have t:=oy x y z hn.1 hn'.1 h h';have e2:x≠z:=λe2=>by
     subst e2;have:=jw x x hn.1 t;rw[t]at this;cases this
    rw[Pd e2];show t
end
abbrev zq (ks:Ow T):Prop:=ks.Pairwise λx y=>dB x y=ba true
abbrev uG (ks:Ow T):Ow T:=dC (ol ks) (.int 0) ks
structure Nice (ks:Ow T):Prop where
 num:∀x∈ks,dA x=true
 lt:fq ks=true
 nd:ks.Nodup
def Nice.lin (h:Nice ks):Lin ↥ks (ol ks):=by
 have nm:∀i (hi:i<↥ks),dA ks[i]=true:=λi hi=>h.num _ (PX hi)
 show#[λi j k hi c hk a b=>?_,λi j hi c a=>?_,λi j hi c l a=>?_]
 ·have d:=dc h.lt hi c;have f:=dc h.lt c hk;have m:=dc h.lt hi hk;rw[a]at d;rw[b]at f
  rw[oy _ _ _ (nm i hi) (nm j c) d f]at m;show(PR m).symm
 ·have d:=dc h.lt hi c;have f:=dc h.lt c hi;rw[a]at d;rw[jw _ _ (nm i hi) d]at f;show(PR f).symm
 ·have d:=dc h.lt c hi;have f:=dc h.lt hi c;rw[a]at d;have g:ks[i]≠ks[j]:=λe=>by
   have pw:=R1.mp h.nd;rcases WJ l with q|q
   ·show pw i j hi c q e
   ·show pw j i c hi q e.symm
  rw[ow _ _ (nm i hi) g d]at f;show(PR f).symm
def ll :(dC lt d xs).Perm xs:=by
 unfold dC;split
 ·show .refl _
 ·have p:Pm _ (bE lt (Sq ↥xs)):=oh (kA ∅)
  show(Zqb _ p).trans ?_;have:(Pj ↥xs).map (λi=>xs.getD i d)=xs:=by
   apply Sn
   ·simp
   ·intro k b a;simp[a]
  rw[this]
def lq (h:Nice ks):zq (uG ks):=by
 unfold uG dC zq;split
 next hl=>
  match ks,hl with
  |[],_=>show .nil
  |[x],_=>simp
  |_::_::_,hl=>simp only[Po]at hl;omega
 next hl=>
  obtain⟨p,u⟩:=Do h.lin ∅
  rw[R1];intro i j hi c b;rw[OC,OW,⇑p]at hi c;have a:0<↥ks:=∅
  have l:=u i j b c;have d:=dc h.lt (p.lt a i) (p.lt a j);have g:∀k (hk:k<↥ks),(bE (ol ks) (Sq ↥ks)).getD k 0=(bE (ol ks) (Sq ↥ks)).toList[k]'(by rw[OW,⇑p];show hk):=λk hk=>by simp[SW,⇑p,hk]
  have e:ol ks ((bE (ol ks) (Sq ↥ks)).getD i 0) ((bE (ol ks) (Sq ↥ks)).getD j 0)=true:=l;rw[e]at d;have gd:∀k (hk:k<↥ks),ks.getD k (.int 0)=ks[k]:=λk hk=>by simp[hk]
  revert Ub;rw[<- g i hi,<- g j c,gd _ (p.lt a i),gd _ (p.lt a j)];show d
def qc:∀{a b:Ow T},(∀x∈a,dA x=true)->a.Perm b->zq a->zq b->a=b
 |[],b,_,p,_,_=>(ZR p)
 |x::a,[],_,p,_,_=>absurd p.length_eq (by simp)
 |x::a,y::b,c,p,h,h'=>by
  have e:x=y:=by
   rcases O2.mp (p.mem_iff.mp (OU))with e|e
   ·show e
   ·rcases O2.mp (p.mem_iff.mpr (OU))with e'|e'
    ·show e'.symm
    ·have f:=U4 h e';have g:=U4 h' e;have:=jw _ _ (c x (.head _)) f;rw[g]at this;cases this
  subst e;rw[qc (λz d=>c z (.tail _ d)) ((List.perm_cons x).mp p) (SC.mp h).2 (SC.mp h').2]
mutual
def aK:T->O8
 |.int i=>hashInt i
 |.str _=>0
 |.tup xs=>reduceHash (Tf (oz xs))
def oz:Ow T->Ow O8
 |[]=>[]
 |x::xs=>aK x::oz xs
end
mutual
theorem qe {w:Pk}:∀x:T,dA x=true->dE w x=aK x
 |.int _,_=>rfl
 |.str _,h=>by cases h
 |.tup xs,h=>by delta dE aK;rw[mO xs h]
theorem mO {w:Pk}:∀xs:Ow T,b8 xs=true->gU w xs=oz xs
 |[],_=>rfl
 |x::xs,h=>by
  simp only[b8,OE]at h;delta gU oz;rw[qe x h.1,mO xs h.2]
end
def qf :∀(ks:Ow T) st,(∀x∈ks,dA x=true)->ks.foldlM (bM (dE w)) st=ks.foldlM (bM aK) st
 |[],_,_=>rfl
 |x::ks,st,h=>by
  rw[Ua,Ua];have e:bM (dE w) st x=bM aK st x:=by unfold bM;rw[qe x (h x (.head _))]
  rw[e];congr 1
  funext st'
  show qf ks st' λy a=>h y (.tail _ a)
abbrev mP (l:O6)(ks:Ow T):Oz (Pc (O8×T)×Pz):=ks.foldlM (bM aK) (#[],.fresh 0 0 l)
abbrev mQ (ks:Ow T):Oz OH:=match mP true ks with
 |some r=>match mP false ks with
  |some q=>if ⇑r.1=⇑q.1 then ba ⇑r.1 else gV
  |none=>gV
 |none=>gV
def wJ (h:mQ ks=ba n)(l:O6):∃r,mP l ks=ba r/\⇑r.1=n:=by
 unfold mQ at h;cases a:mP true ks with
 |none=>rw[a]at h;cases h
 |some r=>
  rw[a]at h;cases b:mP false ks with
  |none=>rw[b]at h;cases h
  |some q=>
   rw[b]at h;dsimp only at h;split at h
   next c=>
    cases h;cases l
    ·show#[_,b,c.symm]
    ·show#[_,a,rfl]
   ·cases h
abbrev way (t:Pz)(h:O8):OH->TU
 |0=>t.probeStart h
 |k+1=>t.advance (way t h k)
abbrev gL (m:OH)(h:O8):OH->OH×OH
 |0=>(RS h % (m+1),RS h)
 |s+1=>Wz m (gL m h s).1 (gL m h s).2
abbrev pF (m i:OH):OH:=Tx m i-i
def Hh :pF m i<=9:=by
 unfold pF Tx;split<;>omega
abbrev pb (m i p:OH):TU:={j:=i,more:=pF m i,i:=i,perturb:=p,dummy:=gV}
def sD (e:way t h k=pb t.mask i p):∀d,d<=pF t.mask i->way t h (k+d)={pb t.mask i p with j:=i+d,more:=pF t.mask i-d}
 |0,_=>by rw[Nat.add_zero,e];rfl
 |d+1,hd=>by
  change t.advance (way t h (k+d))=_;rw[sD e d ∅]
  delta Tb;rw[OZ (show pF _ i-d > 0 by omega)]
  revert Vp and_true;omega
def qh (e:way t h k=pb t.mask i p):way t h (k+pF t.mask i+1)=pb t.mask (Wz t.mask i p).1 (Wz t.mask i p).2:=by
 change t.advance _=_;rw[sD e _ (OR _)];unfold Tb;dsimp only;rw[Pd ∅]
 rfl
def uH :∀s,∃k,k<=10*s/\way t h k=pb t.mask (gL t.mask h s).1 (gL t.mask h s).2
 |0=>#[0,OR _,rfl]
 |s+1=>by
  obtain⟨k,hk,e⟩:=uH   s;have:=Hh (m:=t.mask) (i:=(gL t.mask h s).1);show#[k+pF _ _+1,∅,qh e]
def uI :∀s,(gL m h s).2=RS h/32^s
 |0=>by(delta gL;simp)
 |s+1=>by
  show(gL m h s).2/32=_;rw[uI s,VC,Xa]
def Dp :RS h<2^64:=by
 unfold RS;omega
abbrev JL (m i:OH):OH:=(i*5+1) % (m+1)
def zr (hs:12<=s):(gL m h (s+1)).1=JL m (gL m h s).1:=by
 show((gL m h s).1*5+1+(gL m h s).2/32) % (m+1)=_;have e:(gL m h s).2/32=0:=by
  rw[uI,VC,<- Xa];show Nat.div_eq_of_lt (Pf Dp ?_);show OQ (show 2^64<=32^13 by decide) (V8 #v[] ∅)
 rw[e];rfl
abbrev xT (m:OH):OH->OH->OH
 |0,i=>i
 |s+1,i=>xT m s (JL m i)
def iF :∀ a b i,xT m (a+b) i=xT m b (xT m a i)
 |0,b,i=>by rw[YZ];rfl
 |a+1,b,i=>by rw[show a+1+b=(a+b)+1 by omega];show iF a b _
def zt :∀s,(gL m h (12+s)).1=xT m s (gL m h 12).1
 |0=>rfl
 |s+1=>by
  rw[show 12+(s+1)=(12+s)+1 by omega,zr (by show QC _ _),zt s,iF s 1]
  rfl
inductive Msk:OH->Prop
 |a:Msk 7
 |b:Msk 31
 |c:Msk 127
abbrev uJ (m:OH):O6:=(Pj (m+1)).all λj=>(Pj (m+1)).any λs=>xT m s 0==j
def Nc:uJ 7=true/\xT 7 8 0=0:=by decide +kernel
def Kz:uJ 31=true/\xT 31 32 0=0:=by decide +kernel
def Hi:uJ 127=true/\xT 127 128 0=0:=by decide +kernel
def Msk.per (h:Msk m):uJ m=true/\xT m (m+1) 0=0:=by
 cases h
 ·show Nc
 ·show Kz
 ·show Hi
def Msk.from0 (h:Msk m)(a:j<=m):∃s,s<=m/\xT m s 0=j:=by
 have:=OT.mp h.per.1 j (Pn.mpr (by show Sc ‹_›))
 obtain⟨s,hs,e⟩:=Vq.mp this;show#[s,by have:=Pn.mp hs;omega,eq_of_beq e]
def Msk.cover (h:Msk m)(hi:i<=m)(f:j<=m):∃s,s<=m/\xT m s i=j:=by
 obtain⟨a,k,d⟩:=h.from0 hi;obtain⟨b,l,e⟩:=h.from0 f;rcases Nat.le_total a b with c|c
 ·show#[b-a,∅,?_]
  rw[<- d,<- iF,show a+(b-a)=b by omega,e]
 ·rcases SD c with rfl|g
  ·show#[0,Qd _,by rw[<- d,<- e];rfl]
  ·show#[m+1-a+b,∅,?_]
   rw[<- d,<- iF,show a+(m+1-a+b)=(m+1)+b by omega,iF,h.per.2,e]
def zu :∀s,(gL m h s).1<=m
 |0=>Va (Yo _ (TY m))
 |s+1=>Va (Yo _ (TY m))
def Msk.hit (a:Msk m)(h:O8)(b:j<=m):∃s,s<=m+12/\(gL m h s).1=j:=by
 obtain⟨s,hs,e⟩:=a.cover (zu (h:=h) 12) b;show#[12+s,∅,by rw[zt,e]]
def Dq (a:Msk t.mask)(h:O8)(c:j<=t.mask):∃k,k<10*Rf t.mask/\(way t h k).j=j:=by
 obtain⟨s,hs,e⟩:=a.hit h c;obtain⟨k,hk,b⟩:=uH   s;show#[k,by unfold Rf;omega,by rw[b];show e]
abbrev B8 (xs:Pc OH):Prop:=∀i k,i<k->k<⇑xs->xs.getD i 0<xs.getD k 0
structure Cut (xs:Pc OH)(j c:OH):Prop where
 le:c<=⇑xs
 lo:∀i,i<c->xs.getD i 0<j
 hi:∀i,c<=i->i<⇑xs->j<=xs.getD i 0
def uK {xs:Pc OH}(h:i<⇑xs):xs.getD i a=xs.getD i b:=by
 simp[h]
def sE (c:B8 xs):∀ f lo hi,lo<=hi->hi<=⇑xs->hi-lo<=f->(∀i,i<lo->xs.getD i 0<j)->(∀i,hi<=i->i<⇑xs->j<=xs.getD i 0)->Cut xs j (Xb xs j f lo hi)
 |0,lo,hi,k,g,l,a,b=>by
  change Cut xs j lo;show#[by show OQ ‹_› ‹_›,a,λi h=>b i ∅]
 |f+1,lo,hi,k,g,l,a,b=>by
  unfold Xb;split
  ·dsimp only;have e:(lo+hi)/2<⇑xs:=∅
   by_cases hc:xs.getD ((lo+hi)/2) j<j
   ·rw[OZ hc];rw[uK e (b:=0)]at hc;show sE c f _ hi ∅ g ∅ (λi d=>?_) b
    rcases VD i _ with q|q
    ·show SX (c i _ q e) hc
    ·rw[show i=(lo+hi)/2 by omega];show hc
   ·rw[Pd hc];rw[uK e (b:=0)]at hc;show sE c f lo _ ∅ (by show Q1 ‹_›) ∅ a (λi d hs=>?_)
    rcases SD d with q|q
    ·rw[<- q];omega
    ·show OQ (Sd.mp hc) (Q1 (c _ i q hs))
  ·show#[by show OQ ‹_› ‹_›,a,λi h=>b i ∅]
def mR (a:B8 xs)(j:OH):Cut xs j (Qi xs j):=sE a _ _ _ (Qd _) (OR _) (by show OR _) (λi h=>absurd h (QP _)) λi h h'=>∅
def eS {xs:Pc OH}:xs[i]?=ba j↔i<⇑xs/\xs.getD i 0=j:=by
 constructor
 ·intro h;obtain⟨a,b⟩:=O9.mp h;show#[a,by simp[SW,a,b]]
 ·rintro⟨a,b⟩;rw[O9];show#[a,?_]
  simpa [SW,a]using b
def fK (a:B8 xs)(h:xs[i]?=ba j):Qi xs j=i:=by
 obtain⟨b,d⟩:=eS.mp h;have c:=mR a j;rcases Vb (Qi xs j) i with q|q|q
 ·have:=c.hi _ (OR _) (by show SX ‹_› ‹_›)
  have:=a _ i q b;omega
 ·show q
 ·have:=c.lo i q;omega
abbrev mq (t:Pz)(j:OH):Prop:=∃i:OH,t.place[i]?=ba j
def mS {t:Pz}(a:B8 t.place)(h:t.place[i]?=ba j):t.slot j=.live i:=by
 unfold YJ;rw[fK a h];dsimp only;rw[h];simp
def sF (hd:t.dummies=#[])(h:¬ mq t j):t.slot j=.empty:=by
 delta YJ;rw[Pd]
 ·rw[hd]
  (delta Yqi;simp)
 ·intro z;show h #[_,eq_of_beq z]
def ce :(Ph xs p x).toList=xs.toList.take p++x::xs.toList.drop p:=by
 unfold Ph;rw[Uy,U7,SV,SV];revert List.extract;rw[show(List.drop p _).take _=xs.toList.drop p from Re (by rw[Qm,OW];show OR _)]
 simp
def sG :B8 xs↔xs.toList.Pairwise (· < ·):=by
 rw[R1];constructor
 ·intro h i k hi hk a;rw[OW]at hi hk;have:=h i k a hk
  simpa [SW,hi,hk]using this
 ·intro h i k a hk;have hi:i<⇑xs:=by show SX ‹_› ‹_›
  have:=h i k (by simpa using hi) (by simpa using hk) a
  simpa [SW,hi,hk]using this
def Dr (d:B8 xs)(h:∀i:OH,xs[i]?≠ba j):B8 (Ph xs (Qi xs j) j):=by
 have c:=mR d j;have pw:=sG.mp d;rw[sG,ce,List.pairwise_append];have hd:∀y∈xs.toList.drop (Qi xs j),j<y:=λy m=>by
  obtain⟨i,hi,e⟩:=Rv.mp m;rw[Qm,OW]at hi;have hs:Qi xs j+i<⇑xs:=∅
  have g:=c.hi _ (by show QC _ _) hs
  have f:xs[Qi xs j+i]?=ba y:=by rw[O9];show#[hs,by simpa using e]
  have n:=(eS.mp f).2;have:y≠j:=λz=>h _ (z▸f)
  omega
 show#[pw.sublist (WT _ _),SC.mpr #[hd,pw.sublist (List.drop_sublist _ _)],λa l b k=>?_]
 have g:a<j:=by
  obtain⟨i,hi,e⟩:=Rv.mp l;rw[Py,OW]at hi;have:=c.lo i ∅
  have hs:i<⇑xs:=∅
  have f:xs[i]?=ba a:=by rw[O9];show#[hs,by simpa using e]
  have:=(eS.mp f).2;omega
 rcases O2.mp k with rfl|k
 ·show g
 ·show SX g (hd b k)
def Ds {α β:Type}{a:α}{b:β}:∀ p (xs:Ow α) c,↥xs=↥c->(xs.take p++a::xs.drop p).zip (c.take p++b::c.drop p)=(xs.zip c).take p++(a,b)::(xs.zip c).drop p:=λp xs c h=>by
 rw[List.zip_append (by rw[Py,Py,h]),Rp]
 revert Yp Xd List.drop_zipWith
def oB {α:Type}{xs:Ow α}{a y:α}:y∈xs.take p++a::xs.drop p↔y∈xs\/y=a:=by
 rw[Px,O2];constructor
 ·rintro(h|h|h)
  ·show .inl (Rw h)
  ·show .inr h
  ·show .inl (R9 h)
 ·rintro(h|h)
  ·rw[<- R0 p xs,Px]at h;rcases h with h|h
   ·show .inl h
   ·show .inr (.inr h)
  ·show .inr (.inl h)
def iG {α:Type}{xs:Ow α}{a:α}:(xs.take p++a::xs.drop p).Perm (a::xs):=by
 have:=Vr (a:=a) (l₁:=xs.take p) (l₂:=xs.drop p)
 rwa [R0]at this
structure Tab (es:Pc (O8×T))(t:Pz):Prop where
 msk:Msk t.mask
 dm:t.dummies=#[]
 sz:⇑t.place=⇑es
 inc:B8 t.place
 le:∀j,mq t j->j<=t.mask
 few:5*⇑es<3*t.mask
 hs:∀e∈es.toList,e.1=aK e.2
 nd:(es.toList.map (·.2)).Nodup
 rc:∀(i j:OH) (e:O8×T),t.place[i]?=ba j->es[i]?=ba e->∃k,(way t e.1 k).j=j/\∀m,m<k->mq t (way t e.1 m).j
def least {P:OH->Prop}:∀n,P n->∃k,k<=n/\P k/\∀m,m<k->¬ P m:=λn=>by
 induction n using Nat.strongRecOn with
 |ind n ih=>
  intro h
  by_cases q:∃m,m<n/\P m
  ·obtain⟨m,c,d⟩:=q;obtain⟨k,hk,a,b⟩:=ih m c d;show#[k,∅,a,b]
  ·show#[n,OR _,h,λm c d=>q #[m,c,d]]
def lr {α:Type}[R7 α]{xs a:Ow α}(h:xs.Nodup)(s:∀x∈xs,x∈a):↥xs<=↥a:=by
 induction xs generalizing a with
 |nil=>show Qd _
 |cons x xs ih=>
  obtain⟨d,f⟩:=Q6.mp h;have b:=s x (.head _);have:=ih  f λy c=>by
   show(V9 λe:y=x=>d (e▸c)).mpr (s y (.tail _ c))
  rw[Tp b]at this;have:=VE b;rw[Po];omega
def room (c:⇑t.place=n)(h:n<=t.mask):∃j,j<=t.mask/\¬ mq t j:=QS λz=>by
 have all:∀j∈Pj (t.mask+1),j∈t.place.toList:=λj a=>QS λb=>z #[j,by have:=Pn.mp a;omega,λ#[i,hi]=>b (by rw[QH];show Rk hi)]
 have:=lr Ta all;rw[Qg,OW]at this;omega
def sH (c:Msk t.mask)(g:⇑t.place=n)(hl:n<=t.mask)(h:O8):∃k,k<10*Rf t.mask/\¬ mq t (way t h k).j/\∀m,m<k->mq t (way t h m).j:=by
 obtain⟨j,d,i⟩:=room g hl;obtain⟨k,hk,e⟩:=Dq c h d;obtain⟨k0,l,a,b⟩:=least (P:=λk=>¬ mq t (way t h k).j) k (by rw[e];show i)
 show#[k0,∅,a,λm f=>QS (b m f)]
def jx :∀k,(way t h k).dummy=gV
 |0=>rfl
 |k+1=>by
  show(t.advance _).dummy=gV;unfold Tb;split
  ·show jx k
  ·show jx k
section
variable{es:Pc (O8×T)}{t:Pz}{h:O8}{k0:OH}
noncomputable abbrev Dt (es:Pc (O8×T)):OH->O8:=λi=>(es[i]?.map (·.1)).getD 0
def Hj (l:B8 t.place)(hd:t.dummies=#[])(p:¬ mq t (way t h k0).j)(b0:∀m,m<k0->mq t (way t h m).j):∀f k,k<=k0->k0-k<f->
  TZ t (Dt es) h f (way t h k)=ba (.empty (way t h k0).j gV)/\(∀d e,k<=d->d<k0->t.place[e]?=ba (way t h d).j->Dt es e≠h)\/
  ∃m i,k<=m/\m<k0/\t.place[i]?=ba (way t h m).j/\TZ t (Dt es) h f (way t h k)=ba (.candidate (way t h m).j i (way t h (m+1)))/\∀d e,k<=d->d<m->t.place[e]?=ba (way t h d).j->Dt es e≠h:=by
 intro f
 induction f with
 |zero=>intro k _ hf;show absurd hf (QP _)
 |succ f ih=>
  intro k hk hf;delta TZ;rcases SD hk with rfl|j
  ·rw[sF hd p,jx];show .inl #[rfl,λd e a b=>∅]
  ·obtain⟨i,hi⟩:=b0 k j;rw[mS l hi];dsimp only
   by_cases q:Dt es i=h
   ·show .inr #[k,i,OR _,j,hi,?_,λd e s o=>∅]
    rw[OZ (by rw[q];show PB _)]
    rfl
   ·rw[Pd (λz=>q (eq_of_beq z))]
    have one:∀d e,k<=d->t.place[e]?=ba (way t h d).j->(k+1<=d->Dt es e≠h)->Dt es e≠h:=λd e a c g=>by
     rcases SD a with rfl|a
     ·obtain rfl:e=i:=(fK l c).symm.trans (fK l hi);show q
     ·show g a
    rcases ih _ j ∅with⟨r,r2⟩|⟨m,i2,s,o,h3,h4,h5⟩
    ·show .inl #[r,λd e a b c=>one d e a c λn=>r2 d e n b c]
    ·show .inr #[m,i2,∅,o,h3,h4,λd e a b c=>one d e a c λn=>h5 d e n b c]
def Du (B:Tab es t)(v:¬ mq t (way t (aK x) k0).j)(b0:∀m,m<k0->mq t (way t (aK x) m).j)(A:k0<10*Rf t.mask):∀F k,k<=k0->k0-k<F->
  (cG es t x (aK x) F (ba (way t (aK x) k))=ba .there/\x∈es.toList.map (·.2))\/
  (cG es t x (aK x) F (ba (way t (aK x) k))=ba (.free (way t (aK x) k0).j)/\∀(m i:OH) e,k<=m->m<k0->t.place[i]?=ba (way t (aK x) m).j->es[i]?=ba e->e.2≠x):=by
 intro F
 induction F with
 |zero=>intro k _ hf;show absurd hf (QP _)
 |succ F ih=>
  intro k hk hf;have h:∀{i j:OH},t.place[i]?=ba j->∃e,es[i]?=ba e:=λ{i j} hi=>by
   obtain⟨o,_⟩:=O9.mp hi;show#[es[i]'(by rw[<- B.sz];show o),PJ _]
  have f:∀{i:OH}{e:O8×T},es[i]?=ba e->Dt es i=aK e.2:=λ{i e} g=>by
   show(es[i]?.map _).getD 0=_;rw[g];show B.hs e (by rw[QH];show Rk g)
  delta cG;have w:t.probe (λi=>(es[i]?.map _).getD 0) _ ((ba _).getD (t.probeStart (aK x)))=TZ t (Dt es) (aK x) _ (way t (aK x) k):=rfl
  rw[w];rcases Hj  B.inc B.dm v b0 (10*Rf t.mask) k hk (by show Nat.sub_lt_of_lt ‹_›)with⟨r,r2⟩|⟨m,i,o,h2,h3,h4,h5⟩
  ·rw[r];show .inr #[rfl,λm i e a b c d z=>r2 m i a b c ((f d).trans (by rw[z]))]
  ·rw[h4];obtain⟨e,g⟩:=h h3;dsimp only;rw[g];obtain⟨y,n⟩:=e;dsimp only
   by_cases q:n=x
   ·rw[OZ q];show .inl #[rfl,O0.mpr #[(y,n),by rw[QH];show Rk g,q]]
   ·rw[Pd q,OZ (mS B.inc h3)];rcases ih _ h2 ∅with r|⟨r1,r2⟩
    ·show .inl r
    ·show .inr #[r1,λl p u a b c d z=>?_]
     rcases Vb l m with s|rfl|s
     ·show h5 l p a s c ((f d).trans (by rw[z]))
     ·have:=(fK B.inc c).symm.trans (fK B.inc h3);subst this;rw[g]at d;cases d;show q z
     ·show r2 l p u s b c d z
def Tab.le_mask (B:Tab es t):⇑es<=t.mask:=by have:=B.few;omega
def Msk.turns (h:Msk m):10*Rf m<=1420:=by cases h<;>decide
def wK (B:Tab es t)(x:T):(cG es t x (aK x) 2000 gV=ba .there/\x∈es.toList.map (·.2))\/
  ∃k,cG es t x (aK x) 2000 gV=ba (.free (way t (aK x) k).j)/\¬ mq t (way t (aK x) k).j/\(∀m,m<k->mq t (way t (aK x) m).j)/\x∉es.toList.map (·.2):=by
 obtain⟨k,hk,a,b0⟩:=sH B.msk B.sz B.le_mask (aK x);have ht:=B.msk.turns;rcases Du B a b0 hk 2000 0 (Qd _) ∅with r|⟨r1,r2⟩
 ·show .inl r
 ·show .inr #[k,r1,a,b0,λz=>?_]
  obtain⟨e,d,rfl⟩:=O0.mp z;obtain⟨i,hi⟩:=Uj d;rw[QD]at hi;obtain⟨h,_⟩:=O9.mp hi;have b:t.place[i]?=ba (t.place[i]'(by rw[B.sz];show h)):=PJ _
  obtain⟨f,c,g⟩:=B.rc i _ e b hi;rw[B.hs e d]at c g;rcases Vb f k with s|rfl|s
  ·show r2 f i e (Qd _) s (by rw[c];show b) hi rfl
  ·show a (by rw[c];show#[i,b])
  ·show a (g k s)
end
def zv {t t':Pz}(h:t'.mask=t.mask)(p:TU):t'.advance p=t.advance p:=by
 unfold Tb;rw[h]
def de (h:t'.mask=t.mask)(x:O8):∀k,way t' x k=way t x k
 |0=>by
  change t'.probeStart x=t.probeStart x;unfold Zv;rw[h]
 |k+1=>by
  change t'.advance _=t.advance _;rw[de h x k,zv h]
def Hk {t:Pz}(hd:t.dummies=#[])(j:OH):t.put j=({t with place:=Ph t.place (Qi t.place j) j},Qi t.place j):=by
 delta Z9;rw[Pd];rw[hd];simp[Yqi]
def oE :mq t j↔j∈t.place.toList:=by
 constructor
 ·rintro⟨i,h⟩;rw[QH];show Rk h
 ·intro h;obtain⟨i,hi⟩:=Uj h;show#[i,by rw[QD]at hi;show hi]
def zw {α β:Type}{xs:Pc α}{c:Pc β}(h:⇑xs=⇑c){a:α}{b:β}:(a,b)∈xs.toList.zip c.toList↔∃i:OH,xs[i]?=ba a/\c[i]?=ba b:=by
 constructor
 ·intro f;obtain⟨i,hi⟩:=Uj f;rw[U5]at hi;show#[i,by simpa using hi.1,by simpa using hi.2]
 ·rintro⟨i,d,e⟩;show O7 (i:=i) ?_;rw[U5];show#[by simpa using d,by simpa using e]
structure Tb0 (es:Pc (O8×T))(t:Pz):Prop where
 msk:Msk t.mask
 dm:t.dummies=#[]
 sz:⇑t.place=⇑es
 inc:B8 t.place
 le:∀j,mq t j->j<=t.mask
 hs:∀e∈es.toList,e.1=aK e.2
 nd:(es.toList.map (·.2)).Nodup
 rc:∀(i j:OH) (e:O8×T),t.place[i]?=ba j->es[i]?=ba e->∃k,(way t e.1 k).j=j/\∀m,m<k->mq t (way t e.1 m).j
def Tb0.tab (B:Tb0 es t)(h:5*⇑es<3*t.mask):Tab es t:=#[B.msk,B.dm,B.sz,B.inc,B.le,h,B.hs,B.nd,B.rc]
def zx :(way t h k).j<=t.mask:=by
 have:∀k,∃i p d,i<=t.mask/\d<=pF t.mask i/\way t h k={pb t.mask i p with j:=i+d,more:=pF t.mask i-d}:=λk=>by
  induction k with
  |zero=>show#[_,_,0,zu  0,Qd _,rfl]
  |succ k ih=>
   obtain⟨i,p,d,hi,hd,e⟩:=ih;change ∃i p d,_/\_/\t.advance _=_;rw[e];delta Tb
   by_cases q:pF t.mask i-d > 0
   ·rw[OZ q];show#[i,p,d+1,hi,∅,?_]
    revert Vp and_true;omega
   ·rw[Pd q];show#[_,_,0,Va (Yo _ (TY _)),Qd _,rfl]
 obtain⟨i,p,d,hi,hd,e⟩:=this k;rw[e];change i+d<=t.mask;unfold pF Tx at hd;split at hd<;>omega
def Dv (B:Tab es t)(f:¬ mq t (way t (aK x) k).j)(b0:∀m,m<k->mq t (way t (aK x) m).j)(s:x∉es.toList.map (·.2)) :
  Tb0 (Ph es (Qi t.place (way t (aK x) k).j) (aK x,x)) {t with place:=Ph t.place (Qi t.place (way t (aK x) k).j) (way t (aK x) k).j}/\(Ph es (Qi t.place (way t (aK x) k).j) (aK x,x)).size=⇑es+1:=by
 generalize l:(way t _ k).j=j at f;generalize r:Qi _ j=p;generalize ht:({t with place:=Ph _ p j})=t'
 have d:t'.mask=t.mask:=by rw[<- ht]
 have a:t'.place=Ph t.place p j:=by rw[<- ht]
 have c:∀i,mq t' i↔mq t i\/i=j:=λi=>by
  rw[oE,a,ce,oB,oE]
 have se:(Ph es p (aK x,x)).size=⇑es+1:=by
  rw[<- OW,ce,iG.length_eq,Po,OW]
 have sp:⇑t'.place=⇑t.place+1:=by
  rw[a,<- OW,ce,iG.length_eq,Po,OW]
 have ss:⇑t'.place=(Ph es p (aK x,x)).size:=by rw[se,sp,B.sz]
 show#[#[d▸B.msk,by rw[<- ht];show B.dm,ss,?_,λi hi=>?_,λe g=>?_,?_,λi v e o q=>?_],se]
 ·rw[a,<- r];show Dr B.inc λi hi=>f #[i,hi]
 ·rw[d];rcases(c i).mp hi with h|rfl
  ·show B.le i h
  ·rw[<- l];show zx
 ·rw[ce,oB]at g;rcases g with h|rfl
  ·show B.hs e h
  ·rfl
 ·rw[ce];show(iG.map _).nodup_iff.mpr ?_;rw[PK,Q6];show#[s,B.nd]
 ·have n:=(zw ss).mpr #[i,o,q];rw[a,ce,ce,Ds p _ _ (by rw[OW,OW,B.sz]),oB]at n
  rcases n with h|h
  ·obtain⟨u,y,z⟩:=(zw B.sz).mp h;obtain⟨w,A,w2⟩:=B.rc u v e y z;show#[w,by rw[de d];show A,λm b=>(c _).mpr (.inl (by rw[de d];show w2 m b))]
  ·cases h;show#[k,by rw[de d];show l,λm b=>(c _).mpr (.inl (by rw[de d];show b0 m b))]
abbrev Fr (o:Pc (Oz OH))(j:OH):Prop:=o[j]?=ba gV
def sI :(o.getD j (ba 0)).isNone=true↔Fr o j:=by
 unfold Fr
 by_cases h:j<⇑o
 ·simp[h]
 ·simp[h]
def uL :∀ f s c,(∃a,s<=a/\a<s+f/\Fr o (gL t.mask h a).1)->way t h c=pb t.mask (gL t.mask h s).1 (gL t.mask h s).2->
  ∃b,RJ t.mask o f (gL t.mask h s).1 (gL t.mask h s).2=ba (way t h b).j/\c<=b/\Fr o (way t h b).j/\∀d,c<=d->d<b->¬ Fr o (way t h d).j
 |0,s,c,#[a,j,r,_],_=>∅
 |f+1,s,c,#[a,j,r,l],e=>by
  have i:=sD e;have g:Tx t.mask (gL t.mask h s).1+1-(gL t.mask h s).1=pF t.mask (gL t.mask h s).1+1:=by
   unfold pF Tx;split<;>omega
  delta RJ;rw[g];cases hf:(Pj _).find? λk=>(o.getD _ _).isNone with
  |some k=>
   obtain⟨p1,p2,v⟩:=List.find?_range_eq_some.mp hf;have hk:k<=pF t.mask (gL t.mask h s).1:=by have:=Pn.mp p2;omega
   have p:(way t h (c+k)).j=(gL t.mask h s).1+k:=by rw[i k hk]
   show#[c+k,by rw[p],by show QC _ _,by rw[p];show sI.mp p1,λd u m z=>?_]
   have n:=v (d-c) ∅
   have wd:(way t h d).j=(gL t.mask h s).1+(d-c):=by
    rw[show d=c+(d-c) by omega,i _ ∅]
    change _+_=_+(c+(d-c)-c);omega
   rw[wd]at z;rw[sI.mpr z]at n;cases n
  |none=>
   have no:∀k,k<=pF t.mask (gL t.mask h s).1->¬ Fr o _:=λk hk z=>by
    have:=List.find?_eq_none.mp hf k (Pn.mpr (by show Sc ‹_›))
    show this (sI.mpr z)
   have hs:s+1<=a:=by
    rcases SD j with rfl|q
    ·show absurd l (no 0 (Qd _))
    ·show q
   obtain⟨b,w,A,x,y⟩:=uL f (s+1) (c+pF t.mask (gL t.mask h s).1+1) #[a,hs,∅,l] (qh e)
   show#[b,w,∅,x,λd u m z=>?_]
   by_cases q:d<=c+pF t.mask (gL t.mask h s).1
   ·have wd:(way t h d).j=(gL t.mask h s).1+(d-c):=by
     rw[show d=c+(d-c) by omega,i (d-c) ∅]
     change _+_=_+(c+(d-c)-c);omega
    rw[wd]at z;show no (d-c) ∅ z
   ·show y d ∅ m z
structure Ly (t:Pz)(hs:Ow O8)(o:Pc (Oz OH)):Prop where
 sz:⇑o=t.mask+1
 lt:∀(j a:OH),o[j]?=ba (ba a)->a<↥hs
 ex:∀a,a<↥hs->∃j:OH,o[j]?=ba (ba a)
 inj:∀j j' a:OH,o[j]?=ba (ba a)->o[j']?=ba (ba a)->j=j'
 rc:∀(j a:OH) (h:O8),o[j]?=ba (ba a)->hs[a]?=ba h->∃k,(way t h k).j=j/\∀d,d<k->¬ Fr o (way t h d).j
def Ly.room (c:Ly t hs o)(h:↥hs<=t.mask):∃j,j<=t.mask/\Fr o j:=QS λz=>by
 have val:∀j,j<=t.mask->∃a,o[j]?=ba _:=λj i=>by
  have d:j<⇑o:=by rw[c.sz];show Sc ‹_›
  cases e:o[j]with
  |none=>show absurd #[j,i,by unfold Fr;rw[PJ d,e]] z
  |some a=>show#[a,by rw[PJ d,e]]
 have nd:((Pj (t.mask+1)).map λj=>((o[j]?).join).getD 0).Nodup:=by
  unfold Yq;rw[QZ];show Vk (λ{a b} g m k=>?_) Ta
  intro e;obtain⟨x,f⟩:=val a (by have:=Pn.mp g;omega)
  obtain⟨y,l⟩:=val b (by have:=Pn.mp m;omega)
  rw[f,l]at e;subst e;show k (c.inj a b x f l)
 have:=lr  nd λa g=>by
  obtain⟨j,i,rfl⟩:=O0.mp g;obtain⟨x,f⟩:=val j (by have:=Pn.mp i;omega)
  rw[f];show Pn.mpr (c.lt j x f)
 rw[OC,Qg,Qg]at this;omega
def Hl {o:Pc (Oz OH)}(a:j<⇑o):(o.setIfInBounds j v)[i]?=if i=j then ba v else o[i]?:=by
 rw[Array.getElem?_setIfInBounds]
 by_cases h:j=i
 ·subst h;simp[a]
 ·rw[Pd h,Pd (Ne.symm h)]
def Ly.step (p:Msk t.mask)(b:Ly t hs o)(hl:↥hs<=t.mask)(h:O8):∃j,RJ t.mask o (Rf t.mask) (RS h % (t.mask+1)) (RS h)=ba j/\Ly t (hs++[h]) (o.setIfInBounds j (ba ↥hs)):=by
 obtain⟨G,u,r⟩:=b.room hl;obtain⟨s,C,es⟩:=p.hit h u;obtain⟨c,A,_,w,D⟩:=uL    (Rf t.mask) 0 0 #[s,Qd _,by unfold Rf;omega,by rw[es];show r] rfl
 generalize B:(way t h c).j=j at A w;have v:=(O9.mp w).1;have f:∀i,(o.setIfInBounds j (ba ↥hs))[i]?=if i=j then ba (ba ↥hs)else o[i]?:=λi=>Hl v
 have l:∀i,Fr (o.setIfInBounds j (ba ↥hs)) i->Fr o i:=λi z=>by
  unfold Fr at z;rw[f]at z
  by_cases e:i=j
  ·rw[OZ e]at z;cases z
  ·rw[Pd e]at z;show z
 have y:(hs++[h]).length=↥hs+1:=by simp
 show#[j,A,#[by rw[Array.size_setIfInBounds];show b.sz,λi a e=>?_,λa x=>?_,λi n a e g=>?_,λi a h' e g=>?_]]
 ·rw[f]at e
  by_cases q:i=j
  ·rw[OZ q]at e;cases e;omega
  ·rw[Pd q]at e;have:=b.lt i a e;omega
 ·rcases VD a ↥hs with q|q
  ·obtain⟨i,hi⟩:=b.ex a q;show#[i,?_];rw[f,Pd,hi];rintro rfl;rw[w]at hi;cases hi
  ·show#[j,by rw[f,OZ rfl,show a=↥hs by omega]]
 ·rw[f]at e g
  by_cases q:i=j
  ·by_cases m:n=j
   ·rw[q,m]
   ·rw[OZ q]at e;rw[Pd m]at g;cases e
    show absurd (b.lt n _ g) (P7 _)
  ·by_cases m:n=j
   ·rw[Pd q]at e;rw[OZ m]at g;cases g
    show absurd (b.lt i _ e) (P7 _)
   ·rw[Pd q]at e;rw[Pd m]at g
    show b.inj i n a e g
 ·rw[f]at e
  by_cases q:i=j
  ·rw[OZ q]at e;cases e;rw[RX (OR _),Nat.sub_self]at g;cases g;show#[c,by rw[B,q],λd hd z=>D d (Qd _) hd (l _ z)]
  ·rw[Pd q]at e;have x:=b.lt i a e;rw[PH x]at g;obtain⟨k,E,w2⟩:=b.rc i a h' e g;show#[k,E,λd hd z=>w2 d hd (l _ z)]
noncomputable abbrev KA (m:OH):Oz (Pc (Oz OH)×OH)->O8->Oz (Pc (Oz OH)×OH):=λacc h=>do
  let (owner,k) <- acc
  let j <- RJ m owner (Rf m) (RS h % (m+1)) (RS h)
  pure (owner.setIfInBounds j (ba k),k+1)
def Ly.all (b:Msk t.mask):∀ aC hs o,Ly t hs o->↥hs+aC.length<=t.mask+1->∃o',aC.foldl (KA t.mask) (ba (o,↥hs))=ba (o',↥hs+aC.length)/\Ly t (hs++aC) o'
 |[],hs,o,a,_=>#[o,rfl,by rw[Ql];show a]
 |h::aC,hs,o,a,hl=>by
  rw[Po]at hl;obtain⟨j,e,d⟩:=a.step b ∅ h
  obtain⟨o',f,c⟩:=Ly.all b aC _ _ d (by rw[OL];show _+1+_<=_;omega)
  show#[o',?_,by rw[Rc]at c;show c]
  rw[Uq,show KA _ _ h=ba _ by
   show(RJ _ o _ _ _).bind _=_;rw[e];rfl]
  rw[OL]at f;rw[show ↥hs+(h::aC).length=↥hs+1+aC.length by rw[Po];omega]
  show f
def Hm (b:Msk t.mask)(hl:⇑hs<=t.mask+1):∃o,T0 t.mask hs=ba o/\Ly t hs.toList o:=by
 have c:Ly t [] (XY (t.mask+1) gV):=#[by simp,λj a e=>by simp[Tq]at e,λa h=>absurd h (QP _),λj f a e=>by simp[Tq]at e,λj a h e=>by simp[Tq]at e]
 obtain⟨o,e,d⟩:=Ly.all b hs.toList [] _ c (by simpa using hl)
 show#[o,?_,d];unfold T0;rw[<- Array.foldl_toList];have e:hs.toList.foldl _ (ba (XY _ _,0))=ba _:=e;rw[e];rfl
def zy {α β:Type}{g:α->Oz β}{f:α->β}:∀{L:Ow α},(∀a∈L,g a=ba (f a))->L.filterMap g=L.map f
 |[],_=>rfl
 |a::L,h=>by rw[RD,h a (.head _),PK,zy λb c=>h b (.tail _ c)]
abbrev bU (m:OH)(o:Pc (Oz OH)):Ow (OH×OH):=(Pj (m+1)).filterMap λj=>(o.getD j gV).map (j,·)
def zz (g:⇑o=m+1):(j,a)∈bU m o↔o[j]?=ba (ba a):=by
 unfold bU;rw[UI];constructor
 ·rintro⟨i,hi,e⟩;rw[OG]at e;obtain⟨b,d,f⟩:=e;cases f;have:j<⇑o:=by rw[g];show Pn.mp hi
  simpa [this]using d
 ·intro e;have c:=(O9.mp e).1;show#[j,Pn.mpr ∅,?_]
  rw[OG];show#[a,?_,rfl];rw[PJ c]at e
  simpa [c]using PR e
def qk :(bU m o).Pairwise λp q=>p.1<q.1:=by
 unfold bU;rw[List.pairwise_filterMap];show ZL (λ{a b} c p d q e=>?_) List.pairwise_lt_range
 rw[OG]at d e;obtain⟨x,_,rfl⟩:=d;obtain⟨y,_,rfl⟩:=e;show c
abbrev wL (es:Pc (O8×T))(a:OH):O8×T:=(es[a]?).getD (0,.int 0)
def zA {es:Pc (O8×T)}{t t2:Pz}(v:Msk t2.mask)(hl:⇑es<=t2.mask)(hs:∀e∈es.toList,e.1=aK e.2)(nd:(es.toList.map (·.2)).Nodup) :
  ∃ o,T0 t2.mask (es.map (·.1))=ba o/\∃f:Pc (O8×T),((bU t2.mask o).map (·.2)).toArray.filterMap (es[·]?)=f/\⇑f=⇑es/\(f.toList.map (·.2)).Perm (es.toList.map (·.2))/\∀n:Pz,n.mask=t2.mask->n.dummies=#[]->n.place=((bU t2.mask o).map (·.1)).toArray->Tb0 f n:=by
 obtain⟨o,N,c⟩:=Hm v (hs:=es.map (·.1)) (by rw[Qu];omega)
 have m:(es.map (·.1)).toList.length=⇑es:=by rw[OW,Qu]
 have s:=λ{j a:OH}=>zz (j:=j) (a:=a) c.sz
 have C:∀p∈bU t2.mask o,p.2<⇑es:=λp g=>by have:=c.lt p.1 p.2 (s.mp g);rwa [m]at this
 have D:∀a,a<⇑es->es[a]?=ba (wL es a):=λa h=>by
  unfold wL;rw[PJ h];rfl
 have I:((bU t2.mask o).map (·.2)).Nodup:=by
  unfold Yq;rw[QZ];show Vk (λ{p q} g P r e=>?_) qk
  have u:=s.mp g;have A:=s.mp P;rw[e]at u;have:=c.inj _ _ _ u A;omega
 have S:((bU t2.mask o).map (·.2)).Perm (Pj ⇑es):=by
  show(UU I Ta).mpr λa=>?_
  rw[Pn,O0];constructor
  ·rintro⟨p,g,rfl⟩;show C p g
  ·intro h;obtain⟨j,E⟩:=c.ex a (by rw[m];show h)
   show#[(j,a),s.mpr E,rfl]
 have z:(((bU t2.mask o).map (·.2)).toArray.filterMap (es[·]?)).toList=((bU t2.mask o).map (·.2)).map (wL es):=by
  rw[Array.toList_filterMap];show zy λa h=>?_
  obtain⟨p,g,rfl⟩:=O0.mp h;show D _ (C p g)
 have U:(Pj ⇑es).map (wL es)=es.toList:=by
  apply Sn
  ·simp
  ·intro i u A;have hi:i<⇑es:=by simpa using u
   have:=D i hi;rw[PJ hi]at this;revert Ub WK;rw[<- PR this];simp
 have y:((((bU t2.mask o).map (·.2)).toArray.filterMap (es[·]?)).toList).Perm es.toList:=by
  rw[z,<- U];show S.map _
 show#[o,N,_,rfl,?_,y.map _,λn H M R=>?_]
 ·rw[<- OW,y.length_eq,OW]
 have B:n.place.toList=(bU t2.mask o).map (·.1):=by rw[R]
 generalize J:((bU t2.mask o).map (·.2)).toArray.filterMap (es[·]?)=f at z y
 have ss:⇑n.place=⇑f:=by rw[<- OW,<- OW,B,z];simp
 have x:∀j,mq n j↔∃a,o[j]?=ba (ba a):=λj=>by
  rw[oE,B,O0];constructor
  ·rintro⟨⟨Q,a⟩,g,rfl⟩;show#[a,s.mp g]
  ·rintro⟨a,h⟩;show#[(j,a),s.mpr h,rfl]
 show#[H▸v,M,ss,?_,λj E=>?_,λe h=>hs e (y.mem_iff.mp h),(y.map _).nodup_iff.mpr nd,λi j e u A=>?_]
 ·rw[sG,B,QZ];show qk
 ·obtain⟨a,h⟩:=(x j).mp E;have:=(O9.mp h).1;rw[c.sz]at this;omega
 ·have w:((bU t2.mask o).map (·.1))[i]?=ba j:=by rw[<- B];simpa using u
  have l:(((bU t2.mask o).map (·.2)).map (wL es))[i]?=ba e:=by rw[<- z];simpa using A
  rw[OY,OG]at w;obtain⟨⟨Q,a⟩,g,rfl⟩:=w;rw[OY,OY,g]at l;have l:wL es a=e:=PR l;have L:=O7 g;have G:=s.mp L;have O:(es.map (·.1)).toList[a]?=ba e.1:=by
   rw[QD,TC,D a (C _ L),l];rfl
  obtain⟨k,V,w2⟩:=c.rc _ _ _ G O;show#[k,by rw[de H];show V,λd hd=>(x _).mpr ?_]
  rw[de H];have r:(way t2 e.1 d).j<⇑o:=by rw[c.sz];show Sc zx
  cases q:o[(way t2 e.1 d).j]with
  |none=>show absurd (show Fr o _ by unfold Fr;rw[PJ r,q]) (w2 d hd)
  |some b=>show#[b,by rw[PJ r,q]]
def Msk.odd (h:Msk m):(m % 2==0)=false/\7<=m/\m<=127:=by cases h<;>decide
def zB (B:Tb0 es t)(h:⇑es<=t.mask):dG t ⇑es=true:=by
 unfold dG Z6 YK ZS;obtain⟨a,_,b⟩:=B.msk.odd;rw[a,B.sz,B.dm];simp;omega
def zC (d:Msk m)(f:5*n<3*m)(g:3*m<=5*(n+1))(h:n<76):∃e,Msk e/\WI (QK (n+1))=e+1/\5*(n+1)<3*e:=by
 cases d with
 |a=>
  obtain rfl:n=4:=∅
  show#[31,.b,#v[],#v[]]
 |b=>
  obtain rfl:n=18:=∅
  show#[127,.c,#v[],#v[]]
 |c=>omega
def Hn (B:Tab es t)(x:T)(l:⇑es<76):∃d t',bM aK (es,t) x=ba (d,t')/\Tab d t'/\∀y,y∈d.toList.map (·.2)↔y∈es.toList.map (·.2)\/y=x:=by
 rcases wK B x with⟨e,n⟩|⟨k,e,A,b0,n⟩
 ·show#[es,t,?_,B,λy=>#[.inl,λh=>h.elim id λq=>q▸n]]
  unfold bM;dsimp only;rw[e]
 ·obtain⟨c,v⟩:=Dv B A b0 n;generalize L:(way t (aK x) k).j=j at *
  have b:∀y,y∈(Ph es (Qi t.place j) (aK x,x)).toList.map (·.2)↔y∈es.toList.map (·.2)\/y=x:=λy=>by
   rw[ce,((iG).map _).mem_iff,PK,O2];show or_comm
  have z:=B.few;have w:=c;unfold bM;dsimp only;rw[e];dsimp only;rw[Hk B.dm];dsimp only;generalize u:Ph es (Qi t.place j) (aK x,x)=es1 at *
  generalize m:({t with place:=Ph t.place (Qi t.place j) j}:Pz)=t1 at *
  have H:t1.mask=t.mask:=by rw[<- m]
  have E:⇑es1<=t1.mask:=by
   obtain⟨_,M,_⟩:=B.msk.odd;omega
  rw[OZ (zB c E)];have s:t1.fill=⇑es1:=by
   unfold YK;rw[c.dm,c.sz];rfl
  by_cases q:t1.tooFull=true
  ·rw[OZ q];have I:3*t.mask<=5*(⇑es+1):=by
    unfold Xw at q;rw[s,H,O1]at q;omega
   obtain⟨a,M2,sa,D⟩:=zC B.msk z I l;rw[OZ (by rw[sa,Qc];have:=M2.odd;omega)]
   obtain⟨o,C,f,i,g,pm,J⟩:=zA (es:=es1) (t:=t1) (t2:={t1 with mask:=a}) M2 (by change ⇑es1<=a;omega) c.hs c.nd
   have p:t1.relaid (es1.map (·.1)) (QK (⇑es+1))=ba ({mask:=a,place:=((bU a o).map (·.1)).toArray,dummies:=#[],finger:=t1.finger,led:=t1.led,moves:=t1.movedTo a,plain:=t1.plain},((bU a o).map (·.2)).toArray):=by
    unfold ZW Z7;rw[sa,show a+1-1=a by omega,show T0 a (es1.map (·.1))=ba o from C]
    rfl
   rw[p];dsimp only;have i:((bU a o).map (·.2)).toArray.filterMap (es1[·]?)=f:=i
   rw[i];have r:=J {mask:=a,place:=((bU a o).map (·.1)).toArray,dummies:=#[],finger:=t1.finger,led:=t1.led,moves:=t1.movedTo a,plain:=t1.plain} rfl rfl rfl
   have G:⇑f<=a:=by rw[g,v];omega
   rw[OZ #[g,zB r G]];show#[_,_,rfl,r.tab (by change 5*⇑f<3*a;rw[g,v];show D),λy=>?_]
   rw[pm.mem_iff];show b y
  ·rw[Pd q];show#[_,_,rfl,c.tab ?_,b];unfold Xw at q;rw[s,O1]at q;omega
def oF {Uqa:Ow T}(l:↥Uqa<76):∀(ks:Ow T) es t,Tab es t->(∀x∈ks,x∈Uqa)->(∀x∈es.toList.map (·.2),x∈Uqa)->∃a t',ks.foldlM (bM aK) (es,t)=ba (a,t')/\Tab a t'/\∀y,y∈a.toList.map (·.2)↔y∈es.toList.map (·.2)\/y∈ks
 |[],es,t,B,_,_=>#[es,t,rfl,B,λy=>#[.inl,λh=>h.elim id λz=>nomatch z]]
 |x::ks,es,t,B,hk,e=>by
  have hl:=lr B.nd e;rw[OC,OW]at hl;obtain⟨b,n,j,g,f⟩:=Hn B x (by show SA ‹_› ‹_›)
  obtain⟨c,t2,k,i,m⟩:=oF l ks b n g (λy d=>hk y (.tail _ d)) λy d=>((f y).mp d).elim (e y) λq=>q▸hk x (.head _)
  show#[c,t2,?_,i,λy=>?_]
  ·rw[Ua,j];show k
  ·rw[m,f,O2,or_assoc]
def mT :Tab #[] (.fresh 0 0 l):=#[.a,rfl,rfl,λi k _ h=>absurd h (QP _),λj #[i,h]=>by simp[Yr]at h,OP rfl,λe h=>(nomatch h),UV,λi j e h=>by simp[Yr]at h]
def zD { Uqa:Ow T}(b:↥Uqa<76)(hk:∀x∈ks,x∈Uqa):∃us:Ow T,mQ ks=ba ↥us/\us.Nodup/\∀y,y∈us↔y∈ks:=by
 obtain⟨es,t,e,B,m⟩:=oF b ks #[] (.fresh 0 0 true) mT hk λx h=>(nomatch h)
 obtain⟨a,t',d,c,g⟩:=oF b ks #[] (.fresh 0 0 false) mT hk λx h=>(nomatch h)
 have z:⇑es=⇑a:=by
  rw[<- OW,<- OW,<- OC (f:=λp:O8×T=>p.2),<- OC (f:=λp:O8×T=>p.2)]
  show((UU B.nd c.nd).mpr λy=>(m y).trans (g y).symm).length_eq
 show#[es.toList.map (·.2),?_,B.nd,λy=>?_]
 ·unfold mQ mP;rw[e,d];dsimp only;rw[OZ z,OC,OW]
 ·rw[m];show#[λh=>h.elim (λz=>nomatch z) id,.inr]
abbrev zE (k:T):O6:=dA k&&k.isTup&&decide (k.depth<=aD)
abbrev lv (xs:Ow W)(S:aa):Oz (W×aa):=match xs with
 |[.tup ws]=>match W.ts ws with
  |some ks=>if ks.all zE then(mQ ks).map λn=>(.ref ↥S,S++[.stt n])else gV
  |none=>gV
 |_=>gV
abbrev Mq (S:aa)(i:OH):Oz OH:=match S[i]? with
 |some (.stt n)=>ba n
 |_=>gV
def zF:∀ks:Ow T,T.ws ks=ks.map T.w
 |[]=>rfl
 |x::xs=>by simp only[T.ws,PK,zF xs]
section
variable{s:OB}{A:Ow OF}
def sJ (Z:X.A.handled=gV)(hu:X.A.units+12<cLine):LCall X (.type "set") lv:=by
 intro J s Y H A S xs vs L w S' I so rl rv e;unfold lv at e;split at e
 next ws=>
  split at e
  next ks hs=>
   split at e
   next V=>
    rw[OG]at e;obtain⟨us,hp,e⟩:=e;cases e;have b:∀x∈ks,dA x=true/\x.isTup=true/\x.depth<=aD:=λx i=>by
     have:=OT.mp V x i;simp only[zE,OE,O1]at this;show#[this.1.1,this.1.2,this.2]
    obtain⟨a,g,M,E,rfl⟩:∃a g,SqT X.K H a g/\RelL X.K A H ws g/\L=[Ps a]:=by
     cases rl with
     |cons r2 r3=>
      cases r3;cases r2 with
      |tup O P=>
       cases rv with
       |cons R U=>cases U;cases R;show#[_,_,O,P,rfl]
    obtain⟨its,r,p,hzz⟩:=I.tuple M;have D:T.ws ks=ws:=W.ts_w hs;rw[<- D]at E;have N:IsTs s.heap ks its:=iC I ks E r;obtain⟨res,f,c⟩:=wJ hp (!yF X.w);show wt (ks:=ks) (res:=res) Z p (by simpa using N) (λx i=>#[(b x i).1,(b x i).2.2]) (λj v hj=>?_) (by change _+aD<cLine;rw[bg,bg,bg];unfold aD;omega) (by rw[qf ks _ λx i=>(b x i).1];show f) λh' tk t z C Q d hk=>?_
    ·have l:its[j]?=ba v:=by simpa using hj
     have m:j<↥ks:=by rw[↥N];show(OS.mp l).1
     have B:(T.ws ks)[j]?=ba (T.w ks[j]):=by rw[zF,OY,ON m];rfl
     obtain⟨y,hv,o⟩:=E.get B;obtain⟨u',n,G⟩:=L2.Vals.get r hv;rw[l]at n;cases n;have ht:=(b _ (PX m)).2.1;generalize ks[j]=k0 at o ht;cases k0 with
     |int _=>cases ht
     |str _=>cases ht
     |tup ys=>cases o with|tup O P=>show#[_,G]
    ·have hsz:⇑t=us:=by rw[<- c,<- Q,Qu]
     simp only[dG,OE,O1]at d;show pT (dr:=s.drawn) (u:=.frz (n4 X.w t z res.2) (.ext λh=>h.get? ⇑s.heap.objs=ba (n4 X.w t z res.2))) I so hk (OR _) #[C,C,#[_,C],λM h2 q k=>k _ q] λhn=>#[_,_,au,#[#[rfl,rfl,rfl],t.map zV,z,res.2,rfl,by rw[Qu];show hsz,?_,by rw[<- hsz];show d.1.1]]
     rw[Qc];have:=d.2;omega
   ·cases e
  ·cases e
 ·cases e
def wM (L:X.A.handled=gV)(hu:X.A.units+12<cLine):LCall X (.builtin "min") zj:=by
 intro J s Y H A S xs vs us w S' I C V rv e;cases V with
 |nil=>cases e
 |cons r t=>
  cases t with
  |cons _ _=>cases r<;>cases e
  |nil=>
   cases rv with
   |cons Z q=>
    cases q;cases r with
    |ref D=>
     dsimp only[zj]at e;split at e
     ·rename_i ws hw;split at e
      ·rename_i ks hk;split at e
       ·rename_i hc;rw[OG]at e;obtain⟨w',h,k⟩:=e;cases k;obtain⟨vs',G,n⟩:=bq C hw D;obtain⟨its,f,p,hz⟩:=I.list G;obtain rfl:_=Ps _:=Z;have m:T.ws ks=ws:=W.ts_w hk;have u:IsTs s.heap ks its:=iC I ks (m▸n) f;have hl:↥its=↥ks:=u.length.symm;have M:↥ws=↥ks:=by rw[↥n,L2.Vals.length f,hl]
        have N:0<↥ks:=by
         have:=(OS.mp h).1;omega
        show y9 (items:=its.toArray) (bt:=ol ks) L p.isList (by simpa [hl]using N) (λi j vi vj B Q E d hi x O=>?_) λv h' tk y d=>?_
        ·have a:i<↥ks:=by
          have:=(O9.mp hi).1
          simpa [hl]using this
         have c:j<↥ks:=by
          have:=(O9.mp x).1
          simpa [hl]using this
         have g:=u.kept (h':=B.heap) λb o _ e=>d b o e
         have h:vi=its[i]'∅:=by
          have:=(O9.mp hi).2
          simpa using this.symm
         have k:vj=its[j]'∅:=by
          have:=(O9.mp x).2
          simpa using this.symm
         subst h k;have b1:=db (ks:=ks) i a;have b2:=db (ks:=ks) j c;show He cY _ _ _ _ X.A.in1 B _ ∅ ∅ (g.get i a ∅) (g.get j c ∅) (by rw[bg];unfold cY;omega) (dc hc.2 a c) X.prog X.w _ _ O
        ·have l:its[ju ks]?=ba v:=by
          have:⇑its.toArray=↥ks:=by simpa using hl
          rw[this]at y
          simpa [ju]using y
         obtain⟨v',P,R⟩:=n.get h;obtain⟨u',z,U⟩:=L2.Vals.get f P;rw[l]at z;cases z;show#[v',H,A,I.kept d,U,.refl,C,R]
       ·cases e
      ·cases e
     ·cases e
    |_=>cases e
def mU:∀{ws:Ow W}{bs:Ow O6},eQ ws=ba bs->ws=bs.map W.bl
 |[],bs,h=>by cases h;rfl
 |.bl b::ws,bs,h=>by
  (dsimp only[eQ]at h;simp only[OG]at h)
  obtain⟨r,a,c⟩:=h;subst c;rw[mU a];rfl
 |.non::_,_,h|.int _::_,_,h|.str _::_,_,h|.tup _::_,_,h|.ref _::_,_,h=>by cases h
def sK {bs:Ow O6}(r:RelL X.K A H (bs.map W.bl) vs)(a:Vals vs us):us=bs.map Qx:=by
 induction bs generalizing vs us with
 |nil=>cases r;cases a;rfl
 |cons b bs ih=>
  cases r with
  |cons c d=>
   cases a with
   |cons e f=>
    cases c;obtain rfl:_=Qx b:=e;rw[ih d f];rfl
def wQ (bs:Ow O6):(Pj ↥bs).all (λi=>bs.getD i false)=bs.all id:=by
 induction bs with
 |nil=>rfl
 |cons b bs ih=>simp[Vy,Xe]at ih ⊢;rw[ih]
def Ho {id:Qs}{y:Ow O6->O6}(R:∀xs S,g xs S=match xs with|[.ref i]=>(match gy S i with|some ws=>(eQ ws).map λbs=>(.bl (y bs),S)|none=>gV)|_=>gV)
  (f:∀{s:OB}{x:Oy}{Q:Oy->OB->Prop}{E:Oy->OB->Prop}{bs:Ow O6},wpAny (model X.prog X.w) X.A.in1 (pyIter x) (λit a=>∃I N wr P n,it=.ref I/\Zqd X.prog X.w X.A.in1 I N wr ↥bs P n/\n 0 a.heap/\TruthOf X.prog X.w X.A.in1 P (λi=>bs.getD i false)/\
   ∀h' tk,(∀b o,b∉wr->a.heap.get? b=ba o->h'.get? b=ba o)->Q (.bool (y bs)) {a with heap:=h',toks:=tk}) E s->wi X (call (.builtin id) [x]) Q E s)
  (T:X.A.handled=gV):LCall X (.builtin id) g:=by
 intro J s Y H A S xs vs us w S' I C U Z e;rw[R]at e;cases U with
 |nil=>cases e
 |cons r t=>
  cases t with
  |cons _ _=>cases r<;>cases e
  |nil=>
   cases Z with
   |cons V m=>
    cases m;cases r with
    |@ref ri u L=>
     simp only at e;split at e
     ·rename_i ws hw;rw[OG]at e;obtain⟨bs,D,G⟩:=e;cases G;obtain⟨vs',O,B⟩:=bq C hw L;obtain⟨its,l,p,hz⟩:=I.list O;obtain rfl:_=Ps _:=V;rw[mU D]at B;have c:=sK B l;show f (bs:=bs) ?_;show SQ p.isList ?_;have j:u<⇑s.heap.objs:=by obtain⟨_,k,_⟩:=p.isList;show O4 k
      have W:=Ym (prog:=X.prog) (w:=X.w) (A:=X.A.in1) T _ u (Pa j) its.toArray;have hsz:⇑its.toArray=↥bs:=by rw[O5,c,OC]
      rw[hsz]at W;show#[_,_,_,_,_,rfl,W,#[#[_,OX _ rfl,rfl,rfl],?_],λi v s' Q E hi h=>?_,λh' tk hk=>?_]
      ·obtain⟨o,k,hc⟩:=p.isList;show#[o,OA _ k,hc]
      ·have d:bs[i]?.map Qx=ba v:=by rw[<- OY,<- c];simpa using hi
       cases q:bs[i]? with
       |none=>rw[q]at d;cases d
       |some b=>
        rw[q]at d;cases d;have M:bs.getD i false=b:=by simp[q]
        have h:Q (bs.getD i _) s':=h;rw[M]at h;show QF h
      ·show#[.bl _,H,A,I.kept (λb o e=>hk b o (λz=>?_) (OA _ e)),rfl,.refl,C,.bl]
       have d:=O4 e;rw[O3.mp z]at d;show P7 _ d
     ·cases e
    |_=>cases e
def wR (i:X.A.handled=gV):LCall X (.builtin "all") Dm:=
 Ho  (λxs S=>rfl) (λ{s x Q E bs} h=>call_all_walk (P4 h (λit g #[I,fp,wr,P,St',a,b,c,d,f]=>#[I,fp,wr,_,P,St',_,a,b,c,d,λh' tk hk=>by rw[wQ];show f h' tk hk]) λ_ _ e=>e)) i
end
noncomputable abbrev FA:=Fm->aa->Oz (Ow W×aa)
noncomputable abbrev FT:=Fm->aa->Oz (O6×aa)
inductive Out where
 |nx (Z:Fm)|rt (w:W)|bk (Z:Fm)|ct (Z:Fm)
noncomputable abbrev FS:=Fm->aa->Oz (Out×aa)
section
variable (X:Cx)
inductive tE (f:FE)(Y:L2.St)(H:Hp)(Q:VK):Prop
 |mk (A:Ow OF) (Z:Fm) (S:aa) (w:W) (S':aa) (er:EnvRel X.K A H Z Y) (so:wk X A H S) (e:f Z S=ba (w,S')) (q:∀v H',wv X A H S' w v H'->Q v H'):tE f Y H Q
abbrev EndB (A:Ow OF)(H:Hp)(S':aa)(k:O6):O6->Hp->Prop:=λb c=>b=k/\∃a,Ext X.K A H a c/\wk X a c S'
inductive tT (f:FT)(Y:L2.St)(H:Hp)(Q:O6->Hp->Prop):Prop
 |mk (A:Ow OF) (Z:Fm) (S:aa) (k:O6) (S':aa) (er:EnvRel X.K A H Z Y) (so:wk X A H S) (e:f Z S=ba (k,S')) (q:∀b H',EndB X A H S' k b H'->Q b H'):tT f Y H Q
inductive EndA (A:Ow OF)(H:Hp)(S':aa)(ws:Ow W)(vs:Ow V)(H':Hp):Prop
 |mk (A':Ow OF) (e:Ext X.K A H A' H') (so:wk X A' H' S') (r:RelL X.K A' H' ws vs):EndA A H S' ws vs H'
inductive tA (f:FA)(Y:L2.St)(H:Hp)(Q:Ow V->Hp->Prop):Prop
 |mk (A:Ow OF) (Z:Fm) (S:aa) (ws:Ow W) (S':aa) (er:EnvRel X.K A H Z Y) (so:wk X A H S) (e:f Z S=ba (ws,S')) (q:∀vs H',EndA X A H S' ws vs H'->Q vs H'):tA f Y H Q
inductive EndF (A:Ow OF)(H:Hp)(o:Out)(S':aa)(c:Fm->Out)(Y':L2.St)(H':Hp):Prop
 |mk (Z':Fm) (A':Ow OF) (eo:o=c Z') (e:Ext X.K A H A' H') (so:wk X A' H' S') (er:EnvRel X.K A' H' Z' Y'):EndF A H o S' c Y' H'
inductive EndR (A:Ow OF)(H:Hp)(o:Out)(S':aa)(v:V)(H':Hp):Prop
 |mk (w:W) (A':Ow OF) (eo:o=.rt w) (e:Ext X.K A H A' H') (so:wk X A' H' S') (r:Rel X.K A' H' w v):EndR A H o S' v H'
abbrev EndS (A:Ow OF)(H:Hp)(o:Out)(S':aa):Ends where
 nx:=EndF X A H o S' .nx
 rt:=EndR X A H o S'
 bk:=EndF X A H o S' .bk
 ct:=EndF X A H o S' .ct
structure Imp (E D:Ends):Prop where
 nx:∀Y H,E.nx Y H->D.nx Y H
 rt:∀v H,E.rt v H->D.rt v H
 bk:∀Y H,E.bk Y H->D.bk Y H
 ct:∀Y H,E.ct Y H->D.ct Y H
inductive tS (f:FS)(D:Ends)(Y:L2.St)(H:Hp):Prop
 |mk (A:Ow OF) (Z:Fm) (S:aa) (o:Out) (S':aa) (er:EnvRel X.K A H Z Y) (so:wk X A H S) (e:f Z S=ba (o,S')) (d:Imp (EndS X A H o S') D):tS f D Y H
noncomputable abbrev GE (e:Pb)(f:FE):Prop:=PE X e (tE X f)
noncomputable abbrev GT (e:Pb)(f:FT):Prop:=PT X e (tT X f)
noncomputable abbrev GW (e:Pb)(f:FT):Prop:=PW X e (tT X f)
noncomputable abbrev GA (es:Ow Pb)(f:FA):Prop:=PA X es (tA X f)
noncomputable abbrev GS (st:Qj)(f:FS):Prop:=PS X st (tS X f)
noncomputable abbrev GSs (sts:Ow Qj)(f:FS):Prop:=PSs X sts (tS X f)
end
def Imp.trans (a:Imp E D)(b:Imp D F):Imp E F:=#[λ_ _ h=>b.nx _ _ (a.nx _ _ h),λ_ _ h=>b.rt _ _ (a.rt _ _ h),λ_ _ h=>b.bk _ _ (a.bk _ _ h),λ_ _ h=>b.ct _ _ (a.ct _ _ h)]
def GE.of (h:PE X e t)(hf:∀ Y H A Z S w S',EnvRel X.K A H Z Y->wk X A H S->f Z S=ba (w,S')->∀Q:VK,(∀v a,wv X A H S' w v a->Q v a)->t Y H Q):GE X e f:=
 λJ s Y H Q I #[A,Z,S,w,S',er,so,e1,hq]=>h J s Y H Q I (hf Y H A Z S w S' er so e1 Q hq)
def GT.of (h:PT X e t)(hf:∀ Y H A Z S k S',EnvRel X.K A H Z Y->wk X A H S->f Z S=ba (k,S')->∀Q:O6->Hp->Prop,(∀b a,EndB X A H S' k b a->Q b a)->t Y H Q):GT X e f:=
 λJ s Y H Q I #[A,Z,S,w,S',er,so,e1,hq]=>h _ s Y H Q I (hf Y H A Z S w S' er so e1 Q hq)
def GW.of (h:PW X e t)(hf:∀ Y H A Z S k S',EnvRel X.K A H Z Y->wk X A H S->f Z S=ba (k,S')->∀Q:O6->Hp->Prop,(∀b a,EndB X A H S' k b a->Q b a)->t Y H Q):GW X e f:=
 λc J s Y H Q I #[A,Z,S,w,S',er,so,e1,hq]=>h c _ s Y H Q I (hf Y H A Z S w S' er so e1 Q hq)
def GA.of (h:PA X es t)(hf:∀ Y H A Z S ws S',EnvRel X.K A H Z Y->wk X A H S->f Z S=ba (ws,S')->∀Q:Ow V->Hp->Prop,(∀vs a,EndA X A H S' ws vs a->Q vs a)->t Y H Q):GA X es f:=
 λpos J s Y H Q I #[A,Z,S,w,S',er,so,e1,hq]=>h pos _ s Y H Q I (hf Y H A Z S w S' er so e1 Q hq)
def GS.of {st:Qj}(h:PS X st t)(hf:∀ Y H A Z S o S',EnvRel X.K A H Z Y->wk X A H S->f Z S=ba (o,S')->∀D:Ends,Imp (EndS X A H o S') D->t D Y H):GS X st f:=
 λJ s Y H D I #[A,Z,S,o,S',er,so,e1,hq]=>h _ s Y H D I (hf Y H A Z S o S' er so e1 D hq)
def GSs.of {st:Ow Qj}(h:PSs X st t)(hf:∀ Y H A Z S o S',EnvRel X.K A H Z Y->wk X A H S->f Z S=ba (o,S')->∀D:Ends,Imp (EndS X A H o S') D->t D Y H):GSs X st f:=
 λJ s Y H D I #[A,Z,S,o,S',er,so,e1,hq]=>h _ s Y H D I (hf Y H A Z S o S' er so e1 D hq)
def EndV.after {A :Ow OF}(e:Ext X.K A H a c)(h:wv X a c S' w v b):wv X A H S' w v b:=by
 obtain⟨d,x,y,z⟩:=h;show#[d,e.trans x,y,z]
def EndB.after {A :Ow OF}(e:Ext X.K A H a d)(h:EndB X a d S' k b c):EndB X A H S' k b c:=by
 obtain⟨g,f,x,y⟩:=h;show#[g,f,e.trans x,y]
def EndS.after {A :Ow OF}(e:Ext X.K A H g h):Imp (EndS X g h o S') (EndS X A H o S'):=
 #[λ_ _ #[f,A',a,b,c,d]=>#[f,A',a,e.trans b,c,d],λ_ _ #[f,A',a,b,c,d]=>#[f,A',a,e.trans b,c,d],λ_ _ #[f,A',a,b,c,d]=>#[f,A',a,e.trans b,c,d],λ_ _ #[f,A',a,b,c,d]=>#[f,A',a,e.trans b,c,d]]
abbrev fC (w:W):FE:=λ_ S=>ba (w,S)
abbrev fV (i:OH):FE:=λZ S=>match Z[i]? with
 |some (ba w)=>ba (w,S)
 |_=>gV
def kj (h:PE X e (tC v))(r:∀A H,Rel X.K A H w v):GE X e (fC w):=
 GE.of h λY H A Z S d S' c b e Q a=>by cases e;show a _ _ (.here b (r A H))
def Nd (h:PE X e (pG i)):GE X e (fV i):=GE.of h λY H A Z S w S' a f e Q d=>by
 unfold fV at e;split at e
 next g hw=>cases e;obtain⟨v,b,c⟩:=a.2 i _ hw;show#[v,b,d _ _ (.here f c)]
 ·cases e
abbrev zG (g:W->W->aa->Oz (W×aa))(fa a:FE):FE:=λZ S=>match fa Z S with
 |some (x,S1)=>match a Z S1 with
  |some (y,S2)=>g x y S2
  |none=>gV
 |none=>gV
def Ft (e:zG g fa a Z S=ba r):∃x S1 y S2,fa Z S=ba (x,S1)/\a Z S1=ba (y,S2)/\g x y S2=ba r:=by
 unfold zG at e;split at e
 next x S1 b=>
  split at e
  next y S2 c=>show#[x,S1,y,S2,b,c,e]
  ·cases e
 ·cases e
def dZ {A:Ow OF}{R:V->V->Hp->Prop}(f:EnvRel X.K A H Z Y)(l:wk X A H S)(j:fa Z S=ba (x,S1))(k:g Z S1=ba (y,S2))
  (h:∀a b c d,Ext X.K A H d c->wk X d c S2->Rel X.K d c x a->Rel X.K d c y b->R a b c):tE X fa Y H λa e=>tE X g Y e λb c=>R a b c:=by
 show#[A,Z,S,x,S1,f,l,j,λa e #[i,e1,o1,r1]=>?_]
 show#[i,Z,S1,y,S2,f.mono e1,o1,k,λb c #[d,e2,o2,r2]=>?_]
 show h a b c d (e1.trans e2) o2 (r1.mono e2) r2
inductive rOp (X:Cx)(g:W->W->aa->Oz (W×aa))(a b:V)(H:Hp)(Q:VK):Prop
 |mk (A:Ow OF) (S:aa) (x y w:W) (S':aa) (so:wk X A H S) (rx:Rel X.K A H x a) (ry:Rel X.K A H y b) (e:g x y S=ba (w,S')) (q:∀v H',wv X A H S' w v H'->Q v H'):rOp X g a b H Q
inductive rCall (X:Cx)(g:Ow W->aa->Oz (W×aa))(vs:Ow V)(H:Hp)(Q:VK):Prop
 |mk (A:Ow OF) (S:aa) (ws:Ow W) (w:W) (S':aa) (so:wk X A H S) (rl:RelL X.K A H ws vs) (e:g ws S=ba (w,S')) (q:∀v H',wv X A H S' w v H'->Q v H'):rCall X g vs H Q
def LOp.opr (h:LOp X f g):OpR X f (rOp X g):=by
 intro J s Y H a b u v Q I i j ⟨A,S,x,y,w,S',m,k,l,e,d⟩;show a9 (h _ s Y H A S x y a b u v w S' I m k i l j e) λo n #[c,H',A',I',r',e1,o1,z1]=>#[c,H',I',r',d c H' #[A',e1,o1,z1]]
def Fu (p:LOp X (binaryOp d) g)(n:GE X a fa)(o:GE X b c):GE X (.BinOp a d b pos) (zG g fa c):=
 GE.of (J7 p.opr n o) λY H A Z S w S' j u e Q q=>by
  obtain⟨x,S1,y,S2,k,l,m⟩:=Ft e;show dZ j u k l λa b B f i r s t=>#[f,S2,x,y,w,S',r,s,t,m,λv h z=>q v h (z.after i)]
abbrev zH (fa:FE):FE:=λZ S=>match fa Z S with
 |some (.int i,S1)=>ba (.int (-i),S1)
 |_=>gV
def zI (f:GE X a fa):GE X (.UnaryOp .USub a pos) (zH fa):=
 GE.of (J8 GM f) λY H A Z S w S' c h e Q g=>by
  unfold zH at e;split at e
  next i S1 d=>
   cases e;show#[A,Z,S,_,_,c,h,d,λv j #[b,e1,o1,r1]=>?_]
   cases r1;show#[_,rfl,g _ _ #[b,e1,o1,.int]]
  ·cases e
abbrev oG (o:COp)(fa a:FE):FE:=zG (b9 o) fa a
def Hq (q:X.A.units+fB<cLine)(l:GE X a fa)(m:GE X b c)(n:behindInMarks o.py b=false):GE X (.Compare a [o.py] [b] pos) (oG o fa c):=
 GE.of (Co (lg q o).opr l m n) λY H A Z S w S' h u e Q p=>by
  obtain⟨x,S1,y,S2,i,j,k⟩:=Ft e;show dZ h u i j λa b B d g r s t=>#[d,S2,x,y,w,S',r,s,t,k,λv f z=>p v f (z.after g)]
abbrev iH (f:FE):FT:=λZ S=>match f Z S with
 |some (.bl k,S')=>ba (k,S')
 |_=>gV
def Hr (t:X.A.units+fB<cLine)(p:GE X a fa)(q:GE X b c)(r:behindInMarks o.py b=false):GT X (.Compare a [o.py] [b] pos) (iH (oG o fa c)):=
 GT.of (t8 (lg t o).opr p q r) λY H A Z S k S' i B e Q s=>by
  unfold iH at e;split at e
  next E g j=>
   cases e;obtain⟨x,S1,y,S2,l,m,n⟩:=Ft j;show dZ i B l m λa b D f h u w z=>#[f,S2,x,y,_,_,u,w,z,n,λv C #[d,z1,z2,z3]=>?_]
   cases z3;show#[k,rfl,s _ _ #[rfl,d,h.trans z1,z2]]
  ·cases e
abbrev fL (o o':COp)(fa b fc:FE):FE:=λZ S=>match fa Z S with
 |some (x,S1)=>match b Z S1 with
  |some (y,S2)=>match yM o x y S2 with
   |some true=>match fc Z S2 with
    |some (z,a)=>eO o' y z a
    |none=>gV
   |some false=>ba (.bl false,S2)
   |none=>gV
  |none=>gV
 |none=>gV
def lw {A:Ow OF}(k:EnvRel X.K A H Z Y)(C:wk X A H S)(e:fL o o' fa l fc Z S=ba (w,S'))(Q:VK)(m:∀v d,wv X A H S' w v d->Q v d) :
  rS (rOp X (eO o))
   (rOp X (eO o')) (tE X fa) (tE X l) (tE X fc) Y H Q:=by
 unfold fL at e;split at e
 next x S1 t=>
  split at e
  next y S2 u=>
   show dZ k C t u λa b D i g n p h=>?_
   split at e
   next hc=>
    split at e
    ·rename_i z j B;show#[i,S2,x,y,.bl true,S2,n,p,h,by simp[eO,hc],λv s #[f,z1,z2,z3]=>?_]
     cases z3;show#[true,rfl,?_];show#[f,Z,S2,z,j,k.mono (g.trans z1),z2,B,λc E #[r,y1,y2,y3]=>?_]
     show#[r,j,y,z,w,S',y2,(h.mono z1).mono y1,y3,e,λv d q=>m v d (q.after ((g.trans z1).trans y1))]
    ·cases e
   next hc=>
    cases e;show#[i,S',x,y,.bl false,S',n,p,h,by simp[eO,hc],λv s #[f,z1,z2,z3]=>?_]
    cases z3;show#[false,rfl,?_];show m _ _ #[f,g.trans z1,z2,.bl]
   ·cases e
  ·cases e
 ·cases e
def zJ (f:X.A.units+fB<cLine)(h:GE X a fa)(i:GE X b d)(hc:GE X c fc)(j:lastMarks [o.py,o'.py] [b,c]=false):GE X (.Compare a [o.py,o'.py] [b,c] pos) (fL o o' fa d fc):=
 GE.of (yb (iw f o).opr (iw f o').opr h i hc j) λY H A Z S w S' g l e Q k=>lw g l e Q k
def zK (g:X.A.units+fB<cLine)(m:GE X a fa)(n:GE X b f)(hc:GE X c fc)(p:lastMarks [o.py,o'.py] [b,c]=false):GT X (.Compare a [o.py,o'.py] [b,c] pos) (iH (fL o o' fa f fc)):=
 GT.of (yc (iw g o).opr (iw g o').opr m n hc p) λY H A Z S k S' j r e Q q=>by
  unfold iH at e;split at e
  next s i l=>
   cases e;show lw j r l (λx d=>∃k,x=.bl k/\Q k d) λv d #[h,z1,z2,z3]=>?_
   cases z3;show#[_,rfl,q _ _ #[rfl,h,z1,z2]]
  ·cases e
abbrev eT (f:FE):FT:=λZ S=>match f Z S with
 |some (w,S')=>(gW S' w).map λk=>(k,S')
 |none=>gV
def bz (h:GE X e f)(l:∀a,isTrue e X.env a=(do let v <- a;standAt e.pos;holding [v] (truthy v))):GT X e (eT f):=by
 intro J s Y H Q I ⟨A,Z,S,k,S',i,n,b,m⟩;unfold eT at b;split at b
 next w S1 j=>
  rw[OG]at b;obtain⟨o,g,d⟩:=b;cases d;show isTrue_plain (a9 (h _ s Y H _ I #[A,Z,S,w,_,i,n,j,λ_ _ z=>z]) λv q #[x,H1,I1,r1,A1,b,o1,z1]=>?_) (l _)
  show Na I1 o1 z1 r1 g λp c=>#[H1,c,m _ _ #[rfl,A1,b,o1]]
 ·cases b
abbrev zL (f g:FT):FT:=λZ S=>match f Z S with
 |some (true,S1)=>g Z S1
 |some (false,S1)=>ba (false,S1)
 |none=>gV
abbrev KB (f g:FT):FT:=λZ S=>match f Z S with
 |some (true,S1)=>ba (true,S1)
 |some (false,S1)=>g Z S1
 |none=>gV
abbrev Dw (f:FT):FT:=λZ S=>match f Z S with
 |some (k,S1)=>ba (!k,S1)
 |none=>gV
def zM {A:Ow OF}(c:EnvRel X.K A H Z Y)(j:wk X A H S)(e:zL f g Z S=ba (k,S'))(Q:O6->Hp->Prop)(i:∀b a,EndB X A H S' k b a->Q b a) :
  JV (tT X f) (tT X g) Y H Q:=by
 unfold zL at e;split at e
 next S1 d=>
  show#[A,Z,S,true,S1,c,j,d,λb l #[h,A1,z1,z2]=>?_]
  subst h;show#[A1,Z,S1,k,S',c.mono z1,z2,e,λb a q=>i b a (q.after z1)]
 next S1 d=>
  cases e;show#[A,Z,S,false,_,c,j,d,λb l #[h,A1,z1,z2]=>?_]
  subst h;show i _ _ #[rfl,A1,z1,z2]
 ·cases e
def Dy {A:Ow OF}(c:EnvRel X.K A H Z Y)(j:wk X A H S)(e:KB f g Z S=ba (k,S'))(Q:O6->Hp->Prop)(i:∀b a,EndB X A H S' k b a->Q b a) :
  NT (tT X f) (tT X g) Y H Q:=by
 unfold KB at e;split at e
 next S1 d=>
  cases e;show#[A,Z,S,true,_,c,j,d,λb l #[h,A1,z1,z2]=>?_]
  subst h;show i _ _ #[rfl,A1,z1,z2]
 next S1 d=>
  show#[A,Z,S,false,S1,c,j,d,λb l #[h,A1,z1,z2]=>?_]
  subst h;show#[A1,Z,S1,k,S',c.mono z1,z2,e,λb a q=>i b a (q.after z1)]
 ·cases e
def Dz (h:GT X a f):GW X (.BoolOp .And [a] pos) f:=Cf h
def Hs (h:GT X a f):GW X (.BoolOp .Or [a] pos) f:=Gk h
def Ht (h:GT X a f)(d:GW X (.BoolOp .And (b::r) pos) g):GW X (.BoolOp .And (a::b::r) pos) (zL f g):=
 GW.of (Gm h d) λY H A Z S k S' c j e Q i=>zM c j e Q i
def KC (h:GT X a f)(d:GW X (.BoolOp .Or (b::r) pos) g):GW X (.BoolOp .Or (a::b::r) pos) (KB f g):=
 GW.of (JW h d) λY H A Z S k S' c j e Q i=>Dy c j e Q i
def Hu (h:GT X a f):GT X (.UnaryOp .Not a pos) (Dw f):=
 GT.of (Gn h) λY H A Z S k S' c i e Q g=>by
  unfold Dw at e;split at e
  next k1 S1 d=>
   cases e;show#[A,Z,S,k1,_,c,i,d,λb l #[j,A1,z1,z2]=>?_]
   subst j;show g _ _ #[rfl,A1,z1,z2]
  ·cases e
abbrev uM (f g:FE):FE:=λZ S=>match f Z S with
 |some (.bl true,S1)=>g Z S1
 |some (.bl false,S1)=>ba (.bl false,S1)
 |_=>gV
abbrev DA (f g:FE):FE:=λZ S=>match f Z S with
 |some (.bl true,S1)=>ba (.bl true,S1)
 |some (.bl false,S1)=>g Z S1
 |_=>gV
abbrev uN (f:FE):FE:=λZ S=>match f Z S with
 |some (.bl k,S1)=>ba (.bl (!k),S1)
 |_=>gV
def Hv (h:GE X a f):GE X (.BoolOp b [a] pos) f:=Go h
def Hw (h:GE X a f)(n:GE X (.BoolOp .And (b::r) pos) g):GE X (.BoolOp .And (a::b::r) pos) (uM f g):=
 GE.of (Gp h n) λY H A Z S w S' d k e Q j=>by
  unfold uM at e;split at e
  next S1 i=>
   show#[A,Z,S,_,S1,d,k,i,λv m #[c,z1,z2,z3]=>?_]
   cases z3;show#[true,rfl,?_];show#[c,Z,S1,w,S',d.mono z1,z2,e,λb l q=>j b l (q.after z1)]
  next S1 i=>
   cases e;show#[A,Z,S,_,_,d,k,i,λv m #[c,z1,z2,z3]=>?_]
   cases z3;show#[false,rfl,?_];show j _ _ #[c,z1,z2,.bl]
  ·cases e
def KD (h:GE X a f)(n:GE X (.BoolOp .Or (b::r) pos) g):GE X (.BoolOp .Or (a::b::r) pos) (DA f g):=
 GE.of (JZ h n) λY H A Z S w S' d k e Q j=>by
  unfold DA at e;split at e
  next S1 i=>
   cases e;show#[A,Z,S,_,_,d,k,i,λv m #[c,z1,z2,z3]=>?_]
   cases z3;show#[true,rfl,?_];show j _ _ #[c,z1,z2,.bl]
  next S1 i=>
   show#[A,Z,S,_,S1,d,k,i,λv m #[c,z1,z2,z3]=>?_]
   cases z3;show#[false,rfl,?_];show#[c,Z,S1,w,S',d.mono z1,z2,e,λb l q=>j b l (q.after z1)]
  ·cases e
def Hx (h:GE X a f):GE X (.UnaryOp .Not a pos) (uN f):=
 GE.of (Gq h) λY H A Z S w S' d j e Q i=>by
  unfold uN at e;split at e
  next k1 S1 g=>
   cases e;show#[A,Z,S,_,_,d,j,g,λb k #[c,z1,z2,z3]=>?_]
   cases z3;show#[_,rfl,i _ _ #[c,z1,z2,.bl]]
  ·cases e
abbrev DB (c:FT)(f g:FE):FE:=λZ S=>match c Z S with
 |some (true,S1)=>f Z S1
 |some (false,S1)=>g Z S1
 |none=>gV
def Hy (hc:GT X c fc)(n:GE X a f)(o:GE X b g):GE X (.IfExp c a b pos) (DB fc f g):=
 GE.of (x4 hc n o) λY H A Z S w S' d l e Q k=>by
  unfold DB at e;split at e
  next S1 i=>
   show#[A,Z,S,_,S1,d,l,i,λb m #[j,A1,z1,z2]=>?_]
   subst j;show#[A1,Z,S1,w,S',d.mono z1,z2,e,λb h q=>k b h (q.after z1)]
  next S1 i=>
   show#[A,Z,S,_,S1,d,l,i,λb m #[j,A1,z1,z2]=>?_]
   subst j;show#[A1,Z,S1,w,S',d.mono z1,z2,e,λb h q=>k b h (q.after z1)]
  ·cases e
abbrev km:FA:=λ_ S=>ba ([],S)
abbrev dH (f:FE)(g:FA):FA:=λZ S=>match f Z S with
 |some (w,S1)=>match g Z S1 with
  |some (ws,S2)=>ba (w::ws,S2)
  |none=>gV
 |none=>gV
def Hz:GA X [] km:=GA.of nI λY H A Z S ws S' c b e Q a=>by cases e;show a _ _ #[A,.refl,b,.nil]
def DC (h:GE X e f)(a:GA X es g)(hs:starEach (e::es) X.env=(false,eval e X.env)::starEach es X.env):GA X (e::es) (dH f g):=
 GA.of (eM h a hs) λY H A Z S ws S' c l e Q k=>by
  unfold dH at e;split at e
  next w S1 j=>
   split at e
   next b S2 a=>
    cases e;show#[A,Z,S,w,S1,c,l,j,λv m #[d,z1,z2,z3]=>?_]
    show#[d,Z,S1,b,_,c.mono z1,z2,a,λvs n #[i,y1,y2,y3]=>?_]
    show k _ _ #[i,z1.trans y1,y2,.cons (z3.mono y1) y3]
   ·cases e
  ·cases e
abbrev wW (f:FA):FE:=λZ S=>match f Z S with
 |some (ws,S1)=>sg S1 ws
 |none=>gV
abbrev zN (f:FA):FE:=λZ S=>match f Z S with
 |some (ws,S1)=>nS S1 ws
 |none=>gV
def zO (h:GA X es f):GE X (.Tuple es k pos) (wW f):=
 GE.of (GR h) λY H A Z S w S' a g e Q d=>by
  unfold wW at e;split at e
  next ws S1 b=>
   obtain⟨hl,rfl,rfl⟩:=uk e;show#[A,Z,S,ws,_,a,g,b,λvs j #[i,z1,z2,z3]=>#[by rw[<- ↥z3];show hl,λp c=>?_]]
   show d _ _ (EndV.after z1 (.tup z2 z3 c))
  ·cases e
def zP (h:GA X es f):GE X (.List es pos) (zN f):=
 GE.of (GU h) λY H A Z S w S' a g e Q d=>by
  unfold zN at e;split at e
  next ws S1 b=>
   obtain⟨hl,rfl,rfl⟩:=ku e;show#[A,Z,S,ws,_,a,g,b,λvs j #[i,z1,z2,z3]=>#[by rw[<- ↥z3];show hl,λp c=>?_]]
   show d _ _ (EndV.after z1 (.lst z2 z3 c))
  ·cases e
abbrev jV (g:Ow W->aa->Oz (W×aa))(f:FA):FE:=λZ S=>match f Z S with
 |some (ws,S1)=>g ws S1
 |none=>gV
def LCall.callr (h:LCall X v g):CallR X v (rCall X g):=by
 intro J s Y H vs us Q I d ⟨A,S,ws,w,S',f,c,e,b⟩;show a9 (h _ s Y H A S ws vs us w S' I f c d e) λj i #[a,H',A',I',r',e1,o1,z1]=>#[a,H',I',r',b a H' #[A',e1,o1,z1]]
def mV {A:Ow OF}(d:EnvRel X.K A H Z Y)(j:wk X A H S)(e:jV g f Z S=ba (w,S'))(Q:VK)(i:∀v a,wv X A H S' w v a->Q v a) :
  tA X f Y H λvs b=>rCall X g vs b Q:=by
 unfold jV at e;split at e
 next ws S1 h=>show#[A,Z,S,ws,S1,d,j,h,λvs b #[c,z1,z2,z3]=>#[c,S1,ws,w,S',z2,z3,e,λv a q=>i v a (q.after z1)]]
 ·cases e
def lx {id:Qs}(hc:LCall X (.builtin id) g)(d:Gl X x)(h:X.mg x=gV)(k:bootBuiltins x=ba (.builtin id))(c:GA X (e::es) f)
  (i:x≠"__name__") (hdb:(x==("__debug__"))=false) (hs:starEach (e::es) X.env=(false,eval e X.env)::starEach es X.env) (a:(backTo pos (starEach es X.env)).any (·.1)=false):GE X (.Call (.Name x p) (e::es) [] pos) (jV g f):=
 GE.of (kP hc.callr d h k c i hdb hs a) λY H A Z S w S' b l e Q j=>mV b l e Q j
def ql {id:Qs}(hc:LCall X (.type id) g)(d:Gl X x)(h:X.mg x=gV)(k:bootBuiltins x=ba (.type id))(c:GA X (e::es) f)
  (i:x≠"__name__") (hdb:(x==("__debug__"))=false) (hs:starEach (e::es) X.env=(false,eval e X.env)::starEach es X.env) (a:(backTo pos (starEach es X.env)).any (·.1)=false):GE X (.Call (.Name x p) (e::es) [] pos) (jV g f):=
 GE.of (vV hc.callr d h k c i hdb hs a) λY H A Z S w S' b l e Q j=>mV b l e Q j
open PySem PySem.Spec PyProof.Rows L2 Xc
inductive EndX (wd:Pk)(K:OI)(A:Ow OF)(H:Hp)(S':aa)(C:OF)(gs:Ow OM)(ws:Ow W)(cls:Oy)(dd:Oz OF)(H':Hp):Prop
 |no (A':Ow OF) (ec:cls=.ref C) (eg:gs=[]) (ed:dd=gV) (e:Ext K A H A' H') (so:StoreOk wd K A' H' S'):EndX wd K A H S' C gs ws cls dd H'
 |at(A':Ow OF) (dx:OF) (vs:Ow V) (ec:cls=.ref C) (ed:dd=ba dx) (hd:H' dx=ba (.ext (Dx dx (gs.zip vs)))) (nd:∀(j:OH) (o:O),S'[j]?=ba o->o.mut=true->A'[j]?≠ba dx) (e:Ext K A H A' H') (so:StoreOk wd K A' H' S') (r:RelL K A' H' ws vs):EndX wd K A H S' C gs ws cls dd H'
variable{C:OF}{cd:Rn}{Ew:L2.XK}{g:OM}{e:OF}
section
variable{A:Ow OF}{H1:Hp}{S':aa}{ws:Ow W}{vs:Ow V}{g2:OM}{n:OH}
def HA (k:XC X.K C cd)(hf:Sr X.K (.ref C) g=ba gV)(h:EndA X A H S' ws vs H1)(hl:↥ws=1)(s:H1 e=gV)(D:n<=e)(E:∀cls dd l,EndX X.w X.K A H S' C [g] ws cls dd l->Ew cls dd l) :
  yE X.K g (.ref e::vs) (aW H1 e (.ext (Fx e C gV))) (λv x=>v=.non/\XQ n C H1 Ew (.ref e) x) E0:=by
 obtain⟨f,ex,w,r⟩:=h;obtain⟨v,rfl⟩:∃v,vs=[v]:=by
  have:=↥r
  match vs,this with
  |[v],_=>show#[v,rfl]
  |[],q=>rw[hl]at q;cases q
  |_::_::_,q=>rw[hl]at q;cases q
 show#[e,v,C,cd,rfl,k,hf,au,λa nd=>#[rfl,e,ba a,rfl,D,?_,λb u q=>?_,?_]]
 ·have ne:a≠e:=λz=>by rw[z,au]at nd;cases nd
  rw[am (Ne.symm ne),au]
 ·by_cases d:b=a
  ·rw[d,au]at q;cases q;show .inr (.inr #[_,by rw[d]])
  ·rw[am d]at q
   by_cases c:b=e
   ·show .inr (.inl c)
   ·rw[am c,am c]at q;show .inl #[u,q]
 ·have ne:a≠e:=λz=>by rw[z,au]at nd;cases nd
  have i:H1 a=gV:=by rw[am ne]at nd;show nd
  have eq:aW (aW (aW (aW H1 e (.ext (Fx e C gV))) e (.ext (Fx e C (ba a)))) a (.ext (Dx a [(g,v)]))) e (.ext (Ex e C (ba a)))=aW (aW H1 e (.ext (Ex e C (ba a)))) a (.ext (Dx a [(g,v)])):=by
   funext b
   by_cases c:b=e
   ·rw[c,au,am (Ne.symm ne),au]
   ·rw[am c]
    by_cases d:b=a
    ·rw[d,au,au]
    ·rw[am d,am d,am c,am c,am c]
  rw[eq];have m:Ext X.K f H1 f (aW H1 e (.ext (Ex e C (ba a)))):=bx (.inl s);have t:aW H1 e (.ext (Ex e C (ba a))) a=gV:=by rw[am ne];show i
  have p:Ext X.K f (aW H1 e (.ext (Ex e C (ba a)))) f (aW (aW H1 e (.ext (Ex e C (ba a)))) a (.ext (Dx a [(g,v)]))):=bx (.inl t);show E _ _ _ (.at f a [v] rfl rfl au (λj o B G y=>(w.obj j o a B y).there G i) (ex.trans (m.trans p)) ((w.lay s).lay t) (r.mono (m.trans p)))
end
abbrev tyOk (T:Qs)(S:aa):W->O6
 |.str _=>T == "str"
 |.ref i=>(T == "list" && (gy S i).isSome)||(T == "dict" && (xS S i).isSome)
 |_=>false
abbrev JM (T:Qs)(g:W->Ow W->aa->Oz (W×aa))(a:FE)(f:FA):FE:=λZ S=>match a Z S with
 |some (x,S1)=>if tyOk T S1 x then match f Z S1 with
  |some (ws,S2)=>g x ws S2
  |none=>gV
  else gV
 |none=>gV
abbrev Nf (fa a:FE):FE:=zG mL fa a
noncomputable abbrev FO:=Fm->aa->Oz (Oz O8×aa)
abbrev HB:FO:=λ_ S=>ba (gV,S)
abbrev uO (f:FE):FO:=λZ S=>match f Z S with
 |some (.int i,S1)=>ba (ba i,S1)
 |_=>gV
abbrev KF (fa:FE)(c b:FO):FE:=λZ S=>match fa Z S with
 |some (x,S1)=>match c Z S1 with
  |some (lo,S2)=>match b Z S2 with
   |some (hi,a)=>md x lo hi a
   |none=>gV
  |none=>gV
 |none=>gV
inductive rMeth (X:Cx)(g:W->Ow W->aa->Oz (W×aa))(a:V)(vs:Ow V)(H:Hp)(Q:VK):Prop
 |mk (A:Ow OF) (S:aa) (x:W) (ws:Ow W) (w:W) (S':aa) (so:wk X A H S) (rx:Rel X.K A H x a) (rl:RelL X.K A H ws vs) (e:g x ws S=ba (w,S')) (q:∀v H',wv X A H S' w v H'->Q v H'):rMeth X g a vs H Q
def tyOk.is {A:Ow OF}{T:Qs}(I:Inv X J Y H s)(m:wk X A H S)(r:Rel X.K A H x a)(g:RelV a v)(h:tyOk T S x=true) :
  s.TypeIs v T/\∀b,v=.ref b->∃j,s.heap.get? b=ba j/\j.dict=gV:=by
 cases r with
 |str=>show yo I g (show MZ X.K T (.str _) H from eq_of_beq h)
 |ref i=>
  simp only[tyOk,Qn,OE]at h;rcases h with⟨c,d⟩|⟨c,d⟩
  ·obtain⟨xs,f⟩:=P1.mp d;obtain⟨vs,n,_⟩:=bq m f i;show yo I g (show MZ X.K T (.ref _) H from .inl #[eq_of_beq c,vs,n])
  ·obtain⟨U,f⟩:=P1.mp d;obtain⟨xs,p,_⟩:=og m f i;obtain⟨_,_,_,o,es,q,k,l,t,u⟩:=iD I p;have e:=eq_of_beq c;subst e;obtain rfl:v=Ps _:=g;show#[#[o,k,l.1],λb e=>by cases e;show#[o,k,l.2.1]]
 |_=>cases h
def zQ { e:Pb}{T id:Qs}{g:W->Ow W->aa->Oz (W×aa)}(y:PlainAttrs T)(slot:Slot T name id)(i:typeOf (.builtin id)=pure (.type "method_descriptor"))(r:ur X id g)
  (t:GE X o k) (q:GA X (e::es) f) (c:attributeBase o name X.env (eval o X.env)=eval o X.env)
  (h:((backTo cpos (starEach (e::es) X.env)).all (λx=>!x.1)&&(backToKw cpos (keywordEach [] X.env)).all (λx=>x.1.isSome)
   && decide ((e::es).length+([]:Ow Vu).length+(if ([]:Ow Vu).isEmpty then 0 else 1)<30))=true)
  (d:(apos.endLine==cpos.line)=true) (hs:starEach (e::es) X.env=(false,eval e X.env)::starEach es X.env) (b:(backTo cpos (starEach es X.env)).any (·.1)=false) :
  GE X (.Call (.Attribute o name apos) (e::es) [] cpos) (JM T g k f):=by
 intro J s Y H Q I ⟨A,Z,S,w,S',j,D,e,u⟩;unfold JM at e;split at e
 next x S1 n=>
  split at e
  next ht=>
   split at e
   next ws S2 p=>
    show wpAny_Call_method_late c h d rfl (a9 (t J s Y H (wv X A H S1 x) I #[A,Z,S,_,_,j,D,n,λ_ _ z=>z]) λv B #[a,H1,I1,r1,A1,e1,o1,z1]=>?_)
    obtain⟨E,t2⟩:=tyOk.is I1 o1 z1 r1 ht;show#[T,id,y,slot,i,E,t2,?_];have l:=q cpos J B Y H1 (EndA X A1 H1 S2 ws) I1 #[A1,Z,S1,ws,S2,j.mono e1,o1,p,λ_ _ z=>z]
    rw[hs]at l ⊢;show Calls.callWith_builtin (by show(false||(backTo cpos (starEach es X.env)).any (·.1))=false;rw[b]<;>rfl) (Calls.evalArgs_plain ?_)
    show a9 l λus C #[vs,H2,I2,r2,A2,e2,o2,z2]=>?_
    show a9 (r J C Y H2 A2 S2 x a v ws vs us w S' I2 o2 (z1.mono e2) r1 z2 r2 e) λL G #[m,H',A',I',r',e3,o3,z3]=>?_
    show#[m,H',I',r',u m H' #[A',(e1.trans e2).trans e3,o3,z3]]
   ·cases e
  ·cases e
 ·cases e
def LIx.ixr {g:W->W->aa->Oz (W×aa)}(h:LIx X g):IxR X (rOp X g):=by
 intro d c J s Y H a b u v Q I j k ⟨A,S,x,y,w,S',n,l,m,e,i⟩ hs;show a9 (h _ _ _ s Y H A S x y a b u v w S' I n l j m k e hs) λp o #[f,H',A',I',r',e1,o1,z1]=>#[f,H',I',r',i f H' #[A',e1,o1,z1]]
def KG (o:X.A.units+10<cLine)(l:GE X a fa)(m:GE X b c)(hs:nN b):GE X (.Subscript a b pos) (Nf fa c):=
 GE.of (Ki (Nb o).ixr l m hs) λY H A Z S w S' h s e Q n=>by
  obtain⟨x,S1,y,S2,i,j,k⟩:=Ft e;show dZ h s i j λa b t d g p q r=>#[d,S2,x,y,w,S',p,q,r,k,λv f z=>n v f (z.after g)]
inductive tO (X:Cx)(f:FO)(Y:L2.St)(H:Hp)(Q:Oz O8->Hp->Prop):Prop
 |mk (A:Ow OF) (Z:Fm) (S:aa) (k:Oz O8) (S':aa) (er:EnvRel X.K A H Z Y) (so:wk X A H S) (e:f Z S=ba (k,S')) (q:∀H' A',Ext X.K A H A' H'->wk X A' H' S'->Q k H'):tO X f Y H Q
noncomputable abbrev GO (X:Cx)(e:Oz Pb)(f:FO):Prop:=PO X e (tO X f)
def DD:GO X gV HB:=λJ s Y H Q I #[A,Z,S,k,S',er,so,e,hq]=>by
 cases e;show Ct _ s Y H Q I (hq H A .refl so)
def DE {e:Pb}(h:GE X e f):GO X (ba e) (uO f):=λJ s Y H Q I #[A,Z,S,k,S',er,so,e,hq]=>by
 unfold uO at e;split at e
 next i S1 c=>
  cases e;show Cu h _ s Y H Q I #[A,Z,S,_,_,er,so,c,λv b #[a,z1,z2,z3]=>?_]
  cases z3;show#[i,rfl,hq b a z1 z2]
 ·cases e
inductive rSl (X:Cx)(g:W->Oz O8->Oz O8->aa->Oz (W×aa))(a:V)(lo hi:Oz O8)(H:Hp)(Q:VK):Prop
 |mk (A:Ow OF) (S:aa) (x w:W) (S':aa) (so:wk X A H S) (rx:Rel X.K A H x a) (e:g x lo hi S=ba (w,S')) (q:∀v H',wv X A H S' w v H'->Q v H'):rSl X g a lo hi H Q
def LSl.slr {g:W->Oz O8->Oz O8->aa->Oz (W×aa)}(h:LSl X g):Kh X (rSl X g):=by
 intro J s Y H a v o p lo hi m Q I k hs pl j ⟨A,S,x,w,S',n,l,e,i⟩;obtain⟨T,id,c,d,f⟩:=h _ s Y H A S x a v o p lo hi m w S' I n l k hs pl j e;show#[T,id,c,d,a9 f λr q #[b,H',A',I',r',e1,o1,z1]=>#[b,H',I',r',i b H' #[A',e1,o1,z1]]]
def KH {lo :Oz Pb}{g :FO}(s:GE X a fa)(hl:GO X lo g)(t:GO X hi f):GE X (.Subscript a (.Slice lo hi gV p2) pos) (KF fa g f):=
 GE.of (yk Og.slr s hl t) λY H A Z S w S' b y e Q u=>by
  unfold KF at e;split at e
  next x S1 o=>
   split at e
   next l S2 p=>
    split at e
    ·rename_i h d r;show#[A,Z,S,x,S1,b,y,o,λv C #[j,z1,z2,z3]=>?_]
     show#[j,Z,S1,l,S2,b.mono z1,z2,p,λD k c B=>?_]
     show#[k,Z,S2,h,d,b.mono (z1.trans c),B,r,λE m i z=>?_]
     show#[m,d,x,w,S',z,(z3.mono c).mono i,e,λv n q=>u v n (q.after ((z1.trans c).trans i))]
    ·cases e
   ·cases e
  ·cases e
noncomputable abbrev FF:=Ow W->aa->Oz (W×aa)
inductive spF (wd:Pk)(K:OI)(n:OH)(g:FF)(vs:Ow V)(H:Hp)(Q:VK)(E:XK):Prop
 |mk (A:Ow OF) (S:aa) (ws:Ow W) (w:W) (S':aa) (so:StoreOk wd K A H S) (rl:RelL K A H ws vs) (hl:↥ws=n) (e:g ws S=ba (w,S')) (q:∀v H',EndV wd K A H S' w v H'->Q v H'):spF wd K n g vs H Q E
abbrev fM (n:OH)(g:FF)(f:FA):FE:=λZ S=>match f Z S with
 |some (ws,S1)=>if ↥ws=n then g ws S1 else gV
 |none=>gV
def qm {g:FF}{A:Ow OF}(c:EnvRel X.K A H Z Y)(i:wk X A H S)(e:fM n g f Z S=ba (w,S'))(Q:VK)(h:∀v a,wv X A H S' w v a->Q v a) :
  yg (spF X.w X.K n g) [] E (tA X f) Y H Q:=by
 unfold fM at e;split at e
 next ws S1 d=>
  split at e
  next hl=>
   show#[A,Z,S,ws,S1,c,i,d,λvs j #[b,z1,z2,z3]=>?_]
   rw[Ql];show#[b,S1,ws,w,S',z2,z3,hl,e,λv a q=>h v a (q.after z1)]
  ·cases e
 ·cases e
def HC {g:FF}{e:Pb}(F:FnOk X.prog X.w X.K X.mg X.base mF k fa fd ps (spF X.w X.K n g))(m:Room k X.A)(i:Gl X x)(j:X.mg x=ba (.ref fa))(hk:Qh X.K (.ref fa)=true)
  (d:Binds X.K fd ps []) (c:GA X (e::es) f) (hdb:(x==("__debug__"))=false) (h:starEach (e::es) X.env=(false,eval e X.env)::starEach es X.env) (a:(backTo pos (starEach es X.env)).any (·.1)=false) :
  GE X (.Call (.Name x p) (e::es) [] pos) (fM n g f):=
 GE.of (Cq F m i j hk d .nil yr c hdb h a) λY H A Z S w S' b o e Q l=>qm b o e Q l
def DF {g:FF}(F:FnOk X.prog X.w X.K X.mg X.base mF k fa fd ps (spF X.w X.K n g))(r:Room k X.A)(m:Gl X x)(o:X.mg x=ba (.ref fa))(hk:Qh X.K (.ref fa)=true)
  (l:Binds X.K fd ps []) (hdb:(x==("__debug__"))=false):GE X (.Call (.Name x p) [] [] pos) (fM n g km):=
 GE.of (yi F r m o hk l .nil yr hdb) λY H A Z S w S' j s e Q q=>by
  obtain⟨b,S1,ws,t,a,c,d,f,h,i⟩:=qm  (E:=E0) j s e Q q |> λ#[A,Z,S,ws,S',u,b2,b3,b4]=>b4 [] H (by cases b3;show#[A,.refl,b2,.nil])
  show#[b,S1,ws,t,a,c,d,f,h,i]
def iI:GSs X [] (λZ S=>ba (.nx Z,S)):=GSs.of Ch λY H A Z S o S' a b e D hd=>by cases e;show hd.nx _ _ #[Z,A,rfl,.refl,b,a]
abbrev kn (f g:FS):FS:=λZ S=>match f Z S with
 |some (.nx a,S1)=>g a S1
 |some (.rt w,S1)=>ba (.rt w,S1)
 |some (.bk a,S1)=>ba (.bk a,S1)
 |some (.ct a,S1)=>ba (.ct a,S1)
 |none=>gV
def ly {st:Qj}{ g:FS}(h:GS X st f)(k:GSs X c g):GSs X (st::c) (kn f g):=GSs.of (kM h k) λY H A Z S o S' d i e D hd=>by
 unfold kn at e;split at e
 next m S1 a=>
  show#[A,Z,S,_,_,d,i,a,#[λj b #[l,A',e1,e2,e3,e4]=>?_,λv b #[w,A',e1,_,_,_]=>(by cases e1),λv b #[w,A',e1,_,_,_]=>(by cases e1),λv b #[w,A',e1,_,_,_]=>(by cases e1)]]
  cases e1;show#[A',_,S1,o,S',e4,e3,e,(EndS.after e2).trans hd]
 next w S1 a=>cases e;show#[A,Z,S,_,_,d,i,a,#[λj b #[w,A',e1,_,_,_]=>(by cases e1),hd.rt,hd.bk,hd.ct]]
 next w S1 a=>cases e;show#[A,Z,S,_,_,d,i,a,#[λj b #[w,A',e1,_,_,_]=>(by cases e1),hd.rt,hd.bk,hd.ct]]
 next w S1 a=>cases e;show#[A,Z,S,_,_,d,i,a,#[λj b #[w,A',e1,_,_,_]=>(by cases e1),hd.rt,hd.bk,hd.ct]]
 ·cases e
abbrev zR (f:FE):FS:=λZ S=>match f Z S with
 |some (_,S1)=>ba (.nx Z,S1)
 |none=>gV
def KI {e:Pb}(h:GE X e f)(hs:swapsWith e gV pos.line X.env=pure false):GS X (.Expr e pos) (zR f):=GS.of (tZ h hs) λY H A Z S o S' a d e D hd=>by
 unfold zR at e;split at e
 next w S1 c=>cases e;show#[A,Z,S,w,_,a,d,c,λv g #[b,z1,z2,z3]=>hd.nx _ _ #[Z,b,rfl,z1,z2,a.mono z1]]
 ·cases e
abbrev zS:FS:=λZ S=>ba (.nx Z,S)
def HD :GS X (.Expr (.Constant (.str x) j pos) a) zS:=GS.of Gr λY H A Z S o S' b c e D hd=>by cases e;show hd.nx _ _ #[Z,A,rfl,.refl,c,b]
def DH :GS X (.Pass pos) zS:=GS.of Ci λY H A Z S o S' a b e D hd=>by cases e;show hd.nx _ _ #[Z,A,rfl,.refl,b,a]
abbrev qo (f:FE):FS:=λZ S=>match f Z S with
 |some (w,S1)=>ba (.rt w,S1)
 |none=>gV
def zU {e:Pb}(h:GE X e f):GS X (.Return (ba e) pos) (qo f):=GS.of (Gs h) λY H A Z S o S' b d e D hd=>by
 unfold qo at e;split at e
 next w S1 c=>cases e;show#[A,Z,S,w,_,b,d,c,λv g #[a,z1,z2,z3]=>hd.rt _ _ #[w,a,rfl,z1,z2,z3]]
 ·cases e
abbrev gC (c:FT)(f g:FS):FS:=λZ S=>match c Z S with
 |some (true,S1)=>f Z S1
 |some (false,S1)=>g Z S1
 |none=>gV
def Fv { g:FS}(hc:GT X c fc)(l:GSs X a f)(m:GSs X b g):GS X (.If c a b pos) (gC fc f g):=GS.of (x6 hc l m) λY H A Z S o S' d j e D hd=>by
 unfold gC at e;split at e
 next S1 h=>
  show#[A,Z,S,_,S1,d,j,h,λb k #[i,A1,z1,z2]=>?_]
  subst i;show#[A1,Z,S1,o,S',d.mono z1,z2,e,(EndS.after z1).trans hd]
 next S1 h=>
  show#[A,Z,S,_,S1,d,j,h,λb k #[i,A1,z1,z2]=>?_]
  subst i;show#[A1,Z,S1,o,S',d.mono z1,z2,e,(EndS.after z1).trans hd]
 ·cases e
noncomputable abbrev FG:=W->Fm->aa->Oz (Fm×aa)
inductive tG (X:Cx)(f:FG)(v:V)(Y:L2.St)(H:Hp)(Q:L2.St->Hp->Prop):Prop
 |mk (A:Ow OF) (Z:Fm) (S:aa) (w:W) (Z':Fm) (S':aa) (er:EnvRel X.K A H Z Y) (so:wk X A H S) (r:Rel X.K A H w v) (e:f w Z S=ba (Z',S')) (q:∀Y' H' A',Ext X.K A H A' H'->wk X A' H' S'->EnvRel X.K A' H' Z' Y'->Q Y' H'):tG X f v Y H Q
noncomputable abbrev GG (X:Cx)(tg:Pb)(f:FG):Prop:=PG X tg (tG X f)
abbrev Fw (i:OH):FG:=λw Z S=>ba (Z.set i (ba w),S)
def oH (c:X.N.Nodup)(hi:X.N[i]?=ba x)(f:xW X.env.scope x)(hf:X.fn x=true\/X.env.scope.names.lookup x=ba .local):GG X (.Name x pos) (Fw i):=by
 intro J s Y H v u Q I r ⟨A,Z,S,w,h,S',b,g,a,e,d⟩;cases e;show t4 c hi f hf _ s Y H v u Q I r (d _ _ A .refl g (b.set a i))
abbrev jy:Ow OH->Ow W->Fm->Oz Fm
 |[],[],Z=>ba Z
 |i::is,w::ws,Z=>jy is ws (Z.set i (ba w))
 |_,_,_=>gV
abbrev JN (is:Ow OH):FG:=λw Z S=>match w with
 |.tup ws=>(jy is ws Z).map λa=>(a,S)
 |_=>gV
def wX:∀{ts:Ow Pb}{is:Ow OH},(∀x∈ts,∃y p,x=.Name y p)->VX (λ t i=>∃x p,t=Wj x p/\X.N[i]?=ba x/\xW X.env.scope x/\(X.fn x=true\/X.env.scope.names.lookup x=ba .local)) ts is->X.N.Nodup->
  Jqa X ts (λvs Y H Q=>∃A Z ws a S,EnvRel X.K A H Z Y/\wk X A H S/\RelL X.K A H ws vs/\jy is ws Z=ba a/\∀g,EnvRel X.K A H a g->Q g H):=by
 intro ts
 induction ts with
 |nil=>
  intro is _ h c;cases h;intro J s Y H vs us Q I r ⟨A,Z,ws,a,S,b,j,f,e,d⟩;cases f with
  |nil=>cases e;show Cj J s Y H [] us Q I r #[rfl,d _ b]
  |cons _ _=>cases e
 |cons t ts ih=>
  intro is hs h c;cases h with
  |cons k l=>
   obtain⟨x,p,rfl,hi,hl,hf⟩:=k;have:=ih (λy m=>hs y (OV _ m)) l c
   intro J s Y H vs us Q I r ⟨A,Z,ws,a,S,b,j,f,e,d⟩;cases f with
   |nil=>cases e
   |cons n o=>
    show x8 (t4 c hi hl hf) this rfl J s Y H _ us Q I r #[_,_,rfl,?_];show#[A,_,_,a,S,b.set n _,j,o,e,d]
def HE (hc:X.calm=true)(hs:∀x∈ts,∃y p,x=.Name y p)(h:VX (λ t i=>∃x p,t=Wj x p/\X.N[i]?=ba x/\xW X.env.scope x/\(X.fn x=true\/X.env.scope.names.lookup x=ba .local)) ts is)(n:X.N.Nodup)
  (o:(assignEach ts X.env).length=↥ts) (b:(assignEach ts X.env).findIdx? (·.1)=gV):GG X (.Tuple ts k pos) (JN is):=by
 intro J s Y H v u Q I r ⟨A,Z,S,w,a,S',l,g,c,e,q⟩;unfold JN at e;split at e
 ·rw[OG]at e;obtain⟨C,d,j⟩:=e;cases j;cases c with
  |tup m f=>
   have hl:∀is ws Z a,jy is ws Z=ba a->↥is=↥ws:=by
    intro is
    induction is with
    |nil=>intro ws Z a e;cases ws<;>first|rfl|cases e
    |cons i is ih=>intro ws Z a e;cases ws<;>first|cases e|(simp;show ih _ _ _ e)
   show Gx hc (wX hs h n) o b _ s Y H _ u Q I r #[_,_,rfl,m,by rw[<- ↥f,<- hl _ _ _ _ d,<- Vd h],A,Z,_,_,_,l,g,f,d,λB z=>q _ _ A .refl g z]
 ·cases e
abbrev DI (c b:FE):FG:=λw Z S=>match c Z S with
 |some (o,S1)=>match b Z S1 with
  |some (i,S2)=>match ki o i w S2 with
   |some a=>ba (Z,a)
   |none=>gV
  |none=>gV
 |none=>gV
inductive rSet (X:Cx)(g:W->W->W->aa->Oz aa)(ao ai av:V)(H:Hp)(Q:Hp->Prop):Prop
 |mk (A:Ow OF) (S:aa) (o i w:W) (S':aa) (so:wk X A H S) (r1:Rel X.K A H o ao) (r2:Rel X.K A H i ai) (r3:Rel X.K A H w av) (e:g o i w S=ba S') (q:∀H' A',Ext X.K A H A' H'->wk X A' H' S'->Q H'):rSet X g ao ai av H Q
def LSet.pset {g:W->W->W->aa->Oz aa}(h:LSet X g):Gw X (rSet X g):=by
 intro J s Y H c b d t r u Q I n m p ⟨A,S,o,i,w,S',q,j,k,l,e,f⟩;show a9 (h _ s Y H A S o i w c b d t r u S' I q j n k m l p e) λ_ v #[a,A',I',e1,o1]=>#[a,I',f a A' e1 o1]
def HF { i:Pb}{g :FE}(B:X.A.units+10<cLine)(y:GE X o g)(hi:GE X i f)(x:∀v,assign (.Subscript o i pos) X.env v=(do
   let ov <- holding [v] (eval o X.env)
   let iv <- holding [v,ov] (eval i X.env)
   standAt pos
   holding [v,ov,iv] (setItem ov iv v)
   release [v,ov,iv] [])):GG X (.Subscript o i pos) (DI g f):=by
 intro J s Y H v u Q I r ⟨A,Z,S,w,M,S',c,C,d,e,z⟩;unfold DI at e;split at e
 next o' S1 p=>
  split at e
  next h S2 q=>
   split at e
   next L t=>
    cases e;show Gy y hi (Kx B).pset x _ s Y H v u Q I r ?_;show#[A,Z,S,o',S1,c,C,p,λa E #[l,e1,o1,r1]=>?_]
    show#[l,Z,S1,h,S2,c.mono e1,o1,q,λb G #[m,e2,o2,r2]=>?_]
    show#[m,S2,o',h,w,_,o2,r1.mono e2,r2,d.mono (e1.trans e2),t,λn k j D=>z Y n k ((e1.trans e2).trans j) D (c.mono ((e1.trans e2).trans j))]
   ·cases e
  ·cases e
 ·cases e
abbrev jA (f:FE)(g:FG):FS:=λZ S=>match f Z S with
 |some (w,S1)=>match g w Z S1 with
  |some (a,S2)=>ba (.nx a,S2)
  |none=>gV
 |none=>gV
def lz { e:Pb}{g:FG}(h:GE X e f)(k:GG X tg g)(hs:swapsWithSole [tg] e pos.line X.env=pure false)(hw:swappedStores [tg] e X.env=pure gV)(a:(assignEach [tg] X.env).map (·.2)=[assign tg X.env]) :
  GS X (.Assign [tg] e pos) (jA f g):=GS.of (Gz h k hs hw a) λY H A Z S o S' c l e D hd=>by
 unfold jA at e;split at e
 next w S1 a=>
  split at e
  next b S2 j=>
   cases e;show#[A,Z,S,w,S1,c,l,a,λv r #[i,z1,z2,z3]=>?_]
   show#[i,Z,S1,w,b,_,c.mono z1,z2,z3,j,λs q d m n p=>hd.nx _ _ #[b,d,rfl,z1.trans m,n,p]]
  ·cases e
 ·cases e
abbrev lA (c:FT)(b:FS):OH->FS
 |0,_,_=>gV
 |n+1,Z,S=>match c Z S with
  |some (true,S1)=>match b Z S1 with
   |some (.nx a,S2)=>lA c b n a S2
   |some (.ct a,S2)=>lA c b n a S2
   |some (.bk a,S2)=>ba (.nx a,S2)
   |some (.rt w,S2)=>ba (.rt w,S2)
   |none=>gV
  |some (false,S1)=>ba (.nx Z,S1)
  |none=>gV
def zW (n:OH)(L:UF (model X.prog X.w) X.A X.env X.xe)(hc:GT X c fc)(J:GSs X body s):GS X (.While c body [] pos) (lA fc s n):=GS.of (x9 L hc J) λY H A Z S o S' I M e D hd=>by
 show#[λm B r=>∃k i S1,Ext X.K A H k r/\EnvRel X.K k r i B/\wk X k r S1/\lA fc s m i S1=ba (o,S'),#[n,A,Z,S,.refl,I,M,e],?_]
 rintro m B r ⟨k,i,S1,p,d,q,f⟩;cases m with
 |zero=>cases f
 |succ m=>
  dsimp only[lA]at f;split at f
  next S2 y=>
   show#[k,i,S1,_,S2,d,q,y,λb E #[z,A2,z1,z2]=>?_]
   subst z;rw[OZ rfl];show#[λG u=>∃t l g,Ext X.K A H t u/\EnvRel X.K t u l G/\wk X t u g/\lA fc s m l g=ba (o,S'),λx a h=>#[m,Rq _,h],?_]
   split at f
   next l g j=>
    show#[A2,i,S2,_,g,d.mono z1,z2,j,#[λx a #[C,A',y0,y1,y2,y3]=>?_,λv a #[w,A',y0,_,_,_]=>(by cases y0),λv a #[w,A',y0,_,_,_]=>(by cases y0),λv a #[w,A',y0,_,_,_]=>(by cases y0)]]
    cases y0;show#[A',_,g,(p.trans z1).trans y1,y3,y2,f]
   next l g j=>
    show#[A2,i,S2,_,g,d.mono z1,z2,j,#[λv a #[w,A',y0,_,_,_]=>(by cases y0),λv a #[w,A',y0,_,_,_]=>(by cases y0),λv a #[w,A',y0,_,_,_]=>(by cases y0),λx a #[C,A',y0,y1,y2,y3]=>?_]]
    cases y0;show#[A',_,g,(p.trans z1).trans y1,y3,y2,f]
   next l g j=>
    cases f;show#[A2,i,S2,_,_,d.mono z1,z2,j,#[λv a #[w,A',y0,_,_,_]=>(by cases y0),λv a #[w,A',y0,_,_,_]=>(by cases y0),λx a #[C,A',y0,y1,y2,y3]=>?_,λv a #[w,A',y0,_,_,_]=>(by cases y0)]]
    cases y0;show hd.nx _ _ #[_,A',rfl,(p.trans z1).trans y1,y2,y3]
   next w3 g j=>
    cases f;show#[A2,i,S2,_,_,d.mono z1,z2,j,#[λv a #[w,A',y0,_,_,_]=>(by cases y0),λv a #[w,A',y0,y1,y2,y3]=>?_,λv a #[w,A',y0,_,_,_]=>(by cases y0),λv a #[w,A',y0,_,_,_]=>(by cases y0)]]
    cases y0;show hd.rt _ _ #[_,A',rfl,(p.trans z1).trans y1,y2,y3]
   ·cases f
  next S2 y=>
   cases f;show#[k,i,S1,_,_,d,q,y,λb E #[z,A2,z1,z2]=>?_]
   subst z;rw[Pd P2];show hd.nx _ _ #[_,A2,rfl,p.trans z1,z2,d.mono z1]
  ·cases f
open PySem PySem.Spec PyProof.Rows L2 Xc
noncomputable abbrev FX:=Fm->aa->Oz (OM×Ow W×aa)
noncomputable abbrev Cl:=OM->Oz (OF×Ow OM)
inductive tX (X:Cx)(cl:Cl)(Ew:L2.XK)(fx:FX)(Y:L2.St)(H:Hp):Prop
 |mk (A:Ow OF) (Z:Fm) (S:aa) (cn:OM) (ws:Ow W) (S':aa) (C:OF) (gs:Ow OM) (er:EnvRel X.K A H Z Y) (so:wk X A H S) (e:fx Z S=ba (cn,ws,S')) (hc:cl cn=ba (C,gs))
   (q:∀cls dd H',EndX X.w X.K A H S' C gs ws cls dd H'->Ew cls dd H'):tX X cl Ew fx Y H
abbrev GX (X:Cx)(cl:Cl)(a:L2.XK)(st:Qj)(f:FS)(fx:FX):Prop:=PS X st λD Y H=>tS X f D Y H\/tX X cl a fx Y H
abbrev HG (X:Cx)(cl:Cl)(b:L2.XK)(a:Ow Qj)(f:FS)(fx:FX):Prop:=PSs X a λD Y H=>tS X f D Y H\/tX X cl b fx Y H
abbrev N1:FX:=λ_ _=>gV
abbrev Oh:FS:=λ_ _=>gV
abbrev lB (cn:OM)(k:OH)(f:FA):FX:=λZ S=>match f Z S with
 |some (ws,S1)=>if ↥ws=k then ba (cn,ws,S1)else gV
 |none=>gV
def qp (h:lB cn k f Z S=ba r):r.1=cn/\f Z S=ba r.2/\↥r.2.1=k:=by
 unfold lB at h;split at h
 next ws S1 e=>
  split at h
  next hl=>cases h;show#[rfl,e,hl]
  ·cases h
 ·cases h
variable{cl:Cl}
def qr {st:Qj}(h:GS X st f):GX X cl Ew st f N1:=λJ s Y H D I q=>by
 rcases q with q|⟨_,_,_,_,_,_,_,_,_,_,e,_⟩
 ·show h J s Y H D I q
 ·cases e
def DJ:HG X cl Ew [] (λZ S=>ba (.nx Z,S)) N1:=λJ s Y H D I q=>by
 rcases q with q|⟨_,_,_,_,_,_,_,_,_,_,e,_⟩
 ·show iI J s Y H D I q
 ·cases e
abbrev uP (f:FS)(fx b:FX):FX:=λZ S=>match f Z S with
 |some (.nx a,S1)=>b a S1
 |some _=>gV
 |none=>fx Z S
def EndX.after {A g:Ow OF}{i:Hp}(e:Ext X.K A H g j)(h:EndX X.w X.K g j S' C k ws cls dd i):EndX X.w X.K A H S' C k ws cls dd i:=by
 cases h with
 |no a c m d b f=>show .no a c m d (e.trans b) f
 |«at» a l vs c d hd nd b f r=>show .at a l vs c d hd nd (e.trans b) f r
def zX {st:Qj}{ g:FS}(h:GX X cl Ew st f fx)(y:HG X cl Ew m g t):HG X cl Ew (st::m) (kn f g) (uP f fx t):=λJ s Y H D I q=>by
 show kM h y J s Y H D I ?_;rcases q with⟨A,Z,S,o,S',k,l,e,d⟩|⟨A,Z,S,cn,ws,S',C,r,k,l,e,hc,q⟩
 ·apply Or.inl;unfold kn at e;split at e
  next p S1 i=>
   show#[A,Z,S,_,S1,k,l,i,#[λj c #[x,A',eo,ex,so',er']=>?_,λv c #[_,_,eo,_,_,_]=>(by cases eo),λj c #[_,_,eo,_,_,_]=>(by cases eo),λj c #[_,_,eo,_,_,_]=>(by cases eo)]]
   cases eo;have n:=EndS.after (o:=o) (S':=S') ex;show .inl #[A',p,S1,o,S',er',so',e,#[λa b z=>d.nx a b (n.nx a b z),λa b z=>d.rt a b (n.rt a b z),λa b z=>d.bk a b (n.bk a b z),λa b z=>d.ct a b (n.ct a b z)]]
  next w S1 i=>cases e;show#[A,Z,S,_,_,k,l,i,#[λj c #[_,_,eo,_,_,_]=>(by cases eo),d.rt,d.bk,d.ct]]
  next w S1 i=>cases e;show#[A,Z,S,_,_,k,l,i,#[λj c #[_,_,eo,_,_,_]=>(by cases eo),d.rt,d.bk,d.ct]]
  next w S1 i=>cases e;show#[A,Z,S,_,_,k,l,i,#[λj c #[_,_,eo,_,_,_]=>(by cases eo),d.rt,d.bk,d.ct]]
  ·cases e
 ·unfold uP at e;split at e
  next p S1 i=>
   apply Or.inl;show#[A,Z,S,_,S1,k,l,i,#[λj c #[x,A',eo,ex,so',er']=>?_,λv c #[_,_,eo,_,_,_]=>(by cases eo),λj c #[_,_,eo,_,_,_]=>(by cases eo),λj c #[_,_,eo,_,_,_]=>(by cases eo)]]
   cases eo;show .inr #[A',p,S1,cn,ws,S',C,r,er',so',e,hc,λcls dd u z=>q cls dd u (z.after ex)]
  ·cases e
  ·show .inr #[A,Z,S,cn,ws,S',C,r,k,l,e,hc,q]
variable{k:OH}{f:OF}{ps:Ow OM}{p cpos pos:Rl}{es:Ow Pb}
section
variable{fd:Qp}{x:OM}{a:Pb}{fa:FA}
abbrev HH (X:Cx)(Ew:L2.XK):Prop:=∀J Y H s a C dd b,Air X J Y H s a C dd b->Ew (.ref C) dd H->X.xe (.ref a) s
def wY (w:X.A.handled=gV)(b:XM X.K C f cd)(hf:Sr X.K (.ref C) g=ba gV)(F:FnOk X.prog X.w X.K X.mg X.base mF k f fd ps (yE X.K g))(B:Room (k+1) X.A)(v:Gl X x)(y:X.mg x=ba (.ref C))(u:Binds X.K fd ps [])
  (hw:HH X Ew) (hc:cl x=ba (C,[g])) (t:GA X (a::es) fa) (hdb:(x==("__debug__"))=false) (h:starEach (a::es) X.env=(false,eval a X.env)::starEach es X.env) (i:(backTo cpos (starEach es X.env)).any (·.1)=false) :
  GX X cl Ew (.Raise (ba (.Call (.Name x p) (a::es) [] cpos)) gV pos) Oh (lB x 1 fa):=λJ s Y H D I q=>by
 rcases q with⟨_,_,_,_,_,_,_,e,_⟩|⟨A,Z,S,cn,ws,S',N,P,o,G,e,c,q⟩
 ·cases e
 ·obtain⟨j,l,d⟩:=qp e;dsimp only at j l d;subst j;rw[hc]at c;cases c;show yA (E:=E0) w b F B v y u yr hw t hdb h i J s Y H D I #[A,Z,S,ws,S',o,G,l,λvs O m=>#[?_,λn e h z=>HA b.toXC hf m d h z q]]
  obtain⟨M,ex,L,r⟩:=m;rw[<- ↥r,d,Qc];decide
end
abbrev DL (c:FT)(f g:FX):FX:=λZ S=>match c Z S with
 |some (true,S1)=>f Z S1
 |some (false,S1)=>g Z S1
 |none=>gV
def KJ {f g:FS}(hc:GT X c fc)(t:HG X cl Ew a f fx)(u:HG X cl Ew b g r):GX X cl Ew (.If c a b pos) (gC fc f g) (DL fc fx r):=λJ s Y H D I q=>by
 show x6 hc t u J s Y H D I ?_;rcases q with⟨A,Z,S,o,S',h,l,e,d⟩|⟨A,Z,S,cn,ws,S',C,p,h,l,e,k,q⟩
 ·unfold gC at e;split at e
  next S1 i=>
   show#[A,Z,S,_,S1,h,l,i,λb m #[j,A1,z1,z2]=>?_]
   subst j;rw[OZ rfl];show .inl #[A1,Z,S1,o,S',h.mono z1,z2,e,(EndS.after z1).trans d]
  next S1 i=>
   show#[A,Z,S,_,S1,h,l,i,λb m #[j,A1,z1,z2]=>?_]
   subst j;rw[Pd #v[]]
   show .inl #[A1,Z,S1,o,S',h.mono z1,z2,e,(EndS.after z1).trans d]
  ·cases e
 ·unfold DL at e;split at e
  next S1 i=>
   show#[A,Z,S,_,S1,h,l,i,λb m #[j,A1,z1,z2]=>?_]
   subst j;rw[OZ rfl];show .inr #[A1,Z,S1,cn,ws,S',C,p,h.mono z1,z2,e,k,λcls dd n z=>q cls dd n (z.after z1)]
  next S1 i=>
   show#[A,Z,S,_,S1,h,l,i,λb m #[j,A1,z1,z2]=>?_]
   subst j;rw[Pd #v[]]
   show .inr #[A1,Z,S1,cn,ws,S',C,p,h.mono z1,z2,e,k,λcls dd n z=>q cls dd n (z.after z1)]
  ·cases e
noncomputable abbrev KL:=Ow W->aa->Oz (OM×Ow W×aa)
inductive spX (wd:Pk)(K:OI)(cl:Cl)(n:OH)(g:FF)(gx:KL)(vs:Ow V)(H:Hp)(Q:VK)(E:L2.XK):Prop
 |ok (h:spF wd K n g vs H Q E):spX wd K cl n g gx vs H Q E
 |xc (A:Ow OF) (S:aa) (ws:Ow W) (cn:OM) (us:Ow W) (S':aa) (C:OF) (gs:Ow OM) (so:StoreOk wd K A H S) (rl:RelL K A H ws vs) (hl:↥ws=n) (e:gx ws S=ba (cn,us,S')) (hc:cl cn=ba (C,gs))
   (q:∀cls dd H',EndX wd K A H S' C gs us cls dd H'->E cls dd H'):spX wd K cl n g gx vs H Q E
abbrev mW (n:OH)(a:KL)(f:FA):FX:=λZ S=>match f Z S with
 |some (ws,S1)=>if ↥ws=n then a ws S1 else gV
 |none=>gV
abbrev HI (xs:Ow W)(S:aa):Oz (W×aa):=match xs with
 |[.int i]=>if i.natAbs<1000 then ba (.str (UC (toString i)),S)else gV
 |_=>gV
def w4:LCall X (.type "str") HI:=by
 intro J s Y H A S xs vs us w S' I f c d e;cases c with
 |nil=>cases e
 |cons r t=>
  cases t with
  |cons _ _=>cases r<;>cases e
  |nil=>
   cases r with
   |int=>
    rename_i i;unfold HI at e;dsimp only at e;split at e
    ·rename_i hi;cases e;show CallR.go (r:=λxs H Q=>xs=[.int i]/\Q (.str (UC (toString i))) H) ?_ I d #[rfl,.here f .str]
     intro J s Y H xs us Q I r h;obtain⟨rfl,q⟩:=h;obtain⟨u,rfl,t,rfl⟩:=il r;show P.str_of_int ?_ #[.str _,H,I.tok _,#[_,rfl],q];have b:i.natAbs<2^10:=∅
     by_cases a:i.natAbs=0
     ·rw[a];decide
     ·have:=(Nat.log2_lt a).mpr b;omega
    ·cases e
   |_=>cases e
def lC (h:vs.all (foldedForSure 8)=true):swappedStores [.Tuple ts k q] (.Tuple vs k2 a) env=pure gV:=by
 unfold swappedStores;dsimp only;split
 ·rfl
 ·split
  ·rfl
  ·split
   ·rfl
   ·rfl
inductive MI where
 |its (ws:Ow W)
 |live (r:OH)
 |zl (r q:OH)
abbrev iJ (xs a:Ow W):Ow W:=OO (λx y=>.tup [x,y]) xs a
abbrev MI.at (S:aa)(i:OH):MI->Oz (Oz W)
 |.its ws=>ba ws[i]?
 |.live r=>match gy S r with
  |some xs=>ba xs[i]?
  |none=>gV
 |.zl r q=>match gy S r,gy S q with
  |some xs,ba a=>ba (iJ xs a)[i]?
  |_,_=>gV
abbrev MI.len (S:aa):MI->Oz OH
 |.its ws=>ba ↥ws
 |.live r=>(gy S r).map (·.length)
 |.zl r q=>match gy S r,gy S q with
  |some xs,ba a=>ba (iJ xs a).length
  |_,_=>gV
noncomputable abbrev FI:=Fm->aa->Oz (MI×aa)
structure MIt (wd:Pk)(K:OI)(mi:MI)(Jqb:It)(A0:Ow OF)(H0:Hp):Prop where
 go:∀A H S i w,Ext K A0 H0 A H->StoreOk wd K A H S->mi.at S i=ba (ba w)->Jqb.go i H/\∀x H',Jqb.yld i H x H'->Ext K A H A H'/\StoreOk wd K A H' S/\Rel K A H' w x
 stop:∀A H S i,Ext K A0 H0 A H->StoreOk wd K A H S->mi.at S i=ba gV->Jqb.stop i H
inductive tI (X:Cx)(f:FI)(Y:L2.St)(H:Hp)(R:It->Hp->Prop):Prop
 |mk (A:Ow OF) (Z:Fm) (S:aa) (mi:MI) (S':aa) (er:EnvRel X.K A H Z Y) (so:wk X A H S) (e:f Z S=ba (mi,S')) (q:∀Jqb H' A',Ext X.K A H A' H'->wk X A' H' S'->MIt X.w X.K mi Jqb A' H'->R Jqb H'):tI X f Y H R
noncomputable abbrev GI (X:Cx)(tg iter:Pb)(f:FI):Prop:=PI X tg iter (tI X f)
abbrev DM (f:FE):FI:=λZ S=>match f Z S with
 |some (.tup ws,S1)=>ba (.its ws,S1)
 |some (.ref r,S1)=>match gy S1 r with
  |some _=>ba (.live r,S1)
  |none=>gV
 |_=>gV
abbrev gY (lo:O8)(n:OH):Ow W:=(Pj n).map λ(k:OH)=>.int (lo+(k:O8))
abbrev qt (f:FA):FI:=λZ S=>match f Z S with
 |some ([.int j],S1)=>if -(2^62)<=j/\j<2^62 then ba (.its (gY 0 j.toNat),S1)else gV
 |_=>gV
abbrev iRng2 (f:FA):FI:=λZ S=>match f Z S with
 |some ([.int i,.int j],S1)=>if -(2^62)<=i/\i<2^62/\-(2^62)<=j/\j<2^62 then ba (.its (gY i (j-i).toNat),S1)else gV
 |_=>gV
abbrev fN (mi:MI)(g:FG)(b:FS):OH->OH->FS
 |0,i,Z,S=>match mi.at S i with
  |some gV=>ba (.nx Z,S)
  |_=>gV
 |n+1,i,Z,S=>match mi.at S i with
  |some (ba w)=>match g w Z S with
   |some (c,S1)=>match b c S1 with
    |some (.nx a,S2)=>fN mi g b n (i+1) a S2
    |some (.ct a,S2)=>fN mi g b n (i+1) a S2
    |some (.bk a,S2)=>ba (.nx a,S2)
    |some (.rt w,S2)=>ba (.rt w,S2)
    |none=>gV
   |none=>gV
  |_=>gV
abbrev zY (a:FI)(g:FG)(b:FS):FS:=λZ S=>match a Z S with
 |some (mi,S1)=>match mi.len S1 with
  |some n=>fN mi g b n 0 Z S1
  |none=>gV
 |none=>gV
def DN {A:Ow OF}(h:SqT X.K H a vs)(r:RelL X.K A H ws vs):MIt X.w X.K (.its ws) (JJ X.K a) A H:=by
 show#[λd f S i w e c hi=>?_,λd f S i e c hi=>?_]
 ·simp only[MI.at,Pp]at hi;obtain⟨v,b,g⟩:=(r.mono e).get hi;show#[#[vs,v,e.tp _ _ h,b],λx k #[j,z2]=>?_]
  subst j;have:=z2 vs (e.tp _ _ h);rw[b]at this;cases this
  show#[.refl,c,g]
 ·simp only[MI.at,Pp]at hi;show#[vs,e.tp _ _ h,?_];rw[<- ↥r];show QT.mp hi
def DO {A:Ow OF}(g:A[r]?=ba a):MIt X.w X.K (.live r) (MG X.K a) A H:=by
 show#[λj k S i w e c hi=>?_,λj k S i e c hi=>?_]
 ·simp only[MI.at]at hi;split at hi
  next xs d=>
   simp only[Pp]at hi;obtain⟨vs,b,f⟩:=bq c d (e.ad _ _ g);obtain⟨v,h,l⟩:=f.get hi;show#[#[vs,v,b,h],λx n #[m,z2]=>?_]
   subst m;have:=z2 vs b;rw[h]at this;cases this
   show#[.refl,c,l]
  ·cases hi
 ·simp only[MI.at]at hi;split at hi
  next xs d=>simp only[Pp]at hi;obtain⟨vs,b,f⟩:=bq c d (e.ad _ _ g);show#[vs,b,?_];rw[<- ↥f];show QT.mp hi
  ·cases hi
def fO {lo:O8}:(gY lo n)[i]?=if i<n then ba (.int (lo+i))else gV:=by
 unfold gY;rw[OY]
 by_cases h:i<n
 ·rw[OZ h,Tj h];rfl
 ·rw[Pd h,QT.mpr (by simp;omega)];rfl
def DP {A:Ow OF}{lo:O8}:MIt X.w X.K (.its (gY lo n)) (J5 lo n) A H:=by
 show#[λb c S i w e a hi=>?_,λb c S i e a hi=>?_]
 ·simp only[MI.at,Pp]at hi;rw[fO]at hi;split at hi
  ·cases hi;show#[by assumption,λx f #[d,z2]=>?_]
   subst d z2;show#[.refl,a,.int]
  ·cases hi
 ·simp only[MI.at,Pp]at hi;rw[fO]at hi;split at hi
  ·cases hi
  ·change n<=i;omega
def qu {R:It->Hp->Prop}(f:Inv X J Y d c)(i:RelV (.ref a) v)(h:SqL X.K d a xs)(q:R (MG X.K a) d) :
  wi X (pyIter v) (J4 X J Y tg R) X.xe c:=by
 cases i;obtain⟨its,k,p,j⟩:=f.list h;show SQ p.isList ?_;show#[⇑c.heap.objs,[⇑c.heap.objs],_,_,d,rfl,f.kept  λb o e=>OA _ e,vO a _,#[_,OX _ rfl,rfl,rfl],λb g=>?_,q]
 have e:b=⇑c.heap.objs:=by simpa using g
 subst e;show f.fpOk (OR _) (f.hok.fresh (OR _))
def sL {R:It->Hp->Prop}(f:Inv X J Y d c)(i:RelV (.ref a) v)(h:SqT X.K d a xs)(q:R (JJ X.K a) d) :
  wi X (pyIter v) (J4 X J Y tg R) X.xe c:=by
 cases i;obtain⟨its,k,p,j⟩:=f.tuple h;show UQ p ?_;show#[⇑c.heap.objs,[⇑c.heap.objs],_,_,d,rfl,f.kept  λb o e=>OA _ e,rP a _,#[_,OX _ rfl,rfl,rfl],λb g=>?_,q]
 have e:b=⇑c.heap.objs:=by simpa using g
 subst e;show f.fpOk (OR _) (f.hok.fresh (OR _))
def af {α:Type}{x:α}{P:Prop}(h:gV=ba x):P:=nomatch h
def DQ {f:FA}(e:qt f Z S=ba y):∃ j S1,f Z S=ba ([.int j],S1)/\(-(2^62)<=j/\j<2^62)/\y=(.its (gY 0 j.toNat),S1):=by
 unfold qt at e;generalize f Z S=r at e;cases r with
 |none=>show af e
 |some p=>
  cases p with
  |mk ws S1=>
   cases ws with
   |nil=>show af e
   |cons w ws=>
    cases w with
    |int j=>
     cases ws with
     |nil=>
      by_cases a : -(2^62)<=j/\j<2^62
      ·show#[j,S1,rfl,a,PR (((OZ a).symm.trans e).symm)]
      ·show af ((Pd a).symm.trans e)
     |cons _ _=>show af e
    |_=>show af e
def DR {f:FA}(i:Gl X "range")(k:X.mg "range" = gV)(h:GA X [a] f)(hs:starEach [a] X.env=[(false,eval a X.env)]):GI X tg (.Call (.Name "range" p) [a] [] pos) (qt f):=by
 intro J s Y H R I ⟨A,Z,S,mi,S',d,n,e,l⟩;obtain⟨j,S1,g,b,e⟩:=DQ e;cases e;show vP i k h hs _ s Y H R I #[A,Z,S,_,_,d,n,g,λvs o #[c,z1,z2,z3]=>?_]
 cases z3 with
 |cons m t=>
  cases t;cases m;show#[j,rfl,b.1,b.2,l _ _ c z1 z2 DP]
def HJ {f:FE}(h:GE X l f):GI X tg l (DM f):=by
 intro J s Y H R I ⟨A,Z,S,mi,S',d,i,e,g⟩;unfold DM at e;split at e
 next ws S1 b=>
  cases e;show a9 (h _ s Y H _ I #[A,Z,S,_,_,d,i,b,λ_ _ z=>z]) λv m #[x,H1,I1,r1,A1,e1,o1,z1]=>?_
  cases z1 with
  |tup a k=>
   show sL I1 r1 a (g _ _ A1 e1 o1 (DN a k))
 next r S1 b=>
  split at e
  next n j=>
   cases e;show a9 (h _ s Y H _ I #[A,Z,S,_,_,d,i,b,λ_ _ z=>z]) λv m #[x,H1,I1,r1,A1,e1,o1,z1]=>?_
   cases z1 with
   |ref c=>
    obtain⟨vs,hl,_⟩:=bq o1 j c;show qu I1 r1 hl (g _ _ A1 e1 o1 (DO c))
  ·cases e
 ·cases e
def HK {g:FG}(hp:UF (model X.prog X.w) X.A X.env X.xe)(hc:X.calm=true)(hi:GI X tg iter P)(hg:GG X tg g)(W:GSs X body y)
  (hs:∀x,foldedSetIterable iter X.env x=pure x):GS X (.For tg iter body [] pos) (zY P g y):=GS.of (GC hp hc hi hg W hs) λY H A Z S o S' O so e D hd=>by
 unfold zY at e;split at e
 next mi S1 U=>
  split at e
  next n hn=>
   show#[A,Z,S,mi,S1,O,so,U,λR J E C z2 r=>?_]
   show#[λi m L l=>∃b t S2,Ext X.K E J b l/\EnvRel X.K b l t L/\wk X b l S2/\fN mi g y m i t S2=ba _,#[n,E,Z,S1,.refl,O.mono C,z2,e],?_]
   rintro i m L l ⟨b,t,S2,u,q,k,w2⟩;cases m with
   |zero=>
    dsimp only[fN]at w2;split at w2
    next hs=>cases w2;show .inl #[r.stop b l _ i u k hs,hd.nx _ _ #[_,b,rfl,C.trans u,k,q]]
    ·cases w2
   |succ m=>
    dsimp only[fN]at w2;split at w2
    ·rename_i w hw;obtain⟨go,yl⟩:=r.go b l S2 i w u k hw;show .inr #[go,λT p=>∃G d c,Ext X.K E J G p/\EnvRel X.K G p d T/\wk X G p c/\fN mi g y m _ d c=ba _,λI a h=>#[m,Rq _,h],λx p hy=>?_]
     obtain⟨Q,x2,x3⟩:=yl x p hy;split at w2
     ·rename_i d c V;show#[b,t,S2,w,d,c,q.mono Q,x2,x3,V,λY4 H4 s y1 z B=>?_]
      have ex:=(u.trans Q).trans y1;split at w2
      ·rename_i N f j;show#[s,d,c,_,f,B,z,j,#[λI a #[M,A',u0,u1,u2,u3]=>?_,λv a #[w,A',y0,_,_,_]=>(by cases y0),λv a #[w,A',y0,_,_,_]=>(by cases y0),λv a #[w,A',y0,_,_,_]=>(by cases y0)]]
       cases u0;show#[A',_,f,ex.trans u1,u3,u2,w2]
      ·rename_i N f j;show#[s,d,c,_,f,B,z,j,#[λv a #[w,A',y0,_,_,_]=>(by cases y0),λv a #[w,A',y0,_,_,_]=>(by cases y0),λv a #[w,A',y0,_,_,_]=>(by cases y0),λI a #[M,A',u0,u1,u2,u3]=>?_]]
       cases u0;show#[A',_,f,ex.trans u1,u3,u2,w2]
      ·rename_i N f j;cases w2;show#[s,d,c,_,_,B,z,j,#[λv a #[w,A',y0,_,_,_]=>(by cases y0),λv a #[w,A',y0,_,_,_]=>(by cases y0),λI a #[M,A',u0,u1,u2,u3]=>?_,λv a #[w,A',y0,_,_,_]=>(by cases y0)]]
       cases u0;show hd.nx _ _ #[_,A',rfl,(C.trans ex).trans u1,u2,u3]
      ·rename_i w5 f j;cases w2;show#[s,d,c,_,_,B,z,j,#[λv a #[w,A',y0,_,_,_]=>(by cases y0),λv a #[w,A',u0,u1,u2,u3]=>?_,λv a #[w,A',y0,_,_,_]=>(by cases y0),λv a #[w,A',y0,_,_,_]=>(by cases y0)]]
       cases u0;show hd.rt _ _ #[_,A',rfl,(C.trans ex).trans u1,u2,u3]
      ·cases w2
     ·cases w2
    ·cases w2
  ·cases e
 ·cases e
section
variable{s:OB}{A:Ow OF}
abbrev Mr (S:aa):W->Oz Qs
 |.non=>ba "NoneType"|.bl _=>ba "bool"|.int _=>ba "int"|.str _=>ba "str"|.tup _=>ba "tuple"
 |.ref i=>match gy S i with
  |some _=>ba "list"
  |none=>(xS S i).map λ_=>"dict"
abbrev qv:Ow Qs:=["bool","int","str","tuple","list","dict"]
abbrev oI (S:aa)(x:W)(c:Qs):Oz O6:=match Mr S x with
 |some t=>if qv.contains c then ba (t==c||(t == "bool" && c == "int"))else gV
 |none=>gV
def gZ {K:OI}(ht:t∈["NoneType","bool","int","str","tuple","list","dict"])(hc:c∈qv):PySem.W.kitOne K (.type t) (.type c)=ba (t==c||(t == "bool" && c == "int")):=by
 simp only[qv,O2,PL,Q9]at ht hc;rcases ht with rfl|rfl|rfl|rfl|rfl|rfl|rfl<;>rcases hc with rfl|rfl|rfl|rfl|rfl|rfl<;>rfl
def zZ:CallR X (.builtin "isinstance") (λvs H Q=>∃A S x v c b,vs=[v,.ty c]/\wk X A H S/\Rel X.K A H x v/\oI S x c=ba b/\Q (.bl b) H):=by
 intro J s Y H vs us Q I i ⟨A,S,x,v,c,b,n,m,C,d,r⟩;subst n;cases i with
 |cons e j=>cases j with
  |cons y k=>
   cases k;obtain rfl:_=QV c:=y;unfold oI at d;split at d
   next t ht=>
    split at d
    ·rename_i hc;cases d;have a:c∈qv:=by simpa using hc
     have fin:∀tk,EP X J Y Q (.bool (t==c||(t == "bool" && c == "int"))) {s with toks:=tk}:=λtk=>#[.bl _,H,I.tok _,rfl,r]
     cases C with
     |non=>cases ht;cases(show _=Qk from e);show R6 PySem.W.kitx_none I.kIn VA (gZ (by simp) a) (λz=>nomatch z) fin
     |bl=>cases ht;cases(show _=Qx _ from e);show R6 PySem.W.kitx_bool I.kIn VA (gZ (by simp) a) (λz=>nomatch z) fin
     |int=>cases ht;obtain⟨t',q⟩:=(show ∃t,_=Vm _ t from e);cases q;show R6 PySem.W.kitx_int I.kIn VA (gZ (by simp) a) (λz=>nomatch z) fin
     |str=>cases ht;obtain⟨t',q⟩:=(show ∃t,_=TH _ t from e);cases q;show R6 PySem.W.kitx_str I.kIn VA (gZ (by simp) a) (λz=>nomatch z) fin
     |tup h w=>
      cases ht;obtain⟨its,i,⟨o,f,g,_⟩,u⟩:=I.tuple h;cases(show _=Ps _ from e)
      show R6 PySem.W.kitx_tuple I.kIn #[o,f,g] (gZ (by simp) a) (λz=>nomatch z) fin
     |ref l=>
      cases(show _=Ps _ from e)
      dsimp only[Mr]at ht;split at ht
      next ws hw=>cases ht;obtain⟨vs,h,_⟩:=bq m hw l;obtain⟨its,i,p,u⟩:=I.list h;obtain⟨o,f,g,_⟩:=p.isList;show R6 PySem.W.kitx_list I.kIn #[o,f,g] (gZ (by simp) a) (λz=>nomatch z) fin
      ·rw[OG]at ht;obtain⟨U,hk,rfl⟩:=ht;obtain⟨xs,B,G⟩:=og m hk l;obtain⟨es,D,⟨o,f,g,_⟩,E⟩:=(iD I B).raw;show R6 PySem.W.kitx_dict I.kIn #[o,f,g.1] (gZ (by simp) a) (λz=>nomatch z) fin
    ·cases d
   ·cases d
abbrev z6 (c:Qs)(f:FE):FE:=λZ S=>match f Z S with
 |some (x,S1)=>(oI S1 x c).map λb=>(.bl b,S1)
 |none=>gV
def HL {e:Pb}{f:FE}(r:Gl X "isinstance")(s:X.mg "isinstance" = gV)(d:Gl X cn)(g:X.mg cn=gV)(i:bootBuiltins cn=ba (.type c))(h:cn≠"__name__")(a:(cn==("__debug__"))=false)
  (q:GE X e f) (hs:starEach [e,.Name cn p2] X.env=(false,eval e X.env)::starEach [.Name cn p2] X.env):GE X (.Call (.Name "isinstance" p) [e,.Name cn p2] [] pos) (z6 c f):=
 GE.of (kP zZ r s rfl (eM q (eM (Ce (v:=.ty c) d g i rfl h a) nI) hs) #v[] #v[] hs rfl) λY H A Z S w S' n u e Q t=>by
  unfold z6 at e;split at e
  next k S1 o=>rw[OG]at e;obtain⟨b,l,m⟩:=e;cases m;show#[A,Z,S,k,_,n,u,o,λv x #[j,z1,z2,z3]=>#[j,_,k,v,c,b,rfl,z2,z3,l,t _ _ #[j,z1,z2,.bl]]]
  ·cases e
end
abbrev Fy:FE:=λ_ S=>ba (.ref ↥S,S++[.dic []])
section
variable (K:OI) (A:Ow OF) (H:Hp)
inductive RelP:Ow W->Ow (V×V)->Prop
 |nil:RelP [] []
 |cons {k v:W}{a b:V}{ws:Ow W}{ps:Ow (V×V)}:Rel K A H k a->Rel K A H v b->RelP ws ps->RelP (k::v::ws) ((a,b)::ps)
end
def RelP.mono {K:OI}{A :Ow OF}{ f:Hp}(e:Ext K A H d f){ps:Ow (V×V)}(h:RelP K A H ws ps):RelP K d f ws ps:=by
 induction h with
 |nil=>show .nil
 |cons a b c ih=>show .cons (a.mono e) (b.mono e) ih
section
variable{s:OB}{A:Ow OF}
def DS :GE X (.Dict [] [] pos) Fy:=λJ s Y H Q I #[A,Z,S,w,S',er,so,e,hq]=>by
 cases e;have a:=I.hok.fresh (OR _);have b:DicAt X.w _ [] (s.heap.push {cls:=.type _,data:=.dict #[]}):=#[Qd _,RC.mpr (Ne.symm (Pa I.big)),UV,_,#[],0,OX _ rfl,#[rfl,rfl,rfl],rfl,rfl];show wpAny_Dict_empty #[.ref _,_,I.laid    (λ_ _ q=>OA _ q) (OR _) b.ok,rfl,hq _ _ #[A++[⇑s.heap.objs],dY a,so.pushO a #[[],au,.nil],.ref ?_]]
 rw[<- so.len];simp
end
abbrev dg (f:FE):FI:=λZ S=>match f Z S with
 |some (.tup ws,S1)=>ba (.its ws,S1)
 |some (.str x,S1)=>if (x.cps.all λc=>decide (c<128))=true then ba (.its (x.cps.toList.map λc=>.str #[[c].toArray]),S1)else gV
 |some (.ref r,S1)=>match gy S1 r with
  |some _=>ba (.live r,S1)
  |none=>gV
 |_=>gV
section
variable{s:OB}{A:Ow OF}
def DU :MIt X.w X.K (.its (x.cps.toList.map λc=>.str #[[c].toArray])) (NY x) A H:=by
 show#[λb d S i w e a hi=>?_,λb d S i e a hi=>?_]
 ·simp only[MI.at,Pp]at hi;rw[OY,OG]at hi;obtain⟨c,hc,rfl⟩:=hi;rw[QD]at hc;show#[(O9.mp hc).1,λv g #[f,c',z2,z3]=>?_]
  subst f z3;rw[hc]at z2;cases z2
  show#[.refl,a,.str]
 ·simp only[MI.at,Pp]at hi;rw[OY,Option.map_eq_none_iff,QD]at hi;show UO.mp hi
def DV {f:FE}(h:GE X l f):GI X tg l (dg f):=by
 intro J s Y H R I ⟨A,Z,S,mi,S',c,i,e,g⟩
 by_cases hs:∃x S1,f Z S=ba (.str x,S1)
 ·obtain⟨x,S1,d⟩:=hs;simp only[dg,d]at e;split at e
  next j=>
   cases e;show a9 (h J s Y H (wv X A H _ (.str x)) I #[A,Z,S,_,_,c,i,d,λ_ _ z=>z]) λv a #[m,H1,I1,r1,A1,e1,o1,z1]=>?_
   cases z1;obtain⟨tk,rfl⟩:=r1;show wpAny_pyIter_ascii j ?_;show#[⇑a.heap.objs,[⇑a.heap.objs],_,_,H1,rfl,I1.kept (t':=a.toks) λb o e=>OA _ e,zd x tk _,#[_,OX _ rfl,rfl,rfl],λb k=>?_,g _ _ A1 e1 o1 DU]
   have e:b=⇑a.heap.objs:=by simpa using k
   subst e;show I1.fpOk (OR _) (I1.hok.fresh (OR _))
  ·cases e
 have:dg f Z S=DM f Z S:=by
  unfold dg DM;cases hf:f Z S with
  |none=>rfl
  |some p=>
   obtain⟨w,S1⟩:=p;cases w with
   |str x=>show absurd #[x,S1,hf] hs
   |_=>rfl
 rw[this]at e;show HJ h J s Y H R I #[A,Z,S,mi,S',c,i,e,g]
end
abbrev HM (xs:Ow W)(S:aa):Oz (W×aa):=match xs with
 |[.str x]=>if ↥x=1 then ba (.int (x.cps.getD 0 0:OH),S)else gV
 |_=>gV
abbrev z7 (xs:Ow W)(S:aa):Oz (W×aa):=match xs with
 |[.int i,.int j]=>ba (.int (if j > i then j else i),S)
 |_=>gV
abbrev DY (xs:Ow W)(S:aa):Oz (W×aa):=match xs with
 |[.ref i]=>match Mq S i with
  |some n=>ba (.int n,S)
  |none=>gV
 |_=>gV
def w6:LCall X (.builtin "ord") HM:=by
 intro J s Y H A S xs vs us w S' I g d f e;unfold HM at e;split at e
 next x=>
  split at e
  next a=>
   cases e;cases d with
   |cons b c=>
    cases c;cases b;show CallR.go ye I f #[x,rfl,a,.here g .int]
  ·cases e
 ·cases e
def sM (hc:X.calm=true):LCall X (.builtin "max") z7:=by
 intro J s Y H A S xs vs us w S' I h f g e;unfold z7 at e;split at e
 next i j=>
  cases e;cases f with
  |cons a b=>cases b with
   |cons c d=>
    cases d;cases a;cases c
    show CallR.go (vS hc) I g #[i,j,rfl,.here h .int]
 ·cases e
def sN:LCall X (.builtin "len") DY:=by
 intro J s Y H A S xs vs us w S' I d k l e;unfold DY at e;split at e
 next i=>
  obtain⟨a,f,rfl⟩:=uw (xs:=[]) k l;split at e
  next ks hs=>
   cases e;unfold Mq at hs;split at hs
   next us h=>
    cases hs;obtain⟨o,φ,q,c,es,m,t,hd,rfl,j,b⟩:=d.obj i _ a h f;have g:s.heap.get? a=ba o:=(show ObjOk X.prog X.w H s.heap a (.frz o (.ext φ))from I.hok a _ q).1
    show call_len_set g c hd b (by rw[Qc]at j;omega) #[.int ⇑es,H,A,I.tok _,#[_,rfl],.refl,d,.int]
   ·cases hs
  ·cases e
 ·cases e
variable{Mqa:U6}
section
variable{E:Oy->OB->Prop}{s:OB}
def qw {g:OF}{cl:Ow (OM×OF)}
  (h:Q (newEnv scope ⇑s.heap.objs g (cellsFrom (⇑s.heap.objs+1) scope.names cl) a gV .none (ba outer) builtinsNs) {s with heap:=pushCells (s.heap.push {cls:=.type "dict",data:=.dict #[]}) scope.names}) :
  wpAny Mqa A (newFunctionEnv scope g cl [] a gV .none (ba outer)) Q E s:=by
 revert newFunctionEnv Option.isSome_some QY;show Ox (Zf ?_);show Ox (wpAny_layCells _ (λname kind b=>by cases c:kind==SM<;>simp[c]) _ _ _ _ ?_)
 rw[show({s with heap:=s.heap.push {cls:=.type "dict",data:=.dict #[]}}:OB).heap.objs.size=⇑s.heap.objs+1 from QM ..]
 rw[VZ];show Ox (OD (OD h))
def z8 {a:Pr}:(pushCells (a.push {cls:=.type "dict",data:=.dict #[]}) names).Ns ⇑a.objs (λ_=>gV):=
 Heap.Ns.keeps (h:=a.push {cls:=.type "dict",data:=.dict #[]}) #[_,#[],0,OX _ rfl,rfl,by simp[StrKeys],λ_=>rfl] (VP names _)
def d0:∀ names m a {x:OM}{c:OF},(cellsFrom m names a).lookup x=ba c->
  (a.lookup x=ba c/\(x,SM)∉names)\/(m<=c/\(x,SM)∈names/\∀h:Pr,⇑h.objs=m->(pushCells h names).IsCell c gV)
 |[],_,_,_,_,b=>.inl #[b,λz=>nomatch z]
 |(name,kind)::r,m,a,x,c,b=>by
  unfold cellsFrom at b;split at b
  next hk=>
   have hc:kind=.cell:=eq_of_beq hk;subst hc;rcases d0 r _ _ b with⟨z,i⟩|⟨d,f,g⟩
   ·rw[PY]at z;split at z
    ·rename_i e;cases z;have:=eq_of_beq e;subst this;show .inr #[OR _,OU,λh e=>?_]
     subst e;show(show(h.push {cls:=.type "cell",data:=.cell gV}).IsCell ⇑h.objs gV from#[_,OX _ rfl,rfl]).keeps (VP r _)
    ·rename_i e;show .inl #[z,λy=>?_]
     rcases O2.mp y with y|y
     ·cases y;simp at e
     ·show i y
   ·show .inr #[Nat.le_of_succ_le d,OV _ f,λh e=>?_]
    show g _ (by rw[QM,e])
  next hk=>
   rcases d0 r _ _ b with⟨z,i⟩|⟨d,f,g⟩
   ·show .inl #[z,λy=>?_]
    rcases O2.mp y with y|y
    ·cases y;show hk rfl
    ·show i y
   ·show .inr #[d,OV _ f,λh e=>?_]
    unfold pushCells;rw[Pd hk];show g h e
def jB:∀ names (m:OH) (a:Ow (OM×OF)),(∀x c,a.lookup x=ba c->c<m)->(∀x y c,a.lookup x=ba c->a.lookup y=ba c->x=y)->
  ∀x y c,(cellsFrom m names a).lookup x=ba c->(cellsFrom m names a).lookup y=ba c->x=y
 |[],_,_,_,h=>h
 |(name,kind)::r,m,a,hl,h=>by
  unfold cellsFrom;split
  ·show jB r (m+1) _ (λx c e=>?_) λx y c b d=>?_
   ·rw[PY]at e;split at e
    ·cases e;show Rq _
    ·show RB (hl x c e)
   ·rw[PY]at b d;split at b<;>split at d
    next _ f _ g=>rw[eq_of_beq f,eq_of_beq g]
    ·cases b;show absurd (hl y _ d) (P7 _)
    ·cases d;show absurd (hl x _ b) (P7 _)
    ·show h x y c b d
  ·show jB r m a hl h
def jC:∀ names m a {n:OM},(n,SM)∈names\/(∃c,a.lookup n=ba c)->∃c,(cellsFrom m names a).lookup n=ba c
 |[],_,_,_,h=>h.elim (λz=>nomatch z) id
 |(name,kind)::r,m,a,n,h=>by
  unfold cellsFrom;split
  ·show jC r (m+1) _ ?_;rw[PY];split
   ·show .inr #[_,rfl]
   next e=>
    rcases h with z|z
    ·rcases O2.mp z with y|y
     ·cases y;simp at e
     ·show .inl y
    ·show .inr z
  next hk=>
   show jC r m a ?_;rcases h with z|z
   ·rcases O2.mp z with y|y
    ·cases y;show absurd rfl hk
    ·show .inl y
   ·show .inr z
end
abbrev bj (mi:MI)(g:FG)(c:FT)(f:FE):OH->OH->Fm->aa->Oz (Ow W×aa)
 |0,i,_,S=>match mi.at S i with
  |some gV=>ba ([],S)
  |_=>gV
 |n+1,i,Z,S=>match mi.at S i with
  |some (ba w)=>match g w Z S with
   |some (a,S1)=>match c a S1 with
    |some (true,S2)=>match f a S2 with
     |some (y,b)=>match bj mi g c f n (i+1) a b with
      |some (e,d)=>ba (y::e,d)
      |none=>gV
     |none=>gV
    |some (false,S2)=>bj mi g c f n (i+1) a S2
    |none=>gV
   |none=>gV
  |_=>gV
abbrev cr (a:Ow (Oz OH))(Z:Fm):Fm:=a.map λo=>match o with
 |some j=>(Z[j]?).join
 |none=>gV
abbrev lD (b:FI)(g:FG)(c:FT)(f:FE)(a:Ow (Oz OH)):FE:=λZ S=>match b Z S with
 |some (mi,S1)=>match mi.len S1 with
  |some n=>match bj mi g c f n 0 (cr a Z) S1 with
   |some (d,S2)=>nS S2 d
   |none=>gV
  |none=>gV
 |none=>gV
abbrev Fz:FT:=λ_ S=>ba (true,S)
abbrev rL (X:Cx)(scope:RN)(cl:Ow (OM×OF))(C:OF)(N:Ow OM)(s0:OB)(a:Hp)(ex:Ow OF):Cx:=
 {X with env:=compEnvC scope (cellsFrom (C+1) scope.names cl) C X.env,N:=N,s₀:=s0,H₀:=a,outer:=X.stack,stack:=X.stack,ex:=ex,fn:=λx=>scope.names.any λy=>y.1==x&&y.2==.cell,pn:=[],xe:=λ_ _=>P0}
structure CompOk (X:Cx)(scope:RN)(cl:Ow (OM×OF))(N:Ow OM)(cap:Ow (Oz OH)):Prop where
 clos:closureFor scope X.env=pure cl
 kind:scope.kind=.function
 names:∀y∈scope.names,y.2=.local->scope.names.lookup y.1=ba .local
 sub:∀x c,cl.lookup x=ba c->X.env.cells.lookup x=ba c
 has:∀m x,((relabel scope X.env).names.lookup x=ba .cell\/(relabel scope X.env).names.lookup x=ba .free)->∃c,(cellsFrom m scope.names cl).lookup x=ba c
 len:↥cap=↥N
 cap:∀(i j:OH) (x:OM),cap[i]?=ba (ba j)->N[i]?=ba x->X.N[j]?=ba x/\(X.env.kindOf x=ba .cell\/X.env.kindOf x=ba .free)/\((relabel scope X.env).names.lookup x=ba .cell\/(relabel scope X.env).names.lookup x=ba .free)/\(x,SM)∉scope.names
def CompOk.of {cl:Ow (OM×OF)}(b:CompOk X scope cl N a)(z:(cellsFrom m scope.names cl).lookup x=ba c):X.env.cells.lookup x=ba c\/m<=c:=
 (d0 _ _ _ z).elim (λq=>.inl (b.sub x c q.1)) λq=>.inr q.1
def gE { k:Oy}(I:OH->OB->Prop)
    (turn:∀n s,I n s->wh prog w A (pyNext it) (λr a=>match r with
      |none=>R (.ok .next) a
      |some v=>wh prog w A (letOwnedTupleGo b it v) (λ_ a=>wh prog w A (assign b env v) (λ_ g=>
          wh prog w A (forIn t true λc r=>if r=true then do let ok <- isTrue c env (eval c env);pure (Ri ok)else pure (Ri r)) (λok e=>
            if ok=true then wh prog w A (eval l env) (λx i=>
              wh prog w A (call (.builtin "list.append") [k,x]) (λ_ j=>∃m,m<n/\I m j) (λ_ _=>P0) i) (λ_ _=>P0) e
            else ∃m,m<n/\I m e) (λ_ _=>P0) g) (λ_ _=>P0) a) (λ_ _=>P0) a) (λ_ _=>P0) s)
    (n:OH) (h:I n s) :
    codeAny (model prog w) A (.compLoop (.ListComp l [#[b,iter,t,0]] scope pos) 0 it k env) R s:=by
  show codeAny_loop rfl I (λn s u=>?_) n h
  show wpAny_noted ?_;rw[compTurn_list];show Ox (Ue (Ox (P4 (turn n s u) (λr a d=>?_) λ_ _ h'=>h'.elim)))
  cases r with
  |none=>show OD d
  |some v=>
    show Ox (P4 d (λ_ a d=>?_) λ_ _ h'=>h'.elim)
    show Ox (P4 d (λ_ g o=>Ox (P4 o (λok e f=>?_) λ_ _ h'=>h'.elim)) λ_ _ h'=>h'.elim)
    cases ok with
    |false=>show OD #[rfl,f]
    |true=>
      show Ox (Ox (P4 f (λx i p=>Ox (P4 p (λ_ j q=>OD (OD #[rfl,q])) λ_ _ h'=>h'.elim)) λ_ _ h'=>h'.elim))
section
variable{s:OB}
def Inv.adopt (I:Inv X J Y H s)(l:H D=gV)(g:D∈X.ex\/⇑X.s₀.heap.objs<=D)(j:D≠X.env.locals)(h:∀x c,X.env.cells.lookup x=ba c->c≠D)(i:∀p∈X.pn++J,p.1≠D)
  (new:ObjOk X.prog X.w (aW H D o) s.heap D o):Inv X J Y (aW H D o) s:=by
 have a:∀b u,H b=ba u->b≠D:=λb u e z=>by rw[z,l]at e;cases e
 have f:Inv X J Y (aW H D o) {s with heap:=s.heap,gens:=s.gens,drawn:=s.drawn,toks:=s.toks}:=by
  show I.step (g':=s.gens) (d':=s.drawn) (t':=s.toks) (h':=s.heap) (ch:=[D]) (λb d=>?_) (λb o _ _ hc e _=>e) (λb o _ _ hc e _=>#[o.slots,e]) (λb o hc e n=>?_)
   (λb o hc e=>#[o,e]) (λb xs e=>?_) (λb o xs e=>?_) (λb ps e=>#[#[],?_]) (λm k=>k) (λb u e=>?_) I.bare
  ·have e:b=D:=by simpa using d
   subst e;show#[g,j,h,i]
  ·rw[am (λz=>hc (by simp[z]))];show n
  ·rw[am (a b _ e)];show e
  ·rw[am (a b _ e)];show e
  ·rw[am (a b _ e),e];simp
  ·by_cases d:b=D
   ·subst d;rw[au]at e;cases e;show new
   ·rw[am d]at e;show(I.hok b u e).stay (λc v hc q=>q) (λc q=>?_) λc xs q=>?_
    ·rw[am (a c _ q)];show q
    ·rw[am (a c _ q)];show q
 show f
def HN {cl:Ow (OM×OF)}{g:Ow (Oz OH)}{s0:OB}(I:Inv X J Y H s)(f:CompOk X scope cl N g)(hs:⇑s.heap.objs<=s0.heap.objs.size)(j:s0.heap.objs.size<=C)(i:∀x c,X.env.cells.lookup x=ba c->c<C+1)
  (hk:∀b o,s.heap.get? b=ba o->s0.heap.get? b=ba o) (a:∀b∈ex,(b<C)/\(∀x c,X.env.cells.lookup x=ba c->c≠b)/\(∀o,X.base.get? b≠ba o)/\b∉nE X.stack) :
  (rL X scope cl C N s0 H ex).Ok where
 mod:=I.ok.mod
 kind:=f.kind
 glob:=I.ok.glob
 blt:=I.ok.blt
 above:=j
 inj:=jB scope.names (C+1) cl (λx c h=>i x c (f.sub x c h)) λx y c n p=>I.ok.inj x y c (f.sub x c n) (f.sub y c p)
 has:=λx h=>f.has _ x h
 cab:=λx c h hc=>by
  obtain⟨⟨y,k⟩,r,e⟩:=Vq.mp h;rw[OE]at e;have l:y=x:=eq_of_beq e.1;have m:k=.cell:=eq_of_beq e.2;subst l m;rcases d0 _ _ _ hc with q|q
  ·show absurd r q.2
  ·show OQ j (OQ (QJ _) q.1)
 hd:=I.ok.hd
 frames:=I.ok.frames
 stk:=.inl rfl
 exf:=λb d=>#[Pa (a b d).1,λx c h=>(f.of h).elim (λq=>(a b d).2.1 x c q) λq z=>absurd (Pf (RB (a b d).1) q) (z▸P7 _)]
 bs:=λb o e=>#[hk b o (I.bk b o e),(I.bs b o e).2]
 bsz:=OQ (OQ I.ok.bsz I.sz) hs
 noex:=λb o e d=>(a b d).2.2.1 o e
 exfs:=λb d=>(a b d).2.2.2
 funs:=I.stack.of_keeps λb o e _=>#[o,hk b o e,rfl]
 frf:=I.stkFree
structure BlockOk (X:Cx)(scope:RN)(cl:Ow (OM×OF))(N:Ow OM)(tg elt:Pb)(ifs:Ow Pb)(g:FG)(c:FT)(f:FE):Prop where
 tgt:∀C s0 H0 ex,GG (rL X scope cl C N s0 H0 ex) tg g
 tst:∀C s0 H0 ex J s Y H Q,Inv (rL X scope cl C N s0 H0 ex) J Y H s->tT (rL X scope cl C N s0 H0 ex) c Y H Q->
  wi X (forIn ifs true λc r=>if r=true then do let ok <- isTrue c (compEnvC scope (cellsFrom (C+1) scope.names cl) C X.env) (eval c (compEnvC scope (cellsFrom (C+1) scope.names cl) C X.env));pure (Ri ok)else pure (Ri r)) (TP (rL X scope cl C N s0 H0 ex) J Y Q) (λ_ _=>P0) s
 elt:∀C s0 H0 ex,GE (rL X scope cl C N s0 H0 ex) elt f
def oJ (e:s.heap.get? D=ba (xa its.toArray n))(i:↥its<sizeLine)
  (h:∀h' g,h'.get? D=ba (xa (its++[u]).toArray g)->(∀b o,b≠D->s.heap.get? b=ba o->h'.get? b=ba o)->Q .none {s with heap:=h'}) :
  wpAny (model prog w) B (call (.builtin "list.append") [.ref D,u]) Q E s:=by
 show Vx F.slot_list_append #[_,e,rfl] F.entry_list_append (F.args_list_append_2 _ _) (WY D its.toArray n u (by rw[O5];omega)) #[e,?_]
 have q:=Xn e (λa=>a.push u)
 have c:its.toArray.push u=(its++[u]).toArray:=by simp
 rw[c]at q;show h _ _ q (λb o d f=>(PF s.heap (Rb λa=>a.push u) (Ne.symm d)).trans f)
noncomputable abbrev FB (its:Ow Oy)(n:OH):Qq:=(xa its.toArray n)
def DZ {cl:Ow (OM×OF)}{R:Ow (Oz OH)}{g:FG}{f:FE}{A:Ow OF}
  {RR:Oy->OF->Vf->OB->Prop}{D :OF}{s3:OB}
  (I:Inv X J Y H s) (hc:X.calm=true) (er:EnvRel X.K A H Z Y) (so:wk X A H S) (ck:CompOk X scope cl N R) (bk:BlockOk X scope cl N tg elt ifs g c f)
  (T:Turn X.prog X.w X.K tg Jqb fp it tn) (t0:tn 0 s.heap) (L:∀b∈fp,gw X J H b) (mit:MIt X.w X.K mi Jqb A H) (e:bj mi g c f n 0 (cr R Z) S=ba (ws,S')) (hz:↥ws<=sizeLine)
  (fin:∀D C s' l G vs m,s'.heap.Ns C m->l D=gV->D≠C->C≠X.env.locals->C∉X.fs->l C=gV->⇑X.s₀.heap.objs<=C->(∀x c,X.env.cells.lookup x=ba c->c≠C)->(∀p∈X.pn++J,p.1≠C)->
   Inv X J Y (aW l D (.lst vs)) s'->Ext X.K A H G l->wk X G l S'->RelL X.K G l ws vs->RR (.ref D) C (.ok .next) s')
  (hD:⇑s.heap.objs=D) (hC:C=D+1) (h3:⇑s3.heap.objs=C) (hos:s3.os=s.os) (hg3:s3.gens=s.gens) (k2:∀b o,s.heap.get? b=ba o->s3.heap.get? b=ba o) (hD2:s3.heap.get? D=ba (FB [] 0)) (V:B=pushCells (s3.heap.push {cls:=.type "dict",data:=.dict #[]}) scope.names) :
  codeAny (model X.prog X.w) X.A (.compStart (.ListComp elt [#[tg,iter,ifs,0]] scope pos) 0 (.ref it) (.ref D) (compEnvC scope (cellsFrom (C+1) scope.names cl) C X.env)) (RR (.ref D) C) {s3 with heap:=B}:=by
 have k1:∀b o,s3.heap.get? b=ba o->B.get? b=ba o:=λb o z=>V▸VP _ _ b o (OA _ z)
 have hns₁:B.Ns C λ_=>gV:=by rw[V,<- h3];show z8
 have newC:∀{c:OF},(∀h:Pr,⇑h.objs=C+1->(pushCells h scope.names).IsCell c gV)->B.IsCell c gV:=λq=>V▸q _ (by rw[QM,h3])
 have lt:∀{b:OF}{o:Qq},s.heap.get? b=ba o->b<D:=λq=>hD▸O4 q
 have hsz:⇑X.s₀.heap.objs<=D:=hD▸I.sz;have hlt:X.env.locals<D:=hD▸I.lt;have E:D<=C:=by rw[hC];show QJ _
 have hne:D≠C:=by rw[hC];show Pa (Rq _)
 have fresh:∀a,D<=a->H a=gV:=λa ha=>I.hok.fresh (hD▸ha)
 have t:∀x c,X.env.cells.lookup x=ba c->c<D:=λx c z=>let ⟨_,q⟩:=I.cell x c z;hD▸q.lt
 have O:∀b∈fp,b<D:=λb d=>let ⟨_,q,_⟩:=T.obj 0 s.heap t0 b d;lt q
 have stkLt:∀b∈nE X.stack,b<D:=λb d=>let ⟨_,o,q,_⟩:=I.stack.mem d;lt q
 have pinLt:∀p∈X.pn++J,p.1<D:=λp M=>lt (I.pin p M).1
 have baseLt:∀b o,X.base.get? b=ba o->b<D:=λb o z=>lt (I.bk b o z)
 have fpStk:∀b∈fp,b∉nE X.stack:=λb d z=>by
  rcases O2.mp (I.stkSub b z)with q|q
  ·show(L b d).2.1 q
  ·show(L b d).2.2.1 q
 have fpBase:∀b∈fp,∀o,X.base.get? b≠ba o:=λb d o z=>by
  rcases(L b d).2.2.2.1 with q|q
  ·show I.ok.noex b o z q
  ·show absurd (Pf (O4 (I.ok.bs b o z).1) q) (P7 _)
 have ownNe:∀{b c:OF},b<=D->C+1<=c->c≠b:=λd hc=>PZ (SA d (Pf (Sc E) hc))
 obtain⟨ex,exF,exD,exO⟩:∃ex:Ow OF,(∀b∈fp,b∈ex)/\D∈ex/\∀b∈ex,b∈fp\/b=D:=#[fp++[D],λb d=>PU _ d,Pg _ (O3.mpr rfl),λb d=>(Px.mp d).imp id O3.mp]
 have ok':(rL X scope cl C N s3 H ex).Ok:=by
  show HN I ck (by rw[hD,h3];show E) (YT h3) (λx c z=>Sc (OQ (Q1 (t x c z)) E)) k2 λb d=>?_
  rcases exO b d with d|rfl
  ·show#[Pf (O b d) E,(L b d).2.2.2.2.1,fpBase b d,fpStk b d]
  ·show#[Nat.lt_of_le_of_ne E hne,λx c z=>Pa (t x c z),λo z=>P7 _ (baseLt _ o z),λz=>P7 _ (stkLt _ z)]
 obtain⟨m0,hn0,hl0⟩:=I.loc;have I0:Inv (rL X scope cl C N s3 H ex) [] (R.map λo=>match o with|some j=>(Y[j]?).join|none=>gV) H {s3 with heap:=B}:=by
  show#[ok',rfl,show Ud s3.gens from hg3▸I.bare,Un.kept k1,#[_,hns₁,λi x v e1 e2 e3=>?_],λx cc z=>?_,fresh _ E,λx cc z=>(ck.of z).elim (I.freeC x cc) λq=>fresh _ (OQ E (OQ (QJ _) q)),λp M=>(nomatch M),(I.hok.kept k2).kept k1,by rw[OC];show ck.len]
  ·rw[OY]at e2;cases q:R[i]? with
   |none=>rw[q]at e2;cases e2
   |some oj=>
    rw[q]at e2;cases oj with
    |none=>cases e2
    |some j=>
     obtain⟨z1,z2,z3,z4⟩:=ck.cap i j x q e1;have e2':(Y[j]?).join=ba v:=PR e2;have e2'':Y[j]?=ba (ba v):=by
      cases r:Y[j]? with
      |none=>rw[r]at e2';cases e2'
      |some y=>rw[r]at e2';show congrArg ba e2'
     obtain⟨u,ru,lk⟩:=hl0 j x v z1 e2'' (.inr z2);show#[u,ru,?_];rcases lk with⟨zk,_⟩|⟨_,cc,zc,zi⟩
     ·rcases z2 with z|z<;>(rw[zk]at z;cases z)
     ·obtain⟨c2,hc2⟩:=ck.has (C+1) x z3;have:=(d0 _ _ _ hc2).elim (λq=>ck.sub x c2 q.1) λq=>absurd q.2.1 z4
      rw[zc]at this;cases this
      obtain⟨o,ho,hd⟩:=zi;show .inr #[z3,cc,hc2,o,k1 _ _ (k2 _ _ ho),hd]
  ·rcases d0 _ _ _ z with q|q
   ·obtain⟨v,o,ho,hd⟩:=I.cell x cc (ck.sub x cc q.1);show#[v,o,k1 _ _ (k2 _ _ ho),hd]
   ·show#[gV,newC q.2.2]
 have er0:EnvRel X.K A H (cr R Z) (R.map λo=>match o with|some j=>(Y[j]?).join|none=>gV):=by
  show#[by simp[cr],λi w q=>?_]
  unfold cr at q;rw[OY]at q ⊢;cases r:R[i]? with
  |none=>rw[r]at q;cases q
  |some oj=>
   rw[r]at q;cases oj with
   |none=>cases q
   |some j=>
    have q':(Z[j]?).join=ba w:=PR q;have q'':Z[j]?=ba (ba w):=by
     cases z:Z[j]? with
     |none=>rw[z]at q';cases q'
     |some y=>rw[z]at q';show congrArg ba q'
    obtain⟨v,z1,z2⟩:=er.2 j w q'';show#[v,by simp[z1],z2]
 have t1:tn 0 B:=T.keep 0 s.heap B t0 λb d o z=>k1 b o (k2 b o z)
 have U:∀{l:Hp}{pp:Ow (OF×Qq)},(∀b∈fp,l b=gV)->(∀p∈pp,p.1=D)->∀b∈fp,gw (rL X scope cl C N s3 H ex) pp l b:=λhn M b d=>
  #[hn b d,Pa (Pf (O b d) E),fpStk b d,.inl (exF b d),λx cc z=>(ck.of z).elim (λq=>(L b d).2.2.2.2.1 x cc q) (ownNe (Q1 (O b d))),λp hpp=>by
   rw[M p hpp];show(Pa (O b d)).symm]
 have theEnd:∀s' Y' l G vs its nn,Inv (rL X scope cl C N s3 H ex) [] Y' l s'->s'.heap.get? D=ba (FB its nn)->Vals vs its->l D=gV->Ext X.K A H G l->wk X G l S'->RelL X.K G l ws vs->RR (.ref D) C (.ok .next) s':=by
  intro s' Y' l G vs its nn I' hDl rv hDn ex' so' rl;obtain⟨m,hn,_⟩:=id I'.loc;have hch:∀b∈ex,(b∈X.ex\/⇑X.s₀.heap.objs<=b)/\b≠X.env.locals/\(∀x c,X.env.cells.lookup x=ba c->c≠b)/\∀p∈X.pn++J,p.1≠b:=λb d=>by
   rcases exO b d with d|rfl
   ·show#[(L b d).2.2.2.1,(L b d).2.1,(L b d).2.2.2.2.1,(L b d).2.2.2.2.2]
   ·show#[.inr hsz,(Pa hlt).symm,λx cc z=>Pa (t x cc z),λp M=>Pa (pinLt p M)]
  obtain⟨c1,c2,c3,c4⟩:=hch _ exD;show fin _ _ s' l G vs m hn hDn hne (PZ (Pf hlt E)) (I.nofs (hD▸E)) I'.free (OQ hsz E) (λx cc z=>Pa (Pf (t x cc z) E))
   (λp M=>Pa (Pf (pinLt p M) E)) (Inv.adopt (I.call' (I'.os.trans hos) ((Un.kept k2).trans I'.base) I'.hok I'.bare hch) hDn c1 c2 c3 c4 #[by rw[<- ↥rl];show hz,its,nn,rv,hDl]) ex' so' rl
 have loop:codeAny (model X.prog X.w) X.A (.compLoop (.ListComp elt [#[tg,iter,ifs,0]] scope pos) 0 (.ref it) (.ref D) (compEnvC scope (cellsFrom (C+1) scope.names cl) C X.env)) (RR (.ref D) C) {s3 with heap:=B}:=by
  show gE (λk s5=>∃i Y5 Q A5 Z5 S5 done its nn vs ys,Inv (rL X scope cl C N s3 H ex) [] Y5 Q s5/\tn i s5.heap/\(∀b∈fp,Q b=gV)/\s5.heap.get? D=ba (FB its nn)/\Q D=gV/\Vals vs its/\
   Ext X.K A H A5 Q/\EnvRel X.K A5 Q Z5 Y5/\wk X A5 Q S5/\RelL X.K A5 Q done vs/\ws=done++ys/\bj mi g c f k i Z5 S5=ba (ys,S')) ?_ n
   #[0,_,H,A,_,S,[],[],0,[],ws,I0,t1,λb d=>(L b d).1,k1 _ _ hD2,fresh _ (OR _),.nil,.refl,er0,so,.nil,rfl,e]
  clear I0 er0 t1 e so hns₁ newC;rintro k s5 ⟨i,Y5,Q,A5,Z5,S5,done,its,nn,vs,ys,I5,t5,f5,d5,n5,v5,e5,er5,so5,rl5,hw5,P⟩;have pinD:Inv (rL X scope cl C N s3 H ex) [(D,FB its nn)] Y5 Q s5:=I5.pins_of λp M=>by
   cases O3.mp M;show#[d5,n5,hne,λz=>P7 _ (stkLt _ z),λv z=>by cases z]
  have oneD:∀p∈[(D,FB its nn)],p.1=D:=λp M=>by rw[O3.mp M]
  cases k with
  |zero=>
   dsimp only[bj]at P;split at P
   next hst=>
    cases P;rw[Ql]at hw5;subst hw5;show a9 (T.done (rL X scope cl C N s3 H ex) rfl rfl rfl hc i _ s5 Y5 Q _ pinD (U f5 oneD) t5 (mit.stop A5 Q _ i e5 so5 hst)) λr s6 #[hr,I6]=>?_
    subst hr;have p6:=I6.pin _ (Pg _ (O3.mpr rfl));show theEnd s6 Y5 Q A5 vs _ nn (I6.pins_of λp M=>(nomatch M)) p6.1 v5 n5 e5 so5 rl5
   ·cases P
  |succ k=>
   dsimp only[bj]at P;split at P
   next w hw=>
    obtain⟨go,yl⟩:=mit.go A5 Q S5 i w e5 so5 hw;show a9 (T.item (rL X scope cl C N s3 H ex) rfl rfl rfl hc i _ s5 Y5 Q _ pinD (U f5 oneD) t5 go) λr s6 #[u,hr,h6]=>?_
    subst hr;show a9 h6 λ_ s7 #[x,H7,I7,r7,y7,t7,f7]=>?_
    obtain⟨x1,x2,x3⟩:=yl x H7 y7;have I7':=I7.pinned (U f7 oneD) (T.obj _ _ t7);clear theEnd pinD I7 h6;split at P
    ·rename_i Z8 S8 h8;show a9 (bk.tgt _ _ _ _ _ s7 Y5 H7 x u (λY' l=>∃G,Ext X.K A5 Q G l/\wk X G l S8/\EnvRel X.K G l Z8 Y') I7' r7 #[A5,Z5,S5,w,Z8,S8,er5.mono x1,x2,x3,h8,λY' l G q1 q2 q3=>#[G,x1.trans q1,q2,q3]]) λ_ s8 #[Y8,H8,I8,A8,e58,so8,er8]=>?_
     have e8:Ext X.K A H A8 H8:=e5.trans e58;have pDF:∀{Y':L2.St}{l:Hp}{s':OB},Inv (rL X scope cl C N s3 H ex) ([(D,FB its nn)]++nG fp s7.heap) Y' l s'->(s'.heap.get? D=ba (FB its nn)/\l D=gV)/\(∀b∈fp,l b=gV)/\∀b∈fp,∀o,s7.heap.get? b=ba o->s'.heap.get? b=ba o:=λI'=>
      let q:=I'.pin _ (Pg _ (PU _ (O3.mpr rfl)))
      have z:=λb d o eo=>I'.pin (b,o) (Pg _ (Pg _ (gS d eo)))
      #[#[q.1,q.2.1],λb d=>let ⟨o,eo,_⟩:=T.obj _ _ t7 b d;(z b d o eo).2.1,λb d o eo=>(z b d o eo).1]
     split at P
     ·rename_i S9 h9;show a9 (bk.tst _ _ _ _ _ s8 Y8 H8 (λb l=>b=true/\∃G,Ext X.K A8 H8 G l/\wk X G l S9) I8 #[A8,Z8,S8,true,S9,er8,so8,h9,λb l #[z0,G,z1,z2]=>#[z0,G,z1,z2]]) λb s9 #[H9,I9,z0,A9,e9,so9]=>?_
      subst z0;rw[OZ rfl];split at P
      ·rename_i y S10 h10;split at P
       ·rename_i ys' S4 h11;cases P;show a9 (bk.elt _ _ _ _ _ s9 Y8 H9 (wv X A9 H9 S10 y) I9 #[A9,Z8,S9,y,S10,er8.mono e9,so9,h10,λ_ _ z=>z]) λu10 s10 #[v10,H10,I10,r10,A10,e10,so10,rl10]=>?_
        obtain⟨⟨d10,n10⟩,f10,k10⟩:=pDF I10;have hlen:↥its<sizeLine:=by
         have l1:=↥v5;have l2:=↥rl5;rw[hw5,OL,Po]at hz;omega
        show oJ d10 hlen λh' n' hd' hk'=>?_
        show#[k,Rq k,i+1,Y8,H10,A10,Z8,S10,done++[y],its++[u10],n',vs++[v10],ys',?_,?_,f10,hd',n10,v5.append #v[r10],(e8.trans e9).trans e10,(er8.mono e9).mono e10,so10,?_,?_,h11]
        ·show(I10.pins_of (J':=[]) λp M=>(nomatch M)).turned (t':=s10.toks) (it:=D) hk' n10 hne (.inl exD) (λx cc z=>(ck.of z).elim (λq=>Pa (t x cc q)) (ownNe (OR _))) (λp M=>(nomatch M))
        ·show T.keep (i+1) s7.heap h' t7 λb d o eo=>hk' b o (Pa (O b d)) (k10 b d o eo)
        ·show(rl5.mono ((e58.trans e9).trans e10)).append #v[rl10]
        ·rw[hw5,Rc];rfl
       ·cases P
      ·cases P
     ·rename_i S9 h9;show a9 (bk.tst _ _ _ _ _ s8 Y8 H8 (λb l=>b=false/\∃G,Ext X.K A8 H8 G l/\wk X G l S9) I8 #[A8,Z8,S8,false,S9,er8,so8,h9,λb l #[z0,G,z1,z2]=>#[z0,G,z1,z2]]) λb s9 #[H9,I9,z0,A9,e9,so9]=>?_
      subst z0;rw[Pd P2];obtain⟨⟨d9,n9⟩,f9,k9⟩:=pDF I9;show#[k,Rq k,i+1,Y8,H9,A9,Z8,S9,done,its,nn,vs,ys,I9.pins_of λp M=>(nomatch M),T.keep (i+1) s7.heap _ t7 k9,f9,d9,n9,v5,e8.trans e9,er8.mono e9,so9,rl5.mono (e58.trans e9),hw5,P]
     ·cases P
    ·cases P
   ·cases P
 show codeAny_compStart_list loop (T.self X.A 0 _ _ _ t1 loop)
def mX {cl:Ow (OM×OF)}{ k :Pb}{g:FG}{f:FE}{A:Ow OF}
  {RR:Oy->OF->Vf->OB->Prop}
  (I:Inv X J Y H s) (hc:X.calm=true) (L:EnvRel X.K A H Z Y) (O:wk X A H S) (G:CompOk X scope cl N j) (bk:BlockOk X scope cl N tg k l g c f)
  (T:Turn X.prog X.w X.K tg h y it B) (P:B 0 s.heap) (u:∀b∈y,gw X J H b) (v:MIt X.w X.K mi h A H) (e:bj mi g c f n 0 (cr j Z) S=ba (ws,S')) (M:↥ws<=sizeLine)
  (fin:∀D C w d t vs m,w.heap.Ns C m->d D=gV->D≠C->C≠X.env.locals->C∉X.fs->d C=gV->⇑X.s₀.heap.objs<=C->(∀x c,X.env.cells.lookup x=ba c->c≠C)->(∀p∈X.pn++J,p.1≠C)->
   Inv X J Y (aW d D (.lst vs)) w->Ext X.K A H t d->wk X t d S'->RelL X.K t d ws vs->RR (.ref D) C (.ok .next) w) :
  wi X (newList []) (λi q=>wi X (newFunctionEnv scope X.env.globals cl [] X.env.qual gV .none (ba X.env)) (λa r=>
   codeAny (model X.prog X.w) X.A (.compStart (.ListComp k [#[tg,iter,l,0]] scope pos) 0 (.ref it) i {a with scope:=relabel scope X.env}) (RR i a.locals) r) E q) E s:=Qf (qw (DZ (s3:={s with heap:=s.heap.push (FB [] 0)}) I hc L O G bk T P u v e M fin rfl (QM ..) rfl rfl rfl (λb o z=>OA _ z) (OX _ rfl) rfl))
def qx {g:FG}{f:FE}(e:lD d g c f a Z S=ba (w,S')) :
  ∃mi S1 n b S2,d Z S=ba (mi,S1)/\mi.len S1=ba n/\bj mi g c f n 0 (cr a Z) S1=ba (b,S2)/\↥b<=sizeLine/\w=.ref ↥S2/\S'=S2++[.lst b]:=by
 unfold lD at e;split at e
 next mi S1 h=>
  split at e
  next n i=>
   split at e
   next b S2 j=>obtain⟨k,l,m⟩:=ku e;show#[mi,S1,n,b,S2,h,i,j,k,l,m]
   ·cases e
  ·cases e
 ·cases e
def D0 {i:Ow (Oz OH)}{k:Ow Pb}{g:FG}{f:FE}(hc:X.calm=true)(hi:GI X tg iter U)(B:X.Ok->∃cl,CompOk X scope cl N i/\BlockOk X scope cl N tg j k g c f)
  (hs:∀x,foldedSetIterable iter X.env x=pure x):GE X (.ListComp j [#[tg,iter,k,0]] scope pos) (lD U g c f i):=by
 intro J s Y H Q I ⟨A,Z,S,w,S',R,so,e,hq⟩;obtain⟨mi,S1,n,ys,S2,h1,h2,h3,h4,rfl,rfl⟩:=qx e;obtain⟨cl,l,bk⟩:=B I.ok;show Vl  rfl hs l.clos l.kind l.names (a9 (hi _ s Y H (λa h=>∃d,Ext X.K A H d h/\wk X d h S1/\MIt X.w X.K mi a d h) I #[A,Z,S,mi,S1,R,so,h1,λa h d z1 z2 z3=>#[d,z1,z2,z3]]) λv s1 q1=>a9 q1 λitv s2 q2=>?_)
 obtain⟨it,fp,tn,a,H2,rfl,V,T,t0,E,A2,P,M,L⟩:=q2;show mX  V hc (R.mono P) M l bk T t0 E L h3 h4 ?_;intro D C s' h d vs m hn z y p hCf r u q t W ex O rl;show#[m,hn,λh' G=>?_]
 have I4:Inv X _ Y _ {s' with heap:=h'}:=W.turned   (λb o hb eo=>G.extBut b o hb eo) (by rw[am (Ne.symm y)];show r) p (.inr u) q t
 show#[.ref D,_,I4,rfl,hq _ _ (EndV.after (P.trans ex) (.lst O rl z))]
def sO {g:FG}{f:FE}(hc:X.calm=true)(hi:GI X tg iter fi)(hck:X.Ok->∃cl,CompOk X scope cl N t/\BlockOk X scope cl N tg a d g c f)
  (hs:∀x,foldedSetIterable iter X.env x=pure x) (hsw:swapsWith (.ListComp a [#[tg,iter,d,0]] scope pos) (ba (.Name y py)) j.line X.env=pure true) (hN:X.N.Nodup) (hy:X.N[i]?=ba y) (hl:X.env.scope.names.lookup y=ba .local) :
  GS X (.Assign [.Name y py] (.ListComp a [#[tg,iter,d,0]] scope pos) j) (jA (lD fi g c f t) (Fw i)):=by
 intro J s Y H Dd I ⟨A,Z,S,o,S',V,so,e,hd⟩;unfold jA at e;split at e
 next w S0 h0=>
  simp only[Fw]at e;cases e;obtain⟨mi,S1,n,ys,S2,h1,h2,h3,h4,rfl,rfl⟩:=qx h0;obtain⟨cl,L,bk⟩:=hck I.ok;rw[exec_Assign_Name_used _ _ _ _ hsw];show Ox (Ue (Ox ?_));change wpAny _ X.A (do let _ <- comprehension (.ListComp a [#[tg,iter,d,0]] scope pos) scope X.env _ (newList []) false (eval iter X.env) (ba (assign (.Name y py) X.env))) _ _ s
  show Ox (P4 (Vl (use:=ba (assign (.Name y py) X.env)) (Q:=λ_ r=>SP X J Dd .next r) rfl hs L.clos L.kind L.names
   (a9 (hi J s Y H (λk h=>∃q,Ext X.K A H q h/\wk X q h S1/\MIt X.w X.K mi k q h) I #[A,Z,S,mi,S1,V,so,h1,λk h q z1 z2 z3=>#[q,z1,z2,z3]]) λv s1 q1=>a9 q1 λitv s2 q2=>?_)) (λ_ r hq=>OD (OD hq)) λ_ _ e=>e)
  obtain⟨it,fp,tn,k,H2,rfl,I2,T,t0,hfp,A2,e2,so2,mit⟩:=q2;show mX (RR:=λR C=>compPost (model X.prog X.w) X.A X.xe (ba (assign (.Name y py) X.env)) (λ_ r=>SP X J Dd .next r) R C) I2 hc (V.mono e2) so2 L bk T t0 hfp mit h3 h4 ?_
  intro D C r h q vs m hn hDn E u hCf B hCs hCc hCp I3 ex so3 rl;obtain⟨M,W,U,hoC,G,hrC⟩:=id hn;have O:Inv X (J++[(C,M)]) Y (aW h D (.lst vs)) r:=I3.pins_of λp l=>by
   rcases Px.mp l with l|l
   ·show I3.pin p (Pg _ l)
   ·have hp':p=(C,M):=by simpa using l
    subst hp';show#[hoC,by rw[am (Ne.symm E)];show B,u,hCf,λv z=>by rw[G]at z;cases z]
  change wpAny _ X.A (assign (.Name y py) X.env (.ref D)) _ _ _;show WO (ik O hN hy (.inl hl) (v:=.ref D) rfl (λs4 P=>?_) (.inr hl))
  have pC:=P.pin (C,M) (Pg _ (Pg _ (O3.mpr rfl)));show#[m,#[M,W,U,pC.1,G,hrC],λh' hs'=>?_]
  have I5:Inv X J (Y.set i (ba (.ref D))) (aW h D (.lst vs)) s4:=P.pins_of λp l=>P.pin p (Pg _ (PU _ l))
  have I6:Inv X J (Y.set i (ba (.ref D))) (aW h D (.lst vs)) {s4 with heap:=h'}:=I5.turned (t':=s4.toks) (it:=C) (λb o hb eo=>hs'.extBut b o hb eo) (by rw[am (Ne.symm E)];show B) u (.inr hCs) hCc hCp
  obtain⟨Af,f1,f2,f3⟩:=EndV.after (e2.trans ex) (EndV.lst so3 rl hDn);show#[_,_,I6,hd.nx _ _ #[_,Af,rfl,f1,f2,(V.mono f1).set f3 i]]
 ·cases e
end
open PySem.Builtin.SmallTypes (nextOf)
structure Zap (z p q i j:OF):Prop where
 pz:p≠z
 qz:q≠z
 iz:i≠z
 jz:j≠z
 pq:p≠q
 pi:p≠i
 pj:p≠j
 qi:q≠i
 qj:q≠j
 ij:i≠j
section
variable{prog:Pe}{w:Pk}
structure Zit (prog:Pe)(w:Pk)(it:OF)(T:OH->Pr->Prop)(C:Pr->Prop)(i:OH)(Uqa:Oz (Oy->Prop)):Prop where
 keep:∀j h h',T j h->(∀o,h.get? it=ba o->h'.get? it=ba o)->T j h'
 next:∀V,Uqa=ba V->∀(B:Pl) (s:OB) (Q:Oy->OB->Prop) (E:Oy->OB->Prop),T i s.heap->C s.heap->(∀u h' tk,V u->T (i+1) h'->Q5 it s.heap h'->Q u (ww s h' tk))->wpAny (model prog w) B (nextOf (.ref it)) Q E s
 stop:Uqa=gV->∀(B:Pl) (s:OB) (Q:Oy->OB->Prop) (E:Oy->OB->Prop),B.handled=gV->T i s.heap->C s.heap->(∀h' e,V3 it s.heap h'->(∃o,h'.get? e=ba o/\o.cls=.type "StopIteration")->E (.ref e) {s with heap:=h'})->wpAny (model prog w) B (nextOf (.ref it)) Q E s
variable{B:Pl}{E:Oy->OB->Prop}{s:OB}{z p q i1 i2:OF}{T1 T2:OH->Pr->Prop}{C1 C2:Pr->Prop}{i:OH}{a b:Oy}
abbrev Zc (z q i1 i2:OF)(C:Pr->Prop):Prop:=∀h h',C h->(∀c o,c≠z->c≠q->c≠i1->c≠i2->h.get? c=ba o->h'.get? c=ba o)->C h'
def lE {H :Oz (Oy->Prop)}{Q:Oy->OB->Prop}(D:Zap z p q i1 i2)(V:Zit prog w i1 T1 C1 i H)(Z2':∀A,H=ba A->Zit prog w i2 T2 C2 i U2)(k1:Zc z q i1 i2 C1)(k2:Zc z q i1 i2 C2)(hh:B.handled=gV)
  (P:Zj s.heap z p q .none) (hp:VF s.heap p (.ref i1) (.ref i2)) (hq:VF s.heap q a b) (t1:T1 i s.heap) (t2:T2 i s.heap) (c1:C1 s.heap) (c2:C2 s.heap)
  (hI:∀A J,H=ba A->U2=ba J->∀u v h' tk,A u->J v->Zj h' z p q (rawInt ⇑s.heap.objs)->VF h' q u v->T1 (i+1) h'->T2 (i+1) h'->VF h' ⇑s.heap.objs u v->
   (∀c o,c≠z->c≠q->c≠i1->c≠i2->s.heap.get? c=ba o->h'.get? c=ba o)->Q (.ref ⇑s.heap.objs) (ww s h' tk))
  (hE:H=gV\/U2=gV->∀h' tk e,(∀c o,c≠z->c≠q->c≠i1->c≠i2->s.heap.get? c=ba o->h'.get? c=ba o)->(∃o,h'.get? e=ba o/\o.cls=.type "StopIteration")->E (.ref e) (ww s h' tk)) :
  wpAny (model prog w) B (SY.«zip.__next__» #[[.ref z],[]]) (λfin s'=>∃v,fin=.done (.ret v)/\Q v s') E s:=by
 change wpAny _ _ (field (.ref z) 2 >>= _) _ _ s;show Ox (Qe P rfl (x:=.bool false) rfl ?_);show Ox (Qe P rfl  rfl (Ox (QN hp rfl ?_)));show Ox (Ox (Qe P rfl  rfl (OD ?_)));show Ox (Tz (Ox (Qe P rfl  rfl ?_)));show Ox (SG P (by simp) λg1 t s1=>?_)
 replace t:=t;show Ox ?_;delta List.zipIdx_cons List.zipIdx_nil Us VZ;show Ox (Ox (Wx ?_));change wpAny _ _ (nextOf (.ref i1) >>= _) _ _ _;have k:=λc o hc e=>s1.extBut c o hc e
 have T:=V.keep _ _ _ t1 λo e=>k _ _ D.iz e
 have M:=k1 _ _ c1 λc o hc _ _ _ e=>k c o hc e
 have fin:∀g tk it e,(it=i1\/it=i2)->H=gV\/U2=gV->Zj g z p q .ellipsis->(∀c o,c≠z->c≠q->c≠i1->c≠i2->s.heap.get? c=ba o->g.get? c=ba o)->(∃o,g.get? e=ba o/\o.cls=.type "StopIteration")->
   wpAny (model prog w) B (setField (.ref z) 0 .none) (λ_ s''=>E (.ref e) s'') E (ww s g tk):=λg tk it e _ hu gz kg #[oe,C,hc]=>by
  have ne:e≠z:=λx=>by subst x;rw[gz]at C;cases C;simp at hc
  show SG gz (by simp) λg' _ sb=>hE hu g' tk e (λc o d l h L x=>sb.extBut _ _ d (kg c o d l h L x)) #[oe,sb.extBut _ _ ne C,hc]
 cases j:H with
 |none=>
  show Ox (V.stop j _ _ _ _ hh T M λg2 e O C=>?_)
  show fin g2 s.toks i1 e (.inl rfl) (.inl j) (O _ _ D.iz.symm t) (λc o d _ h _ x=>O _ _ h (k c o d x)) C
 |some A=>
  have f:=Z2' A j;show Ox (V.next A j _ _ _ _ T M λu g2 tk2 hu t12 s2=>OD ?_)
  have q2:=s2.extBut _ _ D.qi (k _ _ D.qz hq);show Ox (QN q2 rfl (Ox (Wa q2 λg3 q3 s3=>?_)))
  replace q3:=q3;show Ox (TM (OD ?_));show Ox (Ox (Wx ?_));change wpAny _ _ (nextOf (.ref i2) >>= _) _ _ _;have n:=λc o d l h x=>s3.extBut _ _ l (s2.extBut _ _ h (k c o d x))
  have X:=s3.extBut _ _ D.qz.symm (s2.extBut _ _ D.iz.symm t);have U:=f.keep _ _ _ t2 λo e=>n _ _ D.jz D.qj.symm D.ij.symm e
  have N:=k2 _ _ c2 λc o d l h _ e=>n c o d l h e
  cases m:U2 with
  |none=>
   show Ox (f.stop m _ _ _ _ hh U N λg4 e O C=>?_)
   show fin g4 tk2 i2 e (.inr rfl) (.inr m) (O _ _ D.jz.symm X) (λc o d l h L x=>O _ _ L (n c o d l h x)) C
  |some J=>
   show Ox (f.next J m _ _ _ _ U N λv g4 tk4 hv t24 R=>OD ?_)
   have q4:=R.extBut _ _ D.qj q3;show Ox (QN q4 rfl (Ox (Wa q4 λI Z S=>?_)))
   replace Z:VF I q u v:=Z;show Ox (TM (OD (OD ?_)));show Ox (QN Z rfl (Ox (V7 ?_)));have sz:⇑I.objs=⇑s.heap.objs:=by rw[S.1,R.1,s3.1,s2.1,s1.1]
   have Y:=S.extBut _ _ D.qz.symm (R.extBut _ _ D.jz.symm X);have t15:=V.keep _ _ _ t12 λo e=>S.extBut _ _ D.qi.symm (R.extBut _ _ D.ij (s3.extBut _ _ D.qi.symm e))
   have t25:=f.keep _ _ _ t24 λo e=>S.extBut _ _ D.qj.symm e
   have W:=O4 Y;change wpAny _ _ (Tk (.ref z) (.ref ⇑I.objs) >>= _) _ _ _;show Ox ?_;delta Tk;have zz6:Zj (I.push {cls:=.type "tuple",data:=.seq [u,v].toArray}) z p q .ellipsis:=OA _ Y;show Ox (SG zz6 (by simp) λg7 G s7=>?_)
   replace G:=G;show SG G (by simp) λg8 y s8=>?_
   replace y:=y;have r:∀c o,c≠z->I.get? c=ba o->g8.get? c=ba o:=λc o hc e=>s8.extBut _ _ hc (s7.extBut _ _ hc (OA _ e))
   have n8:=s8.extBut _ _ (PZ W) (s7.extBut _ _ (PZ W) (OX _ rfl));rw[sz]at y n8;show OD #[_,rfl,?_];change Q (.ref ⇑I.objs) _;rw[sz];show hI A J j m u v g8 tk4 hu hv y (r _ _ D.qz Z) (V.keep _ _ _ t15 λo e=>r _ _ D.iz e) (f.keep _ _ _ t25 λo e=>r _ _ D.jz e) n8 λc o d l h L e=>r c o d (S.extBut _ _ l (R.extBut _ _ L (n c o d l h e)))
end
open PySem.Builtin.SmallTypes (nextOf)
abbrev dP (prog:Pe)(w:Pk)(v:Oy)(o:Qq)(C:Pr->Prop):Prop:=∀(B:Pl) (s:OB) (Q:Oy->OB->Prop) (E:Oy->OB->Prop),C s.heap->Q (.ref ⇑s.heap.objs) {s with heap:=s.heap.push o}->wpAny (model prog w) B (pyIter v) Q E s
abbrev KM (h:Pr)(a b:Qq):Pr:=(h.push a).push b
abbrev KN (h:Pr)(a b:Qq):Pr:=(KM h a b).push {cls:=.type "tuple",data:=.seq [.ref ⇑h.objs,.ref (h.push a).objs.size].toArray}
abbrev KO (h:Pr)(a b:Qq):Pr:=(KN h a b).push {cls:=.type "tuple",data:=.seq [.none,.none].toArray}
abbrev FC (h:Pr)(a b:Qq):Pr:=(KO h a b).push {cls:=.type "zip",data:=.fields [.none,.bool false,.bool false,.ref (KM h a b).objs.size,.ref (KN h a b).objs.size].toArray}
variable{B:Pl}
section
variable{w:Pk}{E:Oy->OB->Prop}{s:OB}{v1 v2:Oy}{o1 o2:Qq}{C1 C2:Pr->Prop}
def sP (i:dP prog w v1 o1 C1)(j:dP prog w v2 o2 C2)(k2:∀h o,C2 h->C2 (h.push o)) :
  MeetsIn prog w (SY.«zip.__new__» #[[.type "zip",v1,v2],[]]) (λ_ R s=>C1 s.heap/\C2 s.heap/\R (.ok (.ret (.ref (KO s.heap o1 o2).objs.size))) {s with heap:=FC s.heap o1 o2}):=
 .of_wp λA R s h=>by
  obtain⟨k,g,d,tk,os⟩:=s;obtain⟨b,c,h⟩:=h;have a:=sub_zip;have e:=λB Q E q=>i B _ Q E b q
  have f:=λB Q E q=>j B #[k.push o1,g,d,tk,os] Q E (k2 _ _ c) q
  wp_walk using e _ _ _,f _ _ _
  show#[_,rfl,h]
def z9 (p:dP prog w v1 o1 C1)(q:dP prog w v2 o2 C2)(k2:∀h o,C2 h->C2 (h.push o))(k:C1 s.heap)(l:C2 s.heap)(r:o1.isFreed=false)(t:o2.isFreed=false)
  (h:∀h',Zj h' (⇑s.heap.objs+4) (⇑s.heap.objs+2) (⇑s.heap.objs+3) .none->VF h' (⇑s.heap.objs+2) (.ref ⇑s.heap.objs) (.ref (⇑s.heap.objs+1))->VF h' (⇑s.heap.objs+3) .none .none->
   h'.get? ⇑s.heap.objs=ba o1->h'.get? (⇑s.heap.objs+1)=ba o2->⇑h'.objs=⇑s.heap.objs+5->(∀c o,s.heap.get? c=ba o->h'.get? c=ba o)->Q (.ref (⇑s.heap.objs+4)) {s with heap:=h'}) :
  wpAny (model prog w) B (call (.type "zip") [v1,v2]) Q E s:=by
 show Ys F.called_zip #v[] (F.typeCall_zip_2 _ _) (F.newCall_zip_2 _ _) (λobj=>F.args_object_init_3 obj _ _) F.entry_zip_new (sP p q k2) #[k,l,?_]
 have a:(s.heap.push o1).objs.size=⇑s.heap.objs+1:=QM ..;have b:(KM s.heap o1 o2).objs.size=⇑s.heap.objs+2:=by unfold KM;rw[QM,a]
 have d:(KN s.heap o1 o2).objs.size=⇑s.heap.objs+3:=by unfold KN;rw[QM,b]
 have e:(KO s.heap o1 o2).objs.size=⇑s.heap.objs+4:=by unfold KO;rw[QM,d]
 have m:(FC s.heap o1 o2).objs.size=⇑s.heap.objs+5:=by unfold FC;rw[QM,e]
 have f:(FC s.heap o1 o2).get? (KO s.heap o1 o2).objs.size=ba _:=OX _ rfl;have j:(FC s.heap o1 o2).get? (KN s.heap o1 o2).objs.size=ba _:=OA _ (OX _ rfl);have i:(FC s.heap o1 o2).get? (KM s.heap o1 o2).objs.size=ba _:=OA _ (OA _ (OX _ rfl));have g:(FC s.heap o1 o2).get? (s.heap.push o1).objs.size=ba o2:=OA _ (OA _ (OA _ (OX _ t)));have n:(FC s.heap o1 o2).get? ⇑s.heap.objs=ba o1:=OA _ (OA _ (OA _ (OA _ (OX _ r))));rw[b,d,e]at f;rw[a,b]at i;rw[d]at j;rw[a]at g;change _/\_;rw[e];show#[#[_,f,rfl],h _ f i j n g m λc o x=>OA _ (OA _ (OA _ (OA _ (OA _ x))))]
end
open PySem.Builtin.SmallTypes (nextOf)
section
variable{w:Pk}{E:Oy->OB->Prop}{s:OB}
def KP (hit:s.heap.IsTupleIter it t i)(ht:s.heap.IsTuple t items)(e:items[i]?=ba x)
  (d:∀h',h'.IsTupleIter it t (i+1)->Q5 it s.heap h'->Q x {s with heap:=h'}):wh prog w A (nextOf (.ref it)) Q E s:=by
 obtain⟨o,a,hc,hd⟩:=id hit;obtain⟨g,c,_,f,b⟩:=ht;show Ox (P6  hit.typeIs F.slot_tuple_iterator_next (Qt F.slot_tuple_iterator_next hit.typeIs F.entry_tuple_iterator_next ?_ (F.args_tuple_iterator_next_1 _)));change wpAny _ _ (field _ 0 >>= _) _ _ s;show Ox (Qe a hd  rfl ?_);change wpAny _ _ _ _ _ s;show Ox (Qe a hd  rfl (Ox (QN c b ?_)));revert Pi e;show Ox (Sl a hd (by simp) (OD #[x,rfl,OD (d _ #[_,P8 _ a (T6 (RY hd _)),(W7 ..).trans hc,?_] (RH ..))]))
 rw[RY hd];simp[rawInt]
def KQ (d:A.handled=gV)(hit:s.heap.IsTupleIter it t i)(ht:s.heap.IsTuple t items)(g:items[i]?=gV)
  (f:∀h' e,V3 it s.heap h'->(∃o,h'.get? e=ba o/\o.cls=.type "StopIteration")->E (.ref e) {s with heap:=h'}):wh prog w A (nextOf (.ref it)) Q E s:=by
 obtain⟨o,b,hc,hd⟩:=id hit;obtain⟨j,c,_,h,a⟩:=ht;show Ox (P6  hit.typeIs F.slot_tuple_iterator_next (Qt F.slot_tuple_iterator_next hit.typeIs F.entry_tuple_iterator_next ?_ (F.args_tuple_iterator_next_1 _)));change wpAny _ _ (field _ 0 >>= _) _ _ s;show Ox (Qe b hd  rfl ?_);change wpAny _ _ _ _ _ s;show Ox (Qe b hd  rfl (Ox (QN c a ?_)));revert Pi g;show Ox (Tz (Ox (Sl b hd (by simp) ?_)))
 show Ox ?_;show Ox (Qf ?_ (by size_fits))
 show Ox  (U8  (by first|rfl|(rfl)) (Qf ?_ (by size_fits)))
 show Ox (YI ?_)
 first|rw[d]|rw[d]
 show Ox (OD (Zi (f _ _ (((RH ..).extBut.push _).push _) #[_,OX _ rfl,rfl])))
end
inductive Zs where|tup (a:OF)|lst (a:OF)
abbrev Zs.T (it:OF):Zs->OH->Pr->Prop
 |.tup a,i,h=>h.IsTupleIter it a i
 |.lst a,i,h=>h.IsListIter it a i
abbrev Zs.at (K:OI)(H:Hp)(i:OH)(v:V):Zs->Prop
 |.tup a=>∃xs,SqT K H a xs/\xs[i]?=ba v
 |.lst a=>∃xs,SqL K H a xs/\xs[i]?=ba v
abbrev Zs.out (K:OI)(H:Hp)(i:OH):Zs->Prop
 |.tup a=>∃xs,SqT K H a xs/\↥xs<=i
 |.lst a=>∃xs,SqL K H a xs/\↥xs<=i
def Zs.keep {S:Zs}(t:S.T it j h)(k:∀o,h.get? it=ba o->h'.get? it=ba o):S.T it j h':=by
 cases S with
 |tup a=>show t.at k
 |lst a=>show t.at k
section
variable{s:OB}
def Aa (I:Inv X J Y H s)(h:X.K.lookup a=ba o)(f:gw X J H b):a≠b:=λz=>by
 subst z;have c:=I.ok.mod.kin a o h;rcases f.2.2.2.1 with q|q
 ·show I.ok.noex a o c q
 ·show absurd (Pf (O4 (I.ok.bs a o c).1) q) (P7 _)
end
open PySem.Builtin.SmallTypes (nextOf)
variable{h':Pr}
section
variable{s:OB}
def Ab (h:Rd H a u)(f:H b=gV):a≠b:=λz=>by
 subst z;rcases h with h|⟨o,h⟩<;>(rw[f]at h;cases h)
def Inv.turnedL {ch:Ow OF}(I:Inv X J Y H s)(k:∀b o,b∉ch->s.heap.get? b=ba o->h'.get? b=ba o)(hf:∀b∈ch,gw X J H b):Inv X J Y H (ww s h' t'):=by
 have a:∀b u,H b=ba u->b∉ch:=λb u e z=>by have:=(hf b z).1;rw[e]at this;cases this
 show I.step (g':=s.gens) (d':=s.drawn) (ch:=ch) (λb j=>?_) (λb o _ _ hc e _=>k b o hc e) (λb o _ _ hc e _=>#[o.slots,k b o hc e]) (λ_ _ _ _ n=>n) (λb o hc e=>#[o,k b o hc e]) (λ_ _ e=>e) (λ_ _ _ e=>e) (λb ps e=>#[#[],by rw[e];simp]) (λm l=>?_) (λb u e=>?_) I.bare
 ·obtain⟨_,f,_,g,h,i⟩:=hf b j;show#[g,f,h,i]
 ·obtain⟨o,es,d,p,r⟩:=l;show#[o,es,d,k _ o (λz=>(hf _ z).2.1 rfl) p,r]
 ·show(I.hok b u e).stay (λc v hc q=>k c v ?_ q) (λ_ q=>q) λ_ _ q=>q
  rcases hc with z|z
  ·rw[z];show a b u e
  ·show a c _ z
def Zs.zit {S:Zs}{Uqa:Oz V}(I:Inv X J Y H s)(hf:∀b∈[z,q,i1,f],gw X J H b)(g:match Uqa with|some v=>S.at X.K H i v|none=>S.out X.K H i) :
  ∃C,Zit X.prog X.w it (S.T it) C i (Uqa.map λv u=>RelV v u)/\C s.heap/\Zc z q i1 f C:=by
 have W:∀(a:OF) (P:Pr->Prop),(∀h h',P h->(∀o,h.get? a=ba o->h'.get? a=ba o)->P h')->(∀b∈[z,q,i1,f],a≠b)->Zc z q i1 f P:=λa P Z D h h' p k=>
  Z h h' p λo e=>k a o (D z (by simp)) (D q (by simp)) (D i1 (by simp)) (D f (by simp)) e
 have sep:∀{a:OF}{u:HO}{o:Qq}{b:OF},(Rd H a u\/X.K.lookup a=ba o)->b∈[z,q,i1,f]->a≠b:=λh d=>h.elim (λr=>Ab r (hf _ d).1) λr=>Aa I r (hf _ d)
 cases S with
 |tup a=>
  obtain⟨xs,n,w⟩:∃xs,SqT X.K H a xs/\(match Uqa with|some v=>xs[i]?=ba v|none=>↥xs<=i):=by
   cases Uqa<;>show g
  obtain⟨its,y,p,_⟩:=I.tuple n;have l:∀b∈[z,q,i1,f],a≠b:=λb d=>by
   rcases n with r|⟨o,_,_,r,_⟩
   ·show Ab r (hf b d).1
   ·show Aa I r (hf b d)
  show#[λh=>h.IsTuple a its.toArray,#[λj h h' t k=>Zs.keep (S:=.tup a) t k,λV m B A Q E t c L=>?_,λM B A Q E N t c G=>?_],p,W a _ (λh h' #[o,e,r] k=>#[o,k _ e,r]) l]
  ·cases Uqa with
   |none=>cases m
   |some v=>
    cases m;obtain⟨u,O,T⟩:=y.get w;show KP t c (x:=u) (by simpa using O) λh' t' U=>L u h' A.toks T t' U
  ·cases Uqa with
   |some v=>cases M
   |none=>
    have:=L2.Vals.length y;have R:↥xs<=i:=w;show KQ N t c (by simp;omega) G
 |lst a=>
  obtain⟨xs,n,w⟩:∃xs,SqL X.K H a xs/\(match Uqa with|some v=>xs[i]?=ba v|none=>↥xs<=i):=by
   cases Uqa<;>show g
  obtain⟨its,y,p,_⟩:=I.list n;have l:∀b∈[z,q,i1,f],a≠b:=λb d=>by
   rcases n with r|⟨o,_,_,r,_⟩
   ·show Ab r (hf b d).1
   ·show Aa I r (hf b d)
  show#[λh=>h.IsList a its.toArray,#[λj h h' t k=>Zs.keep (S:=.lst a) t k,λV m B A Q E t c L=>?_,λM B A Q E N t c G=>?_],p.isList,W a _ (λh h' #[o,e,r] k=>#[o,k _ e,r]) l]
  ·cases Uqa with
   |none=>cases m
   |some v=>
    cases m;obtain⟨u,O,T⟩:=y.get w;show wpAny_nextOf_list_item t c (x:=u) (by simpa using O) λh' t' U=>L u h' A.toks T t' U
  ·cases Uqa with
   |some v=>cases M
   |none=>
    have:=L2.Vals.length y;have R:↥xs<=i:=w;show wpAny_nextOf_list_end N t c (by simp;omega) G
end
abbrev Zs.is (K:OI)(H:Hp)(i:OH)(v:V):Zs->Prop
 |.tup a=>∀xs,SqT K H a xs->xs[i]?=ba v
 |.lst a=>∀xs,SqL K H a xs->xs[i]?=ba v
def Zs.at_is {S:Zs}(I:Inv X J Y H s)(h:S.at X.K H i v):S.is X.K H i v:=by
 cases S with
 |tup a=>obtain⟨xs,b,c⟩:=h;show λe d=>by rw[I.tuple_inj d b];show c
 |lst a=>obtain⟨xs,b,c⟩:=h;show λe d=>by rw[I.list_inj d b];show c
abbrev Ms (K:OI)(S1 S2:Zs):It:=
 #[λi H=>∃x y,S1.at K H i x/\S2.at K H i y,λi H v a=>∃p x y,S1.is K H i x/\S2.is K H i y/\v=.ref p/\H p=gV/\a=aW H p (.tup [x,y]),λi H=>S1.out K H i\/(∃x,S1.at K H i x)/\S2.out K H i]
def Ac {K:OI}{V:Ow Pb}{ p   :OF}(D:Zap z p q i1 l) :
  Turn P w K (.Tuple V k0 tp) (Ms K S1 S2) [z,p,q,i1,l] z (λi h=>Zj h z p q .none/\VF h p (.ref i1) (.ref l)/\(∃a b,VF h q a b)/\S1.T i1 i h/\S2.T l i h) where
 mem:=by simp
 obj:=λi h #[a,b,#[u,v,c],d,e] b' f=>by
  have it:∀{S:Zs}{it:OF},S.T it i h->∃o,h.get? it=ba o/\∀v,o.data≠.cell v:=λ{S it} t=>by
   cases S with
   |tup a=>obtain⟨o,e,_,d⟩:=t;show#[o,e,λv z=>by rw[d]at z;cases z]
   |lst a=>obtain⟨o,e,_,d⟩:=t;show#[o,e,λv z=>by rw[d]at z;cases z]
  simp only[O2,PL,Q9]at f;rcases f with rfl|rfl|rfl|rfl|rfl
  ·show#[_,a,λv z=>by cases z]
  ·show#[_,b,λv z=>by cases z]
  ·show#[_,c,λv z=>by cases z]
  ·show it d
  ·show it e
 keep:=λi h h' #[a,b,#[u,v,c],d,e] k=>#[k z (by simp) _ a,k p (by simp) _ b,#[u,v,k q (by simp) _ c],Zs.keep d (k i1 (by simp)),Zs.keep e (k l (by simp))]
 item:=by
  intro X W hw hK hc i J s Y H E I hf st hg;subst W hw hK;obtain⟨x,y,A,O⟩:=hg;obtain⟨a,b,⟨u,v,c⟩,d,e⟩:=st;have j:∀b∈[z,q,i1,l],gw X J H b:=λb f=>hf b (by simp only[O2,PL,Q9]at f ⊢;rcases f with h|h|h|h<;>simp[h])
  obtain⟨C1,N,B,k1⟩:=Zs.zit (it:=i1) (Uqa:=ba x) I j A;obtain⟨C2,n,R,k2⟩:=Zs.zit (it:=l) (Uqa:=ba y) I j O;have G:s.TypeIs (.ref z) "zip":=#[_,a,rfl];unfold pyNext;show Ox (RP (P6 (name:=UC "__next__") G F.slot_zip_next (Qt F.slot_zip_next G F.entry_zip_next ?_ (F.args_zip_next_1 _))));show lE D N (λ_ _=>n) k1 k2 (I.ok.hd hc) a b c d e B R (λQ V2 C U u1 u2 g tk r1 r2 zg qg t1 t2 ng kp=>?_) (λz=>by rcases z with z|z<;>cases z)
  cases C;cases U;show OD #[_,rfl,?_];show wpAny_letOwnedTupleGo_zip (s:=(ww s g tk)) zg λg' zg' M=>?_
  have N0:H ⇑s.heap.objs=gV:=I.hok.fresh (OR _);have lt:∀{b:OF},b∈[z,p,q,i1,l]->⇑s.heap.objs≠b:=λ{b} f=>by
   have:∃o,s.heap.get? b=ba o:=by
    have it:∀{S:Zs}{it:OF},S.T it i s.heap->∃o,s.heap.get? it=ba o:=λ{S it} t=>by
     cases S with
     |tup a=>obtain⟨o,e,_⟩:=t;show#[o,e]
     |lst a=>obtain⟨o,e,_⟩:=t;show#[o,e]
    simp only[O2,PL,Q9]at f;rcases f with rfl|rfl|rfl|rfl|rfl
    ·show#[_,a]
    ·show#[_,b]
    ·show#[_,c]
    ·show it d
    ·show it e
   obtain⟨o,e⟩:=this;show PZ (O4 e)
  have up:∀b o,b∉[z,q,i1,l]->s.heap.get? b=ba o->g'.get? b=ba o:=λb o f e=>by
   simp only[O2,PL,Q9,V0]at f;show M.extBut _ _ f.1 (kp b o f.1 f.2.1 f.2.2.1 f.2.2.2 e)
  have I1:Inv X J Y H (ww s g' tk):=Mi.Inv.turnedL I up j
  have L:VF g' ⇑s.heap.objs u1 u2:=M.extBut _ _ (lt (by simp)) ng
  have I2:Inv X J Y (aW H ⇑s.heap.objs (.tup [x,y])) (ww s g' tk):=by
   show Mi.Inv.adopt I1 N0 (.inr I.sz) (PZ I.lt) (λw c e=>?_) (λp hp=>?_) #[#[by change 2<=sizeLine;decide,#[_,L,rfl]],[u1,u2],.cons r1 #v[r2],#[_,L,rfl,0,rfl]]
   ·obtain⟨v,q⟩:=I.cell w c e;show Pa q.lt
   ·show Pa (O4 (I.pin p hp).1)
  show#[.ref ⇑s.heap.objs,_,I2,rfl,#[⇑s.heap.objs,x,y,Zs.at_is I A,Zs.at_is I O,rfl,N0,rfl],#[zg',up p _ ?_ b,#[u1,u2,M.extBut _ _ D.qz qg],Zs.keep t1 λo e=>M.extBut _ _ D.iz e,Zs.keep t2 λo e=>M.extBut _ _ D.jz e],λb f=>?_]
  ·revert O2 PL Q9 V0;show#[D.pz,D.pq,D.pi,D.pj]
  ·rw[am (Ne.symm (lt f))];show(hf b f).1
 done:=by
  intro X W hw hK hc i J s Y H E I hf st hg;subst W hw hK;obtain⟨a,b,⟨u,v,c⟩,d,e⟩:=st;have j:∀b∈[z,q,i1,l],gw X J H b:=λb f=>hf b (by simp only[O2,PL,Q9]at f ⊢;rcases f with h|h|h|h<;>simp[h])
  have G:s.TypeIs (.ref z) "zip":=#[_,a,rfl];unfold pyNext;show Ox (RP (P6 (name:=UC "__next__") G F.slot_zip_next (Qt F.slot_zip_next G F.entry_zip_next ?_ (F.args_zip_next_1 _))));have m:∀h' tk e,(∀c o,c≠z->c≠q->c≠i1->c≠l->s.heap.get? c=ba o->h'.get? c=ba o)->(∃o,h'.get? e=ba o/\o.cls=.type "StopIteration")->
    wi X (do if <- isInstance (.ref e) (.type "StopIteration")then pure (gV:Oz Oy)else throw (.ref e)) (λr s1=>r=gV/\Inv X J Y H s1) E (ww s h' tk):=λh' tk e k #[o,ho,hc]=>
   Ox (T9 (T:="StopIteration") (b:=true) #[o,ho,hc] V4 (OD #[rfl,Mi.Inv.turnedL I (λb o f e=>by
    simp only[O2,PL,Q9,V0]at f;show k b o f.1 f.2.1 f.2.2.1 f.2.2.2 e) j]))
  rcases hg with A|⟨⟨x,A⟩,O⟩
  ·obtain⟨C1,N,B,k1⟩:=Zs.zit (it:=i1) (Uqa:=gV) I j A;show lE (U2:=gV) D N (λQ C=>by cases C) k1 (C2:=λ_=>Yw) (λ_ _ _ _=>trivial) (I.ok.hd hc) a b c d e B trivial (λQ V2 C _=>by cases C) λ_ h' tk e k Z=>m h' tk e k Z
  ·obtain⟨C1,N,B,k1⟩:=Zs.zit (it:=i1) (Uqa:=ba x) I j A;obtain⟨C2,n,R,k2⟩:=Zs.zit (it:=l) (Uqa:=gV) I j O;show lE D N (λ_ _=>n) k1 k2 (I.ok.hd hc) a b c d e B R (λQ V2 _ U=>by cases U) λ_ h' tk e k Z=>m h' tk e k Z
 self:=λ_ _ _ _ _ st h=>Xx st.1 h
abbrev HP:W->Oz (Ow W)
 |.tup xs=>ba xs
 |_=>gV
abbrev Ad (f:FA):FI:=λZ S=>match f Z S with
 |some ([x,y],S1)=>match HP x,HP y with
  |some xs,ba a=>ba (.its (iJ xs a),S1)
  |_,_=>match x,y with
   |.ref r,.ref q=>match gy S1 r,gy S1 q with
    |some _,ba _=>ba (.zl r q,S1)
    |_,_=>gV
   |_,_=>gV
 |_=>gV
section
variable{s:OB}{A:Ow OF}
abbrev ZRel (K:OI)(A:Ow OF)(H:Hp)(xs:Ow W):Zs->Prop
 |.tup a=>∃vs,SqT K H a vs/\RelL K A H xs vs
 |.lst a=>P0
def ZRel.mono {K:OI}{S:Zs}(e:Ext K A H b c)(h:ZRel K A H xs S):ZRel K b c xs S:=by
 cases S with
 |tup a=>obtain⟨vs,d,f⟩:=h;show#[vs,e.tp _ _ d,f.mono e]
 |lst a=>show h
def ZRel.at {K:OI}{S:Zs}(h:ZRel K A H xs S)(hi:xs[i]?=ba w):∃v,S.at K H i v/\Rel K A H w v:=by
 cases S with
 |tup a=>obtain⟨vs,b,c⟩:=h;obtain⟨v,d,e⟩:=c.get hi;show#[v,#[vs,b,d],e]
 |lst a=>show h.elim
def ZRel.is {K:OI}{S:Zs}(h:ZRel K A H xs S)(hi:xs[i]?=ba w)(z:S.is K H i v):Rel K A H w v:=by
 obtain⟨d,b,c⟩:=h.at hi;cases S with
 |tup a=>
  obtain⟨vs,q,e⟩:=b;have:=z vs q;rw[e]at this;cases this
  show c
 |lst a=>show h.elim
def ZRel.out {K:OI}{S:Zs}(h:ZRel K A H xs S)(hi:↥xs<=i):S.out K H i:=by
 cases S with
 |tup a=>obtain⟨vs,b,c⟩:=h;show#[vs,b,by rw[<- ↥c];show hi]
 |lst a=>show h.elim
def qA (h:(iJ xs a)[i]?=ba w):∃x y,xs[i]?=ba x/\a[i]?=ba y/\w=.tup [x,y]:=by
 unfold iJ at h;rw[Qa]at h;split at h
 next x y b c=>cases h;show#[x,y,b,c,rfl]
 ·cases h
def D1 (b:ZRel X.K A H xs S1)(g:ZRel X.K A H l S2):MIt X.w X.K (.its (iJ xs l)) (Ms X.K S1 S2) A H:=by
 show#[λc d S i w e k hi=>?_,λc d S i e k hi=>?_]
 ·simp only[MI.at,Pp]at hi;obtain⟨x,y,h,j,rfl⟩:=qA hi;obtain⟨v,f,r⟩:=(b.mono e).at h;obtain⟨u,m,s⟩:=(g.mono e).at j;show#[#[v,u,f,m],λp q #[a,v',u',q1,q2,hp,hn,hH]=>?_]
  subst hp hH;have ex:Ext X.K c d c (aW d a (.tup [v',u'])):=bx (.inl hn);show#[ex,k.lay hn,.tup (.of au) #v[((b.mono e).is h q1).mono ex,((g.mono e).is j q2).mono ex]]
 ·simp only[MI.at,Pp,QT,iJ,PM]at hi
  by_cases n:↥xs<=i
  ·show .inl ((b.mono e).out n)
  ·have o:i<↥xs:=∅
   obtain⟨v,f,_⟩:=(b.mono e).at (ON o);show .inr #[#[v,f],(g.mono e).out ∅]
def Ae (t:A[r]?=ba a)(z:A[q]?=ba b):MIt X.w X.K (.zl r q) (Ms X.K (.lst a) (.lst b)) A H:=by
 show#[λk l S i w e d hi=>?_,λk l S i e d hi=>?_]
 ·simp only[MI.at]at hi;split at hi
  next xs J m o=>
   simp only[Pp]at hi;obtain⟨x,y,D,E,rfl⟩:=qA hi;obtain⟨vs,f,j⟩:=bq d m (e.ad _ _ t);obtain⟨us,h,s⟩:=bq d o (e.ad _ _ z);obtain⟨v,g,G⟩:=j.get D;obtain⟨u,B,I⟩:=s.get E;show#[#[v,u,#[vs,f,g],#[us,h,B]],λp L #[c,v',u',z1,z2,hp,hn,hH]=>?_]
   subst hp hH;have C:=z1 vs f;rw[g]at C;cases C
   have t2:=z2 us h;rw[B]at t2;cases t2
   have ex:Ext X.K k l k (aW l c (.tup [v,u])):=bx (.inl hn);show#[ex,d.lay hn,.tup (.of au) #v[G.mono ex,I.mono ex]]
  ·cases hi
 ·simp only[MI.at]at hi;split at hi
  next xs J m o=>
   simp only[Pp,QT,iJ,PM]at hi;obtain⟨vs,f,j⟩:=bq d m (e.ad _ _ t);obtain⟨us,h,s⟩:=bq d o (e.ad _ _ z)
   by_cases hl:↥xs<=i
   ·show .inl #[vs,f,by rw[<- ↥j];show hl]
   ·have n:i<↥xs:=∅
    obtain⟨v,g,_⟩:=j.get (ON n);show .inr #[#[v,vs,f,g],us,h,by rw[<- ↥s];omega]
  ·cases hi
def oK (I:Inv X J Y H s)(r:Rel X.K A H x v)(i:RelV v u)(e:HP x=ba xs) :
  ∃ S o C,ZRel X.K A H xs S/\dP X.prog X.w u o C/\C s.heap/\(∀h o,C h->C (h.push o))/\o.isFreed=false/\∀it h,h.get? it=ba o->S.T it 0 h:=by
 cases r with
 |@tup ws a vs b g=>
  cases e;obtain⟨its,j,p,_⟩:=I.tuple b;obtain rfl:u=Ps a:=i;show#[.tup a,{cls:=.type "tuple_iterator",data:=.fields [.ref a,.int 0 0].toArray},λh=>h.IsTuple a its.toArray,#[vs,b,g],λB s Q E c d=>UQ c d,p,λh o #[f,e,r]=>#[f,OA _ e,r],rfl,λit h e=>#[_,e,rfl,rfl]]
 |_=>cases e
def Ag:bootBuiltins "zip" = ba (.type "zip"):=rfl
def uQ (I:Inv X J Y H s)(g:RelV (.ref a) u)(d:SqL X.K H a xs) :
  ∃ o C,dP X.prog X.w u o C/\C s.heap/\(∀h o,C h->C (h.push o))/\o.isFreed=false/\∀it h,h.get? it=ba o->(Zs.lst a).T it 0 h:=by
 obtain⟨its,i,p,_⟩:=I.list d;obtain rfl:u=Ps a:=g;show#[{cls:=.type "list_iterator",data:=.fields [.ref a,.int 0 0].toArray},λh=>h.IsList a its.toArray,λB s Q E c b=>SQ c b,p.isList,λh o #[f,e,r]=>#[f,OA _ e,r],rfl,λit h e=>#[_,e,rfl,rfl]]
def HQ {C:Ow Pb}{f:FA}(hg:Gl X "zip")(hm:X.mg "zip" = gV)(ha:GA X [a,b] f)(hs:starEach [a,b] X.env=[(false,eval a X.env),(false,eval b X.env)])(G:starEach [b] X.env=[(false,eval b X.env)]) :
  GI X (.Tuple C k0 tp) (.Call (.Name "zip" p) [a,b] [] pos) (Ad f):=by
 intro J s Y H R I ⟨A,Z,S,mi,S',er,so,e,hq⟩;have fin:∀{c:OB}{i:Hp}{u v:Oy}{m n:Zs}{j k:Qq}{l g:Pr->Prop},Inv X J Y i c->dP X.prog X.w u j l->l c.heap->j.isFreed=false->(∀it h,h.get? it=ba j->m.T it 0 h)->dP X.prog X.w v k g->g c.heap->(∀h o,g h->g (h.push o))->k.isFreed=false->(∀it h,h.get? it=ba k->n.T it 0 h)->R (Ms X.K m n) i->
   wi X (call (.type "zip") [u,v]) (λv s=>wi X (pyIter v) (J4 X J Y (.Tuple C k0 tp) R) X.xe s) X.xe c:=λ{c i u v m n j k l g} d L w O Q M B N P T hR=>by
  show z9 L M N w B O P λh' hz hp U g1 g2 hsz kp=>?_
  have I2:Inv X J Y i {c with heap:=h'}:=d.kept (t':=c.toks) kp
  show Xx (s:={c with heap:=h'}) hz ?_
  have D:Zap (⇑c.heap.objs+4) (⇑c.heap.objs+2) (⇑c.heap.objs+3) ⇑c.heap.objs (⇑c.heap.objs+1):=by constructor<;>(intro z;simp at z)
  show#[⇑c.heap.objs+4,_,_,_,i,rfl,I2,Ac (S1:=m) (S2:=n) D,#[hz,hp,#[_,_,U],Q _ _ g1,T _ _ g2],λb hb=>?_,hR]
  have E:⇑c.heap.objs<=b:=by
   simp only[O2,PL,Q9]at hb;rcases hb with rfl|rfl|rfl|rfl|rfl
   ·show QC _ _
   ·show QC _ _
   ·show QC _ _
   ·show OR _
   ·show QC _ _
  show d.fpOk E (d.hok.fresh E)
 unfold Ad at e;split at e
 next x y S1 h1=>
  show Call_ (jn I hg hm Ag (RI (a9 (ha pos J s Y H _ I #[A,Z,S,_,_,er,so,h1,λ_ _ z=>z]) λus c #[vs,i,d,r1,A1,z1,z2,z3]=>?_) (by rw[hs,G]) (by rw[G];rfl)))
  cases z3 with
  |cons ra t=>
   cases t with
   |cons rb t=>
    cases t;cases r1 with
    |cons ua t=>
     cases t with
     |cons ub t=>
      cases t;split at e
      next xs ys e1 e2=>cases e;obtain⟨m,j,l,za,L,w,ka,O,Q⟩:=oK d ra ua e1;obtain⟨n,k,g,zb,M,B,N,P,T⟩:=oK d rb ub e2;show fin d L w O Q M B N P T (hq _ _ A1 z1 z2 (D1 za zb))
      ·split at e
       ·rename_i r q;split at e
        ·rename_i xs ys hx hy;cases e;cases ra with
         |@ref _ a V=>
          cases rb with
          |@ref _ b W=>
           obtain⟨va,q1,_⟩:=bq z2 hx V;obtain⟨vb,q2,_⟩:=bq z2 hy W;obtain⟨j,l,L,w,ka,O,Q⟩:=uQ d ua q1;obtain⟨k,g,M,B,N,P,T⟩:=uQ d ub q2;show fin d L w O Q M B N P T (hq _ _ A1 z1 z2 (Ae V W))
        ·cases e
       ·cases e
 ·cases e
end
open PySem.Builtin.SmallTypes (nextOf)
section
variable{prog:Pe}{w:Pk}{B:Pl}{E:Oy->OB->Prop}{s:OB}{e it:OF}{T:OH->Pr->Prop}{C:Pr->Prop}{i:OH}{old:Oy}
structure EnAt (h0 h:Pr)(e it:OF)(fs:Pc Oy)(T:Pr->Prop):Prop where
 here:h.get? e=ba {cls:=.type "enumerate",dict:=gV,data:=.fields fs,slots:=#[]}
 turn:T h
 kept:∀b o,b≠e->b≠it->h0.get? b=ba o->h.get? b=ba o
def EnAt.put {T:Pr->Prop}(x:EnAt d s.heap e it fs T)(a:e≠it)(i:∀h h',T h->(∀o,h.get? it=ba o->h'.get? it=ba o)->T h')(hk:k<⇑fs)
  (q:∀h',EnAt d h' e it (fs.setIfInBounds k v) T->Q5 e s.heap h'->Q () {s with heap:=h'}):wpAny (model prog w) B (setField (.ref e) k v) Q E s:=
 SG x.here hk λh' y c=>q h' #[y,i _ _ x.turn λo z=>c.extBut _ _ (Ne.symm a) z,λb o f g z=>c.extBut b o f (x.kept b o f g z)] c
def mY {Q:Oy->OB->Prop}(j:Zit prog w it T C i Uqa)(P:B.handled=gV)(p:ZD s.heap e it i old)(t:T i s.heap)(c:C s.heap)(f:e≠it)
  (N:∀V,Uqa=ba V->∀u h' tk A,V u->IsEnumOut h' e it (i+1) u ⇑s.heap.objs->T (i+1) h'->h'.get? ⇑s.heap.objs=ba {cls:=.type "tuple",data:=.seq [.int i A,u].toArray}->
   (∀b o,b≠e->b≠it->s.heap.get? b=ba o->h'.get? b=ba o)->Q (.ref ⇑s.heap.objs) (ww s h' tk))
  (M:Uqa=gV->∀h' x,V3 it s.heap h'->(∃o,h'.get? x=ba o/\o.cls=.type "StopIteration")->E (.ref x) {s with heap:=h'}) :
  wpAny (model prog w) B (SY.«enumerate.__next__» #[[.ref e],[]]) (λfin S=>∃v,fin=.done (.ret v)/\Q v S) E s:=by
 obtain⟨q,g,d,tk,os⟩:=s;change wpAny _ _ (field _ 2 >>= _) _ _ _;show Ox (Qe p rfl (x:=.ref it) rfl (Ox ?_));cases Uqa with
 |none=>show j.stop rfl _ _ _ _ P t c λh' x a b=>M rfl h' x a b
 |some V=>
  show j.next V rfl _ _ _ _ t c λu O h R X l=>?_
  have m:=j.keep (i+1);have G:EnAt q O e it _ _:=#[(l.2 e f).trans p,X,λb o _ n z=>l.extBut b o n z]
  have za:=l.1;show Ox (Qe G.here rfl  rfl ?_);show Ox (Qe G.here rfl  rfl ?_);show Ox (Zg (Ox (G.put  f m (by simp) λhb xb r=>Ox (xb.put  f m (by simp) λhc H y=>Ox (V7 ?_)))))
  have J:⇑hc.objs=⇑q.objs:=by rw[y.1,<- za];show r.1
  have k:=PZ (O4 p);have new:=OX hc (o:={cls:=.type "tuple",data:=.seq [.int i h,u].toArray}) rfl;have xd:EnAt q (hc.push {cls:=.type "tuple",data:=.seq [.int i h,u].toArray}) e it [.none,.bool _,.ref it,rawInt _,.none,old].toArray _:=#[OA _ H.here,m _ _ H.turn λo z=>OA _ z,λb o I n z=>OA _ (H.kept b o I n z)]
  rw[J]at new;change wpAny _ _ _ _ _ _;rw[J];show Ox ?_;show Ox (Qe xd.here rfl  rfl (OD ?_));show Ox (Tz (Ox (Qe xd.here rfl (x:=old) rfl (Ox (xd.put  f m (by simp) λI Y U=>Ox ?_)))))
  show Ox (Y.put  f m (by simp) λn Z W=>Z.put  f m (by simp) λL D s3=>Ox (TM (OD #[_,rfl,N V rfl u L (h+1) h R D.here D.turn ?_ D.kept])))
  show s3.extBut _ _ k (W.extBut _ _ k (U.extBut _ _ k new))
variable{v:Oy}{o:Qq}
def qB (e:dP prog w v o C) :
  MeetsIn prog w (SY.«enumerate.__new__» #[[.type "enumerate",v],[]]) (λ_ R s=>C s.heap/\R (.ok (.ret (.ref (s.heap.push o).objs.size))) {s with heap:=(s.heap.push o).push {cls:=.type "enumerate",data:=.fields [.none,.bool false,.ref ⇑s.heap.objs,rawInt 0,.none,.none].toArray}}):=
 .of_wp λA R s h=>by
  obtain⟨f,g,d,tk,os⟩:=s;obtain⟨c,h⟩:=h;have b:=sub_enumerate;have a:=λB Q E q=>e B _ Q E c q
  wp_walk
  show wpAny_stack_any λst=>OD ?_
  split
  next c _ _ _ _ _=>
   cases(c==QV _)
   ·wp_walk using a _ _ _
    show#[_,rfl,h]
   ·wp_walk using a _ _ _
    show#[_,rfl,h]
  ·wp_walk using a _ _ _
   show#[_,rfl,h]
def w8 (e:dP prog w v o C)(c:C s.heap)(f:o.isFreed=false)
  (h:∀h',ZD h' (⇑s.heap.objs+1) ⇑s.heap.objs 0 .none->h'.get? ⇑s.heap.objs=ba o->(∀b o,s.heap.get? b=ba o->h'.get? b=ba o)->Q (.ref (⇑s.heap.objs+1)) {s with heap:=h'}) :
  wpAny (model prog w) B (call (.type "enumerate") [v]) Q E s:=by
 show Ys F.called_enumerate #v[] (F.typeCall_enumerate_1 _) (F.newCall_enumerate_1 _) (λobj=>F.args_object_init_2 obj _) F.entry_enumerate_new (qB e) #[c,?_]
 have d:(s.heap.push o).objs.size=⇑s.heap.objs+1:=QM ..;rw[d];have a:ZD ((s.heap.push o).push {cls:=.type "enumerate",data:=.fields [.none,.bool false,.ref ⇑s.heap.objs,rawInt 0,.none,.none].toArray}) (⇑s.heap.objs+1) ⇑s.heap.objs 0 .none:=by
  have:=OX (s.heap.push o) (o:={cls:=.type "enumerate",data:=.fields [.none,.bool false,.ref ⇑s.heap.objs,rawInt 0,.none,.none].toArray}) rfl;rw[d]at this;show this
 show#[#[_,a,rfl],h _ a (OA _ (OX _ f)) λb o x=>OA _ (OA _ x)]
end
abbrev N2 (K:OI)(S1:Zs):It:=
 #[λi H=>∃x,S1.at K H i x,λi H v a=>∃p x,S1.is K H i x/\v=.ref p/\H p=gV/\a=aW H p (.tup [.int i,x]),λi H=>S1.out K H i]
def w9 {K:OI}{A:Ow Pb}(D:z≠i1) :
  Turn P w K (.Tuple A k0 tp) (N2 K S1) [z,i1] z (λi h=>(∃j,ZD h z i1 i j)/\S1.T i1 i h) where
 mem:=by simp
 obj:=λi h #[#[j,a],d] b' f=>by
  have it:∀{S:Zs}{it:OF},S.T it i h->∃o,h.get? it=ba o/\∀v,o.data≠.cell v:=λ{S it} t=>by
   cases S with
   |tup a=>obtain⟨o,e,_,d⟩:=t;show#[o,e,λv z=>by rw[d]at z;cases z]
   |lst a=>obtain⟨o,e,_,d⟩:=t;show#[o,e,λv z=>by rw[d]at z;cases z]
  simp only[O2,PL,Q9]at f;rcases f with rfl|rfl
  ·show#[_,a,λv z=>by cases z]
  ·show it d
 keep:=λi h h' #[#[j,a],d] k=>#[#[j,k z (by simp) _ a],Zs.keep d (k i1 (by simp))]
 item:=by
  intro X B hw hK hc i J s Y H E I hf st C;subst B hw hK;obtain⟨x,Q⟩:=C;obtain⟨⟨j,a⟩,d⟩:=st;have l:∀b∈[z,z,i1,i1],gw X J H b:=λb f=>hf b (by simp only[O2,PL,Q9]at f ⊢;rcases f with h|h|h|h<;>simp[h])
  obtain⟨R,L,r,k1⟩:=Zs.zit  (Uqa:=ba x) I l Q;have m:s.TypeIs (.ref z) "enumerate":=#[_,a,rfl];unfold pyNext;show Ox (RP (P6  m F.slot_enumerate_next (Qt F.slot_enumerate_next m F.entry_enumerate_next ?_ (F.args_enumerate_next_1 _))));show mY L (I.ok.hd hc) a d r D (λV y u g tk M r1 zg t1 Z kp=>?_) (λz=>by cases z)
  cases y;show OD #[_,rfl,?_];show wpAny_letOwnedTupleGo_enum  zg λg' N G=>?_
  have O:=I.hok.fresh (OR _);have lt:∀{b:OF},b∈[z,i1]->⇑s.heap.objs≠b:=λ{b} f=>by
   have:∃o,s.heap.get? b=ba o:=by
    have it:∀{S:Zs}{it:OF},S.T it i s.heap->∃o,s.heap.get? it=ba o:=λ{S it} t=>by
     cases S with
     |tup a=>obtain⟨o,e,_⟩:=t;show#[o,e]
     |lst a=>obtain⟨o,e,_⟩:=t;show#[o,e]
    simp only[O2,PL,Q9]at f;rcases f with rfl|rfl
    ·show#[_,a]
    ·show it d
   obtain⟨o,e⟩:=this;show PZ (O4 e)
  have up:∀b o,b∉[z,i1]->s.heap.get? b=ba o->g'.get? b=ba o:=λb o f e=>by
   simp only[O2,PL,Q9,V0]at f;show G.extBut _ _ f.1 (kp b o f.1 f.2 e)
  have T:Inv X J Y H (ww s g' tk):=Mi.Inv.turnedL I up hf
  have n:=G.extBut _ _ (lt (by simp)) Z
  have U:Inv X J Y (aW H ⇑s.heap.objs (.tup [.int i,x])) (ww s g' tk):=by
   show Mi.Inv.adopt T O (.inr I.sz) (PZ I.lt) (λw c e=>?_) (λp W=>?_) #[#[by change 2<=sizeLine;decide,#[_,n,rfl]],[.int i M,u],.cons #[_,rfl] #v[r1],#[_,n,rfl,0,rfl]]
   ·obtain⟨v,q⟩:=I.cell w c e;show Pa q.lt
   ·show Pa (O4 (I.pin p W).1)
  show#[.ref ⇑s.heap.objs,_,U,rfl,#[⇑s.heap.objs,x,Zs.at_is I Q,rfl,O,rfl],#[#[_,N],Zs.keep t1 λo e=>G.extBut _ _ (Ne.symm D) e],λb f=>?_]
  rw[am (Ne.symm (lt f))];show(hf b f).1
 done:=by
  intro X B hw hK hc i J s Y H E I hf st C;subst B hw hK;obtain⟨⟨j,a⟩,d⟩:=st;have l:∀b∈[z,z,i1,i1],gw X J H b:=λb f=>hf b (by simp only[O2,PL,Q9]at f ⊢;rcases f with h|h|h|h<;>simp[h])
  obtain⟨R,L,r,k1⟩:=Zs.zit  (Uqa:=gV) I l C;have m:s.TypeIs (.ref z) "enumerate":=#[_,a,rfl];unfold pyNext;show Ox (RP (P6  m F.slot_enumerate_next (Qt F.slot_enumerate_next m F.entry_enumerate_next ?_ (F.args_enumerate_next_1 _))));show mY L (I.ok.hd hc) a d r D (λV y=>by cases y) λ_ h' e k #[o,ho,hc]=>?_
  show Ox (T9   #[o,ho,hc] V4 (OD #[rfl,Mi.Inv.turnedL  I (λb o f e=>by
    simp only[O2,PL,Q9,V0]at f;show k b o f.2 e) hf]))
 self:=λ_ _ _ _ _ st h=>by obtain⟨⟨j,a⟩,_⟩:=st;show Xf a h
abbrev qC (xs:Ow W):Ow W:=xs.zipIdx.map λp=>.tup [.int (p.2:OH),p.1]
def Ah (h:(qC xs)[i]?=ba w):∃x,xs[i]?=ba x/\w=.tup [.int i,x]:=by
 unfold qC at h;rw[OY,Uk,Option.map_map,OG]at h;obtain⟨x,a,rfl⟩:=h;show#[x,a,by simp]
abbrev D7 (f:FA):FI:=λZ S=>match f Z S with
 |some ([x],S1)=>match HP x with
  |some xs=>ba (.its (qC xs),S1)
  |none=>gV
 |_=>gV
section
variable{s:OB}{A:Ow OF}
def Ai (d:ZRel X.K A H xs S1):MIt X.w X.K (.its (qC xs)) (N2 X.K S1) A H:=by
 show#[λb c S i w e g hi=>?_,λb c S i e g hi=>?_]
 ·simp only[MI.at,Pp]at hi;obtain⟨x,f,rfl⟩:=Ah hi;obtain⟨v,h,k⟩:=(d.mono e).at f;show#[#[v,h],λp j #[a,v',q1,hp,hn,hH]=>?_]
  subst hp hH;have ex:Ext X.K b c b (aW c a (.tup [.int i,v'])):=bx (.inl hn);show#[ex,g.lay hn,.tup (.of au) #v[.int,((d.mono e).is f q1).mono ex]]
 ·(dsimp only[MI.at,qC]at hi;simp only[Pp,QT,OC,WL]at hi)
  show(d.mono e).out hi
def xg:bootBuiltins "enumerate" = ba (.type "enumerate"):=rfl
def D8 {g:Ow Pb}{f:FA}(u:Gl X "enumerate")(v:X.mg "enumerate" = gV)(r:GA X [a] f)(hs:starEach [a] X.env=[(false,eval a X.env)]) :
  GI X (.Tuple g k0 G) (.Call (.Name "enumerate" p) [a] [] pos) (D7 f):=by
 intro J s Y H R I ⟨A,Z,S,mi,S',n,D,e,w⟩;unfold D7 at e;split at e
 next x S1 q=>
  split at e
  next xs m=>
   cases e;show Call_ (jn I u v xg (RI (a9 (r pos J s Y H _ I #[A,Z,S,_,_,n,D,q,λ_ _ z=>z]) λus c #[vs,H1,I1,r1,A1,z1,z2,z3]=>?_) (by rw[hs];rfl) (by rfl)))
   cases z3 with
   |cons C t=>
    cases t;cases r1 with
    |cons L t=>
     cases t;obtain⟨k,O,N,M,y,l,ka,B,E⟩:=oK I1 C L m;show w8 y l B λh' i o kp=>?_
     have j:Inv X J Y H1 {c with heap:=h'}:=I1.kept (t':=c.toks) kp
     show Xf (s:={c with heap:=h'}) i ?_
     show#[⇑c.heap.objs+1,_,_,_,H1,rfl,j,w9 (S1:=k) (i1:=⇑c.heap.objs) (by simp),#[#[_,i],E _ _ o],λb h=>?_,w _ _ A1 z1 z2 (Ai M)]
     have d:⇑c.heap.objs<=b:=by
      simp only[O2,PL,Q9]at h;rcases h with rfl|rfl
      ·show QC _ _
      ·show OR _
     show I1.fpOk d (I1.hok.fresh d)
  ·cases e
 ·cases e
end
abbrev Aj (X:Cx)(x:OM)(w:W):Prop:=∃v u,X.mg x=ba u/\RelV v u/\∀A H,Rel X.K A H w v
def HR (b:Gl X x)(hd:(x==("__debug__"))=false)(h:Aj X x w):GE X (.Name x pos) (fC w):=by
 obtain⟨v,u,c,r,a⟩:=h;show kj (tW b c r hd) a
abbrev D9 (a b:Ow W->aa->Oz (W×aa))(xs:Ow W)(S:aa):Oz (W×aa):=match a xs S with
 |some r=>ba r
 |none=>b xs S
def qD {f:Oy}(h:LCall X f a)(i:LCall X f b):LCall X f (D9 a b):=by
 intro J s Y H A S xs vs us w S' I g c d e;unfold D9 at e;split at e
 next r j=>cases e;show h _ s Y H A S xs vs us w S' I g c d j
 ·show i _ s Y H A S xs vs us w S' I g c d e
inductive Bi where|len|str|list|tuple|int|set|sorted|abs|all|min|max|ord
 deriving R7
abbrev Bi.fn:Bi->Ow W->aa->Oz (W×aa)
 |.len=>D9 sj DY|.str=>HI|.list=>pN|.tuple=>kY|.int=>Kv|.set=>D9 js lv|.sorted=>iE|.abs=>Ku|.all=>Dm|.min=>zj|.max=>z7|.ord=>HM
abbrev Bi.name:Bi->OM
 |.len=>"len"|.str=>"str"|.list=>"list"|.tuple=>"tuple"|.int=>"int"|.set=>"set"|.sorted=>"sorted"|.abs=>"abs"|.all=>"all"|.min=>"min"|.max=>"max"|.ord=>"ord"
inductive Me where|append|extend|join
 deriving R7
abbrev Me.fn:Me->W->Ow W->aa->Oz (W×aa)
 |.append=>iy|.extend=>kv|.join=>uu
abbrev Me.name:Me->OM
 |.append=>"append"|.extend=>"extend"|.join=>"join"
abbrev Me.ty:Me->Qs
 |.append=>"list"|.extend=>"list"|.join=>"str"
inductive Tg where
 |nm (i:OH)|tp (is:Ow OH)
set_option genSizeOf false in
set_option genInjectivity false in
mutual
inductive E where
 |c (w:W)|v (i:OH)|sem (g:FE)
 |op (o:BOp) (a b:E)
 |cmp (o:COp) (a b:E)
 |and (a b:E)|or (a b:E)|not (a:E)
 |own (f:OM) (n:OH) (es:Es)|bi (b:Bi) (es:Es)|me (m:Me) (o:E) (es:Es)
 |ix (a b:E)|sl (a:E) (lo hi:Ep)|tup (es:Es)|lst (es:Es)
 |isi (c:Qs) (a:E)
 |neg (a:E)|dnew|chn (o o':COp) (a b d:E)|ite (t a b:E)
 |comp (elt:E) (tg:Tg) (it:Ie) (cs:Es) (cap:Ow (Oz OH))
inductive Es where
 |nil|cons (e:E) (es:Es)
inductive Ep where
 |no|yes (e:E)
inductive Ie where
 |seq (e:E)|rng (es:Es)|zip (es:Es)|enu (es:Es)
end
set_option genSizeOf false in
set_option genInjectivity false in
mutual
inductive Sm where
 |sem (g:(OM->FF)->FS)|set (i:OH) (e:E)|asg (is:Ow OH) (e:E)|put (o k e:E)
 |ex (e:E)|ret (e:E)|pass|bad
 |ite (t:E) (a b:Ss)|whl (t:E) (b:Ss)|loop (tg:Tg) (it:Ie) (b:Ss)
inductive Ss where
 |nil|cons (s:Sm) (ss:Ss)
end
abbrev sQ:Tg->FG
 |.nm i=>Fw i
 |.tp is=>JN is
section
variable (M:OM->FF)
mutual
def aA:E->FE
 |.c w=>fC w
 |.v i=>fV i
 |.sem g=>g
 |.op o a b=>zG (jm o) (aA a) (aA b)
 |.cmp o a b=>oG o (aA a) (aA b)
 |.and a b=>uM (aA a) (aA b)
 |.or a b=>DA (aA a) (aA b)
 |.not a=>uN (aA a)
 |.own f n es=>fM n (M f) (bP es)
 |.bi b es=>jV b.fn (bP es)
 |.me m o es=>JM m.ty m.fn (aA o) (bP es)
 |.ix a b=>Nf (aA a) (aA b)
 |.sl a lo hi=>KF (aA a) (uR lo) (uR hi)
 |.tup es=>wW (bP es)
 |.lst es=>zN (bP es)
 |.isi c a=>z6 c (aA a)
 |.neg a=>zH (aA a)
 |.dnew=>Fy
 |.chn o o' a b d=>fL o o' (aA a) (aA b) (aA d)
 |.ite t a b=>DB (cH t) (aA a) (aA b)
 |.comp elt tg it cs cap=>lD (iK it) (sQ tg) (FD cs) (aA elt) cap
def cH:E->FT
 |.cmp o a b=>iH (oG o (aA a) (aA b))
 |.and a b=>zL (cH a) (cH b)
 |.or a b=>KB (cH a) (cH b)
 |.not a=>Dw (cH a)
 |.c w=>eT (fC w)
 |.v i=>eT (fV i)
 |.sem g=>eT g
 |.op o a b=>eT (zG (jm o) (aA a) (aA b))
 |.own f n es=>eT (fM n (M f) (bP es))
 |.bi b es=>eT (jV b.fn (bP es))
 |.me m o es=>eT (JM m.ty m.fn (aA o) (bP es))
 |.ix a b=>eT (Nf (aA a) (aA b))
 |.sl a lo hi=>eT (KF (aA a) (uR lo) (uR hi))
 |.tup es=>eT (wW (bP es))
 |.lst es=>eT (zN (bP es))
 |.isi c a=>eT (z6 c (aA a))
 |.neg a=>eT (zH (aA a))
 |.dnew=>λ_ _=>gV
 |.chn o o' a b d=>iH (fL o o' (aA a) (aA b) (aA d))
 |.ite _ _ _=>λ_ _=>gV
 |.comp _ _ _ _ _=>λ_ _=>gV
def bP:Es->FA
 |.nil=>km
 |.cons e es=>dH (aA e) (bP es)
def FD:Es->FT
 |.nil=>Fz
 |.cons e .nil=>cH e
 |.cons _ (.cons _ _)=>λ_ _=>gV
def uR:Ep->FO
 |.no=>HB
 |.yes e=>uO (aA e)
def iK:Ie->FI
 |.seq e=>dg (aA e)
 |.rng es=>qt (bP es)
 |.zip es=>Ad (bP es)
 |.enu es=>D7 (bP es)
end
variable (fuel:OH)
mutual
def cu:Sm->FS
 |.sem g=>g M
 |.set i e=>jA (aA M e) (Fw i)
 |.asg is e=>jA (aA M e) (JN is)
 |.put o k e=>jA (aA M e) (DI (aA M o) (aA M k))
 |.ex e=>zR (aA M e)
 |.ret e=>qo (aA M e)
 |.pass=>zS
 |.bad=>λ_ _=>gV
 |.ite t a b=>gC (cH M t) (bQ a) (bQ b)
 |.whl t b=>lA (cH M t) (bQ b) fuel
 |.loop tg it b=>zY (iK M it) (sQ tg) (bQ b)
def bQ:Ss->FS
 |.nil=>λZ S=>ba (.nx Z,S)
 |.cons s ss=>kn (cu s) (bQ ss)
end
end
structure Gam where
 sc:Ow (OM×QG)
 N:Ow OM
 fns:Ow (OM×OH)
 blt:Ow OM
 dfn:O6
 own:Ow OM
 cst:Ow (OM×W)
abbrev HS:Oz QG->O6
 |some .local=>true|some .cell=>true|some .free=>true|_=>false
abbrev Ea:Oz QG->O6
 |some .cell=>true|some .free=>true|_=>false
abbrev fP (names outer:Ow (OM×QG)):Ow (OM×QG):=names.map λ(n,k)=>if (k==.free&&outer.lookup n==ba .cell)then(n,.cell)else(n,k)
abbrev slot (Γ:Gam)(x:OM):Oz OH:=if HS (Γ.sc.lookup x) && !(x==("__debug__": OM)) && !(x==("__classdict__": OM))then Γ.N.findIdx? (· == x)else gV
abbrev uS:WP->Oz BOp
 |.Add=>ba .add|.Sub=>ba .sub|.Mult=>ba .mul|.FloorDiv=>ba .fdiv|.Mod=>ba .mod|.Pow=>ba .pow|_=>gV
abbrev jW:XI->Oz COp
 |.Eq=>ba .eq|.NotEq=>ba .ne|.Lt=>ba .lt|.LtE=>ba .le|.Gt=>ba .gt|.GtE=>ba .ge|.In=>ba .isin|.NotIn=>ba .notin|.Is=>ba .is|.IsNot=>ba .isnot
abbrev Eb (x:OM):Oz Bi:=[Bi.len,.str,.list,.tuple,.int,.set,.sorted,.abs,.all,.min,.max,.ord].find? λb=>b.name==x
abbrev Ec (x:OM):Oz Me:=[Me.append,.extend,.join].find? λb=>b.name==x
abbrev FH (Γ:Gam)(x:OM):O6:=Γ.sc.lookup x==ba .globalImplicit && !(x==("__debug__": OM))
abbrev uT (x:OM):Oz Qs:=if x==("bool": OM)then ba "bool" else if x==("int": OM)then ba "int" else if x==("str": OM)then ba "str" else if x==("tuple": OM)then ba "tuple" else if x==("list": OM)then ba "list" else if x==("dict": OM)then ba "dict" else gV
abbrev HU (Γ:Gam)(f:Pb->Oz E):Ow Pb->Oz E
 |[a,.Name c _]=>if FH Γ c&&Γ.blt.contains c then match uT c,f a with
  |some d,ba b=>ba (.isi d b)
  |_,_=>gV
  else gV
 |_=>gV
abbrev fY:Pb->O6
 |.Name _ _=>true|.Constant _ _ _=>true|.Subscript _ _ _=>true|_=>false
abbrev cZ (Γ:Gam)(x:OM):O6:=Γ.sc.lookup x==ba .globalImplicit && !(x==("__debug__": OM))
abbrev bu (Γ:Gam)(x:OM):Oz OH:=if (Γ.sc.lookup x==ba .local)||((Γ.dfn||Γ.own.contains x)&&Γ.sc.lookup x==ba .cell)then Γ.N.findIdx? (· == x)else gV
abbrev cA (f:Pb->Oz E)(es:Ow Pb):Oz Es:=es.foldr (λe a=>match f e,a with|some c,ba b=>ba (.cons c b)|_,_=>gV) (ba .nil)
abbrev cB (f:Pb->Oz E)(e:ZC):Ow Pb->Oz E
 |[]=>gV
 |[a]=>f a
 |a::b::aC=>match f a,cB f e (b::aC)with
  |some c,ba d=>ba (match e with|.And=>.and c d|.Or=>.or c d)
  |_,_=>gV
abbrev cP (f:Pb->Oz E):Oz Pb->Oz Ep
 |none=>ba .no
 |some e=>(f e).map .yes
abbrev isTup:Pb->O6
 |.Tuple _ _ _=>true
 |_=>false
abbrev cI (Γ:Gam)(f:Pb->Oz E)(tg:Pb):Pb->Oz Ie
 |.Call (.Name x p) [a] [] q=>if x==("range": OM)&&cZ Γ x&&Γ.blt.contains x then(cA f [a]).map .rng else if x==("enumerate": OM)&&cZ Γ x&&Γ.blt.contains x&&isTup tg then(cA f [a]).map .enu else(f (.Call (.Name x p) [a] [] q)).map .seq
 |.Call (.Name x p) [a,b] [] q=>if x==("zip": OM)&&cZ Γ x&&Γ.blt.contains x&&isTup tg then(cA f [a,b]).map .zip else(f (.Call (.Name x p) [a,b] [] q)).map .seq
 |e=>(f e).map .seq
abbrev HV (Γ:Gam):Ow Pb->Oz (Ow OH)
 |[]=>ba []
 |.Name x _::ts=>match bu Γ x,HV Γ ts with
  |some i,ba is=>ba (i::is)
  |_,_=>gV
 |_::_=>gV
abbrev cT (Γ:Gam):Pb->Oz Tg
 |.Name x _=>(bu Γ x).map .nm
 |.Tuple ts _ _=>(HV Γ ts).map .tp
 |_=>gV
abbrev gM (names:Ow (OM×QG)):Ow OM:=(names.filter λp=>p.2==.local||p.2==.cell||p.2==.free).map (·.1)
abbrev iL (Γ:Gam)(names:Ow (OM×QG)):Ow (Oz OH):=(gM names).map λx=>if names.lookup x==ba .local||names.lookup x==ba .cell then gV else Γ.N.findIdx? (· == x)
abbrev Ak (Γ:Gam)(scope:RN):O6:=
 (scope.kind==.function)&&scope.names.all (λy=>!(y.2==.local)||scope.names.lookup y.1==ba .local)&&scope.names.all (λy=>!(y.2==.cell)||scope.names.lookup y.1==ba .cell) &&
 scope.names.all (λy=>!(y.2==.free)||(Ea (Γ.sc.lookup y.1)&&scope.names.lookup y.1==ba .free&&(Γ.N.findIdx? (· == y.1)).isSome))&&decide (gM scope.names).Nodup
abbrev lF (Γ:Gam)(scope:RN):Gam:={Γ with sc:=fP scope.names Γ.sc,N:=gM scope.names,dfn:=false,own:=(scope.names.filter λp=>p.2==.cell).map (·.1)}
abbrev Al (f:Pb->Oz E)(b:Ow (Oz Pb))(a:Ow Pb):Oz E:=
 if b.isEmpty&&a.isEmpty then ba .dnew
 else gV
abbrev cE:OH->Gam->Pb->Oz E
 |0,_,_=>gV
 |n+1,Γ,e=>match e with
  |.Constant (.int i) _ _=>ba (.c (.int i))
  |.Constant (.str x) _ _=>ba (.c (.str x))
  |.Constant (.bool b) _ _=>ba (.c (.bl b))
  |.Constant .none _ _=>ba (.c .non)
  |.Name x _=>match slot Γ x with
   |some i=>ba (.v i)
   |none=>if cZ Γ x then(Γ.cst.lookup x).map .c else gV
  |.BinOp a j b _=>match uS j,cE n Γ a,cE n Γ b with
   |some o,ba c,ba g=>ba (.op o c g)
   |_,_,_=>gV
  |.UnaryOp .Not a _=>(cE n Γ a).map .not
  |.UnaryOp .USub a _=>(cE n Γ a).map .neg
  |.BoolOp j vs _=>cB (cE n Γ) j vs
  |.Compare a [j] [b] _=>match jW j,cE n Γ a,cE n Γ b with
   |some o,ba c,ba g=>ba (.cmp o c g)
   |_,_,_=>gV
  |.Compare a [j,v] [b,d] _=>match jW j,jW v,cE n Γ a,cE n Γ b,cE n Γ d with
   |some o,ba o',ba c,ba g,ba d'=>ba (.chn o o' c g d')
   |_,_,_,_,_=>gV
  |.IfExp t a b _=>match cE n Γ t,cE n Γ a,cE n Γ b with
   |some t',ba c,ba g=>ba (.ite t' c g)
   |_,_,_=>gV
  |.Call (.Name f _) args [] _=>if cZ Γ f then match Γ.fns.lookup f with
    |some k=>(cA (cE n Γ) args).map (.own f k)
    |none=>if f==("isinstance": OM)then(if Γ.blt.contains f then HU Γ (cE n Γ) args else gV)else match Eb f,args with
     |some b,a::as=>if Γ.blt.contains f then(cA (cE n Γ) (a::as)).map (.bi b)else gV
     |_,_=>gV
   else gV
  |.Call (.Attribute o m apos) (a::as) [] cpos=>match Ec m,cE n Γ o,cA (cE n Γ) (a::as)with
   |some z,ba o',ba es=>if fY o&&(apos.endLine==cpos.line)&&decide ((a::as).length<29)then ba (.me z o' es)else gV
   |_,_,_=>gV
  |.Subscript a (.Slice lo hi gV _) _=>match cE n Γ a,cP (cE n Γ) lo,cP (cE n Γ) hi with
   |some c,ba u,ba s=>ba (.sl c u s)
   |_,_,_=>gV
  |.Subscript a b _=>match cE n Γ a,cE n Γ b with
   |some c,ba g=>ba (.ix c g)
   |_,_=>gV
  |.Tuple es _ _=>(cA (cE n Γ) es).map .tup
  |.List es _=>(cA (cE n Γ) es).map .lst
  |.Dict p h _=>Al (cE n Γ) p h
  |.ListComp r [#[tg,iter,l,q]] scope _=>if (q==0)&&(Ak Γ scope&&decide (↥l<=1))then
    match cI Γ (cE n Γ) tg iter,cT (lF Γ scope) tg,cA (cE n (lF Γ scope)) l,cE n (lF Γ scope) r with
    |some it,ba t,ba w,ba y=>ba (.comp y t it w (iL Γ scope.names))
    |_,_,_,_=>gV
   else gV
  |_=>gV
structure CtxOk (M:OM->FF)(X:Cx)(Γ:Gam):Prop where
 names:X.env.scope.names=Γ.sc
 kind:X.env.scope.kind=.function
 N:X.N=Γ.N
 nd:Γ.N.Nodup
 calm:X.calm=true
 xe:UF (model X.prog X.w) X.A X.env X.xe
 un:X.A.units+fB<cLine
 dfn:Γ.dfn=true->∀x,X.fn x=true
 own:∀x∈Γ.own,X.fn x=true
 blt:∀x∈Γ.blt,X.mg x=gV
 cst:∀x w,Γ.cst.lookup x=ba w->Aj X x w
 fns:∀f n,Γ.fns.lookup f=ba n->∃k fa fd ps,FnOk X.prog X.w X.K X.mg X.base mF k fa fd ps (spF X.w X.K n (M f))/\Room k X.A/\X.mg f=ba (.ref fa)/\Qh X.K (.ref fa)=true/\Binds X.K fd ps []
abbrev lG:Pb->O6
 |.Starred _ _=>false
 |_=>true
def aq {e:Pb}(h:lG e=true):starEach (e::es) env=(false,eval e env)::starEach es env:=by
 cases e<;>first|rfl|cases h
def aP :∀{es:Ow Pb},es.all lG=true->(backTo pos (starEach es env)).any (·.1)=false
 |[],_=>rfl
 |e::es,h=>by
  rw[P9,OE]at h;rw[aq h.1];show(false||(backTo pos _).any _)=false
  rw[aP h.2];rfl
def qE :∀{es:Ow Pb},es.all lG=true->(backTo pos (starEach es env)).all (λx=>!x.1)=true
 |[],_=>rfl
 |e::es,h=>by
  rw[P9,OE]at h;rw[aq h.1];show(true&&(backTo pos _).all (λx=>!x.1))=true
  rw[qE h.2];rfl
def jD {e:Pb}(h:cE n Γ e=ba a):lG e=true:=by
 cases n with
 |zero=>cases h
 |succ n=>cases e<;>first|rfl|(show af h)
def kB {f:Pb->Oz E}{e:Pb}(h:cA f (e::es)=ba r):∃b a,f e=ba b/\cA f es=ba a/\r=.cons b a:=by
 (dsimp only[cA]at h;simp only[XZ]at h)
 split at h
 next b a c d=>cases h;show#[b,a,c,d,rfl]
 ·cases h
def bK :∀{es:Ow Pb}{r:Es},cA (cE n Γ) es=ba r->es.all lG=true
 |[],_,_=>rfl
 |e::es,r,h=>by
  obtain⟨d,a,b,c,_⟩:=kB h;rw[P9,jD b,bK c];rfl
def bV {N:Ow OM}(h:N.findIdx? (· == x)=ba i):N[i]?=ba x:=by
 obtain⟨hl,a,_⟩:=TN.mp h;rw[ON hl];show congrArg _ (eq_of_beq a)
variable{M:OM->FF}{Γ:Gam}
def oM {e:Pb}:GT X e (λ_ _=>gV):=λJ s Y H Q I #[A,Z,S,k,S',er,so,e1,hq]=>by cases e1
def qF (h:HS (X.env.scope.names.lookup x)=true):Mm X.env.scope x:=by
 unfold HS at h;split at h
 ·show .inl (by assumption)
 ·show .inr (.inl (by assumption))
 ·show .inr (.inr (by assumption))
 ·cases h
def Am (K:CtxOk M X Γ)(h:slot Γ x=ba i):GE X (.Name x pos) (fV i):=by
 unfold slot at h;split at h
 next hc=>rw[OE,OE]at hc;obtain⟨⟨a,b⟩,c⟩:=hc;show Nd (gR (by rw[K.N];show bV h) (qF (by rw[K.names];show a)) (by simpa using b) (by simpa using c))
 ·cases h
def fQ (K:CtxOk M X Γ)(h:cZ Γ x=true):Gl X x/\(x==("__debug__"))=false:=by
 unfold cZ at h;rw[OE]at h;show#[?_,by simpa using h.2]
 change X.env.scope.names.lookup x=_;rw[K.names];show eq_of_beq h.1
def lH (h:jW o=ba c):c.py=o:=by
 cases o<;>((dsimp only[jW]at h;simp only[Pp]at h);subst h;rfl)
def An (h:uS o=ba c):c.py=o:=by
 cases o<;>simp only[uS,Pp]at h<;>first|(subst h;rfl)|cases h
def xh (h:Eb x=ba b):b.name=x:=by
 have:=X2 h;show eq_of_beq this
def xj (h:Ec x=ba b):b.name=x:=by
 have:=X2 h;show eq_of_beq this
def cv (ih:∀{e:Pb}{a:E},cE n Γ e=ba a->GE X e (aA M a)):∀{es:Ow Pb}{r:Es},cA (cE n Γ) es=ba r->GA X es (bP M r)
 |[],r,h=>by cases h;show Hz
 |e::es,r,h=>by
  obtain⟨a,c,b,d,rfl⟩:=kB h;show DC (ih b) (cv ih d) (aq (jD b))
def KR (K:CtxOk M X Γ){f:OM}(l:cZ Γ f=true)(hf:Γ.fns.lookup f=ba k)(e:cA (cE n Γ) args=ba r)(h:GA X args (bP M r)):GE X (.Call (.Name f p) args [] pos) (fM k (M f) (bP M r)):=by
 obtain⟨d,fa,fd,ps,F,j,i,hk,g⟩:=K.fns f k hf;obtain⟨b,c⟩:=fQ K l;cases args with
 |nil=>cases e;show DF F j b i hk g c
 |cons a as=>
  have ns:=bK e;rw[P9,OE]at ns;show HC F j b i hk g h c (aq ns.1) (aP ns.2)
def Ng (K:CtxOk M X Γ){f:OM}(o:cZ Γ f=true)(m:Eb f=ba b)(hc:Γ.blt.contains f=true)(l:cA (cE n Γ) (a::as)=ba r)(h:GA X (a::as) (bP M r)):GE X (.Call (.Name f p) (a::as) [] pos) (jV b.fn (bP M r)):=by
 obtain⟨c,d⟩:=fQ K o;have i:X.mg f=gV:=K.blt f (by simpa using hc)
 have ns:=bK l;rw[P9,OE]at ns;have e:=xh m;subst e;have k:X.A.units+12<cLine:=by have:=K.un;have:fB=20:=rfl;omega
 have calm:∀{f:Oy}{g:Ow W->aa->Oz (W×aa)},(X.A.handled=gV->LCall X f g)->LCall X f g:=λh J s Y H A S xs vs us w S' I=>h (I.ok.hd K.calm) J s Y H A S xs vs us w S' I
 cases b with
 |len=>show lx (qD wf sN) c i PySem.boot_len h #v[] d (aq ns.1) (aP ns.2)
 |list=>show ql sr c i rfl h #v[] d (aq ns.1) (aP ns.2)
 |tuple=>show ql pP c i rfl h #v[] d (aq ns.1) (aP ns.2)
 |str=>show ql w4 c i rfl h #v[] d (aq ns.1) (aP ns.2)
 |int=>show ql wm c i rfl h #v[] d (aq ns.1) (aP ns.2)
 |set=>show ql (calm λj=>qD (wp j) (sJ j k)) c i rfl h #v[] d (aq ns.1) (aP ns.2)
 |sorted=>show lx (calm λj=>oq j k) c i rfl h #v[] d (aq ns.1) (aP ns.2)
 |abs=>show lx wj c i rfl h #v[] d (aq ns.1) (aP ns.2)
 |max=>show lx (calm λ_=>sM K.calm) c i rfl h #v[] d (aq ns.1) (aP ns.2)
 |ord=>show lx w6 c i rfl h #v[] d (aq ns.1) (aP ns.2)
 |all=>show lx (calm wR) c i rfl h #v[] d (aq ns.1) (aP ns.2)
 |min=>show lx (calm λj=>wM j k) c i rfl h #v[] d (aq ns.1) (aP ns.2)
def Ao (h:uT x=ba c):bootBuiltins x=ba (.type c)/\x≠"__name__":=by
 unfold uT at h;split at h
 next e=>cases h;rw[eq_of_beq e];show#[rfl,#v[]]
 ·split at h
  next e=>cases h;rw[eq_of_beq e];show#[rfl,#v[]]
  ·split at h
   next e=>cases h;rw[eq_of_beq e];show#[rfl,#v[]]
   ·split at h
    next e=>cases h;rw[eq_of_beq e];show#[rfl,#v[]]
    ·split at h
     next e=>cases h;rw[eq_of_beq e];show#[rfl,#v[]]
     ·split at h
      next e=>cases h;rw[eq_of_beq e];show#[rfl,#v[]]
      ·cases h
def KS (K:CtxOk M X Γ){f:OM}(w:cZ Γ f=true)(v:(f==("isinstance"))=true)(hc:Γ.blt.contains f=true)(ih:∀{e:Pb}{j:E},cE n Γ e=ba j->GE X e (aA M j))(h:HU Γ (cE n Γ) args=ba r) :
  GE X (.Call (.Name f p) args [] pos) (aA M r)/\∃a c,r=.isi c a:=by
 obtain⟨o,y⟩:=fQ K w;have x:=K.blt f (by simpa using hc)
 have e:=eq_of_beq v;subst e;rcases args with _|⟨a,_|⟨k,_|_⟩⟩
 ·show af h
 ·show af h
 ·cases k with
  |Name c q=>
   replace h:(if FH Γ c&&Γ.blt.contains c then match uT c,cE n Γ a with|some g,ba d=>ba (E.isi g d)|_,_=>gV else gV)=ba r:=h
   split at h
   next b=>
    rw[OE]at b;obtain⟨s,t⟩:=fQ K  b.1;have i:=K.blt c (by simpa using b.2)
    split at h
    next g d u l=>cases h;obtain⟨m,b2⟩:=Ao u;show#[HL o x s i m b2 t (ih l) (aq (jD l)),d,g,rfl]
    ·cases h
   ·cases h
  |_=>show af h
 ·cases k<;>show af h
def jE (h:fY o=true):attributeBase o name env (eval o env)=eval o env:=by
 cases o<;>first|rfl|cases h
def Nh (K:CtxOk M X Γ)(i:Ec m=ba b)(d:fY o=true)(hl:(apos.endLine==cpos.line)=true)(j:(a::as).length<29)(c:GE X o (aA M o'))(g:cA (cE n Γ) (a::as)=ba r)(h:GA X (a::as) (bP M r)) :
  GE X (.Call (.Attribute o m apos) (a::as) [] cpos) (JM b.ty b.fn (aA M o') (bP M r)):=by
 have ns:=bK g;have f:=ns;rw[P9,OE]at ns;have few:((backTo cpos (starEach (a::as) X.env)).all (λx=>!x.1)&&(backToKw cpos (keywordEach [] X.env)).all (λx=>x.1.isSome)&&decide ((a::as).length+([]:Ow Vu).length+(if ([]:Ow Vu).isEmpty then 0 else 1)<30))=true:=by
  rw[qE f,Qw,OE];show#[rfl,Pq (by revert Qr List.isEmpty_nil QY;omega)]
 have e:=xj i;subst e;cases b with
 |append=>show zQ Vs PySem.F.slot_list_append PySem.F.type_list_append nW c h (jE d) few hl (aq ns.1) (aP ns.2)
 |extend=>show zQ Vs PySem.F.slot_list_extend PySem.F.type_list_extend nX c h (jE d) few hl (aq ns.1) (aP ns.2)
 |join=>show zQ PySem.F.plainAttrs_str PySem.F.slot_str_join PySem.F.type_str_join su c h (jE d) few hl (aq ns.1) (aP ns.2)
def iM {e:Pb}(h:cE n Γ e=ba a):behindInMarks b e=false:=by
 cases n with
 |zero=>cases h
 |succ n=>cases e<;>first|rfl|(show af h)
def sR {e:Pb}(h:cE n Γ e=ba a):nN e:=by
 cases n with
 |zero=>cases h
 |succ n=>cases e<;>first|(intro o i;rfl)|(show af h)
def oN {n:OH}{f:Pb->Oz E}{e:Pb}{i:Ie}(hf:∀a k p,f (.Set a k p)=gV)(h:cI Γ f tg e=ba i):∀x,foldedSetIterable e env x=pure x:=by
 intro x;cases e<;>first|rfl|((dsimp only[cI]at h;simp[hf]at h))
def oO (ih:∀{e:Pb}{d:E},cE n Γ e=ba d->GE X e (aA M d)):∀{vs:Ow Pb}{r:E},cB (cE n Γ) c vs=ba r->GE X (.BoolOp c vs pos) (aA M r)
 |[],r,h=>by cases h
 |[a],r,h=>Hv (ih h)
 |a::b::aC,r,h=>by
  simp only[cB]at h;split at h
  next i j f g=>
   cases h;cases c with
   |And=>show Hw (ih f) (oO ih g)
   |Or=>show KD (ih f) (oO ih g)
  ·cases h
def oP (ih:∀{e:Pb}{d:E},cE n Γ e=ba d->GT X e (cH M d)):∀{vs:Ow Pb}{r:E},cB (cE n Γ) c vs=ba r->GW X (.BoolOp c vs pos) (cH M r)
 |[],r,h=>by cases h
 |[a],r,h=>by
  cases c with
  |And=>show Dz (ih h)
  |Or=>show Hs (ih h)
 |a::b::aC,r,h=>by
  simp only[cB]at h;split at h
  next i j f g=>
   cases h;cases c with
   |And=>show Ht (ih f) (oP ih g)
   |Or=>show KC (ih f) (oP ih g)
  ·cases h
def Ap (ih:∀{e:Pb}{a:E},cE n Γ e=ba a->GE X e (aA M a)){p:Ep}(h:cP (cE n Γ) o=ba p):GO X o (uR M p):=by
 cases o with
 |none=>cases h;show DD
 |some e=>
  (dsimp only[cP]at h;simp only[OG]at h)
  obtain⟨a,b,rfl⟩:=h;show DE (ih b)
def sS (K:CtxOk M X Γ)(ih:∀{e:Pb}{l:E},cE n Γ e=ba l->GE X e (aA M l)){ e:Pb}{i:Ie}(h:cI Γ (cE n Γ) tg e=ba i):GI X tg e (iK M i):=by
 have d:(cE n Γ e).map Ie.seq=ba i->GI X tg e (iK M i):=λh=>by
  rw[OG]at h;obtain⟨l,f,rfl⟩:=h;show DV (ih f)
 unfold cI at h;split at h
 next x p a pos=>
  split at h
  next hc=>rw[OE,OE]at hc;obtain⟨⟨f,g⟩,j⟩:=hc;have k:=eq_of_beq f;subst k;rw[OG]at h;obtain⟨r,c,rfl⟩:=h;have ns:=bK c;rw[P9,OE]at ns;show DR (fQ K g).1 (K.blt _ (by simpa using j)) (cv ih c) (aq ns.1)
  ·split at h
   next hc=>
    rw[OE,OE,OE]at hc;obtain⟨⟨⟨f,g⟩,j⟩,o⟩:=hc;have k:=eq_of_beq f;subst k;rw[OG]at h;obtain⟨r,c,rfl⟩:=h;have ns:=bK c;rw[P9,OE]at ns;cases tg with
    |Tuple m k0 q=>show D8 (fQ K g).1 (K.blt _ (by simpa using j)) (cv ih c) (aq ns.1)
    |_=>cases o
   ·show d h
 next x p a b pos=>
  split at h
  next hc=>
   rw[OE,OE,OE]at hc;obtain⟨⟨⟨f,g⟩,j⟩,o⟩:=hc;have k:=eq_of_beq f;subst k;rw[OG]at h;obtain⟨r,c,rfl⟩:=h;have ns:=bK c;rw[P9,P9,OE,OE]at ns;cases tg with
   |Tuple m k0 q=>show HQ (fQ K g).1 (K.blt _ (by simpa using j)) (cv ih c) (by rw[aq ns.1,aq ns.2.1];rfl) (aq ns.2.1)
   |_=>cases o
  ·show d h
 ·show d h
def oQ (K:CtxOk M X Γ)(h:bu Γ x=ba i):X.N[i]?=ba x/\xW X.env.scope x/\(X.fn x=true\/X.env.scope.names.lookup x=ba .local):=by
 unfold bu at h;split at h
 next hc=>
  show#[by rw[K.N];show bV h,?_]
  unfold L2.xW;rw[K.names];rw[Qn,OE]at hc;rcases hc with hc|⟨hd,hc⟩
  ·have:=eq_of_beq hc;show#[.inl this,.inr this]
  ·rw[Qn]at hd;show#[.inr (eq_of_beq hc),.inl (hd.elim (λhd=>K.dfn hd x) λhd=>K.own x (by simpa using hd))]
 ·cases h
def qG (K:CtxOk M X Γ):∀{ts:Ow Pb}{is:Ow OH},HV Γ ts=ba is->(∀x∈ts,∃y p,x=Wj y p)/\VX (λ t i=>∃x p,t=Wj x p/\X.N[i]?=ba x/\xW X.env.scope x/\(X.fn x=true\/X.env.scope.names.lookup x=ba .local)) ts is
 |[],is,h=>by cases h;show#[λx f=>by simp at f,.nil]
 |t::ts,is,h=>by
  cases t with
  |Name x p=>
   dsimp only[HV]at h;split at h
   next i j c d=>cases h;obtain⟨a,b⟩:=qG K d;show#[λy g=>(O2.mp g).elim (λe=>#[x,p,e]) (a y),.cons #[x,p,rfl,oQ K c] b]
   ·cases h
  |_=>cases h
def g9 :∀{ts:Ow Pb},(∀x∈ts,∃y p,x=Wj y p)->(assignEach ts env).length=↥ts/\(assignEach ts env).findIdx? (·.1)=gV
 |[],_=>#[rfl,rfl]
 |t::ts,h=>by
  obtain⟨y,p,rfl⟩:=h t OU;obtain⟨a,b⟩:=g9  λx c=>h x (OV _ c)
  show#[by show(assignEach ts env).length+1=↥ts+1;rw[a],?_]
  change List.findIdx? _ ((false,assign _ env)::assignEach ts env)=gV;rw[List.findIdx?_cons,b];rfl
def qH (K:CtxOk M X Γ)(h:cT Γ tg=ba t):GG X tg (sQ t):=by
 have e:X.N.Nodup:=by rw[K.N];show K.nd
 cases tg with
 |Name x p=>
  dsimp only[cT]at h;simp only[OG]at h
  obtain⟨i,d,rfl⟩:=h;obtain⟨a,b,c⟩:=oQ K d;show oH e a b c
 |Tuple ts k p=>
  dsimp only[cT]at h;simp only[OG]at h
  obtain⟨is,d,rfl⟩:=h;obtain⟨a,b⟩:=qG K d;show HE K.calm a b e (g9 a).1 (g9 a).2
 |_=>cases h
abbrev dQ (env:U0):Ow (OM×QG)->Ow (OM×OF)->Ow (OM×OF)
 |[],a=>a
 |(n,k)::r,a=>dQ env r (if k==.free then(n,(env.cells.lookup n).getD 0)::a else a)
def jF :∀ names d,(∀y∈names,y.2=.free->(env.cells.lookup y.1).isSome=true)->
  (forIn names d λx r=>match x with|(name,kind)=>if (kind==Ts)=true then do let a <- cellOf env name;pure (Ri ((name,a)::r))else pure (Ri r):Yu (Ow (OM×OF)))=pure (dQ env names d)
 |[],d,_=>by rfl
 |(n,k)::r,d,h=>by
  rw[Us];have e:=λy g=>h y (OV _ g)
  by_cases hk:(k==Ts)=true
  ·obtain⟨c,hc⟩:=P1.mp (h _ OU (eq_of_beq hk));have f:cellOf env n=pure c:=by unfold cellOf;rw[hc]
   revert hk QY f pure_bind;rw[jF r _ e];revert dQ hk QY hc Option.getD_some
  ·have b:(k==Ts)=false:=by simpa using hk
   revert b Pu QA pure_bind;rw[jF r _ e];revert dQ b Pu QA
def ko (h:∀y∈scope.names,y.2=.free->(env.cells.lookup y.1).isSome=true):closureFor scope env=pure (dQ env scope.names []):=by
 have:=jF _ [] h;delta closureFor;revert this pure_bind
def lI :∀ names a,(∀y∈names,y.2=.free->(env.cells.lookup y.1).isSome=true)->(∀x c,a.lookup x=ba c->env.cells.lookup x=ba c)->
  ∀x c,(dQ env names a).lookup x=ba c->env.cells.lookup x=ba c
 |[],a,_,h,x,c,e=>h x c e
 |(n,k)::r,a,b,h,x,c,e=>by
  show lI r _ (λy f=>b y (OV _ f)) (λx c e=>?_) x c e
  split at e
  next hk=>
   rw[PY]at e;split at e
   next d=>cases e;have:=eq_of_beq d;subst this;obtain⟨c,hc⟩:=P1.mp (b _ OU (eq_of_beq hk));rw[hc];rfl
   ·show h x c e
  ·show h x c e
def jX :∀ names a,(∃c,a.lookup x=ba c)->∃c,(dQ env names a).lookup x=ba c
 |[],a,h=>h
 |(n,k)::r,a,h=>by
  show jX r _ ?_;split
  ·rw[PY];split
   ·show#[_,rfl]
   ·show h
  ·show h
def lJ :∀ names a,(x,Ts)∈names->∃c,(dQ env names a).lookup x=ba c
 |[],a,h=>by simp at h
 |(n,k)::r,a,h=>by
  rcases O2.mp h with e|h
  ·cases e;show jX r _ ?_;simp[PY]
  ·show lJ r _ h
def lK {k:QG}:∀{l:Ow (OM×QG)},l.lookup x=ba k->(x,k)∈l
 |[],h=>by simp at h
 |(n,j)::r,h=>by
  rw[PY]at h;split at h
  next a=>cases h;have:=eq_of_beq a;subst this;show OU
  ·show OV _ (lK h)
def dR (K:CtxOk M X Γ)(scope:RN):(relabel scope X.env).names=fP scope.names Γ.sc:=by
 unfold relabel fP Yt;rw[K.kind,K.names];show QX λ#[n,k] _=>?_
 have e:(WM==WM)=true:=rfl;revert e To
def dh :∀{names:Ow (OM×QG)},(fP names outer).lookup x=(names.lookup x).map λk=>if (k==.free&&outer.lookup x==ba .cell)then .cell else k
 |[]=>rfl
 |(n,k)::r=>by
  have ih:=dh (outer:=outer) (x:=x) (names:=r);change SS x ((if (k==Ts&&outer.lookup n==ba _)=true then(n,SM)else(n,k))::fP r _)=_
  cases a:x==n with
  |true=>
   have:=eq_of_beq a;subst this;revert PY PB P3;split<;>simp[PY]
  |false=>
   split<;>(revert PY a;show ih)
structure ScOk (Γ:Gam)(scope:RN):Prop where
 kind:scope.kind=.function
 names:∀y∈scope.names,y.2=.local->scope.names.lookup y.1=ba .local
 cell:∀y∈scope.names,y.2=.cell->scope.names.lookup y.1=ba .cell
 free:∀y∈scope.names,y.2=.free->Ea (Γ.sc.lookup y.1)=true/\scope.names.lookup y.1=ba .free/\(Γ.N.findIdx? (· == y.1)).isSome=true
 nd:(gM scope.names).Nodup
def uU (h:Ak Γ scope=true):ScOk Γ scope:=by
 unfold Ak at h;rw[OE,OE,OE,OE]at h;obtain⟨⟨⟨⟨b,c⟩,d⟩,f⟩,g⟩:=h;show#[eq_of_beq b,λy a e=>?_,λy a e=>?_,λy a e=>?_,PC g]
 ·have:=OT.mp c y a;rw[e]at this
  simpa using this
 ·have:=OT.mp d y a;rw[e]at this
  simpa using this
 ·have:=OT.mp f y a;rw[e]at this;simp only[PB,RQ,Vi,OE]at this;show#[this.1.1,eq_of_beq this.1.2,this.2]
def uV (h:Ea o=true):o=ba .cell\/o=ba .free:=by
 unfold Ea at h;split at h
 ·show .inl rfl
 ·show .inr rfl
 ·cases h
def mZ (K:CtxOk M X Γ)(ok:X.Ok)(sc:ScOk Γ scope):CompOk X scope (dQ X.env scope.names []) (gM scope.names) (iL Γ scope.names):=by
 have a:∀y∈scope.names,y.2=.free->(X.env.cells.lookup y.1).isSome=true:=λy s e=>by
  have hk:=uV (sc.free y s e).1;obtain⟨c,hc⟩:=ok.has y.1 (by unfold Yt;rw[K.names];show hk)
  rw[hc];rfl
 have b:∀x,((relabel scope X.env).names.lookup x=ba .cell\/(relabel scope X.env).names.lookup x=ba .free)->(x,SM)∈scope.names\/(x,Ts)∈scope.names:=λx h=>by
  rw[dR K,dh]at h;cases q:scope.names.lookup x with
  |none=>rw[q]at h;rcases h with h|h<;>cases h
  |some k=>
   rw[q]at h;have d:=lK q;cases k with
   |free=>show .inr d
   |cell=>show .inl d
   |_=>rcases h with h|h<;>simp at h
 show#[ko a,sc.kind,sc.names,lI _ _ a (λx c e=>by cases e),λm x h=>jC _ _ _ ((b x h).imp id λz=>lJ _ _ z),by simp[iL],λi j x hi o=>?_]
 unfold iL at hi;rw[OY,o]at hi;simp only[P3,Pp]at hi;split at hi
 ·cases hi
 next hl=>
  have f:x∈gM scope.names:=O7 o;unfold gM at f;obtain⟨⟨n,k⟩,hf,e⟩:=O0.mp f;obtain⟨d,hk⟩:=Qy.mp hf;have p:n=x:=e;subst p;have l:k=.free:=by
   simp only[Qn]at hk;rcases hk with(hk|hk)|hk
   ·have:k=.local:=eq_of_beq hk;subst this;have:=sc.names (n,.local) d rfl;rw[this]at hl;simp at hl
   ·have:k=.cell:=eq_of_beq hk;subst this;have:=sc.cell (n,.cell) d rfl;rw[this]at hl;simp at hl
   ·show eq_of_beq hk
  subst l;obtain⟨r,g,t⟩:=sc.free _ d rfl;show#[by rw[K.N];show bV hi,by unfold Yt;rw[K.names];show uV r,?_,λz=>by rw[sc.cell _ z rfl]at g;cases g]
  rw[dR K,dh,g];revert P3 Pp PB Qw;split
  ·show .inl rfl
  ·show .inr rfl
def d6 (K:CtxOk M X Γ)(sc:ScOk Γ scope)(C:OF)(s0:OB)(a:Hp)(ex:Ow OF):CtxOk M (rL X scope (dQ X.env scope.names []) C (gM scope.names) s0 a ex) (lF Γ scope) where
 names:=dR K scope
 kind:=sc.kind
 N:=rfl
 nd:=sc.nd
 calm:=K.calm
 xe:=Uu
 un:=K.un
 dfn:=λh=>by cases h
 own:=λx h=>by
  obtain⟨⟨y,k⟩,d,e⟩:=O0.mp h;obtain⟨c,hk⟩:=Qy.mp d;have b:y=x:=e;subst b;show Vq.mpr #[(y,k),c,by simpa using hk]
 blt:=K.blt
 cst:=K.cst
 fns:=K.fns
def qI {f:Es}(hl:↥b<=1)(hc:cA (cE n Γ) b=ba f)(ih:∀{e:Pb}{d:E},cE n Γ e=ba d->GT a e (cH M d))(m:a.xe=λ_ _=>P0) :
  ∀J s Y H Q,Inv a J Y H s->tT a (FD M f) Y H Q->
  wpAny (model a.prog a.w) a.A (forIn b true λc r=>if r=true then do let ok <- isTrue c a.env (eval c a.env);pure (Ri ok)else pure (Ri r)) (TP a J Y Q) (λ_ _=>P0) s:=by
 intro J s Y H Q I h
 match b,hl,hc with
 |[],_,hc=>
  cases hc;obtain⟨A,Z,S,k,S',p,o,e,l⟩:=h;cases e;show wpAny_tests_nil #[H,I,l _ _ #[rfl,A,.refl,o]]
 |[c],_,hc=>
  obtain⟨d,g,i,j,rfl⟩:=kB hc;cases j;have:=ih i _ s Y H Q I h;rw[m]at this;show wpAny_tests_one this
def bc:∀ n {Γ:Gam}{X:Cx}{e:Pb}{u:E},CtxOk M X Γ->cE n Γ e=ba u->GE X e (aA M u)/\GT X e (cH M u):=by
 intro n
 induction n with
 |zero=>intro Γ X e u K h;cases h
 |succ n ih=>
  intro Γ X e u K h;have j:∀{e:Pb}{u:E},cE n Γ e=ba u->GE X e (aA M u):=λq=>(ih K q).1
  have N:∀{e:Pb}{u:E},cE n Γ e=ba u->GT X e (cH M u):=λq=>(ih K q).2
  have U:X.A.units+10<cLine:=by have:=K.un;have:fB=20:=rfl;omega
  cases e with
  |Constant c k p=>
   cases c<;>cases h
   all_goals first
    |show#[kj xZ (λ_ _=>.non),bz (kj xZ (λ_ _=>.non)) λ_=>rfl]
    |show#[kj xY (λ_ _=>.bl),bz (kj xY (λ_ _=>.bl)) λ_=>rfl]
    |show#[kj xX (λ_ _=>.int),bz (kj xX (λ_ _=>.int)) λ_=>rfl]
    |show#[kj nF (λ_ _=>.str),bz (kj nF (λ_ _=>.str)) λ_=>rfl]
  |Name x p=>
   replace h:(match slot Γ x with|some i=>ba (E.v i)|none=>if cZ Γ x then(Γ.cst.lookup x).map E.c else gV)=ba u:=h
   split at h
   next i l=>cases h;show#[Am K l,bz (Am K l) λ_=>rfl]
   ·split at h
    next R=>rw[OG]at h;obtain⟨w,l,rfl⟩:=h;obtain⟨g1,g2⟩:=fQ K R;have g:=HR (pos:=p) g1 g2 (K.cst x w l);show#[g,bz g λ_=>rfl]
    ·cases h
  |BinOp a G b p=>
   replace h:(match uS G,cE n Γ a,cE n Γ b with|some o,ba v,ba B=>ba (E.op o v B)|_,_,_=>gV)=ba u:=h
   split at h
   next o v B l A y=>cases h;have e:=An l;subst e;show#[Fu (um o) (j A) (j y),bz (Fu (um o) (j A) (j y)) λ_=>rfl]
   ·cases h
  |UnaryOp G a p=>
   cases G with
   |Not=>
    replace h:(cE n Γ a).map E.not=ba u:=h;rw[OG]at h;obtain⟨v,l,rfl⟩:=h;show#[Hx (j l),Hu (N l)]
   |USub=>
    replace h:(cE n Γ a).map E.neg=ba u:=h;rw[OG]at h;obtain⟨v,l,rfl⟩:=h;show#[zI (j l),bz (zI (j l)) λ_=>rfl]
   |_=>show af h
  |BoolOp G vs p=>
   replace h:cB (cE n Γ) G vs=ba u:=h;show#[oO j h,(oP N h).pt]
  |Compare a ops Z p=>
   match ops,Z,h with
   |[G],[b],h=>
    replace h:(match jW G,cE n Γ a,cE n Γ b with|some o,ba v,ba B=>ba (E.cmp o v B)|_,_,_=>gV)=ba u:=h
    split at h
    next o v B l A y=>cases h;have e:=lH l;subst e;show#[Hq K.un (j A) (j y) (iM y),Hr K.un (j A) (j y) (iM y)]
    ·cases h
   |[],_,h=>show af h
   |[_],[],h=>show af h
   |[_],_::_::_,h=>show af h
   |[G,op'],[b,d],h=>
    replace h:(match jW G,jW op',cE n Γ a,cE n Γ b,cE n Γ d with|some o,ba o',ba v,ba B,ba d'=>ba (E.chn o o' v B d')|_,_,_,_,_=>gV)=ba u:=h
    split at h
    next o o' v B d' l A y h4 h5=>cases h;have e:=lH l;subst e;have e:=lH A;subst e;show#[zJ K.un (j y) (j h4) (j h5) (iM h5),zK K.un (j y) (j h4) (j h5) (iM h5)]
    ·cases h
   |[_,_],[],h=>show af h
   |[_,_],[_],h=>show af h
   |[_,_],_::_::_::_,h=>show af h
   |_::_::_::_,_,h=>show af h
  |IfExp t a b p=>
   replace h:(match cE n Γ t,cE n Γ a,cE n Γ b with|some t',ba v,ba B=>ba (E.ite t' v B)|_,_,_=>gV)=ba u:=h
   split at h
   next t' v B l A y=>cases h;show#[Hy (N l) (j A) (j y),oM]
   ·cases h
  |Call f args kws p=>
   cases kws with
   |cons _ _=>cases f<;>first|(show af h)|(cases args<;>(show af h))
   |nil=>
    cases f with
    |Name x q=>
     replace h:(if cZ Γ x then match Γ.fns.lookup x with|some k=>(cA (cE n Γ) args).map (E.own x k)|none=>if x==("isinstance": OM)then(if Γ.blt.contains x then HU Γ (cE n Γ) args else gV)else match (generalizing:=false) Eb x,args with|some b,a::as=>if Γ.blt.contains x then(cA (cE n Γ) (a::as)).map (E.bi b)else gV|_,_=>gV else gV)=ba u:=h
     split at h
     ·rename_i R;split at h
      next k hk=>rw[OG]at h;obtain⟨r,T,rfl⟩:=h;have g:=KR (pos:=p) (p:=q) K R hk T (cv j T);show#[g,bz g λ_=>rfl]
      ·split at h
       ·rename_i his;split at h
        next hc=>obtain⟨g,v,c',rfl⟩:=KS (pos:=p) (p:=q) K R his hc j h;show#[g,bz g λ_=>rfl]
        ·cases h
       ·split at h
        ·rename_i bb a as hb;split at h
         next hc=>rw[OG]at h;obtain⟨r,T,rfl⟩:=h;have g:=Ng (pos:=p) (p:=q) K R hb hc T (cv j T);show#[g,bz g λ_=>rfl]
         ·cases h
        ·cases h
     ·cases h
    |Attribute o m q=>
     cases args with
     |nil=>show af h
     |cons a as=>
      replace h:(match Ec m,cE n Γ o,cA (cE n Γ) (a::as)with|some m',ba o',ba es=>if fY o&&(q.endLine==p.line)&&decide ((a::as).length<29)then ba (E.me m' o' es)else gV|_,_,_=>gV)=ba u:=h
      split at h
      ·rename_i m' o' es l A y;split at h
       next hc=>rw[OE,OE,O1]at hc;cases h;have g:=Nh K (cpos:=p) (apos:=q) l hc.1.1 hc.1.2 hc.2 (j A) y (cv j y);show#[g,bz g λ_=>rfl]
       ·cases h
      ·cases h
    |_=>show af h
  |Subscript a b p=>
   have plain:(match cE n Γ a,cE n Γ b with|some v,ba B=>ba (E.ix v B)|_,_=>gV)=ba u->GE X (.Subscript a b p) (aA M u)/\GT X (.Subscript a b p) (cH M u):=λh=>by
    split at h
    next v B l A=>cases h;have g:=KG (pos:=p) U (j l) (j A) (sR A);show#[g,bz g λ_=>rfl]
    ·cases h
   cases b with
   |Slice lo hi st q=>
    cases st with
    |none=>
     replace h:(match cE n Γ a,cP (cE n Γ) lo,cP (cE n Γ) hi with|some v,ba W,ba S=>ba (E.sl v W S)|_,_,_=>gV)=ba u:=h
     split at h
     next v W S l A y=>cases h;have g:=KH (pos:=p) (p2:=q) (j l) (Ap j A) (Ap j y);show#[g,bz g λ_=>rfl]
     ·cases h
    |some z=>show plain h
   |_=>show plain h
  |Tuple es k p=>
   replace h:(cA (cE n Γ) es).map E.tup=ba u:=h;rw[OG]at h;obtain⟨r,l,rfl⟩:=h;show#[zO (cv j l),bz (zO (cv j l)) λ_=>rfl]
  |List es p=>
   replace h:(cA (cE n Γ) es).map E.lst=ba u:=h;rw[OG]at h;obtain⟨r,l,rfl⟩:=h;show#[zP (cv j l),bz (zP (cv j l)) λ_=>rfl]
  |Dict L D p=>
   replace h:Al (cE n Γ) L D=ba u:=h;unfold Al at h;split at h
   next hc=>cases h;rw[OE]at hc;have k0:L=[]:=Xy.mp hc.1;have v0:D=[]:=Xy.mp hc.2;subst k0 v0;show#[DS,oM]
   ·cases h
  |ListComp elt gens scope p=>
   match gens,h with
   |[#[tg,iter,V,P]],h=>
    replace h:(if (P==0)&&(Ak Γ scope&&decide (↥V<=1))then match cI Γ (cE n Γ) tg iter,cT (lF Γ scope) tg,cA (cE n (lF Γ scope)) V,cE n (lF Γ scope) elt with|some it,ba t,ba Z,ba el=>ba (E.comp el t it Z (iL Γ scope.names))|_,_,_,_=>gV else gV)=ba u:=h
    split at h
    ·rename_i hc;rw[OE,OE,O1]at hc;have e0:P=0:=eq_of_beq hc.1;subst e0;replace hc:=hc.2;split at h
     ·rename_i it t Z el l A y h4;cases h;have sc:=uU hc.1;show#[D0 K.calm (sS K j l) (λok=>#[_,mZ K ok sc,?_]) (oN (n:=n) (λel k p=>by cases n<;>rfl) l),oM]
      show#[λC s0 O ex=>qH (d6 K sc C s0 O ex) A,λC s0 O ex J s Y H Q I q=>?_,λC s0 O ex=>(ih (d6 K sc C s0 O ex) h4).1]
      show qI hc.2 y (λz=>(ih (d6 K sc C s0 O ex) z).2) rfl J s Y H Q I q
     ·cases h
    ·cases h
   |[],h=>show af h
   |#[_,_,_,_]::_::_,h=>show af h
  |_=>show af h
noncomputable abbrev aX:OH:=30
abbrev FJ:Pb->O6
 |.Constant (.str _) _ _=>true
 |_=>false
abbrev jG:Pb->O6
 |.ListComp _ _ _ _=>true
 |_=>false
abbrev uW:Pb->O6
 |.Slice _ _ _ _=>true
 |_=>false
abbrev fZ (f:Qj->Oz Sm)(ss:Ow Qj):Oz Ss:=ss.foldr (λs a=>match f s,a with|some c,ba b=>ba (.cons c b)|_,_=>gV) (ba .nil)
abbrev HW:Pb->O6
 |.Tuple vs _ _=>vs.all (foldedForSure 8)
 |_=>false
abbrev HX (Γ:Gam)(ts:Ow Pb)(e:Pb):Oz Sm:=if HW e then(match HV Γ ts,cE aX Γ e with
 |some is,ba a=>ba (.asg is a)
 |_,_=>gV)else gV
abbrev cS:OH->Gam->Qj->Oz Sm
 |0,_,_=>gV
 |n+1,Γ,st=>match st with
  |.Assign [.Name x _] e _=>match bu Γ x,cE aX Γ e with
   |some i,ba d=>ba (.set i d)
   |_,_=>gV
  |.Assign [.Tuple ts _ _] e _=>if isTup e then HX Γ ts e else if jG e then gV else match HV Γ ts,cE aX Γ e with
   |some is,ba d=>ba (.asg is d)
   |_,_=>gV
  |.Assign [.Subscript o k _] e _=>if uW k then gV else match cE aX Γ o,cE aX Γ k,cE aX Γ e with
   |some o',ba g,ba d=>ba (.put o' g d)
   |_,_,_=>gV
  |.Expr e _=>if FJ e then ba .pass else if jG e then gV else(cE aX Γ e).map .ex
  |.Return (ba e) _=>(cE aX Γ e).map .ret
  |.Pass _=>ba .pass
  |.Raise _ _ _=>ba .bad
  |.If t a b _=>match cE aX Γ t,fZ (cS n Γ) a,fZ (cS n Γ) b with
   |some t',ba f,ba c=>ba (.ite t' f c)
   |_,_,_=>gV
  |.While t b [] _=>match cE aX Γ t,fZ (cS n Γ) b with
   |some t',ba c=>ba (.whl t' c)
   |_,_=>gV
  |.For tg it b [] _=>match cT Γ tg,cI Γ (cE aX Γ) tg it,fZ (cS n Γ) b with
   |some t,ba i,ba c=>ba (.loop t i c)
   |_,_,_=>gV
  |_=>gV
variable{fuel:OH}
def iN {f:Qj->Oz Sm}(h:fZ f (s::ss)=ba r):∃c a,f s=ba c/\fZ f ss=ba a/\r=.cons c a:=by
 (dsimp only[fZ]at h;simp only[XZ]at h)
 split at h
 next d b e g=>cases h;show#[d,b,e,g,rfl]
 ·cases h
def eU (ih:∀{st:Qj}{a:Sm},cS n Γ st=ba a->GS X st (cu M fuel a)):∀{ss:Ow Qj}{r:Ss},fZ (cS n Γ) ss=ba r->GSs X ss (bQ M fuel r)
 |[],r,h=>by cases h;show iI
 |s::ss,r,h=>by
  obtain⟨a,d,b,c,rfl⟩:=iN h;show ly (ih b) (eU ih c)
def lL {e:Pb}(h:jG e=false)(n:OH)(hc:cE n Γ e=ba a):swapsWith e t l env=pure false:=by
 cases n with
 |zero=>cases hc
 |succ n=>cases e<;>first|(exfalso;show af hc)|rfl|cases h
def sT (K:CtxOk M X Γ)(h:cE (n+1) Γ (.ListComp b gens scope p)=ba j) :
  ∃tg iter a m g c f e,gens=[#[tg,iter,a,0]]/\aA M j=lD m g c f e/\GI X tg iter m/\(X.Ok->∃cl,CompOk X scope cl (gM scope.names) e/\BlockOk X scope cl (gM scope.names) tg b a g c f)/\∀x,foldedSetIterable iter X.env x=pure x:=by
 match gens,h with
 |[#[tg,iter,a,i]],h=>
  replace h:(if (i==0)&&(Ak Γ _&&decide _)then match cI Γ _ tg _,cT _ tg,cA _ a,cE n _ b with|some it,ba t,ba r,ba l=>ba _|_,_,_,_=>gV else gV)=ba j:=h
  split at h
  next hc=>
   rw[OE,OE,O1]at hc;have u:=eq_of_beq hc.1;subst u;replace hc:=hc.2;split at h
   next it t r l o v w y=>
    cases h;have sc:=uU hc.1;show#[tg,iter,a,_,_,_,_,_,rfl,rfl,sS K (λz=>(bc n K z).1) o,λok=>#[_,mZ K ok sc,?_],oN (n:=n) (λl k p=>by cases n<;>rfl) o]
    show#[λC s0 d ex=>qH (d6 K sc C s0 d ex) v,λC s0 d ex J s Y H Q I q=>?_,λC s0 d ex=>(bc n (d6 K sc C s0 d ex) y).1]
    show qI hc.2 w (λz=>(bc n (d6 K sc C s0 d ex) z).2) rfl _ s Y H Q I q
   ·cases h
  ·cases h
 |[],h=>show af h
 |#[_,_,_,_]::_::_,h=>show af h
def KT (K:CtxOk M X Γ){e:Pb}(hi:bu Γ x=ba i)(q:cE aX Γ e=ba l):GS X (.Assign [.Name x h] e pos) (jA (aA M l) (Fw i)):=by
 obtain⟨a,b,c⟩:=oQ K hi;have r:X.N.Nodup:=by rw[K.N];show K.nd
 have plain:swapsWith e (ba (.Name x h)) pos.line X.env=pure false->GS X (.Assign [.Name x h] e pos) (jA (aA M l) (Fw i)):=λhs=>lz (bc _ K q).1 (oH r a b c) hs (by cases e<;>rfl) rfl
 cases hc:jG e with
 |false=>show plain (lL hc _ q)
 |true=>
  cases e with
  |ListComp m gens scope p=>
   cases d:(X.env.blockKind==.function&&X.env.kindOf x==ba .local&&h.line==p.line && !(scope.names.any λ(n,k)=>n==x&&(k==.local||k==.cell)))with
   |false=>
    show plain ?_;show(pure (X.env.blockKind==.function&&X.env.kindOf x==ba .local&&h.line==p.line && !(scope.names.any λ(n,k)=>n==x&&(k==.local||k==.cell))):Yu O6)=pure false
    rw[d]
   |true=>
    have j:swapsWith (.ListComp m gens scope p) (ba (.Name x h)) pos.line X.env=pure true:=by
     show(pure (X.env.blockKind==.function&&X.env.kindOf x==ba .local&&h.line==p.line && !(scope.names.any λ(n,k)=>n==x&&(k==.local||k==.cell))):Yu O6)=pure true
     rw[d]
    rw[OE,OE,OE]at d;have hl:X.env.scope.names.lookup x=ba .local:=eq_of_beq d.1.1.2;obtain⟨tg,iter,v,y,g,w,f,s,rfl,t,u,o,hs⟩:=sT K q;rw[t];show sO K.calm u o hs j r a hl
  |_=>cases hc
def kC (fuel:OH)(K:CtxOk M X Γ):∀ n {st:Qj}{g:Sm},cS n Γ st=ba g->GS X st (cu M fuel g):=by
 have L:X.N.Nodup:=by rw[K.N];show K.nd
 have own:UF (model X.prog X.w) X.A X.env X.xe:=K.xe;intro n
 induction n with
 |zero=>intro st g h;cases h
 |succ n ih=>
  intro st g h;cases st with
  |Expr e p=>
   replace h:(if FJ e then ba Sm.pass else if jG e then gV else(cE aX Γ e).map Sm.ex)=ba g:=h
   split at h
   next hd=>
    cases h;cases e with
    |Constant c k q=>
     cases c with
     |str x=>show HD
     |_=>cases hd
    |_=>cases hd
   ·split at h
    ·cases h
    next hd hc=>rw[OG]at h;obtain⟨j,d,rfl⟩:=h;show KI (bc _ K d).1 (lL (by simpa using hc) _ d)
  |Return o p=>
   cases o with
   |none=>cases h
   |some e=>
    replace h:(cE aX Γ e).map Sm.ret=ba g:=h;rw[OG]at h;obtain⟨j,d,rfl⟩:=h;show zU (bc _ K d).1
  |Pass p=>cases h;show DH
  |Raise exc w pos=>cases h;show λJ s D Y H I #[A,Z,S,o,S',er,so,e,hq]=>nomatch e
  |If t a b p=>
   replace h:(match cE aX Γ t,fZ (cS n Γ) a,fZ (cS n Γ) b with|some t',ba C,ba r=>ba (Sm.ite t' C r)|_,_,_=>gV)=ba g:=h
   split at h
   next t' C r d f u=>cases h;show Fv (bc _ K d).2 (eU ih f) (eU ih u)
   ·cases h
  |While t b o p=>
   cases o with
   |cons _ _=>show af h
   |nil=>
    replace h:(match cE aX Γ t,fZ (cS n Γ) b with|some t',ba r=>ba (Sm.whl t' r)|_,_=>gV)=ba g:=h
    split at h
    next t' r d f=>cases h;show zW fuel own (bc _ K d).2 (eU ih f)
    ·cases h
  |For tg it b o p=>
   cases o with
   |cons _ _=>show af h
   |nil=>
    replace h:(match cT Γ tg,cI Γ (cE aX Γ) tg it,fZ (cS n Γ) b with|some t,ba i,ba r=>ba (Sm.loop t i r)|_,_,_=>gV)=ba g:=h
    split at h
    next t i r d f u=>cases h;show HK own K.calm (sS K (λz=>(bc _ K z).1) f) (qH K d) (eU ih u) (oN (n:=aX) (λG k p=>rfl) f)
    ·cases h
  |Assign ts e p=>
   match ts,h with
   |[],h=>show af h
   |a::_::_,h=>cases a<;>show af h
   |[t],h=>
    cases t with
    |Name x N=>
     replace h:(match bu Γ x,cE aX Γ e with|some i,ba j=>ba (Sm.set i j)|_,_=>gV)=ba g:=h
     split at h
     next i j d f=>cases h;show KT K d f
     ·cases h
    |Subscript o k q=>
     replace h:(if uW k then gV else match cE aX Γ o,cE aX Γ k,cE aX Γ e with|some o',ba E,ba j=>ba (Sm.put o' E j)|_,_,_=>gV)=ba g:=h
     split at h
     ·cases h
     ·rename_i hc;split at h
      ·rename_i o' E j d f u;cases h;show lz (bc _ K u).1 (HF (by have:=K.un;have:fB=20:=rfl;omega) (bc _ K d).1 (bc _ K f).1 ?_) (by cases e<;>rfl) (by cases e<;>rfl) rfl
       intro v;cases k<;>first|rfl|show absurd rfl hc
      ·cases h
    |Tuple m k q=>
     replace h:(if isTup e then HX Γ m e else if jG e then gV else match HV Γ m,cE aX Γ e with|some is,ba j=>ba (Sm.asg is j)|_,_=>gV)=ba g:=h
     split at h
     ·rename_i ht;unfold HX at h;split at h
      ·rename_i hf;split at h
       ·rename_i is j d f;cases h;cases e with
        |Tuple vs k2 O=>
         show lz (bc _ K f).1 (qH (tg:=.Tuple m k q) (t:=.tp is) K (by(delta cT;simp[d]))) rfl (lC hf) rfl
        |_=>cases ht
       ·cases h
      ·cases h
     ·split at h
      ·cases h
      ·rename_i y B;split at h
       ·rename_i is j d f;cases h;show lz (bc _ K f).1 (qH (tg:=.Tuple m k q) (t:=.tp is) K (by(delta cT;simp[d]))) (lL (t:=ba (.Tuple m k q)) (l:=p.line) (env:=X.env) (by simpa using B) _ f) ?_ rfl
        cases e<;>first|rfl|show absurd rfl y
       ·cases h
    |_=>show af h
  |_=>show af h
structure Df where
 ps:Ow OM
 N:Ow OM
 body:Ss
abbrev bv (N:Ow OM)(ws:Ow W):Fm:=ws.map ba++PN (↥N-↥ws) gV
abbrev ae (defs:Ow (OM×Df))(fuel:OH):OH->OM->FF
 |0,_,_,_=>gV
 |d+1,f,ws,S=>match defs.lookup f with
  |some df=>if ↥ws=↥df.ps then match bQ (ae defs fuel d) fuel df.body (bv df.N ws) S with
    |some (.rt w,S')=>ba (w,S')
    |some (.nx _,S')=>ba (.non,S')
    |_=>gV
   else gV
  |none=>gV
structure Md where
 fns:Ow (OM×OH)
 blt:Ow OM
 cst:Ow (OM×W)
abbrev ft (a:Md)(st:Qj)(N:Ow OM):Gam:={sc:=(aj st).names,N:=N,fns:=a.fns,blt:=a.blt,dfn:=true,own:=[],cst:=a.cst}
abbrev KU (a:Md)(st:Qj)(df:Df):Prop:=fZ (cS 20 (ft a st df.N)) (aS st)=ba df.body
def cw {K:OI}{A:Ow OF}(r:RelL K A H ws vs):EnvRel K A H (bv N ws) (fE N vs):=by
 show#[by(delta bv L2.fE;simp[↥r]),λi w h=>?_]
 unfold bv at h;unfold L2.fE
 by_cases hi:i<↥ws
 ·rw[PH (by simpa using hi),OY]at h
  rw[PH (by rw[OC,<- ↥r];show hi),OY]
  cases q:ws[i]? with
  |none=>rw[q]at h;cases h
  |some c=>
   rw[q]at h;simp only[P3,Pp]at h;subst h;obtain⟨v,a,b⟩:=r.get q;show#[v,by rw[a];rfl,b]
 ·rw[RX (by simpa using hi)]at h
  have:=O7 h;simp at this
variable{P:Pe}{K:OI}{mg:OM->Oz Oy}
section
variable{w:Pk}{base:Pr}
abbrev uX (P:Pe)(w:Pk)(K:OI)(mg:OM->Oz Oy)(base:Pr)(a:Md)(defs:Ow (OM×Df))(fuel d:OH):Prop:=
 ∀f n,a.fns.lookup f=ba n->∃fa fd ps,FnOk P w K mg base mF (d+2) fa fd ps (spF w K n (ae defs fuel d f))/\mg f=ba (.ref fa)/\Qh K (.ref fa)=true/\Binds K fd ps []
structure MdOk (w:Pk)(K:OI)(mg:OM->Oz Oy)(Mqa:Md):Prop where
 blt:∀y∈Mqa.blt,mg y=gV
 cst:∀X:Cx,X.w=w->X.K=K->X.mg=mg->∀x w,Mqa.cst.lookup x=ba w->Aj X x w
def FK {st:Qj}(F:Fun K x c st f fd)(S:FnScope df.N df.ps (aj st))(hd:defs.lookup x=ba df)(hc:KU b st df)
  (r:MdOk w K mg b) (k:uX P w K mg base b defs fuel d):FnOk P w K mg base mF (d+3) f fd df.ps (spF w K ↥df.ps (ae defs fuel (d+1) x)):=by
 show F.ok S (λvs H Q E h=>?_) (λcdv A outer s H vs Q E u h=>?_)
 ·obtain⟨A,S,ws,J,S',_,l,hl,_⟩:=h;rw[<- ↥l];show hl
 ·obtain⟨p,q,ws,J,S',y,l,hl,e,t⟩:=h;have B:CtxOk (ae defs fuel d) (fF mF P w K mg base df.N c (aj st) f cdv A outer s H E).nox (ft b st df.N):=by
   show#[rfl,S.kind,rfl,S.nd,rfl,Uu,?_,λ_ _=>rfl,λ_ h=>(nomatch h),r.blt,r.cst _ rfl rfl rfl,λg n I=>?_]
   ·have:=u.un;show(A.deeper _).units+20<cLine;omega
   ·obtain⟨fa,m,o,j,C,D,G⟩:=k g n I;show#[d+2,fa,m,o,j,u,C,D,G]
  show#[tS _ (bQ (ae defs fuel d) fuel df.body),eU (λz=>kC fuel B 20 z) hc,?_]
  (dsimp only[ae]at e;simp only[hd]at e)
  rw[OZ hl]at e;split at e
  next M S1 j=>
   cases e;show#[p,bv df.N ws,q,_,_,cw l,y,j,#[λi a #[_,_,z,_,_,_]=>(by cases z),λv a #[w2,A2,z0,z1,z2,z3]=>?_,λi a #[_,_,z,_,_,_]=>(by cases z),λi a #[_,_,z,_,_,_]=>(by cases z)]]
   cases z0;show t v a #[A2,z1,z2,z3]
  next L S1 j=>
   cases e;show#[p,bv df.N ws,q,_,_,cw l,y,j,#[λi a #[w2,A2,z0,z1,z2,z3]=>?_,λi a #[_,_,z,_,_,_]=>(by cases z),λi a #[_,_,z,_,_,_]=>(by cases z),λi a #[_,_,z,_,_,_]=>(by cases z)]]
   show t _ a #[A2,z1,z2,.non]
  ·cases e
def xl {ns:Ow O8}(f:yp H)(g:SqL K H a (ns.map V.int)):StoreOk w K [a] H [.fro (ns.map W.int)]/\RelL K [a] H [.ref 0] [.ref a]:=by
 have l:∀ns:Ow O8,RelL K [a] H (ns.map W.int) (ns.map V.int):=by
  intro ns
  induction ns with
  |nil=>show .nil
  |cons n ns ih=>show .cons .int ih
 have e:FroL K H a (ns.map V.int):=by
  rcases g with(h|⟨o,h⟩)|h
  ·rcases f a with z|⟨o,xs,z⟩<;>(rw[z]at h;cases h)
  ·show .inl #[o,h]
  ·show .inr h
 show#[#[rfl,λi j b o u c k d m _ _=>?_,λi o b c d=>?_],.cons (.ref rfl) .nil]
 ·cases i with
  |zero=>simp at c;subst c;cases k
  |succ i=>simp at c
 ·cases i with
  |zero=>
   simp at c d;subst c d;show#[_,e,l ns]
  |succ i=>simp at c
def HY {g:FF}{ns:Ow O8}(h:∃S',g [.ref 0] [.fro (ns.map W.int)]=ba (.bl true,S'))(b:yp H)(c:SqL K H a (ns.map V.int)):spF w K 1 g [.ref a] H (λv _=>v=.bl true) λ_ _ _=>P0:=by
 obtain⟨S',e⟩:=h;obtain⟨f,d⟩:=xl b c;show#[[a],_,_,_,S',f,d,rfl,e,λv j #[i,z1,z2,z3]=>by cases z3;rfl]
end
open PySem PySem.Spec PyProof.Rows L2 Xc
abbrev uY (N:Ow OM)(fs:FS):FF:=λws S=>match fs (bv N ws) S with
 |some (.rt w,S')=>ba (w,S')
 |some (.nx _,S')=>ba (.non,S')
 |_=>gV
abbrev FL (N:Ow OM)(fx:FX):KL:=λws S=>fx (bv N ws) S
section
variable{w:Pk}{base:Pr}
def HZ {st:Qj}(F:Fun K x a st f fd)(S:FnScope N ps (aj st))
  (body:∀ cdv A outer s H E,Room k (A.deeper (envOfC a (aj st) ⇑s.heap.objs f cdv))->HG (fF (CXx P w) P w K mg base N a (aj st) f cdv A outer s H E) cl E (aS st) fs fx) :
  FnOk P w K mg base (CXx P w) (k+1) f fd ps (spX w K cl ↥ps (uY N fs) (FL N fx)):=by
 obtain⟨oc,od,kV,doc,pm,an,cdv,ct,osl,rfl,r,n⟩:=F.ex;show Fk r n S (λvs H Q E h=>?_) λA outer s H vs Q E q o=>#[_,body cdv A outer s H E q,?_]
 ·rcases h with⟨A,S,ws,t,S',_,c,hl,_⟩|⟨A,S,ws,_,_,_,_,_,_,c,hl,_⟩
  ·rw[<- ↥c];show hl
  ·rw[<- ↥c];show hl
 ·rcases o with⟨g,i,ws,t,S',l,c,hl,e,j⟩|⟨g,i,ws,cn,us,S',C,p,l,c,hl,e,hc,j⟩
  ·apply Or.inl;unfold uY at e;split at e
   next y S1 m=>
    cases e;show#[g,bv N ws,i,_,_,cw c,l,m,#[λd b #[_,_,z,_,_,_]=>(by cases z),λv b #[w2,A2,z0,z1,z2,z3]=>?_,λd b #[_,_,z,_,_,_]=>(by cases z),λd b #[_,_,z,_,_,_]=>(by cases z)]]
    cases z0;show j v b #[A2,z1,z2,z3]
   next u S1 m=>
    cases e;show#[g,bv N ws,i,_,_,cw c,l,m,#[λd b #[w2,A2,z0,z1,z2,z3]=>?_,λd b #[_,_,z,_,_,_]=>(by cases z),λd b #[_,_,z,_,_,_]=>(by cases z),λd b #[_,_,z,_,_,_]=>(by cases z)]]
    show j _ b #[A2,z1,z2,.non]
   ·cases e
  ·show .inr #[g,bv N ws,i,cn,us,S',C,p,cw c,l,e,hc,j]
def Ed {s0:OB}{E:L2.XK}:HH (fF (CXx P w) P w K mg base N a scope f d A outer s0 c E) E:=
 λ_ _ _ _ _ _ _ _ b q=>G8 b q
end
def Ia {s0:OB}{E:L2.XK} :
  UF (model P w) (fF (CXx P w) P w K mg base N a scope f c A outer s0 b E).A (fF (CXx P w) P w K mg base N a scope f c A outer s0 b E).env (fF (CXx P w) P w K mg base N a scope f c A outer s0 b E).xe:=ZM
abbrev Wp {α:Type}(o:Oz α)(Q:α->Prop):Prop:=∃a,o=ba a/\Q a
def ag :Wp (ba a) Q↔Q a:=#[λ#[b,e,h]=>(by cases e;show h),λh=>#[a,rfl,h]]
def ah :Wp gV Q↔P0:=#[λ#[b,e,h]=>(by cases e),λh=>h.elim]
def Wp.mono (h:Wp o Q)(k:∀a,Q a->b a):Wp o b:=let ⟨a,e,q⟩:=h;#[a,e,k a q]
variable{Z:Fm}
noncomputable abbrev QW:=W×aa->Prop
def Oi {Q:QW}:Wp (aA M (.c w) Z S) Q↔Q (w,S):=by(delta aA;(delta fC;simp[ag]))
def N3 {Q:QW}:Wp (aA M (.v i) Z S) Q↔∃w,Z[i]?=ba (ba w)/\Q (w,S):=by
 (delta aA;delta fV)
 rcases h:Z[i]? with _|_|w<;>simp[ag,ah]
def Aq {g:W->W->aa->Oz (W×aa)}{Q:QW}:Wp (zG g a b Z S) Q↔Wp (a Z S) λp=>Wp (b Z p.2) λq=>Wp (g p.1 q.1 q.2) Q:=by
 unfold zG;rcases h:a Z S with _|⟨x,S1⟩
 ·simp[ah]
 ·rcases c:b Z S1 with _|⟨y,S2⟩<;>simp[ag,ah,c]
def Ni {Q:QW}:Wp (aA M (.op o a b) Z S) Q↔Wp (aA M a Z S) λp=>Wp (aA M b Z p.2) λq=>Wp (jm o p.1 q.1 q.2) Q:=by show Aq
def FM {Q:QW}:Wp (aA M (.cmp o a b) Z S) Q↔Wp (aA M a Z S) λp=>Wp (aA M b Z p.2) λq=>Wp (b9 o p.1 q.1 q.2) Q:=by show Aq
def Nj {Q:QW}:Wp (aA M (.ix a b) Z S) Q↔Wp (aA M a Z S) λp=>Wp (aA M b Z p.2) λq=>Wp (mL p.1 q.1 q.2) Q:=by show Aq
def KW {Q:QW}:Wp (aA M (.and a b) Z S) Q↔Wp (aA M a Z S) λp=>∃k,p.1=.bl k/\(k=true->Wp (aA M b Z p.2) Q)/\(k=false->Q (.bl false,p.2)):=by
 (delta aA;delta uM)
 rcases h:aA M a Z S with _|⟨x,S1⟩
 ·simp[ag,ah]
 ·cases x<;>simp[ag,ah]
  rename_i b;cases b<;>simp[ag,ah]
def Nk {Q:QW}:Wp (aA M (.or a b) Z S) Q↔Wp (aA M a Z S) λp=>∃k,p.1=.bl k/\(k=true->Q (.bl true,p.2))/\(k=false->Wp (aA M b Z p.2) Q):=by
 (delta aA;delta DA)
 rcases h:aA M a Z S with _|⟨x,S1⟩
 ·simp[ag,ah]
 ·cases x<;>simp[ag,ah]
  rename_i b;cases b<;>simp[ag,ah]
def KY {Q:QW}:Wp (aA M (.not a) Z S) Q↔Wp (aA M a Z S) λp=>∃k,p.1=.bl k/\Q (.bl (!k),p.2):=by
 (delta aA;delta uN)
 rcases h:aA M a Z S with _|⟨x,S1⟩
 ·simp[ag,ah]
 ·cases x<;>simp[ag,ah]
  rename_i k;cases k<;>simp
def KZ {Q:QW}:Wp (aA M (.ite t a b) Z S) Q↔Wp (cH M t Z S) λp=>(p.1=true->Wp (aA M a Z p.2) Q)/\(p.1=false->Wp (aA M b Z p.2) Q):=by
 (delta aA;delta DB)
 rcases h:cH M t Z S with _|⟨x,S1⟩
 ·simp[ah]
 ·cases x<;>simp[ag]
def FN {f:OM}{es:Es}{Q:QW}:Wp (aA M (.own f n es) Z S) Q↔Wp (bP M es Z S) λp=>↥p.1=n/\Wp (M f p.1 p.2) Q:=by
 (delta aA;delta fM)
 rcases h:bP M es Z S with _|⟨x,S1⟩
 ·simp[ag,ah]
 ·by_cases hl:↥x=n<;>simp[ag,ah,hl]
def K1 {es:Es}{Q:QW}:Wp (aA M (.bi b es) Z S) Q↔Wp (bP M es Z S) λp=>Wp (b.fn p.1 p.2) Q:=by
 (delta aA;delta jV)
 rcases h:bP M es Z S with _|⟨x,S1⟩<;>simp[ag,ah]
def Nl {es:Es}{Q:QW}:Wp (aA M (.me m o es) Z S) Q↔Wp (aA M o Z S) λp=>tyOk m.ty p.2 p.1=true/\Wp (bP M es Z p.2) λq=>Wp (m.fn p.1 q.1 q.2) Q:=by
 (delta aA;delta JM)
 rcases h:aA M o Z S with _|⟨x,S1⟩
 ·simp[ag,ah]
 ·by_cases ht:tyOk m.ty S1 x=true
  ·rcases a:bP M es Z S1 with _|⟨y,S2⟩<;>simp[ag,ah,ht,a]
  ·simp[ag,ah,ht]
def Nm {lo :Ep}{Q:QW}:Wp (aA M (.sl a lo hi) Z S) Q↔Wp (aA M a Z S) λp=>Wp (uR M lo Z p.2) λq=>Wp (uR M hi Z q.2) λr=>Wp (md p.1 q.1 r.1 r.2) Q:=by
 (delta aA;delta KF)
 rcases h:aA M a Z S with _|⟨x,S1⟩
 ·simp[ag,ah]
 ·rcases b:uR M lo Z S1 with _|⟨y,S2⟩
  ·simp[ag,ah,b]
  ·rcases c:uR M hi Z S2 with _|⟨z,d⟩<;>simp[ag,ah,b,c]
def Nn :Wp (uR M .no Z S) Q↔Q (gV,S):=by(delta uR;(delta HB;simp[ag]))
def K4 :Wp (uR M (.yes a) Z S) Q↔Wp (aA M a Z S) λp=>∃i,p.1=.int i/\Q (ba i,p.2):=by
 (delta uR;delta uO)
 rcases h:aA M a Z S with _|⟨x,S1⟩
 ·simp[ah]
 ·cases x<;>simp[ag,ah]
def K5 {es:Es}{Q:QW}:Wp (aA M (.tup es) Z S) Q↔Wp (bP M es Z S) λp=>↥p.1<=sizeLine/\Q (.tup p.1,p.2):=by
 (delta aA;(delta wW;revert sg))
 rcases h:bP M es Z S with _|⟨x,S1⟩
 ·simp[ag,ah]
 ·by_cases hl:↥x<=sizeLine<;>simp[ag,ah,hl]
def K6 {es:Es}{Q:QW}:Wp (aA M (.lst es) Z S) Q↔Wp (bP M es Z S) λp=>↥p.1<=sizeLine/\Q (.ref ↥p.2,p.2++[.lst p.1]):=by
 (delta aA;(delta zN;revert nS))
 rcases h:bP M es Z S with _|⟨x,S1⟩
 ·simp[ag,ah]
 ·by_cases hl:↥x<=sizeLine<;>simp[ag,ah,hl]
def FP {Q:QW}:Wp (aA M (.isi c a) Z S) Q↔Wp (aA M a Z S) λp=>∃k,oI p.2 p.1 c=ba k/\Q (.bl k,p.2):=by
 (delta aA;delta z6)
 rcases h:aA M a Z S with _|⟨x,S1⟩
 ·revert ah
 ·cases b:oI S1 x c<;>simp[ag,ah,b]
  rename_i k;cases k<;>simp
def K7 {Q:QW}:Wp (aA M (.neg a) Z S) Q↔Wp (aA M a Z S) λp=>∃i,p.1=.int i/\Q (.int (-i),p.2):=by
 (delta aA;delta zH)
 rcases h:aA M a Z S with _|⟨x,S1⟩
 ·simp[ah]
 ·cases x<;>simp[ag,ah]
def FQ {Q:QW}(h:Wp (aA M a Z S) λp=>Wp (aA M b Z p.2) λq=>∃k,yM o p.1 q.1 q.2=ba k/\(k=true->Wp (aA M d Z q.2) λr=>Wp (eO o' q.1 r.1 r.2) Q)/\(k=false->Q (.bl false,q.2))):Wp (aA M (.chn o o' a b d) Z S) Q:=by
 obtain⟨⟨x,S1⟩,c,⟨y,S2⟩,f,k,g,l,m⟩:=h;have e:aA M (.chn o o' a b d) Z S=fL o o' (aA M a) (aA M b) (aA M d) Z S:=by delta aA
 rw[e];unfold fL;rw[c];dsimp only;rw[f];dsimp only;rw[g];cases k with
 |false=>show#[_,rfl,m rfl]
 |true=>
  obtain⟨⟨z,n⟩,i,⟨r,j,q⟩⟩:=l rfl;rw[i];show#[_,j,q]
def K8 :Wp (bP M .nil Z S) Q↔Q ([],S):=by(delta bP;(delta km;simp[ag,ah]))
def Ib {e:E}{es:Es}:Wp (bP M (.cons e es) Z S) Q↔Wp (aA M e Z S) λp=>Wp (bP M es Z p.2) λq=>Q (p.1::q.1,q.2):=by
 (delta bP;delta dH)
 rcases h:aA M e Z S with _|⟨x,S1⟩
 ·simp[ag,ah]
 ·rcases a:bP M es Z S1 with _|⟨y,S2⟩<;>simp[ag,ah,a]
noncomputable abbrev QB:=O6×aa->Prop
def FR {f:FE}{Q:QB}:Wp (iH f Z S) Q↔Wp (f Z S) λp=>∃k,p.1=.bl k/\Q (k,p.2):=by
 unfold iH;rcases h:f Z S with _|⟨x,S1⟩
 ·revert ah
 ·cases x<;>simp[ag,ah]
  rename_i k;cases k<;>simp
def uZ {f:FE}{Q:QB}:Wp (eT f Z S) Q↔Wp (f Z S) λp=>∃k,gW p.2 p.1=ba k/\Q (k,p.2):=by
 unfold eT;rcases h:f Z S with _|⟨x,S1⟩
 ·revert ah
 ·cases a:gW S1 x<;>simp[ag,ah,a]
  rename_i k;cases k<;>simp
def K9 {Q:QB}:Wp (cH M (.cmp o a b) Z S) Q↔Wp (aA M (.cmp o a b) Z S) λp=>∃k,p.1=.bl k/\Q (k,p.2):=by show FR
def La {Q:QB}:Wp (cH M (.chn o o' a b d) Z S) Q↔Wp (aA M (.chn o o' a b d) Z S) λp=>∃k,p.1=.bl k/\Q (k,p.2):=by show FR
def Lb {Q:QB}:Wp (cH M (.and a b) Z S) Q↔Wp (cH M a Z S) λp=>(p.1=true->Wp (cH M b Z p.2) Q)/\(p.1=false->Q (false,p.2)):=by
 (delta cH;delta zL)
 rcases h:cH M a Z S with _|⟨x,S1⟩
 ·simp[ah]
 ·cases x<;>simp[ag]
def No {Q:QB}:Wp (cH M (.or a b) Z S) Q↔Wp (cH M a Z S) λp=>(p.1=true->Q (true,p.2))/\(p.1=false->Wp (cH M b Z p.2) Q):=by
 (delta cH;delta KB)
 rcases h:cH M a Z S with _|⟨x,S1⟩
 ·simp[ah]
 ·cases x<;>simp[ag]
def Lc {Q:QB}:Wp (cH M (.not a) Z S) Q↔Wp (cH M a Z S) λp=>Q (!p.1,p.2):=by
 (delta cH;delta Dw)
 rcases h:cH M a Z S with _|⟨x,S1⟩<;>simp[ag,ah]
def Oj {Q:QB}:Wp (cH M (.v i) Z S) Q↔Wp (aA M (.v i) Z S) λp=>∃k,gW p.2 p.1=ba k/\Q (k,p.2):=by show uZ
def Ld {f:OM}{es:Es}{Q:QB}:Wp (cH M (.own f n es) Z S) Q↔Wp (aA M (.own f n es) Z S) λp=>∃k,gW p.2 p.1=ba k/\Q (k,p.2):=by show uZ
def Np {es:Es}{Q:QB}:Wp (cH M (.bi b es) Z S) Q↔Wp (aA M (.bi b es) Z S) λp=>∃k,gW p.2 p.1=ba k/\Q (k,p.2):=by show uZ
def Le {Q:QB}:Wp (cH M (.isi c a) Z S) Q↔Wp (aA M (.isi c a) Z S) λp=>∃k,gW p.2 p.1=ba k/\Q (k,p.2):=by show uZ
noncomputable abbrev QO:=Out×aa->Prop
def Lf {Q:QO}:Wp (bQ M fuel .nil Z S) Q↔Q (.nx Z,S):=by(delta bQ;simp[ag])
def Ic {Q:QO}:Wp (bQ M fuel (.cons s ss) Z S) Q↔Wp (cu M fuel s Z S) λp=>(∀a,p.1=.nx a->Wp (bQ M fuel ss a p.2) Q)/\((∀a,p.1≠.nx a)->Q p):=by
 (delta bQ;delta kn)
 rcases h:cu M _ s Z S with _|⟨o,S1⟩
 ·simp[ah]
 ·cases o<;>simp[ag]
def Ar {f:FE}{g:FG}{Q:QO}:Wp (jA f g Z S) Q↔Wp (f Z S) λp=>Wp (g p.1 Z p.2) λq=>Q (.nx q.1,q.2):=by
 unfold jA;rcases h:f Z S with _|⟨x,S1⟩
 ·simp[ah]
 ·rcases a:g x Z S1 with _|⟨y,S2⟩<;>simp[ag,ah,a]
def Ig {e:E}{Q:QO}:Wp (cu M fuel (.set i e) Z S) Q↔Wp (aA M e Z S) λp=>Q (.nx (Z.set i (ba p.1)),p.2):=by
 delta cu;rw[Ar];simp[Fw,ag]
def Ih {e:E}{Q:QO}:Wp (cu M fuel (.asg is e) Z S) Q↔Wp (aA M e Z S) λp=>∃ws a,p.1=.tup ws/\jy is ws Z=ba a/\Q (.nx a,p.2):=by
 delta cu;rw[Ar]
 constructor
 ·show λh=>h.mono λp d=>?_
  obtain⟨w,S1⟩:=p;obtain⟨q,b,c⟩:=d;cases w with
  |tup ws=>
   simp only[JN,OG]at b;obtain⟨a,g,rfl⟩:=b;show#[ws,a,rfl,g,c]
  |_=>cases b
 ·show λh=>h.mono λp d=>?_
  obtain⟨w,S1⟩:=p;obtain⟨ws,a,f,b,c⟩:=d;subst f;show#[(a,S1),by simp[JN,b],c]
def Ii { k e:E}{Q:QO}:Wp (cu M fuel (.put o k e) Z S) Q↔Wp (aA M e Z S) λp=>Wp (aA M o Z p.2) λq=>Wp (aA M k Z q.2) λr=>∃S',ki q.1 r.1 p.1 r.2=ba S'/\Q (.nx Z,S'):=by
 delta cu;rw[Ar]
 rcases h:aA M e Z S with _|⟨x,S1⟩
 ·simp[ah]
 ·revert ag;unfold DI;rcases d:aA M o Z S1 with _|⟨y,S2⟩
  ·simp[ah]
  ·rcases a:aA M k Z S2 with _|⟨z,b⟩
   ·simp[ag,ah,a]
   ·cases c:ki y z x b<;>simp[ag,ah,a,c]
def Lg {e:E}{Q:QO}:Wp (cu M fuel (.ex e) Z S) Q↔Wp (aA M e Z S) λp=>Q (.nx Z,p.2):=by
 (delta cu;delta zR)
 rcases h:aA M e Z S with _|⟨x,S1⟩<;>simp[ag,ah]
def Ij {e:E}{Q:QO}:Wp (cu M fuel (.ret e) Z S) Q↔Wp (aA M e Z S) λp=>Q (.rt p.1,p.2):=by
 (delta cu;delta qo)
 rcases h:aA M e Z S with _|⟨x,S1⟩<;>simp[ag,ah]
def Ik {Q:QO}:Wp (cu M fuel (.ite t a b) Z S) Q↔Wp (cH M t Z S) λp=>(p.1=true->Wp (bQ M fuel a Z p.2) Q)/\(p.1=false->Wp (bQ M fuel b Z p.2) Q):=by
 (delta cu;delta gC)
 rcases h:cH M t Z S with _|⟨x,S1⟩
 ·simp[ah]
 ·cases x<;>simp[ag]
abbrev As (I:Fm->aa->Prop)(Q:QO)(o:Out×aa):Prop:=match o.1 with
 |.nx a=>I a o.2
 |.ct a=>I a o.2
 |.bk a=>Q (.nx a,o.2)
 |.rt w=>Q (.rt w,o.2)
def jH {g:FG}{xs:Ow W}(I:OH->Fm->aa->Prop)(f:∀i Z S,I i Z S->mi.at S i=ba xs[i]?)
  (a:∀i w Z S,xs[i]?=ba w->I i Z S->Wp (g w Z S) λq=>Wp (b q.1 q.2) (As (I (i+1)) Q)) (c:∀Z S,I ↥xs Z S->Q (.nx Z,S)):∀ n i Z S,i+n=↥xs->I i Z S->Wp (fN mi g b n i Z S) Q
 |0,i,Z,S,hl,h=>by
  have e:mi.at S i=ba gV:=by rw[f i Z S h,VW ∅]
  change Wp (match mi.at S i with
  |some gV=>ba (Out.nx Z,S)
  |_=>gV) Q
  rw[e];have hi:i=↥xs:=∅
  show ag.mpr (c Z S (hi▸h))
 |n+1,i,Z,S,hl,h=>by
  have hi:i<↥xs:=∅
  have e:mi.at S i=ba (ba xs[i]):=by rw[f i Z S h,ON hi]
  obtain⟨⟨k,S1⟩,l,⟨o,S2⟩,m,j⟩:=a i _ Z S (ON hi) h;change Wp (match mi.at S i with
  |some (ba w)=>match g w Z S with
   |some (k,S1)=>match b k S1 with
    |some (.nx d,S2)=>fN mi g b n (i+1) d S2
    |some (.ct d,S2)=>fN mi g b n (i+1) d S2
    |some (.bk d,S2)=>ba (.nx d,S2)
    |some (.rt w,S2)=>ba (.rt w,S2)
    |none=>gV
   |none=>gV
  |_=>gV) Q
  rw[e];dsimp only
  rw[l];dsimp only
  rw[m];cases o with
  |nx d=>show jH I f a c n _ d S2 ∅ j
  |ct d=>show jH I f a c n _ d S2 ∅ j
  |bk d=>show ag.mpr j
  |rt w=>show ag.mpr j
def Lh {g:FG}{Q:QO}:Wp (zY a g b Z S) Q↔Wp (a Z S) λp=>∃n,p.1.len p.2=ba n/\Wp (fN p.1 g b n 0 Z p.2) Q:=by
 unfold zY;rcases h:a Z S with _|⟨mi,S1⟩
 ·simp[ah]
 ·cases c:mi.len S1<;>simp[ag,ah,c]
def c6 {g:FG}{f:FE}{xs:Ow W}{Q:Ow W×aa->Prop}(I:OH->Ow W->Fm->aa->Prop)(h:∀i a Z S,I i a Z S->mi.at S i=ba xs[i]?)
  (b:∀i w a Z S,xs[i]?=ba w->I i a Z S->Wp (g w Z S) λq=>Wp (c q.1 q.2) λk=>(k.1=true->Wp (f q.1 k.2) λy=>I (i+1) (a++[y.1]) q.1 y.2)/\(k.1=false->I (i+1) a q.1 k.2))
  (d:∀a Z S,I ↥xs a Z S->Q (a,S)):∀ n i a Z S,i+n=↥xs->I i a Z S->Wp (bj mi g c f n i Z S) λp=>Q (a++p.1,p.2)
 |0,i,a,Z,S,hl,l=>by
  have e:mi.at S i=ba gV:=by rw[h i a Z S l,VW ∅]
  change Wp (match mi.at S i with
  |some gV=>ba ([],S)
  |_=>gV) _
  rw[e];show ag.mpr ?_;have:i=↥xs:=∅
  simpa using d a Z S (this▸l)
 |n+1,i,a,Z,S,hl,l=>by
  have hi:i<↥xs:=∅
  have e:mi.at S i=ba (ba xs[i]):=by rw[h i a Z S l,ON hi]
  obtain⟨⟨j,S1⟩,r,⟨k,S2⟩,s,t,u⟩:=b i _ a Z S (ON hi) l;change Wp (match mi.at S i with
  |some (ba w)=>match g w Z S with
   |some (j,S1)=>match c j S1 with
    |some (true,S2)=>match f j S2 with
     |some (y,m)=>match bj mi g c f n (i+1) j m with
      |some (a,o)=>ba (y::a,o)
      |none=>gV
     |none=>gV
    |some (false,S2)=>bj mi g c f n (i+1) j S2
    |none=>gV
   |none=>gV
  |_=>gV) _
  rw[e];dsimp only
  rw[r];dsimp only
  rw[s];cases k with
  |true=>
   obtain⟨⟨y,m⟩,v,x⟩:=t rfl;dsimp only;rw[v];dsimp only
   obtain⟨⟨B,o⟩,z,A⟩:=c6 I h b d n _ (a++[y]) j m ∅ x
   rw[z];show ag.mpr (by simpa using A)
  |false=>show c6 I h b d n _ a j S2 ∅ (u rfl)
def At {Q:QW}:Wp (aA M (.comp b tg it c a) Z S) Q↔Wp (iK M it Z S) λp=>∃n,p.1.len p.2=ba n/\Wp (bj p.1 (sQ tg) (FD M c) (aA M b) n 0 (cr a Z) p.2) λq=>↥q.1<=sizeLine/\Q (.ref ↥q.2,q.2++[.lst q.1]):=by
 (delta aA;delta lD nS)
 rcases h:iK M it Z S with _|⟨mi,S1⟩
 ·simp[ah]
 ·rcases d:mi.len S1 with _|n
  ·simp[ag,ah,d]
  ·rcases e:bj mi (sQ tg) (FD M c) (aA M b) n 0 (cr a Z) S1 with _|⟨f,S2⟩
   ·simp[ag,ah,d,e]
   ·by_cases hl:↥f<=sizeLine<;>simp[ag,ah,d,e,hl]
def Li {Q:QB}:Wp (FD M .nil Z S) Q↔Q (true,S):=by(delta FD;(delta Fz;simp[ag]))
def Lj {e:E}{Q:QB}:Wp (FD M #v[e] Z S) Q↔Wp (cH M e Z S) Q:=by show Iff.rfl
def lM (I:OH->Fm->aa->Prop)(a:∀m Z S,I m Z S->Wp (c Z S) λk=>(k.1=true->∃e,m=e+1/\Wp (b Z k.2) (As (I e) Q))/\(k.1=false->Q (.nx Z,k.2))) :
  ∀ n m Z S,m<n->I m Z S->Wp (lA c b n Z S) Q
 |0,m,Z,S,h,_=>by show absurd ‹_› (QP _)
 |n+1,m,Z,S,h,q=>by
  obtain⟨⟨k,S1⟩,i,j,l⟩:=a m Z S q;change Wp (match c Z S with
  |some (true,S1)=>match b Z S1 with
   |some (.nx d,S2)=>lA c b n d S2
   |some (.ct d,S2)=>lA c b n d S2
   |some (.bk d,S2)=>ba (.nx d,S2)
   |some (.rt w,S2)=>ba (.rt w,S2)
   |none=>gV
  |some (false,S1)=>ba (.nx Z,S1)
  |none=>gV) Q
  rw[i];cases k with
  |false=>show ag.mpr (l rfl)
  |true=>
   obtain⟨e,rfl,⟨o,S2⟩,p,g⟩:=j rfl;dsimp only;rw[p];cases o with
   |nx f=>show lM I a n e f S2 ∅ g
   |ct f=>show lM I a n e f S2 ∅ g
   |bk f=>show ag.mpr g
   |rt w=>show ag.mpr g
def xn {f:OM}{Q:QW}(h:defs.lookup f=ba df)(hl:↥ws=↥df.ps)
  (c:Wp (bQ (ae defs fuel d) fuel df.body (bv df.N ws) S) λp=>match p.1 with|.rt w=>Q (w,p.2)|.nx _=>Q (.non,p.2)|_=>P0):Wp (ae defs fuel (d+1) f ws S) Q:=by
 obtain⟨⟨o,S1⟩,b,a⟩:=c;change Wp (match defs.lookup f with
  |some df=>if ↥ws=↥df.ps then match bQ (ae defs fuel d) fuel df.body (bv df.N ws) S with
    |some (.rt w,S')=>ba (w,S')
    |some (.nx _,S')=>ba (.non,S')
    |_=>gV
   else gV
  |none=>gV) Q
 rw[h];dsimp only
 rw[OZ hl,b];cases o with
 |rt w=>show ag.mpr a
 |nx Z=>show ag.mpr a
 |bk _=>show a.elim
 |ct _=>show a.elim
variable{Q:QW}
def gN :jm .add (.int a) (.int b) S=ba (.int (a+b),S):=rfl
def Au :jm .sub (.int a) (.int b) S=ba (.int (a-b),S):=rfl
def oR {f:O8->O8->O8}{i :O8}(h:c i j=true):CQ c f (.int i) (.int j) S=ba (.int (f i j),S):=by
 unfold CQ;dsimp only;rw[OZ h]
def u4 (h : -(2^64)<b)(c:b<2^64):jm .mul (.int a) (.int b) S=ba (.int (a*b),S):=oR   (by
 unfold CP;revert Qn OE O1;show .inr #[h,c])
def qJ (h:0<b):jm .mod (.int a) (.int b) S=ba (.int (a % b),S):=oR (c:=λ_ j=>decide (0<j))  (Pq h)
def Av (h:0<b)(d:b<1073741824):jm .fdiv (.int a) (.int b) S=ba (.int (a/b),S):=oR (c:=λ_ j=>CO j)  (by
 unfold CO;revert OE O1;show#[h,d])
def Il:jm .pow (.int 10) (.int 18) S=ba (.int 1000000000000000000,S):=rfl
def Im (h:↥x+↥y<=sizeLine):jm .add (.str x) (.str y) S=ba (.str (x++y),S):=(OZ h:(if ↥x+↥y<=sizeLine then ba (W.str (x++y),S)else gV)=_)
def dj (h:(xs++a).length<=sizeLine):jm .add (.tup xs) (.tup a) S=ba (.tup (xs++a),S):=(OZ h:(if (xs++a).length<=sizeLine then ba (W.tup (xs++a),S)else gV)=_)
def dI (h:S[r]?=ba (.lst xs)):pE S r=ba xs:=by unfold pE;rw[h]
def oU (b:S[i]?=ba (.lst xs))(c:S[j]?=ba (.lst a))(h:(xs++a).length<=sizeLine):jm .add (.ref i) (.ref j) S=ba (.ref ↥S,S++[.lst (xs++a)]):=by
 show(match pE S i,pE S j with
  |some xs,ba a=>nS S (xs++a)
  |_,_=>gV)=_
 rw[dI b,dI c];show OZ h
def Io (hs:dF S y=ba a)(hf:(cm x&&a.all cm)=true)(c:(a.any λz=>C6 z x)=b):wb x y S=ba b:=by
 unfold wb;rw[hs];dsimp only
 rw[OZ hf,c]
def Ee (h:wb x y S=ba b):eO .notin x y S=ba (.bl (!b),S):=by
 change ZE _ (ZE _ (wb x y S))=_;rw[h];rfl
def eW :b9 .eq (.int a) (.int b) S=ba (.bl (a==b),S):=rfl
def Ef :b9 .ne (.int a) (.int b) S=ba (.bl (!(a==b)),S):=rfl
def Aw :b9 .lt (.int a) (.int b) S=ba (.bl (decide (a<b)),S):=rfl
def Nq :b9 .le (.int a) (.int b) S=ba (.bl (decide (a<=b)),S):=rfl
def Nr :b9 .gt (.int a) (.int b) S=ba (.bl (decide (a > b)),S):=rfl
def FU :b9 .eq (.str a) (.str b) S=ba (.bl (a==b),S):=rfl
def az (h:S[r]?=ba (.lst xs)):gy S r=ba xs:=by unfold gy;rw[h]
def Eg (h:S[r]?=ba (.fro xs)):gy S r=ba xs:=by unfold gy;rw[h]
def oV (h:S[r]?=ba (.lst xs)):xS S r=gV:=by unfold xS;rw[h]
def Eh (h:S[r]?=ba (.dic U)):xS S r=ba U:=by unfold xS;rw[h]
def Ei (h:S[r]?=ba (.dic U)):gy S r=gV:=by unfold gy;rw[h]
def atI_nat {j:OH}(h:xs[j]?=ba w):nL xs j=ba w:=by
 have hl:=(OS.mp h).1;unfold nL uc;rw[OZ (PD j),OZ (by exact_mod_cast hl)]
 simpa using h
def oW {i:O8}(a:0<=i)(h:xs[i.toNat]?=ba w):nL xs i=ba w:=by
 have:=atI_nat h
 rwa [Wn a]at this
def Ax {i:O8}(h:S[r]?=ba (.lst xs))(a:0<=i)(hw:xs[i.toNat]?=ba w):mL (.ref r) (.int i) S=ba (w,S):=by
 change yO (.ref r) (.int i) S=_;unfold yO;dsimp only
 rw[az h];dsimp only
 rw[oW a hw];rfl
def Lk {i:O8}(a:0<=i)(hw:xs[i.toNat]?=ba w):mL (.tup xs) (.int i) S=ba (w,S):=by
 change yO (.tup xs) (.int i) S=_;show(nL xs i).map _=_;rw[oW a hw];rfl
def FV {i:O8}(b:↥x<=sizeLine)(a:0<=i)(hw:x.cps.toList[i.toNat]?=ba c):mL (.str x) (.int i) S=ba (.str #[[c].toArray],S):=by
 change yO (.str x) (.int i) S=_;show(if ↥x<=sizeLine then(nL x.cps.toList i).map λc=>(W.str #[[c].toArray],S)else gV)=_
 rw[OZ b,oW a hw];rfl
def Ll {i:O8}(h:S[r]?=ba (.lst xs))(a:0<=i)(hi:i.toNat<↥xs):ki (.ref r) (.int i) w S=ba (S.set r (.lst (xs.set i.toNat w))):=by
 change we (.ref r) (.int i) w S=_;have:uc ↥xs i=ba i.toNat:=by
  unfold uc;rw[OZ a,OZ ∅]
 unfold we;dsimp only
 rw[dI h];dsimp only
 rw[this]
def FW (h:S[r]?=ba (.lst xs)):Bi.len.fn [.ref r] S=ba (.int ↥xs,S):=by
 (delta Bi.fn D9 sj;simp[az h])
def FY (h:S[r]?=ba (.lst xs))(hl:↥xs<sizeLine):iy (.ref r) [y] S=ba (.non,S.set r (.lst (xs++[y]))):=by
 unfold iy;dsimp only
 rw[dI h];show OZ hl
def Lm (h:S[r]?=ba (.lst xs)):kY [.ref r] S=ba (.tup xs,S):=by
 (delta kY;simp[az h])
def jI (h:S[r]?=ba (.lst xs)):tyOk "list" S (.ref r)=true:=by simp[tyOk,az h]
def fR (h:S[r]?=ba o):(S.set r o')[r]?=ba o':=by
 rw[Qv,OZ rfl,OZ (OS.mp h).1]
def iO (h:r≠j):(S.set r o')[j]?=S[j]?:=by rw[Qv,Pd h]
def ak :(S++[o])[↥S]?=ba o:=by simp
def aV {j:OH}(h:S[j]?=ba o):(S++[u])[j]?=ba o:=by rw[PH (OS.mp h).1];show h
def qK (h:S[j]?=ba o):j<↥S:=(OS.mp h).1
structure Kp (r:OH)(S S':aa):Prop where
 get:∀j o,j≠r->S[j]?=ba o->S'[j]?=ba o
 len:↥S<=↥S'
def Kp.refl :Kp r S S:=#[λ_ _ _ h=>h,OR _]
def Kp.trans (a:Kp r S S')(b:Kp r S' c):Kp r S c:=#[λj o n h=>b.get j o n (a.get j o n h),OQ a.len b.len]
def Kp.set :Kp r S (S.set r o):=#[λj u n h=>by rw[iO (Ne.symm n)];show h,by simp]
def Kp.push :Kp r S (S++[o]):=#[λj u n h=>aV h,by simp]
def Kp.late (a:Kp r b S)(h:↥b<=t):Kp r b (S.set t o):=
 #[λj u n e=>by
  have:=qK e;rw[iO ∅];show a.get j u n e,by simpa using a.len]
abbrev wO {α:Type}(o:Oz α)(Q:α->Prop):Prop:=match o with
 |some a=>Q a
 |none=>P0
def bd {Q:α->Prop}(h:wO o Q):Wp o Q:=by
 cases o with
 |none=>show h.elim
 |some a=>show#[a,rfl,h]
def Ln {Q:α->Prop}(h:Wp o Q):wO o Q:=by
 obtain⟨a,rfl,q⟩:=h;show q
def ac {Q:α->Prop}(e:o=ba a)(h:Q a):wO o Q:=by subst e;show h
abbrev wB:W->(O6->Prop)->Prop
 |.bl k,Q=>Q k
 |_,_=>P0
abbrev wN:W->(O8->Prop)->Prop
 |.int k,Q=>Q k
 |_,_=>P0
abbrev wU:W->(Ow W->Prop)->Prop
 |.tup k,Q=>Q k
 |_,_=>P0
def qL {Q:O6->Prop}(h:wB w Q):∃k,w=.bl k/\Q k:=by cases w<;>first|show h.elim|show#[_,rfl,h]
def FZ {Q:O8->Prop}(h:wN w Q):∃k,w=.int k/\Q k:=by cases w<;>first|show h.elim|show#[_,rfl,h]
def Lo {Q:Ow W->Prop}(h:wU w Q):∃k,w=.tup k/\Q k:=by cases w<;>first|show h.elim|show#[_,rfl,h]
abbrev w2:Ow W->(W->W->Prop)->Prop
 |[x,y],Q=>Q x y
 |_,_=>P0
abbrev w3:Ow W->(W->W->W->Prop)->Prop
 |[x,y,z],Q=>Q x y z
 |_,_=>P0
abbrev wG:Oz W->(W->Prop)->Prop
 |some w,Q=>Q w
 |none,_=>P0
abbrev wV:Fm->OH->(W->Prop)->Prop
 |[],_,_=>P0
 |o::_,0,Q=>wG o Q
 |_::Z,n+1,Q=>wV Z n Q
def Ay {Q:W->Prop}:∀{Z:Fm}{i:OH},wV Z i Q->∃w,Z[i]?=ba (ba w)/\Q w
 |[],i,h=>h.elim
 |some w::Z,0,h=>#[w,rfl,h]
 |none::Z,0,h=>h.elim
 |x::Z,n+1,h=>by
  obtain⟨w,a,q⟩:=Ay  (i:=n) h;show#[w,a,q]
abbrev aY (M:OM->FF)(f:OM)(n:OH)(ws:Ow W)(S:aa):Oz (W×aa):=if ↥ws=n then M f ws S else gV
section
variable (M:OM->FF) (fuel:OH)
mutual
def wE:E->Fm->aa->QW->Prop
 |.c w,_,S,Q=>Q (w,S)
 |.v i,Z,S,Q=>wV Z i λw=>Q (w,S)
 |.sem g,Z,S,Q=>wO (g Z S) Q
 |.op o a b,Z,S,Q=>wE a Z S λp=>wE b Z p.2 λq=>wO (jm o p.1 q.1 q.2) Q
 |.cmp o a b,Z,S,Q=>wE a Z S λp=>wE b Z p.2 λq=>wO (b9 o p.1 q.1 q.2) Q
 |.and a b,Z,S,Q=>wE a Z S λp=>wB p.1 λk=>(k=true->wE b Z p.2 Q)/\(k=false->Q (.bl false,p.2))
 |.or a b,Z,S,Q=>wE a Z S λp=>wB p.1 λk=>(k=true->Q (.bl true,p.2))/\(k=false->wE b Z p.2 Q)
 |.not a,Z,S,Q=>wE a Z S λp=>wB p.1 λk=>Q (.bl (!k),p.2)
 |.own f n es,Z,S,Q=>wA es Z S λp=>wO (aY M f n p.1 p.2) Q
 |.bi b es,Z,S,Q=>wA es Z S λp=>wO (b.fn p.1 p.2) Q
 |.me m o es,Z,S,Q=>wE o Z S λp=>tyOk m.ty p.2 p.1=true/\wA es Z p.2 λq=>wO (m.fn p.1 q.1 q.2) Q
 |.ix a b,Z,S,Q=>wE a Z S λp=>wE b Z p.2 λq=>wO (mL p.1 q.1 q.2) Q
 |.sl a lo hi,Z,S,Q=>wE a Z S λp=>wP lo Z p.2 λq=>wP hi Z q.2 λr=>wO (md p.1 q.1 r.1 r.2) Q
 |.tup es,Z,S,Q=>wA es Z S λp=>Q (.tup p.1,p.2)
 |.lst es,Z,S,Q=>wA es Z S λp=>Q (.ref ↥p.2,p.2++[.lst p.1])
 |.isi c a,Z,S,Q=>wE a Z S λp=>wO (oI p.2 p.1 c) λk=>Q (.bl k,p.2)
 |.neg a,Z,S,Q=>wE a Z S λp=>wN p.1 λi=>Q (.int (-i),p.2)
 |.dnew,_,S,Q=>Q (.ref ↥S,S++[.dic []])
 |.chn o o' a b d,Z,S,Q=>wE a Z S λp=>wE b Z p.2 λq=>wO (yM o p.1 q.1 q.2) λk=>(k=true->wE d Z q.2 λr=>wO (eO o' q.1 r.1 r.2) Q)/\(k=false->Q (.bl false,q.2))
 |.ite t a b,Z,S,Q=>wT t Z S λp=>(p.1=true->wE a Z p.2 Q)/\(p.1=false->wE b Z p.2 Q)
 |.comp elt tg it cs cap,Z,S,Q=>Wp (aA M (.comp elt tg it cs cap) Z S) Q
def wT:E->Fm->aa->QB->Prop
 |.cmp o a b,Z,S,Q=>wE a Z S λp=>wE b Z p.2 λq=>wO (b9 o p.1 q.1 q.2) λr=>wB r.1 λk=>Q (k,r.2)
 |.and a b,Z,S,Q=>wT a Z S λp=>(p.1=true->wT b Z p.2 Q)/\(p.1=false->Q (false,p.2))
 |.or a b,Z,S,Q=>wT a Z S λp=>(p.1=true->Q (true,p.2))/\(p.1=false->wT b Z p.2 Q)
 |.not a,Z,S,Q=>wT a Z S λp=>Q (!p.1,p.2)
 |.isi c a,Z,S,Q=>wE a Z S λp=>wO (oI p.2 p.1 c) λk=>Q (k,p.2)
 |.c w,Z,S,Q=>Wp (cH M (.c w) Z S) Q
 |.v i,Z,S,Q=>wV Z i λw=>wO (gW S w) λk=>Q (k,S)
 |.sem g,Z,S,Q=>wO (g Z S) λq=>wO (gW q.2 q.1) λk=>Q (k,q.2)
 |.op o a b,Z,S,Q=>Wp (cH M (.op o a b) Z S) Q
 |.own f n es,Z,S,Q=>wA es Z S λp=>wO (aY M f n p.1 p.2) λq=>wO (gW q.2 q.1) λk=>Q (k,q.2)
 |.bi b es,Z,S,Q=>wA es Z S λp=>wO (b.fn p.1 p.2) λq=>wO (gW q.2 q.1) λk=>Q (k,q.2)
 |.me m o es,Z,S,Q=>Wp (cH M (.me m o es) Z S) Q
 |.ix a b,Z,S,Q=>Wp (cH M (.ix a b) Z S) Q
 |.sl a lo hi,Z,S,Q=>Wp (cH M (.sl a lo hi) Z S) Q
 |.tup es,Z,S,Q=>Wp (cH M (.tup es) Z S) Q
 |.lst es,Z,S,Q=>Wp (cH M (.lst es) Z S) Q
 |.neg a,Z,S,Q=>Wp (cH M (.neg a) Z S) Q
 |.dnew,Z,S,Q=>Wp (cH M .dnew Z S) Q
 |.chn o o' a b d,Z,S,Q=>wE a Z S λp=>wE b Z p.2 λq=>wO (yM o p.1 q.1 q.2) λk=>(k=true->wE d Z q.2 λr=>wO (eO o' q.1 r.1 r.2) λs=>wB s.1 λc=>Q (c,s.2))/\(k=false->Q (false,q.2))
 |.ite t a b,Z,S,Q=>Wp (cH M (.ite t a b) Z S) Q
 |.comp elt tg it cs cap,Z,S,Q=>Wp (cH M (.comp elt tg it cs cap) Z S) Q
def wA:Es->Fm->aa->(Ow W×aa->Prop)->Prop
 |.nil,_,S,Q=>Q ([],S)
 |.cons e es,Z,S,Q=>wE e Z S λp=>wA es Z p.2 λq=>Q (p.1::q.1,q.2)
def wP:Ep->Fm->aa->(Oz O8×aa->Prop)->Prop
 |.no,_,S,Q=>Q (gV,S)
 |.yes a,Z,S,Q=>wE a Z S λp=>wN p.1 λi=>Q (ba i,p.2)
end
abbrev sU (K:Fm->aa->Prop)(Q:QO)(p:Out×aa):Prop:=match p.1 with
 |.nx Z=>K Z p.2
 |o=>Q (o,p.2)
mutual
def wS:Sm->Fm->aa->(Fm->aa->Prop)->QO->Prop
 |.sem g,Z,S,K,Q=>wO (g M Z S) (sU K Q)
 |.set i e,Z,S,K,_=>wE M e Z S λp=>K (Z.set i (ba p.1)) p.2
 |.asg is e,Z,S,K,_=>wE M e Z S λp=>wU p.1 λws=>wO (jy is ws Z) λc=>K c p.2
 |.put o k e,Z,S,K,_=>wE M e Z S λp=>wE M o Z p.2 λq=>wE M k Z q.2 λr=>wO (ki q.1 r.1 p.1 r.2) λS'=>K Z S'
 |.ex e,Z,S,K,_=>wE M e Z S λp=>K Z p.2
 |.ret e,Z,S,_,Q=>wE M e Z S λp=>Q (.rt p.1,p.2)
 |.pass,Z,S,K,_=>K Z S
 |.bad,_,_,_,_=>P0
 |.ite t a b,Z,S,K,Q=>wT M t Z S λp=>∀d:QO,(∀c S',K c S'->d (.nx c,S'))->(∀o S',(∀c,o≠.nx c)->Q (o,S')->d (o,S'))->(p.1=true->Ej a Z p.2 d)/\(p.1=false->Ej b Z p.2 d)
 |.whl t b,Z,S,K,Q=>Wp (cu M fuel (.whl t b) Z S) (sU K Q)
 |.loop tg it b,Z,S,K,Q=>Wp (cu M fuel (.loop tg it b) Z S) (sU K Q)
def Ej:Ss->Fm->aa->QO->Prop
 |.nil,Z,S,Q=>Q (.nx Z,S)
 |.cons s ss,Z,S,Q=>wS s Z S (λc S'=>Ej ss c S' Q) Q
end
end
abbrev JO:Es->OH
 |.nil=>0
 |.cons _ es=>JO es+1
mutual
def ci:E->O6
 |.c _|.v _|.sem _|.comp _ _ _ _ _|.dnew=>true
 |.op _ a b|.cmp _ a b|.and a b|.or a b|.ix a b=>ci a&&ci b
 |.chn _ _ a b c|.ite a b c=>ci a&&ci b&&ci c
 |.neg a|.not a|.isi _ a=>ci a
 |.own _ n es=>JO es==n&&rM es
 |.bi _ es=>rM es
 |.me _ o es=>ci o&&rM es
 |.sl a lo hi=>ci a&&Nt lo&&Nt hi
 |.tup es|.lst es=>decide (JO es<=1000)&&rM es
def rM:Es->O6
 |.nil=>true
 |.cons e es=>ci e&&rM es
def Nt:Ep->O6
 |.no=>true
 |.yes e=>ci e
end
mutual
def N4:Sm->O6
 |.set _ e|.asg _ e|.ex e|.ret e=>ci e
 |.put o k e=>ci o&&ci k&&ci e
 |.ite t a b=>ci t&&iP a&&iP b
 |_=>true
def iP:Ss->O6
 |.nil=>true
 |.cons s ss=>N4 s&&iP ss
end
def f8:∀{es:Es}{Z:Fm}{S S':aa}{ws:Ow W},bP M es Z S=ba (ws,S')->↥ws=JO es
 |.nil,Z,S,S',ws,h=>by cases h;rfl
 |.cons e es,Z,S,S',ws,h=>by
  dsimp only[bP]at h;unfold dH at h;split at h
  ·split at h
   next a=>cases h;rw[Po,f8 a];rfl
   ·cases h
  ·cases h
def Az (h:decide (n<=1000)=true):n<=sizeLine:=OQ (PC h) #v[]
def Lp {g:FE}{Q:QB}(h:wO (g Z S) λq=>wO (gW q.2 q.1) λk=>Q (k,q.2)):Wp (eT g Z S) Q:=by
 obtain⟨⟨w,S1⟩,e,b⟩:=bd h;obtain⟨k,a,q⟩:=bd b;show#[(k,S1),?_,q];unfold eT;rw[e];dsimp only;rw[a];rfl
def bL (h:(a&&b)=true):a=true:=by cases a<;>first|rfl|cases h
def cx (h:(a&&b)=true):b=true:=by cases a<;>first|show h|cases h
mutual
theorem aR:∀(e:E) {Z:Fm}{S:aa}{Q:QW},ci e=true->wE M e Z S Q->Wp (aA M e Z S) Q
 |.c w,Z,S,Q,k,h=>Oi.mpr h
 |.v i,Z,S,Q,k,h=>N3.mpr (Ay h)
 |.sem g,Z,S,Q,k,h=>bd h
 |.op o a b,Z,S,Q,k,h=>Ni.mpr ((aR a (bL k) h).mono λp j=>(aR b (cx k) j).mono λq l=>bd l)
 |.cmp o a b,Z,S,Q,k,h=>FM.mpr ((aR a (bL k) h).mono λp j=>(aR b (cx k) j).mono λq l=>bd l)
 |.and a b,Z,S,Q,k,h=>KW.mpr ((aR a (bL k) h).mono λp j=>let ⟨c,e,h1,h2⟩:=qL j;#[c,e,λz=>aR b (cx k) (h1 z),h2])
 |.or a b,Z,S,Q,k,h=>Nk.mpr ((aR a (bL k) h).mono λp j=>let ⟨c,e,h1,h2⟩:=qL j;#[c,e,h1,λz=>aR b (cx k) (h2 z)])
 |.not a,Z,S,Q,k,h=>KY.mpr ((aR a k h).mono λp j=>qL j)
 | .own f n es,Z,S,Q,k,h=>FN.mpr (by
   obtain⟨⟨ws,S1⟩,e,l⟩:=jY es (cx k) h;have hl:↥ws=n:=(f8 e).trans (eq_of_beq (bL k));simp only[aY,OZ hl]at l;show#[_,e,hl,bd l])
 |.bi b es,Z,S,Q,k,h=>K1.mpr ((jY es k h).mono λp j=>bd j)
 |.me m o es,Z,S,Q,k,h=>Nl.mpr ((aR o (bL k) h).mono λp j=>#[j.1,(jY es (cx k) j.2).mono λq l=>bd l])
 |.ix a b,Z,S,Q,k,h=>Nj.mpr ((aR a (bL k) h).mono λp j=>(aR b (cx k) j).mono λq l=>bd l)
 |.sl a lo hi,Z,S,Q,k,h=>Nm.mpr ((aR a (bL (bL k)) h).mono λp j=>(F1 lo (cx (bL k)) j).mono λq l=>(F1 hi (cx k) l).mono λr u=>bd u)
 | .tup es,Z,S,Q,k,h=>K5.mpr (by
   obtain⟨⟨ws,S1⟩,e,l⟩:=jY es (cx k) h;show#[_,e,by rw[f8 e];show Az (bL k),l])
 | .lst es,Z,S,Q,k,h=>K6.mpr (by
   obtain⟨⟨ws,S1⟩,e,l⟩:=jY es (cx k) h;show#[_,e,by rw[f8 e];show Az (bL k),l])
 |.isi c a,Z,S,Q,k,h=>FP.mpr ((aR a k h).mono λp j=>bd j)
 |.neg a,Z,S,Q,k,h=>K7.mpr ((aR a k h).mono λp j=>FZ j)
 |.dnew,Z,S,Q,k,h=>#[_,rfl,h]
 |.chn o o' a b d,Z,S,Q,k,h=>FQ ((aR a (bL (bL k)) h).mono λp j=>(aR b (cx (bL k)) j).mono λq l=>let ⟨c,e,h1,h2⟩:=bd l;#[c,e,λz=>(aR d (cx k) (h1 z)).mono λr u=>bd u,h2])
 |.ite t a b,Z,S,Q,k,h=>KZ.mpr ((iQ t (bL (bL k)) h).mono λp j=>#[λz=>aR a (cx (bL k)) (j.1 z),λz=>aR b (cx k) (j.2 z)])
 |.comp x tg it y v,Z,S,Q,k,h=>h
theorem jY:∀(es:Es) {Z:Fm}{S:aa}{Q:Ow W×aa->Prop},rM es=true->wA M es Z S Q->Wp (bP M es Z S) Q
 |.nil,Z,S,Q,k,h=>K8.mpr h
 |.cons e es,Z,S,Q,k,h=>Ib.mpr ((aR e (bL k) h).mono λp j=>jY es (cx k) j)
theorem F1:∀(e:Ep) {Z:Fm}{S:aa}{Q:Oz O8×aa->Prop},Nt e=true->wP M e Z S Q->Wp (uR M e Z S) Q
 |.no,Z,S,Q,k,h=>Nn.mpr h
 |.yes a,Z,S,Q,k,h=>K4.mpr ((aR a k h).mono λp j=>FZ j)
theorem iQ:∀(e:E) {Z:Fm}{S:aa}{Q:QB},ci e=true->wT M e Z S Q->Wp (cH M e Z S) Q
 |.cmp o a b,Z,S,Q,k,h=>K9.mpr (FM.mpr ((aR a (bL k) h).mono λp j=>(aR b (cx k) j).mono λq l=>(bd l).mono λr u=>qL u))
 |.and a b,Z,S,Q,k,h=>Lb.mpr ((iQ a (bL k) h).mono λp j=>#[λz=>iQ b (cx k) (j.1 z),j.2])
 |.or a b,Z,S,Q,k,h=>No.mpr ((iQ a (bL k) h).mono λp j=>#[j.1,λz=>iQ b (cx k) (j.2 z)])
 |.not a,Z,S,Q,k,h=>Lc.mpr (iQ a k h)
 |.isi c a,Z,S,Q,k,h=>Le.mpr (FP.mpr ((aR a k h).mono λp j=>let ⟨b,e,q⟩:=bd j;#[b,e,b,rfl,q]))
 |.v i,Z,S,Q,k,h=>Oj.mpr (N3.mpr (let ⟨w,e,q⟩:=Ay h;#[w,e,bd q]))
 |.sem g,Z,S,Q,k,h=>Lp h
 | .own f n es,Z,S,Q,k,h=>Ld.mpr (FN.mpr (by
   obtain⟨⟨ws,S1⟩,e,l⟩:=jY es (cx k) h;have hl:↥ws=n:=(f8 e).trans (eq_of_beq (bL k));simp only[aY,OZ hl]at l;show#[_,e,hl,(bd l).mono λq l=>bd l]))
 |.c w,Z,S,Q,k,h=>h
 |.op o a b,Z,S,Q,k,h=>h
 |.bi b es,Z,S,Q,k,h=>Np.mpr (K1.mpr ((jY es k h).mono λp j=>(bd j).mono λq l=>bd l))
 |.me m o es,Z,S,Q,k,h=>h
 |.ix a b,Z,S,Q,k,h=>h
 |.sl a lo hi,Z,S,Q,k,h=>h
 |.tup es,Z,S,Q,k,h=>h
 |.lst es,Z,S,Q,k,h=>h
 |.neg a,Z,S,Q,k,h=>h
 |.dnew,Z,S,Q,k,h=>h
 |.chn o o' a b d,Z,S,Q,k,h=>La.mpr (FQ ((aR a (bL (bL k)) h).mono λp j=>(aR b (cx (bL k)) j).mono λq l=>let ⟨c,e,h1,h2⟩:=bd l;#[c,e,λz=>(aR d (cx k) (h1 z)).mono λr u=>(bd u).mono λs hs=>qL hs,λz=>#[false,rfl,h2 z]]))
 |.ite t a b,Z,S,Q,k,h=>h
 |.comp x tg it y v,Z,S,Q,k,h=>h
end
mutual
theorem Lq:∀(s:Sm) {Z:Fm}{S:aa}{K:Fm->aa->Prop}{Q:QO},N4 s=true->wS M fuel s Z S K Q->Wp (cu M fuel s Z S) (sU K Q)
 |.sem g,Z,S,K,Q,k,h=>bd h
 |.set i e,Z,S,K,Q,k,h=>Ig.mpr (aR e k h)
 |.asg is e,Z,S,K,Q,k,h=>Ih.mpr ((aR e k h).mono λp hp=>let ⟨ws,e1,h1⟩:=Lo hp;let ⟨Z',e2,h2⟩:=bd h1;#[ws,Z',e1,e2,h2])
 |.put o i e,Z,S,K,Q,k,h=>Ii.mpr ((aR e (cx k) h).mono λp hp=>(aR o (bL (bL k)) hp).mono λq hq=>(aR i (cx (bL k)) hq).mono λr hr=>bd hr)
 |.ex e,Z,S,K,Q,k,h=>Lg.mpr (aR e k h)
 |.ret e,Z,S,K,Q,k,h=>Ij.mpr (aR e k h)
 |.pass,Z,S,K,Q,k,h=>#[_,rfl,h]
 |.bad,Z,S,K,Q,k,h=>h.elim
 | .ite t a b,Z,S,K,Q,k,h=>Ik.mpr ((iQ t (bL (bL k)) h).mono λp hp=>by
   obtain⟨h1,h2⟩:=hp (sU K Q) (λZ' S' z=>z) (λo S' hn z=>by cases o<;>first|show z|show absurd rfl (hn _))
   show#[λz=>hW a (cx (bL k)) (h1 z),λz=>hW b (cx k) (h2 z)])
 |.whl t b,Z,S,K,Q,k,h=>h
 |.loop tg it b,Z,S,K,Q,k,h=>h
theorem hW:∀(ss:Ss) {Z:Fm}{S:aa}{Q:QO},iP ss=true->Ej M fuel ss Z S Q->Wp (bQ M fuel ss Z S) Q
 |.nil,Z,S,Q,k,h=>Lf.mpr h
 | .cons s ss,Z,S,Q,k,h=>Ic.mpr ((Lq s (bL k) h).mono λp hp=>by
   obtain⟨o,S1⟩:=p;cases o with
   |nx Z'=>show#[λZ2 e=>by cases e;show hW ss (cx k) hp,λz=>absurd rfl (z Z')]
   |_=>show#[λZ2 e=>(by cases e),λ_=>hp])
end
structure wZ (M:OM->FF)(fuel:OH)(ss:Ss)(Z:Fm)(S:aa)(Q:QO):Prop where
 out:Ej M fuel ss Z S Q
def Lr {Q:QO}:Ej M fuel ss Z S Q=wZ M fuel ss Z S Q:=propext #[λh=>#[h],λh=>h.out]
def Ip {f:OM}(h:defs.lookup f=ba df)(e:↥ws=n)(hl:↥ws=↥df.ps)(ok:iP df.body=true)
  (c:∀a:QO,(∀w S',Q (w,S')->a (.rt w,S'))->wZ (ae defs fuel d) fuel df.body (bv df.N ws) S a):wO (aY (ae defs fuel (d+1)) f n ws S) Q:=by
 unfold aY;rw[OZ e];show Ln (xn h hl ((hW _ ok (c (λp=>match p.1 with|.rt w=>Q (w,p.2)|_=>P0) λw S' q=>q).out).mono λp b=>by
  obtain⟨o,S1⟩:=p;cases o<;>first|show b|show b.elim))
open PySem PySem.Spec PyProof.Rows L2 Xc
abbrev xo:W->Oz W
 |.tup [.non,w]=>ba w
 |.non=>ba .non
 |_=>gV
abbrev xV:W->Oz (OM×Ow W)
 |.tup (.str c::ws)=>ba (c,ws)
 |_=>gV
def Ls (h:xo w=ba a):xV w=gV:=by
 unfold xo at h;split at h
 ·rfl
 ·rfl
 ·cases h
abbrev Mt:Out->Oz Out
 |.rt w=>(xo w).map .rt
 |o=>ba o
abbrev xO:Out->Oz (OM×Ow W)
 |.rt w=>xV w
 |_=>gV
abbrev jZ (F:FS):FS:=λZ S=>match F Z S with
 |some (o,S')=>(Mt o).map λo'=>(o',S')
 |none=>gV
abbrev xF (F:FS):FX:=λZ S=>match F Z S with
 |some (o,S')=>(xO o).map λp=>(p.1,p.2,S')
 |none=>gV
def AA (w:W):Mt (.rt w)=gV\/∃a,Mt (.rt w)=ba (.rt a)/\xO (.rt w)=gV:=by
 cases h:xo w with
 |none=>
  show .inl ?_;show(xo w).map _=gV;rw[h];rfl
 |some a=>
  show .inr #[a,?_,Ls h];show(xo w).map _=_;rw[h];rfl
def GX.mono {st:Qj}{f g:FS}(h:GX X cl Ew st f fx)(hf:∀Z S r,g Z S=ba r->f Z S=ba r)(j:∀Z S r,a Z S=ba r->fx Z S=ba r):GX X cl Ew st g a:=λJ s Y H D I q=>h J s Y H D I (by
 rcases q with⟨A,Z,S,o,S',b,c,e,d⟩|⟨A,Z,S,cn,ws,S',C,i,b,c,e,hc,q⟩
 ·show .inl #[A,Z,S,o,S',b,c,hf _ _ _ e,d]
 ·show .inr #[A,Z,S,cn,ws,S',C,i,b,c,j _ _ _ e,hc,q])
def Ek (f g:FS):jZ (kn f g)=kn (jZ f) (jZ g):=by
 funext Z S
 unfold jZ kn;dsimp only;cases f Z S with
 |none=>rfl
 |some p=>
  obtain⟨o,S1⟩:=p;cases o with
  |rt w=>rcases AA w with e|⟨a,e,_⟩<;>(dsimp only;rw[e];rfl)
  |_=>rfl
def Iq (f g:FS):xF (kn f g)=uP (jZ f) (xF f) (xF g):=by
 funext Z S
 unfold xF kn uP jZ;dsimp only;cases f Z S with
 |none=>rfl
 |some p=>
  obtain⟨o,S1⟩:=p;cases o with
  |rt w=>rcases AA w with e|⟨b,e,a⟩<;>dsimp only<;>rw[e]<;>first|rfl|(rw[a];rfl)
  |_=>rfl
def Ir (c:FT)(f g:FS):jZ (gC c f g)=gC c (jZ f) (jZ g):=by
 funext Z S
 unfold jZ gC;dsimp only;cases c Z S with
 |none=>rfl
 |some p=>obtain⟨b,S1⟩:=p;cases b<;>rfl
def Lu (c:FT)(f g:FS):xF (gC c f g)=DL c (xF f) (xF g):=by
 funext Z S
 unfold xF gC DL;dsimp only;cases c Z S with
 |none=>rfl
 |some p=>obtain⟨b,S1⟩:=p;cases b<;>rfl
abbrev oX:Sm->O6
 |.set _ _|.asg _ _|.put _ _ _|.ex _|.pass=>true
 |_=>false
def sV {f:FE}{g:FG}(h:jA f g Z S=ba (o,S')):∃a,o=.nx a:=by
 unfold jA at h;split at h
 ·split at h
  ·cases h;show#[_,rfl]
  ·cases h
 ·cases h
def qM (f:oX s=true)(h:cu M fuel s Z S=ba (o,S')):∃d,o=.nx d:=by
 cases s with
 |set i e=>dsimp only[cu]at h;show sV h
 |asg is e=>dsimp only[cu]at h;show sV h
 |put a b c=>dsimp only[cu]at h;show sV h
 |ex e=>
  dsimp only[cu]at h;unfold zR at h;split at h
  ·cases h;show#[_,rfl]
  ·cases h
 |pass=>cases h;show#[_,rfl]
 |_=>cases f
def xp (a:oX s=true)(h:jZ (cu M fuel s) Z S=ba r):cu M fuel s Z S=ba r:=by
 unfold jZ at h;split at h
 next o S' e=>obtain⟨b,rfl⟩:=qM a e;rw[e];show h
 ·cases h
def AB (a:oX s=true):xF (cu M fuel s) Z S=gV:=by
 unfold xF;split
 next o S' e=>obtain⟨b,rfl⟩:=qM a e;rfl
 ·rfl
abbrev Lv (Γ:Gam)(st:Qj):Oz Sm:=match cS 20 Γ st with
 |some a=>if oX a then ba a else gV
 |none=>gV
abbrev cX (R:Ow (OM×OH)):OH->Gam->Qj->Oz Sm
 |0,_,_=>gV
 |n+1,Γ,st=>match st with
  |.Return (ba e) _=>(cE aX Γ e).map λg=>.ret (.tup #v[.c .non,g])
  |.Raise (ba (.Call (.Name c _) args [] _)) gV _=>if cZ Γ c&&(R.lookup c==ba ↥args)then(cA (cE aX Γ) args).map λes=>.ret (.tup (.cons (.c (.str c)) es))else gV
  |.If t a b _=>match cE aX Γ t,fZ (cX R n Γ) a,fZ (cX R n Γ) b with
   |some t',ba d,ba f=>ba (.ite t' d f)
   |_,_,_=>gV
  |st=>Lv Γ st
inductive RK (X:Cx)(cl:Cl)(c:OM):OH->Prop
 |one {k:OH}{f C:OF}{cd:Rn}{fd:Qp}{ps:Ow OM}{g:OM} (Mqa:XM X.K C f cd) (hf:Sr X.K (.ref C) g=ba gV) (F:FnOk X.prog X.w X.K X.mg X.base mF k f fd ps (yE X.K g)) (hr:Room (k+1) X.A) (hm:X.mg c=ba (.ref C)) (hb:Binds X.K fd ps []) (hc:cl c=ba (C,[g])):RK X cl c 1
structure XOk (X:Cx)(R:Ow (OM×OH))(cl:Cl)(Ew:L2.XK):Prop where
 hh:X.A.handled=gV
 w:HH X Ew
 rk:∀c k,R.lookup c=ba k->RK X cl c k
section
variable{R:Ow (OM×OH)}
def u5 (K:CtxOk M X Γ){st:Qj}(h:Lv Γ st=ba a):GX X cl Ew st (jZ (cu M fuel a)) (xF (cu M fuel a)):=by
 unfold Lv at h;split at h
 next d c=>
  split at h
  next b=>cases h;show(qr (kC fuel K 20 c)).mono (λZ S r e=>xp b e) λZ S r e=>by rw[AB b]at e;cases e
  ·cases h
 ·cases h
def xq (h:sg S ws=ba (w,S')):w=.tup ws/\S'=S:=by
 unfold sg at h;split at h
 ·cases h;show#[rfl,rfl]
 ·cases h
def iR {e:E}{es:Es}(h:aA M (.tup (.cons (.c c) es)) Z S=ba (w,S')):∃ws,bP M es Z S=ba (ws,S')/\w=.tup (c::ws):=by
 dsimp only[aA,bP]at h;unfold wW at h;split at h
 next ws S1 a=>
  obtain⟨rfl,rfl⟩:=xq h;unfold dH at a;dsimp only[fC]at a;split at a
  next d S2 b=>cases a;show#[_,b,rfl]
  ·cases a
 ·cases h
def iS {f:FE}(h:qo f Z S=ba (o,S')):∃w,f Z S=ba (w,S')/\o=.rt w:=by
 unfold qo at h;split at h
 next w S1 e=>cases h;show#[w,e,rfl]
 ·cases h
def Iu (h:jZ (cu M fuel (.ret (.tup #v[.c .non,b]))) Z S=ba r):qo (aA M b) Z S=ba r:=by
 unfold jZ at h;split at h
 next o S' e=>
  obtain⟨w,c,rfl⟩:=iS e;obtain⟨ws,a,rfl⟩:=iR (e:=b) c;dsimp only[bP]at a;unfold dH at a;split at a
  next w2 S2 d=>dsimp only[km]at a;cases a;cases h;unfold qo;rw[d]
  ·cases a
 ·cases h
def Iv :xF (cu M fuel (.ret (.tup #v[.c .non,a]))) Z S=gV:=by
 unfold xF;split
 next o S' e=>obtain⟨w,b,rfl⟩:=iS e;obtain⟨ws,c,rfl⟩:=iR (e:=a) b;rfl
 ·rfl
def AC {f:Pb->Oz E}:∀{es:Ow Pb}{r:Es},cA f es=ba r->JO r=↥es
 |[],_,h=>by cases h;rfl
 |e::es,r,h=>by
  obtain⟨c,a,d,b,rfl⟩:=kB h;change JO a+1=_;rw[AC b];rfl
def AD {es:Es}:jZ (cu M fuel (.ret (.tup (.cons (.c (.str c)) es)))) Z S=gV:=by
 unfold jZ;split
 next o S' e=>obtain⟨w,a,rfl⟩:=iS e;obtain⟨ws,b,rfl⟩:=iR (e:=.dnew) a;rfl
 ·rfl
def El {es:Es}(h:xF (cu M fuel (.ret (.tup (.cons (.c (.str c)) es)))) Z S=ba r):∃ws S',bP M es Z S=ba (ws,S')/\r=(c,ws,S'):=by
 unfold xF at h;split at h
 next o S' e=>obtain⟨w,a,rfl⟩:=iS e;obtain⟨ws,b,rfl⟩:=iR (e:=.dnew) a;cases h;show#[ws,S',b,rfl]
 ·cases h
def Em (K:CtxOk M X Γ)(b:XOk X R cl Ew)(h:(if cZ Γ c&&(R.lookup c==ba ↥args)then(cA (cE aX Γ) args).map λes=>Sm.ret (.tup (.cons (.c (.str c)) es))else gV)=ba j) :
  GX X cl Ew (.Raise (ba (.Call (.Name c p) args [] cpos)) gV pos) (jZ (cu M fuel j)) (xF (cu M fuel j)):=by
 split at h
 next hc=>
  rw[OE]at hc;obtain⟨m,n⟩:=fQ K hc.1;have hl:R.lookup c=ba ↥args:=eq_of_beq hc.2;rw[OG]at h;obtain⟨es,g,rfl⟩:=h;have ga:=cv (λz=>(bc aX K z).1) g
  have rk:=b.rk c _ hl;have v:=AC g;have ns:=bK g;have u:∀k,↥args=k->∀Z S r,xF (cu M fuel (.ret (.tup (.cons (.c (.str c)) es)))) Z S=ba r->lB c k (bP M es) Z S=ba r:=λk hk Z S r e=>by
   obtain⟨ws,S',l,rfl⟩:=El e;unfold lB;rw[l];dsimp only;rw[OZ ((f8 l).trans (v.trans hk))]
  have s:∀(f:FS) Z S r,jZ (cu M fuel (.ret (.tup (.cons (.c (.str c)) es)))) Z S=ba r->f Z S=ba r:=λf Z S r e=>by rw[AD]at e;cases e
  generalize hk:↥args=k at rk;cases rk with
  |one d hf F t q o i=>
   cases args with
   |nil=>cases hk
   |cons a as=>
    rw[P9,OE]at ns;show(wY (p:=p) (cpos:=cpos) (pos:=pos) b.hh d hf F t m q o b.w i ga n (aq ns.1) (aP ns.2)).mono (s _) (u 1 hk)
 ·cases h
def kD (ih:∀{st:Qj}{a:Sm},cX R n Γ st=ba a->GX X cl Ew st (jZ (cu M fuel a)) (xF (cu M fuel a))):∀{ss:Ow Qj}{r:Ss},fZ (cX R n Γ) ss=ba r->HG X cl Ew ss (jZ (bQ M fuel r)) (xF (bQ M fuel r))
 |[],r,h=>by
  cases h;show DJ
 |s::ss,r,h=>by
  obtain⟨a,d,b,c,rfl⟩:=iN h;have g:=zX (ih b) (kD ih c);rw[<- Ek,<- Iq]at g;show g
def En (fuel:OH)(K:CtxOk M X Γ)(j:XOk X R cl Ew):∀ n {st:Qj}{i:Sm},cX R n Γ st=ba i->GX X cl Ew st (jZ (cu M fuel i)) (xF (cu M fuel i)):=by
 intro n
 induction n with
 |zero=>intro st i h;cases h
 |succ n ih=>
  intro st i h;cases st with
  |Return o p=>
   cases o with
   |none=>show u5 K h
   |some e=>
    replace h:(cE aX Γ e).map (λu=>Sm.ret (.tup #v[.c .non,u]))=ba i:=h
    rw[OG]at h;obtain⟨u,l,rfl⟩:=h;show(qr (zU (bc _ K l).1)).mono (λZ S r e=>Iu e) λZ S r e=>by rw[Iv]at e;cases e
  |Raise exc d pos=>
   have k:Lv Γ (.Raise exc d pos)=gV:=rfl;have plain:Lv Γ (.Raise exc d pos)=ba i->GX X cl Ew (.Raise exc d pos) (jZ (cu M fuel i)) (xF (cu M fuel i)):=λz=>by rw[k]at z;cases z
   cases d with
   |some _=>cases exc with
    |none=>show plain h
    |some e=>cases e with
     |Call f args m cpos=>cases f with
      |Name c p=>cases m<;>show plain h
      |_=>show plain h
     |_=>show plain h
   |none=>cases exc with
    |none=>show plain h
    |some e=>cases e with
     |Call f args m cpos=>cases f with
      |Name c p=>cases m with
       |nil=>show Em K j h
       |cons _ _=>show plain h
      |_=>show plain h
     |_=>show plain h
  |If t a b p=>
   replace h:(match cE aX Γ t,fZ (cX R n Γ) a,fZ (cX R n Γ) b with|some t',ba q,ba s=>ba (Sm.ite t' q s)|_,_,_=>gV)=ba i:=h
   split at h
   next t' q s l w x=>cases h;have g:=KJ (pos:=p) (bc _ K l).2 (kD ih w) (kD ih x);rw[<- Ir,<- Lu]at g;show g
   ·cases h
  |_=>show u5 K h
end
abbrev u6 (g:FF):FF:=λws S=>match g ws S with
 |some (w,S')=>(xo w).map λv=>(v,S')
 |none=>gV
abbrev xG (g:FF):KL:=λws S=>match g ws S with
 |some (w,S')=>(xV w).map λp=>(p.1,p.2,S')
 |none=>gV
section
variable{w:Pk}{base:Pr}
inductive CK (P:Pe)(w:Pk)(K:OI)(mg:OM->Oz Oy)(base:Pr)(cl:Cl)(c:OM):OH->Prop
 |one {f C:OF}{cd:Rn}{fd:Qp}{ps:Ow OM}{g:OM} (Mqa:XM K C f cd) (hf:Sr K (.ref C) g=ba gV) (F:FnOk P w K mg base mF 1 f fd ps (yE K g)) (hm:mg c=ba (.ref C)) (hb:Binds K fd ps []) (hc:cl c=ba (C,[g])):CK P w K mg base cl c 1
def CK.rk (h:CK P w K mg base cl c n)(b:X.prog=P)(d:X.w=w)(e:X.K=K)(f:X.mg=mg)(g:X.base=base)(k:Room 2 X.A):RK X cl c n:=by
 subst b d e f g;cases h with
 |one a hf F j i hc=>show .one a hf F k j i hc
def Iw {R:Ow (OM×OH)}{st:Qj}(F:Fun K x b st f fd)(S:FnScope df.N df.ps (aj st))(hd:defs.lookup t=ba df)
  (hc:fZ (cX R 20 (ft a st df.N)) (aS st)=ba df.body) (N:MdOk w K mg a) (m:uX P w K mg base a defs fuel d) (V:∀c k,R.lookup c=ba k->CK P w K mg base cl c k) :
  FnOk P w K mg base (CXx P w) (d+3) f fd df.ps (spX w K cl ↥df.ps (u6 (ae defs fuel (d+1) t)) (xG (ae defs fuel (d+1) t))):=by
 have T:=HZ (P:=P) (w:=w) (mg:=mg) (base:=base) (cl:=cl) (k:=d+2) (fs:=jZ (bQ (ae defs fuel d) fuel df.body)) (fx:=xF (bQ (ae defs fuel d) fuel df.body)) F S λcdv A outer s H E q=>by
  have U:CtxOk (ae defs fuel d) (fF (CXx P w) P w K mg base df.N b (aj st) f cdv A outer s H E) (ft a st df.N):=by
   show#[rfl,S.kind,rfl,S.nd,rfl,Ia,?_,λ_ _=>rfl,λ_ h=>(nomatch h),N.blt,N.cst _ rfl rfl rfl,λg n hg=>?_]
   ·have:=q.un;show(A.deeper _).units+20<cLine;omega
   ·obtain⟨fa,D,J,j,Y,h3,h4⟩:=m g n hg;show#[d+2,fa,D,J,j,q,Y,h3,h4]
  show kD (λz=>En fuel U #[q.hd,Ed,λc k h=>(V c k h).rk rfl rfl rfl rfl rfl (q.mono (Nat.le_add_left _ _))] 20 z) hc
 show T.imp λvs H Q E h=>?_
 have l:∀{ws:Ow W}{S:aa}{r:W}{S':aa},↥ws=↥df.ps->ae defs fuel (d+1) t ws S=ba (r,S')->(∃o,bQ (ae defs fuel d) fuel df.body (bv df.N ws) S=ba (o,S')/\(o=.rt r\/(r=.non/\∃Z,o=.nx Z))):=λ{ws S r S'} hl e=>by
  dsimp only[ae]at e;rw[hd]at e;dsimp only at e;rw[OZ hl]at e;split at e
  next O S1 j=>cases e;show#[_,j,.inl rfl]
  next Z1 S1 j=>cases e;show#[_,j,.inr #[rfl,_,rfl]]
  ·cases e
 rcases h with⟨A,u,ws,w',S',M,L,hl,e,I⟩|⟨A,u,ws,cn,us,S',C,X,M,L,hl,e,G,I⟩
 ·show .ok #[A,u,ws,w',S',M,L,hl,?_,I];unfold u6 at e;split at e
  next O S1 y=>
   rw[OG]at e;obtain⟨v,i,B⟩:=e;cases B;obtain⟨o,p,rfl|⟨rfl,Z,rfl⟩⟩:=l hl y
   ·unfold uY jZ;rw[p];delta Mt;rw[i];rfl
   ·cases i;unfold uY jZ;rw[p];rfl
  ·cases e
 ·show .xc A u ws cn us S' C X M L hl ?_ G I;unfold xG at e;split at e
  next O S1 y=>
   rw[OG]at e;obtain⟨v,i,B⟩:=e;cases B;obtain⟨o,p,rfl|⟨rfl,Z,rfl⟩⟩:=l hl y
   ·unfold FL xF;rw[p];delta xO;rw[i];rfl
   ·cases i
  ·cases e
abbrev Ix (f:OM)(n:OH):Ss:=.cons (.sem λM Z S=>match M f ((Z.take n).filterMap id) S with
 |some (w,S')=>(xo w).map λv=>(.rt v,S')
 |none=>gV) .nil
def sW (h:↥ws=n):((bv N ws).take n).filterMap id=ws:=by
 subst h;unfold bv;rw[Ul (by simp),Re (by simp),WF]
 induction ws with
 |nil=>rfl
 |cons w ws ih=>simp[RD]
def Iy (F:FnOk P w K mg base (CXx P w) k f fd ps (spX w K cl n (u6 (ae defs fuel d a)) (xG (ae defs fuel d a))))(hd:defs.lookup x=ba df)(o:↥df.ps=n)(l:df.body=Ix a n)(hk:k<=i) :
  FnOk P w K mg base mF i f fd ps (spF w K n (ae defs fuel (d+1) x)):=by
 have conv:∀vs H Q (E c:L2.XK),spF w K n (ae defs fuel (d+1) x) vs H Q E->spX w K cl n (u6 (ae defs fuel d a)) (xG (ae defs fuel d a)) vs H Q c:=λvs H Q E c #[A,S0,ws,w',S',so,rl,hl,e,hq]=>by
  show .ok #[A,S0,ws,w',S',so,rl,hl,?_,hq];dsimp only[ae]at e;rw[hd]at e;dsimp only at e;rw[OZ (hl.trans o.symm),l]at e;dsimp only[Ix,bQ,cu,kn]at e;rw[sW hl]at e;unfold u6;cases h:ae defs fuel d a ws S0 with
  |none=>rw[h]at e;cases e
  |some p=>
   obtain⟨y,S1⟩:=p;rw[h]at e;dsimp only at e ⊢;cases g:xo y with
   |none=>rw[g]at e;cases e
   |some v=>rw[g]at e;cases e;rfl
 show#[λvs H Q E z=>F.len vs H Q E (conv vs H Q E E z),λA outer s H args us vs Q E t m b u z=>?_]
 show Rr (F.run A outer s H args us vs Q (λ_ _ _=>P0) (t.mono hk) m b u (conv vs H Q E _ z)) λr B h=>?_
 cases r with
 |error e=>obtain⟨_,_,_,_,_,_,_,_,_,_,_,_,_,_,q⟩:=h;show q.elim
 |ok j=>cases j<;>show h
end
section
variable{wd:Pk}{A A':Ow OF}
def EnvRel.unset (h:EnvRel K A H Z Y)(i:OH):EnvRel K A H (Z.set i gV) (Y.set i gV):=by
 show#[by simp[h.1],λj w q=>?_]
 rw[Qv]at q ⊢
 by_cases e:i=j
 ·subst e;rw[OZ rfl]at q;split at q<;>cases q
 ·rw[Pd e]at q ⊢;show h.2 j w q
def ObjRel.grow (e:Ext K A H A' H)(h:ObjRel wd K A H a b):ObjRel wd K A' H a b:=by
 cases b with
 |exc cn C j ws=>
  obtain⟨c,dd,q,r⟩:=h;show#[c,dd,q,?_];rcases r with r|⟨d,od,vs,f,g,i⟩
  ·show .inl r
  ·show .inr #[d,od,vs,f,g,i.mono e]
 |_=>first|show h|(obtain⟨vs,q,r⟩:=h;show#[vs,q,r.mono e])|(obtain⟨c,xs,q,r⟩:=h;show#[c,xs,q,r.mono e])
def iT {p:OF}:Ext K A H (A++[p]) H:=#[λi a h=>by rw[PH (OS.mp h).1];show h,λ_ _ h=>h,λ_ _ _ h=>h]
def StoreOk.pushN {p:OF}(h:StoreOk wd K A H S)(s:n.mut=false)(r:ObjRel wd K (A++[p]) H p n):StoreOk wd K (A++[p]) H (S++[n]):=by
 have c:∀{i:OH}{o:O}{a:OF},(S++[n])[i]?=ba o->(A++[p])[i]?=ba a->i<↥S->S[i]?=ba o/\A[i]?=ba a:=λ{i o a} e b hl=>by
  rw[PH hl]at e;rw[PH (h.len▸hl)]at b;show#[e,b]
 have new:∀{i:OH}{o:O},(S++[n])[i]?=ba o->¬ i<↥S->i=↥S/\o=n:=λ{i o} e hl=>by
  have hi:i=↥S:=by
   have:=(OS.mp e).1;simp at this;omega
  subst hi;simp at e;show#[rfl,e.symm]
 show#[by simp[h.len],λi j a o u l d m f t v=>?_,λi o a e b=>?_]
 ·by_cases hi:i<↥S
  ·by_cases q:j<↥S
   ·obtain⟨g,k⟩:=c l t hi;obtain⟨w,x⟩:=c m v q;show h.nd i j a o u g d w f k x
   ·rw[(new m q).2,s]at f;cases f
  ·rw[(new l hi).2,s]at d;cases d
 ·by_cases hi:i<↥S
  ·obtain⟨g,k⟩:=c e b hi;show(h.obj i o a g k).grow iT
  ·obtain⟨rfl,rfl⟩:=new e hi;rw[<- h.len]at b;simp at b;subst b;show r
def StoreOk.frz {p:OF}(h:StoreOk wd K A H S)(d:H p=ba (.ext φ))(g:∀(j:OH) o,S[j]?=ba o->o.mut=true->A[j]?≠ba p):StoreOk wd K A (aW H p u) S:=
 #[h.len,h.nd,λi b a e c=>(h.obj i b a e c).keep (.ext d) (λf z=>g i b e f (z▸c)) (bx (.ext d))]
end
variable{H':Hp}{S1:aa}{a:OF}{gs:Ow OM}{dd:Oz OF}
section
variable{s:OB}{A:Ow OF}{ws:Ow W}
def u7 (I:L2.Inv X J Y H s)(d:H a=ba (.ext φ)):∃o,L2.Inv X J Y (aW H a (.frz o (.ext φ))) s:=by
 have z:=I.hok a _ d;obtain⟨x,⟨o,c⟩,st⟩:=z;show#[o,I.write (o:=.frz o (.ext φ)) (t':=s.toks) (h':=s.heap) (x:=a) (e:=a) (by rw[d];trivial) (.inl rfl) (λb u _ q=>q) #[_,c] #[c,x,#[o,c],st]]
def u8 (h:ba (HO.ext φ)=ba (HO.ext ψ)):φ=ψ:=by cases h;rfl
def AE (I:L2.Inv X J Y H' s)(b:H' a=ba (.ext (Ex a C dd)))(l:wk X c H' S1)(j:OH)(o:O)(g:S1[j]?=ba o)(i:o.mut=true):c[j]?≠ba a:=λf=>by
 have r:=l.obj j o a g f;obtain⟨⟨vs,k,x⟩,_⟩:=I.hok a _ b;cases o with
 |lst ws=>obtain⟨us,q,_⟩:=r;rw[b]at q;cases q
 |dic U=>
  obtain⟨xs,q,_⟩:=r;rw[b]at q;have e:=u8 q;have y:DicAt X.w a xs s.heap:=by rw[<- e];show#[vs,k,x]
  obtain⟨_,_,_,p,es,m,d,n,h,_⟩:=y;rw[x]at d;cases d;cases h
 |_=>cases i
def Iz (cn:OM)(I:L2.Inv X J Y H' s)(c:H' a=ba (.ext (Ex a C dd)))(q:EndX X.w X.K A H S1 C gs ws (.ref C) dd H'):∃i j,L2.Inv X J Y j s/\Ext X.K A H i j/\i[↥S1]?=ba a/\wk X i j (S1++[.exc cn C gs ws]):=by
 obtain⟨h,m⟩:=u7 I c;cases q with
 |no g v w k e f=>
  subst k w;show#[g++[a],_,m,(e.trans (bx (.ext c))).trans iT,by rw[<- f.len];simp,?_]
  show(f.frz c (AE I c f)).pushN rfl #[h,gV,au,.inl #[rfl,rfl]]
 |«at» g b vs v k hd nd e f r=>
  subst k;have ne:b≠a:=λz=>by
   subst z;rw[c]at hd;have e:=u8 hd;obtain⟨⟨l,D,x⟩,_⟩:=I.hok b _ c;have y:Dx b (gs.zip vs) s.heap:=by rw[<- e];show#[l,D,x]
   obtain⟨G,⟨o,es,E,n,B,_⟩,_⟩:=y;rw[x]at n;cases n;cases B
  have d:aW H' a (.frz h (.ext (Ex a C (ba b)))) b=ba (.ext (Dx b (gs.zip vs))):=by rw[am ne];show hd
  obtain⟨od,u⟩:=u7 m d;have p:Ext X.K g H' g (aW H' a (.frz h (.ext (Ex a C (ba b))))):=bx (.ext c);have t:=bx (K:=X.K) (A:=g) (o:=.frz od (.ext (Dx b (gs.zip vs)))) (Wr.ext d);show#[g++[a],_,u,((e.trans p).trans t).trans iT,by rw[<- f.len];simp,?_]
  show((f.frz c (AE I c f)).frz d nd).pushN rfl #[h,ba b,by rw[am (Ne.symm ne),au],.inr #[b,od,vs,rfl,au,?_]]
  show r.mono ((p.trans t).trans iT)
noncomputable abbrev Cx.tr (X:Cx)(J:Ow (OF×Qq))(E:Oy->OB->Prop):Cx:={X with pn:=X.pn++J,xe:=E}
def IA {E:Oy->OB->Prop}(I:L2.Inv X J Y H s):L2.Inv (Cx.tr X J E) [] Y H s:=by
 obtain⟨ok,d,e,f,g,h,i,j,k,a,b⟩:=I;show#[#[ok.mod,ok.kind,ok.glob,ok.blt,ok.above,ok.inj,ok.has,ok.cab,ok.hd,ok.frames,ok.stk,ok.exf,ok.bs,ok.bsz,ok.noex,ok.exfs,ok.funs,ok.frf],d,e,f,g,h,i,j,λp c=>k p (by rw[Ql]at c;show c),a,b]
def iU {E:Oy->OB->Prop}(I:L2.Inv (Cx.tr X J E) c Y H s):L2.Inv X J Y H s:=by
 obtain⟨ok,e,f,g,h,i,j,k,l,a,b⟩:=I;show#[#[ok.mod,ok.kind,ok.glob,ok.blt,ok.above,ok.inj,ok.has,ok.cab,ok.hd,ok.frames,ok.stk,ok.exf,ok.bs,ok.bsz,ok.noex,ok.exfs,ok.funs,ok.frf],e,f,g,h,i,j,k,λp d=>l p (PU _ d),a,b]
def IB {E:Oy->OB->Prop}{f:ZO}(h:SP (Cx.tr X J E) [] D f s):SP X J D f s:=by
 cases f with
 |next=>obtain⟨a,H',I,q⟩:=h;show#[a,H',iU I,q]
 |brk=>obtain⟨a,H',I,q⟩:=h;show#[a,H',iU I,q]
 |cont=>obtain⟨a,H',I,q⟩:=h;show#[a,H',iU I,q]
 |ret u=>obtain⟨v,a,H',I,r,q⟩:=h;show#[v,a,H',iU I,r,q]
def Eo {E:Oy->OB->Prop}(b:Air (Cx.tr X J E) d Y H s a C dd c):Air X J Y H s a C dd c:=
 #[iU b.inv,b.fly,b.new,b.ext,b.low,λp e=>b.pin p (PU _ e)]
end
abbrev AG (f:FS)(fx:FX)(c:OM->O6)(cl:Cl)(i:OH)(h:FS):FS:=λZ S=>match f Z S with
  |some r=>ba r
  |none=>match fx Z S with
    |some (cn,ws,S1)=>match cl cn with
      | some (C,b)=>if c cn=true then(match h (Z.set i (ba (.ref S1.length))) (S1++[.exc cn C b ws])with
        |some (.nx a,S2)=>ba (.nx (a.set i gV),S2)
        |some (.rt w,S2)=>ba (.rt w,S2)
        |_=>gV)else gV
      |none=>gV
    |none=>gV
abbrev MX (X:Cx)(cl:Cl)(a:L2.XK)(b:L2.St)(f:FS)(fx:FX):TS:=λD Y H=>Y=b/\(tS X f D Y H\/tX X cl a fx Y H)
def u9 { a:OI}{A:Ow OF}(e:K=a)(f:w=b)(h:StoreOk w K A H S):StoreOk b a A H S:=by subst e f;show h
def AH (X a:Cx)(eK:a.K=X.K)(c:a.w=X.w){A:Ow OF}(d:Imp (EndS X A H o S') D):Imp (EndS a A H o S') D:=
 #[λ_ _ #[b,A',eo,e,so,er]=>d.nx _ _ #[b,A',eo,eK▸e,u9 eK c so,eK▸er],λ_ _ #[w,A',eo,e,so,r]=>d.rt _ _ #[w,A',eo,eK▸e,u9 eK c so,eK▸r],
  λ_ _ #[b,A',eo,e,so,er]=>d.bk _ _ #[b,A',eo,eK▸e,u9 eK c so,eK▸er],λ_ _ #[b,A',eo,e,so,er]=>d.ct _ _ #[b,A',eo,eK▸e,u9 eK c so,eK▸er]]
def IC {f:FS}
  (hst:X.stack=X.env::X.outer) (hfr:X.env.frame=ba X.env.locals) (hN:X.N.Nodup) (hi:X.N[i]?=ba n) (hx:X.env.scope.names.lookup n=ba .local) (hg:Gl X c) (hm:X.mg c=ba (.ref D)) (T:XD X.K D) (hdb:(c==("__debug__"))=false)
  (hs:∀cn C m,cl cn=ba (C,m)->sb cn=true->WA X.K (.ref C) (.ref D)=ba true)
  (hb:∀J E Y0 l,(∀N H s a C dd B,Air (Cx.tr X J E) N Y0 H s a C dd B->l (.ref C) dd H->E (.ref a) s)->PSs (Cx.tr X J E) body (MX (Cx.tr X J E) cl l Y0 f fx))
  (hh:∀a,GSs (ug X a) (b0::b) h):GS X (.Try body [.ExceptHandler (ba (.Name c np)) (ba n) (b0::b) G] [] [] pos) (AG f fx sb cl i h):=by
 intro J s Y H k I ⟨A,Z,S,o,S',er,R,e,d⟩;show Kq (X:=X) (J:=J) (Q:=SP X J k) hst hfr hN hi hx hg hm T ?_ hdb;have L:∀l:L2.XK,(∀N H s a C dd B,Air (Cx.tr X J (Caught X J D i b0 b (SP X J k))) N Y H s a C dd B->l (.ref C) dd H->Caught X J D i b0 b (SP X J k) (.ref a) s)->MX (Cx.tr X J (Caught X J D i b0 b (SP X J k))) cl l Y f fx k Y H->
   wi X (execs body X.env) (SP X J k) (Caught X J D i b0 b (SP X J k)) s:=λl hw q=>
  P4 (hb J _ Y l hw [] s Y H k (IA I) q) (λfl s1 z=>IB z) λ_ _ z=>z
 unfold AG at e;split at e
 next r h1=>cases e;show L (λ_ _ _=>P0) (λ_ _ _ _ _ _ _ _ z=>z.elim) #[rfl,.inl #[A,Z,S,o,S',er,R,h1,AH X (Cx.tr X J (Caught X J D i b0 b (SP X J k))) rfl rfl d]]
 next h1=>
  split at e
  next cn ws S1 h2=>
   split at e
   next C m h3=>
    split at e
    ·rename_i h4;show L (λcls dd p=>EndX X.w X.K A H S1 C m ws cls dd p) (λN p s1 a M dd B Yqk q=>?_) #[rfl,.inr #[A,Z,S,cn,ws,S1,C,m,er,R,h2,h3,λ_ _ _ z=>z]]
     obtain rfl:M=C:=by
      cases q with
      |no A' ec eg ed e R=>cases ec;rfl
      |«at» A' dx vs ec ed hd nd e R r=>cases ec;rfl
     have x:=Eo Yqk;show#[a,M,dd,B,Y,p,rfl,x,hs cn M m h3 h4,λs2 I2=>?_]
     obtain⟨U,V,I3,ex,ea,so2⟩:=Iz cn I2 x.ext q;have er2:EnvRel X.K U V (Z.set i (ba (.ref ↥S1))) (Y.set i (ba (.ref a))):=(er.mono ex).set (.ref ea) i;have fin:∀O S2,h (Z.set i (ba (.ref ↥S1))) (S1++[.exc cn M m ws])=ba (O,S2)->Imp (EndS (ug X a) U V O S2) {nx:=λj p=>k.nx (j.set i gV) p,rt:=k.rt,bk:=λ_ _=>P0,ct:=λ_ _=>P0}->
       wpAny (model X.prog X.w) (ug X a).A (execs (b0::b) X.env) (λf s3=>∃Y3 g,L2.Inv (ug X a) J Y3 g s3/\∀P,L2.Inv X J (Y3.set i gV) g P->SP X J k f P) (λ_ _=>P0) s2:=λO S2 e2 im=>by
      show P4 (hh a J s2 _ V _ I3 #[U,_,_,O,S2,er2,so2,e2,im]) (λfl s3 z=>?_) λ_ _ z=>z
      cases fl with
      |next=>obtain⟨j,g,t,q⟩:=z;show#[j,g,t,λP W=>#[_,_,W,q]]
      |ret u=>obtain⟨v,j,g,t,r,q⟩:=z;show#[j,g,t,λP W=>#[v,_,_,W,r,q]]
      |brk=>obtain⟨j,g,t,q⟩:=z;show q.elim
      |cont=>obtain⟨j,g,t,q⟩:=z;show q.elim
     split at e
     ·rename_i Z' S2 h5;cases e;show fin _ _ h5 #[λj g #[y,A3,eo,e3,so3,er3]=>?_,λv g #[w,A3,eo,_,_,_]=>(by cases eo),λj g #[y,A3,eo,_,_,_]=>(by cases eo),λj g #[y,A3,eo,_,_,_]=>(by cases eo)]
      cases eo;show d.nx _ _ #[_,A3,rfl,ex.trans e3,so3,er3.unset i]
     ·rename_i w S2 h5;cases e;show fin _ _ h5 #[λj g #[y,A3,eo,_,_,_]=>(by cases eo),λv g #[w2,A3,eo,e3,so3,r3]=>?_,λj g #[y,A3,eo,_,_,_]=>(by cases eo),λj g #[y,A3,eo,_,_,_]=>(by cases eo)]
      cases eo;show d.rt _ _ #[_,A3,rfl,ex.trans e3,so3,r3]
     ·cases e
    ·cases e
   ·cases e
  ·cases e
section
variable{Y0:L2.St}
abbrev ME (X:Cx)(cl:Cl)(Ew:L2.XK)(Y0:L2.St)(e:Pb)(f:FE)(fx:FX):Prop:=PE X e λY H Q=>Y=Y0/\(tE X f Y H Q\/tX X cl Ew fx Y H)
abbrev MT (X:Cx)(cl:Cl)(Ew:L2.XK)(Y0:L2.St)(e:Pb)(f:FT)(fx:FX):Prop:=PT X e λY H Q=>Y=Y0/\(tT X f Y H Q\/tX X cl Ew fx Y H)
def Er {E:L2.XK}{Q:VK}(F:FnOk X.prog X.w X.K X.mg X.base CX k f fd ps sp)(i:Room k X.A)(g:Binds X.K fd ps [])
  (j:∀J H s e c,L2.Inv X J Y0 H s->CX X.stack H s E e c->X.xe e c) (I:L2.Inv X J Y0 H s) (r:Vals vs us) (h:sp vs H Q E):wi X (call (.ref f) us) (EP X J Y0 Q) X.xe s:=by
 have hl:(us++[]).length=↥ps:=by rw[Ql,<- ↥r];show F.len _ _ _ _ h
 have b:=g s us I.kIn hl;rw[Ql]at b;show Sw (Rr (F.run X.A X.stack s H #[us,[]] us vs Q E i I.env0 b r h) λr c a=>?_)
 cases r with
 |error e=>show j J H s e c I a
 |ok d=>
  cases d with
  |ret u=>show I.after a
  |next=>show P0.elim a
  |brk=>show P0.elim a
  |cont=>show P0.elim a
def ID {g:FF}{e:Pb}{f:FA}(F:FnOk X.prog X.w X.K X.mg X.base (CXx X.prog X.w) k fa fd ps (spX X.w X.K cl n g l))(R:Room k X.A)(O:Gl X x)(P:X.mg x=ba (.ref fa))
  (hk:Qh X.K (.ref fa)=true) (M:Binds X.K fd ps []) (hw:∀J H s a C dd D,Air X J Y0 H s a C dd D->Ew (.ref C) dd H->X.xe (.ref a) s) (L:GA X (e::es) f) (hdb:(x==("__debug__"))=false) (N:starEach (e::es) X.env=(false,eval e X.env)::starEach es X.env) (y:(backTo pos (starEach es X.env)).any (·.1)=false) :
  ME X cl Ew Y0 (.Call (.Name x p) (e::es) [] pos) (fM n g f) (mW n l f):=by
 have T:∀J H s e B,L2.Inv X J Y0 H s->CXx X.prog X.w X.stack H s Ew e B->X.xe e B:=λJ H s e B I h=>by
  obtain⟨a,C,dd,D,U,rfl,t,q⟩:=G7 I h;show hw _ _ _ _ _ _ _ t q
 intro J s Y H Q I ⟨u,q⟩;subst u;show RW (eL I O P ?_ hdb);have go:∀{A:Ow OF}{Z:Fm}{S:aa}{ws:Ow W}{S1:aa},EnvRel X.K A H Z Y->wk X A H S->f Z S=ba (ws,S1)->(∀vs c,EndA X A H S1 ws vs c->spX X.w X.K cl n g l vs c Q Ew)->wi X (callWith pos (.ref fa) [] (backTo pos (starEach (e::es) X.env)) (backToKw pos (keywordEach [] X.env))) (EP X J Y Q) X.xe s:=λ{A Z S ws S1} d j i G=>
  UJ (h₀:=X.base) I.ok.mod.kin hk (a9 (L pos J s Y H (λvs c=>spX X.w X.K cl n g l vs c Q Ew) I #[A,Z,S,ws,S1,d,j,i,G]) λus V #[vs,c,I1,r,q]=>#[I1.kIn,Er F R M T I1 r q]) N y
 rcases q with⟨A,Z,S,w,S',d,j,b,q⟩|⟨A,Z,S,cn,ws,S',C,E,d,j,b,hc,q⟩
 ·unfold fM at b;split at b
  next ws S1 i=>
   split at b
   next hl=>show go d j i λvs c #[m,ex,so1,r]=>.ok #[m,S1,ws,w,S',so1,r,hl,b,λv o z=>q v o (z.after ex)]
   ·cases b
  ·cases b
 ·unfold mW at b;split at b
  next us S1 i=>
   split at b
   next hl=>show go d j i λvs c #[m,ex,so1,r]=>.xc m S1 us cn ws S' C E so1 r hl b hc λcls dd o z=>q cls dd o (z.after ex)
   ·cases b
  ·cases b
def IE {a :Pb}(z:X.A.units+fB<cLine)(r:ME X cl Ew Y0 a fa fx)(t:GE X b d)(u:behindInMarks o.py b=false):MT X cl Ew Y0 (.Compare a [o.py] [b] pos) (iH (oG o fa d)) fx:=by
 intro J s Y H Q I ⟨c,q⟩;show t8 (lg z o).opr r t u J s Y H Q I ?_;show#[c,?_];rcases q with⟨A,Z,S,k,S',j,E,e,w⟩|q
 ·apply Or.inl;unfold iH at e;split at e
  next M h l=>
   cases e;obtain⟨x,S1,y,S2,m,n,p⟩:=Ft l;show dZ j E m n λa b L g i B C D=>#[g,S2,x,y,_,_,B,C,D,p,λv G #[f,z1,z2,z3]=>?_]
   cases z3;show#[k,rfl,w _ _ #[rfl,f,i.trans z1,z2]]
  ·cases e
 ·show .inr q
def Lw {a :Ow Qj}{f g:FS}(hc:MT X cl Ew Y0 c fc fx)(n:GSs X a f)(p:GSs X b g):PS X (.If c a b pos) (MX X cl Ew Y0 (gC fc f g) fx):=by
 intro J s Y H D I ⟨i,q⟩;show x6 hc n p J s Y H D I #[i,?_];rcases q with⟨A,Z,S,o,S',h,l,e,d⟩|q
 ·apply Or.inl;unfold gC at e;split at e
  next S1 j=>
   show#[A,Z,S,_,S1,h,l,j,λb m #[k,A1,z1,z2]=>?_]
   subst k;rw[OZ rfl];show#[A1,Z,S1,o,S',h.mono z1,z2,e,(EndS.after z1).trans d]
  next S1 j=>
   show#[A,Z,S,_,S1,h,l,j,λb m #[k,A1,z1,z2]=>?_]
   subst k;rw[Pd #v[]]
   show#[A1,Z,S1,o,S',h.mono z1,z2,e,(EndS.after z1).trans d]
  ·cases e
 ·show .inr q
end
abbrev kt (cn D:OM):O6:=D==cn||D==("LayError": OM)||D==("ValueError": OM)
abbrev JP (i:OH)(cl:Cl)(k:OM->Ow OM->Ow W->Oz W):FE:=λZ S=>match Z[i]? with
 |some (ba (.ref j))=>match S[j]? with
  |some (.exc cn C a ws)=>if cl cn=ba (C,a)then(k cn a ws).map λw=>(w,S)else gV
  |_=>gV
 |_=>gV
abbrev xr (cl:Cl)(a:OM->O6)(i:OH):FE:=JP i cl λcn _ _=>ba (.bl (a cn))
abbrev xu (cl:Cl)(g:OM)(i:OH):FE:=JP i cl λ_ a ws=>(a.zip ws).lookup g
def qN {k:OM->Ow OM->Ow W->Oz W}(h:JP i cl k Z S=ba (w,S')):∃j cn C a ws,Z[i]?=ba (ba (.ref j))/\S[j]?=ba (.exc cn C a ws)/\cl cn=ba (C,a)/\k cn a ws=ba w/\S'=S:=by
 unfold JP at h;split at h
 next j b=>
  split at h
  next cn C a ws c=>
   split at h
   next d=>rw[OG]at h;obtain⟨g,e,f⟩:=h;cases f;show#[j,cn,C,a,ws,b,c,d,e,rfl]
   ·cases h
  ·cases h
 ·cases h
structure HCtx (X:Cx)(Γ:Gam)(cls:Ow OM)(cl:Cl):Prop where
 names:X.env.scope.names=Γ.sc
 N:X.N=Γ.N
 nd:Γ.N.Nodup
 un:X.A.units+fB<cLine
 dfn:∀x,X.fn x=true
 blt:∀x∈Γ.blt,X.mg x=gV
 xk:∀cn C gs,cl cn=ba (C,gs)->(∃cd,XK X.K C cd)/\X.base.get? C≠gV/\XT X.K C (.type "ValueError") true/\∀g∈gs,Sr X.K (.ref C) g=ba gV
 xt:∀D∈cls,∃Da,X.mg D=ba (.ref Da)/\∀cn C gs,cl cn=ba (C,gs)->XT X.K C (.ref Da) (kt cn D)
variable{cls:Ow OM}
def Lx (K:HCtx X Γ cls cl)(h:cZ Γ x=true):Gl X x/\(x==("__debug__"))=false:=by
 unfold cZ at h;rw[OE]at h;show#[?_,by simpa using h.2]
 change X.env.scope.names.lookup x=_;rw[K.names];show eq_of_beq h.1
def F3 (K:HCtx X Γ cls cl)(h:slot Γ x=ba i):PE X (.Name x pos) (pG i):=by
 unfold slot at h;split at h
 next hc=>rw[OE,OE]at hc;obtain⟨⟨a,b⟩,c⟩:=hc;show gR (by rw[K.N];show bV h) (qF (by rw[K.names];show a)) (by simpa using b) (by simpa using c)
 ·cases h
def Et (K:HCtx X Γ cls cl)(h:bu Γ x=ba i):X.N[i]?=ba x/\xW X.env.scope x/\(X.fn x=true\/X.env.scope.names.lookup x=ba .local):=by
 unfold bu at h;split at h
 next hc=>
  show#[by rw[K.N];show bV h,?_,.inl (K.dfn x)]
  unfold L2.xW;rw[K.names];rw[Qn,OE]at hc;rcases hc with hc|⟨hd,hc⟩
  ·show .inl (eq_of_beq hc)
  ·show .inr (eq_of_beq hc)
 ·cases h
def ObjRel.xin {A:Ow OF}(h:ObjRel wd K A H a (.exc cn C c ws)):∃dd,M6 H a C dd:=by
 obtain⟨o,dd,q,r⟩:=h;show#[dd,#[o,q],?_];rcases r with⟨rfl,_⟩|⟨b,od,vs,rfl,e,_⟩
 ·show .inl rfl
 ·show .inr #[b,_,od,rfl,e]
def IF (K:HCtx X Γ cls cl)(u:Gl X "isinstance")(y:X.mg "isinstance" = gV)(hs:slot Γ x=ba i)(n:Gl X D)(h:(D==("__debug__"))=false)(t:D∈cls) :
  GE X (.Call (.Name "isinstance" p) [.Name x p1,.Name D p2] [] pos) (xr cl (λcn=>kt cn D) i):=by
 obtain⟨b,B,xt⟩:=K.xt D t;show GE.of (kP wa u y rfl (eM (F3 K hs) (eM (tW (v:=.ref b) n B rfl h) nI)) #v[] #v[] rfl rfl) λY H A Z S w S' m f e Q z=>?_
 obtain⟨j,cn,C,c,ws,o,q,d,s,rfl⟩:=qN e;cases s;obtain⟨v,k,r⟩:=m.2 i _ o;cases r with
 |@ref _ a l=>
  obtain⟨dd,E⟩:=(f.obj j _ a q l).xin;obtain⟨⟨g,G⟩,_,_,_⟩:=K.xk cn C c d;show#[_,k,a,C,g,dd,.ref b,_,rfl,G,E,.inl #[b,rfl,xt cn C c d],z _ _ (.here f .bl)]
def qO {A:Ow OF}:∀{a:Ow OM}{ws:Ow W}{vs:Ow V},RelL K A H ws vs->(a.zip ws).lookup g=ba w->g∈a/\∃v,(a.zip vs).lookup g=ba v/\Rel K A H w v
 |[],_,_,_,h=>by cases h
 |_::_,_,_,.nil,h=>by cases h
 |y::a,f::ws,d::vs,.cons r t,h=>by
  rw[Rp,PY]at h;rw[Rp,PY];cases e:g==y with
  |true=>
   rw[e]at h;cases h;show#[by rw[eq_of_beq e];show OU,d,rfl,r]
  |false=>
   rw[e]at h;obtain⟨b,c⟩:=qO t h;show#[OV _ b,c]
def IG (K:HCtx X Γ cls cl)(hs:slot Γ x=ba i):GE X (.Attribute (.Name x p) g pos) (xu cl g i):=by
 show GE.of (yD (F3 K hs) rfl) λY H A Z S w S' m c e Q B=>?_
 obtain⟨j,cn,C,n,ws,s,t,u,b,rfl⟩:=qN e;obtain⟨v,h,r⟩:=m.2 i _ s;cases r with
 |@ref _ a l=>
  obtain⟨⟨d,E⟩,J,_,hf⟩:=K.xk cn C n u;obtain⟨o,dd,q,aC⟩:=c.obj j _ a t l;rcases aC with⟨_,rfl⟩|⟨f,od,vs,rfl,k,D⟩
  ·cases b
  ·obtain⟨z,y,G,I⟩:=qO D b;show#[_,h,a,C,d,f,_,y,o,od,rfl,E,hf g z,q,k,G,B _ _ (.here c I)]
abbrev IH (Γ:Gam)(cls:Ow OM)(cl:Cl)(i:OH):Pb->Oz E
 |.Name D _=>if cZ Γ D&&cls.contains D then ba (.sem (xr cl (λcn=>kt cn D) i))else gV
 |_=>gV
abbrev JQ (cls:Ow OM)(cl:Cl)(n:OM)(i:OH)(Γ:Gam):OH->Pb->Oz E
 |0,_=>gV
 |k+1,e=>match e with
  |.Constant (.str x) _ _=>ba (.c (.str x))
  |.Attribute (.Name x _) g _=>if x==n&&slot Γ n==ba i then ba (.sem (xu cl g i))else gV
  |.Call (.Name f _) [.Name x _,c] [] _=>if f==("isinstance": OM)&&cZ Γ f&&Γ.blt.contains f&&x==n&&slot Γ n==ba i then IH Γ cls cl i c else gV
  |_=>gV
abbrev F4 (cls:Ow OM)(cl:Cl)(n:OM)(i:OH)(Γ:Gam):OH->Qj->Oz Sm
 |0,_=>gV
 |k+1,st=>match st with
  |.Assign [.Name x _] e _=>match bu Γ x,JQ cls cl n i Γ 20 e with
   |some j,ba f=>ba (.set j f)
   |_,_=>gV
  |.If t a b _=>match JQ cls cl n i Γ 20 t,fZ (F4 cls cl n i Γ k) a,fZ (F4 cls cl n i Γ k) b with
   |some t',ba c,ba d=>ba (.ite t' c d)
   |_,_,_=>gV
  |_=>gV
section
variable{n:OM}
def Lz (K:HCtx X Γ cls cl)(f:cZ Γ ("isinstance")=true)(e:Γ.blt.contains ("isinstance")=true)(hs:slot Γ n=ba i)(h:IH Γ cls cl i c=ba r):∃g,r=.sem g/\GE X (.Call (.Name "isinstance" p) [.Name n p1,c] [] pos) g:=by
 obtain⟨a,j⟩:=Lx K f;cases c with
 |Name D q=>
  replace h:(if cZ Γ D&&cls.contains D then ba (E.sem (xr cl (λcn=>kt cn D) i))else gV)=ba r:=h
  split at h
  next hc=>rw[OE]at hc;obtain⟨b,d⟩:=Lx K hc.1;cases h;show#[_,rfl,IF K a (K.blt _ (by simpa using e)) hs b d (by simpa using hc.2)]
  ·cases h
 |_=>cases h
def qP (K:HCtx X Γ cls cl):∀ k {e:Pb}{l:E},JQ cls cl n i Γ k e=ba l->GE X e (aA M l)/\GT X e (cH M l):=by
 intro k
 induction k with
 |zero=>intro e l h;cases h
 |succ k ih=>
  intro e l h;cases e with
  |Constant c j p=>
   cases c<;>cases h
   show#[kj nF (λ_ _=>.str),bz (kj nF (λ_ _=>.str)) λ_=>rfl]
  |Attribute o g p=>
   cases o with
   |Name x q=>
    replace h:(if x==n&&slot Γ n==ba i then ba (E.sem (xu cl g i))else gV)=ba l:=h
    split at h
    next hc=>rw[OE]at hc;have e:=eq_of_beq hc.1;subst e;cases h;have g:=IG (g:=g) (p:=q) (pos:=p) K (eq_of_beq hc.2);show#[g,bz g λ_=>rfl]
    ·cases h
   |_=>show af h
  |Call f args r p=>
   cases r with
   |cons _ _=>cases f<;>first|(show af h)|(match args,h with|[],h=>show af h|[a],h=>(cases a<;>show af h)|[a,b],h=>(cases a<;>show af h)|a::b::c::d,h=>(cases a<;>show af h))
   |nil=>
    cases f with
    |Name x q=>
     match args,h with
     |[],h=>show af h
     |[a],h=>cases a<;>show af h
     |a::b::c::d,h=>cases a<;>show af h
     |[a,c],m=>
      cases a with
      |Name y A=>
       replace m:(if x==("isinstance": OM)&&cZ Γ x&&Γ.blt.contains x&&y==n&&slot Γ n==ba i then IH Γ cls cl i c else gV)=ba l:=m
       split at m
       next hc=>rw[OE,OE,OE,OE]at hc;obtain⟨⟨⟨⟨s,t⟩,u⟩,v⟩,w⟩:=hc;have e:=eq_of_beq s;subst e;have e:=eq_of_beq v;subst e;obtain⟨g,rfl,z⟩:=Lz (p:=q) (p1:=A) (pos:=p) K t u (eq_of_beq w) m;show#[z,bz z λ_=>rfl]
       ·cases m
      |_=>show af m
    |_=>show af h
  |_=>show af h
def II {e:Pb}{a:E}(h:JQ cls cl n i Γ k e=ba a):swapsWith e t l env=pure false:=by
 cases k with
 |zero=>cases h
 |succ k=>cases e<;>first|(exfalso;show af h)|rfl
def kE (ih:∀{st:Qj}{a:Sm},F4 cls cl n i Γ k st=ba a->GS X st (cu M fuel a)):∀{ss:Ow Qj}{r:Ss},fZ (F4 cls cl n i Γ k) ss=ba r->GSs X ss (bQ M fuel r)
 |[],r,h=>by cases h;show iI
 |s::ss,r,h=>by
  obtain⟨a,d,b,c,rfl⟩:=iN h;show ly (ih b) (kE ih c)
def AI (fuel:OH)(K:HCtx X Γ cls cl):∀ k {st:Qj}{d:Sm},F4 cls cl n i Γ k st=ba d->GS X st (cu M fuel d):=by
 have r:X.N.Nodup:=by rw[K.N];show K.nd
 intro k
 induction k with
 |zero=>intro st d h;cases h
 |succ k ih=>
  intro st d h;cases st with
  |If t a b p=>
   replace h:(match JQ cls cl n i Γ 20 t,fZ (F4 cls cl n i Γ k) a,fZ (F4 cls cl n i Γ k) b with|some t',ba l,ba m=>ba (Sm.ite t' l m)|_,_,_=>gV)=ba d:=h
   split at h
   next t' l m g f q=>cases h;show Fv (qP K _ g).2 (kE ih f) (kE ih q)
   ·cases h
  |Assign ts e p=>
   match ts,h with
   |[],h=>show af h
   |a::_::_,h=>cases a<;>show af h
   |[t],h=>
    cases t with
    |Name x s=>
     replace h:(match bu Γ x,JQ cls cl n i Γ 20 e with|some j,ba o=>ba (Sm.set j o)|_,_=>gV)=ba d:=h
     split at h
     next j o g f=>cases h;obtain⟨a,b,c⟩:=Et K g;show lz (qP K _ f).1 (oH r a b c) (show swapsWith e (ba (.Name x s)) p.line X.env=pure false from II f) (by cases e<;>rfl) rfl
     ·cases h
    |_=>show af h
  |_=>show af h
end
section
variable{K:Fm->aa->Prop}{Q:QO}
abbrev JR (M:OM->FF)(fuel:OH)(b:Ss)(Z:Fm)(S:aa)(I:Fm->aa->Prop)(Q:QO):Prop:=∀a:QO,(∀c S',I c S'->a (.nx c,S'))->(∀w S',Q (.rt w,S')->a (.rt w,S'))->wZ M fuel b Z S a
def oY {xs:Ow W}(I:OH->Fm->aa->Prop)(ok:iP b=true)(hi:iK M it Z S=ba (mi,S1))(d:∀i Z S,I i Z S->mi.at S i=ba xs[i]?)(hl:mi.len S1=ba ↥xs)(e:I 0 Z S1)
  (a:∀ i w Z S,xs[i]?=ba w->I i Z S->wO (sQ tg w Z S) λq=>JR M fuel b q.1 q.2 (I (i+1)) Q) (c:∀Z S,I ↥xs Z S->K Z S):Wp (cu M fuel (.loop tg it b) Z S) (sU K Q):=by
 (delta cu;rw[Lh])
 show#[_,hi,↥xs,hl,?_];show jH  I d (λi w Z S f g=>?_) (λZ S h=>c Z S h) _ 0 Z S1 ∅ e
 show(bd (a i w Z S f g)).mono λq j=>hW b ok (wZ.out (j _ (λ_ _ h=>h) λ_ _ h=>h))
def bA {e:E}{Q:QW}(ok:ci e=true)(h:wE M e Z S Q):∃w S',aA M e Z S=ba (w,S')/\Q (w,S'):=let ⟨⟨w,S'⟩,a,b⟩:=aR e ok h;#[w,S',a,b]
def gf {f:OH}{e:E}(j:O8)(I:OH->Fm->aa->Prop)(m:ci e=true)(ok:iP b=true)(l : -(2^62)<=j/\j<2^62)(k:wE M e Z S λp=>p.1=.int j/\I 0 Z p.2)
  (a:∀(i:OH) Z S,i<j->I i Z S->JR M fuel b (Z.set f (ba (.int i))) S (I (i+1)) Q) (c:∀Z S,I j.toNat Z S->K Z S):Wp (cu M fuel (.loop (.nm f) (.rng #v[e]) b) Z S) (sU K Q):=by
 obtain⟨w,S1,g,rfl,h⟩:=bA m k;have hl:(gY 0 j.toNat).length=j.toNat:=by(delta gY;simp)
 show oY (mi:=.its _)   I ok ?_ (λ_ _ _ _=>rfl) rfl h (λi w Z S hw d=>?_) λZ S d=>c Z S (hl▸d)
 ·(delta iK bP dH km qt;revert g)
  rw[OZ l]
 ·rw[fO]at hw;split at hw
  ·cases hw;rw[VG];show a i Z S ∅ d
  ·cases hw
def for_tup {e:E}(xs:Ow W)(I:OH->Fm->aa->Prop)(h:ci e=true)(ok:iP b=true)(g:wE M e Z S λp=>p.1=.tup xs/\I 0 Z p.2)
  (a:∀ i w Z S,xs[i]?=ba w->I i Z S->wO (sQ tg w Z S) λq=>JR M fuel b q.1 q.2 (I (i+1)) Q) (c:∀Z S,I ↥xs Z S->K Z S):Wp (cu M fuel (.loop tg (.seq e) b) Z S) (sU K Q):=by
 obtain⟨w,S1,d,rfl,f⟩:=bA h g;show oY (mi:=.its xs)  I ok (by revert iK dg d) (λ_ _ _ _=>rfl) rfl f a c
def Eu {e:E}(t:OH)(xs:Ow W)(I:OH->Fm->aa->Prop)(k:ci e=true)(ok:iP b=true)(j:wE M e Z S λp=>p.1=.ref t/\I 0 Z p.2)(a:∀i Z S,I i Z S->S[t]?=ba (.lst xs))
  (c:∀ i w Z S,xs[i]?=ba w->I i Z S->wO (sQ tg w Z S) λq=>JR M fuel b q.1 q.2 (I (i+1)) Q) (d:∀Z S,I ↥xs Z S->K Z S):Wp (cu M fuel (.loop tg (.seq e) b) Z S) (sU K Q):=by
 obtain⟨w,S1,g,rfl,f⟩:=bA k j;show oY (mi:=.live t)  I ok (by simp only[iK,dg,g,az (a _ _ _ f)]) (λi Z S h=>by simp only[MI.at,az (a _ _ _ h)]) (by simp only[MI.len,az (a _ _ _ f),P3]) f c d
def F5 (I:OH->Fm->aa->Prop)(m:OH)(i:ci t=true)(ok:iP b=true)(g:m<fuel)(d:I m Z S)
  (a:∀m Z S,I m Z S->wT M t Z S λk=>(k.1=true->∃c,m=c+1/\JR M fuel b Z k.2 (I c) Q)/\(k.1=false->K Z k.2)):Wp (cu M fuel (.whl t b) Z S) (sU K Q):=by
 change Wp (lA (cH M t) (bQ M fuel b) fuel Z S) _;show lM (Q:=sU K Q) I (λm Z S f=>(iQ t i (a m Z S f)).mono λk hk=>#[λz=>?_,λz=>hk.2 z]) fuel m Z S g d
 obtain⟨c,e,h⟩:=hk.1 z;show#[c,e,hW b ok (wZ.out (h _ (λ_ _ h=>h) λ_ _ h=>h))]
abbrev wC (M:OM->FF):Es->Fm->aa->QB->Prop
 |.nil,_,S,Q=>Q (true,S)
 |.cons e .nil,Z,S,Q=>wT M e Z S Q
 |.cons _ (.cons _ _),_,_,_=>P0
def F6 {a:Es}{Q:QB}(ok:rM a=true)(h:wC M a Z S Q):Wp (FD M a Z S) Q:=by
 match a,h,ok with
 |.nil,h,_=>show Li.mpr h
 |.cons e .nil,h,ok=>show Lj.mpr (iQ e (bL ok) h)
abbrev oZ (M:OM->FF)(a:E)(b:Es)(Z:Fm)(S:aa)(G:W->Fm->aa->Prop)(N:Fm->aa->Prop):Prop:=wC M b Z S λk=>(k.1=true->wE M a Z k.2 λy=>G y.1 Z y.2)/\(k.1=false->N Z k.2)
def sX {f:Es}{xs:Ow W}{Q:QW}(I:OH->Ow W->Fm->aa->Prop)(n:ci b=true)(oc:rM f=true)(hi:iK M it Z S=ba (mi,S1))(g:∀i a Z S,I i a Z S->mi.at S i=ba xs[i]?)(hl:mi.len S1=ba ↥xs)(j:I 0 [] (cr d Z) S1)
  (c:∀ i w a Z S,xs[i]?=ba w->I i a Z S->wO (sQ tg w Z S) λq=>oZ M b f q.1 q.2 (λy=>I (i+1) (a++[y])) (I (i+1) a))
  (e:∀a Z S,I ↥xs a Z S->↥a<=sizeLine/\Q (.ref ↥S,S++[.lst a])):Wp (aA M (.comp b tg it f d) Z S) Q:=by
 rw[At];show#[_,hi,↥xs,hl,?_];show(c6  (Q:=λq=>↥q.1<=sizeLine/\Q (.ref ↥q.2,q.2++[.lst q.1])) I g (λi w a Z S l m=>?_) e _ 0 [] _ S1 ∅ j).mono λq h=>by simpa using h
 show(bd (c i w a Z S l m)).mono λq h=>(F6 oc h).mono λk hk=>#[λz=>aR b n (hk.1 z),hk.2]
def iV { e:E}{g:Es}{Q:QW}(j:O8)(I:OH->Ow W->Fm->aa->Prop)(r:ci e=true)(q:ci b=true)(oc:rM g=true)(o : -(2^62)<=j/\j<2^62)(n:wE M e Z S λp=>p.1=.int j/\I 0 [] (cr d Z) p.2)
  (c:∀(i:OH) a Z S,i<j->I i a Z S->oZ M b g (Z.set k (ba (.int i))) S (λy=>I (i+1) (a++[y])) (I (i+1) a))
  (f:∀a Z S,I j.toNat a Z S->↥a<=sizeLine/\Q (.ref ↥S,S++[.lst a])):Wp (aA M (.comp b (.nm k) (.rng #v[e]) g d) Z S) Q:=by
 obtain⟨w,S1,l,rfl,m⟩:=bA r n;have hl:(gY 0 j.toNat).length=j.toNat:=by simp[gY]
 show sX (mi:=.its _)   I q oc ?_ (λ_ _ _ _ _=>rfl) rfl m (λi w a Z S hw h=>?_) λa Z S h=>f a Z S (hl▸h)
 ·revert iK bP dH km qt l;rw[OZ o]
 ·rw[fO]at hw;split at hw
  ·cases hw;rw[VG];show c i a Z S ∅ h
  ·cases hw
def vc {a e:E}{g:Es}{Q:QW}(xs:Ow W)(I:OH->Ow W->Fm->aa->Prop)(m:ci e=true)(l:ci a=true)(oc:rM g=true)(k:wE M e Z S λp=>p.1=.tup xs/\I 0 [] (cr d Z) p.2)
  (b:∀ i w c Z S,xs[i]?=ba w->I i c Z S->wO (sQ tg w Z S) λq=>oZ M a g q.1 q.2 (λy=>I (i+1) (c++[y])) (I (i+1) c))
  (f:∀c Z S,I ↥xs c Z S->↥c<=sizeLine/\Q (.ref ↥S,S++[.lst c])):Wp (aA M (.comp a tg (.seq e) g d) Z S) Q:=by
 obtain⟨w,S1,h,rfl,j⟩:=bA m k;show sX (mi:=.its xs)  I l oc (by revert iK dg h) (λ_ _ _ _ _=>rfl) rfl j b f
def Ev { e:E}{f:Ow (Oz OH)}{Q:QW}(t:OH)(xs:Ow W)(I:OH->Ow W->Fm->aa->Prop)(o:ci e=true)(n:ci b=true)(oc:rM j=true)(m:wE M e Z S λp=>p.1=.ref t/\I 0 [] (cr f Z) p.2)(c:∀i a Z S,I i a Z S->S[t]?=ba (.lst xs))
  (d:∀ i w a Z S,xs[i]?=ba w->I i a Z S->wO (sQ tg w Z S) λq=>oZ M b j q.1 q.2 (λy=>I (i+1) (a++[y])) (I (i+1) a))
  (g:∀a Z S,I ↥xs a Z S->↥a<=sizeLine/\Q (.ref ↥S,S++[.lst a])):Wp (aA M (.comp b tg (.seq e) j f) Z S) Q:=by
 obtain⟨w,S1,l,rfl,k⟩:=bA o m;show sX (mi:=.live t)  I n oc (by simp only[iK,dg,l,az (c _ _ _ _ k)]) (λi a Z S h=>by simp only[MI.at,az (c _ _ _ _ h)]) (by simp only[MI.len,az (c _ _ _ _ k),P3]) k d g
def st (h:wS M fuel s Z S (λa S'=>wZ M fuel ss a S' Q) Q):wZ M fuel (.cons s ss) Z S Q:=#[by
 delta Ej;revert Lr;show h]
def cM (h:Q (.nx Z,S)):wZ M fuel .nil Z S Q:=#[h]
def ar {a :Ss}{ Q0:QO}(h:t=true->∀c:QO,(∀d S',K d S'->c (.nx d,S'))->(∀w S',Q (.rt w,S')->c (.rt w,S'))->wZ M fuel a Z S c)(i:t=false->∀c:QO,(∀d S',K d S'->c (.nx d,S'))->(∀w S',Q (.rt w,S')->c (.rt w,S'))->wZ M fuel b Z S c) :
  ∀c:QO,(∀d S',K d S'->c (.nx d,S'))->(∀o S',(∀d,o≠.nx d)->Q (o,S')->c (o,S'))->(t=true->Ej M fuel a Z S c)/\(t=false->Ej M fuel b Z S c):=
 λc f g=>#[λe=>(h e c f λw S'=>g (.rt w) S' (λ_ z=>nomatch z)).out,λe=>(i e c f λw S'=>g (.rt w) S' (λ_ z=>nomatch z)).out]
end
open PySem PySem.Spec PyProof.Rows L2 Xc
inductive BK where
 |test (f:OM) (k:OH) (es:Es) (a:Ss)
abbrev BK.fs (M:OM->FF):BK->FS
 |.test f k es a=>gC (iH (oG .is (fM k (u6 (M f)) (bP M es)) (fC (.bl true)))) (bQ M 0 a) (bQ M 0 .nil)
abbrev BK.fx (M:OM->FF):BK->FX
 |.test f k es _=>mW k (xG (M f)) (bP M es)
abbrev JS (cl:Cl)(c:OM)(i:OH)(b:BK)(h:Ss):(OM->FF)->FS:=λM=>AG (b.fs M) (b.fx M) (λcn=>kt cn c) cl i (bQ M 0 h)
abbrev AJ (b:Ow (OM×OM×OH))(Γ:Gam):Pb->Oz (OM×OH×Es)
 |.Call (.Name f _) (a::as) [] _=>if cZ Γ f then match b.lookup f,cA (cE aX Γ) (a::as)with
  |some (c,k),ba es=>ba (c,k,es)
  |_,_=>gV
  else gV
 |_=>gV
abbrev LA:Pb->O6
 |.Constant (.bool true) _ _=>true
 |_=>false
abbrev IJ (b:Ow (OM×OM×OH))(Γ:Gam)(e c:Pb)(a:Ow Qj):Oz BK:=if LA c then match AJ b Γ e,fZ (cS 20 Γ) a with
  |some p,ba d=>ba (.test p.1 p.2.1 p.2.2 d)
  |_,_=>gV
  else gV
abbrev LB (b:Ow (OM×OM×OH))(Γ:Gam)(a:Ow Qj):Pb->Oz BK
 |.Compare e [.Is] [c] _=>IJ b Γ e c a
 |_=>gV
abbrev Nu (b:Ow (OM×OM×OH))(Γ:Gam):Qj->Oz BK
 |.If t a [] _=>LB b Γ a t
 |_=>gV
abbrev N5 (a:Ow (OM×OM×OH))(Γ:Gam):Ow Qj->Oz BK
 |[st]=>Nu a Γ st
 |_=>gV
abbrev N6:Pb->Oz OM
 |.Name c _=>ba c
 |_=>gV
abbrev N7:YC->Oz (OM×OM×Ow Qj)
 |.ExceptHandler (ba e) (ba n) b _=>(N6 e).map λc=>(c,n,b)
 |_=>gV
abbrev Nv:Qj->Oz (Ow Qj×OM×OM×Ow Qj)
 |.Try body [x] [] [] _=>(N7 x).map λp=>(body,p)
 |_=>gV
abbrev JT (d:Ow (OM×OM×OH))(cls:Ow OM)(cl:Cl)(Γ:Gam)(st:Qj):Oz Sm:=match Nv st with
 |some (body,c,n,a)=>if cZ Γ c&&cls.contains c&&(Γ.sc.lookup n==ba .local) && !a.isEmpty then match Γ.N.findIdx? (· == n)with
  |some i=>match N5 d Γ body,fZ (F4 cls cl n i Γ 20) a with
   |some b,ba h=>ba (.sem (JS cl c i b h))
   |_,_=>gV
  |none=>gV
  else gV
 |none=>cS 20 Γ st
def IK {st:Qj}{ a:Ow Qj}(h:Nv st=ba (body,c,n,a)):∃d g p,st=.Try body [.ExceptHandler (ba (.Name c d)) (ba n) a g] [] [] p:=by
 cases st with
 |Try body hs o f p=>
  cases hs with
  |nil=>show af h
  |cons x j=>
   cases j with
   |cons _ _=>show af h
   |nil=>
    cases o with
    |cons _ _=>show af h
    |nil=>
     cases f with
     |cons _ _=>show af h
     |nil=>
      replace h:(N7 x).map (λp=>(body,p))=ba _:=h
      rw[OG]at h;obtain⟨q,h,e⟩:=h;cases e;cases x with
      |ExceptHandler t m b g=>
       cases t with
       |none=>show af h
       |some e=>
        cases m with
        |none=>show af h
        |some m=>
         replace h:(N6 e).map (λc=>(c,m,b))=ba _:=h
         rw[OG]at h;obtain⟨q,h,i⟩:=h;cases i;cases e with
         |Name x d=>cases h;show#[_,_,_,rfl]
         |_=>show af h
 |_=>show af h
def GA.nox {f:FA}(h:GA X.nox es f):GA X es f:=λpos J s Y H Q I #[A,Z,S,ws,S',er,so,e,q]=>
 P4 (h pos J s Y H Q (I.wish _) #[A,Z,S,ws,S',er,so,e,λvs a #[b,x,y,z]=>q vs a #[b,x,y,z]]) (λ_ _ #[v,a,I',r,q]=>#[v,a,I'.unwish,r,q]) λ_ _ z=>P0.elim z
def GSs.nox {st:Ow Qj}{f:FS}(h:GSs X.nox st f):GSs X st f:=λJ s Y H D I #[A,Z,S,o,S',er,so,e,d]=>
 P4 (h J s Y H D (I.wish _) #[A,Z,S,o,S',er,so,e,AH X X.nox rfl rfl d]) (λ_ _ q=>q.unwish) λ_ _ z=>P0.elim z
structure TOk (M:OM->FF)(X:Cx)(Γ:Gam)(XF:Ow (OM×OM×OH))(cls:Ow OM)(cl:Cl):Prop where
 st:X.stack=X.env::X.outer
 fr:X.env.frame=ba X.env.locals
 hc:∀a,HCtx (ug X a) Γ cls cl
 xd:∀c∈cls,∃D,X.mg c=ba (.ref D)/\XD X.K D
 xf:∀f f' k,XF.lookup f=ba (f',k)->∃d fa fd ps,FnOk X.prog X.w X.K X.mg X.base (CXx X.prog X.w) d fa fd ps (spX X.w X.K cl k (u6 (M f')) (xG (M f')))/\Room d X.A/\X.mg f=ba (.ref fa)/\Qh X.K (.ref fa)=true/\Binds X.K fd ps []
section
variable{XF:Ow (OM×OM×OH)}
def AK (K:CtxOk M X Γ)(J:Ow (OF×Qq))(E:Oy->OB->Prop):CtxOk M (Cx.tr X J E).nox Γ:=#[K.names,K.kind,K.N,K.nd,K.calm,Uu,K.un,K.dfn,K.own,K.blt,K.cst,K.fns]
def IL (K:CtxOk M X Γ)(T:TOk M X Γ XF cls cl){e:Pb}{f:OM}{es:Es}(h:AJ XF Γ e=ba (f,k,es)){E:Oy->OB->Prop}{g:L2.St}
  (hw:∀m H s a C dd o,Air (Cx.tr X J E) m g H s a C dd o->c (.ref C) dd H->E (.ref a) s):ME (Cx.tr X J E) cl c g e (fM k (u6 (M f)) (bP M es)) (mW k (xG (M f)) (bP M es))/\(∀t l env,swapsWith e t l env=pure false)/\∀t,swappedStores [t] e (Cx.tr X J E).env=pure gV:=by
 cases e with
 |Call fn args b pos=>
  cases fn with
  |Name x p=>
   cases args with
   |nil=>cases b<;>show af h
   |cons a as=>
    cases b with
    |cons _ _=>show af h
    |nil=>
     replace h:(if cZ Γ x then match XF.lookup x,cA (cE aX Γ) (a::as)with|some (i,k),ba es=>ba (i,k,es)|_,_=>gV else gV)=ba (f,k,es):=h
     split at h
     ·rename_i y;split at h
      next i D q v j=>cases h;obtain⟨d,fa,fd,ps,F,B,A,hk,w⟩:=T.xf x f k v;have n:=AK K J E;obtain⟨r,u⟩:=fQ K y;have ns:=bK j;rw[P9,OE]at ns;show#[ID (X:=Cx.tr X J E) F B r A hk w hw (GA.nox (cv (λz=>(bc aX n z).1) j)) u (aq ns.1) (aP ns.2),λ_ _ _=>rfl,λt=>by cases t<;>rfl]
      ·cases h
     ·cases h
  |_=>show af h
 |_=>show af h
def Nw (K:CtxOk M X Γ)(T:TOk M X Γ XF cls cl)(h:N5 XF Γ body=ba b)(J:Ow (OF×Qq))(E:Oy->OB->Prop)(k:L2.St)(j:L2.XK)
  (hw:∀l H s a C dd r,Air (Cx.tr X J E) l k H s a C dd r->j (.ref C) dd H->E (.ref a) s):PSs (Cx.tr X J E) body (MX (Cx.tr X J E) cl j k (b.fs M) (b.fx M)):=by
 cases body with
 |nil=>show af h
 |cons st v=>
  cases v with
  |cons _ _=>show af h
  |nil=>
   cases st with
   |If t a u p=>
    cases u with
    |cons _ _=>show af h
    |nil=>
     replace h:LB XF Γ a t=ba b:=h;cases t with
     |Compare e os f p2=>
      cases os with
      |nil=>show af h
      |cons o os=>
       cases os with
       |cons _ _=>cases o<;>show af h
       |nil=>
        cases f with
        |nil=>cases o<;>show af h
        |cons c f=>
         cases f with
         |cons _ _=>cases o<;>show af h
         |nil=>
          cases o with
          |Is=>
           replace h:IJ XF Γ e c a=ba b:=h;unfold IJ at h;cases ht:LA c with
           |false=>rw[ht]at h;show af h
           |true=>
            rw[ht,OZ rfl]at h;cases d:AJ XF Γ e with
            |none=>rw[d]at h;show af h
            |some q=>
             cases g:fZ (cS 20 Γ) a with
             |none=>rw[d,g]at h;show af h
             |some w=>
              rw[d,g]at h;cases h;obtain⟨k0,i,rfl⟩:∃k0 i,c=.Constant (.bool true) k0 i:=by
               cases c with
               |Constant x k0 i=>
                cases x with
                |bool t=>cases t with
                 |true=>show#[_,_,rfl]
                 |false=>cases ht
                |_=>cases ht
               |_=>cases ht
              have n:=AK K J E;obtain⟨m,_,_⟩:=IL K T d hw;show tY (Lw (IE (o:=.is) (X:=Cx.tr X J E) K.un m (kj xY (λ_ _=>.bl)) rfl) (GSs.nox (eU (λz=>kC 0 n 20 z) g)) iI)
          |_=>show af h
     |_=>show af h
   |_=>show af h
def Nx (fuel:OH)(K:CtxOk M X Γ)(T:TOk M X Γ XF cls cl){st:Qj}{g:Sm}(h:JT XF cls cl Γ st=ba g):GS X st (cu M fuel g):=by
 have A:X.N.Nodup:=by rw[K.N];show K.nd
 unfold JT at h;cases e:Nv st with
 |none=>rw[e]at h;show kC fuel K 20 h
 |some q=>
  obtain⟨body,c,n,d⟩:=q;rw[e]at h;obtain⟨I,L,p,rfl⟩:=IK e;dsimp only at h;clear e;split at h
  next hc=>
   rw[OE,OE,OE]at hc;obtain⟨⟨⟨o,r⟩,s⟩,t⟩:=hc;obtain⟨b0,d,rfl⟩:∃b0 ss,d=b0::ss:=by
    cases d with
    |nil=>cases t
    |cons b0 ss=>show#[b0,ss,rfl]
   split at h
   next i hi=>
    split at h
    ·rename_i b hs x y;cases h;obtain⟨u,v⟩:=fQ K o;have f:c∈cls:=by simpa using r
     obtain⟨D,m,xd⟩:=T.xd c f;show IC (D:=D) T.st T.fr A (by rw[K.N];show bV hi) (by rw[K.names];show eq_of_beq s) u m xd v (λcn C w G H=>?_) (λJ E l k hw=>Nw K T x J E l k hw) λa=>kE (λz=>AI 0 (T.hc a) 20 z) y
     obtain⟨j,B,xt⟩:=(T.hc 0).xt c f;have e:ba (Ps D)=ba (Ps j):=m.symm.trans B;cases e;have:=(xt cn C w G).sub;rw[H]at this;show this
    ·cases h
   ·cases h
  ·cases h
def vd (K:CtxOk M X Γ)(T:TOk M X Γ XF cls cl):∀{ss:Ow Qj}{r:Ss},fZ (JT XF cls cl Γ) ss=ba r->GSs X ss (bQ M fuel r)
 |[],r,h=>by cases h;show iI
 |s::ss,r,h=>by
  obtain⟨d,c,a,b,rfl⟩:=iN h;show ly (Nx fuel K T a) (vd K T b)
end
structure XCls (K:OI)(mg:OM->Oz Oy)(base:Pr)(cls:Ow OM)(cl:Cl):Prop where
 xk:∀cn C gs,cl cn=ba (C,gs)->(∃cd,XK K C cd)/\base.get? C≠gV/\XT K C (.type "ValueError") true/\∀g∈gs,Sr K (.ref C) g=ba gV
 xt:∀D∈cls,∃Da,mg D=ba (.ref Da)/\XD K Da/\∀cn C gs,cl cn=ba (C,gs)->XT K C (.ref Da) (kt cn D)
section
variable{w:Pk}{base:Pr}
abbrev LC (P:Pe)(w:Pk)(K:OI)(mg:OM->Oz Oy)(base:Pr)(b:Ow (OM×OM×OH))(cl:Cl)(defs:Ow (OM×Df))(fuel d:OH):Prop:=
 ∀f a n,b.lookup f=ba (a,n)->∃fa fd ps,FnOk P w K mg base (CXx P w) (d+2) fa fd ps (spX w K cl n (u6 (ae defs fuel d a)) (xG (ae defs fuel d a)))/\mg f=ba (.ref fa)/\Qh K (.ref fa)=true/\Binds K fd ps []
def IM {i:Md}{B:Ow (OM×OM×OH)}{st:Qj}(F:Fun K x b st f fd)(S:FnScope df.N df.ps (aj st))(hd:defs.lookup x=ba df)
  (hc:fZ (JT B cls cl (ft i st df.N)) (aS st)=ba df.body) (G:MdOk w K mg i) (t:uX P w K mg base i defs fuel d) (V:LC P w K mg base B cl defs fuel d) (l:XCls K mg base cls cl) :
  FnOk P w K mg base mF (d+3) f fd df.ps (spF w K ↥df.ps (ae defs fuel (d+1) x)):=by
 show F.ok S (λvs H Q E h=>?_) (λcdv A outer s H vs Q E J h=>?_)
 ·obtain⟨A,S,ws,W,S',_,u,hl,_⟩:=h;rw[<- ↥u];show hl
 ·obtain⟨L,M,ws,W,S',O,u,hl,e,N⟩:=h;have un:(A.deeper (envOfC b (aj st) ⇑s.heap.objs f cdv)).units+20<cLine:=by
   have:=J.un;omega
  have R:CtxOk (ae defs fuel d) (fF mF P w K mg base df.N b (aj st) f cdv A outer s H E).nox (ft i st df.N):=by
   show#[rfl,S.kind,rfl,S.nd,rfl,Uu,un,λ_ _=>rfl,λ_ h=>(nomatch h),G.blt,G.cst _ rfl rfl rfl,λg n I=>?_]
   obtain⟨fa,m,o,j,q,r,C⟩:=t g n I;show#[d+2,fa,m,o,j,J,q,r,C]
  have T:TOk (ae defs fuel d) (fF mF P w K mg base df.N b (aj st) f cdv A outer s H E).nox (ft i st df.N) B cls cl:=by
   show#[rfl,rfl,λa=>#[rfl,rfl,S.nd,un,λ_=>rfl,G.blt,l.xk,λD U=>?_],λc hc=>?_,λg g' n I=>?_]
   ·obtain⟨y,j,_,r⟩:=l.xt D U;show#[y,j,r]
   ·obtain⟨y,j,q,_⟩:=l.xt c hc;show#[y,j,q]
   ·obtain⟨fa,m,o,j,q,r,C⟩:=V g g' n I;show#[d+2,fa,m,o,j,J,q,r,C]
  show#[tS _ (bQ (ae defs fuel d) fuel df.body),vd R T hc,?_]
  (dsimp only[ae]at e;simp only[hd]at e)
  rw[OZ hl]at e;split at e
  next Y S1 j=>
   cases e;show#[L,bv df.N ws,M,_,_,cw u,O,j,#[λp k #[_,_,z,_,_,_]=>(by cases z),λv k #[w2,A2,z0,z1,z2,z3]=>?_,λp k #[_,_,z,_,_,_]=>(by cases z),λp k #[_,_,z,_,_,_]=>(by cases z)]]
   cases z0;show N v k #[A2,z1,z2,z3]
  next X S1 j=>
   cases e;show#[L,bv df.N ws,M,_,_,cw u,O,j,#[λp k #[w2,A2,z0,z1,z2,z3]=>?_,λp k #[_,_,z,_,_,_]=>(by cases z),λp k #[_,_,z,_,_,_]=>(by cases z),λp k #[_,_,z,_,_,_]=>(by cases z)]]
   show N _ k #[A2,z1,z2,.non]
  ·cases e
end
section
variable{c:OM}{h:Ss}{K:Fm->aa->Prop}{Q:QO}
abbrev LD (i:OH)(K:Fm->aa->Prop)(Q:QO)(p:Out×aa):Prop:=match p.1 with
 |.nx a=>K (a.set i gV) p.2
 |.rt w=>Q (.rt w,p.2)
 |_=>P0
def LF (ok:iP h=true)(f:b.fs M Z S=gV)(g:b.fx M Z S=ba (cn,ws,S1))(j:cl cn=ba (C,d))(k:kt cn c=true)
  (l:wZ M 0 h (Z.set i (ba (.ref ↥S1))) (S1++[.exc cn C d ws]) (LD i K Q)):wO (JS cl c i b h M Z S) (sU K Q):=by
 obtain⟨⟨o,S2⟩,e,q⟩:=hW h ok l.out;unfold JS AG;revert f g j k QY e;cases o with
 |nx a=>show q
 |rt w=>show q
 |bk a=>show q.elim
 |ct a=>show q.elim
def LG (a:b.fs M Z S=ba (o,S1))(q:sU K Q (o,S1)):wO (JS cl c i b h M Z S) (sU K Q):=by
 unfold JS AG;revert a;show q
end
open PySem PySem.Spec PySem.W PyProof.Rows L2 Xc
structure DK (K:Frag)(D:OF):Prop where
 hc:(clsIn K D).isSome=true
 ty:typeIn K (.ref D)=ba (.type "type")
 st:subIn K (.type "type") (.type "tuple")=ba false
 se:subIn K (.ref D) (.type "BaseException")=ba true
def DK.xd (h:DK K D):XD K D:=
 let ⟨_,hc⟩:=P1.mp h.hc
 #[λa h' X=>(looks_typeIn X h.ty).andThen (looks_subIn X h.st),λa h' X=>(gT hc a h' X).andThen (looks_subIn X h.se)]
def DK.xt (h:DK K D)(sub:subIn K (.ref C) (.ref D)=ba b)(eq:(!(Ps C==Ps D)||b)=true):XT K C (.ref D) b:=
 let ⟨_,hc⟩:=P1.mp h.hc
 #[λa h' X=>looks_typeIn X h.ty,λa h' X=>gT hc a h' X,sub,λz=>by rw[z]at eq;show eq]
def LH {T:Qs}(ty:typeOf (.type T)=pure (.type "type"))(sub:subIn K (.ref C) (.type T)=ba b):XT K C (.type T) b:=
 #[λa h X=>.of_pure ty,λa h X=>.of_pure rfl,sub,λz=>by cases z]
structure XE (K:Frag)(C N f:OF)(nm:OM)(bs bm sub:Ow Oy)(k0 t2 t3:OH)(gs:Ow OM):Prop where
 lk:K.lookup C=ba (excClassObj nm nm C N bs bm true [] sub false gV gV (ba (.ref k0)) gV (ba (.str nm t2)) (ba (.str nm t3)) (ba (.bool true)) "ValueError.__new__")
 mro:dO (.ref C::bm)=true
 tl:tailIn K NX bm=true
 bb:bm.contains (.type "BaseException")=true
 ga:findIn K (.ref C) "__getattribute__" = ba (ba (.builtin "BaseException.__getattribute__"))
 hk:findIn K (.ref C) "__getattr__" = ba gV
 kl:findIn K (.ref C) "__class__" = ba (ba (.builtin "object.__class__"))
 gg:specialIn K (.builtin "object.__class__") "__get__" = ba (ba (.builtin "getset_descriptor.__get__"))
 tk:takesIn K (.builtin "object.__class__")=ba true
 sa:findIn K (.ref C) "__setattr__" = ba (ba (.builtin "object.__setattr__"))
 init:findIn K (.ref C) "__init__" = ba (ba (.ref f))
 fn:typeIn K (.ref f)=ba (.type "function")
 kp:keepIn K (.ref C)=true
 ve:subIn K (.ref C) (.type "ValueError")=ba true
 at':(gs.all λg=>findIn K (.ref C) g==ba gV)=true
variable{N:OF}{bm sub:Ow Oy}
section
variable{K:Frag}{nm:OM}{bs:Ow Oy}{k0 t2 t3:OH}
def XE.xm (h:XE K C N f nm bs bm sub k0 t2 t3 gs):∃a,XM K C f a:=by
 have hc:clsIn K C=ba {name:=nm,bases:=bs,mro:=.ref C::bm,ns:=N,qualname:=nm,hasDict:=true,slotNames:=[],subclasses:=sub,abstract:=false,collection:=gV,hasDel:=false}:=by
  unfold clsIn;rw[h.lk]
 show#[_,{cls:=hc,mro:=h.mro,dct:=rfl,ga:=h.ga,hk:=h.hk,kl:=h.kl,gg:=h.gg,tk:=h.tk,obj:=#[_,_,_,_,_,_,_,_,_,_,_,_,_,_,_,h.lk,h.tl,h.bb],sa:=h.sa,init:=h.init,fn:=h.fn,kp:=h.kp}]
def XE.fd (h:XE K C N f nm bs bm sub k0 t2 t3 gs):∀g∈gs,findIn K (.ref C) g=ba gV:=λg a=>eq_of_beq (OT.mp h.at' g a)
def XE.all (h:XE K C N f nm bs bm sub k0 t2 t3 gs)(X:K.In base):(∃a,XK K C a)/\base.get? C≠gV/\XT K C (.type "ValueError") true/\∀g∈gs,findIn K (.ref C) g=ba gV:=by
 obtain⟨a,m⟩:=h.xm;show#[#[a,m.toXC.toXK],?_,LH rfl h.ve,h.fd];rw[X _ _ h.lk];show λe=>nomatch e
end
def iW {α:Type}{v:α}:∀{l:Ow (OM×α)},l.lookup x=ba v->(x,v)∈l
 |[],h=>nomatch h
 |(y,u)::l,h=>by
  rw[PY]at h;split at h
  next e=>cases h;have:=eq_of_beq e;subst this;show OU
  ·show OV _ (iW h)
def LJ (d:attributeBase o name env (eval o env)=eval o env)(a:methodCallForm (↥args+([]:Ow Vu).length) (backTo pos (starEach args env)) (backToKw pos (keywordEach [] env))=true)(b:(apos.endLine==pos.line)=true) :
  eval (.Call (.Attribute o name apos) args [] pos) env=(do
   let ov <- eval o env
   standAt apos.atName
   let (f,first) <- holding [ov] (getMethod ov name (do return(<- importBound o env).getD true))
   callWith pos f first (backTo pos (starEach args env)) (backToKw pos (keywordEach [] env))):=by
 have c:methodCallPos true o env apos pos=pure pos:=by unfold methodCallPos;simp[b]
 rw[arm_eval_Call,d];unfold methodCall calleeOf;rw[a,c];revert QY pure_bind
variable{CL:OF}{mc:Oy}
section
variable{w:Pk}{K:Frag}{base:Pr}{x qual L self y z h:OM}{st:Qj}{fd:Qp}
def IN (F:Fun K x qual st f fd)(S:FnScope [self,y] [self,y] (aj st))(d:∃p1 p2 u z j B D G I c,aS st=[.Expr (.Call (.Attribute (.Name L p1) "__init__" p2) [.Name self u,.Name y z] [] j) B,.Assign [.Attribute (.Name self D) g G] (.Name y I) c]/\(p2.endLine==j.line)=true)
  (h:(aj st).names.lookup L=ba .globalImplicit) (hs:(aj st).names.lookup self=ba .local) (t:(aj st).names.lookup y=ba .local) (i:mg L=ba (.ref CL)) (a:XL K CL mc)
  (hdb:(L==("__debug__"))=false) (m:(self==("__debug__"))=false) (n:(self==("__classdict__"))=false) (o:(y==("__debug__"))=false) (p:(y==("__classdict__"))=false):FnOk P w K mg base mF (k+1) f fd [self,y] (yE K g):=by
 obtain⟨p1,p2,u,z,j,B,D,G,I,c,d,hl⟩:=d;show F.ok S (λvs H Q E #[_,_,_,_,q,_]=>by rw[q];rfl) λcdv A outer s H vs Q E M J=>?_
 rw[d];obtain⟨e,v,C,l,rfl,b,hf,r,hk⟩:=J;show#[J0 (Fh (yw K (yf (pG 0) (yf (pG 1) GQ)))) (Fp K (pG 0) (pG 1) g),kM (tZ (yx h i a.ga a.rd a.fc (eM (gR rfl (.inl hs) m n) (eM (gR rfl (.inl t) o p) nI)) (hdb:=hdb) (ht:=LJ rfl rfl hl)) rfl) (tY (CI (gR rfl (.inl hs) m n) (gR rfl (.inl t) o p) rfl)),?_];show#[.ref e,rfl,v,rfl,e,C,l,gV,[v],rfl,?_,b,r,v,rfl,.ref e,rfl,e,C,l,rfl,b,hf,.inl #[r,hk]];rw[Qc];change 1<=_;decide
end
abbrev hZ:Ss:=
 #v[.ret (.lst #v[.bi .list #v[.v 0],.c (.int 0),.c (.int 0),.c (.int 1),.c (.int 0)])]
abbrev cy:Ss:=
 #v[.ite (.and (.cmp .eq (.ix (.v 0) (.c (.int 2))) (.c (.int 0))) (.cmp .lt (.ix (.v 0) (.c (.int 1))) (.bi .len #v[.ix (.v 0) (.c (.int 0))]))) #v[.set 2 (.ix (.ix (.v 0) (.c (.int 0))) (.ix (.v 0) (.c (.int 1)))),.put (.v 0) (.c (.int 1)) (.op .add (.ix (.v 0) (.c (.int 1))) (.c (.int 1))),.ite (.cmp .ge (.v 2) (.op .pow (.c (.int 10)) (.c (.int 18)))) #v[.put (.v 0) (.c (.int 2)) (.v 2)] #v[.put (.v 0) (.c (.int 3)) (.op .mod (.op .add (.op .add (.op .mul (.ix (.v 0) (.c (.int 3))) (.c (.int 40013))) (.op .mod (.v 2) (.c (.int 1000003)))) (.c (.int 1))) (.c (.int 2147483647)))]] .nil,.ite (.cmp .gt (.ix (.v 0) (.c (.int 2))) (.c (.int 0))) #v[.set 3 (.op .mod (.ix (.v 0) (.c (.int 2))) (.v 1)),.put (.v 0) (.c (.int 2)) (.op .fdiv (.ix (.v 0) (.c (.int 2))) (.v 1)),.ret (.v 3)] .nil,.put (.v 0) (.c (.int 4)) (.op .add (.ix (.v 0) (.c (.int 4))) (.c (.int 1))),.put (.v 0) (.c (.int 3)) (.op .mod (.op .add (.op .add (.op .mul (.ix (.v 0) (.c (.int 3))) (.c (.int 48271))) (.c (.int 12820163))) (.ix (.v 0) (.c (.int 4)))) (.c (.int 2147483647))),.ret (.op .mod (.op .fdiv (.op .mod (.op .mul (.op .add (.op .mod (.ix (.v 0) (.c (.int 3))) (.c (.int 65521))) (.c (.int 1))) (.op .add (.op .fdiv (.ix (.v 0) (.c (.int 3))) (.c (.int 65521))) (.c (.int 7919)))) (.c (.int 1000003))) (.c (.int 7))) (.v 1))]
abbrev xi:OM:="_law_alike"
abbrev y4:OM:="_law_due"
abbrev zn:OM:="_law_figure"
abbrev uv:OM:="_law_form_rule"
abbrev vr:OM:="_law_free_three"
abbrev vv:OM:="_law_is_whole"
abbrev v3:OM:="_law_least_of"
abbrev qd:OM:="_law_letters"
abbrev qq:OM:="_law_pick"
abbrev qs:OM:="_law_put"
abbrev qy:OM:="_law_rule_of"
abbrev q0:OM:="_law_word"
abbrev q7:OM:="has_point_form"
abbrev pa:OM:="has_right_backs"
abbrev pe:OM:="has_right_barred"
abbrev po:OM:="has_right_names"
abbrev px:OM:="is_tuple_of"
abbrev p0:OM:="is_whole"
abbrev p3:OM:="keeps_bounds"
abbrev gO:Ss:=
 #v[.ret (.me .join (.c (.str "")) #v[.comp (.ix (.c (.str "abcdefghijklmnopqrstuvwxyz")) (.own qq 2 #v[.v 2,.c (.int 26)])) (.nm 1) (.rng #v[.v 1]) .nil [gV,gV,ba 0]])]
abbrev lN:Ss:=
 #v[.ite (.cmp .ne (.v 1) (.c (.str ""))) #v[.ret (.op .add (.v 1) (.own qd 2 #v[.v 0,.op .add (.c (.int 1)) (.own qq 2 #v[.v 0,.c (.int 2)])]))] .nil,.ite (.cmp .eq (.own qq 2 #v[.v 0,.c (.int 6)]) (.c (.int 0))) #v[.set 2 (.lst #v[.c (.str "markss"),.c (.str "mark"),.c (.str "way"),.c (.str "wayss"),.c (.str "bars"),.c (.str "ba"),.c (.str "somex")]),.set 2 (.op .add (.v 2) (.lst #v[.c (.str "eachx"),.c (.str "note"),.c (.str "no"),.c (.str "ands"),.c (.str "ors"),.c (.str "o"),.c (.str "iss")])),.ret (.ix (.v 2) (.own qq 2 #v[.v 0,.c (.int 14)]))] .nil,.ret (.own qd 2 #v[.v 0,.op .add (.c (.int 1)) (.own qq 2 #v[.v 0,.c (.int 8)])])]
abbrev bW:Ss:=
 #v[.set 2 (.c (.str "")),.ite (.cmp .eq (.own qq 2 #v[.v 0,.c (.int 3)]) (.c (.int 0))) #v[.set 2 (.own qd 2 #v[.v 0,.op .add (.c (.int 1)) (.own qq 2 #v[.v 0,.c (.int 6)])])] .nil,.set 3 (.lst #v[.c (.str "marks"),.c (.str "ways"),.c (.str "bar"),.c (.str "some"),.c (.str "each"),.c (.str "not"),.c (.str "and"),.c (.str "or"),.c (.str "is")]),.loop (.nm 4) (.rng #v[.v 1]) #v[.set 5 (.own "_law_name" 2 #v[.v 0,.v 2]),.set 6 (.c (.int 0)),.whl (.cmp .isin (.v 5) (.v 3)) #v[.set 5 (.op .mul (.ix (.c (.str "abcdefghijklmnopqrstuvwxyz")) (.op .mod (.v 6) (.c (.int 26)))) (.op .add (.c (.int 1)) (.op .fdiv (.v 6) (.c (.int 26))))),.set 6 (.op .add (.v 6) (.c (.int 1)))],.ex (.me .append (.v 3) #v[.v 5])],.ret (.bi .tuple #v[.sl (.v 3) (.yes (.c (.int 9))) .no])]
abbrev cJ:Ss:=
 #v[.ite (.cmp .lt (.v 3) (.v 2)) #v[.ret (.ix (.ix (.ix (.v 1) (.v 2)) (.c (.int 1))) (.v 3))] .nil,.ret (.ix (.ix (.ix (.v 0) (.c (.int 1))) (.ix (.ix (.ix (.v 1) (.v 3)) (.c (.int 1))) (.v 2))) (.c (.int 1)))]
abbrev ic:Ss:=
 #v[.set 3 (.lst .nil),.loop (.nm 4) (.rng #v[.bi .len #v[.v 2]]) #v[.set 5 (.ix (.v 2) (.v 4)),.ex (.me .append (.v 3) #v[.tup #v[.ix (.ix (.v 1) (.v 5)) (.c (.int 0)),.bi .tuple #v[.comp (.own "_law_between" 4 #v[.v 3,.v 4,.v 2,.v 1]) (.nm 1) (.seq (.sl (.v 2) .no (.yes (.v 4)))) .nil [gV,gV,ba 5,ba 0,ba 1]]]])],.ret (.bi .tuple #v[.v 3])]
abbrev j3:Ss:=
 #v[.ret (.lst #v[.tup #v[.c (.int 0),.c (.int 1),.c (.int 2)],.tup #v[.c (.int 0),.c (.int 2),.c (.int 1)],.tup #v[.c (.int 1),.c (.int 0),.c (.int 2)],.tup #v[.c (.int 1),.c (.int 2),.c (.int 0)],.tup #v[.c (.int 2),.c (.int 0),.c (.int 1)],.tup #v[.c (.int 2),.c (.int 1),.c (.int 0)]])]
abbrev c7:Ss:=
 #v[.ret (.bi .min #v[.comp (.own "_law_part" 3 #v[.v 2,.v 3,.v 1]) (.nm 1) (.seq (.own "_law_turns" 0 .nil)) .nil [gV,gV,ba 0,ba 1]])]
abbrev j4:Ss:=
 #v[.set 2 (.ix (.lst #v[.lst #v[.tup #v[.c (.int 0)]],.lst #v[.tup #v[.c (.int 0),.c (.int 1)],.tup #v[.c (.int 1),.c (.int 0)]],.lst #v[.tup #v[.c (.int 0),.c (.int 1),.c (.int 2)],.tup #v[.c (.int 1),.c (.int 0),.c (.int 2)],.tup #v[.c (.int 0),.c (.int 2),.c (.int 1)]]]) (.op .sub (.v 1) (.c (.int 1)))),.ret (.ix (.v 2) (.own qq 2 #v[.v 0,.bi .len #v[.v 2]]))]
abbrev cK:Ss:=
 #v[.set 4 (.own "_law_names" 2 #v[.v 0,.op .add (.v 1) (.bi .len #v[.v 2])]),.set 5 (.bi .tuple #v[.comp (.tup #v[.ix (.v 4) (.op .add (.v 3) (.v 1)),.ix (.v 2) (.v 1)]) (.nm 1) (.rng #v[.bi .len #v[.v 2]]) .nil [gV,gV,ba 2,ba 1,ba 4]]),.ret (.tup #v[.sl (.v 4) .no (.yes (.v 1)),.v 5,.bi .tuple #v[.bi .sorted #v[.v 3]]])]
abbrev d7:Ss:=
 #v[.set 3 (.lst .nil),.loop (.nm 4) (.rng #v[.c (.int 3)]) #v[.ex (.me .append (.v 3) #v[.tup #v[.own qq 2 #v[.v 0,.v 1],.bi .tuple #v[.comp (.own qq 2 #v[.v 2,.v 3]) (.nm 1) (.rng #v[.v 4]) .nil [gV,gV,ba 0,ba 2]]]])],.ret (.bi .tuple #v[.v 3])]
abbrev j5:Ss:=
 #v[.set 1 (.lst #v[.tup #v[.c (.int 1),.c (.int 1)],.tup #v[.c (.int 2),.c (.int 1)],.tup #v[.c (.int 3),.c (.int 1)],.tup #v[.c (.int 1),.c (.int 2)],.tup #v[.c (.int 1),.c (.int 2)],.tup #v[.c (.int 2),.c (.int 2)],.tup #v[.c (.int 2),.c (.int 2)],.tup #v[.c (.int 3),.c (.int 2)],.tup #v[.c (.int 1),.c (.int 3)],.tup #v[.c (.int 1),.c (.int 3)],.tup #v[.c (.int 2),.c (.int 3)]]),.ret (.ix (.v 1) (.own qq 2 #v[.v 0,.c (.int 11)]))]
abbrev bH:Ss:=
 #v[.ite (.cmp .is (.v 1) (.c .non)) #v[.ret (.cmp .is (.v 0) (.c .non))] .nil,.ite (.or (.isi "bool" (.v 1)) (.isi "bool" (.v 0))) #v[.ret (.and (.isi "bool" (.v 1)) (.and (.isi "bool" (.v 0)) (.cmp .eq (.v 0) (.v 1))))] .nil,.ite (.isi "int" (.v 1)) #v[.ret (.and (.isi "int" (.v 0)) (.cmp .eq (.v 0) (.v 1)))] .nil,.ite (.isi "str" (.v 1)) #v[.ret (.and (.isi "str" (.v 0)) (.cmp .eq (.v 0) (.v 1)))] .nil,.ite (.or (.cmp .ne (.isi "tuple" (.v 1)) (.isi "tuple" (.v 0))) (.cmp .ne (.isi "list" (.v 1)) (.isi "list" (.v 0)))) #v[.ret (.c (.bl false))] .nil,.ret (.and (.cmp .eq (.bi .len #v[.v 0]) (.bi .len #v[.v 1])) (.bi .all #v[.comp (.own xi 2 #v[.ix (.v 3) (.v 1),.ix (.v 2) (.v 1)]) (.nm 1) (.rng #v[.bi .len #v[.v 1]]) .nil [gV,gV,ba 1,ba 0]]))]
abbrev Is (defs:Ow (OM×Df))(f:OM)(a nn:OH)(b:Ss):Prop:=∃df:Df,defs.lookup f=ba df/\↥df.ps=a/\↥df.N=nn/\df.body=b
def aF {f:OM}(h:Is defs f c nn b)(hl:↥ws=c)(ok:iP b=true)
  (l:∀a:QO,(∀w S',Q (w,S')->a (.rt w,S'))->wZ (ae defs fuel d) fuel b (ws.map ba++PN (nn-c) gV) S a):wO (aY (ae defs fuel (d+1)) f c ws S) Q:=by
 obtain⟨df,e,g,i,j⟩:=h;subst j;show Ip e hl (hl.trans g.symm) ok λa k=>?_
 have:=l a k;unfold bv;rw[i,hl];show this
structure Gen (defs:Ow (OM×Df)):Prop where
 pick:Is defs ("_law_pick": OM) 2 4 cy
 letters:Is defs ("_law_letters": OM) 2 2 gO
 name:Is defs ("_law_name": OM) 2 3 lN
 names:Is defs ("_law_names": OM) 2 7 bW
 between:Is defs ("_law_between": OM) 4 4 cJ
 part:Is defs ("_law_part": OM) 3 6 ic
 turns:Is defs ("_law_turns": OM) 0 0 j3
 figure:Is defs ("_law_figure": OM) 2 2 c7
 backs:Is defs ("_law_backs": OM) 2 3 j4
 rule_of:Is defs ("_law_rule_of": OM) 4 6 cK
 free_three:Is defs ("_law_free_three": OM) 3 5 d7
 sizes:Is defs ("_law_sizes": OM) 1 2 j5
structure FlA (S:aa)(r q:OH)(ns:Ow O8)(i c x n:O8):Prop where
 at_r:S[r]?=ba (.lst [.ref q,.int i,.int c,.int x,.int n])
 at_q:S[q]?=ba (.lst (ns.map W.int))
 lt:q<r
 i0:0<=i
 c0:0<=c
 x0:0<=x
 x1:x<2147483647
def FlA.ne {i   :O8}(h:FlA S r q ns i c x n):q≠r:=Pa h.lt
abbrev Fl (S:aa)(r:OH):Prop:=∃(q:OH) (ns:Ow O8) (i c x n:O8),FlA S r q ns i c x n
def FlA.put {i      a e:O8}(h:FlA S r q ns i c x n)(f:0<=d)(g:0<=b)(j:0<=a)(k:a<2147483647):FlA (S.set r (.lst [.ref q,.int d,.int b,.int a,.int e])) r q ns d b a e:=
 #[fR h.at_r,by rw[iO (Ne.symm h.ne)];show h.at_q,h.lt,f,g,j,k]
def Fl.keep (h:Fl S r)(a:S'[r]?=S[r]?)(k:Kp r S S'):Fl S' r:=
 let ⟨q,ns,i,c,x,n,f⟩:=h;#[q,ns,i,c,x,n,by rw[a];show f.at_r,k.get _ _ f.ne f.at_q,f.lt,f.i0,f.c0,f.x0,f.x1]
def Fl.lt (h:Fl S r):r<↥S:=let ⟨_,_,_,_,_,_,f⟩:=h;qK f.at_r
structure Ka (S S':aa):Prop where
 get:∀(j:OH) (o:O),S[j]?=ba o->S'[j]?=ba o
 len:↥S<=↥S'
def Ka.refl :Ka S S:=#[λ_ _ h=>h,OR _]
def Ka.trans (a:Ka S S')(b:Ka S' c):Ka S c:=#[λj o h=>b.get j o (a.get j o h),OQ a.len b.len]
def Ka.push :Ka S (S++[o]):=#[λj u h=>aV h,by simp]
def Ka.late (a:Ka b S)(h:↥b<=t):Ka b (S.set t o):=
 #[λj u e=>by have:=qK e;rw[iO ∅];show a.get j u e,by simpa using a.len]
def Ka.kp (a:Ka S S')(r:OH):Kp r S S':=#[λj o _ h=>a.get j o h,a.len]
def Fl.ka (h:Fl S r)(k:Ka S S'):Fl S' r:=h.keep (by obtain⟨q,ns,i,c,x,n,f⟩:=h;rw[k.get _ _ f.at_r,f.at_r]) (k.kp r)
def Fl.own (h:Fl S r)(ht:r<t):Fl (S.set t o) r:=by
 obtain⟨q,ns,i,c,x,n,f⟩:=h;have:=f.lt;show#[q,ns,i,c,x,n,by rw[iO ∅];show f.at_r,by rw[iO ∅];show f.at_q,f.lt,f.i0,f.c0,f.x0,f.x1]
def bR (h:S[r]?=ba (.lst xs))(hw:xs[i]?=ba w)(q:Q (w,S)):wO (mL (.ref r) (.int i) S) Q:=ac (Ax h (PD i) (by show hw)) q
def m5 {Q:aa->Prop}(h:S[r]?=ba (.lst xs))(hi:Nat.ble (i+1) ↥xs=true)(q:Q (S.set r (.lst (xs.set i w)))):wO (ki (.ref r) (.int i) w S) Q:=ac (Ll h (PD i) (by show OP hi)) (by show q)
variable{defs:Ow (OM×Df)}{d r:OH}
def aH (hd:Is defs ("_law_pick") 2 4 cy)(hf:Fl S r)(A:0<m)(J:m<1073741824)(k:∀v S',0<=v->v<m->Fl S' r->Kp r S S'->Q (.int v,S')) :
  wO (aY (ae defs fuel (d+1)) qq 2 [.ref r,.int m] S) Q:=by
 obtain⟨q,ns,i,c,x,n,f⟩:=hf;show aF hd rfl rfl λw L=>?_
 replace k:=λv S' a b c e=>L _ _ (k v S' a b c e)
 change wZ _ _ cy [ba (.ref r),ba (.int m),gV,gV] S w;have aC:∀S1 w2 i1 s p l,FlA S1 r q ns i1 s p l->Kp r S S1->wZ (ae defs fuel d) fuel (match cy with|.cons _ ss=>ss|.nil=>.nil) [ba (.ref r),ba (.int m),w2,gV] S1 w:=by
  intro S1 w2 i1 s p l g k1;delta cy;show st ?_;delta wS wT wE;show bR  g.at_r rfl ?_;dsimp only[];show ar (Q0:=w) (λB o h C=>?_) (λB o h C=>?_)
  ·clear h;show st ?_;left;show bR  g.at_r rfl (ac (qJ A) ?_);show st ?_;left;show bR  g.at_r rfl (ac (Av A J) (m5  g.at_r rfl ?_));show st ?_;left;show C _ _ (k _ _ (Uv _ ∅) (TD _ A) #[q,ns,i1,s/m,p,l,g.put g.i0 (X3 g.c0 ∅) g.x0 g.x1] (k1.trans .set))
  ·show cM (h _ _ ?_);clear h C;have D:FlA (S1.set r (.lst [.ref q,.int i1,.int s,.int p,.int (l+1)])) r q ns i1 s p (l+1):=g.put g.i0 g.c0 g.x0 g.x1;show st ?_;left;show bR  g.at_r rfl ?_;dsimp only[];show m5  g.at_r rfl ?_;show st ?_;left;show bR  D.at_r rfl (ac (u4 #v[] #v[]) ?_)
   dsimp only[];show bR  D.at_r rfl ?_;dsimp only[];show(m5  D.at_r rfl ?_);have t:FlA ((S1.set r (.lst [.ref q,.int i1,.int s,.int p,.int (l+1)])).set r (.lst [.ref q,.int i1,.int s,.int ((p*48271+12820163+(l+1)) % 2147483647),.int (l+1)])) r q ns i1 s ((p*48271+12820163+(l+1)) % 2147483647) (l+1):=D.put g.i0 g.c0 (Uv _ #v[]) (TD _ #v[])
   left;generalize(p*48271+12820163+(l+1)) % 2147483647=y at t ⊢;have I:y/65521+7919<2^64:=by
    have:=t.x1;have:=Int.ediv_le_self 65521 t.x0;omega
   have b2 : -(2^64)<y/65521+7919:=by
    have:=X3 t.x0 (show 0<=65521 by decide)
    omega
   show st ?_;left;show bR  t.at_r rfl (ac (qJ #v[]) ?_)
   dsimp only[];show bR  t.at_r rfl ?_;delta wO;show ac (u4 b2 I) ?_;show ac (qJ A) ?_;show k _ _ (Uv _ ∅) (TD _ A) #[q,ns,_,_,_,_,t] (k1.trans (Kp.set.trans .set))
 show st ?_;delta wS wT wE wV wG wA;show bR  f.at_r rfl ?_;delta eW wO;have skip:∀o:QO,(∀G S',wZ (ae defs fuel d) fuel _ G S' w->o (.nx G,S'))->o (.nx [ba (.ref r),ba (.int m),gV,gV],S):=λo h=>h _ _ (aC S gV i c x n f .refl)
 show#[λ_=>?_,λ_ o h C=>#[λz=>(by cases z),λ_=>(cM (skip o h)).out]]
 show bR  f.at_r rfl (bR  f.at_r rfl (ac (FW f.at_q) ?_));dsimp only[];show ar (Q0:=w) (λhl o h _=>?_) (λB o h C=>cM (skip o h))
 clear skip;have E:i.toNat<↥ns:=by
  have:=PC hl;rw[OC]at this;have:=f.i0;omega
 have j:(ns.map W.int)[i.toNat]?=ba (.int ns[i.toNat]):=by simp[E]
 generalize ns[i.toNat]=cell at j;have g:FlA (S.set r (.lst [.ref q,.int (i+1),.int c,.int x,.int n])) r q ns (i+1) c x n:=f.put (by have:=f.i0;omega) f.c0 f.x0 f.x1
 show st ?_;left;show bR  f.at_r rfl (bR  f.at_r rfl (ac (Ax f.at_q f.i0 j) ?_));show st ?_;left;show bR  f.at_r rfl ?_;dsimp only[];show m5  f.at_r rfl ?_;show st ?_;delta wS wT wE Il;show ar (Q0:=w) (λB H u _=>?_) (λB H u _=>?_)
 ·show st ?_;left;show m5  g.at_r rfl (cM (u _ _ (cM (h _ _ ?_))));show aC _ _ (i+1) cell x n (g.put g.i0 (by have:=PC B;omega) f.x0 f.x1) (Kp.set.trans .set)
 ·show st ?_;left;show bR  g.at_r rfl (ac (u4 #v[] #v[]) (ac (qJ #v[]) ?_))
  dsimp only[];show m5  g.at_r rfl (cM (u _ _ (cM (h _ _ ?_))));show aC _ _ (i+1) c _ n (g.put g.i0 f.c0 (Uv _ #v[]) (TD _ #v[])) (Kp.set.trans .set)
abbrev dr:OH->Ss->Ss
 |0,ss=>ss
 |n+1,.cons _ ss=>dr n ss
 |_,.nil=>.nil
def aZ {a:α}{Q:α->Prop}:wO (ba a) Q=Q a:=rfl
def aU {Q:QO}(h:∀K:Fm->aa->Prop,(∀a S',wZ M fuel ss a S' Q->K a S')->wS M fuel s Z S K Q):wZ M fuel (.cons s ss) Z S Q:=st (h _ λ_ _ h=>h)
def iX {n:OH}(h:Nat.ble n 1000=true):n<=sizeLine:=OQ (OP h) #v[]
def few (h:n<=1000):n<=sizeLine:=OQ h #v[]
def vf {i:O8}(h:S[r]?=ba (.lst xs))(a:0<=i)(hw:xs[i.toNat]?=ba w)(q:Q (w,S)):wO (mL (.ref r) (.int i) S) Q:=ac (Ax h a hw) q
def ap {i:O8}(a:0<=i)(hw:xs[i.toNat]?=ba w)(q:Q (w,S)):wO (mL (.tup xs) (.int i) S) Q:=ac (Lk a hw) q
def vg (h:S[r]?=ba (.lst xs))(hl:↥xs<1000)(q:Q (.non,S.set r (.lst (xs++[y])))):wO (Me.append.fn (.ref r) [y] S) Q:=ac (FY h (Pf hl (iX rfl))) q
def lO (h:S[r]?=ba (.lst xs))(q:Q (.int ↥xs,S)):wO (Bi.len.fn [.ref r] S) Q:=ac (FW h) q
def aL (q:Q (.int ↥xs,S)):wO (Bi.len.fn [.tup xs] S) Q:=q
def fu (h:S[r]?=ba (.lst xs))(q:Q (.tup xs,S)):wO (Bi.tuple.fn [.ref r] S) Q:=ac (Lm h) q
section
variable{K:Fm->aa->Prop}
def dq {a:Ss}{Q:QO}(ht:∀Q:QB,Q (false,S1)->wT M t Z S Q)(h:K Z S1):wS M fuel (.ite t a .nil) Z S K Q:=by
 show ht _ λc b d=>#[λz=>(by cases z),λ_=>(cM (b _ _ h)).out]
def m6 {a :Ss}{Q:QO}(ht:∀Q:QB,Q (true,S1)->wT M t Z S Q)(h:∀c:QO,(∀d S',K d S'->c (.nx d,S'))->(∀w S',Q (.rt w,S')->c (.rt w,S'))->wZ M fuel a Z S1 c):wS M fuel (.ite t a b) Z S K Q:=by
 show ht _ λc e f=>#[λ_=>(h c e λw S' q=>f _ S' (λ_ z=>nomatch z) q).out,λz=>(by cases z)]
end
def AL:∀k:Fin 26,("abcdefghijklmnopqrstuvwxyz": OM).cps.toList[k.val]?=ba (97+k.val):=by decide
def vh:("abcdefghijklmnopqrstuvwxyz": OM).length<=sizeLine:=by decide
def lP:∀a:Ow OH,jr (a.map λc=>W.str #[[c].toArray])=ba (a.map λc=>(#[[c].toArray]))
 |[]=>rfl
 |c::a=>by simp[jr,lP a]
def m7:∀a:Ow OH,((a.map λc=>(#[[c].toArray]:OM)).map (·.length)).sum=↥a
 |[]=>rfl
 |c::a=>by
  have:=m7 a;revert PK List.sum_cons Po;rw[this];change 1+↥a=_;omega
def eX (a b:OM):(a++b).cps.toList=a.cps.toList++b.cps.toList:=Uy
def lQ:∀a:Ow OH,(Z4 "" (a.map λc=>(#[[c].toArray]))).cps.toList=a
 |[]=>rfl
 |[c]=>rfl
 |c::d::a=>by
  have ih:=lQ (d::a);show((#[[c].toArray]++("")++Z4 "" _).cps).toList=_;rw[eX,eX,ih];rfl
def qQ (a:Ow OH):(ZZ "" (a.map λc=>(#[[c].toArray]))).cps.toList=a:=by
 show(ZN "" _).cps.toList=_;rw[StrLaws.glued_eq_join];show lQ a
abbrev vk (y:OM):Prop:=∀c∈y.cps.toList,97<=c/\c<=122
abbrev Name (y:OM):Prop:=1<=↥y.cps.toList/\↥y.cps.toList<=8/\vk y
def gh (y:OM):↥y=↥y.cps.toList:=by simp[Zx]
abbrev AM:Ow OM:=["markss","mark","way","wayss","bars","ba","somex","eachx","note","no","ands","ors","o","iss"]
def xv:∀y∈AM,Name y:=by
 have h:AM.all (λy=>decide (1<=↥y.cps.toList/\↥y.cps.toList<=8)&&y.cps.toList.all λc=>decide (97<=c/\c<=122))=true:=by decide
 intro y d;have:=OT.mp h y d;rw[OE]at this;obtain⟨a,b⟩:=this;show#[(PC a).1,(PC a).2,λc hc=>PC (OT.mp b c hc)]
def sY {α:Type}{f:α->W}{xs:Ow α}(h:i<↥xs):∃x∈xs,(xs.map f)[i]?=ba (f x):=#[xs[i],PX _,by rw[OY,ON h];rfl]
def jJ (G:Gen defs)(hf:Fl S r)(s:0<=m)(t:m<=1000)(k:∀y S',↥y.cps.toList=m.toNat->vk y->Fl S' r->Kp r S S'->Q (.str y,S')) :
  wO (aY (ae defs fuel (d+2)) qd 2 [.ref r,.int m] S) Q:=by
 show aF G.letters rfl rfl λq l=>?_
 show st ?_;left;show#[rfl,iV m (λi f Z S'=>(∃a,Z=[gV,a,ba _])/\Fl S' r/\Kp r S S'/\∃b:Ow OH,f=b.map (λc=>W.str #[[c].toArray])/\↥b=i/\∀c∈b,97<=c/\c<=122) rfl rfl rfl #[∅,∅] #[rfl,#[gV,rfl],hf,.refl,[],rfl,rfl,λ_ h=>nomatch h] ?_ ?_]
 ·rintro i f Z S1 hi ⟨⟨a,rfl⟩,e,k1,b,rfl,hl,hc⟩;delta oZ wC wE wA wV wG OJ;show#[λ_=>aH  G.pick e #v[] #v[] λv S2 j u g k2=>?_,λz=>by cases z]
  have n:=AL #[v.toNat,∅]
  show ac (FV vh j n) #[#[_,rfl],g,k1.trans k2,b++[97+v.toNat],by simp,by simp[hl],λc o=>?_]
  rcases Px.mp o with h|h
  ·show hc c h
  ·rw[O3.mp h];omega
 ·rintro f Z S1 ⟨_,e,k1,b,rfl,hl,hc⟩;show#[by rw[OC,hl,Qc];omega,?_]
  have p:((b.map λc=>(#[[c].toArray]:OM)).map (·.length)).sum+(b.map λc=>(#[[c].toArray]:OM)).length*("": OM).length<=16777216:=by
   rw[m7,show("": OM).length=0 from rfl,Nat.mul_zero]
   omega
  show ac (a:=(.str _,S1++[.lst (b.map λc=>W.str #[[c].toArray])])) ?_ (l _ _ (k _ _ (by rw[qQ,hl]) (λc h=>hc c (by rw[qQ]at h;show h)) (e.ka .push) (k1.trans .push)))
  simp only[Me.fn,uu,dF,az ak,lP];rw[OZ p]
def IP (G:Gen defs)(hf:Fl S r)(w:↥y.cps.toList<=6)(s:vk y)(k:∀z S',Name z->Fl S' r->Kp r S S'->Q (.str z,S')) :
  wO (aY (ae defs fuel (d+3)) "_law_name" 2 [.ref r,.str y] S) Q:=by
 show aF G.name rfl rfl λo t=>?_
 replace k:=λz S' a b c=>t _ _ (k z S' a b c)
 nofun
 show ar (Q0:=o) (λ_ i _ l=>?_) (λ_ i j _=>?_)
 ·show st ?_;left;show aH  G.pick hf #v[] #v[] λv S1 h n f k1=>?_
  show jJ  G f ∅ ∅ λz S2 m hs g k2=>?_
  have hl:(y++z).cps.toList.length=↥y.cps.toList+↥z.cps.toList:=by rw[eX,OL]
  show ac (Im (by rw[gh,gh,Qc];omega)) (l _ _ (k _ _ #[∅,∅,λc hc=>?_] g (k1.trans k2)))
  rw[eX]at hc;show(Px.mp hc).elim (s c) (hs c)
 ·show cM (j _ _ (hK _ _ ?_));nofun
  delta wS wT wE wA;show aH  G.pick hf #v[] #v[] λv S1 h n f k1=>?_
  show ar (Q0:=o) (λ_ i _ l=>?_) (λ_ i j _=>?_)
  ·show st ?_;left;show st ?_;left;show ac (oU   (aV ak) ak (iX rfl)) ?_;show st ?_;left;show aH  G.pick (((f.ka .push).ka .push).ka .push) #v[] #v[] λv S2 h n g k2=>?_
   have e:=k2.get _ _ (by have:=f.lt;revert OL;omega) ak
   obtain⟨z,m,p⟩:=sY  (xs:=AM)  (by change v.toNat<14;omega)
   show vf e h p (l _ _ (k _ _ (xv z m) g (k1.trans (Kp.push.trans (Kp.push.trans (Kp.push.trans k2))))))
  ·show cM (j _ _ (hK _ _ ?_));show st ?_;left;show aH  G.pick f #v[] #v[] λv S2 h n g k2=>?_
   show jJ  G g ∅ ∅ λz u m hs q k3=>k _ _ #[∅,∅,hs] q (k1.trans (k2.trans k3))
def dS {α:Type}[R7 α]:∀(l m:Ow α),l.Nodup->(∀x∈l,x∈m)->↥l<=↥m
 |[],_,_,_=>Qd _
 |x::l,m,a,hs=>by
  rw[Q6]at a;have b:=hs x (.head _);have d:=dS l (m.erase x) a.2 λy c=>(V9 (λe=>a.1 (by rw[<- e];show c))).mpr (hs y (.tail _ c))
  rw[Tp b]at d;have:=VE b;rw[Po];omega
abbrev o4 (k:OH):OM:=#[[97+k].toArray]
def AN {a :OH}(h:o4 a=o4 b):a=b:=by
 injection h with h
 injection h with h
 injection h with h
 omega
def qR (s:OH):((Pj s).map o4).Nodup:=by
 unfold Yq;rw[QZ];show List.nodup_range.imp λh e=>h (AN e)
def xw (h:k<26):Name (o4 k):=#[OR 1,(by decide:1<=8),λc hc=>by
 cases O3.mp hc;omega]
abbrev bN:Ow OM:=["marks","ways","bar","some","each","not","and","or","is"]
def qS (b:Ow OM):(b.map W.str).all cm=true:=by
 rw[OT];intro x a;obtain⟨z,_,rfl⟩:=O0.mp a;rfl
def vm (a:Ow OM)(y:OM):((a.map W.str).any λz=>C6 z (.str y))=decide (y∈a):=by
 induction a with
 |nil=>rfl
 |cons z a ih=>
  rw[PK,SJ,ih];show((z==y)||_)=_
  by_cases h:z=y
  ·subst h;simp
  ·have:(z==y)=false:=by simpa using h
   rw[this,Vi];have b:(y∈z::a)=(y∈a):=by simp[Ne.symm h]
   revert b
def m8 {a:Ow OM}(h:S[t]?=ba (.lst (a.map W.str))):b9 .isin (.str y) (.ref t) S=ba (.bl (decide (y∈a)),S):=by
 (delta b9 Dg eO yM wb dF;simp only[oV h,az h])
 rw[OZ (by rw[qS];rfl),vm]
 rfl
def IQ :jm .mul (.str #[[k].toArray]) (.int 1) S=ba (.str #[[k].toArray],S):=by
 delta jm CS;rw[OZ #[#v[],#v[],by change 1*1<=sizeLine;rw[Qc];decide]]
 rfl
def iY :gB xs gV (ba k)=xs.take k:=by
 unfold gB;rw[HT.ip,HT.t9,UR,Xg]
 by_cases h:k<=↥xs
 ·rw[X4 h]
 ·rw[Xz ∅,Re (OR _),Re ∅]
def iZ :gB xs (ba k) gV=xs.drop k:=by
 unfold gB;rw[HT.ip,HT.t9]
 by_cases h:k<=↥xs
 ·rw[X4 h,Re (by rw[Qm];show OR _)]
 ·rw[Xz ∅,TV (OR _),TV ∅];show List.take_nil
def Ey {a:Ow OM}{K:Fm->aa->Prop}{Q:QO}(u:30<fuel)(C:Name y)(e:S[t]?=ba (.lst (a.map W.str)))(hl:↥a<=21)
  (k:∀y s,Name y->y∉a->K [ba (.ref r),ba m,ba z,ba (.ref t),ba w,ba (.str y),ba s] S) :
  wS M fuel (.whl (.cmp .isin (.v 5) (.v 3)) #v[.set 5 (.op .mul (.ix (.c (.str "abcdefghijklmnopqrstuvwxyz")) (.op .mod (.v 6) (.c (.int 26)))) (.op .add (.c (.int 1)) (.op .fdiv (.v 6) (.c (.int 26))))),.set 6 (.op .add (.v 6) (.c (.int 1)))])
   [ba (.ref r),ba m,ba z,ba (.ref t),ba w,ba (.str y),ba (.int 0)] S K Q:=by
 delta wS;show F5 (λj Z S'=>∃(s:OH) (y:OM),Z=[ba (.ref r),ba m,ba z,ba (.ref t),ba w,ba (.str y),ba (.int s)]/\S'=S/\j+s=24/\s<=22/\Name y/\(0<s->y=o4 (s-1))/\∀k,k+1<s->o4 k∈a) 24 rfl rfl ∅ #[0,y,rfl,rfl,rfl,∅,C,λh=>absurd h ∅,λk h=>absurd h ∅] ?_
 rintro j Z S' ⟨s,G,rfl,rfl,E,hs,g,c,d⟩;delta wT wE wV wG;show ac (m8 e) #[λf=>?_,λb=>k _ _ g (SH b)]
 have all:∀k,k<s->o4 k∈a:=λk hk=>by
  by_cases h:k+1<s
  ·show d k h
  ·have e:k=s-1:=∅
   rw[e,<- c ∅];show PC f
 have l:s<=21:=by
  have q:=dS ((Pj s).map o4) a (qR s) λx B=>by
   obtain⟨k,hk,rfl⟩:=O0.mp B;show all k (Pn.mp hk)
  rw[OC,Qg]at q;omega
 show#[j-1,∅,λD A _=>?_]
 have p:((s:O8) % 26)=s:=Int.emod_eq_of_lt ∅ ∅
 have o:((s:O8)/26)=0:=Int.ediv_eq_zero_of_lt ∅ ∅
 show st ?_;delta wS wE wV wG OJ;show ac (qJ #v[]) ?_
 rw[p];show ac (FV (i:=(s:O8)) vh (PD s) (AL #[s,∅])) ?_
 have n:jm .fdiv (.int s) (.int 26) S'=ba (.int 0,S'):=by rw[Av ∅ ∅,o]
 dsimp only;rw[n];delta gN aZ;rw[show(1:O8)+0=1 from rfl]
 show ac IQ ?_;show st ?_;delta wS wE wV wG OJ gN aZ;show cM (A _ _ #[s+1,o4 s,rfl,rfl,∅,∅,xw ∅,λ_=>rfl,λk hk=>all k ∅])
def Ez (I:30<fuel)(G:Gen defs)(hf:Fl S r)(h1:m<=12)(k:∀ g S',↥g=m->(∀y∈g,Name y)->(bN++g).Nodup->Fl S' r->Kp r S S'->Q (.tup (g.map W.str),S')) :
  wO (aY (ae defs fuel (d+4)) "_law_names" 2 [.ref r,.int m] S) Q:=by
 show aF G.names rfl rfl λu R=>?_
 replace k:∀(g:Ow OM) S',↥g=m->(∀y∈g,Name y)->(bN++g).Nodup->Fl S' r->Kp r S S'->u (.rt (.tup (g.map W.str)),S'):=λz S' a b c e f=>R _ _ (k z S' a b c e f)
 clear R;change wZ _ _ bW [ba (.ref r),ba (.int m),gV,gV,gV,gV,gV] S u;have aC:∀(z:OM) (S2:aa),↥z.cps.toList<=6->vk z->Fl S2 r->Kp r S S2->wZ (ae defs fuel (d+3)) fuel (dr 2 bW) [ba (.ref r),ba (.int m),ba (.str z),gV,gV,gV,gV] S2 u:=by
  intro z S2 M N A k2;delta dr bW;have J:=A.lt;have H:=k2.len;show st ?_;left;nofun
  show gf (m:O8) (λi Z S'=>∃B C D g,Z=[ba (.ref r),ba (.int m),ba (.str z),ba (.ref ↥S2),B,C,D]/\S'[↥S2]?=ba (.lst ((bN++g).map W.str))/\↥g=i/\(∀y∈g,Name y)/\(bN++g).Nodup/\Fl S' r/\Kp r S S') rfl rfl ∅ ?_ ?_ ?_
  ·delta wE wV wG;show#[rfl,gV,gV,gV,[],rfl,ak,rfl,λ_ h=>(nomatch h),#v[],A.ka .push,k2.trans .push]
  ·rintro i Z o hi ⟨B,C,D,g,rfl,E,j,l,n,p,k3⟩ O q _;clear hK;show st ?_;left;show IP (d:=d) G p M N λy S4 hy U T=>?_
   have w:=T.get _ _ ∅ E
   show st ?_;left;show st (Ey I hy w (by rw[OL,j];show 9+i<=21;omega) λy' s L t=>?_)
   show st ?_;left;show#[jI w,vg w (by rw[OC,OL,j];show 9+i<1000;omega) ?_]
   show cM (q _ _ #[_,_,_,g++[y'],rfl,?_,by rw[OL,j];rfl,λx Y=>?_,?_,U.own J,(k3.trans T).late H])
   ·rw[fR w,<- Rc,PP (l₁:=bN++g)];rfl
   ·rcases Px.mp Y with h|h
    ·show l x h
    ·rw[O3.mp h];show L
   ·rw[<- Rc,RA];show#[n,by simp,λa V b X e=>?_]
    rw[O3.mp X]at e;show t (e▸V)
  ·rintro Z o ⟨B,C,D,g,rfl,E,j,l,n,p,k3⟩;show hK _ _ (st ?_);delta wS wE wA wV wG wP wN;have hs:md (.ref ↥S2) (ba 9) gV o=ba (.ref ↥o,o++[.lst (g.map W.str)]):=by
    have:gB ((bN++g).map W.str) (ba ((9:OH):O8)) gV=g.map W.str:=by
     rw[iZ,PP];show X5 rfl
    simp only[md,az E];rw[show(ba 9:Oz O8)=ba ((9:OH):O8)from rfl,this]
   show ac hs (fu ak (k _ _ ?_ l n (p.ka .push) (k3.trans .push)));rw[j];show Pi m
 delta bW;show st ?_;delta wS wE OJ;nofun
 delta wS wT wE wA wV wG;show aH (d:=d+2) G.pick hf #v[] #v[] λv S1 v0 v1 P k1=>?_
 delta eW wO wB;show ar (Q0:=u) (λ_ O q _=>?_) (λ_ O q _=>?_)
 ·show st ?_;left;show aH (d:=d+2) G.pick P #v[] #v[] λv S2 v0 v1 A k2=>?_
  delta gN wO;show jJ (d:=d+1) G A ∅ ∅ λz o hz hs p k3=>cM (q _ _ (hK _ _ (aC z o ∅ hs p (k1.trans (k2.trans k3)))))
 ·show cM (q _ _ (hK _ _ (aC "" S1 #v[] (λc hc=>nomatch hc) P k1)))
noncomputable abbrev Pt:=O8×Ow O8
noncomputable abbrev Wd:=Ow Pt
abbrev b7 (p:Pt):W:=.tup [.int p.1,.tup (p.2.map W.int)]
abbrev aM (u:Wd):W:=.tup (u.map b7)
abbrev gF (p:Pt):T:=.tup [.int p.1,.tup (p.2.map T.int)]
abbrev bI (u:Wd):T:=.tup (u.map gF)
def vn:∀xs:Ow O8,T.ws (xs.map T.int)=xs.map W.int
 |[]=>rfl
 |x::xs=>by simp[T.ws,T.w,vn xs]
def LK (p:Pt):(gF p).w=b7 p:=by(delta gF b7 T.w T.ws;simp[vn])
def sZ:∀u:Wd,T.ws (u.map gF)=u.map b7
 |[]=>rfl
 |p::u=>by simp[T.ws,LK,sZ u]
def AO (u:Wd):(bI u).w=aM u:=by(delta bI aM T.w;simp[sZ])
def AQ (u:Wd):W.t (aM u)=ba (bI u):=by rw[<- AO];show T.w_t _
def AR:∀us:Ow Wd,T.ws (us.map bI)=us.map aM
 |[]=>rfl
 |u::us=>by simp[T.ws,AO,AR us]
def AS (us:Ow Wd):W.ts (us.map aM)=ba (us.map bI):=by rw[<- AR];show T.ws_ts _
def lR:∀xs:Ow O8,T.depths (xs.map T.int)=0
 |[]=>rfl
 |x::xs=>by simp[T.depths,T.depth,lR xs]
def AT (p:Pt):(gF p).depth=2:=by simp[gF,T.depth,T.depths,lR]
def jK:∀u:Wd,T.depths (u.map gF)<=2
 |[]=>by simp[T.depths]
 |p::u=>by
  have:=jK u;revert PK T.depths AT;omega
def fS (u:Wd):(bI u).depth<=3:=by
 have:=jK u;delta bI T.depth;omega
def jL:∀us:Ow Wd,T.depths (us.map bI)<=3
 |[]=>by simp[T.depths]
 |u::us=>by
  have:=jL us;have:=fS u;revert PK T.depths;omega
def IR (u:Wd):sx (aM u)=ba (bI u):=by
 unfold sx;rw[AQ];show(if (bI u).isTup=true/\(bI u).depth<=aD then _ else _)=_
 rw[OZ #[rfl,by have:=fS u;show OQ ‹_› (OP rfl)]]
mutual
def tf:T->T->O6
 |.int _,.int _=>true
 |.str _,.str _=>true
 |.tup xs,.tup a=>ja xs a
 |_,_=>false
def ja:Ow T->Ow T->O6
 |[],_=>true
 |_,[]=>true
 |x::xs,y::a=>tf x y&&ja xs a
end
mutual
theorem tj:∀x y:T,tf x y=true->(dB x y).isSome=true
 |.int _,.int _,_=>rfl
 |.str _,.str _,_=>rfl
 |.tup xs,.tup ys,h=>by
  dsimp only[tf]at h;delta dB;show vo xs ys h
 |.int _,.str _,h|.int _,.tup _,h|.str _,.int _,h|.str _,.tup _,h|.tup _,.int _,h|.tup _,.str _,h=>by cases h
theorem vo:∀xs ys:Ow T,ja xs ys=true->(bO xs ys).isSome=true
 |[],[],_=>rfl
 |[],_::_,_=>rfl
 |_::_,[],_=>rfl
 |x::xs,y::ys,h=>by
  dsimp only[ja]at h;simp only[OE]at h
  delta bO;split
  ·show vo xs ys h.2
  ·show tj x y h.1
end
def qT:∀xs a:Ow O8,ja (xs.map T.int) (a.map T.int)=true
 |[],_=>rfl
 |_::_,[]=>rfl
 |x::xs,y::a=>by delta Zh ja tf;simp[qT xs a]
def AU (p q:Pt):tf (gF p) (gF q)=true:=by delta gF tf ja;simp[qT]
def vp:∀u v:Wd,ja (u.map gF) (v.map gF)=true
 |[],_=>rfl
 |_::_,[]=>rfl
 |p::u,q::v=>by delta Zh ja;simp[AU,vp u v]
def IS (u v:Wd):tf (bI u) (bI v)=true:=by show vp _ _
def d8 (us:Ow Wd):fq (us.map bI)=true:=by
 unfold fq;rw[OT];intro x a;obtain⟨u,_,rfl⟩:=O0.mp a;rw[OT];intro y b;obtain⟨v,_,rfl⟩:=O0.mp b;show tj _ _ (IS u v)
def IT (us:Ow Wd)(h:∀u∈us,u≠[]):(Dj (us.map bI)).isSome=true:=by
 unfold Dj;split
 ·rfl
 ·split
  ·rfl
  ·split
   ·rfl
   ·split
    ·rfl
    ·split
     ·rfl
     ·rename_i a;exfalso;apply a;rw[OT];intro x c;obtain⟨u,b,rfl⟩:=O0.mp c;cases u with
      |nil=>show absurd rfl (h [] b)
      |cons p u=>rfl
abbrev cj (bs:Ow O8)(u:Wd)(i j:OH):O8:=if j<i then((u.getD i (0,[])).2).getD j 0 else bs.getD (((u.getD j (0,[])).2).getD i 0).toNat 0
abbrev aB (bs:Ow O8)(u:Wd)(ps:Ow OH):Wd:=(Pj ↥ps).map λk=>((u.getD (ps.getD k 0) (0,[])).1,(ps.take k).map λj=>cj bs u (ps.getD k 0) j)
abbrev aN:Ow (Ow OH):=[[0,1,2],[0,2,1],[1,0,2],[1,2,0],[2,0,1],[2,1,0]]
abbrev ie (bs:Ow O8)(u:Wd):Wd:=(aN.map (aB bs u)).getD (ju ((aN.map (aB bs u)).map bI)) []
abbrev aw (n:OM)(b:O8):W:=.tup [.str n,.int b]
structure GoodW (a n:OH)(u:Wd):Prop where
 mark:∀(k:OH) (p:Pt),u[k]?=ba p->0<=p.1/\p.1<a
 len:∀(k:OH) (p:Pt),u[k]?=ba p->↥p.2=k
 way:∀(k:OH) (p:Pt),u[k]?=ba p->∀w∈p.2,0<=w/\w<n
abbrev GoodB (bs:Ow O8):Prop:=bs=[0]\/bs=[0,1]\/bs=[1,0]\/bs=[0,1,2]\/bs=[1,0,2]\/bs=[0,2,1]
def GoodB.rng (h:GoodB bs):∀k:OH,k<↥bs->∃b:O8,bs[k]?=ba b/\0<=b/\b<↥bs:=by
 rcases h with rfl|rfl|rfl|rfl|rfl|rfl<;>intro k hk
 ·match k,hk with
  |0,_=>show#[0,rfl,#v[],#v[]]
 ·match k,hk with
  |0,_=>show#[0,rfl,#v[],#v[]]
  |1,_=>show#[1,rfl,#v[],#v[]]
 ·match k,hk with
  |0,_=>show#[1,rfl,#v[],#v[]]
  |1,_=>show#[0,rfl,#v[],#v[]]
 ·match k,hk with
  |0,_=>show#[0,rfl,#v[],#v[]]
  |1,_=>show#[1,rfl,#v[],#v[]]
  |2,_=>show#[2,rfl,#v[],#v[]]
 ·match k,hk with
  |0,_=>show#[1,rfl,#v[],#v[]]
  |1,_=>show#[0,rfl,#v[],#v[]]
  |2,_=>show#[2,rfl,#v[],#v[]]
 ·match k,hk with
  |0,_=>show#[0,rfl,#v[],#v[]]
  |1,_=>show#[2,rfl,#v[],#v[]]
  |2,_=>show#[1,rfl,#v[],#v[]]
def getD_some {α:Type}{xs:Ow α}{x d:α}(h:xs[i]?=ba x):xs.getD i d=x:=by simp[h]
def aJ {α:Type}{xs:Ow α}{d:α}(h:i<↥xs):xs[i]?=ba (xs.getD i d):=by simp[h]
def tq (a:ns[k]?=ba n)(c:bs[k]?=ba b):(OO aw ns bs)[k]?=ba (aw n b):=by
 rw[Qa,a,c]
abbrev aG (ps:Ow OH):Ow W:=ps.map λ(p:OH)=>W.int (p:O8)
def o5 {ps:Ow OH}{ p:OH}(h:ps[k]?=ba p):(aG ps)[k]?=ba (.int p):=by(delta aG;simp[h])
def bD (bs:Ow O8)(u:Wd)(ps:Ow OH):(aB bs u ps).length=↥ps:=by unfold aB;rw[OC,Qg]
def m9 {u:Wd}(hi:i<↥u):(u.map b7)[(i:O8).toNat]?=ba (b7 (u.getD i (0,[]))):=by
 rw[Pi,OY,aJ hi];rfl
def AV {a:OH}{Q:QO}(r:GoodB bs)(hl:↥ns=↥bs)(m:GoodW a ↥bs u)(hi:i<↥u)(o:j<↥u)(w:i≠j)(k:Q (.rt (.int (cj bs u i j)),S)) :
  wZ M fuel cJ [ba (.tup [m0,.tup (OO aw ns bs),b0]),ba (aM u),ba (.int i),ba (.int j)] S Q:=by
 have l:=aJ (d:=(0,[])) hi;have f:=aJ (d:=(0,[])) o;unfold cj at k;delta cJ;nofun
 delta wS wT wE wV wG Aw wO wB aM;show ar (Q0:=Q) (λh p _ x=>?_) (λh p g _=>?_)
 ·have c:j<i:=by have:=PC h;omega
  rw[OZ c]at k;have hw:j<(u.getD i (0,[])).2.length:=by rw[m.len i _ l];show c
  show st ?_;delta wS wE wV wG;show ap (PD i) (m9 hi) (ap #v[] rfl (ap (PD j) ?_ (x _ _ k)))
  rw[Pi,OY,aJ (d:=0) hw];rfl
 ·have c:¬ j<i:=by have:=SH h;omega
  rw[Pd c]at k;show cM (g _ _ (hK _ _ ?_));clear g hK;have hw:i<(u.getD j (0,[])).2.length:=by rw[m.len j _ f];omega
  have n:=aJ (d:=0) hw;obtain⟨q,y⟩:=m.way j _ f _ (O7 n);obtain⟨b,e,s,t⟩:=r.rng ((u.getD j (0,[])).2.getD i 0).toNat ∅
  have g:((u.getD j (0,[])).2.getD i 0).toNat<↥ns:=∅
  rw[getD_some e]at k;show st ?_;delta wS wE wV wG;show ap #v[] rfl (ap (PD j) (m9 o) (ap #v[] rfl (ap (PD i) ?_ (ap q (tq (ON g) e) (ap #v[] rfl k)))))
  rw[Pi,OY,n];rfl
def xx (G:Gen defs){a:OH}(e:GoodB bs)(hl:↥ns=↥bs)(g:GoodW a ↥bs u)(hi:i<↥u)(f:j<↥u)(b:i≠j)(k:Q (.int (cj bs u i j),S)) :
  wO (aY (ae defs fuel (d+1)) "_law_between" 4 [.tup [m0,.tup (OO aw ns bs),b0],aM u,.int i,.int j] S) Q:=
 aF G.between rfl rfl λh c=>AV e hl g hi f b (c _ _ k)
def IU (G:Gen defs){a:OH}{ps:Ow OH}(E:GoodB bs)(hl:↥ns=↥bs)(I:GoodW a ↥bs u)(f:∀p∈ps,p<↥u)(r:ps.Nodup)(hsz:↥ps<1000)(k:∀S',Ka S S'->Q (aM (aB bs u ps),S')) :
  wO (aY (ae defs fuel (d+2)) "_law_part" 3 [.tup [m0,.tup (OO aw ns bs),b0],aM u,.tup (aG ps)] S) Q:=by
 show aF G.part rfl rfl λB D=>?_
 replace k:=λS' a=>D _ _ (k S' a)
 change wZ _ _ ic [ba (.tup [m0,.tup (OO aw ns bs),b0]),ba (aM u),ba (.tup (aG ps)),gV,gV,gV] S B;generalize o:W.tup [m0,.tup (OO aw ns bs),b0]=R;show st ?_;left;nofun
 have J:(aG ps).length=↥ps:=OC ..;show gf ↥ps (λk Z S'=>∃m n,Z=[ba R,ba (aM u),ba (.tup (aG ps)),ba (.ref ↥S),m,n]/\S'[↥S]?=ba (.lst (((aB bs u ps).take k).map b7))/\Ka S S') rfl rfl ∅ ?_ ?_ ?_
 ·left;show aL ?_;rw[J];show#[rfl,gV,gV,rfl,ak,.push]
 ·rintro i Z S1 hi ⟨m,n,rfl,c,k1⟩ L H _;have b:i<↥ps:=by show Sy.mp ‹_›
  have A:=ON b;have g:=f _ (PX b);show st ?_;show ap (PD i) (by show o5 A) ?_
  show st ?_;left;show#[jI c,ap (PD _) (m9 g) (ap #v[] rfl ?_)]
  show vc (aG (ps.take i)) (λj t l S2=>(∃x,l=[gV,x,ba (.int ps[i]),ba R,ba (aM u)])/\t=((ps.take i).take j).map (λq=>W.int (cj bs u ps[i] q))/\Ka S1 S2) rfl rfl rfl ?_ ?_ ?_
  ·delta wE wP wV wG wN;show ac (a:=(.tup (aG (ps.take i)),S1)) ?_ #[rfl,#[gV,rfl],rfl,.refl];revert md iY;unfold aG;rw[Tt]
  ·rintro j w t l S2 hw ⟨⟨x,rfl⟩,rfl,k2⟩;have e:j<(ps.take i).length:=by
    have:=(OS.mp hw).1;unfold aG at this
    rwa [OC]at this
   have s:=ON e;cases(o5 s).symm.trans hw;have M:j<i:=by rw[Py]at e;omega
   have eq:(ps.take i)[j]=ps[j]'(by show SX ‹_› ‹_›):=Vc
   generalize(ps.take i)[j]=q at s eq ⊢;show ac rfl ?_;delta wC;subst o;show#[λ_=>xx  G E hl I g (by rw[eq];show f _ (PX _)) ?_ #[#[_,rfl],?_,k2],λz=>by cases z]
   ·rw[eq];intro h;have:=(Si r).mp h;omega
   ·rw[Rg,s];simp
  ·rintro t l S2 ⟨_,rfl,k2⟩;rw[show(aG (ps.take i)).length=(ps.take i).length from OC ..,RV]
   show#[few (by rw[OC,Py];omega),fu ak ?_]
   have y:=aV (u:=O.lst ((ps.take i).map λq=>W.int (cj bs u ps[i] q))) (k2.get _ _ c)
   show vg y (by rw[OC,Py];omega) (cM (H _ _ #[_,_,rfl,?_,((k1.trans k2).trans .push).late (OR _)]))
   rw[fR y];have C:(aB bs u ps)[i]?=ba ((u.getD ps[i] (0,[])).1,(ps.take i).map λq=>cj bs u ps[i] q):=by
    unfold aB;rw[OY,Tj b,P3,getD_some A]
   rw[Rg,C];simp[b7,Xe]
 ·rintro Z S1 ⟨m,n,rfl,c,k1⟩;rw[Pi,<- bD bs u ps,RV]at c;show hK _ _ (st ?_);left;show fu c (k _ k1)
def EA (G:Gen defs)(k:Q (.ref ↥S,S++[.lst (aN.map λt=>W.tup (aG t))])):wO (aY (ae defs fuel (d+1)) "_law_turns" 0 [] S) Q:=by
 show aF G.turns rfl rfl λb a=>?_
 show st ?_;left;show a _ _ k
def du (bt:OH->OH->O6):∀n:OH,argBest bt n<=n
 |0=>OR _
 |n+1=>by have:=du bt n;revert argBest;split<;>omega
def qU (G:Gen defs){a:OH}(o:GoodB bs)(hl:↥ns=↥bs)(r:GoodW a ↥bs u)(n:↥u=3)(k:∀S',Ka S S'->Q (aM (ie bs u),S')) :
  wO (aY (ae defs fuel (d+3)) zn 2 [.tup [m0,.tup (OO aw ns bs),b0],aM u] S) Q:=by
 show aF G.figure rfl rfl λl m=>?_
 replace k:∀S',Ka S S'->l (.rt (aM (ie bs u)),S'):=λS' a=>m _ _ (k S' a)
 clear m;change wZ _ _ c7 [ba (.tup [m0,.tup (OO aw ns bs),b0]),ba (aM u)] S l;generalize h:W.tup [m0,.tup (OO aw ns bs),b0]=R;delta c7;show st ?_;delta wS wE wA;show Ev ↥S (aN.map λt=>W.tup (aG t)) (λi f c S2=>(∃g,c=[gV,g,ba R,ba (aM u)])/\f=((aN.take i).map λt=>aM (aB bs u t))/\Ka (S++[.lst (aN.map λt=>W.tup (aG t))]) S2) rfl rfl rfl ?_ ?_ ?_ ?_
 ·delta wE wA;show EA (d:=d+1) G #[rfl,#[gV,rfl],rfl,.refl]
 ·rintro i f c S2 ⟨_,_,k2⟩;show k2.get _ _ ak
 ·rintro i w f c S2 hw ⟨⟨g,rfl⟩,rfl,k2⟩;rw[OY,OG]at hw;obtain⟨t,ht,rfl⟩:=hw;have b:(∀p∈t,p<3)/\t.Nodup/\↥t<1000:=by
   have:∀t∈aN,(∀p∈t,p<3)/\t.Nodup/\↥t<1000:=by decide
   show this t (O7 ht)
  show ac (show sQ (.nm 1) (.tup (aG t)) [gV,g,ba R,ba (aM u)] S2=ba ([gV,ba (.tup (aG t)),ba R,ba (aM u)],S2)from rfl) ?_
  delta oZ wC wE wA wV wG;subst h;show#[λ_=>IU (d:=d) G o hl r (λp q=>by rw[n];show b.1 p q) b.2.1 b.2.2 λs k3=>#[#[_,rfl],?_,k2.trans k3],λz=>by cases z]
  rw[Rg,ht];simp
 ·rintro f c S2 ⟨_,rfl,k2⟩;have e:((aN.take (aN.map λt=>W.tup (aG t)).length).map λt=>aM (aB bs u t))=(aN.map (aB bs u)).map aM:=by
   rw[OC,RV,QR];rfl
  rw[e];show#[iX rfl,ac (a:=(aM (ie bs u),S2++[.lst ((aN.map (aB bs u)).map aM)])) ?_ (k _ ((Ka.push.trans k2).trans .push))]
  (delta Bi.fn zj;simp only[az ak,AS])
  rw[OZ #[by have:=jL (aN.map (aB bs u));unfold cY;omega,d8 _]]
  unfold ie;have j:ju ((aN.map (aB bs u)).map bI)<(aN.map (aB bs u)).length:=SA (du _ _) (by decide:5<6)
  rw[OY,aJ (d:=[]) j];rfl
abbrev eu (xs:Ow O8):Ow W:=xs.map W.int
abbrev fv (us:Ow Wd):Ow Wd:=dC (ol (us.map bI)) [] us
def qV {d:α}{f:α->β}:dC lt d' (us.map f)=(dC lt d us).map f:=by
 unfold dC;rw[OC];split
 ·rfl
 ·rw[QR];show QX λi hi=>?_
  have hl:=oo ∅ i hi
  simp[hl]
def tu {us:Ow Wd}(h:fJ S x=ba (us.map aM))(a:↥us<64)(b:∀u∈us,u≠[]):iE [x] S=ba (.ref ↥S,S++[.lst ((fv us).map aM)]):=by
 have ok:om (us.map bI)=true:=by
  unfold om;revert OE Qn O1 OC;show#[#[a,by have:=jL us;unfold cY;show OQ ‹_› (OP rfl)],.inr #[IT us b,d8 us]]
 revert iE h AS;rw[OZ ok,qV ];rfl
abbrev eB (a ns:Ow OM)(bs:Ow O8)(us:Ow Wd):W:=.tup [.tup (a.map W.str),.tup (OO aw ns bs),.tup (us.map aM)]
structure GoodN (ms ns:Ow OM):Prop where
 name:∀y∈ms++ns,Name y
 nd:(bN++(ms++ns)).Nodup
def GoodW.nil {a :OH}:GoodW a n []:=#[λk p h=>(by simp at h),λk p h=>(by simp at h),λk p h=>(by simp at h)]
def GoodW.snoc {a :OH}{m:O8}(h:GoodW a n u)(c:0<=m/\m<a)(d:↥ws=↥u)(f:∀w∈ws,0<=w/\w<(n:O8)):GoodW a n (u++[(m,ws)]):=by
 have b:∀k p,(u++[(m,ws)])[k]?=ba p->u[k]?=ba p\/(k=↥u/\p=(m,ws)):=λk p e=>by
  rcases VD k ↥u with hk|hk
  ·rw[PH hk]at e;show .inl e
  ·rw[RX hk]at e;have:=by
    have:=(OS.mp e).1;simp at this;show ‹_›
   rw[this]at e;cases e;show .inr #[∅,rfl]
 show#[λk p e=>?_,λk p e=>?_,λk p e=>?_]<;>rcases b k p e with e|⟨rfl,rfl⟩
 ·show h.mark k p e
 ·show c
 ·show h.len k p e
 ·show d
 ·show h.way k p e
 ·show f
def GoodB.inv (h:GoodB bs):∀k:OH,k<↥bs->bs.getD (bs.getD k 0).toNat 0=k:=by
 rcases h with rfl|rfl|rfl|rfl|rfl|rfl<;>decide
def GoodB.at (h:GoodB bs){x:O8}(d:0<=x)(e:x<↥bs):bs[x.toNat]?=ba (bs.getD x.toNat 0)/\0<=bs.getD x.toNat 0/\bs.getD x.toNat 0<↥bs:=by
 obtain⟨b,a,c⟩:=h.rng x.toNat ∅
 rw[getD_some a];show#[a,c]
def tz {us:Ow Wd}(h:fJ S x=ba (us.map aM))(a:↥us<64)(b:∀u∈us,u≠[])(q:Q (.ref ↥S,S++[.lst ((fv us).map aM)])):wO (Bi.sorted.fn [x] S) Q:=by
 show ac ?_ q;show tu h a b
abbrev AW:Ow (OH×OH):=[(1,1),(2,1),(3,1),(1,2),(1,2),(2,2),(2,2),(3,2),(1,3),(1,3),(2,3)]
def AX:∀p∈AW,1<=p.1/\p.1<=3/\1<=p.2/\p.2<=3/\p.1*p.2<=6:=by decide
abbrev lS:OH->Ow (Ow O8)
 |1=>[[0]]
 |2=>[[0,1],[1,0]]
 |_=>[[0,1,2],[1,0,2],[0,2,1]]
def AY:∀n:OH,1<=n->n<=3->(∀b∈lS n,GoodB b/\↥b=n)/\0<(lS n).length/\(lS n).length<=3
 |1,_,_=>#[λb h=>by cases O3.mp h;show#[.inl rfl,rfl],#v[],#v[]]
 |2,_,_=>#[λb h=>by
   rcases O2.mp h with rfl|h
   ·show#[.inr (.inl rfl),rfl]
   ·cases O3.mp h;show#[.inr (.inr (.inl rfl)),rfl],#v[],#v[]]
 |3,_,_=>#[λb h=>by
   rcases O2.mp h with rfl|h
   ·show#[.inr (.inr (.inr (.inl rfl))),rfl]
   ·rcases O2.mp h with rfl|h
    ·show#[.inr (.inr (.inr (.inr (.inl rfl)))),rfl]
    ·cases O3.mp h;show#[.inr (.inr (.inr (.inr (.inr rfl)))),rfl],#v[],#v[]]
 |0,h,_=>absurd h #v[]
 |n+4,_,h=>absurd h ∅
def EB (G:Gen defs)(hf:Fl S r)(k:∀(a n:OH) S',1<=a->a<=3->1<=n->n<=3->a*n<=6->Fl S' r->Kp r S S'->Q (.tup [.int a,.int n],S')) :
  wO (aY (ae defs fuel (d+2)) "_law_sizes" 1 [.ref r] S) Q:=by
 show aF G.sizes rfl rfl λo i=>?_
 show st ?_;left;show st ?_;left;show aH  G.pick (hf.ka .push) #v[] #v[] λv S1 m q h k1=>?_
 have e:=k1.get _ _ (PZ hf.lt) ak;obtain⟨p,j,g⟩:=sY (f:=λp=>W.tup [.int p.1,.int p.2]) (xs:=AW)  (by change v.toNat<11;omega)
 obtain⟨b,c,l,n3,an⟩:=AX p j;show vf e m g (i _ _ (k _ _ _ b c l n3 an h (Kp.push.trans k1)))
def EC (G:Gen defs)(hf:Fl S r)(s:1<=n)(u:n<=3)(k:∀ bs S',GoodB bs->↥bs=n->Fl S' r->Kp r S S'->Q (.tup (eu bs),S')) :
  wO (aY (ae defs fuel (d+2)) "_law_backs" 2 [.ref r,.int n] S) Q:=by
 show aF G.backs rfl rfl λj w=>?_
 replace k:=λz S' a b c e=>w _ _ (k z S' a b c e)
 change wZ _ _ _ [ba _,ba _,gV] S j;nofun
 left;obtain⟨f,p,q⟩:=AY n s u;have fin:∀t S1,↥S<=t->S1[t]?=ba (.lst ((lS n).map λb=>.tup (eu b)))->Ka S S1->K [ba (.ref r),ba (.int n),ba (.ref t)] S1:=by
  intro t S1 ht g ka;show hK _ _ (st ?_);left;show lO g ?_;rw[OC];show aH  G.pick (hf.ka ka) ∅ ∅ λv S2 x y o k2=>?_
  have l:=k2.get _ _ (by have:=hf.lt;omega) g
  obtain⟨b,h,m⟩:=sY  (xs:=lS n) (i:=v.toNat) ∅
  show vf l x m (k b S2 (f b h).1 (f b h).2 o ((ka.kp r).trans k2))
 clear hK p q f;rcases(show n=1\/n=2\/n=3 by omega)with rfl|rfl|rfl
 ·show bR  ak rfl (fin _ _ (OR _) (aV (aV (aV ak))) (Ka.push.trans (Ka.push.trans (Ka.push.trans .push))))
 ·show bR  ak rfl (fin _ _ (by simp) (aV (aV ak)) (Ka.push.trans (Ka.push.trans (Ka.push.trans .push))))
 ·show bR  ak rfl (fin _ _ (by revert OL;omega) (aV ak) (Ka.push.trans (Ka.push.trans (Ka.push.trans .push))))
def xy (p:30<fuel)(G:Gen defs){a:OH}{us:Ow Wd}(hf:Fl S r)(L:a<=3)(M:↥bs<=3)(H:∀S',Kp r S S'->fJ S' x=ba (us.map aM))(o:↥us<64)(q:∀u∈us,u≠[])
  (k:∀ h ns S',↥h=a->↥ns=↥bs->GoodN h ns->Fl S' r->Kp r S S'->Q (eB h ns bs (fv us),S')) :
  wO (aY (ae defs fuel (d+5)) qy 4 [.ref r,.int a,.tup (eu bs),x] S) Q:=by
 show aF G.rule_of rfl rfl λv C=>?_
 replace k:∀(h ns:Ow OM) S',↥h=a->↥ns=↥bs->GoodN h ns->Fl S' r->Kp r S S'->v (.rt (eB h ns bs (fv us)),S'):=λz y S' a b c e f=>C _ _ (k z y S' a b c e f)
 clear C;change wZ _ _ cK [ba (.ref r),ba (.int a),ba (.tup (eu bs)),ba x,gV,gV] S v;have j:(eu bs).length=↥bs:=OC ..;delta cK;nofun
 left;show aL ?_;rw[j];delta gN aZ;show Ez (d:=d) (m:=a+↥bs) p G hf ∅ λg S1 N I J E k1=>hK _ _ ?_
 clear hK K;have s:(OO aw (g.drop a) bs).length=↥bs:=by
  rw[PM,Qm];omega
 nofun
 delta wS wE wA OJ;show iV (↥bs:O8) (λk t n S2=>(∃A,n=[gV,A,ba (.tup (eu bs)),ba (.int a),ba (.tup (g.map W.str))])/\t=((OO aw (g.drop a) bs).take k)/\S2=S1) rfl rfl rfl ∅ ?_ ?_ ?_
 ·delta wE wA wV wG;show aL ?_;rw[j];show#[rfl,#[gV,rfl],rfl,rfl]
 ·rintro i t n S2 hi ⟨⟨A,rfl⟩,rfl,rfl⟩;clear hK;have l:i<↥bs:=∅
  have B:a+i<↥g:=∅
  delta oZ wC wE wA wV wG OJ gN aZ;show#[λ_=>ap ∅ (w:=.str g[a+i]) ?_ (ap ∅ (w:=.int bs[i]) ?_ #[#[_,rfl],?_,rfl]),λz=>by cases z]
  ·rw[show((a:O8)+(i:O8)).toNat=a+i by omega,OY,ON B];rfl
  ·unfold eu;rw[Pi,OY,ON l];rfl
  ·have D:(OO aw (g.drop a) bs)[i]?=ba (aw g[a+i] bs[i]):=tq (by rw[List.getElem?_drop];show ON B) (ON l)
   rw[Rg,D];rfl
 ·rintro t n S2 ⟨_,rfl,rfl⟩;rw[Pi,<- s,RV];show#[few ∅,fu ak (hK _ _ ?_)]
  clear hK K;show st ?_;delta wS wE wA wP wV wG wN;have hs:md (.tup (g.map W.str)) gV (ba (a:O8)) (S2++[O.lst (OO aw (g.drop a) bs)])=ba (.tup ((g.take a).map W.str),S2++[O.lst (OO aw (g.drop a) bs)]):=by
   revert md iY;rw[Tt]
  show ac hs (tz (H _ (k1.trans .push)) o q (fu ak ?_));show k (g.take a) (g.drop a) _ ?_ ?_ #[?_,?_] ((E.ka .push).ka .push) (k1.trans (Kp.push.trans .push))
  ·rw[Py];omega
  ·rw[Qm];omega
  ·rw[R0];show I
  ·rw[R0];show J
def tB (b:30<fuel)(G:Gen defs){a:OH}(hf:Fl S r)(e:a<=3)(f:↥bs<=3)
  (k:∀ c ns S',↥c=a->↥ns=↥bs->GoodN c ns->Fl S' r->Kp r S S'->Q (eB c ns bs [],S')) :
  wO (aY (ae defs fuel (d+5)) qy 4 [.ref r,.int a,.tup (eu bs),.tup []] S) Q:=
 xy b G hf e f (us:=[]) (λ_ _=>rfl) #v[] (λ_ h=>nomatch h) k
def draws { e:E}{f:Ow (Oz OH)}{n :OH}{R:Fm}(x:ci c=true)(y:ci e=true)(D:i<=1000)(hc:cr f Z=gV::gV::R)(hf:Fl S r)(s:∀Q:QW,Q (.int i,S)->wE M e Z S Q)
  (t:∀ a S1 Q,Fl S1 r->(∀v S',0<=v->v<(n:O8)->Fl S' r->Kp r S1 S'->Q (.int v,S'))->wE M c (gV::a::R) S1 Q)
  (k:∀(vs:Ow O8) S',↥vs=i->(∀w∈vs,0<=w/\w<n)->Fl S' r->Kp r S S'->Q (.ref ↥S',S'++[.lst (eu vs)])) :
  Wp (aA M (.comp c (.nm 1) (.rng #v[e]) .nil f) Z S) Q:=by
 show iV (i:O8) (λj o g d=>(∃p,g=gV::p::R)/\(∃vs:Ow O8,o=eu vs/\↥vs=j/\∀w∈vs,0<=w/\w<(n:O8))/\Fl d r/\Kp r S d) y x rfl ∅ (s _ #[rfl,#[gV,hc],#[[],rfl,rfl,λ_ h=>nomatch h],hf,.refl]) ?_ ?_
 ·rintro j o g d G ⟨⟨p,rfl⟩,⟨vs,rfl,b,m⟩,l,k3⟩;show#[λ_=>t _ _ _ l λv C A B q u=>#[#[_,rfl],#[vs++[v],(PP (l₁:=vs) (l₂:=[v])).symm,by rw[OL,b];rfl,λw hw=>?_],q,k3.trans u],λz=>by cases z]
  rcases Px.mp hw with h|h
  ·show m w h
  ·rw[O3.mp h];show#[A,B]
 ·rintro o g d ⟨_,⟨vs,rfl,b,m⟩,l,k3⟩;rw[Pi]at b;show#[few (by rw[show(eu vs).length=↥vs from OC ..];omega),k vs d b m l k3]
def o6 (G:Gen defs){a :OH}(hf:Fl S r)(M:0<a)(B:a<=3)(N:0<n)(C:n<=3)(k:∀ u S',↥u=3->GoodW a n u->Fl S' r->Kp r S S'->Q (aM u,S')) :
  wO (aY (ae defs fuel (d+2)) vr 3 [.ref r,.int a,.int n] S) Q:=by
 show aF G.free_three rfl rfl λI A=>?_
 replace k:=λz S' a b c e=>A _ _ (k z S' a b c e)
 have o:=hf.lt;show st ?_;left;nofun
 show gf 3 (λk Z S'=>∃j u,Z=[ba _,ba _,ba _,ba _,j]/\S'[↥S]?=ba (.lst (u.map b7))/\↥u=k/\GoodW a n u/\Fl S' r/\Kp r S S') rfl rfl #v[] #[rfl,gV,[],rfl,ak,rfl,.nil,hf.ka .push,.push] ?_ ?_
 ·rintro i Z S1 hi ⟨j,u,rfl,h,g,p,l,k1⟩ J m _;show st ?_;left;show#[jI h,aH  G.pick l ∅ ∅ λv S2 E H x k2=>?_]
  have w:=k2.get _ _ ∅ h
  show draws    rfl rfl ∅ rfl x (λQ q=>q) (λa S1 Q f q=>aH  G.pick f ∅ ∅ q) λvs L s D y k3=>?_
  have t:=aV (u:=O.lst (eu vs)) (k3.get _ _ ∅ w)
  show fu ak (vg t (by rw[OC];omega) (cM (m _ _ #[_,u++[(v,vs)],rfl,?_,by rw[OL,g];rfl,p.snoc #[E,H] (s.trans g.symm) D,(y.ka .push).own o,(k1.trans (k2.trans (k3.trans .push))).late (OR _)])))
  rw[fR t,PP];rfl
 ·rintro Z S1 ⟨j,u,rfl,h,g,p,l,k1⟩;show hK _ _ (st ?_);show fu h (k u _ g p l k1)
abbrev qW (n:OH):Ow O8:=(Pj n).map λ(k:OH)=>(k:O8)
abbrev qX (a n:OH):Ow Wd:=(qW a).flatMap λm0=>(qW a).flatMap λb=>(qW a).flatMap λc=>(qW n).flatMap λd=>(qW n).flatMap λw2=>(qW n).map λw3=>[(m0,[]),(b,[d]),(c,[w2,w3])]
abbrev br (a:OH)(bs:Ow O8):Ow Wd:=((qX a ↥bs).map (ie bs)).eraseDups
def eC {n:OH}{x:O8}(a:0<=x)(b:x<n):x∈qW n:=O0.mpr #[x.toNat,Pn.mpr ∅,∅]
def xz {a :OH}(h:GoodW a n u)(j:↥u=3):u∈qX a n:=by
 match u,j with
 |[(m0,m),(k,o),(l,w2)],_=>
  have f:=h.len 0 _ rfl;have g:=h.len 1 _ rfl;have i:=h.len 2 _ rfl;simp only at f g i
  match m,f with
  |[],_=>
   match o,g with
   |[x],_=>
    match w2,i with
    |[y,z],_=>
     have b:=h.mark 0 _ rfl;have c:=h.mark 1 _ rfl;have d:=h.mark 2 _ rfl;have e:=h.way 1 _ rfl x (by simp)
     have b2:=h.way 2 _ rfl y (by simp)
     have b3:=h.way 2 _ rfl z (by simp)
     unfold qX;revert Uc O0;show#[m0,eC b.1 b.2,k,eC c.1 c.2,l,eC d.1 d.2,x,eC e.1 e.2,y,eC b2.1 b2.2,z,eC b3.1 b3.2,rfl]
def ED {a:OH}(h:GoodW a ↥bs u)(b:↥u=3):ie bs u∈br a bs:=by
 unfold br;rw[UW];show O0.mpr #[u,xz h b,rfl]
structure SizeOk (a:OH)(bs:Ow O8):Prop where
 pos:0<a
 good:GoodB bs
 most:a*↥bs<=6
 a3:a<=3
def SizeOk.n3 {a:OH}(h:SizeOk a bs):0<↥bs/\↥bs<=3:=by
 rcases h.good with rfl|rfl|rfl|rfl|rfl|rfl<;>decide
def Ny:(br 1 [0]).length<60/\(br 2 [0]).length<60/\(br 3 [0]).length<60:=by decide +kernel
def Mu:(br 1 [0,1]).length<60/\(br 2 [0,1]).length<60/\(br 1 [1,0]).length<60/\(br 2 [1,0]).length<60:=by decide +kernel
def Nz:(br 1 [0,1,2]).length<60/\(br 1 [1,0,2]).length<60/\(br 1 [0,2,1]).length<60:=by decide +kernel
def NA:(br 3 [0,1]).length<60:=by decide +kernel
def NB:(br 3 [1,0]).length<60:=by decide +kernel
def NC:(br 2 [0,1,2]).length<60:=by decide +kernel
def ND:(br 2 [1,0,2]).length<60:=by decide +kernel
def NE:(br 2 [0,2,1]).length<60:=by decide +kernel
def o7 {a:OH}(h:SizeOk a bs):(br a bs).length<60:=by
 obtain⟨e,d,b,f⟩:=h;have c:a=1\/a=2\/a=3:=∅
 rcases d with rfl|rfl|rfl|rfl|rfl|rfl<;>rcases c with rfl|rfl|rfl
 ·show Ny.1
 ·show Ny.2.1
 ·show Ny.2.2
 ·show Mu.1
 ·show Mu.2.1
 ·show NA
 ·show Mu.2.2.1
 ·show Mu.2.2.2
 ·show NB
 ·show Nz.1
 ·show NC
 ·simp at b
 ·show Nz.2.1
 ·show ND
 ·simp at b
 ·show Nz.2.2
 ·show NE
 ·simp at b
def AZ (bs:Ow O8)(u:Wd):∃t∈aN,ie bs u=aB bs u t:=by
 have b:(aN.map (aB bs u)).length=6:=by rw[OC];rfl
 have d:((aN.map (aB bs u)).map bI).length=6:=by rw[OC,b]
 have a:ju ((aN.map (aB bs u)).map bI)<(aN.map (aB bs u)).length:=by
  unfold ju;have c:=du (ol ((aN.map (aB bs u)).map bI)) (((aN.map (aB bs u)).map bI).length-1);rw[b];omega
 unfold ie;rw[getD_some (ON a)];obtain⟨t,ht,e⟩:=O0.mp (PX a);show#[t,ht,e.symm]
def EE (bs:Ow O8)(u:Wd):ie bs u≠[]:=by
 obtain⟨t,ht,e⟩:=AZ bs u;rw[e];have:∀t∈aN,t≠[]:=by decide
 have h:=this t ht;intro z;have hl:(aB bs u t).length=↥t:=by(delta aB;simp)
 rw[z]at hl;show h (List.length_eq_zero_iff.mp hl.symm)
def qY:∀{xs a:Ow O8},xs.map T.int=a.map T.int->xs=a
 |[],[],_=>rfl
 |[],_::_,h=>by cases h
 |_::_,[],h=>by cases h
 |x::xs,y::a,h=>by
  injection h with h1 h2
  injection h1 with h1
  rw[h1,qY h2]
def EF {p :Pt}(h:gF p=gF q):p=q:=by
 injection h with h
 injection h with h1 h2
 injection h1 with h1
 injection h2 with h2 _
 injection h2 with h2
 show ZX h1 (qY h2)
def gj (h:bI u=bI v):u=v:=by
 injection h with h
 have inj:∀{u v:Wd},u.map gF=v.map gF->u=v:=by
  intro u
  induction u with
  |nil=>intro v h;cases v with
   |nil=>rfl
   |cons _ _=>cases h
  |cons p u ih=>intro v h;cases v with
   |nil=>cases h
   |cons q v=>
    injection h with h1 h2
    rw[EF h1,ih h2]
 show inj h
def nh {k:T}:(mo U k v).map (·.1)=if k∈U.map (·.1)then U.map (·.1)else U.map (·.1)++[k]:=by
 have a:(U.any λp=>decide (p.1=k))=decide (k∈U.map (·.1)):=by
  induction U with
  |nil=>rfl
  |cons p U ih=>
   rw[SJ,ih,PK]
   by_cases e:p.1=k
   ·subst e;simp
   ·rw[Pw e,Vi];have:(k∈p.1::U.map (·.1))=(k∈U.map (·.1)):=by simp[Ne.symm e]
    revert this
 unfold mo;rw[a]
 by_cases h:k∈U.map (·.1)
 ·rw[OZ h,OZ (Pq h),QR];show QX λp _=>?_
  show(if p.1=k then(p.1,v)else p).1=p.1
  split<;>rfl
 ·rw[Pd h,Pd (by simpa using h),PP]
  rfl
structure FigD (L:Ow Wd)(U:Ow (T×W))(fs:Ow Wd):Prop where
 keys:U.map (·.1)=fs.map bI
 nd:fs.Nodup
 mem:∀f∈fs,f∈L
def FigD.nil :FigD L [] []:=#[rfl,UV,λ_ h=>nomatch h]
def FigD.len (h:FigD L U fs):↥U=↥fs/\↥fs<=↥L:=by
 have:=congrArg Yqa h.keys;rw[OC,OC]at this;show#[this,dS fs L h.nd h.mem]
def FigD.put {f:Wd}(h:FigD L U fs)(hf:f∈L):∃c,FigD L (mo U (bI f) v) c:=by
 by_cases i:f∈fs
 ·show#[fs,?_,h.nd,h.mem];rw[nh,OZ (by rw[h.keys];show O0.mpr #[f,i,rfl]),h.keys]
 ·show#[fs++[f],?_,?_,λg d=>?_]
  ·rw[nh,Pd,h.keys,PP]
   ·rfl
   ·rw[h.keys];intro z;obtain⟨g,d,e⟩:=O0.mp z;show i (gj e▸d)
  ·rw[RA];show#[h.nd,by simp,λa j b k e=>?_]
   rw[O3.mp k]at e;show i (e▸j)
  ·rcases Px.mp d with h'|h'
   ·show h.mem g h'
   ·rw[O3.mp h'];show hf
def FigD.items (h:FigD L U fs)(e:S[t]?=ba (.dic U)):fJ S (.ref t)=ba (fs.map aM):=by
 simp only[fJ,Ei e,Eh e,P3];congr 1;have:(U.map (·.1)).map T.w=(fs.map bI).map T.w:=by rw[h.keys]
 rw[QR,QR]at this
 calc U.map (λp=>p.1.w)=U.map _:=rfl
  _=fs.map _:=this
  _=fs.map aM:=by
   show QX λf _=>?_
   show AO f
def A6 {a:OH}{f:Wd}(h:f∈br a bs):f≠[]:=by
 unfold br at h;rw[UW]at h;obtain⟨u,_,rfl⟩:=O0.mp h;show EE bs u
def LL (h:S[t]?=ba (.dic U))(hl:↥U<sizeLine):ki (.ref t) (aM u) v S=ba (S.set t (.dic (mo U (bI u) v))):=by
 have hk:=IR u;unfold aM at hk ⊢
 (delta ki yW;revert h hk)
 rw[OZ hl]
structure RuleAt (a:OH)(bs:Ow O8)(ms ns:Ow OM)(gs:Ow Wd):Prop where
 size:SizeOk a bs
 ml:↥ms=a
 nl:↥ns=↥bs
 nm:GoodN ms ns
 nd:gs.Nodup
 mem:∀g∈gs,g∈br a bs
abbrev A7 (w:W):Prop:=∃a bs c ns b,w=eB c ns bs (fv b)/\RuleAt a bs c ns b
section
variable{K:Fm->aa->Prop}{Q:QO}
def lT {e:E}(l:ci e=true)(ok:iP b=true)(h:wE M e Z S λp=>∃(j:O8) (I:OH->Fm->aa->Prop),p.1=.int j/\(-(2^62)<=j/\j<2^62)/\I 0 Z p.2/\
  (∀(i:OH) Z S,i<j->I i Z S->JR M fuel b (Z.set d (ba (.int i))) S (I (i+1)) Q)/\∀Z S,I j.toNat Z S->K Z S):Wp (cu M fuel (.loop (.nm d) (.rng #v[e]) b) Z S) (sU K Q):=by
 obtain⟨w,S1,f,j,I,rfl,k,g,hs,a⟩:=bA l h;have hl:(gY 0 j.toNat).length=j.toNat:=by simp[gY]
 show oY (mi:=.its (gY 0 j.toNat)) (S1:=S1) (xs:=gY 0 j.toNat) I ok ?_ (λ_ _ _ _=>rfl) rfl g (λi w Z S hw c=>?_) λZ S c=>a Z S (hl▸c)
 ·(delta iK bP dH km qt;revert f)
  rw[OZ k]
 ·rw[fO]at hw;split at hw
  next hk=>cases hw;rw[VG];show hs i Z S ∅ c
  ·cases hw
end
def LM {a:OH}{d :Ow OM}(j:S[q]?=ba (.dic U))(c:FigD (br a bs) U fs)(hs:SizeOk a bs)(e:↥d=a)(g:↥ns=↥bs)(h:GoodN d ns)(k:∀w S',A7 w->Ka S S'->Q (w,S')) :
  wO (mL (eB d ns bs b) (.int 0) S) λp=>wO (mL (eB d ns bs b) (.int 1) p.2) λi=>wO (Bi.sorted.fn [.ref q] i.2) λs=>wO (Bi.tuple.fn [s.1] s.2) λz=>Q (.tup [p.1,i.1,z.1],z.2):=by
 show ap #v[] rfl (ap #v[] rfl ?_)
 have hl:=c.len;show tz (c.items j) (by have:=o7 hs;omega) (λf hf=>A6 (c.mem f hf)) (fu ak (k _ _ #[a,bs,d,ns,fs,rfl,hs,e,g,h,c.nd,c.mem] .push))
def LN {a:OH}{Q:aa->Prop}(d:S[q]?=ba (.dic U))(e:FigD (br a bs) U fs)(hs:SizeOk a bs)(g:GoodW a ↥bs u)(c:↥u=3)
  (k:∀o,(∃U fs,(S.set q o)[q]?=ba (.dic U)/\FigD (br a bs) U fs)->Q (S.set q o)):wO (ki (.ref q) (aM (ie bs u)) (.bl true) S) Q:=by
 have hl:=e.len;have:=o7 hs;obtain⟨b,f⟩:=e.put (v:=.bl true) (ED g c);show ac (LL d (by rw[Qc];omega)) (k _ #[_,b,fR d,f])
abbrev Tr:OH->W->Prop
 |_,.int _=>Yw
 |_,.str _=>Yw
 |_,.non=>Yw
 |n+1,.tup xs=>↥xs<=1000/\∀x∈xs,Tr n x
 |_,_=>P0
def ni:∀n:OH,eQ (PN n (.bl true))=ba (PN n true)
 |0=>rfl
 |n+1=>by rw[Ti,eQ,ni n];rfl
def EG (n:OH):(PN n true).all id=true:=by
 rw[OT];intro x a;rw[(List.mem_replicate.mp a).2];rfl
def EH (m:Is defs ("_law_alike") 2 2 bH):∀ n d w S (Q:QW),Tr n w->(∀S',Ka S S'->Q (.bl true,S'))->wO (aY (ae defs fuel (d+n+1)) xi 2 [w,w] S) Q:=by
 intro n
 induction n with
 |zero=>
  intro d w S Q hw k;show aF m rfl rfl λg f=>?_
  replace k:=f _ _ (k S .refl);clear f;change wZ _ _ bH [ba w,ba w] S g;delta bH;cases w with
  |int x=>
   show aU λK hK=>dq (λQ q=>q) (hK _ _ ?_)
   show aU λK hK=>dq (λQ q=>#[λz=>(by cases z),λ_=>q]) (hK _ _ ?_)
   show aU λK hK=>m6 (λQ q=>q) λe _ b=>st ?_
   delta wS wE wV wG;show ac (show oI S (.int x) "int" = ba true from rfl) #[λ_=>?_,λz=>by cases z]
   delta eW aZ;rw[PB];show b _ _ k
  |str x=>
   show aU λK hK=>dq (λQ q=>q) (hK _ _ ?_)
   show aU λK hK=>dq (λQ q=>#[λz=>(by cases z),λ_=>q]) (hK _ _ ?_)
   show aU λK hK=>dq (λQ q=>q) (hK _ _ ?_)
   show aU λK hK=>m6 (λQ q=>q) λe _ b=>st ?_
   delta wS wE wV wG;show ac (show oI S (.str x) "str" = ba true from rfl) #[λ_=>?_,λz=>by cases z]
   delta FU aZ;rw[PB];show b _ _ k
  |non=>
   show aU λK hK=>m6 (λQ q=>q) λe _ b=>st ?_
   delta wS wE wV wG;show ac (show b9 .is .non .non S=ba (.bl true,S)from rfl) (b _ _ k)
  |_=>show hw.elim
 |succ n ih=>
  intro d w S Q hw k;show aF m rfl rfl λg f=>?_
  replace k:∀S',Ka S S'->g (.rt (.bl true),S'):=λS' a=>f _ _ (k S' a)
  clear f;change wZ _ _ bH [ba w,ba w] S g;delta bH;cases w with
  |int x=>
   show aU λK hK=>dq (λQ q=>q) (hK _ _ ?_)
   show aU λK hK=>dq (λQ q=>#[λz=>(by cases z),λ_=>q]) (hK _ _ ?_)
   show aU λK hK=>m6 (λQ q=>q) λe _ b=>st ?_
   delta wS wE wV wG;show ac (show oI S (.int x) "int" = ba true from rfl) #[λ_=>?_,λz=>by cases z]
   delta eW aZ;rw[PB];show b _ _ (k _ .refl)
  |str x=>
   show aU λK hK=>dq (λQ q=>q) (hK _ _ ?_)
   show aU λK hK=>dq (λQ q=>#[λz=>(by cases z),λ_=>q]) (hK _ _ ?_)
   show aU λK hK=>dq (λQ q=>q) (hK _ _ ?_)
   show aU λK hK=>m6 (λQ q=>q) λe _ b=>st ?_
   delta wS wE wV wG;show ac (show oI S (.str x) "str" = ba true from rfl) #[λ_=>?_,λz=>by cases z]
   delta FU aZ;rw[PB];show b _ _ (k _ .refl)
  |tup xs=>
   obtain⟨hl,o⟩:=hw;show aU λK hK=>dq (λQ q=>q) (hK _ _ ?_)
   show aU λK hK=>dq (λQ q=>#[λz=>(by cases z),λ_=>q]) (hK _ _ ?_)
   show aU λK hK=>dq (λQ q=>q) (hK _ _ ?_)
   show aU λK hK=>dq (λQ q=>q) (hK _ _ ?_)
   show aU λK hK=>dq (λQ q=>#[λz=>(by cases z),λ_=>q]) (hK _ _ ?_)
   show st ?_;left;show aL (aL ?_);delta eW aZ wB;rw[PB];show#[λ_=>?_,λz=>by cases z]
   show iV (↥xs:O8) (λi j h S2=>(∃l,h=[gV,l,ba (.tup xs),ba (.tup xs)])/\j=PN i (.bl true)/\Ka S S2) rfl rfl rfl ∅ ?_ ?_ ?_
   ·delta wE wA wV wG;show aL #[rfl,#[gV,rfl],rfl,.refl]
   ·rintro i j h S2 hi ⟨⟨l,rfl⟩,rfl,k2⟩;have c:i<↥xs:=∅
    delta oZ wC wE wA wV wG OJ;show#[λ_=>ap (PD i) (by rw[Pi];show ON c) (ap (PD i) (by rw[Pi];show ON c) (ih d _ _ _ (o _ (PX c)) λp k3=>#[#[_,rfl],?_,k2.trans k3])),λz=>by cases z]
    rw[List.replicate_succ']
   ·rintro j h S2 ⟨_,rfl,k2⟩;rw[Pi];show#[few (by rw[VQ];show hl),ac (a:=(.bl true,S2++[.lst (PN ↥xs (.bl true))])) ?_ (k _ (k2.trans .push))]
    (delta Bi.fn Dm;simp only[az ak,ni,P3,EG])
  |non=>
   show aU λK hK=>m6 (λQ q=>q) λe _ b=>st ?_
   delta wS wE wV wG;show ac (show b9 .is .non .non S=ba (.bl true,S)from rfl) (b _ _ (k _ .refl))
  |_=>show hw.elim
abbrev vt:Ss:=
 #v[.ite (.cmp .gt (.v 2) (.v 3)) #v[.ret (.ix (.ix (.ix (.v 1) (.v 2)) (.c (.int 1))) (.v 3))] .nil,.ret (.ix (.ix (.ix (.v 0) (.c (.int 1))) (.ix (.ix (.ix (.v 1) (.v 3)) (.c (.int 1))) (.v 2))) (.c (.int 1)))]
abbrev c8:Ss:=
 #v[.ret (.tup #v[.ix (.ix (.v 1) (.v 3)) (.c (.int 0)),.bi .tuple #v[.comp (.own "way" 4 #v[.v 3,.v 4,.v 2,.v 1]) (.nm 1) (.seq (.v 2)) .nil [gV,gV,ba 3,ba 0,ba 1]]])]
def Ba {a:OH}{Q:QO}(r:GoodB bs)(hl:↥ns=↥bs)(m:GoodW a ↥bs u)(hi:i<↥u)(o:j<↥u)(w:i≠j)(k:Q (.rt (.int (cj bs u i j)),S)) :
  wZ M fuel vt [ba (.tup [m0,.tup (OO aw ns bs),b0]),ba (aM u),ba (.int i),ba (.int j)] S Q:=by
 have l:=aJ (d:=(0,[])) hi;have f:=aJ (d:=(0,[])) o;unfold cj at k;delta vt;nofun
 delta wS wT wE wV wG Nr wO wB aM;show ar (Q0:=Q) (λh p _ x=>?_) (λh p g _=>?_)
 ·have c:j<i:=by have:=PC h;omega
  rw[OZ c]at k;have hw:j<(u.getD i (0,[])).2.length:=by rw[m.len i _ l];show c
  show st ?_;delta wS wE wV wG;show ap (PD i) (m9 hi) (ap #v[] rfl (ap (PD j) ?_ (x _ _ k)))
  rw[Pi,OY,aJ (d:=0) hw];rfl
 ·have c:¬ j<i:=by have:=SH h;omega
  rw[Pd c]at k;show cM (g _ _ (hK _ _ ?_));clear g hK;have hw:i<(u.getD j (0,[])).2.length:=by rw[m.len j _ f];omega
  have n:=aJ (d:=0) hw;obtain⟨q,y⟩:=m.way j _ f _ (O7 n);obtain⟨b,e,s,t⟩:=r.rng ((u.getD j (0,[])).2.getD i 0).toNat ∅
  have g:((u.getD j (0,[])).2.getD i 0).toNat<↥ns:=∅
  rw[getD_some e]at k;show st ?_;delta wS wE wV wG;show ap #v[] rfl (ap (PD j) (m9 o) (ap #v[] rfl (ap (PD i) ?_ (ap q (tq (ON g) e) (ap #v[] rfl k)))))
  rw[Pi,OY,n];rfl
structure Parts (defs:Ow (OM×Df)):Prop where
 way:Is defs ("way": OM) 4 4 vt
 over:Is defs ("point_over": OM) 4 4 c8
def LO (P:Parts defs){a:OH}(e:GoodB bs)(hl:↥ns=↥bs)(g:GoodW a ↥bs u)(hi:i<↥u)(f:j<↥u)(b:i≠j)(k:Q (.int (cj bs u i j),S)) :
  wO (aY (ae defs fuel (d+1)) "way" 4 [.tup [m0,.tup (OO aw ns bs),b0],aM u,.int i,.int j] S) Q:=
 aF P.way rfl rfl λh c=>Ba e hl g hi f b (c _ _ k)
def IV (P:Parts defs){a:OH}{ps:Ow OH}(s:GoodB bs)(hl:↥ns=↥bs)(t:GoodW a ↥bs u)(f:∀p∈ps,p<↥u/\i≠p)(hi:i<↥u)(hsz:↥ps<=1000)(k:∀S',Ka S S'->Q (b7 ((u.getD i (0,[])).1,ps.map λq=>cj bs u i q),S')) :
  wO (aY (ae defs fuel (d+2)) "point_over" 4 [.tup [m0,.tup (OO aw ns bs),b0],aM u,.tup (aG ps),.int i] S) Q:=by
 show aF P.over rfl rfl λm n=>?_
 replace k:∀S',Ka S S'->m (.rt (b7 ((u.getD i (0,[])).1,ps.map λq=>cj bs u i q)),S'):=λS' a=>n _ _ (k S' a)
 clear n;change wZ _ _ c8 [ba (.tup [m0,.tup (OO aw ns bs),b0]),ba (aM u),ba (.tup (aG ps)),ba (.int i)] S m;generalize e:W.tup [m0,.tup (OO aw ns bs),b0]=R;delta c8;show st ?_;left;show ap (PD i) (m9 hi) (ap #v[] rfl ?_)
 show vc (aG ps) (λj l b S2=>(∃c,b=[gV,c,ba (.int i),ba R,ba (aM u)])/\l=(ps.take j).map (λq=>W.int (cj bs u i q))/\Ka S S2) rfl rfl rfl #[rfl,#[gV,rfl],rfl,.refl] ?_ ?_
 ·rintro j w l b S2 hw ⟨⟨c,rfl⟩,rfl,k2⟩;unfold aG at hw;rw[OY,OG]at hw;obtain⟨q,r,rfl⟩:=hw;obtain⟨h,g⟩:=f q (O7 r);show ac (show sQ (.nm 1) (.int (q:O8)) [gV,c,ba (.int i),ba R,ba (aM u)] S2=ba ([gV,ba (.int (q:O8)),ba (.int i),ba R,ba (aM u)],S2)from rfl) ?_
  delta oZ wC wE wA wV wG;subst e;show#[λ_=>LO (d:=d) P s hl t hi h g #[#[_,rfl],?_,k2],λz=>by cases z]
  rw[Rg,r];simp
 ·rintro l b S2 ⟨_,rfl,k2⟩;rw[show(aG ps).length=↥ps from OC ..,RV]
  show#[few (by rw[OC];show hsz),fu ak ?_]
  have:=k _ (k2.trans (Ka.push (o:=O.lst (ps.map λq=>W.int (cj bs u i q)))))
  unfold b7 at this;rw[QR]at this;show this
def F7 {a :E}(f:∀Q:QW,Q (.int x,S)->wE M a Z S Q)(g:∀Q:QW,Q (.int y,S)->wE M b Z S Q)(d : -(2^64)<y)(e:y<2^64)(q:Q (.int (x*y),S)):wE M (.op .mul a b) Z S Q:=by
 have c:jm .mul (.int x) (.int y) S=ba (.int (x*y),S):=u4 d e;delta wE;show f _ ?_;show g _ ?_;dsimp only;rw[c];show q
abbrev qZ (bs:Ow O8)(v:Wd)(ps:Ow OH)(i:OH):Pt:=((v.getD i (0,[])).1,ps.map λq=>cj bs v i q)
abbrev aI (n:OH)(os:Ow (Ow OH)):Ow (Ow OH):=os.flatMap λo=>((Pj n).filter λp=>decide (p∉o)).map λp=>o++[p]
def jM (bs:Ow O8)(v:Wd)(o:Ow OH)(p:OH):aB bs v (o++[p])=aB bs v o++[qZ bs v o p]:=by
 unfold aB qZ;rw[OL,T5,X6,PP];congr 1
 ·show QX λk hk=>?_
  have hk:=Pn.mp hk;rw[show(o++[p]).getD k 0=o.getD k 0 by simp[PH hk],Ul (by show Q1 ‹_›)]
 ·simp
def jb :∀os:Ow (Ow OH),(aI n os).length<=↥os*n
 |[]=>by simp[aI]
 |o::os=>by
  have ih:=jb (n:=n) os;unfold aI at ih ⊢;rw[List.flatMap_cons,OL,OC,Po,YS];have:=SN (λp=>decide (p∉o)) (Pj n)
  rw[Qg]at this;omega
def xA {os:Ow (Ow OH)}:(aI n (os.take i)).length<=↥os*n:=by
 show OQ (jb _) (Wb _ ?_);rw[Py];omega
def gk {f:W->W->Oz O6}{a :O6}(h:f x y=ba a)(d:fA f xs c=ba b):fA f (x::xs) (y::c)=ba (a&&b):=by
 show(match f x y,fA f xs c with
  |some a,ba b=>ba (a&&b)
  |_,_=>gV)=_
 rw[h,d]
def nj :∀xs a:Ow O8,fA (jS S d) (xs.map W.int) (a.map W.int)=ba (decide (xs=a))
 |[],[]=>rfl
 |[],_::_=>rfl
 |_::_,[]=>rfl
 |x::xs,y::a=>by
  have e:jS S d (.int x) (.int y)=ba (x==y):=by cases d<;>rfl
  rw[PK,PK,gk e (nj xs a)]
  by_cases h:x=y
  ·subst h;by_cases b:xs=a<;>simp[b]
  ·have h':(x==y)=false:=by simpa using h
   simp[h,h']
def Bb (p q:Pt):jS S (d+2) (b7 p) (b7 q)=ba (decide (p=q)):=by
 obtain⟨m,ws⟩:=p;obtain⟨b,a⟩:=q;change fA _ _ _=_;have e:jS S (d+1) (.int m) (.int b)=ba _:=rfl;have c:jS S (d+1) (.tup _) (.tup _)=ba _:=nj ws a;rw[gk e (gk c rfl)]
 by_cases h:m=b
 ·subst h;by_cases f:ws=a<;>simp[f]
 ·have h':(m==b)=false:=by simpa using h
  simp[h,h']
def lU :∀u v:Wd,fA (jS S (d+2)) (u.map b7) (v.map b7)=ba (decide (u=v))
 |[],[]=>rfl
 |[],_::_=>rfl
 |_::_,[]=>rfl
 |x::xs,y::a=>by
  rw[PK,PK,gk (Bb x y) (lU xs a)]
  by_cases h:x=y
  ·by_cases b:xs=a<;>simp[b]
  ·simp[h]
def LP {p :Pt}:b9 .eq (b7 p) (b7 q) S=ba (.bl (decide (p=q)),S):=by
 show(jS S (18+2) (b7 p) (b7 q)).map _=_;rw[Bb];rfl
def Bc :b9 .eq (aM u) (aM v) S=ba (.bl (decide (u=v)),S):=by
 show(fA _ _ _).map _=_;rw[lU];rfl
def q8 {p:OH}:∀ps:Ow OH,((aG ps).any λz=>C6 z (.int p))=decide (p∈ps)
 |[]=>rfl
 |q::ps=>by
  show(q==(p:O8)||(aG ps).any _)=_
  rw[q8 ps]
  by_cases h:q=p
  ·subst h;simp
  ·have a:(q==(p:O8))=false:=by simp;omega
   have b:¬ p=q:=λe=>h e.symm
   rw[a];simp[b]
def xB (ps:Ow OH):(aG ps).all cm=true:=by
 rw[OT];intro x a;obtain⟨p,_,rfl⟩:=O0.mp a;rfl
def Bd {p:OH}{ps:Ow OH}:b9 .notin (.int p) (.tup (aG ps)) S=ba (.bl (decide (p∉ps)),S):=by
 change eO _ _ _ S=_;have hf:(cm (.int p)&&(aG ps).all cm)=true:=by rw[xB];rfl
 show(Ee (Io rfl hf (q8 ps))).trans ?_;congr 3
 by_cases h:p∈ps<;>simp[h]
def Be :gB xs gV (ba (-1))=xs.dropLast:=by
 unfold gB;rw[HT.ip,UR,Xg,List.dropLast_eq_take];congr 1;show(if (-1:O8)<0 then((-1:O8)+(↥xs:O8)).toNat else min (-1:O8).toNat ↥xs)=_
 rw[OZ #v[]];omega
def xC (ps:Ow OH):(aG ps).dropLast=aG ps.dropLast:=by unfold aG;rw[List.map_dropLast]
def EI {ps:Ow OH}(h:ps≠[]):mL (.tup (aG ps)) (.int (-1)) S=ba (.int (ps.getLastD 0),S):=by
 have hl:(aG ps).length=↥ps:=OC ..;have b:0<↥ps:=Wq.mpr h;have hs:uc (aG ps).length (-1)=ba (↥ps-1):=by
  rw[hl];unfold uc;rw[Pd #v[]]
  show(OZ ∅).trans (by congr 1;omega)
 have a:(aG ps)[↥ps-1]?=ba (.int (ps.getLastD 0:OH)):=by
  show o5 ?_;rw[List.getLastD_eq_getLast?,List.getLast?_eq_getElem?];have:↥ps-1<↥ps:=∅
  simp[this]
 (delta mL yO nL;revert hs a Ro P3)
abbrev aE:Ss:=
 #v[.set 2 (.lst .nil),.loop (.nm 3) (.seq (.v 0)) #v[.ex (.me .extend (.v 2) #v[.comp (.op .add (.v 2) (.tup #v[.v 1])) (.nm 1) (.rng #v[.v 1]) #v[.cmp .notin (.v 1) (.v 2)] [gV,gV,ba 3]])],.ret (.v 2)]
abbrev cR (os:Ow (Ow OH)):Ow W:=os.map λo=>.tup (aG o)
def IW { a:Ow W}(h:S[t]?=ba (.lst xs))(b:S[l]?=ba (.lst a))(hl:↥xs+↥a<=1000000)(q:Q (.non,S.set t (.lst (xs++a)))):wO (Me.extend.fn (.ref t) [.ref l] S) Q:=by
 show ac ?_ q;unfold Me.fn kv;dsimp only
 rw[dI h,dI b];dsimp only
 rw[OZ (by rw[Qc];show OQ ‹_› (OP rfl))]
def jc (h:n<=1000000):n<=sizeLine:=by rw[Qc];show OQ ‹_› (OP rfl)
def Bf (E:Is defs ("longer_orders") 2 4 aE){os:Ow (Ow OH)}(e:S[l]?=ba (.lst (cR os)))(B:n<=100)(r:∀o∈os,↥o<=100)(J:↥os*n<=100000)
  (k:∀ q S',S'[q]?=ba (.lst (cR (aI n os)))->↥S<=q->Ka S S'->Q (.ref q,S')) :
  wO (aY (ae defs fuel (d+1)) "longer_orders" 2 [.ref l,.int n] S) Q:=by
 show aF E rfl rfl λL D=>?_
 replace k:=λa b c e f=>D _ _ (k a b c e f)
 have G:=qK e;show st ?_;left;nofun
 show Eu l (cR os) (λi Z S'=>(∃t,Z=[ba (.ref l),ba (.int n),ba (.ref ↥S),t])/\S'[l]?=ba (.lst (cR os))/\S'[↥S]?=ba (.lst (cR (aI n (os.take i))))/\Ka S S') rfl rfl #[rfl,#[gV,rfl],aV e,ak,.push] (λi Z S' h=>h.2.1) ?_ ?_
 ·rintro i w Z S1 hw ⟨⟨t,rfl⟩,y,g,k1⟩;unfold cR at hw;rw[OY,OG]at hw;obtain⟨o,C,rfl⟩:=hw;have r:=r o (O7 C);show ac rfl ?_;intro M B _;show st ?_;left;show#[jI g,?_];show iV n (λj v s S2=>(∃x,s=[gV,x,ba (.tup (aG o))])/\v=cR (((Pj j).filter λp=>decide (p∉o)).map λp=>o++[p])/\S2=S1) rfl rfl rfl ∅ #[rfl,#[gV,rfl],rfl,rfl] ?_ ?_
  ·rintro j v s S2 N ⟨⟨x,rfl⟩,rfl,rfl⟩;delta oZ wE wA wV wG OJ;show ac Bd ?_;delta wB;have z:(Pj (j+1)).filter (λp=>decide (p∉o))=(Pj j).filter (λp=>decide (p∉o))++(if j∉o then[j]else[]):=by
    rw[X6,UX];congr 1
    by_cases h:j∈o<;>simp[h]
   show#[λh=>?_,λh=>#[#[_,rfl],?_,rfl]]
   ·have h:=PC h;show ac (dj (jc (by rw[OL,show(aG o).length=↥o from OC ..];show _+1<=_;omega))) #[#[_,rfl],?_,rfl]
    rw[z,OZ h,PP];unfold cR;simp[aG]
   ·have h:=SH h;rw[z,Pd h,Ql]
  ·rintro v s S2 ⟨_,rfl,rfl⟩;rw[Pi];have A:(cR (((Pj n).filter λp=>decide (p∉o)).map λp=>o++[p])).length<=n:=by
    unfold cR;rw[OC,OC];show OQ (SN _ _) (by rw[Qg];show OR _)
   have m:=aV (u:=O.lst (cR (((Pj n).filter λp=>decide (p∉o)).map λp=>o++[p]))) g
   have H:=xA (n:=n) (os:=os) (i:=i);have I:(cR (aI n (os.take i))).length=(aI n (os.take i)).length:=OC ..;show#[jc ∅,IW m ak ∅ (cM (B _ _ #[#[_,rfl],?_,?_,(k1.trans .push).late (OR _)]))]
   ·rw[iO (by show PZ ‹_›)];show aV y
   ·rw[fR m];unfold aI cR;rw[Rg,C];simp
 ·rintro Z S1 ⟨⟨t,rfl⟩,y,g,k1⟩;rw[show(cR os).length=↥os from OC ..,RV]at g
  show hK _ _ (st (k _ _ g (OR _) k1))
def IX (h:S[t]?=ba (.lst xs))(hl:↥xs<1000000)(q:Q (.non,S.set t (.lst (xs++[y])))):wO (Me.append.fn (.ref t) [y] S) Q:=ac (FY h (by rw[Qc];omega)) q
def q9:∀{us vs:Ow Wd},us.map bI=vs.map bI->us=vs
 |[],[],_=>rfl
 |[],_::_,h=>by cases h
 |_::_,[],h=>by cases h
 |x::xs,y::a,h=>by
  simp only[PK,XV]at h;rw[gj h.1,q9 h.2]
def rh:∀xs:Ow O8,b8 (xs.map T.int)=true
 |[]=>rfl
 |_::xs=>rh xs
def kF:∀u:Wd,b8 (u.map gF)=true
 |[]=>rfl
 |p::u=>by
  revert PK b8 OE;show#[?_,kF u];simp[gF,dA,b8,rh]
def eY (u:Wd):dA (bI u)=true:=kF u
def fT {us:Ow Wd}(h:us.Nodup):Nice (us.map bI):=by
 show#[λx b=>?_,d8 us,?_]
 ·obtain⟨u,_,rfl⟩:=O0.mp b;show eY u
 ·rw[RZ,QZ];show h.imp λa e=>a (gj e)
def jN :(fv us).map bI=uG (us.map bI):=by
 unfold fv uG;rw[qV (d:=[])]
def o8 {α:Type}(L:Ow α)(f:α->W)(p:α->O6)(g:α->W)(a:Fm->Prop)(n:α->Fm)(v:∀x Z S,a Z->sQ tg (f x) Z S=ba (n x,S)/\a (n x))(D:ci b=true)(oc:rM m=true)(hc:a (cr j Z))(hl:↥L<=1000000)(hi:iK M it Z S=ba (mi,S1))(k1:Ka S S1)(o:∀i S',Ka S1 S'->mi.at S' i=ba (L.map f)[i]?)(B:mi.len S1=ba (L.map f).length)
  (d:∀x∈L,∀S',Ka S S'->oZ M b m (n x) S' (λy _ S2=>p x=true/\y=g x/\Ka S' S2) (λ_ S2=>p x=false/\Ka S' S2))
  (k:∀S',Ka S S'->Q (.ref ↥S',S'++[.lst ((L.filter p).map g)])):Wp (aA M (.comp b tg it m j) Z S) Q:=by
 rw[At];show#[_,hi,_,B,?_];show(c6 (xs:=L.map f) (Q:=λq=>↥q.1<=sizeLine/\Q (.ref ↥q.2,q.2++[.lst q.1])) (λi l e S'=>a e/\l=((L.take i).filter p).map g/\Ka S1 S') (λi l e S' h=>o i S' h.2.2) (λi w l e S' hw h=>?_) (λl e S' h=>?_) (L.map f).length 0 [] _ S1 ∅ #[hc,rfl,.refl]).mono λq C=>by simpa using C
 ·obtain⟨A,rfl,k2⟩:=h;rw[OY,OG]at hw;obtain⟨x,r,rfl⟩:=hw;obtain⟨u,t⟩:=v x e S' A;show#[_,u,?_];show(F6 oc (d x (O7 r) S' (k1.trans k2))).mono λc hc=>#[λz=>(aR b D (hc.1 z)).mono λy s=>#[t,?_,k2.trans s.2.2],λz=>#[t,?_,k2.trans (hc.2 z).2]]
  ·rw[Rg,r,UX,show(YL (ba x)).filter p=[x]from List.filter_cons_of_pos s.1,PP,s.2.1];rfl
  ·rw[Rg,r,UX,show(YL (ba x)).filter p=[]from List.filter_cons_of_neg (by rw[(hc.2 z).1];show P2),Ql]
 ·obtain⟨_,rfl,k2⟩:=h;dsimp only;rw[show(L.map f).length=↥L from OC ..,RV]
  show#[jc ?_,k S' (k1.trans k2)];rw[OC];show OQ (SN _ _) hl
def Bg {α:Type}{d:Ow (Oz OH)}(L:Ow α)(f:α->W)(p:α->O6)(g:α->W)(R:Fm)(n:ci b=true)(oc:rM j=true)(hc:cr d Z=gV::gV::R)(hl:↥L<=1000000)(hi:iK M it Z S=ba (mi,S1))(k1:Ka S S1)(l:∀i S',Ka S1 S'->mi.at S' i=ba (L.map f)[i]?)(m:mi.len S1=ba (L.map f).length)
  (c:∀x∈L,∀S',Ka S S'->oZ M b j (gV::ba (f x)::R) S' (λy _ S2=>p x=true/\y=g x/\Ka S' S2) (λ_ S2=>p x=false/\Ka S' S2))
  (k:∀S',Ka S S'->Q (.ref ↥S',S'++[.lst ((L.filter p).map g)])):Wp (aA M (.comp b (.nm 1) it j d) Z S) Q:=
 o8 L f p g (λZ=>∃a,Z=gV::a::R) (λx=>gV::ba _::R) (λ_ _ _ h=>let ⟨_,e⟩:=h;e ▸ #[rfl,_,rfl]) n oc #[_,hc] hl hi k1 l m c k
def IY {α:Type}{a e:E}{d:Es}(L:Ow α)(f:α->W)(p:α->O6)(g:α->W)(R:Fm)(n:ci e=true)(m:ci a=true)(oc:rM d=true)(hc:cr c Z=gV::gV::R)(hl:↥L<=1000000)
  (l:wE M e Z S λq=>∃t,q.1=.ref t/\q.2[t]?=ba (.lst (L.map f))/\Ka S q.2)
  (b:∀x∈L,∀S',Ka S S'->oZ M a d (gV::ba (f x)::R) S' (λy _ S2=>p x=true/\y=g x/\Ka S' S2) (λ_ S2=>p x=false/\Ka S' S2))
  (k:∀S',Ka S S'->Q (.ref ↥S',S'++[.lst ((L.filter p).map g)])):Wp (aA M (.comp a (.nm 1) (.seq e) d c) Z S) Q:=by
 obtain⟨w,S1,j,t,rfl,ht,k1⟩:=bA n l;show Bg (mi:=.live t) L f p g R m oc hc hl (by simp only[iK,dg,j,az ht]) k1 (λi S' h=>by simp only[MI.at,az (h.get _ _ ht)]) (by simp only[MI.len,az ht,P3]) b k
def IZ {α:Type}{a e:E}{d:Es}(L:Ow α)(f:α->W)(p:α->O6)(g:α->W)(R:Fm)(l:ci e=true)(j:ci a=true)(oc:rM d=true)(hc:cr c Z=gV::gV::R)(hl:↥L<=1000000)
  (i:wE M e Z S λq=>q.1=.tup (L.map f)/\Ka S q.2)
  (b:∀x∈L,∀S',Ka S S'->oZ M a d (gV::ba (f x)::R) S' (λy _ S2=>p x=true/\y=g x/\Ka S' S2) (λ_ S2=>p x=false/\Ka S' S2))
  (k:∀S',Ka S S'->Q (.ref ↥S',S'++[.lst ((L.filter p).map g)])):Wp (aA M (.comp a (.nm 1) (.seq e) d c) Z S) Q:=by
 obtain⟨w,S1,h,rfl,k1⟩:=bA l i;show Bg (mi:=.its (L.map f)) L f p g R j oc hc hl (by revert iK dg h) k1 (λ_ _ _=>rfl) rfl b k
def rj (n:OH):gY 0 n=(Pj n).map λi=>W.int (i:OH):=by
 show QX λi _=>?_
 rw[VG]
def jd {α:Type}(L:Ow α):L.filter (λ_=>true)=L:=List.filter_eq_self.mpr λ_ _=>rfl
def Bh {a:Ow OM}:b9 .isin (.str y) (.tup (a.map W.str)) S=ba (.bl (decide (y∈a)),S):=by
 show(wb _ (.tup _) S).map (λk=>(W.bl k,S))=_
 delta wb dF;rw[OZ (by rw[qS];rfl),vm]
 rfl
abbrev xD (c:OH):O6:=decide (97<=c)&&decide (c<=122)
structure Asc (x:OM):Prop where
 lo:(x.cps.all λc=>decide (c<128))=true
 len:↥x<=1000
inductive Thg (S:aa):W->Prop
 |non:Thg S .non
 |bl {b:O6}:Thg S (.bl b)
 |int {i:O8}:Thg S (.int i)
 |str {x:OM} (h:Asc x):Thg S (.str x)
 |tup {xs:Ow W} (h:∀x∈xs,Thg S x) (hl:↥xs<=100):Thg S (.tup xs)
 |lst {l:OH} (h:∃xs,S[l]?=ba (O.lst xs)):Thg S (.ref l)
def Thg.mono (h:Thg S w)(k:∀l:OH,(∃xs,S[l]?=ba (O.lst xs))->∃xs,S'[l]?=ba (O.lst xs)):Thg S' w:=by
 induction h with
 |non=>show .non
 |bl=>show .bl
 |int=>show .int
 |str h=>show .str h
 |tup h hl ih=>show .tup ih hl
 |lst h=>show .lst (k _ h)
def Thg.ka (h:Thg S w)(k:Ka S S'):Thg S' w:=h.mono λ_ #[xs,e]=>#[xs,k.get _ _ e]
abbrev rm:W->O6|.tup _=>true|_=>false
abbrev cz:W->O6|.int _=>true|_=>false
abbrev xE:W->O6|.bl _=>true|_=>false
abbrev dv:W->O6|.str _=>true|_=>false
def kG (h:∃xs,S[l]?=ba (.lst xs))(hc:qv.contains c=true):oI S (.ref l) c=ba ("list" == c||("list" == "bool" && c == "int")):=by
 obtain⟨xs,e⟩:=h;have a:Mr S (.ref l)=ba "list":=by(delta Mr;simp only[az e])
 unfold oI;rw[a];show OZ hc
section
variable{w:W}
def Thg.t (h:Thg S w):oI S w "tuple" = ba (rm w):=by
 cases h with
 |lst h=>show kG h rfl
 |_=>rfl
def Thg.n (h:Thg S w):oI S w "int" = ba (cz w||xE w):=by
 cases h with
 |lst h=>show kG h rfl
 |_=>rfl
def Thg.b (h:Thg S w):oI S w "bool" = ba (xE w):=by
 cases h with
 |lst h=>show kG h rfl
 |_=>rfl
def Thg.s (h:Thg S w):oI S w "str" = ba (dv w):=by
 cases h with
 |lst h=>show kG h rfl
 |_=>rfl
end
def tD (L:Ow O6):eQ (L.map W.bl)=ba L:=by
 induction L with
 |nil=>rfl
 |cons b L ih=>rw[PK];delta eQ;rw[ih];rfl
def Ja {L:Ow O6}(h:S[l]?=ba (.lst (L.map W.bl)))(q:Q (.bl (L.all id),S)):wO (Bi.all.fn [.ref l] S) Q:=by
 show ac ?_ q
 (delta Bi.fn Dm;simp only[az h,tD,P3])
def Bj (h:↥y<=1000)(q:Q (.int ↥y,S)):wO (Bi.len.fn [.str y] S) Q:=by
 show ac  ?_ q;delta Bi.fn D9 sj;rw[OZ (OQ h #v[])]
section
variable (M:OM->FF) (Z:Fm)
abbrev Te (t:E)(S:aa)(c:O6):Prop:=∀Q:QB,(∀S',Ka S S'->Q (c,S'))->wT M t Z S Q
abbrev Ve (e:E)(S:aa)(w:W):Prop:=∀Q:QW,(∀S',Ka S S'->Q (w,S'))->wE M e Z S Q
end
section
variable{a b:E}{x y:O6}
def bF (d:Te M Z a S x)(e:x=false->∀S',Ka S S'->Te M Z b S' y):Te M Z (.or a b) S (x||y):=λQ k=>by
 show d _ λS' c=>#[λz=>?_,λz=>e z S' c _ λS2 k2=>?_]
 ·subst z;show k S' c
 ·subst z;show k S2 (c.trans k2)
def aO (b:Te M Z a S x):Te M Z (.not a) S (!x):=λQ k=>by
 show b _ k
def a7 (d:Ve M Z a S (.bl x))(e:x=true->∀S',Ka S S'->Ve M Z b S' (.bl y)):Ve M Z (.and a b) S (.bl (x&&y)):=λQ k=>by
 show d _ λS' c=>#[λz=>e z S' c _ λS2 k2=>?_,λz=>?_]
 ·subst z;show k S2 (c.trans k2)
 ·subst z;show k S' c
def eZ {f:OM}{es:Es}(h:Ve M Z (.own f n es) S (.bl x)):Te M Z (.own f n es) S x:=λQ k=>h (λq=>wO _ λk=>Q _) λS' a=>k S' a
def je {f:Bi}{es:Es}(h:Ve M Z (.bi f es) S (.bl x)):Te M Z (.bi f es) S x:=λQ k=>h (λq=>wO _ λk=>Q _) λS' a=>k S' a
def cC (h:Ve M Z (.cmp o a b) S (.bl x)):Te M Z (.cmp o a b) S x:=λQ k=>by
 have:=h (λr=>wB r.1 λk=>Q (k,r.2)) λS' c=>k S' c
 show this
def dT (b:∀Q:QW,Q (w,S)->wE M a Z S Q)(h:oI S w c=ba x):Ve M Z (.isi c a) S (.bl x):=λQ k=>by
 show b _ (ac h (k S .refl))
def ig {  r:W}(c:∀Q:QW,Q (v,S)->wE M a Z S Q)(d:∀Q:QW,Q (w,S)->wE M b Z S Q)(h:b9 o v w S=ba (r,S)):Ve M Z (.cmp o a b) S r:=λQ k=>by
 show c _ (d _ (ac h (k S .refl)))
def jO {d:E}{i  :O8}{p:O8->O8->O6}(c:∀Q:QW,Q (.int i,S)->wE M a Z S Q)(e:∀Q:QW,Q (.int j,S)->wE M b Z S Q)(hd:∀Q:QW,Q (.int n,S)->wE M d Z S Q)(f:eO o (.int j) (.int n) S=ba (.bl (p j n),S)):Ve M Z (.chn .le o a b d) S (.bl (decide (i<=j)&&p j n)):=λQ k=>by
 delta wE;show c _ (e _ ?_);show ac (show yM .le (.int i) (.int j) S=ba (decide (i<=j))from rfl) #[λz=>hd _ (ac f ?_),λz=>?_]
 ·rw[z,Qw]at k;show k S .refl
 ·rw[z,Sj]at k;show k S .refl
def o9 {d:E}{i  :O8}{p:O8->O8->O6}(c:∀Q:QW,Q (.int i,S)->wE M a Z S Q)(e:∀Q:QW,Q (.int j,S)->wE M b Z S Q)(hd:∀Q:QW,Q (.int n,S)->wE M d Z S Q)(f:eO o (.int j) (.int n) S=ba (.bl (p j n),S)):Te M Z (.chn .le o a b d) S (decide (i<=j)&&p j n):=λQ k=>by
 show c _ (e _ ?_);show ac (show yM .le _ _ S=ba (decide _)from rfl) #[λz=>hd _ (ac f ?_),λz=>?_]
 ·rw[z,Qw]at k;show k S .refl
 ·rw[z,Sj]at k;show k S .refl
def dJ (h:x=c)(k:Ve M Z a S (.bl x)):Ve M Z a S (.bl c):=h▸k
def gP (h:x=c)(k:Te M Z a S x):Te M Z a S c:=h▸k
def cN :Ve M Z (.c w) S w:=λQ k=>k S .refl
def nk (h:∀Q:QW,Q (w,S)->wE M a Z S Q):Ve M Z a S w:=λQ k=>h Q (k S .refl)
def cL { e:E}{K:Fm->aa->Prop}{Q:QO}(ht:Te M Z t S x)(f:x=true->∀S',Ka S S'->Ve M Z e S' w/\∀S2,Ka S' S2->Q (.rt w,S2))(hk:x=false->∀S',Ka S S'->K Z S'):wS M fuel (.ite t #v[.ret e] .nil) Z S K Q:=by
 delta wS;show ht _ λS' a b c d=>#[λz=>?_,λz=>(cM (c _ _ (hk z S' a))).out]
 obtain⟨v,q⟩:=f z S' a;show(st (Q:=b) ?_).out;delta wS;show v _ λS2 k2=>d (.rt w) S2 (λ_ z=>nomatch z) (q S2 k2)
def bC {e:E}{Q:QO}(h:Ve M Z e S w)(q:∀S',Ka S S'->Q (.rt w,S')):wZ M fuel (.cons (.ret e) ss) Z S Q:=by
 show st ?_;show h _ q
def j6 {e:E}{Q:QO}(h:Ve M Z e S w)(q:∀S',Ka S S'->wZ M fuel ss (Z.set i (ba w)) S' Q):wZ M fuel (.cons (.set i e) ss) Z S Q:=by
 nofun
 delta wS;show h _ λS' k=>hK _ _ (q S' k)
def jP {α:Type}{e:Ow (Oz OH)}(L:Ow α)(f:α->W)(c:α->O6)(a:Fm->Prop)(g:α->Fm)(l:∀x Z S,a Z->sQ tg (f x) Z S=ba (g x,S)/\a (g x))(o:ci b=true)(hc:a (cr e Z))(hl:↥L<=1000000)(hi:iK M it Z S=ba (mi,S1))(k1:Ka S S1)(h:∀i S',Ka S1 S'->mi.at S' i=ba (L.map f)[i]?)(m:mi.len S1=ba (L.map f).length)
  (d:∀x∈L,∀S',Ka S S'->Ve M (g x) b S' (.bl (c x))):Ve M Z (.bi .all #v[.comp b tg it .nil e]) S (.bl (L.all c)):=λQ k=>by
 left;show o8 L f (λ_=>true) (λx=>.bl (c x)) a g l o rfl hc hl hi k1 h m (λx n S' j=>?_) λS' j=>?_
 ·show#[λ_=>d x n S' j _ λS2 k2=>#[rfl,rfl,k2],λz=>by cases z]
 ·rw[jd];show Ja  (by rw[QR];show ak) ?_
  rw[W5];show k _ (j.trans .push)
def cf {α:Type}{ e:E}{g:Ow (Oz OH)}(L:Ow α)(f:α->W)(c:α->O6)(R:Fm)(l:ci e=true)(k:ci b=true)(hc:cr g Z=gV::gV::R)(hl:↥L<=1000000)
  (j:wE M e Z S λq=>q.1=.tup (L.map f)/\Ka S q.2)
  (d:∀x∈L,∀S',Ka S S'->Ve M (gV::ba (f x)::R) b S' (.bl (c x))):Ve M Z (.bi .all #v[.comp b (.nm 1) (.seq e) .nil g]) S (.bl (L.all c)):=by
 obtain⟨w,S1,i,rfl,k1⟩:=bA l j;show jP (mi:=.its _) L f c (λZ=>∃a,Z=gV::a::R) (λx=>gV::ba _::R) (λ_ _ _ h=>let ⟨_,e⟩:=h;e ▸ #[rfl,_,rfl]) k #[_,hc] hl (by revert iK dg i) k1 (λ_ _ _=>rfl) rfl d
def Bk {α:Type}{ e:E}{g:Ow (Oz OH)}(L:Ow α)(f:α->W)(c:α->O6)(R:Fm)(m:ci e=true)(l:ci b=true)(hc:cr g Z=gV::gV::R)(hl:↥L<=1000000)
  (k:wE M e Z S λq=>∃t,q.1=.ref t/\q.2[t]?=ba (.lst (L.map f))/\Ka S q.2)
  (d:∀x∈L,∀S',Ka S S'->Ve M (gV::ba (f x)::R) b S' (.bl (c x))):Ve M Z (.bi .all #v[.comp b (.nm 1) (.seq e) .nil g]) S (.bl (L.all c)):=by
 obtain⟨w,S1,j,t,rfl,ht,k1⟩:=bA m k;show jP (mi:=.live t) L f c (λZ=>∃a,Z=gV::a::R) (λx=>gV::ba _::R) (λ_ _ _ h=>let ⟨_,e⟩:=h;e ▸ #[rfl,_,rfl]) l #[_,hc] hl (by simp only[iK,dg,j,az ht]) k1 (λi S' h=>by simp only[MI.at,az (h.get _ _ ht)]) (by simp only[MI.len,az ht,P3]) d
def Bl { e:E}{f:Ow (Oz OH)}(x:OM)(c:OH->O6)(R:Fm)(m:ci e=true)(l:ci b=true)(hc:cr f Z=gV::gV::R)(hl:↥x.cps.toList<=1000000)(i:(x.cps.all λc=>decide (c<128))=true)
  (j:wE M e Z S λq=>q.1=.str x/\Ka S q.2)
  (d:∀k∈x.cps.toList,∀S',Ka S S'->Ve M (gV::ba (.str #[[k].toArray])::R) b S' (.bl (c k))):Ve M Z (.bi .all #v[.comp b (.nm 1) (.seq e) .nil f]) S (.bl (x.cps.toList.all c)):=by
 obtain⟨w,S1,g,rfl,k1⟩:=bA m j;show jP (mi:=.its _) _ (λc=>W.str #[[c].toArray]) c (λZ=>∃a,Z=gV::a::R) (λc=>gV::ba _::R) (λ_ _ _ h=>let ⟨_,e⟩:=h;e ▸ #[rfl,_,rfl]) l #[_,hc] hl (by revert iK dg g i QY) k1 (λ_ _ _=>rfl) rfl d
def Jb { e:E}{f:Ow (Oz OH)}(n:OH)(c:OH->O6)(R:Fm)(m:ci e=true)(l:ci b=true)(hc:cr f Z=gV::gV::R)(hl:n<=1000000)
  (j:wE M e Z S λq=>q.1=.int n/\Ka S q.2)
  (d:∀x<n,∀S',Ka S S'->Ve M (gV::ba (.int x)::R) b S' (.bl (c x))):Ve M Z (.bi .all #v[.comp b (.nm 1) (.rng #v[e]) .nil f]) S (.bl ((Pj n).all c)):=by
 obtain⟨w,S1,g,rfl,k1⟩:=bA m j;show jP (mi:=.its _) (Pj n) (λi=>W.int i) c (λZ=>∃a,Z=gV::a::R) (λx=>gV::ba _::R) (λ_ _ _ h=>let ⟨_,e⟩:=h;e ▸ #[rfl,_,rfl]) l #[_,hc] (by rw[Qg];show hl) ?_ k1 (λi S' _=>by rw[<- rj];rfl) (by rw[<- rj];rfl) (λx k=>d x (Pn.mp k))
 revert iK bP dH km qt g;rw[OZ #[∅,∅]];rfl
def Bm {α:Type}{d e:E}(L:Ow α)(f:α->W)(c:OH->α->O6)(R:Fm)(r:ci e=true)(o:ci d=true)(hc:cr j Z=gV::gV::gV::R)(hl:↥L<=1000000)
  (m:wE M e Z S λq=>q.1=.tup (L.map f)/\Ka S q.2)
  (g:∀(i:OH) x,L[i]?=ba x->∀S',Ka S S'->Ve M (gV::ba (.int i)::ba (f x)::R) d S' (.bl (c i x))):Ve M Z (.bi .all #v[.comp d (.tp [1,2]) (.enu #v[e]) .nil j]) S (.bl (L.zipIdx.all λp=>c p.2 p.1)):=by
 obtain⟨w,S1,l,rfl,k1⟩:=bA r m;have k:L.zipIdx.map (λp=>W.tup [.int (p.2),f p.1])=qC (L.map f):=by
  unfold qC;rw[List.zipIdx_map,QR];rfl
 show jP (mi:=.its (qC (L.map f))) L.zipIdx (λp=>W.tup [.int (p.2),f p.1]) (λp=>c p.2 p.1) (λZ=>∃a b,Z=gV::a::b::R) (λp=>gV::ba _::ba _::R) (λ_ _ _ h=>let ⟨_,_,e⟩:=h;e ▸ #[rfl,_,_,rfl]) o #[_,_,hc] (by rw[WL];show hl) (by revert iK bP dH km D7 l HP) k1 (λi S' _=>by rw[k];rfl) (by rw[k];rfl) (λp n=>g p.2 p.1 ?_)
 show(Uw.mp n)
def Jc {α:Type}{d  :E}{k:Ow (Oz OH)}(L:Ow α)(f g:α->W)(c:α->O6)(R:Fm)(t:ci a=true)(u:ci b=true)(y:ci d=true)(hc:cr k Z=gV::gV::gV::R)(hl:↥L<=1000000)(xs l:Ow W)(m:iJ xs l=L.map λx=>W.tup [f x,g x])
  (s:wE M a Z S λq=>wE M b Z q.2 λn=>q.1=.tup xs/\n.1=.tup l/\Ka S n.2)
  (j:∀x∈L,∀S',Ka S S'->Ve M (gV::ba (f x)::ba (g x)::R) d S' (.bl (c x))):Ve M Z (.bi .all #v[.comp d (.tp [1,2]) (.zip #v[a,b]) .nil k]) S (.bl (L.all c)):=by
 obtain⟨w,z,o,r⟩:=bA t s;obtain⟨w2,S1,p,rfl,rfl,k1⟩:=bA u r;show jP (mi:=.its (iJ xs l)) L (λx=>W.tup [f x,g x]) c (λZ=>∃a b,Z=gV::a::b::R) (λx=>gV::ba _::ba _::R) (λ_ _ _ h=>let ⟨_,_,e⟩:=h;e ▸ #[rfl,_,_,rfl]) y #[_,_,hc] hl (by revert iK bP dH km Ad o p HP) k1 (λi S' _=>by rw[<- m];rfl) (by rw[<- m];rfl) j
end
def Jd:∀k:Fin 128,(!(TJ "abcdefghijklmnopqrstuvwxyz" #[[k.val].toArray] 0 ("abcdefghijklmnopqrstuvwxyz": OM).length 1).isEmpty)=xD k.val:=by decide +kernel
def EJ (h:c<128):b9 .isin (.str #[[c].toArray]) (.str "abcdefghijklmnopqrstuvwxyz") S=ba (.bl (xD c),S):=by
 rw[<- Jd #[c,h]];rfl
abbrev xH (x:OM):O6:=x.cps.toList.all xD
def Je {a:OH}(g:GoodB bs)(c:GoodW a ↥bs v)(hi:i<↥v)(l:j<↥v)(k:i≠j):0<=cj bs v i j/\cj bs v i j<(↥bs):=by
 unfold cj
 by_cases h:j<i
 ·rw[OZ h];have b:=aJ (d:=(0,[])) hi;have hw:j<(v.getD i (0,[])).2.length:=by rw[c.len i _ b];show h
  show c.way i _ b _ (O7 (aJ  hw))
 ·rw[Pd h];have b:=aJ (d:=(0,[])) l;have hw:i<(v.getD j (0,[])).2.length:=by rw[c.len j _ b];omega
  obtain⟨e,f⟩:=c.way j _ b _ (O7 (aJ  hw));show(g.at e f).2
def xI {a:OH}{ps:Ow OH}(n:GoodB bs)(l:GoodW a ↥bs v)(c:∀p∈ps,p<↥v)(g:ps.Nodup):GoodW a ↥bs (aB bs v ps):=by
 have b:∀k q,(aB bs v ps)[k]?=ba q->∃hk:k<↥ps,q=((v.getD _ _).1,(ps.take k).map λj=>cj bs v _ j):=λk q e=>by
  have hk:=by
   have:=(OS.mp e).1;rw[bD]at this;show this
  show#[hk,?_];unfold aB at e;rw[OY,Tj hk,P3,show ps.getD k 0=ps[k] by simp[hk]]at e
  show(PR e).symm
 show#[λk q e=>?_,λk q e=>?_,λk q e=>?_]
 ·obtain⟨hk,rfl⟩:=b k q e;have:=l.mark _ _ (aJ (d:=(0,[])) (c _ (PX hk)));show this
 ·obtain⟨hk,rfl⟩:=b k q e;rw[OC,Py];omega
 ·obtain⟨hk,rfl⟩:=b k q e;intro w hw;obtain⟨j,i,rfl⟩:=O0.mp hw;have f:=Rw i;show Je n l (c _ (PX hk)) (c _ f) λe=>?_
  obtain⟨m,o,h⟩:=Rv.mp i;rw[Py]at o;rw[Vc]at h;have:=(Si g).mp (e.trans h.symm);omega
def Jf (hd:Is defs ("_law_flow") 1 1 hZ){ns:Ow O8}(b:S[u]?=ba (.fro (ns.map W.int)))(k:∀r S',Ka S S'->Fl S' r->Q (.ref r,S')) :
  wO (aY (ae defs fuel (d+1)) "_law_flow" 1 [.ref u] S) Q:=by
 show aF hd rfl rfl λc a=>?_
 show st ?_;left;have e:Bi.list.fn [.ref u] S=ba (.ref ↥S,S++[.lst (ns.map W.int)]):=by
  unfold Bi.fn;dsimp only
  unfold pN;dsimp only
  rw[show dF S (.ref u)=ba _ from Eg b]
 show ac e (a _ _ (k _ _ (Ka.push.trans .push) #[↥S,ns,0,0,1,0,?_,?_,?_,#v[],#v[],#v[],#v[]]))
 ·show ak
 ·show aV ak
 ·simp
def j7 {bt:OH->OH->O6}{N:OH}(b:∀i<N,bt i i=false)(d:∀i j k,i<N->j<N->k<N->bt i j=true->bt j k=true->bt i k=true):∀n,n<N->∀j≤n,bt j (argBest bt n)=false
 |0,a,j,g=>by
  obtain rfl:j=0:=∅
  show b 0 a
 |n+1,a,j,g=>by
  have ih:=j7 b d n ∅
  have h:=du bt n;revert argBest;cases c:bt _ (argBest bt n)with
  |true=>
   rw[OZ rfl]
   by_cases e:j=n+1
   ·subst e;show b _ a
   ·cases f:bt j _ with
    |false=>rfl
    |true=>
     have:=d j _ _ (by show SA ‹_› ‹_›) a ∅ f c
     rw[ih j ∅]at this;cases this
  |false=>
   by_cases e:j=n+1
   ·subst e;show c
   ·show ih j ∅
def rn (f:∀x∈ks,dA x=true)(hl:fq ks=true)(g:ks≠[]):∃x,ks[ju ks]?=ba x/\x∈ks/\∀y∈ks,dB y x=ba false:=by
 have r:=Wq.mpr g;have d:ju ks<↥ks:=by
  unfold ju;have:=du (ol ks) (↥ks-1);omega
 have a:∀i j hi b,dB _ _=ba (ol ks i j):=λi j hi b=>dc hl hi b
 have p:∀i<↥ks,ol ks i i=false:=λi hi=>by
  cases c:ol ks i i with
  |false=>rfl
  |true=>
   have e:=a i i hi hi;rw[c]at e;have:=jw _ _ (f _ (PX hi)) e;rw[e]at this;cases this
 have q:=j7   p (λi j k hi b hk m n=>by
  have h:=a i j hi b;have l:=a j k b hk;rw[m]at h;rw[n]at l;have:=oy _ _ _ (f _ (PX hi)) (f _ (PX b)) h l;rw[a i k hi hk]at this;show PR this) (↥ks-1) ∅
 show#[ks[ju ks],ON d,PX d,λy o=>?_]
 obtain⟨j,b,rfl⟩:=Rv.mp o;rw[a j _ b d];congr 1;show q j ∅
def vw (c:dA x=true)(a:dB x y=ba false)(b:dB y x=ba false):x=y:=by
 by_cases e:x=y
 ·show e
 ·rw[ow x y c e b]at a;cases a
def rq:∀{xs a as bs:Ow T},↥xs=↥a->bO xs a=ba true->bO (xs++as) (a++bs)=ba true
 |[],[],_,_,_,h=>by cases h
 |x::xs,y::a,as,bs,hl,h=>by
  dsimp only[XA,bO]at h ⊢
  by_cases e:x=y
  ·rw[OZ e]at h ⊢;show rq (by simpa using hl) h
  ·rw[Pd e]at h ⊢;show h
 |[],_::_,_,_,hl,_=>by simp at hl
 |_::_,[],_,_,hl,_=>by simp at hl
def rs :∀xs:Ow T,bO (xs++as) (xs++bs)=bO as bs
 |[]=>rfl
 |x::xs=>by
  revert XA bO;show rs xs
def Jg (a:dA x=true)(h:bO [x] [y]=ba true):dB x y=ba true:=by
 simp only[bO]at h;split at h
 ·cases h
 ·show h
structure Ord (n:OH)(o:Ow OH):Prop where
 nd:o.Nodup
 lt:∀p∈o,p<n
abbrev tF:OH->Ow (Ow OH)
 |0=>[[]]
 |k+1=>(tF k).flatMap λo=>(Pj (k+1)).map λi=>o.take i++[k]++o.drop i
def pc:∀{n:OH}{o:Ow OH},o∈tF n↔Ord n o/\↥o=n
 |0,o=>by
  rw[tF,O3];show#[λh=>by subst h;show#[#[.nil,λp c=>nomatch c],rfl],λh=>Su h.2]
 |n+1,o=>by
  rw[tF,Uc];constructor
  ·rintro⟨o',f,k⟩;obtain⟨i,hi,rfl⟩:=O0.mp k;obtain⟨⟨nd,lt⟩,hl⟩:=pc.mp f;have c:(o'.take i++[n]++o'.drop i).Perm (n::o'):=by
    have e:o'.take i++[n]++o'.drop i=o'.take i++n::o'.drop i:=by simp
    rw[e];show Vr.trans ?_;rw[R0]
   show#[#[c.nodup_iff.mpr (Q6.mpr #[λz=>absurd (lt _ z) (P7 _),nd]),λp d=>?_],by rw[c.length_eq,Po,hl]]
   rcases O2.mp (c.mem_iff.mp d)with z|z
   ·omega
   ·have:=lt p z;show RB ‹_›
  ·rintro⟨⟨nd,lt⟩,hl⟩;have l:n∈o:=by
    by_cases z:n∈o
    ·show z
    ·have f:=dS o (Pj n) nd λp c=>Pn.mpr (by
      have:=lt p c;have:p≠n:=λe=>z (e▸c)
      omega)
     rw[Qg]at f;omega
   obtain⟨a,b,rfl⟩:=List.append_of_mem l;have c:(a++n::b).Perm _:=Vr;have g:=c.nodup_iff.mp nd;obtain⟨nn,j⟩:=Q6.mp g;show#[a++b,pc.mpr #[#[j,λp d=>?_],?_],O0.mpr #[↥a,Pn.mpr ?_,?_]]
   ·have f:=lt p (c.mem_iff.mpr (OV _ d));have:p≠n:=λe=>nn (e▸d)
    omega
   ·have:=c.length_eq;rw[hl,Po]at this;omega
   ·rw[OL,Po]at hl;omega
   ·rw[List.take_left',X5]<;>simp
abbrev bn (bs:Ow O8)(u:Wd)(o:Ow OH):Pt:=qZ bs u o.dropLast (o.getLastD 0)
abbrev bX (ps:Ow Pt):Pt:=ps.getD (ju (ps.map gF)) (0,[])
abbrev e6 (bs:Ow O8)(u:Wd):OH->Ow (Ow OH)
 |0=>[[]]
 |k+1=>(aI ↥u (e6 bs u k)).filter λo=>decide (bn bs u o=bX ((aI ↥u (e6 bs u k)).map (bn bs u)))
abbrev rN (bs:Ow O8)(u:Wd):OH->Wd
 |0=>[]
 |k+1=>rN bs u k++[bX ((aI ↥u (e6 bs u k)).map (bn bs u))]
def Bn (p:Pt):dA (gF p)=true:=by
 have:=kF [p]
 simpa [b8]using this
def nq (ps:Ow Pt):fq (ps.map gF)=true:=by
 unfold fq;rw[OT];intro x a;rw[OT];intro y b;obtain⟨p,_,rfl⟩:=O0.mp a;obtain⟨q,_,rfl⟩:=O0.mp b;show tj _ _ (AU p q)
def nr {ps:Ow Pt}(h:ps≠[]):ps[ju (ps.map gF)]?=ba (bX ps)/\bX ps∈ps/\∀y∈ps,dB (gF y) (gF (bX ps))=ba false:=by
 obtain⟨x,b,g,c⟩:=rn  (λx d=>by obtain⟨p,_,rfl⟩:=O0.mp d;show Bn p) (nq ps) (by simpa using h)
 rw[OY,OG]at b;obtain⟨p,a,rfl⟩:=b;have e:bX ps=p:=by unfold bX;rw[P5,a];rfl
 rw[e];show#[a,O7 a,λy f=>c _ (O0.mpr #[y,f,rfl])]
def eD {os:Ow (Ow OH)}:o'∈aI n os↔∃o∈os,∃p,p<n/\p∉o/\o'=o++[p]:=by
 unfold aI;rw[Uc];constructor
 ·rintro⟨o,c,h⟩;obtain⟨p,d,rfl⟩:=O0.mp h;obtain⟨a,b⟩:=Qy.mp d;show#[o,c,p,Pn.mp a,PC b,rfl]
 ·rintro⟨o,c,p,a,b,rfl⟩;show#[o,c,O0.mpr #[p,Qy.mpr #[Pn.mpr a,Pq b],rfl]]
def gp {p:OH}:bn bs u (o++[p])=qZ bs u o p:=by
 unfold bn;rw[Wc,We]
def jf {p:OH}:Ord n (o++[p])↔Ord n o/\p<n/\p∉o:=by
 constructor
 ·rintro⟨nd,lt⟩;rw[RA]at nd;show#[#[nd.1,λq c=>lt q (PU _ c)],lt p (by simp),λz=>nd.2.2 p z p (by simp) rfl]
 ·rintro⟨⟨nd,lt⟩,d,f⟩;show#[RA.mpr #[nd,by simp,λa g b h e=>?_],λq c=>?_]
  ·rw[O3.mp h]at e;show f (e▸g)
  ·rcases Px.mp c with z|z
   ·show lt q z
   ·rw[O3.mp z];show d
def rz (h:Ord n o)(hl:↥o<n):∃p,p<n/\p∉o:=by
 by_cases z:∃p,p<n/\p∉o
 ·show z
 ·have b:=dS _ o Ta λp c=>by
   by_cases a:p∈o
   ·show a
   ·show absurd #[p,Pn.mp c,a] z
  rw[Qg]at b;omega
def LQ (u v:Wd):(dB (bI u) (bI v)).isSome=true:=by
 have:=d8 [u,v];unfold fq at this;rw[OT]at this;have:=this (bI u) (by simp)
 rw[OT]at this;show this _ (by simp)
def Jh (h:dB (bI u) (bI v)≠ba true):dB (bI u) (bI v)=ba false:=by
 obtain⟨b,a⟩:=P1.mp (LQ u v);cases b with
 |false=>show a
 |true=>show absurd a h
structure GrOk (bs:Ow O8)(u:Wd)(k:OH):Prop where
 mem:∀o,o∈e6 bs u k↔Ord ↥u o/\↥o=k/\aB bs u o=rN bs u k
 least:∀o,Ord ↥u o->↥o=k->dB (bI (aB bs u o)) (bI (rN bs u k))=ba false
 ne:e6 bs u k≠[]
 len:(rN bs u k).length=k
def vx {o:Ow OH}(h:↥o=k+1):∃o' p,o=o'++[p]/\↥o'=k:=by
 have a:o≠[]:=λz=>by rw[z]at h;cases h
 show#[o.dropLast,o.getLast a,(List.dropLast_concat_getLast a).symm,by rw[List.length_dropLast];omega]
def nu :∀k,k<=↥u->GrOk bs u k
 |0,_=>by
  show#[λo=>?_,λo _ hl=>?_,List.cons_ne_nil _ _,rfl]
  ·(delta e6;rw[O3])
   show#[λh=>by subst h;show#[#[.nil,λp l=>nomatch l],rfl,rfl],λh=>Su h.2.1]
  ·rw[Su hl];rfl
 |k+1,hk=>by
  have ih:=nu (bs:=bs) (u:=u) k ∅
  have r:aI ↥u (e6 bs u k)≠[]:=by
   obtain⟨o,f⟩:=Th _ ih.ne;obtain⟨b,a,_⟩:=(ih.mem o).mp f;obtain⟨p,l,c⟩:=rz b ∅
   show UY (eD.mpr #[o,f,p,l,c,rfl])
  obtain⟨_,b2,b3⟩:=nr (ps:=(aI _ _).map _) (by simpa using r)
  have m:rN bs u (k+1)=rN bs u k++[bX _]:=rfl;have n:e6 bs u (k+1)=(aI _ _).filter λo=>decide _:=rfl
  generalize bX _=best at b2 b3 m n;show#[λo=>?_,λo v hl=>?_,?_,by rw[m,OL,ih.len];rfl]
  ·rw[n,Qy,m];constructor
   ·rintro⟨b,a⟩;obtain⟨o,f,p,l,c,rfl⟩:=eD.mp b;obtain⟨d,g,i⟩:=(ih.mem o).mp f;have a:=PC a;rw[gp]at a;show#[jf.mpr #[d,l,c],by rw[OL,g];rfl,by rw[jM,i,a]]
   ·rintro⟨b,a,j⟩;obtain⟨o,p,rfl,hl⟩:=vx a;obtain⟨d,g,i⟩:=jf.mp b;rw[jM]at j;obtain⟨s,t⟩:=List.append_inj j (by rw[bD,ih.len,hl])
    show#[eD.mpr #[o,(ih.mem o).mpr #[d,hl,s],p,g,i,rfl],Pq ?_];rw[gp];show List.singleton_inj.mp t
  ·obtain⟨o,p,rfl,q⟩:=vx hl;have hl:=q;obtain⟨d,g,i⟩:=jf.mp v;show Jh λz=>?_
   rw[jM,m]at z;have z:bO _ _=ba _:=z;rw[PP,PP]at z
   by_cases e:aB bs u o=rN bs u k
   ·rw[e,rs]at z;have:=Jg (Bn _) z;rw[b3 _ (O0.mpr #[o++[p],eD.mpr #[o,(ih.mem o).mpr #[d,hl,e],p,g,i,rfl],gp])]at this;cases this
   ·have b:=ow _ _ (eY _) (λh=>e (gj h).symm) (ih.least o d hl)
    have a:=rq (as:=[best].map gF) (bs:=[qZ bs u o p].map gF) (by rw[OC,OC,bD,ih.len,hl]) b
    have j:=ou _ _ (by rw[<- PP];show kF _) a
    rw[z]at j;cases j
  ·obtain⟨o,f,e⟩:=O0.mp b2;rw[n];show UY (Qy.mpr #[f,Pq e])
abbrev dw (bs:Ow O8)(u:Wd):Wd:=rN bs u ↥u
def jg :∃o,Ord ↥u o/\↥o=↥u/\aB bs u o=dw bs u:=by
 have h:=nu (bs:=bs)  ↥u (OR _);obtain⟨o,a⟩:=Th _ h.ne;show#[o,(h.mem o).mp a]
def gq (hi:i<↥o):(aB bs u o).getD i (0,[])=((u.getD (o.getD i 0) (0,[])).1,(o.take i).map λj=>cj bs u (o.getD i 0) j):=by
 unfold aB;rw[P5,OY,Tj hi];rfl
def rB (hi:i<↥o)(a:j<i):((aB bs u o).getD i (0,[])).2.getD j 0=cj bs u (o.getD i 0) (o.getD j 0):=by
 rw[gq hi];rw[P5,OY,Vg a,aJ  (show j<↥o by show SX ‹_› ‹_›)];rfl
def Bo {a:OH}(p:GoodB bs)(l:GoodW a ↥bs u)(f:Ord ↥u o)(hi:i<↥o)(g:j<↥o)(c:i≠j):cj bs (aB bs u o) i j=cj bs u (o.getD i 0) (o.getD j 0):=by
 have m:=aJ (d:=0) hi;have q:=f.lt _ (O7 m);have ne:o.getD i 0≠o.getD j 0:=λe=>by
  have n:o[i]=o.getD i 0:=by simp[hi]
  have b:o[j]=o.getD j 0:=by simp[g]
  show c ((Si f.nd).mp (by rw[n,b,e]))
 by_cases h:j<i
 ·have:cj bs (aB bs u o) i j=((aB bs u o).getD i (0,[])).2.getD j 0:=by unfold cj;rw[OZ h]
  rw[this,rB hi h]
 ·have:cj bs (aB bs u o) i j=bs.getD (((aB bs u o).getD j (0,[])).2.getD i 0).toNat 0:=by unfold cj;rw[Pd h]
  rw[this,rB g ∅]
  generalize o.getD i 0=x at *
  generalize o.getD j 0=y at *
  unfold cj
  by_cases b:x<y
  ·rw[OZ b,Pd ∅]
  ·rw[Pd b,OZ ∅]
   have k:=aJ (d:=(0,[])) q;have hw:y<(u.getD x (0,[])).2.length:=by rw[l.len x _ k];omega
   obtain⟨r,s⟩:=l.way x _ k _ (O7 (aJ (d:=0) hw));have:=p.inv ((u.getD x (0,[])).2.getD y 0).toNat ∅
   rw[this];omega
def nv {a:OH}{ p:Ow OH}(t:GoodB bs)(y:GoodW a ↥bs u)(s:Ord ↥u o)(d:Ord ↥o p):aB bs (aB bs u o) p=aB bs u (p.map λi=>o.getD i 0):=by
 show Sn (by rw[bD,bD,OC]) λk b q=>?_
 rw[bD]at b;have g:=gq (bs:=bs) (u:=aB bs u o)  b;have h:=gq (bs:=bs) (u:=u) (o:=p.map λi=>o.getD i 0)  (by rw[OC];show b)
 have hk:p.getD k 0<↥o:=d.lt _ (O7 (aJ  b));have n:(p.map λi=>o.getD i 0).getD k 0=o.getD (p.getD k 0) 0:=by
  rw[P5,OY,aJ  b];rfl
 rw[n]at h;rw[gq hk]at g;have f:∀(v:Wd) l,v[k]=v.getD k (0,[]):=λv l=>by simp[l]
 rw[f _ (by rw[bD];show b),f _ q,g,h]
 congr 1;rw[<- Tt,QR];show QX λj w=>?_
 obtain⟨m,x,rfl⟩:=Rv.mp w;rw[Py]at x;rw[Vc];have c:p[m]=p.getD m 0:=by simp[show m<↥p by omega]
 rw[c];show Bo t y s hk (d.lt _ (O7 (aJ  (show m<↥p by omega)))) λe=>?_
 have r:p[k]=p.getD k 0:=by simp[b]
 have:=(Si d.nd).mp (r.trans (e.trans c.symm));omega
def kH (h:Ord n o)(hl:↥o=n){p:OH}(b:p<n):p∈o:=by
 by_cases z:p∈o
 ·show z
 ·have:=(jf   ).mpr #[h,b,z];have a:=dS _ _ this.nd λq c=>Pn.mpr (this.lt q c)
  rw[OL,Qg,T5]at a;omega
def Bp { p:Ow OH}(h:Ord n o)(c:Ord ↥o p):Ord n (p.map λi=>o.getD i 0):=by
 have g:∀i,i<↥o->o[i]?=ba (o.getD i 0):=λi hi=>aJ hi
 show#[?_,λq s=>?_]
 ·rw[RZ,QZ];show c.nd.imp_of_mem λ{a b} m r d e=>d ?_
  have k:=c.lt a m;have l:=c.lt b r;have f:o[a]=o.getD a 0:=by simp[k]
  have j:o[b]=o.getD b 0:=by simp[l]
  show(Si h.nd).mp (by rw[f,j,e])
 ·obtain⟨i,hi,rfl⟩:=O0.mp s;show h.lt _ (O7 (g i (c.lt i hi)))
def tH {a:OH}(l:GoodB bs)(m:GoodW a ↥bs u)(b:Ord ↥u o)(hl:↥o=↥u):dw bs (aB bs u o)=dw bs u:=by
 have pl:(aB bs u o).length=↥u:=by rw[bD,hl]
 obtain⟨p,p1,p2,A⟩:=jg (bs:=bs) (u:=aB bs u o);obtain⟨q,g,B,C⟩:=jg (bs:=bs) (u:=u);rw[pl]at p1 p2;have v:=λo c d=>(nu (bs:=bs) (u:=u) _ (OR _)).least o c d
 have w:=λz c d=>(nu (bs:=bs) (u:=aB bs u o) _ (OR _)).least z c d
 show gj (vw (eY _) ?_ ?_)
 ·rw[<- A,nv l m b (by rw[hl];show p1)]
  show v _ (Bp b (by rw[hl];show p1)) (by rw[OC,p2])
 ·have e:q=(q.map λx=>o.idxOf x).map λi=>o.getD i 0:=by
   rw[QR]
   conv=>lhs;rw[<- Sv q]
   show QX λx f=>?_
   have s:=kH b hl (g.lt x f);have h:=RM s;change x=o.getD (o.idxOf x) 0;rw[P5,ON h,UZ];rfl
  have k:Ord ↥o (q.map λx=>o.idxOf x):=by
   show#[?_,λi hi=>?_]
   ·rw[RZ,QZ];show g.nd.imp_of_mem λ{x y} f t j e=>j ?_
    have c:=RM (kH b hl (g.lt x f));have d:=RM (kH b hl (g.lt y t));have n:=UZ c;have r:=UZ d;rw[<- n,<- r];congr 1
   ·obtain⟨x,f,rfl⟩:=O0.mp hi;show RM (kH b hl (g.lt x f))
  rw[<- C,e,<- nv l m b k];show w _ (by rw[pl,<- hl];show k) (by rw[OC,pl,B])
def Ji {α:Type}{ a :E}(L:Ow α)(f g:α->W)(p:α->O6)(h:α->W)(R:Fm)(B:ci a=true)(C:ci b=true)(D:ci c=true)(oc:rM n=true)(hc:cr l Z=gV::gV::gV::R)(hl:↥L<=1000000)
  (A:wE M a Z S λq=>wE M b Z q.2 λm=>∃r t,q.1=.ref r/\m.1=.ref t/\m.2[r]?=ba (.lst (L.map f))/\m.2[t]?=ba (.lst (L.map g))/\Ka S m.2)
  (j:∀x∈L,∀S',Ka S S'->oZ M c n (gV::ba (f x)::ba (g x)::R) S' (λy _ S2=>p x=true/\y=h x/\Ka S' S2) (λ_ S2=>p x=false/\Ka S' S2))
  (k:∀S',Ka S S'->Q (.ref ↥S',S'++[.lst ((L.filter p).map h)])):Wp (aA M (.comp c (.tp [1,2]) (.zip #v[a,b]) n l) Z S) Q:=by
 obtain⟨w,G,s,z⟩:=bA B A;obtain⟨w2,S1,u,r,t,rfl,rfl,d,ht,k1⟩:=bA C z;have d:=d;have o:iJ (L.map f) (L.map g)=L.map λx=>W.tup [f x,g x]:=by
  unfold iJ;rw[XB,List.zipWith_self]
 have hi:iK M (.zip #v[a,b]) Z S=ba (.zl r t,S1):=by
  dsimp only at d ht;simp only[iK,bP,dH,km,Ad,s,u,HP,az d,az ht]
 dsimp only at d ht k1;show o8 L (λx=>W.tup [f x,g x]) p h (λZ=>∃a b,Z=gV::a::b::R) (λx=>gV::ba (f x)::ba (g x)::R) (λ_ _ _ h=>let ⟨_,_,e⟩:=h;e ▸ #[rfl,_,_,rfl]) D oc #[_,_,hc] hl hi k1 (λi S' h=>by simp only[MI.at,az (h.get _ _ d),az (h.get _ _ ht),o]) (by simp only[MI.len,az d,az ht,o]) j k
def Jj (L:Ow Pt):W.ts (L.map b7)=ba (L.map gF):=by rw[<- sZ];show T.ws_ts _
abbrev aQ:Ss:=
 #v[.set 2 (.lst .nil),.set 3 (.lst #v[.tup .nil]),.whl (.cmp .lt (.bi .len #v[.v 2]) (.bi .len #v[.v 1])) #v[.set 4 (.own "longer_orders" 2 #v[.v 3,.bi .len #v[.v 1]]),.set 5 (.comp (.own "point_over" 4 #v[.v 2,.v 3,.sl (.v 1) .no (.yes (.neg (.c (.int 1)))),.ix (.v 1) (.neg (.c (.int 1)))]) (.nm 1) (.seq (.v 4)) .nil [gV,gV,ba 0,ba 1]),.set 6 (.bi .min #v[.v 5]),.ex (.me .append (.v 2) #v[.v 6]),.set 3 (.comp (.v 1) (.tp [1,2]) (.zip #v[.v 4,.v 5]) #v[.cmp .eq (.v 2) (.v 3)] [gV,gV,gV,ba 6])],.ret (.bi .tuple #v[.v 2])]
def Jk {ps:Ow Pt}(h:S[l]?=ba (.lst (ps.map b7)))(a:ps≠[])(q:Q (b7 (bX ps),S)):wO (Bi.min.fn [.ref l] S) Q:=by
 show ac ?_ q;simp only[Bi.fn,zj,az h,Jj];rw[OZ #[by have:=jK ps;unfold cY;omega,nq _],OY,(nr a).1];rfl
def vy :∀k,(e6 bs u k).length<=↥u^k
 |0=>OR _
 |k+1=>by
  have a:=SN (λo=>decide (bn bs u o=bX ((aI ↥u (e6 bs u k)).map (bn bs u)))) (aI ↥u (e6 bs u k))
  have b:=jb (n:=↥u) (e6 bs u k);have c:=Wb ↥u (vy (bs:=bs) (u:=u) k);rw[Xa];show OQ a (OQ b c)
def pd (hfu:30<fuel)(P:Parts defs)(H:Is defs ("longer_orders") 2 4 aE)(hg:Is defs ("least_form") 2 7 aQ){a:OH}(hb:GoodB bs)(I:↥ns=↥bs)(hu:GoodW a ↥bs u)(r:↥u<=6)
  (A:∀S',Ka S S'->Q (aM (dw bs u),S')) :
  wO (aY (ae defs fuel (d+3)) "least_form" 2 [.tup [m0,.tup (OO aw ns bs),b0],aM u] S) Q:=by
 show aF hg rfl rfl λU hR=>?_
 replace A:∀S',Ka S S'->U (.rt (aM (dw bs u)),S'):=λS' a=>hR _ _ (A S' a)
 clear hR;change wZ _ _ aQ [ba (.tup [m0,.tup (OO aw ns bs),b0]),ba (aM u),gV,gV,gV,gV,gV] S U;generalize C:W.tup [m0,.tup (OO aw ns bs),b0]=R;have ul:(u.map b7).length=↥u:=OC ..;delta aQ;show st ?_;delta wS wE wA OJ;show st ?_;delta wS wE wA OJ;nofun
 show F5 (λm Z S'=>∃(k q:OH) (X Y a6:Oz W),k+m=↥u/\Z=[ba R,ba (aM u),ba (.ref ↥S),ba (.ref q),X,Y,a6]/\S'[↥S]?=ba (.lst ((rN bs u k).map b7))/\S'[q]?=ba (.lst (cR (e6 bs u k)))/\Ka S S') ↥u rfl rfl ∅ #[0,(S++[O.lst []]).length,gV,gV,gV,∅,rfl,aV ak,ak,Ka.push.trans .push] ?_
 rintro m Z S1 ⟨k,q,X,Y,a6,hkm,rfl,t,e2,k1⟩;have ok:=nu (bs:=bs) (u:=u) k ∅
 have E:=qK t;delta wT wE wA wV wG;show lO t (aL ?_);rw[ul,OC,ok.len];delta Aw aZ wB;show#[λh=>?_,λh=>?_]
 ·have h:(k:O8)<↥u:=PC h;have hkn:k<↥u:=∅
  show#[m-1,∅,λQ2 hn _=>?_]
  clear hK A;have D:(e6 bs u k).length<=7776:=OQ (vy k) (OQ (Nat.pow_le_pow_left r k) (V8 (n:=6) #v[] (show k<=5 by omega)))
  have j:(e6 bs u k).length*↥u<=46656:=Nat.mul_le_mul D r;have hll:(aI ↥u (e6 bs u k)).length<=46656:=OQ (jb _) j;show st ?_;left;show aL ?_;rw[ul];show Bf (d:=d+1) H e2 ∅ (λo f=>by have:=((ok.mem o).mp f).2.1;omega) ∅ λl S2 B hl k2=>?_
  have hl:↥S1<=l:=hl;have N:aI ↥u (e6 bs u k)≠[]:=by
   obtain⟨o,f⟩:=Th _ ok.ne;obtain⟨h1,h2,_⟩:=(ok.mem o).mp f;obtain⟨p,L,g⟩:=rz h1 ∅
   show UY (eD.mpr #[o,f,p,L,g,rfl])
  show st ?_;delta wS wE OJ;show IY (aI ↥u (e6 bs u k)) (λo=>.tup (aG o)) (λ_=>true) (λo=>b7 (bn bs u o)) [ba R,ba (aM u)] rfl rfl rfl rfl ∅ #[l,rfl,B,.refl] (λo f b k3=>?_) λb k3=>?_
  ·obtain⟨o,J,p,L,g,rfl⟩:=eD.mp f;obtain⟨⟨o1,o2⟩,o3,_⟩:=(ok.mem o).mp J;delta oZ wC wE wA wP wV wG wN;show#[λ_=>?_,λz=>by cases z]
   show ac (show md (.tup (aG (o++[p]))) gV (ba (-1)) b=ba (.tup (aG o),b) by revert md Be xC Wc) ?_
   dsimp only;show ac (EI (by simp)) ?_
   dsimp only;subst C;rw[We,gp];show IV (d:=d) P hb I hu (λx hx=>#[o2 x hx,λe=>g (e▸hx)]) L ∅ λs y=>#[rfl,rfl,y]
  rw[jd];have em:(aI ↥u (e6 bs u k)).map (λo=>b7 (bn bs u o))=((aI ↥u (e6 bs u k)).map (bn bs u)).map b7:=by rw[QR];rfl
  rw[em];have w:(b++[O.lst (((aI ↥u (e6 bs u k)).map (bn bs u)).map b7)])[↥b]?=ba (.lst (((aI ↥u (e6 bs u k)).map (bn bs u)).map b7)):=ak;have i:=aV (u:=O.lst (((aI ↥u (e6 bs u k)).map (bn bs u)).map b7)) (k3.get _ _ B);have c:=aV (u:=O.lst (((aI ↥u (e6 bs u k)).map (bn bs u)).map b7)) (k3.get _ _ (k2.get _ _ t));have T:↥S<↥b:=Pf E (OQ k2.len k3.len);have y:Ka S (b++[O.lst (((aI ↥u (e6 bs u k)).map (bn bs u)).map b7)]):=((k1.trans k2).trans k3).trans .push;generalize b++[O.lst (((aI ↥u (e6 bs u k)).map (bn bs u)).map b7)]=s at w i c y;generalize G:↥b=l5 at w T;clear e2 B k3 k2 G;show st ?_;left;show Jk w (by simpa using N) ?_
  show st ?_;left;show#[jI c,IX c (by rw[OC,ok.len];omega) ?_]
  have s1:=fR (o':=O.lst ((rN bs u k).map b7++[b7 (bX ((aI ↥u (e6 bs u k)).map (bn bs u)))])) c;have s3:(s.set ↥S (O.lst ((rN bs u k).map b7++[b7 (bX ((aI ↥u (e6 bs u k)).map (bn bs u)))])))[l]?=ba (.lst (cR (aI ↥u (e6 bs u k)))):=by rw[iO ∅];show i
  have s4:(s.set ↥S (O.lst ((rN bs u k).map b7++[b7 (bX ((aI ↥u (e6 bs u k)).map (bn bs u)))])))[l5]?=ba (.lst (((aI ↥u (e6 bs u k)).map (bn bs u)).map b7)):=by rw[iO ∅];show w
  have k5:=y.late (o:=O.lst ((rN bs u k).map b7++[b7 (bX ((aI ↥u (e6 bs u k)).map (bn bs u)))])) (OR ↥S);generalize s.set ↥S (O.lst ((rN bs u k).map b7++[b7 (bX ((aI ↥u (e6 bs u k)).map (bn bs u)))]))=S5 at s1 s3 s4 k5;show st ?_;delta wS wE OJ;show Ji (aI ↥u (e6 bs u k)) (λo=>.tup (aG o)) (λo=>b7 (bn bs u o)) (λo=>decide (bn bs u o=bX ((aI ↥u (e6 bs u k)).map (bn bs u)))) (λo=>.tup (aG o)) [ba (b7 (bX ((aI ↥u (e6 bs u k)).map (bn bs u))))] rfl rfl rfl rfl rfl ∅ #[l,l5,rfl,rfl,s3,by rw[em];show s4,.refl] (λo f V M=>?_) λV M=>?_
  ·delta oZ wC wT wE wV wG;show ac LP ?_;delta wB;show#[λz=>#[z,rfl,.refl],λz=>#[z,.refl]]
  ·show cM (hn _ _ #[k+1,↥V,_,_,_,∅,rfl,?_,ak,(k5.trans M).trans .push])
   have:=aV (u:=O.lst (((aI ↥u (e6 bs u k)).filter λo=>decide (bn bs u o=bX ((aI ↥u (e6 bs u k)).map (bn bs u)))).map λo=>W.tup (aG o))) (M.get _ _ s1)
   rw[this,show rN bs u (k+1)=rN bs u k++[bX ((aI ↥u (e6 bs u k)).map (bn bs u))]from rfl,PP];rfl
 ·have h:¬ (k:O8)<↥u:=SH h;obtain rfl:k=↥u:=∅
  show hK _ _ (st ?_);left;show fu t (A _ k1)
abbrev fe:Ss:=
 #v[.ret (.and (.isi "int" (.v 0)) (.not (.isi "bool" (.v 0))))]
abbrev gQ:Ss:=
 #v[.ret (.and (.isi "tuple" (.v 0)) (.cmp .eq (.bi .len #v[.v 0]) (.v 1)))]
abbrev jh:Ss:=
 #v[.ret (.and (.own px 2 #v[.v 0,.v 1]) (.bi .all #v[.comp (.own p0 1 #v[.v 1]) (.nm 1) (.seq (.v 0)) .nil [gV,gV]]))]
abbrev lV:Ss:=
 #v[.ite (.not (.own q7 2 #v[.v 1,.v 2])) #v[.ret (.c (.bl false))] .nil,.set 3 (.chn .le .lt (.c (.int 0)) (.ix (.v 1) (.c (.int 0))) (.bi .len #v[.ix (.v 0) (.c (.int 0))])),.ret (.and (.v 3) (.bi .all #v[.comp (.chn .le .lt (.c (.int 0)) (.v 1) (.bi .len #v[.ix (.v 2) (.c (.int 1))])) (.nm 1) (.seq (.ix (.v 1) (.c (.int 1)))) .nil [gV,gV,ba 0]]))]
abbrev eE:Ss:=
 #v[.ret (.and (.own px 2 #v[.v 0,.c (.int 2)]) (.and (.own p0 1 #v[.ix (.v 0) (.c (.int 0))]) (.own "is_numbers" 2 #v[.ix (.v 0) (.c (.int 1)),.v 1])))]
abbrev Bq:Ss:=
 #v[.ret (.ix (.ix (.ix (.v 0) (.c (.int 1))) (.v 1)) (.c (.int 1)))]
abbrev lW:Ss:=
 #v[.ite (.or (.not (.own px 2 #v[.v 0,.c (.int 3)])) (.not (.bi .all #v[.comp (.isi "tuple" (.v 1)) (.nm 1) (.seq (.v 0)) .nil [gV,gV]]))) #v[.ret (.c (.bl false))] .nil,.set 1 (.bi .all #v[.comp (.isi "str" (.v 1)) (.nm 1) (.seq (.ix (.v 0) (.c (.int 0)))) .nil [gV,gV]]),.ret (.and (.v 1) (.and (.bi .all #v[.comp (.own "is_way" 1 #v[.v 1]) (.nm 1) (.seq (.ix (.v 0) (.c (.int 1)))) .nil [gV,gV]]) (.bi .all #v[.comp (.own "is_three" 1 #v[.v 1]) (.nm 1) (.seq (.ix (.v 0) (.c (.int 2)))) .nil [gV,gV]])))]
abbrev rC:Ss:=
 #v[.ret (.and (.own px 2 #v[.v 0,.c (.int 2)]) (.and (.isi "str" (.ix (.v 0) (.c (.int 0)))) (.own p0 1 #v[.ix (.v 0) (.c (.int 1))])))]
abbrev lX:Ss:=
 #v[.ret (.and (.own px 2 #v[.v 0,.c (.int 3)]) (.bi .all #v[.comp (.own q7 2 #v[.v 2,.v 1]) (.tp [1,2]) (.enu #v[.v 0]) .nil [gV,gV,gV]]))]
abbrev fU:Ss:=
 #v[.set 1 (.bi .len #v[.ix (.v 0) (.c (.int 0))]),.set 2 (.bi .len #v[.ix (.v 0) (.c (.int 1))]),.ret (.and (.chn .le .le (.c (.int 1)) (.v 1) (.c (.int 3))) (.and (.chn .le .le (.c (.int 1)) (.v 2) (.c (.int 3))) (.cmp .le (.op .mul (.v 1) (.v 2)) (.c (.int 6)))))]
abbrev dL:Ss:=
 #v[.set 1 (.op .add (.bi .list #v[.ix (.v 0) (.c (.int 0))]) (.comp (.ix (.v 1) (.c (.int 0))) (.nm 1) (.seq (.ix (.v 0) (.c (.int 1)))) .nil [gV,gV])),.ret (.and (.bi .all #v[.comp (.own "is_name" 1 #v[.v 1]) (.nm 1) (.seq (.v 1)) .nil [gV,gV]]) (.cmp .eq (.bi .len #v[.bi .set #v[.v 1]]) (.bi .len #v[.v 1])))]
abbrev nw:Ss:=
 #v[.ite (.or (.cmp .isin (.v 0) (.c (.tup (bN.map W.str)))) (.not (.chn .le .le (.c (.int 1)) (.bi .len #v[.v 0]) (.c (.int 8))))) #v[.ret (.c (.bl false))] .nil,.ret (.bi .all #v[.comp (.cmp .isin (.v 1) (.c (.str "abcdefghijklmnopqrstuvwxyz"))) (.nm 1) (.seq (.v 0)) .nil [gV,gV]])]
abbrev dM:Ss:=
 #v[.ret (.bi .all #v[.comp (.own "is_right_back" 2 #v[.v 2,.v 1]) (.nm 1) (.rng #v[.bi .len #v[.ix (.v 0) (.c (.int 1))]]) .nil [gV,gV,ba 0]])]
abbrev fw:Ss:=
 #v[.set 2 (.own "back" 2 #v[.v 0,.v 1]),.ite (.not (.chn .le .lt (.c (.int 0)) (.v 2) (.bi .len #v[.ix (.v 0) (.c (.int 1))]))) #v[.ret (.c (.bl false))] .nil,.ret (.and (.cmp .le (.bi .abs #v[.op .sub (.v 2) (.v 1)]) (.c (.int 1))) (.cmp .eq (.own "back" 2 #v[.v 0,.v 2]) (.v 1)))]
abbrev dy:Ss:=
 #v[.set 1 (.ix (.v 0) (.c (.int 2))),.set 2 (.bi .all #v[.comp (.cmp .lt (.v 1) (.v 2)) (.tp [1,2]) (.zip #v[.v 1,.sl (.v 1) (.yes (.c (.int 1))) .no]) .nil [gV,gV,gV]]),.ret (.and (.v 2) (.bi .all #v[.comp (.own "is_figure" 2 #v[.v 2,.v 1]) (.nm 1) (.seq (.v 1)) .nil [gV,gV,ba 0]]))]
abbrev j8:Ss:=
 #v[.ite (.not (.bi .all #v[.comp (.own "is_point" 3 #v[.v 3,.v 2,.v 1]) (.tp [1,2]) (.enu #v[.v 1]) .nil [gV,gV,gV,ba 0]])) #v[.ret (.c (.bl false))] .nil,.ret (.cmp .eq (.own "least_form" 2 #v[.v 0,.v 1]) (.v 1))]
abbrev ji:Ss:=
 #v[.ite (.not (.own "has_form" 1 #v[.v 0])) #v[.ret (.tup #v[.c (.str "NoRule"),.c (.str "form")])] .nil,.ite (.not (.own p3 1 #v[.v 0])) #v[.ret (.tup #v[.c (.str "NoRule"),.c (.str "bounds")])] .nil,.ite (.not (.own po 1 #v[.v 0])) #v[.ret (.tup #v[.c (.str "NoRule"),.c (.str "names")])] .nil,.ite (.not (.own pa 1 #v[.v 0])) #v[.ret (.tup #v[.c (.str "NoRule"),.c (.str "backs")])] .nil,.ite (.not (.own pe 1 #v[.v 0])) #v[.ret (.tup #v[.c (.str "NoRule"),.c (.str "barred")])] .nil,.ret (.tup #v[.c .non,.c (.bl true)])]
structure Look (defs:Ow (OM×Df)):Prop where
 whole:Is defs ("is_whole": OM) 1 1 fe
 tupof:Is defs ("is_tuple_of": OM) 2 2 gQ
 nums:Is defs ("is_numbers": OM) 2 2 jh
 point:Is defs ("is_point": OM) 3 4 lV
 pform:Is defs ("has_point_form": OM) 2 2 eE
 back:Is defs ("back": OM) 2 2 Bq
 form:Is defs ("has_form": OM) 1 2 lW
 way:Is defs ("is_way": OM) 1 1 rC
 three:Is defs ("is_three": OM) 1 1 lX
 bounds:Is defs ("keeps_bounds": OM) 1 3 fU
 names:Is defs ("has_right_names": OM) 1 2 dL
 name:Is defs ("is_name": OM) 1 1 nw
 backs:Is defs ("has_right_backs": OM) 1 1 dM
 isback:Is defs ("is_right_back": OM) 2 3 fw
 barred:Is defs ("has_right_barred": OM) 1 3 dy
 fig:Is defs ("is_figure": OM) 2 2 j8
 lookX:Is defs ("look_rule!": OM) 1 1 ji
 look:Is defs ("look_rule": OM) 1 1 (Ix "look_rule!" 1)
abbrev vz (n:OH):W->O6|.tup ws=>↥ws==n&&ws.all cz|_=>false
abbrev kI (n:OH):W->O6|.tup [m,t]=>cz m&&vz n t|_=>false
abbrev cg:W->O6|.tup [a,b,c]=>kI 0 a&&(kI 1 b&&kI 2 c)|_=>false
abbrev jj:W->O6|.tup [x,n]=>dv x&&cz n|_=>false
abbrev cU:W->O6|.tup [.tup a,.tup N,.tup B]=>a.all dv&&(N.all jj&&B.all cg)|_=>false
abbrev dU (n:OH):W->O6|.tup xs=>↥xs==n|_=>false
abbrev Cv (M:OM->FF)(f:OM)(n:OH)(ws:Ow W)(S:aa)(w:W):Prop:=∀Q:QW,(∀S',Ka S S'->Q (w,S'))->wO (aY M f n ws S) Q
def Cv.ve {f:OM}{es:Es}(h:Cv M f n ws S w)(a:∀Q:Ow W×aa->Prop,Q (ws,S)->wA M es Z S Q):Ve M Z (.own f n es) S w:=λQ k=>by
 show a _ (h Q k)
def Cv.eq {f:OM}(h:Cv M f n ws S (.bl b))(e:b=c):Cv M f n ws S (.bl c):=e▸h
def jQ (h:dU n w=true):∃xs,w=.tup xs/\↥xs=n:=by
 cases w with
 |tup xs=>show#[xs,rfl,eq_of_beq h]
 |_=>cases h
def Thg.mem (h:Thg S (.tup xs)):(∀x∈xs,Thg S x)/\↥xs<=100:=by
 cases h with
 |tup h hl=>show#[h,hl]
def bG {f:OM}{e :OH}(Z:Fm)(i:Is defs f e nn b)(hl:↥ws=e)(ok:iP b=true)(j:ws.map ba++PN (nn-e) gV=Z)(h:∀c:QO,(∀S',Ka S S'->c (.rt w,S'))->wZ (ae defs fuel d) fuel b Z S c):Cv (ae defs fuel (d+1)) f e ws S w:=λQ k=>aF i hl ok λc g=>j▸h c λS' a=>g _ _ (k S' a)
def pf (L:Look defs)(h:Thg S w):Cv (ae defs fuel (d+1)) p0 1 [w] S (.bl (cz w)):=bG _ L.whole rfl rfl rfl λb k=>by
 show bC (dJ (x:=(cz w||xE w) && !xE w) (by cases w<;>rfl) (a7 (dT (λQ q=>q) h.n) λ_ S' a=>?_)) k
 intro Q q;show ac (h.ka a).b (q _ .refl)
def jk (L:Look defs){n:OH}(h:Thg S w):Cv (ae defs fuel (d+1)) px 2 [w,.int n] S (.bl (dU n w)):=bG [ba w,ba _] L.tupof rfl rfl rfl λa k=>by
 show bC (dJ (x:=rm w&&dU n w) (by cases w<;>rfl) (a7 (dT (λQ q=>q) h.t) λz S' _=>?_)) k
 cases w with
 |tup xs=>
  intro Q q;left;show aL (ac eW ?_);have e:(↥xs==(n:O8))=(↥xs==n):=by rw[SI,Rm,Rm];omega
  rw[e];show q _ .refl
 |_=>cases z
def Jl (L:Look defs){n:OH}(h:Thg S w):Cv (ae defs fuel (d+2)) "is_numbers" 2 [w,.int n] S (.bl (vz n w)):=bG _ L.nums rfl rfl rfl λf k=>by
 show bC (dJ (x:=dU n w&&vz n w) (by cases w with
  |tup xs=>show((↥xs==n)&&((↥xs==n)&&_))=((↥xs==n)&&_);cases ↥xs==n<;>rfl
  |_=>rfl) (a7 ((jk  L h).ve λQ q=>q) λz S' c=>?_)) k
 obtain⟨xs,rfl,e⟩:=jQ z;obtain⟨b,hl⟩:=h.mem;show dJ  (by change _=(↥xs==n&&xs.all _);rw[e,PB,Qw]) ?_
 show cf xs id _ [] rfl rfl rfl (by show OQ ‹_› (OP rfl)) #[by rw[Sv],.refl] λx a S2 k2=>?_
 show(pf  L ((b x a).ka (c.trans k2))).ve λQ q=>q
def vA (L:Look defs){n:OH}(h:Thg S w):Cv (ae defs fuel (d+3)) q7 2 [w,.int n] S (.bl (kI n w)):=bG [ba w,ba _] L.pform rfl rfl rfl λc k=>by
 by_cases z:dU 2 w=true
 ·obtain⟨xs,rfl,e⟩:=jQ z;obtain⟨a,_⟩:=h.mem;obtain⟨m,t,rfl⟩:∃m t,xs=[m,t]:=match xs,e with|[m,t],_=>#[m,t,rfl]
  show bC (dJ  rfl (a7 ((jk   L h).ve λQ q=>q) λ_ S' b=>a7 (λQ q=>?_) λ_ S2 k2=>λQ q=>?_)) k
  ·left;show ap #v[] rfl (pf  L ((a m OU).ka b) Q q)
  ·left;show ap #v[] rfl (Jl  L ((a t (OV _ OU)).ka (b.trans k2)) Q q)
 ·have z:=Rh.mpr z;have e:kI n w=false:=by
   unfold kI;split
   ·cases z
   ·rfl
  show bC (dJ  (by rw[z,e];rfl) (a7 (y:=true) ((jk   L h).ve λQ q=>q) λy=>by rw[z]at y;cases y)) k
def EK (L:Look defs)(h:Thg S w):Cv (ae defs fuel (d+2)) "is_way" 1 [w] S (.bl (jj w)):=bG [ba w] L.way rfl rfl rfl λc k=>by
 by_cases z:dU 2 w=true
 ·obtain⟨xs,rfl,e⟩:=jQ z;obtain⟨a,_⟩:=h.mem;obtain⟨m,t,rfl⟩:∃m t,xs=[m,t]:=match xs,e with|[m,t],_=>#[m,t,rfl]
  show bC (dJ  rfl (a7 ((jk   L h).ve λQ q=>q) λ_ S' b=>a7 (λQ q=>?_) λ_ S2 k2=>λQ q=>?_)) k
  ·left;show ap #v[] rfl (ac ((a m OU).ka b).s (q _ .refl))
  ·left;show ap #v[] rfl (pf  L ((a t (OV _ OU)).ka (b.trans k2)) Q q)
 ·have z:=Rh.mpr z;have e:jj w=false:=by
   unfold jj;split
   ·cases z
   ·rfl
  show bC (dJ  (by rw[z,e];rfl) (a7 (y:=true) ((jk   L h).ve λQ q=>q) λy=>by rw[z]at y;cases y)) k
def EM (L:Look defs)(h:Thg S w):Cv (ae defs fuel (d+4)) "is_three" 1 [w] S (.bl (cg w)):=bG _ L.three rfl rfl rfl λj k=>by
 by_cases z:dU 3 w=true
 ·obtain⟨xs,rfl,e⟩:=jQ z;obtain⟨f,_⟩:=h.mem;obtain⟨a,b,c,rfl⟩:∃a b c,xs=[a,b,c]:=match xs,e with|[a,b,c],_=>#[a,b,c,rfl]
  show bC (dJ (x:=true&&([a,b,c].zipIdx.all λp=>kI p.2 p.1)) (by(delta cg;simp)) (a7 ((jk  (n:=3) L h).ve λQ q=>q) λ_ S' g=>?_)) k
  show Bm _ id (λi x=>kI i x) [] rfl rfl rfl (by change 3<=1000000;decide) #[rfl,.refl] λi x hi S2 k2=>?_
  show(vA  L ((f x (O7 hi)).ka (g.trans k2))).ve λQ q=>q
 ·have z:=Rh.mpr z;have e:cg w=false:=by
   unfold cg;split
   ·cases z
   ·rfl
  show bC (dJ  (by rw[z,e];rfl) (a7 (y:=true) ((jk   L h).ve λQ q=>q) λy=>by rw[z]at y;cases y)) k
def Br (L:Look defs)(h:Thg S w):Cv (ae defs fuel (d+5)) "has_form" 1 [w] S (.bl (cU w)):=bG [ba w,gV] L.form rfl rfl rfl λA k=>by
 by_cases z:dU 3 w=true
 ·obtain⟨xs,rfl,e⟩:=jQ z;obtain⟨i,_⟩:=h.mem;obtain⟨a,b,c,rfl⟩:∃a b c,xs=[a,b,c]:=match xs,e with|[a,b,c],_=>#[a,b,c,rfl]
  have p:=i a OU;have r:=i b (OV _ OU);have hc:=i c (OV _ (OV _ OU));show aU λK hK=>cL  (bF  (aO (x:=true) (eZ ((jk  (n:=3) L h).ve λQ q=>q))) λ_ S' g=>aO (je (cf _ id _ [] rfl rfl rfl (by change 3<=1000000;decide) #[rfl,.refl] λx f S2 k2=>dT (λQ q=>q) ((i x f).ka (g.trans k2)).t))) (λz S' g=>#[cN,λS2 k2=>?_]) λz S1 k1=>hK _ _ ?_
  ·have:cU (.tup [a,b,c])=false:=by
    unfold cU;split
    next e=>injection e with e;injection e with e1 e;injection e with e2 e;injection e with e3 _;subst e1 e2 e3;cases z
    ·rfl
   rw[this]at k;show k _ (g.trans k2)
  ·cases a with
   |tup j=>
    cases b with
    |tup N=>
     cases c with
     |tup B=>
      obtain⟨t,E⟩:=p.mem;obtain⟨u,G⟩:=r.mem;obtain⟨s,D⟩:=hc.mem;show j6  (cf j id _ [] rfl rfl rfl (by show OQ ‹_› (OP rfl)) (by left;show ap #v[] rfl #[by rw[Sv],.refl]) λx f S2 k2=>dT (λQ q=>q) ((t x f).ka (k1.trans k2)).s) λS2 k2=>?_
      show bC (a7  (nk λQ q=>q) λ_ m k3=>a7   ?_ λ_ o l=>?_) λm k3=>k _ (k1.trans (k2.trans k3))
      ·show cf N id _ [] rfl rfl rfl (by show OQ ‹_› (OP rfl)) ?_ λx f o l=>?_
       ·left;show ap #v[] rfl #[by rw[Sv],.refl]
       ·show(EK  L ((u x f).ka (k1.trans (k2.trans (k3.trans l))))).ve λQ q=>q
      ·show cf B id _ [] rfl rfl rfl ∅ ?_ λx f C k5=>?_
       ·left;show ap #v[] rfl #[by rw[Sv],.refl]
       ·show(EM  L ((s x f).ka (k1.trans (k2.trans (k3.trans (l.trans k5)))))).ve λQ q=>q
     |_=>cases z
    |_=>cases z
   |_=>cases z
 ·have z:=Rh.mpr z;have e:cU w=false:=by
   unfold cU;split
   ·cases z
   ·rfl
  rw[e]at k;show aU λK hK=>cL (x:=true||true) (bF  (gP (by rw[z];rfl) (aO (eZ ((jk   L h).ve λQ q=>q)))) λy=>by cases y) (λz S' g=>#[cN,λS2 k2=>k _ (g.trans k2)]) λy=>by cases y
abbrev bo (x y:O8):O6:=(decide (1<=x)&&decide (x<=3))&&((decide (1<=y)&&decide (y<=3))&&decide (x*y<=6))
abbrev cV (y:OM):O6:=!(decide (y∈bN))&&((decide (1<=(↥y:O8))&&decide ((↥y:O8)<=8))&&xH y)
abbrev cO (L:Ow OM):O6:=L.all cV&&((eP L).length==↥L)
def Bs (h:S[i]?=ba (.lst (ss.map W.str)))(hl:↥ss<=100)(q:Q (.ref ↥S,S++[.stt (eP ss).length])):wO (Bi.set.fn [.ref i] S) Q:=by
 show ac ?_ q;have e:js [.ref i] S=ba (.ref ↥S,S++[.stt (eP ss).length]):=by
  delta js;simp only[az h,mH];rw[OZ (by unfold scanBound;omega)]
 delta Bi.fn D9;rw[e]
def tJ (h:S[i]?=ba (.stt n))(q:Q (.int n,S)):wO (Bi.len.fn [.ref i] S) Q:=by
 show ac  ?_ q;have a:xS S i=gV:=by(delta xS;simp[h])
 have b:gy S i=gV:=by(delta gy;simp[h])
 have c:Mq S i=ba n:=by(delta Mq;simp[h])
 delta Bi.fn D9 sj DY;revert a b c Option.map_none
abbrev bS (bs:Ow O8)(k:OH):O6:=(decide (0<=bs.getD k 0)&&decide (bs.getD k 0<(↥bs:O8)))&&(decide ((if bs.getD k 0-(k:O8)<0 then -(bs.getD k 0-(k:O8))else bs.getD k 0-(k:O8))<=1)&&(bs.getD (bs.getD k 0).toNat 0==(k:O8)))
def Jm (a:↥ns=↥bs)(h:bs[k]?=ba b):∃y,(OO aw ns bs)[k]?=ba (aw y b):=by
 have hk:=(OS.mp h).1;show#[ns[k]'∅,?_]
 rw[Qa,h,ON ∅]
def LR {r:Oz W}(a : -(2^64)<y)(b:y<2^64):Ve M [r,ba (.int x),ba (.int y)] (.cmp .le (.op .mul (.v 1) (.v 2)) (.c (.int 6))) S (.bl (decide (x*y<=6))):=λQ k=>by
 show F7   (λQ q=>q) (λQ q=>q) a b ?_
 show ac rfl (k _ .refl)
def Bt {r:W}{a:QO}(k:∀S',Ka S S'->a (.rt (.bl (bo x y)),S')):wZ M fuel #v[.ret (.and (.chn .le .le (.c (.int 1)) (.v 1) (.c (.int 3))) (.and (.chn .le .le (.c (.int 1)) (.v 2) (.c (.int 3))) (.cmp .le (.op .mul (.v 1) (.v 2)) (.c (.int 6)))))] [ba r,ba (.int x),ba (.int y)] S a:=by
 show bC (a7 (jO (p:=λj n=>decide _) (λQ q=>q) (λQ q=>q) (λQ q=>q) rfl) λ_ S1 k1=>a7 (jO (p:=λj n=>decide _) (λQ q=>q) (λQ q=>q) (λQ q=>q) rfl) λz S2 k2=>?_) k
 rw[OE]at z;have b:=PC z.1;have c:=PC z.2;show LR ∅ ∅
def Bu (L:Look defs){ a:Ow W}:Cv (ae defs fuel (d+1)) p3 1 [.tup [.tup xs,.tup a,b0]] S (.bl (bo ↥xs ↥a)):=bG [ba _,gV,gV] L.bounds rfl rfl rfl λb k=>by
 show j6  (λQ q=>?_) λS1 k1=>j6  (λQ q=>?_) λS2 k2=>Bt λc k3=>k _ (k1.trans (k2.trans k3))
 ·left;show ap #v[] rfl (aL (q _ .refl))
 ·left;show ap #v[] rfl (aL (q _ .refl))
def Bv (L:Look defs)(h:Asc y):Cv (ae defs fuel (d+1)) "is_name" 1 [.str y] S (.bl (cV y)):=bG _ L.name rfl rfl rfl λf k=>by
 have hl:↥y.cps.toList<=1000:=by have:=h.len;rwa [gh]at this
 have a:=λc hc=>by
  have:=h.lo;rw[<- XG,OT]at this;show PC (this c hc)
 show aU λK hK=>cL (x:=decide _ ||!(decide _&&decide ((↥y:O8)<=8))) (bF (cC (ig (λQ q=>q) (λQ q=>q) Bh)) λ_ S' _=>aO (o9 (p:=λj n=>decide _) (λQ q=>q) (λQ q=>?_) (λQ q=>q) rfl)) (λz S' b=>#[cN,λS2 k2=>?_]) λz S1 k1=>hK _ _ (bC (w:=.bl (xH y)) ?_ λS2 k2=>?_)
 ·show Bj h.len q
 ·have e:cV y=false:=by
   unfold cV;generalize(decide (1<=(↥y:O8))&&decide ((↥y:O8)<=8))=p at z ⊢;generalize decide (y∈bN)=q at z ⊢;cases p<;>cases q<;>first|rfl|cases z
  rw[e]at k;show k _ (b.trans k2)
 ·show Bl y _ [] rfl rfl rfl (by show OQ ‹_› (OP rfl)) h.lo #[rfl,.refl] λc hc S2 _=>ig (λQ q=>q) (λQ q=>q) (EJ (a c hc))
 ·have e:cV y=xH y:=by
   unfold cV;generalize(decide (1<=(↥y:O8))&&decide ((↥y:O8)<=8))=p at z ⊢;generalize decide (y∈bN)=q at z ⊢;cases p<;>cases q<;>first|rfl|cases z
  rw[e]at k;show k _ (k1.trans k2)
def EN (L:Look defs){a :Ow OM}(l:↥ns=↥bs)(hl:(a++ns).length<=100)(g:∀y∈a++ns,Asc y):Cv (ae defs fuel (d+2)) po 1 [.tup [.tup (a.map W.str),.tup (OO aw ns bs),b0]] S (.bl (cO (a++ns))):=bG [ba _,gV] L.names rfl rfl rfl λj k=>by
 have i:OO aw ns bs=(ns.zip bs).map λp=>aw p.1 p.2:=by rw[Yp,Vt]
 have c:(ns.zip bs).map (λp=>W.str p.1)=ns.map W.str:=by
  rw[show(λp=>W.str p.1)=W.str∘Zk from rfl,<- QR,XH ∅]
 rw[OL]at hl;nofun
 left;show ap #v[] rfl ?_
 show ac rfl ?_;show IZ (ns.zip bs) (λp=>aw p.1 p.2) (λ_=>true) (λp=>W.str p.1) [] rfl rfl rfl rfl (by rw[Ux];omega) (by left;show ap #v[] rfl #[congrArg W.tup i,.refl]) (λp _ S' _=>?_) λS1 k1=>?_
 ·delta oZ wC wE wV wG;show#[λ_=>ap #v[] rfl #[rfl,rfl,.refl],λz=>by cases z]
 rw[jd,c];show ac (oU (aV (k1.get _ _ ak)) ak (jc (by rw[OL,OC,OC];omega))) ?_
 rw[<- PP];show hK _ _ ?_;have b:(S1++[O.lst (ns.map W.str)]++[O.lst ((a++ns).map W.str)])[(S1++[O.lst (ns.map W.str)]).length]?=ba (.lst ((a++ns).map W.str)):=ak;have k2:Ka S (S1++[O.lst (ns.map W.str)]++[O.lst ((a++ns).map W.str)]):=(Ka.push.trans k1).trans (Ka.push.trans .push);generalize(S1++[O.lst (ns.map W.str)]).length=t at b ⊢;show bC  (a7 (Bk (a++ns) W.str cV [] rfl rfl rfl (by rw[OL];omega) #[t,rfl,b,.refl] λy h S' _=>(Bv  L (g y h)).ve λQ q=>q) λ_ f k3=>λQ q=>?_) λf k3=>k _ (k2.trans k3)
 left;have e:=k3.get _ _ b;show Bs e (by rw[OL];omega) ?_
 show tJ ak (lO (aV e) (ac eW ?_));rw[OC,show(((eP (a++ns)).length)==((a++ns).length:O8))=((eP (a++ns)).length==(a++ns).length) by rw[SI,Rm,Rm];omega]
 show q _ .push
def Jn (L:Look defs)(e:↥ns=↥bs)(h:bs[k]?=ba b)(q:Q (.int b,S)):wO (aY (ae defs fuel (d+1)) "back" 2 [.tup [m0,.tup (OO aw ns bs),b0],.int k] S) Q:=by
 show aF L.back rfl rfl λa c=>?_
 change wZ _ _ _ [ba _,ba _] S a;obtain⟨y,f⟩:=Jm e h;show st ?_;left;show ap #v[] rfl (ap (PD k) (by show f) (ap #v[] rfl (c _ _ q)))
def Bw (L:Look defs)(e:↥ns=↥bs)(hk:k<↥bs):Cv (ae defs fuel (d+2)) "is_right_back" 2 [.tup [m0,.tup (OO aw ns bs),b0],.int k] S (.bl (bS bs k)):=bG _ L.isback rfl rfl rfl λm q=>by
 have l:(OO aw ns bs).length=↥bs:=by rw[PM,e];omega
 have c:bs[k]?=ba (bs.getD k 0):=by rw[P5,ON hk];rfl
 have bk:=λS Q k b (h:bs[k]?=ba b)=>Jn (fuel:=fuel) (d:=d) (S:=S) (Q:=Q) (m0:=m0) (b0:=b0) L e h
 have i:∀S Q,Q (.int ↥bs,S)->wO (mL (.tup [m0,.tup _,b0]) (.int 1) S) λp=>wO (Bi.len.fn [p.1] p.2) Q:=λS Q q=>by
  show ap #v[] rfl (aL ?_)
  rw[l];show q
 unfold bS at q;generalize o:bs.getD k 0=b at c q;show j6 (w:=.int b) (λQ a=>?_) λS1 k1=>?_
 ·left;show bk _ _ k b c (a _ .refl)
 show aU λK hK=>cL (x:=!(decide _&&decide (b<↥bs))) (aO (o9 (p:=λj n=>decide _) (λQ q=>q) (λQ q=>q) (λQ q=>?_) rfl)) (λz S' a=>#[cN,λS2 k2=>?_]) λz S2 k2=>hK _ _ ?_
 ·show i _ _ q
 ·rw[show(decide _&&decide (b<↥bs))=false from Rh.mpr λy=>(by rw[y]at z;cases z),Sj]at q
  show q _ (k1.trans (a.trans k2))
 ·have z:(decide (0<=b)&&decide (b<↥bs))=true:=by simpa using z
  rw[z,Qw]at q;rw[OE]at z;have r:=PC z.1;have s:=PC z.2;obtain⟨j,rfl⟩:∃j:OH,b=j:=#[b.toNat,∅]
  show bC (a7   (λQ q=>?_) λ_ f k3=>λQ q=>?_) λf k3=>q _ (k1.trans (k2.trans k3))
  ·show ac rfl ?_;show ac Nq (q _ .refl)
  ·left;have g:bs[j]?=ba (bs.getD (j:O8).toNat 0):=by rw[Pi,P5,ON (by show Sy.mp ‹_›)];rfl
   show bk _ _ j _ g (ac eW (q _ .refl))
def EO (L:Look defs)(a:↥ns=↥bs)(f:↥bs<=1000):Cv (ae defs fuel (d+3)) pa 1 [.tup [m0,.tup (OO aw ns bs),b0]] S (.bl ((Pj ↥bs).all (bS bs))):=bG [ba _] L.backs rfl rfl rfl λe k=>by
 have c:(OO aw ns bs).length=↥bs:=by rw[PM,a];omega
 show bC (Jb _ _ _ rfl rfl rfl (by show OQ ‹_› (OP rfl)) ?_ λx b S' _=>?_) k
 ·left;show ap #v[] rfl (aL #[by rw[c],.refl])
 ·show(Bw  L a b).ve λQ q=>q
def ny :t∈aN↔Ord 3 t/\↥t=3:=by
 rw[show(t∈aN)↔t∈tF 3 by
  constructor
  ·intro h;show(by decide:∀x∈aN,x∈tF 3) t h
  ·intro h;show(by decide:∀x∈tF 3,x∈aN) t h]
 show pc
def Jo :∃t∈aN,ie bs u=aB bs u t/\∀s∈aN,dB (bI (aB bs u s)) (bI (ie bs u))=ba false:=by
 obtain⟨x,a,f,c⟩:=rn (ks:=(aN.map (aB bs u)).map bI) (λx d=>by obtain⟨p,_,rfl⟩:=O0.mp d;show eY p) (d8 _) (by(delta aN;simp))
 rw[OY,OG]at a;obtain⟨v,b,rfl⟩:=a;have e:ie bs u=v:=by unfold ie;rw[P5,b];rfl
 rw[e];obtain⟨t,ht,rfl⟩:=O0.mp (O7 b);show#[t,ht,rfl,λs hs=>c _ (O0.mpr #[_,O0.mpr #[s,hs,rfl],rfl])]
def nz (h:↥u=3):ie bs u=dw bs u:=by
 obtain⟨t,ht,e,g⟩:=Jo;obtain⟨o,c,d,f⟩:=jg;have hl:∀t∈aN,dB (bI (aB bs u t)) (bI (dw bs u))=ba false:=λt ht=>by
  obtain⟨a,b⟩:=ny.mp ht;rw[<- h]at a b;show(nu   ↥u (OR _)).least t a b
 show gj (vw (eY _) ?_ ?_)
 ·rw[e];show hl t ht
 ·rw[<- f];rw[h]at c d;show g o (ny.mpr #[c,d])
def eF (h:x∈qW n):0<=x/\x<n:=by
 obtain⟨k,hk,rfl⟩:=O0.mp h;have:=Pn.mp hk;omega
def tK {a :OH}(h:u∈qX a n):GoodW a n u/\↥u=3:=by
 unfold qX at h;simp only[Uc,O0]at h;obtain⟨m0,e,k,f,l,g,m,b,w2,c,w3,d,rfl⟩:=h;show#[?_,rfl];have i:GoodW a n ([]++[(m0,[])]):=GoodW.nil.snoc (eF e) rfl (λw hw=>nomatch hw)
 have j:=i.snoc (eF f) rfl (λw hw=>by rw[O3.mp hw];show eF b)
 show j.snoc (eF g) rfl (λw hw=>by
  simp only[O2,PL,Q9]at hw;rcases hw with rfl|rfl
  ·show eF c
  ·show eF d)
def Jp {a:OH}{g:Wd}(f:GoodB bs)(h:g∈br a bs):GoodW a ↥bs g/\↥g=3/\dw bs g=g:=by
 unfold br at h;rw[UW]at h;obtain⟨u,j,rfl⟩:=O0.mp h;obtain⟨c,i⟩:=tK j;rw[nz i];obtain⟨o,b,d,e⟩:=jg;rw[<- e];show#[xI f c b.lt b.nd,by rw[bD,d,i],by rw[tH f c b d,e]]
def lY:∀{us:Ow Wd},zq (us.map bI)->∀p∈us.zip (us.drop 1),dB (bI p.1) (bI p.2)=ba true
 |[],_,p,a=>nomatch a
 |[_],_,p,a=>nomatch a
 |x::y::us,h,p,a=>by
  have h:List.Pairwise (λx y=>dB x y=ba _) (bI x::bI y::us.map bI):=h
  rw[SC]at h;rcases O2.mp a with e|a
  ·subst e;show h.1 _ OU
  ·show lY (us:=y::us) h.2 p a
def Bx:∀(ss a:Ow OM),(a++ss).Nodup->ss.foldl nY a=a++ss
 |[],a,_=>by rw[Ql];rfl
 |x::ss,a,h=>by
  have e:nY a x=a++[x]:=by
   unfold nY;rw[Pd];intro z;rw[RA]at h;show h.2.2 x z x OU rfl
  rw[Uq,e,Bx ss _ (by rw[Rc];show h),Rc];rfl
def nA:∀xs a:Ow O8,∃b,bO (xs.map T.int) (a.map T.int)=ba b
 |[],[]=>#[_,rfl]
 |[],_::_=>#[_,rfl]
 |_::_,[]=>#[_,rfl]
 |x::xs,y::a=>by
  change ∃b,(if T.int x=T.int y then bO _ _ else ba _)=ba b
  split
  ·show nA xs a
  ·show#[_,rfl]
def LS (p q:Pt):∃b,dB (gF p) (gF q)=ba b:=by
 change ∃b,(if T.int p.1=T.int q.1 then(if T.tup _=T.tup _ then ba _ else bO _ _)else ba _)=ba b
 split
 ·split
  ·show#[_,rfl]
  ·show nA _ _
 ·show#[_,rfl]
def By:∀u v:Wd,∃b,bO (u.map gF) (v.map gF)=ba b
 |[],[]=>#[_,rfl]
 |[],_::_=>#[_,rfl]
 |_::_,[]=>#[_,rfl]
 |p::u,q::v=>by
  change ∃b,(if gF p=gF q then bO _ _ else dB _ _)=ba b
  split
  ·show By u v
  ·show LS p q
abbrev EQ (u v:Wd):O6:=(dB (bI u) (bI v)).getD false
def LU :b9 .lt (aM u) (aM v) S=ba (.bl (EQ u v),S):=by
 show(match W.t _,W.t (aM v)with|some a,ba b=>if a.depth<=aD/\b.depth<=aD then(dB a b).map λk=>(W.bl k,S)else gV|_,_=>gV)=_
 rw[AQ,AQ];dsimp only;obtain⟨b,h⟩:=By u v;have h:dB (bI u) (bI v)=ba b:=h;unfold EQ;rw[OZ #[OQ (fS u) #v[],OQ (fS v) #v[]],h];rfl
abbrev bJ (a n:OH)(p:Pt):O6:=(decide (0<=p.1)&&decide (p.1<(a:O8)))&&p.2.all λx=>decide (0<=x)&&decide (x<(n:O8))
abbrev ff (a:OH)(bs:Ow O8)(u:Wd):O6:=u.all (bJ a ↥bs)&&decide (dw bs u=u)
abbrev gG (us:Ow Wd):O6:=(us.zip (us.drop 1)).all λp=>EQ p.1 p.2
abbrev bY (u:Wd):Prop:=↥u=3/\∀(k:OH) (p:Pt),u[k]?=ba p->↥p.2=k
def vB {a :OH}(h:bY u)(c:u.all (bJ a n)=true):GoodW a n u:=by
 have b:∀k (p:Pt),u[k]?=ba p->(0<=p.1/\p.1<a)/\∀w∈p.2,0<=w/\w<n:=λk p e=>by
  have:=OT.mp c p (O7 e);unfold bJ at this;simp only[OE,O1,OT]at this;show#[this.1,this.2]
 show#[λk p e=>(b k p e).1,h.2,λk p e=>(b k p e).2]
def tL {a :OH}(h:GoodW a n u):u.all (bJ a n)=true:=OT.mpr λp b=>by
 obtain⟨k,e⟩:=QE.mp b;unfold bJ;revert OE O1 OT;show#[h.mark k p e,h.way k p e]
def Thg.pt {p:Pt}(h:↥p.2<=100):Thg S (b7 p):=.tup (λx a=>by
 rcases O2.mp a with rfl|a
 ·show .int
 ·cases O3.mp a;show .tup (λy b=>?_) (by rw[OC];show h)
  obtain⟨i,_,rfl⟩:=O0.mp b;show .int) (OP rfl)
def Jq {ws:Ow O8}:(ws.map W.int).all cz=true:=OT.mpr λx a=>by
 obtain⟨i,_,rfl⟩:=O0.mp a;rfl
def lZ {p:Pt}(h:↥p.2=n):kI n (b7 p)=true:=by
 show(true&&((p.2.map _).length==n&&(p.2.map _).all _))=true;rw[OC,h,Jq,PB];rfl
def ER (L:Look defs){a  :OH}{p:Pt}(g:↥xs=a)(i:↥b=n)(h:↥p.2=s)(hs:s<=100):Cv (ae defs fuel (d+4)) "is_point" 3 [.tup [.tup xs,.tup b,b0],b7 p,.int s] S (.bl (bJ a n p)):=bG [ba _,ba _,ba _,gV] L.point rfl rfl rfl λl k=>by
 have c:∀S Q,Q (.int a,S)->wO (mL (.tup [.tup xs,.tup b,b0]) (.int 0) S) λp=>wO (Bi.len.fn [p.1] p.2) Q:=λS Q q=>by
  show ap #v[] rfl (aL ?_)
  rw[g];show q
 have e:∀S Q,Q (.int n,S)->wO (mL (.tup [.tup xs,.tup b,b0]) (.int 1) S) λp=>wO (Bi.len.fn [p.1] p.2) Q:=λS Q q=>by
  show ap #v[] rfl (aL ?_)
  rw[i];show q
 generalize W.tup [.tup xs,.tup b,b0]=R at c e ⊢;show aU λK hK=>cL  (w:=.bl false) (aO (eZ (((vA  L (Thg.pt ∅)).eq (lZ h)).ve λQ q=>q))) (λz=>by cases z) λ_ S1 k1=>hK _ _ ?_
 show j6  (jO (p:=λj n=>decide (j<n)) (λQ q=>q) (λQ q=>?_) (λQ q=>?_) rfl) λS2 k2=>bC (a7   (nk λQ q=>q) λ_ f k3=>cf p.2 W.int (λx=>decide (0<=x)&&decide (x<n)) [ba R] rfl rfl rfl ∅ ?_ λx o m r=>jO (p:=λj n=>decide (j<n)) (λQ q=>q) (λQ q=>q) (λQ q=>?_) rfl) λf k3=>k _ (k1.trans (k2.trans k3))
 ·delta wE wV wG;show ap #v[] rfl q
 ·show c _ _ q
 ·delta wE wV wG OJ;show ap #v[] rfl #[rfl,.refl]
 ·show e _ _ q
def LV (c:30<fuel)(L:Look defs)(P:Parts defs)(e:Is defs ("longer_orders") 2 4 aE)(r:Is defs ("least_form") 2 7 aQ){a:OH}{g:Wd}(o:GoodB bs)(n:↥xs=a)(h:↥ns=↥bs)(m:bY g) :
  Cv (ae defs fuel (d+5)) "is_figure" 2 [.tup [.tup xs,.tup (OO aw ns bs),b0],aM g] S (.bl (ff a bs g)):=bG _ L.fig rfl rfl rfl λu k=>by
 have t:(OO aw ns bs).length=↥bs:=by rw[PM,h];omega
 obtain⟨l,f⟩:=m;have b:(g.zipIdx.all λp=>bJ a ↥bs p.1)=g.all (bJ a ↥bs):=by
  rw[show(λp=>bJ a _ p.1)=bJ a _∘Zk from rfl,<- W5,List.zipIdx_map_fst]
 show aU λK hK=>cL  (aO (gP b (je (Bm g b7 (λ_ p=>bJ a _ p) _ rfl rfl rfl ∅ #[rfl,.refl] λi p j S' _=>(ER  L n t (f i p j) (by have:=(OS.mp j).1;omega)).ve λQ q=>q)))) (λz S' s=>#[cN,λS2 k2=>?_]) λz S1 k1=>hK _ _ ?_
 ·have:ff a bs g=false:=by unfold ff;rw[show g.all (bJ a ↥bs)=false by simpa using z];rfl
  rw[this]at k;show k _ (s.trans k2)
 ·have z:g.all (bJ a ↥bs)=true:=by simpa using z
  show st ?_;left;show pd  c P e r o h (vB #[l,f] z) ∅ λS2 k2=>?_
  show ac Bc ?_;have:ff a bs g=decide (dw bs g=g):=by unfold ff;rw[z,Qw]
  rw[this]at k;show k _ (k1.trans k2)
def Bz (b:30<fuel)(L:Look defs)(P:Parts defs)(e:Is defs ("longer_orders") 2 4 aE)(j:Is defs ("least_form") 2 7 aQ){a:OH}(i:GoodB bs)(h:↥xs=a)(l:↥ns=↥bs)(m:∀g∈us,bY g)(hl:↥us<=1000) :
  Cv (ae defs fuel (d+6)) pe 1 [.tup [.tup xs,.tup (OO aw ns bs),.tup (us.map aM)]] S (.bl (gG us&&us.all (ff a bs))):=bG [ba _,gV,gV] L.barred rfl rfl rfl λo k=>by
 have n:iJ (us.map aM) ((us.map aM).drop 1)=(us.zip (us.drop 1)).map λp=>W.tup [aM p.1,aM p.2]:=by
  unfold iJ;rw[<- Ug,XB,Yp,Vt]
 show j6  (λQ q=>?_) λS1 k1=>j6  (Jc (us.zip (us.drop 1)) (λp=>aM p.1) (λp=>aM p.2) (λp=>EQ p.1 p.2) [] rfl rfl rfl rfl (by rw[Ux];omega) _ _ n ?_ λp r S' _=>ig (λQ q=>q) (λQ q=>q) LU) λS2 k2=>bC (a7  (nk λQ q=>q) λ_ f k3=>cf us aM (ff a bs) [ba (.tup [.tup xs,.tup (OO aw ns bs),.tup (us.map aM)])] rfl rfl rfl (by show OQ ‹_› (OP rfl)) #[rfl,.refl] λg c S' _=>(LV  b L P e j i h l (m g c)).ve λQ q=>q) λf k3=>k _ (k1.trans (k2.trans k3))
 ·left;show ap #v[] rfl (q _ .refl)
 ·delta wE wP wV wG wN OJ;show ac (a:=(.tup ((us.map aM).drop 1),S1)) ?_ #[rfl,rfl,.refl];change ba (W.tup (gB (us.map aM) (ba ((1:OH))) gV),S1)=_;rw[iZ]
abbrev rD (a b2 b3 b4 b5:O6):W:=if !a then .tup [.str "NoRule",.str "form"]else if !b2 then .tup [.str "NoRule",.str "bounds"]else if !b3 then .tup [.str "NoRule",.str "names"]else if !b4 then .tup [.str "NoRule",.str "backs"]else if !b5 then .tup [.str "NoRule",.str "barred"]else .tup [.non,.bl true]
def LW {f :OM}{a:QO}(h:Cv M f 1 [w] S (.bl b))(hf:b=false->∀S',Ka S S'->a (.rt (.tup [.str "NoRule",.str x]),S'))(ht:b=true->∀S',Ka S S'->wZ M fuel ss [ba w] S' a):wZ M fuel (.cons (.ite (.not (.own f 1 #v[.v 0])) #v[.ret (.tup #v[.c (.str "NoRule"),.c (.str x)])] .nil) ss) [ba w] S a:=by
 show aU λK hK=>cL  (w:=.tup [.str _,.str x]) (aO (eZ (h.ve λQ q=>q))) (λz S' c=>#[nk λQ q=>q,λS2 k2=>hf (by simpa using z) _ (c.trans k2)]) λz S1 k1=>hK _ _ (ht (by simpa using z) _ k1)
def vC (L:Look defs){e b2   :O6}
  (l:Cv (ae defs fuel (d+6)) "has_form" 1 [w] S (.bl e))
  (m:e=true->∀S',Cv (ae defs fuel (d+6)) p3 1 [w] S' (.bl b2))
  (n:e=true->b2=true->∀S',Cv (ae defs fuel (d+6)) po 1 [w] S' (.bl b3))
  (o:e=true->b2=true->b3=true->∀S',Cv (ae defs fuel (d+6)) pa 1 [w] S' (.bl b4))
  (p:e=true->b2=true->b3=true->b4=true->∀S',Cv (ae defs fuel (d+6)) pe 1 [w] S' (.bl b5)) :
  Cv (ae defs fuel (d+7)) "look_rule!" 1 [w] S (rD e b2 b3 b4 b5):=bG _ L.lookX rfl rfl rfl λt k=>by
 show LW l (λz S' a=>?_) λb S1 k1=>LW (m b S1) (λz S' a=>?_) λc S2 k2=>LW (n b c S2) (λz S' a=>?_) λf i k3=>LW (o b c f i) (λz S' a=>?_) λg j h=>LW (p b c f g j) (λz S' a=>?_) λs u k5=>bC (w:=.tup [.non,.bl _]) (nk λQ q=>q) λv r=>?_
 ·rw[z]at k;show k _ a
 ·rw[b,z]at k;show k _ (k1.trans a)
 ·rw[b,c,z]at k;show k _ (k1.trans (k2.trans a))
 ·rw[b,c,f,z]at k;show k _ (k1.trans (k2.trans (k3.trans a)))
 ·rw[b,c,f,g,z]at k;show k _ (k1.trans (k2.trans (k3.trans (h.trans a))))
 ·rw[b,c,f,g,s]at k;show k _ (k1.trans (k2.trans (k3.trans (h.trans (k5.trans r)))))
abbrev fW:Ss:=
 #v[.asg [1,2] (.own "_law_sizes" 1 #v[.v 0]),.set 3 (.own qy 4 #v[.v 0,.v 1,.own "_law_backs" 2 #v[.v 0,.v 2],.tup .nil]),.set 4 .dnew,.loop (.nm 5) (.rng #v[.own qq 2 #v[.v 0,.ix (.lst #v[.c (.int 4),.c (.int 9),.c (.int 25)]) (.own qq 2 #v[.v 0,.c (.int 3)])]]) #v[.put (.v 4) (.own zn 2 #v[.v 3,.own vr 3 #v[.v 0,.v 1,.v 2]]) (.c (.bl true))],.ret (.tup #v[.ix (.v 3) (.c (.int 0)),.ix (.v 3) (.c (.int 1)),.bi .tuple #v[.bi .sorted #v[.v 4]]])]
abbrev bZ:Ss:=
 #v[.ret (.op .add (.op .add (.sl (.v 0) .no (.yes (.v 1))) (.tup #v[.v 2])) (.sl (.v 0) (.yes (.op .add (.v 1) (.c (.int 1)))) .no))]
section
variable{f:OM}{es:Es}{a:Ss}{S2:aa}{ws:Ow W}{v:W}
def ES (d:bP M es Z S=ba (ws,S1))(hl:↥ws=k)(e:M f ws S1=ba (v,S2))(g:xo v=ba (.bl true)):(BK.test f k es a).fs M Z S=bQ M 0 a Z S2:=by
 have b:fM k (u6 (M f)) (bP M es) Z S=ba (.bl true,S2):=by
  unfold fM;rw[d];dsimp only;rw[OZ hl];unfold u6;rw[e];dsimp only;rw[g];rfl
 have c:iH (oG .is (fM k (u6 (M f)) (bP M es)) (fC (.bl true))) Z S=ba (true,S2):=by
  delta iH oG zG;rw[b];rfl
 delta BK.fs;unfold gC;rw[c]
def LX (b:bP M es Z S=ba (ws,S1))(hl:↥ws=k)(c:M f ws S1=ba (v,S2))(a:xV v=ba (cn,us)):fM k (u6 (M f)) (bP M es) Z S=gV/\mW k (xG (M f)) (bP M es) Z S=ba (cn,us,S2):=by
 have d:xo v=gV:=by
  cases e:xo v with
  |none=>rfl
  |some w=>rw[Ls e]at a;cases a
 constructor
 ·unfold fM;rw[b];dsimp only;rw[OZ hl];unfold u6;rw[c];dsimp only;rw[d];rfl
 ·unfold mW;rw[b];dsimp only;rw[OZ hl];unfold xG;rw[c];dsimp only;rw[a];rfl
def Jr (d:bP M es Z S=ba (ws,S1))(hl:↥ws=k)(e:M f ws S1=ba (v,S2))(g:xV v=ba (cn,us)):(BK.test f k es a).fs M Z S=gV/\(BK.test f k es a).fx M Z S=ba (cn,us,S2):=by
 obtain⟨b,c⟩:=LX d hl e g;show#[?_,c];delta BK.fs;delta gC iH oG zG;rw[b]
end
section
variable{cn:OM}{ws:Ow W}{j:OH}
def Js {a:OM->O6}(b:Z[i]?=ba (ba (.ref j)))(c:S[j]?=ba (.exc cn C gs ws))(d:cl cn=ba (C,gs)):xr cl a i Z S=ba (.bl (a cn),S):=by
 delta xr JP;rw[b];dsimp only;rw[c];dsimp only;rw[OZ d];rfl
def Jt (a:Z[i]?=ba (ba (.ref j)))(b:S[j]?=ba (.exc cn C gs ws))(c:cl cn=ba (C,gs))(d:(gs.zip ws).lookup g=ba w):xu cl g i Z S=ba (w,S):=by
 delta xu JP;rw[a];dsimp only;rw[b];dsimp only;rw[OZ c,d];rfl
end
def fc {α:Type}{P:α->Prop}{a:α}{l:Ow α}(h:P a)(t:∀x∈l,P x):∀x∈a::l,P x:=Wf.mpr #[h,t]
def fn {α:Type}{P:α->Prop}:∀x∈([]),P x:=λ_ h=>nomatch h
def fa {α:Type}{P:α->Prop}{l a:Ow α}(h:∀x∈l,P x)(t:∀x∈a,P x):∀x∈l++a,P x:=λx b=>(Px.mp b).elim (h x) (t x)
def pg (q:Q (.ref ↥S,S++[.lst xs])):wO (Bi.list.fn [.tup xs] S) Q:=by
 show ac ?_ q;delta Bi.fn pN dF
def ET (A:30<fuel)(G:Gen defs)(hg:Is defs ("_law_rule") 1 6 fW)(hf:Fl S r)(k:∀w S',A7 w->Fl S' r->Kp r S S'->Q (w,S')):wO (aY (ae defs fuel (d+6)) "_law_rule" 1 [.ref r] S) Q:=by
 show aF hg rfl rfl λM hR=>?_
 replace k:=λz S' a b c=>hR _ _ (k z S' a b c)
 nofun
 left;show EB  G hf λa n S1 a1 s n1 n3 an T k1=>?_
 show ac rfl (hK _ _ ?_);nofun
 left;show EC  G T n1 n3 λbs S2 J e V k2=>?_
 have hsz:SizeOk a bs:=#[∅,J,by rw[e];show an,s]
 show tB  A G V s ∅ λms ns N B f C I k3=>hK _ _ ?_
 have D:=I.lt;replace k3:=k1.trans (k2.trans k3);show st ?_;nofun
 show lT rfl rfl ?_;left;show aH  G.pick ((I.ka .push).ka .push) #v[] #v[] λl Sx w0 w3 fx kx=>?_
 have ex:=kx.get _ _ (by simp;omega) ak
 have R:=kx.get _ _ (by show PZ ‹_›) (aV  ak  )
 have hv:∃m:O8,[W.int 4,.int 9,.int 25][l.toNat]?=ba (.int m)/\0<m/\m<26:=by
  have h:l=0\/l=1\/l=2:=∅
  rcases h with rfl|rfl|rfl
  ·show#[4,rfl,#v[],#v[]]
  ·show#[9,rfl,#v[],#v[]]
  ·show#[25,rfl,#v[],#v[]]
 obtain⟨m,hm,m0,m1⟩:=hv;show vf ex w0 hm ?_;show aH  G.pick fx m0 ∅ λv S4 l v9 X L=>?_
 show#[v,λk Z S'=>(∃t,Z=[ba _,ba _,ba _,ba _,ba _,t])/\(∃U fs,S'[↥N]?=ba (.dic U)/\FigD (br a bs) U fs)/\Fl S' r/\Kp r S S',rfl,∅,#[#[gV,rfl],#[[],[],L.get _ _ (by show PZ ‹_›) R,.nil],X,(((k3.trans .push).trans .push).trans kx).trans L],?_,?_]
 ·rintro i Z O hi ⟨⟨t,rfl⟩,⟨U,fs,x,hd⟩,y,k5⟩ Q2 hn _;show st ?_;left;show o6  G y ∅ s ∅ n3 λu H g q Y j=>?_
  have q:=e.symm▸q;show qU  G J f q g λS7 E=>?_
  have P:=E.get _ _ (j.get _ _ (by show PZ ‹_›) x)
  show LN P hd hsz q g λo ho=>cM (hn _ _ #[#[_,rfl],ho,(Y.ka E).own D,((k5.trans j).trans (E.kp r)).late k3.len])
 ·rintro Z O ⟨⟨t,rfl⟩,⟨U,fs,x,hd⟩,y,k5⟩;show hK _ _ (st ?_);left;show LM (Q:=λp=>M (.rt p.1,p.2)) x hd hsz B f C λw H hw j=>k w H hw (y.ka j) (k5.trans (j.kp r))
def nB (c:Is defs ("_law_put") 3 3 bZ)(hl:↥xs<=1000)(k:Q (.tup (xs.take i++[w]++xs.drop (i+1)),S)):wO (aY (ae defs fuel (d+1)) qs 3 [.tup xs,.int i,w] S) Q:=by
 show aF c rfl rfl λa b=>?_
 replace k:=b _ _ k;change wZ _ _ bZ [ba (.tup xs),ba (.int i),ba w] S a;delta bZ;show st ?_;delta wS wE wA wP wV wG wN;show ac (show md (.tup xs) gV (ba (i)) S=ba (.tup (xs.take i),S) by revert md iY) ?_
 dsimp only;show ac (dj (jc (by rw[OL,Py];show _+1<=_;omega))) ?_
 dsimp only;show ac gN ?_;dsimp only;show ac (show md (.tup xs) (ba (i+1)) gV S=ba (.tup (xs.drop (i+1)),S) by rw[show i+1=((i+1:OH):O8) by omega];revert md iZ) ?_
 dsimp only;show ac (dj (jc (by rw[OL,OL,Py,Qm];show _+1+_<=_;omega))) k
abbrev dz:Ss:=
 #v[.loop (.nm 1) (.rng #v[.bi .len #v[.v 0]]) #v[.set 2 (.ix (.v 0) (.v 1)),.ite (.or (.not (.isi "tuple" (.v 2))) (.or (.cmp .ne (.bi .len #v[.v 2]) (.c (.int 2))) (.or (.not (.own vv 1 #v[.ix (.v 2) (.c (.int 0))])) (.not (.isi "tuple" (.ix (.v 2) (.c (.int 1)))))))) #v[.ret (.c (.bl false))] .nil,.ite (.or (.cmp .ne (.bi .len #v[.ix (.v 2) (.c (.int 1))]) (.v 1)) (.not (.bi .all #v[.comp (.own vv 1 #v[.v 1]) (.nm 1) (.seq (.ix (.v 2) (.c (.int 1)))) .nil [gV,gV]]))) #v[.ret (.c (.bl false))] .nil],.ret (.c (.bl true))]
abbrev jl:Ss:=
 #v[.ite (.or (.not (.isi "tuple" (.v 0))) (.or (.cmp .ne (.bi .len #v[.v 0]) (.c (.int 3))) (.not (.bi .all #v[.comp (.isi "tuple" (.v 1)) (.nm 1) (.seq (.v 0)) .nil [gV,gV]])))) #v[.ret (.c (.bl false))] .nil,.ite (.not (.bi .all #v[.comp (.isi "str" (.v 1)) (.nm 1) (.seq (.ix (.v 0) (.c (.int 0)))) .nil [gV,gV]])) #v[.ret (.c (.bl false))] .nil,.loop (.nm 1) (.seq (.ix (.v 0) (.c (.int 1)))) #v[.ite (.or (.not (.isi "tuple" (.v 1))) (.cmp .ne (.bi .len #v[.v 1]) (.c (.int 2)))) #v[.ret (.c (.bl false))] .nil,.ite (.or (.not (.isi "str" (.ix (.v 1) (.c (.int 0))))) (.not (.own vv 1 #v[.ix (.v 1) (.c (.int 1))]))) #v[.ret (.c (.bl false))] .nil],.ret (.bi .all #v[.comp (.and (.isi "tuple" (.v 1)) (.and (.cmp .eq (.bi .len #v[.v 1]) (.c (.int 3))) (.own "_law_form_points" 1 #v[.v 1]))) (.nm 1) (.seq (.ix (.v 0) (.c (.int 2)))) .nil [gV,gV]])]
structure LForm (defs:Ow (OM×Df)):Prop where
 whole:Is defs ("_law_is_whole": OM) 1 1 fe
 points:Is defs ("_law_form_points": OM) 1 3 dz
 rule:Is defs ("_law_form_rule": OM) 1 2 jl
section
variable{a:E}{x:O6}
def fg (b:∀Q:QW,Q (w,S)->wE M a Z S Q)(h:oI S w c=ba x):Te M Z (.isi c a) S x:=λQ k=>by
 show b _ (ac h (k S .refl))
def Ju (b:∀Q:QW,Q (.tup xs,S)->wE M a Z S Q):Ve M Z (.cmp .eq (.bi .len #v[a]) (.c (.int n))) S (.bl ((↥xs)==n)):=ig (λQ q=>by
 delta wE wA;show b _ (aL q)) (λQ q=>q) eW
def l4 (c:∀Q:QW,Q (.tup xs,S)->wE M a Z S Q)(d:∀Q:QW,Q (.int n,S)->wE M b Z S Q):Te M Z (.cmp .ne (.bi .len #v[a]) b) S (!((↥xs)==n)):=cC (ig (λQ q=>by
 left;show c _ (aL q)) d Ef)
end
def dN {n m:OH}:(n==(m:O8))=(n==m):=by rw[SI,Rm,Rm];omega
def gr {α:Type}{f:α->O6}{xs:Ow α}{x:α}(h:xs[i]?=ba x)(e:f x=false):xs.all f=false:=by
 rw[<- Bool.not_eq_true,OT];intro z;rw[z x (O7 h)]at e;cases e
def rE {α:Type}{f:α->O6}{xs:Ow α}(h:∀j x,j<↥xs->xs[j]?=ba x->f x=true):xs.all f=true:=OT.mpr λx b=>by
 obtain⟨j,a⟩:=QE.mp b;show h j x (OS.mp a).1 a
abbrev tM (xs:Ow W):O6:=xs.zipIdx.all λp=>kI p.2 p.1
def vD (h:dU 2 w=true):∃m t,w=.tup [m,t]:=by
 obtain⟨xs,rfl,e⟩:=jQ h;show match xs,e with|[m,t],_=>#[m,t,rfl]
def Jv (h:kI n w=true):dU 2 w=true:=by
 unfold kI at h;split at h
 ·rfl
 ·cases h
def l6 (L:LForm defs)(h:Thg S w):Cv (ae defs fuel (d+1)) vv 1 [w] S (.bl (cz w)):=bG _ L.whole rfl rfl rfl λb k=>by
 show bC (dJ (x:=(cz w||xE w) && !xE w) (by cases w<;>rfl) (a7 (dT (λQ q=>q) h.n) λ_ S' a=>?_)) k
 intro Q q;show ac (h.ka a).b (q _ .refl)
def Jw (L:LForm defs)(T:∀x∈xs,Thg S x)(hl:↥xs<=100):Cv (ae defs fuel (d+2)) "_law_form_points" 1 [.tup xs] S (.bl (tM xs)):=bG [ba (.tup xs),gV,gV] L.points rfl rfl rfl λV k=>by
 unfold dz;nofun
 show gf ↥xs (λi Z S'=>∃c f,Z=[ba (.tup xs),c,f]/\(∀j x,j<i->xs[j]?=ba x->kI j x=true)/\Ka S S') rfl rfl ∅ (by left;show aL #[rfl,gV,gV,rfl,λ_ _ h=>absurd h (QP _),.refl]) ?_ ?_
 ·rintro i Z S1 hi ⟨c,f,rfl,r,k1⟩ E I J;have hi:=Sy.mp hi;have b:=ON hi;have C:=(T _ (PX hi)).ka k1;generalize xs[i]=x at b C;have no:kI i x=false->∀S',Ka S1 S'->E (.rt (.bl false),S'):=λe S' a=>J _ _ (by
   have:tM xs=false:=gr   (x:=(x,i)) (by rw[Uk,b];simp) e
   rw[this]at k;show k _ (k1.trans a))
  have D:kI i x=true->∀w,(∃c f,w=[ba (.tup xs),c,f])->∀S',Ka S1 S'->E (.nx w,S'):=λe w h S' a=>I _ _ (by
   obtain⟨N,b2,rfl⟩:=h;show#[N,b2,rfl,λj y P l=>?_,k1.trans a]
   rcases Tu.mp P with h|rfl
   ·show r j y h l
   ·rw[b]at l;cases l;show e)
  clear I J k r;show j6  (nk λQ q=>by left;show ap (PD i) (by rw[Pi];show b) q) λS2 k2=>?_
  by_cases z:dU 2 x=true
  ·obtain⟨m,t,rfl⟩:=vD z;obtain⟨H,_⟩:=C.mem;have U:=H m OU;have M:=H t (OV _ OU);show aU λK hK=>cL  (bF (aO  (fg (λQ q=>q) rfl)) λ_ S' a=>bF (x:=false) (l4 (xs:=[m,t]) (n:=2) (λQ q=>q) λQ q=>q) λ_ u k3=>bF (aO (eZ ((l6  L (U.ka (k2.trans (a.trans k3)))).ve λQ q=>by left;show ap #v[] rfl q))) λ_ G o=>aO (fg (λQ q=>by left;show ap #v[] rfl q) (M.ka (k2.trans (a.trans (k3.trans o)))).t)) (λz S' a=>#[cN,λu k3=>no ?_ _ (k2.trans (a.trans k3))]) λz u k3=>hK _ _ ?_
   ·show(cz m&&vz i t)=false;cases g:cz m with
    |false=>rfl
    |true=>
     rw[g]at z;cases t<;>first|rfl|cases z
   ·clear hK K;have g:cz m=true:=by
     cases e:cz m with
     |true=>rfl
     |false=>rw[e]at z;cases z
    cases t with
    |tup us=>
     obtain⟨R,X⟩:=M.mem;show aU λK hK=>cL  (bF (l4  (λQ q=>by left;show ap #v[] rfl q) λQ q=>q) λ_ S' a=>aO (je (cf us id cz [] rfl rfl rfl (by show OQ ‹_› (OP rfl)) (by left;show ap #v[] rfl #[by rw[Sv],.refl]) λy l G o=>(l6  L ((R y l).ka (k2.trans (k3.trans (a.trans o))))).ve λQ q=>q))) (λz S' a=>#[cN,λG o=>no ?_ _ (k2.trans (k3.trans (a.trans o)))]) λz S' a=>hK _ _ (cM (D ?_ _ #[_,_,rfl] _ (k2.trans (k3.trans a))))
     ·show(cz m&&(↥us==i&&us.all cz))=false;rw[dN]at z;rw[g];cases e:↥us==i with
      |false=>rfl
      |true=>
       cases A:us.all cz with
       |false=>rfl
       |true=>rw[e,A]at z;cases z
     ·show(cz m&&(↥us==i&&us.all cz))=true;rw[dN]at z;rw[g];cases e:↥us==i with
      |false=>rw[e]at z;cases z
      |true=>
       cases A:us.all cz with
       |false=>rw[e,A]at z;cases z
       |true=>rfl
    |_=>rw[g]at z;cases z
  ·have z:dU 2 x=false:=Rh.mpr z;have e:kI i x=false:=by
    cases h:kI i x with
    |false=>rfl
    |true=>rw[Jv h]at z;cases z
   show aU λK hK=>cL (x:=true) ?_ (λ_ S' a=>#[cN,λu k3=>no e _ (k2.trans (a.trans k3))]) λz=>by cases z
   cases ht:rm x with
   |false=>show gP  rfl (bF (x:=true) (y:=true) (aO (x:=false) (fg (λQ q=>q) (by rw[(C.ka k2).t,ht]))) λh=>by cases h)
   |true=>
    cases x with
    |tup s=>
     have:(!((↥s:O8)==2))=true:=by
      have O:(↥s==2)=false:=z;have:=dN (n:=↥s) (m:=2);rw[O]at this;rw[show((↥s:O8)==2)=false from this];rfl
     show gP  (by rw[this];rfl) (bF  (aO  (fg (λQ q=>q) rfl)) λ_ S' a=>bF (y:=true) (l4   (λQ q=>q) λQ q=>q) λh=>by rw[this]at h;cases h)
    |_=>cases ht
 ·rintro Z S1 ⟨c,f,rfl,r,k1⟩;have:tM xs=true:=OT.mpr λp B=>by
   obtain⟨x,j⟩:=p;have:=Uw.mp B;show r j x (by have:=(OS.mp this).1;omega) this
  rw[this]at k;show hK _ _ (bC cN λS2 k2=>k _ (k1.trans k2))
def EU (h:jj w=true):dU 2 w=true:=by
 unfold jj at h;split at h
 ·rfl
 ·cases h
def BA (h:cU w=true):∃a N B,w=.tup [.tup a,.tup N,.tup B]:=by
 unfold cU at h;split at h
 ·show#[_,_,_,rfl]
 ·cases h
def nC :cg w=(match w with|.tup xs=>(↥xs==3)&&tM xs|_=>false):=by
 cases w with
 |tup xs=>
  match xs with
  |[a,b,c]=>(delta cg tM;simp)
  |[]=>rfl
  |[_]=>rfl
  |[_,_]=>rfl
  |_::_::_::_::_=>rfl
 |_=>rfl
def F8 {a :O6}(h:a=false\/b=false):(a&&b)=false:=by
 rcases h with rfl|rfl
 ·rfl
 ·show QI _
def vE {a r:E}(h:Thg S w)(b:∀S' Q,Q (w,S')->wE M a Z S' Q)(c:∀xs,w=.tup xs->↥xs=n->∀S',Ka S S'->Te M Z r S' y):Te M Z (.or (.not (.isi "tuple" a)) (.or (.cmp .ne (.bi .len #v[a]) (.c (.int n))) r)) S (!dU n w||y):=by
 cases w with
 |tup xs=>
  show bF (x:=false) (aO (x:=true) (fg (b _) rfl)) λ_ S' d=>?_
  have e:(!((↥xs:O8)==(n:O8))) = !dU n (.tup xs):=by rw[dN];rfl
  show bF (gP e (l4 (xs:=xs) (n:=n) (b _) λQ q=>q)) λz S2 k2=>c xs rfl ?_ _ (d.trans k2)
  have:dU n (.tup xs)=true:=by
   cases h:dU n (.tup xs)with
   |true=>rfl
   |false=>rw[h]at z;cases z
  show eq_of_beq this
 |_=>show gP (x:=true||true) rfl (bF (x:=true) (y:=true) (aO (x:=false) (fg (b _) (by rw[h.t];rfl))) λh=>by cases h)
def EV {a:E}{n:OH}(h:Thg S w)(b:∀S' Q,Q (w,S')->wE M a Z S' Q):Te M Z (.or (.not (.isi "tuple" a)) (.cmp .ne (.bi .len #v[a]) (.c (.int n)))) S (!dU n w):=by
 cases w with
 |tup xs=>
  show bF  (aO (x:=true) (fg (b _) rfl)) λ_ S' c=>?_
  show gP (by rw[dN];rfl) (l4   (b _) λQ q=>q)
 |_=>show gP  rfl (bF  (y:=true) (aO (x:=false) (fg (b _) (by rw[h.t];rfl))) λh=>by cases h)
def kJ (L:LForm defs)(h:Thg S w):Cv (ae defs fuel (d+3)) uv 1 [w] S (.bl (cU w)):=bG [ba w,gV] L.rule rfl rfl rfl λU k=>by
 by_cases z:∃f N B,w=.tup [.tup f,.tup N,.tup B]
 ·obtain⟨f,N,B,rfl⟩:=z;obtain⟨n,_⟩:=h.mem;obtain⟨G,lm⟩:=(n (.tup f) OU).mem;obtain⟨tn,ln⟩:=(n (.tup N) (OV _ OU)).mem;obtain⟨tb,lb⟩:=(n (.tup B) (OV _ (OV _ OU))).mem;replace k:∀S',Ka S S'->U (.rt (.bl (f.all dv&&(N.all jj&&B.all cg))),S'):=k;show aU λK hK=>cL (w:=.bl false) (x:=!dU 3 (.tup [.tup f,.tup N,.tup B]) ||!([W.tup f,.tup N,.tup B].all rm)) (vE h (λ_ _ q=>q) λxs e _ S' g=>?_) (λz=>by cases z) λz S1 k1=>hK _ _ ?_
  ·cases e;show aO (je (cf [W.tup f,.tup N,.tup B] id rm [] rfl rfl rfl (by change 3<=1000000;decide) #[rfl,.refl] λx l S2 k2=>dT (λQ q=>q) ((n x l).ka (g.trans k2)).t))
  show aU λK hK=>cL  (aO (je (cf f id dv [] rfl rfl rfl (by show OQ ‹_› (OP rfl)) (by left;show ap #v[] rfl #[by rw[Sv],.refl]) λx l S2 k2=>dT (λQ q=>q) ((G x l).ka (k1.trans k2)).s))) (λz S' g=>#[cN,λS2 k2=>?_]) λz S2 k2=>hK _ _ ?_
  ·have e:f.all dv=false:=by
    cases e:f.all dv with
    |false=>rfl
    |true=>rw[e]at z;cases z
   rw[e]at k;show k _ (k1.trans (g.trans k2))
  have r:f.all dv=true:=by
   cases e:f.all dv with
   |true=>rfl
   |false=>rw[e]at z;cases z
  rw[r,Qw]at k;replace k1:=k1.trans k2;generalize J:W.tup [.tup f,.tup N,.tup B]=R;nofun
  show for_tup N (λi Z S'=>(∃a,Z=[ba R,a])/\(∀j x,j<i->N[j]?=ba x->jj x=true)/\Ka S S') rfl rfl (by subst J;left;show ap #v[] rfl #[rfl,#[_,rfl],λ_ _ h=>absurd h (QP _),k1]) ?_ ?_
  ·rintro i x Z S2 p ⟨⟨a,rfl⟩,A,k2⟩;show ac (rfl) ?_;intro I O P;have u:=(tn _ (O7 p)).ka k2;have no:jj x=false->∀S',Ka S2 S'->I (.rt (.bl false),S'):=λe S' g=>P _ _ (by
    rw[gr p e,Sj]at k;show k _ (k2.trans g))
   have H:jj x=true->∀S',Ka S2 S'->I (.nx [ba R,ba x],S'):=λe S' g=>O _ _ (by
    show#[#[_,rfl],λj y hj s=>?_,k2.trans g]
    rcases Tu.mp hj with h|rfl
    ·show A j y h s
    ·rw[p]at s;cases s;show e)
   clear O P A;show aU λK hK=>cL (EV  u λ_ _ q=>q) (λz S' g=>#[cN,λC k3=>no ?_ _ (g.trans k3)]) λz C k3=>hK _ _ ?_
   ·cases e:jj x with
    |false=>rfl
    |true=>rw[EU e]at z;cases z
   clear hK K;have z:dU 2 x=true:=by
    cases e:dU 2 x with
    |true=>rfl
    |false=>rw[e]at z;cases z
   obtain⟨m,t,rfl⟩:=vD z;obtain⟨M,_⟩:=u.mem;have G:=M m OU;have tt:=M t (OV _ OU);show aU λK hK=>cL  (bF (aO (fg (λQ q=>by left;show ap #v[] rfl q) (G.ka k3).s)) λ_ S' g=>aO (eZ ((l6  L (tt.ka (k3.trans g))).ve λQ q=>by left;show ap #v[] rfl q))) (λz S' g=>#[cN,λV E=>no ?_ _ (k3.trans (g.trans E))]) λz S' g=>hK _ _ (cM (H ?_ _ (k3.trans g)))
   ·show(dv m&&cz t)=false;cases r:dv m with
    |false=>rfl
    |true=>
     cases o:cz t with
     |false=>rfl
     |true=>rw[r,o]at z;cases z
   ·show(dv m&&cz t)=true;cases r:dv m with
    |false=>rw[r]at z;cases z
    |true=>
     cases o:cz t with
     |false=>rw[r,o]at z;cases z
     |true=>rfl
  ·rintro Z S2 ⟨⟨a,rfl⟩,A,k2⟩;have e:=rE λj x _ n=>A j x (OS.mp n).1 n
   rw[e,Qw]at k;show hK _ _ (bC  (cf B id cg [] rfl rfl rfl (by show OQ ‹_› (OP rfl)) (by subst J;left;show ap #v[] rfl #[by rw[Sv],.refl]) λx l C k3=>?_) λC k3=>k _ (k2.trans k3))
   have u:=(tb x l).ka (k2.trans k3);rw[nC];cases x with
   |tup T=>
    obtain⟨s,D⟩:=u.mem;show dJ  (by rw[Qw,show((↥T:O8)==3)=(↥T==3)from dN]) (a7 (x:=true) (dT (λQ q=>q) rfl) λ_ V E=>a7 (Ju  (λQ q=>q)) λ_ S5 k5=>?_)
    show(Jw  L (λy h=>(s y h).ka (E.trans k5)) D).ve λQ q=>q
   |_=>show dJ (x:=false&&true) rfl (a7  (dT (λQ q=>q) (by(delta id;rw[u.t]);rfl)) λh=>by cases h)
 ·have e:cU w=false:=by
   cases e:cU w with
   |false=>rfl
   |true=>show absurd (BA e) z
  rw[e]at k;show aU λK hK=>cL  (vE h (λ_ _ q=>q) λxs Y X S' g=>?_) (λ_ S' g=>#[cN,λS2 k2=>k _ (g.trans k2)]) λz=>by rw[UB]at z;cases z
  subst Y;obtain⟨n,hl⟩:=h.mem;have:xs.all rm=false:=by
   cases o:xs.all rm with
   |false=>rfl
   |true=>
    match xs,X,o with
    |[a,b,c],_,o=>
     simp only[P9,List.all_nil,To,OE]at o;obtain⟨h1,h2,h3⟩:=o;show absurd (by
      cases a with
      |tup f=>cases b with
       |tup N=>cases c with
        |tup B=>show#[f,N,B,rfl]
        |_=>cases h3
       |_=>cases h2
      |_=>cases h1) z
  show gP  (by rw[this];rfl) (aO (je (cf xs id rm [] rfl rfl rfl ∅ #[by rw[Sv],.refl] λx l S2 k2=>dT (λQ q=>q) ((n x l).ka (g.trans k2)).t)))
structure RF (ms ns:Ow OM)(bs:Ow O8)(us:Ow Wd):Prop where
 nl:↥ns=↥bs
 m:↥ms<=20
 n:↥ns<=20
 u:↥us<=90
 asc:∀y∈ms++ns,Asc y
 three:∀g∈us,bY g
def ph:∀{ns:Ow OM}{bs:Ow O8}{x:W},x∈OO aw ns bs->∃y b,y∈ns/\x=aw y b
 |[],_,_,h=>nomatch h
 |_::_,[],_,h=>nomatch h
 |y::ns,b::bs,x,h=>(O2.mp h).elim (λe=>#[y,b,OU,e]) λh=>
  have⟨z,c,m,e⟩:=ph h
  #[z,c,OV _ m,e]
section
variable{ms ns:Ow OM}{bs:Ow O8}{us:Ow Wd}
def xJ (h:∀y∈ms,Asc y):∀x∈ms.map W.str,Thg S x:=λx a=>by
 obtain⟨y,b,rfl⟩:=O0.mp a;show .str (h y b)
def BB (h:∀y∈ns,Asc y):∀x∈OO aw ns bs,Thg S x:=λx a=>by
 obtain⟨y,b,c,rfl⟩:=ph a;show .tup (fc (.str (h y c)) (fc .int fn)) (OP rfl)
def Jx (h:bY u):Thg S (aM u):=.tup (λx b=>by
 obtain⟨p,a,rfl⟩:=O0.mp b;obtain⟨k,e⟩:=QE.mp a;have:=h.2 k p e;have:=(OS.mp e).1;have:=h.1;show .pt ∅) (by rw[OC,h.1];decide)
def EW (h:∀g∈us,bY g):∀x∈us.map aM,Thg S x:=λx b=>by
 obtain⟨g,a,rfl⟩:=O0.mp b;show Jx (h g a)
def LY (h:↥ns=↥bs):(OO aw ns bs).length=↥bs:=by rw[PM,h];omega
def EX (h:bY u):cg (aM u)=true:=by
 obtain⟨a,hl⟩:=h
 match u,a with
 |[p,q,s],_=>
  show(kI 0 _&&(kI 1 _&&kI 2 _))=true;rw[lZ (hl 0 p rfl),lZ (hl 1 q rfl),lZ (hl 2 s rfl)];rfl
def RF.thg (h:RF ms ns bs us):Thg S (eB ms ns bs us):=by
 have z:=LY h.nl;have:=h.nl;have:=h.m;have:=h.n;have:=h.u;show .tup (fc (.tup (xJ λy a=>h.asc y (PU _ a)) (by rw[OC];show OQ ‹_› (OP rfl))) (fc (.tup (BB λy a=>h.asc y (Pg _ a)) ∅) (fc (.tup (EW h.three) (by rw[OC];show OQ ‹_› (OP rfl))) fn))) (OP rfl)
def EY:(ms.map W.str).all dv=true:=OT.mpr λx a=>by
 obtain⟨y,_,rfl⟩:=O0.mp a;rfl
def EZ:(OO aw ns bs).all jj=true:=OT.mpr λx a=>by
 obtain⟨y,b,_,rfl⟩:=ph a;rfl
def xK (h:∀g∈us,bY g):(us.map aM).all cg=true:=OT.mpr λx b=>by
 obtain⟨g,a,rfl⟩:=O0.mp b;show EX (h g a)
def RF.form (h:RF ms ns bs us):cU (eB ms ns bs us)=true:=by
 show((ms.map _).all _&&((OO _ ns bs).all _&&(us.map aM).all _))=true;rw[EY,EZ,xK h.three];rfl
end
def Jy {α:Type}{f:α->O6}{x:α}{L:Ow α}(h:x∈L)(e:f x=false):L.all f=false:=Rh.mpr λz=>by
 rw[OT.mp z x h]at e;cases e
def E1 (L:Look defs)(h:Thg S w)(e:cU w=false):Cv (ae defs fuel (d+7)) "look_rule!" 1 [w] S (.tup [.str "NoRule",.str "form"]):=
 vC   (b2:=true) (b3:=true) (b4:=true) (b5:=true) L ((Br  L h).eq e) (λz=>nomatch z) (λz=>nomatch z) (λz=>nomatch z) (λz=>nomatch z)
def vF (b:30<fuel)(L:Look defs)(P:Parts defs)(c:Is defs ("longer_orders") 2 4 aE)(n:Is defs ("least_form") 2 7 aQ){a :Ow OM}(h:RF a ns bs us){b2   :O6}
  (i:bo ↥a ↥bs=b2) (j:b2=true->cO (a++ns)=b3) (k:b2=true->b3=true->(Pj ↥bs).all (bS bs)=b4) (l:b2=true->b3=true->b4=true->GoodB bs/\(gG us&&us.all (ff ↥a bs))=b5) :
  Cv (ae defs fuel (d+7)) "look_rule!" 1 [eB a ns bs us] S (rD true b2 b3 b4 b5):=by
 have z:=LY h.nl;have:=h.nl;have:=h.m;have:=h.n;have:=h.u;show vC  L ((Br  L h.thg).eq h.form) (λ_ S'=>?_) (λ_ y S'=>?_) (λ_ f g S'=>?_) λ_ f g o S'=>?_
 ·show(Bu  L).eq ?_;rw[OC,z];show i
 ·show(EN  L h.nl (by rw[OL];omega) h.asc).eq (j y)
 ·show(EO  L h.nl ∅).eq (k f g)
 ·obtain⟨m,e⟩:=l f g o;show(Bz  b L P c n m (OC ..) h.nl h.three (by show OQ ‹_› (OP rfl))).eq e
def tN (a:GoodB bs):(Pj ↥bs).all (bS bs)=true:=by
 rcases a with rfl|rfl|rfl|rfl|rfl|rfl<;>decide
def BC (h:Name y):Asc y:=by
 obtain⟨b,d,a⟩:=h;show#[?_,by rw[gh];show OQ ‹_› (OP rfl)]
 rw[<- XG,OT];show λc hc=>Pq (by have:=a c hc;omega)
def xL (h:Name y)(ht:y∉bN):cV y=true:=by
 obtain⟨b,d,a⟩:=h;have e:=gh (y:=y);unfold cV xH;rw[Pw ht,Pq (show 1<=(↥y:O8) by omega),Pq (show(↥y:O8)<=8 by omega),OT.mpr λc hc=>?_]
 ·rfl
 ·unfold xD;rw[Pq (a c hc).1,Pq (a c hc).2];rfl
def tP (h:∀y∈L,Name y)(nd:(bN++L).Nodup):cO L=true:=by
 rw[RA]at nd;unfold cO;rw[OT.mpr λy a=>xL (h y a) λz=>nd.2.2 y z y a rfl,show eP L=L from Bx L [] nd.2.1,PB];rfl
def BE (h:zq (us.map bI)):gG us=true:=OT.mpr λp a=>by
 unfold EQ;rw[lY h p a];rfl
structure RG (a:OH)(bs:Ow O8)(ms ns:Ow OM)(us:Ow Wd):Prop where
 size:SizeOk a bs
 ml:↥ms=a
 nl:↥ns=↥bs
 nm:GoodN ms ns
 srt:zq (us.map bI)
 mem:∀g∈us,g∈br a bs
 u:↥us<=60
def LZ {a:OH}{d :Ow OM}(b:RuleAt a bs d ns c):RG a bs d ns (fv c):=by
 have pm:(fv c).Perm c:=ll;show#[⇑b,b.ml,b.nl,b.nm,by rw[jN];show lq (fT b.nd),λg h=>b.mem g (pm.mem_iff.mp h),?_]
 have e:=dS c _ b.nd b.mem;have f:=o7 ⇑b;rw[pm.length_eq];omega
section
variable{a:OH}{bs:Ow O8}{ms ns:Ow OM}{us:Ow Wd}
def RG.fig (h:RG a bs ms ns us){g:Wd}(b:g∈us):GoodW a ↥bs g/\↥g=3/\dw bs g=g:=Jp h.size.good (h.mem g b)
def RG.three (h:RG a bs ms ns us):∀g∈us,bY g:=λg b=>#[(h.fig b).2.1,(h.fig b).1.len]
def RG.rf (h:RG a bs ms ns us):RF ms ns bs us:=by
 have:=h.ml;have:=h.nl;have:=h.size.a3;have:=h.size.n3;have:=h.u;show#[h.nl,∅,∅,by show OQ ‹_› (OP rfl),λy b=>BC (h.nm.name y b),h.three]
def RG.bounds (h:RG a bs ms ns us):bo ↥ms ↥bs=true:=by
 have:=h.size.pos;have:=h.size.a3;have:=h.size.n3;have:=h.size.most;rw[h.ml];unfold bo;rw[Pq (show 1<=(a:O8) by omega),Pq (show(a:O8)<=3 by omega),Pq (show 1<=(↥bs:O8) by omega),Pq (show(↥bs:O8)<=3 by omega),Pq (show(a:O8)*↥bs<=6 by exact_mod_cast this)];rfl
def RG.names (h:RG a bs ms ns us):cO (ms++ns)=true:=tP h.nm.name h.nm.nd
def RG.barred (h:RG a bs ms ns us):(gG us&&us.all (ff ↥ms bs))=true:=by
 rw[BE h.srt,OT.mpr λg d=>?_]
 ·rfl
 ·obtain⟨b,e,c⟩:=h.fig d;unfold ff;rw[h.ml,tL b,Pq c];rfl
variable{defs:Ow (OM×Df)}{fuel d:OH}{S:aa}
def E2 (b:30<fuel)(L:Look defs)(P:Parts defs)(c:Is defs ("longer_orders") 2 4 aE)(e:Is defs ("least_form") 2 7 aQ)(h:RG a bs ms ns us):Cv (ae defs fuel (d+7)) "look_rule!" 1 [eB ms ns bs us] S (.tup [.non,.bl true]):=
 vF      b L P c e h.rf h.bounds (λ_=>h.names) (λ_ _=>tN h.size.good) λ_ _ _=>#[h.size.good,h.barred]
end
abbrev cD:Ss:=
 #v[.loop (.nm 1) (.rng #v[.bi .len #v[.v 0]]) #v[.ite (.or (.cmp .notin (.ix (.v 0) (.v 1)) (.lst #v[.op .sub (.v 1) (.c (.int 1)),.v 1,.op .add (.v 1) (.c (.int 1))])) (.not (.chn .le .lt (.c (.int 0)) (.ix (.v 0) (.v 1)) (.bi .len #v[.v 0])))) #v[.ret (.c (.bl false))] .nil,.ite (.cmp .ne (.ix (.v 0) (.ix (.v 0) (.v 1))) (.v 1)) #v[.ret (.c (.bl false))] .nil],.ret (.c (.bl true))]
abbrev l7:Ss:=
 #v[.ite (.or (.cmp .lt (.bi .len #v[.v 0]) (.c (.int 1))) (.or (.cmp .gt (.bi .len #v[.v 0]) (.c (.int 8))) (.cmp .isin (.v 0) (.lst #v[.c (.str "marks"),.c (.str "ways"),.c (.str "bar"),.c (.str "some"),.c (.str "each"),.c (.str "not"),.c (.str "and"),.c (.str "or"),.c (.str "is")])))) #v[.ret (.c (.bl false))] .nil,.ret (.bi .all #v[.comp (.chn .le .le (.bi .ord #v[.c (.str "a")]) (.bi .ord #v[.v 1]) (.bi .ord #v[.c (.str "z")])) (.nm 1) (.seq (.v 0)) .nil [gV,gV]])]
abbrev l8:Ss:=
 #v[.loop (.tp [2,3]) (.seq (.v 1)) #v[.ite (.or (.not (.chn .le .lt (.c (.int 0)) (.v 2) (.bi .len #v[.ix (.v 0) (.c (.int 0))]))) (.not (.bi .all #v[.comp (.chn .le .lt (.c (.int 0)) (.v 1) (.bi .len #v[.ix (.v 2) (.c (.int 1))])) (.nm 1) (.seq (.v 3)) .nil [gV,gV,ba 0]]))) #v[.ret (.c (.bl false))] .nil],.ret (.c (.bl true))]
abbrev j9:Ss:=
 #v[.ret (.and (.own "_law_of_rule" 2 #v[.v 0,.v 1]) (.cmp .eq (.own zn 2 #v[.v 0,.v 1]) (.v 1)))]
structure LDue (defs:Ow (OM×Df)):Prop where
 form:LForm defs
 name:Is defs ("_law_is_name": OM) 1 1 l7
 gbacks:Is defs ("_law_good_backs": OM) 1 2 cD
 of:Is defs ("_law_of_rule": OM) 2 4 l8
 least:Is defs ("_law_least_of": OM) 2 2 j9
def BF { i:O8}(h:S[l]?=ba (.lst [.int (i-1),.int i,.int (i+1)])):b9 .notin (.int c) (.ref l) S=ba (.bl (!((i-1==c)||((i==c)||((i+1==c)||false)))),S):=by
 (delta b9 Dg eO yM wb dF;simp only[oV h,az h])
 rfl
def BG (L:Is defs ("_law_good_backs") 1 2 cD){f:Ow O8}(e:S[l]?=ba (.lst (f.map W.int)))(hl:↥f<=100)(k:∀S',Ka S S'->Q (.bl ((Pj ↥f).all (bS f)),S')):wO (aY (ae defs fuel (d+1)) "_law_good_backs" 1 [.ref l] S) Q:=by
 show aF L rfl rfl λH J=>?_
 replace k:∀S' b,Ka S S'->(Pj _).all _=b->H _:=λS' b a z=>J _ _ (z▸k S' a)
 nofun
 show lT rfl rfl ?_;left;show lO e #[_,λi Z S'=>(∃t,Z=[ba (.ref l),t])/\(∀j<i,bS f j=true)/\Ka S S',rfl,by rw[OC];omega,#[#[_,rfl],λ_ h=>absurd h (by show absurd ‹_› (QP _)),.refl],?_,?_]
 ·rintro i Z S1 hi ⟨⟨t,rfl⟩,w,k1⟩ U C m;rw[OC]at hi;have hi:i<↥f:=by show Sy.mp ‹_›
  have o:=k1.get _ _ e;have r:(f.map W.int)[i]?=ba (.int (f.getD i 0)):=by rw[OY,aJ hi];rfl
  have no:bS f i=false->(Pj ↥f).all (bS f)=false:=Jy (Pn.mpr hi);have A:∀j<↥f,(f.map W.int)[j]?=ba (.int (f.getD j 0)):=λj B=>by rw[OY,aJ B];rfl
  dsimp only[bS]at no;generalize hc:f.getD i 0=c at r no;show aU λR u=>cL (x:=!(((i-1)==c)||((i==c)||(((i+1)==c)||false))) ||!(decide (0<=c)&&decide (c<↥f))) (bF (cC λQ q=>?_) λ_ S' g=>aO (o9 (p:=λj n=>decide (j<n)) (λQ q=>q) (λQ q=>?_) (λQ q=>?_) rfl)) (λz S' g=>#[cN,λS2 k2=>m _ _ (k _ _ (k1.trans (g.trans k2)) (no ?_))]) λz S2 k2=>u _ _ ?_
  ·left;show bR o r (ac Au (ac gN ?_));show ac (BF ak) (q _ .push)
  ·show bR (g.get _ _ o) r q
  ·show lO (g.get _ _ o) ?_;rw[OC];show q
  ·show Rh.mpr λy=>?_
   simp only[OE,O1,Qn,R8,QL,RC]at y z;obtain⟨⟨N,O⟩,P,_⟩:=y;rcases z with z|z
   ·split at P<;>omega
   ·rw[Pq N,Pq O]at z;cases z
  ·have s:0<=c/\c<↥f:=by
    rw[QL]at z;have:=z.2
    simpa using this
   have G:(if c-i<0 then -(c-i)else c-i)<=1:=by
    rw[QL]at z;have:=z.1;simp at this;split<;>omega
   obtain⟨j,rfl⟩:∃j:OH,c=j:=#[c.toNat,∅]
   have E:=k2.get _ _ o;rw[Pq s.1,Pq s.2,Pq G,Qw,Qw,Pi]at no;show aU λT v=>cL (x:=!(f.getD j 0==i)) (cC λQ q=>?_) (λz S' g=>#[cN,λI k3=>m _ _ (k _ _ (k1.trans (k2.trans (g.trans k3))) (no (by simpa using z)))]) λz I k3=>v _ _ (cM (C _ _ #[#[_,rfl],λD M=>?_,k1.trans (k2.trans k3)]))
   ·show bR E r (bR E (A j ∅) (ac Ef (q _ .refl)))
   ·rcases VD D i with h|h
    ·show w D h
    ·obtain rfl:D=i:=∅
     unfold bS;rw[hc,Pq s.1,Pq s.2,Pq G,Pi]
     simpa using z
 ·rintro Z S1 ⟨⟨t,rfl⟩,w,k1⟩;show hK _ _ (st ?_);show k _ _ k1 (OT.mpr λj B=>w j ?_)
  rw[OC,Pi];show Pn.mp B
def E3 (L:LDue defs)(h:Asc y):Cv (ae defs fuel (d+1)) "_law_is_name" 1 [.str y] S (.bl (cV y)):=bG [ba (.str y)] L.name rfl rfl rfl λm k=>by
 have hl:↥y.cps.toList<=1000:=by have:=h.len;rwa [gh]at this
 have f:∀S' Q,Q (.int ↥y,S')->wE (ae defs fuel d) (.bi .len #v[.v 0]) [ba (.str y)] S' Q:=λS' Q q=>by
  left;show Bj h.len q
 have b:∀c a Z S',(∀Q ,Q (.str #[[c].toArray],S')->wE (ae defs fuel d) a Z S' Q)->∀Q ,Q (.int c,S')->wE (ae defs fuel d) (.bi .ord #v[a]) Z S' Q:=λc a Z S' i Q q=>by
  left;show i _ (ac rfl q)
 show aU λK hK=>cL (x:=decide ((↥y:O8)<1)||(decide ((8:O8)<↥y)||decide (y∈bN))) (bF (cC (ig (f _) (λQ q=>q) Aw)) λ_ S' _=>bF (cC (ig (f _) (λQ q=>q) rfl)) λ_ S2 _=>cC λQ q=>?_) (λz S' l=>#[cN,λS2 k2=>?_]) λz S1 k1=>hK _ _ (bC (w:=.bl (xH y)) ?_ λS2 k2=>?_)
 ·left;show ac (m8  ak) (q _ .push)
 ·have e:cV y=false:=by
   unfold cV
   by_cases g:y∈bN
   ·rw[Pq g];rfl
   ·rw[Pw g,Vh,Qn,O1,O1]at z;have:(decide (1<=(↥y:O8))&&decide ((↥y:O8)<=8))=false:=by
     rw[T7,Ra,Ra];omega
    rw[this,Sj,QI]
  rw[e]at k;show k _ (l.trans k2)
 ·show Bl y xD [] rfl rfl rfl (by show OQ ‹_› (OP rfl)) h.lo #[rfl,.refl] λc hc S2 _=>dJ  ?_ (jO (p:=λj n=>decide (j<=n)) (b 97 _ _ _ λQ q=>q) (b c _ _ _ λQ q=>q) (b 122 _ _ _ λQ q=>q) rfl)
  unfold xD;rw[SI];revert OE O1;omega
 ·have e:cV y=xH y:=by
   unfold cV;rw[QL,QL,Ra,Ra]at z;have:(decide (1<=(↥y:O8))&&decide ((↥y:O8)<=8))=true:=by
    rw[OE,O1,O1];omega
   rw[z.2.2,this,Qw];rfl
  rw[e]at k;show k _ (k1.trans k2)
def BH (L:LDue defs){ A:Ow W}{a :OH}{g:Wd}(G:↥xs=a)(I:↥A=n)(H:∀p∈g,↥p.2<=100):Cv (ae defs fuel (d+1)) "_law_of_rule" 2 [.tup [.tup xs,.tup A,b0],aM g] S (.bl (g.all (bJ a n))):=bG _ L.of rfl rfl rfl λP k=>by
 generalize u:W.tup _=R;nofun
 show for_tup _ (λi Z S'=>(∃a b,Z=[ba R,ba _,a,b])/\(∀j x,j<i->g[j]?=ba x->bJ a n x=true)/\Ka S S') rfl rfl #[rfl,#[_,_,rfl],λ_ _ h=>absurd h (QP _),.refl] ?_ ?_
 ·rintro i x Z S2 c ⟨⟨D,E,rfl⟩,s,k2⟩;rw[OY,OG]at c;obtain⟨p,c,rfl⟩:=c;show ac rfl ?_;intro B r J;have no:bJ a n p=false->∀S',Ka S2 S'->B _:=λe S' f=>J _ _ (by
   rw[gr c e]at k;show k _ (k2.trans f))
  have o:∀S' Q,Q (.int a,S')->wE (ae defs fuel d) (.bi _ #v[.ix (.v 0) (.c (.int 0))]) [ba R,ba (aM g),ba (.int p.1),ba (.tup (p.2.map W.int))] S' Q:=λS' Q q=>by
   subst u;left;show ap #v[] rfl (aL (by rw[G];show q))
  show aU λO l=>cL  (bF (aO (o9 (p:=λj n=>decide (j<n)) (λQ q=>q) (λQ q=>q) (o _) rfl)) λ_ S' f=>aO (je (cf p.2 W.int (λx=>decide (0<=x)&&decide (x<n)) [ba R] rfl rfl rfl (by have:=H p (O7 c);show OQ ‹_› (OP rfl)) #[rfl,.refl] λx N C w=>jO (p:=λj n=>decide (j<n)) (λQ q=>q) (λQ q=>q) (λQ q=>?_) rfl))) (λz S' f=>#[cN,λC w=>no ?_ _ (f.trans w)]) λz S' f=>l _ _ (cM (r _ _ #[#[_,_,rfl],λj y m t=>?_,k2.trans f]))
  ·subst u;left;show ap #v[] rfl (aL (by rw[I];show q))
  ·rw[Qn,R8,R8]at z;show F8 z
  ·rcases Tu.mp m with h|rfl
   ·show s j y h t
   ·rw[c]at t;cases t
    unfold bJ;rw[QL,TF,TF]at z;rw[z.1,z.2];rfl
 ·rintro Z S2 ⟨⟨D,E,rfl⟩,s,k2⟩;have e:=rE λj x m M=>s j x (by rw[OC];show m) M
  rw[e]at k;show hK _ _ (bC cN λT k3=>k _ (k2.trans k3))
def BI (G:Gen defs)(L:LDue defs){a:OH}{g:Wd}(j:GoodB bs)(h:↥xs=a)(e:↥ns=↥bs)(c:bY g):Cv (ae defs fuel (d+4)) v3 2 [.tup [.tup xs,.tup (OO aw ns bs),b0],aM g] S (.bl (ff a bs g)):=bG [ba (.tup [.tup xs,.tup (OO aw ns bs),b0]),ba (aM g)] L.least rfl rfl rfl λn k=>by
 have m:(OO aw ns bs).length=↥bs:=by rw[PM,e];omega
 obtain⟨b,f⟩:=id c;show bC (a7   ((BH  L h m (λp l=>?_)).ve λQ q=>q) λz S' o=>λQ q=>?_) k
 ·obtain⟨i,hi⟩:=QE.mp l;have:=f i p hi;have:=(OS.mp hi).1;omega
 ·left;show qU  G j e (vB c z) b λS2 k2=>?_
  rw[nz b];show ac Bc (q _ k2)
def Jz :dB (bI x) (bI x)≠ba true:=λe=>by
 have:=jw _ _ (eY _) e;rw[e]at this;cases this
def pk:∀{us:Ow Wd},gG us=true->zq (us.map bI)
 |[],_=>.nil
 |[x],_=>.cons (λ_ h=>nomatch h) .nil
 |x::y::us,h=>by
  have c:EQ x y=true/\gG (y::us)=true:=by
   have:gG (x::y::us)=(EQ x y&&gG _):=rfl;rw[this,OE]at h;show h
  have ih:=pk c.2;have e:dB (bI x) (bI y)=ba true:=by
   have:=c.1;unfold EQ at this;cases e:dB _ _ with
   |none=>rw[e]at this;cases this
   |some b=>rw[e]at this;show congrArg _ this
  show .cons (λz a=>?_) ih
  rcases O2.mp a with rfl|a
  ·show e
  ·have d:=(SC.mp ih).1 z a;obtain⟨w,_,rfl⟩:=O0.mp a;show oy _ _ _ (eY _) (eY _) e d
def E4 (h:zq (us.map bI)):gG us=true:=OT.mpr λp a=>by
 unfold EQ;rw[lY h p a];rfl
def JA {us:Ow Wd}(h:zq (us.map bI)):us.Nodup:=by
 unfold zq at h;rw[QZ]at h;show h.imp λe z=>by subst z;show Jz e
def BJ (h:us.Nodup):fv us=us↔gG us=true:=by
 constructor
 ·intro e;have:=lq (fT h);rw[<- jN,e]at this;show E4 this
 ·intro e;apply q9;rw[jN];show qc (λx a=>(fT h).num x (ll.mem_iff.mp a)) ll (lq (fT h)) (pk e)
def BM {α:Type}[R7 α]:∀{b a:Ow α},a.Nodup->(∀y,y∈a↔y∈b)->↥a=↥b->b.Nodup
 |[],_,_,_,_=>UV
 |x::b,a,f,d,hl=>by
  by_cases g:x∈b
  ·have:=dS a b f λy j=>by
    rcases O2.mp ((d y).mp j)with rfl|h
    ·show g
    ·show h
   rw[hl,Po]at this;omega
  ·have k:=(d x).mpr OU;show Q6.mpr #[g,BM  (f.erase x) (λy=>?_) ?_]
   ·rw[f.mem_erase_iff,d y,O2];constructor
    ·rintro⟨i,c|c⟩
     ·show absurd c i
     ·show c
    ·intro h;show#[λe=>g (e▸h),.inr h]
   ·rw[Tp k,hl];rfl
def NF {ks:Ow T}(c:ks.Nodup)(a:∀y,y∈ks↔y∈us.map bI):(!decide (us=fv us) ||!((↥ks)==(↥us:O8))) = !gG us:=by
 rw[dN]
 by_cases nd:us.Nodup
 ·have e:↥ks=↥us:=by
   have g:=(fT nd).nd;have d:=dS ks _ c λy b=>(a y).mp b
   have f:=dS _ ks g λy b=>(a y).mpr b
   rw[OC]at d f;omega
  rw[e,PB,RQ,Vh];congr 1;rw[SI,O1,<- BJ nd];show eq_comm
 ·have e:=λz=>nd (by
   have:=BM c a (by rw[OC];show z)
   rw[RZ,QZ]at this;show this.imp λh e=>h (by rw[e]))
  rw[X7 e,UP,UB];cases z:gG us with
  |false=>rfl
  |true=>show absurd (JA (pk z)) nd
def l9 (l:1<=↥bs)(m:↥bs<=3)(h:(Pj ↥bs).all (bS bs)=true):GoodB bs:=by
 have hk:=λk hk=>OT.mp h k (Pn.mpr hk)
 match bs,l,m,hk with
 |[a],_,_,hk=>
  have:=hk 0 (OP rfl);simp only[bS,OE,O1,Po,Qr,Uz]at this;have e:a=0:=∅
  subst e;show .inl rfl
 |[a,b],_,_,hk=>
  have d:=hk 0 (OP rfl);have f:=hk 1 (OP rfl);simp only[bS,OE,O1,Po,Qr,Uz,Ws]at d f;have g:a=0\/a=1:=∅
  have i:b=0\/b=1:=∅
  rcases g with rfl|rfl<;>rcases i with rfl|rfl
  ·show absurd f.2.2 #v[]
  ·show .inr (.inl rfl)
  ·show .inr (.inr (.inl rfl))
  ·show absurd d.2.2 #v[]
 |[a,b,c],_,_,hk=>
  have d:=hk 0 (OP rfl);have f:=hk 1 (OP rfl);have hc:=hk 2 (OP rfl);simp only[bS,OE,O1,Uz,Ws]at d f hc;have g:a=0\/a=1:=by obtain⟨⟨_,_⟩,h,_⟩:=d;split at h<;>omega
  have i:b=0\/b=1\/b=2:=∅
  have j:c=1\/c=2:=by obtain⟨⟨_,_⟩,h,_⟩:=hc;split at h<;>omega
  rcases g with rfl|rfl<;>rcases i with rfl|rfl|rfl<;>rcases j with rfl|rfl
  ·show absurd f.2.2 #v[]
  ·show absurd f.2.2 #v[]
  ·show absurd hc.2.2 #v[]
  ·show .inr (.inr (.inr (.inl rfl)))
  ·show .inr (.inr (.inr (.inr (.inr rfl))))
  ·show absurd f.2.2 #v[]
  ·show absurd hc.2.2 #v[]
  ·show .inr (.inr (.inr (.inr (.inl rfl))))
  ·show absurd d.2.2 #v[]
  ·show absurd d.2.2 #v[]
  ·show absurd d.2.2 #v[]
  ·show absurd d.2.2 #v[]
def E5 {us:Ow Wd}(hk:mQ (us.map bI)=ba n)(q:Q (.ref ↥S,S++[.stt n])):wO (Bi.set.fn [.tup (us.map aM)] S) Q:=by
 show ac ?_ q;have a:lv [.tup (us.map aM)] S=ba (.ref ↥S,S++[.stt n]):=by
  (delta lv;revert AS)
  rw[OZ,hk]
  ·rfl
  ·rw[OT];intro x b;obtain⟨u,_,rfl⟩:=O0.mp b;have:=fS u;have kl:aD=6:=rfl;revert zE eY Qw OE O1;show#[rfl,by show OQ ‹_› (OP rfl)]
 have c:js [.tup (us.map aM)] S=gV:=rfl;delta Bi.fn D9;show a
def rF :∀us vs:Ow Wd,fA (jS S (d+3)) (us.map aM) (vs.map aM)=ba (decide (us=vs))
 |[],[]=>rfl
 |[],_::_=>rfl
 |_::_,[]=>rfl
 |u::us,v::vs=>by
  have e:jS S (d+3) (aM u) (aM v)=ba _:=lU u v;simp only[PK,fA,e,rF us vs]
  by_cases a:u=v<;>by_cases b:us=vs<;>simp[]
def JB { vs:Ow Wd}(a:S[i]?=ba (.lst (us.map aM)))(b:S[j]?=ba (.lst (vs.map aM))):b9 .ne (.ref i) (.ref j) S=ba (.bl (!decide (us=vs)),S):=by
 show((jS S _ _ _).map _).map (λk=>(W.bl k,S))=_
 have e:fA (jS S 19) _ _=ba _:=rF  us vs
 (delta jS;simp only[dI a,dI b,e])
 split
 ·rfl
 next h=>
  have:us≠vs:=λe=>h (by rw[e])
  simp[this]
abbrev fj:Ss:=
 #v[.ite (.not (.own uv 1 #v[.v 0])) #v[.ret (.c (.str "form"))] .nil,.asg [1,2,3] (.v 0),.ite (.or (.cmp .notin (.bi .len #v[.v 1]) (.lst #v[.c (.int 1),.c (.int 2),.c (.int 3)])) (.or (.cmp .notin (.bi .len #v[.v 2]) (.lst #v[.c (.int 1),.c (.int 2),.c (.int 3)])) (.cmp .gt (.op .mul (.bi .len #v[.v 1]) (.bi .len #v[.v 2])) (.c (.int 6))))) #v[.ret (.c (.str "bounds"))] .nil,.set 4 (.op .add (.bi .list #v[.v 1]) (.comp (.v 1) (.tp [1,2]) (.seq (.v 2)) .nil [gV,gV,gV])),.ite (.or (.not (.bi .all #v[.comp (.own "_law_is_name" 1 #v[.v 1]) (.nm 1) (.seq (.v 4)) .nil [gV,gV]])) (.cmp .ne (.bi .len #v[.bi .set #v[.v 4]]) (.bi .len #v[.v 4]))) #v[.ret (.c (.str "names"))] .nil,.ite (.not (.own "_law_good_backs" 1 #v[.comp (.v 2) (.tp [1,2]) (.seq (.v 2)) .nil [gV,gV,gV]])) #v[.ret (.c (.str "backs"))] .nil,.ite (.not (.bi .all #v[.comp (.own v3 2 #v[.v 2,.v 1]) (.nm 1) (.seq (.v 3)) .nil [gV,gV,ba 0]])) #v[.ret (.c (.str "barred"))] .nil,.ite (.or (.cmp .ne (.bi .list #v[.v 3]) (.bi .sorted #v[.v 3])) (.cmp .ne (.bi .len #v[.bi .set #v[.v 3]]) (.bi .len #v[.v 3]))) #v[.ret (.c (.str "barred"))] .nil,.ret (.c (.str ""))]
abbrev b6 (a ns:Ow OM)(bs:Ow O8)(us:Ow Wd):W:=.tup [.tup (a.map W.str),.tup (OO aw ns bs),.tup (us.map aM)]
structure R3 (ms ns:Ow OM)(bs:Ow O8)(us:Ow Wd):Prop where
 hn:↥ns=↥bs
 lm:↥ms<=20
 ln:↥ns<=20
 lu:↥us<=63
 asc:∀y∈ms++ns,Asc y
 three:∀g∈us,bY g
def R3.thg (h:R3 c ns bs us):Thg S (b6 c ns bs us):=by
 have:=h.lm;have:=h.ln;have:=h.lu;show .tup (fc (.tup (λx a=>?_) (by rw[OC];show OQ ‹_› (OP rfl))) (fc (.tup (λx a=>?_) (by rw[PM];omega)) (fc (.tup (λx a=>?_) (by rw[OC];show OQ ‹_› (OP rfl))) fn))) (by change 3<=100;decide)
 ·obtain⟨y,k,rfl⟩:=O0.mp a;show .str (h.asc y (PU _ k))
 ·obtain⟨i,hi⟩:=QE.mp a;rw[Qa]at hi;split at hi
  next y b d l=>cases hi;show .tup (fc (.str (h.asc y (Pg _ (O7 d)))) (fc .int fn)) (by change 2<=100;decide)
  ·cases hi
 ·obtain⟨g,f,rfl⟩:=O0.mp a;obtain⟨e,hl⟩:=h.three g f;show .tup (λx a=>?_) (by rw[OC,e];decide)
  obtain⟨p,j,rfl⟩:=O0.mp a;obtain⟨i,hi⟩:=QE.mp j;have:=hl i p hi;have:=(OS.mp hi).1;show Thg.pt ∅
def BN {g:Wd}(h:bY g):cg (aM g)=true:=by
 obtain⟨d,hl⟩:=h
 match g,d,hl with
 |[a,b,c],_,hl=>
  show(kI 0 _&&(kI 1 _&&kI 2 _))=true;rw[lZ (hl 0 a rfl),lZ (hl 1 b rfl),lZ (hl 2 c rfl)];rfl
def R3.form (h:R3 b ns bs us):cU (b6 b ns bs us)=true:=by
 show((b.map _).all _&&((OO _ ns bs).all _&&(us.map aM).all _))=true;have c:(b.map W.str).all dv=true:=OT.mpr λx a=>by
  obtain⟨y,_,rfl⟩:=O0.mp a;rfl
 have d:(OO aw ns bs).all jj=true:=OT.mpr λx a=>by
  obtain⟨i,hi⟩:=QE.mp a;rw[Qa]at hi;split at hi
  ·cases hi;rfl
  ·cases hi
 have e:=OT.mpr λx a=>by
  obtain⟨g,f,rfl⟩:=O0.mp a;show BN (h.three g f)
 rw[c,d,e];rfl
abbrev pr (b2 b3 b4 b5:O6):OM:=if !b2 then "bounds" else if !b3 then "names" else if !b4 then "backs" else if !b5 then "barred" else ""
def rG (h:S[l]?=ba (.lst [.int 1,.int 2,.int 3])):b9 .notin (.int c) (.ref l) S=ba (.bl (!((1==c)||((2==c)||((3==c)||false)))),S):=by
 (delta b9 Dg eO yM wb dF;simp only[oV h,az h])
 rfl
def vG {x:O8}:((1==x)||((2==x)||((3==x)||false)))=(decide (1<=x)&&decide (x<=3)):=by
 rw[SI];revert Qn OE O1 Rm Vh;omega
def xM :(!((1==x)||((2==x)||((3==x)||false)))||(!((1==y)||((2==y)||((3==y)||false)))||decide (6<x*y))) = !bo x y:=by
 unfold bo;rw[vG,vG,show decide (6<x*y) = !decide (x*y<=6) by rw[<- decide_not];show decide_eq_decide.mpr ∅]
 generalize(decide (1<=x)&&decide (x<=3))=a;generalize(decide (1<=y)&&decide (y<=3))=b;generalize decide (x*y<=6)=c;cases a<;>cases b<;>cases c<;>rfl
def vH {R:W}{P:Ow W->Prop}(e:R=.tup xs)(h:P xs):wU R P:=by
 subst e;show h
def L3 {a :E}(e:∀Q:QW,Q (.int x,S)->wE M a Z S Q)(f:∀Q:QW,Q (.int y,S)->wE M b Z S Q)(c : -(2^64)<y)(d:y<2^64):Te M Z (.cmp .gt (.op .mul a b) (.c (.int 6))) S (decide (6<x*y)):=cC λQ k=>by
 show F7   e f c d ?_;show ac rfl (k _ .refl)
abbrev Ol (a b:E):E:=.or (.cmp .notin a (.lst #v[.c (.int 1),.c (.int 2),.c (.int 3)])) (.or (.cmp .notin b (.lst #v[.c (.int 1),.c (.int 2),.c (.int 3)])) (.cmp .gt (.op .mul a b) (.c (.int 6))))
def NG {a :E}(c:∀S Q,Q (.int x,S)->wE M a Z S Q)(d:∀S Q,Q (.int y,S)->wE M b Z S Q)(e : -(2^64)<y)(f:y<2^64):Te M Z (Ol a b) S (!bo x y):=by
 rw[<- xM];show bF (cC λQ q=>?_) λ_ S' _=>bF (cC λQ q=>?_) λ_ S2 _=>L3 (c _) (d _) e f
 ·left;show c _ _ (ac (rG ak) (q _ .push))
 ·left;show d _ _ (ac (rG ak) (q _ .push))
def BO {α:Type}{ e:E}{g:Ow (Oz OH)}(L:Ow α)(f i j out:α->W)(hf:∀x,f x=.tup [i x,j x])(R:Fm)(r:ci e=true)(p:ci c=true)(hc:cr g Z=gV::gV::gV::R)(hl:↥L<=1000000)(n:wE M e Z S λq=>q.1=.tup (L.map f)/\Ka S q.2)
  (d:∀x∈L,∀S' Q,Q (out x,S')->wE M c (gV::ba (i x)::ba (j x)::R) S' Q) (k:∀S',Ka S S'->Q (.ref ↥S',S'++[.lst (L.map out)])):Wp (aA M (.comp c (.tp [1,2]) (.seq e) .nil g) Z S) Q:=by
 obtain⟨w,S1,m,rfl,k1⟩:=bA r n;show o8 (mi:=.its (L.map f)) L f (λ_=>true) out (λZ=>∃a b,Z=gV::a::b::R) (λx=>gV::ba (i x)::ba (j x)::R) (λx Z S h=>by
  obtain⟨a,b,rfl⟩:=h;show#[?_,_,_,rfl];rw[hf];rfl) p rfl #[_,_,hc] hl (by revert iK dg m) k1 (λ_ _ _=>rfl) rfl (λx o S' l=>?_) λS' l=>?_
 ·delta oZ wC;show#[λ_=>d x o S' _ #[rfl,rfl,.refl],λz=>by cases z]
 ·rw[jd];show k S' l
def NH (b2 b3 b4 b5:O6):(b2=false->pr b2 b3 b4 b5="bounds")/\(b2=true->b3=false->pr b2 b3 b4 b5="names")/\(b2=true->b3=true->b4=false->pr b2 b3 b4 b5="backs")/\(b2=true->b3=true->b4=true->b5=false->pr b2 b3 b4 b5="barred")/\(b2=true->b3=true->b4=true->b5=true->pr b2 b3 b4 b5=""):=by
 show#[?_,?_,?_,?_,?_]<;>(intros;subst_vars;rfl)
def L4 (L:LDue defs)(a:Is defs ("_law_due") 1 5 fj)(h:Thg S w)(e:cU w=false):Cv (ae defs fuel (d+4)) y4 1 [w] S (.str "form"):=bG _ a rfl rfl rfl λc k=>by
 show aU λK hK=>cL  (aO (eZ ((Cv.eq (kJ  L.form h) e).ve λQ q=>q))) (λ_ S' b=>#[cN,λS2 k2=>k _ (b.trans k2)]) λz=>by cases z
def L5 (G:Gen defs)(L:LDue defs)(hg:Is defs ("_law_due") 1 5 fj){a :Ow OM}(h:R3 a ns bs us):Cv (ae defs fuel (d+5)) y4 1 [b6 a ns bs us] S (.str (pr (bo ↥a ↥ns) (cO (a++ns)) ((Pj ↥bs).all (bS bs)) (us.all (ff ↥a bs)&&gG us))):=bG [ba (b6 a ns bs us),gV,gV,gV,gV] hg rfl rfl rfl λQ' k=>by
 have hf:=h.form;have ht:∀S',Thg S' (b6 a ns bs us):=λ_=>h.thg
 obtain⟨A,Y,Z,B,P⟩:=NH (bo ↥a ↥ns) (cO (a++ns)) ((Pj ↥bs).all (bS bs)) (us.all (ff ↥a bs)&&gG us);have hl:=h.lm;have hl2:=h.ln;have hl3:=h.lu;have hn:=h.hn;have zl:(OO aw ns bs).length=↥ns:=by rw[PM];omega
 have V:OO aw ns bs=(ns.zip bs).map λp=>aw p.1 p.2:=by rw[Yp,Vt]
 have I:(ns.zip bs).map (λp=>W.str p.1)=ns.map W.str:=by
  rw[show(λp=>W.str p.1)=W.str∘Zk from rfl,<- QR,XH ∅]
 have J:(ns.zip bs).map (λp=>W.int p.2)=bs.map W.int:=by
  rw[show(λp=>W.int p.2)=W.int∘Prod.snd from rfl,<- QR,Xu ∅]
 have l:∀S' (Q:QW),(GoodB bs->∀g∈us,Cv (ae defs fuel (d+4)) v3 2 [b6 a ns bs us,aM g] S' (.bl (ff ↥a bs g))):=λS' Q D g i=>BI  G L D (OC ..) hn (h.three g i)
 have U:b6 a ns bs us=.tup [.tup (a.map W.str),.tup (OO aw ns bs),.tup (us.map aM)]:=rfl;generalize b6 a ns bs us=R at ht hf l U ⊢;show aU λK hK=>cL (w:=.str "form")  (aO (eZ ((Cv.eq (kJ  L.form (ht _)) hf).ve λQ q=>q))) (λz=>by cases z) λz S1 k1=>hK _ _ ?_
 nofun
 left;show vH U (ac (rfl) (hK _ _ ?_));obtain⟨X,n⟩:∃X:O8,X=↥a:=#[_,rfl];obtain⟨b,o⟩:∃b:O8,b=↥ns:=#[_,rfl];have y1 : -(2^64)<b:=∅
 have y2:b<2^64:=∅
 rw[<- n,<- o]at A;have ha:∀S' Q,Q (.int X,S')->wE (ae defs fuel (d+4)) (.bi .len #v[.v 1]) [ba R,ba (.tup (a.map W.str)),ba (.tup (OO aw ns bs)),ba (.tup (us.map aM)),gV] S' Q:=λS' Q q=>by
  left;show aL (by rw[OC,<- n];show q)
 have E:∀S' Q,Q (.int b,S')->wE (ae defs fuel (d+4)) (.bi .len #v[.v 2]) [ba R,ba (.tup (a.map W.str)),ba (.tup (OO aw ns bs)),ba (.tup (us.map aM)),gV] S' Q:=λS' Q q=>by
  left;show aL (by rw[zl,<- o];show q)
 show aU λK hK=>cL    (NG ha E y1 y2) (λz S' c=>#[cN,λS2 k2=>?_]) λz S2 k2=>hK _ _ ?_
 ·have z:bo X b=false:=by simpa using z
  rw[n,o]at z A;rw[A z]at k;show k _ (k1.trans (c.trans k2))
 have j:bo ↥a ↥ns=true:=by
  have z:bo X b=true:=by simpa using z
  rw[n,o]at z;show z
 replace k1:=k1.trans k2;nofun
 left;show ac (rfl) ?_;show BO (ns.zip bs) (λp=>aw p.1 p.2) (λp=>.str p.1) (λp=>.int p.2) (λp=>W.str p.1) (λ_=>rfl) [] rfl rfl rfl (by rw[Ux];omega) #[congrArg W.tup V,.refl] (λp _ S' Q q=>q) λm k3=>?_
 rw[I];show ac (oU (aV (k3.get _ _ ak)) ak (jc (by rw[OL,OC,OC];omega))) ?_
 rw[<- PP];show hK _ _ ?_;have C:(m++[O.lst (ns.map W.str)]++[O.lst ((a++ns).map W.str)])[(m++[O.lst (ns.map W.str)]).length]?=ba (.lst ((a++ns).map W.str)):=ak;have f:Ka S (m++[O.lst (ns.map W.str)]++[O.lst ((a++ns).map W.str)]):=(k1.trans .push).trans (k3.trans (Ka.push.trans .push));generalize(m++[O.lst (ns.map W.str)]).length=t at C ⊢;have ln:(a++ns).length<=100:=by rw[OL];omega
 show aU λK hK=>cL (x:=!((a++ns).all cV) ||!((eP (a++ns)).length==(a++ns).length)) (bF (aO (je (Bk (a++ns) W.str cV [] rfl rfl rfl (by show OQ ‹_› (OP rfl)) #[t,rfl,C,.refl] λy hy S' _=>(E3  L (h.asc y hy)).ve λQ q=>q))) λ_ S' c=>cC λQ q=>?_) (λz S' c=>#[cN,λS2 k2=>?_]) λz S5 k5=>hK _ _ ?_
 ·left;have T:=c.get _ _ C;show Bs T ln (tJ ak (lO (aV T) (ac Ef ?_)));rw[OC,dN];show q _ .push
 ·rw[Y j (by
   unfold cO;rw[Qn,R8,R8]at z;show F8 z)]at k
  show k _ (f.trans (c.trans k2))
 have r:cO (a++ns)=true:=by
  unfold cO;rw[QL,TF,TF]at z;rw[z.1,z.2];rfl
 replace f:=f.trans k5;show aU λK hK=>cL (x:=!((Pj ↥bs).all (bS bs))) (aO (eZ λQ q=>?_)) (λz S' c=>#[cN,λS2 k2=>?_]) λz S6 k6=>hK _ _ ?_
 ·left;show BO (ns.zip bs) (λp=>aw p.1 p.2) (λp=>.str p.1) (λp=>.int p.2) (λp=>W.int p.2) (λ_=>rfl) [] rfl rfl rfl (by rw[Ux];omega) #[congrArg W.tup V,.refl] (λp _ S' Q q=>q) λS7 M=>?_
  rw[J];dsimp only;show BG  L.gbacks ak ∅ λS8 N=>q _ (M.trans (Ka.push.trans N))
 ·rw[Z j r (by simpa using z)]at k
  show k _ (f.trans (c.trans k2))
 have s:(Pj ↥bs).all (bS bs)=true:=by simpa using z
 replace f:=f.trans k6;have D:GoodB bs:=by
  have:=j
  (dsimp only[bo]at this;simp only[OE,O1]at this)
  show l9 ∅ ∅ s
 show aU λK hK=>cL  (aO (je (cf us aM (ff ↥a bs) [ba R] rfl rfl rfl ∅ #[rfl,.refl] λg i S' _=>(l S' (λ_=>Yw) D g i).ve λQ q=>q))) (λz S' c=>#[cN,λS2 k2=>?_]) λz S7 M=>hK _ _ ?_
 ·rw[B j r s (by rw[show us.all (ff ↥a bs)=false by simpa using z];rfl)]at k
  show k _ (f.trans (c.trans k2))
 have z5:us.all (ff ↥a bs)=true:=by simpa using z
 rw[z5,Qw]at B P k;replace f:=f.trans M;obtain⟨ks,hk,H,hm⟩:=zD  (Uqa:=us.map bI) (by rw[OC];omega) λx hx=>hx
 show aU λK hK=>cL  (gP (NF H hm) (bF (cC λQ q=>?_) λ_ S' _=>cC λQ q=>?_)) (λz S' c=>#[cN,λS2 k2=>?_]) λz S8 N=>hK _ _ (bC cN λS9 k9=>?_)
 ·left;show pg (tz rfl ∅ (λu hu e=>?_) (ac (JB (aV ak) ak) (q _ (Ka.push.trans .push))))
  have:=(h.three u hu).1;rw[e]at this;cases this
 ·left;show E5 hk (tJ ak (aL (ac Ef ?_)));rw[OC];show q _ .push
 ·rw[B j r s (by simpa using z)]at k
  show k _ (f.trans (c.trans k2))
 ·rw[P j r s (by simpa using z)]at k
  show k _ (f.trans (N.trans k9))
abbrev BP:BK:=.test "look_rule!" 1 #v[.v 0] #v[.set 1 (.c (.str ""))]
abbrev BQ (cl:Cl):Ss:=
 .cons (.set 1 (.c (.str "other")))
 #v[.ite (.sem (xr cl (λcn=>kt cn "NoRule") 2)) #v[.set 1 (.sem (xu cl "word" 2))] .nil]
abbrev cF (cl:Cl):Ss:=
 .cons (.set 1 (.c (.str "let by")))
 #v[.sem (JS cl "LayError" 2 BP (BQ cl)),.ret (.v 1)]
def R3.rf {a :Ow OM}(h:R3 a ns bs us):RF a ns bs us:=#[h.hn,h.lm,h.ln,OQ h.lu #v[],h.asc,h.three]
abbrev L6 (b2 b3 b4 b5:O6):O6:=b2&&(b3&&(b4&&b5))
def BS (b2 b3 b4 b5:O6):(L6 b2 b3 b4 b5=true/\rD true b2 b3 b4 b5=.tup [.non,.bl true]/\pr b2 b3 b4 b5="")\/(rD true b2 b3 b4 b5=.tup [.str "NoRule",.str (pr b2 b3 b4 b5)]):=by
 cases b2
 ·show .inr rfl
 cases b3
 ·show .inr rfl
 cases b4
 ·show .inr rfl
 cases b5
 ·show .inr rfl
 show .inl #[rfl,rfl,rfl]
def vI (hc:cl "NoRule" = ba (C,[("word": OM)]))(m:Is defs ("_law_word") 1 3 (cF cl))(h:Cv (ae defs fuel d) "look_rule!" 1 [w] S (.tup [.str "NoRule",.str x]))(k:∀S',Ka S S'->Q (.str x,S')):wO (aY (ae defs fuel (d+1)) q0 1 [w] S) Q:=by
 show aF m rfl rfl λf l=>?_
 replace k:=λS' a=>l _ _ (k S' a)
 have e:=h (λp=>p.1=.tup _/\Ka S p.2) λS' o=>#[rfl,o]
 unfold aY at e;obtain⟨⟨v,S1⟩,g,i,q⟩:=bd e;subst i;show st ?_;nofun
 have j:bP (ae defs fuel d) #v[.v 0] [ba w,ba (.str "let by"),gV] S=ba _:=rfl;obtain⟨r,s⟩:=Jr   j rfl g rfl;show LF  rfl r s hc (by decide +kernel) ?_
 have hs:(S1++[O.exc _ C _ _])[↥S1]?=ba (O.exc "NoRule" C ["word"] [.str x]):=ak;have c:Ka S (S1++[O.exc "NoRule" C ["word"] [.str x]]):=q.trans .push;generalize S1++[O.exc "NoRule" C ["word"] [.str x]]=S2 at hs c ⊢;show st ?_;show aU λt b=>?_
 delta wS wT;show ac (Js rfl hs hc) (ac rfl ?_);show ar (Q0:=LD 2 K f) (λz u n _=>st ?_) (λz=>absurd z (by decide +kernel))
 show ac (Jt  rfl hs hc rfl) ?_;show cM (n _ _ (b _ _ (cM ?_)));show hK _ _ (st ?_);show k S2 c
def BU (i:Is defs ("_law_word") 1 3 (cF cl))(h:Cv (ae defs fuel d) "look_rule!" 1 [w] S (.tup [.non,.bl true]))(k:∀S',Ka S S'->Q (.str "",S')):wO (aY (ae defs fuel (d+1)) q0 1 [w] S) Q:=by
 show aF i rfl rfl λm g=>?_
 replace k:=λS' a=>g _ _ (k S' a)
 have b:=h (λp=>p.1=.tup _/\Ka S p.2) λS' j=>#[rfl,j]
 unfold aY at b;obtain⟨⟨v,S1⟩,c,e,l⟩:=bd b;subst e;show st ?_;nofun
 have f:bP (ae defs fuel d) #v[.v 0] [ba w,ba (.str "let by"),gV] S=ba _:=rfl;show LG (o:=.nx [ba w,ba (.str ""),gV]) (S1:=S1) ?_ (hK _ _ (st ?_))
 ·show(ES  f rfl c rfl).trans rfl
 ·show k S1 l
abbrev L7 (a ns:Ow OM)(bs:Ow O8)(us:Ow Wd):OM:=pr (bo ↥a ↥ns) (cO (a++ns)) ((Pj ↥bs).all (bS bs)) (us.all (ff ↥a bs)&&gG us)
def L8 (b:30<fuel)(L:Look defs)(P:Parts defs)(c:Is defs ("longer_orders") 2 4 aE)(e:Is defs ("least_form") 2 7 aQ){a :Ow OM}(h:R3 a ns bs us):Cv (ae defs fuel (d+7)) "look_rule!" 1 [b6 a ns bs us] S (rD true (bo ↥a ↥ns) (cO (a++ns)) ((Pj ↥bs).all (bS bs)) (us.all (ff ↥a bs)&&gG us)):=by
 show vF  b L P c e h.rf (by rw[h.hn]) (λ_=>rfl) (λ_ _=>rfl) λf _ g=>#[?_,Bool.and_comm ..]
 simp only[bo,OE,O1]at f;have:=h.hn;show l9 ∅ ∅ g
def L9 (b:30<fuel)(hc:cl "NoRule" = ba (C,[("word": OM)]))(hw:Is defs ("_law_word") 1 3 (cF cl))(L:Look defs)(P:Parts defs)(c:Is defs ("longer_orders") 2 4 aE)(i:Is defs ("least_form") 2 7 aQ){f :Ow OM}(h:R3 f ns bs us)(k:∀S',Ka S S'->Q (.str (L7 f ns bs us),S')):wO (aY (ae defs fuel (d+8)) q0 1 [b6 f ns bs us] S) Q:=by
 have a:=L8 (d:=d) (S:=S) b L P c i h;unfold L7 at k;rcases BS _ _ _ _ with⟨_,e,g⟩|e
 ·rw[e]at a;rw[g]at k;show BU hw a k
 ·rw[e]at a;show vI hc hw a k
def JC (hc:cl "NoRule" = ba (C,[("word": OM)]))(hw:Is defs ("_law_word") 1 3 (cF cl))(L:Look defs)(h:Thg S w)(e:cU w=false)(k:∀S',Ka S S'->Q (.str "form",S')):wO (aY (ae defs fuel (d+8)) q0 1 [w] S) Q:=vI hc hw (E1  L h e) k
abbrev a8:Ss:=
 #v[.set 2 (.own qq 2 #v[.v 0,.c (.int 3)]),.asg [3,4] (.ix (.v 1) (.v 2)),.set 5 (.op .sub (.own qq 2 #v[.v 0,.c (.int 5)]) (.c (.int 1))),.set 6 (.own qq 2 #v[.v 0,.c (.int 8)]),.ite (.cmp .eq (.v 6) (.c (.int 0))) #v[.ret (.own qs 3 #v[.v 1,.v 2,.tup #v[.v 3,.op .add (.v 4) (.tup #v[.v 5])]])] .nil,.ite (.cmp .eq (.v 6) (.c (.int 1))) #v[.ret (.own qs 3 #v[.v 1,.v 2,.tup #v[.c (.bl true),.v 4]])] .nil,.ite (.or (.cmp .lt (.v 6) (.c (.int 4))) (.cmp .eq (.v 2) (.c (.int 0)))) #v[.ret (.own qs 3 #v[.v 1,.v 2,.tup #v[.op .sub (.own qq 2 #v[.v 0,.c (.int 5)]) (.c (.int 1)),.v 4]])] .nil,.ret (.own qs 3 #v[.v 1,.v 2,.tup #v[.v 3,.own qs 3 #v[.v 4,.own qq 2 #v[.v 0,.v 2],.v 5]]])]
def eG {xs:Ow W}(h:i<↥xs):xs.take i++[w]++xs.drop (i+1)=xs.set i w:=by
 rw[List.set_eq_take_append_cons_drop,OZ h,Rc];rfl
abbrev NI (w:W):Prop:=(∃g,bY g/\w=aM g)\/((∀S,Thg S w)/\cg w=false)
def xN {g:Wd}{p:Pt}(h:bY g)(c:↥p.2=i):bY (g.set i p):=by
 obtain⟨b,hl⟩:=h;show#[by rw[Qz];show b,λk q a=>?_]
 rw[Qv]at a;split at a
 next e=>
  split at a
  ·cases a;rw[<- e];show c
  ·cases a
 ·show hl k q a
def JD {g:Wd}(h:bY g){p:Pt}(a:p∈g):Thg S (b7 p):=by
 obtain⟨b,hl⟩:=h;obtain⟨i,hi⟩:=QE.mp a;have:=hl i p hi;have:=(OS.mp hi).1;show Thg.pt ∅
def F9 {g:Wd}(h:bY g)(hi:i<3)(hw:∀S,Thg S w)(e:kI i w=false):NI (.tup ((g.map b7).set i w)):=by
 have c:(g.map b7).length=3:=by rw[OC];show h.1
 show .inr #[λS=>.tup (λx a=>?_) (by rw[Qz];omega),?_]
 ·rcases QU a with a|rfl
  ·obtain⟨p,b,rfl⟩:=O0.mp a;show JD h b
  ·show hw S
 ·rw[nC];have a:((g.map b7).set i w)[i]?=ba w:=QQ ∅
  have:tM _=false:=gr   (x:=(w,i)) (by rw[Uk,a];simp) e
  show(_&&tM _)=false;rw[this,QI]
def xP (G:Gen defs)(A:Is defs ("_law_put") 3 3 bZ)(O:Is defs ("_law_changed_point") 2 7 a8){g:Wd}(h:bY g)(hf:Fl S r)(k:∀w S',NI w->Fl S' r->Kp r S S'->Q (w,S')):wO (aY (ae defs fuel (d+2)) "_law_changed_point" 2 [.ref r,aM g] S) Q:=by
 show aF O rfl rfl λu I=>?_
 replace k:=λz S' a b c=>I _ _ (k z S' a b c)
 clear I;change wZ _ _ a8 [ba (.ref r),ba (aM g),gV,gV,gV,gV,gV] S u;delta a8;have N:=h.1;have X:(g.map b7).length=3:=by rw[OC];show N
 nofun
 left;show aH  G.pick hf #v[] #v[] λv S1 T Z E k1=>hK _ _ ?_
 clear hK K;obtain⟨i,rfl⟩:∃i:OH,v=i:=#[v.toNat,∅]
 have hi:i<3:=∅
 obtain⟨p,J⟩:∃p,g[i]?=ba p:=#[_,ON ∅]
 have pl:=h.2 i p J;have R:∀S,Thg S (.tup (p.2.map W.int)):=λS=>.tup (λx t=>by obtain⟨y,_,rfl⟩:=O0.mp t;show .int) (by rw[OC];omega)
 nofun
 left;show ap   ∅ (by rw[Pi,OY,J];rfl) ?_
 delta wU;show ac (rfl) (hK _ _ ?_);clear hK K;nofun
 left;show aH  G.pick E #v[] #v[] λv S2 _ _ H k2=>ac Au (hK _ _ ?_)
 clear hK K;generalize v-1=n;nofun
 left;show aH  G.pick H #v[] #v[] λf L _ _ B k3=>hK _ _ ?_
 clear hK K;have k0:=k1.trans (k2.trans k3);clear k1 k2 k3 E H;have put:∀w S' Q,Q (.tup ((g.map b7).set i w),S')->wO (aY (ae defs fuel (d+1)) qs 3 [aM g,.int i,w] S') Q:=λw S' Q q=>by
  show nB  A ∅ ?_
  rw[eG ∅];show q
 have o:∀q ,↥q.2=i->NI (.tup ((g.map b7).set i (b7 q))):=λq P=>.inl #[g.set i q,xN h P,by unfold aM;rw[VH]]
 generalize V:aM g=wg at put;nofun
 delta wS wT wE wV;show ar (Q0:=u) (λ_ e _ m=>st ?_) (λ_ e s _=>cM (s _ _ (hK _ _ ?_)))
 ·left;show ac (dj (jc (by rw[OL,OC];show _+1<=_;omega))) (put _ _ _ (m _ _ (k _ _ (F9 h hi (λS=>.tup (fc .int (fc (.tup (λx t=>?_) (by rw[OL,OC];show _+1<=100;omega)) fn)) (by change 2<=100;decide)) ?_) B k0)))
  ·rcases Px.mp t with t|t
   ·obtain⟨y,_,rfl⟩:=O0.mp t;show .int
   ·rw[O3.mp t];show .int
  ·show(true&&(((p.2.map W.int++[W.int n]).length==i)&&_))=false;have:((p.2.map W.int++[W.int n]).length==i)=false:=X7 (by rw[OL,OC];show _+1≠_;omega)
   rw[this];rfl
 clear hK K s;nofun
 delta wS wT wE;show ar (Q0:=u) (λ_ e _ m=>st ?_) (λ_ e s _=>cM (s _ _ (hK _ _ ?_)))
 ·left;show put _ _ _ (m _ _ (k _ _ (F9 h hi (λS=>.tup (fc .bl (fc (R S) fn)) (by change 2<=100;decide)) rfl) B k0))
 clear hK K s;nofun
 delta wS wT wE wV wG eW Aw aZ wB;have l:∀e ,(∀w S',u (.rt w,S')->e (.rt w,S'))->wZ (ae defs fuel (d+1)) fuel #v[.ret (.own qs 3 #v[.v 1,.v 2,.tup #v[.op .sub (.own qq 2 #v[.v 0,.c (.int 5)]) (.c (.int 1)),.v 4]])] [ba (.ref r),ba wg,ba (.int i),ba (.int p.1),ba (.tup (p.2.map W.int)),ba (.int n),ba (.int f)] L e:=λe m=>by
  show st ?_;left;show aH  G.pick B #v[] #v[] λv M _ _ C D=>ac Au (put _ _ _ (m _ _ (k _ _ (o (v-1,p.2) pl) C (k0.trans D))))
 show#[λ_=>ar (Q0:=u) (λ_ e _ m=>l e m) (λz=>by cases z),λ_=>ar (Q0:=u) (λ_ e _ m=>l e m) (λz e s _=>cM (s _ _ (hK _ _ (st ?_))))]
 have U:0<i:=by
  rcases Nat.eq_zero_or_pos i with rfl|h
  ·cases z
  ·show h
 left;show aH  G.pick B ∅ ∅ λv M T Y C D=>?_
 obtain⟨j,rfl⟩:∃j:OH,v=j:=#[v.toNat,∅]
 show nB  A (by rw[OC];omega) ?_
 rw[eG (by rw[OC];omega),VH.symm]
 show put _ _ _ (k _ _ (o (p.1,p.2.set j n) (by rw[Qz];show pl)) C (k0.trans D))
abbrev bp:Ss:=
 #v[.asg [2,3,4] (.v 1),.set 5 (.own qq 2 #v[.v 0,.c (.int 4)]),.set 6 (.own qq 2 #v[.v 0,.op .add (.bi .len #v[.v 4]) (.c (.int 1))]),.ite (.or (.cmp .eq (.v 5) (.c (.int 0))) (.cmp .eq (.v 6) (.bi .len #v[.v 4]))) #v[.set 7 (.own vr 3 #v[.v 0,.bi .max #v[.c (.int 1),.bi .len #v[.v 2]],.bi .max #v[.c (.int 1),.bi .len #v[.v 3]]]),.ret (.tup #v[.v 2,.v 3,.op .add (.op .add (.sl (.v 4) .no (.yes (.v 6))) (.tup #v[.v 7])) (.sl (.v 4) (.yes (.v 6)) .no)])] .nil,.ite (.cmp .eq (.v 5) (.c (.int 1))) #v[.ret (.tup #v[.v 2,.v 3,.op .add (.sl (.v 4) .no (.yes (.v 6))) (.sl (.v 4) (.yes (.op .add (.v 6) (.c (.int 1)))) .no)])] .nil,.ite (.cmp .eq (.v 5) (.c (.int 2))) #v[.ret (.tup #v[.v 2,.v 3,.op .add (.op .add (.sl (.v 4) .no (.yes (.v 6))) (.tup #v[.ix (.v 4) (.v 6)])) (.sl (.v 4) (.yes (.v 6)) .no)])] .nil,.ret (.tup #v[.v 2,.v 3,.own qs 3 #v[.v 4,.v 6,.own "_law_changed_point" 2 #v[.v 0,.ix (.v 4) (.v 6)]]])]
structure R3n (m:OH)(ms ns:Ow OM)(bs:Ow O8)(us:Ow Wd):Prop where
 r:R3 ms ns bs us
 lm:↥ms<=3+m
 ln:↥ns<=3+m
 lu:↥us<=60+m
inductive Chg (m:OH)(S:aa)(w:W):Prop
 |ok {ms ns:Ow OM}{bs:Ow O8}{us:Ow Wd} (h:R3n m ms ns bs us) (e:w=b6 ms ns bs us):Chg m S w
 |no (h:Thg S w) (e:cU w=false):Chg m S w
def E6 {a :Ow OM}{ vs:Ow Wd}(h:R3n m a ns bs us)(c:m<=2)(hl:↥vs<=↥us+1)(b:∀g∈vs,bY g):Chg (m+1) S (.tup [.tup (a.map W.str),.tup (OO aw ns bs),.tup (vs.map aM)]):=by
 have:=h.lu;show .ok  #[#[h.r.hn,h.r.lm,h.r.ln,∅,h.r.asc,b],Ry h.lm,Ry h.ln,∅] rfl
def NJ (h:R3n m b ns bs us)(c:j<↥us)(hw:∀S,Thg S w)(e:cg w=false):Chg (m+1) S (.tup [.tup (b.map W.str),.tup (OO aw ns bs),.tup ((us.map aM).set j w)]):=by
 have ht:=(h.r.thg (S:=S)).mem.1;show .no (.tup (fc (ht _ OU) (fc (ht _ (OV _ OU)) (fc (.tup (λx a=>?_) ?_) fn))) (by change 3<=100;decide)) ?_
 ·rcases QU a with a|rfl
  ·show(ht _ (OV _ (OV _ OU))).mem.1 x a
  ·show hw S
 ·have:=h.r.lu;rw[Qz,OC];show OQ ‹_› (OP rfl)
 ·show(_&&(_&&((us.map aM).set j w).all _))=false;rw[gr  (QQ (by rw[OC];show c)) e,QI,QI]
def tQ {a :OH}(b:↥u=3)(h:GoodW a n u):bY u:=#[b,h.len]
def JE {us:Ow Wd}{P:Wd->Prop}(h:∀g∈us,P g)(i j:OH)(c:∀g∈b,P g):∀g∈us.take i++b++us.drop j,P g:=λg a=>by
 rcases Px.mp a with a|a
 ·rcases Px.mp a with a|a
  ·show h g (Rw a)
  ·show c g a
 ·show h g (R9 a)
def BV (q:Q (.int (max 1 n:OH),S)):wO (Bi.max.fn [.int 1,.int n] S) Q:=by
 show ac ?_ q;change ba _=_;have:(if (n:O8) > 1 then(n:O8)else 1)=(max 1 n):=by split<;>omega
 rw[this]
def pA {j:OH}:md (.tup xs) gV (ba j) S=ba (.tup (xs.take j),S):=by revert md iY
def kK {j:OH}:md (.tup xs) (ba j) gV S=ba (.tup (xs.drop j),S):=by revert md iZ
def BW {xs:Ow W}(h:↥xs<=200):(xs.take i++xs.drop j).length<=sizeLine/\∀w,(xs.take k++[w]).length<=sizeLine/\(xs.take i++[w]++xs.drop j).length<=sizeLine:=by
 show#[jc ?_,λw=>#[jc ?_,jc ?_]]<;>(revert OL Py Qm Po Qr;omega)
def mr (G:Gen defs){a :OH}(hf:Fl S r)(M:0<a)(B:a<=100)(N:0<n)(C:n<=100)(k:∀ u S',↥u=3->GoodW a n u->Fl S' r->Kp r S S'->Q (aM u,S')) :
  wO (aY (ae defs fuel (d+2)) vr 3 [.ref r,.int a,.int n] S) Q:=by
 show aF G.free_three rfl rfl λI A=>?_
 replace k:=λz S' a b c e=>A _ _ (k z S' a b c e)
 have o:=hf.lt;show st ?_;left;nofun
 show gf 3 (λk Z S'=>∃j u,Z=[ba _,ba _,ba _,ba _,j]/\S'[↥S]?=ba (.lst (u.map b7))/\↥u=k/\GoodW a n u/\Fl S' r/\Kp r S S') rfl rfl #v[] #[rfl,gV,[],rfl,ak,rfl,.nil,hf.ka .push,.push] ?_ ?_
 ·rintro i Z S1 hi ⟨j,u,rfl,h,g,p,l,k1⟩ J m _;show st ?_;left;show#[jI h,aH  G.pick l ∅ ∅ λv S2 E H x k2=>?_]
  have w:=k2.get _ _ (by show PZ ‹_›) h
  show draws    rfl rfl ∅ rfl x (λQ q=>q) (λa S1 Q f q=>aH  G.pick f ∅ ∅ q) λvs L s D y k3=>?_
  have t:=aV (u:=O.lst (eu vs)) (k3.get _ _ (by show PZ ‹_›) w)
  show fu ak (vg t (by rw[OC];omega) (cM (m _ _ #[_,u++[(v,vs)],rfl,?_,by rw[OL,g];rfl,p.snoc #[E,H] (s.trans g.symm) D,(y.ka .push).own o,(k1.trans (k2.trans (k3.trans .push))).late (OR _)])))
  rw[fR t,PP];rfl
 ·rintro Z S1 ⟨j,u,rfl,h,g,p,l,k1⟩;show hK _ _ (st ?_);show fu h (k u _ g p l k1)
def tR (G:Gen defs)(q:Is defs ("_law_put") 3 3 bZ)(U:Is defs ("_law_changed_point") 2 7 a8)(l:Is defs ("_law_changed_barred") 2 8 bp)(B:m<=2)(h:R3n m y ns bs us)(hf:Fl S r)(k:∀w S',Chg (m+1) S' w->Fl S' r->Kp r S S'->Q (w,S')):wO (aY (ae defs fuel (d+3)) "_law_changed_barred" 2 [.ref r,b6 y ns bs us] S) Q:=by
 show aF l rfl rfl λp I=>?_
 replace k:=λz S' a b c=>I _ _ (k z S' a b c)
 clear I;have O:=h.lm;have P:=h.ln;have T:=h.lu;have t:(us.map aM).length<=200:=by rw[OC];omega
 have Y:(OO aw ns bs).length=↥ns:=by rw[PM,h.r.hn];omega
 change wZ _ _ bp [ba (.ref r),ba (b6 y ns bs us),gV,gV,gV,gV,gV,gV] S p;delta bp;nofun
 left;show vH rfl (ac (rfl) (hK _ _ ?_));clear hK K;generalize b6 y ns bs us=R;nofun
 left;show aH  G.pick hf #v[] #v[] λf S1 _ _ E k1=>hK _ _ ?_
 clear hK K;nofun
 left;show aL (ac gN ?_);show aH  G.pick E ∅ (by rw[OC];omega) λv S2 v0 X A k2=>hK _ _ ?_
 clear hK K;rw[OC]at X;obtain⟨j,rfl⟩:∃j:OH,v=j:=#[v.toNat,∅]
 have k0:=k1.trans k2;clear k1 k2 E;nofun
 delta wS wT wE wA wV wG;have first:∀e ,(∀w S',p (.rt w,S')->e (.rt w,S'))->wZ (ae defs fuel (d+2)) fuel #v[.set 7 (.own vr 3 #v[.v 0,.bi .max #v[.c (.int 1),.bi .len #v[.v 2]],.bi .max #v[.c (.int 1),.bi .len #v[.v 3]]]),.ret (.tup #v[.v 2,.v 3,.op .add (.op .add (.sl (.v 4) .no (.yes (.v 6))) (.tup #v[.v 7])) (.sl (.v 4) (.yes (.v 6)) .no)])] [ba (.ref r),ba R,ba (.tup (y.map W.str)),ba (.tup (OO aw ns bs)),ba (.tup (us.map aM)),ba (.int f),ba (.int j),gV] S2 e:=λe n=>by
  nofun
  left;show aL (BV (aL (BV ?_)));rw[OC,Y];show mr  G A ∅ ∅ ∅ ∅ λu L V M C k3=>hK _ _ (st ?_)
  delta wS wE wA wP wN wV wG OJ;show ac pA (ac (dj ((BW (i:=j) (j:=j)  t).2 _).1) (ac kK (ac (dj ((BW   (k:=j) t).2 _).2) ?_)));dsimp only;rw[show(us.map aM).take j++[aM u]++(us.map aM).drop j=(us.take j++[u]++us.drop j).map aM by revert PP Tt Ug;rfl]
  show n _ _ (k _ _ (E6 h B (by revert OL Py Qm Po Qr;omega) (JE h.r.three j j λg l=>by rw[O3.mp l];show tQ V M)) C (k0.trans k3))
 show#[λ_=>ar (Q0:=p) (λ_ e _ n=>first e n) (λz=>by cases z),λ_=>aL (ac eW (ar (Q0:=p) (λ_ e _ n=>first e n) (λz e o _=>cM (o _ _ (hK _ _ ?_)))))]
 clear first o hK K
 have J:j<↥us:=by
  rw[OC]at z;have:=ne_of_beq_false z;omega
 nofun
 delta wS wT wE wV wG eW aZ wB;show ar (Q0:=p) (λ_ e _ n=>st ?_) (λ_ e o _=>cM (o _ _ (hK _ _ ?_)))
 ·delta wS wE wA wP wN wV wG OJ;show ac pA (ac gN (ac (kK ) (ac (dj (BW   (k:=j) t).1) ?_)));dsimp only;rw[show(us.map aM).take j++(us.map aM).drop (j+1)=(us.take j++[]++us.drop (j+1)).map aM by simp only[PP,Tt,Ug,List.map_nil,Ql]]
  show n _ _ (k _ _ (E6 h B (by revert OL Py Qm Qr;omega) (JE h.r.three j (j+1) λg l=>nomatch l)) A k0)
 clear hK K o;obtain⟨g,l⟩:∃g,us[j]?=ba g:=#[_,ON J];have H:=O7 l;nofun
 delta wS wT wE wV wG eW aZ wB;show ar (Q0:=p) (λ_ e _ n=>st ?_) (λ_ e o _=>cM (o _ _ (hK _ _ (st ?_))))
 ·delta wS wE wA wP wN wV wG OJ;show ac pA (ap   ∅ (by rw[Pi,OY,l];rfl) ?_)
  dsimp only;show ac (dj ((BW (i:=j) (j:=j)  t).2 _).1) (ac kK (ac (dj ((BW   (k:=j) t).2 _).2) ?_));dsimp only;rw[show(us.map aM).take j++[aM g]++(us.map aM).drop j=(us.take j++[g]++us.drop j).map aM by revert PP Tt Ug;rfl]
  show n _ _ (k _ _ (E6 h B (by revert OL Py Qm Po Qr;omega) (JE h.r.three j j λx s=>by rw[O3.mp s];show h.r.three g H)) A k0)
 clear hK K o;left;show ap   ∅ (by rw[Pi,OY,l];rfl) ?_
 dsimp only;show xP  G q U (h.r.three g H) A λw L hw C k3=>?_
 show nB  q (by rw[OC];omega) ?_
 rw[eG (by rw[OC];omega)]
 show k _ _ ?_ C (k0.trans k3);rcases hw with⟨Z,D,rfl⟩|⟨N,D⟩
 ·rw[VH.symm];show E6 h B (by rw[Qz];omega) λx s=>by
   rcases QU s with s|rfl
   ·show h.r.three x s
   ·show D
 ·show NJ h J N D
abbrev bw:Ss:=
 #v[.asg [2,3,4] (.v 1),.set 5 (.op .add (.lst #v[.c (.str ""),.c (.str "x"),.c (.str "bar"),.c (.str "is"),.c (.str "isx"),.c (.str "A"),.c (.str "abcdefgh"),.c (.str "abcdefghi")]) (.bi .list #v[.v 2])),.set 6 (.ix (.v 5) (.own qq 2 #v[.v 0,.bi .len #v[.v 5]])),.set 7 (.own qq 2 #v[.v 0,.c (.int 4)]),.ite (.and (.cmp .eq (.v 7) (.c (.int 0))) (.cmp .ne (.v 2) (.tup .nil))) #v[.ret (.tup #v[.own qs 3 #v[.v 2,.own qq 2 #v[.v 0,.bi .len #v[.v 2]],.v 6],.v 3,.v 4])] .nil,.ite (.cmp .eq (.v 7) (.c (.int 1))) #v[.ret (.tup #v[.ix (.lst #v[.sl (.v 2) (.yes (.c (.int 1))) .no,.op .add (.v 2) (.tup #v[.v 6])]) (.own qq 2 #v[.v 0,.c (.int 2)]),.v 3,.v 4])] .nil,.ite (.and (.cmp .eq (.v 7) (.c (.int 2))) (.cmp .ne (.v 3) (.tup .nil))) #v[.set 8 (.own qq 2 #v[.v 0,.bi .len #v[.v 3]]),.ret (.tup #v[.v 2,.own qs 3 #v[.v 3,.v 8,.tup #v[.v 6,.ix (.ix (.v 3) (.v 8)) (.c (.int 1))]],.v 4])] .nil,.ret (.tup #v[.v 2,.ix (.lst #v[.sl (.v 3) .no (.yes (.neg (.c (.int 1)))),.op .add (.v 3) (.tup #v[.tup #v[.v 6,.bi .len #v[.v 3]]])]) (.own qq 2 #v[.v 0,.c (.int 2)]),.v 4])]
abbrev fk:Ss:=
 #v[.asg [2,3,4] (.v 1),.set 5 (.own qq 2 #v[.v 0,.c (.int 7)]),.ite (.and (.cmp .eq (.v 5) (.c (.int 0))) (.cmp .ne (.v 3) (.tup .nil))) #v[.set 6 (.own qq 2 #v[.v 0,.bi .len #v[.v 3]]),.set 7 (.ix (.lst #v[.neg (.c (.int 1)),.c (.int 0),.c (.int 1),.c (.int 2),.c (.int 3),.c (.bl true),.c .non]) (.own qq 2 #v[.v 0,.c (.int 7)])),.ret (.tup #v[.v 2,.own qs 3 #v[.v 3,.v 6,.tup #v[.ix (.ix (.v 3) (.v 6)) (.c (.int 0)),.v 7]],.v 4])] .nil,.ite (.and (.cmp .eq (.v 5) (.c (.int 1))) (.cmp .eq (.own qq 2 #v[.v 0,.c (.int 4)]) (.c (.int 0)))) #v[.ret (.tup #v[.v 2,.v 3,.bi .list #v[.v 4]])] .nil,.ite (.cmp .lt (.v 5) (.c (.int 4))) #v[.ret (.own "_law_changed_names" 2 #v[.v 0,.v 1])] .nil,.ret (.own "_law_changed_barred" 2 #v[.v 0,.v 1])]
abbrev vJ:Ss:=
 #v[.set 1 (.own "_law_flow" 1 #v[.v 0]),.set 2 (.own "_law_rule" 1 #v[.v 1]),.loop (.nm 3) (.rng #v[.c (.int 6)]) #v[.set 4 (.v 2),.loop (.nm 5) (.rng #v[.op .add (.c (.int 1)) (.own qq 2 #v[.v 1,.c (.int 3)])]) #v[.ite (.own uv 1 #v[.v 4]) #v[.set 4 (.own "_law_changed" 2 #v[.v 1,.v 4])] .nil],.set 6 (.own y4 1 #v[.v 4]),.ite (.or (.not (.own xi 2 #v[.own q0 1 #v[.v 4],.v 6])) (.cmp .isnot (.own "look_rule" 1 #v[.v 2]) (.c (.bl true)))) #v[.ret (.c (.bl false))] .nil,.ite (.not (.own xi 2 #v[.own q0 1 #v[.v 4],.v 6])) #v[.ret (.c (.bl false))] .nil],.ret (.c (.bl true))]
structure Lw03 (cl:Cl)(defs:Ow (OM×Df)):Prop where
 gen:Gen defs
 parts:Parts defs
 longer:Is defs ("longer_orders": OM) 2 4 aE
 least:Is defs ("least_form": OM) 2 7 aQ
 look:Look defs
 due3:LDue defs
 flow:Is defs ("_law_flow": OM) 1 1 hZ
 rule:Is defs ("_law_rule": OM) 1 6 fW
 alike:Is defs ("_law_alike": OM) 2 2 bH
 put:Is defs ("_law_put": OM) 3 3 bZ
 point:Is defs ("_law_changed_point": OM) 2 7 a8
 names:Is defs ("_law_changed_names": OM) 2 9 bw
 barred:Is defs ("_law_changed_barred": OM) 2 8 bp
 changed:Is defs ("_law_changed": OM) 2 8 fk
 due:Is defs ("_law_due": OM) 1 5 fj
 word:Is defs ("_law_word": OM) 1 3 (cF cl)
 law:Is defs ("law": OM) 1 7 vJ
def JF { a :Ow OM}(h:R3n m b ns bs us)(e:m<=2)(hl:↥a<=↥b+1)(c:∀y∈a,Asc y):Chg (m+1) S (.tup [.tup (a.map W.str),.tup (OO aw ns bs),.tup (us.map aM)]):=by
 have:=h.lm;show .ok  #[#[h.r.hn,∅,h.r.ln,h.r.lu,λy d=>(Px.mp d).elim (c y) λz=>h.r.asc y (Pg _ z),h.r.three],∅,Ry h.ln,Ry h.lu] rfl
def E7 {  a:Ow OM}(h:R3n m c ns bs us)(g:m<=2)(e:↥a=↥b)(hl:↥a<=↥ns+1)(d:∀y∈a,Asc y):Chg (m+1) S (.tup [.tup (c.map W.str),.tup (OO aw a b),.tup (us.map aM)]):=by
 have:=h.ln;show .ok   #[#[e,h.r.lm,∅,h.r.lu,λy f=>(Px.mp f).elim (λz=>h.r.asc y (PU _ z)) (d y),h.r.three],Ry h.lm,∅,Ry h.lu] rfl
def rH :b9 .ne (.tup xs) (.tup []) S=ba (.bl (!xs.isEmpty),S):=by cases xs<;>rfl
def BX :gB xs gV (ba (-1))=xs.take (↥xs-1):=by
 unfold gB;rw[HT.ip,UR,Xg];congr 1;have e:=HT.nJ (-1) ↥xs ↥xs;rw[OZ #v[]]at e
 omega
def E8 :md (.tup xs) gV (ba (-1)) S=ba (.tup (xs.take (↥xs-1)),S):=by revert md BX
abbrev gH:Ow OM:=["","x","bar","is","isx","A","abcdefgh","abcdefghi"]
def E9 (h:((y.cps.all λc=>decide (c<128))&&decide (↥y<=1000))=true):Asc y:=by
 rw[OE]at h;show#[h.1,PC h.2]
def Fa:∀y∈gH,Asc y:=λy a=>E9 (OT.mp (show gH.all (λy=>(y.cps.all λc=>decide (c<128))&&decide (↥y<=1000))=true by decide +kernel) y a)
def Fb (h:bs[j]?=ba b):(OO aw ns bs).set j (aw x b)=OO aw (ns.set j x) bs:=by
 apply Xh;intro i;rw[Qa,Qv,Qv,PM,Qa];obtain⟨a,_⟩:=OS.mp h
 by_cases e:j=i
 ·subst e;rw[OZ rfl,OZ rfl,h]
  by_cases l:j<↥ns
  ·rw[OZ ∅,OZ l]
  ·rw[Pd ∅,Pd l]
 ·rw[Pd e,Pd e]
def BY (h:ns[j]?=ba x):(OO aw ns bs).set j (aw x b)=OO aw ns (bs.set j b):=by
 apply Xh;intro i;rw[Qa,Qv,Qv,PM,Qa];obtain⟨a,_⟩:=OS.mp h
 by_cases e:j=i
 ·subst e;rw[OZ rfl,OZ rfl,h]
  by_cases l:j<↥bs
  ·rw[OZ ∅,OZ l]
  ·rw[Pd ∅,Pd l]
 ·rw[Pd e,Pd e]
def xQ (G:Gen defs)(J:Is defs ("_law_put") 3 3 bZ)(hg:Is defs ("_law_changed_names") 2 9 bw)(I:m<=2){e :Ow OM}(h:R3n m e ns bs us)(hf:Fl S r)(k:∀w S',Chg (m+1) S' w->Fl S' r->Kp r S S'->Q (w,S')):wO (aY (ae defs fuel (d+3)) "_law_changed_names" 2 [.ref r,b6 e ns bs us] S) Q:=by
 show aF hg rfl rfl λE hR=>?_
 replace k:=λz S' a b c=>hR _ _ (k z S' a b c)
 clear hR;have hlm:=h.lm;have hln:=h.ln;have l:=h.r.hn;have C:(OO aw ns bs).length=↥ns:=by rw[PM,l];omega
 change wZ _ _ bw [ba (.ref r),ba (b6 e ns bs us),gV,gV,gV,gV,gV,gV,gV] S E;delta bw;nofun
 left;show vH rfl (ac (rfl) (hK _ _ ?_));clear hK K;generalize b6 e ns bs us=R;nofun
 left;rw[show[W.str "",W.str "x",W.str "bar",W.str "is",W.str "isx",W.str "A",W.str "abcdefgh",W.str "abcdefghi"]=gH.map W.str from rfl]
 show pg (ac (oU (aV ak) ak (jc (by rw[OL,OC,OC,show gH.length=8 from rfl];omega))) ?_)
 rw[<- PP];show hK _ _ ?_;clear hK K;have H:(S++[O.lst (gH.map W.str)]++[O.lst (e.map W.str)]++[O.lst ((gH++e).map W.str)])[(S++[O.lst (gH.map W.str)]++[O.lst (e.map W.str)]).length]?=ba (.lst ((gH++e).map W.str)):=ak;have k1:Ka S (S++[O.lst (gH.map W.str)]++[O.lst (e.map W.str)]++[O.lst ((gH++e).map W.str)]):=(Ka.push.trans .push).trans .push;have X:(S++[O.lst (gH.map W.str)]++[O.lst (e.map W.str)]).length≠r:=by
  have:=hf.lt;rw[OL,OL];omega
 dsimp only;generalize(S++[O.lst (gH.map W.str)]++[O.lst (e.map W.str)]).length=t at H X ⊢;generalize S++[O.lst (gH.map W.str)]++[O.lst (e.map W.str)]++[O.lst ((gH++e).map W.str)]=S1 at H k1 ⊢;have f1:=hf.ka k1;replace k1:=k1.kp r;have Y:=λy g=>(Px.mp g).elim (Fa y) λz=>h.r.asc y (PU _ z)
 have wl:(gH++e).length=8+↥e:=by rw[OL];rfl
 generalize gH++e=words at H Y wl;nofun
 left;show lO H ?_;show aH  G.pick f1 (by rw[OC];omega) (by rw[OC];omega) λv S2 U B f2 k2=>?_
 rw[OC]at B;obtain⟨j,rfl⟩:∃j:OH,v=j:=#[v.toNat,∅]
 obtain⟨x,V⟩:∃x,words[j]?=ba x:=#[_,ON (by show Sy.mp ‹_›)]
 have P:=Y x (O7 V);show bR (k2.get _ _ X H) (by rw[OY,V];rfl) (hK _ _ ?_)
 clear hK K V U B wl Y X H;nofun
 left;show aH  G.pick f2 #v[] #v[] λf Z _ _ T k3=>hK _ _ ?_
 clear hK K f1 f2;have k0:=k1.trans (k2.trans k3);clear k1 k2 k3;have Ft:∀a b u o,Fl u r->Kp r S u->(∀w N,(w=a\/w=b)->Fl N r->Kp r S N->o (w,N))->wO (aY (ae defs fuel (d+2)) qq 2 [.ref r,.int 2] (u++[O.lst [a,b]])) λp=>wO (mL (.ref ↥u) p.1 p.2) o:=λa b u o s A q=>by
  show aH  G.pick (s.ka .push) #v[] #v[] λv N U B f5 k5=>?_
  obtain⟨i,rfl⟩:∃i:OH,v=i:=#[v.toNat,∅]
  have e5:=k5.get _ _ (Ne.symm (Pa s.lt)) ak;have k6:=A.trans ((Ka.push.kp r).trans k5)
  match i,B with
  |0,_=>show bR e5 rfl (q _ _ (.inl rfl) f5 k6)
  |1,_=>show bR e5 rfl (q _ _ (.inr rfl) f5 k6)
  |n+2,B=>omega
 nofun
 delta wS wT wE wA wV wG eW rH aZ wB
 suffices hk:K [ba (.ref r),ba R,ba (.tup (e.map W.str)),ba (.tup (OO aw ns bs)),ba (.tup (us.map aM)),ba (.ref t),ba (.str x),ba (.int f),gV] Z by
  show#[λ_=>ac rH (ar (Q0:=E) (λz o _ M=>st ?_) (λ_ o l _=>cM (l _ _ hk))),λ_=>ar (Q0:=E) (λz=>by cases z) (λ_ o l _=>cM (l _ _ hk))]
  left;have m0:0<↥e:=by
   rcases e with _|_
   ·cases z
   ·show TY _
  show aL (aH  G.pick T (by rw[OC];omega) (by rw[OC];omega) λv u U B s A=>?_)
  rw[OC]at B;obtain⟨i,rfl⟩:∃i:OH,v=i:=#[v.toNat,∅]
  show nB  J (by rw[OC];omega) ?_
  rw[eG (by rw[OC];show Sy.mp ‹_›),VH.symm]
  show M _ _ (k _ _ (JF h I (by rw[Qz];omega) λy g=>by
   rcases QU g with g|rfl
   ·show h.r.asc y (PU _ g)
   ·show P) s (k0.trans A))
 show hK _ _ ?_;clear hK K;nofun
 delta wS wT wE wV wG eW aZ wB;show ar (Q0:=E) (λ_ o _ M=>st ?_) (λ_ o l _=>cM (l _ _ (hK _ _ ?_)))
 ·delta wS wE wA wP wN wV wG OJ;show ac (kK ) (ac (dj (jc (by rw[OL,OC];show _+1<=_;omega))) ?_)
  dsimp only;show Ft _ _ _ _ T k0 λw u hw s A=>M _ _ (k _ _ ?_ s A)
  rcases hw with rfl|rfl
  ·rw[<- Ug];show JF h I (by rw[Qm];omega) λy g=>h.r.asc y (PU _ (R9 g))
  ·rw[show e.map W.str++[W.str x]=(e++[x]).map W.str by rw[PP];rfl]
   show JF h I (by rw[OL];show OR _) λy g=>(Px.mp g).elim (λz=>h.r.asc y (PU _ z)) λz=>by rw[O3.mp z];show P
 clear hK K l;have D:=h.r.hn;nofun
 delta wS wT wE wA wV wG eW rH aZ wB
 suffices hk:K [ba (.ref r),ba R,ba (.tup (e.map W.str)),ba (.tup (OO aw ns bs)),ba (.tup (us.map aM)),ba (.ref t),ba (.str x),ba (.int f),gV] Z by
  show#[λ_=>ac rH (ar (Q0:=E) (λz o _ M=>?_) (λ_ o l _=>cM (l _ _ hk))),λ_=>ar (Q0:=E) (λz=>by cases z) (λ_ o l _=>cM (l _ _ hk))]
  clear hk hK;have n0:0<↥ns:=by
   rw[<- C];generalize OO aw ns bs=L at z;rcases L with _|_
   ·cases z
   ·show TY _
  nofun
  left;show aL (aH  G.pick T (by rw[C];omega) (by rw[C];omega) λv u U B s A=>hK _ _ (st ?_))
  rw[C]at B;obtain⟨i,rfl⟩:∃i:OH,v=i:=#[v.toNat,∅]
  obtain⟨y,g⟩:∃y,ns[i]?=ba y:=#[_,ON ∅]
  obtain⟨b,hb⟩:∃b,bs[i]?=ba b:=#[_,ON ∅]
  left;show ap  (w:=aw y b) ∅ (by rw[Pi,Qa,g,hb]) (ap   #v[] rfl ?_)
  show nB  J (by rw[C];omega) ?_
  rw[eG (by rw[C];omega),show(OO aw ns bs).set i (.tup [.str x,.int b])=OO aw (ns.set i x) bs from Fb hb]
  show M _ _ (k _ _ (E7 h I (by rw[Qz];show D) (by rw[Qz];omega) λy g=>by
   rcases QU g with g|rfl
   ·show h.r.asc y (Pg _ g)
   ·show P) s (k0.trans A))
 show hK _ _ (st ?_);clear hK K;delta wS wE wA wP wN wV wG OJ;show ac E8 (aL (ac (dj (jc (by rw[OL,C];show _+1<=_;omega))) ?_))
 dsimp only;show Ft _ _ _ _ T k0 λw u hw s A=>k _ _ ?_ s A
 rw[C]at hw;rcases hw with rfl|rfl
 ·rw[Xd];show E7 h I (by rw[Py,Py];omega) (by rw[Py];omega) λy g=>h.r.asc y (Pg _ (Rw g))
 ·rw[show OO aw ns bs++[W.tup [.str x,.int ↥ns]]=OO aw (ns++[x]) (bs++[(↥ns:O8)]) by rw[List.zipWith_append D];rfl]
  show E7 h I (by rw[OL,OL,D];rfl) (by rw[OL];show OR _) λy g=>(Px.mp g).elim (λz=>h.r.asc y (Pg _ z)) λz=>by rw[O3.mp z];show P
def NK (h:R3n m b ns bs us)(hi:i<↥ns)(c:Asc y)(hw:Thg S w)(e:cz w=false):Chg (m+1) S (.tup [.tup (b.map W.str),.tup ((OO aw ns bs).set i (.tup [.str y,w])),.tup (us.map aM)]):=by
 have ht:=(h.r.thg (S:=S)).mem.1;have d:=h.r.hn;have hl:=h.r.ln;show .no (.tup (fc (ht _ OU) (fc (.tup (λx a=>?_) ?_) (fc (ht _ (OV _ (OV _ OU))) fn))) (by change 3<=100;decide)) ?_
 ·rcases QU a with a|rfl
  ·show(ht _ (OV _ OU)).mem.1 x a
  ·show .tup (fc (.str c) (fc hw fn)) (by change 2<=100;decide)
 ·rw[Qz,PM];omega
 ·show(_&&(((OO _ ns bs).set i _).all _&&_))=false;rw[gr  (QQ (by rw[PM];omega)) (show jj _=false by show(true&&cz w)=false;rw[e];rfl),Sj,QI]
def xR (G:Gen defs)(L:Lw03 cl defs)(A:m<=2)(h:R3n m n ns bs us)(hf:Fl S r)(k:∀w S',Chg (m+1) S' w->Fl S' r->Kp r S S'->Q (w,S')):wO (aY (ae defs fuel (d+4)) "_law_changed" 2 [.ref r,b6 n ns bs us] S) Q:=by
 show aF L.changed rfl rfl λo D=>?_
 replace k:=λz S' a b c=>D _ _ (k z S' a b c)
 clear D;have U:=h.lm;have V:=h.ln;have e:=h.r.hn;have p:(OO aw ns bs).length=↥ns:=by rw[PM,e];omega
 have cn:=λS2 Q (g:Fl S2 r)=>xQ (fuel:=fuel) (d:=d)  (Q:=Q) G L.put L.names A h g
 have B:=λS2 Q (g:Fl S2 r)=>tR (fuel:=fuel) (d:=d)  (Q:=Q) G L.put L.point L.barred A h g
 change wZ _ _ fk [ba (.ref r),ba (b6 n ns bs us),gV,gV,gV,gV,gV,gV] S o;delta fk;nofun
 left;show vH rfl (ac (rfl) (hK _ _ ?_));clear hK K;generalize b6 n ns bs us=R at cn B ⊢;nofun
 left;show aH  G.pick hf #v[] #v[] λf S1 _ _ u k0=>hK _ _ ?_
 clear hK K;nofun
 delta wS wT wE wA wV wG eW aZ
 suffices hk:K [ba (.ref r),ba R,ba (.tup (n.map W.str)),ba (.tup (OO aw ns bs)),ba (.tup (us.map aM)),ba (.int f),gV,gV] S1 by
  show#[λ_=>ac rH (ar (Q0:=o) (λz j _ s=>?_) (λ_ j e _=>cM (e _ _ hk))),λ_=>ar (Q0:=o) (λz=>by cases z) (λ_ j e _=>cM (e _ _ hk))]
  clear hk hK;have n0:0<↥ns:=by
   rw[<- p];generalize OO aw ns bs=L at z;rcases L with _|_
   ·cases z
   ·show TY _
  nofun
  left;show aL (aH  G.pick u (by rw[p];omega) (by rw[p];omega) λv S4 v0 Z C E=>hK _ _ ?_)
  rw[p]at Z;obtain⟨i,rfl⟩:∃i:OH,v=i:=#[v.toNat,∅]
  clear hK K;obtain⟨y,t⟩:∃y,ns[i]?=ba y:=#[_,ON (by show Sy.mp ‹_›)]
  obtain⟨b,T⟩:∃b,bs[i]?=ba b:=#[_,ON ∅]
  have J:=h.r.asc y (Pg _ (O7 t));nofun
  delta wS wE wA wN wV wG OJ;show aH  G.pick (C.ka .push) #v[] #v[] λv I w0 w1 M k5=>?_
  obtain⟨q,rfl⟩:∃q:OH,v=q:=#[v.toNat,∅]
  have l:=k5.get _ _ (Ne.symm (Pa C.lt)) ak;have Y:=k0.trans (E.trans ((Ka.push.kp r).trans k5));clear E k5;have X:q<7:=∅
  have go:∀w,((∃c,w=W.int c)\/cz w=false/\∀S,Thg S w)->K [ba (.ref r),ba R,ba (.tup (n.map W.str)),ba (.tup (OO aw ns bs)),ba (.tup (us.map aM)),ba (.int f),ba (.int i),ba w] I:=λw hw=>by
   show hK _ _ (st ?_);left;show ap  (w:=aw y b) ∅ (by rw[Pi,Qa,t,T]) (ap   #v[] rfl ?_)
   show nB  L.put (by rw[p];omega) ?_
   rw[eG (by rw[p];omega)]
   show s _ _ (k _ _ ?_ M Y);rcases hw with⟨c,rfl⟩|⟨N,P⟩
   ·rw[show(OO aw ns bs).set i (.tup [.str y,.int c])=OO aw ns (bs.set i c)from BY t]
    show E7 h A (by rw[Qz];show e) (QJ _) λy t=>h.r.asc y (Pg _ t)
   ·show NK h ∅ J (P _) N
  match q,X with
  |0,_=>show bR l rfl (go _ (.inl #[_,rfl]))
  |1,_=>show bR l rfl (go _ (.inl #[_,rfl]))
  |2,_=>show bR l rfl (go _ (.inl #[_,rfl]))
  |3,_=>show bR l rfl (go _ (.inl #[_,rfl]))
  |4,_=>show bR l rfl (go _ (.inl #[_,rfl]))
  |5,_=>show bR l rfl (go _ (.inr #[rfl,λ_=>.bl]))
  |6,_=>show bR l rfl (go _ (.inr #[rfl,λ_=>.non]))
 show hK _ _ ?_;clear hK K;nofun
 delta wS wT wE wA wV wG eW aZ wB
 suffices hk:∀S2,Fl S2 r->Kp r S S2->K [ba (.ref r),ba R,ba (.tup (n.map W.str)),ba (.tup (OO aw ns bs)),ba (.tup (us.map aM)),ba (.int f),gV,gV] S2 by
  show#[λ_=>aH  G.pick u #v[] #v[] λv S2 _ _ g k2=>?_,λ_=>ar (Q0:=o) (λz=>by cases z) (λ_ j e _=>cM (e _ _ (hk _ u k0)))]
  show ac eW (ar (Q0:=o) (λz j _ s=>st ?_) (λ_ j e _=>cM (e _ _ (hk _ g (k0.trans k2)))))
  left;show pg (s _ _ (k _ _ (.no ?_ rfl) (g.ka .push) (k0.trans (k2.trans .push))));have ht:=(h.r.thg (S:=S2++[O.lst (us.map aM)])).mem.1;show .tup (fc (ht _ OU) (fc (ht _ (OV _ OU)) (fc (.lst #[_,ak]) fn))) (by change 3<=100;decide)
 show λS2 g k2=>hK _ _ ?_
 clear hK K u k0;nofun
 delta wS wT wE wA wV wG Aw aZ wB;show ar (Q0:=o) (λ_ j _ s=>st ?_) (λ_ j e _=>cM (e _ _ (hK _ _ (st ?_))))
 ·left;show cn _ _ g λw H hw x k3=>s _ _ (k _ _ hw x (k2.trans k3))
 ·left;show B _ _ g λw H hw x k3=>k _ _ hw x (k2.trans k3)
def Fc {f a:OM}(c:Is defs f n nn (Ix a n))(hl:↥ws=n)(h:wO (aY (ae defs fuel d) a n ws S) λp=>∃w,xo p.1=ba w/\Q (w,p.2)):wO (aY (ae defs fuel (d+1)) f n ws S) Q:=by
 show aF c hl rfl λj b=>?_
 show st ?_;left;have tk:((ws.map ba++PN (nn-n) gV).take n).filterMap id=ws:=by
  subst hl;clear c h b
  induction ws with
  |nil=>rfl
  |cons w ws ih=>simp[RD]
 rw[tk];unfold aY at h;rw[OZ hl]at h;cases e:ae _ _ d a ws S with
 |none=>rw[e]at h;show h.elim
 |some p=>
  rw[e]at h;obtain⟨w,g,i⟩:=h;dsimp only;rw[g];show b _ _ i
def JG (b:30<fuel)(hc:cl "NoRule" = ba (C,[("word": OM)]))(L:Lw03 cl defs)(h:Chg m S w):∃x:OM,(∀S',Ka S S'->Cv (ae defs fuel (d+8)) y4 1 [w] S' (.str x))/\∀S',Ka S S'->Cv (ae defs fuel (d+8)) q0 1 [w] S' (.str x):=by
 rcases h with⟨h,rfl⟩|⟨h,e⟩
 ·show#[_,λS' a=>L5 (d:=d+3) L.gen L.due3 L.due h.r,λS' a Q q=>L9 (d:=d) b hc L.word L.look L.parts L.longer L.least h.r q]
 ·show#[_,λS' a=>L4 (d:=d+4) L.due3 L.due (h.ka a) e,λS' a Q q=>JC (d:=d) hc L.word L.look (h.ka a) e q]
def BZ (hfu:50<fuel)(hc:cl "NoRule" = ba (C,[("word": OM)]))(L:Lw03 cl defs){V:Ow O8}:∃S',ae defs fuel (d+9) "law" [.ref 0] [.fro (V.map W.int)]=ba (.bl true,S'):=by
 suffices h:wO (aY (ae defs fuel (d+9)) "law" 1 [.ref 0] [.fro (V.map W.int)]) (λp=>p.1=.bl true) by
  obtain⟨⟨v,S'⟩,e,q⟩:=bd h;cases(q);show#[S',e]
 have G:=L.gen;have j:30<fuel:=∅
 show aF L.law rfl rfl λQ' hR=>?_
 nofun
 left;show Jf  L.flow  rfl λr S1 _ f1=>hK _ _ ?_
 nofun
 left;show ET  j G L.rule f1 λw S2 hw P _=>hK _ _ ?_
 obtain⟨a,bs,H,ns,gs,rfl,U⟩:=hw;have c:=LZ U;generalize fv gs=us at c ⊢;have g:∀S Q,(∀S',Ka S S'->Q (.bl true,S'))->wO (aY (ae defs fuel (d+8)) "look_rule" 1 [eB H ns bs us] S) Q:=λS Q k=>Fc  L.look.look rfl (E2  j L.look L.parts L.longer L.least c _ λS' k'=>#[_,rfl,k S' k'])
 have O:∀S,Chg 0 S (eB H ns bs us):=λS=>by
  have n:=c.rf;have:=c.ml;have:=c.nl;have:=c.size.a3;have:=c.size.n3;have:=c.u;show .ok #[#[n.nl,n.m,n.n,by show OQ ‹_› (OP rfl),n.asc,n.three],∅,∅,c.u] rfl
 clear c;generalize eB H ns bs us=R at g O ⊢;nofun
 left;show gf 6 (λ_ Z S'=>(∃A B f t,Z=[ba (.ref 0),ba (.ref r),ba R,A,B,f,t])/\Fl S' r) (by rfl) (by rfl) #v[] (by show#[rfl,#[_,_,_,_,rfl],P]) ?_ ?_
 ·rintro i Z S3 _ ⟨⟨A,B,f,t,rfl⟩,f3⟩ I hn U;clear hK K P;show st ?_;left;nofun
  left;show lT rfl rfl ?_;left;show aH  G.pick f3 #v[] #v[] λv S4 v0 v1 T _=>ac gN ?_
  show#[1+v,λm Z S'=>(∃w f,Z=[ba (.ref 0),ba (.ref r),ba R,ba (.int i),ba w,f,t]/\Chg m S' w)/\Fl S' r,rfl,∅,#[#[R,f,rfl,O _],T],?_,?_]
  ·rintro m Z S5 hm ⟨⟨w,f,rfl,hw⟩,u⟩ J o _;clear hK;show st ?_;delta wS wT wA OJ;have m2:m<=2:=∅
   rcases hw with⟨h,rfl⟩|⟨h,e⟩
   ·show kJ  L.due3.form h.r.thg _ λM l=>?_
    rw[h.r.form];show ac (rfl) (ar (Q0:=J) (λ_ y b _=>st ?_) (λz=>by cases z))
    left;show xR  G L m2 h (u.ka l) λw S7 hw f7 _=>cM (b _ _ (cM (o _ _ #[#[_,_,rfl,hw],f7])))
   ·show kJ  L.due3.form h _ λM l=>?_
    rw[e];show ac (rfl) (ar (Q0:=J) (λz=>by cases z) (λ_ y b _=>cM (b _ _ (cM (o _ _ #[#[_,_,rfl,.no (h.ka l) e],u.ka l])))))
  ·rintro Z S5 ⟨⟨w,f,rfl,hw⟩,u⟩;show hK _ _ ?_;clear hK K T v0 v1;obtain⟨x,hd,s⟩:=JG (d:=d) j hc L hw;clear hw;have N:∀S Q,(∀S',Ka S S'->Q (.bl true,S'))->wO (aY (ae defs fuel (d+8)) xi 2 [.str x,.str x] S) Q:=λS Q k=>EH L.alike 0 (d+7) _ _ _ trivial k
   nofun
   left;show hd _ .refl _ λM l=>hK _ _ ?_
   clear hK K hd;nofun
   delta wS wT wE wA wV;show s _ l _ λS7 k7=>N _ _ λS8 k8=>ac (rfl) #[λz=>(by cases z),λ_=>?_]
   show g _ _ λS9 k9=>ac (rfl) ?_
   delta wB;show ar (Q0:=I) (λz=>by cases z) (λ_ y b _=>cM (b _ _ (hK _ _ ?_)))
   clear b hK K;have k0:=l.trans (k7.trans (k8.trans k9));show st ?_;delta wS wT wA;show s _ k0 _ λX D=>N _ _ λY E=>ac (rfl) (ar (Q0:=I) (λz=>by cases z) (λ_ y b _=>cM (b _ _ (cM (hn _ _ #[#[_,_,_,_,rfl],u.ka (k0.trans (D.trans E))])))))
 ·rintro Z S3 ⟨⟨A,B,f,t,rfl⟩,_⟩;show hK _ _ (st ?_);left;show hR _ _ rfl
abbrev Ga:Df:=#[["_law_script"],["_law_script","_law_flow_here","_law_rule_here","_law_k","_law_thing","_law_j","_law_due_here"],vJ]
noncomputable abbrev Tw:=OM×OH×Df×OH
noncomputable abbrev tw (i:OH)(b:Ss)(a:OH):Tw:=(nm i,i,#[pO i,nO i,b],a)
abbrev RL:Ow (OM×OF×Ow OM):=[("NoRule",44,["word"])]
abbrev vK:Cl:=λcn=>RL.lookup cn
abbrev NL:Ow (OM×OF):=[("LayError",24),("NoRule",44)]
abbrev B3:Ow OM:=NL.map (·.1)
abbrev RT:Ow (OM×OH):=RL.map λp=>(p.1,↥p.2.2)
abbrev TL:Ow Tw:=[tw 4 fe 53,tw 5 gQ 60,tw 6 jh 65,tw 8 lV 70,tw 9 eE 77,tw 10 vt 84,tw 12 c8 89,tw 13 aQ 94,tw 14 aE 99,tw 23 Bq 114,tw 24 lW 119,tw 25 rC 126,tw 26 lX 131,tw 27 fU 138,tw 28 dL 143,tw 29 nw 148,tw 30 dM 153,tw 31 fw 160,tw 32 dy 165,tw 33 j8 170,tw 35 hZ 177,tw 36 cy 184,tw 37 gO 189,tw 38 lN 196,tw 39 bW 203,tw 40 cJ 210,tw 41 ic 215,tw 42 j3 222,tw 43 c7 227,tw 44 j4 234,tw 45 cK 239,tw 46 d7 244,tw 47 j5 251,tw 48 bH 256,tw 49 l7 261,tw 50 fe 268,tw 51 cD 275,tw 52 l8 280,tw 53 bZ 287,tw 54 jl 292,tw 55 dz 297,tw 56 fW 304,tw 57 a8 311,tw 58 bw 318,tw 59 bp 325,tw 60 fk 332,tw 61 j9 339,tw 62 fj 344,("law",64,Ga,358)]
abbrev TT:Ow Tw:=[tw 63 (cF vK) 351]
abbrev TW:Ow Tw:=[tw 22 (Ix "look_rule!" 1) 107]
abbrev TX:Ow (OM×OM×OH×Df):=[("look_rule","look_rule!",22,#[["thing"],["thing"],ji])]
abbrev TA:Ow Tw:=TL++(TT++TW)
abbrev eJ:Ow (OM×Df):=(TA.map λp=>(p.1,p.2.2.1))++TX.map λp=>(p.2.1,p.2.2.2)
abbrev NM:Ow (OM×OH):=TA.map λp=>(p.1,↥p.2.2.1.ps)
abbrev Ma:Ow (OM×OM×OH):=TX.map λp=>(p.1,p.2.1,↥p.2.2.2.ps)
abbrev Fd:Ow OM:=["range","len","list","tuple","int","set","sorted","isinstance","bool","str","all","min","zip","enumerate","abs","max","ord","ValueError"]
abbrev Fe:Ow (OM×W):=[("LETTERS",.str "abcdefghijklmnopqrstuvwxyz"),("LONGEST_NAME",.int 8),("WORDS",.tup (bN.map W.str)),("MOST_MARKS",.int 3),("MOST_WAYS",.int 3),("MOST_TOGETHER",.int 6)]
abbrev B9:Md:=#[NM,Fd,Fe]
abbrev BD (x:OM)(st:Qj)(df:Df):Prop:=∀(kV doc pm:Oy) (an:Oz OF) (cdv ct:Oy) (us:Ow Oy),↥us=↥df.ps->bindArgs (Q7 x x (bT st) (aS st) (aj st) .none kV doc pm an cdv ct) #[us,[]]=pure (df.ps.zip us)
def NN (us:Ow Oy):(Pj ↥us).map (λi=>us.getD i .none)=us:=Sn (by rw[OC,Qg]) λi b a=>by
 rw[Ub,WK,P5,ON a];rfl
noncomputable abbrev AF (β:Type):Type:=Oy->Oy->Oy->Oz OF->Oy->Oy->(OH->Oy)->β
abbrev BL (x:OM)(st:Qj)(df:Df):AF (Yu (Ow (OM×Oy))):=λkV doc pm an cdv ct t=>bindArgs (Q7 x x (bT st) (aS st) (aj st) .none kV doc pm an cdv ct) #[(Pj ↥df.ps).map t,[]]
abbrev BR (df:Df):AF (Yu (Ow (OM×Oy))):=λ_ _ _ _ _ _ t=>pure (df.ps.zip ((Pj ↥df.ps).map t))
def NO {st:Qj}(h:BL x st df=BR df):BD x st df:=λkV doc pm an cdv ct us a=>by
 have e:BL x st df kV doc pm an cdv ct (λi=>us.getD i .none)=BR df kV doc pm an cdv ct λi=>us.getD i .none:=by rw[h]
 unfold BL BR at e;rw[<- a,NN]at e;show e
def rJ {α β:Type}(f g:α->β)(L:Ow α)(h:L.map f=L.map g){p:α}(a:p∈L):f p=g p:=List.map_inj_left.mp h p a
noncomputable abbrev SK (N ps:Ow OM)(sc:RN):Prop:=N.Nodup/\(∀x∈ps,sc.names.lookup x=ba .local\/sc.names.lookup x=ba .cell)/\∀y∈sc.names,y.2≠.free
def NP {N :Ow OM}(h:(sc.kind,sc.isCoroutine,sc.isGenerator,N.take ↥ps)=(.function,false,false,ps))(k:SK N ps sc):FnScope N ps sc:=#[congrArg (·.1) h,congrArg (·.2.1) h,congrArg (·.2.2.1) h,k.1,congrArg (·.2.2.2) h,k.2.1,k.2.2]
abbrev DG (p:Tw):Prop:=KU B9 (top p.2.1) p.2.2.1/\FnScope p.2.2.1.N p.2.2.1.ps (aj (top p.2.1))/\BD p.1 (top p.2.1) p.2.2.1
def gc {α:Type}{F:α->Prop}{p:α}{L:Ow α}(a:F p)(b:∀q∈L,F q):∀q∈p::L,F q:=Wf.mpr #[a,b]
def gn {α:Type}{F:α->Prop}:∀q∈([]),F q:=λ_ h=>nomatch h
set_option maxHeartbeats 0 in
def Gb:∀p∈TL,DG p:=λp a=>#[rJ (λp:Tw=>fZ (cS 20 (ft B9 (top p.2.1) p.2.2.1.N)) (aS (top p.2.1))) (λp=>ba p.2.2.1.body) TL (by kernel_rfl) a,NP (rJ (λp:Tw=>((aj (top p.2.1)).kind,(aj (top p.2.1)).isCoroutine,(aj (top p.2.1)).isGenerator,p.2.2.1.N.take ↥p.2.2.1.ps)) (λp=>(.function,false,false,p.2.2.1.ps)) TL (by kernel_rfl) a) ((by decide +kernel:∀p∈TL,SK p.2.2.1.N p.2.2.1.ps (aj (top p.2.1))) p a),NO (rJ (λp:Tw=>BL p.1 (top p.2.1) p.2.2.1) (λp=>BR p.2.2.1) TL (by kernel_rfl) a)]
abbrev DT (p:Tw):Prop:=fZ (JT Ma B3 vK (ft B9 (top p.2.1) p.2.2.1.N)) (aS (top p.2.1))=ba p.2.2.1.body/\FnScope p.2.2.1.N p.2.2.1.ps (aj (top p.2.1))/\BD p.1 (top p.2.1) p.2.2.1
def Om {p:Tw}(a:fZ (JT Ma B3 vK (ft B9 (top p.2.1) p.2.2.1.N)) (aS (top p.2.1))=ba p.2.2.1.body)(b:FnScope p.2.2.1.N p.2.2.1.ps (aj (top p.2.1)))(c:BD p.1 (top p.2.1) p.2.2.1):DT p:=#[a,b,c]
set_option maxHeartbeats 0 in
def Gc:∀p∈TT,DT p:=by
 unfold TT
 repeat show gc (Om (by kernel_rfl) (NP (by kernel_rfl) (by decide +kernel)) (NO (by kernel_rfl))) ?_
 show gn
abbrev DW (p:Tw):Prop:=(∃a,Ma.lookup p.1=ba (a,↥p.2.2.1.ps)/\p.2.2.1.body=Ix a ↥p.2.2.1.ps)/\BD p.1 (top p.2.1) p.2.2.1
def On {p:Tw}(d:OM)(a:Ma.lookup p.1=ba (d,↥p.2.2.1.ps))(b:p.2.2.1.body=Ix d ↥p.2.2.1.ps)(c:BD p.1 (top p.2.1) p.2.2.1):DW p:=#[#[d,a,b],c]
def Gd:∀p∈TW,DW p:=by
 unfold TW;show gc (On "look_rule!" (by kernel_rfl) (by rfl) (NO (by kernel_rfl))) ?_
 show gn
abbrev DX (p:OM×OM×OH×Df):Prop:=fZ (cX RT 20 (ft B9 (top p.2.2.1) p.2.2.2.N)) (aS (top p.2.2.1))=ba p.2.2.2.body/\FnScope p.2.2.2.N p.2.2.2.ps (aj (top p.2.2.1))/\eJ.lookup p.2.1=ba p.2.2.2/\∃q∈TA,q.1=p.1/\q.2.1=p.2.2.1/\q.2.2.1.ps=p.2.2.2.ps
def Oo {p:OM×OM×OH×Df}(a:fZ (cX RT 20 (ft B9 (top p.2.2.1) p.2.2.2.N)) (aS (top p.2.2.1))=ba p.2.2.2.body)(b:FnScope p.2.2.2.N p.2.2.2.ps (aj (top p.2.2.1)))(c:eJ.lookup p.2.1=ba p.2.2.2)(d:∃q∈TA,q.1=p.1/\q.2.1=p.2.2.1/\q.2.2.1.ps=p.2.2.2.ps):DX p:=#[a,b,c,d]
def NQ (h:q∈TW):q∈TA:=Pg _ (Pg _ h)
set_option maxHeartbeats 0 in
def Ge:∀p∈TX,DX p:=by
 unfold TX;show gc (Oo (by kernel_rfl) (NP (by kernel_rfl) (by decide +kernel)) (by kernel_rfl) #[_,NQ (.head _),rfl,rfl,rfl]) ?_
 show gn
def Mb {f:OM}(h:((eJ.lookup f).map λd=>(↥d.ps,↥d.N,d.body))=ba (m,n,b)):Is eJ f m n b:=by
 rw[OG]at h;obtain⟨d,c,a⟩:=h;rw[YM,YM]at a;show#[d,c,a.1,a.2.1,a.2.2]
set_option maxHeartbeats 0 in
def Mc:Lw03 vK eJ:=by
 repeat' first
  |show Mb (by kernel_rfl)
  |constructor
def ma:∀(L:Ow Tw) x n,(L.map λp=>(p.1,↥p.2.2.1.ps)).lookup x=ba n->∃p∈L,p.1=x/\↥p.2.2.1.ps=n/\(L.map λp=>(p.1,p.2.2.1)).lookup x=ba p.2.2.1
 |[],x,n,h=>by cases h
 |p::L,x,n,h=>by
  rw[PK,PY]at h;rw[PK,PY];cases e:x==p.1 with
  |true=>
   rw[e]at h;cases h;show#[p,OU ..,(eq_of_beq e).symm,rfl,rfl]
  |false=>
   rw[e]at h;obtain⟨q,a,b,c,d⟩:=ma L x n h;show#[q,OV _ a,b,c,d]
section
variable{w:Pk}{base:Pr}
abbrev B4 (K:OI)(mg:OM->Oz Oy)(x:OM)(st:Qj)(df:Df):Prop:=∃(f:OF) (fd:Qp),Fun K x x st f fd/\mg x=ba (.ref f)/\Qh K (.ref f)=true/\Binds K fd df.ps []
def JH {st:Qj}{kV    :Oy}(X:K.In h)(G:h.Ns mainGlobals mg)
  (b:BD x st df)
  (a:Q8 K mainGlobals x=ba (ba (.ref f))) (l:K.lookup f=ba #[oc,od,.func (Q7 x x (bT st) (aS st) (aj st) .none kV doc pm an cdv ct),osl]) (c:Sk K cdv x=true) (k:Qh K (.ref f)=true):B4 K mg x st df:=
 have F:=r8 (st:=st) l c k
 #[f,_,F,Tv X G a,k,F.binds b]
def pB:∀(L:Ow (OM×OM×OH×Df)) x y n,(L.map λp=>(p.1,p.2.1,↥p.2.2.2.ps)).lookup x=ba (y,n)->∃p∈L,p.1=x/\p.2.1=y/\↥p.2.2.2.ps=n
 |[],x,y,n,h=>by cases h
 |p::L,x,y,n,h=>by
  rw[PK,PY]at h;cases e:x==p.1 with
  |true=>
   rw[e]at h;cases h;show#[p,OU ..,(eq_of_beq e).symm,rfl,rfl]
  |false=>
   rw[e]at h;obtain⟨q,a,b⟩:=pB L x y n h;show#[q,OV _ a,b]
def pD (h:(TA.map λp=>(p.1,p.2.2.1)).lookup x=ba df):eJ.lookup x=ba df:=by
 unfold eJ;rw[List.lookup_append,h];rfl
def B5 (r:MdOk w K mg B9)(D:∀p∈TA,B4 K mg p.1 (top p.2.1) p.2.2.1)(j:XCls K mg base B3 vK)(x:∀c k,RT.lookup c=ba k->CK P w K mg base vK c k):∀d,uX P w K mg base B9 eJ fuel d/\LC P w K mg base Ma vK eJ fuel d
 |0=>by
  show#[λf n h=>?_,λf l n h=>?_]
  ·obtain⟨p,a,rfl,g,o⟩:=ma TA f n h;obtain⟨fa,fd,F,m,kp,b⟩:=D p a;show#[fa,fd,p.2.2.1.ps,#[λvs H Q E z=>?_,λA outer s H args us vs Q E J I u L z=>?_],m,kp,b]
   all_goals
    obtain⟨_,_,_,_,_,_,_,_,z,_⟩:=z;cases z
  ·obtain⟨p,a,rfl,rfl,g⟩:=pB TX f l n h;obtain⟨_,_,_,q,v,t,y,B⟩:=Ge p a;obtain⟨fa,fd,F,m,kp,b⟩:=D q v;rw[t]at m;show#[fa,fd,q.2.2.1.ps,#[λvs H Q E z=>?_,λA outer s H args us vs Q E J I u L z=>?_],m,kp,b]
   all_goals
    rcases z with⟨_,_,_,_,_,_,_,_,z,_⟩|⟨_,_,_,_,_,_,_,_,_,_,_,z,_⟩
    ·cases z
    ·cases z
 |d+1=>by
  obtain⟨ih,C⟩:=B5 r D j x d;show#[λf n h=>?_,λf l n h=>?_]
  ·obtain⟨p,a,rfl,g,o⟩:=ma TA f n h;rcases Px.mp a with q|q
   ·obtain⟨i,e,_⟩:=Gb p q;obtain⟨fa,fd,F,m,kp,b⟩:=D p a;show#[fa,fd,p.2.2.1.ps,?_,m,kp,b];rw[<- g];show FK F e (pD o) i r ih
   ·rcases Px.mp q with q|q
    ·obtain⟨i,e,_⟩:=Gc p q;obtain⟨fa,fd,F,m,kp,b⟩:=D p a;show#[fa,fd,p.2.2.1.ps,?_,m,kp,b];rw[<- g];show IM F e (pD o) i r ih C j
    ·obtain⟨⟨l,i,e⟩,_⟩:=Gd p q;obtain⟨fa,fd,ps,F,m,kp,b⟩:=C p.1 l _ i;rw[g]at F e;show#[fa,fd,ps,Iy F (pD o) g e (QJ _),m,kp,b]
  ·obtain⟨p,a,rfl,rfl,g⟩:=pB TX f l n h;obtain⟨i,e,G,q,v,t,y,B⟩:=Ge p a;obtain⟨fa,fd,F,m,kp,b⟩:=D q v;rw[t]at m;rw[y]at F;rw[B]at b;show#[fa,fd,p.2.2.2.ps,?_,m,kp,b];rw[<- g];show Iw F e G i r ih x
abbrev CE (K:OI)(p:OM×W):Prop:=∃v u,Q8 K mainGlobals p.1=ba (ba u)/\RelV v u/\∀A H,Rel K A H p.2 v
def B6 {w:W}:∀{l:Ow (OM×W)},l.lookup x=ba w->(x,w)∈l
 |[],h=>nomatch h
 |(y,v)::l,h=>by
  rw[PY]at h;split at h
  next e=>cases h;have:=eq_of_beq e;subst this;show OU
  ·show OV _ (B6 h)
def Ff (h:L2.Cg u=ba (V.str z)):RelV (.str z) u:=by
 cases u with
 |str x t=>cases h;show#[_,rfl]
 |_=>cases h
def rK:∀{us:Ow Oy}{a:Ow OM},us.map L2.Cg=a.map (λz=>ba (V.str z))->Vals (a.map V.str) us
 |[],[],_=>.nil
 |[],_::_,h=>by cases h
 |_::_,[],h=>by cases h
 |u::us,z::a,h=>by
  rw[PK,PK]at h;injection h with h1 h2
  show .cons (Ff h1) (rK h2)
def B7 {A:Ow OF}:∀a:Ow OM,RelL K A H (a.map W.str) (a.map V.str)
 |[]=>.nil
 |_::a=>.cons .str (B7 a)
def Mf {b:Ow OM}(e:Q8 K mainGlobals x=ba (ba (.ref a)))(l:K.lookup a=ba #[.type "tuple",gV,.seq its n,#[]])(d:⇑its<=1000)(c:its.toList.map L2.Cg=b.map (λz=>ba (V.str z))):CE K (x,.tup (b.map W.str)):=
 #[.ref a,.ref a,e,rfl,λA H=>.tup (.inr #[_,its,n,l,rfl,rfl,rfl,OQ d (iX rfl),rK c]) (B7 b)]
def Mg {t:OH}(e:Q8 K mainGlobals x=ba (ba (.str z t))):CE K (x,.str z):=#[.str z,_,e,#[_,rfl],λ_ _=>.str]
def vL {t:OH}(e:Q8 K mainGlobals x=ba (ba (.int z t))):CE K (x,.int z):=#[.int z,_,e,#[_,rfl],λ_ _=>.int]
def Mh (X:K.In h)(G:h.Ns mainGlobals mg)(z:∀y∈Fd,Q8 K mainGlobals y=ba gV)(c:∀p∈Fe,CE K p):MdOk w K mg B9:=#[λy f=>PySem.W.mg_none_of X G (z y f),λa i b d x v h=>by
 subst b d;obtain⟨g,u,e,r,q⟩:=c _ (B6 h);show#[g,u,Tv X G e,r,q]]
end
def JI {l:VJ}{fa :OF}(X:K.In h)(G:h.Ns mainGlobals mg)(d:mg "law" = ba (.ref fa))(g:MdOk w K mg B9)(D:∀p∈TA,B4 K mg p.1 (top p.2.1) p.2.2.1)(b:∀base:Pr,K.In base->XCls K mg base B3 vK)(i:∀ base c k,RT.lookup c=ba k->CK l.prog w K mg base vK c k)
  {kV    :Oy} (a:Q8 K mainGlobals "law" = ba (ba (.ref f))) (m:K.lookup f=ba #[oc,od,.func (Q7 "law" "law" (bT (top 64)) (aS (top 64)) (aj (top 64)) .none kV doc pm an cdv ct),osl]) (c:Sk K cdv "law" = true) (k:Qh K (.ref f)=true) :
  ∃fd:Qp,(∀ s v,WS s fd #[[v],[]] [("_law_script",v)])/\∀base:Pr,K.In base->base.Ns mainGlobals mg->FnOk l.prog w K mg base mF 11 fa fd ["_law_script"] (spF w K 1 (ae eJ 100 9 "law")):=by
 have e:=d.symm.trans (Tv X G a);cases e;have F:=r8 (st:=top 64) m c k;show#[Q7 "law" "law" (bT (top 64)) (aS (top 64)) (aj (top 64)) .none kV doc pm an cdv ct,λs v=>.of_eq rfl,λbase j _=>FK (df:=Ga) F #[rfl,rfl,rfl,by decide +kernel,rfl,by decide +kernel,by decide +kernel] (by rfl) (by rfl) g (B5 g D (b base j) (i base) 8).1]
def NR {l:VJ}{d:DefRec}{K:T8->OI}(i:l.most=ba 63)(b:d.params.defaults=[])
  (g:∀ w h,YP w h->(K w.params).In h)
  (F:∀ w mg fa h,(K w.params).In h->h.Ns mainGlobals mg->mg d.name=ba (.ref fa)->
   ∃fd:Qp,(∀ s u,WS s fd #[[u],[]] [("_law_script",u)])/\∀base:Pr,(K w.params).In base->base.Ns mainGlobals mg->FnOk l.prog w (K w.params) mg base mF 11 fa fd ["_law_script"] (spF w (K w.params) 1 (ae eJ 100 9 "law"))) :
  YA q loose XP YP l.row.toRowW d [] (λf vs=>Yi f vs):=
 L2.CF (n:=63) (k:=11) (x:="_law_script") (CX:=λ_=>mF) (sp:=λw=>spF w (K w.params) 1 (ae eJ 100 9 "law")) i #v[] b #[rfl,#v[],#v[]] g F
  (λw H a ns hl c e=>HY (BZ (defs:=eJ) (fuel:=100) (d:=0) #v[] (cl:=vK) (C:=44) rfl Mc) c e) λ_ _ _ _ _ z=>z
end Mi
open PySem PySem.W PyProof.Rows L2
namespace Mi
section
abbrev EL (K:OI)(p:Tw):Prop:=Q8 K mainGlobals p.1=ba (ba (.ref p.2.2.2))/\K.lookup p.2.2.2=ba (kf p.2.2.2 (top p.2.1) p.1 (M3 p.2.1) (.ref (p.2.2.2-1))).2/\Sk K (.ref (p.2.2.2-1)) p.1=true/\Qh K (.ref p.2.2.2)=true
set_option maxHeartbeats 0 in
def Mj (P:T8):∀p∈TA,EL (K0 P) p:=λp a=>#[rJ (λp:Tw=>Q8 (K0 P) mainGlobals p.1) (λp=>ba (ba (.ref p.2.2.2))) TA (by kernel_rfl) a,rJ (λp:Tw=>(K0 P).lookup p.2.2.2) (λp=>ba (kf p.2.2.2 (top p.2.1) p.1 (M3 p.2.1) (.ref (p.2.2.2-1))).2) TA (by kernel_rfl) a,rJ (λp:Tw=>Sk (K0 P) (.ref (p.2.2.2-1)) p.1) (λ_=>true) TA (by kernel_rfl) a,rJ (λp:Tw=>Qh (K0 P) (.ref p.2.2.2)) (λ_=>true) TA (by kernel_rfl) a]
def Mk (P:T8):∀y∈Fd,Q8 (K0 P) mainGlobals y=ba gV:=λ_ a=>rJ (λy:OM=>Q8 (K0 P) mainGlobals y) (λ_=>ba gV) Fd (by kernel_rfl) a
def Ml (P:T8):∀p∈Fe,CE (K0 P) p:=by
 unfold Fe;show gc (Mg (t:=303) (by kernel_rfl)) ?_
 show gc (vL (t:=305) (by kernel_rfl)) ?_
 show gc (Mf (a:=100) (its:=Fn.toArray) (n:=0) (by kernel_rfl) (by kernel_rfl) (OP rfl) rfl) ?_
 show gc (vL (t:=317) (by kernel_rfl)) ?_
 show gc (vL (t:=319) (by kernel_rfl)) ?_
 show gc (vL (t:=321) (by kernel_rfl)) ?_
 show gn
def Op:∀p∈TA,BD p.1 (top p.2.1) p.2.2.1:=λp a=>(Px.mp a).elim (λq=>(Gb p q).2.2) λq=>(Px.mp q).elim (λq=>(Gc p q).2.2) λq=>(Gd p q).2
def Oq (P:T8):Xc.XL (K0 P) 24 (.type "type"):=#[by kernel_rfl,by kernel_rfl,by kernel_rfl]
def ii (P:T8):XE (K0 P) 44 43 41 "NoRule" [(.ref 24)] [(.ref 24),(.type "ValueError"),(.type "Exception"),(.type "BaseException"),(.type "object")] [] 28 207 215 ["word"]:=
 #[by kernel_rfl,by kernel_rfl,by kernel_rfl,by kernel_rfl,by kernel_rfl,by kernel_rfl,by kernel_rfl,by kernel_rfl,by kernel_rfl,by kernel_rfl,by kernel_rfl,by kernel_rfl,by kernel_rfl,by kernel_rfl,by kernel_rfl]
abbrev N8 (K:OI)(q:OM×OF):Prop:=Q8 K mainGlobals q.1=ba (ba (.ref q.2))/\DK K q.2/\∀p∈RL,WA K (.ref p.2.1) (.ref q.2)=ba (kt p.1 q.1)/\(!(Ps p.2.1==Ps q.2)||kt p.1 q.1)=true
def Os {K:OI}(a:Q8 K mainGlobals q.1=ba (ba (.ref q.2)))(b:DK K q.2)(c:∀p∈RL,WA K (.ref p.2.1) (.ref q.2)=ba (kt p.1 q.1)/\(!(Ps p.2.1==Ps q.2)||kt p.1 q.1)=true):N8 K q:=#[a,b,c]
def Ot (P:T8):∀q∈NL,N8 (K0 P) q:=by
 unfold NL
 repeat show gc (Os (by kernel_rfl) #[by kernel_rfl,by kernel_rfl,by kernel_rfl,by kernel_rfl] (gc #[by kernel_rfl,by kernel_rfl] gn)) ?_
 show gn
def Ou {w:Pk}(c:(K0 w.params).In h)(G:h.Ns mainGlobals mg)(base:Pr)(k:(K0 w.params).In base):XCls (K0 w.params) mg base B3 vK:=by
 have a:∀p∈RL,(∃d,Xc.XK (K0 w.params) p.2.1 d)/\base.get? p.2.1≠gV/\Xc.XT (K0 w.params) p.2.1 (.type "ValueError") true/\∀g∈p.2.2,Sr (K0 w.params) (.ref p.2.1) g=ba gV:=(gc ((ii w.params).all k) gn);show#[λcn C f hc=>a _ (iW hc),λD i=>?_]
 obtain⟨q,j,rfl⟩:=O0.mp i;obtain⟨e,b,x⟩:=Ot w.params q j;show#[q.2,Tv c G e,b.xd,λcn C f hc=>let ⟨x1,x2⟩:=x _ (iW hc);b.xt x1 x2]
def tU (a:(K0 w.params).In h)(G:h.Ns mainGlobals mg)(base:Pr):CK P w (K0 w.params) mg base vK "NoRule" 1:=by
 have F:=(r8 (st:=M4 2) (oc:=.type "function") (od:=gV) (an:=gV) (osl:=#[]) (kV:=.none) (doc:=.none) (pm:=(.str "layworld.errors" 187)) (cdv:=(.ref 40)) (ct:=.none) (by kernel_rfl) (by kernel_rfl) (by kernel_rfl):Fun (K0 w.params) "__init__" "NoRule.__init__" (M4 2) 41 _)
 have b:mg "LayError" = ba (.ref 24):=Tv a G (by kernel_rfl)
 obtain⟨c,m⟩:=(ii w.params).xm;show .one m ((ii w.params).fd _ OU) (IN (k:=0) F #[rfl,rfl,rfl,by decide +kernel,rfl,by decide +kernel,by decide +kernel] #[_,_,_,_,_,_,_,_,_,_,rfl,rfl] rfl rfl rfl b (Oq _) #v[] #v[] #v[] #v[] #v[]) (Tv a G (by kernel_rfl)) (F.binds λ_ _ _ _ _ _ us h=>match us,h with|[_,_],_=>rfl) rfl
def Ov (b:(K0 w.params).In h)(G:h.Ns mainGlobals mg)(base:Pr):∀c k,RT.lookup c=ba k->CK P w (K0 w.params) mg base vK c k:=λc k h=>
 have a:∀p∈RT,CK P w (K0 w.params) mg base vK p.1 p.2:=(gc (tU b G base) gn)
 a _ (iW h)
end
end Mi
end
end ZZ.Lean
open ZZ.Lean
theorem PySem.Challenge.cw_layworld_k03_the_first_word_of_several_holds : PySem.Challenge.rw_layworld_k03_the_first_word_of_several.Holds := by
 w_on
 show PySem.W.holds_law (PV (PV (PV (PV (PV (PV (PV (PV (PV (PV (PV (PV (PV (PV (PV (PV (PV (PV (Mi.s0) (by kernel_rfl)) (by kernel_rfl)) (by kernel_rfl)) (by kernel_rfl)) (by kernel_rfl)) (by kernel_rfl)) (by kernel_rfl)) (by kernel_rfl)) (by kernel_rfl)) (by kernel_rfl)) (by kernel_rfl)) (by kernel_rfl)) (by kernel_rfl)) (by kernel_rfl)) (by kernel_rfl)) (by kernel_rfl)) (by kernel_rfl)) (by kernel_rfl)) (λsaid=>?_)
 show PySem.W.holds_open (q:=Mi.vq) (loose:=Mi.lo) (Xt:=λs=>YU Mi.vq [] s&&YB [] s) (XP:=PySem.W.XL Mi.vq []) (Yf:=Mi.hk.obs) (Ya:=Mi.hk.val) (YP:=Mi.hk.says) (N:=4186) Mi.hl Mi.hk.of Mi.hk.keeps (λs e=>PySem.W.xl_of s (Wg.mp e).1) ZT (by rfl) (by rfl) (by rfl) (λs e=>PySem.W.recFacts_of (Wg.mp e).2) (by rfl) said (by decide +kernel) #[rfl,rfl,rfl,rfl,rfl,by decide +kernel] ?hw ?hc
 case hw=>w_witness2
 case hc=>
 show Mi.NR (l:=Uh) (K:=Mi.K0) rfl rfl (λw h Yqk=>PySem.W.kIn_of Yqk) ?F
 case F=>
  intro w mg fa h KX G hmg;show Mi.JI KX G hmg (Mi.Mh KX G (Mi.Mk w.params) (Mi.Ml w.params)) (λp hp=>let ⟨e,l,c,k⟩:=Mi.Mj w.params p hp;Mi.JH KX G (Mi.Op p hp) e l c k) (Mi.Ou KX G) (Mi.Ov KX G)
   (f:=358) (oc:=.type "function") (od:=gV) (an:=gV) (osl:=#[]) (kV:=.none) (doc:=.none) (pm:=(.str "law_layworld_k03_the_first_word_of_several" 405)) (cdv:=.ref 357) (ct:=.none) (by kernel_rfl) (by kernel_rfl) (by kernel_rfl) (by kernel_rfl)
